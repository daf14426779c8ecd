import PyProof.Rows.All
import Wide.All
import OpenK.AllK
import Wide.FinOn
import Lean
import PyProof.EqAt
import PyProof.EqKinds
import PyProof.TupleCall
import PyProof.NeKinds
import PyProof.FactsAll.tuple_2
import PyProof.FactsAll.str_0
import PyProof.FactsAll.str_1
import PyProof.FactsAll.str_2
import PyProof.FactsAll.str_3
import PyProof.Rows.MinMaxN
import PyProof.Rows.SumAny
import PyProof.Rows.SetFrom
import PyProof.ReprRoads
import PyProof.Rows.StrKeys3
import PyProof.CallFns
import KE.KSortTup
import KE.KDictSum
import PySem.Challenge.RW_treewithin_k13_grounds_with_dates

set_option Elab.async false
set_option linter.all false
set_option maxRecDepth 100000
namespace L2
open PySem PySem.Spec PyProof.Rows
abbrev Key:=Sum Int Str
def keyIs:Key→Value→Bool
 | .inl k,v=>Value.isInt k v
 | .inr x,v=>Value.isStrOf x v
def keyH (w:World):Key→Int
 | .inl k=>hashInt k
 | .inr x=>hashStr w x
theorem keyIs_shape:∀{k:Key}{v:Value},keyIs k v=true→(∃i t,k=Sum.inl i∧v=Value.int i t)∨(∃x t,k=Sum.inr x∧v=Value.str x t)
 | .inl i,v,h=>by
  obtain⟨t,e⟩:=Value.isInt_shape (k:=i) (v:=v) h
  exact .inl ⟨i,t,rfl,e⟩
 | .inr x,v,h=>by
  obtain⟨t,e⟩:=Value.isStrOf_shape (x:=x) (v:=v) h
  exact .inr ⟨x,t,rfl,e⟩
theorem keyIs_int (i:Int) (t:Tok):keyIs (.inl i) (.int i t)=true:=by simp [keyIs,Value.isInt]
theorem keyIs_str (x:Str) (t:Tok):keyIs (.inr x) (.str x t)=true:=by simp [keyIs,Value.isStrOf]
theorem key_ll (a b:Int):decide ((Sum.inl a:Key)=Sum.inl b)=(a==b):=by
 by_cases e:a=b
 ·subst e;simp
 ·have h:¬(Sum.inl a:Key)=Sum.inl b:=fun q=>e (Sum.inl.inj q)
  rw [decide_eq_false h]
  exact (beq_eq_false_iff_ne.mpr e).symm
theorem key_rr (a b:Str):decide ((Sum.inr a:Key)=Sum.inr b)=decide (a=b):=by
 by_cases e:a=b
 ·subst e;simp
 ·have h:¬(Sum.inr a:Key)=Sum.inr b:=fun q=>e (Sum.inr.inj q)
  rw [decide_eq_false h,decide_eq_false e]
theorem key_lr (a:Int) (b:Str):decide ((Sum.inl a:Key)=Sum.inr b)=false:=decide_eq_false (fun q=>nomatch q)
theorem key_rl (a:Str) (b:Int):decide ((Sum.inr a:Key)=Sum.inl b)=false:=decide_eq_false (fun q=>nomatch q)
def mixKind (prog:Program) (w:World):PySem.KeyKind prog w Key where
 is:=keyIs
 hash:=keyH w
 inj:=fun v a b ha hb=>by
  rcases keyIs_shape ha with⟨i,t,rfl,rfl⟩ | ⟨x,t,rfl,rfl⟩
  ·rcases keyIs_shape hb with⟨j,u,rfl,e⟩ | ⟨y,u,rfl,e⟩
   ·injection e with e1 _;rw [e1]
   ·exact nomatch e
  ·rcases keyIs_shape hb with⟨j,u,rfl,e⟩ | ⟨y,u,rfl,e⟩
   ·exact nomatch e
   ·injection e with e1 _;rw [e1]
 byValue:=fun k v h=>by
  rcases keyIs_shape h with⟨i,t,rfl,rfl⟩ | ⟨x,t,rfl,rfl⟩ <;> rfl
 pyHash:=fun hv h=>by
  rcases keyIs_shape hv with⟨i,t,rfl,rfl⟩ | ⟨x,t,rfl,rfl⟩
  ·exact wpAny_pyHash_int h
  ·exact wpAny_pyHash_str h
 eqBool:=fun hu hv h=>by
  rcases keyIs_shape hu with⟨i,t,rfl,rfl⟩ | ⟨x,t,rfl,rfl⟩
  ·rcases keyIs_shape hv with⟨j,u,rfl,rfl⟩ | ⟨y,u,rfl,rfl⟩
   ·rw [key_ll] at h;exact wpAny_eqBool_int h
   ·rw [key_lr] at h;exact SeqAt.EqAt.int_str i t y u _ _ _ _ h
  ·rcases keyIs_shape hv with⟨j,u,rfl,rfl⟩ | ⟨y,u,rfl,rfl⟩
   ·rw [key_rl] at h;exact SeqAt.EqAt.str_int x t j u _ _ _ _ h
   ·rw [key_rr] at h;exact wpAny_eqBool_str h
 «strs»:=fun k x t v h=>by
  rcases keyIs_shape h with⟨i,u,rfl,e⟩ | ⟨y,u,rfl,e⟩
  ·exact nomatch e
  ·injection e with e1 _
   subst e1
   cases v <;> rfl
theorem mixKind_int (prog:Program) (w:World) (i:Int) (t:Tok):(mixKind prog w).is (.inl i) (.int i t)=true:=keyIs_int i t
theorem mixKind_str (prog:Program) (w:World) (x:Str) (t:Tok):(mixKind prog w).is (.inr x) (.str x t)=true:=keyIs_str x t
end L2
namespace L2
open PySem PySem.Spec PyProof.Rows
inductive V where
 | non | bl (b:Bool) | int (i:Int) | str (x:Str) | byt (b:Array UInt8) | flt (b:UInt64) | ref (a:Addr) | ty (n:String)
 deriving DecidableEq
def RelV:V→Value→Prop
 | .non,u=>u=Value.none
 | .bl b,u=>u=Value.bool b
 | .int i,u=>∃t,u=Value.int i t
 | .str x,u=>∃t,u=Value.str x t
 | .byt b,u=>∃t,u=Value.bytes b t
 | .flt b,u=>∃t,u=Value.float b t
 | .ref a,u=>u=Value.ref a
 | .ty n,u=>u=Value.type n
abbrev Vals:List V→List Value→Prop:=Paired RelV
theorem Vals.length {xs:List V}{us:List Value} (r:Vals xs us):xs.length=us.length:=Paired.length r
theorem Vals.get:∀{xs:List V}{us:List Value}{i:Nat}{x:V},Vals xs us→xs[i]?=some x→∃u,us[i]?=some u∧RelV x u
 | _,_,_,_,.nil,e=>by simp at e
 | _,_,0,_,.cons r _,e=>by simp at e;subst e;exact⟨_,rfl,r⟩
 | _,_,i+1,x,.cons _ t,e=>by
  obtain⟨u,h1,h2⟩:=Vals.get (i:=i) (x:=x) t (by simpa using e)
  exact⟨u,by simpa using h1,h2⟩
theorem Vals.set {x:V}{u:Value} (r:RelV x u):∀{xs:List V}{us:List Value} (i:Nat),Vals xs us→Vals (xs.set i x) (us.set i u)
 | _,_,_,.nil=>.nil
 | _,_,0,.cons _ t=>.cons r t
 | _,_,i+1,.cons q t=>.cons q (Vals.set r i t)
theorem Vals.append:∀{xs ys:List V}{us ws:List Value},Vals xs us→Vals ys ws→Vals (xs++ys) (us++ws)
 | _,_,_,_,.nil,s=>s
 | _,_,_,_,.cons r t,s=>.cons r (Vals.append t s)
theorem Vals.take:∀{xs:List V}{us:List Value} (n:Nat),Vals xs us→Vals (xs.take n) (us.take n)
 | _,_,0,_=>.nil
 | _,_,_+1,.nil=>.nil
 | _,_,n+1,.cons r t=>.cons r (Vals.take n t)
theorem Vals.drop:∀{xs:List V}{us:List Value} (n:Nat),Vals xs us→Vals (xs.drop n) (us.drop n)
 | _,_,0,r=>r
 | _,_,_+1,.nil=>.nil
 | _,_,n+1,.cons _ t=>Vals.drop n t
def RelO:Option V→Option Value→Prop
 | some v,some u=>RelV v u
 | none,none=>True
 | _,_=>False
def KV {κ:Type}:List (κ×V)→List (κ×Value)→Prop:=Paired fun (p:κ×V) (q:κ×Value)=>p.1=q.1∧RelV p.2 q.2
def kV:Key→V
 | .inl i=>.int i
 | .inr x=>.str x
inductive HO where
 | lst (xs:List V)
 | tup (xs:List V)
 | dK (kvs:List (Key×V)) | dT (kvs:List (List Key×V))
 | set (S:Int→Bool) (n:Nat)
 | ins (C dx:Addr) (fs:List (Str×V))
 | own (x:Addr)
 | xd (fs:List (Str×V))
 | met (f x:Addr)
 | rng (lo hi:Int)
 | frz (o:Obj) (u:HO)
 | tbl (ps:Array Value)
 | ext (φ:Heap→Prop)
abbrev Hp:=Addr→Option HO
def upd (H:Hp) (a:Addr) (o:HO):Hp:=fun b=>if b=a then some o else H b
theorem upd_same {H:Hp}{a:Addr}{o:HO}:upd H a o a=some o:=by unfold upd;rw [if_pos rfl]
theorem upd_ne {H:Hp}{a b:Addr}{o:HO} (h:b≠a):upd H a o b=H b:=by unfold upd;rw [if_neg h]
theorem ne_of {H:Hp}{a b:Addr}{o u:HO} (h:H a=some o) (h':H b=some u) (d:o≠u):a≠b:=by
 intro e;subst e;rw [h] at h';exact d (Option.some.inj h')
theorem ne_of_none {H:Hp}{a b:Addr}{o:HO} (h:H a=some o) (h':H b=none):a≠b:=by
 intro e;subst e;rw [h] at h';cases h'
section
variable (P:Program) (w:World)
def ObjOk (H:Hp) (h:Heap) (a:Addr):HO→Prop
 | .lst xs=>xs.length≤sizeLine∧∃(its:List Value) (n:Nat),Vals xs its∧h.get? a=some {cls:=.type "list",data:=.seq its.toArray n}
 | .tup xs=>xs.length≤sizeLine∧∃its:List Value,Vals xs its∧IsTup h a its.toArray
 | .dK kvs=>kvs.length≤sizeLine∧(a==sysModules)=false∧∃vs,KV kvs vs∧h.DictOf (mixKind P w) a vs
 | .dT kvs=>kvs.length≤sizeLine∧(a==sysModules)=false∧∃xs:List (List Key×Addr×Value),
   Paired (fun (p:List Key×V) (q:List Key×Addr×Value)=>p.1=q.1∧H q.2.1=some (.tup (p.1.map kV))∧RelV p.2 q.2.2) kvs xs∧
   ∃o es ep,h.get? a=some o∧o.ExactDict∧o.data=.dict es ep∧es.toList=xs.map (entryOfKey (tupleKind (mixKind P w)))∧(xs.map (·.1)).Nodup
 | .set S n=>h.SetOf (intKind P w) a S n
 | .ins C dx fs=>H dx=some (.own a)∧fs.length≤1000∧dx≠a∧h.get? a=some (PySem.W.instObj C dx)∧
   ∃mA,h.Ns1 dx mA∧(∀f,RelO (fs.lookup f) (mA f))∧PySem.Within mA (fs.map (·.1))
 | .own _=>∃o,h.get? a=some o
 | .xd fs=>∃mA,h.Ns1 a mA∧∀f,RelO (fs.lookup f) (mA f)
 | .rng lo hi=>∃t u v,h.get? a=some {cls:=.type "range",data:=.fields #[.int lo t,.int hi u,.int 1 v]}
 | .frz o u=>h.get? a=some o∧ObjOk H h a u
 | .tbl ps=>h.get? a=some {cls:=.none,data:=.fields ps}
 | .met f x=>h.get? a=some (PySem.W.methodObj (.ref f) (.ref x))
 | .ext φ=>φ h∧(∃o,h.get? a=some o)∧∀h1 h2:Heap,φ h1→(∀o,h1.get? a=some o→h2.get? a=some o)→φ h2
def HOk (H:Hp) (h:Heap):Prop:=∀a o,H a=some o→ObjOk P w H h a o
end
section
variable {P:Program}{w:World}{H H':Hp}{h h':Heap}{a:Addr}{o:HO}
theorem ObjOk.lt (x:ObjOk P w H h a o):a < h.objs.size:=by
 cases o with
 | lst xs=>obtain⟨_,_,_,_,e⟩:=x;exact Heap.lt_size e
 | tup xs=>obtain⟨_,_,_,p⟩:=x;exact p.lt
 | dK kvs=>obtain⟨_,_,_,_,o,_,_,e,_⟩:=x;exact Heap.lt_size e
 | dT kvs=>obtain⟨_,_,_,_,o,_,_,e,_⟩:=x;exact Heap.lt_size e
 | set S n=>obtain⟨o,_,_,_,e,_⟩:=x;exact Heap.lt_size e
 | ins C dx fs=>obtain⟨_,_,_,e,_⟩:=x;exact Heap.lt_size e
 | own y=>obtain⟨_,e⟩:=x;exact Heap.lt_size e
 | xd fs=>obtain⟨_,⟨_,_,_,e,_⟩,_⟩:=x;exact Heap.lt_size e
 | rng lo hi=>obtain⟨_,_,_,e⟩:=x;exact Heap.lt_size e
 | frz ob u=>obtain⟨e,_⟩:=x;exact Heap.lt_size e
 | tbl ps=>exact Heap.lt_size (show h.get? a=some _ from x)
 | met f y=>exact Heap.lt_size (show h.get? a=some _ from x)
 | ext φ=>obtain⟨_,⟨_,e⟩,_⟩:=x;exact Heap.lt_size e
theorem Paired.mapP {α β:Type}{F G:α→β→Prop}:∀{l₁:List α}{l₂:List β},Paired F l₁ l₂→(∀a b,F a b→G a b)→Paired G l₁ l₂
 | _,_,.nil,_=>.nil
 | _,_,.cons r t,f=>.cons (f _ _ r) (Paired.mapP t f)
theorem ObjOk.stay (x:ObjOk P w H h a o) (k:∀b u,(b=a∨H b=some (.own a))→h.get? b=some u→h'.get? b=some u)
  (ho:∀b,H b=some (.own a)→H' b=some (.own a)) (ht:∀b xs,H b=some (.tup xs)→H' b=some (.tup xs)):ObjOk P w H' h' a o:=by
 induction o with
 | lst xs=>obtain⟨z,its,n,r,e⟩:=x;exact⟨z,its,n,r,k _ _ (.inl rfl) e⟩
 | tup xs=>obtain⟨z,its,r,ob,e,c⟩:=x;exact⟨z,its,r,ob,k _ _ (.inl rfl) e,c⟩
 | dK kvs=>obtain⟨z,y,vs,r,ob,es,ep,e,c⟩:=x;exact⟨z,y,vs,r,ob,es,ep,k _ _ (.inl rfl) e,c⟩
 | dT kvs=>
  obtain⟨z,y,xs,r,ob,es,ep,e,c⟩:=x
  exact⟨z,y,xs,Paired.mapP r fun p q z=>⟨z.1,ht _ _ z.2.1,z.2.2⟩,ob,es,ep,k _ _ (.inl rfl) e,c⟩
 | set S n=>obtain⟨ob,es,ep,t,e,c⟩:=x;exact⟨ob,es,ep,t,k _ _ (.inl rfl) e,c⟩
 | ins C dx fs=>
  obtain⟨d,z,ne,e,mA,⟨od,es,ep,e2,c⟩,r⟩:=x
  exact⟨ho _ d,z,ne,k _ _ (.inl rfl) e,mA,⟨od,es,ep,k _ _ (.inr d) e2,c⟩,r⟩
 | own y=>obtain⟨ob,e⟩:=x;exact⟨ob,k _ _ (.inl rfl) e⟩
 | xd fs=>obtain⟨mA,⟨od,es,ep,e,c⟩,r⟩:=x;exact⟨mA,⟨od,es,ep,k _ _ (.inl rfl) e,c⟩,r⟩
 | rng lo hi=>obtain⟨t,u,v,e⟩:=x;exact⟨t,u,v,k _ _ (.inl rfl) e⟩
 | frz ob u ih=>obtain⟨e,q⟩:=x;exact⟨k _ _ (.inl rfl) e,ih q⟩
 | tbl ps=>
  have e:h.get? a=some {cls:=.none,data:=.fields ps}:=x
  show h'.get? a=some {cls:=.none,data:=.fields ps}
  exact k a _ (.inl rfl) e
 | met f y=>
  have e:h.get? a=some (PySem.W.methodObj (.ref f) (.ref y)):=x
  show h'.get? a=some (PySem.W.methodObj (.ref f) (.ref y))
  exact k a _ (.inl rfl) e
 | ext φ=>obtain⟨p,⟨o,e⟩,st⟩:=x;exact⟨st _ _ p fun o q=>k _ _ (.inl rfl) q,⟨o,k _ _ (.inl rfl) e⟩,st⟩
theorem HOk.lt (x:HOk P w H h) (e:H a=some o):a < h.objs.size:=(x a o e).lt
theorem HOk.fresh (x:HOk P w H h) (e:h.objs.size≤a):H a=none:=by
 cases q:H a with
 | none=>rfl
 | some u=>exact absurd (Nat.lt_of_lt_of_le (x.lt q) e) (Nat.lt_irrefl _)
theorem HOk.kept (x:HOk P w H h) (k:∀b u,h.get? b=some u→h'.get? b=some u):HOk P w H h':=fun a o e=>
 (x a o e).stay (fun b u _ q=>k b u q) (fun _ q=>q) fun _ _ q=>q
theorem HOk.laid (x:HOk P w H h) (k:∀b u,h.get? b=some u→h'.get? b=some u) (hp:h.objs.size≤a) (new:ObjOk P w (upd H a o) h' a o):HOk P w (upd H a o) h':=fun b u e=>by
 have hn:=x.fresh hp
 by_cases hb:b=a
 ·subst hb;rw [upd_same] at e;cases e;exact new
 ·rw [upd_ne hb] at e
  exact (x b u e).stay (fun c v _ q=>k c v q) (fun c q=>by rw [upd_ne (ne_of_none q hn)];exact q) fun c xs q=>by rw [upd_ne (ne_of_none q hn)];exact q
end
def Rd (H:Hp) (a:Addr) (u:HO):Prop:=H a=some u∨∃o,H a=some (.frz o u)
theorem Rd.ok {P:Program}{w:World}{H:Hp}{h:Heap}{a:Addr}{u:HO} (r:Rd H a u) (x:HOk P w H h):ObjOk P w H h a u:=by
 rcases r with r | ⟨o,r⟩
 ·exact x a u r
 ·obtain⟨_,q⟩:=x a _ r
  exact q
def Mut:Option HO→Prop
 | some (.lst _)=>True
 | some (.dK _)=>True
 | some (.dT _)=>True
 | some (.set _ _)=>True
 | some (.ins _ _ _)=>True
 | some (.ext _)=>True
 | _=>False
section
variable {P:Program}{w:World}{H:Hp}{h h':Heap}{x e:Addr}{o':HO}
theorem HOk.write (ok:HOk P w H h) (mu:Mut (H x)) (he:e=x∨H e=some (.own x)) (k:∀b u,b≠e→h.get? b=some u→h'.get? b=some u) (heo:∃u,h'.get? e=some u)
  (new:ObjOk P w (upd H x o') h' x o'):HOk P w (upd H x o') h':=fun b u q=>by
 have nown:∀c y,H c=some (.own y)→c≠x:=fun c y r z=>by subst z;rw [r] at mu;exact mu
 have ntup:∀c xs,H c=some (.tup xs)→c≠x:=fun c xs r z=>by subst z;rw [r] at mu;exact mu
 by_cases hb:b=x
 ·subst hb;rw [upd_same] at q;cases q;exact new
 ·rw [upd_ne hb] at q
  by_cases hbe:b=e
  ·have q':H b=some (.own x):=by
    rcases he with z | z
    ·exact absurd (hbe.trans z) hb
    ·rw [hbe];exact z
   rw [q] at q';cases q'
   obtain⟨v,hv⟩:=heo
   exact⟨v,by rw [hbe];exact hv⟩
  ·refine (ok b u q).stay (fun c v hc r=>k c v ?_ r) (fun c r=>by rw [upd_ne (nown c b r)];exact r) fun c xs r=>by rw [upd_ne (ntup c xs r)];exact r
   rcases hc with rfl | hc
   ·exact hbe
   ·rintro rfl
    rcases he with z | z
    ·exact nown c b hc z
    ·rw [hc] at z;cases z;exact hb rfl
end
structure Un (fs ex:List Addr) (H H':Hp) (h h':Heap):Prop where
 keep:∀b o,h.get? b=some o→H b=none→b∉fs→b∉ex→h'.get? b=some o
 slot:∀b o,h.get? b=some o→H b=none→b∈fs→b∉ex→∃sl,h'.get? b=some {o with slots:=sl}
 free:∀b o,h.get? b=some o→H b=none→b∉ex→H' b=none
 there:∀b o,h.get? b=some o→b∉ex→∃o',h'.get? b=some o'
 tups:∀b xs,H b=some (.tup xs)→H' b=some (.tup xs)
 frzs:∀b o u,H b=some (.frz o u)→H' b=some (.frz o u)
 tbls:∀b ps,H b=some (.tbl ps)→∃more,H' b=some (.tbl (ps++more))
section
variable {fs fs' ex ex':List Addr}{H H1 H2:Hp}{h h1 h2 h':Heap}{a x e:Addr}{o:HO}
theorem Un.any (u:Un fs ex H H1 h h1) {b:Addr}{ob:Obj} (q:h.get? b=some ob) (n:H b=none) (hx:b∉ex):∃sl,h1.get? b=some {ob with slots:=sl}:=by
 by_cases hb:b∈fs
 ·exact u.slot b ob q n hb hx
 ·exact⟨ob.slots,u.keep b ob q n hb hx⟩
theorem Un.kept (k:∀b u,h.get? b=some u→h'.get? b=some u):Un fs ex H H h h':=
 ⟨fun b ob q _ _ _=>k b ob q,fun b ob q _ _ _=>⟨ob.slots,k b ob q⟩,fun _ _ _ n _=>n,fun b ob q _=>⟨ob,k b ob q⟩,fun _ _ q=>q,fun _ _ _ q=>q,fun _ ps q=>⟨#[],by rw [q];simp⟩⟩
theorem Un.refl:Un fs ex H H h h:=Un.kept fun _ _ q=>q
theorem Un.laid (k:∀b u,h.get? b=some u→h'.get? b=some u) (hp:h.objs.size≤a) (hn:H a=none):Un fs ex H (upd H a o) h h' where
 keep:=fun b u q _ _ _=>k b u q
 slot:=fun b u q _ _ _=>⟨u.slots,k b u q⟩
 free:=fun b u q n _=>by rw [upd_ne (Nat.ne_of_lt (Nat.lt_of_lt_of_le (Heap.lt_size q) hp))];exact n
 there:=fun b u q _=>⟨u,k b u q⟩
 tups:=fun b xs q=>by rw [upd_ne (ne_of_none q hn)];exact q
 frzs:=fun b u xs q=>by rw [upd_ne (ne_of_none q hn)];exact q
 tbls:=fun b ps q=>⟨#[],by rw [upd_ne (ne_of_none q hn),q];simp⟩
theorem Un.write (mu:Mut (H x)) (he:e=x∨H e=some (.own x)) (k:∀b u,b≠e→h.get? b=some u→h'.get? b=some u) (heo:∃u,h'.get? e=some u):Un fs ex H (upd H x o) h h':=by
 have hx:∀b,H b=none→b≠x:=fun b n z=>by subst z;rw [n] at mu;exact mu
 have hb:∀b,H b=none→b≠e:=fun b n z=>by
  subst z
  rcases he with r | r
  ·exact hx b n r
  ·rw [n] at r;cases r
 have hm:∀b u,H b=some u→¬Mut (some u)→b≠x:=fun b u q nm z=>by subst z;rw [q] at mu;exact nm mu
 refine⟨fun b u q n _ _=>k b u (hb b n) q,fun b u q n _ _=>⟨u.slots,k b u (hb b n) q⟩,fun b u q n _=>by rw [upd_ne (hx b n)];exact n,fun b u q _=>?_,
  fun b xs q=>by rw [upd_ne (hm b _ q fun z=>z)];exact q,fun b u xs q=>by rw [upd_ne (hm b _ q fun z=>z)];exact q,fun b ps q=>⟨#[],by rw [upd_ne (hm b _ q fun z=>z),q];simp⟩⟩
 by_cases hbe:b=e
 ·subst hbe;exact heo
 ·exact⟨u,k b u hbe q⟩
end
def trk (h:Heap) (H:Hp):List Addr:=(List.range h.objs.size).filter fun a=>(H a).isSome
def hidT (h:Heap) (H:Hp):Heap:=PySem.W.hideAll h (trk h H)
theorem hidT_size (h:Heap) (H:Hp):(hidT h H).objs.size=h.objs.size:=PySem.W.hideAll_size _ _
theorem hidT_get {h:Heap}{H:Hp}{b:Addr}{o:Obj} (e:h.get? b=some o) (n:H b=none):(hidT h H).get? b=some o:=
 PySem.W.hideAll_get _ e fun hm=>by
  have q:(H b).isSome=true:=(List.mem_filter.mp hm).2
  rw [n] at q;simp at q
theorem of_hidT {h:Heap}{H:Hp}{b:Addr}{o:Obj} (e:(hidT h H).get? b=some o):h.get? b=some o∧H b=none:=by
 have e':h.get? b=some o:=PySem.W.of_hideAll (trk h H) e
 refine⟨e',?_⟩
 cases q:H b with
 | none=>rfl
 | some x=>
  have hm:b∈trk h H:=List.mem_filter.mpr ⟨List.mem_range.mpr (Heap.lt_size e'),by simp [q]⟩
  have z:(hidT h H).get? b=none:=PySem.W.hideAll_none (trk h H) hm
  rw [z] at e;cases e
def allNews (g h:Heap) (L:Addr):List (Addr×Obj):=(List.range h.objs.size).filterMap fun a=>if a=L∨(g.get? a).isSome=true then none else (h.get? a).map fun o=>(a,o)
def rest (g h:Heap) (L d:Addr):List (Addr×Obj):=(allNews g h L).filter fun p=>decide (p.1≠d)
end L2
namespace L2
open PySem PySem.Spec PyProof.Rows
structure Mod (K:PySem.W.Frag) (mg:Str→Option Value) (base:Heap):Prop where
 kin:K.In base
 glob:base.Ns mainGlobals mg
 blt:∃mb,base.Ns builtinsNs mb∧∀x:Str,x≠"__name__"→mb x=bootBuiltins x
 nolimit:base.NoLimit
structure Cx where
 prog:Program
 w:World
 K:PySem.W.Frag
 mg:Str→Option Value
 base:Heap
 A:Around
 N:List Str
 s₀:Shared
 H₀:Hp
 env:Env
 outer:List Env
 stack:List Env
 ex:List Addr
 fn:Str→Bool
 calm:Bool
 pn:List (Addr×Obj)
 xe:Value→Shared→Prop
def frs (l:List Env):List Addr:=l.filterMap (·.frame)
abbrev Cx.fs (X:Cx):List Addr:=frs X.outer
def Vis (sc:Scope) (x:Str):Prop:=sc.names.lookup x=some .local∨sc.names.lookup x=some .cell∨sc.names.lookup x=some .free
def Loc (sc:Scope) (x:Str):Prop:=sc.names.lookup x=some .local∨sc.names.lookup x=some .cell
def Look (env:Env) (h:Heap) (m:Str→Option Value) (x:Str) (u:Value):Prop:=
 (env.kindOf x=some .local∧m x=some u)∨((env.kindOf x=some .cell∨env.kindOf x=some .free)∧∃c,env.cells.lookup x=some c∧h.IsCell c (some u))
structure Cx.Ok (X:Cx):Prop where
 mod:Mod X.K X.mg X.base
 kind:X.env.scope.kind=.function
 glob:X.env.globals=mainGlobals
 blt:X.env.builtins=builtinsNs
 above:X.s₀.heap.objs.size≤X.env.locals
 inj:∀x y c,X.env.cells.lookup x=some c→X.env.cells.lookup y=some c→x=y
 has:∀x,(X.env.kindOf x=some .cell∨X.env.kindOf x=some .free)→∃c,X.env.cells.lookup x=some c
 cab:∀x c,X.fn x=true→X.env.cells.lookup x=some c→X.s₀.heap.objs.size≤c
 hd:X.calm=true→X.A.handled=none
 frames:X.A.frames=some X.stack
 stk:X.stack=X.outer∨(X.stack=X.env::X.outer∧X.env.frame=some X.env.locals)
 exf:∀b∈X.ex,b≠X.env.locals∧∀x c,X.env.cells.lookup x=some c→c≠b
 bs:∀b o,X.base.get? b=some o→X.s₀.heap.get? b=some o∧X.H₀ b=none
 bsz:X.base.objs.size≤X.s₀.heap.objs.size
 noex:∀b o,X.base.get? b=some o→b∉X.ex
 exfs:∀b∈X.ex,b∉X.fs
 funs:X.s₀.heap.FunFrames X.base X.outer
 frf:∀b∈X.fs,X.H₀ b=none
structure Inv (X:Cx) (pins:List (Addr×Obj)) (σ:List (Option V)) (H:Hp) (s:Shared):Prop where
 ok:X.Ok
 os:s.os=X.s₀.os
 bare:AllBare s.gens
 base:Un X.fs X.ex X.H₀ H X.s₀.heap s.heap
 loc:∃m,s.heap.Ns X.env.locals m∧∀(i:Nat) (x:Str) (v:V),X.N[i]?=some x→σ[i]?=some (some v)→Vis X.env.scope x→∃u,RelV v u∧Look X.env s.heap m x u
 cell:∀x c,X.env.cells.lookup x=some c→∃v,s.heap.IsCell c v
 free:H X.env.locals=none
 freeC:∀x c,X.env.cells.lookup x=some c→H c=none
 pin:∀p∈X.pn++pins,s.heap.get? p.1=some p.2∧H p.1=none∧p.1≠X.env.locals∧p.1∉X.fs∧∀v,p.2.data≠.cell v
 hok:HOk X.prog X.w H s.heap
 len:σ.length=X.N.length
section
variable {X:Cx}{pins:List (Addr×Obj)}{σ:List (Option V)}{H H':Hp}{s:Shared}{h':Heap}
theorem Cx.Ok.nofr (ok:X.Ok) {b:Addr}{o:Obj} (e:X.base.get? b=some o):b∉X.fs:=fun hb=>by
 have:=(ok.funs.mem hb).1
 rw [e] at this;cases this
theorem Inv.bs (I:Inv X pins σ H s):∀b o,X.base.get? b=some o→s.heap.get? b=some o∧H b=none:=fun b o e=>
 ⟨I.base.keep b o (I.ok.bs b o e).1 (I.ok.bs b o e).2 (I.ok.nofr e) (I.ok.noex b o e),I.base.free b o (I.ok.bs b o e).1 (I.ok.bs b o e).2 (I.ok.noex b o e)⟩
theorem Inv.bk (I:Inv X pins σ H s):∀b o,X.base.get? b=some o→s.heap.get? b=some o:=fun b o e=>(I.bs b o e).1
theorem Inv.mod (I:Inv X pins σ H s):Mod X.K X.mg X.base:=I.ok.mod
theorem Inv.kIn (I:Inv X pins σ H s):X.K.In s.heap:=I.ok.mod.kin.keeps I.bk
theorem Inv.lt (I:Inv X pins σ H s):X.env.locals < s.heap.objs.size:=let ⟨_,hn,_⟩:=I.loc;hn.lt
theorem Inv.sz (I:Inv X pins σ H s):X.s₀.heap.objs.size≤s.heap.objs.size:=Nat.le_trans I.ok.above (Nat.le_of_lt I.lt)
theorem Inv.nofs (I:Inv X pins σ H s) {a:Addr} (h:s.heap.objs.size≤a):a∉X.fs:=fun hb=>by
 obtain⟨_,o,ho,_⟩:=I.ok.funs.mem hb
 exact absurd (Nat.lt_of_lt_of_le (Heap.lt_size ho) (Nat.le_trans I.sz h)) (Nat.lt_irrefl _)
theorem Inv.cne (I:Inv X pins σ H s):∀x c,X.env.cells.lookup x=some c→c≠X.env.locals:=fun x c e z=>by
 obtain⟨v,o,ho,hd⟩:=I.cell x c e
 obtain⟨m,⟨o',es,ep,ho',hd',_⟩,_⟩:=I.loc
 rw [z,ho'] at ho;cases ho;rw [hd'] at hd;cases hd
theorem Inv.funs (I:Inv X pins σ H s):s.heap.FunFrames X.base X.outer:=by
 have all:∀(l:List Env),(∀b∈frs l,b∈X.fs)→X.s₀.heap.FunFrames X.base l→s.heap.FunFrames X.base l:=by
  intro l
  induction l with
  | nil=>intro _ _;trivial
  | cons env r ih=>
   intro hs hl
   obtain⟨hk,⟨L,o,hf,hn,ho,hd⟩,hr⟩:=hl
   have hL:L∈X.fs:=hs L (by unfold frs;rw [List.filterMap_cons,hf];exact List.mem_cons_self)
   obtain⟨sl,e⟩:=I.base.slot L o ho (I.ok.frf L hL) hL fun z=>I.ok.exfs L z hL
   exact⟨hk,⟨L,_,hf,hn,e,hd⟩,ih (fun b hb=>hs b (by unfold frs;rw [List.filterMap_cons,hf];exact List.mem_cons_of_mem _ hb)) hr⟩
 exact all X.outer (fun _ hb=>hb) I.ok.funs
theorem Inv.stack (I:Inv X pins σ H s):s.heap.FunFrames X.base X.stack:=by
 rcases I.ok.stk with e | ⟨e,hf⟩
 ·rw [e];exact I.funs
 ·rw [e]
  obtain⟨m,hn,_⟩:=I.loc
  refine .cons (by rw [I.ok.kind];decide) hf hn ?_ I.funs
  exact Heap.get?_none_of_le (Nat.le_trans I.ok.bsz I.ok.above)
theorem Inv.stkSub (I:Inv X pins σ H s):∀b∈frs X.stack,b∈X.env.locals::X.fs:=fun b hb=>by
 rcases I.ok.stk with e | ⟨e,hf⟩
 ·rw [e] at hb;exact List.mem_cons_of_mem _ hb
 ·rw [e] at hb
  unfold frs at hb
  rw [List.filterMap_cons,hf] at hb
  exact hb
theorem Inv.stkFree (I:Inv X pins σ H s):∀b∈frs X.stack,H b=none:=fun b hb=>by
 rcases List.mem_cons.mp (I.stkSub b hb) with e | hb
 ·rw [e];exact I.free
 ·obtain⟨_,o,ho,_⟩:=I.ok.funs.mem hb
  exact I.base.free b o ho (I.ok.frf b hb) fun z=>I.ok.exfs b z hb
theorem Inv.step {g':Array GenState}{t':Nat}{d':Drawn}{ch:List Addr} (I:Inv X pins σ H s)
  (hch:∀b∈ch,(b∈X.ex∨X.s₀.heap.objs.size≤b)∧b≠X.env.locals∧(∀x c,X.env.cells.lookup x=some c→c≠b)∧∀p∈X.pn++pins,p.1≠b)
  (keep:∀b o,b≠X.env.locals→b∉X.fs→b∉ch→s.heap.get? b=some o→H b=none→h'.get? b=some o)
  (slot:∀b o,b≠X.env.locals→b∈X.fs→b∉ch→s.heap.get? b=some o→H b=none→∃sl,h'.get? b=some {o with slots:=sl}) (free:∀b o,b∉ch→s.heap.get? b=some o→H b=none→H' b=none)
  (there:∀b o,b∉ch→s.heap.get? b=some o→∃o',h'.get? b=some o')
  (tups:∀b xs,H b=some (.tup xs)→H' b=some (.tup xs)) (frzs:∀b o u,H b=some (.frz o u)→H' b=some (.frz o u)) (tbls:∀b ps,H b=some (.tbl ps)→∃more,H' b=some (.tbl (ps++more)))
  (ns:∀m,s.heap.Ns X.env.locals m→h'.Ns X.env.locals m) (hok:HOk X.prog X.w H' h') (hg:AllBare g') :
  Inv X pins σ H' {s with heap:=h',gens:=g',drawn:=d',toks:=t'}:=by
 have neL:∀b o,X.s₀.heap.get? b=some o→b≠X.env.locals:=fun b o e=>Nat.ne_of_lt (Nat.lt_of_lt_of_le (Heap.lt_size e) I.ok.above)
 have neC:∀b o,X.s₀.heap.get? b=some o→b∉X.ex→b∉ch:=fun b o e hx hb=>by
  rcases (hch b hb).1 with z | z
  ·exact hx z
  ·exact absurd (Nat.lt_of_lt_of_le (Heap.lt_size e) z) (Nat.lt_irrefl _)
 have cellK:∀x c,X.env.cells.lookup x=some c→∀v,s.heap.IsCell c v→h'.IsCell c v:=fun x c e v ⟨o,ho,hd⟩=>by
  have nch:c∉ch:=fun z=>(hch c z).2.2.1 x c e rfl
  by_cases hc:c∈X.fs
  ·obtain⟨sl,q⟩:=slot c o (I.cne x c e) hc nch ho (I.freeC x c e)
   exact⟨_,q,hd⟩
  ·exact⟨o,keep c o (I.cne x c e) hc nch ho (I.freeC x c e),hd⟩
 refine⟨I.ok,I.os,hg,⟨fun b o e n hb hx=>?_,fun b o e n hb hx=>?_,fun b o e n hx=>?_,fun b o e hx=>?_,fun b xs e=>tups b xs (I.base.tups b xs e),fun b o xs e=>frzs b o xs (I.base.frzs b o xs e),fun b ps e=>?_⟩,?_,fun x c e=>?_,?_,fun x c e=>?_,fun p hp=>?_,hok,I.len⟩
 ·exact keep b o (neL b o e) hb (neC b o e hx) (I.base.keep b o e n hb hx) (I.base.free b o e n hx)
 ·obtain⟨sl,e1⟩:=I.base.slot b o e n hb hx
  obtain⟨sl',e2⟩:=slot b _ (neL b o e) hb (neC b o e hx) e1 (I.base.free b o e n hx)
  exact⟨sl',e2⟩
 ·obtain⟨o',e1⟩:=I.base.there b o e hx
  exact free b o' (neC b o e hx) e1 (I.base.free b o e n hx)
 ·obtain⟨o',e1⟩:=I.base.there b o e hx
  exact there b o' (neC b o e hx) e1
 ·obtain⟨m1,e1⟩:=I.base.tbls b ps e
  obtain⟨m2,e2⟩:=tbls b _ e1
  exact⟨m1++m2,by rw [e2,Array.append_assoc]⟩
 ·obtain⟨m,hn,hl⟩:=I.loc
  refine⟨m,ns m hn,fun i x v e1 e2 e3=>?_⟩
  obtain⟨u,r,l⟩:=hl i x v e1 e2 e3
  refine⟨u,r,?_⟩
  rcases l with l | ⟨k,c,e,z⟩
  ·exact .inl l
  ·exact .inr ⟨k,c,e,cellK x c e _ z⟩
 ·obtain⟨v,z⟩:=I.cell x c e
  exact⟨v,cellK x c e v z⟩
 ·obtain⟨m,⟨o,_,_,ho,_⟩,_⟩:=I.loc
  exact free _ o (fun z=>(hch _ z).2.1 rfl) ho I.free
 ·obtain⟨v,o,ho,hd⟩:=I.cell x c e
  exact free c o (fun z=>(hch c z).2.2.1 x c e rfl) ho (I.freeC x c e)
 ·obtain⟨e,n,ne,nf,d⟩:=I.pin p hp
  have nch:p.1∉ch:=fun z=>(hch p.1 z).2.2.2 p hp rfl
  exact⟨keep p.1 p.2 ne nf nch e n,free p.1 p.2 nch e n,ne,nf,d⟩
theorem Inv.un {t':Nat} (I:Inv X pins σ H s) (u:Un X.fs [] H H' s.heap h') (hok:HOk X.prog X.w H' h'):Inv X pins σ H' {s with heap:=h',toks:=t'}:=by
 obtain⟨m,⟨o,es,ep,ho,r⟩,_⟩:=id I.loc
 obtain⟨sl,hL⟩:=u.any ho I.free (by simp)
 exact I.step (g':=s.gens) (d':=s.drawn) (ch:=[]) (fun _ z=>nomatch z) (fun b o _ hb _ e n=>u.keep b o e n hb (by simp)) (fun b o _ hb _ e n=>u.slot b o e n hb (by simp)) (fun b o _ e n=>u.free b o e n (by simp)) (fun b o _ e=>u.there b o e (by simp)) u.tups u.frzs u.tbls (fun m' hm=>by
  obtain⟨o',es',ep',ho',r'⟩:=hm
  rw [ho] at ho';cases ho'
  exact⟨_,es',ep',hL,r'⟩) hok I.bare
theorem Inv.call {g':Array GenState}{t':Nat}{d':Drawn}{ch:List Addr} (I:Inv X pins σ H s) (u:Un (frs X.stack) ch H H' s.heap h') (hok:HOk X.prog X.w H' h') (hg:AllBare g')
  (hch:∀b∈ch,(b∈X.ex∨X.s₀.heap.objs.size≤b)∧b≠X.env.locals∧(∀x c,X.env.cells.lookup x=some c→c≠b)∧∀p∈X.pn++pins,p.1≠b) :
  Inv X pins σ H' {s with heap:=h',gens:=g',drawn:=d',toks:=t'}:=by
 obtain⟨m,⟨o,es,ep,ho,r⟩,_⟩:=id I.loc
 obtain⟨sl,hL⟩:=u.any ho I.free fun z=>(hch _ z).2.1 rfl
 exact I.step (ch:=ch) hch (fun b o hL hb hc e n=>u.keep b o e n (fun z=>(List.mem_cons.mp (I.stkSub b z)).elim hL hb) hc) (fun b o _ _ hc e n=>u.any e n hc) (fun b o hc e n=>u.free b o e n hc) (fun b o hc e=>u.there b o e hc) u.tups u.frzs u.tbls (fun m' hm=>by
  obtain⟨o',es',ep',ho',r'⟩:=hm
  rw [ho] at ho';cases ho'
  exact⟨_,es',ep',hL,r'⟩) hok hg
theorem Inv.turned {t':Nat}{it:Addr} (I:Inv X pins σ H s) (k:∀b o,b≠it→s.heap.get? b=some o→h'.get? b=some o) (hn:H it=none) (hL:it≠X.env.locals)
  (h1:it∈X.ex∨X.s₀.heap.objs.size≤it) (h2:∀x c,X.env.cells.lookup x=some c→c≠it) (h3:∀p∈X.pn++pins,p.1≠it):Inv X pins σ H {s with heap:=h',toks:=t'}:=by
 have nit:∀b u,H b=some u→b≠it:=fun b u e z=>by rw [z,hn] at e;cases e
 refine I.step (g':=s.gens) (d':=s.drawn) (ch:=[it]) (fun b hb=>?_) (fun b o _ _ hc e _=>k b o (fun z=>hc (by simp [z])) e) (fun b o _ _ hc e _=>⟨o.slots,k b o (fun z=>hc (by simp [z])) e⟩) (fun _ _ _ _ n=>n)
  (fun b o hc e=>⟨o,k b o (fun z=>hc (by simp [z])) e⟩) (fun _ _ e=>e) (fun _ _ _ e=>e) (fun b ps e=>⟨#[],by rw [e];simp⟩) (fun m hm=>?_) (fun b u e=>?_) I.bare
 ·have e:b=it:=by simpa using hb
  subst e
  exact⟨h1,hL,h2,h3⟩
 ·obtain⟨o,es,ep,ho,r⟩:=hm
  exact⟨o,es,ep,k _ o (Ne.symm hL) ho,r⟩
 ·refine (I.hok b u e).stay (fun c v hc q=>k c v ?_ q) (fun _ q=>q) fun _ _ q=>q
  rcases hc with z | z
  ·rw [z];exact nit b u e
  ·exact nit c _ z
theorem Inv.tok (I:Inv X pins σ H s) (t:Nat):Inv X pins σ H {s with toks:=t}:=I.un (h':=s.heap) (t':=t) Un.refl I.hok
theorem Inv.kept {t':Nat} (I:Inv X pins σ H s) (k:∀b u,s.heap.get? b=some u→h'.get? b=some u):Inv X pins σ H {s with heap:=h',toks:=t'}:=I.un (Un.kept k) (I.hok.kept k)
theorem Inv.laid {a:Addr}{o:HO}{t':Nat} (I:Inv X pins σ H s) (k:∀b u,s.heap.get? b=some u→h'.get? b=some u) (hp:s.heap.objs.size≤a) (new:ObjOk X.prog X.w (upd H a o) h' a o) :
  Inv X pins σ (upd H a o) {s with heap:=h',toks:=t'}:=I.un (Un.laid k hp (I.hok.fresh hp)) (I.hok.laid k hp new)
theorem Inv.write {x e:Addr}{o:HO}{t':Nat} (I:Inv X pins σ H s) (mu:Mut (H x)) (he:e=x∨H e=some (.own x)) (k:∀b u,b≠e→s.heap.get? b=some u→h'.get? b=some u) (heo:∃u,h'.get? e=some u)
  (new:ObjOk X.prog X.w (upd H x o) h' x o):Inv X pins σ (upd H x o) {s with heap:=h',toks:=t'}:=I.un (Un.write mu he k heo) (I.hok.write mu he k heo new)
theorem Inv.pins_of {pins':List (Addr×Obj)} (I:Inv X pins σ H s) (h:∀p∈pins',s.heap.get? p.1=some p.2∧H p.1=none∧p.1≠X.env.locals∧p.1∉X.fs∧∀v,p.2.data≠.cell v):Inv X pins' σ H s:=
 ⟨I.ok,I.os,I.bare,I.base,I.loc,I.cell,I.free,I.freeC,fun p hp=>(List.mem_append.mp hp).elim (fun z=>I.pin p (List.mem_append_left _ z)) (h p),I.hok,I.len⟩
theorem nodup_ix {N:List Str} (hN:N.Nodup) {i j:Nat}{x:Str} (a:N[i]?=some x) (b:N[j]?=some x):i=j:=by
 obtain⟨h1,e1⟩:=List.getElem?_eq_some_iff.mp a
 obtain⟨h2,e2⟩:=List.getElem?_eq_some_iff.mp b
 exact (List.getElem_inj hN).mp (e1.trans e2.symm)
theorem store_ok2 {M:Model}{A:Around}{E:Value→Shared→Prop}{i:Nat}{x:Str}{v:V}{u:Value}{Q:Unit→Shared→Prop} (I:Inv X pins σ H s) (hN:X.N.Nodup) (hi:X.N[i]?=some x) (hx:Loc X.env.scope x) (r:RelV v u)
  (h:∀s',Inv X pins (σ.set i (some v)) H s'→(∃a,Heap.SameBut a s.heap s'.heap∧(a=X.env.locals∨X.env.cells.lookup x=some a))→Q () s') (hf:X.fn x=true∨X.env.scope.names.lookup x=some .local:=by first | exact .inl rfl | exact .inr rfl | assumption):wpAny M A (storeName X.env x u) Q E s:=by
 obtain⟨m,hn,hl⟩:=id I.loc
 have hcls:(X.env.scope.kind==.class||(X.env.scope.kind==.module&&X.env.locals != X.env.globals))=false:=by rw [I.ok.kind];rfl
 have hiσ:i < σ.length:=by rw [I.len];exact (List.getElem?_eq_some_iff.mp hi).1
 have cne:=I.cne
 have tracked:∀{a:Addr}{h':Heap},(∃o,s.heap.get? a=some o∧H a=none)→Heap.SameBut a s.heap h'→HOk X.prog X.w H h':=fun {a h'} ha hs b ob e=>by
  obtain⟨_,_,hfree⟩:=ha
  refine (I.hok b ob e).stay (fun c w' hc q=>(hs.2 c ?_).trans q) (fun _ q=>q) fun _ _ q=>q
  rintro rfl
  rcases hc with rfl | hc
  ·rw [hfree] at e;cases e
  ·rw [hfree] at hc;cases hc
 rcases hx with hk | hk
 ·refine wpAny_storeName_local hk hn (fun h' hn' hs=>?_) hcls
  obtain⟨oL,_,_,hoL,_⟩:=id hn
  refine h _ ⟨I.ok,I.os,I.bare,⟨fun b o e n hb hx=>?_,fun b o e n hb hx=>?_,I.base.free,fun b o e hx=>?_,I.base.tups,I.base.frzs,I.base.tbls⟩,⟨_,hn',fun j y v' e1 e2 e3=>?_⟩,fun y c e=>?_,I.free,I.freeC,fun p hp=>?_,tracked ⟨oL,hoL,I.free⟩ hs,by simpa using I.len⟩ ⟨_,hs,.inl rfl⟩
  ·exact (hs.2 b (Nat.ne_of_lt (Nat.lt_of_lt_of_le (Heap.lt_size e) I.ok.above))).trans (I.base.keep b o e n hb hx)
  ·obtain⟨sl,e1⟩:=I.base.slot b o e n hb hx
   exact⟨sl,(hs.2 b (Nat.ne_of_lt (Nat.lt_of_lt_of_le (Heap.lt_size e) I.ok.above))).trans e1⟩
  ·obtain⟨o',e1⟩:=I.base.there b o e hx
   exact⟨o',(hs.2 b (Nat.ne_of_lt (Nat.lt_of_lt_of_le (Heap.lt_size e) I.ok.above))).trans e1⟩
  ·by_cases hj:j=i
   ·subst hj
    rw [hi] at e1;cases e1
    rw [List.getElem?_set_self hiσ] at e2
    cases e2
    exact⟨u,r,.inl ⟨hk,by simp⟩⟩
   ·rw [List.getElem?_set_ne (Ne.symm hj)] at e2
    obtain⟨u',r',q⟩:=hl j y v' e1 e2 e3
    refine⟨u',r',?_⟩
    rcases q with⟨k,e⟩ | ⟨k,c,e,z⟩
    ·refine .inl ⟨k,?_⟩
     have:y≠x:=fun e=>hj (nodup_ix hN e1 (e▸hi))
     simp [this,e]
    ·exact .inr ⟨k,c,e,z.sameBut hs (cne y c e)⟩
  ·obtain⟨w',z⟩:=I.cell y c e
   exact⟨w',z.sameBut hs (cne y c e)⟩
  ·obtain⟨e,n,ne,nf,d⟩:=I.pin p hp
   exact⟨(hs.2 p.1 ne).trans e,n,ne,nf,d⟩
 ·have hfn:X.fn x=true:=by
   rcases hf with z | z
   ·exact z
   ·rw [z] at hk;cases hk
  obtain⟨c,hc⟩:=I.ok.has x (.inl hk)
  obtain⟨w',z⟩:=I.cell x c hc
  refine wpAny_storeName_cell I.ok.kind hk hc z (fun h' hc' hs=>?_)
  obtain⟨oc,hoc,hocd⟩:=id z
  refine h {s with heap:=h'} ⟨I.ok,I.os,I.bare,⟨fun b o e n hb hx=>?_,fun b o e n hb hx=>?_,I.base.free,fun b o e hx=>?_,I.base.tups,I.base.frzs,I.base.tbls⟩,⟨m,hn.sameBut hs (Ne.symm (cne x c hc)),fun j y v' e1 e2 e3=>?_⟩,fun y c' e=>?_,I.free,I.freeC,fun p hp=>?_,tracked ⟨oc,hoc,I.freeC x c hc⟩ hs,by simpa using I.len⟩ ⟨c,hs,.inr hc⟩
  ·exact (hs.2 b (Nat.ne_of_lt (Nat.lt_of_lt_of_le (Heap.lt_size e) (I.ok.cab x c hfn hc)))).trans (I.base.keep b o e n hb hx)
  ·obtain⟨sl,e1⟩:=I.base.slot b o e n hb hx
   exact⟨sl,(hs.2 b (Nat.ne_of_lt (Nat.lt_of_lt_of_le (Heap.lt_size e) (I.ok.cab x c hfn hc)))).trans e1⟩
  ·obtain⟨o',e1⟩:=I.base.there b o e hx
   exact⟨o',(hs.2 b (Nat.ne_of_lt (Nat.lt_of_lt_of_le (Heap.lt_size e) (I.ok.cab x c hfn hc)))).trans e1⟩
  ·by_cases hj:j=i
   ·subst hj
    rw [hi] at e1;cases e1
    rw [List.getElem?_set_self hiσ] at e2
    cases e2
    exact⟨u,r,.inr ⟨.inl hk,c,hc,hc'⟩⟩
   ·rw [List.getElem?_set_ne (Ne.symm hj)] at e2
    obtain⟨u',r',q⟩:=hl j y v' e1 e2 e3
    refine⟨u',r',?_⟩
    rcases q with q | ⟨k,c',e,z'⟩
    ·exact .inl q
    ·refine .inr ⟨k,c',e,z'.sameBut hs ?_⟩
     rintro rfl
     exact hj (nodup_ix hN e1 (I.ok.inj _ _ _ e hc▸hi))
  ·by_cases hcc:c'=c
   ·subst hcc;exact⟨_,hc'⟩
   ·obtain⟨w2,z2⟩:=I.cell y c' e
    exact⟨w2,z2.sameBut hs hcc⟩
  ·obtain⟨e,n,ne,nf,d⟩:=I.pin p hp
   refine⟨(hs.2 p.1 ?_).trans e,n,ne,nf,d⟩
   intro q
   rw [q,hoc] at e
   have q':oc=p.2:=Option.some.inj e
   exact d w' (by rw [← q'];exact hocd)
theorem store_ok {M:Model}{A:Around}{E:Value→Shared→Prop}{i:Nat}{x:Str}{v:V}{u:Value}{Q:Unit→Shared→Prop} (I:Inv X pins σ H s) (hN:X.N.Nodup) (hi:X.N[i]?=some x) (hx:Loc X.env.scope x) (r:RelV v u)
  (h:∀s',Inv X pins (σ.set i (some v)) H s'→Q () s') (hf:X.fn x=true∨X.env.scope.names.lookup x=some .local:=by first | exact .inl rfl | exact .inr rfl | assumption):wpAny M A (storeName X.env x u) Q E s:=
 store_ok2 I hN hi hx r (fun s' I' _=>h s' I') hf
theorem Inv.call' {s':Shared}{ch:List Addr} (I:Inv X pins σ H s) (ho:s'.os=s.os) (u:Un (frs X.stack) ch H H' s.heap s'.heap) (hok:HOk X.prog X.w H' s'.heap) (hg:AllBare s'.gens)
  (hch:∀b∈ch,(b∈X.ex∨X.s₀.heap.objs.size≤b)∧b≠X.env.locals∧(∀x c,X.env.cells.lookup x=some c→c≠b)∧∀p∈X.pn++pins,p.1≠b):Inv X pins σ H' s':=by
 obtain⟨h',g',d',t',o'⟩:=s'
 have e:o'=s.os:=ho
 subst e
 exact I.call (g':=g') (t':=t') (d':=d') u hok hg hch
end
abbrev XK:=Value→Option Addr→Hp→Prop
abbrev St:=List (Option V)
abbrev VK:=V→Hp→Prop
abbrev TE:=St→Hp→VK→Prop
abbrev TT:=St→Hp→(Bool→Hp→Prop)→Prop
abbrev TA:=St→Hp→(List V→Hp→Prop)→Prop
structure Ends where
 nx:St→Hp→Prop
 rt:VK
 bk:St→Hp→Prop:=fun _ _=>False
 ct:St→Hp→Prop:=fun _ _=>False
abbrev TS:=Ends→St→Hp→Prop
def EP (X:Cx) (pins:List (Addr×Obj)) (σ:St) (Q:VK) (u:Value) (s':Shared):Prop:=∃v H',Inv X pins σ H' s'∧RelV v u∧Q v H'
def TP (X:Cx) (pins:List (Addr×Obj)) (σ:St) (Q:Bool→Hp→Prop) (b:Bool) (s':Shared):Prop:=∃H',Inv X pins σ H' s'∧Q b H'
def AP (X:Cx) (pins:List (Addr×Obj)) (σ:St) (Q:List V→Hp→Prop) (us:List Value) (s':Shared):Prop:=∃vs H',Inv X pins σ H' s'∧Vals vs us∧Q vs H'
def SP (X:Cx) (pins:List (Addr×Obj)) (D:Ends) (f:Flow) (s':Shared):Prop:=
 match f with
 | .next=>∃σ' H',Inv X pins σ' H' s'∧D.nx σ' H'
 | .brk=>∃σ' H',Inv X pins σ' H' s'∧D.bk σ' H'
 | .cont=>∃σ' H',Inv X pins σ' H' s'∧D.ct σ' H'
 | .ret u=>∃v σ' H',Inv X pins σ' H' s'∧RelV v u∧D.rt v H'
def PE (X:Cx) (e:Expr) (t:TE):Prop:=
 ∀(pins:List (Addr×Obj)) (s:Shared) (σ:St) (H:Hp) (Q:VK),Inv X pins σ H s→t σ H Q→wpAny (model X.prog X.w) X.A (eval e X.env) (EP X pins σ Q) X.xe s
def PT (X:Cx) (e:Expr) (t:TT):Prop:=
 ∀(pins:List (Addr×Obj)) (s:Shared) (σ:St) (H:Hp) (Q:Bool→Hp→Prop),Inv X pins σ H s→t σ H Q→wpAny (model X.prog X.w) X.A (isTrue e X.env (eval e X.env)) (TP X pins σ Q) X.xe s
def PW (X:Cx) (e:Expr) (t:TT):Prop:=
 ∀(whole:Sem Value) (pins:List (Addr×Obj)) (s:Shared) (σ:St) (H:Hp) (Q:Bool→Hp→Prop),Inv X pins σ H s→t σ H Q→wpAny (model X.prog X.w) X.A (isTrue e X.env whole) (TP X pins σ Q) X.xe s
theorem PW.pt {X:Cx}{e:Expr}{t:TT} (h:PW X e t):PT X e t:=h _
def PA (X:Cx) (es:List Expr) (t:TA):Prop:=
 ∀(pos:Pos) (pins:List (Addr×Obj)) (s:Shared) (σ:St) (H:Hp) (Q:List V→Hp→Prop),Inv X pins σ H s→t σ H Q→wpAny (model X.prog X.w) X.A (spliced (backTo pos (starEach es X.env))) (AP X pins σ Q) X.xe s
def PS (X:Cx) (st:Stmt) (t:TS):Prop:=
 ∀(pins:List (Addr×Obj)) (s:Shared) (σ:St) (H:Hp) (D:Ends),Inv X pins σ H s→t D σ H→wpAny (model X.prog X.w) X.A (exec st X.env) (SP X pins D) X.xe s
def PSs (X:Cx) (st:List Stmt) (t:TS):Prop:=
 ∀(pins:List (Addr×Obj)) (s:Shared) (σ:St) (H:Hp) (D:Ends),Inv X pins σ H s→t D σ H→wpAny (model X.prog X.w) X.A (execs st X.env) (SP X pins D) X.xe s
theorem thn {α:Type}{t:Sem α}{Q Q':α→Shared→Prop}{M:Model}{A:Around}{E:Value→Shared→Prop}{s:Shared} (h:wpAny M A t Q E s) (hQ:∀a s,Q a s→Q' a s):wpAny M A t Q' E s:=wpAny_mono h hQ fun _ _ x=>x
end L2
namespace L2
open PySem PySem.Spec PyProof.Rows
section
variable {X:Cx}
theorem bin {a b:Expr}{ta tb:TE} (ha:PE X a ta) (hb:PE X b tb) {pins:List (Addr×Obj)}{s:Shared}{σ:St}{H:Hp}{R:V→V→Hp→Prop} (I:Inv X pins σ H s) (h:ta σ H fun x H1=>tb σ H1 fun y H2=>R x y H2)
  {α:Type}{Q:α→Shared→Prop}{f:Value→Value→Sem α}
  (hf:∀v u s2 x y H2,Inv X pins σ H2 s2→RelV x v→RelV y u→R x y H2→wpAny (model X.prog X.w) X.A (f v u) Q X.xe s2) :
  wpAny (model X.prog X.w) X.A (eval a X.env) (fun v s₁=>wpAny (model X.prog X.w) X.A (eval b X.env) (fun u s₂=>wpAny (model X.prog X.w) X.A (f v u) Q X.xe s₂) X.xe s₁) X.xe s:=by
 refine thn (ha pins s σ H _ I h) fun v s1 ⟨x,H1,I1,r1,q1⟩=>?_
 refine thn (hb pins s1 σ H1 _ I1 q1) fun u s2 ⟨y,H2,I2,r2,q2⟩=>?_
 exact hf v u s2 x y H2 I2 r1 r2 q2
def tVar (i:Nat):TE:=fun σ H Q=>∃v,σ[i]?=some (some v)∧Q v H
def tC (v:V):TE:=fun _ H Q=>Q v H
theorem pe_var {i:Nat}{x:Str}{pos:Pos} (hN:X.N[i]?=some x) (hv:Vis X.env.scope x) (hd:(x==("__debug__":Str))=false:=by decide) (hcd:(x==("__classdict__":Str))=false:=by decide):PE X (.Name x pos) (tVar i):=by
 intro pins s σ H Q I h
 obtain⟨v,e,h⟩:=h
 obtain⟨m,hn,hl⟩:=I.loc
 obtain⟨u,r,l⟩:=hl i x v hN e hv
 have fin:EP X pins σ Q u s:=⟨v,H,I,r,h⟩
 rcases l with⟨hk,hm⟩ | ⟨hk,c,hc,hcell⟩
 ·exact wpAny_Name (wpAny_loadName_local I.ok.kind hk hn hm fin) hd
 ·rcases hk with hk | hk
  ·exact wpAny_Name (wpAny_loadName_cell I.ok.kind hk hc hcell fin) hd
  ·exact wpAny_Name (wpAny_loadName_free I.ok.kind hk hc hcell fin hcd) hd
theorem pe_int {i j pos}:PE X (.Constant (.int i) j pos) (tC (.int i)):=fun _ _ _ H _ I h=>wpAny_Constant_int ⟨.int i,H,I.tok _,⟨_,rfl⟩,h⟩
theorem pe_bl {b j pos}:PE X (.Constant (.bool b) j pos) (tC (.bl b)):=fun _ _ _ H _ I h=>Constant_bool ⟨.bl b,H,I,rfl,h⟩
theorem pe_non {j pos}:PE X (.Constant .none j pos) (tC .non):=fun _ _ _ H _ I h=>Constant_none ⟨.non,H,I,rfl,h⟩
theorem pe_str {x j pos}:PE X (.Constant (.str x) j pos) (tC (.str x)):=fun _ _ _ H _ I h=>Calls.Constant_str ⟨.str x,H,I.tok _,⟨_,rfl⟩,h⟩
def Gl (X:Cx) (x:Str):Prop:=X.env.kindOf x=some .globalImplicit
theorem ld_glob {E:Value→Shared→Prop}{pins:List (Addr×Obj)}{s:Shared}{σ:St}{H:Hp}{x:Str}{u:Value}{pos:Pos}{Q:Value→Shared→Prop} (I:Inv X pins σ H s) (hg:Gl X x) (hm:X.mg x=some u) (h:Q u s)
  (hd:(x==("__debug__":Str))=false:=by decide):wpAny (model X.prog X.w) X.A (eval (.Name x pos) X.env) Q E s:=
 Calls.Name_function_global I.ok.kind hg (Calls.loadGlobal_global (by rw [I.ok.glob];exact I.mod.glob.keeps I.bk) hm h) hd
theorem ld_blt {E:Value→Shared→Prop}{pins:List (Addr×Obj)}{s:Shared}{σ:St}{H:Hp}{x:Str}{u:Value}{pos:Pos}{Q:Value→Shared→Prop} (I:Inv X pins σ H s) (hg:Gl X x) (hm:X.mg x=none) (hv:bootBuiltins x=some u) (h:Q u s)
  (hn:x≠"__name__":=by decide) (hd:(x==("__debug__":Str))=false:=by decide):wpAny (model X.prog X.w) X.A (eval (.Name x pos) X.env) Q E s:=by
 obtain⟨mb,h1,h2⟩:=I.mod.blt
 exact Calls.Name_function_global I.ok.kind hg (Calls.loadGlobal_builtin (by rw [I.ok.glob];exact I.mod.glob.keeps I.bk) hm (by rw [I.ok.blt];exact h1.keeps I.bk) ((h2 x hn).trans hv) h) hd
theorem pe_bltn {x:Str}{v:V}{u:Value}{pos:Pos} (hg:Gl X x) (hm:X.mg x=none) (hv:bootBuiltins x=some u) (r:RelV v u) (hn:x≠"__name__":=by decide) (hd:(x==("__debug__":Str))=false:=by decide):PE X (.Name x pos) (tC v):=
 fun _ _ _ H _ I h=>ld_blt I hg hm hv ⟨v,H,I,r,h⟩ hn hd
variable {a b:Expr}{ta tb:TE}{pos:Pos}
variable {tA tB':TT}{rest:List Expr}
def tAnd (t u:TT):TT:=fun σ H Q=>t σ H fun c H1=>if c=true then u σ H1 Q else Q false H1
def tOr (t u:TT):TT:=fun σ H Q=>t σ H fun c H1=>if c=true then Q true H1 else u σ H1 Q
def tNot (t:TT):TT:=fun σ H Q=>t σ H fun c H1=>Q (!c) H1
theorem pw_and1 (ha:PT X a tA):PW X (.BoolOp .And [a] pos) tA:=by
 intro wh pins s σ H Q I h
 refine isTrue_and (thn (ha pins s σ H Q I h) fun c s1 e=>?_)
 cases c with
 | true=>exact isTrue_and_nil e
 | false=>exact e
theorem pw_or1 (ha:PT X a tA):PW X (.BoolOp .Or [a] pos) tA:=by
 intro wh pins s σ H Q I h
 refine isTrue_or (thn (ha pins s σ H Q I h) fun c s1 e=>?_)
 cases c with
 | false=>exact isTrue_or_nil e
 | true=>exact e
theorem pw_and (ha:PT X a tA) (hb:PW X (.BoolOp .And (b::rest) pos) tB'):PW X (.BoolOp .And (a::b::rest) pos) (tAnd tA tB'):=by
 intro wh pins s σ H Q I h
 refine isTrue_and (thn (ha pins s σ H _ I h) fun c s1 ⟨H1,I1,q1⟩=>?_)
 cases c with
 | true=>exact hb wh pins s1 σ H1 Q I1 q1
 | false=>exact⟨H1,I1,q1⟩
theorem pw_or (ha:PT X a tA) (hb:PW X (.BoolOp .Or (b::rest) pos) tB'):PW X (.BoolOp .Or (a::b::rest) pos) (tOr tA tB'):=by
 intro wh pins s σ H Q I h
 refine isTrue_or (thn (ha pins s σ H _ I h) fun c s1 ⟨H1,I1,q1⟩=>?_)
 cases c with
 | true=>exact⟨H1,I1,q1⟩
 | false=>exact hb wh pins s1 σ H1 Q I1 q1
theorem pt_not (ha:PT X a tA):PT X (.UnaryOp .Not a pos) (tNot tA):=by
 intro pins s σ H Q I h
 exact isTrue_not (ha pins s σ H (fun c H1=>Q (!c) H1) I h)
def tAndV (ta tb:TE):TE:=fun σ H Q=>ta σ H fun x H1=>∃c,x=.bl c∧if c=true then tb σ H1 Q else Q (.bl false) H1
def tOrV (ta tb:TE):TE:=fun σ H Q=>ta σ H fun x H1=>∃c,x=.bl c∧if c=true then Q (.bl true) H1 else tb σ H1 Q
def tNotV (ta:TE):TE:=fun σ H Q=>ta σ H fun x H1=>∃c,x=.bl c∧Q (.bl (!c)) H1
theorem pe_one {op}{t:TE} (h:PE X a t):PE X (.BoolOp op [a] pos) t:=fun pins s σ H Q I hw=>BoolOp_one (h pins s σ H Q I hw)
theorem pe_and (ha:PE X a ta) (hb:PE X (.BoolOp .And (b::rest) pos) tb):PE X (.BoolOp .And (a::b::rest) pos) (tAndV ta tb):=by
 intro pins s σ H Q I h
 refine BoolOp_and (thn (ha pins s σ H _ I h) fun v s1 ⟨x,H1,I1,r1,q1⟩=>?_)
 obtain⟨c,rfl,q1⟩:=q1
 cases r1
 refine wpAny_truthy_bool ?_
 cases c with
 | true=>exact hb pins s1 σ H1 Q I1 q1
 | false=>exact⟨.bl false,H1,I1,rfl,q1⟩
theorem pe_or (ha:PE X a ta) (hb:PE X (.BoolOp .Or (b::rest) pos) tb):PE X (.BoolOp .Or (a::b::rest) pos) (tOrV ta tb):=by
 intro pins s σ H Q I h
 refine BoolOp_or (thn (ha pins s σ H _ I h) fun v s1 ⟨x,H1,I1,r1,q1⟩=>?_)
 obtain⟨c,rfl,q1⟩:=q1
 cases r1
 refine wpAny_truthy_bool ?_
 cases c with
 | false=>exact hb pins s1 σ H1 Q I1 q1
 | true=>exact⟨.bl true,H1,I1,rfl,q1⟩
theorem pe_not (ha:PE X a ta):PE X (.UnaryOp .Not a pos) (tNotV ta):=by
 intro pins s σ H Q I h
 refine UnaryOp_ (thn (ha pins s σ H _ I h) fun v s1 ⟨x,H1,I1,r1,q1⟩=>?_)
 obtain⟨c,rfl,q1⟩:=q1
 cases r1
 exact not_of (wpAny_truthy_bool ⟨.bl (!c),H1,I1,rfl,q1⟩)
def tIf (t:TT) (ta tb:TE):TE:=fun σ H Q=>t σ H fun c H1=>if c=true then ta σ H1 Q else tb σ H1 Q
theorem pe_ifExp {c:Expr} (hc:PT X c tA) (ha:PE X a ta) (hb:PE X b tb):PE X (.IfExp c a b pos) (tIf tA ta tb):=by
 intro pins s σ H Q I h
 refine wpAny_IfExp (thn (hc pins s σ H _ I h) fun d s1 ⟨H1,I1,q1⟩=>?_)
 cases d with
 | true=>exact ha pins s1 σ H1 Q I1 q1
 | false=>exact hb pins s1 σ H1 Q I1 q1
end
end L2
namespace L2
open PySem PySem.Spec PyProof.Rows
def SqL (K:PySem.W.Frag) (H:Hp) (a:Addr) (xs:List V):Prop:=
 Rd H a (.lst xs)∨
  ∃(o:Obj) (its:Array Value) (n:Nat),K.lookup a=some o∧o.cls=.type "list"∧o.dict=none∧o.data=.seq its n∧its.size≤sizeLine∧Vals xs its.toList
def SqT (K:PySem.W.Frag) (H:Hp) (a:Addr) (xs:List V):Prop:=
 Rd H a (.tup xs)∨
  ∃(o:Obj) (its:Array Value) (n:Nat),K.lookup a=some o∧o.cls=.type "tuple"∧o.data=.seq its n∧its.size≤sizeLine∧Vals xs its.toList
def absV:Value→Option V
 | .none=>some .non
 | .bool b=>some (.bl b)
 | .int i _=>some (.int i)
 | .str x _=>some (.str x)
 | .bytes b _=>some (.byt b)
 | .float b _=>some (.flt b)
 | .ref a=>some (.ref a)
 | .type n=>some (.ty n)
 | _=>none
theorem RelV.abs {x:V}{u:Value} (r:RelV x u):absV u=some x:=by
 cases x with
 | non=>cases r;rfl
 | bl _=>cases r;rfl
 | int _=>obtain⟨t,rfl⟩:=r;rfl
 | str _=>obtain⟨t,rfl⟩:=r;rfl
 | byt _=>obtain⟨t,rfl⟩:=r;rfl
 | flt _=>obtain⟨t,rfl⟩:=r;rfl
 | ref _=>cases r;rfl
 | ty _=>cases r;rfl
theorem RelV.inj {x y:V}{u:Value} (r:RelV x u) (q:RelV y u):x=y:=Option.some.inj (r.abs.symm.trans q.abs)
theorem Vals.inj:∀{xs ys:List V}{us:List Value},Vals xs us→Vals ys us→xs=ys
 | _,_,_,.nil,.nil=>rfl
 | _,_,_,.cons r t,.cons r' t'=>by rw [r.inj r',Vals.inj t t']
section
variable {X:Cx}{pins:List (Addr×Obj)}{σ:St}{H:Hp}{s:Shared}{a:Addr}{xs ys:List V}
theorem SqL.of {K:PySem.W.Frag} (h:H a=some (.lst xs)):SqL K H a xs:=.inl (.inl h)
theorem SqT.of {K:PySem.W.Frag} (h:H a=some (.tup xs)):SqT K H a xs:=.inl (.inl h)
theorem Inv.list (I:Inv X pins σ H s) (h:SqL X.K H a xs):∃its:List Value,Vals xs its∧PlainL s.heap a its.toArray∧xs.length≤sizeLine:=by
 rcases h with h | ⟨o,its,n,hk,hc,hd,hs,hz,r⟩
 ·obtain⟨z,its,n,r,e⟩:=h.ok I.hok
  exact⟨its,r,⟨_,n,e,rfl,rfl,rfl⟩,z⟩
 ·refine⟨its.toList,r,⟨o,n,I.kIn a o hk,hc,hd,by simpa using hs⟩,?_⟩
  have e:=r.length
  simp only [Array.length_toList] at e
  omega
theorem Inv.tuple (I:Inv X pins σ H s) (h:SqT X.K H a xs):∃its:List Value,Vals xs its∧IsTup s.heap a its.toArray∧xs.length≤sizeLine:=by
 rcases h with h | ⟨o,its,n,hk,hc,hs,hz,r⟩
 ·obtain⟨z,its,r,p⟩:=h.ok I.hok
  exact⟨its,r,p,z⟩
 ·refine⟨its.toList,r,⟨o,I.kIn a o hk,hc,n,by simpa using hs⟩,?_⟩
  have e:=r.length
  simp only [Array.length_toList] at e
  omega
theorem Inv.list_inj (I:Inv X pins σ H s) (h:SqL X.K H a xs) (h':SqL X.K H a ys):xs=ys:=by
 obtain⟨its,r,⟨o,n,e,_,_,d⟩,_⟩:=I.list h
 obtain⟨its',r',⟨o',n',e',_,_,d'⟩,_⟩:=I.list h'
 rw [e] at e';cases e'
 rw [d] at d'
 injection d' with d1 _
 have:its=its':=by simpa using congrArg Array.toList d1
 subst this
 exact r.inj r'
theorem Inv.tuple_inj (I:Inv X pins σ H s) (h:SqT X.K H a xs) (h':SqT X.K H a ys):xs=ys:=by
 obtain⟨its,r,⟨o,e,_,n,d⟩,_⟩:=I.tuple h
 obtain⟨its',r',⟨o',e',_,n',d'⟩,_⟩:=I.tuple h'
 rw [e] at e';cases e'
 rw [d] at d'
 injection d' with d1 _
 have:its=its':=by simpa using congrArg Array.toList d1
 subst this
 exact r.inj r'
end
abbrev Cx.wish (X:Cx) (E:Value→Shared→Prop):Cx:={X with xe:=E}
abbrev Cx.nox (X:Cx):Cx:=X.wish fun _ _=>False
theorem Cx.Ok.wish {X:Cx} (ok:X.Ok) (E:Value→Shared→Prop):(X.wish E).Ok:=
 ⟨ok.mod,ok.kind,ok.glob,ok.blt,ok.above,ok.inj,ok.has,ok.cab,ok.hd,ok.frames,ok.stk,ok.exf,ok.bs,ok.bsz,ok.noex,ok.exfs,ok.funs,ok.frf⟩
theorem Cx.Ok.unwish {X:Cx}{E:Value→Shared→Prop} (ok:(X.wish E).Ok):X.Ok:=
 ⟨ok.mod,ok.kind,ok.glob,ok.blt,ok.above,ok.inj,ok.has,ok.cab,ok.hd,ok.frames,ok.stk,ok.exf,ok.bs,ok.bsz,ok.noex,ok.exfs,ok.funs,ok.frf⟩
section
variable {X:Cx}{pins:List (Addr×Obj)}{σ:St}{H:Hp}{s:Shared}{E:Value→Shared→Prop}
theorem Inv.wish (I:Inv X pins σ H s) (E:Value→Shared→Prop):Inv (X.wish E) pins σ H s:=⟨I.ok.wish E,I.os,I.bare,I.base,I.loc,I.cell,I.free,I.freeC,I.pin,I.hok,I.len⟩
theorem Inv.unwish (I:Inv (X.wish E) pins σ H s):Inv X pins σ H s:=⟨I.ok.unwish,I.os,I.bare,I.base,I.loc,I.cell,I.free,I.freeC,I.pin,I.hok,I.len⟩
theorem SP.unwish {D:Ends}{f:Flow}{s':Shared} (h:SP (X.wish E) pins D f s'):SP X pins D f s':=by
 cases f with
 | next=>obtain⟨σ',H',I,q⟩:=h;exact⟨σ',H',I.unwish,q⟩
 | brk=>obtain⟨σ',H',I,q⟩:=h;exact⟨σ',H',I.unwish,q⟩
 | cont=>obtain⟨σ',H',I,q⟩:=h;exact⟨σ',H',I.unwish,q⟩
 | ret u=>obtain⟨v,σ',H',I,r,q⟩:=h;exact⟨v,σ',H',I.unwish,r,q⟩
theorem PSs.nox {st:List Stmt}{t:TS} (h:PSs X.nox st t):PSs X st t:=fun pins s σ H D I hw=>
 wpAny_mono (h pins s σ H D (I.wish _) hw) (fun _ _ q=>q.unwish) fun _ _ z=>False.elim z
end
section
variable {X:Cx}{st:Stmt}{rest:List Stmt}{t u:TS}{e:Expr}{te:TE}{pos:Pos}
def tNext:TS:=fun D σ H=>D.nx σ H
def tSeq (t u:TS):TS:=fun D σ H=>t {D with nx:=u D} σ H
theorem pss_nil:PSs X [] tNext:=fun _ _ σ H _ I h=>wpAny_execs_nil ⟨σ,H,I,h⟩
theorem pss_cons (h1:PS X st t) (h2:PSs X rest u):PSs X (st::rest) (tSeq t u):=by
 intro pins s σ H D I h
 refine wpAny_execs_cons (thn (h1 pins s σ H {D with nx:=u D} I h) fun f s1 q=>?_)
 cases f with
 | next=>
  obtain⟨σ',H',I',q⟩:=q
  exact h2 pins s1 σ' H' D I' q
 | ret v=>exact q
 | brk=>exact q
 | cont=>exact q
theorem pss_one (h1:PS X st t):PSs X [st] t:=by
 intro pins s σ H D I h
 refine wpAny_execs_cons (thn (h1 pins s σ H D I h) fun f s1 q=>?_)
 cases f with
 | next=>exact wpAny_execs_nil q
 | ret v=>exact q
 | brk=>exact q
 | cont=>exact q
def tCont:TS:=fun D σ H=>D.ct σ H
theorem ps_continue:PS X (.Continue pos) tCont:=fun _ _ σ H _ I h=>wpAny_Continue ⟨σ,H,I,h⟩
theorem Inv.quiet {pins:List (Addr×Obj)}{σ:St}{H:Hp}{s:Shared} (I:Inv X pins σ H s):interactive X.env=false:=by simp [interactive,I.ok.kind]
def tDrop (te:TE):TS:=fun D σ H=>te σ H fun _ H1=>D.nx σ H1
theorem ps_expr (he:PE X e te) (hs:swapsWith e none pos.line X.env=pure false:=by rfl):PS X (.Expr e pos) (tDrop te):=by
 intro pins s σ H D I h
 exact wpAny_Expr_any (thn (he pins s σ H _ I h) fun v s1 ⟨x,H1,I1,r1,q1⟩=>⟨σ,H1,I1,q1⟩) I.quiet hs
def tRet (te:TE):TS:=fun D σ H=>te σ H D.rt
theorem ps_ret (he:PE X e te):PS X (.Return (some e) pos) (tRet te):=by
 intro pins s σ H D I h
 exact wpAny_Return_some (thn (he pins s σ H _ I h) fun v s1 ⟨x,H1,I1,r1,q1⟩=>⟨x,σ,H1,I1,r1,q1⟩)
def tIfS (c:TT) (t u:TS):TS:=fun D σ H=>c σ H fun b H1=>if b=true then t D σ H1 else u D σ H1
theorem ps_if {c:Expr}{a b:List Stmt}{tc:TT} (hc:PT X c tc) (ha:PSs X a t) (hb:PSs X b u):PS X (.If c a b pos) (tIfS tc t u):=by
 intro pins s σ H D I h
 refine wpAny_If (thn (hc pins s σ H _ I h) fun d s1 ⟨H1,I1,q1⟩=>?_)
 cases d with
 | true=>exact ha pins s1 σ H1 D I1 q1
 | false=>exact hb pins s1 σ H1 D I1 q1
def tNever:TS:=fun _ _ _=>False
end
abbrev TG:=V→St→Hp→(St→Hp→Prop)→Prop
abbrev TGs:=List V→St→Hp→(St→Hp→Prop)→Prop
def PG (X:Cx) (target:Expr) (t:TG):Prop:=
 ∀(pins:List (Addr×Obj)) (s:Shared) (σ:St) (H:Hp) (v:V) (u:Value) (Q:St→Hp→Prop),Inv X pins σ H s→RelV v u→t v σ H Q→
  wpAny (model X.prog X.w) X.A (assign target X.env u) (fun _ s'=>∃σ' H',Inv X pins σ' H' s'∧Q σ' H') X.xe s
def PGs (X:Cx) (ts:List Expr) (t:TGs):Prop:=
 ∀(pins:List (Addr×Obj)) (s:Shared) (σ:St) (H:Hp) (vs:List V) (us:List Value) (Q:St→Hp→Prop),Inv X pins σ H s→Vals vs us→t vs σ H Q→
  wpAny (model X.prog X.w) X.A (assignInOrder ((assignEach ts X.env).map (·.2)) us) (fun _ s'=>∃σ' H',Inv X pins σ' H' s'∧Q σ' H') X.xe s
abbrev TSet:=V→V→V→Hp→(Hp→Prop)→Prop
def PSet (X:Cx) (t:TSet):Prop:=
 ∀(pins:List (Addr×Obj)) (s:Shared) (σ:St) (H:Hp) (o i v:V) (ov iv u:Value) (Q:Hp→Prop),Inv X pins σ H s→RelV o ov→RelV i iv→RelV v u→t o i v H Q→
  wpAny (model X.prog X.w) X.A (setItem ov iv u) (fun _ s'=>∃H',Inv X pins σ H' s'∧Q H') X.xe s
abbrev TIp:=V→V→Hp→VK→Prop
def PIp (X:Cx) (op:Operator) (t:TIp):Prop:=
 ∀(pins:List (Addr×Obj)) (s:Shared) (σ:St) (H:Hp) (x y:V) (v u:Value) (Q:VK),Inv X pins σ H s→RelV x v→RelV y u→t x y H Q→
  wpAny (model X.prog X.w) X.A (inplaceOp op v u) (EP X pins σ Q) X.xe s
section
variable {X:Cx}{pos:Pos}
def gName (i:Nat):TG:=fun v σ H Q=>Q (σ.set i (some v)) H
theorem pg_name {i:Nat}{x:Str} (hN:X.N.Nodup) (hi:X.N[i]?=some x) (hx:Loc X.env.scope x) (hf:X.fn x=true∨X.env.scope.names.lookup x=some .local:=by first | exact .inl rfl | exact .inr rfl | assumption):PG X (.Name x pos) (gName i):=by
 intro pins s σ H v u Q I r h
 exact wpAny_assign_Name (store_ok I hN hi hx r (fun s' I'=>⟨_,H,I',h⟩) hf)
def gNil:TGs:=fun vs σ H Q=>vs=[]∧Q σ H
def gCons (t:TG) (u:TGs):TGs:=fun vs σ H Q=>∃v r,vs=v::r∧t v σ H fun σ' H'=>u r σ' H' Q
theorem pgs_nil:PGs X [] gNil:=by
 intro pins s σ H vs us Q I r h
 obtain⟨e,h⟩:=h
 subst e
 cases r
 exact assignInOrder_nil ⟨σ,H,I,h⟩
theorem pgs_cons {e:Expr}{es:List Expr}{t:TG}{u:TGs} (h1:PG X e t) (h2:PGs X es u)
  (hs:(assignEach (e::es) X.env).map (·.2)=assign e X.env::(assignEach es X.env).map (·.2):=by rfl):PGs X (e::es) (gCons t u):=by
 intro pins s σ H vs us Q I r h
 obtain⟨v,vr,e1,h⟩:=h
 subst e1
 cases r with
 | cons r rr=>
  rw [hs]
  refine assignInOrder_cons (thn (h1 pins s σ H _ _ _ I r h) fun _ s1 ⟨σ1,H1,I1,q1⟩=>?_)
  exact h2 pins s1 σ1 H1 _ _ Q I1 rr q1
def gTup (K:PySem.W.Frag) (n:Nat) (t:TGs):TG:=fun v σ H Q=>∃a xs,v=.ref a∧SqT K H a xs∧xs.length=n∧t xs σ H Q
theorem pg_tup {es:List Expr}{k:Nat}{t:TGs}{n:Nat} (hc:X.calm=true) (h:PGs X es t)
  (hn:(assignEach es X.env).length=n:=by rfl) (hst:(assignEach es X.env).findIdx? (·.1)=none:=by rfl):PG X (.Tuple es k pos) (gTup X.K n t):=by
 intro pins s σ H v u Q I r hw
 obtain⟨a,xs,e1,hq,hl,hw⟩:=hw
 subst e1
 cases r
 obtain⟨its,rv,ht,hz⟩:=I.tuple hq
 refine assign_Tuple_tuple (I.ok.hd hc) ht (by simp [hn,← hl,rv.length]) hst fun h' hx=>?_
 have I1:Inv X pins σ H {s with heap:=h'}:=I.kept (t':=s.toks) fun b o e=>hx b o (Nat.ne_of_lt (Heap.lt_size e)) e
 exact h pins _ σ H xs _ Q I1 (by simpa using rv) hw
def gSub (to ti:TE) (t:TSet):TG:=fun v σ H Q=>to σ H fun o H1=>ti σ H1 fun i H2=>t o i v H2 fun H3=>Q σ H3
theorem pg_sub {o i:Expr}{to ti:TE}{t:TSet} (ho:PE X o to) (hi:PE X i ti) (hs:PSet X t)
  (ha:∀v,assign (.Subscript o i pos) X.env v=(do
   let ov ← holding [v] (eval o X.env)
   let iv ← holding [v,ov] (eval i X.env)
   standAt pos
   holding [v,ov,iv] (setItem ov iv v)
   release [v,ov,iv] []):=by intro _;rfl):PG X (.Subscript o i pos) (gSub to ti t):=by
 intro pins s σ H v u Q I r h
 rw [ha]
 refine wpAny_bind (wpAny_holding (thn (ho pins s σ H _ I h) fun ov s1 ⟨x,H1,I1,r1,q1⟩=>?_))
 refine wpAny_bind (wpAny_holding (thn (hi pins s1 σ H1 _ I1 q1) fun iv s2 ⟨y,H2,I2,r2,q2⟩=>?_))
 refine wpAny_bind (wpAny_standAt (wpAny_bind (wpAny_holding (thn (hs pins s2 σ H2 x y v ov iv u _ I2 r1 r2 r q2) fun _ s3 ⟨H3,I3,q3⟩=>?_))))
 exact wpAny_release ⟨σ,H3,I3,q3⟩
def tAsg (te:TE) (g:TG):TS:=fun D σ H=>te σ H fun x H1=>g x σ H1 D.nx
theorem ps_asg {tg e:Expr}{te:TE}{g:TG} (he:PE X e te) (hg:PG X tg g) (hs:swapsWithSole [tg] e pos.line X.env=pure false:=by rfl) (hw:swappedStores [tg] e X.env=pure none:=by rfl)
  (h1:(assignEach [tg] X.env).map (·.2)=[assign tg X.env]:=by rfl):PS X (.Assign [tg] e pos) (tAsg te g):=by
 intro pins s σ H D I h
 refine wpAny_Assign_stores (thn (he pins s σ H _ I h) fun v s1 ⟨x,H1,I1,r1,q1⟩=>?_) hs hw
 rw [h1]
 exact thn (hg pins s1 σ H1 x v _ I1 r1 q1) fun _ s2 q=>q
theorem ps_set {i:Nat}{x:Str}{e:Expr}{te:TE}{pos':Pos} (hN:X.N.Nodup) (hi:X.N[i]?=some x) (hx:Loc X.env.scope x) (he:PE X e te) (hs:swapsWith e (some (.Name x pos')) pos.line X.env=pure false:=by rfl) (hf:X.fn x=true∨X.env.scope.names.lookup x=some .local:=by first | exact .inl rfl | exact .inr rfl | assumption) :
  PS X (.Assign [.Name x pos'] e pos) (tAsg te (gName i)):=by
 intro pins s σ H D I h
 refine wpAny_Assign_Name (thn (he pins s σ H _ I h) fun v s1 ⟨y,H1,I1,r1,q1⟩=>?_) hs
 exact store_ok I1 hN hi hx r1 (fun s2 I2=>⟨_,H1,I2,q1⟩) hf
def tAugS (to ti te:TE) (tget:V→V→Hp→VK→Prop) (tip:TIp) (tset:TSet):TS:=fun D σ H=>to σ H fun o H1=>ti σ H1 fun i H2=>tget o i H2 fun x H3=>te σ H3 fun y H4=>tip x y H4 fun z H5=>tset o i z H5 fun H6=>D.nx σ H6
def PGet (X:Cx) (t:V→V→Hp→VK→Prop):Prop:=
 ∀(pins:List (Addr×Obj)) (s:Shared) (σ:St) (H:Hp) (o i:V) (ov iv:Value) (Q:VK),Inv X pins σ H s→RelV o ov→RelV i iv→t o i H Q→
  wpAny (model X.prog X.w) X.A (getItem ov iv) (EP X pins σ Q) X.xe s
theorem ps_augS {o i e:Expr}{to ti te:TE}{tget:V→V→Hp→VK→Prop}{tip:TIp}{tset:TSet}{op:Operator}{tpos:Pos} (ho:PE X o to) (hi:PE X i ti) (hg:PGet X tget) (he:PE X e te) (hp:PIp X op tip) (hs:PSet X tset)
  (ha:∀ov iv new,augStore i ov iv new=(do holding [new,ov,iv] (setItem ov iv new);release [new,ov,iv] [];pure .next):=by intros;rfl):PS X (.AugAssign (.Subscript o i tpos) op e pos) (tAugS to ti te tget tip tset):=by
 intro pins s σ H D I h
 refine wpAny_AugAssign_SubscriptAny (thn (ho pins s σ H _ I h) fun ov s1 ⟨x1,H1,I1,r1,q1⟩=>?_) ha
 refine thn (hi pins s1 σ H1 _ I1 q1) fun iv s2 ⟨x2,H2,I2,r2,q2⟩=>?_
 refine thn (hg pins s2 σ H2 x1 x2 ov iv _ I2 r1 r2 q2) fun old s3 ⟨x3,H3,I3,r3,q3⟩=>?_
 refine thn (he pins s3 σ H3 _ I3 q3) fun v s4 ⟨x4,H4,I4,r4,q4⟩=>?_
 refine thn (hp pins s4 σ H4 x3 x4 old v _ I4 r3 r4 q4) fun new s5 ⟨x5,H5,I5,r5,q5⟩=>?_
 exact thn (hs pins s5 σ H5 x1 x2 x5 ov iv new _ I5 r1 r2 r5 q5) fun _ s6 ⟨H6,I6,q6⟩=>⟨σ,H6,I6,q6⟩
def ipI (f:Int→Int→Int):TIp:=fun x y H Q=>∃i j,x=.int i∧y=.int j∧Q (.int (f i j)) H
theorem ip_add:PIp X .Add (ipI fun i j=>i+j):=by
 intro pins s σ H x y v u Q I r1 r2 h
 obtain⟨i,j,e1,e2,q⟩:=h
 subst e1;subst e2
 obtain⟨t,rfl⟩:=r1
 obtain⟨t',rfl⟩:=r2
 exact iadd_int ⟨.int _,H,I.tok _,⟨_,rfl⟩,q⟩
end
section
variable {X:Cx}{pos:Pos}
def tWhile (c:TT) (tb:TS):TS:=fun D σ H=>∃W:Nat→St→Hp→Prop,(∃m,W m σ H)∧∀m σ H,W m σ H→
 c σ H fun b H1=>if b=true then ∃N:St→Hp→Prop,(∀σ' H',N σ' H'→∃m',m' < m∧W m' σ' H')∧tb {D with nx:=N,ct:=N,bk:=D.nx} σ H1 else D.nx σ H1
theorem ps_while {c:Expr}{body:List Stmt}{tc:TT}{tb:TS} (hp:PassesOwn (model X.prog X.w) X.A X.env X.xe) (hc:PT X c tc) (hb:PSs X body tb):PS X (.While c body [] pos) (tWhile tc tb):=by
 intro pins s σ H D I h
 obtain⟨W,⟨m0,w0⟩,turn⟩:=h
 refine wpAny_While (codeAny_whileLoop (fun n s'=>∃σ' H',Inv X pins σ' H' s'∧W n σ' H') ?_ m0 ⟨σ,H,I,w0⟩)
 rintro n s1 ⟨σ1,H1,I1,w1⟩
 refine wpAny_passesOwn hp (thn (hc pins s1 σ1 H1 _ I1 (turn n σ1 H1 w1)) fun b s2 ⟨H2,I2,q2⟩=>?_)
 cases b with
 | true=>
  obtain⟨N,hN,q2⟩:=q2
  rw [if_pos rfl]
  refine wpAny_passesOwn hp (thn (hb pins s2 σ1 H2 _ I2 q2) fun f s3 q3=>?_)
  cases f with
  | next=>
   obtain⟨σ3,H3,I3,n3⟩:=q3
   obtain⟨m',hm,w3⟩:=hN σ3 H3 n3
   exact⟨m',hm,σ3,H3,I3,w3⟩
  | cont=>
   obtain⟨σ3,H3,I3,n3⟩:=q3
   obtain⟨m',hm,w3⟩:=hN σ3 H3 n3
   exact⟨m',hm,σ3,H3,I3,w3⟩
  | brk=>exact q3
  | ret v=>exact q3
 | false=>
  rw [if_neg Bool.false_ne_true]
  exact wpAny_execs_nil ⟨σ1,H2,I2,q2⟩
end
structure It where
 go:Nat→Hp→Prop
 yld:Nat→Hp→V→Hp→Prop
 stop:Nat→Hp→Prop
def FpOk (X:Cx) (pins:List (Addr×Obj)) (H:Hp) (b:Addr):Prop:=
 H b=none∧b≠X.env.locals∧b∉X.fs∧(b∈X.ex∨X.s₀.heap.objs.size≤b)∧(∀x c,X.env.cells.lookup x=some c→c≠b)∧∀p∈X.pn++pins,p.1≠b
theorem Inv.fpOk {X:Cx}{pins:List (Addr×Obj)}{σ:St}{H H':Hp}{s:Shared}{b:Addr} (I:Inv X pins σ H s) (hb:s.heap.objs.size≤b) (hn:H' b=none):FpOk X pins H' b:=by
 refine⟨hn,Nat.ne_of_gt (Nat.lt_of_lt_of_le I.lt hb),I.nofs hb,.inr (Nat.le_trans I.sz hb),fun x c e z=>?_,fun p hp z=>?_⟩
 ·obtain⟨v,q⟩:=I.cell x c e
  exact absurd (Nat.lt_of_lt_of_le q.lt (by rw [z];exact hb)) (Nat.lt_irrefl _)
 ·exact absurd (Nat.lt_of_lt_of_le (Heap.lt_size (I.pin p hp).1) (by rw [z];exact hb)) (Nat.lt_irrefl _)
structure Turn (P:Program) (w:World) (K:PySem.W.Frag) (tg:Expr) (J:It) (fp:List Addr) (it:Addr) (tn:Nat→Heap→Prop):Prop where
 mem:it∈fp
 obj:∀i h,tn i h→∀b∈fp,∃o,h.get? b=some o∧∀v,o.data≠.cell v
 keep:∀i h h',tn i h→(∀b∈fp,∀o,h.get? b=some o→h'.get? b=some o)→tn i h'
 item:∀(X:Cx),X.prog=P→X.w=w→X.K=K→X.calm=true→∀(i:Nat) (pins:List (Addr×Obj)) (s:Shared) (σ:St) (H:Hp) (E:Value→Shared→Prop),Inv X pins σ H s→(∀b∈fp,FpOk X pins H b)→tn i s.heap→J.go i H→
  wpAny (model P w) X.A (pyNext (.ref it)) (fun r s1=>∃u,r=some u∧
   wpAny (model P w) X.A (letOwnedTupleGo tg (.ref it) u) (fun _ s2=>∃x H',Inv X pins σ H' s2∧RelV x u∧J.yld i H x H'∧tn (i+1) s2.heap∧∀b∈fp,H' b=none) E s1) E s
 done:∀(X:Cx),X.prog=P→X.w=w→X.K=K→X.calm=true→∀(i:Nat) (pins:List (Addr×Obj)) (s:Shared) (σ:St) (H:Hp) (E:Value→Shared→Prop),Inv X pins σ H s→(∀b∈fp,FpOk X pins H b)→tn i s.heap→J.stop i H→
  wpAny (model P w) X.A (pyNext (.ref it)) (fun r s1=>r=none∧Inv X pins σ H s1) E s
 self:∀(A:Around) (i:Nat) (s:Shared) (Q:Value→Shared→Prop) (E:Value→Shared→Prop),tn i s.heap→Q (.ref it) s→wpAny (model P w) A (pyIter (.ref it)) Q E s
abbrev TI:=St→Hp→(It→Hp→Prop)→Prop
def PIE (X:Cx) (pins:List (Addr×Obj)) (σ:St) (tg:Expr) (R:It→Hp→Prop) (itv:Value) (s2:Shared):Prop:=
 ∃(it:Addr) (fp:List Addr) (tn:Nat→Heap→Prop) (J:It) (H':Hp),itv=.ref it∧Inv X pins σ H' s2∧Turn X.prog X.w X.K tg J fp it tn∧tn 0 s2.heap∧(∀b∈fp,FpOk X pins H' b)∧R J H'
def PI (X:Cx) (tg iter:Expr) (wi:TI):Prop:=
 ∀(pins:List (Addr×Obj)) (s:Shared) (σ:St) (H:Hp) (R:It→Hp→Prop),Inv X pins σ H s→wi σ H R→
  wpAny (model X.prog X.w) X.A (eval iter X.env) (fun v s1=>wpAny (model X.prog X.w) X.A (pyIter v) (PIE X pins σ tg R) X.xe s1) X.xe s
theorem go_of {M:Model}{A:Around}{E:Value→Shared→Prop}{s:Shared}{tg:Expr}{it:Addr}{u:Value}{o:Obj}{n:String}{vs:Array Value}{Q:Unit→Shared→Prop} (ho:s.heap.get? it=some o) (hc:o.cls=.type n) (hd:o.data=.fields vs)
  (hn:["enumerate","zip","dict_itemiterator","dict_reverseitemiterator","odict_iterator","itertools.zip_longest","itertools.pairwise"].contains n=false) (hQ:Q () s):wpAny M A (letOwnedTupleGo tg (.ref it) u) Q E s:=by
 unfold letOwnedTupleGo
 cases tg <;> first
  | exact wpAny_pure hQ
  | (cases u <;> first
    | exact wpAny_pure hQ
    | (
      refine wpAny_bind (wpAny_load ho ?_)
      rw [hc,hd]
      show wpAny M A (if (["enumerate","zip","dict_itemiterator","dict_reverseitemiterator","odict_iterator","itertools.zip_longest","itertools.pairwise"].contains n&&vs[0]?==some (rawInt _))=true then _ else _) Q E s
      rw [if_neg (by intro h;rw [hn,Bool.false_and] at h;cases h)]
      exact wpAny_pure hQ))
def Itl (K:PySem.W.Frag) (a:Addr):It:=
 ⟨fun i H=>∃xs x,SqL K H a xs∧xs[i]?=some x,fun i H x H'=>H'=H∧∀xs,SqL K H a xs→xs[i]?=some x,fun i H=>∃xs,SqL K H a xs∧xs.length≤i⟩
def Itt (K:PySem.W.Frag) (a:Addr):It:=
 ⟨fun i H=>∃xs x,SqT K H a xs∧xs[i]?=some x,fun i H x H'=>H'=H∧∀xs,SqT K H a xs→xs[i]?=some x,fun i H=>∃xs,SqT K H a xs∧xs.length≤i⟩
def Itr (lo:Int) (n:Nat):It:=⟨fun i _=>i < n,fun i H x H'=>H'=H∧x=.int (lo+i),fun i _=>n≤i⟩
theorem turn_list {P:Program}{w:World}{K:PySem.W.Frag}{tg:Expr} (a it:Addr):Turn P w K tg (Itl K a) [it] it (fun i h=>h.IsListIter it a i) where
 mem:=by simp
 obj:=fun i h st b hb=>by
  have e:b=it:=by simpa using hb
  subst e
  obtain⟨o,e,c,d⟩:=st
  exact⟨o,e,fun v z=>by rw [d] at z;cases z⟩
 keep:=fun i h h' st k=>st.at fun o e=>k it (by simp) o e
 item:=by
  intro X hP hw hK hc i pins s σ H E I hf st hg
  subst hP hw hK
  obtain⟨xs,x,hq,hx⟩:=hg
  obtain⟨its,rv,p,hz⟩:=I.list hq
  obtain⟨u,hu,ru⟩:=rv.get hx
  obtain⟨f0,f1,f2,f3,f4,f5⟩:=hf it (by simp)
  refine wpAny_pyNext_list_item st p.isList (x:=u) (by simpa using hu) fun h' st' sb=>?_
  have I1:Inv X pins σ H {s with heap:=h'}:=I.turned (t':=s.toks) (fun b o hb e=>(sb.2 b hb).trans e) f0 f1 f3 f4 f5
  obtain⟨o,e,c,d⟩:=id st'
  exact⟨u,rfl,go_of (s:={s with heap:=h'}) e c d (by decide) ⟨x,H,I1,ru,⟨rfl,fun ys hy=>by rw [I.list_inj hy hq];exact hx⟩,st',fun b hb=>(hf b hb).1⟩⟩
 done:=by
  intro X hP hw hK hc i pins s σ H E I hf st hg
  subst hP hw hK
  obtain⟨xs,hq,hx⟩:=hg
  obtain⟨its,rv,p,hz⟩:=I.list hq
  obtain⟨f0,f1,f2,f3,f4,f5⟩:=hf it (by simp)
  have hl:=rv.length
  exact wpAny_pyNext_list_end (I.ok.hd hc) st p.isList (by simp;omega) fun h' eb=>⟨rfl,I.turned (t':=s.toks) (fun b o hb e=>eb b o hb e) f0 f1 f3 f4 f5⟩
 self:=fun _ _ _ _ _ st h=>wpAny_pyIter_listiter st h
theorem turn_tuple {P:Program}{w:World}{K:PySem.W.Frag}{tg:Expr} (a it:Addr):Turn P w K tg (Itt K a) [it] it (fun i h=>h.IsTupleIter it a i) where
 mem:=by simp
 obj:=fun i h st b hb=>by
  have e:b=it:=by simpa using hb
  subst e
  obtain⟨o,e,c,d⟩:=st
  exact⟨o,e,fun v z=>by rw [d] at z;cases z⟩
 keep:=fun i h h' st k=>st.at fun o e=>k it (by simp) o e
 item:=by
  intro X hP hw hK hc i pins s σ H E I hf st hg
  subst hP hw hK
  obtain⟨xs,x,hq,hx⟩:=hg
  obtain⟨its,rv,p,hz⟩:=I.tuple hq
  obtain⟨u,hu,ru⟩:=rv.get hx
  obtain⟨f0,f1,f2,f3,f4,f5⟩:=hf it (by simp)
  refine wpAny_pyNext_tuple_item st (show s.heap.IsTuple a its.toArray from p) (x:=u) (by simpa using hu) fun h' st' sb=>?_
  have I1:Inv X pins σ H {s with heap:=h'}:=I.turned (t':=s.toks) (fun b o hb e=>(sb.2 b hb).trans e) f0 f1 f3 f4 f5
  obtain⟨o,e,c,d⟩:=id st'
  exact⟨u,rfl,go_of (s:={s with heap:=h'}) e c d (by decide) ⟨x,H,I1,ru,⟨rfl,fun ys hy=>by rw [I.tuple_inj hy hq];exact hx⟩,st',fun b hb=>(hf b hb).1⟩⟩
 done:=by
  intro X hP hw hK hc i pins s σ H E I hf st hg
  subst hP hw hK
  obtain⟨xs,hq,hx⟩:=hg
  obtain⟨its,rv,p,hz⟩:=I.tuple hq
  obtain⟨f0,f1,f2,f3,f4,f5⟩:=hf it (by simp)
  have hl:=rv.length
  exact wpAny_pyNext_tuple_end (I.ok.hd hc) st (show s.heap.IsTuple a its.toArray from p) (by simp;omega) fun h' eb=>⟨rfl,I.turned (t':=s.toks) (fun b o hb e=>eb b o hb e) f0 f1 f3 f4 f5⟩
 self:=fun _ _ _ _ _ st h=>wpAny_pyIter_tupleiter st h
theorem turn_range {P:Program}{w:World}{K:PySem.W.Frag}{tg:Expr} (it:Addr) (lo:Int) (n:Nat):Turn P w K tg (Itr lo n) [it] it (fun i h=>IsRangeIter h it (lo+(i:Nat)*1) ((n:Int)-(i:Nat)) 1) where
 mem:=by simp
 obj:=fun i h st b hb=>by
  have e:b=it:=by simpa using hb
  subst e
  exact⟨_,st,fun v z=>by
   have z':Data.fields _=Data.cell v:=z
   cases z'⟩
 keep:=fun i h h' st k=>k it (by simp) _ st
 item:=by
  intro X hP hw hK hc i pins s σ H E I hf st hg
  subst hP hw hK
  obtain⟨f0,f1,f2,f3,f4,f5⟩:=hf it (by simp)
  have W:=Walks.range (prog:=X.prog) (w:=X.w) (I.ok.hd hc) it lo 1 n
  refine W.item i s _ _ hg st fun v h' tk hv st' kk=>?_
  obtain⟨t,rfl⟩:=hv
  have I1:Inv X pins σ H {s with heap:=h',toks:=tk}:=I.turned (fun b o hb e=>kk b o (by simpa using hb) e) f0 f1 f3 f4 f5
  refine⟨_,rfl,go_of (s:={s with heap:=h',toks:=tk}) (n:="range_iterator") st' rfl rfl (by decide) ⟨.int (lo+i),H,I1,⟨t,?_⟩,⟨rfl,rfl⟩,st',fun b hb=>(hf b hb).1⟩⟩
  rw [Int.mul_one]
 done:=by
  intro X hP hw hK hc i pins s σ H E I hf st hg
  subst hP hw hK
  obtain⟨f0,f1,f2,f3,f4,f5⟩:=hf it (by simp)
  exact wpAny_pyNext_range_end (I.ok.hd hc) st (by have:n≤i:=hg;omega) fun h' eb=>⟨rfl,I.turned (t':=s.toks) (fun b o hb e=>eb b o hb e) f0 f1 f3 f4 f5⟩
 self:=fun _ _ _ _ _ st h=>wpAny_pyIter_rangeiter st h
end L2
namespace L2
open PySem PySem.Spec PyProof.Rows
section
variable {X:Cx}{tg:Expr}
theorem range_it {pins:List (Addr×Obj)}{σ:St}{H:Hp}{s:Shared}{R:It→Hp→Prop}{E:Value→Shared→Prop}{lo hi:Int}{t u v:Tok}{tk:Nat} (I:Inv X pins σ H s) (h1:-(2 ^ 62)≤lo) (h2:lo < 2 ^ 62) (h3:-(2 ^ 62)≤hi) (h4:hi < 2 ^ 62)
  (q:R (Itr lo (hi-lo).toNat) H):wpAny (model X.prog X.w) X.A (pyIter (.ref s.heap.objs.size)) (PIE X pins σ tg R) E {s with heap:=s.heap.push {cls:=.type "range",data:=.fields #[.int lo t,.int hi u,.int 1 v]},toks:=tk}:=by
 refine wpAny_pyIter_range (IsRange.new ..) (small_one h1 h2 h3 h4) ?_
 have I1:Inv X pins σ H {s with heap:=s.heap.push {cls:=.type "range",data:=.fields #[.int lo t,.int hi u,.int 1 v]},toks:=tk}:=I.kept fun b o e=>Heap.get?_push_of_some _ e
 refine⟨(s.heap.push {cls:=.type "range",data:=.fields #[.int lo t,.int hi u,.int 1 v]}).objs.size,[(s.heap.push {cls:=.type "range",data:=.fields #[.int lo t,.int hi u,.int 1 v]}).objs.size],_,_,H,rfl,
  I1.kept (t':=tk) fun b o e=>Heap.get?_push_of_some _ e,turn_range _ lo (hi-lo).toNat,?_,fun b hb=>?_,q⟩
 ·have e1:lo+((0:Nat):Int)*1=lo:=by simp
  have e2:(((hi-lo).toNat:Nat):Int)-((0:Nat):Int)=Builtin.Range.rangeSize lo hi 1:=by rw [rangeSize_one];split <;> omega
  show IsRangeIter _ _ (lo+((0:Nat):Int)*1) ((((hi-lo).toNat:Nat):Int)-((0:Nat):Int)) 1
  rw [e1,e2]
  exact Heap.get?_push_size _ rfl
 ·have e:b=(s.heap.push {cls:=.type "range",data:=.fields #[.int lo t,.int hi u,.int 1 v]}).objs.size:=by simpa using hb
  subst e
  exact I1.fpOk (Nat.le_refl _) (I1.hok.fresh (Nat.le_refl _))
def iRng1 (ta:TA):TI:=fun σ H R=>ta σ H fun vs H1=>∃j:Int,vs=[.int j]∧-(2 ^ 62)≤j∧j < 2 ^ 62∧R (Itr 0 j.toNat) H1
theorem pi_range1 {a:Expr}{ta:TA}{p pos:Pos} (hg:Gl X "range") (hm:X.mg "range"=none) (ha:PA X [a] ta) (hs:starEach [a] X.env=[(false,eval a X.env)]:=by rfl):PI X tg (.Call (.Name "range" p) [a] [] pos) (iRng1 ta):=by
 intro pins s σ H R I h
 refine Call_ (ld_blt I hg hm boot_range (PyProof.Rows.callWith_type1 (thn (ha pos pins s σ H _ I h) fun us s1 ⟨vs,H1,I1,r1,q1⟩=>?_) hs rfl))
 obtain⟨j,e,q1,q2,q⟩:=q1
 subst e
 cases r1 with
 | cons r rr=>
  cases rr
  obtain⟨t,rfl⟩:=r
  exact call_range_1 (range_it I1 (by omega) (by omega) q1 q2 (by simpa using q))
def tFor (wi:TI) (g:TG) (tb:TS):TS:=fun D σ H=>wi σ H fun J H1=>∃W:Nat→Nat→St→Hp→Prop,(∃m,W 0 m σ H1)∧∀i m σ H,W i m σ H→
 (J.stop i H∧D.nx σ H)∨(J.go i H∧∃N:St→Hp→Prop,(∀σ' H',N σ' H'→∃m',m' < m∧W (i+1) m' σ' H')∧∀x H',J.yld i H x H'→g x σ H' fun σ2 H2=>tb {D with nx:=N,ct:=N,bk:=D.nx} σ2 H2)
def pinsAt (fp:List Addr) (h:Heap):List (Addr×Obj):=fp.filterMap fun b=>(h.get? b).map fun o=>(b,o)
theorem mem_pinsAt {fp:List Addr}{h:Heap}{b:Addr}{o:Obj} (hb:b∈fp) (e:h.get? b=some o):(b,o)∈pinsAt fp h:=List.mem_filterMap.mpr ⟨b,hb,by rw [e];rfl⟩
theorem of_pinsAt {fp:List Addr}{h:Heap}{p:Addr×Obj} (hp:p∈pinsAt fp h):p.1∈fp∧h.get? p.1=some p.2:=by
 obtain⟨b,hb,e⟩:=List.mem_filterMap.mp hp
 cases q:h.get? b with
 | none=>rw [q] at e;cases e
 | some o=>
  rw [q] at e
  have e':(b,o)=p:=Option.some.inj e
  subst e'
  exact⟨hb,q⟩
theorem Inv.pinned {pins:List (Addr×Obj)}{σ:St}{H:Hp}{s:Shared}{fp:List Addr} (I:Inv X pins σ H s) (hf:∀b∈fp,FpOk X pins H b) (ho:∀b∈fp,∃o,s.heap.get? b=some o∧∀v,o.data≠.cell v):Inv X (pins++pinsAt fp s.heap) σ H s:=
 I.pins_of fun p hp=>(List.mem_append.mp hp).elim (fun z=>I.pin p (List.mem_append_right _ z)) fun z=>by
  obtain⟨hb,e⟩:=of_pinsAt z
  obtain⟨f0,f1,f2,_⟩:=hf p.1 hb
  obtain⟨o,e',d⟩:=ho p.1 hb
  rw [e] at e';cases e'
  exact⟨e,f0,f1,f2,d⟩
theorem Inv.unpinned {pins pl:List (Addr×Obj)}{σ:St}{H:Hp}{s:Shared} (I:Inv X (pins++pl) σ H s):Inv X pins σ H s:=I.pins_of fun p hp=>I.pin p (List.mem_append_right _ (List.mem_append_left _ hp))
theorem ps_for {iter:Expr}{body:List Stmt}{wi:TI}{g:TG}{tb:TS}{pos:Pos} (hp:PassesOwn (model X.prog X.w) X.A X.env X.xe) (hc:X.calm=true) (hi:PI X tg iter wi) (hg:PG X tg g) (hb:PSs X body tb)
  (hs:∀x,foldedSetIterable iter X.env x=pure x:=by intro _;rfl):PS X (.For tg iter body [] pos) (tFor wi g tb):=by
 intro pins s σ H D I h
 refine wpAny_For (thn (hi pins s σ H _ I h) fun v s1 h1=>thn h1 fun itv s2 h2=>?_) hs
 obtain⟨it,fp,tn,J,H2,e,I2,T,st2,f2,W,⟨m0,w0⟩,turn⟩:=h2
 subst e
 have stat:∀{H':Hp},(∀b∈fp,H' b=none)→∀b∈fp,FpOk X pins H' b:=fun hn b hb=>⟨hn b hb,(f2 b hb).2⟩
 refine codeAny_forLoop_any (fun n s'=>∃i σ' H',Inv X pins σ' H' s'∧tn i s'.heap∧(∀b∈fp,H' b=none)∧W i n σ' H') ?_ m0 ⟨0,σ,H2,I2,st2,fun b hb=>(f2 b hb).1,w0⟩
 rintro n s3 ⟨i,σ3,H3,I3,st3,fr3,w3⟩
 rcases turn i n σ3 H3 w3 with⟨stop,qn⟩ | ⟨go,N,hN,step⟩
 ·refine wpAny_passesOwn hp (thn (T.done X rfl rfl rfl hc i pins s3 σ3 H3 X.xe I3 (stat fr3) st3 stop) fun r s4 ⟨hr,I4⟩=>?_)
  subst hr
  exact wpAny_execs_nil ⟨σ3,H3,I4,qn⟩
 ·refine wpAny_passesOwn hp (thn (T.item X rfl rfl rfl hc i pins s3 σ3 H3 X.xe I3 (stat fr3) st3 go) fun r s4 ⟨u,hr,h4⟩=>?_)
  subst hr
  refine wpAny_passesOwn hp (thn h4 fun _ s5 ⟨x,H5,I5,r5,y5,st5,fr5⟩=>?_)
  have I5':=I5.pinned (stat fr5) (T.obj _ _ st5)
  refine wpAny_passesOwn hp (thn (hg _ s5 σ3 H5 x u _ I5' r5 (step x H5 y5)) fun _ s6 ⟨σ6,H6,I6,q6⟩=>?_)
  refine wpAny_passesOwn hp (thn (hb _ s6 σ6 H6 _ I6 q6) fun f s7 q7=>?_)
  have again:∀{σ7:St}{H7:Hp},Inv X (pins++pinsAt fp s5.heap) σ7 H7 s7→N σ7 H7→∃m,m < n∧∃i σ' H',Inv X pins σ' H' s7∧tn i s7.heap∧(∀b∈fp,H' b=none)∧W i m σ' H':=fun {σ7 H7} I7 n7=>by
   obtain⟨m',hm,w7⟩:=hN σ7 H7 n7
   refine⟨m',hm,i+1,σ7,H7,I7.unpinned,T.keep _ _ _ st5 fun b hb o e=>(I7.pin (b,o) (List.mem_append_right _ (List.mem_append_right _ (mem_pinsAt hb e)))).1,fun b hb=>?_,w7⟩
   obtain⟨o,e,d⟩:=T.obj _ _ st5 b hb
   exact (I7.pin (b,o) (List.mem_append_right _ (List.mem_append_right _ (mem_pinsAt hb e)))).2.1
  cases f with
  | next=>obtain⟨σ7,H7,I7,n7⟩:=q7;exact again I7 n7
  | cont=>obtain⟨σ7,H7,I7,n7⟩:=q7;exact again I7 n7
  | brk=>obtain⟨σ7,H7,I7,q7⟩:=q7;exact⟨σ7,H7,I7.unpinned,q7⟩
  | ret v=>obtain⟨x7,σ7,H7,I7,r7,q7⟩:=q7;exact⟨x7,σ7,H7,I7.unpinned,r7,q7⟩
end
end L2
namespace L2
open PySem PySem.Spec PyProof.Rows
abbrev R2:=V→V→Hp→VK→Prop
def OpR (X:Cx) (f:Value→Value→Sem Value) (r:R2):Prop:=
 ∀(pins:List (Addr×Obj)) (s:Shared) (σ:St) (H:Hp) (x y:V) (v u:Value) (Q:VK),Inv X pins σ H s→RelV x v→RelV y u→r x y H Q→
  wpAny (model X.prog X.w) X.A (f v u) (EP X pins σ Q) X.xe s
def CallR (X:Cx) (f:Value) (r:List V→Hp→VK→Prop):Prop:=
 ∀(pins:List (Addr×Obj)) (s:Shared) (σ:St) (H:Hp) (xs:List V) (us:List Value) (Q:VK),Inv X pins σ H s→Vals xs us→r xs H Q→
  wpAny (model X.prog X.w) X.A (call f us) (EP X pins σ Q) X.xe s
def TruR (X:Cx) (r:V→Hp→(Bool→Hp→Prop)→Prop):Prop:=
 ∀(pins:List (Addr×Obj)) (s:Shared) (σ:St) (H:Hp) (x:V) (v:Value) (Q:Bool→Hp→Prop),Inv X pins σ H s→RelV x v→r x H Q→
  wpAny (model X.prog X.w) X.A (truthy v) (TP X pins σ Q) X.xe s
def tOp (r:R2) (ta tb:TE):TE:=fun σ H Q=>ta σ H fun x H1=>tb σ H1 fun y H2=>r x y H2 Q
def rI (C:Int→Int→Prop) (g:Int→Int→V):R2:=fun x y H Q=>∃i j,x=.int i∧y=.int j∧C i j∧Q (g i j) H
def rI0 (g:Int→Int→V):R2:=fun x y H Q=>∃i j,x=.int i∧y=.int j∧Q (g i j) H
section
variable {X:Cx}{a b c:Expr}{ta tb tc:TE}{pos:Pos}
theorem binT (ha:PE X a ta) (hb:PE X b tb) {pins:List (Addr×Obj)}{s:Shared}{σ:St}{H:Hp}{R:V→V→Hp→Prop} (I:Inv X pins σ H s)
  (h:ta σ H fun x H1=>tb σ H1 fun y H2=>R x y H2) {Q:Value→Shared→Prop}{f:Value→Value→Sem Value}
  (hf:∀v u s2 x y H2,Inv X pins σ H2 s2→RelV x v→RelV y u→R x y H2→wpAny (model X.prog X.w) X.A (f v u) Q X.xe s2) :
  wpAny (model X.prog X.w) X.A (eval a X.env) (fun v s₁=>wpAny (model X.prog X.w) X.A (eval b X.env) (fun u s₂=>wpAny (model X.prog X.w) X.A (f v u) Q X.xe s₂) X.xe s₁) X.xe s:=by
 refine thn (ha pins s σ H _ I h) fun v s1 ⟨x,H1,I1,r1,q1⟩=>?_
 refine thn (hb pins s1 σ H1 _ I1 q1) fun u s2 ⟨y,H2,I2,r2,q2⟩=>?_
 exact hf v u s2 x y H2 I2 r1 r2 q2
theorem pe_op {op:Operator}{r:R2} (ho:OpR X (binaryOp op) r) (ha:PE X a ta) (hb:PE X b tb):PE X (.BinOp a op b pos) (tOp r ta tb):=by
 intro pins s σ H Q I h
 exact wpAny_BinOp (binT ha hb I h fun v u s2 x y H2 I2 rx ry q=>ho pins s2 σ H2 x y v u Q I2 rx ry q)
theorem opI {f:Value→Value→Sem Value}{C:Int→Int→Prop}{g:Int→Int→Int}
  (rule:∀(i j:Int) (t u:Tok) (s:Shared) (Q:Value→Shared→Prop) (E:Value→Shared→Prop),C i j→Q (.int (g i j) s.toks) {s with toks:=s.toks+1}→wpAny (model X.prog X.w) X.A (f (.int i t) (.int j u)) Q E s) :
  OpR X f (rI C fun i j=>.int (g i j)):=by
 intro pins s σ H x y v u Q I rx ry h
 obtain⟨i,j,rfl,rfl,hc,q⟩:=h
 obtain⟨t,rfl⟩:=rx
 obtain⟨t',rfl⟩:=ry
 exact rule i j t t' s _ _ hc ⟨.int (g i j),H,I.tok _,⟨_,rfl⟩,q⟩
theorem opI0 {f:Value→Value→Sem Value}{g:Int→Int→Int}
  (rule:∀(i j:Int) (t u:Tok) (s:Shared) (Q:Value→Shared→Prop) (E:Value→Shared→Prop),Q (.int (g i j) s.toks) {s with toks:=s.toks+1}→wpAny (model X.prog X.w) X.A (f (.int i t) (.int j u)) Q E s) :
  OpR X f (rI0 fun i j=>.int (g i j)):=by
 intro pins s σ H x y v u Q I rx ry h
 obtain⟨i,j,rfl,rfl,q⟩:=h
 obtain⟨t,rfl⟩:=rx
 obtain⟨t',rfl⟩:=ry
 exact rule i j t t' s _ _ ⟨.int (g i j),H,I.tok _,⟨_,rfl⟩,q⟩
theorem opB0 {f:Value→Value→Sem Value}{g:Int→Int→Bool}
  (rule:∀(i j:Int) (t u:Tok) (s:Shared) (Q:Value→Shared→Prop) (E:Value→Shared→Prop),Q (.bool (g i j)) s→wpAny (model X.prog X.w) X.A (f (.int i t) (.int j u)) Q E s) :
  OpR X f (rI0 fun i j=>.bl (g i j)):=by
 intro pins s σ H x y v u Q I rx ry h
 obtain⟨i,j,rfl,rfl,q⟩:=h
 obtain⟨t,rfl⟩:=rx
 obtain⟨t',rfl⟩:=ry
 exact rule i j t t' s _ _ ⟨.bl (g i j),H,I,rfl,q⟩
def CDiv (i j:Int):Prop:=0 < j∧j < 1073741824
def CPow (i j:Int):Prop:=0≤j∧j≤1000000∧i.natAbs < 2 ^ 64
def CMul (i j:Int):Prop:=(-(2 ^ 64) < i∧i < 2 ^ 64)∨(-(2 ^ 64) < j∧j < 2 ^ 64)
theorem CMul.ok {i j:Int} (h:CMul i j):IntMulOk i j:=by
 rcases h with⟨h1,h2⟩ | ⟨h1,h2⟩
 ·exact .of_left (intBits_le_64 h1 h2)
 ·exact .of_right (intBits_le_64 h1 h2)
theorem op_add:OpR X (binaryOp .Add) (rI0 fun i j=>.int (i+j)):=opI0 fun _ _ _ _ _ _ _ q=>add_int q
theorem op_sub:OpR X (binaryOp .Sub) (rI0 fun i j=>.int (i-j)):=opI0 fun _ _ _ _ _ _ _ q=>sub_int q
theorem op_fdiv:OpR X (binaryOp .FloorDiv) (rI CDiv fun i j=>.int (i / j)):=opI fun i j _ _ _ _ _ hc q=>by
 have h1:(0:Int) < j:=hc.1
 have h2:j < 1073741824:=hc.2
 exact floordiv_int (by omega) (by rw [Int.fdiv_eq_ediv_of_nonneg i (by omega)];exact q) (.inl (PyProof.noPylong_small (by omega)))
theorem op_mod:OpR X (binaryOp .Mod) (rI (fun _ j=>0 < j) fun i j=>.int (i % j)):=opI fun i j _ _ _ _ _ hc q=>by
 have h1:(0:Int) < j:=hc
 exact mod_int' (by omega) (by rw [Int.fmod_eq_emod_of_nonneg i (by omega)];exact q)
theorem op_pow:OpR X (binaryOp .Pow) (rI CPow fun i j=>.int (i ^ j.toNat)):=opI fun _ _ _ _ _ _ _ hc q=>pow_int_small hc.1 hc.2.1 hc.2.2 q
end
section
variable {X:Cx}{a b c:Expr}{ta tb tc:TE}{pos:Pos}
theorem fin_bl {pins:List (Addr×Obj)}{σ:St}{H:Hp}{s:Shared}{Q:VK}{k k':Bool} (I:Inv X pins σ H s) (q:Q (.bl k) H) (e:k=k'):EP X pins σ Q (.bool k') s:=by
 subst e
 exact⟨.bl k,H,I,rfl,q⟩
theorem op_lt:OpR X (compareOp .Lt) (rI0 fun i j=>.bl (decide (i < j))):=opB0 fun _ _ _ _ _ _ _ q=>lt_int q
theorem op_le:OpR X (compareOp .LtE) (rI0 fun i j=>.bl (decide (i≤j))):=opB0 fun _ _ _ _ _ _ _ q=>le_int q
theorem op_gt:OpR X (compareOp .Gt) (rI0 fun i j=>.bl (decide (j < i))):=opB0 fun _ _ _ _ _ _ _ q=>gt_int q
theorem op_ge:OpR X (compareOp .GtE) (rI0 fun i j=>.bl (decide (j≤i))):=opB0 fun _ _ _ _ _ _ _ q=>ge_int q
theorem op_isN:OpR X (compareOp .Is) (fun x y H Q=>y=.non∧Q (.bl (decide (x=.non))) H):=by
 intro pins s σ H x y v u Q I rx ry h
 obtain⟨rfl,q⟩:=h
 cases ry
 refine is_none_gen (fin_bl I q ?_)
 cases x <;> first
  | (cases rx;rfl)
  | (obtain⟨t,rfl⟩:=rx;rfl)
theorem OpR.or {f:Value→Value→Sem Value}{r r':R2} (h:OpR X f r) (h':OpR X f r'):OpR X f (fun x y H Q=>r x y H Q∨r' x y H Q):=by
 intro pins s σ H x y v u Q I rx ry q
 rcases q with q | q
 ·exact h pins s σ H x y v u Q I rx ry q
 ·exact h' pins s σ H x y v u Q I rx ry q
theorem nomark (b:Expr) {op:CmpOp} (h:op≠.In:=by decide) (h2:op≠.NotIn:=by decide):behindInMarks op b=false:=by
 have e1:(op==CmpOp.In)=false:=by cases op <;> first | rfl | exact absurd rfl h
 have e2:(op==CmpOp.NotIn)=false:=by cases op <;> first | rfl | exact absurd rfl h2
 cases b <;> simp [behindInMarks,e1,e2]
theorem pe_cmpR {op:CmpOp}{r:R2} (ho:OpR X (compareOp op) r) (ha:PE X a ta) (hb:PE X b tb) (hm:behindInMarks op b=false):PE X (.Compare a [op] [b] pos) (tOp r ta tb):=by
 intro pins s σ H Q I h
 exact wpAny_Compare1 (binT ha hb I h fun v u s2 x y H2 I2 rx ry q=>ho pins s2 σ H2 x y v u Q I2 rx ry q) hm
def tTest (t:TE):TT:=fun σ H Q=>t σ H fun x H'=>∃k,x=.bl k∧Q k H'
theorem pt_cmpR {op:CmpOp}{r:R2} (ho:OpR X (compareOp op) r) (ha:PE X a ta) (hb:PE X b tb) (hm:behindInMarks op b=false):PT X (.Compare a [op] [b] pos) (tTest (tOp r ta tb)):=by
 intro pins s σ H Q I h
 refine wpAny_isTrue_Compare1 (thn (ha pins s σ H _ I h) fun v s1 ⟨x,H1,I1,r1,q1⟩=>thn (hb pins s1 σ H1 _ I1 q1) fun u s2 ⟨y,H2,I2,r2,q2⟩=>
  thn (ho pins s2 σ H2 x y v u _ I2 r1 r2 q2) fun c s3 ⟨z,H3,I3,r3,k,e,q3⟩=>?_) hm
 subst e
 cases r3
 exact wpAny_truthy_bool ⟨H3,I3,q3⟩
def TruV (K:PySem.W.Frag) (x:V) (H:Hp) (k:Bool):Prop:=
 match x with
 | .non=>k=false
 | .bl b=>k=b
 | .int i=>k=(i != 0)
 | .str y=>y.length≤sizeLine∧k=((y.length:Int) != 0)
 | .byt y=>y.size≤sizeLine∧k=((y.size:Int) != 0)
 | .ref p=>(∃xs,SqL K H p xs∧k=!xs.isEmpty)∨(∃xs,SqT K H p xs∧k=!xs.isEmpty)∨∃kvs,H p=some (.dK kvs)∧k=!kvs.isEmpty
 | _=>False
theorem isEmpty_kv {κ:Type}{kvs:List (κ×V)}{vs:List (κ×Value)} (r:KV kvs vs):(!vs.isEmpty)=!kvs.isEmpty:=by
 cases r <;> rfl
theorem isEmpty_of {xs:List V}{its:List Value} (r:Vals xs its):(!its.toArray.isEmpty)=!xs.isEmpty:=by
 cases r <;> simp
theorem line63:(sizeLine:Nat) < 2 ^ 63:=by rw [sizeLine_eq];decide
theorem tru_ok:TruR X (fun x H Q=>∃k,TruV X.K x H k∧Q k H):=by
 intro pins s σ H x v Q I rx h
 obtain⟨k,e,q⟩:=h
 have hl:=line63
 have hs:sizeLine=16777216:=sizeLine_eq
 cases x with
 | non=>
  cases rx
  have e':k=false:=e
  subst e'
  exact truthy_none ⟨H,I,q⟩
 | bl b=>
  cases rx
  have e':k=b:=e
  subst e'
  exact wpAny_truthy_bool ⟨H,I,q⟩
 | int i=>
  obtain⟨t,rfl⟩:=rx
  have e':k=(i != 0):=e
  subst e'
  exact PySem.P.truthy_int ⟨H,I,q⟩
 | str y=>
  obtain⟨t,rfl⟩:=rx
  obtain⟨hy,e'⟩:y.length≤sizeLine∧k=((y.length:Int) != 0):=e
  subst e'
  exact PySem.P.truthy_str (by omega) ⟨H,I.tok _,q⟩
 | byt y=>
  obtain⟨t,rfl⟩:=rx
  obtain⟨hy,e'⟩:y.size≤sizeLine∧k=((y.size:Int) != 0):=e
  subst e'
  exact PySem.W.truthy_bytes (by omega) ⟨H,I.tok _,q⟩
 | ref p=>
  cases rx
  have e':(∃xs,SqL X.K H p xs∧k=!xs.isEmpty)∨(∃xs,SqT X.K H p xs∧k=!xs.isEmpty)∨∃kvs,H p=some (.dK kvs)∧k=!kvs.isEmpty:=e
  rcases e' with⟨xs,hx,e'⟩ | ⟨xs,hx,e'⟩ | ⟨kvs,hx,e'⟩
  ·subst e'
   obtain⟨its,r,pl,hz⟩:=I.list hx
   have hlen:=r.length
   exact wpAny_truthy_list pl.isList (by simp only [List.size_toArray];omega) ⟨H,I.tok _,by rw [isEmpty_of r];exact q⟩
  ·subst e'
   obtain⟨its,r,pl,hz⟩:=I.tuple hx
   have hlen:=r.length
   exact truthy_tuple pl (by simp only [List.size_toArray];omega) ⟨H,I.tok _,by rw [isEmpty_of r];exact q⟩
  ·subst e'
   obtain⟨hz,hS,vs,r,m⟩:kvs.length≤sizeLine∧(p==sysModules)=false∧∃vs,KV kvs vs∧s.heap.DictOf (mixKind X.prog X.w) p vs:=I.hok p _ hx
   have hlen:kvs.length=vs.length:=Paired.length r
   exact wpAny_truthy_dict hS m (by omega) ⟨H,I.tok _,by rw [isEmpty_kv r];exact q⟩
 | _=>exact (show False from e).elim
theorem pt_truth (ha:PE X a ta) (he:∀whole,isTrue a X.env whole=(do let v ← whole;standAt a.pos;holding [v] (truthy v))) :
  PT X a (fun σ H Q=>ta σ H fun x H'=>∃k,TruV X.K x H' k∧Q k H'):=by
 intro pins s σ H Q I h
 exact isTrue_plain (thn (ha pins s σ H _ I h) fun v s1 ⟨x,H1,I1,r1,q1⟩=>tru_ok pins s1 σ H1 x v Q I1 r1 q1) (he _)
theorem op_add_str:OpR X (binaryOp .Add) (fun x y H Q=>∃i j,x=.str i∧y=.str j∧i.length+j.length≤sizeLine∧Q (.str (i++j)) H):=by
 intro pins s σ H x y v u Q I rx ry h
 obtain⟨i,j,rfl,rfl,hz,q⟩:=h
 obtain⟨t,rfl⟩:=rx
 obtain⟨t',rfl⟩:=ry
 exact add_str (fun t' tk=>⟨.str (i++j),H,I.tok _,⟨_,rfl⟩,q⟩) hz
theorem vals1 {x:V}{us:List Value} (r:Vals [x] us):∃u,us=[u]∧RelV x u:=by
 cases r with
 | cons r1 r2=>cases r2;exact⟨_,rfl,r1⟩
theorem vals2 {x y:V}{us:List Value} (r:Vals [x,y] us):∃u w',us=[u,w']∧RelV x u∧RelV y w':=by
 cases r with
 | cons r1 r2=>
  cases r2 with
  | cons r3 r4=>cases r4;exact⟨_,_,rfl,r1,r3⟩
theorem call_abs:CallR X (.builtin "abs") (fun xs H Q=>∃i,xs=[.int i]∧Q (.int (if i < 0 then -i else i)) H):=by
 intro pins s σ H xs us Q I r h
 obtain⟨i,rfl,q⟩:=h
 obtain⟨u,rfl,t,rfl⟩:=vals1 r
 exact call_abs_int fun u tk=>⟨.int (if i < 0 then -i else i),H,I.tok _,⟨_,rfl⟩,q⟩
theorem call_max2 (hc:X.calm=true):CallR X (.builtin "max") (fun xs H Q=>∃i j,xs=[.int i,.int j]∧Q (.int (if j > i then j else i)) H):=by
 intro pins s σ H xs us Q I r h
 obtain⟨i,j,rfl,q⟩:=h
 obtain⟨u,w',rfl,⟨t,rfl⟩,⟨t',rfl⟩⟩:=vals2 r
 refine max_two_ints (I.ok.hd hc) fun h' tk k=>⟨_,H,I.kept k,?_,q⟩
 by_cases hj:j > i
 ·rw [if_pos hj,if_pos hj];exact⟨_,rfl⟩
 ·rw [if_neg hj,if_neg hj];exact⟨_,rfl⟩
theorem call_min2 (hc:X.calm=true):CallR X (.builtin "min") (fun xs H Q=>∃i j,xs=[.int i,.int j]∧Q (.int (if j < i then j else i)) H):=by
 intro pins s σ H xs us Q I r h
 obtain⟨i,j,rfl,q⟩:=h
 obtain⟨u,w',rfl,⟨t,rfl⟩,⟨t',rfl⟩⟩:=vals2 r
 refine min_two_ints (I.ok.hd hc) fun h' tk k=>⟨_,H,I.kept k,?_,q⟩
 by_cases hj:j < i
 ·rw [if_pos hj,if_pos hj];exact⟨_,rfl⟩
 ·rw [if_neg hj,if_neg hj];exact⟨_,rfl⟩
theorem call_int1:CallR X (.type "int") (fun xs H Q=>(∃i,xs=[.int i]∧Q (.int i) H)∨∃k,xs=[.bl k]∧Q (.int (if k then 1 else 0)) H):=by
 intro pins s σ H xs us Q I r h
 rcases h with⟨i,rfl,q⟩ | ⟨k,rfl,q⟩
 ·obtain⟨u,rfl,t,rfl⟩:=vals1 r
  exact call_int_int ⟨.int i,H,I,⟨_,rfl⟩,q⟩
 ·obtain⟨u,rfl,r1⟩:=vals1 r
  cases r1
  exact call_int_bool ⟨.int (if k then 1 else 0),H,I.tok _,⟨_,rfl⟩,q⟩
def LenV (K:PySem.W.Frag) (x:V) (H:Hp) (n:Nat):Prop:=
 match x with
 | .str y=>y.length≤sizeLine∧n=y.length
 | .byt y=>y.size≤sizeLine∧n=y.size
 | .ref p=>(∃xs,SqL K H p xs∧n=xs.length)∨∃xs,SqT K H p xs∧n=xs.length
 | _=>False
theorem call_len:CallR X (.builtin "len") (fun xs H Q=>∃x n,xs=[x]∧LenV X.K x H n∧Q (.int n) H):=by
 intro pins s σ H xs us Q I r h
 obtain⟨x,n,rfl,e,q⟩:=h
 obtain⟨u,rfl,rx⟩:=vals1 r
 have hl:=line63
 have hs:sizeLine=16777216:=sizeLine_eq
 cases x with
 | str y=>
  obtain⟨t,rfl⟩:=rx
  obtain⟨hy,e'⟩:y.length≤sizeLine∧n=y.length:=e
  subst e'
  exact len_str (by omega) ⟨.int _,H,I.tok _,⟨_,rfl⟩,q⟩
 | byt y=>
  obtain⟨t,rfl⟩:=rx
  obtain⟨hy,e'⟩:y.size≤sizeLine∧n=y.size:=e
  subst e'
  exact PySem.W.len_bytes (by omega) ⟨.int _,H,I.tok _,⟨_,rfl⟩,q⟩
 | ref p=>
  cases rx
  have e':(∃xs,SqL X.K H p xs∧n=xs.length)∨∃xs,SqT X.K H p xs∧n=xs.length:=e
  rcases e' with⟨xs,hx,e'⟩ | ⟨xs,hx,e'⟩
  ·subst e'
   obtain⟨its,r',pl,hz⟩:=I.list hx
   have hlen:=r'.length
   exact Calls.call_len_list pl.isList (by simp only [List.size_toArray];omega) ⟨.int xs.length,H,I.tok _,⟨_,by simp only [List.size_toArray];rw [hlen]⟩,q⟩
  ·subst e'
   obtain⟨its,r',pl,hz⟩:=I.tuple hx
   have hlen:=r'.length
   exact len_tuple pl (by simp only [List.size_toArray];omega) ⟨.int xs.length,H,I.tok _,⟨_,by simp only [List.size_toArray];rw [hlen]⟩,q⟩
 | _=>exact (show False from e).elim
end
end L2
namespace L2
open PySem PySem.Spec PyProof.Rows
structure ObjM (h:Heap) (x dx C:Addr) (mA:Str→Option Value):Prop where
 obj:h.get? x=some (PySem.W.instObj C dx)
 ns:h.Ns1 dx mA
 ne:dx≠x
theorem lookIn_ns {h:Heap}{dx:Addr}{mA:Str→Option Value} (n:h.Ns1 dx mA):∃od,h.get? dx=some od∧∀name,PySem.W.lookIn name od=some (mA name):=by
 obtain⟨o,es,ep,ho,hd,hk,_,hm⟩:=n
 refine⟨o,ho,fun name=>?_⟩
 have e:=hm name
 unfold nsFind findBy at e
 rw [← Array.find?_toList] at e
 unfold PySem.W.lookIn
 rw [hd]
 dsimp only
 split
 ·rename_i y q
  rw [q] at e
  exact congrArg some e
 ·rename_i q
  rw [q] at e
  have a:es.toList.any (·.refKey)=false:=by
   rw [List.any_eq_false]
   intro y hy
   obtain⟨z,t,hkey⟩:=hk y (Array.mem_toList_iff.mp hy)
   simp [DictEntry.refKey,hkey]
  have a':¬es.toList.any (·.refKey)=true:=by rw [a];exact Bool.false_ne_true
  rw [if_neg a']
  exact congrArg some e
theorem ObjM.look {h:Heap}{x dx C:Addr}{mA:Str→Option Value} (I:ObjM h x dx C mA):∃od,PySem.W.InstAt h x (PySem.W.instObj C dx) C (some od)∧∀name,PySem.W.lookIn name od=some (mA name):=
 let ⟨od,ho,hl⟩:=lookIn_ns I.ns
 ⟨od,⟨I.obj,rfl,rfl,ho⟩,hl⟩
theorem RelO.some_of {v:V}{o:Option Value} (r:RelO (some v) o):∃u,o=some u∧RelV v u:=by
 cases o with
 | none=>exact (show False from r).elim
 | some u=>exact⟨u,rfl,r⟩
section
variable {P:Program}{w:World}{H H':Hp}{h h':Heap}{a C dx:Addr}{fs fs':List (Str×V)}
theorem ins_get (hok:HOk P w H h) (e:H a=some (.ins C dx fs)):∃mA,ObjM h a dx C mA∧(∀f,RelO (fs.lookup f) (mA f))∧PySem.Within mA (fs.map (·.1))∧fs.length≤1000∧H dx=some (.own a):=by
 obtain⟨d,z,ne,ob,mA,n,r,q⟩:=(show ObjOk P w H h a (.ins C dx fs) from hok a _ e)
 exact⟨mA,⟨ob,n,ne⟩,r,q,z,d⟩
end
structure Cls (K:PySem.W.Frag) (C:Addr):Prop where
 pg:PySem.W.plainGet K C Str.empty=true
 hd:PySem.W.hasDictIn K C=true
 po:PySem.W.plainOver K C=true
 sa:PySem.W.findIn K (.ref C) "__setattr__"=some (some (.builtin "object.__setattr__"))
theorem Cls.get {K:PySem.W.Frag}{C:Addr} (c:Cls K C) (f:Str):PySem.W.plainGet K C f=true:=c.pg
section
variable {X:Cx}{pins:List (Addr×Obj)}{σ:St}{H:Hp}{s:Shared}{A:Around}{E:Value→Shared→Prop}{Q:Value→Shared→Prop}{c:Value}{b:Bool}
inductive TyOf (K:PySem.W.Frag) (H:Hp):V→Value→Prop where
 | non:TyOf K H .non (.type "NoneType")
 | bl (x:Bool):TyOf K H (.bl x) (.type "bool")
 | int (i:Int):TyOf K H (.int i) (.type "int")
 | str (x:Str):TyOf K H (.str x) (.type "str")
 | flt (x:UInt64):TyOf K H (.flt x) (.type "float")
 | lst {a:Addr}{xs:List V} (e:H a=some (.lst xs)):TyOf K H (.ref a) (.type "list")
 | frz {a:Addr}{o:Obj}{xs:List V} (e:H a=some (.frz o (.lst xs))):TyOf K H (.ref a) (.type "list")
 | tup {a:Addr}{xs:List V} (e:H a=some (.tup xs)):TyOf K H (.ref a) (.type "tuple")
 | dK {a:Addr}{kvs:List (Key×V)} (e:H a=some (.dK kvs)):TyOf K H (.ref a) (.type "dict")
 | dT {a:Addr}{kvs:List (List Key×V)} (e:H a=some (.dT kvs)):TyOf K H (.ref a) (.type "dict")
 | ins {a C dx:Addr}{fs:List (Str×V)} (e:H a=some (.ins C dx fs)) (cl:Cls K C) (ha:PySem.W.findIn K (.ref C) "__class__"=some (some (.builtin "object.__class__")))
   (hn:PySem.W.specialIn K (.builtin "object.__class__") "__get__"=some (some (.builtin "getset_descriptor.__get__"))) (htk:PySem.W.takesIn K (.builtin "object.__class__")=some true)
   (hm:PySem.W.mroIn K C (.type "object")=some true):TyOf K H (.ref a) (.ref C)
theorem isinst_ok {x:V}{u t:Value} (I:Inv X pins σ H s) (rx:RelV x u) (ty:TyOf X.K H x t) (e:PySem.W.kitOne X.K t c=some b) (h:∀tk,Q (.bool b) {s with toks:=tk}) :
  wpAny (model X.prog X.w) A (call (.builtin "isinstance") [u,c]) Q E s:=by
 cases ty with
 | non=>cases (show u=Value.none from rx);exact PySem.W.kia_one PySem.W.kitx_none I.kIn True.intro e (fun z=>nomatch z) h
 | bl y=>cases (show u=Value.bool y from rx);exact PySem.W.kia_one PySem.W.kitx_bool I.kIn True.intro e (fun z=>nomatch z) h
 | int i=>obtain⟨t,q⟩:=(show ∃t,u=Value.int i t from rx);cases q;exact PySem.W.kia_one PySem.W.kitx_int I.kIn True.intro e (fun z=>nomatch z) h
 | str y=>obtain⟨t,q⟩:=(show ∃t,u=Value.str y t from rx);cases q;exact PySem.W.kia_one PySem.W.kitx_str I.kIn True.intro e (fun z=>nomatch z) h
 | flt y=>obtain⟨t,q⟩:=(show ∃t,u=Value.float y t from rx);cases q;exact PySem.W.kia_one PySem.W.kitx_float I.kIn True.intro e (fun z=>nomatch z) h
 | @lst a xs ea=>
  cases (show u=Value.ref a from rx)
  obtain⟨_,_,n,_,h1⟩:=(show ObjOk X.prog X.w H s.heap a (.lst xs) from I.hok a _ ea)
  exact PySem.W.kia_one PySem.W.kitx_list I.kIn ⟨_,h1,rfl⟩ e (fun z=>nomatch z) h
 | @frz a ob xs ea=>
  cases (show u=Value.ref a from rx)
  obtain⟨_,_,_,n,_,h1⟩:=(show ObjOk X.prog X.w H s.heap a (.frz ob (.lst xs)) from I.hok a _ ea)
  exact PySem.W.kia_one PySem.W.kitx_list I.kIn ⟨_,h1,rfl⟩ e (fun z=>nomatch z) h
 | @tup a xs ea=>
  cases (show u=Value.ref a from rx)
  obtain⟨_,_,_,p⟩:=(show ObjOk X.prog X.w H s.heap a (.tup xs) from I.hok a _ ea)
  obtain⟨o,h1,h2,_⟩:=p
  exact PySem.W.kia_one PySem.W.kitx_tuple I.kIn ⟨o,h1,h2⟩ e (fun z=>nomatch z) h
 | @dK a kvs ea=>
  cases (show u=Value.ref a from rx)
  obtain⟨_,_,vs,_,p⟩:=(show ObjOk X.prog X.w H s.heap a (.dK kvs) from I.hok a _ ea)
  obtain⟨o,es,ep,h1,h2,_⟩:=p
  exact PySem.W.kia_one PySem.W.kitx_dict I.kIn ⟨o,h1,h2.1⟩ e (fun z=>nomatch z) h
 | @dT a kvs ea=>
  cases (show u=Value.ref a from rx)
  obtain⟨_,_,xs,_,o,es,ep,h1,h2,_⟩:=(show ObjOk X.prog X.w H s.heap a (.dT kvs) from I.hok a _ ea)
  exact PySem.W.kia_one PySem.W.kitx_dict I.kIn ⟨o,h1,h2.1⟩ e (fun z=>nomatch z) h
 | @ins a C dx fs ea cl ha hn htk hm=>
  cases (show u=Value.ref a from rx)
  obtain⟨mA,O,_⟩:=ins_get I.hok ea
  obtain⟨od,J,_⟩:=O.look
  exact PySem.W.kia_one (PySem.W.kitx_own (cl.get _) cl.hd ha hn htk hm) I.kIn J e (fun z=>nomatch z) h
end
end L2
namespace L2
open PySem PySem.Spec PyProof.Rows
structure Room (k:Nat) (A:Around):Prop where
 hd:A.handled=none
 dp:A.depth+3*k+5 < recursionLimit
 un:A.units+16*k+200 < cLine
 gd:A.guards=some []
theorem Room.mono {j k:Nat}{A:Around} (r:Room k A) (h:j≤k):Room j A:=⟨r.hd,by have:=r.dp;omega,by have:=r.un;omega,r.gd⟩
theorem Room.deeper {k:Nat}{A:Around} (r:Room (k+1) A) (env:Env):Room k (A.deeper env):=
 ⟨r.hd,by have:=r.dp;show A.depth+1+3*k+5 < _;omega,by have:=r.un;show A.units+3+16*k+200 < _;omega,r.gd⟩
theorem Room.depth {k:Nat}{A:Around} (r:Room k A):A.depth < recursionLimit:=by have:=r.dp;omega
def tNil:TA:=fun _ H Q=>Q [] H
def tCons (ta:TE) (tr:TA):TA:=fun σ H Q=>ta σ H fun x H1=>tr σ H1 fun xs H2=>Q (x::xs) H2
section
variable {X:Cx}{e:Expr}{es:List Expr}{te:TE}{t:TA}{pos:Pos}
theorem pa_nil:PA X [] tNil:=fun _ _ _ _ H Q I h=>Calls.spliced_nil ⟨[],H,I,.nil,h⟩
theorem pa_cons (ha:PE X e te) (hr:PA X es t) (hs:starEach (e::es) X.env=(false,eval e X.env)::starEach es X.env:=by rfl):PA X (e::es) (tCons te t):=by
 intro pos pins s σ H Q I h
 rw [hs]
 show wpAny _ _ (spliced ((false,eval e X.env)::backTo pos (starEach es X.env))) _ _ s
 refine Calls.spliced_cons (thn (ha pins s σ H _ I h) fun u s1 ⟨x,H1,I1,r1,q1⟩=>?_)
 exact thn (hr pos pins s1 σ H1 _ I1 q1) fun us s2 ⟨xs,H2,I2,r2,q2⟩=>⟨x::xs,H2,I2,.cons r1 r2,q2⟩
end
abbrev Sp:=List V→Hp→VK→XK→Prop
abbrev CXT:=List Env→Hp→Shared→XK→Value→Shared→Prop
structure Env0 (P:Program) (w:World) (K:PySem.W.Frag) (mg:Str→Option Value) (base:Heap) (A:Around) (outer:List Env) (s:Shared) (H:Hp):Prop where
 frames:A.frames=some outer
 mod:Mod K mg base
 bs:∀b o,base.get? b=some o→s.heap.get? b=some o∧H b=none
 bsz:base.objs.size≤s.heap.objs.size
 funs:s.heap.FunFrames base outer
 frf:∀b∈frs outer,H b=none
 hok:HOk P w H s.heap
 bare:AllBare s.gens
def CE (outer:List Env) (P:Program) (w:World) (H:Hp) (s:Shared) (Q:VK) (u:Value) (s':Shared):Prop:=
 ∃v H',s'.os=s.os∧AllBare s'.gens∧Un (frs outer) [] H H' s.heap s'.heap∧HOk P w H' s'.heap∧RelV v u∧Q v H'
def CR (CX:CXT) (outer:List Env) (P:Program) (w:World) (H:Hp) (s:Shared) (Q:VK) (E:XK) (r:Result) (s':Shared):Prop:=
 match r with
 | .ok (.ret u)=>CE outer P w H s Q u s'
 | .ok _=>False
 | .error e=>CX outer H s E e s'
structure FnOk (P:Program) (w:World) (K:PySem.W.Frag) (mg:Str→Option Value) (base:Heap) (CX:CXT) (k:Nat) (f:Addr) (fd:FuncData) (ps:List Str) (sp:Sp):Prop where
 len:∀vs H Q E,sp vs H Q E→vs.length=ps.length
 run:∀(A:Around) (outer:List Env) (s:Shared) (H:Hp) (args:Args) (us:List Value) (vs:List V) (Q:VK) (E:XK),Room k A→Env0 P w K mg base A outer s H→BindsTo s fd args (ps.zip us)→Vals vs us→sp vs H Q E→
  codeAny (model P w) A (.call (.ref f) args) (CR CX outer P w H s Q E) s
theorem FnOk.imp {P:Program}{w:World}{K:PySem.W.Frag}{mg:Str→Option Value}{base:Heap}{CX:CXT}{k:Nat}{f:Addr}{fd:FuncData}{ps:List Str}{sp sp':Sp} (F:FnOk P w K mg base CX k f fd ps sp)
  (h:∀vs H Q E,sp' vs H Q E→sp vs H Q E):FnOk P w K mg base CX k f fd ps sp':=
 ⟨fun vs H Q E q=>F.len vs H Q E (h _ _ _ _ q),fun A outer s H args us vs Q E hr he hb hv hs=>F.run A outer s H args us vs Q E hr he hb hv (h _ _ _ _ hs)⟩
section
variable {X:Cx}{pins:List (Addr×Obj)}{σ:St}{H:Hp}{s s':Shared}
theorem Inv.env0 (I:Inv X pins σ H s):Env0 X.prog X.w X.K X.mg X.base X.A X.stack s H:=
 ⟨I.ok.frames,I.ok.mod,I.bs,Nat.le_trans I.ok.bsz I.sz,I.stack,I.stkFree,I.hok,I.bare⟩
theorem Inv.after {Q:VK}{u:Value} (I:Inv X pins σ H s) (h:CE X.stack X.prog X.w H s Q u s'):EP X pins σ Q u s':=by
 obtain⟨v,H',os,bare,un,hok,r,q⟩:=h
 obtain⟨hh,g,d,t,os'⟩:=s'
 obtain rfl:os'=s.os:=os
 exact⟨v,H',I.call (h':=hh) (g':=g) (d':=d) (t':=t) (ch:=[]) un hok bare (fun b z=>absurd z (by simp)),r,q⟩
end
def Binds (K:PySem.W.Frag) (fd:FuncData) (ps:List Str) (ds:List Value):Prop:=
 ∀(s:Shared) (us:List Value),K.In s.heap→(us++ds).length=ps.length→BindsTo s fd ⟨us,[]⟩ (ps.zip (us++ds))
theorem Binds.all {K:PySem.W.Frag}{fd:FuncData}{ps:List Str} (h:∀us:List Value,us.length=ps.length→bindArgs fd ⟨us,[]⟩=pure (ps.zip us)):Binds K fd ps []:=fun s us _ hl=>by
 rw [List.append_nil] at hl ⊢
 exact .of_eq (h us hl)
def Passes (CX:CXT) (X:Cx) (E:XK):Prop:=∀(pins:List (Addr×Obj)) (σ:St) (H:Hp) (s:Shared) (e:Value) (s':Shared),Inv X pins σ H s→CX X.stack H s E e s'→X.xe e s'
section
variable {X:Cx}{CX:CXT}{k:Nat}{f C:Addr}{fd:FuncData}{ps:List Str}{sp:Sp}{dvs:List V}{ds:List Value}{E:XK}{x m:Str}{p pos apos:Pos}{e o:Expr}{es:List Expr}{ta:TE}{t:TA}
theorem run_fn {pins:List (Addr×Obj)}{σ:St}{H:Hp}{s:Shared}{Q:VK}{us:List Value}{vs:List V} (F:FnOk X.prog X.w X.K X.mg X.base CX k f fd ps sp) (hr:Room k X.A) (hb:Binds X.K fd ps ds) (hd:Vals dvs ds) (hx:Passes CX X E)
  (I:Inv X pins σ H s) (r:Vals vs us) (h:sp (vs++dvs) H Q E):wpAny (model X.prog X.w) X.A (call (.ref f) us) (EP X pins σ Q) X.xe s:=by
 have r2:Vals (vs++dvs) (us++ds):=r.append hd
 have hl:(us++ds).length=ps.length:=by rw [← r2.length];exact F.len _ _ _ _ h
 refine wpAny_call (codeAny_mono (F.run X.A X.stack s H ⟨us,[]⟩ (us++ds) (vs++dvs) Q E hr I.env0 (hb s us I.kIn hl) r2 h) fun r s' hq=>?_)
 cases r with
 | error e=>exact hx pins σ H s e s' I hq
 | ok fl=>
  cases fl with
  | ret u=>exact I.after hq
  | next=>exact False.elim hq
  | brk=>exact False.elim hq
  | cont=>exact False.elim hq
end
structure FnScope (N P:List Str) (sc:Scope):Prop where
 kind:sc.kind=.function
 co:sc.isCoroutine=false
 gen:sc.isGenerator=false
 nd:N.Nodup
 pre:N.take P.length=P
 par:∀x∈P,sc.names.lookup x=some .local∨sc.names.lookup x=some .cell
 nofree:∀y∈sc.names,y.2≠.free
theorem bindL_out {kindOf:Str→Option NameKind}{x:Str}:∀{binds:List (Str×Value)}{m:Str→Option Value},(∀v,(x,v)∉binds)→bindL kindOf binds m x=m x
 | [],_,_=>rfl
 | (n,v)::r,m,h=>by
  unfold bindL
  rw [bindL_out fun w hw=>h w (List.mem_cons_of_mem _ hw)]
  split
  ·have:x≠n:=by rintro rfl;exact h v List.mem_cons_self
   simp [this]
  ·rfl
theorem bindC_out {kindOf:Str→Option NameKind}{x:Str}:∀{binds:List (Str×Value)}{m:Str→Option Value},(∀v,(x,v)∉binds)→bindC kindOf binds m x=m x
 | [],_,_=>rfl
 | (n,v)::r,m,h=>by
  unfold bindC
  rw [bindC_out fun w hw=>h w (List.mem_cons_of_mem _ hw)]
  split
  ·rfl
  ·have:x≠n:=by rintro rfl;exact h v List.mem_cons_self
   simp [this]
theorem bindL_get {kindOf:Str→Option NameKind}{x:Str}{v:Value}:∀{P:List Str}{vs:List Value}{i:Nat}{m:Str→Option Value},P.Nodup→P[i]?=some x→vs[i]?=some v→kindOf x=some .local→
  bindL kindOf (P.zip vs) m x=some v
 | [],_,_,_,_,h,_,_=>by simp at h
 | _::_,[],_,_,_,_,h,_=>by simp at h
 | p::P,w::vs,0,m,nd,h1,h2,hk=>by
  simp at h1 h2;subst h1;subst h2
  show bindL kindOf ((p,w)::P.zip vs) m p=_
  unfold bindL
  rw [bindL_out fun v hv=>(List.nodup_cons.mp nd).1 (List.of_mem_zip hv).1,if_pos hk]
  simp
 | p::P,w::vs,i+1,m,nd,h1,h2,hk=>by
  show bindL kindOf ((p,w)::P.zip vs) m x=_
  unfold bindL
  exact bindL_get (i:=i) (List.nodup_cons.mp nd).2 (by simpa using h1) (by simpa using h2) hk
theorem bindC_get {kindOf:Str→Option NameKind}{x:Str}{v:Value}:∀{P:List Str}{vs:List Value}{i:Nat}{m:Str→Option Value},P.Nodup→P[i]?=some x→vs[i]?=some v→kindOf x≠some .local→
  bindC kindOf (P.zip vs) m x=some v
 | [],_,_,_,_,h,_,_=>by simp at h
 | _::_,[],_,_,_,_,h,_=>by simp at h
 | p::P,w::vs,0,m,nd,h1,h2,hk=>by
  simp at h1 h2;subst h1;subst h2
  show bindC kindOf ((p,w)::P.zip vs) m p=_
  unfold bindC
  rw [bindC_out fun v hv=>(List.nodup_cons.mp nd).1 (List.of_mem_zip hv).1,if_neg hk]
  simp
 | p::P,w::vs,i+1,m,nd,h1,h2,hk=>by
  show bindC kindOf ((p,w)::P.zip vs) m x=_
  unfold bindC
  exact bindC_get (i:=i) (List.nodup_cons.mp nd).2 (by simpa using h1) (by simpa using h2) hk
def start (N:List Str) (vs:List V):St:=vs.map some++List.replicate (N.length-vs.length) none
def cxOf (CX:CXT) (P:Program) (w:World) (K:PySem.W.Frag) (mg:Str→Option Value) (base:Heap) (N:List Str) (qual:Str) (scope:Scope) (f:Addr) (cd:Value) (A:Around) (outer:List Env) (s:Shared) (H:Hp) (E:XK):Cx where
 prog:=P
 w:=w
 K:=K
 mg:=mg
 base:=base
 A:=A.deeper (envOfC qual scope s.heap.objs.size f cd)
 N:=N
 s₀:=s
 H₀:=H
 env:=envOfC qual scope s.heap.objs.size f cd
 outer:=outer
 stack:=envOfC qual scope s.heap.objs.size f cd::outer
 ex:=[]
 calm:=true
 fn:=fun _=>true
 pn:=[]
 xe:=fun e s'=>wpAny (model P w) (A.deeper (envOfC qual scope s.heap.objs.size f cd)) (leaving (envOfC qual scope s.heap.objs.size f cd) e) (fun _ s''=>CX outer H s E e s'') (fun e' s''=>CX outer H s E e' s'') s'
theorem cell_has {sc:Scope}{n:Nat}{x:Str} (h:sc.names.lookup x=some .cell):∃c,(cellsFrom n sc.names []).lookup x=some c:=by
 have q:=PySem.W.cellsFrom_some sc.names n [] (.inl h)
 exact Option.isSome_iff_exists.mp q
theorem inv_start {CX:CXT}{P:Program}{w:World}{K:PySem.W.Frag}{mg:Str→Option Value}{base:Heap}{N ps:List Str}{qual:Str}{scope:Scope}{f:Addr}{cd:Value}{A:Around}{outer:List Env}{s s1:Shared}{H:Hp}{E:XK}{us:List Value}{vs:List V}
  (S:FnScope N ps scope) (hd:A.handled=none) (e0:Env0 P w K mg base A outer s H) (hl:vs.length=ps.length) (r:Vals vs us)
  (x:InCallC s s.heap.objs.size (bindL (envOfC qual scope s.heap.objs.size f cd).kindOf (ps.zip us) fun _=>none) (cellsFrom (s.heap.objs.size+1) scope.names []) (bindC (envOfC qual scope s.heap.objs.size f cd).kindOf (ps.zip us) fun _=>none) s1) :
  Inv (cxOf CX P w K mg base N qual scope f cd A outer s H E) [] (start N vs) H s1:=by
 have hpl:ps.length≤N.length:=by have:=congrArg List.length S.pre;rw [List.length_take] at this;omega
 obtain⟨h1,tk,rfl,hk⟩:=x.done
 have noA:∀b:Addr,b∉(cxOf CX P w K mg base N qual scope f cd A outer s H E).ex:=fun b z=>absurd (show b∈([]:List Addr) from z) (by simp)
 refine⟨⟨e0.mod,S.kind,rfl,rfl,Nat.le_refl _,fun y z c h1 h2=>?_,fun y hy=>?_,fun y c _ h=>?_,fun _=>hd,Around.frames_deeper e0.frames,.inr ⟨rfl,rfl⟩,fun b z=>absurd z (noA b),e0.bs,e0.bsz,fun b _ _=>noA b,fun b z=>absurd z (noA b),e0.funs,e0.frf⟩,
  rfl,e0.bare,Un.kept hk,⟨_,x.toInCall.ns,fun i y v h1 h2 h3=>?_⟩,fun y c h=>⟨_,x.cell y c h⟩,e0.hok.fresh (Nat.le_refl _),fun y c h=>?_,fun p hp=>absurd (show p∈([]:List (Addr×Obj)) from hp) (by simp),e0.hok.kept hk,?_⟩
 ·exact name_of_addr x.apart (PySem.mem_of_lookup h1) (PySem.mem_of_lookup h2)
 ·have hy:scope.names.lookup y=some .cell∨scope.names.lookup y=some .free:=hy
  rcases hy with hy | hy
  ·exact cell_has hy
  ·exact absurd rfl (S.nofree _ (PySem.mem_of_lookup hy))
 ·exact Nat.le_of_lt (x.above y c (PySem.mem_of_lookup h))
 ·have hi:i < vs.length:=by
   unfold start at h2
   by_cases hi:i < vs.length
   ·exact hi
   ·rw [List.getElem?_append_right (by simpa using hi)] at h2
    rw [List.getElem?_replicate] at h2
    split at h2 <;> cases h2
  have ha:vs[i]?=some v:=by
   unfold start at h2
   rw [List.getElem?_append_left (by simpa using hi),List.getElem?_map] at h2
   cases e:vs[i]? with
   | none=>rw [e] at h2;cases h2
   | some a=>rw [e] at h2;cases h2;rfl
  obtain⟨u,hu,rv⟩:=r.get ha
  have hp:ps[i]?=some y:=by
   rw [← S.pre,List.getElem?_take_of_lt (by omega)];exact h1
  have ndP:ps.Nodup:=by rw [← S.pre];exact S.nd.sublist (List.take_sublist _ _)
  refine⟨u,rv,?_⟩
  rcases S.par y (List.mem_of_getElem? hp) with k | k
  ·exact .inl ⟨k,bindL_get ndP hp hu k⟩
  ·obtain⟨c,e⟩:=cell_has (n:=s.heap.objs.size+1) k
   refine .inr ⟨.inl k,c,e,?_⟩
   have q:=x.cell y c e
   rw [bindC_get ndP hp hu (by show scope.names.lookup y≠_;rw [k];decide)] at q
   exact q
 ·exact e0.hok.fresh (Nat.le_of_lt (x.above y c (PySem.mem_of_lookup h)))
 ·unfold start
  show _=N.length
  rw [List.length_append,List.length_map,List.length_replicate]
  omega
theorem fn_of {CX:CXT}{P:Program}{w:World}{K:PySem.W.Frag}{mg:Str→Option Value}{base:Heap}{k:Nat}{f:Addr}{name qual:Str}{params:Arguments}{body:List Stmt}{scope:Scope}{dV kV doc pm cdv ct oc:Value}{an od:Option Addr}
  {osl:Array (Option Value)}{N ps:List Str}{sp:Sp} (lk:K.lookup f=some ⟨oc,od,.func (PySem.W.fnOf name qual params body scope dV kV doc pm an cdv ct),osl⟩) (hcd:PySem.W.codeIn K cdv qual=true) (S:FnScope N ps scope)
  (len:∀vs H Q E,sp vs H Q E→vs.length=ps.length)
  (hbody:∀(A:Around) (outer:List Env) (s:Shared) (H:Hp) (vs:List V) (Q:VK) (E:XK),Room k (A.deeper (envOfC qual scope s.heap.objs.size f cdv))→sp vs H Q E→
   ∃t,PSs (cxOf CX P w K mg base N qual scope f cdv A outer s H E) body t∧t {nx:=fun _ H'=>Q .non H',rt:=Q} (start N vs) H) :
  FnOk P w K mg base CX (k+1) f (PySem.W.fnOf name qual params body scope dV kV doc pm an cdv ct) ps sp:=by
 refine⟨len,fun A outer s H args us vs Q E hr e0 hb r hsp=>?_⟩
 have hl:=len _ _ _ _ hsp
 have KX:K.In s.heap:=e0.mod.kin.keeps fun b o e=>(e0.bs b o e).1
 have lim:s.heap.NoLimit:=e0.mod.nolimit.keeps fun b o e=>(e0.bs b o e).1
 have hkind:∀y∈ps.zip us,scope.names.lookup y.1=some .local∨(scope.names.lookup y.1=some .cell∧((cellsFrom (s.heap.objs.size+1) scope.names []).lookup y.1).isSome=true):=fun ⟨n,v⟩ hy=>by
  rcases S.par n (List.of_mem_zip hy).1 with q | q
  ·exact .inl q
  ·exact .inr ⟨q,PySem.W.cellsFrom_some _ _ _ (.inl q)⟩
 refine codeAny_call_function hr.depth (KX _ _ lk) rfl S.co S.gen rfl (PySem.W.codeRec_of KX hcd) (hb _ _ _ _ ?_)
 refine wpAny_newFunctionEnv_cells S.kind hkind fun env he s1 x=>?_
 subst he
 refine⟨lim.keeps x.toInCall.keep,codeAny_func ?_⟩
 obtain⟨t,ht,hq⟩:=hbody A outer s H vs Q E (hr.deeper _) hsp
 have I:Inv (cxOf CX P w K mg base N qual scope f cdv A outer s H E) [] (start N vs) H s1:=inv_start S hr.hd e0 hl r x
 refine wpAny_mono (ht [] s1 (start N vs) H _ I hq) (fun fl s' hs=>?_) fun e s' hs=>hs
 have fin:∀{σ':St}{H':Hp}{v:V}{u:Value},Inv (cxOf CX P w K mg base N qual scope f cdv A outer s H E) [] σ' H' s'→RelV v u→Q v H'→CE outer P w H s Q u s':=
  fun {σ' H' v u} J rv q=>⟨v,H',J.os,J.bare,J.base,J.hok,rv,q⟩
 cases fl with
 | ret u=>
  obtain⟨v,σ',H',J,rv,q⟩:=hs
  exact fin J rv q
 | next=>
  obtain⟨σ',H',J,q⟩:=hs
  exact fin (v:=V.non) (u:=Value.none) J rfl q
 | brk=>
  obtain⟨_,_,_,q⟩:=hs
  exact False.elim q
 | cont=>
  obtain⟨_,_,_,q⟩:=hs
  exact False.elim q
end L2
namespace L2
open PySem PySem.Spec PyProof.Rows
section
variable {X:Cx}{x:Str}{p pos:Pos}{e:Expr}{es:List Expr}{t:TA}{id T:String}{r:List V→Hp→VK→Prop}
def tCB (r:List V→Hp→VK→Prop) (t:TA):TE:=fun σ H Q=>t σ H fun vs H1=>r vs H1 Q
theorem pe_callB (hc:CallR X (.builtin id) r) (hg:Gl X x) (hm:X.mg x=none) (hv:bootBuiltins x=some (.builtin id)) (ha:PA X (e::es) t) (hn:x≠"__name__":=by decide) (hdb:(x==("__debug__":Str))=false:=by decide)
  (he:starEach (e::es) X.env=(false,eval e X.env)::starEach es X.env:=by rfl) (hpl:(backTo pos (starEach es X.env)).any (·.1)=false:=by rfl):PE X (.Call (.Name x p) (e::es) [] pos) (tCB r t):=by
 intro pins s σ H Q I h
 refine wpAny_Call_Name_kw (ld_blt I hg hm hv ?_ hn hdb)
 exact PyProof.Rows.callWith_builtin1 (thn (ha pos pins s σ H _ I h) fun us s1 ⟨vs,H1,I1,r1,q1⟩=>hc pins s1 σ H1 vs us Q I1 r1 q1) he hpl
theorem pe_callTy (hc:CallR X (.type T) r) (hg:Gl X x) (hm:X.mg x=none) (hv:bootBuiltins x=some (.type T)) (ha:PA X (e::es) t) (hn:x≠"__name__":=by decide) (hdb:(x==("__debug__":Str))=false:=by decide)
  (he:starEach (e::es) X.env=(false,eval e X.env)::starEach es X.env:=by rfl) (hpl:(backTo pos (starEach es X.env)).any (·.1)=false:=by rfl):PE X (.Call (.Name x p) (e::es) [] pos) (tCB r t):=by
 intro pins s σ H Q I h
 refine wpAny_Call_Name_kw (ld_blt I hg hm hv ?_ hn hdb)
 exact PyProof.Rows.callWith_type1 (thn (ha pos pins s σ H _ I h) fun us s1 ⟨vs,H1,I1,r1,q1⟩=>hc pins s1 σ H1 vs us Q I1 r1 q1) he hpl
end
end L2
namespace HT
open PySem PyProof.Rows
section
variable {prog:Program}{w:World}{A:Around}{E:Value→Shared→Prop}{s:Shared}
theorem cat_tup {t b:Addr}{vs ws:List Value}{Q:Value→Shared→Prop} (ht:IsTup s.heap t vs.toArray) (hb:IsTup s.heap b ws.toArray) (hv:vs≠[])
  (h1:ws=[]→Q (.ref t) s) (h2:ws≠[]→Q (.ref s.heap.objs.size) {s with heap:=s.heap.push {cls:=.type "tuple",data:=.seq (vs++ws).toArray}})
  (hsz:vs.length+ws.length≤sizeLine):wpAny (model prog w) A (binaryOp .Add (.ref t) (.ref b)) Q E s:=by
 obtain⟨⟨cls,dd,data,sl⟩,ho,hc,n,hd⟩:=id ht
 obtain⟨⟨cls2,dd2,data2,sl2⟩,ho2,hc2,n2,hd2⟩:=id hb
 simp only at hc hd hc2 hd2
 subst hc hd hc2 hd2
 have e:vs.toArray++ws.toArray=(vs++ws).toArray:=by simp
 by_cases hw:ws=[]
 ·exact concat_meets ⟨_,ho,rfl⟩ ⟨_,ho2,rfl⟩ noFill_tuple_add seq_tuple_add PySem.F.slot_tuple_add PySem.F.entry_tuple_add (PySem.F.args_tuple_add_2 _ _)
   (tuple_addW1 t b vs.toArray ws.toArray n n2 dd dd2 sl sl2 (by simpa using hv) (by simp [hw])) ⟨ho,ho2,h1 hw⟩
 ·refine concat_meets ⟨_,ho,rfl⟩ ⟨_,ho2,rfl⟩ noFill_tuple_add seq_tuple_add PySem.F.slot_tuple_add PySem.F.entry_tuple_add (PySem.F.args_tuple_add_2 _ _)
   (tuple_addW2 t b vs.toArray ws.toArray n n2 dd dd2 sl sl2 (by simpa using hv) (by simpa using hw) (by rw [List.size_toArray,List.size_toArray];exact hsz)) ⟨ho,ho2,?_⟩
  rw [e]
  exact h2 hw
def sIx (n d:Nat):Option Int→Nat
 | none=>d
 | some v=>if v < 0 then (v+(n:Int)).toNat else min v.toNat n
end
end HT
namespace L2
open PySem PySem.Spec PyProof.Rows
abbrev TO:=St→Hp→(Option Int→Hp→Prop)→Prop
def PO (X:Cx) (e:Option Expr) (t:TO):Prop:=
 ∀(pins:List (Addr×Obj)) (s:Shared) (σ:St) (H:Hp) (Q:Option Int→Hp→Prop),Inv X pins σ H s→t σ H Q→
  wpAny (model X.prog X.w) X.A (evalPart e X.env) (fun u s'=>∃o H',Inv X pins σ H' s'∧IsPart u o∧Q o H') X.xe s
theorem intsAre_of {ns:List Int}:∀{us:List Value},Vals (ns.map V.int) us→IntsAre us ns:=by
 induction ns with
 | nil=>intro us r;rw [List.map_nil] at r;cases r;exact .nil
 | cons n ns ih=>
  intro us r
  rw [List.map_cons] at r
  cases r with
  | cons r1 r2=>
   obtain⟨t,e⟩:=r1
   subst e
   exact .cons n t (ih r2)
section
variable {X:Cx}{e:Expr}{te:TE}{lo hi:Option Expr}{tl th:TO}{pos p2:Pos}
def SlR (X:Cx) (r:V→Option Int→Option Int→Hp→VK→Prop):Prop:=
 ∀(pins:List (Addr×Obj)) (s:Shared) (σ:St) (H:Hp) (x:V) (v vl vu:Value) (lo hi:Option Int) (sl:Addr) (Q:VK),Inv X pins σ H s→RelV x v→s.heap.IsSliceOf sl vl vu .none→IsPart vl lo→IsPart vu hi→r x lo hi H Q→
  ∃T id,typeLookup (.type T) "__getitem__"=pure (some (.builtin id))∧s.TypeIs v T∧wpAny (model X.prog X.w) X.A (getItem v (.ref sl)) (EP X pins σ Q) X.xe s
def cutV (xs:List V) (lo hi:Option Int):List V:=(xs.drop (HT.sIx xs.length 0 lo)).take (HT.sIx xs.length xs.length hi-HT.sIx xs.length 0 lo)
theorem cutV_length (xs:List V) (lo hi:Option Int):(cutV xs lo hi).length≤xs.length:=by
 unfold cutV
 rw [List.length_take,List.length_drop]
 omega
def rCatT (K:PySem.W.Frag):R2:=fun x y H Q=>∃a b xs ys,x=.ref a∧y=.ref b∧SqT K H a xs∧SqT K H b ys∧xs≠[]∧xs.length+ys.length≤sizeLine∧
 (ys=[]→Q (.ref a) H)∧(ys≠[]→∀p,H p=none→Q (.ref p) (upd H p (.tup (xs++ys))))
theorem Vals.nil_iff {xs:List V}{us:List Value} (r:Vals xs us):us=[]↔xs=[]:=by
 cases r with
 | nil=>simp
 | cons _ _=>simp
theorem op_catT:OpR X (binaryOp .Add) (rCatT X.K):=by
 intro pins s σ H x y v u Q I rx ry h
 obtain⟨a,b,xs,ys,rfl,rfl,ha,hb,hx,hz,q1,q2⟩:=h
 cases rx
 cases ry
 obtain⟨its,r1,p1,_⟩:=I.tuple ha
 obtain⟨its2,r2,p2,_⟩:=I.tuple hb
 refine HT.cat_tup p1 p2 (fun z=>hx (r1.nil_iff.mp z)) (fun z=>⟨.ref a,H,I,rfl,q1 (r2.nil_iff.mp z)⟩) (fun z=>?_) (by rw [← r1.length,← r2.length];exact hz)
 refine⟨.ref s.heap.objs.size,_,I.laid (t':=s.toks) (o:=.tup (xs++ys)) (fun b ob q=>Heap.get?_push_of_some _ q) (Nat.le_refl _) ?_,rfl,q2 (fun w=>z (r2.nil_iff.mpr w)) _ (I.hok.fresh (Nat.le_refl _))⟩
 exact⟨by rw [List.length_append];exact hz,_,r1.append r2,IsTup.new _ _⟩
end
end L2
namespace L2
open PySem PySem.Spec PyProof.Rows
def ixN (n:Nat) (i:Int):Option Nat:=if 0≤i then (if i < n then some i.toNat else none) else if -(n:Int)≤i then some (i+n).toNat else none
def atI {α:Type} (xs:List α) (i:Int):Option α:=(ixN xs.length i).bind fun j=>xs[j]?
theorem ixN_seq {n:Nat}{i:Int}{j:Nat} (h:ixN n i=some j):seqIndex? i n=some j∧j < n∧-(n:Int)≤i∧i < n:=by
 unfold ixN at h
 by_cases h0:0≤i
 ·rw [if_pos h0] at h
  by_cases h1:i < n
  ·rw [if_pos h1] at h
   have e:i.toNat=j:=Option.some.inj h
   exact⟨by rw [seqIndex_of h0 h1,e],by omega,by omega,h1⟩
  ·rw [if_neg h1] at h;cases h
 ·rw [if_neg h0] at h
  by_cases h1:-(n:Int)≤i
  ·rw [if_pos h1] at h
   have e:(i+n).toNat=j:=Option.some.inj h
   exact⟨by rw [seqIndex_neg (by omega) h1,e],by omega,h1,by omega⟩
  ·rw [if_neg h1] at h;cases h
theorem atI_get {α:Type}{xs:List α}{i:Int}{v:α} (h:atI xs i=some v):∃j,seqIndex? i xs.length=some j∧xs[j]?=some v∧j < xs.length∧-(xs.length:Int)≤i∧i < xs.length:=by
 unfold atI at h
 cases e:ixN xs.length i with
 | none=>rw [e] at h;cases h
 | some j=>
  rw [e] at h
  obtain⟨h1,h2,h3,h4⟩:=ixN_seq e
  exact⟨j,h1,h,h2,h3,h4⟩
theorem atI_nat {α:Type}{xs:List α}{j:Nat}{v:α} (h:xs[j]?=some v):atI xs (j:Int)=some v:=by
 have hj:j < xs.length:=(List.getElem?_eq_some_iff.mp h).1
 have e:ixN xs.length (j:Int)=some j:=by
  unfold ixN
  rw [if_pos (by omega),if_pos (by omega)];simp
 unfold atI;rw [e];exact h
def PlainIx (b:Expr):Prop:=∀o i,subscripted b false o i=operate [o,i] (getItem o i)
def IxR (X:Cx) (r:R2):Prop:=
 ∀(value slice:Expr) (pins:List (Addr×Obj)) (s:Shared) (σ:St) (H:Hp) (x y:V) (v u:Value) (Q:VK),Inv X pins σ H s→RelV x v→RelV y u→r x y H Q→
  subscripted slice false v u=operate [v,u] (getItem v u)→wpAny (model X.prog X.w) X.A (subscriptTail value slice v u) (EP X pins σ Q) X.xe s
def MtR (X:Cx) (id:String) (r:V→List V→Hp→VK→Prop):Prop:=
 ∀(pins:List (Addr×Obj)) (s:Shared) (σ:St) (H:Hp) (x:V) (xs:List V) (v:Value) (us:List Value) (Q:VK),Inv X pins σ H s→RelV x v→Vals xs us→r x xs H Q→
  wpAny (model X.prog X.w) X.A (call (.builtin id) (v::us)) (EP X pins σ Q) X.xe s
section
variable {X:Cx}{a b:Expr}{ta tb:TE}{pos:Pos}
theorem IxR.or {r r':R2} (h:IxR X r) (h':IxR X r'):IxR X (fun x y H Q=>r x y H Q∨r' x y H Q):=by
 intro value slice pins s σ H x y v u Q I rx ry q hs
 rcases q with q | q
 ·exact h value slice pins s σ H x y v u Q I rx ry q hs
 ·exact h' value slice pins s σ H x y v u Q I rx ry q hs
theorem pe_ix {r:R2} (hr:IxR X r) (ha:PE X a ta) (hb:PE X b tb) (hs:PlainIx b):PE X (.Subscript a b pos) (tOp r ta tb):=by
 intro pins s σ H Q I h
 exact Subscript_ (binT ha hb I h fun v u s2 x y H2 I2 rx ry q=>hr a b pins s2 σ H2 x y v u Q I2 rx ry q (hs _ _))
def rIxL (K:PySem.W.Frag):R2:=fun x y H Q=>∃p xs i v,x=.ref p∧y=.int i∧SqL K H p xs∧atI xs i=some v∧Q v H
def rIxT (K:PySem.W.Frag):R2:=fun x y H Q=>∃p xs i v,x=.ref p∧y=.int i∧SqT K H p xs∧atI xs i=some v∧Q v H
def rIxS:R2:=fun x y H Q=>∃z i c,x=.str z∧y=.int i∧z.length≤sizeLine∧atI z.cps.toList i=some c∧Q (.str ⟨#[c]⟩) H
theorem ix_list:IxR X (rIxL X.K):=by
 intro value slice pins s σ H x y v u Q I rx ry h hs
 obtain⟨p,xs,i,z,rfl,rfl,hq,he,q⟩:=h
 cases rx
 obtain⟨t,rfl⟩:=ry
 obtain⟨its,r,pl,hz⟩:=I.list hq
 obtain⟨j,h1,h2,h3,h4,h5⟩:=atI_get he
 obtain⟨w,ew,rw'⟩:=r.get h2
 have hl:=r.length
 have hn:=line63
 have fin:EP X pins σ Q w s:=⟨z,H,I,rw',q⟩
 by_cases h0:0≤i
 ·have hj:i.toNat=j:=by
   rw [seqIndex_of h0 h5] at h1
   exact Option.some.inj h1
  exact item_listR pl.isList h0 (by omega) (by rw [hj];simpa using ew) fin hs
 ·have hj:(i+(its.toArray.size:Int)).toNat=j:=by
   rw [seqIndex_neg (by omega) h4] at h1
   rw [List.size_toArray,← hl]
   exact Option.some.inj h1
  exact subscriptTail_builtinR (x:=w) pl.isList.typeIs slot_list_getitem.lookup
   (wpAny_getItem_list_neg (Q:=fun r s'=>r=w∧EP X pins σ Q r s') pl.isList (by omega) (by rw [List.size_toArray] <;> omega) (by omega) (by rw [hj];simpa using ew) ⟨rfl,fin⟩) hs
theorem ix_tup:IxR X (rIxT X.K):=by
 intro value slice pins s σ H x y v u Q I rx ry h hs
 obtain⟨p,xs,i,z,rfl,rfl,hq,he,q⟩:=h
 cases rx
 obtain⟨t,rfl⟩:=ry
 obtain⟨its,r,pl,hz⟩:=I.tuple hq
 obtain⟨j,h1,h2,h3,h4,h5⟩:=atI_get he
 obtain⟨w,ew,rw'⟩:=r.get h2
 have hl:=r.length
 have hn:=line63
 have fin:EP X pins σ Q w s:=⟨z,H,I,rw',q⟩
 exact subscriptTail_builtinR (x:=w) pl.typeIs slot_tuple_getitem.lookup
  (getItem_tuple (j:=j) (Q:=fun r s'=>r=w∧EP X pins σ Q r s') pl (by omega) (by omega) (by rw [List.size_toArray,← hl];exact h1) (by simpa using ew) ⟨rfl,fin⟩) hs
theorem ix_str:IxR X rIxS:=by
 intro value slice pins s σ H x y v u Q I rx ry h hs
 obtain⟨z,i,c,rfl,rfl,hz,he,q⟩:=h
 obtain⟨t,rfl⟩:=rx
 obtain⟨t',rfl⟩:=ry
 obtain⟨j,h1,h2,h3,h4,h5⟩:=atI_get he
 have hl:z.cps.toList.length=z.length:=by simp [Str.length]
 rw [hl] at h1 h4 h5
 have hn:=line63
 exact tail_any (typeIs_str s z t) slot_str_getitem.lookup (getItem_str (c:=c) (by
  have e1:decide (i < -(2 ^ 63:Int))=false:=decide_eq_false (by omega)
  have e2:decide (i≥2 ^ 63)=false:=decide_eq_false (by omega)
  rw [e1,e2,Bool.or_false]) (by rw [h1];simpa using h2) ⟨.str ⟨#[c]⟩,H,I.tok _,⟨_,rfl⟩,q⟩) hs
def rIx (K:PySem.W.Frag):R2:=fun x y H Q=>rIxL K x y H Q∨rIxT K x y H Q∨rIxS x y H Q
theorem ix_seq:IxR X (rIx X.K):=ix_list.or (ix_tup.or ix_str)
theorem mapSeq_set (its:List Value) (n j:Nat) (u:Value):Obj.mapSeq (·.setIfInBounds j u) {cls:=.type "list",data:=.seq its.toArray n}={cls:=.type "list",data:=.seq (its.set j u).toArray n}:=by
 simp [Obj.mapSeq]
theorem Inv.lst {pins:List (Addr×Obj)}{σ:St}{H:Hp}{s:Shared}{p:Addr}{xs:List V} (I:Inv X pins σ H s) (h:H p=some (.lst xs)) :
  ∃(its:List Value) (n:Nat),Vals xs its∧s.heap.get? p=some {cls:=.type "list",data:=.seq its.toArray n}∧xs.length≤sizeLine:=by
 obtain⟨z,its,n,r,e⟩:=I.hok p _ h
 exact⟨its,n,r,e,z⟩
theorem Inv.lstUpd {pins:List (Addr×Obj)}{σ:St}{H:Hp}{s:Shared}{p:Addr}{xs ys:List V}{its its':List Value}{n n':Nat}{f:Obj→Obj} (I:Inv X pins σ H s) (h:H p=some (.lst xs))
  (ho:s.heap.get? p=some {cls:=.type "list",data:=.seq its.toArray n}) (hf:f {cls:=.type "list",data:=.seq its.toArray n}={cls:=.type "list",data:=.seq its'.toArray n'}) (r:Vals ys its') (hz:ys.length≤sizeLine) (t:Nat) :
  Inv X pins σ (upd H p (.lst ys)) {s with heap:=s.heap.update p f,toks:=t}:=by
 have e:(s.heap.update p f).get? p=some {cls:=.type "list",data:=.seq its'.toArray n'}:=by
  rw [Heap.get?_update_self f ho (by rw [hf] <;> rfl),hf]
 refine I.write (x:=p) (e:=p) (by rw [h];trivial) (.inl rfl) (fun b u hb q=>(Heap.get?_update_other _ _ (Ne.symm hb)).trans q) ⟨_,e⟩ ?_
 exact⟨hz,its',n',r,e⟩
def rSetL:V→V→V→Hp→(Hp→Prop)→Prop:=fun o i v H Q=>∃p xs k j,o=.ref p∧i=.int k∧H p=some (.lst xs)∧ixN xs.length k=some j∧Q (upd H p (.lst (xs.set j v)))
theorem set_list:PSet X rSetL:=by
 intro pins s σ H o i v ov iv u Q I ro ri rv h
 obtain⟨p,xs,k,j,rfl,rfl,hp,hj,q⟩:=h
 cases ro
 obtain⟨t,rfl⟩:=ri
 obtain⟨its,n,r,ho,hz⟩:=I.lst hp
 obtain⟨h1,h2,h3,h4⟩:=ixN_seq hj
 have hl:=r.length
 have hn:=line63
 have I':Inv X pins σ (upd H p (.lst (xs.set j v))) {s with heap:=s.heap.update p (Obj.mapSeq (·.setIfInBounds j u))}:=
  I.lstUpd hp ho (mapSeq_set its n j u) (r.set rv j) (by rw [List.length_set];exact hz) s.toks
 by_cases h0:0≤k
 ·have hk:k.toNat=j:=by
   rw [seqIndex_of h0 h4] at h1
   exact Option.some.inj h1
  exact PySem.W.ki_setAt ho h0 (by omega) (by rw [List.size_toArray,← hl];exact h4) (by rw [hk];exact⟨_,I',q⟩)
 ·have hk:(k+(its.toArray.size:Int)).toNat=j:=by
   rw [seqIndex_neg (by omega) h3] at h1
   rw [List.size_toArray,← hl]
   exact Option.some.inj h1
  exact PySem.W.ki_setBack ho (by omega) (by rw [List.size_toArray,← hl];exact h3) (by omega) (by rw [hk];exact⟨_,I',q⟩)
theorem slice_bounds (lo hi:Option Int) (n:Nat):(sliceBounds lo hi none n).1=((HT.sIx n 0 lo:Nat):Int)∧(sliceBounds lo hi none n).2.1=((HT.sIx n n hi:Nat):Int)∧(sliceBounds lo hi none n).2.2=1:=by
 refine⟨?_,?_,rfl⟩
 ·cases lo with
  | none=>simp [sliceBounds,HT.sIx]
  | some i=>
   simp only [sliceBounds,HT.sIx,Option.getD_none,show (1:Int) > 0 by decide,if_true]
   by_cases h:i < 0
   ·simp only [h,if_true] <;> omega
   ·simp only [h,if_false] <;> omega
 ·cases hi with
  | none=>simp [sliceBounds,HT.sIx]
  | some i=>
   simp only [sliceBounds,HT.sIx,Option.getD_none,show (1:Int) > 0 by decide,if_true]
   by_cases h:i < 0
   ·simp only [h,if_true] <;> omega
   ·simp only [h,if_false] <;> omega
theorem slicePick_cut (its:List Value) (lo hi:Option Int):slicePick its.toArray lo hi none=((its.drop (HT.sIx its.length 0 lo)).take (HT.sIx its.length its.length hi-HT.sIx its.length 0 lo)).toArray:=by
 obtain⟨h1,h2,h3⟩:=slice_bounds lo hi its.toArray.size
 unfold slicePick
 rw [h1,h2,h3]
 simp only [sliceRange_one,pick_run,List.size_toArray] <;> rfl
def rSlL (K:PySem.W.Frag):V→Option Int→Option Int→Hp→VK→Prop:=fun x lo hi H Q=>∃a xs,x=.ref a∧SqL K H a xs∧∀p,H p=none→Q (.ref p) (upd H p (.lst (cutV xs lo hi)))
theorem sl_list:SlR X (rSlL X.K):=by
 intro pins s σ H x v vl vu lo hi sl Q I rx hs pl pu h
 obtain⟨a,xs,rfl,hx,q⟩:=h
 cases rx
 obtain⟨its,r,ht,hz⟩:=I.list hx
 have hlen:=r.length
 refine⟨"list",_,slot_list_getitem.lookup,ht.isList.typeIs,?_⟩
 refine wpAny_getItem_list_slice ht.isList hs pl pu .none (by simp) ?_ (by rw [List.size_toArray] <;> omega)
 rw [slicePick_cut,← hlen]
 refine⟨.ref s.heap.objs.size,_,I.laid (t':=s.toks) (o:=.lst (cutV xs lo hi)) (fun b ob q=>Heap.get?_push_of_some _ q) (Nat.le_refl _) ?_,rfl,q _ (I.hok.fresh (Nat.le_refl _))⟩
 exact⟨Nat.le_trans (cutV_length xs lo hi) hz,_,0,(r.drop (HT.sIx xs.length 0 lo)).take (HT.sIx xs.length xs.length hi-HT.sIx xs.length 0 lo),Heap.get?_push_size _ rfl⟩
theorem call_list_of:CallR X (.type "list") (fun xs H Q=>∃p ys,xs=[.ref p]∧(SqL X.K H p ys∨SqT X.K H p ys)∧∀l,H l=none→Q (.ref l) (upd H l (.lst ys))):=by
 intro pins s σ H xs us Q I r h
 obtain⟨p,ys,rfl,hq,q⟩:=h
 obtain⟨u,rfl,rx⟩:=vals1 r
 cases rx
 have fin:∀(its:List Value),Vals ys its→ys.length≤sizeLine→∀(h':Heap) (c':Nat),(∀b o',s.heap.get? b=some o'→h'.get? b=some o')→
   h'.get? s.heap.objs.size=some {cls:=.type "list",dict:=none,data:=.seq its.toArray c',slots:=#[]}→EP X pins σ Q (.ref s.heap.objs.size) {s with heap:=h'}:=fun its r' hz h' c' kp e=>
  ⟨.ref s.heap.objs.size,_,I.laid (t':=s.toks) kp (Nat.le_refl _) (show ObjOk X.prog X.w _ h' _ (.lst ys) from⟨hz,its,c',r',e⟩),rfl,q _ (I.hok.fresh (Nat.le_refl _))⟩
 rcases hq with hq | hq
 ·obtain⟨its,r',pl,hz⟩:=I.list hq
  have hlen:=r'.length
  obtain⟨o,ho,hc,n,hd⟩:=pl.isList
  exact call_list_seq p (.inl rfl) ho hc hd (fun h' c' kp e=>fin its r' hz h' c' kp e) (by simp only [List.size_toArray] <;> omega)
 ·obtain⟨its,r',pl,hz⟩:=I.tuple hq
  have hlen:=r'.length
  obtain⟨o,ho,hc,n,hd⟩:=pl
  exact call_list_seq p (.inr rfl) ho hc hd (fun h' c' kp e=>fin its r' hz h' c' kp e) (by simp only [List.size_toArray] <;> omega)
theorem call_tuple_of:CallR X (.type "tuple") (fun xs H Q=>∃p ys,xs=[.ref p]∧((SqL X.K H p ys∧∀l,H l=none→Q (.ref l) (upd H l (.tup ys)))∨(SqT X.K H p ys∧Q (.ref p) H))):=by
 intro pins s σ H xs us Q I r h
 obtain⟨p,ys,rfl,h⟩:=h
 obtain⟨u,rfl,rx⟩:=vals1 r
 cases rx
 rcases h with⟨hq,q⟩ | ⟨hq,q⟩
 ·obtain⟨its,r',pl,hz⟩:=I.list hq
  have hlen:=r'.length
  refine call_tuple_list pl.isList (fun h' kp=>?_) (by simp only [List.size_toArray] <;> omega)
  have I1:Inv X pins σ H {s with heap:=h'}:=I.kept (t':=s.toks) kp
  have I2:Inv X pins σ (upd H h'.objs.size (.tup ys)) {s with heap:=h'.push {cls:=.type "tuple",data:=.seq its.toArray}}:=
   I1.laid (t':=s.toks) (fun b o e=>Heap.get?_push_of_some _ e) (Nat.le_refl _) (show ObjOk X.prog X.w _ _ _ (.tup ys) from⟨hz,its,r',IsTup.new _ _⟩)
  exact⟨.ref h'.objs.size,_,I2,rfl,q _ (I1.hok.fresh (Nat.le_refl _))⟩
 ·obtain⟨its,r',pl,hz⟩:=I.tuple hq
  exact call_tuple_same pl ⟨.ref p,H,I,rfl,q⟩
def tyV (K:PySem.W.Frag) (T:String) (x:V) (H:Hp):Prop:=match x with
 | .str _=>T="str"
 | .int _=>T="int"
 | .ref p=>(T="list"∧∃xs,SqL K H p xs)∨(T="tuple"∧∃o,K.lookup p=some o∧o.cls=.type "tuple"∧o.dict=none)∨
   (T="dict"∧((∃kvs,H p=some (.dK kvs))∨∃kvs,H p=some (.dT kvs)))∨(T="set"∧∃S n,H p=some (.set S n))
 | _=>False
theorem tyV_is {pins:List (Addr×Obj)}{σ:St}{H:Hp}{s:Shared}{T:String}{x:V}{v:Value} (I:Inv X pins σ H s) (r:RelV x v) (ty:tyV X.K T x H) :
  s.TypeIs v T∧∀a,v=.ref a→∃ob,s.heap.get? a=some ob∧ob.dict=none:=by
 cases x with
 | str z=>
  obtain⟨t,rfl⟩:=r
  cases (show T="str" from ty)
  exact⟨typeIs_str s z t,fun _ e=>nomatch e⟩
 | int i=>
  obtain⟨t,rfl⟩:=r
  cases (show T="int" from ty)
  exact⟨typeIs_int s i t,fun _ e=>nomatch e⟩
 | ref p=>
  cases r
  rcases ty with⟨rfl,xs,hq⟩ | ⟨rfl,o,hk,hc,hd⟩ | ⟨rfl,hk⟩ | ⟨rfl,S,n,hk⟩
  ·obtain⟨its,_,pl,_⟩:=I.list hq
   refine⟨pl.isList.typeIs,fun a e=>?_⟩
   cases e
   obtain⟨o,n,e,c,hd,_⟩:=pl
   exact⟨o,e,hd⟩
  ·refine⟨⟨o,I.kIn p o hk,hc⟩,fun a e=>?_⟩
   cases e
   exact⟨o,I.kIn _ o hk,hd⟩
  ·have z:∃o,s.heap.get? p=some o∧o.ExactDict:=by
    rcases hk with⟨kvs,hk⟩ | ⟨kvs,hk⟩
    ·obtain⟨_,_,_,_,o,_,_,e,ex,_⟩:=I.hok p _ hk
     exact⟨o,e,ex⟩
    ·obtain⟨_,_,_,_,o,_,_,e,ex,_⟩:=I.hok p _ hk
     exact⟨o,e,ex⟩
   obtain⟨o,e,ex⟩:=z
   refine⟨⟨o,e,ex.1⟩,fun a e2=>?_⟩
   cases e2
   exact⟨o,e,ex.2.1⟩
  ·obtain⟨o,_,_,_,e,ex,_⟩:=I.hok p _ hk
   refine⟨⟨o,e,ex.1⟩,fun a e2=>?_⟩
   cases e2
   exact⟨o,e,ex.2.1⟩
 | _=>exact False.elim ty
def tBM0 (K:PySem.W.Frag) (T:String) (r:V→List V→Hp→VK→Prop) (to:TE):TE:=fun σ H Q=>to σ H fun x H1=>tyV K T x H1∧r x [] H1 Q
def tBM (K:PySem.W.Frag) (T:String) (r:V→List V→Hp→VK→Prop) (to:TE) (t:TA):TE:=fun σ H Q=>to σ H fun x H1=>tyV K T x H1∧t σ H1 fun xs H2=>r x xs H2 Q
variable {o e:Expr}{es:List Expr}{to:TE}{t:TA}{name:Str}{apos cpos:Pos}{T id:String}{r:V→List V→Hp→VK→Prop}
theorem pe_bm0 (pa:PlainAttrs T) (slot:Slot T name id) (hty:typeOf (.builtin id)=pure (.type "method_descriptor")) (hm:MtR X id r) (ho:PE X o to)
  (hbase:attributeBase o name X.env (eval o X.env)=eval o X.env:=by rfl) (hline:(apos.endLine==cpos.line)=true:=by rfl):PE X (.Call (.Attribute o name apos) [] [] cpos) (tBM0 X.K T r to):=by
 intro pins s σ H Q I h
 refine wpAny_Call_method0_late hbase hline (thn (ho pins s σ H _ I h) fun v s1 ⟨x,H1,I1,r1,ty,q1⟩=>?_)
 obtain⟨h1,h2⟩:=tyV_is I1 r1 ty
 exact⟨T,id,pa,slot,hty,h1,h2,Calls.callWith_builtin rfl (PySem.evalArgs_none (hm pins s1 σ H1 x [] v [] Q I1 r1 .nil q1))⟩
theorem pe_bm (pa:PlainAttrs T) (slot:Slot T name id) (hty:typeOf (.builtin id)=pure (.type "method_descriptor")) (hm:MtR X id r) (ho:PE X o to) (ha:PA X (e::es) t)
  (hbase:attributeBase o name X.env (eval o X.env)=eval o X.env:=by rfl)
  (hfew:((backTo cpos (starEach (e::es) X.env)).all (fun x=>!x.1)&&(backToKw cpos (keywordEach [] X.env)).all (fun x=>x.1.isSome)
   && decide ((e::es).length+([]:List Keyword).length+(if ([]:List Keyword).isEmpty then 0 else 1) < 30))=true:=by rfl)
  (hline:(apos.endLine==cpos.line)=true:=by rfl) (hs:starEach (e::es) X.env=(false,eval e X.env)::starEach es X.env:=by rfl) (hplain:(backTo cpos (starEach es X.env)).any (·.1)=false:=by rfl) :
  PE X (.Call (.Attribute o name apos) (e::es) [] cpos) (tBM X.K T r to t):=by
 intro pins s σ H Q I h
 refine wpAny_Call_method_late hbase hfew hline rfl (thn (ho pins s σ H _ I h) fun v s1 ⟨x,H1,I1,r1,ty,q1⟩=>?_)
 obtain⟨h1,h2⟩:=tyV_is I1 r1 ty
 refine⟨T,id,pa,slot,hty,h1,h2,?_⟩
 have hA:=ha cpos pins s1 σ H1 _ I1 q1
 rw [hs] at hA ⊢
 refine Calls.callWith_builtin (by show (false||(backTo cpos (starEach es X.env)).any (·.1))=false;rw [hplain] <;> rfl) (Calls.evalArgs_plain ?_)
 exact thn hA fun us s2 ⟨vs,H2,I2,r2,q2⟩=>hm pins s2 σ H2 x vs v us Q I2 r1 r2 q2
end
end L2
namespace L2
open PySem PySem.Spec PyProof.Rows
def MtM (X:Cx) (id:String) (r:V→List V→Hp→VK→Prop):Prop:=
 ∀(pins:List (Addr×Obj)) (s:Shared) (σ:St) (H:Hp) (x:V) (xs:List V) (v:Value) (us:List Value) (Q:VK),Inv X pins σ H s→RelV x v→Vals xs us→r x xs H Q→
  wpAny (model X.prog X.w) X.A (call (.builtin id) (v::us)) (EP X pins σ Q) X.xe s
theorem Vals.one:∀{x:V}{us:List Value},Vals [x] us→∃u,us=[u]∧RelV x u
 | _,_,.cons r .nil=>⟨_,rfl,r⟩
theorem Vals.zero:∀{us:List Value},Vals [] us→us=[]
 | _,.nil=>rfl
theorem Vals.dropLast {xs:List V}{us:List Value} (h:Vals xs us):Vals xs.dropLast us.dropLast:=by
 induction h with
 | nil=>exact .nil
 | cons r t ih=>
  cases t with
  | nil=>exact .nil
  | cons q t'=>exact .cons r ih
theorem Vals.rep {xs:List V}{us:List Value} (h:Vals xs us):∀k:Nat,Vals (List.replicate k xs).flatten (List.replicate k us).flatten
 | 0=>.nil
 | k+1=>by
  rw [List.replicate_succ,List.replicate_succ,List.flatten_cons,List.flatten_cons]
  exact Vals.append h (Vals.rep h k)
theorem erase_last {α:Type} (l:List α):l.eraseIdx (l.length-1)=l.dropLast:=by
 induction l with
 | nil=>rfl
 | cons a r ih=>
  cases r with
  | nil=>rfl
  | cons b r=>
   have e:(a::b::r).length-1=((b::r).length-1)+1:=by
    have h1:(a::b::r).length=r.length+2:=rfl
    have h2:(b::r).length=r.length+1:=rfl
    omega
   rw [e,List.eraseIdx_cons_succ,ih]
   all_goals rfl
theorem foldl_rep (its:List Value):∀(k:Nat) (acc:List Value),
  List.foldl (fun x1 x2=>x1++x2) acc.toArray (List.replicate k its.toArray)=(acc++(List.replicate k its).flatten).toArray
 | 0,acc=>by simp
 | k+1,acc=>by
  have e:acc.toArray++its.toArray=(acc++its).toArray:=by simp
  have e2:(acc++its)++(List.replicate k its).flatten=acc++(List.replicate (k+1) its).flatten:=by
   rw [List.replicate_succ,List.flatten_cons,List.append_assoc]
  rw [← e2,← foldl_rep its k (acc++its),← e,List.replicate_succ,List.foldl_cons]
section
variable {X:Cx}{pins:List (Addr×Obj)}{σ:St}{H:Hp}{s:Shared}{l b:Addr}{xs ys zs:List V}
theorem Inv.lset {its its':List Value}{n:Nat}{f:Array Value→Array Value}{t':Nat} (I:Inv X pins σ H s) (hH:H l=some (.lst xs))
  (e:s.heap.get? l=some {cls:=.type "list",data:=.seq its.toArray n}) (hf:f its.toArray=its'.toArray) (hv:Vals ys its') (hz:ys.length≤sizeLine) :
  Inv X pins σ (upd H l (.lst ys)) {s with heap:=s.heap.update l (Obj.mapSeq f),toks:=t'}:=by
 have q:=PySem.IsL.update e f
 rw [hf] at q
 refine I.write (x:=l) (e:=l) (by rw [hH];exact trivial) (.inl rfl) (fun b' u hb hu=>(Heap.get?_update_other s.heap (Obj.mapSeq f) (Ne.symm hb)).trans hu) ⟨_,q⟩ ?_
 exact⟨hz,its',_,hv,q⟩
theorem Inv.lnew {its:List Value}{t':Nat} (I:Inv X pins σ H s) (hv:Vals ys its) (hz:ys.length≤sizeLine) :
  Inv X pins σ (upd H s.heap.objs.size (.lst ys)) {s with heap:=s.heap.push {cls:=.type "list",data:=.seq its.toArray},toks:=t'}:=
 I.laid (fun _ _ q=>Heap.get?_push_of_some _ q) (Nat.le_refl _) ⟨hz,its,0,hv,Heap.get?_push_size _ rfl⟩
theorem Inv.fresh (I:Inv X pins σ H s):H s.heap.objs.size=none:=I.hok.fresh (Nat.le_refl _)
theorem Inv.lstM (I:Inv X pins σ H s) (hH:H l=some (.lst xs)):xs.length≤sizeLine∧∃(its:List Value) (n:Nat),Vals xs its∧xs.length=its.length∧s.heap.get? l=some {cls:=.type "list",data:=.seq its.toArray n}:=by
 obtain⟨z,its,n,r,e⟩:=I.hok l _ hH
 exact⟨z,its,n,r,r.length,e⟩
theorem notLongL {n:Nat} (h:n≤sizeLine):Builtin.List.listTooLong n=false:=by
 unfold Builtin.List.listTooLong
 exact decide_eq_false (by omega)
end
section
variable {X:Cx}
def rAppend:V→List V→Hp→VK→Prop:=fun x vs H Q=>∃l xs y,x=.ref l∧vs=[y]∧H l=some (.lst xs)∧xs.length < sizeLine∧Q .non (upd H l (.lst (xs++[y])))
theorem mt_append:MtM X "list.append" rAppend:=by
 intro pins s σ H x vs v us Q I rx rv h
 obtain⟨l,xs,y,rfl,rfl,hH,hz,q⟩:=h
 cases rx
 obtain⟨u,rfl,ru⟩:=rv.one
 obtain⟨z,its,n,r,hl,e⟩:=I.lstM hH
 refine call_meets F.slot_list_append ⟨_,e,rfl⟩ F.entry_list_append (F.args_list_append_2 _ _) (PySem.list_append l its.toArray n u (by rw [List.size_toArray];omega)) ⟨e,?_⟩
 refine⟨.non,_,I.lset (its':=its++[u]) hH e (by simp) (r.append (.cons ru .nil)) ?_,rfl,q⟩
 rw [List.length_append,List.length_singleton]
 omega
def rExtend:V→List V→Hp→VK→Prop:=fun x vs H Q=>∃l b xs zs,x=.ref l∧vs=[.ref b]∧H l=some (.lst xs)∧H b=some (.lst zs)∧xs.length+zs.length≤sizeLine∧Q .non (upd H l (.lst (xs++zs)))
theorem mt_extend:MtM X "list.extend" rExtend:=by
 intro pins s σ H x vs v us Q I rx rv h
 obtain⟨l,b,xs,zs,rfl,rfl,hH,hB,hz,q⟩:=h
 cases rx
 obtain⟨u,rfl,ru⟩:=rv.one
 cases ru
 obtain⟨z,its,n,r,hl,e⟩:=I.lstM hH
 obtain⟨z2,its2,n2,r2,hl2,e2⟩:=I.lstM hB
 have hsz:its.toArray.size+its2.toArray.size≤sizeLine:=by rw [List.size_toArray,List.size_toArray];omega
 have hlong:¬(!its.toArray.isEmpty&&Builtin.List.listTooLong (its.toArray.size+its2.toArray.size))=true:=by
  rw [notLongL hsz,Bool.and_false]
  exact Bool.false_ne_true
 refine call_meets F.slot_list_extend ⟨_,e,rfl⟩ F.entry_list_extend (F.args_list_extend_2 _ _)
  (AutoSeq1.list_extend_list_list_0 l its.toArray n b its2.toArray n2 hlong (by rw [List.size_toArray];omega) (by omega)) ⟨e,e2,?_⟩
 refine⟨.non,_,I.lset (its':=its++its2) hH e (by simp) (r.append r2) ?_,rfl,q⟩
 rw [List.length_append]
 omega
def rPop:V→List V→Hp→VK→Prop:=fun x vs H Q=>∃l xs y,x=.ref l∧vs=[]∧H l=some (.lst xs)∧xs[xs.length-1]?=some y∧Q y (upd H l (.lst xs.dropLast))
theorem mt_pop:MtM X "list.pop" rPop:=by
 intro pins s σ H x vs v us Q I rx rv h
 obtain⟨l,xs,y,rfl,rfl,hH,hy,q⟩:=h
 cases rx
 have hus:=rv.zero
 subst hus
 obtain⟨z,its,n,r,hl,e⟩:=I.lstM hH
 obtain⟨u,hu,ru⟩:=r.get hy
 have hy':its.toArray[its.toArray.size-1]?=some u:=by
  show its.toArray[its.length-1]?=some u
  rw [← Array.getElem?_toList,← hl]
  exact hu
 refine call_meets F.slot_list_pop ⟨_,e,rfl⟩ F.entry_list_pop (F.args_list_pop_1 _) (MeetsSeq.list_pop_last l its.toArray n u hy' (by rw [List.size_toArray];omega)) ⟨e,?_⟩
 refine⟨y,_,I.lset (its':=its.dropLast) hH e ?_ r.dropLast ?_,ru,q⟩
 ·show its.toArray.eraseIdxIfInBounds (its.toArray.size-1)=its.dropLast.toArray
  rw [List.size_toArray,List.eraseIdxIfInBounds_toArray,erase_last]
 ·rw [List.length_dropLast]
  omega
def rCat:R2:=fun x y H Q=>∃l b xs zs,x=.ref l∧y=.ref b∧H l=some (.lst xs)∧H b=some (.lst zs)∧xs.length+zs.length≤sizeLine∧∀p,H p=none→Q (.ref p) (upd H p (.lst (xs++zs)))
theorem op_cat:OpR X (binaryOp .Add) rCat:=by
 intro pins s σ H x y v u Q I rx ry h
 obtain⟨l,b,xs,zs,rfl,rfl,hH,hB,hz,q⟩:=h
 cases rx
 cases ry
 obtain⟨z,its,n,r,hl,e⟩:=I.lstM hH
 obtain⟨z2,its2,n2,r2,hl2,e2⟩:=I.lstM hB
 refine PySem.P.add_list e e2 ?_ (by rw [List.size_toArray,List.size_toArray];omega)
 have ea:its.toArray++its2.toArray=(its++its2).toArray:=by simp
 rw [ea]
 exact⟨.ref _,_,I.lnew (t':=s.toks) (r.append r2) (by rw [List.length_append];omega),rfl,q _ I.fresh⟩
def rRep:R2:=fun x y H Q=>∃l k xs,x=.ref l∧y=.int k∧H l=some (.lst xs)∧-(2 ^ 63)≤k∧k < 2 ^ 63∧xs.length*k.toNat≤sizeLine∧
 ∀p,H p=none→Q (.ref p) (upd H p (.lst (List.replicate k.toNat xs).flatten))
theorem len_rep {α:Type} (xs:List α) (k:Nat):(List.replicate k xs).flatten.length=k*xs.length:=by
 induction k with
 | zero=>simp
 | succ k ih=>rw [List.replicate_succ,List.flatten_cons,List.length_append,ih,Nat.succ_mul,Nat.add_comm]
theorem op_rep:OpR X (binaryOp .Mult) rRep:=by
 intro pins s σ H x y v u Q I rx ry h
 obtain⟨l,k,xs,rfl,rfl,hH,h1,h2,hz,q⟩:=h
 cases rx
 obtain⟨t,rfl⟩:=ry
 obtain⟨z,its,n,r,hl,e⟩:=I.lstM hH
 have hlen:its.toArray.size*k.toNat≤sizeLine:=by rw [List.size_toArray,← hl];exact hz
 have hcap:¬its.toArray.size*k.toNat > (2 ^ 63-1) / 8:=by
  have:(sizeLine:Nat)≤(2 ^ 63-1) / 8:=by decide
  omega
 have hfit:¬(!Builtin.List.listFitsIndex k)=true:=by
  rw [fitsIndex_both h1 h2]
  exact Bool.false_ne_true
 have hlong:¬Builtin.List.listTooLong (its.toArray.size*k.toNat)=true:=by
  rw [notLongL hlen]
  exact Bool.false_ne_true
 have hnew:List.foldl (fun x1 x2=>x1++x2) #[] (List.replicate (if its.toArray.isEmpty=true then 0 else k.toNat) its.toArray)=(List.replicate k.toNat its).flatten.toArray:=by
  have f0:∀m:Nat,List.foldl (fun x1 x2=>x1++x2) #[] (List.replicate m its.toArray)=(List.replicate m its).flatten.toArray:=fun m=>by
   have:=foldl_rep its m []
   rw [List.nil_append] at this
   exact this
  rw [f0]
  cases its with
  | nil=>simp
  | cons a r'=>rw [if_neg (by simp)]
 refine wpAny_binaryOp_repeat_ref (T:="list") (U:="int") (by decide) ⟨_,e,rfl⟩ (fun s'=>typeIs_int s' k t) noFill_list_mul F.fills_int_mul F.slot_int_rmul repeat_list F.slot_int_index.lookup
  (call_meets F.slot_int_rmul (typeIs_int s k t) F.entry_int_rmul (F.args_int_rmul_2 _ _) (int___rmul___int_list k t l its.toArray n)
   ⟨e,rfl,⟨_,e,rfl⟩,call_meets F.slot_list_mul ⟨_,e,rfl⟩ F.entry_list_mul (F.args_list_mul_2 _ _) (AutoListH.list___mul___list_int_3 l its.toArray n k t hfit hcap hlong) ⟨e,?_⟩⟩)
 rw [hnew]
 exact⟨.ref _,_,I.lnew (t':=s.toks) (r.rep k.toNat) (by rw [len_rep,Nat.mul_comm];exact hz),rfl,q _ I.fresh⟩
end
section
variable {prog:Program}{w:World}{A:Around}{E:Value→Shared→Prop}{s:Shared}
theorem splice_eq (its its2:List Value) (a c:Nat):its.toArray.extract 0 a++its2.toArray++its.toArray.extract c its.toArray.size=(its.take a++its2++its.drop c).toArray:=by
 apply Array.toList_inj.mp
 first
  | (
    simp
    exact List.take_of_length_le (by simp))
  | simp [List.take_of_length_le]
  | simp
theorem bounds_run {a c n:Nat} (hac:a≤c) (hc:c≤n):sliceBounds (some (a:Int)) (some (c:Int)) none n=((a:Int),(c:Int),1):=by
 simp only [sliceBounds,Option.getD_none]
 have h1:¬((a:Int) < 0):=by omega
 have h2:¬((c:Int) < 0):=by omega
 simp only [h1,h2,if_false,show (1:Int) > 0 by decide,if_true]
 congr 1
 ·omega
 ·congr 1;omega
set_option maxRecDepth 100000 in
theorem setItem_slice {l b sl:Addr}{items new:Array Value}{n n2:Nat}{vl vu:Value}{a c:Nat}{Q:Unit→Shared→Prop}
  (e:s.heap.get? l=some {cls:=.type "list",data:=.seq items n}) (e2:s.heap.get? b=some {cls:=.type "list",data:=.seq new n2}) (hne:l≠b)
  (hs:s.heap.IsSliceOf sl vl vu .none) (pl:IsPart vl (some (a:Int))) (pu:IsPart vu (some (c:Int))) (hac:a≤c) (hc:c≤items.size)
  (hsz:items.size+new.size≤sizeLine) (h:Q () {s with heap:=s.heap.update l (Obj.mapSeq fun xs=>xs.extract 0 a++new++xs.extract c xs.size)}) :
  wpAny (model prog w) A (setItem (.ref l) (.ref sl) (.ref b)) Q E s:=by
 have hl:s.heap.IsList l items:=PySem.IsL.isList e
 have hb:s.heap.IsList b new:=PySem.IsL.isList e2
 obtain⟨os,hos,hcs,hds⟩:=id hs
 have hTs:s.TypeIs (.ref sl) "slice":=⟨os,hos,hcs⟩
 have hstep:¬((rawPart none==rawInt 0)=true):=Bool.false_ne_true
 have hsame:Builtin.List.listSameRef (.ref l) (.ref b)=false:=by
  unfold Builtin.List.listSameRef
  exact beq_eq_false_iff_ne.mpr hne
 have hmax:(max (a:Int) (c:Int)).toNat=c:=by omega
 have hz':((fun xs:Array Value=>xs.extract 0 a++new++xs.extract c xs.size) items).size≤sizeLine+1:=by
  simp only [Array.size_append,Array.size_extract]
  omega
 unfold setItem
 try with_reducible refine wpAny_holding ?_
 first | refine wpAny_bind (wpAny_pure ?_) | skip
 refine wpAny_bind (wpAny_sequenceKey hl.typeIs (by decide) ?_)
 refine wpAny_bind (wpAny_callSpecial?_slot (name:=Str.ofString "__setitem__") hl.typeIs slot_list_setitem
  (wpAny_call_entry slot_list_setitem hl.typeIs entry_list_setitem ?_ (args_list_setitem _ _ _)))
 show wpAny _ _ (Builtin.List.listSubscript? (.ref sl) >>= _) _ _ s
 refine wpAny_bind ?_
 unfold Builtin.List.listSubscript?
 refine wpAny_bind (wpAny_specialOf hTs slice_no_index ?_)
 simp only [Option.isNone_none,if_true]
 refine wpAny_pure ?_
 show wpAny _ _ (typeOf (.ref sl) >>= _) _ _ s
 refine wpAny_bind (wpAny_typeOf hTs ?_)
 first
  | rw [if_neg (by decide)]
  | refine PySem.W.KFB.if_not (by decide) ?_
 rw [listSliceParts_eq]
 refine wpAny_bind (wpAny_bind (wpAny_field hos hds (x:=.none) rfl (wpAny_bind (wpAny_listPart .none ?_))))
 rw [if_neg hstep]
 refine wpAny_bind (wpAny_field hos hds (x:=vl) rfl (wpAny_bind (wpAny_listPart pl ?_)))
 refine wpAny_bind (wpAny_field hos hds (x:=vu) rfl (wpAny_bind (wpAny_listPart pu (wpAny_pure ?_))))
 first
  | simp only [hsame,Bool.false_eq_true,if_false]
  | refine PySem.W.KFB.if_not hsame ?_
  | (
    dsimp only
    rw [if_neg (by rw [hsame];exact Bool.false_ne_true)])
 refine wpAny_bind (m:=Builtin.List.listAllItems (.ref b) "must assign iterable to extended slice") ?_
 unfold Builtin.List.listAllItems
 refine wpAny_bind (wpAny_typeOf hb.typeIs ?_)
 first
  | refine PySem.W.KFB.if_so (by decide) ?_
  | rw [if_pos (by decide)]
  | simp only [beq_self_eq_true,Bool.true_or,if_true]
 unfold Builtin.List.listItems
 refine wpAny_bind (wpAny_seqItems e2 rfl (wpAny_pure ?_))
 refine wpAny_bind (wpAny_bind (wpAny_seqItems e rfl (wpAny_pure ?_)))
 refine wpAny_bind (wpAny_of_eq ((sliceIndices_raw (some (a:Int)) (some (c:Int)) none items.size (by simp)).trans (congrArg (pure:Int×Int×Int→Sem (Int×Int×Int)) (bounds_run hac hc))) ?_)
 show wpAny _ _ (if ((1:Int)==1)=true then _ else _) _ _ s
 rw [if_pos (by decide)]
 refine wpAny_bind (wpAny_rule ?_)
 first
  | simp only [notLongL hsz,Bool.false_eq_true,if_false]
  | refine PySem.W.KFB.if_not (notLongL hsz) ?_
 first | refine wpAny_bind (wpAny_pure ?_) | skip
 show wpAny _ _ (updateSeq l (fun xs=>xs.extract 0 ((a:Int)).toNat++new++xs.extract (max (a:Int) (c:Int)).toNat xs.size) >>= _) _ _ s
 rw [hmax,Int.toNat_natCast]
 refine wpAny_bind (wpAny_updateSeq (hz:=Nat.le_trans (Nat.le_add_right _ _) hsz) (_hz':=hz') e rfl ?_)
 refine wpAny_bind (wpAny_letGo ?_)
 first
  | exact wpAny_bind (wpAny_pure (wpAny_pure ⟨.none,rfl,wpAny_pure h⟩))
  | exact wpAny_pure ⟨.none,rfl,wpAny_pure h⟩
end
section
variable {X:Cx}
theorem set_slice {pins:List (Addr×Obj)}{s:Shared}{σ:St}{H:Hp}{l b sl:Addr}{xs ys:List V}{a c:Int}{vl vu:Value}{Q:Unit→Shared→Prop} (I:Inv X pins σ H s)
  (hH:H l=some (.lst xs)) (hB:H b=some (.lst ys)) (hne:l≠b) (hs:s.heap.IsSliceOf sl vl vu .none) (ra:RelV (.int a) vl) (rc:RelV (.int c) vu) (h0:0≤a) (hac:a≤c) (hc:c≤xs.length)
  (hz:xs.length+ys.length≤sizeLine) (h:∀s',Inv X pins σ (upd H l (.lst (xs.take a.toNat++ys++xs.drop c.toNat))) s'→Q () s') :
  wpAny (model X.prog X.w) X.A (setItem (.ref l) (.ref sl) (.ref b)) Q X.xe s:=by
 obtain⟨ta,rfl⟩:=ra
 obtain⟨tc,rfl⟩:=rc
 obtain⟨z,its,n,r,hl,e⟩:=I.lstM hH
 obtain⟨z2,its2,n2,r2,hl2,e2⟩:=I.lstM hB
 obtain⟨a',rfl⟩:=Int.eq_ofNat_of_zero_le h0
 obtain⟨c',rfl⟩:=Int.eq_ofNat_of_zero_le (Int.le_trans h0 hac)
 simp only [Int.toNat_natCast] at h
 refine setItem_slice (a:=a') (c:=c') e e2 hne hs (.int _ _) (.int _ _) (by omega) (by rw [List.size_toArray];omega) (by rw [List.size_toArray,List.size_toArray];omega) (h _ ?_)
 refine I.lset (its':=its.take a'++its2++its.drop c') (t':=s.toks) hH e ?_ (Vals.append (Vals.append (r.take _) r2) (r.drop _)) ?_
 ·exact splice_eq its its2 a' c'
 ·rw [List.length_append,List.length_append,List.length_take,List.length_drop]
  omega
end
end L2
namespace L2
open PySem PySem.Spec PyProof.Rows
section
variable {κ:Type} [DecidableEq κ]
def valV (kvs:List (κ×V)) (k:κ):Option V:=(kvs.find? fun kv=>decide (kv.1=k)).map (·.2)
def putK (kvs:List (κ×V)) (k:κ) (v:V):List (κ×V):=
 if (kvs.any fun kv=>decide (kv.1=k))=true then kvs.map (fun kv=>if kv.1=k then (kv.1,v) else kv) else kvs++[(k,v)]
theorem valV_pos {p:κ×V}{r:List (κ×V)}{k:κ} (e:p.1=k):valV (p::r) k=some p.2:=by simp [valV,List.find?_cons,e]
theorem valV_neg {p:κ×V}{r:List (κ×V)}{k:κ} (e:¬p.1=k):valV (p::r) k=valV r k:=by simp [valV,List.find?_cons,e]
theorem valV_any (k:κ):∀kvs:List (κ×V),(kvs.any fun kv=>decide (kv.1=k))=(valV kvs k).isSome
 | []=>rfl
 | p::r=>by
  rw [List.any_cons]
  by_cases e:p.1=k
  ·simp only [valV_pos e,decide_eq_true e,Bool.true_or,Option.isSome_some]
  ·rw [valV_neg e,decide_eq_false e,Bool.false_or];exact valV_any k r
theorem KV.val {kvs:List (κ×V)}{vs:List (κ×Value)} (r:KV kvs vs) (k:κ):RelO (valV kvs k) (valueAt vs k):=by
 unfold KV at r
 induction r with
 | nil=>exact True.intro
 | @cons p q ps qs h t ih=>
  obtain⟨h1,h2⟩:=h
  by_cases e:p.1=k
  ·have e':q.1=k:=h1.symm.trans e
   have b:valueAt (q::qs) k=some q.2:=by simp [valueAt,List.find?_cons,e']
   rw [valV_pos e,b];exact h2
  ·have e':¬q.1=k:=fun z=>e (h1.trans z)
   have b:valueAt (q::qs) k=valueAt qs k:=by simp [valueAt,List.find?_cons,e']
   rw [valV_neg e,b];exact ih
theorem KV.any {kvs:List (κ×V)}{vs:List (κ×Value)} (r:KV kvs vs) (k:κ):(kvs.any fun kv=>decide (kv.1=k))=vs.any fun kv=>decide (kv.1=k):=by
 unfold KV at r
 induction r with
 | nil=>rfl
 | cons h t ih=>rw [List.any_cons,List.any_cons,ih,h.1]
theorem KV.repl {kvs:List (κ×V)}{vs:List (κ×Value)} (r:KV kvs vs) (k:κ) {y:V}{u:Value} (ry:RelV y u) :
  KV (kvs.map fun kv=>if kv.1=k then (kv.1,y) else kv) (vs.map fun kv=>if kv.1=k then (kv.1,u) else kv):=by
 unfold KV at r ⊢
 induction r with
 | nil=>exact .nil
 | @cons p q ps qs h t ih=>
  rw [List.map_cons,List.map_cons]
  refine .cons ?_ ih
  obtain⟨h1,h2⟩:=h
  by_cases e:p.1=k
  ·rw [if_pos e,if_pos (h1.symm.trans e)];exact⟨h1,ry⟩
  ·rw [if_neg e,if_neg (fun z=>e (h1.trans z))];exact⟨h1,h2⟩
theorem KV.put {kvs:List (κ×V)}{vs:List (κ×Value)} (r:KV kvs vs) (k:κ) {y:V}{u:Value} (ry:RelV y u):KV (putK kvs k y) (stored vs k u):=by
 unfold putK stored
 rw [r.any k]
 by_cases e:(vs.any fun kv=>decide (kv.1=k))=true
 ·rw [if_pos e,if_pos e];exact r.repl k ry
 ·rw [if_neg e,if_neg e];exact Paired.snoc r ⟨rfl,ry⟩
theorem KV.keys {kvs:List (κ×V)}{vs:List (κ×Value)} (r:KV kvs vs):kvs.map (·.1)=vs.map (·.1):=by
 unfold KV at r
 induction r with
 | nil=>rfl
 | cons h t ih=>rw [List.map_cons,List.map_cons,ih,h.1]
end
theorem kV_is {P:Program}{w:World}{k:Key}{u:Value} (r:RelV (kV k) u):(mixKind P w).is k u=true:=by
 cases k with
 | inl i=>obtain⟨t,e⟩:=(show ∃t,u=Value.int i t from r);subst e;exact mixKind_int P w i t
 | inr x=>obtain⟨t,e⟩:=(show ∃t,u=Value.str x t from r);subst e;exact mixKind_str P w x t
theorem items_are {P:Program}{w:World}:∀{ks:List Key}{us:List Value},Vals (ks.map kV) us→ItemsAre (mixKind P w) ks us
 | [],_,r=>by rw [List.map_nil] at r;cases r;exact .nil
 | k::ks,_,r=>by
  rw [List.map_cons] at r
  cases r with
  | cons h t=>exact .cons (kV_is h) (items_are t)
abbrev KT (H:Hp):List (List Key×V)→List (List Key×Addr×Value)→Prop:=Paired fun p q=>p.1=q.1∧H q.2.1=some (.tup (p.1.map kV))∧RelV p.2 q.2.2
theorem KT.val {H:Hp}{kvs:List (List Key×V)}{xs:List (List Key×Addr×Value)} (r:KT H kvs xs) (k:List Key):RelO (valV kvs k) ((atKey xs k).map (·.2)):=by
 induction r with
 | nil=>exact True.intro
 | @cons p q ps qs h t ih=>
  obtain⟨h1,_,h2⟩:=h
  by_cases e:p.1=k
  ·have e':q.1=k:=h1.symm.trans e
   have b:atKey (q::qs) k=some q.2:=by simp [atKey,List.find?_cons,e']
   rw [valV_pos e,b];exact h2
  ·have e':¬q.1=k:=fun z=>e (h1.trans z)
   have b:atKey (q::qs) k=atKey qs k:=by simp [atKey,List.find?_cons,e']
   rw [valV_neg e,b];exact ih
theorem KT.keeps {H H':Hp}{kvs:List (List Key×V)}{xs:List (List Key×Addr×Value)} (r:KT H kvs xs) (ht:∀b ys,H b=some (.tup ys)→H' b=some (.tup ys)):KT H' kvs xs:=
 Paired.mapP r fun _ _ z=>⟨z.1,ht _ _ z.2.1,z.2.2⟩
section
variable {P:Program}{w:World}{H:Hp}{h:Heap}{a:Addr}
theorem rd_of {u:HO} (ok:HOk P w H h) (e:Rd H a u):ObjOk P w H h a u:=e.ok ok
theorem dk_rd {kvs:List (Key×V)} (ok:HOk P w H h) (e:Rd H a (.dK kvs)):kvs.length≤sizeLine∧(a==sysModules)=false∧∃vs,KV kvs vs∧h.DictOf (mixKind P w) a vs:=
 show ObjOk P w H h a (.dK kvs) from rd_of ok e
theorem key_of {ks:List Key} (ok:HOk P w H h) (e:H a=some (.tup (ks.map kV))):(tupleKind (mixKind P w)).is h ks a:=by
 obtain⟨_,its,r,o,h1,h2,n,h3⟩:=(show ObjOk P w H h a (.tup (ks.map kV)) from ok a _ e)
 exact⟨o,its.toArray,n,h1,h2,h3,by simpa using items_are r⟩
theorem dt_rd {kvs:List (List Key×V)} (ok:HOk P w H h) (e:Rd H a (.dT kvs)):kvs.length≤sizeLine∧(a==sysModules)=false∧
  ∃xs,KT H kvs xs∧h.DictOfH (tupleKind (mixKind P w)) a xs:=by
 obtain⟨z,y,xs,r,o,es,ep,h1,h2,h3,h4,h5⟩:=(show ObjOk P w H h a (.dT kvs) from rd_of ok e)
 refine⟨z,y,xs,r,o,es,ep,h1,h2,h3,h4,fun x hx=>?_,h5⟩
 have all:∀{l:List (List Key×V)}{m:List (List Key×Addr×Value)},KT H l m→∀x∈m,(tupleKind (mixKind P w)).is h x.1 x.2.1:=by
  intro l m q
  induction q with
  | nil=>intro x hx;exact nomatch hx
  | @cons p q ps qs hq t ih=>
   intro x hx
   rcases List.mem_cons.mp hx with e | hx
   ·subst e
    exact key_of ok (by rw [← hq.1];exact hq.2.1)
   ·exact ih x hx
 exact all r x hx
end
def DGet (H:Hp) (a:Addr) (y:V) (r:Option V):Prop:=
 (∃kvs k,Rd H a (.dK kvs)∧y=kV k∧r=valV kvs k)∨∃kvs k b,Rd H a (.dT kvs)∧y=.ref b∧H b=some (.tup (k.map kV))∧r=valV kvs k
section
variable {X:Cx}{pins:List (Addr×Obj)}{σ:St}{H:Hp}{s:Shared}{a:Addr}{y v:V}{u r:Value}{o:Option V}{A:Around}{E:Value→Shared→Prop}
theorem Inv.big (I:Inv X pins σ H s):sysModules < s.heap.objs.size:=by
 have h:mainGlobals < s.heap.objs.size:=(I.mod.glob.keeps I.bk).lt
 exact Nat.lt_trans (by decide) h
theorem d_getItem {Q:Value→Shared→Prop} (hu:A.units+1 < cLine) (I:Inv X pins σ H s) (g:DGet H a y (some v)) (ry:RelV y u) (h:∀w' s',Inv X pins σ H s'→RelV v w'→Q w' s') :
  wpAny (model X.prog X.w) A (getItem (.ref a) u) Q E s:=by
 rcases g with⟨kvs,k,e,ey,l⟩ | ⟨kvs,k,b,e,ey,eb,l⟩
 ·subst ey
  obtain⟨z,hd,vs,rel,dd⟩:=dk_rd I.hok e
  obtain⟨w',hw,rw'⟩:=RelO.some_of (v:=v) (o:=valueAt vs k) (by rw [l];exact rel.val k)
  exact wpAny_getItem_of (kV_is ry) dd.mapOf hw (h w' _ (I.tok _) rw')
 ·subst ey
  cases (show u=Value.ref b from ry)
  obtain⟨z,hd,xs,rel,dd⟩:=dt_rd I.hok e
  obtain⟨w',hw,rw'⟩:=RelO.some_of (v:=v) (o:=(atKey xs k).map (·.2)) (by rw [l];exact rel.val k)
  obtain⟨p,hp,hp2⟩:=Option.map_eq_some_iff.mp hw
  refine wpAny_getItem_heap (tupleKind_room_in1 hu) (key_of I.hok eb) dd hp ?_
  rw [hp2]
  exact h w' _ (I.tok _) rw'
end
def NoSl (i:Expr):Prop:=∀ov iv,subscripted i false ov iv=operate [ov,iv] (getItem ov iv)
theorem subD_of {prog:Program}{w:World}{A:Around}{E:Value→Shared→Prop}{s:Shared}{env:Env}{value slice:Expr}{pos:Pos}{T id:String}{Q:Value→Shared→Prop}
  (hl:typeLookup (.type T) "__getitem__"=pure (some (.builtin id))) (hs:NoSl slice)
  (h:wpAny (model prog w) A (eval value env) (fun o s₁=>wpAny (model prog w) A (eval slice env) (fun i s₂=>s₂.TypeIs o T∧wpAny (model prog w) A (getItem o i) Q E s₂) E s₁) E s) :
  wpAny (model prog w) A (eval (.Subscript value slice pos) env) Q E s:=by
 refine Subscript_ (wpAny_mono h (fun o s₁ h₁=>wpAny_mono h₁ (fun i s₂ h₂=>?_) fun _ _ x=>x) fun _ _ x=>x)
 obtain⟨hT,h₂⟩:=h₂
 unfold subscriptTail
 refine wpAny_bind ?_
 rw [getitemInPython_of_ne hT.not_modules]
 refine wpAny_bind (wpAny_specialOf hT hl ?_)
 have fin:wpAny (model prog w) A (subscripted slice false o i) (fun r s₃=>wpAny (model prog w) A (letTemporaryGo value o r >>= fun _=>pure r) Q E s₃) E s₂:=by
  rw [hs o i]
  exact wpAny_operating (wpAny_mono h₂ (fun r s₃ h₃=>wpAny_bind (wpAny_letTemporaryGo (wpAny_pure h₃))) fun _ _ x=>x)
 first
  | exact wpAny_pure (wpAny_bind fin)
  | exact wpAny_bind (wpAny_pure (wpAny_bind fin))
  | exact wpAny_bind fin
theorem dict_typeIs {X:Cx}{pins:List (Addr×Obj)}{σ:St}{H:Hp}{s:Shared}{a:Addr}{y:V}{o:Option V} (I:Inv X pins σ H s) (g:DGet H a y o):s.TypeIs (.ref a) "dict":=by
 rcases g with⟨kvs,k,e,_,_⟩ | ⟨kvs,k,b,e,_,_,_⟩
 ·obtain⟨_,_,vs,_,dd⟩:=dk_rd I.hok e
  exact dd.typeIs
 ·obtain⟨_,_,xs,_,dd⟩:=dt_rd I.hok e
  exact dd.typeIs
def tDGet (td ty:TE):TE:=fun σ H Q=>td σ H fun x H1=>ty σ H1 fun y H2=>∃a v,x=.ref a∧DGet H2 a y (some v)∧Q v H2
section
variable {X:Cx}{o i e value:Expr}{pos pos' tpos:Pos}{td ty tv:TE}
theorem pe_dget (hu:X.A.units+1 < cLine) (ho:PE X o td) (hi:PE X i ty) (hs:NoSl i):PE X (.Subscript o i pos) (tDGet td ty):=by
 intro pins s σ H Q I h
 refine subD_of PySem.F.slot_dict_getitem.lookup hs (thn (ho pins s σ H _ I h) fun u s1 ⟨x,H1,I1,rx,q1⟩=>thn (hi pins s1 σ H1 _ I1 q1) fun iv s2 ⟨y,H2,I2,ry,a,v,ex,g,q2⟩=>?_)
 subst ex
 obtain rfl:u=Value.ref a:=rx
 exact⟨dict_typeIs I2 g,d_getItem hu I2 g ry fun w' s3 I3 rw'=>⟨v,H2,I3,rw',q2⟩⟩
end
structure M2 (X:Cx) (o:Expr) (m:Str) (apos:Pos) (e f:Expr) (cpos:Pos):Prop where
 base:attributeBase o m X.env (eval o X.env)=eval o X.env
 few:((backTo cpos (starEach [e,f] X.env)).all (fun x=>!x.1)&&(backToKw cpos (keywordEach [] X.env)).all (fun x=>x.1.isSome)
  && decide (([e,f]:List Expr).length+([]:List Keyword).length+(if ([]:List Keyword).isEmpty then 0 else 1) < 30))=true
 line:(apos.endLine==cpos.line)=true
 trees:backTo cpos (starEach [e,f] X.env)=[(false,eval e X.env),(false,eval f X.env)]
def IsD (H:Hp) (a:Addr):Prop:=(∃kvs,Rd H a (.dK kvs))∨∃kvs,Rd H a (.dT kvs)
end L2
namespace Att
open PySem PySem.W PySem.Calls PyProof.Rows
theorem ints_of_wellAll {P:Params}{h:Heap}:∀(ns:List Int) (vs:List Value),WellAll P h vs (ns.map WData.int)→IntsAre vs ns:=by
 intro ns
 induction ns with
 | nil=>
  intro vs w
  rw [List.map_nil] at w
  cases w
  exact .nil
 | cons n ns ih=>
  intro vs w
  rw [List.map_cons] at w
  cases w with
  | cons a b=>
   cases a
   exact .cons _ _ (ih _ b)
theorem script_of {l:OpenLaw}{n:Nat} (hn:l.most=some n) {P:Params}{h:Heap}{args:List WData}{vals:List Value}
  (hpre:l.row.toRowW.claim.pre args=true) (hwl:WellAll P h vals args) :
  ∃a vs ns,vals=[Value.ref a]∧args=[WData.list (ns.map WData.int)]∧h.get? a=some {cls:=.type "list",data:=.seq vs.toArray}∧IntsAre vs ns∧ns.length≤n:=by
 have hsh:WShape.hasAll [] args [.list .int]=true:=(pre_splitW hpre).1
 have hc:l.pre.holds [] {args:=args}=true:=(pre_splitW hpre).2
 obtain⟨d,r,rfl,h1,h2⟩:=hasAllW_cons hsh
 obtain rfl:=hasAllW_nil h2
 obtain⟨xs,rfl,h3⟩:=hasW_list h1
 obtain⟨ns,rfl⟩:=items_int h3
 have hlen:ns.length≤n:=by
  unfold OpenLaw.pre at hc
  have h4:(WTm.not (.lt (.lit (.int (n:Int))) (.len (.arg 0)))).holds [] {args:=[.list (ns.map .int)]}=true:=by
   have h4:=(holds_andW hc).1
   rw [hn] at h4
   exact h4
  have h5:=condW_of h4 (w_not (w_lt w_lit (w_len_list (w_arg rfl))))
  rw [List.length_map] at h5
  refine Nat.le_of_not_lt fun q=>?_
  have q':(n:Int) < ((ns.length:Nat):Int):=by omega
  first
   | (rw [decide_eq_true q'] at h5;exact absurd h5 (by decide))
   | (simp at h5;omega)
 cases hwl with
 | cons w1 w2=>
  cases w2
  cases w1 with
  | list ho hall=>exact⟨_,_,ns,rfl,rfl,ho,ints_of_wellAll ns _ hall,hlen⟩
theorem post_true (l:OpenLaw) (args:List WData):l.row.toRowW.claim.post args (.bool true) args=true:=
 postW_of (r:=l.row.toRowW) (X:=(true==true))
  (show WShape.has [] (.bool true) .bool=true by first | rfl | decide | simp [WShape.has,WShape.arms,WShape.armsAll])
  (show (WTm.eq .res (.lit (.bool true))).value [] {args:=args,res:=some (.bool true),after:=args}=some (.bool (true==true)) from w_eq_bool (w_res rfl) w_lit) rfl
theorem attach_call {l:OpenLaw}{n:Nat}{q:Program}{loose:List Str}{XP:(Str→Option Value)→Heap→Prop}{YP:World→Heap→Prop}{d:DefRec}
  (hn:l.most=some n) (hdf:d.params.defaults=[])
  (call:∀(w:World) (s₀ s₁:Shared) (mg mb:Str→Option Value) (fa:Addr) (o:Obj) (pm cd doc:Value) (a:Addr) (vs:List Value) (ns:List Int),
   Ground q loose [] XP w s₀ mg mb s₁.heap→YP w s₁.heap→
   s₁.heap.get? fa=some o→o.data=.func (docDef d.name d.params d.body d.scope pm cd doc)→s₁.heap.CodeRec cd d.name→mg d.name=some (.ref fa)→
   s₁.heap.get? a=some {cls:=.type "list",data:=.seq vs.toArray}→IntsAre vs ns→ns.length≤n→s₁.gens=#[]→
   codeAny (model l.prog w) callerA (.call (.ref fa) ⟨[.ref a],[]⟩) (fun r s'=>r=.ok (.ret (.bool true))∧OldK s₁.heap s'.heap∧s'.os=s₁.os∧AllBare s'.gens) s₁) :
  WalkO q loose XP YP l.row.toRowW d [] (fun f vs=>PySem.call f vs):=by
 intro w s₀ s₁ mg mb G Y fa o pm cd doc dV kV ho hd hcd hD hmg hg args vals as hpre hlay hrd hwl hlo
 obtain rfl:dV=.none:=Dflts.none hD hdf
 obtain rfl:kV=.none:=Dflts.noKw hD
 obtain⟨a,vs,ns,rfl,rfl,hobj,hints,hlen⟩:=script_of hn hpre hwl
 refine enter_call (codeAny_mono (call w s₀ s₁ mg mb fa o pm cd doc a vs ns G Y ho (fd_plain hd) hcd hmg hobj hints hlen hg) fun r s' hq=>?_)
 obtain⟨rfl,h2,h3,h4⟩:=hq
 exact⟨.inl ⟨.bool true,.bool true,[],rfl,fun _=>rfl,.bool true,post_true l _,fun _=>⟨List.Pairwise.nil,fun _ hm=>(nomatch hm)⟩⟩,h2,h3,h4⟩
end Att
namespace L2
open PySem PySem.Spec PyProof.Rows
theorem vals_ints:∀{vs:List Value}{ns:List Int},IntsAre vs ns→Vals (ns.map V.int) vs
 | _,_,.nil=>.nil
 | _,_,.cons n t h=>.cons ⟨t,rfl⟩ (vals_ints h)
def Only (H:Hp):Prop:=∀b,H b=none∨∃o xs,H b=some (.frz o (.lst xs))
theorem law_call {P:Program}{w:World}{K:PySem.W.Frag}{mg mb:Str→Option Value}{CX:CXT}{k:Nat}{fa a:Addr}{fd:FuncData}{x:Str}{sp:Sp}{s₁:Shared}{vs:List Value}{ns:List Int}
  (KX:K.In s₁.heap) (hns:s₁.heap.Ns mainGlobals mg) (hb:s₁.heap.Ns builtinsNs mb) (hbb:∀x:Str,x≠"__name__"→mb x=bootBuiltins x) (hlim:s₁.heap.NoLimit) (hg:s₁.gens=#[])
  (ha:s₁.heap.get? a=some {cls:=.type "list",data:=.seq vs.toArray}) (hi:IntsAre vs ns) (hl:ns.length≤sizeLine) (hr:Room k callerA)
  (F:∀base:Heap,K.In base→base.Ns mainGlobals mg→FnOk P w K mg base CX k fa fd [x] sp) (hbind:∀(s:Shared) (u:Value),BindsTo s fd ⟨[u],[]⟩ [(x,u)])
  (hsp:∀H:Hp,Only H→SqL K H a (ns.map V.int)→sp [.ref a] H (fun v _=>v=.bl true) fun _ _ _=>False)
  (hCX:∀H e s',CX [] H s₁ (fun _ _ _=>False) e s'→False) :
  codeAny (model P w) callerA (.call (.ref fa) ⟨[.ref a],[]⟩) (fun r s'=>r=.ok (.ret (.bool true))∧OldK s₁.heap s'.heap∧s'.os=s₁.os∧AllBare s'.gens) s₁:=by
 have rv:=vals_ints hi
 have lenV:=hi.length
 have core:∀H:Hp,Only H→SqL K H a (ns.map V.int)→HOk P w H s₁.heap→(∀b,H b≠none→b=a)→(H a≠none→K.lookup a=none)→
   codeAny (model P w) callerA (.call (.ref fa) ⟨[.ref a],[]⟩) (fun r s'=>r=.ok (.ret (.bool true))∧OldK s₁.heap s'.heap∧s'.os=s₁.os∧AllBare s'.gens) s₁:=by
  intro H hO hS hok hA hK
  have base_of:∀{b:Addr}{o:Obj},s₁.heap.get? b=some o→H b=none→(hidT s₁.heap H).get? b=some o:=fun e n=>hidT_get e n
  have noA:∀{b:Addr}{o:Obj}{es:Array DictEntry}{ep:Nat},s₁.heap.get? b=some o→o.data=.dict es ep→H b=none:=fun {b o es ep} e d=>by
   cases q:H b with
   | none=>rfl
   | some u=>
    have e':b=a:=hA b (by rw [q];simp)
    subst e'
    rw [ha] at e;cases e
    have d':Data.seq vs.toArray _=Data.dict es ep:=d
    cases d'
  have nsK:∀{b:Addr}{m:Str→Option Value},s₁.heap.Ns b m→(hidT s₁.heap H).Ns b m:=fun {b m} ⟨o,es,ep,e,d,r⟩=>⟨o,es,ep,base_of e (noA e d),d,r⟩
  have hKb:K.In (hidT s₁.heap H):=fun b o e=>base_of (KX b o e) (by
   cases q:H b with
   | none=>rfl
   | some u=>
    have e':b=a:=hA b (by rw [q];simp)
    subst e'
    rw [hK (by rw [q];simp)] at e;cases e)
  have hM:Mod K mg (hidT s₁.heap H):=⟨hKb,nsK hns,⟨mb,nsK hb,hbb⟩,let ⟨mc,h1,h2⟩:=hlim;⟨mc,nsK h1,h2⟩⟩
  have e0:Env0 P w K mg (hidT s₁.heap H) callerA [] s₁ H:=⟨rfl,hM,fun b o e=>of_hidT e,Nat.le_of_eq (hidT_size _ _),trivial,fun b hb=>absurd (show b∈([]:List Addr) from hb) (by simp),hok,.of_eq hg⟩
  refine codeAny_mono ((F _ hKb (nsK hns)).run callerA [] s₁ H ⟨[.ref a],[]⟩ [.ref a] [.ref a] _ _ hr e0 (hbind s₁ (.ref a)) (.cons rfl .nil) (hsp H hO hS)) fun r s' h=>?_
  cases r with
  | error e=>exact (hCX H e s' h).elim
  | ok fl=>
   cases fl with
   | next=>exact False.elim h
   | brk=>exact False.elim h
   | cont=>exact False.elim h
   | ret u=>
    obtain⟨v,H',os,bare,un,hok',r',q⟩:=h
    have q':v=.bl true:=q
    subst q'
    obtain rfl:u=Value.bool true:=r'
    refine⟨rfl,OldK.of_keep fun b o e=>?_,os,bare⟩
    cases q:H b with
    | none=>exact un.keep b o e q (by intro z;exact absurd (show b∈([]:List Addr) from z) (by simp)) (by simp)
    | some u=>
     rcases hO b with z | ⟨ob,xs,z⟩
     ·rw [q] at z;cases z
     ·have z2:=un.frzs b ob _ z
      obtain⟨e1,_⟩:=hok b _ z
      obtain⟨e2,_⟩:=hok' b _ z2
      rw [e] at e1;cases e1
      exact e2
 cases hk:K.lookup a with
 | some o=>
  have e:=KX a o hk
  rw [ha] at e
  cases e
  refine core (fun _=>none) (fun _=>.inl rfl) (.inr ⟨_,vs.toArray,_,hk,rfl,rfl,rfl,by rw [List.size_toArray,lenV];exact hl,by simpa using rv⟩) (fun b u z=>by have z':(none:Option HO)=some u:=z;cases z') (fun b z=>absurd rfl z) fun z=>absurd rfl z
 | none=>
  refine core (fun b=>if b=a then some (.frz {cls:=.type "list",data:=.seq vs.toArray} (.lst (ns.map V.int))) else none) (fun b=>?_) (.inl (.inr ⟨{cls:=.type "list",data:=.seq vs.toArray},if_pos rfl⟩)) (fun b u z=>?_) (fun b z=>?_) fun _=>hk
  ·by_cases hb:b=a
   ·exact .inr ⟨_,_,if_pos hb⟩
   ·exact .inl (if_neg hb)
  ·by_cases hb:b=a
   ·have z':=(if_pos hb).symm.trans z
    cases z'
    subst hb
    exact⟨ha,by rw [List.length_map];exact hl,vs,_,rv,ha⟩
   ·have z':=(if_neg hb).symm.trans z
    cases z'
  ·by_cases hb:b=a
   ·exact hb
   ·exact absurd (if_neg hb) z
end L2
namespace L2
open PySem PySem.Spec PyProof.Rows
theorem walk_of {l:PySem.W.OpenLaw}{n k:Nat}{q:Program}{loose:List Str}{XP:(Str→Option Value)→Heap→Prop}{YP:World→Heap→Prop}{d:DefRec}{K:Params→PySem.W.Frag}{CX:World→CXT}{sp:World→Sp}{x:Str}
  (hn:l.most=some n) (hn2:n≤sizeLine) (hdf:d.params.defaults=[]) (hr:Room k callerA)
  (hY:∀(w:World) (h:Heap),YP w h→(K w.params).In h)
  (F:∀(w:World) (mg:Str→Option Value) (fa:Addr) (h:Heap),(K w.params).In h→h.Ns mainGlobals mg→mg d.name=some (.ref fa)→
   ∃fd:FuncData,(∀(s:Shared) (u:Value),BindsTo s fd ⟨[u],[]⟩ [(x,u)])∧
    ∀base:Heap,(K w.params).In base→base.Ns mainGlobals mg→FnOk l.prog w (K w.params) mg base (CX w) k fa fd [x] (sp w))
  (hsp:∀(w:World) (H:Hp) (a:Addr) (ns:List Int),ns.length≤n→Only H→SqL (K w.params) H a (ns.map V.int)→sp w [.ref a] H (fun v _=>v=.bl true) fun _ _ _=>False)
  (hCX:∀(w:World) (H:Hp) (s:Shared) (e:Value) (s':Shared),CX w [] H s (fun _ _ _=>False) e s'→False) :
  PySem.W.WalkO q loose XP YP l.row.toRowW d [] (fun f vs=>PySem.call f vs):=by
 refine Att.attach_call hn hdf fun w s₀ s₁ mg mb fa o pm cd doc a vs ns G Y ho hd hcd hmg hobj hints hlen hg=>?_
 have KX:=hY w _ Y
 obtain⟨fd,hb,hF⟩:=F w mg fa _ KX G.T.g hmg
 exact law_call KX G.T.g G.T.b G.T.builtins G.T.nolimit hg hobj hints (Nat.le_trans hlen hn2) hr hF hb (fun H hO hS=>hsp w H a ns hlen hO hS) fun H e s'=>hCX w H s₁ e s'
end L2
namespace L2
open PySem PySem.Spec PyProof.Rows
def defArgs (s:Stmt):Arguments:=match s with
 | .FunctionDef _ a _ _ _ _ _ _ _ _=>a
 | _=>{posonlyargs:=[],args:=[],vararg:=none,kwonlyargs:=[],kw_defaults:=[],kwarg:=none,defaults:=[]}
def defBody (s:Stmt):List Stmt:=match s with
 | .FunctionDef _ _ b _ _ _ _ _ _ _=>b
 | _=>[]
def defScope (s:Stmt):Scope:=match s with
 | .FunctionDef _ _ _ _ _ _ sc _ _ _=>sc
 | _=>{kind:=.function,names:=[],isGenerator:=false,isCoroutine:=false}
abbrev CX0:CXT:=fun _ _ _ _ _ _=>False
abbrev E0:XK:=fun _ _ _=>False
theorem pass0 {X:Cx}:Passes CX0 X E0:=fun _ _ _ _ _ _ _ h=>h.elim
structure Fun (K:PySem.W.Frag) (x qual:Str) (st:Stmt) (f:Addr) (fd:FuncData):Prop where
 ex:∃(oc:Value) (od:Option Addr) (kV doc pm:Value) (an:Option Addr) (cdv ct:Value) (osl:Array (Option Value)),
  fd=PySem.W.fnOf x qual (defArgs st) (defBody st) (defScope st) .none kV doc pm an cdv ct∧K.lookup f=some ⟨oc,od,.func fd,osl⟩∧PySem.W.codeIn K cdv qual=true
 kp:PySem.W.keepIn K (.ref f)=true
section
variable {P:Program}{w:World}{K:PySem.W.Frag}{mg:Str→Option Value}{base:Heap}
theorem Fun.ok {x qual:Str}{st:Stmt}{f:Addr}{fd:FuncData}{N ps:List Str}{k:Nat}{sp:Sp} (F:Fun K x qual st f fd) (S:FnScope N ps (defScope st)) (len:∀vs H Q E,sp vs H Q E→vs.length=ps.length)
  (hbody:∀(cdv:Value) (A:Around) (outer:List Env) (s:Shared) (H:Hp) (vs:List V) (Q:VK) (E:XK),Room k (A.deeper (envOfC qual (defScope st) s.heap.objs.size f cdv))→sp vs H Q E→
   ∃t,PSs (cxOf CX0 P w K mg base N qual (defScope st) f cdv A outer s H E).nox (defBody st) t∧t {nx:=fun _ H'=>Q .non H',rt:=Q} (start N vs) H):FnOk P w K mg base CX0 (k+1) f fd ps sp:=by
 obtain⟨oc,od,kV,doc,pm,an,cdv,ct,osl,rfl,lk,hcd⟩:=F.ex
 refine fn_of lk hcd S len fun A outer s H vs Q E hr hsp=>?_
 obtain⟨t,h,q⟩:=hbody cdv A outer s H vs Q E hr hsp
 exact⟨t,h.nox,q⟩
theorem Fun.binds {x qual:Str}{st:Stmt}{f:Addr}{fd:FuncData}{ps:List Str} (F:Fun K x qual st f fd)
  (h:∀(kV doc pm:Value) (an:Option Addr) (cdv ct:Value) (us:List Value),us.length=ps.length→bindArgs (PySem.W.fnOf x qual (defArgs st) (defBody st) (defScope st) .none kV doc pm an cdv ct) ⟨us,[]⟩=pure (ps.zip us)):Binds K fd ps []:=by
 obtain⟨oc,od,kV,doc,pm,an,cdv,ct,osl,rfl,lk,hcd⟩:=F.ex
 exact .all (h kV doc pm an cdv ct)
theorem fun_mk {x qual:Str}{st:Stmt}{f:Addr}{oc:Value}{od an:Option Addr}{osl:Array (Option Value)}{kV doc pm cdv ct:Value} (l:K.lookup f=some ⟨oc,od,.func (PySem.W.fnOf x qual (defArgs st) (defBody st) (defScope st) .none kV doc pm an cdv ct),osl⟩)
  (c:PySem.W.codeIn K cdv qual=true) (k:PySem.W.keepIn K (.ref f)=true):Fun K x qual st f (PySem.W.fnOf x qual (defArgs st) (defBody st) (defScope st) .none kV doc pm an cdv ct):=⟨⟨oc,od,kV,doc,pm,an,cdv,ct,osl,rfl,l,c⟩,k⟩
end
theorem small1000 {n:Nat} (h:n≤1000):n < sizeLine:=Nat.lt_of_le_of_lt h (by decide)
theorem iteF {A B:Prop} (h:B):if false=true then A else B:=by
 rw [if_neg Bool.false_ne_true]
 exact h
theorem iteT {A B:Prop} (h:A):if true=true then A else B:=by
 rw [if_pos rfl]
 exact h
def Same (H H':Hp):Prop:=∀b o,H b=some o→H' b=some o
theorem Same.refl (H:Hp):Same H H:=fun _ _ h=>h
end L2
set_option Elab.async false
set_option linter.all false
set_option maxRecDepth 100000
namespace L2
open PySem PySem.Spec PyProof.Rows
theorem lsz {h:Heap}{b:Nat}{o:Obj} (e:h.get? b=some o):b < h.objs.size:=Heap.lt_size e
theorem neN {a b:Nat} (h:a≠b):a≠b:=h
theorem ltN {a b:Nat} (h:a < b):a < b:=h
theorem cellN {h:Heap}{c:Nat}{v:Option Value} (q:h.IsCell c v):c < h.objs.size:=q.lt
structure LcScope (Xs:Scope) (N:List Str) (sc:Scope) (N':List Str) (ix:List (Option Nat)):Prop where
 kind:sc.kind=.function
 nc:∀y∈sc.names,y.2≠.cell
 loc:∀y∈sc.names,y.2=.local→sc.names.lookup y.1=some .local
 fr:∀y∈sc.names,y.2=.free→(Xs.names.lookup y.1=some .cell∨Xs.names.lookup y.1=some .free)
 nd:N'.Nodup
 len:ix.length=N'.length
 map:((ix.zip N').all fun p=>match p.1 with | none=>true | some j=>decide (N[j]?=some p.2)&&decide (sc.names.lookup p.2=some .free))=true
theorem LcScope.at {Xs:Scope}{N:List Str}{sc:Scope}{N':List Str}{ix:List (Option Nat)} (S:LcScope Xs N sc N' ix) {i j:Nat}{x:Str} (h1:ix[i]?=some (some j)) (h2:N'[i]?=some x) :
  N[j]?=some x∧sc.names.lookup x=some .free:=by
 have hm:((some j,x):Option Nat×Str)∈ix.zip N':=by
  refine List.mem_of_getElem? (i:=i) ?_
  rw [List.getElem?_zip_eq_some]
  exact⟨h1,h2⟩
 have q:=List.all_eq_true.mp S.map _ hm
 simp only [Bool.and_eq_true,decide_eq_true_eq] at q
 exact q
def blkSt (ix:List (Option Nat)) (σ:St):St:=ix.map fun o=>match o with | some j=>(σ[j]?).getD none | none=>none
def blk (X:Cx) (sc:Scope) (N':List Str) (cl:List (Str×Addr)) (C:Addr) (s2:Shared) (H2:Hp) (fp:List Addr):Cx where
 prog:=X.prog
 w:=X.w
 K:=X.K
 mg:=X.mg
 base:=X.base
 A:=X.A
 N:=N'
 s₀:=s2
 H₀:=H2
 env:=compEnvC sc cl C X.env
 outer:=X.stack
 stack:=X.stack
 ex:=fp
 calm:=X.calm
 fn:=fun _=>false
 pn:=[]
 xe:=fun _ _=>False
theorem closure_ok {env:Env}:∀(names:List (Str×NameKind)) (cs:List (Str×Addr)),(∀y∈names,y.2=.free→∃c,env.cells.lookup y.1=some c)→
  ∃cl,(forIn names cs fun (x:Str×NameKind) (c:List (Str×Addr))=>(match x with | (name,kind)=>do
    let c ← if (kind==NameKind.free)=true then do let a ← cellOf env name;pure ((name,a)::c) else pure c
    pure (ForInStep.yield c):Sem (ForInStep (List (Str×Addr)))))=pure cl∧(∀x c,cl.lookup x=some c→cs.lookup x=some c∨(env.cells.lookup x=some c∧(x,NameKind.free)∈names))∧(∀x,((x,NameKind.free)∈names∨(∃c,cs.lookup x=some c))→∃c,cl.lookup x=some c)
 | [],cs,_=>⟨cs,rfl,fun _ _ h=>.inl h,fun x h=>h.elim (fun z=>nomatch z) fun z=>z⟩
 | (n,k)::r,cs,h=>by
  by_cases hk:k=.free
  ·subst hk
   obtain⟨c,hc⟩:=h (n,.free) List.mem_cons_self rfl
   obtain⟨cl,e,h1,h2⟩:=closure_ok r ((n,c)::cs) fun y hy=>h y (List.mem_cons_of_mem _ hy)
   refine⟨cl,?_,fun x d hd=>?_,fun x hx=>?_⟩
   ·rw [List.forIn_cons,← e]
    simp only [beq_self_eq_true,if_true,cellOf,hc,pure_bind]
   ·rcases h1 x d hd with z | ⟨z1,z2⟩
    ·rw [List.lookup_cons] at z
     by_cases hx:(x==n)=true
     ·rw [hx] at z
      have hx':x=n:=eq_of_beq hx
      subst hx'
      cases z
      exact .inr ⟨hc,List.mem_cons_self⟩
     ·have hx':(x==n)=false:=by simpa using hx
      rw [hx'] at z
      exact .inl z
    ·exact .inr ⟨z1,List.mem_cons_of_mem _ z2⟩
   ·refine h2 x ?_
    rcases hx with hx | ⟨d,hd⟩
    ·rcases List.mem_cons.mp hx with z | z
     ·injection z with z1 _
      subst z1
      exact .inr ⟨c,by rw [List.lookup_cons];simp⟩
     ·exact .inl z
    ·by_cases hx:(x==n)=true
     ·exact .inr ⟨c,by rw [List.lookup_cons,hx]⟩
     ·have hx':(x==n)=false:=by simpa using hx
      exact .inr ⟨d,by rw [List.lookup_cons,hx'];exact hd⟩
  ·obtain⟨cl,e,h1,h2⟩:=closure_ok r cs fun y hy=>h y (List.mem_cons_of_mem _ hy)
   refine⟨cl,?_,fun x d hd=>?_,fun x hx=>?_⟩
   ·have hb:(k==NameKind.free)=false:=by simpa using hk
    rw [List.forIn_cons,← e]
    simp only [hb,Bool.false_eq_true,if_false,pure_bind]
   ·rcases h1 x d hd with z | ⟨z1,z2⟩
    ·exact .inl z
    ·exact .inr ⟨z1,List.mem_cons_of_mem _ z2⟩
   ·refine h2 x ?_
    rcases hx with hx | hx
    ·rcases List.mem_cons.mp hx with z | z
     ·injection z with _ z2
      exact absurd z2.symm hk
     ·exact .inl z
    ·exact .inr hx
theorem closureFor_ok {sc:Scope}{env:Env} (h:∀y∈sc.names,y.2=.free→∃c,env.cells.lookup y.1=some c) :
  ∃cl,closureFor sc env=pure cl∧(∀x c,cl.lookup x=some c→env.cells.lookup x=some c∧(x,NameKind.free)∈sc.names)∧(∀x,(x,NameKind.free)∈sc.names→∃c,cl.lookup x=some c):=by
 obtain⟨cl,e,h1,h2⟩:=closure_ok (env:=env) sc.names [] h
 refine⟨cl,?_,fun x c hc=>(h1 x c hc).resolve_left (fun z=>nomatch z),fun x hx=>h2 x (.inl hx)⟩
 unfold closureFor
 have e':(forIn sc.names ([]:List (Str×Addr)) fun x r=>(match x with | (name,kind)=>if (kind==NameKind.free)=true then do let a ← cellOf env name;pure (ForInStep.yield ((name,a)::r)) else pure (ForInStep.yield r):Sem (ForInStep (List (Str×Addr)))))=pure cl:=by
  rw [← e]
  first
   | rfl
   | (
     congr 1
     funext x r
     obtain⟨n,k⟩:=x
     by_cases hk:(k==NameKind.free)=true
     ·simp only [hk,if_true,pure_bind]
     ·simp only [hk,if_false,pure_bind,Bool.false_eq_true])
   | simp only [pure_bind]
 simpa using e'
theorem lookup_relabel {env:Env}:∀{names:List (Str×NameKind)}{x:Str},
  (names.map fun (n,k)=>if (k==NameKind.free&&env.scope.kind==.function&&env.kindOf n==some .cell) then (n,NameKind.cell) else (n,k)).lookup x =
   (names.lookup x).map fun k=>if (k==NameKind.free&&env.scope.kind==.function&&env.kindOf x==some .cell) then NameKind.cell else k
 | [],_=>rfl
 | (n,k)::r,x=>by
  have ih:=@lookup_relabel env r x
  show List.lookup x ((if (k==NameKind.free&&env.scope.kind==.function&&env.kindOf n==some .cell)=true then (n,NameKind.cell) else (n,k))::_)=_
  cases hx:x==n with
  | true=>
   have e:x=n:=eq_of_beq hx
   subst e
   by_cases hc:(k==NameKind.free&&env.scope.kind==.function&&env.kindOf x==some .cell)=true
   ·rw [if_pos hc,List.lookup_cons,List.lookup_cons,hx]
    simp only [Option.map_some,hc,if_true]
   ·rw [if_neg hc,List.lookup_cons,List.lookup_cons,hx]
    simp only [Option.map_some,hc,if_false]
    simp
  | false=>
   by_cases hc:(k==NameKind.free&&env.scope.kind==.function&&env.kindOf n==some .cell)=true
   ·rw [if_pos hc,List.lookup_cons,List.lookup_cons,hx];exact ih
   ·rw [if_neg hc,List.lookup_cons,List.lookup_cons,hx];exact ih
def PFs (X:Cx) (ifs:List Expr) (t:TT):Prop:=
 ∀(pins:List (Addr×Obj)) (s:Shared) (σ:St) (H:Hp) (Q:Bool→Hp→Prop),Inv X pins σ H s→t σ H Q→
  wpAny (model X.prog X.w) X.A (forIn ifs true fun c r=>if r=true then do let ok ← isTrue c X.env (eval c X.env);pure (ForInStep.yield ok) else pure (ForInStep.yield r)) (TP X pins σ Q) X.xe s
def tAll:TT:=fun _ H Q=>Q true H
theorem pfs_nil {X:Cx}:PFs X [] tAll:=fun pins s σ H Q I h=>by
 rw [List.forIn_nil]
 exact wpAny_pure ⟨H,I,h⟩
theorem pfs_one {X:Cx}{c:Expr}{t:TT} (hc:PT X c t):PFs X [c] t:=fun pins s σ H Q I h=>by
 rw [List.forIn_cons]
 simp only [if_true,bind_assoc,pure_bind]
 refine wpAny_bind (thn (hc pins s σ H Q I h) fun b s1 q=>?_)
 rw [List.forIn_nil]
 exact wpAny_pure q
def tLc (ix:List (Option Nat)) (wi:TI) (g:TG) (tf:TT) (te:TE):TE:=fun σ H Q=>wi σ H fun J H1=>∀D,H1 D=none→∃W:Nat→Nat→St→List V→Hp→Prop,
 (∃m,W 0 m (blkSt ix σ) [] (upd H1 D (.lst [])))∧∀i m σ' ys H,W i m σ' ys H→H D=some (.lst ys)∧
  ((J.stop i H∧Q (.ref D) H)∨(J.go i H∧∀x H',J.yld i H x H'→g x σ' H' fun σ2 H2=>tf σ2 H2 fun b H3=>
   if b=true then te σ2 H3 fun y H4=>H4 D=some (.lst ys)∧ys.length+1≤sizeLine∧∃m',m' < m∧W (i+1) m' σ2 (ys++[y]) (upd H4 D (.lst (ys++[y]))) else ∃m',m' < m∧W (i+1) m' σ2 ys H3))
theorem codeAny_compLoop_go {prog:Program}{w:World}{A:Around}{R:Result→Shared→Prop}{s:Shared}{elt target iter:Expr}{ifs:List Expr}{scope:Scope}{pos:Pos}{it acc:Value}{env:Env} (I:Nat→Shared→Prop)
  (turn:∀n s,I n s→wpAny (model prog w) A (pyNext it) (fun r s₁=>match r with
   | none=>R (.ok .next) s₁
   | some v=>wpAny (model prog w) A (letOwnedTupleGo target it v) (fun _ s₁'=>wpAny (model prog w) A (assign target env v) (fun _ s₂=>
     wpAny (model prog w) A (forIn ifs true fun c r=>if r=true then do let ok ← isTrue c env (eval c env);pure (ForInStep.yield ok) else pure (ForInStep.yield r)) (fun ok s₃=>
      if ok=true then wpAny (model prog w) A (eval elt env) (fun x s₄=>
       wpAny (model prog w) A (call (.builtin "list.append") [acc,x]) (fun _ s₅=>∃m,m < n∧I m s₅) (fun _ _=>False) s₄) (fun _ _=>False) s₃
      else ∃m,m < n∧I m s₃) (fun _ _=>False) s₂) (fun _ _=>False) s₁') (fun _ _=>False) s₁) (fun _ _=>False) s)
  (n:Nat) (h:I n s) :
  codeAny (model prog w) A (.compLoop (.ListComp elt [⟨target,iter,ifs,0⟩] scope pos) 0 it acc env) R s:=by
 refine codeAny_loop rfl I (fun n s hI=>?_) n h
 show wpAny _ A ((compTurn (.ListComp elt [⟨target,iter,ifs,0⟩] scope pos) 0 it acc env).onRaise (fun x=>do noteFrame x env;theTreesLotGoes x)) _ _ s
 refine wpAny_noted ?_
 rw [compTurn_list]
 refine wpAny_bind (wpAny_standAt (wpAny_bind (wpAny_mono (turn n s hI) (fun r s₁ h₁=>?_) fun _ _ h'=>h'.elim)))
 cases r with
 | none=>exact wpAny_pure h₁
 | some v=>
  refine wpAny_bind (wpAny_mono h₁ (fun _ s₁' h₁'=>?_) fun _ _ h'=>h'.elim)
  refine wpAny_bind (wpAny_mono h₁' (fun _ s₂ h₂=>wpAny_bind (wpAny_mono h₂ (fun ok s₃ h₃=>?_) fun _ _ h'=>h'.elim)) fun _ _ h'=>h'.elim)
  cases ok with
  | false=>exact wpAny_pure ⟨rfl,h₃⟩
  | true=>
   have h₃':wpAny (model prog w) A (eval elt env) (fun x s₄=>
       wpAny (model prog w) A (call (.builtin "list.append") [acc,x]) (fun _ s₅=>∃m,m < n∧I m s₅) (fun _ _=>False) s₄) (fun _ _=>False) s₃:=h₃
   exact wpAny_bind (wpAny_bind (wpAny_mono h₃' (fun x s₄ h₄=>wpAny_bind (wpAny_mono h₄ (fun _ s₅ h₅=>wpAny_pure (wpAny_pure ⟨rfl,h₅⟩)) fun _ _ h'=>h'.elim)) fun _ _ h'=>h'.elim))
section
variable {X:Cx}{elt tg iter:Expr}{ifs:List Expr}{sc:Scope}{pos:Pos}{N':List Str}{ix:List (Option Nat)}{wi:TI}{g:TG}{tf:TT}{te:TE}
structure CFree (X:Cx) (pins:List (Addr×Obj)) (H:Hp) (C:Addr):Prop where
 hn:H C=none
 hL:C≠X.env.locals
 ab:X.s₀.heap.objs.size≤C
 cl:∀x c,X.env.cells.lookup x=some c→c≠C
 pn:∀p∈X.pn++pins,p.1≠C
theorem lc_core (hc:X.calm=true) (S:LcScope X.env.scope X.N sc N' ix)
  (hg:∀cl C s2 H2 fp,PG (blk X sc N' cl C s2 H2 fp) tg g) (hf:∀cl C s2 H2 fp,PFs (blk X sc N' cl C s2 H2 fp) ifs tf) (he:∀cl C s2 H2 fp,PE (blk X sc N' cl C s2 H2 fp) elt te)
  {pins:List (Addr×Obj)}{σ:St}{H2:Hp}{s2:Shared}{cl:List (Str×Addr)} (hcl1:∀x c,cl.lookup x=some c→X.env.cells.lookup x=some c∧(x,NameKind.free)∈sc.names) (hcl2:∀x,(x,NameKind.free)∈sc.names→∃c,cl.lookup x=some c)
  {it:Addr}{fp:List Addr}{tn:Nat→Heap→Prop}{J:It}{Q:VK} (I2:Inv X pins σ H2 s2) (T:Turn X.prog X.w X.K tg J fp it tn) (st2:tn 0 s2.heap) (f2:∀b∈fp,FpOk X pins H2 b)
  (hW:∀D,H2 D=none→∃W:Nat→Nat→St→List V→Hp→Prop,
   (∃m,W 0 m (blkSt ix σ) [] (upd H2 D (.lst [])))∧∀i m σ' ys H,W i m σ' ys H→H D=some (.lst ys)∧
    ((J.stop i H∧Q (.ref D) H)∨(J.go i H∧∀x H',J.yld i H x H'→g x σ' H' fun σ2 H2=>tf σ2 H2 fun b H3=>
     if b=true then te σ2 H3 fun y H4=>H4 D=some (.lst ys)∧ys.length+1≤sizeLine∧∃m',m' < m∧W (i+1) m' σ2 (ys++[y]) (upd H4 D (.lst (ys++[y]))) else ∃m',m' < m∧W (i+1) m' σ2 ys H3)))
  {RR:Value→Addr→Result→Shared→Prop}{E:Value→Shared→Prop}
  (hRR:∀D C m s' H',Inv X pins σ H' s'→Q (.ref D) H'→s'.heap.Ns C m→CFree X pins H' C→RR (.ref D) C (.ok .next) s') :
  wpAny (model X.prog X.w) X.A (newList []) (fun acc s₃=>wpAny (model X.prog X.w) X.A (newFunctionEnv sc X.env.globals cl [] X.env.qual none .none (some X.env)) (fun cenv s₄=>
   codeAny (model X.prog X.w) X.A (.compStart (.ListComp elt [⟨tg,iter,ifs,0⟩] sc pos) 0 (.ref it) acc {cenv with scope:=relabel sc X.env}) (RR acc cenv.locals) s₄) E s₃) E s2:=by
 refine wpAny_newObj_type (wpAny_newFunctionEnv S.nc (by intro y hy;simp at hy) (fun h₁ hns₁ hsb₁=>?_) S.kind)
 dsimp only at hns₁ hsb₁ ⊢
 generalize hH2:s2.heap.push {cls:=.type "list",dict:=none,data:=.seq ([]:List Value).toArray}=G2 at hns₁ hsb₁ ⊢
 have hC:G2.objs.size=s2.heap.objs.size+1:=by rw [← hH2,Heap.size_push]
 obtain⟨D,hD⟩:∃D:Nat,s2.heap.objs.size=D:=⟨_,rfl⟩
 obtain⟨C,hCC⟩:∃C:Nat,G2.objs.size=C:=⟨_,rfl⟩
 simp only [hD,hCC] at hns₁ hsb₁ hC ⊢
 have hDC:D≠C:=by omega
 have old:∀b o,s2.heap.get? b=some o→h₁.get? b=some o:=fun b o e=>by
  have hb:=lsz e
  exact hsb₁.extBut b o (neN (by omega)) (Heap.get?_push_of_some _ (hH2▸Heap.get?_push_of_some _ e))
 have hacc:h₁.get? D=some {cls:=.type "list",data:=.seq ([]:List Value).toArray}:=by
  refine hsb₁.extBut D _ hDC (Heap.get?_push_of_some _ ?_)
  rw [← hH2,← hD]
  exact Heap.get?_push_size _ rfl
 have hD2:H2 D=none:=I2.hok.fresh (by omega)
 have hC2:H2 C=none:=I2.hok.fresh (by omega)
 obtain⟨W,⟨m0,w0⟩,turn⟩:=hW D hD2
 have cellX:∀x c,cl.lookup x=some c→∃v,s2.heap.IsCell c v:=fun x c e=>I2.cell x c (hcl1 x c e).1
 have cltD:∀x c,cl.lookup x=some c→c < D:=fun x c e=>by
  obtain⟨v,q⟩:=cellX x c e
  have:=cellN q
  exact ltN (by omega)
 have fpD:∀b∈fp,b < D:=fun b hb=>by
  obtain⟨o,e,_⟩:=T.obj 0 _ st2 b hb
  have:=lsz e
  exact ltN (by omega)
 have Yok:(blk X sc N' cl C s2 H2 fp).Ok:=by
  refine⟨I2.ok.mod,S.kind,I2.ok.glob,I2.ok.blt,?_,?_,?_,?_,I2.ok.hd,I2.ok.frames,.inl rfl,?_,I2.bs,?_,?_,?_,I2.stack,I2.stkFree⟩
  ·show s2.heap.objs.size≤C
   omega
  ·intro x y c e1 e2
   exact I2.ok.inj x y c (hcl1 x c e1).1 (hcl1 y c e2).1
  ·intro x hx
   have hx':(relabel sc X.env).names.lookup x=some .cell∨(relabel sc X.env).names.lookup x=some .free:=hx
   unfold relabel at hx'
   rw [lookup_relabel] at hx'
   cases q:sc.names.lookup x with
   | none=>rw [q] at hx';simp at hx'
   | some k=>
    have hm:=PySem.mem_of_lookup q
    by_cases hk:k=.free
    ·subst hk
     exact hcl2 x hm
    ·have hk2:k≠.cell:=S.nc _ hm
     rw [q] at hx'
     have hb:(k==NameKind.free)=false:=by simpa using hk
     simp only [Option.map_some,hb,Bool.false_and,Bool.false_eq_true,if_false] at hx'
     rcases hx' with z | z
     ·exact absurd (Option.some.inj z) hk2
     ·exact absurd (Option.some.inj z) hk
  ·intro x c hfn
   exact absurd hfn Bool.false_ne_true
  ·intro b hb
   refine⟨?_,fun x c e z=>(f2 b hb).2.2.2.2.1 x c (hcl1 x c e).1 z⟩
   show b≠C
   have:=ltN (fpD b hb)
   exact neN (by omega)
  ·show X.base.objs.size≤s2.heap.objs.size
   exact Nat.le_trans I2.ok.bsz I2.sz
  ·intro b o e hb
   rcases (f2 b hb).2.2.2.1 with z | z
   ·exact I2.ok.noex b o e z
   ·have h1:=lsz (h:=X.base) e
    have h2:=I2.ok.bsz
    omega
  ·intro b hb z
   rcases List.mem_cons.mp (I2.stkSub b z) with q | q
   ·exact (f2 b hb).2.1 q
   ·exact (f2 b hb).2.2.1 q
 have un0:Un (frs X.stack) fp H2 (upd H2 D (.lst [])) s2.heap h₁:=Un.laid old (by omega) hD2
 have hok0:HOk X.prog X.w (upd H2 D (.lst [])) h₁:=I2.hok.laid old (by omega) ⟨Nat.zero_le _,[],0,.nil,hacc⟩
 have IY:∀tk,Inv (blk X sc N' cl C s2 H2 fp) [] (blkSt ix σ) (upd H2 D (.lst [])) {s2 with heap:=h₁,toks:=tk}:=fun tk=>by
  refine⟨Yok,rfl,I2.bare,un0,⟨_,hns₁,fun i x v e1 e2 e3=>?_⟩,fun x c e=>?_,?_,fun x c e=>?_,fun p hp=>absurd (show p∈([]:List (Addr×Obj)) from hp) (by simp),hok0,?_⟩
  ·have e1':N'[i]?=some x:=e1
   unfold blkSt at e2
   rw [List.getElem?_map] at e2
   cases q:ix[i]? with
   | none=>rw [q] at e2;cases e2
   | some o=>
    cases o with
    | none=>rw [q] at e2;cases e2
    | some j=>
     rw [q] at e2
     have e2':(σ[j]?).getD none=some v:=Option.some.inj e2
     have e4:σ[j]?=some (some v):=by
      cases z:σ[j]? with
      | none=>rw [z] at e2';cases e2'
      | some y=>rw [z] at e2';exact congrArg some e2'
     obtain⟨a1,a2⟩:=S.at q e1'
     have hmem:=PySem.mem_of_lookup a2
     have hk:=S.fr _ hmem rfl
     obtain⟨m,_,hl⟩:=I2.loc
     obtain⟨u,r,l⟩:=hl j x v a1 e4 (.inr hk)
     refine⟨u,r,.inr ⟨?_,?_⟩⟩
     ·show (relabel sc X.env).names.lookup x=some .cell∨(relabel sc X.env).names.lookup x=some .free
      unfold relabel
      rw [lookup_relabel,a2]
      by_cases hb:(X.env.scope.kind==.function&&X.env.kindOf x==some .cell)=true
      ·left
       simp only [Option.map_some,beq_self_eq_true,Bool.true_and,hb,if_true]
      ·right
       simp only [Option.map_some,beq_self_eq_true,Bool.true_and,hb,if_false,Bool.false_eq_true]
     ·obtain⟨c,hcx⟩:=hcl2 x hmem
      have hcX:=(hcl1 x c hcx).1
      refine⟨c,hcx,?_⟩
      rcases l with⟨k,_⟩ | ⟨k,c',e',z⟩
      ·have k':X.env.scope.names.lookup x=some .local:=k
       rcases hk with y | y <;> rw [k'] at y <;> cases y
      ·rw [hcX] at e'
       cases e'
       obtain⟨o,ho,hd⟩:=z
       exact⟨o,old _ _ ho,hd⟩
  ·obtain⟨v,o,ho,hd⟩:=cellX x c e
   exact⟨v,o,old _ _ ho,hd⟩
  ·show upd H2 D (.lst []) C=none
   rw [upd_ne (Ne.symm hDC)]
   exact hC2
  ·have hlt:=ltN (cltD x c e)
   show upd H2 D (.lst []) c=none
   rw [upd_ne (neN (by omega))]
   exact I2.freeC x c (hcl1 x c e).1
  ·unfold blkSt
   rw [List.length_map]
   exact S.len
 have fpY:∀{pins':List (Addr×Obj)}{H':Hp},(∀b∈fp,H' b=none)→(∀p∈pins',p.1∉fp)→∀b∈fp,FpOk (blk X sc N' cl C s2 H2 fp) pins' H' b:=fun hn hp b hb=>by
  refine⟨hn b hb,?_,?_,.inl hb,fun x c e z=>(f2 b hb).2.2.2.2.1 x c (hcl1 x c e).1 z,fun p hpp z=>?_⟩
  ·show b≠C
   have:=ltN (fpD b hb)
   exact neN (by omega)
  ·exact Yok.exfs b hb
  ·have hpp':p∈([]:List (Addr×Obj))++_:=hpp
   rw [List.nil_append] at hpp'
   exact hp p hpp' (z▸hb)
 have loop:∀s₃:Shared,s₃={s2 with heap:=h₁,toks:=s2.toks+([]:List (Str×Value)).length}→
   codeAny (model X.prog X.w) X.A (.compLoop (.ListComp elt [⟨tg,iter,ifs,0⟩] sc pos) 0 (.ref it) (.ref D) (compEnvC sc cl C X.env)) (RR (.ref D) C) s₃:=by
  rintro s₃ rfl
  refine codeAny_compLoop_go (fun n s'=>∃i σ' ys H',Inv (blk X sc N' cl C s2 H2 fp) [] σ' H' s'∧tn i s'.heap∧(∀b∈fp,H' b=none)∧W i n σ' ys H') ?_ m0
   ⟨0,_,[],_,IY _,T.keep _ _ _ st2 (fun b _ o e=>old b o e),fun b hb=>by rw [upd_ne (Nat.ne_of_lt (fpD b hb))];exact (f2 b hb).1,w0⟩
  rintro n s3 ⟨i,σ3,ys,H3,I3,st3,fr3,w3⟩
  obtain⟨hDl,w3⟩:=turn i n σ3 ys H3 w3
  rcases w3 with⟨stop,qn⟩ | ⟨go,step⟩
  ·refine thn (T.done (blk X sc N' cl C s2 H2 fp) rfl rfl rfl hc i [] s3 σ3 H3 _ I3 (fpY fr3 (by simp)) st3 stop) fun r s4 ⟨hr,I4⟩=>?_
   subst hr
   obtain⟨m,hn,_⟩:=I4.loc
   refine hRR D C m s4 H3 (I2.call' (ch:=fp) I4.os I4.base I4.hok I4.bare fun b hb=>?_) qn hn ?_
   ·obtain⟨a0,a1,a2,a3,a4,a5⟩:=f2 b hb
    exact⟨a3,a1,a4,a5⟩
   ·refine⟨I4.free,?_,?_,fun x c e z=>?_,fun p hp z=>?_⟩
    ·have:=ltN I2.lt
     exact neN (by omega)
    ·have:=I2.sz
     omega
    ·obtain⟨v,q⟩:=I2.cell x c e
     have:=cellN q
     exact neN (a:=c) (b:=C) (by omega) z
    ·have:=lsz (I2.pin p hp).1
     exact neN (a:=p.1) (b:=C) (by omega) z
  ·refine thn (T.item (blk X sc N' cl C s2 H2 fp) rfl rfl rfl hc i [] s3 σ3 H3 (fun _ _=>False) I3 (fpY fr3 (by simp)) st3 go) fun r s4 ⟨u,hr,h4⟩=>?_
   subst hr
   refine thn h4 fun _ s5 ⟨x,H5,I5,r5,y5,st5,fr5⟩=>?_
   have I5':=I5.pinned (fpY fr5 (by simp)) (T.obj _ _ st5)
   refine thn (hg _ _ _ _ _ _ s5 σ3 H5 x u _ I5' r5 (step x H5 y5)) fun _ s6 ⟨σ6,H6,I6,q6⟩=>?_
   refine thn (hf _ _ _ _ _ _ s6 σ6 H6 _ I6 q6) fun b s7 ⟨H7,I7,q7⟩=>?_
   have keepT:∀{s8:Shared}{σ8:St}{H8:Hp},Inv (blk X sc N' cl C s2 H2 fp) ([]++pinsAt fp s5.heap) σ8 H8 s8→tn (i+1) s8.heap∧∀b∈fp,H8 b=none:=fun {s8 σ8 H8} I8=>by
    refine⟨T.keep _ _ _ st5 fun b hb o e=>(I8.pin (b,o) (List.mem_append_right _ (List.mem_append_right _ (mem_pinsAt hb e)))).1,fun b hb=>?_⟩
    obtain⟨o,e,d⟩:=T.obj _ _ st5 b hb
    exact (I8.pin (b,o) (List.mem_append_right _ (List.mem_append_right _ (mem_pinsAt hb e)))).2.1
   cases b with
   | false=>
    have q7':∃m',m' < n∧W (i+1) m' σ6 ys H7:=q7
    obtain⟨m',hm,w7⟩:=q7'
    rw [if_neg Bool.false_ne_true]
    obtain⟨t7,fr7⟩:=keepT I7
    exact⟨m',hm,i+1,σ6,ys,H7,I7.unpinned,t7,fr7,w7⟩
   | true=>
    rw [if_pos rfl]
    rw [if_pos rfl] at q7
    refine thn (he _ _ _ _ _ _ s7 σ6 H7 _ I7 q7) fun yv s8 ⟨y,H8,I8,r8,hD8,hz8,m',hm,w8⟩=>?_
    obtain⟨z,its,k,rv,hl8,e8⟩:=I8.lstM hD8
    obtain⟨t8,fr8⟩:=keepT I8
    refine wpAny_list_append_plain (s:=s8) (items:=its.toArray) (hsz:=by rw [List.size_toArray];omega) ⟨_,e8⟩ fun h9 hl9 hs9=>?_
    obtain⟨k9,e9⟩:=hl9
    have hv9:Vals (ys++[y]) (its++[yv]):=Vals.append rv (.cons r8 .nil)
    have I9:Inv (blk X sc N' cl C s2 H2 fp) ([]++pinsAt fp s5.heap) σ6 (upd H8 D (.lst (ys++[y]))) {s8 with heap:=h9,toks:=s8.toks}:=by
     refine I8.write (x:=D) (e:=D) (by rw [hD8];exact trivial) (.inl rfl) (fun b u hb hu=>(hs9.2 b hb).trans hu) ⟨_,e9⟩ ?_
     refine⟨by rw [List.length_append,List.length_singleton];exact hz8,its++[yv],k9,hv9,?_⟩
     rw [e9]
     simp
    obtain⟨t9,fr9⟩:=keepT I9
    exact⟨m',hm,i+1,σ6,_,_,I9.unpinned,t9,fr9,w8⟩
 exact codeAny_compStart_list (loop _ rfl) (T.self _ 0 _ _ _ (T.keep _ _ _ st2 fun b _ o e=>old b o e) (loop _ rfl))
theorem pe_lc (hc:X.calm=true) (S:LcScope X.env.scope X.N sc N' ix) (hi:PI X tg iter wi)
  (hg:∀cl C s2 H2 fp,PG (blk X sc N' cl C s2 H2 fp) tg g) (hf:∀cl C s2 H2 fp,PFs (blk X sc N' cl C s2 H2 fp) ifs tf) (he:∀cl C s2 H2 fp,PE (blk X sc N' cl C s2 H2 fp) elt te)
  (hs:∀x,foldedSetIterable iter X.env x=pure x:=by intro _;rfl):PE X (.ListComp elt [⟨tg,iter,ifs,0⟩] sc pos) (tLc ix wi g tf te):=by
 intro pins s σ H Q I h
 rw [eval_ListComp]
 have hcells:∀y∈sc.names,y.2=.free→∃c,X.env.cells.lookup y.1=some c:=fun y hy hk=>I.ok.has y.1 (S.fr y hy hk)
 obtain⟨cl,hclos,hcl1,hcl2⟩:=closureFor_ok hcells
 refine wpAny_comprehension_free (use:=none) rfl hs hclos S.kind S.loc (thn (hi pins s σ H _ I h) fun v s1 h1=>thn h1 fun itv s2 h2=>?_)
 obtain⟨it,fp,tn,J,H2,rfl,I2,T,st2,f2,hW⟩:=h2
 refine lc_core (RR:=fun acc C=>compPost (model X.prog X.w) X.A X.xe none (EP X pins σ Q) acc C) hc S hg hf he hcl1 hcl2 I2 T st2 f2 hW fun D C m s' H' I' q hn F=>?_
 refine⟨m,hn,fun h' hs'=>⟨.ref D,H',?_,rfl,q⟩⟩
 exact I'.turned (it:=C) (t':=s'.toks) (fun b o hb e=>(hs'.2 b hb).trans e) F.hn F.hL (.inr F.ab) F.cl F.pn
theorem ps_setlc {i:Nat}{x:Str}{px spos:Pos} (hc:X.calm=true) (hN:X.N.Nodup) (hi':X.N[i]?=some x) (hx:X.env.scope.names.lookup x=some .local) (S:LcScope X.env.scope X.N sc N' ix) (hi:PI X tg iter wi)
  (hg:∀cl C s2 H2 fp,PG (blk X sc N' cl C s2 H2 fp) tg g) (hf:∀cl C s2 H2 fp,PFs (blk X sc N' cl C s2 H2 fp) ifs tf) (he:∀cl C s2 H2 fp,PE (blk X sc N' cl C s2 H2 fp) elt te)
  (hsw:swapsWith (.ListComp elt [⟨tg,iter,ifs,0⟩] sc pos) (some (.Name x px)) spos.line X.env=pure true:=by rfl)
  (hs:∀x,foldedSetIterable iter X.env x=pure x:=by intro _;rfl):PS X (.Assign [.Name x px] (.ListComp elt [⟨tg,iter,ifs,0⟩] sc pos) spos) (tAsg (tLc ix wi g tf te) (gName i)):=by
 intro pins s σ H D0 I h
 rw [exec_Assign_Name_used _ _ _ _ hsw]
 refine wpAny_bind (wpAny_standAt (wpAny_bind ?_))
 show wpAny _ X.A (do let _ ← comprehension (.ListComp elt [⟨tg,iter,ifs,0⟩] sc pos) sc X.env _ (newList []) false (eval iter X.env) (some (assign (.Name x px) X.env))) _ _ s
 have hcells:∀y∈sc.names,y.2=.free→∃c,X.env.cells.lookup y.1=some c:=fun y hy hk=>I.ok.has y.1 (S.fr y hy hk)
 obtain⟨cl,hclos,hcl1,hcl2⟩:=closureFor_ok hcells
 refine wpAny_bind (wpAny_mono (wpAny_comprehension_free (use:=some (assign (.Name x px) X.env)) (Q:=fun _ s'=>SP X pins D0 .next s') rfl hs hclos S.kind S.loc (thn (hi pins s σ H _ I h) fun v s1 h1=>thn h1 fun itv s2 h2=>?_)) (fun _ s' hq=>wpAny_pure (wpAny_pure hq)) fun _ _ e=>e)
 obtain⟨it,fp,tn,J,H2,rfl,I2,T,st2,f2,hW⟩:=h2
 refine lc_core (RR:=fun acc C=>compPost (model X.prog X.w) X.A X.xe (some (assign (.Name x px) X.env)) (fun _ s'=>SP X pins D0 .next s') acc C) (Q:=fun x H1=>gName i x σ H1 D0.nx) hc S hg hf he hcl1 hcl2 I2 T st2 f2 hW fun D C m s' H' I' q hn F=>?_
 show wpAny _ X.A (assign (.Name x px) X.env (.ref D)) _ _ _
 refine wpAny_assign_Name (store_ok2 (v:=.ref D) I' hN hi' (.inl hx) rfl (fun s'' I'' hsb=>?_) (.inr hx))
 obtain⟨a,hsb,ha⟩:=hsb
 have haC:C≠a:=by
  rcases ha with z | z
  ·rw [z];exact F.hL
  ·exact Ne.symm (F.cl _ _ z)
 refine⟨m,hn.sameBut hsb haC,fun h' hs'=>⟨_,H',?_,q⟩⟩
 exact I''.turned (it:=C) (t':=s''.toks) (fun b o hb e=>(hs'.2 b hb).trans e) F.hn F.hL (.inr F.ab) F.cl F.pn
end
end L2
set_option Elab.async false
set_option linter.all false
set_option maxRecDepth 100000
namespace L2
open PySem PySem.Spec PyProof.Rows
section
variable {X:Cx}{a b e:Expr}{ta tb:TE}{pos:Pos}
theorem call_isinst:CallR X (.builtin "isinstance") (fun xs H Q=>∃x c t b,xs=[x,.ty c]∧TyOf X.K H x t∧PySem.W.kitOne X.K t (.type c)=some b∧Q (.bl b) H):=by
 intro pins s σ H xs us Q I r h
 obtain⟨x,c,t,b,rfl,ty,hk,q⟩:=h
 obtain⟨u,w',rfl,ru,rw'⟩:=vals2 r
 cases (show w'=Value.type c from rw')
 exact isinst_ok I ru ty hk fun tk=>⟨.bl b,H,I.tok _,rfl,q⟩
theorem op_ne_nil (hu:X.A.units < cLine):OpR X (compareOp .NotEq) (fun x y H Q=>∃p q xs,x=.ref p∧y=.ref q∧SqL X.K H p xs∧SqL X.K H q []∧Q (.bl (!xs.isEmpty)) H):=by
 intro pins s σ H x y v u Q I rx ry h
 obtain⟨p,q,xs,rfl,rfl,hp,hq,k⟩:=h
 cases rx
 cases ry
 obtain⟨its,r,pl,hz⟩:=I.list hp
 obtain⟨its2,r2,pl2,hz2⟩:=I.list hq
 cases r2
 cases xs with
 | nil=>
  cases r
  refine EqBoolInt.of_rcne (SeqAt.RcNeAt.lists (e:=fun _=>true) pl.isList pl2.isList rfl hu fun j h1=>absurd h1 (by simp)) ?_
  exact⟨.bl false,H,I,rfl,k⟩
 | cons y ys=>
  have hl:=r.length
  refine EqBoolInt.of_rcne (SeqAt.RcNeAt.lists_lengths pl.isList pl2.isList (by simp at hl ⊢;intro z;subst z;simp at hl) hu) ?_
  exact⟨.bl true,H,I,rfl,k⟩
theorem bools_of {bs:List Bool}:∀{us:List Value},Vals (bs.map V.bl) us→us=bs.map Value.bool:=by
 induction bs with
 | nil=>intro us r;rw [List.map_nil] at r;cases r;rfl
 | cons n ns ih=>
  intro us r
  rw [List.map_cons] at r
  cases r with
  | cons r1 r2=>
   cases r1
   rw [ih r2]
   rfl
theorem call_all_l (hc:X.calm=true):CallR X (.builtin "all") (fun xs H Q=>∃(p:Addr) (bs:List Bool),xs=[.ref p]∧SqL X.K H p (bs.map V.bl)∧Q (.bl (bs.all id)) H):=by
 intro pins s σ H xs us Q I r h
 obtain⟨p,bs,rfl,hp,q⟩:=h
 obtain⟨u,rfl,ru⟩:=vals1 r
 cases ru
 obtain⟨its,rv,pl,hz⟩:=I.list hp
 have eb:=bools_of rv
 subst eb
 have hl:=pl.isList
 have hlt:p < s.heap.objs.size:=by obtain⟨_,e,_⟩:=hl;exact Heap.lt_size e
 refine call_all_walk (wpAny_pyIter_list hl ?_)
 refine⟨s.heap.objs.size,[s.heap.objs.size,p],[s.heap.objs.size],(bs.map Value.bool).toArray.size,_,_,fun i=>(bs[i]?).getD true,rfl,Walks.list (A:=X.A.in1) (I.ok.hd hc) _ p (Nat.ne_of_lt hlt) (bs.map Value.bool).toArray,
  ⟨⟨_,Heap.get?_push_size _ rfl,rfl,rfl⟩,hl.push _⟩,fun i v s' Q' E' hP hQ=>?_,fun h' tk hk=>?_⟩
 ·have hP':(bs.map Value.bool)[i]?=some v:=by simpa using hP
  rw [List.getElem?_map] at hP'
  cases e:bs[i]? with
  | none=>rw [e] at hP';cases hP'
  | some b=>
   rw [e] at hP'
   cases hP'
   simp only [e,Option.getD_some] at hQ
   exact wpAny_truthy_bool hQ
 ·have e:((List.range (bs.map Value.bool).toArray.size).all fun i=>(bs[i]?).getD true)=bs.all id:=by
   rw [List.size_toArray,List.length_map];exact LSm.range_all bs
  rw [e]
  exact⟨.bl (bs.all id),H,I.kept (LSm.kept_iter hk),rfl,q⟩
theorem list_extend_tup (l:Addr) (items:Array Value) (n:Nat) (b:Addr) (items2:Array Value) (n2:Nat) (dd:Option Addr) (sl:Array (Option Value)) (hs0:¬(!items.isEmpty&&Builtin.List.listTooLong (items.size+items2.size))=true) (hs1:items.size≤sizeLine) (hs2:items.size+items2.size≤sizeLine+1) :
  Meets (Builtin.«list.extend» ⟨[.ref l,.ref b],[]⟩) (fun _ R s=>s.heap.get? l=some {cls:=.type "list",dict:=none,data:=.seq items n,slots:=#[]}∧s.heap.get? b=some {cls:=.type "tuple",dict:=dd,data:=.seq items2 n2,slots:=sl}∧R (.ok (.ret Value.none)) {s with heap:=s.heap.update l (Obj.mapSeq fun x=>x++items2),toks:=s.toks}):=
 .of_wp fun prog w A R s h=>by
  obtain⟨hp,g,d,tk,os⟩:=s;obtain⟨hl,hb,h⟩:=h;have f1:=PySem.AutoSeq1.idx_int;have f2:=PySem.AutoSeq1.sub_tuple_tuple;have f3:=PySem.AutoSeq1.sub_list_list;have f4:=PySem.AutoSeq1.sub_tuple_list;have f5:=PySem.AutoSeq1.sub_list_tuple;
  have hz':(items++items2).size≤sizeLine+1:=by rw [Array.size_append];exact hs2
  wp_walk using (wpAny_updateSeq hl rfl (hz:=hs1) (_hz':=hz')),PySem.AutoSeq1.wpAny_loadPart' hl,PySem.AutoSeq1.wpAny_loadPart' hb;exact⟨_,rfl,h⟩
def rExtendT (K:PySem.W.Frag):V→List V→Hp→VK→Prop:=fun x vs H Q=>∃l b xs zs,x=.ref l∧vs=[.ref b]∧H l=some (.lst xs)∧SqT K H b zs∧xs.length+zs.length≤sizeLine∧Q .non (upd H l (.lst (xs++zs)))
theorem mt_extendT:MtM X "list.extend" (rExtendT X.K):=by
 intro pins s σ H x vs v us Q I rx rv h
 obtain⟨l,b,xs,zs,rfl,rfl,hH,hB,hz,q⟩:=h
 cases rx
 obtain⟨u,rfl,ru⟩:=rv.one
 cases ru
 obtain⟨z,its,n,r,hl,e⟩:=I.lstM hH
 obtain⟨its2,r2,⟨⟨cls,dd,data,sl⟩,e2,hc,n2,hd⟩,z2⟩:=I.tuple hB
 simp only at hc hd
 subst hc hd
 have hl2:=r2.length
 have hsz:its.toArray.size+its2.toArray.size≤sizeLine:=by rw [List.size_toArray,List.size_toArray];omega
 have hlong:¬(!its.toArray.isEmpty&&Builtin.List.listTooLong (its.toArray.size+its2.toArray.size))=true:=by
  rw [notLongL hsz,Bool.and_false]
  exact Bool.false_ne_true
 refine call_meets F.slot_list_extend ⟨_,e,rfl⟩ F.entry_list_extend (F.args_list_extend_2 _ _)
  (list_extend_tup l its.toArray n b its2.toArray n2 dd sl hlong (by rw [List.size_toArray];omega) (by omega)) ⟨e,e2,?_⟩
 refine⟨.non,_,I.lset (its':=its++its2) hH e (by simp) (r.append r2) ?_,rfl,q⟩
 rw [List.length_append]
 omega
end
section
variable {X:Cx}{o:Expr}{lo hi:Expr}{to tl th:TE}{pos p2:Pos}
def gSlice (to tl th:TE):TG:=fun v σ H Q=>to σ H fun x H1=>tl σ H1 fun i H2=>th σ H2 fun j H3=>∃l b xs ys a c,x=.ref l∧v=.ref b∧i=.int a∧j=.int c∧H3 l=some (.lst xs)∧H3 b=some (.lst ys)∧l≠b∧0≤a∧a≤c∧c≤xs.length∧xs.length+ys.length≤sizeLine∧
 Q σ (upd H3 l (.lst (xs.take a.toNat++ys++xs.drop c.toNat)))
theorem pg_slice (ho:PE X o to) (hl:PE X lo tl) (hh:PE X hi th)
  (ha:∀v,assign (.Subscript o (.Slice (some lo) (some hi) none p2) pos) X.env v=(do
   let ov ← holding [v] (eval o X.env)
   let iv ← holding [v,ov] (eval (.Slice (some lo) (some hi) none p2) X.env)
   standAt pos
   holding [v,ov,iv] (setItem ov iv v)
   release [iv,v,ov] []):=by intro _;rfl):PG X (.Subscript o (.Slice (some lo) (some hi) none p2) pos) (gSlice to tl th):=by
 intro pins s σ H v u Q I r h
 rw [ha]
 refine wpAny_bind (wpAny_holding (thn (ho pins s σ H _ I h) fun ov s1 ⟨x,H1,I1,r1,q1⟩=>?_))
 refine wpAny_bind (wpAny_holding (wpAny_Slice ?_))
 rw [evalPart_some,evalPart_some,evalPart_none]
 refine thn (hl pins s1 σ H1 _ I1 q1) fun vl s2 ⟨i,H2,I2,r2,q2⟩=>thn (hh pins s2 σ H2 _ I2 q2) fun vu s3 ⟨j,H3,I3,r3,q3⟩=>wpAny_pure ?_
 obtain⟨l,b,xs,ys,a,c,rfl,rfl,rfl,rfl,hH,hB,hne,h0,hac,hc,hz,q⟩:=q3
 cases r
 cases r1
 have I4:Inv X pins σ H3 {s3 with heap:=s3.heap.push {cls:=.type "slice",data:=.fields #[vl,vu,.none]}}:=I3.kept (t':=s3.toks) fun b ob q=>Heap.get?_push_of_some _ q
 refine wpAny_bind (wpAny_standAt (wpAny_bind (wpAny_holding (set_slice I4 hH hB hne (Heap.IsSliceOf.new ..) r2 r3 h0 hac hc hz fun s' I'=>?_))))
 exact wpAny_release ⟨σ,_,I',q⟩
end
end L2
set_option Elab.async false
set_option linter.all false
set_option maxRecDepth 100000
namespace L2
open PySem PySem.Spec PyProof.Rows
def SameX (l:Addr) (H H':Hp):Prop:=∀b u,b≠l→H b=some u→H' b=some u
theorem same_new {H:Hp}{p:Addr} (h:H p=none) (o:HO):Same H (upd H p o):=fun b u q=>by rw [upd_ne (ne_of_none q h)];exact q
theorem samex_upd {H:Hp}{p:Addr} (o:HO):SameX p H (upd H p o):=fun b u n q=>by rw [upd_ne n];exact q
def newO (H:Hp) (o:HO) (Q:VK):Prop:=∀p H',Same H H'→H' p=some o→H p=none→Q (.ref p) H'
theorem newO.at {H:Hp}{o:HO}{Q:VK} (h:newO H o Q) (p:Addr) (hp:H p=none):Q (.ref p) (upd H p o):=h p _ (same_new hp o) upd_same hp
def updO (H:Hp) (l:Addr) (o:HO) (Q:Hp→Prop):Prop:=∀H',SameX l H H'→H' l=some o→Q H'
theorem updO.at {H:Hp}{l:Addr}{o:HO}{Q:Hp→Prop} (h:updO H l o Q):Q (upd H l o):=h _ (samex_upd o) upd_same
theorem OpR.mono {X:Cx}{f:Value→Value→Sem Value}{r r':R2} (h:OpR X f r) (hr:∀x y H Q,r' x y H Q→r x y H Q):OpR X f r':=fun pins s σ H x y v u Q I rx ry q=>h pins s σ H x y v u Q I rx ry (hr _ _ _ _ q)
theorem CallR.mono {X:Cx}{f:Value}{r r':List V→Hp→VK→Prop} (h:CallR X f r) (hr:∀xs H Q,r' xs H Q→r xs H Q):CallR X f r':=fun pins s σ H xs us Q I rx q=>h pins s σ H xs us Q I rx (hr _ _ _ q)
theorem MtM.mono {X:Cx}{id:String}{r r':V→List V→Hp→VK→Prop} (h:MtM X id r) (hr:∀x xs H Q,r' x xs H Q→r x xs H Q):MtM X id r':=fun pins s σ H x xs v us Q I rx rv q=>h pins s σ H x xs v us Q I rx rv (hr _ _ _ _ q)
theorem PSet.mono {X:Cx}{r r':TSet} (h:PSet X r) (hr:∀o i v H Q,r' o i v H Q→r o i v H Q):PSet X r':=fun pins s σ H o i v ov iv u Q I ro ri rv q=>h pins s σ H o i v ov iv u Q I ro ri rv (hr _ _ _ _ _ q)
section
variable {X:Cx}{e o:Expr}{es:List Expr}{te:TE}{t:TA}{pos:Pos}
def tTupN (t:TA):TE:=fun σ H Q=>t σ H fun xs H1=>xs.length≤sizeLine∧newO H1 (.tup xs) Q
def tLstN (t:TA):TE:=fun σ H Q=>t σ H fun xs H1=>xs.length≤sizeLine∧newO H1 (.lst xs) Q
theorem pe_tupN {x1} (h:PA X es t):PE X (.Tuple es x1 pos) (tTupN t):=by
 intro pins s σ H Q I hq
 refine wpAny_Tuple_spliced (thn (h pos pins s σ H _ I hq) fun us s1 ⟨xs,H1,I1,r,z,q⟩=>⟨by rw [← r.length];exact z,?_⟩)
 have hf:H1 s1.heap.objs.size=none:=I1.hok.fresh (Nat.le_refl _)
 refine⟨.ref s1.heap.objs.size,upd H1 s1.heap.objs.size (.tup xs),I1.laid (t':=s1.toks) (fun b u e=>Heap.get?_push_of_some _ e) (Nat.le_refl _) ?_,rfl,q.at _ hf⟩
 exact⟨z,us,r,⟨_,Heap.get?_push_size _ rfl,rfl,_,rfl⟩⟩
theorem pe_lstN (h:PA X es t):PE X (.List es pos) (tLstN t):=by
 intro pins s σ H Q I hq
 refine wpAny_List_spliced (thn (h pos pins s σ H _ I hq) fun us s1 ⟨xs,H1,I1,r,z,q⟩=>⟨by rw [← r.length];exact z,?_⟩)
 have hf:H1 s1.heap.objs.size=none:=I1.hok.fresh (Nat.le_refl _)
 refine⟨.ref s1.heap.objs.size,upd H1 s1.heap.objs.size (.lst xs),I1.laid (t':=s1.toks) (fun b u e=>Heap.get?_push_of_some _ e) (Nat.le_refl _) ?_,rfl,q.at _ hf⟩
 exact⟨z,us,0,r,Heap.get?_push_size _ rfl⟩
def rPlus (K:PySem.W.Frag):R2:=fun x y H Q=>match x with
 | .int i=>∃j,y=.int j∧Q (.int (i+j)) H
 | .str i=>∃j,y=.str j∧i.length+j.length≤sizeLine∧Q (.str (i++j)) H
 | .ref a=>(∃b xs zs,y=.ref b∧H a=some (.lst xs)∧H b=some (.lst zs)∧xs.length+zs.length≤sizeLine∧newO H (.lst (xs++zs)) Q)∨rCatT K x y H Q
 | _=>False
theorem op_addA:OpR X (binaryOp .Add) (rPlus X.K):=by
 refine ((op_add.or op_add_str).or (op_cat.or op_catT)).mono fun x y H Q h=>?_
 unfold rPlus at h
 cases x with
 | int i=>obtain⟨j,rfl,q⟩:=h;exact .inl (.inl ⟨i,j,rfl,rfl,q⟩)
 | str i=>obtain⟨j,rfl,hl,q⟩:=h;exact .inl (.inr ⟨i,j,rfl,rfl,hl,q⟩)
 | ref a=>
  rcases h with⟨b,xs,zs,rfl,h1,h2,hz,q⟩ | h
  ·exact .inr (.inl ⟨a,b,xs,zs,rfl,rfl,h1,h2,hz,fun p hp=>q.at p hp⟩)
  ·exact .inr (.inr h)
 | _=>exact h.elim
theorem op_mulA:OpR X (binaryOp .Mult) (rI IntMulOk fun i j=>.int (i*j)):=opI fun _ _ _ _ _ _ _ hc q=>mul_int q hc
theorem call_listN:CallR X (.type "list") (fun xs H Q=>∃p ys,xs=[.ref p]∧(SqL X.K H p ys∨SqT X.K H p ys)∧newO H (.lst ys) Q):=call_list_of.mono fun xs H Q ⟨p,ys,e,h,q⟩=>⟨p,ys,e,h,fun l hl=>q.at l hl⟩
def rAppendN:V→List V→Hp→VK→Prop:=fun x vs H Q=>∃l xs y,x=.ref l∧vs=[y]∧H l=some (.lst xs)∧xs.length < sizeLine∧updO H l (.lst (xs++[y])) (Q .non)
theorem mt_appendN:MtM X "list.append" rAppendN:=mt_append.mono fun x xs H Q ⟨l,ys,y,e1,e2,h,hz,q⟩=>⟨l,ys,y,e1,e2,h,hz,q.at⟩
def rExtendTN (K:PySem.W.Frag):V→List V→Hp→VK→Prop:=fun x vs H Q=>∃l b xs zs,x=.ref l∧vs=[.ref b]∧H l=some (.lst xs)∧SqT K H b zs∧xs.length+zs.length≤sizeLine∧updO H l (.lst (xs++zs)) (Q .non)
theorem mt_extendTN:MtM X "list.extend" (rExtendTN X.K):=mt_extendT.mono fun x xs H Q ⟨l,b,ys,zs,e1,e2,h1,h2,hz,q⟩=>⟨l,b,ys,zs,e1,e2,h1,h2,hz,q.at⟩
def rPopN:V→List V→Hp→VK→Prop:=fun x vs H Q=>∃l xs y,x=.ref l∧vs=[]∧H l=some (.lst (xs++[y]))∧updO H l (.lst xs) (Q y)
theorem mt_popN:MtM X "list.pop" rPopN:=mt_pop.mono fun x xs H Q ⟨l,ys,y,e1,e2,h,q⟩=>⟨l,ys++[y],y,e1,e2,h,by simp,by rw [List.dropLast_concat];exact q.at⟩
def rSetLN:TSet:=fun o i v H Q=>∃p xs k j,o=.ref p∧i=.int k∧H p=some (.lst xs)∧ixN xs.length k=some j∧updO H p (.lst (xs.set j v)) Q
theorem set_listN:PSet X rSetLN:=set_list.mono fun o i v H Q ⟨p,xs,k,j,e1,e2,h,hj,q⟩=>⟨p,xs,k,j,e1,e2,h,hj,q.at⟩
end
section
variable {X:Cx} (K:PySem.W.Frag) (hK:X.K=K) {a e o:Expr}{es:List Expr}{ta to:TE}{t:TA}{pos:Pos}{name:Str}{apos cpos:Pos}{T idn:String}{r:V→List V→Hp→VK→Prop}{tg l:Expr}{tl:TE}
include hK
theorem ix_seqk:IxR X (rIx K):=hK▸ix_seq
theorem op_addk:OpR X (binaryOp .Add) (rPlus K):=hK▸op_addA
def rLen (K:PySem.W.Frag):List V→Hp→VK→Prop:=fun xs H Q=>∃x n,xs=[x]∧LenV K x H n∧Q (.int n) H
theorem call_lenk:CallR X (.builtin "len") (rLen K):=hK▸call_len
def rListC (K:PySem.W.Frag):List V→Hp→VK→Prop:=fun xs H Q=>∃p ys,xs=[.ref p]∧(SqL K H p ys∨SqT K H p ys)∧newO H (.lst ys) Q
theorem call_listk:CallR X (.type "list") (rListC K):=hK▸call_listN
def rAllB (K:PySem.W.Frag):List V→Hp→VK→Prop:=fun xs H Q=>∃(p:Addr) (bs:List Bool),xs=[.ref p]∧SqL K H p (bs.map V.bl)∧Q (.bl (bs.all id)) H
theorem call_allk (hc:X.calm=true):CallR X (.builtin "all") (rAllB K):=hK▸call_all_l hc
def rNeNil (K:PySem.W.Frag):R2:=fun x y H Q=>∃p q xs,x=.ref p∧y=.ref q∧SqL K H p xs∧SqL K H q []∧Q (.bl (!xs.isEmpty)) H
theorem op_ne_nilk (hu:X.A.units < cLine):OpR X (compareOp .NotEq) (rNeNil K):=hK▸op_ne_nil hu
def tTru (K:PySem.W.Frag) (ta:TE):TT:=fun σ H Q=>ta σ H fun x H'=>∃k,TruV K x H' k∧Q k H'
theorem pt_truthk (ha:PE X a ta) (he:∀whole,isTrue a X.env whole=(do let v ← whole;standAt a.pos;holding [v] (truthy v))):PT X a (tTru K ta):=hK▸pt_truth ha he
theorem pe_bm0k (pa:PlainAttrs T) (slot:Slot T name idn) (hty:typeOf (.builtin idn)=pure (.type "method_descriptor")) (hm:MtR X idn r) (ho:PE X o to)
  (hbase:attributeBase o name X.env (eval o X.env)=eval o X.env:=by rfl) (hline:(apos.endLine==cpos.line)=true:=by rfl):PE X (.Call (.Attribute o name apos) [] [] cpos) (tBM0 K T r to):=hK▸pe_bm0 pa slot hty hm ho hbase hline
theorem pe_bmk (pa:PlainAttrs T) (slot:Slot T name idn) (hty:typeOf (.builtin idn)=pure (.type "method_descriptor")) (hm:MtR X idn r) (ho:PE X o to) (ha:PA X (e::es) t)
  (hbase:attributeBase o name X.env (eval o X.env)=eval o X.env:=by rfl)
  (hfew:((backTo cpos (starEach (e::es) X.env)).all (fun x=>!x.1)&&(backToKw cpos (keywordEach [] X.env)).all (fun x=>x.1.isSome)
   && decide ((e::es).length+([]:List Keyword).length+(if ([]:List Keyword).isEmpty then 0 else 1) < 30))=true:=by rfl)
  (hline:(apos.endLine==cpos.line)=true:=by rfl) (hs:starEach (e::es) X.env=(false,eval e X.env)::starEach es X.env:=by rfl) (hplain:(backTo cpos (starEach es X.env)).any (·.1)=false:=by rfl) :
  PE X (.Call (.Attribute o name apos) (e::es) [] cpos) (tBM K T r to t):=hK▸pe_bm pa slot hty hm ho ha hbase hfew hline hs hplain
omit hK
end
structure Cal (P:Program) (w:World) (K:PySem.W.Frag) (mg:Str→Option Value) (base:Heap) (x:Str) (k:Nat) (ps:List Str) (sp:Sp) where
 f:Addr
 fd:FuncData
 ok:FnOk P w K mg base CX0 k f fd ps sp
 bi:Binds K fd ps []
 kp:PySem.W.keepIn K (.ref f)=true
 at':mg x=some (.ref f)
section
variable {X:Cx}{k k':Nat}{ps:List Str}{sp:Sp}{x:Str}{p pos:Pos}{e:Expr}{es:List Expr}{t:TA}{ta:TE}
def tCalC (sp:Sp) (t:TA):TE:=fun σ H Q=>t σ H fun vs H1=>sp vs H1 Q E0
theorem pe_cal (G:Cal X.prog X.w X.K X.mg X.base x k ps sp) (hr:Room k' X.A) (hk:k≤k') (hg:Gl X x) (ha:PA X (e::es) t) (hdb:(x==("__debug__":Str))=false:=by decide)
  (he:starEach (e::es) X.env=(false,eval e X.env)::starEach es X.env:=by rfl) (hpl:(backTo pos (starEach es X.env)).any (·.1)=false:=by rfl) :
  PE X (.Call (.Name x p) (e::es) [] pos) (tCalC sp t):=by
 intro pins s σ H Q I h
 refine wpAny_Call_Name_kw (ld_glob I hg G.at' ?_ hdb)
 refine PySem.W.callWith_K (h₀:=X.base) I.ok.mod.kin G.kp (thn (ha pos pins s σ H _ I h) fun us s1 ⟨vs,H1,I1,r,q⟩=>⟨I1.kIn,?_⟩) he hpl
 refine run_fn (dvs:=[]) (ds:=[]) G.ok (hr.mono hk) G.bi .nil pass0 I1 r ?_
 rw [List.append_nil]
 exact q
end
section
variable {σ:St}{H:Hp}{Q:VK}{v:V}{D:Ends}{ts:TA}{te ta:TE}{QS:St→Hp→Prop}{R:It→Hp→Prop}
theorem atI_lt {α:Type}{xs:List α}{i:Int} (h0:0≤i) (h1:i < xs.length):∃v,atI xs i=some v∧xs[i.toNat]?=some v:=by
 have hk:i.toNat < xs.length:=by omega
 have q:atI xs ((i.toNat:Nat):Int)=some xs[i.toNat]:=atI_nat (by rw [List.getElem?_eq_getElem hk])
 have e:((i.toNat:Nat):Int)=i:=by omega
 rw [e] at q
 exact⟨_,q,by rw [List.getElem?_eq_getElem hk]⟩
theorem mul_l {i j:Int} (h1:-18446744073709551616 < i) (h2:i < 18446744073709551616):IntMulOk i j:=CMul.ok (.inl ⟨h1,h2⟩)
theorem mul_r {i j:Int} (h1:-18446744073709551616 < j) (h2:j < 18446744073709551616):IntMulOk i j:=CMul.ok (.inr ⟨h1,h2⟩)
end
theorem small' {n:Nat} (h:n≤1000):n≤sizeLine:=Nat.le_of_lt (small1000 h)
end L2
set_option Elab.async false
set_option linter.all false
set_option maxRecDepth 100000
set_option Elab.async false
set_option linter.all false
set_option maxRecDepth 100000
namespace L2
open PySem PySem.Spec PyProof.Rows
section
variable {X:Cx} (K:PySem.W.Frag) (hK:X.K=K) {pos:Pos}
include hK
def rEqNil (K:PySem.W.Frag):R2:=fun x y H Q=>∃p q xs,x=.ref p∧y=.ref q∧SqL K H p xs∧SqL K H q []∧Q (.bl xs.isEmpty) H
theorem op_eq_nilk (hu:X.A.units < cLine):OpR X (compareOp .Eq) (rEqNil K):=by
 subst hK
 intro pins s σ H x y v u Q I rx ry h
 obtain⟨p,q,xs,rfl,rfl,hp,hq,k⟩:=h
 cases rx
 cases ry
 obtain⟨its,r,pl,hz⟩:=I.list hp
 obtain⟨its2,r2,pl2,hz2⟩:=I.list hq
 cases r2
 cases xs with
 | nil=>
  cases r
  refine EqBoolInt.of_rc (SeqAt.RcAt.lists (e:=fun _=>true) pl.isList pl2.isList rfl hu fun j h1=>absurd h1 (by simp)) ?_
  exact⟨.bl true,H,I,rfl,k⟩
 | cons y ys=>
  have hl:=r.length
  refine EqBoolInt.of_rc (SeqAt.RcAt.lists_lengths pl.isList pl2.isList (by simp at hl ⊢;intro z;subst z;simp at hl) hu) ?_
  exact⟨.bl false,H,I,rfl,k⟩
omit hK
end
end L2
set_option Elab.async false
set_option linter.all false
set_option maxRecDepth 100000
namespace L2
open PySem PySem.Spec PyProof.Rows
theorem Vals.reverse':∀{xs:List V}{us:List Value},Vals xs us→Vals xs.reverse us.reverse
 | _,_,.nil=>.nil
 | _,_,.cons h t=>by rw [List.reverse_cons,List.reverse_cons];exact (Vals.reverse' t).append (.cons h .nil)
theorem lk_len:typeLookup (.type "list_reverseiterator") (Str.ofString "__len__")=pure none:=by kernel_rfl
theorem lk_hint:typeLookup (.type "list_reverseiterator") (Str.ofString "__length_hint__")=pure (some (.builtin "list_reverseiterator.__length_hint__")):=by kernel_rfl
theorem sp_hint:splitId "list_reverseiterator.__length_hint__"=some ("list_reverseiterator","__length_hint__"):=by kernel_rfl
theorem sub_rev:isSubtype (.type "list_reverseiterator") (.type "list_reverseiterator")=pure true:=by kernel_rfl
theorem hint_rev {prog:Program}{w:World}{A:Around}{E:Value→Shared→Prop}{s:Shared}{r l:Addr}{i:Int}{Q:Bool→Shared→Prop} (h:s.heap.IsRevIter r l i) (q:Q false s):wpAny (model prog w) A (Builtin.List.listLengthHint (Value.ref r)) Q E s:=by
 unfold Builtin.List.listLengthHint
 refine wpAny_bind (wpAny_specialOf h.typeIs lk_len ?_)
 refine wpAny_bind (wpAny_specialOf h.typeIs lk_hint ?_)
 dsimp only
 rw [sp_hint]
 dsimp only
 refine wpAny_bind (wpAny_isInstance h.typeIs sub_rev ?_)
 rw [if_neg (by decide)]
 rw [if_pos (by decide)]
 rw [if_neg (by decide)]
 exact wpAny_pure q
theorem list_init_rev {prog:Program}{w:World}{A:Around}{s:Shared}{R:Result→Shared→Prop}{r l S:Addr}{items:Array Value} (hA:A.handled=none) (h:s.heap.IsRevIter r l (items.size-1)) (hl:s.heap.IsList l items) (hne:l≠r) (hSr:S≠r) (hSl:S≠l) (hz:items.size≤sizeLine)
  (hS:s.heap.get? S=some {cls:=Value.type "list",data:=Data.seq #[]})
  (q:∀(h':Heap) (tk:Nat) (acc:Array Value) (c:Nat),(∀b o,b≠S→b≠r→s.heap.get? b=some o→h'.get? b=some o)→h'.get? S=some {cls:=Value.type "list",data:=Data.seq acc c}→ItemsOf (fun i v=>items[items.size-1-i]?=some v) acc items.size→R (.ok (.ret .none)) {s with heap:=h',toks:=tk}) :
  wpAny (model prog w) A.in1 (Builtin.«list.__init__» {pos:=[Value.ref S,Value.ref r]})
   (fun fin s'=>match fin with | Fin.done f=>R (Except.ok f) s' | Fin.again c'=>c'.quiet=true∧codeAny (model prog w) A c' R s') (fun e s'=>R (Except.error e) s') s:=by
 unfold Builtin.«list.__init__»
 dsimp only
 rw [if_neg (by decide),if_neg (by simp)]
 refine wpAny_bind (wpAny_listItems hS rfl ?_)
 refine wpAny_bind ?_
 unfold Builtin.List.listUpdate
 dsimp only
 refine wpAny_updateSeq hS rfl ?_ (by simp) (by simp)
 refine wpAny_bind (wpAny_letGo ?_)
 have k1:∀b o,b≠S→s.heap.get? b=some o→(s.heap.update S (Obj.mapSeq fun _=>#[])).get? b=some o:=fun b o hb e=>by rw [Heap.get?_update_other _ _ (Ne.symm hb)];exact e
 have hS1:=Heap.get?_update_self (Obj.mapSeq fun _=>#[]) hS rfl
 generalize s.heap.update S (Obj.mapSeq fun _=>#[])=h1 at k1 hS1 ⊢
 have hr1:h1.IsRevIter r l (items.size-1):=let ⟨o,e,p⟩:=h;⟨o,k1 _ _ (Ne.symm hSr) e,p⟩
 have hl1:h1.IsList l items:=let ⟨o,e,p⟩:=hl;⟨o,k1 _ _ (Ne.symm hSl) e,p⟩
 unfold Builtin.List.listExtendWith
 refine wpAny_bind (wpAny_typeOf (T:="list_reverseiterator") hr1.typeIs ?_)
 rw [if_neg (by
  have e1:Builtin.List.listSameRef (Value.ref S) (Value.ref r)=false:=by
   unfold Builtin.List.listSameRef
   simpa using hSr
  rw [e1]
  decide)]
 refine wpAny_bind (wpAny_pyIter_revIter hr1 ?_)
 refine wpAny_bind (wpAny_holding (hint_rev hr1 ?_))
 rw [if_neg (by decide)]
 refine wpAny_pure ⟨plainId_quiet F.plain_extend_loop _,?_⟩
 refine codeAny_extend_loopS (Walks.toS (Walks.listRev (A:=A.in1) hA r l hne items)) hz S (by simp [hSr,hSl]) .none items.size 0 _ #[] _ (Nat.sub_zero _) (Nat.zero_le _) ⟨Nat.zero_le _,by simpa using hr1,hl1⟩ hS1 (ItemsOf.nil _) ?_
 intro s' acc c mv e io
 rw [mv.eq_with]
 exact q s'.heap s'.toks acc c (fun b o n1 n2 e'=>mv.heap b o (by simp [n1,n2]) (k1 b o n1 e')) e io
theorem call_list_rev {prog:Program}{w:World}{A:Around}{E:Value→Shared→Prop}{s:Shared}{r l:Addr}{items:Array Value}{Q:Value→Shared→Prop} (hA:A.handled=none) (h:s.heap.IsRevIter r l (items.size-1)) (hl:s.heap.IsList l items) (hne:l≠r) (hz:items.size≤sizeLine)
  (q:∀(h':Heap) (tk:Nat) (acc:Array Value) (c:Nat),(∀b o,b≠r→s.heap.get? b=some o→h'.get? b=some o)→h'.get? s.heap.objs.size=some {cls:=Value.type "list",data:=Data.seq acc c}→ItemsOf (fun i v=>items[items.size-1-i]?=some v) acc items.size→Q (.ref s.heap.objs.size) {s with heap:=h',toks:=tk}) :
  wpAny (model prog w) A (call (Value.type "list") [Value.ref r]) Q E s:=by
 have lr:r < s.heap.objs.size:=let ⟨_,e,_⟩:=h;Heap.lt_size e
 have ll:l < s.heap.objs.size:=let ⟨_,e,_⟩:=hl;Heap.lt_size e
 refine callType_codes F.called_list (F.typeCall_list_1 _) F.entry_list_init (code_list_new (Q₁:=fun v s₁=>v=.ref s.heap.objs.size∧s₁={s with heap:=s.heap.push {cls:=Value.type "list",data:=Data.seq #[]}}) _ ⟨rfl,rfl⟩) ?_
 rintro obj s₁ ⟨rfl,rfl⟩
 refine⟨⟨_,Heap.get?_push_size _ rfl,rfl⟩,F.args_list_init_2 _ _,?_⟩
 have kp:∀b o,s.heap.get? b=some o→(s.heap.push {cls:=Value.type "list",data:=Data.seq #[]}).get? b=some o:=fun b o e=>Heap.get?_push_of_some _ e
 refine list_init_rev (A:=A.in1) (items:=items) (l:=l) hA (let ⟨o,e,p⟩:=h;⟨o,kp _ _ e,p⟩) (let ⟨o,e,p⟩:=hl;⟨o,kp _ _ e,p⟩) hne (fun z=>by rw [z] at lr;exact Nat.lt_irrefl _ lr) (fun z=>by rw [z] at ll;exact Nat.lt_irrefl _ ll) hz (Heap.get?_push_size _ rfl) ?_
 intro h' tk acc c k e io
 exact⟨rfl,q h' tk acc c (fun b o n e'=>k b o (fun z=>by rw [z] at e';exact Nat.lt_irrefl _ (Heap.lt_size e')) n (kp b o e')) e io⟩
def tLR (K:PySem.W.Frag) (te:TE):TE:=fun σ H Q=>te σ H fun x H1=>∃p ys,x=.ref p∧SqL K H1 p ys∧newO H1 (.lst ys.reverse) Q
section
variable {X:Cx} (K:PySem.W.Frag) (hK:X.K=K) {e:Expr}{te:TE}{p1 p2 q1 q2:Pos}
include hK
theorem pe_listrev (hc:X.calm=true) (hg1:Gl X "list") (hm1:X.mg "list"=none) (hg2:Gl X "reversed") (hm2:X.mg "reversed"=none) (he:PE X e te)
  (hs1:starEach [.Call (.Name "reversed" q1) [e] [] q2] X.env=(false,eval (.Call (.Name "reversed" q1) [e] [] q2) X.env)::starEach [] X.env:=by rfl) (hs2:starEach [e] X.env=(false,eval e X.env)::starEach [] X.env:=by rfl) :
  PE X (.Call (.Name "list" p1) [.Call (.Name "reversed" q1) [e] [] q2] [] p2) (tLR K te):=by
 intro pins s σ H Q I h
 subst hK
 refine wpAny_Call_Name_kw (ld_blt I hg1 hm1 boot_list ?_ (by decide) (by decide))
 refine PyProof.Rows.callWith_type1 ?_ hs1 rfl
 rw [hs1]
 show wpAny _ _ (spliced ((false,eval (.Call (.Name "reversed" q1) [e] [] q2) X.env)::backTo p2 (starEach [] X.env))) _ _ s
 refine Calls.spliced_cons ?_
 refine wpAny_Call_Name_kw (ld_blt I hg2 hm2 boot_reversed ?_ (by decide) (by decide))
 refine PyProof.Rows.callWith_type1 ?_ hs2 rfl
 rw [hs2]
 show wpAny _ _ (spliced ((false,eval e X.env)::backTo q2 (starEach [] X.env))) _ _ s
 refine Calls.spliced_cons (thn (he pins s σ H _ I h) fun u s1 ⟨x,H1,I1,r1,pa,ys,ex,hS,q⟩=>Calls.spliced_nil ?_)
 subst ex
 cases r1
 obtain⟨its,rv,pl,hz⟩:=I1.list hS
 have hlen:=rv.length
 have lp:pa < s1.heap.objs.size:=let ⟨_,e,_⟩:=pl.isList;Heap.lt_size e
 refine call_reversed_list pl.isList ?_
 refine Calls.spliced_nil ?_
 have kp:∀b o,s1.heap.get? b=some o→(s1.heap.push (revObj pa (its.toArray.size-1))).get? b=some o:=fun b o e=>Heap.get?_push_of_some _ e
 refine call_list_rev (items:=its.toArray) (l:=pa) (r:=s1.heap.objs.size) (I1.ok.hd hc) ⟨_,Heap.get?_push_size _ rfl,rfl,rfl⟩ (let ⟨o,e,p⟩:=pl.isList;⟨o,kp _ _ e,p⟩) (fun z=>by rw [z] at lp;exact Nat.lt_irrefl _ lp) (by rw [List.size_toArray];omega) ?_
 intro h' tk acc c k e io
 have kk:∀b o,s1.heap.get? b=some o→h'.get? b=some o:=fun b o eb=>k b o (fun z=>by rw [z] at eb;exact Nat.lt_irrefl _ (Heap.lt_size eb)) (kp b o eb)
 have ea:acc=its.reverse.toArray:=by
  obtain⟨z1,z2⟩:=io
  apply Array.ext
  ·rw [z1,List.size_toArray,List.size_toArray,List.length_reverse]
  ·intro j h1 h2
   have:=z2 j acc[j] (Array.getElem?_eq_getElem h1)
   rw [List.size_toArray] at this
   have hj:j < its.length:=by rw [z1,List.size_toArray] at h1;exact h1
   rw [List.getElem?_toArray] at this
   have e3:its.reverse[j]?=some acc[j]:=by rw [List.getElem?_reverse hj];exact this
   rw [List.getElem_toArray]
   exact (Option.some.inj (((List.getElem?_eq_getElem (by rw [List.length_reverse];exact hj)).symm.trans e3))).symm
 subst ea
 have hs2:s1.heap.objs.size≤(s1.heap.push (revObj pa (its.toArray.size-1))).objs.size:=by simp [Heap.push]
 refine⟨.ref _,upd H1 _ (.lst ys.reverse),I1.laid (t':=tk) kk hs2 ?_,rfl,q.at _ (I1.hok.fresh hs2)⟩
 exact⟨by rw [List.length_reverse];exact hz,its.reverse,c,rv.reverse',e⟩
end
end L2
set_option Elab.async false
set_option linter.all false
set_option maxRecDepth 100000
namespace My
open PySem PySem.Spec PyProof.Rows L2
def Wd (x:Str):Prop:=1≤x.length∧x.length≤8∧∀c∈x.cps.toList,97≤c∧c < 123
def Part (x:Str) (n:Nat):Prop:=x.length≤n∧∀c∈x.cps.toList,97≤c∧c < 123
theorem Part.append {x y:Str}{m n:Nat} (a:Part x m) (b:Part y n):Part (x++y) (m+n):=by
 refine⟨?_,fun c hc=>?_⟩
 ·rw [Str.length_append];have:=a.1;have:=b.1;omega
 ·rw [Str.cps_append,Array.toList_append] at hc
  rcases List.mem_append.mp hc with h | h
  ·exact a.2 c h
  ·exact b.2 c h
theorem letters_nodup {d st:Int} (h:st=1∨st=3∨st=5∨st=7∨st=9∨st=11) {n:Nat} (hn:n≤26):((List.range n).map fun k:Nat=>some (97+((d+st*(0+(k:Int))) % 26).toNat)).Nodup:=by
 unfold List.Nodup
 rw [List.pairwise_map]
 refine List.Pairwise.imp_of_mem ?_ List.pairwise_lt_range
 intro a b ha hb hab hz
 have hb':=List.mem_range.mp hb
 have hz':=Option.some.inj hz
 rcases h with rfl | rfl | rfl | rfl | rfl | rfl <;> omega
theorem nodup_of_map {α β:Type}{g:α→β}{l:List α} (h:(l.map g).Nodup):l.Nodup:=(List.pairwise_map.mp h).imp fun h e=>h (congrArg g e)
theorem word_sign (x y:Str) (c:Nat):(x++⟨#[c]⟩++y).cps[x.length]?=some c:=by
 rw [Str.cps_append,Str.cps_append]
 show ((x.cps++#[c])++y.cps)[x.cps.size]?=some c
 rw [Array.getElem?_append_left (by simp),Array.getElem?_append_right (Nat.le_refl _)]
 simp
theorem letter_all:∀k:_root_.Fin 26,atI ("abcdefghijklmnopqrstuvwxyz":Str).cps.toList (k.val:Int)=some (97+k.val):=by decide +kernel
theorem letter_at {n:Int} (h0:0≤n) (h1:n < 26):atI ("abcdefghijklmnopqrstuvwxyz":Str).cps.toList n=some (97+n.toNat):=by
 have e:=letter_all ⟨n.toNat,by omega⟩
 have e2:((n.toNat:Nat):Int)=n:=by omega
 rw [e2] at e
 exact e
theorem one_part {c:Nat} (h0:97≤c) (h1:c < 123):Part ⟨#[c]⟩ 1:=by
 refine⟨Nat.le_refl _,fun d hd=>?_⟩
 have:d=c:=by simpa using hd
 subst this
 exact⟨h0,h1⟩
inductive Tr where
 | leaf (x:Str)
 | node (l r:Tr)
def Tr.leaves:Tr→List Str
 | .leaf x=>[x]
 | .node l r=>l.leaves++r.leaves
def Tr.size:Tr→Nat
 | .leaf _=>1
 | .node l r=>l.size+r.size+1
def Tr.depth:Tr→Nat
 | .leaf _=>0
 | .node l r=>max l.depth r.depth+1
def Tr.Ws (t:Tr):Prop:=∀x∈t.leaves,Wd x
theorem Tr.leaves_pos:∀t:Tr,1≤t.leaves.length
 | .leaf _=>Nat.le_refl _
 | .node l r=>by have:=l.leaves_pos;show 1≤(l.leaves++r.leaves).length;rw [List.length_append];omega
theorem Tr.depth_lt:∀t:Tr,t.depth < t.leaves.length
 | .leaf _=>Nat.lt_succ_self 0
 | .node l r=>by
  have h1:=l.depth_lt;have h2:=r.depth_lt;have h3:=l.leaves_pos;have h4:=r.leaves_pos
  show max l.depth r.depth+1 < (l.leaves++r.leaves).length
  rw [List.length_append];omega
theorem Tr.size_eq:∀t:Tr,t.size+1=2*t.leaves.length
 | .leaf _=>rfl
 | .node l r=>by
  have h1:=l.size_eq;have h2:=r.size_eq
  show l.size+r.size+1+1=2*(l.leaves++r.leaves).length
  rw [List.length_append];omega
def sizes (ts:List Tr):Nat:=(ts.map Tr.size).sum
theorem sizes_append (a b:List Tr):sizes (a++b)=sizes a+sizes b:=by unfold sizes;rw [List.map_append,List.sum_append]
theorem sizes_one (t:Tr):sizes [t]=t.size:=by simp [sizes]
theorem Tr.size_pos:∀t:Tr,1≤t.size
 | .leaf _=>Nat.le_refl _
 | .node l r=>by show 1≤l.size+r.size+1;omega
theorem len_sizes:∀ts:List Tr,ts.length≤sizes ts
 | []=>Nat.le_refl _
 | t::r=>by have:=len_sizes r;have:=t.size_pos;show r.length+1≤t.size+sizes r;omega
end My
set_option Elab.async false
set_option linter.all false
set_option maxRecDepth 100000
set_option Elab.async false
set_option linter.all false
set_option maxRecDepth 100000
set_option Elab.async false
set_option linter.all false
set_option maxRecDepth 100000
set_option Elab.async false
set_option linter.all false
set_option maxRecDepth 100000
namespace My
open PySem PySem.Spec PyProof.Rows L2
def Tr.post:Tr→List Tr
 | .leaf x=>[.leaf x]
 | .node l r=>l.post++r.post++[.node l r]
theorem Tr.post_len:∀t:Tr,t.post.length=t.size
 | .leaf _=>rfl
 | .node l r=>by show (l.post++r.post++[_]).length=l.size+r.size+1;rw [List.length_append,List.length_append,l.post_len,r.post_len];rfl
def posts (ts:List Tr):List Tr:=(ts.map Tr.post).flatten
theorem posts_append (a b:List Tr):posts (a++b)=posts a++posts b:=by unfold posts;rw [List.map_append,List.flatten_append]
theorem posts_one (t:Tr):posts [t]=t.post:=by simp [posts]
theorem posts_two (t u:Tr):posts [t,u]=t.post++u.post:=by simp [posts]
inductive Ent where
 | word (x:Str)
 | pair (a b:Nat)
def Tr.nd:Tr→Nat→List Ent
 | .leaf x,_=>[.word x]
 | .node l r,o=>l.nd o++r.nd (o+l.size)++[.pair (o+l.size-1) (o+l.size+r.size-1)]
theorem Tr.nd_len:∀(t:Tr) (o:Nat),(t.nd o).length=t.size
 | .leaf _,_=>rfl
 | .node l r,o=>by show (l.nd o++r.nd (o+l.size)++[_]).length=l.size+r.size+1;rw [List.length_append,List.length_append,l.nd_len,r.nd_len];rfl
def run:List Tr→List Ent→List Nat→Option (List Ent×List Nat)
 | [],told,ls=>some (told,ls)
 | .leaf x::k,told,ls=>run k (told++[.word x]) (told.length::ls)
 | .node _ _::k,told,b::a::ls=>run k (told++[.pair a b]) (told.length::ls)
 | .node _ _::_,_,_=>none
theorem run_post:∀(t:Tr) (k:List Tr) (told:List Ent) (ls:List Nat),run (t.post++k) told ls=run k (told++t.nd told.length) ((told.length+t.size-1)::ls)
 | .leaf x,k,told,ls=>rfl
 | .node l r,k,told,ls=>by
  have e1:(Tr.node l r).post++k=l.post++(r.post++(Tr.node l r::k)):=by show l.post++r.post++[_]++k=_;simp
  rw [e1,run_post l,run_post r]
  have e2:(told++l.nd told.length).length=told.length+l.size:=by rw [List.length_append,l.nd_len]
  rw [e2]
  show run k _ _=run k _ _
  have e3:(told++l.nd told.length++r.nd (told.length+l.size)).length=told.length+(Tr.node l r).size-1:=by
   rw [List.length_append,List.length_append,l.nd_len,r.nd_len];show _=told.length+(l.size+r.size+1)-1;omega
  rw [e3]
  have e4:told++(Tr.node l r).nd told.length=told++l.nd told.length++r.nd (told.length+l.size)++[.pair (told.length+l.size-1) (told.length+l.size+r.size-1)]:=by
   show told++(l.nd told.length++r.nd (told.length+l.size)++[_])=_
   simp
  rw [e4]
theorem run_whole (t:Tr):run t.post [] []=some (t.nd 0,[t.size-1]):=by
 have:=run_post t [] [] []
 rw [List.append_nil] at this
 rw [this]
 show some ([]++t.nd 0,[0+t.size-1])=_
 simp
end My
set_option Elab.async false
set_option linter.all false
set_option maxRecDepth 100000
namespace L2
open PySem PySem.Spec PyProof.Rows
theorem nextOf_tuple_item {prog:Program}{w:World}{A:Around}{E:Value→Shared→Prop}{s:Shared}{it t:Addr}{i:Nat}{items:Array Value}{x:Value}{Q:Value→Shared→Prop} (h:s.heap.IsTupleIter it t i) (ht:s.heap.IsTuple t items) (hx:items[i]?=some x)
  (q:∀h':Heap,h'.IsTupleIter it t (i+1)→Heap.SameBut it s.heap h'→Q x {s with heap:=h'}):wpAny (model prog w) A (Builtin.SmallTypes.nextOf (.ref it)) Q E s:=by
 unfold Builtin.SmallTypes.nextOf
 refine wpAny_bind (wpAny_callSpecial?_slot h.typeIs F.slot_tuple_iterator_next (wpAny_call_entry F.slot_tuple_iterator_next h.typeIs F.entry_tuple_iterator_next ?_ (F.args_tuple_iterator_next_1 _)))
 obtain⟨o,ho,hc,hd⟩:=id h
 obtain⟨ot,hot,htc,n,htd⟩:=id ht
 show wpAny _ _ (field (.ref it) 0 >>= fun seq=>_) _ _ s
 refine wpAny_bind (wpAny_field ho hd rfl ?_)
 show wpAny _ _ (field (.ref it) 1 >>= fun seq=>_) _ _ s
 refine wpAny_bind (wpAny_field ho hd rfl ?_)
 show wpAny _ _ (seqItems? (.ref t) >>= fun seq=>_) _ _ s
 refine wpAny_bind (wpAny_seqItems hot htd ?_)
 show wpAny _ _ (match items[i]? with | some x=>(do setField (.ref it) 1 (rawInt ((i:Int)+1));ret x) | none=>_) _ _ s
 rw [hx]
 refine wpAny_bind (wpAny_setField ho hd (show 1 < 2 by decide) ?_)
 refine wpAny_pure ⟨x,rfl,wpAny_pure (q _ ⟨_,Heap.get?_update_self _ ho (by rw [Obj.isFreed_of_fields (Obj.data_mapFields hd _)]),by rw [Obj.cls_mapFields];exact hc,by rw [Obj.data_mapFields hd];rfl⟩ (Heap.SameBut.update ..))⟩
theorem stop_it {prog:Program}{w:World}{A:Around}{E:Value→Shared→Prop}{s:Shared}{α:Type}{Q:α→Shared→Prop} (hA:A.handled=none)
  (q:∀(h':Heap) (e:Addr),(∀b o,s.heap.get? b=some o→h'.get? b=some o)→(∃o,h'.get? e=some o∧o.cls=.type "StopIteration")→E (.ref e) {s with heap:=h'}):wpAny (model prog w) A (Builtin.SmallTypes.stopIteration (α:=α)) Q E s:=by
 unfold Builtin.SmallTypes.stopIteration newExc
 refine wpAny_bind ?_
 refine wpAny_bind (wpAny_newTuple ?_ (by show 0≤sizeLine;decide))
 refine wpAny_bind (wpAny_of_eq (a:=Value.none) rfl ?_)
 refine wpAny_newObj_type ?_ (sizeOk_excFields ..)
 unfold raiseNew
 refine wpAny_bind (wpAny_handled ?_)
 rw [hA]
 refine wpAny_throw (q _ _ (fun b o e=>Heap.get?_push_of_some _ (Heap.get?_push_of_some _ e)) ⟨_,Heap.get?_push_size _ rfl,rfl⟩)
theorem nextOf_tuple_end {prog:Program}{w:World}{A:Around}{E:Value→Shared→Prop}{s:Shared}{it t:Addr}{i:Nat}{items:Array Value}{Q:Value→Shared→Prop} (hA:A.handled=none) (h:s.heap.IsTupleIter it t i) (ht:s.heap.IsTuple t items) (hx:items[i]?=none)
  (q:∀(h':Heap) (e:Addr),Heap.ExtBut it s.heap h'→(∃o,h'.get? e=some o∧o.cls=.type "StopIteration")→E (.ref e) {s with heap:=h'}):wpAny (model prog w) A (Builtin.SmallTypes.nextOf (.ref it)) Q E s:=by
 unfold Builtin.SmallTypes.nextOf
 refine wpAny_bind (wpAny_callSpecial?_slot h.typeIs F.slot_tuple_iterator_next (wpAny_call_entry F.slot_tuple_iterator_next h.typeIs F.entry_tuple_iterator_next ?_ (F.args_tuple_iterator_next_1 _)))
 obtain⟨o,ho,hc,hd⟩:=id h
 obtain⟨ot,hot,htc,n,htd⟩:=id ht
 show wpAny _ _ (field (.ref it) 0 >>= fun seq=>_) _ _ s
 refine wpAny_bind (wpAny_field ho hd rfl ?_)
 show wpAny _ _ (field (.ref it) 1 >>= fun seq=>_) _ _ s
 refine wpAny_bind (wpAny_field ho hd rfl ?_)
 show wpAny _ _ (seqItems? (.ref t) >>= fun seq=>_) _ _ s
 refine wpAny_bind (wpAny_seqItems hot htd ?_)
 show wpAny _ _ (match items[i]? with | some x=>(do setField (.ref it) 1 (rawInt ((i:Int)+1));ret x) | none=>(do rule _;setField (.ref it) 0 .none;Builtin.SmallTypes.stopIteration)) _ _ s
 rw [hx]
 refine wpAny_bind (wpAny_rule ?_)
 refine wpAny_bind (wpAny_setField ho hd (show 0 < 2 by decide) ?_)
 refine stop_it (A:=A.in1) hA fun h' e k ex=>q h' e (fun b o n eb=>k b o ?_) ex
 rw [(Heap.SameBut.update _ _ _).2 b n]
 exact eb
theorem Inv.turnLaid {X:Cx}{pins:List (Addr×Obj)}{σ:L2.St}{H:Hp}{s:Shared}{h':Heap}{t':Nat}{ch:List Addr}{a:Addr}{o:HO} (I:Inv X pins σ H s) (hf:∀b∈ch,FpOk X pins H b) (k:∀b u,b∉ch→s.heap.get? b=some u→h'.get? b=some u)
  (hp:s.heap.objs.size≤a) (new:ObjOk X.prog X.w (upd H a o) h' a o):Inv X pins σ (upd H a o) {s with heap:=h',toks:=t'}:=by
 have hn:=I.hok.fresh hp
 have nit:∀b u,H b=some u→b∉ch:=fun b u e z=>by rw [(hf b z).1] at e;cases e
 have nL:X.env.locals∉ch:=fun z=>(hf _ z).2.1 rfl
 refine I.step (g':=s.gens) (d':=s.drawn) (ch:=ch) (fun b hb=>⟨(hf b hb).2.2.2.1,(hf b hb).2.1,(hf b hb).2.2.2.2.1,(hf b hb).2.2.2.2.2⟩) (fun b u _ _ hc e _=>k b u hc e) (fun b u _ _ hc e _=>⟨u.slots,k b u hc e⟩)
  (fun b u _ e n=>by rw [upd_ne (Nat.ne_of_lt (Nat.lt_of_lt_of_le (Heap.lt_size e) hp))];exact n) (fun b u hc e=>⟨u,k b u hc e⟩) (fun b xs e=>by rw [upd_ne (ne_of_none e hn)];exact e) (fun b u xs e=>by rw [upd_ne (ne_of_none e hn)];exact e)
  (fun b ps e=>⟨#[],by rw [upd_ne (ne_of_none e hn),e];simp⟩) (fun m hm=>?_) (fun b u e=>?_) I.bare
 ·obtain⟨o',es,ep,ho,r⟩:=hm
  exact⟨o',es,ep,k _ o' nL ho,r⟩
 ·by_cases hb:b=a
  ·subst hb;rw [upd_same] at e;cases e;exact new
  ·rw [upd_ne hb] at e
   refine (I.hok b u e).stay (fun c v hc q=>k c v ?_ q) (fun c q=>by rw [upd_ne (ne_of_none q hn)];exact q) fun c xs q=>by rw [upd_ne (ne_of_none q hn)];exact q
   rcases hc with z | z
   ·rw [z];exact nit b u e
   ·exact nit c _ z
theorem Inv.turnedN {X:Cx}{pins:List (Addr×Obj)}{σ:L2.St}{H:Hp}{s:Shared}{h':Heap}{t':Nat}{ch:List Addr} (I:Inv X pins σ H s) (hf:∀b∈ch,FpOk X pins H b) (k:∀b u,b∉ch→s.heap.get? b=some u→h'.get? b=some u) :
  Inv X pins σ H {s with heap:=h',toks:=t'}:=by
 have nit:∀b u,H b=some u→b∉ch:=fun b u e z=>by rw [(hf b z).1] at e;cases e
 have nL:X.env.locals∉ch:=fun z=>(hf _ z).2.1 rfl
 refine I.step (g':=s.gens) (d':=s.drawn) (ch:=ch) (fun b hb=>⟨(hf b hb).2.2.2.1,(hf b hb).2.1,(hf b hb).2.2.2.2.1,(hf b hb).2.2.2.2.2⟩) (fun b u _ _ hc e _=>k b u hc e) (fun b u _ _ hc e _=>⟨u.slots,k b u hc e⟩)
  (fun _ _ _ _ n=>n) (fun b u hc e=>⟨u,k b u hc e⟩) (fun _ _ e=>e) (fun _ _ _ e=>e) (fun b ps e=>⟨#[],by rw [e];simp⟩) (fun m hm=>?_) (fun b u e=>?_) I.bare
 ·obtain⟨o',es,ep,ho,r⟩:=hm
  exact⟨o',es,ep,k _ o' nL ho,r⟩
 ·refine (I.hok b u e).stay (fun c v hc q=>k c v ?_ q) (fun _ q=>q) fun _ _ q=>q
  rcases hc with z | z
  ·rw [z];exact nit b u e
  ·exact nit c _ z
theorem vals_get {xs:List V}{us:List Value} (h:Vals xs us):∀{i:Nat}{x:V},xs[i]?=some x→∃u,us[i]?=some u∧RelV x u:=by
 induction h with
 | nil=>intro i x e;simp at e
 | cons r t ih=>
  intro i x e
  cases i with
  | zero=>simp at e;subst e;exact⟨_,rfl,r⟩
  | succ i=>exact ih (by simpa using e)
end L2
set_option Elab.async false
set_option linter.all false
set_option maxRecDepth 100000
set_option Elab.async false
set_option linter.all false
set_option maxRecDepth 100000
namespace L2
open PySem PySem.Spec PyProof.Rows
theorem enum_next_itemT {prog:Program}{w:World}{A:Around}{E:Value→Shared→Prop}{s:Shared}{e it t:Addr}{i:Nat}{old:Value}{items:Array Value}{x:Value}{Q:Value→Shared→Prop} (hei:e≠it) (hte:t≠e) (hti:t≠it)
  (hz:IsEnum s.heap e it i old) (hi:s.heap.IsTupleIter it t i) (ht:s.heap.IsTuple t items) (hx:items[i]?=some x)
  (q:∀(h':Heap) (tk:Nat),IsEnumOut h' e it (i+1:Nat) x s.heap.objs.size→h'.IsTupleIter it t (i+1)→IsPair h' s.heap.objs.size (.int i s.toks) x→(∀c o,c≠e→c≠it→s.heap.get? c=some o→h'.get? c=some o)→Q (.ref s.heap.objs.size) {s with heap:=h',toks:=tk}) :
  wpAny (model prog w) A (Builtin.«enumerate.__next__» {pos:=[.ref e]}) (fun fin s'=>∃v,fin=Fin.done (Flow.ret v)∧Q v s') E s:=by
 show wpAny _ _ (field (.ref e) 2 >>= fun r=>_) _ _ s
 refine wpAny_bind (wpAny_field hz rfl rfl ?_)
 show wpAny _ _ (Builtin.SmallTypes.nextOf (.ref it) >>= fun r=>_) _ _ s
 refine wpAny_bind (nextOf_tuple_item hi ht hx fun h1 j1 b1=>?_)
 have z1:IsEnum h1 e it i old:=(b1.2 _ hei).trans hz
 refine wpAny_bind (wpAny_field z1 rfl rfl ?_)
 show wpAny _ _ (field (.ref e) 4 >>= fun r=>_) _ _ _
 refine wpAny_bind (wpAny_field z1 rfl rfl ?_)
 show wpAny _ _ (mkInt i >>= fun r=>_) _ _ _
 refine wpAny_bind (wpAny_mkInt ?_)
 refine wpAny_bind (wpAny_setField_rec z1 (show 3 < 6 by decide) fun h2 z2 b2=>?_)
 refine wpAny_bind (wpAny_setField_rec z2 (show 4 < 6 by decide) fun h3 z3 b3=>?_)
 have sz3:h3.objs.size=s.heap.objs.size:=b3.1.trans (b2.1.trans b1.1)
 have get3:∀b,b≠e→b≠it→h3.get? b=s.heap.get? b:=fun b n1 n2=>(b3.2 b n1).trans ((b2.2 b n1).trans (b1.2 b n2))
 refine wpAny_bind (wpAny_newTuple ?_ (by show 2≤sizeLine;decide))
 have kp:∀b o,h3.get? b=some o→(h3.push {cls:=.type "tuple",data:=.seq [Value.int i s.toks,x].toArray}).get? b=some o:=fun b o e=>Heap.get?_push_of_some _ e
 have new4:(h3.push {cls:=.type "tuple",data:=.seq [Value.int i s.toks,x].toArray}).get? h3.objs.size=some {cls:=.type "tuple",data:=.seq #[.int i s.toks,x]}:=Heap.get?_push_size _ rfl
 generalize h3.push {cls:=.type "tuple",data:=.seq [Value.int i s.toks,x].toArray}=h4 at kp new4 ⊢
 have z4:h4.get? e=some {cls:=.type "enumerate",data:=.fields #[.none,.bool false,.ref it,rawInt (i+1),.none,old]}:=kp _ _ z3
 refine wpAny_bind ?_
 unfold Builtin.SmallTypes.ownedTupleIsFree
 refine wpAny_bind (wpAny_field z4 rfl rfl ?_)
 refine wpAny_pure ?_
 show wpAny _ _ (rule "enumerate.__next__.owned-tuple-again" >>= fun r=>_) _ _ _
 refine wpAny_bind (wpAny_rule ?_)
 refine wpAny_bind (wpAny_field z4 rfl rfl ?_)
 refine wpAny_bind (wpAny_setField_rec z4 (show 5 < 6 by decide) fun h5 z5 b5=>?_)
 refine wpAny_bind ?_
 show wpAny _ _ (setField (.ref e) 0 (rawInt h3.objs.size) >>= fun _=>setField (.ref e) 1 (.bool false)) _ _ _
 refine wpAny_bind (wpAny_setField_rec z5 (show 0 < 6 by decide) fun h6 z6 b6=>?_)
 refine wpAny_setField_rec z6 (show 1 < 6 by decide) fun h7 z7 b7=>?_
 refine wpAny_bind (wpAny_letGo ?_)
 have get7:∀b,b≠e→h7.get? b=h4.get? b:=fun b n=>(b7.2 b n).trans ((b6.2 b n).trans (b5.2 b n))
 have ne:s.heap.objs.size≠e:=fun z=>by have:=Heap.lt_size hz;rw [← z] at this;exact Nat.lt_irrefl _ this
 refine wpAny_pure ⟨.ref h3.objs.size,rfl,?_⟩
 rw [sz3] at z7 new4 ⊢
 refine q h7 _ ?_ ?_ ?_ ?_
 ·exact z7
 ·obtain⟨o,eo,p⟩:=j1
  refine⟨o,?_,p⟩
  rw [get7 _ (Ne.symm hei)]
  exact kp _ _ ((b3.2 _ (Ne.symm hei)).trans ((b2.2 _ (Ne.symm hei)).trans eo))
 ·rw [IsPair,get7 _ ne];exact new4
 ·intro c o n1 n2 ec
  rw [get7 _ n1]
  exact kp _ _ ((get3 _ n1 n2).trans ec)
theorem enum_next_endT {prog:Program}{w:World}{A:Around}{E:Value→Shared→Prop}{s:Shared}{e it t:Addr}{i:Nat}{old:Value}{items:Array Value}{Q:PySem.Fin→Shared→Prop} (hA:A.handled=none)
  (hz:IsEnum s.heap e it i old) (hi:s.heap.IsTupleIter it t i) (ht:s.heap.IsTuple t items) (hx:items[i]?=none)
  (q:∀(h':Heap) (x:Addr),(∀c o,c≠it→s.heap.get? c=some o→h'.get? c=some o)→(∃o,h'.get? x=some o∧o.cls=.type "StopIteration")→E (.ref x) {s with heap:=h'}) :
  wpAny (model prog w) A (Builtin.«enumerate.__next__» {pos:=[.ref e]}) Q E s:=by
 show wpAny _ _ (field (.ref e) 2 >>= fun r=>_) _ _ s
 refine wpAny_bind (wpAny_field hz rfl rfl ?_)
 show wpAny _ _ (Builtin.SmallTypes.nextOf (.ref it) >>= fun r=>_) _ _ s
 exact wpAny_bind (nextOf_tuple_end hA hi ht hx fun h' x k ex=>q h' x (fun c o n e'=>k c o n e') ex)
theorem pyNext_enum_itemT {prog:Program}{w:World}{A:Around}{E:Value→Shared→Prop}{s:Shared}{e it t:Addr}{i:Nat}{old:Value}{items:Array Value}{x:Value}{Q:Option Value→Shared→Prop} (hei:e≠it) (hte:t≠e) (hti:t≠it)
  (hz:IsEnum s.heap e it i old) (hi:s.heap.IsTupleIter it t i) (ht:s.heap.IsTuple t items) (hx:items[i]?=some x)
  (q:∀(h':Heap) (tk:Nat),IsEnumOut h' e it (i+1:Nat) x s.heap.objs.size→h'.IsTupleIter it t (i+1)→IsPair h' s.heap.objs.size (.int i s.toks) x→(∀c o,c≠e→c≠it→s.heap.get? c=some o→h'.get? c=some o)→Q (some (.ref s.heap.objs.size)) {s with heap:=h',toks:=tk}) :
  wpAny (model prog w) A (pyNext (.ref e)) Q E s:=by
 have ty:s.TypeIs (.ref e) "enumerate":=⟨_,hz,rfl⟩
 unfold pyNext
 refine wpAny_bind (wpAny_attempt (wpAny_callSpecial?_slot ty F.slot_enumerate_next (wpAny_call_entry F.slot_enumerate_next ty F.entry_enumerate_next ?_ (F.args_enumerate_next_1 _))))
 exact enum_next_itemT hei hte hti hz hi ht hx fun h' tk a b c d=>wpAny_pure (q h' tk a b c d)
theorem pyNext_enum_endT {prog:Program}{w:World}{A:Around}{E:Value→Shared→Prop}{s:Shared}{e it t:Addr}{i:Nat}{old:Value}{items:Array Value}{Q:Option Value→Shared→Prop} (hA:A.handled=none)
  (hz:IsEnum s.heap e it i old) (hi:s.heap.IsTupleIter it t i) (ht:s.heap.IsTuple t items) (hx:items[i]?=none)
  (q:∀h':Heap,(∀c o,c≠it→s.heap.get? c=some o→h'.get? c=some o)→Q none {s with heap:=h'}) :
  wpAny (model prog w) A (pyNext (.ref e)) Q E s:=by
 have ty:s.TypeIs (.ref e) "enumerate":=⟨_,hz,rfl⟩
 unfold pyNext
 refine wpAny_bind (wpAny_attempt (wpAny_callSpecial?_slot ty F.slot_enumerate_next (wpAny_call_entry F.slot_enumerate_next ty F.entry_enumerate_next ?_ (F.args_enumerate_next_1 _))))
 refine enum_next_endT (A:=A.in1) hA hz hi ht hx fun h' x k ex=>?_
 obtain⟨o,eo,hc⟩:=ex
 refine wpAny_bind (wpAny_isInstance (T:="StopIteration") ⟨o,eo,hc⟩ isSubtype_stop ?_)
 rw [if_pos rfl]
 exact wpAny_pure (q h' k)
theorem meets_enum_newT (t:Addr) (items:Array Value):Meets (Builtin.«enumerate.__new__» {pos:=[.type "enumerate",.ref t]}) (fun _ R s=>s.heap.IsTuple t items∧
  ∀h':Heap,IsEnum h' (s.heap.objs.size+1) s.heap.objs.size (0:Nat) .none→h'.IsTupleIter s.heap.objs.size t 0→(∀b o,s.heap.get? b=some o→h'.get? b=some o)→R (.ok (.ret (.ref (s.heap.objs.size+1)))) {s with heap:=h'}):=
 .of_wp fun prog w A R s h=>by
  obtain⟨h1,q⟩:=h
  unfold Builtin.«enumerate.__new__»
  refine wpAny_bind ?_
  unfold Builtin.SmallTypes.newClass
  refine wpAny_bind (wpAny_of_eq (a:=true) rfl ?_)
  rw [if_neg (by decide)]
  refine wpAny_bind (wpAny_of_eq sub_enumerate ?_)
  rw [if_neg (by decide)]
  refine wpAny_pure ?_
  show wpAny _ _ (Builtin.SmallTypes.calledThroughType (.type "enumerate") >>= fun r=>_) _ _ s
  refine wpAny_bind ?_
  unfold Builtin.SmallTypes.calledThroughType
  refine wpAny_bind (wpAny_stack_any fun st=>wpAny_pure ?_)
  have fin:wpAny (model prog w) A.in1 (pyIter (.ref t) >>= fun it=>(Builtin.SmallTypes.newRecord (.type "enumerate") (Builtin.SmallTypes.ownedTupleFields++[it,rawInt 0,.none,.none]) >>= fun r=>ret r)) (fun fin s'=>∃v,fin=Fin.done (Flow.ret v)∧R (Except.ok (Flow.ret v)) s') (fun e s'=>R (Except.error e) s') s:=by
   refine wpAny_bind (wpAny_pyIter_tuple h1 ?_)
   have k1:∀b o,s.heap.get? b=some o→(s.heap.push {cls:=.type "tuple_iterator",data:=.fields #[.ref t,.int 0 0]}).get? b=some o:=fun b o e=>Heap.get?_push_of_some _ e
   have g1:(s.heap.push {cls:=.type "tuple_iterator",data:=.fields #[.ref t,.int 0 0]}).get? s.heap.objs.size=some {cls:=.type "tuple_iterator",data:=.fields #[.ref t,.int 0 0]}:=Heap.get?_push_size _ rfl
   have z1:(s.heap.push {cls:=.type "tuple_iterator",data:=.fields #[.ref t,.int 0 0]}).objs.size=s.heap.objs.size+1:=Heap.size_push ..
   generalize s.heap.push {cls:=.type "tuple_iterator",data:=.fields #[.ref t,.int 0 0]}=hp1 at k1 g1 z1 ⊢
   show wpAny _ _ (newObj (.type "enumerate") (.fields #[.none,.bool false,.ref s.heap.objs.size,rawInt 0,.none,.none]) >>= fun r=>ret r) _ _ _
   refine wpAny_bind (wpAny_newObj_type ?_ (by simp [sizeOk];decide))
   have g2:(hp1.push {cls:=.type "enumerate",data:=.fields #[.none,.bool false,.ref s.heap.objs.size,rawInt 0,.none,.none]}).get? hp1.objs.size=some {cls:=.type "enumerate",data:=.fields #[.none,.bool false,.ref s.heap.objs.size,rawInt 0,.none,.none]}:=Heap.get?_push_size _ rfl
   refine wpAny_pure ⟨.ref hp1.objs.size,rfl,?_⟩
   rw [z1] at g2 ⊢
   exact q _ g2 ⟨_,Heap.get?_push_of_some _ g1,rfl,rfl⟩ fun b o e=>Heap.get?_push_of_some _ (k1 _ _ e)
  dsimp only
  refine wpAny_ite_split (fun _=>?_) (fun _=>?_)
  ·exact wpAny_bind (wpAny_of_eq (a:=(Value.ref t,none)) rfl fin)
  ·exact wpAny_bind (wpAny_of_eq (a:=(Value.ref t,none)) rfl fin)
theorem call_enumT {prog:Program}{w:World}{A:Around}{E:Value→Shared→Prop}{s:Shared}{t:Addr}{items:Array Value}{Q:Value→Shared→Prop} (h1:s.heap.IsTuple t items)
  (q:∀h':Heap,IsEnum h' (s.heap.objs.size+1) s.heap.objs.size (0:Nat) .none→h'.IsTupleIter s.heap.objs.size t 0→(∀b o,s.heap.get? b=some o→h'.get? b=some o)→Q (.ref (s.heap.objs.size+1)) {s with heap:=h'}) :
  wpAny (model prog w) A (call (.type "enumerate") [.ref t]) Q E s:=
 callType_new F.called_enumerate (by decide) (F.typeCall_enumerate_1 _) (F.newCall_enumerate_1 _) (fun o=>F.args_object_init_2 o _) F.entry_enumerate_new (meets_enum_newT t items) ⟨h1,fun h' z i k=>⟨⟨_,z,rfl⟩,q h' z i k⟩⟩
def Ite (K:PySem.W.Frag) (a:Addr):It where
 go:=fun i H=>∃xs x,SqT K H a xs∧xs[i]?=some x
 yld:=fun i H v H'=>∃p x,v=.ref p∧H p=none∧H'=upd H p (.tup [.int i,x])∧∀xs,SqT K H a xs→xs[i]?=some x
 stop:=fun i H=>∃xs,SqT K H a xs∧xs.length≤i
theorem turn_enum {P:Program}{w:World}{K:PySem.W.Frag}{elts:List Expr}{kk:Nat}{pos:Pos}{e it t:Addr} (hei:e≠it) (hte:t≠e) (hti:t≠it):Turn P w K (.Tuple elts kk pos) (Ite K t) [e,it] e (fun i h=>(∃old,IsEnum h e it (i:Nat) old)∧h.IsTupleIter it t i) where
 mem:=by simp
 obj:=fun i h st b hb=>by
  simp only [List.mem_cons,List.not_mem_nil,or_false] at hb
  rcases hb with rfl | rfl
  ·obtain⟨⟨_,e⟩,_⟩:=st;exact⟨_,e,fun v z=>by cases z⟩
  ·obtain⟨_,⟨o,e,_,d⟩⟩:=st;exact⟨o,e,fun v z=>by rw [d] at z;cases z⟩
 keep:=fun i h h' st k=>⟨let ⟨o,e'⟩:=st.1;⟨o,k e (by simp) _ e'⟩,let ⟨o,e',p⟩:=st.2;⟨o,k it (by simp) _ e',p⟩⟩
 item:=by
  intro X hP hw hK hc i pins s σ H E I hf st hg
  subst hP hw hK
  obtain⟨xs,x,hx,gx⟩:=hg
  obtain⟨its,rx,tx,_⟩:=I.tuple hx
  obtain⟨u,gu,ru⟩:=vals_get rx gx
  obtain⟨⟨old,hz⟩,hi⟩:=st
  refine pyNext_enum_itemT hei hte hti hz hi tx (by simpa using gu) fun h' tk zo j np k=>?_
  refine⟨_,rfl,?_⟩
  refine wpAny_letOwnedTupleGo_enum zo fun h2 z2 b2=>?_
  have le:e < s.heap.objs.size:=Heap.lt_size hz
  have li:it < s.heap.objs.size:=let ⟨_,e',_⟩:=hi;Heap.lt_size e'
  have lt:∀b∈[e,it],b < s.heap.objs.size:=fun b hb=>by
   simp only [List.mem_cons,List.not_mem_nil,or_false] at hb
   rcases hb with rfl | rfl
   ·exact le
   ·exact li
  have nz:s.heap.objs.size≠e:=fun z=>Nat.lt_irrefl _ (by have:=le;rw [← z] at this;exact this)
  have kk':∀b o,b∉[e,it]→s.heap.get? b=some o→h2.get? b=some o:=fun b o hb e'=>by
   have hz':b≠e:=fun q=>hb (by simp [q])
   rw [b2.2 b hz']
   exact k b o hz' (fun q=>hb (by simp [q])) e'
  have np2:h2.get? s.heap.objs.size=some {cls:=.type "tuple",data:=.seq #[.int i s.toks,u]}:=(b2.2 _ nz).trans np
  have hfr:=I.hok.fresh (Nat.le_refl s.heap.objs.size)
  refine⟨.ref s.heap.objs.size,upd H s.heap.objs.size (.tup [.int i,x]),I.turnLaid (t':=tk) hf kk' (Nat.le_refl _) ⟨by show 2≤sizeLine;decide,[.int i s.toks,u],.cons ⟨_,rfl⟩ (.cons ru .nil),⟨_,np2,rfl,_,rfl⟩⟩,rfl,⟨_,x,rfl,hfr,rfl,fun xs' h'=>by rw [I.tuple_inj h' hx];exact gx⟩,⟨⟨_,z2⟩,let ⟨o,e',p⟩:=j;⟨o,(b2.2 _ (Ne.symm hei)).trans e',p⟩⟩,fun b hb=>?_⟩
  rw [upd_ne (Nat.ne_of_lt (lt b hb))]
  exact (hf b hb).1
 done:=by
  intro X hP hw hK hc i pins s σ H E I hf st hg
  subst hP hw hK
  obtain⟨xs,hx,hl⟩:=hg
  obtain⟨its,rx,tx,_⟩:=I.tuple hx
  have el:=rx.length
  obtain⟨⟨old,hz⟩,hi⟩:=st
  refine pyNext_enum_endT (I.ok.hd hc) hz hi tx (by simp;omega) fun h' k=>⟨rfl,I.turnedN (t':=s.toks) hf fun b o hb e'=>k b o (fun z=>hb (by simp [z])) e'⟩
 self:=fun A i s Q E st h=>let ⟨_,e'⟩:=st.1;wpAny_pyIter_enum e' h
end L2
set_option Elab.async false
set_option linter.all false
set_option maxRecDepth 100000
set_option Elab.async false
set_option linter.all false
set_option maxRecDepth 100000
namespace My
open PySem PySem.Spec PyProof.Rows L2
def ahS (l:List V) (i:Nat):Ent→List V
 | .word _=>l
 | .pair a b=>(l.set a (.int i)).set b (.int i)
def ah:List Ent→Nat→List V→List V
 | [],_,l=>l
 | e::es,i,l=>ah es (i+1) (ahS l i e)
theorem ah_snoc:∀(es:List Ent) (e:Ent) (i:Nat) (l:List V),ah (es++[e]) i l=ahS (ah es i l) (i+es.length) e
 | [],e,i,l=>rfl
 | x::es,e,i,l=>by
  show ah (es++[e]) (i+1) (ahS l i x)=ahS (ah es (i+1) (ahS l i x)) (i+(es.length+1)) e
  rw [ah_snoc es e]
  congr 1
  omega
theorem ahS_len (l:List V) (i:Nat) (e:Ent):(ahS l i e).length=l.length:=by cases e with
 | word=>rfl
 | pair=>show ((l.set _ _).set _ _).length=_;rw [List.length_set,List.length_set]
theorem ah_len:∀(es:List Ent) (i:Nat) (l:List V),(ah es i l).length=l.length
 | [],_,_=>rfl
 | e::es,i,l=>by show (ah es (i+1) (ahS l i e)).length=_;rw [ah_len es,ahS_len]
end My
set_option Elab.async false
set_option linter.all false
set_option maxRecDepth 100000
namespace L2
open PySem PySem.Spec PyProof.Rows
def rGetP (K:PySem.W.Frag):V→V→Hp→VK→Prop:=fun o i H Q=>∃p xs k x,o=.ref p∧i=.int k∧SqL K H p xs∧0≤k∧k < 1000∧xs[k.toNat]?=some x∧Q x H
theorem get_seqk {X:Cx} (K:PySem.W.Frag) (hK:X.K=K):PGet X (rGetP K):=fun pins s σ H o i ov iv Q I ro ri h=>by
 obtain⟨p,xs,k,x,rfl,rfl,hp,k0,k1,hx,q⟩:=h
 subst hK
 cases ro
 obtain⟨t,rfl⟩:=ri
 obtain⟨its,r,pl,hz⟩:=I.list hp
 obtain⟨u,gu,ru⟩:=vals_get r hx
 exact wpAny_getItem_list pl.isList k0 (by omega) (by simpa using gu) ⟨x,H,I,ru,q⟩
end L2
namespace My
open PySem PySem.Spec PyProof.Rows L2
theorem word_of9 {x y:Str}{c:Nat} (a:Part x 1) (b:Part y 6) (h0:97≤c) (h1:c < 123):Wd (x++⟨#[c]⟩++y):=by
 have q:=(a.append (one_part h0 h1)).append b
 refine⟨?_,q.1,q.2⟩
 rw [Str.length_append,Str.length_append]
 show 1≤x.length+1+y.length
 omega
end My
set_option Elab.async false
set_option linter.all false
set_option maxRecDepth 100000
namespace L2
open PySem PySem.Spec PyProof.Rows
def Itel (K:PySem.W.Frag) (a:Addr):It where
 go:=fun i H=>∃xs x,SqL K H a xs∧xs[i]?=some x
 yld:=fun i H v H'=>∃p x,v=.ref p∧H p=none∧H'=upd H p (.tup [.int i,x])∧∀xs,SqL K H a xs→xs[i]?=some x
 stop:=fun i H=>∃xs,SqL K H a xs∧xs.length≤i
theorem turn_enumL {P:Program}{w:World}{K:PySem.W.Frag}{elts:List Expr}{kk:Nat}{pos:Pos}{e it t:Addr} (hei:e≠it):Turn P w K (.Tuple elts kk pos) (Itel K t) [e,it] e (fun i h=>(∃old,IsEnum h e it (i:Nat) old)∧h.IsListIter it t i) where
 mem:=by simp
 obj:=fun i h st b hb=>by
  simp only [List.mem_cons,List.not_mem_nil,or_false] at hb
  rcases hb with rfl | rfl
  ·obtain⟨⟨_,e⟩,_⟩:=st;exact⟨_,e,fun v z=>by cases z⟩
  ·obtain⟨_,⟨o,e,_,d⟩⟩:=st;exact⟨o,e,fun v z=>by rw [d] at z;cases z⟩
 keep:=fun i h h' st k=>⟨let ⟨o,e'⟩:=st.1;⟨o,k e (by simp) _ e'⟩,let ⟨o,e',p⟩:=st.2;⟨o,k it (by simp) _ e',p⟩⟩
 item:=by
  intro X hP hw hK hc i pins s σ H E I hf st hg
  subst hP hw hK
  obtain⟨xs,x,hx,gx⟩:=hg
  obtain⟨its,rx,tx,_⟩:=I.list hx
  obtain⟨u,gu,ru⟩:=vals_get rx gx
  obtain⟨⟨old,hz⟩,hi⟩:=st
  refine wpAny_pyNext_enum_item hz hi tx.isList (by simpa using gu) hei fun h' zo j np _ k=>?_
  refine⟨_,rfl,?_⟩
  refine wpAny_letOwnedTupleGo_enum zo fun h2 z2 b2=>?_
  have le:e < s.heap.objs.size:=Heap.lt_size hz
  have li:it < s.heap.objs.size:=let ⟨_,e',_⟩:=hi;Heap.lt_size e'
  have lt:∀b∈[e,it],b < s.heap.objs.size:=fun b hb=>by
   simp only [List.mem_cons,List.not_mem_nil,or_false] at hb
   rcases hb with rfl | rfl
   ·exact le
   ·exact li
  have nz:s.heap.objs.size≠e:=fun z=>Nat.lt_irrefl _ (by have:=le;rw [← z] at this;exact this)
  have kk':∀b o,b∉[e,it]→s.heap.get? b=some o→h2.get? b=some o:=fun b o hb e'=>by
   have hz':b≠e:=fun q=>hb (by simp [q])
   rw [b2.2 b hz']
   exact k b o hz' (fun q=>hb (by simp [q])) e'
  have np2:h2.get? s.heap.objs.size=some {cls:=.type "tuple",data:=.seq #[.int i s.toks,u]}:=(b2.2 _ nz).trans np
  have hfr:=I.hok.fresh (Nat.le_refl s.heap.objs.size)
  refine⟨.ref s.heap.objs.size,upd H s.heap.objs.size (.tup [.int i,x]),I.turnLaid (t':=s.toks+1) hf kk' (Nat.le_refl _) ⟨by show 2≤sizeLine;decide,[.int i s.toks,u],.cons ⟨_,rfl⟩ (.cons ru .nil),⟨_,np2,rfl,_,rfl⟩⟩,rfl,⟨_,x,rfl,hfr,rfl,fun xs' h'=>by rw [I.list_inj h' hx];exact gx⟩,⟨⟨_,z2⟩,let ⟨o,e',p⟩:=j;⟨o,(b2.2 _ (Ne.symm hei)).trans e',p⟩⟩,fun b hb=>?_⟩
  rw [upd_ne (Nat.ne_of_lt (lt b hb))]
  exact (hf b hb).1
 done:=by
  intro X hP hw hK hc i pins s σ H E I hf st hg
  subst hP hw hK
  obtain⟨xs,hx,hl⟩:=hg
  obtain⟨its,rx,tx,_⟩:=I.list hx
  have el:=rx.length
  obtain⟨⟨old,hz⟩,hi⟩:=st
  refine wpAny_pyNext_enum_end (I.ok.hd hc) hz hi tx.isList (by simp;omega) fun h' k=>⟨rfl,I.turnedN (t':=s.toks) hf fun b o hb e'=>k b o (fun z=>hb (by simp [z])) e'⟩
 self:=fun A i s Q E st h=>let ⟨_,e'⟩:=st.1;wpAny_pyIter_enum e' h
end L2
set_option Elab.async false
set_option linter.all false
set_option maxRecDepth 100000
namespace My
open PySem PySem.Spec PyProof.Rows L2
def en:Tr→Nat→Nat→Ent
 | .leaf x,_,_=>.word x
 | .node l r,o,j=>if j < l.size then en l o j else if j < l.size+r.size then en r (o+l.size) (j-l.size) else .pair (o+l.size-1) (o+l.size+r.size-1)
def up:Tr→Nat→Nat→List Nat→List Nat
 | .leaf _,o,_,ab=>o::ab
 | .node l r,o,j,ab=>if j < l.size then up l o j ((o+l.size+r.size)::ab) else if j < l.size+r.size then up r (o+l.size) (j-l.size) ((o+l.size+r.size)::ab) else (o+l.size+r.size)::ab
def ahd:Tr→Nat→Nat→V→V
 | .leaf _,_,_,p=>p
 | .node l r,o,j,p=>if j < l.size then ahd l o j (.int (o+l.size+r.size:Nat)) else if j < l.size+r.size then ahd r (o+l.size) (j-l.size) (.int (o+l.size+r.size:Nat)) else p
def be:Tr→Nat→Nat→List Nat
 | .leaf _,o,_=>[o]
 | .node l r,o,j=>if j < l.size then be l o j else if j < l.size+r.size then be r (o+l.size) (j-l.size) else be l o (l.size-1)++be r (o+l.size) (r.size-1)
theorem nd_en:∀(t:Tr) (o j:Nat),j < t.size→(t.nd o)[j]?=some (en t o j)
 | .leaf x,o,j,h=>by
  have:j=0:=by have:j < 1:=h;omega
  subst this;rfl
 | .node l r,o,j,h=>by
  have es:(Tr.node l r).size=l.size+r.size+1:=rfl
  have hn:(Tr.node l r).nd o=l.nd o++r.nd (o+l.size)++[.pair (o+l.size-1) (o+l.size+r.size-1)]:=rfl
  have ln:=l.nd_len o
  have rn:=r.nd_len (o+l.size)
  unfold en
  by_cases c1:j < l.size
  ·rw [if_pos c1,hn,List.append_assoc,List.getElem?_append_left (by omega)];exact nd_en l o j c1
  ·rw [if_neg c1]
   by_cases c2:j < l.size+r.size
   ·rw [if_pos c2,hn,List.append_assoc,List.getElem?_append_right (by omega),List.getElem?_append_left (by omega),ln]
    exact nd_en r _ _ (by omega)
   ·rw [if_neg c2,hn,List.getElem?_append_right (by rw [List.length_append];omega),List.length_append,ln,rn]
    have:j-(l.size+r.size)=0:=by omega
    rw [this];rfl
theorem be_en:∀(t:Tr) (o j:Nat),j < t.size→(∃x,en t o j=.word x∧be t o j=[o+j])∨∃a b,en t o j=.pair (o+a) (o+b)∧a < j∧b < j∧be t o j=be t o a++be t o b
 | .leaf x,o,j,h=>by
  have:j=0:=by have:j < 1:=h;omega
  subst this
  exact .inl ⟨x,rfl,rfl⟩
 | .node l r,o,j,h=>by
  have es:(Tr.node l r).size=l.size+r.size+1:=rfl
  have lp:=l.size_pos
  have rp:=r.size_pos
  by_cases c1:j < l.size
  ·have e1:en (.node l r) o j=en l o j:=by rw [en,if_pos c1]
   have e2:∀k,k < l.size→be (.node l r) o k=be l o k:=fun k hk=>by rw [be,if_pos hk]
   rw [e1]
   rcases be_en l o j c1 with⟨x,q1,q2⟩ | ⟨a,b,q1,q2,q3,q4⟩
   ·exact .inl ⟨x,q1,by rw [e2 j c1];exact q2⟩
   ·exact .inr ⟨a,b,q1,q2,q3,by rw [e2 j c1,e2 a (by omega),e2 b (by omega)];exact q4⟩
  ·by_cases c2:j < l.size+r.size
   ·have e1:en (.node l r) o j=en r (o+l.size) (j-l.size):=by rw [en,if_neg c1,if_pos c2]
    have e2:∀k,k < r.size→be (.node l r) o (l.size+k)=be r (o+l.size) k:=fun k hk=>by
     rw [be,if_neg (by omega),if_pos (by omega)];congr 1;omega
    have ej:j=l.size+(j-l.size):=by omega
    rw [e1]
    rcases be_en r (o+l.size) (j-l.size) (by omega) with⟨x,q1,q2⟩ | ⟨a,b,q1,q2,q3,q4⟩
    ·refine .inl ⟨x,q1,?_⟩
     rw [ej,e2 _ (by omega),q2]
     congr 1;omega
    ·refine .inr ⟨l.size+a,l.size+b,?_,by omega,by omega,?_⟩
     ·rw [q1,Nat.add_assoc,Nat.add_assoc]
     ·rw [e2 a (by omega),e2 b (by omega),ej,e2 _ (by omega),q4]
   ·have ej:j=l.size+r.size:=by omega
    refine .inr ⟨l.size-1,l.size+r.size-1,?_,by omega,by omega,?_⟩
    ·rw [en,if_neg c1,if_neg c2]
     congr 1 <;> omega
    ·rw [be,if_neg c1,if_neg c2,be,if_pos (by omega),be,if_neg (by omega),if_pos (by omega)]
     congr 2;omega
theorem up_ahd:∀(t:Tr) (o j:Nat) (p:V) (ab:List Nat),j < t.size→(j=t.size-1∧ahd t o j p=p∧up t o j ab=(o+j)::ab)∨∃a,j < a∧a < t.size∧ahd t o j p=.int (o+a:Nat)∧up t o j ab=(o+j)::up t o a ab
 | .leaf x,o,j,p,ab,h=>by
  have:j=0:=by have:j < 1:=h;omega
  subst this
  exact .inl ⟨rfl,rfl,rfl⟩
 | .node l r,o,j,p,ab,h=>by
  have es:(Tr.node l r).size=l.size+r.size+1:=rfl
  have lp:=l.size_pos
  have rp:=r.size_pos
  have er:up (.node l r) o (l.size+r.size) ab=(o+l.size+r.size)::ab:=by rw [up,if_neg (by omega),if_neg (by omega)]
  by_cases c1:j < l.size
  ·have e1:ahd (.node l r) o j p=ahd l o j (.int (o+l.size+r.size:Nat)):=by rw [ahd,if_pos c1]
   have e2:∀k,k < l.size→up (.node l r) o k ab=up l o k ((o+l.size+r.size)::ab):=fun k hk=>by rw [up,if_pos hk]
   rw [e1,e2 j c1]
   rcases up_ahd l o j (.int (o+l.size+r.size:Nat)) ((o+l.size+r.size)::ab) c1 with⟨q1,q2,q3⟩ | ⟨a,q1,q2,q3,q4⟩
   ·refine .inr ⟨l.size+r.size,by omega,by omega,by rw [q2,Nat.add_assoc],by rw [q3,er]⟩
   ·exact .inr ⟨a,q1,by omega,q3,by rw [q4,e2 a q2]⟩
  ·by_cases c2:j < l.size+r.size
   ·have e1:ahd (.node l r) o j p=ahd r (o+l.size) (j-l.size) (.int (o+l.size+r.size:Nat)):=by rw [ahd,if_neg c1,if_pos c2]
    have e2:∀k,k < r.size→up (.node l r) o (l.size+k) ab=up r (o+l.size) k ((o+l.size+r.size)::ab):=fun k hk=>by
     rw [up,if_neg (by omega),if_pos (by omega)];congr 1;omega
    obtain⟨i,rfl⟩:∃i,j=l.size+i:=⟨j-l.size,by omega⟩
    have ei:l.size+i-l.size=i:=by omega
    rw [e1,e2 i (by omega),ei]
    rcases up_ahd r (o+l.size) i (.int (o+l.size+r.size:Nat)) ((o+l.size+r.size)::ab) (by omega) with⟨q1,q2,q3⟩ | ⟨a,q1,q2,q3,q4⟩
    ·refine .inr ⟨l.size+r.size,by omega,by omega,by rw [q2,Nat.add_assoc],by rw [q3,er,Nat.add_assoc]⟩
    ·exact .inr ⟨l.size+a,by omega,by omega,by rw [q3,Nat.add_assoc],by rw [q4,e2 a q2,Nat.add_assoc]⟩
   ·have ej:j=l.size+r.size:=by omega
    refine .inl ⟨by omega,by rw [ahd,if_neg c1,if_neg c2],?_⟩
    rw [ej,er,Nat.add_assoc]
def ahs:Tr→Nat→V→List V
 | .leaf _,_,p=>[p]
 | .node l r,o,p=>ahs l o (.int (o+l.size+r.size:Nat))++ahs r (o+l.size) (.int (o+l.size+r.size:Nat))++[p]
theorem ahs_len:∀(t:Tr) (o:Nat) (p:V),(ahs t o p).length=t.size
 | .leaf _,_,_=>rfl
 | .node l r,o,p=>by
  unfold ahs
  rw [List.length_append,List.length_append,ahs_len l,ahs_len r];rfl
theorem ahs_set (t:Tr) (o:Nat) (p q:V) (A B:List V):(A++ahs t o p++B).set (A.length+t.size-1) q=A++ahs t o q++B:=by
 have key:∃I,ahs t o p=I++[p]∧ahs t o q=I++[q]:=by
  cases t with
  | leaf _=>exact⟨[],rfl,rfl⟩
  | node l r=>exact⟨_,rfl,rfl⟩
 obtain⟨I,e1,e2⟩:=key
 have h1:=ahs_len t o p
 rw [e1,List.length_append] at h1
 have h1':I.length+1=t.size:=h1
 rw [e1,e2]
 have ei:A.length+t.size-1=(A++I).length:=by rw [List.length_append];omega
 rw [ei,show A++(I++[p])++B=(A++I)++p::B by simp,List.set_append_right _ _ (Nat.le_refl _),Nat.sub_self]
 simp
theorem ah_app:∀(es fs:List Ent) (i:Nat) (l:List V),ah (es++fs) i l=ah fs (i+es.length) (ah es i l)
 | [],fs,i,l=>rfl
 | e::es,fs,i,l=>by
  show ah (es++fs) (i+1) (ahS l i e)=ah fs (i+(es.length+1)) (ah es (i+1) (ahS l i e))
  rw [ah_app es fs]
  congr 1
  omega
theorem ah_ahs:∀(t:Tr) (A B:List V),ah (t.nd A.length) A.length (A++List.replicate t.size .non++B)=A++ahs t A.length .non++B
 | .leaf x,A,B=>rfl
 | .node l r,A,B=>by
  have es:(Tr.node l r).size=l.size+r.size+1:=rfl
  have lp:=l.size_pos
  have rp:=r.size_pos
  have hn:(Tr.node l r).nd A.length=l.nd A.length++r.nd (A.length+l.size)++[.pair (A.length+l.size-1) (A.length+l.size+r.size-1)]:=rfl
  have ln:=l.nd_len A.length
  have rn:=r.nd_len (A.length+l.size)
  have h1:=ah_ahs l A (List.replicate r.size .non++([V.non]++B))
  have e0:A++List.replicate (Tr.node l r).size V.non++B=A++List.replicate l.size .non++(List.replicate r.size .non++([V.non]++B)):=by
   rw [es,← List.replicate_append_replicate,← List.replicate_append_replicate]
   simp only [List.append_assoc]
   rfl
  rw [hn,ah_snoc,ah_app,e0,h1,ln]
  have la:(A++ahs l A.length V.non).length=A.length+l.size:=by rw [List.length_append,ahs_len]
  have h2:=ah_ahs r (A++ahs l A.length V.non) ([V.non]++B)
  rw [la] at h2
  have e1:A++ahs l A.length V.non++(List.replicate r.size V.non++([V.non]++B))=A++ahs l A.length V.non++List.replicate r.size V.non++([V.non]++B):=by simp [List.append_assoc]
  rw [e1,h2,List.length_append,ln,rn]
  show ((_:List V).set (A.length+l.size-1) _).set (A.length+l.size+r.size-1) _=_
  have s1:=ahs_set l A.length .non (.int (A.length+(l.size+r.size):Nat)) A (ahs r (A.length+l.size) V.non++([V.non]++B))
  have e2:A++ahs l A.length V.non++ahs r (A.length+l.size) V.non++([V.non]++B)=A++ahs l A.length V.non++(ahs r (A.length+l.size) V.non++([V.non]++B)):=by simp [List.append_assoc]
  rw [e2,s1]
  have lb:(A++ahs l A.length (V.int (A.length+(l.size+r.size):Nat))).length=A.length+l.size:=by rw [List.length_append,ahs_len]
  have s2:=ahs_set r (A.length+l.size) .non (.int (A.length+(l.size+r.size):Nat)) (A++ahs l A.length (V.int (A.length+(l.size+r.size):Nat))) ([V.non]++B)
  rw [lb] at s2
  have e3:A++ahs l A.length (V.int (A.length+(l.size+r.size):Nat))++(ahs r (A.length+l.size) V.non++([V.non]++B))=A++ahs l A.length (V.int (A.length+(l.size+r.size):Nat))++ahs r (A.length+l.size) V.non++([V.non]++B):=by simp [List.append_assoc]
  rw [e3,s2]
  have e4:ahs (.node l r) A.length .non=ahs l A.length (.int (A.length+l.size+r.size:Nat))++ahs r (A.length+l.size) (.int (A.length+l.size+r.size:Nat))++[.non]:=rfl
  rw [e4,Nat.add_assoc A.length l.size r.size]
  simp [List.append_assoc]
theorem ahs_get:∀(t:Tr) (o j:Nat) (p:V),j < t.size→(ahs t o p)[j]?=some (ahd t o j p)
 | .leaf x,o,j,p,h=>by
  have:j=0:=by have:j < 1:=h;omega
  subst this;rfl
 | .node l r,o,j,p,h=>by
  have es:(Tr.node l r).size=l.size+r.size+1:=rfl
  have ln:=ahs_len l o (.int (o+l.size+r.size:Nat))
  have rn:=ahs_len r (o+l.size) (.int (o+l.size+r.size:Nat))
  unfold ahs ahd
  by_cases c1:j < l.size
  ·rw [if_pos c1,List.append_assoc,List.getElem?_append_left (by omega)];exact ahs_get l _ _ _ c1
  ·rw [if_neg c1]
   by_cases c2:j < l.size+r.size
   ·rw [if_pos c2,List.append_assoc,List.getElem?_append_right (by omega),List.getElem?_append_left (by omega),ln]
    exact ahs_get r _ _ _ (by omega)
   ·rw [if_neg c2,List.getElem?_append_right (by rw [List.length_append];omega),List.length_append,ln,rn]
    have:j-(l.size+r.size)=0:=by omega
    rw [this];rfl
theorem ah_get (t:Tr) {j:Nat} (h:j < t.size):(ah (t.nd 0) 0 (List.replicate t.size .non))[j]?=some (ahd t 0 j .non):=by
 have q:=ah_ahs t [] []
 have e:([]:List V)++List.replicate t.size .non++[]=List.replicate t.size .non:=by simp
 have e2:([]:List V)++ahs t ([]:List V).length .non++[]=ahs t 0 .non:=by simp
 rw [e,e2] at q
 have q':ah (t.nd 0) 0 (List.replicate t.size .non)=ahs t 0 .non:=q
 rw [q']
 exact ahs_get t 0 j .non h
end My
set_option Elab.async false
set_option linter.all false
set_option maxRecDepth 100000
namespace PL
open PySem PySem.Spec PyProof.Rows L2
variable {K:PySem.W.Frag}
def FzL (K:PySem.W.Frag) (H:Hp) (a:Addr) (xs:List V):Prop:=(∃o,H a=some (.frz o (.lst xs)))∨
  ∃(o:Obj) (its:Array Value) (n:Nat),K.lookup a=some o∧o.cls=.type "list"∧o.dict=none∧o.data=.seq its n∧its.size≤sizeLine∧Vals xs its.toList
theorem FzL.sq {H:Hp}{a:Addr}{xs:List V} (h:FzL K H a xs):SqL K H a xs:=h.elim (fun h=>.inl (.inr h)) .inr
structure TupsK (K:PySem.W.Frag) (H H':Hp):Prop where
 t:∀p vs,H p=some (.tup vs)→H' p=some (.tup vs)
 z:∀p o u,H p=some (.frz o u)→H' p=some (.frz o u)
theorem TupsK.f {H H':Hp} (t:TupsK K H H') (p:Addr) (vs:List V) (h:FzL K H p vs):FzL K H' p vs:=h.elim (fun ⟨o,h⟩=>.inl ⟨o,t.z _ _ _ h⟩) .inr
theorem TupsK.refl (H:Hp):TupsK K H H:=⟨fun _ _ h=>h,fun _ _ _ h=>h⟩
theorem TupsK.trans {H H1 H2:Hp} (a:TupsK K H H1) (b:TupsK K H1 H2):TupsK K H H2:=⟨fun p vs h=>b.t p vs (a.t p vs h),fun p o w h=>b.z p o w (a.z p o w h)⟩
theorem _root_.L2.Same.tupsK {H H':Hp} (s:Same H H'):TupsK K H H':=⟨fun p vs h=>s _ _ h,fun p o u h=>s _ _ h⟩
inductive PV where
 | non | bl (b:Bool) | int (i:Int) | str (x:Str) | tup (l:List PV) | ref (n:Nat) | ty (n:String) | cl (l:List PV) | dv (ks vs:List PV)
def kP:Key→PV
 | .inl i=>.int i
 | .inr x=>.str x
inductive PO where
 | lst (xs:List PV) | dk (kvs:List (Key×PV)) | dt (kvs:List (List Key×PV)) | opq (φ:List V→Prop)
abbrev PH:=List PO
abbrev PSt:=List (Option PV)
mutual
inductive VR (K:PySem.W.Frag) (ι:List Addr) (H:Hp):V→PV→Prop
 | non:VR K ι H .non .non
 | bl (b:Bool):VR K ι H (.bl b) (.bl b)
 | int (i:Int):VR K ι H (.int i) (.int i)
 | str (x:Str):VR K ι H (.str x) (.str x)
 | ty (n:String):VR K ι H (.ty n) (.ty n)
 | tup {p:Addr}{vs:List V}{l:List PV} (h:H p=some (.tup vs)) (r:VRs K ι H vs l):VR K ι H (.ref p) (.tup l)
 | ref {n:Nat}{a:Addr} (h:ι[n]?=some a):VR K ι H (.ref a) (.ref n)
 | cl {a:Addr}{vs:List V}{l:List PV} (h:FzL K H a vs) (r:VRs K ι H vs l):VR K ι H (.ref a) (.cl l)
 | dk {a:Addr}{o:Obj}{kvs:List (Key×V)}{ks l:List PV} (h:H a=some (.frz o (.dK kvs))) (e:ks=kvs.map fun kv=>kP kv.1) (r:VRs K ι H (kvs.map (·.2)) l):VR K ι H (.ref a) (.dv ks l)
 | dt {a:Addr}{o:Obj}{kvs:List (List Key×V)}{ks l:List PV} (h:H a=some (.frz o (.dT kvs))) (e:ks=kvs.map fun kv=>.tup (kv.1.map kP)) (r:VRs K ι H (kvs.map (·.2)) l):VR K ι H (.ref a) (.dv ks l)
inductive VRs (K:PySem.W.Frag) (ι:List Addr) (H:Hp):List V→List PV→Prop
 | nil:VRs K ι H [] []
 | cons {v:V}{p:PV}{vs:List V}{ps:List PV} (r:VR K ι H v p) (t:VRs K ι H vs ps):VRs K ι H (v::vs) (p::ps)
end
section
variable {ι ι':List Addr}{H H':Hp}
mutual
theorem VR.mono (ht:TupsK K H H') (hi:∀(n:Nat) (a:Addr),ι[n]?=some a→ι'[n]?=some a):∀{v:V}{p:PV},VR K ι H v p→VR K ι' H' v p
 | _,_,.non=>.non
 | _,_,.bl b=>.bl b
 | _,_,.int i=>.int i
 | _,_,.str x=>.str x
 | _,_,.ty n=>.ty n
 | _,_,.tup h r=>.tup (ht.t _ _ h) (VRs.mono ht hi r)
 | _,_,.cl h r=>.cl (ht.f _ _ h) (VRs.mono ht hi r)
 | _,_,.dk h e r=>.dk (ht.z _ _ _ h) e (VRs.mono ht hi r)
 | _,_,.dt h e r=>.dt (ht.z _ _ _ h) e (VRs.mono ht hi r)
 | _,_,.ref h=>.ref (hi _ _ h)
theorem VRs.mono (ht:TupsK K H H') (hi:∀(n:Nat) (a:Addr),ι[n]?=some a→ι'[n]?=some a):∀{vs:List V}{ps:List PV},VRs K ι H vs ps→VRs K ι' H' vs ps
 | _,_,.nil=>.nil
 | _,_,.cons r t=>.cons (VR.mono ht hi r) (VRs.mono ht hi t)
end
theorem VRs.length:∀{vs:List V}{ps:List PV},VRs K ι H vs ps→vs.length=ps.length
 | _,_,.nil=>rfl
 | _,_,.cons _ t=>by rw [List.length_cons,List.length_cons,VRs.length t]
theorem VRs.get:∀{vs:List V}{ps:List PV}{i:Nat}{p:PV},VRs K ι H vs ps→ps[i]?=some p→∃v,vs[i]?=some v∧VR K ι H v p
 | _,_,_,_,.nil,e=>by simp at e
 | _,_,0,_,.cons r _,e=>by simp at e;subst e;exact⟨_,rfl,r⟩
 | _,_,i+1,p,.cons _ t,e=>by
  obtain⟨v,h1,h2⟩:=VRs.get (i:=i) (p:=p) t (by simpa using e)
  exact⟨v,by simpa using h1,h2⟩
theorem VRs.set {v:V}{p:PV} (r:VR K ι H v p):∀{vs:List V}{ps:List PV} (i:Nat),VRs K ι H vs ps→VRs K ι H (vs.set i v) (ps.set i p)
 | _,_,_,.nil=>.nil
 | _,_,0,.cons _ t=>.cons r t
 | _,_,i+1,.cons q t=>.cons q (VRs.set r i t)
theorem VRs.append:∀{xs ys:List V}{us ws:List PV},VRs K ι H xs us→VRs K ι H ys ws→VRs K ι H (xs++ys) (us++ws)
 | _,_,_,_,.nil,s=>s
 | _,_,_,_,.cons r t,s=>.cons r (VRs.append t s)
theorem VRs.take:∀{xs:List V}{us:List PV} (n:Nat),VRs K ι H xs us→VRs K ι H (xs.take n) (us.take n)
 | _,_,0,_=>.nil
 | _,_,_+1,.nil=>.nil
 | _,_,n+1,.cons r t=>.cons r (VRs.take n t)
theorem VRs.drop:∀{xs:List V}{us:List PV} (n:Nat),VRs K ι H xs us→VRs K ι H (xs.drop n) (us.drop n)
 | _,_,0,r=>r
 | _,_,_+1,.nil=>.nil
 | _,_,n+1,.cons _ t=>VRs.drop n t
theorem VRs.reverse:∀{xs:List V}{us:List PV},VRs K ι H xs us→VRs K ι H xs.reverse us.reverse
 | _,_,.nil=>.nil
 | _,_,.cons r t=>by rw [List.reverse_cons,List.reverse_cons];exact (VRs.reverse t).append (.cons r .nil)
theorem VRs.one {v:V}{p:PV} (r:VR K ι H v p):VRs K ι H [v] [p]:=.cons r .nil
end
structure Go (ι ι':List Addr) (H H':Hp):Prop where
 ext:∃m,ι'=ι++m
 new:∀a,a∈ι'→a∉ι→H a=none
 keep:∀a o,a∉ι→H a=some o→H' a=some o
theorem Go.refl (ι:List Addr) (H:Hp):Go ι ι H H:=⟨⟨[],by simp⟩,fun a h n=>absurd h n,fun _ _ _ h=>h⟩
def OR (K:PySem.W.Frag) (ι:List Addr) (H:Hp) (a:Addr):PO→Prop
 | .lst xs=>∃vs,H a=some (.lst vs)∧VRs K ι H vs xs
 | .dk kvs=>∃vs:List (Key×V),H a=some (.dK vs)∧vs.map (·.1)=kvs.map (·.1)∧VRs K ι H (vs.map (·.2)) (kvs.map (·.2))
 | .dt kvs=>∃vs:List (List Key×V),H a=some (.dT vs)∧vs.map (·.1)=kvs.map (·.1)∧VRs K ι H (vs.map (·.2)) (kvs.map (·.2))
 | .opq φ=>∃vs,H a=some (.lst vs)∧φ vs
structure HR (K:PySem.W.Frag) (ι:List Addr) (H:Hp) (h:PH):Prop where
 nd:ι.Nodup
 len:ι.length=h.length
 obj:∀(n:Nat) (a:Addr) (o:PO),ι[n]?=some a→h[n]?=some o→OR K ι H a o
end PL
set_option Elab.async false
set_option linter.all false
set_option maxRecDepth 100000
namespace PL
open PySem PySem.Spec PyProof.Rows L2
variable {K:PySem.W.Frag}
abbrev QV:=PV→PH→Prop
structure ME where
 run:PSt→PH→QV→Prop
 mono:∀{ps h}{Q Q':QV},(∀v h',Q v h'→Q' v h')→run ps h Q→run ps h Q'
structure MT where
 run:PSt→PH→(Bool→PH→Prop)→Prop
 mono:∀{ps h}{Q Q':Bool→PH→Prop},(∀v h',Q v h'→Q' v h')→run ps h Q→run ps h Q'
structure MA where
 run:PSt→PH→(List PV→PH→Prop)→Prop
 mono:∀{ps h}{Q Q':List PV→PH→Prop},(∀v h',Q v h'→Q' v h')→run ps h Q→run ps h Q'
structure ML where
 run:PSt→PH→(List PV→PH→Prop)→Prop
 mono:∀{ps h}{Q Q':List PV→PH→Prop},(∀v h',Q v h'→Q' v h')→run ps h Q→run ps h Q'
structure Src where
 items:List PV
 ok:PH→Prop
 fz:Bool
structure MI where
 run:PSt→PH→(Src→PH→Prop)→Prop
 mono:∀{ps h}{Q Q':Src→PH→Prop},(∀v h',Q v h'→Q' v h')→run ps h Q→run ps h Q'
structure PD where
 nx:PSt→PH→Prop
 rt:QV
 bk:PSt→PH→Prop
 ct:PSt→PH→Prop
structure PD.Le (D D':PD):Prop where
 nx:∀ps h,D.nx ps h→D'.nx ps h
 rt:∀v h,D.rt v h→D'.rt v h
 bk:∀ps h,D.bk ps h→D'.bk ps h
 ct:∀ps h,D.ct ps h→D'.ct ps h
structure MS where
 run:PD→PSt→PH→Prop
 mono:∀{D D' ps h},PD.Le D D'→run D ps h→run D' ps h
structure MG where
 run:PV→PSt→PH→(PSt→PH→Prop)→Prop
 mono:∀{v ps h}{Q Q':PSt→PH→Prop},(∀ps h,Q ps h→Q' ps h)→run v ps h Q→run v ps h Q'
def pQ (K:PySem.W.Frag) (ι:List Addr) (H:Hp) (Q:VK):QV:=fun p h'=>∀ι' v H',Go ι ι' H H'→HR K ι' H' h'→VR K ι' H' v p→Q v H'
theorem PE.imp {X:Cx}{e:Expr}{t t':TE} (h:PE X e t) (f:∀σ H Q,t' σ H Q→t σ H Q):PE X e t':=fun pins s σ H Q I q=>h pins s σ H Q I (f _ _ _ q)
theorem PT.imp {X:Cx}{e:Expr}{t t':TT} (h:PT X e t) (f:∀σ H Q,t' σ H Q→t σ H Q):PT X e t':=fun pins s σ H Q I q=>h pins s σ H Q I (f _ _ _ q)
theorem PW.imp {X:Cx}{e:Expr}{t t':TT} (h:PW X e t) (f:∀σ H Q,t' σ H Q→t σ H Q):PW X e t':=fun w pins s σ H Q I q=>h w pins s σ H Q I (f _ _ _ q)
theorem PA.imp {X:Cx}{e:List Expr}{t t':TA} (h:PA X e t) (f:∀σ H Q,t' σ H Q→t σ H Q):PA X e t':=fun pos pins s σ H Q I q=>h pos pins s σ H Q I (f _ _ _ q)
theorem PS.imp {X:Cx}{e:Stmt}{t t':TS} (h:PS X e t) (f:∀D σ H,t' D σ H→t D σ H):PS X e t':=fun pins s σ H D I q=>h pins s σ H D I (f _ _ _ q)
theorem PSs.imp {X:Cx}{e:List Stmt}{t t':TS} (h:PSs X e t) (f:∀D σ H,t' D σ H→t D σ H):PSs X e t':=fun pins s σ H D I q=>h pins s σ H D I (f _ _ _ q)
theorem PG.imp {X:Cx}{e:Expr}{t t':TG} (h:PG X e t) (f:∀v σ H Q,t' v σ H Q→t v σ H Q):PG X e t':=fun pins s σ H v u Q I r q=>h pins s σ H v u Q I r (f _ _ _ _ q)
theorem PI.imp {X:Cx}{tg e:Expr}{t t':TI} (h:PI X tg e t) (f:∀σ H Q,t' σ H Q→t σ H Q):PI X tg e t':=fun pins s σ H R I q=>h pins s σ H R I (f _ _ _ q)
section
variable {X:Cx}{a b c e:Expr}{pos:Pos}
abbrev P2:=PV→PV→PH→QV→Prop
structure M2 where
 f:P2
 mono:∀{x y h}{Q Q':QV},(∀v h',Q v h'→Q' v h')→f x y h Q→f x y h Q'
def M2.Ok (K:PySem.W.Frag) (r:R2) (m:M2):Prop:=∀{ι H h u v x y Q},HR K ι H h→VR K ι H u x→VR K ι H v y→m.f x y h (pQ K ι H Q)→r u v H Q
end
end PL
set_option Elab.async false
set_option linter.all false
set_option maxRecDepth 100000
namespace PL
open PySem PySem.Spec PyProof.Rows L2
variable {K:PySem.W.Frag}
section
variable {X:Cx}{a b c e:Expr}{es:List Expr}{pos:Pos}
theorem isEmpty_vrs {ι:List Addr}{H:Hp}:∀{vs:List V}{l:List PV},VRs K ι H vs l→(!l.isEmpty)=!vs.isEmpty
 | _,_,.nil=>rfl
 | _,_,.cons _ _=>rfl
structure MQ where
 run:PSt→PH→(Src→PH→Prop)→Prop
 mono:∀{ps h}{Q Q':Src→PH→Prop},(∀v h',Q v h'→Q' v h')→run ps h Q→run ps h Q'
end
end PL
set_option Elab.async false
set_option linter.all false
set_option maxRecDepth 100000
namespace PL
open PySem PySem.Spec PyProof.Rows L2
variable {K:PySem.W.Frag}
section
variable {X:Cx}{a b c e:Expr}{es:List Expr}{pos:Pos}{st:Stmt}{rest:List Stmt}
structure MGs where
 run:List PV→PSt→PH→(PSt→PH→Prop)→Prop
 mono:∀{v ps h}{Q Q':PSt→PH→Prop},(∀ps h,Q ps h→Q' ps h)→run v ps h Q→run v ps h Q'
end
end PL
set_option Elab.async false
set_option linter.all false
set_option maxRecDepth 100000
namespace PL
open PySem PySem.Spec PyProof.Rows L2
variable {K:PySem.W.Frag}
section
variable {X:Cx}{a b c e:Expr}{es:List Expr}{pos:Pos}
structure MB1 where
 f:List PV→PH→QV→Prop
 mono:∀{l h}{Q Q':QV},(∀v h',Q v h'→Q' v h')→f l h Q→f l h Q'
def MB1.Ok (K:PySem.W.Frag) (r:List V→Hp→VK→Prop) (m:MB1):Prop:=∀{ι H h vs l Q},HR K ι H h→VRs K ι H vs l→m.f l h (pQ K ι H Q)→r vs H Q
end
end PL
set_option Elab.async false
set_option linter.all false
set_option maxRecDepth 100000
namespace PL
open PySem PySem.Spec PyProof.Rows L2
variable {K:PySem.W.Frag}
def aI (g:Int→Int→PV):M2:=⟨fun x y h Q=>match x,y with | .int i,.int j=>Q (g i j) h | _,_=>False,fun f q=>by
 revert q
 split
 ·exact f _ _
 ·exact fun z=>z⟩
def aIc (C:Int→Int→Prop) (g:Int→Int→PV):M2:=⟨fun x y h Q=>match x,y with | .int i,.int j=>C i j∧Q (g i j) h | _,_=>False,fun f q=>by
 revert q
 split
 ·exact fun q=>⟨q.1,f _ _ q.2⟩
 ·exact fun z=>z⟩
theorem aI_ok {g:Int→Int→PV}{g':Int→Int→V} (hg:∀ι H i j,VR K ι H (g' i j) (g i j)):M2.Ok K (rI0 g') (aI g):=by
 intro ι H h u v x y Q hr hu hv q
 unfold aI at q
 dsimp only at q
 revert q
 split
 ·intro q;cases hu;cases hv;exact⟨_,_,rfl,rfl,q ι _ H (Go.refl _ _) hr (hg _ _ _ _)⟩
 ·exact False.elim
theorem aIc_ok {C:Int→Int→Prop}{g:Int→Int→PV}{g':Int→Int→V} (hg:∀ι H i j,VR K ι H (g' i j) (g i j)):M2.Ok K (rI C g') (aIc C g):=by
 intro ι H h u v x y Q hr hu hv q
 unfold aIc at q
 dsimp only at q
 revert q
 split
 ·intro q;cases hu;cases hv;exact⟨_,_,rfl,rfl,q.1,q.2 ι _ H (Go.refl _ _) hr (hg _ _ _ _)⟩
 ·exact False.elim
def oSub:=aI fun i j=>.int (i-j)
def oMul:=aIc IntMulOk fun i j=>.int (i*j)
def oDiv:=aIc CDiv fun i j=>.int (i / j)
def oMod:=aIc (fun _ j=>0 < j) fun i j=>.int (i % j)
def oPow:=aIc CPow fun i j=>.int (i ^ j.toNat)
def oLt:=aI fun i j=>.bl (decide (i < j))
def oLe:=aI fun i j=>.bl (decide (i≤j))
def oGt:=aI fun i j=>.bl (decide (j < i))
def oGe:=aI fun i j=>.bl (decide (j≤i))
section
variable {ι:List Addr}{H:Hp}
theorem VRs.nil_iff:∀{vs:List V}{l:List PV},VRs K ι H vs l→(vs=[]↔l=[])
 | _,_,.nil=>by simp
 | _,_,.cons _ _=>by simp
end
mutual
def PV.dat:PV→Bool
 | .tup l=>datL l
 | .ref _=>false
 | .ty _=>false
 | .cl _=>false
 | .dv _ _=>false
 | _=>true
def datL:List PV→Bool
 | []=>true
 | x::l=>x.dat&&datL l
end
end PL
set_option Elab.async false
set_option linter.all false
set_option maxRecDepth 100000
namespace PL
open PySem PySem.Spec PyProof.Rows L2
variable {K:PySem.W.Frag}
section
variable {X:Cx}{a b c e:Expr}{es:List Expr}{pos:Pos}
def PV.isNon:PV→Bool
 | .non=>true
 | _=>false
def oIsN:M2:=⟨fun x y h Q=>match y with | .non=>Q (.bl x.isNon) h | _=>False,fun f q=>by
 revert q
 split
 ·exact f _ _
 ·exact fun z=>z⟩
theorem isNon_dec {ι:List Addr}{H:Hp}{v:V}{x:PV} (h:VR K ι H v x):decide (v=.non)=x.isNon:=by cases h <;> simp [PV.isNon]
theorem oIsN_ok:M2.Ok K (fun x y H Q=>y=.non∧Q (.bl (decide (x=.non))) H) oIsN:=by
 intro ι H h u v x y Q hr hu hv q
 cases hv with
 | non=>exact⟨rfl,q ι _ H (Go.refl _ _) hr (by rw [isNon_dec hu];exact .bl _)⟩
 | _=>exact q.elim
end
end PL
set_option Elab.async false
set_option linter.all false
set_option maxRecDepth 100000
namespace PL
open PySem PySem.Spec PyProof.Rows L2
variable {K:PySem.W.Frag}
section
variable {X:Cx}{pins:List (Addr×Obj)}{σ:L2.St}{H:Hp}{s:Shared}{ι:List Addr}
theorem relV_inj {v v':V}{w:Value} (h:RelV v w) (h':RelV v' w):v=v':=Option.some.inj (h.abs.symm.trans h'.abs)
end
section
variable {X:Cx}{a b c e:Expr}{es:List Expr}{pos:Pos}
def mIx (a:MQ) (b:ME):ME:=⟨fun ps h Q=>a.run ps h fun S h1=>b.run ps h1 fun y h2=>match y with
 | .int k=>S.ok h2∧match atI S.items k with | some v=>Q v h2 | none=>False
 | _=>False,fun f q=>a.mono (fun _ _ q=>b.mono (fun _ _ q=>by
  revert q
  split
  ·rintro⟨q0,q⟩
   refine⟨q0,?_⟩
   revert q
   split
   ·exact f _ _
   ·exact fun z=>z
  ·exact fun z=>z) q) q⟩
theorem VRs.atI {ι:List Addr}{H:Hp}{vs:List V}{l:List PV} (r:VRs K ι H vs l) {k:Int}{p:PV} (e:L2.atI l k=some p):∃v,L2.atI vs k=some v∧VR K ι H v p:=by
 unfold L2.atI at e ⊢
 rw [r.length]
 cases z:ixN l.length k with
 | none=>rw [z] at e;cases e
 | some j=>
  rw [z] at e
  exact r.get e
def oIxS:M2:=⟨fun x y h Q=>match x,y with
 | .str z,.int k=>z.length≤sizeLine∧match L2.atI z.cps.toList k with | some c=>Q (.str ⟨#[c]⟩) h | none=>False
 | _,_=>False,fun f q=>by
  revert q
  split
  ·rintro⟨q0,q⟩
   refine⟨q0,?_⟩
   revert q
   split
   ·exact f _ _
   ·exact fun z=>z
  ·exact fun z=>z⟩
theorem oIxS_ok:M2.Ok K rIxS oIxS:=by
 intro ι H h u v x y Q hr hu hv q
 unfold oIxS at q
 dsimp only at q
 revert q
 split
 ·rename_i z k
  rintro⟨q0,q⟩
  cases hu
  cases hv
  cases e:L2.atI z.cps.toList k with
  | none=>rw [e] at q;exact q.elim
  | some c=>rw [e] at q;exact⟨z,k,c,rfl,rfl,q0,e,q ι _ H (Go.refl _ _) hr (.str _)⟩
 ·exact False.elim
def bLen:MB1:=⟨fun l h Q=>match l with
 | [.str y]=>y.length≤sizeLine∧Q (.int y.length) h
 | [.tup l]=>Q (.int l.length) h
 | [.cl l]=>Q (.int l.length) h
 | [.ref n]=>match h[n]? with
  | some (.lst xs)=>Q (.int xs.length) h
  | _=>False
 | _=>False,fun f q=>by
  revert q
  split
  ·exact fun q=>⟨q.1,f _ _ q.2⟩
  ·exact f _ _
  ·exact f _ _
  ·split
   ·exact f _ _
   ·exact fun z=>z
  ·exact fun z=>z⟩
theorem bLen_ok (K:PySem.W.Frag):MB1.Ok K (rLen K) bLen:=by
 intro ι H h vs l Q hr hv q
 unfold bLen at q
 dsimp only at q
 revert q
 split
 ·intro q
  cases hv with
  | cons x t=>cases t;cases x;exact⟨_,_,rfl,⟨q.1,rfl⟩,q.2 ι _ H (Go.refl _ _) hr (.int _)⟩
 ·intro q
  cases hv with
  | cons x t=>
   cases t
   cases x with
   | tup e r=>exact⟨_,_,rfl,.inr ⟨_,SqT.of e,r.length.symm⟩,q ι _ H (Go.refl _ _) hr (.int _)⟩
 ·intro q
  cases hv with
  | cons x t=>
   cases t
   cases x with
   | cl e r=>exact⟨_,_,rfl,.inl ⟨_,e.sq,r.length.symm⟩,q ι _ H (Go.refl _ _) hr (.int _)⟩
 ·rename_i n
  cases hv with
  | cons x t=>
   cases t
   cases x with
   | @ref _ a e=>
   split
   ·rename_i xs hn
    intro q
    obtain⟨ws,e1,e2⟩:=hr.obj n a _ e hn
    exact⟨_,_,rfl,.inl ⟨ws,SqL.of e1,e2.length.symm⟩,q ι _ H (Go.refl _ _) hr (.int _)⟩
   ·exact False.elim
 ·exact False.elim
inductive Kd where
 | str | tup | int | bool
def Kd.name:Kd→String
 | .str=>"str" | .tup=>"tuple" | .int=>"int" | .bool=>"bool"
def Kd.is:Kd→PV→Bool
 | .str,.str _=>true
 | .tup,.tup _=>true
 | .int,.int _=>true
 | .int,.bl _=>true
 | .bool,.bl _=>true
 | _,_=>false
def rIsiT (K:PySem.W.Frag):List V→Hp→VK→Prop:=fun xs H Q=>∃x c t b,xs=[x,.ty c]∧(TyOf K H x t∨(t=.type "tuple"∧∃a vs,x=.ref a∧SqT K H a vs))∧PySem.W.kitOne K t (.type c)=some b∧Q (.bl b) H
theorem call_isiT (K:PySem.W.Frag) (hK:X.K=K):CallR X (.builtin "isinstance") (rIsiT K):=by
 subst hK
 intro pins s σ H xs us Q I r h
 obtain⟨x,c,t,b,rfl,ty | ⟨rfl,a,vs,rfl,hT⟩,e,q⟩:=h
 ·exact call_isinst pins s σ H _ us Q I r ⟨x,c,t,b,rfl,ty,e,q⟩
 ·obtain⟨u,w,rfl,r1,r2⟩:=vals2 r
  cases r1
  cases r2
  obtain⟨its,_,⟨o,h1,h2,_⟩,_⟩:=I.tuple hT
  exact PySem.W.kia_one PySem.W.kitx_tuple I.kIn ⟨o,h1,h2⟩ e (fun z=>nomatch z) fun tk=>⟨.bl b,H,I.tok _,rfl,q⟩
theorem kit_all (K:PySem.W.Frag):(∀k:Kd,PySem.W.kitOne K (.type "NoneType") (.type k.name)=some false)∧(∀k:Kd,PySem.W.kitOne K (.type "list") (.type k.name)=some false)∧(∀k:Kd,PySem.W.kitOne K (.type "dict") (.type k.name)=some false):=
 ⟨fun k=>by cases k <;> kernel_rfl,fun k=>by cases k <;> kernel_rfl,fun k=>by cases k <;> kernel_rfl⟩
theorem kit_bl (K:PySem.W.Frag) (b:Bool) (k:Kd):PySem.W.kitOne K (.type "bool") (.type k.name)=some (k.is (.bl b)):=by cases k <;> kernel_rfl
theorem kit_int (K:PySem.W.Frag) (b:Int) (k:Kd):PySem.W.kitOne K (.type "int") (.type k.name)=some (k.is (.int b)):=by cases k <;> kernel_rfl
theorem kit_str (K:PySem.W.Frag) (b:Str) (k:Kd):PySem.W.kitOne K (.type "str") (.type k.name)=some (k.is (.str b)):=by cases k <;> kernel_rfl
theorem kit_tup (K:PySem.W.Frag) (b:List PV) (k:Kd):PySem.W.kitOne K (.type "tuple") (.type k.name)=some (k.is (.tup b)):=by cases k <;> kernel_rfl
def bAbs:MB1:=⟨fun l h Q=>match l with | [.int i]=>Q (.int (if i < 0 then -i else i)) h | _=>False,fun f q=>by
 revert q
 split
 ·exact f _ _
 ·exact fun z=>z⟩
theorem bAbs_ok:MB1.Ok K (fun xs H Q=>∃i,xs=[.int i]∧Q (.int (if i < 0 then -i else i)) H) bAbs:=by
 intro ι H h vs l Q hr hv q
 unfold bAbs at q
 dsimp only at q
 revert q
 split
 ·intro q
  cases hv with
  | cons x t=>cases t;cases x;exact⟨_,rfl,q ι _ H (Go.refl _ _) hr (.int _)⟩
 ·exact False.elim
def bInt:MB1:=⟨fun l h Q=>match l with | [.int i]=>Q (.int i) h | [.bl k]=>Q (.int (if k then 1 else 0)) h | _=>False,fun f q=>by
 revert q
 split
 ·exact f _ _
 ·exact f _ _
 ·exact fun z=>z⟩
theorem bInt_ok:MB1.Ok K (fun xs H Q=>(∃i,xs=[.int i]∧Q (.int i) H)∨∃k,xs=[.bl k]∧Q (.int (if k then 1 else 0)) H) bInt:=by
 intro ι H h vs l Q hr hv q
 unfold bInt at q
 dsimp only at q
 revert q
 split
 ·intro q
  cases hv with
  | cons x t=>cases t;cases x;exact .inl ⟨_,rfl,q ι _ H (Go.refl _ _) hr (.int _)⟩
 ·intro q
  cases hv with
  | cons x t=>cases t;cases x;exact .inr ⟨_,rfl,q ι _ H (Go.refl _ _) hr (.int _)⟩
 ·exact False.elim
def bMax:MB1:=⟨fun l h Q=>match l with | [.int i,.int j]=>Q (.int (if j > i then j else i)) h | _=>False,fun f q=>by
 revert q
 split
 ·exact f _ _
 ·exact fun z=>z⟩
def bMin:MB1:=⟨fun l h Q=>match l with | [.int i,.int j]=>Q (.int (if j < i then j else i)) h | _=>False,fun f q=>by
 revert q
 split
 ·exact f _ _
 ·exact fun z=>z⟩
theorem bMax_ok:MB1.Ok K (fun xs H Q=>∃i j,xs=[.int i,.int j]∧Q (.int (if j > i then j else i)) H) bMax:=by
 intro ι H h vs l Q hr hv q
 unfold bMax at q
 dsimp only at q
 revert q
 split
 ·intro q
  cases hv with
  | cons x t=>cases t with
   | cons y t=>cases t;cases x;cases y;exact⟨_,_,rfl,q ι _ H (Go.refl _ _) hr (.int _)⟩
 ·exact False.elim
theorem bMin_ok:MB1.Ok K (fun xs H Q=>∃i j,xs=[.int i,.int j]∧Q (.int (if j < i then j else i)) H) bMin:=by
 intro ι H h vs l Q hr hv q
 unfold bMin at q
 dsimp only at q
 revert q
 split
 ·intro q
  cases hv with
  | cons x t=>cases t with
   | cons y t=>cases t;cases x;cases y;exact⟨_,_,rfl,q ι _ H (Go.refl _ _) hr (.int _)⟩
 ·exact False.elim
end
end PL
set_option Elab.async false
set_option linter.all false
set_option maxRecDepth 100000
namespace PL
open PySem PySem.Spec PyProof.Rows L2
variable {K:PySem.W.Frag}
section
variable {X:Cx}{a b c e o:Expr}{es:List Expr}{pos:Pos}
def rTupT (K:PySem.W.Frag):List V→Hp→VK→Prop:=fun xs H Q=>∃p ys,xs=[.ref p]∧((SqL K H p ys∧newO H (.tup ys) Q)∨(SqT K H p ys∧Q (.ref p) H))
theorem call_tupT (K:PySem.W.Frag) (hK:X.K=K):CallR X (.type "tuple") (rTupT K):=by
 subst hK
 exact call_tuple_of.mono fun xs H Q ⟨p,ys,e,h⟩=>⟨p,ys,e,h.imp (fun ⟨h1,h2⟩=>⟨h1,fun l hl=>h2.at l hl⟩) fun z=>z⟩
theorem bools_vrs {ι:List Addr}{H:Hp}:∀{bs:List Bool}{vs:List V},VRs K ι H vs (bs.map PV.bl)→vs=bs.map V.bl
 | [],_,h=>by cases h;rfl
 | b::bs,_,h=>by
  cases h with
  | cons x t=>cases x;rw [bools_vrs t];rfl
structure MQL where
 run:PSt→PH→(Src→PH→Prop)→Prop
 mono:∀{ps h}{Q Q':Src→PH→Prop},(∀v h',Q v h'→Q' v h')→run ps h Q→run ps h Q'
structure MO where
 run:PSt→PH→(Option Int→PH→Prop)→Prop
 mono:∀{ps h}{Q Q':Option Int→PH→Prop},(∀v h',Q v h'→Q' v h')→run ps h Q→run ps h Q'
end
end PL
set_option Elab.async false
set_option linter.all false
set_option maxRecDepth 100000
namespace PL
open PySem PySem.Spec PyProof.Rows L2
variable {K:PySem.W.Frag}
section
variable {X:Cx}{a b c e o tg:Expr}{es:List Expr}{pos p:Pos}
def intsV (lo:Int) (n:Nat):List PV:=(List.range n).map fun (i:Nat)=>.int (lo+(i:Int))
theorem intsV_len (lo:Int) (n:Nat):(intsV lo n).length=n:=by unfold intsV;simp
theorem intsV_get {lo:Int}{n i:Nat}{p:PV} (h:(intsV lo n)[i]?=some p):i < n∧p=.int (lo+i):=by
 unfold intsV at h
 rw [List.getElem?_map] at h
 cases z:(List.range n)[i]? with
 | none=>rw [z] at h;cases h
 | some k=>
  rw [z] at h
  obtain⟨h1,h2⟩:=List.getElem?_eq_some_iff.mp z
  simp at h1 h2
  subst h2
  exact⟨h1,(Option.some.inj h).symm⟩
def small62 (i:Int):Prop:=-(2 ^ 62)≤i∧i < 2 ^ 62
def mRange1 (m:MA):MI:=⟨fun ps h Q=>m.run ps h fun l h1=>match l with | [.int j]=>small62 j∧Q ⟨intsV 0 j.toNat,fun _=>True,false⟩ h1 | _=>False,fun f q=>m.mono (fun l h1 q=>by
 revert q
 split
 ·exact fun q=>⟨q.1,f _ _ q.2⟩
 ·exact fun z=>z) q⟩
def enumV (k:Nat):List PV→List PV
 | []=>[]
 | x::l=>.tup [.int (k:Int),x]::enumV (k+1) l
theorem enumV_len:∀(k:Nat) (l:List PV),(enumV k l).length=l.length
 | _,[]=>rfl
 | k,x::l=>by rw [enumV,List.length_cons,List.length_cons,enumV_len]
theorem enumV_get:∀{k:Nat}{l:List PV}{i:Nat}{p:PV},(enumV k l)[i]?=some p→∃x,l[i]?=some x∧p=.tup [.int ((k+i:Nat):Int),x]
 | _,[],_,_,h=>by simp [enumV] at h
 | k,x::l,0,p,h=>by simp [enumV] at h;subst h;exact⟨x,rfl,by simp⟩
 | k,x::l,i+1,p,h=>by
  obtain⟨y,h1,h2⟩:=enumV_get (k:=k+1) (l:=l) (i:=i) (p:=p) (by simpa [enumV] using h)
  exact⟨y,by simpa using h1,by rw [h2,show k+1+i=k+(i+1) by omega]⟩
def iEnumA (K:PySem.W.Frag) (t1:TE):TI:=fun σ H R=>t1 σ H fun x H1=>∃a,x=.ref a∧(((∃xs,SqL K H1 a xs)∧R (Itel K a) H1)∨((∃xs,SqT K H1 a xs)∧R (Ite K a) H1))
theorem pi_enumA {X:Cx} (K:PySem.W.Frag) (hK:X.K=K) {e1:Expr}{t1:TE}{elts:List Expr}{kk:Nat}{tp p1 p2:Pos} (hg:Gl X "enumerate") (hm:X.mg "enumerate"=none) (h1:PE X e1 t1)
  (hs1:starEach [e1] X.env=(false,eval e1 X.env)::starEach [] X.env:=by rfl):PI X (.Tuple elts kk tp) (.Call (.Name "enumerate" p1) [e1] [] p2) (iEnumA K t1):=by
 subst hK
 intro pins s σ H R I h
 refine wpAny_Call_Name_kw (ld_blt I hg hm boot_enumerate ?_ (by decide) (by decide))
 refine PyProof.Rows.callWith_type1 ?_ hs1 rfl
 rw [hs1]
 show wpAny _ _ (spliced ((false,eval e1 X.env)::backTo p2 (starEach [] X.env))) _ _ s
 refine Calls.spliced_cons (thn (h1 pins s σ H _ I h) fun u1 s1 ⟨x,H1,I1,r1,a,ex,hh⟩=>Calls.spliced_nil ?_)
 subst ex
 cases r1
 have d1:s1.heap.objs.size+1≠s1.heap.objs.size:=Nat.succ_ne_self _
 rcases hh with⟨⟨xs,hx⟩,q⟩ | ⟨⟨xs,hx⟩,q⟩
 ·obtain⟨its,rx,tx,_⟩:=I1.list hx
  refine call_enumerate_list tx.isList fun h' ze hi _ k=>?_
  refine wpAny_pyIter_enum ze ?_
  refine⟨_,_,_,_,H1,rfl,I1.kept (t':=s1.toks) k,turn_enumL d1,⟨⟨_,ze⟩,hi⟩,fun c hc=>?_,q⟩
  have hle:s1.heap.objs.size≤c:=by
   simp only [List.mem_cons,List.not_mem_nil,or_false] at hc
   rcases hc with rfl | rfl
   ·exact Nat.le_add_right _ _
   ·exact Nat.le_refl _
  exact I1.fpOk hle (I1.hok.fresh hle)
 ·obtain⟨its,rx,tx,_⟩:=I1.tuple hx
  have l1:a < s1.heap.objs.size:=let ⟨_,e,_⟩:=tx;Heap.lt_size e
  refine call_enumT tx fun h' ze hi k=>?_
  refine wpAny_pyIter_enum ze ?_
  refine⟨_,_,_,_,H1,rfl,I1.kept (t':=s1.toks) k,turn_enum d1 (Nat.ne_of_lt (Nat.lt_of_lt_of_le l1 (Nat.le_add_right _ 1))) (Nat.ne_of_lt l1),⟨⟨_,ze⟩,hi⟩,fun c hc=>?_,q⟩
  have hle:s1.heap.objs.size≤c:=by
   simp only [List.mem_cons,List.not_mem_nil,or_false] at hc
   rcases hc with rfl | rfl
   ·exact Nat.le_add_right _ _
   ·exact Nat.le_refl _
  exact I1.fpOk hle (I1.hok.fresh hle)
def zipV:List PV→List PV→List PV
 | x::l,y::m=>.tup [x,y]::zipV l m
 | _,_=>[]
theorem zipV_get:∀{l m:List PV}{i:Nat}{p:PV},(zipV l m)[i]?=some p→∃x y,l[i]?=some x∧m[i]?=some y∧p=.tup [x,y]
 | [],m,i,p,h=>by simp [zipV] at h
 | x::l,[],i,p,h=>by simp [zipV] at h
 | x::l,y::m,0,p,h=>by simp [zipV] at h;subst h;exact⟨x,y,rfl,rfl,rfl⟩
 | x::l,y::m,i+1,p,h=>by
  obtain⟨u,w,h1,h2,h3⟩:=zipV_get (l:=l) (m:=m) (i:=i) (p:=p) (by simpa [zipV] using h)
  exact⟨u,w,by simpa using h1,by simpa using h2,h3⟩
end
end PL
set_option Elab.async false
set_option linter.all false
set_option maxRecDepth 100000
namespace PL
open PySem PySem.Spec PyProof.Rows L2
variable {K:PySem.W.Frag}
section
variable {X:Cx}{a b c e o:Expr}{pos:Pos}
def ipAdd:M2:=aI fun i j=>.int (i+j)
theorem ip_ok {g:Int→Int→Int}:M2.Ok K (ipI g) (aI fun i j=>.int (g i j)):=by
 intro ι H h u v x y Q hr hu hv q
 unfold aI at q
 dsimp only at q
 revert q
 split
 ·intro q;cases hu;cases hv;exact⟨_,_,rfl,rfl,q ι _ H (Go.refl _ _) hr (.int _)⟩
 ·exact False.elim
end
end PL
set_option Elab.async false
set_option linter.all false
set_option maxRecDepth 100000
namespace PL
open PySem PySem.Spec PyProof.Rows L2
section
variable {X:Cx}{K:PySem.W.Frag}{a b c e o tg iter:Expr}{es rest:List Expr}{pos p p1 p2 p3 p4:Pos}
section
variable {ma mb mc:ME}
structure JC (X:Cx) (K:PySem.W.Frag) (op:CmpOp) (b:Expr) (m:M2):Prop where
 p:∃r,OpR X (compareOp op) r∧M2.Ok K r m
 k:behindInMarks op b=false
theorem jc_lt:JC X K .Lt b oLt:=⟨⟨_,op_lt,aI_ok fun _ _ _ _=>.bl _⟩,nomark _⟩
theorem jc_le:JC X K .LtE b oLe:=⟨⟨_,op_le,aI_ok fun _ _ _ _=>.bl _⟩,nomark _⟩
theorem jc_gt:JC X K .Gt b oGt:=⟨⟨_,op_gt,aI_ok fun _ _ _ _=>.bl _⟩,nomark _⟩
theorem jc_ge:JC X K .GtE b oGe:=⟨⟨_,op_ge,aI_ok fun _ _ _ _=>.bl _⟩,nomark _⟩
theorem jc_isN:JC X K .Is b oIsN:=⟨⟨_,op_isN,oIsN_ok⟩,nomark _⟩
variable {op op':CmpOp}{m m':M2}
variable {mq:MQ}
end
end
end PL
set_option Elab.async false
set_option linter.all false
set_option maxRecDepth 100000
set_option Elab.async false
set_option linter.all false
set_option maxRecDepth 100000
set_option Elab.async false
set_option linter.all false
set_option maxRecDepth 100000
namespace PL
open PySem PySem.Spec PyProof.Rows L2
theorem datL_iff:∀{l:List PV},datL l=true↔∀x∈l,x.dat=true
 | []=>by simp [datL]
 | x::l=>by rw [datL,Bool.and_eq_true,datL_iff];simp
end PL
set_option Elab.async false
set_option linter.all false
set_option maxRecDepth 100000
namespace PL
open PySem PySem.Spec PyProof.Rows L2
variable {K:PySem.W.Frag}
section
variable {X:Cx}{a b c e o:Expr}{es:List Expr}{pos:Pos}
theorem empty_of {ι:List Addr}{H:Hp}{vs:List V}{l:List PV} (h:VRs K ι H vs l):vs.isEmpty=l.isEmpty:=by cases h <;> rfl
theorem VRs.rep {ι:List Addr}{H:Hp}{vs:List V}{l:List PV} (h:VRs K ι H vs l):∀k:Nat,VRs K ι H (List.replicate k vs).flatten (List.replicate k l).flatten
 | 0=>.nil
 | k+1=>by
  rw [List.replicate_succ,List.replicate_succ,List.flatten_cons,List.flatten_cons]
  exact h.append (h.rep k)
def rRemoveN:V→List V→Hp→VK→Prop:=fun x vs H Q=>∃(l:Addr) (ns:List Int) (k:Int),x=.ref l∧vs=[.int k]∧H l=some (.lst (ns.map V.int))∧k∈ns∧updO H l (.lst ((ns.erase k).map V.int)) (Q .non)
theorem ints_get:∀{us:List Value}{ns:List Int},IntsAre us ns→∀(i:Nat) (hi:i < us.length),∃n t,ns[i]?=some n∧us[i]=.int n t
 | _,_,.nil,i,hi=>by simp at hi
 | _,_,.cons _ _ r,i,hi=>by
  cases i with
  | zero=>exact⟨_,_,rfl,rfl⟩
  | succ i=>exact ints_get r i (by simpa using hi)
theorem idx_le {k:Int}:∀{ns:List Int}{m:Nat},ns[m]?=some k→ns.idxOf k≤m
 | [],m,h=>by simp at h
 | a::ns,0,h=>by
  have:a=k:=by simpa using h
  subst this
  simp
 | a::ns,m+1,h=>by
  have:=idx_le (ns:=ns) (m:=m) (by simpa using h)
  rw [List.idxOf_cons]
  by_cases c:a=k
  ·have:(a==k)=true:=by simpa using c
   rw [this];exact Nat.zero_le _
  ·have c2:(a==k)=false:=by simpa using c
   rw [c2];exact Nat.succ_le_succ this
theorem erase_map {α β:Type} (f:α→β):∀(l:List α) (j:Nat),(l.eraseIdx j).map f=(l.map f).eraseIdx j
 | [],_=>rfl
 | a::l,0=>rfl
 | a::l,j+1=>by
  show f a::(l.eraseIdx j).map f=f a::(l.map f).eraseIdx j
  rw [erase_map f l j]
def isK (k:Int):Value→Bool
 | .int a _=>a==k
 | _=>false
theorem vals_eraseIdx {vs:List V}{us:List Value} (r:Vals vs us):∀j,Vals (vs.eraseIdx j) (us.eraseIdx j):=by
 induction r with
 | nil=>intro j;exact .nil
 | cons h r ih=>
  intro j
  cases j with
  | zero=>exact r
  | succ j=>exact .cons h (ih j)
theorem mt_removeN:MtM X "list.remove" rRemoveN:=by
 intro pins s σ H x vs v us Q I rx rv h
 obtain⟨l,ns,k,rfl,rfl,hH,hk,q⟩:=h
 cases rx
 obtain⟨u,rfl,ru⟩:=rv.one
 obtain⟨t,rfl⟩:=ru
 obtain⟨z,its,n,r,hl,e⟩:=I.lstM hH
 have hi:=intsAre_of r
 have hlen:ns.length=its.length:=by rw [List.length_map] at hl;omega
 have hj:ns.idxOf k < ns.length:=List.idxOf_lt_length_of_mem hk
 have hej:ns.erase k=ns.eraseIdx (ns.idxOf k):=by rw [List.erase_eq_eraseIdx_of_idxOf rfl]
 refine call_meets F.slot_list_remove ⟨_,e,rfl⟩ F.entry_list_remove (F.args_list_remove_2 _ _) (MeetsSeq.list_remove l its.toArray n (.int k t) (isK k) (fun y hy=>?_) (ns.idxOf k) (by rw [List.size_toArray];omega) ?_ (fun m hm hlt=>?_) (by rw [List.size_toArray];omega)) ⟨e,?_⟩
 ·have hy':y∈its:=by simpa using hy
  obtain⟨i,hi2⟩:=List.getElem?_of_mem hy'
  obtain⟨h1,h2⟩:=List.getElem?_eq_some_iff.mp hi2
  obtain⟨n',t',g1,g2⟩:=ints_get hi i h1
  rw [← h2,g2]
  exact MeetsSeq.EqGives.int _ _ _ _
 ·have h1:ns.idxOf k < its.length:=by omega
  obtain⟨n',t',g1,g2⟩:=ints_get hi (ns.idxOf k) h1
  have g3:ns[ns.idxOf k]?=some k:=by rw [List.getElem?_eq_getElem hj,List.getElem_idxOf hj]
  rw [g3] at g1
  cases g1
  show isK k its.toArray[ns.idxOf k]=true
  rw [List.getElem_toArray,g2]
  simp [isK]
 ·have h1:m < its.length:=by rw [List.size_toArray] at hm;exact hm
  obtain⟨n',t',g1,g2⟩:=ints_get hi m h1
  show isK k its.toArray[m]=false
  rw [List.getElem_toArray,g2]
  have:n'≠k:=fun z=>by
   subst z
   have:=idx_le g1
   omega
  simp [isK,this]
 ·refine⟨.non,_,I.lset (its':=its.eraseIdx (ns.idxOf k)) (ys:=(ns.erase k).map V.int) hH e (by simp [Array.toList_eraseIdxIfInBounds,← Array.toList_inj]) ?_ ?_,rfl,q.at⟩
  ·rw [hej,erase_map]
   exact vals_eraseIdx r _
  ·rw [hej,List.length_map,List.length_eraseIdx]
   split <;> omega
theorem ints_vs {ι:List Addr}{H:Hp}:∀{ns:List Int}{vs:List V},VRs K ι H vs (ns.map PV.int)→vs=ns.map V.int
 | [],_,h=>by cases h;rfl
 | b::bs,_,h=>by
  cases h with
  | cons x t=>cases x;rw [ints_vs t];rfl
theorem ints_vr (ι:List Addr) (H:Hp):∀ns:List Int,VRs K ι H (ns.map V.int) (ns.map PV.int)
 | []=>.nil
 | n::ns=>.cons (.int n) (ints_vr ι H ns)
def rSortI (K:PySem.W.Frag):List V→Hp→VK→Prop:=fun xs H Q=>∃(p:Addr) (ns:List Int),xs=[.ref p]∧SqL K H p (ns.map V.int)∧ns.length < 64∧∀ms:List Int,ms.Perm ns→ms.Pairwise (·≤·)→newO H (.lst (ms.map V.int)) Q
theorem call_sortI (K:PySem.W.Frag) (hK:X.K=K):CallR X (.builtin "sorted") (rSortI K):=by
 subst hK
 intro pins s σ H xs us Q I r h
 obtain⟨p,ns,rfl,hq,h64,q⟩:=h
 obtain⟨u,rfl,rx⟩:=vals1 r
 cases rx
 obtain⟨its,r',pl,hz⟩:=I.list hq
 have hi:=intsAre_of r'
 have hl:=r'.length
 rw [List.length_map] at hl hz
 refine PyProof.Rows.sorted_ints pl.isList hi (by omega) fun out ms a1 a2 a3=>?_
 obtain⟨e,he⟩:=sortedAll_at s.heap its out
 refine⟨.ref (s.heap.objs.size+1),_,I.laid (t':=s.toks) (fun _ _=>sortedAll_old) (Nat.le_succ _) (show ObjOk X.prog X.w _ _ _ (.lst (ms.map V.int)) from⟨?_,out.toList,e,vals_ints a1,?_⟩),rfl,(q ms a2 a3).at _ (I.hok.fresh (Nat.le_succ _))⟩
 ·rw [List.length_map,a2.length_eq];exact hz
 ·rw [Array.toArray_toList];exact he
end
end PL
set_option Elab.async false
set_option linter.all false
set_option maxRecDepth 100000
namespace L2
open PySem PySem.Spec PyProof.Rows
theorem getAttrQ_miss_list {prog:Program}{w:World}{A:Around}{E:Value→Shared→Prop}{s:Shared}{a:Addr}{o:Obj}{xs:Array Value}{k:Nat}{name:Str}{Q:Option Value→Shared→Prop}
  (hx:s.heap.get? a=some o) (hc:o.cls=.type "list") (hdat:o.data=.seq xs k) (hd:o.dict=none) (hmiss:typeLookup (.type "list") name=pure none) (hname:(["__module__","__name__","__qualname__","__doc__","__annotations__"]:List Str).contains name=false) (hA:A.handled=none)
  (h:∀h' tk e,Heap.NewExcOf s.heap h' e "AttributeError"→Q none {s with heap:=h',toks:=tk}) (hsz:name.length+100≤sizeLine:=by size_fits) :
  wpAny (model prog w) A (getAttr? (.ref a) name) Q E s:=by
 obtain⟨c,dct,dat,sl⟩:=o
 simp only at hc hdat hd
 subst hc hdat hd
 obtain⟨hp,g,d,tk,os⟩:=s
 have hT:∀tk',(⟨hp,g,d,tk',os⟩:Shared).TypeIs (.ref a) "list":=fun _=>⟨_,hx,rfl⟩
 have f1:=sub_AttributeError
 have f3:=F.slot_list_getattribute.lookup
 have f4:=F.slot_list_getattribute.bind (.ref a)
 have f5:=am_list_getattr_none
 unfold getAttr? getAttrBy? getAttrBy
 repeat (any_goals (first | assumption | exact hT _ | ((with_reducible show wpAny _ _ (call (Value.builtin "list.__getattribute__") _ _) _ _ _);refine call_meets F.slot_list_getattribute (hT _) am_entry_list_getattribute (F.args_list_getattribute_2 _ _) (meets_getattribute_miss_list a xs k sl name _ hmiss hname hsz) ⟨hx,hA,fun h' tk' e hx'=>?_⟩) | wp_step))
 obtain⟨t',u',he⟩:=hx'.there
 show wpAny _ _ (getattributeRaised _ _ _ _ _ _ _) _ _ _
 unfold getattributeRaised
 repeat (any_goals (first | assumption | wp_step))
 exact h _ _ _ hx'.of
end L2
set_option Elab.async false
set_option linter.all false
set_option maxRecDepth 100000
namespace L2
open PySem PySem.Spec PyProof.Rows
theorem entry_update_loop:entryFor table "dict.update.loop"=some Builtin.«dict.update.loop»:=entryFor_of_fast (by kernel_rfl)
theorem plain_update_loop:plainId "dict.update.loop"=true:=by decide +kernel
section
variable {prog:Program}{w:World}{K:Type} [DecidableEq K] {knd:KeyKind prog w K}{A:Around}{R:Result→Shared→Prop}
def PairAt (knd:KeyKind prog w K) (h:Heap) (it d:Addr) (v:Value) (x:List K×Addr×Value):Prop:=
 ∃pa o n,v=.ref pa∧pa≠it∧pa≠d∧x.2.1≠it∧x.2.1≠d∧h.get? pa=some o∧o.cls=.type "tuple"∧o.data=.seq #[.ref x.2.1,x.2.2] n∧(tupleKind knd).is h x.1 x.2.1
theorem tk_keep {h h':Heap}{k:List K}{b:Addr} (x:(tupleKind knd).is h k b) (kp:∀o,h.get? b=some o→h'.get? b=some o):(tupleKind knd).is h' k b:=by
 obtain⟨o,its,n,h1,h2⟩:=x
 exact⟨o,its,n,kp _ h1,h2⟩
theorem PairAt.keep {h h':Heap}{it d:Addr}{v:Value}{x:List K×Addr×Value} (p:PairAt knd h it d v x) (kp:∀b o,b≠it→b≠d→h.get? b=some o→h'.get? b=some o):PairAt knd h' it d v x:=by
 obtain⟨pa,o,n,e,n1,n2,n3,n4,h1,h2,h3,h4⟩:=p
 exact⟨pa,o,n,e,n1,n2,n3,n4,kp _ _ n1 n2 h1,h2,h3,tk_keep h4 fun o q=>kp _ _ n3 n4 q⟩
theorem dh_keep {h h':Heap}{it d:Addr}{xs:List (List K×Addr×Value)} (m:h.DictOfH (tupleKind knd) d xs) (hd:d≠it) (hx:∀x∈xs,x.2.1≠it) (kp:∀b o,b≠it→h.get? b=some o→h'.get? b=some o):h'.DictOfH (tupleKind knd) d xs:=by
 obtain⟨o,es,ep,ho,hc,hd',he,his,hn⟩:=m
 exact⟨o,es,ep,kp _ _ hd ho,hc,hd',he,fun x q=>tk_keep (his x q) fun o z=>kp _ _ (hx x q) z,hn⟩
theorem storedH_mem {xs:List (List K×Addr×Value)}{k:List K}{b:Addr}{v:Value}{it:Addr} (hx:∀x∈xs,x.2.1≠it) (hb:b≠it):∀x∈storedH xs k b v,x.2.1≠it:=by
 intro x q
 unfold storedH at q
 split at q
 ·obtain⟨y,hy,rfl⟩:=List.mem_map.mp q
  have e:(putAt k v y).2.1=y.2.1:=by unfold putAt;split <;> rfl
  rw [e]
  exact hx y hy
 ·rcases List.mem_append.mp q with q | q
  ·exact hx x q
  ·rw [List.mem_singleton.mp q];exact hb
theorem storedH_len {xs:List (List K×Addr×Value)}{k:List K}{b:Addr}{v:Value}:(storedH xs k b v).length≤xs.length+1:=by
 unfold storedH
 split <;> simp
theorem update_loop (hA:A.handled=none) (hu:A.units+1 < cLine) {d it l:Addr}{items:Array Value} (hz:items.size+items.size≤sizeLine) (hdi:d≠it) (hli:l≠it) (hld:l≠d) :
  ∀(k i:Nat) (ys xs:List (List K×Addr×Value)) (s:Shared),items.size-i=k→i≤items.size→ys.length=items.size-i→xs.length≤i→s.heap.IsListIter it l i→s.heap.IsList l items→s.heap.DictOfH (tupleKind knd) d xs→(∀x∈xs,x.2.1≠it)→
   (∀j x,ys[j]?=some x→∃v,items[i+j]?=some v∧PairAt knd s.heap it d v x)→
   (∀h' tk,h'.DictOfH (tupleKind knd) d (ys.foldl (fun a y=>storedH a y.1 y.2.1 y.2.2) xs)→(∀b o,b≠it→b≠d→s.heap.get? b=some o→h'.get? b=some o)→R (.ok (.ret .none)) {s with heap:=h',toks:=tk})→
   codeAny (model prog w) A (.builtin "dict.update.loop" ⟨[.ref d,.ref it,rawInt i,.none],[]⟩) R s:=by
 intro k
 induction k with
 | zero=>
  intro i ys xs s hk hi hy hxl hit hl hd hx hp q
  have e0:ys=[]:=List.eq_nil_of_length_eq_zero (by omega)
  subst e0
  refine codeAny_builtin entry_update_loop ?_
  rw [Around.under_plainId plain_update_loop _]
  show wpAny _ A.in1 (pyNext (.ref it) >>= _) _ _ s
  refine wpAny_bind (wpAny_pyNext_list_end (A:=A.in1) hA hit hl (by rw [Array.getElem?_eq_none];omega) fun h' ex=>?_)
  show wpAny _ A.in1 (Builtin.Dict.addKeywords d [] >>= _) _ _ _
  have kp:∀b o,b≠it→s.heap.get? b=some o→h'.get? b=some o:=ex
  exact wpAny_bind (wpAny_pure (wpAny_pure (q h' s.toks (dh_keep hd hdi hx kp) fun b o n1 _ e=>kp b o n1 e)))
 | succ k ih=>
  intro i ys xs s hk hi hy hxl hit hl hd hx hp q
  have hlt:i < items.size:=by omega
  match ys,hy,hp,q with
  | [],hy,_,_=>exact absurd hy (by simp only [List.length_nil];omega)
  | y::ys,hy,hp,q=>
  obtain⟨v,hv,pa⟩:=hp 0 y rfl
  refine codeAny_builtin entry_update_loop ?_
  rw [Around.under_plainId plain_update_loop _]
  show wpAny _ A.in1 (pyNext (.ref it) >>= _) _ _ s
  refine wpAny_bind (wpAny_pyNext_list_item hit hl (by simpa using hv) fun h1 hit1 sb=>?_)
  have kp1:∀b o,b≠it→s.heap.get? b=some o→h1.get? b=some o:=fun b o hb e=>(sb.2 b hb).trans e
  have pa1:=pa.keep fun b o n1 _ e=>kp1 b o n1 e
  have hd1:=dh_keep hd hdi hx kp1
  have hl1:h1.IsList l items:=let ⟨o,e,p⟩:=hl;⟨o,kp1 _ _ hli e,p⟩
  obtain⟨p,o,n,rfl,n1,n2,n3,n4,g1,g2,g3,g4⟩:=pa1
  show wpAny _ A.in1 (holding [Value.ref p] _ >>= _) _ _ _
  refine wpAny_bind (wpAny_holding (wpAny_bind (wpAny_tryCatch ?_)))
  unfold Builtin.Dict.pairItems
  refine wpAny_bind (wpAny_typeOf (T:="tuple") ⟨_,g1,g2⟩ ?_)
  rw [if_pos (by decide)]
  refine wpAny_bind (wpAny_seqItems g1 g3 (wpAny_pure ?_))
  show wpAny _ A.in1 (holding [Value.ref y.2.1,y.2.2] (dictSet d (.ref y.2.1) y.2.2)) _ _ _
  refine wpAny_holding (wpAny_dictSet_heap (knd:=tupleKind knd) (tupleKind_room_in1 hu) g4 hd1 (fun h2 hd2 sb2=>?_) (by omega))
  have kp2:∀b o,b≠d→h1.get? b=some o→h2.get? b=some o:=fun b o hb e=>(sb2.2 b hb).trans e
  refine wpAny_pure ⟨plainId_quiet plain_update_loop _,?_⟩
  have ei:((i:Int)+1)=((i+1:Nat):Int):=by omega
  have kp:∀b o,b≠it→b≠d→s.heap.get? b=some o→h2.get? b=some o:=fun b o a1 a2 e=>kp2 _ _ a2 (kp1 _ _ a1 e)
  show codeAny _ A (.builtin "dict.update.loop" ⟨[.ref d,.ref it,rawInt ((i:Int)+1),.none],[]⟩) R _
  rw [ei]
  refine ih (i+1) ys (storedH xs y.1 y.2.1 y.2.2) _ (by omega) (by omega) (by rw [List.length_cons] at hy;omega) (Nat.le_trans storedH_len (by omega)) ?_ ?_ hd2 (storedH_mem hx n3) (fun j x hj=>?_) (fun h' tk dd k3=>?_)
  ·obtain⟨o',e1,e2⟩:=hit1
   exact⟨o',kp2 _ _ (Ne.symm hdi) e1,e2⟩
  ·obtain⟨o',e1,e2⟩:=hl1
   exact⟨o',kp2 _ _ hld e1,e2⟩
  ·obtain⟨v',h3,h4⟩:=hp (j+1) x hj
   exact⟨v',by rw [show i+1+j=i+(j+1) by omega];exact h3,h4.keep kp⟩
  ·exact q h' tk dd fun b o a1 a2 e=>k3 b o a1 a2 (kp b o a1 a2 e)
end
end L2
set_option Elab.async false
set_option linter.all false
set_option maxRecDepth 100000
namespace L2
open PySem PySem.Spec PyProof.Rows
theorem list_no_keys:typeLookup (.type "list") (Str.ofString "keys")=pure none:=am_miss_of_fast (by decide +kernel)
section
variable {prog:Program}{w:World}{K:Type} [DecidableEq K] {knd:KeyKind prog w K}{A:Around}{E:Value→Shared→Prop}{s:Shared}
theorem call_dict_pairs {l:Addr}{o:Obj}{items:Array Value}{n:Nat}{ys:List (List K×Addr×Value)}{Q:Value→Shared→Prop} (hA:A.handled=none) (hu:A.units+2 < cLine) (ho:s.heap.get? l=some o) (hc:o.cls=.type "list") (hdat:o.data=.seq items n) (hd:o.dict=none)
  (hz:items.size+items.size≤sizeLine) (hy:ys.length=items.size)
  (hp:∀(j:Nat) (x:List K×Addr×Value),ys[j]?=some x→∃(pa:Addr) (op:Obj) (m:Nat),items[j]?=some (Value.ref pa)∧s.heap.get? pa=some op∧op.cls=.type "tuple"∧op.data=.seq #[Value.ref x.2.1,x.2.2] m∧(tupleKind knd).is s.heap x.1 x.2.1)
  (q:∀h' tk,(∀b o,s.heap.get? b=some o→h'.get? b=some o)→h'.DictOfH (tupleKind knd) s.heap.objs.size (ys.foldl (fun a y=>storedH a y.1 y.2.1 y.2.2) [])→Q (.ref s.heap.objs.size) {s with heap:=h',toks:=tk}) :
  wpAny (model prog w) A (call (.type "dict") [.ref l]) Q E s:=by
 refine callType_codes (Q₁:=fun obj s₁=>obj=.ref s.heap.objs.size∧s₁={s with heap:=s.heap.push {cls:=.type "dict",data:=.dict #[]}}) F.kt_called_dict (F.kt_typeCall_dict_1 _) F.entry_dict_init (kt_code_dict_new _ ⟨rfl,rfl⟩) ?_
 rintro obj s₁ ⟨rfl,rfl⟩
 have kp0:∀b o,s.heap.get? b=some o→(s.heap.push {cls:=.type "dict",data:=.dict #[]}).get? b=some o:=fun b o e=>Heap.get?_push_of_some _ e
 have hnew:(s.heap.push {cls:=.type "dict",data:=.dict #[]}).DictOf knd s.heap.objs.size []:=Heap.DictOf.new s.heap
 have hnewH:(s.heap.push {cls:=.type "dict",data:=.dict #[]}).DictOfH (tupleKind knd) s.heap.objs.size []:=⟨_,#[],0,Heap.get?_push_size _ rfl,⟨rfl,rfl,rfl⟩,rfl,rfl,fun x hx=>absurd hx (List.not_mem_nil),List.nodup_nil⟩
 have ls:∀b o,s.heap.get? b=some o→b≠s.heap.objs.size:=fun b o e z=>by subst z;exact Nat.lt_irrefl _ (Heap.lt_size e)
 refine⟨hnew.typeIs,F.args_dict_init_2 _ _,?_⟩
 unfold Builtin.«dict.__init__»
 refine wpAny_bind ?_
 unfold Builtin.Dict.selfAndRest
 refine wpAny_bind (wpAny_notOrdered_dict hnew.typeIs ?_)
 show wpAny _ _ (pure (s.heap.objs.size,[Value.ref l])) _ _ _
 refine wpAny_pure ?_
 show wpAny _ _ (Builtin.Dict.updateFrom "dict.__init__" s.heap.objs.size (.ref l) [] .none) _ _ _
 unfold Builtin.Dict.updateFrom
 refine wpAny_bind (wpAny_typeOf (T:="list") ⟨_,kp0 _ _ ho,hc⟩ ?_)
 rw [if_pos (by decide)]
 refine wpAny_bind (getAttrQ_miss_list (kp0 _ _ ho) hc hdat hd list_no_keys (by decide +kernel) hA (fun h1 tk e nx=>?_) (by decide))
 rw [if_pos (by rfl)]
 refine wpAny_bind (wpAny_rule (wpAny_bind ?_))
 refine wpAny_pyIter_list (items:=items) ⟨_,nx.keeps _ _ (kp0 _ _ ho),hc,n,hdat⟩ ?_
 have hsz:s.heap.objs.size < h1.objs.size:=Heap.lt_size (nx.keeps _ _ (Heap.get?_push_size s.heap rfl))
 have kp1:∀b o,s.heap.get? b=some o→(h1.push {cls:=.type "list_iterator",data:=.fields #[.ref l,.int 0 0]}).get? b=some o:=fun b o e=>Heap.get?_push_of_some _ (nx.keeps _ _ (kp0 _ _ e))
 have ni:∀b o,s.heap.get? b=some o→b≠h1.objs.size:=fun b o e z=>by
  have h3:=Heap.lt_size e
  subst z
  exact Nat.lt_irrefl _ (Nat.lt_trans h3 hsz)
 refine wpAny_pure ⟨plainId_quiet plain_update_loop _,?_⟩
 refine update_loop (A:=A.in1) (knd:=knd) hA (by show A.units+1+1 < _;omega) (items:=items) (d:=s.heap.objs.size) (it:=h1.objs.size) (l:=l) hz (Nat.ne_of_lt hsz) (ni _ _ ho) (ls _ _ ho) items.size 0 ys [] _ (Nat.sub_zero _) (Nat.zero_le _) (by rw [hy];rfl) (Nat.le_refl _)
  ⟨_,Heap.get?_push_size _ rfl,rfl,rfl⟩ ⟨_,kp1 _ _ ho,hc,n,hdat⟩ ?_ (fun x hx=>nomatch hx) (fun j x hj=>?_) (fun h' tk' dd kp=>?_)
 ·refine dh_keep (it:=h1.objs.size) hnewH (Nat.ne_of_lt hsz) (fun x hx=>nomatch hx) fun b o _ e=>Heap.get?_push_of_some _ (nx.keeps _ _ e)
 ·obtain⟨pa,op,m,e1,e2,e3,e4,e5⟩:=hp j x hj
  have kb:∃ob,s.heap.get? x.2.1=some ob:=let ⟨ob,_,_,z,_⟩:=e5;⟨ob,z⟩
  obtain⟨ob,eb⟩:=kb
  exact⟨.ref pa,by rw [Nat.zero_add];exact e1,pa,op,m,rfl,ni _ _ e2,ls _ _ e2,ni _ _ eb,ls _ _ eb,kp1 _ _ e2,e3,e4,tk_keep e5 fun o z=>kp1 _ _ z⟩
 ·exact⟨rfl,q h' tk' (fun b o e=>kp b o (ni _ _ e) (ls _ _ e) (kp1 _ _ e)) dd⟩
end
end L2
set_option Elab.async false
set_option linter.all false
set_option maxRecDepth 100000
namespace L2
open PySem PySem.Spec PyProof.Rows
structure Pz where
 pa:Addr
 k:List Key
 b:Addr
 v:V
def Pz.At (H:Hp) (z:Pz):Prop:=H z.pa=some (.tup [.ref z.b,z.v])∧H z.b=some (.tup (z.k.map kV))
def rDictP (K:PySem.W.Frag):List V→Hp→VK→Prop:=fun xs H Q=>∃(p:Addr) (zs:List Pz),xs=[.ref p]∧SqL K H p (zs.map fun z=>.ref z.pa)∧(∀z∈zs,z.At H)∧(zs.map (·.k)).Nodup∧zs.length≤1000∧newO H (.dT (zs.map fun z=>(z.k,z.v))) Q
theorem fold_stored {K:Type} [DecidableEq K]:∀(ys xs:List (K×Addr×Value)),((xs++ys).map (·.1)).Nodup→ys.foldl (fun a y=>storedH a y.1 y.2.1 y.2.2) xs=xs++ys
 | [],xs,_=>by simp
 | y::ys,xs,h=>by
  have hn:atKey xs y.1=none:=by
   cases e:atKey xs y.1 with
   | none=>rfl
   | some p=>
    exfalso
    rw [List.map_append,List.map_cons] at h
    have h2:=(List.nodup_append.mp h).2.2
    have hm:y.1∈xs.map (·.1):=by
     by_cases hc:y.1∈xs.map (·.1)
     ·exact hc
     ·rw [atKey_none_of_get (fun j q hj=>?_)] at e
      ·cases e
      ·exact hc (List.mem_map.mpr ⟨_,List.mem_of_getElem? hj,rfl⟩)
    exact h2 _ hm _ List.mem_cons_self rfl
  rw [List.foldl_cons,storedH_new hn,fold_stored ys (xs++[(y.1,y.2.1,y.2.2)]) (by simpa using h)]
  simp
section
variable {X:Cx}
theorem call_dictP (K:PySem.W.Frag) (hK:X.K=K) (hc:X.calm=true) (hu:X.A.units+2 < cLine):CallR X (.type "dict") (rDictP K):=by
 subst hK
 intro pins s σ H xs us Q I r h
 obtain⟨p,zs,rfl,hq,hz,hn,hl,q⟩:=h
 obtain⟨u,rfl,rx⟩:=vals1 r
 cases rx
 obtain⟨its,rv,pl,hsz⟩:=I.list hq
 obtain⟨o,n,ho,hc',hd,hdat⟩:=pl
 have build:∀(zs:List Pz) (its:List Value),(∀z∈zs,z.At H)→Vals (zs.map fun z=>V.ref z.pa) its→∃ys:List (List Key×Addr×Value),ys.map (·.1)=zs.map (·.k)∧KT H (zs.map fun z=>(z.k,z.v)) ys∧
   ∀(j:Nat) (x:List Key×Addr×Value),ys[j]?=some x→∃(pa:Addr) (op:Obj) (m:Nat),its[j]?=some (Value.ref pa)∧s.heap.get? pa=some op∧op.cls=.type "tuple"∧op.data=.seq #[Value.ref x.2.1,x.2.2] m∧(tupleKind (mixKind X.prog X.w)).is s.heap x.1 x.2.1:=by
  intro zs
  induction zs with
  | nil=>intro its _ _;exact⟨[],rfl,.nil,fun j x h=>by simp at h⟩
  | cons z zs ih=>
   intro its ha hv
   cases hv with
   | @cons _ u _ us ru rus=>
   cases ru
   obtain⟨ys,e1,e2,e3⟩:=ih us (fun y hy=>ha y (List.mem_cons_of_mem _ hy)) rus
   obtain⟨a1,a2⟩:=ha z List.mem_cons_self
   obtain⟨_,its',r',op,h1,h2,m,h3⟩:=(show ObjOk X.prog X.w H s.heap z.pa (.tup [.ref z.b,z.v]) from I.hok _ _ a1)
   obtain⟨w,rfl,rw'⟩:∃w,its'=[Value.ref z.b,w]∧RelV z.v w:=by
    cases r' with
    | cons q1 q2=>cases q1;cases q2 with
     | cons q3 q4=>cases q4;exact⟨_,rfl,q3⟩
   refine⟨(z.k,z.b,w)::ys,by rw [List.map_cons,List.map_cons,e1],.cons ⟨rfl,a2,rw'⟩ e2,fun j x hj=>?_⟩
   cases j with
   | zero=>
    cases hj
    exact⟨z.pa,op,m,rfl,h1,h2,h3,key_of I.hok a2⟩
   | succ j=>exact e3 j x hj
 obtain⟨ys,e1,e2,e3⟩:=build zs its hz rv
 have hlen:=rv.length
 rw [List.length_map] at hlen
 have hyl:ys.length=zs.length:=by have:=congrArg List.length e1;simpa using this
 have hs:(1000:Nat)+1000≤sizeLine:=by decide
 refine call_dict_pairs (knd:=mixKind X.prog X.w) (items:=its.toArray) (ys:=ys) (I.ok.hd hc) hu ho hc' hdat hd (by rw [List.size_toArray];omega) (by rw [List.size_toArray];omega) (fun j x hj=>?_) (fun h' tk kp dd=>?_)
 ·obtain⟨pa,op,m,g1,g2⟩:=e3 j x hj
  exact⟨pa,op,m,by rw [List.getElem?_toArray];exact g1,g2⟩
 ·rw [fold_stored ys [] (by rw [List.nil_append,e1];exact hn),List.nil_append] at dd
  obtain⟨od,es,ep,hq',h2,h3,h4,_,h5⟩:=dd
  have hbig:(s.heap.objs.size==sysModules)=false:=beq_eq_false_iff_ne.mpr (Ne.symm (Nat.ne_of_lt I.big))
  have fr:=I.hok.fresh (Nat.le_refl s.heap.objs.size)
  refine⟨.ref s.heap.objs.size,_,I.laid (t':=tk) kp (Nat.le_refl _) (show ObjOk X.prog X.w (upd H s.heap.objs.size (.dT (zs.map fun z=>(z.k,z.v)))) h' _ (.dT _) from⟨?_,hbig,ys,?_,od,es,ep,hq',h2,h3,h4,h5⟩),rfl,q.at _ fr⟩
  ·rw [List.length_map];exact Nat.le_trans hl (by decide)
  ·refine e2.keeps fun c xs ec=>?_
   rw [upd_ne (fun z=>by subst z;rw [fr] at ec;cases ec)]
   exact ec
end
end L2
set_option Elab.async false
set_option linter.all false
set_option maxRecDepth 100000
namespace L2
open PySem PySem.Spec PyProof.Rows
section
variable {prog:Program}{w:World}{A:Around}{E:Value→Shared→Prop}{s:Shared}
def RawD (h:Heap) (d:Addr) (es:Array DictEntry) (ep:Nat):Prop:=∃o,h.get? d=some o∧o.ExactDict∧o.data=.dict es ep
theorem keyOwn0:Builtin.Dict_items.ownsTuple "dict_keyiterator"=false:=by decide
theorem next_key {it d:Addr}{i ep:Nat}{es:Array DictEntry}{Q:Option Value→Shared→Prop} (hit:s.heap.IsKeyIter it d i es.size ep) (hm:RawD s.heap d es ep) (hi:i < es.size)
  (q:∀h',h'.IsKeyIter it d (i+1) es.size ep→Heap.SameBut it s.heap h'→Q (some es[i].key) {s with heap:=h'}):wpAny (model prog w) A (pyNext (.ref it)) Q E s:=by
 have ty:=hit.typeIs
 obtain⟨o,ho,hc,hd⟩:=id hit
 obtain⟨od,hod,-,hdd⟩:=hm
 have hit':(s.heap.update it (Obj.mapFields (·.setIfInBounds 1 (rawInt ((i:Int)+1))))).IsKeyIter it d (i+1) es.size ep:=⟨_,Heap.get?_update_self _ ho (Obj.isFreed_of_fields (Obj.data_mapFields hd _)),(Obj.cls_mapFields ..).trans hc,by rw [Obj.data_mapFields hd];simp [rawInt]⟩
 unfold pyNext
 refine wpAny_bind (wpAny_attempt (wpAny_callSpecial?_slot (name:=Str.ofString "__next__") ty F.slot_dict_keyiterator_next (wpAny_call_entry F.slot_dict_keyiterator_next ty F.entry_dict_keyiterator_next ?_ (F.args_dict_keyiterator_next_1 _))))
 refine wpAny_bind (wpAny_pure (wpAny_bind (wpAny_bind ?_)))
 first | refine wpAny_bind (wpAny_typeNameOfWhole_keyiter ty (wpAny_pure ?_)) | refine wpAny_bind (wpAny_typeNameOf_keyiter ty (wpAny_pure ?_))
 refine wpAny_bind (wpAny_fieldsOf ho hd ?_)
 rw [keyOwn0]
 show wpAny _ _ (if (Value.ref d==Value.none)=true then _ else _) _ _ s
 rw [if_neg (fun z:(Value.ref d==Value.none)=true=>Bool.false_ne_true z)]
 refine wpAny_bind (wpAny_pure (wpAny_bind (wpAny_dictEntries hod hdd ?_)))
 rw [if_neg (by simp)]
 refine wpAny_bind (wpAny_pure (wpAny_bind (wpAny_dictEpoch hod hdd ?_)))
 rw [if_neg (by simp)]
 refine wpAny_pure ?_
 have i0:¬((i:Int) < 0):=by omega
 simp only [i0,if_false,Int.toNat_natCast,Array.getElem?_eq_getElem hi]
 refine wpAny_bind ?_
 first | refine wpAny_bind (wpAny_typeNameOfWhole_keyiter ty (wpAny_pure ?_)) | refine wpAny_bind (wpAny_typeNameOf_keyiter ty (wpAny_pure ?_))
 refine wpAny_bind (wpAny_isOneOf_keyiter ty ?_)
 show wpAny _ _ (setField (.ref it) 1 (rawInt ((i:Int)+1)) >>= _) _ _ s
 refine wpAny_bind (wpAny_setField ho hd (by simp) (wpAny_bind (wpAny_holding (wpAny_bind (wpAny_isOneOf_keyiter (s:={s with heap:=s.heap.update it (Obj.mapFields (·.setIfInBounds 1 (rawInt ((i:Int)+1))))}) hit'.typeIs ?_)))))
 show wpAny _ _ (pure es[i].key) _ _ _
 exact wpAny_pure (wpAny_pure ⟨_,rfl,wpAny_pure (q _ hit' (Heap.SameBut.update ..))⟩)
theorem end_key {it d:Addr}{i ep:Nat}{es:Array DictEntry}{Q:Option Value→Shared→Prop} (hh:A.handled=none) (hit:s.heap.IsKeyIter it d i es.size ep) (hm:RawD s.heap d es ep) (hi:es.size≤i)
  (q:∀h',Heap.ExtBut it s.heap h'→Q none {s with heap:=h'}):wpAny (model prog w) A (pyNext (.ref it)) Q E s:=by
 have ty:=hit.typeIs
 obtain⟨o,ho,hc,hd⟩:=id hit
 obtain⟨od,hod,-,hdd⟩:=hm
 unfold pyNext
 refine wpAny_bind (wpAny_attempt (wpAny_callSpecial?_slot (name:=Str.ofString "__next__") ty F.slot_dict_keyiterator_next (wpAny_call_entry F.slot_dict_keyiterator_next ty F.entry_dict_keyiterator_next ?_ (F.args_dict_keyiterator_next_1 _))))
 refine wpAny_bind (wpAny_pure (wpAny_bind (wpAny_bind ?_)))
 first | refine wpAny_bind (wpAny_typeNameOfWhole_keyiter ty (wpAny_pure ?_)) | refine wpAny_bind (wpAny_typeNameOf_keyiter ty (wpAny_pure ?_))
 refine wpAny_bind (wpAny_fieldsOf ho hd ?_)
 rw [keyOwn0]
 show wpAny _ _ (if (Value.ref d==Value.none)=true then _ else _) _ _ s
 rw [if_neg (fun z:(Value.ref d==Value.none)=true=>Bool.false_ne_true z)]
 refine wpAny_bind (wpAny_pure (wpAny_bind (wpAny_dictEntries hod hdd ?_)))
 rw [if_neg (by simp)]
 refine wpAny_bind (wpAny_pure (wpAny_bind (wpAny_dictEpoch hod hdd ?_)))
 rw [if_neg (by simp)]
 refine wpAny_pure ?_
 have i0:¬((i:Int) < 0):=by omega
 simp only [i0,if_false,Int.toNat_natCast,Array.getElem?_eq_none hi]
 refine wpAny_bind ?_
 first | refine wpAny_bind (wpAny_typeNameOfWhole_keyiter ty (wpAny_pure ?_)) | refine wpAny_bind (wpAny_typeNameOf_keyiter ty (wpAny_pure ?_))
 show wpAny _ _ (setField (.ref it) 0 .none >>= _) _ _ s
 refine wpAny_bind (wpAny_setField ho hd (by simp) ?_)
 show wpAny _ _ (newExc (.type "StopIteration") [] >>= _) _ _ _
 refine wpAny_bind ?_
 unfold newExc newTuple
 refine wpAny_bind (wpAny_newObj_type (wpAny_bind (m:=firstArgMember _ _) (wpAny_of_eq (a:=Value.none) (by first | rfl | (simp only [firstArgMember];rfl)) (wpAny_newObj_type ?_ (by size_fits)))) (by size_fits))
 unfold raiseNew
 refine wpAny_bind (wpAny_handled ?_)
 rw [show A.in1.handled=none from hh]
 refine wpAny_bind (wpAny_pure (wpAny_throw ?_))
 refine wpAny_bind (wpAny_isInstance (T:="StopIteration") (b:=true) ⟨_,Heap.get?_push_size _ rfl,rfl⟩ isSubtype_stop ?_)
 exact wpAny_pure (q _ (((Heap.SameBut.update ..).extBut.push _).push _))
theorem iter_key {d:Addr}{es:Array DictEntry}{ep:Nat}{Q:Value→Shared→Prop} (hs:(d==sysModules)=false) (hm:RawD s.heap d es ep)
  (q:Q (.ref s.heap.objs.size) {s with heap:=s.heap.push {cls:=.type "dict_keyiterator",data:=.fields #[.ref d,.int 0 0,.int es.size 0,.int ep 0]}}):wpAny (model prog w) A (pyIter (.ref d)) Q E s:=by
 obtain⟨od,hod,hx,hdd⟩:=hm
 have ty:s.TypeIs (.ref d) "dict":=⟨_,hod,hx.1⟩
 refine wpAny_pyIter_slot ty F.slot_dict_iter (wpAny_call_entry F.slot_dict_iter ty F.entry_dict_iter ?_ (F.args_dict_iter_1 _))
 unfold Builtin.«dict.__iter__»
 refine wpAny_bind ?_
 unfold Builtin.Dict.dictSlotNone
 refine wpAny_bind (wpAny_notOrdered_dict ty ?_)
 show wpAny _ _ (pure (Value.ref d)) _ _ s
 refine wpAny_pure ?_
 show wpAny _ _ (Builtin.Dict.showsAll d >>= _) _ _ s
 unfold Builtin.Dict.showsAll
 rw [if_neg (by rw [hs];exact Bool.false_ne_true)]
 refine wpAny_bind (wpAny_pure (wpAny_bind (wpAny_dictEntries hod hdd (wpAny_bind (wpAny_dictEpoch hod hdd ?_)))))
 exact wpAny_bind (wpAny_newObj_type (wpAny_pure ⟨_,rfl,"dict_keyiterator",_,⟨_,Heap.get?_push_size _ rfl,rfl⟩,F.slot_dict_keyiterator_next.lookup,q⟩))
end
end L2
set_option Elab.async false
set_option linter.all false
set_option maxRecDepth 100000
namespace L2
open PySem PySem.Spec PyProof.Rows
section
variable {X:Cx}{pins:List (Addr×Obj)}{σ:St}{H:Hp}{s:Shared}{a:Addr}{kvs:List (List Key×V)}
theorem Inv.freeze (I:Inv X pins σ H s) (e:H a=some (.dT kvs)):∃o,Inv X pins σ (upd H a (.frz o (.dT kvs))) s:=by
 obtain⟨z,hs,xs,r,o,es,ep,h1,h2,h3,h4,h5⟩:=(show ObjOk X.prog X.w H s.heap a (.dT kvs) from I.hok a _ e)
 refine⟨o,?_⟩
 have q:=I.write (x:=a) (e:=a) (o:=.frz o (.dT kvs)) (h':=s.heap) (t':=s.toks) (by rw [e];exact True.intro) (.inl rfl) (fun b u _ z=>z) ⟨o,h1⟩
  ⟨h1,z,hs,xs,KT.keeps r fun b ys eb=>by rw [upd_ne (ne_of eb e (fun z=>nomatch z))];exact eb,o,es,ep,h1,h2,h3,h4,h5⟩
 exact q
theorem Inv.thaw {o:Obj}{u:HO} (I:Inv X pins σ H s) (e:H a=some (.frz o u)) (h0:∀o u,X.H₀ a≠some (.frz o u)) (hu:ObjOk X.prog X.w (upd H a u) s.heap a u) (hok:HOk X.prog X.w (upd H a u) s.heap):Inv X pins σ (upd H a u) s:=by
 have ne:∀b v,H b=v→v≠some (.frz o u)→b≠a:=fun b v q n z=>by subst z;exact n (q.symm.trans e)
 refine⟨I.ok,I.os,I.bare,⟨I.base.keep,I.base.slot,fun b ob q n hx=>?_,I.base.there,fun b xs q=>?_,fun b ob xs q=>?_,fun b ps q=>?_⟩,I.loc,I.cell,?_,fun x c q=>?_,fun p hp=>?_,hok,I.len⟩
 ·have:=I.base.free b ob q n hx
  rw [upd_ne (ne b _ this (by simp))];exact this
 ·have:=I.base.tups b xs q
  rw [upd_ne (ne b _ this (by simp))];exact this
 ·have:=I.base.frzs b ob xs q
  have hb:b≠a:=fun z=>by subst z;exact h0 _ _ q
  rw [upd_ne hb];exact this
 ·obtain⟨m,this⟩:=I.base.tbls b ps q
  exact⟨m,by rw [upd_ne (ne b _ this (by simp))];exact this⟩
 ·rw [upd_ne (ne _ _ I.free (by simp))];exact I.free
 ·rw [upd_ne (ne _ _ (I.freeC x c q) (by simp))];exact I.freeC x c q
 ·obtain⟨p1,p2,p3⟩:=I.pin p hp
  exact⟨p1,by rw [upd_ne (ne _ _ p2 (by simp))];exact p2,p3⟩
end
def ItDz (a:Addr) (o:Obj):It:=
 ⟨fun i H=>∃kvs,H a=some (.frz o (.dT kvs))∧i < kvs.length,fun i H x H'=>H'=H∧∀kvs,H a=some (.frz o (.dT kvs))→∃b k v,x=.ref b∧kvs[i]?=some (k,v)∧H b=some (.tup (k.map kV)),fun i H=>∃kvs,H a=some (.frz o (.dT kvs))∧kvs.length≤i⟩
theorem fz_raw {P:Program}{w:World}{H:Hp}{h:Heap}{a:Addr}{o:Obj}{kvs:List (List Key×V)}{es:Array DictEntry}{ep:Nat} (x:ObjOk P w H h a (.frz o (.dT kvs))) (hd:o.data=.dict es ep) :
  RawD h a es ep∧es.size=kvs.length∧∀(i:Nat) (hi:i < es.size),∃b k v,es[i].key=.ref b∧kvs[i]?=some (k,v)∧H b=some (.tup (k.map kV)):=by
 obtain⟨e,z,hs,xs,r,o',es',ep',h1,h2,h3,h4,h5⟩:=x
 rw [e] at h1
 cases h1
 rw [hd] at h3
 cases h3
 have hl:es.size=xs.length:=by have:=congrArg List.length h4;simpa using this
 refine⟨⟨o,e,h2,hd⟩,hl.trans (Paired.length r).symm,fun i hi=>?_⟩
 have hx:xs[i]?=some (xs[i]'(by omega)):=List.getElem?_eq_getElem _
 have pg:∀{l:List (List Key×V)}{m:List (List Key×Addr×Value)}{i:Nat}{q:List Key×Addr×Value},KT H l m→m[i]?=some q→∃v,l[i]?=some (q.1,v)∧H q.2.1=some (.tup (q.1.map kV)):=by
  intro l m i q t
  induction t generalizing i with
  | nil=>intro h;simp at h
  | @cons p q' ps qs hq t ih=>
   intro h
   cases i with
   | zero=>
    cases h
    obtain⟨p1,p2⟩:=p
    have e1:p1=q.1:=hq.1
    subst e1
    exact⟨p2,rfl,hq.2.1⟩
   | succ i=>exact ih (by simpa using h)
 obtain⟨v,g1,g2⟩:=pg r hx
 refine⟨_,_,v,?_,g1,g2⟩
 have:es[i]=entryOfKey (tupleKind (mixKind P w)) (xs[i]'(by omega)):=by
  have h6:es.toList[i]?=some (entryOfKey (tupleKind (mixKind P w)) (xs[i]'(by omega))):=by rw [h4,List.getElem?_map,hx];rfl
  rw [Array.getElem?_toList,Array.getElem?_eq_getElem hi] at h6
  exact Option.some.inj h6
 rw [this]
 rfl
theorem turn_dict {P:Program}{w:World}{K:PySem.W.Frag}{tg:Expr} (a it:Addr) (o:Obj) {es:Array DictEntry}{ep:Nat} (hd:o.data=.dict es ep):Turn P w K tg (ItDz a o) [it] it (fun i h=>h.IsKeyIter it a i es.size ep) where
 mem:=by simp
 obj:=fun i h st b hb=>by
  have e:b=it:=by simpa using hb
  subst e
  obtain⟨o,e,c,d⟩:=st
  exact⟨o,e,fun v z=>by rw [d] at z;cases z⟩
 keep:=fun i h h' st k=>st.at fun o e=>k it (by simp) o e
 item:=by
  intro X hP hw hK hc i pins s σ H E I hf st hg
  subst hP hw hK
  obtain⟨kvs,hq,hx⟩:=hg
  obtain⟨raw,hl,ky⟩:=fz_raw (I.hok a _ hq) hd
  obtain⟨b,k,v,k1,k2,k3⟩:=ky i (by omega)
  obtain⟨f0,f1,f2,f3,f4,f5⟩:=hf it (by simp)
  refine next_key st raw (by omega) fun h' st' sb=>?_
  have I1:Inv X pins σ H {s with heap:=h'}:=I.turned (t':=s.toks) (fun b o hb e=>(sb.2 b hb).trans e) f0 f1 f3 f4 f5
  obtain⟨oi,e,c,d⟩:=id st'
  refine⟨_,rfl,go_of (s:={s with heap:=h'}) e c d (by decide) ⟨.ref b,H,I1,k1,⟨rfl,fun kvs' hq'=>?_⟩,st',fun b hb=>(hf b hb).1⟩⟩
  rw [hq] at hq'
  cases hq'
  exact⟨b,k,v,rfl,k2,k3⟩
 done:=by
  intro X hP hw hK hc i pins s σ H E I hf st hg
  subst hP hw hK
  obtain⟨kvs,hq,hx⟩:=hg
  obtain⟨raw,hl,ky⟩:=fz_raw (I.hok a _ hq) hd
  obtain⟨f0,f1,f2,f3,f4,f5⟩:=hf it (by simp)
  exact end_key (I.ok.hd hc) st raw (by omega) fun h' eb=>⟨rfl,I.turned (t':=s.toks) (fun b o hb e=>eb b o hb e) f0 f1 f3 f4 f5⟩
 self:=fun _ _ _ _ _ st h=>wpAny_pyIter_keyiter st h
def iDictZ (tl:TE):TI:=fun σ H R=>tl σ H fun x H1=>∃a o kvs,x=.ref a∧H1 a=some (.frz o (.dT kvs))∧R (ItDz a o) H1
theorem pi_dictZ {X:Cx}{tg l:Expr}{tl:TE} (hl:PE X l tl):PI X tg l (iDictZ tl):=by
 intro pins s σ H R I h
 refine thn (hl pins s σ H _ I h) fun v s1 ⟨x,H1,I1,r1,q1⟩=>?_
 obtain⟨a,o,kvs,e,hq,q⟩:=q1
 subst e
 cases r1
 obtain⟨eo,z,hs,xs,r,o',es,ep,h1,h2,h3,h4,h5⟩:=(show ObjOk X.prog X.w H1 s1.heap a (.frz o (.dT kvs)) from I1.hok a _ hq)
 rw [eo] at h1
 cases h1
 refine iter_key hs ⟨o,eo,h2,h3⟩ ?_
 refine⟨s1.heap.objs.size,[s1.heap.objs.size],_,_,H1,rfl,I1.kept (t':=s1.toks) fun b o e=>Heap.get?_push_of_some _ e,turn_dict a _ o h3,⟨_,Heap.get?_push_size _ rfl,rfl,rfl⟩,fun b hb=>?_,q⟩
 have e:b=s1.heap.objs.size:=by simpa using hb
 subst e
 exact I1.fpOk (Nat.le_refl _) (I1.hok.fresh (Nat.le_refl _))
end L2
set_option Elab.async false
set_option linter.all false
set_option maxRecDepth 100000
namespace FL
open PySem PySem.Spec PyProof.Rows L2 PL
variable {K:PySem.W.Frag}
structure W (α:Type) where
 run:(α→Prop)→Prop
 mono:∀{Q Q':α→Prop},(∀a,Q a→Q' a)→run Q→run Q'
namespace W
variable {α β γ:Type}
theorem ext' {a b:W α} (h:∀Q,a.run Q↔b.run Q):a=b:=by
 cases a;cases b;congr;funext Q;exact propext (h Q)
def ret (a:α):W α:=⟨fun Q=>Q a,fun h q=>h _ q⟩
def bind (w:W α) (k:α→W β):W β:=⟨fun Q=>w.run fun a=>(k a).run Q,fun h q=>w.mono (fun a q=>(k a).mono h q) q⟩
def fail:W α:=⟨fun _=>False,fun _ q=>q⟩
def chk (p:Prop) (w:W α):W α:=⟨fun Q=>p∧w.run Q,fun h q=>⟨q.1,w.mono h q.2⟩⟩
def any (p:α→Prop):W α:=⟨fun Q=>∀a,p a→Q a,fun h q a pa=>h a (q a pa)⟩
def ofO:Option α→W α
 | some a=>ret a
 | none=>fail
@[simp] theorem ret_bind (a:α) (k:α→W β):bind (ret a) k=k a:=(rfl)
@[simp] theorem bind_assoc (w:W α) (f:α→W β) (g:β→W γ):bind (bind w f) g=bind w fun a=>bind (f a) g:=(rfl)
@[simp] theorem bind_ret (w:W α):bind w ret=w:=(rfl)
@[simp] theorem fail_bind (k:α→W β):bind fail k=fail:=(rfl)
@[simp] theorem run_ret (a:α) (Q:α→Prop):(ret a).run Q=Q a:=(rfl)
@[simp] theorem run_bind (w:W α) (k:α→W β) (Q:β→Prop):(bind w k).run Q=w.run fun a=>(k a).run Q:=(rfl)
@[simp] theorem run_fail (Q:α→Prop):(fail:W α).run Q=False:=(rfl)
@[simp] theorem run_any (p Q:α→Prop):(any p).run Q=∀a,p a→Q a:=(rfl)
@[simp] theorem run_chk (p:Prop) (w:W α) (Q:α→Prop):(chk p w).run Q=(p∧w.run Q):=(rfl)
@[simp] theorem chk_bind (p:Prop) (w:W α) (k:α→W β):bind (chk p w) k=chk p (bind w k):=(rfl)
theorem chk_pos {p:Prop}{w:W α} (h:p):chk p w=w:=ext' fun Q=>⟨fun q=>q.2,fun q=>⟨h,q⟩⟩
@[simp] theorem chk_true {w:W α}:chk True w=w:=chk_pos trivial
@[simp] theorem ofO_some (a:α):ofO (some a)=ret a:=(rfl)
@[simp] theorem ofO_none:ofO (none:Option α)=fail:=(rfl)
end W
inductive SL where
 | val (v:PV) | adr (b:Addr) | ol (q:Option Addr) (l:List PV) | oll (bs:List Addr) (ls:List (List PV)) | od (kvs:List (Key×PV)) | ot (kvs:List (List Key×PV)) | pot (φ:List V→Prop)
abbrev FSt:=List (Option SL)
def SL.own:SL→Bool
 | .val _=>false
 | .adr _=>false
 | _=>true
def SL.inn:SL→List Addr
 | .oll bs _=>bs
 | _=>[]
def SL.has (s:SL) (x a:Addr):Prop:=a=x∨a∈s.inn
def OwnAt (K:PySem.W.Frag) (H:Hp) (a:Addr):SL→Prop
 | .val _=>False
 | .adr b=>a=b
 | .oll bs ls=>H a=some (.lst (bs.map V.ref))∧a∉bs∧bs.Nodup∧bs.length=ls.length∧∀(j:Nat) (b:Addr) (l:List PV),bs[j]?=some b→ls[j]?=some l→∃ws,H b=some (.lst ws)∧VRs K [] H ws l
 | .ol q l=>(∀b,q=some b→a=b)∧∃vs,H a=some (.lst vs)∧VRs K [] H vs l
 | .od kvs=>∃vs:List (Key×V),H a=some (.dK vs)∧vs.map (·.1)=kvs.map (·.1)∧VRs K [] H (vs.map (·.2)) (kvs.map (·.2))
 | .ot kvs=>∃vs:List (List Key×V),H a=some (.dT vs)∧vs.map (·.1)=kvs.map (·.1)∧VRs K [] H (vs.map (·.2)) (kvs.map (·.2))
 | .pot φ=>∃vs,H a=some (.lst vs)∧φ vs
def SlotR (K:PySem.W.Frag) (H:Hp) (u:V) (s:SL):Prop:=(∃v,s=.val v∧VR K [] H u v)∨∃a,u=.ref a∧OwnAt K H a s
def Owns (σ:L2.St) (fs:FSt) (a:Addr):Prop:=∃(i:Nat) (s:SL) (x:Addr),fs[i]?=some (some s)∧s.own=true∧σ[i]?=some (some (.ref x))∧s.has x a
def PotOf (σ:L2.St) (fs:FSt) (φ:List V→Prop) (a:Addr):Prop:=∃i:Nat,fs[i]?=some (some (.pot φ))∧σ[i]?=some (some (.ref a))
structure SRf (K:PySem.W.Frag) (H:Hp) (σ:L2.St) (fs:FSt):Prop where
 len:σ.length=fs.length
 at':∀(i:Nat) (s:SL),fs[i]?=some (some s)→∃u,σ[i]?=some (some u)∧SlotR K H u s
 nd:∀(i j:Nat) (s t:SL) (x y a:Addr),fs[i]?=some (some s)→fs[j]?=some (some t)→s.own=true→t.own=true→σ[i]?=some (some (.ref x))→σ[j]?=some (some (.ref y))→s.has x a→t.has y a→i=j
structure GoF (σ:L2.St) (fs:FSt) (H:Hp) (σ':L2.St) (fs':FSt) (H':Hp):Prop where
 keep:∀a o,H a=some o→¬Owns σ fs a→H' a=some o∧¬Owns σ' fs' a
 there:∀a,H' a=none→H a=none
 pk:∀a φ,PotOf σ fs φ a→PotOf σ' fs' φ a∨(¬Owns σ' fs' a∧∃vs,H' a=some (.lst vs)∧φ vs)
structure GoE (σ:L2.St) (fs:FSt) (H H':Hp):Prop where
 keep:∀a o,H a=some o→(∀φ,¬PotOf σ fs φ a)→H' a=some o
 there:∀a,H' a=none→H a=none
section
variable {σ σ' σ1 σ2:L2.St}{fs fs' fs1 fs2:FSt}{H H' H1 H2:Hp}
theorem PotOf.owns {φ:List V→Prop}{a:Addr} (p:PotOf σ fs φ a):Owns σ fs a:=let ⟨i,e1,e2⟩:=p;⟨i,_,_,e1,rfl,e2,.inl rfl⟩
theorem GoE.refl:GoE σ fs H H:=⟨fun _ _ h _=>h,fun _ h=>h⟩
theorem GoE.trans (a:GoE σ fs H H1) (b:GoE σ fs H1 H2):GoE σ fs H H2:=⟨fun x o h n=>b.keep x o (a.keep x o h n) n,fun x h=>a.there x (b.there x h)⟩
theorem GoE.f (g:GoE σ fs H H'):GoF σ fs H σ fs H':=⟨fun a o h n=>⟨g.keep a o h fun φ p=>n p.owns,n⟩,g.there,fun a φ p=>.inl p⟩
theorem GoE.keepN (g:GoE σ fs H H') {a:Addr}{o:HO} (h:H a=some o) (n:¬Owns σ fs a):H' a=some o:=g.keep a o h fun φ p=>n p.owns
theorem GoE.same (h:Same H H'):GoE σ fs H H':=⟨fun a o e _=>h a o e,fun a e=>(by
 cases z:H a with
 | none=>rfl
 | some o=>rw [h a o z] at e;cases e)⟩
theorem OwnAt.ex {a c:Addr}{s:SL} (h:OwnAt K H a s) (ho:s.own=true) (hc:s.has a c):∃o,H c=some o∧(∀vs,o≠.tup vs)∧∀ob u,o≠.frz ob u:=by
 cases s with
 | val _=>exact h.elim
 | adr _=>cases ho
 | ol q l=>obtain⟨_,vs,e,_⟩:=h;rcases hc with rfl | hc;exact⟨_,e,by simp,by simp⟩;cases hc
 | oll bs ls=>
  obtain⟨e,_,_,hl,hb⟩:=h
  rcases hc with rfl | hc
  ·exact⟨_,e,by simp,by simp⟩
  ·obtain⟨j,hj⟩:=List.getElem?_of_mem (show c∈bs from hc)
   have h1:=(List.getElem?_eq_some_iff.mp hj).1
   obtain⟨ws,e,_⟩:=hb j c _ hj (List.getElem?_eq_getElem (by rw [← hl];exact h1))
   exact⟨_,e,by simp,by simp⟩
 | od l=>obtain⟨vs,e,_⟩:=h;rcases hc with rfl | hc;exact⟨_,e,by simp,by simp⟩;cases hc
 | ot l=>obtain⟨vs,e,_⟩:=h;rcases hc with rfl | hc;exact⟨_,e,by simp,by simp⟩;cases hc
 | pot l=>obtain⟨vs,e,_⟩:=h;rcases hc with rfl | hc;exact⟨_,e,by simp,by simp⟩;cases hc
theorem SRf.ownAt (s:SRf K H σ fs) {i:Nat}{t:SL}{a:Addr} (h1:fs[i]?=some (some t)) (h2:t.own=true) (h3:σ[i]?=some (some (.ref a))):OwnAt K H a t:=by
 obtain⟨u,e,r⟩:=s.at' i t h1
 rw [h3] at e
 cases e
 rcases r with⟨v,rfl,_⟩ | ⟨b,e,r⟩
 ·cases h2
 ·cases e;exact r
theorem SRf.owns (s:SRf K H σ fs) {a:Addr} (h:Owns σ fs a):∃o,H a=some o∧(∀vs,o≠.tup vs)∧∀ob u,o≠.frz ob u:=by
 obtain⟨i,t,x,h1,h2,h3,h4⟩:=h
 exact (s.ownAt h1 h2 h3).ex h2 h4
theorem SRf.noOwn (s:SRf K H σ fs) {a:Addr} (h:H a=none):¬Owns σ fs a:=fun z=>by
 obtain⟨o,e,_⟩:=s.owns z
 rw [h] at e;cases e
theorem SRf.noOwnT (s:SRf K H σ fs) {a:Addr}{vs:List V} (h:H a=some (.tup vs)):¬Owns σ fs a:=fun z=>by
 obtain⟨o,e,n,_⟩:=s.owns z
 rw [h] at e;cases e;exact n vs rfl
theorem SRf.noOwnF (s:SRf K H σ fs) {a:Addr}{ob:Obj}{u:HO} (h:H a=some (.frz ob u)):¬Owns σ fs a:=fun z=>by
 obtain⟨o,e,_,n⟩:=s.owns z
 rw [h] at e;cases e;exact n ob u rfl
theorem GoF.refl:GoF σ fs H σ fs H:=⟨fun _ _ h n=>⟨h,n⟩,fun _ h=>h,fun _ _ h=>.inl h⟩
theorem GoF.trans (a:GoF σ fs H σ1 fs1 H1) (b:GoF σ1 fs1 H1 σ2 fs2 H2):GoF σ fs H σ2 fs2 H2:=
 ⟨fun x o h n=>let ⟨h1,n1⟩:=a.keep x o h n;b.keep x o h1 n1,fun x h=>a.there x (b.there x h),fun x φ h=>(a.pk x φ h).elim (b.pk x φ) fun ⟨n,vs,e,p⟩=>.inr (let ⟨h1,n1⟩:=b.keep x _ e n;⟨n1,vs,h1,p⟩)⟩
theorem GoF.tups (g:GoF σ fs H σ' fs' H') (s:SRf K H σ fs):TupsK K H H':=
 ⟨fun a vs h=>(g.keep a _ h (s.noOwnT h)).1,fun a o u h=>(g.keep a _ h (s.noOwnF h)).1⟩
theorem VR.tk {u:V}{v:PV} (t:TupsK K H H') (r:VR K [] H u v):VR K [] H' u v:=r.mono t fun _ _ e=>e
theorem VRs.tk {u:List V}{v:List PV} (t:TupsK K H H') (r:VRs K [] H u v):VRs K [] H' u v:=r.mono t fun _ _ e=>e
theorem GoF.vr (g:GoF σ fs H σ' fs' H') (s:SRf K H σ fs) {u:V}{v:PV} (r:VR K [] H u v):VR K [] H' u v:=VR.tk (g.tups s) r
theorem GoE.tups (g:GoE σ fs H H') (s:SRf K H σ fs):TupsK K H H':=g.f.tups s
theorem GoE.vr (g:GoE σ fs H H') (s:SRf K H σ fs) {u:V}{v:PV} (r:VR K [] H u v):VR K [] H' u v:=VR.tk (g.tups s) r
theorem GoE.vrs (g:GoE σ fs H H') (s:SRf K H σ fs) {u:List V}{v:List PV} (r:VRs K [] H u v):VRs K [] H' u v:=VRs.tk (g.tups s) r
theorem OwnAt.mono {a:Addr}{s:SL} (t:TupsK K H H') (e:∀c o,s.own=true→s.has a c→H c=some o→H' c=some o) (h:OwnAt K H a s):OwnAt K H' a s:=by
 cases s with
 | val _=>exact h
 | adr _=>exact h
 | ol _ l=>obtain⟨z,vs,q,r⟩:=h;exact⟨z,vs,e _ _ rfl (.inl rfl) q,VRs.tk t r⟩
 | oll bs ls=>
  obtain⟨z,h1,h2,h3,h4⟩:=h
  refine⟨e _ _ rfl (.inl rfl) z,h1,h2,h3,fun j b l hb hl=>?_⟩
  obtain⟨ws,q,r⟩:=h4 j b l hb hl
  exact⟨ws,e _ _ rfl (.inr (List.mem_of_getElem? hb)) q,VRs.tk t r⟩
 | od l=>obtain⟨vs,q,k,r⟩:=h;exact⟨vs,e _ _ rfl (.inl rfl) q,k,VRs.tk t r⟩
 | ot l=>obtain⟨vs,q,k,r⟩:=h;exact⟨vs,e _ _ rfl (.inl rfl) q,k,VRs.tk t r⟩
 | pot φ=>obtain⟨vs,q,k⟩:=h;exact⟨vs,e _ _ rfl (.inl rfl) q,k⟩
theorem SlotR.mono {u:V}{s:SL} (t:TupsK K H H') (e:∀x a o,u=.ref x→s.own=true→s.has x a→H a=some o→H' a=some o) (h:SlotR K H u s):SlotR K H' u s:=by
 rcases h with⟨v,q,r⟩ | ⟨a,q,r⟩
 ·exact .inl ⟨v,q,VR.tk t r⟩
 ·exact .inr ⟨a,q,r.mono t (fun c o z y w=>e a c o q z y w)⟩
theorem SRf.same (s:SRf K H σ fs) (h:Same H H'):SRf K H' σ fs:=⟨s.len,fun i t e=>let ⟨u,h1,h2⟩:=s.at' i t e;⟨u,h1,h2.mono h.tupsK (fun _ a o _ _ _ z=>h a o z)⟩,s.nd⟩
theorem GoF.same (h:Same H H') (s:SRf K H σ fs):GoF σ fs H σ fs H':=⟨fun a o e n=>⟨h a o e,n⟩,fun a e=>(by
 cases z:H a with
 | none=>rfl
 | some o=>rw [h a o z] at e;cases e),fun a φ p=>.inl p⟩
inductive LeF:FSt→FSt→Prop
 | nil:LeF [] []
 | drop {s:Option SL}{a b:FSt} (h:LeF a b):LeF (s::a) (none::b)
 | keep {s:Option SL}{a b:FSt} (h:LeF a b):LeF (s::a) (s::b)
theorem LeF.at {a b:FSt} (h:LeF a b):∀(i:Nat) (s:SL),b[i]?=some (some s)→a[i]?=some (some s):=by
 induction h with
 | nil=>intro i s e;simp at e
 | drop h ih=>intro i s e;cases i with | zero=>simp at e | succ i=>simp at e ⊢;exact ih i s e
 | keep h ih=>intro i s e;cases i with | zero=>simpa using e | succ i=>simp at e ⊢;exact ih i s e
theorem LeF.length {a b:FSt} (h:LeF a b):a.length=b.length:=by induction h <;> simp_all
theorem LeF.refl:∀a:FSt,LeF a a
 | []=>.nil
 | _::a=>.keep (LeF.refl a)
theorem SRf.le (s:SRf K H σ fs) (h:LeF fs fs'):SRf K H σ fs':=⟨s.len.trans h.length,fun i t e=>s.at' i t (h.at i t e),fun i j t u x y a e1 e2=>s.nd i j t u x y a (h.at i t e1) (h.at j u e2)⟩
theorem Owns.le (h:LeF fs fs') {a:Addr} (o:Owns σ fs' a):Owns σ fs a:=let ⟨i,t,x,e1,e2,e3⟩:=o;⟨i,t,x,h.at i t e1,e2,e3⟩
theorem GoF.le (s:SRf K H σ fs) (h:LeF fs fs'):GoF σ fs H σ fs' H:=⟨fun a o e n=>⟨e,fun z=>n (z.le h)⟩,fun _ e=>e,fun a φ p=>by
 obtain⟨i,e1,e2⟩:=p
 by_cases c:Owns σ fs' a
 ·obtain⟨j,t,x,c1,c2,c3,c4⟩:=c
  have ij:=s.nd i j _ t a x a e1 (h.at j t c1) rfl c2 e2 c3 (.inl rfl) c4
  subst ij
  have:=h.at i t c1
  rw [e1] at this
  cases this
  exact .inl ⟨i,c1,e2⟩
 ·obtain⟨vs,q,r⟩:=s.ownAt e1 rfl e2
  exact .inr ⟨c,vs,q,r⟩⟩
theorem set_get {α:Type}{l:List (Option α)}{i j:Nat}{x y:α} (h:(l.set i (some x))[j]?=some (some y)):(j=i∧y=x)∨(j≠i∧l[j]?=some (some y)):=by
 by_cases c:j=i
 ·subst c
  rw [List.getElem?_set] at h
  simp at h
  exact .inl ⟨rfl,h.2.symm⟩
 ·rw [List.getElem?_set_ne (fun z=>c z.symm)] at h
  exact .inr ⟨c,h⟩
theorem get_set_self {α:Type}{l:List α}{i:Nat}{x:α} (h:i < l.length):(l.set i x)[i]?=some x:=by rw [List.getElem?_set];simp [h]
theorem get_set_other {α:Type}{l:List α}{i j:Nat}{x:α} (h:j≠i):(l.set i x)[j]?=l[j]?:=List.getElem?_set_ne (fun z=>h z.symm)
theorem SRf.put (s:SRf K H σ fs) {i:Nat}{u:V}{t:SL} (hr:SlotR K H u t) (hf:∀x a,u=.ref x→t.own=true→t.has x a→∀(j:Nat) (w:SL) (y:Addr),j≠i→fs[j]?=some (some w)→w.own=true→σ[j]?=some (some (.ref y))→¬w.has y a):SRf K H (σ.set i (some u)) (fs.set i (some t)):=by
 refine⟨by simp [s.len],fun j w e=>?_,fun j k w x b1 b2 a e1 e2 o1 o2 q1 q2 z1 z2=>?_⟩
 ·rcases set_get e with⟨rfl,rfl⟩ | ⟨n,e⟩
  ·have hl:j < σ.length:=by
    have:=(List.getElem?_eq_some_iff.mp e).1
    rw [List.length_set] at this
    rw [s.len];exact this
   exact⟨u,get_set_self hl,hr⟩
  ·obtain⟨v,h1,h2⟩:=s.at' j w e
   exact⟨v,by rw [get_set_other n];exact h1,h2⟩
 ·rcases set_get e1 with⟨y1,y2⟩ | ⟨n1,f1⟩ <;> rcases set_get e2 with⟨y3,y4⟩ | ⟨n2,f2⟩
  ·exact y1.trans y3.symm
  ·subst y1
   subst y2
   rw [get_set_other n2] at q2
   have hl:j < σ.length:=by have:=(List.getElem?_eq_some_iff.mp q1).1;simpa using this
   rw [get_set_self hl] at q1
   cases q1
   exact absurd z2 (hf _ a rfl o1 z1 k x b2 n2 f2 o2 q2)
  ·subst y3
   subst y4
   rw [get_set_other n1] at q1
   have hl:k < σ.length:=by have:=(List.getElem?_eq_some_iff.mp q2).1;simpa using this
   rw [get_set_self hl] at q2
   cases q2
   exact absurd z1 (hf _ a rfl o2 z2 j w b1 n1 f1 o1 q1)
  ·rw [get_set_other n1] at q1
   rw [get_set_other n2] at q2
   exact s.nd j k w x b1 b2 a f1 f2 o1 o2 q1 q2 z1 z2
theorem SRf.putV (s:SRf K H σ fs) {u:V}{v:PV} (hr:VR K [] H u v) (i:Nat):SRf K H (σ.set i (some u)) (fs.set i (some (.val v))):=s.put (.inl ⟨v,rfl,hr⟩) fun _ _ _ z=>by cases z
theorem owns_set {i:Nat}{u:V}{t:SL}{a:Addr} (o:Owns (σ.set i (some u)) (fs.set i (some t)) a) (hl:σ.length=fs.length):Owns σ fs a∨∃x,u=.ref x∧t.own=true∧t.has x a:=by
 obtain⟨j,w,x,e1,e2,e3,e4⟩:=o
 rcases set_get e1 with⟨rfl,rfl⟩ | ⟨n,e1⟩
 ·have h2:j < σ.length:=by have:=(List.getElem?_eq_some_iff.mp e3).1;simpa using this
  rw [get_set_self h2] at e3
  cases e3
  exact .inr ⟨x,rfl,e2,e4⟩
 ·rw [get_set_other n] at e3
  exact .inl ⟨j,w,x,e1,e2,e3,e4⟩
theorem pot_set (s:SRf K H σ fs) {i:Nat}{u:V}{t:SL}{φ:List V→Prop}{a:Addr} (p:PotOf σ fs φ a) (hu:∀x,u=.ref x→t.own=true→t.has x a→t=.pot φ):PotOf (σ.set i (some u)) (fs.set i (some t)) φ a∨¬Owns (σ.set i (some u)) (fs.set i (some t)) a:=by
 obtain⟨j,e1,e2⟩:=p
 by_cases c:j=i
 ·subst c
  by_cases c2:∃x,u=.ref x∧t.own=true∧t.has x a
  ·obtain⟨x,c3,c4,c5⟩:=c2
   have hl:=(List.getElem?_eq_some_iff.mp e2).1
   have hl2:=(List.getElem?_eq_some_iff.mp e1).1
   have et:=hu x c3 c4 c5
   subst et
   rcases c5 with rfl | c5
   ·exact .inl ⟨j,by rw [get_set_self hl2],by rw [get_set_self hl,c3]⟩
   ·cases c5
  ·refine .inr fun o=>?_
   obtain⟨k,w,y,q1,q2,q3,q4⟩:=o
   rcases set_get q1 with⟨rfl,rfl⟩ | ⟨n,q1⟩
   ·have hl:=(List.getElem?_eq_some_iff.mp e2).1
    rw [get_set_self hl] at q3
    cases q3
    exact c2 ⟨y,rfl,q2,q4⟩
   ·rw [get_set_other n] at q3
    exact n (s.nd k j w _ y a a q1 e1 q2 rfl q3 e2 q4 (.inl rfl))
 ·exact .inl ⟨j,by rw [get_set_other c];exact e1,by rw [get_set_other c];exact e2⟩
theorem GoF.putV (s:SRf K H σ fs) (u:V) (v:PV) (i:Nat):GoF σ fs H (σ.set i (some u)) (fs.set i (some (.val v))) H:=
 ⟨fun a o e n=>⟨e,fun z=>(owns_set z s.len).elim n fun ⟨_,_,z,_⟩=>by cases z⟩,fun _ e=>e,fun a φ p=>(pot_set s p (fun _ _ z=>by cases z)).imp id fun n=>⟨n,by
  obtain⟨j,e1,e2⟩:=p
  obtain⟨vs,q,r⟩:=s.ownAt e1 rfl e2
  exact⟨vs,q,r⟩⟩⟩
theorem SRf.putOs (s:SRf K H σ fs) {a:Addr}{t:SL} (hr:OwnAt K H a t) (hn:∀c,t.has a c→¬Owns σ fs c) (i:Nat):SRf K H (σ.set i (some (.ref a))) (fs.set i (some t)):=s.put (.inr ⟨a,rfl,hr⟩) fun x c e _ hc j w y n e1 e2 e3 z=>by
 cases e
 exact hn c hc ⟨j,w,y,e1,e2,e3,z⟩
theorem has_one {t:SL} (hi:t.inn=[]) {a c:Addr} (h:t.has a c):c=a:=by
 rcases h with h | h
 ·exact h
 ·rw [hi] at h;cases h
theorem SRf.putO (s:SRf K H σ fs) {a:Addr}{t:SL} (hr:OwnAt K H a t) (hn:¬Owns σ fs a) (i:Nat) (hi:t.inn=[]:=by rfl):SRf K H (σ.set i (some (.ref a))) (fs.set i (some t)):=s.putOs hr (fun c hc=>by rw [has_one hi hc];exact hn) i
theorem GoF.putOs (s:SRf K H1 σ fs) (g:GoF σ fs H σ fs H1) {a:Addr}{t:SL} (hn:∀c,t.has a c→¬Owns σ fs c) (h0:∀c,t.has a c→H c=none) (i:Nat):GoF σ fs H (σ.set i (some (.ref a))) (fs.set i (some t)) H1:=by
 refine⟨fun b o e n=>⟨(g.keep b o e n).1,fun z=>(owns_set z s.len).elim n fun ⟨x,z,_,y⟩=>?_⟩,g.there,fun b φ p=>?_⟩
 ·cases z
  rw [h0 b y] at e;cases e
 ·obtain⟨j,e1,e2⟩:=p
  obtain⟨vs,q,r⟩:=s.ownAt e1 rfl e2
  refine (pot_set (t:=t) s ⟨j,e1,e2⟩ (fun x z o y=>?_)).imp id fun n=>⟨n,vs,q,r⟩
  cases z
  exact absurd ⟨j,_,_,e1,rfl,e2,.inl rfl⟩ (hn b y)
theorem GoF.putO (s:SRf K H1 σ fs) (g:GoF σ fs H σ fs H1) {a:Addr}{t:SL} (hn:¬Owns σ fs a) (h0:H a=none) (i:Nat) (hi:t.inn=[]:=by rfl):GoF σ fs H (σ.set i (some (.ref a))) (fs.set i (some t)) H1:=GoF.putOs s g (fun c hc=>by rw [has_one hi hc];exact hn) (fun c hc=>by rw [has_one hi hc];exact h0) i
theorem own_changeC (s:SRf K H σ fs) {i:Nat}{t t':SL}{a c:Addr} (e1:fs[i]?=some (some t)) (o:t.own=true) (np:∀φ,t≠.pot φ) (e2:σ[i]?=some (some (.ref a))) (hc:t.has a c) (hc':t'.has a c) (hin:∀b,t'.has a b→t.has a b) (o':t'.own=true) (sx:SameX c H H') (ht:TupsK K H H'→OwnAt K H' a t'):SRf K H' σ (fs.set i (some t'))∧GoF σ fs H σ (fs.set i (some t')) H':=by
 have oa:=s.ownAt e1 o e2
 obtain⟨ob,q,n1,n2⟩:=oa.ex o hc
 have tk:TupsK K H H':=⟨fun b vs z=>sx b _ (fun y=>by subst y;rw [q] at z;cases z;exact n1 _ rfl) z,fun b o u z=>sx b _ (fun y=>by subst y;rw [q] at z;cases z;exact n2 _ _ rfl) z⟩
 have oa':=ht tk
 have hi:i < fs.length:=(List.getElem?_eq_some_iff.mp e1).1
 have own_iff:∀b,Owns σ (fs.set i (some t')) b→Owns σ fs b:=fun b z=>by
  obtain⟨j,w,x,z1,z2,z3,z4⟩:=z
  rcases set_get z1 with⟨rfl,rfl⟩ | ⟨n,z1⟩
  ·rw [e2] at z3;cases z3;exact⟨j,t,a,e1,o,e2,hin b z4⟩
  ·exact⟨j,w,x,z1,z2,z3,z4⟩
 refine⟨⟨by simp [s.len],fun j w e=>?_,fun j k w x b1 b2 b z1 z2 o1 o2 q1 q2 y1 y2=>?_⟩,⟨fun b ob e n=>⟨sx b ob (fun z=>by subst z;exact n ⟨i,t,a,e1,o,e2,hc⟩) e,fun z=>n (own_iff b z)⟩,fun b e=>?_,fun b φ p=>?_⟩⟩
 ·rcases set_get e with⟨rfl,rfl⟩ | ⟨n,e⟩
  ·exact⟨_,e2,.inr ⟨a,rfl,oa'⟩⟩
  ·obtain⟨u,h1,h2⟩:=s.at' j w e
   refine⟨u,h1,h2.mono tk (fun x b ob eb ow hb z=>sx b ob (fun y=>?_) z)⟩
   subst y
   subst eb
   exact n (s.nd j i w t x a b e e1 ow o h1 e2 hb hc)
 ·have f:∀{j:Nat}{w:SL}{y:Addr},(fs.set i (some t'))[j]?=some (some w)→w.own=true→σ[j]?=some (some (.ref y))→w.has y b→∃w',fs[j]?=some (some w')∧w'.own=true∧w'.has y b:=fun {j w y} z ow qy hy=>by
   rcases set_get z with⟨rfl,rfl⟩ | ⟨n,z⟩
   ·rw [e2] at qy;cases qy;exact⟨t,e1,o,hin b hy⟩
   ·exact⟨w,z,ow,hy⟩
  obtain⟨w',a1,a2,a3⟩:=f z1 o1 q1 y1
  obtain⟨x',c1,c2,c3⟩:=f z2 o2 q2 y2
  exact s.nd j k w' x' b1 b2 b a1 c1 a2 c2 q1 q2 a3 c3
 ·cases z:H b with
  | none=>rfl
  | some ob=>
   by_cases cc:b=c
   ·subst cc
    obtain⟨o2,y,_⟩:=oa'.ex o' hc'
    rw [e] at y;cases y
   ·rw [sx b ob cc z] at e;cases e
 ·obtain⟨j,p1,p2⟩:=p
  have ji:j≠i:=fun z=>by subst z;rw [e1] at p1;cases p1;exact np φ rfl
  exact .inl ⟨j,by rw [get_set_other ji];exact p1,p2⟩
theorem own_change (s:SRf K H σ fs) {i:Nat}{t t':SL}{a:Addr} (e1:fs[i]?=some (some t)) (o:t.own=true) (np:∀φ,t≠.pot φ) (e2:σ[i]?=some (some (.ref a))) (sx:SameX a H H') (ht:TupsK K H H'→OwnAt K H' a t') (hi:t'.inn=t.inn:=by rfl) (o':t'.own=true:=by rfl):SRf K H' σ (fs.set i (some t'))∧GoF σ fs H σ (fs.set i (some t')) H':=
 own_changeC s e1 o np e2 (.inl rfl) (.inl rfl) (fun b h=>by unfold SL.has at h ⊢;rw [hi] at h;exact h) o' sx ht
end
end FL
set_option Elab.async false
set_option linter.all false
set_option maxRecDepth 100000
namespace FL
open PySem PySem.Spec PyProof.Rows L2 PL
variable {K:PySem.W.Frag}
def fE (K:PySem.W.Frag) (fs:FSt) (w:W PV):TE:=fun σ H Q=>SRf K H σ fs∧w.run fun v=>∀u H',GoE σ fs H H'→SRf K H' σ fs→VR K [] H' u v→Q u H'
def fT (K:PySem.W.Frag) (fs:FSt) (w:W Bool):TT:=fun σ H Q=>SRf K H σ fs∧w.run fun b=>∀H',GoE σ fs H H'→SRf K H' σ fs→Q b H'
def fL (K:PySem.W.Frag) (fs:FSt) (w:W (List PV)):TE:=fun σ H Q=>SRf K H σ fs∧w.run fun l=>∀a vs H',GoE σ fs H H'→SRf K H' σ fs→H a=none→H' a=some (.lst vs)→VRs K [] H' vs l→Q (.ref a) H'
def SqI (K:PySem.W.Frag) (H:Hp) (u:V) (l:List PV):Prop:=∃a vs,u=.ref a∧(FzL K H a vs∨H a=some (.tup vs))∧VRs K [] H vs l
def SqF (K:PySem.W.Frag) (σ:L2.St) (fs:FSt) (H:Hp) (u:V) (l:List PV):Prop:=SqI K H u l∨∃a,u=.ref a∧((¬Owns σ fs a∧∃vs,H a=some (.lst vs)∧VRs K [] H vs l)∨∃(i:Nat) (q:Option Addr),fs[i]?=some (some (.ol q l))∧σ[i]?=some (some (.ref a)))
def fQ (K:PySem.W.Frag) (fs:FSt) (w:W (List PV)):TE:=fun σ H Q=>SRf K H σ fs∧w.run fun l=>∀u H',GoE σ fs H H'→SRf K H' σ fs→SqF K σ fs H' u l→Q u H'
def fI (K:PySem.W.Frag) (fs:FSt) (w:W (List PV)):TE:=fun σ H Q=>SRf K H σ fs∧w.run fun l=>∀u H',GoE σ fs H H'→SRf K H' σ fs→SqI K H' u l→Q u H'
inductive AK where
 | v | p (φ:List V→Prop) | f (a:Addr)
inductive ArgsR (K:PySem.W.Frag) (σ:L2.St) (fs:FSt) (H:Hp):List V→List AK→List PV→Prop
 | nil:ArgsR K σ fs H [] [] []
 | v {u:V}{x:PV}{vs:List V}{ks:List AK}{l:List PV} (r:VR K [] H u x) (t:ArgsR K σ fs H vs ks l):ArgsR K σ fs H (u::vs) (.v::ks) (x::l)
 | p {a:Addr}{φ:List V→Prop}{vs:List V}{ks:List AK}{l:List PV} (r:PotOf σ fs φ a) (t:ArgsR K σ fs H vs ks l):ArgsR K σ fs H (.ref a::vs) (.p φ::ks) l
 | f {a:Addr}{vs:List V}{ks:List AK}{l:List PV} (t:ArgsR K σ fs H vs ks l):ArgsR K σ fs H (.ref a::vs) (.f a::ks) l
def fA (K:PySem.W.Frag) (fs:FSt) (ks:List AK) (w:W (List PV)):TA:=fun σ H Q=>SRf K H σ fs∧w.run fun l=>∀vs H',GoE σ fs H H'→SRf K H' σ fs→ArgsR K σ fs H' vs ks l→Q vs H'
structure EF (X:Cx) (K:PySem.W.Frag) (fs:FSt) (e:Expr) (w:W PV):Prop where p:PE X e (fE K fs w)
structure LF (X:Cx) (K:PySem.W.Frag) (fs:FSt) (e:Expr) (w:W (List PV)):Prop where p:PE X e (fL K fs w)
structure QF (X:Cx) (K:PySem.W.Frag) (fs:FSt) (e:Expr) (w:W (List PV)):Prop where p:PE X e (fQ K fs w)
structure IF (X:Cx) (K:PySem.W.Frag) (fs:FSt) (e:Expr) (w:W (List PV)):Prop where p:PE X e (fI K fs w)
structure TF (X:Cx) (K:PySem.W.Frag) (fs:FSt) (e:Expr) (w:W Bool):Prop where p:PT X e (fT K fs w)
structure TWF (X:Cx) (K:PySem.W.Frag) (fs:FSt) (e:Expr) (w:W Bool):Prop where p:PW X e (fT K fs w)
structure AF (X:Cx) (K:PySem.W.Frag) (fs:FSt) (es:List Expr) (ks:List AK) {R:Type} (B:(List PV→W R)→W R):Prop where
 p:∃w:W (List PV),PA X es (fA K fs ks w)∧∀k,B k=W.bind w k
section
variable {σ σ' σ1 σ2:L2.St}{fs fs' fs1 fs2:FSt}{H H' H1 H2:Hp}
theorem SqI.tk {u:V}{l:List PV} (t:TupsK K H H') (h:SqI K H u l):SqI K H' u l:=by
 obtain⟨a,vs,e,q,r⟩:=h
 exact⟨a,vs,e,q.imp (t.f _ _) (t.t _ _),VRs.tk t r⟩
theorem SqF.go {u:V}{l:List PV} (h:SqF K σ fs H u l) (s:SRf K H σ fs) (g:GoE σ fs H H'):SqF K σ fs H' u l:=by
 rcases h with h | ⟨a,e,⟨n,vs,q,r⟩ | q⟩
 ·exact .inl (h.tk (g.tups s))
 ·exact .inr ⟨a,e,.inl ⟨n,vs,(g.keepN q n),g.vrs s r⟩⟩
 ·exact .inr ⟨a,e,.inr q⟩
theorem SqF.sq {u:V}{l:List PV} (h:SqF K σ fs H u l) (s:SRf K H σ fs):∃a vs,u=.ref a∧(SqL K H a vs∨SqT K H a vs)∧VRs K [] H vs l:=by
 rcases h with⟨a,vs,e,q,r⟩ | ⟨a,e,⟨n,vs,q,r⟩ | ⟨i,_,q1,q2⟩⟩
 ·exact⟨a,vs,e,q.elim (fun q=>.inl q.sq) fun q=>.inr (SqT.of q),r⟩
 ·exact⟨a,vs,e,.inl (SqL.of q),r⟩
 ·obtain⟨_,vs,q,r⟩:=s.ownAt q1 rfl q2
  exact⟨a,vs,e,.inl (SqL.of q),r⟩
end
section
variable {X:Cx}{a b c e o:Expr}{es rest:List Expr}{pos p2:Pos}{fs:FSt}{w wa wb wc:W PV}
theorem e_var (i:Nat) {x:Str}{v:PV} (hs:fs[i]?=some (some (.val v)):=by rfl) (hN:X.N[i]?=some x:=by rfl) (hv:Vis X.env.scope x:=by first | exact Or.inl rfl | exact Or.inr (Or.inl rfl) | exact Or.inr (Or.inr rfl)) (hd:(x==("__debug__":Str))=false:=by decide) (hcd:(x==("__classdict__":Str))=false:=by decide):EF X K fs (.Name x pos) (.ret v):=
 ⟨PE.imp (pe_var hN hv hd hcd) fun σ H Q ⟨sr,q⟩=>by
  obtain⟨u,e1,r⟩:=sr.at' i _ hs
  rcases r with⟨w,e,r⟩ | ⟨a,_,r⟩
  ·cases e
   exact⟨u,e1,q u H .refl sr r⟩
  ·exact r.elim⟩
theorem f_c {v:V}{p:PV} (hv:∀H,VR K [] H v p) (h:PE X e (tC v)):EF X K fs e (.ret p):=⟨PE.imp h fun σ H Q ⟨sr,q⟩=>q v H .refl sr (hv _)⟩
theorem e_int {i j}:EF X K fs (.Constant (.int i) j pos) (.ret (.int i)):=f_c (fun _=>.int i) pe_int
theorem e_bl {b j}:EF X K fs (.Constant (.bool b) j pos) (.ret (.bl b)):=f_c (fun _=>.bl b) pe_bl
theorem e_non {j}:EF X K fs (.Constant .none j pos) (.ret .non):=f_c (fun _=>.non) pe_non
theorem e_str {x j}:EF X K fs (.Constant (.str x) j pos) (.ret (.str x)):=f_c (fun _=>.str x) pe_str
def of2 (m:M2) (x y:PV):W PV:=⟨fun Q=>m.f x y [] fun z h=>h=[]∧Q z,fun f q=>m.mono (fun _ _ q=>⟨q.1,f _ q.2⟩) q⟩
theorem hr0 (H:Hp):HR K [] H []:=⟨List.nodup_nil,rfl,fun n a o e _=>by simp at e⟩
theorem pq0 {σ:L2.St}{H:Hp}{Q:VK}{z:PV}{h:PH} (sr:SRf K H σ fs) (q:h=[]∧∀u H',GoE σ fs H H'→SRf K H' σ fs→VR K [] H' u z→Q u H'):pQ K [] H Q z h:=fun ι' v H' g r x=>by
 obtain⟨e,q⟩:=q
 subst e
 have:ι'=[]:=List.eq_nil_of_length_eq_zero r.len
 subst this
 have sm:Same H H':=fun a o z=>g.keep a o (by simp) z
 exact q v H' (GoE.same sm) (sr.same sm) x
theorem of2_ok {r:R2}{m:M2} (hm:M2.Ok K r m) {σ:L2.St}{H:Hp}{Q:VK}{u v:V}{x y:PV} (sr:SRf K H σ fs) (hu:VR K [] H u x) (hv:VR K [] H v y) (q:(of2 m x y).run fun z=>∀u H',GoE σ fs H H'→SRf K H' σ fs→VR K [] H' u z→Q u H'):r u v H Q:=
 hm (hr0 H) hu hv (m.mono (fun z h q=>pq0 sr q) q)
theorem fE_op {r:R2}{m:M2} (hm:M2.Ok K r m):∀σ H Q,fE K fs (.bind wa fun x=>.bind wb fun y=>of2 m x y) σ H Q→tOp r (fE K fs wa) (fE K fs wb) σ H Q:=fun σ H Q ⟨sr,q⟩=>
 ⟨sr,wa.mono (fun x q1 u1 H1 g1 s1 v1=>⟨s1,wb.mono (fun y q2 u2 H2 g2 s2 v2=>of2_ok hm s2 (g2.vr s1 v1) v2 ((of2 m x y).mono (fun z q u3 H3 g3 s3 v3=>q u3 H3 ((g1.trans g2).trans g3) s3 v3) q2)) q1⟩) q⟩
theorem e_op {op:Operator}{r:R2}{m:M2} (ho:OpR X (binaryOp op) r) (hm:M2.Ok K r m) (ha:EF X K fs a wa) (hb:EF X K fs b wb):EF X K fs (.BinOp a op b pos) (.bind wa fun x=>.bind wb fun y=>of2 m x y):=⟨PE.imp (pe_op ho ha.p hb.p) (fE_op hm)⟩
theorem e_sub (ha:EF X K fs a wa) (hb:EF X K fs b wb):EF X K fs (.BinOp a .Sub b pos) (.bind wa fun x=>.bind wb fun y=>of2 oSub x y):=e_op op_sub (aI_ok fun _ _ _ _=>.int _) ha hb
theorem e_mul (ha:EF X K fs a wa) (hb:EF X K fs b wb):EF X K fs (.BinOp a .Mult b pos) (.bind wa fun x=>.bind wb fun y=>of2 oMul x y):=e_op op_mulA (aIc_ok fun _ _ _ _=>.int _) ha hb
theorem e_div (ha:EF X K fs a wa) (hb:EF X K fs b wb):EF X K fs (.BinOp a .FloorDiv b pos) (.bind wa fun x=>.bind wb fun y=>of2 oDiv x y):=e_op op_fdiv (aIc_ok fun _ _ _ _=>.int _) ha hb
theorem e_mod (ha:EF X K fs a wa) (hb:EF X K fs b wb):EF X K fs (.BinOp a .Mod b pos) (.bind wa fun x=>.bind wb fun y=>of2 oMod x y):=e_op op_mod (aIc_ok fun _ _ _ _=>.int _) ha hb
theorem e_pow (ha:EF X K fs a wa) (hb:EF X K fs b wb):EF X K fs (.BinOp a .Pow b pos) (.bind wa fun x=>.bind wb fun y=>of2 oPow x y):=e_op op_pow (aIc_ok fun _ _ _ _=>.int _) ha hb
def asB:PV→W Bool
 | .bl b=>.ret b
 | _=>.fail
theorem e_cmp {op:CmpOp}{m:M2} (hc:JC X K op b m) (ha:EF X K fs a wa) (hb:EF X K fs b wb):EF X K fs (.Compare a [op] [b] pos) (.bind wa fun x=>.bind wb fun y=>of2 m x y):=let ⟨_,h1,h2⟩:=hc.p;⟨PE.imp (pe_cmpR h1 ha.p hb.p hc.k) (fE_op h2)⟩
theorem fT_B {w:W PV}:∀σ H Q,fT K fs (.bind w asB) σ H Q→(fE K fs w) σ H fun x H'=>∃k,x=.bl k∧Q k H':=fun σ H Q ⟨sr,q⟩=>⟨sr,w.mono (fun x q1 u1 H1 g1 s1 v1=>by
 cases v1 with
 | bl b=>exact⟨b,rfl,q1 H1 g1 s1⟩
 | _=>exact q1.elim) q⟩
theorem t_cmp {op:CmpOp}{m:M2} (hc:JC X K op b m) (ha:EF X K fs a wa) (hb:EF X K fs b wb):TF X K fs (.Compare a [op] [b] pos) (.bind wa fun x=>.bind wb fun y=>.bind (of2 m x y) asB):=let ⟨_,h1,h2⟩:=hc.p
 ⟨PT.imp (pt_cmpR h1 ha.p hb.p hc.k) fun σ H Q q=>fE_op h2 σ H _ (fT_B (w:=.bind wa fun x=>.bind wb fun y=>of2 m x y) σ H Q q)⟩
def chainW (z:PV) (w:W PV):W PV:=match z with
 | .bl true=>w
 | .bl false=>.ret (.bl false)
 | _=>.fail
def andW (x:PV) (w:W PV):W PV:=match x with
 | .bl true=>w
 | .bl false=>.ret (.bl false)
 | _=>.fail
def orW (x:PV) (w:W PV):W PV:=match x with
 | .bl true=>.ret (.bl true)
 | .bl false=>w
 | _=>.fail
def notW:PV→W PV
 | .bl b=>.ret (.bl (!b))
 | _=>.fail
theorem e_and (ha:EF X K fs a wa) (hb:EF X K fs (.BoolOp .And (b::rest) pos) wb):EF X K fs (.BoolOp .And (a::b::rest) pos) (.bind wa fun x=>andW x wb):=⟨PE.imp (pe_and ha.p hb.p) fun σ H Q ⟨sr,q⟩=>⟨sr,wa.mono (fun x q1 u1 H1 g1 s1 v1=>by
 cases v1 with
 | bl k=>
  cases k with
  | true=>exact⟨true,rfl,by rw [if_pos rfl];exact⟨s1,wb.mono (fun _ q u H' g s v=>q u H' (g1.trans g) s v) q1⟩⟩
  | false=>exact⟨false,rfl,by rw [if_neg Bool.false_ne_true];exact q1 _ H1 g1 s1 (.bl _)⟩
 | _=>exact q1.elim) q⟩⟩
theorem e_or (ha:EF X K fs a wa) (hb:EF X K fs (.BoolOp .Or (b::rest) pos) wb):EF X K fs (.BoolOp .Or (a::b::rest) pos) (.bind wa fun x=>orW x wb):=⟨PE.imp (pe_or ha.p hb.p) fun σ H Q ⟨sr,q⟩=>⟨sr,wa.mono (fun x q1 u1 H1 g1 s1 v1=>by
 cases v1 with
 | bl k=>
  cases k with
  | true=>exact⟨true,rfl,by rw [if_pos rfl];exact q1 _ H1 g1 s1 (.bl _)⟩
  | false=>exact⟨false,rfl,by rw [if_neg Bool.false_ne_true];exact⟨s1,wb.mono (fun _ q u H' g s v=>q u H' (g1.trans g) s v) q1⟩⟩
 | _=>exact q1.elim) q⟩⟩
theorem e_one {op} (h:EF X K fs a wa):EF X K fs (.BoolOp op [a] pos) wa:=⟨pe_one h.p⟩
theorem e_not (ha:EF X K fs a wa):EF X K fs (.UnaryOp .Not a pos) (.bind wa notW):=⟨PE.imp (pe_not ha.p) fun σ H Q ⟨sr,q⟩=>⟨sr,wa.mono (fun x q1 u1 H1 g1 s1 v1=>by
 cases v1 with
 | bl k=>exact⟨_,rfl,q1 _ H1 g1 s1 (.bl _)⟩
 | _=>exact q1.elim) q⟩⟩
variable {ta tb tc:W Bool}
theorem tw_and1 (h:TF X K fs a ta):TWF X K fs (.BoolOp .And [a] pos) ta:=⟨pw_and1 h.p⟩
theorem tw_or1 (h:TF X K fs a ta):TWF X K fs (.BoolOp .Or [a] pos) ta:=⟨pw_or1 h.p⟩
theorem tw_and (ha:TF X K fs a ta) (hb:TWF X K fs (.BoolOp .And (b::rest) pos) tb):TWF X K fs (.BoolOp .And (a::b::rest) pos) (.bind ta fun k=>if k=true then tb else .ret false):=⟨PW.imp (pw_and ha.p hb.p) fun σ H Q ⟨sr,q⟩=>⟨sr,ta.mono (fun k q1 H1 g1 s1=>by
 cases k with
 | true=>exact iteT ⟨s1,tb.mono (fun _ q H' g s=>q H' (g1.trans g) s) q1⟩
 | false=>exact iteF (q1 H1 g1 s1)) q⟩⟩
theorem tw_or (ha:TF X K fs a ta) (hb:TWF X K fs (.BoolOp .Or (b::rest) pos) tb):TWF X K fs (.BoolOp .Or (a::b::rest) pos) (.bind ta fun k=>if k=true then .ret true else tb):=⟨PW.imp (pw_or ha.p hb.p) fun σ H Q ⟨sr,q⟩=>⟨sr,ta.mono (fun k q1 H1 g1 s1=>by
 cases k with
 | true=>exact iteT (q1 H1 g1 s1)
 | false=>exact iteF ⟨s1,tb.mono (fun _ q H' g s=>q H' (g1.trans g) s) q1⟩) q⟩⟩
theorem TWF.t (h:TWF X K fs a ta):TF X K fs a ta:=⟨PW.pt h.p⟩
theorem t_not (ha:TF X K fs a ta):TF X K fs (.UnaryOp .Not a pos) (.bind ta fun k=>.ret (!k)):=⟨PT.imp (pt_not ha.p) fun σ H Q ⟨sr,q⟩=>⟨sr,q⟩⟩
theorem e_if (hc:TF X K fs c tc) (ha:EF X K fs a wa) (hb:EF X K fs b wb):EF X K fs (.IfExp c a b pos) (.bind tc fun k=>if k=true then wa else wb):=⟨PE.imp (pe_ifExp hc.p ha.p hb.p) fun σ H Q ⟨sr,q⟩=>⟨sr,tc.mono (fun k q1 H1 g1 s1=>by
 cases k with
 | true=>exact iteT ⟨s1,wa.mono (fun _ q u H' g s v=>q u H' (g1.trans g) s v) q1⟩
 | false=>exact iteF ⟨s1,wb.mono (fun _ q u H' g s v=>q u H' (g1.trans g) s v) q1⟩) q⟩⟩
theorem l_if {la lb:W (List PV)} (hc:TF X K fs c tc) (ha:LF X K fs a la) (hb:LF X K fs b lb):LF X K fs (.IfExp c a b pos) (.bind tc fun k=>if k=true then la else lb):=⟨PE.imp (pe_ifExp hc.p ha.p hb.p) fun σ H Q ⟨sr,q⟩=>⟨sr,tc.mono (fun k q1 H1 g1 s1=>by
 cases k with
 | true=>exact iteT ⟨s1,la.mono (fun _ q a vs H' g s n e v=>q a vs H' (g1.trans g) s (g1.there a n) e v) q1⟩
 | false=>exact iteF ⟨s1,lb.mono (fun _ q a vs H' g s n e v=>q a vs H' (g1.trans g) s (g1.there a n) e v) q1⟩) q⟩⟩
def truW:PV→W Bool
 | .non=>.ret false
 | .bl b=>.ret b
 | .int i=>.ret (i != 0)
 | .str y=>.chk (y.length≤sizeLine) (.ret ((y.length:Int) != 0))
 | .tup l=>.ret (!l.isEmpty)
 | .cl l=>.ret (!l.isEmpty)
 | _=>.fail
theorem t_tru (hK:X.K=K) (ha:EF X K fs a wa) (he:∀whole,isTrue a X.env whole=(do let v ← whole;standAt a.pos;holding [v] (truthy v))):TF X K fs a (.bind wa truW):=⟨PT.imp (pt_truthk K hK ha.p he) fun σ H Q ⟨sr,q⟩=>⟨sr,wa.mono (fun x q1 u1 H1 g1 s1 v1=>by
 cases v1 with
 | non=>exact⟨false,rfl,q1 H1 g1 s1⟩
 | bl b=>exact⟨b,rfl,q1 H1 g1 s1⟩
 | int i=>exact⟨_,rfl,q1 H1 g1 s1⟩
 | str y=>exact⟨_,⟨q1.1,rfl⟩,q1.2 H1 g1 s1⟩
 | ty _=>exact q1.elim
 | dk _ _ _=>exact q1.elim
 | dt _ _ _=>exact q1.elim
 | ref _=>exact q1.elim
 | @tup p vs l e rs=>
  refine⟨!vs.isEmpty,.inr (.inl ⟨_,SqT.of e,rfl⟩),?_⟩
  rw [← isEmpty_vrs rs];exact q1 H1 g1 s1
 | @cl p vs l e rs=>
  refine⟨!vs.isEmpty,.inl ⟨_,e.sq,rfl⟩,?_⟩
  rw [← isEmpty_vrs rs];exact q1 H1 g1 s1) q⟩⟩
theorem t_own (hK:X.K=K) {wl:W (List PV)} (ha:QF X K fs a wl) (he:∀whole,isTrue a X.env whole=(do let v ← whole;standAt a.pos;holding [v] (truthy v))):TF X K fs a (.bind wl fun l=>.ret (!l.isEmpty)):=⟨PT.imp (pt_truthk K hK ha.p he) fun σ H Q ⟨sr,q⟩=>⟨sr,wl.mono (fun l q1 u1 H1 g1 s1 v1=>by
 obtain⟨b,vs,rfl,h,rs⟩:=v1.sq s1
 refine⟨!vs.isEmpty,?_,?_⟩
 ·exact h.elim (fun h=>.inl ⟨_,h,rfl⟩) fun h=>.inr (.inl ⟨_,h,rfl⟩)
 ·rw [← isEmpty_vrs rs];exact q1 H1 g1 s1) q⟩⟩
variable {R:Type}{ks:List AK}{B:(List PV→W R)→W R}
theorem a_nil:AF X K fs [] [] (R:=R) (fun k=>k []):=⟨.ret [],PA.imp pa_nil fun σ H Q ⟨sr,q⟩=>q [] H .refl sr .nil,fun k=>rfl⟩
theorem a_cons (ha:EF X K fs e w) (hr:AF X K fs es ks B) (hs:starEach (e::es) X.env=(false,eval e X.env)::starEach es X.env:=by rfl):AF X K fs (e::es) (.v::ks) (fun k=>.bind w fun x=>B fun l=>k (x::l)):=by
 obtain⟨wr,hp,hB⟩:=hr.p
 refine⟨.bind w fun x=>.bind wr fun l=>.ret (x::l),PA.imp (pa_cons ha.p hp hs) fun σ H Q ⟨sr,q⟩=>?_,fun k=>?_⟩
 ·exact⟨sr,w.mono (fun x q1 u1 H1 g1 s1 v1=>⟨s1,wr.mono (fun l q2 vs H2 g2 s2 v2=>q2 _ H2 (g1.trans g2) s2 (.v (g2.vr s1 v1) v2)) q1⟩) q⟩
 ·have:(fun x=>B fun l=>k (x::l))=fun x=>W.bind wr fun l=>k (x::l):=funext fun x=>hB _
  rw [this]
  rfl
theorem a_pot (i:Nat) {x:Str}{φ:List V→Prop} (hr:AF X K fs es ks B) (hs:fs[i]?=some (some (.pot φ)):=by rfl) (hN:X.N[i]?=some x:=by rfl) (hv:Vis X.env.scope x:=by first | exact Or.inl rfl | exact Or.inr (Or.inl rfl) | exact Or.inr (Or.inr rfl)) (hd:(x==("__debug__":Str))=false:=by decide) (hcd:(x==("__classdict__":Str))=false:=by decide)
  (hst:starEach (.Name x pos::es) X.env=(false,eval (.Name x pos) X.env)::starEach es X.env:=by rfl):AF X K fs (.Name x pos::es) (.p φ::ks) B:=by
 obtain⟨wr,hp,hB⟩:=hr.p
 refine⟨wr,PA.imp (pa_cons (pe_var hN hv hd hcd) hp hst) fun σ H Q ⟨sr,q⟩=>?_,hB⟩
 obtain⟨u,e1,r⟩:=sr.at' i _ hs
 rcases r with⟨v,e,_⟩ | ⟨a,e,r⟩
 ·cases e
 ·subst e
  exact⟨_,e1,sr,wr.mono (fun l q2 vs H2 g2 s2 v2=>q2 _ H2 g2 s2 (.p ⟨i,hs,e1⟩ v2)) q⟩
theorem ArgsR.vrs {σ:L2.St}{H:Hp}:∀{vs:List V}{n:Nat}{l:List PV},ArgsR K σ fs H vs (List.replicate n .v) l→VRs K [] H vs l∧l.length=n
 | _,0,_,.nil=>⟨.nil,rfl⟩
 | _,n+1,_,.v r t=>⟨.cons r (ArgsR.vrs t).1,by rw [List.length_cons,(ArgsR.vrs t).2]⟩
theorem e_tup {x1}{n:Nat}{B:(List PV→W PV)→W PV} (h:AF X K fs es (List.replicate n .v) B) (hn:n≤1000:=by decide):EF X K fs (.Tuple es x1 pos) (B fun l=>.ret (.tup l)):=by
 obtain⟨w,hp,hB⟩:=h.p
 rw [hB]
 refine⟨PE.imp (pe_tupN hp) fun σ H Q ⟨sr,q⟩=>⟨sr,w.mono (fun l q1 vs H1 g1 s1 v1=>?_) q⟩⟩
 obtain⟨v2,hl⟩:=v1.vrs
 refine⟨by rw [v2.length,hl];exact small' hn,fun p H2 s2 e2 n2=>?_⟩
 exact q1 _ H2 (g1.trans (GoE.same s2)) (s1.same s2) (.tup e2 (VRs.tk s2.tupsK v2))
theorem l_lst {n:Nat}{B:(List PV→W (List PV))→W (List PV)} (h:AF X K fs es (List.replicate n .v) B) (hn:n≤1000:=by decide):LF X K fs (.List es pos) (B fun l=>.ret l):=by
 obtain⟨w,hp,hB⟩:=h.p
 rw [hB]
 refine⟨PE.imp (pe_lstN hp) fun σ H Q ⟨sr,q⟩=>⟨sr,w.mono (fun l q1 vs H1 g1 s1 v1=>?_) q⟩⟩
 obtain⟨v2,hl⟩:=v1.vrs
 refine⟨by rw [v2.length,hl];exact small' hn,fun p H2 s2 e2 n2=>?_⟩
 exact q1 _ _ H2 (g1.trans (GoE.same s2)) (s1.same s2) (g1.there p n2) e2 (VRs.tk s2.tupsK v2)
end
end FL
set_option Elab.async false
set_option linter.all false
set_option maxRecDepth 100000
namespace L2
open PySem PySem.Spec PyProof.Rows
theorem Inv.freezeL {X:Cx}{pins:List (Addr×Obj)}{σ:St}{H:Hp}{s:Shared}{a:Addr}{vs:List V} (I:Inv X pins σ H s) (e:H a=some (.lst vs)):∃o,Inv X pins σ (upd H a (.frz o (.lst vs))) s:=by
 obtain⟨z,its,n,r,h1⟩:=(show ObjOk X.prog X.w H s.heap a (.lst vs) from I.hok a _ e)
 exact⟨_,I.write (x:=a) (e:=a) (o:=.frz _ (.lst vs)) (h':=s.heap) (t':=s.toks) (by rw [e];exact True.intro) (.inl rfl) (fun b u _ z=>z) ⟨_,h1⟩ ⟨h1,z,its,n,r,h1⟩⟩
theorem hok_thawL {P:Program}{w:World}{H:Hp}{h:Heap}{a:Addr}{vs:List V}{o:Obj} (ok:HOk P w H h) (e:H a=some (.frz o (.lst vs))):HOk P w (upd H a (.lst vs)) h:=fun b u q=>by
 have ne:∀c v,H c=some v→v≠.frz o (.lst vs)→upd H a (.lst vs) c=some v:=fun c v z n=>by
  rw [upd_ne (fun y=>by subst y;rw [e] at z;cases z;exact n rfl)];exact z
 by_cases hb:b=a
 ·subst hb
  rw [upd_same] at q
  cases q
  exact ObjOk.stay (ok b _ e).2 (fun _ _ _ z=>z) (fun c z=>ne c _ z (by simp)) fun c xs z=>ne c _ z (by simp)
 ·rw [upd_ne hb] at q
  exact ObjOk.stay (ok b _ q) (fun _ _ _ z=>z) (fun c z=>ne c _ z (by simp)) fun c xs z=>ne c _ z (by simp)
end L2
namespace FL
open PySem PySem.Spec PyProof.Rows L2 PL
variable {K:PySem.W.Frag}
section
variable {σ:L2.St}{fs:FSt}{H H1 H':Hp}{a:Addr}{vs:List V}
theorem tk_side (o':HO) (e:H a=some (.lst vs)):TupsK K H (upd H a o'):=⟨fun b ws q=>by rw [upd_ne (ne_of q e (by intro z;cases z))];exact q,fun b o u q=>by rw [upd_ne (ne_of q e (by intro z;cases z))];exact q⟩
theorem SRf.side (s:SRf K H σ fs) (n:¬Owns σ fs a) (e:H a=some (.lst vs)) (o':HO):SRf K (upd H a o') σ fs:=⟨s.len,fun i t q=>by
 obtain⟨u,h1,h2⟩:=s.at' i t q
 exact⟨u,h1,h2.mono (tk_side o' e) (fun x b o eb ow hb z=>by subst eb;rw [upd_ne (fun y:b=a=>n ⟨i,t,x,q,ow,h1,y▸hb⟩)];exact z)⟩,s.nd⟩
theorem GoE.side (g:GoE σ fs H H1) (h0:H a=none) (o':HO):GoE σ fs H (upd H1 a o'):=⟨fun b o e n=>by rw [upd_ne (ne_of_none e h0)];exact g.keep b o e n,fun b e=>by
 by_cases c:b=a
 ·subst c;exact h0
 ·rw [upd_ne c] at e;exact g.there b e⟩
end
section
variable {X:Cx}{a b c e o:Expr}{es rest:List Expr}{pos p p2:Pos}{fs:FSt}{w wa wb wc:W PV}{wl wm:W (List PV)}
theorem e_frz (h:LF X K fs e wl):EF X K fs e (.bind wl fun l=>.ret (.cl l)):=⟨fun pins s σ H Q I ⟨sr,q⟩=>by
 refine thn (h.p pins s σ H (fun u H1=>∃a vs l,u=.ref a∧GoE σ fs H H1∧SRf K H1 σ fs∧H a=none∧H1 a=some (.lst vs)∧VRs K [] H1 vs l∧∀u H',GoE σ fs H H'→SRf K H' σ fs→VR K [] H' u (.cl l)→Q u H') I ⟨sr,wl.mono (fun l q1 a vs H1 g1 s1 n e v=>⟨a,vs,l,rfl,g1,s1,n,e,v,q1⟩) q⟩) fun u s1 ⟨v,H1,I1,r1,a,vs,l,e,g1,s1',n,ea,vr,q1⟩=>?_
 subst e
 obtain⟨ob,I2⟩:=I1.freezeL ea
 exact⟨.ref a,_,I2,r1,q1 _ _ (g1.side n _) (s1'.side (fun z=>sr.noOwn n z) ea _) (.cl (.inl ⟨ob,upd_same⟩) (VRs.tk (tk_side _ ea) vr))⟩⟩
def seqW:PV→W (List PV)
 | .tup l=>.ret l
 | .cl l=>.ret l
 | _=>.fail
theorem i_val (h:EF X K fs e w):IF X K fs e (.bind w seqW):=⟨PE.imp h.p fun σ H Q ⟨sr,q⟩=>⟨sr,w.mono (fun x q1 u1 H1 g1 s1 v1=>by
 cases v1 with
 | tup e r=>exact q1 _ H1 g1 s1 ⟨_,_,rfl,.inr e,r⟩
 | cl e r=>exact q1 _ H1 g1 s1 ⟨_,_,rfl,.inl e,r⟩
 | _=>exact q1.elim) q⟩⟩
theorem i_new (h:LF X K fs e wl):IF X K fs e wl:=i_val (e_frz h)
theorem IF.q (h:IF X K fs e wl):QF X K fs e wl:=⟨PE.imp h.p fun σ H Q ⟨sr,q⟩=>⟨sr,wl.mono (fun l q1 u1 H1 g1 s1 v1=>q1 u1 H1 g1 s1 (.inl v1)) q⟩⟩
theorem q_val (h:EF X K fs e w):QF X K fs e (.bind w seqW):=(i_val h).q
theorem q_new (h:LF X K fs e wl):QF X K fs e wl:=⟨PE.imp h.p fun σ H Q ⟨sr,q⟩=>⟨sr,wl.mono (fun l q1 a vs H1 g1 s1 n e v=>q1 _ H1 g1 s1 (.inr ⟨a,rfl,.inl ⟨sr.noOwn n,vs,e,v⟩⟩)) q⟩⟩
theorem q_own (i:Nat) {x:Str}{q0:Option Addr}{l:List PV} (hs:fs[i]?=some (some (.ol q0 l)):=by rfl) (hN:X.N[i]?=some x:=by rfl) (hv:Vis X.env.scope x:=by first | exact Or.inl rfl | exact Or.inr (Or.inl rfl) | exact Or.inr (Or.inr rfl)) (hd:(x==("__debug__":Str))=false:=by decide) (hcd:(x==("__classdict__":Str))=false:=by decide):QF X K fs (.Name x pos) (.ret l):=
 ⟨PE.imp (pe_var hN hv hd hcd) fun σ H Q ⟨sr,q⟩=>by
  obtain⟨u,e1,r⟩:=sr.at' i _ hs
  rcases r with⟨w,e,r⟩ | ⟨a,e,r⟩
  ·cases e
  ·subst e
   exact⟨_,e1,q _ H .refl sr (.inr ⟨a,rfl,.inr ⟨i,q0,hs,e1⟩⟩)⟩⟩
def ixW (l:List PV):PV→W PV
 | .int i=>.ofO (atI l i)
 | _=>.fail
theorem e_ix (hK:X.K=K) (ha:QF X K fs a wl) (hb:EF X K fs b wb) (hs:PlainIx b):EF X K fs (.Subscript a b pos) (.bind wl fun l=>.bind wb fun y=>ixW l y):=⟨PE.imp (pe_ix (ix_seqk K hK) ha.p hb.p hs) fun σ H Q ⟨sr,q⟩=>⟨sr,wl.mono (fun l q1 u1 H1 g1 s1 v1=>⟨s1,wb.mono (fun y q2 u2 H2 g2 s2 v2=>by
 cases v2 with
 | int i=>
  have q2:(W.ofO (atI l i)).run _:=q2
  cases z:atI l i with
  | none=>rw [z] at q2;exact q2.elim
  | some x=>
   rw [z] at q2
   obtain⟨ad,vs,rfl,h,rs⟩:=(v1.go s1 g2).sq s2
   obtain⟨v,e1,e2⟩:=VRs.atI rs z
   have q3:=q2 v H2 (g1.trans g2) s2 e2
   exact h.elim (fun h=>.inl ⟨ad,vs,i,v,rfl,rfl,h,e1,q3⟩) fun h=>.inr (.inl ⟨ad,vs,i,v,rfl,rfl,h,e1,q3⟩)
 | _=>exact q2.elim) q1⟩) q⟩⟩
theorem e_ixS (ha:EF X K fs a wa) (hb:EF X K fs b wb) (hs:PlainIx b):EF X K fs (.Subscript a b pos) (.bind wa fun x=>.bind wb fun y=>of2 oIxS x y):=⟨PE.imp (pe_ix ix_str ha.p hb.p hs) (fE_op oIxS_ok)⟩
def of1 (m:MB1) (l:List PV):W PV:=⟨fun Q=>m.f l [] fun z h=>h=[]∧Q z,fun f q=>m.mono (fun _ _ q=>⟨q.1,f _ q.2⟩) q⟩
section
variable {x:Str}{id:String}{r:List V→Hp→VK→Prop}{ks:List AK}{B:(List PV→W PV)→W PV}{n:Nat}
theorem of1_ok {m:MB1} (hm:MB1.Ok K r m) {σ:L2.St}{H:Hp}{Q:VK}{us:List V}{l:List PV} (sr:SRf K H σ fs) (hu:VRs K [] H us l) (q:(of1 m l).run fun z=>∀u H',GoE σ fs H H'→SRf K H' σ fs→VR K [] H' u z→Q u H'):r us H Q:=hm (hr0 H) hu (m.mono (fun z h q=>pq0 sr q) q)
theorem e_callB {m:MB1} (hc:CallR X (.builtin id) r) (hB:MB1.Ok K r m) (hg:Gl X x) (hm:X.mg x=none) (hv:bootBuiltins x=some (.builtin id)) (ha:AF X K fs (e::es) (List.replicate n .v) B) (hn:x≠"__name__":=by decide) (hdb:(x==("__debug__":Str))=false:=by decide)
  (he:starEach (e::es) X.env=(false,eval e X.env)::starEach es X.env:=by rfl) (hpl:(backTo pos (starEach es X.env)).any (·.1)=false:=by rfl):EF X K fs (.Call (.Name x p) (e::es) [] pos) (B (of1 m)):=by
 obtain⟨w,hp,hB2⟩:=ha.p
 rw [hB2]
 exact⟨PE.imp (pe_callB hc hg hm hv hp hn hdb he hpl) fun σ H Q ⟨sr,q⟩=>⟨sr,w.mono (fun l q1 vs H1 g1 s1 v1=>of1_ok hB s1 v1.vrs.1 ((of1 m l).mono (fun z q u H' g s v=>q u H' (g1.trans g) s v) q1)) q⟩⟩
theorem e_callTy {m:MB1} (hc:CallR X (.type id) r) (hB:MB1.Ok K r m) (hg:Gl X x) (hm:X.mg x=none) (hv:bootBuiltins x=some (.type id)) (ha:AF X K fs (e::es) (List.replicate n .v) B) (hn:x≠"__name__":=by decide) (hdb:(x==("__debug__":Str))=false:=by decide)
  (he:starEach (e::es) X.env=(false,eval e X.env)::starEach es X.env:=by rfl) (hpl:(backTo pos (starEach es X.env)).any (·.1)=false:=by rfl):EF X K fs (.Call (.Name x p) (e::es) [] pos) (B (of1 m)):=by
 obtain⟨w,hp,hB2⟩:=ha.p
 rw [hB2]
 exact⟨PE.imp (pe_callTy hc hg hm hv hp hn hdb he hpl) fun σ H Q ⟨sr,q⟩=>⟨sr,w.mono (fun l q1 vs H1 g1 s1 v1=>of1_ok hB s1 v1.vrs.1 ((of1 m l).mono (fun z q u H' g s v=>q u H' (g1.trans g) s v) q1)) q⟩⟩
def CQ (K:PySem.W.Frag) (r:List V→Hp→VK→Prop) (m:List PV→W PV):Prop:=∀{fs:FSt}{σ:L2.St}{H:Hp}{Q:VK}{u:V}{l:List PV},SRf K H σ fs→SqF K σ fs H u l→((m l).run fun z=>∀u H',GoE σ fs H H'→SRf K H' σ fs→VR K [] H' u z→Q u H')→r [u] H Q
def CL (K:PySem.W.Frag) (r:List V→Hp→VK→Prop) (m:List PV→W (List PV)):Prop:=∀{fs:FSt}{σ:L2.St}{H:Hp}{Q:VK}{u:V}{l:List PV},SRf K H σ fs→SqF K σ fs H u l→((m l).run fun z=>∀a vs H',GoE σ fs H H'→SRf K H' σ fs→H a=none→H' a=some (.lst vs)→VRs K [] H' vs z→Q (.ref a) H')→r [u] H Q
theorem e_callBQ {m:List PV→W PV} (hc:CallR X (.builtin id) r) (hB:CQ K r m) (hg:Gl X x) (hm:X.mg x=none) (hv:bootBuiltins x=some (.builtin id)) (ha:QF X K fs e wl) (hn:x≠"__name__":=by decide) (hdb:(x==("__debug__":Str))=false:=by decide)
  (he:starEach [e] X.env=(false,eval e X.env)::starEach [] X.env:=by rfl) (hpl:(backTo pos (starEach [] X.env)).any (·.1)=false:=by rfl):EF X K fs (.Call (.Name x p) [e] [] pos) (.bind wl m):=⟨PE.imp (pe_callB hc hg hm hv (pa_cons ha.p pa_nil he) hn hdb he hpl) fun σ H Q ⟨sr,q⟩=>⟨sr,wl.mono (fun l q1 u H1 g1 s1 v1=>hB s1 v1 ((m l).mono (fun z q u H' g s v=>q u H' (g1.trans g) s v) q1)) q⟩⟩
theorem e_callTyQ {m:List PV→W PV} (hc:CallR X (.type id) r) (hB:CQ K r m) (hg:Gl X x) (hm:X.mg x=none) (hv:bootBuiltins x=some (.type id)) (ha:QF X K fs e wl) (hn:x≠"__name__":=by decide) (hdb:(x==("__debug__":Str))=false:=by decide)
  (he:starEach [e] X.env=(false,eval e X.env)::starEach [] X.env:=by rfl) (hpl:(backTo pos (starEach [] X.env)).any (·.1)=false:=by rfl):EF X K fs (.Call (.Name x p) [e] [] pos) (.bind wl m):=⟨PE.imp (pe_callTy hc hg hm hv (pa_cons ha.p pa_nil he) hn hdb he hpl) fun σ H Q ⟨sr,q⟩=>⟨sr,wl.mono (fun l q1 u H1 g1 s1 v1=>hB s1 v1 ((m l).mono (fun z q u H' g s v=>q u H' (g1.trans g) s v) q1)) q⟩⟩
theorem l_callB {m:List PV→W (List PV)} (hc:CallR X (.builtin id) r) (hB:CL K r m) (hg:Gl X x) (hm:X.mg x=none) (hv:bootBuiltins x=some (.builtin id)) (ha:QF X K fs e wl) (hn:x≠"__name__":=by decide) (hdb:(x==("__debug__":Str))=false:=by decide)
  (he:starEach [e] X.env=(false,eval e X.env)::starEach [] X.env:=by rfl) (hpl:(backTo pos (starEach [] X.env)).any (·.1)=false:=by rfl):LF X K fs (.Call (.Name x p) [e] [] pos) (.bind wl m):=⟨PE.imp (pe_callB hc hg hm hv (pa_cons ha.p pa_nil he) hn hdb he hpl) fun σ H Q ⟨sr,q⟩=>⟨sr,wl.mono (fun l q1 u H1 g1 s1 v1=>hB s1 v1 ((m l).mono (fun z q a vs H' g s n e v=>q a vs H' (g1.trans g) s (g1.there a n) e v) q1)) q⟩⟩
theorem l_callTy {m:List PV→W (List PV)} (hc:CallR X (.type id) r) (hB:CL K r m) (hg:Gl X x) (hm:X.mg x=none) (hv:bootBuiltins x=some (.type id)) (ha:QF X K fs e wl) (hn:x≠"__name__":=by decide) (hdb:(x==("__debug__":Str))=false:=by decide)
  (he:starEach [e] X.env=(false,eval e X.env)::starEach [] X.env:=by rfl) (hpl:(backTo pos (starEach [] X.env)).any (·.1)=false:=by rfl):LF X K fs (.Call (.Name x p) [e] [] pos) (.bind wl m):=⟨PE.imp (pe_callTy hc hg hm hv (pa_cons ha.p pa_nil he) hn hdb he hpl) fun σ H Q ⟨sr,q⟩=>⟨sr,wl.mono (fun l q1 u H1 g1 s1 v1=>hB s1 v1 ((m l).mono (fun z q a vs H' g s n e v=>q a vs H' (g1.trans g) s (g1.there a n) e v) q1)) q⟩⟩
end
def lenW (l:List PV):W PV:=.ret (.int l.length)
theorem lenQ_ok (K:PySem.W.Frag):CQ K (rLen K) lenW:=fun {fs σ H Q u l} s v q=>by
 obtain⟨a,vs,rfl,h,rs⟩:=v.sq s
 refine⟨_,vs.length,rfl,?_,?_⟩
 ·exact h.elim (fun h=>.inl ⟨_,h,rfl⟩) fun h=>.inr ⟨_,h,rfl⟩
 ·rw [rs.length];exact q _ H .refl s (.int _)
def tupW (l:List PV):W PV:=.ret (.tup l)
theorem tupQ_ok (K:PySem.W.Frag):CQ K (rTupT K) tupW:=fun {fs σ H Q u l} s v q=>by
 have fresh:∀{a:Addr}{vs:List V},SqL K H a vs→VRs K [] H vs l→rTupT K [.ref a] H Q:=fun {a vs} h rs=>⟨a,vs,rfl,.inl ⟨h,fun p H2 s2 e2 n2=>q _ H2 (GoE.same s2) (s.same s2) (.tup e2 (VRs.tk s2.tupsK rs))⟩⟩
 rcases v with⟨a,vs,rfl,h | h,rs⟩ | ⟨a,rfl,⟨n,vs,h,rs⟩ | ⟨i,_,q1,q2⟩⟩
 ·exact fresh h.sq rs
 ·exact⟨a,vs,rfl,.inr ⟨SqT.of h,q _ H .refl s (.tup h rs)⟩⟩
 ·exact fresh (SqL.of h) rs
 ·obtain⟨_,vs,h,rs⟩:=s.ownAt q1 rfl q2
  exact fresh (SqL.of h) rs
end
end FL
set_option Elab.async false
set_option linter.all false
set_option maxRecDepth 100000
namespace FL
open PySem PySem.Spec PyProof.Rows L2 PL
variable {K:PySem.W.Frag}
def PotArg (vs:List V) (ks:List AK) (φ:List V→Prop) (a:Addr):Prop:=∃i:Nat,ks[i]?=some (.p φ)∧vs[i]?=some (.ref a)
structure GoC (vs:List V) (ks:List AK) (H H':Hp):Prop where
 keep:∀a o,H a=some o→(∀φ,¬PotArg vs ks φ a)→H' a=some o
 there:∀a,H' a=none→H a=none
 pots:∀a φ,PotArg vs ks φ a→∃ws,H' a=some (.lst ws)∧φ ws
inductive ArgC (K:PySem.W.Frag) (H:Hp):List V→List AK→List PV→Prop
 | nil:ArgC K H [] [] []
 | v {u:V}{x:PV}{vs:List V}{ks:List AK}{l:List PV} (r:VR K [] H u x) (t:ArgC K H vs ks l):ArgC K H (u::vs) (.v::ks) (x::l)
 | p {a:Addr}{φ:List V→Prop}{ws vs:List V}{ks:List AK}{l:List PV} (e:H a=some (.lst ws)) (r:φ ws) (t:ArgC K H vs ks l):ArgC K H (.ref a::vs) (.p φ::ks) l
 | f {a:Addr}{vs:List V}{ks:List AK}{l:List PV} (t:ArgC K H vs ks l):ArgC K H (.ref a::vs) (.f a::ks) l
def spF (K:PySem.W.Frag) (ks:List AK) (m:List PV→W PV):Sp:=fun vs H Q _=>∃l,ArgC K H vs ks l∧(m l).run fun v=>∀u H',GoC vs ks H H'→VR K [] H' u v→Q u H'
def spFL (K:PySem.W.Frag) (ks:List AK) (m:List PV→W (List PV)):Sp:=fun vs H Q _=>∃l,ArgC K H vs ks l∧(m l).run fun z=>∀a ws H',GoC vs ks H H'→H a=none→H' a=some (.lst ws)→VRs K [] H' ws z→Q (.ref a) H'
def Cur (R:Type):Nat→Type
 | 0=>W R
 | n+1=>PV→Cur R n
def unc {R:Type}:(n:Nat)→Cur R n→List PV→W R
 | 0,m,[]=>m
 | n+1,m,x::l=>unc n (m x) l
 | 0,_,_::_=>.fail
 | _+1,_,[]=>.fail
section
variable {σ:L2.St}{fs:FSt}{H H':Hp}{vs:List V}{ks:List AK}{l:List PV}
theorem ArgsR.pot (h:ArgsR K σ fs H vs ks l) {φ:List V→Prop}{a:Addr} (p:PotArg vs ks φ a):PotOf σ fs φ a:=by
 obtain⟨i,e1,e2⟩:=p
 induction h generalizing i with
 | nil=>simp at e1
 | v r t ih=>cases i with | zero=>simp at e1 | succ i=>exact ih i (by simpa using e1) (by simpa using e2)
 | p r t ih=>
  cases i with
  | zero=>simp at e1 e2;subst e1;subst e2;exact r
  | succ i=>exact ih i (by simpa using e1) (by simpa using e2)
 | f t ih=>cases i with | zero=>simp at e1 | succ i=>exact ih i (by simpa using e1) (by simpa using e2)
theorem ArgsR.c (h:ArgsR K σ fs H vs ks l) (s:SRf K H σ fs):ArgC K H vs ks l:=by
 induction h with
 | nil=>exact .nil
 | v r t ih=>exact .v r ih
 | p r t ih=>
  obtain⟨i,e1,e2⟩:=r
  obtain⟨ws,q,x⟩:=s.ownAt e1 rfl e2
  exact .p q x ih
 | f t ih=>exact .f ih
theorem GoC.caller (g:GoC vs ks H H') (h:ArgsR K σ fs H vs ks l) (s:SRf K H σ fs):SRf K H' σ fs∧GoE σ fs H H':=by
 have po:∀{φ:List V→Prop}{a:Addr},PotArg vs ks φ a→Owns σ fs a:=fun {φ a} p=>let ⟨i,e1,e2⟩:=h.pot p;⟨i,_,_,e1,rfl,e2,.inl rfl⟩
 have gf:GoE σ fs H H':=⟨fun a o e n=>g.keep a o e fun φ p=>n φ (h.pot p),g.there⟩
 have tk:=gf.tups s
 refine⟨⟨s.len,fun i t e=>?_,s.nd⟩,gf⟩
 obtain⟨u,h1,h2⟩:=s.at' i t e
 refine⟨u,h1,?_⟩
 rcases h2 with⟨v,q,r⟩ | ⟨a,q,r⟩
 ·exact .inl ⟨v,q,VR.tk tk r⟩
 ·subst q
  refine .inr ⟨a,rfl,?_⟩
  by_cases c:(∃φ,PotArg vs ks φ a)∧t.own=true
  ·obtain⟨⟨φ,p⟩,ow⟩:=c
   obtain⟨j,e1,e2⟩:=h.pot p
   have ij:=s.nd i j t _ a a a e e1 ow rfl h1 e2 (.inl rfl) (.inl rfl)
   subst ij
   rw [e] at e1
   cases e1
   exact g.pots a φ p
  ·refine r.mono tk (fun b o ow hb z=>g.keep b o z fun φ p=>?_)
   obtain⟨j,e1,e2⟩:=h.pot p
   have ij:=s.nd i j t _ a b b e e1 ow rfl h1 e2 hb (.inl rfl)
   subst ij
   rw [h1] at e2
   cases e2
   exact c ⟨⟨φ,p⟩,ow⟩
end
section
variable {X:Cx}{e:Expr}{es:List Expr}{pos p:Pos}{fs:FSt}{k k':Nat}{ps:List Str}{x:Str}{ks:List AK}
theorem e_call {m:List PV→W PV}{B:(List PV→W PV)→W PV} (G:Cal X.prog X.w X.K X.mg X.base x k ps (spF K ks m)) (hr:Room k' X.A) (hk:k≤k') (hg:Gl X x) (ha:AF X K fs (e::es) ks B) (hdb:(x==("__debug__":Str))=false:=by decide)
  (he:starEach (e::es) X.env=(false,eval e X.env)::starEach es X.env:=by rfl) (hpl:(backTo pos (starEach es X.env)).any (·.1)=false:=by rfl):EF X K fs (.Call (.Name x p) (e::es) [] pos) (B m):=by
 obtain⟨w,hp,hB⟩:=ha.p
 rw [hB]
 exact⟨PE.imp (pe_cal G hr hk hg hp hdb he hpl) fun σ H Q ⟨sr,q⟩=>⟨sr,w.mono (fun l q1 vs H1 g1 s1 v1=>⟨l,v1.c s1,(m l).mono (fun z q2 u H2 g2 r2=>let ⟨s2,g3⟩:=g2.caller v1 s1;q2 u H2 (g1.trans g3) s2 r2) q1⟩) q⟩⟩
theorem l_call {m:List PV→W (List PV)}{B:(List PV→W (List PV))→W (List PV)} (G:Cal X.prog X.w X.K X.mg X.base x k ps (spFL K ks m)) (hr:Room k' X.A) (hk:k≤k') (hg:Gl X x) (ha:AF X K fs (e::es) ks B) (hdb:(x==("__debug__":Str))=false:=by decide)
  (he:starEach (e::es) X.env=(false,eval e X.env)::starEach es X.env:=by rfl) (hpl:(backTo pos (starEach es X.env)).any (·.1)=false:=by rfl):LF X K fs (.Call (.Name x p) (e::es) [] pos) (B m):=by
 obtain⟨w,hp,hB⟩:=ha.p
 rw [hB]
 exact⟨PE.imp (pe_cal G hr hk hg hp hdb he hpl) fun σ H Q ⟨sr,q⟩=>⟨sr,w.mono (fun l q1 vs H1 g1 s1 v1=>⟨l,v1.c s1,(m l).mono (fun z q2 a ws H2 g2 n2 e2 r2=>let ⟨s2,g3⟩:=g2.caller v1 s1;q2 a ws H2 (g1.trans g3) s2 (g1.there a n2) e2 r2) q1⟩) q⟩⟩
end
end FL
set_option Elab.async false
set_option linter.all false
set_option maxRecDepth 100000
namespace FL
open PySem PySem.Spec PyProof.Rows L2 PL
variable {K:PySem.W.Frag}
inductive End where
 | nx (fs:FSt) | nc (fs:FSt) | ct (fs:FSt) | rt (v:PV) | rl (l:List PV) | bk (fs:FSt) | ro (v:PV) (a:Addr) (l:List PV)
def FreshO (σ:L2.St) (fs:FSt) (H:Hp) (a:Addr):Prop:=H a=none∨∃(i:Nat) (s:SL) (x:Addr),fs[i]?=some (some s)∧s.own=true∧(∀φ,s≠.pot φ)∧σ[i]?=some (some (.ref x))∧s.has x a
def EndR (K:PySem.W.Frag) (x:Bool) (σ:L2.St) (fs:FSt) (H:Hp) (D:Ends):End→Prop
 | .nx fs'=>x=false→∀σ' H',GoF σ fs H σ' fs' H'→SRf K H' σ' fs'→D.nx σ' H'
 | .nc fs'=>∀σ' H',GoF σ fs H σ' fs' H'→SRf K H' σ' fs'→(x=false→D.nx σ' H')∧D.ct σ' H'
 | .ct fs'=>∀σ' H',GoF σ fs H σ' fs' H'→SRf K H' σ' fs'→D.ct σ' H'
 | .bk fs'=>∀σ' H',GoF σ fs H σ' fs' H'→SRf K H' σ' fs'→D.bk σ' H'
 | .rt v=>∀u σ' fs' H',GoF σ fs H σ' fs' H'→SRf K H' σ' fs'→VR K [] H' u v→D.rt u H'
 | .ro v a l=>∀u σ' fs' H',GoF σ fs H σ' fs' H'→SRf K H' σ' fs'→(∃i:Nat,fs'[i]?=some (some (.ol (some a) l)))→VR K [] H' u v→D.rt u H'
 | .rl l=>∀a ws σ' fs' H',GoF σ fs H σ' fs' H'→SRf K H' σ' fs'→FreshO σ fs H a→H' a=some (.lst ws)→VRs K [] H' ws l→D.rt (.ref a) H'
def fS (K:PySem.W.Frag) (x:Bool) (fs:FSt) {T:Type} (w:W T) (out:T→End):TS:=fun D σ H=>SRf K H σ fs∧w.run fun t=>EndR K x σ fs H D (out t)
structure SF (X:Cx) (K:PySem.W.Frag) (x:Bool) (fs:FSt) (sts:List Stmt) {T:Type} (w:W T) (out:T→End):Prop where p:PSs X sts (fS K x fs w out)
section
variable {σ σ1:L2.St}{fs fs1:FSt}{H H1:Hp}{D:Ends}{x:Bool}
theorem FreshO.go {a:Addr} (g:GoF σ fs H σ1 fs1 H1) (s:SRf K H σ fs) (s1:SRf K H1 σ1 fs1) (h:FreshO σ1 fs1 H1 a):FreshO σ fs H a:=by
 rcases h with h | ⟨i,t,x,e1,e2,np,e3,e4⟩
 ·exact .inl (g.there a h)
 ·cases z:H a with
  | none=>exact .inl z
  | some o=>
   by_cases c:Owns σ fs a
   ·obtain⟨j,t',y,c1,c2,c3,c4⟩:=c
    by_cases d:∃φ,t'=.pot φ
    ·obtain⟨φ,rfl⟩:=d
     rcases c4 with rfl | c4
     ·rcases g.pk a φ ⟨j,c1,c3⟩ with⟨k,k1,k2⟩ | ⟨n,_⟩
      ·have:=s1.nd i k t _ x a a e1 k1 e2 rfl e3 k2 e4 (.inl rfl)
       subst this
       rw [e1] at k1
       cases k1
       exact absurd rfl (np φ)
      ·exact absurd ⟨i,t,x,e1,e2,e3,e4⟩ n
     ·cases c4
    ·exact .inr ⟨j,t',y,c1,c2,fun φ e=>d ⟨φ,e⟩,c3,c4⟩
   ·exact absurd ⟨i,t,x,e1,e2,e3,e4⟩ (g.keep a o z c).2
theorem EndR.go (g:GoF σ fs H σ1 fs1 H1) (s:SRf K H σ fs) (s1:SRf K H1 σ1 fs1) {E:End} (h:EndR K x σ fs H D E):EndR K x σ1 fs1 H1 D E:=by
 cases E with
 | nx fs'=>exact fun hx σ' H' g' s'=>h hx σ' H' (g.trans g') s'
 | nc fs'=>exact fun σ' H' g' s'=>h σ' H' (g.trans g') s'
 | bk fs'=>exact fun σ' H' g' s'=>h σ' H' (g.trans g') s'
 | ct fs'=>exact fun σ' H' g' s'=>h σ' H' (g.trans g') s'
 | rt v=>exact fun u σ' fs' H' g' s' r=>h u σ' fs' H' (g.trans g') s' r
 | ro v a l=>exact fun u σ' fs' H' g' s' o r=>h u σ' fs' H' (g.trans g') s' o r
 | rl l=>exact fun a ws σ' fs' H' g' s' f e r=>h a ws σ' fs' H' (g.trans g') s' (f.go g s s1) e r
theorem EndR.exit {D':Ends} (h1:D'.rt=D.rt) (h2:D'.ct=D.ct) (h3:D'.bk=D.bk) {E:End} (h:EndR K x σ fs H D E):EndR K true σ fs H D' E:=by
 cases E with
 | nx fs'=>exact fun hx=>nomatch hx
 | nc fs'=>exact fun σ' H' g' s'=>⟨fun hx=>(nomatch hx),h2▸(h σ' H' g' s').2⟩
 | bk fs'=>exact fun σ' H' g' s'=>h3▸h σ' H' g' s'
 | ct fs'=>exact fun σ' H' g' s'=>h2▸h σ' H' g' s'
 | rt v=>exact fun u σ' fs' H' g' s' r=>h1▸h u σ' fs' H' g' s' r
 | ro v a l=>exact fun u σ' fs' H' g' s' o r=>h1▸h u σ' fs' H' g' s' o r
 | rl l=>exact fun a ws σ' fs' H' g' s' f e r=>h1▸h a ws σ' fs' H' g' s' f e r
end
section
variable {X:Cx}{a b c e o:Expr}{pos p p2:Pos}{fs fs':FSt}{st:Stmt}{sts rest sa sb:List Stmt}{T T1:Type}{w wk:W T}{out:T→End}{we wa wb:W PV}{wl:W (List PV)}{x:Bool}
def End.isOut:End→Prop
 | .rt _=>True
 | .rl _=>True
 | .ro _ _ _=>True
 | _=>False
theorem EndR.outw {σ:L2.St}{H:Hp}{D D':Ends}{y:Bool}{E:End} (ho:E.isOut) (e:D'.rt=D.rt) (h:EndR K x σ fs H D E):EndR K y σ fs H D' E:=by
 cases E with
 | rt v=>exact fun u σ' fs' H' g s r=>e▸h u σ' fs' H' g s r
 | rl v=>exact fun a ws σ' fs' H' g s f ea r=>e▸h a ws σ' fs' H' g s f ea r
 | ro v a l=>exact fun u σ' fs' H' g s o r=>e▸h u σ' fs' H' g s o r
 | _=>exact ho.elim
def uRest (X:Cx) (K:PySem.W.Frag) (x:Bool) (rest:List Stmt) {T:Type} (out:T→End):TS:=fun D σ H=>∃fs' w',SF X K x fs' rest w' out∧fS K x fs' w' out D σ H
theorem rest_ok:PSs X rest (uRest X K x rest out):=fun pins s σ H D I ⟨fs',w',h,q⟩=>h.p pins s σ H D I q
theorem never_ok:PSs X rest tNever:=fun _ _ _ _ _ _ h=>h.elim
theorem SF.step {t:TS} (h:PS X st t) (hq:∀D σ H,fS K x fs w out D σ H→t {D with nx:=uRest X K x rest out D} σ H):SF X K x fs (st::rest) w out:=⟨PSs.imp (pss_cons h rest_ok) fun D σ H q=>hq D σ H q⟩
theorem SF.last {t:TS} (h:PS X st t) (hq:∀D σ H,fS K x fs w out D σ H→t {D with nx:=fun _ _=>False} σ H):SF X K x fs (st::rest) w out:=⟨PSs.imp (pss_cons h never_ok) fun D σ H q=>hq D σ H q⟩
theorem SF.nil {t:T} (h:out t=.nx fs') (hl:LeF fs fs'):SF X K false fs [] (.ret t) out:=⟨PSs.imp pss_nil fun D σ H ⟨sr,q⟩=>by
 have q:EndR K false σ fs H D (out t):=q
 rw [h] at q
 exact q rfl σ H (GoF.le sr hl) (sr.le hl)⟩
theorem SF.nilC {t:T} (h:out t=.nc fs') (hl:LeF fs fs'):SF X K false fs [] (.ret t) out:=⟨PSs.imp pss_nil fun D σ H ⟨sr,q⟩=>by
 have q:EndR K false σ fs H D (out t):=q
 rw [h] at q
 exact (q σ H (GoF.le sr hl) (sr.le hl)).1 rfl⟩
theorem SF.cont {t:T} (h:out t=.nc fs'∨out t=.ct fs') (hl:LeF fs fs'):SF X K x fs (.Continue pos::rest) (.ret t) out:=SF.last ps_continue fun D σ H ⟨sr,q⟩=>by
 have q:EndR K x σ fs H D (out t):=q
 rcases h with h | h
 ·rw [h] at q
  exact (q σ H (GoF.le sr hl) (sr.le hl)).2
 ·rw [h] at q
  exact q σ H (GoF.le sr hl) (sr.le hl)
theorem SF.ret {k:PV→T} (he:EF X K fs e we) (h:∀v,out (k v)=.rt v):SF X K x fs (.Return (some e) pos::rest) (.bind we fun v=>.ret (k v)) out:=SF.last (ps_ret he.p) fun D σ H ⟨sr,q⟩=>⟨sr,we.mono (fun v q1 u H1 g1 s1 v1=>by
 have q1:EndR K x σ fs H D (out (k v)):=q1
 rw [h] at q1
 exact q1 u σ fs H1 g1.f s1 v1) q⟩
theorem SF.retV {out:PV→End} (he:EF X K fs e we) (h:∀v,out v=.rt v):SF X K x fs (.Return (some e) pos::rest) we out:=SF.ret (k:=fun v=>v) he h
theorem SF.retL {k:List PV→T} (he:LF X K fs e wl) (h:∀l,out (k l)=.rl l):SF X K x fs (.Return (some e) pos::rest) (.bind wl fun l=>.ret (k l)) out:=SF.last (ps_ret he.p) fun D σ H ⟨sr,q⟩=>⟨sr,wl.mono (fun l q1 a ws H1 g1 s1 n e v1=>by
 have q1:EndR K x σ fs H D (out (k l)):=q1
 rw [h] at q1
 exact q1 a ws σ fs H1 g1.f s1 (.inl n) e v1) q⟩
theorem SF.retLV {out:List PV→End} (he:LF X K fs e wl) (h:∀v,out v=.rl v):SF X K x fs (.Return (some e) pos::rest) wl out:=SF.retL (k:=fun v=>v) he h
theorem SF.retO (i:Nat) {y:Str}{q0:Option Addr}{l:List PV}{t:T} (hs:fs[i]?=some (some (.ol q0 l))) (h:out t=.rl l) (hN:X.N[i]?=some y:=by rfl) (hv:Vis X.env.scope y:=by first | exact Or.inl rfl | exact Or.inr (Or.inl rfl) | exact Or.inr (Or.inr rfl)) (hd:(y==("__debug__":Str))=false:=by decide) (hcd:(y==("__classdict__":Str))=false:=by decide):SF X K x fs (.Return (some (.Name y p)) pos::rest) (.ret t) out:=SF.last (ps_ret (pe_var hN hv hd hcd)) fun D σ H ⟨sr,q⟩=>by
 have q:EndR K x σ fs H D (out t):=q
 rw [h] at q
 obtain⟨u,e1,r⟩:=sr.at' i _ hs
 rcases r with⟨v,e,_⟩ | ⟨a,e,r⟩
 ·cases e
 ·subst e
  obtain⟨_,ws,q1,q2⟩:=r
  exact⟨_,e1,q a ws σ fs H .refl sr (.inr ⟨i,_,_,hs,rfl,by simp,e1,.inl rfl⟩) q1 q2⟩
theorem SF.retI (i:Nat) {ad:Addr}{l:List PV}{k:PV→T} (hs:fs[i]?=some (some (.ol (some ad) l))) (he:EF X K fs e we) (h:∀v,out (k v)=.ro v ad l):SF X K x fs (.Return (some e) pos::rest) (.bind we fun v=>.ret (k v)) out:=SF.last (ps_ret he.p) fun D σ H ⟨sr,q⟩=>⟨sr,we.mono (fun v q1 u H1 g1 s1 v1=>by
 have q1:EndR K x σ fs H D (out (k v)):=q1
 rw [h] at q1
 exact q1 u σ fs H1 g1.f s1 ⟨i,hs⟩ v1) q⟩
theorem SF.expr {k:PV→W T} (he:EF X K fs e we) (hr:∀v,SF X K x fs rest (k v) out) (hs:swapsWith e none pos.line X.env=pure false:=by rfl):SF X K x fs (.Expr e pos::rest) (.bind we k) out:=SF.step (ps_expr he.p hs) fun D σ H ⟨sr,q⟩=>
 ⟨sr,we.mono (fun v q1 u H1 g1 s1 v1=>⟨fs,k v,hr v,s1,(k v).mono (fun t q2=>q2.go g1.f sr s1) q1⟩) q⟩
theorem SF.set {i:Nat}{y:Str}{p':Pos}{k:PV→W T} (hN:X.N.Nodup) (hi:X.N[i]?=some y) (hx:Loc X.env.scope y) (he:EF X K fs e we) (hr:∀v,SF X K x (fs.set i (some (.val v))) rest (k v) out) (hs:swapsWith e (some (.Name y p')) pos.line X.env=pure false:=by rfl)
  (hf:X.fn y=true∨X.env.scope.names.lookup y=some .local:=by first | exact .inl rfl | exact .inr rfl | assumption):SF X K x fs (.Assign [.Name y p'] e pos::rest) (.bind we k) out:=SF.step (ps_set hN hi hx he.p hs hf) fun D σ H ⟨sr,q⟩=>
 ⟨sr,we.mono (fun v q1 u H1 g1 s1 v1=>⟨_,k v,hr v,s1.putV v1 i,(k v).mono (fun t q2=>q2.go (g1.f.trans (GoF.putV s1 u v i)) sr (s1.putV v1 i)) q1⟩) q⟩
theorem SF.setL {i:Nat}{y:Str}{p':Pos}{k:List PV→W T} (hN:X.N.Nodup) (hi:X.N[i]?=some y) (hx:Loc X.env.scope y) (he:LF X K fs e wl) (hr:∀l,SF X K x (fs.set i (some (.ol none l))) rest (k l) out) (hs:swapsWith e (some (.Name y p')) pos.line X.env=pure false:=by rfl)
  (hf:X.fn y=true∨X.env.scope.names.lookup y=some .local:=by first | exact .inl rfl | exact .inr rfl | assumption):SF X K x fs (.Assign [.Name y p'] e pos::rest) (.bind wl k) out:=SF.step (ps_set hN hi hx he.p hs hf) fun D σ H ⟨sr,q⟩=>by
 refine⟨sr,wl.mono (fun l q1 a ws H1 g1 s1 n e v1=>?_) q⟩
 have no:=sr.noOwn n
 have s2:=s1.putO (t:=.ol none l) ⟨by simp,ws,e,v1⟩ no i
 exact⟨_,k l,hr l,s2,(k l).mono (fun t q2=>q2.go (GoF.putO s1 g1.f no n i) sr s2) q1⟩
theorem SF.frz (i:Nat) {q0:Option Addr}{l:List PV} (hs:fs[i]?=some (some (.ol q0 l))) (hr:SF X K x (fs.set i (some (.val (.cl l)))) sts w out):SF X K x fs sts w out:=⟨fun pins s σ H D I ⟨sr,q⟩=>by
 obtain⟨u,e1,r⟩:=sr.at' i _ hs
 rcases r with⟨v,e,_⟩ | ⟨a,e,_,ws,q1,q2⟩
 ·cases e
 ·subst e
  obtain⟨ob,I2⟩:=I.freezeL q1
  have tk:=tk_side (K:=K) (.frz ob (.lst ws)) q1
  have sS:σ.set i (some (.ref a))=σ:=List.ext_getElem? fun j=>by
   by_cases c:j=i
   ·subst c;rw [get_set_self ((List.getElem?_eq_some_iff.mp e1).1),e1]
   ·rw [get_set_other c]
  have ow:∀b,Owns σ (fs.set i (some (.val (.cl l)))) b→Owns σ fs b:=fun b z=>by
   obtain⟨j,t,x,z1,z2,z3,z4⟩:=z
   rcases set_get z1 with⟨rfl,rfl⟩ | ⟨n,z1⟩
   ·cases z2
   ·exact⟨j,t,x,z1,z2,z3,z4⟩
  have na:¬Owns σ (fs.set i (some (.val (.cl l)))) a:=fun z=>by
   obtain⟨j,t,x,z1,z2,z3,z4⟩:=z
   rcases set_get z1 with⟨rfl,rfl⟩ | ⟨n,z1⟩
   ·cases z2
   ·exact n (sr.nd j i t _ x a a z1 hs z2 rfl z3 e1 z4 (.inl rfl))
  have s2:SRf K (upd H a (.frz ob (.lst ws))) σ (fs.set i (some (.val (.cl l)))):=by
   refine⟨by simp [sr.len],fun j t z=>?_,fun j k t u b1 b2 b z1 z2 o1 o2=>?_⟩
   ·rcases set_get z with⟨rfl,rfl⟩ | ⟨n,z⟩
    ·exact⟨_,e1,.inl ⟨_,rfl,.cl (.inl ⟨ob,upd_same⟩) (VRs.tk tk q2)⟩⟩
    ·obtain⟨u,h1,h2⟩:=sr.at' j t z
     exact⟨u,h1,h2.mono tk (fun x b o eb ow hb zz=>by
      subst eb
      rw [upd_ne (fun y=>by subst y;exact n (sr.nd j i t _ x b b z hs ow rfl h1 e1 hb (.inl rfl)))];exact zz)⟩
   ·rcases set_get z1 with⟨rfl,rfl⟩ | ⟨n1,z1⟩
    ·cases o1
    ·rcases set_get z2 with⟨rfl,rfl⟩ | ⟨n2,z2⟩
     ·cases o2
     ·exact sr.nd j k t u b1 b2 b z1 z2 o1 o2
  have g2:GoF σ fs H σ (fs.set i (some (.val (.cl l)))) (upd H a (.frz ob (.lst ws))):=by
   refine⟨fun b o z n=>⟨?_,fun y=>n (ow b y)⟩,fun b z=>?_,fun b φ z=>?_⟩
   ·rw [upd_ne (fun y=>by subst y;exact n ⟨i,_,_,hs,rfl,e1,.inl rfl⟩)];exact z
   ·by_cases c:b=a
    ·subst c;rw [upd_same] at z;cases z
    ·rw [upd_ne c] at z;exact z
   ·obtain⟨j,z1,z2⟩:=z
    have:j≠i:=fun y=>by subst y;rw [hs] at z1;cases z1
    exact .inl ⟨j,by rw [get_set_other this];exact z1,z2⟩
  exact hr.p pins s σ _ D I2 ⟨s2,w.mono (fun t q3=>q3.go g2 sr s2) q⟩⟩
variable {tc:W Bool}
theorem SF.ifT (hc:TF X K fs c tc) (ha:SF X K x fs sa w out) (hb:SF X K x fs sb wk out):SF X K x fs [.If c sa sb pos] (.bind tc fun b=>if b=true then w else wk) out:=⟨PSs.imp (pss_one (ps_if hc.p ha.p hb.p)) fun D σ H ⟨sr,q⟩=>⟨sr,tc.mono (fun k q1 H1 g1 s1=>by
 cases k with
 | true=>exact iteT ⟨s1,w.mono (fun t q2=>q2.go g1.f sr s1) q1⟩
 | false=>exact iteF ⟨s1,wk.mono (fun t q2=>q2.go g1.f sr s1) q1⟩) q⟩⟩
theorem SF.ifR (hc:TF X K fs c tc) (ha:SF X K true fs sa w out) (hb:SF X K x fs rest wk out):SF X K x fs (.If c sa [] pos::rest) (.bind tc fun b=>if b=true then w else wk) out:=SF.step (ps_if hc.p ha.p pss_nil) fun D σ H ⟨sr,q⟩=>⟨sr,tc.mono (fun k q1 H1 g1 s1=>by
 cases k with
 | true=>exact iteT ⟨s1,w.mono (fun t q2=>EndR.exit (D:=D) (D':={D with nx:=uRest X K x rest out D}) rfl rfl rfl (q2.go g1.f sr s1)) q1⟩
 | false=>exact iteF ⟨fs,wk,hb,s1,wk.mono (fun t q2=>q2.go g1.f sr s1) q1⟩) q⟩
def EndK (X:Cx) (K:PySem.W.Frag) (x:Bool) (rest:List Stmt) {T:Type} (w:W T) (out:T→End):End→Prop
 | .nx fs'=>SF X K x fs' rest w out
 | .nc fs'=>False
 | .bk fs'=>∃t,w=.ret t∧out t=.bk fs'
 | .ct fs'=>∃t,w=.ret t∧(out t=.ct fs'∨out t=.nc fs')
 | .rt v=>∃t,w=.ret t∧out t=.rt v
 | .rl l=>∃t,w=.ret t∧out t=.rl l
 | .ro v a l=>∃t,w=.ret t∧out t=.ro v a l
theorem EndK.r {σ:L2.St}{H:Hp}{D:Ends}{E:End} (sr:SRf K H σ fs) (h:EndK X K x rest w out E) (q:w.run fun t=>EndR K x σ fs H D (out t)):EndR K false σ fs H {D with nx:=uRest X K x rest out D} E:=by
 cases E with
 | nx fs'=>exact fun _ σ' H' g' s'=>⟨fs',w,h,s',w.mono (fun t q2=>q2.go g' sr s') q⟩
 | nc fs'=>exact h.elim
 | bk fs'=>
  obtain⟨t,rfl,h⟩:=h
  have q:EndR K x σ fs H D (out t):=q
  rw [h] at q
  exact q
 | ct fs'=>
  obtain⟨t,rfl,h⟩:=h
  have q:EndR K x σ fs H D (out t):=q
  rcases h with h | h
  ·rw [h] at q
   exact q
  ·rw [h] at q
   exact fun σ' H' g s=>(q σ' H' g s).2
 | rt v=>
  obtain⟨t,rfl,h⟩:=h
  have q:EndR K x σ fs H D (out t):=q
  rw [h] at q
  exact q
 | rl v=>
  obtain⟨t,rfl,h⟩:=h
  have q:EndR K x σ fs H D (out t):=q
  rw [h] at q
  exact q
 | ro v a l=>
  obtain⟨t,rfl,h⟩:=h
  have q:EndR K x σ fs H D (out t):=q
  rw [h] at q
  exact q
variable {w1 w2:W T1}{out1:T1→End}{k:T1→W T}
theorem SF.ifS (hc:TF X K fs c tc) (ha:SF X K false fs sa w1 out1) (hb:SF X K false fs sb w2 out1) (hr:∀t,EndK X K x rest (k t) out (out1 t)):SF X K x fs (.If c sa sb pos::rest) (.bind tc fun b=>.bind (if b=true then w1 else w2) k) out:=SF.step (ps_if hc.p ha.p hb.p) fun D σ H ⟨sr,q⟩=>⟨sr,tc.mono (fun b q1 H1 g1 s1=>by
 have fin:∀t,(k t).run (fun t=>EndR K x σ fs H D (out t))→EndR K false σ fs H {D with nx:=uRest X K x rest out D} (out1 t):=fun t q=>(hr t).r sr q
 cases b with
 | true=>exact iteT ⟨s1,w1.mono (fun t q2=>(fin t q2).go g1.f sr s1) q1⟩
 | false=>exact iteF ⟨s1,w2.mono (fun t q2=>(fin t q2).go g1.f sr s1) q1⟩) q⟩
end
end FL
set_option Elab.async false
set_option linter.all false
set_option maxRecDepth 100000
namespace FL
open PySem PySem.Spec PyProof.Rows L2 PL
variable {K:PySem.W.Frag}
def JF (K:PySem.W.Frag) (H:Hp) (J:It) (l:List PV):Prop:=l.length≤sizeLine∧∀H',TupsK K H H'→(∀(i:Nat) (p:PV),l[i]?=some p→J.go i H'∧∀x H2,J.yld i H' x H2→Same H' H2∧VR K [] H2 x p)∧J.stop l.length H'
theorem JF.tk {H H':Hp}{J:It}{l:List PV} (t:TupsK K H H') (h:JF K H J l):JF K H' J l:=⟨h.1,fun H2 t2=>h.2 H2 (TupsK.trans t t2)⟩
def fIt (K:PySem.W.Frag) (fs:FSt) (w:W (List PV)):TI:=fun σ H R=>SRf K H σ fs∧w.run fun l=>∀J H',GoE σ fs H H'→SRf K H' σ fs→JF K H' J l→R J H'
structure ITF (X:Cx) (K:PySem.W.Frag) (fs:FSt) (tg e:Expr) (w:W (List PV)):Prop where p:PI X tg e (fIt K fs w)
section
variable {X:Cx}{a b c e tg:Expr}{pos p p1 p2:Pos}{fs:FSt}{w wa wb wc:W PV}{wl:W (List PV)}
theorem JF_list {H:Hp}{ad:Addr}{vs:List V}{l:List PV} (h:FzL K H ad vs) (r:VRs K [] H vs l) (hz:l.length≤sizeLine):JF K H (Itl K ad) l:=⟨hz,fun H' t=>by
 have e1:=(t.f _ _ h).sq
 have e2:=VRs.tk t r
 refine⟨fun i p hp=>?_,vs,e1,by rw [e2.length];exact Nat.le_refl _⟩
 obtain⟨v,h3,h4⟩:=e2.get hp
 refine⟨⟨vs,v,e1,h3⟩,fun x H3 y=>?_⟩
 obtain⟨rfl,y⟩:=y
 have:=y vs e1
 rw [h3] at this
 cases this
 exact⟨Same.refl _,h4⟩⟩
theorem JF_tup {H:Hp}{ad:Addr}{vs:List V}{l:List PV} (h:H ad=some (.tup vs)) (r:VRs K [] H vs l) (hz:l.length≤sizeLine):JF K H (Itt K ad) l:=⟨hz,fun H' t=>by
 have e1:=SqT.of (K:=K) (t.t _ _ h)
 have e2:=VRs.tk t r
 refine⟨fun i p hp=>?_,vs,e1,by rw [e2.length];exact Nat.le_refl _⟩
 obtain⟨v,h3,h4⟩:=e2.get hp
 refine⟨⟨vs,v,e1,h3⟩,fun x H3 y=>?_⟩
 obtain⟨rfl,y⟩:=y
 have:=y vs e1
 rw [h3] at this
 cases this
 exact⟨Same.refl _,h4⟩⟩
theorem it_seq (hK:X.K=K) (h:IF X K fs e wl):ITF X K fs tg e wl:=⟨by
 subst hK
 intro pins s σ H R I ⟨sr,q⟩
 refine thn (h.p pins s σ H (fun u H1=>∃l,SqI X.K H1 u l∧∀J,JF X.K H1 J l→R J H1) I ⟨sr,wl.mono (fun l q1 u H1 g1 s1 v1=>⟨l,v1,fun J j=>q1 J H1 g1 s1 j⟩) q⟩) fun v s1 ⟨x,H1,I1,r1,l,⟨ad,vs,e,hh,rs⟩,q1⟩=>?_
 subst e
 cases r1
 rcases hh with hh | hh
 ·obtain⟨its,rv,pl,hz⟩:=I1.list hh.sq
  refine wpAny_pyIter_list pl.isList ?_
  refine⟨s1.heap.objs.size,[s1.heap.objs.size],_,_,H1,rfl,I1.kept (t':=s1.toks) fun b o e=>Heap.get?_push_of_some _ e,turn_list ad _,⟨_,Heap.get?_push_size _ rfl,rfl,rfl⟩,fun b hb=>?_,q1 _ (JF_list hh rs (by rw [← rs.length];exact hz))⟩
  have e:b=s1.heap.objs.size:=by simpa using hb
  subst e
  exact I1.fpOk (Nat.le_refl _) (I1.hok.fresh (Nat.le_refl _))
 ·obtain⟨its,rv,pl,hz⟩:=I1.tuple (SqT.of hh)
  refine wpAny_pyIter_tuple (show s1.heap.IsTuple ad its.toArray from pl) ?_
  refine⟨s1.heap.objs.size,[s1.heap.objs.size],_,_,H1,rfl,I1.kept (t':=s1.toks) fun b o e=>Heap.get?_push_of_some _ e,turn_tuple ad _,⟨_,Heap.get?_push_size _ rfl,rfl,rfl⟩,fun b hb=>?_,q1 _ (JF_tup hh rs (by rw [← rs.length];exact hz))⟩
  have e:b=s1.heap.objs.size:=by simpa using hb
  subst e
  exact I1.fpOk (Nat.le_refl _) (I1.hok.fresh (Nat.le_refl _))⟩
def okN (i j:Int):Prop:=-(2 ^ 62)≤i∧i < 2 ^ 62∧-(2 ^ 62)≤j∧j < 2 ^ 62∧(j-i).toNat≤sizeLine
def rng1W:PV→W (List PV)
 | .int j=>.chk (okN 0 j) (.ret (intsV 0 j.toNat))
 | _=>.fail
theorem JF_int {H:Hp} (lo:Int) (n:Nat) (hz:n≤sizeLine):JF K H (Itr lo n) (intsV lo n):=⟨by rw [intsV_len];exact hz,fun H' t=>⟨fun i p hp=>by
  obtain⟨h1,rfl⟩:=intsV_get hp
  refine⟨h1,fun x H2 y=>?_⟩
  obtain⟨rfl,rfl⟩:=y
  exact⟨Same.refl _,.int _⟩,by show n≤(intsV lo n).length;rw [intsV_len];exact Nat.le_refl _⟩⟩
theorem it_rng1 (hg:Gl X "range") (hm:X.mg "range"=none) (ha:EF X K fs a wa) (hs:starEach [a] X.env=[(false,eval a X.env)]:=by rfl):ITF X K fs tg (.Call (.Name "range" p) [a] [] pos) (.bind wa rng1W):=
 ⟨PI.imp (pi_range1 hg hm (pa_cons ha.p pa_nil hs) hs) fun σ H R ⟨sr,q⟩=>⟨sr,wa.mono (fun x q1 u1 H1 g1 s1 v1=>by
  cases v1 with
  | int j=>exact⟨_,rfl,q1.1.2.2.1,q1.1.2.2.2.1,q1.2 _ H1 g1 s1 (JF_int _ _ (by have:=q1.1.2.2.2.2;omega))⟩
  | _=>exact q1.elim) q⟩⟩
theorem it_enum (hK:X.K=K) {elts:List Expr}{kk:Nat}{tp:Pos} (hg:Gl X "enumerate") (hm:X.mg "enumerate"=none) (h:IF X K fs e wl) (hs1:starEach [e] X.env=(false,eval e X.env)::starEach [] X.env:=by rfl):ITF X K fs (.Tuple elts kk tp) (.Call (.Name "enumerate" p1) [e] [] p2) (.bind wl fun l=>.chk (l.length≤sizeLine) (.ret (enumV 0 l))):=
 ⟨PI.imp (pi_enumA K hK hg hm h.p hs1) fun σ H R ⟨sr,q⟩=>⟨sr,wl.mono (fun l q1 u1 H1 g1 s1 v1=>by
  obtain⟨ad,vs,rfl,hh,rs⟩:=v1
  have yl:∀{H':Hp}{i:Nat}{x v:V}{y:PV}{pp:Addr},H' pp=none→VR K [] H' v y→Same H' (upd H' pp (.tup [.int (i:Int),v]))∧VR K [] (upd H' pp (.tup [.int (i:Int),v])) (.ref pp) (.tup [.int ((0+i:Nat):Int),y]):=fun {H' i x v y pp} hn h4=>
   have sm:=same_new hn (.tup [.int (i:Int),v])
   ⟨sm,.tup upd_same (.cons (by rw [Nat.zero_add];exact .int _) (.cons (VR.tk sm.tupsK h4) .nil))⟩
  refine⟨ad,rfl,?_⟩
  rcases hh with hh | hh
  ·refine .inl ⟨⟨vs,hh.sq⟩,q1.2 _ H1 g1 s1 ⟨by rw [enumV_len];exact q1.1,fun H' t=>⟨fun i p hp=>?_,vs,(t.f _ _ hh).sq,by rw [rs.length,enumV_len];exact Nat.le_refl _⟩⟩⟩
   obtain⟨y,hy,rfl⟩:=enumV_get hp
   obtain⟨v,h3,h4⟩:=(VRs.tk t rs).get hy
   refine⟨⟨vs,v,(t.f _ _ hh).sq,h3⟩,fun x H3 z=>?_⟩
   obtain⟨pp,x0,rfl,hn,rfl,hz⟩:=z
   have:=hz vs (t.f _ _ hh).sq
   rw [h3] at this
   cases this
   exact yl (x:=.non) hn h4
  ·refine .inr ⟨⟨vs,SqT.of hh⟩,q1.2 _ H1 g1 s1 ⟨by rw [enumV_len];exact q1.1,fun H' t=>⟨fun i p hp=>?_,vs,SqT.of (t.t _ _ hh),by rw [rs.length,enumV_len];exact Nat.le_refl _⟩⟩⟩
   obtain⟨y,hy,rfl⟩:=enumV_get hp
   obtain⟨v,h3,h4⟩:=(VRs.tk t rs).get hy
   refine⟨⟨vs,v,SqT.of (t.t _ _ hh),h3⟩,fun x H3 z=>?_⟩
   obtain⟨pp,x0,rfl,hn,rfl,hz⟩:=z
   have:=hz vs (SqT.of (t.t _ _ hh))
   rw [h3] at this
   cases this
   exact yl (x:=.non) hn h4) q⟩⟩
end
def setA:List Nat→List V→L2.St→L2.St
 | i::is,u::us,σ=>setA is us (σ.set i (some u))
 | _,_,σ=>σ
def fG (K:PySem.W.Frag) (fs:FSt) (is:List Nat) {T:Type} (wt:PV→W T) (fs2:T→FSt):TG:=fun v σ H Q=>∃p,SRf K H σ fs∧VR K [] H v p∧(wt p).run fun t=>∀us,GoF σ fs H (setA is us σ) (fs2 t) H→SRf K H (setA is us σ) (fs2 t)→Q (setA is us σ) H
structure GF (X:Cx) (K:PySem.W.Frag) (fs:FSt) (tg:Expr) (is:List Nat) {T:Type} (wt:PV→W T) (fs2:T→FSt):Prop where p:PG X tg (fG K fs is wt fs2)
def un2:PV→W (PV×PV)
 | .tup [a,b]=>.ret (a,b)
 | _=>.fail
section
variable {X:Cx}{fs:FSt}{tg:Expr}
theorem g_1 {i:Nat} (h:PG X tg (gName i)):GF X K fs tg [i] .ret (fun p=>fs.set i (some (.val p))):=⟨PG.imp h fun v σ H Q ⟨p,sr,r,q⟩=>q [v] (GoF.putV sr v p i) (sr.putV r i)⟩
theorem g_2 {i j:Nat} (hK:X.K=K) (h:PG X tg (gTup X.K 2 (gCons (gName i) (gCons (gName j) gNil)))):GF X K fs tg [i,j] un2 (fun t=>(fs.set i (some (.val t.1))).set j (some (.val t.2))):=⟨PG.imp h fun v σ H Q ⟨p,sr,r,q⟩=>by
 subst hK
 unfold un2 at q
 split at q
 ·rename_i a b
  cases r with
  | tup e rs=>
   cases rs with
   | cons ra t=>
   cases t with
   | cons rb t=>
   cases t
   have s1:=sr.putV ra i
   exact⟨_,_,rfl,SqT.of e,rfl,_,_,rfl,_,_,rfl,rfl,q [_,_] ((GoF.putV sr _ _ i).trans (GoF.putV s1 _ _ j)) (s1.putV rb j)⟩
 ·exact q.elim⟩
end
section
variable {S T:Type}
def forW:List PV→S→(PV→S→W S)→W S
 | [],s,_=>.ret s
 | x::r,s,f=>.bind (f x s) fun s'=>forW r s' f
inductive Lp (S T:Type) where
 | go (s:S) | out (t:T)
def forF:List PV→S→(PV→S→W (Lp S T))→W (Lp S T)
 | [],s,_=>.ret (.go s)
 | x::r,s,f=>.bind (f x s) fun o=>match o with
  | .go s'=>forF r s' f
  | .out t=>.ret (.out t)
def goW {R:Type} (k:S→W T) (inj:R→T):Lp S R→W T
 | .go s=>k s
 | .out r=>.ret (inj r)
@[simp] theorem goW_go {R:Type} (k:S→W T) (inj:R→T) (s:S):goW k inj (.go s)=k s:=(rfl)
@[simp] theorem goW_out {R:Type} (k:S→W T) (inj:R→T) (r:R):goW k inj (.out r)=.ret (inj r):=(rfl)
def lpE {R:Type} (hd:S→FSt) (out:R→End):Lp S R→End
 | .go s=>.nc (hd s)
 | .out r=>out r
def whileN (c:S→W Bool) (b:S→W S):Nat→S→W S
 | 0,_=>.fail
 | n+1,s=>.bind (c s) fun k=>if k=true then .bind (b s) (whileN c b n) else .ret s
def whileW (c:S→W Bool) (b:S→W S) (s:S):W S:=⟨fun Q=>∃n,(whileN c b n s).run Q,fun h ⟨n,q⟩=>⟨n,(whileN c b n s).mono h q⟩⟩
end
section
variable {X:Cx}{c iter tg:Expr}{body rest:List Stmt}{pos:Pos}{fs:FSt}{S T T2:Type}{hd:S→FSt}{s0:S}{wl:W (List PV)}{wt:PV→W T2}{is:List Nat}{fs2:S→T2→FSt}{k:S→W T}{out:T→End}{x:Bool}{R:Type}{inj:R→T}
theorem SF.for {f:PV→S→W S}{wb:T2→S→W S} (hp:PassesOwn (model X.prog X.w) X.A X.env X.xe) (hc:X.calm=true) (hi:ITF X K fs tg iter wl) (hl:LeF fs (hd s0)) (hg:∀s,GF X K (hd s) tg is wt (fs2 s)) (hf:∀p s,f p s=.bind (wt p) fun t=>wb t s)
  (hb:∀s t,SF X K false (fs2 s t) body (wb t s) fun s'=>.nc (hd s')) (hr:∀s,SF X K x (hd s) rest (k s) out) (hs:∀x,foldedSetIterable iter X.env x=pure x:=by intro _;rfl) :
  SF X K x fs (.For tg iter body [] pos::rest) (.bind wl fun l=>.bind (forW l s0 f) k) out:=by
 refine SF.step (ps_for (g:=fun v σ H Q=>∃s,fG K (hd s) is wt (fs2 s) v σ H Q) (tb:=fun D σ H=>∃s t,fS K false (fs2 s t) (wb t s) (fun s'=>.nc (hd s')) D σ H) hp hc hi.p (fun pins s σ H v u Q I r ⟨s1,q⟩=>(hg s1).p pins s σ H v u Q I r q) (fun pins s σ H D I ⟨s1,t1,q⟩=>(hb s1 t1).p pins s σ H D I q) hs) fun D σ H ⟨sr,q⟩=>?_
 refine⟨sr,wl.mono (fun l q1 J H1 g1 s1 jf=>?_) q⟩
 refine⟨fun i m σ' H'=>∃s,SRf K H' σ' (hd s)∧GoF σ fs H σ' (hd s) H'∧JF K H' J l∧m=l.length-i∧i≤l.length∧(forW (l.drop i) s f).run fun s'=>(k s').run fun t=>EndR K x σ fs H D (out t),⟨l.length,s0,s1.le hl,g1.f.trans (GoF.le s1 hl),jf,by simp,Nat.zero_le _,by simpa using q1⟩,?_⟩
 rintro i m σ2 H2 ⟨s,s2,g2,jf2,rfl,hi,q2⟩
 obtain⟨j1,j2⟩:=jf2.2 H2 (TupsK.refl H2)
 by_cases hlt:i < l.length
 ·obtain⟨go,yl⟩:=j1 i _ (List.getElem?_eq_getElem hlt)
  have ed:l.drop i=l[i]::l.drop (i+1):=List.drop_eq_getElem_cons hlt
  rw [ed] at q2
  refine .inr ⟨go,fun σ3 H3=>∃s',SRf K H3 σ3 (hd s')∧GoF σ fs H σ3 (hd s') H3∧JF K H3 J l∧(forW (l.drop (i+1)) s' f).run fun s'=>(k s').run fun t=>EndR K x σ fs H D (out t),fun σ3 H3 ⟨s',a1,a2,a3,a4⟩=>⟨l.length-(i+1),by omega,s',a1,a2,a3,rfl,hlt,a4⟩,fun v H3 y=>?_⟩
  obtain⟨sm,vx⟩:=yl v H3 y
  have q2:(f l[i] s).run fun s'=>(forW (l.drop (i+1)) s' f).run fun s'=>(k s').run fun t=>EndR K x σ fs H D (out t):=q2
  rw [hf] at q2
  have s3:=s2.same sm
  have g3:=g2.trans (GoF.same sm s2)
  refine⟨s,_,s3,vx,(wt l[i]).mono (fun t q4 us g4 s4=>?_) q2⟩
  refine⟨s,t,s4,(wb t s).mono (fun s' q5 σ5 H5 g5 s5=>?_) q4⟩
  have fin:∃s',SRf K H5 σ5 (hd s')∧GoF σ fs H σ5 (hd s') H5∧JF K H5 J l∧(forW (l.drop (i+1)) s' f).run fun s'=>(k s').run fun t=>EndR K x σ fs H D (out t):=⟨s',s5,(g3.trans g4).trans g5,jf2.tk (TupsK.trans sm.tupsK (TupsK.trans (g4.tups s3) (g5.tups s4))),q5⟩
  exact⟨fun _=>fin,fin⟩
 ·have e:i=l.length:=by omega
  subst e
  rw [List.drop_length] at q2
  have q2:(k s).run fun t=>EndR K x σ fs H D (out t):=q2
  exact .inl ⟨j2,hd s,k s,hr s,s2,(k s).mono (fun t q3=>q3.go g2 sr s2) q2⟩
theorem SF.forF {f:PV→S→W (Lp S R)}{wb:T2→S→W (Lp S R)} (hp:PassesOwn (model X.prog X.w) X.A X.env X.xe) (hc:X.calm=true) (hi:ITF X K fs tg iter wl) (hl:LeF fs (hd s0)) (hg:∀s,GF X K (hd s) tg is wt (fs2 s)) (hf:∀p s,f p s=.bind (wt p) fun t=>wb t s)
  (ho:∀t,(out (inj t)).isOut)
  (hb:∀s t,SF X K false (fs2 s t) body (wb t s) (lpE hd fun r=>out (inj r))) (hr:∀s,SF X K x (hd s) rest (k s) out) (hs:∀x,foldedSetIterable iter X.env x=pure x:=by intro _;rfl) :
  SF X K x fs (.For tg iter body [] pos::rest) (.bind wl fun l=>.bind (FL.forF l s0 f) (goW k inj)) out:=by
 refine SF.step (ps_for (g:=fun v σ H Q=>∃s,fG K (hd s) is wt (fs2 s) v σ H Q) (tb:=fun D σ H=>∃s t,fS K false (fs2 s t) (wb t s) (lpE hd fun r=>out (inj r)) D σ H) hp hc hi.p (fun pins s σ H v u Q I r ⟨s1,q⟩=>(hg s1).p pins s σ H v u Q I r q) (fun pins s σ H D I ⟨s1,t1,q⟩=>(hb s1 t1).p pins s σ H D I q) hs) fun D σ H ⟨sr,q⟩=>?_
 refine⟨sr,wl.mono (fun l q1 J H1 g1 s1 jf=>?_) q⟩
 have lo:∀(D':Ends) (y:Bool) (t:R),D'.rt=D.rt→EndR K x σ fs H D (out (inj t))→EndR K y σ fs H D' (out (inj t)):=fun D' y t e h=>EndR.outw (ho t) e h
 refine⟨fun i m σ' H'=>∃s,SRf K H' σ' (hd s)∧GoF σ fs H σ' (hd s) H'∧JF K H' J l∧m=l.length-i∧i≤l.length∧(FL.forF (l.drop i) s f).run fun o=>(goW k inj o).run fun t=>EndR K x σ fs H D (out t),⟨l.length,s0,s1.le hl,g1.f.trans (GoF.le s1 hl),jf,by simp,Nat.zero_le _,by simpa using q1⟩,?_⟩
 rintro i m σ2 H2 ⟨s,s2,g2,jf2,rfl,hi,q2⟩
 obtain⟨j1,j2⟩:=jf2.2 H2 (TupsK.refl H2)
 by_cases hlt:i < l.length
 ·obtain⟨go,yl⟩:=j1 i _ (List.getElem?_eq_getElem hlt)
  have ed:l.drop i=l[i]::l.drop (i+1):=List.drop_eq_getElem_cons hlt
  rw [ed] at q2
  refine .inr ⟨go,fun σ3 H3=>∃s',SRf K H3 σ3 (hd s')∧GoF σ fs H σ3 (hd s') H3∧JF K H3 J l∧(FL.forF (l.drop (i+1)) s' f).run fun o=>(goW k inj o).run fun t=>EndR K x σ fs H D (out t),fun σ3 H3 ⟨s',a1,a2,a3,a4⟩=>⟨l.length-(i+1),by omega,s',a1,a2,a3,rfl,hlt,a4⟩,fun v H3 y=>?_⟩
  obtain⟨sm,vx⟩:=yl v H3 y
  have q2:(f l[i] s).run fun o=>(match o with | .go s'=>FL.forF (l.drop (i+1)) s' f | .out t=>W.ret (.out t)).run fun o=>(goW k inj o).run fun t=>EndR K x σ fs H D (out t):=q2
  rw [hf] at q2
  have s3:=s2.same sm
  have g3:=g2.trans (GoF.same sm s2)
  refine⟨s,_,s3,vx,(wt l[i]).mono (fun t q4 us g4 s4=>?_) q2⟩
  refine⟨s,t,s4,(wb t s).mono (fun o q5=>?_) q4⟩
  cases o with
  | out t5=>
   refine EndR.go (g3.trans g4) sr s4 (lo _ false t5 ?_ q5)
   rfl
  | go s'=>
   intro σ5 H5 g5 s5
   have fin:∃s',SRf K H5 σ5 (hd s')∧GoF σ fs H σ5 (hd s') H5∧JF K H5 J l∧(FL.forF (l.drop (i+1)) s' f).run fun o=>(goW k inj o).run fun t=>EndR K x σ fs H D (out t):=⟨s',s5,(g3.trans g4).trans g5,jf2.tk (TupsK.trans sm.tupsK (TupsK.trans (g4.tups s3) (g5.tups s4))),q5⟩
   exact⟨fun _=>fin,fin⟩
 ·have e:i=l.length:=by omega
  subst e
  rw [List.drop_length] at q2
  have q2:(k s).run fun t=>EndR K x σ fs H D (out t):=q2
  exact .inl ⟨j2,hd s,k s,hr s,s2,(k s).mono (fun t q3=>q3.go g2 sr s2) q2⟩
theorem SF.while {cw:S→W Bool}{b:S→W S} (hp:PassesOwn (model X.prog X.w) X.A X.env X.xe) (hl:LeF fs (hd s0)) (hc:∀s,TF X K (hd s) c (cw s)) (hb:∀s,SF X K false (hd s) body (b s) fun s'=>.nc (hd s')) (hr:∀s,SF X K x (hd s) rest (k s) out) :
  SF X K x fs (.While c body [] pos::rest) (.bind (whileW cw b s0) k) out:=by
 refine SF.step (ps_while (tc:=fun σ H Q=>∃s,fT K (hd s) (cw s) σ H Q) (tb:=fun D σ H=>∃s,fS K false (hd s) (b s) (fun s'=>.nc (hd s')) D σ H) hp (fun pins s σ H Q I ⟨s1,q⟩=>(hc s1).p pins s σ H Q I q) (fun pins s σ H D I ⟨s1,q⟩=>(hb s1).p pins s σ H D I q)) fun D σ H ⟨sr,n,q⟩=>?_
 refine⟨fun m σ' H'=>∃s,SRf K H' σ' (hd s)∧GoF σ fs H σ' (hd s) H'∧(whileN cw b m s).run fun s'=>(k s').run fun t=>EndR K x σ fs H D (out t),⟨n,s0,sr.le hl,GoF.le sr hl,q⟩,?_⟩
 rintro m σ1 H1 ⟨s,s1,g1,q1⟩
 cases m with
 | zero=>exact q1.elim
 | succ m=>
  refine⟨s,s1,(cw s).mono (fun kk q2 H2 g2 s2=>?_) q1⟩
  cases kk with
  | false=>
   refine iteF ?_
   have q2:(k s).run fun t=>EndR K x σ fs H D (out t):=q2
   exact⟨hd s,k s,hr s,s2,(k s).mono (fun t q3=>q3.go (g1.trans g2.f) sr s2) q2⟩
  | true=>
   refine iteT ?_
   refine⟨fun σ3 H3=>∃s,SRf K H3 σ3 (hd s)∧GoF σ fs H σ3 (hd s) H3∧(whileN cw b m s).run fun s'=>(k s').run fun t=>EndR K x σ fs H D (out t),fun σ3 H3 a=>⟨m,Nat.lt_succ_self m,a⟩,s,s2,(b s).mono (fun s' q5 σ5 H5 g5 s5=>?_) q2⟩
   have fin:∃s,SRf K H5 σ5 (hd s)∧GoF σ fs H σ5 (hd s) H5∧(whileN cw b m s).run fun s'=>(k s').run fun t=>EndR K x σ fs H D (out t):=⟨s',s5,(g1.trans g2.f).trans g5,q5⟩
   exact⟨fun _=>fin,fin⟩
end
end FL
set_option Elab.async false
set_option linter.all false
set_option maxRecDepth 100000
namespace FL
open PySem PySem.Spec PyProof.Rows L2 PL
variable {K:PySem.W.Frag}
def lcW:List PV→(PV→W (Option PV))→W (List PV)
 | [],_=>.ret []
 | x::r,f=>.bind (f x) fun o=>.bind (lcW r f) fun l=>.ret (o.toList++l)
def mapW:List PV→(PV→W PV)→W (List PV)
 | [],_=>.ret []
 | x::r,f=>.bind (f x) fun y=>.bind (mapW r f) fun l=>.ret (y::l)
theorem mapW_lc (f:PV→W PV):∀l,mapW l f=lcW l fun p=>.bind (f p) fun v=>.ret (some v)
 | []=>rfl
 | x::r=>by
  show W.bind (f x) (fun y=>W.bind (mapW r f) fun l=>W.ret (y::l))=W.bind (f x) fun y=>W.bind (lcW r _) fun l=>W.ret (y::l)
  rw [mapW_lc f r]
def blkF (ix:List (Option Nat)) (fs:FSt):FSt:=ix.map fun o=>match o with | some j=>(fs[j]?).getD none | none=>none
section
variable {σ:L2.St}{fs:FSt}{H:Hp}{ix:List (Option Nat)}
theorem blkF_get {i:Nat}{s:SL} (h:(blkF ix fs)[i]?=some (some s)):∃j,ix[i]?=some (some j)∧fs[j]?=some (some s):=by
 unfold blkF at h
 rw [List.getElem?_map] at h
 cases q:ix[i]? with
 | none=>rw [q] at h;cases h
 | some o=>
  rw [q] at h
  cases o with
  | none=>cases h
  | some j=>
   refine⟨j,rfl,?_⟩
   have h:(fs[j]?).getD none=some s:=Option.some.inj h
   cases z:fs[j]? with
   | none=>rw [z] at h;cases h
   | some y=>rw [z] at h;exact congrArg some h
theorem blkSt_get {i j:Nat}{u:V} (h:ix[i]?=some (some j)) (e:σ[j]?=some (some u)):(blkSt ix σ)[i]?=some (some u):=by
 unfold blkSt
 rw [List.getElem?_map,h]
 show some ((σ[j]?).getD none)=_
 rw [e];rfl
theorem SRf.blk (s:SRf K H σ fs) (inj:∀i i' j:Nat,ix[i]?=some (some j)→ix[i']?=some (some j)→i=i'):SRf K H (blkSt ix σ) (blkF ix fs):=by
 refine⟨by unfold blkSt blkF;simp,fun i t e=>?_,fun i i' t u x y a e1 e2 o1 o2 q1 q2 z1 z2=>?_⟩
 ·obtain⟨j,h1,h2⟩:=blkF_get e
  obtain⟨u,h3,h4⟩:=s.at' j t h2
  exact⟨u,blkSt_get h1 h3,h4⟩
 ·obtain⟨j,h1,h2⟩:=blkF_get e1
  obtain⟨j',h1',h2'⟩:=blkF_get e2
  obtain⟨u1,h3,_⟩:=s.at' j t h2
  obtain⟨u2,h3',_⟩:=s.at' j' u h2'
  rw [blkSt_get h1 h3] at q1
  rw [blkSt_get h1' h3'] at q2
  cases q1
  cases q2
  have:=s.nd j j' t u x y a h2 h2' o1 o2 h3 h3' z1 z2
  subst this
  exact inj i i' j h1 h1'
structure Inn (ix:List (Option Nat)) (σ:L2.St) (fs:FSt) (σ':L2.St) (fs':FSt):Prop where
 own:∀(i:Nat) (t:SL),fs'[i]?=some (some t)→t.own=true→∃j,ix[i]?=some (some j)∧fs[j]?=some (some t)∧σ'[i]?=σ[j]?
theorem Inn.owns {σ':L2.St}{fs':FSt} (h:Inn ix σ fs σ' fs') {a:Addr} (o:Owns σ' fs' a):Owns σ fs a:=by
 obtain⟨i,t,x,e1,e2,e3,e4⟩:=o
 obtain⟨j,h1,h2,h3⟩:=h.own i t e1 e2
 exact⟨j,t,x,h2,e2,h3▸e3,e4⟩
theorem Inn.pot {σ':L2.St}{fs':FSt} (h:Inn ix σ fs σ' fs') {φ:List V→Prop}{a:Addr} (o:PotOf σ' fs' φ a):PotOf σ fs φ a:=by
 obtain⟨i,e1,e3⟩:=o
 obtain⟨j,h1,h2,h3⟩:=h.own i _ e1 rfl
 exact⟨j,h2,h3▸e3⟩
theorem Inn.out {σ':L2.St}{fs':FSt}{H1 H2:Hp} (h:Inn ix σ fs σ' fs') (s:SRf K H1 σ fs) (g:GoE σ' fs' H1 H2) (s2:SRf K H2 σ' fs'):SRf K H2 σ fs∧GoE σ fs H1 H2:=by
 have gf:GoE σ fs H1 H2:=⟨fun a o e n=>g.keep a o e fun φ z=>n φ (h.pot z),g.there⟩
 refine⟨⟨s.len,fun j t e=>?_,s.nd⟩,gf⟩
 obtain⟨u,h1,h2⟩:=s.at' j t e
 refine⟨u,h1,?_⟩
 have tk:=gf.tups s
 rcases h2 with⟨v,q,r⟩ | ⟨a,q,r⟩
 ·exact .inl ⟨v,q,VR.tk tk r⟩
 ·subst q
  refine .inr ⟨a,rfl,?_⟩
  by_cases c:∃b,t.own=true∧t.has a b∧Owns σ' fs' b
  ·obtain⟨b,ow,hb,i,t',x,c1,c2,c3,c4⟩:=c
   obtain⟨j',k1,k2,k3⟩:=h.own i t' c1 c2
   have jj:=s.nd j j' t t' a x b e k2 ow c2 h1 (k3▸c3) hb c4
   subst jj
   rw [e] at k2
   cases k2
   exact s2.ownAt c1 c2 (k3.trans h1)
  ·exact r.mono tk (fun b o ow hb z=>g.keepN z fun y=>c ⟨b,ow,hb,y⟩)
theorem setA_other:∀{is:List Nat}{us:List V}{σ:L2.St}{i:Nat},i∉is→(setA is us σ)[i]?=σ[i]?
 | [],us,σ,i,_=>by cases us <;> rfl
 | j::is,[],σ,i,_=>rfl
 | j::is,u::us,σ,i,h=>by
  rw [setA,setA_other (fun z=>h (List.mem_cons_of_mem _ z))]
  exact get_set_other (fun z=>h (by rw [z];exact List.mem_cons_self))
end
section
variable {X:Cx}{elt tg iter:Expr}{ifs:List Expr}{sc:Scope}{N':List Str}{ix:List (Option Nat)}{pos:Pos}{fs:FSt}{wl:W (List PV)}{T2:Type}{wt:PV→W T2}{is:List Nat}{fsb:FSt}{fs2:T2→FSt}{tf:T2→W Bool}{te:T2→W PV}{f:PV→W (Option PV)}
structure FF (X:Cx) (K:PySem.W.Frag) (fs:FSt) (ifs:List Expr) (w:W Bool):Prop where p:PFs X ifs (fT K fs w)
theorem ff_nil:FF X K fs [] (.ret true):=⟨fun pins s σ H Q I ⟨sr,q⟩=>pfs_nil pins s σ H Q I (q H .refl sr)⟩
theorem ff_one {c:Expr}{w:W Bool} (h:TF X K fs c w):FF X K fs [c] w:=⟨pfs_one h.p⟩
def Lay2 (is:List Nat) (fsb:FSt) (fs2:T2→FSt):Prop:=∀t,(fs2 t).length=fsb.length∧∀(i:Nat) (s:SL),(fs2 t)[i]?=some (some s)→(i∈is∧s.own=false)∨(i∉is∧fsb[i]?=some (some s))
theorem fL_lc (S:LcScope X.env.scope X.N sc N' ix) (hb:fsb=blkF ix fs) (hf:∀p,f p=.bind (wt p) fun t=>.bind (tf t) fun k=>if k=true then .bind (te t) fun v=>.ret (some v) else .ret none) (hl:Lay2 is fsb fs2) (hr:∀t,LeF (fs2 t) fsb) (hin:∀j∈is,ix[j]?=some none) :
  ∀σ H Q,fL K fs (.bind wl fun l=>lcW l f) σ H Q→tLc ix (fIt K fs wl) (fun v σ H Q=>fG K fsb is wt fs2 v σ H Q) (fun σ H Q=>∃t,fT K (fs2 t) (tf t) σ H Q) (fun σ H Q=>∃t,fE K (fs2 t) (te t) σ H Q) σ H Q:=by
 subst hb
 rintro σ H Q ⟨sr,q⟩
 refine⟨sr,wl.mono (fun l q1 J H1 g1 s1 jf D hD=>?_) q⟩
 have inj:∀i i' j:Nat,ix[i]?=some (some j)→ix[i']?=some (some j)→i=i':=fun i i' j h1 h2=>by
  have hi:i < N'.length:=by rw [← S.len];exact (List.getElem?_eq_some_iff.mp h1).1
  have hi':i' < N'.length:=by rw [← S.len];exact (List.getElem?_eq_some_iff.mp h2).1
  have e1:=(S.at h1 (List.getElem?_eq_getElem hi)).1
  have e2:=(S.at h2 (List.getElem?_eq_getElem hi')).1
  rw [e1] at e2
  exact (List.getElem_inj S.nd).mp (Option.some.inj e2)
 have nD:¬Owns σ fs D:=s1.noOwn hD
 refine⟨fun i m σ' ys H'=>∃acc,SRf K H' σ fs∧GoE σ fs H H'∧SRf K H' σ' (blkF ix fs)∧Inn ix σ fs σ' (blkF ix fs)∧JF K H' J l∧H' D=some (.lst ys)∧VRs K [] H' ys acc∧acc.length≤i∧m=l.length-i∧i≤l.length∧
  (lcW (l.drop i) f).run fun r=>∀a vs H',GoE σ fs H H'→SRf K H' σ fs→H a=none→H' a=some (.lst vs)→VRs K [] H' vs (acc++r)→Q (.ref a) H',⟨l.length,[],?_⟩,?_⟩
 ·have sm:=same_new hD (.lst [])
  refine⟨s1.same sm,g1.trans (GoE.same sm),(s1.same sm).blk inj,⟨fun i t e o=>?_⟩,jf.tk sm.tupsK,upd_same,.nil,Nat.zero_le _,by simp,Nat.zero_le _,by simpa using q1⟩
  obtain⟨j,h1,h2⟩:=blkF_get e
  obtain⟨u,h3,_⟩:=s1.at' j t h2
  exact⟨j,h1,h2,by rw [blkSt_get h1 h3,h3]⟩
 rintro i m σ2 ys H2 ⟨acc,sO,gO,s2,inn,jf2,hy,vy,hacc,rfl,hi,q2⟩
 refine⟨hy,?_⟩
 obtain⟨j1,j2⟩:=jf2.2 H2 (TupsK.refl H2)
 by_cases hlt:i < l.length
 ·obtain⟨go,yl⟩:=j1 i _ (List.getElem?_eq_getElem hlt)
  have ed:l.drop i=l[i]::l.drop (i+1):=List.drop_eq_getElem_cons hlt
  rw [ed] at q2
  refine .inr ⟨go,fun v H3 y=>?_⟩
  obtain⟨sm,vx⟩:=yl v H3 y
  have q2:(f l[i]).run fun o=>(lcW (l.drop (i+1)) f).run fun r=>∀a vs H',GoE σ fs H H'→SRf K H' σ fs→H a=none→H' a=some (.lst vs)→VRs K [] H' vs (acc++(o.toList++r))→Q (.ref a) H':=q2
  rw [hf] at q2
  have s3:=s2.same sm
  have sO3:=sO.same sm
  have gO3:=gO.trans (GoE.same sm)
  have hy3:=sm _ _ hy
  have vy3:=VRs.tk sm.tupsK vy
  have jf3:=jf2.tk sm.tupsK
  refine⟨_,s3,vx,(wt l[i]).mono (fun t q4 us g4 s4=>?_) q2⟩
  have inn4:Inn ix σ fs (setA is us σ2) (fs2 t):=⟨fun j u e o=>by
   rcases (hl t).2 j u e with⟨_,z⟩ | ⟨n,z⟩
   ·rw [z] at o;cases o
   ·obtain⟨j',k1,k2,k3⟩:=inn.own j u z o
    exact⟨j',k1,k2,by rw [setA_other n];exact k3⟩⟩
  refine⟨t,s4,(tf t).mono (fun kk q5 H5 g5 s5=>?_) q4⟩
  obtain⟨sO5,gO5'⟩:=inn4.out sO3 g5 s5
  have gO5:=gO3.trans gO5'
  have tk5:=g5.tups s4
  have nD4:¬Owns (setA is us σ2) (fs2 t) D:=fun z=>nD (inn4.owns z)
  have hy5:=g5.keepN hy3 nD4
  have vy5:=VRs.tk tk5 vy3
  have jf5:=jf3.tk (g5.tups s4)
  have back:∀{H6:Hp},SRf K H6 (setA is us σ2) (fs2 t)→SRf K H6 (setA is us σ2) (blkF ix fs)∧Inn ix σ fs (setA is us σ2) (blkF ix fs):=fun {H6} z=>⟨z.le (hr t),⟨fun j u e o=>inn4.own j u ((hr t).at j u e) o⟩⟩
  cases kk with
  | false=>
   refine iteF ⟨l.length-(i+1),by omega,acc,sO5,gO5,(back s5).1,(back s5).2,jf5,hy5,vy5,by omega,rfl,hlt,?_⟩
   exact q5
  | true=>
   refine iteT ⟨t,s5,(te t).mono (fun v6 q6 u6 H6 g6 s6 v6'=>?_) q5⟩
   obtain⟨sO6,gO6'⟩:=inn4.out sO5 g6 s6
   have gO6:=gO5.trans gO6'
   have tk6:=g6.tups s5
   have hy6:=g6.keepN hy5 nD4
   have vy6:=VRs.tk tk6 vy5
   have tkD:=tk_side (K:=K) (.lst (ys++[u6])) hy6
   have hD0:H D=none:=g1.there D hD
   refine⟨hy6,by rw [vy6.length];have:=jf2.1;omega,l.length-(i+1),by omega,acc++[v6],sO6.side nD hy6 _,gO6.side hD0 _,((back s6).1).side (fun z=>nD ((back s6).2.owns z)) hy6 _,(back s6).2,(jf5.tk (g6.tups s5)).tk (tk_side _ hy6),upd_same,VRs.tk tkD (vy6.append (.cons v6' .nil)),by rw [List.length_append];simp;omega,rfl,hlt,?_⟩
   refine (lcW (l.drop (i+1)) f).mono (fun r q7 a vs H7 g7 s7 n e v7=>q7 a vs H7 g7 s7 n e ?_) q6
   simpa using v7
 ·have e:i=l.length:=by omega
  subst e
  rw [List.drop_length] at q2
  have q2:∀a vs H',GoE σ fs H H'→SRf K H' σ fs→H a=none→H' a=some (.lst vs)→VRs K [] H' vs (acc++[])→Q (.ref a) H':=q2
  exact .inl ⟨j2,q2 D ys H2 gO sO (g1.there D hD) hy (by simpa using vy)⟩
end
end FL
set_option Elab.async false
set_option linter.all false
set_option maxRecDepth 100000
namespace L2
open PySem PySem.Spec PyProof.Rows
variable {X:Cx}
theorem list_extend_lst (l:Addr) (items:Array Value) (n:Nat) (b:Addr) (items2:Array Value) (n2:Nat) (sl:Array (Option Value)) (hc0:¬(!items.isEmpty&&Builtin.List.listTooLong (items.size+items2.size))=true) (hc1:items.size≤sizeLine) (hs2:items.size+items2.size≤sizeLine+1) :
  Meets (Builtin.«list.extend» ⟨[.ref l,.ref b],[]⟩) (fun _ R s=>s.heap.get? l=some {cls:=.type "list",dict:=none,data:=.seq items n,slots:=#[]}∧s.heap.get? b=some {cls:=.type "list",dict:=none,data:=.seq items2 n2,slots:=sl}∧R (.ok (.ret Value.none)) {s with heap:=s.heap.update l (Obj.mapSeq fun x=>x++items2),toks:=s.toks}):=
 .of_wp fun prog w A R s h=>by
  obtain⟨hp,g,d,tk,os⟩:=s;obtain⟨hl,hb,h⟩:=h;have f1:=PySem.AutoSeq1.idx_int;have f2:=PySem.AutoSeq1.sub_tuple_tuple;have f3:=PySem.AutoSeq1.sub_list_list;have f4:=PySem.AutoSeq1.sub_tuple_list;have f5:=PySem.AutoSeq1.sub_list_tuple;
  have hz':(items++items2).size≤sizeLine+1:=by rw [Array.size_append];exact hs2
  wp_walk using (wpAny_updateSeq hl rfl (hz:=hc1) (_hz':=hz')),PySem.AutoSeq1.wpAny_loadPart' hl,PySem.AutoSeq1.wpAny_loadPart' hb;exact⟨_,rfl,h⟩
def rExtF (K:PySem.W.Frag):V→List V→Hp→VK→Prop:=fun x vs H Q=>∃l b xs zs,x=.ref l∧vs=[.ref b]∧H l=some (.lst xs)∧(SqL K H b zs∨SqT K H b zs)∧xs.length+zs.length≤sizeLine∧updO H l (.lst (xs++zs)) (Q .non)
theorem mt_extF (K:PySem.W.Frag) (hK:X.K=K):MtM X "list.extend" (rExtF K):=by
 subst hK
 intro pins s σ H x vs v us Q I rx rv h
 obtain⟨l,b,xs,zs,rfl,rfl,hH,hB | hB,hz,q⟩:=h
 ·cases rx
  obtain⟨u,rfl,ru⟩:=rv.one
  cases ru
  obtain⟨z,its,n,r,hl,e⟩:=I.lstM hH
  obtain⟨its2,r2,⟨⟨cls,dd,data,sl⟩,n2,e2,hc,hd,hdat⟩,z2⟩:=I.list hB
  simp only at hc hd hdat
  subst hc hd hdat
  have hl2:=r2.length
  have hsz:its.toArray.size+its2.toArray.size≤sizeLine:=by rw [List.size_toArray,List.size_toArray];omega
  have hlong:¬(!its.toArray.isEmpty&&Builtin.List.listTooLong (its.toArray.size+its2.toArray.size))=true:=by
   rw [notLongL hsz,Bool.and_false]
   exact Bool.false_ne_true
  refine call_meets F.slot_list_extend ⟨_,e,rfl⟩ F.entry_list_extend (F.args_list_extend_2 _ _)
   (list_extend_lst l its.toArray n b its2.toArray n2 sl hlong (by rw [List.size_toArray];omega) (by omega)) ⟨e,e2,?_⟩
  refine⟨.non,_,I.lset (its':=its++its2) hH e (by simp) (r.append r2) ?_,rfl,q.at⟩
  rw [List.length_append]
  omega
 ·exact mt_extendTN pins s σ H _ _ v us Q I rx rv ⟨l,b,xs,zs,rfl,rfl,hH,hB,hz,q⟩
end L2
namespace FL
open PySem PySem.Spec PyProof.Rows L2 PL
variable {K:PySem.W.Frag}
section
variable {X:Cx}{elt tg iter:Expr}{ifs:List Expr}{sc:Scope}{N':List Str}{ix:List (Option Nat)}{pos:Pos}{fs:FSt}{wl:W (List PV)}{T2:Type}{wt:PV→W T2}{is:List Nat}{fs2:T2→FSt}{tf:T2→W Bool}{te:T2→W PV}
theorem l_lc {f:PV→W (Option PV)} (hc:X.calm=true) (S:LcScope X.env.scope X.N sc N' ix) (hi:ITF X K fs tg iter wl) (hg:∀cl C s2 H2 fp,GF (blk X sc N' cl C s2 H2 fp) K (blkF ix fs) tg is wt fs2) (hfs:∀cl C s2 H2 fp t,FF (blk X sc N' cl C s2 H2 fp) K (fs2 t) ifs (tf t)) (he:∀cl C s2 H2 fp t,EF (blk X sc N' cl C s2 H2 fp) K (fs2 t) elt (te t))
  (hf:∀p,f p=.bind (wt p) fun t=>.bind (tf t) fun k=>if k=true then .bind (te t) fun v=>.ret (some v) else .ret none) (hl:Lay2 is (blkF ix fs) fs2∧∀t,LeF (fs2 t) (blkF ix fs)) (hin:∀j∈is,ix[j]?=some none) (hs:∀x,foldedSetIterable iter X.env x=pure x:=by intro _;rfl) :
  LF X K fs (.ListComp elt [⟨tg,iter,ifs,0⟩] sc pos) (.bind wl fun l=>lcW l f):=
 ⟨PE.imp (pe_lc hc S hi.p (fun cl C s2 H2 fp=>(hg cl C s2 H2 fp).p) (fun cl C s2 H2 fp pins s σ H Q I ⟨t,q⟩=>(hfs cl C s2 H2 fp t).p pins s σ H Q I q) (fun cl C s2 H2 fp pins s σ H Q I ⟨t,q⟩=>(he cl C s2 H2 fp t).p pins s σ H Q I q) hs) (fL_lc S rfl hf hl.1 hl.2 hin)⟩
theorem l_map {f:PV→W PV} (hc:X.calm=true) (S:LcScope X.env.scope X.N sc N' ix) (hi:ITF X K fs tg iter wl) (hg:∀cl C s2 H2 fp,GF (blk X sc N' cl C s2 H2 fp) K (blkF ix fs) tg is wt fs2) (he:∀cl C s2 H2 fp t,EF (blk X sc N' cl C s2 H2 fp) K (fs2 t) elt (te t))
  (hf:∀p,f p=.bind (wt p) te) (hl:Lay2 is (blkF ix fs) fs2∧∀t,LeF (fs2 t) (blkF ix fs)) (hin:∀j∈is,ix[j]?=some none) (hs:∀x,foldedSetIterable iter X.env x=pure x:=by intro _;rfl) :
  LF X K fs (.ListComp elt [⟨tg,iter,[],0⟩] sc pos) (.bind wl fun l=>mapW l f):=by
 have:(fun l=>mapW l f)=fun l=>lcW l fun p=>.bind (wt p) fun t=>.bind (.ret true) fun k=>if k=true then .bind (te t) fun v=>.ret (some v) else .ret none:=funext fun l=>by
  rw [mapW_lc]
  congr 1
  funext p
  rw [hf]
  rfl
 rw [this]
 exact l_lc (tf:=fun _=>.ret true) hc S hi hg (fun _ _ _ _ _ _=>ff_nil) he (fun p=>rfl) hl hin hs
theorem SF.setlc {rest:List Stmt}{T:Type}{out:T→End}{x:Bool}{k:List PV→W T}{f:PV→W (Option PV)}{i:Nat}{y:Str}{px spos:Pos} (hc:X.calm=true) (hN:X.N.Nodup) (hi':X.N[i]?=some y) (hx:X.env.scope.names.lookup y=some .local) (S:LcScope X.env.scope X.N sc N' ix) (hi:ITF X K fs tg iter wl) (hg:∀cl C s2 H2 fp,GF (blk X sc N' cl C s2 H2 fp) K (blkF ix fs) tg is wt fs2) (hfs:∀cl C s2 H2 fp t,FF (blk X sc N' cl C s2 H2 fp) K (fs2 t) ifs (tf t)) (he:∀cl C s2 H2 fp t,EF (blk X sc N' cl C s2 H2 fp) K (fs2 t) elt (te t))
  (hf:∀p,f p=.bind (wt p) fun t=>.bind (tf t) fun k=>if k=true then .bind (te t) fun v=>.ret (some v) else .ret none) (hl:Lay2 is (blkF ix fs) fs2∧∀t,LeF (fs2 t) (blkF ix fs)) (hin:∀j∈is,ix[j]?=some none) (hr:∀l,SF X K x (fs.set i (some (.ol none l))) rest (k l) out)
  (hsw:swapsWith (.ListComp elt [⟨tg,iter,ifs,0⟩] sc pos) (some (.Name y px)) spos.line X.env=pure true:=by rfl) (hs:∀x,foldedSetIterable iter X.env x=pure x:=by intro _;rfl) :
  SF X K x fs (.Assign [.Name y px] (.ListComp elt [⟨tg,iter,ifs,0⟩] sc pos) spos::rest) (.bind (.bind wl fun l=>lcW l f) k) out:=
 SF.step (ps_setlc hc hN hi' hx S hi.p (fun cl C s2 H2 fp=>(hg cl C s2 H2 fp).p) (fun cl C s2 H2 fp pins s σ H Q I ⟨t,q⟩=>(hfs cl C s2 H2 fp t).p pins s σ H Q I q) (fun cl C s2 H2 fp pins s σ H Q I ⟨t,q⟩=>(he cl C s2 H2 fp t).p pins s σ H Q I q) hsw hs) fun D σ H ⟨sr,q⟩=>
  fL_lc (K:=K) S rfl hf hl.1 hl.2 hin σ H _ ⟨sr,(W.bind wl fun l=>lcW l f).mono (fun l q1 a ws H1 g1 s1 n e v1=>by
   have no:=sr.noOwn n
   have s2:=s1.putO (t:=.ol none l) ⟨by simp,ws,e,v1⟩ no i
   exact⟨_,k l,hr l,s2,(k l).mono (fun t q2=>q2.go (GoF.putO s1 g1.f no n i) sr s2) q1⟩) q⟩
theorem le_set:∀{l:FSt}{i:Nat} (s:Option SL),l[i]?=some none→LeF (l.set i s) l
 | [],_,_,h=>by simp at h
 | x::l,0,s,h=>by
  simp at h;subst h
  exact .drop (LeF.refl l)
 | x::l,i+1,s,h=>by
  rw [List.set_cons_succ]
  exact .keep (le_set s (by simpa using h))
theorem LeF.trans {a b c:FSt} (h1:LeF a b) (h2:LeF b c):LeF a c:=by
 induction h1 generalizing c with
 | nil=>exact h2
 | drop h ih=>cases h2 with | drop h2=>exact .drop (ih h2) | keep h2=>exact .drop (ih h2)
 | keep h ih=>cases h2 with | drop h2=>exact .drop (ih h2) | keep h2=>exact .keep (ih h2)
theorem lay_step {fsb l:FSt}{is:List Nat}{i:Nat}{v:PV} (hl:l.length=fsb.length∧∀(j:Nat) (s:SL),l[j]?=some (some s)→(j∈is∧s.own=false)∨(j∉is∧fsb[j]?=some (some s))) (hi:fsb[i]?=some none) :
  (l.set i (some (.val v))).length=fsb.length∧∀(j:Nat) (s:SL),(l.set i (some (.val v)))[j]?=some (some s)→(j∈is++[i]∧s.own=false)∨(j∉is++[i]∧fsb[j]?=some (some s)):=by
 refine⟨by rw [List.length_set];exact hl.1,fun j s e=>?_⟩
 rcases set_get e with⟨rfl,rfl⟩ | ⟨n,e⟩
 ·exact .inl ⟨by simp,rfl⟩
 ·rcases hl.2 j s e with⟨h1,h2⟩ | ⟨h1,h2⟩
  ·exact .inl ⟨by simp [h1],h2⟩
  ·exact .inr ⟨by simp [h1,n],h2⟩
theorem lay_0 (fsb:FSt):fsb.length=fsb.length∧∀(j:Nat) (s:SL),fsb[j]?=some (some s)→(j∈([]:List Nat)∧s.own=false)∨(j∉([]:List Nat)∧fsb[j]?=some (some s)):=⟨rfl,fun j s e=>.inr ⟨by simp,e⟩⟩
theorem lay1 {fsb:FSt}{i:Nat} (hi:fsb[i]?=some none):Lay2 [i] fsb (fun p=>fsb.set i (some (.val p)))∧∀t,LeF (fsb.set i (some (.val t))) fsb:=⟨fun t=>lay_step (is:=[]) (lay_0 fsb) hi,fun t=>le_set _ hi⟩
theorem set_none {l:FSt}{i j:Nat}{s:Option SL} (h:l[j]?=some none) (n:j≠i):(l.set i s)[j]?=some none:=by rw [get_set_other n];exact h
theorem lay2 {fsb:FSt}{i j:Nat} (hi:fsb[i]?=some none) (hj:fsb[j]?=some none) (n:j≠i):Lay2 [i,j] fsb (fun t:PV×PV=>(fsb.set i (some (.val t.1))).set j (some (.val t.2)))∧∀t:PV×PV,LeF ((fsb.set i (some (.val t.1))).set j (some (.val t.2))) fsb:=
 ⟨fun t=>lay_step (is:=[i]) (lay_step (is:=[]) (lay_0 fsb) hi) hj,fun t=>(le_set _ (set_none hj n)).trans (le_set _ hi)⟩
end
section
variable {X:Cx}{e:Expr}{rest:List Stmt}{pos p apos cpos tpos:Pos}{fs:FSt}{T:Type}{out:T→End}{x:Bool}{we wi:W PV}{wl:W (List PV)}{q0:Option Addr}{l:List PV}{y:Str}
theorem own_at {σ:L2.St}{H:Hp}{i:Nat} (sr:SRf K H σ fs) (hs:fs[i]?=some (some (.ol q0 l))):∃a ws,σ[i]?=some (some (.ref a))∧H a=some (.lst ws)∧VRs K [] H ws l:=by
 obtain⟨u,e1,r⟩:=sr.at' i _ hs
 rcases r with⟨v,e,_⟩ | ⟨a,e,z,ws,q1,q2⟩
 ·cases e
 ·subst e;exact⟨a,ws,e1,q1,q2⟩
theorem own_put {σ:L2.St}{H H':Hp}{i:Nat}{a:Addr}{ws':List V}{l':List PV} (sr:SRf K H σ fs) (hs:fs[i]?=some (some (.ol q0 l))) (e1:σ[i]?=some (some (.ref a))) (sx:SameX a H H') (h':H' a=some (.lst ws')) (r:VRs K [] H ws' l'):SRf K H' σ (fs.set i (some (.ol q0 l')))∧GoF σ fs H σ (fs.set i (some (.ol q0 l'))) H':=
 own_change (t':=.ol q0 l') sr hs rfl (by simp) e1 sx fun tk=>⟨(sr.ownAt hs rfl e1).1,ws',h',VRs.tk tk r⟩
def appW (l:List PV) (v:PV):W (List PV):=.chk (l.length < sizeLine) (.ret (l++[v]))
theorem SF.append (i:Nat) {k:List PV→W T} (hs:fs[i]?=some (some (.ol q0 l))) (hK:X.K=K) (hN:X.N[i]?=some y) (hv:Vis X.env.scope y) (he:EF X K fs e we) (hr:∀l',SF X K x (fs.set i (some (.ol q0 l'))) rest (k l') out)
  (hd:(y==("__debug__":Str))=false:=by decide) (hcd:(y==("__classdict__":Str))=false:=by decide) (hbase:attributeBase (.Name y p) "append" X.env (eval (.Name y p) X.env)=eval (.Name y p) X.env:=by rfl)
  (hfew:((backTo cpos (starEach [e] X.env)).all (fun x=>!x.1)&&(backToKw cpos (keywordEach [] X.env)).all (fun x=>x.1.isSome)
   && decide ([e].length+([]:List Keyword).length+(if ([]:List Keyword).isEmpty then 0 else 1) < 30))=true:=by rfl)
  (hline:(apos.endLine==cpos.line)=true:=by rfl) (hst:starEach [e] X.env=(false,eval e X.env)::starEach [] X.env:=by rfl) (hplain:(backTo cpos (starEach [] X.env)).any (·.1)=false:=by rfl)
  (hsw:swapsWith (.Call (.Attribute (.Name y p) "append" apos) [e] [] cpos) none pos.line X.env=pure false:=by rfl) :
  SF X K x fs (.Expr (.Call (.Attribute (.Name y p) "append" apos) [e] [] cpos) pos::rest) (.bind we fun v=>.bind (appW l v) k) out:=
 SF.step (ps_expr (pe_bmk K hK PySem.F.plainAttrs_list PySem.F.slot_list_append PySem.F.type_list_append mt_appendN (pe_var hN hv hd hcd) (pa_cons he.p pa_nil hst) hbase hfew hline hst hplain) hsw) fun D σ H ⟨sr,q⟩=>by
  obtain⟨a,ws,e1,h1,r1⟩:=own_at sr hs
  refine⟨_,e1,.inl ⟨rfl,_,SqL.of h1⟩,sr,we.mono (fun v q1 u H1 g1 s1 v1=>?_) q⟩
  obtain⟨a',ws',e1',h1',r1'⟩:=own_at s1 hs
  rw [e1] at e1'
  cases e1'
  refine⟨a,ws',u,rfl,rfl,h1',by rw [r1'.length];exact q1.1,fun H2 sx h2=>?_⟩
  obtain⟨s2,g2⟩:=own_put s1 hs e1 sx h2 (r1'.append (.one v1))
  exact⟨_,k _,hr _,s2,(k _).mono (fun t q2=>q2.go (g1.f.trans g2) sr s2) q1.2⟩
def extW (l m:List PV):W (List PV):=.chk (l.length+m.length≤sizeLine) (.ret (l++m))
theorem SF.extend (i:Nat) {k:List PV→W T} (hs:fs[i]?=some (some (.ol q0 l))) (hK:X.K=K) (hN:X.N[i]?=some y) (hv:Vis X.env.scope y) (he:QF X K fs e wl) (hr:∀l',SF X K x (fs.set i (some (.ol q0 l'))) rest (k l') out)
  (hd:(y==("__debug__":Str))=false:=by decide) (hcd:(y==("__classdict__":Str))=false:=by decide) (hbase:attributeBase (.Name y p) "extend" X.env (eval (.Name y p) X.env)=eval (.Name y p) X.env:=by rfl)
  (hfew:((backTo cpos (starEach [e] X.env)).all (fun x=>!x.1)&&(backToKw cpos (keywordEach [] X.env)).all (fun x=>x.1.isSome)
   && decide ([e].length+([]:List Keyword).length+(if ([]:List Keyword).isEmpty then 0 else 1) < 30))=true:=by rfl)
  (hline:(apos.endLine==cpos.line)=true:=by rfl) (hst:starEach [e] X.env=(false,eval e X.env)::starEach [] X.env:=by rfl) (hplain:(backTo cpos (starEach [] X.env)).any (·.1)=false:=by rfl)
  (hsw:swapsWith (.Call (.Attribute (.Name y p) "extend" apos) [e] [] cpos) none pos.line X.env=pure false:=by rfl) :
  SF X K x fs (.Expr (.Call (.Attribute (.Name y p) "extend" apos) [e] [] cpos) pos::rest) (.bind wl fun m=>.bind (extW l m) k) out:=
 SF.step (ps_expr (pe_bmk K hK PySem.F.plainAttrs_list PySem.F.slot_list_extend PySem.F.type_list_extend (mt_extF K hK) (pe_var hN hv hd hcd) (pa_cons he.p pa_nil hst) hbase hfew hline hst hplain) hsw) fun D σ H ⟨sr,q⟩=>by
  obtain⟨a,ws,e1,h1,r1⟩:=own_at sr hs
  refine⟨_,e1,.inl ⟨rfl,_,SqL.of h1⟩,sr,wl.mono (fun m q1 u H1 g1 s1 v1=>?_) q⟩
  obtain⟨a',ws',e1',h1',r1'⟩:=own_at s1 hs
  rw [e1] at e1'
  cases e1'
  obtain⟨b,zs,rfl,hb,rb⟩:=v1.sq s1
  refine⟨a,b,ws',zs,rfl,rfl,h1',hb,by rw [r1'.length,rb.length];exact q1.1,fun H2 sx h2=>?_⟩
  obtain⟨s2,g2⟩:=own_put s1 hs e1 sx h2 (r1'.append rb)
  exact⟨_,k _,hr _,s2,(k _).mono (fun t q2=>q2.go (g1.f.trans g2) sr s2) q1.2⟩
def popW (l:List PV):W (List PV×PV):=match l.getLast? with
 | some v=>.ret (l.dropLast,v)
 | none=>.fail
theorem snoc_get {l:List PV}{v:PV} (h:l.getLast?=some v):l=l.dropLast++[v]:=by
 rw [List.getLast?_eq_some_iff] at h
 obtain⟨ys,rfl⟩:=h
 simp
theorem VRs.snoc {H:Hp}:∀{ws:List V}{l:List PV}{v:PV},VRs K [] H ws (l++[v])→∃ws0 u,ws=ws0++[u]∧VRs K [] H ws0 l∧VR K [] H u v
 | _,[],_,.cons r .nil=>⟨[],_,rfl,.nil,r⟩
 | _,x::l,v,.cons r t=>by
  obtain⟨ws0,u,rfl,h1,h2⟩:=VRs.snoc t
  exact⟨_::ws0,u,rfl,.cons r h1,h2⟩
theorem SF.popSet (i j:Nat) {z:Str}{p':Pos}{k:List PV×PV→W T} (hs:fs[i]?=some (some (.ol q0 l))) (hij:j≠i) (hK:X.K=K) (hN:X.N[i]?=some y) (hv:Vis X.env.scope y) (hNd:X.N.Nodup) (hj:X.N[j]?=some z) (hx:Loc X.env.scope z) (hr:∀t:List PV×PV,SF X K x ((fs.set i (some (.ol q0 t.1))).set j (some (.val t.2))) rest (k t) out)
  (hd:(y==("__debug__":Str))=false:=by decide) (hcd:(y==("__classdict__":Str))=false:=by decide) (hbase:attributeBase (.Name y p) "pop" X.env (eval (.Name y p) X.env)=eval (.Name y p) X.env:=by rfl) (hline:(apos.endLine==cpos.line)=true:=by rfl)
  (hsw:swapsWith (.Call (.Attribute (.Name y p) "pop" apos) [] [] cpos) (some (.Name z p')) pos.line X.env=pure false:=by rfl) (hf:X.fn z=true∨X.env.scope.names.lookup z=some .local:=by first | exact .inl rfl | exact .inr rfl | assumption) :
  SF X K x fs (.Assign [.Name z p'] (.Call (.Attribute (.Name y p) "pop" apos) [] [] cpos) pos::rest) (.bind (popW l) k) out:=
 SF.step (ps_set hNd hj hx (pe_bm0k K hK PySem.F.plainAttrs_list PySem.F.slot_list_pop PySem.F.type_list_pop mt_popN (pe_var hN hv hd hcd) hbase hline) hsw hf) fun D σ H ⟨sr,q⟩=>by
  obtain⟨a,ws,e1,h1,r1⟩:=own_at sr hs
  have q:(popW l).run fun t=>(k t).run fun t=>EndR K x σ fs H D (out t):=q
  unfold popW at q
  cases hl:l.getLast? with
  | none=>rw [hl] at q;exact q.elim
  | some v=>
   rw [hl] at q
   have el:=snoc_get hl
   rw [el] at r1
   obtain⟨ws0,u,rfl,r0,ru⟩:=VRs.snoc r1
   refine⟨_,e1,.inl ⟨rfl,_,SqL.of h1⟩,a,ws0,u,rfl,rfl,h1,fun H2 sx h2=>?_⟩
   obtain⟨s2,g2⟩:=own_put sr hs e1 sx h2 r0
   have ru2:VR K [] H2 u v:=g2.vr sr ru
   have s3:=s2.putV ru2 j
   exact⟨_,k _,hr (l.dropLast,v),s3,(k _).mono (fun t q2=>q2.go (g2.trans (GoF.putV s2 _ _ j)) sr s3) q⟩
def setW (l:List PV) (i v:PV):W (List PV):=match i with
 | .int k=>match ixN l.length k with
  | some j=>.ret (l.set j v)
  | none=>.fail
 | _=>.fail
theorem SF.setI (i:Nat) {ei:Expr}{k:List PV→W T} (hs:fs[i]?=some (some (.ol q0 l))) (hN:X.N[i]?=some y) (hv:Vis X.env.scope y) (he:EF X K fs e we) (hi:EF X K fs ei wi) (hr:∀l',SF X K x (fs.set i (some (.ol q0 l'))) rest (k l') out)
  (ha:∀v,assign (.Subscript (.Name y p) ei tpos) X.env v=(do
   let ov ← holding [v] (eval (.Name y p) X.env)
   let iv ← holding [v,ov] (eval ei X.env)
   standAt tpos
   holding [v,ov,iv] (setItem ov iv v)
   release [v,ov,iv] []):=by intro _;rfl)
  (hd:(y==("__debug__":Str))=false:=by decide) (hcd:(y==("__classdict__":Str))=false:=by decide) (hss:swapsWithSole [.Subscript (.Name y p) ei tpos] e pos.line X.env=pure false:=by rfl) (hw:swappedStores [.Subscript (.Name y p) ei tpos] e X.env=pure none:=by rfl)
  (h1:(assignEach [.Subscript (.Name y p) ei tpos] X.env).map (·.2)=[assign (.Subscript (.Name y p) ei tpos) X.env]:=by rfl) :
  SF X K x fs (.Assign [.Subscript (.Name y p) ei tpos] e pos::rest) (.bind we fun v=>.bind wi fun n=>.bind (setW l n v) k) out:=
 SF.step (ps_asg he.p (pg_sub (pe_var hN hv hd hcd) hi.p set_listN ha) hss hw h1) fun D σ H ⟨sr,q⟩=>by
  refine⟨sr,we.mono (fun v q1 u H1 g1 s1 v1=>?_) q⟩
  obtain⟨a,ws,e1,h1,r1⟩:=own_at s1 hs
  refine⟨_,e1,s1,wi.mono (fun n q2 u2 H2 g2 s2 v2=>?_) q1⟩
  obtain⟨a',ws',e1',h1',r1'⟩:=own_at s2 hs
  rw [e1] at e1'
  cases e1'
  cases v2 with
  | int kk=>
   have q2:(match ixN l.length kk with | some j=>W.ret (l.set j v) | none=>W.fail).run _:=q2
   cases hj:ixN l.length kk with
   | none=>rw [hj] at q2;exact q2.elim
   | some j=>
    rw [hj] at q2
    refine⟨a,ws',kk,j,rfl,rfl,h1',by rw [r1'.length];exact hj,fun H3 sx h3=>?_⟩
    obtain⟨s3,g3⟩:=own_put s2 hs e1 sx h3 (r1'.set (g2.vr s1 v1) j)
    exact⟨_,k _,hr _,s3,(k _).mono (fun t q3=>q3.go ((g1.trans g2).f.trans g3) sr s3) q2⟩
  | _=>exact q2.elim
end
end FL
set_option Elab.async false
set_option linter.all false
set_option maxRecDepth 100000
namespace FL
open PySem PySem.Spec PyProof.Rows L2 PL
variable {K:PySem.W.Frag}
def argS:List AK→List PV→FSt
 | [],_=>[]
 | .v::ks,x::l=>some (.val x)::argS ks l
 | .v::_,[]=>[]
 | .p φ::ks,l=>some (.pot φ)::argS ks l
 | .f a::ks,l=>some (.adr a)::argS ks l
def begF (ks:List AK) (l:List PV) (n:Nat):FSt:=argS ks l++List.replicate (n-ks.length) none
def OneP (ks:List AK):Prop:=∀i j:Nat,(∃φ,ks[i]?=some (.p φ))→(∃φ,ks[j]?=some (.p φ))→i=j
theorem unc_len {R:Type}:∀{n:Nat}{m:Cur R n}{l:List PV}{Q:R→Prop},(unc n m l).run Q→l.length=n
 | 0,_,[],_,_=>rfl
 | 0,_,_::_,_,h=>h.elim
 | n+1,_,[],_,h=>h.elim
 | n+1,m,x::l,Q,h=>by rw [List.length_cons,unc_len (n:=n) (m:=m x) h]
section
variable {H H':Hp}{vs:List V}{ks:List AK}{l:List PV}
theorem ArgC.len (h:ArgC K H vs ks l):vs.length=ks.length:=by induction h <;> simp_all
theorem ArgC.slot (h:ArgC K H vs ks l):(argS ks l).length=vs.length∧∀(i:Nat) (s:SL),(argS ks l)[i]?=some (some s)→∃u,vs[i]?=some u∧SlotR K H u s∧(s.own=true→∃φ,s=.pot φ∧ks[i]?=some (.p φ)):=by
 induction h with
 | nil=>exact⟨rfl,fun i s e=>by simp [argS] at e⟩
 | @v u x vs ks l r t ih=>
  refine⟨by simp [argS,ih.1],fun i s e=>?_⟩
  cases i with
  | zero=>simp [argS] at e;subst e;exact⟨u,rfl,.inl ⟨x,rfl,r⟩,fun z=>by cases z⟩
  | succ i=>simp [argS] at e;obtain⟨w,h1,h2,h3⟩:=ih.2 i s e;exact⟨w,by simpa using h1,h2,by simpa using h3⟩
 | @p a φ ws vs ks l e0 r t ih=>
  refine⟨by simp [argS,ih.1],fun i s e=>?_⟩
  cases i with
  | zero=>simp [argS] at e;subst e;exact⟨_,rfl,.inr ⟨a,rfl,ws,e0,r⟩,fun _=>⟨φ,rfl,rfl⟩⟩
  | succ i=>simp [argS] at e;obtain⟨w,h1,h2,h3⟩:=ih.2 i s e;exact⟨w,by simpa using h1,h2,by simpa using h3⟩
 | @f a vs ks l t ih=>
  refine⟨by simp [argS,ih.1],fun i s e=>?_⟩
  cases i with
  | zero=>simp [argS] at e;subst e;exact⟨_,rfl,.inr ⟨a,rfl,rfl⟩,fun z=>by cases z⟩
  | succ i=>simp [argS] at e;obtain⟨w,h1,h2,h3⟩:=ih.2 i s e;exact⟨w,by simpa using h1,h2,by simpa using h3⟩
theorem ArgC.pots (h:ArgC K H vs ks l) {i:Nat}{φ:List V→Prop} (e:ks[i]?=some (.p φ)):(argS ks l)[i]?=some (some (.pot φ)):=by
 induction h generalizing i with
 | nil=>simp at e
 | v r t ih=>cases i with | zero=>simp at e | succ i=>simp [argS];exact ih (by simpa using e)
 | p e0 r t ih=>cases i with | zero=>simp at e;subst e;rfl | succ i=>simp [argS];exact ih (by simpa using e)
 | f t ih=>cases i with | zero=>simp at e | succ i=>simp [argS];exact ih (by simpa using e)
theorem beg_get {n i:Nat}{s:SL} (h:(begF ks l n)[i]?=some (some s)):(argS ks l)[i]?=some (some s):=by
 unfold begF at h
 by_cases c:i < (argS ks l).length
 ·rw [List.getElem?_append_left c] at h;exact h
 ·rw [List.getElem?_append_right (by omega),List.getElem?_replicate] at h
  split at h <;> cases h
theorem start_get {N:List Str}{i:Nat}{u:V} (h:vs[i]?=some u):(L2.start N vs)[i]?=some (some u):=by
 unfold L2.start
 rw [List.getElem?_append_left (by rw [List.length_map];exact (List.getElem?_eq_some_iff.mp h).1),List.getElem?_map,h];rfl
theorem start_inv {N:List Str}{i:Nat}{u:V} (h:(L2.start N vs)[i]?=some (some u)):vs[i]?=some u:=by
 unfold L2.start at h
 by_cases c:i < vs.length
 ·rw [List.getElem?_append_left (by simpa using c),List.getElem?_map] at h
  cases z:vs[i]? with
  | none=>rw [z] at h;cases h
  | some q=>rw [z] at h;cases h;rfl
 ·rw [List.getElem?_append_right (by simpa using c),List.getElem?_replicate] at h
  split at h <;> cases h
theorem ArgC.beg (h:ArgC K H vs ks l) (one:OneP ks) (N:List Str):SRf K H (L2.start N vs) (begF ks l N.length):=by
 obtain⟨hl,hs⟩:=h.slot
 refine⟨?_,fun i s e=>?_,fun i j s t x y a e1 e2 o1 o2 q1 q2 z1 z2=>?_⟩
 ·unfold L2.start begF
  rw [List.length_append,List.length_append,List.length_map,hl,List.length_replicate,List.length_replicate,h.len]
 ·obtain⟨u,h1,h2,_⟩:=hs i s (beg_get e)
  exact⟨u,start_get h1,h2⟩
 ·obtain⟨_,_,_,h3⟩:=hs i s (beg_get e1)
  obtain⟨_,_,_,h4⟩:=hs j t (beg_get e2)
  obtain⟨φ,_,k1⟩:=h3 o1
  obtain⟨ψ,_,k2⟩:=h4 o2
  exact one i j ⟨φ,k1⟩ ⟨ψ,k2⟩
theorem ArgC.go (h:ArgC K H vs ks l) {N:List Str}{σ':L2.St}{fs':FSt} (g:GoF (L2.start N vs) (begF ks l N.length) H σ' fs' H') (s':SRf K H' σ' fs'):GoC vs ks H H':=by
 obtain⟨hl,hs⟩:=h.slot
 refine⟨fun a o e n=>(g.keep a o e fun z=>?_).1,g.there,fun a φ p=>?_⟩
 ·obtain⟨i,s,x,e1,e2,e3,e4⟩:=z
  obtain⟨u,h1,h2,h3⟩:=hs i s (beg_get e1)
  obtain⟨φ,rfl,k⟩:=h3 e2
  rcases e4 with rfl | e4
  ·exact n φ ⟨i,k,start_inv e3⟩
  ·cases e4
 ·obtain⟨i,e1,e2⟩:=p
  have e3:=h.pots e1
  have hi:i < (argS ks l).length:=(List.getElem?_eq_some_iff.mp e3).1
  have e4:(begF ks l N.length)[i]?=some (some (.pot φ)):=by unfold begF;rw [List.getElem?_append_left hi];exact e3
  rcases g.pk a φ ⟨i,e4,start_get e2⟩ with⟨j,k1,k2⟩ | ⟨_,k⟩
  ·exact s'.ownAt k1 rfl k2
  ·exact k
end
section
variable {P:Program}{w:World}{mg:Str→Option Value}{base:Heap}{x qual:Str}{st:Stmt}{f:Addr}{fd:FuncData}{N ps:List Str}{k n:Nat}{ks:List AK}
theorem fnV {m:Cur PV n} (Fn:Fun K x qual st f fd) (S:FnScope N ps (defScope st)) (hks:ks.length=ps.length) (one:OneP ks)
  (cert:∀l:List PV,l.length=n→∀(cdv:Value) (A:Around) (outer:List Env) (s:Shared) (H:Hp) (E:XK),Room k (A.deeper (envOfC qual (defScope st) s.heap.objs.size f cdv))→SF (cxOf CX0 P w K mg base N qual (defScope st) f cdv A outer s H E).nox K false (begF ks l N.length) (defBody st) (unc n m l) .rt) :
  FnOk P w K mg base CX0 (k+1) f fd ps (spF K ks (unc n m)):=by
 refine Fn.ok S (fun vs H Q E h=>?_) (fun cdv A outer s H vs Q E hr h=>?_)
 ·obtain⟨l,h,_⟩:=h
  rw [h.len];exact hks
 obtain⟨l,h,q⟩:=h
 refine⟨_,(cert l (unc_len q) cdv A outer s H E hr).p,h.beg one N,(unc n m l).mono (fun v q1 u σ' fs' H' g s' r=>q1 u H' (h.go g s') r) q⟩
theorem fnL {m:Cur (List PV) n} (Fn:Fun K x qual st f fd) (S:FnScope N ps (defScope st)) (hks:ks.length=ps.length) (one:OneP ks)
  (cert:∀l:List PV,l.length=n→∀(cdv:Value) (A:Around) (outer:List Env) (s:Shared) (H:Hp) (E:XK),Room k (A.deeper (envOfC qual (defScope st) s.heap.objs.size f cdv))→SF (cxOf CX0 P w K mg base N qual (defScope st) f cdv A outer s H E).nox K false (begF ks l N.length) (defBody st) (unc n m l) .rl) :
  FnOk P w K mg base CX0 (k+1) f fd ps (spFL K ks (unc n m)):=by
 refine Fn.ok S (fun vs H Q E h=>?_) (fun cdv A outer s H vs Q E hr h=>?_)
 ·obtain⟨l,h,_⟩:=h
  rw [h.len];exact hks
 obtain⟨l,h,q⟩:=h
 have sr:=h.beg one N
 refine⟨_,(cert l (unc_len q) cdv A outer s H E hr).p,sr,(unc n m l).mono (fun z q1 a ws σ' fs' H' g s' fr e r=>q1 a ws H' (h.go g s') ?_ e r) q⟩
 rcases fr with fr | ⟨i,t,x,e1,e2,np,e3,e4⟩
 ·exact fr
 ·obtain⟨_,_,_,h3⟩:=h.slot.2 i t (beg_get e1)
  obtain⟨φ,e,_⟩:=h3 e2
  exact absurd e (np φ)
end
theorem one_nil:OneP []:=fun i j ⟨_,h⟩=>by simp at h
theorem one_v {ks:List AK} (h:OneP ks):OneP (.v::ks):=fun i j ⟨φ,a⟩ ⟨ψ,b⟩=>by
 cases i with
 | zero=>simp at a
 | succ i=>
  cases j with
  | zero=>simp at b
  | succ j=>rw [h i j ⟨φ,by simpa using a⟩ ⟨ψ,by simpa using b⟩]
theorem one_p {n:Nat}{φ:List V→Prop}:OneP (.p φ::List.replicate n .v):=fun i j ⟨χ,a⟩ ⟨ψ,b⟩=>by
 have z:∀{i:Nat}{χ:List V→Prop},(AK.p φ::List.replicate n .v)[i]?=some (.p χ)→i=0:=fun {i χ} a=>by
  cases i with
  | zero=>rfl
  | succ i=>
   have a:(List.replicate n AK.v)[i]?=some (.p χ):=by simpa using a
   rw [List.getElem?_replicate] at a
   split at a <;> simp at a
 rw [z a,z b]
end FL
set_option Elab.async false
set_option linter.all false
set_option maxRecDepth 100000
namespace L2
open PySem PySem.Spec PyProof.Rows
variable {X:Cx}
def rCatF (K:PySem.W.Frag):R2:=fun x y H Q=>∃a b xs zs,x=.ref a∧y=.ref b∧SqL K H a xs∧SqL K H b zs∧xs.length+zs.length≤sizeLine∧newO H (.lst (xs++zs)) Q
theorem op_catF (K:PySem.W.Frag) (hK:X.K=K):OpR X (binaryOp .Add) (rCatF K):=by
 subst hK
 intro pins s σ H x y v u Q I rx ry h
 obtain⟨l,b,xs,zs,rfl,rfl,hH,hB,hz,q⟩:=h
 cases rx
 cases ry
 obtain⟨its,r,⟨⟨cls,dd,data,sl⟩,n,ho,hc,hd,hdat⟩,_⟩:=I.list hH
 obtain⟨its2,r2,⟨⟨cls2,dd2,data2,sl2⟩,n2,ho2,hc2,hd2,hdat2⟩,_⟩:=I.list hB
 simp only at hc hd hdat hc2 hd2 hdat2
 subst hc hd hdat hc2 hd2 hdat2
 have e:its.toArray++its2.toArray=(its++its2).toArray:=by simp
 have hl:=r.length
 have hl2:=r2.length
 refine concat_meets ⟨_,ho,rfl⟩ ⟨_,ho2,rfl⟩ noFill_list_add seq_list_add PySem.F.slot_list_add PySem.F.entry_list_add (PySem.F.args_list_add_2 _ _) (list_addW l b its.toArray its2.toArray n n2 none none sl sl2 (by simp;omega)) ⟨ho,ho2,?_⟩
 rw [e]
 exact⟨.ref _,_,I.lnew (t':=s.toks) (r.append r2) (by rw [List.length_append];omega),rfl,q.at _ I.fresh⟩
end L2
namespace FL
open PySem PySem.Spec PyProof.Rows L2 PL
variable {K:PySem.W.Frag}
section
variable {X:Cx}{a b c e o:Expr}{es:List Expr}{pos p p1 p2 p3 p4:Pos}{fs:FSt}{w wa wb wc:W PV}{wl wm:W (List PV)}
def catW (l m:List PV):W (List PV):=.chk (l.length+m.length≤sizeLine) (.ret (l++m))
def fQL (K:PySem.W.Frag) (fs:FSt) (w:W (List PV)):TE:=fun σ H Q=>SRf K H σ fs∧w.run fun l=>∀u H',GoE σ fs H H'→SRf K H' σ fs→SqF K σ fs H' u l→(∀H'',GoE σ fs H' H''→SRf K H'' σ fs→∃a vs,u=.ref a∧SqL K H'' a vs∧VRs K [] H'' vs l)→Q u H'
structure QLF (X:Cx) (K:PySem.W.Frag) (fs:FSt) (e:Expr) (w:W (List PV)):Prop where p:PE X e (fQL K fs w)
theorem ql_new (h:LF X K fs e wl):QLF X K fs e wl:=⟨PE.imp h.p fun σ H Q ⟨sr,q⟩=>⟨sr,wl.mono (fun l q1 a vs H1 g1 s1 n e v=>q1 _ H1 g1 s1 (.inr ⟨a,rfl,.inl ⟨sr.noOwn n,vs,e,v⟩⟩) fun H2 g2 s2=>⟨a,vs,rfl,SqL.of (g2.keepN e (sr.noOwn n)),g2.vrs s1 v⟩) q⟩⟩
theorem ql_own (i:Nat) {x:Str}{q0:Option Addr}{l:List PV} (hs:fs[i]?=some (some (.ol q0 l)):=by rfl) (hN:X.N[i]?=some x:=by rfl) (hv:Vis X.env.scope x:=by first | exact Or.inl rfl | exact Or.inr (Or.inl rfl) | exact Or.inr (Or.inr rfl)) (hd:(x==("__debug__":Str))=false:=by decide) (hcd:(x==("__classdict__":Str))=false:=by decide):QLF X K fs (.Name x pos) (.ret l):=
 ⟨PE.imp (pe_var hN hv hd hcd) fun σ H Q ⟨sr,q⟩=>by
  obtain⟨a,ws,e1,h1,r1⟩:=own_at sr hs
  refine⟨_,e1,q _ H .refl sr (.inr ⟨a,rfl,.inr ⟨i,q0,hs,e1⟩⟩) fun H2 g2 s2=>?_⟩
  obtain⟨a',ws',e1',h1',r1'⟩:=own_at s2 hs
  rw [e1] at e1'
  cases e1'
  exact⟨a,ws',rfl,SqL.of h1',r1'⟩⟩
def lstW:PV→W (List PV)
 | .cl l=>.ret l
 | _=>.fail
theorem ql_val (h:EF X K fs e w):QLF X K fs e (.bind w lstW):=⟨PE.imp h.p fun σ H Q ⟨sr,q⟩=>⟨sr,w.mono (fun x q1 u1 H1 g1 s1 v1=>by
 cases v1 with
 | cl e r=>exact q1 _ H1 g1 s1 (.inl ⟨_,_,rfl,.inl e,r⟩) fun H2 g2 s2=>⟨_,_,rfl,((g2.tups s1).f _ _ e).sq,g2.vrs s1 r⟩
 | _=>exact q1.elim) q⟩⟩
theorem l_cat (hK:X.K=K) (ha:QLF X K fs a wl) (hb:QLF X K fs b wm):LF X K fs (.BinOp a .Add b pos) (.bind wl fun l=>.bind wm fun m=>catW l m):=⟨PE.imp (pe_op (op_catF K hK) ha.p hb.p) fun σ H Q ⟨sr,q⟩=>⟨sr,wl.mono (fun l q1 u1 H1 g1 s1 _ v1=>⟨s1,wm.mono (fun m q2 u2 H2 g2 s2 _ v2=>by
 obtain⟨a,vs,rfl,h1,r1⟩:=v1 H2 g2 s2
 obtain⟨b,ws,rfl,h2,r2⟩:=v2 H2 .refl s2
 refine⟨a,b,vs,ws,rfl,rfl,h1,h2,by rw [r1.length,r2.length];exact q2.1,fun p H3 s3 h3 n3=>?_⟩
 have gg:=g1.trans g2
 exact q2.2 p _ H3 (gg.trans (GoE.same s3)) (s2.same s3) (gg.there p n3) h3 (VRs.tk s3.tupsK (r1.append r2))) q1⟩) q⟩⟩
theorem new_l {σ:L2.St}{H H1:Hp}{Q:VK}{vs:List V}{l:List PV} (g1:GoE σ fs H H1) (s1:SRf K H1 σ fs) (r:VRs K [] H1 vs l) (q:∀a vs H',GoE σ fs H H'→SRf K H' σ fs→H a=none→H' a=some (.lst vs)→VRs K [] H' vs l→Q (.ref a) H'):newO H1 (.lst vs) Q:=fun p H2 s2 h2 n2=>q p vs H2 (g1.trans (GoE.same s2)) (s1.same s2) (g1.there p n2) h2 (VRs.tk s2.tupsK r)
theorem listQ_ok (K:PySem.W.Frag):CL K (rListC K) .ret:=fun {fs σ H Q u l} s v q=>by
 obtain⟨a,vs,rfl,h,rs⟩:=v.sq s
 exact⟨a,vs,rfl,h,new_l .refl s rs q⟩
theorem l_list (hK:X.K=K) (hg:Gl X "list") (hm:X.mg "list"=none) (ha:QF X K fs e wl) (he:starEach [e] X.env=(false,eval e X.env)::starEach [] X.env:=by rfl) (hpl:(backTo pos (starEach [] X.env)).any (·.1)=false:=by rfl):LF X K fs (.Call (.Name "list" p) [e] [] pos) wl:=l_callTy (m:=.ret) (call_listk K hK) (listQ_ok K) hg hm boot_list ha (by decide) (by decide) he hpl
theorem e_tuple (hK:X.K=K) (hg:Gl X "tuple") (hm:X.mg "tuple"=none) (ha:QF X K fs e wl) (he:starEach [e] X.env=(false,eval e X.env)::starEach [] X.env:=by rfl) (hpl:(backTo pos (starEach [] X.env)).any (·.1)=false:=by rfl):EF X K fs (.Call (.Name "tuple" p) [e] [] pos) (.bind wl tupW):=e_callTyQ (call_tupT K hK) (tupQ_ok K) hg hm boot_tuple ha (by decide) (by decide) he hpl
theorem e_lenQ (hK:X.K=K) (hg:Gl X "len") (hm:X.mg "len"=none) (ha:QF X K fs e wl) (he:starEach [e] X.env=(false,eval e X.env)::starEach [] X.env:=by rfl) (hpl:(backTo pos (starEach [] X.env)).any (·.1)=false:=by rfl):EF X K fs (.Call (.Name "len" p) [e] [] pos) (.bind wl lenW):=e_callBQ (call_lenk K hK) (lenQ_ok K) hg hm boot_len ha (by decide) (by decide) he hpl
theorem a_one {R:Type} (ha:EF X K fs e w) (he:starEach [e] X.env=(false,eval e X.env)::starEach [] X.env):AF X K fs [e] (List.replicate 1 .v) (R:=R) (fun k=>.bind w fun x=>k [x]):=a_cons ha a_nil he
theorem e_len (hK:X.K=K) (hg:Gl X "len") (hm:X.mg "len"=none) (ha:EF X K fs e w) (he:starEach [e] X.env=(false,eval e X.env)::starEach [] X.env:=by rfl) (hpl:(backTo pos (starEach [] X.env)).any (·.1)=false:=by rfl):EF X K fs (.Call (.Name "len" p) [e] [] pos) (.bind w fun x=>of1 bLen [x]):=e_callB (n:=1) (call_lenk K hK) (bLen_ok K) hg hm boot_len (a_one ha he) (by decide) (by decide) he hpl
theorem e_abs (hg:Gl X "abs") (hm:X.mg "abs"=none) (ha:EF X K fs e w) (he:starEach [e] X.env=(false,eval e X.env)::starEach [] X.env:=by rfl) (hpl:(backTo pos (starEach [] X.env)).any (·.1)=false:=by rfl):EF X K fs (.Call (.Name "abs" p) [e] [] pos) (.bind w fun x=>of1 bAbs [x]):=e_callB (n:=1) call_abs bAbs_ok hg hm boot_abs (a_one ha he) (by decide) (by decide) he hpl
theorem e_toInt (hg:Gl X "int") (hm:X.mg "int"=none) (ha:EF X K fs e w) (he:starEach [e] X.env=(false,eval e X.env)::starEach [] X.env:=by rfl) (hpl:(backTo pos (starEach [] X.env)).any (·.1)=false:=by rfl):EF X K fs (.Call (.Name "int" p) [e] [] pos) (.bind w fun x=>of1 bInt [x]):=e_callTy (n:=1) call_int1 bInt_ok hg hm boot_int (a_one ha he) (by decide) (by decide) he hpl
theorem e_max (hc:X.calm=true) (hg:Gl X "max") (hm:X.mg "max"=none) (ha:EF X K fs a wa) (hb:EF X K fs b wb) (he:starEach [a,b] X.env=(false,eval a X.env)::starEach [b] X.env:=by rfl) (he2:starEach [b] X.env=(false,eval b X.env)::starEach [] X.env:=by rfl) (hpl:(backTo pos (starEach [b] X.env)).any (·.1)=false:=by rfl):EF X K fs (.Call (.Name "max" p) [a,b] [] pos) (.bind wa fun x=>.bind wb fun y=>of1 bMax [x,y]):=e_callB (n:=2) (call_max2 hc) bMax_ok hg hm boot_max (a_cons ha (a_cons hb a_nil he2) he) (by decide) (by decide) he hpl
theorem e_min (hc:X.calm=true) (hg:Gl X "min") (hm:X.mg "min"=none) (ha:EF X K fs a wa) (hb:EF X K fs b wb) (he:starEach [a,b] X.env=(false,eval a X.env)::starEach [b] X.env:=by rfl) (he2:starEach [b] X.env=(false,eval b X.env)::starEach [] X.env:=by rfl) (hpl:(backTo pos (starEach [b] X.env)).any (·.1)=false:=by rfl):EF X K fs (.Call (.Name "min" p) [a,b] [] pos) (.bind wa fun x=>.bind wb fun y=>of1 bMin [x,y]):=e_callB (n:=2) (call_min2 hc) bMin_ok hg hm boot_min (a_cons ha (a_cons hb a_nil he2) he) (by decide) (by decide) he hpl
theorem l_rev (hK:X.K=K) (hc:X.calm=true) (hg1:Gl X "list") (hm1:X.mg "list"=none) (hg2:Gl X "reversed") (hm2:X.mg "reversed"=none) (he:QLF X K fs e wl)
  (hs1:starEach [.Call (.Name "reversed" p3) [e] [] p4] X.env=(false,eval (.Call (.Name "reversed" p3) [e] [] p4) X.env)::starEach [] X.env:=by rfl) (hs2:starEach [e] X.env=(false,eval e X.env)::starEach [] X.env:=by rfl) :
  LF X K fs (.Call (.Name "list" p1) [.Call (.Name "reversed" p3) [e] [] p4] [] p2) (.bind wl fun l=>.ret l.reverse):=⟨PE.imp (pe_listrev K hK hc hg1 hm1 hg2 hm2 he.p hs1 hs2) fun σ H Q ⟨sr,q⟩=>⟨sr,wl.mono (fun l q1 u1 H1 g1 s1 _ v1=>by
 obtain⟨a,vs,rfl,h1,r1⟩:=v1 H1 .refl s1
 exact⟨a,vs,rfl,h1,new_l g1 s1 r1.reverse q1⟩) q⟩⟩
def bsW:List PV→W (List Bool)
 | []=>.ret []
 | .bl b::r=>.bind (bsW r) fun l=>.ret (b::l)
 | _=>.fail
theorem bsW_run:∀{l:List PV}{Q:List Bool→Prop},(bsW l).run Q→∃bs:List Bool,l=bs.map PV.bl∧Q bs
 | [],Q,h=>⟨[],rfl,h⟩
 | .bl b::r,Q,h=>by
  obtain⟨bs,e,q⟩:=bsW_run (l:=r) h
  exact⟨b::bs,by rw [e];rfl,q⟩
 | .non::r,Q,h=>h.elim
 | .int _::r,Q,h=>h.elim
 | .str _::r,Q,h=>h.elim
 | .tup _::r,Q,h=>h.elim
 | .ref _::r,Q,h=>h.elim
 | .ty _::r,Q,h=>h.elim
 | .cl _::r,Q,h=>h.elim
@[simp] theorem bsW_map:∀bs:List Bool,bsW (bs.map PV.bl)=.ret bs
 | []=>rfl
 | b::bs=>by
  show W.bind (bsW (bs.map PV.bl)) _=_
  rw [bsW_map bs];rfl
def allW (l:List PV):W PV:=.bind (bsW l) fun bs=>.ret (.bl (bs.all id))
theorem e_all (hK:X.K=K) (hc:X.calm=true) (hg:Gl X "all") (hm:X.mg "all"=none) (ha:QLF X K fs e wl) (he:starEach [e] X.env=(false,eval e X.env)::starEach [] X.env:=by rfl) (hpl:(backTo pos (starEach [] X.env)).any (·.1)=false:=by rfl):EF X K fs (.Call (.Name "all" p) [e] [] pos) (.bind wl allW):=⟨PE.imp (pe_callB (call_allk K hK hc) hg hm boot_all (pa_cons ha.p pa_nil he) (by decide) (by decide) he hpl) fun σ H Q ⟨sr,q⟩=>⟨sr,wl.mono (fun l q1 u1 H1 g1 s1 _ v1=>by
 obtain⟨bs,e,q2⟩:=bsW_run (l:=l) q1
 obtain⟨a,vs,rfl,h1,r1⟩:=v1 H1 .refl s1
 rw [e] at r1
 have:=bools_vrs r1
 subst this
 exact⟨a,bs,rfl,h1,q2 _ H1 g1 s1 (.bl _)⟩) q⟩⟩
def isiW (k:Kd) (x:PV):W PV:=match x with
 | .ref _=>.fail
 | .ty _=>.fail
 | x=>.ret (.bl (k.is x))
def rIsiF (K:PySem.W.Frag):List V→Hp→VK→Prop:=fun xs H Q=>∃x c t b,xs=[x,.ty c]∧(TyOf K H x t∨(t=.type "tuple"∧∃a vs,x=.ref a∧SqT K H a vs)∨(t=.type "list"∧∃a vs,x=.ref a∧SqL K H a vs)∨(t=.type "dict"∧∃a,x=.ref a∧IsD H a))∧PySem.W.kitOne K t (.type c)=some b∧Q (.bl b) H
theorem call_isiF (hK:X.K=K):CallR X (.builtin "isinstance") (rIsiF K):=by
 subst hK
 intro pins s σ H xs us Q I r h
 obtain⟨x,c,t,b,rfl,ty | ty | ⟨rfl,a,vs,rfl,hL⟩ | ⟨rfl,a,rfl,hD⟩,e,q⟩:=h
 ·exact call_isinst pins s σ H _ us Q I r ⟨x,c,t,b,rfl,ty,e,q⟩
 ·exact call_isiT X.K rfl pins s σ H _ us Q I r ⟨x,c,t,b,rfl,.inr ty,e,q⟩
 ·obtain⟨u,w,rfl,r1,r2⟩:=vals2 r
  cases r1
  cases r2
  obtain⟨its,_,⟨o,n,h1,h2,_⟩,_⟩:=I.list hL
  exact PySem.W.kia_one PySem.W.kitx_list I.kIn ⟨o,h1,h2⟩ e (fun z=>nomatch z) fun tk=>⟨.bl b,H,I.tok _,rfl,q⟩
 ·obtain⟨u,w,rfl,r1,r2⟩:=vals2 r
  cases r1
  cases r2
  have:∃o,s.heap.get? a=some o∧o.cls=.type "dict":=by
   rcases hD with⟨kvs,e⟩ | ⟨kvs,e⟩
   ·obtain⟨_,_,vs,_,o,_,_,h1,h2,_⟩:=dk_rd I.hok e
    exact⟨o,h1,h2.1⟩
   ·obtain⟨_,_,xs,_,o,_,_,h1,h2,_⟩:=dt_rd I.hok e
    exact⟨o,h1,h2.1⟩
  obtain⟨o,h1,h2⟩:=this
  exact PySem.W.kia_one PySem.W.kitx_dict I.kIn ⟨o,h1,h2⟩ e (fun z=>nomatch z) fun tk=>⟨.bl b,H,I.tok _,rfl,q⟩
theorem e_isi (hK:X.K=K) (k:Kd) {x:Str} (hg:Gl X "isinstance") (hm:X.mg "isinstance"=none) (ha:EF X K fs a wa) (hgx:Gl X x) (hmx:X.mg x=none) (hv:bootBuiltins x=some (.type k.name)) (hn:x≠"__name__":=by decide) (hd:(x==("__debug__":Str))=false:=by decide)
  (he:starEach [a,.Name x p2] X.env=(false,eval a X.env)::starEach [.Name x p2] X.env:=by rfl) (he2:starEach [Expr.Name x p2] X.env=(false,eval (.Name x p2) X.env)::starEach [] X.env:=by rfl)
  (hpl:(backTo pos (starEach [Expr.Name x p2] X.env)).any (·.1)=false:=by rfl):EF X K fs (.Call (.Name "isinstance" p) [a,.Name x p2] [] pos) (.bind wa (isiW k)):=
 ⟨PE.imp (pe_callB (call_isiF hK) hg hm boot_isinstance (pa_cons ha.p (pa_cons (pe_bltn (v:=.ty k.name) hgx hmx hv rfl hn hd) pa_nil he2) he) (by decide) (by decide) he hpl) fun σ H Q ⟨sr,q⟩=>⟨sr,wa.mono (fun x q1 u1 H1 g1 s1 v1=>by
  have fin:∀{t:Value}{y:PV},TyOf K H1 u1 t→PySem.W.kitOne K t (.type k.name)=some (k.is y)→Q (.bl (k.is y)) H1→rIsiF K [u1,.ty k.name] H1 Q:=fun ty e q=>⟨_,_,_,_,rfl,.inl ty,e,q⟩
  show rIsiF K [u1,.ty k.name] H1 Q
  cases v1 with
  | non=>exact fin (y:=.non) .non (by rw [(kit_all K).1 k];cases k <;> rfl) (q1 _ H1 g1 s1 (.bl _))
  | bl b=>exact fin (.bl b) (kit_bl K b k) (q1 _ H1 g1 s1 (.bl _))
  | int b=>exact fin (.int b) (kit_int K b k) (q1 _ H1 g1 s1 (.bl _))
  | str b=>exact fin (.str b) (kit_str K b k) (q1 _ H1 g1 s1 (.bl _))
  | ty n=>exact q1.elim
  | ref n=>exact q1.elim
  | @dk a o kvs ks l e k1 r=>exact⟨_,_,_,_,rfl,.inr (.inr (.inr ⟨rfl,_,rfl,.inl ⟨_,.inr ⟨_,e⟩⟩⟩)),(show _=some (k.is (.dv ks l)) by rw [(kit_all K).2.2 k];cases k <;> rfl),q1 _ H1 g1 s1 (.bl _)⟩
  | @dt a o kvs ks l e k1 r=>exact⟨_,_,_,_,rfl,.inr (.inr (.inr ⟨rfl,_,rfl,.inr ⟨_,.inr ⟨_,e⟩⟩⟩)),(show _=some (k.is (.dv ks l)) by rw [(kit_all K).2.2 k];cases k <;> rfl),q1 _ H1 g1 s1 (.bl _)⟩
  | @cl p vs l e r=>exact⟨_,_,_,_,rfl,.inr (.inr (.inl ⟨rfl,_,_,rfl,e.sq⟩)),(show _=some (k.is (.cl l)) by rw [(kit_all K).2.1 k];cases k <;> rfl),q1 _ H1 g1 s1 (.bl _)⟩
  | @tup p vs l e r=>exact⟨_,_,_,_,rfl,.inr (.inl ⟨rfl,_,_,rfl,SqT.of e⟩),kit_tup K _ k,q1 _ H1 g1 s1 (.bl _)⟩) q⟩⟩
def repW (l:List PV):PV→W (List PV)
 | .int k=>.chk (-(2 ^ 63)≤k∧k < 2 ^ 63∧l.length*k.toNat≤sizeLine) (.ret (List.replicate k.toNat l).flatten)
 | _=>.fail
theorem l_rep (ha:LF X K fs a wl) (hb:EF X K fs b wb):LF X K fs (.BinOp a .Mult b pos) (.bind wl fun l=>.bind wb fun y=>repW l y):=⟨PE.imp (pe_op op_rep ha.p hb.p) fun σ H Q ⟨sr,q⟩=>⟨sr,wl.mono (fun l q1 a vs H1 g1 s1 n e v=>⟨s1,wb.mono (fun y q2 u2 H2 g2 s2 v2=>by
 cases v2 with
 | int k=>
  have no:=sr.noOwn n
  have e2:=(g2.keepN e no)
  have r2:=g2.vrs s1 v
  refine⟨a,k,vs,rfl,rfl,e2,q2.1.1,q2.1.2.1,by rw [r2.length];exact q2.1.2.2,fun p hp=>?_⟩
  have sm:=same_new hp (.lst (List.replicate k.toNat vs).flatten)
  have gg:=g1.trans g2
  exact q2.2 p _ _ (gg.trans (GoE.same sm)) (s2.same sm) (gg.there p hp) upd_same (VRs.tk sm.tupsK (r2.rep k.toNat))
 | _=>exact q2.elim) q1⟩) q⟩⟩
variable {el eh:Option Expr}{lo hi wst:W (Option Int)}
theorem eq_nil_core (h:QLF X K fs e wl) {neg:Bool}:∀σ H Q,fE K fs (.bind wl fun l=>.ret (.bl (if neg then !l.isEmpty else l.isEmpty))) σ H Q→tOp (fun x y H Q=>∃p q xs,x=.ref p∧y=.ref q∧SqL K H p xs∧SqL K H q []∧Q (.bl (if neg then !xs.isEmpty else xs.isEmpty)) H) (fQL K fs wl) (fL K fs (.ret [])) σ H Q:=fun σ H Q ⟨sr,q⟩=>
 ⟨sr,wl.mono (fun l q1 u1 H1 g1 s1 _ v1=>⟨s1,fun a2 vs2 H2 g2 s2 n2 e2 r2=>by
  cases r2
  obtain⟨a,vs,rfl,h1,r1⟩:=v1 H2 g2 s2
  refine⟨a,a2,vs,rfl,rfl,h1,SqL.of e2,?_⟩
  rw [empty_of r1]
  exact q1 _ H2 (g1.trans g2) s2 (.bl _)⟩) q⟩
theorem l_nil:LF X K fs (.List [] pos) (.ret []):=l_lst (n:=0) a_nil
theorem e_eqN (hK:X.K=K) (hu:X.A.units+200 < cLine) (h:QLF X K fs e wl) (hk:behindInMarks .Eq (.List [] p2)=false:=by rfl):EF X K fs (.Compare e [.Eq] [.List [] p2] pos) (.bind wl fun l=>.ret (.bl l.isEmpty)):=⟨PE.imp (pe_cmpR (op_eq_nilk K hK (by omega)) h.p l_nil.p hk) (eq_nil_core (neg:=false) h)⟩
theorem t_neN (hK:X.K=K) (hu:X.A.units+200 < cLine) (h:QLF X K fs e wl) (hk:behindInMarks .NotEq (.List [] p2)=false:=by rfl):TF X K fs (.Compare e [.NotEq] [.List [] p2] pos) (.bind wl fun l=>.ret (!l.isEmpty)):=⟨PT.imp (pt_cmpR (op_ne_nilk K hK (by omega)) h.p l_nil.p hk) fun σ H Q q=>eq_nil_core (neg:=true) h σ H _ (fT_B (w:=.bind wl fun l=>.ret (.bl (!l.isEmpty))) σ H Q q)⟩
def intsW:List PV→W (List Int)
 | []=>.ret []
 | .int i::r=>.bind (intsW r) fun l=>.ret (i::l)
 | _=>.fail
theorem intsW_run:∀{l:List PV}{Q:List Int→Prop},(intsW l).run Q→∃ns:List Int,l=ns.map PV.int∧Q ns
 | [],Q,h=>⟨[],rfl,h⟩
 | .int b::r,Q,h=>by
  obtain⟨bs,e,q⟩:=intsW_run (l:=r) h
  exact⟨b::bs,by rw [e];rfl,q⟩
 | .non::r,Q,h=>h.elim
 | .bl _::r,Q,h=>h.elim
 | .str _::r,Q,h=>h.elim
 | .tup _::r,Q,h=>h.elim
 | .ref _::r,Q,h=>h.elim
 | .ty _::r,Q,h=>h.elim
 | .cl _::r,Q,h=>h.elim
@[simp] theorem intsW_map:∀bs:List Int,intsW (bs.map PV.int)=.ret bs
 | []=>rfl
 | b::bs=>by
  show W.bind (intsW (bs.map PV.int)) _=_
  rw [intsW_map bs];rfl
end
end FL
set_option Elab.async false
set_option linter.all false
set_option maxRecDepth 100000
namespace FL
open PySem PySem.Spec PyProof.Rows L2 PL
variable {K:PySem.W.Frag}
abbrev b2 (m:M2) (wa wb:W PV):W PV:=.bind wa fun x=>.bind wb fun y=>of2 m x y
abbrev t2 (m:M2) (wa wb:W PV):W Bool:=.bind wa fun x=>.bind wb fun y=>.bind (of2 m x y) asB
abbrev c1 (m:MB1) (w:W PV):W PV:=.bind w fun x=>of1 m [x]
abbrev ixB (wl:W (List PV)) (wb:W PV):W PV:=.bind wl fun l=>.bind wb fun y=>ixW l y
abbrev tand (a b:W Bool):W Bool:=.bind a fun k=>if k=true then b else .ret false
abbrev tor (a b:W Bool):W Bool:=.bind a fun k=>if k=true then .ret true else b
abbrev tnot (a:W Bool):W Bool:=.bind a fun k=>.ret (!k)
abbrev iteB {α:Type} (t:W Bool) (a b:W α):W α:=.bind t fun k=>if k=true then a else b
section
variable {X:Cx}{a b c e o iter tg:Expr}{body rest:List Stmt}{pos p p2:Pos}{fs:FSt}{S T T2:Type}{hd:S→FSt}{s0:S}{w we:W PV}{wl:W (List PV)}{wt:PV→W T2}{is:List Nat}{fs2:S→T2→FSt}{k:S→W T}{out:T→End}{x:Bool}
theorem SF.for1 {i:Nat}{f:PV→S→W S} (hp:PassesOwn (model X.prog X.w) X.A X.env X.xe) (hc:X.calm=true) (hi:ITF X K fs tg iter wl) (hl:LeF fs (hd s0)) (hg:PG X tg (gName i)) (hb:∀s p,SF X K false ((hd s).set i (some (.val p))) body (f p s) fun s'=>.nc (hd s')) (hr:∀s,SF X K x (hd s) rest (k s) out) (hs:∀x,foldedSetIterable iter X.env x=pure x:=by intro _;rfl) :
  SF X K x fs (.For tg iter body [] pos::rest) (.bind wl fun l=>.bind (forW l s0 f) k) out:=SF.for (wt:=.ret) (wb:=fun p s=>f p s) hp hc hi hl (fun s=>g_1 hg) (fun _ _=>rfl) hb hr hs
theorem SF.forT {wb:T2→S→W S} (hp:PassesOwn (model X.prog X.w) X.A X.env X.xe) (hc:X.calm=true) (hi:ITF X K fs tg iter wl) (hl:LeF fs (hd s0)) (hg:∀s,GF X K (hd s) tg is wt (fs2 s)) (hb:∀s t,SF X K false (fs2 s t) body (wb t s) fun s'=>.nc (hd s')) (hr:∀s,SF X K x (hd s) rest (k s) out) (hs:∀x,foldedSetIterable iter X.env x=pure x:=by intro _;rfl) :
  SF X K x fs (.For tg iter body [] pos::rest) (.bind wl fun l=>.bind (forW l s0 fun p s=>.bind (wt p) fun t=>wb t s) k) out:=SF.for hp hc hi hl hg (fun _ _=>rfl) hb hr hs
theorem SF.forF1 {i:Nat}{R:Type}{inj:R→T}{f:PV→S→W (Lp S R)} (hp:PassesOwn (model X.prog X.w) X.A X.env X.xe) (hc:X.calm=true) (hi:ITF X K fs tg iter wl) (hl:LeF fs (hd s0)) (hg:PG X tg (gName i)) (ho:∀t,(out (inj t)).isOut) (hb:∀s p,SF X K false ((hd s).set i (some (.val p))) body (f p s) (lpE hd fun r=>out (inj r))) (hr:∀s,SF X K x (hd s) rest (k s) out) (hs:∀x,foldedSetIterable iter X.env x=pure x:=by intro _;rfl) :
  SF X K x fs (.For tg iter body [] pos::rest) (.bind wl fun l=>.bind (FL.forF l s0 f) (goW k inj)) out:=SF.forF (wt:=.ret) (wb:=fun p s=>f p s) hp hc hi hl (fun s=>g_1 hg) (fun _ _=>rfl) ho hb hr hs
theorem SF.setT {fs3:T2→FSt}{k:T2→W T} (he:EF X K fs e we) (hg:GF X K fs tg is wt fs3) (hr:∀t,SF X K x (fs3 t) rest (k t) out) (hs:swapsWithSole [tg] e pos.line X.env=pure false:=by rfl) (hw:swappedStores [tg] e X.env=pure none:=by rfl)
  (h1:(assignEach [tg] X.env).map (·.2)=[assign tg X.env]:=by rfl):SF X K x fs (.Assign [tg] e pos::rest) (.bind we fun v=>.bind (wt v) k) out:=SF.step (ps_asg he.p hg.p hs hw h1) fun D σ H ⟨sr,q⟩=>
 ⟨sr,we.mono (fun v q1 u H1 g1 s1 v1=>⟨v,s1,v1,(wt v).mono (fun t q2 us g2 s2=>⟨_,k t,hr t,s2,(k t).mono (fun t' q3=>q3.go (g1.f.trans g2) sr s2) q2⟩) q1⟩) q⟩
def thawL (l:List PV):W (List PV):=.chk (datL l=true) (.ret l)
mutual
theorem VR.dat_any {ι:List Addr}{H H':Hp} (t:∀p vs,H p=some (.tup vs)→H' p=some (.tup vs)):∀{v:V}{q:PV},VR K ι H v q→q.dat=true→VR K [] H' v q
 | _,_,.non,_=>.non
 | _,_,.bl b,_=>.bl b
 | _,_,.int i,_=>.int i
 | _,_,.str x,_=>.str x
 | _,_,.ty n,h=>by rw [PV.dat] at h;cases h
 | _,_,.tup e r,h=>.tup (t _ _ e) (VRs.dat_any t r (by rw [PV.dat] at h;exact h))
 | _,_,.cl e r,h=>by rw [PV.dat] at h;cases h
 | _,_,.dk _ _ _,h=>by rw [PV.dat] at h;cases h
 | _,_,.dt _ _ _,h=>by rw [PV.dat] at h;cases h
 | _,_,.ref e,h=>by rw [PV.dat] at h;cases h
theorem VRs.dat_any {ι:List Addr}{H H':Hp} (t:∀p vs,H p=some (.tup vs)→H' p=some (.tup vs)):∀{v:List V}{q:List PV},VRs K ι H v q→datL q=true→VRs K [] H' v q
 | _,_,.nil,_=>.nil
 | _,_,.cons r s,h=>by
  rw [datL,Bool.and_eq_true] at h
  exact .cons (VR.dat_any t r h.1) (VRs.dat_any t s h.2)
end
theorem bor {pins:List (Addr×Obj)}{s:Shared}{σ:L2.St}{H:Hp}{i:Nat}{q0:Option Addr}{l:List PV} (I:Inv X pins σ H s) (sr:SRf K H σ fs) (hs:fs[i]?=some (some (.ol q0 l))):∃a ws ob,Inv X pins σ (upd H a (.frz ob (.lst ws))) s∧SRf K (upd H a (.frz ob (.lst ws))) σ (fs.set i (some (.val (.cl l))))∧
  ∀σ' s' H1,Inv X pins σ' H1 s'→GoE σ (fs.set i (some (.val (.cl l)))) (upd H a (.frz ob (.lst ws))) H1→SRf K H1 σ (fs.set i (some (.val (.cl l))))→Inv X pins σ' (upd H1 a (.lst ws)) s'∧GoE σ fs H (upd H1 a (.lst ws))∧SRf K (upd H1 a (.lst ws)) σ fs∧(∀p vs,H1 p=some (.tup vs)→upd H1 a (.lst ws) p=some (.tup vs))∧∀p vs,p≠a→H1 p=some (.lst vs)→upd H1 a (.lst ws) p=some (.lst vs):=by
 obtain⟨a,ws,e1,h1,r1⟩:=own_at sr hs
 obtain⟨ob,I2⟩:=I.freezeL h1
 have tk:=tk_side (K:=K) (.frz ob (.lst ws)) h1
 have h0:∀o u,X.H₀ a≠some (.frz o u):=fun o u z=>by
  have:=I.base.frzs a o u z
  rw [h1] at this;cases this
 refine⟨a,ws,ob,I2,⟨by simp [sr.len],fun j t z=>?_,fun j k t u b1 b2 b z1 z2 o1 o2=>?_⟩,fun σ' s' H1 J g s1=>?_⟩
 ·rcases set_get z with⟨rfl,rfl⟩ | ⟨n,z⟩
  ·exact⟨_,e1,.inl ⟨_,rfl,.cl (.inl ⟨ob,upd_same⟩) (VRs.tk tk r1)⟩⟩
  ·obtain⟨u,k1,k2⟩:=sr.at' j t z
   exact⟨u,k1,k2.mono tk (fun x b o eb ow hb zz=>by
    subst eb
    rw [upd_ne (fun y=>by subst y;exact n (sr.nd j i t _ x b b z hs ow rfl k1 e1 hb (.inl rfl)))];exact zz)⟩
 ·rcases set_get z1 with⟨rfl,rfl⟩ | ⟨n1,z1⟩
  ·cases o1
  ·rcases set_get z2 with⟨rfl,rfl⟩ | ⟨n2,z2⟩
   ·cases o2
   ·exact sr.nd j k t u b1 b2 b z1 z2 o1 o2
 ·have pf:∀φ b,PotOf σ (fs.set i (some (.val (.cl l)))) φ b→PotOf σ fs φ b:=fun φ b ⟨j,z1,z3⟩=>by
   rcases set_get z1 with⟨_,z⟩ | ⟨n,z1⟩
   ·cases z
   ·exact⟨j,z1,z3⟩
  have npa:∀φ,¬PotOf σ fs φ a:=fun φ ⟨j,z1,z3⟩=>by
   have:=sr.nd j i _ _ a a a z1 hs rfl rfl z3 e1 (.inl rfl) (.inl rfl)
   subst this
   rw [hs] at z1;cases z1
  have e2:=g.keep a _ upd_same fun φ p=>npa φ (pf φ a p)
  have hk:=hok_thawL J.hok e2
  have ge:GoE σ fs H (upd H1 a (.lst ws)):=by
   refine⟨fun b o z n=>?_,fun b z=>?_⟩
   ·by_cases c:b=a
    ·subst c;rw [h1] at z;cases z;exact upd_same
    ·rw [upd_ne c]
     exact g.keep b o (by rw [upd_ne c];exact z) fun φ p=>n φ (pf φ b p)
   ·by_cases c:b=a
    ·subst c;rw [upd_same] at z;cases z
    ·rw [upd_ne c] at z
     have:=g.there b z
     rw [upd_ne c] at this;exact this
  refine⟨J.thaw e2 h0 (hk a _ upd_same) hk,ge,⟨sr.len,fun j t z=>?_,sr.nd⟩,fun p vs z=>?_,fun p vs n z=>by rw [upd_ne n];exact z⟩
  ·obtain⟨u,k1,k2⟩:=sr.at' j t z
   refine⟨u,k1,?_⟩
   by_cases c:∃φ,t=.pot φ
   ·obtain⟨φ,rfl⟩:=c
    have ji:j≠i:=fun y=>by subst y;rw [hs] at z;cases z
    rcases k2 with⟨v,y,_⟩ | ⟨b,rfl,_⟩
    ·cases y
    ·obtain⟨vs,y1,y2⟩:=s1.ownAt (t:=.pot φ) (i:=j) (by rw [get_set_other ji];exact z) rfl k1
     refine .inr ⟨b,rfl,vs,?_,y2⟩
     rw [upd_ne (fun y=>by subst y;exact npa φ ⟨j,z,k1⟩)];exact y1
   ·refine k2.mono (ge.tups sr) (fun x b o eb ow hb zz=>ge.keep b o zz fun φ ⟨j',p1,p3⟩=>?_)
    subst eb
    have:=sr.nd j j' t _ x b b z p1 ow rfl k1 p3 hb (.inl rfl)
    subst this
    rw [z] at p1
    cases p1
    exact c ⟨φ,rfl⟩
  ·rw [upd_ne (fun y=>by subst y;rw [e2] at z;cases z)];exact z
end
end FL
set_option Elab.async false
set_option linter.all false
set_option maxRecDepth 100000
namespace FL
open PySem PySem.Spec PyProof.Rows L2 PL
variable {K:PySem.W.Frag}
def spFO (K:PySem.W.Frag) (m:List PV→List PV→W (PV×List PV)):Sp:=fun vs H Q _=>∃a vs' ws lo l,vs=.ref a::vs'∧H a=some (.lst ws)∧VRs K [] H ws lo∧VRs K [] H vs' l∧(m lo l).run fun t=>∀u ws' H',SameX a H H'→(∀b,H' b=none→H b=none)→H' a=some (.lst ws')→VRs K [] H' ws' t.2→VR K [] H' u t.1→Q u H'
section
variable {P:Program}{w:World}{mg:Str→Option Value}{base:Heap}{x qual:Str}{st:Stmt}{f:Addr}{fd:FuncData}{N ps:List Str}{k n:Nat}{ks:List AK}
def begO (a:Addr) (lo l:List PV) (n:Nat):FSt:=some (.ol (some a) lo)::(l.map fun v=>some (SL.val v))++List.replicate (n-1-l.length) none
theorem VRs.slot {H:Hp}{vs:List V}{l:List PV} (r:VRs K [] H vs l) {i:Nat}{s:SL} (h:(l.map fun v=>some (SL.val v))[i]?=some (some s)):∃u v,vs[i]?=some u∧s=.val v∧VR K [] H u v:=by
 rw [List.getElem?_map] at h
 cases e:l[i]? with
 | none=>rw [e] at h;cases h
 | some v=>
  rw [e] at h
  obtain⟨u,h1,h2⟩:=r.get e
  cases h
  exact⟨u,v,h1,rfl,h2⟩
theorem fnO {m:List PV→Cur (PV×List PV) n} (Fn:Fun K x qual st f fd) (S:FnScope N ps (defScope st)) (hn:n+1=ps.length)
  (cert:∀(a:Addr) (lo l:List PV),l.length=n→∀(cdv:Value) (A:Around) (outer:List Env) (s:Shared) (H:Hp) (E:XK),Room k (A.deeper (envOfC qual (defScope st) s.heap.objs.size f cdv))→SF (cxOf CX0 P w K mg base N qual (defScope st) f cdv A outer s H E).nox K false (begO a lo l N.length) (defBody st) (unc n (m lo) l) fun t=>.ro t.1 a t.2) :
  FnOk P w K mg base CX0 (k+1) f fd ps (spFO K fun lo l=>unc n (m lo) l):=by
 refine Fn.ok S (fun vs H Q E h=>?_) (fun cdv A outer s H vs Q E hr h=>?_)
 ·obtain⟨a,vs',ws,lo,l,rfl,_,_,r,q⟩:=h
  rw [List.length_cons,r.length,unc_len q];exact hn
 obtain⟨a,vs',ws,lo,l,rfl,ha,rw',r,q⟩:=h
 have hl:=unc_len q
 have hr2:=r.length
 have getS:∀{i:Nat}{s:SL},(begO a lo l N.length)[i]?=some (some s)→(i=0∧s=.ol (some a) lo)∨∃j u v,i=j+1∧vs'[j]?=some u∧s=.val v∧VR K [] H u v:=fun {i s} e=>by
  unfold begO at e
  cases i with
  | zero=>simp at e;exact .inl ⟨rfl,e.symm⟩
  | succ j=>
   rw [List.cons_append,List.getElem?_cons_succ] at e
   by_cases c:j < l.length
   ·rw [List.getElem?_append_left (by simpa using c)] at e
    obtain⟨u,v,h1,h2,h3⟩:=VRs.slot r e
    exact .inr ⟨j,u,v,rfl,h1,h2,h3⟩
   ·rw [List.getElem?_append_right (by simpa using c),List.getElem?_replicate] at e
    split at e <;> cases e
 have sr:SRf K H (L2.start N (.ref a::vs')) (begO a lo l N.length):=by
  refine⟨?_,fun i s e=>?_,fun i j s t x y b e1 e2 o1 o2 q1 q2 _ _=>?_⟩
  ·unfold L2.start begO
   rw [List.length_append,List.length_map,List.length_replicate,List.length_append,List.length_cons,List.length_cons,List.length_map,List.length_replicate]
   omega
  ·rcases getS e with⟨rfl,rfl⟩ | ⟨j,u,v,rfl,h1,rfl,h3⟩
   ·exact⟨.ref a,start_get rfl,.inr ⟨a,rfl,fun b z=>Option.some.inj z,ws,ha,rw'⟩⟩
   ·exact⟨u,start_get (by simpa using h1),.inl ⟨v,rfl,h3⟩⟩
  ·rcases getS e1 with⟨rfl,rfl⟩ | ⟨j1,u,v,rfl,h1,rfl,h3⟩
   ·rcases getS e2 with⟨rfl,rfl⟩ | ⟨j1,u,v,rfl,h1,rfl,h3⟩
    ·rfl
    ·cases o2
   ·cases o1
 refine⟨_,(cert a lo l hl cdv A outer s H E hr).p,sr,(unc n (m lo) l).mono (fun t q1 u σ' fs' H' g s' ho rv=>?_) q⟩
 obtain⟨i,e⟩:=ho
 obtain⟨u',e',r'⟩:=s'.at' i _ e
 rcases r' with⟨v,z,_⟩ | ⟨b,rfl,hb,ws',h1,h2⟩
 ·cases z
 have hba:=hb a rfl
 subst hba
 refine q1 u ws' H' (fun c o nc e=>(g.keep c o e fun z=>?_).1) g.there h1 h2 rv
 obtain⟨j,t',x,z1,z2,z3,z4⟩:=z
 rcases getS z1 with⟨rfl,rfl⟩ | ⟨j1,u,v,rfl,_,rfl,_⟩
 ·have:=start_inv z3
  simp at this
  rcases z4 with rfl | z4
  ·exact nc this.symm
  ·cases z4
 ·cases z2
def PotP (G:List Int→Prop):List V→Prop:=fun ws=>∃ns:List Int,ws=ns.map V.int∧G ns
theorem pot_fn {G:List Int→Prop}{m:List PV→List PV→W (PV×List PV)}{mp:List PV→W PV} (F:FnOk P w K mg base CX0 k f fd ps (spFO K m)) (hm:∀ns l Q,G ns→(mp l).run Q→(m (ns.map PV.int) l).run fun t=>Q t.1∧∃ns':List Int,t.2=ns'.map PV.int∧G ns') :
  FnOk P w K mg base CX0 k f fd ps (spF K (.p (PotP G)::List.replicate n .v) mp):=F.imp fun vs H Q E h=>by
 obtain⟨l,ha,q⟩:=h
 cases ha with
 | @p a φ ws vs ks l e r t=>
  obtain⟨ns,rfl,hG⟩:=r
  have tv:∀{n:Nat}{vs:List V}{l:List PV},ArgC K H vs (List.replicate n .v) l→VRs K [] H vs l:=by
   intro n
   induction n with
   | zero=>intro vs l h;cases h;exact .nil
   | succ n ih=>intro vs l h;cases h with | v r t=>exact .cons r (ih t)
  refine⟨a,vs,ns.map V.int,ns.map PV.int,l,rfl,e,ints_vr _ _ ns,tv t,(m _ _).mono (fun t q1 u ws' H' sx hth e' r' rv=>?_) (hm ns l _ hG q)⟩
  obtain⟨q1,ns',et,hG'⟩:=q1
  rw [et] at r'
  have:=ints_vs r'
  subst this
  refine q1 u H' ⟨fun b o eb nb=>sx b o (fun z=>?_) eb,hth,fun b φ p=>?_⟩ rv
  ·subst z
   exact nb _ ⟨0,rfl,rfl⟩
  ·obtain⟨i,e1,e2⟩:=p
   cases i with
   | zero=>simp at e1 e2;subst e1;subst e2;exact⟨_,e',ns',rfl,hG'⟩
   | succ i=>
    simp at e1
    rw [List.getElem?_replicate] at e1
    split at e1 <;> simp at e1
end
section
variable {X:Cx}{sts:List Stmt}{fs:FSt}{T:Type}{w:W T}{out:T→End}{x:Bool}
def potW (G:List Int→Prop) (l:List PV) (w:W T):W T:=.chk (∃ns:List Int,l=ns.map PV.int∧G ns) w
theorem SF.pot (i:Nat) {l:List PV}{G:List Int→Prop} (hs:fs[i]?=some (some (.ol none l))) (hr:SF X K x (fs.set i (some (.pot (PotP G)))) sts w out):SF X K x fs sts (potW G l w) out:=⟨fun pins s σ H D I ⟨sr,q⟩=>by
 obtain⟨⟨ns,el,hG⟩,q⟩:=q
 obtain⟨a,ws,e1,h1,r1⟩:=own_at sr hs
 subst el
 have:=ints_vs r1
 subst this
 obtain⟨s2,g2⟩:=own_change (t':=.pot (PotP G)) sr hs rfl (by simp) e1 (fun _ _ _ z=>z:SameX a H H) fun tk=>⟨_,h1,ns,rfl,hG⟩
 exact hr.p pins s σ H D I ⟨s2,w.mono (fun t q2=>q2.go g2 sr s2) q⟩⟩
end
end FL
set_option Elab.async false
set_option linter.all false
set_option maxRecDepth 100000
namespace FL
open PySem PySem.Spec PyProof.Rows L2 PL
variable {K:PySem.W.Frag}
abbrev andB (wa wb:W PV):W PV:=.bind wa fun x=>andW x wb
abbrev orB (wa wb:W PV):W PV:=.bind wa fun x=>orW x wb
abbrev frzB (wl:W (List PV)):W PV:=.bind wl fun l=>.ret (.cl l)
abbrev lcB (t:W Bool) (w:W PV):W (Option PV):=.bind t fun k=>if k=true then .bind w fun v=>.ret (some v) else .ret none
section
variable {X:Cx}{a b c e o elt tg iter:Expr}{es:List Expr}{pos p p2:Pos}{fs:FSt}{k k' n:Nat}{ps:List Str}{x:Str}{ks:List AK}{R:Type}{W':W PV}{WL:W (List PV)}
theorem e_callx {m:List PV→W PV}{B:(List PV→W PV)→W PV} (G:Cal X.prog X.w X.K X.mg X.base x k ps (spF K ks m)) (hr:Room k' X.A) (hk:k≤k') (hg:Gl X x) (ha:AF X K fs (e::es) ks B) (hW:W'=B m) (hdb:(x==("__debug__":Str))=false:=by decide)
  (he:starEach (e::es) X.env=(false,eval e X.env)::starEach es X.env:=by rfl) (hpl:(backTo pos (starEach es X.env)).any (·.1)=false:=by rfl):EF X K fs (.Call (.Name x p) (e::es) [] pos) W':=hW▸e_call G hr hk hg ha hdb he hpl
theorem l_callx {m:List PV→W (List PV)}{B:(List PV→W (List PV))→W (List PV)} (G:Cal X.prog X.w X.K X.mg X.base x k ps (spFL K ks m)) (hr:Room k' X.A) (hk:k≤k') (hg:Gl X x) (ha:AF X K fs (e::es) ks B) (hW:WL=B m) (hdb:(x==("__debug__":Str))=false:=by decide)
  (he:starEach (e::es) X.env=(false,eval e X.env)::starEach es X.env:=by rfl) (hpl:(backTo pos (starEach es X.env)).any (·.1)=false:=by rfl):LF X K fs (.Call (.Name x p) (e::es) [] pos) WL:=hW▸l_call G hr hk hg ha hdb he hpl
theorem e_tupx {x1}{B:(List PV→W PV)→W PV} (h:AF X K fs es (List.replicate n .v) B) (hW:W'=B fun l=>.ret (.tup l)) (hn:n≤1000:=by decide):EF X K fs (.Tuple es x1 pos) W':=hW▸e_tup h hn
theorem l_lstx {B:(List PV→W (List PV))→W (List PV)} (h:AF X K fs es (List.replicate n .v) B) (hW:WL=B fun l=>.ret l) (hn:n≤1000:=by decide):LF X K fs (.List es pos) WL:=hW▸l_lst h hn
variable {ifs:List Expr}{sc:Scope}{N':List Str}{ix:List (Option Nat)}{wl:W (List PV)}{T2:Type}{wt:PV→W T2}{is:List Nat}{fs2:T2→FSt}{tf:T2→W Bool}{te:T2→W PV}
theorem l_map1 {i:Nat}{f:PV→W PV} (hc:X.calm=true) (S:LcScope X.env.scope X.N sc N' ix) (hi:ITF X K fs tg iter wl) (hg:∀cl C s2 H2 fp,PG (blk X sc N' cl C s2 H2 fp) tg (gName i)) (he:∀cl C s2 H2 fp t,EF (blk X sc N' cl C s2 H2 fp) K ((blkF ix fs).set i (some (.val t))) elt (f t)) (h0:ix[i]?=some none) (hs:∀x,foldedSetIterable iter X.env x=pure x:=by intro _;rfl) :
  LF X K fs (.ListComp elt [⟨tg,iter,[],0⟩] sc pos) (.bind wl fun l=>mapW l f):=
 have h1:(blkF ix fs)[i]?=some none:=by unfold blkF;rw [List.getElem?_map,h0];rfl
 l_map hc S hi (fun cl C s2 H2 fp=>g_1 (hg cl C s2 H2 fp)) he (fun _=>rfl) (lay1 h1) (fun j hj=>by rw [List.mem_singleton] at hj;subst hj;exact h0) hs
theorem l_lc1 {i:Nat}{tf:PV→W Bool}{te:PV→W PV} (hc:X.calm=true) (S:LcScope X.env.scope X.N sc N' ix) (hi:ITF X K fs tg iter wl) (hg:∀cl C s2 H2 fp,PG (blk X sc N' cl C s2 H2 fp) tg (gName i)) (hf:∀cl C s2 H2 fp t,TF (blk X sc N' cl C s2 H2 fp) K ((blkF ix fs).set i (some (.val t))) c (tf t)) (he:∀cl C s2 H2 fp t,EF (blk X sc N' cl C s2 H2 fp) K ((blkF ix fs).set i (some (.val t))) elt (te t)) (h0:ix[i]?=some none) (hs:∀x,foldedSetIterable iter X.env x=pure x:=by intro _;rfl) :
  LF X K fs (.ListComp elt [⟨tg,iter,[c],0⟩] sc pos) (.bind wl fun l=>lcW l fun p=>lcB (tf p) (te p)):=
 have h1:(blkF ix fs)[i]?=some none:=by unfold blkF;rw [List.getElem?_map,h0];rfl
 l_lc (wt:=.ret) (tf:=tf) (te:=te) hc S hi (fun cl C s2 H2 fp=>g_1 (hg cl C s2 H2 fp)) (fun cl C s2 H2 fp t=>ff_one (hf cl C s2 H2 fp t)) he (fun _=>rfl) (lay1 h1) (fun j hj=>by rw [List.mem_singleton] at hj;subst hj;exact h0) hs
theorem l_mapT (hc:X.calm=true) (S:LcScope X.env.scope X.N sc N' ix) (hi:ITF X K fs tg iter wl) (hg:∀cl C s2 H2 fp,GF (blk X sc N' cl C s2 H2 fp) K (blkF ix fs) tg is wt fs2) (he:∀cl C s2 H2 fp t,EF (blk X sc N' cl C s2 H2 fp) K (fs2 t) elt (te t))
  (hl:Lay2 is (blkF ix fs) fs2∧∀t,LeF (fs2 t) (blkF ix fs)) (hin:∀j∈is,ix[j]?=some none) (hs:∀x,foldedSetIterable iter X.env x=pure x:=by intro _;rfl) :
  LF X K fs (.ListComp elt [⟨tg,iter,[],0⟩] sc pos) (.bind wl fun l=>mapW l fun p=>.bind (wt p) te):=l_map hc S hi hg he (fun _=>rfl) hl hin hs
theorem l_lcT (hc:X.calm=true) (S:LcScope X.env.scope X.N sc N' ix) (hi:ITF X K fs tg iter wl) (hg:∀cl C s2 H2 fp,GF (blk X sc N' cl C s2 H2 fp) K (blkF ix fs) tg is wt fs2) (hf:∀cl C s2 H2 fp t,TF (blk X sc N' cl C s2 H2 fp) K (fs2 t) c (tf t)) (he:∀cl C s2 H2 fp t,EF (blk X sc N' cl C s2 H2 fp) K (fs2 t) elt (te t))
  (hl:Lay2 is (blkF ix fs) fs2∧∀t,LeF (fs2 t) (blkF ix fs)) (hin:∀j∈is,ix[j]?=some none) (hs:∀x,foldedSetIterable iter X.env x=pure x:=by intro _;rfl) :
  LF X K fs (.ListComp elt [⟨tg,iter,[c],0⟩] sc pos) (.bind wl fun l=>lcW l fun p=>.bind (wt p) fun t=>lcB (tf t) (te t)):=l_lc hc S hi hg (fun cl C s2 H2 fp t=>ff_one (hf cl C s2 H2 fp t)) he (fun _=>rfl) hl hin hs
variable {rest:List Stmt}{T:Type}{out:T→End}{x0:Bool}{kk:List PV→W T}{i:Nat}{y:Str}{px spos:Pos}
theorem map_lc0 {wt:PV→W T2}{te:T2→W PV}:(fun l=>mapW l fun p=>.bind (wt p) te)=fun l=>lcW l fun p=>.bind (wt p) fun t=>.bind (.ret true) fun k=>if k=true then .bind (te t) fun v=>.ret (some v) else .ret none:=funext fun l=>by
 rw [mapW_lc]
 rfl
theorem SF.setmapT (hc:X.calm=true) (hN:X.N.Nodup) (hi':X.N[i]?=some y) (hx:X.env.scope.names.lookup y=some .local) (S:LcScope X.env.scope X.N sc N' ix) (hi:ITF X K fs tg iter wl) (hg:∀cl C s2 H2 fp,GF (blk X sc N' cl C s2 H2 fp) K (blkF ix fs) tg is wt fs2) (he:∀cl C s2 H2 fp t,EF (blk X sc N' cl C s2 H2 fp) K (fs2 t) elt (te t))
  (hl:Lay2 is (blkF ix fs) fs2∧∀t,LeF (fs2 t) (blkF ix fs)) (hin:∀j∈is,ix[j]?=some none) (hr:∀l,SF X K x0 (fs.set i (some (.ol none l))) rest (kk l) out)
  (hsw:swapsWith (.ListComp elt [⟨tg,iter,[],0⟩] sc pos) (some (.Name y px)) spos.line X.env=pure true:=by rfl) (hs:∀x,foldedSetIterable iter X.env x=pure x:=by intro _;rfl) :
  SF X K x0 fs (.Assign [.Name y px] (.ListComp elt [⟨tg,iter,[],0⟩] sc pos) spos::rest) (.bind (.bind wl fun l=>mapW l fun p=>.bind (wt p) te) kk) out:=by
 rw [map_lc0]
 exact SF.setlc (tf:=fun _=>.ret true) hc hN hi' hx S hi hg (fun _ _ _ _ _ _=>ff_nil) he (fun p=>rfl) hl hin hr hsw hs
theorem SF.setmap1 {j:Nat}{f:PV→W PV} (hc:X.calm=true) (hN:X.N.Nodup) (hi':X.N[i]?=some y) (hx:X.env.scope.names.lookup y=some .local) (S:LcScope X.env.scope X.N sc N' ix) (hi:ITF X K fs tg iter wl) (hg:∀cl C s2 H2 fp,PG (blk X sc N' cl C s2 H2 fp) tg (gName j)) (he:∀cl C s2 H2 fp t,EF (blk X sc N' cl C s2 H2 fp) K ((blkF ix fs).set j (some (.val t))) elt (f t)) (h0:ix[j]?=some none) (hr:∀l,SF X K x0 (fs.set i (some (.ol none l))) rest (kk l) out)
  (hsw:swapsWith (.ListComp elt [⟨tg,iter,[],0⟩] sc pos) (some (.Name y px)) spos.line X.env=pure true:=by rfl) (hs:∀x,foldedSetIterable iter X.env x=pure x:=by intro _;rfl) :
  SF X K x0 fs (.Assign [.Name y px] (.ListComp elt [⟨tg,iter,[],0⟩] sc pos) spos::rest) (.bind (.bind wl fun l=>mapW l f) kk) out:=
 have h1:(blkF ix fs)[j]?=some none:=by unfold blkF;rw [List.getElem?_map,h0];rfl
 SF.setmapT (wt:=.ret) hc hN hi' hx S hi (fun cl C s2 H2 fp=>g_1 (hg cl C s2 H2 fp)) he (lay1 h1) (fun m hj=>by rw [List.mem_singleton] at hj;subst hj;exact h0) hr hsw hs
end
theorem fn_no {P:Program}{w:World}{mg:Str→Option Value}{base:Heap}{f:Addr}{fd:FuncData}{ps:List Str}{k:Nat}{sp:Sp} (h:∀vs H Q E,¬sp vs H Q E):FnOk P w K mg base CX0 k f fd ps sp:=⟨fun vs H Q E q=>(h _ _ _ _ q).elim,fun A outer s H args us vs Q E _ _ _ _ q=>(h _ _ _ _ q).elim⟩
theorem spF_no {ks:List AK}{n:Nat}{m:Cur PV n} (h:∀l Q,l.length=n→¬(unc n m l).run Q):∀vs H Q E,¬spF K ks (unc n m) vs H Q E:=fun vs H Q E ⟨l,_,q⟩=>h l _ (unc_len q) q
theorem spFL_no {ks:List AK}{n:Nat}{m:Cur (List PV) n} (h:∀l Q,l.length=n→¬(unc n m l).run Q):∀vs H Q E,¬spFL K ks (unc n m) vs H Q E:=fun vs H Q E ⟨l,_,q⟩=>h l _ (unc_len q) q
theorem room_u {k:Nat}{A:Around} (hr:Room k A):A.units+200 < cLine:=by have:=hr.un;omega
end FL
set_option Elab.async false
set_option linter.all false
set_option maxRecDepth 100000
set_option maxHeartbeats 4000000
namespace FL
open PySem PySem.Spec PyProof.Rows L2 PL
variable {K:PySem.W.Frag}
mutual
def PV.fok:PV→Bool
 | .tup l=>fokL l
 | .cl l=>fokL l
 | .ref _=>false
 | .ty _=>false
 | .dv _ _=>false
 | _=>true
def fokL:List PV→Bool
 | []=>true
 | x::l=>PV.fok x&&fokL l
end
mutual
def PV.fdep:PV→Nat
 | .tup l=>fdepL l+1
 | .cl l=>fdepL l+1
 | _=>0
def fdepL:List PV→Nat
 | []=>0
 | x::l=>max (PV.fdep x) (fdepL l)
end
mutual
def feq:PV→PV→Bool
 | .non,.non=>true
 | .bl a,.bl b=>a==b
 | .bl a,.int b=>(if a then 1 else 0)==b
 | .int a,.bl b=>a==(if b then 1 else 0)
 | .int a,.int b=>a==b
 | .str a,.str b=>a==b
 | .tup l,.tup m=>feqs l m
 | .cl l,.cl m=>feqs l m
 | _,_=>false
def feqs:List PV→List PV→Bool
 | [],[]=>true
 | x::l,y::m=>feq x y&&feqs l m
 | _,_=>false
end
theorem fokL_get:∀{l:List PV}{j:Nat}{x:PV},fokL l=true→l[j]?=some x→PV.fok x=true
 | [],_,_,_,e=>by simp at e
 | y::l,0,x,h,e=>by
  simp at e;subst e
  rw [fokL,Bool.and_eq_true] at h;exact h.1
 | y::l,j+1,x,h,e=>by
  rw [fokL,Bool.and_eq_true] at h
  exact fokL_get h.2 (by simpa using e)
theorem fdepL_get:∀{l:List PV}{j:Nat}{x:PV},l[j]?=some x→PV.fdep x≤fdepL l
 | [],_,_,e=>by simp at e
 | y::l,0,x,e=>by
  simp at e;subst e
  rw [fdepL];omega
 | y::l,j+1,x,e=>by
  have:=fdepL_get (l:=l) (j:=j) (x:=x) (by simpa using e)
  rw [fdepL];omega
mutual
theorem feq_refl:∀(x:PV),PV.fok x=true→feq x x=true
 | .non,_=>by rw [feq]
 | .bl b,_=>by rw [feq];simp
 | .int i,_=>by rw [feq];simp
 | .str i,_=>by rw [feq];simp
 | .tup l,h=>by rw [feq];exact feqs_refl l (by rw [PV.fok] at h;exact h)
 | .cl l,h=>by rw [feq];exact feqs_refl l (by rw [PV.fok] at h;exact h)
 | .ref _,h=>by rw [PV.fok] at h;cases h
 | .ty _,h=>by rw [PV.fok] at h;cases h
 | .dv _ _,h=>by rw [PV.fok] at h;cases h
theorem feqs_refl:∀(l:List PV),fokL l=true→feqs l l=true
 | [],_=>by rw [feqs]
 | x::l,h=>by
  rw [fokL,Bool.and_eq_true] at h
  rw [feqs,feq_refl x h.1,feqs_refl l h.2];rfl
end
def eqJF (l m:List PV) (j:Nat):Bool:=match l[j]?,m[j]? with | some x,some y=>feq x y | _,_=>true
theorem feqs_all:∀(l m:List PV),((List.range (min l.length m.length)).all (eqJF l m)&&l.length==m.length)=feqs l m
 | [],[]=>by rw [feqs];rfl
 | [],_::_=>by
  rw [feqs]
  ·simp
  ·intros;simp_all
  ·intros;simp_all
 | _::_,[]=>by
  rw [feqs]
  ·simp
  ·intros;simp_all
  ·intros;simp_all
 | x::l,y::m=>by
  rw [feqs,← feqs_all l m]
  have e:min (x::l).length (y::m).length=min l.length m.length+1:=by simp only [List.length_cons];omega
  rw [e,List.range_succ_eq_map,List.all_cons,List.all_map]
  have e2:((x::l).length==(y::m).length)=(l.length==m.length):=by simp
  rw [e2,Bool.and_assoc]
  rfl
theorem feqs_len {l m:List PV} (h:l.length≠m.length):feqs l m=false:=by
 rw [← feqs_all]
 have:(l.length==m.length)=false:=by simpa using h
 rw [this,Bool.and_false]
section
variable {X:Cx}{pins:List (Addr×Obj)}{σ:L2.St}{H:Hp}{s:Shared}
mutual
theorem VR.fnI (I:Inv X pins σ H s):∀{v:V}{x y:PV},VR X.K [] H v x→VR X.K [] H v y→x=y
 | _,_,_,.non,h=>by cases h;rfl
 | _,_,_,.bl b,h=>by cases h;rfl
 | _,_,_,.int b,h=>by cases h;rfl
 | _,_,_,.str b,h=>by cases h;rfl
 | _,_,_,.ty b,h=>by cases h;rfl
 | _,_,_,.ref e,h=>by simp at e
 | _,_,_,.tup e r,h=>by
  cases h with
  | tup e' r'=>
   have ee:=I.tuple_inj (SqT.of e) (SqT.of e')
   subst ee
   rw [VRs.fnI I r r']
  | ref e=>simp at e
  | cl e' r'=>
   obtain⟨its,_,⟨o,n,h1,h2,_⟩,_⟩:=I.list e'.sq
   obtain⟨its',_,⟨o',h1',h2',_⟩,_⟩:=I.tuple (SqT.of e)
   rw [h1] at h1';cases h1';rw [h2] at h2';simp at h2'
  | dk e' _ _=>rw [e] at e';cases e'
  | dt e' _ _=>rw [e] at e';cases e'
 | _,_,_,.dk e k r,h=>by
  cases h with
  | dk e' k' r'=>rw [e] at e';cases e';rw [k,k',VRs.fnI I r r']
  | dt e' _ _=>rw [e] at e';cases e'
  | ref e=>simp at e
  | tup e' _=>rw [e] at e';cases e'
  | cl e' r'=>
   obtain⟨its,_,⟨o,n,h1,h2,_⟩,_⟩:=I.list e'.sq
   obtain⟨_,_,vs,_,o',_,_,h1',h2',_⟩:=dk_rd I.hok (.inr ⟨_,e⟩)
   rw [h1] at h1';cases h1';have h3:=h2'.1;rw [h2] at h3;simp at h3
 | _,_,_,.dt e k r,h=>by
  cases h with
  | dt e' k' r'=>rw [e] at e';cases e';rw [k,k',VRs.fnI I r r']
  | dk e' _ _=>rw [e] at e';cases e'
  | ref e=>simp at e
  | tup e' _=>rw [e] at e';cases e'
  | cl e' r'=>
   obtain⟨its,_,⟨o,n,h1,h2,_⟩,_⟩:=I.list e'.sq
   obtain⟨_,_,vs,_,o',_,_,h1',h2',_⟩:=dt_rd I.hok (.inr ⟨_,e⟩)
   rw [h1] at h1';cases h1';have h3:=h2'.1;rw [h2] at h3;simp at h3
 | _,_,_,.cl e r,h=>by
  cases h with
  | dk e' _ _=>
   obtain⟨its,_,⟨o,n,h1,h2,_⟩,_⟩:=I.list e.sq
   obtain⟨_,_,vs,_,o',_,_,h1',h2',_⟩:=dk_rd I.hok (.inr ⟨_,e'⟩)
   rw [h1] at h1';cases h1';have h3:=h2'.1;rw [h2] at h3;simp at h3
  | dt e' _ _=>
   obtain⟨its,_,⟨o,n,h1,h2,_⟩,_⟩:=I.list e.sq
   obtain⟨_,_,vs,_,o',_,_,h1',h2',_⟩:=dt_rd I.hok (.inr ⟨_,e'⟩)
   rw [h1] at h1';cases h1';have h3:=h2'.1;rw [h2] at h3;simp at h3
  | cl e' r'=>
   obtain⟨its,k,⟨o,n,h1,h2,h3,h4⟩,_⟩:=I.list e.sq
   obtain⟨its',k',⟨o',n',h1',h2',h3',h4'⟩,_⟩:=I.list e'.sq
   rw [h1] at h1';cases h1'
   rw [h4] at h4'
   have:its=its':=by injection h4' with a b;simpa using a
   subst this
   have ee:=Vals.inj k k'
   subst ee
   rw [VRs.fnI I r r']
  | ref e=>simp at e
  | tup e' r'=>
   obtain⟨its,_,⟨o,n,h1,h2,_⟩,_⟩:=I.list e.sq
   obtain⟨its',_,⟨o',h1',h2',_⟩,_⟩:=I.tuple (SqT.of e')
   rw [h1] at h1';cases h1';rw [h2] at h2';simp at h2'
theorem VRs.fnI (I:Inv X pins σ H s):∀{v:List V}{x y:List PV},VRs X.K [] H v x→VRs X.K [] H v y→x=y
 | _,_,_,.nil,h=>by cases h;rfl
 | _,_,_,.cons r t,h=>by
  cases h with
  | cons r' t'=>rw [VR.fnI I r r',VRs.fnI I t t']
end
structure Cmp (A:Around) (s:Shared) (w w':Value) (b:Bool):Prop where
 rc:SeqAt.RcAt A s w w' b
 ne:SeqAt.RcNeAt A s w w' (!b)
 eq:SeqAt.EqAt A s w w' b
theorem elemF (I:Inv X pins σ H s) {A:Around}{vs ws:List V}{l m:List PV}{its its':List Value} (r:Vals vs its) (r':Vals ws its') (r1:VRs X.K [] H vs l) (r2:VRs X.K [] H ws m)
  (ih:∀(j:Nat) (x y:PV) (v v':V) (w w':Value),l[j]?=some x→m[j]?=some y→VR X.K [] H v x→VR X.K [] H v' y→RelV v w→RelV v' w'→SeqAt.EqAt A s w w' (feq x y)) :
  ∀j (g1:j < its.toArray.size) (g2:j < its'.toArray.size),SeqAt.EqAt A s its.toArray[j] its'.toArray[j] (eqJF l m j):=fun j g1 g2=>by
 have h1:j < its.length:=by simpa using g1
 have h2:j < its'.length:=by simpa using g2
 have hl:j < l.length:=by rw [← r1.length,r.length];exact h1
 have hm:j < m.length:=by rw [← r2.length,r'.length];exact h2
 obtain⟨v,v1,v2⟩:=r1.get (List.getElem?_eq_getElem hl)
 obtain⟨v',v1',v2'⟩:=r2.get (List.getElem?_eq_getElem hm)
 obtain⟨u,u1,u2⟩:=r.get v1
 obtain⟨u',u1',u2'⟩:=r'.get v1'
 rw [List.getElem?_eq_getElem h1] at u1
 rw [List.getElem?_eq_getElem h2] at u1'
 cases u1
 cases u1'
 unfold eqJF
 rw [List.getElem?_eq_getElem hl,List.getElem?_eq_getElem hm]
 have:=ih j _ _ v v' _ _ (List.getElem?_eq_getElem hl) (List.getElem?_eq_getElem hm) v2 v2' u2 u2'
 simpa using this
theorem cmpF (hK:X.K=K) (I:Inv X pins σ H s):∀(n:Nat) (x y:PV) (A:Around) (v v':V) (w w':Value),PV.fdep x≤n→PV.fok x=true→PV.fok y=true→VR K [] H v x→VR K [] H v' y→RelV v w→RelV v' w'→A.units+n+1 < cLine→Cmp A s w w' (feq x y):=by
 subst hK
 intro n
 induction n with
 | zero=>
  intro x y A v v' w w' hd dx dy hv hv' r1 r2 hu
  cases hv with
  | ref e=>simp at e
  | ty e=>rw [PV.fok] at dx;cases dx
  | dk _ _ _=>rw [PV.fok] at dx;cases dx
  | dt _ _ _=>rw [PV.fok] at dx;cases dx
  | non=>
   cases r1
   cases hv' with
   | ref e=>simp at e
   | ty e=>rw [PV.fok] at dy;cases dy
   | dk _ _ _=>rw [PV.fok] at dy;cases dy
   | dt _ _ _=>rw [PV.fok] at dy;cases dy
   | non=>
    cases r2
    rw [feq]
    exact⟨SeqAt.RcAt.none_none ,SeqAt.RcNeAt.none_none ,SeqAt.EqAt.same _⟩
   | bl b=>
    cases r2
    rw [feq] <;> try (intros;simp_all;done)
    exact⟨SeqAt.RcAt.none_bool b,SeqAt.RcNeAt.none_bool b,SeqAt.EqAt.none_bool b⟩
   | int b=>
    obtain⟨t,rfl⟩:=r2
    rw [feq] <;> try (intros;simp_all;done)
    exact⟨SeqAt.RcAt.none_int b t,SeqAt.RcNeAt.none_int b t,SeqAt.EqAt.none_int b t⟩
   | str b=>
    obtain⟨t,rfl⟩:=r2
    rw [feq] <;> try (intros;simp_all;done)
    exact⟨SeqAt.RcAt.none_str b t,SeqAt.RcNeAt.none_str b t,SeqAt.EqAt.none_str b t⟩
   | @tup pb ws m e2 r2'=>
    cases r2
    obtain⟨its2,k2,ht2,_⟩:=I.tuple (SqT.of e2)
    rw [feq] <;> try (intros;simp_all;done)
    exact⟨SeqAt.RcAt.none_tuple ht2 (by omega),SeqAt.RcNeAt.none_tuple ht2 (by omega),SeqAt.EqAt.none_tuple ht2 (by omega)⟩
   | @cl pb ws m e2 r2'=>
    cases r2
    obtain⟨its2,k2,pl2,_⟩:=I.list e2.sq
    have ht2:=pl2.isList
    rw [feq] <;> try (intros;simp_all;done)
    exact⟨SeqAt.RcAt.none_list ht2 (by omega),SeqAt.RcNeAt.none_list ht2 (by omega),SeqAt.EqAt.none_list ht2 (by omega)⟩
  | bl a=>
   cases r1
   cases hv' with
   | ref e=>simp at e
   | ty e=>rw [PV.fok] at dy;cases dy
   | dk _ _ _=>rw [PV.fok] at dy;cases dy
   | dt _ _ _=>rw [PV.fok] at dy;cases dy
   | non=>
    cases r2
    rw [feq] <;> try (intros;simp_all;done)
    exact⟨SeqAt.RcAt.bool_none a,SeqAt.RcNeAt.bool_none a,SeqAt.EqAt.bool_none a⟩
   | bl b=>
    cases r2
    rw [feq]
    exact⟨SeqAt.RcAt.bool_bool a b,SeqAt.RcNeAt.bool_bool a b,SeqAt.EqAt.bool_bool a b⟩
   | int b=>
    obtain⟨t,rfl⟩:=r2
    rw [feq]
    exact⟨SeqAt.RcAt.bool_int a b t,SeqAt.RcNeAt.bool_int a b t,SeqAt.EqAt.bool_int a b t⟩
   | str b=>
    obtain⟨t,rfl⟩:=r2
    rw [feq] <;> try (intros;simp_all;done)
    exact⟨SeqAt.RcAt.bool_str a b t,SeqAt.RcNeAt.bool_str a b t,SeqAt.EqAt.bool_str a b t⟩
   | @tup pb ws m e2 r2'=>
    cases r2
    obtain⟨its2,k2,ht2,_⟩:=I.tuple (SqT.of e2)
    rw [feq] <;> try (intros;simp_all;done)
    exact⟨SeqAt.RcAt.bool_tuple a ht2 (by omega),SeqAt.RcNeAt.bool_tuple a ht2 (by omega),SeqAt.EqAt.bool_tuple a ht2 (by omega)⟩
   | @cl pb ws m e2 r2'=>
    cases r2
    obtain⟨its2,k2,pl2,_⟩:=I.list e2.sq
    have ht2:=pl2.isList
    rw [feq] <;> try (intros;simp_all;done)
    exact⟨SeqAt.RcAt.bool_list a ht2 (by omega),SeqAt.RcNeAt.bool_list a ht2 (by omega),SeqAt.EqAt.bool_list a ht2 (by omega)⟩
  | int a=>
   obtain⟨t',rfl⟩:=r1
   cases hv' with
   | ref e=>simp at e
   | ty e=>rw [PV.fok] at dy;cases dy
   | dk _ _ _=>rw [PV.fok] at dy;cases dy
   | dt _ _ _=>rw [PV.fok] at dy;cases dy
   | non=>
    cases r2
    rw [feq] <;> try (intros;simp_all;done)
    exact⟨SeqAt.RcAt.int_none a t',SeqAt.RcNeAt.int_none a t',SeqAt.EqAt.int_none a t'⟩
   | bl b=>
    cases r2
    rw [feq]
    exact⟨SeqAt.RcAt.int_bool a t' b,SeqAt.RcNeAt.int_bool a t' b,SeqAt.EqAt.int_bool a t' b⟩
   | int b=>
    obtain⟨t,rfl⟩:=r2
    rw [feq]
    exact⟨SeqAt.RcAt.int_int a t' b t,SeqAt.RcNeAt.int_int a t' b t,SeqAt.EqAt.int_int a t' b t⟩
   | str b=>
    obtain⟨t,rfl⟩:=r2
    rw [feq] <;> try (intros;simp_all;done)
    exact⟨SeqAt.RcAt.int_str a t' b t,SeqAt.RcNeAt.int_str a t' b t,SeqAt.EqAt.int_str a t' b t⟩
   | @tup pb ws m e2 r2'=>
    cases r2
    obtain⟨its2,k2,ht2,_⟩:=I.tuple (SqT.of e2)
    rw [feq] <;> try (intros;simp_all;done)
    exact⟨SeqAt.RcAt.int_tuple a t' ht2 (by omega),SeqAt.RcNeAt.int_tuple a t' ht2 (by omega),SeqAt.EqAt.int_tuple a t' ht2 (by omega)⟩
   | @cl pb ws m e2 r2'=>
    cases r2
    obtain⟨its2,k2,pl2,_⟩:=I.list e2.sq
    have ht2:=pl2.isList
    rw [feq] <;> try (intros;simp_all;done)
    exact⟨SeqAt.RcAt.int_list a t' ht2 (by omega),SeqAt.RcNeAt.int_list a t' ht2 (by omega),SeqAt.EqAt.int_list a t' ht2 (by omega)⟩
  | str a=>
   obtain⟨t',rfl⟩:=r1
   cases hv' with
   | ref e=>simp at e
   | ty e=>rw [PV.fok] at dy;cases dy
   | dk _ _ _=>rw [PV.fok] at dy;cases dy
   | dt _ _ _=>rw [PV.fok] at dy;cases dy
   | non=>
    cases r2
    rw [feq] <;> try (intros;simp_all;done)
    exact⟨SeqAt.RcAt.str_none a t',SeqAt.RcNeAt.str_none a t',SeqAt.EqAt.str_none a t'⟩
   | bl b=>
    cases r2
    rw [feq] <;> try (intros;simp_all;done)
    exact⟨SeqAt.RcAt.str_bool a t' b,SeqAt.RcNeAt.str_bool a t' b,SeqAt.EqAt.str_bool a t' b⟩
   | int b=>
    obtain⟨t,rfl⟩:=r2
    rw [feq] <;> try (intros;simp_all;done)
    exact⟨SeqAt.RcAt.str_int a t' b t,SeqAt.RcNeAt.str_int a t' b t,SeqAt.EqAt.str_int a t' b t⟩
   | str b=>
    obtain⟨t,rfl⟩:=r2
    rw [feq]
    exact⟨SeqAt.RcAt.str_str a t' b t,SeqAt.RcNeAt.str_str a t' b t,SeqAt.EqAt.str_str a t' b t⟩
   | @tup pb ws m e2 r2'=>
    cases r2
    obtain⟨its2,k2,ht2,_⟩:=I.tuple (SqT.of e2)
    rw [feq] <;> try (intros;simp_all;done)
    exact⟨SeqAt.RcAt.str_tuple a t' ht2 (by omega),SeqAt.RcNeAt.str_tuple a t' ht2 (by omega),SeqAt.EqAt.str_tuple a t' ht2 (by omega)⟩
   | @cl pb ws m e2 r2'=>
    cases r2
    obtain⟨its2,k2,pl2,_⟩:=I.list e2.sq
    have ht2:=pl2.isList
    rw [feq] <;> try (intros;simp_all;done)
    exact⟨SeqAt.RcAt.str_list a t' ht2 (by omega),SeqAt.RcNeAt.str_list a t' ht2 (by omega),SeqAt.EqAt.str_list a t' ht2 (by omega)⟩
  | tup e r=>rw [PV.fdep] at hd;omega
  | cl e r=>rw [PV.fdep] at hd;omega
 | succ n ih=>
  intro x y A v v' w w' hd dx dy hv hv' r1 r2 hu
  cases hv with
  | ref e=>simp at e
  | ty e=>rw [PV.fok] at dx;cases dx
  | dk _ _ _=>rw [PV.fok] at dx;cases dx
  | dt _ _ _=>rw [PV.fok] at dx;cases dx
  | non=>exact ih _ y A _ v' _ w' (by simp [PV.fdep]) dx dy (.non) hv' r1 r2 (by omega)
  | bl a=>exact ih _ y A _ v' _ w' (by simp [PV.fdep]) dx dy (.bl a) hv' r1 r2 (by omega)
  | int a=>exact ih _ y A _ v' _ w' (by simp [PV.fdep]) dx dy (.int a) hv' r1 r2 (by omega)
  | str a=>exact ih _ y A _ v' _ w' (by simp [PV.fdep]) dx dy (.str a) hv' r1 r2 (by omega)
  | @tup pa vs l e r=>
   cases r1
   obtain⟨its,k1,ht,_⟩:=I.tuple (SqT.of e)
   cases hv' with
   | ref e=>simp at e
   | ty e=>rw [PV.fok] at dy;cases dy
   | dk _ _ _=>rw [PV.fok] at dy;cases dy
   | dt _ _ _=>rw [PV.fok] at dy;cases dy
   | non=>
    cases r2
    rw [feq] <;> try (intros;simp_all;done)
    exact⟨SeqAt.RcAt.tuple_none ht (by omega),SeqAt.RcNeAt.tuple_none ht (by omega),SeqAt.EqAt.tuple_none ht (by omega)⟩
   | bl b=>
    cases r2
    rw [feq] <;> try (intros;simp_all;done)
    exact⟨SeqAt.RcAt.tuple_bool b ht (by omega),SeqAt.RcNeAt.tuple_bool b ht (by omega),SeqAt.EqAt.tuple_bool b ht (by omega)⟩
   | int b=>
    obtain⟨t,rfl⟩:=r2
    rw [feq] <;> try (intros;simp_all;done)
    exact⟨SeqAt.RcAt.tuple_int b t ht (by omega),SeqAt.RcNeAt.tuple_int b t ht (by omega),SeqAt.EqAt.tuple_int b t ht (by omega)⟩
   | str b=>
    obtain⟨t,rfl⟩:=r2
    rw [feq] <;> try (intros;simp_all;done)
    exact⟨SeqAt.RcAt.tuple_str b t ht (by omega),SeqAt.RcNeAt.tuple_str b t ht (by omega),SeqAt.EqAt.tuple_str b t ht (by omega)⟩
   | @tup pb ws m e2 r2'=>
    cases r2
    obtain⟨its2,k2,ht2,_⟩:=I.tuple (SqT.of e2)
    have d1:fokL l=true:=by rw [PV.fok] at dx;exact dx
    have d2:fokL m=true:=by rw [PV.fok] at dy;exact dy
    have hd':fdepL l≤n:=by rw [PV.fdep] at hd;omega
    have ie:=elemF I (A:=A.in1) k1 k2 r r2' fun j x y v v' w w' hx hy vx vy rx ry=>(ih x y A.in1 v v' w w' (by have:=fdepL_get hx;omega) (fokL_get d1 hx) (fokL_get d2 hy) vx vy rx ry (by show A.units+1+n+1 < _;omega)).eq
    have z1:its.toArray.size=l.length:=by rw [List.size_toArray,← k1.length,r.length]
    have z2:its2.toArray.size=m.length:=by rw [List.size_toArray,← k2.length,r2'.length]
    have same:pa=pb→feqs l m=true:=fun z=>by
     subst z
     have:=VR.fnI I (VR.tup (K:=X.K) e r) (VR.tup (K:=X.K) e2 r2')
     injection this with this
     subst this
     exact feqs_refl _ d1
    have q1:=SeqAt.RcAt.tuples ht ht2 (A:=A) (by omega) ie
    have q2:=SeqAt.RcNeAt.tuples ht ht2 (A:=A) (by omega) ie
    rw [z1,z2,feqs_all] at q1 q2
    rw [feq]
    refine⟨q1,q2,?_⟩
    by_cases hab:pa=pb
    ·rw [same hab,hab];exact SeqAt.EqAt.same _
    ·exact SeqAt.EqAt.of_refs hab q1
   | @cl pb ws m e2 r2'=>
    cases r2
    obtain⟨its2,k2,pl2,_⟩:=I.list e2.sq
    have ht2:=pl2.isList
    rw [feq] <;> try (intros;simp_all;done)
    exact⟨SeqAt.RcAt.tuple_list ht ht2 (by omega),SeqAt.RcNeAt.tuple_list ht ht2 (by omega),SeqAt.EqAt.tuple_list ht ht2 (by omega)⟩
  | @cl pa vs l e r=>
   cases r1
   obtain⟨its,k1,pl,_⟩:=I.list e.sq
   have ht:=pl.isList
   cases hv' with
   | ref e=>simp at e
   | ty e=>rw [PV.fok] at dy;cases dy
   | dk _ _ _=>rw [PV.fok] at dy;cases dy
   | dt _ _ _=>rw [PV.fok] at dy;cases dy
   | non=>
    cases r2
    rw [feq] <;> try (intros;simp_all;done)
    exact⟨SeqAt.RcAt.list_none ht (by omega),SeqAt.RcNeAt.list_none ht (by omega),SeqAt.EqAt.list_none ht (by omega)⟩
   | bl b=>
    cases r2
    rw [feq] <;> try (intros;simp_all;done)
    exact⟨SeqAt.RcAt.list_bool b ht (by omega),SeqAt.RcNeAt.list_bool b ht (by omega),SeqAt.EqAt.list_bool b ht (by omega)⟩
   | int b=>
    obtain⟨t,rfl⟩:=r2
    rw [feq] <;> try (intros;simp_all;done)
    exact⟨SeqAt.RcAt.list_int b t ht (by omega),SeqAt.RcNeAt.list_int b t ht (by omega),SeqAt.EqAt.list_int b t ht (by omega)⟩
   | str b=>
    obtain⟨t,rfl⟩:=r2
    rw [feq] <;> try (intros;simp_all;done)
    exact⟨SeqAt.RcAt.list_str b t ht (by omega),SeqAt.RcNeAt.list_str b t ht (by omega),SeqAt.EqAt.list_str b t ht (by omega)⟩
   | @tup pb ws m e2 r2'=>
    cases r2
    obtain⟨its2,k2,ht2,_⟩:=I.tuple (SqT.of e2)
    rw [feq] <;> try (intros;simp_all;done)
    exact⟨SeqAt.RcAt.list_tuple ht ht2 (by omega),SeqAt.RcNeAt.list_tuple ht ht2 (by omega),SeqAt.EqAt.list_tuple ht ht2 (by omega)⟩
   | @cl pb ws m e2 r2'=>
    cases r2
    obtain⟨its2,k2,pl2,_⟩:=I.list e2.sq
    have ht2:=pl2.isList
    have d1:fokL l=true:=by rw [PV.fok] at dx;exact dx
    have d2:fokL m=true:=by rw [PV.fok] at dy;exact dy
    have hd':fdepL l≤n:=by rw [PV.fdep] at hd;omega
    have ie:=elemF I (A:=A.in1) k1 k2 r r2' fun j x y v v' w w' hx hy vx vy rx ry=>(ih x y A.in1 v v' w w' (by have:=fdepL_get hx;omega) (fokL_get d1 hx) (fokL_get d2 hy) vx vy rx ry (by show A.units+1+n+1 < _;omega)).eq
    have z1:its.toArray.size=l.length:=by rw [List.size_toArray,← k1.length,r.length]
    have z2:its2.toArray.size=m.length:=by rw [List.size_toArray,← k2.length,r2'.length]
    have same:pa=pb→feqs l m=true:=fun z=>by
     subst z
     have:=VR.fnI I (VR.cl (K:=X.K) e r) (VR.cl (K:=X.K) e2 r2')
     injection this with this
     subst this
     exact feqs_refl _ d1
    have q1:SeqAt.RcAt A s (.ref pa) (.ref pb) (feqs l m):=by
     by_cases hz:l.length=m.length
     ·have q:=SeqAt.RcAt.lists ht ht2 (by rw [z1,z2];exact hz) (A:=A) (by omega) ie
      rw [z1] at q
      rw [← feqs_all,hz,Nat.min_self,beq_self_eq_true,Bool.and_true]
      rw [hz] at q
      exact q
     ·rw [feqs_len hz]
      exact SeqAt.RcAt.lists_lengths ht ht2 (by rw [z1,z2];simpa using hz) (by omega)
    have q2:SeqAt.RcNeAt A s (.ref pa) (.ref pb) (!feqs l m):=by
     by_cases hz:l.length=m.length
     ·have q:=SeqAt.RcNeAt.lists ht ht2 (by rw [z1,z2];exact hz) (A:=A) (by omega) ie
      rw [z1] at q
      rw [← feqs_all,hz,Nat.min_self,beq_self_eq_true,Bool.and_true]
      rw [hz] at q
      exact q
     ·rw [feqs_len hz]
      exact SeqAt.RcNeAt.lists_lengths ht ht2 (by rw [z1,z2];simpa using hz) (by omega)
    rw [feq]
    refine⟨q1,q2,?_⟩
    by_cases hab:pa=pb
    ·rw [same hab,hab];exact SeqAt.EqAt.same _
    ·exact SeqAt.EqAt.of_refs hab q1
end
end FL
set_option Elab.async false
set_option linter.all false
set_option maxRecDepth 100000
namespace FL
open PySem PySem.Spec PyProof.Rows L2 PL
variable {K:PySem.W.Frag}
mutual
theorem VR.noref {ι:List Addr}{H:Hp}:∀{v:V}{q:PV},VR K ι H v q→PV.fok q=true→VR K [] H v q
 | _,_,.non,_=>.non
 | _,_,.bl b,_=>.bl b
 | _,_,.int i,_=>.int i
 | _,_,.str x,_=>.str x
 | _,_,.ty n,h=>by rw [PV.fok] at h;cases h
 | _,_,.dk _ _ _,h=>by rw [PV.fok] at h;cases h
 | _,_,.dt _ _ _,h=>by rw [PV.fok] at h;cases h
 | _,_,.tup e r,h=>.tup e (VRs.noref r (by rw [PV.fok] at h;exact h))
 | _,_,.cl e r,h=>.cl e (VRs.noref r (by rw [PV.fok] at h;exact h))
 | _,_,.ref e,h=>by rw [PV.fok] at h;cases h
theorem VRs.noref {ι:List Addr}{H:Hp}:∀{v:List V}{q:List PV},VRs K ι H v q→fokL q=true→VRs K [] H v q
 | _,_,.nil,_=>.nil
 | _,_,.cons r s,h=>by
  rw [fokL,Bool.and_eq_true] at h
  exact .cons (VR.noref r h.1) (VRs.noref s h.2)
end
def eqOk (x y:PV):Prop:=PV.fok x=true∧PV.fok y=true∧PV.fdep x≤150
def oEqF:M2:=⟨fun x y h Q=>eqOk x y∧Q (.bl (feq x y)) h,fun f q=>⟨q.1,f _ _ q.2⟩⟩
def oNeF:M2:=⟨fun x y h Q=>eqOk x y∧Q (.bl (!feq x y)) h,fun f q=>⟨q.1,f _ _ q.2⟩⟩
def rEqG (K:PySem.W.Frag) (neg:Bool):R2:=fun u v H Q=>∃x y,VR K [] H u x∧VR K [] H v y∧eqOk x y∧Q (.bl (if neg then !feq x y else feq x y)) H
section
variable {X:Cx}{b:Expr}
theorem op_eqG (hK:X.K=K) (hu:X.A.units+200 < cLine):OpR X (compareOp .Eq) (rEqG K false):=fun pins s σ H u v w w' Q I r1 r2 ⟨x,y,h1,h2,⟨o1,o2,o3⟩,q⟩=>by
 exact EqBoolInt.of_rc (cmpF hK I 150 x y X.A u v w w' o3 o1 o2 h1 h2 r1 r2 (by omega)).rc ⟨.bl _,H,I,rfl,q⟩
theorem op_neG (hK:X.K=K) (hu:X.A.units+200 < cLine):OpR X (compareOp .NotEq) (rEqG K true):=fun pins s σ H u v w w' Q I r1 r2 ⟨x,y,h1,h2,⟨o1,o2,o3⟩,q⟩=>by
 exact EqBoolInt.of_rcne (cmpF hK I 150 x y X.A u v w w' o3 o1 o2 h1 h2 r1 r2 (by omega)).ne ⟨.bl _,H,I,rfl,q⟩
theorem oEqF_ok:M2.Ok K (rEqG K false) oEqF:=fun {ι H h u v x y Q} hr hu hv q=>⟨x,y,VR.noref hu q.1.1,VR.noref hv q.1.2.1,q.1,q.2 ι _ H (Go.refl _ _) hr (.bl _)⟩
theorem oNeF_ok:M2.Ok K (rEqG K true) oNeF:=fun {ι H h u v x y Q} hr hu hv q=>⟨x,y,VR.noref hu q.1.1,VR.noref hv q.1.2.1,q.1,q.2 ι _ H (Go.refl _ _) hr (.bl _)⟩
theorem jf_eq (hK:X.K=K) (hu:X.A.units+200 < cLine):JC X K .Eq b oEqF:=⟨⟨_,op_eqG hK hu,oEqF_ok⟩,nomark _⟩
theorem jf_ne (hK:X.K=K) (hu:X.A.units+200 < cLine):JC X K .NotEq b oNeF:=⟨⟨_,op_neG hK hu,oNeF_ok⟩,nomark _⟩
end
end FL
set_option Elab.async false
set_option linter.all false
set_option maxRecDepth 100000
namespace L2
open PySem PySem.Spec PyProof.Rows
def SqIt (b:Bool) (h:Heap) (it a:Addr) (k:Nat):Prop:=match b with
 | true=>h.IsListIter it a k
 | false=>h.IsTupleIter it a k
def SqOb (b:Bool) (h:Heap) (a:Addr) (xs:Array Value):Prop:=match b with
 | true=>h.IsList a xs
 | false=>h.IsTuple a xs
theorem SqIt.move {b:Bool}{h h':Heap}{it a:Addr}{k:Nat} (x:SqIt b h it a k) (g:∀o,h.get? it=some o→h'.get? it=some o):SqIt b h' it a k:=by
 cases b with
 | true=>obtain⟨o,e,p⟩:=(show h.IsListIter it a k from x);exact (show h'.IsListIter it a k from⟨o,g o e,p⟩)
 | false=>obtain⟨o,e,p⟩:=(show h.IsTupleIter it a k from x);exact (show h'.IsTupleIter it a k from⟨o,g o e,p⟩)
theorem SqOb.move {b:Bool}{h h':Heap}{a:Addr}{xs:Array Value} (x:SqOb b h a xs) (g:∀o,h.get? a=some o→h'.get? a=some o):SqOb b h' a xs:=by
 cases b with
 | true=>obtain⟨o,e,p⟩:=(show h.IsList a xs from x);exact (show h'.IsList a xs from⟨o,g o e,p⟩)
 | false=>obtain⟨o,e,p⟩:=(show h.IsTuple a xs from x);exact (show h'.IsTuple a xs from⟨o,g o e,p⟩)
theorem SqIt.obj {b:Bool}{h:Heap}{it a:Addr}{k:Nat} (x:SqIt b h it a k):∃o,h.get? it=some o∧∀v,o.data≠.cell v:=by
 cases b with
 | true=>obtain⟨o,e,_,d⟩:=(show h.IsListIter it a k from x);exact⟨o,e,fun v z=>by rw [d] at z;cases z⟩
 | false=>obtain⟨o,e,_,d⟩:=(show h.IsTupleIter it a k from x);exact⟨o,e,fun v z=>by rw [d] at z;cases z⟩
theorem SqOb.lt {b:Bool}{h:Heap}{a:Addr}{xs:Array Value} (x:SqOb b h a xs):a < h.objs.size:=by
 cases b with
 | true=>obtain⟨o,e,p⟩:=(show h.IsList a xs from x);exact Heap.lt_size e
 | false=>obtain⟨o,e,p⟩:=(show h.IsTuple a xs from x);exact Heap.lt_size e
section
variable {prog:Program}{w:World}{A:Around}{E:Value→Shared→Prop}{s:Shared}
theorem nextOf_item {b:Bool}{it t:Addr}{i:Nat}{items:Array Value}{x:Value}{Q:Value→Shared→Prop} (h:SqIt b s.heap it t i) (ht:SqOb b s.heap t items) (hx:items[i]?=some x)
  (q:∀h':Heap,SqIt b h' it t (i+1)→Heap.SameBut it s.heap h'→Q x {s with heap:=h'}):wpAny (model prog w) A (Builtin.SmallTypes.nextOf (.ref it)) Q E s:=by
 cases b with
 | true=>exact wpAny_nextOf_list_item h ht hx fun h' a b=>q h' a b
 | false=>exact nextOf_tuple_item h ht hx q
theorem nextOf_end {b:Bool}{it t:Addr}{i:Nat}{items:Array Value}{Q:Value→Shared→Prop} (hA:A.handled=none) (h:SqIt b s.heap it t i) (ht:SqOb b s.heap t items) (hx:items[i]?=none)
  (q:∀(h':Heap) (e:Addr),Heap.ExtBut it s.heap h'→(∃o,h'.get? e=some o∧o.cls=.type "StopIteration")→E (.ref e) {s with heap:=h'}):wpAny (model prog w) A (Builtin.SmallTypes.nextOf (.ref it)) Q E s:=by
 cases b with
 | true=>exact wpAny_nextOf_list_end hA h ht hx fun h' e a b=>q h' e a b
 | false=>exact nextOf_tuple_end hA h ht hx q
def itn:Bool→String
 | true=>"list_iterator"
 | false=>"tuple_iterator"
theorem pyIter_sq {b:Bool}{a:Addr}{xs:Array Value}{Q:Value→Shared→Prop} (h:SqOb b s.heap a xs) (q:Q (.ref s.heap.objs.size) {s with heap:=s.heap.push {cls:=.type (itn b),data:=.fields #[.ref a,.int 0 0]}}):wpAny (model prog w) A (pyIter (.ref a)) Q E s:=by
 cases b with
 | true=>exact wpAny_pyIter_list h q
 | false=>exact wpAny_pyIter_tuple h q
theorem sqIt_of {b:Bool}{h:Heap}{it a:Addr} (e:h.get? it=some {cls:=.type (itn b),data:=.fields #[.ref a,.int 0 0]}):SqIt b h it a 0:=by
 cases b with
 | true=>exact (show h.IsListIter it a 0 from⟨_,e,rfl,rfl⟩)
 | false=>exact (show h.IsTupleIter it a 0 from⟨_,e,rfl,rfl⟩)
end
structure ZipAtG (b1 b2:Bool) (h:Heap) (z TI TO i1 i2 a1 a2:Addr) (f0:Value) (k1 k2:Nat):Prop where
 zip:IsZip h z TI TO f0
 ti:IsPair h TI (.ref i1) (.ref i2)
 to:∃a b,IsPair h TO a b
 it1:SqIt b1 h i1 a1 k1
 it2:SqIt b2 h i2 a2 k2
theorem zip_next_itemG {prog:Program}{w:World}{A:Around}{E:Value→Shared→Prop}{s:Shared}{b1 b2:Bool}{z TI TO i1 i2 a1 a2:Addr}{k1 k2:Nat}{xs ys:Array Value}{x y:Value}{Q:Value→Shared→Prop} (hA:ZipApart z TI TO i1 i2 a1 a2)
  (hz:ZipAtG b1 b2 s.heap z TI TO i1 i2 a1 a2 .none k1 k2) (ht1:SqOb b1 s.heap a1 xs) (ht2:SqOb b2 s.heap a2 ys) (hx:xs[k1]?=some x) (hy:ys[k2]?=some y)
  (q:∀h':Heap,ZipAtG b1 b2 h' z TI TO i1 i2 a1 a2 (rawInt s.heap.objs.size) (k1+1) (k2+1)→IsPair h' s.heap.objs.size x y→(∀c o,c≠z→c≠TO→c≠i1→c≠i2→s.heap.get? c=some o→h'.get? c=some o)→Q (.ref s.heap.objs.size) {s with heap:=h'}) :
  wpAny (model prog w) A (Builtin.«zip.__next__» {pos:=[.ref z]}) (fun fin s'=>∃v,fin=Fin.done (Flow.ret v)∧Q v s') E s:=by
 obtain⟨hz,hti,⟨ta,tb,hto⟩,hi1,hi2⟩:=hz
 show wpAny _ _ (field (.ref z) 2 >>= fun r=>_) _ _ s
 refine wpAny_bind (wpAny_field hz rfl rfl ?_)
 show wpAny _ _ (field (.ref z) 3 >>= fun r=>_) _ _ s
 refine wpAny_bind (wpAny_field hz rfl rfl ?_)
 show wpAny _ _ (seqItems? (.ref TI) >>= fun r=>_) _ _ s
 refine wpAny_bind (wpAny_seqItems hti rfl ?_)
 show wpAny _ _ (Builtin.SmallTypes.ownedTupleIsFree (.ref z) >>= fun r=>_) _ _ s
 refine wpAny_bind ?_
 unfold Builtin.SmallTypes.ownedTupleIsFree
 refine wpAny_bind (wpAny_field hz rfl rfl ?_)
 refine wpAny_pure ?_
 show wpAny _ _ (rule "zip.__next__.owned-tuple-again" >>= fun r=>_) _ _ s
 refine wpAny_bind (wpAny_rule ?_)
 refine wpAny_bind (wpAny_field hz rfl rfl ?_)
 show wpAny _ _ (setField (.ref z) 0 .ellipsis >>= fun r=>_) _ _ s
 refine wpAny_bind (wpAny_setField_rec hz (show 0 < 5 by decide) fun h1 z1 b1=>?_)
 show wpAny _ _ ((forIn [(Value.ref i1,0),(Value.ref i2,1)] _ _) >>= fun r=>_) _ _ _
 refine wpAny_bind ?_
 rw [List.forIn_cons]
 have get1:∀b,b≠z→h1.get? b=s.heap.get? b:=b1.2
 refine wpAny_bind ?_
 refine wpAny_bind (wpAny_onRaise ?_)
 show wpAny _ _ (Builtin.SmallTypes.nextOf (.ref i1) >>= fun v=>pure (some v)) _ _ _
 refine wpAny_bind (nextOf_item (hi1.move fun o e=>(get1 _ hA.i1z).trans e) (ht1.move fun o e=>(get1 _ hA.l1z).trans e) hx fun h2 j2 b2=>wpAny_pure ?_)
 have get2:∀b,b≠z→b≠i1→h2.get? b=s.heap.get? b:=fun b n1 n2=>(b2.2 b n2).trans (get1 b n1)
 have to2:IsPair h2 TO ta tb:=(get2 _ hA.TOz hA.TOi1).trans hto
 show wpAny _ _ (seqItems? (.ref TO) >>= fun r=>_) _ _ _
 refine wpAny_bind (wpAny_seqItems to2 rfl ?_)
 refine wpAny_bind (wpAny_updateSeq_pair to2 fun h3 t3 b3=>?_)
 have get3:∀b,b≠z→b≠i1→b≠TO→h3.get? b=s.heap.get? b:=fun b n1 n2 n3=>(b3.2 b n3).trans (get2 b n1 n2)
 refine wpAny_bind (wpAny_letGo (wpAny_pure ?_))
 show wpAny _ _ (forIn [(Value.ref i2,1)] _ _) _ _ _
 rw [List.forIn_cons]
 refine wpAny_bind ?_
 refine wpAny_bind (wpAny_onRaise ?_)
 show wpAny _ _ (Builtin.SmallTypes.nextOf (.ref i2) >>= fun v=>pure (some v)) _ _ _
 refine wpAny_bind (nextOf_item (hi2.move fun o e=>(get3 _ hA.i2z hA.i12.symm hA.TOi2.symm).trans e) (ht2.move fun o e=>(get3 _ hA.l2z hA.l2i1 hA.l2TO).trans e) hy fun h4 j4 b4=>wpAny_pure ?_)
 have to4:IsPair h4 TO x tb:=(b4.2 _ hA.TOi2).trans t3
 show wpAny _ _ (seqItems? (.ref TO) >>= fun r=>_) _ _ _
 refine wpAny_bind (wpAny_seqItems to4 rfl ?_)
 refine wpAny_bind (wpAny_updateSeq_pair to4 fun h5 t5 b5=>?_)
 have to5:IsPair h5 TO x y:=t5
 refine wpAny_bind (wpAny_letGo (wpAny_pure ?_))
 show wpAny _ _ (forIn [] _ _) _ _ _
 rw [List.forIn_nil]
 refine wpAny_pure ?_
 show wpAny _ _ (seqItems? (.ref TO) >>= fun r=>_) _ _ _
 refine wpAny_bind (wpAny_seqItems to5 rfl ?_)
 show wpAny _ _ (newTuple [x,y] >>= fun r=>_) _ _ _
 have sz5:h5.objs.size=s.heap.objs.size:=b5.1.trans (b4.1.trans (b3.1.trans (b2.1.trans b1.1)))
 refine wpAny_bind (wpAny_newTuple ?_ (by show 2≤sizeLine;decide))
 have get5:∀b,b≠z→b≠i1→b≠TO→b≠i2→h5.get? b=s.heap.get? b:=fun b n1 n2 n3 n4=>(b5.2 b n3).trans ((b4.2 b n4).trans (get3 b n1 n2 n3))
 have z5:h5.get? z=some {cls:=.type "zip",data:=.fields #[.ellipsis,.bool false,.bool false,.ref TI,.ref TO]}:=(b5.2 _ hA.TOz.symm).trans ((b4.2 _ hA.i2z.symm).trans ((b3.2 _ hA.TOz.symm).trans ((b2.2 _ hA.i1z.symm).trans z1)))
 have kp:∀b o,h5.get? b=some o→(h5.push {cls:=.type "tuple",data:=.seq #[x,y]}).get? b=some o:=fun b o e=>Heap.get?_push_of_some _ e
 have new6:(h5.push {cls:=.type "tuple",data:=.seq #[x,y]}).get? h5.objs.size=some {cls:=.type "tuple",data:=.seq #[x,y]}:=Heap.get?_push_size _ rfl
 refine wpAny_bind ?_
 show wpAny _ _ (setField (.ref z) 0 (rawInt h5.objs.size) >>= fun _=>setField (.ref z) 1 (.bool false)) _ _ _
 refine wpAny_bind (wpAny_setField_rec (kp _ _ z5) (show 0 < 5 by decide) fun h7 z7 b7=>?_)
 refine wpAny_setField_rec z7 (show 1 < 5 by decide) fun h8 z8 b8=>?_
 have get8:∀b,b≠z→h8.get? b=(h5.push {cls:=.type "tuple",data:=.seq #[x,y]}).get? b:=fun b n=>(b8.2 b n).trans (b7.2 b n)
 have nz:s.heap.objs.size≠z:=fun e=>by have:=Heap.lt_size hz;rw [← e] at this;exact Nat.lt_irrefl _ this
 refine wpAny_pure ⟨.ref h5.objs.size,rfl,?_⟩
 rw [sz5]
 refine q h8 ⟨?_,?_,?_,?_,?_⟩ ?_ ?_
 ·rw [← sz5];exact z8
 ·rw [IsPair,get8 _ hA.TIz];exact kp _ _ ((get5 _ hA.TIz hA.TIi1 hA.TITO hA.TIi2).trans hti)
 ·exact⟨x,y,by rw [IsPair,get8 _ hA.TOz];exact kp _ _ to5⟩
 ·refine j2.move fun o e=>?_
  rw [get8 _ hA.i1z]
  exact kp _ _ ((b5.2 _ hA.TOi1.symm).trans ((b4.2 _ hA.i12).trans ((b3.2 _ hA.TOi1.symm).trans e)))
 ·refine j4.move fun o e=>?_
  rw [get8 _ hA.i2z]
  exact kp _ _ ((b5.2 _ hA.TOi2.symm).trans e)
 ·rw [IsPair,get8 _ nz,← sz5];exact new6
 ·intro c o n1 n2 n3 n4 e
  rw [get8 _ n1]
  exact kp _ _ ((get5 _ n1 n3 n2 n4).trans e)
theorem zip_next_endG {prog:Program}{w:World}{A:Around}{E:Value→Shared→Prop}{s:Shared}{b1 b2:Bool}{z TI TO i1 i2 a1 a2:Addr}{k1 k2:Nat}{xs ys:Array Value}{Q:PySem.Fin→Shared→Prop} (hh:A.handled=none) (hA:ZipApart z TI TO i1 i2 a1 a2)
  (hz:ZipAtG b1 b2 s.heap z TI TO i1 i2 a1 a2 .none k1 k2) (ht1:SqOb b1 s.heap a1 xs) (ht2:SqOb b2 s.heap a2 ys) (hx:xs[k1]?=none∨ys[k2]?=none)
  (q:∀(h':Heap) (e:Addr),(∀c o,c≠z→c≠TO→c≠i1→c≠i2→s.heap.get? c=some o→h'.get? c=some o)→(∃o,h'.get? e=some o∧o.cls=.type "StopIteration")→E (.ref e) {s with heap:=h'}) :
  wpAny (model prog w) A (Builtin.«zip.__next__» {pos:=[.ref z]}) Q E s:=by
 obtain⟨hz,hti,⟨ta,tb,hto⟩,hi1,hi2⟩:=hz
 show wpAny _ _ (field (.ref z) 2 >>= fun r=>_) _ _ s
 refine wpAny_bind (wpAny_field hz rfl rfl ?_)
 show wpAny _ _ (field (.ref z) 3 >>= fun r=>_) _ _ s
 refine wpAny_bind (wpAny_field hz rfl rfl ?_)
 show wpAny _ _ (seqItems? (.ref TI) >>= fun r=>_) _ _ s
 refine wpAny_bind (wpAny_seqItems hti rfl ?_)
 show wpAny _ _ (Builtin.SmallTypes.ownedTupleIsFree (.ref z) >>= fun r=>_) _ _ s
 refine wpAny_bind ?_
 unfold Builtin.SmallTypes.ownedTupleIsFree
 refine wpAny_bind (wpAny_field hz rfl rfl ?_)
 refine wpAny_pure ?_
 show wpAny _ _ (rule "zip.__next__.owned-tuple-again" >>= fun r=>_) _ _ s
 refine wpAny_bind (wpAny_rule ?_)
 refine wpAny_bind (wpAny_field hz rfl rfl ?_)
 show wpAny _ _ (setField (.ref z) 0 .ellipsis >>= fun r=>_) _ _ s
 refine wpAny_bind (wpAny_setField_rec hz (show 0 < 5 by decide) fun h1 z1 b1'=>?_)
 show wpAny _ _ ((forIn [(Value.ref i1,0),(Value.ref i2,1)] _ _) >>= fun r=>_) _ _ _
 refine wpAny_bind ?_
 rw [List.forIn_cons]
 have get1:∀b,b≠z→h1.get? b=s.heap.get? b:=b1'.2
 refine wpAny_bind ?_
 refine wpAny_bind (wpAny_onRaise ?_)
 show wpAny _ _ (Builtin.SmallTypes.nextOf (.ref i1) >>= fun v=>pure (some v)) _ _ _
 have fin:∀{h2:Heap}{e:Addr},h2.get? z=some {cls:=.type "zip",data:=.fields #[.ellipsis,.bool false,.bool false,.ref TI,.ref TO]}→(∃o,h2.get? e=some o∧o.cls=.type "StopIteration")→(∀c o,c≠z→c≠TO→c≠i1→c≠i2→s.heap.get? c=some o→h2.get? c=some o)→wpAny (model prog w) A (setField (.ref z) 0 .none) (fun _ s'=>E (.ref e) s') (fun _ _=>True) {s with heap:=h2}:=fun {h2 e} z2 ex k=>by
  refine wpAny_setField_rec z2 (show 0 < 5 by decide) fun h3 z3 b3=>?_
  refine q h3 e (fun c o n1 n2 n3 n4 ec=>?_) ?_
  ·rw [b3.2 _ n1]
   exact k c o n1 n2 n3 n4 ec
  ·obtain⟨o,eo,hc⟩:=ex
   by_cases he:e=z
   ·subst he
    rw [z2] at eo
    cases eo
    exact absurd (show Value.type "zip"=Value.type "StopIteration" from hc) (by decide)
   ·exact⟨o,(b3.2 _ he).trans eo,hc⟩
 cases hx1:xs[k1]? with
 | none=>
  refine wpAny_bind (nextOf_end hh (hi1.move fun o e=>(get1 _ hA.i1z).trans e) (ht1.move fun o e=>(get1 _ hA.l1z).trans e) hx1 fun h2 e k ex=>?_)
  have z2:h2.get? z=some {cls:=.type "zip",data:=.fields #[.ellipsis,.bool false,.bool false,.ref TI,.ref TO]}:=k _ _ hA.i1z.symm z1
  refine wpAny_setField_rec z2 (show 0 < 5 by decide) fun h3 z3 b3=>?_
  refine q h3 e (fun c o n1 n2 n3 n4 ec=>?_) ?_
  ·rw [b3.2 _ n1]
   exact k _ _ n3 ((get1 _ n1).trans ec)
  ·obtain⟨o,eo,hc⟩:=ex
   by_cases he:e=z
   ·subst he
    rw [z2] at eo
    cases eo
    exact absurd (show Value.type "zip"=Value.type "StopIteration" from hc) (by decide)
   ·exact⟨o,(b3.2 _ he).trans eo,hc⟩
 | some x=>
  have hy:ys[k2]?=none:=by
   rcases hx with h | h
   ·rw [hx1] at h;cases h
   ·exact h
  refine wpAny_bind (nextOf_item (hi1.move fun o e=>(get1 _ hA.i1z).trans e) (ht1.move fun o e=>(get1 _ hA.l1z).trans e) hx1 fun h2 j2 b2'=>wpAny_pure ?_)
  have get2:∀b,b≠z→b≠i1→h2.get? b=s.heap.get? b:=fun b n1 n2=>(b2'.2 b n2).trans (get1 b n1)
  have to2:IsPair h2 TO ta tb:=(get2 _ hA.TOz hA.TOi1).trans hto
  show wpAny _ _ (seqItems? (.ref TO) >>= fun r=>_) _ _ _
  refine wpAny_bind (wpAny_seqItems to2 rfl ?_)
  refine wpAny_bind (wpAny_updateSeq_pair to2 fun h3 t3 b3=>?_)
  have get3:∀b,b≠z→b≠i1→b≠TO→h3.get? b=s.heap.get? b:=fun b n1 n2 n3=>(b3.2 b n3).trans (get2 b n1 n2)
  refine wpAny_bind (wpAny_letGo (wpAny_pure ?_))
  show wpAny _ _ (forIn [(Value.ref i2,1)] _ _) _ _ _
  rw [List.forIn_cons]
  refine wpAny_bind ?_
  refine wpAny_bind (wpAny_onRaise ?_)
  show wpAny _ _ (Builtin.SmallTypes.nextOf (.ref i2) >>= fun v=>pure (some v)) _ _ _
  refine wpAny_bind (nextOf_end hh (hi2.move fun o e=>(get3 _ hA.i2z hA.i12.symm hA.TOi2.symm).trans e) (ht2.move fun o e=>(get3 _ hA.l2z hA.l2i1 hA.l2TO).trans e) hy fun h4 e k ex=>?_)
  have z4:h4.get? z=some {cls:=.type "zip",data:=.fields #[.ellipsis,.bool false,.bool false,.ref TI,.ref TO]}:=k _ _ hA.i2z.symm ((b3.2 _ hA.TOz.symm).trans ((b2'.2 _ hA.i1z.symm).trans z1))
  refine wpAny_setField_rec z4 (show 0 < 5 by decide) fun h5 z5 b5=>?_
  refine q h5 e (fun c o n1 n2 n3 n4 ec=>?_) ?_
  ·rw [b5.2 _ n1]
   exact k _ _ n4 ((get3 _ n1 n3 n2).trans ec)
  ·obtain⟨o,eo,hc⟩:=ex
   by_cases he:e=z
   ·subst he
    rw [z4] at eo
    cases eo
    exact absurd (show Value.type "zip"=Value.type "StopIteration" from hc) (by decide)
   ·exact⟨o,(b5.2 _ he).trans eo,hc⟩
theorem pyNext_zip_itemG {prog:Program}{w:World}{A:Around}{E:Value→Shared→Prop}{s:Shared}{b1 b2:Bool}{z TI TO i1 i2 a1 a2:Addr}{k1 k2:Nat}{xs ys:Array Value}{x y:Value}{Q:Option Value→Shared→Prop} (hA:ZipApart z TI TO i1 i2 a1 a2)
  (hz:ZipAtG b1 b2 s.heap z TI TO i1 i2 a1 a2 .none k1 k2) (ht1:SqOb b1 s.heap a1 xs) (ht2:SqOb b2 s.heap a2 ys) (hx:xs[k1]?=some x) (hy:ys[k2]?=some y)
  (q:∀h':Heap,ZipAtG b1 b2 h' z TI TO i1 i2 a1 a2 (rawInt s.heap.objs.size) (k1+1) (k2+1)→IsPair h' s.heap.objs.size x y→(∀c o,c≠z→c≠TO→c≠i1→c≠i2→s.heap.get? c=some o→h'.get? c=some o)→Q (some (.ref s.heap.objs.size)) {s with heap:=h'}) :
  wpAny (model prog w) A (pyNext (.ref z)) Q E s:=by
 have ty:s.TypeIs (.ref z) "zip":=⟨_,hz.zip,rfl⟩
 unfold pyNext
 refine wpAny_bind (wpAny_attempt (wpAny_callSpecial?_slot ty F.slot_zip_next (wpAny_call_entry F.slot_zip_next ty F.entry_zip_next ?_ (F.args_zip_next_1 _))))
 exact zip_next_itemG hA hz ht1 ht2 hx hy fun h' a b c=>wpAny_pure (q h' a b c)
theorem pyNext_zip_endG {prog:Program}{w:World}{A:Around}{E:Value→Shared→Prop}{s:Shared}{b1 b2:Bool}{z TI TO i1 i2 a1 a2:Addr}{k1 k2:Nat}{xs ys:Array Value}{Q:Option Value→Shared→Prop} (hh:A.handled=none) (hA:ZipApart z TI TO i1 i2 a1 a2)
  (hz:ZipAtG b1 b2 s.heap z TI TO i1 i2 a1 a2 .none k1 k2) (ht1:SqOb b1 s.heap a1 xs) (ht2:SqOb b2 s.heap a2 ys) (hx:xs[k1]?=none∨ys[k2]?=none)
  (q:∀h':Heap,(∀c o,c≠z→c≠TO→c≠i1→c≠i2→s.heap.get? c=some o→h'.get? c=some o)→Q none {s with heap:=h'}) :
  wpAny (model prog w) A (pyNext (.ref z)) Q E s:=by
 have ty:s.TypeIs (.ref z) "zip":=⟨_,hz.zip,rfl⟩
 unfold pyNext
 refine wpAny_bind (wpAny_attempt (wpAny_callSpecial?_slot ty F.slot_zip_next (wpAny_call_entry F.slot_zip_next ty F.entry_zip_next ?_ (F.args_zip_next_1 _))))
 refine zip_next_endG (A:=A.in1) hh hA hz ht1 ht2 hx fun h' e k ex=>?_
 obtain⟨o,eo,hc⟩:=ex
 refine wpAny_bind (wpAny_isInstance (T:="StopIteration") ⟨o,eo,hc⟩ isSubtype_stop ?_)
 rw [if_pos rfl]
 exact wpAny_pure (q h' k)
theorem meets_zip_newG (b1 b2:Bool) (a1 a2:Addr) (xs ys:Array Value):Meets (Builtin.«zip.__new__» {pos:=[.type "zip",.ref a1,.ref a2]}) (fun _ R s=>SqOb b1 s.heap a1 xs∧SqOb b2 s.heap a2 ys∧
  ∀h':Heap,ZipAtG b1 b2 h' (s.heap.objs.size+4) (s.heap.objs.size+2) (s.heap.objs.size+3) s.heap.objs.size (s.heap.objs.size+1) a1 a2 .none 0 0→(∀b o,s.heap.get? b=some o→h'.get? b=some o)→R (.ok (.ret (.ref (s.heap.objs.size+4)))) {s with heap:=h'}):=
 .of_wp fun prog w A R s h=>by
  obtain⟨h1,h2,q⟩:=h
  unfold Builtin.«zip.__new__»
  refine wpAny_bind ?_
  unfold Builtin.SmallTypes.newClass
  refine wpAny_bind (wpAny_of_eq (a:=true) rfl ?_)
  rw [if_neg (by decide)]
  refine wpAny_bind (wpAny_of_eq sub_zip ?_)
  rw [if_neg (by decide)]
  refine wpAny_pure ?_
  show wpAny _ _ (Builtin.SmallTypes.iterAll [.ref a1,.ref a2] >>= fun r=>_) _ _ s
  refine wpAny_bind ?_
  unfold Builtin.SmallTypes.iterAll
  refine wpAny_bind ?_
  rw [List.forIn_cons]
  refine wpAny_bind ?_
  refine wpAny_bind (wpAny_holding (pyIter_sq h1 (wpAny_pure ?_)))
  have k1:∀b o,s.heap.get? b=some o→(s.heap.push {cls:=.type (itn b1),data:=.fields #[.ref a1,.int 0 0]}).get? b=some o:=fun b o e=>Heap.get?_push_of_some _ e
  have g1:(s.heap.push {cls:=.type (itn b1),data:=.fields #[.ref a1,.int 0 0]}).get? s.heap.objs.size=some {cls:=.type (itn b1),data:=.fields #[.ref a1,.int 0 0]}:=Heap.get?_push_size _ rfl
  have z1:(s.heap.push {cls:=.type (itn b1),data:=.fields #[.ref a1,.int 0 0]}).objs.size=s.heap.objs.size+1:=Heap.size_push ..
  generalize s.heap.push {cls:=.type (itn b1),data:=.fields #[.ref a1,.int 0 0]}=hp1 at k1 g1 z1 ⊢
  show wpAny _ _ (forIn [Value.ref a2] _ _) _ _ _
  rw [List.forIn_cons]
  refine wpAny_bind ?_
  refine wpAny_bind (wpAny_holding (pyIter_sq (xs:=ys) (h2.move fun o e=>k1 _ _ e) (wpAny_pure ?_)))
  show wpAny _ _ (forIn [] _ _) _ _ _
  rw [List.forIn_nil]
  refine wpAny_pure (wpAny_pure ?_)
  have k2:∀b o,hp1.get? b=some o→(hp1.push {cls:=.type (itn b2),data:=.fields #[.ref a2,.int 0 0]}).get? b=some o:=fun b o e=>Heap.get?_push_of_some _ e
  have g2:(hp1.push {cls:=.type (itn b2),data:=.fields #[.ref a2,.int 0 0]}).get? hp1.objs.size=some {cls:=.type (itn b2),data:=.fields #[.ref a2,.int 0 0]}:=Heap.get?_push_size _ rfl
  have z2:(hp1.push {cls:=.type (itn b2),data:=.fields #[.ref a2,.int 0 0]}).objs.size=hp1.objs.size+1:=Heap.size_push ..
  show wpAny _ _ (newTuple [.ref s.heap.objs.size,.ref hp1.objs.size] >>= fun r=>_) _ _ {s with heap:=hp1.push {cls:=.type (itn b2),data:=.fields #[.ref a2,.int 0 0]}}
  generalize hp1.push {cls:=.type (itn b2),data:=.fields #[.ref a2,.int 0 0]}=hp2 at k2 g2 z2 ⊢
  refine wpAny_bind (wpAny_newTuple ?_ (by show 2≤sizeLine;decide))
  have k3:∀b o,hp2.get? b=some o→(hp2.push {cls:=.type "tuple",data:=.seq [Value.ref s.heap.objs.size,Value.ref hp1.objs.size].toArray}).get? b=some o:=fun b o e=>Heap.get?_push_of_some _ e
  have g3:(hp2.push {cls:=.type "tuple",data:=.seq [Value.ref s.heap.objs.size,Value.ref hp1.objs.size].toArray}).get? hp2.objs.size=some {cls:=.type "tuple",data:=.seq #[.ref s.heap.objs.size,.ref hp1.objs.size]}:=Heap.get?_push_size _ rfl
  have z3:(hp2.push {cls:=.type "tuple",data:=.seq [Value.ref s.heap.objs.size,Value.ref hp1.objs.size].toArray}).objs.size=hp2.objs.size+1:=Heap.size_push ..
  show wpAny _ _ (newTuple [.none,.none] >>= fun r=>_) _ _ {s with heap:=hp2.push {cls:=.type "tuple",data:=.seq [Value.ref s.heap.objs.size,Value.ref hp1.objs.size].toArray}}
  generalize hp2.push {cls:=.type "tuple",data:=.seq [Value.ref s.heap.objs.size,Value.ref hp1.objs.size].toArray}=hp3 at k3 g3 z3 ⊢
  refine wpAny_bind (wpAny_newTuple ?_ (by show 2≤sizeLine;decide))
  have k4:∀b o,hp3.get? b=some o→(hp3.push {cls:=.type "tuple",data:=.seq [Value.none,Value.none].toArray}).get? b=some o:=fun b o e=>Heap.get?_push_of_some _ e
  have g4:(hp3.push {cls:=.type "tuple",data:=.seq [Value.none,Value.none].toArray}).get? hp3.objs.size=some {cls:=.type "tuple",data:=.seq #[.none,.none]}:=Heap.get?_push_size _ rfl
  have z4:(hp3.push {cls:=.type "tuple",data:=.seq [Value.none,Value.none].toArray}).objs.size=hp3.objs.size+1:=Heap.size_push ..
  show wpAny _ _ (newObj (.type "zip") (.fields #[.none,.bool false,.bool false,.ref hp2.objs.size,.ref hp3.objs.size]) >>= fun r=>_) _ _ {s with heap:=hp3.push {cls:=.type "tuple",data:=.seq [Value.none,Value.none].toArray}}
  generalize hp3.push {cls:=.type "tuple",data:=.seq [Value.none,Value.none].toArray}=hp4 at k4 g4 z4 ⊢
  refine wpAny_bind (wpAny_newObj_type ?_ (by simp [sizeOk];decide))
  have k5:∀b o,hp4.get? b=some o→(hp4.push {cls:=.type "zip",data:=.fields #[.none,.bool false,.bool false,.ref hp2.objs.size,.ref hp3.objs.size]}).get? b=some o:=fun b o e=>Heap.get?_push_of_some _ e
  have g5:(hp4.push {cls:=.type "zip",data:=.fields #[.none,.bool false,.bool false,.ref hp2.objs.size,.ref hp3.objs.size]}).get? hp4.objs.size=some {cls:=.type "zip",data:=.fields #[.none,.bool false,.bool false,.ref hp2.objs.size,.ref hp3.objs.size]}:=Heap.get?_push_size _ rfl
  have e1:hp1.objs.size=s.heap.objs.size+1:=z1
  have e2:hp2.objs.size=s.heap.objs.size+2:=by rw [z2,e1]
  have e3:hp3.objs.size=s.heap.objs.size+3:=by rw [z3,e2]
  have e4:hp4.objs.size=s.heap.objs.size+4:=by rw [z4,e3]
  refine wpAny_pure ⟨.ref hp4.objs.size,rfl,?_⟩
  rw [e2,e3] at g5 k5 ⊢
  rw [e4] at g5 ⊢
  rw [e3] at g4
  rw [e1,e2] at g3
  rw [e1] at g2
  refine q _ ⟨g5,k5 _ _ (k4 _ _ g3),⟨_,_,k5 _ _ g4⟩,sqIt_of (k5 _ _ (k4 _ _ (k3 _ _ (k2 _ _ g1)))),sqIt_of (k5 _ _ (k4 _ _ (k3 _ _ g2)))⟩ fun b o e=>k5 _ _ (k4 _ _ (k3 _ _ (k2 _ _ (k1 _ _ e))))
theorem call_zipG {prog:Program}{w:World}{A:Around}{E:Value→Shared→Prop}{s:Shared}{b1 b2:Bool}{a1 a2:Addr}{xs ys:Array Value}{Q:Value→Shared→Prop} (h1:SqOb b1 s.heap a1 xs) (h2:SqOb b2 s.heap a2 ys)
  (q:∀h':Heap,ZipAtG b1 b2 h' (s.heap.objs.size+4) (s.heap.objs.size+2) (s.heap.objs.size+3) s.heap.objs.size (s.heap.objs.size+1) a1 a2 .none 0 0→(∀b o,s.heap.get? b=some o→h'.get? b=some o)→Q (.ref (s.heap.objs.size+4)) {s with heap:=h'}) :
  wpAny (model prog w) A (call (.type "zip") [.ref a1,.ref a2]) Q E s:=
 callType_new F.called_zip (by decide) (F.typeCall_zip_2 _ _) (F.newCall_zip_2 _ _) (fun o=>F.args_object_init_3 o _ _) F.entry_zip_new (meets_zip_newG b1 b2 a1 a2 xs ys) ⟨h1,h2,fun h' z k=>⟨⟨_,z.zip,rfl⟩,q h' z k⟩⟩
def SqX (b:Bool) (K:PySem.W.Frag) (H:Hp) (a:Addr) (xs:List V):Prop:=match b with
 | true=>SqL K H a xs
 | false=>SqT K H a xs
theorem Inv.sqx {X:Cx}{pins:List (Addr×Obj)}{σ:L2.St}{H:Hp}{s:Shared}{b:Bool}{a:Addr}{xs:List V} (I:Inv X pins σ H s) (h:SqX b X.K H a xs):∃its:List Value,Vals xs its∧SqOb b s.heap a its.toArray∧xs.length≤sizeLine:=by
 cases b with
 | true=>obtain⟨its,r,p,z⟩:=I.list (show SqL X.K H a xs from h);exact⟨its,r,p.isList,z⟩
 | false=>obtain⟨its,r,p,z⟩:=I.tuple (show SqT X.K H a xs from h);exact⟨its,r,p,z⟩
theorem Inv.sqx_inj {X:Cx}{pins:List (Addr×Obj)}{σ:L2.St}{H:Hp}{s:Shared}{b:Bool}{a:Addr}{xs ys:List V} (I:Inv X pins σ H s) (h:SqX b X.K H a xs) (h':SqX b X.K H a ys):xs=ys:=by
 cases b with
 | true=>
  obtain⟨its,k,⟨o,n,h1,h2,h3,h4⟩,_⟩:=I.list (show SqL X.K H a xs from h)
  obtain⟨its',k',⟨o',n',h1',h2',h3',h4'⟩,_⟩:=I.list (show SqL X.K H a ys from h')
  rw [h1] at h1';cases h1'
  rw [h4] at h4'
  have:its=its':=by injection h4' with a b;simpa using a
  subst this
  exact Vals.inj k k'
 | false=>exact I.tuple_inj h h'
def ItzG (b1 b2:Bool) (K:PySem.W.Frag) (a1 a2:Addr):It where
 go:=fun i H=>∃xs ys x y,SqX b1 K H a1 xs∧SqX b2 K H a2 ys∧xs[i]?=some x∧ys[i]?=some y
 yld:=fun i H v H'=>∃p x y,v=.ref p∧H p=none∧H'=upd H p (.tup [x,y])∧(∀xs,SqX b1 K H a1 xs→xs[i]?=some x)∧∀ys,SqX b2 K H a2 ys→ys[i]?=some y
 stop:=fun i H=>∃xs ys,SqX b1 K H a1 xs∧SqX b2 K H a2 ys∧(xs.length≤i∨ys.length≤i)
theorem turn_zipG {P:Program}{w:World}{K:PySem.W.Frag}{b1 b2:Bool}{elts:List Expr}{kk:Nat}{pos:Pos}{z TI TO i1 i2 a1 a2:Addr} (hA:ZipApart z TI TO i1 i2 a1 a2):Turn P w K (.Tuple elts kk pos) (ItzG b1 b2 K a1 a2) [z,TI,TO,i1,i2] z (fun i h=>ZipAtG b1 b2 h z TI TO i1 i2 a1 a2 .none i i) where
 mem:=by simp
 obj:=fun i h st b hb=>by
  simp only [List.mem_cons,List.not_mem_nil,or_false] at hb
  rcases hb with rfl | rfl | rfl | rfl | rfl
  ·exact⟨_,st.zip,fun v z=>by cases z⟩
  ·exact⟨_,st.ti,fun v z=>by cases z⟩
  ·obtain⟨_,_,e⟩:=st.to;exact⟨_,e,fun v z=>by cases z⟩
  ·exact st.it1.obj
  ·exact st.it2.obj
 keep:=fun i h h' st k=>⟨k z (by simp) _ st.zip,k TI (by simp) _ st.ti,let ⟨a,b,e⟩:=st.to;⟨a,b,k TO (by simp) _ e⟩,st.it1.move fun o e=>k i1 (by simp) _ e,st.it2.move fun o e=>k i2 (by simp) _ e⟩
 item:=by
  intro X hP hw hK hc i pins s σ H E I hf st hg
  subst hP hw hK
  obtain⟨xs,ys,x,y,hx,hy,gx,gy⟩:=hg
  obtain⟨its,rx,tx,_⟩:=I.sqx hx
  obtain⟨its2,ry,ty,_⟩:=I.sqx hy
  obtain⟨u,gu,ru⟩:=vals_get rx gx
  obtain⟨v,gv,rv⟩:=vals_get ry gy
  refine pyNext_zip_itemG hA st tx ty (by simpa using gu) (by simpa using gv) fun h' zt np k=>?_
  refine⟨_,rfl,?_⟩
  show wpAny _ _ (load z >>= fun o=>_) _ _ _
  refine wpAny_bind (wpAny_load zt.zip ?_)
  show wpAny _ _ (if ((["enumerate","zip","dict_itemiterator","dict_reverseitemiterator","odict_iterator","itertools.zip_longest","itertools.pairwise"].contains "zip"&&(some (rawInt s.heap.objs.size)==some (rawInt s.heap.objs.size)))=true) then (do rule "for.unpacks-the-owned-tuple";setField (.ref z) 0 .none) else pure ()) _ _ _
  rw [if_pos (by rw [beq_self_eq_true];decide)]
  refine wpAny_bind (wpAny_rule ?_)
  refine wpAny_setField_rec zt.zip (show 0 < 5 by decide) fun h2 z2 b2=>?_
  have lt:∀b∈[z,TI,TO,i1,i2],b < s.heap.objs.size:=fun b hb=>by
   simp only [List.mem_cons,List.not_mem_nil,or_false] at hb
   rcases hb with rfl | rfl | rfl | rfl | rfl
   ·exact Heap.lt_size st.zip
   ·exact Heap.lt_size st.ti
   ·obtain⟨_,_,e⟩:=st.to;exact Heap.lt_size e
   ·obtain⟨o,e,_⟩:=st.it1.obj;exact Heap.lt_size e
   ·obtain⟨o,e,_⟩:=st.it2.obj;exact Heap.lt_size e
  have nz:s.heap.objs.size≠z:=fun e=>Nat.lt_irrefl _ (by have:=lt z (by simp);rw [← e] at this;exact this)
  have kk':∀b o,b∉[z,TI,TO,i1,i2]→s.heap.get? b=some o→h2.get? b=some o:=fun b o hb e=>by
   have hz':b≠z:=fun q=>hb (by simp [q])
   rw [b2.2 b hz']
   exact k b o hz' (fun q=>hb (by simp [q])) (fun q=>hb (by simp [q])) (fun q=>hb (by simp [q])) e
  have np2:h2.get? s.heap.objs.size=some {cls:=.type "tuple",data:=.seq #[u,v]}:=(b2.2 _ nz).trans np
  have hfr:=I.hok.fresh (Nat.le_refl s.heap.objs.size)
  refine⟨.ref s.heap.objs.size,upd H s.heap.objs.size (.tup [x,y]),I.turnLaid (t':=s.toks) hf kk' (Nat.le_refl _) ⟨by show 2≤sizeLine;decide,[u,v],.cons ru (.cons rv .nil),⟨_,np2,rfl,_,rfl⟩⟩,rfl,⟨_,x,y,rfl,hfr,rfl,fun xs' h'=>?_,fun ys' h'=>?_⟩,⟨z2,(b2.2 _ hA.TIz).trans zt.ti,let ⟨p,q,e⟩:=zt.to;⟨p,q,(b2.2 _ hA.TOz).trans e⟩,zt.it1.move fun o e=>(b2.2 _ hA.i1z).trans e,zt.it2.move fun o e=>(b2.2 _ hA.i2z).trans e⟩,fun b hb=>?_⟩
  ·rw [I.sqx_inj h' hx];exact gx
  ·rw [I.sqx_inj h' hy];exact gy
  ·rw [upd_ne (Nat.ne_of_lt (lt b hb))]
   exact (hf b hb).1
 done:=by
  intro X hP hw hK hc i pins s σ H E I hf st hg
  subst hP hw hK
  obtain⟨xs,ys,hx,hy,hl⟩:=hg
  obtain⟨its,rx,tx,_⟩:=I.sqx hx
  obtain⟨its2,ry,ty,_⟩:=I.sqx hy
  have el:=rx.length
  have el2:=ry.length
  refine pyNext_zip_endG (I.ok.hd hc) hA st tx ty ?_ fun h' k=>⟨rfl,I.turnedN (t':=s.toks) hf fun b o hb e=>k b o (fun z=>hb (by simp [z])) (fun z=>hb (by simp [z])) (fun z=>hb (by simp [z])) (fun z=>hb (by simp [z])) e⟩
  rcases hl with hl | hl
  ·exact .inl (by simp;omega)
  ·exact .inr (by simp;omega)
 self:=fun A i s Q E st h=>wpAny_pyIter_zip st.zip h
def iZipG (K:PySem.W.Frag) (t1 t2:TE):TI:=fun σ H R=>t1 σ H fun x H1=>t2 σ H1 fun y H2=>∃b1 b2 a b,x=.ref a∧y=.ref b∧(∃xs,SqX b1 K H2 a xs)∧(∃ys,SqX b2 K H2 b ys)∧R (ItzG b1 b2 K a b) H2
theorem pi_zipG {X:Cx} (K:PySem.W.Frag) (hK:X.K=K) {e1 e2:Expr}{t1 t2:TE}{elts:List Expr}{kk:Nat}{tp p1 p2:Pos} (hg:Gl X "zip") (hm:X.mg "zip"=none) (h1:PE X e1 t1) (h2:PE X e2 t2)
  (hs1:starEach [e1,e2] X.env=(false,eval e1 X.env)::starEach [e2] X.env:=by rfl) (hs2:starEach [e2] X.env=(false,eval e2 X.env)::starEach [] X.env:=by rfl) (hpl:(backTo p2 (starEach [e2] X.env)).any (·.1)=false:=by rfl) :
  PI X (.Tuple elts kk tp) (.Call (.Name "zip" p1) [e1,e2] [] p2) (iZipG K t1 t2):=by
 subst hK
 intro pins s σ H R I h
 refine wpAny_Call_Name_kw (ld_blt I hg hm boot_zip ?_ (by decide) (by decide))
 refine PyProof.Rows.callWith_type1 ?_ hs1 hpl
 rw [hs1,hs2]
 show wpAny _ _ (spliced ((false,eval e1 X.env)::(false,eval e2 X.env)::backTo p2 (starEach [] X.env))) _ _ s
 refine Calls.spliced_cons (thn (h1 pins s σ H _ I h) fun u1 s1 ⟨x,H1,I1,r1,q1⟩=>?_)
 refine Calls.spliced_cons (thn (h2 pins s1 σ H1 _ I1 q1) fun u2 s2 ⟨y,H2,I2,r2,b1,b2,a,b,ex,ey,⟨xs,hx⟩,⟨ys,hy⟩,q⟩=>Calls.spliced_nil ?_)
 subst ex
 subst ey
 cases r1
 cases r2
 obtain⟨its,rx,tx,_⟩:=I2.sqx hx
 obtain⟨its2,ry,ty,_⟩:=I2.sqx hy
 have l1:a < s2.heap.objs.size:=tx.lt
 have l2:b < s2.heap.objs.size:=ty.lt
 refine call_zipG tx ty fun h' zt k=>?_
 refine wpAny_pyIter_zip zt.zip ?_
 have dd:∀i j:Nat,i≠j→s2.heap.objs.size+i≠s2.heap.objs.size+j:=fun i j n e=>n (Nat.add_left_cancel e)
 have na:∀i:Nat,a≠s2.heap.objs.size+i:=fun i=>Nat.ne_of_lt (Nat.lt_of_lt_of_le l1 (Nat.le_add_right _ _))
 have nb:∀i:Nat,b≠s2.heap.objs.size+i:=fun i=>Nat.ne_of_lt (Nat.lt_of_lt_of_le l2 (Nat.le_add_right _ _))
 have hA:ZipApart (s2.heap.objs.size+4) (s2.heap.objs.size+2) (s2.heap.objs.size+3) s2.heap.objs.size (s2.heap.objs.size+1) a b:=
  ⟨dd 2 4 (by decide),dd 3 4 (by decide),dd 0 4 (by decide),dd 1 4 (by decide),dd 2 3 (by decide),dd 2 0 (by decide),dd 2 1 (by decide),dd 3 0 (by decide),dd 3 1 (by decide),dd 0 1 (by decide),na 4,na 3,na 0,na 1,nb 4,nb 3,nb 0,nb 1⟩
 refine⟨_,_,_,_,H2,rfl,I2.kept (t':=s2.toks) k,turn_zipG hA,zt,fun c hc=>?_,q⟩
 have hle:s2.heap.objs.size≤c:=by
  simp only [List.mem_cons,List.not_mem_nil,or_false] at hc
  rcases hc with rfl | rfl | rfl | rfl | rfl
  ·exact Nat.le_add_right _ _
  ·exact Nat.le_add_right _ _
  ·exact Nat.le_add_right _ _
  ·exact Nat.le_refl _
  ·exact Nat.le_add_right _ _
 exact I2.fpOk hle (I2.hok.fresh hle)
end L2
set_option Elab.async false
set_option linter.all false
set_option maxRecDepth 100000
namespace L2
open PySem PySem.Spec PyProof.Rows
variable {X:Cx}
def rCatG (K:PySem.W.Frag):R2:=fun x y H Q=>∃a b xs ys,x=.ref a∧y=.ref b∧SqT K H a xs∧SqT K H b ys∧xs.length+ys.length≤sizeLine∧
 (xs=[]→Q (.ref b) H)∧(xs≠[]→ys=[]→Q (.ref a) H)∧(xs≠[]→ys≠[]→newO H (.tup (xs++ys)) Q)
theorem op_catG (K:PySem.W.Frag) (hK:X.K=K):OpR X (binaryOp .Add) (rCatG K):=by
 subst hK
 intro pins s σ H x y v u Q I rx ry h
 obtain⟨a,b,xs,ys,rfl,rfl,ha,hb,hz,q0,q1,q2⟩:=h
 by_cases c:xs=[]
 ·cases rx
  cases ry
  obtain⟨its,r1,p1,_⟩:=I.tuple ha
  obtain⟨its2,r2,p2,_⟩:=I.tuple hb
  obtain⟨⟨cls,dd,data,sl⟩,ho,hc,n,hd⟩:=id p1
  obtain⟨⟨cls2,dd2,data2,sl2⟩,ho2,hc2,n2,hd2⟩:=id p2
  simp only at hc hd hc2 hd2
  subst hc hd hc2 hd2
  exact concat_meets ⟨_,ho,rfl⟩ ⟨_,ho2,rfl⟩ noFill_tuple_add seq_tuple_add PySem.F.slot_tuple_add PySem.F.entry_tuple_add (PySem.F.args_tuple_add_2 _ _)
   (tuple_addW0 a b its.toArray its2.toArray n n2 dd dd2 sl sl2 (by rw [r1.nil_iff.mpr c];rfl)) ⟨ho,ho2,.ref b,H,I,rfl,q0 c⟩
 ·exact op_catT pins s σ H _ _ v u Q I rx ry ⟨a,b,xs,ys,rfl,rfl,ha,hb,c,hz,q1 c,fun n p hp=>(q2 c n).at p hp⟩
end L2
namespace FL
open PySem PySem.Spec PyProof.Rows L2 PL
variable {K:PySem.W.Frag}
section
variable {X:Cx}{a b c e o:Expr}{es:List Expr}{pos p p1 p2 p3 p4:Pos}{fs:FSt}{w wa wb wc:W PV}{wl wm:W (List PV)}
def addW:PV→PV→W PV
 | .int i,.int j=>.ret (.int (i+j))
 | .str a,.str b=>.chk (a.length+b.length≤sizeLine) (.ret (.str (a++b)))
 | .tup a,.tup b=>.chk (a.length+b.length≤sizeLine) (.ret (.tup (a++b)))
 | _,_=>.fail
theorem e_addF (hK:X.K=K) (ha:EF X K fs a wa) (hb:EF X K fs b wb):EF X K fs (.BinOp a .Add b pos) (.bind wa fun x=>.bind wb fun y=>addW x y):=
 ⟨PE.imp (pe_op ((op_addk K hK).or (op_catG K hK)) ha.p hb.p) fun σ H Q ⟨sr,q⟩=>⟨sr,wa.mono (fun x q1 u1 H1 g1 s1 v1=>⟨s1,wb.mono (fun y q2 u2 H2 g2 s2 v2=>by
  have v1':=g2.vr s1 v1
  cases v1' with
  | int i=>
   cases v2 with
   | int j=>exact .inl ⟨_,rfl,q2 _ H2 (g1.trans g2) s2 (.int _)⟩
   | _=>exact q2.elim
  | str i=>
   cases v2 with
   | str j=>exact .inl ⟨_,rfl,q2.1,q2.2 _ H2 (g1.trans g2) s2 (.str _)⟩
   | _=>exact q2.elim
  | @tup p vs l e r=>
   cases v2 with
   | @tup p' vs' l' e' r'=>
    have q2:(W.chk (l.length+l'.length≤sizeLine) (W.ret (PV.tup (l++l')))).run _:=q2
    refine .inr ⟨p,p',vs,vs',rfl,rfl,SqT.of e,SqT.of e',by rw [r.length,r'.length];exact q2.1,fun z=>?_,fun _ z=>?_,fun _ _ q H3 s3 h3 n3=>?_⟩
    ·have z':=(PL.VRs.nil_iff r).mp z
     subst z'
     exact q2.2 _ H2 (g1.trans g2) s2 (.tup e' r')
    ·have z':=(PL.VRs.nil_iff r').mp z
     subst z'
     have q2:=q2.2
     rw [List.append_nil] at q2
     exact q2 _ H2 (g1.trans g2) s2 (.tup e r)
    ·exact q2.2 _ H3 ((g1.trans g2).trans (GoE.same s3)) (s2.same s3) (.tup h3 (VRs.tk s3.tupsK (r.append r')))
   | _=>exact q2.elim
  | _=>exact q2.elim) q1⟩) q⟩⟩
theorem zipV_le:∀(l m:List PV),(zipV l m).length=min l.length m.length
 | [],m=>by rw [zipV];simp;intros;simp_all
 | x::l,[]=>by rw [zipV];simp;intros;simp_all
 | x::l,y::m=>by rw [zipV,List.length_cons,zipV_le l m];simp only [List.length_cons];omega
def zipW (l m:List PV):W (List PV):=.chk (l.length≤sizeLine) (.ret (zipV l m))
theorem sqI_x {H:Hp}{u:V}{l:List PV} (h:SqI K H u l):∃(b:Bool) (a:Addr) (vs:List V),u=.ref a∧VRs K [] H vs l∧∀H',TupsK K H H'→SqX b K H' a vs:=by
 obtain⟨a,vs,e,h | h,r⟩:=h
 ·exact⟨true,a,vs,e,r,fun H' t=>(t.f _ _ h).sq⟩
 ·exact⟨false,a,vs,e,r,fun H' t=>SqT.of (t.t _ _ h)⟩
theorem it_zip (hK:X.K=K) {elts:List Expr}{kk:Nat}{tp:Pos} (hg:Gl X "zip") (hm:X.mg "zip"=none) (ha:IF X K fs a wl) (hb:IF X K fs b wm)
  (hs1:starEach [a,b] X.env=(false,eval a X.env)::starEach [b] X.env:=by rfl) (hs2:starEach [b] X.env=(false,eval b X.env)::starEach [] X.env:=by rfl) (hpl:(backTo p2 (starEach [b] X.env)).any (·.1)=false:=by rfl) :
  ITF X K fs (.Tuple elts kk tp) (.Call (.Name "zip" p1) [a,b] [] p2) (.bind wl fun l=>.bind wm fun m=>zipW l m):=
 ⟨PI.imp (pi_zipG K hK hg hm ha.p hb.p hs1 hs2 hpl) fun σ H R ⟨sr,q⟩=>⟨sr,wl.mono (fun l q1 u1 H1 g1 s1 v1=>⟨s1,wm.mono (fun m q2 u2 H2 g2 s2 v2=>by
  obtain⟨b1,a1,vs,rfl,r1,x1⟩:=sqI_x (v1.tk (g2.tups s1))
  obtain⟨b2,a2,ws,rfl,r2,x2⟩:=sqI_x v2
  have tr:TupsK K H2 H2:=TupsK.refl H2
  refine⟨b1,b2,a1,a2,rfl,rfl,⟨vs,x1 H2 tr⟩,⟨ws,x2 H2 tr⟩,q2.2 _ H2 (g1.trans g2) s2 ⟨by rw [zipV_le];have:=q2.1;omega,fun H' t=>⟨fun i pp hp=>?_,vs,ws,x1 H' t,x2 H' t,?_⟩⟩⟩
  ·obtain⟨x,y,hx,hy,rfl⟩:=zipV_get hp
   obtain⟨v,h3,h4⟩:=(VRs.tk t r1).get hx
   obtain⟨v',h3',h4'⟩:=(VRs.tk t r2).get hy
   refine⟨⟨vs,ws,v,v',x1 H' t,x2 H' t,h3,h3'⟩,fun z H3 yl=>?_⟩
   obtain⟨p,x',y',rfl,hn,rfl,e1,e2⟩:=yl
   have e1:=e1 vs (x1 H' t)
   have e2:=e2 ws (x2 H' t)
   rw [h3] at e1
   rw [h3'] at e2
   cases e1
   cases e2
   have sm:=same_new hn (.tup [v,v'])
   exact⟨sm,.tup upd_same (.cons (VR.tk sm.tupsK h4) (.cons (VR.tk sm.tupsK h4') .nil))⟩
  ·rw [zipV_le,r1.length,r2.length];omega) q1⟩) q⟩⟩
variable {el eh:Option Expr}{st:Expr}{lo hi ws:W (Option Int)}
end
end FL
set_option Elab.async false
set_option linter.all false
set_option maxRecDepth 100000
set_option Elab.async false
set_option linter.all false
set_option maxRecDepth 100000
namespace FL
open PySem PySem.Spec PyProof.Rows L2 PL
variable {K:PySem.W.Frag}
section
variable {X:Cx}{pins:List (Addr×Obj)}{σ:L2.St}{H:Hp}{s:Shared}
open Classical in
noncomputable def eqG (K:PySem.W.Frag) (H:Hp) (x:PV) (w:Value):Bool:=decide (∃p v,RelV v w∧VR K [] H v p∧feq p x=true)
open Classical in
theorem eqG_of (hK:X.K=K) (I:Inv X pins σ H s) {x p:PV}{v:V}{w:Value} (r:RelV v w) (h:VR K [] H v p):eqG K H x w=feq p x:=by
 subst hK
 unfold eqG
 cases e:feq p x with
 | true=>exact decide_eq_true ⟨p,v,r,h,e⟩
 | false=>
  refine decide_eq_false ?_
  rintro⟨p',v',r',h',e'⟩
  have:=relV_inj r r'
  subst this
  rw [VR.fnI I h h',e'] at e
  cases e
theorem eqG_map (hK:X.K=K) (I:Inv X pins σ H s) {x:PV}:∀{vs:List V}{its:List Value}{l:List PV},Vals vs its→VRs K [] H vs l→its.map (eqG K H x)=l.map fun y=>feq y x
 | _,_,_,.nil,.nil=>rfl
 | _,_,_,.cons r t,.cons q z=>by rw [List.map_cons,List.map_cons,eqG_of hK I r q,eqG_map hK I t z]
def inOk (x:PV) (l:List PV):Prop:=PV.fok x=true∧fokL l=true∧fdepL l≤150
theorem eqG_at (hK:X.K=K) (I:Inv X pins σ H s) {A:Around}{x:PV}{v:V}{w:Value} (hx:VR K [] H v x) (rx:RelV v w) (dx:PV.fok x=true) (hu:A.units+150+1 < cLine) :
  ∀{vs:List V}{its:List Value}{l:List PV},Vals vs its→VRs K [] H vs l→fokL l=true→fdepL l≤150→∀u∈its,SeqAt.EqAt A s u w (eqG K H x u)
 | _,_,_,.nil,.nil,_,_,u,hu=>by cases hu
 | _,_,_,.cons r t,.cons q z,d,dd,u,hm=>by
  rw [fokL,Bool.and_eq_true] at d
  rw [fdepL] at dd
  rcases List.mem_cons.mp hm with rfl | hm
  ·rw [eqG_of hK I r q]
   exact (cmpF hK I 150 _ x A _ v _ w (by omega) d.1 dx q hx r rx hu).eq
  ·exact eqG_at hK I hx rx dx hu t z d.2 (by omega) u hm
end
def hasF (x:PV) (l:List PV):Bool:=l.any fun y=>feq y x
def rInF (K:PySem.W.Frag) (neg:Bool):R2:=fun x y H Q=>∃p vs l xp,y=.ref p∧(SqL K H p vs∨SqT K H p vs)∧VRs K [] H vs l∧VR K [] H x xp∧inOk xp l∧Q (.bl (if neg then !hasF xp l else hasF xp l)) H
section
variable {X:Cx}
theorem any_map' {α:Type} (f:α→Bool):∀l:List α,l.any f=(l.map f).any id
 | []=>rfl
 | x::l=>by rw [List.any_cons,List.map_cons,List.any_cons,any_map' f l];rfl
theorem op_inF (K:PySem.W.Frag) (hK:X.K=K) (hu:X.A.units+200 < cLine):OpR X (compareOp .In) (rInF K false):=by
 intro pins s σ H x y v u Q I rx ry h
 obtain⟨p,vs,l,xp,rfl,hq,hl,hx,ok,q⟩:=h
 cases ry
 have hu':X.A.in1.units+150+1 < cLine:=by show X.A.units+1+150+1 < _;omega
 have q:Q (.bl (hasF xp l)) H:=q
 have fin:∀{its:List Value},Vals vs its→its.toArray.any (eqG K H xp)=hasF xp l:=fun {its} r=>by
  rw [show its.toArray.any (eqG K H xp)=its.any (eqG K H xp) by simp,any_map',eqG_map hK I r hl,← any_map'];rfl
 rcases hq with hq | hq
 ·obtain⟨its,r,pl,hz⟩:=I.list (show SqL X.K H p vs by rw [hK];exact hq)
  refine SeqAt.in_listAt (eqG K H xp) pl.isList (fun w hw=>eqG_at hK I hx rx ok.1 hu' r hl ok.2.1 ok.2.2 w (by simpa using hw)) ⟨.bl _,H,I,rfl,?_⟩
  rw [fin r];exact q
 ·obtain⟨its,r,pl,hz⟩:=I.tuple (show SqT X.K H p vs by rw [hK];exact hq)
  refine SeqAt.in_tupleAt (eqG K H xp) pl (fun w hw=>eqG_at hK I hx rx ok.1 hu' r hl ok.2.1 ok.2.2 w (by simpa using hw)) ⟨.bl _,H,I,rfl,?_⟩
  rw [fin r];exact q
theorem op_ninF (K:PySem.W.Frag) (hK:X.K=K) (hu:X.A.units+200 < cLine):OpR X (compareOp .NotIn) (rInF K true):=by
 intro pins s σ H x y v u Q I rx ry h
 obtain⟨p,vs,l,xp,rfl,hq,hl,hx,ok,q⟩:=h
 cases ry
 have hu':X.A.in1.units+150+1 < cLine:=by show X.A.units+1+150+1 < _;omega
 have q:Q (.bl (!hasF xp l)) H:=q
 have fin:∀{its:List Value},Vals vs its→its.toArray.any (eqG K H xp)=hasF xp l:=fun {its} r=>by
  rw [show its.toArray.any (eqG K H xp)=its.any (eqG K H xp) by simp,any_map',eqG_map hK I r hl,← any_map'];rfl
 rcases hq with hq | hq
 ·obtain⟨its,r,pl,hz⟩:=I.list (show SqL X.K H p vs by rw [hK];exact hq)
  refine SeqAt.notIn_listAt (eqG K H xp) pl.isList (fun w hw=>eqG_at hK I hx rx ok.1 hu' r hl ok.2.1 ok.2.2 w (by simpa using hw)) ⟨.bl _,H,I,rfl,?_⟩
  rw [fin r];exact q
 ·obtain⟨its,r,pl,hz⟩:=I.tuple (show SqT X.K H p vs by rw [hK];exact hq)
  refine SeqAt.notIn_tupleAt (eqG K H xp) pl (fun w hw=>eqG_at hK I hx rx ok.1 hu' r hl ok.2.1 ok.2.2 w (by simpa using hw)) ⟨.bl _,H,I,rfl,?_⟩
  rw [fin r];exact q
def idxF (x:PV) (l:List PV):Nat:=l.findIdx fun y=>feq y x
def rIdxF (K:PySem.W.Frag):V→List V→Hp→VK→Prop:=fun x us H Q=>∃p vs l y q,x=.ref p∧us=[y]∧SqL K H p vs∧VRs K [] H vs l∧VR K [] H y q∧inOk q l∧hasF q l=true∧Q (.int (idxF q l)) H
theorem mt_idxF (K:PySem.W.Frag) (hK:X.K=K) (hu:X.A.units+200 < cLine):MtM X "list.index" (rIdxF K):=by
 intro pins s σ H x vs v us Q I rx rv h
 obtain⟨p,ws,l,y,q,rfl,rfl,hq,hl,hy,ok,has,qq⟩:=h
 cases rx
 obtain⟨u,rfl,ru⟩:=rv.one
 have hu':X.A.in1.units+150+1 < cLine:=by show X.A.units+1+150+1 < _;omega
 obtain⟨its,r,⟨⟨cls,dd,data,sl⟩,n,ho,hc,hd,hdat⟩,hz⟩:=I.list (show SqL X.K H p ws by rw [hK];exact hq)
 simp only at hc hd hdat
 subst hc hd hdat
 have em:=eqG_map (x:=q) hK I r hl
 have hlen:its.length=l.length:=by rw [← r.length,hl.length]
 have hlt:idxF q l < l.length:=List.findIdx_lt_length_of_exists (by simpa [hasF] using has)
 have at':∀(j:Nat) (h1:j < its.length) (h2:j < l.length),eqG K H q its[j]=feq l[j] q:=fun j h1 h2=>by
  have e:=congrArg (fun z=>z[j]?) em
  simp only [List.getElem?_map,List.getElem?_eq_getElem h1,List.getElem?_eq_getElem h2,Option.map_some] at e
  exact Option.some.inj e
 have hsm:((idxF q l:Nat):Int) < 2 ^ 63-1:=by
  have h8:l.length≤sizeLine:=by rw [← hl.length];exact hz
  have h9:(sizeLine:Int) < 2 ^ 63-1:=by decide
  omega
 refine call_meets F.slot_list_index ⟨_,ho,rfl⟩ F.entry_list_index (F.args_list_index_2 _ _) (SeqAt.list_indexAt p its.toArray n none sl u (eqG K H q) (idxF q l) (by rw [List.size_toArray];omega) hsm ?_ ?_) ⟨ho,?_,?_⟩
 ·have h1:idxF q l < its.length:=by omega
  rw [show its.toArray[idxF q l]'(by rw [List.size_toArray];omega)=its[idxF q l] by simp,at' _ h1 hlt]
  exact List.findIdx_getElem (w:=hlt)
 ·intro m hm hmj
  have h1:m < its.length:=by rw [List.size_toArray] at hm;exact hm
  rw [show its.toArray[m]=its[m] by simp,at' _ h1 (by omega)]
  have:=List.not_of_lt_findIdx (p:=fun y=>feq y q) (xs:=l) hmj
  simpa using this
 ·intro w hw
  exact eqG_at hK I hy ru ok.1 hu' r hl ok.2.1 ok.2.2 w (by simpa using hw)
 ·exact⟨.int _,H,I.tok _,⟨_,rfl⟩,qq⟩
end
end FL
set_option Elab.async false
set_option linter.all false
set_option maxRecDepth 100000
namespace FL
open PySem PySem.Spec PyProof.Rows L2 PL
variable {K:PySem.W.Frag}
section
variable {X:Cx}{a b c e o:Expr}{es:List Expr}{pos p p1 p2 p3 p4 apos cpos:Pos}{fs:FSt}{w wa wb wc:W PV}{wl wm:W (List PV)}
def inW' (neg:Bool) (x:PV) (l:List PV):W Bool:=.chk (inOk x l) (.ret (if neg then !hasF x l else hasF x l))
theorem fT_inF {neg:Bool}:∀σ H Q,fT K fs (.bind wa fun x=>.bind wl fun l=>inW' neg x l) σ H Q→tOp (rInF K neg) (fE K fs wa) (fQ K fs wl) σ H fun x H'=>∃k,x=.bl k∧Q k H':=fun σ H Q ⟨sr,q⟩=>
 ⟨sr,wa.mono (fun x q1 u1 H1 g1 s1 v1=>⟨s1,wl.mono (fun l q2 u2 H2 g2 s2 v2=>by
  obtain⟨ad,vs,rfl,h,rs⟩:=v2.sq s2
  exact⟨ad,vs,l,x,rfl,h,rs,g2.vr s1 v1,q2.1,_,rfl,q2.2 H2 (g1.trans g2) s2⟩) q1⟩) q⟩
theorem t_ninF (hK:X.K=K) (hu:X.A.units+200 < cLine) (ha:EF X K fs a wa) (hb:QF X K fs b wl) (hk:behindInMarks .NotIn b=false:=by rfl):TF X K fs (.Compare a [.NotIn] [b] pos) (.bind wa fun x=>.bind wl fun l=>inW' true x l):=⟨PT.imp (pt_cmpR (op_ninF K hK hu) ha.p hb.p hk) (fT_inF (neg:=true))⟩
abbrev inFT (neg:Bool) (wa:W PV) (wl:W (List PV)):W Bool:=.bind wa fun x=>.bind wl fun l=>inW' neg x l
def sortI (ns:List Int):List Int:=ns.mergeSort (fun a b=>decide (a≤b))
theorem sortI_of {ms ns:List Int} (h1:ms.Perm ns) (h2:ms.Pairwise (·≤·)):ms=sortI ns:=by
 have h3:(sortI ns).Perm ns:=List.mergeSort_perm ns _
 have h4:(sortI ns).Pairwise (fun a b=>decide (a≤b)=true):=List.pairwise_mergeSort (fun a b c=>by simp;omega) (fun a b=>by simp;omega) ns
 exact List.Perm.eq_of_pairwise (le:=fun a b=>a≤b) (fun a b _ _ h h'=>Int.le_antisymm h h') h2 (h4.imp (by simp)) (h1.trans h3.symm)
def sortIW (l:List PV):W (List PV):=.bind (intsW l) fun ns=>.chk (ns.length < 64) (.ret ((sortI ns).map PV.int))
theorem l_sortI (hK:X.K=K) (hg:Gl X "sorted") (hm:X.mg "sorted"=none) (ha:QLF X K fs e wl) (he:starEach [e] X.env=(false,eval e X.env)::starEach [] X.env:=by rfl) (hpl:(backTo pos (starEach [] X.env)).any (·.1)=false:=by rfl):LF X K fs (.Call (.Name "sorted" p) [e] [] pos) (.bind wl sortIW):=⟨PE.imp (pe_callB (call_sortI K hK) hg hm boot_sorted (pa_cons ha.p pa_nil he) (by decide) (by decide) he hpl) fun σ H Q ⟨sr,q⟩=>⟨sr,wl.mono (fun l q1 u1 H1 g1 s1 _ v1=>by
 obtain⟨ns,el,hC,q2⟩:=intsW_run (l:=l) q1
 obtain⟨a,vs,rfl,h1,r1⟩:=v1 H1 .refl s1
 rw [el] at r1
 have:=ints_vs r1
 subst this
 refine⟨a,ns,rfl,h1,hC,fun ms a2 a3=>?_⟩
 rw [sortI_of a2 a3]
 exact new_l g1 s1 (ints_vr _ _ _) q2) q⟩⟩
def idxW (l:List PV) (x:PV):W PV:=.chk (inOk x l∧hasF x l=true) (.ret (.int (idxF x l)))
theorem e_index (hK:X.K=K) (hu:X.A.units+200 < cLine) (ho:QLF X K fs o wl) (he:EF X K fs e w)
  (hbase:attributeBase o "index" X.env (eval o X.env)=eval o X.env:=by rfl)
  (hfew:((backTo cpos (starEach [e] X.env)).all (fun x=>!x.1)&&(backToKw cpos (keywordEach [] X.env)).all (fun x=>x.1.isSome)
   && decide ([e].length+([]:List Keyword).length+(if ([]:List Keyword).isEmpty then 0 else 1) < 30))=true:=by rfl)
  (hline:(apos.endLine==cpos.line)=true:=by rfl) (hst:starEach [e] X.env=(false,eval e X.env)::starEach [] X.env:=by rfl) (hplain:(backTo cpos (starEach [] X.env)).any (·.1)=false:=by rfl) :
  EF X K fs (.Call (.Attribute o "index" apos) [e] [] cpos) (.bind wl fun l=>.bind w fun x=>idxW l x):=
 ⟨PE.imp (pe_bmk K hK PySem.F.plainAttrs_list PySem.F.slot_list_index PySem.F.type_list_index (mt_idxF K hK hu) ho.p (pa_cons he.p pa_nil hst) hbase hfew hline hst hplain) fun σ H Q ⟨sr,q⟩=>⟨sr,wl.mono (fun l q1 u1 H1 g1 s1 _ v1=>by
  obtain⟨a,vs,eu,h1,_⟩:=v1 H1 .refl s1
  subst eu
  refine⟨.inl ⟨rfl,_,h1⟩,s1,w.mono (fun x q2 u2 H2 g2 s2 v2=>?_) q1⟩
  ·obtain⟨a',vs,ea,h2,r2⟩:=v1 H2 g2 s2
   cases ea
   exact⟨a,vs,l,u2,x,rfl,rfl,h2,r2,v2,q2.1.1,q2.1.2,q2.2 _ H2 (g1.trans g2) s2 (.int _)⟩) q⟩⟩
variable {el eh:Option Expr}{st:Expr}{lo hi ws:W (Option Int)}
end
end FL
set_option Elab.async false
set_option linter.all false
set_option maxRecDepth 100000
namespace FL
open PySem PySem.Spec PyProof.Rows L2 PL
variable {K:PySem.W.Frag}
section
variable {X:Cx}{e:Expr}{rest:List Stmt}{pos p apos cpos tpos:Pos}{fs:FSt}{T:Type}{out:T→End}{x:Bool}{we wi wa wb:W PV}{wl:W (List PV)}{q0:Option Addr}{l:List PV}{y:Str}
def ixN0 (l:List PV):PV→W PV
 | .int k=>.chk (0≤k∧k < 1000) (.ofO l[k.toNat]?)
 | _=>.fail
theorem SF.augI (i:Nat) {ei:Expr}{op:Operator}{ti:TIp}{M:M2}{k:List PV→W T} (hs:fs[i]?=some (some (.ol q0 l))) (hK:X.K=K) (hN:X.N[i]?=some y) (hv:Vis X.env.scope y) (hi:EF X K fs ei wi) (he:EF X K fs e we) (ho:PIp X op ti) (hM:M2.Ok K ti M) (hr:∀l',SF X K x (fs.set i (some (.ol q0 l'))) rest (k l') out)
  (hd:(y==("__debug__":Str))=false:=by decide) (hcd:(y==("__classdict__":Str))=false:=by decide)
  (ha:∀ov iv new,augStore ei ov iv new=(do holding [new,ov,iv] (setItem ov iv new);release [new,ov,iv] [];pure .next):=by intros;rfl) :
  SF X K x fs (.AugAssign (.Subscript (.Name y p) ei tpos) op e pos::rest) (.bind wi fun n=>.bind (ixN0 l n) fun g=>.bind we fun v=>.bind (of2 M g v) fun r=>.bind (setW l n r) k) out:=
 SF.step (ps_augS (pe_var hN hv hd hcd) hi.p (get_seqk K hK) he.p ho set_listN ha) fun D σ H ⟨sr,q⟩=>by
  obtain⟨a,ws,e1,h1,r1⟩:=own_at sr hs
  refine⟨_,e1,sr,wi.mono (fun n q1 u1 H1 g1 s1 v1=>?_) q⟩
  obtain⟨a',ws1,e1',h1',r1'⟩:=own_at s1 hs
  rw [e1] at e1'
  cases e1'
  cases v1 with
  | int kk=>
   have q1:(0≤kk∧kk < 1000)∧(W.ofO l[kk.toNat]?).run _:=q1
   obtain⟨⟨b1,b2⟩,q1⟩:=q1
   cases hg:l[kk.toNat]? with
   | none=>rw [hg] at q1;exact q1.elim
   | some g=>
    rw [hg] at q1
    obtain⟨u,hu,ru⟩:=r1'.get hg
    refine⟨a,ws1,kk,u,rfl,rfl,SqL.of h1',b1,b2,hu,s1,we.mono (fun v q2 u2 H2 g2 s2 v2=>?_) q1⟩
    refine of2_ok hM s2 (g2.vr s1 ru) v2 ((of2 M g v).mono (fun r q3 u3 H3 g3 s3 v3=>?_) q2)
    obtain⟨a',ws3,e3',h3',r3'⟩:=own_at s3 hs
    rw [e1] at e3'
    cases e3'
    have q3:(match ixN l.length kk with | some j=>W.ret (l.set j r) | none=>W.fail).run _:=q3
    cases hj:ixN l.length kk with
    | none=>rw [hj] at q3;exact q3.elim
    | some j=>
     rw [hj] at q3
     refine⟨a,ws3,kk,j,rfl,rfl,h3',by rw [r3'.length];exact hj,fun H4 sx h4=>?_⟩
     obtain⟨s4,g4⟩:=own_put s3 hs e1 sx h4 (r3'.set v3 j)
     exact⟨_,k _,hr _,s4,(k _).mono (fun t q4=>q4.go (((g1.trans g2).trans g3).f.trans g4) sr s4) q3⟩
  | _=>exact q1.elim
def slsW (l:List PV) (i j:PV) (m:List PV):W (List PV):=match i,j with
 | .int a,.int c=>.chk (0≤a∧a≤c∧c≤l.length∧l.length+m.length≤sizeLine) (.ret (l.take a.toNat++m++l.drop c.toNat))
 | _,_=>.fail
theorem SF.slset (i:Nat) {lo hi:Expr}{p2:Pos}{k:List PV→W T} (hs:fs[i]?=some (some (.ol q0 l))) (hN:X.N[i]?=some y) (hv:Vis X.env.scope y) (he:LF X K fs e wl) (hl:EF X K fs lo wa) (hh:EF X K fs hi wb) (hr:∀l',SF X K x (fs.set i (some (.ol q0 l'))) rest (k l') out)
  (ha:∀v,assign (.Subscript (.Name y p) (.Slice (some lo) (some hi) none p2) tpos) X.env v=(do
   let ov ← holding [v] (eval (.Name y p) X.env)
   let iv ← holding [v,ov] (eval (.Slice (some lo) (some hi) none p2) X.env)
   standAt tpos
   holding [v,ov,iv] (setItem ov iv v)
   release [iv,v,ov] []):=by intro _;rfl)
  (hd:(y==("__debug__":Str))=false:=by decide) (hcd:(y==("__classdict__":Str))=false:=by decide)
  (hss:swapsWithSole [.Subscript (.Name y p) (.Slice (some lo) (some hi) none p2) tpos] e pos.line X.env=pure false:=by rfl) (hw:swappedStores [.Subscript (.Name y p) (.Slice (some lo) (some hi) none p2) tpos] e X.env=pure none:=by rfl)
  (h1:(assignEach [.Subscript (.Name y p) (.Slice (some lo) (some hi) none p2) tpos] X.env).map (·.2)=[assign (.Subscript (.Name y p) (.Slice (some lo) (some hi) none p2) tpos) X.env]:=by rfl) :
  SF X K x fs (.Assign [.Subscript (.Name y p) (.Slice (some lo) (some hi) none p2) tpos] e pos::rest) (.bind wl fun m=>.bind wa fun a=>.bind wb fun b=>.bind (slsW l a b m) k) out:=
 SF.step (ps_asg he.p (pg_slice (pe_var hN hv hd hcd) hl.p hh.p ha) hss hw h1) fun D σ H ⟨sr,q⟩=>by
  refine⟨sr,wl.mono (fun m q1 b vb H1 g1 s1 nb eb rb=>?_) q⟩
  obtain⟨a,ws,e1,h1,r1⟩:=own_at s1 hs
  refine⟨_,e1,s1,wa.mono (fun i1 q2 u2 H2 g2 s2 v2=>⟨s2,wb.mono (fun j1 q3 u3 H3 g3 s3 v3=>?_) q2⟩) q1⟩
  obtain⟨a',ws3,e3',h3',r3'⟩:=own_at s3 hs
  rw [e1] at e3'
  cases e3'
  have v2':=g3.vr s2 v2
  have no:¬Owns σ fs b:=sr.noOwn nb
  have eb3:=(g2.trans g3).keepN eb no
  have rb3:=(g2.trans g3).vrs s1 rb
  have ne:a≠b:=fun z=>no ⟨i,_,a,hs,rfl,e1,.inl z.symm⟩
  cases v2' with
  | int aa=>
   cases v3 with
   | int cc=>
    have q3:(0≤aa∧aa≤cc∧cc≤l.length∧l.length+m.length≤sizeLine)∧(k (l.take aa.toNat++m++l.drop cc.toNat)).run _:=q3
    obtain⟨⟨c1,c2,c3,c4⟩,q3⟩:=q3
    refine⟨a,b,ws3,vb,aa,cc,rfl,rfl,rfl,rfl,h3',eb3,ne,c1,c2,by rw [r3'.length];exact c3,by rw [r3'.length,rb3.length];exact c4,?_⟩
    have sx:SameX a H3 (upd H3 a (.lst (ws3.take aa.toNat++vb++ws3.drop cc.toNat))):=fun z o n hz=>by rw [upd_ne n];exact hz
    obtain⟨s4,g4⟩:=own_put s3 hs e1 sx upd_same (((r3'.take aa.toNat).append rb3).append (r3'.drop cc.toNat))
    exact⟨_,k _,hr _,s4,(k _).mono (fun t q4=>q4.go (((g1.trans g2).trans g3).f.trans g4) sr s4) q3⟩
   | _=>exact q3.elim
  | _=>exact q3.elim
def remW (l:List PV) (v:PV):W (List PV):=match v with
 | .int k=>.bind (intsW l) fun ns=>.chk (k∈ns) (.ret ((ns.erase k).map PV.int))
 | _=>.fail
theorem SF.remove (i:Nat) {k:List PV→W T} (hs:fs[i]?=some (some (.ol q0 l))) (hK:X.K=K) (hN:X.N[i]?=some y) (hv:Vis X.env.scope y) (he:EF X K fs e we) (hr:∀l',SF X K x (fs.set i (some (.ol q0 l'))) rest (k l') out)
  (hd:(y==("__debug__":Str))=false:=by decide) (hcd:(y==("__classdict__":Str))=false:=by decide) (hbase:attributeBase (.Name y p) "remove" X.env (eval (.Name y p) X.env)=eval (.Name y p) X.env:=by rfl)
  (hfew:((backTo cpos (starEach [e] X.env)).all (fun x=>!x.1)&&(backToKw cpos (keywordEach [] X.env)).all (fun x=>x.1.isSome)
   && decide ([e].length+([]:List Keyword).length+(if ([]:List Keyword).isEmpty then 0 else 1) < 30))=true:=by rfl)
  (hline:(apos.endLine==cpos.line)=true:=by rfl) (hst:starEach [e] X.env=(false,eval e X.env)::starEach [] X.env:=by rfl) (hplain:(backTo cpos (starEach [] X.env)).any (·.1)=false:=by rfl)
  (hsw:swapsWith (.Call (.Attribute (.Name y p) "remove" apos) [e] [] cpos) none pos.line X.env=pure false:=by rfl) :
  SF X K x fs (.Expr (.Call (.Attribute (.Name y p) "remove" apos) [e] [] cpos) pos::rest) (.bind we fun v=>.bind (remW l v) k) out:=
 SF.step (ps_expr (pe_bmk K hK PySem.F.plainAttrs_list PySem.F.slot_list_remove PySem.F.type_list_remove mt_removeN (pe_var hN hv hd hcd) (pa_cons he.p pa_nil hst) hbase hfew hline hst hplain) hsw) fun D σ H ⟨sr,q⟩=>by
  obtain⟨a,ws,e1,h1,r1⟩:=own_at sr hs
  refine⟨_,e1,.inl ⟨rfl,_,SqL.of h1⟩,sr,we.mono (fun v q1 u H1 g1 s1 v1=>?_) q⟩
  obtain⟨a',ws',e1',h1',r1'⟩:=own_at s1 hs
  rw [e1] at e1'
  cases e1'
  cases v1 with
  | int kk=>
   obtain⟨ns,el,hk,q2⟩:=intsW_run (l:=l) q1
   subst el
   have:=ints_vs r1'
   subst this
   refine⟨a,ns,kk,rfl,rfl,h1',hk,fun H2 sx h2=>?_⟩
   obtain⟨s2,g2⟩:=own_put s1 hs e1 sx h2 (ints_vr _ _ (ns.erase kk))
   exact⟨_,k _,hr _,s2,(k _).mono (fun t q3=>q3.go (g1.f.trans g2) sr s2) q2⟩
  | _=>exact q1.elim
end
end FL
set_option Elab.async false
set_option linter.all false
set_option maxRecDepth 100000
namespace FL
open PySem PySem.Spec PyProof.Rows L2 PL
variable {K:PySem.W.Frag}
abbrev w2 (f:PV→PV→W PV) (wa wb:W PV):W PV:=.bind wa fun x=>.bind wb fun y=>f x y
def hasK (kvs:List (Key×PV)) (k:Key):Bool:=kvs.any fun kv=>decide (kv.1=k)
def getK (kvs:List (Key×PV)) (k:Key):Option PV:=(kvs.find? fun kv=>decide (kv.1=k)).map (·.2)
def DRel (K:PySem.W.Frag) (H:Hp) (vs:List (Key×V)) (kvs:List (Key×PV)):Prop:=vs.map (·.1)=kvs.map (·.1)∧VRs K [] H (vs.map (·.2)) (kvs.map (·.2))
section
variable {H:Hp}
theorem DRel.cons_inv {p:Key×V}{vs:List (Key×V)}{q:Key×PV}{kvs:List (Key×PV)} (h:DRel K H (p::vs) (q::kvs)):p.1=q.1∧VR K [] H p.2 q.2∧DRel K H vs kvs:=by
 obtain⟨h1,h2⟩:=h
 rw [List.map_cons,List.map_cons] at h1 h2
 injection h1 with a b
 cases h2 with
 | cons r t=>exact⟨a,r,b,t⟩
theorem DRel.ind {C:List (Key×V)→List (Key×PV)→Prop} (h0:C [] []) (h1:∀p q vs kvs,p.1=q.1→VR K [] H p.2 q.2→DRel K H vs kvs→C vs kvs→C (p::vs) (q::kvs)):∀{vs kvs},DRel K H vs kvs→C vs kvs
 | [],[],_=>h0
 | [],_::_,h=>by simp [DRel] at h
 | _::_,[],h=>by simp [DRel] at h
 | p::vs,q::kvs,h=>let ⟨a,b,c⟩:=h.cons_inv;h1 p q vs kvs a b c (DRel.ind h0 h1 c)
theorem DRel.has {vs:List (Key×V)}{kvs:List (Key×PV)} (h:DRel K H vs kvs) (k:Key):(valV vs k).isSome=hasK kvs k:=by
 rw [← valV_any]
 unfold hasK
 refine DRel.ind (C:=fun vs kvs=>(vs.any fun kv=>decide (kv.1=k))=kvs.any fun kv=>decide (kv.1=k)) rfl (fun p q vs kvs e _ _ ih=>?_) h
 rw [List.any_cons,List.any_cons,ih,e]
theorem DRel.get {vs:List (Key×V)}{kvs:List (Key×PV)} (h:DRel K H vs kvs) (k:Key) {v:PV} (g:getK kvs k=some v):∃u,valV vs k=some u∧VR K [] H u v:=by
 refine DRel.ind (C:=fun vs kvs=>getK kvs k=some v→∃u,valV vs k=some u∧VR K [] H u v) (fun g=>by simp [getK] at g) (fun p q vs kvs e r _ ih g=>?_) h g
 by_cases c:p.1=k
 ·rw [valV_pos c]
  have c':q.1=k:=e▸c
  have:getK (q::kvs) k=some q.2:=by simp [getK,List.find?_cons,c']
  rw [this] at g
  cases g
  exact⟨_,rfl,r⟩
 ·rw [valV_neg c]
  have c':¬q.1=k:=e▸c
  have:getK (q::kvs) k=getK kvs k:=by simp [getK,List.find?_cons,c']
  exact ih (this▸g)
end
end FL
set_option Elab.async false
set_option linter.all false
set_option maxRecDepth 100000
namespace FL
open PySem PySem.Spec PyProof.Rows L2 PL
variable {K:PySem.W.Frag}
def fAs (K:PySem.W.Frag) (fs:FSt) (i:Nat) (w:W (List PV)):TS:=fun D σ H=>SRf K H σ fs∧w.run fun l=>∀a vs H',GoE σ fs H H'→SRf K H' σ fs→H a=none→H' a=some (.lst vs)→VRs K [] H' vs l→D.nx (σ.set i (some (.ref a))) H'
structure AS (X:Cx) (K:PySem.W.Frag) (fs:FSt) (st:Stmt) (i:Nat) (w:W (List PV)):Prop where p:PS X st (fAs K fs i w)
section
variable {X:Cx}{st:Stmt}{rest:List Stmt}{fs:FSt}{i:Nat}{wl:W (List PV)}{T:Type}{out:T→End}{x:Bool}{k:List PV→W T}
theorem SF.as (h:AS X K fs st i wl) (hr:∀l,SF X K x (fs.set i (some (.ol none l))) rest (k l) out):SF X K x fs (st::rest) (.bind wl k) out:=SF.step h.p fun D σ H ⟨sr,q⟩=>⟨sr,wl.mono (fun l q1 a ws H1 g1 s1 n e v1=>by
 have no:=sr.noOwn n
 have s2:=s1.putO (t:=.ol none l) ⟨by simp,ws,e,v1⟩ no i
 exact⟨_,k l,hr l,s2,(k l).mono (fun t q2=>q2.go (GoF.putO s1 g1.f no n i) sr s2) q1⟩) q⟩
theorem as_bor (b:Nat) {q0:Option Addr}{l:List PV} (hs:fs[b]?=some (some (.ol q0 l))) (h:AS X K (fs.set b (some (.val (.cl l)))) st i wl):AS X K fs st i (.bind wl thawL):=⟨fun pins s σ H D I ⟨sr,q⟩=>by
 obtain⟨a,ws,ob,I2,s2,back⟩:=bor I sr hs
 refine thn (h.p pins s σ _ {nx:=fun σ' H1=>∃b vs l',σ'=σ.set i (some (.ref b))∧GoE σ (fs.set _ (some (.val (.cl l)))) (upd H a (.frz ob (.lst ws))) H1∧SRf K H1 σ (fs.set _ (some (.val (.cl l))))∧upd H a (.frz ob (.lst ws)) b=none∧H1 b=some (.lst vs)∧VRs K [] H1 vs l'∧datL l'=true∧∀a vs H',GoE σ fs H H'→SRf K H' σ fs→H a=none→H' a=some (.lst vs)→VRs K [] H' vs l'→D.nx (σ.set i (some (.ref a))) H',rt:=D.rt,bk:=D.bk,ct:=D.ct} I2 ⟨s2,wl.mono (fun l' q1 b vs H1 g1 s1 n e v1=>⟨b,vs,l',rfl,g1,s1,n,e,v1,q1.1,q1.2⟩) q⟩) fun f s1 q1=>?_
 cases f with
 | next=>
  obtain⟨σ',H1,I1,b,vs,l',rfl,g1,s1',n,eb,v1,d,q1⟩:=q1
  obtain⟨I3,g3,s3,t3,k3⟩:=back _ s1 H1 I1 g1 s1'
  have nb:b≠a:=fun y=>by subst y;rw [upd_same] at n;cases n
  exact⟨_,_,I3,q1 b vs _ g3 s3 (by rw [upd_ne nb] at n;exact n) (k3 b vs nb eb) (VRs.dat_any t3 v1 d)⟩
 | ret v=>exact q1
 | brk=>exact q1
 | cont=>exact q1⟩
end
section
variable {X:Cx}{elt tg iter c:Expr}{ifs:List Expr}{sc:Scope}{N':List Str}{ix:List (Option Nat)}{pos:Pos}{fs:FSt}{wl:W (List PV)}{T2:Type}{wt:PV→W T2}{is:List Nat}{fs2:T2→FSt}{tf:T2→W Bool}{te:T2→W PV}
theorem as_lc {f:PV→W (Option PV)}{i:Nat}{y:Str}{px spos:Pos} (hc:X.calm=true) (hN:X.N.Nodup) (hi':X.N[i]?=some y) (hx:X.env.scope.names.lookup y=some .local) (S:LcScope X.env.scope X.N sc N' ix) (hi:ITF X K fs tg iter wl) (hg:∀cl C s2 H2 fp,GF (blk X sc N' cl C s2 H2 fp) K (blkF ix fs) tg is wt fs2) (hfs:∀cl C s2 H2 fp t,FF (blk X sc N' cl C s2 H2 fp) K (fs2 t) ifs (tf t)) (he:∀cl C s2 H2 fp t,EF (blk X sc N' cl C s2 H2 fp) K (fs2 t) elt (te t))
  (hf:∀p,f p=.bind (wt p) fun t=>.bind (tf t) fun k=>if k=true then .bind (te t) fun v=>.ret (some v) else .ret none) (hl:Lay2 is (blkF ix fs) fs2∧∀t,LeF (fs2 t) (blkF ix fs)) (hin:∀j∈is,ix[j]?=some none)
  (hsw:swapsWith (.ListComp elt [⟨tg,iter,ifs,0⟩] sc pos) (some (.Name y px)) spos.line X.env=pure true:=by rfl) (hs:∀x,foldedSetIterable iter X.env x=pure x:=by intro _;rfl) :
  AS X K fs (.Assign [.Name y px] (.ListComp elt [⟨tg,iter,ifs,0⟩] sc pos) spos) i (.bind wl fun l=>lcW l f):=
 ⟨PS.imp (ps_setlc hc hN hi' hx S hi.p (fun cl C s2 H2 fp=>(hg cl C s2 H2 fp).p) (fun cl C s2 H2 fp pins s σ H Q I ⟨t,q⟩=>(hfs cl C s2 H2 fp t).p pins s σ H Q I q) (fun cl C s2 H2 fp pins s σ H Q I ⟨t,q⟩=>(he cl C s2 H2 fp t).p pins s σ H Q I q) hsw hs) fun D σ H ⟨sr,q⟩=>
  fL_lc (K:=K) S rfl hf hl.1 hl.2 hin σ H _ ⟨sr,q⟩⟩
variable {i:Nat}{y:Str}{px spos:Pos}
theorem as_lc1 {j:Nat}{tf:PV→W Bool}{te:PV→W PV} (hc:X.calm=true) (hN:X.N.Nodup) (hi':X.N[i]?=some y) (hx:X.env.scope.names.lookup y=some .local) (S:LcScope X.env.scope X.N sc N' ix) (hi:ITF X K fs tg iter wl) (hg:∀cl C s2 H2 fp,PG (blk X sc N' cl C s2 H2 fp) tg (gName j)) (hf:∀cl C s2 H2 fp t,TF (blk X sc N' cl C s2 H2 fp) K ((blkF ix fs).set j (some (.val t))) c (tf t)) (he:∀cl C s2 H2 fp t,EF (blk X sc N' cl C s2 H2 fp) K ((blkF ix fs).set j (some (.val t))) elt (te t)) (h0:ix[j]?=some none)
  (hsw:swapsWith (.ListComp elt [⟨tg,iter,[c],0⟩] sc pos) (some (.Name y px)) spos.line X.env=pure true:=by rfl) (hs:∀x,foldedSetIterable iter X.env x=pure x:=by intro _;rfl) :
  AS X K fs (.Assign [.Name y px] (.ListComp elt [⟨tg,iter,[c],0⟩] sc pos) spos) i (.bind wl fun l=>lcW l fun p=>lcB (tf p) (te p)):=
 have h1:(blkF ix fs)[j]?=some none:=by unfold blkF;rw [List.getElem?_map,h0];rfl
 as_lc (wt:=.ret) (tf:=tf) (te:=te) hc hN hi' hx S hi (fun cl C s2 H2 fp=>g_1 (hg cl C s2 H2 fp)) (fun cl C s2 H2 fp t=>ff_one (hf cl C s2 H2 fp t)) he (fun _=>rfl) (lay1 h1) (fun m hj=>by rw [List.mem_singleton] at hj;subst hj;exact h0) hsw hs
end
end FL
set_option Elab.async false
set_option linter.all false
set_option maxRecDepth 100000
namespace L2
open PySem PySem.Spec PyProof.Rows
theorem Inv.freezeK {X:Cx}{pins:List (Addr×Obj)}{σ:St}{H:Hp}{s:Shared}{a:Addr}{kvs:List (Key×V)} (I:Inv X pins σ H s) (e:H a=some (.dK kvs)):∃o,Inv X pins σ (upd H a (.frz o (.dK kvs))) s:=by
 obtain⟨z,hs,vs,r,o,es,ep,h1,h2⟩:=(show ObjOk X.prog X.w H s.heap a (.dK kvs) from I.hok a _ e)
 exact⟨o,I.write (x:=a) (e:=a) (o:=.frz o (.dK kvs)) (h':=s.heap) (t':=s.toks) (by rw [e];exact True.intro) (.inl rfl) (fun b u _ z=>z) ⟨o,h1⟩ ⟨h1,z,hs,vs,r,o,es,ep,h1,h2⟩⟩
end L2
namespace FL
open PySem PySem.Spec PyProof.Rows L2 PL
variable {K:PySem.W.Frag}
def dvK (kvs:List (Key×PV)):PV:=.dv (kvs.map fun kv=>kP kv.1) (kvs.map (·.2))
def dvT (kvs:List (List Key×PV)):PV:=.dv (kvs.map fun kv=>.tup (kv.1.map kP)) (kvs.map (·.2))
def DRelT (K:PySem.W.Frag) (H:Hp) (vs:List (List Key×V)) (kvs:List (List Key×PV)):Prop:=vs.map (·.1)=kvs.map (·.1)∧VRs K [] H (vs.map (·.2)) (kvs.map (·.2))
def DvAt (K:PySem.W.Frag) (H:Hp) (ob:HO) (v:PV):Prop:=(∃vs kvs,ob=.dK vs∧v=dvK kvs∧DRel K H vs kvs)∨∃vs kvs,ob=.dT vs∧v=dvT kvs∧DRelT K H vs kvs
def fDv (K:PySem.W.Frag) (fs:FSt) (w:W PV):TE:=fun σ H Q=>SRf K H σ fs∧w.run fun v=>∀a ob H',GoE σ fs H H'→SRf K H' σ fs→H a=none→H' a=some ob→DvAt K H' ob v→Q (.ref a) H'
structure DVF (X:Cx) (K:PySem.W.Frag) (fs:FSt) (e:Expr) (w:W PV):Prop where p:PE X e (fDv K fs w)
section
variable {σ:L2.St}{fs:FSt}{H H1 H':Hp}{a:Addr}{ob:HO}{v:PV}
theorem tk_sideO (o':HO) (e:H a=some ob) (n1:∀vs,ob≠.tup vs) (n2:∀o u,ob≠.frz o u):TupsK K H (upd H a o'):=⟨fun b ws q=>by rw [upd_ne (fun z=>by subst z;rw [e] at q;cases q;exact n1 _ rfl)];exact q,fun b o u q=>by rw [upd_ne (fun z=>by subst z;rw [e] at q;cases q;exact n2 _ _ rfl)];exact q⟩
theorem SRf.sideO (s:SRf K H σ fs) (n:¬Owns σ fs a) (e:H a=some ob) (n1:∀vs,ob≠.tup vs) (n2:∀o u,ob≠.frz o u) (o':HO):SRf K (upd H a o') σ fs:=⟨s.len,fun i t q=>by
 obtain⟨u,h1,h2⟩:=s.at' i t q
 exact⟨u,h1,h2.mono (tk_sideO o' e n1 n2) (fun x b o eb ow hb z=>by subst eb;rw [upd_ne (fun y:b=a=>n ⟨i,t,x,q,ow,h1,y▸hb⟩)];exact z)⟩,s.nd⟩
theorem keysT {vs:List (List Key×V)}{kvs:List (List Key×PV)} (h:vs.map (·.1)=kvs.map (·.1)):(kvs.map fun kv=>PV.tup (kv.1.map kP))=vs.map fun kv=>PV.tup (kv.1.map kP):=by
 have:=congrArg (List.map fun k:List Key=>PV.tup (k.map kP)) h
 rw [List.map_map,List.map_map] at this
 exact this.symm
theorem keysK {vs:List (Key×V)}{kvs:List (Key×PV)} (h:vs.map (·.1)=kvs.map (·.1)):(kvs.map fun kv=>kP kv.1)=vs.map fun kv=>kP kv.1:=by
 have:=congrArg (List.map kP) h
 rw [List.map_map,List.map_map] at this
 exact this.symm
theorem DvAt.frz {X:Cx}{pins:List (Addr×Obj)}{s:Shared}{σ':L2.St} (I:Inv X pins σ' H s) (e:H a=some ob) (d:DvAt K H ob v):∃u,Inv X pins σ' (upd H a u) s∧VR K [] (upd H a u) (.ref a) v∧(∀vs,ob≠.tup vs)∧∀o u,ob≠.frz o u:=by
 rcases d with⟨vs,kvs,rfl,rfl,d1,d2⟩ | ⟨vs,kvs,rfl,rfl,d1,d2⟩
 ·obtain⟨o,I2⟩:=I.freezeK e
  exact⟨_,I2,.dk upd_same (keysK d1) (VRs.tk (tk_sideO _ e (by simp) (by simp)) d2),by simp,by simp⟩
 ·obtain⟨o,I2⟩:=I.freeze e
  exact⟨_,I2,.dt upd_same (keysT d1) (VRs.tk (tk_sideO _ e (by simp) (by simp)) d2),by simp,by simp⟩
end
section
variable {X:Cx}{a b c e o:Expr}{es rest:List Expr}{pos p p2:Pos}{fs:FSt}{w wa wb wc:W PV}{wl wm:W (List PV)}
theorem e_dv (h:DVF X K fs e w):EF X K fs e w:=⟨fun pins s σ H Q I ⟨sr,q⟩=>by
 refine thn (h.p pins s σ H (fun u H1=>∃a ob v,u=.ref a∧GoE σ fs H H1∧SRf K H1 σ fs∧H a=none∧H1 a=some ob∧DvAt K H1 ob v∧∀u H',GoE σ fs H H'→SRf K H' σ fs→VR K [] H' u v→Q u H') I ⟨sr,w.mono (fun v q1 a ob H1 g1 s1 n e d=>⟨a,ob,v,rfl,g1,s1,n,e,d,q1⟩) q⟩) fun u s1 ⟨v,H1,I1,r1,a,ob,v',e,g1,s1',n,ea,d,q1⟩=>?_
 subst e
 obtain⟨o',I2,vr,n1,n2⟩:=d.frz I1 ea
 exact⟨.ref a,_,I2,r1,q1 _ _ (g1.side n _) (s1'.sideO (fun z=>sr.noOwn n z) ea n1 n2 _) vr⟩⟩
def pairP (kv:List Key×PV):PV:=.tup [.tup (kv.1.map kP),kv.2]
theorem kP_vr (H:Hp):∀k:List Key,VRs K [] H (k.map kV) (k.map kP)
 | []=>.nil
 | .inl i::k=>.cons (.int i) (kP_vr H k)
 | .inr i::k=>.cons (.str i) (kP_vr H k)
theorem kP_vs {H:Hp}:∀{k:List Key}{vs:List V},VRs K [] H vs (k.map kP)→vs=k.map kV
 | [],_,h=>by cases h;rfl
 | .inl i::k,_,h=>by
  cases h with
  | cons x t=>cases x;rw [kP_vs t];rfl
 | .inr i::k,_,h=>by
  cases h with
  | cons x t=>cases x;rw [kP_vs t];rfl
theorem pairs_of {H:Hp}:∀{kvs:List (List Key×PV)}{vs:List V},VRs K [] H vs (kvs.map pairP)→∃zs:List Pz,vs=zs.map (fun z=>V.ref z.pa)∧(∀z∈zs,z.At H)∧zs.map (·.k)=kvs.map (·.1)∧VRs K [] H (zs.map (·.v)) (kvs.map (·.2))
 | [],_,h=>by cases h;exact⟨[],rfl,by simp,rfl,.nil⟩
 | kv::kvs,_,h=>by
  cases h with
  | cons x t=>
  obtain⟨zs,z1,z2,z3,z4⟩:=pairs_of t
  cases x with
  | @tup p ws _ e r=>
  cases r with
  | cons x1 t1=>
  cases t1 with
  | cons x2 t2=>
  cases t2
  cases x1 with
  | @tup b us _ e1 r1=>
  have:=kP_vs r1
  subst this
  refine⟨⟨p,kv.1,b,_⟩::zs,by rw [List.map_cons,z1],fun z hz=>?_,by rw [List.map_cons,List.map_cons,z3],.cons x2 z4⟩
  rcases List.mem_cons.mp hz with rfl | hz
  ·exact⟨e,e1⟩
  ·exact z2 z hz
def dictTW (l:List PV):W PV:=⟨fun Q=>∃kvs:List (List Key×PV),l=kvs.map pairP∧(kvs.map (·.1)).Nodup∧kvs.length≤1000∧Q (dvT kvs),fun f q=>q.imp fun kvs h=>⟨h.1,h.2.1,h.2.2.1,f _ h.2.2.2⟩⟩
theorem d_dictT (hK:X.K=K) (hc:X.calm=true) (hu:X.A.units+200 < cLine) (hg:Gl X "dict") (hm:X.mg "dict"=none) (ha:QLF X K fs e wl) (he:starEach [e] X.env=(false,eval e X.env)::starEach [] X.env:=by rfl) (hpl:(backTo pos (starEach [] X.env)).any (·.1)=false:=by rfl) :
  DVF X K fs (.Call (.Name "dict" p) [e] [] pos) (.bind wl dictTW):=⟨PE.imp (pe_callTy (call_dictP K hK hc (by omega)) hg hm boot_dict (pa_cons ha.p pa_nil he) (by decide) (by decide) he hpl) fun σ H Q ⟨sr,q⟩=>⟨sr,wl.mono (fun l q1 u H1 g1 s1 v0 v1=>by
  obtain⟨kvs,rfl,nd,hl,q1⟩:=q1
  obtain⟨a,vs,rfl,e3,e4⟩:=v1 H1 .refl s1
  obtain⟨zs,rfl,z2,z3,z4⟩:=pairs_of e4
  have hzl:zs.length=kvs.length:=by have:=congrArg List.length z3;simpa using this
  refine⟨a,zs,rfl,e3,z2,by rw [z3];exact nd,by omega,fun p H2 s2 h2 n2=>?_⟩
  exact q1 _ _ H2 (g1.trans (GoE.same s2)) (s1.same s2) (g1.there _ n2) h2 (.inr ⟨_,_,rfl,rfl,by rw [List.map_map,← z3];rfl,by rw [List.map_map];exact VRs.tk s2.tupsK z4⟩)) q⟩⟩
theorem dictT_run {kvs:List (List Key×PV)}{Q:PV→Prop} (nd:(kvs.map (·.1)).Nodup) (hl:kvs.length≤1000) (q:Q (dvT kvs)):(dictTW (kvs.map pairP)).run Q:=⟨kvs,rfl,nd,hl,q⟩
def getT (kvs:List (List Key×PV)) (k:List Key):Option PV:=(kvs.find? fun kv=>decide (kv.1=k)).map (·.2)
theorem DRelT.get {H:Hp}{k:List Key}:∀{vs:List (List Key×V)}{kvs:List (List Key×PV)},DRelT K H vs kvs→(getT kvs k=none→valV vs k=none)∧∀{v},getT kvs k=some v→∃u,valV vs k=some u∧VR K [] H u v
 | [],[],_=>⟨fun _=>rfl,fun g=>by simp [getT] at g⟩
 | [],_::_,h=>by simp [DRelT] at h
 | _::_,[],h=>by simp [DRelT] at h
 | p::vs,q::kvs,h=>by
  obtain⟨h1,h2⟩:=h
  rw [List.map_cons,List.map_cons] at h1 h2
  injection h1 with e b
  cases h2 with
  | cons r t=>
  have ih:=DRelT.get (k:=k) (vs:=vs) (kvs:=kvs) ⟨b,t⟩
  by_cases c:p.1=k
  ·rw [valV_pos c]
   have c':q.1=k:=e▸c
   have:getT (q::kvs) k=some q.2:=by simp [getT,List.find?_cons,c']
   rw [this]
   refine⟨fun z=>(by cases z),fun {v} z=>?_⟩
   cases z
   exact⟨_,rfl,r⟩
  ·rw [valV_neg c]
   have c':¬q.1=k:=e▸c
   have:getT (q::kvs) k=getT kvs k:=by simp [getT,List.find?_cons,c']
   rw [this]
   exact ih
theorem DRel.get' {H:Hp}{k:Key}:∀{vs:List (Key×V)}{kvs:List (Key×PV)},DRel K H vs kvs→(getK kvs k=none→valV vs k=none)∧∀{v},getK kvs k=some v→∃u,valV vs k=some u∧VR K [] H u v:=fun {vs kvs} h=>⟨fun z=>by
 have:=h.has k
 cases e:valV vs k with
 | none=>rfl
 | some u=>
  rw [e] at this
  have h2:hasK kvs k=true:=this.symm
  unfold hasK at h2
  unfold getK at z
  rw [Option.map_eq_none_iff,List.find?_eq_none] at z
  obtain⟨x,hx,hx2⟩:=List.any_eq_true.mp h2
  exact absurd hx2 (z x hx),fun z=>h.get k z⟩
theorem kP_ne (k:Key) (l:List PV):kP k≠.tup l:=by cases k <;> exact PV.noConfusion
theorem kP_inj {a b:Key} (h:kP a=kP b):a=b:=by
 cases a <;> cases b <;> simp [kP] at h <;> rw [h]
theorem kPs_inj:∀{a b:List Key},a.map kP=b.map kP→a=b
 | [],[],_=>rfl
 | [],_::_,h=>by simp at h
 | _::_,[],h=>by simp at h
 | x::a,y::b,h=>by
  rw [List.map_cons,List.map_cons] at h
  injection h with h1 h2
  rw [kP_inj h1,kPs_inj h2]
inductive DvGet:PV→PV→Option PV→Prop
 | k (kvs:List (Key×PV)) (k:Key):kvs≠[]→DvGet (dvK kvs) (kP k) (getK kvs k)
 | t (kvs:List (List Key×PV)) (k:List Key):kvs≠[]→DvGet (dvT kvs) (.tup (k.map kP)) (getT kvs k)
theorem vr_dvK {H:Hp}{u:V}{kvs:List (Key×PV)} (h0:kvs≠[]) (h:VR K [] H u (dvK kvs)):∃a o vs,u=.ref a∧H a=some (.frz o (.dK vs))∧DRel K H vs kvs:=by
 have keys:∀{vs:List (Key×V)}{kvs:List (Key×PV)},(kvs.map fun kv=>kP kv.1)=(vs.map fun kv=>kP kv.1)→vs.map (·.1)=kvs.map (·.1):=fun {vs kvs} e=>by
  have e:(kvs.map (·.1)).map kP=(vs.map (·.1)).map kP:=by rw [List.map_map,List.map_map];exact e
  exact (kPs_inj e).symm
 unfold dvK at h
 cases h with
 | @dk a o vs _ _ e k r=>exact⟨a,o,vs,rfl,e,keys k,r⟩
 | @dt a o vs _ _ e k r=>
  cases kvs with
  | nil=>exact absurd rfl h0
  | cons x l=>cases vs with
   | nil=>simp at k
   | cons y m=>simp at k;exact absurd k.1 (kP_ne _ _)
theorem vr_dvT {H:Hp}{u:V}{kvs:List (List Key×PV)} (h0:kvs≠[]) (h:VR K [] H u (dvT kvs)):∃a o vs,u=.ref a∧H a=some (.frz o (.dT vs))∧DRelT K H vs kvs:=by
 have keys:∀{vs:List (List Key×V)}{kvs:List (List Key×PV)},(kvs.map fun kv=>PV.tup (kv.1.map kP))=(vs.map fun kv=>PV.tup (kv.1.map kP))→vs.map (·.1)=kvs.map (·.1):=fun {vs kvs} e=>by
  induction kvs generalizing vs with
  | nil=>cases vs with
   | nil=>rfl
   | cons y m=>simp at e
  | cons x l ih=>cases vs with
   | nil=>simp at e
   | cons y m=>
    rw [List.map_cons,List.map_cons] at e
    injection e with e1 e2
    injection e1 with e1
    rw [List.map_cons,List.map_cons,kPs_inj e1,ih e2]
 unfold dvT at h
 cases h with
 | @dt a o vs _ _ e k r=>exact⟨a,o,vs,rfl,e,keys k,r⟩
 | @dk a o vs _ _ e k r=>
  cases kvs with
  | nil=>exact absurd rfl h0
  | cons x l=>cases vs with
   | nil=>simp at k
   | cons y m=>simp at k;exact absurd k.1.symm (kP_ne _ _)
theorem DvGet.ok {H:Hp}{u z:V}{d y:PV}{r:Option PV} (h:DvGet d y r) (hu:VR K [] H u d) (hz:VR K [] H z y):∃a o,u=.ref a∧IsD H a∧DGet H a z o∧(r=none→o=none)∧∀v,r=some v→∃w,o=some w∧VR K [] H w v:=by
 cases h with
 | k kvs k h0=>
  obtain⟨a,o,vs,rfl,e,d⟩:=vr_dvK h0 hu
  have ez:z=kV k:=by
   cases k with
   | inl i=>cases hz;rfl
   | inr i=>cases hz;rfl
  subst ez
  exact⟨a,valV vs k,rfl,.inl ⟨vs,.inr ⟨o,e⟩⟩,.inl ⟨vs,k,.inr ⟨o,e⟩,rfl,rfl⟩,(DRel.get' d).1,fun v=>(DRel.get' d).2⟩
 | t kvs k h0=>
  obtain⟨a,o,vs,rfl,e,d⟩:=vr_dvT h0 hu
  cases hz with
  | @tup b us _ e1 r1=>
  have:=kP_vs r1
  subst this
  exact⟨a,valV vs k,rfl,.inr ⟨vs,.inr ⟨o,e⟩⟩,.inr ⟨vs,k,b,.inr ⟨o,e⟩,rfl,e1,rfl⟩,(DRelT.get d).1,fun v=>(DRelT.get d).2⟩
def dgW (d y:PV):W PV:=⟨fun Q=>∃v,DvGet d y (some v)∧Q v,fun f ⟨v,a,q⟩=>⟨v,a,f _ q⟩⟩
def dgB (a b:W PV):W PV:=.bind a fun x=>.bind b fun y=>dgW x y
theorem e_dget (hu:X.A.units+200 < cLine) (ha:EF X K fs a wa) (hb:EF X K fs b wb) (hs:NoSl b):EF X K fs (.Subscript a b pos) (dgB wa wb):=⟨PE.imp (pe_dget (by omega) ha.p hb.p hs) fun σ H Q ⟨sr,q⟩=>⟨sr,wa.mono (fun x q1 u1 H1 g1 s1 v1=>⟨s1,wb.mono (fun y q2 u2 H2 g2 s2 v2=>by
 obtain⟨v,g,q2⟩:=q2
 obtain⟨a,o,rfl,_,g2',_,h⟩:=g.ok (g2.vr s1 v1) v2
 obtain⟨w,rfl,vw⟩:=h v rfl
 exact⟨a,w,rfl,g2',q2 _ H2 (g1.trans g2) s2 vw⟩) q1⟩) q⟩⟩
theorem dgT_run {kvs:List (List Key×PV)}{k:List Key}{v:PV}{Q:PV→Prop} (h:getT kvs k=some v) (q:Q v):(dgW (dvT kvs) (.tup (k.map kP))).run Q:=⟨v,by rw [← h];exact .t kvs k (fun z=>by subst z;simp [getT] at h),q⟩
def keysW (d:PV):W (List PV):=⟨fun Q=>∃kvs:List (List Key×PV),d=dvT kvs∧kvs≠[]∧kvs.length≤1000∧Q (kvs.map fun kv=>.tup (kv.1.map kP)),fun f q=>q.imp fun kvs h=>⟨h.1,h.2.1,h.2.2.1,f _ h.2.2.2⟩⟩
theorem it_keys {tg:Expr} (h:EF X K fs e w):ITF X K fs tg e (.bind w keysW):=⟨PI.imp (pi_dictZ h.p) fun σ H R ⟨sr,q⟩=>⟨sr,w.mono (fun x q1 u1 H1 g1 s1 v1=>by
 obtain⟨kvs,rfl,h0,hl,q1⟩:=q1
 obtain⟨a,o,vs,rfl,e,d1,d2⟩:=vr_dvT h0 v1
 have len:vs.length=kvs.length:=by have:=congrArg List.length d1;simpa using this
 refine⟨a,o,vs,rfl,e,q1 _ H1 g1 s1 ⟨small' (by simpa using hl),fun H' t=>?_⟩⟩
 have e':=t.z _ _ _ e
 refine⟨fun i p hp=>?_,vs,e',by simp [len]⟩
 rw [List.getElem?_map] at hp
 cases z:kvs[i]? with
 | none=>rw [z] at hp;cases hp
 | some kv=>
  rw [z] at hp
  have hp:=Option.some.inj hp
  subst hp
  have hi:=(List.getElem?_eq_some_iff.mp z).1
  refine⟨⟨vs,e',by omega⟩,fun y H2 yy=>?_⟩
  obtain⟨rfl,yy⟩:=yy
  obtain⟨b,k,v,rfl,k2,k3⟩:=yy vs e'
  have ek:k=kv.1:=by
   have h1:(vs.map (·.1))[i]?=some k:=by rw [List.getElem?_map,k2];rfl
   rw [d1,List.getElem?_map,z] at h1
   exact (Option.some.inj h1).symm
  subst ek
  exact⟨Same.refl _,.tup k3 (kP_vr _ _)⟩) q⟩⟩
theorem keysT_run {kvs:List (List Key×PV)}{Q:List PV→Prop} (h0:kvs≠[]) (hl:kvs.length≤1000) (q:Q (kvs.map fun kv=>.tup (kv.1.map kP))):(keysW (dvT kvs)).run Q:=⟨kvs,rfl,h0,hl,q⟩
end
end FL
set_option Elab.async false
set_option linter.all false
set_option maxRecDepth 100000
set_option Elab.async false
set_option linter.all false
set_option maxRecDepth 100000
set_option Elab.async false
set_option linter.all false
set_option maxRecDepth 100000
set_option Elab.async false
set_option linter.all false
set_option maxRecDepth 100000
namespace L2
open PySem PySem.Spec PyProof.Rows
section
variable {prog:Program}{w:World}{K:Type} [DecidableEq K] {knd:KeyKind prog w K}{A:Around}{R:Result→Shared→Prop}
def PairK (knd:KeyKind prog w K) (h:Heap) (it d:Addr) (v:Value) (x:K×Value):Prop:=
 ∃pa o n kv,v=.ref pa∧pa≠it∧pa≠d∧h.get? pa=some o∧o.cls=.type "tuple"∧o.data=.seq #[kv,x.2] n∧knd.is x.1 kv=true
theorem PairK.keep {h h':Heap}{it d:Addr}{v:Value}{x:K×Value} (p:PairK knd h it d v x) (kp:∀b o,b≠it→b≠d→h.get? b=some o→h'.get? b=some o):PairK knd h' it d v x:=by
 obtain⟨pa,o,n,kv,e,n1,n2,h1,h2⟩:=p
 exact⟨pa,o,n,kv,e,n1,n2,kp _ _ n1 n2 h1,h2⟩
theorem update_loopK (hA:A.handled=none) {d it l:Addr}{items:Array Value} (hz:items.size+items.size≤sizeLine) (hdi:d≠it) (hli:l≠it) (hld:l≠d) :
  ∀(k i:Nat) (ys xs:List (K×Value)) (s:Shared),items.size-i=k→i≤items.size→ys.length=items.size-i→xs.length≤i→s.heap.IsListIter it l i→s.heap.IsList l items→s.heap.DictOf knd d xs→
   (∀j x,ys[j]?=some x→∃v,items[i+j]?=some v∧PairK knd s.heap it d v x)→
   (∀h' tk,h'.DictOf knd d (ys.foldl (fun a y=>stored a y.1 y.2) xs)→(∀b o,b≠it→b≠d→s.heap.get? b=some o→h'.get? b=some o)→R (.ok (.ret .none)) {s with heap:=h',toks:=tk})→
   codeAny (model prog w) A (.builtin "dict.update.loop" ⟨[.ref d,.ref it,rawInt i,.none],[]⟩) R s:=by
 intro k
 induction k with
 | zero=>
  intro i ys xs s hk hi hy hxl hit hl hd hp q
  have e0:ys=[]:=List.eq_nil_of_length_eq_zero (by omega)
  subst e0
  refine codeAny_builtin entry_update_loop ?_
  rw [Around.under_plainId plain_update_loop _]
  show wpAny _ A.in1 (pyNext (.ref it) >>= _) _ _ s
  refine wpAny_bind (wpAny_pyNext_list_end (A:=A.in1) hA hit hl (by rw [Array.getElem?_eq_none];omega) fun h' ex=>?_)
  show wpAny _ A.in1 (Builtin.Dict.addKeywords d [] >>= _) _ _ _
  have kp:∀b o,b≠it→s.heap.get? b=some o→h'.get? b=some o:=ex
  exact wpAny_bind (wpAny_pure (wpAny_pure (q h' s.toks (hd.extBut ex hdi) fun b o n1 _ e=>kp b o n1 e)))
 | succ k ih=>
  intro i ys xs s hk hi hy hxl hit hl hd hp q
  have hlt:i < items.size:=by omega
  match ys,hy,hp,q with
  | [],hy,_,_=>exact absurd hy (by simp only [List.length_nil];omega)
  | y::ys,hy,hp,q=>
  obtain⟨v,hv,pa⟩:=hp 0 y rfl
  refine codeAny_builtin entry_update_loop ?_
  rw [Around.under_plainId plain_update_loop _]
  show wpAny _ A.in1 (pyNext (.ref it) >>= _) _ _ s
  refine wpAny_bind (wpAny_pyNext_list_item hit hl (by simpa using hv) fun h1 hit1 sb=>?_)
  have kp1:∀b o,b≠it→s.heap.get? b=some o→h1.get? b=some o:=fun b o hb e=>(sb.2 b hb).trans e
  have pa1:=pa.keep fun b o n1 _ e=>kp1 b o n1 e
  have hd1:=hd.extBut (h':=h1) (b:=it) (fun b o hb e=>kp1 b o hb e) hdi
  have hl1:h1.IsList l items:=let ⟨o,e,p⟩:=hl;⟨o,kp1 _ _ hli e,p⟩
  obtain⟨p,o,n,kv,rfl,n1,n2,g1,g2,g3,g4⟩:=pa1
  show wpAny _ A.in1 (holding [Value.ref p] _ >>= _) _ _ _
  refine wpAny_bind (wpAny_holding (wpAny_bind (wpAny_tryCatch ?_)))
  unfold Builtin.Dict.pairItems
  refine wpAny_bind (wpAny_typeOf (T:="tuple") ⟨_,g1,g2⟩ ?_)
  rw [if_pos (by decide)]
  refine wpAny_bind (wpAny_seqItems g1 g3 (wpAny_pure ?_))
  show wpAny _ A.in1 (holding [kv,y.2] (dictSet d kv y.2)) _ _ _
  refine wpAny_holding (wpAny_dictSet_pairs (knd:=knd) g4 hd1 (fun h2 hd2 sb2=>?_) (by omega))
  have kp2:∀b o,b≠d→h1.get? b=some o→h2.get? b=some o:=fun b o hb e=>(sb2.2 b hb).trans e
  refine wpAny_pure ⟨plainId_quiet plain_update_loop _,?_⟩
  have ei:((i:Int)+1)=((i+1:Nat):Int):=by omega
  have kp:∀b o,b≠it→b≠d→s.heap.get? b=some o→h2.get? b=some o:=fun b o a1 a2 e=>kp2 _ _ a2 (kp1 _ _ a1 e)
  show codeAny _ A (.builtin "dict.update.loop" ⟨[.ref d,.ref it,rawInt ((i:Int)+1),.none],[]⟩) R _
  rw [ei]
  refine ih (i+1) ys (stored xs y.1 y.2) _ (by omega) (by omega) (by rw [List.length_cons] at hy;omega) (Nat.le_trans (stored_length_le _ _ _) (by omega)) ?_ ?_ hd2 (fun j x hj=>?_) (fun h' tk dd k3=>?_)
  ·obtain⟨o',e1,e2⟩:=hit1
   exact⟨o',kp2 _ _ (Ne.symm hdi) e1,e2⟩
  ·obtain⟨o',e1,e2⟩:=hl1
   exact⟨o',kp2 _ _ hld e1,e2⟩
  ·obtain⟨v',h3,h4⟩:=hp (j+1) x hj
   exact⟨v',by rw [show i+1+j=i+(j+1) by omega];exact h3,h4.keep kp⟩
  ·exact q h' tk dd fun b o a1 a2 e=>k3 b o a1 a2 (kp b o a1 a2 e)
variable {E:Value→Shared→Prop}{s:Shared}
theorem call_dict_pairsK {l:Addr}{o:Obj}{items:Array Value}{n:Nat}{ys:List (K×Value)}{Q:Value→Shared→Prop} (hA:A.handled=none) (ho:s.heap.get? l=some o) (hc:o.cls=.type "list") (hdat:o.data=.seq items n) (hd:o.dict=none)
  (hz:items.size+items.size≤sizeLine) (hy:ys.length=items.size)
  (hp:∀(j:Nat) (x:K×Value),ys[j]?=some x→∃(pa:Addr) (op:Obj) (m:Nat) (kv:Value),items[j]?=some (Value.ref pa)∧s.heap.get? pa=some op∧op.cls=.type "tuple"∧op.data=.seq #[kv,x.2] m∧knd.is x.1 kv=true)
  (q:∀h' tk,(∀b o,s.heap.get? b=some o→h'.get? b=some o)→h'.DictOf knd s.heap.objs.size (ys.foldl (fun a y=>stored a y.1 y.2) [])→Q (.ref s.heap.objs.size) {s with heap:=h',toks:=tk}) :
  wpAny (model prog w) A (call (.type "dict") [.ref l]) Q E s:=by
 refine callType_codes (Q₁:=fun obj s₁=>obj=.ref s.heap.objs.size∧s₁={s with heap:=s.heap.push {cls:=.type "dict",data:=.dict #[]}}) F.kt_called_dict (F.kt_typeCall_dict_1 _) F.entry_dict_init (kt_code_dict_new _ ⟨rfl,rfl⟩) ?_
 rintro obj s₁ ⟨rfl,rfl⟩
 have kp0:∀b o,s.heap.get? b=some o→(s.heap.push {cls:=.type "dict",data:=.dict #[]}).get? b=some o:=fun b o e=>Heap.get?_push_of_some _ e
 have hnew:(s.heap.push {cls:=.type "dict",data:=.dict #[]}).DictOf knd s.heap.objs.size []:=Heap.DictOf.new s.heap
 have ls:∀b o,s.heap.get? b=some o→b≠s.heap.objs.size:=fun b o e z=>by subst z;exact Nat.lt_irrefl _ (Heap.lt_size e)
 refine⟨hnew.typeIs,F.args_dict_init_2 _ _,?_⟩
 unfold Builtin.«dict.__init__»
 refine wpAny_bind ?_
 unfold Builtin.Dict.selfAndRest
 refine wpAny_bind (wpAny_notOrdered_dict hnew.typeIs ?_)
 show wpAny _ _ (pure (s.heap.objs.size,[Value.ref l])) _ _ _
 refine wpAny_pure ?_
 show wpAny _ _ (Builtin.Dict.updateFrom "dict.__init__" s.heap.objs.size (.ref l) [] .none) _ _ _
 unfold Builtin.Dict.updateFrom
 refine wpAny_bind (wpAny_typeOf (T:="list") ⟨_,kp0 _ _ ho,hc⟩ ?_)
 rw [if_pos (by decide)]
 refine wpAny_bind (getAttrQ_miss_list (kp0 _ _ ho) hc hdat hd list_no_keys (by decide +kernel) hA (fun h1 tk e nx=>?_) (by decide))
 rw [if_pos (by rfl)]
 refine wpAny_bind (wpAny_rule (wpAny_bind ?_))
 refine wpAny_pyIter_list (items:=items) ⟨_,nx.keeps _ _ (kp0 _ _ ho),hc,n,hdat⟩ ?_
 have hsz:s.heap.objs.size < h1.objs.size:=Heap.lt_size (nx.keeps _ _ (Heap.get?_push_size s.heap rfl))
 have kp1:∀b o,s.heap.get? b=some o→(h1.push {cls:=.type "list_iterator",data:=.fields #[.ref l,.int 0 0]}).get? b=some o:=fun b o e=>Heap.get?_push_of_some _ (nx.keeps _ _ (kp0 _ _ e))
 have ni:∀b o,s.heap.get? b=some o→b≠h1.objs.size:=fun b o e z=>by
  have h3:=Heap.lt_size e
  subst z
  exact Nat.lt_irrefl _ (Nat.lt_trans h3 hsz)
 refine wpAny_pure ⟨plainId_quiet plain_update_loop _,?_⟩
 refine update_loopK (A:=A.in1) (knd:=knd) hA (items:=items) (d:=s.heap.objs.size) (it:=h1.objs.size) (l:=l) hz (Nat.ne_of_lt hsz) (ni _ _ ho) (ls _ _ ho) items.size 0 ys [] _ (Nat.sub_zero _) (Nat.zero_le _) (by rw [hy];rfl) (Nat.le_refl _)
  ⟨_,Heap.get?_push_size _ rfl,rfl,rfl⟩ ⟨_,kp1 _ _ ho,hc,n,hdat⟩ ?_ (fun j x hj=>?_) (fun h' tk' dd kp=>?_)
 ·obtain⟨o1,es,ep,g1,g2⟩:=hnew
  exact⟨o1,es,ep,Heap.get?_push_of_some _ (nx.keeps _ _ g1),g2⟩
 ·obtain⟨pa,op,m,kv,e1,e2,e3,e4,e5⟩:=hp j x hj
  exact⟨.ref pa,by rw [Nat.zero_add];exact e1,pa,op,m,kv,rfl,ni _ _ e2,ls _ _ e2,kp1 _ _ e2,e3,e4,e5⟩
 ·exact⟨rfl,q h' tk' (fun b o e=>kp b o (ni _ _ e) (ls _ _ e) (kp1 _ _ e)) dd⟩
end
section
variable {prog:Program}{w:World}{A:Around}{E:Value→Shared→Prop}{s:Shared}{T:String}{r d:Addr}{n:Nat}{P:Nat→Value→Prop}{OK:Heap→Prop}
theorem collectD {R:List Value→Shared→Prop} (K:PySem.W.KdlSrc prog w T r d n P OK) (hh:A.handled=none) (hok:OK s.heap) (hn:n≤sizeLine)
  (h:∀(h':Heap) (tk:Nat) (acc:Array Value),s.heap.objs.size≤h'.objs.size→(∀b o,s.heap.get? b=some o→h'.get? b=some o)→ItemsOf P acc n→R acc.toList {s with heap:=h',toks:=tk}) :
  wpAny (model prog w) A (collect (.ref r)) R E s:=by
 have hlt:=K.there _ hok
 refine wpAny_bind (wpAny_runValue (codeAny_builtin entry_proto_collect' ?_))
 rw [Around.under_plainId PySem.F.plain_proto_collect _]
 refine wpAny_bind (wpAny_newObj_type ?_)
 refine wpAny_pure ⟨plainId_quiet PySem.F.plain_list_iadd _,codeAny_builtin entry_list_iadd' ?_⟩
 rw [Around.under_plainId PySem.F.plain_list_iadd _]
 have step:=PySem.W.kdl_extend (A:=A) (s:={s with heap:=s.heap.push {cls:=.type "list",data:=.seq ([]:List Value).toArray}})
  (R:=fun q s'=>∃h' tk acc c,q=.ok (.ret (.ref s.heap.objs.size))∧s'={s with heap:=h',toks:=tk}∧(∀b o,s.heap.get? b=some o→h'.get? b=some o)∧h'.get? s.heap.objs.size=some {cls:=.type "list",dict:=none,data:=.seq acc c,slots:=#[]}∧ItemsOf P acc n)
  K hh (K.keep _ _ hok fun b _ o e=>Heap.get?_push_of_some _ e) s.heap.objs.size (Nat.ne_of_gt hlt.1) (Nat.ne_of_gt hlt.2) (.ref s.heap.objs.size) 0 (Heap.get?_push_size _ rfl)
  (fun h' tk acc c hk hS ha=>⟨h',tk,acc,c,rfl,rfl,fun b o e=>hk b o (Nat.ne_of_lt (Heap.lt_size e)) (Heap.get?_push_of_some _ e),hS,ha⟩) hn
 refine wpAny_mono step (fun fin s' x=>?_) fun e s' ⟨_,_,_,_,e',_⟩=>nomatch e'
 cases fin with
 | done f=>
  obtain⟨h',tk,acc,c,e,rfl,hk,hS,ha⟩:=x
  cases e
  exact wpAny_bind (wpAny_load hS (wpAny_pure (h h' tk acc (Nat.le_of_lt (Heap.lt_size hS)) hk ha)))
 | again c1=>exact⟨x.1,codeAny_mono x.2 fun q s2 ⟨h',tk,acc,c,e1,e2,hk,hS,ha⟩=>by
   subst e1 e2
   exact wpAny_bind (wpAny_load hS (wpAny_pure (h h' tk acc (Nat.le_of_lt (Heap.lt_size hS)) hk ha)))⟩
end
structure Qz where
 pa:Addr
 k:Key
 v:V
def Qz.At (H:Hp) (z:Qz):Prop:=H z.pa=some (.tup [kV z.k,z.v])
def dkOf (zs:List Qz):List (Key×V):=zs.foldl (fun a z=>putK a z.k z.v) []
def rDictK (K:PySem.W.Frag):List V→Hp→VK→Prop:=fun xs H Q=>∃(p:Addr) (zs:List Qz),xs=[.ref p]∧SqL K H p (zs.map fun z=>.ref z.pa)∧(∀z∈zs,z.At H)∧zs.length≤1000∧newO H (.dK (dkOf zs)) Q
theorem putK_len {kvs:List (Key×V)}{k:Key}{v:V}:(putK kvs k v).length≤kvs.length+1:=by
 unfold putK
 split <;> simp
theorem fold_len:∀(zs:List Qz) (a:List (Key×V)),(zs.foldl (fun a z=>putK a z.k z.v) a).length≤a.length+zs.length
 | [],a=>by simp
 | z::zs,a=>by
  rw [List.foldl_cons]
  have:=fold_len zs (putK a z.k z.v)
  have:=putK_len (kvs:=a) (k:=z.k) (v:=z.v)
  simp only [List.length_cons]
  omega
section
variable {X:Cx}
theorem call_dictK (K:PySem.W.Frag) (hK:X.K=K) (hc:X.calm=true):CallR X (.type "dict") (rDictK K):=by
 subst hK
 intro pins s σ H xs us Q I r h
 obtain⟨p,zs,rfl,hq,hz,hl,q⟩:=h
 obtain⟨u,rfl,rx⟩:=vals1 r
 cases rx
 obtain⟨its,rv,pl,hsz⟩:=I.list hq
 obtain⟨o,n,ho,hc',hd,hdat⟩:=pl
 have build:∀(zs:List Qz) (its:List Value),(∀z∈zs,z.At H)→Vals (zs.map fun z=>V.ref z.pa) its→∃ys:List (Key×Value),Paired (fun (z:Qz) (y:Key×Value)=>z.k=y.1∧RelV z.v y.2) zs ys∧
   ∀(j:Nat) (x:Key×Value),ys[j]?=some x→∃(pa:Addr) (op:Obj) (m:Nat) (kv:Value),its[j]?=some (Value.ref pa)∧s.heap.get? pa=some op∧op.cls=.type "tuple"∧op.data=.seq #[kv,x.2] m∧(mixKind X.prog X.w).is x.1 kv=true:=by
  intro zs
  induction zs with
  | nil=>intro its _ _;exact⟨[],.nil,fun j x h=>by simp at h⟩
  | cons z zs ih=>
   intro its ha hv
   cases hv with
   | @cons _ u _ us ru rus=>
   cases ru
   obtain⟨ys,e1,e3⟩:=ih us (fun y hy=>ha y (List.mem_cons_of_mem _ hy)) rus
   have a1:=ha z List.mem_cons_self
   obtain⟨_,its',r',op,h1,h2,m,h3⟩:=(show ObjOk X.prog X.w H s.heap z.pa (.tup [kV z.k,z.v]) from I.hok _ _ a1)
   obtain⟨kv,w,rfl,rk,rw'⟩:∃kv w,its'=[kv,w]∧RelV (kV z.k) kv∧RelV z.v w:=by
    cases r' with
    | cons q1 q2=>cases q2 with
     | cons q3 q4=>cases q4;exact⟨_,_,rfl,q1,q3⟩
   refine⟨(z.k,w)::ys,.cons ⟨rfl,rw'⟩ e1,fun j x hj=>?_⟩
   cases j with
   | zero=>
    cases hj
    exact⟨z.pa,op,m,kv,rfl,h1,h2,h3,kV_is rk⟩
   | succ j=>exact e3 j x hj
 obtain⟨ys,e1,e3⟩:=build zs its hz rv
 have hlen:=rv.length
 rw [List.length_map] at hlen
 have hyl:zs.length=ys.length:=e1.length
 have hs:(1000:Nat)+1000≤sizeLine:=by decide
 refine call_dict_pairsK (knd:=mixKind X.prog X.w) (items:=its.toArray) (ys:=ys) (I.ok.hd hc) ho hc' hdat hd (by rw [List.size_toArray];omega) (by rw [List.size_toArray];omega) (fun j x hj=>?_) (fun h' tk kp dd=>?_)
 ·obtain⟨pa,op,m,kv,g1,g2⟩:=e3 j x hj
  exact⟨pa,op,m,kv,by rw [List.getElem?_toArray];exact g1,g2⟩
 ·have hbig:(s.heap.objs.size==sysModules)=false:=beq_eq_false_iff_ne.mpr (Ne.symm (Nat.ne_of_lt I.big))
  have fr:=I.hok.fresh (Nat.le_refl s.heap.objs.size)
  have kvf:∀{zs:List Qz}{ys:List (Key×Value)},Paired (fun (z:Qz) (y:Key×Value)=>z.k=y.1∧RelV z.v y.2) zs ys→∀{a b},KV a b→KV (zs.foldl (fun a z=>putK a z.k z.v) a) (ys.foldl (fun a y=>stored a y.1 y.2) b):=by
   intro zs ys h
   induction h with
   | nil=>intro a b r;exact r
   | cons h t ih=>
    intro a b r
    rw [List.foldl_cons,List.foldl_cons,← h.1]
    exact ih (r.put _ h.2)
  refine⟨.ref s.heap.objs.size,_,I.laid (t':=tk) kp (Nat.le_refl _) (show ObjOk X.prog X.w (upd H s.heap.objs.size (.dK (dkOf zs))) h' _ (.dK _) from⟨?_,hbig,_,kvf e1 .nil,dd⟩),rfl,q.at _ fr⟩
  have:=fold_len zs []
  unfold dkOf
  simp only [List.length_nil] at this
  omega
def rSortD:List V→Hp→VK→Prop:=fun xs H Q=>∃(p:Addr) (kvs:List (Key×V)) (ns:List Int),xs=[.ref p]∧H p=some (.dK kvs)∧kvs.map (·.1)=ns.map Sum.inl∧ns.length < 64∧∀ms:List Int,ms.Perm ns→ms.Pairwise (·≤·)→newO H (.lst (ms.map V.int)) Q
theorem call_sortD (hc:X.calm=true):CallR X (.builtin "sorted") rSortD:=by
 intro pins s σ H xs us Q I r h
 obtain⟨p,kvs,ns,rfl,hq,hk,h64,q⟩:=h
 obtain⟨u,rfl,rx⟩:=vals1 r
 cases rx
 obtain⟨hz,hS,vs,rv,m⟩:kvs.length≤sizeLine∧(p==sysModules)=false∧∃vs,KV kvs vs∧s.heap.DictOf (mixKind X.prog X.w) p vs:=I.hok p _ hq
 obtain⟨ep,m⟩:=m.dictAt
 have hkl:kvs.length=ns.length:=by have:=congrArg List.length hk;simpa using this
 have hvl:kvs.length=vs.length:=Paired.length rv
 have hvk:vs.map (·.1)=ns.map Sum.inl:=by
  rw [← hk];exact (KV.keys rv).symm
 have kinds:∀(vs:List (Key×Value)) (ns:List Int) (acc:List Value),vs.map (·.1)=ns.map Sum.inl→acc.length=vs.length→(∀(j:Nat) (v:Value),acc[j]?=some v→∃(k:Key) (x:Value),vs[j]?=some (k,x)∧(mixKind X.prog X.w).is k v=true)→IntsAre acc ns:=by
  intro vs
  induction vs with
  | nil=>
   intro ns acc e1 e2 _
   cases ns with
   | nil=>cases acc with
    | nil=>exact .nil
    | cons _ _=>cases e2
   | cons _ _=>cases e1
  | cons kx vs ih=>
   intro ns acc e1 e2 e3
   cases ns with
   | nil=>cases e1
   | cons n ns=>
   cases acc with
   | nil=>cases e2
   | cons v acc=>
   rw [List.map_cons,List.map_cons] at e1
   injection e1 with e1 e2'
   obtain⟨k,x,h1,h2⟩:=e3 0 v rfl
   cases h1
   rcases keyIs_shape h2 with⟨i,t,rfl,rfl⟩ | ⟨y,t,rfl,rfl⟩
   ·cases e1
    exact .cons _ _ (ih ns acc e2' (by simpa using e2) fun j v hj=>e3 (j+1) v hj)
   ·cases e1
 refine Calls.call_function_entry kind_sorted plain_sorted entry_sorted (args_sorted1 _) ?_
 unfold Builtin.«sorted»
 refine wpAny_bind (m:=checkCount "sorted" 1 1 _) (wpAny_pure ?_)
 refine wpAny_bind (collectD (A:=X.A.in1) (PySem.W.kdl_dict (knd:=mixKind X.prog X.w) hS) (I.ok.hd hc) m (by omega) fun h' tk acc hle kp hacc=>?_)
 have hal:acc.toList.length=vs.length:=by rw [Array.length_toList];exact hacc.1
 have hI:IntsAre acc.toList ns:=kinds vs ns acc.toList hvk hal fun j v e=>hacc.2 j v (by rw [← Array.getElem?_toList];exact e)
 refine wpAny_bind (wpAny_newList ?_ (by rw [hal];omega))
 have hoL:(h'.push (seqObj "list" acc.toList.toArray 0)).get? h'.objs.size=some (seqObj "list" acc.toList.toArray 0):=Heap.get?_push_size _ rfl
 show wpAny _ _ _ _ _ {s with heap:=h'.push (seqObj "list" acc.toList.toArray 0),toks:=tk}
 have h64':acc.toList.length < 64:=by omega
 refine wpAny_bind (wpAny_holding (wpAny_call_entry slot_list_sort ⟨_,hoL,rfl⟩ entry_list_sort (list_sort_tree hoL hI h64' fun out ms a1 a2 a3=>⟨_,rfl,?_⟩) (args_list_sort _)))
 refine wpAny_pure ⟨_,rfl,?_⟩
 obtain⟨e,he⟩:=sortedHeap_at (out:=out) hoL
 refine⟨.ref h'.objs.size,_,I.laid (t':=tk) (fun b o eb=>?_) hle (show ObjOk X.prog X.w _ _ _ (.lst (ms.map V.int)) from⟨?_,out.toList,e,vals_ints a1,?_⟩),rfl,(q ms a2 a3).at _ (I.hok.fresh hle)⟩
 ·have lt:=Heap.lt_size (kp b o eb)
  rw [sortedHeap_old (Nat.ne_of_lt lt) (by rw [size_push'];exact Nat.lt_succ_of_lt lt)]
  exact Heap.get?_push_of_some _ (kp b o eb)
 ·rw [List.length_map,a2.length_eq];omega
 ·rw [Array.toArray_toList];exact he
end
end L2
namespace FL
open PySem PySem.Spec PyProof.Rows L2 PL
variable {K:PySem.W.Frag}
section
variable {X:Cx}{e:Expr}{pos p p2 pos2:Pos}{fs:FSt}{wl:W (List PV)}
def addK (ks:List Int) (n:Int):List Int:=if n∈ks then ks else ks++[n]
def onceI (ns:List Int):List Int:=ns.foldl addK []
def pairI (kv:Int×PV):PV:=.tup [.int kv.1,kv.2]
theorem putK_keys {kvs:List (Key×V)}{ks:List Int} (h:kvs.map (·.1)=ks.map Sum.inl) (n:Int) (v:V):(putK kvs (.inl n) v).map (·.1)=(addK ks n).map Sum.inl:=by
 have hm:(kvs.any fun kv=>decide (kv.1=Sum.inl n))=decide (n∈ks):=by
  have:(kvs.any fun kv=>decide (kv.1=Sum.inl n))=(kvs.map (·.1)).any fun k=>decide (k=(Sum.inl n:Key)):=by rw [List.any_map];rfl
  rw [this,h,List.any_map,Bool.eq_iff_iff]
  simp
 unfold putK addK
 rw [hm]
 by_cases c:n∈ks
 ·rw [if_pos (by simp [c]),if_pos c,← h,List.map_map]
  refine List.map_congr_left fun kv _=>?_
  simp only [Function.comp]
  split <;> rfl
 ·rw [if_neg (by simp [c]),if_neg c,List.map_append,List.map_append,h];rfl
theorem dkOf_keys:∀(zs:List Qz) (kvs:List (Int×PV)) (a:List (Key×V)) (ks:List Int),zs.map (·.k)=kvs.map (fun kv=>Sum.inl kv.1)→a.map (·.1)=ks.map Sum.inl→(zs.foldl (fun a z=>putK a z.k z.v) a).map (·.1)=((kvs.map (·.1)).foldl addK ks).map Sum.inl
 | [],[],a,ks,_,h=>h
 | [],_::_,_,_,h,_=>by cases h
 | _::_,[],_,_,h,_=>by cases h
 | z::zs,kv::kvs,a,ks,h1,h2=>by
  rw [List.map_cons,List.map_cons] at h1
  injection h1 with e1 e2
  rw [List.foldl_cons,List.map_cons,List.foldl_cons,e1]
  exact dkOf_keys zs kvs _ _ e2 (putK_keys h2 kv.1 z.v)
theorem pairsI_of {H:Hp}:∀{vs:List V}{kvs:List (Int×PV)},VRs K [] H vs (kvs.map pairI)→∃zs:List Qz,vs=zs.map (fun z=>.ref z.pa)∧(∀z∈zs,z.At H)∧zs.map (·.k)=kvs.map (fun kv=>Sum.inl kv.1)
 | vs,[],h=>by cases h;exact⟨[],rfl,(fun z hz=>by cases hz),rfl⟩
 | vs,kv::kvs,h=>by
  rw [List.map_cons] at h
  cases h with
  | cons r t=>
  obtain⟨zs,rfl,z2,z3⟩:=pairsI_of t
  unfold pairI at r
  cases r with
  | @tup p us _ e r=>
  cases r with
  | cons x1 r=>
  cases r with
  | cons x2 r=>
  cases r
  cases x1
  rename_i v0
  refine⟨⟨p,.inl kv.1,v0⟩::zs,rfl,fun z hz=>?_,by rw [List.map_cons,List.map_cons,z3]⟩
  rcases List.mem_cons.mp hz with rfl | hz
  ·exact e
  ·exact z2 z hz
def sortDW (l:List PV):W (List PV):=⟨fun Q=>∃kvs:List (Int×PV),l=kvs.map pairI∧kvs.length≤1000∧(onceI (kvs.map (·.1))).length < 64∧Q ((sortI (onceI (kvs.map (·.1)))).map PV.int),fun f q=>q.imp fun kvs h=>⟨h.1,h.2.1,h.2.2.1,f _ h.2.2.2⟩⟩
theorem l_sortD (hK:X.K=K) (hc:X.calm=true) (hg:Gl X "sorted") (hm:X.mg "sorted"=none) (hg2:Gl X "dict") (hm2:X.mg "dict"=none) (ha:QLF X K fs e wl) (he2:starEach [e] X.env=(false,eval e X.env)::starEach [] X.env:=by rfl) (hpl2:(backTo pos2 (starEach [] X.env)).any (·.1)=false:=by rfl)
  (he:starEach [.Call (.Name "dict" p2) [e] [] pos2] X.env=(false,eval (.Call (.Name "dict" p2) [e] [] pos2) X.env)::starEach [] X.env:=by rfl) (hpl:(backTo pos (starEach [] X.env)).any (·.1)=false:=by rfl) :
  LF X K fs (.Call (.Name "sorted" p) [.Call (.Name "dict" p2) [e] [] pos2] [] pos) (.bind wl sortDW):=
 ⟨PE.imp (pe_callB (call_sortD hc) hg hm boot_sorted (pa_cons (pe_callTy (call_dictK K hK hc) hg2 hm2 boot_dict (pa_cons ha.p pa_nil he2) (by decide) (by decide) he2 hpl2) pa_nil he) (by decide) (by decide) he hpl) fun σ H Q ⟨sr,q⟩=>⟨sr,wl.mono (fun l q1 u1 H1 g1 s1 _ v1=>by
  obtain⟨kvs,rfl,hl,h64,q2⟩:=q1
  obtain⟨a,vs,rfl,e3,e4⟩:=v1 H1 .refl s1
  obtain⟨zs,rfl,z2,z3⟩:=pairsI_of e4
  have hzl:zs.length=kvs.length:=by have:=congrArg List.length z3;simpa using this
  refine⟨a,zs,rfl,e3,z2,by omega,fun p H2 s2 h2 n2=>⟨p,_,onceI (kvs.map fun kv:Int×PV=>kv.1),rfl,h2,(show (dkOf zs).map (·.1)=(onceI (kvs.map (·.1))).map Sum.inl from dkOf_keys zs kvs [] [] z3 rfl),h64,fun ms a2 a3=>?_⟩⟩
  rw [sortI_of a2 a3]
  exact new_l (g1.trans (GoE.same s2)) (s1.same s2) (ints_vr _ _ _) q2) q⟩⟩
theorem sortD_run {kvs:List (Int×PV)}{Q:List PV→Prop} (hl:kvs.length≤1000) (h:(onceI (kvs.map (·.1))).length < 64) (q:Q ((sortI (onceI (kvs.map (·.1)))).map PV.int)):(sortDW (kvs.map pairI)).run Q:=⟨kvs,rfl,hl,h,q⟩
end
end FL
set_option Elab.async false
set_option linter.all false
set_option maxRecDepth 100000
namespace FL
open PySem PySem.Spec PyProof.Rows L2 PL
def potG (ns:List Int):Prop:=∃g s c:Int,ns=[g,s,c]∧0≤g∧0≤s∧s < 2305843009213693951∧0≤c
def drawn (m:Int):W PV:=.any fun v=>∃d:Int,v=.int d∧0≤d∧d < m
def mt_take:PV→W PV
 | .int m=>.chk (0 < m∧m≤1000) (drawn m)
 | _=>.fail
end FL
set_option Elab.async false
set_option linter.all false
set_option maxRecDepth 100000
namespace FL
open PySem PySem.Spec PyProof.Rows L2 PL
theorem of2_aI {g:Int→Int→PV}{i j:Int}:of2 (aI g) (.int i) (.int j)=.ret (g i j):=W.ext' fun Q=>⟨And.right,fun q=>⟨rfl,q⟩⟩
theorem of2_aIc {C:Int→Int→Prop}{g:Int→Int→PV}{i j:Int}:of2 (aIc C g) (.int i) (.int j)=.chk (C i j) (.ret (g i j)):=W.ext' fun Q=>⟨fun q=>⟨q.1,q.2.2⟩,fun q=>⟨q.1,rfl,q.2⟩⟩
section
variable (i j:Int) (a b:Bool) (x y:PV) (l m:List PV) (s t:Str)
@[simp] theorem ev_sub:of2 oSub (.int i) (.int j)=.ret (.int (i-j)):=of2_aI
@[simp] theorem ev_mul:of2 oMul (.int i) (.int j)=.chk (IntMulOk i j) (.ret (.int (i*j))):=of2_aIc
@[simp] theorem ev_div:of2 oDiv (.int i) (.int j)=.chk (CDiv i j) (.ret (.int (i / j))):=of2_aIc
@[simp] theorem ev_mod:of2 oMod (.int i) (.int j)=.chk (0 < j) (.ret (.int (i % j))):=of2_aIc
@[simp] theorem ev_pow:of2 oPow (.int i) (.int j)=.chk (CPow i j) (.ret (.int (i ^ j.toNat))):=of2_aIc
@[simp] theorem ev_lt:of2 oLt (.int i) (.int j)=.ret (.bl (decide (i < j))):=of2_aI
@[simp] theorem ev_le:of2 oLe (.int i) (.int j)=.ret (.bl (decide (i≤j))):=of2_aI
@[simp] theorem ev_gt:of2 oGt (.int i) (.int j)=.ret (.bl (decide (j < i))):=of2_aI
@[simp] theorem ev_ge:of2 oGe (.int i) (.int j)=.ret (.bl (decide (j≤i))):=of2_aI
@[simp] theorem ev_ipAdd:of2 ipAdd (.int i) (.int j)=.ret (.int (i+j)):=of2_aI
theorem ev_eq:of2 oEqF x y=.chk (eqOk x y) (.ret (.bl (feq x y))):=W.ext' fun Q=>⟨fun q=>⟨q.1,q.2.2⟩,fun q=>⟨q.1,rfl,q.2⟩⟩
theorem ev_ne:of2 oNeF x y=.chk (eqOk x y) (.ret (.bl (!feq x y))):=W.ext' fun Q=>⟨fun q=>⟨q.1,q.2.2⟩,fun q=>⟨q.1,rfl,q.2⟩⟩
@[simp] theorem ev_isN:of2 oIsN x .non=.ret (.bl x.isNon):=W.ext' fun Q=>⟨And.right,fun q=>⟨rfl,q⟩⟩
theorem ev_ixS {c:Nat} (h:atI s.cps.toList i=some c):of2 oIxS (.str s) (.int i)=.chk (s.length≤sizeLine) (.ret (.str ⟨#[c]⟩)):=W.ext' fun Q=>by
 show (s.length≤sizeLine∧match atI s.cps.toList i with | some c=>_∧_ | none=>False)↔_
 rw [h]
 exact⟨fun q=>⟨q.1,q.2.2⟩,fun q=>⟨q.1,rfl,q.2⟩⟩
@[simp] theorem ev_addI:addW (.int i) (.int j)=.ret (.int (i+j)):=(rfl)
@[simp] theorem ev_addS:addW (.str s) (.str t)=.chk (s.length+t.length≤sizeLine) (.ret (.str (s++t))):=(rfl)
@[simp] theorem ev_addT:addW (.tup l) (.tup m)=.chk (l.length+m.length≤sizeLine) (.ret (.tup (l++m))):=(rfl)
@[simp] theorem ev_asB:asB (.bl a)=.ret a:=(rfl)
@[simp] theorem ev_chainT (w:W PV):chainW (.bl true) w=w:=(rfl)
@[simp] theorem ev_chainF (w:W PV):chainW (.bl false) w=.ret (.bl false):=(rfl)
@[simp] theorem ev_andT (w:W PV):andW (.bl true) w=w:=(rfl)
@[simp] theorem ev_andF (w:W PV):andW (.bl false) w=.ret (.bl false):=(rfl)
@[simp] theorem ev_orT (w:W PV):orW (.bl true) w=.ret (.bl true):=(rfl)
@[simp] theorem ev_orF (w:W PV):orW (.bl false) w=w:=(rfl)
@[simp] theorem ev_not:notW (.bl a)=.ret (.bl (!a)):=(rfl)
@[simp] theorem ev_truB:truW (.bl a)=.ret a:=(rfl)
@[simp] theorem ev_truI:truW (.int i)=.ret (i != 0):=(rfl)
@[simp] theorem ev_truN:truW .non=.ret false:=(rfl)
@[simp] theorem ev_truT:truW (.tup l)=.ret (!l.isEmpty):=(rfl)
@[simp] theorem ev_truC:truW (.cl l)=.ret (!l.isEmpty):=(rfl)
@[simp] theorem ev_seqT:seqW (.tup l)=.ret l:=(rfl)
@[simp] theorem ev_seqC:seqW (.cl l)=.ret l:=(rfl)
@[simp] theorem ev_lstC:lstW (.cl l)=.ret l:=(rfl)
@[simp] theorem ev_ix:ixW l (.int i)=.ofO (atI l i):=(rfl)
@[simp] theorem ev_len:lenW l=.ret (.int l.length):=(rfl)
@[simp] theorem ev_tup:tupW l=.ret (.tup l):=(rfl)
@[simp] theorem ev_un2:un2 (.tup [x,y])=.ret (x,y):=(rfl)
@[simp] theorem ev_isiI (k:Kd):isiW k (.int i)=.ret (.bl (k.is (.int i))):=(rfl)
@[simp] theorem ev_isiS (k:Kd):isiW k (.str s)=.ret (.bl (k.is (.str s))):=(rfl)
@[simp] theorem ev_isiT (k:Kd):isiW k (.tup l)=.ret (.bl (k.is (.tup l))):=(rfl)
@[simp] theorem ev_isiC (k:Kd):isiW k (.cl l)=.ret (.bl (k.is (.cl l))):=(rfl)
@[simp] theorem ev_isiB (k:Kd):isiW k (.bl a)=.ret (.bl (k.is (.bl a))):=(rfl)
@[simp] theorem ev_isiN (k:Kd):isiW k .non=.ret (.bl (k.is .non)):=(rfl)
@[simp] theorem ev_lenT:of1 bLen [.tup l]=.ret (.int l.length):=W.ext' fun Q=>⟨And.right,fun q=>⟨rfl,q⟩⟩
@[simp] theorem ev_lenC:of1 bLen [.cl l]=.ret (.int l.length):=W.ext' fun Q=>⟨And.right,fun q=>⟨rfl,q⟩⟩
@[simp] theorem ev_lenS:of1 bLen [.str s]=.chk (s.length≤sizeLine) (.ret (.int s.length)):=W.ext' fun Q=>⟨fun q=>⟨q.1,q.2.2⟩,fun q=>⟨q.1,rfl,q.2⟩⟩
@[simp] theorem ev_abs:of1 bAbs [.int i]=.ret (.int (if i < 0 then -i else i)):=W.ext' fun Q=>⟨And.right,fun q=>⟨rfl,q⟩⟩
@[simp] theorem ev_intI:of1 bInt [.int i]=.ret (.int i):=W.ext' fun Q=>⟨And.right,fun q=>⟨rfl,q⟩⟩
@[simp] theorem ev_intB:of1 bInt [.bl a]=.ret (.int (if a then 1 else 0)):=W.ext' fun Q=>⟨And.right,fun q=>⟨rfl,q⟩⟩
@[simp] theorem ev_max:of1 bMax [.int i,.int j]=.ret (.int (if j > i then j else i)):=W.ext' fun Q=>⟨And.right,fun q=>⟨rfl,q⟩⟩
@[simp] theorem ev_min:of1 bMin [.int i,.int j]=.ret (.int (if j < i then j else i)):=W.ext' fun Q=>⟨And.right,fun q=>⟨rfl,q⟩⟩
@[simp] theorem ev_rng1:rng1W (.int j)=.chk (okN 0 j) (.ret (intsV 0 j.toNat)):=(rfl)
@[simp] theorem ev_pop:popW (l++[x])=.ret (l,x):=by unfold popW;simp
@[simp] theorem ev_rep:repW l (.int i)=.chk (-(2 ^ 63)≤i∧i < 2 ^ 63∧l.length*i.toNat≤sizeLine) (.ret (List.replicate i.toNat l).flatten):=(rfl)
@[simp] theorem ev_kdII:Kd.is .int (.int i)=true:=(rfl)
@[simp] theorem ev_kdIB:Kd.is .int (.bl a)=true:=(rfl)
@[simp] theorem ev_kdBB:Kd.is .bool (.bl a)=true:=(rfl)
@[simp] theorem ev_kdBI:Kd.is .bool (.int i)=false:=(rfl)
@[simp] theorem ev_kdSS:Kd.is .str (.str s)=true:=(rfl)
@[simp] theorem ev_kdST:Kd.is .str (.tup l)=false:=(rfl)
@[simp] theorem ev_kdSI:Kd.is .str (.int i)=false:=(rfl)
@[simp] theorem ev_kdTT:Kd.is .tup (.tup l)=true:=(rfl)
@[simp] theorem ev_kdTS:Kd.is .tup (.str s)=false:=(rfl)
@[simp] theorem ev_kdTI:Kd.is .tup (.int i)=false:=(rfl)
@[simp] theorem ev_kdTB:Kd.is .tup (.bl a)=false:=(rfl)
@[simp] theorem ev_take (h0:0 < i) (h1:i≤1000):mt_take (.int i)=drawn i:=W.chk_pos ⟨h0,h1⟩
theorem drawn_run {m:Int}{Q:PV→Prop} (h:∀d:Int,0≤d→d < m→Q (.int d)):(drawn m).run Q:=fun v ⟨d,e,h0,h1⟩=>e▸h d h0 h1
end
namespace W
variable {α β:Type}
def le (a b:W α):Prop:=∀Q,b.run Q→a.run Q
theorem le.refl (a:W α):a.le a:=fun _ h=>h
theorem le.of_eq {a b:W α} (h:a=b):a.le b:=h▸le.refl a
theorem le.ret {a:W α}{v:α}{f:α→W β}{b:W β} (h:a.le (.ret v)) (hf:(f v).le b):(a.bind f).le b:=fun Q q=>h _ (hf Q q)
theorem le.use {a:W α}{v:α}{Q:α→Prop} (h:a.le (.ret v)) (q:Q v):a.run Q:=h _ q
end W
section
variable {S R:Type}
@[simp] theorem forW_nil (s:S) (f:PV→S→W S):forW [] s f=.ret s:=(rfl)
@[simp] theorem forW_cons (x:PV) (r:List PV) (s:S) (f:PV→S→W S):forW (x::r) s f=.bind (f x s) fun s'=>forW r s' f:=(rfl)
theorem forW_run {f:PV→S→W S}{Q:S→Prop} (I:List PV→S→Prop):∀{l:List PV}{s:S},I l s→(∀x r s,I (x::r) s→(f x s).run (I r))→(∀s,I [] s→Q s)→(forW l s f).run Q
 | [],s,h0,_,he=>he s h0
 | x::r,s,h0,hs,he=>(f x s).mono (fun s' h=>forW_run I h hs he) (hs x r s h0)
theorem forF_run {f:PV→S→W (Lp S R)}{Q:Lp S R→Prop} (I:List PV→S→Prop):∀{l:List PV}{s:S},I l s→(∀x r s,I (x::r) s→(f x s).run fun o=>match o with | .go s'=>I r s' | .out t=>Q (.out t))→(∀s,I [] s→Q (.go s))→(FL.forF l s f).run Q
 | [],s,h0,_,he=>he s h0
 | x::r,s,h0,hs,he=>(f x s).mono (fun o h=>match o,h with
  | .go s',h=>forF_run I h hs he
  | .out t,h=>h) (hs x r s h0)
theorem forW_ix {f:PV→S→W S}{Q:S→Prop}{l:List PV} (I:Nat→S→Prop) {s:S} (h0:I 0 s) (hs:∀(i:Nat) (x:PV) s,l[i]?=some x→I i s→(f x s).run (I (i+1))) (he:∀s,I l.length s→Q s):(forW l s f).run Q:=by
 refine forW_run (fun r s=>∃i,i≤l.length∧r=l.drop i∧I i s) ⟨0,Nat.zero_le _,rfl,h0⟩ (fun x r s ⟨i,hi,e,h⟩=>?_) (fun s ⟨i,hi,e,h⟩=>?_)
 ·have hlt:i < l.length:=by
   rcases Nat.lt_or_ge i l.length with h | h
   ·exact h
   ·rw [List.drop_eq_nil_of_le h] at e;cases e
  rw [List.drop_eq_getElem_cons hlt] at e
  injection e with e1 e2
  subst e1
  exact (f _ s).mono (fun s' h'=>⟨i+1,hlt,e2,h'⟩) (hs i _ s (List.getElem?_eq_getElem hlt) h)
 ·have:i=l.length:=by
   have:=congrArg List.length e
   rw [List.length_drop] at this
   simp at this
   omega
  subst this
  exact he s h
theorem forF_ix {f:PV→S→W (Lp S R)}{Q:Lp S R→Prop}{l:List PV} (I:Nat→S→Prop) {s:S} (h0:I 0 s) (hs:∀(i:Nat) (x:PV) s,l[i]?=some x→I i s→(f x s).run fun o=>match o with | .go s'=>I (i+1) s' | .out t=>Q (.out t)) (he:∀s,I l.length s→Q (.go s)):(FL.forF l s f).run Q:=by
 refine forF_run (fun r s=>∃i,i≤l.length∧r=l.drop i∧I i s) ⟨0,Nat.zero_le _,rfl,h0⟩ (fun x r s ⟨i,hi,e,h⟩=>?_) (fun s ⟨i,hi,e,h⟩=>?_)
 ·have hlt:i < l.length:=by
   rcases Nat.lt_or_ge i l.length with h | h
   ·exact h
   ·rw [List.drop_eq_nil_of_le h] at e;cases e
  rw [List.drop_eq_getElem_cons hlt] at e
  injection e with e1 e2
  subst e1
  exact (f _ s).mono (fun o h'=>match o,h' with
   | .go s',h'=>⟨i+1,hlt,e2,h'⟩
   | .out t,h'=>h') (hs i _ s (List.getElem?_eq_getElem hlt) h)
 ·have:i=l.length:=by
   have:=congrArg List.length e
   rw [List.length_drop] at this
   simp at this
   omega
  subst this
  exact he s h
theorem forW_rng {f:PV→S→W S}{Q:S→Prop}{n:Nat} (I:Nat→S→Prop) {s:S} (h0:I 0 s) (hs:∀(i:Nat) s,i < n→I i s→(f (.int (i:Int)) s).run (I (i+1))) (he:∀s,I n s→Q s):(forW (intsV 0 n) s f).run Q:=
 forW_ix I h0 (fun i x s hx h=>by obtain⟨hi,rfl⟩:=intsV_get hx;rw [Int.zero_add];exact hs i s hi h) (fun s h=>he s (by rw [intsV_len] at h;exact h))
theorem forF_rng {f:PV→S→W (Lp S R)}{Q:Lp S R→Prop}{n:Nat} (I:Nat→S→Prop) {s:S} (h0:I 0 s) (hs:∀(i:Nat) s,i < n→I i s→(f (.int (i:Int)) s).run fun o=>match o with | .go s'=>I (i+1) s' | .out t=>Q (.out t)) (he:∀s,I n s→Q (.go s)):(FL.forF (intsV 0 n) s f).run Q:=
 forF_ix I h0 (fun i x s hx h=>by obtain⟨hi,rfl⟩:=intsV_get hx;rw [Int.zero_add];exact hs i s hi h) (fun s h=>he s (by rw [intsV_len] at h;exact h))
theorem whileW_run {c:S→W Bool}{b:S→W S}{Q:S→Prop} (I:Nat→S→Prop) {n:Nat}{s:S} (h0:I n s) (hs:∀n s,I n s→(c s).run fun k=>if k=true then (b s).run (fun s'=>∃m,m < n∧I m s') else Q s):(whileW c b s).run Q:=by
 refine⟨n+1,?_⟩
 have:∀k n s,n < k→I n s→(whileN c b k s).run Q:=by
  intro k
  induction k with
  | zero=>intro n s h;omega
  | succ k ih=>
   intro n s hn h
   refine (c s).mono (fun z q=>?_) (hs n s h)
   cases z with
   | true=>exact (b s).mono (fun s' ⟨m,hm,h'⟩=>ih m s' (by omega) h') (show (b s).run _ from q)
   | false=>exact q
 exact this (n+1) n s (by omega) h0
theorem mapW_eq {f:PV→W PV}{g:PV→PV}:∀{l:List PV},(∀x∈l,f x=.ret (g x))→mapW l f=.ret (l.map g)
 | [],_=>rfl
 | x::r,h=>by
  show W.bind (f x) (fun y=>W.bind (mapW r f) fun l=>W.ret (y::l))=_
  rw [h x (.head _),mapW_eq fun y hy=>h y (.tail _ hy)];rfl
theorem lcW_eq {f:PV→W (Option PV)}{g:PV→Option PV}:∀{l:List PV},(∀x∈l,f x=.ret (g x))→lcW l f=.ret (l.filterMap g)
 | [],_=>rfl
 | x::r,h=>by
  show W.bind (f x) (fun o=>W.bind (lcW r f) fun l=>W.ret (o.toList++l))=_
  rw [h x (.head _),lcW_eq fun y hy=>h y (.tail _ hy),List.filterMap_cons]
  cases g x <;> rfl
@[simp] theorem allW_bl (bs:List Bool):allW (bs.map PV.bl)=.ret (.bl (bs.all id)):=by unfold allW;rw [bsW_map];rfl
end
section
variable (i j:Int) (a b:Bool) (x y:PV) (l m:List PV) (s t:Str)
@[simp] theorem feqII:feq (.int i) (.int j)=(i==j):=by rw [feq]
@[simp] theorem feqSS:feq (.str s) (.str t)=(s==t):=by rw [feq]
@[simp] theorem feqBB:feq (.bl a) (.bl b)=(a==b):=by rw [feq]
@[simp] theorem feqTT:feq (.tup l) (.tup m)=feqs l m:=by rw [feq]
@[simp] theorem feqCC:feq (.cl l) (.cl m)=feqs l m:=by rw [feq]
@[simp] theorem feqs00:feqs [] []=true:=by rw [feqs]
@[simp] theorem feqs11:feqs (x::l) (y::m)=(feq x y&&feqs l m):=by rw [feqs]
@[simp] theorem fok_int:PV.fok (.int i)=true:=by rw [PV.fok] <;> simp
@[simp] theorem fok_bl:PV.fok (.bl a)=true:=by rw [PV.fok] <;> simp
@[simp] theorem fok_str:PV.fok (.str s)=true:=by rw [PV.fok] <;> simp
@[simp] theorem fok_non:PV.fok .non=true:=by rw [PV.fok] <;> simp
@[simp] theorem fok_tup:PV.fok (.tup l)=fokL l:=by rw [PV.fok]
@[simp] theorem fok_cl:PV.fok (.cl l)=fokL l:=by rw [PV.fok]
@[simp] theorem fokL_nil:fokL []=true:=by rw [fokL]
@[simp] theorem fokL_cons:fokL (x::l)=(PV.fok x&&fokL l):=by rw [fokL]
@[simp] theorem fdep_int:PV.fdep (.int i)=0:=by rw [PV.fdep] <;> simp
@[simp] theorem fdep_bl:PV.fdep (.bl a)=0:=by rw [PV.fdep] <;> simp
@[simp] theorem fdep_str:PV.fdep (.str s)=0:=by rw [PV.fdep] <;> simp
@[simp] theorem fdep_non:PV.fdep .non=0:=by rw [PV.fdep] <;> simp
@[simp] theorem fdep_tup:PV.fdep (.tup l)=fdepL l+1:=by rw [PV.fdep]
@[simp] theorem fdep_cl:PV.fdep (.cl l)=fdepL l+1:=by rw [PV.fdep]
@[simp] theorem fdepL_nil:fdepL []=0:=by rw [fdepL]
@[simp] theorem fdepL_cons:fdepL (x::l)=max (PV.fdep x) (fdepL l):=by rw [fdepL]
theorem eqOk_int:eqOk (.int i) (.int j):=⟨by simp,by simp,by simp⟩
@[simp] theorem ev_eqI:of2 oEqF (.int i) (.int j)=.ret (.bl (i==j)):=by rw [ev_eq,W.chk_pos (eqOk_int i j),feqII]
@[simp] theorem ev_neI:of2 oNeF (.int i) (.int j)=.ret (.bl (!(i==j))):=by rw [ev_ne,W.chk_pos (eqOk_int i j),feqII]
@[simp] theorem ev_eqB:of2 oEqF (.bl a) (.bl b)=.ret (.bl (a==b)):=by rw [ev_eq,W.chk_pos ⟨by simp,by simp,by simp⟩,feqBB]
@[simp] theorem ev_neB:of2 oNeF (.bl a) (.bl b)=.ret (.bl (!(a==b))):=by rw [ev_ne,W.chk_pos ⟨by simp,by simp,by simp⟩,feqBB]
end
theorem fokL_iff:∀{l:List PV},fokL l=true↔∀x∈l,PV.fok x=true
 | []=>by simp
 | x::l=>by rw [fokL,Bool.and_eq_true,fokL_iff (l:=l)];simp
theorem fdepL_le {n:Nat}:∀{l:List PV},(∀x∈l,PV.fdep x≤n)→fdepL l≤n
 | [],_=>by simp
 | x::l,h=>by
  have h1:=h x (.head _)
  have h2:=fdepL_le (l:=l) fun y hy=>h y (.tail _ hy)
  rw [fdepL];omega
end FL
set_option Elab.async false
set_option linter.all false
set_option maxRecDepth 100000
set_option maxHeartbeats 1000000
namespace My
open PySem PySem.Spec PyProof.Rows L2 PL FL
def m_parts_of (tree_:PV):W (List PV):=
 W.bind (W.ret []) fun backward_1=>
 W.bind (W.bind (W.ret tree_) fun x3=>W.ret [x3]) fun waiting_2=>
 W.bind (whileW (fun s4=>(W.bind (W.ret s4.2) fun l5=>W.ret (!l5.isEmpty))) (fun s4=>(
 W.bind (popW s4.2) fun t7=>
 W.bind (W.ret t7.2) fun x9=>W.bind (appW s4.1 x9) fun backward_8=>
 iteB (tnot (W.bind (W.bind (W.ret t7.2) (isiW .str)) truW)) (
 W.bind (W.bind (W.ret t7.2) seqW) fun l11=>W.bind (extW t7.1 l11) fun waiting_10=>
 W.ret (backward_8,waiting_10)) (
 W.ret (backward_8,t7.1)))) (backward_1,waiting_2)) fun s4=>
 (W.bind (W.ret s4.1) fun l12=>W.ret l12.reverse)
def m_nodes (tree_:PV):W PV:=
 W.bind (W.ret []) fun told_1=>
 W.bind (W.ret []) fun loose_2=>
 W.bind (W.bind (W.ret tree_) fun x3=>m_parts_of x3) fun l30=>W.bind (forW l30 (told_1,loose_2) fun part_5 s4=>(
 W.bind (W.bind (W.bind (W.ret part_5) (isiW .str)) truW) fun b=>W.bind (if b=true then (
 W.bind (W.ret part_5) fun x18=>W.bind (appW s4.1 x18) fun told_17=>
 W.ret (told_17,s4.2)) else (
 W.bind (popW s4.2) fun t20=>
 W.bind (popW t20.1) fun t22=>
 W.bind (W.bind (W.ret t22.2) fun x24=>W.bind (W.ret t20.2) fun x25=>W.ret (.tup [x24,x25])) fun x26=>W.bind (appW s4.1 x26) fun told_23=>
 W.ret (told_23,t22.1))) fun s16=>
 W.bind (b2 oSub (W.bind (W.ret s16.1) lenW) (W.ret (.int 1))) fun x28=>W.bind (appW s16.2 x28) fun loose_27=>
 W.ret (s16.1,loose_27))) fun s4=>
 (W.bind (W.ret s4.1) tupW)
def m_halves (node_:PV):W PV:=
 (iteB (W.bind (W.bind (W.ret node_) (isiW .str)) truW) (W.ret (.tup [])) (W.ret node_))
def m_ahead_of (tree_:PV):W PV:=
 W.bind (W.bind (W.ret tree_) fun x2=>m_nodes x2) fun told_1=>
 W.bind (W.bind (W.bind (W.ret told_1) seqW) fun l4=>mapW l4 fun p5=>(W.ret .non)) fun ahead_3=>
 W.bind (W.bind (W.bind (W.ret told_1) seqW) fun l6=>.chk (l6.length≤sizeLine) (.ret (enumV 0 l6))) fun l19=>W.bind (forW l19 ahead_3 fun p8 s7=>W.bind (un2 p8) fun t9=>(
 W.bind (W.bind (W.bind (W.ret t9.2) fun x10=>m_halves x10) seqW) fun l17=>W.bind (forW l17 s7 fun half_12 s11=>(
 W.bind (W.ret t9.1) fun x14=>W.bind (W.ret half_12) fun x15=>W.bind (setW s11 x15 x14) fun ahead_13=>
 W.ret ahead_13)) fun s11=>
 W.ret s11)) fun s7=>
 (W.bind (W.ret s7) tupW)
def m_name_of (houses_:PV) (house_:PV):W PV:=
 (iteB (W.bind (W.bind (ixB (W.bind (W.ret houses_) seqW) (W.ret house_)) (isiW .str)) truW) (ixB (W.bind (W.ret houses_) seqW) (W.ret house_)) (W.ret house_))
def m__law_pot (script_:PV) (k_:PV):W (List PV):=
 W.bind (W.ret (.int 0)) fun cell_1=>
 W.bind (t2 oLt (W.ret k_) (c1 bLen (W.ret script_))) fun b=>W.bind (if b=true then (
 W.bind (c1 bAbs (ixB (W.bind (W.ret script_) seqW) (W.ret k_))) fun cell_4=>
 W.ret cell_4) else (
 W.ret cell_1)) fun s3=>
 W.bind (b2 oMul (b2 oMod (W.ret s3) (b2 oMul (b2 oPow (W.ret (.int 10)) (W.ret (.int 60))) (b2 oPow (W.ret (.int 10)) (W.ret (.int 60))))) (c1 bInt (b2 oGe (W.ret s3) (b2 oPow (W.ret (.int 10)) (W.ret (.int 18)))))) fun digits_5=>
 (W.bind (W.ret digits_5) fun x6=>W.bind (b2 oMod (w2 addW (w2 addW (W.ret s3) (b2 oMul (W.ret (.int 104729)) (W.ret k_))) (W.ret (.int 7))) (W.ret (.int 2305843009213693951))) fun x7=>W.bind (W.ret (.int 0)) fun x8=>W.ret [x6,x7,x8])
def m__law_take (pot_here_:List PV) (many_:PV):W (PV×List PV):=
 iteB (t2 oGt (ixB (W.ret pot_here_) (W.ret (.int 0))) (W.ret (.int 0))) (
 W.bind (b2 oMod (ixB (W.ret pot_here_) (W.ret (.int 0))) (W.ret many_)) fun digit_1=>
 W.bind (b2 oDiv (ixB (W.ret pot_here_) (W.ret (.int 0))) (W.ret many_)) fun x3=>W.bind (W.ret (.int 0)) fun x4=>W.bind (setW pot_here_ x4 x3) fun pot_here_2=>
 W.bind (W.ret digit_1) fun x5=>W.ret (x5,pot_here_2)) (
 W.bind (W.ret (.int 2)) fun x6=>W.bind (ixN0 pot_here_ x6) fun x7=>W.bind (W.ret (.int 1)) fun x8=>W.bind (of2 ipAdd x7 x8) fun x10=>W.bind (setW pot_here_ x6 x10) fun pot_here_9=>
 W.bind (b2 oMod (w2 addW (w2 addW (b2 oMul (ixB (W.ret pot_here_9) (W.ret (.int 1))) (W.ret (.int 69069))) (b2 oMul (W.ret (.int 9973)) (ixB (W.ret pot_here_9) (W.ret (.int 2))))) (W.ret (.int 5))) (W.ret (.int 2305843009213693921))) fun mixed_11=>
 W.bind (b2 oMod (b2 oMul (W.ret mixed_11) (w2 addW (w2 addW (b2 oMod (W.ret mixed_11) (W.ret (.int 999983))) (b2 oMul (W.ret (.int 2)) (ixB (W.ret pot_here_9) (W.ret (.int 2))))) (W.ret (.int 3)))) (W.ret (.int 2305843009213693907))) fun x13=>W.bind (W.ret (.int 1)) fun x14=>W.bind (setW pot_here_9 x14 x13) fun pot_here_12=>
 W.bind (b2 oMod (b2 oDiv (ixB (W.ret pot_here_12) (W.ret (.int 1))) (W.ret (.int 65537))) (W.ret many_)) fun x15=>W.ret (x15,pot_here_12))
def m__law_words (many_:PV):W (List PV):=
 W.bind (W.ret (.str "abcdefghijklmnopqrstuvwxyz")) fun letters_1=>
 W.bind (W.bind (W.ret (.int 26)) fun x3=>mt_take x3) fun first_2=>
 W.bind (ixB (W.bind (W.ret (.int 1)) fun x5=>W.bind (W.ret (.int 3)) fun x6=>W.bind (W.ret (.int 5)) fun x7=>W.bind (W.ret (.int 7)) fun x8=>W.bind (W.ret (.int 9)) fun x9=>W.bind (W.ret (.int 11)) fun x10=>W.ret [x5,x6,x7,x8,x9,x10]) (W.bind (W.ret (.int 6)) fun x11=>mt_take x11)) fun turn_4=>
 W.bind (ixB (W.bind (W.ret (.str "")) fun x13=>W.bind (W.ret (.str "k")) fun x14=>W.ret [x13,x14]) (W.bind (W.ret (.int 2)) fun x15=>mt_take x15)) fun stem_12=>
 W.bind (W.bind (W.ret (.str "")) fun x17=>W.bind (W.ret (.str "q")) fun x18=>W.bind (W.ret (.str "zz")) fun x19=>W.bind (W.ret (.str "abcdef")) fun x20=>W.ret [x17,x18,x19,x20]) fun ends_16=>
 W.bind (W.ret []) fun found_21=>
 W.bind (W.bind (W.ret many_) rng1W) fun l29=>W.bind (forW l29 found_21 fun k_24 s23=>(
 W.bind (b2 oIxS (W.ret letters_1) (b2 oMod (w2 addW (W.ret first_2) (b2 oMul (W.ret turn_4) (W.ret k_24))) (W.ret (.int 26)))) fun letter_25=>
 W.bind (w2 addW (w2 addW (W.ret stem_12) (W.ret letter_25)) (ixB (W.bind (W.ret (.cl ends_16)) seqW) (b2 oMod (w2 addW (W.ret first_2) (W.ret k_24)) (W.ret (.int 4))))) fun x27=>W.bind (appW s23 x27) fun found_26=>
 W.ret found_26)) fun s23=>
 W.ret s23
def m__law_same:Nat→PV→PV→W PV
 | 0,_,_=>W.fail
 | n+1,found_,due_=>
 iteB (W.bind (W.bind (W.ret due_) (isiW .tup)) truW) (
 iteB (tor (tnot (W.bind (W.bind (W.ret found_) (isiW .tup)) truW)) (t2 oNeF (c1 bLen (W.ret found_)) (c1 bLen (W.ret due_)))) (
 (W.ret (.bl false))) (
 (W.bind (W.bind (W.bind (W.bind (W.ret found_) seqW) fun l1=>W.bind (W.bind (W.ret due_) seqW) fun l2=>zipW l1 l2) fun l3=>mapW l3 fun p4=>W.bind (un2 p4) fun t5=>(W.bind (W.ret t5.1) fun x6=>W.bind (W.ret t5.2) fun x7=>m__law_same n x6 x7)) allW))) (
 iteB (tor (W.bind (W.bind (W.ret due_) (isiW .str)) truW) (t2 oIsN (W.ret due_) (W.ret .non))) (
 (andB (b2 oEqF (W.bind (W.ret found_) (isiW .str)) (W.bind (W.ret due_) (isiW .str))) (b2 oEqF (W.ret found_) (W.ret due_)))) (
 (andB (W.bind (W.ret found_) (isiW .int)) (andB (W.bind (W.bind (W.ret found_) (isiW .bool)) notW) (b2 oEqF (W.ret found_) (W.ret due_))))))
end My
set_option Elab.async false
set_option linter.all false
set_option maxRecDepth 100000
set_option maxHeartbeats 1000000
namespace My
open PySem PySem.Spec PyProof.Rows L2 PL FL
def m_split_dates (houses_:PV) (dates_:PV):W (List PV):=
 (W.bind (W.bind (W.bind (W.ret houses_) seqW) fun l1=>W.bind (W.bind (W.ret dates_) seqW) fun l2=>zipW l1 l2) fun l3=>lcW l3 fun p4=>W.bind (un2 p4) fun t5=>lcB (tnot (W.bind (W.bind (W.ret t5.1) (isiW .str)) truW)) (W.ret t5.2))
def m__law_pick (some_:PV):W PV:=
 (ixB (W.bind (W.ret some_) seqW) (W.bind (c1 bLen (W.ret some_)) fun x1=>mt_take x1))
def m__law_tree (words_here_:PV):W PV:=
 W.bind (W.bind (W.ret words_here_) seqW) fun some_1=>
 W.bind (W.bind (W.ret (.int 4)) fun x3=>mt_take x3) fun way_2=>
 W.bind (whileW (fun s4=>(t2 oGt (W.bind (W.ret s4) lenW) (W.ret (.int 1)))) (fun s4=>(
 W.bind (ixB (W.bind (W.bind (b2 oSub (W.bind (W.ret s4) lenW) (W.ret (.int 1))) fun x6=>mt_take x6) fun x7=>W.bind (b2 oSub (W.bind (W.ret s4) lenW) (W.ret (.int 2))) fun x8=>W.bind (W.ret (.int 0)) fun x9=>W.bind (W.ret (.int 0)) fun x10=>W.ret [x7,x8,x9,x10]) (W.ret way_2)) fun at_5=>
 W.bind (W.bind (ixB (W.ret s4) (W.ret at_5)) fun x12=>W.bind (ixB (W.ret s4) (w2 addW (W.ret at_5) (W.ret (.int 1)))) fun x13=>W.ret (.tup [x12,x13])) fun pair_11=>
 W.bind (tand (t2 oEqF (W.ret way_2) (W.ret (.int 3))) (t2 oEqF (W.bind (W.ret (.int 2)) fun x14=>mt_take x14) (W.ret (.int 0)))) fun b=>W.bind (if b=true then (
 W.bind (W.bind (ixB (W.ret s4) (w2 addW (W.ret at_5) (W.ret (.int 1)))) fun x20=>W.bind (ixB (W.ret s4) (W.ret at_5)) fun x21=>W.ret (.tup [x20,x21])) fun pair_19=>
 W.ret pair_19) else (
 W.ret pair_11)) fun s18=>
 W.bind (W.bind (W.ret s18) fun x23=>W.ret [x23]) fun l24=>W.bind (W.ret at_5) fun x25=>W.bind (w2 addW (W.ret at_5) (W.ret (.int 2))) fun x26=>W.bind (slsW s4 x25 x26 l24) fun some_22=>
 W.ret some_22)) some_1) fun s4=>
 (ixB (W.ret s4) (W.ret (.int 0)))
def m__law_great:W PV:=
 (W.bind (frzB (W.bind (w2 addW (W.ret (.int 1)) (W.bind (ixB (W.bind (W.ret (.int 5)) fun x1=>W.bind (W.ret (.int 8)) fun x2=>W.ret [x1,x2]) (c1 bInt (b2 oEqF (W.bind (W.ret (.int 8)) fun x3=>mt_take x3) (W.ret (.int 0))))) fun x4=>mt_take x4)) fun x5=>m__law_words x5)) fun x6=>m__law_tree x6)
def m__law_nodes:Nat→PV→W (List PV)
 | 0,_=>W.fail
 | n+1,tree_here_=>
 iteB (W.bind (W.bind (W.ret tree_here_) (isiW .str)) truW) (
 (W.bind (W.ret tree_here_) fun x1=>W.ret [x1])) (
 W.bind (W.bind (ixB (W.bind (W.ret tree_here_) seqW) (W.ret (.int 0))) fun x3=>m__law_nodes n x3) fun rows_2=>
 W.bind (W.bind (W.ret rows_2) lenW) fun many_4=>
 W.bind (W.bind (ixB (W.bind (W.ret tree_here_) seqW) (W.ret (.int 1))) fun x5=>m__law_nodes n x5) fun l18=>W.bind (forW l18 rows_2 fun row_7 s6=>(
 W.bind (iteB (W.bind (W.bind (W.ret row_7) (isiW .str)) truW) (W.ret row_7) (W.bind (w2 addW (ixB (W.bind (W.ret row_7) seqW) (W.ret (.int 0))) (W.ret many_4)) fun x9=>W.bind (w2 addW (ixB (W.bind (W.ret row_7) seqW) (W.ret (.int 1))) (W.ret many_4)) fun x10=>W.ret (.tup [x9,x10]))) fun x11=>W.bind (appW s6 x11) fun rows_8=>
 W.ret rows_8)) fun s6=>
 (W.bind (W.ret s6) fun l15=>W.bind (W.bind (W.bind (b2 oSub (W.ret many_4) (W.ret (.int 1))) fun x12=>W.bind (b2 oSub (W.bind (W.ret s6) lenW) (W.ret (.int 1))) fun x13=>W.ret (.tup [x12,x13])) fun x14=>W.ret [x14]) fun l16=>catW l15 l16))
def m__law_dates (rows_:PV):W PV:=
 W.bind (W.bind (W.bind (W.ret (.int 0)) fun x2=>W.ret [x2]) fun l3=>W.bind (c1 bLen (W.ret rows_)) fun x4=>repW l3 x4) fun dates_here_1=>
 W.bind (W.bind (W.bind (W.bind (W.ret rows_) seqW) fun l6=>.chk (l6.length≤sizeLine) (.ret (enumV 0 l6))) fun l7=>lcW l7 fun p8=>W.bind (un2 p8) fun t9=>lcB (tnot (W.bind (W.bind (W.ret t9.2) (isiW .str)) truW)) (W.ret t9.1)) fun left_5=>
 W.bind (W.ret (.int 0)) fun date_10=>
 W.bind (whileW (fun s11=>(W.bind (W.ret s11.2.1) fun l12=>W.ret (!l12.isEmpty))) (fun s11=>(
 W.bind (W.bind (W.bind (W.bind (W.ret (.cl s11.2.1)) seqW) fun l14=>lcW l14 fun p15=>lcB (tand (inFT true (ixB (W.bind (ixB (W.bind (W.ret rows_) seqW) (W.ret p15)) seqW) (W.ret (.int 0))) (W.bind (W.ret (.cl s11.2.1)) seqW)) (inFT true (ixB (W.bind (ixB (W.bind (W.ret rows_) seqW) (W.ret p15)) seqW) (W.ret (.int 1))) (W.bind (W.ret (.cl s11.2.1)) seqW))) (W.ret p15)) thawL) fun ready_13=>
 W.bind (W.bind (W.ret (.cl ready_13)) fun x17=>m__law_pick x17) fun house_16=>
 W.bind (w2 addW (w2 addW (W.ret s11.2.2) (W.ret (.int 1))) (W.bind (ixB (W.bind (W.ret (.int 1)) fun x19=>W.bind (W.ret (.int 3)) fun x20=>W.bind (W.ret (.int 13)) fun x21=>W.ret [x19,x20,x21]) (W.bind (W.ret (.int 3)) fun x22=>mt_take x22)) fun x23=>mt_take x23)) fun date_18=>
 W.bind (W.ret date_18) fun x25=>W.bind (W.ret house_16) fun x26=>W.bind (setW s11.1 x26 x25) fun dates_here_24=>
 W.bind (W.ret house_16) fun x28=>W.bind (remW s11.2.1 x28) fun left_27=>
 W.ret (dates_here_24,left_27,date_18))) (dates_here_1,left_5,date_10)) fun s11=>
 (W.bind (W.ret s11.1) tupW)
end My
set_option Elab.async false
set_option linter.all false
set_option maxRecDepth 100000
set_option maxHeartbeats 1000000
namespace My
open PySem PySem.Spec PyProof.Rows L2 PL FL
def m_standing (great_:PV) (dates_:PV) (begins_:PV):W (List PV):=
 W.bind (W.bind (W.ret great_) fun x2=>m_ahead_of x2) fun ahead_1=>
 W.bind (W.ret []) fun pairs_3=>
 W.bind (W.bind (W.bind (W.ret begins_) seqW) fun l4=>.chk (l4.length≤sizeLine) (.ret (enumV 0 l4))) fun l19=>W.bind (forW l19 pairs_3 fun p6 s5=>W.bind (un2 p6) fun t7=>(
 W.bind (W.bind (W.bind (W.ret dates_) seqW) fun l8=>.chk (l8.length≤sizeLine) (.ret (enumV 0 l8))) fun l17=>W.bind (forW l17 s5 fun p10 s9=>W.bind (un2 p10) fun t11=>(
 iteB (tand (t2 oLe (W.ret t11.2) (W.ret t7.2)) (tor (t2 oIsN (ixB (W.bind (W.ret ahead_1) seqW) (W.ret t11.1)) (W.ret .non)) (t2 oLt (W.ret t7.2) (ixB (W.bind (W.ret dates_) seqW) (ixB (W.bind (W.ret ahead_1) seqW) (W.ret t11.1)))))) (
 W.bind (W.bind (W.ret t11.1) fun x13=>W.bind (W.ret t7.1) fun x14=>W.ret (.tup [x13,x14])) fun x15=>W.bind (appW s9 x15) fun pairs_12=>
 W.ret pairs_12) (
 W.ret s9))) fun s9=>
 W.ret s9)) fun s5=>
 W.ret s5
def m_stay_of (houses_:PV) (dates_:PV) (begins_:PV) (numbers_:PV) (pair_:PV):W PV:=
 W.bind (ixB (W.bind (W.ret pair_) seqW) (W.ret (.int 0))) fun house_1=>
 W.bind (ixB (W.bind (W.ret pair_) seqW) (W.ret (.int 1))) fun layer_2=>
 W.bind (b2 oLt (ixB (W.bind (W.ret dates_) seqW) (W.ret house_1)) (ixB (W.bind (W.ret begins_) seqW) (W.ret layer_2))) fun goes_on_3=>
 W.bind (iteB (W.bind (W.ret goes_on_3) truW) (W.bind (W.ret house_1) fun x5=>W.ret (.tup [x5])) (W.bind (ixB (W.bind (W.ret houses_) seqW) (W.ret house_1)) fun x6=>m_halves x6)) fun below_4=>
 W.bind (W.bind (W.bind (W.bind (W.ret below_4) seqW) fun l8=>mapW l8 fun p9=>(dgB (W.ret numbers_) (W.bind (W.ret p9) fun x10=>W.bind (b2 oSub (W.ret layer_2) (W.ret (.int 1))) fun x11=>W.ret (.tup [x10,x11])))) tupW) fun under_7=>
 W.bind (W.bind (W.bind (W.bind (W.ret numbers_) keysW) fun l13=>lcW l13 fun p14=>lcB (tand (t2 oEqF (ixB (W.bind (W.ret p14) seqW) (W.ret (.int 1))) (W.ret layer_2)) (t2 oNeF (ixB (W.bind (W.ret p14) seqW) (W.ret (.int 0))) (W.ret house_1))) (dgB (W.ret numbers_) (W.ret p14))) tupW) fun beside_12=>
 (W.bind (W.bind (W.ret houses_) fun x15=>W.bind (W.ret house_1) fun x16=>m_name_of x15 x16) fun x17=>W.bind (W.ret layer_2) fun x18=>W.bind (W.ret under_7) fun x19=>W.bind (W.ret beside_12) fun x20=>W.ret (.tup [x17,x18,x19,x20]))
def m_dated (great_:PV) (dates_:PV):W PV:=
 W.bind (W.bind (W.ret great_) fun x2=>m_nodes x2) fun houses_1=>
 W.bind (W.bind (W.bind (W.ret (.int 0)) fun x4=>W.ret [x4]) fun l7=>W.bind (W.bind (W.bind (W.ret houses_1) fun x5=>W.bind (W.ret dates_) fun x6=>m_split_dates x5 x6) sortIW) fun l8=>catW l7 l8) fun begins_3=>
 W.bind (W.bind (W.ret great_) fun x10=>W.bind (W.ret dates_) fun x11=>W.bind (W.ret (.cl begins_3)) fun x12=>m_standing x10 x11 x12) fun pairs_9=>
 W.bind (W.bind (W.bind (W.bind (W.bind (W.ret (.cl pairs_9)) seqW) fun l14=>.chk (l14.length≤sizeLine) (.ret (enumV 0 l14))) fun l15=>mapW l15 fun p16=>W.bind (un2 p16) fun t17=>(W.bind (W.ret t17.2) fun x18=>W.bind (W.ret t17.1) fun x19=>W.ret (.tup [x18,x19]))) dictTW) fun numbers_13=>
 (W.bind (W.bind (W.bind (W.ret (.cl pairs_9)) seqW) fun l20=>mapW l20 fun p21=>(W.bind (W.ret houses_1) fun x22=>W.bind (W.ret dates_) fun x23=>W.bind (W.ret (.cl begins_3)) fun x24=>W.bind (W.ret numbers_13) fun x25=>W.bind (W.ret p21) fun x26=>m_stay_of x22 x23 x24 x25 x26)) tupW)
def m__law_ahead (rows_:PV):W (List PV):=
 W.bind (W.bind (W.bind (W.ret .non) fun x2=>W.ret [x2]) fun l3=>W.bind (c1 bLen (W.ret rows_)) fun x4=>repW l3 x4) fun found_1=>
 W.bind (W.bind (W.bind (W.ret rows_) seqW) fun l5=>.chk (l5.length≤sizeLine) (.ret (enumV 0 l5))) fun l16=>W.bind (forW l16 found_1 fun p7 s6=>W.bind (un2 p7) fun t8=>(
 iteB (tnot (W.bind (W.bind (W.ret t8.2) (isiW .str)) truW)) (
 W.bind (W.ret t8.1) fun x10=>W.bind (ixB (W.bind (W.ret t8.2) seqW) (W.ret (.int 0))) fun x11=>W.bind (setW s6 x11 x10) fun found_9=>
 W.bind (W.ret t8.1) fun x13=>W.bind (ixB (W.bind (W.ret t8.2) seqW) (W.ret (.int 1))) fun x14=>W.bind (setW found_9 x14 x13) fun found_12=>
 W.ret found_12) (
 W.ret s6))) fun s6=>
 W.ret s6
def m__law_standing (rows_:PV) (dates_here_:PV):W PV:=
 W.bind (W.bind (W.ret rows_) fun x2=>m__law_ahead x2) fun ahead_here_1=>
 W.bind (W.bind (W.bind (W.bind (W.ret dates_here_) seqW) fun l4=>mapW l4 fun p5=>(W.bind (W.ret p5) fun x6=>W.bind (W.ret (.bl true)) fun x7=>W.ret (.tup [x6,x7]))) sortDW) fun floors_3=>
 W.bind (W.ret []) fun found_8=>
 W.bind (W.bind (W.bind (W.ret (.cl floors_3)) seqW) fun l9=>.chk (l9.length≤sizeLine) (.ret (enumV 0 l9))) fun l30=>W.bind (forW l30 found_8 fun p11 s10=>W.bind (un2 p11) fun t12=>(
 W.bind (W.bind (c1 bLen (W.ret rows_)) rng1W) fun l26=>W.bind (forW l26 s10 fun house_15 s14=>(
 W.bind (ixB (W.bind (W.ret (.cl ahead_here_1)) seqW) (W.ret house_15)) fun above_16=>
 W.bind (andB (b2 oLe (ixB (W.bind (W.ret dates_here_) seqW) (W.ret house_15)) (W.ret t12.2)) (orB (b2 oIsN (W.ret above_16) (W.ret .non)) (b2 oGt (ixB (W.bind (W.ret dates_here_) seqW) (W.ret above_16)) (W.ret t12.2)))) fun stands_17=>
 W.bind (W.bind (W.bind (W.bind (W.ret house_15) fun x19=>W.bind (W.ret t12.1) fun x20=>W.ret (.tup [x19,x20])) fun x21=>W.ret [x21]) fun l22=>W.bind (c1 bInt (W.ret stands_17)) fun x23=>repW l22 x23) fun l24=>W.bind (extW s14 l24) fun found_18=>
 W.ret found_18)) fun s14=>
 W.ret s14)) fun s10=>
 (W.bind (W.ret (.cl floors_3)) fun x27=>W.bind (W.ret (.cl s10)) fun x28=>W.ret (.tup [x27,x28]))
def m__law_dated_ground (great_here_:PV) (dates_here_:PV):W PV:=
 W.bind (W.bind (W.ret great_here_) fun x2=>m__law_nodes 9 x2) fun rows_1=>
 W.bind (W.bind (W.ret (.cl rows_1)) fun x3=>W.bind (W.ret dates_here_) fun x4=>m__law_standing x3 x4) fun x5=>W.bind (un2 x5) fun t6=>
 W.bind (W.ret []) fun stays_7=>
 W.bind (W.bind (W.ret t6.2) seqW) fun l36=>W.bind (forW l36 stays_7 fun p9 s8=>W.bind (un2 p9) fun t10=>(
 W.bind (ixB (W.bind (W.ret (.cl rows_1)) seqW) (W.ret t10.1)) fun row_11=>
 W.bind (W.bind (W.ret t10.1) fun x13=>W.ret [x13]) fun lower_12=>
 W.bind (t2 oEqF (ixB (W.bind (W.ret dates_here_) seqW) (W.ret t10.1)) (ixB (W.bind (W.ret t6.1) seqW) (W.ret t10.2))) fun b=>W.bind (if b=true then (
 W.bind (iteB (W.bind (W.bind (W.ret row_11) (isiW .str)) truW) (W.ret []) (W.bind (W.ret row_11) seqW)) fun lower_16=>
 W.ret (.cl lower_16)) else (
 W.ret (.cl lower_12))) fun s15=>
 W.bind (W.bind (W.bind (W.bind (W.ret s15) seqW) fun l18=>mapW l18 fun p19=>(W.bind (W.bind (W.ret t6.2) lstW) fun l22=>W.bind (W.bind (W.ret p19) fun x20=>W.bind (b2 oSub (W.ret t10.2) (W.ret (.int 1))) fun x21=>W.ret (.tup [x20,x21])) fun x23=>idxW l22 x23)) tupW) fun under_17=>
 W.bind (W.bind (W.bind (W.bind (W.bind (W.ret t6.2) seqW) fun l25=>.chk (l25.length≤sizeLine) (.ret (enumV 0 l25))) fun l26=>lcW l26 fun p27=>W.bind (un2 p27) fun t28=>lcB (tand (t2 oEqF (ixB (W.bind (W.ret t28.2) seqW) (W.ret (.int 1))) (W.ret t10.2)) (t2 oNeF (ixB (W.bind (W.ret t28.2) seqW) (W.ret (.int 0))) (W.ret t10.1))) (W.ret t28.1)) tupW) fun beside_24=>
 W.bind (W.bind (iteB (W.bind (W.bind (W.ret row_11) (isiW .str)) truW) (W.ret row_11) (W.ret t10.1)) fun x30=>W.bind (W.ret t10.2) fun x31=>W.bind (W.ret under_17) fun x32=>W.bind (W.ret beside_24) fun x33=>W.ret (.tup [x30,x31,x32,x33])) fun x34=>W.bind (appW s8 x34) fun stays_29=>
 W.ret stays_29)) fun s8=>
 (W.bind (W.ret s8) tupW)
def m_law_3 (script_:PV):W PV:=
 W.bind (W.bind (W.bind (W.ret (.int 1)) fun x3=>W.bind (W.bind (c1 bLen (W.ret script_)) fun x1=>W.bind (W.ret (.int 8)) fun x2=>of1 bMin [x1,x2]) fun x4=>of1 bMax [x3,x4]) rng1W) fun l43=>W.bind (forF l43 () fun k_7 s6=>(
 W.bind (W.bind (W.ret script_) fun x9=>W.bind (W.ret k_7) fun x10=>m__law_pot x9 x10) fun pot_here_8=>potW potG pot_here_8 (
 W.bind (W.bind (W.ret (.int 2)) rng1W) fun l31=>W.bind (forF l31 () fun turn_13 s12=>(
 W.bind (m__law_great) fun great_here_14=>
 W.bind (W.bind (frzB (W.bind (W.ret great_here_14) fun x16=>m__law_nodes 9 x16)) fun x17=>m__law_dates x17) fun dates_here_15=>
 W.bind (W.bind (W.ret great_here_14) fun x19=>W.bind (W.ret dates_here_15) fun x20=>m__law_dated_ground x19 x20) fun due_18=>
 iteB (tor (tnot (W.bind (W.bind (W.bind (W.ret great_here_14) fun x25=>W.bind (W.ret dates_here_15) fun x26=>m_dated x25 x26) fun x27=>W.bind (W.ret due_18) fun x28=>m__law_same 4 x27 x28) truW)) (tnot (W.bind (W.bind (W.bind (W.ret great_here_14) fun x21=>W.bind (W.ret dates_here_15) fun x22=>m_dated x21 x22) fun x23=>W.bind (W.ret due_18) fun x24=>m__law_same 4 x23 x24) truW))) (
 W.bind (W.ret (.bl false)) fun x29=>W.ret (Lp.out x29)) (
 W.ret (.go ())))) (goW (fun s12=>
 W.ret (.go ())) Lp.out)))) (goW (fun s6=>
 (W.bind (W.bind (W.ret (.str "a")) fun x32=>W.bind (W.bind (W.ret (.int 0)) fun x33=>W.ret (.tup [x33])) fun x34=>m_dated x32 x34) fun x35=>W.bind (W.bind (W.bind (W.ret (.str "a")) fun x36=>W.bind (W.ret (.int 0)) fun x37=>W.bind (W.ret (.tup [])) fun x38=>W.bind (W.ret (.tup [])) fun x39=>W.ret (.tup [x36,x37,x38,x39])) fun x40=>W.ret (.tup [x40])) fun x41=>m__law_same 4 x35 x41)) id)
end My
set_option Elab.async false
set_option linter.all false
set_option maxRecDepth 100000
namespace My
open PySem PySem.Spec PyProof.Rows L2 PL FL
def Tr.pv:Tr→PV
 | .leaf x=>.str x
 | .node l r=>.tup [l.pv,r.pv]
def Ent.pv:Ent→PV
 | .word x=>.str x
 | .pair a b=>.tup [.int (a:Int),.int (b:Int)]
theorem snoc_of {α:Type}{l:List α} (h:l≠[]):∃a x,l=a++[x]:=⟨l.dropLast,l.getLast h,(List.dropLast_concat_getLast h).symm⟩
theorem sizes_le {a b:List Tr}{t:Tr} (h:posts a++b=t.post):sizes a+b.length=t.size:=by
 have h1:=congrArg List.length h
 rw [List.length_append,t.post_len] at h1
 have h2:∀l:List Tr,(posts l).length=sizes l:=by
  intro l
  induction l with
  | nil=>rfl
  | cons x l ih=>
   have e1:posts (x::l)=x.post++posts l:=rfl
   have e2:sizes (x::l)=x.size+sizes l:=rfl
   rw [e1,e2,List.length_append,ih,x.post_len]
 rw [h2] at h1
 exact h1
theorem app_le {l:List PV}{x:PV} (h:l.length < 1000):appW l x=.ret (l++[x]):=W.chk_pos (by have:=small' (n:=1000) (Nat.le_refl _);omega)
theorem parts_le (t:Tr) (hz:t.size≤900):(m_parts_of t.pv).le (.ret (t.post.map Tr.pv)):=fun Q q=>by
 unfold m_parts_of
 simp only [W.ret_bind,W.run_bind]
 refine whileW_run (fun n s=>∃ts bs:List Tr,n=sizes ts∧s=(bs.map Tr.pv,ts.map Tr.pv)∧posts ts++bs.reverse=t.post) ⟨[t],[],rfl,rfl,by rw [posts_one];simp⟩ ?_
 rintro n s ⟨ts,bs,rfl,rfl,hp⟩
 have hs:=sizes_le hp
 rw [List.length_reverse] at hs
 by_cases he:ts=[]
 ·subst he
  have hp':bs.reverse=t.post:=hp
  simp
  rw [← List.map_reverse,hp']
  exact q
 ·obtain⟨us,u,rfl⟩:=snoc_of he
  have hl2:=len_sizes us
  have hsu:=u.size_pos
  rw [sizes_append,sizes_one] at hs
  simp
  rw [app_le (by rw [List.length_map];omega)]
  cases u with
  | leaf x=>
   simp [Tr.pv]
   refine⟨_,?_,us,rfl,bs++[.leaf x],⟨by simp [Tr.pv],rfl⟩,?_⟩
   ·rw [sizes_append,sizes_one];show sizes us < sizes us+1;omega
   ·rw [posts_append,posts_one] at hp
    rw [List.reverse_append,← hp]
    simp [Tr.post]
  | node c d=>
   have e1:extW (us.map Tr.pv) [c.pv,d.pv]=.ret (us.map Tr.pv++[c.pv,d.pv]):=W.chk_pos (small' (by
    have:(Tr.node c d).size=c.size+d.size+1:=rfl
    simp;omega))
   simp [Tr.pv,e1]
   refine⟨_,?_,us++[c,d],rfl,bs++[.node c d],⟨by simp [Tr.pv],by simp⟩,?_⟩
   ·have e2:sizes [Tr.node c d]=c.size+d.size+1:=by rw [sizes_one];rfl
    have e3:sizes [c,d]=c.size+d.size:=by simp [sizes]
    rw [sizes_append,sizes_append,e2,e3];omega
   ·rw [posts_append,posts_one] at hp
    rw [List.reverse_append,← hp,posts_append,posts_two]
    simp [Tr.post]
def natP (l:List Nat):List PV:=l.map fun (n:Nat)=>.int (n:Int)
@[simp] theorem natP_len (l:List Nat):(natP l).length=l.length:=List.length_map _
@[simp] theorem natP_app (a b:List Nat):natP (a++b)=natP a++natP b:=List.map_append
@[simp] theorem natP_cons (a:Nat) (l:List Nat):natP (a::l)=.int (a:Int)::natP l:=rfl
@[simp] theorem natP_nil:natP []=[]:=rfl
theorem lc_nat {f:PV→W (Option PV)}{p:Nat→Bool}:∀{l:List Nat},(∀k∈l,f (.int ((k:Nat):Int))=.ret (if p k=true then some (.int ((k:Nat):Int)) else none))→lcW (natP l) f=.ret (natP (l.filter p))
 | [],_=>rfl
 | k::l,h=>by
  show W.bind (f _) (fun o=>W.bind (lcW (natP l) f) fun m=>W.ret (o.toList++m))=_
  rw [h k (.head _),lc_nat fun y hy=>h y (.tail _ hy),List.filter_cons]
  cases p k <;> rfl
theorem map_nat {f:PV→W PV}{g:Nat→PV}:∀{l:List Nat},(∀k∈l,f (.int ((k:Nat):Int))=.ret (g k))→mapW (natP l) f=.ret (l.map g)
 | [],_=>rfl
 | k::l,h=>by
  show W.bind (f _) (fun y=>W.bind (mapW (natP l) f) fun m=>W.ret (y::m))=_
  rw [h k (.head _),map_nat fun y hy=>h y (.tail _ hy)];rfl
theorem lcW_r {l:List PV}{f:PV→W (Option PV)}{Q:List PV→Prop} (g:PV→Option PV) (h:∀x∈l,f x=.ret (g x)) (q:Q (l.filterMap g)):(lcW l f).run Q:=by rw [lcW_eq h];exact q
theorem mapW_r {l:List PV}{f:PV→W PV}{Q:List PV→Prop} (g:PV→PV) (h:∀x∈l,f x=.ret (g x)) (q:Q (l.map g)):(mapW l f).run Q:=by rw [mapW_eq h];exact q
theorem lc_nat_r {l:List Nat}{f:PV→W (Option PV)}{Q:List PV→Prop} (p:Nat→Bool) (h:∀k∈l,f (.int ((k:Nat):Int))=.ret (if p k=true then some (.int ((k:Nat):Int)) else none)) (q:Q (natP (l.filter p))):(lcW (natP l) f).run Q:=by rw [lc_nat h];exact q
theorem map_nat_r {l:List Nat}{f:PV→W PV}{Q:List PV→Prop} (g:Nat→PV) (h:∀k∈l,f (.int ((k:Nat):Int))=.ret (g k)) (q:Q (l.map g)):(mapW (natP l) f).run Q:=by rw [map_nat h];exact q
theorem nodes_le (t:Tr) (hz:t.size≤900):(m_nodes t.pv).le (.ret (.tup ((t.nd 0).map Ent.pv))):=fun Q q=>by
 unfold m_nodes
 simp only [W.ret_bind,W.run_bind]
 refine W.le.use (parts_le t hz) ?_
 refine forW_run (fun r s=>∃(k:List Tr) (told:List Ent) (ls:List Nat),r=k.map Tr.pv∧s=(told.map Ent.pv,natP ls.reverse)∧run k told ls=some (t.nd 0,[t.size-1])∧told.length+k.length≤900∧ls.length≤told.length) ⟨t.post,[],[],rfl,rfl,run_whole t,by simp [t.post_len];omega,Nat.le_refl _⟩ ?_ ?_
 ·rintro x r s ⟨k,told,ls,e,rfl,h,hl,hll⟩
  cases k with
  | nil=>cases e
  | cons p k=>
   injection e with e1 e2
   subst e1
   subst e2
   rw [List.length_cons] at hl
   cases p with
   | leaf x=>
    have a1:∀y,appW (natP ls.reverse) y=.ret (natP ls.reverse++[y]):=fun y=>app_le (by simp;omega)
    simp [Tr.pv,app_le (l:=told.map Ent.pv) (by simp;omega),a1]
    refine⟨k,rfl,told++[Ent.word x],told.length::ls,⟨by simp [Ent.pv],by simp⟩,h,by simp;omega,by simp;omega⟩
   | node c d=>
    match ls,h,hll with
    | b::a::ls,h,hll=>
     rw [List.length_cons,List.length_cons] at hll
     have a0:natP (b::a::ls).reverse=(natP ls.reverse++[.int (a:Int)])++[.int (b:Int)]:=by simp
     have a1:∀y,appW (natP ls.reverse) y=.ret (natP ls.reverse++[y]):=fun y=>app_le (by simp;omega)
     rw [a0]
     simp only [Tr.pv,W.ret_bind,ev_isiT,ev_kdST,ev_truB,Bool.false_eq_true,if_false,ev_pop]
     simp [app_le (l:=told.map Ent.pv) (by simp;omega),a1]
     refine⟨k,rfl,told++[Ent.pair a b],told.length::ls,⟨by simp [Ent.pv],by simp⟩,h,by simp;omega,by simp;omega⟩
 ·rintro s ⟨k,told,ls,e,rfl,h,hl,hll⟩
  cases k with
  | nil=>
   cases h
   simpa using q
  | cons p k=>cases e
end My
set_option Elab.async false
set_option linter.all false
set_option maxRecDepth 100000
namespace My
open PySem PySem.Spec PyProof.Rows L2 PL FL
theorem mulL {a b:Int} (h:-1000000000≤a∧a≤1000000000):IntMulOk a b:=mul_l (by omega) (by omega)
theorem mulR {a b:Int} (h:-1000000000≤b∧b≤1000000000):IntMulOk a b:=mul_r (by omega) (by omega)
theorem take_ok:∀ns l Q,potG ns→((unc 1 mt_take) l).run Q→((fun lo l=>unc 1 (m__law_take lo) l) (ns.map PV.int) l).run fun t=>Q t.1∧∃ns':List Int,t.2=ns'.map PV.int∧potG ns':=by
 rintro ns l Q ⟨g,s,c,rfl,g0,s0,s1,c0⟩ q
 match l,q with
 | [],q=>exact q.elim
 | _::_::_,q=>exact q.elim
 | [x],q=>
  show (m__law_take _ x).run _
  have q:(mt_take x).run Q:=q
  cases x with
  | int m=>
   obtain⟨⟨m0,m1⟩,q⟩:=q
   have q:∀d:Int,0≤d→d < m→Q (.int d):=fun d h0 h1=>q _ ⟨d,rfl,h0,h1⟩
   unfold m__law_take
   generalize hA:(2305843009213693921:Int)=A
   generalize hB:(2305843009213693907:Int)=B
   generalize hC:(65537:Int)=C
   generalize hD:(999983:Int)=D
   have A0:0 < A:=by omega
   have B0:0 < B:=by omega
   have C0:0 < C:=by omega
   have D0:0 < D:=by omega
   by_cases hg:0 < g
   ·simp [atI,ixN,hg,m0,setW,CDiv]
    refine⟨by omega,q _ (Int.emod_nonneg _ (by omega)) (Int.emod_lt_of_pos _ m0),[g / m,s,c],rfl,_,_,_,rfl,Int.ediv_nonneg g0 (by omega),s0,s1,c0⟩
   ·have e1:IntMulOk s 69069:=mulR (by omega)
    have e2:IntMulOk 9973 (c+1):=mulL (by omega)
    have e3:IntMulOk 2 (c+1):=mulL (by omega)
    simp [atI,ixN,hg,m0,setW,ixN0,e1,e2,e3,A0,B0,C0,D0]
    generalize hM:(s*69069+9973*(c+1)+5) % A=M
    have M0:0≤M:=by rw [← hM];exact Int.emod_nonneg _ (by omega)
    have M1:M < A:=by rw [← hM];exact Int.emod_lt_of_pos _ A0
    have e4:∀y,IntMulOk M y:=fun y=>mul_l (by omega) (by omega)
    generalize hN:M*(M % D+2*(c+1)+3) % B=N
    have N0:0≤N:=by rw [← hN];exact Int.emod_nonneg _ (by omega)
    have N1:N < B:=by rw [← hN];exact Int.emod_lt_of_pos _ B0
    refine⟨e4 _,⟨C0,by omega⟩,q _ (Int.emod_nonneg _ (by omega)) (Int.emod_lt_of_pos _ m0),[g,N,c+1],rfl,_,_,_,rfl,g0,N0,by omega,by omega⟩
  | _=>exact q.elim
theorem abs_nn (i:Int):0≤(if i < 0 then -i else i):=by split <;> omega
theorem pot_run {ns:List Int}{k:Int} (k0:0≤k) {Q:List PV→Prop} (q:∀l,(∃ms:List Int,l=ms.map PV.int∧potG ms)→Q l):(m__law_pot (.cl (ns.map PV.int)) (.int k)).run Q:=by
 unfold m__law_pot
 generalize hA:(2305843009213693951:Int)=A
 have A0:0 < A:=by omega
 have fin:∀x:Int,0≤x→(W.bind (b2 oMul (b2 oMod (W.ret (.int x)) (b2 oMul (b2 oPow (W.ret (.int 10)) (W.ret (.int 60))) (b2 oPow (W.ret (.int 10)) (W.ret (.int 60))))) (c1 bInt (b2 oGe (W.ret (.int x)) (b2 oPow (W.ret (.int 10)) (W.ret (.int 18)))))) fun digits_5=>
 (W.bind (W.ret digits_5) fun x6=>W.bind (b2 oMod (w2 addW (w2 addW (W.ret (.int x)) (b2 oMul (W.ret (.int 104729)) (W.ret (.int k)))) (W.ret (.int 7))) (W.ret (.int A))) fun x7=>W.bind (W.ret (.int 0)) fun x8=>W.ret [x6,x7,x8])).run Q:=by
  intro x x0
  have p1:CPow 10 60:=⟨by decide,by decide,by decide⟩
  have p2:CPow 10 18:=⟨by decide,by decide,by decide⟩
  simp only [W.ret_bind,ev_pow,W.chk_pos p1,W.chk_pos p2,ev_mul,ev_mod,ev_ge,ev_intB,ev_addI,W.chk_bind,W.run_chk,W.run_ret,W.chk_pos (mulL (show -1000000000≤(104729:Int)∧(104729:Int)≤1000000000 by decide)),W.chk_pos A0]
  refine⟨IntMulOk.of_bits (by decide +kernel) (by decide +kernel),by decide +kernel,?_,?_⟩
  ·split
   ·exact mulR (by omega)
   ·exact mulR (by omega)
  ·refine q _ ⟨[_,_,_],rfl,_,_,_,rfl,Int.mul_nonneg (Int.emod_nonneg _ (by decide +kernel)) ?_,Int.emod_nonneg _ (by omega),by rw [hA];exact Int.emod_lt_of_pos _ A0,Int.le_refl _⟩
   split <;> decide
 by_cases hlt:k < (ns.length:Int)
 ·obtain⟨v,e,e2⟩:=atI_lt (xs:=ns.map PV.int) k0 (by rw [List.length_map];exact hlt)
  rw [List.getElem?_map] at e2
  obtain⟨c,rfl⟩:∃c,v=.int c:=by
   cases z:ns[k.toNat]? with
   | none=>rw [z] at e2;cases e2
   | some c=>rw [z] at e2;exact⟨c,(Option.some.inj e2).symm⟩
  simp only [W.ret_bind,ev_lenC,ev_lt,List.length_map,hlt,decide_true,ev_asB,if_true,ev_seqC,ev_ix,e,W.ofO_some,ev_abs]
  exact fin _ (abs_nn _)
 ·simp only [W.ret_bind,ev_lenC,ev_lt,List.length_map,hlt,decide_false,ev_asB,Bool.false_eq_true,if_false]
  exact fin 0 (Int.le_refl _)
theorem menuP_step {d:Int} (h0:0≤d) (h1:d < 6):∃st:Int,atI [PV.int 1,PV.int 3,PV.int 5,PV.int 7,PV.int 9,PV.int 11] d=some (.int st)∧(st=1∨st=3∨st=5∨st=7∨st=9∨st=11):=by
 have:d=0∨d=1∨d=2∨d=3∨d=4∨d=5:=by omega
 rcases this with rfl | rfl | rfl | rfl | rfl | rfl
 ·exact⟨1,rfl,by decide⟩
 ·exact⟨3,rfl,by decide⟩
 ·exact⟨5,rfl,by decide⟩
 ·exact⟨7,rfl,by decide⟩
 ·exact⟨9,rfl,by decide⟩
 ·exact⟨11,rfl,by decide⟩
theorem menuP_stem {d:Int} (h0:0≤d) (h1:d < 2):∃bg:Str,atI [PV.str "",PV.str "k"] d=some (.str bg)∧Part bg 1:=by
 have:d=0∨d=1:=by omega
 rcases this with rfl | rfl
 ·exact⟨"",rfl,by decide +kernel,by decide +kernel⟩
 ·exact⟨"k",rfl,by decide +kernel,by decide +kernel⟩
theorem menuP_ends {d:Int} (h0:0≤d) (h1:d < 4):∃bg:Str,atI [PV.str "",PV.str "q",PV.str "zz",PV.str "abcdef"] d=some (.str bg)∧Part bg 6:=by
 have:d=0∨d=1∨d=2∨d=3:=by omega
 rcases this with rfl | rfl | rfl | rfl
 ·exact⟨"",rfl,by decide +kernel,by decide +kernel⟩
 ·exact⟨"q",rfl,by decide +kernel,by decide +kernel⟩
 ·exact⟨"zz",rfl,by decide +kernel,by decide +kernel⟩
 ·exact⟨"abcdef",rfl,by decide +kernel,by decide +kernel⟩
theorem okN_small {i j:Int} (h:-1000≤i∧i≤1000∧-1000≤j∧j≤1000) (h2:j-i≤1000):okN i j:=⟨by omega,by omega,by omega,by omega,small' (by omega)⟩
theorem words_run {m:Int} (m0:0≤m) (m1:m≤26) {Q:List PV→Prop} (q:∀ws:List Str,ws.length=m.toNat→(∀x∈ws,Wd x)→ws.Nodup→Q (ws.map PV.str)):(m__law_words (.int m)).run Q:=by
 unfold m__law_words
 simp only [W.ret_bind,W.run_bind,ev_take 26 (by decide) (by decide),ev_take 6 (by decide) (by decide),ev_take 2 (by decide) (by decide)]
 refine drawn_run fun d1 a1 b1=>drawn_run fun d3 a3 b3=>?_
 obtain⟨st,hst,kst⟩:=menuP_step a3 b3
 simp only [ev_ix,hst,W.ofO_some,W.run_ret]
 refine drawn_run fun d5 a5 b5=>?_
 obtain⟨bg,hbg,kbg⟩:=menuP_stem a5 b5
 simp only [ev_ix,hbg,W.ofO_some,W.run_ret,ev_rng1,W.chk_pos (okN_small (i:=0) (j:=m) (by omega) (by omega))]
 have hst11:1≤st∧st≤11:=by omega
 have lb:=kbg.1
 refine forW_rng (fun i s=>∃ws:List Str,s=ws.map PV.str∧ws.length=i∧(∀x∈ws,Wd x)∧(ws.map fun x=>x.cps[bg.length]?)=(List.range i).map fun k:Nat=>some (97+((d1+st*(0+(k:Int))) % 26).toNat)) ⟨[],rfl,rfl,by simp,rfl⟩ ?_ ?_
 ·rintro i s hi ⟨ws,rfl,hl,hw,hs⟩
  have e0:0≤(d1+st*(0+(i:Int))) % 26:=Int.emod_nonneg _ (by decide)
  have e1:(d1+st*(0+(i:Int))) % 26 < 26:=Int.emod_lt_of_pos _ (by decide)
  have e2:(d1+st*(i:Int))=d1+st*(0+(i:Int)):=by rw [Int.zero_add]
  obtain⟨en,hen,ken⟩:=menuP_ends (d:=(d1+(i:Int)) % 4) (Int.emod_nonneg _ (by decide)) (Int.emod_lt_of_pos _ (by decide))
  have le:=ken.1
  have c1:IntMulOk st (i:Int):=mulL (by omega)
  have c2:("abcdefghijklmnopqrstuvwxyz":Str).length≤sizeLine:=by decide +kernel
  have c3:bg.length+(⟨#[97+((d1+st*(0+(i:Int))) % 26).toNat]⟩:Str).length≤sizeLine:=small' (by show bg.length+1≤1000;omega)
  have c4:(bg++(⟨#[97+((d1+st*(0+(i:Int))) % 26).toNat]⟩:Str)).length+en.length≤sizeLine:=small' (by rw [Str.length_append];show bg.length+1+en.length≤1000;omega)
  simp only [W.ret_bind,W.run_bind,ev_mul,W.chk_pos c1,ev_addI,ev_mod,W.chk_pos (show (0:Int) < 26 by decide),W.chk_pos (show (0:Int) < 4 by decide),e2,ev_ixS _ _ (letter_at e0 e1),W.chk_pos c2,ev_addS,W.chk_pos c3,ev_seqC,ev_ix,hen,W.ofO_some,W.chk_pos c4,app_le (l:=ws.map PV.str) (by rw [List.length_map];omega),W.run_ret]
  refine⟨ws++[bg++⟨#[97+((d1+st*(0+(i:Int))) % 26).toNat]⟩++en],by rw [List.map_append];rfl,by rw [List.length_append,hl];rfl,?_,by rw [List.map_append,hs,List.range_succ,List.map_append,List.map_singleton,List.map_singleton,word_sign]⟩
  intro x hx
  rcases List.mem_append.mp hx with z | z
  ·exact hw x z
  ·rw [List.mem_singleton.mp z]
   exact word_of9 kbg ken (by omega) (by omega)
 ·rintro s ⟨ws,rfl,hl,hw,hs⟩
  refine q ws hl hw ?_
  refine nodup_of_map (g:=fun x:Str=>x.cps[bg.length]?) ?_
  rw [hs]
  exact letters_nodup kst (by omega)
end My
set_option Elab.async false
set_option linter.all false
set_option maxRecDepth 100000
namespace My
open PySem PySem.Spec PyProof.Rows L2 PL FL
theorem at_mid {α:Type}{l:List α}{k:Nat} (h:k+1 < l.length):∃a x y b,l=a++x::y::b∧a.length=k:=by
 refine⟨l.take k,l[k],l[k+1],l.drop (k+2),?_,by rw [List.length_take];omega⟩
 have e1:l.drop k=l[k]::l.drop (k+1):=List.drop_eq_getElem_cons (by omega)
 have e2:l.drop (k+1)=l[k+1]::l.drop (k+2):=List.drop_eq_getElem_cons (by omega)
 rw [← e2,← e1,List.take_append_drop]
theorem tree_run {ws:List Str} (hw:ws≠[]) (h8:ws.length≤100) {Q:PV→Prop} (q:∀t:Tr,t.leaves.Perm ws→Q t.pv):(m__law_tree (.cl (ws.map PV.str))).run Q:=by
 unfold m__law_tree
 simp only [W.ret_bind,W.run_bind,ev_seqC,W.run_ret,ev_take 4 (by decide) (by decide)]
 refine drawn_run fun w w0 w1=>?_
 refine whileW_run (fun n s=>∃ts:List Tr,s=ts.map Tr.pv∧n=ts.length∧ts≠[]∧(ts.flatMap Tr.leaves).Perm ws∧ts.length≤100) (n:=ws.length) ⟨ws.map Tr.leaf,by simp [Tr.pv],by simp,by simpa using hw,?_,by simpa using h8⟩ ?_
 ·rw [List.flatMap_map]
  have:ws.flatMap (fun x=>(Tr.leaf x).leaves)=ws:=by
   simp [Tr.leaves,List.flatMap_singleton']
  rw [this]
 ·rintro n s ⟨ts,rfl,rfl,hne,hp,hl⟩
  by_cases h1:1 < ts.length
  ·have c0:(1:Int) < (ts.length:Int):=by omega
   simp only [W.ret_bind,W.run_bind,ev_len,List.length_map,ev_gt,c0,decide_true,ev_asB,W.run_ret,if_true,ev_sub,ev_take ((ts.length:Int)-1) (by omega) (by omega)]
   refine drawn_run fun d d0 d1=>?_
   obtain⟨a,ha,a0,a1⟩:∃a:Nat,atI [PV.int d,PV.int ((ts.length:Int)-2),PV.int 0,PV.int 0] w=some (.int (a:Int))∧0≤a∧a+1 < ts.length:=by
    have:w=0∨w=1∨w=2∨w=3:=by omega
    rcases this with rfl | rfl | rfl | rfl
    ·exact⟨d.toNat,by show some (PV.int d)=_;rw [Int.toNat_of_nonneg d0],by omega,by omega⟩
    ·exact⟨ts.length-2,by show some (PV.int ((ts.length:Int)-2))=_;congr 2;omega,by omega,by omega⟩
    ·exact⟨0,rfl,by omega,by omega⟩
    ·exact⟨0,rfl,by omega,by omega⟩
   obtain⟨as,x,y,bs,rfl,hk⟩:=at_mid a1
   have i0:atI ((as++x::y::bs).map Tr.pv) (a:Int)=some x.pv:=atI_nat (by rw [List.getElem?_map,List.getElem?_append_right (by omega)];simp [hk])
   have i1:atI ((as++x::y::bs).map Tr.pv) ((a:Int)+1)=some y.pv:=by
    have:((a:Int)+1)=((a+1:Nat):Int):=by push_cast;rfl
    rw [this]
    exact atI_nat (by rw [List.getElem?_map,List.getElem?_append_right (by omega)];simp [hk])
   simp only [ev_ix,ha,W.ofO_some,W.run_ret,i0,i1,ev_addI,W.ret_bind]
   have fin:∀p:Tr,p.leaves.Perm (x.leaves++y.leaves)→(slsW ((as++x::y::bs).map Tr.pv) (.int (a:Int)) (.int ((a:Int)+2)) [p.pv]).run fun a=>∃m,m < (as++x::y::bs).length∧∃ts:List Tr,a=ts.map Tr.pv∧m=ts.length∧ts≠[]∧(ts.flatMap Tr.leaves).Perm ws∧ts.length≤100:=by
    intro p hpp
    rw [List.length_append,List.length_cons,List.length_cons] at hl
    refine⟨⟨by omega,by omega,?_,small' ?_⟩,?_⟩
    ·rw [List.length_map,List.length_append,List.length_cons,List.length_cons];push_cast;omega
    ·rw [List.length_map,List.length_append,List.length_cons,List.length_cons];simp;omega
    ·have e:((as++x::y::bs).map Tr.pv).take (a:Int).toNat++[p.pv]++((as++x::y::bs).map Tr.pv).drop ((a:Int)+2).toNat=(as++p::bs).map Tr.pv:=by
      have t1:(a:Int).toNat=as.length:=by omega
      have t2:((a:Int)+2).toNat=as.length+2:=by omega
      rw [t1,t2,← List.map_take,← List.map_drop,List.take_left' rfl]
      have:(as++x::y::bs).drop (as.length+2)=bs:=by
       rw [show as++x::y::bs=(as++[x,y])++bs by simp,List.drop_left' (by simp)]
      rw [this];simp
     show ∃m,_∧∃ts:List Tr,_
     rw [e]
     refine⟨(as++p::bs).length,by simp,as++p::bs,rfl,rfl,by simp,?_,by simp;omega⟩
     refine List.Perm.trans ?_ hp
     simp only [List.flatMap_append,List.flatMap_cons]
     refine List.Perm.append_left _ ?_
     rw [← List.append_assoc]
     exact hpp.append_right _
   by_cases h3:w=3
   ·subst h3
    simp only [ev_eqI,ev_asB,beq_self_eq_true,W.run_ret,W.ret_bind,if_true,W.run_bind,ev_take 2 (by decide) (by decide)]
    refine drawn_run fun d2 d20 d21=>?_
    by_cases h4:d2=0
    ·subst h4
     simp only [ev_eqI,ev_asB,beq_self_eq_true,W.run_ret,W.ret_bind,if_true,W.run_bind,i0,i1,ev_ix,ev_addI,W.ofO_some]
     exact fin (.node y x) List.perm_append_comm
    ·have e4:(d2==0)=false:=by simpa using h4
     simp only [ev_eqI,ev_asB,e4,W.run_ret,W.ret_bind,W.run_bind,Bool.false_eq_true,if_false]
     exact fin (.node x y) (List.Perm.refl _)
   ·have e3:(w==3)=false:=by simpa using h3
    simp only [ev_eqI,ev_asB,e3,W.run_ret,W.ret_bind,W.run_bind,Bool.false_eq_true,if_false]
    exact fin (.node x y) (List.Perm.refl _)
  ·have c0:¬(1:Int) < (ts.length:Int):=by omega
   simp only [W.ret_bind,W.run_bind,ev_len,List.length_map,ev_gt,c0,decide_false,ev_asB,W.run_ret,Bool.false_eq_true,if_false]
   match ts,hne,h1,hp with
   | [t],_,_,hp=>
    have:t.leaves.Perm ws:=by simpa using hp
    exact q t this
   | _::_::_,_,h1,_=>simp at h1
structure Great (t:Tr):Prop where
 ws:t.Ws
 nd:t.leaves.Nodup
 few:t.leaves.length≤8
theorem great_run {Q:PV→Prop} (q:∀t:Tr,Great t→Q t.pv):m__law_great.run Q:=by
 unfold m__law_great
 simp only [W.ret_bind,W.run_bind,ev_take 8 (by decide) (by decide)]
 refine drawn_run fun d d0 d1=>?_
 obtain⟨n,hn,n0,n1⟩:∃n:Int,atI [PV.int 5,PV.int 8] (if (d==0)=true then 1 else 0)=some (.int n)∧0 < n∧n≤8:=by
  by_cases h:d=0
  ·subst h;exact⟨8,rfl,by decide,by decide⟩
  ·have e:(d==0)=false:=by simpa using h
   rw [e];exact⟨5,rfl,by decide,by decide⟩
 simp only [ev_eqI,W.run_ret,ev_intB,ev_ix,hn,W.ofO_some,ev_take n n0 (by omega)]
 refine drawn_run fun k k0 k1=>?_
 simp only [ev_addI,W.run_ret]
 refine words_run (by omega) (by omega) fun ws hl hw hd=>?_
 refine tree_run (fun z=>by rw [z] at hl;simp at hl;omega) (by omega) fun t ht=>q t ⟨fun x hx=>hw x (ht.mem_iff.mp hx),ht.nodup_iff.mpr hd,by rw [ht.length_eq,hl];omega⟩
end My
set_option Elab.async false
set_option linter.all false
set_option maxRecDepth 100000
namespace My
open PySem PySem.Spec PyProof.Rows L2 PL FL
def isPr:Ent→Bool
 | .word _=>false
 | .pair _ _=>true
structure Dt (t:Tr) (ds:List Int) (left:List Nat) (d:Int):Prop where
 len:ds.length=t.size
 zero:∀j,j < t.size→(isPr (en t 0 j)=false∨j∈left)→ds.getD j 0=0
 up:∀j,j < t.size→j∉left→∀a b,en t 0 j=.pair a b→a∉left∧b∉left∧ds.getD a 0 < ds.getD j 0∧ds.getD b 0 < ds.getD j 0∧1≤ds.getD j 0∧ds.getD j 0≤d
 inj:∀i j,i < t.size→j < t.size→i∉left→j∉left→isPr (en t 0 i)=true→isPr (en t 0 j)=true→ds.getD i 0=ds.getD j 0→i=j
 pos:0≤d
 lft:∀j∈left,j < t.size∧isPr (en t 0 j)=true
 ris:left.Pairwise (· < ·)
theorem getD_set_self {l:List Int}{i:Nat}{v:Int} (h:i < l.length):(l.set i v).getD i 0=v:=by rw [List.getD_eq_getElem?_getD,List.getElem?_set_self h];rfl
theorem getD_set_ne {l:List Int}{i j:Nat}{v:Int} (h:i≠j):(l.set i v).getD j 0=l.getD j 0:=by rw [List.getD_eq_getElem?_getD,List.getElem?_set_ne h,← List.getD_eq_getElem?_getD]
theorem mem_erase_ris {l:List Nat} (h:l.Pairwise (· < ·)) {x y:Nat}:y∈l.erase x↔y∈l∧y≠x:=by
 have nd:l.Nodup:=h.imp (fun z=>Nat.ne_of_lt z)
 rw [nd.mem_erase_iff]
 exact⟨fun z=>⟨z.2,z.1⟩,fun z=>⟨z.2,z.1⟩⟩
theorem en_halves (t:Tr) {j a b:Nat} (h:j < t.size) (e:en t 0 j=.pair a b):a < j∧b < j:=by
 rcases be_en t 0 j h with⟨x,e1,_⟩ | ⟨a',b',e1,e2,e3,_⟩
 ·rw [e1] at e;cases e
 ·rw [e1] at e;injection e with h1 h2;omega
theorem Dt.next {t:Tr}{ds:List Int}{left:List Nat}{d x:Int}{j a b:Nat} (D:Dt t ds left d) (hj:j∈left) (e:en t 0 j=.pair a b) (ha:a∉left) (hb:b∉left) (hx:0≤x):Dt t (ds.set j (d+1+x)) (left.erase j) (d+1+x):=by
 obtain⟨hjs,hjp⟩:=D.lft j hj
 obtain⟨haj,hbj⟩:=en_halves t hjs e
 have hjl:j < ds.length:=by rw [D.len];exact hjs
 have hm:∀y,y∈left.erase j↔y∈left∧y≠j:=fun y=>mem_erase_ris D.ris
 have low:∀y,y < t.size→y∉left→ds.getD y 0≤d:=fun y hy hyl=>by
  cases ey:en t 0 y with
  | word w=>rw [D.zero y hy (.inl (by rw [ey];rfl))];exact D.pos
  | pair p q=>exact (D.up y hy hyl p q ey).2.2.2.2.2
 refine⟨by rw [List.length_set];exact D.len,fun y hy hc=>?_,fun y hy hyl p q ey=>?_,fun u v hu hv hul hvl pu pv huv=>?_,by have:=D.pos;omega,fun y hy=>D.lft y ((hm y).mp hy).1,List.Pairwise.sublist List.erase_sublist D.ris⟩
 ·have hyj:j≠y:=fun z=>by
   subst z
   rcases hc with hc | hc
   ·rw [hjp] at hc;cases hc
   ·exact ((hm j).mp hc).2 rfl
  rw [getD_set_ne hyj]
  exact D.zero y hy (hc.imp id fun z=>((hm y).mp z).1)
 ·by_cases hyj:j=y
  ·subst hyj
   rw [e] at ey
   injection ey with h1 h2
   subst h1 h2
   have la:=low a (by omega) ha
   have lb:=low b (by omega) hb
   rw [getD_set_self hjl,getD_set_ne (by omega),getD_set_ne (by omega)]
   have:=D.pos
   exact⟨fun z=>ha ((hm a).mp z).1,fun z=>hb ((hm b).mp z).1,by omega,by omega,by omega,by omega⟩
  ·have hyl':y∉left:=fun z=>hyl ((hm y).mpr ⟨z,Ne.symm hyj⟩)
   obtain⟨p1,p2,p3,p4,p5,p6⟩:=D.up y hy hyl' p q ey
   have np:j≠p:=fun z=>p1 (z▸hj)
   have nq:j≠q:=fun z=>p2 (z▸hj)
   rw [getD_set_ne hyj,getD_set_ne np,getD_set_ne nq]
   exact⟨fun z=>p1 ((hm p).mp z).1,fun z=>p2 ((hm q).mp z).1,p3,p4,p5,by omega⟩
 ·by_cases c1:j=u
  ·by_cases c2:j=v
   ·exact c1.symm.trans c2
   ·exfalso
    subst c1
    have hvl':v∉left:=fun z=>hvl ((hm v).mpr ⟨z,Ne.symm c2⟩)
    rw [getD_set_self hjl,getD_set_ne c2] at huv
    have:=low v hv hvl'
    omega
  ·have hul':u∉left:=fun z=>hul ((hm u).mpr ⟨z,Ne.symm c1⟩)
   by_cases c2:j=v
   ·exfalso
    subst c2
    rw [getD_set_self hjl,getD_set_ne c1] at huv
    have:=low u hu hul'
    omega
   ·have hvl':v∉left:=fun z=>hvl ((hm v).mpr ⟨z,Ne.symm c2⟩)
    rw [getD_set_ne c1,getD_set_ne c2] at huv
    exact D.inj u v hu hv hul' hvl' pu pv huv
def splits (t:Tr):List Nat:=(List.range t.size).filter fun j=>isPr (en t 0 j)
theorem Dt.first (t:Tr):Dt t (List.replicate t.size 0) (splits t) 0:=by
 have z:∀j,(List.replicate t.size (0:Int)).getD j 0=0:=fun j=>by
  rw [List.getD_eq_getElem?_getD,List.getElem?_replicate]
  split <;> rfl
 have mem:∀j,j∈splits t↔j < t.size∧isPr (en t 0 j)=true:=fun j=>by unfold splits;rw [List.mem_filter,List.mem_range]
 refine⟨List.length_replicate,fun j _ _=>z j,fun j hj hn a b e=>absurd ((mem j).mpr ⟨hj,by rw [e];rfl⟩) hn,fun i j hi hj hni _ pi _ _=>absurd ((mem i).mpr ⟨hi,pi⟩) hni,Int.le_refl _,fun j hj=>(mem j).mp hj,?_⟩
 unfold splits
 exact List.Pairwise.filter _ List.pairwise_lt_range
theorem enum_nd (t:Tr):enumV 0 ((t.nd 0).map Ent.pv)=(List.range t.size).map fun j=>PV.tup [.int ((j:Nat):Int),(en t 0 j).pv]:=by
 have hl:(enumV 0 ((t.nd 0).map Ent.pv)).length=t.size:=by rw [enumV_len,List.length_map,t.nd_len]
 apply List.ext_getElem?
 intro i
 by_cases hi:i < t.size
 ·have h1:(enumV 0 ((t.nd 0).map Ent.pv))[i]?=some ((enumV 0 ((t.nd 0).map Ent.pv))[i]'(by omega)):=List.getElem?_eq_getElem _
  obtain⟨y,hy,e⟩:=enumV_get h1
  rw [List.getElem?_map,nd_en t 0 i hi] at hy
  have hy':(en t 0 i).pv=y:=Option.some.inj hy
  rw [h1,e,← hy',List.getElem?_map,List.getElem?_range hi,Nat.zero_add]
  rfl
 ·rw [List.getElem?_eq_none (by omega),List.getElem?_eq_none (by rw [List.length_map,List.length_range];omega)]
def lftF:PV→Option PV
 | .tup [_,.str _]=>none
 | .tup [k,_]=>some k
 | _=>none
theorem lft_fm (t:Tr):(enumV 0 ((t.nd 0).map Ent.pv)).filterMap lftF=natP (splits t):=by
 rw [enum_nd]
 unfold splits
 generalize List.range t.size=l
 induction l with
 | nil=>rfl
 | cons j l ih=>
  rw [List.map_cons,List.filterMap_cons,List.filter_cons]
  cases e:en t 0 j with
  | word w=>exact ih
  | pair a b=>
   show PV.int ((j:Nat):Int)::_=_
   rw [ih]
   rfl
theorem natP_ints (l:List Nat):natP l=(l.map fun n=>((n:Nat):Int)).map PV.int:=by unfold natP;rw [List.map_map];rfl
theorem erase_ints (y:Nat):∀l:List Nat,(l.map fun n=>((n:Nat):Int)).erase (y:Int)=(l.erase y).map fun n=>((n:Nat):Int)
 | []=>rfl
 | a::l=>by
  rw [List.map_cons,List.erase_cons,List.erase_cons,erase_ints y l]
  by_cases c:a=y
  ·subst c;simp
  ·have c1:(((a:Nat):Int)==(y:Int))=false:=by simp;omega
   have c2:(a==y)=false:=by simpa using c
   rw [c1,c2];simp
theorem menu13 {d:Int} (h0:0≤d) (h1:d < 3):∃m:Int,atI [PV.int 1,PV.int 3,PV.int 13] d=some (.int m)∧0 < m∧m≤13:=by
 have:d=0∨d=1∨d=2:=by omega
 rcases this with rfl | rfl | rfl
 ·exact⟨1,rfl,by decide,by decide⟩
 ·exact⟨3,rfl,by decide,by decide⟩
 ·exact⟨13,rfl,by decide,by decide⟩
theorem ris_len:∀(l:List Nat) (k n:Nat),l.Pairwise (· < ·)→(∀x∈l,k≤x∧x < n)→l.length≤n-k
 | [],_,_,_,_=>Nat.zero_le _
 | a::l,k,n,h,hb=>by
  have h1:=(List.pairwise_cons.mp h)
  have h2:=hb a List.mem_cons_self
  have ih:=ris_len l (a+1) n h1.2 fun x hx=>⟨h1.1 x hx,(hb x (List.mem_cons_of_mem _ hx)).2⟩
  rw [List.length_cons]
  omega
def shf (s:Nat):Ent→Ent
 | .word x=>.word x
 | .pair p q=>.pair (p+s) (q+s)
theorem nd_shf:∀(t:Tr) (o s:Nat),t.nd (o+s)=(t.nd o).map (shf s)
 | .leaf _,_,_=>rfl
 | .node a b,o,s=>by
  have ha:=a.size_pos
  rw [Tr.nd,Tr.nd,nd_shf a o s,show o+s+a.size=o+a.size+s by omega,nd_shf b (o+a.size) s,List.map_append,List.map_append]
  congr 2
  show Ent.pair _ _=Ent.pair _ _
  congr 1 <;> omega
theorem cat_le {l m:List PV} (h:l.length+m.length≤1000):catW l m=.ret (l++m):=W.chk_pos (small' h)
theorem lnodes_le:∀(n:Nat) (t:Tr),t.depth < n→t.size≤900→(m__law_nodes n t.pv).le (.ret ((t.nd 0).map Ent.pv))
 | 0,_,h,_=>by omega
 | n+1,.leaf w,_,_=>fun Q q=>by
  unfold m__law_nodes
  simp [Tr.pv]
  exact q
 | n+1,.node a b,h,hz=>fun Q q=>by
  have hs:(Tr.node a b).size=a.size+b.size+1:=rfl
  have hpa:=a.size_pos
  have hpb:=b.size_pos
  have hd:a.depth < n∧b.depth < n:=by simp [Tr.depth] at h;omega
  unfold m__law_nodes
  have i0:atI [a.pv,b.pv] 0=some a.pv:=rfl
  have i1:atI [a.pv,b.pv] 1=some b.pv:=rfl
  simp only [Tr.pv,W.ret_bind,W.run_bind,ev_isiT,ev_kdST,ev_truB,Bool.false_eq_true,if_false,ev_seqT,ev_ix,i0,i1,W.ofO_some]
  refine W.le.use (lnodes_le n a hd.1 (by omega)) ?_
  simp only [ev_len,List.length_map,a.nd_len,W.run_ret]
  refine W.le.use (lnodes_le n b hd.2 (by omega)) ?_
  refine forW_ix (fun i s=>s=(a.nd 0++((b.nd 0).take i).map (shf a.size)).map Ent.pv) (by simp) (fun i x s hx hs=>?_) (fun s hs=>?_)
  ·subst hs
   rw [List.getElem?_map] at hx
   cases e:(b.nd 0)[i]? with
   | none=>rw [e] at hx;cases hx
   | some en=>
    rw [e] at hx
    have ex:en.pv=x:=Option.some.inj hx
    subst ex
    have hi:i < b.size:=by have:=(List.getElem?_eq_some_iff.mp e).1;rw [b.nd_len] at this;exact this
    have et:(b.nd 0).take (i+1)=(b.nd 0).take i++[en]:=by rw [List.take_succ,e];rfl
    have al:∀y,appW ((a.nd 0++((b.nd 0).take i).map (shf a.size)).map Ent.pv) y=.ret ((a.nd 0++((b.nd 0).take i).map (shf a.size)).map Ent.pv++[y]):=fun y=>app_le (by simp [a.nd_len];omega)
    cases en with
    | word w=>
     simp only [Ent.pv,W.ret_bind,W.run_bind,ev_isiS,ev_kdSS,ev_truB,if_true,al,W.run_ret,et]
     simp [shf,Ent.pv]
    | pair u v=>
     have j0:atI [PV.int (u:Int),PV.int (v:Int)] 0=some (.int u):=rfl
     have j1:atI [PV.int (u:Int),PV.int (v:Int)] 1=some (.int v):=rfl
     simp only [Ent.pv,W.ret_bind,W.run_bind,ev_isiT,ev_kdST,ev_truB,Bool.false_eq_true,if_false,ev_seqT,ev_ix,j0,j1,W.ofO_some,ev_addI,al,W.run_ret,et]
     simp [shf,Ent.pv]
  ·subst hs
   rw [List.take_of_length_le (by rw [List.length_map];exact Nat.le_refl _)]
   have es:(b.nd 0).map (shf a.size)=b.nd a.size:=by rw [← nd_shf b 0 a.size,Nat.zero_add]
   rw [es]
   simp only [W.ret_bind,W.run_bind,ev_sub,ev_len,List.length_map,List.length_append,a.nd_len,b.nd_len,W.run_ret]
   rw [cat_le (by simp [a.nd_len,b.nd_len];omega)]
   have e:(Tr.node a b).nd 0=a.nd 0++b.nd a.size++[.pair (a.size-1) (a.size+b.size-1)]:=by rw [Tr.nd];simp
   rw [e] at q
   have e1:((a.size:Int)-1)=((a.size-1:Nat):Int):=by omega
   have e2:(((a.size+b.size:Nat):Int)-1)=((a.size+b.size-1:Nat):Int):=by omega
   rw [e1,e2]
   simpa [Ent.pv] using q
theorem pick_run {l:List PV} (h0:l≠[]) (h1:l.length≤1000) {Q:PV→Prop} (q:∀x∈l,Q x):(m__law_pick (.cl l)).run Q:=by
 unfold m__law_pick
 have hp:0 < l.length:=List.length_pos_iff.mpr h0
 simp only [W.ret_bind,W.run_bind,ev_seqC,ev_lenC,ev_take (l.length:Int) (by omega) (by omega),W.run_ret]
 refine drawn_run fun d d0 d1=>?_
 obtain⟨v,hv,hv2⟩:=atI_lt (xs:=l) d0 d1
 simp only [ev_ix,hv,W.ofO_some,W.run_ret]
 exact q v (List.mem_of_getElem? hv2)
theorem in_nat (k:Nat) (l:List Nat) (b:Bool):inW' b (.int (k:Int)) (natP l)=.ret (if b then !decide (k∈l) else decide (k∈l)):=by
 have h1:inOk (.int (k:Int)) (natP l):=⟨by simp,fokL_iff.mpr fun x hx=>by
  obtain⟨n,_,rfl⟩:=List.mem_map.mp hx
  simp,fdepL_le fun x hx=>by
  obtain⟨n,_,rfl⟩:=List.mem_map.mp hx
  simp⟩
 have h2:hasF (.int (k:Int)) (natP l)=decide (k∈l):=by
  unfold hasF natP
  rw [List.any_map]
  induction l with
  | nil=>simp
  | cons a l ih=>
   have ih:=ih ⟨by simp,fokL_iff.mpr fun x hx=>by
    obtain⟨n,_,rfl⟩:=List.mem_map.mp hx
    simp,fdepL_le fun x hx=>by
    obtain⟨n,_,rfl⟩:=List.mem_map.mp hx
    simp⟩
   rw [List.any_cons,ih]
   simp only [Function.comp,feqII,List.mem_cons]
   by_cases c:a=k
   ·subst c;simp
   ·have c1:(((a:Nat):Int)==(k:Int))=false:=by simp;omega
    have c2:¬k=a:=fun z=>c z.symm
    simp [c1,c2]
 unfold inW'
 rw [W.chk_pos h1,h2]
theorem dat_natP (l:List Nat):datL (natP l)=true:=datL_iff.mpr fun x hx=>by
 obtain⟨n,_,rfl⟩:=List.mem_map.mp hx
 rw [PV.dat] <;> simp
def intP (ds:List Int):List PV:=ds.map PV.int
@[simp] theorem intP_len (ds:List Int):(intP ds).length=ds.length:=List.length_map _
theorem intP_set (ds:List Int) (y:Nat) (v:Int):(intP ds).set y (.int v)=intP (ds.set y v):=by unfold intP;rw [List.map_set]
def rdy (t:Tr) (left:List Nat) (j:Nat):Bool:=match en t 0 j with
 | .pair a b=>!decide (a∈left)&&!decide (b∈left)
 | _=>false
theorem ixN_nat {n k:Nat} (h:k < n):ixN n (k:Int)=some k:=by
 unfold ixN
 rw [if_pos (by omega),if_pos (by omega)];simp
theorem set_nat {l:List PV}{k:Nat}{v:PV} (h:k < l.length):setW l (.int (k:Int)) v=.ret (l.set k v):=by
 unfold setW
 simp [ixN_nat h]
theorem nd_at' (t:Tr) {j:Nat} (h:j < t.size):atI ((t.nd 0).map Ent.pv) (j:Int)=some (en t 0 j).pv:=atI_nat (by rw [List.getElem?_map,nd_en t 0 j h];rfl)
theorem dates_run (t:Tr) (hz:t.size≤900) {Q:PV→Prop} (q:∀ds d,Dt t ds [] d→d≤13*((splits t).length:Int)→Q (.tup (intP ds))):(m__law_dates (.cl ((t.nd 0).map Ent.pv))).run Q:=by
 unfold m__law_dates
 have hs:(splits t).length≤t.size:=by
  unfold splits
  have:=List.length_filter_le (fun j=>isPr (en t 0 j)) (List.range t.size)
  rw [List.length_range] at this
  exact this
 have e1:repW [PV.int 0] (.int ((t.nd 0).map Ent.pv).length)=.ret (intP (List.replicate t.size 0)):=by
  rw [ev_rep,W.chk_pos ⟨by omega,by rw [List.length_map,t.nd_len];omega,small' (by simp [t.nd_len];omega)⟩]
  congr 1
  rw [List.length_map,t.nd_len,Int.toNat_natCast]
  unfold intP
  rw [List.map_replicate]
  induction t.size with
  | zero=>rfl
  | succ n ih=>rw [List.replicate_succ,List.flatten_cons,ih];rfl
 have e3:((t.nd 0).map Ent.pv).length≤sizeLine:=small' (by rw [List.length_map,t.nd_len];omega)
 simp only [W.ret_bind,ev_lenC,e1,ev_seqC,W.chk_pos e3,W.run_bind]
 refine lcW_r lftF (fun x hx=>?_) ?_
 ·rw [enum_nd] at hx
  obtain⟨j,hj,rfl⟩:=List.mem_map.mp hx
  cases en t 0 j with
  | word w=>simp [Ent.pv,lftF]
  | pair u v=>simp [Ent.pv,lftF]
 rw [lft_fm t]
 refine whileW_run (fun n s=>∃(ds:List Int) (left:List Nat) (d:Int),s=(intP ds,natP left,PV.int d)∧n=left.length∧Dt t ds left d∧d+13*(left.length:Int)≤13*((splits t).length:Int)) ⟨_,_,0,rfl,rfl,Dt.first t,by omega⟩ ?_
 rintro n s ⟨ds,left,d,rfl,rfl,D,hd⟩
 by_cases he:left=[]
 ·subst he
  simp
  exact q ds d D (by simpa using hd)
 ·have ee:(!(natP left).isEmpty)=true:=by cases left with | nil=>exact absurd rfl he | cons a l=>rfl
  have hll:left.length≤t.size:=by
   have:=ris_len left 0 t.size D.ris fun x hx=>⟨Nat.zero_le _,(D.lft x hx).1⟩
   omega
  obtain⟨r,hr,hr2⟩:∃r∈left,rdy t left r=true:=by
   obtain⟨l0,l1,rfl⟩:∃l0 l1,left=l0::l1:=by cases left with | nil=>exact absurd rfl he | cons a l=>exact⟨a,l,rfl⟩
   refine⟨l0,.head _,?_⟩
   obtain⟨h1,h2⟩:=D.lft l0 (.head _)
   unfold rdy
   cases e:en t 0 l0 with
   | word w=>rw [e] at h2;cases h2
   | pair a b=>
    obtain⟨g1,g2⟩:=en_halves t h1 e
    have low:∀y∈l0::l1,l0≤y:=fun y hy=>by
     rcases List.mem_cons.mp hy with rfl | hy
     ·exact Nat.le_refl _
     ·exact Nat.le_of_lt ((List.pairwise_cons.mp D.ris).1 y hy)
    have na:a∉l0::l1:=fun z=>by have:=low a z;omega
    have nb:b∉l0::l1:=fun z=>by have:=low b z;omega
    show (!decide _&&!decide _)=true
    rw [decide_eq_false na,decide_eq_false nb];rfl
  have ne:natP (left.filter (rdy t left))≠[]:=by
   intro z
   have:=congrArg List.length z
   rw [natP_len] at this
   have m:r∈left.filter (rdy t left):=List.mem_filter.mpr ⟨hr,hr2⟩
   rw [List.length_eq_zero_iff.mp this] at m
   cases m
  have e5:thawL (natP (left.filter (rdy t left)))=.ret (natP (left.filter (rdy t left))):=W.chk_pos (dat_natP _)
  simp only [W.run_ret,ee,if_true,W.ret_bind,W.run_bind]
  refine lc_nat_r (rdy t left) (fun k hk=>?_) ?_
  ·obtain⟨h1,h2⟩:=D.lft k hk
   unfold rdy
   cases e:en t 0 k with
   | word w=>rw [e] at h2;cases h2
   | pair a b=>
    have j0:atI [PV.int (a:Int),PV.int (b:Int)] 0=some (.int a):=rfl
    have j1:atI [PV.int (a:Int),PV.int (b:Int)] 1=some (.int b):=rfl
    simp only [W.ret_bind,ev_seqC,ev_ix,nd_at' t h1,e,Ent.pv,W.ofO_some,ev_seqT,j0,j1,in_nat,if_true]
    by_cases ca:a∈left
    ·simp [ca]
    ·simp [ca]
     by_cases cb:b∈left
     ·simp [cb]
     ·simp [cb]
  rw [e5]
  simp only [W.run_ret]
  refine pick_run ne (by rw [natP_len];have:=List.length_filter_le (rdy t left) left;omega) fun x hx=>?_
  obtain⟨j,hj,rfl⟩:=List.mem_map.mp hx
  obtain⟨hj1,hj2⟩:=List.mem_filter.mp hj
  obtain⟨js,jp⟩:=D.lft j hj1
  cases ej:en t 0 j with
  | word w=>rw [ej] at jp;cases jp
  | pair a b=>
  unfold rdy at hj2
  rw [ej] at hj2
  simp at hj2
  simp only [ev_addI,W.run_ret,ev_take 3 (by decide) (by decide)]
  refine drawn_run fun z z0 z1=>?_
  obtain⟨m,hm,m0,m1⟩:=menu13 z0 z1
  simp only [ev_ix,hm,W.ofO_some,W.run_ret,ev_take m m0 (by omega)]
  refine drawn_run fun y y0 y1=>?_
  have hx2:remW (natP left) (.int (j:Int))=.ret (natP (left.erase j)):=by
   show W.bind (intsW (natP left)) _=_
   rw [natP_ints,intsW_map]
   show W.chk _ _=_
   rw [W.chk_pos (List.mem_map.mpr ⟨j,hj1,rfl⟩),erase_ints,← natP_ints]
  simp only [ev_addI,W.run_ret,set_nat (l:=intP ds) (k:=j) (by rw [intP_len,D.len];exact js),hx2,intP_set]
  refine⟨(left.erase j).length,by rw [List.length_erase_of_mem hj1];have:=List.length_pos_of_mem hj1;omega,_,_,_,rfl,rfl,D.next hj1 ej hj2.1 hj2.2 y0,?_⟩
  rw [List.length_erase_of_mem hj1]
  have:=List.length_pos_of_mem hj1
  omega
end My
set_option Elab.async false
set_option linter.all false
set_option maxRecDepth 100000
namespace My
open PySem PySem.Spec PyProof.Rows L2 PL FL
theorem Great.size {t:Tr} (g:Great t):t.size≤15:=by have:=t.size_eq;have:=g.few;omega
theorem Great.depth {t:Tr} (g:Great t):t.depth < 8:=by have:=t.depth_lt;have:=g.few;omega
end My
set_option Elab.async false
set_option linter.all false
set_option maxRecDepth 100000
namespace My
open PySem PySem.Spec PyProof.Rows L2 PL FL
def okJ (t:Tr) (ds:List Int) (j:Nat):Bool:=match en t 0 j with
 | .word _=>ds.getD j 0==0
 | .pair a b=>decide (ds.getD a 0 < ds.getD j 0)&&decide (ds.getD b 0 < ds.getD j 0)&&decide (1≤ds.getD j 0)&&decide (ds.getD j 0≤99)
def spD (t:Tr) (ds:List Int):List Int:=(splits t).map (ds.getD · 0)
def isDb (t:Tr) (ds:List Int):Bool:=decide (ds.length=t.size)&&(decide (spD t ds).Nodup&&(List.range t.size).all (okJ t ds))
theorem int_at {ds:List Int}{j:Nat} (h:j < ds.length):atI (intP ds) (j:Int)=some (.int (ds.getD j 0)):=atI_nat (by
 unfold intP
 rw [List.getElem?_map,List.getElem?_eq_getElem h,List.getD_eq_getElem?_getD,List.getElem?_eq_getElem h];rfl)
theorem zip_nd (t:Tr) (ds:List Int) (h:ds.length=t.size):zipV ((t.nd 0).map Ent.pv) (intP ds)=(List.range t.size).map fun j=>PV.tup [(en t 0 j).pv,.int (ds.getD j 0)]:=by
 refine List.ext_getElem? fun j=>?_
 by_cases hj:j < t.size
 ·have hl:j < (zipV ((t.nd 0).map Ent.pv) (intP ds)).length:=by rw [zipV_le];simp [t.nd_len,h];exact hj
  obtain⟨x,y,hx,hy,e⟩:=zipV_get (List.getElem?_eq_getElem hl)
  rw [List.getElem?_map,nd_en t 0 j hj] at hx
  have hx':(en t 0 j).pv=x:=Option.some.inj hx
  have hjl:j < ds.length:=by omega
  unfold intP at hy
  rw [List.getElem?_map,List.getElem?_eq_getElem hjl] at hy
  have hy':PV.int ds[j]=y:=Option.some.inj hy
  rw [List.getElem?_eq_getElem hl,e,← hx',← hy',List.getElem?_map,List.getElem?_range hj]
  show _=some (PV.tup [_,.int (ds.getD j 0)])
  rw [List.getD_eq_getElem?_getD,List.getElem?_eq_getElem hjl];rfl
 ·rw [List.getElem?_eq_none (by rw [zipV_le];simp [t.nd_len,h];omega),List.getElem?_eq_none (by simp;omega)]
theorem split_le (t:Tr) (ds:List Int) (h:ds.length=t.size) (hz:t.size≤900):m_split_dates (.tup ((t.nd 0).map Ent.pv)) (.tup (intP ds))=.ret (intP (spD t ds)):=by
 unfold m_split_dates
 have c:((t.nd 0).map Ent.pv).length≤sizeLine:=small' (by rw [List.length_map,t.nd_len];omega)
 simp only [W.ret_bind,ev_seqT,zipW,W.chk_pos c,zip_nd t ds h]
 rw [lcW_eq (g:=fun x=>match x with | .tup [.str _,_]=>none | .tup [_,y]=>some y | _=>none) fun x hx=>?_]
 ·congr 1
  unfold spD splits intP
  generalize List.range t.size=l
  induction l with
  | nil=>rfl
  | cons j l ih=>
   rw [List.map_cons,List.filterMap_cons,List.filter_cons,ih]
   cases e:en t 0 j with
   | word w=>rfl
   | pair a b=>rfl
 ·obtain⟨j,hj,rfl⟩:=List.mem_map.mp hx
  cases en t 0 j with
  | word w=>simp [Ent.pv]
  | pair a b=>simp [Ent.pv]
end My
set_option Elab.async false
set_option linter.all false
set_option maxRecDepth 100000
namespace My
open PySem PySem.Spec PyProof.Rows L2 PL FL
section
variable {α β:Type}
theorem map_of {c:α→PV}{f:PV→W PV}{g:α→PV}:∀{l:List α},(∀x∈l,(f (c x)).le (.ret (g x)))→(mapW (l.map c) f).le (.ret (l.map g))
 | [],_=>W.le.refl _
 | x::r,h=>W.le.ret (h x (.head _)) (W.le.ret (map_of fun y hy=>h y (.tail _ hy)) (W.le.refl _))
theorem lc_of {c:α→PV}{f:PV→W (Option PV)}{g:α→Option PV}:∀{l:List α},(∀x∈l,(f (c x)).le (.ret (g x)))→(lcW (l.map c) f).le (.ret (l.filterMap g))
 | [],_=>W.le.refl _
 | x::r,h=>W.le.ret (h x (.head _)) (W.le.ret (lc_of fun y hy=>h y (.tail _ hy)) (W.le.of_eq (by rw [List.filterMap_cons];cases g x <;> rfl)))
theorem map_run {c:α→PV}{f:PV→W PV}{Q:List PV→Prop} (g:α→PV) {l:List α} (h:∀x∈l,(f (c x)).le (.ret (g x))) (q:Q (l.map g)):(mapW (l.map c) f).run Q:=map_of h Q q
theorem lc_run {c:α→PV}{f:PV→W (Option PV)}{Q:List PV→Prop} (g:α→Option PV) {l:List α} (h:∀x∈l,(f (c x)).le (.ret (g x))) (q:Q (l.filterMap g)):(lcW (l.map c) f).run Q:=lc_of h Q q
theorem fm_if {p:α→Bool}{g:α→β}:∀l:List α,l.filterMap (fun x=>if p x=true then some (g x) else none)=(l.filter p).map g
 | []=>rfl
 | x::l=>by
  rw [List.filterMap_cons,List.filter_cons,fm_if l]
  cases p x <;> rfl
end
theorem enum_map {α:Type} (c:α→PV) (l:List α) (k:Nat):enumV k (l.map c)=(l.zipIdx k).map fun p=>PV.tup [.int ((p.2:Nat):Int),c p.1]:=by
 induction l generalizing k with
 | nil=>rfl
 | cons a l ih=>rw [List.map_cons,enumV,ih,List.zipIdx_cons,List.map_cons]
def vp:V→PV
 | .int i=>.int i
 | .str x=>.str x
 | .bl b=>.bl b
 | _=>.non
def ahL (t:Tr):List PV:=(ah (t.nd 0) 0 (List.replicate t.size V.non)).map vp
@[simp] theorem ahL_len (t:Tr):(ahL t).length=t.size:=by unfold ahL;rw [List.length_map,ah_len,List.length_replicate]
theorem ahL_get (t:Tr) {j:Nat} (h:j < t.size):(ahL t)[j]?=some (vp (ahd t 0 j .non)):=by unfold ahL;rw [List.getElem?_map,ah_get t h];rfl
theorem nd_pv_len (t:Tr):((t.nd 0).map Ent.pv).length=t.size:=by rw [List.length_map,t.nd_len]
theorem ahead_le (t:Tr) (hz:t.size≤900):(m_ahead_of t.pv).le (.ret (.tup (ahL t))):=fun Q q=>by
 unfold m_ahead_of
 have c:((t.nd 0).map Ent.pv).length≤sizeLine:=small' (by rw [nd_pv_len];omega)
 simp only [W.ret_bind,W.run_bind]
 refine W.le.use (nodes_le t hz) ?_
 simp only [ev_seqT,W.run_ret]
 refine mapW_r (fun _=>.non) (fun x hx=>rfl) ?_
 simp only [W.chk_pos c,W.run_ret]
 have e0:((t.nd 0).map Ent.pv).map (fun _=>PV.non)=(ah ((t.nd 0).take 0) 0 (List.replicate t.size V.non)).map vp:=by
  rw [List.take_zero,ah,List.map_replicate,List.map_const',nd_pv_len];rfl
 rw [e0]
 refine forW_ix (fun i s=>s=(ah ((t.nd 0).take i) 0 (List.replicate t.size V.non)).map vp) rfl (fun i x s hx hs=>?_) (fun s hs=>?_)
 ·subst hs
  have hi:i < t.size:=by have:=(List.getElem?_eq_some_iff.mp hx).1;rw [enumV_len,nd_pv_len] at this;exact this
  obtain⟨y,hy,rfl⟩:=enumV_get hx
  have e:=nd_en t 0 i hi
  rw [List.getElem?_map,e] at hy
  have hy:(en t 0 i).pv=y:=Option.some.inj hy
  subst hy
  have et:(t.nd 0).take (i+1)=(t.nd 0).take i++[en t 0 i]:=by rw [List.take_succ,e];rfl
  have ea:ah ((t.nd 0).take (i+1)) 0 (List.replicate t.size V.non)=ahS (ah ((t.nd 0).take i) 0 (List.replicate t.size V.non)) (0+i) (en t 0 i):=by
   rw [et,ah_snoc,List.length_take,t.nd_len];congr 1;omega
  have hal:(ah ((t.nd 0).take i) 0 (List.replicate t.size V.non)).length=t.size:=by rw [ah_len,List.length_replicate]
  rw [ea]
  generalize hA:ah ((t.nd 0).take i) 0 (List.replicate t.size V.non)=A at hal ⊢
  unfold m_halves
  cases en':en t 0 i with
  | word w=>simp [Ent.pv,forW,ahS]
  | pair a b=>
   obtain⟨ha,hb⟩:=en_halves t hi en'
   have s1:setW (A.map vp) (.int (a:Int)) (.int ((0+i:Nat):Int))=.ret ((A.map vp).set a (.int ((0+i:Nat):Int))):=set_nat (by rw [List.length_map];omega)
   have s2:setW ((A.map vp).set a (.int ((0+i:Nat):Int))) (.int (b:Int)) (.int ((0+i:Nat):Int))=.ret (((A.map vp).set a (.int ((0+i:Nat):Int))).set b (.int ((0+i:Nat):Int))):=set_nat (by rw [List.length_set,List.length_map];omega)
   simp only [Ent.pv,ev_un2,W.run_ret,ev_isiT,ev_kdST,ev_truB,W.run_bind,Bool.false_eq_true,if_false,ev_seqT,forW,W.ret_bind,s1,s2]
   show _=List.map vp ((A.set a _).set b _)
   rw [List.map_set,List.map_set];rfl
 ·subst hs
  simp only [enumV_len,List.length_map]
  rw [List.take_length]
  simp only [W.ret_bind,W.run_bind,ev_tup,W.run_ret]
  exact q
def nmP (e:Ent) (j:Nat):PV:=match e with | .word x=>.str x | .pair _ _=>.int (j:Int)
def stB (t:Tr) (ds:List Int) (b:Int) (j:Nat):Bool:=decide (ds.getD j 0≤b)&&(match ahd t 0 j .non with | .int a=>decide (b < ds.getD a.toNat 0) | _=>true)
def stL (t:Tr) (ds:List Int) (b:Int) (n j:Nat):List (Nat×Nat):=((List.range j).filter (stB t ds b)).map fun k=>(k,n)
def standN (t:Tr) (ds bs:List Int):Nat→List (Nat×Nat)
 | 0=>[]
 | i+1=>standN t ds bs i++stL t ds (bs.getD i 0) i t.size
def prP (l:List (Nat×Nat)):List PV:=l.map fun p=>.tup [.int (p.1:Int),.int (p.2:Int)]
theorem stL_len (t:Tr) (ds:List Int) (b:Int) (n j:Nat):(stL t ds b n j).length≤j:=by
 unfold stL
 rw [List.length_map]
 refine Nat.le_trans (List.length_filter_le _ _) ?_
 rw [List.length_range];exact Nat.le_refl _
theorem standN_len (t:Tr) (ds bs:List Int):∀i,(standN t ds bs i).length≤i*t.size
 | 0=>Nat.zero_le _
 | i+1=>by
  rw [standN,List.length_append]
  have h1:=standN_len t ds bs i
  have h2:=stL_len t ds (bs.getD i 0) i t.size
  rw [Nat.succ_mul];omega
theorem stL_succ (t:Tr) (ds:List Int) (b:Int) (n j:Nat):stL t ds b n (j+1)=stL t ds b n j++(if stB t ds b j then [(j,n)] else []):=by
 unfold stL
 rw [List.range_succ,List.filter_append,List.map_append]
 congr 1
 by_cases c:stB t ds b j <;> simp [c]
theorem prP_app (a b:List (Nat×Nat)):prP (a++b)=prP a++prP b:=List.map_append
def key2 (p:Nat×Nat):List Key:=[.inl (p.1:Int),.inl (p.2:Int)]
theorem key2_inj {p q:Nat×Nat} (h:key2 p=key2 q):p=q:=by
 obtain⟨a,b⟩:=p
 obtain⟨c,d⟩:=q
 simp [key2] at h
 obtain⟨h1,h2⟩:=h
 exact Prod.ext (by show a=c;omega) (by show b=d;omega)
def numK:Nat→List (Nat×Nat)→List (List Key×PV)
 | _,[]=>[]
 | k,p::l=>(key2 p,.int (k:Int))::numK (k+1) l
theorem numK_keys:∀(k:Nat) (l:List (Nat×Nat)),(numK k l).map (·.1)=l.map key2
 | _,[]=>rfl
 | k,p::l=>by rw [numK,List.map_cons,List.map_cons,numK_keys (k+1) l]
theorem numK_len (k:Nat) (l:List (Nat×Nat)):(numK k l).length=l.length:=by have:=congrArg List.length (numK_keys k l);simpa using this
theorem numK_val:∀(k:Nat) (l:List (Nat×Nat)) (p:Nat×Nat),p∈l→getT (numK k l) (key2 p)=some (.int ((k+l.idxOf p:Nat):Int))
 | k,q::l,p,h=>by
  rw [List.idxOf_cons]
  by_cases c:q=p
  ·subst c
   simp [numK,getT]
  ·have hp:p∈l:=(List.mem_cons.mp h).elim (fun z=>absurd z.symm c) id
   have ih:=numK_val (k+1) l p hp
   have c2:key2 q≠key2 p:=fun z=>c (key2_inj z)
   have c3:(q==p)=false:=by simpa using c
   have e:getT (numK k (q::l)) (key2 p)=getT (numK (k+1) l) (key2 p):=by simp [numK,getT,c2]
   rw [e,ih,c3]
   congr 2
   show ((k+1+l.idxOf p:Nat):Int)=((k+(l.idxOf p+1):Nat):Int)
   omega
def bel (e:Ent) (j:Nat) (d b:Int):List Nat:=if d < b then [j] else match e with | .word _=>[] | .pair x y=>[x,y]
def bsd (l:List (Nat×Nat)) (j n:Nat):List Nat:=(l.filter fun p=>decide (p.2=n)&&!decide (p.1=j)).map fun p=>l.idxOf p
def dstay (e:Ent) (l:List (Nat×Nat)) (j n:Nat) (d b:Int):PV:=.tup [nmP e j,.int (n:Int),.tup (natP ((bel e j d b).map fun x=>l.idxOf (x,n-1))),.tup (natP (bsd l j n))]
theorem nd_map' {α β:Type}{f:α→β} (hf:∀x y,f x=f y→x=y) {l:List α} (h:l.Nodup):(l.map f).Nodup:=List.Pairwise.map f (fun a b n z=>n (hf a b z)) h
theorem stL_nodup (t:Tr) (ds:List Int) (b:Int) (n j:Nat):(stL t ds b n j).Nodup:=by
 unfold stL
 exact nd_map' (fun x y h=>(Prod.mk.inj h).1) (List.Pairwise.filter _ List.nodup_range)
theorem standN_mem {t:Tr}{ds bs:List Int}:∀{i:Nat}{p:Nat×Nat},p∈standN t ds bs i→p.2 < i∧p.1 < t.size
 | 0,_,h=>by simp [standN] at h
 | i+1,p,h=>by
  rw [standN] at h
  rcases List.mem_append.mp h with h | h
  ·have:=standN_mem h;omega
  ·unfold stL at h
   obtain⟨k,hk,rfl⟩:=List.mem_map.mp h
   have:=List.mem_range.mp (List.mem_filter.mp hk).1
   exact⟨Nat.lt_succ_self _,this⟩
theorem standN_nodup (t:Tr) (ds bs:List Int):∀i,(standN t ds bs i).Nodup
 | 0=>List.nodup_nil
 | i+1=>by
  rw [standN]
  refine List.nodup_append.mpr ⟨standN_nodup t ds bs i,stL_nodup _ _ _ _ _,fun a ha b hb z=>?_⟩
  subst z
  have h1:=(standN_mem ha).1
  unfold stL at hb
  obtain⟨k,_,rfl⟩:=List.mem_map.mp hb
  exact Nat.lt_irrefl _ h1
theorem ix_nat {l:List PV}{k:Nat}{v:PV} (h:l[k]?=some v):ixW l (.int (k:Int))=.ret v:=by
 rw [ev_ix,atI_nat h];rfl
theorem enum_int (ds:List Int) {i:Nat}{x:PV} (h:(enumV 0 (intP ds))[i]?=some x):i < ds.length∧x=.tup [.int (i:Int),.int (ds.getD i 0)]:=by
 have hi:i < ds.length:=by have:=(List.getElem?_eq_some_iff.mp h).1;rw [enumV_len,intP_len] at this;exact this
 obtain⟨y,hy,rfl⟩:=enumV_get h
 unfold intP at hy
 rw [List.getElem?_map,List.getElem?_eq_getElem hi] at hy
 have hy:=Option.some.inj hy
 subst hy
 refine⟨hi,?_⟩
 rw [Nat.zero_add,List.getD_eq_getElem?_getD,List.getElem?_eq_getElem hi];rfl
theorem standing_le (t:Tr) (ds bs:List Int) (hd:ds.length=t.size) (hz:t.size≤100) (hb:bs.length*t.size≤900) (hb2:bs.length≤900):(m_standing t.pv (.tup (intP ds)) (.cl (intP bs))).le (.ret (prP (standN t ds bs bs.length))):=fun Q q=>by
 unfold m_standing
 have c1:(intP bs).length≤sizeLine:=small' (by rw [intP_len];omega)
 have c2:(intP ds).length≤sizeLine:=small' (by rw [intP_len];omega)
 simp only [W.ret_bind,W.run_bind]
 refine W.le.use (ahead_le t (by omega)) ?_
 simp only [ev_seqC,W.run_ret,W.chk_pos c1]
 refine forW_ix (fun i s=>s=prP (standN t ds bs i)) rfl (fun i x s hx hs=>?_) (fun s hs=>?_)
 ·subst hs
  obtain⟨hi,rfl⟩:=enum_int bs hx
  simp only [ev_un2,W.run_ret,W.run_bind,ev_seqT,W.chk_pos c2]
  have hl:=standN_len t ds bs i
  have hm:i*t.size+t.size≤900:=by
   have:(i+1)*t.size≤bs.length*t.size:=Nat.mul_le_mul_right _ hi
   rw [Nat.succ_mul] at this;omega
  refine forW_ix (fun j s=>s=prP (standN t ds bs i++stL t ds (bs.getD i 0) i j)) (by simp [stL]) (fun j x s hx hs=>?_) (fun s hs=>?_)
  ·subst hs
   obtain⟨hj,rfl⟩:=enum_int ds hx
   have hl2:=stL_len t ds (bs.getD i 0) i j
   simp only [ev_un2,W.run_ret,W.run_bind]
   rw [stL_succ]
   have hjt:j < t.size:=by omega
   have yes:stB t ds (bs.getD i 0) j=true→(appW (prP (standN t ds bs i++stL t ds (bs.getD i 0) i j)) (PV.tup [.int (j:Int),.int (i:Int)])).run fun s=>s=prP (standN t ds bs i++(stL t ds (bs.getD i 0) i j++if stB t ds (bs.getD i 0) j=true then [(j,i)] else [])):=fun c=>by
    rw [app_le (by unfold prP;rw [List.length_map,List.length_append];omega),if_pos c]
    simp only [W.run_ret]
    unfold prP
    rw [← List.append_assoc,List.map_append (l₂:=[(j,i)])];rfl
   have no:stB t ds (bs.getD i 0) j=false→prP (standN t ds bs i++stL t ds (bs.getD i 0) i j)=prP (standN t ds bs i++(stL t ds (bs.getD i 0) i j++if stB t ds (bs.getD i 0) j=true then [(j,i)] else [])):=fun c=>by rw [c];simp
   generalize eb:bs.getD i 0=b at yes no ⊢
   generalize ed:ds.getD j 0=d at *
   simp only [W.ret_bind,W.run_bind,ev_le,W.run_ret,ev_asB,ev_seqT,ix_nat (ahL_get t hjt)]
   by_cases c:d≤b
   ·simp only [c,decide_true,if_true,W.run_bind,W.run_ret]
    rcases up_ahd t 0 j .non [] hjt with⟨_,e,_⟩ | ⟨a,_,ha,e,_⟩
    ·have sb:stB t ds b j=true:=by unfold stB;rw [e,ed];simp [c]
     rw [e]
     simp only [vp,ev_isN,W.run_ret,ev_asB,PV.isNon,if_true]
     exact yes sb
    ·rw [Nat.zero_add] at e
     have sb:stB t ds b j=decide (b < ds.getD a 0):=by unfold stB;rw [e,ed];simp [c]
     rw [e]
     have i2:atI (intP ds) (a:Int)=some (.int (ds.getD a 0)):=int_at (by omega)
     simp only [vp,ev_isN,W.run_ret,ev_asB,PV.isNon,Bool.false_eq_true,if_false,ev_ix,i2,W.ofO_some,ev_lt,W.ret_bind]
     by_cases c2:b < ds.getD a 0
     ·rw [decide_eq_true c2] at sb ⊢
      simp only [if_true]
      exact yes sb
     ·rw [decide_eq_false c2] at sb ⊢
      simp only [Bool.false_eq_true,if_false,W.run_ret]
      exact no sb
   ·have sb:stB t ds b j=false:=by unfold stB;rw [ed];simp [c]
    simp only [c,decide_false,Bool.false_eq_true,if_false,W.run_ret]
    exact no sb
  ·subst hs
   rw [enumV_len,intP_len,hd]
   rfl
 ·subst hs
  rw [enumV_len,intP_len]
  exact q
theorem numK_ne {l:List (Nat×Nat)} (h:l≠[]) (k:Nat):numK k l≠[]:=by cases l with | nil=>exact absurd rfl h | cons a l=>simp [numK]
theorem numK_keysP (k:Nat) (l:List (Nat×Nat)):((numK k l).map fun kv=>PV.tup (kv.1.map kP))=l.map fun p=>PV.tup [.int (p.1:Int),.int (p.2:Int)]:=by
 have:=congrArg (List.map fun x:List Key=>PV.tup (x.map kP)) (numK_keys k l)
 rw [List.map_map,List.map_map] at this
 exact this
theorem stay_le {es:List Ent}{ds bs:List Int}{l:List (Nat×Nat)}{j n:Nat}{e:Ent} (h1:es[j]?=some e) (h2:j < ds.length) (h3:n < bs.length) (hl:l.length≤1000) (h0:l≠[])
  (hb:∀x∈bel e j (ds.getD j 0) (bs.getD n 0),1≤n∧(x,n-1)∈l) :
  (m_stay_of (.tup (es.map Ent.pv)) (.tup (intP ds)) (.cl (intP bs)) (dvT (numK 0 l)) (.tup [.int (j:Int),.int (n:Int)])).le (.ret (dstay e l j n (ds.getD j 0) (bs.getD n 0))):=fun Q q=>by
 unfold m_stay_of
 have i0:atI [PV.int (j:Int),PV.int (n:Int)] 0=some (.int j):=rfl
 have i1:atI [PV.int (j:Int),PV.int (n:Int)] 1=some (.int n):=rfl
 have i2:atI (intP ds) (j:Int)=some (.int (ds.getD j 0)):=int_at h2
 have i3:atI (intP bs) (n:Int)=some (.int (bs.getD n 0)):=int_at h3
 have i4:atI (es.map Ent.pv) (j:Int)=some e.pv:=atI_nat (by rw [List.getElem?_map,h1];rfl)
 simp only [W.ret_bind,W.run_bind,ev_seqT,ev_seqC,ev_ix,i0,i1,i2,i3,i4,W.ofO_some,W.run_ret,ev_lt,ev_truB]
 generalize hdj:ds.getD j 0=d at *
 generalize hbn:bs.getD n 0=b at *
 have below:∀{R:PV→Prop},R (.tup (natP (bel e j d b)))→(if decide (d < b)=true then W.ret (PV.tup [PV.int (j:Int)]) else m_halves e.pv).run R:=fun {R} r=>by
  unfold bel at r
  unfold m_halves
  by_cases c:d < b
  ·rw [if_pos c] at r;simpa [c] using r
  ·rw [if_neg c] at r
   cases e with
   | word w=>simpa [c,Ent.pv] using r
   | pair a b=>simpa [c,Ent.pv] using r
 refine below ?_
 simp only [W.run_bind,ev_seqT,W.run_ret]
 refine map_run (fun x=>.int ((l.idxOf (x,n-1):Nat):Int)) (fun k hk=>?_) ?_
 ·obtain⟨g1,g2⟩:=hb k hk
  intro R r
  have en1:(n:Int)-1=((n-1:Nat):Int):=by omega
  simp only [dgB,W.ret_bind,W.run_bind,ev_sub,W.run_ret,en1]
  rw [show PV.tup [.int (k:Int),.int ((n-1:Nat):Int)]=.tup ((key2 (k,n-1)).map kP) from rfl]
  refine dgT_run (numK_val 0 l (k,n-1) g2) ?_
  rw [Nat.zero_add]
  exact r
 simp only [W.run_bind,ev_tup,W.run_ret]
 refine keysT_run (numK_ne h0 0) (by rw [numK_len];exact hl) ?_
 rw [numK_keysP]
 refine lc_run (fun p=>if (decide (p.2=n)&&!decide (p.1=j))=true then some (.int ((l.idxOf p:Nat):Int)) else none) (fun p hp=>?_) ?_
 ·intro R r
  obtain⟨u,v⟩:=p
  have j0:atI [PV.int (u:Int),PV.int (v:Int)] 0=some (.int u):=rfl
  have j1:atI [PV.int (u:Int),PV.int (v:Int)] 1=some (.int v):=rfl
  simp only [dgB,W.ret_bind,W.run_bind,ev_seqT,ev_ix,j0,j1,W.ofO_some,W.run_ret,ev_eqI,ev_neI,ev_asB]
  have get:∀{R:PV→Prop},R (.int ((l.idxOf (u,v):Nat):Int))→(dgW (dvT (numK 0 l)) (PV.tup [.int (u:Int),.int (v:Int)])).run R:=fun {R} r=>by
   rw [show PV.tup [.int (u:Int),.int (v:Int)]=.tup ((key2 (u,v)).map kP) from rfl]
   refine dgT_run (numK_val 0 l (u,v) hp) ?_
   rw [Nat.zero_add];exact r
  by_cases c1:v=n
  ·subst c1
   by_cases c2:u=j
   ·subst c2
    simp only [beq_self_eq_true,Bool.not_true,if_true,W.run_ret,Bool.false_eq_true,if_false]
    simpa using r
   ·have c3:((u:Int)==(j:Int))=false:=by simp;omega
    simp only [beq_self_eq_true,c3,Bool.not_false,if_true,W.run_ret,W.run_bind]
    refine get ?_
    simpa [c2] using r
  ·have c3:((v:Int)==(n:Int))=false:=by simp;omega
   simp only [c3,Bool.false_eq_true,if_false,W.run_ret]
   simpa [c1] using r
 rw [fm_if]
 have nm:∀{R:PV→Prop},R (nmP e j)→(m_name_of (.tup (es.map Ent.pv)) (.int (j:Int))).run R:=fun {R} r=>by
  unfold m_name_of
  simp only [W.ret_bind,W.run_bind,ev_seqT,ev_ix,i4,W.ofO_some,W.run_ret]
  cases e with
  | word w=>simpa [Ent.pv,nmP] using r
  | pair a b=>simpa [Ent.pv,nmP] using r
 refine nm ?_
 have e1:(l.filter fun p=>decide (p.2=n)&&!decide (p.1=j)).map (fun p=>PV.int ((l.idxOf p:Nat):Int))=natP (bsd l j n):=by
  unfold natP bsd
  rw [List.map_map];rfl
 have e2:(bel e j d b).map (fun x=>PV.int ((l.idxOf (x,n-1):Nat):Int))=natP ((bel e j d b).map fun x=>l.idxOf (x,n-1)):=by
  unfold natP
  rw [List.map_map];rfl
 rw [e1,e2]
 exact q
def dgL (t:Tr) (ds bs:List Int):List PV:=(standN t ds bs bs.length).map fun p=>dstay (en t 0 p.1) (standN t ds bs bs.length) p.1 p.2 (ds.getD p.1 0) (bs.getD p.2 0)
def okD (t:Tr) (ds bs:List Int):Prop:=∀p∈standN t ds bs bs.length,∀x∈bel (en t 0 p.1) p.1 (ds.getD p.1 0) (bs.getD p.2 0),1≤p.2∧(x,p.2-1)∈standN t ds bs bs.length
theorem numK_pairs:∀(k:Nat) (l:List (Nat×Nat)),(l.zipIdx k).map (fun p=>PV.tup [PV.tup [.int (p.1.1:Int),.int (p.1.2:Int)],.int ((p.2:Nat):Int)])=(numK k l).map pairP
 | _,[]=>rfl
 | k,p::l=>by rw [List.zipIdx_cons,List.map_cons,numK_pairs (k+1) l];rfl
def begs (t:Tr) (ds:List Int):List Int:=0::sortI (spD t ds)
theorem spD_len (t:Tr) (ds:List Int):(spD t ds).length≤t.size:=by
 unfold spD splits
 rw [List.length_map]
 have:=List.length_filter_le (fun j=>isPr (en t 0 j)) (List.range t.size)
 rw [List.length_range] at this
 exact this
theorem mem_sort' {x:Int}{l:List Int}:x∈sortI l↔x∈l:=(List.mergeSort_perm l _).mem_iff
theorem sort_len' (l:List Int):(sortI l).length=l.length:=(List.mergeSort_perm l _).length_eq
theorem dated_le (t:Tr) (ds:List Int) (hd:ds.length=t.size) (hz:t.size≤25) (h0:standN t ds (begs t ds) (begs t ds).length≠[]) (ok:okD t ds (begs t ds)):(m_dated t.pv (.tup (intP ds))).le (.ret (.tup (dgL t ds (begs t ds)))):=fun Q q=>by
 unfold m_dated
 simp only [W.ret_bind,W.run_bind]
 refine W.le.use (nodes_le t (by omega)) ?_
 have hs:=spD_len t ds
 have hl:(begs t ds).length≤t.size+1:=by unfold begs;rw [List.length_cons,sort_len'];omega
 have e2:sortIW (intP (spD t ds))=.ret (intP (sortI (spD t ds))):=by
  unfold sortIW intP
  rw [intsW_map]
  show W.chk _ _=_
  rw [W.chk_pos (by omega)]
 have e3:catW [PV.int 0] (intP (sortI (spD t ds)))=.ret (intP (begs t ds)):=by
  rw [cat_le (by rw [intP_len,sort_len'];simp;omega)];rfl
 simp only [split_le t ds hd (by omega),W.run_ret,e2,e3]
 have hb:(begs t ds).length*t.size≤900:=by
  have:(begs t ds).length*t.size≤26*25:=Nat.mul_le_mul (by omega) hz
  omega
 refine W.le.use (standing_le t ds (begs t ds) hd (by omega) hb (by omega)) ?_
 generalize hL:standN t ds (begs t ds) (begs t ds).length=L at *
 have hLl:L.length≤900:=by rw [← hL];exact Nat.le_trans (standN_len _ _ _ _) hb
 have hLm:∀p∈L,p.2 < (begs t ds).length∧p.1 < t.size:=fun p hp=>standN_mem (hL▸hp)
 have c:(prP L).length≤sizeLine:=small' (by unfold prP;rw [List.length_map];omega)
 simp only [ev_seqC,W.run_ret,W.chk_pos c,W.ret_bind]
 unfold prP
 rw [enum_map]
 refine map_run (fun p:(Nat×Nat)×Nat=>PV.tup [PV.tup [.int (p.1.1:Int),.int (p.1.2:Int)],.int ((p.2:Nat):Int)]) (fun p _ R r=>by simpa using r) ?_
 rw [numK_pairs]
 refine dictT_run ?_ (by rw [numK_len];omega) ?_
 ·rw [numK_keys]
  exact nd_map' (fun _ _ h=>key2_inj h) (hL▸standN_nodup t ds _ _)
 refine map_run (fun p:Nat×Nat=>dstay (en t 0 p.1) L p.1 p.2 (ds.getD p.1 0) ((begs t ds).getD p.2 0)) (fun p hp=>?_) ?_
 ·obtain⟨g1,g2⟩:=hLm p hp
  refine stay_le (nd_en t 0 p.1 g2) (by omega) g1 (by omega) h0 fun x hx=>?_
  have:=ok p (by rw [hL];exact hp) x hx
  rw [hL] at this
  exact this
 ·simp only [ev_tup,W.run_ret]
  have:dgL t ds (begs t ds)=L.map fun p:Nat×Nat=>dstay (en t 0 p.1) L p.1 p.2 (ds.getD p.1 0) ((begs t ds).getD p.2 0):=by unfold dgL;rw [hL]
  rw [← this]
  exact q
end My
set_option Elab.async false
set_option linter.all false
set_option maxRecDepth 100000
namespace My
open PySem PySem.Spec PyProof.Rows L2 PL FL
theorem ahd_en:∀(t:Tr) (o x:Nat) (p:V),x < t.size→(x=t.size-1∧ahd t o x p=p)∨∃a u v,x < a∧a < t.size∧ahd t o x p=.int ((o+a:Nat):Int)∧en t o a=.pair u v∧(u=o+x∨v=o+x)
 | .leaf _,o,x,p,h=>.inl ⟨by have:x < 1:=h;show x=0;omega,rfl⟩
 | .node l r,o,x,p,h=>by
  have es:(Tr.node l r).size=l.size+r.size+1:=rfl
  have lp:=l.size_pos
  have rp:=r.size_pos
  have top:en (.node l r) o (l.size+r.size)=.pair (o+l.size-1) (o+l.size+r.size-1):=by rw [en,if_neg (by omega),if_neg (by omega)]
  by_cases c1:x < l.size
  ·rw [show ahd (.node l r) o x p=ahd l o x (.int (o+l.size+r.size:Nat)) by rw [ahd,if_pos c1]]
   rcases ahd_en l o x (.int (o+l.size+r.size:Nat)) c1 with⟨h1,h2⟩ | ⟨a,u,v,h1,h2,h3,h4,h5⟩
   ·exact .inr ⟨l.size+r.size,_,_,by omega,by omega,by rw [h2,Nat.add_assoc],top,.inl (by omega)⟩
   ·exact .inr ⟨a,u,v,h1,by omega,h3,by rw [en,if_pos h2];exact h4,h5⟩
  ·by_cases c2:x < l.size+r.size
   ·rw [show ahd (.node l r) o x p=ahd r (o+l.size) (x-l.size) (.int (o+l.size+r.size:Nat)) by rw [ahd,if_neg c1,if_pos c2]]
    rcases ahd_en r (o+l.size) (x-l.size) (.int (o+l.size+r.size:Nat)) (by omega) with⟨h1,h2⟩ | ⟨a,u,v,h1,h2,h3,h4,h5⟩
    ·exact .inr ⟨l.size+r.size,_,_,by omega,by omega,by rw [h2,Nat.add_assoc],top,.inr (by omega)⟩
    ·refine .inr ⟨l.size+a,u,v,by omega,by omega,by rw [h3,Nat.add_assoc],?_,by omega⟩
     rw [en,if_neg (by omega),if_pos (by omega),Nat.add_sub_cancel_left];exact h4
   ·exact .inl ⟨by omega,by rw [ahd,if_neg c1,if_neg c2]⟩
theorem en_ahd:∀(t:Tr) (o j:Nat) (p:V) (a b:Nat),j < t.size→en t o j=.pair a b→o≤a∧o≤b∧a < o+j∧b < o+j∧a < b∧ahd t o (a-o) p=.int ((o+j:Nat):Int)∧ahd t o (b-o) p=.int ((o+j:Nat):Int)
 | .leaf _,o,j,p,a,b,h,e=>by rw [en] at e;cases e
 | .node l r,o,j,p,a,b,h,e=>by
  have es:(Tr.node l r).size=l.size+r.size+1:=rfl
  have lp:=l.size_pos
  have rp:=r.size_pos
  by_cases c1:j < l.size
  ·rw [en,if_pos c1] at e
   obtain⟨h1,h2,h3,h4,h5,h6,h7⟩:=en_ahd l o j (.int (o+l.size+r.size:Nat)) a b c1 e
   refine⟨h1,h2,h3,h4,h5,?_,?_⟩
   ·rw [ahd,if_pos (by omega)];exact h6
   ·rw [ahd,if_pos (by omega)];exact h7
  ·by_cases c2:j < l.size+r.size
   ·rw [en,if_neg c1,if_pos c2] at e
    obtain⟨h1,h2,h3,h4,h5,h6,h7⟩:=en_ahd r (o+l.size) (j-l.size) (.int (o+l.size+r.size:Nat)) a b (by omega) e
    refine⟨by omega,by omega,by omega,by omega,h5,?_,?_⟩
    ·rw [ahd,if_neg (by omega),if_pos (by omega),Nat.sub_sub,h6,show o+l.size+(j-l.size)=o+j by omega]
    ·rw [ahd,if_neg (by omega),if_pos (by omega),Nat.sub_sub,h7,show o+l.size+(j-l.size)=o+j by omega]
   ·rw [en,if_neg c1,if_neg c2] at e
    injection e with e1 e2
    subst e1
    subst e2
    have hj:j=l.size+r.size:=by omega
    subst hj
    have root:∀(t:Tr) (o:Nat) (p:V),ahd t o (t.size-1) p=p:=fun t o p=>by
     have tp:=t.size_pos
     rcases ahd_en t o (t.size-1) p (by omega) with⟨_,h⟩ | ⟨a,_,_,h1,h2,_⟩
     ·exact h
     ·omega
    refine⟨by omega,by omega,by omega,by omega,by omega,?_,?_⟩
    ·rw [ahd,if_pos (by omega),show o+l.size-1-o=l.size-1 by omega,root,Nat.add_assoc]
    ·rw [ahd,if_neg (by omega),if_pos (by omega),show o+l.size+r.size-1-o-l.size=r.size-1 by omega,root,Nat.add_assoc]
structure DD (t:Tr) (ds:List Int):Prop where
 len:ds.length=t.size
 leaf:∀j w,j < t.size→en t 0 j=.word w→ds.getD j 0=0
 pair:∀j a b,j < t.size→en t 0 j=.pair a b→ds.getD a 0 < ds.getD j 0∧ds.getD b 0 < ds.getD j 0∧1≤ds.getD j 0
 nd:(spD t ds).Nodup
theorem DD.of {t:Tr}{ds:List Int} (h:isDb t ds=true):DD t ds:=by
 unfold isDb at h
 rw [Bool.and_eq_true,Bool.and_eq_true,decide_eq_true_iff,decide_eq_true_iff] at h
 obtain⟨h1,h2,h3⟩:=h
 have h4:∀j,j < t.size→okJ t ds j=true:=fun j hj=>List.all_eq_true.mp h3 j (List.mem_range.mpr hj)
 refine⟨h1,fun j w hj e=>?_,fun j a b hj e=>?_,h2⟩
 ·have:=h4 j hj
  unfold okJ at this
  rw [e] at this
  exact eq_of_beq this
 ·have:=h4 j hj
  unfold okJ at this
  rw [e] at this
  have this:(decide (ds.getD a 0 < ds.getD j 0)&&decide (ds.getD b 0 < ds.getD j 0)&&decide (1≤ds.getD j 0)&&decide (ds.getD j 0≤99))=true:=this
  rw [Bool.and_eq_true,Bool.and_eq_true,Bool.and_eq_true,decide_eq_true_iff,decide_eq_true_iff,decide_eq_true_iff,decide_eq_true_iff] at this
  exact⟨this.1.1.1,this.1.1.2,this.1.2⟩
theorem DD.mem {t:Tr}{ds:List Int} (D:DD t ds) {j:Nat} (hj:j < t.size):ds.getD j 0∈begs t ds:=by
 unfold begs
 cases e:en t 0 j with
 | word w=>rw [D.leaf j w hj e];exact .head _
 | pair a b=>
  refine List.mem_cons_of_mem _ (mem_sort'.mpr ?_)
  unfold spD splits
  exact List.mem_map.mpr ⟨j,List.mem_filter.mpr ⟨List.mem_range.mpr hj,by rw [e];rfl⟩,rfl⟩
theorem sort_le' (l:List Int):(sortI l).Pairwise (·≤·):=(List.pairwise_mergeSort (le:=fun a b=>decide (a≤b)) (fun a b c=>by simp;omega) (fun a b=>by simp;omega) l).imp (by simp)
theorem DD.inc {t:Tr}{ds:List Int} (D:DD t ds):(begs t ds).Pairwise (· < ·):=by
 unfold begs
 refine List.pairwise_cons.mpr ⟨fun x hx=>?_,?_⟩
 ·have hx:=mem_sort'.mp hx
  unfold spD splits at hx
  obtain⟨j,hj,rfl⟩:=List.mem_map.mp hx
  obtain⟨h1,h2⟩:=List.mem_filter.mp hj
  cases e:en t 0 j with
  | word w=>rw [e] at h2;cases h2
  | pair a b=>have:=(D.pair j a b (List.mem_range.mp h1) e).2.2;omega
 ·have nd:(sortI (spD t ds)).Nodup:=(List.mergeSort_perm _ _).nodup_iff.mpr D.nd
  exact (List.Pairwise.and (sort_le' _) nd).imp fun ⟨h1,h2⟩=>Int.lt_iff_le_and_ne.mpr ⟨h1,h2⟩
theorem inc_pred {l:List Int} (h:l.Pairwise (· < ·)) {n:Nat} (hn:n < l.length) {x:Int} (hx:x∈l) (lt:x < l.getD n 0):1≤n∧x≤l.getD (n-1) 0:=by
 obtain⟨i,hi,rfl⟩:=List.getElem_of_mem hx
 have gd:∀{k} (hk:k < l.length),l.getD k 0=l[k]:=fun {k} hk=>by rw [List.getD_eq_getElem?_getD,List.getElem?_eq_getElem hk];rfl
 rw [gd hn] at lt
 have c:i < n:=by
  rcases Nat.lt_or_ge i n with c | c
  ·exact c
  ·rcases Nat.eq_or_lt_of_le c with c | c
   ·subst c;omega
   ·have:=List.pairwise_iff_getElem.mp h _ _ hn hi c;omega
 refine⟨by omega,?_⟩
 rw [gd (by omega)]
 rcases Nat.eq_or_lt_of_le (show i≤n-1 by omega) with c2 | c2
 ·subst c2;exact Int.le_refl _
 ·have:=List.pairwise_iff_getElem.mp h _ _ hi (by omega) c2;omega
theorem inc_lt {l:List Int} (h:l.Pairwise (· < ·)) {i n:Nat} (hn:n < l.length) (hi:i < n):l.getD i 0 < l.getD n 0:=by
 have gd:∀{k} (hk:k < l.length),l.getD k 0=l[k]:=fun {k} hk=>by rw [List.getD_eq_getElem?_getD,List.getElem?_eq_getElem hk];rfl
 rw [gd hn,gd (by omega)]
 exact List.pairwise_iff_getElem.mp h _ _ (by omega) hn hi
theorem standN_iff {t:Tr}{ds bs:List Int}:∀{m:Nat}{j n:Nat},(j,n)∈standN t ds bs m↔n < m∧j < t.size∧stB t ds (bs.getD n 0) j=true
 | 0,j,n=>by simp [standN]
 | m+1,j,n=>by
  rw [standN,List.mem_append,standN_iff]
  unfold stL
  rw [List.mem_map]
  constructor
  ·rintro (⟨h1,h2,h3⟩ | ⟨k,hk,e⟩)
   ·exact⟨by omega,h2,h3⟩
   ·obtain⟨h1,h2⟩:=List.mem_filter.mp hk
    injection e with e1 e2
    subst e1
    subst e2
    exact⟨by omega,List.mem_range.mp h1,h2⟩
  ·rintro⟨h1,h2,h3⟩
   by_cases c:n=m
   ·subst c;exact .inr ⟨j,List.mem_filter.mpr ⟨List.mem_range.mpr h2,h3⟩,rfl⟩
   ·exact .inl ⟨by omega,h2,h3⟩
theorem stB_iff {t:Tr}{ds:List Int}{b:Int}{j:Nat} (hj:j < t.size):stB t ds b j=true↔ds.getD j 0≤b∧∀a,ahd t 0 j .non=.int ((a:Nat):Int)→b < ds.getD a 0:=by
 unfold stB
 rw [Bool.and_eq_true,decide_eq_true_iff]
 rcases ahd_en t 0 j .non hj with⟨_,e⟩ | ⟨a,u,v,_,ha,e,_,_⟩
 ·rw [e];exact⟨fun h=>⟨h.1,fun a z=>by cases z⟩,fun h=>⟨h.1,rfl⟩⟩
 ·rw [Nat.zero_add] at e
  rw [e]
  refine⟨fun h=>⟨h.1,fun a' z=>?_⟩,fun h=>⟨h.1,?_⟩⟩
  ·injection z with z
   have:a=a':=by omega
   subst this
   simpa using h.2
  ·simpa using h.2 a rfl
theorem DD.ok {t:Tr}{ds:List Int} (D:DD t ds):okD t ds (begs t ds):=by
 rintro⟨j,n⟩ hp x hx
 obtain⟨hn,hj,hs⟩:=standN_iff.mp hp
 obtain⟨hs1,hs2⟩:=(stB_iff hj).mp hs
 have inc:=D.inc
 show 1≤n∧(x,n-1)∈_
 unfold bel at hx
 by_cases c:ds.getD j 0 < (begs t ds).getD n 0
 ·rw [if_pos c] at hx
  have:x=j:=by simpa using hx
  subst this
  obtain⟨g1,g2⟩:=inc_pred inc hn (D.mem hj) c
  have lt:=inc_lt inc hn (show n-1 < n by omega)
  exact⟨g1,standN_iff.mpr ⟨by omega,hj,(stB_iff hj).mpr ⟨g2,fun a e=>by have:=hs2 a e;omega⟩⟩⟩
 ·rw [if_neg c] at hx
  cases e:en t 0 j with
  | word w=>rw [e] at hx;cases hx
  | pair a b=>
   rw [e] at hx
   obtain⟨p1,p2,p3⟩:=D.pair j a b hj e
   obtain⟨_,_,a1,a2,_,a3,a4⟩:=en_ahd t 0 j .non a b hj e
   rw [Nat.zero_add,Nat.sub_zero] at *
   have hx:x=a∨x=b:=by simpa using hx
   have eq:ds.getD j 0=(begs t ds).getD n 0:=by omega
   have key:x < t.size∧ds.getD x 0 < ds.getD j 0∧ahd t 0 x .non=.int ((j:Nat):Int):=by
    rcases hx with rfl | rfl
    ·exact⟨by omega,p1,a3⟩
    ·exact⟨by omega,p2,a4⟩
   obtain⟨k1,k2,k3⟩:=key
   obtain⟨g1,g2⟩:=inc_pred inc hn (D.mem k1) (by omega)
   have lt:=inc_lt inc hn (show n-1 < n by omega)
   refine⟨g1,standN_iff.mpr ⟨by omega,k1,(stB_iff k1).mpr ⟨g2,fun a' e'=>?_⟩⟩⟩
   rw [k3] at e'
   injection e' with e'
   have:j=a':=by omega
   subst this
   omega
theorem en_zero:∀(t:Tr) (o:Nat),∃w,en t o 0=.word w
 | .leaf w,o=>⟨w,rfl⟩
 | .node l r,o=>by rw [en,if_pos (show 0 < l.size from l.size_pos)];exact en_zero l o
theorem DD.ne {t:Tr}{ds:List Int} (D:DD t ds):standN t ds (begs t ds) (begs t ds).length≠[]:=by
 intro z
 have:(0,0)∈standN t ds (begs t ds) (begs t ds).length:=by
  obtain⟨w,e⟩:=en_zero t 0
  refine standN_iff.mpr ⟨by simp [begs],t.size_pos,(stB_iff t.size_pos).mpr ⟨?_,fun a ea=>?_⟩⟩
  ·rw [D.leaf 0 w t.size_pos e];exact Int.le_refl _
  ·rcases ahd_en t 0 0 .non t.size_pos with⟨_,e⟩ | ⟨a',u,v,_,ha,e,ep,_⟩
   ·rw [e] at ea;cases ea
   ·rw [e,Nat.zero_add] at ea
    injection ea with ea
    have:a'=a:=by omega
    subst this
    have:=(D.pair a' u v ha ep).2.2
    show (0:Int) < _
    omega
 rw [z] at this
 cases this
theorem dated_ok {t:Tr}{ds:List Int} (D:DD t ds) (hz:t.size≤25):(m_dated t.pv (.tup (intP ds))).le (.ret (.tup (dgL t ds (begs t ds)))):=dated_le t ds D.len hz D.ne D.ok
end My
set_option Elab.async false
set_option linter.all false
set_option maxRecDepth 100000
namespace My
open PySem PySem.Spec PyProof.Rows L2 PL FL
theorem Dt.isD {t:Tr}{ds:List Int}{d:Int} (D:Dt t ds [] d) (h:d≤99):isDb t ds=true:=by
 unfold isDb
 rw [Bool.and_eq_true,Bool.and_eq_true,decide_eq_true_iff,decide_eq_true_iff]
 refine⟨D.len,?_,List.all_eq_true.mpr fun j hj=>?_⟩
 ·unfold spD
  have hp:(splits t).Pairwise (· < ·):=by unfold splits;exact List.Pairwise.filter _ List.pairwise_lt_range
  rw [List.nodup_iff_pairwise_ne,List.pairwise_map]
  refine List.Pairwise.imp_of_mem (fun {x y} hx hy lt e=>?_) hp
  obtain⟨x1,x2⟩:=List.mem_filter.mp hx
  obtain⟨y1,y2⟩:=List.mem_filter.mp hy
  have:=D.inj x y (List.mem_range.mp x1) (List.mem_range.mp y1) (by simp) (by simp) x2 y2 e
  omega
 ·have hj':=List.mem_range.mp hj
  unfold okJ
  cases e:en t 0 j with
  | word w=>
   show (ds.getD j 0==0)=true
   rw [D.zero j hj' (.inl (by rw [e];rfl))];rfl
  | pair a b=>
   obtain⟨_,_,h1,h2,h3,h4⟩:=D.up j hj' (by simp) a b e
   show (decide (ds.getD a 0 < ds.getD j 0)&&decide (ds.getD b 0 < ds.getD j 0)&&decide (1≤ds.getD j 0)&&decide (ds.getD j 0≤99))=true
   rw [decide_eq_true h1,decide_eq_true h2,decide_eq_true h3,decide_eq_true (by omega)];rfl
theorem count_pr:∀(t:Tr) (o:Nat),(t.nd o).countP isPr+1=t.leaves.length
 | .leaf _,_=>rfl
 | .node l r,o=>by
  have h1:=count_pr l o
  have h2:=count_pr r (o+l.size)
  rw [Tr.nd,List.countP_append,List.countP_append]
  show _+(List.countP isPr [Ent.pair _ _])+1=(l.leaves++r.leaves).length
  rw [List.length_append]
  simp [isPr]
  omega
theorem nd_map (t:Tr):t.nd 0=(List.range t.size).map (en t 0):=by
 refine List.ext_getElem? fun j=>?_
 by_cases h:j < t.size
 ·rw [nd_en t 0 j h,List.getElem?_map,List.getElem?_range h];rfl
 ·rw [List.getElem?_eq_none (by rw [t.nd_len];omega),List.getElem?_eq_none (by simp;omega)]
theorem splits_len (t:Tr):(splits t).length+1=t.leaves.length:=by
 rw [← count_pr t 0,nd_map t,List.countP_map]
 unfold splits
 rw [← List.countP_eq_length_filter];rfl
end My
set_option Elab.async false
set_option linter.all false
set_option maxRecDepth 100000
namespace My
open PySem PySem.Spec PyProof.Rows L2 PL FL
inductive Sm:Nat→PV→Prop
 | str {n s}:Sm (n+1) (.str s)
 | int {n i}:Sm (n+1) (.int i)
 | tup {n l}:(∀x∈l,Sm n x)→l.length≤900→Sm (n+1) (.tup l)
theorem zip_self:∀l:List PV,zipV l l=l.map fun x=>PV.tup [x,x]
 | []=>by rw [zipV];rfl;simp
 | x::l=>by rw [zipV,zip_self l];rfl
theorem same_self:∀{n:Nat}{x:PV},Sm n x→(m__law_same n x x).le (.ret (.bl true))
 | _,_,@Sm.str n s=>fun Q q=>by
  unfold m__law_same
  have e:of2 oEqF (.str s) (.str s)=.ret (.bl true):=by rw [ev_eq,W.chk_pos ⟨by simp,by simp,by simp⟩,feqSS];simp
  simp only [W.ret_bind,W.run_bind,ev_isiS,ev_kdTS,ev_truB,W.run_ret,Bool.false_eq_true,if_false,ev_kdSS,if_true,ev_eqB,beq_self_eq_true,ev_andT,e]
  exact q
 | _,_,@Sm.int n i=>fun Q q=>by
  unfold m__law_same
  simp only [W.ret_bind,W.run_bind,ev_isiI,ev_kdTI,ev_kdSI,ev_truB,W.run_ret,Bool.false_eq_true,if_false,ev_isN,PV.isNon,ev_asB,ev_kdII,ev_kdBI,ev_not,Bool.not_false,ev_andT,ev_eqI,beq_self_eq_true]
  exact q
 | _,_,@Sm.tup n l h hl=>fun Q q=>by
  unfold m__law_same
  simp only [W.ret_bind,W.run_bind,ev_isiT,ev_kdTT,ev_truB,W.run_ret,if_true,Bool.not_true,Bool.false_eq_true,if_false,ev_lenT,ev_neI,beq_self_eq_true,ev_asB,ev_seqT]
  refine⟨small' (by omega),?_⟩
  show (mapW (zipV l l) _).run _
  rw [zip_self]
  refine map_run (fun _=>.bl true) (fun x hx R r=>?_) ?_
  ·simp only [ev_un2,W.ret_bind,W.run_bind]
   exact same_self (h x hx) R r
  ·have e:l.map (fun _=>PV.bl true)=(l.map fun _=>true).map PV.bl:=by rw [List.map_map];rfl
   rw [e,allW_bl]
   have e2:(l.map fun _=>true).all id=true:=by simp
   rw [e2]
   exact q
theorem lahead_le (t:Tr) (hz:t.size≤900):(m__law_ahead (.cl ((t.nd 0).map Ent.pv))).le (.ret (ahL t)):=fun Q q=>by
 unfold m__law_ahead
 have c:((t.nd 0).map Ent.pv).length≤sizeLine:=small' (by rw [nd_pv_len];omega)
 have e0:repW [PV.non] (.int ((t.nd 0).map Ent.pv).length)=.ret ((ah ((t.nd 0).take 0) 0 (List.replicate t.size V.non)).map vp):=by
  rw [ev_rep,W.chk_pos ⟨by omega,by rw [nd_pv_len];omega,small' (by simp [t.nd_len];omega)⟩,nd_pv_len,Int.toNat_natCast,List.take_zero,ah,List.map_replicate]
  congr 1
  simp [vp]
 simp only [W.ret_bind,W.run_bind,ev_lenC,e0,W.run_ret,ev_seqC,W.chk_pos c]
 refine forW_ix (fun i s=>s=(ah ((t.nd 0).take i) 0 (List.replicate t.size V.non)).map vp) rfl (fun i x s hx hs=>?_) (fun s hs=>?_)
 ·subst hs
  have hi:i < t.size:=by have:=(List.getElem?_eq_some_iff.mp hx).1;rw [enumV_len,nd_pv_len] at this;exact this
  obtain⟨y,hy,rfl⟩:=enumV_get hx
  have e:=nd_en t 0 i hi
  rw [List.getElem?_map,e] at hy
  have hy:(en t 0 i).pv=y:=Option.some.inj hy
  subst hy
  have et:(t.nd 0).take (i+1)=(t.nd 0).take i++[en t 0 i]:=by rw [List.take_succ,e];rfl
  have ea:ah ((t.nd 0).take (i+1)) 0 (List.replicate t.size V.non)=ahS (ah ((t.nd 0).take i) 0 (List.replicate t.size V.non)) (0+i) (en t 0 i):=by
   rw [et,ah_snoc,List.length_take,t.nd_len];congr 1;omega
  have hal:(ah ((t.nd 0).take i) 0 (List.replicate t.size V.non)).length=t.size:=by rw [ah_len,List.length_replicate]
  rw [ea]
  generalize hA:ah ((t.nd 0).take i) 0 (List.replicate t.size V.non)=A at hal ⊢
  cases en':en t 0 i with
  | word w=>simp [Ent.pv,ahS]
  | pair a b=>
   obtain⟨ha,hb⟩:=en_halves t hi en'
   have s1:setW (A.map vp) (.int (a:Int)) (.int ((0+i:Nat):Int))=.ret ((A.map vp).set a (.int ((0+i:Nat):Int))):=set_nat (by rw [List.length_map];omega)
   have s2:setW ((A.map vp).set a (.int ((0+i:Nat):Int))) (.int (b:Int)) (.int ((0+i:Nat):Int))=.ret (((A.map vp).set a (.int ((0+i:Nat):Int))).set b (.int ((0+i:Nat):Int))):=set_nat (by rw [List.length_set,List.length_map];omega)
   have j0:atI [PV.int (a:Int),PV.int (b:Int)] 0=some (.int a):=rfl
   have j1:atI [PV.int (a:Int),PV.int (b:Int)] 1=some (.int b):=rfl
   simp only [Ent.pv,ev_un2,W.run_ret,ev_isiT,ev_kdST,ev_truB,W.run_bind,Bool.not_false,if_true,ev_seqT,W.ret_bind,ev_ix,j0,j1,W.ofO_some,s1,s2]
   show _=List.map vp ((A.set a _).set b _)
   rw [List.map_set,List.map_set];rfl
 ·subst hs
  rw [enumV_len,nd_pv_len,List.take_of_length_le (by rw [t.nd_len];exact Nat.le_refl _)]
  exact q
theorem addK_mem {ks:List Int}{n x:Int}:x∈addK ks n↔x∈ks∨x=n:=by
 unfold addK
 split
 ·exact⟨.inl,fun h=>h.elim id fun e=>e▸‹_›⟩
 ·simp
theorem addK_nd {ks:List Int}{n:Int} (h:ks.Nodup):(addK ks n).Nodup:=by
 unfold addK
 split
 ·exact h
 ·refine List.nodup_append.mpr ⟨h,by simp,fun a ha b hb z=>?_⟩
  rw [List.mem_singleton.mp hb] at z
  subst z
  exact absurd ha ‹_›
theorem fold_mem {x:Int}:∀(ns ks:List Int),x∈ns.foldl addK ks↔x∈ks∨x∈ns
 | [],ks=>by simp
 | n::ns,ks=>by
  rw [List.foldl_cons,fold_mem ns,addK_mem,List.mem_cons,or_assoc]
theorem fold_nd:∀(ns ks:List Int),ks.Nodup→(ns.foldl addK ks).Nodup
 | [],ks,h=>h
 | n::ns,ks,h=>by rw [List.foldl_cons];exact fold_nd ns _ (addK_nd h)
theorem once_mem {ns:List Int}{x:Int}:x∈onceI ns↔x∈ns:=by unfold onceI;rw [fold_mem];simp
theorem DD.begs_eq {t:Tr}{ds:List Int} (D:DD t ds):sortI (onceI ds)=begs t ds:=by
 have inc:=D.inc
 refine (sortI_of ((List.perm_ext_iff_of_nodup (inc.imp fun h=>by omega) (fold_nd ds [] List.nodup_nil)).mpr fun x=>?_) (inc.imp fun h=>by omega)).symm
 show x∈begs t ds↔x∈onceI ds
 rw [once_mem]
 have gm:∀j,j < t.size→ds.getD j 0∈ds:=fun j hj=>by
  have hj:j < ds.length:=by rw [D.len];exact hj
  rw [List.getD_eq_getElem?_getD,List.getElem?_eq_getElem hj];exact List.getElem_mem hj
 constructor
 ·intro h
  unfold begs at h
  rcases List.mem_cons.mp h with rfl | h
  ·obtain⟨w,e⟩:=en_zero t 0
   have:=gm 0 t.size_pos
   rw [D.leaf 0 w t.size_pos e] at this
   exact this
  ·have h:=mem_sort'.mp h
   unfold spD splits at h
   obtain⟨j,hj,rfl⟩:=List.mem_map.mp h
   exact gm j (List.mem_range.mp (List.mem_filter.mp hj).1)
 ·intro h
  obtain⟨j,hj,rfl⟩:=List.getElem_of_mem h
  have:=D.mem (j:=j) (by rw [← D.len];exact hj)
  rw [List.getD_eq_getElem?_getD,List.getElem?_eq_getElem hj] at this
  exact this
theorem ext_one (P:List (Nat×Nat)) (hP:P.length≤900) (j i:Nat) (c:Bool):(W.bind (repW [PV.tup [.int (j:Int),.int (i:Int)]] (.int (if c then 1 else 0))) fun l=>extW (prP P) l)=.ret (prP (P++if c=true then [(j,i)] else [])):=by
 have hl:(prP P).length≤900:=by unfold prP;rw [List.length_map];exact hP
 cases c with
 | true=>
  rw [ev_rep,W.chk_pos ⟨by decide,by decide,small' (by simp)⟩]
  show extW _ _=_
  unfold extW
  rw [W.chk_pos (small' (by simp;omega)),if_pos rfl,prP_app]
  rfl
 | false=>
  rw [ev_rep,W.chk_pos ⟨by decide,by decide,small' (by simp)⟩]
  show extW _ _=_
  unfold extW
  rw [W.chk_pos (small' (by simp;omega))]
  simp
theorem lstanding_le {t:Tr}{ds:List Int} (D:DD t ds) (hz:t.size≤25):(m__law_standing (.cl ((t.nd 0).map Ent.pv)) (.tup (intP ds))).le (.ret (.tup [.cl (intP (begs t ds)),.cl (prP (standN t ds (begs t ds) (begs t ds).length))])):=fun Q q=>by
 have hd:=D.len
 have hs:=spD_len t ds
 have hl:(begs t ds).length≤t.size+1:=by unfold begs;rw [List.length_cons,sort_len'];omega
 have hb:(begs t ds).length*t.size≤900:=by
  have:(begs t ds).length*t.size≤26*25:=Nat.mul_le_mul (by omega) hz
  omega
 have c1:(intP (begs t ds)).length≤sizeLine:=small' (by rw [intP_len];omega)
 unfold m__law_standing
 simp only [W.ret_bind,W.run_bind]
 refine W.le.use (lahead_le t (by omega)) ?_
 simp only [ev_seqT,W.run_ret]
 unfold intP
 refine map_run (fun d:Int=>pairI (d,.bl true)) (fun d _ R r=>r) ?_
 have em:(ds.map fun d=>pairI (d,.bl true))=(ds.map fun d=>(d,PV.bl true)).map pairI:=by rw [List.map_map];rfl
 have ek:(ds.map fun d=>(d,PV.bl true)).map (·.1)=ds:=by rw [List.map_map];exact List.map_id ds
 rw [em]
 refine sortD_run (by rw [List.length_map];omega) ?_ ?_
 ·rw [ek,← sort_len',D.begs_eq];omega
 rw [ek,D.begs_eq]
 change (_:W _).run _
 have e1:(begs t ds).map PV.int=intP (begs t ds):=rfl
 have e2:ds.map PV.int=intP ds:=rfl
 rw [e1,e2]
 simp only [ev_seqC,W.run_ret,W.chk_pos c1]
 refine forW_ix (fun i s=>s=prP (standN t ds (begs t ds) i)) rfl (fun i x s hx hs=>?_) (fun s hs=>?_)
 ·subst hs
  obtain⟨hi,rfl⟩:=enum_int (begs t ds) hx
  have hl2:=standN_len t ds (begs t ds) i
  have hm:i*t.size+t.size≤900:=by
   have:(i+1)*t.size≤(begs t ds).length*t.size:=Nat.mul_le_mul_right _ hi
   rw [Nat.succ_mul] at this;omega
  simp only [ev_un2,W.run_ret,W.run_bind,ev_lenC,nd_pv_len,ev_rng1,W.chk_pos (okN_small (i:=0) (j:=(t.size:Int)) (by omega) (by omega)),Int.toNat_natCast]
  refine forW_rng (fun j s=>s=prP (standN t ds (begs t ds) i++stL t ds ((begs t ds).getD i 0) i j)) (by simp [stL]) (fun j s hj hs=>?_) (fun s hs=>hs)
  subst hs
  have hl3:=stL_len t ds ((begs t ds).getD i 0) i j
  rw [stL_succ]
  have i1:atI (intP ds) (j:Int)=some (.int (ds.getD j 0)):=int_at (by omega)
  have fin:∀c:Bool,stB t ds ((begs t ds).getD i 0) j=c→(W.bind (repW [PV.tup [.int (j:Int),.int (i:Int)]] (.int (if c then 1 else 0))) fun l24=>extW (prP (standN t ds (begs t ds) i++stL t ds ((begs t ds).getD i 0) i j)) l24).run fun s=>s=prP (standN t ds (begs t ds) i++(stL t ds ((begs t ds).getD i 0) i j++if stB t ds ((begs t ds).getD i 0) j=true then [(j,i)] else [])):=fun c hc=>by
   rw [hc,ext_one _ (by rw [List.length_append];omega),List.append_assoc]
   rfl
  generalize eb:(begs t ds).getD i 0=b at fin ⊢
  simp only [W.ret_bind,W.run_bind,ev_seqC,ev_seqT,ix_nat (ahL_get t hj),W.run_ret,ev_ix,i1,W.ofO_some,ev_le]
  generalize ed:ds.getD j 0=d at *
  by_cases c:d≤b
  ·simp only [c,decide_true,ev_andT]
   rcases up_ahd t 0 j .non [] hj with⟨_,e,_⟩ | ⟨a,_,ha,e,_⟩
   ·have sb:stB t ds b j=true:=by unfold stB;rw [e,ed];simp [c]
    rw [e]
    simp only [vp,ev_isN,PV.isNon,W.ret_bind,ev_orT,W.run_ret,ev_intB]
    exact fin true sb
   ·rw [Nat.zero_add] at e
    have sb:stB t ds b j=decide (b < ds.getD a 0):=by unfold stB;rw [e,ed];simp [c]
    rw [e]
    have i2:atI (intP ds) (a:Int)=some (.int (ds.getD a 0)):=int_at (by omega)
    simp only [vp,ev_isN,PV.isNon,W.ret_bind,ev_orF,ev_ix,i2,W.ofO_some,ev_gt,W.run_ret,ev_intB]
    exact fin _ sb
  ·have sb:stB t ds b j=false:=by unfold stB;rw [ed];simp [c]
   simp only [c,decide_false,ev_andF,W.run_ret,ev_intB]
   exact fin false sb
 ·subst hs
  rw [enumV_len,intP_len]
  exact q
def prV (p:Nat×Nat):PV:=.tup [.int (p.1:Int),.int (p.2:Int)]
theorem prP_eq (l:List (Nat×Nat)):prP l=l.map prV:=rfl
theorem feq_pr (p q:Nat×Nat):feq (prV q) (prV p)=(q==p):=by
 unfold prV
 simp only [feqTT,feqs11,feqII,feqs00,Bool.and_true]
 obtain⟨a,b⟩:=p
 obtain⟨c,d⟩:=q
 rw [Bool.eq_iff_iff]
 simp
 constructor
 ·rintro⟨h1,h2⟩;exact⟨by omega,by omega⟩
 ·rintro⟨h1,h2⟩;exact⟨by omega,by omega⟩
theorem idx_pr {l:List (Nat×Nat)}{p:Nat×Nat} (h:p∈l):idxW (prP l) (prV p)=.ret (.int ((l.idxOf p:Nat):Int)):=by
 unfold idxW
 have ok:inOk (prV p) (prP l):=⟨by simp [prV],fokL_iff.mpr fun x hx=>by
  obtain⟨q,_,rfl⟩:=List.mem_map.mp hx
  simp,fdepL_le fun x hx=>by
  obtain⟨q,_,rfl⟩:=List.mem_map.mp hx
  simp⟩
 have hs:hasF (prV p) (prP l)=true:=by
  unfold hasF
  rw [prP_eq,List.any_map,List.any_eq_true]
  exact⟨p,h,by simp only [Function.comp,feq_pr];simp⟩
 rw [W.chk_pos ⟨ok,hs⟩]
 congr 3
 unfold idxF List.idxOf
 rw [prP_eq,List.findIdx_map]
 congr 1
 funext q
 simp only [Function.comp,feq_pr]
theorem zip_idx {l:List (Nat×Nat)} (nd:l.Nodup):∀p∈l.zipIdx 0,p.2=l.idxOf p.1:=fun p hp=>by
 obtain⟨a,i⟩:=p
 have h:=List.mem_zipIdx_iff_getElem?.mp hp
 obtain⟨hi,e⟩:=List.getElem?_eq_some_iff.mp h
 show i=l.idxOf a
 have e:l[i]=a:=e
 rw [← e]
 exact (nd.idxOf_getElem i hi).symm
theorem fm_congr {α β:Type}{f g:α→Option β}:∀{l:List α},(∀x∈l,f x=g x)→l.filterMap f=l.filterMap g
 | [],_=>rfl
 | x::l,h=>by rw [List.filterMap_cons,List.filterMap_cons,h x (.head _),fm_congr fun y hy=>h y (.tail _ hy)]
theorem zip_fm {c:Nat×Nat→Bool}{l:List (Nat×Nat)} (nd:l.Nodup):(l.zipIdx 0).filterMap (fun p=>if c p.1=true then some (PV.int ((p.2:Nat):Int)) else none)=natP ((l.filter c).map fun p=>l.idxOf p):=by
 have e1:(l.zipIdx 0).filterMap (fun p=>if c p.1=true then some (PV.int ((p.2:Nat):Int)) else none)=(l.zipIdx 0).filterMap (fun p=>if c p.1=true then some (PV.int ((l.idxOf p.1:Nat):Int)) else none):=fm_congr fun p hp=>by rw [zip_idx nd p hp]
 have e2:(l.zipIdx 0).filterMap (fun p=>if c p.1=true then some (PV.int ((l.idxOf p.1:Nat):Int)) else none)=((l.zipIdx 0).map (·.1)).filterMap (fun p=>if c p=true then some (PV.int ((l.idxOf p:Nat):Int)) else none):=by rw [List.filterMap_map];rfl
 rw [e1,e2,List.zipIdx_map_fst,fm_if]
 unfold natP
 rw [List.map_map];rfl
theorem ldated_le {t:Tr}{ds:List Int} (D:DD t ds) (hz:t.size≤25) (hdp:t.depth < 9):(m__law_dated_ground t.pv (.tup (intP ds))).le (.ret (.tup (dgL t ds (begs t ds)))):=fun Q q=>by
 have hd:=D.len
 have hs:=spD_len t ds
 have hl:(begs t ds).length≤t.size+1:=by unfold begs;rw [List.length_cons,sort_len'];omega
 have hb:(begs t ds).length*t.size≤900:=by
  have:(begs t ds).length*t.size≤26*25:=Nat.mul_le_mul (by omega) hz
  omega
 have ok:=D.ok
 unfold okD at ok
 unfold dgL at q
 unfold m__law_dated_ground
 simp only [W.ret_bind,W.run_bind]
 refine W.le.use (lnodes_le 9 t hdp (by omega)) ?_
 refine W.le.use (lstanding_le D hz) ?_
 have hLm:∀p∈standN t ds (begs t ds) (begs t ds).length,p.2 < (begs t ds).length∧p.1 < t.size∧ds.getD p.1 0≤(begs t ds).getD p.2 0:=fun p hp=>by
  obtain⟨h1,h2,h3⟩:=standN_iff.mp (show (p.1,p.2)∈_ from hp)
  exact⟨h1,h2,((stB_iff h2).mp h3).1⟩
 have nd:=standN_nodup t ds (begs t ds) (begs t ds).length
 have hLl:(standN t ds (begs t ds) (begs t ds).length).length≤900:=Nat.le_trans (standN_len _ _ _ _) hb
 generalize standN t ds (begs t ds) (begs t ds).length=L at *
 have c:(prP L).length≤sizeLine:=small' (by unfold prP;rw [List.length_map];omega)
 simp only [ev_un2,W.run_ret,ev_seqC,W.run_bind]
 refine forW_ix (fun i s=>s=(L.take i).map fun p=>dstay (en t 0 p.1) L p.1 p.2 (ds.getD p.1 0) ((begs t ds).getD p.2 0)) rfl (fun i x s hx hs=>?_) (fun s hs=>?_)
 ·subst hs
  rw [prP_eq,List.getElem?_map] at hx
  cases ei:L[i]? with
  | none=>rw [ei] at hx;cases hx
  | some p=>
  rw [ei] at hx
  have ex:prV p=x:=Option.some.inj hx
  subst ex
  have hp:p∈L:=List.mem_of_getElem? ei
  have hi:i < L.length:=(List.getElem?_eq_some_iff.mp ei).1
  obtain⟨j,n⟩:=p
  obtain⟨g1,g2,g3⟩:=hLm _ hp
  have okp:=ok _ hp
  replace g1:n < (begs t ds).length:=g1
  replace g2:j < t.size:=g2
  replace g3:ds.getD j 0≤(begs t ds).getD n 0:=g3
  replace okp:∀x∈bel (en t 0 j) j (ds.getD j 0) ((begs t ds).getD n 0),1≤n∧(x,n-1)∈L:=okp
  have et:L.take (i+1)=L.take i++[(j,n)]:=by rw [List.take_succ,ei];rfl
  rw [et,List.map_append]
  have hsl:((L.take i).map fun p=>dstay (en t 0 p.1) L p.1 p.2 (ds.getD p.1 0) ((begs t ds).getD p.2 0)).length < 1000:=by rw [List.length_map,List.length_take];omega
  generalize (L.take i).map (fun p=>dstay (en t 0 p.1) L p.1 p.2 (ds.getD p.1 0) ((begs t ds).getD p.2 0))=S at hsl ⊢
  have i1:atI (intP ds) (j:Int)=some (.int (ds.getD j 0)):=int_at (by omega)
  have i2:atI (intP (begs t ds)) (n:Int)=some (.int ((begs t ds).getD n 0)):=int_at g1
  unfold prV
  simp only [ev_un2,W.run_ret,W.run_bind,W.ret_bind,ev_ix,nd_at' t g2,W.ofO_some,ev_seqT,ev_seqC,i1,i2,ev_eqI,ev_asB]
  have fin:∀low:List Nat,low=bel (en t 0 j) j (ds.getD j 0) ((begs t ds).getD n 0)→(W.bind (W.bind (mapW (natP low) fun p19=>W.bind (W.bind (W.ret (.cl (prP L))) lstW) fun l22=>W.bind (W.bind (W.ret p19) fun x20=>W.bind (b2 oSub (W.ret (.int (n:Int))) (W.ret (.int 1))) fun x21=>W.ret (.tup [x20,x21])) fun x23=>idxW l22 x23) tupW) fun under=>W.bind (W.bind (W.bind (W.chk ((prP L).length≤sizeLine) (W.ret (enumV 0 (prP L)))) fun l26=>lcW l26 fun p27=>W.bind (un2 p27) fun t28=>lcB (tand (t2 oEqF (ixB (W.bind (W.ret t28.2) seqW) (W.ret (.int 1))) (W.ret (.int (n:Int)))) (t2 oNeF (ixB (W.bind (W.ret t28.2) seqW) (W.ret (.int 0))) (W.ret (.int (j:Int))))) (W.ret t28.1)) tupW) fun beside=>W.bind (W.bind (iteB (W.bind (W.bind (W.ret (en t 0 j).pv) (isiW .str)) truW) (W.ret (en t 0 j).pv) (W.ret (.int (j:Int)))) fun x30=>W.ret (.tup [x30,.int (n:Int),under,beside])) fun x34=>appW S x34).run fun s=>s=S++[dstay (en t 0 j) L j n (ds.getD j 0) ((begs t ds).getD n 0)]:=fun low hlow=>by
   simp only [W.run_bind]
   refine map_nat_r (fun k=>.int ((L.idxOf (k,n-1):Nat):Int)) (fun k hk=>?_) ?_
   ·obtain⟨n1,hm⟩:=okp k (hlow▸hk)
    have en1:((n:Int)-1)=((n-1:Nat):Int):=by omega
    simp only [W.ret_bind,ev_lstC,ev_sub,en1]
    exact idx_pr (p:=(k,n-1)) hm
   ·simp only [ev_tup,W.run_ret,W.chk_pos c]
    rw [prP_eq,enum_map]
    refine lc_run (fun p:(Nat×Nat)×Nat=>if (decide (p.1.2=n)&&!decide (p.1.1=j))=true then some (PV.int ((p.2:Nat):Int)) else none) (fun p _ R r=>?_) ?_
    ·have j0:atI [PV.int (p.1.1:Int),PV.int (p.1.2:Int)] 0=some (.int (p.1.1:Int)):=rfl
     have j1:atI [PV.int (p.1.1:Int),PV.int (p.1.2:Int)] 1=some (.int (p.1.2:Int)):=rfl
     have b1:((p.1.2:Int)==(n:Int))=decide (p.1.2=n):=by rw [Bool.eq_iff_iff];simp;omega
     have b2:((p.1.1:Int)==(j:Int))=decide (p.1.1=j):=by rw [Bool.eq_iff_iff];simp;omega
     unfold prV
     simp only [ev_un2,W.ret_bind,ev_seqT,ev_ix,j0,j1,W.ofO_some,ev_eqI,ev_neI,ev_asB,b1,b2]
     cases c1:decide (p.1.2=n) with
     | false=>simpa [c1] using r
     | true=>
      cases c2:decide (p.1.1=j) with
      | false=>simpa [c1,c2] using r
      | true=>simpa [c1,c2] using r
    ·have ez:=zip_fm (c:=fun p:Nat×Nat=>decide (p.2=n)&&!decide (p.1=j)) nd
     rw [ez]
     have nm:∀{R:PV→Prop},R (nmP (en t 0 j) j)→(isiW .str (en t 0 j).pv).run fun a=>(truW a).run fun a=>(if a=true then W.ret (en t 0 j).pv else W.ret (PV.int (j:Int))).run R:=fun {R}=>by
      cases en t 0 j with
      | word w=>intro r;simpa [Ent.pv,nmP] using r
      | pair a b=>intro r;simpa [Ent.pv,nmP] using r
     refine nm ?_
     rw [app_le hsl]
     show S++[_]=S++[dstay _ _ _ _ _ _]
     unfold dstay bsd
     rw [← hlow]
     congr 4
     unfold natP
     simp only [List.map_map]
     rfl
  by_cases cq:ds.getD j 0=(begs t ds).getD n 0
  ·have cb:(ds.getD j 0==(begs t ds).getD n 0)=true:=by simpa using cq
   rw [cb]
   simp only [if_true,W.run_bind]
   cases e:en t 0 j with
   | word w=>
    have:=fin [] (by unfold bel;rw [if_neg (by omega),e])
    rw [e] at this
    simpa [Ent.pv,e] using this
   | pair a b=>
    have:=fin [a,b] (by unfold bel;rw [if_neg (by omega),e])
    rw [e] at this
    simpa [Ent.pv,e] using this
  ·have cb:(ds.getD j 0==(begs t ds).getD n 0)=false:=by simpa using cq
   rw [cb]
   have:=fin [j] (by unfold bel;rw [if_pos (by omega)])
   simpa using this
 ·subst hs
  have e:(prP L).length=L.length:=by unfold prP;rw [List.length_map]
  rw [e,List.take_length]
  exact q
theorem sm_dgL {t:Tr}{ds bs:List Int} (hb:bs.length*t.size≤900):Sm 4 (.tup (dgL t ds bs)):=by
 have hl:=standN_len t ds bs bs.length
 refine .tup (fun x hx=>?_) (by unfold dgL;rw [List.length_map];omega)
 unfold dgL at hx
 obtain⟨p,hp,rfl⟩:=List.mem_map.mp hx
 unfold dstay
 have nat:∀l:List Nat,l.length≤900→Sm 2 (.tup (natP l)):=fun l h=>.tup (fun y hy=>by
  obtain⟨k,_,rfl⟩:=List.mem_map.mp hy
  exact .int) (by rw [natP_len];exact h)
 refine .tup (fun y hy=>?_) (by simp)
 simp only [List.mem_cons,List.not_mem_nil,or_false] at hy
 rcases hy with rfl | rfl | rfl | rfl
 ·unfold nmP;cases en t 0 p.1 with
  | word w=>exact .str
  | pair a b=>exact .int
 ·exact .int
 ·refine nat _ ?_
  rw [List.length_map]
  unfold bel
  split
  ·simp
  ·cases en t 0 p.1 <;> simp
 ·refine nat _ ?_
  unfold bsd
  rw [List.length_map]
  exact Nat.le_trans (List.length_filter_le _ _) (by omega)
theorem law13_ok:∀ns:List Int,ns.length≤63→(m_law_3 (.cl (ns.map PV.int))).run (·=.bl true):=fun ns hn=>by
 unfold m_law_3
 simp only [W.ret_bind,W.run_bind,ev_lenC,List.length_map,ev_min,ev_max,W.run_ret]
 obtain⟨k,hk,k1⟩:∃k:Nat,(if (if (8:Int) < (ns.length:Int) then (8:Int) else (ns.length:Int)) > 1 then (if (8:Int) < (ns.length:Int) then (8:Int) else (ns.length:Int)) else 1)=(k:Int)∧k≤8:=by
  refine⟨(if (if (8:Int) < (ns.length:Int) then (8:Int) else (ns.length:Int)) > 1 then (if (8:Int) < (ns.length:Int) then (8:Int) else (ns.length:Int)) else 1).toNat,?_,?_⟩ <;> split <;> split <;> omega
 rw [hk]
 simp only [ev_rng1,W.chk_pos (okN_small (i:=0) (j:=(k:Int)) (by omega) (by omega)),W.run_ret,Int.toNat_natCast]
 refine forF_rng (fun _ _=>True) trivial (fun i _ hi _=>?_) (fun _ _=>?_)
 ·simp only [W.run_bind]
  refine pot_run (by omega) fun l hl=>⟨hl,?_⟩
  simp only [W.run_bind,W.ret_bind,ev_rng1,W.chk_pos (okN_small (i:=0) (j:=(2:Int)) (by omega) (by omega)),W.run_ret]
  refine forF_rng (n:=2) (fun _ _=>True) trivial (fun j _ hj _=>?_) (fun _ _=>trivial)
  simp only [W.run_bind]
  refine great_run fun t g=>?_
  have hz:=g.size
  have hp:=t.size_pos
  have hdp:=g.depth
  refine W.le.use (lnodes_le 9 t (by omega) (by omega)) ?_
  simp only [W.run_ret]
  refine dates_run t (by omega) fun ds d D hd13=>?_
  have hsp:(splits t).length≤7:=by have:=splits_len t;have:=g.few;omega
  have ok1:isDb t ds=true:=D.isD (by omega)
  have DDt:=DD.of ok1
  have hs:=spD_len t ds
  have hl:(begs t ds).length≤t.size+1:=by unfold begs;rw [List.length_cons,sort_len'];omega
  have hb:(begs t ds).length*t.size≤900:=by
   have:(begs t ds).length*t.size≤26*25:=Nat.mul_le_mul (by omega) (by omega)
   omega
  refine W.le.use (ldated_le DDt (by omega) (by omega)) ?_
  refine W.le.use (dated_ok DDt (by omega)) ?_
  refine W.le.use (same_self (sm_dgL hb)) ?_
  simp only [ev_truB,W.run_ret,Bool.not_true,Bool.false_eq_true,if_false,W.run_bind]
  refine W.le.use (dated_ok DDt (by omega)) ?_
  refine W.le.use (same_self (sm_dgL hb)) ?_
  simp only [ev_truB,W.run_ret,Bool.not_true,Bool.false_eq_true,if_false,W.run_bind]
 ·show ((W.bind _ _):W PV).run _
  have D1:DD (.leaf "a") [0]:=DD.of (by decide +kernel)
  have:=dated_ok D1 (by decide)
  have e:dgL (.leaf "a") [0] (begs (.leaf "a") [0])=[.tup [.str "a",.int 0,.tup [],.tup []]]:=by
   have e1:begs (.leaf "a") [0]=[0]:=by
    have e2:spD (.leaf "a") [0]=[]:=rfl
    unfold begs sortI
    rw [e2,List.mergeSort_nil]
   rw [e1]
   rfl
  rw [e] at this
  simp only [W.ret_bind,W.run_bind]
  refine W.le.use this ?_
  refine W.le.use (same_self (n:=4) (.tup (fun x hx=>?_) (by simp))) rfl
  rw [List.mem_singleton.mp hx]
  refine .tup (fun y hy=>?_) (by simp)
  simp only [List.mem_cons,List.not_mem_nil,or_false] at hy
  rcases hy with rfl | rfl | rfl | rfl
  ·exact .str
  ·exact .int
  ·exact .tup (fun z hz=>by cases hz) (by simp)
  ·exact .tup (fun z hz=>by cases hz) (by simp)
end My
set_option Elab.async false
set_option linter.all false
set_option maxRecDepth 100000
set_option maxHeartbeats 1000000
namespace My
open PySem PySem.Spec PyProof.Rows L2 PL FL
def top (i:Nat):Stmt:=PySem.Challenge.pw_treewithin_k13_grounds_with_dates.main.body.getD i (.Pass ⟨0,0,0,0⟩)
abbrev s_parts_of:Stmt:=top 1
abbrev N_parts_of:List Str:=["tree","backward","waiting","part"]
abbrev P_parts_of:List Str:=["tree"]
theorem sc_parts_of:FnScope N_parts_of P_parts_of (defScope s_parts_of):=⟨rfl,rfl,rfl,by decide +kernel,rfl,by decide +kernel,by decide +kernel⟩
abbrev s_nodes:Stmt:=top 2
abbrev N_nodes:List Str:=["tree","told","loose","part","other","one"]
abbrev P_nodes:List Str:=["tree"]
theorem sc_nodes:FnScope N_nodes P_nodes (defScope s_nodes):=⟨rfl,rfl,rfl,by decide +kernel,rfl,by decide +kernel,by decide +kernel⟩
abbrev s_halves:Stmt:=top 3
abbrev N_halves:List Str:=["node"]
abbrev P_halves:List Str:=["node"]
theorem sc_halves:FnScope N_halves P_halves (defScope s_halves):=⟨rfl,rfl,rfl,by decide +kernel,rfl,by decide +kernel,by decide +kernel⟩
abbrev s_ahead_of:Stmt:=top 4
abbrev N_ahead_of:List Str:=["tree","told","node","ahead","number","half"]
abbrev P_ahead_of:List Str:=["tree"]
theorem sc_ahead_of:FnScope N_ahead_of P_ahead_of (defScope s_ahead_of):=⟨rfl,rfl,rfl,by decide +kernel,rfl,by decide +kernel,by decide +kernel⟩
abbrev lsc_ahead_of_0:Scope:={kind:=.function,names:=[(Str.ofString ".0",.local),(Str.ofString "node",.local)],isGenerator:=false,isCoroutine:=false,more:=[]}
theorem lc_ahead_of_0:LcScope (defScope s_ahead_of) N_ahead_of lsc_ahead_of_0 ["node"] [none]:=⟨rfl,by decide +kernel,by decide +kernel,by decide +kernel,by decide +kernel,rfl,by decide +kernel⟩
abbrev s_name_of:Stmt:=top 6
abbrev N_name_of:List Str:=["houses","house"]
abbrev P_name_of:List Str:=["houses","house"]
theorem sc_name_of:FnScope N_name_of P_name_of (defScope s_name_of):=⟨rfl,rfl,rfl,by decide +kernel,rfl,by decide +kernel,by decide +kernel⟩
abbrev s_split_dates:Stmt:=top 8
abbrev N_split_dates:List Str:=["houses","dates"]
abbrev P_split_dates:List Str:=["houses","dates"]
theorem sc_split_dates:FnScope N_split_dates P_split_dates (defScope s_split_dates):=⟨rfl,rfl,rfl,by decide +kernel,rfl,by decide +kernel,by decide +kernel⟩
abbrev lsc_split_dates_0:Scope:={kind:=.function,names:=[(Str.ofString ".0",.local),(Str.ofString "house",.local),(Str.ofString "date",.local),(Str.ofString "isinstance",.globalImplicit),(Str.ofString "str",.globalImplicit)],isGenerator:=false,isCoroutine:=false,more:=[]}
theorem lc_split_dates_0:LcScope (defScope s_split_dates) N_split_dates lsc_split_dates_0 ["house","date"] [none,none]:=⟨rfl,by decide +kernel,by decide +kernel,by decide +kernel,by decide +kernel,rfl,by decide +kernel⟩
abbrev s_standing:Stmt:=top 9
abbrev N_standing:List Str:=["great","dates","begins","ahead","pairs","number","begin","house","date"]
abbrev P_standing:List Str:=["great","dates","begins"]
theorem sc_standing:FnScope N_standing P_standing (defScope s_standing):=⟨rfl,rfl,rfl,by decide +kernel,rfl,by decide +kernel,by decide +kernel⟩
abbrev s_stay_of:Stmt:=top 10
abbrev N_stay_of:List Str:=["houses","dates","begins","numbers","pair","house","layer","goes_on","below","under","beside"]
abbrev P_stay_of:List Str:=["houses","dates","begins","numbers","pair"]
theorem sc_stay_of:FnScope N_stay_of P_stay_of (defScope s_stay_of):=⟨rfl,rfl,rfl,by decide +kernel,rfl,by decide +kernel,by decide +kernel⟩
abbrev lsc_stay_of_0:Scope:={kind:=.function,names:=[(Str.ofString ".0",.local),(Str.ofString "each",.local),(Str.ofString "layer",.free),(Str.ofString "numbers",.free)],isGenerator:=false,isCoroutine:=false,more:=[]}
abbrev lsc_stay_of_1:Scope:={kind:=.function,names:=[(Str.ofString ".0",.local),(Str.ofString "far",.local),(Str.ofString "house",.free),(Str.ofString "layer",.free),(Str.ofString "numbers",.free)],isGenerator:=false,isCoroutine:=false,more:=[]}
theorem lc_stay_of_0:LcScope (defScope s_stay_of) N_stay_of lsc_stay_of_0 ["each","layer","numbers"] [none,some 6,some 3]:=⟨rfl,by decide +kernel,by decide +kernel,by decide +kernel,by decide +kernel,rfl,by decide +kernel⟩
theorem lc_stay_of_1:LcScope (defScope s_stay_of) N_stay_of lsc_stay_of_1 ["far","house","layer","numbers"] [none,some 5,some 6,some 3]:=⟨rfl,by decide +kernel,by decide +kernel,by decide +kernel,by decide +kernel,rfl,by decide +kernel⟩
abbrev s_dated:Stmt:=top 11
abbrev N_dated:List Str:=["great","dates","houses","begins","pairs","numbers"]
abbrev P_dated:List Str:=["great","dates"]
theorem sc_dated:FnScope N_dated P_dated (defScope s_dated):=⟨rfl,rfl,rfl,by decide +kernel,rfl,by decide +kernel,by decide +kernel⟩
abbrev lsc_dated_0:Scope:={kind:=.function,names:=[(Str.ofString ".0",.local),(Str.ofString "number",.local),(Str.ofString "pair",.local)],isGenerator:=false,isCoroutine:=false,more:=[]}
abbrev lsc_dated_1:Scope:={kind:=.function,names:=[(Str.ofString ".0",.local),(Str.ofString "pair",.local),(Str.ofString "stay_of",.globalImplicit),(Str.ofString "begins",.free),(Str.ofString "dates",.free),(Str.ofString "houses",.free),(Str.ofString "numbers",.free)],isGenerator:=false,isCoroutine:=false,more:=[]}
theorem lc_dated_0:LcScope (defScope s_dated) N_dated lsc_dated_0 ["number","pair"] [none,none]:=⟨rfl,by decide +kernel,by decide +kernel,by decide +kernel,by decide +kernel,rfl,by decide +kernel⟩
theorem lc_dated_1:LcScope (defScope s_dated) N_dated lsc_dated_1 ["pair","begins","dates","houses","numbers"] [none,some 3,some 1,some 2,some 5]:=⟨rfl,by decide +kernel,by decide +kernel,by decide +kernel,by decide +kernel,rfl,by decide +kernel⟩
abbrev s__law_pot:Stmt:=top 13
abbrev N__law_pot:List Str:=["_law_script","_law_k","_law_cell","_law_digits"]
abbrev P__law_pot:List Str:=["_law_script","_law_k"]
theorem sc__law_pot:FnScope N__law_pot P__law_pot (defScope s__law_pot):=⟨rfl,rfl,rfl,by decide +kernel,rfl,by decide +kernel,by decide +kernel⟩
abbrev s__law_take:Stmt:=top 14
abbrev N__law_take:List Str:=["_law_pot_here","_law_many","_law_digit","_law_mixed"]
abbrev P__law_take:List Str:=["_law_pot_here","_law_many"]
theorem sc__law_take:FnScope N__law_take P__law_take (defScope s__law_take):=⟨rfl,rfl,rfl,by decide +kernel,rfl,by decide +kernel,by decide +kernel⟩
abbrev s__law_pick:Stmt:=top 15
abbrev N__law_pick:List Str:=["_law_pot_here","_law_some"]
abbrev P__law_pick:List Str:=["_law_pot_here","_law_some"]
theorem sc__law_pick:FnScope N__law_pick P__law_pick (defScope s__law_pick):=⟨rfl,rfl,rfl,by decide +kernel,rfl,by decide +kernel,by decide +kernel⟩
abbrev s__law_words:Stmt:=top 16
abbrev N__law_words:List Str:=["_law_pot_here","_law_many","_law_letters","_law_first","_law_turn","_law_stem","_law_ends","_law_found","_law_k","_law_letter"]
abbrev P__law_words:List Str:=["_law_pot_here","_law_many"]
theorem sc__law_words:FnScope N__law_words P__law_words (defScope s__law_words):=⟨rfl,rfl,rfl,by decide +kernel,rfl,by decide +kernel,by decide +kernel⟩
abbrev s__law_tree:Stmt:=top 17
abbrev N__law_tree:List Str:=["_law_pot_here","_law_words_here","_law_some","_law_way","_law_at","_law_pair"]
abbrev P__law_tree:List Str:=["_law_pot_here","_law_words_here"]
theorem sc__law_tree:FnScope N__law_tree P__law_tree (defScope s__law_tree):=⟨rfl,rfl,rfl,by decide +kernel,rfl,by decide +kernel,by decide +kernel⟩
abbrev s__law_great:Stmt:=top 18
abbrev N__law_great:List Str:=["_law_pot_here"]
abbrev P__law_great:List Str:=["_law_pot_here"]
theorem sc__law_great:FnScope N__law_great P__law_great (defScope s__law_great):=⟨rfl,rfl,rfl,by decide +kernel,rfl,by decide +kernel,by decide +kernel⟩
abbrev s__law_nodes:Stmt:=top 19
abbrev N__law_nodes:List Str:=["_law_tree_here","_law_rows","_law_many","_law_row"]
abbrev P__law_nodes:List Str:=["_law_tree_here"]
theorem sc__law_nodes:FnScope N__law_nodes P__law_nodes (defScope s__law_nodes):=⟨rfl,rfl,rfl,by decide +kernel,rfl,by decide +kernel,by decide +kernel⟩
abbrev s__law_ahead:Stmt:=top 20
abbrev N__law_ahead:List Str:=["_law_rows","_law_found","_law_at","_law_row"]
abbrev P__law_ahead:List Str:=["_law_rows"]
theorem sc__law_ahead:FnScope N__law_ahead P__law_ahead (defScope s__law_ahead):=⟨rfl,rfl,rfl,by decide +kernel,rfl,by decide +kernel,by decide +kernel⟩
abbrev s__law_dates:Stmt:=top 21
abbrev N__law_dates:List Str:=["_law_pot_here","_law_rows","_law_dates_here","_law_house","_law_left","_law_date","_law_ready"]
abbrev P__law_dates:List Str:=["_law_pot_here","_law_rows"]
theorem sc__law_dates:FnScope N__law_dates P__law_dates (defScope s__law_dates):=⟨rfl,rfl,rfl,by decide +kernel,rfl,by decide +kernel,by decide +kernel⟩
abbrev lsc__law_dates_0:Scope:={kind:=.function,names:=[(Str.ofString ".0",.local),(Str.ofString "_law_house",.local),(Str.ofString "_law_row",.local),(Str.ofString "isinstance",.globalImplicit),(Str.ofString "str",.globalImplicit)],isGenerator:=false,isCoroutine:=false,more:=[]}
abbrev lsc__law_dates_1:Scope:={kind:=.function,names:=[(Str.ofString ".0",.local),(Str.ofString "_law_house",.local),(Str.ofString "_law_left",.free),(Str.ofString "_law_rows",.free)],isGenerator:=false,isCoroutine:=false,more:=[]}
theorem lc__law_dates_0:LcScope (defScope s__law_dates) N__law_dates lsc__law_dates_0 ["_law_house","_law_row"] [none,none]:=⟨rfl,by decide +kernel,by decide +kernel,by decide +kernel,by decide +kernel,rfl,by decide +kernel⟩
theorem lc__law_dates_1:LcScope (defScope s__law_dates) N__law_dates lsc__law_dates_1 ["_law_house","_law_left","_law_rows"] [none,some 4,some 1]:=⟨rfl,by decide +kernel,by decide +kernel,by decide +kernel,by decide +kernel,rfl,by decide +kernel⟩
abbrev s__law_standing:Stmt:=top 22
abbrev N__law_standing:List Str:=["_law_rows","_law_dates_here","_law_ahead_here","_law_floors","_law_found","_law_level","_law_floor","_law_house","_law_above","_law_stands"]
abbrev P__law_standing:List Str:=["_law_rows","_law_dates_here"]
theorem sc__law_standing:FnScope N__law_standing P__law_standing (defScope s__law_standing):=⟨rfl,rfl,rfl,by decide +kernel,rfl,by decide +kernel,by decide +kernel⟩
abbrev lsc__law_standing_0:Scope:={kind:=.function,names:=[(Str.ofString ".0",.local),(Str.ofString "_law_date",.local)],isGenerator:=false,isCoroutine:=false,more:=[]}
theorem lc__law_standing_0:LcScope (defScope s__law_standing) N__law_standing lsc__law_standing_0 ["_law_date"] [none]:=⟨rfl,by decide +kernel,by decide +kernel,by decide +kernel,by decide +kernel,rfl,by decide +kernel⟩
abbrev s__law_dated_ground:Stmt:=top 23
abbrev N__law_dated_ground:List Str:=["_law_great_here","_law_dates_here","_law_rows","_law_floors","_law_standing_here","_law_stays","_law_house","_law_level","_law_row","_law_lower","_law_under","_law_beside"]
abbrev P__law_dated_ground:List Str:=["_law_great_here","_law_dates_here"]
theorem sc__law_dated_ground:FnScope N__law_dated_ground P__law_dated_ground (defScope s__law_dated_ground):=⟨rfl,rfl,rfl,by decide +kernel,rfl,by decide +kernel,by decide +kernel⟩
abbrev lsc__law_dated_ground_0:Scope:={kind:=.function,names:=[(Str.ofString ".0",.local),(Str.ofString "_law_one",.local),(Str.ofString "_law_level",.free),(Str.ofString "_law_standing_here",.free)],isGenerator:=false,isCoroutine:=false,more:=[]}
abbrev lsc__law_dated_ground_1:Scope:={kind:=.function,names:=[(Str.ofString ".0",.local),(Str.ofString "_law_at",.local),(Str.ofString "_law_one",.local),(Str.ofString "_law_house",.free),(Str.ofString "_law_level",.free)],isGenerator:=false,isCoroutine:=false,more:=[]}
theorem lc__law_dated_ground_0:LcScope (defScope s__law_dated_ground) N__law_dated_ground lsc__law_dated_ground_0 ["_law_one","_law_level","_law_standing_here"] [none,some 7,some 4]:=⟨rfl,by decide +kernel,by decide +kernel,by decide +kernel,by decide +kernel,rfl,by decide +kernel⟩
theorem lc__law_dated_ground_1:LcScope (defScope s__law_dated_ground) N__law_dated_ground lsc__law_dated_ground_1 ["_law_at","_law_one","_law_house","_law_level"] [none,none,some 6,some 7]:=⟨rfl,by decide +kernel,by decide +kernel,by decide +kernel,by decide +kernel,rfl,by decide +kernel⟩
abbrev s__law_same:Stmt:=top 24
abbrev N__law_same:List Str:=["_law_found","_law_due"]
abbrev P__law_same:List Str:=["_law_found","_law_due"]
theorem sc__law_same:FnScope N__law_same P__law_same (defScope s__law_same):=⟨rfl,rfl,rfl,by decide +kernel,rfl,by decide +kernel,by decide +kernel⟩
abbrev lsc__law_same_0:Scope:={kind:=.function,names:=[(Str.ofString ".0",.local),(Str.ofString "_law_one",.local),(Str.ofString "_law_other",.local),(Str.ofString "_law_same",.globalImplicit)],isGenerator:=false,isCoroutine:=false,more:=[]}
theorem lc__law_same_0:LcScope (defScope s__law_same) N__law_same lsc__law_same_0 ["_law_one","_law_other"] [none,none]:=⟨rfl,by decide +kernel,by decide +kernel,by decide +kernel,by decide +kernel,rfl,by decide +kernel⟩
abbrev s_law:Stmt:=top 25
abbrev N_law:List Str:=["_law_script","_law_k","_law_pot_here","_law_turn","_law_great_here","_law_dates_here","_law_due"]
abbrev P_law:List Str:=["_law_script"]
theorem sc_law:FnScope N_law P_law (defScope s_law):=⟨rfl,rfl,rfl,by decide +kernel,rfl,by decide +kernel,by decide +kernel⟩
theorem c_parts_of {P:Program}{w:World}{K:PySem.W.Frag}{mg:Str→Option Value}{base:Heap}{f:Addr}{k:Nat} (n_isinstance:mg "isinstance"=none) (n_str:mg "str"=none) (n_list:mg "list"=none) (n_reversed:mg "reversed"=none) (tree_:PV)
  (cdv:Value) (A:Around) (outer:List Env) (s:Shared) (H:Hp) (E:XK) (hr:Room k (A.deeper (envOfC "parts_of" (defScope s_parts_of) s.heap.objs.size f cdv))):SF (cxOf CX0 P w K mg base N_parts_of "parts_of" (defScope s_parts_of) f cdv A outer s H E).nox K false [some (.val tree_),none,none,none] (defBody s_parts_of) (m_parts_of tree_) .rl:=
 (SF.setL (i:=1) sc_parts_of.nd rfl (Or.inl rfl) (l_lstx (n:=0) a_nil rfl) fun backward_1=>
 (SF.setL (i:=2) sc_parts_of.nd rfl (Or.inl rfl) (l_lstx (n:=1) (a_cons (e_var 0) a_nil) rfl) fun waiting_2=>
 (SF.while (hd:=(fun (s4:List PV×List PV)=>([some (.val tree_),some (.ol none s4.1),some (.ol none s4.2),none]:FSt))) (s0:=(backward_1,waiting_2)) PassesOwn.never (.keep (.keep (.keep (.keep .nil)))) (fun s4=>(t_own rfl (q_own 2) (fun _=>rfl))) (fun s4=>
 (SF.popSet 2 3 rfl (by decide) rfl rfl (.inl rfl) sc_parts_of.nd rfl (Or.inl rfl) fun t7=>
 (SF.append 1 rfl rfl rfl (.inl rfl) (e_var 3) fun backward_8=>
 (SF.ifT (t_not (t_tru rfl (e_isi rfl .str rfl n_isinstance (e_var 3) rfl n_str boot_str) (fun _=>rfl)))
 (SF.extend 2 rfl rfl rfl (.inl rfl) (q_val (e_var 3)) fun waiting_10=>
 (SF.nilC rfl (.keep (.keep (.keep (.drop .nil))))))
 (SF.nilC rfl (.keep (.keep (.keep (.drop .nil))))))))) fun s4=>
 (SF.retLV (l_rev rfl rfl rfl n_list rfl n_reversed (ql_own 1)) fun _=>rfl))))
theorem c_nodes {P:Program}{w:World}{K:PySem.W.Frag}{mg:Str→Option Value}{base:Heap}{f:Addr}{k:Nat}{k_parts_of:Nat} (n_isinstance:mg "isinstance"=none) (n_str:mg "str"=none) (n_len:mg "len"=none) (n_tuple:mg "tuple"=none) (g_parts_of:Cal P w K mg base "parts_of" k_parts_of P_parts_of (spFL K [.v] (unc 1 (m_parts_of)))) (h_parts_of:k_parts_of≤k) (tree_:PV)
  (cdv:Value) (A:Around) (outer:List Env) (s:Shared) (H:Hp) (E:XK) (hr:Room k (A.deeper (envOfC "nodes" (defScope s_nodes) s.heap.objs.size f cdv))):SF (cxOf CX0 P w K mg base N_nodes "nodes" (defScope s_nodes) f cdv A outer s H E).nox K false [some (.val tree_),none,none,none,none,none] (defBody s_nodes) (m_nodes tree_) .rt:=
 (SF.setL (i:=1) sc_nodes.nd rfl (Or.inl rfl) (l_lstx (n:=0) a_nil rfl) fun told_1=>
 (SF.setL (i:=2) sc_nodes.nd rfl (Or.inl rfl) (l_lstx (n:=0) a_nil rfl) fun loose_2=>
 (SF.for1 (hd:=(fun (s4:List PV×List PV)=>([some (.val tree_),some (.ol none s4.1),some (.ol none s4.2),none,none,none]:FSt))) (s0:=(told_1,loose_2)) PassesOwn.never rfl (it_seq rfl (i_new (l_callx g_parts_of hr h_parts_of rfl (a_cons (e_var 0) a_nil) rfl))) (.keep (.keep (.keep (.keep (.keep (.keep .nil)))))) (pg_name (i:=3) sc_nodes.nd rfl (Or.inl rfl)) (fun s4 part_5=>
 (SF.ifS (out1:=fun (s16:List PV×List PV)=>.nx ([some (.val tree_),some (.ol none s16.1),some (.ol none s16.2),some (.val part_5),none,none]:FSt)) (t_tru rfl (e_isi rfl .str rfl n_isinstance (e_var 3) rfl n_str boot_str) (fun _=>rfl))
 (SF.append 1 rfl rfl rfl (.inl rfl) (e_var 3) fun told_17=>
 (SF.nil rfl (.keep (.keep (.keep (.keep (.keep (.keep .nil))))))))
 (SF.popSet 2 4 rfl (by decide) rfl rfl (.inl rfl) sc_nodes.nd rfl (Or.inl rfl) fun t20=>
 (SF.popSet 2 5 rfl (by decide) rfl rfl (.inl rfl) sc_nodes.nd rfl (Or.inl rfl) fun t22=>
 (SF.append 1 rfl rfl rfl (.inl rfl) (e_tupx (n:=2) (a_cons (e_var 5) (a_cons (e_var 4) a_nil)) rfl) fun told_23=>
 (SF.nil rfl (.keep (.keep (.keep (.keep (.drop (.drop .nil))))))))))
 fun s16=>(SF.append 2 rfl rfl rfl (.inl rfl) (e_sub (e_lenQ rfl rfl n_len (q_own 1)) e_int) fun loose_27=>
 (SF.nilC rfl (.keep (.keep (.keep (.drop (.keep (.keep .nil)))))))))) fun s4=>
 (SF.retV (e_tuple rfl rfl n_tuple (q_own 1)) fun _=>rfl))))
theorem c_halves {P:Program}{w:World}{K:PySem.W.Frag}{mg:Str→Option Value}{base:Heap}{f:Addr}{k:Nat} (n_isinstance:mg "isinstance"=none) (n_str:mg "str"=none) (node_:PV)
  (cdv:Value) (A:Around) (outer:List Env) (s:Shared) (H:Hp) (E:XK) (hr:Room k (A.deeper (envOfC "halves" (defScope s_halves) s.heap.objs.size f cdv))):SF (cxOf CX0 P w K mg base N_halves "halves" (defScope s_halves) f cdv A outer s H E).nox K false [some (.val node_)] (defBody s_halves) (m_halves node_) .rt:=
 (SF.retV (e_if (t_tru rfl (e_isi rfl .str rfl n_isinstance (e_var 0) rfl n_str boot_str) (fun _=>rfl)) (e_tupx (n:=0) a_nil rfl) (e_var 0)) fun _=>rfl)
theorem c_ahead_of {P:Program}{w:World}{K:PySem.W.Frag}{mg:Str→Option Value}{base:Heap}{f:Addr}{k:Nat}{k_nodes:Nat}{k_halves:Nat} (n_enumerate:mg "enumerate"=none) (n_tuple:mg "tuple"=none) (g_nodes:Cal P w K mg base "nodes" k_nodes P_nodes (spF K [.v] (unc 1 (m_nodes)))) (h_nodes:k_nodes≤k) (g_halves:Cal P w K mg base "halves" k_halves P_halves (spF K [.v] (unc 1 (m_halves)))) (h_halves:k_halves≤k) (tree_:PV)
  (cdv:Value) (A:Around) (outer:List Env) (s:Shared) (H:Hp) (E:XK) (hr:Room k (A.deeper (envOfC "ahead_of" (defScope s_ahead_of) s.heap.objs.size f cdv))):SF (cxOf CX0 P w K mg base N_ahead_of "ahead_of" (defScope s_ahead_of) f cdv A outer s H E).nox K false [some (.val tree_),none,none,none,none,none] (defBody s_ahead_of) (m_ahead_of tree_) .rt:=
 (SF.set (i:=1) sc_ahead_of.nd rfl (Or.inl rfl) (e_callx g_nodes hr h_nodes rfl (a_cons (e_var 0) a_nil) rfl) fun told_1=>
 (SF.setmap1 (i:=3) rfl sc_ahead_of.nd rfl rfl lc_ahead_of_0 (it_seq rfl (i_val (e_var 1))) (fun _ _ _ _ _=>(pg_name (i:=0) lc_ahead_of_0.nd rfl (Or.inl rfl) (Or.inr rfl))) (fun _ _ _ _ _ p5=>e_non) rfl fun ahead_3=>
 (SF.forT (hd:=(fun (s7:List PV)=>([some (.val tree_),some (.val told_1),none,some (.ol none s7),none,none]:FSt))) (s0:=ahead_3) PassesOwn.never rfl (it_enum rfl rfl n_enumerate (i_val (e_var 1))) (.keep (.keep (.keep (.keep (.keep (.keep .nil)))))) (fun _=>(g_2 rfl (pg_tup rfl (pgs_cons (pg_name (i:=4) sc_ahead_of.nd rfl (Or.inl rfl)) (pgs_cons (pg_name (i:=2) sc_ahead_of.nd rfl (Or.inl rfl)) pgs_nil))))) (fun s7 t9=>
 (SF.for1 (hd:=(fun (s11:List PV)=>([some (.val tree_),some (.val told_1),some (.val t9.2),some (.ol none s11),some (.val t9.1),none]:FSt))) (s0:=s7) PassesOwn.never rfl (it_seq rfl (i_val (e_callx g_halves hr h_halves rfl (a_cons (e_var 2) a_nil) rfl))) (.keep (.keep (.keep (.keep (.keep (.keep .nil)))))) (pg_name (i:=5) sc_ahead_of.nd rfl (Or.inl rfl)) (fun s11 half_12=>
 (SF.setI 3 rfl rfl (.inl rfl) (e_var 4) (e_var 5) fun ahead_13=>
 (SF.nilC rfl (.keep (.keep (.keep (.keep (.keep (.drop .nil))))))))) fun s11=>
 (SF.nilC rfl (.keep (.keep (.drop (.keep (.drop (.keep .nil))))))))) fun s7=>
 (SF.retV (e_tuple rfl rfl n_tuple (q_own 3)) fun _=>rfl))))
theorem c_name_of {P:Program}{w:World}{K:PySem.W.Frag}{mg:Str→Option Value}{base:Heap}{f:Addr}{k:Nat} (n_isinstance:mg "isinstance"=none) (n_str:mg "str"=none) (houses_:PV) (house_:PV)
  (cdv:Value) (A:Around) (outer:List Env) (s:Shared) (H:Hp) (E:XK) (hr:Room k (A.deeper (envOfC "name_of" (defScope s_name_of) s.heap.objs.size f cdv))):SF (cxOf CX0 P w K mg base N_name_of "name_of" (defScope s_name_of) f cdv A outer s H E).nox K false [some (.val houses_),some (.val house_)] (defBody s_name_of) (m_name_of houses_ house_) .rt:=
 (SF.retV (e_if (t_tru rfl (e_isi rfl .str rfl n_isinstance (e_ix rfl (q_val (e_var 0)) (e_var 1) (fun _ _=>rfl)) rfl n_str boot_str) (fun _=>rfl)) (e_ix rfl (q_val (e_var 0)) (e_var 1) (fun _ _=>rfl)) (e_var 1)) fun _=>rfl)
theorem c_split_dates {P:Program}{w:World}{K:PySem.W.Frag}{mg:Str→Option Value}{base:Heap}{f:Addr}{k:Nat} (n_zip:mg "zip"=none) (n_isinstance:mg "isinstance"=none) (n_str:mg "str"=none) (houses_:PV) (dates_:PV)
  (cdv:Value) (A:Around) (outer:List Env) (s:Shared) (H:Hp) (E:XK) (hr:Room k (A.deeper (envOfC "split_dates" (defScope s_split_dates) s.heap.objs.size f cdv))):SF (cxOf CX0 P w K mg base N_split_dates "split_dates" (defScope s_split_dates) f cdv A outer s H E).nox K false [some (.val houses_),some (.val dates_)] (defBody s_split_dates) (m_split_dates houses_ dates_) .rl:=
 (SF.retLV (l_lcT rfl lc_split_dates_0 (it_zip rfl rfl n_zip (i_val (e_var 0)) (i_val (e_var 1))) (fun _ _ _ _ _=>(g_2 rfl (pg_tup rfl (pgs_cons (pg_name (i:=0) lc_split_dates_0.nd rfl (Or.inl rfl) (Or.inr rfl)) (pgs_cons (pg_name (i:=1) lc_split_dates_0.nd rfl (Or.inl rfl) (Or.inr rfl)) pgs_nil))))) (fun _ _ _ _ _ t5=>(t_not (t_tru rfl (e_isi rfl .str rfl n_isinstance (e_var 0) rfl n_str boot_str) (fun _=>rfl)))) (fun _ _ _ _ _ t5=>(e_var 1)) (lay2 rfl rfl (by decide)) (by decide)) fun _=>rfl)
theorem c_standing {P:Program}{w:World}{K:PySem.W.Frag}{mg:Str→Option Value}{base:Heap}{f:Addr}{k:Nat}{k_ahead_of:Nat} (n_enumerate:mg "enumerate"=none) (g_ahead_of:Cal P w K mg base "ahead_of" k_ahead_of P_ahead_of (spF K [.v] (unc 1 (m_ahead_of)))) (h_ahead_of:k_ahead_of≤k) (great_:PV) (dates_:PV) (begins_:PV)
  (cdv:Value) (A:Around) (outer:List Env) (s:Shared) (H:Hp) (E:XK) (hr:Room k (A.deeper (envOfC "standing" (defScope s_standing) s.heap.objs.size f cdv))):SF (cxOf CX0 P w K mg base N_standing "standing" (defScope s_standing) f cdv A outer s H E).nox K false [some (.val great_),some (.val dates_),some (.val begins_),none,none,none,none,none,none] (defBody s_standing) (m_standing great_ dates_ begins_) .rl:=
 (SF.set (i:=3) sc_standing.nd rfl (Or.inl rfl) (e_callx g_ahead_of hr h_ahead_of rfl (a_cons (e_var 0) a_nil) rfl) fun ahead_1=>
 (SF.setL (i:=4) sc_standing.nd rfl (Or.inl rfl) (l_lstx (n:=0) a_nil rfl) fun pairs_3=>
 (SF.forT (hd:=(fun (s5:List PV)=>([some (.val great_),some (.val dates_),some (.val begins_),some (.val ahead_1),some (.ol none s5),none,none,none,none]:FSt))) (s0:=pairs_3) PassesOwn.never rfl (it_enum rfl rfl n_enumerate (i_val (e_var 2))) (.keep (.keep (.keep (.keep (.keep (.keep (.keep (.keep (.keep .nil))))))))) (fun _=>(g_2 rfl (pg_tup rfl (pgs_cons (pg_name (i:=5) sc_standing.nd rfl (Or.inl rfl)) (pgs_cons (pg_name (i:=6) sc_standing.nd rfl (Or.inl rfl)) pgs_nil))))) (fun s5 t7=>
 (SF.forT (hd:=(fun (s9:List PV)=>([some (.val great_),some (.val dates_),some (.val begins_),some (.val ahead_1),some (.ol none s9),some (.val t7.1),some (.val t7.2),none,none]:FSt))) (s0:=s5) PassesOwn.never rfl (it_enum rfl rfl n_enumerate (i_val (e_var 1))) (.keep (.keep (.keep (.keep (.keep (.keep (.keep (.keep (.keep .nil))))))))) (fun _=>(g_2 rfl (pg_tup rfl (pgs_cons (pg_name (i:=7) sc_standing.nd rfl (Or.inl rfl)) (pgs_cons (pg_name (i:=8) sc_standing.nd rfl (Or.inl rfl)) pgs_nil))))) (fun s9 t11=>
 (SF.ifT (TWF.t (tw_and (t_cmp jc_le (e_var 8) (e_var 6)) (tw_and1 (TWF.t (tw_or (t_cmp jc_isN (e_ix rfl (q_val (e_var 3)) (e_var 7) (fun _ _=>rfl)) e_non) (tw_or1 (t_cmp jc_lt (e_var 6) (e_ix rfl (q_val (e_var 1)) (e_ix rfl (q_val (e_var 3)) (e_var 7) (fun _ _=>rfl)) (fun _ _=>rfl)))))))))
 (SF.append 4 rfl rfl rfl (.inl rfl) (e_tupx (n:=2) (a_cons (e_var 7) (a_cons (e_var 5) a_nil)) rfl) fun pairs_12=>
 (SF.nilC rfl (.keep (.keep (.keep (.keep (.keep (.keep (.keep (.drop (.drop .nil)))))))))))
 (SF.nilC rfl (.keep (.keep (.keep (.keep (.keep (.keep (.keep (.drop (.drop .nil)))))))))))) fun s9=>
 (SF.nilC rfl (.keep (.keep (.keep (.keep (.keep (.drop (.drop (.keep (.keep .nil)))))))))))) fun s5=>
 (SF.retO 4 rfl rfl))))
theorem c_stay_of {P:Program}{w:World}{K:PySem.W.Frag}{mg:Str→Option Value}{base:Heap}{f:Addr}{k:Nat}{k_halves:Nat}{k_name_of:Nat} (n_tuple:mg "tuple"=none) (g_halves:Cal P w K mg base "halves" k_halves P_halves (spF K [.v] (unc 1 (m_halves)))) (h_halves:k_halves≤k) (g_name_of:Cal P w K mg base "name_of" k_name_of P_name_of (spF K [.v,.v] (unc 2 (m_name_of)))) (h_name_of:k_name_of≤k) (houses_:PV) (dates_:PV) (begins_:PV) (numbers_:PV) (pair_:PV)
  (cdv:Value) (A:Around) (outer:List Env) (s:Shared) (H:Hp) (E:XK) (hr:Room k (A.deeper (envOfC "stay_of" (defScope s_stay_of) s.heap.objs.size f cdv))):SF (cxOf CX0 P w K mg base N_stay_of "stay_of" (defScope s_stay_of) f cdv A outer s H E).nox K false [some (.val houses_),some (.val dates_),some (.val begins_),some (.val numbers_),some (.val pair_),none,none,none,none,none,none] (defBody s_stay_of) (m_stay_of houses_ dates_ begins_ numbers_ pair_) .rt:=
 (SF.set (i:=5) sc_stay_of.nd rfl (Or.inr rfl) (e_ix rfl (q_val (e_var 4)) e_int (fun _ _=>rfl)) fun house_1=>
 (SF.set (i:=6) sc_stay_of.nd rfl (Or.inr rfl) (e_ix rfl (q_val (e_var 4)) e_int (fun _ _=>rfl)) fun layer_2=>
 (SF.set (i:=7) sc_stay_of.nd rfl (Or.inl rfl) (e_cmp jc_lt (e_ix rfl (q_val (e_var 1)) (e_var 5) (fun _ _=>rfl)) (e_ix rfl (q_val (e_var 2)) (e_var 6) (fun _ _=>rfl))) fun goes_on_3=>
 (SF.set (i:=8) sc_stay_of.nd rfl (Or.inl rfl) (e_if (t_tru rfl (e_var 7) (fun _=>rfl)) (e_tupx (n:=1) (a_cons (e_var 5) a_nil) rfl) (e_callx g_halves hr h_halves rfl (a_cons (e_ix rfl (q_val (e_var 0)) (e_var 5) (fun _ _=>rfl)) a_nil) rfl)) fun below_4=>
 (SF.set (i:=9) sc_stay_of.nd rfl (Or.inl rfl) (e_tuple rfl rfl n_tuple (q_new (l_map1 rfl lc_stay_of_0 (it_seq rfl (i_val (e_var 8))) (fun _ _ _ _ _=>(pg_name (i:=0) lc_stay_of_0.nd rfl (Or.inl rfl) (Or.inr rfl))) (fun _ _ _ _ _ p9=>(e_dget (room_u hr) (e_var 2) (e_tupx (n:=2) (a_cons (e_var 0) (a_cons (e_sub (e_var 1) e_int) a_nil)) rfl) (fun _ _=>rfl))) rfl))) fun under_7=>
 (SF.set (i:=10) sc_stay_of.nd rfl (Or.inl rfl) (e_tuple rfl rfl n_tuple (q_new (l_lc1 rfl lc_stay_of_1 (it_keys (e_var 3)) (fun _ _ _ _ _=>(pg_name (i:=0) lc_stay_of_1.nd rfl (Or.inl rfl) (Or.inr rfl))) (fun _ _ _ _ _ p14=>(TWF.t (tw_and (t_cmp (jf_eq rfl (room_u hr)) (e_ix rfl (q_val (e_var 0)) e_int (fun _ _=>rfl)) (e_var 2)) (tw_and1 (t_cmp (jf_ne rfl (room_u hr)) (e_ix rfl (q_val (e_var 0)) e_int (fun _ _=>rfl)) (e_var 1)))))) (fun _ _ _ _ _ p14=>(e_dget (room_u hr) (e_var 3) (e_var 0) (fun _ _=>rfl))) rfl))) fun beside_12=>
 (SF.retV (e_tupx (n:=4) (a_cons (e_callx g_name_of hr h_name_of rfl (a_cons (e_var 0) (a_cons (e_var 5) a_nil)) rfl) (a_cons (e_var 6) (a_cons (e_var 9) (a_cons (e_var 10) a_nil)))) rfl) fun _=>rfl)))))))
theorem c_dated {P:Program}{w:World}{K:PySem.W.Frag}{mg:Str→Option Value}{base:Heap}{f:Addr}{k:Nat}{k_nodes:Nat}{k_split_dates:Nat}{k_standing:Nat}{k_stay_of:Nat} (n_sorted:mg "sorted"=none) (n_enumerate:mg "enumerate"=none) (n_dict:mg "dict"=none) (n_tuple:mg "tuple"=none) (g_nodes:Cal P w K mg base "nodes" k_nodes P_nodes (spF K [.v] (unc 1 (m_nodes)))) (h_nodes:k_nodes≤k) (g_split_dates:Cal P w K mg base "split_dates" k_split_dates P_split_dates (spFL K [.v,.v] (unc 2 (m_split_dates)))) (h_split_dates:k_split_dates≤k) (g_standing:Cal P w K mg base "standing" k_standing P_standing (spFL K [.v,.v,.v] (unc 3 (m_standing)))) (h_standing:k_standing≤k) (g_stay_of:Cal P w K mg base "stay_of" k_stay_of P_stay_of (spF K [.v,.v,.v,.v,.v] (unc 5 (m_stay_of)))) (h_stay_of:k_stay_of≤k) (great_:PV) (dates_:PV)
  (cdv:Value) (A:Around) (outer:List Env) (s:Shared) (H:Hp) (E:XK) (hr:Room k (A.deeper (envOfC "dated" (defScope s_dated) s.heap.objs.size f cdv))):SF (cxOf CX0 P w K mg base N_dated "dated" (defScope s_dated) f cdv A outer s H E).nox K false [some (.val great_),some (.val dates_),none,none,none,none] (defBody s_dated) (m_dated great_ dates_) .rt:=
 (SF.set (i:=2) sc_dated.nd rfl (Or.inr rfl) (e_callx g_nodes hr h_nodes rfl (a_cons (e_var 0) a_nil) rfl) fun houses_1=>
 (SF.setL (i:=3) sc_dated.nd rfl (Or.inr rfl) (l_cat rfl (ql_new (l_lstx (n:=1) (a_cons e_int a_nil) rfl)) (ql_new (l_sortI rfl rfl n_sorted (ql_new (l_callx g_split_dates hr h_split_dates rfl (a_cons (e_var 2) (a_cons (e_var 1) a_nil)) rfl))))) fun begins_3=>
 SF.frz 3 rfl (SF.setL (i:=4) sc_dated.nd rfl (Or.inl rfl) (l_callx g_standing hr h_standing rfl (a_cons (e_var 0) (a_cons (e_var 1) (a_cons (e_var 3) a_nil))) rfl) fun pairs_9=>
 SF.frz 4 rfl (SF.set (i:=5) sc_dated.nd rfl (Or.inr rfl) (e_dv (d_dictT rfl rfl (room_u hr) rfl n_dict (ql_new (l_mapT rfl lc_dated_0 (it_enum rfl rfl n_enumerate (i_val (e_var 4))) (fun _ _ _ _ _=>(g_2 rfl (pg_tup rfl (pgs_cons (pg_name (i:=0) lc_dated_0.nd rfl (Or.inl rfl) (Or.inr rfl)) (pgs_cons (pg_name (i:=1) lc_dated_0.nd rfl (Or.inl rfl) (Or.inr rfl)) pgs_nil))))) (fun _ _ _ _ _ t17=>(e_tupx (n:=2) (a_cons (e_var 1) (a_cons (e_var 0) a_nil)) rfl)) (lay2 rfl rfl (by decide)) (by decide))))) fun numbers_13=>
 (SF.retV (e_tuple rfl rfl n_tuple (q_new (l_map1 rfl lc_dated_1 (it_seq rfl (i_val (e_var 4))) (fun _ _ _ _ _=>(pg_name (i:=0) lc_dated_1.nd rfl (Or.inl rfl) (Or.inr rfl))) (fun _ _ _ _ _ p21=>(e_callx g_stay_of hr h_stay_of rfl (a_cons (e_var 3) (a_cons (e_var 2) (a_cons (e_var 1) (a_cons (e_var 4) (a_cons (e_var 0) a_nil))))) rfl)) rfl))) fun _=>rfl)))))
theorem c__law_pot {P:Program}{w:World}{K:PySem.W.Frag}{mg:Str→Option Value}{base:Heap}{f:Addr}{k:Nat} (n_len:mg "len"=none) (n_abs:mg "abs"=none) (n_int:mg "int"=none) (script_:PV) (k_:PV)
  (cdv:Value) (A:Around) (outer:List Env) (s:Shared) (H:Hp) (E:XK) (hr:Room k (A.deeper (envOfC "_law_pot" (defScope s__law_pot) s.heap.objs.size f cdv))):SF (cxOf CX0 P w K mg base N__law_pot "_law_pot" (defScope s__law_pot) f cdv A outer s H E).nox K false [some (.val script_),some (.val k_),none,none] (defBody s__law_pot) (m__law_pot script_ k_) .rl:=
 (SF.set (i:=2) sc__law_pot.nd rfl (Or.inl rfl) e_int fun cell_1=>
 (SF.ifS (out1:=fun (s3:PV)=>.nx ([some (.val script_),some (.val k_),some (.val s3),none]:FSt)) (t_cmp jc_lt (e_var 1) (e_len rfl rfl n_len (e_var 0)))
 (SF.set (i:=2) sc__law_pot.nd rfl (Or.inl rfl) (e_abs rfl n_abs (e_ix rfl (q_val (e_var 0)) (e_var 1) (fun _ _=>rfl))) fun cell_4=>
 (SF.nil rfl (.keep (.keep (.keep (.keep .nil))))))
 (SF.nil rfl (.keep (.keep (.keep (.keep .nil)))))
 fun s3=>(SF.set (i:=3) sc__law_pot.nd rfl (Or.inl rfl) (e_mul (e_mod (e_var 2) (e_mul (e_pow e_int e_int) (e_pow e_int e_int))) (e_toInt rfl n_int (e_cmp jc_ge (e_var 2) (e_pow e_int e_int)))) fun digits_5=>
 (SF.retLV (l_lstx (n:=3) (a_cons (e_var 3) (a_cons (e_mod (e_addF rfl (e_addF rfl (e_var 2) (e_mul e_int (e_var 1))) e_int) e_int) (a_cons e_int a_nil))) rfl) fun _=>rfl))))
theorem c__law_take {P:Program}{w:World}{K:PySem.W.Frag}{mg:Str→Option Value}{base:Heap}{f:Addr}{k:Nat} (many_:PV) (ad:Addr) (pot_here_:List PV)
  (cdv:Value) (A:Around) (outer:List Env) (s:Shared) (H:Hp) (E:XK) (hr:Room k (A.deeper (envOfC "_law_take" (defScope s__law_take) s.heap.objs.size f cdv))):SF (cxOf CX0 P w K mg base N__law_take "_law_take" (defScope s__law_take) f cdv A outer s H E).nox K false [some (.ol (some ad) pot_here_),some (.val many_),none,none] (defBody s__law_take) (m__law_take pot_here_ many_) (fun t=>.ro t.1 ad t.2):=
 (SF.ifR (t_cmp jc_gt (e_ix rfl (q_own 0) e_int (fun _ _=>rfl)) e_int)
 (SF.set (i:=2) sc__law_take.nd rfl (Or.inl rfl) (e_mod (e_ix rfl (q_own 0) e_int (fun _ _=>rfl)) (e_var 1)) fun digit_1=>
 (SF.setI 0 rfl rfl (.inl rfl) (e_div (e_ix rfl (q_own 0) e_int (fun _ _=>rfl)) (e_var 1)) e_int fun pot_here_2=>
 (SF.retI 0 (k:=fun x5=>(x5,pot_here_2)) rfl (e_var 2) fun _=>rfl)))
 (SF.augI 0 rfl rfl rfl (.inl rfl) e_int e_int ip_add ip_ok fun pot_here_9=>
 (SF.set (i:=3) sc__law_take.nd rfl (Or.inl rfl) (e_mod (e_addF rfl (e_addF rfl (e_mul (e_ix rfl (q_own 0) e_int (fun _ _=>rfl)) e_int) (e_mul e_int (e_ix rfl (q_own 0) e_int (fun _ _=>rfl)))) e_int) e_int) fun mixed_11=>
 (SF.setI 0 rfl rfl (.inl rfl) (e_mod (e_mul (e_var 3) (e_addF rfl (e_addF rfl (e_mod (e_var 3) e_int) (e_mul e_int (e_ix rfl (q_own 0) e_int (fun _ _=>rfl)))) e_int)) e_int) e_int fun pot_here_12=>
 (SF.retI 0 (k:=fun x15=>(x15,pot_here_12)) rfl (e_mod (e_div (e_ix rfl (q_own 0) e_int (fun _ _=>rfl)) e_int) (e_var 1)) fun _=>rfl)))))
theorem c__law_pick {P:Program}{w:World}{K:PySem.W.Frag}{mg:Str→Option Value}{base:Heap}{f:Addr}{k:Nat}{k__law_take:Nat} (n_len:mg "len"=none) (g__law_take:Cal P w K mg base "_law_take" k__law_take P__law_take (spF K [.p (PotP potG),.v] (unc 1 mt_take))) (h__law_take:k__law_take≤k) (some_:PV)
  (cdv:Value) (A:Around) (outer:List Env) (s:Shared) (H:Hp) (E:XK) (hr:Room k (A.deeper (envOfC "_law_pick" (defScope s__law_pick) s.heap.objs.size f cdv))):SF (cxOf CX0 P w K mg base N__law_pick "_law_pick" (defScope s__law_pick) f cdv A outer s H E).nox K false [some (.pot (PotP potG)),some (.val some_)] (defBody s__law_pick) (m__law_pick some_) .rt:=
 (SF.retV (e_ix rfl (q_val (e_var 1)) (e_callx g__law_take hr h__law_take rfl (a_pot 0 (a_cons (e_len rfl rfl n_len (e_var 1)) a_nil)) rfl) (fun _ _=>rfl)) fun _=>rfl)
theorem c__law_words {P:Program}{w:World}{K:PySem.W.Frag}{mg:Str→Option Value}{base:Heap}{f:Addr}{k:Nat}{k__law_take:Nat} (n_range:mg "range"=none) (g__law_take:Cal P w K mg base "_law_take" k__law_take P__law_take (spF K [.p (PotP potG),.v] (unc 1 mt_take))) (h__law_take:k__law_take≤k) (many_:PV)
  (cdv:Value) (A:Around) (outer:List Env) (s:Shared) (H:Hp) (E:XK) (hr:Room k (A.deeper (envOfC "_law_words" (defScope s__law_words) s.heap.objs.size f cdv))):SF (cxOf CX0 P w K mg base N__law_words "_law_words" (defScope s__law_words) f cdv A outer s H E).nox K false [some (.pot (PotP potG)),some (.val many_),none,none,none,none,none,none,none,none] (defBody s__law_words) (m__law_words many_) .rl:=
 (SF.set (i:=2) sc__law_words.nd rfl (Or.inl rfl) e_str fun letters_1=>
 (SF.set (i:=3) sc__law_words.nd rfl (Or.inl rfl) (e_callx g__law_take hr h__law_take rfl (a_pot 0 (a_cons e_int a_nil)) rfl) fun first_2=>
 (SF.set (i:=4) sc__law_words.nd rfl (Or.inl rfl) (e_ix rfl (q_new (l_lstx (n:=6) (a_cons e_int (a_cons e_int (a_cons e_int (a_cons e_int (a_cons e_int (a_cons e_int a_nil)))))) rfl)) (e_callx g__law_take hr h__law_take rfl (a_pot 0 (a_cons e_int a_nil)) rfl) (fun _ _=>rfl)) fun turn_4=>
 (SF.set (i:=5) sc__law_words.nd rfl (Or.inl rfl) (e_ix rfl (q_new (l_lstx (n:=2) (a_cons e_str (a_cons e_str a_nil)) rfl)) (e_callx g__law_take hr h__law_take rfl (a_pot 0 (a_cons e_int a_nil)) rfl) (fun _ _=>rfl)) fun stem_12=>
 (SF.setL (i:=6) sc__law_words.nd rfl (Or.inl rfl) (l_lstx (n:=4) (a_cons e_str (a_cons e_str (a_cons e_str (a_cons e_str a_nil)))) rfl) fun ends_16=>
 SF.frz 6 rfl (SF.setL (i:=7) sc__law_words.nd rfl (Or.inl rfl) (l_lstx (n:=0) a_nil rfl) fun found_21=>
 (SF.for1 (hd:=(fun (s23:List PV)=>([some (.pot (PotP potG)),some (.val many_),some (.val letters_1),some (.val first_2),some (.val turn_4),some (.val stem_12),some (.val (.cl ends_16)),some (.ol none s23),none,none]:FSt))) (s0:=found_21) PassesOwn.never rfl (it_rng1 rfl n_range (e_var 1)) (.keep (.keep (.keep (.keep (.keep (.keep (.keep (.keep (.keep (.keep .nil)))))))))) (pg_name (i:=8) sc__law_words.nd rfl (Or.inl rfl)) (fun s23 k_24=>
 (SF.set (i:=9) sc__law_words.nd rfl (Or.inl rfl) (e_ixS (e_var 2) (e_mod (e_addF rfl (e_var 3) (e_mul (e_var 4) (e_var 8))) e_int) (fun _ _=>rfl)) fun letter_25=>
 (SF.append 7 rfl rfl rfl (.inl rfl) (e_addF rfl (e_addF rfl (e_var 5) (e_var 9)) (e_ix rfl (q_val (e_var 6)) (e_mod (e_addF rfl (e_var 3) (e_var 8)) e_int) (fun _ _=>rfl))) fun found_26=>
 (SF.nilC rfl (.keep (.keep (.keep (.keep (.keep (.keep (.keep (.keep (.drop (.drop .nil)))))))))))))) fun s23=>
 (SF.retO 7 rfl rfl))))))))
theorem c__law_tree {P:Program}{w:World}{K:PySem.W.Frag}{mg:Str→Option Value}{base:Heap}{f:Addr}{k:Nat}{k__law_take:Nat} (n_list:mg "list"=none) (n_len:mg "len"=none) (g__law_take:Cal P w K mg base "_law_take" k__law_take P__law_take (spF K [.p (PotP potG),.v] (unc 1 mt_take))) (h__law_take:k__law_take≤k) (words_here_:PV)
  (cdv:Value) (A:Around) (outer:List Env) (s:Shared) (H:Hp) (E:XK) (hr:Room k (A.deeper (envOfC "_law_tree" (defScope s__law_tree) s.heap.objs.size f cdv))):SF (cxOf CX0 P w K mg base N__law_tree "_law_tree" (defScope s__law_tree) f cdv A outer s H E).nox K false [some (.pot (PotP potG)),some (.val words_here_),none,none,none,none] (defBody s__law_tree) (m__law_tree words_here_) .rt:=
 (SF.setL (i:=2) sc__law_tree.nd rfl (Or.inl rfl) (l_list rfl rfl n_list (q_val (e_var 1))) fun some_1=>
 (SF.set (i:=3) sc__law_tree.nd rfl (Or.inl rfl) (e_callx g__law_take hr h__law_take rfl (a_pot 0 (a_cons e_int a_nil)) rfl) fun way_2=>
 (SF.while (hd:=(fun (s4:List PV)=>([some (.pot (PotP potG)),some (.val words_here_),some (.ol none s4),some (.val way_2),none,none]:FSt))) (s0:=some_1) PassesOwn.never (.keep (.keep (.keep (.keep (.keep (.keep .nil)))))) (fun s4=>(t_cmp jc_gt (e_lenQ rfl rfl n_len (q_own 2)) e_int)) (fun s4=>
 (SF.set (i:=4) sc__law_tree.nd rfl (Or.inl rfl) (e_ix rfl (q_new (l_lstx (n:=4) (a_cons (e_callx g__law_take hr h__law_take rfl (a_pot 0 (a_cons (e_sub (e_lenQ rfl rfl n_len (q_own 2)) e_int) a_nil)) rfl) (a_cons (e_sub (e_lenQ rfl rfl n_len (q_own 2)) e_int) (a_cons e_int (a_cons e_int a_nil)))) rfl)) (e_var 3) (fun _ _=>rfl)) fun at_5=>
 (SF.set (i:=5) sc__law_tree.nd rfl (Or.inl rfl) (e_tupx (n:=2) (a_cons (e_ix rfl (q_own 2) (e_var 4) (fun _ _=>rfl)) (a_cons (e_ix rfl (q_own 2) (e_addF rfl (e_var 4) e_int) (fun _ _=>rfl)) a_nil)) rfl) fun pair_11=>
 (SF.ifS (out1:=fun (s18:PV)=>.nx ([some (.pot (PotP potG)),some (.val words_here_),some (.ol none s4),some (.val way_2),some (.val at_5),some (.val s18)]:FSt)) (TWF.t (tw_and (t_cmp (jf_eq rfl (room_u hr)) (e_var 3) e_int) (tw_and1 (t_cmp (jf_eq rfl (room_u hr)) (e_callx g__law_take hr h__law_take rfl (a_pot 0 (a_cons e_int a_nil)) rfl) e_int))))
 (SF.set (i:=5) sc__law_tree.nd rfl (Or.inl rfl) (e_tupx (n:=2) (a_cons (e_ix rfl (q_own 2) (e_addF rfl (e_var 4) e_int) (fun _ _=>rfl)) (a_cons (e_ix rfl (q_own 2) (e_var 4) (fun _ _=>rfl)) a_nil)) rfl) fun pair_19=>
 (SF.nil rfl (.keep (.keep (.keep (.keep (.keep (.keep .nil))))))))
 (SF.nil rfl (.keep (.keep (.keep (.keep (.keep (.keep .nil)))))))
 fun s18=>(SF.slset 2 rfl rfl (.inl rfl) (l_lstx (n:=1) (a_cons (e_var 5) a_nil) rfl) (e_var 4) (e_addF rfl (e_var 4) e_int) fun some_22=>
 (SF.nilC rfl (.keep (.keep (.keep (.keep (.drop (.drop .nil)))))))))))) fun s4=>
 (SF.retV (e_ix rfl (q_own 2) e_int (fun _ _=>rfl)) fun _=>rfl))))
theorem c__law_great {P:Program}{w:World}{K:PySem.W.Frag}{mg:Str→Option Value}{base:Heap}{f:Addr}{k:Nat}{k__law_tree:Nat}{k__law_words:Nat}{k__law_take:Nat} (n_int:mg "int"=none) (g__law_tree:Cal P w K mg base "_law_tree" k__law_tree P__law_tree (spF K [.p (PotP potG),.v] (unc 1 (m__law_tree)))) (h__law_tree:k__law_tree≤k) (g__law_words:Cal P w K mg base "_law_words" k__law_words P__law_words (spFL K [.p (PotP potG),.v] (unc 1 (m__law_words)))) (h__law_words:k__law_words≤k) (g__law_take:Cal P w K mg base "_law_take" k__law_take P__law_take (spF K [.p (PotP potG),.v] (unc 1 mt_take))) (h__law_take:k__law_take≤k)
  (cdv:Value) (A:Around) (outer:List Env) (s:Shared) (H:Hp) (E:XK) (hr:Room k (A.deeper (envOfC "_law_great" (defScope s__law_great) s.heap.objs.size f cdv))):SF (cxOf CX0 P w K mg base N__law_great "_law_great" (defScope s__law_great) f cdv A outer s H E).nox K false [some (.pot (PotP potG))] (defBody s__law_great) (m__law_great) .rt:=
 (SF.retV (e_callx g__law_tree hr h__law_tree rfl (a_pot 0 (a_cons (e_frz (l_callx g__law_words hr h__law_words rfl (a_pot 0 (a_cons (e_addF rfl e_int (e_callx g__law_take hr h__law_take rfl (a_pot 0 (a_cons (e_ix rfl (q_new (l_lstx (n:=2) (a_cons e_int (a_cons e_int a_nil)) rfl)) (e_toInt rfl n_int (e_cmp (jf_eq rfl (room_u hr)) (e_callx g__law_take hr h__law_take rfl (a_pot 0 (a_cons e_int a_nil)) rfl) e_int)) (fun _ _=>rfl)) a_nil)) rfl)) a_nil)) rfl)) a_nil)) rfl) fun _=>rfl)
theorem c__law_nodes {P:Program}{w:World}{K:PySem.W.Frag}{mg:Str→Option Value}{base:Heap}{f:Addr}{k:Nat}{k__law_nodes:Nat} (n_isinstance:mg "isinstance"=none) (n_str:mg "str"=none) (n_len:mg "len"=none) (n:Nat) (g__law_nodes:Cal P w K mg base "_law_nodes" k__law_nodes P__law_nodes (spFL K [.v] (unc 1 (m__law_nodes n)))) (h__law_nodes:k__law_nodes≤k) (tree_here_:PV)
  (cdv:Value) (A:Around) (outer:List Env) (s:Shared) (H:Hp) (E:XK) (hr:Room k (A.deeper (envOfC "_law_nodes" (defScope s__law_nodes) s.heap.objs.size f cdv))):SF (cxOf CX0 P w K mg base N__law_nodes "_law_nodes" (defScope s__law_nodes) f cdv A outer s H E).nox K false [some (.val tree_here_),none,none,none] (defBody s__law_nodes) (m__law_nodes (n+1) tree_here_) .rl:=
 (SF.ifR (t_tru rfl (e_isi rfl .str rfl n_isinstance (e_var 0) rfl n_str boot_str) (fun _=>rfl))
 (SF.retLV (l_lstx (n:=1) (a_cons (e_var 0) a_nil) rfl) fun _=>rfl)
 (SF.setL (i:=1) sc__law_nodes.nd rfl (Or.inl rfl) (l_callx g__law_nodes hr h__law_nodes rfl (a_cons (e_ix rfl (q_val (e_var 0)) e_int (fun _ _=>rfl)) a_nil) rfl) fun rows_2=>
 (SF.set (i:=2) sc__law_nodes.nd rfl (Or.inl rfl) (e_lenQ rfl rfl n_len (q_own 1)) fun many_4=>
 (SF.for1 (hd:=(fun (s6:List PV)=>([some (.val tree_here_),some (.ol none s6),some (.val many_4),none]:FSt))) (s0:=rows_2) PassesOwn.never rfl (it_seq rfl (i_new (l_callx g__law_nodes hr h__law_nodes rfl (a_cons (e_ix rfl (q_val (e_var 0)) e_int (fun _ _=>rfl)) a_nil) rfl))) (.keep (.keep (.keep (.keep .nil)))) (pg_name (i:=3) sc__law_nodes.nd rfl (Or.inl rfl)) (fun s6 row_7=>
 (SF.append 1 rfl rfl rfl (.inl rfl) (e_if (t_tru rfl (e_isi rfl .str rfl n_isinstance (e_var 3) rfl n_str boot_str) (fun _=>rfl)) (e_var 3) (e_tupx (n:=2) (a_cons (e_addF rfl (e_ix rfl (q_val (e_var 3)) e_int (fun _ _=>rfl)) (e_var 2)) (a_cons (e_addF rfl (e_ix rfl (q_val (e_var 3)) e_int (fun _ _=>rfl)) (e_var 2)) a_nil)) rfl)) fun rows_8=>
 (SF.nilC rfl (.keep (.keep (.keep (.drop .nil))))))) fun s6=>
 (SF.retLV (l_cat rfl (ql_own 1) (ql_new (l_lstx (n:=1) (a_cons (e_tupx (n:=2) (a_cons (e_sub (e_var 2) e_int) (a_cons (e_sub (e_lenQ rfl rfl n_len (q_own 1)) e_int) a_nil)) rfl) a_nil) rfl))) fun _=>rfl)))))
theorem c__law_ahead {P:Program}{w:World}{K:PySem.W.Frag}{mg:Str→Option Value}{base:Heap}{f:Addr}{k:Nat} (n_len:mg "len"=none) (n_enumerate:mg "enumerate"=none) (n_isinstance:mg "isinstance"=none) (n_str:mg "str"=none) (rows_:PV)
  (cdv:Value) (A:Around) (outer:List Env) (s:Shared) (H:Hp) (E:XK) (hr:Room k (A.deeper (envOfC "_law_ahead" (defScope s__law_ahead) s.heap.objs.size f cdv))):SF (cxOf CX0 P w K mg base N__law_ahead "_law_ahead" (defScope s__law_ahead) f cdv A outer s H E).nox K false [some (.val rows_),none,none,none] (defBody s__law_ahead) (m__law_ahead rows_) .rl:=
 (SF.setL (i:=1) sc__law_ahead.nd rfl (Or.inl rfl) (l_rep (l_lstx (n:=1) (a_cons e_non a_nil) rfl) (e_len rfl rfl n_len (e_var 0))) fun found_1=>
 (SF.forT (hd:=(fun (s6:List PV)=>([some (.val rows_),some (.ol none s6),none,none]:FSt))) (s0:=found_1) PassesOwn.never rfl (it_enum rfl rfl n_enumerate (i_val (e_var 0))) (.keep (.keep (.keep (.keep .nil)))) (fun _=>(g_2 rfl (pg_tup rfl (pgs_cons (pg_name (i:=2) sc__law_ahead.nd rfl (Or.inl rfl)) (pgs_cons (pg_name (i:=3) sc__law_ahead.nd rfl (Or.inl rfl)) pgs_nil))))) (fun s6 t8=>
 (SF.ifT (t_not (t_tru rfl (e_isi rfl .str rfl n_isinstance (e_var 3) rfl n_str boot_str) (fun _=>rfl)))
 (SF.setI 1 rfl rfl (.inl rfl) (e_var 2) (e_ix rfl (q_val (e_var 3)) e_int (fun _ _=>rfl)) fun found_9=>
 (SF.setI 1 rfl rfl (.inl rfl) (e_var 2) (e_ix rfl (q_val (e_var 3)) e_int (fun _ _=>rfl)) fun found_12=>
 (SF.nilC rfl (.keep (.keep (.drop (.drop .nil)))))))
 (SF.nilC rfl (.keep (.keep (.drop (.drop .nil))))))) fun s6=>
 (SF.retO 1 rfl rfl)))
theorem c__law_dates {P:Program}{w:World}{K:PySem.W.Frag}{mg:Str→Option Value}{base:Heap}{f:Addr}{k:Nat}{k__law_pick:Nat}{k__law_take:Nat} (n_len:mg "len"=none) (n_enumerate:mg "enumerate"=none) (n_isinstance:mg "isinstance"=none) (n_str:mg "str"=none) (n_tuple:mg "tuple"=none) (g__law_pick:Cal P w K mg base "_law_pick" k__law_pick P__law_pick (spF K [.p (PotP potG),.v] (unc 1 (m__law_pick)))) (h__law_pick:k__law_pick≤k) (g__law_take:Cal P w K mg base "_law_take" k__law_take P__law_take (spF K [.p (PotP potG),.v] (unc 1 mt_take))) (h__law_take:k__law_take≤k) (rows_:PV)
  (cdv:Value) (A:Around) (outer:List Env) (s:Shared) (H:Hp) (E:XK) (hr:Room k (A.deeper (envOfC "_law_dates" (defScope s__law_dates) s.heap.objs.size f cdv))):SF (cxOf CX0 P w K mg base N__law_dates "_law_dates" (defScope s__law_dates) f cdv A outer s H E).nox K false [some (.pot (PotP potG)),some (.val rows_),none,none,none,none,none] (defBody s__law_dates) (m__law_dates rows_) .rt:=
 (SF.setL (i:=2) sc__law_dates.nd rfl (Or.inl rfl) (l_rep (l_lstx (n:=1) (a_cons e_int a_nil) rfl) (e_len rfl rfl n_len (e_var 1))) fun dates_here_1=>
 (SF.setL (i:=4) sc__law_dates.nd rfl (Or.inr rfl) (l_lcT rfl lc__law_dates_0 (it_enum rfl rfl n_enumerate (i_val (e_var 1))) (fun _ _ _ _ _=>(g_2 rfl (pg_tup rfl (pgs_cons (pg_name (i:=0) lc__law_dates_0.nd rfl (Or.inl rfl) (Or.inr rfl)) (pgs_cons (pg_name (i:=1) lc__law_dates_0.nd rfl (Or.inl rfl) (Or.inr rfl)) pgs_nil))))) (fun _ _ _ _ _ t9=>(t_not (t_tru rfl (e_isi rfl .str rfl n_isinstance (e_var 1) rfl n_str boot_str) (fun _=>rfl)))) (fun _ _ _ _ _ t9=>(e_var 0)) (lay2 rfl rfl (by decide)) (by decide)) fun left_5=>
 (SF.set (i:=5) sc__law_dates.nd rfl (Or.inl rfl) e_int fun date_10=>
 (SF.while (hd:=(fun (s11:List PV×List PV×PV)=>([some (.pot (PotP potG)),some (.val rows_),some (.ol none s11.1),none,some (.ol none s11.2.1),some (.val s11.2.2),none]:FSt))) (s0:=(dates_here_1,left_5,date_10)) PassesOwn.never (.keep (.keep (.keep (.keep (.keep (.keep (.keep .nil))))))) (fun s11=>(t_neN rfl (room_u hr) (ql_own 4))) (fun s11=>
 (SF.as (as_bor 4 rfl (as_lc1 (i:=6) rfl sc__law_dates.nd rfl rfl lc__law_dates_1 (it_seq rfl (i_val (e_var 4))) (fun _ _ _ _ _=>(pg_name (i:=0) lc__law_dates_1.nd rfl (Or.inl rfl) (Or.inr rfl))) (fun _ _ _ _ _ p15=>(TWF.t (tw_and (t_ninF rfl (room_u hr) (e_ix rfl (q_val (e_ix rfl (q_val (e_var 2)) (e_var 0) (fun _ _=>rfl))) e_int (fun _ _=>rfl)) (q_val (e_var 1))) (tw_and1 (t_ninF rfl (room_u hr) (e_ix rfl (q_val (e_ix rfl (q_val (e_var 2)) (e_var 0) (fun _ _=>rfl))) e_int (fun _ _=>rfl)) (q_val (e_var 1))))))) (fun _ _ _ _ _ p15=>(e_var 0)) rfl)) fun ready_13=>
 SF.frz 6 rfl (SF.set (i:=3) sc__law_dates.nd rfl (Or.inl rfl) (e_callx g__law_pick hr h__law_pick rfl (a_pot 0 (a_cons (e_var 6) a_nil)) rfl) fun house_16=>
 (SF.set (i:=5) sc__law_dates.nd rfl (Or.inl rfl) (e_addF rfl (e_addF rfl (e_var 5) e_int) (e_callx g__law_take hr h__law_take rfl (a_pot 0 (a_cons (e_ix rfl (q_new (l_lstx (n:=3) (a_cons e_int (a_cons e_int (a_cons e_int a_nil))) rfl)) (e_callx g__law_take hr h__law_take rfl (a_pot 0 (a_cons e_int a_nil)) rfl) (fun _ _=>rfl)) a_nil)) rfl)) fun date_18=>
 (SF.setI 2 rfl rfl (.inl rfl) (e_var 5) (e_var 3) fun dates_here_24=>
 (SF.remove 4 rfl rfl rfl (.inr (.inl rfl)) (e_var 3) fun left_27=>
 (SF.nilC rfl (.keep (.keep (.keep (.drop (.keep (.keep (.drop .nil)))))))))))))) fun s11=>
 (SF.retV (e_tuple rfl rfl n_tuple (q_own 2)) fun _=>rfl)))))
theorem c__law_standing {P:Program}{w:World}{K:PySem.W.Frag}{mg:Str→Option Value}{base:Heap}{f:Addr}{k:Nat}{k__law_ahead:Nat} (n_sorted:mg "sorted"=none) (n_dict:mg "dict"=none) (n_enumerate:mg "enumerate"=none) (n_len:mg "len"=none) (n_range:mg "range"=none) (n_int:mg "int"=none) (g__law_ahead:Cal P w K mg base "_law_ahead" k__law_ahead P__law_ahead (spFL K [.v] (unc 1 (m__law_ahead)))) (h__law_ahead:k__law_ahead≤k) (rows_:PV) (dates_here_:PV)
  (cdv:Value) (A:Around) (outer:List Env) (s:Shared) (H:Hp) (E:XK) (hr:Room k (A.deeper (envOfC "_law_standing" (defScope s__law_standing) s.heap.objs.size f cdv))):SF (cxOf CX0 P w K mg base N__law_standing "_law_standing" (defScope s__law_standing) f cdv A outer s H E).nox K false [some (.val rows_),some (.val dates_here_),none,none,none,none,none,none,none,none] (defBody s__law_standing) (m__law_standing rows_ dates_here_) .rt:=
 (SF.setL (i:=2) sc__law_standing.nd rfl (Or.inl rfl) (l_callx g__law_ahead hr h__law_ahead rfl (a_cons (e_var 0) a_nil) rfl) fun ahead_here_1=>
 SF.frz 2 rfl (SF.setL (i:=3) sc__law_standing.nd rfl (Or.inl rfl) (l_sortD rfl rfl rfl n_sorted rfl n_dict (ql_new (l_map1 rfl lc__law_standing_0 (it_seq rfl (i_val (e_var 1))) (fun _ _ _ _ _=>(pg_name (i:=0) lc__law_standing_0.nd rfl (Or.inl rfl) (Or.inr rfl))) (fun _ _ _ _ _ p5=>(e_tupx (n:=2) (a_cons (e_var 0) (a_cons e_bl a_nil)) rfl)) rfl))) fun floors_3=>
 SF.frz 3 rfl (SF.setL (i:=4) sc__law_standing.nd rfl (Or.inl rfl) (l_lstx (n:=0) a_nil rfl) fun found_8=>
 (SF.forT (hd:=(fun (s10:List PV)=>([some (.val rows_),some (.val dates_here_),some (.val (.cl ahead_here_1)),some (.val (.cl floors_3)),some (.ol none s10),none,none,none,none,none]:FSt))) (s0:=found_8) PassesOwn.never rfl (it_enum rfl rfl n_enumerate (i_val (e_var 3))) (.keep (.keep (.keep (.keep (.keep (.keep (.keep (.keep (.keep (.keep .nil)))))))))) (fun _=>(g_2 rfl (pg_tup rfl (pgs_cons (pg_name (i:=5) sc__law_standing.nd rfl (Or.inl rfl)) (pgs_cons (pg_name (i:=6) sc__law_standing.nd rfl (Or.inl rfl)) pgs_nil))))) (fun s10 t12=>
 (SF.for1 (hd:=(fun (s14:List PV)=>([some (.val rows_),some (.val dates_here_),some (.val (.cl ahead_here_1)),some (.val (.cl floors_3)),some (.ol none s14),some (.val t12.1),some (.val t12.2),none,none,none]:FSt))) (s0:=s10) PassesOwn.never rfl (it_rng1 rfl n_range (e_len rfl rfl n_len (e_var 0))) (.keep (.keep (.keep (.keep (.keep (.keep (.keep (.keep (.keep (.keep .nil)))))))))) (pg_name (i:=7) sc__law_standing.nd rfl (Or.inl rfl)) (fun s14 house_15=>
 (SF.set (i:=8) sc__law_standing.nd rfl (Or.inl rfl) (e_ix rfl (q_val (e_var 2)) (e_var 7) (fun _ _=>rfl)) fun above_16=>
 (SF.set (i:=9) sc__law_standing.nd rfl (Or.inl rfl) (e_and (e_cmp jc_le (e_ix rfl (q_val (e_var 1)) (e_var 7) (fun _ _=>rfl)) (e_var 6)) (e_one (e_or (e_cmp jc_isN (e_var 8) e_non) (e_one (e_cmp jc_gt (e_ix rfl (q_val (e_var 1)) (e_var 8) (fun _ _=>rfl)) (e_var 6)))))) fun stands_17=>
 (SF.extend 4 rfl rfl rfl (.inl rfl) (q_new (l_rep (l_lstx (n:=1) (a_cons (e_tupx (n:=2) (a_cons (e_var 7) (a_cons (e_var 5) a_nil)) rfl) a_nil) rfl) (e_toInt rfl n_int (e_var 9)))) fun found_18=>
 (SF.nilC rfl (.keep (.keep (.keep (.keep (.keep (.keep (.keep (.drop (.drop (.drop .nil))))))))))))))) fun s14=>
 (SF.nilC rfl (.keep (.keep (.keep (.keep (.keep (.drop (.drop (.keep (.keep (.keep .nil))))))))))))) fun s10=>
 (SF.frz 4 rfl (SF.retV (e_tupx (n:=2) (a_cons (e_var 3) (a_cons (e_var 4) a_nil)) rfl) fun _=>rfl))))))
theorem c__law_dated_ground {P:Program}{w:World}{K:PySem.W.Frag}{mg:Str→Option Value}{base:Heap}{f:Addr}{k:Nat}{k__law_nodes:Nat}{k__law_standing:Nat} (n_isinstance:mg "isinstance"=none) (n_str:mg "str"=none) (n_list:mg "list"=none) (n_tuple:mg "tuple"=none) (n_enumerate:mg "enumerate"=none) (g__law_nodes:Cal P w K mg base "_law_nodes" k__law_nodes P__law_nodes (spFL K [.v] (unc 1 (m__law_nodes 9)))) (h__law_nodes:k__law_nodes≤k) (g__law_standing:Cal P w K mg base "_law_standing" k__law_standing P__law_standing (spF K [.v,.v] (unc 2 (m__law_standing)))) (h__law_standing:k__law_standing≤k) (great_here_:PV) (dates_here_:PV)
  (cdv:Value) (A:Around) (outer:List Env) (s:Shared) (H:Hp) (E:XK) (hr:Room k (A.deeper (envOfC "_law_dated_ground" (defScope s__law_dated_ground) s.heap.objs.size f cdv))):SF (cxOf CX0 P w K mg base N__law_dated_ground "_law_dated_ground" (defScope s__law_dated_ground) f cdv A outer s H E).nox K false [some (.val great_here_),some (.val dates_here_),none,none,none,none,none,none,none,none,none,none] (defBody s__law_dated_ground) (m__law_dated_ground great_here_ dates_here_) .rt:=
 (SF.setL (i:=2) sc__law_dated_ground.nd rfl (Or.inl rfl) (l_callx g__law_nodes hr h__law_nodes rfl (a_cons (e_var 0) a_nil) rfl) fun rows_1=>
 SF.frz 2 rfl (SF.setT (e_callx g__law_standing hr h__law_standing rfl (a_cons (e_var 2) (a_cons (e_var 1) a_nil)) rfl) (g_2 rfl (pg_tup rfl (pgs_cons (pg_name (i:=3) sc__law_dated_ground.nd rfl (Or.inl rfl)) (pgs_cons (pg_name (i:=4) sc__law_dated_ground.nd rfl (Or.inr rfl)) pgs_nil)))) fun t6=>
 (SF.setL (i:=5) sc__law_dated_ground.nd rfl (Or.inl rfl) (l_lstx (n:=0) a_nil rfl) fun stays_7=>
 (SF.forT (hd:=(fun (s8:List PV)=>([some (.val great_here_),some (.val dates_here_),some (.val (.cl rows_1)),some (.val t6.1),some (.val t6.2),some (.ol none s8),none,none,none,none,none,none]:FSt))) (s0:=stays_7) PassesOwn.never rfl (it_seq rfl (i_val (e_var 4))) (.keep (.keep (.keep (.keep (.keep (.keep (.keep (.keep (.keep (.keep (.keep (.keep .nil)))))))))))) (fun _=>(g_2 rfl (pg_tup rfl (pgs_cons (pg_name (i:=6) sc__law_dated_ground.nd rfl (Or.inr rfl)) (pgs_cons (pg_name (i:=7) sc__law_dated_ground.nd rfl (Or.inr rfl)) pgs_nil))))) (fun s8 t10=>
 (SF.set (i:=8) sc__law_dated_ground.nd rfl (Or.inl rfl) (e_ix rfl (q_val (e_var 2)) (e_var 6) (fun _ _=>rfl)) fun row_11=>
 (SF.setL (i:=9) sc__law_dated_ground.nd rfl (Or.inl rfl) (l_lstx (n:=1) (a_cons (e_var 6) a_nil) rfl) fun lower_12=>
 SF.frz 9 rfl (SF.ifS (out1:=fun (s15:PV)=>.nx ([some (.val great_here_),some (.val dates_here_),some (.val (.cl rows_1)),some (.val t6.1),some (.val t6.2),some (.ol none s8),some (.val t10.1),some (.val t10.2),some (.val row_11),some (.val s15),none,none]:FSt)) (t_cmp (jf_eq rfl (room_u hr)) (e_ix rfl (q_val (e_var 1)) (e_var 6) (fun _ _=>rfl)) (e_ix rfl (q_val (e_var 3)) (e_var 7) (fun _ _=>rfl)))
 (SF.setL (i:=9) sc__law_dated_ground.nd rfl (Or.inl rfl) (l_if (t_tru rfl (e_isi rfl .str rfl n_isinstance (e_var 8) rfl n_str boot_str) (fun _=>rfl)) (l_lstx (n:=0) a_nil rfl) (l_list rfl rfl n_list (q_val (e_var 8)))) fun lower_16=>
 SF.frz 9 rfl (SF.nil rfl (.keep (.keep (.keep (.keep (.keep (.keep (.keep (.keep (.keep (.keep (.keep (.keep .nil))))))))))))))
 (SF.nil rfl (.keep (.keep (.keep (.keep (.keep (.keep (.keep (.keep (.keep (.keep (.keep (.keep .nil)))))))))))))
 fun s15=>(SF.set (i:=10) sc__law_dated_ground.nd rfl (Or.inl rfl) (e_tuple rfl rfl n_tuple (q_new (l_map1 rfl lc__law_dated_ground_0 (it_seq rfl (i_val (e_var 9))) (fun _ _ _ _ _=>(pg_name (i:=0) lc__law_dated_ground_0.nd rfl (Or.inl rfl) (Or.inr rfl))) (fun _ _ _ _ _ p19=>(e_index rfl (room_u hr) (ql_val (e_var 2)) (e_tupx (n:=2) (a_cons (e_var 0) (a_cons (e_sub (e_var 1) e_int) a_nil)) rfl))) rfl))) fun under_17=>
 (SF.set (i:=11) sc__law_dated_ground.nd rfl (Or.inl rfl) (e_tuple rfl rfl n_tuple (q_new (l_lcT rfl lc__law_dated_ground_1 (it_enum rfl rfl n_enumerate (i_val (e_var 4))) (fun _ _ _ _ _=>(g_2 rfl (pg_tup rfl (pgs_cons (pg_name (i:=0) lc__law_dated_ground_1.nd rfl (Or.inl rfl) (Or.inr rfl)) (pgs_cons (pg_name (i:=1) lc__law_dated_ground_1.nd rfl (Or.inl rfl) (Or.inr rfl)) pgs_nil))))) (fun _ _ _ _ _ t28=>(TWF.t (tw_and (t_cmp (jf_eq rfl (room_u hr)) (e_ix rfl (q_val (e_var 1)) e_int (fun _ _=>rfl)) (e_var 3)) (tw_and1 (t_cmp (jf_ne rfl (room_u hr)) (e_ix rfl (q_val (e_var 1)) e_int (fun _ _=>rfl)) (e_var 2)))))) (fun _ _ _ _ _ t28=>(e_var 0)) (lay2 rfl rfl (by decide)) (by decide)))) fun beside_24=>
 (SF.append 5 rfl rfl rfl (.inl rfl) (e_tupx (n:=4) (a_cons (e_if (t_tru rfl (e_isi rfl .str rfl n_isinstance (e_var 8) rfl n_str boot_str) (fun _=>rfl)) (e_var 8) (e_var 6)) (a_cons (e_var 7) (a_cons (e_var 10) (a_cons (e_var 11) a_nil)))) rfl) fun stays_29=>
 (SF.nilC rfl (.keep (.keep (.keep (.keep (.keep (.keep (.drop (.drop (.drop (.drop (.drop (.drop .nil)))))))))))))))))))) fun s8=>
 (SF.retV (e_tuple rfl rfl n_tuple (q_own 5)) fun _=>rfl)))))
theorem c__law_same {P:Program}{w:World}{K:PySem.W.Frag}{mg:Str→Option Value}{base:Heap}{f:Addr}{k:Nat}{k__law_same:Nat} (n_isinstance:mg "isinstance"=none) (n_tuple:mg "tuple"=none) (n_len:mg "len"=none) (n_zip:mg "zip"=none) (n_all:mg "all"=none) (n_str:mg "str"=none) (n_bool:mg "bool"=none) (n_int:mg "int"=none) (n:Nat) (g__law_same:Cal P w K mg base "_law_same" k__law_same P__law_same (spF K [.v,.v] (unc 2 (m__law_same n)))) (h__law_same:k__law_same≤k) (found_:PV) (due_:PV)
  (cdv:Value) (A:Around) (outer:List Env) (s:Shared) (H:Hp) (E:XK) (hr:Room k (A.deeper (envOfC "_law_same" (defScope s__law_same) s.heap.objs.size f cdv))):SF (cxOf CX0 P w K mg base N__law_same "_law_same" (defScope s__law_same) f cdv A outer s H E).nox K false [some (.val found_),some (.val due_)] (defBody s__law_same) (m__law_same (n+1) found_ due_) .rt:=
 (SF.ifR (t_tru rfl (e_isi rfl .tup rfl n_isinstance (e_var 1) rfl n_tuple boot_tuple) (fun _=>rfl))
 (SF.ifR (TWF.t (tw_or (t_not (t_tru rfl (e_isi rfl .tup rfl n_isinstance (e_var 0) rfl n_tuple boot_tuple) (fun _=>rfl))) (tw_or1 (t_cmp (jf_ne rfl (room_u hr)) (e_len rfl rfl n_len (e_var 0)) (e_len rfl rfl n_len (e_var 1))))))
 (SF.retV e_bl fun _=>rfl)
 (SF.retV (e_all rfl rfl rfl n_all (ql_new (l_mapT rfl lc__law_same_0 (it_zip rfl rfl n_zip (i_val (e_var 0)) (i_val (e_var 1))) (fun _ _ _ _ _=>(g_2 rfl (pg_tup rfl (pgs_cons (pg_name (i:=0) lc__law_same_0.nd rfl (Or.inl rfl) (Or.inr rfl)) (pgs_cons (pg_name (i:=1) lc__law_same_0.nd rfl (Or.inl rfl) (Or.inr rfl)) pgs_nil))))) (fun _ _ _ _ _ t5=>(e_callx g__law_same hr h__law_same rfl (a_cons (e_var 0) (a_cons (e_var 1) a_nil)) rfl)) (lay2 rfl rfl (by decide)) (by decide)))) fun _=>rfl))
 (SF.ifR (TWF.t (tw_or (t_tru rfl (e_isi rfl .str rfl n_isinstance (e_var 1) rfl n_str boot_str) (fun _=>rfl)) (tw_or1 (t_cmp jc_isN (e_var 1) e_non))))
 (SF.retV (e_and (e_cmp (jf_eq rfl (room_u hr)) (e_isi rfl .str rfl n_isinstance (e_var 0) rfl n_str boot_str) (e_isi rfl .str rfl n_isinstance (e_var 1) rfl n_str boot_str)) (e_one (e_cmp (jf_eq rfl (room_u hr)) (e_var 0) (e_var 1)))) fun _=>rfl)
 (SF.retV (e_and (e_isi rfl .int rfl n_isinstance (e_var 0) rfl n_int boot_int) (e_and (e_not (e_isi rfl .bool rfl n_isinstance (e_var 0) rfl n_bool boot_bool)) (e_one (e_cmp (jf_eq rfl (room_u hr)) (e_var 0) (e_var 1))))) fun _=>rfl)))
theorem c_law {P:Program}{w:World}{K:PySem.W.Frag}{mg:Str→Option Value}{base:Heap}{f:Addr}{k:Nat}{k__law_pot:Nat}{k__law_great:Nat}{k__law_dates:Nat}{k__law_nodes:Nat}{k__law_dated_ground:Nat}{k__law_same:Nat}{k_dated:Nat} (n_len:mg "len"=none) (n_min:mg "min"=none) (n_max:mg "max"=none) (n_range:mg "range"=none) (g__law_pot:Cal P w K mg base "_law_pot" k__law_pot P__law_pot (spFL K [.v,.v] (unc 2 (m__law_pot)))) (h__law_pot:k__law_pot≤k) (g__law_great:Cal P w K mg base "_law_great" k__law_great P__law_great (spF K [.p (PotP potG)] (unc 0 (m__law_great)))) (h__law_great:k__law_great≤k) (g__law_dates:Cal P w K mg base "_law_dates" k__law_dates P__law_dates (spF K [.p (PotP potG),.v] (unc 1 (m__law_dates)))) (h__law_dates:k__law_dates≤k) (g__law_nodes:Cal P w K mg base "_law_nodes" k__law_nodes P__law_nodes (spFL K [.v] (unc 1 (m__law_nodes 9)))) (h__law_nodes:k__law_nodes≤k) (g__law_dated_ground:Cal P w K mg base "_law_dated_ground" k__law_dated_ground P__law_dated_ground (spF K [.v,.v] (unc 2 (m__law_dated_ground)))) (h__law_dated_ground:k__law_dated_ground≤k) (g__law_same:Cal P w K mg base "_law_same" k__law_same P__law_same (spF K [.v,.v] (unc 2 (m__law_same 4)))) (h__law_same:k__law_same≤k) (g_dated:Cal P w K mg base "dated" k_dated P_dated (spF K [.v,.v] (unc 2 (m_dated)))) (h_dated:k_dated≤k) (script_:PV)
  (cdv:Value) (A:Around) (outer:List Env) (s:Shared) (H:Hp) (E:XK) (hr:Room k (A.deeper (envOfC "law" (defScope s_law) s.heap.objs.size f cdv))):SF (cxOf CX0 P w K mg base N_law "law" (defScope s_law) f cdv A outer s H E).nox K false [some (.val script_),none,none,none,none,none,none] (defBody s_law) (m_law_3 script_) .rt:=
 (SF.forF1 (hd:=(fun (s6:Unit)=>([some (.val script_),none,none,none,none,none,none]:FSt))) (s0:=()) (inj:=id) PassesOwn.never rfl (it_rng1 rfl n_range (e_max rfl rfl n_max e_int (e_min rfl rfl n_min (e_len rfl rfl n_len (e_var 0)) e_int))) (.keep (.keep (.keep (.keep (.keep (.keep (.keep .nil))))))) (pg_name (i:=1) sc_law.nd rfl (Or.inl rfl)) (fun _=>trivial) (fun s6 k_7=>
 (SF.setL (i:=2) sc_law.nd rfl (Or.inl rfl) (l_callx g__law_pot hr h__law_pot rfl (a_cons (e_var 0) (a_cons (e_var 1) a_nil)) rfl) fun pot_here_8=>SF.pot 2 rfl
 (SF.forF1 (hd:=(fun (s12:Unit)=>([some (.val script_),some (.val k_7),some (.pot (PotP potG)),none,none,none,none]:FSt))) (s0:=()) (inj:=Lp.out) PassesOwn.never rfl (it_rng1 rfl n_range e_int) (.keep (.keep (.keep (.keep (.keep (.keep (.keep .nil))))))) (pg_name (i:=3) sc_law.nd rfl (Or.inl rfl)) (fun _=>trivial) (fun s12 turn_13=>
 (SF.set (i:=4) sc_law.nd rfl (Or.inl rfl) (e_callx g__law_great hr h__law_great rfl (a_pot 2 a_nil) rfl) fun great_here_14=>
 (SF.set (i:=5) sc_law.nd rfl (Or.inl rfl) (e_callx g__law_dates hr h__law_dates rfl (a_pot 2 (a_cons (e_frz (l_callx g__law_nodes hr h__law_nodes rfl (a_cons (e_var 4) a_nil) rfl)) a_nil)) rfl) fun dates_here_15=>
 (SF.set (i:=6) sc_law.nd rfl (Or.inl rfl) (e_callx g__law_dated_ground hr h__law_dated_ground rfl (a_cons (e_var 4) (a_cons (e_var 5) a_nil)) rfl) fun due_18=>
 (SF.ifT (TWF.t (tw_or (t_not (t_tru rfl (e_callx g__law_same hr h__law_same rfl (a_cons (e_callx g_dated hr h_dated rfl (a_cons (e_var 4) (a_cons (e_var 5) a_nil)) rfl) (a_cons (e_var 6) a_nil)) rfl) (fun _=>rfl))) (tw_or1 (t_not (t_tru rfl (e_callx g__law_same hr h__law_same rfl (a_cons (e_callx g_dated hr h_dated rfl (a_cons (e_var 4) (a_cons (e_var 5) a_nil)) rfl) (a_cons (e_var 6) a_nil)) rfl) (fun _=>rfl))))))
 (SF.ret (k:=fun x29=>(Lp.out x29)) e_bl fun _=>rfl)
 (SF.nilC rfl (.keep (.keep (.keep (.drop (.drop (.drop (.drop .nil))))))))))))) fun s12=>
 (SF.nilC rfl (.keep (.drop (.drop (.keep (.keep (.keep (.keep .nil))))))))))) fun s6=>
 (SF.retV (e_callx g__law_same hr h__law_same rfl (a_cons (e_callx g_dated hr h_dated rfl (a_cons e_str (a_cons (e_tupx (n:=1) (a_cons e_int a_nil) rfl) a_nil)) rfl) (a_cons (e_tupx (n:=1) (a_cons (e_tupx (n:=4) (a_cons e_str (a_cons e_int (a_cons (e_tupx (n:=0) a_nil rfl) (a_cons (e_tupx (n:=0) a_nil rfl) a_nil)))) rfl) a_nil) rfl) a_nil)) rfl) fun _=>rfl))
end My
set_option Elab.async false
set_option linter.all false
set_option maxRecDepth 100000
set_option maxHeartbeats 1000000
namespace My
open PySem PySem.Spec PyProof.Rows L2 PL FL
theorem k_parts_of {P:Program}{w:World}{K:PySem.W.Frag}{mg:Str→Option Value}{base:Heap}{f:Addr}{fd:FuncData} (Fn:Fun K "parts_of" "parts_of" s_parts_of f fd) (n_isinstance:mg "isinstance"=none) (n_str:mg "str"=none) (n_list:mg "list"=none) (n_reversed:mg "reversed"=none):FnOk P w K mg base CX0 1 f fd P_parts_of (spFL K [.v] (unc 1 My.m_parts_of)):=
 fnL (n:=1) (m:=My.m_parts_of) Fn sc_parts_of rfl (one_v one_nil) (fun l hl=>match l,hl with | [x0],_=>fun cdv A outer s H E hr=>c_parts_of n_isinstance n_str n_list n_reversed x0 cdv A outer s H E hr)
theorem k_nodes {P:Program}{w:World}{K:PySem.W.Frag}{mg:Str→Option Value}{base:Heap}{f:Addr}{fd:FuncData} (Fn:Fun K "nodes" "nodes" s_nodes f fd) (n_isinstance:mg "isinstance"=none) (n_str:mg "str"=none) (n_len:mg "len"=none) (n_tuple:mg "tuple"=none) (T_parts_of:Cal P w K mg base "parts_of" 1 P_parts_of (spFL K [.v] (unc 1 (My.m_parts_of)))):FnOk P w K mg base CX0 2 f fd P_nodes (spF K [.v] (unc 1 My.m_nodes)):=
 fnV (n:=1) (m:=My.m_nodes) Fn sc_nodes rfl (one_v one_nil) (fun l hl=>match l,hl with | [x0],_=>fun cdv A outer s H E hr=>c_nodes n_isinstance n_str n_len n_tuple T_parts_of (by omega) x0 cdv A outer s H E hr)
theorem k_halves {P:Program}{w:World}{K:PySem.W.Frag}{mg:Str→Option Value}{base:Heap}{f:Addr}{fd:FuncData} (Fn:Fun K "halves" "halves" s_halves f fd) (n_isinstance:mg "isinstance"=none) (n_str:mg "str"=none):FnOk P w K mg base CX0 1 f fd P_halves (spF K [.v] (unc 1 My.m_halves)):=
 fnV (n:=1) (m:=My.m_halves) Fn sc_halves rfl (one_v one_nil) (fun l hl=>match l,hl with | [x0],_=>fun cdv A outer s H E hr=>c_halves n_isinstance n_str x0 cdv A outer s H E hr)
theorem k_ahead_of {P:Program}{w:World}{K:PySem.W.Frag}{mg:Str→Option Value}{base:Heap}{f:Addr}{fd:FuncData} (Fn:Fun K "ahead_of" "ahead_of" s_ahead_of f fd) (n_enumerate:mg "enumerate"=none) (n_tuple:mg "tuple"=none) (T_nodes:Cal P w K mg base "nodes" 2 P_nodes (spF K [.v] (unc 1 (My.m_nodes)))) (T_halves:Cal P w K mg base "halves" 1 P_halves (spF K [.v] (unc 1 (My.m_halves)))):FnOk P w K mg base CX0 3 f fd P_ahead_of (spF K [.v] (unc 1 My.m_ahead_of)):=
 fnV (n:=1) (m:=My.m_ahead_of) Fn sc_ahead_of rfl (one_v one_nil) (fun l hl=>match l,hl with | [x0],_=>fun cdv A outer s H E hr=>c_ahead_of n_enumerate n_tuple T_nodes (by omega) T_halves (by omega) x0 cdv A outer s H E hr)
theorem k_name_of {P:Program}{w:World}{K:PySem.W.Frag}{mg:Str→Option Value}{base:Heap}{f:Addr}{fd:FuncData} (Fn:Fun K "name_of" "name_of" s_name_of f fd) (n_isinstance:mg "isinstance"=none) (n_str:mg "str"=none):FnOk P w K mg base CX0 1 f fd P_name_of (spF K [.v,.v] (unc 2 My.m_name_of)):=
 fnV (n:=2) (m:=My.m_name_of) Fn sc_name_of rfl (one_v (one_v one_nil)) (fun l hl=>match l,hl with | [x0,x1],_=>fun cdv A outer s H E hr=>c_name_of n_isinstance n_str x0 x1 cdv A outer s H E hr)
theorem k_split_dates {P:Program}{w:World}{K:PySem.W.Frag}{mg:Str→Option Value}{base:Heap}{f:Addr}{fd:FuncData} (Fn:Fun K "split_dates" "split_dates" s_split_dates f fd) (n_zip:mg "zip"=none) (n_isinstance:mg "isinstance"=none) (n_str:mg "str"=none):FnOk P w K mg base CX0 1 f fd P_split_dates (spFL K [.v,.v] (unc 2 My.m_split_dates)):=
 fnL (n:=2) (m:=My.m_split_dates) Fn sc_split_dates rfl (one_v (one_v one_nil)) (fun l hl=>match l,hl with | [x0,x1],_=>fun cdv A outer s H E hr=>c_split_dates n_zip n_isinstance n_str x0 x1 cdv A outer s H E hr)
theorem k_standing {P:Program}{w:World}{K:PySem.W.Frag}{mg:Str→Option Value}{base:Heap}{f:Addr}{fd:FuncData} (Fn:Fun K "standing" "standing" s_standing f fd) (n_enumerate:mg "enumerate"=none) (T_ahead_of:Cal P w K mg base "ahead_of" 3 P_ahead_of (spF K [.v] (unc 1 (My.m_ahead_of)))):FnOk P w K mg base CX0 4 f fd P_standing (spFL K [.v,.v,.v] (unc 3 My.m_standing)):=
 fnL (n:=3) (m:=My.m_standing) Fn sc_standing rfl (one_v (one_v (one_v one_nil))) (fun l hl=>match l,hl with | [x0,x1,x2],_=>fun cdv A outer s H E hr=>c_standing n_enumerate T_ahead_of (by omega) x0 x1 x2 cdv A outer s H E hr)
theorem k_stay_of {P:Program}{w:World}{K:PySem.W.Frag}{mg:Str→Option Value}{base:Heap}{f:Addr}{fd:FuncData} (Fn:Fun K "stay_of" "stay_of" s_stay_of f fd) (n_tuple:mg "tuple"=none) (T_halves:Cal P w K mg base "halves" 1 P_halves (spF K [.v] (unc 1 (My.m_halves)))) (T_name_of:Cal P w K mg base "name_of" 1 P_name_of (spF K [.v,.v] (unc 2 (My.m_name_of)))):FnOk P w K mg base CX0 2 f fd P_stay_of (spF K [.v,.v,.v,.v,.v] (unc 5 My.m_stay_of)):=
 fnV (n:=5) (m:=My.m_stay_of) Fn sc_stay_of rfl (one_v (one_v (one_v (one_v (one_v one_nil))))) (fun l hl=>match l,hl with | [x0,x1,x2,x3,x4],_=>fun cdv A outer s H E hr=>c_stay_of n_tuple T_halves (by omega) T_name_of (by omega) x0 x1 x2 x3 x4 cdv A outer s H E hr)
theorem k_dated {P:Program}{w:World}{K:PySem.W.Frag}{mg:Str→Option Value}{base:Heap}{f:Addr}{fd:FuncData} (Fn:Fun K "dated" "dated" s_dated f fd) (n_sorted:mg "sorted"=none) (n_enumerate:mg "enumerate"=none) (n_dict:mg "dict"=none) (n_tuple:mg "tuple"=none) (T_nodes:Cal P w K mg base "nodes" 2 P_nodes (spF K [.v] (unc 1 (My.m_nodes)))) (T_split_dates:Cal P w K mg base "split_dates" 1 P_split_dates (spFL K [.v,.v] (unc 2 (My.m_split_dates)))) (T_standing:Cal P w K mg base "standing" 4 P_standing (spFL K [.v,.v,.v] (unc 3 (My.m_standing)))) (T_stay_of:Cal P w K mg base "stay_of" 2 P_stay_of (spF K [.v,.v,.v,.v,.v] (unc 5 (My.m_stay_of)))):FnOk P w K mg base CX0 5 f fd P_dated (spF K [.v,.v] (unc 2 My.m_dated)):=
 fnV (n:=2) (m:=My.m_dated) Fn sc_dated rfl (one_v (one_v one_nil)) (fun l hl=>match l,hl with | [x0,x1],_=>fun cdv A outer s H E hr=>c_dated n_sorted n_enumerate n_dict n_tuple T_nodes (by omega) T_split_dates (by omega) T_standing (by omega) T_stay_of (by omega) x0 x1 cdv A outer s H E hr)
theorem k__law_pot {P:Program}{w:World}{K:PySem.W.Frag}{mg:Str→Option Value}{base:Heap}{f:Addr}{fd:FuncData} (Fn:Fun K "_law_pot" "_law_pot" s__law_pot f fd) (n_len:mg "len"=none) (n_abs:mg "abs"=none) (n_int:mg "int"=none):FnOk P w K mg base CX0 1 f fd P__law_pot (spFL K [.v,.v] (unc 2 My.m__law_pot)):=
 fnL (n:=2) (m:=My.m__law_pot) Fn sc__law_pot rfl (one_v (one_v one_nil)) (fun l hl=>match l,hl with | [x0,x1],_=>fun cdv A outer s H E hr=>c__law_pot n_len n_abs n_int x0 x1 cdv A outer s H E hr)
theorem k__law_take {P:Program}{w:World}{K:PySem.W.Frag}{mg:Str→Option Value}{base:Heap}{f:Addr}{fd:FuncData} (Fn:Fun K "_law_take" "_law_take" s__law_take f fd):FnOk P w K mg base CX0 1 f fd P__law_take (spF K [.p (PotP potG),.v] (unc 1 mt_take)):=
 pot_fn (n:=1) (fnO (n:=1) (m:=My.m__law_take) Fn sc__law_take rfl (fun a lo l hl=>match l,hl with | [x0],_=>fun cdv A outer s H E hr=>c__law_take  x0 a lo cdv A outer s H E hr)) take_ok
theorem k__law_pick {P:Program}{w:World}{K:PySem.W.Frag}{mg:Str→Option Value}{base:Heap}{f:Addr}{fd:FuncData} (Fn:Fun K "_law_pick" "_law_pick" s__law_pick f fd) (n_len:mg "len"=none) (T__law_take:Cal P w K mg base "_law_take" 1 P__law_take (spF K [.p (PotP potG),.v] (unc 1 mt_take))):FnOk P w K mg base CX0 2 f fd P__law_pick (spF K [.p (PotP potG),.v] (unc 1 My.m__law_pick)):=
 fnV (n:=1) (m:=My.m__law_pick) Fn sc__law_pick rfl (one_p (n:=1)) (fun l hl=>match l,hl with | [x0],_=>fun cdv A outer s H E hr=>c__law_pick n_len T__law_take (by omega) x0 cdv A outer s H E hr)
theorem k__law_words {P:Program}{w:World}{K:PySem.W.Frag}{mg:Str→Option Value}{base:Heap}{f:Addr}{fd:FuncData} (Fn:Fun K "_law_words" "_law_words" s__law_words f fd) (n_range:mg "range"=none) (T__law_take:Cal P w K mg base "_law_take" 1 P__law_take (spF K [.p (PotP potG),.v] (unc 1 mt_take))):FnOk P w K mg base CX0 2 f fd P__law_words (spFL K [.p (PotP potG),.v] (unc 1 My.m__law_words)):=
 fnL (n:=1) (m:=My.m__law_words) Fn sc__law_words rfl (one_p (n:=1)) (fun l hl=>match l,hl with | [x0],_=>fun cdv A outer s H E hr=>c__law_words n_range T__law_take (by omega) x0 cdv A outer s H E hr)
theorem k__law_tree {P:Program}{w:World}{K:PySem.W.Frag}{mg:Str→Option Value}{base:Heap}{f:Addr}{fd:FuncData} (Fn:Fun K "_law_tree" "_law_tree" s__law_tree f fd) (n_list:mg "list"=none) (n_len:mg "len"=none) (T__law_take:Cal P w K mg base "_law_take" 1 P__law_take (spF K [.p (PotP potG),.v] (unc 1 mt_take))):FnOk P w K mg base CX0 2 f fd P__law_tree (spF K [.p (PotP potG),.v] (unc 1 My.m__law_tree)):=
 fnV (n:=1) (m:=My.m__law_tree) Fn sc__law_tree rfl (one_p (n:=1)) (fun l hl=>match l,hl with | [x0],_=>fun cdv A outer s H E hr=>c__law_tree n_list n_len T__law_take (by omega) x0 cdv A outer s H E hr)
theorem k__law_great {P:Program}{w:World}{K:PySem.W.Frag}{mg:Str→Option Value}{base:Heap}{f:Addr}{fd:FuncData} (Fn:Fun K "_law_great" "_law_great" s__law_great f fd) (n_int:mg "int"=none) (T__law_tree:Cal P w K mg base "_law_tree" 2 P__law_tree (spF K [.p (PotP potG),.v] (unc 1 (My.m__law_tree)))) (T__law_words:Cal P w K mg base "_law_words" 2 P__law_words (spFL K [.p (PotP potG),.v] (unc 1 (My.m__law_words)))) (T__law_take:Cal P w K mg base "_law_take" 1 P__law_take (spF K [.p (PotP potG),.v] (unc 1 mt_take))):FnOk P w K mg base CX0 3 f fd P__law_great (spF K [.p (PotP potG)] (unc 0 My.m__law_great)):=
 fnV (n:=0) (m:=My.m__law_great) Fn sc__law_great rfl (one_p (n:=0)) (fun l hl=>match l,hl with | [],_=>fun cdv A outer s H E hr=>c__law_great n_int T__law_tree (by omega) T__law_words (by omega) T__law_take (by omega)  cdv A outer s H E hr)
theorem k__law_nodes {P:Program}{w:World}{K:PySem.W.Frag}{mg:Str→Option Value}{base:Heap}{f:Addr}{fd:FuncData} (Fn:Fun K "_law_nodes" "_law_nodes" s__law_nodes f fd) (n_isinstance:mg "isinstance"=none) (n_str:mg "str"=none) (n_len:mg "len"=none) (bi:Binds K fd P__law_nodes []) (mm:mg "_law_nodes"=some (.ref f)):∀n,FnOk P w K mg base CX0 (0+n) f fd P__law_nodes (spFL K [.v] (unc 1 (My.m__law_nodes n)))
 | 0=>fn_no (spFL_no fun l Q hl=>match l,hl with | [x0],_=>fun h=>h.elim)
 | n+1=>fnL (n:=1) (m:=My.m__law_nodes (n+1)) Fn sc__law_nodes rfl (one_v one_nil) (fun l hl=>match l,hl with | [x0],_=>fun cdv A outer s H E hr=>c__law_nodes n_isinstance n_str n_len n ⟨_,_,k__law_nodes Fn n_isinstance n_str n_len bi mm n,bi,Fn.kp,mm⟩ (Nat.le_refl _) x0 cdv A outer s H E hr)
theorem k__law_ahead {P:Program}{w:World}{K:PySem.W.Frag}{mg:Str→Option Value}{base:Heap}{f:Addr}{fd:FuncData} (Fn:Fun K "_law_ahead" "_law_ahead" s__law_ahead f fd) (n_len:mg "len"=none) (n_enumerate:mg "enumerate"=none) (n_isinstance:mg "isinstance"=none) (n_str:mg "str"=none):FnOk P w K mg base CX0 1 f fd P__law_ahead (spFL K [.v] (unc 1 My.m__law_ahead)):=
 fnL (n:=1) (m:=My.m__law_ahead) Fn sc__law_ahead rfl (one_v one_nil) (fun l hl=>match l,hl with | [x0],_=>fun cdv A outer s H E hr=>c__law_ahead n_len n_enumerate n_isinstance n_str x0 cdv A outer s H E hr)
theorem k__law_dates {P:Program}{w:World}{K:PySem.W.Frag}{mg:Str→Option Value}{base:Heap}{f:Addr}{fd:FuncData} (Fn:Fun K "_law_dates" "_law_dates" s__law_dates f fd) (n_len:mg "len"=none) (n_enumerate:mg "enumerate"=none) (n_isinstance:mg "isinstance"=none) (n_str:mg "str"=none) (n_tuple:mg "tuple"=none) (T__law_pick:Cal P w K mg base "_law_pick" 2 P__law_pick (spF K [.p (PotP potG),.v] (unc 1 (My.m__law_pick)))) (T__law_take:Cal P w K mg base "_law_take" 1 P__law_take (spF K [.p (PotP potG),.v] (unc 1 mt_take))):FnOk P w K mg base CX0 3 f fd P__law_dates (spF K [.p (PotP potG),.v] (unc 1 My.m__law_dates)):=
 fnV (n:=1) (m:=My.m__law_dates) Fn sc__law_dates rfl (one_p (n:=1)) (fun l hl=>match l,hl with | [x0],_=>fun cdv A outer s H E hr=>c__law_dates n_len n_enumerate n_isinstance n_str n_tuple T__law_pick (by omega) T__law_take (by omega) x0 cdv A outer s H E hr)
theorem k__law_standing {P:Program}{w:World}{K:PySem.W.Frag}{mg:Str→Option Value}{base:Heap}{f:Addr}{fd:FuncData} (Fn:Fun K "_law_standing" "_law_standing" s__law_standing f fd) (n_sorted:mg "sorted"=none) (n_dict:mg "dict"=none) (n_enumerate:mg "enumerate"=none) (n_len:mg "len"=none) (n_range:mg "range"=none) (n_int:mg "int"=none) (T__law_ahead:Cal P w K mg base "_law_ahead" 1 P__law_ahead (spFL K [.v] (unc 1 (My.m__law_ahead)))):FnOk P w K mg base CX0 2 f fd P__law_standing (spF K [.v,.v] (unc 2 My.m__law_standing)):=
 fnV (n:=2) (m:=My.m__law_standing) Fn sc__law_standing rfl (one_v (one_v one_nil)) (fun l hl=>match l,hl with | [x0,x1],_=>fun cdv A outer s H E hr=>c__law_standing n_sorted n_dict n_enumerate n_len n_range n_int T__law_ahead (by omega) x0 x1 cdv A outer s H E hr)
theorem k__law_dated_ground {P:Program}{w:World}{K:PySem.W.Frag}{mg:Str→Option Value}{base:Heap}{f:Addr}{fd:FuncData} (Fn:Fun K "_law_dated_ground" "_law_dated_ground" s__law_dated_ground f fd) (n_isinstance:mg "isinstance"=none) (n_str:mg "str"=none) (n_list:mg "list"=none) (n_tuple:mg "tuple"=none) (n_enumerate:mg "enumerate"=none) (T__law_nodes:Cal P w K mg base "_law_nodes" 9 P__law_nodes (spFL K [.v] (unc 1 (My.m__law_nodes 9)))) (T__law_standing:Cal P w K mg base "_law_standing" 2 P__law_standing (spF K [.v,.v] (unc 2 (My.m__law_standing)))):FnOk P w K mg base CX0 10 f fd P__law_dated_ground (spF K [.v,.v] (unc 2 My.m__law_dated_ground)):=
 fnV (n:=2) (m:=My.m__law_dated_ground) Fn sc__law_dated_ground rfl (one_v (one_v one_nil)) (fun l hl=>match l,hl with | [x0,x1],_=>fun cdv A outer s H E hr=>c__law_dated_ground n_isinstance n_str n_list n_tuple n_enumerate T__law_nodes (by omega) T__law_standing (by omega) x0 x1 cdv A outer s H E hr)
theorem k__law_same {P:Program}{w:World}{K:PySem.W.Frag}{mg:Str→Option Value}{base:Heap}{f:Addr}{fd:FuncData} (Fn:Fun K "_law_same" "_law_same" s__law_same f fd) (n_isinstance:mg "isinstance"=none) (n_tuple:mg "tuple"=none) (n_len:mg "len"=none) (n_zip:mg "zip"=none) (n_all:mg "all"=none) (n_str:mg "str"=none) (n_bool:mg "bool"=none) (n_int:mg "int"=none) (bi:Binds K fd P__law_same []) (mm:mg "_law_same"=some (.ref f)):∀n,FnOk P w K mg base CX0 (0+n) f fd P__law_same (spF K [.v,.v] (unc 2 (My.m__law_same n)))
 | 0=>fn_no (spF_no fun l Q hl=>match l,hl with | [x0,x1],_=>fun h=>h.elim)
 | n+1=>fnV (n:=2) (m:=My.m__law_same (n+1)) Fn sc__law_same rfl (one_v (one_v one_nil)) (fun l hl=>match l,hl with | [x0,x1],_=>fun cdv A outer s H E hr=>c__law_same n_isinstance n_tuple n_len n_zip n_all n_str n_bool n_int n ⟨_,_,k__law_same Fn n_isinstance n_tuple n_len n_zip n_all n_str n_bool n_int bi mm n,bi,Fn.kp,mm⟩ (Nat.le_refl _) x0 x1 cdv A outer s H E hr)
theorem k_law {P:Program}{w:World}{K:PySem.W.Frag}{mg:Str→Option Value}{base:Heap}{f:Addr}{fd:FuncData} (Fn:Fun K "law" "law" s_law f fd) (n_len:mg "len"=none) (n_min:mg "min"=none) (n_max:mg "max"=none) (n_range:mg "range"=none) (T__law_pot:Cal P w K mg base "_law_pot" 1 P__law_pot (spFL K [.v,.v] (unc 2 (My.m__law_pot)))) (T__law_great:Cal P w K mg base "_law_great" 3 P__law_great (spF K [.p (PotP potG)] (unc 0 (My.m__law_great)))) (T__law_dates:Cal P w K mg base "_law_dates" 3 P__law_dates (spF K [.p (PotP potG),.v] (unc 1 (My.m__law_dates)))) (T__law_nodes:Cal P w K mg base "_law_nodes" 9 P__law_nodes (spFL K [.v] (unc 1 (My.m__law_nodes 9)))) (T__law_dated_ground:Cal P w K mg base "_law_dated_ground" 10 P__law_dated_ground (spF K [.v,.v] (unc 2 (My.m__law_dated_ground)))) (T__law_same:Cal P w K mg base "_law_same" 4 P__law_same (spF K [.v,.v] (unc 2 (My.m__law_same 4)))) (T_dated:Cal P w K mg base "dated" 5 P_dated (spF K [.v,.v] (unc 2 (My.m_dated)))):FnOk P w K mg base CX0 11 f fd P_law (spF K [.v] (unc 1 My.m_law_3)):=
 fnV (n:=1) (m:=My.m_law_3) Fn sc_law rfl (one_v one_nil) (fun l hl=>match l,hl with | [x0],_=>fun cdv A outer s H E hr=>c_law n_len n_min n_max n_range T__law_pot (by omega) T__law_great (by omega) T__law_dates (by omega) T__law_nodes (by omega) T__law_dated_ground (by omega) T__law_same (by omega) T_dated (by omega) x0 cdv A outer s H E hr)
def spLaw (K:PySem.W.Frag):Sp:=fun vs H Q _=>∃(a:Addr) (ns:List Int),vs=[.ref a]∧Only H∧SqL K H a (ns.map V.int)∧ns.length≤63∧∀H',Q (.bl true) H'
theorem law_imp {K:PySem.W.Frag}:∀vs H Q E,spLaw K vs H Q E→spF K [.v] (unc 1 My.m_law_3) vs H Q E:=fun vs H Q E ⟨a,ns,e,hO,hS,hl,q⟩=>by
 subst e
 have fz:FzL K H a (ns.map V.int):=by
  rcases hS with (h | ⟨o,h⟩) | h
  ·rcases hO a with z | ⟨o,xs,z⟩
   ·rw [h] at z;cases z
   ·rw [h] at z;cases z
  ·exact .inl ⟨o,h⟩
  ·exact .inr h
 refine⟨[.cl (ns.map PV.int)],.v (.cl fz (ints_vr _ _ ns)) .nil,(My.m_law_3 (.cl (ns.map PV.int))).mono (fun v e u H' _ r=>?_) (law13_ok ns hl)⟩
 subst e
 cases r
 exact q H'
theorem all_mk {l:PySem.W.OpenLaw}{w:World}{K:PySem.W.Frag}{h:Heap}{mg:Str→Option Value}{fa f0 f1 f2 f3 f4 f5 f6 f7 f8 f9 f10 f11 f12 f13 f14 f15 f16 f17 f18 f19 f20 f21:Addr}{od0 an0 od1 an1 od2 an2 od3 an3 od4 an4 od5 an5 od6 an6 od7 an7 od8 an8 od9 an9 od10 an10 od11 an11 od12 an12 od13 an13 od14 an14 od15 an15 od16 an16 od17 an17 od18 an18 od19 an19 od20 an20 od21 an21:Option Addr}{sl0 sl1 sl2 sl3 sl4 sl5 sl6 sl7 sl8 sl9 sl10 sl11 sl12 sl13 sl14 sl15 sl16 sl17 sl18 sl19 sl20 sl21:Array (Option Value)}{oc0 kV0 dc0 pm0 cd0 ct0 oc1 kV1 dc1 pm1 cd1 ct1 oc2 kV2 dc2 pm2 cd2 ct2 oc3 kV3 dc3 pm3 cd3 ct3 oc4 kV4 dc4 pm4 cd4 ct4 oc5 kV5 dc5 pm5 cd5 ct5 oc6 kV6 dc6 pm6 cd6 ct6 oc7 kV7 dc7 pm7 cd7 ct7 oc8 kV8 dc8 pm8 cd8 ct8 oc9 kV9 dc9 pm9 cd9 ct9 oc10 kV10 dc10 pm10 cd10 ct10 oc11 kV11 dc11 pm11 cd11 ct11 oc12 kV12 dc12 pm12 cd12 ct12 oc13 kV13 dc13 pm13 cd13 ct13 oc14 kV14 dc14 pm14 cd14 ct14 oc15 kV15 dc15 pm15 cd15 ct15 oc16 kV16 dc16 pm16 cd16 ct16 oc17 kV17 dc17 pm17 cd17 ct17 oc18 kV18 dc18 pm18 cd18 ct18 oc19 kV19 dc19 pm19 cd19 ct19 oc20 kV20 dc20 pm20 cd20 ct20 oc21 kV21 dc21 pm21 cd21 ct21:Value} (X:K.In h) (G:h.Ns mainGlobals mg) (hfa:mg "law"=some (.ref fa))
  (a0:PySem.W.nsIn K mainGlobals "parts_of"=some (some (.ref f0))) (l0:K.lookup f0=some ⟨oc0,od0,.func (PySem.W.fnOf "parts_of" "parts_of" (defArgs s_parts_of) (defBody s_parts_of) (defScope s_parts_of) .none kV0 dc0 pm0 an0 cd0 ct0),sl0⟩) (c0:PySem.W.codeIn K cd0 "parts_of"=true) (k0:PySem.W.keepIn K (.ref f0)=true)
  (a1:PySem.W.nsIn K mainGlobals "nodes"=some (some (.ref f1))) (l1:K.lookup f1=some ⟨oc1,od1,.func (PySem.W.fnOf "nodes" "nodes" (defArgs s_nodes) (defBody s_nodes) (defScope s_nodes) .none kV1 dc1 pm1 an1 cd1 ct1),sl1⟩) (c1:PySem.W.codeIn K cd1 "nodes"=true) (k1:PySem.W.keepIn K (.ref f1)=true)
  (a2:PySem.W.nsIn K mainGlobals "halves"=some (some (.ref f2))) (l2:K.lookup f2=some ⟨oc2,od2,.func (PySem.W.fnOf "halves" "halves" (defArgs s_halves) (defBody s_halves) (defScope s_halves) .none kV2 dc2 pm2 an2 cd2 ct2),sl2⟩) (c2:PySem.W.codeIn K cd2 "halves"=true) (k2:PySem.W.keepIn K (.ref f2)=true)
  (a3:PySem.W.nsIn K mainGlobals "ahead_of"=some (some (.ref f3))) (l3:K.lookup f3=some ⟨oc3,od3,.func (PySem.W.fnOf "ahead_of" "ahead_of" (defArgs s_ahead_of) (defBody s_ahead_of) (defScope s_ahead_of) .none kV3 dc3 pm3 an3 cd3 ct3),sl3⟩) (c3:PySem.W.codeIn K cd3 "ahead_of"=true) (k3:PySem.W.keepIn K (.ref f3)=true)
  (a4:PySem.W.nsIn K mainGlobals "name_of"=some (some (.ref f4))) (l4:K.lookup f4=some ⟨oc4,od4,.func (PySem.W.fnOf "name_of" "name_of" (defArgs s_name_of) (defBody s_name_of) (defScope s_name_of) .none kV4 dc4 pm4 an4 cd4 ct4),sl4⟩) (c4:PySem.W.codeIn K cd4 "name_of"=true) (k4:PySem.W.keepIn K (.ref f4)=true)
  (a5:PySem.W.nsIn K mainGlobals "split_dates"=some (some (.ref f5))) (l5:K.lookup f5=some ⟨oc5,od5,.func (PySem.W.fnOf "split_dates" "split_dates" (defArgs s_split_dates) (defBody s_split_dates) (defScope s_split_dates) .none kV5 dc5 pm5 an5 cd5 ct5),sl5⟩) (c5:PySem.W.codeIn K cd5 "split_dates"=true) (k5:PySem.W.keepIn K (.ref f5)=true)
  (a6:PySem.W.nsIn K mainGlobals "standing"=some (some (.ref f6))) (l6:K.lookup f6=some ⟨oc6,od6,.func (PySem.W.fnOf "standing" "standing" (defArgs s_standing) (defBody s_standing) (defScope s_standing) .none kV6 dc6 pm6 an6 cd6 ct6),sl6⟩) (c6:PySem.W.codeIn K cd6 "standing"=true) (k6:PySem.W.keepIn K (.ref f6)=true)
  (a7:PySem.W.nsIn K mainGlobals "stay_of"=some (some (.ref f7))) (l7:K.lookup f7=some ⟨oc7,od7,.func (PySem.W.fnOf "stay_of" "stay_of" (defArgs s_stay_of) (defBody s_stay_of) (defScope s_stay_of) .none kV7 dc7 pm7 an7 cd7 ct7),sl7⟩) (c7:PySem.W.codeIn K cd7 "stay_of"=true) (k7:PySem.W.keepIn K (.ref f7)=true)
  (a8:PySem.W.nsIn K mainGlobals "dated"=some (some (.ref f8))) (l8:K.lookup f8=some ⟨oc8,od8,.func (PySem.W.fnOf "dated" "dated" (defArgs s_dated) (defBody s_dated) (defScope s_dated) .none kV8 dc8 pm8 an8 cd8 ct8),sl8⟩) (c8:PySem.W.codeIn K cd8 "dated"=true) (k8:PySem.W.keepIn K (.ref f8)=true)
  (a9:PySem.W.nsIn K mainGlobals "_law_pot"=some (some (.ref f9))) (l9:K.lookup f9=some ⟨oc9,od9,.func (PySem.W.fnOf "_law_pot" "_law_pot" (defArgs s__law_pot) (defBody s__law_pot) (defScope s__law_pot) .none kV9 dc9 pm9 an9 cd9 ct9),sl9⟩) (c9:PySem.W.codeIn K cd9 "_law_pot"=true) (k9:PySem.W.keepIn K (.ref f9)=true)
  (a10:PySem.W.nsIn K mainGlobals "_law_take"=some (some (.ref f10))) (l10:K.lookup f10=some ⟨oc10,od10,.func (PySem.W.fnOf "_law_take" "_law_take" (defArgs s__law_take) (defBody s__law_take) (defScope s__law_take) .none kV10 dc10 pm10 an10 cd10 ct10),sl10⟩) (c10:PySem.W.codeIn K cd10 "_law_take"=true) (k10:PySem.W.keepIn K (.ref f10)=true)
  (a11:PySem.W.nsIn K mainGlobals "_law_pick"=some (some (.ref f11))) (l11:K.lookup f11=some ⟨oc11,od11,.func (PySem.W.fnOf "_law_pick" "_law_pick" (defArgs s__law_pick) (defBody s__law_pick) (defScope s__law_pick) .none kV11 dc11 pm11 an11 cd11 ct11),sl11⟩) (c11:PySem.W.codeIn K cd11 "_law_pick"=true) (k11:PySem.W.keepIn K (.ref f11)=true)
  (a12:PySem.W.nsIn K mainGlobals "_law_words"=some (some (.ref f12))) (l12:K.lookup f12=some ⟨oc12,od12,.func (PySem.W.fnOf "_law_words" "_law_words" (defArgs s__law_words) (defBody s__law_words) (defScope s__law_words) .none kV12 dc12 pm12 an12 cd12 ct12),sl12⟩) (c12:PySem.W.codeIn K cd12 "_law_words"=true) (k12:PySem.W.keepIn K (.ref f12)=true)
  (a13:PySem.W.nsIn K mainGlobals "_law_tree"=some (some (.ref f13))) (l13:K.lookup f13=some ⟨oc13,od13,.func (PySem.W.fnOf "_law_tree" "_law_tree" (defArgs s__law_tree) (defBody s__law_tree) (defScope s__law_tree) .none kV13 dc13 pm13 an13 cd13 ct13),sl13⟩) (c13:PySem.W.codeIn K cd13 "_law_tree"=true) (k13:PySem.W.keepIn K (.ref f13)=true)
  (a14:PySem.W.nsIn K mainGlobals "_law_great"=some (some (.ref f14))) (l14:K.lookup f14=some ⟨oc14,od14,.func (PySem.W.fnOf "_law_great" "_law_great" (defArgs s__law_great) (defBody s__law_great) (defScope s__law_great) .none kV14 dc14 pm14 an14 cd14 ct14),sl14⟩) (c14:PySem.W.codeIn K cd14 "_law_great"=true) (k14:PySem.W.keepIn K (.ref f14)=true)
  (a15:PySem.W.nsIn K mainGlobals "_law_nodes"=some (some (.ref f15))) (l15:K.lookup f15=some ⟨oc15,od15,.func (PySem.W.fnOf "_law_nodes" "_law_nodes" (defArgs s__law_nodes) (defBody s__law_nodes) (defScope s__law_nodes) .none kV15 dc15 pm15 an15 cd15 ct15),sl15⟩) (c15:PySem.W.codeIn K cd15 "_law_nodes"=true) (k15:PySem.W.keepIn K (.ref f15)=true)
  (a16:PySem.W.nsIn K mainGlobals "_law_ahead"=some (some (.ref f16))) (l16:K.lookup f16=some ⟨oc16,od16,.func (PySem.W.fnOf "_law_ahead" "_law_ahead" (defArgs s__law_ahead) (defBody s__law_ahead) (defScope s__law_ahead) .none kV16 dc16 pm16 an16 cd16 ct16),sl16⟩) (c16:PySem.W.codeIn K cd16 "_law_ahead"=true) (k16:PySem.W.keepIn K (.ref f16)=true)
  (a17:PySem.W.nsIn K mainGlobals "_law_dates"=some (some (.ref f17))) (l17:K.lookup f17=some ⟨oc17,od17,.func (PySem.W.fnOf "_law_dates" "_law_dates" (defArgs s__law_dates) (defBody s__law_dates) (defScope s__law_dates) .none kV17 dc17 pm17 an17 cd17 ct17),sl17⟩) (c17:PySem.W.codeIn K cd17 "_law_dates"=true) (k17:PySem.W.keepIn K (.ref f17)=true)
  (a18:PySem.W.nsIn K mainGlobals "_law_standing"=some (some (.ref f18))) (l18:K.lookup f18=some ⟨oc18,od18,.func (PySem.W.fnOf "_law_standing" "_law_standing" (defArgs s__law_standing) (defBody s__law_standing) (defScope s__law_standing) .none kV18 dc18 pm18 an18 cd18 ct18),sl18⟩) (c18:PySem.W.codeIn K cd18 "_law_standing"=true) (k18:PySem.W.keepIn K (.ref f18)=true)
  (a19:PySem.W.nsIn K mainGlobals "_law_dated_ground"=some (some (.ref f19))) (l19:K.lookup f19=some ⟨oc19,od19,.func (PySem.W.fnOf "_law_dated_ground" "_law_dated_ground" (defArgs s__law_dated_ground) (defBody s__law_dated_ground) (defScope s__law_dated_ground) .none kV19 dc19 pm19 an19 cd19 ct19),sl19⟩) (c19:PySem.W.codeIn K cd19 "_law_dated_ground"=true) (k19:PySem.W.keepIn K (.ref f19)=true)
  (a20:PySem.W.nsIn K mainGlobals "_law_same"=some (some (.ref f20))) (l20:K.lookup f20=some ⟨oc20,od20,.func (PySem.W.fnOf "_law_same" "_law_same" (defArgs s__law_same) (defBody s__law_same) (defScope s__law_same) .none kV20 dc20 pm20 an20 cd20 ct20),sl20⟩) (c20:PySem.W.codeIn K cd20 "_law_same"=true) (k20:PySem.W.keepIn K (.ref f20)=true)
  (a21:PySem.W.nsIn K mainGlobals "law"=some (some (.ref f21))) (l21:K.lookup f21=some ⟨oc21,od21,.func (PySem.W.fnOf "law" "law" (defArgs s_law) (defBody s_law) (defScope s_law) .none kV21 dc21 pm21 an21 cd21 ct21),sl21⟩) (c21:PySem.W.codeIn K cd21 "law"=true) (k21:PySem.W.keepIn K (.ref f21)=true)
  (z_isinstance:PySem.W.nsIn K mainGlobals "isinstance"=some none)
  (z_str:PySem.W.nsIn K mainGlobals "str"=some none)
  (z_list:PySem.W.nsIn K mainGlobals "list"=some none)
  (z_reversed:PySem.W.nsIn K mainGlobals "reversed"=some none)
  (z_len:PySem.W.nsIn K mainGlobals "len"=some none)
  (z_tuple:PySem.W.nsIn K mainGlobals "tuple"=some none)
  (z_enumerate:PySem.W.nsIn K mainGlobals "enumerate"=some none)
  (z_zip:PySem.W.nsIn K mainGlobals "zip"=some none)
  (z_sorted:PySem.W.nsIn K mainGlobals "sorted"=some none)
  (z_dict:PySem.W.nsIn K mainGlobals "dict"=some none)
  (z_abs:PySem.W.nsIn K mainGlobals "abs"=some none)
  (z_int:PySem.W.nsIn K mainGlobals "int"=some none)
  (z_range:PySem.W.nsIn K mainGlobals "range"=some none)
  (z_all:PySem.W.nsIn K mainGlobals "all"=some none)
  (z_bool:PySem.W.nsIn K mainGlobals "bool"=some none)
  (z_max:PySem.W.nsIn K mainGlobals "max"=some none)
  (z_min:PySem.W.nsIn K mainGlobals "min"=some none) :
  ∃fd:FuncData,(∀(s:Shared) (v:Value),BindsTo s fd ⟨[v],[]⟩ [("_law_script",v)])∧∀base:Heap,K.In base→base.Ns mainGlobals mg→FnOk l.prog w K mg base CX0 11 fa fd ["_law_script"] (spLaw K):=by
 have e:=hfa.symm.trans (PySem.W.mg_of X G a21)
 cases e
 have F_parts_of:=fun_mk (st:=s_parts_of) l0 c0 k0
 have b_parts_of:=F_parts_of.binds (ps:=P_parts_of) fun _ _ _ _ _ _ us hl=>match us,hl with | [_],_=>rfl
 have m_parts_of:=PySem.W.mg_of X G a0
 have F_nodes:=fun_mk (st:=s_nodes) l1 c1 k1
 have b_nodes:=F_nodes.binds (ps:=P_nodes) fun _ _ _ _ _ _ us hl=>match us,hl with | [_],_=>rfl
 have m_nodes:=PySem.W.mg_of X G a1
 have F_halves:=fun_mk (st:=s_halves) l2 c2 k2
 have b_halves:=F_halves.binds (ps:=P_halves) fun _ _ _ _ _ _ us hl=>match us,hl with | [_],_=>rfl
 have m_halves:=PySem.W.mg_of X G a2
 have F_ahead_of:=fun_mk (st:=s_ahead_of) l3 c3 k3
 have b_ahead_of:=F_ahead_of.binds (ps:=P_ahead_of) fun _ _ _ _ _ _ us hl=>match us,hl with | [_],_=>rfl
 have m_ahead_of:=PySem.W.mg_of X G a3
 have F_name_of:=fun_mk (st:=s_name_of) l4 c4 k4
 have b_name_of:=F_name_of.binds (ps:=P_name_of) fun _ _ _ _ _ _ us hl=>match us,hl with | [_,_],_=>rfl
 have m_name_of:=PySem.W.mg_of X G a4
 have F_split_dates:=fun_mk (st:=s_split_dates) l5 c5 k5
 have b_split_dates:=F_split_dates.binds (ps:=P_split_dates) fun _ _ _ _ _ _ us hl=>match us,hl with | [_,_],_=>rfl
 have m_split_dates:=PySem.W.mg_of X G a5
 have F_standing:=fun_mk (st:=s_standing) l6 c6 k6
 have b_standing:=F_standing.binds (ps:=P_standing) fun _ _ _ _ _ _ us hl=>match us,hl with | [_,_,_],_=>rfl
 have m_standing:=PySem.W.mg_of X G a6
 have F_stay_of:=fun_mk (st:=s_stay_of) l7 c7 k7
 have b_stay_of:=F_stay_of.binds (ps:=P_stay_of) fun _ _ _ _ _ _ us hl=>match us,hl with | [_,_,_,_,_],_=>rfl
 have m_stay_of:=PySem.W.mg_of X G a7
 have F_dated:=fun_mk (st:=s_dated) l8 c8 k8
 have b_dated:=F_dated.binds (ps:=P_dated) fun _ _ _ _ _ _ us hl=>match us,hl with | [_,_],_=>rfl
 have m_dated:=PySem.W.mg_of X G a8
 have F__law_pot:=fun_mk (st:=s__law_pot) l9 c9 k9
 have b__law_pot:=F__law_pot.binds (ps:=P__law_pot) fun _ _ _ _ _ _ us hl=>match us,hl with | [_,_],_=>rfl
 have m__law_pot:=PySem.W.mg_of X G a9
 have F__law_take:=fun_mk (st:=s__law_take) l10 c10 k10
 have b__law_take:=F__law_take.binds (ps:=P__law_take) fun _ _ _ _ _ _ us hl=>match us,hl with | [_,_],_=>rfl
 have m__law_take:=PySem.W.mg_of X G a10
 have F__law_pick:=fun_mk (st:=s__law_pick) l11 c11 k11
 have b__law_pick:=F__law_pick.binds (ps:=P__law_pick) fun _ _ _ _ _ _ us hl=>match us,hl with | [_,_],_=>rfl
 have m__law_pick:=PySem.W.mg_of X G a11
 have F__law_words:=fun_mk (st:=s__law_words) l12 c12 k12
 have b__law_words:=F__law_words.binds (ps:=P__law_words) fun _ _ _ _ _ _ us hl=>match us,hl with | [_,_],_=>rfl
 have m__law_words:=PySem.W.mg_of X G a12
 have F__law_tree:=fun_mk (st:=s__law_tree) l13 c13 k13
 have b__law_tree:=F__law_tree.binds (ps:=P__law_tree) fun _ _ _ _ _ _ us hl=>match us,hl with | [_,_],_=>rfl
 have m__law_tree:=PySem.W.mg_of X G a13
 have F__law_great:=fun_mk (st:=s__law_great) l14 c14 k14
 have b__law_great:=F__law_great.binds (ps:=P__law_great) fun _ _ _ _ _ _ us hl=>match us,hl with | [_],_=>rfl
 have m__law_great:=PySem.W.mg_of X G a14
 have F__law_nodes:=fun_mk (st:=s__law_nodes) l15 c15 k15
 have b__law_nodes:=F__law_nodes.binds (ps:=P__law_nodes) fun _ _ _ _ _ _ us hl=>match us,hl with | [_],_=>rfl
 have m__law_nodes:=PySem.W.mg_of X G a15
 have F__law_ahead:=fun_mk (st:=s__law_ahead) l16 c16 k16
 have b__law_ahead:=F__law_ahead.binds (ps:=P__law_ahead) fun _ _ _ _ _ _ us hl=>match us,hl with | [_],_=>rfl
 have m__law_ahead:=PySem.W.mg_of X G a16
 have F__law_dates:=fun_mk (st:=s__law_dates) l17 c17 k17
 have b__law_dates:=F__law_dates.binds (ps:=P__law_dates) fun _ _ _ _ _ _ us hl=>match us,hl with | [_,_],_=>rfl
 have m__law_dates:=PySem.W.mg_of X G a17
 have F__law_standing:=fun_mk (st:=s__law_standing) l18 c18 k18
 have b__law_standing:=F__law_standing.binds (ps:=P__law_standing) fun _ _ _ _ _ _ us hl=>match us,hl with | [_,_],_=>rfl
 have m__law_standing:=PySem.W.mg_of X G a18
 have F__law_dated_ground:=fun_mk (st:=s__law_dated_ground) l19 c19 k19
 have b__law_dated_ground:=F__law_dated_ground.binds (ps:=P__law_dated_ground) fun _ _ _ _ _ _ us hl=>match us,hl with | [_,_],_=>rfl
 have m__law_dated_ground:=PySem.W.mg_of X G a19
 have F__law_same:=fun_mk (st:=s__law_same) l20 c20 k20
 have b__law_same:=F__law_same.binds (ps:=P__law_same) fun _ _ _ _ _ _ us hl=>match us,hl with | [_,_],_=>rfl
 have m__law_same:=PySem.W.mg_of X G a20
 have F_law:=fun_mk (st:=s_law) l21 c21 k21
 have m_law:=PySem.W.mg_of X G a21
 have n_isinstance:=PySem.W.mg_none_of X G z_isinstance
 have n_str:=PySem.W.mg_none_of X G z_str
 have n_list:=PySem.W.mg_none_of X G z_list
 have n_reversed:=PySem.W.mg_none_of X G z_reversed
 have n_len:=PySem.W.mg_none_of X G z_len
 have n_tuple:=PySem.W.mg_none_of X G z_tuple
 have n_enumerate:=PySem.W.mg_none_of X G z_enumerate
 have n_zip:=PySem.W.mg_none_of X G z_zip
 have n_sorted:=PySem.W.mg_none_of X G z_sorted
 have n_dict:=PySem.W.mg_none_of X G z_dict
 have n_abs:=PySem.W.mg_none_of X G z_abs
 have n_int:=PySem.W.mg_none_of X G z_int
 have n_range:=PySem.W.mg_none_of X G z_range
 have n_all:=PySem.W.mg_none_of X G z_all
 have n_bool:=PySem.W.mg_none_of X G z_bool
 have n_max:=PySem.W.mg_none_of X G z_max
 have n_min:=PySem.W.mg_none_of X G z_min
 refine⟨PySem.W.fnOf "law" "law" (defArgs s_law) (defBody s_law) (defScope s_law) .none kV21 dc21 pm21 an21 cd21 ct21,fun s v=>.of_eq rfl,fun base _ _=>?_⟩
 have T_parts_of:Cal l.prog w K mg base "parts_of" 1 P_parts_of (spFL K [.v] (unc 1 (My.m_parts_of))):=⟨_,_,k_parts_of F_parts_of n_isinstance n_str n_list n_reversed,b_parts_of,F_parts_of.kp,m_parts_of⟩
 have T_nodes:Cal l.prog w K mg base "nodes" 2 P_nodes (spF K [.v] (unc 1 (My.m_nodes))):=⟨_,_,k_nodes F_nodes n_isinstance n_str n_len n_tuple T_parts_of,b_nodes,F_nodes.kp,m_nodes⟩
 have T_halves:Cal l.prog w K mg base "halves" 1 P_halves (spF K [.v] (unc 1 (My.m_halves))):=⟨_,_,k_halves F_halves n_isinstance n_str,b_halves,F_halves.kp,m_halves⟩
 have T_ahead_of:Cal l.prog w K mg base "ahead_of" 3 P_ahead_of (spF K [.v] (unc 1 (My.m_ahead_of))):=⟨_,_,k_ahead_of F_ahead_of n_enumerate n_tuple T_nodes T_halves,b_ahead_of,F_ahead_of.kp,m_ahead_of⟩
 have T_name_of:Cal l.prog w K mg base "name_of" 1 P_name_of (spF K [.v,.v] (unc 2 (My.m_name_of))):=⟨_,_,k_name_of F_name_of n_isinstance n_str,b_name_of,F_name_of.kp,m_name_of⟩
 have T_split_dates:Cal l.prog w K mg base "split_dates" 1 P_split_dates (spFL K [.v,.v] (unc 2 (My.m_split_dates))):=⟨_,_,k_split_dates F_split_dates n_zip n_isinstance n_str,b_split_dates,F_split_dates.kp,m_split_dates⟩
 have T_standing:Cal l.prog w K mg base "standing" 4 P_standing (spFL K [.v,.v,.v] (unc 3 (My.m_standing))):=⟨_,_,k_standing F_standing n_enumerate T_ahead_of,b_standing,F_standing.kp,m_standing⟩
 have T_stay_of:Cal l.prog w K mg base "stay_of" 2 P_stay_of (spF K [.v,.v,.v,.v,.v] (unc 5 (My.m_stay_of))):=⟨_,_,k_stay_of F_stay_of n_tuple T_halves T_name_of,b_stay_of,F_stay_of.kp,m_stay_of⟩
 have T_dated:Cal l.prog w K mg base "dated" 5 P_dated (spF K [.v,.v] (unc 2 (My.m_dated))):=⟨_,_,k_dated F_dated n_sorted n_enumerate n_dict n_tuple T_nodes T_split_dates T_standing T_stay_of,b_dated,F_dated.kp,m_dated⟩
 have T__law_pot:Cal l.prog w K mg base "_law_pot" 1 P__law_pot (spFL K [.v,.v] (unc 2 (My.m__law_pot))):=⟨_,_,k__law_pot F__law_pot n_len n_abs n_int,b__law_pot,F__law_pot.kp,m__law_pot⟩
 have T__law_take:Cal l.prog w K mg base "_law_take" 1 P__law_take (spF K [.p (PotP potG),.v] (unc 1 mt_take)):=⟨_,_,k__law_take F__law_take ,b__law_take,F__law_take.kp,m__law_take⟩
 have T__law_pick:Cal l.prog w K mg base "_law_pick" 2 P__law_pick (spF K [.p (PotP potG),.v] (unc 1 (My.m__law_pick))):=⟨_,_,k__law_pick F__law_pick n_len T__law_take,b__law_pick,F__law_pick.kp,m__law_pick⟩
 have T__law_words:Cal l.prog w K mg base "_law_words" 2 P__law_words (spFL K [.p (PotP potG),.v] (unc 1 (My.m__law_words))):=⟨_,_,k__law_words F__law_words n_range T__law_take,b__law_words,F__law_words.kp,m__law_words⟩
 have T__law_tree:Cal l.prog w K mg base "_law_tree" 2 P__law_tree (spF K [.p (PotP potG),.v] (unc 1 (My.m__law_tree))):=⟨_,_,k__law_tree F__law_tree n_list n_len T__law_take,b__law_tree,F__law_tree.kp,m__law_tree⟩
 have T__law_great:Cal l.prog w K mg base "_law_great" 3 P__law_great (spF K [.p (PotP potG)] (unc 0 (My.m__law_great))):=⟨_,_,k__law_great F__law_great n_int T__law_tree T__law_words T__law_take,b__law_great,F__law_great.kp,m__law_great⟩
 have T__law_nodes:Cal l.prog w K mg base "_law_nodes" 9 P__law_nodes (spFL K [.v] (unc 1 (My.m__law_nodes 9))):=⟨_,_,k__law_nodes F__law_nodes n_isinstance n_str n_len b__law_nodes m__law_nodes 9,b__law_nodes,F__law_nodes.kp,m__law_nodes⟩
 have T__law_ahead:Cal l.prog w K mg base "_law_ahead" 1 P__law_ahead (spFL K [.v] (unc 1 (My.m__law_ahead))):=⟨_,_,k__law_ahead F__law_ahead n_len n_enumerate n_isinstance n_str,b__law_ahead,F__law_ahead.kp,m__law_ahead⟩
 have T__law_dates:Cal l.prog w K mg base "_law_dates" 3 P__law_dates (spF K [.p (PotP potG),.v] (unc 1 (My.m__law_dates))):=⟨_,_,k__law_dates F__law_dates n_len n_enumerate n_isinstance n_str n_tuple T__law_pick T__law_take,b__law_dates,F__law_dates.kp,m__law_dates⟩
 have T__law_standing:Cal l.prog w K mg base "_law_standing" 2 P__law_standing (spF K [.v,.v] (unc 2 (My.m__law_standing))):=⟨_,_,k__law_standing F__law_standing n_sorted n_dict n_enumerate n_len n_range n_int T__law_ahead,b__law_standing,F__law_standing.kp,m__law_standing⟩
 have T__law_dated_ground:Cal l.prog w K mg base "_law_dated_ground" 10 P__law_dated_ground (spF K [.v,.v] (unc 2 (My.m__law_dated_ground))):=⟨_,_,k__law_dated_ground F__law_dated_ground n_isinstance n_str n_list n_tuple n_enumerate T__law_nodes T__law_standing,b__law_dated_ground,F__law_dated_ground.kp,m__law_dated_ground⟩
 have T__law_same:Cal l.prog w K mg base "_law_same" 4 P__law_same (spF K [.v,.v] (unc 2 (My.m__law_same 4))):=⟨_,_,k__law_same F__law_same n_isinstance n_tuple n_len n_zip n_all n_str n_bool n_int b__law_same m__law_same 4,b__law_same,F__law_same.kp,m__law_same⟩
 exact (k_law F_law n_len n_min n_max n_range T__law_pot T__law_great T__law_dates T__law_nodes T__law_dated_ground T__law_same T_dated).imp law_imp
theorem walk {l:PySem.W.OpenLaw}{q:Program}{loose:List Str}{XP:(Str→Option Value)→Heap→Prop}{YP:World→Heap→Prop}{d:DefRec}{K:Params→PySem.W.Frag} (hn:l.most=some 63) (hdf:d.params.defaults=[])
  (hY:∀(w:World) (h:Heap),YP w h→(K w.params).In h)
  (F:∀(w:World) (mg:Str→Option Value) (fa:Addr) (h:Heap),(K w.params).In h→h.Ns mainGlobals mg→mg d.name=some (.ref fa)→
   ∃fd:FuncData,(∀(s:Shared) (u:Value),BindsTo s fd ⟨[u],[]⟩ [("_law_script",u)])∧∀base:Heap,(K w.params).In base→base.Ns mainGlobals mg→FnOk l.prog w (K w.params) mg base CX0 11 fa fd ["_law_script"] (spLaw (K w.params))) :
  PySem.W.WalkO q loose XP YP l.row.toRowW d [] (fun f vs=>PySem.call f vs):=
 L2.walk_of (n:=63) (k:=11) (x:="_law_script") (CX:=fun _=>CX0) (sp:=fun w=>spLaw (K w.params)) hn (by decide) hdf ⟨rfl,by decide,by decide,rfl⟩ hY F (fun _ _ a ns hl hO hS=>⟨a,ns,rfl,hO,hS,hl,fun _=>rfl⟩) fun _ _ _ _ _ z=>z
end My
open PySem PySem.W PyProof.Rows
set_option maxRecDepth 100000 in
set_option maxHeartbeats 0 in
theorem PySem.Challenge.cw_treewithin_k13_grounds_with_dates_holds : PySem.Challenge.rw_treewithin_k13_grounds_with_dates.Holds := by
 w_on;o_law;k_head;(case hw=>w_witness2)
 k_fill
 refine My.walk (l:=PySem.Challenge.rw_treewithin_k13_grounds_with_dates) rfl rfl (fun w h Y=>PySem.W.kIn_of Y) ?F
 case F=>
  intro w mg fa h KX G hmg
  refine' My.all_mk KX G hmg ?a0 ?l0 ?c0 ?k0 ?a1 ?l1 ?c1 ?k1 ?a2 ?l2 ?c2 ?k2 ?a3 ?l3 ?c3 ?k3 ?a4 ?l4 ?c4 ?k4 ?a5 ?l5 ?c5 ?k5 ?a6 ?l6 ?c6 ?k6 ?a7 ?l7 ?c7 ?k7 ?a8 ?l8 ?c8 ?k8 ?a9 ?l9 ?c9 ?k9 ?a10 ?l10 ?c10 ?k10 ?a11 ?l11 ?c11 ?k11 ?a12 ?l12 ?c12 ?k12 ?a13 ?l13 ?c13 ?k13 ?a14 ?l14 ?c14 ?k14 ?a15 ?l15 ?c15 ?k15 ?a16 ?l16 ?c16 ?k16 ?a17 ?l17 ?c17 ?k17 ?a18 ?l18 ?c18 ?k18 ?a19 ?l19 ?c19 ?k19 ?a20 ?l20 ?c20 ?k20 ?a21 ?l21 ?c21 ?k21 ?z_isinstance ?z_str ?z_list ?z_reversed ?z_len ?z_tuple ?z_enumerate ?z_zip ?z_sorted ?z_dict ?z_abs ?z_int ?z_range ?z_all ?z_bool ?z_max ?z_min
  (case a0=>k_is)
  (case l0=>k_is)
  (case c0=>k_is)
  (case k0=>k_is)
  (case a1=>k_is)
  (case l1=>k_is)
  (case c1=>k_is)
  (case k1=>k_is)
  (case a2=>k_is)
  (case l2=>k_is)
  (case c2=>k_is)
  (case k2=>k_is)
  (case a3=>k_is)
  (case l3=>k_is)
  (case c3=>k_is)
  (case k3=>k_is)
  (case a4=>k_is)
  (case l4=>k_is)
  (case c4=>k_is)
  (case k4=>k_is)
  (case a5=>k_is)
  (case l5=>k_is)
  (case c5=>k_is)
  (case k5=>k_is)
  (case a6=>k_is)
  (case l6=>k_is)
  (case c6=>k_is)
  (case k6=>k_is)
  (case a7=>k_is)
  (case l7=>k_is)
  (case c7=>k_is)
  (case k7=>k_is)
  (case a8=>k_is)
  (case l8=>k_is)
  (case c8=>k_is)
  (case k8=>k_is)
  (case a9=>k_is)
  (case l9=>k_is)
  (case c9=>k_is)
  (case k9=>k_is)
  (case a10=>k_is)
  (case l10=>k_is)
  (case c10=>k_is)
  (case k10=>k_is)
  (case a11=>k_is)
  (case l11=>k_is)
  (case c11=>k_is)
  (case k11=>k_is)
  (case a12=>k_is)
  (case l12=>k_is)
  (case c12=>k_is)
  (case k12=>k_is)
  (case a13=>k_is)
  (case l13=>k_is)
  (case c13=>k_is)
  (case k13=>k_is)
  (case a14=>k_is)
  (case l14=>k_is)
  (case c14=>k_is)
  (case k14=>k_is)
  (case a15=>k_is)
  (case l15=>k_is)
  (case c15=>k_is)
  (case k15=>k_is)
  (case a16=>k_is)
  (case l16=>k_is)
  (case c16=>k_is)
  (case k16=>k_is)
  (case a17=>k_is)
  (case l17=>k_is)
  (case c17=>k_is)
  (case k17=>k_is)
  (case a18=>k_is)
  (case l18=>k_is)
  (case c18=>k_is)
  (case k18=>k_is)
  (case a19=>k_is)
  (case l19=>k_is)
  (case c19=>k_is)
  (case k19=>k_is)
  (case a20=>k_is)
  (case l20=>k_is)
  (case c20=>k_is)
  (case k20=>k_is)
  (case a21=>k_is)
  (case l21=>k_is)
  (case c21=>k_is)
  (case k21=>k_is)
  (case z_isinstance=>k_is)
  (case z_str=>k_is)
  (case z_list=>k_is)
  (case z_reversed=>k_is)
  (case z_len=>k_is)
  (case z_tuple=>k_is)
  (case z_enumerate=>k_is)
  (case z_zip=>k_is)
  (case z_sorted=>k_is)
  (case z_dict=>k_is)
  (case z_abs=>k_is)
  (case z_int=>k_is)
  (case z_range=>k_is)
  (case z_all=>k_is)
  (case z_bool=>k_is)
  (case z_max=>k_is)
  (case z_min=>k_is)
#print axioms PySem.Challenge.cw_treewithin_k13_grounds_with_dates_holds
