import PyProof.Rows.All
import Wide.All
import OpenK.AllK
import Wide.FinOn
import Lean
import PyProof.EqAt
import PyProof.EqKinds
import PyProof.TupleCall
import PySem.Sem
import PySem.Builtin.Int.W1All
import PyProof.StrBlockI
import PyProof.StrBlock2
import PyProof.Rows.SortStr
import PyProof.TupleOfSeq
import PyProof.AttrMissHeap
import PyProof.TupleIter
import PyProof.DictUpdate
import PyProof.ListNew
import KE.KDictOf
import KE.KSortTup
import KE.KRevIter
import KE.KDictList
import PyProof.SetKind
import PyProof.DictKinds
import PyProof.SeqWrite
import PyProof.CollectWalk
import PyProof.FactsAll.set_1
import PyProof.FactsAll.set_2
import PyProof.FactsAll.set_3
import PyProof.Rows.SetFrom
import PyProof.Walks
import PyProof.WalksS
import PyProof.FactsAll.tuple_iterator
import PySem.Challenge.RW_latewell_k13_the_first_key
set_option Elab.async false
set_option linter.all false
set_option maxRecDepth 100000
namespace L2
open PySem PySem.Spec PyProof.Rows
noncomputable abbrev Key:=Sum Int Str
noncomputable def keyIs:Key->Value->Bool
 |.inl k,v=>Value.isInt k v
 |.inr x,v=>Value.isStrOf x v
noncomputable def keyH (w:World):Key->Int
 |.inl k=>hashInt k
 |.inr x=>hashStr w x
theorem keyIs_shape:∀ {k:Key}{v:Value},keyIs k v=true->(∃ i t,k=Sum.inl i/\v=Value.int i t)\/(∃ x t,k=Sum.inr x/\v=Value.str x t)
 |.inl i,v,h=>by
  obtain⟨t,e⟩:=Value.isInt_shape (k:=i) (v:=v) h;exact .inl ⟨i,t,rfl,e⟩
 |.inr x,v,h=>by
  obtain⟨t,e⟩:=Value.isStrOf_shape (x:=x) (v:=v) h;exact .inr ⟨x,t,rfl,e⟩
theorem keyIs_int (i:Int) (t:Tok):keyIs (.inl i) (.int i t)=true:=by simp[keyIs,Value.isInt]
theorem keyIs_str (x:Str) (t:Tok):keyIs (.inr x) (.str x t)=true:=by simp[keyIs,Value.isStrOf]
theorem key_ll (a b:Int):decide ((Sum.inl a:Key)=Sum.inl b)=(a==b):=by
 by_cases e:a=b
 ·subst e;simp
 ·have h:¬ (Sum.inl a:Key)=Sum.inl b:=fun q=>e (Sum.inl.inj q)
  rw[decide_eq_false h];exact (beq_eq_false_iff_ne.mpr e).symm
theorem key_rr (a b:Str):decide ((Sum.inr a:Key)=Sum.inr b)=decide (a=b):=by
 by_cases e:a=b
 ·subst e;simp
 ·have h:¬ (Sum.inr a:Key)=Sum.inr b:=fun q=>e (Sum.inr.inj q)
  rw[decide_eq_false h,decide_eq_false e]
theorem key_lr (a:Int) (b:Str):decide ((Sum.inl a:Key)=Sum.inr b)=false:=decide_eq_false (fun q=>nomatch q)
theorem key_rl (a:Str) (b:Int):decide ((Sum.inr a:Key)=Sum.inl b)=false:=decide_eq_false (fun q=>nomatch q)
noncomputable def mixKind (prog:Program) (w:World):PySem.KeyKind prog w Key where
 is:=keyIs
 hash:=keyH w
 inj:=fun v a b ha hb=>by
  rcases keyIs_shape ha with ⟨i,t,rfl,rfl⟩ | ⟨x,t,rfl,rfl⟩
  ·rcases keyIs_shape hb with ⟨j,u,rfl,e⟩ | ⟨y,u,rfl,e⟩
   ·injection e with e1 _;rw[e1]
   ·exact nomatch e
  ·rcases keyIs_shape hb with ⟨j,u,rfl,e⟩ | ⟨y,u,rfl,e⟩
   ·exact nomatch e
   ·injection e with e1 _;rw[e1]
 byValue:=fun k v h=>by
  rcases keyIs_shape h with ⟨i,t,rfl,rfl⟩ | ⟨x,t,rfl,rfl⟩ <;> rfl
 pyHash:=fun hv h=>by
  rcases keyIs_shape hv with ⟨i,t,rfl,rfl⟩ | ⟨x,t,rfl,rfl⟩
  ·exact wpAny_pyHash_int h
  ·exact wpAny_pyHash_str h
 eqBool:=fun hu hv h=>by
  rcases keyIs_shape hu with ⟨i,t,rfl,rfl⟩ | ⟨x,t,rfl,rfl⟩
  ·rcases keyIs_shape hv with ⟨j,u,rfl,rfl⟩ | ⟨y,u,rfl,rfl⟩
   ·rw[key_ll] at h;exact wpAny_eqBool_int h
   ·rw[key_lr] at h;exact SeqAt.EqAt.int_str i t y u _ _ _ _ h
  ·rcases keyIs_shape hv with ⟨j,u,rfl,rfl⟩ | ⟨y,u,rfl,rfl⟩
   ·rw[key_rl] at h;exact SeqAt.EqAt.str_int x t j u _ _ _ _ h
   ·rw[key_rr] at h;exact wpAny_eqBool_str h
 «strs»:=fun k x t v h=>by
  rcases keyIs_shape h with ⟨i,u,rfl,e⟩ | ⟨y,u,rfl,e⟩
  ·exact nomatch e
  ·injection e with e1 _
   subst e1;cases v <;> rfl
theorem mixKind_int (prog:Program) (w:World) (i:Int) (t:Tok):(mixKind prog w).is (.inl i) (.int i t)=true:=keyIs_int i t
theorem mixKind_str (prog:Program) (w:World) (x:Str) (t:Tok):(mixKind prog w).is (.inr x) (.str x t)=true:=keyIs_str x t
end L2
namespace L2
open PySem PySem.Spec PyProof.Rows
inductive V where
 |non | bl (b:Bool) | int (i:Int) | str (x:Str) | byt (b:Array UInt8) | flt (b:UInt64) | ref (a:Addr) | ty (n:String)
 deriving DecidableEq
noncomputable def RelV:V->Value->Prop
 |.non,u=>u=Value.none
 |.bl b,u=>u=Value.bool b
 |.int i,u=>∃ t,u=Value.int i t
 |.str x,u=>∃ t,u=Value.str x t
 |.byt b,u=>∃ t,u=Value.bytes b t
 |.flt b,u=>∃ t,u=Value.float b t
 |.ref a,u=>u=Value.ref a
 |.ty n,u=>u=Value.type n
noncomputable abbrev Vals:List V->List Value->Prop:=Paired RelV
theorem Vals.length {xs:List V}{us:List Value} (r:Vals xs us):xs.length=us.length:=Paired.length r
theorem Vals.get:∀ {xs:List V}{us:List Value}{i:Nat}{x:V},Vals xs us->xs[i]?=some x->∃ u,us[i]?=some u/\RelV x u
 |_,_,_,_,.nil,e=>by simp at e
 |_,_,0,_,.cons r _,e=>by simp at e;subst e;exact⟨_,rfl,r⟩
 |_,_,i+1,x,.cons _ t,e=>by
  obtain⟨u,h1,h2⟩:=Vals.get (i:=i) (x:=x) t (by simpa using e)
  exact⟨u,by simpa using h1,h2⟩
theorem Vals.set {x:V}{u:Value} (r:RelV x u):∀ {xs:List V}{us:List Value} (i:Nat),Vals xs us->Vals (xs.set i x) (us.set i u)
 |_,_,_,.nil=>.nil
 |_,_,0,.cons _ t=>.cons r t
 |_,_,i+1,.cons q t=>.cons q (Vals.set r i t)
theorem Vals.append:∀ {xs ys:List V}{us ws:List Value},Vals xs us->Vals ys ws->Vals (xs++ys) (us++ws)
 |_,_,_,_,.nil,s=>s
 |_,_,_,_,.cons r t,s=>.cons r (Vals.append t s)
theorem Vals.take:∀ {xs:List V}{us:List Value} (n:Nat),Vals xs us->Vals (xs.take n) (us.take n)
 |_,_,0,_=>.nil
 |_,_,_+1,.nil=>.nil
 |_,_,n+1,.cons r t=>.cons r (Vals.take n t)
theorem Vals.drop:∀ {xs:List V}{us:List Value} (n:Nat),Vals xs us->Vals (xs.drop n) (us.drop n)
 |_,_,0,r=>r
 |_,_,_+1,.nil=>.nil
 |_,_,n+1,.cons _ t=>Vals.drop n t
theorem Vals.none_of:∀ {xs:List V}{us:List Value}{i:Nat},Vals xs us->xs[i]?=none->us[i]?=none:=fun {xs us i} r e=>by
 have h1:=r.length;have h2:xs.length<=i:=List.getElem?_eq_none_iff.mp e;exact List.getElem?_eq_none_iff.mpr (by omega)
noncomputable def RelO:Option V->Option Value->Prop
 |some v,some u=>RelV v u
 |none,none=>True
 |_,_=>False
noncomputable def KV {κ:Type}:List (κ×V)->List (κ×Value)->Prop:=Paired fun (p:κ×V) (q:κ×Value)=>p.1=q.1/\RelV p.2 q.2
noncomputable def kV:Key->V
 |.inl i=>.int i
 |.inr x=>.str x
inductive HO where
 |lst (xs:List V)
 |tup (xs:List V)
 |dK (kvs:List (Key×V)) | dT (kvs:List (List Key×V))
 |set (S:Int->Bool) (n:Nat)
 |ins (C dx:Addr) (fs:List (Str×V))
 |own (x:Addr)
 |xd (fs:List (Str×V))
 |met (f x:Addr)
 |rng (lo hi:Int)
 |frz (o:Obj) (u:HO)
 |tbl (q:Str)
 |cod (q:Str)
 |ext (φ:Heap->Prop)
noncomputable abbrev Hp:=Addr->Option HO
noncomputable def TabP:Addr:=23
noncomputable def TabQ:Str:="keys_some.<locals>.<lambda>"
noncomputable def upd (H:Hp) (a:Addr) (o:HO):Hp:=fun b=>if b=a then some o else H b
theorem upd_same {H:Hp}{a:Addr}{o:HO}:upd H a o a=some o:=by unfold upd;rw[if_pos rfl]
theorem upd_ne {H:Hp}{a b:Addr}{o:HO} (h:b≠a):upd H a o b=H b:=by unfold upd;rw[if_neg h]
theorem ne_of {H:Hp}{a b:Addr}{o u:HO} (h:H a=some o) (h':H b=some u) (d:o≠u):a≠b:=by
 intro e;subst e;rw[h] at h';exact d (Option.some.inj h')
theorem ne_of_none {H:Hp}{a b:Addr}{o:HO} (h:H a=some o) (h':H b=none):a≠b:=by
 intro e;subst e;rw[h] at h';cases h'
noncomputable def IsTuN (h:Heap) (a:Addr) (items:Array Value):Prop:=∃ o,h.get? a=some o ∧ o.cls=.type "tuple" ∧ (∃ n,o.data=.seq items n) ∧ o.dict=none
theorem IsTuN.tup {h:Heap}{a:Addr}{items:Array Value} (x:IsTuN h a items):IsTup h a items:=let ⟨o,p,q,⟨n,r⟩,_⟩:=x;⟨o,p,q,n,r⟩
theorem IsTuN.new (h:Heap) (items:Array Value):IsTuN (h.push {cls:=.type "tuple",data:=.seq items}) h.objs.size items:=⟨_,Heap.get?_push_size _ rfl,rfl,⟨0,rfl⟩,rfl⟩
section
variable (P:Program) (w:World)
noncomputable def ObjOk (H:Hp) (h:Heap) (a:Addr):HO->Prop
 |.lst xs=>xs.length ≤ sizeLine ∧ ∃ (its:List Value) (n:Nat),Vals xs its ∧ h.get? a=some {cls:=.type "list",data:=.seq its.toArray n}
 |.tup xs=>xs.length<=sizeLine/\∃ its:List Value,Vals xs its/\IsTuN h a its.toArray
 |.dK kvs=>kvs.length<=sizeLine/\(a==sysModules)=false/\∃ vs,KV kvs vs/\h.DictOf (mixKind P w) a vs
 |.dT kvs=>kvs.length<=sizeLine/\(a==sysModules)=false/\∃ xs:List (List Key×Addr×Value),
   Paired (fun (p:List Key×V) (q:List Key×Addr×Value)=>p.1=q.1/\H q.2.1=some (.tup (p.1.map kV))/\RelV p.2 q.2.2) kvs xs /\
   ∃ o es ep,h.get? a=some o/\o.ExactDict/\o.data=.dict es ep/\es.toList=xs.map (entryOfKey (tupleKind (mixKind P w)))/\(xs.map (·.1)).Nodup
 |.set S n=>h.SetOf (intKind P w) a S n
 |.ins C dx fs=>H dx=some (.own a)/\fs.length<=1000/\dx≠a/\h.get? a=some (PySem.W.instObj C dx) /\
   ∃ mA,h.Ns1 dx mA/\(∀ f,RelO (fs.lookup f) (mA f))/\PySem.Within mA (fs.map (·.1))
 |.own _=>∃ o,h.get? a=some o
 |.xd fs=>∃ mA,h.Ns1 a mA/\∀ f,RelO (fs.lookup f) (mA f)
 |.rng lo hi=>∃ t u v,h.get? a=some {cls:=.type "range",data:=.fields #[.int lo t,.int hi u,.int 1 v]}
 |.frz o u=>h.get? a=some o/\ObjOk H h a u
 |.tbl q=>∃ ps,h.get? a=some (PySem.W.tabObj ps)/\TriplesOk ps.toList/\∀ pos,codeAmong pos ps.toList=none\/∃ c',codeAmong pos ps.toList=some (.ref c')/\H c'=some (.cod q)
 |.cod q=>h.CodeRec (.ref a) q
 |.met f x=>h.get? a=some (PySem.W.methodObj (.ref f) (.ref x))
 |.ext φ=>φ h/\(∃ o,h.get? a=some o)/\∀ h1 h2:Heap,φ h1->(∀ o,h1.get? a=some o->h2.get? a=some o)->φ h2
noncomputable def HOk (H:Hp) (h:Heap):Prop:=∀ a o,H a=some o->ObjOk P w H h a o
end
section
variable {P:Program}{w:World}{H H':Hp}{h h':Heap}{a:Addr}{o:HO}
theorem ObjOk.lt (x:ObjOk P w H h a o):a<h.objs.size:=by
 cases o with
 |lst xs=>obtain⟨_,_,_,_,e⟩:=x;exact Heap.lt_size e
 |tup xs=>obtain⟨_,_,_,p⟩:=x;exact p.tup.lt
 |dK kvs=>obtain⟨_,_,_,_,o,_,_,e,_⟩:=x;exact Heap.lt_size e
 |dT kvs=>obtain⟨_,_,_,_,o,_,_,e,_⟩:=x;exact Heap.lt_size e
 |set S n=>obtain⟨o,_,_,_,e,_⟩:=x;exact Heap.lt_size e
 |ins C dx fs=>obtain⟨_,_,_,e,_⟩:=x;exact Heap.lt_size e
 |own y=>obtain⟨_,e⟩:=x;exact Heap.lt_size e
 |xd fs=>obtain⟨_,⟨_,_,_,e,_⟩,_⟩:=x;exact Heap.lt_size e
 |rng lo hi=>obtain⟨_,_,_,e⟩:=x;exact Heap.lt_size e
 |frz ob u=>obtain⟨e,_⟩:=x;exact Heap.lt_size e
 |tbl q=>obtain⟨_,e,_⟩:=x;exact Heap.lt_size e
 |cod q=>obtain⟨_,_,_,_,e,e2,_⟩:=x;cases e;exact Heap.lt_size e2
 |met f y=>exact Heap.lt_size (show h.get? a=some _ from x)
 |ext φ=>obtain⟨_,⟨_,e⟩,_⟩:=x;exact Heap.lt_size e
theorem Paired.mapP {α β:Type}{F G:α->β->Prop}:∀ {l₁:List α}{l₂:List β},Paired F l₁ l₂->(∀ a b,F a b->G a b)->Paired G l₁ l₂
 |_,_,.nil,_=>.nil
 |_,_,.cons r t,f=>.cons (f _ _ r) (Paired.mapP t f)
theorem ObjOk.stay (x:ObjOk P w H h a o) (k:∀ b u,(b=a\/H b=some (.own a))->h.get? b=some u->h'.get? b=some u)
  (ho:∀ b,H b=some (.own a)->H' b=some (.own a)) (ht:∀ b xs,H b=some (.tup xs)->H' b=some (.tup xs)) (hc:∀ b q,H b=some (.cod q)->H' b=some (.cod q)):ObjOk P w H' h' a o:=by
 induction o with
 |lst xs=>obtain⟨z,its,n,r,e⟩:=x;exact⟨z,its,n,r,k _ _ (.inl rfl) e⟩
 |tup xs=>obtain⟨z,its,r,ob,e,c⟩:=x;exact⟨z,its,r,ob,k _ _ (.inl rfl) e,c⟩
 |dK kvs=>obtain⟨z,y,vs,r,ob,es,ep,e,c⟩:=x;exact⟨z,y,vs,r,ob,es,ep,k _ _ (.inl rfl) e,c⟩
 |dT kvs =>
  obtain⟨z,y,xs,r,ob,es,ep,e,c⟩:=x;exact⟨z,y,xs,Paired.mapP r fun p q z=>⟨z.1,ht _ _ z.2.1,z.2.2⟩,ob,es,ep,k _ _ (.inl rfl) e,c⟩
 |set S n=>obtain⟨ob,es,ep,t,e,c⟩:=x;exact⟨ob,es,ep,t,k _ _ (.inl rfl) e,c⟩
 |ins C dx fs =>
  obtain⟨d,z,ne,e,mA,⟨od,es,ep,e2,c⟩,r⟩:=x;exact⟨ho _ d,z,ne,k _ _ (.inl rfl) e,mA,⟨od,es,ep,k _ _ (.inr d) e2,c⟩,r⟩
 |own y=>obtain⟨ob,e⟩:=x;exact⟨ob,k _ _ (.inl rfl) e⟩
 |xd fs=>obtain⟨mA,⟨od,es,ep,e,c⟩,r⟩:=x;exact⟨mA,⟨od,es,ep,k _ _ (.inl rfl) e,c⟩,r⟩
 |rng lo hi=>obtain⟨t,u,v,e⟩:=x;exact⟨t,u,v,k _ _ (.inl rfl) e⟩
 |frz ob u ih=>obtain⟨e,q⟩:=x;exact⟨k _ _ (.inl rfl) e,ih q⟩
 |tbl q =>
  obtain⟨ps,e,tr,al⟩:=x;refine⟨ps,k _ _ (.inl rfl) e,tr,fun pos=>?_⟩
  rcases al pos with z | ⟨c',z,y⟩
  ·exact .inl z
  ·exact .inr ⟨c',z,hc _ _ y⟩
 |cod q=>obtain⟨c,oc,vs,t,e,e2,r⟩:=x;cases e;exact⟨_,oc,vs,t,rfl,k _ _ (.inl rfl) e2,r⟩
 |met f y =>
  have e:h.get? a=some (PySem.W.methodObj (.ref f) (.ref y)):=x;show h'.get? a=some (PySem.W.methodObj (.ref f) (.ref y));exact k a _ (.inl rfl) e
 |ext φ=>obtain⟨p,⟨o,e⟩,st⟩:=x;exact⟨st _ _ p fun o q=>k _ _ (.inl rfl) q,⟨o,k _ _ (.inl rfl) e⟩,st⟩
theorem HOk.lt (x:HOk P w H h) (e:H a=some o):a<h.objs.size:=(x a o e).lt
theorem HOk.fresh (x:HOk P w H h) (e:h.objs.size<=a):H a=none:=by
 cases q:H a with
 |none=>rfl
 |some u=>exact absurd (Nat.lt_of_lt_of_le (x.lt q) e) (Nat.lt_irrefl _)
theorem HOk.kept (x:HOk P w H h) (k:∀ b u,h.get? b=some u->h'.get? b=some u):HOk P w H h':=fun a o e =>
 (x a o e).stay (fun b u _ q=>k b u q) (fun _ q=>q) (fun _ _ q=>q) fun _ _ q=>q
theorem HOk.laid (x:HOk P w H h) (k:∀ b u,h.get? b=some u->h'.get? b=some u) (hp:h.objs.size<=a) (new:ObjOk P w (upd H a o) h' a o):HOk P w (upd H a o) h':=fun b u e=>by
 have hn:=x.fresh hp
 by_cases hb:b=a
 ·subst hb;rw[upd_same] at e;cases e;exact new
 ·rw[upd_ne hb] at e
  exact (x b u e).stay (fun c v _ q=>k c v q) (fun c q=>by rw[upd_ne (ne_of_none q hn)];exact q) (fun c xs q=>by rw[upd_ne (ne_of_none q hn)];exact q) fun c xs q=>by rw[upd_ne (ne_of_none q hn)];exact q
end
noncomputable def Rd (H:Hp) (a:Addr) (u:HO):Prop:=H a=some u\/∃ o,H a=some (.frz o u)
theorem Rd.of {H:Hp}{a:Addr}{u:HO} (h:H a=some u):Rd H a u:=.inl h
theorem Rd.ok {P:Program}{w:World}{H:Hp}{h:Heap}{a:Addr}{u:HO} (r:Rd H a u) (x:HOk P w H h):ObjOk P w H h a u:=by
 rcases r with r | ⟨o,r⟩
 ·exact x a u r
 ·obtain⟨_,q⟩:=x a _ r
  exact q
noncomputable def Mut:Option HO->Prop
 |some (.lst _)=>True
 |some (.dK _)=>True
 |some (.dT _)=>True
 |some (.set _ _)=>True
 |some (.ins _ _ _)=>True
 |some (.ext _)=>True
 |_=>False
section
variable {P:Program}{w:World}{H:Hp}{h h':Heap}{x e:Addr}{o':HO}
theorem HOk.write (ok:HOk P w H h) (mu:Mut (H x)) (he:e=x\/H e=some (.own x)) (k:∀ b u,b≠e->h.get? b=some u->h'.get? b=some u) (heo:∃ u,h'.get? e=some u)
  (new:ObjOk P w (upd H x o') h' x o'):HOk P w (upd H x o') h':=fun b u q=>by
 have nown:∀ c y,H c=some (.own y)->c≠x:=fun c y r z=>by subst z;rw[r] at mu;exact mu
 have ntup:∀ c xs,H c=some (.tup xs)->c≠x:=fun c xs r z=>by subst z;rw[r] at mu;exact mu
 have ncod:∀ c xs,H c=some (.cod xs)->c≠x:=fun c xs r z=>by subst z;rw[r] at mu;exact mu
 by_cases hb:b=x
 ·subst hb;rw[upd_same] at q;cases q;exact new
 ·rw[upd_ne hb] at q
  by_cases hbe:b=e
  ·have q':H b=some (.own x):=by
    rcases he with z | z
    ·exact absurd (hbe.trans z) hb
    ·rw[hbe];exact z
   rw[q] at q';cases q';obtain⟨v,hv⟩:=heo;exact⟨v,by rw[hbe];exact hv⟩
  ·refine (ok b u q).stay (fun c v hc r=>k c v ?_ r) (fun c r=>by rw[upd_ne (nown c b r)];exact r) (fun c xs r=>by rw[upd_ne (ntup c xs r)];exact r) fun c xs r=>by rw[upd_ne (ncod c xs r)];exact r
   rcases hc with rfl | hc
   ·exact hbe
   ·rintro rfl
    rcases he with z | z
    ·exact nown c b hc z
    ·rw[hc] at z;cases z;exact hb rfl
end
structure Un (fs ex:List Addr) (H H':Hp) (h h':Heap):Prop where
 keep:∀ b o,h.get? b=some o->H b=none->b∉fs->b∉ex->h'.get? b=some o
 slot:∀ b o,h.get? b=some o->H b=none->b∈fs->b∉ex->∃ sl,h'.get? b=some {o with slots:=sl}
 free:∀ b o,h.get? b=some o->H b=none->b∉ex->H' b=none
 there:∀ b o,h.get? b=some o->b∉ex->∃ o',h'.get? b=some o'
 tups:∀ b xs,H b=some (.tup xs)->H' b=some (.tup xs)
 frzs:∀ b o u,H b=some (.frz o u)->H' b=some (.frz o u)
 tbls:∀ b q,H b=some (.tbl q)->H' b=some (.tbl q)
section
variable {fs fs' ex ex':List Addr}{H H1 H2:Hp}{h h1 h2 h':Heap}{a x e:Addr}{o:HO}
theorem Un.any (u:Un fs ex H H1 h h1) {b:Addr}{ob:Obj} (q:h.get? b=some ob) (n:H b=none) (hx:b∉ex):∃ sl,h1.get? b=some {ob with slots:=sl}:=by
 by_cases hb:b∈fs
 ·exact u.slot b ob q n hb hx
 ·exact⟨ob.slots,u.keep b ob q n hb hx⟩
theorem Un.trans (a:Un fs ex H H1 h h1) (b:Un fs ex H1 H2 h1 h2):Un fs ex H H2 h h2 where
 keep:=fun c ob q n hc hx=>b.keep c ob (a.keep c ob q n hc hx) (a.free c ob q n hx) hc hx
 slot:=fun c ob q n hc hx=>by
  obtain⟨sl,e1⟩:=a.slot c ob q n hc hx;obtain⟨sl',e2⟩:=b.slot c _ e1 (a.free c ob q n hx) hc hx;exact⟨sl',e2⟩
 free:=fun c ob q n hx=>by
  obtain⟨o',e1⟩:=a.there c ob q hx;exact b.free c o' e1 (a.free c ob q n hx) hx
 there:=fun c ob q hx=>by
  obtain⟨o',e1⟩:=a.there c ob q hx;exact b.there c o' e1 hx
 tups:=fun c xs q=>b.tups c xs (a.tups c xs q)
 frzs:=fun c ob xs q=>b.frzs c ob xs (a.frzs c ob xs q)
 tbls:=fun c xs q=>b.tbls c xs (a.tbls c xs q)
theorem Un.kept (k:∀ b u,h.get? b=some u->h'.get? b=some u):Un fs ex H H h h' :=
 ⟨fun b ob q _ _ _=>k b ob q,fun b ob q _ _ _=>⟨ob.slots,k b ob q⟩,fun _ _ _ n _=>n,fun b ob q _=>⟨ob,k b ob q⟩,fun _ _ q=>q,fun _ _ _ q=>q,fun _ _ q=>q⟩
theorem Un.refl:Un fs ex H H h h:=Un.kept fun _ _ q=>q
theorem Un.laid (k:∀ b u,h.get? b=some u->h'.get? b=some u) (hp:h.objs.size<=a) (hn:H a=none):Un fs ex H (upd H a o) h h' where
 keep:=fun b u q _ _ _=>k b u q
 slot:=fun b u q _ _ _=>⟨u.slots,k b u q⟩
 free:=fun b u q n _=>by rw[upd_ne (Nat.ne_of_lt (Nat.lt_of_lt_of_le (Heap.lt_size q) hp))];exact n
 there:=fun b u q _=>⟨u,k b u q⟩
 tups:=fun b xs q=>by rw[upd_ne (ne_of_none q hn)];exact q
 frzs:=fun b u xs q=>by rw[upd_ne (ne_of_none q hn)];exact q
 tbls:=fun b xs q=>by rw[upd_ne (ne_of_none q hn)];exact q
theorem Un.write (mu:Mut (H x)) (he:e=x\/H e=some (.own x)) (k:∀ b u,b≠e->h.get? b=some u->h'.get? b=some u) (heo:∃ u,h'.get? e=some u):Un fs ex H (upd H x o) h h':=by
 have hx:∀ b,H b=none->b≠x:=fun b n z=>by subst z;rw[n] at mu;exact mu
 have hb:∀ b,H b=none->b≠e:=fun b n z=>by
  subst z
  rcases he with r | r
  ·exact hx b n r
  ·rw[n] at r;cases r
 have hm:∀ b u,H b=some u->¬ Mut (some u)->b≠x:=fun b u q nm z=>by subst z;rw[q] at mu;exact nm mu
 refine⟨fun b u q n _ _=>k b u (hb b n) q,fun b u q n _ _=>⟨u.slots,k b u (hb b n) q⟩,fun b u q n _=>by rw[upd_ne (hx b n)];exact n,fun b u q _=>?_,
  fun b xs q=>by rw[upd_ne (hm b _ q fun z=>z)];exact q,fun b u xs q=>by rw[upd_ne (hm b _ q fun z=>z)];exact q,fun b xs q=>by rw[upd_ne (hm b _ q fun z=>z)];exact q⟩
 by_cases hbe:b=e
 ·subst hbe;exact heo
 ·exact⟨u,k b u hbe q⟩
theorem Un.mono (u:Un fs ex H H1 h h1) (hs:∀ b∈fs,b∈fs') (hx:∀ b∈ex,b∈ex'):Un fs' ex' H H1 h h1 :=
 ⟨fun b ob q n hb he=>u.keep b ob q n (fun z=>hb (hs b z)) fun z=>he (hx b z),fun _ _ q n _ he=>u.any q n fun z=>he (hx _ z),fun b ob q n he=>u.free b ob q n fun z=>he (hx b z),fun b ob q he=>u.there b ob q fun z=>he (hx b z),u.tups,u.frzs,u.tbls⟩
end
noncomputable def trk (h:Heap) (H:Hp):List Addr:=(List.range h.objs.size).filter fun a=>(H a).isSome
noncomputable def hidT (h:Heap) (H:Hp):Heap:=PySem.W.hideAll h (trk h H)
theorem hidT_size (h:Heap) (H:Hp):(hidT h H).objs.size=h.objs.size:=PySem.W.hideAll_size _ _
theorem hidT_get {h:Heap}{H:Hp}{b:Addr}{o:Obj} (e:h.get? b=some o) (n:H b=none):(hidT h H).get? b=some o :=
 PySem.W.hideAll_get _ e fun hm=>by
  have q:(H b).isSome=true:=(List.mem_filter.mp hm).2;rw[n] at q;simp at q
theorem of_hidT {h:Heap}{H:Hp}{b:Addr}{o:Obj} (e:(hidT h H).get? b=some o):h.get? b=some o/\H b=none:=by
 have e':h.get? b=some o:=PySem.W.of_hideAll (trk h H) e;refine⟨e',?_⟩;cases q:H b with
 |none=>rfl
 |some x =>
  have hm:b∈trk h H:=List.mem_filter.mpr ⟨List.mem_range.mpr (Heap.lt_size e'),by simp[q]⟩
  have z:(hidT h H).get? b=none:=PySem.W.hideAll_none (trk h H) hm;rw[z] at e;cases e
noncomputable def allNews (g h:Heap) (L:Addr):List (Addr×Obj):=(List.range h.objs.size).filterMap fun a=>if a=L\/(g.get? a).isSome=true then none else (h.get? a).map fun o=>(a,o)
noncomputable def rest (g h:Heap) (L d:Addr):List (Addr×Obj):=(allNews g h L).filter fun p=>decide (p.1≠d)
end L2
namespace L2
open PySem PySem.Spec PyProof.Rows
structure Mod (K:PySem.W.Frag) (mg:Str->Option Value) (base:Heap):Prop where
 kin:K.In base
 glob:base.Ns mainGlobals mg
 blt:∃ mb,base.Ns builtinsNs mb ∧ ∀ x:Str,x≠"__name__" → mb x=bootBuiltins x
 nolimit:base.NoLimit
 bm:∃ bm ob,mg "__builtins__"=some (.ref bm) ∧ bm≠builtinsNs ∧ base.get? bm=some ob ∧ ob.cls=.type "module" ∧ ob.dict=some builtinsNs ∧ ob.data=.plain
structure Cx where
 prog:Program
 w:World
 K:PySem.W.Frag
 mg:Str->Option Value
 base:Heap
 A:Around
 N:List Str
 s₀:Shared
 H₀:Hp
 env:Env
 outer:List Env
 stack:List Env
 ex:List Addr
 fn:Str->Bool
 calm:Bool
 pn:List (Addr×Obj)
 xe:Value->Shared->Prop
noncomputable def frs (l:List Env):List Addr:=l.filterMap (·.frame)
noncomputable abbrev Cx.fs (X:Cx):List Addr:=frs X.outer
noncomputable def Vis (sc:Scope) (x:Str):Prop:=sc.names.lookup x=some .local\/sc.names.lookup x=some .cell\/sc.names.lookup x=some .free
noncomputable def Loc (sc:Scope) (x:Str):Prop:=sc.names.lookup x=some .local\/sc.names.lookup x=some .cell
noncomputable def Look (env:Env) (h:Heap) (m:Str->Option Value) (x:Str) (u:Value):Prop :=
 (env.kindOf x=some .local/\m x=some u)\/((env.kindOf x=some .cell\/env.kindOf x=some .free)/\∃ c,env.cells.lookup x=some c/\h.IsCell c (some u))
structure Cx.Ok (X:Cx):Prop where
 mod:Mod X.K X.mg X.base
 kind:X.env.scope.kind=.function
 glob:X.env.globals=mainGlobals
 blt:X.env.builtins=builtinsNs
 above:X.s₀.heap.objs.size<=X.env.locals
 inj:∀ x y c,X.env.cells.lookup x=some c->X.env.cells.lookup y=some c->x=y
 has:∀ x,(X.env.kindOf x=some .cell\/X.env.kindOf x=some .free)->∃ c,X.env.cells.lookup x=some c
 cab:∀ x c,X.fn x=true->X.env.cells.lookup x=some c->X.s₀.heap.objs.size<=c
 hd:X.calm=true->X.A.handled=none
 frames:X.A.frames=some X.stack
 stk:X.stack=X.outer\/(X.stack=X.env::X.outer/\X.env.frame=some X.env.locals)
 exf:∀ b∈X.ex,b≠X.env.locals/\∀ x c,X.env.cells.lookup x=some c->c≠b
 bs:∀ b o,X.base.get? b=some o->X.s₀.heap.get? b=some o/\X.H₀ b=none
 bsz:X.base.objs.size<=X.s₀.heap.objs.size
 noex:∀ b o,X.base.get? b=some o->b∉X.ex
 exfs:∀ b∈X.ex,b∉X.fs
 funs:X.s₀.heap.FunFrames X.base X.outer
 frf:∀ b∈X.fs,X.H₀ b=none
 tab:X.H₀ TabP=some (.tbl TabQ)
structure Inv (X:Cx) (pins:List (Addr×Obj)) (σ:List (Option V)) (H:Hp) (s:Shared):Prop where
 ok:X.Ok
 os:s.os=X.s₀.os
 bare:AllBare s.gens
 base:Un X.fs X.ex X.H₀ H X.s₀.heap s.heap
 loc:∃ m,s.heap.Ns X.env.locals m/\∀ (i:Nat) (x:Str) (v:V),X.N[i]?=some x->σ[i]?=some (some v)->Vis X.env.scope x->∃ u,RelV v u/\Look X.env s.heap m x u
 cell:∀ x c,X.env.cells.lookup x=some c->∃ v,s.heap.IsCell c v
 free:H X.env.locals=none
 freeC:∀ x c,X.env.cells.lookup x=some c->H c=none
 pin:∀ p∈X.pn++pins,s.heap.get? p.1=some p.2/\H p.1=none/\p.1≠X.env.locals/\p.1∉X.fs/\∀ v,p.2.data≠.cell v
 hok:HOk X.prog X.w H s.heap
 len:σ.length=X.N.length
section
variable {X:Cx}{pins:List (Addr×Obj)}{σ:List (Option V)}{H H':Hp}{s:Shared}{h':Heap}
theorem Cx.Ok.nofr (ok:X.Ok) {b:Addr}{o:Obj} (e:X.base.get? b=some o):b∉X.fs:=fun hb=>by
 have:=(ok.funs.mem hb).1;rw[e] at this;cases this
theorem Inv.bs (I:Inv X pins σ H s):∀ b o,X.base.get? b=some o->s.heap.get? b=some o/\H b=none:=fun b o e =>
 ⟨I.base.keep b o (I.ok.bs b o e).1 (I.ok.bs b o e).2 (I.ok.nofr e) (I.ok.noex b o e),I.base.free b o (I.ok.bs b o e).1 (I.ok.bs b o e).2 (I.ok.noex b o e)⟩
theorem Inv.bk (I:Inv X pins σ H s):∀ b o,X.base.get? b=some o->s.heap.get? b=some o:=fun b o e=>(I.bs b o e).1
theorem Inv.mod (I:Inv X pins σ H s):Mod X.K X.mg X.base:=I.ok.mod
theorem Inv.kIn (I:Inv X pins σ H s):X.K.In s.heap:=I.ok.mod.kin.keeps I.bk
theorem Inv.nolimit (I:Inv X pins σ H s):s.heap.NoLimit:=I.ok.mod.nolimit.keeps I.bk
theorem Inv.fr (I:Inv X pins σ H s):∃ m,Fr X.base X.env.locals s.heap m :=
 let ⟨m,hn,_⟩:=I.loc
 ⟨m,hn,I.bk,Nat.le_trans I.ok.bsz I.ok.above⟩
theorem Inv.lt (I:Inv X pins σ H s):X.env.locals<s.heap.objs.size:=let ⟨_,hn,_⟩:=I.loc;hn.lt
theorem Inv.sz (I:Inv X pins σ H s):X.s₀.heap.objs.size<=s.heap.objs.size:=Nat.le_trans I.ok.above (Nat.le_of_lt I.lt)
theorem Inv.nofs (I:Inv X pins σ H s) {a:Addr} (h:s.heap.objs.size<=a):a∉X.fs:=fun hb=>by
 obtain⟨_,o,ho,_⟩:=I.ok.funs.mem hb;exact absurd (Nat.lt_of_lt_of_le (Heap.lt_size ho) (Nat.le_trans I.sz h)) (Nat.lt_irrefl _)
theorem Inv.cne (I:Inv X pins σ H s):∀ x c,X.env.cells.lookup x=some c->c≠X.env.locals:=fun x c e z=>by
 obtain⟨v,o,ho,hd⟩:=I.cell x c e;obtain⟨m,⟨o',es,ep,ho',hd',_⟩,_⟩:=I.loc;rw[z,ho'] at ho;cases ho;rw[hd'] at hd;cases hd
theorem Inv.funs (I:Inv X pins σ H s):s.heap.FunFrames X.base X.outer:=by
 have all:∀ (l:List Env),(∀ b∈frs l,b∈X.fs)->X.s₀.heap.FunFrames X.base l->s.heap.FunFrames X.base l:=by
  intro l
  induction l with
  |nil=>intro _ _;trivial
  |cons env r ih =>
   intro hs hl;obtain⟨hk,⟨L,o,hf,hn,ho,hd⟩,hr⟩:=hl;have hL:L∈X.fs:=hs L (by unfold frs;rw[List.filterMap_cons,hf];exact List.mem_cons_self)
   obtain⟨sl,e⟩:=I.base.slot L o ho (I.ok.frf L hL) hL fun z=>I.ok.exfs L z hL
   exact⟨hk,⟨L,_,hf,hn,e,hd⟩,ih (fun b hb=>hs b (by unfold frs;rw[List.filterMap_cons,hf];exact List.mem_cons_of_mem _ hb)) hr⟩
 exact all X.outer (fun _ hb=>hb) I.ok.funs
theorem Inv.stack (I:Inv X pins σ H s):s.heap.FunFrames X.base X.stack:=by
 rcases I.ok.stk with e | ⟨e,hf⟩
 ·rw[e];exact I.funs
 ·rw[e]
  obtain⟨m,hn,_⟩:=I.loc;refine .cons (by rw[I.ok.kind];decide) hf hn ?_ I.funs
  exact Heap.get?_none_of_le (Nat.le_trans I.ok.bsz I.ok.above)
theorem Inv.stkSub (I:Inv X pins σ H s):∀ b∈frs X.stack,b∈X.env.locals::X.fs:=fun b hb=>by
 rcases I.ok.stk with e | ⟨e,hf⟩
 ·rw[e] at hb;exact List.mem_cons_of_mem _ hb
 ·rw[e] at hb
  unfold frs at hb;rw[List.filterMap_cons,hf] at hb;exact hb
theorem Inv.stkFree (I:Inv X pins σ H s):∀ b∈frs X.stack,H b=none:=fun b hb=>by
 rcases List.mem_cons.mp (I.stkSub b hb) with e | hb
 ·rw[e];exact I.free
 ·obtain⟨_,o,ho,_⟩:=I.ok.funs.mem hb
  exact I.base.free b o ho (I.ok.frf b hb) fun z=>I.ok.exfs b z hb
theorem Inv.step {g':Array GenState}{t':Nat}{d':Drawn}{ch:List Addr} (I:Inv X pins σ H s)
  (hch:∀ b∈ch,(b∈X.ex\/X.s₀.heap.objs.size<=b)/\b≠X.env.locals/\(∀ x c,X.env.cells.lookup x=some c->c≠b)/\∀ p∈X.pn++pins,p.1≠b)
  (keep:∀ b o,b≠X.env.locals->b∉X.fs->b∉ch->s.heap.get? b=some o->H b=none->h'.get? b=some o)
  (slot:∀ b o,b≠X.env.locals->b∈X.fs->b∉ch->s.heap.get? b=some o->H b=none->∃ sl,h'.get? b=some {o with slots:=sl}) (free:∀ b o,b∉ch->s.heap.get? b=some o->H b=none->H' b=none)
  (there:∀ b o,b∉ch->s.heap.get? b=some o->∃ o',h'.get? b=some o')
  (tups:∀ b xs,H b=some (.tup xs)->H' b=some (.tup xs)) (frzs:∀ b o u,H b=some (.frz o u)->H' b=some (.frz o u)) (tbls:∀ b q,H b=some (.tbl q)->H' b=some (.tbl q))
  (ns:∀ m,s.heap.Ns X.env.locals m->h'.Ns X.env.locals m) (hok:HOk X.prog X.w H' h') (hg:AllBare g') :
  Inv X pins σ H' {s with heap:=h',gens:=g',drawn:=d',toks:=t'}:=by
 have neL:∀ b o,X.s₀.heap.get? b=some o->b≠X.env.locals:=fun b o e=>Nat.ne_of_lt (Nat.lt_of_lt_of_le (Heap.lt_size e) I.ok.above)
 have neC:∀ b o,X.s₀.heap.get? b=some o->b∉X.ex->b∉ch:=fun b o e hx hb=>by
  rcases (hch b hb).1 with z | z
  ·exact hx z
  ·exact absurd (Nat.lt_of_lt_of_le (Heap.lt_size e) z) (Nat.lt_irrefl _)
 have cellK:∀ x c,X.env.cells.lookup x=some c->∀ v,s.heap.IsCell c v->h'.IsCell c v:=fun x c e v ⟨o,ho,hd⟩=>by
  have nch:c∉ch:=fun z=>(hch c z).2.2.1 x c e rfl
  by_cases hc:c∈X.fs
  ·obtain⟨sl,q⟩:=slot c o (I.cne x c e) hc nch ho (I.freeC x c e)
   exact⟨_,q,hd⟩
  ·exact⟨o,keep c o (I.cne x c e) hc nch ho (I.freeC x c e),hd⟩
 refine⟨I.ok,I.os,hg,⟨fun b o e n hb hx=>?_,fun b o e n hb hx=>?_,fun b o e n hx=>?_,fun b o e hx=>?_,fun b xs e=>tups b xs (I.base.tups b xs e),fun b o xs e=>frzs b o xs (I.base.frzs b o xs e),fun b xs e=>tbls b xs (I.base.tbls b xs e)⟩,?_,fun x c e=>?_,?_,fun x c e=>?_,fun p hp=>?_,hok,I.len⟩
 ·exact keep b o (neL b o e) hb (neC b o e hx) (I.base.keep b o e n hb hx) (I.base.free b o e n hx)
 ·obtain⟨sl,e1⟩:=I.base.slot b o e n hb hx
  obtain⟨sl',e2⟩:=slot b _ (neL b o e) hb (neC b o e hx) e1 (I.base.free b o e n hx);exact⟨sl',e2⟩
 ·obtain⟨o',e1⟩:=I.base.there b o e hx
  exact free b o' (neC b o e hx) e1 (I.base.free b o e n hx)
 ·obtain⟨o',e1⟩:=I.base.there b o e hx
  exact there b o' (neC b o e hx) e1
 ·obtain⟨m,hn,hl⟩:=I.loc
  refine⟨m,ns m hn,fun i x v e1 e2 e3=>?_⟩
  obtain⟨u,r,l⟩:=hl i x v e1 e2 e3;refine⟨u,r,?_⟩
  rcases l with l | ⟨k,c,e,z⟩
  ·exact .inl l
  ·exact .inr ⟨k,c,e,cellK x c e _ z⟩
 ·obtain⟨v,z⟩:=I.cell x c e
  exact⟨v,cellK x c e v z⟩
 ·obtain⟨m,⟨o,_,_,ho,_⟩,_⟩:=I.loc
  exact free _ o (fun z=>(hch _ z).2.1 rfl) ho I.free
 ·obtain⟨v,o,ho,hd⟩:=I.cell x c e
  exact free c o (fun z=>(hch c z).2.2.1 x c e rfl) ho (I.freeC x c e)
 ·obtain⟨e,n,ne,nf,d⟩:=I.pin p hp
  have nch:p.1∉ch:=fun z=>(hch p.1 z).2.2.2 p hp rfl
  exact⟨keep p.1 p.2 ne nf nch e n,free p.1 p.2 nch e n,ne,nf,d⟩
theorem Inv.un {t':Nat} (I:Inv X pins σ H s) (u:Un X.fs [] H H' s.heap h') (hok:HOk X.prog X.w H' h'):Inv X pins σ H' {s with heap:=h',toks:=t'}:=by
 obtain⟨m,⟨o,es,ep,ho,r⟩,_⟩:=id I.loc;obtain⟨sl,hL⟩:=u.any ho I.free (by simp)
 exact I.step (g':=s.gens) (d':=s.drawn) (ch:=[]) (fun _ z=>nomatch z) (fun b o _ hb _ e n=>u.keep b o e n hb (by simp)) (fun b o _ hb _ e n=>u.slot b o e n hb (by simp)) (fun b o _ e n=>u.free b o e n (by simp)) (fun b o _ e=>u.there b o e (by simp)) u.tups u.frzs u.tbls (fun m' hm=>by
  obtain⟨o',es',ep',ho',r'⟩:=hm;rw[ho] at ho';cases ho';exact⟨_,es',ep',hL,r'⟩) hok I.bare
theorem Inv.call {g':Array GenState}{t':Nat}{d':Drawn}{ch:List Addr} (I:Inv X pins σ H s) (u:Un (frs X.stack) ch H H' s.heap h') (hok:HOk X.prog X.w H' h') (hg:AllBare g')
  (hch:∀ b∈ch,(b∈X.ex\/X.s₀.heap.objs.size<=b)/\b≠X.env.locals/\(∀ x c,X.env.cells.lookup x=some c->c≠b)/\∀ p∈X.pn++pins,p.1≠b) :
  Inv X pins σ H' {s with heap:=h',gens:=g',drawn:=d',toks:=t'}:=by
 obtain⟨m,⟨o,es,ep,ho,r⟩,_⟩:=id I.loc;obtain⟨sl,hL⟩:=u.any ho I.free fun z=>(hch _ z).2.1 rfl
 exact I.step (ch:=ch) hch (fun b o hL hb hc e n=>u.keep b o e n (fun z=>(List.mem_cons.mp (I.stkSub b z)).elim hL hb) hc) (fun b o _ _ hc e n=>u.any e n hc) (fun b o hc e n=>u.free b o e n hc) (fun b o hc e=>u.there b o e hc) u.tups u.frzs u.tbls (fun m' hm=>by
  obtain⟨o',es',ep',ho',r'⟩:=hm;rw[ho] at ho';cases ho';exact⟨_,es',ep',hL,r'⟩) hok hg
theorem Inv.turned {t':Nat}{it:Addr} (I:Inv X pins σ H s) (k:∀ b o,b≠it->s.heap.get? b=some o->h'.get? b=some o) (hn:H it=none) (hL:it≠X.env.locals)
  (h1:it∈X.ex\/X.s₀.heap.objs.size<=it) (h2:∀ x c,X.env.cells.lookup x=some c->c≠it) (h3:∀ p∈X.pn++pins,p.1≠it):Inv X pins σ H {s with heap:=h',toks:=t'}:=by
 have nit:∀ b u,H b=some u->b≠it:=fun b u e z=>by rw[z,hn] at e;cases e
 refine I.step (g':=s.gens) (d':=s.drawn) (ch:=[it]) (fun b hb=>?_) (fun b o _ _ hc e _=>k b o (fun z=>hc (by simp[z])) e) (fun b o _ _ hc e _=>⟨o.slots,k b o (fun z=>hc (by simp[z])) e⟩) (fun _ _ _ _ n=>n)
  (fun b o hc e=>⟨o,k b o (fun z=>hc (by simp[z])) e⟩) (fun _ _ e=>e) (fun _ _ _ e=>e) (fun _ _ e=>e) (fun m hm=>?_) (fun b u e=>?_) I.bare
 ·have e:b=it:=by simpa using hb
  subst e;exact⟨h1,hL,h2,h3⟩
 ·obtain⟨o,es,ep,ho,r⟩:=hm
  exact⟨o,es,ep,k _ o (Ne.symm hL) ho,r⟩
 ·refine (I.hok b u e).stay (fun c v hc q=>k c v ?_ q) (fun _ q=>q) (fun _ _ q=>q) fun _ _ q=>q
  rcases hc with z | z
  ·rw[z];exact nit b u e
  ·exact nit c _ z
theorem Inv.tok (I:Inv X pins σ H s) (t:Nat):Inv X pins σ H {s with toks:=t}:=I.un (h':=s.heap) (t':=t) Un.refl I.hok
theorem Inv.kept {t':Nat} (I:Inv X pins σ H s) (k:∀ b u,s.heap.get? b=some u->h'.get? b=some u):Inv X pins σ H {s with heap:=h',toks:=t'}:=I.un (Un.kept k) (I.hok.kept k)
theorem Inv.laid {a:Addr}{o:HO}{t':Nat} (I:Inv X pins σ H s) (k:∀ b u,s.heap.get? b=some u->h'.get? b=some u) (hp:s.heap.objs.size<=a) (new:ObjOk X.prog X.w (upd H a o) h' a o) :
  Inv X pins σ (upd H a o) {s with heap:=h',toks:=t'}:=I.un (Un.laid k hp (I.hok.fresh hp)) (I.hok.laid k hp new)
theorem Inv.write {x e:Addr}{o:HO}{t':Nat} (I:Inv X pins σ H s) (mu:Mut (H x)) (he:e=x\/H e=some (.own x)) (k:∀ b u,b≠e->s.heap.get? b=some u->h'.get? b=some u) (heo:∃ u,h'.get? e=some u)
  (new:ObjOk X.prog X.w (upd H x o) h' x o):Inv X pins σ (upd H x o) {s with heap:=h',toks:=t'}:=I.un (Un.write mu he k heo) (I.hok.write mu he k heo new)
theorem Inv.weak {σ':List (Option V)} (I:Inv X pins σ H s) (hl:σ'.length=σ.length) (w:∀ (i:Nat) v,σ'[i]?=some (some v)->σ[i]?=some (some v)):Inv X pins σ' H s :=
 ⟨I.ok,I.os,I.bare,I.base,let ⟨m,hn,hl'⟩:=I.loc;⟨m,hn,fun i x v e1 e2 e3=>hl' i x v e1 (w i v e2) e3⟩,I.cell,I.free,I.freeC,I.pin,I.hok,hl.trans I.len⟩
theorem Inv.pins_of {pins':List (Addr×Obj)} (I:Inv X pins σ H s) (h:∀ p∈pins',s.heap.get? p.1=some p.2/\H p.1=none/\p.1≠X.env.locals/\p.1∉X.fs/\∀ v,p.2.data≠.cell v):Inv X pins' σ H s :=
 ⟨I.ok,I.os,I.bare,I.base,I.loc,I.cell,I.free,I.freeC,fun p hp=>(List.mem_append.mp hp).elim (fun z=>I.pin p (List.mem_append_left _ z)) (h p),I.hok,I.len⟩
theorem nodup_ix {N:List Str} (hN:N.Nodup) {i j:Nat}{x:Str} (a:N[i]?=some x) (b:N[j]?=some x):i=j:=by
 obtain⟨h1,e1⟩:=List.getElem?_eq_some_iff.mp a;obtain⟨h2,e2⟩:=List.getElem?_eq_some_iff.mp b;exact (List.getElem_inj hN).mp (e1.trans e2.symm)
theorem store_ok2 {M:Model}{A:Around}{E:Value->Shared->Prop}{i:Nat}{x:Str}{v:V}{u:Value}{Q:Unit->Shared->Prop} (I:Inv X pins σ H s) (hN:X.N.Nodup) (hi:X.N[i]?=some x) (hx:Loc X.env.scope x) (r:RelV v u)
  (h:∀ s',Inv X pins (σ.set i (some v)) H s'->(∃ a,Heap.SameBut a s.heap s'.heap/\(a=X.env.locals\/X.env.cells.lookup x=some a))->Q () s') (hf:X.fn x=true\/X.env.scope.names.lookup x=some .local:=by first | exact .inl rfl | exact .inr rfl | assumption):wpAny M A (storeName X.env x u) Q E s:=by
 obtain⟨m,hn,hl⟩:=id I.loc;have hcls:(X.env.scope.kind==.class||(X.env.scope.kind==.module&&X.env.locals != X.env.globals))=false:=by rw[I.ok.kind];rfl
 have hiσ:i<σ.length:=by rw[I.len];exact (List.getElem?_eq_some_iff.mp hi).1
 have cne:=I.cne
 have tracked:∀ {a:Addr}{h':Heap},(∃ o,s.heap.get? a=some o/\H a=none)->Heap.SameBut a s.heap h'->HOk X.prog X.w H h':=fun {a h'} ha hs b ob e=>by
  obtain⟨_,_,hfree⟩:=ha;refine (I.hok b ob e).stay (fun c w' hc q=>(hs.2 c ?_).trans q) (fun _ q=>q) (fun _ _ q=>q) fun _ _ q=>q
  rintro rfl
  rcases hc with rfl | hc
  ·rw[hfree] at e;cases e
  ·rw[hfree] at hc;cases hc
 rcases hx with hk | hk
 ·refine wpAny_storeName_local hk hn (fun h' hn' hs=>?_) hcls
  obtain⟨oL,_,_,hoL,_⟩:=id hn;refine h _ ⟨I.ok,I.os,I.bare,⟨fun b o e n hb hx=>?_,fun b o e n hb hx=>?_,I.base.free,fun b o e hx=>?_,I.base.tups,I.base.frzs,I.base.tbls⟩,⟨_,hn',fun j y v' e1 e2 e3=>?_⟩,fun y c e=>?_,I.free,I.freeC,fun p hp=>?_,tracked ⟨oL,hoL,I.free⟩ hs,by simpa using I.len⟩ ⟨_,hs,.inl rfl⟩
  ·exact (hs.2 b (Nat.ne_of_lt (Nat.lt_of_lt_of_le (Heap.lt_size e) I.ok.above))).trans (I.base.keep b o e n hb hx)
  ·obtain⟨sl,e1⟩:=I.base.slot b o e n hb hx
   exact⟨sl,(hs.2 b (Nat.ne_of_lt (Nat.lt_of_lt_of_le (Heap.lt_size e) I.ok.above))).trans e1⟩
  ·obtain⟨o',e1⟩:=I.base.there b o e hx
   exact⟨o',(hs.2 b (Nat.ne_of_lt (Nat.lt_of_lt_of_le (Heap.lt_size e) I.ok.above))).trans e1⟩
  ·by_cases hj:j=i
   ·subst hj
    rw[hi] at e1;cases e1;rw[List.getElem?_set_self hiσ] at e2;cases e2;exact⟨u,r,.inl ⟨hk,by simp⟩⟩
   ·rw[List.getElem?_set_ne (Ne.symm hj)] at e2
    obtain⟨u',r',q⟩:=hl j y v' e1 e2 e3;refine⟨u',r',?_⟩
    rcases q with ⟨k,e⟩ | ⟨k,c,e,z⟩
    ·refine .inl ⟨k,?_⟩
     have:y≠x:=fun e=>hj (nodup_ix hN e1 (e▸hi))
     simp[this,e]
    ·exact .inr ⟨k,c,e,z.sameBut hs (cne y c e)⟩
  ·obtain⟨w',z⟩:=I.cell y c e
   exact⟨w',z.sameBut hs (cne y c e)⟩
  ·obtain⟨e,n,ne,nf,d⟩:=I.pin p hp
   exact⟨(hs.2 p.1 ne).trans e,n,ne,nf,d⟩
 ·have hfn:X.fn x=true:=by
   rcases hf with z | z
   ·exact z
   ·rw[z] at hk;cases hk
  obtain⟨c,hc⟩:=I.ok.has x (.inl hk);obtain⟨w',z⟩:=I.cell x c hc;refine wpAny_storeName_cell I.ok.kind hk hc z (fun h' hc' hs=>?_)
  obtain⟨oc,hoc,hocd⟩:=id z;refine h {s with heap:=h'} ⟨I.ok,I.os,I.bare,⟨fun b o e n hb hx=>?_,fun b o e n hb hx=>?_,I.base.free,fun b o e hx=>?_,I.base.tups,I.base.frzs,I.base.tbls⟩,⟨m,hn.sameBut hs (Ne.symm (cne x c hc)),fun j y v' e1 e2 e3=>?_⟩,fun y c' e=>?_,I.free,I.freeC,fun p hp=>?_,tracked ⟨oc,hoc,I.freeC x c hc⟩ hs,by simpa using I.len⟩ ⟨c,hs,.inr hc⟩
  ·exact (hs.2 b (Nat.ne_of_lt (Nat.lt_of_lt_of_le (Heap.lt_size e) (I.ok.cab x c hfn hc)))).trans (I.base.keep b o e n hb hx)
  ·obtain⟨sl,e1⟩:=I.base.slot b o e n hb hx
   exact⟨sl,(hs.2 b (Nat.ne_of_lt (Nat.lt_of_lt_of_le (Heap.lt_size e) (I.ok.cab x c hfn hc)))).trans e1⟩
  ·obtain⟨o',e1⟩:=I.base.there b o e hx
   exact⟨o',(hs.2 b (Nat.ne_of_lt (Nat.lt_of_lt_of_le (Heap.lt_size e) (I.ok.cab x c hfn hc)))).trans e1⟩
  ·by_cases hj:j=i
   ·subst hj
    rw[hi] at e1;cases e1;rw[List.getElem?_set_self hiσ] at e2;cases e2;exact⟨u,r,.inr ⟨.inl hk,c,hc,hc'⟩⟩
   ·rw[List.getElem?_set_ne (Ne.symm hj)] at e2
    obtain⟨u',r',q⟩:=hl j y v' e1 e2 e3;refine⟨u',r',?_⟩
    rcases q with q | ⟨k,c',e,z'⟩
    ·exact .inl q
    ·refine .inr ⟨k,c',e,z'.sameBut hs ?_⟩
     rintro rfl;exact hj (nodup_ix hN e1 (I.ok.inj _ _ _ e hc▸hi))
  ·by_cases hcc:c'=c
   ·subst hcc;exact⟨_,hc'⟩
   ·obtain⟨w2,z2⟩:=I.cell y c' e
    exact⟨w2,z2.sameBut hs hcc⟩
  ·obtain⟨e,n,ne,nf,d⟩:=I.pin p hp
   refine⟨(hs.2 p.1 ?_).trans e,n,ne,nf,d⟩;intro q;rw[q,hoc] at e;have q':oc=p.2:=Option.some.inj e;exact d w' (by rw[<- q'];exact hocd)
theorem store_ok {M:Model}{A:Around}{E:Value->Shared->Prop}{i:Nat}{x:Str}{v:V}{u:Value}{Q:Unit->Shared->Prop} (I:Inv X pins σ H s) (hN:X.N.Nodup) (hi:X.N[i]?=some x) (hx:Loc X.env.scope x) (r:RelV v u)
  (h:∀ s',Inv X pins (σ.set i (some v)) H s'->Q () s') (hf:X.fn x=true\/X.env.scope.names.lookup x=some .local:=by first | exact .inl rfl | exact .inr rfl | assumption):wpAny M A (storeName X.env x u) Q E s :=
 store_ok2 I hN hi hx r (fun s' I' _=>h s' I') hf
theorem Inv.call' {s':Shared}{ch:List Addr} (I:Inv X pins σ H s) (ho:s'.os=s.os) (u:Un (frs X.stack) ch H H' s.heap s'.heap) (hok:HOk X.prog X.w H' s'.heap) (hg:AllBare s'.gens)
  (hch:∀ b∈ch,(b∈X.ex\/X.s₀.heap.objs.size<=b)/\b≠X.env.locals/\(∀ x c,X.env.cells.lookup x=some c->c≠b)/\∀ p∈X.pn++pins,p.1≠b):Inv X pins σ H' s':=by
 obtain⟨h',g',d',t',o'⟩:=s';have e:o'=s.os:=ho;subst e;exact I.call (g':=g') (t':=t') (d':=d') u hok hg hch
end
noncomputable abbrev XK:=Value->Option Addr->Hp->Prop
noncomputable abbrev St:=List (Option V)
noncomputable abbrev VK:=V->Hp->Prop
noncomputable abbrev TE:=St->Hp->VK->Prop
noncomputable abbrev TT:=St->Hp->(Bool->Hp->Prop)->Prop
noncomputable abbrev TA:=St->Hp->(List V->Hp->Prop)->Prop
structure Ends where
 nx:St->Hp->Prop
 rt:VK
 bk:St->Hp->Prop:=fun _ _=>False
 ct:St->Hp->Prop:=fun _ _=>False
noncomputable abbrev TS:=Ends->St->Hp->Prop
noncomputable def EP (X:Cx) (pins:List (Addr×Obj)) (σ:St) (Q:VK) (u:Value) (s':Shared):Prop:=∃ v H',Inv X pins σ H' s'/\RelV v u/\Q v H'
noncomputable def TP (X:Cx) (pins:List (Addr×Obj)) (σ:St) (Q:Bool->Hp->Prop) (b:Bool) (s':Shared):Prop:=∃ H',Inv X pins σ H' s'/\Q b H'
noncomputable def AP (X:Cx) (pins:List (Addr×Obj)) (σ:St) (Q:List V->Hp->Prop) (us:List Value) (s':Shared):Prop:=∃ vs H',Inv X pins σ H' s'/\Vals vs us/\Q vs H'
noncomputable def SP (X:Cx) (pins:List (Addr×Obj)) (D:Ends) (f:Flow) (s':Shared):Prop :=
 match f with
 |.next=>∃ σ' H',Inv X pins σ' H' s'/\D.nx σ' H'
 |.brk=>∃ σ' H',Inv X pins σ' H' s'/\D.bk σ' H'
 |.cont=>∃ σ' H',Inv X pins σ' H' s'/\D.ct σ' H'
 |.ret u=>∃ v σ' H',Inv X pins σ' H' s'/\RelV v u/\D.rt v H'
noncomputable def PE (X:Cx) (e:Expr) (t:TE):Prop :=
 ∀ (pins:List (Addr×Obj)) (s:Shared) (σ:St) (H:Hp) (Q:VK),Inv X pins σ H s->t σ H Q->wpAny (model X.prog X.w) X.A (eval e X.env) (EP X pins σ Q) X.xe s
noncomputable def PT (X:Cx) (e:Expr) (t:TT):Prop :=
 ∀ (pins:List (Addr×Obj)) (s:Shared) (σ:St) (H:Hp) (Q:Bool->Hp->Prop),Inv X pins σ H s->t σ H Q->wpAny (model X.prog X.w) X.A (isTrue e X.env (eval e X.env)) (TP X pins σ Q) X.xe s
noncomputable def PW (X:Cx) (e:Expr) (t:TT):Prop :=
 ∀ (whole:Sem Value) (pins:List (Addr×Obj)) (s:Shared) (σ:St) (H:Hp) (Q:Bool->Hp->Prop),Inv X pins σ H s->t σ H Q->wpAny (model X.prog X.w) X.A (isTrue e X.env whole) (TP X pins σ Q) X.xe s
theorem PW.pt {X:Cx}{e:Expr}{t:TT} (h:PW X e t):PT X e t:=h _
noncomputable def PA (X:Cx) (es:List Expr) (t:TA):Prop :=
 ∀ (pos:Pos) (pins:List (Addr×Obj)) (s:Shared) (σ:St) (H:Hp) (Q:List V->Hp->Prop),Inv X pins σ H s->t σ H Q->wpAny (model X.prog X.w) X.A (spliced (backTo pos (starEach es X.env))) (AP X pins σ Q) X.xe s
noncomputable def PS (X:Cx) (st:Stmt) (t:TS):Prop :=
 ∀ (pins:List (Addr×Obj)) (s:Shared) (σ:St) (H:Hp) (D:Ends),Inv X pins σ H s->t D σ H->wpAny (model X.prog X.w) X.A (exec st X.env) (SP X pins D) X.xe s
noncomputable def PSs (X:Cx) (st:List Stmt) (t:TS):Prop :=
 ∀ (pins:List (Addr×Obj)) (s:Shared) (σ:St) (H:Hp) (D:Ends),Inv X pins σ H s->t D σ H->wpAny (model X.prog X.w) X.A (execs st X.env) (SP X pins D) X.xe s
theorem thn {α:Type}{t:Sem α}{Q Q':α->Shared->Prop}{M:Model}{A:Around}{E:Value->Shared->Prop}{s:Shared} (h:wpAny M A t Q E s) (hQ:∀ a s,Q a s->Q' a s):wpAny M A t Q' E s:=wpAny_mono h hQ fun _ _ x=>x
end L2
namespace L2
open PySem PySem.Spec PyProof.Rows
section
variable {X:Cx}
noncomputable def tVar (i:Nat):TE:=fun σ H Q=>∃ v,σ[i]?=some (some v)/\Q v H
noncomputable def tC (v:V):TE:=fun _ H Q=>Q v H
theorem pe_var {i:Nat}{x:Str}{pos:Pos} (hN:X.N[i]?=some x) (hv:Vis X.env.scope x) (hd:(x==("__debug__":Str))=false:=by decide) (hcd:(x==("__classdict__":Str))=false:=by decide):PE X (.Name x pos) (tVar i):=by
 intro pins s σ H Q I h;obtain⟨v,e,h⟩:=h;obtain⟨m,hn,hl⟩:=I.loc;obtain⟨u,r,l⟩:=hl i x v hN e hv;have fin:EP X pins σ Q u s:=⟨v,H,I,r,h⟩
 rcases l with ⟨hk,hm⟩ | ⟨hk,c,hc,hcell⟩
 ·exact wpAny_Name (wpAny_loadName_local I.ok.kind hk hn hm fin) hd
 ·rcases hk with hk | hk
  ·exact wpAny_Name (wpAny_loadName_cell I.ok.kind hk hc hcell fin) hd
  ·exact wpAny_Name (wpAny_loadName_free I.ok.kind hk hc hcell fin hcd) hd
theorem pe_int {i j pos}:PE X (.Constant (.int i) j pos) (tC (.int i)):=fun _ _ _ H _ I h=>wpAny_Constant_int ⟨.int i,H,I.tok _,⟨_,rfl⟩,h⟩
theorem pe_bl {b j pos}:PE X (.Constant (.bool b) j pos) (tC (.bl b)):=fun _ _ _ H _ I h=>Constant_bool ⟨.bl b,H,I,rfl,h⟩
theorem pe_non {j pos}:PE X (.Constant .none j pos) (tC .non):=fun _ _ _ H _ I h=>Constant_none ⟨.non,H,I,rfl,h⟩
theorem pe_str {x j pos}:PE X (.Constant (.str x) j pos) (tC (.str x)):=fun _ _ _ H _ I h=>Calls.Constant_str ⟨.str x,H,I.tok _,⟨_,rfl⟩,h⟩
noncomputable def Gl (X:Cx) (x:Str):Prop:=X.env.kindOf x=some .globalImplicit
theorem ld_glob {E:Value->Shared->Prop}{pins:List (Addr×Obj)}{s:Shared}{σ:St}{H:Hp}{x:Str}{u:Value}{pos:Pos}{Q:Value->Shared->Prop} (I:Inv X pins σ H s) (hg:Gl X x) (hm:X.mg x=some u) (h:Q u s)
  (hd:(x==("__debug__":Str))=false:=by decide):wpAny (model X.prog X.w) X.A (eval (.Name x pos) X.env) Q E s :=
 Calls.Name_function_global I.ok.kind hg (Calls.loadGlobal_global (by rw[I.ok.glob];exact I.mod.glob.keeps I.bk) hm h) hd
theorem ld_blt {E:Value->Shared->Prop}{pins:List (Addr×Obj)}{s:Shared}{σ:St}{H:Hp}{x:Str}{u:Value}{pos:Pos}{Q:Value->Shared->Prop} (I:Inv X pins σ H s) (hg:Gl X x) (hm:X.mg x=none) (hv:bootBuiltins x=some u) (h:Q u s)
  (hn:x≠"__name__":=by decide) (hd:(x==("__debug__":Str))=false:=by decide):wpAny (model X.prog X.w) X.A (eval (.Name x pos) X.env) Q E s:=by
 obtain⟨mb,h1,h2⟩:=I.mod.blt;exact Calls.Name_function_global I.ok.kind hg (Calls.loadGlobal_builtin (by rw[I.ok.glob];exact I.mod.glob.keeps I.bk) hm (by rw[I.ok.blt];exact h1.keeps I.bk) ((h2 x hn).trans hv) h) hd
theorem pe_glob {x:Str}{v:V}{u:Value}{pos:Pos} (hg:Gl X x) (hm:X.mg x=some u) (r:RelV v u) (hd:(x==("__debug__":Str))=false:=by decide):PE X (.Name x pos) (tC v) :=
 fun _ _ _ H _ I h=>ld_glob I hg hm ⟨v,H,I,r,h⟩ hd
theorem pe_bltn {x:Str}{v:V}{u:Value}{pos:Pos} (hg:Gl X x) (hm:X.mg x=none) (hv:bootBuiltins x=some u) (r:RelV v u) (hn:x≠"__name__":=by decide) (hd:(x==("__debug__":Str))=false:=by decide):PE X (.Name x pos) (tC v) :=
 fun _ _ _ H _ I h=>ld_blt I hg hm hv ⟨v,H,I,r,h⟩ hn hd
variable {a b:Expr}{ta tb:TE}{pos:Pos}
noncomputable def tB (t:TE):TT:=fun σ H Q=>t σ H fun x H1=>∃ c,x=.bl c/\Q c H1
variable {tA tB':TT}{rest:List Expr}
noncomputable def tAnd (t u:TT):TT:=fun σ H Q=>t σ H fun c H1=>if c=true then u σ H1 Q else Q false H1
noncomputable def tOr (t u:TT):TT:=fun σ H Q=>t σ H fun c H1=>if c=true then Q true H1 else u σ H1 Q
noncomputable def tNot (t:TT):TT:=fun σ H Q=>t σ H fun c H1=>Q (!c) H1
theorem pw_and1 (ha:PT X a tA):PW X (.BoolOp .And [a] pos) tA:=by
 intro wh pins s σ H Q I h;refine isTrue_and (thn (ha pins s σ H Q I h) fun c s1 e=>?_)
 cases c with
 |true=>exact isTrue_and_nil e
 |false=>exact e
theorem pw_or1 (ha:PT X a tA):PW X (.BoolOp .Or [a] pos) tA:=by
 intro wh pins s σ H Q I h;refine isTrue_or (thn (ha pins s σ H Q I h) fun c s1 e=>?_)
 cases c with
 |false=>exact isTrue_or_nil e
 |true=>exact e
theorem pw_and (ha:PT X a tA) (hb:PW X (.BoolOp .And (b::rest) pos) tB'):PW X (.BoolOp .And (a::b::rest) pos) (tAnd tA tB'):=by
 intro wh pins s σ H Q I h;refine isTrue_and (thn (ha pins s σ H _ I h) fun c s1 ⟨H1,I1,q1⟩=>?_)
 cases c with
 |true=>exact hb wh pins s1 σ H1 Q I1 q1
 |false=>exact⟨H1,I1,q1⟩
theorem pw_or (ha:PT X a tA) (hb:PW X (.BoolOp .Or (b::rest) pos) tB'):PW X (.BoolOp .Or (a::b::rest) pos) (tOr tA tB'):=by
 intro wh pins s σ H Q I h;refine isTrue_or (thn (ha pins s σ H _ I h) fun c s1 ⟨H1,I1,q1⟩=>?_)
 cases c with
 |true=>exact⟨H1,I1,q1⟩
 |false=>exact hb wh pins s1 σ H1 Q I1 q1
theorem pt_not (ha:PT X a tA):PT X (.UnaryOp .Not a pos) (tNot tA):=by
 intro pins s σ H Q I h;exact isTrue_not (ha pins s σ H (fun c H1=>Q (!c) H1) I h)
noncomputable def tAndV (ta tb:TE):TE:=fun σ H Q=>ta σ H fun x H1=>∃ c,x=.bl c/\if c=true then tb σ H1 Q else Q (.bl false) H1
theorem pe_one {op}{t:TE} (h:PE X a t):PE X (.BoolOp op [a] pos) t:=fun pins s σ H Q I hw=>BoolOp_one (h pins s σ H Q I hw)
theorem pe_and (ha:PE X a ta) (hb:PE X (.BoolOp .And (b::rest) pos) tb):PE X (.BoolOp .And (a::b::rest) pos) (tAndV ta tb):=by
 intro pins s σ H Q I h;refine BoolOp_and (thn (ha pins s σ H _ I h) fun v s1 ⟨x,H1,I1,r1,q1⟩=>?_)
 obtain⟨c,rfl,q1⟩:=q1;cases r1;refine wpAny_truthy_bool ?_;cases c with
 |true=>exact hb pins s1 σ H1 Q I1 q1
 |false=>exact⟨.bl false,H1,I1,rfl,q1⟩
noncomputable def tIf (t:TT) (ta tb:TE):TE:=fun σ H Q=>t σ H fun c H1=>if c=true then ta σ H1 Q else tb σ H1 Q
theorem pe_ifExp {c:Expr} (hc:PT X c tA) (ha:PE X a ta) (hb:PE X b tb):PE X (.IfExp c a b pos) (tIf tA ta tb):=by
 intro pins s σ H Q I h;refine wpAny_IfExp (thn (hc pins s σ H _ I h) fun d s1 ⟨H1,I1,q1⟩=>?_)
 cases d with
 |true=>exact ha pins s1 σ H1 Q I1 q1
 |false=>exact hb pins s1 σ H1 Q I1 q1
end
end L2
namespace L2
open PySem PySem.Spec PyProof.Rows
noncomputable def SqL (K:PySem.W.Frag) (H:Hp) (a:Addr) (xs:List V):Prop :=
 Rd H a (.lst xs) \/
  ∃ (o:Obj) (its:Array Value) (n:Nat),K.lookup a=some o ∧ o.cls=.type "list" ∧ o.dict=none ∧ o.data=.seq its n ∧ its.size ≤ sizeLine ∧ Vals xs its.toList
noncomputable def SqT (K:PySem.W.Frag) (H:Hp) (a:Addr) (xs:List V):Prop :=
 Rd H a (.tup xs) \/
  ∃ (o:Obj) (its:Array Value) (n:Nat),K.lookup a=some o ∧ o.cls=.type "tuple" ∧ o.dict=none ∧ o.data=.seq its n ∧ its.size ≤ sizeLine ∧ Vals xs its.toList
noncomputable def absV:Value->Option V
 |.none=>some .non
 |.bool b=>some (.bl b)
 |.int i _=>some (.int i)
 |.str x _=>some (.str x)
 |.bytes b _=>some (.byt b)
 |.float b _=>some (.flt b)
 |.ref a=>some (.ref a)
 |.type n=>some (.ty n)
 |_=>none
theorem RelV.abs {x:V}{u:Value} (r:RelV x u):absV u=some x:=by
 cases x with
 |non=>cases r;rfl
 |bl _=>cases r;rfl
 |int _=>obtain⟨t,rfl⟩:=r;rfl
 |str _=>obtain⟨t,rfl⟩:=r;rfl
 |byt _=>obtain⟨t,rfl⟩:=r;rfl
 |flt _=>obtain⟨t,rfl⟩:=r;rfl
 |ref _=>cases r;rfl
 |ty _=>cases r;rfl
theorem RelV.inj {x y:V}{u:Value} (r:RelV x u) (q:RelV y u):x=y:=Option.some.inj (r.abs.symm.trans q.abs)
theorem Vals.inj:∀ {xs ys:List V}{us:List Value},Vals xs us->Vals ys us->xs=ys
 |_,_,_,.nil,.nil=>rfl
 |_,_,_,.cons r t,.cons r' t'=>by rw[r.inj r',Vals.inj t t']
section
variable {X:Cx}{pins:List (Addr×Obj)}{σ:St}{H:Hp}{s:Shared}{a:Addr}{xs ys:List V}
theorem SqL.of {K:PySem.W.Frag} (h:H a=some (.lst xs)):SqL K H a xs:=.inl (.inl h)
theorem SqT.of {K:PySem.W.Frag} (h:H a=some (.tup xs)):SqT K H a xs:=.inl (.inl h)
theorem Inv.list (I:Inv X pins σ H s) (h:SqL X.K H a xs):∃ its:List Value,Vals xs its/\PlainL s.heap a its.toArray/\xs.length<=sizeLine:=by
 rcases h with h | ⟨o,its,n,hk,hc,hd,hs,hz,r⟩
 ·obtain⟨z,its,n,r,e⟩:=h.ok I.hok
  exact⟨its,r,⟨_,n,e,rfl,rfl,rfl⟩,z⟩
 ·refine⟨its.toList,r,⟨o,n,I.kIn a o hk,hc,hd,by simpa using hs⟩,?_⟩
  have e:=r.length;simp only[Array.length_toList] at e;omega
theorem Inv.tuple (I:Inv X pins σ H s) (h:SqT X.K H a xs):∃ its:List Value,Vals xs its/\IsTup s.heap a its.toArray/\xs.length<=sizeLine:=by
 rcases h with h | ⟨o,its,n,hk,hc,_,hs,hz,r⟩
 ·obtain⟨z,its,r,p⟩:=h.ok I.hok
  exact⟨its,r,p.tup,z⟩
 ·refine⟨its.toList,r,⟨o,I.kIn a o hk,hc,n,by simpa using hs⟩,?_⟩
  have e:=r.length;simp only[Array.length_toList] at e;omega
theorem Inv.list_inj (I:Inv X pins σ H s) (h:SqL X.K H a xs) (h':SqL X.K H a ys):xs=ys:=by
 obtain⟨its,r,⟨o,n,e,_,_,d⟩,_⟩:=I.list h;obtain⟨its',r',⟨o',n',e',_,_,d'⟩,_⟩:=I.list h';rw[e] at e';cases e';rw[d] at d';injection d' with d1 _
 have:its=its':=by simpa using congrArg Array.toList d1
 subst this;exact r.inj r'
theorem Inv.tuple_inj (I:Inv X pins σ H s) (h:SqT X.K H a xs) (h':SqT X.K H a ys):xs=ys:=by
 obtain⟨its,r,⟨o,e,_,n,d⟩,_⟩:=I.tuple h;obtain⟨its',r',⟨o',e',_,n',d'⟩,_⟩:=I.tuple h';rw[e] at e';cases e';rw[d] at d';injection d' with d1 _
 have:its=its':=by simpa using congrArg Array.toList d1
 subst this;exact r.inj r'
end
noncomputable abbrev Cx.wish (X:Cx) (E:Value->Shared->Prop):Cx:={X with xe:=E}
noncomputable abbrev Cx.nox (X:Cx):Cx:=X.wish fun _ _=>False
theorem Cx.Ok.wish {X:Cx} (ok:X.Ok) (E:Value->Shared->Prop):(X.wish E).Ok :=
 ⟨ok.mod,ok.kind,ok.glob,ok.blt,ok.above,ok.inj,ok.has,ok.cab,ok.hd,ok.frames,ok.stk,ok.exf,ok.bs,ok.bsz,ok.noex,ok.exfs,ok.funs,ok.frf,ok.tab⟩
theorem Cx.Ok.unwish {X:Cx}{E:Value->Shared->Prop} (ok:(X.wish E).Ok):X.Ok :=
 ⟨ok.mod,ok.kind,ok.glob,ok.blt,ok.above,ok.inj,ok.has,ok.cab,ok.hd,ok.frames,ok.stk,ok.exf,ok.bs,ok.bsz,ok.noex,ok.exfs,ok.funs,ok.frf,ok.tab⟩
section
variable {X:Cx}{pins:List (Addr×Obj)}{σ:St}{H:Hp}{s:Shared}{E:Value->Shared->Prop}
theorem Inv.wish (I:Inv X pins σ H s) (E:Value->Shared->Prop):Inv (X.wish E) pins σ H s:=⟨I.ok.wish E,I.os,I.bare,I.base,I.loc,I.cell,I.free,I.freeC,I.pin,I.hok,I.len⟩
theorem Inv.unwish (I:Inv (X.wish E) pins σ H s):Inv X pins σ H s:=⟨I.ok.unwish,I.os,I.bare,I.base,I.loc,I.cell,I.free,I.freeC,I.pin,I.hok,I.len⟩
theorem SP.unwish {D:Ends}{f:Flow}{s':Shared} (h:SP (X.wish E) pins D f s'):SP X pins D f s':=by
 cases f with
 |next=>obtain⟨σ',H',I,q⟩:=h;exact⟨σ',H',I.unwish,q⟩
 |brk=>obtain⟨σ',H',I,q⟩:=h;exact⟨σ',H',I.unwish,q⟩
 |cont=>obtain⟨σ',H',I,q⟩:=h;exact⟨σ',H',I.unwish,q⟩
 |ret u=>obtain⟨v,σ',H',I,r,q⟩:=h;exact⟨v,σ',H',I.unwish,r,q⟩
theorem PE.nox {e:Expr}{t:TE} (h:PE X.nox e t):PE X e t:=fun pins s σ H Q I hw =>
 wpAny_mono (h pins s σ H Q (I.wish _) hw) (fun _ _ ⟨v,H',I',r,q⟩=>⟨v,H',I'.unwish,r,q⟩) fun _ _ z=>False.elim z
theorem PT.nox {e:Expr}{t:TT} (h:PT X.nox e t):PT X e t:=fun pins s σ H Q I hw =>
 wpAny_mono (h pins s σ H Q (I.wish _) hw) (fun _ _ ⟨H',I',q⟩=>⟨H',I'.unwish,q⟩) fun _ _ z=>False.elim z
theorem PSs.nox {st:List Stmt}{t:TS} (h:PSs X.nox st t):PSs X st t:=fun pins s σ H D I hw =>
 wpAny_mono (h pins s σ H D (I.wish _) hw) (fun _ _ q=>q.unwish) fun _ _ z=>False.elim z
end
section
variable {X:Cx}{st:Stmt}{rest:List Stmt}{t u:TS}{e:Expr}{te:TE}{pos:Pos}
noncomputable def tNext:TS:=fun D σ H=>D.nx σ H
noncomputable def tSeq (t u:TS):TS:=fun D σ H=>t {D with nx:=u D} σ H
theorem pss_nil:PSs X [] tNext:=fun _ _ σ H _ I h=>wpAny_execs_nil ⟨σ,H,I,h⟩
theorem pss_cons (h1:PS X st t) (h2:PSs X rest u):PSs X (st::rest) (tSeq t u):=by
 intro pins s σ H D I h;refine wpAny_execs_cons (thn (h1 pins s σ H {D with nx:=u D} I h) fun f s1 q=>?_)
 cases f with
 |next =>
  obtain⟨σ',H',I',q⟩:=q;exact h2 pins s1 σ' H' D I' q
 |ret v=>exact q
 |brk=>exact q
 |cont=>exact q
theorem pss_one (h1:PS X st t):PSs X [st] t:=by
 intro pins s σ H D I h;refine wpAny_execs_cons (thn (h1 pins s σ H D I h) fun f s1 q=>?_)
 cases f with
 |next=>exact wpAny_execs_nil q
 |ret v=>exact q
 |brk=>exact q
 |cont=>exact q
theorem Inv.quiet {pins:List (Addr×Obj)}{σ:St}{H:Hp}{s:Shared} (I:Inv X pins σ H s):interactive X.env=false:=by simp[interactive,I.ok.kind]
noncomputable def tDrop (te:TE):TS:=fun D σ H=>te σ H fun _ H1=>D.nx σ H1
theorem ps_expr (he:PE X e te) (hs:swapsWith e none pos.line X.env=pure false:=by rfl):PS X (.Expr e pos) (tDrop te):=by
 intro pins s σ H D I h;exact wpAny_Expr_any (thn (he pins s σ H _ I h) fun v s1 ⟨x,H1,I1,r1,q1⟩=>⟨σ,H1,I1,q1⟩) I.quiet hs
noncomputable def tRet (te:TE):TS:=fun D σ H=>te σ H D.rt
theorem ps_ret (he:PE X e te):PS X (.Return (some e) pos) (tRet te):=by
 intro pins s σ H D I h;exact wpAny_Return_some (thn (he pins s σ H _ I h) fun v s1 ⟨x,H1,I1,r1,q1⟩=>⟨x,σ,H1,I1,r1,q1⟩)
noncomputable def tIfS (c:TT) (t u:TS):TS:=fun D σ H=>c σ H fun b H1=>if b=true then t D σ H1 else u D σ H1
theorem ps_if {c:Expr}{a b:List Stmt}{tc:TT} (hc:PT X c tc) (ha:PSs X a t) (hb:PSs X b u):PS X (.If c a b pos) (tIfS tc t u):=by
 intro pins s σ H D I h;refine wpAny_If (thn (hc pins s σ H _ I h) fun d s1 ⟨H1,I1,q1⟩=>?_)
 cases d with
 |true=>exact ha pins s1 σ H1 D I1 q1
 |false=>exact hb pins s1 σ H1 D I1 q1
end
noncomputable abbrev TG:=V->St->Hp->(St->Hp->Prop)->Prop
noncomputable def PG (X:Cx) (target:Expr) (t:TG):Prop :=
 ∀ (pins:List (Addr×Obj)) (s:Shared) (σ:St) (H:Hp) (v:V) (u:Value) (Q:St->Hp->Prop),Inv X pins σ H s->RelV v u->t v σ H Q ->
  wpAny (model X.prog X.w) X.A (assign target X.env u) (fun _ s'=>∃ σ' H',Inv X pins σ' H' s'/\Q σ' H') X.xe s
section
variable {X:Cx}{pos:Pos}
noncomputable def gName (i:Nat):TG:=fun v σ H Q=>Q (σ.set i (some v)) H
theorem pg_name {i:Nat}{x:Str} (hN:X.N.Nodup) (hi:X.N[i]?=some x) (hx:Loc X.env.scope x) (hf:X.fn x=true\/X.env.scope.names.lookup x=some .local:=by first | exact .inl rfl | exact .inr rfl | assumption):PG X (.Name x pos) (gName i):=by
 intro pins s σ H v u Q I r h;exact wpAny_assign_Name (store_ok I hN hi hx r (fun s' I'=>⟨_,H,I',h⟩) hf)
noncomputable def tAsg (te:TE) (g:TG):TS:=fun D σ H=>te σ H fun x H1=>g x σ H1 D.nx
theorem ps_set {i:Nat}{x:Str}{e:Expr}{te:TE}{pos':Pos} (hN:X.N.Nodup) (hi:X.N[i]?=some x) (hx:Loc X.env.scope x) (he:PE X e te) (hs:swapsWith e (some (.Name x pos')) pos.line X.env=pure false:=by rfl) (hf:X.fn x=true\/X.env.scope.names.lookup x=some .local:=by first | exact .inl rfl | exact .inr rfl | assumption) :
  PS X (.Assign [.Name x pos'] e pos) (tAsg te (gName i)):=by
 intro pins s σ H D I h;refine wpAny_Assign_Name (thn (he pins s σ H _ I h) fun v s1 ⟨y,H1,I1,r1,q1⟩=>?_) hs
 exact store_ok I1 hN hi hx r1 (fun s2 I2=>⟨_,H1,I2,q1⟩) hf
end
section
variable {X:Cx}{pos:Pos}
noncomputable def tWhile (c:TT) (tb:TS):TS:=fun D σ H=>∃ W:Nat->St->Hp->Prop,(∃ m,W m σ H)/\∀ m σ H,W m σ H ->
 c σ H fun b H1=>if b=true then ∃ N:St->Hp->Prop,(∀ σ' H',N σ' H'->∃ m',m'<m/\W m' σ' H')/\tb {D with nx:=N,ct:=N,bk:=D.nx} σ H1 else D.nx σ H1
theorem ps_while {c:Expr}{body:List Stmt}{tc:TT}{tb:TS} (hp:PassesOwn (model X.prog X.w) X.A X.env X.xe) (hc:PT X c tc) (hb:PSs X body tb):PS X (.While c body [] pos) (tWhile tc tb):=by
 intro pins s σ H D I h;obtain⟨W,⟨m0,w0⟩,turn⟩:=h;refine wpAny_While (codeAny_whileLoop (fun n s'=>∃ σ' H',Inv X pins σ' H' s'/\W n σ' H') ?_ m0 ⟨σ,H,I,w0⟩)
 rintro n s1 ⟨σ1,H1,I1,w1⟩;refine wpAny_passesOwn hp (thn (hc pins s1 σ1 H1 _ I1 (turn n σ1 H1 w1)) fun b s2 ⟨H2,I2,q2⟩=>?_)
 cases b with
 |true =>
  obtain⟨N,hN,q2⟩:=q2;rw[if_pos rfl];refine wpAny_passesOwn hp (thn (hb pins s2 σ1 H2 _ I2 q2) fun f s3 q3=>?_)
  cases f with
  |next =>
   obtain⟨σ3,H3,I3,n3⟩:=q3;obtain⟨m',hm,w3⟩:=hN σ3 H3 n3;exact⟨m',hm,σ3,H3,I3,w3⟩
  |cont =>
   obtain⟨σ3,H3,I3,n3⟩:=q3;obtain⟨m',hm,w3⟩:=hN σ3 H3 n3;exact⟨m',hm,σ3,H3,I3,w3⟩
  |brk=>exact q3
  |ret v=>exact q3
 |false =>
  rw[if_neg Bool.false_ne_true];exact wpAny_execs_nil ⟨σ1,H2,I2,q2⟩
end
structure It where
 go:Nat->Hp->Prop
 yld:Nat->Hp->V->Hp->Prop
 stop:Nat->Hp->Prop
noncomputable def FpOk (X:Cx) (pins:List (Addr×Obj)) (H:Hp) (b:Addr):Prop :=
 H b=none/\b≠X.env.locals/\b∉X.fs/\(b∈X.ex\/X.s₀.heap.objs.size<=b)/\(∀ x c,X.env.cells.lookup x=some c->c≠b)/\∀ p∈X.pn++pins,p.1≠b
theorem Inv.fpOk {X:Cx}{pins:List (Addr×Obj)}{σ:St}{H H':Hp}{s:Shared}{b:Addr} (I:Inv X pins σ H s) (hb:s.heap.objs.size<=b) (hn:H' b=none):FpOk X pins H' b:=by
 refine⟨hn,Nat.ne_of_gt (Nat.lt_of_lt_of_le I.lt hb),I.nofs hb,.inr (Nat.le_trans I.sz hb),fun x c e z=>?_,fun p hp z=>?_⟩
 ·obtain⟨v,q⟩:=I.cell x c e
  exact absurd (Nat.lt_of_lt_of_le q.lt (by rw[z];exact hb)) (Nat.lt_irrefl _)
 ·exact absurd (Nat.lt_of_lt_of_le (Heap.lt_size (I.pin p hp).1) (by rw[z];exact hb)) (Nat.lt_irrefl _)
structure Turn (P:Program) (w:World) (K:PySem.W.Frag) (tg:Expr) (J:It) (fp:List Addr) (it:Addr) (tn:Nat->Heap->Prop):Prop where
 mem:it∈fp
 obj:∀ i h,tn i h->∀ b∈fp,∃ o,h.get? b=some o/\∀ v,o.data≠.cell v
 keep:∀ i h h',tn i h->(∀ b∈fp,∀ o,h.get? b=some o->h'.get? b=some o)->tn i h'
 item:∀ (X:Cx),X.prog=P->X.w=w->X.K=K->X.calm=true->∀ (i:Nat) (pins:List (Addr×Obj)) (s:Shared) (σ:St) (H:Hp) (E:Value->Shared->Prop),Inv X pins σ H s->(∀ b∈fp,FpOk X pins H b)->tn i s.heap->J.go i H ->
  wpAny (model P w) X.A (pyNext (.ref it)) (fun r s1=>∃ u,r=some u /\
   wpAny (model P w) X.A (letOwnedTupleGo tg (.ref it) u) (fun _ s2=>∃ x H',Inv X pins σ H' s2/\RelV x u/\J.yld i H x H'/\tn (i+1) s2.heap/\∀ b∈fp,H' b=none) E s1) E s
 done:∀ (X:Cx),X.prog=P->X.w=w->X.K=K->X.calm=true->∀ (i:Nat) (pins:List (Addr×Obj)) (s:Shared) (σ:St) (H:Hp) (E:Value->Shared->Prop),Inv X pins σ H s->(∀ b∈fp,FpOk X pins H b)->tn i s.heap->J.stop i H ->
  wpAny (model P w) X.A (pyNext (.ref it)) (fun r s1=>r=none/\Inv X pins σ H s1) E s
 self:∀ (A:Around) (i:Nat) (s:Shared) (Q:Value->Shared->Prop) (E:Value->Shared->Prop),tn i s.heap->Q (.ref it) s->wpAny (model P w) A (pyIter (.ref it)) Q E s
noncomputable abbrev TI:=St->Hp->(It->Hp->Prop)->Prop
noncomputable def PIE (X:Cx) (pins:List (Addr×Obj)) (σ:St) (tg:Expr) (R:It->Hp->Prop) (itv:Value) (s2:Shared):Prop :=
 ∃ (it:Addr) (fp:List Addr) (tn:Nat->Heap->Prop) (J:It) (H':Hp),itv=.ref it/\Inv X pins σ H' s2/\Turn X.prog X.w X.K tg J fp it tn/\tn 0 s2.heap/\(∀ b∈fp,FpOk X pins H' b)/\R J H'
noncomputable def PI (X:Cx) (tg iter:Expr) (wi:TI):Prop :=
 ∀ (pins:List (Addr×Obj)) (s:Shared) (σ:St) (H:Hp) (R:It->Hp->Prop),Inv X pins σ H s->wi σ H R ->
  wpAny (model X.prog X.w) X.A (eval iter X.env) (fun v s1=>wpAny (model X.prog X.w) X.A (pyIter v) (PIE X pins σ tg R) X.xe s1) X.xe s
theorem go_of {M:Model}{A:Around}{E:Value->Shared->Prop}{s:Shared}{tg:Expr}{it:Addr}{u:Value}{o:Obj}{n:String}{vs:Array Value}{Q:Unit->Shared->Prop} (ho:s.heap.get? it=some o) (hc:o.cls=.type n) (hd:o.data=.fields vs)
    (hn:["enumerate","zip","dict_itemiterator","dict_reverseitemiterator","odict_iterator","itertools.zip_longest","itertools.pairwise"].contains n=false) (hQ:Q () s):wpAny M A (letOwnedTupleGo tg (.ref it) u) Q E s:=by
  unfold letOwnedTupleGo;cases tg <;> first
    |exact wpAny_pure hQ
    |(cases u <;> first
        |exact wpAny_pure hQ
        |(refine wpAny_bind (wpAny_load ho ?_);rw[hc,hd];show wpAny M A (if (["enumerate","zip","dict_itemiterator","dict_reverseitemiterator","odict_iterator","itertools.zip_longest","itertools.pairwise"].contains n&&vs[0]?==some (rawInt _))=true then _ else _) Q E s;rw[if_neg (by intro h;rw[hn,Bool.false_and] at h;cases h)];exact wpAny_pure hQ))
noncomputable def Itl (K:PySem.W.Frag) (a:Addr):It :=
 ⟨fun i H=>∃ xs x,SqL K H a xs/\xs[i]?=some x,fun i H x H'=>H'=H/\∀ xs,SqL K H a xs->xs[i]?=some x,fun i H=>∃ xs,SqL K H a xs/\xs.length<=i⟩
noncomputable def Itt (K:PySem.W.Frag) (a:Addr):It :=
 ⟨fun i H=>∃ xs x,SqT K H a xs/\xs[i]?=some x,fun i H x H'=>H'=H/\∀ xs,SqT K H a xs->xs[i]?=some x,fun i H=>∃ xs,SqT K H a xs/\xs.length<=i⟩
noncomputable def Itr (lo:Int) (n:Nat):It:=⟨fun i _=>i<n,fun i H x H'=>H'=H/\x=.int (lo+i),fun i _=>n<=i⟩
theorem turn_list {P:Program}{w:World}{K:PySem.W.Frag}{tg:Expr} (a it:Addr):Turn P w K tg (Itl K a) [it] it (fun i h=>h.IsListIter it a i) where
 mem:=by simp
 obj:=fun i h st b hb=>by
  have e:b=it:=by simpa using hb
  subst e;obtain⟨o,e,c,d⟩:=st;exact⟨o,e,fun v z=>by rw[d] at z;cases z⟩
 keep:=fun i h h' st k=>st.at fun o e=>k it (by simp) o e
 item:=by
  intro X hP hw hK hc i pins s σ H E I hf st hg;subst hP hw hK;obtain⟨xs,x,hq,hx⟩:=hg;obtain⟨its,rv,p,hz⟩:=I.list hq;obtain⟨u,hu,ru⟩:=rv.get hx;obtain⟨f0,f1,f2,f3,f4,f5⟩:=hf it (by simp)
  refine wpAny_pyNext_list_item st p.isList (x:=u) (by simpa using hu) fun h' st' sb=>?_
  have I1:Inv X pins σ H {s with heap:=h'}:=I.turned (t':=s.toks) (fun b o hb e=>(sb.2 b hb).trans e) f0 f1 f3 f4 f5
  obtain⟨o,e,c,d⟩:=id st';exact⟨u,rfl,go_of (s:={s with heap:=h'}) e c d (by decide) ⟨x,H,I1,ru,⟨rfl,fun ys hy=>by rw[I.list_inj hy hq];exact hx⟩,st',fun b hb=>(hf b hb).1⟩⟩
 done:=by
  intro X hP hw hK hc i pins s σ H E I hf st hg;subst hP hw hK;obtain⟨xs,hq,hx⟩:=hg;obtain⟨its,rv,p,hz⟩:=I.list hq;obtain⟨f0,f1,f2,f3,f4,f5⟩:=hf it (by simp)
  have hl:=rv.length;exact wpAny_pyNext_list_end (I.ok.hd hc) st p.isList (by simp;omega) fun h' eb=>⟨rfl,I.turned (t':=s.toks) (fun b o hb e=>eb b o hb e) f0 f1 f3 f4 f5⟩
 self:=fun _ _ _ _ _ st h=>wpAny_pyIter_listiter st h
theorem turn_tuple {P:Program}{w:World}{K:PySem.W.Frag}{tg:Expr} (a it:Addr):Turn P w K tg (Itt K a) [it] it (fun i h=>h.IsTupleIter it a i) where
 mem:=by simp
 obj:=fun i h st b hb=>by
  have e:b=it:=by simpa using hb
  subst e;obtain⟨o,e,c,d⟩:=st;exact⟨o,e,fun v z=>by rw[d] at z;cases z⟩
 keep:=fun i h h' st k=>st.at fun o e=>k it (by simp) o e
 item:=by
  intro X hP hw hK hc i pins s σ H E I hf st hg;subst hP hw hK;obtain⟨xs,x,hq,hx⟩:=hg;obtain⟨its,rv,p,hz⟩:=I.tuple hq;obtain⟨u,hu,ru⟩:=rv.get hx;obtain⟨f0,f1,f2,f3,f4,f5⟩:=hf it (by simp)
  refine wpAny_pyNext_tuple_item st (show s.heap.IsTuple a its.toArray from p) (x:=u) (by simpa using hu) fun h' st' sb=>?_
  have I1:Inv X pins σ H {s with heap:=h'}:=I.turned (t':=s.toks) (fun b o hb e=>(sb.2 b hb).trans e) f0 f1 f3 f4 f5
  obtain⟨o,e,c,d⟩:=id st';exact⟨u,rfl,go_of (s:={s with heap:=h'}) e c d (by decide) ⟨x,H,I1,ru,⟨rfl,fun ys hy=>by rw[I.tuple_inj hy hq];exact hx⟩,st',fun b hb=>(hf b hb).1⟩⟩
 done:=by
  intro X hP hw hK hc i pins s σ H E I hf st hg;subst hP hw hK;obtain⟨xs,hq,hx⟩:=hg;obtain⟨its,rv,p,hz⟩:=I.tuple hq;obtain⟨f0,f1,f2,f3,f4,f5⟩:=hf it (by simp)
  have hl:=rv.length;exact wpAny_pyNext_tuple_end (I.ok.hd hc) st (show s.heap.IsTuple a its.toArray from p) (by simp;omega) fun h' eb=>⟨rfl,I.turned (t':=s.toks) (fun b o hb e=>eb b o hb e) f0 f1 f3 f4 f5⟩
 self:=fun _ _ _ _ _ st h=>wpAny_pyIter_tupleiter st h
theorem turn_range {P:Program}{w:World}{K:PySem.W.Frag}{tg:Expr} (it:Addr) (lo:Int) (n:Nat):Turn P w K tg (Itr lo n) [it] it (fun i h=>IsRangeIter h it (lo+(i:Nat)*1) ((n:Int)-(i:Nat)) 1) where
 mem:=by simp
 obj:=fun i h st b hb=>by
  have e:b=it:=by simpa using hb
  subst e
  exact⟨_,st,fun v z=>by
   have z':Data.fields _=Data.cell v:=z;cases z'⟩
 keep:=fun i h h' st k=>k it (by simp) _ st
 item:=by
  intro X hP hw hK hc i pins s σ H E I hf st hg;subst hP hw hK;obtain⟨f0,f1,f2,f3,f4,f5⟩:=hf it (by simp)
  have W:=Walks.range (prog:=X.prog) (w:=X.w) (I.ok.hd hc) it lo 1 n;refine W.item i s _ _ hg st fun v h' tk hv st' kk=>?_
  obtain⟨t,rfl⟩:=hv;have I1:Inv X pins σ H {s with heap:=h',toks:=tk}:=I.turned (fun b o hb e=>kk b o (by simpa using hb) e) f0 f1 f3 f4 f5
  refine⟨_,rfl,go_of (s:={s with heap:=h',toks:=tk}) (n:="range_iterator") st' rfl rfl (by decide) ⟨.int (lo+i),H,I1,⟨t,?_⟩,⟨rfl,rfl⟩,st',fun b hb=>(hf b hb).1⟩⟩
  rw[Int.mul_one]
 done:=by
  intro X hP hw hK hc i pins s σ H E I hf st hg;subst hP hw hK;obtain⟨f0,f1,f2,f3,f4,f5⟩:=hf it (by simp)
  exact wpAny_pyNext_range_end (I.ok.hd hc) st (by have:n<=i:=hg;omega) fun h' eb=>⟨rfl,I.turned (t':=s.toks) (fun b o hb e=>eb b o hb e) f0 f1 f3 f4 f5⟩
 self:=fun _ _ _ _ _ st h=>wpAny_pyIter_rangeiter st h
end L2
namespace L2
open PySem PySem.Spec PyProof.Rows
section
variable {X:Cx}{tg:Expr}
noncomputable def iList (K:PySem.W.Frag) (tl:TE):TI:=fun σ H R=>tl σ H fun x H1=>∃ a,x=.ref a/\(∃ xs,SqL K H1 a xs)/\R (Itl K a) H1
noncomputable def iTup (K:PySem.W.Frag) (tl:TE):TI:=fun σ H R=>tl σ H fun x H1=>∃ a,x=.ref a/\(∃ xs,SqT K H1 a xs)/\R (Itt K a) H1
theorem pi_list {l:Expr}{tl:TE} (hl:PE X l tl):PI X tg l (iList X.K tl):=by
 intro pins s σ H R I h;refine thn (hl pins s σ H _ I h) fun v s1 ⟨x,H1,I1,r1,q1⟩=>?_
 obtain⟨a,e,⟨xs,hq⟩,q⟩:=q1;subst e;cases r1;obtain⟨its,rv,p,hz⟩:=I1.list hq;refine wpAny_pyIter_list p.isList ?_;refine⟨s1.heap.objs.size,[s1.heap.objs.size],_,_,H1,rfl,I1.kept (t':=s1.toks) fun b o e=>Heap.get?_push_of_some _ e,turn_list a _,⟨_,Heap.get?_push_size _ rfl,rfl,rfl⟩,fun b hb=>?_,q⟩
 have e:b=s1.heap.objs.size:=by simpa using hb
 subst e;exact I1.fpOk (Nat.le_refl _) (I1.hok.fresh (Nat.le_refl _))
theorem pi_tup {l:Expr}{tl:TE} (hl:PE X l tl):PI X tg l (iTup X.K tl):=by
 intro pins s σ H R I h;refine thn (hl pins s σ H _ I h) fun v s1 ⟨x,H1,I1,r1,q1⟩=>?_
 obtain⟨a,e,⟨xs,hq⟩,q⟩:=q1;subst e;cases r1;obtain⟨its,rv,p,hz⟩:=I1.tuple hq;refine wpAny_pyIter_tuple (show s1.heap.IsTuple a its.toArray from p) ?_;refine⟨s1.heap.objs.size,[s1.heap.objs.size],_,_,H1,rfl,I1.kept (t':=s1.toks) fun b o e=>Heap.get?_push_of_some _ e,turn_tuple a _,⟨_,Heap.get?_push_size _ rfl,rfl,rfl⟩,fun b hb=>?_,q⟩
 have e:b=s1.heap.objs.size:=by simpa using hb
 subst e;exact I1.fpOk (Nat.le_refl _) (I1.hok.fresh (Nat.le_refl _))
theorem range_it {pins:List (Addr×Obj)}{σ:St}{H:Hp}{s:Shared}{R:It->Hp->Prop}{E:Value->Shared->Prop}{lo hi:Int}{t u v:Tok}{tk:Nat} (I:Inv X pins σ H s) (h1:-(2 ^ 62)<=lo) (h2:lo<2 ^ 62) (h3:-(2 ^ 62)<=hi) (h4:hi<2 ^ 62)
  (q:R (Itr lo (hi-lo).toNat) H):wpAny (model X.prog X.w) X.A (pyIter (.ref s.heap.objs.size)) (PIE X pins σ tg R) E {s with heap:=s.heap.push {cls:=.type "range",data:=.fields #[.int lo t,.int hi u,.int 1 v]},toks:=tk}:=by
 refine wpAny_pyIter_range (IsRange.new ..) (small_one h1 h2 h3 h4) ?_;have I1:Inv X pins σ H {s with heap:=s.heap.push {cls:=.type "range",data:=.fields #[.int lo t,.int hi u,.int 1 v]},toks:=tk}:=I.kept fun b o e=>Heap.get?_push_of_some _ e
 refine⟨(s.heap.push {cls:=.type "range",data:=.fields #[.int lo t,.int hi u,.int 1 v]}).objs.size,[(s.heap.push {cls:=.type "range",data:=.fields #[.int lo t,.int hi u,.int 1 v]}).objs.size],_,_,H,rfl,
  I1.kept (t':=tk) fun b o e=>Heap.get?_push_of_some _ e,turn_range _ lo (hi-lo).toNat,?_,fun b hb=>?_,q⟩
 ·have e1:lo+((0:Nat):Int)*1=lo:=by simp
  have e2:(((hi-lo).toNat:Nat):Int)-((0:Nat):Int)=Builtin.Range.rangeSize lo hi 1:=by rw[rangeSize_one];split <;> omega
  show IsRangeIter _ _ (lo+((0:Nat):Int)*1) ((((hi-lo).toNat:Nat):Int)-((0:Nat):Int)) 1;rw[e1,e2];exact Heap.get?_push_size _ rfl
 ·have e:b=(s.heap.push {cls:=.type "range",data:=.fields #[.int lo t,.int hi u,.int 1 v]}).objs.size:=by simpa using hb
  subst e;exact I1.fpOk (Nat.le_refl _) (I1.hok.fresh (Nat.le_refl _))
noncomputable def iRng1 (ta:TA):TI:=fun σ H R=>ta σ H fun vs H1=>∃ j:Int,vs=[.int j]/\-(2 ^ 62)<=j/\j<2 ^ 62/\R (Itr 0 j.toNat) H1
theorem pi_range1 {a:Expr}{ta:TA}{p pos:Pos} (hg:Gl X "range") (hm:X.mg "range"=none) (ha:PA X [a] ta) (hs:starEach [a] X.env=[(false,eval a X.env)]:=by rfl):PI X tg (.Call (.Name "range" p) [a] [] pos) (iRng1 ta):=by
 intro pins s σ H R I h;refine Call_ (ld_blt I hg hm boot_range (PyProof.Rows.callWith_type1 (thn (ha pos pins s σ H _ I h) fun us s1 ⟨vs,H1,I1,r1,q1⟩=>?_) hs rfl))
 obtain⟨j,e,q1,q2,q⟩:=q1;subst e;cases r1 with
 |cons r rr =>
  cases rr;obtain⟨t,rfl⟩:=r;exact call_range_1 (range_it I1 (by omega) (by omega) q1 q2 (by simpa using q))
noncomputable def tFor (wi:TI) (g:TG) (tb:TS):TS:=fun D σ H=>wi σ H fun J H1=>∃ W:Nat->Nat->St->Hp->Prop,(∃ m,W 0 m σ H1)/\∀ i m σ H,W i m σ H ->
 (J.stop i H/\D.nx σ H)\/(J.go i H/\∃ N:St->Hp->Prop,(∀ σ' H',N σ' H'->∃ m',m'<m/\W (i+1) m' σ' H')/\∀ x H',J.yld i H x H'->g x σ H' fun σ2 H2=>tb {D with nx:=N,ct:=N,bk:=D.nx} σ2 H2)
noncomputable def pinsAt (fp:List Addr) (h:Heap):List (Addr×Obj):=fp.filterMap fun b=>(h.get? b).map fun o=>(b,o)
theorem mem_pinsAt {fp:List Addr}{h:Heap}{b:Addr}{o:Obj} (hb:b∈fp) (e:h.get? b=some o):(b,o)∈pinsAt fp h:=List.mem_filterMap.mpr ⟨b,hb,by rw[e];rfl⟩
theorem of_pinsAt {fp:List Addr}{h:Heap}{p:Addr×Obj} (hp:p∈pinsAt fp h):p.1∈fp/\h.get? p.1=some p.2:=by
 obtain⟨b,hb,e⟩:=List.mem_filterMap.mp hp;cases q:h.get? b with
 |none=>rw[q] at e;cases e
 |some o =>
  rw[q] at e;have e':(b,o)=p:=Option.some.inj e;subst e';exact⟨hb,q⟩
theorem Inv.pinned {pins:List (Addr×Obj)}{σ:St}{H:Hp}{s:Shared}{fp:List Addr} (I:Inv X pins σ H s) (hf:∀ b∈fp,FpOk X pins H b) (ho:∀ b∈fp,∃ o,s.heap.get? b=some o/\∀ v,o.data≠.cell v):Inv X (pins++pinsAt fp s.heap) σ H s :=
 I.pins_of fun p hp=>(List.mem_append.mp hp).elim (fun z=>I.pin p (List.mem_append_right _ z)) fun z=>by
  obtain⟨hb,e⟩:=of_pinsAt z;obtain⟨f0,f1,f2,_⟩:=hf p.1 hb;obtain⟨o,e',d⟩:=ho p.1 hb;rw[e] at e';cases e';exact⟨e,f0,f1,f2,d⟩
theorem Inv.unpinned {pins pl:List (Addr×Obj)}{σ:St}{H:Hp}{s:Shared} (I:Inv X (pins++pl) σ H s):Inv X pins σ H s:=I.pins_of fun p hp=>I.pin p (List.mem_append_right _ (List.mem_append_left _ hp))
theorem ps_for {iter:Expr}{body:List Stmt}{wi:TI}{g:TG}{tb:TS}{pos:Pos} (hp:PassesOwn (model X.prog X.w) X.A X.env X.xe) (hc:X.calm=true) (hi:PI X tg iter wi) (hg:PG X tg g) (hb:PSs X body tb)
  (hs:∀ x,foldedSetIterable iter X.env x=pure x:=by intro _;rfl):PS X (.For tg iter body [] pos) (tFor wi g tb):=by
 intro pins s σ H D I h;refine wpAny_For (thn (hi pins s σ H _ I h) fun v s1 h1=>thn h1 fun itv s2 h2=>?_) hs
 obtain⟨it,fp,tn,J,H2,e,I2,T,st2,f2,W,⟨m0,w0⟩,turn⟩:=h2;subst e;have stat:∀ {H':Hp},(∀ b∈fp,H' b=none)->∀ b∈fp,FpOk X pins H' b:=fun hn b hb=>⟨hn b hb,(f2 b hb).2⟩
 refine codeAny_forLoop_any (fun n s'=>∃ i σ' H',Inv X pins σ' H' s'/\tn i s'.heap/\(∀ b∈fp,H' b=none)/\W i n σ' H') ?_ m0 ⟨0,σ,H2,I2,st2,fun b hb=>(f2 b hb).1,w0⟩
 rintro n s3 ⟨i,σ3,H3,I3,st3,fr3,w3⟩
 rcases turn i n σ3 H3 w3 with ⟨stop,qn⟩ | ⟨go,N,hN,step⟩
 ·refine wpAny_passesOwn hp (thn (T.done X rfl rfl rfl hc i pins s3 σ3 H3 X.xe I3 (stat fr3) st3 stop) fun r s4 ⟨hr,I4⟩=>?_)
  subst hr;exact wpAny_execs_nil ⟨σ3,H3,I4,qn⟩
 ·refine wpAny_passesOwn hp (thn (T.item X rfl rfl rfl hc i pins s3 σ3 H3 X.xe I3 (stat fr3) st3 go) fun r s4 ⟨u,hr,h4⟩=>?_)
  subst hr;refine wpAny_passesOwn hp (thn h4 fun _ s5 ⟨x,H5,I5,r5,y5,st5,fr5⟩=>?_)
  have I5':=I5.pinned (stat fr5) (T.obj _ _ st5);refine wpAny_passesOwn hp (thn (hg _ s5 σ3 H5 x u _ I5' r5 (step x H5 y5)) fun _ s6 ⟨σ6,H6,I6,q6⟩=>?_)
  refine wpAny_passesOwn hp (thn (hb _ s6 σ6 H6 _ I6 q6) fun f s7 q7=>?_)
  have again:∀ {σ7:St}{H7:Hp},Inv X (pins++pinsAt fp s5.heap) σ7 H7 s7->N σ7 H7->∃ m,m<n/\∃ i σ' H',Inv X pins σ' H' s7/\tn i s7.heap/\(∀ b∈fp,H' b=none)/\W i m σ' H':=fun {σ7 H7} I7 n7=>by
   obtain⟨m',hm,w7⟩:=hN σ7 H7 n7;refine⟨m',hm,i+1,σ7,H7,I7.unpinned,T.keep _ _ _ st5 fun b hb o e=>(I7.pin (b,o) (List.mem_append_right _ (List.mem_append_right _ (mem_pinsAt hb e)))).1,fun b hb=>?_,w7⟩
   obtain⟨o,e,d⟩:=T.obj _ _ st5 b hb;exact (I7.pin (b,o) (List.mem_append_right _ (List.mem_append_right _ (mem_pinsAt hb e)))).2.1
  cases f with
  |next=>obtain⟨σ7,H7,I7,n7⟩:=q7;exact again I7 n7
  |cont=>obtain⟨σ7,H7,I7,n7⟩:=q7;exact again I7 n7
  |brk=>obtain⟨σ7,H7,I7,q7⟩:=q7;exact⟨σ7,H7,I7.unpinned,q7⟩
  |ret v=>obtain⟨x7,σ7,H7,I7,r7,q7⟩:=q7;exact⟨x7,σ7,H7,I7.unpinned,r7,q7⟩
end
end L2
namespace L2
open PySem PySem.Spec PyProof.Rows
noncomputable abbrev R2:=V->V->Hp->VK->Prop
noncomputable def OpR (X:Cx) (f:Value->Value->Sem Value) (r:R2):Prop :=
 ∀ (pins:List (Addr×Obj)) (s:Shared) (σ:St) (H:Hp) (x y:V) (v u:Value) (Q:VK),Inv X pins σ H s->RelV x v->RelV y u->r x y H Q ->
  wpAny (model X.prog X.w) X.A (f v u) (EP X pins σ Q) X.xe s
noncomputable def UnR (X:Cx) (f:Value->Sem Value) (r:V->Hp->VK->Prop):Prop :=
 ∀ (pins:List (Addr×Obj)) (s:Shared) (σ:St) (H:Hp) (x:V) (v:Value) (Q:VK),Inv X pins σ H s->RelV x v->r x H Q ->
  wpAny (model X.prog X.w) X.A (f v) (EP X pins σ Q) X.xe s
noncomputable def CallR (X:Cx) (f:Value) (r:List V->Hp->VK->Prop):Prop :=
 ∀ (pins:List (Addr×Obj)) (s:Shared) (σ:St) (H:Hp) (xs:List V) (us:List Value) (Q:VK),Inv X pins σ H s->Vals xs us->r xs H Q ->
  wpAny (model X.prog X.w) X.A (call f us) (EP X pins σ Q) X.xe s
noncomputable def TruR (X:Cx) (r:V->Hp->(Bool->Hp->Prop)->Prop):Prop :=
 ∀ (pins:List (Addr×Obj)) (s:Shared) (σ:St) (H:Hp) (x:V) (v:Value) (Q:Bool->Hp->Prop),Inv X pins σ H s->RelV x v->r x H Q ->
  wpAny (model X.prog X.w) X.A (truthy v) (TP X pins σ Q) X.xe s
noncomputable def tOp (r:R2) (ta tb:TE):TE:=fun σ H Q=>ta σ H fun x H1=>tb σ H1 fun y H2=>r x y H2 Q
noncomputable def tUn (r:V->Hp->VK->Prop) (ta:TE):TE:=fun σ H Q=>ta σ H fun x H1=>r x H1 Q
noncomputable def rI (C:Int->Int->Prop) (g:Int->Int->V):R2:=fun x y H Q=>∃ i j,x=.int i/\y=.int j/\C i j/\Q (g i j) H
noncomputable def rI0 (g:Int->Int->V):R2:=fun x y H Q=>∃ i j,x=.int i/\y=.int j/\Q (g i j) H
noncomputable def rU (g:Int->V):V->Hp->VK->Prop:=fun x H Q=>∃ i,x=.int i/\Q (g i) H
section
variable {X:Cx}{a b c:Expr}{ta tb tc:TE}{pos:Pos}
theorem binT (ha:PE X a ta) (hb:PE X b tb) {pins:List (Addr×Obj)}{s:Shared}{σ:St}{H:Hp}{R:V->V->Hp->Prop} (I:Inv X pins σ H s)
  (h:ta σ H fun x H1=>tb σ H1 fun y H2=>R x y H2) {Q:Value->Shared->Prop}{f:Value->Value->Sem Value}
  (hf:∀ v u s2 x y H2,Inv X pins σ H2 s2->RelV x v->RelV y u->R x y H2->wpAny (model X.prog X.w) X.A (f v u) Q X.xe s2) :
  wpAny (model X.prog X.w) X.A (eval a X.env) (fun v s₁=>wpAny (model X.prog X.w) X.A (eval b X.env) (fun u s₂=>wpAny (model X.prog X.w) X.A (f v u) Q X.xe s₂) X.xe s₁) X.xe s:=by
 refine thn (ha pins s σ H _ I h) fun v s1 ⟨x,H1,I1,r1,q1⟩=>?_
 refine thn (hb pins s1 σ H1 _ I1 q1) fun u s2 ⟨y,H2,I2,r2,q2⟩=>?_
 exact hf v u s2 x y H2 I2 r1 r2 q2
theorem pe_op {op:Operator}{r:R2} (ho:OpR X (binaryOp op) r) (ha:PE X a ta) (hb:PE X b tb):PE X (.BinOp a op b pos) (tOp r ta tb):=by
 intro pins s σ H Q I h;exact wpAny_BinOp (binT ha hb I h fun v u s2 x y H2 I2 rx ry q=>ho pins s2 σ H2 x y v u Q I2 rx ry q)
theorem pe_un {op:UnaryOp}{r:V->Hp->VK->Prop} (ho:UnR X (unaryOp op) r) (ha:PE X a ta):PE X (.UnaryOp op a pos) (tUn r ta):=by
 intro pins s σ H Q I h;exact UnaryOp_ (thn (ha pins s σ H _ I h) fun v s1 ⟨x,H1,I1,r1,q1⟩=>ho pins s1 σ H1 x v Q I1 r1 q1)
theorem opI {f:Value->Value->Sem Value}{C:Int->Int->Prop}{g:Int->Int->Int}
  (rule:∀ (i j:Int) (t u:Tok) (s:Shared) (Q:Value->Shared->Prop) (E:Value->Shared->Prop),C i j->Q (.int (g i j) s.toks) {s with toks:=s.toks+1}->wpAny (model X.prog X.w) X.A (f (.int i t) (.int j u)) Q E s) :
  OpR X f (rI C fun i j=>.int (g i j)):=by
 intro pins s σ H x y v u Q I rx ry h;obtain⟨i,j,rfl,rfl,hc,q⟩:=h;obtain⟨t,rfl⟩:=rx;obtain⟨t',rfl⟩:=ry;exact rule i j t t' s _ _ hc ⟨.int (g i j),H,I.tok _,⟨_,rfl⟩,q⟩
theorem opI0 {f:Value->Value->Sem Value}{g:Int->Int->Int}
  (rule:∀ (i j:Int) (t u:Tok) (s:Shared) (Q:Value->Shared->Prop) (E:Value->Shared->Prop),Q (.int (g i j) s.toks) {s with toks:=s.toks+1}->wpAny (model X.prog X.w) X.A (f (.int i t) (.int j u)) Q E s) :
  OpR X f (rI0 fun i j=>.int (g i j)):=by
 intro pins s σ H x y v u Q I rx ry h;obtain⟨i,j,rfl,rfl,q⟩:=h;obtain⟨t,rfl⟩:=rx;obtain⟨t',rfl⟩:=ry;exact rule i j t t' s _ _ ⟨.int (g i j),H,I.tok _,⟨_,rfl⟩,q⟩
theorem opB0 {f:Value->Value->Sem Value}{g:Int->Int->Bool}
  (rule:∀ (i j:Int) (t u:Tok) (s:Shared) (Q:Value->Shared->Prop) (E:Value->Shared->Prop),Q (.bool (g i j)) s->wpAny (model X.prog X.w) X.A (f (.int i t) (.int j u)) Q E s) :
  OpR X f (rI0 fun i j=>.bl (g i j)):=by
 intro pins s σ H x y v u Q I rx ry h;obtain⟨i,j,rfl,rfl,q⟩:=h;obtain⟨t,rfl⟩:=rx;obtain⟨t',rfl⟩:=ry;exact rule i j t t' s _ _ ⟨.bl (g i j),H,I,rfl,q⟩
noncomputable def CMul (i j:Int):Prop:=(-(2 ^ 64)<i/\i<2 ^ 64)\/(-(2 ^ 64)<j/\j<2 ^ 64)
theorem CMul.ok {i j:Int} (h:CMul i j):IntMulOk i j:=by
 rcases h with ⟨h1,h2⟩ | ⟨h1,h2⟩
 ·exact .of_left (intBits_le_64 h1 h2)
 ·exact .of_right (intBits_le_64 h1 h2)
theorem op_add:OpR X (binaryOp .Add) (rI0 fun i j=>.int (i+j)):=opI0 fun _ _ _ _ _ _ _ q=>add_int q
theorem op_sub:OpR X (binaryOp .Sub) (rI0 fun i j=>.int (i-j)):=opI0 fun _ _ _ _ _ _ _ q=>sub_int q
theorem op_modN:OpR X (binaryOp .Mod) (rI (fun _ j=>j≠0) fun i j=>.int (i.fmod j)):=opI fun _ _ _ _ _ _ _ hc q=>mod_int' hc q
theorem unI {f:Value->Sem Value}{g:Int->Int}
  (rule:∀ (i:Int) (t:Tok) (s:Shared) (Q:Value->Shared->Prop) (E:Value->Shared->Prop),Q (.int (g i) s.toks) {s with toks:=s.toks+1}->wpAny (model X.prog X.w) X.A (f (.int i t)) Q E s) :
  UnR X f (rU fun i=>.int (g i)):=by
 intro pins s σ H x v Q I rx h;obtain⟨i,rfl,q⟩:=h;obtain⟨t,rfl⟩:=rx;exact rule i t s _ _ ⟨.int (g i),H,I.tok _,⟨_,rfl⟩,q⟩
theorem un_neg:UnR X (unaryOp .USub) (rU fun i=>.int (-i)):=unI fun _ _ _ _ _ q=>neg_int q
end
section
variable {X:Cx}{a b c:Expr}{ta tb tc:TE}{pos:Pos}
theorem fin_bl {pins:List (Addr×Obj)}{σ:St}{H:Hp}{s:Shared}{Q:VK}{k k':Bool} (I:Inv X pins σ H s) (q:Q (.bl k) H) (e:k=k'):EP X pins σ Q (.bool k') s:=by
 subst e;exact⟨.bl k,H,I,rfl,q⟩
theorem op_lt:OpR X (compareOp .Lt) (rI0 fun i j=>.bl (decide (i<j))):=opB0 fun _ _ _ _ _ _ _ q=>lt_int q
theorem op_gt:OpR X (compareOp .Gt) (rI0 fun i j=>.bl (decide (j<i))):=opB0 fun _ _ _ _ _ _ _ q=>gt_int q
theorem op_in_str:OpR X (compareOp .In) (fun x y H Q=>∃ i j,x=.str i/\y=.str j/\Q (.bl (!(Builtin.Str.occurrences j i 0 j.length 1).isEmpty)) H):=by
 intro pins s σ H x y v u Q I rx ry h;obtain⟨i,j,rfl,rfl,q⟩:=h;obtain⟨t,rfl⟩:=rx;obtain⟨t',rfl⟩:=ry;exact in_str (fin_bl I q rfl)
theorem op_isN:OpR X (compareOp .Is) (fun x y H Q=>y=.non/\Q (.bl (decide (x=.non))) H):=by
 intro pins s σ H x y v u Q I rx ry h;obtain⟨rfl,q⟩:=h;cases ry;refine is_none_gen (fin_bl I q ?_);cases x <;> first
  |(cases rx;rfl)
  |(obtain⟨t,rfl⟩:=rx;rfl)
theorem op_notN:OpR X (compareOp .IsNot) (fun x y H Q=>y=.non/\Q (.bl (!decide (x=.non))) H):=by
 intro pins s σ H x y v u Q I rx ry h;obtain⟨rfl,q⟩:=h;cases ry;refine isnot_none_gen (fin_bl I q ?_);cases x <;> first
  |(cases rx;rfl)
  |(obtain⟨t,rfl⟩:=rx;rfl)
theorem OpR.or {f:Value->Value->Sem Value}{r r':R2} (h:OpR X f r) (h':OpR X f r'):OpR X f (fun x y H Q=>r x y H Q\/r' x y H Q):=by
 intro pins s σ H x y v u Q I rx ry q
 rcases q with q | q
 ·exact h pins s σ H x y v u Q I rx ry q
 ·exact h' pins s σ H x y v u Q I rx ry q
theorem nomark (b:Expr) {op:CmpOp} (h:op≠.In:=by decide) (h2:op≠.NotIn:=by decide):behindInMarks op b=false:=by
 have e1:(op==CmpOp.In)=false:=by cases op <;> first | rfl | exact absurd rfl h
 have e2:(op==CmpOp.NotIn)=false:=by cases op <;> first | rfl | exact absurd rfl h2
 cases b <;> simp[behindInMarks,e1,e2]
theorem pe_cmpR {op:CmpOp}{r:R2} (ho:OpR X (compareOp op) r) (ha:PE X a ta) (hb:PE X b tb) (hm:behindInMarks op b=false):PE X (.Compare a [op] [b] pos) (tOp r ta tb):=by
 intro pins s σ H Q I h;exact wpAny_Compare1 (binT ha hb I h fun v u s2 x y H2 I2 rx ry q=>ho pins s2 σ H2 x y v u Q I2 rx ry q) hm
noncomputable def tTest (t:TE):TT:=fun σ H Q=>t σ H fun x H'=>∃ k,x=.bl k/\Q k H'
theorem pt_cmpR {op:CmpOp}{r:R2} (ho:OpR X (compareOp op) r) (ha:PE X a ta) (hb:PE X b tb) (hm:behindInMarks op b=false):PT X (.Compare a [op] [b] pos) (tTest (tOp r ta tb)):=by
 intro pins s σ H Q I h;refine wpAny_isTrue_Compare1 (thn (ha pins s σ H _ I h) fun v s1 ⟨x,H1,I1,r1,q1⟩=>thn (hb pins s1 σ H1 _ I1 q1) fun u s2 ⟨y,H2,I2,r2,q2⟩ =>
  thn (ho pins s2 σ H2 x y v u _ I2 r1 r2 q2) fun c s3 ⟨z,H3,I3,r3,k,e,q3⟩=>?_) hm
 subst e;cases r3;exact wpAny_truthy_bool ⟨H3,I3,q3⟩
noncomputable def TruV (K:PySem.W.Frag) (x:V) (H:Hp) (k:Bool):Prop :=
 match x with
 |.non=>k=false
 |.bl b=>k=b
 |.int i=>k=(i != 0)
 |.str y=>y.length<=sizeLine/\k=((y.length:Int) != 0)
 |.byt y=>y.size<=sizeLine/\k=((y.size:Int) != 0)
 |.ref p=>(∃ xs,SqL K H p xs/\k=!xs.isEmpty)\/(∃ xs,SqT K H p xs/\k=!xs.isEmpty)\/∃ kvs,H p=some (.dK kvs)/\k=!kvs.isEmpty
 |_=>False
theorem isEmpty_kv {κ:Type}{kvs:List (κ×V)}{vs:List (κ×Value)} (r:KV kvs vs):(!vs.isEmpty)=!kvs.isEmpty:=by
 cases r <;> rfl
theorem isEmpty_of {xs:List V}{its:List Value} (r:Vals xs its):(!its.toArray.isEmpty)=!xs.isEmpty:=by
 cases r <;> simp
theorem line63:(sizeLine:Nat)<2 ^ 63:=by rw[sizeLine_eq];decide
theorem tru_ok:TruR X (fun x H Q=>∃ k,TruV X.K x H k/\Q k H):=by
 intro pins s σ H x v Q I rx h;obtain⟨k,e,q⟩:=h;have hl:=line63;have hs:sizeLine=16777216:=sizeLine_eq;cases x with
 |non =>
  cases rx;have e':k=false:=e;subst e';exact truthy_none ⟨H,I,q⟩
 |bl b =>
  cases rx;have e':k=b:=e;subst e';exact wpAny_truthy_bool ⟨H,I,q⟩
 |int i =>
  obtain⟨t,rfl⟩:=rx;have e':k=(i != 0):=e;subst e';exact PySem.P.truthy_int ⟨H,I,q⟩
 |str y =>
  obtain⟨t,rfl⟩:=rx;obtain⟨hy,e'⟩:y.length<=sizeLine/\k=((y.length:Int) != 0):=e;subst e';exact PySem.P.truthy_str (by omega) ⟨H,I.tok _,q⟩
 |byt y =>
  obtain⟨t,rfl⟩:=rx;obtain⟨hy,e'⟩:y.size<=sizeLine/\k=((y.size:Int) != 0):=e;subst e';exact PySem.W.truthy_bytes (by omega) ⟨H,I.tok _,q⟩
 |ref p =>
  cases rx;have e':(∃ xs,SqL X.K H p xs/\k=!xs.isEmpty)\/(∃ xs,SqT X.K H p xs/\k=!xs.isEmpty)\/∃ kvs,H p=some (.dK kvs)/\k=!kvs.isEmpty:=e
  rcases e' with ⟨xs,hx,e'⟩ | ⟨xs,hx,e'⟩ | ⟨kvs,hx,e'⟩
  ·subst e'
   obtain⟨its,r,pl,hz⟩:=I.list hx;have hlen:=r.length;exact wpAny_truthy_list pl.isList (by simp only[List.size_toArray];omega) ⟨H,I.tok _,by rw[isEmpty_of r];exact q⟩
  ·subst e'
   obtain⟨its,r,pl,hz⟩:=I.tuple hx;have hlen:=r.length;exact truthy_tuple pl (by simp only[List.size_toArray];omega) ⟨H,I.tok _,by rw[isEmpty_of r];exact q⟩
  ·subst e'
   obtain⟨hz,hS,vs,r,m⟩:kvs.length<=sizeLine/\(p==sysModules)=false/\∃ vs,KV kvs vs/\s.heap.DictOf (mixKind X.prog X.w) p vs:=I.hok p _ hx;have hlen:kvs.length=vs.length:=Paired.length r;exact wpAny_truthy_dict hS m (by omega) ⟨H,I.tok _,by rw[isEmpty_kv r];exact q⟩
 |_=>exact (show False from e).elim
theorem pt_truth (ha:PE X a ta) (he:∀ whole,isTrue a X.env whole=(do let v <- whole;standAt a.pos;holding [v] (truthy v))) :
  PT X a (fun σ H Q=>ta σ H fun x H'=>∃ k,TruV X.K x H' k/\Q k H'):=by
 intro pins s σ H Q I h;exact isTrue_plain (thn (ha pins s σ H _ I h) fun v s1 ⟨x,H1,I1,r1,q1⟩=>tru_ok pins s1 σ H1 x v Q I1 r1 q1) (he _)
theorem op_add_str:OpR X (binaryOp .Add) (fun x y H Q=>∃ i j,x=.str i/\y=.str j/\i.length+j.length<=sizeLine/\Q (.str (i++j)) H):=by
 intro pins s σ H x y v u Q I rx ry h;obtain⟨i,j,rfl,rfl,hz,q⟩:=h;obtain⟨t,rfl⟩:=rx;obtain⟨t',rfl⟩:=ry;exact add_str (fun t' tk=>⟨.str (i++j),H,I.tok _,⟨_,rfl⟩,q⟩) hz
theorem vals1 {x:V}{us:List Value} (r:Vals [x] us):∃ u,us=[u]/\RelV x u:=by
 cases r with
 |cons r1 r2=>cases r2;exact⟨_,rfl,r1⟩
theorem vals2 {x y:V}{us:List Value} (r:Vals [x,y] us):∃ u w',us=[u,w']/\RelV x u/\RelV y w':=by
 cases r with
 |cons r1 r2 =>
  cases r2 with
  |cons r3 r4=>cases r4;exact⟨_,_,rfl,r1,r3⟩
theorem call_abs:CallR X (.builtin "abs") (fun xs H Q=>∃ i,xs=[.int i] ∧ Q (.int (if i<0 then -i else i)) H):=by
 intro pins s σ H xs us Q I r h;obtain⟨i,rfl,q⟩:=h;obtain⟨u,rfl,t,rfl⟩:=vals1 r;exact call_abs_int fun u tk=>⟨.int (if i<0 then -i else i),H,I.tok _,⟨_,rfl⟩,q⟩
end
end L2
namespace L2
open PySem PySem.Spec PyProof.Rows
structure ObjM (h:Heap) (x dx C:Addr) (mA:Str->Option Value):Prop where
 obj:h.get? x=some (PySem.W.instObj C dx)
 ns:h.Ns1 dx mA
 ne:dx≠x
section
variable {prog:Program}{w:World}{A:Around}{E:Value->Shared->Prop}{s:Shared}{K:PySem.W.Frag}{x dx C f:Addr}{mA:Str->Option Value}{name:Str}{v:Value}
end
theorem RelO.some_of {v:V}{o:Option Value} (r:RelO (some v) o):∃ u,o=some u/\RelV v u:=by
 cases o with
 |none=>exact (show False from r).elim
 |some u=>exact⟨u,rfl,r⟩
theorem RelO.none_of {o:Option Value} (r:RelO none o):o=none:=by
 cases o with
 |none=>rfl
 |some u=>exact (show False from r).elim
section
variable {P:Program}{w:World}{H H':Hp}{h h':Heap}{a C dx:Addr}{fs fs':List (Str×V)}
end
structure Cls (K:PySem.W.Frag) (C:Addr):Prop where
 pg:PySem.W.plainGet K C Str.empty=true
 hd:PySem.W.hasDictIn K C=true
 po:PySem.W.plainOver K C=true
 sa:PySem.W.findIn K (.ref C) "__setattr__"=some (some (.builtin "object.__setattr__"))
theorem Cls.get {K:PySem.W.Frag}{C:Addr} (c:Cls K C) (f:Str):PySem.W.plainGet K C f=true:=c.pg
structure Con (K:PySem.W.Frag) (C:Addr) (f:Str) (v:V) (u:Value):Prop where
 at_:PySem.W.findIn K (.ref C) f=some (some u)
 rel:RelV v u
 get:PySem.W.specialIn K u "__get__"=some none
 cp:PySem.W.copiedNames.contains f=false
structure Meth (K:PySem.W.Frag) (C:Addr) (m:Str) (f:Addr):Prop where
 at_:PySem.W.findIn K (.ref C) m=some (some (.ref f))
 fn:PySem.W.isFn K (.ref f)=true
 kp:PySem.W.keepIn K (.ref f)=true
section
variable {X:Cx}{pins:List (Addr×Obj)}{σ:St}{H:Hp}{s:Shared}{a C dx:Addr}{fs:List (Str×V)}{f:Str}{v:V}{A:Around}{E:Value->Shared->Prop}
theorem Inv.made (I:Inv X pins σ H s):Inv X pins σ (upd (upd H s.heap.objs.size (.own (s.heap.objs.size+1))) (s.heap.objs.size+1) (.ins C s.heap.objs.size []))
  {s with heap:=(s.heap.push PySem.W.emptyDict).push (PySem.W.instObj C s.heap.objs.size)}:=by
 have e1:(s.heap.push PySem.W.emptyDict).get? s.heap.objs.size=some PySem.W.emptyDict:=Heap.get?_push_size s.heap rfl
 have e2:((s.heap.push PySem.W.emptyDict).push (PySem.W.instObj C s.heap.objs.size)).get? (s.heap.objs.size+1)=some (PySem.W.instObj C s.heap.objs.size):=by
  have:=Heap.get?_push_size (s.heap.push PySem.W.emptyDict) (o:=PySem.W.instObj C s.heap.objs.size) rfl
  rwa [Heap.size_push] at this
 have e3:(s.heap.push PySem.W.emptyDict).Ns s.heap.objs.size (fun _=>none):=⟨PySem.W.emptyDict,#[],_,e1,rfl,(fun e he=>absurd he (by simp)),fun _=>rfl⟩
 have I1:=I.laid (a:=s.heap.objs.size) (o:=.own (s.heap.objs.size+1)) (h':=s.heap.push PySem.W.emptyDict) (t':=s.toks) (fun b u q=>Heap.get?_push_of_some _ q) (Nat.le_refl _) ⟨_,e1⟩
 refine I1.laid (a:=s.heap.objs.size+1) (o:=.ins C s.heap.objs.size []) (t':=s.toks) (fun b u q=>Heap.get?_push_of_some _ q) (Nat.le_of_eq (Heap.size_push _ _)) ?_
 have ne:s.heap.objs.size≠s.heap.objs.size+1:=Nat.ne_of_lt (Nat.lt_succ_self _);refine⟨by rw[upd_ne ne,upd_same],Nat.zero_le _,ne,e2,fun _=>none,(Heap.Ns1.of_empty e3).at fun o q=>Heap.get?_push_of_some _ q,fun _=>True.intro,fun y hy=>absurd rfl hy⟩
end
section
variable {X:Cx}{o e value:Expr}{f:Str}{pos pos' tpos:Pos}{ta tv:TE}
end
section
variable {X:Cx}{pins:List (Addr×Obj)}{σ:St}{H:Hp}{s:Shared}{A:Around}{E:Value->Shared->Prop}{Q:Value->Shared->Prop}{c:Value}{b:Bool}
inductive TyOf (K:PySem.W.Frag) (H:Hp):V->Value->Prop where
 |non:TyOf K H .non (.type "NoneType")
 |bl (x:Bool):TyOf K H (.bl x) (.type "bool")
 |int (i:Int):TyOf K H (.int i) (.type "int")
 |str (x:Str):TyOf K H (.str x) (.type "str")
 |flt (x:UInt64):TyOf K H (.flt x) (.type "float")
 |lst {a:Addr}{xs:List V} (e:H a=some (.lst xs)):TyOf K H (.ref a) (.type "list")
 |frz {a:Addr}{o:Obj}{xs:List V} (e:H a=some (.frz o (.lst xs))):TyOf K H (.ref a) (.type "list")
 |tup {a:Addr}{xs:List V} (e:H a=some (.tup xs)):TyOf K H (.ref a) (.type "tuple")
 |dK {a:Addr}{kvs:List (Key×V)} (e:H a=some (.dK kvs)):TyOf K H (.ref a) (.type "dict")
 |dT {a:Addr}{kvs:List (List Key×V)} (e:H a=some (.dT kvs)):TyOf K H (.ref a) (.type "dict")
 |ins {a C dx:Addr}{fs:List (Str×V)} (e:H a=some (.ins C dx fs)) (cl:Cls K C) (ha:PySem.W.findIn K (.ref C) "__class__"=some (some (.builtin "object.__class__")))
   (hn:PySem.W.specialIn K (.builtin "object.__class__") "__get__"=some (some (.builtin "getset_descriptor.__get__"))) (htk:PySem.W.takesIn K (.builtin "object.__class__")=some true)
   (hm:PySem.W.mroIn K C (.type "object")=some true):TyOf K H (.ref a) (.ref C)
end
end L2
namespace L2
open PySem PySem.Spec PyProof.Rows
structure Room (k:Nat) (A:Around):Prop where
 hd:A.handled=none
 dp:A.depth+3*k+5<recursionLimit
 un:A.units+16*k+200<cLine
theorem Room.mono {j k:Nat}{A:Around} (r:Room k A) (h:j<=k):Room j A:=⟨r.hd,by have:=r.dp;omega,by have:=r.un;omega⟩
theorem Room.deeper {k:Nat}{A:Around} (r:Room (k+1) A) (env:Env):Room k (A.deeper env) :=
 ⟨r.hd,by have:=r.dp;show A.depth+1+3*k+5<_;omega,by have:=r.un;show A.units+3+16*k+200<_;omega⟩
theorem Room.in1 {k:Nat}{A:Around} (r:Room (k+1) A):Room k A.in1 :=
 ⟨r.hd,by have:=r.dp;show A.depth+3*k+5<_;omega,by have:=r.un;show A.units+1+16*k+200<_;omega⟩
theorem Room.depth {k:Nat}{A:Around} (r:Room k A):A.depth<recursionLimit:=by have:=r.dp;omega
theorem Room.units {k:Nat}{A:Around} (r:Room k A):A.units+64<cLine:=by have:=r.un;omega
noncomputable def tNil:TA:=fun _ H Q=>Q [] H
noncomputable def tCons (ta:TE) (tr:TA):TA:=fun σ H Q=>ta σ H fun x H1=>tr σ H1 fun xs H2=>Q (x::xs) H2
section
variable {X:Cx}{e:Expr}{es:List Expr}{te:TE}{t:TA}{pos:Pos}
theorem pa_nil:PA X [] tNil:=fun _ _ _ _ H Q I h=>Calls.spliced_nil ⟨[],H,I,.nil,h⟩
theorem pa_cons (ha:PE X e te) (hr:PA X es t) (hs:starEach (e::es) X.env=(false,eval e X.env)::starEach es X.env:=by rfl):PA X (e::es) (tCons te t):=by
 intro pos pins s σ H Q I h;rw[hs];show wpAny _ _ (spliced ((false,eval e X.env)::backTo pos (starEach es X.env))) _ _ s;refine Calls.spliced_cons (thn (ha pins s σ H _ I h) fun u s1 ⟨x,H1,I1,r1,q1⟩=>?_)
 exact thn (hr pos pins s1 σ H1 _ I1 q1) fun us s2 ⟨xs,H2,I2,r2,q2⟩=>⟨x::xs,H2,I2,.cons r1 r2,q2⟩
noncomputable def tTup (t:TA):TE:=fun σ H Q=>t σ H fun xs H1=>xs.length<=sizeLine/\∀ p,H1 p=none->Q (.ref p) (upd H1 p (.tup xs))
noncomputable def tLst (t:TA):TE:=fun σ H Q=>t σ H fun xs H1=>xs.length<=sizeLine/\∀ p,H1 p=none->Q (.ref p) (upd H1 p (.lst xs))
theorem pe_tup {x1} (h:PA X es t):PE X (.Tuple es x1 pos) (tTup t):=by
 intro pins s σ H Q I hq;refine wpAny_Tuple_spliced (thn (h pos pins s σ H _ I hq) fun us s1 ⟨xs,H1,I1,r,z,q⟩=>⟨by rw[<- r.length];exact z,?_⟩)
 have hf:H1 s1.heap.objs.size=none:=I1.hok.fresh (Nat.le_refl _);refine⟨.ref s1.heap.objs.size,upd H1 s1.heap.objs.size (.tup xs),I1.laid (t':=s1.toks) (fun b u e=>Heap.get?_push_of_some _ e) (Nat.le_refl _) ?_,rfl,q _ hf⟩
 exact⟨z,us,r,⟨_,Heap.get?_push_size _ rfl,rfl,⟨_,rfl⟩,rfl⟩⟩
theorem pe_lst (h:PA X es t):PE X (.List es pos) (tLst t):=by
 intro pins s σ H Q I hq;refine wpAny_List_spliced (thn (h pos pins s σ H _ I hq) fun us s1 ⟨xs,H1,I1,r,z,q⟩=>⟨by rw[<- r.length];exact z,?_⟩)
 have hf:H1 s1.heap.objs.size=none:=I1.hok.fresh (Nat.le_refl _);refine⟨.ref s1.heap.objs.size,upd H1 s1.heap.objs.size (.lst xs),I1.laid (t':=s1.toks) (fun b u e=>Heap.get?_push_of_some _ e) (Nat.le_refl _) ?_,rfl,q _ hf⟩
 exact⟨z,us,0,r,Heap.get?_push_size _ rfl⟩
end
noncomputable abbrev Sp:=List V->Hp->VK->XK->Prop
noncomputable abbrev CXT:=List Env->Hp->Shared->XK->Value->Shared->Prop
structure Env0 (P:Program) (w:World) (K:PySem.W.Frag) (mg:Str->Option Value) (base:Heap) (A:Around) (outer:List Env) (s:Shared) (H:Hp):Prop where
 frames:A.frames=some outer
 mod:Mod K mg base
 bs:∀ b o,base.get? b=some o->s.heap.get? b=some o/\H b=none
 bsz:base.objs.size<=s.heap.objs.size
 funs:s.heap.FunFrames base outer
 frf:∀ b∈frs outer,H b=none
 hok:HOk P w H s.heap
 bare:AllBare s.gens
 tab:H TabP=some (.tbl TabQ)
noncomputable def CE (outer:List Env) (P:Program) (w:World) (H:Hp) (s:Shared) (Q:VK) (u:Value) (s':Shared):Prop :=
 ∃ v H',s'.os=s.os/\AllBare s'.gens/\Un (frs outer) [] H H' s.heap s'.heap/\HOk P w H' s'.heap/\RelV v u/\Q v H'
noncomputable def CR (CX:CXT) (outer:List Env) (P:Program) (w:World) (H:Hp) (s:Shared) (Q:VK) (E:XK) (r:Result) (s':Shared):Prop :=
 match r with
 |.ok (.ret u)=>CE outer P w H s Q u s'
 |.ok _=>False
 |.error e=>CX outer H s E e s'
structure FnOk (P:Program) (w:World) (K:PySem.W.Frag) (mg:Str->Option Value) (base:Heap) (CX:CXT) (k:Nat) (f:Addr) (fd:FuncData) (ps:List Str) (sp:Sp):Prop where
 len:∀ vs H Q E,sp vs H Q E->vs.length=ps.length
 run:∀ (A:Around) (outer:List Env) (s:Shared) (H:Hp) (args:Args) (us:List Value) (vs:List V) (Q:VK) (E:XK),Room k A->Env0 P w K mg base A outer s H->BindsTo s fd args (ps.zip us)->Vals vs us->sp vs H Q E ->
  codeAny (model P w) A (.call (.ref f) args) (CR CX outer P w H s Q E) s
theorem FnOk.mono {P:Program}{w:World}{K:PySem.W.Frag}{mg:Str->Option Value}{base:Heap}{CX:CXT}{j k:Nat}{f:Addr}{fd:FuncData}{ps:List Str}{sp:Sp} (F:FnOk P w K mg base CX j f fd ps sp) (h:j<=k) :
  FnOk P w K mg base CX k f fd ps sp:=⟨F.len,fun A outer s H args us vs Q E hr=>F.run A outer s H args us vs Q E (hr.mono h)⟩
theorem FnOk.imp {P:Program}{w:World}{K:PySem.W.Frag}{mg:Str->Option Value}{base:Heap}{CX:CXT}{k:Nat}{f:Addr}{fd:FuncData}{ps:List Str}{sp sp':Sp} (F:FnOk P w K mg base CX k f fd ps sp)
  (h:∀ vs H Q E,sp' vs H Q E->sp vs H Q E):FnOk P w K mg base CX k f fd ps sp' :=
 ⟨fun vs H Q E q=>F.len vs H Q E (h _ _ _ _ q),fun A outer s H args us vs Q E hr he hb hv hs=>F.run A outer s H args us vs Q E hr he hb hv (h _ _ _ _ hs)⟩
theorem Env0.in1 {P:Program}{w:World}{K:PySem.W.Frag}{mg:Str->Option Value}{base:Heap}{A:Around}{outer:List Env}{s:Shared}{H:Hp} (e:Env0 P w K mg base A outer s H) :
  Env0 P w K mg base A.in1 outer s H:=⟨e.frames,e.mod,e.bs,e.bsz,e.funs,e.frf,e.hok,e.bare,e.tab⟩
section
variable {X:Cx}{pins:List (Addr×Obj)}{σ:St}{H:Hp}{s s':Shared}
theorem Inv.env0 (I:Inv X pins σ H s):Env0 X.prog X.w X.K X.mg X.base X.A X.stack s H :=
 ⟨I.ok.frames,I.ok.mod,I.bs,Nat.le_trans I.ok.bsz I.sz,I.stack,I.stkFree,I.hok,I.bare,I.base.tbls _ _ I.ok.tab⟩
theorem Inv.after {Q:VK}{u:Value} (I:Inv X pins σ H s) (h:CE X.stack X.prog X.w H s Q u s'):EP X pins σ Q u s':=by
 obtain⟨v,H',os,bare,un,hok,r,q⟩:=h;obtain⟨hh,g,d,t,os'⟩:=s';obtain rfl:os'=s.os:=os;exact⟨v,H',I.call (h':=hh) (g':=g) (d':=d) (t':=t) (ch:=[]) un hok bare (fun b z=>absurd z (by simp)),r,q⟩
end
noncomputable def tCall (sp:Sp) (dvs:List V) (E:XK) (t:TA):TE:=fun σ H Q=>t σ H fun vs H1=>sp (vs++dvs) H1 Q E
noncomputable def Binds (K:PySem.W.Frag) (fd:FuncData) (ps:List Str) (ds:List Value):Prop :=
 ∀ (s:Shared) (us:List Value),K.In s.heap->(us++ds).length=ps.length->BindsTo s fd ⟨us,[]⟩ (ps.zip (us++ds))
theorem Binds.all {K:PySem.W.Frag}{fd:FuncData}{ps:List Str} (h:∀ us:List Value,us.length=ps.length->bindArgs fd ⟨us,[]⟩=pure (ps.zip us)):Binds K fd ps []:=fun s us _ hl=>by
 rw[List.append_nil] at hl ⊢;exact .of_eq (h us hl)
noncomputable def Passes (CX:CXT) (X:Cx) (E:XK):Prop:=∀ (pins:List (Addr×Obj)) (σ:St) (H:Hp) (s:Shared) (e:Value) (s':Shared),Inv X pins σ H s->CX X.stack H s E e s'->X.xe e s'
section
variable {X:Cx}{CX:CXT}{k:Nat}{f C:Addr}{fd:FuncData}{ps:List Str}{sp:Sp}{dvs:List V}{ds:List Value}{E:XK}{x m:Str}{p pos apos:Pos}{e o:Expr}{es:List Expr}{ta:TE}{t:TA}
theorem run_fn {pins:List (Addr×Obj)}{σ:St}{H:Hp}{s:Shared}{Q:VK}{us:List Value}{vs:List V} (F:FnOk X.prog X.w X.K X.mg X.base CX k f fd ps sp) (hr:Room k X.A) (hb:Binds X.K fd ps ds) (hd:Vals dvs ds) (hx:Passes CX X E)
  (I:Inv X pins σ H s) (r:Vals vs us) (h:sp (vs++dvs) H Q E):wpAny (model X.prog X.w) X.A (call (.ref f) us) (EP X pins σ Q) X.xe s:=by
 have r2:Vals (vs++dvs) (us++ds):=r.append hd;have hl:(us++ds).length=ps.length:=by rw[<- r2.length];exact F.len _ _ _ _ h
 refine wpAny_call (codeAny_mono (F.run X.A X.stack s H ⟨us,[]⟩ (us++ds) (vs++dvs) Q E hr I.env0 (hb s us I.kIn hl) r2 h) fun r s' hq=>?_)
 cases r with
 |error e=>exact hx pins σ H s e s' I hq
 |ok fl =>
  cases fl with
  |ret u=>exact I.after hq
  |next=>exact False.elim hq
  |brk=>exact False.elim hq
  |cont=>exact False.elim hq
theorem pe_call (F:FnOk X.prog X.w X.K X.mg X.base CX k f fd ps sp) (hr:Room k X.A) (hg:Gl X x) (hm:X.mg x=some (.ref f)) (hk:PySem.W.keepIn X.K (.ref f)=true) (hb:Binds X.K fd ps ds) (hd:Vals dvs ds) (hx:Passes CX X E)
  (ha:PA X (e::es) t) (hdb:(x==("__debug__":Str))=false:=by decide) (he:starEach (e::es) X.env=(false,eval e X.env)::starEach es X.env:=by rfl) (hpl:(backTo pos (starEach es X.env)).any (·.1)=false:=by rfl) :
  PE X (.Call (.Name x p) (e::es) [] pos) (tCall sp dvs E t):=by
 intro pins s σ H Q I h;refine wpAny_Call_Name_kw (ld_glob I hg hm ?_ hdb);refine PySem.W.callWith_K (h₀:=X.base) I.ok.mod.kin hk (thn (ha pos pins s σ H _ I h) fun us s1 ⟨vs,H1,I1,r,q⟩=>⟨I1.kIn,?_⟩) he hpl
 exact run_fn F hr hb hd hx I1 r q
structure Mk (K:PySem.W.Frag) (C f:Addr):Prop where
 makes:PySem.W.makesIn K C=true
 init:PySem.W.findIn K (.ref C) "__init__"=some (some (.ref f))
 fn:PySem.W.isFn K (.ref f)=true
 kp:PySem.W.keepIn K (.ref C)=true
end
section
variable {X:Cx}{CX:CXT}{k:Nat}{f C:Addr}{fd:FuncData}{ps ks:List Str}{sp:Sp}{E:XK}{x m:Str}{p pos apos kpos:Pos}{e o:Expr}{es:List Expr}{kws:List Keyword}{te ta:TE}{t tk:TA}{nm:Option Str}
structure KBinds (K:PySem.W.Frag) (fd:FuncData) (ps ks:List Str) (g:List Value->List Value->List Value) (gV:List V->List V->List V):Prop where
 to:∀ (s:Shared) (us ws:List Value),K.In s.heap->(g us ws).length=ps.length->BindsTo s fd ⟨us,ks.zip ws⟩ (ps.zip (g us ws))
 rel:∀ {vs:List V}{us:List Value}{zs:List V}{ws:List Value},Vals vs us->Vals zs ws->Vals (gV vs zs) (g us ws)
variable {g:List Value->List Value->List Value}{gV:List V->List V->List V}
end
structure FnScope (N P:List Str) (sc:Scope):Prop where
 kind:sc.kind=.function
 co:sc.isCoroutine=false
 gen:sc.isGenerator=false
 nd:N.Nodup
 pre:N.take P.length=P
 par:∀ x∈P,sc.names.lookup x=some .local\/sc.names.lookup x=some .cell
 nofree:∀ y∈sc.names,y.2≠.free
theorem bindL_out {kindOf:Str->Option NameKind}{x:Str}:∀ {binds:List (Str×Value)}{m:Str->Option Value},(∀ v,(x,v)∉binds)->bindL kindOf binds m x=m x
 |[],_,_=>rfl
 |(n,v)::r,m,h=>by
  unfold bindL;rw[bindL_out fun w hw=>h w (List.mem_cons_of_mem _ hw)]
  split
  ·have:x≠n:=by rintro rfl;exact h v List.mem_cons_self
   simp[this]
  ·rfl
theorem bindC_out {kindOf:Str->Option NameKind}{x:Str}:∀ {binds:List (Str×Value)}{m:Str->Option Value},(∀ v,(x,v)∉binds)->bindC kindOf binds m x=m x
 |[],_,_=>rfl
 |(n,v)::r,m,h=>by
  unfold bindC;rw[bindC_out fun w hw=>h w (List.mem_cons_of_mem _ hw)]
  split
  ·rfl
  ·have:x≠n:=by rintro rfl;exact h v List.mem_cons_self
   simp[this]
theorem bindL_get {kindOf:Str->Option NameKind}{x:Str}{v:Value}:∀ {P:List Str}{vs:List Value}{i:Nat}{m:Str->Option Value},P.Nodup->P[i]?=some x->vs[i]?=some v->kindOf x=some .local ->
  bindL kindOf (P.zip vs) m x=some v
 |[],_,_,_,_,h,_,_=>by simp at h
 |_::_,[],_,_,_,_,h,_=>by simp at h
 |p::P,w::vs,0,m,nd,h1,h2,hk=>by
  simp at h1 h2;subst h1;subst h2;show bindL kindOf ((p,w)::P.zip vs) m p=_;unfold bindL;rw[bindL_out fun v hv=>(List.nodup_cons.mp nd).1 (List.of_mem_zip hv).1,if_pos hk]
  simp
 |p::P,w::vs,i+1,m,nd,h1,h2,hk=>by
  show bindL kindOf ((p,w)::P.zip vs) m x=_;unfold bindL;exact bindL_get (i:=i) (List.nodup_cons.mp nd).2 (by simpa using h1) (by simpa using h2) hk
theorem bindC_get {kindOf:Str->Option NameKind}{x:Str}{v:Value}:∀ {P:List Str}{vs:List Value}{i:Nat}{m:Str->Option Value},P.Nodup->P[i]?=some x->vs[i]?=some v->kindOf x≠some .local ->
  bindC kindOf (P.zip vs) m x=some v
 |[],_,_,_,_,h,_,_=>by simp at h
 |_::_,[],_,_,_,_,h,_=>by simp at h
 |p::P,w::vs,0,m,nd,h1,h2,hk=>by
  simp at h1 h2;subst h1;subst h2;show bindC kindOf ((p,w)::P.zip vs) m p=_;unfold bindC;rw[bindC_out fun v hv=>(List.nodup_cons.mp nd).1 (List.of_mem_zip hv).1,if_neg hk]
  simp
 |p::P,w::vs,i+1,m,nd,h1,h2,hk=>by
  show bindC kindOf ((p,w)::P.zip vs) m x=_;unfold bindC;exact bindC_get (i:=i) (List.nodup_cons.mp nd).2 (by simpa using h1) (by simpa using h2) hk
noncomputable def start (N:List Str) (vs:List V):St:=vs.map some++List.replicate (N.length-vs.length) none
noncomputable def cxOf (CX:CXT) (P:Program) (w:World) (K:PySem.W.Frag) (mg:Str->Option Value) (base:Heap) (N:List Str) (qual:Str) (scope:Scope) (f:Addr) (cd:Value) (A:Around) (outer:List Env) (s:Shared) (H:Hp) (E:XK):Cx where
 prog:=P
 w:=w
 K:=K
 mg:=mg
 base:=base
 A:=A.deeper (envOfC qual scope s.heap.objs.size f cd)
 N:=N
 s₀:=s
 H₀:=H
 env:=envOfC qual scope s.heap.objs.size f cd
 outer:=outer
 stack:=envOfC qual scope s.heap.objs.size f cd::outer
 ex:=[]
 calm:=true
 fn:=fun _=>true
 pn:=[]
 xe:=fun e s'=>wpAny (model P w) (A.deeper (envOfC qual scope s.heap.objs.size f cd)) (leaving (envOfC qual scope s.heap.objs.size f cd) e) (fun _ s''=>CX outer H s E e s'') (fun e' s''=>CX outer H s E e' s'') s'
theorem cell_has {sc:Scope}{n:Nat}{x:Str} (h:sc.names.lookup x=some .cell):∃ c,(cellsFrom n sc.names []).lookup x=some c:=by
 have q:=PySem.W.cellsFrom_some sc.names n [] (.inl h);exact Option.isSome_iff_exists.mp q
theorem inv_start {CX:CXT}{P:Program}{w:World}{K:PySem.W.Frag}{mg:Str->Option Value}{base:Heap}{N ps:List Str}{qual:Str}{scope:Scope}{f:Addr}{cd:Value}{A:Around}{outer:List Env}{s s1:Shared}{H:Hp}{E:XK}{us:List Value}{vs:List V}
  (S:FnScope N ps scope) (hd:A.handled=none) (e0:Env0 P w K mg base A outer s H) (hl:vs.length=ps.length) (r:Vals vs us)
  (x:InCallC s s.heap.objs.size (bindL (envOfC qual scope s.heap.objs.size f cd).kindOf (ps.zip us) fun _=>none) (cellsFrom (s.heap.objs.size+1) scope.names []) (bindC (envOfC qual scope s.heap.objs.size f cd).kindOf (ps.zip us) fun _=>none) s1) :
  Inv (cxOf CX P w K mg base N qual scope f cd A outer s H E) [] (start N vs) H s1:=by
 have hpl:ps.length<=N.length:=by have:=congrArg List.length S.pre;rw[List.length_take] at this;omega
 obtain⟨h1,tk,rfl,hk⟩:=x.done;have noA:∀ b:Addr,b∉(cxOf CX P w K mg base N qual scope f cd A outer s H E).ex:=fun b z=>absurd (show b∈([]:List Addr) from z) (by simp)
 refine⟨⟨e0.mod,S.kind,rfl,rfl,Nat.le_refl _,fun y z c h1 h2=>?_,fun y hy=>?_,fun y c _ h=>?_,fun _=>hd,Around.frames_deeper e0.frames,.inr ⟨rfl,rfl⟩,fun b z=>absurd z (noA b),e0.bs,e0.bsz,fun b _ _=>noA b,fun b z=>absurd z (noA b),e0.funs,e0.frf,e0.tab⟩,
  rfl,e0.bare,Un.kept hk,⟨_,x.toInCall.ns,fun i y v h1 h2 h3=>?_⟩,fun y c h=>⟨_,x.cell y c h⟩,e0.hok.fresh (Nat.le_refl _),fun y c h=>?_,fun p hp=>absurd (show p∈([]:List (Addr×Obj)) from hp) (by simp),e0.hok.kept hk,?_⟩
 ·exact name_of_addr x.apart (PySem.mem_of_lookup h1) (PySem.mem_of_lookup h2)
 ·have hy:scope.names.lookup y=some .cell\/scope.names.lookup y=some .free:=hy
  rcases hy with hy | hy
  ·exact cell_has hy
  ·exact absurd rfl (S.nofree _ (PySem.mem_of_lookup hy))
 ·exact Nat.le_of_lt (x.above y c (PySem.mem_of_lookup h))
 ·have hi:i<vs.length:=by
   unfold start at h2
   by_cases hi:i<vs.length
   ·exact hi
   ·rw[List.getElem?_append_right (by simpa using hi)] at h2
    rw[List.getElem?_replicate] at h2
    split at h2 <;> cases h2
  have ha:vs[i]?=some v:=by
   unfold start at h2;rw[List.getElem?_append_left (by simpa using hi),List.getElem?_map] at h2
   cases e:vs[i]? with
   |none=>rw[e] at h2;cases h2
   |some a=>rw[e] at h2;cases h2;rfl
  obtain⟨u,hu,rv⟩:=r.get ha
  have hp:ps[i]?=some y:=by
   rw[<- S.pre,List.getElem?_take_of_lt (by omega)];exact h1
  have ndP:ps.Nodup:=by rw[<- S.pre];exact S.nd.sublist (List.take_sublist _ _)
  refine⟨u,rv,?_⟩
  rcases S.par y (List.mem_of_getElem? hp) with k | k
  ·exact .inl ⟨k,bindL_get ndP hp hu k⟩
  ·obtain⟨c,e⟩:=cell_has (n:=s.heap.objs.size+1) k
   refine .inr ⟨.inl k,c,e,?_⟩;have q:=x.cell y c e;rw[bindC_get ndP hp hu (by show scope.names.lookup y≠_;rw[k];decide)] at q
   exact q
 ·exact e0.hok.fresh (Nat.le_of_lt (x.above y c (PySem.mem_of_lookup h)))
 ·unfold start
  show _=N.length;rw[List.length_append,List.length_map,List.length_replicate];omega
theorem fn_of {CX:CXT}{P:Program}{w:World}{K:PySem.W.Frag}{mg:Str->Option Value}{base:Heap}{k:Nat}{f:Addr}{name qual:Str}{params:Arguments}{body:List Stmt}{scope:Scope}{dV kV doc pm cdv ct oc:Value}{an od:Option Addr}
  {osl:Array (Option Value)}{N ps:List Str}{sp:Sp} (lk:K.lookup f=some ⟨oc,od,.func (PySem.W.fnOf name qual params body scope dV kV doc pm an cdv ct),osl⟩) (hcd:PySem.W.codeIn K cdv qual=true) (S:FnScope N ps scope)
  (len:∀ vs H Q E,sp vs H Q E->vs.length=ps.length)
  (hbody:∀ (A:Around) (outer:List Env) (s:Shared) (H:Hp) (vs:List V) (Q:VK) (E:XK),Room k (A.deeper (envOfC qual scope s.heap.objs.size f cdv))->sp vs H Q E ->
   ∃ t,PSs (cxOf CX P w K mg base N qual scope f cdv A outer s H E) body t/\t {nx:=fun _ H'=>Q .non H',rt:=Q} (start N vs) H) :
  FnOk P w K mg base CX (k+1) f (PySem.W.fnOf name qual params body scope dV kV doc pm an cdv ct) ps sp:=by
 refine⟨len,fun A outer s H args us vs Q E hr e0 hb r hsp=>?_⟩
 have hl:=len _ _ _ _ hsp;have KX:K.In s.heap:=e0.mod.kin.keeps fun b o e=>(e0.bs b o e).1
 have lim:s.heap.NoLimit:=e0.mod.nolimit.keeps fun b o e=>(e0.bs b o e).1
 have hkind:∀ y∈ps.zip us,scope.names.lookup y.1=some .local\/(scope.names.lookup y.1=some .cell/\((cellsFrom (s.heap.objs.size+1) scope.names []).lookup y.1).isSome=true):=fun⟨n,v⟩ hy=>by
  rcases S.par n (List.of_mem_zip hy).1 with q | q
  ·exact .inl q
  ·exact .inr ⟨q,PySem.W.cellsFrom_some _ _ _ (.inl q)⟩
 refine codeAny_call_function hr.depth (KX _ _ lk) rfl S.co S.gen rfl (PySem.W.codeRec_of KX hcd) (hb _ _ _ _ ?_);refine wpAny_newFunctionEnv_cells S.kind hkind fun env he s1 x=>?_
 subst he;refine⟨lim.keeps x.toInCall.keep,codeAny_func ?_⟩;obtain⟨t,ht,hq⟩:=hbody A outer s H vs Q E (hr.deeper _) hsp;have I:Inv (cxOf CX P w K mg base N qual scope f cdv A outer s H E) [] (start N vs) H s1:=inv_start S hr.hd e0 hl r x;refine wpAny_mono (ht [] s1 (start N vs) H _ I hq) (fun fl s' hs=>?_) fun e s' hs=>hs
 have fin:∀ {σ':St}{H':Hp}{v:V}{u:Value},Inv (cxOf CX P w K mg base N qual scope f cdv A outer s H E) [] σ' H' s'->RelV v u->Q v H'->CE outer P w H s Q u s' :=
  fun {σ' H' v u} J rv q=>⟨v,H',J.os,J.bare,J.base,J.hok,rv,q⟩
 cases fl with
 |ret u =>
  obtain⟨v,σ',H',J,rv,q⟩:=hs;exact fin J rv q
 |next =>
  obtain⟨σ',H',J,q⟩:=hs;exact fin (v:=V.non) (u:=Value.none) J rfl q
 |brk =>
  obtain⟨_,_,_,q⟩:=hs;exact False.elim q
 |cont =>
  obtain⟨_,_,_,q⟩:=hs;exact False.elim q
end L2
namespace L2
open PySem PySem.Spec PyProof.Rows
section
variable {X:Cx}{x:Str}{p pos:Pos}{e:Expr}{es:List Expr}{t:TA}{id T:String}{r:List V->Hp->VK->Prop}
noncomputable def tCB (r:List V->Hp->VK->Prop) (t:TA):TE:=fun σ H Q=>t σ H fun vs H1=>r vs H1 Q
theorem pe_callB (hc:CallR X (.builtin id) r) (hg:Gl X x) (hm:X.mg x=none) (hv:bootBuiltins x=some (.builtin id)) (ha:PA X (e::es) t) (hn:x≠"__name__":=by decide) (hdb:(x==("__debug__":Str))=false:=by decide)
  (he:starEach (e::es) X.env=(false,eval e X.env)::starEach es X.env:=by rfl) (hpl:(backTo pos (starEach es X.env)).any (·.1)=false:=by rfl):PE X (.Call (.Name x p) (e::es) [] pos) (tCB r t):=by
 intro pins s σ H Q I h;refine wpAny_Call_Name_kw (ld_blt I hg hm hv ?_ hn hdb);exact PyProof.Rows.callWith_builtin1 (thn (ha pos pins s σ H _ I h) fun us s1 ⟨vs,H1,I1,r1,q1⟩=>hc pins s1 σ H1 vs us Q I1 r1 q1) he hpl
theorem pe_callTy (hc:CallR X (.type T) r) (hg:Gl X x) (hm:X.mg x=none) (hv:bootBuiltins x=some (.type T)) (ha:PA X (e::es) t) (hn:x≠"__name__":=by decide) (hdb:(x==("__debug__":Str))=false:=by decide)
  (he:starEach (e::es) X.env=(false,eval e X.env)::starEach es X.env:=by rfl) (hpl:(backTo pos (starEach es X.env)).any (·.1)=false:=by rfl):PE X (.Call (.Name x p) (e::es) [] pos) (tCB r t):=by
 intro pins s σ H Q I h;refine wpAny_Call_Name_kw (ld_blt I hg hm hv ?_ hn hdb);exact PyProof.Rows.callWith_type1 (thn (ha pos pins s σ H _ I h) fun us s1 ⟨vs,H1,I1,r1,q1⟩=>hc pins s1 σ H1 vs us Q I1 r1 q1) he hpl
end
end L2
namespace HT
open PySem PyProof.Rows
section
open PySem.SeqAt
open PySem.AutoSeq1 (wpAny_loadPart')
open PySem.MeetsSeq PySem.MeetsSeq2 PySem.MeetsSeq3
end
section
variable {prog:Program}{w:World}{A:Around}{E:Value->Shared->Prop}{s:Shared}
noncomputable def sIx (n d:Nat):Option Int->Nat
 |none=>d
 |some v=>if v<0 then (v+(n:Int)).toNat else min v.toNat n
theorem sIx_le (n d:Nat) (hd:d<=n) (o:Option Int):sIx n d o<=n:=by
 cases o with
 |none=>exact hd
 |some v =>
  show (if v<0 then (v+(n:Int)).toNat else min v.toNat n)<=n
  by_cases hv:v<0
  ·rw[if_pos hv];omega
  ·rw[if_neg hv];exact Nat.min_le_right _ _
theorem clip_eq (v:Int) (n d:Nat):(if v<0 then max (v+(n:Int)) 0 else min v (n:Int))=((sIx n d (some v):Nat):Int):=by
 show (if v<0 then max (v+(n:Int)) 0 else min v (n:Int))=(((if v<0 then (v+(n:Int)).toNat else min v.toNat n):Nat):Int)
 by_cases hv:v<0
 ·simp only[if_pos hv];omega
 ·simp only[if_neg hv];omega
theorem adjust_gen (lo hi:Option Int) (n:Nat):Builtin.Slice.sliceAdjust lo hi 1 (n:Int)=(((sIx n 0 lo:Nat):Int),((sIx n n hi:Nat):Int)):=by
 have h1:¬ ((1:Int)<0):=by omega
 unfold Builtin.Slice.sliceAdjust;simp only[h1,if_false];refine Prod.ext ?_ ?_
 ·cases lo with
  |none=>rfl
  |some v=>exact clip_eq v n 0
 ·cases hi with
  |none=>rfl
  |some v=>exact clip_eq v n n
theorem places_gen (i j:Nat):Builtin.Slice.slicePlaces (i:Int) (j:Int) 1=j-i:=by
 unfold Builtin.Slice.slicePlaces;have h1:(1:Int) > 0:=by omega
 simp only[h1,if_true,Int.ediv_one]
 split <;> omega
theorem slicePart_ {v:Value}{o:Option Int}{Q:Option Int->Shared->Prop} (p:IsPart v o) (h:Q o s):wpAny (model prog w) A (Builtin.Slice.slicePartIndex v) Q E s:=by
 cases p with
 |none=>exact slicePart_none h
 |int i t=>exact slicePart_int h
theorem sliceApplied_gen {sl:Addr}{vl vu:Value}{lo hi:Option Int}{n:Nat}{Q:Int×Int×Nat->Shared->Prop} (hs:s.heap.IsSliceOf sl vl vu .none) (pl:IsPart vl lo) (pu:IsPart vu hi)
  (h:Q (((sIx n 0 lo:Nat):Int),1,sIx n n hi-sIx n 0 lo) s):wpAny (model prog w) A (Builtin.Slice.sliceApplied (.ref sl) (pure (n:Int))) Q E s:=by
 obtain⟨os,hos,hcs,hds⟩:=id hs;unfold Builtin.Slice.sliceApplied Builtin.Slice.sliceFields;refine wpAny_bind (wpAny_bind (wpAny_field hos hds (x:=vl) rfl (wpAny_bind (wpAny_field hos hds (x:=vu) rfl (wpAny_bind (wpAny_field hos hds (x:=.none) rfl (wpAny_pure ?_)))))));refine wpAny_bind (slicePart_none ?_);show wpAny _ _ (if ((1:Int)==0)=true then _ else _) _ _ s;rw[if_neg (by decide)]
 refine wpAny_bind (slicePart_ pl (wpAny_bind (slicePart_ pu (wpAny_bind (wpAny_pure ?_)))));show wpAny _ _ (match Builtin.Slice.sliceAdjust lo hi 1 (n:Int) with | (lo,hi)=>pure (lo,(1:Int),Builtin.Slice.slicePlaces lo hi 1)) _ _ s
 rw[adjust_gen lo hi n];show wpAny _ _ (pure (((sIx n 0 lo:Nat):Int),(1:Int),Builtin.Slice.slicePlaces ((sIx n 0 lo:Nat):Int) ((sIx n n hi:Nat):Int) 1)) _ _ s;rw[places_gen];exact wpAny_pure h
theorem pick_gen (xs:Array Value) (i k:Nat):((List.range k).filterMap fun (m:Nat)=>xs[((i:Int)+(m:Int)*1).toNat]?).toArray=((xs.toList.drop i).take k).toArray:=by
 have e:(fun (m:Nat)=>xs[((i:Int)+(m:Int)*1).toNat]?)=fun m=>xs[i+m]?:=by
  funext m
  have:((i:Int)+(m:Int)*1).toNat=i+m:=by omega
  rw[this]
 rw[e];have:=pick_run xs i k;rw[List.filterMap_map] at this;have e2:((fun x=>xs[x]?) ∘ fun x=>i+x)=fun m=>xs[i+m]?:=rfl
 rw[e2] at this;rw[this]
theorem getItem_tuple_cut {t sl:Addr}{items:Array Value}{vl vu:Value}{lo hi:Option Int}{Q:Value->Shared->Prop} (ht:IsTup s.heap t items) (hs:s.heap.IsSliceOf sl vl vu .none) (pl:IsPart vl lo) (pu:IsPart vu hi)
  (hw:¬ (sIx items.size 0 lo=0/\sIx items.size items.size hi=items.size))
  (h:Q (.ref s.heap.objs.size) {s with heap:=s.heap.push {cls:=.type "tuple",data:=.seq ((items.toList.drop (sIx items.size 0 lo)).take (sIx items.size items.size hi-sIx items.size 0 lo)).toArray}})
  (hsz:items.size<=sizeLine):wpAny (model prog w) A (getItem (.ref t) (.ref sl)) Q E s:=by
 have htake:sizeOk (.seq ((items.toList.drop (sIx items.size 0 lo)).take (sIx items.size items.size hi-sIx items.size 0 lo)).toArray):=by
  show ((items.toList.drop (sIx items.size 0 lo)).take (sIx items.size items.size hi-sIx items.size 0 lo)).toArray.size<=sizeLine;rw[List.size_toArray,List.length_take,List.length_drop,Array.length_toList];omega
 have hj:sIx items.size items.size hi<=items.size:=sIx_le _ _ (Nat.le_refl _) hi;obtain⟨os,hos,hcs,hds⟩:=id hs;have hTs:s.TypeIs (.ref sl) "slice":=⟨os,hos,hcs⟩;unfold getItem
 try with_reducible refine wpAny_holding ?_
 first | refine wpAny_bind (wpAny_pure ?_) | skip
 refine wpAny_bind (wpAny_sequenceKey ht.typeIs (by decide) ?_)
 refine wpAny_bind (wpAny_callSpecial?_slot (name:=Str.ofString "__getitem__") ht.typeIs PyProof.Rows.slot_tuple_getitem
  (wpAny_call_entry PyProof.Rows.slot_tuple_getitem ht.typeIs entry_tuple_getitem ?_ (args_tuple_getitem _ _)))
 show wpAny _ _ (Builtin.Tuple.tupleItemsOf (.ref t) >>= _) _ _ s;refine wpAny_bind (tupleItemsOf_ ht ?_);refine wpAny_bind (wpAny_typeOf hTs ?_);rw[if_pos (by decide)]
 refine wpAny_bind (sliceApplied_gen hs pl pu ?_)
 have hno:¬ ((((sIx items.size 0 lo:Nat):Int)==0&&(1:Int)==1&&(sIx items.size items.size hi-sIx items.size 0 lo)==items.size)=true):=by
  intro q;rw[Bool.and_eq_true,Bool.and_eq_true] at q;have q1:((sIx items.size 0 lo:Nat):Int)=0:=eq_of_beq q.1.1;have q2:sIx items.size items.size hi-sIx items.size 0 lo=items.size:=eq_of_beq q.2;exact hw ⟨by omega,by omega⟩
 show wpAny _ _ (if (((sIx items.size 0 lo:Nat):Int)==0&&(1:Int)==1&&(sIx items.size items.size hi-sIx items.size 0 lo)==items.size)=true then _ else _) _ _ s;rw[if_neg hno,pick_gen]
 first
  |exact wpAny_bind (m:=Builtin.Tuple.tupleExact _) (wpAny_newObj_type (wpAny_pure ⟨_,rfl,wpAny_pure h⟩) htake)
  |exact wpAny_bind (m:=Builtin.Tuple.tupleExact _) (wpAny_newObj_type (wpAny_bind (wpAny_pure (wpAny_pure ⟨_,rfl,wpAny_pure h⟩))) htake)
  |exact wpAny_bind (wpAny_bind (m:=Builtin.Tuple.tupleExact _) (wpAny_newObj_type (wpAny_pure (wpAny_pure ⟨_,rfl,wpAny_pure h⟩)) htake))
  |exact wpAny_bind (wpAny_bind (m:=Builtin.Tuple.tupleExact _) (wpAny_newObj_type (wpAny_pure ⟨_,rfl,wpAny_pure h⟩) htake))
end
end HT
namespace L2
open PySem PySem.Spec PyProof.Rows
noncomputable abbrev TO:=St->Hp->(Option Int->Hp->Prop)->Prop
noncomputable def PO (X:Cx) (e:Option Expr) (t:TO):Prop :=
 ∀ (pins:List (Addr×Obj)) (s:Shared) (σ:St) (H:Hp) (Q:Option Int->Hp->Prop),Inv X pins σ H s->t σ H Q ->
  wpAny (model X.prog X.w) X.A (evalPart e X.env) (fun u s'=>∃ o H',Inv X pins σ H' s'/\IsPart u o/\Q o H') X.xe s
noncomputable def tNoPart:TO:=fun _ H Q=>Q none H
noncomputable def tPart (t:TE):TO:=fun σ H Q=>t σ H fun x H1=>∃ i,x=.int i/\Q (some i) H1
section
variable {X:Cx}{e:Expr}{te:TE}{lo hi:Option Expr}{tl th:TO}{pos p2:Pos}
theorem po_none:PO X none tNoPart:=by
 intro pins s σ H Q I h;rw[evalPart_none];exact wpAny_pure ⟨none,H,I,.none,h⟩
theorem po_some (h:PE X e te):PO X (some e) (tPart te):=by
 intro pins s σ H Q I hw;rw[evalPart_some];refine thn (h pins s σ H _ I hw) fun u s1 ⟨x,H1,I1,r1,q1⟩=>?_
 obtain⟨i,rfl,q⟩:=q1;obtain⟨t,rfl⟩:=r1;exact⟨some i,H1,I1,.int i t,q⟩
noncomputable def SlR (X:Cx) (r:V->Option Int->Option Int->Hp->VK->Prop):Prop :=
 ∀ (pins:List (Addr×Obj)) (s:Shared) (σ:St) (H:Hp) (x:V) (v vl vu:Value) (lo hi:Option Int) (sl:Addr) (Q:VK),Inv X pins σ H s->RelV x v->s.heap.IsSliceOf sl vl vu .none->IsPart vl lo->IsPart vu hi->r x lo hi H Q ->
  ∃ T id,typeLookup (.type T) "__getitem__"=pure (some (.builtin id)) ∧ s.TypeIs v T ∧ wpAny (model X.prog X.w) X.A (getItem v (.ref sl)) (EP X pins σ Q) X.xe s
theorem SlR.or {r r':V->Option Int->Option Int->Hp->VK->Prop} (h:SlR X r) (h':SlR X r'):SlR X (fun x lo hi H Q=>r x lo hi H Q\/r' x lo hi H Q):=by
 intro pins s σ H x v vl vu lo hi sl Q I rx hs pl pu q
 rcases q with q | q
 ·exact h pins s σ H x v vl vu lo hi sl Q I rx hs pl pu q
 ·exact h' pins s σ H x v vl vu lo hi sl Q I rx hs pl pu q
noncomputable def tSl (r:V->Option Int->Option Int->Hp->VK->Prop) (te:TE) (tl th:TO):TE:=fun σ H Q=>te σ H fun x H1=>tl σ H1 fun l H2=>th σ H2 fun u H3=>r x l u H3 Q
theorem pe_slice {r:V->Option Int->Option Int->Hp->VK->Prop} (hr:SlR X r) (he:PE X e te) (hl:PO X lo tl) (hu:PO X hi th):PE X (.Subscript e (.Slice lo hi none p2) pos) (tSl r te tl th):=by
 intro pins s σ H Q I h;refine Subscript_ (thn (he pins s σ H _ I h) fun v s1 ⟨x,H1,I1,r1,q1⟩=>?_)
 refine wpAny_Slice (thn (hl pins s1 σ H1 _ I1 q1) fun vl s2 ⟨l,H2,I2,pl,q2⟩=>thn (hu pins s2 σ H2 _ I2 q2) fun vu s3 ⟨u,H3,I3,pu,q3⟩=>?_)
 rw[evalPart_none];refine wpAny_pure ?_;have I4:Inv X pins σ H3 {s3 with heap:=s3.heap.push {cls:=.type "slice",data:=.fields #[vl,vu,.none]}}:=I3.kept (t':=s3.toks) fun b ob q=>Heap.get?_push_of_some _ q
 obtain⟨T,id,hT,ht,hg⟩:=hr pins {s3 with heap:=s3.heap.push {cls:=.type "slice",data:=.fields #[vl,vu,.none]}} σ H3 x v vl vu l u s3.heap.objs.size Q I4 r1 (Heap.IsSliceOf.new ..) pl pu q3
 show wpAny (model X.prog X.w) X.A (subscriptTail e (.Slice lo hi none p2) v (.ref s3.heap.objs.size)) (EP X pins σ Q) X.xe {s3 with heap:=s3.heap.push {cls:=.type "slice",data:=.fields #[vl,vu,.none]}}
 exact tail_any (ops:=[.ref s3.heap.objs.size,v]) ht hT hg (by with_unfolding_all rfl)
noncomputable def cutV (xs:List V) (lo hi:Option Int):List V:=(xs.drop (HT.sIx xs.length 0 lo)).take (HT.sIx xs.length xs.length hi-HT.sIx xs.length 0 lo)
theorem cutV_length (xs:List V) (lo hi:Option Int):(cutV xs lo hi).length<=xs.length:=by
 unfold cutV;rw[List.length_take,List.length_drop];omega
noncomputable def rSlT (K:PySem.W.Frag):V->Option Int->Option Int->Hp->VK->Prop:=fun x lo hi H Q=>∃ a xs,x=.ref a/\SqT K H a xs /\
 ¬ (HT.sIx xs.length 0 lo=0/\HT.sIx xs.length xs.length hi=xs.length)/\∀ p,H p=none->Q (.ref p) (upd H p (.tup (cutV xs lo hi)))
theorem sl_tup:SlR X (rSlT X.K):=by
 intro pins s σ H x v vl vu lo hi sl Q I rx hs pl pu h;obtain⟨a,xs,rfl,hx,hw,q⟩:=h;cases rx;obtain⟨its,r,ht,hz⟩:=I.tuple hx;have hlen:its.toArray.size=xs.length:=by rw[List.size_toArray];exact r.length.symm
 refine⟨"tuple",_,PyProof.Rows.slot_tuple_getitem.lookup,ht.typeIs,?_⟩;refine HT.getItem_tuple_cut ht hs pl pu (by rw[hlen];exact hw) ?_ (by rw[hlen];exact hz)
 rw[hlen];refine⟨.ref s.heap.objs.size,_,I.laid (t':=s.toks) (o:=.tup (cutV xs lo hi)) (fun b ob q=>Heap.get?_push_of_some _ q) (Nat.le_refl _) ?_,rfl,q _ (I.hok.fresh (Nat.le_refl _))⟩
 exact⟨Nat.le_trans (cutV_length xs lo hi) hz,_,(r.drop (HT.sIx xs.length 0 lo)).take (HT.sIx xs.length xs.length hi-HT.sIx xs.length 0 lo),IsTuN.new _ _⟩
end
end L2
namespace L2
open PySem PySem.Spec PyProof.Rows
noncomputable def ixN (n:Nat) (i:Int):Option Nat:=if 0<=i then (if i<n then some i.toNat else none) else if -(n:Int)<=i then some (i+n).toNat else none
noncomputable def atI {α:Type} (xs:List α) (i:Int):Option α:=(ixN xs.length i).bind fun j=>xs[j]?
theorem ixN_seq {n:Nat}{i:Int}{j:Nat} (h:ixN n i=some j):seqIndex? i n=some j/\j<n/\-(n:Int)<=i/\i<n:=by
 unfold ixN at h
 by_cases h0:0<=i
 ·rw[if_pos h0] at h
  by_cases h1:i<n
  ·rw[if_pos h1] at h
   have e:i.toNat=j:=Option.some.inj h;exact⟨by rw[seqIndex_of h0 h1,e],by omega,by omega,h1⟩
  ·rw[if_neg h1] at h;cases h
 ·rw[if_neg h0] at h
  by_cases h1:-(n:Int)<=i
  ·rw[if_pos h1] at h
   have e:(i+n).toNat=j:=Option.some.inj h;exact⟨by rw[seqIndex_neg (by omega) h1,e],by omega,h1,by omega⟩
  ·rw[if_neg h1] at h;cases h
theorem atI_get {α:Type}{xs:List α}{i:Int}{v:α} (h:atI xs i=some v):∃ j,seqIndex? i xs.length=some j/\xs[j]?=some v/\j<xs.length/\-(xs.length:Int)<=i/\i<xs.length:=by
 unfold atI at h;cases e:ixN xs.length i with
 |none=>rw[e] at h;cases h
 |some j =>
  rw[e] at h;obtain⟨h1,h2,h3,h4⟩:=ixN_seq e;exact⟨j,h1,h,h2,h3,h4⟩
noncomputable def PlainIx (b:Expr):Prop:=∀ o i,subscripted b false o i=operate [o,i] (getItem o i)
noncomputable def IxR (X:Cx) (r:R2):Prop :=
 ∀ (value slice:Expr) (pins:List (Addr×Obj)) (s:Shared) (σ:St) (H:Hp) (x y:V) (v u:Value) (Q:VK),Inv X pins σ H s->RelV x v->RelV y u->r x y H Q ->
  subscripted slice false v u=operate [v,u] (getItem v u)->wpAny (model X.prog X.w) X.A (subscriptTail value slice v u) (EP X pins σ Q) X.xe s
noncomputable def MtR (X:Cx) (id:String) (r:V->List V->Hp->VK->Prop):Prop :=
 ∀ (pins:List (Addr×Obj)) (s:Shared) (σ:St) (H:Hp) (x:V) (xs:List V) (v:Value) (us:List Value) (Q:VK),Inv X pins σ H s->RelV x v->Vals xs us->r x xs H Q ->
  wpAny (model X.prog X.w) X.A (call (.builtin id) (v::us)) (EP X pins σ Q) X.xe s
section
variable {X:Cx}{a b:Expr}{ta tb:TE}{pos:Pos}
theorem IxR.or {r r':R2} (h:IxR X r) (h':IxR X r'):IxR X (fun x y H Q=>r x y H Q\/r' x y H Q):=by
 intro value slice pins s σ H x y v u Q I rx ry q hs
 rcases q with q | q
 ·exact h value slice pins s σ H x y v u Q I rx ry q hs
 ·exact h' value slice pins s σ H x y v u Q I rx ry q hs
theorem MtR.or {id:String}{r r':V->List V->Hp->VK->Prop} (h:MtR X id r) (h':MtR X id r'):MtR X id (fun x xs H Q=>r x xs H Q\/r' x xs H Q):=by
 intro pins s σ H x xs v us Q I rx rs q
 rcases q with q | q
 ·exact h pins s σ H x xs v us Q I rx rs q
 ·exact h' pins s σ H x xs v us Q I rx rs q
theorem pe_ix {r:R2} (hr:IxR X r) (ha:PE X a ta) (hb:PE X b tb) (hs:PlainIx b):PE X (.Subscript a b pos) (tOp r ta tb):=by
 intro pins s σ H Q I h;exact Subscript_ (binT ha hb I h fun v u s2 x y H2 I2 rx ry q=>hr a b pins s2 σ H2 x y v u Q I2 rx ry q (hs _ _))
noncomputable def rIxL (K:PySem.W.Frag):R2:=fun x y H Q=>∃ p xs i v,x=.ref p/\y=.int i/\SqL K H p xs/\atI xs i=some v/\Q v H
noncomputable def rIxT (K:PySem.W.Frag):R2:=fun x y H Q=>∃ p xs i v,x=.ref p/\y=.int i/\SqT K H p xs/\atI xs i=some v/\Q v H
noncomputable def rIxS:R2:=fun x y H Q=>∃ z i c,x=.str z/\y=.int i/\z.length<=sizeLine/\atI z.cps.toList i=some c/\Q (.str ⟨#[c]⟩) H
theorem ix_list:IxR X (rIxL X.K):=by
 intro value slice pins s σ H x y v u Q I rx ry h hs;obtain⟨p,xs,i,z,rfl,rfl,hq,he,q⟩:=h;cases rx;obtain⟨t,rfl⟩:=ry;obtain⟨its,r,pl,hz⟩:=I.list hq;obtain⟨j,h1,h2,h3,h4,h5⟩:=atI_get he;obtain⟨w,ew,rw'⟩:=r.get h2;have hl:=r.length;have hn:=line63;have fin:EP X pins σ Q w s:=⟨z,H,I,rw',q⟩
 by_cases h0:0<=i
 ·have hj:i.toNat=j:=by
   rw[seqIndex_of h0 h5] at h1;exact Option.some.inj h1
  exact item_listR pl.isList h0 (by omega) (by rw[hj];simpa using ew) fin hs
 ·have hj:(i+(its.toArray.size:Int)).toNat=j:=by
   rw[seqIndex_neg (by omega) h4] at h1
   rw[List.size_toArray,<- hl];exact Option.some.inj h1
  exact subscriptTail_builtinR (x:=w) pl.isList.typeIs slot_list_getitem.lookup
   (wpAny_getItem_list_neg (Q:=fun r s'=>r=w/\EP X pins σ Q r s') pl.isList (by omega) (by rw[List.size_toArray] <;> omega) (by omega) (by rw[hj];simpa using ew) ⟨rfl,fin⟩) hs
theorem ix_tup:IxR X (rIxT X.K):=by
 intro value slice pins s σ H x y v u Q I rx ry h hs;obtain⟨p,xs,i,z,rfl,rfl,hq,he,q⟩:=h;cases rx;obtain⟨t,rfl⟩:=ry;obtain⟨its,r,pl,hz⟩:=I.tuple hq;obtain⟨j,h1,h2,h3,h4,h5⟩:=atI_get he;obtain⟨w,ew,rw'⟩:=r.get h2;have hl:=r.length;have hn:=line63;have fin:EP X pins σ Q w s:=⟨z,H,I,rw',q⟩;exact subscriptTail_builtinR (x:=w) pl.typeIs slot_tuple_getitem.lookup
  (getItem_tuple (j:=j) (Q:=fun r s'=>r=w/\EP X pins σ Q r s') pl (by omega) (by omega) (by rw[List.size_toArray,<- hl];exact h1) (by simpa using ew) ⟨rfl,fin⟩) hs
theorem ix_str:IxR X rIxS:=by
 intro value slice pins s σ H x y v u Q I rx ry h hs;obtain⟨z,i,c,rfl,rfl,hz,he,q⟩:=h;obtain⟨t,rfl⟩:=rx;obtain⟨t',rfl⟩:=ry;obtain⟨j,h1,h2,h3,h4,h5⟩:=atI_get he;have hl:z.cps.toList.length=z.length:=by simp[Str.length]
 rw[hl] at h1 h4 h5;have hn:=line63
 exact tail_any (typeIs_str s z t) slot_str_getitem.lookup (getItem_str (c:=c) (by
  have e1:decide (i < -(2 ^ 63:Int))=false:=decide_eq_false (by omega)
  have e2:decide (i>=2 ^ 63)=false:=decide_eq_false (by omega)
  rw[e1,e2,Bool.or_false]) (by rw[h1];simpa using h2) ⟨.str ⟨#[c]⟩,H,I.tok _,⟨_,rfl⟩,q⟩) hs
noncomputable def rIx (K:PySem.W.Frag):R2:=fun x y H Q=>rIxL K x y H Q\/rIxT K x y H Q\/rIxS x y H Q
theorem ix_seq:IxR X (rIx X.K):=ix_list.or (ix_tup.or ix_str)
theorem Inv.lst {pins:List (Addr×Obj)}{σ:St}{H:Hp}{s:Shared}{p:Addr}{xs:List V} (I:Inv X pins σ H s) (h:H p=some (.lst xs)) :
  ∃ (its:List Value) (n:Nat),Vals xs its ∧ s.heap.get? p=some {cls:=.type "list",data:=.seq its.toArray n} ∧ xs.length ≤ sizeLine:=by
 obtain⟨z,its,n,r,e⟩:=I.hok p _ h;exact⟨its,n,r,e,z⟩
theorem slice_bounds (lo hi:Option Int) (n:Nat):(sliceBounds lo hi none n).1=((HT.sIx n 0 lo:Nat):Int)/\(sliceBounds lo hi none n).2.1=((HT.sIx n n hi:Nat):Int)/\(sliceBounds lo hi none n).2.2=1:=by
 refine⟨?_,?_,rfl⟩
 ·cases lo with
  |none=>simp[sliceBounds,HT.sIx]
  |some i =>
   simp only[sliceBounds,HT.sIx,Option.getD_none,show (1:Int) > 0 by decide,if_true]
   by_cases h:i<0
   ·simp only[h,if_true] <;> omega
   ·simp only[h,if_false] <;> omega
 ·cases hi with
  |none=>simp[sliceBounds,HT.sIx]
  |some i =>
   simp only[sliceBounds,HT.sIx,Option.getD_none,show (1:Int) > 0 by decide,if_true]
   by_cases h:i<0
   ·simp only[h,if_true] <;> omega
   ·simp only[h,if_false] <;> omega
theorem slicePick_cut (its:List Value) (lo hi:Option Int):slicePick its.toArray lo hi none=((its.drop (HT.sIx its.length 0 lo)).take (HT.sIx its.length its.length hi-HT.sIx its.length 0 lo)).toArray:=by
 obtain⟨h1,h2,h3⟩:=slice_bounds lo hi its.toArray.size;unfold slicePick;rw[h1,h2,h3];simp only[sliceRange_one,pick_run,List.size_toArray] <;> rfl
noncomputable def rSlL (K:PySem.W.Frag):V->Option Int->Option Int->Hp->VK->Prop:=fun x lo hi H Q=>∃ a xs,x=.ref a/\SqL K H a xs/\∀ p,H p=none->Q (.ref p) (upd H p (.lst (cutV xs lo hi)))
theorem sl_list:SlR X (rSlL X.K):=by
 intro pins s σ H x v vl vu lo hi sl Q I rx hs pl pu h;obtain⟨a,xs,rfl,hx,q⟩:=h;cases rx;obtain⟨its,r,ht,hz⟩:=I.list hx;have hlen:=r.length;refine⟨"list",_,slot_list_getitem.lookup,ht.isList.typeIs,?_⟩;refine wpAny_getItem_list_slice ht.isList hs pl pu .none (by simp) ?_ (by rw[List.size_toArray] <;> omega)
 rw[slicePick_cut,<- hlen];refine⟨.ref s.heap.objs.size,_,I.laid (t':=s.toks) (o:=.lst (cutV xs lo hi)) (fun b ob q=>Heap.get?_push_of_some _ q) (Nat.le_refl _) ?_,rfl,q _ (I.hok.fresh (Nat.le_refl _))⟩
 exact⟨Nat.le_trans (cutV_length xs lo hi) hz,_,0,(r.drop (HT.sIx xs.length 0 lo)).take (HT.sIx xs.length xs.length hi-HT.sIx xs.length 0 lo),Heap.get?_push_size _ rfl⟩
noncomputable def flatV:V->Bool
 |.non=>true
 |.bl _=>true
 |.int _=>true
 |.str _=>true
 |_=>false
noncomputable def eqV:V->V->Bool
 |.non,.non=>true
 |.bl a,.bl b=>a==b
 |.bl a,.int b=>(if a then 1 else 0)==b
 |.int a,.bl b=>a==(if b then 1 else 0)
 |.int a,.int b=>a==b
 |.str a,.str b=>a==b
 |_,_=>false
theorem eqAt_V {A:Around}{s:Shared}{y x:V}{u v:Value} (ry:RelV y u) (rx:RelV x v) (fy:flatV y=true) (fx:flatV x=true):SeqAt.EqAt A s u v (eqV y x):=by
 cases y with
 |non =>
  cases ry;cases x with
  |non=>cases rx;exact SeqAt.EqAt.same _
  |bl b=>cases rx;exact SeqAt.EqAt.none_bool b
  |int b=>obtain⟨t,rfl⟩:=rx;exact SeqAt.EqAt.none_int b t
  |str b=>obtain⟨t,rfl⟩:=rx;exact SeqAt.EqAt.none_str b t
  |_=>exact absurd (show false=true from fx) Bool.false_ne_true
 |bl a =>
  cases ry;cases x with
  |non=>cases rx;exact SeqAt.EqAt.bool_none a
  |bl b=>cases rx;exact SeqAt.EqAt.bool_bool a b
  |int b=>obtain⟨t,rfl⟩:=rx;exact SeqAt.EqAt.bool_int a b t
  |str b=>obtain⟨t,rfl⟩:=rx;exact SeqAt.EqAt.bool_str a b t
  |_=>exact absurd (show false=true from fx) Bool.false_ne_true
 |int a =>
  obtain⟨t',rfl⟩:=ry;cases x with
  |non=>cases rx;exact SeqAt.EqAt.int_none a t'
  |bl b=>cases rx;exact SeqAt.EqAt.int_bool a t' b
  |int b=>obtain⟨t,rfl⟩:=rx;exact SeqAt.EqAt.int_int a t' b t
  |str b=>obtain⟨t,rfl⟩:=rx;exact SeqAt.EqAt.int_str a t' b t
  |_=>exact absurd (show false=true from fx) Bool.false_ne_true
 |str a =>
  obtain⟨t',rfl⟩:=ry;cases x with
  |non=>cases rx;exact SeqAt.EqAt.str_none a t'
  |bl b=>cases rx;exact SeqAt.EqAt.str_bool a t' b
  |int b=>obtain⟨t,rfl⟩:=rx;exact SeqAt.EqAt.str_int a t' b t
  |str b=>obtain⟨t,rfl⟩:=rx;exact SeqAt.EqAt.str_str a t' b t
  |_=>exact absurd (show false=true from fx) Bool.false_ne_true
 |_=>exact absurd (show false=true from fy) Bool.false_ne_true
noncomputable def eqU (x:V) (u:Value):Bool:=match u with
 |.none=>eqV .non x
 |.bool b=>eqV (.bl b) x
 |.int i _=>eqV (.int i) x
 |.str z _=>eqV (.str z) x
 |_=>false
theorem eqU_of {x y:V}{u:Value} (r:RelV y u) (f:flatV y=true):eqU x u=eqV y x:=by
 cases y with
 |non=>cases r;rfl
 |bl b=>cases r;rfl
 |int i=>obtain⟨t,rfl⟩:=r;rfl
 |str z=>obtain⟨t,rfl⟩:=r;rfl
 |_=>exact absurd (show false=true from f) Bool.false_ne_true
theorem any_eqU {x:V}:∀ {xs:List V}{us:List Value},Vals xs us->xs.all flatV=true->us.any (eqU x)=xs.any fun y=>eqV y x
 |_,_,.nil,_=>rfl
 |y::xs,u::us,.cons r t,f=>by
  rw[List.all_cons,Bool.and_eq_true] at f;rw[List.any_cons,List.any_cons,eqU_of r f.1,any_eqU t f.2]
theorem mem_eqAt {A:Around}{s:Shared}{x:V}{v:Value} (rx:RelV x v) (fx:flatV x=true):∀ {xs:List V}{us:List Value},Vals xs us->xs.all flatV=true->∀ u∈us,SeqAt.EqAt A s u v (eqU x u)
 |_,_,.nil,_=>fun u hu=>by cases hu
 |y::xs,u::us,.cons r t,f=>fun u' hu=>by
  rw[List.all_cons,Bool.and_eq_true] at f
  rcases List.mem_cons.mp hu with rfl | hu
  ·rw[eqU_of r f.1];exact eqAt_V r rx f.1 fx
  ·exact mem_eqAt rx fx t f.2 u' hu
noncomputable def inV (x:V) (xs:List V):Bool:=xs.any fun y=>eqV y x
noncomputable def rIn (K:PySem.W.Frag) (neg:Bool):R2:=fun x y H Q=>∃ p xs,y=.ref p/\(SqL K H p xs\/SqT K H p xs)/\flatV x=true/\xs.all flatV=true/\Q (.bl (if neg then !inV x xs else inV x xs)) H
theorem op_in_seq:OpR X (compareOp .In) (rIn X.K false):=by
 intro pins s σ H x y v u Q I rx ry h;obtain⟨p,xs,rfl,hq,fx,fs,q⟩:=h;cases ry
 rcases hq with hq | hq
 ·obtain⟨its,r,pl,hz⟩:=I.list hq
  refine SeqAt.in_listAt (eqU x) pl.isList (fun w hw=>mem_eqAt rx fx r fs w (by simpa using hw)) ⟨.bl _,H,I,rfl,?_⟩
  rw[show its.toArray.any (eqU x)=its.any (eqU x) by simp,any_eqU r fs]
  exact q
 ·obtain⟨its,r,pl,hz⟩:=I.tuple hq
  refine SeqAt.in_tupleAt (eqU x) pl (fun w hw=>mem_eqAt rx fx r fs w (by simpa using hw)) ⟨.bl _,H,I,rfl,?_⟩
  rw[show its.toArray.any (eqU x)=its.any (eqU x) by simp,any_eqU r fs]
  exact q
theorem op_notIn_seq:OpR X (compareOp .NotIn) (rIn X.K true):=by
 intro pins s σ H x y v u Q I rx ry h;obtain⟨p,xs,rfl,hq,fx,fs,q⟩:=h;cases ry
 rcases hq with hq | hq
 ·obtain⟨its,r,pl,hz⟩:=I.list hq
  refine SeqAt.notIn_listAt (eqU x) pl.isList (fun w hw=>mem_eqAt rx fx r fs w (by simpa using hw)) ⟨.bl _,H,I,rfl,?_⟩
  rw[show its.toArray.any (eqU x)=its.any (eqU x) by simp,any_eqU r fs]
  exact q
 ·obtain⟨its,r,pl,hz⟩:=I.tuple hq
  refine SeqAt.notIn_tupleAt (eqU x) pl (fun w hw=>mem_eqAt rx fx r fs w (by simpa using hw)) ⟨.bl _,H,I,rfl,?_⟩
  rw[show its.toArray.any (eqU x)=its.any (eqU x) by simp,any_eqU r fs]
  exact q
theorem op_notIn_str:OpR X (compareOp .NotIn) (fun x y H Q=>∃ i j,x=.str i/\y=.str j/\Q (.bl (!(!(Builtin.Str.occurrences j i 0 j.length 1).isEmpty))) H):=by
 intro pins s σ H x y v u Q I rx ry h;obtain⟨i,j,rfl,rfl,q⟩:=h;obtain⟨t,rfl⟩:=rx;obtain⟨t',rfl⟩:=ry;exact notIn_str ⟨.bl _,H,I,rfl,q⟩
theorem call_len_seq:CallR X (.builtin "len") (fun xs H Q=>∃ p ys,xs=[.ref p] ∧ (SqL X.K H p ys ∨ SqT X.K H p ys) ∧ Q (.int ys.length) H):=by
 intro pins s σ H xs us Q I r h;obtain⟨p,ys,rfl,hq,q⟩:=h;obtain⟨u,rfl,rx⟩:=vals1 r;cases rx;have hn:=line63
 rcases hq with hq | hq
 ·obtain⟨its,r',pl,hz⟩:=I.list hq
  have hlen:=r'.length;exact Calls.call_len_list pl.isList (by simp only[List.size_toArray] <;> omega) ⟨.int ys.length,H,I.tok _,⟨s.toks+1,by rw[List.size_toArray,hlen]⟩,q⟩
 ·obtain⟨its,r',pl,hz⟩:=I.tuple hq
  have hlen:=r'.length;exact len_tuple pl (by simp only[List.size_toArray] <;> omega) ⟨.int ys.length,H,I.tok _,⟨s.toks+1,by rw[List.size_toArray,hlen]⟩,q⟩
theorem call_len_str:CallR X (.builtin "len") (fun xs H Q=>∃ z,xs=[.str z] ∧ z.length ≤ sizeLine ∧ Q (.int z.length) H):=by
 intro pins s σ H xs us Q I r h;obtain⟨z,rfl,hz,q⟩:=h;obtain⟨u,rfl,t,rfl⟩:=vals1 r;have hn:=line63;exact len_str (by omega) ⟨.int z.length,H,I.tok _,⟨_,rfl⟩,q⟩
theorem CallR.or {f:Value}{r r':List V->Hp->VK->Prop} (h:CallR X f r) (h':CallR X f r'):CallR X f (fun xs H Q=>r xs H Q\/r' xs H Q):=by
 intro pins s σ H xs us Q I rs q
 rcases q with q | q
 ·exact h pins s σ H xs us Q I rs q
 ·exact h' pins s σ H xs us Q I rs q
theorem call_list_of:CallR X (.type "list") (fun xs H Q=>∃ p ys,xs=[.ref p] ∧ (SqL X.K H p ys ∨ SqT X.K H p ys) ∧ ∀ l,H l=none → Q (.ref l) (upd H l (.lst ys))):=by
 intro pins s σ H xs us Q I r h;obtain⟨p,ys,rfl,hq,q⟩:=h;obtain⟨u,rfl,rx⟩:=vals1 r;cases rx;have fin:∀ (its:List Value),Vals ys its->ys.length<=sizeLine->∀ (h':Heap) (c':Nat),(∀ b o',s.heap.get? b=some o'->h'.get? b=some o') ->
   h'.get? s.heap.objs.size=some {cls:=.type "list",dict:=none,data:=.seq its.toArray c',slots:=#[]} → EP X pins σ Q (.ref s.heap.objs.size) {s with heap:=h'}:=fun its r' hz h' c' kp e =>
  ⟨.ref s.heap.objs.size,_,I.laid (t':=s.toks) kp (Nat.le_refl _) (show ObjOk X.prog X.w _ h' _ (.lst ys) from ⟨hz,its,c',r',e⟩),rfl,q _ (I.hok.fresh (Nat.le_refl _))⟩
 rcases hq with hq | hq
 ·obtain⟨its,r',pl,hz⟩:=I.list hq
  have hlen:=r'.length;obtain⟨o,ho,hc,n,hd⟩:=pl.isList;exact call_list_seq p (.inl rfl) ho hc hd (fun h' c' kp e=>fin its r' hz h' c' kp e) (by simp only[List.size_toArray] <;> omega)
 ·obtain⟨its,r',pl,hz⟩:=I.tuple hq
  have hlen:=r'.length;obtain⟨o,ho,hc,n,hd⟩:=pl;exact call_list_seq p (.inr rfl) ho hc hd (fun h' c' kp e=>fin its r' hz h' c' kp e) (by simp only[List.size_toArray] <;> omega)
theorem call_tuple_of:CallR X (.type "tuple") (fun xs H Q=>∃ p ys,xs=[.ref p] ∧ ((SqL X.K H p ys ∧ ∀ l,H l=none → Q (.ref l) (upd H l (.tup ys))) ∨ (SqT X.K H p ys ∧ Q (.ref p) H))):=by
 intro pins s σ H xs us Q I r h;obtain⟨p,ys,rfl,h⟩:=h;obtain⟨u,rfl,rx⟩:=vals1 r;cases rx
 rcases h with ⟨hq,q⟩ | ⟨hq,q⟩
 ·obtain⟨its,r',pl,hz⟩:=I.list hq
  have hlen:=r'.length;refine call_tuple_list pl.isList (fun h' kp=>?_) (by simp only[List.size_toArray] <;> omega)
  have I1:Inv X pins σ H {s with heap:=h'}:=I.kept (t':=s.toks) kp
  have I2:Inv X pins σ (upd H h'.objs.size (.tup ys)) {s with heap:=h'.push {cls:=.type "tuple",data:=.seq its.toArray}} :=
   I1.laid (t':=s.toks) (fun b o e=>Heap.get?_push_of_some _ e) (Nat.le_refl _) (show ObjOk X.prog X.w _ _ _ (.tup ys) from ⟨hz,its,r',IsTuN.new _ _⟩)
  exact⟨.ref h'.objs.size,_,I2,rfl,q _ (I1.hok.fresh (Nat.le_refl _))⟩
 ·obtain⟨its,r',pl,hz⟩:=I.tuple hq
  exact call_tuple_same pl ⟨.ref p,H,I,rfl,q⟩
noncomputable def tyV (K:PySem.W.Frag) (T:String) (x:V) (H:Hp):Prop:=match x with
 |.str _=>T="str"
 |.int _=>T="int"
 |.ref p=>(T="list" ∧ ∃ xs,SqL K H p xs) ∨ (T="tuple" ∧ ∃ o,K.lookup p=some o ∧ o.cls=.type "tuple" ∧ o.dict=none) ∨
   (T="dict" ∧ ((∃ kvs,H p=some (.dK kvs)) ∨ ∃ kvs,H p=some (.dT kvs))) ∨ (T="set" ∧ ∃ S n,H p=some (.set S n))
 |_=>False
theorem tyV_is {pins:List (Addr×Obj)}{σ:St}{H:Hp}{s:Shared}{T:String}{x:V}{v:Value} (I:Inv X pins σ H s) (r:RelV x v) (ty:tyV X.K T x H) :
  s.TypeIs v T/\∀ a,v=.ref a->∃ ob,s.heap.get? a=some ob/\ob.dict=none:=by
 cases x with
 |str z =>
  obtain⟨t,rfl⟩:=r;cases (show T="str" from ty);exact⟨typeIs_str s z t,fun _ e=>nomatch e⟩
 |int i =>
  obtain⟨t,rfl⟩:=r;cases (show T="int" from ty);exact⟨typeIs_int s i t,fun _ e=>nomatch e⟩
 |ref p =>
  cases r
  rcases ty with ⟨rfl,xs,hq⟩ | ⟨rfl,o,hk,hc,hd⟩ | ⟨rfl,hk⟩ | ⟨rfl,S,n,hk⟩
  ·obtain⟨its,_,pl,_⟩:=I.list hq
   refine⟨pl.isList.typeIs,fun a e=>?_⟩
   cases e;obtain⟨o,n,e,c,hd,_⟩:=pl;exact⟨o,e,hd⟩
  ·refine⟨⟨o,I.kIn p o hk,hc⟩,fun a e=>?_⟩
   cases e;exact⟨o,I.kIn _ o hk,hd⟩
  ·have z:∃ o,s.heap.get? p=some o/\o.ExactDict:=by
    rcases hk with ⟨kvs,hk⟩ | ⟨kvs,hk⟩
    ·obtain⟨_,_,_,_,o,_,_,e,ex,_⟩:=I.hok p _ hk
     exact⟨o,e,ex⟩
    ·obtain⟨_,_,_,_,o,_,_,e,ex,_⟩:=I.hok p _ hk
     exact⟨o,e,ex⟩
   obtain⟨o,e,ex⟩:=z;refine⟨⟨o,e,ex.1⟩,fun a e2=>?_⟩
   cases e2;exact⟨o,e,ex.2.1⟩
  ·obtain⟨o,_,_,_,e,ex,_⟩:=I.hok p _ hk
   refine⟨⟨o,e,ex.1⟩,fun a e2=>?_⟩
   cases e2;exact⟨o,e,ex.2.1⟩
 |_=>exact False.elim ty
noncomputable def tBM (K:PySem.W.Frag) (T:String) (r:V->List V->Hp->VK->Prop) (to:TE) (t:TA):TE:=fun σ H Q=>to σ H fun x H1=>tyV K T x H1/\t σ H1 fun xs H2=>r x xs H2 Q
variable {o e:Expr}{es:List Expr}{to:TE}{t:TA}{name:Str}{apos cpos:Pos}{T id:String}{r:V->List V->Hp->VK->Prop}
theorem pe_bm (pa:PlainAttrs T) (slot:Slot T name id) (hty:typeOf (.builtin id)=pure (.type "method_descriptor")) (hm:MtR X id r) (ho:PE X o to) (ha:PA X (e::es) t)
  (hbase:attributeBase o name X.env (eval o X.env)=eval o X.env:=by rfl)
  (hfew:((backTo cpos (starEach (e::es) X.env)).all (fun x=>!x.1)&&(backToKw cpos (keywordEach [] X.env)).all (fun x=>x.1.isSome)
   && decide ((e::es).length+([]:List Keyword).length+(if ([]:List Keyword).isEmpty then 0 else 1)<30))=true:=by rfl)
  (hline:(apos.endLine==cpos.line)=true:=by rfl) (hs:starEach (e::es) X.env=(false,eval e X.env)::starEach es X.env:=by rfl) (hplain:(backTo cpos (starEach es X.env)).any (·.1)=false:=by rfl) :
  PE X (.Call (.Attribute o name apos) (e::es) [] cpos) (tBM X.K T r to t):=by
 intro pins s σ H Q I h;refine wpAny_Call_method_late hbase hfew hline rfl (thn (ho pins s σ H _ I h) fun v s1 ⟨x,H1,I1,r1,ty,q1⟩=>?_)
 obtain⟨h1,h2⟩:=tyV_is I1 r1 ty;refine⟨T,id,pa,slot,hty,h1,h2,?_⟩;have hA:=ha cpos pins s1 σ H1 _ I1 q1;rw[hs] at hA ⊢;refine Calls.callWith_builtin (by show (false||(backTo cpos (starEach es X.env)).any (·.1))=false;rw[hplain] <;> rfl) (Calls.evalArgs_plain ?_)
 exact thn hA fun us s2 ⟨vs,H2,I2,r2,q2⟩=>hm pins s2 σ H2 x vs v us Q I2 r1 r2 q2
end
end L2
namespace L2
open PySem PySem.Spec PyProof.Rows
noncomputable def MtM (X:Cx) (id:String) (r:V->List V->Hp->VK->Prop):Prop :=
 ∀ (pins:List (Addr×Obj)) (s:Shared) (σ:St) (H:Hp) (x:V) (xs:List V) (v:Value) (us:List Value) (Q:VK),Inv X pins σ H s->RelV x v->Vals xs us->r x xs H Q ->
  wpAny (model X.prog X.w) X.A (call (.builtin id) (v::us)) (EP X pins σ Q) X.xe s
theorem Vals.one:∀ {x:V}{us:List Value},Vals [x] us->∃ u,us=[u]/\RelV x u
 |_,_,.cons r .nil=>⟨_,rfl,r⟩
theorem Vals.two:∀ {x y:V}{us:List Value},Vals [x,y] us->∃ u v,us=[u,v]/\RelV x u/\RelV y v
 |_,_,_,.cons r (.cons q .nil)=>⟨_,_,rfl,r,q⟩
theorem Vals.zero:∀ {us:List Value},Vals [] us->us=[]
 |_,.nil=>rfl
theorem Vals.eraseIdx:∀ {xs:List V}{us:List Value} (i:Nat),Vals xs us->Vals (xs.eraseIdx i) (us.eraseIdx i)
 |_,_,_,.nil=>.nil
 |_,_,0,.cons _ t=>t
 |_,_,i+1,.cons r t=>.cons r (Vals.eraseIdx i t)
theorem Vals.reverse {xs:List V}{us:List Value} (h:Vals xs us):Vals xs.reverse us.reverse:=by
 induction h with
 |nil=>exact .nil
 |cons r t ih=>rw[List.reverse_cons,List.reverse_cons];exact Vals.append ih (.cons r .nil)
section
variable {X:Cx}{pins:List (Addr×Obj)}{σ:St}{H:Hp}{s:Shared}{l b:Addr}{xs ys zs:List V}
theorem Inv.lset {its its':List Value}{n:Nat}{f:Array Value->Array Value}{t':Nat} (I:Inv X pins σ H s) (hH:H l=some (.lst xs))
  (e:s.heap.get? l=some {cls:=.type "list",data:=.seq its.toArray n}) (hf:f its.toArray=its'.toArray) (hv:Vals ys its') (hz:ys.length ≤ sizeLine) :
  Inv X pins σ (upd H l (.lst ys)) {s with heap:=s.heap.update l (Obj.mapSeq f),toks:=t'}:=by
 have q:=PySem.IsL.update e f;rw[hf] at q;refine I.write (x:=l) (e:=l) (by rw[hH];exact trivial) (.inl rfl) (fun b' u hb hu=>(Heap.get?_update_other s.heap (Obj.mapSeq f) (Ne.symm hb)).trans hu) ⟨_,q⟩ ?_
 exact⟨hz,its',_,hv,q⟩
theorem Inv.lnew {its:List Value}{t':Nat} (I:Inv X pins σ H s) (hv:Vals ys its) (hz:ys.length<=sizeLine) :
  Inv X pins σ (upd H s.heap.objs.size (.lst ys)) {s with heap:=s.heap.push {cls:=.type "list",data:=.seq its.toArray},toks:=t'} :=
 I.laid (fun _ _ q=>Heap.get?_push_of_some _ q) (Nat.le_refl _) ⟨hz,its,0,hv,Heap.get?_push_size _ rfl⟩
theorem Inv.fresh (I:Inv X pins σ H s):H s.heap.objs.size=none:=I.hok.fresh (Nat.le_refl _)
theorem Inv.lstM (I:Inv X pins σ H s) (hH:H l=some (.lst xs)):xs.length ≤ sizeLine ∧ ∃ (its:List Value) (n:Nat),Vals xs its ∧ xs.length=its.length ∧ s.heap.get? l=some {cls:=.type "list",data:=.seq its.toArray n}:=by
 obtain⟨z,its,n,r,e⟩:=I.hok l _ hH;exact⟨z,its,n,r,r.length,e⟩
end
section
variable {X:Cx}
noncomputable def rAppend:V->List V->Hp->VK->Prop:=fun x vs H Q=>∃ l xs y,x=.ref l/\vs=[y]/\H l=some (.lst xs)/\xs.length<sizeLine/\Q .non (upd H l (.lst (xs++[y])))
theorem mt_append:MtM X "list.append" rAppend:=by
 intro pins s σ H x vs v us Q I rx rv h;obtain⟨l,xs,y,rfl,rfl,hH,hz,q⟩:=h;cases rx;obtain⟨u,rfl,ru⟩:=rv.one;obtain⟨z,its,n,r,hl,e⟩:=I.lstM hH;refine call_meets F.slot_list_append ⟨_,e,rfl⟩ F.entry_list_append (F.args_list_append_2 _ _) (PySem.list_append l its.toArray n u (by rw[List.size_toArray];omega)) ⟨e,?_⟩
 refine⟨.non,_,I.lset (its':=its++[u]) hH e (by simp) (r.append (.cons ru .nil)) ?_,rfl,q⟩
 rw[List.length_append,List.length_singleton];omega
end
section
variable {prog:Program}{w:World}{A:Around}{E:Value->Shared->Prop}{s:Shared}
end
section
variable {X:Cx}
end
end L2
namespace Att
open PySem PySem.W PySem.Calls PyProof.Rows
theorem ints_of_wellAll {P:Params}{h:Heap}:∀ (ns:List Int) (vs:List Value),WellAll P h vs (ns.map WData.int)->IntsAre vs ns:=by
 intro ns
 induction ns with
 |nil =>
  intro vs w;rw[List.map_nil] at w;cases w;exact .nil
 |cons n ns ih =>
  intro vs w;rw[List.map_cons] at w;cases w with
  |cons a b =>
   cases a;exact .cons _ _ (ih _ b)
theorem script_of {l:OpenLaw}{n:Nat} (hn:l.most=some n) {P:Params}{h:Heap}{args:List WData}{vals:List Value}
  (hpre:l.row.toRowW.claim.pre args=true) (hwl:WellAll P h vals args) :
  ∃ a vs ns,vals=[Value.ref a] ∧ args=[WData.list (ns.map WData.int)] ∧ h.get? a=some {cls:=.type "list",data:=.seq vs.toArray} ∧ IntsAre vs ns ∧ ns.length ≤ n:=by
 have hsh:WShape.hasAll [] args [.list .int]=true:=(pre_splitW hpre).1;have hc:l.pre.holds [] {args:=args}=true:=(pre_splitW hpre).2;obtain⟨d,r,rfl,h1,h2⟩:=hasAllW_cons hsh;obtain rfl:=hasAllW_nil h2;obtain⟨xs,rfl,h3⟩:=hasW_list h1;obtain⟨ns,rfl⟩:=items_int h3
 have hlen:ns.length<=n:=by
  unfold OpenLaw.pre at hc
  have h4:(WTm.not (.lt (.lit (.int (n:Int))) (.len (.arg 0)))).holds [] {args:=[.list (ns.map .int)]}=true:=by
   have h4:=(holds_andW hc).1;rw[hn] at h4;exact h4
  have h5:=condW_of h4 (w_not (w_lt w_lit (w_len_list (w_arg rfl))));rw[List.length_map] at h5;refine Nat.le_of_not_lt fun q=>?_
  have q':(n:Int)<((ns.length:Nat):Int):=by omega
  first
   |(rw[decide_eq_true q'] at h5;exact absurd h5 (by decide))
   |(simp at h5;omega)
 cases hwl with
 |cons w1 w2 =>
  cases w2;cases w1 with
  |list ho hall=>exact⟨_,_,ns,rfl,rfl,ho,ints_of_wellAll ns _ hall,hlen⟩
theorem post_true (l:OpenLaw) (args:List WData):l.row.toRowW.claim.post args (.bool true) args=true :=
 postW_of (r:=l.row.toRowW) (X:=(true==true))
  (show WShape.has [] (.bool true) .bool=true by first | rfl | decide | simp[WShape.has,WShape.arms,WShape.armsAll])
  (show (WTm.eq .res (.lit (.bool true))).value [] {args:=args,res:=some (.bool true),after:=args}=some (.bool (true==true)) from w_eq_bool (w_res rfl) w_lit) rfl
theorem attach_call {l:OpenLaw}{n:Nat}{q:Program}{loose:List Str}{XP:(Str->Option Value)->Heap->Prop}{YP:World->Heap->Prop}{d:DefRec}
  (hn:l.most=some n) (hdf:d.params.defaults=[])
  (call:∀ (w:World) (s₀ s₁:Shared) (mg mb:Str->Option Value) (fa:Addr) (o:Obj) (pm cd doc:Value) (a:Addr) (vs:List Value) (ns:List Int),
   Ground q loose [] XP w s₀ mg mb s₁.heap->YP w s₁.heap ->
   s₁.heap.get? fa=some o->o.data=.func (docDef d.name d.params d.body d.scope pm cd doc)->s₁.heap.CodeRec cd d.name->mg d.name=some (.ref fa) ->
   s₁.heap.get? a=some {cls:=.type "list",data:=.seq vs.toArray} → IntsAre vs ns → ns.length ≤ n → s₁.gens=#[] →
   codeAny (model l.prog w) callerA (.call (.ref fa) ⟨[.ref a],[]⟩) (fun r s'=>r=.ok (.ret (.bool true))/\OldK s₁.heap s'.heap/\s'.os=s₁.os/\AllBare s'.gens) s₁) :
  WalkO q loose XP YP l.row.toRowW d [] (fun f vs=>PySem.call f vs):=by
 intro w s₀ s₁ mg mb G Y fa o pm cd doc dV kV ho hd hcd hD hmg hg args vals as hpre hlay hrd hwl hlo;obtain rfl:dV=.none:=Dflts.none hD hdf;obtain rfl:kV=.none:=Dflts.noKw hD;obtain⟨a,vs,ns,rfl,rfl,hobj,hints,hlen⟩:=script_of hn hpre hwl;refine enter_call (codeAny_mono (call w s₀ s₁ mg mb fa o pm cd doc a vs ns G Y ho (fd_plain hd) hcd hmg hobj hints hlen hg) fun r s' hq=>?_)
 obtain⟨rfl,h2,h3,h4⟩:=hq;exact⟨.inl ⟨.bool true,.bool true,[],rfl,fun _=>rfl,.bool true,post_true l _,fun _=>⟨List.Pairwise.nil,fun _ hm=>(nomatch hm)⟩⟩,h2,h3,h4⟩
section
variable {prog:Program}{w:World}{A:Around}{E:Value->Shared->Prop}{s:Shared}{K:Frag}
end
end Att
namespace L2
open PySem PySem.Spec PyProof.Rows
theorem vals_ints:∀ {vs:List Value}{ns:List Int},IntsAre vs ns->Vals (ns.map V.int) vs
 |_,_,.nil=>.nil
 |_,_,.cons n t h=>.cons ⟨t,rfl⟩ (vals_ints h)
end L2
namespace L2
open PySem PySem.Spec PyProof.Rows
end L2
namespace L2
open PySem PySem.Spec PyProof.Rows
noncomputable def defArgs (s:Stmt):Arguments:=match s with
 |.FunctionDef _ a _ _ _ _ _ _ _ _=>a
 |_=>{posonlyargs:=[],args:=[],vararg:=none,kwonlyargs:=[],kw_defaults:=[],kwarg:=none,defaults:=[]}
noncomputable def defBody (s:Stmt):List Stmt:=match s with
 |.FunctionDef _ _ b _ _ _ _ _ _ _=>b
 |_=>[]
noncomputable def defScope (s:Stmt):Scope:=match s with
 |.FunctionDef _ _ _ _ _ _ sc _ _ _=>sc
 |_=>{kind:=.function,names:=[],isGenerator:=false,isCoroutine:=false}
noncomputable abbrev CX0:CXT:=fun _ _ _ _ _ _=>False
noncomputable abbrev E0:XK:=fun _ _ _=>False
theorem pass0 {X:Cx}:Passes CX0 X E0:=fun _ _ _ _ _ _ _ h=>h.elim
structure Fun (K:PySem.W.Frag) (x qual:Str) (st:Stmt) (f:Addr) (fd:FuncData):Prop where
 ex:∃ (oc:Value) (od:Option Addr) (kV doc pm:Value) (an:Option Addr) (cdv ct:Value) (osl:Array (Option Value)),
  fd=PySem.W.fnOf x qual (defArgs st) (defBody st) (defScope st) .none kV doc pm an cdv ct/\K.lookup f=some ⟨oc,od,.func fd,osl⟩/\PySem.W.codeIn K cdv qual=true
 kp:PySem.W.keepIn K (.ref f)=true
section
variable {P:Program}{w:World}{K:PySem.W.Frag}{mg:Str->Option Value}{base:Heap}
theorem Fun.ok {x qual:Str}{st:Stmt}{f:Addr}{fd:FuncData}{N ps:List Str}{k:Nat}{sp:Sp} (F:Fun K x qual st f fd) (S:FnScope N ps (defScope st)) (len:∀ vs H Q E,sp vs H Q E->vs.length=ps.length)
  (hbody:∀ (cdv:Value) (A:Around) (outer:List Env) (s:Shared) (H:Hp) (vs:List V) (Q:VK) (E:XK),Room k (A.deeper (envOfC qual (defScope st) s.heap.objs.size f cdv))->sp vs H Q E ->
   ∃ t,PSs (cxOf CX0 P w K mg base N qual (defScope st) f cdv A outer s H E).nox (defBody st) t/\t {nx:=fun _ H'=>Q .non H',rt:=Q} (start N vs) H):FnOk P w K mg base CX0 (k+1) f fd ps sp:=by
 obtain⟨oc,od,kV,doc,pm,an,cdv,ct,osl,rfl,lk,hcd⟩:=F.ex;refine fn_of lk hcd S len fun A outer s H vs Q E hr hsp=>?_
 obtain⟨t,h,q⟩:=hbody cdv A outer s H vs Q E hr hsp;exact⟨t,h.nox,q⟩
theorem Fun.binds {x qual:Str}{st:Stmt}{f:Addr}{fd:FuncData}{ps:List Str} (F:Fun K x qual st f fd)
  (h:∀ (kV doc pm:Value) (an:Option Addr) (cdv ct:Value) (us:List Value),us.length=ps.length->bindArgs (PySem.W.fnOf x qual (defArgs st) (defBody st) (defScope st) .none kV doc pm an cdv ct) ⟨us,[]⟩=pure (ps.zip us)):Binds K fd ps []:=by
 obtain⟨oc,od,kV,doc,pm,an,cdv,ct,osl,rfl,lk,hcd⟩:=F.ex;exact .all (h kV doc pm an cdv ct)
theorem fun_mk {x qual:Str}{st:Stmt}{f:Addr}{oc:Value}{od an:Option Addr}{osl:Array (Option Value)}{kV doc pm cdv ct:Value} (l:K.lookup f=some ⟨oc,od,.func (PySem.W.fnOf x qual (defArgs st) (defBody st) (defScope st) .none kV doc pm an cdv ct),osl⟩)
  (c:PySem.W.codeIn K cdv qual=true) (k:PySem.W.keepIn K (.ref f)=true):Fun K x qual st f (PySem.W.fnOf x qual (defArgs st) (defBody st) (defScope st) .none kV doc pm an cdv ct):=⟨⟨oc,od,kV,doc,pm,an,cdv,ct,osl,rfl,l,c⟩,k⟩
end
theorem hu_of {A:Around}{k:Nat} (hr:Room k A):A.units+1<cLine:=Nat.lt_of_le_of_lt (Nat.add_le_add_left (by decide:1<=64) _) hr.units
theorem small1000 {n:Nat} (h:n<=1000):n<sizeLine:=Nat.lt_of_le_of_lt h (by decide)
section
variable {X:Cx}
theorem pv (i:Nat) {x:Str}{pos:Pos} (hN:X.N[i]?=some x:=by rfl) (hv:Vis X.env.scope x:=by first | exact Or.inl rfl | exact Or.inr (Or.inl rfl) | exact Or.inr (Or.inr rfl)) (hd:(x==("__debug__":Str))=false:=by decide)
  (hcd:(x==("__classdict__":Str))=false:=by decide):PE X (.Name x pos) (tVar i):=pe_var hN hv hd hcd
end
noncomputable def Same (H H':Hp):Prop:=∀ b o,H b=some o->H' b=some o
theorem Same.refl (H:Hp):Same H H:=fun _ _ h=>h
theorem Same.trans {H H1 H2:Hp} (a:Same H H1) (b:Same H1 H2):Same H H2:=fun c o h=>b c o (a c o h)
theorem Same.free {H H':Hp} (e:Same H H') {l:Addr} (h:H' l=Option.none):H l=Option.none:=by
 cases q:H l with
 |none=>rfl
 |some o =>
  rw[e l o q] at h;cases h
theorem Same.seq {K:PySem.W.Frag}{H H':Hp}{a:Addr}{xs:List V} (e:Same H H') (h:SqL K H a xs):SqL K H' a xs:=by
 rcases h with (h | ⟨o,h⟩) | h
 ·exact .inl (.inl (e _ _ h))
 ·exact .inl (.inr ⟨o,e _ _ h⟩)
 ·exact .inr h
end L2
set_option maxRecDepth 100000
set_option maxRecDepth 100000
namespace L2
open PySem PySem.Spec PyProof.Rows
end L2
namespace L2
open PySem PySem.Spec PyProof.Rows
section
variable (P:Program) (w:World)
end
section
variable {P:Program}{w:World}{H H':Hp}{h h':Heap}{a:Addr}{o:HO}
end
section
variable {P:Program}{w:World}{H:Hp}{h h':Heap}{x e:Addr}{o':HO}
end
section
variable {fs fs' ex ex':List Addr}{H H1 H2:Hp}{h h1 h2 h':Heap}{a x e:Addr}{o:HO}
end
end L2
namespace L2
open PySem PySem.Spec PyProof.Rows
section
variable {X:Cx}{pins:List (Addr×Obj)}{σ:List (Option V)}{H H':Hp}{s:Shared}{h':Heap}
end
end L2
namespace L2
open PySem PySem.Spec PyProof.Rows
section
variable {X:Cx}
variable {a b:Expr}{ta tb:TE}{pos:Pos}
variable {tA tB':TT}{rest:List Expr}
end
end L2
namespace L2
open PySem PySem.Spec PyProof.Rows
section
variable {X:Cx}{pins:List (Addr×Obj)}{σ:St}{H:Hp}{s:Shared}{a:Addr}{xs ys:List V}
end
section
variable {X:Cx}{pins:List (Addr×Obj)}{σ:St}{H:Hp}{s:Shared}{E:Value->Shared->Prop}
end
section
variable {X:Cx}{st:Stmt}{rest:List Stmt}{t u:TS}{e:Expr}{te:TE}{pos:Pos}
end
section
variable {X:Cx}{pos:Pos}
end
section
variable {X:Cx}{pos:Pos}
end
end L2
namespace L2
open PySem PySem.Spec PyProof.Rows
section
variable {X:Cx}{tg:Expr}
end
end L2
namespace L2
open PySem PySem.Spec PyProof.Rows
section
variable {X:Cx}{a b c:Expr}{ta tb tc:TE}{pos:Pos}
end
section
variable {X:Cx}{a b c:Expr}{ta tb tc:TE}{pos:Pos}
end
end L2
namespace L2
open PySem PySem.Spec PyProof.Rows
section
variable {prog:Program}{w:World}{A:Around}{E:Value->Shared->Prop}{s:Shared}{K:PySem.W.Frag}{x dx C f:Addr}{mA:Str->Option Value}{name:Str}{v:Value}
end
section
variable {P:Program}{w:World}{H H':Hp}{h h':Heap}{a C dx:Addr}{fs fs':List (Str×V)}
end
section
variable {X:Cx}{pins:List (Addr×Obj)}{σ:St}{H:Hp}{s:Shared}{a C dx:Addr}{fs:List (Str×V)}{f:Str}{v:V}{A:Around}{E:Value->Shared->Prop}
end
section
variable {X:Cx}{o e value:Expr}{f:Str}{pos pos' tpos:Pos}{ta tv:TE}
end
section
variable {X:Cx}{pins:List (Addr×Obj)}{σ:St}{H:Hp}{s:Shared}{A:Around}{E:Value->Shared->Prop}{Q:Value->Shared->Prop}{c:Value}{b:Bool}
end
end L2
namespace L2
open PySem PySem.Spec PyProof.Rows
section
variable {X:Cx}{e:Expr}{es:List Expr}{te:TE}{t:TA}{pos:Pos}
end
section
variable {X:Cx}{pins:List (Addr×Obj)}{σ:St}{H:Hp}{s s':Shared}
end
section
variable {X:Cx}{CX:CXT}{k:Nat}{f C:Addr}{fd:FuncData}{ps:List Str}{sp:Sp}{dvs:List V}{ds:List Value}{E:XK}{x m:Str}{p pos apos:Pos}{e o:Expr}{es:List Expr}{ta:TE}{t:TA}
end
section
variable {X:Cx}{CX:CXT}{k:Nat}{f C:Addr}{fd:FuncData}{ps ks:List Str}{sp:Sp}{E:XK}{x m:Str}{p pos apos kpos:Pos}{e o:Expr}{es:List Expr}{kws:List Keyword}{te ta:TE}{t tk:TA}{nm:Option Str}
variable {g:List Value->List Value->List Value}{gV:List V->List V->List V}
end
end L2
namespace L2
open PySem PySem.Spec PyProof.Rows
section
variable {X:Cx}{x:Str}{p pos:Pos}{e:Expr}{es:List Expr}{t:TA}{id T:String}{r:List V->Hp->VK->Prop}
end
end L2
namespace L2
open PySem PySem.Spec PyProof.Rows
section
variable {κ:Type} [DecidableEq κ]
noncomputable def valV (kvs:List (κ×V)) (k:κ):Option V:=(kvs.find? fun kv=>decide (kv.1=k)).map (·.2)
noncomputable def putK (kvs:List (κ×V)) (k:κ) (v:V):List (κ×V) :=
 if (kvs.any fun kv=>decide (kv.1=k))=true then kvs.map (fun kv=>if kv.1=k then (kv.1,v) else kv) else kvs++[(k,v)]
noncomputable def dropK (kvs:List (κ×V)) (k:κ):List (κ×V):=kvs.filter fun kv=>decide (kv.1≠k)
theorem valV_pos {p:κ×V}{r:List (κ×V)}{k:κ} (e:p.1=k):valV (p::r) k=some p.2:=by simp[valV,List.find?_cons,e]
theorem valV_neg {p:κ×V}{r:List (κ×V)}{k:κ} (e:¬ p.1=k):valV (p::r) k=valV r k:=by simp[valV,List.find?_cons,e]
theorem valV_any (k:κ):∀ kvs:List (κ×V),(kvs.any fun kv=>decide (kv.1=k))=(valV kvs k).isSome
 |[]=>rfl
 |p::r=>by
  rw[List.any_cons]
  by_cases e:p.1=k
  ·simp only[valV_pos e,decide_eq_true e,Bool.true_or,Option.isSome_some]
  ·rw[valV_neg e,decide_eq_false e,Bool.false_or];exact valV_any k r
theorem length_putK (kvs:List (κ×V)) (k:κ) (v:V):(putK kvs k v).length<=kvs.length+1:=by
 unfold putK
 split
 ·rw[List.length_map];omega
 ·rw[List.length_append,List.length_cons,List.length_nil];omega
theorem putK_new {kvs:List (κ×V)}{k:κ} (v:V) (h:valV kvs k=none):putK kvs k v=kvs++[(k,v)]:=by
 unfold putK;rw[valV_any,h];exact if_neg (by decide)
theorem RelO.isSome_eq {o:Option V}{u:Option Value} (r:RelO o u):o.isSome=u.isSome:=by
 cases o with
 |none=>cases u with
  |none=>rfl
  |some _=>exact (show False from r).elim
 |some _=>cases u with
  |none=>exact (show False from r).elim
  |some _=>rfl
theorem RelO.getD {o:Option V}{u:Option Value}{d:V}{d':Value} (r:RelO o u) (rd:RelV d d'):RelV (o.getD d) (u.getD d'):=by
 cases o with
 |none=>cases u with
  |none=>exact rd
  |some _=>exact (show False from r).elim
 |some _=>cases u with
  |none=>exact (show False from r).elim
  |some _=>exact r
theorem KV.val {kvs:List (κ×V)}{vs:List (κ×Value)} (r:KV kvs vs) (k:κ):RelO (valV kvs k) (valueAt vs k):=by
 unfold KV at r
 induction r with
 |nil=>exact True.intro
 |@cons p q ps qs h t ih =>
  obtain⟨h1,h2⟩:=h
  by_cases e:p.1=k
  ·have e':q.1=k:=h1.symm.trans e
   have b:valueAt (q::qs) k=some q.2:=by simp[valueAt,List.find?_cons,e']
   rw[valV_pos e,b];exact h2
  ·have e':¬ q.1=k:=fun z=>e (h1.trans z)
   have b:valueAt (q::qs) k=valueAt qs k:=by simp[valueAt,List.find?_cons,e']
   rw[valV_neg e,b];exact ih
theorem KV.any {kvs:List (κ×V)}{vs:List (κ×Value)} (r:KV kvs vs) (k:κ):(kvs.any fun kv=>decide (kv.1=k))=vs.any fun kv=>decide (kv.1=k):=by
 unfold KV at r
 induction r with
 |nil=>rfl
 |cons h t ih=>rw[List.any_cons,List.any_cons,ih,h.1]
theorem KV.repl {kvs:List (κ×V)}{vs:List (κ×Value)} (r:KV kvs vs) (k:κ) {y:V}{u:Value} (ry:RelV y u) :
  KV (kvs.map fun kv=>if kv.1=k then (kv.1,y) else kv) (vs.map fun kv=>if kv.1=k then (kv.1,u) else kv):=by
 unfold KV at r ⊢
 induction r with
 |nil=>exact .nil
 |@cons p q ps qs h t ih =>
  rw[List.map_cons,List.map_cons];refine .cons ?_ ih;obtain⟨h1,h2⟩:=h
  by_cases e:p.1=k
  ·rw[if_pos e,if_pos (h1.symm.trans e)];exact⟨h1,ry⟩
  ·rw[if_neg e,if_neg (fun z=>e (h1.trans z))];exact⟨h1,h2⟩
theorem KV.put {kvs:List (κ×V)}{vs:List (κ×Value)} (r:KV kvs vs) (k:κ) {y:V}{u:Value} (ry:RelV y u):KV (putK kvs k y) (stored vs k u):=by
 unfold putK stored;rw[r.any k]
 by_cases e:(vs.any fun kv=>decide (kv.1=k))=true
 ·rw[if_pos e,if_pos e];exact r.repl k ry
 ·rw[if_neg e,if_neg e];exact Paired.snoc r ⟨rfl,ry⟩
theorem KV.drop {kvs:List (κ×V)}{vs:List (κ×Value)} (r:KV kvs vs) (k:κ):KV (dropK kvs k) (without vs k):=by
 unfold KV at r ⊢;unfold dropK without
 induction r with
 |nil=>exact .nil
 |@cons p q ps qs h t ih =>
  obtain⟨h1,h2⟩:=h;rw[List.filter_cons,List.filter_cons]
  by_cases e:p.1=k
  ·have a:¬ decide (p.1≠k)=true:=by simp[e]
   have b:¬ decide (q.1≠k)=true:=by simp[h1.symm.trans e]
   rw[if_neg a,if_neg b];exact ih
  ·have e':¬ q.1=k:=fun z=>e (h1.trans z)
   have a:decide (p.1≠k)=true:=by simp[e]
   have b:decide (q.1≠k)=true:=by simp[e']
   rw[if_pos a,if_pos b];exact .cons ⟨h1,h2⟩ ih
theorem KV.keys {kvs:List (κ×V)}{vs:List (κ×Value)} (r:KV kvs vs):kvs.map (·.1)=vs.map (·.1):=by
 unfold KV at r
 induction r with
 |nil=>rfl
 |cons h t ih=>rw[List.map_cons,List.map_cons,ih,h.1]
theorem KV.length {kvs:List (κ×V)}{vs:List (κ×Value)} (r:KV kvs vs):kvs.length=vs.length:=Paired.length r
end
theorem kV_is {P:Program}{w:World}{k:Key}{u:Value} (r:RelV (kV k) u):(mixKind P w).is k u=true:=by
 cases k with
 |inl i=>obtain⟨t,e⟩:=(show ∃ t,u=Value.int i t from r);subst e;exact mixKind_int P w i t
 |inr x=>obtain⟨t,e⟩:=(show ∃ t,u=Value.str x t from r);subst e;exact mixKind_str P w x t
theorem items_are {P:Program}{w:World}:∀ {ks:List Key}{us:List Value},Vals (ks.map kV) us->ItemsAre (mixKind P w) ks us
 |[],_,r=>by rw[List.map_nil] at r;cases r;exact .nil
 |k::ks,_,r=>by
  rw[List.map_cons] at r;cases r with
  |cons h t=>exact .cons (kV_is h) (items_are t)
noncomputable abbrev KT (H:Hp):List (List Key×V)->List (List Key×Addr×Value)->Prop:=Paired fun p q=>p.1=q.1/\H q.2.1=some (.tup (p.1.map kV))/\RelV p.2 q.2.2
theorem KT.val {H:Hp}{kvs:List (List Key×V)}{xs:List (List Key×Addr×Value)} (r:KT H kvs xs) (k:List Key):RelO (valV kvs k) ((atKey xs k).map (·.2)):=by
 induction r with
 |nil=>exact True.intro
 |@cons p q ps qs h t ih =>
  obtain⟨h1,_,h2⟩:=h
  by_cases e:p.1=k
  ·have e':q.1=k:=h1.symm.trans e
   have b:atKey (q::qs) k=some q.2:=by simp[atKey,List.find?_cons,e']
   rw[valV_pos e,b];exact h2
  ·have e':¬ q.1=k:=fun z=>e (h1.trans z)
   have b:atKey (q::qs) k=atKey qs k:=by simp[atKey,List.find?_cons,e']
   rw[valV_neg e,b];exact ih
theorem KT.repl {H:Hp}{kvs:List (List Key×V)}{xs:List (List Key×Addr×Value)} (r:KT H kvs xs) (k:List Key) {y:V}{u:Value} (ry:RelV y u) :
  KT H (kvs.map fun kv=>if kv.1=k then (kv.1,y) else kv) (xs.map (putAt k u)):=by
 induction r with
 |nil=>exact .nil
 |@cons p q ps qs h t ih =>
  rw[List.map_cons,List.map_cons];refine .cons ?_ ih;obtain⟨h1,h2,h3⟩:=h;unfold putAt
  by_cases e:p.1=k
  ·rw[if_pos e,if_pos (h1.symm.trans e)];exact⟨h1,h2,ry⟩
  ·rw[if_neg e,if_neg (fun z=>e (h1.trans z))];exact⟨h1,h2,h3⟩
theorem KT.put {H:Hp}{kvs:List (List Key×V)}{xs:List (List Key×Addr×Value)} (r:KT H kvs xs) (k:List Key) {b:Addr}{y:V}{u:Value} (hb:H b=some (.tup (k.map kV))) (ry:RelV y u) :
  KT H (putK kvs k y) (storedH xs k b u):=by
 have e:(kvs.any fun kv=>decide (kv.1=k))=(atKey xs k).isSome:=by
  rw[valV_any,(r.val k).isSome_eq,Option.isSome_map]
 unfold putK storedH;rw[e]
 by_cases q:(atKey xs k).isSome=true
 ·rw[if_pos q,if_pos q];exact r.repl k ry
 ·rw[if_neg q,if_neg q];exact Paired.snoc r ⟨rfl,hb,ry⟩
theorem KT.keeps {H H':Hp}{kvs:List (List Key×V)}{xs:List (List Key×Addr×Value)} (r:KT H kvs xs) (ht:∀ b ys,H b=some (.tup ys)->H' b=some (.tup ys)):KT H' kvs xs :=
 Paired.mapP r fun _ _ z=>⟨z.1,ht _ _ z.2.1,z.2.2⟩
section
variable {P:Program}{w:World}{H:Hp}{h:Heap}{a:Addr}
theorem rd_of {u:HO} (ok:HOk P w H h) (e:Rd H a u):ObjOk P w H h a u:=e.ok ok
theorem dk_rd {kvs:List (Key×V)} (ok:HOk P w H h) (e:Rd H a (.dK kvs)):kvs.length<=sizeLine/\(a==sysModules)=false/\∃ vs,KV kvs vs/\h.DictOf (mixKind P w) a vs :=
 show ObjOk P w H h a (.dK kvs) from rd_of ok e
theorem dk_of {kvs:List (Key×V)} (ok:HOk P w H h) (e:H a=some (.dK kvs)):kvs.length<=sizeLine/\(a==sysModules)=false/\∃ vs,KV kvs vs/\h.DictOf (mixKind P w) a vs:=dk_rd ok (.inl e)
theorem key_of {ks:List Key} (ok:HOk P w H h) (e:H a=some (.tup (ks.map kV))):(tupleKind (mixKind P w)).is h ks a:=by
 obtain⟨_,its,r,o,h1,h2,⟨n,h3⟩,_⟩:=(show ObjOk P w H h a (.tup (ks.map kV)) from ok a _ e);exact⟨o,its.toArray,n,h1,h2,h3,by simpa using items_are r⟩
theorem dt_rd {kvs:List (List Key×V)} (ok:HOk P w H h) (e:Rd H a (.dT kvs)):kvs.length<=sizeLine/\(a==sysModules)=false /\
  ∃ xs,KT H kvs xs/\h.DictOfH (tupleKind (mixKind P w)) a xs:=by
 obtain⟨z,y,xs,r,o,es,ep,h1,h2,h3,h4,h5⟩:=(show ObjOk P w H h a (.dT kvs) from rd_of ok e);refine⟨z,y,xs,r,o,es,ep,h1,h2,h3,h4,fun x hx=>?_,h5⟩
 have all:∀ {l:List (List Key×V)}{m:List (List Key×Addr×Value)},KT H l m->∀ x∈m,(tupleKind (mixKind P w)).is h x.1 x.2.1:=by
  intro l m q
  induction q with
  |nil=>intro x hx;exact nomatch hx
  |@cons p q ps qs hq t ih =>
   intro x hx
   rcases List.mem_cons.mp hx with e | hx
   ·subst e
    exact key_of ok (by rw[<- hq.1];exact hq.2.1)
   ·exact ih x hx
 exact all r x hx
theorem dt_of {kvs:List (List Key×V)} (ok:HOk P w H h) (e:H a=some (.dT kvs)):kvs.length<=sizeLine/\(a==sysModules)=false /\
  ∃ xs,KT H kvs xs/\h.DictOfH (tupleKind (mixKind P w)) a xs:=dt_rd ok (.inl e)
end
noncomputable def DGet (H:Hp) (a:Addr) (y:V) (r:Option V):Prop :=
 (∃ kvs k,Rd H a (.dK kvs)/\y=kV k/\r=valV kvs k)\/∃ kvs k b,Rd H a (.dT kvs)/\y=.ref b/\H b=some (.tup (k.map kV))/\r=valV kvs k
noncomputable def DPut (H:Hp) (a:Addr) (y v:V) (H':Hp):Prop :=
 (∃ kvs k,H a=some (.dK kvs)/\y=kV k/\kvs.length<sizeLine/\H'=upd H a (.dK (putK kvs k v))) \/
 ∃ kvs k b,H a=some (.dT kvs)/\y=.ref b/\H b=some (.tup (k.map kV))/\kvs.length<sizeLine/\H'=upd H a (.dT (putK kvs k v))
theorem DGet.k {H:Hp}{a:Addr}{kvs:List (Key×V)}{k:Key} (e:H a=some (.dK kvs)):DGet H a (kV k) (valV kvs k):=.inl ⟨kvs,k,.inl e,rfl,rfl⟩
theorem DGet.t {H:Hp}{a b:Addr}{kvs:List (List Key×V)}{k:List Key} (e:H a=some (.dT kvs)) (eb:H b=some (.tup (k.map kV))):DGet H a (.ref b) (valV kvs k):=.inr ⟨kvs,k,b,.inl e,rfl,eb,rfl⟩
theorem DPut.k {H:Hp}{a:Addr}{kvs:List (Key×V)}{k:Key}{v:V} (e:H a=some (.dK kvs)) (hl:kvs.length<sizeLine):DPut H a (kV k) v (upd H a (.dK (putK kvs k v))):=.inl ⟨kvs,k,e,rfl,hl,rfl⟩
theorem DPut.t {H:Hp}{a b:Addr}{kvs:List (List Key×V)}{k:List Key}{v:V} (e:H a=some (.dT kvs)) (eb:H b=some (.tup (k.map kV))) (hl:kvs.length<sizeLine) :
  DPut H a (.ref b) v (upd H a (.dT (putK kvs k v))):=.inr ⟨kvs,k,b,e,rfl,eb,hl,rfl⟩
section
variable {X:Cx}{pins:List (Addr×Obj)}{σ:St}{H:Hp}{s:Shared}{a:Addr}{y v:V}{u r:Value}{o:Option V}{A:Around}{E:Value->Shared->Prop}
theorem Inv.big (I:Inv X pins σ H s):sysModules<s.heap.objs.size:=by
 have h:mainGlobals<s.heap.objs.size:=(I.mod.glob.keeps I.bk).lt;exact Nat.lt_trans (by decide) h
theorem d_getItem {Q:Value->Shared->Prop} (hu:A.units+1<cLine) (I:Inv X pins σ H s) (g:DGet H a y (some v)) (ry:RelV y u) (h:∀ w' s',Inv X pins σ H s'->RelV v w'->Q w' s') :
  wpAny (model X.prog X.w) A (getItem (.ref a) u) Q E s:=by
 rcases g with ⟨kvs,k,e,ey,l⟩ | ⟨kvs,k,b,e,ey,eb,l⟩
 ·subst ey
  obtain⟨z,hd,vs,rel,dd⟩:=dk_rd I.hok e;obtain⟨w',hw,rw'⟩:=RelO.some_of (v:=v) (o:=valueAt vs k) (by rw[l];exact rel.val k)
  exact wpAny_getItem_of (kV_is ry) dd.mapOf hw (h w' _ (I.tok _) rw')
 ·subst ey
  cases (show u=Value.ref b from ry);obtain⟨z,hd,xs,rel,dd⟩:=dt_rd I.hok e;obtain⟨w',hw,rw'⟩:=RelO.some_of (v:=v) (o:=(atKey xs k).map (·.2)) (by rw[l];exact rel.val k)
  obtain⟨p,hp,hp2⟩:=Option.map_eq_some_iff.mp hw;refine wpAny_getItem_heap (tupleKind_room_in1 hu) (key_of I.hok eb) dd hp ?_;rw[hp2];exact h w' _ (I.tok _) rw'
theorem d_in {Q:Value->Shared->Prop} (hu:A.units+1<cLine) (I:Inv X pins σ H s) (g:DGet H a y o) (ry:RelV y u) (h:∀ s',Inv X pins σ H s'->Q (.bool o.isSome) s') :
  wpAny (model X.prog X.w) A (compareOp .In u (.ref a)) Q E s:=by
 rcases g with ⟨kvs,k,e,ey,l⟩ | ⟨kvs,k,b,e,ey,eb,l⟩
 ·subst ey
  obtain⟨z,hd,vs,rel,dd⟩:=dk_rd I.hok e;refine wpAny_in_of (kV_is ry) hd dd.mapOf ?_;rw[<- (rel.val k).isSome_eq,<- l];exact h _ (I.tok _)
 ·subst ey
  cases (show u=Value.ref b from ry);obtain⟨z,hd,xs,rel,dd⟩:=dt_rd I.hok e;refine wpAny_in_heap (tupleKind_room_in1 hu) (key_of I.hok eb) hd dd ?_;have q:=(rel.val k).isSome_eq;rw[Option.isSome_map] at q;rw[<- q,<- l];exact h _ (I.tok _)
theorem d_notIn {Q:Value->Shared->Prop} (hu:A.units+1<cLine) (I:Inv X pins σ H s) (g:DGet H a y o) (ry:RelV y u) (h:∀ s',Inv X pins σ H s'->Q (.bool (!o.isSome)) s') :
  wpAny (model X.prog X.w) A (compareOp .NotIn u (.ref a)) Q E s:=by
 rcases g with ⟨kvs,k,e,ey,l⟩ | ⟨kvs,k,b,e,ey,eb,l⟩
 ·subst ey
  obtain⟨z,hd,vs,rel,dd⟩:=dk_rd I.hok e;refine wpAny_notIn_of (kV_is ry) hd dd.mapOf ?_;rw[<- (rel.val k).isSome_eq,<- l];exact h _ (I.tok _)
 ·subst ey
  cases (show u=Value.ref b from ry);obtain⟨z,hd,xs,rel,dd⟩:=dt_rd I.hok e;refine wpAny_notIn_heap (tupleKind_room_in1 hu) (key_of I.hok eb) hd dd ?_;have q:=(rel.val k).isSome_eq;rw[Option.isSome_map] at q;rw[<- q,<- l];exact h _ (I.tok _)
theorem d_write {h':Heap}{t':Nat}{ob:HO} (I:Inv X pins σ H s) (mu:Mut (H a)) (hs:Heap.SameBut a s.heap h') (he:∃ q,h'.get? a=some q) (new:ObjOk X.prog X.w (upd H a ob) h' a ob) :
  Inv X pins σ (upd H a ob) {s with heap:=h',toks:=t'} :=
 I.write (x:=a) (e:=a) mu (.inl rfl) (fun b q hb z=>(hs.2 b hb).trans z) he new
theorem dk_new {P:Program}{w:World}{H':Hp}{h':Heap}{kvs:List (Key×V)}{vs:List (Key×Value)} (z:kvs.length<=sizeLine) (hd:(a==sysModules)=false) (rel:KV kvs vs) (dd:h'.DictOf (mixKind P w) a vs) :
  ObjOk P w H' h' a (.dK kvs):=⟨z,hd,vs,rel,dd⟩
theorem d_setItem {H':Hp}{Q:Unit->Shared->Prop} (hu:A.units+1<cLine) (I:Inv X pins σ H s) (g:DPut H a y v H') (ry:RelV y u) (rv:RelV v r) (h:∀ s',Inv X pins σ H' s'->Q () s') :
  wpAny (model X.prog X.w) A (setItem (.ref a) u r) Q E s:=by
 rcases g with ⟨kvs,k,e,ey,l,eH⟩ | ⟨kvs,k,b,e,ey,eb,l,eH⟩
 ·subst ey eH
  obtain⟨z,hd,vs,rel,dd⟩:=dk_of I.hok e;have hz:vs.length<=sizeLine:=by rw[<- rel.length];exact z
  have hl:(putK kvs k v).length<=sizeLine:=by have:=length_putK kvs k v;omega
  refine wpAny_setItem_pairs (hsz:=hz) (kV_is ry) dd fun h' dd' hs=>h _ ?_
  have he:∃ q,h'.get? a=some q:=let ⟨q,_,_,hq,_⟩:=dd';⟨q,hq⟩;exact d_write I (by rw[e];exact True.intro) hs he (dk_new hl hd (rel.put k rv) dd')
 ·subst ey eH
  cases (show u=Value.ref b from ry);obtain⟨z,hd,xs,rel,dd⟩:=dt_of I.hok e;have hz:xs.length<=sizeLine:=by rw[<- Paired.length rel];exact z
  have hl:(putK kvs k v).length<=sizeLine:=by have:=length_putK kvs k v;omega
  refine wpAny_setItem_heap (hsz:=hz) (tupleKind_room_in1 hu) (key_of I.hok eb) dd fun h' dd' hs=>h _ ?_
  obtain⟨q,es,ep,hq,h2,h3,h4,_,h5⟩:=dd';refine d_write I (by rw[e];exact True.intro) hs ⟨q,hq⟩ ⟨hl,hd,_,(rel.put k eb rv).keeps fun c ys ec=>?_,q,es,ep,hq,h2,h3,h4,h5⟩
  rw[upd_ne (ne_of ec e (fun z=>nomatch z))]
  exact ec
end
section
variable {X:Cx}{pins:List (Addr×Obj)}{σ:St}{H:Hp}{s:Shared}{a:Addr}{kvs:List (Key×V)}{k:Key}{u:Value}{A:Around}{E:Value->Shared->Prop}
end
noncomputable def NoSl (i:Expr):Prop:=∀ ov iv,subscripted i false ov iv=operate [ov,iv] (getItem ov iv)
theorem subD_of {prog:Program}{w:World}{A:Around}{E:Value->Shared->Prop}{s:Shared}{env:Env}{value slice:Expr}{pos:Pos}{T id:String}{Q:Value->Shared->Prop}
  (hl:typeLookup (.type T) "__getitem__"=pure (some (.builtin id))) (hs:NoSl slice)
  (h:wpAny (model prog w) A (eval value env) (fun o s₁=>wpAny (model prog w) A (eval slice env) (fun i s₂=>s₂.TypeIs o T/\wpAny (model prog w) A (getItem o i) Q E s₂) E s₁) E s) :
  wpAny (model prog w) A (eval (.Subscript value slice pos) env) Q E s:=by
 refine Subscript_ (wpAny_mono h (fun o s₁ h₁=>wpAny_mono h₁ (fun i s₂ h₂=>?_) fun _ _ x=>x) fun _ _ x=>x)
 obtain⟨hT,h₂⟩:=h₂;unfold subscriptTail;refine wpAny_bind ?_;rw[getitemInPython_of_ne hT.not_modules];refine wpAny_bind (wpAny_specialOf hT hl ?_)
 have fin:wpAny (model prog w) A (subscripted slice false o i) (fun r s₃=>wpAny (model prog w) A (letTemporaryGo value o r >>= fun _=>pure r) Q E s₃) E s₂:=by
  rw[hs o i];exact wpAny_operating (wpAny_mono h₂ (fun r s₃ h₃=>wpAny_bind (wpAny_letTemporaryGo (wpAny_pure h₃))) fun _ _ x=>x)
 first
  |exact wpAny_pure (wpAny_bind fin)
  |exact wpAny_bind (wpAny_pure (wpAny_bind fin))
  |exact wpAny_bind fin
theorem dict_typeIs {X:Cx}{pins:List (Addr×Obj)}{σ:St}{H:Hp}{s:Shared}{a:Addr}{y:V}{o:Option V} (I:Inv X pins σ H s) (g:DGet H a y o):s.TypeIs (.ref a) "dict":=by
 rcases g with ⟨kvs,k,e,_,_⟩ | ⟨kvs,k,b,e,_,_,_⟩
 ·obtain⟨_,_,vs,_,dd⟩:=dk_rd I.hok e
  exact dd.typeIs
 ·obtain⟨_,_,xs,_,dd⟩:=dt_rd I.hok e
  exact dd.typeIs
noncomputable def tDGet (td ty:TE):TE:=fun σ H Q=>td σ H fun x H1=>ty σ H1 fun y H2=>∃ a v,x=.ref a/\DGet H2 a y (some v)/\Q v H2
noncomputable def sDPut (td ty tv:TE):TS:=fun D σ H=>tv σ H fun v H1=>td σ H1 fun x H2=>ty σ H2 fun y H3=>∃ a H4,x=.ref a/\DPut H3 a y v H4/\D.nx σ H4
section
variable {X:Cx}{o i e value:Expr}{pos pos' tpos:Pos}{td ty tv:TE}
theorem pe_dget (hu:X.A.units+1<cLine) (ho:PE X o td) (hi:PE X i ty) (hs:NoSl i):PE X (.Subscript o i pos) (tDGet td ty):=by
 intro pins s σ H Q I h;refine subD_of PySem.F.slot_dict_getitem.lookup hs (thn (ho pins s σ H _ I h) fun u s1 ⟨x,H1,I1,rx,q1⟩=>thn (hi pins s1 σ H1 _ I1 q1) fun iv s2 ⟨y,H2,I2,ry,a,v,ex,g,q2⟩=>?_)
 subst ex;obtain rfl:u=Value.ref a:=rx;exact⟨dict_typeIs I2 g,d_getItem hu I2 g ry fun w' s3 I3 rw'=>⟨v,H2,I3,rw',q2⟩⟩
theorem ps_dput (hu:X.A.units+1<cLine) (ho:PE X o td) (hi:PE X i ty) (hv:PE X value tv) (hs:swapsWith value (some (.Subscript o i pos')) pos.line X.env=pure false) :
  PS X (.Assign [.Subscript o i pos'] value pos) (sDPut td ty tv):=by
 intro pins s σ H D I h;refine wpAny_Assign_Subscript (thn (hv pins s σ H _ I h) fun r s1 ⟨v,H1,I1,rv,q1⟩=>thn (ho pins s1 σ H1 _ I1 q1) fun u s2 ⟨x,H2,I2,rx,q2⟩=>thn (hi pins s2 σ H2 _ I2 q2) fun iv s3 ⟨y,H3,I3,ry,a,H4,ex,g,q3⟩=>?_) hs
 subst ex;obtain rfl:u=Value.ref a:=rx;exact d_setItem hu I3 g ry rv fun s4 I4=>⟨σ,H4,I4,q3⟩
end
theorem dk_empty {P:Program}{w:World}{H:Hp} (h:Heap) (hb:sysModules<h.objs.size):ObjOk P w H (h.push {cls:=.type "dict",data:=.dict #[]}) h.objs.size (.dK []) :=
 ⟨Nat.zero_le _,beq_eq_false_iff_ne.mpr (Ne.symm (Nat.ne_of_lt hb)),[],.nil,Heap.DictOf.new h⟩
noncomputable def tDNewK:TE:=fun _ H Q=>∀ p,H p=none->Q (.ref p) (upd H p (.dK []))
section
variable {X:Cx}{pos:Pos}
theorem pe_dnewK:PE X (.Dict [] [] pos) tDNewK:=fun pins s σ H Q I h =>
 wpAny_Dict_empty ⟨.ref s.heap.objs.size,_,I.laid (a:=s.heap.objs.size) (o:=.dK []) (t':=s.toks) (fun _ _ q=>Heap.get?_push_of_some _ q) (Nat.le_refl _) (dk_empty s.heap I.big),rfl,h _ (I.hok.fresh (Nat.le_refl _))⟩
end
noncomputable def tPairs:List (TE×TE)->St->Hp->(List (V×V)->Hp->Prop)->Prop
 |[],_,H,Q=>Q [] H
 |(tk,tv)::r,σ,H,Q=>tk σ H fun x H1=>tv σ H1 fun y H2=>tPairs r σ H2 fun ps H3=>Q ((x,y)::ps) H3
noncomputable abbrev VV:List (V×V)->List (Value×Value)->Prop:=Paired fun p q=>RelV p.1 q.1/\RelV p.2 q.2
noncomputable def PPs (X:Cx) (pos:Pos) (keys:List (Option Expr)) (values:List Expr) (trs:List (TE×TE)):Prop :=
 ∀ (pins:List (Addr×Obj)) (s:Shared) (σ:St) (H:Hp) (Q:List (V×V)->Hp->Prop),Inv X pins σ H s->tPairs trs σ H Q ->
  wpAny (model X.prog X.w) X.A (evalPairs (pairTrees keys values X.env pos)) (fun vs s'=>∃ ps H',Inv X pins σ H' s'/\VV ps vs/\Q ps H') X.xe s
theorem pps_nil {X:Cx}{pos:Pos}:PPs X pos [] [] []:=fun pins s σ H Q I h=>pairTrees_nil_walk ⟨[],H,I,.nil,h⟩
theorem pps_cons {X:Cx}{pos:Pos}{k v:Expr}{ks:List (Option Expr)}{vs:List Expr}{tk tv:TE}{trs:List (TE×TE)} (hk:PE X k tk) (hv:PE X v tv) (hr:PPs X pos ks vs trs) :
  PPs X pos (some k::ks) (v::vs) ((tk,tv)::trs):=fun pins s σ H Q I h =>
 pairTrees_cons_walk (thn (hk pins s σ H _ I h) fun u s1 ⟨x,H1,I1,rx,q1⟩=>thn (hv pins s1 σ H1 _ I1 q1) fun w2 s2 ⟨y,H2,I2,ry,q2⟩ =>
  thn (hr pins s2 σ H2 _ I2 q2) fun ws s3 ⟨ps,H3,I3,rel,q3⟩=>⟨(x,y)::ps,H3,I3,.cons ⟨rx,ry⟩ rel,q3⟩)
noncomputable def mergeK (kvs more:List (Key×V)):List (Key×V):=more.foldl (fun acc kv=>putK acc kv.1 kv.2) kvs
theorem KV.merge:∀ {more:List (Key×V)}{rs:List (Key×Value)}{kvs:List (Key×V)}{vs:List (Key×Value)},KV more rs->KV kvs vs->KV (mergeK kvs more) (merged vs rs):=by
 intro more rs kvs vs r;unfold KV at r
 induction r generalizing kvs vs with
 |nil=>intro q;exact q
 |@cons p q ps qs h t ih =>
  intro r0
  have e:KV (putK kvs p.1 p.2) (stored vs q.1 q.2):=by
   have:=r0.put p.1 h.2;rw[<- h.1];exact this
  exact ih e
theorem length_mergeK:∀ (more kvs:List (Key×V)),(mergeK kvs more).length<=kvs.length+more.length
 |[],kvs=>by show kvs.length<=kvs.length+0;omega
 |p::r,kvs=>by
  have h1:=length_mergeK r (putK kvs p.1 p.2);have h2:=length_putK kvs p.1 p.2;show (mergeK (putK kvs p.1 p.2) r).length<=_;rw[List.length_cons];omega
theorem carries_of {P:Program}{w:World}:∀ {kvs:List (Key×V)}{ws:List (Value×Value)},VV (kvs.map fun kv=>(kV kv.1,kv.2)) ws->∃ rs,Carries (mixKind P w) ws rs/\KV kvs rs
 |[],_,r=>by rw[List.map_nil] at r;cases r;exact⟨[],True.intro,.nil⟩
 |p::kvs,_,r=>by
  rw[List.map_cons] at r;cases r with
  |@cons a b as bs h t =>
   obtain⟨rs,c,q⟩:=carries_of (P:=P) (w:=w) t;obtain⟨b1,b2⟩:=b;exact⟨(p.1,b2)::rs,⟨kV_is h.1,rfl,c⟩,.cons ⟨rfl,h.2⟩ q⟩
noncomputable def tDisp (trs:List (TE×TE)):TE:=fun σ H Q=>∀ p,H p=none->tPairs trs σ (upd H p (.dK [])) fun ps H2=>H2 p=some (.dK [])/\∃ kvs:List (Key×V),ps=kvs.map (fun kv=>(kV kv.1,kv.2))/\kvs.length<=15/\Q (.ref p) (upd H2 p (.dK (mergeK [] kvs)))
theorem pe_disp {X:Cx}{pos:Pos}{keys:List (Option Expr)}{values:List Expr}{trs:List (TE×TE)} (h:PPs X pos keys values trs) (hall:keys.all (·.isSome)=true) (hl:keys.length=values.length) (h0:keys≠[])
  (h15:keys.length<=15):PE X (.Dict keys values pos) (tDisp trs):=by
 intro pins s σ H Q I q;have hn:=I.hok.fresh (Nat.le_refl s.heap.objs.size);have I1:=I.laid (a:=s.heap.objs.size) (o:=.dK []) (h':=s.heap.push {cls:=.type "dict",data:=.dict #[]}) (t':=s.toks) (fun _ _ q=>Heap.get?_push_of_some _ q) (Nat.le_refl _) (dk_empty s.heap I.big)
 refine wpAny_Dict_walk (knd:=mixKind X.prog X.w) hall hl h0 h15 (thn (h pins _ σ _ _ I1 (q _ hn)) fun ws s2 ⟨ps,H2,I2,rel,e,kvs,ep,lk,q2⟩=>?_)
 subst ep;obtain⟨rs,c,rk⟩:=carries_of (P:=X.prog) (w:=X.w) rel;obtain⟨z,hd,vs0,r0,dd⟩:=dk_of I2.hok e;cases r0;refine⟨rs,c,dd,fun h' dd' hs=>⟨.ref s.heap.objs.size,_,?_,rfl,q2⟩⟩
 have hz:(mergeK [] kvs).length<=sizeLine:=by
  have h1:=length_mergeK kvs [];rw[List.length_nil] at h1;rw[sizeLine_eq];omega
 have he:∃ q,h'.get? s.heap.objs.size=some q:=let ⟨q,_,_,hq,_⟩:=dd';⟨q,hq⟩;exact d_write I2 (by rw[e];exact True.intro) hs he (dk_new hz hd (rk.merge .nil) dd')
structure M1 (X:Cx) (o:Expr) (m:Str) (apos:Pos) (e:Expr) (cpos:Pos):Prop where
 base:attributeBase o m X.env (eval o X.env)=eval o X.env
 few:((backTo cpos (starEach [e] X.env)).all (fun x=>!x.1)&&(backToKw cpos (keywordEach [] X.env)).all (fun x=>x.1.isSome)
  && decide (([e]:List Expr).length+([]:List Keyword).length+(if ([]:List Keyword).isEmpty then 0 else 1)<30))=true
 line:(apos.endLine==cpos.line)=true
 trees:backTo cpos (starEach [e] X.env)=[(false,eval e X.env)]
structure M2 (X:Cx) (o:Expr) (m:Str) (apos:Pos) (e f:Expr) (cpos:Pos):Prop where
 base:attributeBase o m X.env (eval o X.env)=eval o X.env
 few:((backTo cpos (starEach [e,f] X.env)).all (fun x=>!x.1)&&(backToKw cpos (keywordEach [] X.env)).all (fun x=>x.1.isSome)
  && decide (([e,f]:List Expr).length+([]:List Keyword).length+(if ([]:List Keyword).isEmpty then 0 else 1)<30))=true
 line:(apos.endLine==cpos.line)=true
 trees:backTo cpos (starEach [e,f] X.env)=[(false,eval e X.env),(false,eval f X.env)]
section
variable {X:Cx}{pins:List (Addr×Obj)}{σ:St}{H:Hp}{s:Shared}{a:Addr}{y d:V}{u r:Value}{o:Option V}{A:Around}{E:Value->Shared->Prop}
end
section
variable {X:Cx}{o e f:Expr}{apos cpos:Pos}{td ty tx:TE}
end
section
variable {X:Cx}{pins:List (Addr×Obj)}{σ:St}{H:Hp}{s:Shared}{a:Addr}{kvs:List (Key×V)}{A:Around}{E:Value->Shared->Prop}
end
section
variable {X:Cx}{pins:List (Addr×Obj)}{σ:St}{H:Hp}{s:Shared}{a:Addr}{y:V}{u:Value}{A:Around}{E:Value->Shared->Prop}
end
end L2
namespace Att
open PySem PySem.W PySem.Calls PyProof.Rows
section
variable {prog:Program}{w:World}{A:Around}{E:Value->Shared->Prop}{s:Shared}{K:Frag}
end
end Att
namespace L2
open PySem PySem.Spec PyProof.Rows
end L2
namespace L2
open PySem PySem.Spec PyProof.Rows
end L2
namespace L2
open PySem PySem.Spec PyProof.Rows
section
variable {P:Program}{w:World}{K:PySem.W.Frag}{mg:Str->Option Value}{base:Heap}
end
section
variable {X:Cx}
end
section
variable {κ:Type} [DecidableEq κ]
theorem valV_in {kvs:List (κ×V)}{k:κ}{v:V} (h:valV kvs k=some v):k∈kvs.map (·.1):=by
 have q:(kvs.any fun kv=>decide (kv.1=k))=true:=by
  rw[valV_any,h]
  all_goals rfl
 obtain⟨p,hp,e⟩:=List.any_eq_true.mp q;exact List.mem_map.mpr ⟨p,hp,of_decide_eq_true e⟩
end
end L2
namespace Fx
open PySem
inductive D where
 |non | bl (b:Bool) | int (i:Int) | str (x:Str) | tup (xs:List D) | lst (xs:List D)
 |opq
 |dct (ks:List Str) (vs:List D)
inductive MO where
 |lst (xs:List D) | dic (kvs:List (Str×D))
inductive Sl where
 |no | im (d:D) | ow (b:Bool) (o:MO)
noncomputable abbrev En:=List Sl
inductive Res where
 |nx (ρ:En) | rt (d:D) (ρ:En) | bk (ρ:En) | ct (ρ:En)
noncomputable abbrev FE:=En->Option (D×En)
noncomputable abbrev FT:=En->Option (Bool×En)
noncomputable abbrev FA:=En->Option (List D×En)
noncomputable abbrev FS:=En->Option Res
noncomputable def bnd {α β:Type} (x:Option α) (f:α->Option β):Option β:=x.bind f
theorem bnd_some {α β:Type} (a:α) (f:α->Option β):bnd (some a) f=f a:=rfl
mutual
noncomputable def eqD:D->D->Bool
 |.non,.non=>true
 |.bl a,.bl b=>a==b
 |.bl a,.int b=>(if a then 1 else 0)==b
 |.int a,.bl b=>a==(if b then 1 else 0)
 |.int a,.int b=>a==b
 |.str a,.str b=>a==b
 |.tup a,.tup b=>eqDs a b
 |.lst a,.lst b=>eqDs a b
 |_,_=>false
noncomputable def eqDs:List D->List D->Bool
 |[],[]=>true
 |a::r,b::t=>eqD a b&&eqDs r t
 |_,_=>false
end
@[simp] theorem eqD_non_non :eqD .non .non=true:=by rw[eqD]
@[simp] theorem eqD_non_bl (y:Bool):eqD .non (.bl y)=false:=by simp[eqD]
@[simp] theorem eqD_non_int (y:Int):eqD .non (.int y)=false:=by simp[eqD]
@[simp] theorem eqD_non_str (y:Str):eqD .non (.str y)=false:=by simp[eqD]
@[simp] theorem eqD_non_tup (y:List D):eqD .non (.tup y)=false:=by simp[eqD]
@[simp] theorem eqD_non_lst (y:List D):eqD .non (.lst y)=false:=by simp[eqD]
@[simp] theorem eqD_bl_non (x:Bool):eqD (.bl x) .non=false:=by simp[eqD]
@[simp] theorem eqD_bl_bl (x:Bool) (y:Bool):eqD (.bl x) (.bl y)=decide (x=y):=by rw[eqD];exact Bool.beq_eq_decide_eq _ _
@[simp] theorem eqD_bl_int (x:Bool) (y:Int):eqD (.bl x) (.int y)=((if x then 1 else 0)==y):=by rw[eqD]
@[simp] theorem eqD_bl_str (x:Bool) (y:Str):eqD (.bl x) (.str y)=false:=by simp[eqD]
@[simp] theorem eqD_bl_tup (x:Bool) (y:List D):eqD (.bl x) (.tup y)=false:=by simp[eqD]
@[simp] theorem eqD_bl_lst (x:Bool) (y:List D):eqD (.bl x) (.lst y)=false:=by simp[eqD]
@[simp] theorem eqD_int_non (x:Int):eqD (.int x) .non=false:=by simp[eqD]
@[simp] theorem eqD_int_bl (x:Int) (y:Bool):eqD (.int x) (.bl y)=(x==(if y then 1 else 0)):=by rw[eqD]
@[simp] theorem eqD_int_int (x:Int) (y:Int):eqD (.int x) (.int y)=decide (x=y):=by rw[eqD];exact Bool.beq_eq_decide_eq _ _
@[simp] theorem eqD_int_str (x:Int) (y:Str):eqD (.int x) (.str y)=false:=by simp[eqD]
@[simp] theorem eqD_int_tup (x:Int) (y:List D):eqD (.int x) (.tup y)=false:=by simp[eqD]
@[simp] theorem eqD_int_lst (x:Int) (y:List D):eqD (.int x) (.lst y)=false:=by simp[eqD]
@[simp] theorem eqD_str_non (x:Str):eqD (.str x) .non=false:=by simp[eqD]
@[simp] theorem eqD_str_bl (x:Str) (y:Bool):eqD (.str x) (.bl y)=false:=by simp[eqD]
@[simp] theorem eqD_str_int (x:Str) (y:Int):eqD (.str x) (.int y)=false:=by simp[eqD]
@[simp] theorem eqD_str_str (x:Str) (y:Str):eqD (.str x) (.str y)=decide (x=y):=by rw[eqD];exact Bool.beq_eq_decide_eq _ _
@[simp] theorem eqD_str_tup (x:Str) (y:List D):eqD (.str x) (.tup y)=false:=by simp[eqD]
@[simp] theorem eqD_str_lst (x:Str) (y:List D):eqD (.str x) (.lst y)=false:=by simp[eqD]
@[simp] theorem eqD_tup_non (x:List D):eqD (.tup x) .non=false:=by simp[eqD]
@[simp] theorem eqD_tup_bl (x:List D) (y:Bool):eqD (.tup x) (.bl y)=false:=by simp[eqD]
@[simp] theorem eqD_tup_int (x:List D) (y:Int):eqD (.tup x) (.int y)=false:=by simp[eqD]
@[simp] theorem eqD_tup_str (x:List D) (y:Str):eqD (.tup x) (.str y)=false:=by simp[eqD]
@[simp] theorem eqD_tup_tup (x:List D) (y:List D):eqD (.tup x) (.tup y)=eqDs x y:=by rw[eqD]
@[simp] theorem eqD_tup_lst (x:List D) (y:List D):eqD (.tup x) (.lst y)=false:=by simp[eqD]
@[simp] theorem eqD_lst_non (x:List D):eqD (.lst x) .non=false:=by simp[eqD]
@[simp] theorem eqD_lst_bl (x:List D) (y:Bool):eqD (.lst x) (.bl y)=false:=by simp[eqD]
@[simp] theorem eqD_lst_int (x:List D) (y:Int):eqD (.lst x) (.int y)=false:=by simp[eqD]
@[simp] theorem eqD_lst_str (x:List D) (y:Str):eqD (.lst x) (.str y)=false:=by simp[eqD]
@[simp] theorem eqD_lst_tup (x:List D) (y:List D):eqD (.lst x) (.tup y)=false:=by simp[eqD]
@[simp] theorem eqD_lst_lst (x:List D) (y:List D):eqD (.lst x) (.lst y)=eqDs x y:=by rw[eqD]
@[simp] theorem eqDs_nn:eqDs [] []=true:=by rw[eqDs]
@[simp] theorem eqDs_cc (a b:D) (r t:List D):eqDs (a::r) (b::t)=(eqD a b&&eqDs r t):=by rw[eqDs]
@[simp] theorem eqDs_nc (b:D) (t:List D):eqDs [] (b::t)=false:=by simp[eqDs]
@[simp] theorem eqDs_cn (b:D) (t:List D):eqDs (b::t) []=false:=by simp[eqDs]
mutual
noncomputable def dpD:D->Nat
 |.tup xs=>dpDs xs+1
 |.lst xs=>dpDs xs+1
 |.opq=>1000
 |.dct _ _=>1000
 |_=>0
noncomputable def dpDs:List D->Nat
 |[]=>0
 |d::r=>max (dpD d) (dpDs r)
end
@[simp] theorem dpD_opq:dpD .opq=1000:=rfl
@[simp] theorem dpD_dct (ks:List Str) (vs:List D):dpD (.dct ks vs)=1000:=rfl
@[simp] theorem dpD_non:dpD .non=0:=rfl
@[simp] theorem dpD_bl (b:Bool):dpD (.bl b)=0:=rfl
@[simp] theorem dpD_int (i:Int):dpD (.int i)=0:=rfl
@[simp] theorem dpD_str (x:Str):dpD (.str x)=0:=rfl
@[simp] theorem dpD_tup (xs:List D):dpD (.tup xs)=dpDs xs+1:=rfl
@[simp] theorem dpD_lst (xs:List D):dpD (.lst xs)=dpDs xs+1:=rfl
@[simp] theorem dpDs_nil:dpDs []=0:=rfl
@[simp] theorem dpDs_cons (d:D) (r:List D):dpDs (d::r)=max (dpD d) (dpDs r):=rfl
noncomputable def bigM (i:Int):Bool:=decide (i.natAbs<2 ^ 1000)
noncomputable def okMul (i j:Int):Bool:=decide (i.natAbs<2 ^ 64)||decide (j.natAbs<2 ^ 64)||(bigM i&&bigM j)
noncomputable def okDiv (j:Int):Bool:=decide (j≠0)&&decide (j.natAbs<2 ^ 1000)
noncomputable def dAdd:D->D->Option D
 |.int i,.int j=>some (.int (i+j))
 |.str a,.str b=>if a.length+b.length<=sizeLine then some (.str (a++b)) else none
 |.lst a,.lst b=>if a.length+b.length<=sizeLine then some (.lst (a++b)) else none
 |_,_=>none
noncomputable def dSub:D->D->Option D
 |.int i,.int j=>some (.int (i-j))
 |_,_=>none
noncomputable def dMul:D->D->Option D
 |.int i,.int j=>if okMul i j=true then some (.int (i*j)) else none
 |_,_=>none
noncomputable def dDiv:D->D->Option D
 |.int i,.int j=>if okDiv j=true then some (.int (i.fdiv j)) else none
 |_,_=>none
noncomputable def dMod:D->D->Option D
 |.int i,.int j=>if j≠0 then some (.int (i.fmod j)) else none
 |_,_=>none
noncomputable def dPow:D->D->Option D
 |.int i,.int j=>if 0<=j/\j<=64/\i.natAbs<2 ^ 64 then some (.int (i ^ j.toNat)) else none
 |_,_=>none
noncomputable def dNeg:D->Option D
 |.int i=>some (.int (-i))
 |_=>none
noncomputable def dCmp (p:Int->Int->Bool):D->D->Option D
 |.int i,.int j=>some (.bl (p i j))
 |_,_=>none
noncomputable def dLt:D->D->Option D:=dCmp fun i j=>decide (i<j)
noncomputable def dLe:D->D->Option D:=dCmp fun i j=>decide (i<=j)
noncomputable def dGt:D->D->Option D:=dCmp fun i j=>decide (j<i)
noncomputable def dGe:D->D->Option D:=dCmp fun i j=>decide (j<=i)
noncomputable def dEq (x y:D):Option D:=if dpD x<=30/\dpD y<=30 then some (.bl (eqD x y)) else none
noncomputable def dNe (x y:D):Option D:=if dpD x<=30/\dpD y<=30 then some (.bl (!eqD x y)) else none
noncomputable def isN:D->Bool
 |.non=>true
 |_=>false
@[simp] theorem isN_opq:isN .opq=false:=rfl
@[simp] theorem isN_dct (ks:List Str) (vs:List D):isN (.dct ks vs)=false:=rfl
@[simp] theorem isN_non:isN .non=true:=rfl
@[simp] theorem isN_bl (b:Bool):isN (.bl b)=false:=rfl
@[simp] theorem isN_int (b:Int):isN (.int b)=false:=rfl
@[simp] theorem isN_str (b:Str):isN (.str b)=false:=rfl
@[simp] theorem isN_tup (b:List D):isN (.tup b)=false:=rfl
@[simp] theorem isN_lst (b:List D):isN (.lst b)=false:=rfl
noncomputable def dIs (x y:D):Option D:=match y with
 |.non=>some (.bl (isN x))
 |_=>none
noncomputable def dIsNot (x y:D):Option D:=match y with
 |.non=>some (.bl (!isN x))
 |_=>none
noncomputable def dTru:D->Option Bool
 |.non=>some false
 |.bl b=>some b
 |.int i=>some (i != 0)
 |.lst xs=>some (!xs.isEmpty)
 |.tup xs=>some (!xs.isEmpty)
 |_=>none
noncomputable def dPl (n:Nat) (i:Int):Option Nat:=if 0<=i then (if i<n then some i.toNat else none) else if -(n:Int)<=i then some (i+n).toNat else none
noncomputable def atD (xs:List D) (i:Int):Option D:=(dPl xs.length i).bind fun j=>xs[j]?
noncomputable def dIx:D->D->Option D
 |.tup xs,.int i=>atD xs i
 |.lst xs,.int i=>atD xs i
 |_,_=>none
noncomputable def dEnd (n d:Nat):Option Int->Nat
 |none=>d
 |some v=>(if v<0 then max (v+(n:Int)) 0 else min v (n:Int)).toNat
noncomputable def dCut (xs:List D) (lo hi:Option Int):List D:=(xs.drop (dEnd xs.length 0 lo)).take (dEnd xs.length xs.length hi-dEnd xs.length 0 lo)
noncomputable def dSl:D->Option Int->Option Int->Option D
 |.lst xs,lo,hi=>some (.lst (dCut xs lo hi))
 |.tup xs,lo,hi=>if dEnd xs.length 0 lo=0/\dEnd xs.length xs.length hi=xs.length then none else some (.tup (dCut xs lo hi))
 |_,_,_=>none
noncomputable def bAbs:List D->Option D
 |[.int i]=>some (.int (if i<0 then -i else i))
 |_=>none
noncomputable def bLen:List D->Option D
 |[.lst xs]=>some (.int xs.length)
 |[.tup xs]=>some (.int xs.length)
 |_=>none
noncomputable def intsOf:List D->Option (List Int)
 |[]=>some []
 |.int i::r=>bnd (intsOf r) fun is=>some (i::is)
 |_=>none
noncomputable def minI:Int->List Int->Int
 |m,[]=>m
 |m,x::r=>minI (if x<m then x else m) r
noncomputable def maxI:Int->List Int->Int
 |m,[]=>m
 |m,x::r=>maxI (if m<x then x else m) r
noncomputable def bestI (f:Int->List Int->Int):List Int->Option D
 |[]=>none
 |i::r=>some (.int (f i r))
noncomputable def bMax:List D->Option D
 |[.int i,.int j]=>some (.int (if j > i then j else i))
 |[.lst xs]=>bnd (intsOf xs) fun is=>bestI maxI is
 |_=>none
noncomputable def bMin:List D->Option D
 |[.int i,.int j]=>some (.int (if j<i then j else i))
 |[.lst xs]=>bnd (intsOf xs) fun is=>bestI minI is
 |_=>none
noncomputable def bools:List D->Option (List Bool)
 |[]=>some []
 |.bl b::r=>bnd (bools r) fun bs=>some (b::bs)
 |_=>none
theorem bools_cons (b:Bool) (r:List D):bools (.bl b::r)=bnd (bools r) fun bs=>some (b::bs):=rfl
noncomputable def bAny:List D->Option D
 |[.lst xs]=>bnd (bools xs) fun bs=>some (.bl (bs.any id))
 |_=>none
noncomputable def bAll:List D->Option D
 |[.lst xs]=>bnd (bools xs) fun bs=>some (.bl (bs.all id))
 |_=>none
inductive Ty where
 |int | bool | str | tuple | list
noncomputable def isTy:Ty->D->Bool
 |.int,.int _=>true
 |.int,.bl _=>true
 |.bool,.bl _=>true
 |.str,.str _=>true
 |.tuple,.tup _=>true
 |.list,.lst _=>true
 |_,_=>false
noncomputable def slV (ρ:En):Option Sl->Option (D×En)
 |some (.im d)=>some (d,ρ)
 |_=>none
noncomputable def eV (i:Nat) (ρ:En):Option (D×En):=slV ρ ρ[i]?
noncomputable def eC (d:D) (ρ:En):Option (D×En):=some (d,ρ)
noncomputable def e1 (op:D->Option D) (F:FE) (ρ:En):Option (D×En):=bnd (F ρ) fun p=>bnd (op p.1) fun d=>some (d,p.2)
noncomputable def e2 (op:D->D->Option D) (F G:FE) (ρ:En):Option (D×En):=bnd (F ρ) fun p=>bnd (G p.2) fun q=>bnd (op p.1 q.1) fun d=>some (d,q.2)
noncomputable def blB:D->Option Bool
 |.bl b=>some b
 |_=>none
noncomputable def e3 (op op':D->D->Option D) (F G L:FE) (ρ:En):Option (D×En):=bnd (F ρ) fun p=>bnd (G p.2) fun q=>bnd (op p.1 q.1) fun z=>bnd (blB z) fun b =>
 if b=true then bnd (L q.2) fun r=>bnd (op' q.1 r.1) fun d=>some (d,r.2) else some (.bl false,q.2)
noncomputable def aN (ρ:En):Option (List D×En):=some ([],ρ)
noncomputable def aC (F:FE) (A:FA) (ρ:En):Option (List D×En):=bnd (F ρ) fun p=>bnd (A p.2) fun q=>some (p.1::q.1,q.2)
noncomputable def eTup (A:FA) (ρ:En):Option (D×En):=bnd (A ρ) fun p=>if p.1.length<=1000 then some (.tup p.1,p.2) else none
noncomputable def eLst (A:FA) (ρ:En):Option (D×En):=bnd (A ρ) fun p=>if p.1.length<=1000 then some (.lst p.1,p.2) else none
noncomputable def eF (g:List D->Option D) (A:FA) (ρ:En):Option (D×En):=bnd (A ρ) fun p=>bnd (g p.1) fun d=>some (d,p.2)
noncomputable def eTy (t:Ty) (F:FE) (ρ:En):Option (D×En):=bnd (F ρ) fun p=>some (.bl (isTy t p.1),p.2)
noncomputable abbrev FO:=En->Option (Option Int×En)
noncomputable def intI:D->Option Int
 |.int i=>some i
 |_=>none
noncomputable def oN (ρ:En):Option (Option Int×En):=some (none,ρ)
noncomputable def oS (F:FE) (ρ:En):Option (Option Int×En):=bnd (F ρ) fun p=>bnd (intI p.1) fun i=>some (some i,p.2)
noncomputable def eSl (F:FE) (lo hi:FO) (ρ:En):Option (D×En):=bnd (F ρ) fun p=>bnd (lo p.2) fun l=>bnd (hi l.2) fun h=>bnd (dSl p.1 l.1 h.1) fun d=>some (d,h.2)
noncomputable def tB (F:FE) (ρ:En):Option (Bool×En):=bnd (F ρ) fun p=>bnd (blB p.1) fun b=>some (b,p.2)
noncomputable def tV (F:FE) (ρ:En):Option (Bool×En):=bnd (F ρ) fun p=>bnd (dTru p.1) fun b=>some (b,p.2)
noncomputable def tAnd (T U:FT) (ρ:En):Option (Bool×En):=bnd (T ρ) fun p=>if p.1=true then U p.2 else some (false,p.2)
noncomputable def tOr (T U:FT) (ρ:En):Option (Bool×En):=bnd (T ρ) fun p=>if p.1=true then some (true,p.2) else U p.2
noncomputable def tNot (T:FT) (ρ:En):Option (Bool×En):=bnd (T ρ) fun p=>some (!p.1,p.2)
noncomputable def tYes (ρ:En):Option (Bool×En):=some (true,ρ)
noncomputable def eIf (T:FT) (F G:FE) (ρ:En):Option (D×En):=bnd (T ρ) fun p=>if p.1=true then F p.2 else G p.2
noncomputable def eAnd (F G:FE) (ρ:En):Option (D×En):=bnd (F ρ) fun p=>bnd (blB p.1) fun b=>if b=true then G p.2 else some (.bl false,p.2)
noncomputable def eOr (F G:FE) (ρ:En):Option (D×En):=bnd (F ρ) fun p=>bnd (blB p.1) fun b=>if b=true then some (.bl true,p.2) else G p.2
noncomputable def eNot (F:FE) (ρ:En):Option (D×En):=bnd (F ρ) fun p=>bnd (blB p.1) fun b=>some (.bl (!b),p.2)
noncomputable def slI:Option Sl->Option Sl
 |some (.im d)=>some (.im d)
 |_=>none
noncomputable def imAt (ρ:En):List Nat->Option En
 |[]=>some []
 |j::js=>bnd (slI ρ[j]?) fun s=>bnd (imAt ρ js) fun r=>some (s::r)
theorem imAt_cons (ρ:En) (j:Nat) (js:List Nat):imAt ρ (j::js)=bnd (slI ρ[j]?) fun s=>bnd (imAt ρ js) fun r=>some (s::r):=rfl
noncomputable def cGo (T:FT) (F:FE) (fr:En):List D->Option (List D)
 |[]=>some []
 |d::r=>bnd (T (.im d::fr)) fun p=>if p.1=true then bnd (F p.2) fun q=>bnd (cGo T F fr r) fun t=>some (q.1::t) else cGo T F fr r
theorem cGo_nil (T:FT) (F:FE) (fr:En):cGo T F fr []=some []:=rfl
theorem cGo_cons (T:FT) (F:FE) (fr:En) (d:D) (r:List D):cGo T F fr (d::r)=bnd (T (.im d::fr)) fun p=>if p.1=true then bnd (F p.2) fun q=>bnd (cGo T F fr r) fun t=>some (q.1::t) else cGo T F fr r:=rfl
noncomputable def chS (c:Nat):Str:=⟨#[c]⟩
noncomputable def chs (z:Str):List D:=z.cps.toList.map fun c=>.str (chS c)
noncomputable def items:D->Option (List D)
 |.lst xs=>some xs
 |.tup xs=>some xs
 |.str z=>some (chs z)
 |_=>none
noncomputable def eLC (js:List Nat) (I:FE) (T:FT) (F:FE) (ρ:En):Option (D×En):=bnd (I ρ) fun p=>bnd (items p.1) fun xs=>bnd (imAt p.2 js) fun fr=>bnd (cGo T F fr xs) fun ys=>if xs.length<=sizeLine then some (.lst ys,p.2) else none
noncomputable def sN (ρ:En):Option Res:=some (.nx ρ)
noncomputable def nxR (G:FS):Res->Option Res
 |.nx ρ'=>G ρ'
 |.rt d ρ=>some (.rt d ρ)
 |.bk ρ=>some (.bk ρ)
 |.ct ρ=>some (.ct ρ)
noncomputable def sSeq (F G:FS) (ρ:En):Option Res:=bnd (F ρ) fun r=>nxR G r
noncomputable def sSet (i:Nat) (F:FE) (ρ:En):Option Res:=bnd (F ρ) fun p=>some (.nx (p.2.set i (.im p.1)))
noncomputable def setAll:List Nat->List D->En->En
 |i::is,d::ds,ρ=>setAll is ds (ρ.set i (.im d))
 |_,_,ρ=>ρ
noncomputable def tupX:D->Option (List D)
 |.tup xs=>some xs
 |.lst xs=>some xs
 |_=>none
noncomputable def gN (i:Nat) (d:D) (ρ:En):Option En:=some (ρ.set i (.im d))
noncomputable def gT (is:List Nat) (d:D) (ρ:En):Option En:=bnd (tupX d) fun xs=>if xs.length=is.length then some (setAll is xs ρ) else none
noncomputable def sTup (is:List Nat) (F:FE) (ρ:En):Option Res:=bnd (F ρ) fun p=>bnd (gT is p.1 p.2) fun ρ'=>some (.nx ρ')
noncomputable def sIf (T:FT) (F G:FS) (ρ:En):Option Res:=bnd (T ρ) fun p=>if p.1=true then F p.2 else G p.2
noncomputable def sRet (F:FE) (ρ:En):Option Res:=bnd (F ρ) fun p=>some (.rt p.1 p.2)
noncomputable def sRetN (ρ:En):Option Res:=some (.rt .non ρ)
noncomputable def sBk (ρ:En):Option Res:=some (.bk ρ)
noncomputable def sCt (ρ:En):Option Res:=some (.ct ρ)
noncomputable def goR (G:FS):Res->Option Res
 |.nx ρ=>G ρ
 |.ct ρ=>G ρ
 |.bk ρ=>some (.nx ρ)
 |.rt d ρ=>some (.rt d ρ)
noncomputable def fGo (g:D->En->Option En) (B:FS):List D->FS
 |[],ρ=>some (.nx ρ)
 |d::r,ρ=>bnd (g d ρ) fun ρ1=>bnd (B ρ1) fun z=>goR (fGo g B r) z
theorem fGo_nil (g:D->En->Option En) (B:FS) (ρ:En):fGo g B [] ρ=some (.nx ρ):=rfl
theorem fGo_cons (g:D->En->Option En) (B:FS) (d:D) (r:List D) (ρ:En):fGo g B (d::r) ρ=bnd (g d ρ) fun ρ1=>bnd (B ρ1) fun z=>goR (fGo g B r) z:=rfl
noncomputable def sFor (g:D->En->Option En) (F:FE) (B:FS) (ρ:En):Option Res:=bnd (F ρ) fun p=>bnd (items p.1) fun xs=>fGo g B xs p.2
noncomputable def rngD (lo:Int):Nat->List D
 |0=>[]
 |n+1=>.int lo::rngD (lo+1) n
noncomputable def rng1 (F:FE) (ρ:En):Option (List D×En):=bnd (F ρ) fun p=>bnd (intI p.1) fun j=>if -(2 ^ 62)<=j/\j<2 ^ 62 then some (rngD 0 j.toNat,p.2) else none
noncomputable def rng2 (F G:FE) (ρ:En):Option (List D×En):=bnd (F ρ) fun p=>bnd (G p.2) fun q=>bnd (intI p.1) fun i=>bnd (intI q.1) fun j =>
 if -(2 ^ 62)<=i/\i<2 ^ 62/\-(2 ^ 62)<=j/\j<2 ^ 62 then some (rngD i (j-i).toNat,q.2) else none
noncomputable def sForR (g:D->En->Option En) (R:FA) (B:FS) (ρ:En):Option Res:=bnd (R ρ) fun p=>fGo g B p.1 p.2
noncomputable def wGo (T:FT) (B:FS):Nat->FS
 |0,_=>none
 |n+1,ρ=>bnd (T ρ) fun p=>if p.1=true then bnd (B p.2) fun z=>goR (wGo T B n) z else some (.nx p.2)
theorem wGo_succ (T:FT) (B:FS) (n:Nat) (ρ:En):wGo T B (n+1) ρ=bnd (T ρ) fun p=>if p.1=true then bnd (B p.2) fun z=>goR (wGo T B n) z else some (.nx p.2):=rfl
noncomputable def sWhile (fuel:En->Nat) (T:FT) (B:FS) (ρ:En):Option Res:=wGo T B (fuel ρ) ρ
noncomputable def oLst (A:FA) (ρ:En):Option (List D×En):=bnd (A ρ) fun p=>if p.1.length<=1000 then some p else none
noncomputable def oIf (T:FT) (A B:FA) (ρ:En):Option (List D×En):=bnd (T ρ) fun p=>if p.1=true then A p.2 else B p.2
noncomputable def sOwn (i:Nat) (A:FA) (ρ:En):Option Res:=bnd (A ρ) fun p=>some (.nx (p.2.set i (.ow false (.lst p.1))))
noncomputable def owL:Option Sl->Option (List D)
 |some (.ow false (.lst ds))=>some ds
 |_=>none
noncomputable def sApp (i:Nat) (F:FE) (ρ:En):Option Res:=bnd (owL ρ[i]?) fun _=>bnd (F ρ) fun p=>bnd (owL p.2[i]?) fun ds=>if ds.length<1000000 then some (.nx (p.2.set i (.ow false (.lst (ds++[p.1]))))) else none
noncomputable def frz (i:Nat) (ρ:En):En:=match ρ[i]? with
 |some (.ow false (.lst ds))=>ρ.set i (.im (.lst ds))
 |_=>ρ
noncomputable def sFrz (i:Nat) (F:FS) (ρ:En):Option Res:=F (frz i ρ)
noncomputable def eLR (js:List Nat) (R:FA) (T:FT) (F:FE) (ρ:En):Option (D×En):=bnd (R ρ) fun p=>bnd (imAt p.2 js) fun fr=>bnd (cGo T F fr p.1) fun ys=>if p.1.length<=sizeLine then some (.lst ys,p.2) else none
noncomputable def isB (b:Bool):D->Bool
 |.bl c=>decide (c=b)
 |_=>false
noncomputable def e1B (b n:Bool) (F:FE) (ρ:En):Option (D×En):=bnd (F ρ) fun p=>some (.bl (if n then !isB b p.1 else isB b p.1),p.2)
noncomputable def retR:Res->Option D
 |.rt d _=>some d
 |.nx _=>some .non
 |_=>none
noncomputable def fnD (n k:Nat) (B:FS) (ds:List D):Option D:=if ds.length=n then bnd (B (ds.map .im++List.replicate k .no)) fun r=>retR r else none
end Fx
namespace Fx
open PySem
@[simp] theorem dAdd_i (i j:Int):dAdd (.int i) (.int j)=some (.int (i+j)):=Eq.trans rfl rfl
@[simp] theorem dAdd_l (a b:List D):dAdd (.lst a) (.lst b)=if a.length+b.length<=sizeLine then some (.lst (a++b)) else none:=Eq.trans rfl rfl
@[simp] theorem dAdd_s (a b:Str):dAdd (.str a) (.str b)=if a.length+b.length<=sizeLine then some (.str (a++b)) else none:=Eq.trans rfl rfl
@[simp] theorem dSub_i (i j:Int):dSub (.int i) (.int j)=some (.int (i-j)):=Eq.trans rfl rfl
@[simp] theorem dMul_i (i j:Int):dMul (.int i) (.int j)=if okMul i j=true then some (.int (i*j)) else none:=Eq.trans rfl rfl
@[simp] theorem dDiv_i (i j:Int):dDiv (.int i) (.int j)=if okDiv j=true then some (.int (i.fdiv j)) else none:=Eq.trans rfl rfl
@[simp] theorem dMod_i (i j:Int):dMod (.int i) (.int j)=if j≠0 then some (.int (i.fmod j)) else none:=Eq.trans rfl rfl
@[simp] theorem dPow_i (i j:Int):dPow (.int i) (.int j)=if 0<=j/\j<=64/\i.natAbs<2 ^ 64 then some (.int (i ^ j.toNat)) else none:=Eq.trans rfl rfl
@[simp] theorem dNeg_i (i:Int):dNeg (.int i)=some (.int (-i)):=Eq.trans rfl rfl
@[simp] theorem dLt_i (i j:Int):dLt (.int i) (.int j)=some (.bl (decide (i<j))):=Eq.trans rfl rfl
@[simp] theorem dLe_i (i j:Int):dLe (.int i) (.int j)=some (.bl (decide (i<=j))):=Eq.trans rfl rfl
@[simp] theorem dGt_i (i j:Int):dGt (.int i) (.int j)=some (.bl (decide (j<i))):=Eq.trans rfl rfl
@[simp] theorem dGe_i (i j:Int):dGe (.int i) (.int j)=some (.bl (decide (j<=i))):=Eq.trans rfl rfl
@[simp] theorem dEq_ (x y:D):dEq x y=if dpD x<=30/\dpD y<=30 then some (.bl (eqD x y)) else none:=Eq.trans rfl rfl
@[simp] theorem dNe_ (x y:D):dNe x y=if dpD x<=30/\dpD y<=30 then some (.bl (!eqD x y)) else none:=Eq.trans rfl rfl
@[simp] theorem dIs_ (x:D):dIs x .non=some (.bl (isN x)):=Eq.trans rfl rfl
@[simp] theorem dIsNot_ (x:D):dIsNot x .non=some (.bl (!isN x)):=Eq.trans rfl rfl
@[simp] theorem dTru_n :dTru .non=some false:=Eq.trans rfl rfl
@[simp] theorem dTru_b (b:Bool):dTru (.bl b)=some b:=Eq.trans rfl rfl
@[simp] theorem dTru_i (i:Int):dTru (.int i)=some (i != 0):=Eq.trans rfl rfl
@[simp] theorem dTru_l (xs:List D):dTru (.lst xs)=some (!xs.isEmpty):=Eq.trans rfl rfl
@[simp] theorem dTru_t (xs:List D):dTru (.tup xs)=some (!xs.isEmpty):=Eq.trans rfl rfl
@[simp] theorem dIx_t (xs:List D) (i:Int):dIx (.tup xs) (.int i)=atD xs i:=Eq.trans rfl rfl
@[simp] theorem dIx_l (xs:List D) (i:Int):dIx (.lst xs) (.int i)=atD xs i:=Eq.trans rfl rfl
@[simp] theorem dSl_l (xs:List D) (lo hi:Option Int):dSl (.lst xs) lo hi=some (.lst (dCut xs lo hi)):=Eq.trans rfl rfl
@[simp] theorem dSl_t (xs:List D) (lo hi:Option Int):dSl (.tup xs) lo hi=if dEnd xs.length 0 lo=0/\dEnd xs.length xs.length hi=xs.length then none else some (.tup (dCut xs lo hi)):=Eq.trans rfl rfl
@[simp] theorem bAbs_ (i:Int):bAbs [.int i]=some (.int (i.natAbs:Int)):=congrArg (fun z=>some (D.int z)) (show (if i<0 then -i else i)=(i.natAbs:Int) by split <;> omega)
@[simp] theorem bLen_l (xs:List D):bLen [.lst xs]=some (.int xs.length):=Eq.trans rfl rfl
@[simp] theorem bLen_t (xs:List D):bLen [.tup xs]=some (.int xs.length):=Eq.trans rfl rfl
@[simp] theorem bMax_ (i j:Int):bMax [.int i,.int j]=some (.int (if j > i then j else i)):=Eq.trans rfl rfl
@[simp] theorem bMin_ (i j:Int):bMin [.int i,.int j]=some (.int (if j<i then j else i)):=Eq.trans rfl rfl
noncomputable def cnsO {α:Type} (x:α) (o:Option (List α)):Option (List α):=bnd o fun t=>some (x::t)
@[simp] theorem cnsO_s {α:Type} (x:α) (t:List α):cnsO x (some t)=some (x::t):=Eq.trans rfl rfl
@[simp] theorem bools_n :bools []=some []:=Eq.trans rfl rfl
@[simp] theorem bools_c (b:Bool) (r:List D):bools (.bl b::r)=cnsO b (bools r):=Eq.trans rfl rfl
noncomputable def anyA (o:Option (List Bool)):Option D:=bnd o fun bs=>some (.bl (bs.any id))
noncomputable def allA (o:Option (List Bool)):Option D:=bnd o fun bs=>some (.bl (bs.all id))
@[simp] theorem anyA_s (bs:List Bool):anyA (some bs)=some (.bl (bs.any id)):=Eq.trans rfl rfl
@[simp] theorem allA_s (bs:List Bool):allA (some bs)=some (.bl (bs.all id)):=Eq.trans rfl rfl
@[simp] theorem bAny_ (xs:List D):bAny [.lst xs]=anyA (bools xs):=Eq.trans rfl rfl
@[simp] theorem bAll_ (xs:List D):bAll [.lst xs]=allA (bools xs):=Eq.trans rfl rfl
@[simp] theorem isTy_int_dct (ks:List Str) (vs:List D):isTy .int (.dct ks vs)=false:=Eq.trans rfl rfl
@[simp] theorem isTy_bool_dct (ks:List Str) (vs:List D):isTy .bool (.dct ks vs)=false:=Eq.trans rfl rfl
@[simp] theorem isTy_str_dct (ks:List Str) (vs:List D):isTy .str (.dct ks vs)=false:=Eq.trans rfl rfl
@[simp] theorem isTy_tuple_dct (ks:List Str) (vs:List D):isTy .tuple (.dct ks vs)=false:=Eq.trans rfl rfl
@[simp] theorem isTy_list_dct (ks:List Str) (vs:List D):isTy .list (.dct ks vs)=false:=Eq.trans rfl rfl
@[simp] theorem isB_dct (b:Bool) (ks:List Str) (vs:List D):isB b (.dct ks vs)=false:=Eq.trans rfl rfl
@[simp] theorem isTy_int_opq:isTy .int .opq=false:=Eq.trans rfl rfl
@[simp] theorem isTy_bool_opq:isTy .bool .opq=false:=Eq.trans rfl rfl
@[simp] theorem isTy_str_opq:isTy .str .opq=false:=Eq.trans rfl rfl
@[simp] theorem isTy_tuple_opq:isTy .tuple .opq=false:=Eq.trans rfl rfl
@[simp] theorem isTy_list_opq:isTy .list .opq=false:=Eq.trans rfl rfl
@[simp] theorem isB_opq (b:Bool):isB b .opq=false:=Eq.trans rfl rfl
@[simp] theorem isTy_int_non :isTy .int .non=false:=Eq.trans rfl rfl
@[simp] theorem isTy_int_bl (b:Bool):isTy .int (.bl b)=true:=Eq.trans rfl rfl
@[simp] theorem isTy_int_int (b:Int):isTy .int (.int b)=true:=Eq.trans rfl rfl
@[simp] theorem isTy_int_str (b:Str):isTy .int (.str b)=false:=Eq.trans rfl rfl
@[simp] theorem isTy_int_tup (b:List D):isTy .int (.tup b)=false:=Eq.trans rfl rfl
@[simp] theorem isTy_int_lst (b:List D):isTy .int (.lst b)=false:=Eq.trans rfl rfl
@[simp] theorem isTy_bool_non :isTy .bool .non=false:=Eq.trans rfl rfl
@[simp] theorem isTy_bool_bl (b:Bool):isTy .bool (.bl b)=true:=Eq.trans rfl rfl
@[simp] theorem isTy_bool_int (b:Int):isTy .bool (.int b)=false:=Eq.trans rfl rfl
@[simp] theorem isTy_bool_str (b:Str):isTy .bool (.str b)=false:=Eq.trans rfl rfl
@[simp] theorem isTy_bool_tup (b:List D):isTy .bool (.tup b)=false:=Eq.trans rfl rfl
@[simp] theorem isTy_bool_lst (b:List D):isTy .bool (.lst b)=false:=Eq.trans rfl rfl
@[simp] theorem isTy_str_non :isTy .str .non=false:=Eq.trans rfl rfl
@[simp] theorem isTy_str_bl (b:Bool):isTy .str (.bl b)=false:=Eq.trans rfl rfl
@[simp] theorem isTy_str_int (b:Int):isTy .str (.int b)=false:=Eq.trans rfl rfl
@[simp] theorem isTy_str_str (b:Str):isTy .str (.str b)=true:=Eq.trans rfl rfl
@[simp] theorem isTy_str_tup (b:List D):isTy .str (.tup b)=false:=Eq.trans rfl rfl
@[simp] theorem isTy_str_lst (b:List D):isTy .str (.lst b)=false:=Eq.trans rfl rfl
@[simp] theorem isTy_tuple_non :isTy .tuple .non=false:=Eq.trans rfl rfl
@[simp] theorem isTy_tuple_bl (b:Bool):isTy .tuple (.bl b)=false:=Eq.trans rfl rfl
@[simp] theorem isTy_tuple_int (b:Int):isTy .tuple (.int b)=false:=Eq.trans rfl rfl
@[simp] theorem isTy_tuple_str (b:Str):isTy .tuple (.str b)=false:=Eq.trans rfl rfl
@[simp] theorem isTy_tuple_tup (b:List D):isTy .tuple (.tup b)=true:=Eq.trans rfl rfl
@[simp] theorem isTy_tuple_lst (b:List D):isTy .tuple (.lst b)=false:=Eq.trans rfl rfl
@[simp] theorem isTy_list_non :isTy .list .non=false:=Eq.trans rfl rfl
@[simp] theorem isTy_list_bl (b:Bool):isTy .list (.bl b)=false:=Eq.trans rfl rfl
@[simp] theorem isTy_list_int (b:Int):isTy .list (.int b)=false:=Eq.trans rfl rfl
@[simp] theorem isTy_list_str (b:Str):isTy .list (.str b)=false:=Eq.trans rfl rfl
@[simp] theorem isTy_list_tup (b:List D):isTy .list (.tup b)=false:=Eq.trans rfl rfl
@[simp] theorem isTy_list_lst (b:List D):isTy .list (.lst b)=true:=Eq.trans rfl rfl
noncomputable def mkP (o:Option D) (ρ:En):Option (D×En):=bnd o fun d=>some (d,ρ)
@[simp] theorem mkP_s (d:D) (ρ:En):mkP (some d) ρ=some (d,ρ):=Eq.trans rfl rfl
@[simp] theorem slV_i (ρ:En) (d:D):slV ρ (some (.im d))=some (d,ρ):=Eq.trans rfl rfl
@[simp] theorem eV_ (i:Nat) (ρ:En):eV i ρ=slV ρ ρ[i]?:=Eq.trans rfl rfl
@[simp] theorem eC_ (d:D) (ρ:En):eC d ρ=some (d,ρ):=Eq.trans rfl rfl
noncomputable def e1a (op:D->Option D) (o:Option (D×En)):Option (D×En):=bnd o fun p=>bnd (op p.1) fun d=>some (d,p.2)
@[simp] theorem e1_ (op:D->Option D) (F:FE) (ρ:En):e1 op F ρ=e1a op (F ρ):=Eq.trans rfl rfl
@[simp] theorem e1a_s (op:D->Option D) (x:D) (ρ:En):e1a op (some (x,ρ))=mkP (op x) ρ:=Eq.trans rfl rfl
noncomputable def e2b (op:D->D->Option D) (x:D) (o:Option (D×En)):Option (D×En):=bnd o fun q=>bnd (op x q.1) fun d=>some (d,q.2)
noncomputable def e2a (op:D->D->Option D) (G:FE) (o:Option (D×En)):Option (D×En):=bnd o fun p=>bnd (G p.2) fun q=>bnd (op p.1 q.1) fun d=>some (d,q.2)
@[simp] theorem e2_ (op:D->D->Option D) (F G:FE) (ρ:En):e2 op F G ρ=e2a op G (F ρ):=Eq.trans rfl rfl
@[simp] theorem e2a_s (op:D->D->Option D) (G:FE) (x:D) (ρ:En):e2a op G (some (x,ρ))=e2b op x (G ρ):=Eq.trans rfl rfl
@[simp] theorem e2b_s (op:D->D->Option D) (x y:D) (ρ:En):e2b op x (some (y,ρ))=mkP (op x y) ρ:=Eq.trans rfl rfl
noncomputable def e3c (op':D->D->Option D) (L:FE) (y:D) (ρ:En) (o:Option D):Option (D×En):=bnd o fun z=>bnd (blB z) fun b=>if b=true then bnd (L ρ) fun r=>bnd (op' y r.1) fun d=>some (d,r.2) else some (.bl false,ρ)
noncomputable def e3b (op op':D->D->Option D) (L:FE) (x:D) (o:Option (D×En)):Option (D×En):=bnd o fun q=>bnd (op x q.1) fun z=>bnd (blB z) fun b=>if b=true then bnd (L q.2) fun r=>bnd (op' q.1 r.1) fun d=>some (d,r.2) else some (.bl false,q.2)
noncomputable def e3a (op op':D->D->Option D) (G L:FE) (o:Option (D×En)):Option (D×En):=bnd o fun p=>bnd (G p.2) fun q=>bnd (op p.1 q.1) fun z=>bnd (blB z) fun b=>if b=true then bnd (L q.2) fun r=>bnd (op' q.1 r.1) fun d=>some (d,r.2) else some (.bl false,q.2)
@[simp] theorem e3_ (op op':D->D->Option D) (F G L:FE) (ρ:En):e3 op op' F G L ρ=e3a op op' G L (F ρ):=Eq.trans rfl rfl
@[simp] theorem e3a_s (op op':D->D->Option D) (G L:FE) (x:D) (ρ:En):e3a op op' G L (some (x,ρ))=e3b op op' L x (G ρ):=Eq.trans rfl rfl
@[simp] theorem e3b_s (op op':D->D->Option D) (L:FE) (x y:D) (ρ:En):e3b op op' L x (some (y,ρ))=e3c op' L y ρ (op x y):=Eq.trans rfl rfl
@[simp] theorem e3c_t (op':D->D->Option D) (L:FE) (y:D) (ρ:En):e3c op' L y ρ (some (.bl true))=e2b op' y (L ρ):=Eq.trans rfl rfl
@[simp] theorem e3c_f (op':D->D->Option D) (L:FE) (y:D) (ρ:En):e3c op' L y ρ (some (.bl false))=some (.bl false,ρ):=Eq.trans rfl rfl
@[simp] theorem aN_ (ρ:En):aN ρ=some ([],ρ):=Eq.trans rfl rfl
noncomputable def aCb (x:D) (o:Option (List D×En)):Option (List D×En):=bnd o fun q=>some (x::q.1,q.2)
noncomputable def aCa (A:FA) (o:Option (D×En)):Option (List D×En):=bnd o fun p=>bnd (A p.2) fun q=>some (p.1::q.1,q.2)
@[simp] theorem aC_ (F:FE) (A:FA) (ρ:En):aC F A ρ=aCa A (F ρ):=Eq.trans rfl rfl
@[simp] theorem aCa_s (A:FA) (x:D) (ρ:En):aCa A (some (x,ρ))=aCb x (A ρ):=Eq.trans rfl rfl
@[simp] theorem aCb_s (x:D) (xs:List D) (ρ:En):aCb x (some (xs,ρ))=some (x::xs,ρ):=Eq.trans rfl rfl
noncomputable def tupA (o:Option (List D×En)):Option (D×En):=bnd o fun p=>if p.1.length<=1000 then some (.tup p.1,p.2) else none
@[simp] theorem eTup_ (A:FA) (ρ:En):eTup A ρ=tupA (A ρ):=Eq.trans rfl rfl
@[simp] theorem tupA_s (xs:List D) (ρ:En):tupA (some (xs,ρ))=if xs.length<=1000 then some (.tup xs,ρ) else none:=Eq.trans rfl rfl
noncomputable def lstA (o:Option (List D×En)):Option (D×En):=bnd o fun p=>if p.1.length<=1000 then some (.lst p.1,p.2) else none
@[simp] theorem eLst_ (A:FA) (ρ:En):eLst A ρ=lstA (A ρ):=Eq.trans rfl rfl
@[simp] theorem lstA_s (xs:List D) (ρ:En):lstA (some (xs,ρ))=if xs.length<=1000 then some (.lst xs,ρ) else none:=Eq.trans rfl rfl
noncomputable def eFa (g:List D->Option D) (o:Option (List D×En)):Option (D×En):=bnd o fun p=>bnd (g p.1) fun d=>some (d,p.2)
@[simp] theorem eF_ (g:List D->Option D) (A:FA) (ρ:En):eF g A ρ=eFa g (A ρ):=Eq.trans rfl rfl
@[simp] theorem eFa_s (g:List D->Option D) (xs:List D) (ρ:En):eFa g (some (xs,ρ))=mkP (g xs) ρ:=Eq.trans rfl rfl
noncomputable def eTya (t:Ty) (o:Option (D×En)):Option (D×En):=bnd o fun p=>some (.bl (isTy t p.1),p.2)
@[simp] theorem eTy_ (t:Ty) (F:FE) (ρ:En):eTy t F ρ=eTya t (F ρ):=Eq.trans rfl rfl
@[simp] theorem eTya_s (t:Ty) (x:D) (ρ:En):eTya t (some (x,ρ))=some (.bl (isTy t x),ρ):=Eq.trans rfl rfl
@[simp] theorem oN_ (ρ:En):oN ρ=some (none,ρ):=Eq.trans rfl rfl
noncomputable def oSa (o:Option (D×En)):Option (Option Int×En):=bnd o fun p=>bnd (intI p.1) fun i=>some (some i,p.2)
@[simp] theorem oS_ (F:FE) (ρ:En):oS F ρ=oSa (F ρ):=Eq.trans rfl rfl
@[simp] theorem oSa_s (i:Int) (ρ:En):oSa (some (.int i,ρ))=some (some i,ρ):=Eq.trans rfl rfl
noncomputable def eSlc (x:D) (l:Option Int) (o:Option (Option Int×En)):Option (D×En):=bnd o fun h=>bnd (dSl x l h.1) fun d=>some (d,h.2)
noncomputable def eSlb (hi:FO) (x:D) (o:Option (Option Int×En)):Option (D×En):=bnd o fun l=>bnd (hi l.2) fun h=>bnd (dSl x l.1 h.1) fun d=>some (d,h.2)
noncomputable def eSla (lo hi:FO) (o:Option (D×En)):Option (D×En):=bnd o fun p=>bnd (lo p.2) fun l=>bnd (hi l.2) fun h=>bnd (dSl p.1 l.1 h.1) fun d=>some (d,h.2)
@[simp] theorem eSl_ (F:FE) (lo hi:FO) (ρ:En):eSl F lo hi ρ=eSla lo hi (F ρ):=Eq.trans rfl rfl
@[simp] theorem eSla_s (lo hi:FO) (x:D) (ρ:En):eSla lo hi (some (x,ρ))=eSlb hi x (lo ρ):=Eq.trans rfl rfl
@[simp] theorem eSlb_s (hi:FO) (x:D) (l:Option Int) (ρ:En):eSlb hi x (some (l,ρ))=eSlc x l (hi ρ):=Eq.trans rfl rfl
@[simp] theorem eSlc_s (x:D) (l h:Option Int) (ρ:En):eSlc x l (some (h,ρ))=mkP (dSl x l h) ρ:=Eq.trans rfl rfl
noncomputable def mkB (o:Option Bool) (ρ:En):Option (Bool×En):=bnd o fun b=>some (b,ρ)
@[simp] theorem mkB_s (b:Bool) (ρ:En):mkB (some b) ρ=some (b,ρ):=Eq.trans rfl rfl
noncomputable def tBa (o:Option (D×En)):Option (Bool×En):=bnd o fun p=>bnd (blB p.1) fun b=>some (b,p.2)
@[simp] theorem tB_ (F:FE) (ρ:En):tB F ρ=tBa (F ρ):=Eq.trans rfl rfl
@[simp] theorem tBa_s (b:Bool) (ρ:En):tBa (some (.bl b,ρ))=some (b,ρ):=Eq.trans rfl rfl
noncomputable def tVa (o:Option (D×En)):Option (Bool×En):=bnd o fun p=>bnd (dTru p.1) fun b=>some (b,p.2)
@[simp] theorem tV_ (F:FE) (ρ:En):tV F ρ=tVa (F ρ):=Eq.trans rfl rfl
@[simp] theorem tVa_s (x:D) (ρ:En):tVa (some (x,ρ))=mkB (dTru x) ρ:=Eq.trans rfl rfl
noncomputable def tAnda (U:FT) (o:Option (Bool×En)):Option (Bool×En):=bnd o fun p=>if p.1=true then U p.2 else some (false,p.2)
noncomputable def tOra (U:FT) (o:Option (Bool×En)):Option (Bool×En):=bnd o fun p=>if p.1=true then some (true,p.2) else U p.2
noncomputable def tNota (o:Option (Bool×En)):Option (Bool×En):=bnd o fun p=>some (!p.1,p.2)
@[simp] theorem tAnd_ (T U:FT) (ρ:En):tAnd T U ρ=tAnda U (T ρ):=Eq.trans rfl rfl
@[simp] theorem tAnda_t (U:FT) (ρ:En):tAnda U (some (true,ρ))=U ρ:=Eq.trans rfl rfl
@[simp] theorem tAnda_f (U:FT) (ρ:En):tAnda U (some (false,ρ))=some (false,ρ):=Eq.trans rfl rfl
@[simp] theorem tOr_ (T U:FT) (ρ:En):tOr T U ρ=tOra U (T ρ):=Eq.trans rfl rfl
@[simp] theorem tOra_t (U:FT) (ρ:En):tOra U (some (true,ρ))=some (true,ρ):=Eq.trans rfl rfl
@[simp] theorem tOra_f (U:FT) (ρ:En):tOra U (some (false,ρ))=U ρ:=Eq.trans rfl rfl
@[simp] theorem tNot_ (T:FT) (ρ:En):tNot T ρ=tNota (T ρ):=Eq.trans rfl rfl
@[simp] theorem tNota_s (b:Bool) (ρ:En):tNota (some (b,ρ))=some (!b,ρ):=Eq.trans rfl rfl
@[simp] theorem tYes_ (ρ:En):tYes ρ=some (true,ρ):=Eq.trans rfl rfl
noncomputable def eIfa (F G:FE) (o:Option (Bool×En)):Option (D×En):=bnd o fun p=>if p.1=true then F p.2 else G p.2
@[simp] theorem eIf_ (T:FT) (F G:FE) (ρ:En):eIf T F G ρ=eIfa F G (T ρ):=Eq.trans rfl rfl
@[simp] theorem eIfa_t (F G:FE) (ρ:En):eIfa F G (some (true,ρ))=F ρ:=Eq.trans rfl rfl
@[simp] theorem eIfa_f (F G:FE) (ρ:En):eIfa F G (some (false,ρ))=G ρ:=Eq.trans rfl rfl
noncomputable def eAnda (G:FE) (o:Option (D×En)):Option (D×En):=bnd o fun p=>bnd (blB p.1) fun b=>if b=true then G p.2 else some (.bl false,p.2)
noncomputable def eOra (G:FE) (o:Option (D×En)):Option (D×En):=bnd o fun p=>bnd (blB p.1) fun b=>if b=true then some (.bl true,p.2) else G p.2
noncomputable def eNota (o:Option (D×En)):Option (D×En):=bnd o fun p=>bnd (blB p.1) fun b=>some (.bl (!b),p.2)
@[simp] theorem eAnd_ (F G:FE) (ρ:En):eAnd F G ρ=eAnda G (F ρ):=Eq.trans rfl rfl
@[simp] theorem eAnda_t (G:FE) (ρ:En):eAnda G (some (.bl true,ρ))=G ρ:=Eq.trans rfl rfl
@[simp] theorem eAnda_f (G:FE) (ρ:En):eAnda G (some (.bl false,ρ))=some (.bl false,ρ):=Eq.trans rfl rfl
@[simp] theorem eOr_ (F G:FE) (ρ:En):eOr F G ρ=eOra G (F ρ):=Eq.trans rfl rfl
@[simp] theorem eOra_t (G:FE) (ρ:En):eOra G (some (.bl true,ρ))=some (.bl true,ρ):=Eq.trans rfl rfl
@[simp] theorem eOra_f (G:FE) (ρ:En):eOra G (some (.bl false,ρ))=G ρ:=Eq.trans rfl rfl
@[simp] theorem eNot_ (F:FE) (ρ:En):eNot F ρ=eNota (F ρ):=Eq.trans rfl rfl
@[simp] theorem eNota_s (b:Bool) (ρ:En):eNota (some (.bl b,ρ))=some (.bl (!b),ρ):=Eq.trans rfl rfl
noncomputable def imA (o:Option Sl) (q:Option En):Option En:=bnd o fun s=>bnd q fun r=>some (s::r)
@[simp] theorem imA_s (s:Sl) (r:En):imA (some s) (some r)=some (s::r):=Eq.trans rfl rfl
@[simp] theorem slI_i (d:D):slI (some (.im d))=some (.im d):=Eq.trans rfl rfl
@[simp] theorem imAt_n (ρ:En):imAt ρ []=some []:=Eq.trans rfl rfl
@[simp] theorem imAt_c (ρ:En) (j:Nat) (js:List Nat):imAt ρ (j::js)=imA (slI ρ[j]?) (imAt ρ js):=Eq.trans rfl rfl
noncomputable def cGb (T:FT) (F:FE) (fr:En) (r:List D) (o:Option (D×En)):Option (List D):=bnd o fun q=>bnd (cGo T F fr r) fun t=>some (q.1::t)
noncomputable def cGa (T:FT) (F:FE) (fr:En) (r:List D) (o:Option (Bool×En)):Option (List D):=bnd o fun p=>if p.1=true then bnd (F p.2) fun q=>bnd (cGo T F fr r) fun t=>some (q.1::t) else cGo T F fr r
@[simp] theorem cGo_n (T:FT) (F:FE) (fr:En):cGo T F fr []=some []:=Eq.trans rfl rfl
@[simp] theorem cGo_c (T:FT) (F:FE) (fr:En) (d:D) (r:List D):cGo T F fr (d::r)=cGa T F fr r (T (.im d::fr)):=Eq.trans rfl rfl
@[simp] theorem cGa_t (T:FT) (F:FE) (fr:En) (r:List D) (ρ:En):cGa T F fr r (some (true,ρ))=cGb T F fr r (F ρ):=Eq.trans rfl rfl
@[simp] theorem cGa_f (T:FT) (F:FE) (fr:En) (r:List D) (ρ:En):cGa T F fr r (some (false,ρ))=cGo T F fr r:=Eq.trans rfl rfl
@[simp] theorem cGb_s (T:FT) (F:FE) (fr:En) (r:List D) (x:D) (ρ:En):cGb T F fr r (some (x,ρ))=cnsO x (cGo T F fr r):=Eq.trans rfl rfl
@[simp] theorem items_l (xs:List D):items (.lst xs)=some xs:=Eq.trans rfl rfl
@[simp] theorem items_s (z:Str):items (.str z)=some (chs z):=Eq.trans rfl rfl
@[simp] theorem items_t (xs:List D):items (.tup xs)=some xs:=Eq.trans rfl rfl
noncomputable def eLCd (ρ:En) (xs:List D) (o:Option (List D)):Option (D×En):=bnd o fun ys=>if xs.length<=sizeLine then some (.lst ys,ρ) else none
noncomputable def eLCc (T:FT) (F:FE) (ρ:En) (xs:List D) (o:Option En):Option (D×En):=bnd o fun fr=>eLCd ρ xs (cGo T F fr xs)
noncomputable def eLCb (js:List Nat) (T:FT) (F:FE) (ρ:En) (o:Option (List D)):Option (D×En):=bnd o fun xs=>eLCc T F ρ xs (imAt ρ js)
noncomputable def eLCa (js:List Nat) (T:FT) (F:FE) (o:Option (D×En)):Option (D×En):=bnd o fun p=>eLCb js T F p.2 (items p.1)
@[simp] theorem eLC_ (js:List Nat) (I:FE) (T:FT) (F:FE) (ρ:En):eLC js I T F ρ=eLCa js T F (I ρ):=Eq.trans rfl rfl
@[simp] theorem eLCa_s (js:List Nat) (T:FT) (F:FE) (x:D) (ρ:En):eLCa js T F (some (x,ρ))=eLCb js T F ρ (items x):=Eq.trans rfl rfl
@[simp] theorem eLCb_s (js:List Nat) (T:FT) (F:FE) (ρ:En) (xs:List D):eLCb js T F ρ (some xs)=eLCc T F ρ xs (imAt ρ js):=Eq.trans rfl rfl
@[simp] theorem eLCc_s (T:FT) (F:FE) (ρ:En) (xs:List D) (fr:En):eLCc T F ρ xs (some fr)=eLCd ρ xs (cGo T F fr xs):=Eq.trans rfl rfl
@[simp] theorem eLCd_s (ρ:En) (xs ys:List D):eLCd ρ xs (some ys)=if xs.length<=sizeLine then some (.lst ys,ρ) else none:=Eq.trans rfl rfl
@[simp] theorem sN_ (ρ:En):sN ρ=some (.nx ρ):=Eq.trans rfl rfl
noncomputable def sSeqa (G:FS) (o:Option Res):Option Res:=bnd o fun r=>nxR G r
@[simp] theorem sSeq_ (F G:FS) (ρ:En):sSeq F G ρ=sSeqa G (F ρ):=Eq.trans rfl rfl
@[simp] theorem sSeqa_n (G:FS) (ρ:En):sSeqa G (some (.nx ρ))=G ρ:=Eq.trans rfl rfl
@[simp] theorem sSeqa_r (G:FS) (d:D) (ρ:En):sSeqa G (some (.rt d ρ))=some (.rt d ρ):=Eq.trans rfl rfl
@[simp] theorem sSeqa_b (G:FS) (ρ:En):sSeqa G (some (.bk ρ))=some (.bk ρ):=Eq.trans rfl rfl
@[simp] theorem sSeqa_c (G:FS) (ρ:En):sSeqa G (some (.ct ρ))=some (.ct ρ):=Eq.trans rfl rfl
noncomputable def sSeta (i:Nat) (o:Option (D×En)):Option Res:=bnd o fun p=>some (.nx (p.2.set i (.im p.1)))
@[simp] theorem sSet_ (i:Nat) (F:FE) (ρ:En):sSet i F ρ=sSeta i (F ρ):=Eq.trans rfl rfl
@[simp] theorem sSeta_s (i:Nat) (x:D) (ρ:En):sSeta i (some (x,ρ))=some (.nx (ρ.set i (.im x))):=Eq.trans rfl rfl
@[simp] theorem setAll_c (i:Nat) (is:List Nat) (d:D) (ds:List D) (ρ:En):setAll (i::is) (d::ds) ρ=setAll is ds (ρ.set i (.im d)):=Eq.trans rfl rfl
@[simp] theorem setAll_n (ds:List D) (ρ:En):setAll [] ds ρ=ρ:=by cases ds <;> exact Eq.trans rfl rfl
@[simp] theorem tupX_l (xs:List D):tupX (.lst xs)=some xs:=Eq.trans rfl rfl
@[simp] theorem tupX_t (xs:List D):tupX (.tup xs)=some xs:=Eq.trans rfl rfl
@[simp] theorem gN_ (i:Nat) (d:D) (ρ:En):gN i d ρ=some (ρ.set i (.im d)):=Eq.trans rfl rfl
noncomputable def gTa (is:List Nat) (ρ:En) (o:Option (List D)):Option En:=bnd o fun xs=>if xs.length=is.length then some (setAll is xs ρ) else none
@[simp] theorem gT_ (is:List Nat) (d:D) (ρ:En):gT is d ρ=gTa is ρ (tupX d):=Eq.trans rfl rfl
@[simp] theorem gTa_s (is:List Nat) (ρ:En) (xs:List D):gTa is ρ (some xs)=if xs.length=is.length then some (setAll is xs ρ) else none:=Eq.trans rfl rfl
noncomputable def sTupb (o:Option En):Option Res:=bnd o fun ρ=>some (.nx ρ)
noncomputable def sTupa (is:List Nat) (o:Option (D×En)):Option Res:=bnd o fun p=>sTupb (gT is p.1 p.2)
@[simp] theorem sTup_ (is:List Nat) (F:FE) (ρ:En):sTup is F ρ=sTupa is (F ρ):=Eq.trans rfl rfl
@[simp] theorem sTupa_s (is:List Nat) (x:D) (ρ:En):sTupa is (some (x,ρ))=sTupb (gT is x ρ):=Eq.trans rfl rfl
@[simp] theorem sTupb_s (ρ:En):sTupb (some ρ)=some (.nx ρ):=Eq.trans rfl rfl
noncomputable def sIfa (F G:FS) (o:Option (Bool×En)):Option Res:=bnd o fun p=>if p.1=true then F p.2 else G p.2
@[simp] theorem sIf_ (T:FT) (F G:FS) (ρ:En):sIf T F G ρ=sIfa F G (T ρ):=Eq.trans rfl rfl
@[simp] theorem sIfa_t (F G:FS) (ρ:En):sIfa F G (some (true,ρ))=F ρ:=Eq.trans rfl rfl
@[simp] theorem sIfa_f (F G:FS) (ρ:En):sIfa F G (some (false,ρ))=G ρ:=Eq.trans rfl rfl
noncomputable def sReta (o:Option (D×En)):Option Res:=bnd o fun p=>some (.rt p.1 p.2)
@[simp] theorem sRet_ (F:FE) (ρ:En):sRet F ρ=sReta (F ρ):=Eq.trans rfl rfl
@[simp] theorem sReta_s (x:D) (ρ:En):sReta (some (x,ρ))=some (.rt x ρ):=Eq.trans rfl rfl
@[simp] theorem sRetN_ (ρ:En):sRetN ρ=some (.rt .non ρ):=Eq.trans rfl rfl
@[simp] theorem sBk_ (ρ:En):sBk ρ=some (.bk ρ):=Eq.trans rfl rfl
@[simp] theorem sCt_ (ρ:En):sCt ρ=some (.ct ρ):=Eq.trans rfl rfl
noncomputable def fGb (g:D->En->Option En) (B:FS) (r:List D) (o:Option Res):Option Res:=bnd o fun z=>goR (fGo g B r) z
noncomputable def fGa (g:D->En->Option En) (B:FS) (r:List D) (o:Option En):Option Res:=bnd o fun ρ1=>fGb g B r (B ρ1)
theorem fGo_c (g:D->En->Option En) (B:FS) (d:D) (r:List D) (ρ:En):fGo g B (d::r) ρ=fGa g B r (g d ρ):=Eq.trans rfl rfl
@[simp] theorem fGa_s (g:D->En->Option En) (B:FS) (r:List D) (ρ:En):fGa g B r (some ρ)=fGb g B r (B ρ):=Eq.trans rfl rfl
@[simp] theorem fGb_n (g:D->En->Option En) (B:FS) (r:List D) (ρ:En):fGb g B r (some (.nx ρ))=fGo g B r ρ:=Eq.trans rfl rfl
@[simp] theorem fGb_c (g:D->En->Option En) (B:FS) (r:List D) (ρ:En):fGb g B r (some (.ct ρ))=fGo g B r ρ:=Eq.trans rfl rfl
@[simp] theorem fGb_b (g:D->En->Option En) (B:FS) (r:List D) (ρ:En):fGb g B r (some (.bk ρ))=some (.nx ρ):=Eq.trans rfl rfl
@[simp] theorem fGb_r (g:D->En->Option En) (B:FS) (r:List D) (d:D) (ρ:En):fGb g B r (some (.rt d ρ))=some (.rt d ρ):=Eq.trans rfl rfl
noncomputable def sForb (g:D->En->Option En) (B:FS) (ρ:En) (o:Option (List D)):Option Res:=bnd o fun xs=>fGo g B xs ρ
noncomputable def sFora (g:D->En->Option En) (B:FS) (o:Option (D×En)):Option Res:=bnd o fun p=>sForb g B p.2 (items p.1)
@[simp] theorem sFor_ (g:D->En->Option En) (F:FE) (B:FS) (ρ:En):sFor g F B ρ=sFora g B (F ρ):=Eq.trans rfl rfl
@[simp] theorem sFora_s (g:D->En->Option En) (B:FS) (x:D) (ρ:En):sFora g B (some (x,ρ))=sForb g B ρ (items x):=Eq.trans rfl rfl
@[simp] theorem sForb_s (g:D->En->Option En) (B:FS) (ρ:En) (xs:List D):sForb g B ρ (some xs)=fGo g B xs ρ:=Eq.trans rfl rfl
noncomputable def rng1a (o:Option (D×En)):Option (List D×En):=bnd o fun p=>bnd (intI p.1) fun j=>if -(2 ^ 62)<=j/\j<2 ^ 62 then some (rngD 0 j.toNat,p.2) else none
@[simp] theorem rng1_ (F:FE) (ρ:En):rng1 F ρ=rng1a (F ρ):=Eq.trans rfl rfl
@[simp] theorem rng1a_s (j:Int) (ρ:En):rng1a (some (.int j,ρ))=if -(2 ^ 62)<=j/\j<2 ^ 62 then some (rngD 0 j.toNat,ρ) else none:=Eq.trans rfl rfl
noncomputable def rng2b (x:D) (o:Option (D×En)):Option (List D×En):=bnd o fun q=>bnd (intI x) fun i=>bnd (intI q.1) fun j=>if -(2 ^ 62)<=i/\i<2 ^ 62/\-(2 ^ 62)<=j/\j<2 ^ 62 then some (rngD i (j-i).toNat,q.2) else none
noncomputable def rng2a (G:FE) (o:Option (D×En)):Option (List D×En):=bnd o fun p=>rng2b p.1 (G p.2)
@[simp] theorem rng2_ (F G:FE) (ρ:En):rng2 F G ρ=rng2a G (F ρ):=Eq.trans rfl rfl
@[simp] theorem rng2a_s (G:FE) (x:D) (ρ:En):rng2a G (some (x,ρ))=rng2b x (G ρ):=Eq.trans rfl rfl
@[simp] theorem rng2b_s (i j:Int) (ρ:En):rng2b (.int i) (some (.int j,ρ))=if -(2 ^ 62)<=i/\i<2 ^ 62/\-(2 ^ 62)<=j/\j<2 ^ 62 then some (rngD i (j-i).toNat,ρ) else none:=Eq.trans rfl rfl
noncomputable def sForRa (g:D->En->Option En) (B:FS) (o:Option (List D×En)):Option Res:=bnd o fun p=>fGo g B p.1 p.2
@[simp] theorem sForR_ (g:D->En->Option En) (X:FA) (B:FS) (ρ:En):sForR g X B ρ=sForRa g B (X ρ):=Eq.trans rfl rfl
@[simp] theorem sForRa_s (g:D->En->Option En) (B:FS) (xs:List D) (ρ:En):sForRa g B (some (xs,ρ))=fGo g B xs ρ:=Eq.trans rfl rfl
noncomputable def wGb (T:FT) (B:FS) (n:Nat) (o:Option Res):Option Res:=bnd o fun z=>goR (wGo T B n) z
noncomputable def wGa (T:FT) (B:FS) (n:Nat) (o:Option (Bool×En)):Option Res:=bnd o fun p=>if p.1=true then wGb T B n (B p.2) else some (.nx p.2)
theorem wGo_s (T:FT) (B:FS) (n:Nat) (ρ:En):wGo T B (n+1) ρ=wGa T B n (T ρ):=Eq.trans rfl rfl
@[simp] theorem wGa_t (T:FT) (B:FS) (n:Nat) (ρ:En):wGa T B n (some (true,ρ))=wGb T B n (B ρ):=Eq.trans rfl rfl
@[simp] theorem wGa_f (T:FT) (B:FS) (n:Nat) (ρ:En):wGa T B n (some (false,ρ))=some (.nx ρ):=Eq.trans rfl rfl
@[simp] theorem wGb_n (T:FT) (B:FS) (n:Nat) (ρ:En):wGb T B n (some (.nx ρ))=wGo T B n ρ:=Eq.trans rfl rfl
@[simp] theorem wGb_c (T:FT) (B:FS) (n:Nat) (ρ:En):wGb T B n (some (.ct ρ))=wGo T B n ρ:=Eq.trans rfl rfl
@[simp] theorem wGb_b (T:FT) (B:FS) (n:Nat) (ρ:En):wGb T B n (some (.bk ρ))=some (.nx ρ):=Eq.trans rfl rfl
@[simp] theorem wGb_r (T:FT) (B:FS) (n:Nat) (d:D) (ρ:En):wGb T B n (some (.rt d ρ))=some (.rt d ρ):=Eq.trans rfl rfl
@[simp] theorem sWhile_ (fuel:En->Nat) (T:FT) (B:FS) (ρ:En):sWhile fuel T B ρ=wGo T B (fuel ρ) ρ:=Eq.trans rfl rfl
noncomputable def fnA (o:Option Res):Option D:=bnd o fun r=>retR r
@[simp] theorem fnA_r (d:D) (ρ:En):fnA (some (.rt d ρ))=some d:=Eq.trans rfl rfl
@[simp] theorem fnA_n (ρ:En):fnA (some (.nx ρ))=some .non:=Eq.trans rfl rfl
@[simp] theorem fnD_ (n k:Nat) (B:FS) (ds:List D):fnD n k B ds=if ds.length=n then fnA (B (ds.map .im++List.replicate k .no)) else none:=Eq.trans rfl rfl
noncomputable def oLsta (o:Option (List D×En)):Option (List D×En):=bnd o fun p=>if p.1.length<=1000 then some p else none
@[simp] theorem oLst_ (A:FA) (ρ:En):oLst A ρ=oLsta (A ρ):=Eq.trans rfl rfl
@[simp] theorem oLsta_s (xs:List D) (ρ:En):oLsta (some (xs,ρ))=if xs.length<=1000 then some (xs,ρ) else none:=Eq.trans rfl rfl
noncomputable def oIfa (A B:FA) (o:Option (Bool×En)):Option (List D×En):=bnd o fun p=>if p.1=true then A p.2 else B p.2
@[simp] theorem oIf_ (T:FT) (A B:FA) (ρ:En):oIf T A B ρ=oIfa A B (T ρ):=Eq.trans rfl rfl
@[simp] theorem oIfa_t (A B:FA) (ρ:En):oIfa A B (some (true,ρ))=A ρ:=Eq.trans rfl rfl
@[simp] theorem oIfa_f (A B:FA) (ρ:En):oIfa A B (some (false,ρ))=B ρ:=Eq.trans rfl rfl
noncomputable def sOwna (i:Nat) (o:Option (List D×En)):Option Res:=bnd o fun p=>some (.nx (p.2.set i (.ow false (.lst p.1))))
@[simp] theorem sOwn_ (i:Nat) (A:FA) (ρ:En):sOwn i A ρ=sOwna i (A ρ):=Eq.trans rfl rfl
@[simp] theorem sOwna_s (i:Nat) (xs:List D) (ρ:En):sOwna i (some (xs,ρ))=some (.nx (ρ.set i (.ow false (.lst xs)))):=Eq.trans rfl rfl
@[simp] theorem owL_s (ds:List D):owL (some (.ow false (.lst ds)))=some ds:=Eq.trans rfl rfl
noncomputable def sAppc (i:Nat) (x:D) (ρ:En) (o:Option (List D)):Option Res:=bnd o fun ds=>if ds.length<1000000 then some (.nx (ρ.set i (.ow false (.lst (ds++[x]))))) else none
noncomputable def sAppb (i:Nat) (o:Option (D×En)):Option Res:=bnd o fun p=>sAppc i p.1 p.2 (owL p.2[i]?)
noncomputable def sAppa (i:Nat) (F:FE) (ρ:En) (o:Option (List D)):Option Res:=bnd o fun _=>sAppb i (F ρ)
@[simp] theorem sApp_ (i:Nat) (F:FE) (ρ:En):sApp i F ρ=sAppa i F ρ (owL ρ[i]?):=Eq.trans rfl rfl
@[simp] theorem sAppa_s (i:Nat) (F:FE) (ρ:En) (ds:List D):sAppa i F ρ (some ds)=sAppb i (F ρ):=Eq.trans rfl rfl
@[simp] theorem sAppb_s (i:Nat) (x:D) (ρ:En):sAppb i (some (x,ρ))=sAppc i x ρ (owL ρ[i]?):=Eq.trans rfl rfl
@[simp] theorem sAppc_s (i:Nat) (x:D) (ρ:En) (ds:List D):sAppc i x ρ (some ds)=if ds.length<1000000 then some (.nx (ρ.set i (.ow false (.lst (ds++[x]))))) else none:=Eq.trans rfl rfl
noncomputable def frza (i:Nat) (ρ:En):Option Sl->En
 |some (.ow false (.lst ds))=>ρ.set i (.im (.lst ds))
 |_=>ρ
@[simp] theorem frz_ (i:Nat) (ρ:En):frz i ρ=frza i ρ ρ[i]?:=by unfold frz frza;split <;> simp_all
@[simp] theorem frza_o (i:Nat) (ρ:En) (ds:List D):frza i ρ (some (.ow false (.lst ds)))=ρ.set i (.im (.lst ds)):=Eq.trans rfl rfl
@[simp] theorem frza_i (i:Nat) (ρ:En) (d:D):frza i ρ (some (.im d))=ρ:=Eq.trans rfl rfl
@[simp] theorem sFrz_ (i:Nat) (F:FS) (ρ:En):sFrz i F ρ=F (frz i ρ):=Eq.trans rfl rfl
noncomputable def eLRb (T:FT) (F:FE) (ρ:En) (xs:List D) (o:Option En):Option (D×En):=bnd o fun fr=>eLCd ρ xs (cGo T F fr xs)
noncomputable def eLRa (js:List Nat) (T:FT) (F:FE) (o:Option (List D×En)):Option (D×En):=bnd o fun p=>eLRb T F p.2 p.1 (imAt p.2 js)
@[simp] theorem eLR_ (js:List Nat) (R:FA) (T:FT) (F:FE) (ρ:En):eLR js R T F ρ=eLRa js T F (R ρ):=Eq.trans rfl rfl
@[simp] theorem eLRa_s (js:List Nat) (T:FT) (F:FE) (xs:List D) (ρ:En):eLRa js T F (some (xs,ρ))=eLRb T F ρ xs (imAt ρ js):=Eq.trans rfl rfl
@[simp] theorem eLRb_s (T:FT) (F:FE) (ρ:En) (xs:List D) (fr:En):eLRb T F ρ xs (some fr)=eLCd ρ xs (cGo T F fr xs):=Eq.trans rfl rfl
@[simp] theorem isB_non (b:Bool) :isB b .non=false:=Eq.trans rfl rfl
@[simp] theorem isB_int (b:Bool) (c:Int):isB b (.int c)=false:=Eq.trans rfl rfl
@[simp] theorem isB_str (b:Bool) (c:Str):isB b (.str c)=false:=Eq.trans rfl rfl
@[simp] theorem isB_tup (b:Bool) (c:List D):isB b (.tup c)=false:=Eq.trans rfl rfl
@[simp] theorem isB_lst (b:Bool) (c:List D):isB b (.lst c)=false:=Eq.trans rfl rfl
@[simp] theorem isB_bl (b c:Bool):isB b (.bl c)=decide (c=b):=Eq.trans rfl rfl
noncomputable def e1Ba (b n:Bool) (o:Option (D×En)):Option (D×En):=bnd o fun p=>some (.bl (if n then !isB b p.1 else isB b p.1),p.2)
@[simp] theorem e1B_ (b n:Bool) (F:FE) (ρ:En):e1B b n F ρ=e1Ba b n (F ρ):=Eq.trans rfl rfl
@[simp] theorem e1Ba_s (b n:Bool) (x:D) (ρ:En):e1Ba b n (some (x,ρ))=some (.bl (if n then !isB b x else isB b x),ρ):=Eq.trans rfl rfl
end Fx
namespace Fx
open PySem
noncomputable def dBand:D->D->Option D
 |.int i,.int j=>some (.int (Builtin.bitAnd i j))
 |_,_=>none
noncomputable def dBor:D->D->Option D
 |.int i,.int j=>some (.int (Builtin.bitOr i j))
 |_,_=>none
noncomputable def dBxor:D->D->Option D
 |.int i,.int j=>some (.int (Builtin.bitXor i j))
 |_,_=>none
noncomputable def dShr:D->D->Option D
 |.int i,.int j=>if 0<=j then some (.int (i / 2 ^ j.toNat)) else none
 |_,_=>none
noncomputable def atS (z:Str) (i:Int):Option D:=if z.length<=sizeLine then bnd (bnd (dPl z.cps.toList.length i) fun j=>z.cps.toList[j]?) fun c=>some (.str (chS c)) else none
noncomputable def dIx2:D->D->Option D
 |.tup xs,.int i=>atD xs i
 |.lst xs,.int i=>atD xs i
 |.str z,.int i=>atS z i
 |_,_=>none
noncomputable def bLen2:List D->Option D
 |[.lst xs]=>some (.int xs.length)
 |[.tup xs]=>some (.int xs.length)
 |[.str z]=>if z.length<=sizeLine then some (.int z.length) else none
 |_=>none
noncomputable def flatD:D->Bool
 |.opq=>false
 |.dct _ _=>false
 |.tup _=>false
 |.lst _=>false
 |_=>true
noncomputable def inD (x:D) (xs:List D):Bool:=xs.any fun y=>eqD y x
noncomputable def okIn (x:D) (xs:List D):Bool:=flatD x&&xs.all flatD
noncomputable def dIn:D->D->Option D
 |x,.tup xs=>if okIn x xs=true then some (.bl (inD x xs)) else none
 |x,.lst xs=>if okIn x xs=true then some (.bl (inD x xs)) else none
 |_,_=>none
noncomputable def dNotIn:D->D->Option D
 |x,.tup xs=>if okIn x xs=true then some (.bl (!inD x xs)) else none
 |x,.lst xs=>if okIn x xs=true then some (.bl (!inD x xs)) else none
 |_,_=>none
noncomputable def bInt:List D->Option D
 |[.int i]=>some (.int i)
 |[.bl b]=>some (.int (if b then 1 else 0))
 |_=>none
noncomputable def bTuple:List D->Option D
 |[.lst xs]=>some (.tup xs)
 |[.tup xs]=>some (.tup xs)
 |_=>none
noncomputable def bList:List D->Option D
 |[.lst xs]=>some (.lst xs)
 |[.tup xs]=>some (.lst xs)
 |_=>none
@[simp] theorem dBand_i (i j:Int):dBand (.int i) (.int j)=some (.int (Builtin.bitAnd i j)):=Eq.trans rfl rfl
@[simp] theorem dBor_i (i j:Int):dBor (.int i) (.int j)=some (.int (Builtin.bitOr i j)):=Eq.trans rfl rfl
@[simp] theorem dBxor_i (i j:Int):dBxor (.int i) (.int j)=some (.int (Builtin.bitXor i j)):=Eq.trans rfl rfl
@[simp] theorem dShr_i (i j:Int):dShr (.int i) (.int j)=if 0<=j then some (.int (i / 2 ^ j.toNat)) else none:=Eq.trans rfl rfl
@[simp] theorem dIx2_t (xs:List D) (i:Int):dIx2 (.tup xs) (.int i)=atD xs i:=Eq.trans rfl rfl
@[simp] theorem dIx2_l (xs:List D) (i:Int):dIx2 (.lst xs) (.int i)=atD xs i:=Eq.trans rfl rfl
@[simp] theorem dIx2_s (z:Str) (i:Int):dIx2 (.str z) (.int i)=atS z i:=Eq.trans rfl rfl
@[simp] theorem bLen2_l (xs:List D):bLen2 [.lst xs]=some (.int xs.length):=Eq.trans rfl rfl
@[simp] theorem bLen2_t (xs:List D):bLen2 [.tup xs]=some (.int xs.length):=Eq.trans rfl rfl
@[simp] theorem bLen2_s (z:Str):bLen2 [.str z]=if z.length<=sizeLine then some (.int z.length) else none:=Eq.trans rfl rfl
@[simp] theorem dIn_t (x:D) (xs:List D):dIn x (.tup xs)=if okIn x xs=true then some (.bl (inD x xs)) else none:=Eq.trans rfl rfl
@[simp] theorem dIn_l (x:D) (xs:List D):dIn x (.lst xs)=if okIn x xs=true then some (.bl (inD x xs)) else none:=Eq.trans rfl rfl
@[simp] theorem dNotIn_t (x:D) (xs:List D):dNotIn x (.tup xs)=if okIn x xs=true then some (.bl (!inD x xs)) else none:=Eq.trans rfl rfl
@[simp] theorem dNotIn_l (x:D) (xs:List D):dNotIn x (.lst xs)=if okIn x xs=true then some (.bl (!inD x xs)) else none:=Eq.trans rfl rfl
@[simp] theorem bInt_i (i:Int):bInt [.int i]=some (.int i):=Eq.trans rfl rfl
@[simp] theorem bInt_b (b:Bool):bInt [.bl b]=some (.int (if b then 1 else 0)):=Eq.trans rfl rfl
@[simp] theorem bTuple_l (xs:List D):bTuple [.lst xs]=some (.tup xs):=Eq.trans rfl rfl
@[simp] theorem bTuple_t (xs:List D):bTuple [.tup xs]=some (.tup xs):=Eq.trans rfl rfl
@[simp] theorem bList_l (xs:List D):bList [.lst xs]=some (.lst xs):=Eq.trans rfl rfl
@[simp] theorem bList_t (xs:List D):bList [.tup xs]=some (.lst xs):=Eq.trans rfl rfl
end Fx
namespace Fx
open PySem
noncomputable def getK (k:Str):List (Str×D)->Option D
 |[]=>none
 |q::r=>if q.1=k then some q.2 else getK k r
noncomputable def setK (k:Str) (d:D):List (Str×D)->List (Str×D)
 |[]=>[]
 |q::r=>(if q.1=k then (q.1,d) else q)::setK k d r
noncomputable def owO:Option Sl->Option (Bool×MO)
 |some (.ow b o)=>some (b,o)
 |_=>none
noncomputable def owD:Option Sl->Option (Bool×List (Str×D))
 |some (.ow b (.dic kds))=>some (b,kds)
 |_=>none
noncomputable def eDG (i:Nat) (k:Str) (ρ:En):Option (D×En):=bnd (owD ρ[i]?) fun p=>bnd (getK k p.2) fun d=>some (d,ρ)
noncomputable def sDP (i:Nat) (k:Str) (F:FE) (ρ:En):Option Res:=bnd (F ρ) fun p=>bnd (owD p.2[i]?) fun q=>bnd (getK k q.2) fun _=>if q.2.length<100 then some (.nx (p.2.set i (.ow q.1 (.dic (setK k p.1 q.2))))) else none
noncomputable def eFb (i:Nat) (g:MO->List D->Option (D×MO)) (A:FA) (ρ:En):Option (D×En):=bnd (owO ρ[i]?) fun _=>bnd (A ρ) fun p=>bnd (owO p.2[i]?) fun q=>bnd (g q.2 p.1) fun z=>some (z.1,p.2.set i (.ow q.1 z.2))
noncomputable def retB:Res->Option (D×MO)
 |.rt d ρ=>bnd (owO ρ[0]?) fun q=>if q.1=true then some (d,q.2) else none
 |.nx ρ=>bnd (owO ρ[0]?) fun q=>if q.1=true then some (.non,q.2) else none
 |_=>none
noncomputable def fnB (n k:Nat) (B:FS) (o:MO) (ds:List D):Option (D×MO):=if ds.length=n then bnd (B (.ow true o::(ds.map .im++List.replicate k .no))) fun r=>retB r else none
noncomputable def noOw:Sl->Bool
 |.ow _ _=>false
 |_=>true
noncomputable def nRet (ks:List Str) (A:FA) (ρ:En):Option MO:=if ρ.all noOw=true then bnd (A ρ) fun p=>if p.1.length=ks.length/\ks.length<=15/\ks.Nodup then some (.dic (ks.zip p.1)) else none else none
noncomputable def nSeq (A:FS) (F:En->Option MO) (ρ:En):Option MO:=bnd (A ρ) fun r=>match r with
 |.nx ρ'=>F ρ'
 |_=>none
noncomputable def fnN (n k:Nat) (F:En->Option MO) (ds:List D):Option MO:=if ds.length=n then F (ds.map .im++List.replicate k .no) else none
noncomputable def sNew (i:Nat) (g:List D->Option MO) (A:FA) (ρ:En):Option Res:=bnd (A ρ) fun p=>bnd (g p.1) fun o=>some (.nx (p.2.set i (.ow false o)))
@[simp] theorem owO_s (b:Bool) (o:MO):owO (some (.ow b o))=some (b,o):=Eq.trans rfl rfl
@[simp] theorem owD_s (b:Bool) (o:List (Str×D)):owD (some (.ow b (.dic o)))=some (b,o):=Eq.trans rfl rfl
noncomputable def eDGa (k:Str) (ρ:En) (o:Option (Bool×List (Str×D))):Option (D×En):=bnd o fun p=>bnd (getK k p.2) fun d=>some (d,ρ)
@[simp] theorem eDG_ (i:Nat) (k:Str) (ρ:En):eDG i k ρ=eDGa k ρ (owD ρ[i]?):=Eq.trans rfl rfl
@[simp] theorem eDGa_s (k:Str) (ρ:En) (b:Bool) (kds:List (Str×D)):eDGa k ρ (some (b,kds))=mkP (getK k kds) ρ:=Eq.trans rfl rfl
noncomputable def sDPc (i:Nat) (k:Str) (d:D) (ρ:En) (b:Bool) (kds:List (Str×D)) (o:Option D):Option Res:=bnd o fun _=>if kds.length<100 then some (.nx (ρ.set i (.ow b (.dic (setK k d kds))))) else none
noncomputable def sDPb (i:Nat) (k:Str) (d:D) (ρ:En) (o:Option (Bool×List (Str×D))):Option Res:=bnd o fun q=>sDPc i k d ρ q.1 q.2 (getK k q.2)
noncomputable def sDPa (i:Nat) (k:Str) (o:Option (D×En)):Option Res:=bnd o fun p=>sDPb i k p.1 p.2 (owD p.2[i]?)
@[simp] theorem sDP_ (i:Nat) (k:Str) (F:FE) (ρ:En):sDP i k F ρ=sDPa i k (F ρ):=Eq.trans rfl rfl
@[simp] theorem sDPa_s (i:Nat) (k:Str) (d:D) (ρ:En):sDPa i k (some (d,ρ))=sDPb i k d ρ (owD ρ[i]?):=Eq.trans rfl rfl
@[simp] theorem sDPb_s (i:Nat) (k:Str) (d:D) (ρ:En) (b:Bool) (kds:List (Str×D)):sDPb i k d ρ (some (b,kds))=sDPc i k d ρ b kds (getK k kds):=Eq.trans rfl rfl
@[simp] theorem sDPc_s (i:Nat) (k:Str) (d:D) (ρ:En) (b:Bool) (kds:List (Str×D)) (z:D):sDPc i k d ρ b kds (some z)=if kds.length<100 then some (.nx (ρ.set i (.ow b (.dic (setK k d kds))))) else none:=Eq.trans rfl rfl
noncomputable def eFbd (i:Nat) (ρ:En) (b:Bool) (o:Option (D×MO)):Option (D×En):=bnd o fun z=>some (z.1,ρ.set i (.ow b z.2))
noncomputable def eFbc (i:Nat) (g:MO->List D->Option (D×MO)) (ds:List D) (ρ:En) (o:Option (Bool×MO)):Option (D×En):=bnd o fun q=>eFbd i ρ q.1 (g q.2 ds)
noncomputable def eFbb (i:Nat) (g:MO->List D->Option (D×MO)) (o:Option (List D×En)):Option (D×En):=bnd o fun p=>eFbc i g p.1 p.2 (owO p.2[i]?)
noncomputable def eFba (i:Nat) (g:MO->List D->Option (D×MO)) (A:FA) (ρ:En) (o:Option (Bool×MO)):Option (D×En):=bnd o fun _=>eFbb i g (A ρ)
@[simp] theorem eFb_ (i:Nat) (g:MO->List D->Option (D×MO)) (A:FA) (ρ:En):eFb i g A ρ=eFba i g A ρ (owO ρ[i]?):=Eq.trans rfl rfl
@[simp] theorem eFba_s (i:Nat) (g:MO->List D->Option (D×MO)) (A:FA) (ρ:En) (q:Bool×MO):eFba i g A ρ (some q)=eFbb i g (A ρ):=Eq.trans rfl rfl
@[simp] theorem eFbb_s (i:Nat) (g:MO->List D->Option (D×MO)) (ds:List D) (ρ:En):eFbb i g (some (ds,ρ))=eFbc i g ds ρ (owO ρ[i]?):=Eq.trans rfl rfl
@[simp] theorem eFbc_s (i:Nat) (g:MO->List D->Option (D×MO)) (ds:List D) (ρ:En) (b:Bool) (o:MO):eFbc i g ds ρ (some (b,o))=eFbd i ρ b (g o ds):=Eq.trans rfl rfl
@[simp] theorem eFbd_s (i:Nat) (ρ:En) (b:Bool) (d:D) (o:MO):eFbd i ρ b (some (d,o))=some (d,ρ.set i (.ow b o)):=Eq.trans rfl rfl
noncomputable def sNewb (i:Nat) (ρ:En) (o:Option MO):Option Res:=bnd o fun o=>some (.nx (ρ.set i (.ow false o)))
noncomputable def sNewa (i:Nat) (g:List D->Option MO) (o:Option (List D×En)):Option Res:=bnd o fun p=>sNewb i p.2 (g p.1)
@[simp] theorem sNew_ (i:Nat) (g:List D->Option MO) (A:FA) (ρ:En):sNew i g A ρ=sNewa i g (A ρ):=Eq.trans rfl rfl
@[simp] theorem sNewa_s (i:Nat) (g:List D->Option MO) (ds:List D) (ρ:En):sNewa i g (some (ds,ρ))=sNewb i ρ (g ds):=Eq.trans rfl rfl
@[simp] theorem sNewb_s (i:Nat) (ρ:En) (o:MO):sNewb i ρ (some o)=some (.nx (ρ.set i (.ow false o))):=Eq.trans rfl rfl
end Fx
namespace Fx
open PySem
noncomputable def dSl2:D->Option Int->Option Int->Option D
 |.lst xs,lo,hi=>some (.lst (dCut xs lo hi))
 |.tup xs,lo,hi=>if dEnd xs.length 0 lo=0/\dEnd xs.length xs.length hi=xs.length then none else some (.tup (dCut xs lo hi))
 |.str z,lo,hi=>if z.length<=sizeLine then some (.str (Txt.slice z lo hi)) else none
 |_,_,_=>none
noncomputable def eSl2 (F:FE) (lo hi:FO) (ρ:En):Option (D×En):=bnd (F ρ) fun p=>bnd (lo p.2) fun l=>bnd (hi l.2) fun h=>bnd (dSl2 p.1 l.1 h.1) fun d=>some (d,h.2)
noncomputable def inS (x z:Str):Bool:=!(Builtin.Str.occurrences z x 0 z.length 1).isEmpty
noncomputable def dIn2:D->D->Option D
 |x,.tup xs=>if okIn x xs=true then some (.bl (inD x xs)) else none
 |x,.lst xs=>if okIn x xs=true then some (.bl (inD x xs)) else none
 |.str x,.str z=>some (.bl (inS x z))
 |_,_=>none
noncomputable def dNotIn2:D->D->Option D
 |x,.tup xs=>if okIn x xs=true then some (.bl (!inD x xs)) else none
 |x,.lst xs=>if okIn x xs=true then some (.bl (!inD x xs)) else none
 |.str x,.str z=>some (.bl (!inS x z))
 |_,_=>none
noncomputable def eSl2c (x:D) (l:Option Int) (o:Option (Option Int×En)):Option (D×En):=bnd o fun h=>bnd (dSl2 x l h.1) fun d=>some (d,h.2)
noncomputable def eSl2b (hi:FO) (x:D) (o:Option (Option Int×En)):Option (D×En):=bnd o fun l=>bnd (hi l.2) fun h=>bnd (dSl2 x l.1 h.1) fun d=>some (d,h.2)
noncomputable def eSl2a (lo hi:FO) (o:Option (D×En)):Option (D×En):=bnd o fun p=>bnd (lo p.2) fun l=>bnd (hi l.2) fun h=>bnd (dSl2 p.1 l.1 h.1) fun d=>some (d,h.2)
@[simp] theorem eSl2_ (F:FE) (lo hi:FO) (ρ:En):eSl2 F lo hi ρ=eSl2a lo hi (F ρ):=Eq.trans rfl rfl
@[simp] theorem eSl2a_s (lo hi:FO) (x:D) (ρ:En):eSl2a lo hi (some (x,ρ))=eSl2b hi x (lo ρ):=Eq.trans rfl rfl
@[simp] theorem eSl2b_s (hi:FO) (x:D) (l:Option Int) (ρ:En):eSl2b hi x (some (l,ρ))=eSl2c x l (hi ρ):=Eq.trans rfl rfl
@[simp] theorem eSl2c_s (x:D) (l h:Option Int) (ρ:En):eSl2c x l (some (h,ρ))=mkP (dSl2 x l h) ρ:=Eq.trans rfl rfl
@[simp] theorem dSl2_l (xs:List D) (lo hi:Option Int):dSl2 (.lst xs) lo hi=some (.lst (dCut xs lo hi)):=Eq.trans rfl rfl
@[simp] theorem dSl2_t (xs:List D) (lo hi:Option Int):dSl2 (.tup xs) lo hi=if dEnd xs.length 0 lo=0/\dEnd xs.length xs.length hi=xs.length then none else some (.tup (dCut xs lo hi)):=Eq.trans rfl rfl
@[simp] theorem dSl2_s (z:Str) (lo hi:Option Int):dSl2 (.str z) lo hi=if z.length<=sizeLine then some (.str (Txt.slice z lo hi)) else none:=Eq.trans rfl rfl
@[simp] theorem dIn2_t (x:D) (xs:List D):dIn2 x (.tup xs)=if okIn x xs=true then some (.bl (inD x xs)) else none:=by cases x <;> rfl
@[simp] theorem dIn2_l (x:D) (xs:List D):dIn2 x (.lst xs)=if okIn x xs=true then some (.bl (inD x xs)) else none:=by cases x <;> rfl
@[simp] theorem dIn2_s (x z:Str):dIn2 (.str x) (.str z)=some (.bl (inS x z)):=Eq.trans rfl rfl
@[simp] theorem dNotIn2_t (x:D) (xs:List D):dNotIn2 x (.tup xs)=if okIn x xs=true then some (.bl (!inD x xs)) else none:=by cases x <;> rfl
@[simp] theorem dNotIn2_l (x:D) (xs:List D):dNotIn2 x (.lst xs)=if okIn x xs=true then some (.bl (!inD x xs)) else none:=by cases x <;> rfl
@[simp] theorem dNotIn2_s (x z:Str):dNotIn2 (.str x) (.str z)=some (.bl (!inS x z)):=Eq.trans rfl rfl
end Fx
namespace Fx
open PySem
noncomputable def owT:Option Sl->Option MO
 |some (.ow true o)=>some o
 |_=>none
noncomputable def frAt (ρ:En) (i:Nat) (o:MO):List Nat->Option En
 |[]=>some []
 |j::js=>bnd (if j=i then some (.ow true o) else slI ρ[j]?) fun s=>bnd (frAt ρ i o js) fun r=>some (s::r)
noncomputable def cGoB (T:FT) (F:FE) (ρ:En) (i:Nat) (js:List Nat) (q:Nat):MO->List D->Option (List D×MO)
 |o,[]=>some ([],o)
 |o,d::r=>bnd (frAt ρ i o js) fun fr=>bnd (T (.im d::fr)) fun p=>if p.1=true then bnd (F p.2) fun z=>bnd (owT z.2[q+1]?) fun o'=>bnd (cGoB T F ρ i js q o' r) fun t=>some (z.1::t.1,t.2)
   else bnd (owT p.2[q+1]?) fun o'=>cGoB T F ρ i js q o' r
theorem cGoB_nil (T:FT) (F:FE) (ρ:En) (i:Nat) (js:List Nat) (q:Nat) (o:MO):cGoB T F ρ i js q o []=some ([],o):=rfl
theorem cGoB_cons (T:FT) (F:FE) (ρ:En) (i:Nat) (js:List Nat) (q:Nat) (o:MO) (d:D) (r:List D):cGoB T F ρ i js q o (d::r)=bnd (frAt ρ i o js) fun fr=>bnd (T (.im d::fr)) fun p=>if p.1=true then bnd (F p.2) fun z=>bnd (owT z.2[q+1]?) fun o'=>bnd (cGoB T F ρ i js q o' r) fun t=>some (z.1::t.1,t.2)
   else bnd (owT p.2[q+1]?) fun o'=>cGoB T F ρ i js q o' r:=rfl
noncomputable def lcB (js:List Nat) (i q:Nat) (T:FT) (F:FE) (xs:List D) (ρ:En):Option (D×En):=bnd (owO ρ[i]?) fun w=>bnd (cGoB T F ρ i js q w.2 xs) fun t=>if xs.length<=sizeLine/\js[q]?=some i/\js.Nodup then some (.lst t.1,ρ.set i (.ow w.1 t.2)) else none
noncomputable def eLCB (js:List Nat) (i q:Nat) (I:FE) (T:FT) (F:FE) (ρ:En):Option (D×En):=bnd (I ρ) fun p=>bnd (items p.1) fun xs=>lcB js i q T F xs p.2
end Fx
namespace Fx
open PySem
noncomputable def ltS (a b:Str):Bool:=decide (a.cps.toList<b.cps.toList)
noncomputable def insS (x:Str):List Str->List Str
 |[]=>[x]
 |y::r=>if ltS y x=true then y::insS x r else x::y::r
noncomputable def sortS:List Str->List Str
 |[]=>[]
 |x::r=>insS x (sortS r)
noncomputable def txts:List D->Option (List Str)
 |[]=>some []
 |.str x::r=>bnd (txts r) fun t=>some (x::t)
 |_=>none
theorem strs_cons (x:Str) (r:List D):txts (.str x::r)=bnd (txts r) fun t=>some (x::t):=rfl
noncomputable def sortL (xs:List D):Option D:=bnd (txts xs) fun ss=>if ss.length<64 then some (.lst ((sortS ss).map .str)) else none
noncomputable def bSorted:List D->Option D
 |[.tup xs]=>sortL xs
 |[.lst xs]=>sortL xs
 |_=>none
noncomputable def lstX:D->Option (List D)
 |.lst xs=>some xs
 |_=>none
noncomputable def strX:D->Option Str
 |.str x=>some x
 |_=>none
noncomputable def joinL (sep:Str) (xs:List D):Option D:=bnd (txts xs) fun ss=>if (ss.map (·.length)).sum+ss.length*sep.length<=1000000 then some (.str (Str.join sep ss)) else none
noncomputable def eJoin (sep:Str) (F:FE) (ρ:En):Option (D×En):=bnd (F ρ) fun p=>bnd (lstX p.1) fun xs=>bnd (joinL sep xs) fun d=>some (d,p.2)
noncomputable def pairsD:List D->Option (List (Str×D))
 |[]=>some []
 |.tup [.str k,v]::r=>bnd (pairsD r) fun t=>some ((k,v)::t)
 |_=>none
noncomputable def getL (xs:List D) (k:D) (d:D):Option D:=bnd (pairsD xs) fun kvs=>bnd (strX k) fun k=>if kvs.length<=1000/\(kvs.map (·.1)).Nodup then some ((getK k kvs).getD d) else none
noncomputable def tupY:D->Option (List D)
 |.tup xs=>some xs
 |_=>none
@[simp] theorem tupY_t (xs:List D):tupY (.tup xs)=some xs:=Eq.trans rfl rfl
noncomputable def eDGet (E Kf Df:FE) (ρ:En):Option (D×En):=bnd (E ρ) fun p=>bnd (tupY p.1) fun xs=>if p.2.all noOw=true then bnd (Kf p.2) fun q=>bnd (Df q.2) fun r=>bnd (getL xs q.1 r.1) fun d=>some (d,r.2) else none
@[simp] theorem noOw_i (d:D):noOw (.im d)=true:=Eq.trans rfl rfl
@[simp] theorem noOw_n:noOw .no=true:=Eq.trans rfl rfl
@[simp] theorem bSorted_t (xs:List D):bSorted [.tup xs]=sortL xs:=Eq.trans rfl rfl
@[simp] theorem bSorted_l (xs:List D):bSorted [.lst xs]=sortL xs:=Eq.trans rfl rfl
@[simp] theorem lstX_l (xs:List D):lstX (.lst xs)=some xs:=Eq.trans rfl rfl
noncomputable def eJoinb (sep:Str) (ρ:En) (o:Option (List D)):Option (D×En):=bnd o fun xs=>bnd (joinL sep xs) fun d=>some (d,ρ)
noncomputable def eJoina (sep:Str) (o:Option (D×En)):Option (D×En):=bnd o fun p=>eJoinb sep p.2 (lstX p.1)
@[simp] theorem eJoin_ (sep:Str) (F:FE) (ρ:En):eJoin sep F ρ=eJoina sep (F ρ):=Eq.trans rfl rfl
@[simp] theorem eJoina_s (sep:Str) (x:D) (ρ:En):eJoina sep (some (x,ρ))=eJoinb sep ρ (lstX x):=Eq.trans rfl rfl
@[simp] theorem eJoinb_s (sep:Str) (ρ:En) (xs:List D):eJoinb sep ρ (some xs)=mkP (joinL sep xs) ρ:=Eq.trans rfl rfl
noncomputable def eDGetd (xs:List D) (k:D) (o:Option (D×En)):Option (D×En):=bnd o fun r=>bnd (getL xs k r.1) fun d=>some (d,r.2)
noncomputable def eDGetc (Df:FE) (xs:List D) (o:Option (D×En)):Option (D×En):=bnd o fun q=>eDGetd xs q.1 (Df q.2)
noncomputable def eDGetb (Kf Df:FE) (ρ:En) (o:Option (List D)):Option (D×En):=bnd o fun xs=>if ρ.all noOw=true then eDGetc Df xs (Kf ρ) else none
noncomputable def eDGeta (Kf Df:FE) (o:Option (D×En)):Option (D×En):=bnd o fun p=>eDGetb Kf Df p.2 (tupY p.1)
@[simp] theorem eDGet_ (E Kf Df:FE) (ρ:En):eDGet E Kf Df ρ=eDGeta Kf Df (E ρ):=Eq.trans rfl rfl
@[simp] theorem eDGeta_s (Kf Df:FE) (x:D) (ρ:En):eDGeta Kf Df (some (x,ρ))=eDGetb Kf Df ρ (tupY x):=Eq.trans rfl rfl
@[simp] theorem eDGetb_s (Kf Df:FE) (ρ:En) (xs:List D):eDGetb Kf Df ρ (some xs)=if ρ.all noOw=true then eDGetc Df xs (Kf ρ) else none:=Eq.trans rfl rfl
@[simp] theorem eDGetc_s (Df:FE) (xs:List D) (k:D) (ρ:En):eDGetc Df xs (some (k,ρ))=eDGetd xs k (Df ρ):=Eq.trans rfl rfl
@[simp] theorem eDGetd_s (xs:List D) (k d:D) (ρ:En):eDGetd xs k (some (d,ρ))=mkP (getL xs k d) ρ:=Eq.trans rfl rfl
theorem mem_insS {x y:Str}:∀ {l:List Str},y∈insS x l↔y=x\/y∈l
 |[]=>by simp[insS]
 |z::r=>by
  unfold insS
  split
  ·rw[List.mem_cons,mem_insS,List.mem_cons]
   exact⟨fun h=>by rcases h with h | h | h;exact .inr (.inl h);exact .inl h;exact .inr (.inr h),fun h=>by rcases h with h | h | h;exact .inr (.inl h);exact .inl h;exact .inr (.inr h)⟩
  ·rw[List.mem_cons]
theorem strs_map:∀ (ss:List Str),txts (ss.map .str)=some ss
 |[]=>rfl
 |x::r=>by rw[List.map_cons,strs_cons,strs_map r];rfl
end Fx
namespace Fx
open PySem
noncomputable def addS (acc:List Str) (x:Str):List Str:=if x∈acc then acc else acc++[x]
noncomputable def addAll (acc:List Str) (xs:List Str):List Str:=xs.foldl addS acc
noncomputable def sortSetL (xs:List D):Option D:=bnd (txts xs) fun ss=>if ss.length<64 then some (.lst ((sortS (addAll [] ss)).map .str)) else none
noncomputable def bSortSet:List D->Option D
 |[.tup xs]=>sortSetL xs
 |[.lst xs]=>sortSetL xs
 |_=>none
@[simp] theorem bSortSet_t (xs:List D):bSortSet [.tup xs]=sortSetL xs:=Eq.trans rfl rfl
@[simp] theorem bSortSet_l (xs:List D):bSortSet [.lst xs]=sortSetL xs:=Eq.trans rfl rfl
theorem sortSetL_strs (ks:List Str) (h:ks.length<64):sortSetL (ks.map .str)=some (.lst ((sortS (addAll [] ks)).map .str)):=by
 unfold sortSetL;rw[strs_map,bnd_some,if_pos h]
theorem mem_addAll {y:Str}:∀ {xs acc:List Str},y∈addAll acc xs↔y∈acc\/y∈xs
 |[],acc=>by simp[addAll]
 |x::r,acc=>by
  have ih:=mem_addAll (y:=y) (xs:=r) (acc:=addS acc x);show y∈addAll (addS acc x) r↔_;rw[ih,List.mem_cons]
  have:y∈addS acc x↔y∈acc\/y=x:=by
   unfold addS
   split
   ·rename_i h
    exact⟨.inl,fun q=>q.elim id fun e=>e▸h⟩
   ·rw[List.mem_append,List.mem_singleton]
  rw[this];exact⟨fun q=>by rcases q with (q | q) | q;exact .inl q;exact .inr (.inl q);exact .inr (.inr q),fun q=>by rcases q with q | q | q;exact .inl (.inl q);exact .inl (.inr q);exact .inr q⟩
end Fx
namespace Fx
open PySem
noncomputable def sqA:D->Option (List D)
 |.tup xs=>some xs
 |.lst xs=>some xs
 |_=>none
@[simp] theorem sqA_t (xs:List D):sqA (.tup xs)=some xs:=Eq.trans rfl rfl
@[simp] theorem sqA_l (xs:List D):sqA (.lst xs)=some xs:=Eq.trans rfl rfl
end Fx
namespace Fx
open PySem
end Fx
namespace Fx
open PySem
noncomputable def dctX:D->Option (List Str×List D)
 |.dct ks vs=>some (ks,vs)
 |_=>none
@[simp] theorem dctX_d (ks:List Str) (vs:List D):dctX (.dct ks vs)=some (ks,vs):=Eq.trans rfl rfl
noncomputable def dDix (d k:D):Option D:=bnd (dctX d) fun q=>bnd (strX k) fun s=>getK s (q.1.zip q.2)
noncomputable def dDin (k d:D):Option D:=bnd (dctX d) fun q=>bnd (strX k) fun s=>some (.bl (getK s (q.1.zip q.2)).isSome)
noncomputable def dDnin (k d:D):Option D:=bnd (dctX d) fun q=>bnd (strX k) fun s=>some (.bl (!(getK s (q.1.zip q.2)).isSome))
@[simp] theorem dDix_ (ks:List Str) (vs:List D) (k:Str):dDix (.dct ks vs) (.str k)=getK k (ks.zip vs):=Eq.trans rfl rfl
@[simp] theorem dDin_ (ks:List Str) (vs:List D) (k:Str):dDin (.str k) (.dct ks vs)=some (.bl (getK k (ks.zip vs)).isSome):=Eq.trans rfl rfl
@[simp] theorem dDnin_ (ks:List Str) (vs:List D) (k:Str):dDnin (.str k) (.dct ks vs)=some (.bl (!(getK k (ks.zip vs)).isSome)):=Eq.trans rfl rfl
noncomputable def eDGt (E Kf Df:FE) (ρ:En):Option (D×En):=bnd (E ρ) fun p=>bnd (dctX p.1) fun q=>bnd (Kf p.2) fun k=>bnd (Df k.2) fun e=>bnd (strX k.1) fun s=>some ((getK s (q.1.zip q.2)).getD e.1,e.2)
noncomputable def eDGtc (q:List Str×List D) (k:D) (o:Option (D×En)):Option (D×En):=bnd o fun e=>bnd (strX k) fun s=>some ((getK s (q.1.zip q.2)).getD e.1,e.2)
noncomputable def eDGtb (q:List Str×List D) (Df:FE) (o:Option (D×En)):Option (D×En):=bnd o fun k=>eDGtc q k.1 (Df k.2)
noncomputable def eDGta (Kf Df:FE) (o:Option (D×En)):Option (D×En):=bnd o fun p=>bnd (dctX p.1) fun q=>eDGtb q Df (Kf p.2)
@[simp] theorem eDGt_ (E Kf Df:FE) (ρ:En):eDGt E Kf Df ρ=eDGta Kf Df (E ρ):=Eq.trans rfl rfl
@[simp] theorem eDGta_s (Kf Df:FE) (ks:List Str) (vs:List D) (ρ:En):eDGta Kf Df (some (.dct ks vs,ρ))=eDGtb (ks,vs) Df (Kf ρ):=Eq.trans rfl rfl
@[simp] theorem eDGtb_s (q:List Str×List D) (Df:FE) (k:D) (ρ:En):eDGtb q Df (some (k,ρ))=eDGtc q k (Df ρ):=Eq.trans rfl rfl
@[simp] theorem eDGtc_s (ks:List Str) (vs:List D) (k:Str) (e:D) (ρ:En):eDGtc (ks,vs) (.str k) (some (e,ρ))=some ((getK k (ks.zip vs)).getD e,ρ):=Eq.trans rfl rfl
noncomputable def bListD:List D->Option D
 |[.dct ks vs]=>some (.lst (ks.map .str))
 |_=>none
@[simp] theorem bListD_ (ks:List Str) (vs:List D):bListD [.dct ks vs]=some (.lst (ks.map .str)):=Eq.trans rfl rfl
noncomputable def eLCD (js:List Nat) (I:FE) (T:FT) (F:FE) (ρ:En):Option (D×En):=bnd (I ρ) fun p=>bnd (dctX p.1) fun q=>bnd (imAt p.2 js) fun fr=>bnd (cGo T F fr (q.1.map .str)) fun ys=>if q.1.length<=sizeLine then some (.lst ys,p.2) else none
noncomputable def eLCDc (n:Nat) (ρ:En) (o:Option (List D)):Option (D×En):=bnd o fun ys=>if n<=sizeLine then some (.lst ys,ρ) else none
noncomputable def eLCDb (q:List Str) (T:FT) (F:FE) (ρ:En) (o:Option En):Option (D×En):=bnd o fun fr=>eLCDc q.length ρ (cGo T F fr (q.map .str))
noncomputable def eLCDa (js:List Nat) (T:FT) (F:FE) (o:Option (D×En)):Option (D×En):=bnd o fun p=>bnd (dctX p.1) fun q=>eLCDb q.1 T F p.2 (imAt p.2 js)
@[simp] theorem eLCD_ (js:List Nat) (I:FE) (T:FT) (F:FE) (ρ:En):eLCD js I T F ρ=eLCDa js T F (I ρ):=Eq.trans rfl rfl
@[simp] theorem eLCDa_s (js:List Nat) (T:FT) (F:FE) (ks:List Str) (vs:List D) (ρ:En):eLCDa js T F (some (.dct ks vs,ρ))=eLCDb ks T F ρ (imAt ρ js):=Eq.trans rfl rfl
@[simp] theorem eLCDb_s (q:List Str) (T:FT) (F:FE) (ρ fr:En):eLCDb q T F ρ (some fr)=eLCDc q.length ρ (cGo T F fr (q.map .str)):=Eq.trans rfl rfl
@[simp] theorem eLCDc_s (n:Nat) (ρ:En) (ys:List D):eLCDc n ρ (some ys)=if n<=sizeLine then some (.lst ys,ρ) else none:=Eq.trans rfl rfl
noncomputable def owLs:Option Sl->Option (List D)
 |some (.ow _ (.lst ds))=>some ds
 |_=>none
@[simp] theorem owLs_s (b:Bool) (ds:List D):owLs (some (.ow b (.lst ds)))=some ds:=Eq.trans rfl rfl
noncomputable def eLCO (js:List Nat) (i:Nat) (T:FT) (F:FE) (ρ:En):Option (D×En):=bnd (owLs ρ[i]?) fun ds=>bnd (imAt ρ js) fun fr=>bnd (cGo T F fr ds) fun ys=>if ds.length<=sizeLine then some (.lst ys,ρ) else none
noncomputable def eLCOb (ds:List D) (T:FT) (F:FE) (ρ:En) (o:Option En):Option (D×En):=bnd o fun fr=>eLCDc ds.length ρ (cGo T F fr ds)
noncomputable def eLCOa (js:List Nat) (T:FT) (F:FE) (ρ:En) (o:Option (List D)):Option (D×En):=bnd o fun ds=>eLCOb ds T F ρ (imAt ρ js)
@[simp] theorem eLCO_ (js:List Nat) (i:Nat) (T:FT) (F:FE) (ρ:En):eLCO js i T F ρ=eLCOa js T F ρ (owLs ρ[i]?):=Eq.trans rfl rfl
@[simp] theorem eLCOa_s (js:List Nat) (T:FT) (F:FE) (ρ:En) (ds:List D):eLCOa js T F ρ (some ds)=eLCOb ds T F ρ (imAt ρ js):=Eq.trans rfl rfl
@[simp] theorem eLCOb_s (ds:List D) (T:FT) (F:FE) (ρ fr:En):eLCOb ds T F ρ (some fr)=eLCDc ds.length ρ (cGo T F fr ds):=Eq.trans rfl rfl
noncomputable def eInO (neg:Bool) (F:FE) (i:Nat) (ρ:En):Option (D×En):=bnd (F ρ) fun p=>bnd (owLs p.2[i]?) fun ds=>if okIn p.1 ds=true then some (.bl (if neg then !inD p.1 ds else inD p.1 ds),p.2) else none
noncomputable def eInOb (neg:Bool) (x:D) (ρ:En) (o:Option (List D)):Option (D×En):=bnd o fun ds=>if okIn x ds=true then some (.bl (if neg then !inD x ds else inD x ds),ρ) else none
noncomputable def eInOa (neg:Bool) (i:Nat) (o:Option (D×En)):Option (D×En):=bnd o fun p=>eInOb neg p.1 p.2 (owLs p.2[i]?)
@[simp] theorem eInO_ (neg:Bool) (F:FE) (i:Nat) (ρ:En):eInO neg F i ρ=eInOa neg i (F ρ):=Eq.trans rfl rfl
@[simp] theorem eInOa_s (neg:Bool) (i:Nat) (x:D) (ρ:En):eInOa neg i (some (x,ρ))=eInOb neg x ρ (owLs ρ[i]?):=Eq.trans rfl rfl
@[simp] theorem eInOb_s (neg:Bool) (x:D) (ρ:En) (ds:List D):eInOb neg x ρ (some ds)=if okIn x ds=true then some (.bl (if neg then !inD x ds else inD x ds),ρ) else none:=Eq.trans rfl rfl
noncomputable def eOrV (F G:FE) (ρ:En):Option (D×En):=bnd (F ρ) fun p=>bnd (dTru p.1) fun b=>if b=true then some p else G p.2
noncomputable def eOrVb (x:D) (ρ:En) (G:FE) (o:Option Bool):Option (D×En):=bnd o fun b=>if b=true then some (x,ρ) else G ρ
noncomputable def eOrVa (G:FE) (o:Option (D×En)):Option (D×En):=bnd o fun p=>eOrVb p.1 p.2 G (dTru p.1)
@[simp] theorem eOrV_ (F G:FE) (ρ:En):eOrV F G ρ=eOrVa G (F ρ):=Eq.trans rfl rfl
@[simp] theorem eOrVa_s (G:FE) (x:D) (ρ:En):eOrVa G (some (x,ρ))=eOrVb x ρ G (dTru x):=Eq.trans rfl rfl
@[simp] theorem eOrVb_s (x:D) (ρ:En) (G:FE) (b:Bool):eOrVb x ρ G (some b)=if b=true then some (x,ρ) else G ρ:=Eq.trans rfl rfl
end Fx
set_option maxRecDepth 100000
namespace Fx
open PySem
noncomputable abbrev Ky:=List (List Int)
mutual
noncomputable def fK:D->Ky
 |.int i=>[[i]]
 |.str s=>[s.cps.toList.map Int.ofNat]
 |.tup xs=>fKs xs
 |_=>[]
noncomputable def fKs:List D->Ky
 |[]=>[]
 |d::r=>fK d++fKs r
end
noncomputable def ltK (a b:D):Bool:=decide (fK a<fK b)
noncomputable def insT (x:D):List D->List D
 |[]=>[x]
 |y::r=>if ltK y x=true then y::insT x r else x::y::r
noncomputable def sortT:List D->List D
 |[]=>[]
 |x::r=>insT x (sortT r)
theorem mem_insT {x y:D}:∀ {l:List D},y∈insT x l↔y=x\/y∈l
 |[]=>by simp[insT]
 |z::r=>by
  unfold insT
  split
  ·rw[List.mem_cons,mem_insT,List.mem_cons]
   exact⟨fun h=>by rcases h with h | h | h;exact .inr (.inl h);exact .inl h;exact .inr (.inr h),fun h=>by rcases h with h | h | h;exact .inr (.inl h);exact .inl h;exact .inr (.inr h)⟩
  ·rw[List.mem_cons]
theorem insT_perm {x:D}:∀ {l:List D},(insT x l).Perm (x::l)
 |[]=>List.Perm.refl _
 |y::r=>by
  unfold insT
  split
  ·exact ((insT_perm (l:=r)).cons y).trans (List.Perm.swap x y r)
  ·exact List.Perm.refl _
theorem sortT_perm:∀ l:List D,(sortT l).Perm l
 |[]=>List.Perm.refl _
 |x::r=>by unfold sortT;exact insT_perm.trans ((sortT_perm r).cons x)
theorem ltK_trans {a b c:Ky} (h1:¬ b<a) (h2:¬ c<b):¬ c<a:=List.not_lt.mpr (List.le_trans (List.not_lt.mp h1) (List.not_lt.mp h2))
theorem insT_pw {x:D}:∀ {l:List D},(l.Pairwise fun a b=>ltK b a=false)->(insT x l).Pairwise fun a b=>ltK b a=false
 |[],_=>List.pairwise_singleton _ _
 |y::r,h=>by
  unfold insT;obtain⟨h1,h2⟩:=List.pairwise_cons.mp h
  by_cases q:ltK y x=true
  ·rw[if_pos q]
   refine List.pairwise_cons.mpr ⟨fun z hz=>?_,insT_pw h2⟩
   rcases mem_insT.mp hz with rfl | hz
   ·unfold ltK at q ⊢
    rw[decide_eq_true_eq] at q;rw[decide_eq_false_iff_not];exact List.not_lt.mpr (List.le_of_lt q)
   ·exact h1 z hz
  ·rw[if_neg q]
   have q:ltK y x=false:=by simpa using q
   refine List.pairwise_cons.mpr ⟨fun z hz=>?_,h⟩
   rcases List.mem_cons.mp hz with rfl | hz
   ·exact q
   ·have a2:=h1 z hz
    unfold ltK at q a2 ⊢;rw[decide_eq_false_iff_not] at q a2 ⊢;exact ltK_trans q a2
theorem sortT_pw:∀ l:List D,(sortT l).Pairwise fun a b=>ltK b a=false
 |[]=>List.Pairwise.nil
 |x::r=>by unfold sortT;exact insT_pw (sortT_pw r)
theorem sortT_uniq {l t:List D} (inj:∀ a b,a∈l->b∈l->fK a=fK b->a=b) (hp:t.Perm l) (hs:t.Pairwise fun a b=>ltK b a=false):t=sortT l:=by
 refine List.Perm.eq_of_pairwise (le:=fun a b=>ltK b a=false) (fun a b ha hb p q=>?_) hs (sortT_pw l) (hp.trans (sortT_perm l).symm)
 unfold ltK at p q;rw[decide_eq_false_iff_not] at p q;exact inj a b (hp.mem_iff.mp ha) ((sortT_perm l).mem_iff.mp hb) (List.le_antisymm (List.not_lt.mp p) (List.not_lt.mp q))
theorem count_lt {p q:Nat->Bool}:∀ {l:List Nat},(∀ x,p x=true->q x=true)->(∃ x∈l,q x=true/\p x=false)->l.countP p<l.countP q
 |[],_,h=>by obtain⟨x,h,_⟩:=h;cases h
 |y::r,hi,h=>by
  have le:r.countP p<=r.countP q:=List.countP_mono_left fun x _=>hi x
  obtain⟨x,hx,h1,h2⟩:=h
  rcases List.mem_cons.mp hx with rfl | hx
  ·rw[List.countP_cons_of_neg (by rw[h2];exact Bool.false_ne_true),List.countP_cons_of_pos h1];omega
  ·have ih:=count_lt hi ⟨x,hx,h1,h2⟩
   cases hp:p y with
   |true=>rw[List.countP_cons_of_pos hp,List.countP_cons_of_pos (hi y hp)];omega
   |false =>
    rw[List.countP_cons_of_neg (by rw[hp];exact Bool.false_ne_true)]
    exact Nat.lt_of_lt_of_le ih (by rw[List.countP_cons];omega)
noncomputable def rankK (n:Nat) (key:Nat->Ky) (i:Nat):Nat:=(List.range n).countP fun k=>decide (key k<key i)
theorem rank_iff {n:Nat}{key:Nat->Ky}{i j:Nat} (hi:i<n):rankK n key i<rankK n key j↔key i<key j:=by
 constructor
 ·intro h
  by_cases c:key i<key j
  ·exact c
  ·have le:rankK n key j<=rankK n key i:=List.countP_mono_left fun x _ hx=>by
    rw[decide_eq_true_eq] at hx ⊢;refine Decidable.byContradiction fun z=>c (List.lt_of_le_of_lt (List.not_lt.mp z) hx)
   omega
 ·intro c
  refine count_lt (fun x hx=>?_) ⟨i,List.mem_range.mpr hi,decide_eq_true c,decide_eq_false (List.lt_irrefl _)⟩
  rw[decide_eq_true_eq] at hx ⊢;exact List.lt_trans hx c
end Fx
namespace Fx
open PySem
noncomputable def r3:D->Bool
 |.tup [.int _,.str _,.int _]=>true
 |_=>false
noncomputable def r22:D->Bool
 |.tup [.tup [.str _,.int _],.tup [.int _,.int _]]=>true
 |_=>false
noncomputable def bSortT:List D->Option D
 |[.lst xs]=>if xs.length<64/\(xs.all r3=true\/xs.all r22=true) then some (.lst (sortT xs)) else none
 |_=>none
@[simp] theorem bSortT_l (xs:List D):bSortT [.lst xs]=if xs.length<64/\(xs.all r3=true\/xs.all r22=true) then some (.lst (sortT xs)) else none:=Eq.trans rfl rfl
end Fx
namespace Fx
open PySem
noncomputable def dRev:D->Option D
 |.lst xs=>some (.lst xs.reverse)
 |_=>none
@[simp] theorem dRev_l (xs:List D):dRev (.lst xs)=some (.lst xs.reverse):=Eq.trans rfl rfl
noncomputable def two:D->Option (D×D)
 |.tup [a,b]=>some (a,b)
 |_=>none
noncomputable def keyT:D->Option Str
 |.tup [.int _,.str k,.int _]=>some k
 |_=>none
end Fx
namespace Fx
open PySem
noncomputable def kS:D->Option Str
 |.str k=>some k
 |_=>none
@[simp] theorem kS_s (k:Str):kS (.str k)=some k:=Eq.trans rfl rfl
noncomputable def putD (k:Str) (d:D) (kds:List (Str×D)):List (Str×D):=if (getK k kds).isSome=true then setK k d kds else kds++[(k,d)]
noncomputable def sDN (i:Nat) (ρ:En):Option Res:=some (.nx (ρ.set i (.ow false (.dic []))))
@[simp] theorem sDN_ (i:Nat) (ρ:En):sDN i ρ=some (.nx (ρ.set i (.ow false (.dic [])))):=Eq.trans rfl rfl
noncomputable def sDKe (i:Nat) (d:D) (ρ:En) (k:Str) (o:Option (Bool×List (Str×D))):Option Res:=bnd o fun q=>if q.2.length<100 then some (.nx (ρ.set i (.ow q.1 (.dic (putD k d q.2))))) else none
noncomputable def sDKd (i:Nat) (d:D) (ρ:En) (o:Option Str):Option Res:=bnd o fun k=>sDKe i d ρ k (owD ρ[i]?)
noncomputable def sDKc (i:Nat) (d:D) (o:Option (D×En)):Option Res:=bnd o fun p=>sDKd i d p.2 (kS p.1)
noncomputable def sDKb (i:Nat) (G:FE) (d:D) (ρ:En) (o:Option (Bool×List (Str×D))):Option Res:=bnd o fun _=>sDKc i d (G ρ)
noncomputable def sDKa (i:Nat) (G:FE) (o:Option (D×En)):Option Res:=bnd o fun p=>sDKb i G p.1 p.2 (owD p.2[i]?)
noncomputable def sDK (i:Nat) (G F:FE) (ρ:En):Option Res:=sDKa i G (F ρ)
@[simp] theorem sDK_ (i:Nat) (G F:FE) (ρ:En):sDK i G F ρ=sDKa i G (F ρ):=Eq.trans rfl rfl
@[simp] theorem sDKa_s (i:Nat) (G:FE) (d:D) (ρ:En):sDKa i G (some (d,ρ))=sDKb i G d ρ (owD ρ[i]?):=Eq.trans rfl rfl
@[simp] theorem sDKb_s (i:Nat) (G:FE) (d:D) (ρ:En) (q:Bool×List (Str×D)):sDKb i G d ρ (some q)=sDKc i d (G ρ):=Eq.trans rfl rfl
@[simp] theorem sDKc_s (i:Nat) (d x:D) (ρ:En):sDKc i d (some (x,ρ))=sDKd i d ρ (kS x):=Eq.trans rfl rfl
@[simp] theorem sDKd_s (i:Nat) (d:D) (ρ:En) (k:Str):sDKd i d ρ (some k)=sDKe i d ρ k (owD ρ[i]?):=Eq.trans rfl rfl
@[simp] theorem sDKe_s (i:Nat) (d:D) (ρ:En) (k:Str) (b:Bool) (kds:List (Str×D)):sDKe i d ρ k (some (b,kds))=if kds.length<100 then some (.nx (ρ.set i (.ow b (.dic (putD k d kds))))) else none:=Eq.trans rfl rfl
noncomputable def nOw:Option Sl->Option MO
 |some (.ow false o)=>some o
 |_=>none
@[simp] theorem nOw_s (o:MO):nOw (some (.ow false o))=some o:=Eq.trans rfl rfl
noncomputable def nRetO (i:Nat) (ρ:En):Option MO:=nOw ρ[i]?
@[simp] theorem nRetO_ (i:Nat) (ρ:En):nRetO i ρ=nOw ρ[i]?:=Eq.trans rfl rfl
noncomputable def sXa (o:Option (D×En)):Option Res:=bnd o fun p=>some (.nx p.2)
noncomputable def sX (F:FE) (ρ:En):Option Res:=sXa (F ρ)
@[simp] theorem sX_ (F:FE) (ρ:En):sX F ρ=sXa (F ρ):=Eq.trans rfl rfl
@[simp] theorem sXa_s (d:D) (ρ:En):sXa (some (d,ρ))=some (.nx ρ):=Eq.trans rfl rfl
mutual
noncomputable def nd:D->Bool
 |.opq=>false
 |.dct _ _=>false
 |.tup xs=>nds xs
 |.lst xs=>nds xs
 |_=>true
noncomputable def nds:List D->Bool
 |[]=>true
 |d::r=>nd d&&nds r
end
noncomputable def ndS:Sl->Bool
 |.ow _ (.lst ds)=>nds ds
 |.ow _ (.dic kds)=>nds (kds.map (·.2))
 |_=>true
noncomputable def hld (kds:List (Str×D)):Sl:=.im (.dct (kds.map (·.1)) (kds.map (·.2)))
noncomputable def eHoldB (ρ ρh:En) (o:Option (D×En)):Option (D×En):=bnd o fun p=>@ite _ (nd p.1=true/\p.2=ρh) (Classical.propDecidable _) (some (p.1,ρ)) none
noncomputable def eHoldA (i:Nat) (F:FE) (ρ:En) (o:Option (Bool×List (Str×D))):Option (D×En):=bnd o fun q=>if q.1=false/\ρ.all ndS=true then eHoldB ρ (ρ.set i (hld q.2)) (F (ρ.set i (hld q.2))) else none
noncomputable def eHold (i:Nat) (F:FE) (ρ:En):Option (D×En):=eHoldA i F ρ (owD ρ[i]?)
@[simp] theorem eHold_ (i:Nat) (F:FE) (ρ:En):eHold i F ρ=eHoldA i F ρ (owD ρ[i]?):=Eq.trans rfl rfl
@[simp] theorem eHoldA_s (i:Nat) (F:FE) (ρ:En) (b:Bool) (kds:List (Str×D)):eHoldA i F ρ (some (b,kds))=if b=false/\ρ.all ndS=true then eHoldB ρ (ρ.set i (hld kds)) (F (ρ.set i (hld kds))) else none:=Eq.trans rfl rfl
noncomputable def sFzDa (i:Nat) (G:FS) (ρ:En) (o:Option (Bool×List (Str×D))):Option Res:=bnd o fun q=>if q.1=false then G (ρ.set i (hld q.2)) else none
noncomputable def sFzD (i:Nat) (G:FS) (ρ:En):Option Res:=sFzDa i G ρ (owD ρ[i]?)
@[simp] theorem sFzD_ (i:Nat) (G:FS) (ρ:En):sFzD i G ρ=sFzDa i G ρ (owD ρ[i]?):=Eq.trans rfl rfl
@[simp] theorem sFzDa_s (i:Nat) (G:FS) (ρ:En) (b:Bool) (kds:List (Str×D)):sFzDa i G ρ (some (b,kds))=if b=false then G (ρ.set i (hld kds)) else none:=Eq.trans rfl rfl
noncomputable def asD:MO->Option D
 |.dic kds=>some (.dct (kds.map (·.1)) (kds.map (·.2)))
 |_=>none
@[simp] theorem asD_s (kds:List (Str×D)):asD (.dic kds)=some (.dct (kds.map (·.1)) (kds.map (·.2))):=Eq.trans rfl rfl
noncomputable def eNFc (ρ:En) (o:Option D):Option (D×En):=bnd o fun d=>some (d,ρ)
noncomputable def eNFb (ρ:En) (o:Option MO):Option (D×En):=bnd o fun m=>eNFc ρ (asD m)
noncomputable def eNFa (g:List D->Option MO) (o:Option (List D×En)):Option (D×En):=bnd o fun p=>eNFb p.2 (g p.1)
noncomputable def eNF (g:List D->Option MO) (A:FA) (ρ:En):Option (D×En):=eNFa g (A ρ)
@[simp] theorem eNF_ (g:List D->Option MO) (A:FA) (ρ:En):eNF g A ρ=eNFa g (A ρ):=Eq.trans rfl rfl
@[simp] theorem eNFa_s (g:List D->Option MO) (ds:List D) (ρ:En):eNFa g (some (ds,ρ))=eNFb ρ (g ds):=Eq.trans rfl rfl
@[simp] theorem eNFb_s (ρ:En) (m:MO):eNFb ρ (some m)=eNFc ρ (asD m):=Eq.trans rfl rfl
@[simp] theorem eNFc_s (ρ:En) (d:D):eNFc ρ (some d)=some (d,ρ):=Eq.trans rfl rfl
noncomputable def bDct:List D->Option D
 |[.dct ks ds]=>some (.dct ks ds)
 |_=>none
@[simp] theorem bDct_s (ks:List Str) (ds:List D):bDct [.dct ks ds]=some (.dct ks ds):=Eq.trans rfl rfl
noncomputable def dcX:D->Option (List (Str×D))
 |.dct ks ds=>some (ks.zip ds)
 |_=>none
@[simp] theorem dcX_s (ks:List Str) (ds:List D):dcX (.dct ks ds)=some (ks.zip ds):=Eq.trans rfl rfl
noncomputable def sDCb (i:Nat) (ρ:En) (o:Option (List (Str×D))):Option Res:=bnd o fun kds=>some (.nx (ρ.set i (.ow false (.dic kds))))
noncomputable def sDCa (i:Nat) (o:Option (D×En)):Option Res:=bnd o fun p=>sDCb i p.2 (dcX p.1)
noncomputable def sDC (i:Nat) (F:FE) (ρ:En):Option Res:=sDCa i (F ρ)
@[simp] theorem sDC_ (i:Nat) (F:FE) (ρ:En):sDC i F ρ=sDCa i (F ρ):=Eq.trans rfl rfl
@[simp] theorem sDCa_s (i:Nat) (d:D) (ρ:En):sDCa i (some (d,ρ))=sDCb i ρ (dcX d):=Eq.trans rfl rfl
@[simp] theorem sDCb_s (i:Nat) (ρ:En) (kds:List (Str×D)):sDCb i ρ (some kds)=some (.nx (ρ.set i (.ow false (.dic kds)))):=Eq.trans rfl rfl
noncomputable def dDx:D->D->Option D
 |.dct ks ds,.str k=>getK k (ks.zip ds)
 |_,_=>none
@[simp] theorem dDx_s (ks:List Str) (ds:List D) (k:Str):dDx (.dct ks ds) (.str k)=getK k (ks.zip ds):=Eq.trans rfl rfl
noncomputable def flat:D->Bool
 |.non=>true
 |.int _=>true
 |_=>false
noncomputable def hitD (d:D):Option D->Bool
 |some e=>eqD d e
 |none=>false
noncomputable def sameD (a b:List (Str×D)):Bool:=a.length==b.length&&a.all fun p=>hitD p.2 (getK p.1 b)
noncomputable def dDq:D->D->Option D
 |.dct ks ds,.dct ms es=>if ds.all flat=true/\es.all flat=true then some (.bl (sameD (ks.zip ds) (ms.zip es))) else none
 |_,_=>none
noncomputable def dDn:D->D->Option D
 |.dct ks ds,.dct ms es=>if ds.all flat=true/\es.all flat=true then some (.bl (!sameD (ks.zip ds) (ms.zip es))) else none
 |_,_=>none
@[simp] theorem dDq_s (ks ms:List Str) (ds es:List D):dDq (.dct ks ds) (.dct ms es)=if ds.all flat=true/\es.all flat=true then some (.bl (sameD (ks.zip ds) (ms.zip es))) else none:=Eq.trans rfl rfl
@[simp] theorem dDn_s (ks ms:List Str) (ds es:List D):dDn (.dct ks ds) (.dct ms es)=if ds.all flat=true/\es.all flat=true then some (.bl (!sameD (ks.zip ds) (ms.zip es))) else none:=Eq.trans rfl rfl
noncomputable def sClrb (ρ:En) (o:Option MO):Option Res:=bnd o fun m=>bnd (asD m) fun _=>some (.nx ρ)
noncomputable def sClra (g:List D->Option MO) (o:Option (List D×En)):Option Res:=bnd o fun p=>sClrb p.2 (g p.1)
noncomputable def sClr (g:List D->Option MO) (A:FA) (ρ:En):Option Res:=sClra g (A ρ)
@[simp] theorem sClr_ (g:List D->Option MO) (A:FA) (ρ:En):sClr g A ρ=sClra g (A ρ):=Eq.trans rfl rfl
@[simp] theorem sClra_s (g:List D->Option MO) (ds:List D) (ρ:En):sClra g (some (ds,ρ))=sClrb ρ (g ds):=Eq.trans rfl rfl
@[simp] theorem sClrb_s (ρ:En) (kds:List (Str×D)):sClrb ρ (some (.dic kds))=some (.nx ρ):=Eq.trans rfl rfl
end Fx
namespace Fx
open PySem
noncomputable def tHoldB (ρ ρh:En) (o:Option (Bool×En)):Option (Bool×En):=bnd o fun p=>@ite _ (p.2=ρh) (Classical.propDecidable _) (some (p.1,ρ)) none
noncomputable def tHoldA (i:Nat) (T:FT) (ρ:En) (o:Option (Bool×List (Str×D))):Option (Bool×En):=bnd o fun q=>if q.1=false/\ρ.all ndS=true then tHoldB ρ (ρ.set i (hld q.2)) (T (ρ.set i (hld q.2))) else none
noncomputable def tHold (i:Nat) (T:FT) (ρ:En):Option (Bool×En):=tHoldA i T ρ (owD ρ[i]?)
@[simp] theorem tHold_ (i:Nat) (T:FT) (ρ:En):tHold i T ρ=tHoldA i T ρ (owD ρ[i]?):=Eq.trans rfl rfl
@[simp] theorem tHoldA_s (i:Nat) (T:FT) (ρ:En) (b:Bool) (kds:List (Str×D)):tHoldA i T ρ (some (b,kds))=if b=false/\ρ.all ndS=true then tHoldB ρ (ρ.set i (hld kds)) (T (ρ.set i (hld kds))) else none:=Eq.trans rfl rfl
end Fx
namespace Fx
open PySem
noncomputable def dMulS:D->D->Option D
 |.str x,.int n=>if 1<=n/\n<=1000/\x.length<=1000 then some (.str (Txt.mul x n)) else none
 |_,_=>none
@[simp] theorem dMulS_s (x:Str) (n:Int):dMulS (.str x) (.int n)=if 1<=n/\n<=1000/\x.length<=1000 then some (.str (Txt.mul x n)) else none:=Eq.trans rfl rfl
end Fx
namespace Fx
open PySem
noncomputable def dKx (kds:List (Str×D)):D->Option D
 |.str k=>getK k kds
 |_=>none
@[simp] theorem dKx_s (kds:List (Str×D)) (k:Str):dKx kds (.str k)=getK k kds:=Eq.trans rfl rfl
noncomputable def eDGkd (ρ:En) (k:Str) (o:Option (Bool×List (Str×D))):Option (D×En):=bnd o fun q=>mkP (getK k q.2) ρ
noncomputable def eDGkc (i:Nat) (ρ:En) (o:Option Str):Option (D×En):=bnd o fun k=>eDGkd ρ k (owD ρ[i]?)
noncomputable def eDGkb (i:Nat) (o:Option (D×En)):Option (D×En):=bnd o fun p=>eDGkc i p.2 (kS p.1)
noncomputable def eDGka (i:Nat) (G:FE) (ρ:En) (o:Option (Bool×List (Str×D))):Option (D×En):=bnd o fun _=>eDGkb i (G ρ)
noncomputable def eDGk (i:Nat) (G:FE) (ρ:En):Option (D×En):=eDGka i G ρ (owD ρ[i]?)
@[simp] theorem eDGk_ (i:Nat) (G:FE) (ρ:En):eDGk i G ρ=eDGka i G ρ (owD ρ[i]?):=Eq.trans rfl rfl
@[simp] theorem eDGka_s (i:Nat) (G:FE) (ρ:En) (q:Bool×List (Str×D)):eDGka i G ρ (some q)=eDGkb i (G ρ):=Eq.trans rfl rfl
@[simp] theorem eDGkb_s (i:Nat) (d:D) (ρ:En):eDGkb i (some (d,ρ))=eDGkc i ρ (kS d):=Eq.trans rfl rfl
@[simp] theorem eDGkc_s (i:Nat) (ρ:En) (k:Str):eDGkc i ρ (some k)=eDGkd ρ k (owD ρ[i]?):=Eq.trans rfl rfl
@[simp] theorem eDGkd_s (ρ:En) (k:Str) (b:Bool) (kds:List (Str×D)):eDGkd ρ k (some (b,kds))=mkP (getK k kds) ρ:=Eq.trans rfl rfl
noncomputable def eDGde (ρ:En) (k:Str) (d:D) (o:Option (Bool×List (Str×D))):Option (D×En):=bnd o fun q=>some ((getK k q.2).getD d,ρ)
noncomputable def eDGdd (i:Nat) (k:Str) (o:Option (D×En)):Option (D×En):=bnd o fun p=>eDGde p.2 k p.1 (owD p.2[i]?)
noncomputable def eDGdc (i:Nat) (F:FE) (ρ:En) (o:Option Str):Option (D×En):=bnd o fun k=>eDGdd i k (F ρ)
noncomputable def eDGdb (i:Nat) (F:FE) (o:Option (D×En)):Option (D×En):=bnd o fun p=>eDGdc i F p.2 (kS p.1)
noncomputable def eDGda (i:Nat) (G F:FE) (ρ:En) (o:Option (Bool×List (Str×D))):Option (D×En):=bnd o fun _=>eDGdb i F (G ρ)
noncomputable def eDGd (i:Nat) (G F:FE) (ρ:En):Option (D×En):=eDGda i G F ρ (owD ρ[i]?)
@[simp] theorem eDGd_ (i:Nat) (G F:FE) (ρ:En):eDGd i G F ρ=eDGda i G F ρ (owD ρ[i]?):=Eq.trans rfl rfl
@[simp] theorem eDGda_s (i:Nat) (G F:FE) (ρ:En) (q:Bool×List (Str×D)):eDGda i G F ρ (some q)=eDGdb i F (G ρ):=Eq.trans rfl rfl
@[simp] theorem eDGdb_s (i:Nat) (F:FE) (d:D) (ρ:En):eDGdb i F (some (d,ρ))=eDGdc i F ρ (kS d):=Eq.trans rfl rfl
@[simp] theorem eDGdc_s (i:Nat) (F:FE) (ρ:En) (k:Str):eDGdc i F ρ (some k)=eDGdd i k (F ρ):=Eq.trans rfl rfl
@[simp] theorem eDGdd_s (i:Nat) (k:Str) (d:D) (ρ:En):eDGdd i k (some (d,ρ))=eDGde ρ k d (owD ρ[i]?):=Eq.trans rfl rfl
@[simp] theorem eDGde_s (ρ:En) (k:Str) (d:D) (b:Bool) (kds:List (Str×D)):eDGde ρ k d (some (b,kds))=some ((getK k kds).getD d,ρ):=Eq.trans rfl rfl
noncomputable def sDDa (i:Nat) (ks:List Str) (o:Option (List D×En)):Option Res:=bnd o fun p=>if p.1.length=ks.length/\ks.length<=15/\ks.Nodup then some (.nx (p.2.set i (.ow false (.dic (ks.zip p.1))))) else none
noncomputable def sDD (i:Nat) (ks:List Str) (A:FA) (ρ:En):Option Res:=sDDa i ks (A ρ)
@[simp] theorem sDD_ (i:Nat) (ks:List Str) (A:FA) (ρ:En):sDD i ks A ρ=sDDa i ks (A ρ):=Eq.trans rfl rfl
@[simp] theorem sDDa_s (i:Nat) (ks:List Str) (ds:List D) (ρ:En):sDDa i ks (some (ds,ρ))=if ds.length=ks.length/\ks.length<=15/\ks.Nodup then some (.nx (ρ.set i (.ow false (.dic (ks.zip ds))))) else none:=Eq.trans rfl rfl
noncomputable def addG (k:Str) (d:D):List (Str×List D)->List (Str×List D)
 |[]=>[(k,[d])]
 |q::r=>if q.1=k then (q.1,q.2++[d])::r else q::addG k d r
noncomputable def grpGo:List D->List (Str×List D)->Option (List (Str×List D))
 |[],g=>some g
 |d::r,g=>bnd (keyT d) fun k=>grpGo r (addG k d g)
noncomputable def grpD (g:List (Str×List D)):List (Str×D):=g.map fun q=>(q.1,.lst q.2)
noncomputable def lastIm (j:Nat) (xs:List D) (ρ:En):En:=match xs.getLast? with
 |some d=>ρ.set j (.im d)
 |none=>ρ
noncomputable def sGrpC (j i:Nat) (xs:List D) (ρ:En) (o:Option (List (Str×List D))):Option Res:=bnd o fun g=>some (.nx (lastIm j xs (ρ.set i (.ow false (.dic (grpD g))))))
noncomputable def sGrpB (j i:Nat) (xs:List D) (ρ:En) (o:Option (Bool×List (Str×D))):Option Res:=bnd o fun q=>if q.1=false/\q.2=[]/\xs.length<=1000/\j≠i/\j<ρ.length then sGrpC j i xs ρ (grpGo xs []) else none
noncomputable def sGrpA (j i:Nat) (o:Option (D×En)):Option Res:=bnd o fun p=>match p.1 with
 |.lst xs=>sGrpB j i xs p.2 (owD p.2[i]?)
 |_=>none
noncomputable def sGrp (j i:Nat) (F:FE) (ρ:En):Option Res:=sGrpA j i (F ρ)
@[simp] theorem sGrp_ (j i:Nat) (F:FE) (ρ:En):sGrp j i F ρ=sGrpA j i (F ρ):=Eq.trans rfl rfl
@[simp] theorem sGrpA_s (j i:Nat) (xs:List D) (ρ:En):sGrpA j i (some (.lst xs,ρ))=sGrpB j i xs ρ (owD ρ[i]?):=Eq.trans rfl rfl
@[simp] theorem sGrpB_s (j i:Nat) (xs:List D) (ρ:En) (b:Bool) (kds:List (Str×D)):sGrpB j i xs ρ (some (b,kds))=if b=false/\kds=[]/\xs.length<=1000/\j≠i/\j<ρ.length then sGrpC j i xs ρ (grpGo xs []) else none:=Eq.trans rfl rfl
@[simp] theorem sGrpC_s (j i:Nat) (xs:List D) (ρ:En) (g:List (Str×List D)):sGrpC j i xs ρ (some g)=some (.nx (lastIm j xs (ρ.set i (.ow false (.dic (grpD g)))))):=Eq.trans rfl rfl
noncomputable def owL1:Option Sl->Option (List D)
 |some (.ow false (.lst ds))=>some ds
 |_=>none
@[simp] theorem owL1_s (ds:List D):owL1 (some (.ow false (.lst ds)))=some ds:=Eq.trans rfl rfl
noncomputable def oneOw (i:Nat) (ρ:En):Bool:=(ρ.set i .no).all noOw
noncomputable def tHoldLB (ρ ρh:En) (o:Option (Bool×En)):Option (Bool×En):=bnd o fun p=>@ite _ (p.2=ρh) (Classical.propDecidable _) (some (p.1,ρ)) none
noncomputable def tHoldLA (i:Nat) (T:FT) (ρ:En) (o:Option (List D)):Option (Bool×En):=bnd o fun ds=>if oneOw i ρ=true then tHoldLB ρ (ρ.set i (.im (.lst ds))) (T (ρ.set i (.im (.lst ds)))) else none
noncomputable def tHoldL (i:Nat) (T:FT) (ρ:En):Option (Bool×En):=tHoldLA i T ρ (owL1 ρ[i]?)
@[simp] theorem tHoldL_ (i:Nat) (T:FT) (ρ:En):tHoldL i T ρ=tHoldLA i T ρ (owL1 ρ[i]?):=Eq.trans rfl rfl
@[simp] theorem tHoldLA_s (i:Nat) (T:FT) (ρ:En) (ds:List D):tHoldLA i T ρ (some ds)=if oneOw i ρ=true then tHoldLB ρ (ρ.set i (.im (.lst ds))) (T (ρ.set i (.im (.lst ds)))) else none:=Eq.trans rfl rfl
noncomputable def asL:MO->Option D
 |.lst ds=>some (.lst ds)
 |_=>none
@[simp] theorem asL_s (ds:List D):asL (.lst ds)=some (.lst ds):=Eq.trans rfl rfl
noncomputable def eNLb (ρ:En) (o:Option MO):Option (D×En):=bnd o fun m=>mkP (asL m) ρ
noncomputable def eNLa (g:List D->Option MO) (o:Option (List D×En)):Option (D×En):=bnd o fun p=>eNLb p.2 (g p.1)
noncomputable def eNL (g:List D->Option MO) (A:FA) (ρ:En):Option (D×En):=eNLa g (A ρ)
@[simp] theorem eNL_ (g:List D->Option MO) (A:FA) (ρ:En):eNL g A ρ=eNLa g (A ρ):=Eq.trans rfl rfl
@[simp] theorem eNLa_s (g:List D->Option MO) (ds:List D) (ρ:En):eNLa g (some (ds,ρ))=eNLb ρ (g ds):=Eq.trans rfl rfl
@[simp] theorem eNLb_s (ρ:En) (m:MO):eNLb ρ (some m)=mkP (asL m) ρ:=Eq.trans rfl rfl
noncomputable def bSortU:List D->Option D
 |[.lst xs]=>if xs.length<=1000/\(xs.all r3=true\/xs.all r22=true) then some (.lst (sortT xs)) else none
 |_=>none
@[simp] theorem bSortU_l (xs:List D):bSortU [.lst xs]=if xs.length<=1000/\(xs.all r3=true\/xs.all r22=true) then some (.lst (sortT xs)) else none:=Eq.trans rfl rfl
noncomputable def nSoB (o:Option D):Option MO:=bnd o fun d=>match d with
 |.lst ds=>some (.lst ds)
 |_=>none
noncomputable def nSoA (o:Option (D×En)):Option MO:=bnd o fun p=>nSoB (bSortU [p.1])
noncomputable def nSo (F:FE) (ρ:En):Option MO:=nSoA (F ρ)
@[simp] theorem nSo_ (F:FE) (ρ:En):nSo F ρ=nSoA (F ρ):=Eq.trans rfl rfl
@[simp] theorem nSoA_s (d:D) (ρ:En):nSoA (some (d,ρ))=nSoB (bSortU [d]):=Eq.trans rfl rfl
@[simp] theorem nSoB_s (ds:List D):nSoB (some (.lst ds))=some (.lst ds):=Eq.trans rfl rfl
noncomputable def nFrz (i:Nat) (F:En->Option MO) (ρ:En):Option MO:=F (frz i ρ)
@[simp] theorem nFrz_ (i:Nat) (F:En->Option MO) (ρ:En):nFrz i F ρ=F (frz i ρ):=Eq.trans rfl rfl
end Fx
set_option maxRecDepth 100000
namespace L2
open PySem PySem.Spec PyProof.Rows
theorem ne_lt {a b:Addr}{n:Nat} (h:a<n) (h':n<=b):a≠b:=Nat.ne_of_lt (Nat.lt_of_lt_of_le h h')
theorem ne_lt' {a b:Addr}{n:Nat} (h:a<n) (h':n<=b):b≠a:=(ne_lt h h').symm
noncomputable def clOf (cells:List (Str×Addr)):List (Str×NameKind)->List (Str×Addr)->List (Str×Addr)
 |[],acc=>acc
 |(n,k)::r,acc=>clOf cells r (if (k==NameKind.free)=true then (n,(cells.lookup n).getD 0)::acc else acc)
theorem closure_go {env:Env}:∀ (l:List (Str×NameKind)) (acc:List (Str×Addr)),(∀ y∈l,y.2=.free->∃ c,env.cells.lookup y.1=some c) ->
  (forIn l acc fun (y:Str×NameKind) (cs:List (Str×Addr))=>(match y with
   |(name,kind)=>if (kind==NameKind.free)=true then do let c <- cellOf env name;pure (ForInStep.yield ((name,c)::cs)) else pure (ForInStep.yield cs):Sem _))=pure (clOf env.cells l acc)
 |[],acc,_=>rfl
 |(n,k)::r,acc,h=>by
  rw[List.forIn_cons];unfold clOf
  by_cases e:(k==NameKind.free)=true
  ·have e':k=NameKind.free:=by simpa using e
   obtain⟨c,hc⟩:=h (n,k) List.mem_cons_self e';simp only[e,if_true,cellOf,hc,pure_bind,Option.getD_some];exact closure_go r _ fun y hy=>h y (List.mem_cons_of_mem _ hy)
  ·simp only[e,if_false,pure_bind]
   exact closure_go r _ fun y hy=>h y (List.mem_cons_of_mem _ hy)
theorem closure_eq {sc:Scope}{env:Env} (h:∀ y∈sc.names,y.2=.free->∃ c,env.cells.lookup y.1=some c):closureFor sc env=pure (clOf env.cells sc.names []):=by
 have e:=closure_go (env:=env) sc.names [] h;simp only[closureFor];exact (bind_pure _).trans e
theorem clOf_sub {cells:List (Str×Addr)}{y:Str}{c:Addr}:∀ (l:List (Str×NameKind)) (acc:List (Str×Addr)),(∀ y∈l,y.2=.free->∃ c,cells.lookup y.1=some c) ->
  (clOf cells l acc).lookup y=some c->cells.lookup y=some c\/acc.lookup y=some c
 |[],acc,_,e=>.inr e
 |(n,k)::r,acc,h,e=>by
  unfold clOf at e;have hr:∀ y∈r,y.2=.free->∃ c,cells.lookup y.1=some c:=fun y hy=>h y (List.mem_cons_of_mem _ hy)
  rcases clOf_sub r _ hr e with q | q
  ·exact .inl q
  ·by_cases z:(k==NameKind.free)=true
   ·rw[if_pos z] at q
    rw[List.lookup_cons] at q;cases hb:y==n with
    |true =>
     rw[hb] at q;obtain⟨c',hc'⟩:=h (n,k) List.mem_cons_self (by simpa using z)
     have hc'':cells.lookup n=some c':=hc';rw[hc''] at q;have e1:y=n:=by simpa using hb
     have q':c'=c:=Option.some.inj q;exact .inl (by rw[e1,hc'',q'])
    |false =>
     rw[hb] at q;exact .inr q
   ·rw[if_neg z] at q
    exact .inr q
theorem clOf_has {cells:List (Str×Addr)}{y:Str}:∀ (l:List (Str×NameKind)) (acc:List (Str×Addr)),((y,NameKind.free)∈l\/∃ c,acc.lookup y=some c)->∃ c,(clOf cells l acc).lookup y=some c
 |[],acc,h=>by
  rcases h with h | h
  ·cases h
  ·exact h
 |(n,k)::r,acc,h=>by
  unfold clOf
  have grow:∀ v:Addr,(∃ c,acc.lookup y=some c)->∃ c,((n,v)::acc).lookup y=some c:=fun v ⟨c,hc⟩=>by
   rw[List.lookup_cons];cases y==n with
   |true=>exact⟨v,rfl⟩
   |false=>exact⟨c,hc⟩
  rcases h with h | h
  ·rcases List.mem_cons.mp h with e | h
   ·have e1:y=n:=congrArg Prod.fst e
    have e2:NameKind.free=k:=congrArg Prod.snd e;subst e1 e2;refine clOf_has r _ (.inr ?_);rw[if_pos (by rfl)]
    refine⟨(cells.lookup y).getD 0,?_⟩;rw[List.lookup_cons];simp
   ·exact clOf_has r _ (.inl h)
  ·refine clOf_has r _ (.inr ?_)
   split
   ·exact grow _ h
   ·exact h
theorem relab_mem {scope:Scope}{env:Env}{y:Str}{k:NameKind} (hc:∀ z∈scope.names,z.2≠.cell) (h:(relabel scope env).names.lookup y=some k) (hk:k=.cell\/k=.free):(y,NameKind.free)∈scope.names:=by
 have m:=PySem.mem_of_lookup h;unfold relabel at m;obtain⟨⟨n,k'⟩,hm,e⟩:=List.mem_map.mp m;dsimp only at e
 split at e
 ·rename_i z
  have e1:n=y:=congrArg Prod.fst e
  have z1:k'=NameKind.free:=by
   simp only[Bool.and_eq_true] at z
   simpa using z.1.1
  subst e1 z1;exact hm
 ·have e1:n=y:=congrArg Prod.fst e
  have e2:k'=k:=congrArg Prod.snd e;subst e1 e2
  rcases hk with z | z
  ·exact absurd z (hc _ hm)
  ·rw[z] at hm;exact hm
theorem relab_free {env:Env} (hf:env.scope.kind=.function):∀ {names:List (Str×NameKind)}{y:Str},names.lookup y=some .free->env.kindOf y=some .cell ->
  (names.map fun (n,k)=>if (k==NameKind.free&&env.scope.kind==.function&&env.kindOf n==some .cell) then (n,NameKind.cell) else (n,k)).lookup y=some .cell
 |[],_,h,_=>by simp at h
 |(n,k)::r,y,h,hk=>by
  have ih:=@relab_free env hf r y;rw[List.map_cons];cases hy:y==n with
  |true =>
   have e:y=n:=by simpa using hy
   subst e;rw[List.lookup_cons,hy] at h;have h':k=NameKind.free:=Option.some.inj h;subst h';simp[hf,hk,List.lookup_cons]
  |false =>
   rw[List.lookup_cons,hy] at h;show List.lookup y ((if (k==NameKind.free&&env.scope.kind==.function&&env.kindOf n==some .cell)=true then (n,NameKind.cell) else (n,k))::_)=_
   by_cases z:(k==NameKind.free&&env.scope.kind==.function&&env.kindOf n==some .cell)=true
   ·rw[if_pos z,List.lookup_cons,hy];exact ih h hk
   ·rw[if_neg z,List.lookup_cons,hy];exact ih h hk
structure ScB (N:List Str) (sc scope:Scope) (x:Str) (frees:List Str) (js:List Nat):Prop where
 kind:scope.kind=.function
 fk:sc.kind=.function
 cells:∀ y∈scope.names,y.2≠.cell
 locs:∀ y∈scope.names,y.2=.local->scope.names.lookup y.1=some .local
 own:scope.names.lookup x=some .local
 fr:∀ y∈scope.names,y.2=.free->sc.names.lookup y.1=some .cell
 nd:(x::frees).Nodup
 ln:frees.length=js.length
 zp:∀ p∈frees.zip js,N[p.2]?=some p.1/\sc.names.lookup p.1=some .cell/\scope.names.lookup p.1=some .free
noncomputable def cxB (X:Cx) (N:List Str) (scope:Scope) (s:Shared) (H:Hp) (C:Addr) (fp:List Addr):Cx where
 prog:=X.prog
 w:=X.w
 K:=X.K
 mg:=X.mg
 base:=X.base
 A:=X.A
 N:=N
 s₀:=s
 H₀:=H
 env:=compEnvC scope (clOf X.env.cells scope.names []) C X.env
 outer:=X.stack
 stack:=X.stack
 ex:=fp
 fn:=fun _=>false
 calm:=X.calm
 pn:=[]
 xe:=fun _ _=>False
noncomputable def frv (σ:St) (js:List Nat):St:=js.map fun j=>(σ[j]?).join
noncomputable def PTs (X:Cx) (ifs:List Expr) (t:TT):Prop :=
 ∀ (pins:List (Addr×Obj)) (s:Shared) (σ:St) (H:Hp) (Q:Bool->Hp->Prop),Inv X pins σ H s->t σ H Q ->
  wpAny (model X.prog X.w) X.A (forIn ifs true fun c r=>if r=true then do let ok <- isTrue c X.env (eval c X.env);pure (ForInStep.yield ok) else pure (ForInStep.yield r)) (TP X pins σ Q) X.xe s
noncomputable def tYes:TT:=fun _ H Q=>Q true H
theorem pts_nil {X:Cx}:PTs X [] tYes:=fun _ _ _ H _ I h=>wpAny_tests_nil ⟨H,I,h⟩
theorem pts_one {X:Cx}{c:Expr}{t:TT} (h:PT X c t):PTs X [c] t:=fun pins s σ H Q I q=>wpAny_tests_one (h pins s σ H Q I q)
noncomputable def LcW (js:List Nat) (tt:TT) (te:TE) (σ:St) (Q:List V->Hp->Prop) (J:It) (H1:Hp):Prop :=
 ∃ W:Nat->Nat->List V->Hp->Prop,(∃ m,W 0 m [] H1)/\∀ i m ys H,W i m ys H ->
  (J.stop i H/\ys.length<=sizeLine/\Q ys H) \/
  (J.go i H/\ys.length<sizeLine/\∀ x H',J.yld i H x H'->tt (some x::frv σ js) H' fun b H2 =>
   if b=true then te (some x::frv σ js) H2 fun v H3=>∃ m',m'<m/\W (i+1) m' (ys++[v]) H3 else ∃ m',m'<m/\W (i+1) m' ys H2)
section
variable {X:Cx}{pins:List (Addr×Obj)}{σ:St}{H:Hp}{s:Shared}{x:Str}{scope sc:Scope}{frees:List Str}{js:List Nat}
theorem lcells (I:Inv X pins σ H s) (hsc:X.env.scope=sc) (B:ScB X.N sc scope x frees js):∀ y∈scope.names,y.2=.free->∃ c,X.env.cells.lookup y.1=some c:=fun y hy hf =>
 I.ok.has y.1 (.inl (show X.env.scope.names.lookup y.1=some .cell by rw[hsc];exact B.fr y hy hf))
theorem zip_get {α β:Type}:∀ {l:List α}{r:List β}{k:Nat}{a:α},l.length=r.length->l[k]?=some a->∃ b,r[k]?=some b/\(a,b)∈l.zip r
 |[],_,_,_,_,h=>by simp at h
 |_::_,[],_,_,hl,_=>by simp at hl
 |a'::l,b'::r,0,a,_,h=>by
  simp at h;subst h;exact⟨b',rfl,by simp⟩
 |a'::l,b'::r,k+1,a,hl,h=>by
  obtain⟨b,h1,h2⟩:=zip_get (l:=l) (r:=r) (k:=k) (a:=a) (by simpa using hl) (by simpa using h)
  exact⟨b,by simpa using h1,by rw[List.zip_cons_cons];exact List.mem_cons_of_mem _ h2⟩
theorem blk_start {fp:List Addr}{h₁:Heap}{C D:Addr}{tk:Nat}{mC:Str->Option Value}{oD:Obj} (I:Inv X pins σ H s) (hsc:X.env.scope=sc) (B:ScB X.N sc scope x frees js) (hf:∀ b∈fp,FpOk X pins H b) (hfo:∀ b∈fp,b<s.heap.objs.size)
  (hC:s.heap.objs.size<=C) (hD:s.heap.objs.size<=D) (hDC:D≠C) (old:∀ b o,s.heap.get? b=some o->h₁.get? b=some o) (ns:h₁.Ns C mC) (gD:h₁.get? D=some oD) (nD:∀ v,oD.data≠.cell v) :
  Inv (cxB X (x::frees) scope s H C fp) (pins++[(D,oD)]) (none::frv σ js) H {s with heap:=h₁,toks:=tk}:=by
 have lc:=lcells I hsc B
 have sub:∀ y c,(clOf X.env.cells scope.names []).lookup y=some c->X.env.cells.lookup y=some c:=fun y c e=>by
  rcases clOf_sub scope.names [] lc e with q | q
  ·exact q
  ·cases q
 have cold:∀ y c,X.env.cells.lookup y=some c->c<s.heap.objs.size:=fun y c e=>by
  obtain⟨v,q⟩:=I.cell y c e;exact q.lt
 have fpC:∀ b∈fp,(b∈X.ex\/X.s₀.heap.objs.size<=b):=fun b hb=>(hf b hb).2.2.2.1
 obtain⟨m,hn,hl⟩:=I.loc;refine⟨⟨I.ok.mod,B.kind,I.ok.glob,I.ok.blt,hC,?_,?_,?_,I.ok.hd,I.ok.frames,.inl rfl,?_,?_,Nat.le_trans I.ok.bsz I.sz,?_,?_,I.stack,I.stkFree,I.base.tbls _ _ I.ok.tab⟩,rfl,I.bare,Un.kept old,⟨mC,ns,?_⟩,?_,I.hok.fresh hC,?_,?_,I.hok.kept old,?_⟩
 ·exact fun y z c e1 e2=>I.ok.inj y z c (sub y c e1) (sub z c e2)
 ·intro y hy
  have hm:(y,NameKind.free)∈scope.names:=by
   rcases hy with q | q
   ·exact relab_mem (env:=X.env) B.cells q (.inl rfl)
   ·exact relab_mem (env:=X.env) B.cells q (.inr rfl)
  exact clOf_has scope.names [] (.inl hm)
 ·exact fun y c z _=>absurd z Bool.false_ne_true
 ·intro b hb
  refine⟨fun z=>?_,fun y c e z=>(hf b hb).2.2.2.2.1 y c (sub y c e) z⟩
  have z':b=C:=z;exact absurd (Nat.lt_of_lt_of_le (hfo b hb) hC) (by rw[z'];exact Nat.lt_irrefl _)
 ·exact fun b o e=>I.bs b o e
 ·intro b o e hb
  rcases fpC b hb with z | z
  ·exact I.ok.noex b o e z
  ·exact absurd (Nat.lt_of_lt_of_le (Heap.lt_size (I.ok.bs b o e).1) z) (Nat.lt_irrefl _)
 ·intro b hb z
  rcases List.mem_cons.mp (I.stkSub b z) with e | e
  ·exact (hf b hb).2.1 e
  ·exact (hf b hb).2.2.1 e
 ·intro i y v e1 e2 e3
  cases i with
  |zero=>simp at e2
  |succ k =>
   have e1':frees[k]?=some y:=by
    have e0:(x::frees)[k+1]?=some y:=e1
    simpa using e0
   obtain⟨j,hj,hz⟩:=zip_get B.ln e1';obtain⟨z1,z2,z3⟩:=B.zp _ hz;have e2':(frv σ js)[k]?=some (some v):=by simpa using e2
   have e4:σ[j]?=some (some v):=by
    unfold frv at e2';rw[List.getElem?_map,hj] at e2';have e5:(σ[j]?).join=some v:=Option.some.inj e2';cases q:σ[j]? with
    |none=>rw[q] at e5;cases e5
    |some w'=>rw[q] at e5;cases w' with
     |none=>cases e5
     |some w2=>cases e5;rfl
   have kX:X.env.kindOf y=some .cell:=by show X.env.scope.names.lookup y=_;rw[hsc];exact z2
   obtain⟨u,r,q⟩:=hl j y v z1 e4 (.inr (.inl kX));refine⟨u,r,?_⟩
   rcases q with ⟨q,_⟩ | ⟨_,c,ec,ic⟩
   ·rw[kX] at q;cases q
   ·have kY:(compEnvC scope (clOf X.env.cells scope.names []) C X.env).kindOf y=some .cell:=relab_free (env:=X.env) (by rw[hsc];exact B.fk) z3 kX
    refine .inr ⟨.inl kY,c,?_,?_⟩
    ·obtain⟨c',ec'⟩:=clOf_has (cells:=X.env.cells) scope.names [] (.inl (PySem.mem_of_lookup z3))
     have:=sub y c' ec';rw[ec] at this;cases this;exact ec'
    ·obtain⟨o,ho,hd⟩:=ic
     exact⟨o,old c o ho,hd⟩
 ·intro y c e
  obtain⟨v,o,ho,hd⟩:=I.cell y c (sub y c e);exact⟨v,o,old c o ho,hd⟩
 ·exact fun y c e=>I.freeC y c (sub y c e)
 ·intro p hp
  have hp':p∈pins++[(D,oD)]:=by simpa [cxB] using hp
  rcases List.mem_append.mp hp' with z | z
  ·obtain⟨a1,a2,a3,a4,a5⟩:=I.pin p (List.mem_append_right _ z)
   refine⟨old _ _ a1,a2,fun e=>?_,fun e=>?_,a5⟩
   ·exact absurd (Nat.lt_of_lt_of_le (Heap.lt_size a1) hC) (by rw[show p.1=C from e];exact Nat.lt_irrefl _)
   ·rcases List.mem_cons.mp (I.stkSub p.1 e) with e | e
    ·exact a3 e
    ·exact a4 e
  ·have z':p=(D,oD):=by simpa using z
   subst z';refine⟨gD,I.hok.fresh hD,hDC,fun e=>?_,nD⟩
   rcases List.mem_cons.mp (I.stkSub D e) with e | e
   ·exact absurd (Nat.lt_of_lt_of_le I.lt hD) (by rw[show D=X.env.locals from e];exact Nat.lt_irrefl _)
   ·exact I.nofs hD e
 ·show (none::frv σ js).length=(x::frees).length
  rw[List.length_cons,List.length_cons,B.ln,frv,List.length_map]
end
theorem comp_turns {prog:Program}{w:World}{A:Around}{R:Result->Shared->Prop}{s:Shared}{elt target iter:Expr}{ifs:List Expr}{scope:Scope}{pos:Pos}{it acc:Value}{env:Env} (I:Nat->Shared->Prop)
  (turn:∀ n s,I n s->wpAny (model prog w) A (pyNext it) (fun r s1=>match r with
   |none=>R (.ok .next) s1
   |some v=>wpAny (model prog w) A (letOwnedTupleGo target it v) (fun _ s2=>wpAny (model prog w) A (assign target env v) (fun _ s3 =>
     wpAny (model prog w) A (forIn ifs true fun c r=>if r=true then do let ok <- isTrue c env (eval c env);pure (ForInStep.yield ok) else pure (ForInStep.yield r)) (fun ok s4 =>
      if ok=true then wpAny (model prog w) A (eval elt env) (fun y s5=>wpAny (model prog w) A (call (.builtin "list.append") [acc,y]) (fun _ s6=>∃ m,m<n ∧ I m s6) (fun _ _=>False) s5) (fun _ _=>False) s4
      else ∃ m,m<n/\I m s4) (fun _ _=>False) s3) (fun _ _=>False) s2) (fun _ _=>False) s1) (fun _ _=>False) s)
  (n:Nat) (h:I n s):codeAny (model prog w) A (.compLoop (.ListComp elt [⟨target,iter,ifs,0⟩] scope pos) 0 it acc env) R s:=by
 refine codeAny_loop rfl I (fun n s hI=>?_) n h
 show wpAny _ A ((compTurn (.ListComp elt [⟨target,iter,ifs,0⟩] scope pos) 0 it acc env).onRaise (fun x=>do noteFrame x env;theTreesLotGoes x)) _ _ s
 refine wpAny_noted ?_;rw[compTurn_list];refine wpAny_bind (wpAny_standAt (wpAny_bind (wpAny_mono (turn n s hI) (fun r s1 h1=>?_) fun _ _ z=>z.elim)))
 cases r with
 |none=>exact wpAny_pure h1
 |some v =>
  refine wpAny_bind (wpAny_mono h1 (fun _ s2 h2=>?_) fun _ _ z=>z.elim)
  refine wpAny_bind (wpAny_mono h2 (fun _ s3 h3=>?_) fun _ _ z=>z.elim)
  refine wpAny_bind (wpAny_mono h3 (fun ok s4 h4=>?_) fun _ _ z=>z.elim)
  cases ok with
  |false=>exact wpAny_pure ⟨rfl,h4⟩
  |true =>
   refine wpAny_bind (wpAny_bind (wpAny_mono h4 (fun y s5 h5=>?_) fun _ _ z=>z.elim))
   exact wpAny_bind (wpAny_mono h5 (fun _ s6 h6=>wpAny_pure (wpAny_pure ⟨rfl,h6⟩)) fun _ _ z=>z.elim)
section
variable {X:Cx}{pins:List (Addr×Obj)}{σ:St}{H:Hp}{s:Shared}{x:Str}{scope sc:Scope}{frees:List Str}{js:List Nat}{elt iter:Expr}{ifs:List Expr}{px pos:Pos}{tt:TT}{te:TE}{E:Value->Shared->Prop}
noncomputable abbrev lobj (its:List Value) (n:Nat):Obj:={cls:=.type "list",data:=.seq its.toArray n}
theorem lc_run {it:Addr}{fp:List Addr}{tn:Nat->Heap->Prop}{J:It}{Qe:List V->Hp->Prop}{RR:Value->Addr->Result->Shared->Prop} (I:Inv X pins σ H s) (hc:X.calm=true) (hsc:X.env.scope=sc) (B:ScB X.N sc scope x frees js)
  (T:Turn X.prog X.w X.K (.Name x px) J fp it tn) (st:tn 0 s.heap) (f:∀ b∈fp,FpOk X pins H b) (hW:LcW js tt te σ Qe J H)
  (ht:∀ s H C fp,PTs (cxB X (x::frees) scope s H C fp) ifs tt) (he:∀ s H C fp,PE (cxB X (x::frees) scope s H C fp) elt te)
  (hR:∀ (D C:Addr) (s':Shared) (H':Hp) (ys:List V) (its:List Value) (n:Nat),s.heap.objs.size<=D->s.heap.objs.size<=C->D≠C->Inv (cxB X (x::frees) scope s H C fp) pins (none::frv σ js) H' s'->H' D=none ->
   Vals ys its->s'.heap.get? D=some (lobj its n)->ys.length<=sizeLine->Qe ys H'->RR (.ref D) C (.ok .next) s') :
  wpAny (model X.prog X.w) X.A (newList []) (fun acc s3=>wpAny (model X.prog X.w) X.A (newFunctionEnv scope X.env.globals (clOf X.env.cells scope.names []) [] X.env.qual none .none (some X.env)) (fun cenv s4 =>
   codeAny (model X.prog X.w) X.A (.compStart (.ListComp elt [⟨.Name x px,iter,ifs,0⟩] scope pos) 0 (.ref it) acc {cenv with scope:=relabel scope X.env}) (RR acc cenv.locals) s4) E s3) E s:=by
 obtain⟨W,⟨m0,w0⟩,turn⟩:=hW;refine wpAny_newObj_type (wpAny_newFunctionEnv B.cells (by intro y hy;simp at hy) (fun h₁ hns₁ hsb₁=>?_) B.kind)
 dsimp only at hns₁ hsb₁ ⊢
 generalize hG:s.heap.push {cls:=.type "list",dict:=none,data:=.seq ([]:List Value).toArray}=G at hns₁ hsb₁ ⊢
 have hC0:G.objs.size=s.heap.objs.size+1:=by rw[<- hG,Heap.size_push]
 have hCs0:s.heap.objs.size<=G.objs.size:=by rw[hC0];exact Nat.le_succ _
 have hDC0:s.heap.objs.size≠G.objs.size:=by rw[hC0];exact Nat.ne_of_lt (Nat.lt_succ_self _)
 obtain⟨C,hCe⟩:∃ C:Addr,C=G.objs.size:=⟨_,rfl⟩;obtain⟨D,hDe⟩:∃ D:Addr,D=s.heap.objs.size:=⟨_,rfl⟩;rw[<- hCe] at hns₁ hsb₁ hDC0 hCs0 ⊢;have hDs:s.heap.objs.size<=D:=by rw[hDe];exact Nat.le_refl _
 have hCs:s.heap.objs.size<=C:=hCs0;have hDC:D≠C:=by rw[hDe];exact hDC0
 have old:∀ b o,s.heap.get? b=some o->h₁.get? b=some o:=fun b o e=>by
  refine hsb₁.extBut b o (ne_lt (Heap.lt_size e) hCs) (Heap.get?_push_of_some _ ?_);rw[<- hG];exact Heap.get?_push_of_some _ e
 have gD:h₁.get? D=some (lobj [] 0):=by
  refine hsb₁.extBut D _ hDC (Heap.get?_push_of_some _ ?_);rw[<- hG,hDe];exact Heap.get?_push_size _ rfl
 have hfo:∀ b∈fp,b<s.heap.objs.size:=fun b hb=>by
  obtain⟨o,e,_⟩:=T.obj 0 _ st b hb;exact Heap.lt_size e
 show codeAny (model X.prog X.w) X.A (.compStart (.ListComp elt [⟨.Name x px,iter,ifs,0⟩] scope pos) 0 (.ref it) (.ref s.heap.objs.size) (compEnvC scope (clOf X.env.cells scope.names []) C X.env)) (RR (.ref s.heap.objs.size) C) _;rw[<- hDe];have nDf:D∉fp:=fun z=>ne_lt (hfo D z) hDs rfl
 have Y0:=blk_start (tk:=s.toks+([]:List (Str×Value)).length) (x:=x) I hsc B f hfo hCs hDs hDC old hns₁ gD (fun v z=>nomatch z)
 have tn0:tn 0 h₁:=T.keep 0 _ _ st fun b _ o e=>old b o e
 have sub:∀ y c,(clOf X.env.cells scope.names []).lookup y=some c->X.env.cells.lookup y=some c:=fun y c e=>by
  rcases clOf_sub scope.names [] (lcells I hsc B) e with q | q
  ·exact q
  ·cases q
 have pOld:∀ p∈pins,p.1<s.heap.objs.size:=fun p hp=>Heap.lt_size (I.pin p (List.mem_append_right _ hp)).1
 have stat:∀ {H':Hp}{o:Obj},(∀ b∈fp,H' b=none)->∀ b∈fp,FpOk (cxB X (x::frees) scope s H C fp) (pins++[(D,o)]) H' b:=fun {H' o} hn b hb=>by
  obtain⟨_,a2,a3,a4,a5,a6⟩:=f b hb;have lt:=hfo b hb;refine⟨hn b hb,?_,fun z=>?_,.inl hb,fun y c e=>a5 y c (sub y c e),fun p hp=>?_⟩
  ·exact ne_lt lt hCs
  ·rcases List.mem_cons.mp (I.stkSub b z) with e | e
   ·exact a2 e
   ·exact a3 e
  ·have hp':p∈pins++[(D,o)]:=by simpa [cxB] using hp
   rcases List.mem_append.mp hp' with z | z
   ·exact a6 p (List.mem_append_right _ z)
   ·have z':p=(D,o):=by simpa using z
    subst z';exact ne_lt' lt hDs
 have loop:∀ s3:Shared,s3={s with heap:=h₁,toks:=s.toks+([]:List (Str×Value)).length} ->
   codeAny (model X.prog X.w) X.A (.compLoop (.ListComp elt [⟨.Name x px,iter,ifs,0⟩] scope pos) 0 (.ref it) (.ref D) (compEnvC scope (clOf X.env.cells scope.names []) C X.env)) (RR (.ref D) C) s3:=by
  rintro s3 rfl;refine comp_turns (fun n s'=>∃ i ys its k H',Inv (cxB X (x::frees) scope s H C fp) (pins++[(D,lobj its k)]) (none::frv σ js) H' s'/\tn i s'.heap/\(∀ b∈fp,H' b=none)/\Vals ys its/\W i n ys H') ?_ m0
   ⟨0,[],[],0,H,Y0,tn0,fun b hb=>(f b hb).1,.nil,w0⟩
  rintro n s4 ⟨i,ys,its,k,H4,I4,tn4,fr4,rv,w4⟩
  have pD:∀ {pl:List (Addr×Obj)}{σ':St}{H':Hp}{s':Shared},Inv (cxB X (x::frees) scope s H C fp) (pins++[(D,lobj its k)]++pl) σ' H' s'->s'.heap.get? D=some (lobj its k)/\H' D=none:=fun I'=>by
   have q:=I'.pin (D,lobj its k) (List.mem_append_right _ (List.mem_append_left _ (List.mem_append_right _ List.mem_cons_self)));exact⟨q.1,q.2.1⟩
  have pins_only:∀ {pl:List (Addr×Obj)}{σ':St}{H':Hp}{s':Shared},Inv (cxB X (x::frees) scope s H C fp) (pins++pl) σ' H' s'->Inv (cxB X (x::frees) scope s H C fp) pins σ' H' s':=fun I'=>I'.unpinned
  rcases turn i n ys H4 w4 with ⟨stop,lz,qe⟩ | ⟨go,lz,step⟩
  ·refine thn (T.done (cxB X (x::frees) scope s H C fp) rfl rfl rfl hc i _ s4 _ H4 (fun _ _=>False) I4 (stat fr4) tn4 stop) fun r s5 ⟨hr,I5⟩=>?_
   subst hr;have I5':Inv (cxB X (x::frees) scope s H C fp) (pins++[(D,lobj its k)]++[]) (none::frv σ js) H4 s5:=by simpa using I5
   exact hR D C s5 H4 ys its k hDs hCs hDC (pins_only I5) (pD I5').2 rv (pD I5').1 lz qe
  ·refine thn (T.item (cxB X (x::frees) scope s H C fp) rfl rfl rfl hc i _ s4 _ H4 (fun _ _=>False) I4 (stat fr4) tn4 go) fun r s5 ⟨u,hr,h5⟩=>?_
   subst hr;refine thn h5 fun _ s6 ⟨y,H6,I6,r6,y6,tn6,fr6⟩=>?_
   have I6':=I6.pinned (stat fr6) (T.obj _ _ tn6);have hx:Loc (cxB X (x::frees) scope s H C fp).env.scope x:=.inl (lookup_relabel_local B.own)
   have dfs:D∉(cxB X (x::frees) scope s H C fp).fs:=fun z=>by
    rcases List.mem_cons.mp (I.stkSub D z) with e | e
    ·exact ne_lt I.lt hDs e.symm
    ·exact I.nofs hDs e
   refine thn (pg_name (X:=cxB X (x::frees) scope s H C fp) (i:=0) B.nd rfl hx (.inr (lookup_relabel_local B.own)) _ s6 _ H6 y u (fun σ' H'=>σ'=some y::frv σ js/\tt σ' H' fun b H2 =>
    if b=true then te (some y::frv σ js) H2 fun v H3=>∃ m',m'<n/\W (i+1) m' (ys++[v]) H3 else ∃ m',m'<n/\W (i+1) m' ys H2) I6' r6 ⟨rfl,step y H6 y6⟩) fun _ s7 ⟨σ7,H7,I7,e7,q7⟩=>?_
   subst e7;have back:∀ {σ':St}{H':Hp}{s':Shared},Inv (cxB X (x::frees) scope s H C fp) (pins++[(D,lobj its k)]++pinsAt fp s6.heap) σ' H' s'->(∀ b∈fp,∀ o,s6.heap.get? b=some o->s'.heap.get? b=some o)/\∀ b∈fp,H' b=none:=fun {σ' H' s'} I' =>
    ⟨fun b hb o e=>(I'.pin (b,o) (List.mem_append_right _ (List.mem_append_right _ (mem_pinsAt hb e)))).1,fun b hb=>by
     obtain⟨o,e,_⟩:=T.obj _ _ tn6 b hb;exact (I'.pin (b,o) (List.mem_append_right _ (List.mem_append_right _ (mem_pinsAt hb e)))).2.1⟩
   have forget:∀ {pl:List (Addr×Obj)}{H':Hp}{s':Shared},Inv (cxB X (x::frees) scope s H C fp) pl (some y::frv σ js) H' s'->Inv (cxB X (x::frees) scope s H C fp) pl (none::frv σ js) H' s':=fun I' =>
    I'.weak rfl fun j v e=>by
     cases j with
     |zero=>simp at e
     |succ j=>simpa using e
   refine thn (ht s H C fp _ s7 _ H7 _ I7 q7) fun ok s8 ⟨H8,I8,q8⟩=>?_
   cases ok with
   |false =>
    rw[if_neg Bool.false_ne_true] at q8 ⊢;obtain⟨m',hm,w8⟩:=q8;obtain⟨b1,b2⟩:=back I8;exact⟨m',hm,i+1,ys,its,k,H8,forget I8.unpinned,T.keep _ _ _ tn6 b1,b2,rv,w8⟩
   |true =>
    rw[if_pos rfl] at q8 ⊢;refine thn (he s H C fp _ s8 _ H8 _ I8 q8) fun v s9 ⟨vv,H9,I9,r9,m',hm,w9⟩=>?_
    obtain⟨gD9,nD9⟩:=pD I9;obtain⟨b1,b2⟩:=back I9;have hlen:=rv.length;refine call_meets F.slot_list_append ⟨_,gD9,rfl⟩ F.entry_list_append (F.args_list_append_2 _ _) (PySem.list_append D its.toArray k v (by rw[List.size_toArray];omega)) ⟨gD9,?_⟩
    have ea:its.toArray.push v=(its++[v]).toArray:=by simp
    obtain⟨k',q⟩:∃ k',(s9.heap.update D (Obj.mapSeq (·.push v))).get? D=some (lobj (its++[v]) k'):=by
     have q0:=PySem.IsL.update gD9 (·.push v);rw[ea] at q0;exact⟨_,q0⟩
    have oth:∀ b o,b≠D->s9.heap.get? b=some o->(s9.heap.update D (Obj.mapSeq (·.push v))).get? b=some o:=fun b o hb e=>(Heap.get?_update_other s9.heap (Obj.mapSeq (·.push v)) (Ne.symm hb)).trans e
    have I10:Inv (cxB X (x::frees) scope s H C fp) pins (some y::frv σ js) H9 {s9 with heap:=s9.heap.update D (Obj.mapSeq (·.push v))} :=
     (pins_only I9.unpinned).turned (t':=s9.toks) (it:=D) oth nD9 hDC (.inr hDs) (fun y' c e z=>by
      obtain⟨w',q'⟩:=I.cell y' c (sub y' c e)
      exact ne_lt q'.lt hDs z) (fun p hp z=>by
      have hp':p∈pins:=by simpa [cxB] using hp
      exact ne_lt (pOld p hp') hDs z)
    refine⟨m',hm,i+1,ys++[vv],its++[v],k',H9,forget (I10.pins_of fun p hp=>?_),T.keep _ _ _ tn6 fun b hb o e=>oth b o (fun z=>nDf (z▸hb)) (b1 b hb o e),b2,rv.append (.cons r9 .nil),w9⟩
    rcases List.mem_append.mp hp with z | z
    ·exact I10.pin p (List.mem_append_right _ z)
    ·have z':p=(D,lobj (its++[v]) k'):=List.mem_singleton.mp z
     subst z';exact⟨q,nD9,hDC,dfs,fun w' z2=>nomatch z2⟩
 exact codeAny_compStart_list (loop _ rfl) (T.self _ 0 _ _ _ tn0 (loop _ rfl))
theorem lc_after {fp:List Addr}{D C:Addr}{s':Shared}{H':Hp}{ys:List V}{its:List Value}{n:Nat} (I:Inv X pins σ H s) (f:∀ b∈fp,FpOk X pins H b) (hD:s.heap.objs.size<=D) (J:Inv (cxB X (x::frees) scope s H C fp) pins (none::frv σ js) H' s') (nD:H' D=none) (rv:Vals ys its)
  (gD:s'.heap.get? D=some (lobj its n)) (hz:ys.length<=sizeLine):Inv X pins σ (upd H' D (.lst ys)) s':=by
 have u:Un (frs X.stack) fp H H' s.heap s'.heap:=J.base;have hk:HOk X.prog X.w H' s'.heap:=J.hok;refine I.call' (ch:=fp) J.os ⟨u.keep,u.slot,fun b o e n' hx=>?_,u.there,fun b xs e=>?_,fun b o v e=>?_,fun b ps e=>?_⟩ (fun b o e=>?_) J.bare fun b hb=>?_
 ·rw[upd_ne (ne_lt (Heap.lt_size e) hD)]
  exact u.free b o e n' hx
 ·have q:=u.tups b xs e
  rw[upd_ne (ne_of_none q nD)];exact q
 ·have q:=u.frzs b o v e
  rw[upd_ne (ne_of_none q nD)];exact q
 ·have q:=u.tbls b ps e
  rw[upd_ne (ne_of_none q nD)];exact q
 ·by_cases hb:b=D
  ·subst hb
   rw[upd_same] at e;cases e;exact⟨hz,its,n,rv,gD⟩
  ·rw[upd_ne hb] at e
   exact (hk b o e).stay (fun c v _ q=>q) (fun c q=>by rw[upd_ne (ne_of_none q nD)];exact q) (fun c xs q=>by rw[upd_ne (ne_of_none q nD)];exact q) fun c xs q=>by rw[upd_ne (ne_of_none q nD)];exact q
 ·obtain⟨_,a2,a3,a4,a5,a6⟩:=f b hb
  exact⟨a4,a2,a5,a6⟩
theorem lc_go {C:Addr}{s':Shared}{H':Hp}{σ':St}{h':Heap} (I:Inv X pins σ H s) (J:Inv X pins σ' H' s') (hC:s.heap.objs.size<=C) (nC:H' C=none) (hs:Heap.SameBut C s'.heap h'):Inv X pins σ' H' {s' with heap:=h'}:=by
 refine J.turned (t':=s'.toks) (it:=C) (fun b o hb e=>(hs.2 b hb).trans e) nC (fun z=>?_) (.inr (Nat.le_trans I.sz hC)) (fun y c e z=>?_) fun p hp z=>?_
 ·exact ne_lt I.lt hC z.symm
 ·obtain⟨v,q⟩:=I.cell y c e
  exact ne_lt q.lt hC z
 ·exact ne_lt (Heap.lt_size (I.pin p hp).1) hC z
noncomputable def tLC (wi:TI) (js:List Nat) (tt:TT) (te:TE):TE:=fun σ H Q=>wi σ H (LcW js tt te σ fun ys H'=>∀ D,H' D=none->Q (.ref D) (upd H' D (.lst ys)))
theorem pe_lc {wi:TI} (hc:X.calm=true) (hsc:X.env.scope=sc) (B:ScB X.N sc scope x frees js) (hi:PI X (.Name x px) iter wi) (ht:∀ s H C fp,PTs (cxB X (x::frees) scope s H C fp) ifs tt) (he:∀ s H C fp,PE (cxB X (x::frees) scope s H C fp) elt te)
  (hs:∀ v,foldedSetIterable iter X.env v=pure v:=by intro _;rfl):PE X (.ListComp elt [⟨.Name x px,iter,ifs,0⟩] scope pos) (tLC wi js tt te):=by
 intro pins s σ H Q I h;rw[eval_ListComp];refine wpAny_comprehension_free (use:=none) rfl hs (closure_eq (lcells I hsc B)) B.kind B.locs (thn (hi pins s σ H _ I h) fun v s1 h1=>thn h1 fun itv s2 h2=>?_)
 obtain⟨it,fp,tn,J,H2,e,I2,T,st2,f2,hW⟩:=h2;subst e;refine lc_run (RR:=fun acc C=>compPost (model X.prog X.w) X.A X.xe none (EP X pins σ Q) acc C) I2 hc hsc B T st2 f2 hW ht he ?_
 intro D C s' H' ys its n hD hC hDC J' nD rv gD hz q;obtain⟨m,hn,_⟩:=J'.loc;refine⟨m,hn,fun h' hs'=>?_⟩
 have A1:=lc_after I2 f2 hD J' nD rv gD hz;have nC:(upd H' D (.lst ys)) C=none:=by rw[upd_ne (Ne.symm hDC)];exact J'.free
 exact⟨.ref D,_,lc_go I2 A1 hC nC hs',rfl,q D nD⟩
noncomputable def tSetLC (i:Nat) (wi:TI) (js:List Nat) (tt:TT) (te:TE):TS:=fun D σ H=>wi σ H (LcW js tt te σ fun ys H'=>∀ a,H' a=none->D.nx (σ.set i (some (.ref a))) (upd H' a (.lst ys)))
theorem ps_setLC {wi:TI}{i:Nat}{y:Str}{py spos:Pos} (hN:X.N.Nodup) (hi':X.N[i]?=some y) (hy:X.env.scope.names.lookup y=some .local) (hc:X.calm=true) (hsc:X.env.scope=sc) (B:ScB X.N sc scope x frees js) (hi:PI X (.Name x px) iter wi)
  (ht:∀ s H C fp,PTs (cxB X (x::frees) scope s H C fp) ifs tt) (he:∀ s H C fp,PE (cxB X (x::frees) scope s H C fp) elt te)
  (hsw:swapsWith (.ListComp elt [⟨.Name x px,iter,ifs,0⟩] scope pos) (some (.Name y py)) spos.line X.env=pure true:=by rfl)
  (hs:∀ v,foldedSetIterable iter X.env v=pure v:=by intro _;rfl):PS X (.Assign [.Name y py] (.ListComp elt [⟨.Name x px,iter,ifs,0⟩] scope pos) spos) (tSetLC i wi js tt te):=by
 intro pins s σ H D I h;rw[exec_Assign_Name_used _ _ _ _ hsw];refine wpAny_bind (wpAny_standAt (wpAny_bind ?_));show wpAny _ X.A (do let _ <- comprehension (.ListComp elt [⟨.Name x px,iter,ifs,0⟩] scope pos) scope X.env _ (newList []) false (eval iter X.env) (some (assign (.Name y py) X.env))) _ _ s;refine wpAny_bind (wpAny_mono (wpAny_comprehension_free (use:=some (assign (.Name y py) X.env)) (Q:=fun _ s'=>SP X pins D .next s') rfl hs (closure_eq (lcells I hsc B)) B.kind B.locs
  (thn (hi pins s σ H _ I h) fun v s1 h1=>thn h1 fun itv s2 h2=>?_)) (fun _ s' q=>wpAny_pure (wpAny_pure q)) fun _ _ z=>z)
 obtain⟨it,fp,tn,J,H2,e,I2,T,st2,f2,hW⟩:=h2;subst e;refine lc_run (RR:=fun acc C=>compPost (model X.prog X.w) X.A X.xe (some (assign (.Name y py) X.env)) (fun _ s'=>SP X pins D .next s') acc C) I2 hc hsc B T st2 f2 hW ht he ?_
 intro a C s' H' ys its n hD hC hDC J' nD rv gD hz q;have A1:=lc_after I2 f2 hD J' nD rv gD hz;have nC:(upd H' a (.lst ys)) C=none:=by rw[upd_ne (Ne.symm hDC)];exact J'.free
 obtain⟨m,hn,_⟩:=J'.loc;have hL:C≠X.env.locals:=ne_lt' I2.lt hC;show wpAny _ X.A (assign (.Name y py) X.env (.ref a)) _ _ s';refine wpAny_assign_Name (store_ok2 A1 hN hi' (.inl hy) (v:=.ref a) rfl (fun s3 I3 ⟨b,sb,hb⟩=>?_) (.inr hy))
 have nb:C≠b:=by
  rcases hb with z | z
  ·rw[z];exact hL
  ·intro e
   obtain⟨v,q'⟩:=I2.cell y b z;exact ne_lt q'.lt hC e.symm
 obtain⟨o,es,ep,ho,r⟩:=hn;refine⟨m,⟨o,es,ep,(sb.2 C nb).trans ho,r⟩,fun h' hs'=>?_⟩
 exact⟨_,_,lc_go I2 I3 hC nC hs',q a nD⟩
end
end L2
set_option maxRecDepth 100000
namespace Fx
open PySem PySem.Spec PyProof.Rows L2
mutual
noncomputable def Rep (K:PySem.W.Frag) (H:Hp):D->V->Prop
 |.non,v=>v=.non
 |.bl b,v=>v=.bl b
 |.int i,v=>v=.int i
 |.str x,v=>v=.str x
 |.tup ds,v=>∃ a vs,v=.ref a/\SqT K H a vs/\Reps K H ds vs
 |.lst ds,v=>∃ a vs,v=.ref a/\SqL K H a vs/\Reps K H ds vs
 |.opq,v=>∃ a kvs,v=.ref a/\H a=some (.dK kvs)
 |.dct ks ds,v=>∃ a o vs,v=.ref a/\H a=some (.frz o (.dK ((ks.map Sum.inr).zip vs)))/\Reps K H ds vs/\ks.length=ds.length
noncomputable def Reps (K:PySem.W.Frag) (H:Hp):List D->List V->Prop
 |[],vs=>vs=[]
 |d::ds,vs=>∃ v r,vs=v::r/\Rep K H d v/\Reps K H ds r
end
theorem Same.rd {H H':Hp}{a:Addr}{u:HO} (e:Same H H') (h:Rd H a u):Rd H' a u:=by
 rcases h with h | ⟨o,h⟩
 ·exact .inl (e _ _ h)
 ·exact .inr ⟨o,e _ _ h⟩
theorem Same.seqT {K:PySem.W.Frag}{H H':Hp}{a:Addr}{xs:List V} (e:Same H H') (h:SqT K H a xs):SqT K H' a xs:=by
 rcases h with h | h
 ·exact .inl (Same.rd e h)
 ·exact .inr h
section
variable {K:PySem.W.Frag}{H H':Hp}
mutual
theorem Rep.mono (e:Same H H'):∀ (d:D) {v:V},Rep K H d v->Rep K H' d v
 |.non,_,h=>h
 |.bl _,_,h=>h
 |.int _,_,h=>h
 |.str _,_,h=>h
 |.tup ds,_,h=>by
  unfold Rep at h ⊢;obtain⟨a,vs,q,s,r⟩:=h;exact⟨a,vs,q,Same.seqT e s,Reps.mono e ds r⟩
 |.lst ds,_,h=>by
  unfold Rep at h ⊢;obtain⟨a,vs,q,s,r⟩:=h;exact⟨a,vs,q,Same.seq e s,Reps.mono e ds r⟩
 |.opq,_,h=>by
  unfold Rep at h ⊢;obtain⟨a,kvs,q,s⟩:=h;exact⟨a,kvs,q,e _ _ s⟩
 |.dct ks ds,_,h=>by
  unfold Rep at h ⊢;obtain⟨a,o,vs,q,s,r,l⟩:=h;exact⟨a,o,vs,q,e _ _ s,Reps.mono e ds r,l⟩
theorem Reps.mono (e:Same H H'):∀ (ds:List D) {vs:List V},Reps K H ds vs->Reps K H' ds vs
 |[],_,h=>h
 |d::ds,_,h=>by
  unfold Reps at h ⊢;obtain⟨v,r,q,s,t⟩:=h;exact⟨v,r,q,Rep.mono e d s,Reps.mono e ds t⟩
end
theorem Reps.length:∀ {ds:List D}{vs:List V},Reps K H ds vs->ds.length=vs.length
 |[],_,h=>by unfold Reps at h;rw[h];rfl
 |d::ds,_,h=>by
  unfold Reps at h;obtain⟨v,r,q,_,t⟩:=h;rw[q,List.length_cons,List.length_cons,Reps.length t]
theorem Reps.get:∀ {ds:List D}{vs:List V}{i:Nat}{d:D},Reps K H ds vs->ds[i]?=some d->∃ v,vs[i]?=some v/\Rep K H d v
 |[],_,_,_,_,e=>by simp at e
 |d::ds,_,0,_,h,e=>by
  unfold Reps at h;obtain⟨v,r,rfl,s,_⟩:=h;simp at e;subst e;exact⟨v,rfl,s⟩
 |d::ds,_,i+1,d',h,e=>by
  unfold Reps at h;obtain⟨v,r,rfl,_,t⟩:=h;obtain⟨w,a,b⟩:=Reps.get (i:=i) (d:=d') t (by simpa using e)
  exact⟨w,by simpa using a,b⟩
theorem Reps.app:∀ {ds es:List D}{vs ws:List V},Reps K H ds vs->Reps K H es ws->Reps K H (ds++es) (vs++ws)
 |[],_,_,_,h,h'=>by unfold Reps at h;rw[h];exact h'
 |d::ds,es,_,ws,h,h'=>by
  unfold Reps at h;obtain⟨v,r,rfl,s,t⟩:=h;show Reps K H (d::(ds++es)) (v::(r++ws));unfold Reps;exact⟨v,r++ws,rfl,s,Reps.app t h'⟩
theorem Reps.take:∀ {ds:List D}{vs:List V} (n:Nat),Reps K H ds vs->Reps K H (ds.take n) (vs.take n)
 |[],_,n,h=>by unfold Reps at h;rw[h];simp[Reps]
 |d::ds,vs,0,h=>by simp[Reps]
 |d::ds,_,n+1,h=>by
  unfold Reps at h;obtain⟨v,r,rfl,s,t⟩:=h;show Reps K H (d::ds.take n) (v::r.take n);unfold Reps;exact⟨v,r.take n,rfl,s,Reps.take n t⟩
theorem Reps.drop:∀ {ds:List D}{vs:List V} (n:Nat),Reps K H ds vs->Reps K H (ds.drop n) (vs.drop n)
 |[],_,n,h=>by unfold Reps at h;rw[h];simp[Reps]
 |d::ds,vs,0,h=>by simpa using h
 |d::ds,_,n+1,h=>by
  unfold Reps at h;obtain⟨v,r,rfl,s,t⟩:=h
  simpa using Reps.drop n t
theorem Reps.one {d:D}{v:V} (h:Rep K H d v):Reps K H [d] [v]:=by
 unfold Reps Reps;exact⟨v,[],rfl,h,rfl⟩
theorem Reps.cons {d:D}{ds:List D}{v:V}{vs:List V} (h:Rep K H d v) (t:Reps K H ds vs):Reps K H (d::ds) (v::vs):=by
 unfold Reps;exact⟨v,vs,rfl,h,t⟩
theorem Reps.nil_:Reps K H [] []:=by unfold Reps;rfl
end
structure FC where
 Hi:Hp
 He:Hp
 Ap:List Addr
noncomputable def OwOk (K:PySem.W.Frag) (H0 H:Hp) (a:Addr):MO->Prop
 |.lst ds=>∃ vs,H a=some (.lst vs)/\Reps K H0 ds vs
 |.dic kds=>∃ ks vs,H a=some (.dK ((ks.map Sum.inr).zip vs))/\ks=kds.map (·.1)/\Reps K H0 (kds.map (·.2)) vs
structure RS (K:PySem.W.Frag) (c:FC) (H0 H:Hp) (ρ:En) (σ:L2.St):Prop where
 same:Same H0 H
 init:Same c.Hi H0
 fresh:∀ b o,H0 b=some o->c.Hi b=some o\/c.He b=none
 keep:∀ b o,c.He b=some o->b∉c.Ap->H b=some o
 apt:∀ a∈c.Ap,H a≠none
 len:ρ.length=σ.length
 im:∀ (i:Nat) (d:D),ρ[i]?=some (.im d)->∃ v,σ[i]?=some (some v)/\Rep K H0 d v
 ow:∀ (i:Nat) (b:Bool) (o:MO),ρ[i]?=some (.ow b o)->∃ a,σ[i]?=some (some (.ref a))/\H0 a=none/\(if b=true then a∈c.Ap else c.He a=none)/\OwOk K H0 H a o
 ne:∀ (i j:Nat) (b b':Bool) (o o':MO) (a:Addr),ρ[i]?=some (.ow b o)->ρ[j]?=some (.ow b' o')->σ[i]?=some (some (.ref a))->σ[j]?=some (some (.ref a))->i=j
section
variable {K:PySem.W.Frag}{c:FC}{H0 H H0' H':Hp}{ρ:En}{σ:L2.St}
theorem OwOk.some {a:Addr}{o:MO} (h:OwOk K H0 H a o):∃ u,H a=Option.some u:=by
 cases o with
 |lst ds=>obtain⟨vs,e,_⟩:=h;exact⟨_,e⟩
 |dic ds=>obtain⟨ks,vs,e,_⟩:=h;exact⟨_,e⟩
theorem OwOk.step {a:Addr}{o:MO} (h:OwOk K H0 H a o) (s0:Same H0 H0') (s:∀ u,H a=Option.some u->H' a=Option.some u):OwOk K H0' H' a o:=by
 cases o with
 |lst ds=>obtain⟨vs,e,r⟩:=h;exact⟨vs,s _ e,Reps.mono s0 ds r⟩
 |dic ds=>obtain⟨ks,vs,e,q,r⟩:=h;exact⟨ks,vs,s _ e,q,Reps.mono s0 _ r⟩
structure Step (H0 H H0' H':Hp):Prop where
 s0:Same H0 H0'
 s:Same H H'
 s':Same H0' H'
 fr:∀ b o,H0' b=some o->H0 b=some o\/H b=none
theorem RS.after (R:RS K c H0 H ρ σ) (S:Step H0 H H0' H'):RS K c H0' H' ρ σ:=by
 refine⟨S.s',R.init.trans S.s0,fun b o e=>?_,fun b o e n=>S.s _ _ (R.keep b o e n),fun a ha e=>?_,R.len,fun i d e=>?_,fun i b o e=>?_,R.ne⟩
 ·rcases S.fr b o e with h | h
  ·exact R.fresh b o h
  ·refine .inr ?_
   cases q:c.He b with
   |none=>rfl
   |some u =>
    by_cases hb:b∈c.Ap
    ·exact absurd h (R.apt b hb)
    ·rw[R.keep b u q hb] at h;cases h
 ·cases q:H a with
  |none=>exact R.apt a ha q
  |some u=>rw[S.s _ _ q] at e;cases e
 ·obtain⟨v,a,b⟩:=R.im i d e
  exact⟨v,a,Rep.mono S.s0 d b⟩
 ·obtain⟨a,x,y,z,w⟩:=R.ow i b o e
  refine⟨a,x,?_,z,w.step S.s0 fun u q=>S.s _ _ q⟩
  obtain⟨u,q⟩:=w.some;cases t:H0' a with
  |none=>rfl
  |some o' =>
   rcases S.fr a o' t with h | h
   ·rw[y] at h;cases h
   ·rw[q] at h;cases h
theorem Step.refl (s:Same H0 H):Step H0 H H0 H:=⟨Same.refl _,Same.refl _,s,fun _ _ e=>.inl e⟩
theorem Step.trans {A B:Hp} (x:Step H0 H H0' H') (y:Step H0' H' A B):Step H0 H A B:=by
 refine⟨x.s0.trans y.s0,x.s.trans y.s,y.s',fun b o e=>?_⟩
 rcases y.fr b o e with h | h
 ·exact x.fr b o h
 ·exact .inr (x.s.free h)
theorem Step.alloc {p:Addr}{o:HO} (s:Same H0 H) (hp:H p=none):Step H0 H (upd H0 p o) (upd H p o):=by
 have h0:H0 p=none:=s.free hp;refine⟨fun b u e=>by rw[upd_ne (ne_of_none e h0)];exact e,fun b u e=>by rw[upd_ne (ne_of_none e hp)];exact e,fun b u e=>?_,fun b u e=>?_⟩
 ·by_cases hb:b=p
  ·subst hb;rw[upd_same] at e ⊢;exact e
  ·rw[upd_ne hb] at e ⊢;exact s _ _ e
 ·by_cases hb:b=p
  ·subst hb;exact .inr hp
  ·rw[upd_ne hb] at e;exact .inl e
end
noncomputable def tE (K:PySem.W.Frag) (F:FE):TE:=fun σ H Q=>∃ c H0 ρ d ρ',RS K c H0 H ρ σ/\F ρ=some (d,ρ')/\∀ v H0' H',Same H0 H0'->RS K c H0' H' ρ' σ->Rep K H0' d v->Q v H'
noncomputable def tTt (K:PySem.W.Frag) (F:FT):TT:=fun σ H Q=>∃ c H0 ρ b ρ',RS K c H0 H ρ σ/\F ρ=some (b,ρ')/\∀ H0' H',Same H0 H0'->RS K c H0' H' ρ' σ->Q b H'
noncomputable def tAa (K:PySem.W.Frag) (F:FA):TA:=fun σ H Q=>∃ c H0 ρ ds ρ',RS K c H0 H ρ σ/\F ρ=some (ds,ρ')/\∀ vs H0' H',Same H0 H0'->RS K c H0' H' ρ' σ->Reps K H0' ds vs->Q vs H'
noncomputable def tOo (K:PySem.W.Frag) (F:FO):TO:=fun σ H Q=>∃ c H0 ρ o ρ',RS K c H0 H ρ σ/\F ρ=some (o,ρ')/\∀ H0' H',Same H0 H0'->RS K c H0' H' ρ' σ->Q o H'
noncomputable def XE (X:Cx) (e:Expr) (F:FE):Prop:=PE X e (tE X.K F)
noncomputable def XT (X:Cx) (e:Expr) (F:FT):Prop:=PT X e (tTt X.K F)
noncomputable def XW (X:Cx) (e:Expr) (F:FT):Prop:=PW X e (tTt X.K F)
noncomputable def XA (X:Cx) (es:List Expr) (F:FA):Prop:=PA X es (tAa X.K F)
noncomputable def XO (X:Cx) (e:Option Expr) (F:FO):Prop:=PO X e (tOo X.K F)
theorem bnd_eq {α β:Type}{x:Option α}{f:α->Option β}{b:β} (h:bnd x f=some b):∃ a,x=some a/\f a=some b:=by
 cases x with
 |none=>cases h
 |some a=>exact⟨a,rfl,h⟩
theorem PE.wk {X:Cx}{e:Expr}{t t':TE} (h:PE X e t) (w:∀ σ H Q,t' σ H Q->t σ H Q):PE X e t':=fun pins s σ H Q I q=>h pins s σ H Q I (w σ H Q q)
theorem PT.wk {X:Cx}{e:Expr}{t t':TT} (h:PT X e t) (w:∀ σ H Q,t' σ H Q->t σ H Q):PT X e t':=fun pins s σ H Q I q=>h pins s σ H Q I (w σ H Q q)
theorem PW.wk {X:Cx}{e:Expr}{t t':TT} (h:PW X e t) (w:∀ σ H Q,t' σ H Q->t σ H Q):PW X e t':=fun wh pins s σ H Q I q=>h wh pins s σ H Q I (w σ H Q q)
theorem PA.wk {X:Cx}{e:List Expr}{t t':TA} (h:PA X e t) (w:∀ σ H Q,t' σ H Q->t σ H Q):PA X e t':=fun pos pins s σ H Q I q=>h pos pins s σ H Q I (w σ H Q q)
theorem PS.wk {X:Cx}{e:Stmt}{t t':TS} (h:PS X e t) (w:∀ D σ H,t' D σ H->t D σ H):PS X e t':=fun pins s σ H D I q=>h pins s σ H D I (w D σ H q)
theorem PSs.wk {X:Cx}{e:List Stmt}{t t':TS} (h:PSs X e t) (w:∀ D σ H,t' D σ H->t D σ H):PSs X e t':=fun pins s σ H D I q=>h pins s σ H D I (w D σ H q)
section
variable {X:Cx}{pos:Pos}{a b e:Expr}{F G L:FE}{T U:FT}
theorem xv (i:Nat) {x:Str} (hN:X.N[i]?=some x:=by rfl) (hv:Vis X.env.scope x:=by first | exact Or.inl rfl | exact Or.inr (Or.inl rfl) | exact Or.inr (Or.inr rfl)) (hd:(x==("__debug__":Str))=false:=by decide)
  (hcd:(x==("__classdict__":Str))=false:=by decide):XE X (.Name x pos) (eV i) :=
 PE.wk (pe_var hN hv hd hcd) fun σ H Q ⟨c,H0,ρ,d,ρ',R,f,q⟩=>by
  unfold eV at f;cases z:ρ[i]? with
  |none=>rw[z] at f;cases f
  |some sl =>
   rw[z] at f;cases sl with
   |no=>cases f
   |ow b o=>cases f
   |im d' =>
    have f':some (d',ρ)=some (d,ρ'):=f;cases f';obtain⟨v,e1,e2⟩:=R.im i _ z;exact⟨v,e1,q v H0 H (Same.refl _) R e2⟩
theorem eC_inv {d d':D}{ρ ρ':En} (h:eC d ρ=some (d',ρ')):d'=d/\ρ'=ρ:=by
 have h':some (d,ρ)=some (d',ρ'):=h;cases h';exact⟨rfl,rfl⟩
theorem xint {i:Int}{j}:XE X (.Constant (.int i) j pos) (eC (.int i)):=PE.wk pe_int fun σ H Q ⟨c,H0,ρ,d,ρ',R,f,q⟩=>by
 obtain⟨rfl,rfl⟩:=eC_inv f;exact q _ H0 H (Same.refl _) R (by unfold Rep;rfl)
theorem xbl {i:Bool}{j}:XE X (.Constant (.bool i) j pos) (eC (.bl i)):=PE.wk pe_bl fun σ H Q ⟨c,H0,ρ,d,ρ',R,f,q⟩=>by
 obtain⟨rfl,rfl⟩:=eC_inv f;exact q _ H0 H (Same.refl _) R (by unfold Rep;rfl)
theorem xnon {j}:XE X (.Constant .none j pos) (eC .non):=PE.wk pe_non fun σ H Q ⟨c,H0,ρ,d,ρ',R,f,q⟩=>by
 obtain⟨rfl,rfl⟩:=eC_inv f;exact q _ H0 H (Same.refl _) R (by unfold Rep;rfl)
theorem xstr {x:Str}{j}:XE X (.Constant (.str x) j pos) (eC (.str x)):=PE.wk pe_str fun σ H Q ⟨c,H0,ρ,d,ρ',R,f,q⟩=>by
 obtain⟨rfl,rfl⟩:=eC_inv f;exact q _ H0 H (Same.refl _) R (by unfold Rep;rfl)
noncomputable abbrev Aft (K:PySem.W.Frag) (c:FC) (H0:Hp) (ρ:En) (σ:L2.St) (d:D) (Q:VK):Prop:=∀ v H0' H',Same H0 H0'->RS K c H0' H' ρ σ->Rep K H0' d v->Q v H'
noncomputable def OpD (K:PySem.W.Frag) (r:R2) (op:D->D->Option D):Prop:=∀ (c:FC) (H0 H:Hp) (ρ:En) (σ:L2.St) (x y d:D) (vx vy:V) (Q:VK),RS K c H0 H ρ σ->Rep K H0 x vx->Rep K H0 y vy->op x y=some d->Aft K c H0 ρ σ d Q->r vx vy H Q
noncomputable def BinOk (X:Cx) (op:Operator) (f:D->D->Option D):Prop:=∃ r,OpR X (binaryOp op) r/\OpD X.K r f
noncomputable def CmpOk (X:Cx) (op:CmpOp) (f:D->D->Option D):Prop:=∃ r,OpR X (compareOp op) r/\OpD X.K r f
theorem e2_inv {op:D->D->Option D}{ρ ρ':En}{d:D} (h:e2 op F G ρ=some (d,ρ')):∃ x ρ1 y,F ρ=some (x,ρ1)/\G ρ1=some (y,ρ')/\op x y=some d:=by
 unfold e2 at h;obtain⟨⟨x,ρ1⟩,h1,h⟩:=bnd_eq h;obtain⟨⟨y,ρ2⟩,h2,h⟩:=bnd_eq h;obtain⟨z,h3,h⟩:=bnd_eq h;have h':some (z,ρ2)=some (d,ρ'):=h;cases h';exact⟨x,ρ1,y,h1,h2,h3⟩
theorem two_of {K:PySem.W.Frag}{op:D->D->Option D}{r:R2} (o:OpD K r op) {σ:L2.St}{H:Hp}{Q:VK} (h:tE K (e2 op F G) σ H Q):tOp r (tE K F) (tE K G) σ H Q:=by
 obtain⟨c,H0,ρ,d,ρ',R,f,q⟩:=h;obtain⟨x,ρ1,y,h1,h2,h3⟩:=e2_inv f;refine⟨c,H0,ρ,x,ρ1,R,h1,fun vx H1 Hh s1 R1 r1=>?_⟩
 refine⟨c,H1,ρ1,y,ρ',R1,h2,fun vy H2 Hh2 s2 R2 r2=>?_⟩
 exact o c H2 Hh2 ρ' σ x y d vx vy Q R2 (Rep.mono s2 x r1) r2 h3 fun v H3 Hh3 s3 R3 r3=>q v H3 Hh3 (s1.trans (s2.trans s3)) R3 r3
theorem xb {op:Operator}{f:D->D->Option D} (o:BinOk X op f) (ha:XE X a F) (hb:XE X b G):XE X (.BinOp a op b pos) (e2 f F G):=by
 obtain⟨r,h1,h2⟩:=o;exact PE.wk (pe_op h1 ha hb) fun σ H Q h=>two_of h2 h
theorem xcmp {op:CmpOp}{f:D->D->Option D} (o:CmpOk X op f) (ha:XE X a F) (hb:XE X b G) (hm:behindInMarks op b=false:=by first | exact nomark _ | with_unfolding_all rfl):XE X (.Compare a [op] [b] pos) (e2 f F G):=by
 obtain⟨r,h1,h2⟩:=o;exact PE.wk (pe_cmpR h1 ha hb hm) fun σ H Q h=>two_of h2 h
theorem tB_of {K:PySem.W.Frag}{t:TE}{σ:L2.St}{H:Hp}{Q:Bool->Hp->Prop} (w:∀ Q,tE K F σ H Q->t σ H Q) (h:tTt K (tB F) σ H Q):tTest t σ H Q:=by
 obtain⟨c,H0,ρ,b,ρ',R,f,q⟩:=h;unfold tB at f;obtain⟨⟨d,ρ1⟩,h1,f⟩:=bnd_eq f;obtain⟨b',h2,f⟩:=bnd_eq f;have f':some (b',ρ1)=some (b,ρ'):=f;cases f';refine w _ ⟨c,H0,ρ,d,_,R,h1,fun v H1 Hh s1 R1 r1=>?_⟩
 cases d with
 |bl k =>
  have e:k=b:=Option.some.inj h2;unfold Rep at r1;exact⟨k,r1,by rw[e];exact q H1 Hh s1 R1⟩
 |_=>cases h2
theorem xt {op:CmpOp}{f:D->D->Option D} (o:CmpOk X op f) (ha:XE X a F) (hb:XE X b G) (hm:behindInMarks op b=false:=by first | exact nomark _ | with_unfolding_all rfl):XT X (.Compare a [op] [b] pos) (tB (e2 f F G)):=by
 obtain⟨r,h1,h2⟩:=o;exact PT.wk (pt_cmpR h1 ha hb hm) fun σ H Q h=>tB_of (fun Q h=>two_of h2 h) h
theorem xif {c:Expr} (hc:XT X c T) (ha:XE X a F) (hb:XE X b G):XE X (.IfExp c a b pos) (eIf T F G):=PE.wk (pe_ifExp hc ha hb) fun σ H Q ⟨c,H0,ρ,d,ρ',R,f,q⟩=>by
 unfold eIf at f;obtain⟨⟨k,ρ1⟩,h1,f⟩:=bnd_eq f;dsimp only at f;refine⟨c,H0,ρ,k,ρ1,R,h1,fun H1 Hh s1 R1=>?_⟩
 cases k with
 |true =>
  rw[if_pos rfl] at f ⊢;exact⟨c,H1,ρ1,d,ρ',R1,f,fun v H2 Hh2 s2 R2 r2=>q v H2 Hh2 (s1.trans s2) R2 r2⟩
 |false =>
  rw[if_neg Bool.false_ne_true] at f ⊢;exact⟨c,H1,ρ1,d,ρ',R1,f,fun v H2 Hh2 s2 R2 r2=>q v H2 Hh2 (s1.trans s2) R2 r2⟩
theorem xone {op} (h:XE X a F):XE X (.BoolOp op [a] pos) F:=pe_one h
variable {rest:List Expr}
theorem xand (ha:XE X a F) (hb:XE X (.BoolOp .And (b::rest) pos) G):XE X (.BoolOp .And (a::b::rest) pos) (eAnd F G):=PE.wk (pe_and ha hb) fun σ H Q ⟨c,H0,ρ,d,ρ',R,f,q⟩=>by
 unfold eAnd at f;obtain⟨⟨z,ρ1⟩,h1,f⟩:=bnd_eq f;obtain⟨k,h2,f⟩:=bnd_eq f;dsimp only at h2 f;refine⟨c,H0,ρ,z,ρ1,R,h1,fun v H1 Hh s1 R1 r1=>?_⟩
 cases z with
 |bl k' =>
  have e:k'=k:=Option.some.inj h2;subst e;unfold Rep at r1;refine⟨k',r1,?_⟩;cases k' with
  |true =>
   rw[if_pos rfl] at f ⊢;exact⟨c,H1,ρ1,d,ρ',R1,f,fun v H2 Hh2 s2 R2 r2=>q v H2 Hh2 (s1.trans s2) R2 r2⟩
  |false =>
   rw[if_neg Bool.false_ne_true] at f ⊢;have f':some (D.bl false,ρ1)=some (d,ρ'):=f;cases f';exact q _ H1 Hh s1 R1 (by unfold Rep;rfl)
 |_=>cases h2
theorem xw (h:XW X a T):XT X a T:=PW.pt h
theorem xwand1 (ha:XT X a T):XW X (.BoolOp .And [a] pos) T:=pw_and1 ha
theorem xwor1 (ha:XT X a T):XW X (.BoolOp .Or [a] pos) T:=pw_or1 ha
theorem xwand (ha:XT X a T) (hb:XW X (.BoolOp .And (b::rest) pos) U):XW X (.BoolOp .And (a::b::rest) pos) (tAnd T U):=PW.wk (pw_and ha hb) fun σ H Q ⟨c,H0,ρ,k,ρ',R,f,q⟩=>by
 unfold tAnd at f;obtain⟨⟨k',ρ1⟩,h1,f⟩:=bnd_eq f;dsimp only at f;refine⟨c,H0,ρ,k',ρ1,R,h1,fun H1 Hh s1 R1=>?_⟩
 cases k' with
 |true =>
  rw[if_pos rfl] at f ⊢;exact⟨c,H1,ρ1,k,ρ',R1,f,fun H2 Hh2 s2 R2=>q H2 Hh2 (s1.trans s2) R2⟩
 |false =>
  rw[if_neg Bool.false_ne_true] at f ⊢;have f':some (false,ρ1)=some (k,ρ'):=f;cases f';exact q H1 Hh s1 R1
theorem xwor (ha:XT X a T) (hb:XW X (.BoolOp .Or (b::rest) pos) U):XW X (.BoolOp .Or (a::b::rest) pos) (tOr T U):=PW.wk (pw_or ha hb) fun σ H Q ⟨c,H0,ρ,k,ρ',R,f,q⟩=>by
 unfold tOr at f;obtain⟨⟨k',ρ1⟩,h1,f⟩:=bnd_eq f;dsimp only at f;refine⟨c,H0,ρ,k',ρ1,R,h1,fun H1 Hh s1 R1=>?_⟩
 cases k' with
 |true =>
  rw[if_pos rfl] at f ⊢;have f':some (true,ρ1)=some (k,ρ'):=f;cases f';exact q H1 Hh s1 R1
 |false =>
  rw[if_neg Bool.false_ne_true] at f ⊢;exact⟨c,H1,ρ1,k,ρ',R1,f,fun H2 Hh2 s2 R2=>q H2 Hh2 (s1.trans s2) R2⟩
theorem xtnot (ha:XT X a T):XT X (.UnaryOp .Not a pos) (tNot T):=PT.wk (pt_not ha) fun σ H Q ⟨c,H0,ρ,k,ρ',R,f,q⟩=>by
 unfold tNot at f;obtain⟨⟨k',ρ1⟩,h1,f⟩:=bnd_eq f;have f':some (!k',ρ1)=some (k,ρ'):=f;cases f';exact⟨c,H0,ρ,k',_,R,h1,fun H1 Hh s1 R1=>q H1 Hh s1 R1⟩
theorem tru_of {K:PySem.W.Frag}{H0 H:Hp}{d:D}{v:V}{k:Bool} (s:Same H0 H) (r:Rep K H0 d v) (h:dTru d=some k):TruV K v H k:=by
 cases d with
 |non=>unfold Rep at r;subst r;cases h;rfl
 |bl b=>unfold Rep at r;subst r;cases h;rfl
 |int i=>unfold Rep at r;subst r;cases h;rfl
 |str x=>cases h
 |opq=>cases h
 |dct ks vs=>cases h
 |tup ds =>
  unfold Rep at r;obtain⟨p,vs,rfl,q,t⟩:=r;have e:(!ds.isEmpty)=k:=Option.some.inj h;have e2:ds.isEmpty=vs.isEmpty:=by rw[Bool.eq_iff_iff,List.isEmpty_iff_length_eq_zero,List.isEmpty_iff_length_eq_zero,t.length]
  exact .inr (.inl ⟨vs,Same.seqT s q,by rw[<- e2];exact e.symm⟩)
 |lst ds =>
  unfold Rep at r;obtain⟨p,vs,rfl,q,t⟩:=r;have e:(!ds.isEmpty)=k:=Option.some.inj h;have e2:ds.isEmpty=vs.isEmpty:=by rw[Bool.eq_iff_iff,List.isEmpty_iff_length_eq_zero,List.isEmpty_iff_length_eq_zero,t.length]
  exact .inl ⟨vs,Same.seq s q,by rw[<- e2];exact e.symm⟩
theorem xtv (ha:XE X a F) (he:∀ whole,isTrue a X.env whole=(do let v <- whole;standAt a.pos;holding [v] (truthy v))):XT X a (tV F):=PT.wk (pt_truth ha he) fun σ H Q ⟨c,H0,ρ,k,ρ',R,f,q⟩=>by
 unfold tV at f;obtain⟨⟨d,ρ1⟩,h1,f⟩:=bnd_eq f;obtain⟨k',h2,f⟩:=bnd_eq f;have f':some (k',ρ1)=some (k,ρ'):=f;cases f';exact⟨c,H0,ρ,d,_,R,h1,fun v H1 Hh s1 R1 r1=>⟨k,tru_of R1.same r1 h2,q H1 Hh s1 R1⟩⟩
theorem xaN:XA X [] aN:=PA.wk pa_nil fun σ H Q ⟨c,H0,ρ,ds,ρ',R,f,q⟩=>by
 have f':some (([]:List D),ρ)=some (ds,ρ'):=f;cases f';exact q [] H0 H (Same.refl _) R Reps.nil_
theorem xaC {es:List Expr}{A:FA} (ha:XE X e F) (hr:XA X es A) (hs:starEach (e::es) X.env=(false,eval e X.env)::starEach es X.env:=by rfl):XA X (e::es) (aC F A):=PA.wk (pa_cons ha hr hs) fun σ H Q ⟨c,H0,ρ,ds,ρ',R,f,q⟩=>by
 unfold aC at f;obtain⟨⟨d,ρ1⟩,h1,f⟩:=bnd_eq f;obtain⟨⟨r,ρ2⟩,h2,f⟩:=bnd_eq f;have f':some (d::r,ρ2)=some (ds,ρ'):=f;cases f';refine⟨c,H0,ρ,d,ρ1,R,h1,fun v H1 Hh s1 R1 r1=>?_⟩
 refine⟨c,H1,ρ1,r,_,R1,h2,fun vs H2 Hh2 s2 R2 r2=>?_⟩
 exact q _ H2 Hh2 (s1.trans s2) R2 (Reps.cons (Rep.mono s2 d r1) r2)
theorem t1000 {n:Nat} (h:n<=1000):n<=sizeLine:=Nat.le_of_lt (small1000 h)
theorem xtup {es:List Expr}{A:FA}{x1} (h:XA X es A):XE X (.Tuple es x1 pos) (eTup A):=PE.wk (pe_tup h) fun σ H Q ⟨c,H0,ρ,d,ρ',R,f,q⟩=>by
 unfold eTup at f;obtain⟨⟨ds,ρ1⟩,h1,f⟩:=bnd_eq f;dsimp only at f
 split at f
 ·rename_i hl
  cases f;refine⟨c,H0,ρ,ds,_,R,h1,fun vs H1 Hh s1 R1 r1=>⟨by rw[<- r1.length];exact t1000 hl,fun p hp=>?_⟩⟩
  have S:=Step.alloc (o:=.tup vs) R1.same hp;refine q _ _ _ (s1.trans S.s0) (R1.after S) ?_;unfold Rep;exact⟨p,vs,rfl,.inl (.inl upd_same),Reps.mono S.s0 ds r1⟩
 ·cases f
theorem xlst {es:List Expr}{A:FA} (h:XA X es A):XE X (.List es pos) (eLst A):=PE.wk (pe_lst h) fun σ H Q ⟨c,H0,ρ,d,ρ',R,f,q⟩=>by
 unfold eLst at f;obtain⟨⟨ds,ρ1⟩,h1,f⟩:=bnd_eq f;dsimp only at f
 split at f
 ·rename_i hl
  cases f;refine⟨c,H0,ρ,ds,_,R,h1,fun vs H1 Hh s1 R1 r1=>⟨by rw[<- r1.length];exact t1000 hl,fun p hp=>?_⟩⟩
  have S:=Step.alloc (o:=.lst vs) R1.same hp;refine q _ _ _ (s1.trans S.s0) (R1.after S) ?_;unfold Rep;exact⟨p,vs,rfl,.inl (.inl upd_same),Reps.mono S.s0 ds r1⟩
 ·cases f
theorem dPl_eq:@dPl=@ixN:=rfl
theorem at_of {K:PySem.W.Frag}{H:Hp}{ds:List D}{vs:List V}{i:Int}{d:D} (r:Reps K H ds vs) (h:atD ds i=some d):∃ v,atI vs i=some v/\Rep K H d v:=by
 unfold atD at h;obtain⟨j,h1,h2⟩:=bnd_eq (x:=dPl ds.length i) (f:=fun j=>ds[j]?) h
 obtain⟨v,e1,e2⟩:=r.get h2;refine⟨v,?_,e2⟩;unfold atI;rw[<- r.length,<- dPl_eq,h1];exact e1
theorem PO.wk {X:Cx}{e:Option Expr}{t t':TO} (h:PO X e t) (w:∀ σ H Q,t' σ H Q->t σ H Q):PO X e t':=fun pins s σ H Q I q=>h pins s σ H Q I (w σ H Q q)
theorem xoN:XO X none oN:=PO.wk po_none fun σ H Q ⟨c,H0,ρ,o,ρ',R,f,q⟩=>by
 have f':some ((none:Option Int),ρ)=some (o,ρ'):=f;cases f';exact q H0 H (Same.refl _) R
theorem xoS (h:XE X e F):XO X (some e) (oS F):=PO.wk (po_some h) fun σ H Q ⟨c,H0,ρ,o,ρ',R,f,q⟩=>by
 unfold oS at f;obtain⟨⟨d,ρ1⟩,h1,f⟩:=bnd_eq f;obtain⟨i,h2,f⟩:=bnd_eq f;dsimp only at h2 f;have f':some (some i,ρ1)=some (o,ρ'):=f;cases f';refine⟨c,H0,ρ,d,_,R,h1,fun v H1 Hh s1 R1 r1=>?_⟩
 cases d with
 |int j =>
  have e:j=i:=Option.some.inj h2;subst e;unfold Rep at r1;exact⟨j,r1,q H1 Hh s1 R1⟩
 |_=>cases h2
theorem dEnd_eq (n d:Nat) (o:Option Int):dEnd n d o=HT.sIx n d o:=by
 cases o with
 |none=>rfl
 |some v =>
  show (if v<0 then max (v+(n:Int)) 0 else min v (n:Int)).toNat=if v<0 then (v+(n:Int)).toNat else min v.toNat n
  split <;> omega
theorem cut_of {K:PySem.W.Frag}{H:Hp}{ds:List D}{vs:List V} (r:Reps K H ds vs) (lo hi:Option Int):Reps K H (dCut ds lo hi) (cutV vs lo hi):=by
 unfold dCut cutV;rw[dEnd_eq,dEnd_eq,r.length];exact (r.drop _).take _
end
end Fx
set_option maxRecDepth 100000
namespace Fx
open PySem PySem.Spec PyProof.Rows L2
section
variable {X:Cx}{K:PySem.W.Frag}
theorem opD_int {C:Int->Int->Prop}{g:Int->Int->V}{f:D->D->Option D} (h:∀ x y d,f x y=some d->∃ i j,x=.int i/\y=.int j/\C i j/\∀ H,Rep K H d (g i j)):OpD K (rI C g) f:=fun c H0 H ρ σ x y d vx vy Q R r1 r2 e q=>by
 obtain⟨i,j,rfl,rfl,hc,hr⟩:=h x y d e;unfold Rep at r1 r2;exact⟨i,j,r1,r2,hc,q _ H0 H (Same.refl _) R (hr H0)⟩
theorem opD_int0 {g:Int->Int->V}{f:D->D->Option D} (h:∀ x y d,f x y=some d->∃ i j,x=.int i/\y=.int j/\∀ H,Rep K H d (g i j)):OpD K (rI0 g) f:=fun c H0 H ρ σ x y d vx vy Q R r1 r2 e q=>by
 obtain⟨i,j,rfl,rfl,hr⟩:=h x y d e;unfold Rep at r1 r2;exact⟨i,j,r1,r2,q _ H0 H (Same.refl _) R (hr H0)⟩
theorem rep_int (H:Hp) (i:Int):Rep K H (.int i) (.int i):=by unfold Rep;rfl
theorem rep_bl (H:Hp) (i:Bool):Rep K H (.bl i) (.bl i):=by unfold Rep;rfl
theorem ifs {c:Prop} [Decidable c] {α:Type}{a d:α} (h:(if c then some a else none)=some d):c/\a=d:=by
 by_cases hc:c
 ·rw[if_pos hc] at h;exact⟨hc,Option.some.inj h⟩
 ·rw[if_neg hc] at h;cases h
theorem oSub:BinOk X .Sub dSub:=⟨_,op_sub,opD_int0 fun x y d e=>by
 cases x <;> cases y <;> cases e
 exact⟨_,_,rfl,rfl,fun H=>rep_int H _⟩⟩
noncomputable def CMulD (i j:Int):Prop:=okMul i j=true
theorem intBits_1000 {i:Int} (h:bigM i=true):Builtin.Int.intBits i<=1000:=by
 have h:i.natAbs<2 ^ 1000:=of_decide_eq_true h;unfold Builtin.Int.intBits
 split
 ·exact Nat.zero_le _
 ·rename_i hz
  have hz:i≠0:=by simpa using hz
  have h0:i.natAbs≠0:=by omega
  have:=(Nat.log2_lt h0).mpr h;omega
theorem CMulD.ok {i j:Int} (h:CMulD i j):IntMulOk i j:=by
 unfold CMulD okMul at h;simp only[Bool.or_eq_true,Bool.and_eq_true,decide_eq_true_eq] at h
 rcases h with (h | h) | ⟨h1,h2⟩
 ·exact IntMulOk.of_left (intBits_le_64 (by omega) (by omega))
 ·exact IntMulOk.of_right (intBits_le_64 (by omega) (by omega))
 ·unfold IntMulOk
  have b1:=intBits_1000 h1;have b2:=intBits_1000 h2
  have:Builtin.Int.intTooBig ((Builtin.Int.intBits i:Int)+(Builtin.Int.intBits j:Int))=false:=by
   unfold Builtin.Int.intTooBig;refine decide_eq_false ?_;have:(2000:Int)<=bitsLine:=by decide
   omega
  simp[this]
theorem oMul:BinOk X .Mult dMul:=⟨rI CMulD fun i j=>.int (i*j),opI fun _ _ _ _ _ _ _ hc q=>mul_int q hc.ok,opD_int fun x y d e=>by
 cases x with
 |int i =>
  cases y with
  |int j =>
   obtain⟨h,rfl⟩:=ifs (c:=okMul i j=true) e;exact⟨_,_,rfl,rfl,h,fun H=>rep_int H _⟩
  |_=>cases e
 |_=>cases y <;> cases e⟩
noncomputable def CDivD (i j:Int):Prop:=okDiv j=true
theorem oDiv:BinOk X .FloorDiv dDiv:=⟨rI CDivD fun i j=>.int (i.fdiv j),opI fun i j _ _ _ _ _ hc q=>by
  unfold CDivD okDiv at hc;simp only[Bool.and_eq_true,decide_eq_true_eq] at hc;refine floordiv_int hc.1 q (.inl (PyProof.noPylong_of_log2 ?_));have h0:j.natAbs≠0:=by have:=hc.1;omega
  have:=(Nat.log2_lt h0).mpr hc.2
  omega,opD_int fun x y d e=>by
 cases x with
 |int i =>
  cases y with
  |int j =>
   obtain⟨h,rfl⟩:=ifs (c:=okDiv j=true) e;exact⟨_,_,rfl,rfl,h,fun H=>rep_int H _⟩
  |_=>cases e
 |_=>cases y <;> cases e⟩
theorem oMod:BinOk X .Mod dMod:=⟨_,op_modN,opD_int fun x y d e=>by
 cases x with
 |int i =>
  cases y with
  |int j =>
   obtain⟨h,rfl⟩:=ifs (c:=j≠0) e;exact⟨_,_,rfl,rfl,h,fun H=>rep_int H _⟩
  |_=>cases e
 |_=>cases y <;> cases e⟩
noncomputable def rCatR (K:PySem.W.Frag):R2:=fun x y H Q=>∃ l b xs zs,x=.ref l/\y=.ref b/\SqL K H l xs/\SqL K H b zs/\xs.length+zs.length<=sizeLine/\∀ p,H p=none->Q (.ref p) (upd H p (.lst (xs++zs)))
theorem op_catR:OpR X (binaryOp .Add) (rCatR X.K):=by
 intro pins s σ H x y v u Q I rx ry h;obtain⟨l,b,xs,zs,rfl,rfl,hH,hB,hz,q⟩:=h;cases rx;cases ry;obtain⟨its,r,pl,_⟩:=I.list hH;obtain⟨its2,r2,pl2,_⟩:=I.list hB;have hl:=r.length;have hl2:=r2.length;obtain⟨⟨cls,dd,data,sl⟩,ho,hc,n,hd⟩:=pl.isList;obtain⟨⟨cls2,dd2,data2,sl2⟩,ho2,hc2,n2,hd2⟩:=pl2.isList;simp only at hc hd hc2 hd2;subst hc hd hc2 hd2;have e:its.toArray++its2.toArray=(its++its2).toArray:=by simp
 refine concat_meets ⟨_,ho,rfl⟩ ⟨_,ho2,rfl⟩ noFill_list_add seq_list_add PySem.F.slot_list_add PySem.F.entry_list_add (PySem.F.args_list_add_2 _ _) (list_addW l b its.toArray its2.toArray n n2 dd dd2 sl sl2 (by rw[List.size_toArray,List.size_toArray];omega)) ⟨ho,ho2,?_⟩
 rw[e];exact⟨.ref _,_,I.lnew (t':=s.toks) (r.append r2) (by rw[List.length_append];omega),rfl,q _ I.fresh⟩
noncomputable def rAddD (K:PySem.W.Frag):R2:=fun x y H Q=>rI0 (fun i j=>.int (i+j)) x y H Q\/((∃ i j,x=.str i/\y=.str j/\i.length+j.length<=sizeLine/\Q (.str (i++j)) H)\/rCatR K x y H Q)
theorem oAdd:BinOk X .Add dAdd:=⟨rAddD X.K,op_add.or (op_add_str.or op_catR),fun c H0 H ρ σ x y d vx vy Q R r1 r2 e q=>by
 cases x with
 |int i =>
  cases y with
  |int j =>
   cases e;unfold Rep at r1 r2;exact .inl ⟨_,_,r1,r2,q _ H0 H (Same.refl _) R (rep_int H0 _)⟩
  |_=>cases e
 |str i =>
  cases y with
  |str j =>
   obtain⟨h,rfl⟩:=ifs (c:=i.length+j.length<=sizeLine) e;unfold Rep at r1 r2;exact .inr (.inl ⟨_,_,r1,r2,h,q _ H0 H (Same.refl _) R (by unfold Rep;rfl)⟩)
  |_=>cases e
 |lst ds =>
  cases y with
  |lst es =>
   obtain⟨h,rfl⟩:=ifs (c:=ds.length+es.length<=sizeLine) e;unfold Rep at r1 r2;obtain⟨p,vs,rfl,s,t⟩:=r1;obtain⟨p2,vs2,rfl,s2,t2⟩:=r2;refine .inr (.inr ⟨p,p2,vs,vs2,rfl,rfl,Same.seq R.same s,Same.seq R.same s2,by rw[<- t.length,<- t2.length];exact h,fun p' hp=>?_⟩)
   have S:=Step.alloc (o:=.lst (vs++vs2)) R.same hp;refine q _ _ _ S.s0 (R.after S) ?_;unfold Rep;exact⟨p',_,rfl,.inl (.inl upd_same),Reps.mono S.s0 _ (t.app t2)⟩
  |_=>cases e
 |_=>cases y <;> cases e⟩
theorem xneg {a:Expr}{F:FE}{pos:Pos} (ha:XE X a F):XE X (.UnaryOp .USub a pos) (e1 dNeg F):=PE.wk (pe_un un_neg ha) fun σ H Q ⟨c,H0,ρ,d,ρ',R,f,q⟩=>by
 unfold e1 at f;obtain⟨⟨x,ρ1⟩,h1,f⟩:=bnd_eq f;obtain⟨d',h2,f⟩:=bnd_eq f;dsimp only at h2 f;have f':some (d',ρ1)=some (d,ρ'):=f;cases f';refine⟨c,H0,ρ,x,_,R,h1,fun v H1 Hh s1 R1 r1=>?_⟩
 cases x with
 |int i =>
  have e:D.int (-i)=d:=Option.some.inj h2;subst e;unfold Rep at r1;exact⟨i,r1,q _ H1 Hh s1 R1 (rep_int _ _)⟩
 |_=>cases h2
theorem cmpD {p:Int->Int->Bool}:OpD K (rI0 fun i j=>.bl (p i j)) (dCmp p):=opD_int0 fun x y d e=>by
 cases x <;> cases y <;> cases e
 exact⟨_,_,rfl,rfl,fun H=>rep_bl H _⟩
theorem cLt:CmpOk X .Lt dLt:=⟨_,op_lt,cmpD⟩
theorem cGt:CmpOk X .Gt dGt:=⟨_,op_gt,cmpD⟩
theorem isN_of {H:Hp}{x:D}{v:V} (r:Rep K H x v):isN x=decide (v=.non):=by
 cases x with
 |non=>unfold Rep at r;subst r;rfl
 |bl b=>unfold Rep at r;subst r;rfl
 |int b=>unfold Rep at r;subst r;rfl
 |str b=>unfold Rep at r;subst r;rfl
 |tup ds=>unfold Rep at r;obtain⟨p,vs,rfl,_⟩:=r;rfl
 |opq=>unfold Rep at r;obtain⟨p,kvs,rfl,_⟩:=r;rfl
 |dct ks vs=>unfold Rep at r;obtain⟨p,o,us,rfl,_⟩:=r;rfl
 |lst ds=>unfold Rep at r;obtain⟨p,vs,rfl,_⟩:=r;rfl
theorem cIs:CmpOk X .Is dIs:=⟨_,op_isN,fun c H0 H ρ σ x y d vx vy Q R r1 r2 e q=>by
 cases y with
 |non =>
  have e':D.bl (isN x)=d:=by cases x <;> exact Option.some.inj e
  subst e';unfold Rep at r2;exact⟨r2,by rw[<- isN_of r1];exact q _ H0 H (Same.refl _) R (rep_bl _ _)⟩
 |_=>cases x <;> cases e⟩
theorem cIsNot:CmpOk X .IsNot dIsNot:=⟨_,op_notN,fun c H0 H ρ σ x y d vx vy Q R r1 r2 e q=>by
 cases y with
 |non =>
  have e':D.bl (!isN x)=d:=by cases x <;> exact Option.some.inj e
  subst e';unfold Rep at r2;exact⟨r2,by rw[<- isN_of r1];exact q _ H0 H (Same.refl _) R (rep_bl _ _)⟩
 |_=>cases x <;> cases e⟩
end
end Fx
set_option maxRecDepth 100000
namespace Fx
open PySem PySem.Spec PyProof.Rows L2
theorem eqDs_all:∀ (ds es:List D),eqDs ds es=((List.range (min ds.length es.length)).all (fun j=>eqD (ds.getD j .non) (es.getD j .non))&&ds.length==es.length)
 |[],[]=>by simp[eqDs]
 |[],e::es=>by simp[eqDs]
 |d::ds,[]=>by simp[eqDs]
 |d::ds,e::es=>by
  rw[eqDs,eqDs_all ds es];have h:min (d::ds).length (e::es).length=min ds.length es.length+1:=by simp only[List.length_cons];omega
  rw[h,List.range_succ_eq_map,List.all_cons,List.all_map];have h2:((d::ds).length==(e::es).length)=(ds.length==es.length):=by simp
  rw[h2,Bool.and_assoc];rfl
theorem dpDs_le:∀ {ds:List D}{n:Nat}{j:Nat}{d:D},dpDs ds<=n->ds[j]?=some d->dpD d<=n
 |[],_,_,_,_,e=>by simp at e
 |d::ds,n,0,_,h,e=>by
  rw[dpDs_cons] at h;simp at e;subst e;omega
 |d::ds,n,j+1,d',h,e=>by
  rw[dpDs_cons] at h;exact dpDs_le (ds:=ds) (n:=n) (j:=j) (by omega) (by simpa using e)
section
variable {X:Cx}{pins:List (Addr×Obj)}{σ:L2.St}{H:Hp}{s:Shared}
theorem eqDs_of {ds es:List D}{vs:List V} (hd:Reps X.K H ds vs) (he:Reps X.K H es vs) (h:∀ (j:Nat) (d e:D) (v:V),ds[j]?=some d->es[j]?=some e->Rep X.K H d v->Rep X.K H e v->eqD d e=true):eqDs ds es=true:=by
 rw[eqDs_all];have l1:=hd.length;have l2:=he.length;rw[Bool.and_eq_true,List.all_eq_true];refine⟨fun j hj=>?_,by simp;omega⟩
 have hj':j<ds.length:=by have:=List.mem_range.mp hj;omega
 have hk':j<es.length:=by omega
 obtain⟨v,a1,a2⟩:=hd.get (i:=j) (d:=ds[j]) (by simp[hj'])
 obtain⟨v',b1,b2⟩:=he.get (i:=j) (d:=es[j]) (by simp[hk'])
 rw[a1] at b1;cases b1;have:=h j ds[j] es[j] v (by simp[hj']) (by simp[hk']) a2 b2
 simpa [List.getD,hj',hk'] using this
theorem no_tl (I:Inv X pins σ H s) {a:Addr}{xs ys:List V} (h:SqT X.K H a xs) (h':SqL X.K H a ys):False:=by
 obtain⟨_,_,⟨o,e,c,_⟩,_⟩:=I.tuple h;obtain⟨_,_,⟨o',n,e',c',_⟩,_⟩:=I.list h';rw[e] at e';cases e';have z:=c.symm.trans c';injection z with z
 exact absurd z (by decide)
theorem rep_one (I:Inv X pins σ H s):∀ (n:Nat) (d e:D) (v:V),dpD d<=n->dpD d<1000->dpD e<1000->Rep X.K H d v->Rep X.K H e v->eqD d e=true
 |n,d,e,v,hn,hz1,hz2,r1,r2=>by
  cases d with
  |opq=>exact absurd hz1 (by rw[dpD_opq];omega)
  |dct ks0 vs0=>exact absurd hz1 (by rw[dpD_dct];omega)
  |non =>
   cases e with
   |opq=>exact absurd hz2 (by rw[dpD_opq];omega)
   |dct ks0 vs0=>exact absurd hz2 (by rw[dpD_dct];omega)
   |non=>unfold Rep at r1 r2;rw[r1] at r2;first | (cases r2;simp[eqD]) | cases r2
   |bl b2=>unfold Rep at r1 r2;rw[r1] at r2;first | (cases r2;simp[eqD]) | cases r2
   |int b2=>unfold Rep at r1 r2;rw[r1] at r2;first | (cases r2;simp[eqD]) | cases r2
   |str b2=>unfold Rep at r1 r2;rw[r1] at r2;first | (cases r2;simp[eqD]) | cases r2
   |tup es=>unfold Rep at r1 r2;obtain⟨p,vs,z,_⟩:=r2;rw[r1] at z;cases z
   |lst es=>unfold Rep at r1 r2;obtain⟨p,vs,z,_⟩:=r2;rw[r1] at z;cases z
  |bl b1 =>
   cases e with
   |opq=>exact absurd hz2 (by rw[dpD_opq];omega)
   |dct ks0 vs0=>exact absurd hz2 (by rw[dpD_dct];omega)
   |non=>unfold Rep at r1 r2;rw[r1] at r2;first | (cases r2;simp[eqD]) | cases r2
   |bl b2=>unfold Rep at r1 r2;rw[r1] at r2;first | (cases r2;simp[eqD]) | cases r2
   |int b2=>unfold Rep at r1 r2;rw[r1] at r2;first | (cases r2;simp[eqD]) | cases r2
   |str b2=>unfold Rep at r1 r2;rw[r1] at r2;first | (cases r2;simp[eqD]) | cases r2
   |tup es=>unfold Rep at r1 r2;obtain⟨p,vs,z,_⟩:=r2;rw[r1] at z;cases z
   |lst es=>unfold Rep at r1 r2;obtain⟨p,vs,z,_⟩:=r2;rw[r1] at z;cases z
  |int b1 =>
   cases e with
   |opq=>exact absurd hz2 (by rw[dpD_opq];omega)
   |dct ks0 vs0=>exact absurd hz2 (by rw[dpD_dct];omega)
   |non=>unfold Rep at r1 r2;rw[r1] at r2;first | (cases r2;simp[eqD]) | cases r2
   |bl b2=>unfold Rep at r1 r2;rw[r1] at r2;first | (cases r2;simp[eqD]) | cases r2
   |int b2=>unfold Rep at r1 r2;rw[r1] at r2;first | (cases r2;simp[eqD]) | cases r2
   |str b2=>unfold Rep at r1 r2;rw[r1] at r2;first | (cases r2;simp[eqD]) | cases r2
   |tup es=>unfold Rep at r1 r2;obtain⟨p,vs,z,_⟩:=r2;rw[r1] at z;cases z
   |lst es=>unfold Rep at r1 r2;obtain⟨p,vs,z,_⟩:=r2;rw[r1] at z;cases z
  |str b1 =>
   cases e with
   |opq=>exact absurd hz2 (by rw[dpD_opq];omega)
   |dct ks0 vs0=>exact absurd hz2 (by rw[dpD_dct];omega)
   |non=>unfold Rep at r1 r2;rw[r1] at r2;first | (cases r2;simp[eqD]) | cases r2
   |bl b2=>unfold Rep at r1 r2;rw[r1] at r2;first | (cases r2;simp[eqD]) | cases r2
   |int b2=>unfold Rep at r1 r2;rw[r1] at r2;first | (cases r2;simp[eqD]) | cases r2
   |str b2=>unfold Rep at r1 r2;rw[r1] at r2;first | (cases r2;simp[eqD]) | cases r2
   |tup es=>unfold Rep at r1 r2;obtain⟨p,vs,z,_⟩:=r2;rw[r1] at z;cases z
   |lst es=>unfold Rep at r1 r2;obtain⟨p,vs,z,_⟩:=r2;rw[r1] at z;cases z
  |tup ds =>
   cases e with
   |opq=>exact absurd hz2 (by rw[dpD_opq];omega)
   |dct ks0 vs0=>exact absurd hz2 (by rw[dpD_dct];omega)
   |non=>unfold Rep at r1 r2;obtain⟨p,vs,z,_⟩:=r1;rw[r2] at z;cases z
   |bl b2=>unfold Rep at r1 r2;obtain⟨p,vs,z,_⟩:=r1;rw[r2] at z;cases z
   |int b2=>unfold Rep at r1 r2;obtain⟨p,vs,z,_⟩:=r1;rw[r2] at z;cases z
   |str b2=>unfold Rep at r1 r2;obtain⟨p,vs,z,_⟩:=r1;rw[r2] at z;cases z
   |tup es =>
    unfold Rep at r1 r2;obtain⟨p,vs,z,s1,q1⟩:=r1;obtain⟨p',vs',z',s2,q2⟩:=r2;rw[z] at z';cases z';have e:=I.tuple_inj s1 s2;subst e;cases n with
    |zero=>rw[dpD_tup] at hn;omega
    |succ n =>
     rw[dpD_tup] at hn;rw[eqD];exact eqDs_of q1 q2 fun j d e v h1 h2=>rep_one I n d e v (dpDs_le (by omega) h1) (by have z:=dpDs_le (n:=998) (by first | (rw[dpD_tup] at hz1;omega) | (rw[dpD_lst] at hz1;omega)) h1;omega) (by have z:=dpDs_le (n:=998) (by first | (rw[dpD_tup] at hz2;omega) | (rw[dpD_lst] at hz2;omega)) h2;omega)
   |lst es=>unfold Rep at r1 r2;obtain⟨p,vs,z,s1,_⟩:=r1;obtain⟨p',vs',z',s2,_⟩:=r2;rw[z] at z';cases z';exact (no_tl I s1 s2).elim
  |lst ds =>
   cases e with
   |opq=>exact absurd hz2 (by rw[dpD_opq];omega)
   |dct ks0 vs0=>exact absurd hz2 (by rw[dpD_dct];omega)
   |non=>unfold Rep at r1 r2;obtain⟨p,vs,z,_⟩:=r1;rw[r2] at z;cases z
   |bl b2=>unfold Rep at r1 r2;obtain⟨p,vs,z,_⟩:=r1;rw[r2] at z;cases z
   |int b2=>unfold Rep at r1 r2;obtain⟨p,vs,z,_⟩:=r1;rw[r2] at z;cases z
   |str b2=>unfold Rep at r1 r2;obtain⟨p,vs,z,_⟩:=r1;rw[r2] at z;cases z
   |tup es=>unfold Rep at r1 r2;obtain⟨p,vs,z,s1,_⟩:=r1;obtain⟨p',vs',z',s2,_⟩:=r2;rw[z] at z';cases z';exact (no_tl I s2 s1).elim
   |lst es =>
    unfold Rep at r1 r2;obtain⟨p,vs,z,s1,q1⟩:=r1;obtain⟨p',vs',z',s2,q2⟩:=r2;rw[z] at z';cases z';have e:=I.list_inj s1 s2;subst e;cases n with
    |zero=>rw[dpD_lst] at hn;omega
    |succ n =>
     rw[dpD_lst] at hn;rw[eqD];exact eqDs_of q1 q2 fun j d e v h1 h2=>rep_one I n d e v (dpDs_le (by omega) h1) (by have z:=dpDs_le (n:=998) (by first | (rw[dpD_tup] at hz1;omega) | (rw[dpD_lst] at hz1;omega)) h1;omega) (by have z:=dpDs_le (n:=998) (by first | (rw[dpD_tup] at hz2;omega) | (rw[dpD_lst] at hz2;omega)) h2;omega)
noncomputable def RcN (X:Cx) (H:Hp) (s:Shared) (n:Nat):Prop:=∀ (A:Around) (d e:D) (x y:V) (u v:Value),dpD d<=n->dpD d<1000->dpD e<1000->A.units+n<cLine->Rep X.K H d x->RelV x u->Rep X.K H e y->RelV y v->SeqAt.RcAt A s u v (eqD d e)
noncomputable def EqN (X:Cx) (H:Hp) (s:Shared) (n:Nat):Prop:=∀ (A:Around) (d e:D) (x y:V) (u v:Value),dpD d<=n->dpD d<1000->dpD e<1000->A.units+n<cLine->Rep X.K H d x->RelV x u->Rep X.K H e y->RelV y v->SeqAt.EqAt A s u v (eqD d e)
theorem eqN_of (I:Inv X pins σ H s) {n:Nat} (rc:RcN X H s n):EqN X H s n:=by
 intro A d e x y u v hn hz1 hz2 hA r1 w1 r2 w2;have hu:A.units<cLine:=by omega
 have key:=rc A d e x y u v hn hz1 hz2 hA r1 w1 r2 w2;have one:x=y->eqD d e=true:=fun z=>rep_one I _ d e x (Nat.le_refl _) hz1 hz2 r1 (z▸r2)
 cases d with
 |opq=>exact absurd hz1 (by rw[dpD_opq];omega)
 |dct ks0 vs0=>exact absurd hz1 (by rw[dpD_dct];omega)
 |non =>
  cases e with
  |opq=>exact absurd hz2 (by rw[dpD_opq];omega)
  |dct ks0 vs0=>exact absurd hz2 (by rw[dpD_dct];omega)
  |non=>unfold Rep at r1;subst r1;cases (show u=Value.none from w1);unfold Rep at r2;subst r2;cases (show v=Value.none from w2);exact SeqAt.EqAt.same _
  |bl b2=>unfold Rep at r1;subst r1;cases (show u=Value.none from w1);unfold Rep at r2;subst r2;cases (show v=Value.bool _ from w2);exact SeqAt.EqAt.none_bool _
  |int b2=>unfold Rep at r1;subst r1;cases (show u=Value.none from w1);unfold Rep at r2;subst r2;obtain⟨t2,z2⟩:=w2;subst z2;exact SeqAt.EqAt.none_int _ _
  |str b2=>unfold Rep at r1;subst r1;cases (show u=Value.none from w1);unfold Rep at r2;subst r2;obtain⟨t2,z2⟩:=w2;subst z2;exact SeqAt.EqAt.none_str _ _
  |tup es=>unfold Rep at r1;subst r1;cases (show u=Value.none from w1);unfold Rep at r2;obtain⟨p2,vs2,y2,s2,q2⟩:=r2;subst y2;cases (show v=Value.ref _ from w2);obtain⟨its2,rv2,tp2,_⟩:=I.tuple s2;exact SeqAt.EqAt.none_tuple tp2 hu
  |lst es=>unfold Rep at r1;subst r1;cases (show u=Value.none from w1);unfold Rep at r2;obtain⟨p2,vs2,y2,s2,q2⟩:=r2;subst y2;cases (show v=Value.ref _ from w2);obtain⟨its2,rv2,tp2,_⟩:=I.list s2;have tp2:=tp2.isList;exact SeqAt.EqAt.none_list tp2 hu
 |bl b1 =>
  cases e with
  |opq=>exact absurd hz2 (by rw[dpD_opq];omega)
  |dct ks0 vs0=>exact absurd hz2 (by rw[dpD_dct];omega)
  |non=>unfold Rep at r1;subst r1;cases (show u=Value.bool _ from w1);unfold Rep at r2;subst r2;cases (show v=Value.none from w2);exact SeqAt.EqAt.bool_none _
  |bl b2=>unfold Rep at r1;subst r1;cases (show u=Value.bool _ from w1);unfold Rep at r2;subst r2;cases (show v=Value.bool _ from w2);exact SeqAt.EqAt.bool_bool _ _
  |int b2=>unfold Rep at r1;subst r1;cases (show u=Value.bool _ from w1);unfold Rep at r2;subst r2;obtain⟨t2,z2⟩:=w2;subst z2;exact SeqAt.EqAt.bool_int _ _ _
  |str b2=>unfold Rep at r1;subst r1;cases (show u=Value.bool _ from w1);unfold Rep at r2;subst r2;obtain⟨t2,z2⟩:=w2;subst z2;exact SeqAt.EqAt.bool_str _ _ _
  |tup es=>unfold Rep at r1;subst r1;cases (show u=Value.bool _ from w1);unfold Rep at r2;obtain⟨p2,vs2,y2,s2,q2⟩:=r2;subst y2;cases (show v=Value.ref _ from w2);obtain⟨its2,rv2,tp2,_⟩:=I.tuple s2;exact SeqAt.EqAt.bool_tuple _ tp2 hu
  |lst es=>unfold Rep at r1;subst r1;cases (show u=Value.bool _ from w1);unfold Rep at r2;obtain⟨p2,vs2,y2,s2,q2⟩:=r2;subst y2;cases (show v=Value.ref _ from w2);obtain⟨its2,rv2,tp2,_⟩:=I.list s2;have tp2:=tp2.isList;exact SeqAt.EqAt.bool_list _ tp2 hu
 |int b1 =>
  cases e with
  |opq=>exact absurd hz2 (by rw[dpD_opq];omega)
  |dct ks0 vs0=>exact absurd hz2 (by rw[dpD_dct];omega)
  |non=>unfold Rep at r1;subst r1;obtain⟨t1,z1⟩:=w1;subst z1;unfold Rep at r2;subst r2;cases (show v=Value.none from w2);exact SeqAt.EqAt.int_none _ _
  |bl b2=>unfold Rep at r1;subst r1;obtain⟨t1,z1⟩:=w1;subst z1;unfold Rep at r2;subst r2;cases (show v=Value.bool _ from w2);exact SeqAt.EqAt.int_bool _ _ _
  |int b2=>unfold Rep at r1;subst r1;obtain⟨t1,z1⟩:=w1;subst z1;unfold Rep at r2;subst r2;obtain⟨t2,z2⟩:=w2;subst z2;exact SeqAt.EqAt.int_int _ _ _ _
  |str b2=>unfold Rep at r1;subst r1;obtain⟨t1,z1⟩:=w1;subst z1;unfold Rep at r2;subst r2;obtain⟨t2,z2⟩:=w2;subst z2;exact SeqAt.EqAt.int_str _ _ _ _
  |tup es=>unfold Rep at r1;subst r1;obtain⟨t1,z1⟩:=w1;subst z1;unfold Rep at r2;obtain⟨p2,vs2,y2,s2,q2⟩:=r2;subst y2;cases (show v=Value.ref _ from w2);obtain⟨its2,rv2,tp2,_⟩:=I.tuple s2;exact SeqAt.EqAt.int_tuple _ _ tp2 hu
  |lst es=>unfold Rep at r1;subst r1;obtain⟨t1,z1⟩:=w1;subst z1;unfold Rep at r2;obtain⟨p2,vs2,y2,s2,q2⟩:=r2;subst y2;cases (show v=Value.ref _ from w2);obtain⟨its2,rv2,tp2,_⟩:=I.list s2;have tp2:=tp2.isList;exact SeqAt.EqAt.int_list _ _ tp2 hu
 |str b1 =>
  cases e with
  |opq=>exact absurd hz2 (by rw[dpD_opq];omega)
  |dct ks0 vs0=>exact absurd hz2 (by rw[dpD_dct];omega)
  |non=>unfold Rep at r1;subst r1;obtain⟨t1,z1⟩:=w1;subst z1;unfold Rep at r2;subst r2;cases (show v=Value.none from w2);exact SeqAt.EqAt.str_none _ _
  |bl b2=>unfold Rep at r1;subst r1;obtain⟨t1,z1⟩:=w1;subst z1;unfold Rep at r2;subst r2;cases (show v=Value.bool _ from w2);exact SeqAt.EqAt.str_bool _ _ _
  |int b2=>unfold Rep at r1;subst r1;obtain⟨t1,z1⟩:=w1;subst z1;unfold Rep at r2;subst r2;obtain⟨t2,z2⟩:=w2;subst z2;exact SeqAt.EqAt.str_int _ _ _ _
  |str b2=>unfold Rep at r1;subst r1;obtain⟨t1,z1⟩:=w1;subst z1;unfold Rep at r2;subst r2;obtain⟨t2,z2⟩:=w2;subst z2;exact SeqAt.EqAt.str_str _ _ _ _
  |tup es=>unfold Rep at r1;subst r1;obtain⟨t1,z1⟩:=w1;subst z1;unfold Rep at r2;obtain⟨p2,vs2,y2,s2,q2⟩:=r2;subst y2;cases (show v=Value.ref _ from w2);obtain⟨its2,rv2,tp2,_⟩:=I.tuple s2;exact SeqAt.EqAt.str_tuple _ _ tp2 hu
  |lst es=>unfold Rep at r1;subst r1;obtain⟨t1,z1⟩:=w1;subst z1;unfold Rep at r2;obtain⟨p2,vs2,y2,s2,q2⟩:=r2;subst y2;cases (show v=Value.ref _ from w2);obtain⟨its2,rv2,tp2,_⟩:=I.list s2;have tp2:=tp2.isList;exact SeqAt.EqAt.str_list _ _ tp2 hu
 |tup ds =>
  cases e with
  |opq=>exact absurd hz2 (by rw[dpD_opq];omega)
  |dct ks0 vs0=>exact absurd hz2 (by rw[dpD_dct];omega)
  |non=>unfold Rep at r1;obtain⟨p1,vs1,y1,s1,q1⟩:=r1;subst y1;cases (show u=Value.ref _ from w1);obtain⟨its1,rv1,tp1,_⟩:=I.tuple s1;unfold Rep at r2;subst r2;cases (show v=Value.none from w2);exact SeqAt.EqAt.tuple_none tp1 hu
  |bl b2=>unfold Rep at r1;obtain⟨p1,vs1,y1,s1,q1⟩:=r1;subst y1;cases (show u=Value.ref _ from w1);obtain⟨its1,rv1,tp1,_⟩:=I.tuple s1;unfold Rep at r2;subst r2;cases (show v=Value.bool _ from w2);exact SeqAt.EqAt.tuple_bool _ tp1 hu
  |int b2=>unfold Rep at r1;obtain⟨p1,vs1,y1,s1,q1⟩:=r1;subst y1;cases (show u=Value.ref _ from w1);obtain⟨its1,rv1,tp1,_⟩:=I.tuple s1;unfold Rep at r2;subst r2;obtain⟨t2,z2⟩:=w2;subst z2;exact SeqAt.EqAt.tuple_int _ _ tp1 hu
  |str b2=>unfold Rep at r1;obtain⟨p1,vs1,y1,s1,q1⟩:=r1;subst y1;cases (show u=Value.ref _ from w1);obtain⟨its1,rv1,tp1,_⟩:=I.tuple s1;unfold Rep at r2;subst r2;obtain⟨t2,z2⟩:=w2;subst z2;exact SeqAt.EqAt.tuple_str _ _ tp1 hu
  |tup es =>
   unfold Rep at r1 r2;obtain⟨p1,vs1,y1,_⟩:=r1;obtain⟨p2,vs2,y2,_⟩:=r2;subst y1 y2;cases (show u=Value.ref _ from w1);cases (show v=Value.ref _ from w2)
   by_cases h:p1=p2
   ·rw[one (by rw[h]),h];exact SeqAt.EqAt.same _
   ·exact SeqAt.EqAt.of_refs h key
  |lst es=>unfold Rep at r1;obtain⟨p1,vs1,y1,s1,q1⟩:=r1;subst y1;cases (show u=Value.ref _ from w1);obtain⟨its1,rv1,tp1,_⟩:=I.tuple s1;unfold Rep at r2;obtain⟨p2,vs2,y2,s2,q2⟩:=r2;subst y2;cases (show v=Value.ref _ from w2);obtain⟨its2,rv2,tp2,_⟩:=I.list s2;have tp2:=tp2.isList;exact SeqAt.EqAt.tuple_list tp1 tp2 hu
 |lst ds =>
  cases e with
  |opq=>exact absurd hz2 (by rw[dpD_opq];omega)
  |dct ks0 vs0=>exact absurd hz2 (by rw[dpD_dct];omega)
  |non=>unfold Rep at r1;obtain⟨p1,vs1,y1,s1,q1⟩:=r1;subst y1;cases (show u=Value.ref _ from w1);obtain⟨its1,rv1,tp1,_⟩:=I.list s1;have tp1:=tp1.isList;unfold Rep at r2;subst r2;cases (show v=Value.none from w2);exact SeqAt.EqAt.list_none tp1 hu
  |bl b2=>unfold Rep at r1;obtain⟨p1,vs1,y1,s1,q1⟩:=r1;subst y1;cases (show u=Value.ref _ from w1);obtain⟨its1,rv1,tp1,_⟩:=I.list s1;have tp1:=tp1.isList;unfold Rep at r2;subst r2;cases (show v=Value.bool _ from w2);exact SeqAt.EqAt.list_bool _ tp1 hu
  |int b2=>unfold Rep at r1;obtain⟨p1,vs1,y1,s1,q1⟩:=r1;subst y1;cases (show u=Value.ref _ from w1);obtain⟨its1,rv1,tp1,_⟩:=I.list s1;have tp1:=tp1.isList;unfold Rep at r2;subst r2;obtain⟨t2,z2⟩:=w2;subst z2;exact SeqAt.EqAt.list_int _ _ tp1 hu
  |str b2=>unfold Rep at r1;obtain⟨p1,vs1,y1,s1,q1⟩:=r1;subst y1;cases (show u=Value.ref _ from w1);obtain⟨its1,rv1,tp1,_⟩:=I.list s1;have tp1:=tp1.isList;unfold Rep at r2;subst r2;obtain⟨t2,z2⟩:=w2;subst z2;exact SeqAt.EqAt.list_str _ _ tp1 hu
  |tup es=>unfold Rep at r1;obtain⟨p1,vs1,y1,s1,q1⟩:=r1;subst y1;cases (show u=Value.ref _ from w1);obtain⟨its1,rv1,tp1,_⟩:=I.list s1;have tp1:=tp1.isList;unfold Rep at r2;obtain⟨p2,vs2,y2,s2,q2⟩:=r2;subst y2;cases (show v=Value.ref _ from w2);obtain⟨its2,rv2,tp2,_⟩:=I.tuple s2;exact SeqAt.EqAt.list_tuple tp1 tp2 hu
  |lst es =>
   unfold Rep at r1 r2;obtain⟨p1,vs1,y1,_⟩:=r1;obtain⟨p2,vs2,y2,_⟩:=r2;subst y1 y2;cases (show u=Value.ref _ from w1);cases (show v=Value.ref _ from w2)
   by_cases h:p1=p2
   ·rw[one (by rw[h]),h];exact SeqAt.EqAt.same _
   ·exact SeqAt.EqAt.of_refs h key
theorem arr_get {its:List Value}{j:Nat} (h:j<its.toArray.size):its[j]?=some its.toArray[j]:=by
 have h':j<its.length:=by simpa using h
 simp[h']
theorem item_eq {A:Around}{n:Nat} (eqn:EqN X H s n) {ds es:List D}{vs vs':List V}{its its':List Value} (hn:dpDs ds<=n) (hz1:dpDs ds<1000) (hz2:dpDs es<1000) (hA:A.in1.units+n<cLine) (q1:Reps X.K H ds vs) (q2:Reps X.K H es vs') (rv:Vals vs its) (rv':Vals vs' its')
  (j:Nat) (h1:j<its.toArray.size) (h2:j<its'.toArray.size):SeqAt.EqAt A.in1 s its.toArray[j] its'.toArray[j] (eqD (ds.getD j .non) (es.getD j .non)):=by
 have l1:=q1.length;have l2:=q2.length;have m1:=rv.length;have m2:=rv'.length;have k1:j<ds.length:=by rw[List.size_toArray] at h1;omega
 have k2:j<es.length:=by rw[List.size_toArray] at h2;omega
 have e1:ds[j]?=some ds[j]:=by simp[k1]
 have e2:es[j]?=some es[j]:=by simp[k2]
 obtain⟨v,a1,a2⟩:=q1.get e1;obtain⟨v',b1,b2⟩:=q2.get e2;obtain⟨u,c1,c2⟩:=rv.get a1;obtain⟨u',d1,d2⟩:=rv'.get b1;rw[arr_get h1] at c1;rw[arr_get h2] at d1;have g1:ds.getD j .non=ds[j]:=by simp[List.getD,k1]
 have g2:es.getD j .non=es[j]:=by simp[List.getD,k2]
 rw[g1,g2,Option.some.inj c1,Option.some.inj d1];exact eqn A.in1 ds[j] es[j] v v' u u' (dpDs_le hn e1) (by have z:=dpDs_le (n:=999) (by omega) e1;omega) (by have z:=dpDs_le (n:=999) (by omega) e2;omega) hA a2 c2 b2 d2
theorem rcS (I:Inv X pins σ H s) (n:Nat) (ih:∀ m,m<n->EqN X H s m):RcN X H s n:=by
  intro A d e x y u v hn hz1 hz2 hA r1 w1 r2 w2;have hu:A.units<cLine:=by omega
  cases d with
  |opq=>exact absurd hz1 (by rw[dpD_opq];omega)
  |dct ks0 vs0=>exact absurd hz1 (by rw[dpD_dct];omega)
  |non =>
   cases e with
   |opq=>exact absurd hz2 (by rw[dpD_opq];omega)
   |dct ks0 vs0=>exact absurd hz2 (by rw[dpD_dct];omega)
   |non=>unfold Rep at r1;subst r1;cases (show u=Value.none from w1);unfold Rep at r2;subst r2;cases (show v=Value.none from w2);exact SeqAt.RcAt.none_none
   |bl b2=>unfold Rep at r1;subst r1;cases (show u=Value.none from w1);unfold Rep at r2;subst r2;cases (show v=Value.bool _ from w2);exact SeqAt.RcAt.none_bool _
   |int b2=>unfold Rep at r1;subst r1;cases (show u=Value.none from w1);unfold Rep at r2;subst r2;obtain⟨t2,z2⟩:=w2;subst z2;exact SeqAt.RcAt.none_int _ _
   |str b2=>unfold Rep at r1;subst r1;cases (show u=Value.none from w1);unfold Rep at r2;subst r2;obtain⟨t2,z2⟩:=w2;subst z2;exact SeqAt.RcAt.none_str _ _
   |tup es=>unfold Rep at r1;subst r1;cases (show u=Value.none from w1);unfold Rep at r2;obtain⟨p2,vs2,y2,s2,q2⟩:=r2;subst y2;cases (show v=Value.ref _ from w2);obtain⟨its2,rv2,tp2,_⟩:=I.tuple s2;exact SeqAt.RcAt.none_tuple tp2 hu
   |lst es=>unfold Rep at r1;subst r1;cases (show u=Value.none from w1);unfold Rep at r2;obtain⟨p2,vs2,y2,s2,q2⟩:=r2;subst y2;cases (show v=Value.ref _ from w2);obtain⟨its2,rv2,tp2,_⟩:=I.list s2;have tp2:=tp2.isList;exact SeqAt.RcAt.none_list tp2 hu
  |bl b1 =>
   cases e with
   |opq=>exact absurd hz2 (by rw[dpD_opq];omega)
   |dct ks0 vs0=>exact absurd hz2 (by rw[dpD_dct];omega)
   |non=>unfold Rep at r1;subst r1;cases (show u=Value.bool _ from w1);unfold Rep at r2;subst r2;cases (show v=Value.none from w2);exact SeqAt.RcAt.bool_none _
   |bl b2=>unfold Rep at r1;subst r1;cases (show u=Value.bool _ from w1);unfold Rep at r2;subst r2;cases (show v=Value.bool _ from w2);exact SeqAt.RcAt.bool_bool _ _
   |int b2=>unfold Rep at r1;subst r1;cases (show u=Value.bool _ from w1);unfold Rep at r2;subst r2;obtain⟨t2,z2⟩:=w2;subst z2;exact SeqAt.RcAt.bool_int _ _ _
   |str b2=>unfold Rep at r1;subst r1;cases (show u=Value.bool _ from w1);unfold Rep at r2;subst r2;obtain⟨t2,z2⟩:=w2;subst z2;exact SeqAt.RcAt.bool_str _ _ _
   |tup es=>unfold Rep at r1;subst r1;cases (show u=Value.bool _ from w1);unfold Rep at r2;obtain⟨p2,vs2,y2,s2,q2⟩:=r2;subst y2;cases (show v=Value.ref _ from w2);obtain⟨its2,rv2,tp2,_⟩:=I.tuple s2;exact SeqAt.RcAt.bool_tuple _ tp2 hu
   |lst es=>unfold Rep at r1;subst r1;cases (show u=Value.bool _ from w1);unfold Rep at r2;obtain⟨p2,vs2,y2,s2,q2⟩:=r2;subst y2;cases (show v=Value.ref _ from w2);obtain⟨its2,rv2,tp2,_⟩:=I.list s2;have tp2:=tp2.isList;exact SeqAt.RcAt.bool_list _ tp2 hu
  |int b1 =>
   cases e with
   |opq=>exact absurd hz2 (by rw[dpD_opq];omega)
   |dct ks0 vs0=>exact absurd hz2 (by rw[dpD_dct];omega)
   |non=>unfold Rep at r1;subst r1;obtain⟨t1,z1⟩:=w1;subst z1;unfold Rep at r2;subst r2;cases (show v=Value.none from w2);exact SeqAt.RcAt.int_none _ _
   |bl b2=>unfold Rep at r1;subst r1;obtain⟨t1,z1⟩:=w1;subst z1;unfold Rep at r2;subst r2;cases (show v=Value.bool _ from w2);exact SeqAt.RcAt.int_bool _ _ _
   |int b2=>unfold Rep at r1;subst r1;obtain⟨t1,z1⟩:=w1;subst z1;unfold Rep at r2;subst r2;obtain⟨t2,z2⟩:=w2;subst z2;exact SeqAt.RcAt.int_int _ _ _ _
   |str b2=>unfold Rep at r1;subst r1;obtain⟨t1,z1⟩:=w1;subst z1;unfold Rep at r2;subst r2;obtain⟨t2,z2⟩:=w2;subst z2;exact SeqAt.RcAt.int_str _ _ _ _
   |tup es=>unfold Rep at r1;subst r1;obtain⟨t1,z1⟩:=w1;subst z1;unfold Rep at r2;obtain⟨p2,vs2,y2,s2,q2⟩:=r2;subst y2;cases (show v=Value.ref _ from w2);obtain⟨its2,rv2,tp2,_⟩:=I.tuple s2;exact SeqAt.RcAt.int_tuple _ _ tp2 hu
   |lst es=>unfold Rep at r1;subst r1;obtain⟨t1,z1⟩:=w1;subst z1;unfold Rep at r2;obtain⟨p2,vs2,y2,s2,q2⟩:=r2;subst y2;cases (show v=Value.ref _ from w2);obtain⟨its2,rv2,tp2,_⟩:=I.list s2;have tp2:=tp2.isList;exact SeqAt.RcAt.int_list _ _ tp2 hu
  |str b1 =>
   cases e with
   |opq=>exact absurd hz2 (by rw[dpD_opq];omega)
   |dct ks0 vs0=>exact absurd hz2 (by rw[dpD_dct];omega)
   |non=>unfold Rep at r1;subst r1;obtain⟨t1,z1⟩:=w1;subst z1;unfold Rep at r2;subst r2;cases (show v=Value.none from w2);exact SeqAt.RcAt.str_none _ _
   |bl b2=>unfold Rep at r1;subst r1;obtain⟨t1,z1⟩:=w1;subst z1;unfold Rep at r2;subst r2;cases (show v=Value.bool _ from w2);exact SeqAt.RcAt.str_bool _ _ _
   |int b2=>unfold Rep at r1;subst r1;obtain⟨t1,z1⟩:=w1;subst z1;unfold Rep at r2;subst r2;obtain⟨t2,z2⟩:=w2;subst z2;exact SeqAt.RcAt.str_int _ _ _ _
   |str b2=>unfold Rep at r1;subst r1;obtain⟨t1,z1⟩:=w1;subst z1;unfold Rep at r2;subst r2;obtain⟨t2,z2⟩:=w2;subst z2;exact SeqAt.RcAt.str_str _ _ _ _
   |tup es=>unfold Rep at r1;subst r1;obtain⟨t1,z1⟩:=w1;subst z1;unfold Rep at r2;obtain⟨p2,vs2,y2,s2,q2⟩:=r2;subst y2;cases (show v=Value.ref _ from w2);obtain⟨its2,rv2,tp2,_⟩:=I.tuple s2;exact SeqAt.RcAt.str_tuple _ _ tp2 hu
   |lst es=>unfold Rep at r1;subst r1;obtain⟨t1,z1⟩:=w1;subst z1;unfold Rep at r2;obtain⟨p2,vs2,y2,s2,q2⟩:=r2;subst y2;cases (show v=Value.ref _ from w2);obtain⟨its2,rv2,tp2,_⟩:=I.list s2;have tp2:=tp2.isList;exact SeqAt.RcAt.str_list _ _ tp2 hu
  |tup ds =>
   cases e with
   |opq=>exact absurd hz2 (by rw[dpD_opq];omega)
   |dct ks0 vs0=>exact absurd hz2 (by rw[dpD_dct];omega)
   |non=>unfold Rep at r1;obtain⟨p1,vs1,y1,s1,q1⟩:=r1;subst y1;cases (show u=Value.ref _ from w1);obtain⟨its1,rv1,tp1,_⟩:=I.tuple s1;unfold Rep at r2;subst r2;cases (show v=Value.none from w2);exact SeqAt.RcAt.tuple_none tp1 hu
   |bl b2=>unfold Rep at r1;obtain⟨p1,vs1,y1,s1,q1⟩:=r1;subst y1;cases (show u=Value.ref _ from w1);obtain⟨its1,rv1,tp1,_⟩:=I.tuple s1;unfold Rep at r2;subst r2;cases (show v=Value.bool _ from w2);exact SeqAt.RcAt.tuple_bool _ tp1 hu
   |int b2=>unfold Rep at r1;obtain⟨p1,vs1,y1,s1,q1⟩:=r1;subst y1;cases (show u=Value.ref _ from w1);obtain⟨its1,rv1,tp1,_⟩:=I.tuple s1;unfold Rep at r2;subst r2;obtain⟨t2,z2⟩:=w2;subst z2;exact SeqAt.RcAt.tuple_int _ _ tp1 hu
   |str b2=>unfold Rep at r1;obtain⟨p1,vs1,y1,s1,q1⟩:=r1;subst y1;cases (show u=Value.ref _ from w1);obtain⟨its1,rv1,tp1,_⟩:=I.tuple s1;unfold Rep at r2;subst r2;obtain⟨t2,z2⟩:=w2;subst z2;exact SeqAt.RcAt.tuple_str _ _ tp1 hu
   |tup es =>
     rw[dpD_tup] at hn;unfold Rep at r1;obtain⟨p1,vs1,y1,s1,q1⟩:=r1;subst y1;cases (show u=Value.ref _ from w1);obtain⟨its1,rv1,tp1,_⟩:=I.tuple s1;unfold Rep at r2;obtain⟨p2,vs2,y2,s2,q2⟩:=r2;subst y2;cases (show v=Value.ref _ from w2);obtain⟨its2,rv2,tp2,_⟩:=I.tuple s2;have hi:A.in1.units+(n-1)<cLine:=by show A.units+1+(n-1)<cLine;omega
     have z:=SeqAt.RcAt.tuples (e:=fun j=>eqD (ds.getD j .non) (es.getD j .non)) tp1 tp2 hu (item_eq (A:=A) (ih (n-1) (by omega)) (by omega) (by first | (rw[dpD_tup] at hz1;omega) | (rw[dpD_lst] at hz1;omega)) (by first | (rw[dpD_tup] at hz2;omega) | (rw[dpD_lst] at hz2;omega)) hi q1 q2 rv1 rv2)
     rw[List.size_toArray,List.size_toArray,<- rv1.length,<- rv2.length,<- q1.length,<- q2.length] at z;rw[eqD,eqDs_all];exact z
   |lst es=>unfold Rep at r1;obtain⟨p1,vs1,y1,s1,q1⟩:=r1;subst y1;cases (show u=Value.ref _ from w1);obtain⟨its1,rv1,tp1,_⟩:=I.tuple s1;unfold Rep at r2;obtain⟨p2,vs2,y2,s2,q2⟩:=r2;subst y2;cases (show v=Value.ref _ from w2);obtain⟨its2,rv2,tp2,_⟩:=I.list s2;have tp2:=tp2.isList;exact SeqAt.RcAt.tuple_list tp1 tp2 hu
  |lst ds =>
   cases e with
   |opq=>exact absurd hz2 (by rw[dpD_opq];omega)
   |dct ks0 vs0=>exact absurd hz2 (by rw[dpD_dct];omega)
   |non=>unfold Rep at r1;obtain⟨p1,vs1,y1,s1,q1⟩:=r1;subst y1;cases (show u=Value.ref _ from w1);obtain⟨its1,rv1,tp1,_⟩:=I.list s1;have tp1:=tp1.isList;unfold Rep at r2;subst r2;cases (show v=Value.none from w2);exact SeqAt.RcAt.list_none tp1 hu
   |bl b2=>unfold Rep at r1;obtain⟨p1,vs1,y1,s1,q1⟩:=r1;subst y1;cases (show u=Value.ref _ from w1);obtain⟨its1,rv1,tp1,_⟩:=I.list s1;have tp1:=tp1.isList;unfold Rep at r2;subst r2;cases (show v=Value.bool _ from w2);exact SeqAt.RcAt.list_bool _ tp1 hu
   |int b2=>unfold Rep at r1;obtain⟨p1,vs1,y1,s1,q1⟩:=r1;subst y1;cases (show u=Value.ref _ from w1);obtain⟨its1,rv1,tp1,_⟩:=I.list s1;have tp1:=tp1.isList;unfold Rep at r2;subst r2;obtain⟨t2,z2⟩:=w2;subst z2;exact SeqAt.RcAt.list_int _ _ tp1 hu
   |str b2=>unfold Rep at r1;obtain⟨p1,vs1,y1,s1,q1⟩:=r1;subst y1;cases (show u=Value.ref _ from w1);obtain⟨its1,rv1,tp1,_⟩:=I.list s1;have tp1:=tp1.isList;unfold Rep at r2;subst r2;obtain⟨t2,z2⟩:=w2;subst z2;exact SeqAt.RcAt.list_str _ _ tp1 hu
   |tup es=>unfold Rep at r1;obtain⟨p1,vs1,y1,s1,q1⟩:=r1;subst y1;cases (show u=Value.ref _ from w1);obtain⟨its1,rv1,tp1,_⟩:=I.list s1;have tp1:=tp1.isList;unfold Rep at r2;obtain⟨p2,vs2,y2,s2,q2⟩:=r2;subst y2;cases (show v=Value.ref _ from w2);obtain⟨its2,rv2,tp2,_⟩:=I.tuple s2;exact SeqAt.RcAt.list_tuple tp1 tp2 hu
   |lst es =>
     rw[dpD_lst] at hn;unfold Rep at r1;obtain⟨p1,vs1,y1,s1,q1⟩:=r1;subst y1;cases (show u=Value.ref _ from w1);obtain⟨its1,rv1,tp1,_⟩:=I.list s1;have tp1:=tp1.isList;unfold Rep at r2;obtain⟨p2,vs2,y2,s2,q2⟩:=r2;subst y2;cases (show v=Value.ref _ from w2);obtain⟨its2,rv2,tp2,_⟩:=I.list s2;have tp2:=tp2.isList;have hi:A.in1.units+(n-1)<cLine:=by show A.units+1+(n-1)<cLine;omega
     have l1:its1.toArray.size=ds.length:=by rw[List.size_toArray,<- rv1.length,<- q1.length]
     have l2:its2.toArray.size=es.length:=by rw[List.size_toArray,<- rv2.length,<- q2.length]
     rw[eqD,eqDs_all]
     by_cases hl:ds.length=es.length
     ·have z:=SeqAt.RcAt.lists (e:=fun j=>eqD (ds.getD j .non) (es.getD j .non)) tp1 tp2 (by rw[l1,l2];exact hl) hu (item_eq (A:=A) (ih (n-1) (by omega)) (by omega) (by first | (rw[dpD_tup] at hz1;omega) | (rw[dpD_lst] at hz1;omega)) (by first | (rw[dpD_tup] at hz2;omega) | (rw[dpD_lst] at hz2;omega)) hi q1 q2 rv1 rv2)
      rw[l1] at z;rw[show min ds.length es.length=ds.length by omega,show (ds.length==es.length)=true by simp[hl],Bool.and_true]
      exact z
     ·rw[show (ds.length==es.length)=false by simp[hl],Bool.and_false]
      exact SeqAt.RcAt.lists_lengths tp1 tp2 (by rw[l1,l2];simp[hl]) hu
theorem eqNall (I:Inv X pins σ H s) (n:Nat):EqN X H s n:=by
 induction n using Nat.strongRecOn with
 |ind n ih=>exact eqN_of I (rcS I n ih)
theorem rcN (I:Inv X pins σ H s) (n:Nat):RcN X H s n:=rcS I n fun m _=>eqNall I m
noncomputable def rEqD (K:PySem.W.Frag):R2:=fun x y H Q=>∃ d e,Rep K H d x/\Rep K H e y/\dpD d<=30/\dpD e<=30/\Q (.bl (eqD d e)) H
theorem op_eqD (hu:X.A.units+64<cLine):OpR X (compareOp .Eq) (rEqD X.K):=by
 intro pins s σ H x y v u Q I rx ry h;obtain⟨d,e,r1,r2,hd,hd2,q⟩:=h;exact rcN I 30 X.A d e x y v u hd (by omega) (by omega) (by omega) r1 rx r2 ry X.prog X.w X.xe _ ⟨.bl _,H,I,rfl,q⟩
theorem eqOpD {K:PySem.W.Frag}:OpD K (rEqD K) dEq:=fun c H0 H ρ σ x y d vx vy Q R r1 r2 e q=>by
 unfold dEq at e
 split at e
 ·rename_i hd
  cases e;exact⟨x,y,Rep.mono R.same x r1,Rep.mono R.same y r2,hd.1,hd.2,q _ H0 H (Same.refl _) R (rep_bl _ _)⟩
 ·cases e
theorem cEq (hu:X.A.units+64<cLine):CmpOk X .Eq dEq:=⟨_,op_eqD hu,eqOpD⟩
theorem neN (I:Inv X pins σ H s) (n:Nat) (A:Around) (d e:D) (x y:V) (u v:Value) (hn:dpD d<=n) (hz1:dpD d<1000) (hz2:dpD e<1000) (hA:A.units+n<cLine) (r1:Rep X.K H d x) (w1:RelV x u) (r2:Rep X.K H e y) (w2:RelV y v):SeqAt.RcNeAt A s u v (!eqD d e):=by
  have hu:A.units<cLine:=by omega
  cases d with
  |opq=>exact absurd hz1 (by rw[dpD_opq];omega)
  |dct ks0 vs0=>exact absurd hz1 (by rw[dpD_dct];omega)
  |non =>
   cases e with
   |opq=>exact absurd hz2 (by rw[dpD_opq];omega)
   |dct ks0 vs0=>exact absurd hz2 (by rw[dpD_dct];omega)
   |non=>unfold Rep at r1;subst r1;cases (show u=Value.none from w1);unfold Rep at r2;subst r2;cases (show v=Value.none from w2);exact SeqAt.RcNeAt.none_none
   |bl b2=>unfold Rep at r1;subst r1;cases (show u=Value.none from w1);unfold Rep at r2;subst r2;cases (show v=Value.bool _ from w2);exact SeqAt.RcNeAt.none_bool _
   |int b2=>unfold Rep at r1;subst r1;cases (show u=Value.none from w1);unfold Rep at r2;subst r2;obtain⟨t2,z2⟩:=w2;subst z2;exact SeqAt.RcNeAt.none_int _ _
   |str b2=>unfold Rep at r1;subst r1;cases (show u=Value.none from w1);unfold Rep at r2;subst r2;obtain⟨t2,z2⟩:=w2;subst z2;exact SeqAt.RcNeAt.none_str _ _
   |tup es=>unfold Rep at r1;subst r1;cases (show u=Value.none from w1);unfold Rep at r2;obtain⟨p2,vs2,y2,s2,q2⟩:=r2;subst y2;cases (show v=Value.ref _ from w2);obtain⟨its2,rv2,tp2,_⟩:=I.tuple s2;exact SeqAt.RcNeAt.none_tuple tp2 hu
   |lst es=>unfold Rep at r1;subst r1;cases (show u=Value.none from w1);unfold Rep at r2;obtain⟨p2,vs2,y2,s2,q2⟩:=r2;subst y2;cases (show v=Value.ref _ from w2);obtain⟨its2,rv2,tp2,_⟩:=I.list s2;have tp2:=tp2.isList;exact SeqAt.RcNeAt.none_list tp2 hu
  |bl b1 =>
   cases e with
   |opq=>exact absurd hz2 (by rw[dpD_opq];omega)
   |dct ks0 vs0=>exact absurd hz2 (by rw[dpD_dct];omega)
   |non=>unfold Rep at r1;subst r1;cases (show u=Value.bool _ from w1);unfold Rep at r2;subst r2;cases (show v=Value.none from w2);exact SeqAt.RcNeAt.bool_none _
   |bl b2=>unfold Rep at r1;subst r1;cases (show u=Value.bool _ from w1);unfold Rep at r2;subst r2;cases (show v=Value.bool _ from w2);exact SeqAt.RcNeAt.bool_bool _ _
   |int b2=>unfold Rep at r1;subst r1;cases (show u=Value.bool _ from w1);unfold Rep at r2;subst r2;obtain⟨t2,z2⟩:=w2;subst z2;exact SeqAt.RcNeAt.bool_int _ _ _
   |str b2=>unfold Rep at r1;subst r1;cases (show u=Value.bool _ from w1);unfold Rep at r2;subst r2;obtain⟨t2,z2⟩:=w2;subst z2;exact SeqAt.RcNeAt.bool_str _ _ _
   |tup es=>unfold Rep at r1;subst r1;cases (show u=Value.bool _ from w1);unfold Rep at r2;obtain⟨p2,vs2,y2,s2,q2⟩:=r2;subst y2;cases (show v=Value.ref _ from w2);obtain⟨its2,rv2,tp2,_⟩:=I.tuple s2;exact SeqAt.RcNeAt.bool_tuple _ tp2 hu
   |lst es=>unfold Rep at r1;subst r1;cases (show u=Value.bool _ from w1);unfold Rep at r2;obtain⟨p2,vs2,y2,s2,q2⟩:=r2;subst y2;cases (show v=Value.ref _ from w2);obtain⟨its2,rv2,tp2,_⟩:=I.list s2;have tp2:=tp2.isList;exact SeqAt.RcNeAt.bool_list _ tp2 hu
  |int b1 =>
   cases e with
   |opq=>exact absurd hz2 (by rw[dpD_opq];omega)
   |dct ks0 vs0=>exact absurd hz2 (by rw[dpD_dct];omega)
   |non=>unfold Rep at r1;subst r1;obtain⟨t1,z1⟩:=w1;subst z1;unfold Rep at r2;subst r2;cases (show v=Value.none from w2);exact SeqAt.RcNeAt.int_none _ _
   |bl b2=>unfold Rep at r1;subst r1;obtain⟨t1,z1⟩:=w1;subst z1;unfold Rep at r2;subst r2;cases (show v=Value.bool _ from w2);exact SeqAt.RcNeAt.int_bool _ _ _
   |int b2=>unfold Rep at r1;subst r1;obtain⟨t1,z1⟩:=w1;subst z1;unfold Rep at r2;subst r2;obtain⟨t2,z2⟩:=w2;subst z2;exact SeqAt.RcNeAt.int_int _ _ _ _
   |str b2=>unfold Rep at r1;subst r1;obtain⟨t1,z1⟩:=w1;subst z1;unfold Rep at r2;subst r2;obtain⟨t2,z2⟩:=w2;subst z2;exact SeqAt.RcNeAt.int_str _ _ _ _
   |tup es=>unfold Rep at r1;subst r1;obtain⟨t1,z1⟩:=w1;subst z1;unfold Rep at r2;obtain⟨p2,vs2,y2,s2,q2⟩:=r2;subst y2;cases (show v=Value.ref _ from w2);obtain⟨its2,rv2,tp2,_⟩:=I.tuple s2;exact SeqAt.RcNeAt.int_tuple _ _ tp2 hu
   |lst es=>unfold Rep at r1;subst r1;obtain⟨t1,z1⟩:=w1;subst z1;unfold Rep at r2;obtain⟨p2,vs2,y2,s2,q2⟩:=r2;subst y2;cases (show v=Value.ref _ from w2);obtain⟨its2,rv2,tp2,_⟩:=I.list s2;have tp2:=tp2.isList;exact SeqAt.RcNeAt.int_list _ _ tp2 hu
  |str b1 =>
   cases e with
   |opq=>exact absurd hz2 (by rw[dpD_opq];omega)
   |dct ks0 vs0=>exact absurd hz2 (by rw[dpD_dct];omega)
   |non=>unfold Rep at r1;subst r1;obtain⟨t1,z1⟩:=w1;subst z1;unfold Rep at r2;subst r2;cases (show v=Value.none from w2);exact SeqAt.RcNeAt.str_none _ _
   |bl b2=>unfold Rep at r1;subst r1;obtain⟨t1,z1⟩:=w1;subst z1;unfold Rep at r2;subst r2;cases (show v=Value.bool _ from w2);exact SeqAt.RcNeAt.str_bool _ _ _
   |int b2=>unfold Rep at r1;subst r1;obtain⟨t1,z1⟩:=w1;subst z1;unfold Rep at r2;subst r2;obtain⟨t2,z2⟩:=w2;subst z2;exact SeqAt.RcNeAt.str_int _ _ _ _
   |str b2=>unfold Rep at r1;subst r1;obtain⟨t1,z1⟩:=w1;subst z1;unfold Rep at r2;subst r2;obtain⟨t2,z2⟩:=w2;subst z2;exact SeqAt.RcNeAt.str_str _ _ _ _
   |tup es=>unfold Rep at r1;subst r1;obtain⟨t1,z1⟩:=w1;subst z1;unfold Rep at r2;obtain⟨p2,vs2,y2,s2,q2⟩:=r2;subst y2;cases (show v=Value.ref _ from w2);obtain⟨its2,rv2,tp2,_⟩:=I.tuple s2;exact SeqAt.RcNeAt.str_tuple _ _ tp2 hu
   |lst es=>unfold Rep at r1;subst r1;obtain⟨t1,z1⟩:=w1;subst z1;unfold Rep at r2;obtain⟨p2,vs2,y2,s2,q2⟩:=r2;subst y2;cases (show v=Value.ref _ from w2);obtain⟨its2,rv2,tp2,_⟩:=I.list s2;have tp2:=tp2.isList;exact SeqAt.RcNeAt.str_list _ _ tp2 hu
  |tup ds =>
   cases e with
   |opq=>exact absurd hz2 (by rw[dpD_opq];omega)
   |dct ks0 vs0=>exact absurd hz2 (by rw[dpD_dct];omega)
   |non=>unfold Rep at r1;obtain⟨p1,vs1,y1,s1,q1⟩:=r1;subst y1;cases (show u=Value.ref _ from w1);obtain⟨its1,rv1,tp1,_⟩:=I.tuple s1;unfold Rep at r2;subst r2;cases (show v=Value.none from w2);exact SeqAt.RcNeAt.tuple_none tp1 hu
   |bl b2=>unfold Rep at r1;obtain⟨p1,vs1,y1,s1,q1⟩:=r1;subst y1;cases (show u=Value.ref _ from w1);obtain⟨its1,rv1,tp1,_⟩:=I.tuple s1;unfold Rep at r2;subst r2;cases (show v=Value.bool _ from w2);exact SeqAt.RcNeAt.tuple_bool _ tp1 hu
   |int b2=>unfold Rep at r1;obtain⟨p1,vs1,y1,s1,q1⟩:=r1;subst y1;cases (show u=Value.ref _ from w1);obtain⟨its1,rv1,tp1,_⟩:=I.tuple s1;unfold Rep at r2;subst r2;obtain⟨t2,z2⟩:=w2;subst z2;exact SeqAt.RcNeAt.tuple_int _ _ tp1 hu
   |str b2=>unfold Rep at r1;obtain⟨p1,vs1,y1,s1,q1⟩:=r1;subst y1;cases (show u=Value.ref _ from w1);obtain⟨its1,rv1,tp1,_⟩:=I.tuple s1;unfold Rep at r2;subst r2;obtain⟨t2,z2⟩:=w2;subst z2;exact SeqAt.RcNeAt.tuple_str _ _ tp1 hu
   |tup es =>
     rw[dpD_tup] at hn;unfold Rep at r1;obtain⟨p1,vs1,y1,s1,q1⟩:=r1;subst y1;cases (show u=Value.ref _ from w1);obtain⟨its1,rv1,tp1,_⟩:=I.tuple s1;unfold Rep at r2;obtain⟨p2,vs2,y2,s2,q2⟩:=r2;subst y2;cases (show v=Value.ref _ from w2);obtain⟨its2,rv2,tp2,_⟩:=I.tuple s2;have hi:A.in1.units+(n-1)<cLine:=by show A.units+1+(n-1)<cLine;omega
     have z:=SeqAt.RcNeAt.tuples (e:=fun j=>eqD (ds.getD j .non) (es.getD j .non)) tp1 tp2 hu (item_eq (A:=A) (eqNall I (n-1)) (by omega) (by first | (rw[dpD_tup] at hz1;omega) | (rw[dpD_lst] at hz1;omega)) (by first | (rw[dpD_tup] at hz2;omega) | (rw[dpD_lst] at hz2;omega)) hi q1 q2 rv1 rv2)
     rw[List.size_toArray,List.size_toArray,<- rv1.length,<- rv2.length,<- q1.length,<- q2.length] at z;rw[eqD,eqDs_all];exact z
   |lst es=>unfold Rep at r1;obtain⟨p1,vs1,y1,s1,q1⟩:=r1;subst y1;cases (show u=Value.ref _ from w1);obtain⟨its1,rv1,tp1,_⟩:=I.tuple s1;unfold Rep at r2;obtain⟨p2,vs2,y2,s2,q2⟩:=r2;subst y2;cases (show v=Value.ref _ from w2);obtain⟨its2,rv2,tp2,_⟩:=I.list s2;have tp2:=tp2.isList;exact SeqAt.RcNeAt.tuple_list tp1 tp2 hu
  |lst ds =>
   cases e with
   |opq=>exact absurd hz2 (by rw[dpD_opq];omega)
   |dct ks0 vs0=>exact absurd hz2 (by rw[dpD_dct];omega)
   |non=>unfold Rep at r1;obtain⟨p1,vs1,y1,s1,q1⟩:=r1;subst y1;cases (show u=Value.ref _ from w1);obtain⟨its1,rv1,tp1,_⟩:=I.list s1;have tp1:=tp1.isList;unfold Rep at r2;subst r2;cases (show v=Value.none from w2);exact SeqAt.RcNeAt.list_none tp1 hu
   |bl b2=>unfold Rep at r1;obtain⟨p1,vs1,y1,s1,q1⟩:=r1;subst y1;cases (show u=Value.ref _ from w1);obtain⟨its1,rv1,tp1,_⟩:=I.list s1;have tp1:=tp1.isList;unfold Rep at r2;subst r2;cases (show v=Value.bool _ from w2);exact SeqAt.RcNeAt.list_bool _ tp1 hu
   |int b2=>unfold Rep at r1;obtain⟨p1,vs1,y1,s1,q1⟩:=r1;subst y1;cases (show u=Value.ref _ from w1);obtain⟨its1,rv1,tp1,_⟩:=I.list s1;have tp1:=tp1.isList;unfold Rep at r2;subst r2;obtain⟨t2,z2⟩:=w2;subst z2;exact SeqAt.RcNeAt.list_int _ _ tp1 hu
   |str b2=>unfold Rep at r1;obtain⟨p1,vs1,y1,s1,q1⟩:=r1;subst y1;cases (show u=Value.ref _ from w1);obtain⟨its1,rv1,tp1,_⟩:=I.list s1;have tp1:=tp1.isList;unfold Rep at r2;subst r2;obtain⟨t2,z2⟩:=w2;subst z2;exact SeqAt.RcNeAt.list_str _ _ tp1 hu
   |tup es=>unfold Rep at r1;obtain⟨p1,vs1,y1,s1,q1⟩:=r1;subst y1;cases (show u=Value.ref _ from w1);obtain⟨its1,rv1,tp1,_⟩:=I.list s1;have tp1:=tp1.isList;unfold Rep at r2;obtain⟨p2,vs2,y2,s2,q2⟩:=r2;subst y2;cases (show v=Value.ref _ from w2);obtain⟨its2,rv2,tp2,_⟩:=I.tuple s2;exact SeqAt.RcNeAt.list_tuple tp1 tp2 hu
   |lst es =>
     rw[dpD_lst] at hn;unfold Rep at r1;obtain⟨p1,vs1,y1,s1,q1⟩:=r1;subst y1;cases (show u=Value.ref _ from w1);obtain⟨its1,rv1,tp1,_⟩:=I.list s1;have tp1:=tp1.isList;unfold Rep at r2;obtain⟨p2,vs2,y2,s2,q2⟩:=r2;subst y2;cases (show v=Value.ref _ from w2);obtain⟨its2,rv2,tp2,_⟩:=I.list s2;have tp2:=tp2.isList;have hi:A.in1.units+(n-1)<cLine:=by show A.units+1+(n-1)<cLine;omega
     have l1:its1.toArray.size=ds.length:=by rw[List.size_toArray,<- rv1.length,<- q1.length]
     have l2:its2.toArray.size=es.length:=by rw[List.size_toArray,<- rv2.length,<- q2.length]
     rw[eqD,eqDs_all]
     by_cases hl:ds.length=es.length
     ·have z:=SeqAt.RcNeAt.lists (e:=fun j=>eqD (ds.getD j .non) (es.getD j .non)) tp1 tp2 (by rw[l1,l2];exact hl) hu (item_eq (A:=A) (eqNall I (n-1)) (by omega) (by first | (rw[dpD_tup] at hz1;omega) | (rw[dpD_lst] at hz1;omega)) (by first | (rw[dpD_tup] at hz2;omega) | (rw[dpD_lst] at hz2;omega)) hi q1 q2 rv1 rv2)
      rw[l1] at z;rw[show min ds.length es.length=ds.length by omega,show (ds.length==es.length)=true by simp[hl],Bool.and_true]
      exact z
     ·rw[show (ds.length==es.length)=false by simp[hl],Bool.and_false]
      exact SeqAt.RcNeAt.lists_lengths tp1 tp2 (by rw[l1,l2];simp[hl]) hu
noncomputable def rNeD (K:PySem.W.Frag):R2:=fun x y H Q=>∃ d e,Rep K H d x/\Rep K H e y/\dpD d<=30/\dpD e<=30/\Q (.bl (!eqD d e)) H
theorem op_neD (hu:X.A.units+64<cLine):OpR X (compareOp .NotEq) (rNeD X.K):=by
 intro pins s σ H x y v u Q I rx ry h;obtain⟨d,e,r1,r2,hd,hd2,q⟩:=h;exact neN I 30 X.A d e x y v u hd (by omega) (by omega) (by omega) r1 rx r2 ry X.prog X.w X.xe _ ⟨.bl _,H,I,rfl,q⟩
theorem neOpD {K:PySem.W.Frag}:OpD K (rNeD K) dNe:=fun c H0 H ρ σ x y d vx vy Q R r1 r2 e q=>by
 unfold dNe at e
 split at e
 ·rename_i hd
  cases e;exact⟨x,y,Rep.mono R.same x r1,Rep.mono R.same y r2,hd.1,hd.2,q _ H0 H (Same.refl _) R (rep_bl _ _)⟩
 ·cases e
theorem cNe (hu:X.A.units+64<cLine):CmpOk X .NotEq dNe:=⟨_,op_neD hu,neOpD⟩
end
end Fx
set_option maxRecDepth 100000
namespace Fx
open PySem PySem.Spec PyProof.Rows L2
section
variable {X:Cx}
noncomputable def BOk (X:Cx) (f:Value) (g:List D->Option D):Prop:=∃ r,CallR X f r/\∀ (c:FC) (H0 H:Hp) (ρ:En) (σ:L2.St) (ds:List D) (d:D) (vs:List V) (Q:VK),RS X.K c H0 H ρ σ->Reps X.K H0 ds vs->g ds=some d->Aft X.K c H0 ρ σ d Q->r vs H Q
theorem eF_of {g:List D->Option D}{A:FA}{r:List V->Hp->VK->Prop} (o:∀ (c:FC) (H0 H:Hp) (ρ:En) (σ:L2.St) (ds:List D) (d:D) (vs:List V) (Q:VK),RS X.K c H0 H ρ σ->Reps X.K H0 ds vs->g ds=some d->Aft X.K c H0 ρ σ d Q->r vs H Q)
  {σ:L2.St}{H:Hp}{Q:VK} (h:tE X.K (eF g A) σ H Q):tCB r (tAa X.K A) σ H Q:=by
 obtain⟨c,H0,ρ,d,ρ',R,f,q⟩:=h;unfold eF at f;obtain⟨⟨ds,ρ1⟩,h1,f⟩:=bnd_eq f;obtain⟨d',h2,f⟩:=bnd_eq f;have f':some (d',ρ1)=some (d,ρ'):=f;cases f';exact⟨c,H0,ρ,ds,_,R,h1,fun vs H1 Hh s1 R1 r1=>o c H1 Hh _ σ ds d vs Q R1 r1 h2 fun v H2 Hh2 s2 R2 r2=>q v H2 Hh2 (s1.trans s2) R2 r2⟩
theorem xB {id:String}{g:List D → Option D}{A:FA}{x:Str}{p pos:Pos}{e:Expr}{es:List Expr} (o:BOk X (.builtin id) g) (hg:Gl X x) (hm:X.mg x=none) (hv:bootBuiltins x=some (.builtin id)) (ha:XA X (e::es) A) (hn:x≠"__name__":=by decide) (hdb:(x==("__debug__":Str))=false:=by decide)
  (he:starEach (e::es) X.env=(false,eval e X.env)::starEach es X.env:=by rfl) (hpl:(backTo pos (starEach es X.env)).any (·.1)=false:=by rfl):XE X (.Call (.Name x p) (e::es) [] pos) (eF g A):=by
 obtain⟨r,h1,h2⟩:=o;exact PE.wk (pe_callB h1 hg hm hv ha hn hdb he hpl) fun σ H Q h=>eF_of h2 h
theorem Reps.v1 {K:PySem.W.Frag}{H:Hp}{d:D}{vs:List V} (h:Reps K H [d] vs):∃ v,vs=[v]/\Rep K H d v:=by
 unfold Reps at h;obtain⟨v,r,e,a,b⟩:=h;unfold Reps at b;exact⟨v,by rw[e,b],a⟩
theorem Reps.v2 {K:PySem.W.Frag}{H:Hp}{d d':D}{vs:List V} (h:Reps K H [d,d'] vs):∃ v v',vs=[v,v']/\Rep K H d v/\Rep K H d' v':=by
 unfold Reps at h;obtain⟨v,r,e,a,b⟩:=h;obtain⟨v',e',b'⟩:=Reps.v1 b;exact⟨v,v',by rw[e,e'],a,b'⟩
theorem bAbs_inv {ds:List D}{d:D} (h:bAbs ds=some d):∃ i,ds=[.int i]/\d=.int (if i<0 then -i else i):=by
 unfold bAbs at h
 split at h
 ·cases h;exact⟨_,rfl,rfl⟩
 ·cases h
theorem callAbs:BOk X (.builtin "abs") bAbs:=⟨_,call_abs,fun c H0 H ρ σ ds d vs Q R r e q=>by
 obtain⟨i,rfl,rfl⟩:=bAbs_inv e;obtain⟨v,rfl,rv⟩:=Reps.v1 r;unfold Rep at rv;subst rv;exact⟨i,rfl,q _ H0 H (Same.refl _) R (rep_int _ _)⟩⟩
theorem CallR.or {X:Cx}{f:Value}{r r':List V->Hp->VK->Prop} (h:CallR X f r) (h':CallR X f r'):CallR X f (fun xs H Q=>r xs H Q\/r' xs H Q) :=
 fun pins s σ H xs us Q I v z=>z.elim (fun a=>h pins s σ H xs us Q I v a) (fun a=>h' pins s σ H xs us Q I v a)
theorem bools_rep {K:PySem.W.Frag}{H:Hp}:∀ {ds:List D}{bs:List Bool}{vs:List V},bools ds=some bs->Reps K H ds vs->vs=bs.map V.bl
 |[],_,_,e,r=>by
  have e':([]:List Bool)=_:=Option.some.inj e;unfold Reps at r;rw[r,<- e'];rfl
 |d::ds,_,_,e,r=>by
  cases d with
  |bl b =>
   rw[bools_cons] at e;obtain⟨bs,e1,e2⟩:=bnd_eq e;cases e2;unfold Reps at r;obtain⟨v,r',rfl,a,t⟩:=r;unfold Rep at a;rw[a,bools_rep e1 t];rfl
  |_=>cases e
theorem boolsAre_of:∀ {bs:List Bool}{us:List Value},Vals (bs.map V.bl) us->LSm.BoolsAre us bs:=by
 intro bs
 induction bs with
 |nil=>intro us h;cases h;exact .nil
 |cons b r ih =>
  intro us h;cases h with
  |cons a t=>cases (show _=Value.bool b from a);exact .cons b (ih t)
theorem call_anyD (hc:X.calm=true):CallR X (.builtin "any") (fun xs H Q=>∃ (p:Addr) (bs:List Bool),xs=[.ref p] ∧ SqL X.K H p (bs.map V.bl) ∧ Q (.bl (bs.any id)) H):=by
 intro pins s σ H xs us Q I r h;obtain⟨l,bs,rfl,hl,q⟩:=h;obtain⟨u,rfl,ru⟩:=vals1 r;cases ru;obtain⟨its,rv,pl,hz⟩:=I.list hl;have hb:=boolsAre_of rv;have hl:=pl.isList;have hlt:l<s.heap.objs.size:=by obtain⟨_,e,_⟩:=hl;exact Heap.lt_size e
 refine call_any_walk (wpAny_pyIter_list hl ?_);refine⟨s.heap.objs.size,[s.heap.objs.size,l],[s.heap.objs.size],its.toArray.size,_,_,fun i=>(bs[i]?).getD false,rfl,Walks.list (A:=X.A.in1) (I.ok.hd hc) _ l (Nat.ne_of_lt hlt) its.toArray,
  ⟨⟨_,Heap.get?_push_size _ rfl,rfl,rfl⟩,hl.push _⟩,fun i v s' Q' E' hP hQ=>?_,fun h' tk hk=>?_⟩
 ·obtain⟨b,e,rfl⟩:=hb.get i v (by simpa using hP)
  simp only[e,Option.getD_some] at hQ;exact wpAny_truthy_bool hQ
 ·have e:((List.range its.toArray.size).any fun i=>(bs[i]?).getD false)=bs.any id:=by
   rw[List.size_toArray,hb.length];exact LSm.range_any bs
  rw[e];exact⟨.bl _,H,I.kept (t':=tk) (LSm.kept_iter hk),rfl,q⟩
theorem callAnyO (hc:X.calm=true):BOk X (.builtin "any") bAny:=⟨_,call_anyD hc,fun c H0 H ρ σ ds d vs Q R r e q=>by
 unfold bAny at e
 split at e
 ·obtain⟨bs,e1,e2⟩:=bnd_eq e
  cases e2;obtain⟨v,rfl,rv⟩:=Reps.v1 r;unfold Rep at rv;obtain⟨p,ws,rfl,s,t⟩:=rv;have:=bools_rep e1 t;subst this;exact⟨p,bs,rfl,Same.seq R.same s,q _ H0 H (Same.refl _) R (rep_bl _ _)⟩
 ·cases e⟩
noncomputable def tyN:Ty->String
 |.int=>"int" | .bool=>"bool" | .str=>"str" | .tuple=>"tuple" | .list=>"list"
noncomputable def tyV (d:D):Value:=match d with
 |.non=>.type "NoneType" | .bl _=>.type "bool" | .int _=>.type "int" | .str _=>.type "str" | .tup _=>.type "tuple" | .lst _=>.type "list" | .opq=>.type "dict" | .dct _ _=>.type "dict"
theorem kit_eq (K:PySem.W.Frag) (t:Ty) (d:D):PySem.W.kitOne K (tyV d) (.type (tyN t))=some (isTy t d):=by
 cases t <;> cases d <;> rfl
theorem call_isi (t:Ty):CallR X (.builtin "isinstance") (fun xs H Q=>∃ d x,xs=[x,.ty (tyN t)] ∧ Rep X.K H d x ∧ Q (.bl (isTy t d)) H):=by
 intro pins s σ H xs us Q I r h;obtain⟨d,x,rfl,rx,q⟩:=h;obtain⟨u,w,rfl,ru,rw'⟩:=vals2 r;cases (show w=Value.type _ from rw');have k:=kit_eq X.K t d;have fin:∀ tk,EP X pins σ Q (.bool (isTy t d)) {s with toks:=tk}:=fun tk=>⟨.bl _,H,I.tok tk,rfl,q⟩
 cases d with
 |non=>unfold Rep at rx;subst rx;cases (show u=Value.none from ru);exact PySem.W.kia_one PySem.W.kitx_none I.kIn True.intro k (fun z=>nomatch z) fin
 |bl y=>unfold Rep at rx;subst rx;cases (show u=Value.bool y from ru);exact PySem.W.kia_one PySem.W.kitx_bool I.kIn True.intro k (fun z=>nomatch z) fin
 |int i=>unfold Rep at rx;subst rx;obtain⟨t,z⟩:=(show ∃ t,u=Value.int i t from ru);cases z;exact PySem.W.kia_one PySem.W.kitx_int I.kIn True.intro k (fun z=>nomatch z) fin
 |str y=>unfold Rep at rx;subst rx;obtain⟨t,z⟩:=(show ∃ t,u=Value.str y t from ru);cases z;exact PySem.W.kia_one PySem.W.kitx_str I.kIn True.intro k (fun z=>nomatch z) fin
 |tup ds =>
  unfold Rep at rx;obtain⟨a,vs,rfl,s1,_⟩:=rx;cases (show u=Value.ref a from ru);obtain⟨_,_,⟨o,h1,h2,_⟩,_⟩:=I.tuple s1;exact PySem.W.kia_one PySem.W.kitx_tuple I.kIn ⟨o,h1,h2⟩ k (fun z=>nomatch z) fin
 |dct ks ds =>
  unfold Rep at rx;obtain⟨a,ob,us,rfl,ea,_⟩:=rx;cases (show u=Value.ref a from ru);obtain⟨_,_,_,vs,_,pp⟩:=(show ObjOk X.prog X.w H s.heap a (.frz ob (.dK _)) from I.hok a _ ea);obtain⟨o,es,ep,h1,h2,_⟩:=pp;exact PySem.W.kia_one PySem.W.kitx_dict I.kIn ⟨o,h1,h2.1⟩ k (fun z=>nomatch z) fin
 |opq =>
  unfold Rep at rx;obtain⟨a,kvs,rfl,ea⟩:=rx;cases (show u=Value.ref a from ru);obtain⟨_,_,vs,_,pp⟩:=(show ObjOk X.prog X.w H s.heap a (.dK kvs) from I.hok a _ ea);obtain⟨o,es,ep,h1,h2,_⟩:=pp;exact PySem.W.kia_one PySem.W.kitx_dict I.kIn ⟨o,h1,h2.1⟩ k (fun z=>nomatch z) fin
 |lst ds =>
  unfold Rep at rx;obtain⟨a,vs,rfl,s1,_⟩:=rx;cases (show u=Value.ref a from ru);obtain⟨_,_,⟨o,n,h1,h2,_⟩,_⟩:=I.list s1;exact PySem.W.kia_one PySem.W.kitx_list I.kIn ⟨o,h1,h2⟩ k (fun z=>nomatch z) fin
theorem xty {t:Ty}{T:Str}{p p' pos:Pos}{e:Expr}{F:FE} (hi:X.mg "isinstance"=none) (hm:X.mg T=none) (hT:bootBuiltins T=some (.type (tyN t))) (ha:XE X e F) (hg:Gl X "isinstance":=by rfl) (hg':Gl X T:=by rfl)
  (hn:T≠"__name__":=by decide) (hd:(T==("__debug__":Str))=false:=by decide) (hs:starEach [e,.Name T p'] X.env=(false,eval e X.env)::starEach [.Name T p'] X.env:=by rfl) (hs':starEach [.Name T p'] X.env=[(false,eval (.Name T p') X.env)]:=by rfl)
  (hpl:(backTo pos (starEach [.Name T p'] X.env)).any (·.1)=false:=by rfl):XE X (.Call (.Name "isinstance" p) [e,.Name T p'] [] pos) (eTy t F) :=
 PE.wk (pe_callB (call_isi t) hg hi PyProof.Rows.boot_isinstance (pa_cons ha (pa_cons (pe_bltn (v:=.ty (tyN t)) hg' hm hT rfl hn hd) pa_nil hs') hs) (by decide) (by decide) hs hpl) fun σ H Q ⟨c,H0,ρ,d,ρ',R,f,q⟩=>by
  unfold eTy at f;obtain⟨⟨x,ρ1⟩,h1,f⟩:=bnd_eq f;have f':some (D.bl (isTy t x),ρ1)=some (d,ρ'):=f;cases f';exact⟨c,H0,ρ,x,_,R,h1,fun v H1 Hh s1 R1 r1=>⟨x,v,rfl,Rep.mono R1.same x r1,q _ H1 Hh s1 R1 (rep_bl _ _)⟩⟩
noncomputable def spP (K:PySem.W.Frag) (g:List D->Option D):Sp:=fun vs H Q _=>∃ Hi ds d,Same Hi H/\Reps K Hi ds vs/\g ds=some d/\∀ v Hi' H',Step Hi H Hi' H'->Rep K Hi' d v->Q v H'
structure DefOk (P:Program) (w:World) (K:PySem.W.Frag) (mg:Str->Option Value) (base:Heap) (k:Nat) (x:Str) (g:List D->Option D):Prop where
 ex:∃ f fd ps,FnOk P w K mg base CX0 k f fd ps (spP K g)/\Binds K fd ps []/\PySem.W.keepIn K (.ref f)=true/\mg x=some (.ref f)
theorem xF {k:Nat}{x:Str}{g:List D → Option D}{A:FA}{p pos:Pos}{e:Expr}{es:List Expr} (G:DefOk X.prog X.w X.K X.mg X.base k x g) (hr:Room k X.A) (ha:XA X (e::es) A) (hg:Gl X x:=by rfl) (hdb:(x==("__debug__":Str))=false:=by decide)
  (he:starEach (e::es) X.env=(false,eval e X.env)::starEach es X.env:=by rfl) (hpl:(backTo pos (starEach es X.env)).any (·.1)=false:=by rfl):XE X (.Call (.Name x p) (e::es) [] pos) (eF g A):=by
 obtain⟨f,fd,ps,F,hb,hk,hm⟩:=G.ex;refine PE.wk (pe_call F hr hg hm hk hb .nil pass0 ha hdb he hpl) fun σ H Q ⟨c,H0,ρ,d,ρ',R,z,q⟩=>?_
 unfold eF at z;obtain⟨⟨ds,ρ1⟩,h1,z⟩:=bnd_eq z;obtain⟨d',h2,z⟩:=bnd_eq z;have z':some (d',ρ1)=some (d,ρ'):=z;cases z';exact⟨c,H0,ρ,ds,_,R,h1,fun vs H1 Hh s1 R1 r1=>⟨H1,ds,d,R1.same,by rw[List.append_nil];exact r1,h2,fun v Hi' H' S rv=>q v Hi' H' (s1.trans S.s0) (R1.after S) rv⟩⟩
end
end Fx
set_option maxRecDepth 100000
namespace Fx
open PySem PySem.Spec PyProof.Rows L2
noncomputable def Yields (K:PySem.W.Frag) (J:It) (H1:Hp) (xs:List D):Prop:=∀ (H0 H:Hp) (i:Nat),Same H1 H0->Same H0 H ->
 (∀ d,xs[i]?=some d->J.go i H/\∀ x H',J.yld i H x H'->H'=H/\Rep K H0 d x)/\(xs.length<=i->J.stop i H)
theorem yields_list {K:PySem.W.Frag}{H1:Hp}{a:Addr}{vs:List V}{xs:List D} (rd:SqL K H1 a vs) (r:Reps K H1 xs vs):Yields K (Itl K a) H1 xs:=fun H0 H i s s'=>by
 have sq:SqL K H a vs:=Same.seq (s.trans s') rd;refine⟨fun d e=>?_,fun h=>⟨vs,sq,by rw[<- r.length];exact h⟩⟩
 obtain⟨v,e1,e2⟩:=r.get e;refine⟨⟨vs,v,sq,e1⟩,fun x H' ⟨h1,h2⟩=>⟨h1,?_⟩⟩
 have:=h2 vs sq;rw[e1] at this;cases this;exact Rep.mono s d e2
theorem yields_tup {K:PySem.W.Frag}{H1:Hp}{a:Addr}{vs:List V}{xs:List D} (rd:SqT K H1 a vs) (r:Reps K H1 xs vs):Yields K (Itt K a) H1 xs:=fun H0 H i s s'=>by
 have sq:SqT K H a vs:=Same.seqT (s.trans s') rd;refine⟨fun d e=>?_,fun h=>⟨vs,sq,by rw[<- r.length];exact h⟩⟩
 obtain⟨v,e1,e2⟩:=r.get e;refine⟨⟨vs,v,sq,e1⟩,fun x H' ⟨h1,h2⟩=>⟨h1,?_⟩⟩
 have:=h2 vs sq;rw[e1] at this;cases this;exact Rep.mono s d e2
theorem rngD_length:∀ (n:Nat) (lo:Int),(rngD lo n).length=n
 |0,_=>rfl
 |n+1,lo=>by show (rngD (lo+1) n).length+1=n+1;rw[rngD_length n]
theorem rngD_get:∀ (n:Nat) (lo:Int) (i:Nat) (d:D),(rngD lo n)[i]?=some d->d=.int (lo+i)/\i<n
 |0,lo,i,d,h=>by simp[rngD] at h
 |n+1,lo,0,d,h=>by
  simp[rngD] at h;exact⟨by rw[<- h];simp,by omega⟩
 |n+1,lo,i+1,d,h=>by
  have h':(rngD (lo+1) n)[i]?=some d:=by simpa [rngD] using h
  obtain⟨a,b⟩:=rngD_get n (lo+1) i d h';refine⟨by rw[a];congr 1;push_cast;omega,by omega⟩
theorem yields_rng {K:PySem.W.Frag}{H1:Hp} (lo:Int) (n:Nat):Yields K (Itr lo n) H1 (rngD lo n):=fun H0 H i s s'=>by
 refine⟨fun d e=>?_,fun h=>by rw[rngD_length] at h;exact h⟩
 obtain⟨rfl,hi⟩:=rngD_get n lo i d e;refine⟨hi,fun x H' ⟨h1,h2⟩=>⟨h1,?_⟩⟩
 unfold Rep;exact h2
noncomputable def Its (z:Str):It:=⟨fun i _=>i<z.cps.size,fun i H x H'=>H'=H/\∃ c,z.cps[i]?=some c/\x=.str (chS c),fun i _=>z.cps.size<=i⟩
theorem turn_str {P:Program}{w:World}{K:PySem.W.Frag}{tg:Expr}{n:String} (z:Str) (t:Tok) (it:Addr) (hn:["enumerate","zip","dict_itemiterator","dict_reverseitemiterator","odict_iterator","itertools.zip_longest","itertools.pairwise"].contains n=false)
  (W:∀ A:Around,A.handled=none->Walks P w A it [it] [it] z.cps.size (SignAt z) (fun i h=>h.IsStrIter it n z t i)) (fin:∀ (A:Around) (s:Shared) (i:Nat) (Q:Option Value->Shared->Prop) (E:Value->Shared->Prop),A.handled=none->s.heap.IsStrIter it n z t i->z.cps[i]?=none->(∀ h',Heap.ExtBut it s.heap h'->Q none {s with heap:=h'})->wpAny (model P w) A (pyNext (.ref it)) Q E s)
  (slf:∀ (A:Around) (i:Nat) (s:Shared) (Q:Value->Shared->Prop) (E:Value->Shared->Prop),s.heap.IsStrIter it n z t i->Q (.ref it) s->wpAny (model P w) A (pyIter (.ref it)) Q E s) :
  Turn P w K tg (Its z) [it] it (fun i h=>h.IsStrIter it n z t i) where
 mem:=by simp
 obj:=fun i h st b hb=>by
  have e:b=it:=by simpa using hb
  subst e;obtain⟨o,e,c,d⟩:=st;exact⟨o,e,fun v z=>by rw[d] at z;cases z⟩
 keep:=fun i h h' st k=>let ⟨o,e,r⟩:=st;⟨o,k it (by simp) o e,r⟩
 item:=by
  intro X hP hw hK hc i pins s σ H E I hf st hg;subst hP hw hK;obtain⟨f0,f1,f2,f3,f4,f5⟩:=hf it (by simp)
  refine (W X.A (I.ok.hd hc)).item i s _ _ hg st fun v h' tk hv st' kk=>?_
  obtain⟨ch,u,e1,rfl⟩:=hv;have I1:Inv X pins σ H {s with heap:=h',toks:=tk}:=I.turned (fun b o hb e=>kk b o (by simpa using hb) e) f0 f1 f3 f4 f5
  obtain⟨o,e,c,d⟩:=id st';exact⟨_,rfl,go_of (s:={s with heap:=h',toks:=tk}) e c d hn ⟨.str (chS ch),H,I1,⟨u,rfl⟩,⟨rfl,ch,e1,rfl⟩,st',fun b hb=>(hf b hb).1⟩⟩
 done:=by
  intro X hP hw hK hc i pins s σ H E I hf st hg;subst hP hw hK;obtain⟨f0,f1,f2,f3,f4,f5⟩:=hf it (by simp)
  have hg:z.cps.size<=i:=hg;exact fin X.A s i _ _ (I.ok.hd hc) st (by simp[hg]) fun h' eb=>⟨rfl,I.turned (t':=s.toks) (fun b o hb e=>eb b o hb e) f0 f1 f3 f4 f5⟩
 self:=fun A i s Q E st h=>slf A i s Q E st h
noncomputable def iStr (t:TE):TI:=fun σ H R=>t σ H fun x H1=>∃ z,x=.str z/\R (Its z) H1
noncomputable def iSq (K:PySem.W.Frag) (t:TE):TI:=fun σ H R=>iList K t σ H R\/iTup K t σ H R\/iStr t σ H R
theorem pi_str {X:Cx}{tg l:Expr}{tl:TE} (hl:PE X l tl):PI X tg l (iStr tl):=by
 intro pins s σ H R I h;refine thn (hl pins s σ H _ I h) fun v s1 ⟨x,H1,I1,r1,q1⟩=>?_
 obtain⟨z,e,q⟩:=q1;subst e;obtain⟨t,rfl⟩:=r1
 have fp:∀ (o:Obj),∀ b∈[s1.heap.objs.size],FpOk X pins H1 b:=fun o b hb=>by
  have e:b=s1.heap.objs.size:=by simpa using hb
  subst e;exact I1.fpOk (Nat.le_refl _) (I1.hok.fresh (Nat.le_refl _))
 cases ha:z.cps.all (·<128)
 ·refine wpAny_pyIter_wide ha ?_
  exact⟨s1.heap.objs.size,[s1.heap.objs.size],_,_,H1,rfl,I1.kept (t':=s1.toks) fun b o e=>Heap.get?_push_of_some _ e,turn_str (n:="str_iterator") z t _ (by decide) (fun A hA=>Walks.strWide hA _ z t) (fun A s i Q E hA st hx hQ=>wpAny_pyNext_wide_end hA st hx hQ) (fun _ _ _ _ _ st h=>wpAny_pyIter_striter_wide st h),⟨_,Heap.get?_push_size _ rfl,rfl,rfl⟩,fp {cls:=.none,data:=.fields #[]},q⟩
 ·refine wpAny_pyIter_ascii ha ?_
  exact⟨s1.heap.objs.size,[s1.heap.objs.size],_,_,H1,rfl,I1.kept (t':=s1.toks) fun b o e=>Heap.get?_push_of_some _ e,turn_str (n:="str_ascii_iterator") z t _ (by decide) (fun A hA=>Walks.strAscii hA _ z t) (fun A s i Q E hA st hx hQ=>wpAny_pyNext_ascii_end hA st hx hQ) (fun _ _ _ _ _ st h=>wpAny_pyIter_striter_ascii st h),⟨_,Heap.get?_push_size _ rfl,rfl,rfl⟩,fp {cls:=.none,data:=.fields #[]},q⟩
theorem yields_str {K:PySem.W.Frag}{H1:Hp} (z:Str):Yields K (Its z) H1 (chs z):=fun H0 H i s s'=>by
 have hl:(chs z).length=z.cps.size:=by unfold chs;rw[List.length_map,Array.length_toList]
 refine⟨fun d e=>?_,fun h=>by rw[hl] at h;exact h⟩
 have hi:i<z.cps.size:=by rw[<- hl];exact (List.getElem?_eq_some_iff.mp e).1
 refine⟨hi,fun x H' ⟨h1,ch,h2,h3⟩=>⟨h1,?_⟩⟩
 unfold chs at e;rw[List.getElem?_map,Array.getElem?_toList,h2] at e;have e':D.str (chS ch)=d:=Option.some.inj e;subst e';unfold Rep;exact h3
theorem pi_sq {X:Cx}{tg l:Expr}{tl:TE} (hl:PE X l tl):PI X tg l (iSq X.K tl):=fun pins s σ H R I h=>by
 rcases h with h | h | h
 ·exact pi_list hl pins s σ H R I h
 ·exact pi_tup hl pins s σ H R I h
 ·exact pi_str hl pins s σ H R I h
theorem walk_of_data {K:PySem.W.Frag}{F:FE}{σ:L2.St}{H:Hp}{R:It->Hp->Prop}{c:FC}{H0:Hp}{ρ ρ':En}{d:D}{xs:List D} (rs:RS K c H0 H ρ σ) (f:F ρ=some (d,ρ')) (hx:items d=some xs)
  (h:∀ J H1 Hh,Same H0 H1->RS K c H1 Hh ρ' σ->Yields K J H1 xs->R J Hh):iSq K (tE K F) σ H R:=by
 cases d with
 |lst ds =>
  have e:ds=xs:=Option.some.inj hx;subst e;refine .inl ⟨c,H0,ρ,_,ρ',rs,f,fun v H1 Hh s1 R1 r1=>?_⟩
  unfold Rep at r1;obtain⟨a,vs,rfl,rd,r⟩:=r1;exact⟨a,rfl,⟨vs,Same.seq R1.same rd⟩,h _ H1 Hh s1 R1 (yields_list rd r)⟩
 |tup ds =>
  have e:ds=xs:=Option.some.inj hx;subst e;refine .inr (.inl ⟨c,H0,ρ,_,ρ',rs,f,fun v H1 Hh s1 R1 r1=>?_⟩)
  unfold Rep at r1;obtain⟨a,vs,rfl,rd,r⟩:=r1;exact⟨a,rfl,⟨vs,Same.seqT R1.same rd⟩,h _ H1 Hh s1 R1 (yields_tup rd r)⟩
 |str z =>
  have e:chs z=xs:=Option.some.inj hx;subst e;refine .inr (.inr ⟨c,H0,ρ,_,ρ',rs,f,fun v H1 Hh s1 R1 r1=>?_⟩)
  unfold Rep at r1;exact⟨z,r1,h _ H1 Hh s1 R1 (yields_str z)⟩
 |_=>cases hx
theorem imAt_get {ρ:En}:∀ {js:List Nat}{fr:En},imAt ρ js=some fr->fr.length=js.length/\∀ (k:Nat) (s:Sl),fr[k]?=some s->∃ j d,js[k]?=some j/\ρ[j]?=some (.im d)/\s=.im d
 |[],_,h=>by
  have h':([]:En)=_:=Option.some.inj h;subst h';exact⟨rfl,fun k s e=>by simp at e⟩
 |j::js,_,h=>by
  rw[imAt_cons] at h;obtain⟨s,h1,h⟩:=bnd_eq h;obtain⟨r,h2,h⟩:=bnd_eq h;cases h;obtain⟨a,b⟩:=imAt_get h2;refine⟨by rw[List.length_cons,List.length_cons,a],fun k s' e=>?_⟩
  cases k with
  |zero =>
   simp at e;subst e;cases z:ρ[j]? with
   |none=>rw[z] at h1;cases h1
   |some sl =>
    rw[z] at h1;cases sl with
    |im d=>exact⟨j,d,rfl,z,(Option.some.inj h1).symm⟩
    |_=>cases h1
  |succ k =>
   obtain⟨j',d,x1,x2,x3⟩:=b k s' (by simpa using e)
   exact⟨j',d,by simpa using x1,x2,x3⟩
theorem RS.block {K:PySem.W.Frag}{c:FC}{H0 H:Hp}{ρ:En}{σ:L2.St}{js:List Nat}{fr:En}{d:D}{x:V} (R:RS K c H0 H ρ σ) (hf:imAt ρ js=some fr) (rx:Rep K H0 d x):RS K ⟨H0,H,[]⟩ H0 H (.im d::fr) (some x::frv σ js):=by
 obtain⟨l,g⟩:=imAt_get hf;refine⟨R.same,Same.refl _,fun b o e=>.inl e,fun b o e _=>e,fun a h=>(by cases h),?_,fun i d' e=>?_,fun i b o e=>?_,fun i j b b' o o' a e=>?_⟩
 ·rw[List.length_cons,List.length_cons,l,frv,List.length_map]
 ·cases i with
  |zero=>simp at e;subst e;exact⟨x,rfl,rx⟩
  |succ k =>
   obtain⟨j,d2,x1,x2,x3⟩:=g k _ (by simpa using e)
   cases x3;obtain⟨v,y1,y2⟩:=R.im j d' x2;refine⟨v,?_,y2⟩;show (frv σ js)[k]?=some (some v);unfold frv;rw[List.getElem?_map,x1];show some (σ[j]?).join=some (some v);rw[y1];rfl
 ·cases i with
  |zero=>simp at e
  |succ k =>
   obtain⟨j,d2,_,_,x3⟩:=g k _ (by simpa using e)
   cases x3
 ·cases i with
  |zero=>simp at e
  |succ k =>
   obtain⟨j,d2,_,_,x3⟩:=g k _ (by simpa using e)
   cases x3
theorem RS.step {K:PySem.W.Frag}{Hi He H0 H:Hp}{ρ:En}{σ:L2.St} (R:RS K ⟨Hi,He,[]⟩ H0 H ρ σ):Step Hi He H0 H :=
 ⟨R.init,fun b o e=>R.keep b o e (by simp),R.same,R.fresh⟩
theorem drop_of {α:Type}{xs:List α}{i:Nat}{d:α} (h:xs[i]?=some d):xs.drop i=d::xs.drop (i+1):=by
 obtain⟨hi,e⟩:=List.getElem?_eq_some_iff.mp h;rw[<- e];exact List.drop_eq_getElem_cons hi
theorem lc_of {K:PySem.W.Frag}{c:FC}{H1 Hh:Hp}{ρ:En}{σ:L2.St}{js:List Nat}{fr:En}{T:FT}{F:FE}{xs out:List D}{J:It}{Qf:List V->Hp->Prop} (R:RS K c H1 Hh ρ σ) (hf:imAt ρ js=some fr) (hc:cGo T F fr xs=some out) (hz:xs.length<=sizeLine) (hy:Yields K J H1 xs)
  (q:∀ ys H0 H,Same H1 H0->RS K c H0 H ρ σ->Reps K H0 out ys->Qf ys H):LcW js (tTt K T) (tE K F) σ Qf J Hh:=by
 refine⟨fun i m ys H=>m=xs.length-i/\i<=xs.length/\∃ H0,Same H1 H0/\RS K c H0 H ρ σ/\∃ pre rest,Reps K H0 pre ys/\pre.length<=i/\cGo T F fr (xs.drop i)=some rest/\pre++rest=out,⟨xs.length,by simp,Nat.zero_le _,H1,Same.refl _,R,[],out,Reps.nil_,Nat.zero_le _,by simpa using hc,rfl⟩,?_⟩
 rintro i m ys H ⟨rfl,hi,H0,s0,R0,pre,rest,rp,lp,hg,e⟩;obtain⟨y1,y2⟩:=hy H0 H i s0 R0.same
 by_cases hlt:i<xs.length
 ·have hd:xs[i]?=some xs[i]:=by simp[hlt]
  obtain⟨go,yl⟩:=y1 _ hd;refine .inr ⟨go,by rw[<- rp.length];omega,fun x H' hx=>?_⟩
  obtain⟨rfl,rx⟩:=yl x H' hx;rw[drop_of hd,cGo_cons] at hg;obtain⟨⟨b,ρb⟩,g1,hg⟩:=bnd_eq hg;dsimp only at hg;refine⟨⟨H0,H',[]⟩,H0,_,b,ρb,R0.block hf rx,g1,fun H2 Hh2 s2 R2=>?_⟩
  cases b with
  |false =>
   rw[if_neg Bool.false_ne_true] at hg ⊢;have S:=R2.step;exact⟨xs.length-(i+1),by omega,rfl,hlt,H2,s0.trans S.s0,R0.after S,pre,rest,Reps.mono S.s0 _ rp,by omega,hg,e⟩
  |true =>
   rw[if_pos rfl] at hg ⊢;obtain⟨⟨z,ρz⟩,g2,hg⟩:=bnd_eq hg;obtain⟨t,g3,hg⟩:=bnd_eq hg;dsimp only at hg;have hg':some (z::t)=some rest:=hg;cases hg';refine⟨⟨H0,H',[]⟩,H2,ρb,z,ρz,R2,g2,fun v H3 Hh3 s3 R3 r3=>?_⟩
   have S:=R3.step;refine⟨xs.length-(i+1),by omega,rfl,hlt,H3,s0.trans S.s0,R0.after S,pre++[z],t,(Reps.mono S.s0 _ rp).app (Reps.one r3),?_,g3,?_⟩
   ·rw[List.length_append,List.length_singleton];omega
   ·rw[List.append_assoc];exact e
 ·have ei:i=xs.length:=by omega
  have hn:xs.drop i=[]:=List.drop_eq_nil_of_le (by omega)
  rw[hn,cGo_nil] at hg;have hg':([]:List D)=rest:=Option.some.inj hg;subst hg';rw[List.append_nil] at e;subst e;exact .inl ⟨y2 (by omega),by rw[<- rp.length];omega,q ys H0 H s0 R0 rp⟩
noncomputable def XTs (X:Cx) (ifs:List Expr) (T:FT):Prop:=PTs X ifs (tTt X.K T)
theorem PTs.wk {X:Cx}{e:List Expr}{t t':TT} (h:PTs X e t) (w:∀ σ H Q,t' σ H Q->t σ H Q):PTs X e t':=fun pins s σ H Q I q=>h pins s σ H Q I (w σ H Q q)
theorem xts_nil {X:Cx}:XTs X [] Fx.tYes:=PTs.wk pts_nil fun σ H Q ⟨c,H0,ρ,b,ρ',R,f,q⟩=>by
 have f':some (true,ρ)=some (b,ρ'):=f;cases f';exact q H0 H (Same.refl _) R
theorem xts_one {X:Cx}{c:Expr}{T:FT} (h:XT X c T):XTs X [c] T:=pts_one h
section
variable {X:Cx}{scope sc:Scope}{x:Str}{frees:List Str}{js:List Nat}{px pos:Pos}{elt iter:Expr}{ifs:List Expr}{I F:FE}{T:FT}
theorem eLC_inv {ρ ρ':En}{d:D} (h:eLC js I T F ρ=some (d,ρ')):∃ z xs fr ys,I ρ=some (z,ρ')/\items z=some xs/\imAt ρ' js=some fr/\cGo T F fr xs=some ys/\xs.length<=sizeLine/\d=.lst ys:=by
 unfold eLC at h;obtain⟨⟨z,ρ1⟩,h1,h⟩:=bnd_eq h;obtain⟨xs,h2,h⟩:=bnd_eq h;obtain⟨fr,h3,h⟩:=bnd_eq h;obtain⟨ys,h4,h⟩:=bnd_eq h;dsimp only at h2 h3 h4 h
 split at h
 ·rename_i hz
  cases h;exact⟨z,xs,fr,ys,h1,h2,h3,h4,hz,rfl⟩
 ·cases h
theorem xlc (hc:X.calm=true) (hsc:X.env.scope=sc) (B:ScB X.N sc scope x frees js) (hi:XE X iter I) (ht:∀ s H C fp,XTs (cxB X (x::frees) scope s H C fp) ifs T) (he:∀ s H C fp,XE (cxB X (x::frees) scope s H C fp) elt F)
  (hs:∀ v,foldedSetIterable iter X.env v=pure v:=by intro _;rfl):XE X (.ListComp elt [⟨.Name x px,iter,ifs,0⟩] scope pos) (eLC js I T F) :=
 PE.wk (pe_lc (tt:=tTt X.K T) (te:=tE X.K F) hc hsc B (pi_sq hi) ht he hs) fun σ H Q ⟨c,H0,ρ,d,ρ',R,f,q⟩=>by
  obtain⟨z,xs,fr,ys,h1,h2,h3,h4,hz,rfl⟩:=eLC_inv f;refine walk_of_data R h1 h2 fun J H1 Hh s1 R1 hy=>?_
  refine lc_of R1 h3 h4 hz hy fun vs H2 Hh2 s2 R2 r2=>fun p hp=>?_
  have S:=Step.alloc (o:=.lst vs) R2.same hp;refine q _ _ _ (s1.trans (s2.trans S.s0)) (R2.after S) ?_;unfold Rep;exact⟨p,vs,rfl,.inl (.inl upd_same),Reps.mono S.s0 _ r2⟩
end
noncomputable def Post (K:PySem.W.Frag) (c:FC) (Dn:Ends) (H0:Hp):Res->Prop
 |.nx ρ'=>∀ σ' H0' H',Same H0 H0'->RS K c H0' H' ρ' σ'->Dn.nx σ' H'
 |.rt d ρ'=>∀ v σ' H0' H',Same H0 H0'->RS K c H0' H' ρ' σ'->Rep K H0' d v->Dn.rt v H'
 |.bk ρ'=>∀ σ' H0' H',Same H0 H0'->RS K c H0' H' ρ' σ'->Dn.bk σ' H'
 |.ct ρ'=>∀ σ' H0' H',Same H0 H0'->RS K c H0' H' ρ' σ'->Dn.ct σ' H'
noncomputable def tS (K:PySem.W.Frag) (F:FS):TS:=fun Dn σ H=>∃ c H0 ρ r,RS K c H0 H ρ σ/\F ρ=some r/\Post K c Dn H0 r
noncomputable def XS (X:Cx) (st:Stmt) (F:FS):Prop:=PS X st (tS X.K F)
noncomputable def XSs (X:Cx) (sts:List Stmt) (F:FS):Prop:=PSs X sts (tS X.K F)
theorem Post.mono {K:PySem.W.Frag}{c:FC}{Dn:Ends}{H0 H1:Hp} (s:Same H0 H1):∀ {r:Res},Post K c Dn H0 r->Post K c Dn H1 r
 |.nx _,h=>fun σ' H0' H' z=>h σ' H0' H' (s.trans z)
 |.rt _ _,h=>fun v σ' H0' H' z=>h v σ' H0' H' (s.trans z)
 |.bk _,h=>fun σ' H0' H' z=>h σ' H0' H' (s.trans z)
 |.ct _,h=>fun σ' H0' H' z=>h σ' H0' H' (s.trans z)
theorem RS.set {K:PySem.W.Frag}{c:FC}{H0 H:Hp}{ρ:En}{σ:L2.St}{d:D}{v:V} (R:RS K c H0 H ρ σ) (i:Nat) (r:Rep K H0 d v):RS K c H0 H (ρ.set i (.im d)) (σ.set i (some v)):=by
 have hl:=R.len;have other:∀ (j:Nat) (sl:Sl),j≠i->(ρ.set i (.im d))[j]?=some sl->ρ[j]?=some sl:=fun j sl hj e=>by rwa [List.getElem?_set_ne (Ne.symm hj)] at e
 have otherS:∀ (j:Nat),j≠i->(σ.set i (some v))[j]?=σ[j]?:=fun j hj=>List.getElem?_set_ne (Ne.symm hj)
 have same:∀ (sl:Sl),(ρ.set i (.im d))[i]?=some sl->sl=.im d/\i<ρ.length:=fun sl e=>by
  by_cases hi:i<ρ.length
  ·rw[List.getElem?_set_self hi] at e;exact⟨(Option.some.inj e).symm,hi⟩
  ·rw[List.getElem?_eq_none (by rw[List.length_set];omega)] at e;cases e
 refine⟨R.same,R.init,R.fresh,R.keep,R.apt,by rw[List.length_set,List.length_set,hl],fun j d' e=>?_,fun j bb o e=>?_,fun j k b1 b2 o o' a e1 e2 e3 e4=>?_⟩
 ·by_cases hj:j=i
  ·subst hj
   obtain⟨e',hi⟩:=same _ e;cases e';exact⟨v,by rw[List.getElem?_set_self (by omega)],r⟩
  ·rw[otherS j hj];exact R.im j d' (other j _ hj e)
 ·by_cases hj:j=i
  ·subst hj;obtain⟨e',_⟩:=same _ e;cases e'
  ·rw[otherS j hj];exact R.ow j bb o (other j _ hj e)
 ·by_cases hj:j=i
  ·subst hj;obtain⟨e',_⟩:=same _ e1;cases e'
  ·by_cases hk:k=i
   ·subst hk;obtain⟨e',_⟩:=same _ e2;cases e'
   ·rw[otherS j hj] at e3;rw[otherS k hk] at e4
    exact R.ne j k b1 b2 o o' a (other j _ hj e1) (other k _ hk e2) e3 e4
section
variable {X:Cx}{pos:Pos}{e:Expr}{F:FE}{T:FT}{A B:FS}
theorem xsN:XSs X [] sN:=PSs.wk pss_nil fun Dn σ H ⟨c,H0,ρ,r,R,f,q⟩=>by
 have f':some (Res.nx ρ)=some r:=f;cases f';exact q σ H0 H (Same.refl _) R
theorem xs1 {st:Stmt} (h:XS X st A):XSs X [st] A:=pss_one h
theorem xsC {st:Stmt}{rest:List Stmt} (h1:XS X st A) (h2:XSs X rest B):XSs X (st::rest) (sSeq A B):=PSs.wk (pss_cons h1 h2) fun Dn σ H ⟨c,H0,ρ,r,R,f,q⟩=>by
 unfold sSeq at f;obtain⟨z,h,f⟩:=bnd_eq f;refine⟨c,H0,ρ,z,R,h,?_⟩;cases z with
 |nx ρ1=>exact fun σ' H0' H' s R'=>⟨c,H0',ρ1,r,R',f,q.mono s⟩
 |rt d ρ1=>have f':some (Res.rt d ρ1)=some r:=f;cases f';exact q
 |bk ρ1=>have f':some (Res.bk ρ1)=some r:=f;cases f';exact q
 |ct ρ1=>have f':some (Res.ct ρ1)=some r:=f;cases f';exact q
theorem xset (i:Nat) {x:Str}{pos':Pos} (hN:X.N.Nodup) (he:XE X e F) (hi:X.N[i]?=some x:=by rfl) (hx:Loc X.env.scope x:=by first | exact Or.inl rfl | exact Or.inr rfl) (hs:swapsWith e (some (.Name x pos')) pos.line X.env=pure false:=by rfl)
  (hf:X.fn x=true\/X.env.scope.names.lookup x=some .local:=by first | exact .inl rfl | exact .inr rfl):XS X (.Assign [.Name x pos'] e pos) (sSet i F):=PS.wk (ps_set hN hi hx he hs hf) fun Dn σ H ⟨c,H0,ρ,r,R,f,q⟩=>by
 unfold sSet at f;obtain⟨⟨d,ρ1⟩,h1,f⟩:=bnd_eq f;have f':some (Res.nx (ρ1.set i (.im d)))=some r:=f;cases f';exact⟨c,H0,ρ,d,ρ1,R,h1,fun v H1 Hh s1 R1 r1=>q _ H1 Hh s1 (R1.set i r1)⟩
theorem xsetlc (i:Nat) {y x:Str}{py px spos:Pos}{scope sc:Scope}{frees:List Str}{js:List Nat}{elt iter:Expr}{ifs:List Expr}{I:FE} (hN:X.N.Nodup) (hc:X.calm=true) (hsc:X.env.scope=sc) (Bk:ScB X.N sc scope x frees js) (hi:XE X iter I)
  (ht:∀ s H C fp,XTs (cxB X (x::frees) scope s H C fp) ifs T) (he:∀ s H C fp,XE (cxB X (x::frees) scope s H C fp) elt F) (hi':X.N[i]?=some y:=by rfl) (hy:X.env.scope.names.lookup y=some .local:=by rfl)
  (hsw:swapsWith (.ListComp elt [⟨.Name x px,iter,ifs,0⟩] scope pos) (some (.Name y py)) spos.line X.env=pure true:=by rfl)
  (hs:∀ v,foldedSetIterable iter X.env v=pure v:=by intro _;rfl):XS X (.Assign [.Name y py] (.ListComp elt [⟨.Name x px,iter,ifs,0⟩] scope pos) spos) (sSet i (eLC js I T F)) :=
 PS.wk (ps_setLC (tt:=tTt X.K T) (te:=tE X.K F) hN hi' hy hc hsc Bk (pi_sq hi) ht he hsw hs) fun Dn σ H ⟨c,H0,ρ,r,R,f,q⟩=>by
  unfold sSet at f;obtain⟨⟨d,ρ1⟩,h1,f⟩:=bnd_eq f;have f':some (Res.nx (ρ1.set i (.im d)))=some r:=f;cases f';obtain⟨z,xs,fr,ys,h0,h2,h3,h4,hz,rfl⟩:=eLC_inv h1;refine walk_of_data R h0 h2 fun J H1 Hh s1 R1 hy=>?_
  refine lc_of R1 h3 h4 hz hy fun vs H2 Hh2 s2 R2 r2=>fun p hp=>?_
  have S:=Step.alloc (o:=.lst vs) R2.same hp;refine q _ _ _ (s1.trans (s2.trans S.s0)) ((R2.after S).set i ?_);unfold Rep;exact⟨p,vs,rfl,.inl (.inl upd_same),Reps.mono S.s0 _ r2⟩
theorem xsif {c:Expr}{a b:List Stmt} (hc:XT X c T) (ha:XSs X a A) (hb:XSs X b B):XS X (.If c a b pos) (sIf T A B):=PS.wk (ps_if hc ha hb) fun Dn σ H ⟨c,H0,ρ,r,R,f,q⟩=>by
 unfold sIf at f;obtain⟨⟨k,ρ1⟩,h1,f⟩:=bnd_eq f;dsimp only at f;refine⟨c,H0,ρ,k,ρ1,R,h1,fun H1 Hh s1 R1=>?_⟩
 cases k with
 |true =>
  rw[if_pos rfl] at f ⊢;exact⟨c,H1,ρ1,r,R1,f,q.mono s1⟩
 |false =>
  rw[if_neg Bool.false_ne_true] at f ⊢;exact⟨c,H1,ρ1,r,R1,f,q.mono s1⟩
theorem xret (he:XE X e F):XS X (.Return (some e) pos) (sRet F):=PS.wk (ps_ret he) fun Dn σ H ⟨c,H0,ρ,r,R,f,q⟩=>by
 unfold sRet at f;obtain⟨⟨d,ρ1⟩,h1,f⟩:=bnd_eq f;have f':some (Res.rt d ρ1)=some r:=f;cases f';exact⟨c,H0,ρ,d,ρ1,R,h1,fun v H1 Hh s1 R1 r1=>q v σ H1 Hh s1 R1 r1⟩
noncomputable abbrev GD:=D->En->Option En
noncomputable def tG (K:PySem.W.Frag) (g:GD):TG:=fun v σ H Q=>∃ c H0 ρ d ρ',RS K c H0 H ρ σ/\Rep K H0 d v/\g d ρ=some ρ'/\∀ σ' H0' H',Same H0 H0'->RS K c H0' H' ρ' σ'->Q σ' H'
noncomputable def XG (X:Cx) (tg:Expr) (g:GD):Prop:=PG X tg (tG X.K g)
theorem xgN (i:Nat) {x:Str} (hN:X.N.Nodup) (hi:X.N[i]?=some x:=by rfl) (hx:Loc X.env.scope x:=by first | exact Or.inl rfl | exact Or.inr rfl) (hf:X.fn x=true\/X.env.scope.names.lookup x=some .local:=by first | exact .inl rfl | exact .inr rfl):XG X (.Name x pos) (gN i) :=
 fun pins s σ H v u Q I rv ⟨c,H0,ρ,d,ρ',R,r,f,q⟩=>pg_name hN hi hx hf pins s σ H v u Q I rv (by
  have f':some (ρ.set i (.im d))=some ρ':=f;cases f';exact q _ H0 H (Same.refl _) (R.set i r))
theorem for_of {K:PySem.W.Frag}{c:FC}{H1 Hh:Hp}{ρ:En}{σ:L2.St}{g:GD}{B:FS}{xs:List D}{J:It}{Dn:Ends}{r:Res} (R:RS K c H1 Hh ρ σ) (hf:fGo g B xs ρ=some r) (hy:Yields K J H1 xs) (q:Post K c Dn H1 r) :
  ∃ W:Nat->Nat->L2.St->Hp->Prop,(∃ m,W 0 m σ Hh)/\∀ i m σ H,W i m σ H ->
   (J.stop i H/\Dn.nx σ H)\/(J.go i H/\∃ N:L2.St->Hp->Prop,(∀ σ' H',N σ' H'->∃ m',m'<m/\W (i+1) m' σ' H')/\∀ x H',J.yld i H x H'->tG K g x σ H' fun σ2 H2=>tS K B {Dn with nx:=N,ct:=N,bk:=Dn.nx} σ2 H2):=by
 refine⟨fun i m σ H=>m=xs.length-i/\i<=xs.length/\∃ H0 ρ,Same H1 H0/\RS K c H0 H ρ σ/\fGo g B (xs.drop i) ρ=some r,⟨xs.length,by simp,Nat.zero_le _,H1,ρ,Same.refl _,R,by simpa using hf⟩,?_⟩
 rintro i m σ H ⟨rfl,hi,H0,ρ,s0,R0,hg⟩;obtain⟨y1,y2⟩:=hy H0 H i s0 R0.same
 by_cases hlt:i<xs.length
 ·have hd:xs[i]?=some xs[i]:=by simp[hlt]
  obtain⟨go,yl⟩:=y1 _ hd;refine .inr ⟨go,fun σ' H'=>∃ m',m'<xs.length-i/\m'=xs.length-(i+1)/\i+1<=xs.length/\∃ H0 ρ,Same H1 H0/\RS K c H0 H' ρ σ'/\fGo g B (xs.drop (i+1)) ρ=some r,fun σ' H' ⟨m',a,b⟩=>⟨m',a,b⟩,fun x H' hx=>?_⟩
  obtain⟨rfl,rx⟩:=yl x H' hx;rw[drop_of hd,fGo_cons] at hg;obtain⟨ρ1,g1,hg⟩:=bnd_eq hg;obtain⟨z,g2,hg⟩:=bnd_eq hg;refine⟨c,H0,ρ,_,ρ1,R0,rx,g1,fun σ1 H2 Hh2 s2 R2=>⟨c,H2,ρ1,z,R2,g2,?_⟩⟩
  cases z with
  |nx ρ2=>exact fun σ' H3 Hh3 s3 R3=>⟨_,by omega,rfl,hlt,H3,ρ2,s0.trans (s2.trans s3),R3,hg⟩
  |ct ρ2=>exact fun σ' H3 Hh3 s3 R3=>⟨_,by omega,rfl,hlt,H3,ρ2,s0.trans (s2.trans s3),R3,hg⟩
  |bk ρ2 =>
   have hg':some (Res.nx ρ2)=some r:=hg;cases hg';exact fun σ' H3 Hh3 s3 R3=>q σ' H3 Hh3 (s0.trans (s2.trans s3)) R3
  |rt d ρ2 =>
   have hg':some (Res.rt d ρ2)=some r:=hg;cases hg';exact fun v σ' H3 Hh3 s3 R3 r3=>q v σ' H3 Hh3 (s0.trans (s2.trans s3)) R3 r3
 ·have hn:xs.drop i=[]:=List.drop_eq_nil_of_le (by omega)
  rw[hn,fGo_nil] at hg;have hg':some (Res.nx ρ)=some r:=hg;cases hg';exact .inl ⟨y2 (by omega),q σ H0 H s0 R0⟩
theorem xfor {tg iter:Expr}{body:List Stmt}{g:GD} (hg:XG X tg g) (hi:XE X iter F) (hb:XSs X body B) (hp:PassesOwn (model X.prog X.w) X.A X.env X.xe:=by exact PassesOwn.never) (hc:X.calm=true:=by rfl) (hs:∀ x,foldedSetIterable iter X.env x=pure x:=by intro _;rfl) :
  XS X (.For tg iter body [] pos) (sFor g F B):=PS.wk (ps_for hp hc (pi_sq hi) hg hb hs) fun Dn σ H ⟨c,H0,ρ,r,R,f,q⟩=>by
 unfold sFor at f;obtain⟨⟨d,ρ1⟩,h1,f⟩:=bnd_eq f;obtain⟨xs,h2,f⟩:=bnd_eq f;exact walk_of_data R h1 h2 fun J H1 Hh s1 R1 hy=>for_of R1 f hy (q.mono s1)
theorem xforR1 {tg a:Expr}{body:List Stmt}{g:GD}{p pos':Pos} (hm:X.mg "range"=none) (hg:XG X tg g) (ha:XE X a F) (hb:XSs X body B) (hgl:Gl X "range":=by rfl) (hp:PassesOwn (model X.prog X.w) X.A X.env X.xe:=by exact PassesOwn.never) (hc:X.calm=true:=by rfl)
  (hst:starEach [a] X.env=[(false,eval a X.env)]:=by rfl) (hs:∀ x,foldedSetIterable (.Call (.Name "range" p) [a] [] pos') X.env x=pure x:=by intro _;rfl) :
  XS X (.For tg (.Call (.Name "range" p) [a] [] pos') body [] pos) (sForR g (rng1 F) B):=PS.wk (ps_for hp hc (pi_range1 hgl hm (pa_cons ha pa_nil hst) hst) hg hb hs) fun Dn σ H ⟨c,H0,ρ,r,R,f,q⟩=>by
 unfold sForR rng1 at f;obtain⟨⟨xs,ρ1⟩,h1,f⟩:=bnd_eq f;obtain⟨⟨d,ρ2⟩,h2,h1⟩:=bnd_eq h1;obtain⟨j,h3,h1⟩:=bnd_eq h1;dsimp only at h1 h3 f
 split at h1
 ·rename_i hj
  cases h1;refine⟨c,H0,ρ,d,_,R,h2,fun v H1 Hh s1 R1 r1=>?_⟩
  cases d with
  |int k =>
   have e:k=j:=Option.some.inj h3;subst e;unfold Rep at r1;subst r1;exact⟨k,rfl,hj.1,hj.2,for_of R1 f (yields_rng 0 k.toNat) (q.mono s1)⟩
  |_=>cases h3
 ·cases h1
theorem xwhile {c:Expr}{body:List Stmt}{fuel:En->Nat} (hc:XT X c T) (hb:XSs X body B) (hp:PassesOwn (model X.prog X.w) X.A X.env X.xe:=by exact PassesOwn.never):XS X (.While c body [] pos) (sWhile fuel T B):=PS.wk (ps_while hp hc hb) fun Dn σ H ⟨c,H0,ρ,r,R,f,q⟩=>by
 refine⟨fun m σ H=>∃ H1 ρ,Same H0 H1/\RS X.K c H1 H ρ σ/\wGo T B m ρ=some r,⟨fuel ρ,H0,ρ,Same.refl _,R,f⟩,?_⟩
 rintro m σ1 Hh ⟨H1,ρ1,s1,R1,hw⟩;cases m with
 |zero=>cases hw
 |succ m =>
  rw[wGo_succ] at hw;obtain⟨⟨b,ρ2⟩,h1,hw⟩:=bnd_eq hw;dsimp only at hw;refine⟨c,H1,ρ1,b,ρ2,R1,h1,fun H2 Hh2 s2 R2=>?_⟩
  cases b with
  |false =>
   rw[if_neg Bool.false_ne_true] at hw ⊢;have hw':some (Res.nx ρ2)=some r:=hw;cases hw';exact q σ1 H2 Hh2 (s1.trans s2) R2
  |true =>
   rw[if_pos rfl] at hw ⊢;obtain⟨z,h2,hw⟩:=bnd_eq hw;refine⟨fun σ' H'=>∃ m',m'<m+1/\∃ H1 ρ,Same H0 H1/\RS X.K c H1 H' ρ σ'/\wGo T B m' ρ=some r,fun σ' H' h=>h,⟨c,H2,ρ2,z,R2,h2,?_⟩⟩
   cases z with
   |nx ρ3=>exact fun σ' H3 Hh3 s3 R3=>⟨m,by omega,H3,ρ3,s1.trans (s2.trans s3),R3,hw⟩
   |ct ρ3=>exact fun σ' H3 Hh3 s3 R3=>⟨m,by omega,H3,ρ3,s1.trans (s2.trans s3),R3,hw⟩
   |bk ρ3 =>
    have hw':some (Res.nx ρ3)=some r:=hw;cases hw';exact fun σ' H3 Hh3 s3 R3=>q σ' H3 Hh3 (s1.trans (s2.trans s3)) R3
   |rt d ρ3 =>
    have hw':some (Res.rt d ρ3)=some r:=hw;cases hw';exact fun v σ' H3 Hh3 s3 R3 r3=>q v σ' H3 Hh3 (s1.trans (s2.trans s3)) R3 r3
end
theorem RS.start {K:PySem.W.Frag}{Hi H:Hp}{ds:List D}{vs:List V}{m n:Nat} (s:Same Hi H) (r:Reps K Hi ds vs) (hn:n-vs.length=m):RS K ⟨Hi,H,[]⟩ Hi H (ds.map .im++List.replicate m .no) (vs.map some++List.replicate (n-vs.length) none):=by
 have hl:=r.length;refine⟨s,Same.refl _,fun b o e=>.inl e,fun b o e _=>e,fun a h=>(by cases h),?_,fun i d e=>?_,fun i b o e=>?_,fun i j b b' o o' a e=>?_⟩
 ·rw[List.length_append,List.length_append,List.length_map,List.length_map,List.length_replicate,List.length_replicate,hl,hn]
 ·by_cases hi:i<ds.length
  ·rw[List.getElem?_append_left (by simpa using hi),List.getElem?_map] at e
   cases z:ds[i]? with
   |none=>rw[z] at e;cases e
   |some d' =>
    rw[z] at e;have e':d'=d:=by have:=Option.some.inj e;injection this
    subst e';obtain⟨v,a,b⟩:=r.get z;exact⟨v,by rw[List.getElem?_append_left (by simp;omega),List.getElem?_map,a];rfl,b⟩
  ·rw[List.getElem?_append_right (by simpa using Nat.le_of_not_lt hi),List.getElem?_replicate] at e
   split at e <;> cases e
 ·by_cases hi:i<ds.length
  ·rw[List.getElem?_append_left (by simpa using hi),List.getElem?_map] at e
   cases z:ds[i]? with
   |none=>rw[z] at e;cases e
   |some d'=>rw[z] at e;cases e
  ·rw[List.getElem?_append_right (by simpa using Nat.le_of_not_lt hi),List.getElem?_replicate] at e
   split at e <;> cases e
 ·by_cases hi:i<ds.length
  ·rw[List.getElem?_append_left (by simpa using hi),List.getElem?_map] at e
   cases z:ds[i]? with
   |none=>rw[z] at e;cases e
   |some d'=>rw[z] at e;cases e
  ·rw[List.getElem?_append_right (by simpa using Nat.le_of_not_lt hi),List.getElem?_replicate] at e
   split at e <;> cases e
theorem fn_ok {P:Program}{w:World}{K:PySem.W.Frag}{mg:Str->Option Value}{base:Heap}{x qual:Str}{st:Stmt}{f:Addr}{fd:FuncData}{N ps:List Str}{k n m:Nat}{B:FS} (F:Fun K x qual st f fd) (S:FnScope N ps (defScope st)) (hn:ps.length=n) (hN:N.length=n+m)
  (hb:∀ (cdv:Value) (A:Around) (outer:List Env) (s:Shared) (H:Hp) (E:XK),Room k (A.deeper (envOfC qual (defScope st) s.heap.objs.size f cdv))->XSs (cxOf CX0 P w K mg base N qual (defScope st) f cdv A outer s H E).nox (defBody st) B) :
  FnOk P w K mg base CX0 (k+1) f fd ps (spP K (fnD n m B)):=by
 have inv:∀ {ds:List D}{d:D},fnD n m B ds=some d->ds.length=n/\∃ r,B (ds.map .im++List.replicate m .no)=some r/\retR r=some d:=fun {ds d} h=>by
  unfold fnD at h
  split at h
  ·rename_i hl
   obtain⟨r,h1,h2⟩:=bnd_eq h;exact⟨hl,r,h1,h2⟩
  ·cases h
 refine F.ok S (fun vs H Q E h=>?_) (fun cdv A outer s H vs Q E hr h=>?_)
 ·obtain⟨Hi,ds,d,_,r,e,_⟩:=h
  rw[hn,<- r.length];exact (inv e).1
 ·obtain⟨Hi,ds,d,hs,r,e,q⟩:=h
  obtain⟨hl,res,h1,h2⟩:=inv e;refine⟨_,hb cdv A outer s H E hr,⟨Hi,H,[]⟩,Hi,_,res,RS.start (n:=N.length) (m:=m) hs r (by rw[<- r.length];omega),h1,?_⟩
  cases res with
  |nx ρ' =>
   have e':D.non=d:=Option.some.inj h2;subst e';exact fun σ' H0' H' s0 R=>q .non H0' H' R.step (by unfold Rep;rfl)
  |rt d' ρ' =>
   have e':d'=d:=Option.some.inj h2;subst e';exact fun v σ' H0' H' s0 R rv=>q v H0' H' R.step rv
  |bk ρ'=>cases h2
  |ct ρ'=>cases h2
end Fx
set_option maxRecDepth 100000
namespace Fx
open PySem PySem.Spec PyProof.Rows L2
theorem RS.heNone {K:PySem.W.Frag}{c:FC}{H0 H:Hp}{ρ:En}{σ:L2.St} (R:RS K c H0 H ρ σ) {p:Addr} (hp:H p=none):c.He p=none:=by
 cases q:c.He p with
 |none=>rfl
 |some u =>
  by_cases hb:p∈c.Ap
  ·exact absurd hp (R.apt p hb)
  ·rw[R.keep p u q hb] at hp;cases hp
theorem RS.setOwn {K:PySem.W.Frag}{c:FC}{H0 H:Hp}{ρ:En}{σ:L2.St}{p:Addr}{u:HO}{o:MO} (R:RS K c H0 H ρ σ) (i:Nat) (hp:H p=none) (r:OwOk K H0 (upd H p u) p o) :
  RS K c H0 (upd H p u) (ρ.set i (.ow false o)) (σ.set i (some (.ref p))):=by
 have hl:=R.len;have h0:H0 p=none:=R.same.free hp;have he:=R.heNone hp;have up:∀ b v,H b=some v->(upd H p u) b=some v:=fun b v e=>by rw[upd_ne (ne_of_none e hp)];exact e
 have other:∀ (j:Nat) (sl:Sl),j≠i->(ρ.set i (.ow false o))[j]?=some sl->ρ[j]?=some sl:=fun j sl hj e=>by rwa [List.getElem?_set_ne (Ne.symm hj)] at e
 have otherS:∀ (j:Nat),j≠i->(σ.set i (some (V.ref p)))[j]?=σ[j]?:=fun j hj=>List.getElem?_set_ne (Ne.symm hj)
 have same:∀ (sl:Sl),(ρ.set i (.ow false o))[i]?=some sl->sl=.ow false o/\i<ρ.length:=fun sl e=>by
  by_cases hi:i<ρ.length
  ·rw[List.getElem?_set_self hi] at e;exact⟨(Option.some.inj e).symm,hi⟩
  ·rw[List.getElem?_eq_none (by rw[List.length_set];omega)] at e;cases e
 have ownNe:∀ (j:Nat) (b:Bool) (o:MO) (a:Addr),ρ[j]?=some (.ow b o)->σ[j]?=some (some (.ref a))->a≠p:=fun j b o a e1 e2=>by
  obtain⟨a',x,_,_,w⟩:=R.ow j b o e1;rw[x] at e2;cases e2;obtain⟨u,q⟩:=w.some;exact ne_of_none q hp
 refine⟨fun b u e=>up b u (R.same b u e),R.init,R.fresh,fun b o e n=>up b o (R.keep b o e n),fun a ha e=>?_,by rw[List.length_set,List.length_set,hl],fun j d' e=>?_,fun j bb o' e=>?_,fun j k b1 b2 o1 o2 a e1 e2 e3 e4=>?_⟩
 ·cases q:H a with
  |none=>exact R.apt a ha q
  |some v=>rw[up a v q] at e;cases e
 ·by_cases hj:j=i
  ·subst hj;obtain⟨e',_⟩:=same _ e;cases e'
  ·rw[otherS j hj];exact R.im j d' (other j _ hj e)
 ·by_cases hj:j=i
  ·subst hj
   obtain⟨e',hi⟩:=same _ e;cases e';exact⟨p,by rw[List.getElem?_set_self (by omega)],h0,he,r⟩
  ·rw[otherS j hj]
   obtain⟨a,x,y,z,w⟩:=R.ow j bb o' (other j _ hj e);exact⟨a,x,y,z,w.step (Same.refl _) fun v q=>up a v q⟩
 ·by_cases hj:j=i
  ·by_cases hk:k=i
   ·omega
   ·subst hj
    obtain⟨_,hi⟩:=same _ e1;rw[List.getElem?_set_self (by omega)] at e3
    cases e3;rw[otherS k hk] at e4;exact absurd rfl (ownNe k b2 o2 _ (other k _ hk e2) e4)
  ·by_cases hk:k=i
   ·subst hk
    obtain⟨_,hi⟩:=same _ e2;rw[List.getElem?_set_self (by omega)] at e4
    cases e4;rw[otherS j hj] at e3;exact absurd rfl (ownNe j b1 o1 _ (other j _ hj e1) e3)
   ·rw[otherS j hj] at e3;rw[otherS k hk] at e4
    exact R.ne j k b1 b2 o1 o2 a (other j _ hj e1) (other k _ hk e2) e3 e4
theorem RS.lent {K:PySem.W.Frag}{c:FC}{H0 H H0' H':Hp}{ρ:En}{σ:L2.St}{a:Addr}{b:Bool}{o o':MO} (R:RS K c H0 H ρ σ) {i:Nat} (hi:ρ[i]?=some (.ow b o)) (ha:σ[i]?=some (some (.ref a)))
  (s0:Same H0 H0') (s':Same H0' H') (kp:∀ x u,H x=some u->x≠a->H' x=some u) (fr:∀ x u,H0' x=some u->H0 x=some u\/H x=none) (r:OwOk K H0' H' a o') :
  RS K c H0' H' (ρ.set i (.ow b o')) σ:=by
 obtain⟨a',x,y,z,w⟩:=R.ow i b o hi;rw[ha] at x;cases x;obtain⟨ua,qa⟩:=w.some;have il:i<ρ.length:=(List.getElem?_eq_some_iff.mp hi).1
 have n0:∀ x,H0 x=none->H x≠none->H0' x=none:=fun x h1 h2=>by
  cases q:H0' x with
  |none=>rfl
  |some u =>
   rcases fr x u q with h | h
   ·rw[h1] at h;cases h
   ·exact absurd h h2
 have other:∀ (j:Nat) (sl:Sl),j≠i->(ρ.set i (.ow b o'))[j]?=some sl->ρ[j]?=some sl:=fun j sl hj e=>by rwa [List.getElem?_set_ne (Ne.symm hj)] at e
 have same:∀ (sl:Sl),(ρ.set i (.ow b o'))[i]?=some sl->sl=.ow b o':=fun sl e=>by
  rw[List.getElem?_set_self il] at e;exact (Option.some.inj e).symm
 have was:∀ (j:Nat) (bb:Bool) (oo:MO),(ρ.set i (.ow b o'))[j]?=some (.ow bb oo)->∃ bb o'',ρ[j]?=some (.ow bb o''):=fun j bb oo e=>by
  by_cases hj:j=i
  ·exact⟨b,o,by rw[hj];exact hi⟩
  ·exact⟨bb,oo,other j _ hj e⟩
 refine⟨s',R.init.trans s0,fun x u e=>?_,fun x u e n=>?_,fun x hx e=>?_,by rw[List.length_set];exact R.len,fun j d' e=>?_,fun j bb oo e=>?_,fun j k b1 b2 o1 o2 x e1 e2 e3 e4=>?_⟩
 ·rcases fr x u e with h | h
  ·exact R.fresh x u h
  ·exact .inr (R.heNone h)
 ·have:x≠a:=fun h=>by
   cases b with
   |true=>exact n (h▸z)
   |false =>
    have z':c.He a=none:=z;rw[h,z'] at e;cases e
  exact kp x u (R.keep x u e n) this
 ·by_cases h:x=a
  ·obtain⟨u,q⟩:=r.some
   rw[h,q] at e;cases e
  ·cases q:H x with
   |none=>exact R.apt x hx q
   |some u=>rw[kp x u q h] at e;cases e
 ·by_cases hj:j=i
  ·subst hj;cases same _ e
  ·obtain⟨v,a1,a2⟩:=R.im j d' (other j _ hj e)
   exact⟨v,a1,Rep.mono s0 _ a2⟩
 ·by_cases hj:j=i
  ·subst hj
   cases same _ e;exact⟨a,ha,n0 a y (by rw[qa];intro h;cases h),z,r⟩
  ·have q':=other j _ hj e
   obtain⟨x,x1,y1,z1,w1⟩:=R.ow j bb oo q';have nx:x≠a:=fun h=>hj (R.ne j i bb b oo o x q' hi x1 (by rw[h];exact ha))
   obtain⟨u,qu⟩:=w1.some;exact⟨x,x1,n0 x y1 (by rw[qu];intro h;cases h),z1,w1.step s0 fun v q=>kp x v q nx⟩
 ·obtain⟨_,p,e1⟩:=was j b1 o1 e1
  obtain⟨_,q,e2⟩:=was k b2 o2 e2;exact R.ne j k _ _ p q x e1 e2 e3 e4
theorem RS.mutOwn {K:PySem.W.Frag}{c:FC}{H0 H:Hp}{ρ:En}{σ:L2.St}{a:Addr}{b:Bool}{o o':MO}{u:HO} (R:RS K c H0 H ρ σ) {i:Nat} (hi:ρ[i]?=some (.ow b o)) (ha:σ[i]?=some (some (.ref a))) (r:OwOk K H0 (upd H a u) a o') :
  RS K c H0 (upd H a u) (ρ.set i (.ow b o')) σ:=by
 obtain⟨a',x,y,z,w⟩:=R.ow i b o hi;rw[ha] at x;cases x;refine R.lent hi ha (Same.refl _) (fun x v e=>?_) (fun x v e n=>by rw[upd_ne n];exact e) (fun x v e=>.inl e) r
 have:x≠a:=fun h=>by rw[h,y] at e;cases e
 rw[upd_ne this];exact R.same x v e
theorem RS.freeze {K:PySem.W.Frag}{c:FC}{H0 H:Hp}{ρ:En}{σ:L2.St}{ds:List D} (R:RS K c H0 H ρ σ) {i:Nat} (hi:ρ[i]?=some (.ow false (.lst ds))) :
  ∃ H0',Same H0 H0'/\RS K c H0' H (ρ.set i (.im (.lst ds))) σ:=by
 obtain⟨a,x,y,z,vs,e,r⟩:=R.ow i _ _ hi;have he:c.He a=none:=z;have il:i<ρ.length:=(List.getElem?_eq_some_iff.mp hi).1;have s0:Same H0 (upd H0 a (.lst vs)):=fun b u q=>by rw[upd_ne (ne_of_none q y)];exact q
 have other:∀ (j:Nat) (sl:Sl),j≠i->(ρ.set i (.im (.lst ds)))[j]?=some sl->ρ[j]?=some sl:=fun j sl hj e=>by rwa [List.getElem?_set_ne (Ne.symm hj)] at e
 have same:∀ (sl:Sl),(ρ.set i (.im (.lst ds)))[i]?=some sl->sl=.im (.lst ds):=fun sl e=>by
  rw[List.getElem?_set_self il] at e;exact (Option.some.inj e).symm
 refine⟨upd H0 a (.lst vs),s0,fun b u q=>?_,R.init.trans s0,fun b u q=>?_,R.keep,R.apt,by rw[List.length_set];exact R.len,fun j d' q=>?_,fun j bb o' q=>?_,fun j k b1 b2 o' o'' b e1 e2 e3 e4=>?_⟩
 ·by_cases h:b=a
  ·subst h;rw[upd_same] at q;cases q;exact e
  ·rw[upd_ne h] at q;exact R.same b u q
 ·by_cases h:b=a
  ·subst h;exact .inr he
  ·rw[upd_ne h] at q;exact R.fresh b u q
 ·by_cases hj:j=i
  ·subst hj
   cases same _ q;refine⟨.ref a,x,?_⟩;unfold Rep;exact⟨a,vs,rfl,.inl (.inl upd_same),Reps.mono s0 _ r⟩
  ·obtain⟨v,a1,a2⟩:=R.im j d' (other j _ hj q)
   exact⟨v,a1,Rep.mono s0 _ a2⟩
 ·by_cases hj:j=i
  ·subst hj;cases same _ q
  ·have q':=other j _ hj q
   obtain⟨b,x1,y1,z1,w1⟩:=R.ow j bb o' q';have nb:b≠a:=fun h=>hj (R.ne j i bb false o' _ b q' hi x1 (by rw[h];exact x))
   exact⟨b,x1,by rw[upd_ne nb];exact y1,z1,w1.step s0 fun u q=>q⟩
 ·by_cases hj:j=i
  ·subst hj;cases same _ e1
  ·by_cases hk:k=i
   ·subst hk;cases same _ e2
   ·exact R.ne j k b1 b2 o' o'' b (other j _ hj e1) (other k _ hk e2) e3 e4
noncomputable def tEo (K:PySem.W.Frag) (A:FA):TE:=fun σ H Q=>∃ c H0 ρ ds ρ',RS K c H0 H ρ σ/\A ρ=some (ds,ρ')/\∀ p vs H0' H',Same H0 H0'->RS K c H0' H' ρ' σ->H' p=none->Reps K H0' ds vs->Q (.ref p) (upd H' p (.lst vs))
noncomputable def XO' (X:Cx) (e:Expr) (A:FA):Prop:=PE X e (tEo X.K A)
theorem owL_eq {o:Option Sl}{ds:List D} (h:owL o=some ds):o=some (.ow false (.lst ds)):=by
 unfold owL at h
 split at h
 ·cases h;rfl
 ·cases h
section
variable {X:Cx}{pos:Pos}{e:Expr}{F:FE}{T:FT}{A B:FA}
theorem xoLst {es:List Expr} (h:XA X es A):XO' X (.List es pos) (oLst A):=PE.wk (pe_lst h) fun σ H Q ⟨c,H0,ρ,ds,ρ',R,f,q⟩=>by
 unfold oLst at f;obtain⟨⟨ds',ρ1⟩,h1,f⟩:=bnd_eq f;obtain⟨hl,f'⟩:=ifs f;cases f';exact⟨c,H0,ρ,ds,_,R,h1,fun vs H1 Hh s1 R1 r1=>⟨by rw[<- r1.length];exact t1000 hl,fun p hp=>q p vs H1 Hh s1 R1 hp r1⟩⟩
theorem xown (i:Nat) {x:Str}{pos':Pos} (hN:X.N.Nodup) (he:XO' X e A) (hi:X.N[i]?=some x:=by rfl) (hx:Loc X.env.scope x:=by first | exact Or.inl rfl | exact Or.inr rfl) (hs:swapsWith e (some (.Name x pos')) pos.line X.env=pure false:=by rfl)
  (hf:X.fn x=true\/X.env.scope.names.lookup x=some .local:=by first | exact .inl rfl | exact .inr rfl):XS X (.Assign [.Name x pos'] e pos) (sOwn i A):=PS.wk (ps_set hN hi hx he hs hf) fun Dn σ H ⟨c,H0,ρ,r,R,f,q⟩=>by
 unfold sOwn at f;obtain⟨⟨ds,ρ1⟩,h1,f⟩:=bnd_eq f;have f':some (Res.nx (ρ1.set i (.ow false (.lst ds))))=some r:=f;cases f';exact⟨c,H0,ρ,ds,ρ1,R,h1,fun p vs H1 Hh s1 R1 hp r1=>q _ H1 _ s1 (R1.setOwn (o:=.lst ds) (u:=.lst vs) i hp ⟨vs,upd_same,r1⟩)⟩
theorem xapp (i:Nat) {x:Str}{p1 p2 p3:Pos} (ha:XA X [e] (aC F aN)) (hN:X.N[i]?=some x:=by rfl) (hv:Vis X.env.scope x:=by first | exact Or.inl rfl | exact Or.inr (Or.inl rfl) | exact Or.inr (Or.inr rfl)) (hd:(x==("__debug__":Str))=false:=by decide)
  (hcd:(x==("__classdict__":Str))=false:=by decide) (hbase:attributeBase (.Name x p1) "append" X.env (eval (.Name x p1) X.env)=eval (.Name x p1) X.env:=by rfl)
  (hfew:((backTo p3 (starEach [e] X.env)).all (fun x=>!x.1)&&(backToKw p3 (keywordEach [] X.env)).all (fun x=>x.1.isSome)&&decide ([e].length+([]:List Keyword).length+(if ([]:List Keyword).isEmpty then 0 else 1)<30))=true:=by rfl)
  (hline:(p2.endLine==p3.line)=true:=by rfl) (hst:starEach [e] X.env=(false,eval e X.env)::starEach [] X.env:=by rfl) (hpl:(backTo p3 (starEach [] X.env)).any (·.1)=false:=by rfl)
  (hs:swapsWith (.Call (.Attribute (.Name x p1) "append" p2) [e] [] p3) none pos.line X.env=pure false:=by rfl) :
  XS X (.Expr (.Call (.Attribute (.Name x p1) "append" p2) [e] [] p3) pos) (sApp i F) :=
 PS.wk (ps_expr (pe_bm PySem.F.plainAttrs_list PySem.F.slot_list_append PySem.F.type_list_append mt_append (pe_var hN hv hd hcd) ha hbase hfew hline hst hpl) hs) fun Dn σ H ⟨c,H0,ρ,r,R,f,q⟩=>by
  unfold sApp at f;obtain⟨ds0,h0,f⟩:=bnd_eq f;obtain⟨⟨d,ρ1⟩,h1,f⟩:=bnd_eq f;obtain⟨ds,h2,f⟩:=bnd_eq f;dsimp only at h2 f;obtain⟨hl,f'⟩:=ifs f;cases f';obtain⟨a,x1,_,_,vs0,y1,_⟩:=R.ow i _ _ (owL_eq h0);refine⟨.ref a,x1,.inl ⟨rfl,vs0,SqL.of y1⟩,c,H0,ρ,[d],ρ1,R,by unfold aC aN;rw[h1];rfl,fun vs H1 Hh s1 R1 r1=>?_⟩
  obtain⟨v,rfl,rv⟩:=Reps.v1 r1;obtain⟨a',x2,_,_,ws,y2,z2⟩:=R1.ow i _ _ (owL_eq h2);rw[x1] at x2;cases x2;refine⟨a,ws,v,rfl,rfl,y2,?_,?_⟩
  ·rw[<- z2.length]
   exact Nat.lt_of_lt_of_le hl (by rw[sizeLine_eq];decide)
  ·exact q σ H1 _ s1 (R1.mutOwn (o':=.lst (ds++[d])) (u:=.lst (ws++[v])) (owL_eq h2) x1 ⟨_,upd_same,z2.app (Reps.one rv)⟩)
theorem xfrz (i:Nat) {st:Stmt}{G:FS} (h:XS X st G):XS X st (sFrz i G):=PS.wk h fun Dn σ H ⟨c,H0,ρ,r,R,f,q⟩=>by
 unfold sFrz frz at f;cases z:ρ[i]? with
 |none=>rw[z] at f;exact⟨c,H0,ρ,r,R,f,q⟩
 |some sl =>
  rw[z] at f;cases sl with
  |no=>exact⟨c,H0,ρ,r,R,f,q⟩
  |im d=>exact⟨c,H0,ρ,r,R,f,q⟩
  |ow b o =>
   cases b with
   |true=>exact⟨c,H0,ρ,r,R,f,q⟩
   |false =>
   cases o with
   |dic kds=>exact⟨c,H0,ρ,r,R,f,q⟩
   |lst ds =>
    obtain⟨H0',s0,R'⟩:=R.freeze z;exact⟨c,H0',_,r,R',f,q.mono s0⟩
end
section
variable {X:Cx}{scope sc:Scope}{x:Str}{frees:List Str}{js:List Nat}{px pos p pos':Pos}{elt a b:Expr}{ifs:List Expr}{F G I:FE}{T:FT}
end
end Fx
set_option maxRecDepth 100000
namespace Fx
open PySem PySem.Spec PyProof.Rows L2
section
variable {X:Cx}{K:PySem.W.Frag}
theorem rep_str (H:Hp) (x:Str):Rep K H (.str x) (.str x):=by unfold Rep;rfl
theorem ixD2:OpD K (rIx K) dIx2:=fun c H0 H ρ σ x y d vx vy Q R r1 r2 e q=>by
 cases y with
 |int i =>
  unfold Rep at r2;subst r2;cases x with
  |tup ds =>
   unfold Rep at r1;obtain⟨p,vs,rfl,s,t⟩:=r1;obtain⟨v,e1,e2⟩:=at_of t e;exact .inr (.inl ⟨p,vs,i,v,rfl,rfl,Same.seqT R.same s,e1,q v H0 H (Same.refl _) R e2⟩)
  |lst ds =>
   unfold Rep at r1;obtain⟨p,vs,rfl,s,t⟩:=r1;obtain⟨v,e1,e2⟩:=at_of t e;exact .inl ⟨p,vs,i,v,rfl,rfl,Same.seq R.same s,e1,q v H0 H (Same.refl _) R e2⟩
  |str z =>
   unfold Rep at r1;subst r1;have e:atS z i=some d:=e;unfold atS at e
   by_cases hz:z.length<=sizeLine
   ·rw[if_pos hz] at e
    obtain⟨ch,e1,e2⟩:=bnd_eq e;have e2:some (D.str (chS ch))=some d:=e2;cases e2;exact .inr (.inr ⟨z,i,ch,rfl,rfl,hz,e1,q _ H0 H (Same.refl _) R (rep_str H0 (chS ch))⟩)
   ·rw[if_neg hz] at e;cases e
  |_=>cases e
 |_=>cases x <;> cases e
variable {a b:Expr}{F G:FE}{pos:Pos}
theorem xix2 (ha:XE X a F) (hb:XE X b G) (hs:PlainIx b:=by intro _ _;rfl):XE X (.Subscript a b pos) (e2 dIx2 F G):=PE.wk (pe_ix ix_seq ha hb hs) fun σ H Q h=>two_of ixD2 h
theorem callLen2:BOk X (.builtin "len") bLen2:=⟨_,call_len_seq.or call_len_str,fun c H0 H ρ σ ds d vs Q R r e q=>by
 unfold bLen2 at e
 split at e
 ·cases e
  obtain⟨v,rfl,rv⟩:=Reps.v1 r;unfold Rep at rv;obtain⟨p,ws,rfl,s,t⟩:=rv;exact .inl ⟨p,ws,rfl,.inl (Same.seq R.same s),by rw[<- t.length];exact q _ H0 H (Same.refl _) R (rep_int _ _)⟩
 ·cases e
  obtain⟨v,rfl,rv⟩:=Reps.v1 r;unfold Rep at rv;obtain⟨p,ws,rfl,s,t⟩:=rv;exact .inl ⟨p,ws,rfl,.inr (Same.seqT R.same s),by rw[<- t.length];exact q _ H0 H (Same.refl _) R (rep_int _ _)⟩
 ·rename_i z
  obtain⟨hz,rfl⟩:=ifs e;obtain⟨v,rfl,rv⟩:=Reps.v1 r;unfold Rep at rv;subst rv;exact .inr ⟨z,rfl,hz,q _ H0 H (Same.refl _) R (rep_int _ _)⟩
 ·cases e⟩
theorem xTy {T:String}{g:List D → Option D}{A:FA}{x:Str}{p:Pos}{e:Expr}{es:List Expr} (o:BOk X (.type T) g) (hg:Gl X x) (hm:X.mg x=none) (hv:bootBuiltins x=some (.type T)) (ha:XA X (e::es) A) (hn:x≠"__name__":=by decide) (hdb:(x==("__debug__":Str))=false:=by decide)
  (he:starEach (e::es) X.env=(false,eval e X.env)::starEach es X.env:=by rfl) (hpl:(backTo pos (starEach es X.env)).any (·.1)=false:=by rfl):XE X (.Call (.Name x p) (e::es) [] pos) (eF g A):=by
 obtain⟨r,h1,h2⟩:=o;exact PE.wk (pe_callTy h1 hg hm hv ha hn hdb he hpl) fun σ H Q h=>eF_of h2 h
theorem callList:BOk X (.type "list") bList:=⟨_,call_list_of,fun c H0 H ρ σ ds d vs Q R r e q=>by
 unfold bList at e
 split at e
 ·cases e
  obtain⟨v,rfl,rv⟩:=Reps.v1 r;unfold Rep at rv;obtain⟨p,ws,rfl,s,t⟩:=rv;refine⟨p,ws,rfl,.inl (Same.seq R.same s),fun l hl=>?_⟩
  have S:=Step.alloc (o:=.lst ws) R.same hl;refine q _ _ _ S.s0 (R.after S) ?_;unfold Rep;exact⟨l,_,rfl,.inl (.inl upd_same),Reps.mono S.s0 _ t⟩
 ·cases e
  obtain⟨v,rfl,rv⟩:=Reps.v1 r;unfold Rep at rv;obtain⟨p,ws,rfl,s,t⟩:=rv;refine⟨p,ws,rfl,.inr (Same.seqT R.same s),fun l hl=>?_⟩
  have S:=Step.alloc (o:=.lst ws) R.same hl;refine q _ _ _ S.s0 (R.after S) ?_;unfold Rep;exact⟨l,_,rfl,.inl (.inl upd_same),Reps.mono S.s0 _ t⟩
 ·cases e⟩
theorem callTuple:BOk X (.type "tuple") bTuple:=⟨_,call_tuple_of,fun c H0 H ρ σ ds d vs Q R r e q=>by
 unfold bTuple at e
 split at e
 ·cases e
  obtain⟨v,rfl,rv⟩:=Reps.v1 r;unfold Rep at rv;obtain⟨p,ws,rfl,s,t⟩:=rv;refine⟨p,ws,rfl,.inl ⟨Same.seq R.same s,fun l hl=>?_⟩⟩
  have S:=Step.alloc (o:=.tup ws) R.same hl;refine q _ _ _ S.s0 (R.after S) ?_;unfold Rep;exact⟨l,_,rfl,.inl (.inl upd_same),Reps.mono S.s0 _ t⟩
 ·cases e
  obtain⟨v,rfl,rv⟩:=Reps.v1 r;have rv':=rv;unfold Rep at rv;obtain⟨p,ws,rfl,s,t⟩:=rv;exact⟨p,ws,rfl,.inr ⟨Same.seqT R.same s,q _ H0 H (Same.refl _) R rv'⟩⟩
 ·cases e⟩
theorem flat_rep {H:Hp}{d:D}{v:V} (h:flatD d=true) (r:Rep K H d v):flatV v=true/\∀ d' v',flatD d'=true->Rep K H d' v'->eqV v v'=eqD d d':=by
 cases d with
 |tup xs=>cases h
 |lst xs=>cases h
 |opq=>cases h
 |dct ks vs=>cases h
 |_ =>
  unfold Rep at r;subst r;refine⟨rfl,fun d' v' h' r'=>?_⟩
  cases d' with
  |tup xs=>cases h'
  |lst xs=>cases h'
  |opq=>cases h'
  |dct ks vs=>cases h'
  |_ =>
   unfold Rep at r';subst r'
   first
    |(simp[eqV];done)
    |(simp[eqV,eqD];done)
    |(simp[eqV,eqD,Bool.beq_eq_decide_eq];done)
    |(unfold eqV;simp)
theorem in_rep {H:Hp}{x:D}{v:V} (hx:flatD x=true) (r:Rep K H x v):∀ {ds:List D}{vs:List V},ds.all flatD=true->Reps K H ds vs->vs.all flatV=true/\inV v vs=inD x ds
 |[],vs,_,t=>by
  unfold Reps at t;subst t;exact⟨rfl,rfl⟩
 |d::ds,vs,h,t=>by
  unfold Reps at t;obtain⟨u,us,rfl,t1,t2⟩:=t;rw[List.all_cons,Bool.and_eq_true] at h;obtain⟨i1,i2⟩:=in_rep hx r h.2 t2;obtain⟨f1,f2⟩:=flat_rep h.1 t1;refine⟨by rw[List.all_cons,f1,i1];rfl,?_⟩
  unfold inV inD at *;rw[List.any_cons,List.any_cons,f2 x v hx r,i2]
theorem inD_op {neg:Bool}{f:D->D->Option D} (hf:∀ x y d,f x y=some d->∃ xs,(y=.tup xs\/y=.lst xs)/\okIn x xs=true/\d=.bl (if neg then !inD x xs else inD x xs)):OpD K (rIn K neg) f:=fun c H0 H ρ σ x y d vx vy Q R r1 r2 e q=>by
 obtain⟨xs,hy,ok,rfl⟩:=hf x y d e;unfold okIn at ok;rw[Bool.and_eq_true] at ok
 rcases hy with rfl | rfl
 ·unfold Rep at r2
  obtain⟨p,ws,rfl,s,t⟩:=r2;obtain⟨i1,i2⟩:=in_rep ok.1 r1 ok.2 t;exact⟨p,ws,rfl,.inr (Same.seqT R.same s),(flat_rep ok.1 r1).1,i1,by rw[i2];exact q _ H0 H (Same.refl _) R (rep_bl _ _)⟩
 ·unfold Rep at r2
  obtain⟨p,ws,rfl,s,t⟩:=r2;obtain⟨i1,i2⟩:=in_rep ok.1 r1 ok.2 t;exact⟨p,ws,rfl,.inl (Same.seq R.same s),(flat_rep ok.1 r1).1,i1,by rw[i2];exact q _ H0 H (Same.refl _) R (rep_bl _ _)⟩
end
end Fx
set_option maxRecDepth 100000
namespace Fx
open PySem PySem.Spec PyProof.Rows L2
noncomputable def zipD (ks:List Str) (vs:List V):List (Key×V):=(ks.map Sum.inr).zip vs
theorem zipD_cons (k:Str) (ks:List Str) (v:V) (vs:List V):zipD (k::ks) (v::vs)=(Sum.inr k,v)::zipD ks vs:=rfl
section
variable {K:PySem.W.Frag}{H:Hp}
theorem val_of {k:Str}{d:D}:∀ {kds:List (Str×D)}{vs:List V},Reps K H (kds.map (·.2)) vs->getK k kds=some d->∃ v,valV (zipD (kds.map (·.1)) vs) (.inr k)=some v/\Rep K H d v
 |[],_,_,e=>by cases e
 |q::r,vs,t,e=>by
  rw[List.map_cons] at t;unfold Reps at t;obtain⟨v,vr,rfl,t1,t2⟩:=t;rw[List.map_cons,zipD_cons];unfold getK at e
  by_cases hk:q.1=k
  ·rw[if_pos hk] at e
   cases e;exact⟨v,valV_pos (by rw[hk]),t1⟩
  ·rw[if_neg hk] at e
   obtain⟨u,e1,e2⟩:=val_of t2 e;exact⟨u,by rw[valV_neg fun z=>hk (Sum.inr.inj z)];exact e1,e2⟩
theorem map_of {k:Str}{d:D}{v:V} (rv:Rep K H d v):∀ {kds:List (Str×D)}{vs:List V},Reps K H (kds.map (·.2)) vs->∃ vs',(zipD (kds.map (·.1)) vs).map (fun kv=>if kv.1=Sum.inr k then (kv.1,v) else kv)=zipD ((setK k d kds).map (·.1)) vs'/\Reps K H ((setK k d kds).map (·.2)) vs'
 |[],vs,t=>⟨[],rfl,Reps.nil_⟩
 |q::r,vs,t=>by
  rw[List.map_cons] at t;unfold Reps at t;obtain⟨u,ur,rfl,t1,t2⟩:=t;obtain⟨vs',e1,e2⟩:=map_of rv t2;unfold setK;rw[List.map_cons,zipD_cons,List.map_cons,e1]
  by_cases hk:q.1=k
  ·refine⟨v::vs',?_,?_⟩
   ·rw[if_pos (show (Sum.inr q.1:Key)=Sum.inr k by rw[hk]),if_pos hk];rfl
   ·rw[if_pos hk];exact Reps.cons rv e2
  ·refine⟨u::vs',?_,?_⟩
   ·rw[if_neg (show ¬ (Sum.inr q.1:Key)=Sum.inr k from fun z=>hk (Sum.inr.inj z)),if_neg hk];rfl
   ·rw[if_neg hk];exact Reps.cons t1 e2
theorem put_of {k:Str}{d d0:D}{v:V}{kds:List (Str×D)}{vs:List V} (rv:Rep K H d v) (t:Reps K H (kds.map (·.2)) vs) (h:getK k kds=some d0) :
  ∃ vs',putK (zipD (kds.map (·.1)) vs) (.inr k) v=zipD ((setK k d kds).map (·.1)) vs'/\Reps K H ((setK k d kds).map (·.2)) vs':=by
 obtain⟨u,e,_⟩:=val_of t h;obtain⟨vs',e1,e2⟩:=map_of (k:=k) rv t;refine⟨vs',?_,e2⟩;unfold putK;rw[valV_any,e,if_pos (show (some u).isSome=true from rfl)];exact e1
end
theorem owD_eq {o:Option Sl}{q:Bool×List (Str×D)} (h:owD o=some q):o=some (.ow q.1 (.dic q.2)):=by
 unfold owD at h
 split at h
 ·cases h;rfl
 ·cases h
theorem owO_eq {o:Option Sl}{q:Bool×MO} (h:owO o=some q):o=some (.ow q.1 q.2):=by
 unfold owO at h
 split at h
 ·cases h;rfl
 ·cases h
section
variable {X:Cx}{pos:Pos}{e:Expr}{F:FE}{A:FA}
theorem xdg (i:Nat) {x k:Str}{j:Nat}{p p2:Pos} (hu:X.A.units+1<cLine) (hN:X.N[i]?=some x:=by rfl) (hv:Vis X.env.scope x:=by first | exact Or.inl rfl | exact Or.inr (Or.inl rfl) | exact Or.inr (Or.inr rfl)) (hd:(x==("__debug__":Str))=false:=by decide)
  (hcd:(x==("__classdict__":Str))=false:=by decide):XE X (.Subscript (.Name x p) (.Constant (.str k) j p2) pos) (eDG i k) :=
 PE.wk (pe_dget hu (pe_var hN hv hd hcd) pe_str (fun _ _=>rfl)) fun σ H Q ⟨c,H0,ρ,d,ρ',R,f,q⟩=>by
  unfold eDG at f;obtain⟨⟨b,kds⟩,h1,f⟩:=bnd_eq f;obtain⟨d',h2,f⟩:=bnd_eq f;have f':some (d',ρ)=some (d,ρ'):=f;cases f';obtain⟨a,e1,e2,e3,ks,vs,e4,rfl,r⟩:=R.ow i b _ (owD_eq h1);obtain⟨v,w1,w2⟩:=val_of r h2;refine⟨_,e1,a,v,rfl,?_,q v H0 H (Same.refl _) R w2⟩;rw[<- w1];exact DGet.k (k:=.inr k) e4
theorem lt100 {n:Nat} (h:n<100):n<sizeLine:=small1000 (by omega)
theorem zipD_len {K:PySem.W.Frag}{H:Hp}{kds:List (Str×D)}{vs:List V} (t:Reps K H (kds.map (·.2)) vs):(zipD (kds.map (·.1)) vs).length=kds.length:=by
 have hl:=t.length;rw[List.length_map] at hl;unfold zipD;rw[List.length_zip,List.length_map,List.length_map,<- hl,Nat.min_self]
theorem xdp (i:Nat) {x k:Str}{j:Nat}{p p2 p3:Pos} (hu:X.A.units+1<cLine) (he:XE X e F) (hN:X.N[i]?=some x:=by rfl) (hv:Vis X.env.scope x:=by first | exact Or.inl rfl | exact Or.inr (Or.inl rfl) | exact Or.inr (Or.inr rfl)) (hd:(x==("__debug__":Str))=false:=by decide)
  (hcd:(x==("__classdict__":Str))=false:=by decide) (hs:swapsWith e (some (.Subscript (.Name x p) (.Constant (.str k) j p2) p3)) pos.line X.env=pure false:=by rfl) :
  XS X (.Assign [.Subscript (.Name x p) (.Constant (.str k) j p2) p3] e pos) (sDP i k F) :=
 PS.wk (ps_dput hu (pe_var hN hv hd hcd) pe_str he hs) fun Dn σ H ⟨c,H0,ρ,r,R,f,q⟩=>by
  unfold sDP at f;obtain⟨⟨d,ρ1⟩,h1,f⟩:=bnd_eq f;obtain⟨⟨b,kds⟩,h2,f⟩:=bnd_eq f;obtain⟨d0,h3,f⟩:=bnd_eq f;obtain⟨h4,rfl⟩:=ifs f;refine⟨c,H0,ρ,d,ρ1,R,h1,fun v H1 Hh s1 R1 r1=>?_⟩
  have z:=owD_eq h2;obtain⟨a,e1,e2,e3,ks,vs,e4,rfl,t⟩:=R1.ow i b _ z;obtain⟨vs',w1,w2⟩:=put_of r1 t h3;refine⟨_,e1,a,_,rfl,DPut.k (k:=.inr k) e4 (by have:=zipD_len t;unfold zipD at this;rw[this];exact lt100 h4),?_⟩
  exact q σ H1 _ s1 (R1.mutOwn z e1 ⟨_,vs',by rw[upd_same];exact congrArg (fun y=>some (HO.dK y)) w1,rfl,w2⟩)
noncomputable def spB (K:PySem.W.Frag) (g:MO->List D->Option (D×MO)):Sp:=fun vs H Q _=>∃ Hi a o vr ds d o',vs=.ref a::vr/\Same Hi H/\Hi a=none/\OwOk K Hi H a o/\Reps K Hi ds vr/\g o ds=some (d,o') /\
 ∀ v Hi' H',Same Hi Hi'->Same Hi' H'->(∀ b u,H b=some u->b≠a->H' b=some u)->(∀ b u,Hi' b=some u->Hi b=some u\/H b=none)->OwOk K Hi' H' a o'->Rep K Hi' d v->Q v H'
structure DefB (P:Program) (w:World) (K:PySem.W.Frag) (mg:Str->Option Value) (base:Heap) (k:Nat) (x:Str) (g:MO->List D->Option (D×MO)):Prop where
 ex:∃ f fd ps,FnOk P w K mg base CX0 k f fd ps (spB K g)/\Binds K fd ps []/\PySem.W.keepIn K (.ref f)=true/\mg x=some (.ref f)
theorem xFb (i:Nat) {k:Nat}{x y:Str}{g:MO->List D->Option (D×MO)}{p py pos:Pos}{es:List Expr} (G:DefB X.prog X.w X.K X.mg X.base k x g) (hr:Room k X.A) (ha:XA X es A) (hN:X.N[i]?=some y:=by rfl) (hg:Gl X x:=by rfl)
  (hv:Vis X.env.scope y:=by first | exact Or.inl rfl | exact Or.inr (Or.inl rfl) | exact Or.inr (Or.inr rfl)) (hdb:(x==("__debug__":Str))=false:=by decide) (hd:(y==("__debug__":Str))=false:=by decide) (hcd:(y==("__classdict__":Str))=false:=by decide)
  (hpl:(backTo pos (starEach es X.env)).any (·.1)=false:=by rfl):XE X (.Call (.Name x p) (.Name y py::es) [] pos) (eFb i g A):=by
 obtain⟨f,fd,ps,F,hb,hk,hm⟩:=G.ex;refine PE.wk (pe_call F hr hg hm hk hb .nil pass0 (pa_cons (pe_var hN hv hd hcd) ha rfl) hdb rfl hpl) fun σ H Q ⟨c,H0,ρ,d,ρ',R,z,q⟩=>?_
 unfold eFb at z;obtain⟨⟨b0,o0⟩,h0,z⟩:=bnd_eq z;obtain⟨⟨ds,ρ1⟩,h1,z⟩:=bnd_eq z;obtain⟨⟨b,o⟩,h2,z⟩:=bnd_eq z;obtain⟨⟨d',o'⟩,h3,z⟩:=bnd_eq z;have z':some (d',ρ1.set i (.ow b o'))=some (d,ρ'):=z;cases z';obtain⟨a,e1,_⟩:=R.ow i b0 o0 (owO_eq h0);refine⟨_,e1,c,H0,ρ,ds,ρ1,R,h1,fun vs H1 Hh s1 R1 r1=>?_⟩
 have y2:=owO_eq h2;obtain⟨a',e1',e2',e3',w'⟩:=R1.ow i b o y2;rw[e1] at e1';cases e1';refine⟨H1,a,o,vs,ds,d,o',by rw[List.append_nil],R1.same,e2',w',r1,h3,fun v Hi' H' s2 s3 kp fr ok rv=>?_⟩
 exact q v Hi' H' (s1.trans s2) (R1.lent y2 e1 s2 s3 kp fr ok) rv
end
theorem RS.startB {K:PySem.W.Frag}{Hi H:Hp}{ds:List D}{vs:List V}{a:Addr}{o:MO}{m n:Nat} (s:Same Hi H) (h0:Hi a=none) (ok:OwOk K Hi H a o) (r:Reps K Hi ds vs) (hn:n-(vs.length+1)=m) :
  RS K ⟨Hi,H,[a]⟩ Hi H (.ow true o::(ds.map .im++List.replicate m .no)) (some (.ref a)::(vs.map some++List.replicate (n-(vs.length+1)) none)):=by
 have R:=RS.start (n:=n-1) (m:=m) s r (by omega)
 have hnn:n-1-vs.length=n-(vs.length+1):=by omega
 rw[hnn] at R
 have now:∀ (i:Nat) (b:Bool) (o:MO),¬ (ds.map Sl.im++List.replicate m Sl.no)[i]?=some (.ow b o):=fun i b o e=>by
  by_cases hi:i<ds.length
  ·rw[List.getElem?_append_left (by simpa using hi),List.getElem?_map] at e
   cases z:ds[i]? with
   |none=>rw[z] at e;cases e
   |some d'=>rw[z] at e;cases e
  ·rw[List.getElem?_append_right (by simpa using Nat.le_of_not_lt hi),List.getElem?_replicate] at e
   split at e <;> cases e
 refine⟨s,Same.refl _,fun b o e=>.inl e,fun b o e _=>e,fun b hb e=>?_,?_,fun i d e=>?_,fun i b o' e=>?_,fun i j b b' o1 o2 x e1 e2 e3 e4=>?_⟩
 ·obtain⟨u,hu⟩:=ok.some
  have:b=a:=by simpa using hb
  have e:H b=none:=e;rw[this,hu] at e;cases e
 ·rw[List.length_cons,List.length_cons,R.len]
 ·cases i with
  |zero=>cases e
  |succ i=>exact R.im i d e
 ·cases i with
  |zero =>
   have e':Sl.ow true o=Sl.ow b o':=Option.some.inj e;cases e';exact⟨a,rfl,h0,by rw[if_pos rfl];exact List.mem_singleton.mpr rfl,ok⟩
  |succ i=>exact absurd e (now i b o')
 ·cases i with
  |zero =>
   cases j with
   |zero=>rfl
   |succ j=>exact absurd e2 (now j _ _)
  |succ i=>exact absurd e1 (now i _ _)
theorem fnB_ok {P:Program}{w:World}{K:PySem.W.Frag}{mg:Str->Option Value}{base:Heap}{x qual:Str}{st:Stmt}{f:Addr}{fd:FuncData}{N ps:List Str}{k n m:Nat}{B:FS} (F:Fun K x qual st f fd) (S:FnScope N ps (defScope st)) (hn:ps.length=n+1) (hN:N.length=n+1+m)
  (hb:∀ (cdv:Value) (A:Around) (outer:List Env) (s:Shared) (H:Hp) (E:XK),Room k (A.deeper (envOfC qual (defScope st) s.heap.objs.size f cdv))->XSs (cxOf CX0 P w K mg base N qual (defScope st) f cdv A outer s H E).nox (defBody st) B) :
  FnOk P w K mg base CX0 (k+1) f fd ps (spB K (fnB n m B)):=by
 have inv:∀ {o:MO}{ds:List D}{z:D×MO},fnB n m B o ds=some z->ds.length=n/\∃ r,B (.ow true o::(ds.map .im++List.replicate m .no))=some r/\retB r=some z:=fun {o ds z} h=>by
  unfold fnB at h
  split at h
  ·rename_i hl
   obtain⟨r,h1,h2⟩:=bnd_eq h;exact⟨hl,r,h1,h2⟩
  ·cases h
 have fin:∀ {Hi H H0' H':Hp}{a:Addr}{o':MO}{ρ':En}{σ':L2.St},RS K ⟨Hi,H,[a]⟩ H0' H' ρ' σ'->ρ'[0]?=some (.ow true o')->Same Hi H0'/\Same H0' H'/\(∀ b u,H b=some u->b≠a->H' b=some u)/\(∀ b u,H0' b=some u->Hi b=some u\/H b=none)/\OwOk K H0' H' a o' :=
  fun {Hi H H0' H' a o' ρ' σ'} R e=>by
   obtain⟨a',_,_,z,ok⟩:=R.ow 0 true o' e;rw[if_pos rfl] at z;have za:a'=a:=by simpa using z
   subst za;exact⟨R.init,R.same,fun b u h n=>R.keep b u h (by simpa using n),R.fresh,ok⟩
 refine F.ok S (fun vs H Q E h=>?_) (fun cdv A outer s H vs Q E hr h=>?_)
 ·obtain⟨Hi,a,o,vr,ds,d,o',rfl,_,_,_,r,e,_⟩:=h
  rw[hn,List.length_cons,<- r.length,(inv e).1]
 ·obtain⟨Hi,a,o,vr,ds,d,o',rfl,hs,h0,ok,r,e,q⟩:=h
  obtain⟨hl,res,h1,h2⟩:=inv e;have hlen:=r.length;have R:=RS.startB (n:=N.length) (m:=m) hs h0 ok r (by omega)
  refine⟨_,hb cdv A outer s H E hr,⟨Hi,H,[a]⟩,Hi,_,res,R,h1,?_⟩;cases res with
  |nx ρ' =>
   obtain⟨⟨b,oo⟩,z1,z2⟩:=bnd_eq (show bnd (owO ρ'[0]?) (fun q=>if q.1=true then some (D.non,q.2) else none)=some (d,o') from h2)
   obtain⟨hbt,z3⟩:=ifs z2;cases z3;have hbt:b=true:=hbt;subst hbt;exact fun σ' H0' H' s0 R=>let ⟨x1,x2,x3,x4,x5⟩:=fin R (owO_eq z1);q .non H0' H' x1 x2 x3 x4 x5 (by unfold Rep;rfl)
  |rt d' ρ' =>
   obtain⟨⟨b,oo⟩,z1,z2⟩:=bnd_eq (show bnd (owO ρ'[0]?) (fun q=>if q.1=true then some (d',q.2) else none)=some (d,o') from h2)
   obtain⟨hbt,z3⟩:=ifs z2;cases z3;have hbt:b=true:=hbt;subst hbt;exact fun v σ' H0' H' s0 R rv=>let ⟨x1,x2,x3,x4,x5⟩:=fin R (owO_eq z1);q v H0' H' x1 x2 x3 x4 x5 rv
  |bk ρ'=>cases h2
  |ct ρ'=>cases h2
end Fx
set_option maxRecDepth 100000
namespace Fx
open PySem PySem.Spec PyProof.Rows L2
noncomputable def NewAt (K:PySem.W.Frag) (Hi H:Hp) (o:MO) (a:Addr) (Hi' H':Hp):Prop :=
 Same Hi Hi'/\Same Hi' H'/\Same H H'/\(∀ b u,Hi' b=some u->Hi b=some u\/H b=none)/\Hi' a=none/\H a=none/\OwOk K Hi' H' a o
noncomputable def spN (K:PySem.W.Frag) (g:List D->Option MO):Sp:=fun vs H Q _=>∃ Hi ds o,Same Hi H/\Reps K Hi ds vs/\g ds=some o/\∀ a Hi' H',NewAt K Hi H o a Hi' H'->Q (.ref a) H'
structure DefN (P:Program) (w:World) (K:PySem.W.Frag) (mg:Str->Option Value) (base:Heap) (k:Nat) (x:Str) (g:List D->Option MO):Prop where
 ex:∃ f fd ps,FnOk P w K mg base CX0 k f fd ps (spN K g)/\Binds K fd ps []/\PySem.W.keepIn K (.ref f)=true/\mg x=some (.ref f)
theorem RS.got {K:PySem.W.Frag}{c:FC}{H0 H H0' H':Hp}{ρ:En}{σ:L2.St}{a:Addr}{o:MO} (R:RS K c H0 H ρ σ) (i:Nat) (h:NewAt K H0 H o a H0' H'):RS K c H0' H' (ρ.set i (.ow false o)) (σ.set i (some (.ref a))):=by
 obtain⟨s0,s',s,fr,a0,aH,ok⟩:=h;obtain⟨u,hu⟩:=ok.some
 have R2:RS K c H0' (fun b=>if b=a then none else H' b) ρ σ:=R.after ⟨s0,fun b v e=>by
  have:b≠a:=fun z=>by rw[z,aH] at e;cases e
  show (if b=a then none else H' b)=some v
  rw[if_neg this];exact s b v e,fun b v e=>by
  have:b≠a:=fun z=>by rw[z,a0] at e;cases e
  show (if b=a then none else H' b)=some v;rw[if_neg this];exact s' b v e,fr⟩
 have hup:upd (fun b=>if b=a then none else H' b) a u=H':=by
  funext b
  by_cases hb:b=a
  ·rw[hb,upd_same,hu]
  ·rw[upd_ne hb];exact if_neg hb
 have:=R2.setOwn (u:=u) (o:=o) (p:=a) i (if_pos rfl) (by rw[hup];exact ok)
 rw[hup] at this;exact this
section
variable {X:Cx}{pos:Pos}{e:Expr}{F:FE}{A:FA}
theorem xnew (i:Nat) {k:Nat}{x y:Str}{g:List D->Option MO}{p pos' cpos:Pos}{es:List Expr} (hN:X.N.Nodup) (G:DefN X.prog X.w X.K X.mg X.base k x g) (hr:Room k X.A) (ha:XA X (e::es) A) (hi:X.N[i]?=some y:=by rfl) (hx:Loc X.env.scope y:=by first | exact Or.inl rfl | exact Or.inr rfl)
  (hs:swapsWith (.Call (.Name x p) (e::es) [] cpos) (some (.Name y pos')) pos.line X.env=pure false:=by rfl) (hf:X.fn y=true\/X.env.scope.names.lookup y=some .local:=by first | exact .inl rfl | exact .inr rfl)
  (hg:Gl X x:=by rfl) (hdb:(x==("__debug__":Str))=false:=by decide) (he:starEach (e::es) X.env=(false,eval e X.env)::starEach es X.env:=by rfl) (hpl:(backTo cpos (starEach es X.env)).any (·.1)=false:=by rfl) :
  XS X (.Assign [.Name y pos'] (.Call (.Name x p) (e::es) [] cpos) pos) (sNew i g A):=by
 obtain⟨f,fd,ps,F,hb,hk,hm⟩:=G.ex;refine PS.wk (ps_set hN hi hx (pe_call F hr hg hm hk hb .nil pass0 ha hdb he hpl) hs hf) fun Dn σ H ⟨c,H0,ρ,r,R,f,q⟩=>?_
 unfold sNew at f;obtain⟨⟨ds,ρ1⟩,h1,f⟩:=bnd_eq f;obtain⟨o,h2,f⟩:=bnd_eq f;have f':some (Res.nx (ρ1.set i (.ow false o)))=some r:=f;cases f';exact⟨c,H0,ρ,ds,ρ1,R,h1,fun vs H1 Hh s1 R1 r1=>⟨H1,ds,o,R1.same,by rw[List.append_nil];exact r1,h2,fun a Hi' H' nw=>q _ Hi' H' (s1.trans nw.1) (R1.got i nw)⟩⟩
noncomputable def tN (K:PySem.W.Frag) (F:En->Option MO):TS:=fun Dn σ H=>∃ Hi He H0 ρ o,RS K ⟨Hi,He,[]⟩ H0 H ρ σ/\F ρ=some o/\∀ a H0' H',NewAt K Hi He o a H0' H'->Dn.rt (.ref a) H'
noncomputable def XN (X:Cx) (sts:List Stmt) (F:En->Option MO):Prop:=PSs X sts (tN X.K F)
theorem xnC {st:Stmt}{rest:List Stmt}{B:FS}{N:En->Option MO} (h1:PS X st (fun Dn σ H=>∃ Hi He H0 ρ r,RS X.K ⟨Hi,He,[]⟩ H0 H ρ σ/\B ρ=some r/\Post X.K ⟨Hi,He,[]⟩ Dn H0 r)) (h2:XN X rest N):XN X (st::rest) (nSeq B N) :=
 PSs.wk (pss_cons h1 h2) fun Dn σ H ⟨Hi,He,H0,ρ,o,R,f,q⟩=>by
  unfold nSeq at f;obtain⟨z,h,f⟩:=bnd_eq f;refine⟨Hi,He,H0,ρ,z,R,h,?_⟩;cases z with
  |nx ρ1=>exact fun σ' H0' H' s R'=>⟨Hi,He,H0',ρ1,o,R',f,q⟩
  |rt d ρ1=>cases f
  |bk ρ1=>cases f
  |ct ρ1=>cases f
theorem xnS {st:Stmt}{B:FS} (h:XS X st B):PS X st (fun Dn σ H=>∃ Hi He H0 ρ r,RS X.K ⟨Hi,He,[]⟩ H0 H ρ σ/\B ρ=some r/\Post X.K ⟨Hi,He,[]⟩ Dn H0 r) :=
 PS.wk h fun Dn σ H ⟨Hi,He,H0,ρ,r,R,f,q⟩=>⟨⟨Hi,He,[]⟩,H0,ρ,r,R,f,q⟩
noncomputable def XPs (X:Cx) (pos:Pos) (ks:List Str) (keys:List (Option Expr)) (values:List Expr) (A:FA):Prop:=∃ trs,PPs X pos keys values trs/\ks.length=keys.length/\keys.length=values.length/\keys.all (·.isSome)=true /\
 ∀ (c:FC) (H0 H:Hp) (ρ ρ':En) (ds:List D) (σ:L2.St) (Q:List (V×V)->Hp->Prop),RS X.K c H0 H ρ σ->A ρ=some (ds,ρ')->(∀ vs H0' H',Same H0 H0'->RS X.K c H0' H' ρ' σ->Reps X.K H0' ds vs->Q ((ks.map V.str).zip vs) H')->tPairs trs σ H Q
theorem xp0:XPs X pos [] [] [] aN:=⟨[],pps_nil,rfl,rfl,rfl,fun c H0 H ρ ρ' ds σ Q R f q=>by
 have f':some (([]:List D),ρ)=some (ds,ρ'):=f;cases f';exact q [] H0 H (Same.refl _) R Reps.nil_⟩
theorem xpC {k:Str}{ks:List Str}{keys:List (Option Expr)}{values:List Expr}{j:Nat}{p2:Pos} (he:XE X e F) (hr:XPs X pos ks keys values A):XPs X pos (k::ks) (some (.Constant (.str k) j p2)::keys) (e::values) (aC F A):=by
 obtain⟨trs,h1,h2,h3,h4,h5⟩:=hr;refine⟨(tC (.str k),tE X.K F)::trs,pps_cons pe_str he h1,by rw[List.length_cons,List.length_cons,h2],by rw[List.length_cons,List.length_cons,h3],by rw[List.all_cons,h4];rfl,fun c H0 H ρ ρ' ds σ Q R f q=>?_⟩
 unfold aC at f;obtain⟨⟨d,ρ1⟩,g1,f⟩:=bnd_eq f;obtain⟨⟨r,ρ2⟩,g2,f⟩:=bnd_eq f;have f':some (d::r,ρ2)=some (ds,ρ'):=f;cases f';refine⟨c,H0,ρ,d,ρ1,R,g1,fun v H1 Hh s1 R1 r1=>?_⟩
 exact h5 c H1 Hh ρ1 _ r σ _ R1 g2 fun vs H2 Hh2 s2 R2 r2=>q (v::vs) H2 Hh2 (s1.trans s2) R2 (Reps.cons (Rep.mono s2 d r1) r2)
theorem merge_nd:∀ (more kvs:List (Key×V)),((kvs++more).map (·.1)).Nodup->mergeK kvs more=kvs++more
 |[],kvs,_=>by rw[List.append_nil];rfl
 |p::r,kvs,h=>by
  have hn:valV kvs p.1=none:=by
   cases q:valV kvs p.1 with
   |none=>rfl
   |some v =>
    have hm:=valV_in q;rw[List.map_append,List.map_cons,List.nodup_append] at h;exact absurd rfl (h.2.2 _ hm _ (List.mem_cons_self ..))
  show mergeK (putK kvs p.1 p.2) r=_;rw[putK_new p.2 hn,merge_nd r _ (by simpa using h)]
  simp
theorem zipD_kv:∀ (ks:List Str) (vs:List V),(ks.map V.str).zip vs=(zipD ks vs).map fun kv=>(kV kv.1,kv.2)
 |[],_=>rfl
 |_::_,[]=>rfl
 |k::ks,v::vs=>by
  rw[zipD_cons,List.map_cons,List.map_cons,List.zip_cons_cons,zipD_kv ks vs];rfl
theorem RS.fence {K:PySem.W.Frag}{c:FC}{H0 H:Hp}{ρ:En}{σ:L2.St}{p:Addr}{u:HO} (R:RS K c H0 H ρ σ) (no:ρ.all noOw=true) (hp:H p=none):RS K ⟨H0,upd H p u,[]⟩ H0 (upd H p u) ρ σ:=by
 have now:∀ (i:Nat) (b:Bool) (o:MO),¬ ρ[i]?=some (.ow b o):=fun i b o e=>by
  have:=List.all_eq_true.mp no _ (List.mem_of_getElem? e);cases this
 refine⟨fun b v e=>?_,Same.refl _,fun b o e=>.inl e,fun b o e _=>e,fun a h=>(by cases h),R.len,R.im,fun i b o e=>absurd e (now i b o),fun i j b b' o o' a e=>absurd e (now i b o)⟩
 have:b≠p:=fun z=>by rw[z,R.same.free hp] at e;cases e
 rw[upd_ne this];exact R.same b v e
theorem xn1 {ks:List Str}{keys:List (Option Expr)}{values:List Expr}{rpos:Pos} (h:XPs X pos ks keys values A) (h0:keys≠[]:=by simp) (h15:keys.length<=15:=by simp):XN X [.Return (some (.Dict keys values pos)) rpos] (nRet ks A):=by
 obtain⟨trs,h1,h2,h3,h4,h5⟩:=h;refine PSs.wk (pss_one (ps_ret (pe_disp h1 h4 h3 h0 h15))) fun Dn σ H ⟨Hi,He,H0,ρ,o,R,f,q⟩=>?_
 unfold nRet at f
 by_cases no:ρ.all noOw=true
 ·rw[if_pos no] at f
  obtain⟨⟨ds,ρ1⟩,g1,f⟩:=bnd_eq f;obtain⟨⟨l1,l2,l3⟩,rfl⟩:=ifs f;have l1:ds.length=ks.length:=l1;show ∀ p,H p=none->_;intro p hp;refine h5 _ H0 _ ρ ρ1 ds σ _ (R.fence no hp) g1 fun vs H1 Hh s1 R1 r1=>?_
  have hl:=r1.length;have kp:Hh p=some (.dK []):=R1.keep p _ upd_same (by simp)
  refine⟨kp,zipD ks vs,?_,?_,?_⟩
  ·exact zipD_kv ks vs
  ·unfold zipD;rw[List.length_zip,List.length_map];omega
  ·have nd:mergeK [] (zipD ks vs)=zipD ks vs:=by
    rw[merge_nd]
    ·rfl
    ·rw[List.nil_append]
     unfold zipD;rw[List.map_fst_zip (by rw[List.length_map];omega)]
     exact List.pairwise_map.mpr (l3.imp fun hab z=>hab (Sum.inr.inj z))
   rw[nd];have S1:=R.step;have S2:=R1.step
   have p1:H1 p=none:=by
    cases z:H1 p with
    |none=>rfl
    |some v =>
     rcases S2.fr p v z with y | y
     ·rw[R.same.free hp] at y;cases y
     ·rw[upd_same] at y;cases y
   refine q p H1 _ ⟨S1.s0.trans S2.s0,fun b v e=>?_,fun b v e=>?_,fun b v e=>?_,p1,S1.s.free hp,?_⟩
   ·have:b≠p:=fun z=>by rw[z,p1] at e;cases e
    rw[upd_ne this];exact S2.s' b v e
   ·have e1:=S1.s b v e
    have:b≠p:=fun z=>by rw[z,hp] at e1;cases e1
    rw[upd_ne this];exact S2.s b v (by rw[upd_ne this];exact e1)
   ·rcases S2.fr b v e with y | y
    ·exact S1.fr b v y
    ·have:b≠p:=fun z=>by rw[z,upd_same] at y;cases y
     rw[upd_ne this] at y;exact .inr (S1.s.free y)
   ·have e1:(ks.zip ds).map (·.1)=ks:=List.map_fst_zip (by omega)
    have e2:(ks.zip ds).map (·.2)=ds:=List.map_snd_zip (by omega)
    exact⟨ks,vs,by rw[upd_same];rfl,e1.symm,by rw[e2];exact r1⟩
 ·rw[if_neg no] at f;cases f
end
theorem fnN_ok {P:Program}{w:World}{K:PySem.W.Frag}{mg:Str->Option Value}{base:Heap}{x qual:Str}{st:Stmt}{f:Addr}{fd:FuncData}{N ps:List Str}{k n m:Nat}{B:En->Option MO} (F:Fun K x qual st f fd) (S:FnScope N ps (defScope st)) (hn:ps.length=n) (hN:N.length=n+m)
  (hb:∀ (cdv:Value) (A:Around) (outer:List Env) (s:Shared) (H:Hp) (E:XK),Room k (A.deeper (envOfC qual (defScope st) s.heap.objs.size f cdv))->XN (cxOf CX0 P w K mg base N qual (defScope st) f cdv A outer s H E).nox (defBody st) B) :
  FnOk P w K mg base CX0 (k+1) f fd ps (spN K (fnN n m B)):=by
 refine F.ok S (fun vs H Q E h=>?_) (fun cdv A outer s H vs Q E hr h=>?_)
 ·obtain⟨Hi,ds,o,_,r,e,_⟩:=h
  unfold fnN at e
  split at e
  ·rename_i hl;rw[hn,<- r.length];exact hl
  ·cases e
 ·obtain⟨Hi,ds,o,hs,r,e,q⟩:=h
  unfold fnN at e
  split at e
  ·rename_i hl
   exact⟨_,hb cdv A outer s H E hr,Hi,H,Hi,_,o,RS.start (n:=N.length) (m:=m) hs r (by rw[<- r.length];omega),e,q⟩
  ·cases e
end Fx
set_option maxRecDepth 100000
namespace Fx
open PySem PySem.Spec PyProof.Rows L2
section
variable {X:Cx}{K:PySem.W.Frag}{pos:Pos}{e:Expr}{F:FE}
noncomputable def rSlS:V->Option Int->Option Int->Hp->VK->Prop:=fun x lo hi H Q=>∃ z,x=.str z/\z.length<=sizeLine/\Q (.str (Txt.slice z lo hi)) H
theorem part_ {v:Value}{o:Option Int} (p:IsPart v o):∃ l:Option (Int×Tok),v=partValue l/\l.map (·.1)=o:=by
 cases p with
 |none=>exact⟨none,rfl,rfl⟩
 |int i t=>exact⟨some (i,t),rfl,rfl⟩
theorem sl_str:SlR X rSlS:=by
 intro pins s σ H x v vl vu lo hi sl Q I rx hs pl pu h;obtain⟨z,rfl,hz,q⟩:=h;obtain⟨t,rfl⟩:=rx;obtain⟨l,rfl,rfl⟩:=part_ pl;obtain⟨u,rfl,rfl⟩:=part_ pu;refine⟨"str",_,slot_str_getitem.lookup,typeIs_str _ _ _,wpAny_getItem_str_slice (l:=l) (u:=u) (st:=none) hs rfl ?_⟩;exact post_val_or_str ⟨Nat.le_trans (Txt.slice_le z _ _) hz,fun t' k=>⟨.str (Txt.slice z (l.map (·.1)) (u.map (·.1))),H,I.tok _,⟨_,rfl⟩,q⟩⟩
theorem xsl2 {lo hi:Option Expr}{A B:FO}{p2:Pos} (he:XE X e F) (hl:XO X lo A) (hh:XO X hi B):XE X (.Subscript e (.Slice lo hi none p2) pos) (eSl2 F A B):=PE.wk (pe_slice ((sl_list.or sl_tup).or sl_str) he hl hh) fun σ H Q ⟨c,H0,ρ,d,ρ',R,f,q⟩=>by
 unfold eSl2 at f;obtain⟨⟨x,ρ1⟩,h1,f⟩:=bnd_eq f;obtain⟨⟨l,ρ2⟩,h2,f⟩:=bnd_eq f;obtain⟨⟨u,ρ3⟩,h3,f⟩:=bnd_eq f;obtain⟨d',h4,f⟩:=bnd_eq f;dsimp only at h2 h3 h4 f;have f':some (d',ρ3)=some (d,ρ'):=f;cases f';refine⟨c,H0,ρ,x,ρ1,R,h1,fun v H1 Hh s1 R1 r1=>?_⟩
 refine⟨c,H1,ρ1,l,ρ2,R1,h2,fun H2 Hh2 s2 R2=>?_⟩
 refine⟨c,H2,ρ2,u,_,R2,h3,fun H3 Hh3 s3 R3=>?_⟩
 have r3:=Rep.mono s3 x (Rep.mono s2 x r1);cases x with
 |lst ds =>
  have e:D.lst (dCut ds l u)=d:=Option.some.inj h4;subst e;unfold Rep at r3;obtain⟨p,vs,rfl,s,t⟩:=r3;refine .inl (.inl ⟨p,vs,rfl,Same.seq R3.same s,fun p' hp=>?_⟩)
  have S:=Step.alloc (o:=.lst (cutV vs l u)) R3.same hp;refine q _ _ _ (s1.trans (s2.trans (s3.trans S.s0))) (R3.after S) ?_;unfold Rep;exact⟨p',_,rfl,.inl (.inl upd_same),Reps.mono S.s0 _ (cut_of t l u)⟩
 |tup ds =>
  have h5:(if dEnd ds.length 0 l=0/\dEnd ds.length ds.length u=ds.length then none else some (D.tup (dCut ds l u)))=some d:=h4
  by_cases hn:dEnd ds.length 0 l=0/\dEnd ds.length ds.length u=ds.length
  ·rw[if_pos hn] at h5;cases h5
  ·rw[if_neg hn] at h5
   cases h5;unfold Rep at r3;obtain⟨p,vs,rfl,s,t⟩:=r3;refine .inl (.inr ⟨p,vs,rfl,Same.seqT R3.same s,?_,fun p' hp=>?_⟩)
   ·rw[<- dEnd_eq,<- dEnd_eq,<- t.length];exact hn
   have S:=Step.alloc (o:=.tup (cutV vs l u)) R3.same hp;refine q _ _ _ (s1.trans (s2.trans (s3.trans S.s0))) (R3.after S) ?_;unfold Rep;exact⟨p',_,rfl,.inl (.inl upd_same),Reps.mono S.s0 _ (cut_of t l u)⟩
 |str z =>
  obtain⟨hz,rfl⟩:=ifs (c:=z.length<=sizeLine) h4;unfold Rep at r3;exact .inr ⟨z,r3,hz,q _ H3 Hh3 (s1.trans (s2.trans s3)) R3 (rep_str H3 _)⟩
 |_=>cases h4
theorem OpR.or {f:Value->Value->Sem Value}{r r':R2} (h:OpR X f r) (h':OpR X f r'):OpR X f (fun x y H Q=>r x y H Q\/r' x y H Q):=by
 intro pins s σ H x y v u Q I rx ry q
 rcases q with q | q
 ·exact h pins s σ H x y v u Q I rx ry q
 ·exact h' pins s σ H x y v u Q I rx ry q
theorem inOpD:OpD K (rIn K false) dIn:=inD_op fun x y d e=>by
 cases y with
 |tup xs=>obtain⟨h,rfl⟩:=ifs (c:=okIn x xs=true) e;exact⟨xs,.inl rfl,h,rfl⟩
 |lst xs=>obtain⟨h,rfl⟩:=ifs (c:=okIn x xs=true) e;exact⟨xs,.inr rfl,h,rfl⟩
 |_=>cases e
theorem notInOpD:OpD K (rIn K true) dNotIn:=inD_op fun x y d e=>by
 cases y with
 |tup xs=>obtain⟨h,rfl⟩:=ifs (c:=okIn x xs=true) e;exact⟨xs,.inl rfl,h,rfl⟩
 |lst xs=>obtain⟨h,rfl⟩:=ifs (c:=okIn x xs=true) e;exact⟨xs,.inr rfl,h,rfl⟩
 |_=>cases e
theorem cIn2:CmpOk X .In dIn2:=⟨_,OpR.or op_in_seq op_in_str,fun c H0 H ρ σ x y d vx vy Q R r1 r2 e q=>by
 cases y with
 |tup xs=>rw[dIn2_t] at e;exact .inl (inOpD c H0 H ρ σ x (.tup xs) d vx vy Q R r1 r2 e q)
 |lst xs=>rw[dIn2_l] at e;exact .inl (inOpD c H0 H ρ σ x (.lst xs) d vx vy Q R r1 r2 e q)
 |str b =>
  cases x with
  |str a =>
   have e':some (D.bl (inS a b))=some d:=e;cases e';unfold Rep at r1 r2;subst r1 r2;exact .inr ⟨a,b,rfl,rfl,q _ H0 H (Same.refl _) R (rep_bl _ _)⟩
  |_=>cases e
 |_=>cases x <;> cases e⟩
theorem cNotIn2:CmpOk X .NotIn dNotIn2:=⟨_,OpR.or op_notIn_seq op_notIn_str,fun c H0 H ρ σ x y d vx vy Q R r1 r2 e q=>by
 cases y with
 |tup xs=>rw[dNotIn2_t] at e;exact .inl (notInOpD c H0 H ρ σ x (.tup xs) d vx vy Q R r1 r2 e q)
 |lst xs=>rw[dNotIn2_l] at e;exact .inl (notInOpD c H0 H ρ σ x (.lst xs) d vx vy Q R r1 r2 e q)
 |str b =>
  cases x with
  |str a =>
   have e':some (D.bl (!inS a b))=some d:=e;cases e';unfold Rep at r1 r2;subst r1 r2;exact .inr ⟨a,b,rfl,rfl,q _ H0 H (Same.refl _) R (rep_bl _ _)⟩
  |_=>cases e
 |_=>cases x <;> cases e⟩
end
end Fx
set_option maxRecDepth 100000
namespace Fx
open PySem PySem.Spec PyProof.Rows L2
theorem owT_eq {s:Option Sl}{o:MO} (h:owT s=some o):s=some (.ow true o):=by
 unfold owT at h
 split at h
 ·cases h;rfl
 ·cases h
theorem frAt_get {ρ:En}{i:Nat}{o:MO}:∀ {js:List Nat}{fr:En},frAt ρ i o js=some fr->fr.length=js.length/\∀ (k:Nat) (s:Sl),fr[k]?=some s->∃ j,js[k]?=some j/\((j=i/\s=.ow true o)\/∃ d,ρ[j]?=some (.im d)/\s=.im d)
 |[],_,h=>by
  have h':([]:En)=_:=Option.some.inj h;subst h';exact⟨rfl,fun k s e=>by simp at e⟩
 |j::js,_,h=>by
  unfold frAt at h;obtain⟨s,h1,h⟩:=bnd_eq h;obtain⟨r,h2,h⟩:=bnd_eq h;cases h;obtain⟨a,b⟩:=frAt_get h2;refine⟨by rw[List.length_cons,List.length_cons,a],fun k s' e=>?_⟩
  cases k with
  |zero =>
   simp at e;subst e;refine⟨j,rfl,?_⟩
   by_cases hj:j=i
   ·rw[if_pos hj] at h1;cases h1;exact .inl ⟨hj,rfl⟩
   ·rw[if_neg hj] at h1
    cases z:ρ[j]? with
    |none=>rw[z] at h1;cases h1
    |some sl =>
     rw[z] at h1;cases sl with
     |im d=>exact .inr ⟨d,rfl,(Option.some.inj h1).symm⟩
     |_=>cases h1
  |succ k =>
   obtain⟨j',x1,x2⟩:=b k s' (by simpa using e)
   exact⟨j',by simpa using x1,x2⟩
theorem frAt_set {ρ:En}{i:Nat}{o:MO}{s:Sl}:∀ js:List Nat,frAt (ρ.set i s) i o js=frAt ρ i o js
 |[]=>rfl
 |j::js=>by
  unfold frAt;rw[frAt_set js]
  by_cases hj:j=i
  ·rw[if_pos hj,if_pos hj]
  ·rw[if_neg hj,if_neg hj,List.getElem?_set_ne (Ne.symm hj)]
theorem nodup_at {js:List Nat} (h:js.Nodup) {k l i:Nat} (a:js[k]?=some i) (b:js[l]?=some i):k=l:=by
 obtain⟨hk,ek⟩:=List.getElem?_eq_some_iff.mp a;obtain⟨hl,el⟩:=List.getElem?_eq_some_iff.mp b;exact (List.getElem_inj h).mp (ek.trans el.symm)
theorem RS.blockB {K:PySem.W.Frag}{c:FC}{H0 H:Hp}{ρ:En}{σ:L2.St}{js:List Nat}{fr:En}{d:D}{x:V}{i:Nat}{b:Bool}{o:MO}{a:Addr} (R:RS K c H0 H ρ σ) (hi:ρ[i]?=some (.ow b o)) (ha:σ[i]?=some (some (.ref a))) (nd:js.Nodup) (hf:frAt ρ i o js=some fr) (rx:Rep K H0 d x) :
  RS K ⟨H0,H,[a]⟩ H0 H (.im d::fr) (some x::frv σ js):=by
 obtain⟨l,g⟩:=frAt_get hf;obtain⟨a',y1,y2,y3,y4⟩:=R.ow i b o hi;rw[ha] at y1;cases y1;refine⟨R.same,Same.refl _,fun b o e=>.inl e,fun b o e _=>e,fun z hz e=>?_,?_,fun k d' e=>?_,fun k b' o' e=>?_,fun k k' b1 b2 o1 o2 z e1 e2 e3 e4=>?_⟩
 ·obtain⟨u,hu⟩:=y4.some
  have hz':z=a:=by simpa using hz
  have e:H z=none:=e;rw[hz',hu] at e;cases e
 ·rw[List.length_cons,List.length_cons,l,frv,List.length_map]
 ·cases k with
  |zero=>simp at e;subst e;exact⟨x,rfl,rx⟩
  |succ k =>
   obtain⟨j,x1,x2⟩:=g k _ (by simpa using e)
   rcases x2 with ⟨_,x3⟩ | ⟨d2,x2,x3⟩
   ·cases x3
   ·cases x3
    obtain⟨v,w1,w2⟩:=R.im j d' x2;refine⟨v,?_,w2⟩;show (frv σ js)[k]?=some (some v);unfold frv;rw[List.getElem?_map,x1];show some (σ[j]?).join=some (some v);rw[w1];rfl
 ·cases k with
  |zero=>simp at e
  |succ k =>
   obtain⟨j,x1,x2⟩:=g k _ (by simpa using e)
   rcases x2 with ⟨hj,x3⟩ | ⟨d2,_,x3⟩
   ·cases x3
    subst hj;refine⟨a,?_,y2,by rw[if_pos rfl];exact List.mem_singleton.mpr rfl,y4⟩
    show (frv σ js)[k]?=some (some (.ref a));unfold frv;rw[List.getElem?_map,x1];show some (σ[j]?).join=some (some (.ref a));rw[ha];rfl
   ·cases x3
 ·cases k with
  |zero=>simp at e1
  |succ k =>
   cases k' with
   |zero=>simp at e2
   |succ k' =>
    obtain⟨j,x1,x2⟩:=g k _ (by simpa using e1)
    obtain⟨j',x1',x2'⟩:=g k' _ (by simpa using e2)
    rcases x2 with ⟨hj,_⟩ | ⟨_,_,x3⟩
    ·rcases x2' with ⟨hj',_⟩ | ⟨_,_,x3'⟩
     ·rw[hj] at x1;rw[hj'] at x1'
      rw[nodup_at nd x1 x1']
     ·cases x3'
    ·cases x3
theorem RS.unblock {K:PySem.W.Frag}{c:FC}{H0 H H2 Hh2:Hp}{ρ ρz:En}{σ:L2.St}{js:List Nat}{x:V}{i q:Nat}{b:Bool}{o o':MO}{a:Addr} (R:RS K c H0 H ρ σ) (hi:ρ[i]?=some (.ow b o)) (ha:σ[i]?=some (some (.ref a)))
  (R2:RS K ⟨H0,H,[a]⟩ H2 Hh2 ρz (some x::frv σ js)) (hq:owT ρz[q+1]?=some o'):RS K c H2 Hh2 (ρ.set i (.ow b o')) σ:=by
 obtain⟨a',_,_,z3,z4⟩:=R2.ow (q+1) true o' (owT_eq hq);rw[if_pos rfl] at z3;have e:a'=a:=by simpa using z3
 subst e;exact R.lent hi ha R2.init R2.same (fun y u e n=>R2.keep y u e (by simpa using n)) R2.fresh z4
theorem lcB_of {K:PySem.W.Frag}{c:FC}{H1 Hh:Hp}{ρ:En}{σ:L2.St}{js:List Nat}{i q:Nat}{b:Bool}{o o':MO}{T:FT}{F:FE}{xs out:List D}{J:It}{Qf:List V->Hp->Prop} (R:RS K c H1 Hh ρ σ) (hi:ρ[i]?=some (.ow b o)) (nd:js.Nodup) (hc:cGoB T F ρ i js q o xs=some (out,o')) (hz:xs.length<=sizeLine) (hy:Yields K J H1 xs)
  (qf:∀ ys H0 H,Same H1 H0->RS K c H0 H (ρ.set i (.ow b o')) σ->Reps K H0 out ys->Qf ys H):LcW js (tTt K T) (tE K F) σ Qf J Hh:=by
 have il:i<ρ.length:=(List.getElem?_eq_some_iff.mp hi).1;obtain⟨a,ha,_⟩:=R.ow i b o hi;have at':∀ o,(ρ.set i (.ow b o))[i]?=some (.ow b o):=fun o=>List.getElem?_set_self il
 have e0:ρ.set i (.ow b o)=ρ:=by
  obtain⟨_,e⟩:=List.getElem?_eq_some_iff.mp hi;rw[<- e];exact List.set_getElem_self il
 refine⟨fun n m ys H=>m=xs.length-n/\n<=xs.length/\∃ H0 on,Same H1 H0/\RS K c H0 H (ρ.set i (.ow b on)) σ/\∃ pre rest,Reps K H0 pre ys/\pre.length<=n/\cGoB T F ρ i js q on (xs.drop n)=some (rest,o')/\pre++rest=out,
  ⟨xs.length,by simp,Nat.zero_le _,H1,o,Same.refl _,by rw[e0];exact R,[],out,Reps.nil_,Nat.zero_le _,by simpa using hc,rfl⟩,?_⟩
 rintro n m ys H ⟨rfl,hn,H0,on,s0,R0,pre,rest,rp,lp,hg,e⟩;obtain⟨y1,y2⟩:=hy H0 H n s0 R0.same
 by_cases hlt:n<xs.length
 ·have hd:xs[n]?=some xs[n]:=by simp[hlt]
  obtain⟨go,yl⟩:=y1 _ hd;refine .inr ⟨go,by rw[<- rp.length];omega,fun x H' hx=>?_⟩
  obtain⟨rfl,rx⟩:=yl x H' hx;rw[drop_of hd,cGoB_cons] at hg;obtain⟨fr,g0,hg⟩:=bnd_eq hg;obtain⟨⟨bb,ρb⟩,g1,hg⟩:=bnd_eq hg;dsimp only at hg;have Rb:=R0.blockB (at' on) ha nd (by rw[frAt_set];exact g0) rx
  refine⟨⟨H0,H',[a]⟩,H0,_,bb,ρb,Rb,g1,fun H2 Hh2 s2 R2=>?_⟩
  cases bb with
  |false =>
   rw[if_neg Bool.false_ne_true] at hg ⊢;obtain⟨o2,g4,hg⟩:=bnd_eq hg;have R3:=R0.unblock (at' on) ha R2 g4;rw[List.set_set] at R3;exact⟨xs.length-(n+1),by omega,rfl,hlt,H2,o2,s0.trans s2,R3,pre,rest,Reps.mono s2 _ rp,by omega,hg,e⟩
  |true =>
   rw[if_pos rfl] at hg ⊢;obtain⟨⟨z,ρz⟩,g2,hg⟩:=bnd_eq hg;obtain⟨o2,g4,hg⟩:=bnd_eq hg;obtain⟨⟨t,ot⟩,g3,hg⟩:=bnd_eq hg;dsimp only at hg;have hg':some (z::t,ot)=some (rest,o'):=hg;cases hg';refine⟨⟨H0,H',[a]⟩,H2,ρb,z,ρz,R2,g2,fun v H3 Hh3 s3 R3 r3=>?_⟩
   have R4:=R0.unblock (at' on) ha R3 g4;rw[List.set_set] at R4;refine⟨xs.length-(n+1),by omega,rfl,hlt,H3,o2,s0.trans (s2.trans s3),R4,pre++[z],t,(Reps.mono (s2.trans s3) _ rp).app (Reps.one r3),?_,g3,?_⟩
   ·rw[List.length_append,List.length_singleton];omega
   ·rw[List.append_assoc];exact e
 ·have ei:n=xs.length:=by omega
  have hn:xs.drop n=[]:=List.drop_eq_nil_of_le (by omega)
  rw[hn,cGoB_nil] at hg;have hg':some (([]:List D),on)=some (rest,o'):=hg;cases hg';rw[List.append_nil] at e;subst e;exact .inl ⟨y2 (by omega),by rw[<- rp.length];omega,qf ys H0 H s0 R0 rp⟩
theorem lcB_inv {js:List Nat}{i q:Nat}{T:FT}{F:FE}{xs:List D}{ρ ρ':En}{d:D} (h:lcB js i q T F xs ρ=some (d,ρ')):∃ b o ys o',ρ[i]?=some (.ow b o)/\cGoB T F ρ i js q o xs=some (ys,o')/\xs.length<=sizeLine/\js.Nodup/\d=.lst ys/\ρ'=ρ.set i (.ow b o'):=by
 unfold lcB at h;obtain⟨⟨b,o⟩,h1,h⟩:=bnd_eq h;obtain⟨⟨ys,o'⟩,h2,h⟩:=bnd_eq h;obtain⟨⟨l1,l2,l3⟩,h⟩:=ifs h;cases h;exact⟨b,o,ys,o',owO_eq h1,h2,l1,l3,rfl,rfl⟩
section
variable {X:Cx}{scope sc:Scope}{x:Str}{frees:List Str}{js:List Nat}{px pos p pos':Pos}{elt iter a:Expr}{ifs:List Expr}{I F:FE}{T:FT}
end
end Fx
set_option maxRecDepth 100000
namespace Fx
open PySem PySem.Spec PyProof.Rows L2
section
variable {X:Cx}{pos:Pos}
theorem xglI {x:Str}{i:Int} (h:∃ t,X.mg x=some (.int i t)) (hg:Gl X x:=by rfl) (hd:(x==("__debug__":Str))=false:=by decide):XE X (.Name x pos) (eC (.int i)):=by
 obtain⟨t,h⟩:=h
 exact PE.wk (pe_glob hg h (v:=.int i) ⟨t,rfl⟩ hd) fun σ H Q ⟨c,H0,ρ,d,ρ',R,f,q⟩=>by
  obtain⟨rfl,rfl⟩:=eC_inv f;exact q _ H0 H (Same.refl _) R (rep_int _ _)
theorem xglS {x z:Str} (h:∃ t,X.mg x=some (.str z t)) (hg:Gl X x:=by rfl) (hd:(x==("__debug__":Str))=false:=by decide):XE X (.Name x pos) (eC (.str z)):=by
 obtain⟨t,h⟩:=h
 exact PE.wk (pe_glob hg h (v:=.str z) ⟨t,rfl⟩ hd) fun σ H Q ⟨c,H0,ρ,d,ρ',R,f,q⟩=>by
  obtain⟨rfl,rfl⟩:=eC_inv f;exact q _ H0 H (Same.refl _) R (rep_str _ _)
end
section
variable {X:Cx}{scope sc:Scope}{x y:Str}{frees:List Str}{js:List Nat}{px py pos spos p pos':Pos}{elt iter a:Expr}{ifs:List Expr}{I F:FE}{T:FT}
theorem xsetlcB (n:Nat) (hN:X.N.Nodup) (i q:Nat) (hc:X.calm=true) (hsc:X.env.scope=sc) (Bk:ScB X.N sc scope x frees js) (hi:XE X iter I)
  (ht:∀ s H C fp,XTs (cxB X (x::frees) scope s H C fp) ifs T) (he:∀ s H C fp,XE (cxB X (x::frees) scope s H C fp) elt F) (hi':X.N[n]?=some y:=by rfl) (hy:X.env.scope.names.lookup y=some .local:=by rfl)
  (hsw:swapsWith (.ListComp elt [⟨.Name x px,iter,ifs,0⟩] scope pos) (some (.Name y py)) spos.line X.env=pure true:=by rfl)
  (hs:∀ v,foldedSetIterable iter X.env v=pure v:=by intro _;rfl):XS X (.Assign [.Name y py] (.ListComp elt [⟨.Name x px,iter,ifs,0⟩] scope pos) spos) (sSet n (eLCB js i q I T F)) :=
 PS.wk (ps_setLC (tt:=tTt X.K T) (te:=tE X.K F) hN hi' hy hc hsc Bk (pi_sq hi) ht he hsw hs) fun Dn σ H ⟨c,H0,ρ,r,R,f,qq⟩=>by
  unfold sSet at f;obtain⟨⟨d,ρ1⟩,h1,f⟩:=bnd_eq f;have f':some (Res.nx (ρ1.set n (.im d)))=some r:=f;cases f';unfold eLCB at h1;obtain⟨⟨z,ρ2⟩,h0,h1⟩:=bnd_eq h1;obtain⟨xs,h2,h1⟩:=bnd_eq h1;obtain⟨b,o,ys,o',k1,k2,k3,k4,rfl,rfl⟩:=lcB_inv h1;refine walk_of_data R h0 h2 fun J H1 Hh s1 R1 hy=>?_
  refine lcB_of R1 k1 k4 k2 k3 hy fun vs H2 Hh2 s2 R2 r2=>fun p hp=>?_
  have S:=Step.alloc (o:=.lst vs) R2.same hp;refine qq _ _ _ (s1.trans (s2.trans S.s0)) ((R2.after S).set n ?_);unfold Rep;exact⟨p,vs,rfl,.inl (.inl upd_same),Reps.mono S.s0 _ r2⟩
end
end Fx
set_option maxRecDepth 100000
namespace Fx
open PySem PySem.Spec PyProof.Rows
theorem sortedS_pw:∀ {x:Str}{l:List Str},risingS x l=true->(x::l).Pairwise fun a b=>ltS b a=false
 |x,[],_=>List.pairwise_singleton _ _
 |x,y::r,h=>by
  have h':(!ltCps y.cps.toList x.cps.toList&&risingS y r)=true:=h;rw[Bool.and_eq_true] at h';have ih:=sortedS_pw h'.2
  have a1:ltS y x=false:=by
   have:=h'.1;rw[ltCps_eq] at this
   simpa [ltS] using this
  refine List.pairwise_cons.mpr ⟨fun z hz=>?_,ih⟩
  rcases List.mem_cons.mp hz with rfl | q
  ·exact a1
  ·have a2:=(List.pairwise_cons.mp ih).1 z q
   unfold ltS at a1 a2 ⊢;rw[decide_eq_false_iff_not] at a1 a2 ⊢;exact List.not_lt.mpr (List.le_trans (List.not_lt.mp a1) (List.not_lt.mp a2))
theorem ins_pw {x:Str}:∀ {l:List Str},(l.Pairwise fun a b=>ltS b a=false)->(insS x l).Pairwise fun a b=>ltS b a=false
 |[],_=>List.pairwise_singleton _ _
 |y::r,h=>by
  unfold insS;obtain⟨h1,h2⟩:=List.pairwise_cons.mp h
  by_cases q:ltS y x=true
  ·rw[if_pos q]
   refine List.pairwise_cons.mpr ⟨fun z hz=>?_,ins_pw h2⟩
   rcases mem_insS.mp hz with rfl | hz
   ·unfold ltS at q ⊢
    rw[decide_eq_true_eq] at q;rw[decide_eq_false_iff_not];exact List.not_lt.mpr (List.le_of_lt q)
   ·exact h1 z hz
  ·rw[if_neg q]
   have q:ltS y x=false:=by simpa using q
   refine List.pairwise_cons.mpr ⟨fun z hz=>?_,h⟩
   rcases List.mem_cons.mp hz with rfl | hz
   ·exact q
   ·have a2:=h1 z hz
    unfold ltS at q a2 ⊢;rw[decide_eq_false_iff_not] at q a2 ⊢;exact List.not_lt.mpr (List.le_trans (List.not_lt.mp q) (List.not_lt.mp a2))
theorem sortS_pw:∀ l:List Str,(sortS l).Pairwise fun a b=>ltS b a=false
 |[]=>List.Pairwise.nil
 |x::r=>by unfold sortS;exact ins_pw (sortS_pw r)
theorem ins_perm {x:Str}:∀ {l:List Str},(insS x l).Perm (x::l)
 |[]=>List.Perm.refl _
 |y::r=>by
  unfold insS
  split
  ·exact ((ins_perm (l:=r)).cons y).trans (List.Perm.swap x y r)
  ·exact List.Perm.refl _
theorem sortS_perm:∀ l:List Str,(sortS l).Perm l
 |[]=>List.Perm.refl _
 |x::r=>by unfold sortS;exact ins_perm.trans ((sortS_perm r).cons x)
theorem sortS_uniq {l t:List Str} (hp:t.Perm l) (hs:sortedS t=true):t=sortS l:=by
 have h1:t.Pairwise fun a b=>ltS b a=false:=by
  cases t with
  |nil=>exact List.Pairwise.nil
  |cons x r=>exact sortedS_pw hs
 refine List.Perm.eq_of_pairwise (le:=fun a b=>ltS b a=false) (fun a b _ _ p q=>?_) h1 (sortS_pw l) (hp.trans (sortS_perm l).symm)
 unfold ltS at p q;rw[decide_eq_false_iff_not] at p q;have:=List.le_antisymm (List.not_lt.mp p) (List.not_lt.mp q);obtain⟨⟨la⟩⟩:=a;obtain⟨⟨lb⟩⟩:=b;cases this;rfl
section
variable {prog:Program}{w:World}{A:Around}{E:Value->Shared->Prop}{s:Shared}
end
end Fx
set_option maxRecDepth 100000
namespace Fx
open PySem
end Fx
set_option maxRecDepth 100000
namespace Fx
open PySem
section
variable {prog:Program}{w:World}{K:Type} [DecidableEq K] {knd:KeyKind prog w K}{A:Around}{E:Value->Shared->Prop}{s:Shared}
inductive PairsAt (knd:KeyKind prog w K) (h:Heap):List Value->List (K×Value)->Prop
 |nil:PairsAt knd h [] []
 |cons {p:Addr}{u v:Value}{k:K}{us:List Value}{kvs:List (K×Value)} (a:h.IsTuple p #[u,v]) (b:knd.is k u=true) (r:PairsAt knd h us kvs):PairsAt knd h (.ref p::us) ((k,v)::kvs)
end
end Fx
set_option maxRecDepth 100000
namespace Fx
open PySem PySem.Spec PyProof.Rows L2
noncomputable def KV1 (K:PySem.W.Frag) (d:D) (u:Value):Prop:=∃ v,RelV v u/\∀ H,Rep K H d v
section
variable {K:PySem.W.Frag}
end
theorem strs_inv:∀ {xs:List D}{ss:List Str},txts xs=some ss->xs=ss.map .str
 |[],ss,h=>by cases h;rfl
 |.str x::r,ss,h=>by
  rw[strs_cons] at h;obtain⟨t,e,f⟩:=bnd_eq h;cases f;rw[strs_inv e];rfl
 |.non::_,_,h=>by cases h
 |.bl _::_,_,h=>by cases h
 |.int _::_,_,h=>by cases h
 |.tup _::_,_,h=>by cases h
 |.lst _::_,_,h=>by cases h
theorem reps_strs {K:PySem.W.Frag}{H:Hp}:∀ ss:List Str,Reps K H (ss.map D.str) (ss.map V.str)
 |[]=>Reps.nil_
 |x::r=>Reps.cons (rep_str H x) (reps_strs r)
theorem reps_strs_inv {K:PySem.W.Frag}{H:Hp}:∀ {ss:List Str}{vs:List V},Reps K H (ss.map D.str) vs->vs=ss.map V.str
 |[],vs,h=>by rw[List.map_nil] at h;unfold Reps at h;exact h
 |x::r,vs,h=>by
  rw[List.map_cons] at h;unfold Reps at h;obtain⟨v,t,rfl,a,b⟩:=h;unfold Rep at a;rw[a,reps_strs_inv b];rfl
theorem strsAre_of:∀ {ss:List Str}{us:List Value},Vals (ss.map V.str) us->StrsAre us ss
 |[],us,h=>by rw[List.map_nil] at h;cases h;exact .nil
 |x::r,us,h=>by
  rw[List.map_cons] at h;cases h with
  |cons a b=>obtain⟨t,rfl⟩:=a;exact .cons x t (strsAre_of b)
theorem vals_of_strs:∀ {us:List Value}{ss:List Str},StrsAre us ss->Vals (ss.map V.str) us
 |_,_,.nil=>.nil
 |_,_,.cons x t h=>.cons ⟨t,rfl⟩ (vals_of_strs h)
section
variable {X:Cx}
end
inductive PV (K:PySem.W.Frag) (H:Hp):List V->List (Key×V)->Prop
 |nil:PV K H [] []
 |cons {a:Addr}{k:Str}{v:V}{vs:List V}{kvs:List (Key×V)} (p:SqT K H a [.str k,v]) (r:PV K H vs kvs):PV K H (.ref a::vs) ((.inr k,v)::kvs)
section
variable {X:Cx}
end
theorem val_none {k:Str}:∀ {kds:List (Str×D)}{vs:List V},kds.length=vs.length->getK k kds=none->valV (zipD (kds.map (·.1)) vs) (.inr k)=none
 |[],vs,_,_=>rfl
 |q::r,[],l,_=>by cases l
 |q::r,v::vs,l,h=>by
  unfold getK at h
  by_cases hk:q.1=k
  ·rw[if_pos hk] at h;cases h
  ·rw[if_neg hk] at h
   rw[List.map_cons,zipD_cons,valV_neg fun z=>hk (Sum.inr.inj z)]
   exact val_none (Nat.succ.inj l) h
section
variable {X:Cx}
end
section
variable {X:Cx}{scope sc:Scope}{x y:Str}{frees:List Str}{js:List Nat}{px py spos pos p pos':Pos}{elt a:Expr}{ifs:List Expr}{F I:FE}{T:FT}
end
end Fx
set_option maxRecDepth 100000
namespace Fx
open PySem PySem.Spec PyProof.Rows L2
noncomputable def sameF:D->D->Bool
 |.int _,.int _=>true
 |.str _,.str _=>true
 |_,_=>false
noncomputable def sameFs:List D->List D->Bool
 |[],[]=>true
 |d::r,e::t=>sameF d e&&sameFs r t
 |_,_=>false
noncomputable def ltF:D->D->Bool
 |.int i,.int j=>decide (i<j)
 |.str a,.str b=>decide (a.cps.toList<b.cps.toList)
 |_,_=>false
noncomputable def lexF:List D->List D->Bool
 |d::r,e::t=>if eqD d e=true then lexF r t else ltF d e
 |_,_=>false
theorem map_lt:∀ (l m:List Nat),(l.map Int.ofNat<m.map Int.ofNat)↔l<m
 |[],[]=>by simp
 |[],_::_=>by simp
 |_::_,[]=>by simp
 |a::l,b::m=>by
  rw[List.map_cons,List.map_cons,List.cons_lt_cons_iff,List.cons_lt_cons_iff,map_lt l m];have h1:(Int.ofNat a<Int.ofNat b)↔a<b:=Int.ofNat_lt;have h2:(Int.ofNat a=Int.ofNat b)↔a=b:=Int.ofNat_inj;rw[h1,h2]
theorem one_lt (a b:List Int):([a]:Ky)<[b]↔a<b:=by
 rw[List.cons_lt_cons_iff];exact⟨fun h=>h.elim id fun z=>absurd z.2 (List.lt_irrefl _),.inl⟩
theorem sameF_eq {d e:D} (h:sameF d e=true):(eqD d e=true↔d=e)/\(fK d=fK e↔d=e)/\(ltF d e=true↔fK d<fK e)/\(∃ k,fK d=[k])/\∃ k,fK e=[k]:=by
 cases d with
 |int i =>
  cases e with
  |int j =>
   have e1:fK (.int i)=[[i]]:=by unfold fK;rfl
   have e2:fK (.int j)=[[j]]:=by unfold fK;rfl
   rw[e1,e2];refine⟨by simp,by simp,?_,⟨_,rfl⟩,_,rfl⟩
   rw[one_lt,List.cons_lt_cons_iff];show decide (i<j)=true↔_;rw[decide_eq_true_eq];exact⟨.inl,fun z=>z.elim id fun y=>absurd y.2 (List.lt_irrefl _)⟩
  |_=>cases h
 |str a =>
  cases e with
  |str b =>
   have e1:fK (.str a)=[a.cps.toList.map Int.ofNat]:=by unfold fK;rfl
   have e2:fK (.str b)=[b.cps.toList.map Int.ofNat]:=by unfold fK;rfl
   rw[e1,e2];refine⟨by simp,?_,?_,⟨_,rfl⟩,_,rfl⟩
   ·constructor
    ·intro z
     have z1:a.cps.toList.map Int.ofNat=b.cps.toList.map Int.ofNat:=(List.cons.inj z).1;have z2:a.cps.toList=b.cps.toList:=List.map_inj_right (fun x y q=>Int.ofNat.inj q) |>.mp z1
     obtain⟨⟨la⟩⟩:=a;obtain⟨⟨lb⟩⟩:=b;cases z2;rfl
    ·intro z;cases z;rfl
   ·rw[one_lt,map_lt]
    show decide (a.cps.toList<b.cps.toList)=true↔_;rw[decide_eq_true_eq]
  |_=>cases h
 |_=>cases h
theorem fKs_cons (d:D) (r:List D):fKs (d::r)=fK d++fKs r:=by rw[fKs]
theorem sameFs_len:∀ {ds es:List D},sameFs ds es=true->ds.length=es.length/\(fKs ds).length=(fKs es).length
 |[],[],_=>⟨rfl,rfl⟩
 |[],_::_,h=>by cases h
 |_::_,[],h=>by cases h
 |d::r,e::t,h=>by
  unfold sameFs at h;rw[Bool.and_eq_true] at h;obtain⟨_,_,_,⟨k,e1⟩,k',e2⟩:=sameF_eq h.1;obtain⟨h1,h2⟩:=sameFs_len h.2;exact⟨by simp[h1],by rw[fKs_cons,fKs_cons,e1,e2];simp[h2]⟩
theorem lexF_lt:∀ {ds es:List D},sameFs ds es=true->lexF ds es=decide (fKs ds<fKs es)
 |[],[],_=>by
  have:fKs []=[]:=by rw[fKs]
  rw[this];exact (decide_eq_false (List.lt_irrefl _)).symm
 |[],_::_,h=>by cases h
 |_::_,[],h=>by cases h
 |d::r,e::t,h=>by
  unfold sameFs at h;rw[Bool.and_eq_true] at h;obtain⟨q1,q2,q3,⟨k,e1⟩,k',e2⟩:=sameF_eq h.1;have ih:=lexF_lt h.2;unfold lexF;rw[fKs_cons,fKs_cons,e1,e2];show _=decide (k::fKs r<k'::fKs t)
  by_cases z:eqD d e=true
  ·have:k=k':=by
    have:=q1.mp z;subst this;rw[e1] at e2;exact (List.cons.inj e2).1
   subst this;rw[if_pos z,ih];refine decide_eq_decide.mpr ?_;rw[List.cons_lt_cons_iff];exact⟨fun y=>.inr ⟨rfl,y⟩,fun y=>y.elim (fun y=>absurd y (List.lt_irrefl _)) (·.2)⟩
  ·rw[if_neg z]
   have ne:k≠k':=fun y=>z (q1.mpr (q2.mp (by rw[e1,e2,y])))
   have e3:ltF d e=decide (k<k'):=by
    have q4:ltF d e=true↔k<k':=by rw[q3,e1,e2,one_lt]
    cases hh:ltF d e with
    |true=>exact (decide_eq_true (q4.mp hh)).symm
    |false=>exact (decide_eq_false fun y=>by rw[q4.mpr y] at hh;cases hh).symm
   rw[e3];refine decide_eq_decide.mpr ?_;rw[List.cons_lt_cons_iff];exact⟨.inl,fun y=>y.elim id fun y=>absurd y.1 ne⟩
end Fx
namespace Fx
open PySem
noncomputable def sLt (a b:Str):Bool:=lexF [.int a.length,.str a] [.int b.length,.str b]
noncomputable def sBest:Str->List Str->Str
 |b,[]=>b
 |b,n::r=>sBest (if sLt n b=true then n else b) r
noncomputable def sMin:List Str->D
 |[]=>.non
 |n::r=>.str (sBest n r)
noncomputable def bMinS:List D->Option D
 |[.lst ds]=>bnd (txts ds) fun ss=>if ss.all (fun s=>decide (s.length<=1000))=true then some (sMin ss) else none
 |_=>none
theorem bMinS_l (ds:List D):bMinS [.lst ds]=bnd (txts ds) fun ss=>if ss.all (fun s=>decide (s.length<=1000))=true then some (sMin ss) else none:=rfl
noncomputable def dRst:D->D->Option D
 |.str x,.str y=>if x.length<=1000 then some (.str (Txt.rstripChars x y)) else none
 |_,_=>none
@[simp] theorem dRst_s (x y:Str):dRst (.str x) (.str y)=if x.length<=1000 then some (.str (Txt.rstripChars x y)) else none:=Eq.trans rfl rfl
noncomputable def idxO:List Nat->Option D
 |i::_=>some (.int i)
 |[]=>none
noncomputable def dIdx:D->D->Option D
 |.str x,.str y=>idxO (Builtin.Str.occurrences x y 0 x.length 1)
 |_,_=>none
@[simp] theorem dIdx_s (x y:Str):dIdx (.str x) (.str y)=idxO (Builtin.Str.occurrences x y 0 x.length 1):=Eq.trans rfl rfl
@[simp] theorem idxO_c (i:Nat) (r:List Nat):idxO (i::r)=some (.int i):=Eq.trans rfl rfl
noncomputable def dMulZ:D->D->Option D
 |.str x,.int n=>if 0<=n/\n<=1000/\x.length<=1000 then some (.str (Txt.mul x n)) else none
 |_,_=>none
@[simp] theorem dMulZ_s (x:Str) (n:Int):dMulZ (.str x) (.int n)=if 0<=n/\n<=1000/\x.length<=1000 then some (.str (Txt.mul x n)) else none:=Eq.trans rfl rfl
noncomputable def dLtP:D->D->Option D
 |.tup [.int a,.str x],.tup [.int b,.str y]=>some (.bl (lexF [.int a,.str x] [.int b,.str y]))
 |_,_=>none
@[simp] theorem dLtP_s (a b:Int) (x y:Str):dLtP (.tup [.int a,.str x]) (.tup [.int b,.str y])=some (.bl (lexF [.int a,.str x] [.int b,.str y])):=Eq.trans rfl rfl
noncomputable def bSortG (r:D->Bool):List D->Option D
 |[.lst xs]=>if xs.length<=1000/\xs.all r=true then some (.lst (sortT xs)) else none
 |_=>none
@[simp] theorem bSortG_l (r:D->Bool) (xs:List D):bSortG r [.lst xs]=if xs.length<=1000/\xs.all r=true then some (.lst (sortT xs)) else none:=Eq.trans rfl rfl
noncomputable def isS:D->Bool
 |.str _=>true
 |_=>false
end Fx
set_option maxRecDepth 100000
namespace Fx
open PySem PySem.W PyProof.Rows
noncomputable def WpT {α:Type} (lt:Nat->Nat->Bool) (n:Nat) (P:α->Prop):KasT α->Prop
 |.ret a=>P a
 |.ask i j k=>i<n/\j<n/\WpT lt n P (k (lt i j))
theorem WpT.bind {α β:Type}{lt:Nat->Nat->Bool}{n:Nat}{P:α->Prop}{P':β->Prop}{f:α->KasT β} (h:∀ a,P a->WpT lt n P' (f a)):∀ t:KasT α,WpT lt n P t->WpT lt n P' (t.bind f)
 |.ret a,q=>h a q
 |.ask i j k,q=>⟨q.1,q.2.1,WpT.bind h (k (lt i j)) q.2.2⟩
theorem WpT.run {α:Type}{lt:Nat->Nat->Bool}{n:Nat}{P:α->Prop}{J:Shared->Prop}{cmp:Nat->Nat->(Bool->Shared->Prop)->Shared->Prop}{Q:α->Shared->Prop}
  (hc:∀ i j C s,i<n->j<n->J s->(∀ s',J s'->C (lt i j) s')->cmp i j C s) (hq:∀ a s,P a->J s->Q a s):∀ (t:KasT α) (s:Shared),WpT lt n P t->J s->t.kasWp cmp Q s
 |.ret a,s,h,j=>hq a s h j
 |.ask i j k,s,h,js=>hc i j _ s h.1 h.2.1 js fun s' js'=>WpT.run hc hq (k (lt i j)) s' h.2.2 js'
section
variable {n:Nat}{r:Nat->Nat}
noncomputable abbrev ltR (r:Nat->Nat) (i j:Nat):Bool:=decide (r i<r j)
structure OkP (n:Nat) (p:Array Nat):Prop where
 size:p.size=n
 perm:p.toList.Perm (List.range n)
noncomputable def KP (r:Nat->Nat) (p:Array Nat) (k:Nat):Nat:=r (p.getD k 0)
theorem OkP.lt {p:Array Nat} (h:OkP n p) (hn:0<n) (k:Nat):p.getD k 0<n:=by
 by_cases hk:k<p.size
 ·rw[Array.getD_eq_getD_getElem?,getElem?_pos p k hk]
  have:p[k]∈p.toList:=by simp
  exact List.mem_range.mp (h.perm.mem_iff.mp this)
 ·rw[Array.getD_eq_getD_getElem?,getElem?_neg p k hk];exact hn
theorem OkP.bub {p:Array Nat} (h:OkP n p) (k d:Nat):OkP n (bubble p k d):=⟨(bubble_size _ _ _).trans h.size,(Array.perm_iff_toList_perm.mp (bubble_perm _ _ _)).trans h.perm⟩
noncomputable def Mono (r:Nat->Nat) (p:Array Nat) (m:Nat):Prop:=∀ i j,i<=j->j<m->KP r p i<=KP r p j
theorem okP_range:OkP n (List.toArray (List.range n)):=⟨by simp,by simp⟩
end
end Fx
set_option maxRecDepth 100000
namespace Fx
open PySem PySem.Spec PyProof.Rows L2
noncomputable def RelF:D->Value->Prop
 |.int i,v=>∃ t,v=.int i t
 |.str a,v=>∃ t,v=.str a t
 |_,_=>False
inductive Flats:List D->List Value->Prop
 |nil:Flats [] []
 |cons {d:D}{u:Value}{ds:List D}{us:List Value} (h:RelF d u) (r:Flats ds us):Flats (d::ds) (u::us)
theorem Flats.length {ds:List D}{us:List Value} (h:Flats ds us):ds.length=us.length:=by
 induction h with
 |nil=>rfl
 |cons _ _ ih=>simp[ih]
theorem eqAt_flat (A:Around) (s:Shared) {d e:D}{u v:Value} (h:sameF d e=true) (r1:RelF d u) (r2:RelF e v):SeqAt.EqAt A s u v (eqD d e):=by
 cases d with
 |int i =>
  cases e with
  |int j =>
   obtain⟨t,rfl⟩:=r1;obtain⟨w,rfl⟩:=r2;rw[show eqD (.int i) (.int j)=(i==j) by rw[eqD]]
   exact SeqAt.EqAt.int_int i t j w
  |_=>cases h
 |str a =>
  cases e with
  |str b =>
   obtain⟨t,rfl⟩:=r1;obtain⟨w,rfl⟩:=r2;rw[show eqD (.str a) (.str b)=(a==b) by rw[eqD]]
   exact SeqAt.EqAt.str_str a t b w
  |_=>cases h
 |_=>cases h
theorem rcLt_flat (A:Around) (s:Shared) {d e:D}{u v:Value} (h:sameF d e=true) (r1:RelF d u) (r2:RelF e v) (prog:Program) (w:World) (E:Value->Shared->Prop) (Q:Value->Shared->Prop) (q:Q (.bool (ltF d e)) s) :
  wpAny (model prog w) A (richCompare .Lt u v) Q E s:=by
 cases d with
 |int i =>
  cases e with
  |int j =>
   obtain⟨t,rfl⟩:=r1;obtain⟨w',rfl⟩:=r2;exact (PyProof.Rows.lt_int q:wpAny (model prog w) A (compareOp .Lt (.int i t) (.int j w')) Q E s)
  |_=>cases h
 |str a =>
  cases e with
  |str b =>
   obtain⟨t,rfl⟩:=r1;obtain⟨w',rfl⟩:=r2;exact (PyProof.Rows.lt_str (by simpa [ltF] using q):wpAny (model prog w) A (compareOp .Lt (.str a t) (.str b w')) Q E s)
  |_=>cases h
 |_=>cases h
section
open PySem.SeqAt
open PySem.AutoSeq1 (wpAny_loadPart')
open PySem.MeetsSeq PySem.MeetsSeq2 PySem.MeetsSeq3
theorem tuple_lt_flat (l b:Addr) (items items2:Array Value) (n n2:Nat) (dd dd2:Option Addr) (sl sl2:Array (Option Value)) (ds es:List D) (hi:Flats ds items.toList) (hj:Flats es items2.toList) (hs:sameFs ds es=true) :
  Meets (Builtin.«tuple.__lt__» ⟨[.ref l,.ref b],[]⟩)
   (fun _ R s=>s.heap.get? l=some {cls:=.type "tuple",dict:=dd,data:=.seq items n,slots:=sl} ∧ s.heap.get? b=some {cls:=.type "tuple",dict:=dd2,data:=.seq items2 n2,slots:=sl2} ∧
    R (.ok (.ret (.bool (lexF ds es)))) s) :=
 .of_wp fun prog w A R s h=>by
  obtain⟨hp,g,d,tk,os⟩:=s;obtain⟨hl,hb,h⟩:=h;have f2:=AutoSeq1.sub_tuple_tuple;have z1:items.size=ds.length:=by rw[hi.length];simp
  have z2:items2.size=es.length:=by rw[hj.length];simp
  have z3:=(sameFs_len hs).1
  wp_walk using wpAny_loadPart' hl,wpAny_loadPart' hb,wpAny_forIn_list _ (fun rest b s'=>b.1=none/\s'=⟨hp,g,d,tk,os⟩/\∃ (vs ws:List Value) (ds' es':List D),rest=vs.zip ws /\
   Flats ds' vs/\Flats es' ws/\sameFs ds' es'=true/\R (.ok (.ret (.bool (lexF ds' es')))) ⟨hp,g,d,tk,os⟩) _
  case turn =>
   rintro ⟨y,x⟩ rest b s' ⟨hb',rfl,vs,ws,ds',es',hz,hvi,hwi,hsm,hR⟩;cases hvi with
   |nil=>rw[List.zip_nil_left] at hz;cases hz
   |@cons dx ux dsx usx hd hvi' =>
    cases hwi with
    |nil=>rw[List.zip_nil_right] at hz;cases hz
    |@cons ex vx esx wsx he' hwi' =>
     rw[List.zip_cons_cons] at hz;injection hz with hyx hrest
     injection hyx with hy hx
     subst hy hx;unfold sameFs at hsm;rw[Bool.and_eq_true] at hsm;unfold lexF at hR;refine wpAny_bind (eqAt_flat A.in1 ⟨hp,g,d,tk,os⟩ hsm.1 hd he' prog w _ _ ?_);cases hq:eqD dx ex with
     |true =>
      rw[hq,if_pos rfl] at hR
      wp_walk
      exact⟨rfl,rfl,_,_,_,_,hrest,hvi',hwi',hsm.2,hR⟩
     |false =>
      rw[hq,if_neg Bool.false_ne_true] at hR;have hri:=rcLt_flat A.in1 ⟨hp,g,d,tk,os⟩ hsm.1 hd he' prog w
      wp_walk using hri
      exact⟨_,rfl,by simpa using hR⟩
  case fin =>
   rintro ⟨b1,b2⟩ s' ⟨hb',rfl,vs,ws,ds',es',hz,hvi,hwi,hsm,hR⟩;simp only at hb';subst hb'
   have hv:lexF ds' es'=decide (items.size<items2.size):=by
    rw[decide_eq_false (by omega)]
    cases hvi with
    |nil=>unfold lexF;rfl
    |cons a hv =>
     cases hwi with
     |nil=>unfold lexF;rfl
     |cons c hw=>rw[List.zip_cons_cons] at hz;cases hz
   rw[hv] at hR
   wp_walk
   exact⟨_,rfl,by simpa [Builtin.Tuple.tupleCompareSizes] using hR⟩
  case h =>
   exact⟨rfl,rfl,items.toList,items2.toList,ds,es,rfl,hi,hj,hs,h⟩
end
theorem lt_tupFlat {prog:Program}{w:World}{A:Around}{E:Value->Shared->Prop}{s:Shared}{l b:Addr}{items items2:Array Value}{ds es:List D}{Q:Value->Shared->Prop} (hl:IsTup s.heap l items) (hb:IsTup s.heap b items2) (hi:Flats ds items.toList) (hj:Flats es items2.toList) (hs:sameFs ds es=true)
  (hu:A.units<cLine) (h:Q (.bool (lexF ds es)) s):wpAny (model prog w) A (compareOp .Lt (.ref l) (.ref b)) Q E s:=by
 obtain⟨⟨cls,dd,data,sl⟩,ho,hc,n,hd⟩:=id hl;obtain⟨⟨cls2,dd2,data2,sl2⟩,ho2,hc2,n2,hd2⟩:=id hb;simp only at hc hd hc2 hd2;subst hc hd hc2 hd2;exact richCompare_meets_room (op:=.Lt) ⟨_,ho,rfl⟩ ⟨_,ho2,rfl⟩ PySem.F.slot_tuple_lt PySem.F.entry_tuple_lt (PySem.F.args_tuple_lt_2 _ _) (tuple_lt_flat l b items items2 n n2 dd dd2 sl sl2 ds es hi hj hs)
  ⟨ho,ho2,show Value.bool (lexF ds es)≠Value.notImplemented/\Q (.bool (lexF ds es)) s from ⟨(fun x=>nomatch x),h⟩⟩ hu
end Fx
set_option maxRecDepth 100000
namespace Fx
open PySem PySem.W PySem.Spec PyProof.Rows
section
variable {prog:Program}{w:World}{A:Around}{E:Value->Shared->Prop}{s:Shared}
structure Asks (prog:Program) (w:World) (A:Around) (s:Shared) (a:Addr) (vs:List Value) (κ:SortKind) (r:Nat->Nat):Prop where
 kind:2<=vs.length->∀ h',(∀ b o,b≠a->s.heap.get? b=some o->h'.get? b=some o)->∀ Q:SortKind->Shared->Prop,Q κ {s with heap:=h'}->wpAny (model prog w) A (keyKind' vs.toArray) Q (fun _ _=>False) {s with heap:=h'}
 ask:∀ h',(∀ b o,b≠a->s.heap.get? b=some o->h'.get? b=some o)->∀ i j,i<vs.length->j<vs.length->∀ C:Bool->Shared->Prop,C (ltR r i j) {s with heap:=h'}->kas_ask prog w A κ vs i j C {s with heap:=h'}
theorem getD_range (vs:List Value):(List.range vs.length).map (fun i=>vs.getD i Value.none)=vs:=by
 refine List.ext_getElem (by simp) fun i h1 h2=>?_
 simp[h2]
end
end Fx
set_option maxRecDepth 100000
namespace Fx
open PySem PySem.W PySem.Spec PyProof.Rows L2
section
variable {prog:Program}{w:World}{A:Around}{E:Value->Shared->Prop}{s:Shared}{b:Bool}{Q:Bool->Shared->Prop}
end
section
variable {X:Cx}{pins:List (Addr×Obj)}{σ:L2.St}{H:Hp}{s:Shared}
theorem reps_get {K:Frag}:∀ {ds:List D}{vs:List V}{us:List Value}{i:Nat},Reps K H ds vs->Vals vs us->i<ds.length->∃ v,Rep K H (ds.getD i .non) v/\RelV v (us.getD i Value.none)
 |[],_,_,_,_,_,h=>by cases h
 |d::ds,vs,us,i,r,v,h=>by
  unfold Reps at r;obtain⟨x,vr,rfl,r1,r2⟩:=r;cases v with
  |cons rx vx =>
   cases i with
   |zero=>exact⟨x,r1,rx⟩
   |succ i=>exact reps_get (i:=i) r2 vx (by simpa using h)
theorem reps_perm {K:Frag}{ds:List D}{vs:List V}{us:List Value} (r:Reps K H ds vs) (v:Vals vs us):∀ {is:List Nat},(∀ i∈is,i<ds.length)->∃ ws,Reps K H (is.map fun i=>ds.getD i .non) ws/\Vals ws (is.map fun i=>us.getD i Value.none)
 |[],_=>⟨[],by unfold Reps;rfl,.nil⟩
 |i::is,h=>by
  obtain⟨x,r1,r2⟩:=reps_get r v (h i List.mem_cons_self);obtain⟨ws,r3,r4⟩:=reps_perm r v (is:=is) fun j hj=>h j (List.mem_cons_of_mem _ hj)
  exact⟨x::ws,Reps.cons r1 r3,.cons r2 r4⟩
end
end Fx
set_option maxRecDepth 100000
namespace Fx
open PySem PySem.W PySem.Spec PyProof.Rows L2
section
variable {X:Cx}{pins:List (Addr×Obj)}{σ:L2.St}{H:Hp}{s:Shared}
end
end Fx
set_option maxRecDepth 100000
namespace Fx
open PySem PySem.W PyProof.Rows
noncomputable def gallop':Bool->Keyed->Array Keyed->Nat->Nat->Nat->StateT SortSt Sem (Option Nat):=sortPriv% PySem.Builtin.gallop
noncomputable def mergeLo':Array Keyed->Array Keyed->StateT SortSt Sem (Array Keyed):=sortPriv% PySem.Builtin.mergeLo
noncomputable def mergeHi':Array Keyed->Array Keyed->StateT SortSt Sem (Array Keyed):=sortPriv% PySem.Builtin.mergeHi
structure Cmp (prog:Program) (w:World) (A:Around) (s:Shared) (κ:SortKind) (rk:Keyed->Nat) (M:Keyed->Prop):Prop where
 ask:∀ x y,M x->M y->∀ Q:Bool->Shared->Prop,Q (decide (rk x<rk y)) s->wpAny (model prog w) A (keyLt' κ x.1 y.1) Q (fun _ _=>False) s
section
variable {prog:Program}{w:World}{A:Around}{E:Value->Shared->Prop}{s:Shared}{κ:SortKind}{rk:Keyed->Nat}{M:Keyed->Prop}
theorem Cmp.lt (C:Cmp prog w A s κ rk M) {st:SortSt} (hk:kindOf st=κ) {x y:Keyed} (hx:M x) (hy:M y) {Q:Option Bool->SortSt->Prop} (h:Q (some (decide (rk x<rk y))) st):wpS (model prog w) A E s (lt' x y) Q st:=by
 rw[lt'_eq];refine wpS_bind (wpS_get ?_);rw[hk];refine wpS_bind (wpS_lift (wpAny_attempt (wpAny_mono (C.ask x y hx hy (fun b s'=>s'=s/\b=decide (rk x<rk y)) ⟨rfl,rfl⟩) (fun b s' hb=>?_) fun _ _ z=>z.elim)))
 obtain⟨rfl,rfl⟩:=hb;exact⟨rfl,wpS_pure h⟩
theorem wpS_elem {st:SortSt}{xs:Array Keyed}{i:Nat}{x:Keyed} (hx:xs[i]?=some x) {Q:Keyed->SortSt->Prop} (h:Q x st):wpS (model prog w) A E s (elem' xs i) Q st:=by
 rw[elem'_eq,hx];exact wpS_pure h
noncomputable def Cut (b:Nat->Prop) (n k:Nat):Prop:=k<=n/\(∀ i,i<k->b i)/\∀ i,k<=i->i<n->¬ b i
noncomputable def bey (rk:Keyed->Nat) (left:Bool) (key x:Keyed):Bool:=if left=true then decide (rk x<rk key) else !decide (rk key<rk x)
theorem wpS_bey (C:Cmp prog w A s κ rk M) {st:SortSt} (hk:kindOf st=κ) {left:Bool}{key x:Keyed}{arr:Array Keyed}{j:Nat} (mk:M key) (hx:arr[j]?=some x) (mx:M x) {Q:Option Bool->SortSt->Prop} (h:Q (some (bey rk left key x)) st) :
  wpS (model prog w) A E s (do
   let x <- elem' arr j
   if left=true then lt' x key else do
    let r <- lt' key x
    pure (Option.map (fun x=>!x) r)) Q st:=by
 refine wpS_bind (wpS_elem hx ?_);unfold bey at h;cases left with
 |true=>rw[if_pos rfl] at h ⊢;exact C.lt hk mx mk h
 |false =>
  rw[if_neg Bool.false_ne_true] at h ⊢;exact wpS_bind (C.lt hk mk mx (wpS_pure h))
theorem gallop_ok (C:Cmp prog w A s κ rk M) {st:SortSt} (hk:kindOf st=κ) {left:Bool}{key:Keyed}{arr:Array Keyed}{base n hint:Nat} (mk:M key) (f:Nat->Keyed) (hf:∀ i,i<n->arr[base+i]?=some (f i)/\M (f i)) (hh:hint<n)
  (mono:∀ i j,i<=j->j<n->bey rk left key (f j)=true->bey rk left key (f i)=true) {Q:Option Nat->SortSt->Prop} (h:∀ k,Cut (fun i=>bey rk left key (f i)=true) n k->Q (some k) st) :
  wpS (model prog w) A E s (gallop' left key arr base n hint) Q st:=by
 have last:∀ lo hi,lo<=hi->hi<=n->(∀ i,i<lo->bey rk left key (f i)=true)->(∀ i,hi<=i->i<n->¬ bey rk left key (f i)=true)->∀ {R:Option (Option Nat)×Nat×Nat->SortSt->Prop},(∀ k,Cut (fun i=>bey rk left key (f i)=true) n k->R (none,k,k) st) ->
   wpS (model prog w) A E s (forIn [:n] ((none,lo,hi):Option (Option Nat)×Nat×Nat) fun x __s =>
    if __s.snd.fst>=__s.snd.snd then pure (ForInStep.done (none,__s.snd.fst,__s.snd.snd))
    else do
     let r <- (do
      let x <- elem' arr (base+(__s.snd.fst+(__s.snd.snd-__s.snd.fst) / 2))
      if left=true then lt' x key else do
       let r <- lt' key x
       pure (Option.map (fun x=>!x) r))
     match r with
     |some more=>if more=true then pure (ForInStep.yield (none,__s.snd.fst+(__s.snd.snd-__s.snd.fst) / 2+1,__s.snd.snd)) else pure (ForInStep.yield (none,__s.snd.fst,__s.snd.fst+(__s.snd.snd-__s.snd.fst) / 2))
     |_=>pure (ForInStep.done (some none,__s.snd.fst,__s.snd.snd))) R st:=fun lo hi h1 h2 h3 h4 {R} hR=>by
  refine wpS_forRange (I:=fun x c st'=>st'=st/\∃ lo hi,c=(none,lo,hi)/\lo<=hi/\hi<=n/\hi-lo<=n-x/\(∀ i,i<lo->bey rk left key (f i)=true)/\∀ i,hi<=i->i<n->¬ bey rk left key (f i)=true) ?_ ?_ ⟨rfl,lo,hi,rfl,h1,h2,by omega,h3,h4⟩
  ·rintro x c st' _ hx ⟨rfl,lo,hi,rfl,g1,g2,g3,g4,g5⟩
   dsimp only
   by_cases c:lo>=hi
   ·rw[if_pos c]
    obtain rfl:lo=hi:=by omega
    exact wpS_pure (hR lo ⟨g2,g4,g5⟩)
   ·rw[if_neg c]
    obtain⟨a1,a2⟩:=hf (lo+(hi-lo) / 2) (by omega)
    refine wpS_bind (wpS_bey C hk mk a1 a2 ?_);cases q:bey rk left key (f (lo+(hi-lo) / 2)) with
    |true =>
     dsimp only;rw[if_pos rfl];exact wpS_pure ⟨rfl,_,_,rfl,by omega,g2,by omega,fun i hi'=>mono i _ (by omega) (by omega) q,g5⟩
    |false =>
     dsimp only;rw[if_neg Bool.false_ne_true];exact wpS_pure ⟨rfl,_,_,rfl,by omega,by omega,by omega,g4,fun i hi' hn z=>by have:=mono _ i hi' hn z;rw[q] at this;cases this⟩
  ·rintro c st' ⟨rfl,lo,hi,rfl,g1,g2,g3,g4,g5⟩
   obtain rfl:lo=hi:=by omega
   exact hR lo ⟨g2,g4,g5⟩
 obtain⟨a1,a2⟩:=hf hint hh;refine wpS_bind (wpS_bey C hk mk a1 a2 ?_);cases q0:bey rk left key (f hint) with
 |true =>
  refine wpS_bind (wpS_mono (wpS_forRange (I:=fun x c st'=>st'=st/\∃ l o,c=(none,l,o)/\x+1<=o/\l<o/\hint+l<n/\bey rk left key (f (hint+l))=true)
   (Q:=fun c st'=>st'=st/\∃ l o,c=(none,l,o)/\l<o/\hint+l<n/\bey rk left key (f (hint+l))=true/\(n-hint<=o\/(hint+o<n/\¬ bey rk left key (f (hint+o))=true))) ?_ ?_ ⟨rfl,0,1,rfl,Nat.le_refl _,Nat.one_pos,by omega,q0⟩) ?_)
  ·rintro x c st' _ hx ⟨rfl,l,o,rfl,g1,g2,g3,g4⟩
   dsimp only
   by_cases c:o>=n-hint
   ·rw[if_pos c]
    exact wpS_pure ⟨rfl,l,o,rfl,g2,g3,g4,.inl c⟩
   ·rw[if_neg c]
    obtain⟨b1,b2⟩:=hf (hint+o) (by omega)
    refine wpS_bind (wpS_bey C hk mk b1 b2 ?_);cases q:bey rk left key (f (hint+o)) with
    |true =>
     dsimp only;rw[if_neg (by decide)]
     exact wpS_pure ⟨rfl,o,2*o+1,rfl,by omega,by omega,by omega,q⟩
    |false =>
     dsimp only;rw[if_pos (by decide)]
     exact wpS_pure ⟨rfl,l,o,rfl,g2,g3,g4,.inr ⟨by omega,by rw[q];exact Bool.false_ne_true⟩⟩
  ·rintro c st' ⟨rfl,l,o,rfl,g1,g2,g3,g4⟩
   exact⟨rfl,l,o,rfl,g2,g3,g4,.inl (by omega)⟩
  ·rintro c st' ⟨rfl,l,o,rfl,g1,g2,g3,g4⟩
   refine wpS_bind (last (hint+l+1) (hint+min o (n-hint)) (by omega) (by omega) (fun i hi=>mono i _ (by omega) g2 g3) (fun i hi hn z=>?_) fun k hc=>wpS_pure (h k hc))
   rcases g4 with g4 | ⟨g4,g5⟩
   ·omega
   ·exact g5 (mono _ i (by omega) hn z)
 |false =>
  refine wpS_bind (wpS_mono (wpS_forRange (I:=fun x c st'=>st'=st/\∃ l o,c=(none,l,o)/\x+1<=o/\l<o/\l<=hint/\¬ bey rk left key (f (hint-l))=true)
   (Q:=fun c st'=>st'=st/\∃ l o,c=(none,l,o)/\l<o/\l<=hint/\¬ bey rk left key (f (hint-l))=true/\(hint+1<=o\/(o<=hint/\bey rk left key (f (hint-o))=true))) ?_ ?_ ⟨rfl,0,1,rfl,Nat.le_refl _,Nat.one_pos,by omega,by rw[Nat.sub_zero,q0];exact Bool.false_ne_true⟩) ?_)
  ·rintro x c st' _ hx ⟨rfl,l,o,rfl,g1,g2,g3,g4⟩
   dsimp only
   by_cases c:o>=hint+1
   ·rw[if_pos c]
    exact wpS_pure ⟨rfl,l,o,rfl,g2,g3,g4,.inl c⟩
   ·rw[if_neg c]
    obtain⟨b1,b2⟩:=hf (hint-o) (by omega)
    refine wpS_bind (wpS_bey C hk mk b1 b2 ?_);cases q:bey rk left key (f (hint-o)) with
    |true =>
     dsimp only;rw[if_pos rfl];exact wpS_pure ⟨rfl,l,o,rfl,g2,g3,g4,.inr ⟨by omega,q⟩⟩
    |false =>
     dsimp only;rw[if_neg Bool.false_ne_true];exact wpS_pure ⟨rfl,o,2*o+1,rfl,by omega,by omega,by omega,by rw[q];exact Bool.false_ne_true⟩
  ·rintro c st' ⟨rfl,l,o,rfl,g1,g2,g3,g4⟩
   exact⟨rfl,l,o,rfl,g2,g3,g4,.inl (by omega)⟩
  ·rintro c st' ⟨rfl,l,o,rfl,g1,g2,g3,g4⟩
   refine wpS_bind (last (hint+1-min o (hint+1)) (hint-l) (by omega) (by omega) (fun i hi=>?_) (fun i hi hn z=>g3 (mono _ i hi hn z)) fun k hc=>wpS_pure (h k hc))
   rcases g4 with g4 | ⟨g4,g5⟩
   ·omega
   ·exact mono i _ (by omega) (by omega) g5
end
end Fx
set_option maxRecDepth 100000
namespace Fx
open PySem PySem.W PyProof.Rows
structure Gm (le:Keyed->Keyed->Prop) (T out P Q:List Keyed):Prop where
 perm:(out++P++Q).Perm T
 so:out.Pairwise le
 bp:∀ x∈out,∀ y∈P,le x y
 bq:∀ x∈out,∀ y∈Q,le x y
 sp:P.Pairwise le
 sq:Q.Pairwise le
section
variable {le:Keyed->Keyed->Prop}{T out P Q P1 Q1:List Keyed}
theorem Gm.swap (h:Gm le T out P Q):Gm le T out Q P:=by
 refine⟨List.Perm.trans ?_ h.perm,h.so,h.bq,h.bp,h.sq,h.sp⟩;rw[List.append_assoc,List.append_assoc];exact List.perm_append_comm.append_left out
theorem Gm.takeP (h:Gm le T out (P1++P) Q) (hl:∀ x∈P1,∀ y∈Q,le x y):Gm le T (out++P1) P Q:=by
 obtain⟨s1,s2,s3⟩:=List.pairwise_append.mp h.sp;refine⟨by rw[List.append_assoc out];exact h.perm,List.pairwise_append.mpr ⟨h.so,s1,fun x hx y hy=>h.bp x hx y (List.mem_append_left _ hy)⟩,fun x hx y hy=>?_,fun x hx y hy=>?_,s2,h.sq⟩
 ·rcases List.mem_append.mp hx with hx | hx
  ·exact h.bp x hx y (List.mem_append_right _ hy)
  ·exact s3 x hx y hy
 ·rcases List.mem_append.mp hx with hx | hx
  ·exact h.bq x hx y hy
  ·exact hl x hx y hy
theorem Gm.endP (h:Gm le T out P []):(out++P).Perm T/\(out++P).Pairwise le:=by
 refine⟨by have:=h.perm;rwa [List.append_nil] at this,List.pairwise_append.mpr ⟨h.so,h.sp,h.bp⟩⟩
theorem Gm.endL (h:Gm le T out P Q) (hl:∀ y∈Q,∀ x∈P,le y x):(out++Q++P).Perm T/\(out++Q++P).Pairwise le:=by
 refine⟨h.swap.perm,List.pairwise_append.mpr ⟨List.pairwise_append.mpr ⟨h.so,h.sq,h.bq⟩,h.sp,fun x hx y hy=>?_⟩⟩
 rcases List.mem_append.mp hx with hx | hx
 ·exact h.bp x hx y hy
 ·exact hl x hx y hy
end
theorem drop1 {xs:Array Keyed}{i:Nat}{x:Keyed} (h:xs[i]?=some x):xs.toList.drop i=x::xs.toList.drop (i+1):=by
 rw[<- Array.getElem?_toList] at h;obtain⟨h1,rfl⟩:=List.getElem?_eq_some_iff.mp h;exact List.drop_eq_getElem_cons h1
theorem ext_to (xs:Array Keyed) (i:Nat):(xs.extract i).toList=xs.toList.drop i:=by
 rw[Array.toList_extract];simp only[List.extract_eq_drop_take];exact List.take_of_length_le (by simp)
theorem ext_tk (xs:Array Keyed) (i k:Nat):(xs.extract i (i+k)).toList=(xs.toList.drop i).take k:=by
 rw[Array.toList_extract,List.extract_eq_drop_take,Nat.add_sub_cancel_left]
theorem atA {xs:Array Keyed}{i:Nat} (h:i<xs.size):xs[i]?=some xs[i]:=Array.getElem?_eq_getElem h
noncomputable def leR (rk:Keyed->Nat) (x y:Keyed):Prop:=rk x<=rk y
noncomputable def geR (rk:Keyed->Nat) (x y:Keyed):Prop:=rk y<=rk x
noncomputable def MR (rk:Keyed->Nat) (T:List Keyed) (r:Array Keyed):Prop:=r.toList.Perm T/\r.toList.Pairwise (leR rk)
noncomputable abbrev gst (st:SortSt) (g:Nat):SortSt:=SortSt.mk' (kindOf st) (arrOf st) (pendingOf st) g (failedOf st)
noncomputable def setG':Nat->StateT SortSt Sem Unit:=sortPriv% PySem.Builtin.setMinGallop
section
variable {prog:Program}{w:World}{A:Around}{E:Value->Shared->Prop}{s:Shared}{κ:SortKind}{rk:Keyed->Nat}{M:Keyed->Prop}
theorem wpS_setG {st:SortSt}{g0 g:Nat}{Q:Unit->SortSt->Prop} (h:Q () (gst st g)):wpS (model prog w) A E s (setG' g) Q (gst st g0):=wpS_modify h
theorem wpS_ite {σ α:Type}{c:Prop} [Decidable c] {m m':StateT σ Sem α}{Q:α->σ->Prop}{st:σ} (h1:c->wpS (model prog w) A E s m Q st) (h2:¬ c->wpS (model prog w) A E s m' Q st):wpS (model prog w) A E s (if c then m else m') Q st:=by
 by_cases h:c
 ·rw[if_pos h];exact h1 h
 ·rw[if_neg h];exact h2 h
variable {a b:Array Keyed}{T:List Keyed}{out:Array Keyed}{ia ib:Nat}
theorem lo_done (h:Gm (leR rk) T out.toList (a.toList.drop ia) (b.toList.drop ib)) (e:ib=b.size\/ia=a.size):MR rk T (out++a.extract ia++b.extract ib):=by
 unfold MR;rw[Array.toList_append,Array.toList_append,ext_to,ext_to]
 rcases e with rfl | rfl
 ·have e0:b.toList.drop b.size=[]:=List.drop_of_length_le (by simp)
  rw[e0] at h ⊢;rw[List.append_nil];exact h.endP
 ·have e0:a.toList.drop a.size=[]:=List.drop_of_length_le (by simp)
  rw[e0] at h ⊢;rw[List.append_nil];exact h.swap.endP
theorem lo_last (h:Gm (leR rk) T out.toList (a.toList.drop ia) (b.toList.drop ib)) {z:Keyed} (hz:a.toList.drop ia=[z]) (hb:∀ y∈b.toList,rk y<=rk z):MR rk T (out++b.extract ib++a.extract ia):=by
 unfold MR;rw[Array.toList_append,Array.toList_append,ext_to,ext_to];refine h.endL fun y hy x hx=>?_
 rw[hz] at hx;rw[List.mem_singleton.mp hx];exact hb y (List.mem_of_mem_drop hy)
theorem mem_drop_ge {xs:Array Keyed} (so:xs.toList.Pairwise (leR rk)) {i:Nat}{x:Keyed} (h:xs[i]?=some x):∀ y∈xs.toList.drop i,rk x<=rk y:=fun y hy=>by
 have s2:=so.drop (i:=i);rw[drop1 h] at s2 hy
 rcases List.mem_cons.mp hy with rfl | hy
 ·exact Nat.le_refl _
 ·exact (List.pairwise_cons.mp s2).1 y hy
theorem so_at {xs:Array Keyed} (so:xs.toList.Pairwise (leR rk)) {i j:Nat}{x y:Keyed} (hi:xs[i]?=some x) (hj:xs[j]?=some y) (hij:i<=j):rk x<=rk y:=by
 refine mem_drop_ge so hi y ?_;rw[<- Array.getElem?_toList] at hj;have:(xs.toList.drop i)[j-i]?=some y:=by rw[List.getElem?_drop,show i+(j-i)=j by omega];exact hj
 exact List.mem_of_getElem? this
theorem gal_ok (C:Cmp prog w A s κ rk M) {st:SortSt} (hk:kindOf st=κ) {left:Bool}{key:Keyed}{arr:Array Keyed}{base n hint:Nat} (mk:M key) (am:∀ x∈arr.toList,M x) (hn:base+n<=arr.size) (hh:hint<n)
  (so:∀ i j,base<=i->i<=j->j<base+n->∀ x y,arr[i]?=some x->arr[j]?=some y->rk x<=rk y) {Q:Option Nat->SortSt->Prop}
  (h:∀ k,k<=n->(∀ i x,i<k->arr[base+i]?=some x->if left=true then rk x<rk key else rk x<=rk key)->(∀ i x,k<=i->i<n->arr[base+i]?=some x->if left=true then rk key<=rk x else rk key<rk x)->Q (some k) st) :
  wpS (model prog w) A E s (gallop' left key arr base n hint) Q st:=by
 have get:∀ i,i<n->arr[base+i]?=some (arr.getD (base+i) key):=fun i hi=>by
  have:base+i<arr.size:=by omega
  rw[Array.getD_eq_getD_getElem?,atA this];rfl
 have bt:∀ i,bey rk left key (arr.getD (base+i) key)=true↔if left=true then rk (arr.getD (base+i) key)<rk key else rk (arr.getD (base+i) key)<=rk key:=fun i=>by
  unfold bey;cases left <;> simp
 refine gallop_ok C hk mk (fun i=>arr.getD (base+i) key) (fun i hi=>⟨get i hi,am _ ?_⟩) hh (fun i j hij hj z=>?_) fun k hc=>h k hc.1 (fun i x hi hx=>?_) fun i x hi hn' hx=>?_
 ·have:=get i hi
  rw[<- Array.getElem?_toList] at this;exact List.mem_of_getElem? this
 ·have q:=so (base+i) (base+j) (by omega) (by omega) (by omega) _ _ (get i (by omega)) (get j hj)
  rw[bt] at z ⊢;cases left with
  |true=>rw[if_pos rfl] at z ⊢;omega
  |false=>rw[if_neg Bool.false_ne_true] at z ⊢;omega
 ·have q:=(bt i).mp (hc.2.1 i hi)
  have e:=get i (by have:=hc.1;omega)
  rw[hx] at e;rw[<- Option.some.inj e] at q;exact q
 ·have q:=fun z=>hc.2.2 i hi hn' ((bt i).mpr z)
  have e:=get i hn';rw[hx] at e;rw[<- Option.some.inj e] at q;cases left with
  |true=>rw[if_pos rfl];exact Nat.le_of_not_lt fun z=>q (by rw[if_pos rfl];exact z)
  |false=>rw[if_neg Bool.false_ne_true];exact Nat.lt_of_not_le fun z=>q (by rw[if_neg Bool.false_ne_true];exact z)
end
end Fx
set_option maxRecDepth 100000
namespace Fx
open PySem PySem.W PyProof.Rows
section
variable {prog:Program}{w:World}{A:Around}{E:Value->Shared->Prop}{s:Shared}{κ:SortKind}{rk:Keyed->Nat}{M:Keyed->Prop}
variable {a b:Array Keyed}{T:List Keyed}{out:Array Keyed}{ia ib:Nat}{x y z:Keyed}
theorem lo_pushA (h:Gm (leR rk) T out.toList (a.toList.drop ia) (b.toList.drop ib)) (hx:a[ia]?=some x) (hl:∀ y∈b.toList.drop ib,rk x<=rk y):Gm (leR rk) T (out.push x).toList (a.toList.drop (ia+1)) (b.toList.drop ib):=by
 rw[drop1 hx] at h;rw[Array.toList_push];exact Gm.takeP (P1:=[x]) h fun u hu y hy=>by rw[List.mem_singleton.mp hu];exact hl y hy
theorem lo_pushB (h:Gm (leR rk) T out.toList (a.toList.drop ia) (b.toList.drop ib)) (hy:b[ib]?=some y) (hl:∀ x∈a.toList.drop ia,rk y<=rk x):Gm (leR rk) T (out.push y).toList (a.toList.drop ia) (b.toList.drop (ib+1)):=(lo_pushA h.swap hy hl).swap
theorem mem_dt {xs:Array Keyed}{i k:Nat} (h:x∈(xs.toList.drop i).take k):∃ j,j<k/\xs[i+j]?=some x:=by
 obtain⟨j,hj⟩:=List.mem_iff_getElem?.mp h;rw[List.getElem?_take] at hj
 split at hj
 ·rename_i c
  rw[List.getElem?_drop,Array.getElem?_toList] at hj;exact⟨j,c,hj⟩
 ·cases hj
theorem mem_d {xs:Array Keyed}{i:Nat} (h:x∈xs.toList.drop i):∃ j,xs[i+j]?=some x:=by
 obtain⟨j,hj⟩:=List.mem_iff_getElem?.mp h;rw[List.getElem?_drop,Array.getElem?_toList] at hj;exact⟨j,hj⟩
theorem lo_takeA (h:Gm (leR rk) T out.toList (a.toList.drop ia) (b.toList.drop ib)) (k:Nat) (hl:∀ i x,i<k->a[ia+i]?=some x->∀ y∈b.toList.drop ib,rk x<=rk y):Gm (leR rk) T (out++a.extract ia (ia+k)).toList (a.toList.drop (ia+k)) (b.toList.drop ib):=by
 rw[Array.toList_append,ext_tk];have e:a.toList.drop ia=(a.toList.drop ia).take k++a.toList.drop (ia+k):=by rw[<- List.drop_drop,List.take_append_drop]
 rw[e] at h
 exact h.takeP fun x hx y hy=>by
  obtain⟨j,hj,hx⟩:=mem_dt hx;exact hl j x hj hx y hy
theorem lo_takeB (h:Gm (leR rk) T out.toList (a.toList.drop ia) (b.toList.drop ib)) (k:Nat) (hl:∀ i y,i<k->b[ib+i]?=some y->∀ x∈a.toList.drop ia,rk y<=rk x):Gm (leR rk) T (out++b.extract ib (ib+k)).toList (a.toList.drop ia) (b.toList.drop (ib+k)):=(lo_takeA h.swap k hl).swap
noncomputable abbrev LG (rk:Keyed->Nat) (a b:Array Keyed) (out:Array Keyed) (ia ib:Nat):Prop:=Gm (leR rk) (a.toList++b.toList) out.toList (a.toList.drop ia) (b.toList.drop ib)
theorem last1 (hz:a[a.size-1]?=some z) (e:ia+1=a.size):a.toList.drop ia=[z]:=by
 have:a[ia]?=some z:=by rw[show ia=a.size-1 by omega];exact hz
 rw[drop1 this,List.drop_of_length_le (by simp;omega)]
theorem lo_ok (C:Cmp prog w A s κ rk M) {st:SortSt} (hk:kindOf st=κ) (ma:∀ x∈a.toList,M x) (mb:∀ x∈b.toList,M x) (sa:a.toList.Pairwise (leR rk)) (sb:b.toList.Pairwise (leR rk)) (hz:a[a.size-1]?=some z) (hb:∀ y∈b.toList,rk y<=rk z)
  (hy:b[0]?=some y) (h0:∀ x∈a.toList,rk y<=rk x) {g0:Nat}{Q:Array Keyed->SortSt->Prop} (h:∀ r g,MR rk (a.toList++b.toList) r->Q r (gst st g)):wpS (model prog w) A E s (mergeLo' a b) Q (gst st g0):=by
 have mA:∀ {i:Nat}{x:Keyed},a[i]?=some x->M x:=fun {i x} e=>ma x (by rw[<- Array.getElem?_toList] at e;exact List.mem_of_getElem? e)
 have mB:∀ {i:Nat}{x:Keyed},b[i]?=some x->M x:=fun {i x} e=>mb x (by rw[<- Array.getElem?_toList] at e;exact List.mem_of_getElem? e)
 have as:0<a.size:=by
  have:=(Array.getElem?_eq_some_iff.mp hz).1;omega
 have bs:0<b.size:=(Array.getElem?_eq_some_iff.mp hy).1;have soA:∀ (i j:Nat) (x y:Keyed),a[i]?=some x->a[j]?=some y->i<=j->rk x<=rk y:=fun i j x y e1 e2 e3=>so_at sa e1 e2 e3
 have soB:∀ (i j:Nat) (x y:Keyed),b[i]?=some x->b[j]?=some y->i<=j->rk x<=rk y:=fun i j x y e1 e2 e3=>so_at sb e1 e2 e3
 have start:LG rk a b #[] 0 0:=⟨by simp,List.Pairwise.nil,fun x hx=>(by cases hx),fun x hx=>(by cases hx),by simpa using sa,by simpa using sb⟩
 have G0:LG rk a b #[y] 0 1:=lo_pushB start hy (by simpa using h0)
 refine wpS_bind (wpS_lift (wpAny_rule ⟨rfl,?_⟩));refine wpS_bind (wpS_elem hy ?_);dsimp only
 by_cases c1:1=b.size
 ·rw[if_pos (by simpa using c1)]
  exact wpS_pure (h _ _ (lo_done G0 (.inl c1)))
 rw[if_neg (by simpa using c1)]
 by_cases c2:0+1=a.size
 ·rw[if_pos (by simpa using c2)]
  exact wpS_pure (h _ _ (lo_last G0 (last1 hz c2) hb))
 rw[if_neg (by simpa using c2)]
 refine wpS_bind (wpS_get (wpS_bind ?_));refine wpS_mono (wpS_forRange (I:=fun x c st'=>∃ g,st'=gst st g/\∃ out' ia' ib' mg,c=(none,out',ia',ib',mg)/\LG rk a b out' ia' ib'/\ia'+1<a.size/\ib'<b.size/\x<=ia'+ib')
  (Q:=fun c st'=>∃ g,st'=gst st g/\∃ r,c.1=some r/\MR rk (a.toList++b.toList) r) ?_ ?_ ⟨_,rfl,_,_,_,_,rfl,G0,by omega,by omega,Nat.zero_le _⟩) ?_
 ·rintro x c st' _ hx ⟨g,rfl,out',ia',ib',mg,rfl,G',k1,k2,k3⟩
  dsimp only;refine wpS_bind (wpS_mono (wpS_forRange (I:=fun x c st'=>st'=gst st g/\∃ out2 ia2 ib2 ac bc,c=(none,out2,ia2,ib2,ac,bc)/\LG rk a b out2 ia2 ib2/\ia2+1<a.size/\ib2<b.size/\ia'+ib'+x<=ia2+ib2)
   (Q:=fun c st'=>st'=gst st g/\((∃ r,c.1=some r/\MR rk (a.toList++b.toList) r)\/∃ out2 ia2 ib2 ac bc,c=(none,out2,ia2,ib2,ac,bc)/\LG rk a b out2 ia2 ib2/\ia2+1<a.size/\ib2<b.size/\ia'+ib'+1<=ia2+ib2)) ?_ ?_ ⟨rfl,_,_,_,_,_,rfl,G',k1,k2,Nat.le_refl _⟩) ?_)
  ·rintro x c st' _ hx ⟨rfl,out2,ia2,ib2,ac,bc,rfl,G2,l1,l2,l3⟩
   dsimp only;have eb:=atA l2;have ea:=atA (xs:=a) (i:=ia2) (by omega)
   refine wpS_bind (wpS_elem eb (wpS_bind (wpS_elem ea (wpS_bind (C.lt (st:=gst st g) hk (mB eb) (mA ea) ?_)))))
   by_cases q:rk b[ib2]<rk a[ia2]
   ·rw[decide_eq_true q]
    dsimp only;rw[if_pos rfl];refine wpS_bind (wpS_elem eb ?_);have G3:=lo_pushB G2 eb fun x hx=>Nat.le_trans (Nat.le_of_lt q) (mem_drop_ge sa ea x hx)
    by_cases c:ib2+1=b.size
    ·rw[if_pos (by simpa using c)]
     exact wpS_pure ⟨rfl,.inl ⟨_,rfl,lo_done G3 (.inl c)⟩⟩
    ·rw[if_neg (by simpa using c)]
     split
     ·exact wpS_pure ⟨rfl,.inr ⟨_,_,_,_,_,rfl,G3,l1,by omega,by omega⟩⟩
     ·exact wpS_pure ⟨rfl,_,_,_,_,_,rfl,G3,l1,by omega,by omega⟩
   ·rw[decide_eq_false q]
    dsimp only;rw[if_neg Bool.false_ne_true];refine wpS_bind (wpS_elem ea ?_);have G3:=lo_pushA G2 ea fun y hy=>Nat.le_trans (Nat.le_of_not_lt q) (mem_drop_ge sb eb y hy)
    by_cases c:ia2+1+1=a.size
    ·rw[if_pos (by simpa using c)]
     exact wpS_pure ⟨rfl,.inl ⟨_,rfl,lo_last G3 (last1 hz c) hb⟩⟩
    ·rw[if_neg (by simpa using c)]
     split
     ·exact wpS_pure ⟨rfl,.inr ⟨_,_,_,_,_,rfl,G3,by omega,l2,by omega⟩⟩
     ·exact wpS_pure ⟨rfl,_,_,_,_,_,rfl,G3,by omega,l2,by omega⟩
  ·rintro c st' ⟨rfl,out2,ia2,ib2,ac,bc,rfl,G2,l1,l2,l3⟩
   omega
  ·rintro c st' ⟨rfl,⟨r,e,hr⟩ | ⟨out2,ia2,ib2,ac,bc,rfl,G2,l1,l2,l3⟩⟩
   ·obtain⟨c1,c2⟩:=c
    dsimp only at e;subst e;exact wpS_pure ⟨g,rfl,r,rfl,hr⟩
   dsimp only;refine wpS_bind (wpS_lift (wpAny_rule ⟨rfl,?_⟩));refine wpS_bind (wpS_mono (wpS_forRange (I:=fun x c st'=>∃ g,st'=gst st g/\∃ out3 ia3 ib3 mg ac bc,c=(none,out3,ia3,ib3,mg,ac,bc)/\LG rk a b out3 ia3 ib3/\ia3+1<a.size/\ib3<b.size/\ia2+ib2+x<=ia3+ib3)
    (Q:=fun c st'=>∃ g,st'=gst st g/\((∃ r,c.1=some r/\MR rk (a.toList++b.toList) r)\/∃ out3 ia3 ib3 mg ac bc,c=(none,out3,ia3,ib3,mg,ac,bc)/\LG rk a b out3 ia3 ib3/\ia3+1<a.size/\ib3<b.size/\ia2+ib2<=ia3+ib3)) ?_ ?_ ⟨g,rfl,_,_,_,_,_,_,rfl,G2,l1,l2,Nat.le_refl _⟩) ?_)
   ·rintro x c st' _ hx ⟨g,rfl,out3,ia3,ib3,mg,ac,bc,rfl,G3,m1,m2,m3⟩
    have eb:=atA m2;refine wpS_ite (fun _=>?_) (fun _=>?_)
    all_goals
     refine wpS_bind (wpS_setG (wpS_bind (wpS_elem eb (wpS_bind (gal_ok (left:=false) (arr:=a) (base:=ia3) (n:=a.size-ia3) (hint:=0) C (by exact hk) (mB eb) ma (by omega) (by omega) (fun i j _ hij _ x y e1 e2=>soA i j x y e1 e2 hij) fun k kn u1 u2=>?_)))))
     have G4:=lo_takeA G3 k (fun i x hi hx y hy=>Nat.le_trans (u1 i x hi hx) (mem_drop_ge sb eb y hy))
     have v2:∀ x∈a.toList.drop (ia3+k),rk b[ib3]<=rk x:=fun x hx=>by
      obtain⟨j,hj⟩:=mem_d hx;rw[Nat.add_assoc] at hj;have:=(Array.getElem?_eq_some_iff.mp hj).1;exact Nat.le_of_lt (u2 (k+j) x (by omega) (by omega) hj)
     refine wpS_ite (fun c=>?_) (fun c=>?_)
     ·refine wpS_ite (fun c3=>wpS_pure ⟨_,rfl,.inl ⟨_,rfl,lo_last G4 (last1 hz (by simpa using c3)) hb⟩⟩) fun c3=>?_
      have c3:¬ ia3+k+1=a.size:=by simpa using c3
      refine wpS_ite (fun c4=>wpS_pure ⟨_,rfl,.inl ⟨_,rfl,lo_done G4 (.inr (by simpa using c4))⟩⟩) fun c4=>?_
      have c4:¬ ia3+k=a.size:=by simpa using c4
      refine wpS_bind (wpS_elem eb ?_);have G5:=lo_pushB G4 eb v2;refine wpS_ite (fun c=>wpS_pure ⟨_,rfl,.inl ⟨_,rfl,lo_done G5 (.inl (by simpa using c))⟩⟩) fun c=>?_
      have n2:ib3+1<b.size:=by
       have:¬ ib3+1=b.size:=by simpa using c
       omega
      have ea:=atA (xs:=a) (i:=ia3+k) (by omega)
      refine wpS_bind (wpS_elem ea (wpS_bind (gal_ok (left:=true) (arr:=b) (base:=ib3+1) (n:=b.size-(ib3+1)) (hint:=0) C (by exact hk) (mA ea) mb (by omega) (by omega) (fun i j _ hij _ x y e1 e2=>soB i j x y e1 e2 hij) fun k2 kn2 w1 w2=>?_)))
      have G6:=lo_takeB G5 k2 (fun i y hi hy x hx=>Nat.le_trans (Nat.le_of_lt (w1 i y hi hy)) (mem_drop_ge sa ea x hx))
      have v3:∀ y∈b.toList.drop (ib3+1+k2),rk a[ia3+k]<=rk y:=fun y hy=>by
       obtain⟨j,hj⟩:=mem_d hy;rw[Nat.add_assoc (ib3+1)] at hj;have:=(Array.getElem?_eq_some_iff.mp hj).1;exact w2 (k2+j) y (by omega) (by omega) hj
      refine wpS_ite (fun c2=>?_) (fun c2=>?_)
      ·refine wpS_ite (fun c3=>wpS_pure ⟨_,rfl,.inl ⟨_,rfl,lo_done G6 (.inl (by simpa using c3))⟩⟩) fun c3=>?_
       have c3:¬ ib3+1+k2=b.size:=by simpa using c3
       refine wpS_bind (wpS_elem ea ?_);have G7:=lo_pushA G6 ea v3;refine wpS_ite (fun c4=>wpS_pure ⟨_,rfl,.inl ⟨_,rfl,lo_last G7 (last1 hz (by simpa using c4)) hb⟩⟩) fun c4=>?_
       have c4:¬ ia3+k+1+1=a.size:=by simpa using c4
       exact wpS_ite (fun _=>wpS_pure ⟨_,rfl,.inr ⟨_,ia3+k+1,ib3+1+k2,_,_,_,rfl,G7,by omega,by omega,by omega⟩⟩) fun _=>wpS_pure ⟨_,rfl,_,ia3+k+1,ib3+1+k2,_,_,_,rfl,G7,by omega,by omega,by omega⟩
      ·obtain rfl:k2=0:=by omega
       refine wpS_bind (wpS_elem ea ?_);have G7:=lo_pushA G5 ea v3;refine wpS_ite (fun c4=>wpS_pure ⟨_,rfl,.inl ⟨_,rfl,lo_last G7 (last1 hz (by simpa using c4)) hb⟩⟩) fun c4=>?_
       have c4:¬ ia3+k+1+1=a.size:=by simpa using c4
       exact wpS_ite (fun _=>wpS_pure ⟨_,rfl,.inr ⟨_,ia3+k+1,ib3+1,_,_,_,rfl,G7,by omega,by omega,by omega⟩⟩) fun _=>wpS_pure ⟨_,rfl,_,ia3+k+1,ib3+1,_,_,_,rfl,G7,by omega,by omega,by omega⟩
     ·obtain rfl:k=0:=by omega
      refine wpS_bind (wpS_elem eb ?_);have G5:=lo_pushB G3 eb v2;refine wpS_ite (fun c=>wpS_pure ⟨_,rfl,.inl ⟨_,rfl,lo_done G5 (.inl (by simpa using c))⟩⟩) fun c=>?_
      have n2:ib3+1<b.size:=by
       have:¬ ib3+1=b.size:=by simpa using c
       omega
      have ea:=atA (xs:=a) (i:=ia3) (by omega)
      refine wpS_bind (wpS_elem ea (wpS_bind (gal_ok (left:=true) (arr:=b) (base:=ib3+1) (n:=b.size-(ib3+1)) (hint:=0) C (by exact hk) (mA ea) mb (by omega) (by omega) (fun i j _ hij _ x y e1 e2=>soB i j x y e1 e2 hij) fun k2 kn2 w1 w2=>?_)))
      have G6:=lo_takeB G5 k2 (fun i y hi hy x hx=>Nat.le_trans (Nat.le_of_lt (w1 i y hi hy)) (mem_drop_ge sa ea x hx))
      have v3:∀ y∈b.toList.drop (ib3+1+k2),rk a[ia3]<=rk y:=fun y hy=>by
       obtain⟨j,hj⟩:=mem_d hy;rw[Nat.add_assoc (ib3+1)] at hj;have:=(Array.getElem?_eq_some_iff.mp hj).1;exact w2 (k2+j) y (by omega) (by omega) hj
      refine wpS_ite (fun c2=>?_) (fun c2=>?_)
      ·refine wpS_ite (fun c3=>wpS_pure ⟨_,rfl,.inl ⟨_,rfl,lo_done G6 (.inl (by simpa using c3))⟩⟩) fun c3=>?_
       have c3:¬ ib3+1+k2=b.size:=by simpa using c3
       refine wpS_bind (wpS_elem ea ?_);have G7:=lo_pushA G6 ea v3;refine wpS_ite (fun c4=>wpS_pure ⟨_,rfl,.inl ⟨_,rfl,lo_last G7 (last1 hz (by simpa using c4)) hb⟩⟩) fun c4=>?_
       have c4:¬ ia3+1+1=a.size:=by simpa using c4
       exact wpS_ite (fun _=>wpS_pure ⟨_,rfl,.inr ⟨_,ia3+1,ib3+1+k2,_,_,_,rfl,G7,by omega,by omega,by omega⟩⟩) fun _=>wpS_pure ⟨_,rfl,_,ia3+1,ib3+1+k2,_,_,_,rfl,G7,by omega,by omega,by omega⟩
      ·obtain rfl:k2=0:=by omega
       refine wpS_bind (wpS_elem ea ?_);have G7:=lo_pushA G5 ea v3;refine wpS_ite (fun c4=>wpS_pure ⟨_,rfl,.inl ⟨_,rfl,lo_last G7 (last1 hz (by simpa using c4)) hb⟩⟩) fun c4=>?_
       have c4:¬ ia3+1+1=a.size:=by simpa using c4
       exact wpS_ite (fun _=>wpS_pure ⟨_,rfl,.inr ⟨_,ia3+1,ib3+1,_,_,_,rfl,G7,by omega,by omega,by omega⟩⟩) fun _=>wpS_pure ⟨_,rfl,_,ia3+1,ib3+1,_,_,_,rfl,G7,by omega,by omega,by omega⟩
   ·rintro c st' ⟨g,rfl,out3,ia3,ib3,mg,ac,bc,rfl,G3,m1,m2,m3⟩
    omega
   ·rintro c st' ⟨g,rfl,⟨r,e,hr⟩ | ⟨out3,ia3,ib3,mg,ac,bc,rfl,G3,m1,m2,m3⟩⟩
    ·obtain⟨c1,c2⟩:=c
     dsimp only at e;subst e;exact wpS_pure ⟨g,rfl,r,rfl,hr⟩
    ·dsimp only
     exact wpS_bind (wpS_setG (wpS_pure ⟨_,rfl,_,_,_,_,rfl,G3,m1,m2,by omega⟩))
 ·rintro c st' ⟨g,rfl,out',ia',ib',mg,rfl,G',k1,k2,k3⟩
  omega
 ·rintro c st' ⟨g,rfl,r,e,hr⟩
  obtain⟨c1,c2⟩:=c;dsimp only at e;subst e;exact wpS_pure (h r g hr)
end
end Fx
set_option maxRecDepth 100000
namespace Fx
open PySem PySem.W PyProof.Rows
section
variable {prog:Program}{w:World}{A:Around}{E:Value->Shared->Prop}{s:Shared}{κ:SortKind}{rk:Keyed->Nat}{M:Keyed->Prop}
variable {a b:Array Keyed}{T:List Keyed}{out:Array Keyed}{na nb:Nat}{x y z:Keyed}
noncomputable abbrev HGm (rk:Keyed->Nat) (T:List Keyed) (a b out:Array Keyed) (na nb:Nat):Prop:=Gm (geR rk) T out.toList (a.toList.take na).reverse (b.toList.take nb).reverse
theorem rev1 {xs:Array Keyed}{n:Nat} (h0:0<n) (hx:xs[n-1]?=some x):(xs.toList.take n).reverse=x::(xs.toList.take (n-1)).reverse:=by
 obtain⟨m,rfl⟩:∃ m,n=m+1:=⟨n-1,by omega⟩
 rw[Nat.add_sub_cancel] at hx ⊢;rw[<- Array.getElem?_toList] at hx;rw[List.take_succ,hx,List.reverse_append];rfl
theorem mem_t {xs:Array Keyed}{k:Nat} (h:x∈xs.toList.take k):∃ j,j<k/\xs[j]?=some x:=by
 have:=mem_dt (xs:=xs) (i:=0) (k:=k) (by rw[List.drop_zero];exact h)
 obtain⟨j,hj,e⟩:=this;rw[Nat.zero_add] at e;exact⟨j,hj,e⟩
theorem mem_take_le {xs:Array Keyed} (so:xs.toList.Pairwise (leR rk)) {n:Nat} (h0:0<n) (hx:xs[n-1]?=some x):∀ y∈xs.toList.take n,rk y<=rk x:=fun y hy=>by
 obtain⟨j,hj,e⟩:=mem_t hy;exact so_at so e hx (by omega)
theorem hi_pushA (h:HGm rk T a b out na nb) (h0:0<na) (hx:a[na-1]?=some x) (hl:∀ y∈b.toList.take nb,rk y<=rk x):HGm rk T a b (out.push x) (na-1) nb:=by
 unfold HGm at h ⊢;rw[rev1 h0 hx] at h;rw[Array.toList_push];exact Gm.takeP (P1:=[x]) h fun u hu y hy=>by rw[List.mem_singleton.mp hu];exact hl y (List.mem_reverse.mp hy)
theorem hi_pushB (h:HGm rk T a b out na nb) (h0:0<nb) (hy:b[nb-1]?=some y) (hl:∀ x∈a.toList.take na,rk x<=rk y):HGm rk T a b (out.push y) na (nb-1):=Gm.swap (hi_pushA (a:=b) (b:=a) (Gm.swap h) h0 hy hl)
theorem ext_rv (xs:Array Keyed) (i j:Nat):(xs.extract i j).reverse.toList=((xs.toList.take j).drop i).reverse:=by
 rw[Array.toList_reverse,Array.toList_extract,List.extract_eq_drop_take,List.drop_take]
theorem hi_takeA {k:Nat} (h:HGm rk T a b out na nb) (hk:k<=na) (hl:∀ i x,k<=i->i<na->a[i]?=some x->∀ y∈b.toList.take nb,rk y<=rk x):HGm rk T a b (out++(a.extract k na).reverse) k nb:=by
 unfold HGm at h ⊢
 have e:a.toList.take na=a.toList.take k++(a.toList.take na).drop k:=by
  have:=List.take_append_drop k (a.toList.take na);rw[List.take_take,Nat.min_eq_left hk] at this;exact this.symm
 rw[Array.toList_append,ext_rv];rw[e,List.reverse_append] at h;refine h.takeP fun x hx y hy=>?_
 have hx:=List.mem_reverse.mp hx;rw[List.drop_take] at hx;obtain⟨j,hj,ex⟩:=mem_dt hx;exact hl (k+j) x (by omega) (by omega) ex y (List.mem_reverse.mp hy)
theorem hi_takeB {k:Nat} (h:HGm rk T a b out na nb) (hk:k<=nb) (hl:∀ i y,k<=i->i<nb->b[i]?=some y->∀ x∈a.toList.take na,rk x<=rk y):HGm rk T a b (out++(b.extract k nb).reverse) na k:=Gm.swap (hi_takeA (a:=b) (b:=a) (Gm.swap h) hk hl)
theorem mr_rev {l:List Keyed}{r:Array Keyed} (e:r.toList=l.reverse) (hp:l.Perm T) (hs:l.Pairwise (geR rk)):MR rk T r:=by
 unfold MR;rw[e];exact⟨(List.reverse_perm l).trans hp,List.pairwise_reverse.mpr hs⟩
theorem ext_0 (xs:Array Keyed) (n:Nat):(xs.extract 0 n).toList=xs.toList.take n:=by
 rw[Array.toList_extract,List.extract_eq_drop_take,List.drop_zero,Nat.sub_zero]
theorem hi_done (h:HGm rk T a b out na nb) (e:na=0\/nb=0):MR rk T (a.extract 0 na++b.extract 0 nb++out.reverse):=by
 unfold HGm at h
 rcases e with rfl | rfl
 ·rw[List.take_zero,List.reverse_nil] at h
  obtain⟨p1,p2⟩:=h.swap.endP;refine mr_rev ?_ p1 p2;rw[Array.toList_append,Array.toList_append,ext_0,ext_0,Array.toList_reverse,List.reverse_append,List.reverse_reverse,List.take_zero,List.nil_append]
 ·rw[List.take_zero,List.reverse_nil] at h
  obtain⟨p1,p2⟩:=h.endP;refine mr_rev ?_ p1 p2;rw[Array.toList_append,Array.toList_append,ext_0,ext_0,Array.toList_reverse,List.reverse_append,List.reverse_reverse,List.take_zero,List.append_nil]
theorem hi_first (h:HGm rk T a b out na nb) (hy:b[0]?=some y) (e:nb=1) (h0:∀ x∈a.toList,rk y<=rk x):MR rk T (b.extract 0 nb++a.extract 0 na++out.reverse):=by
 subst e;unfold HGm at h;have e1:=rev1 (xs:=b) (n:=1) Nat.one_pos hy;rw[show 1-1=0 from rfl,List.take_zero,List.reverse_nil] at e1
 obtain⟨p1,p2⟩:=h.swap.endL fun u hu v hv=>by
  rw[e1] at hv;rw[List.mem_singleton.mp hv];exact h0 u (List.mem_of_mem_take (List.mem_reverse.mp hu))
 refine mr_rev ?_ p1 p2;rw[Array.toList_append,Array.toList_append,ext_0,ext_0,Array.toList_reverse,List.reverse_append,List.reverse_append,List.reverse_reverse,List.reverse_reverse,List.append_assoc]
noncomputable abbrev HG (rk:Keyed->Nat) (a b out:Array Keyed) (na nb:Nat):Prop:=HGm rk (a.toList++b.toList) a b out na nb
theorem hi_ok (C:Cmp prog w A s κ rk M) {st:SortSt} (hk:kindOf st=κ) (ma:∀ x∈a.toList,M x) (mb:∀ x∈b.toList,M x) (sa:a.toList.Pairwise (leR rk)) (sb:b.toList.Pairwise (leR rk)) (hz:a[a.size-1]?=some z) (hb:∀ y∈b.toList,rk y<=rk z)
  (hy:b[0]?=some y) (h0:∀ x∈a.toList,rk y<=rk x) {g0:Nat}{Q:Array Keyed->SortSt->Prop} (h:∀ r g,MR rk (a.toList++b.toList) r->Q r (gst st g)):wpS (model prog w) A E s (mergeHi' a b) Q (gst st g0):=by
 have mA:∀ {i:Nat}{x:Keyed},a[i]?=some x->M x:=fun {i x} e=>ma x (by rw[<- Array.getElem?_toList] at e;exact List.mem_of_getElem? e)
 have mB:∀ {i:Nat}{x:Keyed},b[i]?=some x->M x:=fun {i x} e=>mb x (by rw[<- Array.getElem?_toList] at e;exact List.mem_of_getElem? e)
 have as:0<a.size:=by
  have:=(Array.getElem?_eq_some_iff.mp hz).1;omega
 have bs:0<b.size:=(Array.getElem?_eq_some_iff.mp hy).1;have soA:∀ (i j:Nat) (x y:Keyed),a[i]?=some x->a[j]?=some y->i<=j->rk x<=rk y:=fun i j x y e1 e2 e3=>so_at sa e1 e2 e3
 have soB:∀ (i j:Nat) (x y:Keyed),b[i]?=some x->b[j]?=some y->i<=j->rk x<=rk y:=fun i j x y e1 e2 e3=>so_at sb e1 e2 e3
 have ta:a.toList.take a.size=a.toList:=List.take_of_length_le (by simp)
 have tb:b.toList.take b.size=b.toList:=List.take_of_length_le (by simp)
 have start:HG rk a b #[] a.size b.size:=by
  unfold HG HGm;rw[ta,tb];exact⟨(List.reverse_perm _).append (List.reverse_perm _),List.Pairwise.nil,fun x hx=>(by cases hx),fun x hx=>(by cases hx),List.pairwise_reverse.mpr sa,List.pairwise_reverse.mpr sb⟩
 have G0:HG rk a b #[z] (a.size-1) b.size:=hi_pushA start as hz (by rw[tb];exact hb)
 refine wpS_bind (wpS_lift (wpAny_rule ⟨rfl,?_⟩));refine wpS_bind (wpS_elem hz ?_);dsimp only
 by_cases c1:a.size-1=0
 ·rw[if_pos (by simpa using c1)]
  exact wpS_pure (h _ _ (hi_done G0 (.inl c1)))
 rw[if_neg (by simpa using c1)]
 by_cases c2:b.size=1
 ·rw[if_pos (by simpa using c2)]
  exact wpS_pure (h _ _ (hi_first G0 hy c2 h0))
 rw[if_neg (by simpa using c2)]
 refine wpS_bind (wpS_get (wpS_bind ?_));refine wpS_mono (wpS_forRange (I:=fun x c st'=>∃ g,st'=gst st g/\∃ na' nb' out' mg,c=(none,na',nb',out',mg)/\HG rk a b out' na' nb'/\(0<na'/\na'<=a.size)/\(1<nb'/\nb'<=b.size)/\x+na'+nb'<=a.size+b.size)
  (Q:=fun c st'=>∃ g,st'=gst st g/\∃ r,c.1=some r/\MR rk (a.toList++b.toList) r) ?_ ?_ ⟨_,rfl,_,_,_,_,rfl,G0,⟨by omega,by omega⟩,⟨by omega,by omega⟩,by omega⟩) ?_
 ·rintro x c st' _ hx ⟨g,rfl,na',nb',out',mg,rfl,G',k1,k2,k3⟩
  dsimp only;refine wpS_bind (wpS_mono (wpS_forRange (I:=fun x c st'=>st'=gst st g/\∃ na2 nb2 out2 ac bc,c=(none,na2,nb2,out2,ac,bc)/\HG rk a b out2 na2 nb2/\(0<na2/\na2<=a.size)/\(1<nb2/\nb2<=b.size)/\x+na2+nb2<=na'+nb')
   (Q:=fun c st'=>st'=gst st g/\((∃ r,c.1=some r/\MR rk (a.toList++b.toList) r)\/∃ na2 nb2 out2 ac bc,c=(none,na2,nb2,out2,ac,bc)/\HG rk a b out2 na2 nb2/\(0<na2/\na2<=a.size)/\(1<nb2/\nb2<=b.size)/\1+na2+nb2<=na'+nb')) ?_ ?_ ⟨rfl,_,_,_,_,_,rfl,G',k1,k2,by omega⟩) ?_)
  ·rintro x c st' _ hx ⟨rfl,na2,nb2,out2,ac,bc,rfl,G2,l1,l2,l3⟩
   dsimp only;have eb:=atA (xs:=b) (i:=nb2-1) (by omega)
   have ea:=atA (xs:=a) (i:=na2-1) (by omega)
   refine wpS_bind (wpS_elem eb (wpS_bind (wpS_elem ea (wpS_bind (C.lt (st:=gst st g) hk (mB eb) (mA ea) ?_)))))
   by_cases q:rk b[nb2-1]<rk a[na2-1]
   ·rw[decide_eq_true q]
    dsimp only;rw[if_pos rfl];refine wpS_bind (wpS_elem ea ?_);have G3:=hi_pushA G2 (by omega) ea fun y hy=>Nat.le_trans (mem_take_le sb (by omega) eb y hy) (Nat.le_of_lt q)
    by_cases c:na2-1=0
    ·rw[if_pos (by simpa using c)]
     exact wpS_pure ⟨rfl,.inl ⟨_,rfl,hi_done G3 (.inl c)⟩⟩
    ·rw[if_neg (by simpa using c)]
     split
     ·exact wpS_pure ⟨rfl,.inr ⟨_,_,_,_,_,rfl,G3,⟨by omega,by omega⟩,l2,by omega⟩⟩
     ·exact wpS_pure ⟨rfl,_,_,_,_,_,rfl,G3,⟨by omega,by omega⟩,l2,by omega⟩
   ·rw[decide_eq_false q]
    dsimp only;rw[if_neg Bool.false_ne_true];refine wpS_bind (wpS_elem eb ?_);have G3:=hi_pushB G2 (by omega) eb fun x hx=>Nat.le_trans (mem_take_le sa (by omega) ea x hx) (Nat.le_of_not_lt q)
    by_cases c:nb2-1=1
    ·rw[if_pos (by simpa using c)]
     exact wpS_pure ⟨rfl,.inl ⟨_,rfl,hi_first G3 hy c h0⟩⟩
    ·rw[if_neg (by simpa using c)]
     split
     ·exact wpS_pure ⟨rfl,.inr ⟨_,_,_,_,_,rfl,G3,l1,⟨by omega,by omega⟩,by omega⟩⟩
     ·exact wpS_pure ⟨rfl,_,_,_,_,_,rfl,G3,l1,⟨by omega,by omega⟩,by omega⟩
  ·rintro c st' ⟨rfl,na2,nb2,out2,ac,bc,rfl,G2,l1,l2,l3⟩
   omega
  ·rintro c st' ⟨rfl,⟨r,e,hr⟩ | ⟨na2,nb2,out2,ac,bc,rfl,G2,l1,l2,l3⟩⟩
   ·obtain⟨c1,c2⟩:=c
    dsimp only at e;subst e;exact wpS_pure ⟨g,rfl,r,rfl,hr⟩
   dsimp only;refine wpS_bind (wpS_lift (wpAny_rule ⟨rfl,?_⟩));refine wpS_bind (wpS_mono (wpS_forRange (I:=fun x c st'=>∃ g,st'=gst st g/\∃ na3 nb3 out3 mg ac bc,c=(none,na3,nb3,out3,mg,ac,bc)/\HG rk a b out3 na3 nb3/\(0<na3/\na3<=a.size)/\(1<nb3/\nb3<=b.size)/\x+na3+nb3<=na2+nb2)
    (Q:=fun c st'=>∃ g,st'=gst st g/\((∃ r,c.1=some r/\MR rk (a.toList++b.toList) r)\/∃ na3 nb3 out3 mg ac bc,c=(none,na3,nb3,out3,mg,ac,bc)/\HG rk a b out3 na3 nb3/\(0<na3/\na3<=a.size)/\(1<nb3/\nb3<=b.size)/\na3+nb3<=na2+nb2)) ?_ ?_ ⟨g,rfl,_,_,_,_,_,_,rfl,G2,l1,l2,by omega⟩) ?_)
   ·rintro x c st' _ hx ⟨g,rfl,na3,nb3,out3,mg,ac,bc,rfl,G3,m1,m2,m3⟩
    have eb:=atA (xs:=b) (i:=nb3-1) (by omega)
    refine wpS_ite (fun _=>?_) (fun _=>?_)
    all_goals
     refine wpS_bind (wpS_setG (wpS_bind (wpS_elem eb (wpS_bind (gal_ok (left:=false) (arr:=a) (base:=0) (n:=na3) (hint:=na3-1) C (by exact hk) (mB eb) ma (by omega) (by omega) (fun i j _ hij _ x y e1 e2=>soA i j x y e1 e2 hij) fun k kn u1 u2=>?_)))))
     have G4:=hi_takeA G3 kn (fun i x hi hi' hx y hy=>Nat.le_trans (mem_take_le sb (by omega) eb y hy) (Nat.le_of_lt (u2 i x hi hi' (by rw[Nat.zero_add];exact hx))))
     have v2:∀ x∈a.toList.take k,rk x<=rk b[nb3-1]:=fun x hx=>by
      obtain⟨j,hj,hx⟩:=mem_t hx;exact u1 j x hj (by rw[Nat.zero_add];exact hx)
     refine wpS_ite (fun c=>?_) (fun c=>?_)
     ·refine wpS_ite (fun c3=>wpS_pure ⟨_,rfl,.inl ⟨_,rfl,hi_done G4 (.inl (by simpa using c3))⟩⟩) fun c3=>?_
      have c3:¬ k=0:=by simpa using c3
      refine wpS_bind (wpS_elem eb ?_);have G5:=hi_pushB G4 (by omega) eb v2
      refine wpS_ite (fun c=>wpS_pure ⟨_,rfl,.inl ⟨_,rfl,hi_first G5 hy (by simpa using c) h0⟩⟩) fun c=>?_
      have n2:¬ nb3-1=1:=by simpa using c
      have ea:=atA (xs:=a) (i:=k-1) (by omega)
      refine wpS_bind (wpS_elem ea (wpS_bind (gal_ok (left:=true) (arr:=b) (base:=0) (n:=nb3-1) (hint:=nb3-1-1) C (by exact hk) (mA ea) mb (by omega) (by omega) (fun i j _ hij _ x y e1 e2=>soB i j x y e1 e2 hij) fun k2 kn2 w1 w2=>?_)))
      have G6:=hi_takeB G5 kn2 (fun i y hi hi' hy x hx=>Nat.le_trans (mem_take_le sa (by omega) ea x hx) (w2 i y hi hi' (by rw[Nat.zero_add];exact hy)))
      have v3:∀ y∈b.toList.take k2,rk y<=rk a[k-1]:=fun y hy=>by
       obtain⟨j,hj,hy⟩:=mem_t hy;exact Nat.le_of_lt (w1 j y hj (by rw[Nat.zero_add];exact hy))
      refine wpS_ite (fun c2=>?_) (fun c2=>?_)
      ·refine wpS_ite (fun c3=>wpS_pure ⟨_,rfl,.inl ⟨_,rfl,hi_first G6 hy (by simpa using c3) h0⟩⟩) fun c3=>?_
       refine wpS_ite (fun c4=>wpS_pure ⟨_,rfl,.inl ⟨_,rfl,hi_done G6 (.inr (by simpa using c4))⟩⟩) fun c4=>?_
       have c3:¬ k2=1:=by simpa using c3
       have c4:¬ k2=0:=by simpa using c4
       refine wpS_bind (wpS_elem ea ?_);have G7:=hi_pushA G6 (by omega) ea v3
       refine wpS_ite (fun c5=>wpS_pure ⟨_,rfl,.inl ⟨_,rfl,hi_done G7 (.inl (by simpa using c5))⟩⟩) fun c5=>?_
       have c5:¬ k-1=0:=by simpa using c5
       exact wpS_ite (fun _=>wpS_pure ⟨_,rfl,.inr ⟨k-1,k2,_,_,_,_,rfl,G7,⟨by omega,by omega⟩,⟨by omega,by omega⟩,by omega⟩⟩) fun _=>wpS_pure ⟨_,rfl,k-1,k2,_,_,_,_,rfl,G7,⟨by omega,by omega⟩,⟨by omega,by omega⟩,by omega⟩
      ·have ek:k2=nb3-1:=by
        have c2:¬ nb3-1-k2 > 0:=c2;omega
       rw[ek] at v3;refine wpS_bind (wpS_elem ea ?_);have G7:=hi_pushA G5 (by omega) ea v3
       refine wpS_ite (fun c5=>wpS_pure ⟨_,rfl,.inl ⟨_,rfl,hi_done G7 (.inl (by simpa using c5))⟩⟩) fun c5=>?_
       have c5:¬ k-1=0:=by simpa using c5
       exact wpS_ite (fun _=>wpS_pure ⟨_,rfl,.inr ⟨k-1,nb3-1,_,_,_,_,rfl,G7,⟨by omega,by omega⟩,⟨by omega,by omega⟩,by omega⟩⟩) fun _=>wpS_pure ⟨_,rfl,k-1,nb3-1,_,_,_,_,rfl,G7,⟨by omega,by omega⟩,⟨by omega,by omega⟩,by omega⟩
     ·have ek:k=na3:=by
       have c:¬ na3-k > 0:=c;omega
      rw[ek] at v2;refine wpS_bind (wpS_elem eb ?_);have G5:=hi_pushB G3 (by omega) eb v2
      refine wpS_ite (fun c=>wpS_pure ⟨_,rfl,.inl ⟨_,rfl,hi_first G5 hy (by simpa using c) h0⟩⟩) fun c=>?_
      have n2:¬ nb3-1=1:=by simpa using c
      have ea:=atA (xs:=a) (i:=na3-1) (by omega)
      refine wpS_bind (wpS_elem ea (wpS_bind (gal_ok (left:=true) (arr:=b) (base:=0) (n:=nb3-1) (hint:=nb3-1-1) C (by exact hk) (mA ea) mb (by omega) (by omega) (fun i j _ hij _ x y e1 e2=>soB i j x y e1 e2 hij) fun k2 kn2 w1 w2=>?_)))
      have G6:=hi_takeB G5 kn2 (fun i y hi hi' hy x hx=>Nat.le_trans (mem_take_le sa (by omega) ea x hx) (w2 i y hi hi' (by rw[Nat.zero_add];exact hy)))
      have v3:∀ y∈b.toList.take k2,rk y<=rk a[na3-1]:=fun y hy=>by
       obtain⟨j,hj,hy⟩:=mem_t hy;exact Nat.le_of_lt (w1 j y hj (by rw[Nat.zero_add];exact hy))
      refine wpS_ite (fun c2=>?_) (fun c2=>?_)
      ·refine wpS_ite (fun c3=>wpS_pure ⟨_,rfl,.inl ⟨_,rfl,hi_first G6 hy (by simpa using c3) h0⟩⟩) fun c3=>?_
       refine wpS_ite (fun c4=>wpS_pure ⟨_,rfl,.inl ⟨_,rfl,hi_done G6 (.inr (by simpa using c4))⟩⟩) fun c4=>?_
       have c3:¬ k2=1:=by simpa using c3
       have c4:¬ k2=0:=by simpa using c4
       refine wpS_bind (wpS_elem ea ?_);have G7:=hi_pushA G6 (by omega) ea v3
       refine wpS_ite (fun c5=>wpS_pure ⟨_,rfl,.inl ⟨_,rfl,hi_done G7 (.inl (by simpa using c5))⟩⟩) fun c5=>?_
       have c5:¬ na3-1=0:=by simpa using c5
       exact wpS_ite (fun _=>wpS_pure ⟨_,rfl,.inr ⟨na3-1,k2,_,_,_,_,rfl,G7,⟨by omega,by omega⟩,⟨by omega,by omega⟩,by omega⟩⟩) fun _=>wpS_pure ⟨_,rfl,na3-1,k2,_,_,_,_,rfl,G7,⟨by omega,by omega⟩,⟨by omega,by omega⟩,by omega⟩
      ·have ek:k2=nb3-1:=by
        have c2:¬ nb3-1-k2 > 0:=c2;omega
       rw[ek] at v3;refine wpS_bind (wpS_elem ea ?_);have G7:=hi_pushA G5 (by omega) ea v3
       refine wpS_ite (fun c5=>wpS_pure ⟨_,rfl,.inl ⟨_,rfl,hi_done G7 (.inl (by simpa using c5))⟩⟩) fun c5=>?_
       have c5:¬ na3-1=0:=by simpa using c5
       exact wpS_ite (fun _=>wpS_pure ⟨_,rfl,.inr ⟨na3-1,nb3-1,_,_,_,_,rfl,G7,⟨by omega,by omega⟩,⟨by omega,by omega⟩,by omega⟩⟩) fun _=>wpS_pure ⟨_,rfl,na3-1,nb3-1,_,_,_,_,rfl,G7,⟨by omega,by omega⟩,⟨by omega,by omega⟩,by omega⟩
   ·rintro c st' ⟨g,rfl,na3,nb3,out3,mg,ac,bc,rfl,G3,m1,m2,m3⟩
    omega
   ·rintro c st' ⟨g,rfl,⟨r,e,hr⟩ | ⟨na3,nb3,out3,mg,ac,bc,rfl,G3,m1,m2,m3⟩⟩
    ·obtain⟨c1,c2⟩:=c
     dsimp only at e;subst e;exact wpS_pure ⟨g,rfl,r,rfl,hr⟩
    ·dsimp only
     exact wpS_bind (wpS_setG (wpS_pure ⟨_,rfl,_,_,_,_,rfl,G3,m1,m2,by omega⟩))
 ·rintro c st' ⟨g,rfl,na',nb',out',mg,rfl,G',k1,k2,k3⟩
  omega
 ·rintro c st' ⟨g,rfl,r,e,hr⟩
  obtain⟨c1,c2⟩:=c;dsimp only at e;subst e;exact wpS_pure (h r g hr)
end
end Fx
set_option maxRecDepth 100000
namespace Fx
open PySem PySem.W PyProof.Rows
theorem put_back (c:Nat):∀ (l:List Keyed) (m:Nat) (a:Array Keyed),c+m+l.length<=a.size->((l.zipIdx m).foldl (fun a (p:Keyed×Nat)=>a.setIfInBounds (c+p.2) p.1) a).toList=a.toList.take (c+m)++(l++a.toList.drop (c+m+l.length))
 |[],m,a,h=>by simp
 |x::l,m,a,h=>by
  rw[List.length_cons] at h;rw[List.zipIdx_cons,List.foldl_cons,put_back c l (m+1) _ (by rw[Array.size_setIfInBounds];omega)]
  have e:(a.setIfInBounds (c+m) x).toList=a.toList.set (c+m) x:=Array.toList_setIfInBounds;have hl:c+m<a.toList.length:=by rw[Array.length_toList];omega
  rw[e,show c+(m+1)=c+m+1 by omega,List.take_succ,List.getElem?_set_self hl,List.take_set_of_le (Nat.le_refl _),List.drop_set_of_lt (by omega),List.length_cons,show c+m+1+l.length=c+m+(l.length+1) by omega,List.append_assoc]
  rfl
section
variable {prog:Program}{w:World}{A:Around}{E:Value->Shared->Prop}{s:Shared}{κ:SortKind}{rk:Keyed->Nat}{M:Keyed->Prop}
theorem ext_mid (xs:Array Keyed) (i j:Nat):(xs.extract i j).toList=(xs.toList.drop i).take (j-i):=by
 rw[Array.toList_extract,List.extract_eq_drop_take]
theorem get_mid {xs:Array Keyed}{pre B post:List Keyed} (e:xs.toList=pre++(B++post)) {i:Nat} (hi:i<B.length):xs[pre.length+i]?=some B[i]:=by
 rw[<- Array.getElem?_toList,e,List.getElem?_append_right (by omega),Nat.add_sub_cancel_left,List.getElem?_append_left hi,List.getElem?_eq_getElem hi]
theorem at_list {l:List Keyed} (so:l.Pairwise (leR rk)) {i j:Nat} (hij:i<=j) (hj:j<l.length):rk (l[i]'(by omega))<=rk l[j]:=by
 by_cases h:i=j
 ·subst h;exact Nat.le_refl _
 ·exact List.pairwise_iff_getElem.mp so i j (by omega) hj (by omega)
theorem merge_at (C:Cmp prog w A s κ rk M) {st:SortSt} (hk:kindOf st=κ) (hf:failedOf st=none) {pre L R post:List Keyed} (e:(arrOf st).toList=pre++(L++(R++post))) {i p p':Nat} (p1:(pendingOf st)[i]?=some (pre.length,L.length,p)) (p2:(pendingOf st)[i+1]?=some (pre.length+L.length,R.length,p'))
  (nL:L≠[]) (nR:R≠[]) (sL:L.Pairwise (leR rk)) (sR:R.Pairwise (leR rk)) (ml:∀ x∈(arrOf st).toList,M x) {Q:Bool->SortSt->Prop}
  (h:∀ (xs:Array Keyed) (g:Nat) (N:List Keyed),xs.toList=pre++(N++post)->N.Perm (L++R)->N.Pairwise (leR rk)->Q true (SortSt.mk' κ xs (((pendingOf st).setIfInBounds i (pre.length,L.length+R.length,p)).eraseIdxIfInBounds (i+1)) g none)) :
  wpS (model prog w) A E s (mergeAt' i) Q st:=by
 subst hk;have e2:(arrOf st).toList=(pre++L)++(R++post):=by rw[e,List.append_assoc]
 have l2:(pre++L).length=pre.length+L.length:=List.length_append
 have sz:(arrOf st).size=pre.length+L.length+R.length+post.length:=by
  rw[<- Array.length_toList,e];simp;omega
 have lL:0<L.length:=List.length_pos_iff.mpr nL;have lR:0<R.length:=List.length_pos_iff.mpr nR;have gL:∀ i (hi:i<L.length),(arrOf st)[pre.length+i]?=some L[i]:=fun i hi=>get_mid e hi
 have gR:∀ i (hi:i<R.length),(arrOf st)[pre.length+L.length+i]?=some R[i]:=fun i hi=>by rw[<- l2];exact get_mid e2 hi
 have mm:∀ {i:Nat}{x:Keyed},(arrOf st)[i]?=some x->M x:=fun {i x} q=>ml x (by rw[<- Array.getElem?_toList] at q;exact List.mem_of_getElem? q)
 refine wpS_bind (wpS_get ?_);rw[show (sortPriv% PySem.Builtin.SortState.pending) st=pendingOf st from rfl,p1,p2];dsimp only;refine wpS_bind (wpS_modify ?_);have r0:=gR 0 lR;rw[Nat.add_zero] at r0;refine wpS_bind (wpS_elem r0 (wpS_bind (gal_ok (left:=false) (arr:=arrOf st) (base:=pre.length) (n:=L.length) (hint:=0) C (by exact rfl) (mm r0) ml (by omega) lL (fun i j h1 h2 h3 x y ex ey=>?_) fun k kn u1 u2=>?_)))
 ·rw[show i=pre.length+(i-pre.length) by omega,gL _ (by omega)] at ex
  rw[show j=pre.length+(j-pre.length) by omega,gL _ (by omega)] at ey
  cases ex;cases ey;exact at_list sL (by omega) (by omega)
 have x1:∀ i (hi:i<L.length),i<k->rk L[i]<=rk R[0]:=fun i hi hk=>u1 i _ hk (gL i hi)
 have x2:∀ i (hi:i<L.length),k<=i->rk R[0]<rk L[i]:=fun i hi hk=>u2 i _ hk hi (gL i hi)
 have whole:(∀ x∈L,∀ y∈R,rk x<=rk y)->Q true (SortSt.mk' (kindOf st) (arrOf st) (((pendingOf st).setIfInBounds i (pre.length,L.length+R.length,p)).eraseIdxIfInBounds (i+1)) (gallopOf st) (failedOf st)):=fun q=>by
  rw[hf];exact h _ _ (L++R) (by rw[e,List.append_assoc]) (List.Perm.refl _) (List.pairwise_append.mpr ⟨sL,sR,q⟩)
 have fromR:∀ y∈R,rk R[0]<=rk y:=fun y hy=>by
  obtain⟨j,hj,rfl⟩:=List.getElem_of_mem hy;exact at_list sR (Nat.zero_le _) hj
 refine wpS_ite (fun c=>wpS_pure (whole fun x hx y hy=>?_)) (fun c=>?_)
 ·have c:L.length-k=0:=by simpa using c
  obtain⟨j,hj,rfl⟩:=List.getElem_of_mem hx;exact Nat.le_trans (x1 j hj (by omega)) (fromR y hy)
 have c:¬ L.length-k=0:=by simpa using c
 have z0:=gL (L.length-1) (by omega)
 have ei:pre.length+k+(L.length-k)-1=pre.length+(L.length-1):=by omega
 rw[<- ei] at z0;refine wpS_bind (wpS_elem z0 (wpS_bind (gal_ok (left:=true) (arr:=arrOf st) (base:=pre.length+L.length) (n:=R.length) (hint:=R.length-1) C (by exact rfl) (mm z0) ml (by omega) (by omega) (fun i j h1 h2 h3 x y ex ey=>?_) fun k2 kn2 w1 w2=>?_)))
 ·rw[show i=pre.length+L.length+(i-(pre.length+L.length)) by omega,gR _ (by omega)] at ex
  rw[show j=pre.length+L.length+(j-(pre.length+L.length)) by omega,gR _ (by omega)] at ey
  cases ex;cases ey;exact at_list sR (by omega) (by omega)
 have y1:∀ i (hi:i<R.length),i<k2->rk R[i]<rk L[L.length-1]:=fun i hi hk=>w1 i _ hk (gR i hi)
 have y2:∀ i (hi:i<R.length),k2<=i->rk L[L.length-1]<=rk R[i]:=fun i hi hk=>w2 i _ hk hi (gR i hi)
 have toL:∀ x∈L,rk x<=rk L[L.length-1]:=fun x hx=>by
  obtain⟨j,hj,rfl⟩:=List.getElem_of_mem hx;exact at_list sL (by omega) (by omega)
 refine wpS_ite (fun c2=>wpS_pure (whole fun x hx y hy=>?_)) (fun c2=>?_)
 ·have c2:k2=0:=by simpa using c2
  obtain⟨j,hj,rfl⟩:=List.getElem_of_mem hy;exact Nat.le_trans (toL x hx) (y2 j hj (by omega))
 have c2:¬ k2=0:=by simpa using c2
 have ex:((arrOf st).extract (pre.length+k) (pre.length+L.length)).toList=L.drop k:=by
  rw[ext_mid,e,show pre.length+L.length-(pre.length+k)=L.length-k by omega,<- List.drop_drop,List.drop_left',List.drop_append_of_le_length (by omega),List.take_append_of_le_length (by rw[List.length_drop];omega),List.take_of_length_le (by rw[List.length_drop];omega)]
  rfl
 have ey:((arrOf st).extract (pre.length+L.length) (pre.length+L.length+k2)).toList=R.take k2:=by
  rw[ext_mid,e2,Nat.add_sub_cancel_left,<- l2,List.drop_left',List.take_append_of_le_length kn2];rfl
 have sx:((arrOf st).extract (pre.length+k) (pre.length+L.length)).size=L.length-k:=by rw[<- Array.length_toList,ex,List.length_drop]
 have zx:((arrOf st).extract (pre.length+k) (pre.length+L.length))[((arrOf st).extract (pre.length+k) (pre.length+L.length)).size-1]?=some L[L.length-1]:=by
  rw[sx,<- Array.getElem?_toList,ex,List.getElem?_drop,show k+(L.length-k-1)=L.length-1 by omega,List.getElem?_eq_getElem (by omega)]
 have zy:((arrOf st).extract (pre.length+L.length) (pre.length+L.length+k2))[0]?=some R[0]:=by
  rw[<- Array.getElem?_toList,ey,List.getElem?_take,if_pos (by omega),List.getElem?_eq_getElem lR]
 have hb:∀ y∈((arrOf st).extract (pre.length+L.length) (pre.length+L.length+k2)).toList,rk y<=rk L[L.length-1]:=by
  rw[ey];intro y hy;obtain⟨j,hj,rfl⟩:=List.getElem_of_mem hy;rw[List.getElem_take];rw[List.length_take] at hj;exact Nat.le_of_lt (y1 j (by omega) (by omega))
 have h0:∀ x∈((arrOf st).extract (pre.length+k) (pre.length+L.length)).toList,rk R[0]<=rk x:=by
  rw[ex];intro x hx;obtain⟨j,hj,rfl⟩:=List.getElem_of_mem hx;rw[List.getElem_drop];rw[List.length_drop] at hj;exact Nat.le_of_lt (x2 (k+j) (by omega) (by omega))
 have mx:∀ x∈((arrOf st).extract (pre.length+k) (pre.length+L.length)).toList,M x:=by
  rw[ex];exact fun x hx=>ml x (by rw[e];exact List.mem_append_right _ (List.mem_append_left _ (List.mem_of_mem_drop hx)))
 have my:∀ x∈((arrOf st).extract (pre.length+L.length) (pre.length+L.length+k2)).toList,M x:=by
  rw[ey];exact fun x hx=>ml x (by rw[e2];exact List.mem_append_right _ (List.mem_append_left _ (List.mem_of_mem_take hx)))
 have ox:((arrOf st).extract (pre.length+k) (pre.length+L.length)).toList.Pairwise (leR rk):=by rw[ex];exact sL.drop
 have oy:((arrOf st).extract (pre.length+L.length) (pre.length+L.length+k2)).toList.Pairwise (leR rk):=by rw[ey];exact sR.take
 have fin:∀ (r:Array Keyed) (g:Nat),MR rk (L.drop k++R.take k2) r->Q true (SortSt.mk' (kindOf st) (r.toList.zipIdx.foldl (fun a (p:Keyed×Nat)=>a.setIfInBounds (pre.length+k+p.2) p.1) (arrOf st)) (((pendingOf st).setIfInBounds i (pre.length,L.length+R.length,p)).eraseIdxIfInBounds (i+1)) g (failedOf st)):=fun r g hr=>by
  obtain⟨rp,rs⟩:=hr;have rl:r.toList.length=L.length-k+k2:=by rw[rp.length_eq,List.length_append,List.length_drop,List.length_take];omega
  have pb:=put_back (pre.length+k) r.toList 0 (arrOf st) (by rw[rl];omega)
  rw[Nat.add_zero,rl] at pb;have t1:(arrOf st).toList.take (pre.length+k)=pre++L.take k:=by rw[e,List.take_length_add_append,List.take_append_of_le_length (by omega)]
  have t2:(arrOf st).toList.drop (pre.length+k+(L.length-k+k2))=R.drop k2++post:=by
   rw[show pre.length+k+(L.length-k+k2)=(pre++L).length+k2 by rw[l2];omega,e2,List.drop_length_add_append,List.drop_append_of_le_length kn2]
  rw[t1,t2] at pb;rw[hf];refine h _ g (L.take k++(r.toList++R.drop k2)) (by rw[pb];simp only[List.append_assoc]) ?_ ?_
  ·have q:(L.take k++(r.toList++R.drop k2)).Perm (L.take k++((L.drop k++R.take k2)++R.drop k2)):=(rp.append_right _).append_left _
   have q2:L.take k++((L.drop k++R.take k2)++R.drop k2)=L++R:=by
    rw[List.append_assoc (L.drop k),List.take_append_drop,<- List.append_assoc,List.take_append_drop]
   rw[q2] at q;exact q
  ·have memr:∀ x∈r.toList,x∈L.drop k\/x∈R.take k2:=fun x hx=>List.mem_append.mp (rp.mem_iff.mp hx)
   have s1:=sL;rw[<- List.take_append_drop k L] at s1;obtain⟨a1,a2,a3⟩:=List.pairwise_append.mp s1;have s2:=sR;rw[<- List.take_append_drop k2 R] at s2;obtain⟨b1,b2,b3⟩:=List.pairwise_append.mp s2
   have lk:∀ x∈L.take k,rk x<=rk R[0]:=fun x hx=>by
    obtain⟨j,hj,rfl⟩:=List.getElem_of_mem hx;rw[List.getElem_take];rw[List.length_take] at hj;exact x1 j (by omega) (by omega)
   have rd:∀ y∈R.drop k2,rk L[L.length-1]<=rk y:=fun y hy=>by
    obtain⟨j,hj,rfl⟩:=List.getElem_of_mem hy;rw[List.getElem_drop];rw[List.length_drop] at hj;exact y2 (k2+j) (by omega) (by omega)
   refine List.pairwise_append.mpr ⟨a1,List.pairwise_append.mpr ⟨rs,b2,fun x hx y hy=>?_⟩,fun x hx y hy=>?_⟩
   ·rcases memr x hx with q | q
    ·exact Nat.le_trans (toL x (List.mem_of_mem_drop q)) (rd y hy)
    ·exact b3 x q y hy
   ·rcases List.mem_append.mp hy with hy | hy
    ·rcases memr y hy with q | q
     ·exact a3 x hx y q
     ·exact Nat.le_trans (lk x hx) (fromR y (List.mem_of_mem_take q))
    ·exact Nat.le_trans (lk x hx) (fromR y (List.mem_of_mem_drop hy))
 refine wpS_ite (fun c3=>wpS_bind ?_) (fun c3=>wpS_bind ?_)
 ·refine lo_ok (st:=SortSt.mk' (kindOf st) (arrOf st) (((pendingOf st).setIfInBounds i (pre.length,L.length+R.length,p)).eraseIdxIfInBounds (i+1)) (gallopOf st) (failedOf st)) (g0:=gallopOf st) C rfl mx my ox oy zx hb zy h0 fun r g hr=>?_
  rw[ex,ey] at hr;refine wpS_bind (wpS_modify (wpS_bind (wpS_get (wpS_pure ?_))));have:=fin r g hr;rw[hf] at this ⊢;exact this
 ·refine hi_ok (st:=SortSt.mk' (kindOf st) (arrOf st) (((pendingOf st).setIfInBounds i (pre.length,L.length+R.length,p)).eraseIdxIfInBounds (i+1)) (gallopOf st) (failedOf st)) (g0:=gallopOf st) C rfl mx my ox oy zx hb zy h0 fun r g hr=>?_
  rw[ex,ey] at hr;refine wpS_bind (wpS_modify (wpS_bind (wpS_get (wpS_pure ?_))));have:=fin r g hr;rw[hf] at this ⊢;exact this
end
end Fx
set_option maxRecDepth 100000
namespace Fx
open PySem PySem.W PyProof.Rows
noncomputable def Rk (rk:Keyed->Nat) (xs:Array Keyed) (i:Nat):Nat:=match xs[i]? with
 |some x=>rk x
 |none=>0
theorem Rk_congr {rk:Keyed->Nat}{xs ys:Array Keyed}{i j:Nat} (h:xs[i]?=ys[j]?):Rk rk xs i=Rk rk ys j:=by unfold Rk;rw[h]
theorem Rk_at {rk:Keyed->Nat}{xs:Array Keyed}{i:Nat}{x:Keyed} (h:xs[i]?=some x):Rk rk xs i=rk x:=by unfold Rk;rw[h]
noncomputable def Kp (lo:Nat) (a xs:Array Keyed):Prop:=xs.Perm a/\∀ i,i<lo->xs[i]?=a[i]?
theorem Kp.size {lo:Nat}{a xs:Array Keyed} (h:Kp lo a xs):xs.size=a.size:=h.1.size_eq
noncomputable def UpO (rk:Keyed->Nat) (xs:Array Keyed) (lo m:Nat):Prop:=∀ i j,i<=j->j<m->Rk rk xs (lo+i)<=Rk rk xs (lo+j)
noncomputable def DnO (rk:Keyed->Nat) (xs:Array Keyed) (lo m:Nat):Prop:=∀ i j,i<=j->j<m->Rk rk xs (lo+j)<=Rk rk xs (lo+i)
section
variable {prog:Program}{w:World}{A:Around}{E:Value->Shared->Prop}{s:Shared}{κ:SortKind}{rk:Keyed->Nat}{M:Keyed->Prop}
theorem Kp.mir {lo i j d:Nat}{a xs:Array Keyed} (h:Kp lo a xs) (hi:lo<=i) (hj:j<=xs.size):Kp lo a (mirror xs i j ((j-i) / 2)) :=
 ⟨(mirror_perm _ _ _ _).trans h.1,fun k hk=>by rw[getElem?_mirror_all hj,if_neg (by omega)];exact h.2 k hk⟩
theorem Kp.bub {lo k d:Nat}{a xs:Array Keyed} (h:Kp lo a xs) (hs:k<xs.size) (hd:d<=k) (hl:lo<=k-d):Kp lo a (bubble xs k d) :=
 ⟨(bubble_perm _ _ _).trans h.1,fun i hi=>by rw[getElem?_bubble hs d hd,if_neg (by omega),if_neg (by omega)];exact h.2 i hi⟩
theorem Rk_mir {xs:Array Keyed}{i j:Nat} (hj:j<=xs.size) (k:Nat):Rk rk (mirror xs i j ((j-i) / 2)) k=if i<=k/\k<j then Rk rk xs (i+j-1-k) else Rk rk xs k:=by
 have e:=getElem?_mirror_all (xs:=xs) (i:=i) hj k
 by_cases h1:i<=k/\k<j
 ·rw[if_pos h1] at e ⊢;exact Rk_congr e
 ·rw[if_neg h1] at e ⊢;exact Rk_congr e
theorem Rk_mir_eq {xs:Array Keyed}{i j:Nat} (hj:j<=xs.size) (e:∀ k,i<=k->k<j->Rk rk xs k=Rk rk xs (j-1)) (k:Nat):Rk rk (mirror xs i j ((j-i) / 2)) k=Rk rk xs k:=by
 rw[Rk_mir hj]
 split
 ·rw[e _ (by omega) (by omega),e k (by omega) (by omega)]
 ·rfl
theorem Rk_bub {xs:Array Keyed}{k d:Nat} (hs:k<xs.size) (hd:d<=k) (i:Nat):Rk rk (bubble xs k d) i=if i=k-d then Rk rk xs k else if k-d<i/\i<=k then Rk rk xs (i-1) else Rk rk xs i:=by
 have e:=getElem?_bubble hs d hd i
 by_cases h1:i=k-d
 ·rw[if_pos h1] at e ⊢;exact Rk_congr e
 ·rw[if_neg h1] at e ⊢
  by_cases h2:k-d<i/\i<=k
  ·rw[if_pos h2] at e ⊢;exact Rk_congr e
  ·rw[if_neg h2] at e ⊢;exact Rk_congr e
theorem Cmp.ltAt (C:Cmp prog w A s κ rk M) {st:SortSt}{xs:Array Keyed} (hk:kindOf st=κ) (ml:∀ x∈(arrOf st).toList,M x) {lo i j:Nat} (kp:Kp lo (arrOf st) xs) (hi:i<xs.size) (hj:j<xs.size) {Q:Option Bool->SortSt->Prop} (h:Q (some (decide (Rk rk xs i<Rk rk xs j))) (setArr st xs)) :
  wpS (model prog w) A E s (ltAt' i j) Q (setArr st xs):=by
 rw[ltAt'_eq];refine wpS_bind (wpS_get ?_)
 have mm:∀ {i:Nat}{x:Keyed},xs[i]?=some x->M x:=fun {i x} q=>ml x (by
  rw[<- Array.getElem?_toList] at q;exact (Array.perm_iff_toList_perm.mp kp.1).mem_iff.mp (List.mem_of_getElem? q))
 have ei:=atA hi;have ej:=atA hj;rw[Rk_at ei,Rk_at ej] at h;exact wpS_bind (wpS_elem ei (wpS_bind (wpS_elem ej (C.lt (st:=setArr st xs) hk (mm ei) (mm ej) h))))
theorem up_more {xs:Array Keyed}{lo m:Nat} (h:UpO rk xs lo m) (c:m=0\/Rk rk xs (lo+m-1)<=Rk rk xs (lo+m)):UpO rk xs lo (m+1):=fun i j hij hj=>by
 by_cases z:j<m
 ·exact h i j hij z
 ·obtain rfl:j=m:=by omega
  by_cases w:i=j
  ·subst w;exact Nat.le_refl _
  ·rcases c with c | c
   ·omega
   ·have:=h i (j-1) (by omega) (by omega)
    rw[show lo+(j-1)=lo+j-1 by omega] at this
    exact Nat.le_trans this c
theorem dn_more {xs:Array Keyed}{lo m:Nat} (h:DnO rk xs lo m) (c:m=0\/Rk rk xs (lo+m)<=Rk rk xs (lo+m-1)):DnO rk xs lo (m+1):=fun i j hij hj=>by
 by_cases z:j<m
 ·exact h i j hij z
 ·obtain rfl:j=m:=by omega
  by_cases w:i=j
  ·subst w;exact Nat.le_refl _
  ·rcases c with c | c
   ·omega
   ·have:=h i (j-1) (by omega) (by omega)
    rw[show lo+(j-1)=lo+j-1 by omega] at this
    exact Nat.le_trans c this
structure Gap (rk:Keyed->Nat) (xs:Array Keyed) (lo k l r:Nat):Prop where
 ord:l<=r/\r<=k
 below:∀ i<l,Rk rk xs (lo+i)<=Rk rk xs (lo+k)
 above:∀ i<k,r<=i->Rk rk xs (lo+k)<Rk rk xs (lo+i)
theorem Gap.all {xs:Array Keyed}{lo k:Nat}:Gap rk xs lo k 0 k:=⟨⟨Nat.zero_le _,Nat.le_refl _⟩,fun i z=>absurd z (Nat.not_lt_zero i),fun i z y=>absurd (Nat.lt_of_lt_of_le z y) (Nat.lt_irrefl _)⟩
theorem Gap.half {xs:Array Keyed}{lo k l r:Nat} (g:Gap rk xs lo k l r) (up:UpO rk xs lo k) (lt:l<r) :
  (Rk rk xs (lo+k)<Rk rk xs (lo+(l+r) / 2)->Gap rk xs lo k l ((l+r) / 2))/\(¬ Rk rk xs (lo+k)<Rk rk xs (lo+(l+r) / 2)->Gap rk xs lo k ((l+r) / 2+1) r):=by
 have o:=g.ord;have m1:l<=(l+r) / 2:=by omega
 have m2:(l+r) / 2<r:=by omega
 constructor
 ·intro c
  exact⟨⟨m1,by omega⟩,g.below,fun i ik ri=>Nat.lt_of_lt_of_le c (up ((l+r) / 2) i ri ik)⟩
 ·intro c
  exact⟨⟨m2,o.2⟩,fun i il=>Nat.le_trans (up i ((l+r) / 2) (Nat.le_of_lt_succ il) (by omega)) (Nat.le_of_not_lt c),g.above⟩
theorem Gap.put {xs:Array Keyed}{lo k l:Nat} (g:Gap rk xs lo k l l) (up:UpO rk xs lo k) (hk:lo+k<xs.size):UpO rk (bubble xs (lo+k) (k-l)) lo (k+1):=by
 have o:=g.ord.2
 have at':∀ i,i<=k->Rk rk (bubble xs (lo+k) (k-l)) (lo+i)=if i=l then Rk rk xs (lo+k) else if l<i then Rk rk xs (lo+(i-1)) else Rk rk xs (lo+i):=fun i ik=>by
  rw[Rk_bub hk (by omega)]
  by_cases c1:i=l
  ·rw[if_pos c1,if_pos (by omega)]
  ·rw[if_neg c1,if_neg (by omega)]
   by_cases c2:l<i
   ·rw[if_pos c2,if_pos ⟨by omega,by omega⟩]
    congr 1
    omega
   ·rw[if_neg c2,if_neg (by omega)]
 intro i j ij jk;rw[at' i (by omega),at' j (by omega)]
 rcases Nat.lt_trichotomy i l with ci | ci | ci
 ·rw[if_neg (by omega),if_neg (by omega)]
  rcases Nat.lt_trichotomy j l with cj | cj | cj
  ·rw[if_neg (by omega),if_neg (by omega)];exact up i j ij (by omega)
  ·rw[if_pos cj];exact g.below i ci
  ·rw[if_neg (by omega),if_pos cj];exact up i (j-1) (by omega) (by omega)
 ·rw[if_pos ci]
  by_cases cj:j=l
  ·rw[if_pos cj];exact Nat.le_refl _
  ·rw[if_neg cj,if_pos (by omega)];exact Nat.le_of_lt (g.above (j-1) (by omega) (by omega))
 ·rw[if_neg (by omega),if_pos ci,if_neg (by omega),if_pos (by omega)]
  exact up (i-1) (j-1) (by omega) (by omega)
noncomputable def InS (st:SortSt) (xs:Array Keyed) (rk:Keyed->Nat) (lo k steps:Nat) (c:Option Bool×Nat×Nat) (st':SortSt):Prop:=st'=setArr st xs/\c.1=none/\Gap rk xs lo k c.2.1 c.2.2/\c.2.2<=c.2.1+(k-steps)
noncomputable def OutS (st:SortSt) (rk:Keyed->Nat) (lo n k:Nat) (c:Option Bool×Unit) (st':SortSt):Prop:=c=(none,())/\∃ xs,st'=setArr st xs/\Kp lo (arrOf st) xs/\UpO rk xs lo (min k n)
theorem binO_ok (C:Cmp prog w A s κ rk M) {st:SortSt}{xs0:Array Keyed} (hk:kindOf st=κ) (ml:∀ x∈(arrOf st).toList,M x) {lo n ok:Nat} (hn:lo+n<=(arrOf st).size) (hok:ok<=n) (kp0:Kp lo (arrOf st) xs0) (hs:UpO rk xs0 lo ok) {Q:Bool->SortSt->Prop}
  (h:∀ xs,Kp lo (arrOf st) xs->UpO rk xs lo n->Q true (setArr st xs)):wpS (model prog w) A E s (binarySort' lo n ok) Q (setArr st xs0):=by
 have start:OutS st rk lo n (max ok 1) (none,()) (setArr st xs0):=⟨rfl,xs0,rfl,kp0,fun i j ij jm=>by
  by_cases z:j<ok
  ·exact hs i j ij z
  ·rw[show i=j by omega];exact Nat.le_refl _⟩
 have turn:∀ (k:Nat) (xs:Array Keyed),Kp lo (arrOf st) xs->UpO rk xs lo k->k<n->∀ l r,Gap rk xs lo k l r->r<=l->OutS st rk lo n (k+1) (none,()) (setArr st (bubble xs (lo+k) (lo+k-(lo+l)))):=fun k xs kp up kn l r g e=>by
  have rl:r=l:=Nat.le_antisymm e g.ord.1;subst rl;have sz:lo+k<xs.size:=by have:=kp.size;omega
  have o:=g.ord.2;rw[Nat.add_sub_add_left];exact⟨rfl,_,rfl,kp.bub sz (by omega) (by omega),by rw[Nat.min_eq_left kn];exact g.put up sz⟩
 refine wpS_bind (wpS_mono (wpS_forRange (I:=OutS st rk lo n) (Q:=OutS st rk lo n (max (max ok 1) n)) (fun k c st' _ kn z=>?_) (fun c st' z=>z) start) fun c st' z=>?_)
 ·obtain⟨rfl,xs,rfl,kp,up⟩:=z
  rw[Nat.min_eq_left (Nat.le_of_lt kn)] at up;have sz:=kp.size;refine wpS_bind (wpS_mono (wpS_forRange (I:=InS st xs rk lo k) (Q:=fun c st'=>InS st xs rk lo k k c st') (fun x c st' _ xk z=>?_) (fun c st' z=>?_) ⟨rfl,rfl,Gap.all,by show k<=0+(k-0);omega⟩) fun c st' z=>?_)
  ·obtain⟨c1,l,r⟩:=c
   obtain⟨rfl,c0,g,few⟩:=z;have c0:c1=none:=c0;subst c0;have few:r<=l+(k-x):=few;have g:Gap rk xs lo k l r:=g;have o:=g.ord;dsimp only
   by_cases done:l>=r
   ·rw[if_pos done]
    exact wpS_pure ⟨rfl,rfl,g,by show r<=l+(k-k);omega⟩
   ·rw[if_neg done]
    obtain⟨left,right⟩:=g.half up (Nat.lt_of_not_le done);refine wpS_bind (C.ltAt hk ml kp (by omega) (by omega) ?_)
    by_cases c:Rk rk xs (lo+k)<Rk rk xs (lo+(l+r) / 2)
    ·rw[decide_eq_true c]
     exact wpS_pure ⟨rfl,rfl,left c,by show (l+r) / 2<=l+(k-(x+1));omega⟩
    ·rw[decide_eq_false c]
     exact wpS_pure ⟨rfl,rfl,right c,by show r<=(l+r) / 2+1+(k-(x+1));omega⟩
  ·have:max 0 k=k:=by omega
   rw[this] at z;exact z
  ·obtain⟨c1,l,r⟩:=c
   obtain⟨rfl,c0,g,few⟩:=z;have c0:c1=none:=c0;subst c0;have few:r<=l+(k-k):=few;exact wpS_bind (wpS_modify (wpS_pure (turn k xs kp up kn l r g (by omega))))
 ·obtain⟨rfl,xs,rfl,kp,up⟩:=z
  refine wpS_pure (h xs kp ?_);have:min (max (max ok 1) n) n=n:=by omega
  rw[this] at up;exact up
end
end Fx
set_option maxRecDepth 100000
namespace Fx
open PySem PySem.W PyProof.Rows
section
variable {prog:Program}{w:World}{A:Around}{E:Value->Shared->Prop}{s:Shared}{κ:SortKind}{rk:Keyed->Nat}{M:Keyed->Prop}
theorem wpS_rev {st:SortSt}{xs:Array Keyed}{i j:Nat}{Q:Unit->SortSt->Prop} (h:Q () (setArr st (mirror xs i j ((j-i) / 2)))):wpS (model prog w) A E s (reverseSlice' i j) Q (setArr st xs):=by
 rw[reverseSlice'_eq];exact wpS_modify h
theorem run_ok (C:Cmp prog w A s κ rk M) {st:SortSt}{xs0:Array Keyed} (hk:kindOf st=κ) (ml:∀ x∈(arrOf st).toList,M x) {lo n:Nat} (hn:lo+n=(arrOf st).size) (h1:1<=n) (kp0:Kp lo (arrOf st) xs0) {Q:Option Nat->SortSt->Prop}
  (h:∀ m xs,Kp lo (arrOf st) xs->1<=m->m<=n->UpO rk xs lo m->Q (some m) (setArr st xs)):wpS (model prog w) A E s (countRun' lo n) Q (setArr st xs0):=by
 have sz0:=kp0.size;refine wpS_bind (wpS_mono (wpS_forRange (I:=fun x c st'=>st'=setArr st xs0/\c=(none,x)/\UpO rk xs0 lo x)
  (Q:=fun c st'=>st'=setArr st xs0/\∃ m,c=(none,m)/\1<=m/\m<=n/\UpO rk xs0 lo m/\(m<n->Rk rk xs0 (lo+m)<Rk rk xs0 (lo+m-1))) ?_ ?_ ⟨rfl,rfl,fun i j hij hj=>by rw[show i=j by omega];exact Nat.le_refl _⟩) ?_)
 ·rintro x c st' hx1 hx ⟨rfl,rfl,up⟩
  dsimp only;refine wpS_bind (C.ltAt hk ml kp0 (by omega) (by omega) ?_)
  by_cases q:Rk rk xs0 (lo+x)<Rk rk xs0 (lo+x-1)
  ·rw[decide_eq_true q]
   dsimp only;rw[if_pos rfl];exact wpS_pure ⟨rfl,x,rfl,hx1,by omega,up,fun _=>q⟩
  ·rw[decide_eq_false q]
   dsimp only;rw[if_neg Bool.false_ne_true];exact wpS_pure ⟨rfl,rfl,up_more up (.inr (Nat.le_of_not_lt q))⟩
 ·rintro c st' ⟨rfl,rfl,up⟩
  rw[show max 1 n=n by omega] at up ⊢
  exact⟨rfl,n,rfl,h1,Nat.le_refl _,up,fun z=>absurd z (Nat.lt_irrefl _)⟩
 rintro c st' ⟨rfl,m,rfl,m1,m2,up,dn⟩;dsimp only
 by_cases e:m=n
 ·rw[if_pos (by simpa using e)]
  exact wpS_pure (h m xs0 kp0 m1 m2 up)
 rw[if_neg (by simpa using e)]
 have dn:=dn (by omega)
 refine wpS_ite (fun c=>wpS_bind (C.ltAt hk ml kp0 (by omega) (by omega) ?_)) fun c=>?_
 ·by_cases q:Rk rk xs0 lo<Rk rk xs0 (lo+m-1)
  ·rw[decide_eq_true q]
   dsimp only;rw[if_pos rfl];exact wpS_pure (h m xs0 kp0 m1 m2 up)
  ·rw[decide_eq_false q]
   refine wpS_ite (fun z=>by cases z) fun _=>?_
   have all:∀ k,lo<=k->k<lo+m->Rk rk xs0 k=Rk rk xs0 (lo+m-1):=fun k hk1 hk2=>by
    have a1:=up 0 (k-lo) (by omega) (by omega)
    have a2:=up (k-lo) (m-1) (by omega) (by omega)
    rw[Nat.add_zero,show lo+(k-lo)=k by omega] at a1
    rw[show lo+(k-lo)=k by omega,show lo+(m-1)=lo+m-1 by omega] at a2
    omega
   have ek:=Rk_mir_eq (rk:=rk) (xs:=xs0) (i:=lo) (j:=lo+m) (by omega) all
   refine wpS_bind (wpS_rev ?_);have kp1:=kp0.mir (d:=0) (i:=lo) (j:=lo+m) (Nat.le_refl _) (by omega)
   have dn1:DnO rk (mirror xs0 lo (lo+m) ((lo+m-lo) / 2)) lo (m+1):=by
    refine dn_more (fun i j hij hj=>?_) (.inr ?_)
    ·rw[ek,ek,all _ (by omega) (by omega),all (lo+i) (by omega) (by omega)];exact Nat.le_refl _
    ·rw[ek,ek];exact Nat.le_of_lt dn
   refine wpS_bind (wpS_lift (wpAny_rule ⟨rfl,?_⟩));refine wpS_bind (wpS_mono (wpS_forRange (I:=fun x c st'=>∃ xs q,st'=setArr st xs/\c=(none,x,q)/\Kp lo (arrOf st) xs/\DnO rk xs lo x/\q+1<=x/\∀ k,lo+x-(q+1)<=k->k<lo+x->Rk rk xs k=Rk rk xs (lo+x-1))
    (Q:=fun c st'=>∃ xs d q,st'=setArr st xs/\c=(none,d,q)/\Kp lo (arrOf st) xs/\DnO rk xs lo d/\q+1<=d/\d<=n/\∀ k,lo+d-(q+1)<=k->k<lo+d->Rk rk xs k=Rk rk xs (lo+d-1)) ?_ ?_ ⟨_,0,rfl,rfl,kp1,dn1,by omega,fun k a b=>by rw[show k=lo+(m+1)-1 by omega]⟩) ?_)
   ·rintro x c st' hx1 hx ⟨xs,q,rfl,rfl,kx,dx,qx,ex⟩
    have sx:=kx.size;dsimp only;refine wpS_bind (C.ltAt hk ml kx (by omega) (by omega) ?_)
    by_cases r:Rk rk xs (lo+x)<Rk rk xs (lo+x-1)
    ·rw[decide_eq_true r]
     refine wpS_ite (fun _=>?_) fun z=>absurd rfl z
     refine wpS_ite (fun c=>wpS_bind (wpS_rev (wpS_pure ?_))) fun c=>wpS_pure ?_
     ·have er:=Rk_mir_eq (rk:=rk) (xs:=xs) (i:=lo+x-(q+1)) (j:=lo+x) (by omega) ex
      refine⟨_,0,rfl,rfl,kx.mir (d:=0) (by omega) (by omega),dn_more (fun i j hij hj=>?_) (.inr ?_),by omega,fun k a b=>by rw[show k=lo+(x+1)-1 by omega]⟩
      ·rw[er,er];exact dx i j hij hj
      ·rw[er,er];exact Nat.le_of_lt r
     ·exact⟨xs,0,rfl,rfl,kx,dn_more dx (.inr (Nat.le_of_lt r)),by omega,fun k a b=>by rw[show k=lo+(x+1)-1 by omega]⟩
    ·rw[decide_eq_false r]
     refine wpS_ite (fun z=>by cases z) fun _=>wpS_bind (C.ltAt hk ml kx (by omega) (by omega) ?_)
     by_cases r2:Rk rk xs (lo+x-1)<Rk rk xs (lo+x)
     ·rw[decide_eq_true r2]
      exact wpS_ite (fun _=>wpS_pure ⟨xs,x,q,rfl,rfl,kx,dx,qx,by omega,ex⟩) fun z=>absurd rfl z
     ·rw[decide_eq_false r2]
      refine wpS_ite (fun z=>by cases z) fun _=>wpS_pure ⟨xs,q+1,rfl,rfl,kx,dn_more dx (.inr (by omega)),by omega,fun k a b=>?_⟩
      rw[show lo+(x+1)-1=lo+x by omega]
      by_cases z:k<lo+x
      ·rw[ex k (by omega) z];omega
      ·rw[show k=lo+x by omega]
   ·rintro c st' ⟨xs,q,rfl,rfl,kx,dx,qx,ex⟩
    rw[show max (m+1) n=n by omega] at dx qx ex ⊢
    exact⟨xs,n,q,rfl,rfl,kx,dx,qx,Nat.le_refl _,ex⟩
   ·rintro c st' ⟨xs,d,q,rfl,rfl,kx,dx,qx,dn',ex⟩
    have sx:=kx.size;refine wpS_ite (fun c=>wpS_bind (wpS_rev ?_)) fun c=>?_
    ·have er:=Rk_mir_eq (rk:=rk) (xs:=xs) (i:=lo+d-(q+1)) (j:=lo+d) (by omega) ex
     have kp2:=kx.mir (d:=0) (i:=lo+d-(q+1)) (j:=lo+d) (by omega) (by omega)
     have dn2:DnO rk (mirror xs (lo+d-(q+1)) (lo+d) ((lo+d-(lo+d-(q+1))) / 2)) lo d:=fun i j hij hj=>by rw[er,er];exact dx i j hij hj
     generalize mirror xs (lo+d-(q+1)) (lo+d) ((lo+d-(lo+d-(q+1))) / 2)=xs2 at kp2 dn2 ⊢
     refine wpS_bind (wpS_rev ?_);have kp3:=Kp.mir (d:=0) (i:=lo) (j:=lo+d) kp2 (Nat.le_refl _) (by have:=kp2.size;omega)
     have up3:UpO rk (mirror (xs2) lo (lo+d) ((lo+d-lo) / 2)) lo d:=fun i j hij hj=>by
      have sz:=kp2.size;rw[Rk_mir (by omega),Rk_mir (by omega),if_pos (by omega),if_pos (by omega),show lo+(lo+d)-1-(lo+i)=lo+(d-1-i) by omega,show lo+(lo+d)-1-(lo+j)=lo+(d-1-j) by omega]
      exact dn2 _ _ (by omega) (by omega)
     generalize mirror (xs2) lo (lo+d) ((lo+d-lo) / 2)=xs3 at kp3 up3 ⊢
     have sz3:=kp3.size;refine wpS_bind (wpS_mono (wpS_forRange (I:=fun x c st'=>st'=setArr st xs3/\c=(none,x)/\UpO rk xs3 lo x) (Q:=fun c st'=>st'=setArr st xs3/\∃ m,c=(none,m)/\1<=m/\m<=n/\UpO rk xs3 lo m) ?_ ?_ ⟨rfl,rfl,up3⟩) ?_)
     ·rintro x c st' hx1 hx ⟨rfl,rfl,up⟩
      have hx1:d<=x:=hx1;dsimp only;refine wpS_bind (C.ltAt hk ml kp3 (by omega) (by omega) ?_)
      by_cases q:Rk rk xs3 (lo+x)<Rk rk xs3 (lo+x-1)
      ·rw[decide_eq_true q]
       exact wpS_ite (fun _=>wpS_pure ⟨rfl,x,rfl,by omega,by omega,up⟩) fun z=>absurd rfl z
      ·rw[decide_eq_false q]
       exact wpS_ite (fun z=>by cases z) fun _=>wpS_pure ⟨rfl,rfl,up_more up (.inr (Nat.le_of_not_lt q))⟩
     ·rintro c st' ⟨rfl,rfl,up⟩
      rw[show max d n=n by omega] at up ⊢
      exact⟨rfl,n,rfl,h1,Nat.le_refl _,up⟩
     ·rintro c st' ⟨rfl,m',rfl,g1,g2,up⟩
      exact wpS_pure (h m' xs3 kp3 g1 g2 up)
    ·refine wpS_bind (wpS_rev ?_)
     have kp3:=Kp.mir (d:=0) (i:=lo) (j:=lo+d) kx (Nat.le_refl _) (by have:=kx.size;omega)
     have up3:UpO rk (mirror (xs) lo (lo+d) ((lo+d-lo) / 2)) lo d:=fun i j hij hj=>by
      have sz:=kx.size;rw[Rk_mir (by omega),Rk_mir (by omega),if_pos (by omega),if_pos (by omega),show lo+(lo+d)-1-(lo+i)=lo+(d-1-i) by omega,show lo+(lo+d)-1-(lo+j)=lo+(d-1-j) by omega]
      exact dx _ _ (by omega) (by omega)
     generalize mirror (xs) lo (lo+d) ((lo+d-lo) / 2)=xs3 at kp3 up3 ⊢
     have sz3:=kp3.size;refine wpS_bind (wpS_mono (wpS_forRange (I:=fun x c st'=>st'=setArr st xs3/\c=(none,x)/\UpO rk xs3 lo x) (Q:=fun c st'=>st'=setArr st xs3/\∃ m,c=(none,m)/\1<=m/\m<=n/\UpO rk xs3 lo m) ?_ ?_ ⟨rfl,rfl,up3⟩) ?_)
     ·rintro x c st' hx1 hx ⟨rfl,rfl,up⟩
      have hx1:d<=x:=hx1;dsimp only;refine wpS_bind (C.ltAt hk ml kp3 (by omega) (by omega) ?_)
      by_cases q:Rk rk xs3 (lo+x)<Rk rk xs3 (lo+x-1)
      ·rw[decide_eq_true q]
       exact wpS_ite (fun _=>wpS_pure ⟨rfl,x,rfl,by omega,by omega,up⟩) fun z=>absurd rfl z
      ·rw[decide_eq_false q]
       exact wpS_ite (fun z=>by cases z) fun _=>wpS_pure ⟨rfl,rfl,up_more up (.inr (Nat.le_of_not_lt q))⟩
     ·rintro c st' ⟨rfl,rfl,up⟩
      rw[show max d n=n by omega] at up ⊢
      exact⟨rfl,n,rfl,h1,Nat.le_refl _,up⟩
     ·rintro c st' ⟨rfl,m',rfl,g1,g2,up⟩
      exact wpS_pure (h m' xs3 kp3 g1 g2 up)
 ·have dn1:DnO rk xs0 lo (m+1):=dn_more (fun i j hij hj=>by rw[show i=j by omega];exact Nat.le_refl _) (.inr (Nat.le_of_lt dn))
  refine wpS_bind (wpS_lift (wpAny_rule ⟨rfl,?_⟩));refine wpS_bind (wpS_mono (wpS_forRange (I:=fun x c st'=>∃ xs q,st'=setArr st xs/\c=(none,x,q)/\Kp lo (arrOf st) xs/\DnO rk xs lo x/\q+1<=x/\∀ k,lo+x-(q+1)<=k->k<lo+x->Rk rk xs k=Rk rk xs (lo+x-1))
   (Q:=fun c st'=>∃ xs d q,st'=setArr st xs/\c=(none,d,q)/\Kp lo (arrOf st) xs/\DnO rk xs lo d/\q+1<=d/\d<=n/\∀ k,lo+d-(q+1)<=k->k<lo+d->Rk rk xs k=Rk rk xs (lo+d-1)) ?_ ?_ ⟨xs0,0,rfl,rfl,kp0,dn1,by omega,fun k a b=>by rw[show k=lo+(m+1)-1 by omega]⟩) ?_)
  ·rintro x c st' hx1 hx ⟨xs,q,rfl,rfl,kx,dx,qx,ex⟩
   have sx:=kx.size;dsimp only;refine wpS_bind (C.ltAt hk ml kx (by omega) (by omega) ?_)
   by_cases r:Rk rk xs (lo+x)<Rk rk xs (lo+x-1)
   ·rw[decide_eq_true r]
    refine wpS_ite (fun _=>?_) fun z=>absurd rfl z
    refine wpS_ite (fun c=>wpS_bind (wpS_rev (wpS_pure ?_))) fun c=>wpS_pure ?_
    ·have er:=Rk_mir_eq (rk:=rk) (xs:=xs) (i:=lo+x-(q+1)) (j:=lo+x) (by omega) ex
     refine⟨_,0,rfl,rfl,kx.mir (d:=0) (by omega) (by omega),dn_more (fun i j hij hj=>?_) (.inr ?_),by omega,fun k a b=>by rw[show k=lo+(x+1)-1 by omega]⟩
     ·rw[er,er];exact dx i j hij hj
     ·rw[er,er];exact Nat.le_of_lt r
    ·exact⟨xs,0,rfl,rfl,kx,dn_more dx (.inr (Nat.le_of_lt r)),by omega,fun k a b=>by rw[show k=lo+(x+1)-1 by omega]⟩
   ·rw[decide_eq_false r]
    refine wpS_ite (fun z=>by cases z) fun _=>wpS_bind (C.ltAt hk ml kx (by omega) (by omega) ?_)
    by_cases r2:Rk rk xs (lo+x-1)<Rk rk xs (lo+x)
    ·rw[decide_eq_true r2]
     exact wpS_ite (fun _=>wpS_pure ⟨xs,x,q,rfl,rfl,kx,dx,qx,by omega,ex⟩) fun z=>absurd rfl z
    ·rw[decide_eq_false r2]
     refine wpS_ite (fun z=>by cases z) fun _=>wpS_pure ⟨xs,q+1,rfl,rfl,kx,dn_more dx (.inr (by omega)),by omega,fun k a b=>?_⟩
     rw[show lo+(x+1)-1=lo+x by omega]
     by_cases z:k<lo+x
     ·rw[ex k (by omega) z];omega
     ·rw[show k=lo+x by omega]
  ·rintro c st' ⟨xs,q,rfl,rfl,kx,dx,qx,ex⟩
   rw[show max (m+1) n=n by omega] at dx qx ex ⊢
   exact⟨xs,n,q,rfl,rfl,kx,dx,qx,Nat.le_refl _,ex⟩
  ·rintro c st' ⟨xs,d,q,rfl,rfl,kx,dx,qx,dn',ex⟩
   have sx:=kx.size;refine wpS_ite (fun c=>wpS_bind (wpS_rev ?_)) fun c=>?_
   ·have er:=Rk_mir_eq (rk:=rk) (xs:=xs) (i:=lo+d-(q+1)) (j:=lo+d) (by omega) ex
    have kp2:=kx.mir (d:=0) (i:=lo+d-(q+1)) (j:=lo+d) (by omega) (by omega)
    have dn2:DnO rk (mirror xs (lo+d-(q+1)) (lo+d) ((lo+d-(lo+d-(q+1))) / 2)) lo d:=fun i j hij hj=>by rw[er,er];exact dx i j hij hj
    generalize mirror xs (lo+d-(q+1)) (lo+d) ((lo+d-(lo+d-(q+1))) / 2)=xs2 at kp2 dn2 ⊢
    refine wpS_bind (wpS_rev ?_);have kp3:=Kp.mir (d:=0) (i:=lo) (j:=lo+d) kp2 (Nat.le_refl _) (by have:=kp2.size;omega)
    have up3:UpO rk (mirror (xs2) lo (lo+d) ((lo+d-lo) / 2)) lo d:=fun i j hij hj=>by
     have sz:=kp2.size;rw[Rk_mir (by omega),Rk_mir (by omega),if_pos (by omega),if_pos (by omega),show lo+(lo+d)-1-(lo+i)=lo+(d-1-i) by omega,show lo+(lo+d)-1-(lo+j)=lo+(d-1-j) by omega]
     exact dn2 _ _ (by omega) (by omega)
    generalize mirror (xs2) lo (lo+d) ((lo+d-lo) / 2)=xs3 at kp3 up3 ⊢
    have sz3:=kp3.size;refine wpS_bind (wpS_mono (wpS_forRange (I:=fun x c st'=>st'=setArr st xs3/\c=(none,x)/\UpO rk xs3 lo x) (Q:=fun c st'=>st'=setArr st xs3/\∃ m,c=(none,m)/\1<=m/\m<=n/\UpO rk xs3 lo m) ?_ ?_ ⟨rfl,rfl,up3⟩) ?_)
    ·rintro x c st' hx1 hx ⟨rfl,rfl,up⟩
     have hx1:d<=x:=hx1;dsimp only;refine wpS_bind (C.ltAt hk ml kp3 (by omega) (by omega) ?_)
     by_cases q:Rk rk xs3 (lo+x)<Rk rk xs3 (lo+x-1)
     ·rw[decide_eq_true q]
      exact wpS_ite (fun _=>wpS_pure ⟨rfl,x,rfl,by omega,by omega,up⟩) fun z=>absurd rfl z
     ·rw[decide_eq_false q]
      exact wpS_ite (fun z=>by cases z) fun _=>wpS_pure ⟨rfl,rfl,up_more up (.inr (Nat.le_of_not_lt q))⟩
    ·rintro c st' ⟨rfl,rfl,up⟩
     rw[show max d n=n by omega] at up ⊢
     exact⟨rfl,n,rfl,h1,Nat.le_refl _,up⟩
    ·rintro c st' ⟨rfl,m',rfl,g1,g2,up⟩
     exact wpS_pure (h m' xs3 kp3 g1 g2 up)
   ·refine wpS_bind (wpS_rev ?_)
    have kp3:=Kp.mir (d:=0) (i:=lo) (j:=lo+d) kx (Nat.le_refl _) (by have:=kx.size;omega)
    have up3:UpO rk (mirror (xs) lo (lo+d) ((lo+d-lo) / 2)) lo d:=fun i j hij hj=>by
     have sz:=kx.size;rw[Rk_mir (by omega),Rk_mir (by omega),if_pos (by omega),if_pos (by omega),show lo+(lo+d)-1-(lo+i)=lo+(d-1-i) by omega,show lo+(lo+d)-1-(lo+j)=lo+(d-1-j) by omega]
     exact dx _ _ (by omega) (by omega)
    generalize mirror (xs) lo (lo+d) ((lo+d-lo) / 2)=xs3 at kp3 up3 ⊢
    have sz3:=kp3.size;refine wpS_bind (wpS_mono (wpS_forRange (I:=fun x c st'=>st'=setArr st xs3/\c=(none,x)/\UpO rk xs3 lo x) (Q:=fun c st'=>st'=setArr st xs3/\∃ m,c=(none,m)/\1<=m/\m<=n/\UpO rk xs3 lo m) ?_ ?_ ⟨rfl,rfl,up3⟩) ?_)
    ·rintro x c st' hx1 hx ⟨rfl,rfl,up⟩
     have hx1:d<=x:=hx1;dsimp only;refine wpS_bind (C.ltAt hk ml kp3 (by omega) (by omega) ?_)
     by_cases q:Rk rk xs3 (lo+x)<Rk rk xs3 (lo+x-1)
     ·rw[decide_eq_true q]
      exact wpS_ite (fun _=>wpS_pure ⟨rfl,x,rfl,by omega,by omega,up⟩) fun z=>absurd rfl z
     ·rw[decide_eq_false q]
      exact wpS_ite (fun z=>by cases z) fun _=>wpS_pure ⟨rfl,rfl,up_more up (.inr (Nat.le_of_not_lt q))⟩
    ·rintro c st' ⟨rfl,rfl,up⟩
     rw[show max d n=n by omega] at up ⊢
     exact⟨rfl,n,rfl,h1,Nat.le_refl _,up⟩
    ·rintro c st' ⟨rfl,m',rfl,g1,g2,up⟩
     exact wpS_pure (h m' xs3 kp3 g1 g2 up)
end
end Fx
set_option maxRecDepth 100000
namespace Fx
open PySem PySem.W PyProof.Rows
noncomputable def rows:List (List Keyed×Nat)->Nat->List (Nat×Nat×Nat)
 |[],_=>[]
 |r::t,o=>(o,r.1.length,r.2)::rows t (o+r.1.length)
noncomputable def flatR (rs:List (List Keyed×Nat)):List Keyed:=(rs.map (·.1)).flatten
theorem flatR_app (a b:List (List Keyed×Nat)):flatR (a++b)=flatR a++flatR b:=by unfold flatR;rw[List.map_append,List.flatten_append]
theorem flatR_cons (r:List Keyed×Nat) (b:List (List Keyed×Nat)):flatR (r::b)=r.1++flatR b:=by unfold flatR;rw[List.map_cons,List.flatten_cons]
theorem rows_app:∀ (a b:List (List Keyed×Nat)) (o:Nat),rows (a++b) o=rows a o++rows b (o+(flatR a).length)
 |[],b,o=>rfl
 |r::a,b,o=>by
  rw[List.cons_append];show (o,r.1.length,r.2)::rows (a++b) (o+r.1.length)=(o,r.1.length,r.2)::(rows a (o+r.1.length)++rows b _);rw[rows_app a b,flatR_cons,List.length_append,Nat.add_assoc]
theorem rows_len:∀ (a:List (List Keyed×Nat)) (o:Nat),(rows a o).length=a.length
 |[],o=>rfl
 |r::a,o=>by show (rows a _).length+1=_;rw[rows_len a];rfl
structure RunsOk (rk:Keyed->Nat) (κ:SortKind) (T:List Keyed) (post:List Keyed) (rs:List (List Keyed×Nat)) (st:SortSt):Prop where
 kind:kindOf st=κ
 fail:failedOf st=none
 pend:(pendingOf st).toList=rows rs 0
 arr:(arrOf st).toList=flatR rs++post
 perm:(arrOf st).toList.Perm T
 ne:∀ r∈rs,r.1≠[]
 so:∀ r∈rs,r.1.Pairwise (leR rk)
section
variable {prog:Program}{w:World}{A:Around}{E:Value->Shared->Prop}{s:Shared}{κ:SortKind}{rk:Keyed->Nat}{T:List Keyed}
theorem RunsOk.pat {post:List Keyed}{rs:List (List Keyed×Nat)}{st:SortSt} (h:RunsOk rk κ T post rs st) {a b:List (List Keyed×Nat)}{r:List Keyed×Nat} (e:rs=a++r::b):(pendingOf st)[a.length]?=some ((flatR a).length,r.1.length,r.2):=by
 rw[<- Array.getElem?_toList,h.pend,e,rows_app,List.getElem?_append_right (by rw[rows_len];omega),rows_len,Nat.sub_self,Nat.zero_add]
 rfl
theorem RunsOk.psize {post:List Keyed}{rs:List (List Keyed×Nat)}{st:SortSt} (h:RunsOk rk κ T post rs st):(pendingOf st).size=rs.length:=by
 rw[<- Array.length_toList,h.pend,rows_len]
theorem merge_runs (C:Cmp prog w A s κ rk (fun x=>x∈T)) {post:List Keyed}{rs:List (List Keyed×Nat)}{st:SortSt} (h:RunsOk rk κ T post rs st) {i:Nat} (hi:i+1<rs.length) {Q:Bool->SortSt->Prop}
  (q:∀ rs' st',RunsOk rk κ T post rs' st'->rs'.length+1=rs.length->Q true st'):wpS (model prog w) A E s (mergeAt' i) Q st:=by
 obtain⟨a,L,R,b,rfl,rfl⟩:∃ a L R b,rs=a++L::R::b/\a.length=i:=by
  refine⟨rs.take i,rs[i],rs[i+1],rs.drop (i+2),?_,by rw[List.length_take];omega⟩
  have e1:=List.drop_eq_getElem_cons (l:=rs) (i:=i) (by omega)
  have e2:=List.drop_eq_getElem_cons (l:=rs) (i:=i+1) (by omega)
  rw[<- e2,<- e1,List.take_append_drop]
 have p1:=h.pat (a:=a) (r:=L) (b:=R::b) rfl;have p2:=h.pat (a:=a++[L]) (r:=R) (b:=b) (by simp)
 rw[flatR_app,List.length_append,List.length_append,flatR_cons] at p2
 have e:(arrOf st).toList=flatR a++(L.1++(R.1++(flatR b++post))):=by
  rw[h.arr,flatR_app,flatR_cons,flatR_cons];simp only[List.append_assoc]
 have ml:L∈a++L::R::b:=by simp
 have mr:R∈a++L::R::b:=by simp
 refine merge_at C h.kind h.fail e p1 (p':=R.2) (by simpa [flatR] using p2) (h.ne _ ml) (h.ne _ mr) (h.so _ ml) (h.so _ mr) (fun x hx=>h.perm.mem_iff.mp hx) fun xs g N ex np ns=>?_
 have nl:N.length=L.1.length+R.1.length:=by rw[np.length_eq,List.length_append]
 refine q (a++(N,L.2)::b) _ ⟨rfl,rfl,?_,?_,?_,fun r hr=>?_,fun r hr=>?_⟩ (by simp;omega)
 ·show (((pendingOf st).setIfInBounds a.length ((flatR a).length,L.1.length+R.1.length,L.2)).eraseIdxIfInBounds (a.length+1)).toList=_
  rw[Array.toList_eraseIdxIfInBounds,Array.toList_setIfInBounds,h.pend,rows_app,rows_app];have l1:=rows_len a 0;rw[List.set_append_right _ _ (by omega),List.eraseIdx_append_of_length_le (by omega),l1,Nat.sub_self,Nat.add_sub_cancel_left]
  show rows a 0++((flatR a).length,L.1.length+R.1.length,L.2)::rows b (0+(flatR a).length+L.1.length+R.1.length)=rows a 0++(0+(flatR a).length,N.length,L.2)::rows b (0+(flatR a).length+N.length);rw[nl,Nat.zero_add,Nat.add_assoc]
 ·show xs.toList=_
  rw[ex,flatR_app,flatR_cons];simp only[List.append_assoc]
 ·show xs.toList.Perm T
  refine List.Perm.trans ?_ h.perm;rw[ex,e,<- List.append_assoc L.1];exact (np.append_right _).append_left _
 ·rcases List.mem_append.mp hr with hr | hr
  ·exact h.ne r (List.mem_append_left _ hr)
  ·rcases List.mem_cons.mp hr with rfl | hr
   ·intro z
    have z:N=[]:=z;rw[z] at nl;have:=List.length_pos_iff.mpr (h.ne _ ml);simp at nl;omega
   ·exact h.ne r (List.mem_append_right _ (List.mem_cons_of_mem _ (List.mem_cons_of_mem _ hr)))
 ·rcases List.mem_append.mp hr with hr | hr
  ·exact h.so r (List.mem_append_left _ hr)
  ·rcases List.mem_cons.mp hr with rfl | hr
   ·exact ns
   ·exact h.so r (List.mem_append_right _ (List.mem_cons_of_mem _ (List.mem_cons_of_mem _ hr)))
end
end Fx
set_option maxRecDepth 100000
namespace Fx
open PySem PySem.W PyProof.Rows
section
variable {prog:Program}{w:World}{A:Around}{E:Value->Shared->Prop}{s:Shared}{κ:SortKind}{rk:Keyed->Nat}{T:List Keyed}
theorem up_seg {xs:Array Keyed}{lo n:Nat} (hn:lo+n<=xs.size) (h:UpO rk xs lo n):((xs.toList.drop lo).take n).Pairwise (leR rk):=by
 rw[List.pairwise_iff_getElem];intro i j hi hj hij;rw[List.length_take] at hi hj
 have e:∀ (k:Nat) (hk:k<((xs.toList.drop lo).take n).length),Rk rk xs (lo+k)=rk ((xs.toList.drop lo).take n)[k]:=fun k hk=>by
  refine Rk_at ?_;rw[List.length_take] at hk;rw[List.getElem_take,List.getElem_drop,<- Array.getElem?_toList,List.getElem?_eq_getElem]
 have:=h i j (by omega) (by omega)
 rw[e i (by rw[List.length_take];omega),e j (by rw[List.length_take];omega)] at this
 exact this
theorem take_kp {lo:Nat}{a xs:Array Keyed} (h:Kp lo a xs):xs.toList.take lo=a.toList.take lo:=by
 refine List.ext_getElem? fun i=>?_
 rw[List.getElem?_take,List.getElem?_take]
 split
 ·rename_i hi
  rw[Array.getElem?_toList,Array.getElem?_toList];exact h.2 i hi
 ·rfl
theorem RunsOk.push {post rest N:List Keyed}{rs:List (List Keyed×Nat)}{st:SortSt} (h:RunsOk rk κ T post rs st) (e:post=N++rest) (nN:N≠[]) (sN:N.Pairwise (leR rk)):RunsOk rk κ T rest (rs++[(N,0)]) (setPending st ((pendingOf st).push ((flatR rs).length,N.length,0))):=by
 refine⟨h.kind,h.fail,?_,?_,h.perm,fun r hr=>?_,fun r hr=>?_⟩
 ·show ((pendingOf st).push ((flatR rs).length,N.length,0)).toList=_
  rw[Array.toList_push,h.pend,rows_app,Nat.zero_add];rfl
 ·show (arrOf st).toList=_
  rw[h.arr,flatR_app,e];rw[flatR_cons,show flatR ([]:List (List Keyed×Nat))=[] from rfl,List.append_nil,List.append_assoc]
 ·rcases List.mem_append.mp hr with hr | hr
  ·exact h.ne r hr
  ·rw[List.mem_singleton.mp hr];exact nN
 ·rcases List.mem_append.mp hr with hr | hr
  ·exact h.so r hr
  ·rw[List.mem_singleton.mp hr];exact sN
theorem RunsOk.pow {post:List Keyed}{rs:List (List Keyed×Nat)}{st:SortSt} (h:RunsOk rk κ T post rs st) (pw:Nat) (hn:rs≠[]):∃ rs',rs'≠[]/\flatR rs'=flatR rs/\RunsOk rk κ T post rs' (setPending st ((pendingOf st).modify ((pendingOf st).size-1) fun x=>(x.1,x.2.1,pw))):=by
 obtain⟨a,r,rfl⟩:∃ a r,rs=a++[r]:=by
  rcases List.eq_nil_or_concat rs with z | ⟨a,r,z⟩
  ·exact absurd z hn
  ·exact⟨a,r,by rw[z,List.concat_eq_append]⟩
 have fe:flatR (a++[(r.1,pw)])=flatR (a++[r]):=by rw[flatR_app,flatR_app,flatR_cons,flatR_cons]
 refine⟨a++[(r.1,pw)],by simp,fe,h.kind,h.fail,?_,?_,h.perm,fun x hx=>?_,fun x hx=>?_⟩
 ·show ((pendingOf st).modify ((pendingOf st).size-1) fun x=>(x.1,x.2.1,pw)).toList=_
  rw[h.psize,Array.toList_modify,h.pend,rows_app,rows_app];have l1:=rows_len a 0;rw[show (a++[r]).length-1=(rows a 0).length by rw[l1];simp]
  have mo:∀ (l:List (Nat×Nat×Nat)) (y:Nat×Nat×Nat) (f:Nat×Nat×Nat->Nat×Nat×Nat),(l++[y]).modify l.length f=l++[f y]:=by
   intro l y f
   induction l with
   |nil=>rfl
   |cons z l ih=>rw[List.cons_append,List.length_cons,List.modify_succ_cons,ih];rfl
  exact mo _ _ _
 ·show (arrOf st).toList=_
  rw[h.arr,fe]
 ·rcases List.mem_append.mp hx with hx | hx
  ·exact h.ne x (List.mem_append_left _ hx)
  ·rw[List.mem_singleton.mp hx]
   exact h.ne r (by simp)
 ·rcases List.mem_append.mp hx with hx | hx
  ·exact h.so x (List.mem_append_left _ hx)
  ·rw[List.mem_singleton.mp hx]
   exact h.so r (by simp)
theorem ite_lt {c:Prop} [Decidable c] {a b n:Nat} (h1:a+1<n) (h2:b+1<n):(if c then a else b)+1<n:=by
 split
 ·exact h1
 ·exact h2
theorem RunsOk.rear {post:List Keyed}{rs:List (List Keyed×Nat)}{st:SortSt} (h:RunsOk rk κ T post rs st) {xs:Array Keyed} (kp:Kp (flatR rs).length (arrOf st) xs) (n:Nat):RunsOk rk κ T ((xs.toList.drop (flatR rs).length).take n++xs.toList.drop ((flatR rs).length+n)) rs (setArr st xs):=by
 refine⟨h.kind,h.fail,h.pend,?_,(Array.perm_iff_toList_perm.mp kp.1).trans h.perm,h.ne,h.so⟩;show xs.toList=_;have e:=take_kp kp;rw[h.arr,List.take_left'] at e
 ·rw[<- List.drop_drop,List.take_append_drop]
  exact (List.take_append_drop (flatR rs).length xs.toList).symm.trans (by rw[e])
 ·rfl
theorem RunsOk.lens {post:List Keyed}{rs:List (List Keyed×Nat)}{st:SortSt} (h:RunsOk rk κ T post rs st):(flatR rs).length+post.length=T.length:=by
 rw[<- h.perm.length_eq,h.arr,List.length_append]
theorem runs_ok (C:Cmp prog w A s κ rk (fun x=>x∈T)) {st:SortSt} (hk:kindOf st=κ) (hf:failedOf st=none) (hp:pendingOf st=#[]) (ha:(arrOf st).toList=T) (h2:2<=(arrOf st).size) {Q:Unit->SortSt->Prop}
  (q:∀ st',(arrOf st').toList.Perm T->(arrOf st').toList.Pairwise (leR rk)->failedOf st'=none->Q () st'):wpS (model prog w) A E s sortRuns' Q st:=by
 have sz:∀ {post:List Keyed}{rs:List (List Keyed×Nat)}{st':SortSt},RunsOk rk κ T post rs st'->(arrOf st').size=(arrOf st).size:=fun {post rs st'} h=>by
  rw[<- Array.length_toList,<- Array.length_toList,h.perm.length_eq,ha]
 refine wpS_bind (wpS_get ?_);dsimp only;refine wpS_bind (wpS_mono (wpS_forRange (I:=fun x c st'=>∃ lo rs post,c=(none,lo)/\RunsOk rk κ T post rs st'/\(flatR rs).length=lo/\x<=lo)
  (Q:=fun c st'=>∃ lo rs,c=(none,lo)/\RunsOk rk κ T [] rs st') ?_ ?_ ⟨0,[],T,rfl,⟨hk,hf,by rw[hp];rfl,ha,by rw[ha],fun r hr=>(by cases hr),fun r hr=>(by cases hr)⟩,rfl,Nat.zero_le _⟩) ?_)
 ·rintro x c st' _ hx ⟨lo,rs,post,rfl,R,hl,xl⟩
  have s1:=sz R;have s2:=R.lens;have s3:T.length=(arrOf st).size:=by rw[<- ha,Array.length_toList]
  refine wpS_ite (fun c=>?_) fun c=>?_
  ·have c:lo>=(arrOf st).size:=c
   obtain rfl:post=[]:=List.length_eq_zero_iff.mp (by omega)
   exact wpS_pure ⟨lo,rs,rfl,R⟩
  have c:¬ lo>=(arrOf st).size:=c;have hx:x<(arrOf st).size:=hx;have ml:∀ x∈(arrOf st').toList,x∈T:=fun x hx=>R.perm.mem_iff.mp hx
  have prep:∀ (n:Nat) (xs:Array Keyed),Kp lo (arrOf st') xs->1<=n->lo+n<=(arrOf st).size->UpO rk xs lo n->RunsOk rk κ T ((xs.toList.drop lo).take n++xs.toList.drop (lo+n)) rs (setArr st' xs)/\((xs.toList.drop lo).take n).length=n/\(xs.toList.drop lo).take n≠[]/\((xs.toList.drop lo).take n).Pairwise (leR rk):=fun n xs kp h1 h2 up=>by
   have sx:=kp.size;have nl:((xs.toList.drop lo).take n).length=n:=by rw[List.length_take,List.length_drop,Array.length_toList];omega
   refine⟨?_,nl,fun z=>by rw[z] at nl;simp at nl;omega,up_seg (by omega) up⟩
   subst hl;exact R.rear kp n
  refine wpS_bind (run_ok C (st:=st') (xs0:=arrOf st') R.kind ml (lo:=lo) (n:=(arrOf st).size-lo) (by omega) (by omega) ⟨Array.Perm.refl _,fun _ _=>rfl⟩ fun m xs kp m1 m2 up=>?_)
  refine wpS_ite (fun c2=>?_) fun c2=>?_
  ·refine wpS_bind (wpS_lift (wpAny_rule ⟨rfl,?_⟩))
   have c2:m<minRun' (arrOf st).size (arrOf st).size 0:=c2;refine wpS_bind (binO_ok C (st:=st') R.kind ml (lo:=lo) (n:=min ((arrOf st).size-lo) (minRun' (arrOf st).size (arrOf st).size 0)) (ok:=m) (by omega) (by omega) kp up fun xs kp up=>?_)
   refine wpS_ite (fun z=>by cases z) fun _=>?_
   obtain⟨R1,nlen,nN,sN⟩:=prep _ xs kp (by omega) (by omega) up
   refine wpS_bind (wpS_get ?_)
   rcases List.eq_nil_or_concat rs with z | ⟨a,r,z⟩
   ·have hb:((sortPriv% PySem.Builtin.SortState.pending) (setArr st' xs)).back?=none:=by
     have e:(pendingOf st').toList=[]:=by rw[R.pend,z];rfl
     have e2:pendingOf st'=#[]:=Array.toList_inj.mp e;show (pendingOf st').back?=none;rw[e2];rfl
    rw[hb];have R2:=R1.push rfl nN sN;rw[nlen,hl] at R2;exact wpS_bind (wpS_modify (wpS_pure ⟨lo+min ((arrOf st).size-lo) (minRun' (arrOf st).size (arrOf st).size 0),_,_,rfl,R2,by have:=R2.lens;have:=R1.lens;simp only[List.length_append,nlen] at this;omega,by omega⟩))
   ·obtain⟨y,hb⟩:∃ y,((sortPriv% PySem.Builtin.SortState.pending) (setArr st' xs)).back?=some y:=by
     have e:=R.psize;rw[z,List.concat_eq_append,List.length_append,List.length_singleton] at e;refine⟨(pendingOf st')[(pendingOf st').size-1]'(by omega),?_⟩
     show (pendingOf st').back?=_;rw[Array.back?_eq_getElem?,Array.getElem?_eq_getElem]
    obtain⟨y1,y2,y3⟩:=y;rw[hb];refine wpS_bind (wpS_mono (wpS_forRange (I:=fun x c st2=>c=(none,())/\∃ rs2,rs2≠[]/\RunsOk rk κ T _ rs2 st2)
     (Q:=fun c st2=>c=(none,())/\∃ rs2,rs2≠[]/\RunsOk rk κ T _ rs2 st2) ?_ (fun c st2 z=>z) ⟨rfl,rs,by rw[z];simp,R1⟩) ?_)
    ·rintro x2 c st2 _ hx2 ⟨rfl,rs2,ne2,R2⟩
     refine wpS_bind (wpS_get ?_);have ps:=R2.psize
     by_cases c:1<rs2.length
     ·have hb2:(if ((sortPriv% PySem.Builtin.SortState.pending) st2).size > 1 then ((sortPriv% PySem.Builtin.SortState.pending) st2)[((sortPriv% PySem.Builtin.SortState.pending) st2).size-2]? else none)=some ((pendingOf st2)[(pendingOf st2).size-2]'(by omega)):=by
       show (if (pendingOf st2).size > 1 then (pendingOf st2)[(pendingOf st2).size-2]? else none)=_;rw[if_pos (by omega),Array.getElem?_eq_getElem]
      rw[hb2];refine wpS_ite (fun _=>wpS_pure ⟨rfl,rs2,ne2,R2⟩) fun _=>wpS_bind (merge_runs C R2 (show (pendingOf st2).size-2+1<rs2.length by omega) fun rs3 st3 R3 hr=>?_)
      exact wpS_ite (fun z=>by cases z) fun _=>wpS_pure ⟨rfl,rs3,fun z=>(by rw[z] at hr;simp at hr;omega),R3⟩
     ·have hb2:(if ((sortPriv% PySem.Builtin.SortState.pending) st2).size > 1 then ((sortPriv% PySem.Builtin.SortState.pending) st2)[((sortPriv% PySem.Builtin.SortState.pending) st2).size-2]? else none)=none:=by
       show (if (pendingOf st2).size > 1 then (pendingOf st2)[(pendingOf st2).size-2]? else none)=_;rw[if_neg (by omega)]
      rw[hb2];exact wpS_pure ⟨rfl,rs2,ne2,R2⟩
    ·rintro c st2 ⟨rfl,rs2,ne2,R2⟩
     dsimp only;obtain⟨rs3,ne3,fe,R3⟩:=R2.pow _ ne2;have R4:=R3.push rfl nN sN
     have fl:(flatR rs3).length=lo:=by
      have:=R3.lens;have:=R1.lens;omega
     rw[nlen,fl] at R4;exact wpS_bind (wpS_modify (wpS_bind (wpS_modify (wpS_pure ⟨lo+min ((arrOf st).size-lo) (minRun' (arrOf st).size (arrOf st).size 0),_,_,rfl,R4,by have:=R4.lens;have:=R1.lens;simp only[List.length_append,nlen] at this;omega,by omega⟩))))
  ·obtain⟨R1,nlen,nN,sN⟩:=prep m xs kp m1 (by omega) up
   refine wpS_bind (wpS_get ?_)
   rcases List.eq_nil_or_concat rs with z | ⟨a,r,z⟩
   ·have hb:((sortPriv% PySem.Builtin.SortState.pending) (setArr st' xs)).back?=none:=by
     have e:(pendingOf st').toList=[]:=by rw[R.pend,z];rfl
     have e2:pendingOf st'=#[]:=Array.toList_inj.mp e;show (pendingOf st').back?=none;rw[e2];rfl
    rw[hb];have R2:=R1.push rfl nN sN;rw[nlen,hl] at R2;exact wpS_bind (wpS_modify (wpS_pure ⟨lo+m,_,_,rfl,R2,by have:=R2.lens;have:=R1.lens;simp only[List.length_append,nlen] at this;omega,by omega⟩))
   ·obtain⟨y,hb⟩:∃ y,((sortPriv% PySem.Builtin.SortState.pending) (setArr st' xs)).back?=some y:=by
     have e:=R.psize;rw[z,List.concat_eq_append,List.length_append,List.length_singleton] at e;refine⟨(pendingOf st')[(pendingOf st').size-1]'(by omega),?_⟩
     show (pendingOf st').back?=_;rw[Array.back?_eq_getElem?,Array.getElem?_eq_getElem]
    obtain⟨y1,y2,y3⟩:=y;rw[hb];refine wpS_bind (wpS_mono (wpS_forRange (I:=fun x c st2=>c=(none,())/\∃ rs2,rs2≠[]/\RunsOk rk κ T _ rs2 st2)
     (Q:=fun c st2=>c=(none,())/\∃ rs2,rs2≠[]/\RunsOk rk κ T _ rs2 st2) ?_ (fun c st2 z=>z) ⟨rfl,rs,by rw[z];simp,R1⟩) ?_)
    ·rintro x2 c st2 _ hx2 ⟨rfl,rs2,ne2,R2⟩
     refine wpS_bind (wpS_get ?_);have ps:=R2.psize
     by_cases c:1<rs2.length
     ·have hb2:(if ((sortPriv% PySem.Builtin.SortState.pending) st2).size > 1 then ((sortPriv% PySem.Builtin.SortState.pending) st2)[((sortPriv% PySem.Builtin.SortState.pending) st2).size-2]? else none)=some ((pendingOf st2)[(pendingOf st2).size-2]'(by omega)):=by
       show (if (pendingOf st2).size > 1 then (pendingOf st2)[(pendingOf st2).size-2]? else none)=_;rw[if_pos (by omega),Array.getElem?_eq_getElem]
      rw[hb2];refine wpS_ite (fun _=>wpS_pure ⟨rfl,rs2,ne2,R2⟩) fun _=>wpS_bind (merge_runs C R2 (show (pendingOf st2).size-2+1<rs2.length by omega) fun rs3 st3 R3 hr=>?_)
      exact wpS_ite (fun z=>by cases z) fun _=>wpS_pure ⟨rfl,rs3,fun z=>(by rw[z] at hr;simp at hr;omega),R3⟩
     ·have hb2:(if ((sortPriv% PySem.Builtin.SortState.pending) st2).size > 1 then ((sortPriv% PySem.Builtin.SortState.pending) st2)[((sortPriv% PySem.Builtin.SortState.pending) st2).size-2]? else none)=none:=by
       show (if (pendingOf st2).size > 1 then (pendingOf st2)[(pendingOf st2).size-2]? else none)=_;rw[if_neg (by omega)]
      rw[hb2];exact wpS_pure ⟨rfl,rs2,ne2,R2⟩
    ·rintro c st2 ⟨rfl,rs2,ne2,R2⟩
     dsimp only;obtain⟨rs3,ne3,fe,R3⟩:=R2.pow _ ne2;have R4:=R3.push rfl nN sN
     have fl:(flatR rs3).length=lo:=by
      have:=R3.lens;have:=R1.lens;omega
     rw[nlen,fl] at R4;exact wpS_bind (wpS_modify (wpS_bind (wpS_modify (wpS_pure ⟨lo+m,_,_,rfl,R4,by have:=R4.lens;have:=R1.lens;simp only[List.length_append,nlen] at this;omega,by omega⟩))))
 ·rintro c st' ⟨lo,rs,post,rfl,R,hl,xl⟩
  have s1:=sz R;have s2:(arrOf st').size=lo+post.length:=by rw[<- Array.length_toList,R.arr,List.length_append,hl]
  have xl:max 0 (arrOf st).size<=lo:=xl;obtain rfl:post=[]:=List.length_eq_zero_iff.mp (by omega)
  exact⟨lo,rs,rfl,R⟩
 ·rintro c st' ⟨lo,rs,rfl,R⟩
  dsimp only
  have lenle:∀ (rs:List (List Keyed×Nat)),(∀ r∈rs,r.1≠[])->rs.length<=(flatR rs).length:=by
   intro rs
   induction rs with
   |nil=>intro _;exact Nat.le_refl _
   |cons r rs ih =>
    intro h;rw[flatR_cons,List.length_append,List.length_cons];have:=List.length_pos_iff.mpr (h r List.mem_cons_self);have:=ih fun x hx=>h x (List.mem_cons_of_mem _ hx)
    omega
  have total:∀ {rs:List (List Keyed×Nat)}{st':SortSt},RunsOk rk κ T [] rs st'->(flatR rs).length=(arrOf st).size:=fun {rs st'} R=>by
   have:=sz R;rw[<- Array.length_toList,R.arr,List.append_nil] at this;exact this
  refine wpS_bind (wpS_mono (wpS_forRange (I:=fun x c st'=>c=(none,())/\∃ rs,RunsOk rk κ T [] rs st'/\rs.length+x<=(arrOf st).size)
   (Q:=fun c st'=>c=(none,())/\∃ rs,RunsOk rk κ T [] rs st'/\rs.length<=1) ?_ ?_ ⟨rfl,rs,R,by have:=lenle rs R.ne;have:=total R;omega⟩) ?_)
  ·rintro x c st' _ hx ⟨rfl,rs,R,hl⟩
   refine wpS_bind (wpS_get ?_);have ps:=R.psize;refine wpS_ite (fun c=>wpS_pure ⟨rfl,rs,R,?_⟩) fun c=>wpS_bind (merge_runs C R ?_ fun rs' st2 R' hr=>?_)
   ·rw[<- ps];exact c
   ·have c:¬ (pendingOf st').size<=1:=c
    exact ite_lt (show (pendingOf st').size-2-1+1<rs.length by omega) (show (pendingOf st').size-2+1<rs.length by omega)
   ·exact wpS_ite (fun z=>by cases z) fun _=>wpS_pure ⟨rfl,rs',R',by omega⟩
  ·rintro c st' ⟨rfl,rs,R,hl⟩
   have hl:rs.length+max 0 (arrOf st).size<=(arrOf st).size:=hl;exact⟨rfl,rs,R,by omega⟩
  ·rintro c st' ⟨rfl,rs,R,hl⟩
   refine wpS_pure (q st' R.perm ?_ R.fail);rw[R.arr,List.append_nil]
   match rs,hl,R.so with
   |[],_,_=>exact List.Pairwise.nil
   |[r],_,so =>
    rw[flatR_cons,show flatR ([]:List (List Keyed×Nat))=[] from rfl,List.append_nil];exact so r List.mem_cons_self
end
end Fx
set_option maxRecDepth 100000
namespace Fx
open PySem PySem.W PySem.Spec PyProof.Rows
theorem perm_map {α β:Type} [DecidableEq β] {g:α->β}:∀ (l:List β) (m:List α),l.Perm (m.map g)->∃ m':List α,m'.Perm m/\l=m'.map g
 |[],m,h=>by
  have:m.map g=[]:=h.nil_eq.symm;exact⟨[],by rw[List.map_eq_nil_iff.mp this],rfl⟩
 |x::l,m,h=>by
  have hx:x∈m.map g:=h.mem_iff.mp List.mem_cons_self;obtain⟨i,hi,rfl⟩:=List.mem_map.mp hx;obtain⟨a,b,rfl⟩:=List.append_of_mem hi
  have h2:(g i::l).Perm (g i::(a++b).map g):=by
   refine h.trans ?_;rw[List.map_append,List.map_cons,List.map_append];exact List.perm_middle
  obtain⟨m',h3,rfl⟩:=perm_map l (a++b) h2.cons_inv;exact⟨i::m',(h3.cons i).trans List.perm_middle.symm,rfl⟩
section
variable {prog:Program}{w:World}{A:Around}{E:Value->Shared->Prop}{s:Shared}
theorem zip_self (vs:List Value):(vs.toArray.zip vs.toArray).toList=(List.range vs.length).map fun i=>(vs.getD i Value.none,vs.getD i Value.none):=by
 refine List.ext_getElem (by simp) fun i h1 h2=>?_
 simp at h1;simp[h1]
theorem list_sort_any {a:Addr}{vs:List Value}{n:Nat}{κ:SortKind}{r:Nat → Nat}{P:PySem.Fin → Shared → Prop} (ho:s.heap.get? a=some (seqObj "list" vs.toArray n)) (hz:vs.length ≤ sizeLine) (k:Asks prog w A s a vs κ r)
  (cons:∀ i j,i<vs.length->j<vs.length->vs.getD i Value.none=vs.getD j Value.none->r i=r j)
  (fin:∀ p:Array Nat,OkP vs.length p->Mono r p vs.length->P (.done (.ret .none)) {s with heap:=sortedHeap s.heap a vs (p.toList.map fun i=>vs.getD i Value.none).toArray}) :
  wpAny (model prog w) A (Builtin.«list.sort» ⟨[.ref a],[]⟩) P E s:=by
 rw[list_sort_plain];have ha:a<s.heap.objs.size:=Heap.lt_size ho;have hsz:vs.toArray.size=vs.length:=by simp
 refine wpAny_bind (listItems_at ho rfl ?_);refine wpAny_bind (listUpdate_at ho rfl ?_ (by omega) (Nat.zero_le _))
 obtain⟨e1,ho1⟩:∃ e1,(s.heap.update a (Obj.mapSeq fun _=>#[])).get? a=some (seqObj "list" #[] e1):=⟨_,get?_update_seq ho (fun _=>#[])⟩
 refine wpAny_bind (seqEpoch_at ho1 rfl ?_);refine wpAny_bind (wpAny_newTuple ?_ (show vs.length<=_ by omega))
 refine wpAny_bind (wpAny_newList ?_ (Nat.zero_le _));refine wpAny_holding ?_;have up:∀ b o,b<s.heap.objs.size → (s.heap.update a (Obj.mapSeq fun _=>#[])).get? b=some o → (((s.heap.update a (Obj.mapSeq fun _=>#[])).push (seqObj "tuple" vs.toArray 0)).push (seqObj "list" #[] 0)).get? b=some o:=fun b o hb q=>Heap.get?_push_of_some _ (Heap.get?_push_of_some _ q)
 have ho6:=up a _ ha ho1;have keep:∀ b o,b≠a → s.heap.get? b=some o → (((s.heap.update a (Obj.mapSeq fun _=>#[])).push (seqObj "tuple" vs.toArray 0)).push (seqObj "list" #[] 0)).get? b=some o:=fun b o hb q =>
  up b o (Heap.lt_size q) (by rw[Heap.get?_update_ne _ _ _ _ hb];exact q)
 show wpAny (model prog w) A _ P E {s with heap:=((s.heap.update a (Obj.mapSeq fun _=>#[])).push (seqObj "tuple" vs.toArray 0)).push (seqObj "list" #[] 0)}
 generalize hG:((s.heap.update a (Obj.mapSeq fun _=>#[])).push (seqObj "tuple" vs.toArray 0)).push (seqObj "list" #[] 0)=G at ho6 keep
 dsimp only;have last:∀ (p:Array Nat) (st:SortSt),OkP vs.length p->Mono r p vs.length->(arrOf st).map (·.2)=(p.toList.map fun i=>vs.getD i Value.none).toArray->failedOf st=none->wpAny (model prog w) A (do
   let touched:=(<- seqEpoch a) != e1
   Builtin.List.listUpdate (.ref a) fun _=>(arrOf st).map (·.2)
   if let some e:=failedOf st then rule "list.sort.comparison-raised";throw e
   if touched then rule "list.sort.modified";raiseError "ValueError" "list modified during sort"
   ret .none) P E {s with heap:=G}:=fun p st op mo ar fa=>by
  refine wpAny_bind (seqEpoch_at ho6 rfl ?_);rw[ar];have z:(p.toList.map fun i=>vs.getD i Value.none).toArray.size=vs.length:=by rw[List.size_toArray,List.length_map,Array.length_toList,op.size]
  refine wpAny_bind (listUpdate_at ho6 rfl ?_ (Nat.zero_le _) (by rw[z];omega))
  rw[fa];simp only[bne_self_eq_false,Bool.false_eq_true,if_false];subst hG;exact wpAny_pure (fin p op mo)
 by_cases h2:vs.toArray.size<2
 ·rw[if_pos h2,if_pos h2]
  refine wpAny_bind (wpAny_pure ?_);rw[StateT.run_pure];refine wpAny_bind (wpAny_pure ?_);refine last (List.toArray (List.range vs.length)) _ okP_range (fun i j hij hj=>by rw[show i=j by omega];exact Nat.le_refl _) ?_ rfl
  show ((vs.toArray.zip vs.toArray).map (·.2))=_;rw[show (List.toArray (List.range vs.length)).toList=List.range vs.length from rfl,getD_range]
  apply Array.toList_inj.mp
  rw[Array.toList_map];simp[List.map_snd_zip]
 ·rw[if_neg h2,if_neg h2]
  refine wpAny_bind (wpAny_mono (k.kind (by omega) _ keep (fun κ' s'=>κ'=κ/\s'={s with heap:=G}) ⟨rfl,rfl⟩) (fun κ' s' hk=>?_) fun _ _ x=>x.elim)
  obtain⟨rfl,rfl⟩:=hk;obtain⟨T,hT⟩:∃ T,T=(vs.toArray.zip vs.toArray).toList:=⟨_,rfl⟩;have zs:=zip_self vs
  have mem:∀ x∈T,∃ i,i<vs.length/\x=(vs.getD i Value.none,vs.getD i Value.none):=fun x hx=>by
   rw[hT,zs] at hx;obtain⟨i,hi,rfl⟩:=List.mem_map.mp hx;exact⟨i,List.mem_range.mp hi,rfl⟩
  have fi:∀ x:Keyed,∃ ri:Nat,∀ i,i<vs.length->x=(vs.getD i Value.none,vs.getD i Value.none)->ri=r i:=fun x=>by
   by_cases q:∃ i,i<vs.length/\x=(vs.getD i Value.none,vs.getD i Value.none)
   ·obtain⟨i,hi,rfl⟩:=q
    exact⟨r i,fun j hj e=>cons i j hi hj (congrArg Prod.fst e)⟩
   ·exact⟨0,fun i hi e=>absurd ⟨i,hi,e⟩ q⟩
  obtain⟨rk,hrk⟩:∃ rk:Keyed->Nat,∀ i,i<vs.length->rk (vs.getD i Value.none,vs.getD i Value.none)=r i:=⟨fun x=>Classical.choose (fi x),fun i hi=>Classical.choose_spec (fi _) i hi rfl⟩
  have C:Cmp prog w A {s with heap:=G} κ' rk (fun x=>x∈T):=⟨fun x y hx hy Q q=>by
   obtain⟨i,hi,rfl⟩:=mem x hx;obtain⟨j,hj,rfl⟩:=mem y hy;rw[hrk i hi,hrk j hj] at q;exact k.ask G keep i j hi hj Q q⟩
  refine wpAny_bind (wpAny_mono (runs_ok (E:=E) C (st:=SortSt.mk' κ' (vs.toArray.zip vs.toArray) #[] 7 none) rfl rfl rfl hT.symm (by show 2<=(vs.toArray.zip vs.toArray).size;rw[Array.size_zip];omega)
   (Q:=fun _ st'=>(arrOf st').toList.Perm T/\(arrOf st').toList.Pairwise (leR rk)/\failedOf st'=none) fun st' a1 a2 a3=>⟨a1,a2,a3⟩) ?_ fun _ _ e=>e)
  rintro ⟨⟨⟩,st'⟩ s' ⟨hs',hp,hs,hf⟩;dsimp only at hp hs hf;subst hs';dsimp only;rw[hT,zs] at hp;obtain⟨m,pm,em⟩:=perm_map _ _ hp;have ml:m.length=vs.length:=by rw[pm.length_eq,List.length_range]
  have mlt:∀ i∈m,i<vs.length:=fun i hi=>List.mem_range.mp (pm.mem_iff.mp hi)
  refine last m.toArray st' ⟨by rw[List.size_toArray,ml],pm⟩ (fun i j hij hj=>?_) ?_ hf
  ·by_cases e:i=j
   ·subst e;exact Nat.le_refl _
   ·have hi':i<m.length:=by omega
    have hj':j<m.length:=by omega
    have g:∀ (k:Nat) (hk:k<m.length),KP r m.toArray k=r m[k]:=fun k hk=>by
     unfold KP;rw[Array.getD_eq_getD_getElem?,List.getElem?_toArray,List.getElem?_eq_getElem hk];rfl
    rw[g i hi',g j hj'];rw[em,List.pairwise_map,List.pairwise_iff_getElem] at hs;have:=hs i j hi' hj' (by omega)
    unfold leR at this;rw[hrk _ (mlt _ (List.getElem_mem hi')),hrk _ (mlt _ (List.getElem_mem hj'))] at this;exact this
  ·apply Array.toList_inj.mp
   rw[Array.toList_map,em,List.map_map];rfl
theorem sorted_any {it:Addr}{ob:Obj}{n:Nat}{us:List Value}{κ:SortKind}{Q:Value → Shared → Prop}{r:Nat → Nat} (ho:s.heap.get? it=some ob) (hc:ob.cls=.type "list") (hd:ob.data=.seq us.toArray n) (hz:us.length ≤ sizeLine)
  (cons:∀ i j,i<us.length->j<us.length->us.getD i Value.none=us.getD j Value.none->r i=r j)
  (k:∀ (h1:Heap) (a:Addr),(∀ b o,s.heap.get? b=some o->h1.get? b=some o)->s.heap.get? a=none->Asks prog w A.in1.in1 {s with heap:=h1} a us κ r)
  (fin:∀ (h1 h2:Heap) (p:Array Nat) (e:Nat),OkP us.length p → Mono r p us.length → (∀ b o',s.heap.get? b=some o' → h1.get? b=some o') → (∀ b o',h1.get? b=some o' → h2.get? b=some o') → h2.get? h1.objs.size=some (seqObj "list" (p.toList.map fun i=>us.getD i Value.none).toArray e) → Q (.ref h1.objs.size) {s with heap:=h2}) :
  wpAny (model prog w) A (call (.builtin "sorted") [.ref it]) Q E s:=by
 refine Calls.call_function_entry kind_sorted plain_sorted entry_sorted (args_sorted1 _) ?_;unfold Builtin.«sorted»;refine wpAny_bind (m:=checkCount "sorted" 1 1 _) (wpAny_pure ?_);have hz':us.toArray.size<=sizeLine:=by rw[List.size_toArray];exact hz
 refine wpAny_bind (wpAny_collect_seq it (.inl rfl) ho hc hd (fun h1 kp=>?_) hz')
 refine wpAny_bind (wpAny_newList ?_ hz);have at1:(h1.push (seqObj "list" us.toArray 0)).get? h1.objs.size=some (seqObj "list" us.toArray 0):=Heap.get?_push_size _ rfl;have old:∀ b o,s.heap.get? b=some o → (h1.push (seqObj "list" us.toArray 0)).get? b=some o:=fun b o q=>Heap.get?_push_of_some _ (kp b o q)
 have new:s.heap.get? h1.objs.size=none:=by
  cases q:s.heap.get? h1.objs.size with
  |none=>rfl
  |some o=>exact absurd (Heap.lt_size (kp _ o q)) (Nat.lt_irrefl _)
 refine wpAny_bind (wpAny_holding (wpAny_call_entry slot_list_sort ⟨_,at1,rfl⟩ entry_list_sort (list_sort_any (s:={s with heap:=h1.push (seqObj "list" us.toArray 0)}) at1 hz (k _ _ old new) cons fun p op mo=>⟨_,rfl,?_⟩) (args_list_sort _)))
 obtain⟨e,he⟩:=sortedHeap_at (out:=(p.toList.map fun i=>us.getD i Value.none).toArray) at1
 refine wpAny_pure ⟨_,rfl,fin h1 _ p e op mo kp (fun b o' hb=>?_) he⟩
 have lt:b<h1.objs.size:=Heap.lt_size hb;show (sortedHeap (h1.push (seqObj "list" us.toArray 0)) h1.objs.size us (p.toList.map fun i=>us.getD i Value.none).toArray).get? b=some o'
 rw[sortedHeap_old (Nat.ne_of_lt lt) (by rw[size_push'];exact Nat.lt_succ_of_lt lt)]
 exact Heap.get?_push_of_some _ hb
end
end Fx
set_option maxRecDepth 100000
namespace Fx
open PySem PySem.W PySem.Spec PyProof.Rows L2
section
variable {X:Cx}{pos:Pos}{o e:Expr}{F G:FE}
theorem mt_rstrip:MtR X "str.rstrip" (fun x vs H Q=>∃ a b,x=.str a ∧ vs=[.str b] ∧ a.length ≤ sizeLine ∧ Q (.str (Txt.rstripChars a b)) H):=by
 intro pins s σ H x vs v us Q I rx rv h;obtain⟨a,b,rfl,rfl,hz,q⟩:=h;obtain⟨t,rfl⟩:=rx;obtain⟨u,rfl,t2,rfl⟩:=vals1 rv;exact PySem.SC.rstripChars (fun t' k=>⟨.str _,H,I.tok k,⟨t',rfl⟩,q⟩) hz
theorem mt_index:MtR X "str.index" (fun x vs H Q=>∃ a b i r,x=.str a ∧ vs=[.str b] ∧ Builtin.Str.occurrences a b 0 a.length 1=i::r ∧ Q (.int i) H):=by
 intro pins s σ H x vs v us Q I rx rv h;obtain⟨a,b,i,r,rfl,rfl,ho,q⟩:=h;obtain⟨t,rfl⟩:=rx;obtain⟨u,rfl,t2,rfl⟩:=vals1 rv;exact PySem.SC.index ho ⟨.int i,H,I.tok _,⟨_,rfl⟩,q⟩
theorem xrst {apos cpos:Pos} (ho:XE X o F) (he:XE X e G) (hbase:attributeBase o "rstrip" X.env (eval o X.env)=eval o X.env:=by rfl)
  (hfew:((backTo cpos (starEach [e] X.env)).all (fun x=>!x.1)&&(backToKw cpos (keywordEach [] X.env)).all (fun x=>x.1.isSome)&&decide (([e]:List Expr).length+([]:List Keyword).length+(if ([]:List Keyword).isEmpty then 0 else 1)<30))=true:=by rfl)
  (hline:(apos.endLine==cpos.line)=true:=by rfl) (hs:starEach [e] X.env=[(false,eval e X.env)]:=by rfl):XE X (.Call (.Attribute o "rstrip" apos) [e] [] cpos) (e2 dRst F G) :=
 PE.wk (pe_bm PySem.F.plainAttrs_str PySem.F.slot_str_rstrip PySem.F.type_str_rstrip mt_rstrip ho (xaC he xaN hs) hbase hfew hline hs rfl) fun σ H Q ⟨c,H0,ρ,d,ρ',R,f,q⟩=>by
  obtain⟨x,ρ1,y,h1,h2,h3⟩:=e2_inv f;unfold dRst at h3
  split at h3
  ·obtain⟨hz,rfl⟩:=ifs h3
   refine⟨c,H0,ρ,_,ρ1,R,h1,fun v H1 Hh s1 R1 r1=>?_⟩
   unfold Rep at r1;subst r1;refine⟨rfl,c,H1,ρ1,[_],ρ',R1,by unfold aC aN;rw[h2];rfl,fun vs H2 Hh2 s2 R2 r2=>?_⟩
   obtain⟨u,rfl,ru⟩:=Reps.v1 r2;unfold Rep at ru;subst ru;exact⟨_,_,rfl,rfl,Nat.le_trans hz (by decide),q _ H2 Hh2 (s1.trans s2) R2 (by unfold Rep;rfl)⟩
  ·cases h3
theorem xindex {apos cpos:Pos} (ho:XE X o F) (he:XE X e G) (hbase:attributeBase o "index" X.env (eval o X.env)=eval o X.env:=by rfl)
  (hfew:((backTo cpos (starEach [e] X.env)).all (fun x=>!x.1)&&(backToKw cpos (keywordEach [] X.env)).all (fun x=>x.1.isSome)&&decide (([e]:List Expr).length+([]:List Keyword).length+(if ([]:List Keyword).isEmpty then 0 else 1)<30))=true:=by rfl)
  (hline:(apos.endLine==cpos.line)=true:=by rfl) (hs:starEach [e] X.env=[(false,eval e X.env)]:=by rfl):XE X (.Call (.Attribute o "index" apos) [e] [] cpos) (e2 dIdx F G) :=
 PE.wk (pe_bm PySem.F.plainAttrs_str PySem.F.slot_str_index PySem.F.type_str_index mt_index ho (xaC he xaN hs) hbase hfew hline hs rfl) fun σ H Q ⟨c,H0,ρ,d,ρ',R,f,q⟩=>by
  obtain⟨x,ρ1,y,h1,h2,h3⟩:=e2_inv f;unfold dIdx at h3
  split at h3
  ·rename_i a b
   unfold idxO at h3
   split at h3
   ·rename_i i r hq
    cases h3;refine⟨c,H0,ρ,_,ρ1,R,h1,fun v H1 Hh s1 R1 r1=>?_⟩
    unfold Rep at r1;subst r1;refine⟨rfl,c,H1,ρ1,[_],ρ',R1,by unfold aC aN;rw[h2];rfl,fun vs H2 Hh2 s2 R2 r2=>?_⟩
    obtain⟨u,rfl,ru⟩:=Reps.v1 r2;unfold Rep at ru;subst ru;exact⟨_,_,i,r,rfl,rfl,hq,q _ H2 Hh2 (s1.trans s2) R2 (rep_int _ _)⟩
   ·cases h3
  ·cases h3
theorem mulOk_z {x:Str}{n:Int} (h1:0<=n) (h2:n<=1000) (h3:x.length<=1000):MulOk x n:=by
 refine⟨?_,fun _ _=>?_,fun _ _=>?_⟩
 ·rw[decide_eq_false (by omega),decide_eq_false (by omega)];rfl
 ·have:(x.length:Int)*n<=1000*1000:=Int.mul_le_mul (by omega) h2 (by omega) (by decide)
  have:=Int.le_ediv_of_mul_le (show 0<n by omega) (show (x.length:Int)*n<=2 ^ 63-1 by omega)
  omega
 ·have:x.length*n.toNat<=1000*1000:=Nat.mul_le_mul h3 (by omega)
  unfold Builtin.Str.tooLong;have big:1000*1000<=sizeLine:=by decide
  simp;omega
theorem oMulZ:BinOk X .Mult dMulZ:=⟨fun x y H Q=>∃ a n,x=.str a/\y=.int n/\MulOk a n/\Q (.str (Txt.mul a n)) H,fun pins s σ H x y u v Q I rx ry ⟨a,n,ex,ey,ok,q⟩=>by
 subst ex ey;obtain⟨t,rfl⟩:=rx;obtain⟨w,rfl⟩:=ry
 exact SB.mul ok fun t' k=>⟨.str _,H,I.tok k,⟨t',rfl⟩,q⟩,fun c H0 H ρ σ x y d vx vy Q R r1 r2 e q=>by
  unfold dMulZ at e
  split at e
  ·obtain⟨⟨h1,h2,h3⟩,rfl⟩:=ifs e
   unfold Rep at r1 r2;subst r1 r2;exact⟨_,_,rfl,rfl,mulOk_z h1 h2 h3,q _ H0 H (Same.refl _) R (by unfold Rep;rfl)⟩
  ·cases e⟩
theorem cLtP (hu:X.A.units<cLine):CmpOk X .Lt dLtP:=⟨fun x y H Q=>∃ p r a b i j,x=.ref p/\y=.ref r/\SqT X.K H p [.int i,.str a]/\SqT X.K H r [.int j,.str b]/\Q (.bl (lexF [.int i,.str a] [.int j,.str b])) H,fun pins s σ H x y u v Q I rx ry ⟨p,r,a,b,i,j,ex,ey,s1,s2,q⟩=>by
 subst ex ey;cases rx;cases ry;obtain⟨us,r1,t1,_⟩:=I.tuple s1;obtain⟨ws,r2,t2,_⟩:=I.tuple s2
 have fl:∀ {i:Int}{x:Str}{us:List Value},Vals [.int i,.str x] us->Flats [.int i,.str x] us:=fun r=>by
  cases r with
  |cons h1 r =>
   cases r with
   |cons h2 r =>
    cases r;obtain⟨t,rfl⟩:=h1;obtain⟨t2,rfl⟩:=h2;exact .cons ⟨t,rfl⟩ (.cons ⟨t2,rfl⟩ .nil)
 exact lt_tupFlat t1 t2 (by simpa using fl r1) (by simpa using fl r2) rfl hu ⟨.bl _,H,I,rfl,q⟩,fun c H0 H ρ σ x y d vx vy Q R r1 r2 e q=>by
  unfold dLtP at e
  split at e
  ·cases e
   unfold Rep at r1 r2;obtain⟨p,vs,rfl,sq1,t1⟩:=r1;obtain⟨p2,vs2,rfl,sq2,t2⟩:=r2;obtain⟨x1,x2,rfl,y1,y2⟩:=Reps.v2 t1;obtain⟨x3,x4,rfl,y3,y4⟩:=Reps.v2 t2;unfold Rep at y1 y2 y3 y4;subst y1 y2 y3 y4;exact⟨p,p2,_,_,_,_,rfl,rfl,Same.seqT R.same sq1,Same.seqT R.same sq2,q _ H0 H (Same.refl _) R (by unfold Rep;rfl)⟩
  ·cases e⟩
end
end Fx
set_option maxRecDepth 100000
namespace Fx
open PySem PySem.W PySem.Spec PyProof.Rows L2
noncomputable def Itv (K:Frag) (a:Addr) (n:Nat):It :=
 ⟨fun i H=>∃ xs x,SqL K H a xs/\xs.length=n/\i<n/\xs[n-1-i]?=some x,fun i H x H'=>H'=H/\∀ xs,SqL K H a xs->xs[n-1-i]?=some x,fun i H=>n<=i⟩
theorem turn_rev {P:Program}{w:World}{K:Frag}{tg:Expr} (a it:Addr) (n:Nat):Turn P w K tg (Itv K a n) [it] it (fun i h=>i<=n/\h.IsRevIter it a ((n:Int)-1-i)) where
 mem:=by simp
 obj:=fun i h st b hb=>by
  have e:b=it:=by simpa using hb
  subst e;obtain⟨_,o,e,c,d⟩:=st;exact⟨o,e,fun v z=>by rw[d] at z;cases z⟩
 keep:=fun i h h' st k=>⟨st.1,st.2.at fun o e=>k it (by simp) o e⟩
 item:=by
  intro X hP hw hK hc i pins s σ H E I hf st hg;subst hP hw hK;obtain⟨xs,x,hq,hn,hi,hx⟩:=hg;obtain⟨its,rv,p,hz⟩:=I.list hq;obtain⟨u,hu,ru⟩:=rv.get hx;obtain⟨f0,f1,f2,f3,f4,f5⟩:=hf it (by simp)
  have st1:s.heap.IsRevIter it a ((n-1-i:Nat):Int):=by rw[show ((n-1-i:Nat):Int)=(n:Int)-1-i by omega];exact st.2
  refine wpAny_pyNext_rev_item st1 p.isList (x:=u) (by simpa using hu) fun h' st' sb=>?_
  have I1:Inv X pins σ H {s with heap:=h'}:=I.turned (t':=s.toks) (fun b o hb e=>(sb.2 b hb).trans e) f0 f1 f3 f4 f5
  rw[show ((n-1-i:Nat):Int)-1=(n:Int)-1-((i+1:Nat):Int) by omega] at st'
  obtain⟨o,e,c,d⟩:=id st';exact⟨u,rfl,go_of (s:={s with heap:=h'}) e c d (by decide) ⟨x,H,I1,ru,⟨rfl,fun ys hy=>by rw[I.list_inj hy hq];exact hx⟩,⟨hi,st'⟩,fun b hb=>(hf b hb).1⟩⟩
 done:=by
  intro X hP hw hK hc i pins s σ H E I hf st hg;subst hP hw hK;have hg:n<=i:=hg;obtain⟨f0,f1,f2,f3,f4,f5⟩:=hf it (by simp)
  have st1:s.heap.IsRevIter it a (-1):=by rw[show (-1:Int)=(n:Int)-1-i by have:=st.1;omega];exact st.2
  exact wpAny_pyNext_rev_end (I.ok.hd hc) st1 fun h' eb=>⟨rfl,I.turned (t':=s.toks) (fun b o hb e=>eb b o hb e) f0 f1 f3 f4 f5⟩
 self:=fun _ _ _ _ _ st h=>wpAny_pyIter_revIter st.2 h
noncomputable def iRev (K:Frag) (t:TE):TI:=fun σ H R=>t σ H fun x H1=>∃ a xs,x=.ref a/\SqL K H1 a xs/\R (Itv K a xs.length) H1
theorem pi_rev {X:Cx}{tg l:Expr}{tl:TE}{p pos:Pos} (hg:Gl X "reversed") (hm:X.mg "reversed"=none) (hl:PE X l tl) (hs:starEach [l] X.env=[(false,eval l X.env)]:=by rfl):PI X tg (.Call (.Name "reversed" p) [l] [] pos) (iRev X.K tl):=by
 intro pins s σ H R I h;refine Call_ (ld_blt I hg hm (u:=.type "reversed") (by decide +kernel) (PyProof.Rows.callWith_type1 (thn (pa_cons hl pa_nil hs pos pins s σ H (fun vs H1=>match vs with | [x]=>(∃ a xs,x=.ref a ∧ SqL X.K H1 a xs ∧ R (Itv X.K a xs.length) H1) | _=>False) I h) fun us s1 ⟨vs,H1,I1,r1,q1⟩=>?_) hs rfl))
 ·match vs,q1,r1 with
  |[x],q1,r1 =>
  obtain⟨a,xs,rfl,sq,q⟩:=q1;obtain⟨u,rfl,ru⟩:=vals1 r1;cases ru;obtain⟨its,rv,pl,hz⟩:=I1.list sq;refine call_reversed_list pl.isList ?_;have e:((its.toArray.size:Nat):Int)-1=(xs.length:Int)-1:=by rw[List.size_toArray,rv.length]
  have st:({s1 with heap:=s1.heap.push (revObj a ((its.toArray.size:Int)-1))}:Shared).heap.IsRevIter s1.heap.objs.size a ((xs.length:Int)-1):=⟨_,Heap.get?_push_size _ rfl,rfl,by rw[<- e];rfl⟩
  refine wpAny_pyIter_revIter st ⟨s1.heap.objs.size,[s1.heap.objs.size],_,_,H1,rfl,I1.kept (t':=s1.toks) fun b o e=>Heap.get?_push_of_some _ e,turn_rev a _ xs.length,⟨Nat.zero_le _,by simpa using st⟩,fun b hb=>?_,q⟩
  have e:b=s1.heap.objs.size:=by simpa using hb
  subst e;exact I1.fpOk (Nat.le_refl _) (I1.hok.fresh (Nat.le_refl _))
end Fx
set_option maxRecDepth 100000
namespace Fx
open PySem PySem.W PySem.Spec PyProof.Rows L2
theorem yields_rev {K:Frag}{H1:Hp}{a:Addr}{vs:List V}{xs:List D} (rd:SqL K H1 a vs) (r:Reps K H1 xs vs):Yields K (Itv K a vs.length) H1 xs.reverse:=fun H0 H i s s'=>by
 have sq:SqL K H a vs:=Same.seq (s.trans s') rd;have len:=r.length;refine⟨fun d e=>?_,fun h=>by show vs.length<=i;rw[List.length_reverse] at h;omega⟩
 have hi:i<xs.reverse.length:=(List.getElem?_eq_some_iff.mp e).1;rw[List.length_reverse] at hi;rw[List.getElem?_reverse hi] at e;obtain⟨v,e1,e2⟩:=r.get e;rw[len] at e1;refine⟨⟨vs,v,sq,rfl,by omega,e1⟩,fun x H' ⟨h1,h2⟩=>⟨h1,?_⟩⟩
 have:=h2 vs sq;rw[e1] at this;cases this;exact Rep.mono s _ e2
theorem reps_rev {K:Frag}{H:Hp}:∀ {ds:List D}{vs:List V},Reps K H ds vs->Reps K H ds.reverse vs.reverse
 |[],vs,r=>by unfold Reps at r;subst r;exact Reps.nil_
 |d::ds,vs,r=>by
  unfold Reps at r;obtain⟨v,vr,rfl,r1,r2⟩:=r;rw[List.reverse_cons,List.reverse_cons];exact (reps_rev r2).app (Reps.one r1)
theorem rev_inv {I:FE}{ρ ρ':En}{z:D} (h:e1 dRev I ρ=some (z,ρ')):∃ xs,I ρ=some (.lst xs,ρ')/\z=.lst xs.reverse:=by
 unfold e1 at h;obtain⟨⟨x,ρ1⟩,h1,h⟩:=bnd_eq h;obtain⟨d,h2,h⟩:=bnd_eq h;have h':some (d,ρ1)=some (z,ρ'):=h;cases h';cases x with
 |lst xs=>cases h2;exact⟨xs,h1,rfl⟩
 |_=>cases h2
section
variable {X:Cx}{scope sc:Scope}{x:Str}{frees:List Str}{js:List Nat}{px pos p pos':Pos}{elt l:Expr}{ifs:List Expr}{I F:FE}{T:FT}
theorem xlcBr (i q:Nat) (hm:X.mg "reversed"=none) (hc:X.calm=true) (hsc:X.env.scope=sc) (B:ScB X.N sc scope x frees js) (hi:XE X l I) (ht:∀ s H C fp,XTs (cxB X (x::frees) scope s H C fp) ifs T) (he:∀ s H C fp,XE (cxB X (x::frees) scope s H C fp) elt F)
  (hgl:Gl X "reversed":=by rfl) (hst:starEach [l] X.env=[(false,eval l X.env)]:=by rfl)
  (hs:∀ v,foldedSetIterable (.Call (.Name "reversed" p) [l] [] pos') X.env v=pure v:=by intro _;rfl):XE X (.ListComp elt [⟨.Name x px,.Call (.Name "reversed" p) [l] [] pos',ifs,0⟩] scope pos) (eLCB js i q (e1 dRev I) T F) :=
 PE.wk (pe_lc (tt:=tTt X.K T) (te:=tE X.K F) hc hsc B (pi_rev hgl hm hi hst) ht he hs) fun σ H Q ⟨c,H0,ρ,d,ρ',R,f,qq⟩=>by
  unfold eLCB at f;obtain⟨⟨z,ρ1⟩,h1,f⟩:=bnd_eq f;obtain⟨xs,h2,f⟩:=bnd_eq f;obtain⟨b,o,ys,o',k1,k2,k3,k4,rfl,rfl⟩:=lcB_inv f;obtain⟨zs,h3,rfl⟩:=rev_inv h1;cases h2;refine⟨c,H0,ρ,_,ρ1,R,h3,fun v H1 Hh s1 R1 r1=>?_⟩
  unfold Rep at r1;obtain⟨a,ws,rfl,sq,t⟩:=r1;refine⟨a,ws,rfl,Same.seq R1.same sq,?_⟩;refine lcB_of R1 k1 k4 k2 k3 (yields_rev sq t) fun vs H2 Hh2 s2 R2 r2=>fun p hp=>?_
  have S:=Step.alloc (o:=.lst vs) R2.same hp;refine qq _ _ _ (s1.trans (s2.trans S.s0)) (R2.after S) ?_;unfold Rep;exact⟨p,vs,rfl,.inl (.inl upd_same),Reps.mono S.s0 _ r2⟩
end
theorem lri_len:typeLookup (.type "list_reverseiterator") "__len__"=pure none:=by rw[typeLookup_type,builtinLookup_eq_fast];kernel_rfl
theorem lri_hint:typeLookup (.type "list_reverseiterator") "__length_hint__"=pure (some (.builtin "list_reverseiterator.__length_hint__")):=by rw[typeLookup_type,builtinLookup_eq_fast];kernel_rfl
section
variable {prog:Program}{w:World}{A:Around}{E:Value->Shared->Prop}{s:Shared}{r:Addr}
theorem hint_rev {Q:Bool → Shared → Prop} (hT:s.TypeIs (.ref r) "list_reverseiterator") (h:Q false s):wpAny (model prog w) A (Builtin.List.listLengthHint (.ref r)) Q E s:=by
 unfold Builtin.List.listLengthHint;refine wpAny_bind (wpAny_specialOf hT lri_len ?_);show wpAny _ _ (specialOf (.ref r) (Str.ofString "__length_hint__") >>= _) _ _ _;refine wpAny_bind (wpAny_specialOf hT lri_hint ?_)
 generalize hid:("list_reverseiterator.__length_hint__":String)=id0
 wp_delta
 rw[show splitId id0=some ("list_reverseiterator","__length_hint__") from by subst hid;decide +kernel]
 subst hid;refine wpAny_bind (wpAny_isInstance (T:="list_reverseiterator") (b:=true) hT (by rw[isSubtype_type];kernel_rfl) ?_)
 refine wpAny_ite_split (fun z=>absurd z (by decide)) fun _=>?_
 refine wpAny_ite_split (fun _=>?_) fun z=>absurd (by decide +kernel) z
 refine wpAny_ite_split (fun z=>absurd z (by decide +kernel)) fun _=>wpAny_pure h
end
end Fx
set_option maxRecDepth 100000
namespace Fx
open PySem PySem.W PySem.Spec PyProof.Rows L2
section
variable {prog:Program}{w:World}{A:Around}{E:Value->Shared->Prop}{s:Shared}{r l S:Addr}{items:Array Value}
noncomputable def Back (items:Array Value) (i:Nat) (v:Value):Prop:=items[items.size-1-i]?=some v
theorem ext_rev {R:Result → Shared → Prop}{c0:Nat} (hh:A.handled=none) (st:s.heap.IsRevIter r l ((items.size:Int)-1)) (hl:s.heap.IsList l items) (hz:items.size ≤ sizeLine) (rl:l≠r) (Sr:S≠r) (Sl:S≠l) (hS:s.heap.get? S=some {cls:=.type "list",data:=.seq #[] c0})
  (fin:∀ s' acc c,Moved [S,r] (fun a b=>b=a) s s' → s'.heap.get? S=some {cls:=.type "list",dict:=none,data:=.seq acc c,slots:=#[]} → ItemsOf (Back items) acc items.size → R (.ok (.ret .none)) s') :
  wpAny (model prog w) A.in1 (Builtin.List.listExtendWith (.ref S) (.ref r) .none) (fun f s'=>match f with | .done f=>R (.ok f) s' | .again c'=>c'.quiet=true/\codeAny (model prog w) A c' R s') (fun e s'=>R (.error e) s') s:=by
 have W:=(Walks.listRev (prog:=prog) (w:=w) (A:=A.in1) hh r l rl items).toS
 have out:S∉[r,l]:=fun z=>by
  rcases List.mem_cons.mp z with z | z
  ·exact Sr z
  ·exact Sl (List.mem_singleton.mp z)
 unfold Builtin.List.listExtendWith;refine wpAny_bind (wpAny_typeOf st.typeIs ?_);have n1:Builtin.List.listSameRef (.ref S) (.ref r)=false:=beq_eq_false_iff_ne.mpr Sr;rw[n1];refine wpAny_ite_split (fun z=>absurd z (by decide)) fun _=>?_
 refine wpAny_bind (wpAny_pyIter_revIter st ?_);refine wpAny_bind (wpAny_holding (hint_rev st.typeIs ?_));refine wpAny_ite_split (fun z=>absurd z (by decide +kernel)) fun _=>?_
 refine wpAny_pure ⟨plainId_quiet PySem.F.plain_extend_loop _,codeAny_extend_loopS W hz S out .none items.size 0 s #[] c0 rfl (Nat.zero_le _) ⟨Nat.zero_le _,by simpa using st,hl⟩ hS (ItemsOf.nil _) fun s' acc c mv hS' it=>?_⟩
 exact fin s' acc c mv hS' it
theorem back_eq {acc:Array Value} (h:ItemsOf (Back items) acc items.size):acc=items.reverse:=by
 refine Array.ext (by rw[h.1,Array.size_reverse]) fun i h1 h2=>?_
 have e:=h.2 i acc[i] (Array.getElem?_eq_getElem h1);unfold Back at e;rw[Array.getElem_reverse];exact ((Array.getElem?_eq_some_iff.mp e).2).symm
theorem list_rev {Q:Value->Shared->Prop} (hh:A.handled=none) (st:s.heap.IsRevIter r l ((items.size:Int)-1)) (hl:s.heap.IsList l items) (hz:items.size<=sizeLine) (rl:l≠r)
  (fin:∀ h' tk c,(∀ b o,b≠r → s.heap.get? b=some o → h'.get? b=some o) → h'.get? s.heap.objs.size=some {cls:=.type "list",dict:=none,data:=.seq items.reverse c,slots:=#[]} → Q (.ref s.heap.objs.size) {s with heap:=h',toks:=tk}) :
  wpAny (model prog w) A (call (.type "list") [.ref r]) Q E s:=by
 refine callType_codes (Q₁:=fun o s1=>o=.ref s.heap.objs.size ∧ s1={s with heap:=s.heap.push {cls:=.type "list",data:=.seq #[]}}) PySem.F.called_list (PySem.F.typeCall_list_1 _) PySem.F.entry_list_init (code_list_new _ ⟨rfl,rfl⟩) fun o s1 h1=>?_
 obtain⟨rfl,rfl⟩:=h1;have new:(s.heap.push {cls:=.type "list",data:=.seq #[]}).get? s.heap.objs.size=some {cls:=.type "list",data:=.seq #[]}:=Heap.get?_push_size _ rfl;have lt1:r<s.heap.objs.size:=let ⟨_,e,_⟩:=st;Heap.lt_size e;have lt2:l<s.heap.objs.size:=let ⟨_,e,_⟩:=hl;Heap.lt_size e;have e2:=Heap.get?_update_self (Obj.mapSeq (fun _=>(#[]:Array Value))) new rfl
 have up:∀ b o,b≠s.heap.objs.size → s.heap.get? b=some o → ((s.heap.push {cls:=.type "list",data:=.seq #[]}).update s.heap.objs.size (Obj.mapSeq (fun _=>(#[]:Array Value)))).get? b=some o:=fun b o hb e =>
  (Heap.get?_update_other _ _ (Ne.symm hb)).trans (Heap.get?_push_of_some _ e)
 refine⟨⟨_,new,rfl⟩,PySem.F.args_list_init_2 _ _,?_⟩;show wpAny _ _ (do let old <- Builtin.List.listItems (.ref s.heap.objs.size);Builtin.List.listUpdate (.ref s.heap.objs.size) (fun _=>#[]);letGo old.toList.reverse;Builtin.List.listExtendWith (.ref s.heap.objs.size) (.ref r) .none) _ _ _
 refine wpAny_bind (wpAny_bind (wpAny_seqItems new rfl (wpAny_pure ?_)));refine wpAny_bind (wpAny_updateSeq new rfl ?_);refine wpAny_bind (wpAny_letGo ?_);refine ext_rev (A:=A.in1) hh (st.at fun o e=>up r o (Nat.ne_of_lt lt1) e) (hl.at fun o e=>up l o (Nat.ne_of_lt lt2) e) hz rl (Nat.ne_of_gt lt1) (Nat.ne_of_gt lt2) e2 fun s' acc c mv hS it=>?_
 rw[back_eq it] at hS;refine⟨rfl,?_⟩;rw[Moved.eq_with mv]
 exact fin s'.heap s'.toks c (fun b o hb e=>mv.heap b o (fun z=>by
  rcases List.mem_cons.mp z with z | z
  ·exact Nat.lt_irrefl _ (z▸Heap.lt_size e)
  ·exact hb (List.mem_singleton.mp z)) (up b o (Nat.ne_of_lt (Heap.lt_size e)) e)) hS
end
theorem inv_turnLaid {X:Cx}{pins:List (Addr×Obj)}{σ:L2.St}{H:Hp}{s:Shared}{h':Heap}{t':Nat}{it a:Addr}{o:HO} (I:Inv X pins σ H s) (k:∀ b v,b≠it->s.heap.get? b=some v->h'.get? b=some v) (hn:H it=none) (hL:it≠X.env.locals)
  (h1:it∈X.ex\/X.s₀.heap.objs.size<=it) (h2:∀ x c,X.env.cells.lookup x=some c->c≠it) (h3:∀ p∈X.pn++pins,p.1≠it) (hp:s.heap.objs.size<=a) (new:ObjOk X.prog X.w (upd H a o) h' a o):Inv X pins σ (upd H a o) {s with heap:=h',toks:=t'}:=by
 have na:H a=none:=I.hok.fresh hp;have old:∀ {b:Addr}{u:HO},H b=some u->upd H a o b=some u:=fun q=>by rw[upd_ne (ne_of_none q na)];exact q
 have off:∀ {b:Addr}{u:HO},H b=some u->b≠it:=fun q=>ne_of_none q hn
 refine I.step (g':=s.gens) (d':=s.drawn) (ch:=[it]) (fun b hb=>by rw[List.mem_singleton.mp hb];exact⟨h1,hL,h2,h3⟩) (fun b v _ _ hc e _=>k b v (fun z=>hc (by simp[z])) e) (fun b v _ _ hc e _=>⟨v.slots,k b v (fun z=>hc (by simp[z])) e⟩)
  (fun b v _ e n=>by rw[upd_ne (Nat.ne_of_lt (Nat.lt_of_lt_of_le (Heap.lt_size e) hp))];exact n) (fun b v hc e=>⟨v,k b v (fun z=>hc (by simp[z])) e⟩) (fun _ _ e=>old e) (fun _ _ _ e=>old e) (fun _ _ e=>old e) (fun m ⟨v,es,ep,hv,r⟩=>⟨v,es,ep,k _ v (Ne.symm hL) hv,r⟩) (fun b u e=>?_) I.bare
 by_cases hb:b=a
 ·subst hb
  rw[upd_same] at e;cases e;exact new
 ·rw[upd_ne hb] at e
  refine (I.hok b u e).stay (fun c v hc q=>k c v ?_ q) (fun _ q=>old q) (fun _ _ q=>old q) fun _ _ q=>old q
  rcases hc with z | z
  ·rw[z];exact off e
  ·exact off z
section
variable {X:Cx}{l:Expr}{I:FE}{p p2 pos pos2:Pos}
theorem xlistrev (hm:X.mg "list"=none) (hr:X.mg "reversed"=none) (hc:X.calm=true) (hl:XE X l I) (hg:Gl X "list":=by rfl) (hgr:Gl X "reversed":=by rfl) (hs:starEach [l] X.env=[(false,eval l X.env)]:=by rfl)
  (hs2:starEach [.Call (.Name "reversed" p2) [l] [] pos2] X.env=[(false,eval (.Call (.Name "reversed" p2) [l] [] pos2) X.env)]:=by rfl):XE X (.Call (.Name "list" p) [.Call (.Name "reversed" p2) [l] [] pos2] [] pos) (e1 dRev I):=by
 intro pins s σ H Q J ⟨c,H0,ρ,d,ρ',R,f,q⟩;obtain⟨xs,h1,rfl⟩:=rev_inv f;refine wpAny_Call_Name_kw (ld_blt J hg hm (u:=.type "list") PyProof.Rows.boot_list (PyProof.Rows.callWith_type1 ?_ hs2 rfl));rw[hs2];refine Calls.spliced_cons ?_;refine wpAny_Call_Name_kw (ld_blt J hgr hr (u:=.type "reversed") (by decide +kernel) (PyProof.Rows.callWith_type1 ?_ hs rfl))
 rw[hs];refine Calls.spliced_cons (thn (hl pins s σ H (fun v Hh=>∃ H1,Same H0 H1/\RS X.K c H1 Hh ρ' σ/\Rep X.K H1 (.lst xs) v) J ⟨c,H0,ρ,_,_,R,h1,fun v H1 Hh s1 R1 r1=>⟨H1,s1,R1,r1⟩⟩) fun u s1 ⟨v,Hh,J1,rv,H1,sm,R1,r1⟩=>Calls.spliced_nil ?_)
 unfold Rep at r1;obtain⟨a,ws,rfl,sq,t⟩:=r1;cases rv;obtain⟨its,rv,pl,hz⟩:=J1.list (Same.seq R1.same sq);have len:=rv.length;refine call_reversed_list pl.isList (Calls.spliced_nil ?_);have lt:a<s1.heap.objs.size:=let ⟨_,e,_⟩:=pl.isList;Heap.lt_size e;have J2:Inv X pins σ Hh {s1 with heap:=s1.heap.push (revObj a ((its.toArray.size:Int)-1))}:=J1.kept (t':=s1.toks) fun b o e=>Heap.get?_push_of_some _ e
 obtain⟨f0,f1,f2,f3,f4,f5⟩:=J1.fpOk (b:=s1.heap.objs.size) (Nat.le_refl _) (J1.hok.fresh (Nat.le_refl _));refine list_rev (r:=s1.heap.objs.size) (l:=a) (items:=its.toArray) (J.ok.hd hc) ⟨_,Heap.get?_push_size _ rfl,rfl,rfl⟩ (pl.isList.at fun o e=>Heap.get?_push_of_some _ e) (by rw[List.size_toArray,<- len];exact hz) (Nat.ne_of_lt lt) fun h' tk c' kp new=>?_
 have hn:ws.reverse.length<=sizeLine:=by rw[List.length_reverse];exact hz
 refine⟨.ref _,_,inv_turnLaid J2 (t':=tk) (o:=.lst ws.reverse) kp f0 f1 f3 f4 f5 (Nat.le_refl _) ⟨hn,its.reverse,c',Vals.reverse rv,?_⟩,rfl,?_⟩
 ·rw[new];simp
 ·have fresh:Hh (s1.heap.push (revObj a ((its.toArray.size:Int)-1))).objs.size=none:=J2.hok.fresh (Nat.le_refl _)
  have S:=Step.alloc (o:=.lst ws.reverse) R1.same fresh;refine q _ _ _ (sm.trans S.s0) (R1.after S) ?_;unfold Rep;exact⟨_,_,rfl,.inl (.inl upd_same),Reps.mono S.s0 _ (reps_rev t)⟩
end
end Fx
set_option maxRecDepth 100000
namespace Fx
open PySem PySem.Spec PyProof.Rows L2
section
variable {K:PySem.W.Frag}{H:Hp}
theorem val_no {k:Str}:∀ {kds:List (Str×D)}{vs:List V},Reps K H (kds.map (·.2)) vs->getK k kds=none->valV (zipD (kds.map (·.1)) vs) (.inr k)=none
 |[],_,_,_=>rfl
 |q::r,vs,t,e=>by
  rw[List.map_cons] at t;unfold Reps at t;obtain⟨v,vr,rfl,_,t2⟩:=t;rw[List.map_cons,zipD_cons];unfold getK at e
  by_cases hk:q.1=k
  ·rw[if_pos hk] at e;cases e
  ·rw[if_neg hk] at e
   rw[valV_neg fun z=>hk (Sum.inr.inj z)]
   exact val_no t2 e
theorem zipD_app {ks:List Str}{vs:List V}{k:Str}{v:V} (h:ks.length=vs.length):zipD ks vs++[(Sum.inr k,v)]=zipD (ks++[k]) (vs++[v]):=by
 unfold zipD;rw[List.map_append,List.zip_append (by rw[List.length_map];exact h)]
 rfl
theorem put_any {k:Str}{d:D}{v:V}{kds:List (Str×D)}{vs:List V} (rv:Rep K H d v) (t:Reps K H (kds.map (·.2)) vs) :
  ∃ vs',putK (zipD (kds.map (·.1)) vs) (.inr k) v=zipD ((putD k d kds).map (·.1)) vs'/\Reps K H ((putD k d kds).map (·.2)) vs':=by
 unfold putD;cases q:getK k kds with
 |some d0=>rw[if_pos (show (some d0).isSome=true from rfl)];exact put_of rv t q
 |none =>
  rw[if_neg (by simp)]
  have hl:=t.length;rw[List.length_map] at hl;refine⟨vs++[v],?_,?_⟩
  ·rw[putK_new v (val_no t q),zipD_app (by rw[List.length_map];exact hl),List.map_append]
   rfl
  ·rw[List.map_append]
   exact t.app (Reps.one rv)
end
section
variable {X:Cx}{pos:Pos}{e:Expr}{F G:FE}{A:FA}
theorem xdn (i:Nat) {x:Str}{p p2:Pos} (hN:X.N.Nodup) (hi:X.N[i]?=some x:=by rfl) (hx:Loc X.env.scope x:=by first | exact Or.inl rfl | exact Or.inr rfl) (hs:swapsWith (.Dict [] [] p2) (some (.Name x p)) pos.line X.env=pure false:=by rfl)
  (hf:X.fn x=true\/X.env.scope.names.lookup x=some .local:=by first | exact .inl rfl | exact .inr rfl):XS X (.Assign [.Name x p] (.Dict [] [] p2) pos) (sDN i) :=
 PS.wk (ps_set hN hi hx pe_dnewK hs hf) fun Dn σ H ⟨c,H0,ρ,r,R,f,q⟩=>by
  have f':some (Res.nx (ρ.set i (.ow false (.dic []))))=some r:=f;cases f';exact fun a ha=>q _ H0 _ (Same.refl _) (R.setOwn (o:=.dic []) (u:=.dK []) i ha ⟨[],[],by rw[upd_same];rfl,rfl,Reps.nil_⟩)
theorem xdk (i:Nat) {x:Str}{k:Expr}{p p3:Pos} (hu:X.A.units+1<cLine) (hk:XE X k G) (he:XE X e F) (hN:X.N[i]?=some x:=by rfl) (hv:Vis X.env.scope x:=by first | exact Or.inl rfl | exact Or.inr (Or.inl rfl) | exact Or.inr (Or.inr rfl)) (hd:(x==("__debug__":Str))=false:=by decide)
  (hcd:(x==("__classdict__":Str))=false:=by decide) (hs:swapsWith e (some (.Subscript (.Name x p) k p3)) pos.line X.env=pure false:=by rfl):XS X (.Assign [.Subscript (.Name x p) k p3] e pos) (sDK i G F) :=
 PS.wk (ps_dput hu (pe_var hN hv hd hcd) hk he hs) fun Dn σ H ⟨c,H0,ρ,r,R,f,q⟩=>by
  unfold sDK sDKa at f;obtain⟨⟨d,ρ1⟩,h1,f⟩:=bnd_eq f;unfold sDKb at f;obtain⟨⟨b0,kds0⟩,h2,f⟩:=bnd_eq f;unfold sDKc at f;obtain⟨⟨x2,ρ2⟩,h3,f⟩:=bnd_eq f;unfold sDKd at f;obtain⟨k2,h4,f⟩:=bnd_eq f;unfold sDKe at f;obtain⟨⟨b,kds⟩,h5,f⟩:=bnd_eq f;obtain⟨h6,rfl⟩:=ifs f
  have hx2:x2=.str k2:=by
   cases x2 with
   |str z=>cases h4;rfl
   |_=>cases h4
  subst hx2;refine⟨c,H0,ρ,d,ρ1,R,h1,fun v H1 Hh s1 R1 r1=>?_⟩
  obtain⟨a,e1,_⟩:=R1.ow i b0 _ (owD_eq h2);refine⟨_,e1,c,H1,ρ1,_,ρ2,R1,h3,fun y H2 Hh2 s2 R2 r2=>?_⟩
  unfold Rep at r2;subst r2;have z:=owD_eq h5;obtain⟨a2,e2,_,_,ks,vs,e4,rfl,t⟩:=R2.ow i b _ z;rw[e1] at e2;cases e2;obtain⟨vs',w1,w2⟩:=put_any (k:=k2) (Rep.mono s2 d r1) t;refine⟨a,_,rfl,DPut.k (k:=.inr k2) e4 (by have:=zipD_len t;unfold zipD at this;rw[this];exact lt100 h6),?_⟩
  exact q σ H2 _ (s1.trans s2) (R2.mutOwn z e1 ⟨_,vs',by rw[upd_same];exact congrArg (fun y=>some (HO.dK y)) w1,rfl,w2⟩)
end
end Fx
set_option maxRecDepth 100000
namespace Fx
open PySem PySem.Spec PyProof.Rows L2
section
variable {X:Cx}{pins:List (Addr×Obj)}{σ:L2.St}{H:Hp}{s:Shared}{a:Addr}{kvs:List (Key×V)}
theorem inv_fz (I:Inv X pins σ H s) (e:H a=some (.dK kvs)):∃ ob,Inv X pins σ (upd H a (.frz ob (.dK kvs))) s:=by
 obtain⟨z,n,vs,rel,o,es,ep,ho,r⟩:=(show ObjOk X.prog X.w H s.heap a (.dK kvs) from I.hok a _ e);exact⟨o,I.write (t':=s.toks) (h':=s.heap) (x:=a) (e:=a) (by rw[e];trivial) (.inl rfl) (fun _ _ _ q=>q) ⟨o,ho⟩ ⟨ho,z,n,vs,rel,o,es,ep,ho,r⟩⟩
end
section
variable {X:Cx}{e:Expr}{st:Stmt}{t:TE}
noncomputable def tsFz (i:Nat) (t:TS):TS:=fun D σ H=>∃ a kvs,σ[i]?=some (some (.ref a))/\H a=some (.dK kvs)/\∀ ob,t D σ (upd H a (.frz ob (.dK kvs)))
theorem ps_fz (i:Nat) {t:TS} (h:PS X st t):PS X st (tsFz i t):=fun pins s σ H D I ⟨a,kvs,_,ea,q⟩=>by
 obtain⟨ob,I1⟩:=inv_fz I ea;exact h pins s σ _ D I1 (q ob)
end
end Fx
set_option maxRecDepth 100000
namespace Fx
open PySem PySem.Spec PyProof.Rows L2
noncomputable def less (H:Hp) (a:Addr):Hp:=fun b=>if b=a then none else H b
theorem less_at {H:Hp}{a:Addr}:less H a a=none:=if_pos rfl
theorem less_ne {H:Hp}{a b:Addr} (h:b≠a):less H a b=H b:=if_neg h
theorem less_of {H:Hp}{a b:Addr}{u:HO} (h:less H a b=some u):b≠a/\H b=some u:=by
 by_cases e:b=a
 ·rw[e,less_at] at h;cases h
 ·exact⟨e,by rw[less_ne e] at h;exact h⟩
section
variable {K:PySem.W.Frag}{H:Hp}{a:Addr}{ob:Obj}{kvs:List (Key×V)}
theorem Rd.less {b:Addr}{u:HO} (ha:H a=some (.frz ob (.dK kvs))) (h:Rd H b u) (n:∀ kvs,u≠.dK kvs) (n2:∀ o v,u≠.frz o v):Rd (less H a) b u:=by
 have ne:b≠a:=fun e=>by
  rw[e] at h
  rcases h with h | ⟨o,h⟩
  ·rw[ha] at h;exact n2 _ _ (Option.some.inj h).symm
  ·rw[ha] at h;cases h;exact n kvs rfl
 rcases h with h | ⟨o,h⟩
 ·exact .inl (by rw[less_ne ne];exact h)
 ·exact .inr ⟨o,by rw[less_ne ne];exact h⟩
mutual
theorem Rep.less (ha:H a=some (.frz ob (.dK kvs))):∀ (d:D) {v:V},nd d=true->Rep K H d v->Rep K (less H a) d v
 |.non,_,_,h=>by unfold Rep at h ⊢;exact h
 |.bl _,_,_,h=>by unfold Rep at h ⊢;exact h
 |.int _,_,_,h=>by unfold Rep at h ⊢;exact h
 |.str _,_,_,h=>by unfold Rep at h ⊢;exact h
 |.tup ds,_,n,h=>by
  unfold Rep at h ⊢;obtain⟨b,vs,e,s,r⟩:=h;refine⟨b,vs,e,?_,Reps.less ha ds n r⟩
  rcases s with s | s
  ·exact .inl (Rd.less ha s (fun _ z=>nomatch z) fun _ _ z=>nomatch z)
  ·exact .inr s
 |.lst ds,_,n,h=>by
  unfold Rep at h ⊢;obtain⟨b,vs,e,s,r⟩:=h;refine⟨b,vs,e,?_,Reps.less ha ds n r⟩
  rcases s with s | s
  ·exact .inl (Rd.less ha s (fun _ z=>nomatch z) fun _ _ z=>nomatch z)
  ·exact .inr s
 |.opq,_,n,_=>by cases n
 |.dct _ _,_,n,_=>by cases n
theorem Reps.less (ha:H a=some (.frz ob (.dK kvs))):∀ (ds:List D) {vs:List V},nds ds=true->Reps K H ds vs->Reps K (less H a) ds vs
 |[],_,_,h=>by unfold Reps at h ⊢;exact h
 |d::r,_,n,h=>by
  unfold nds at n;rw[Bool.and_eq_true] at n;unfold Reps at h ⊢;obtain⟨v,vr,e,h1,h2⟩:=h;exact⟨v,vr,e,Rep.less ha d n.1 h1,Reps.less ha r n.2 h2⟩
end
end
section
variable {K:PySem.W.Frag}{c:FC}{H0 H:Hp}{ρ:En}{σ:L2.St}{i:Nat}{kds:List (Str×D)}
theorem RS.asData (R:RS K c H0 H ρ σ) (hi:ρ[i]?=some (.ow false (.dic kds))) :
  ∃ a vs,σ[i]?=some (some (.ref a))/\H0 a=none/\c.He a=none/\H a=some (.dK (zipD (kds.map (·.1)) vs))/\Reps K H0 (kds.map (·.2)) vs/\∀ ob,Same H0 (upd H0 a (.frz ob (.dK (zipD (kds.map (·.1)) vs))))/\RS K c (upd H0 a (.frz ob (.dK (zipD (kds.map (·.1)) vs)))) (upd H a (.frz ob (.dK (zipD (kds.map (·.1)) vs)))) (ρ.set i (hld kds)) σ:=by
 obtain⟨a,x,y,z,ks,vs,e,rfl,r⟩:=R.ow i _ _ hi;have he:c.He a=none:=z;have il:i<ρ.length:=(List.getElem?_eq_some_iff.mp hi).1;refine⟨a,vs,x,y,he,e,r,fun ob=>?_⟩
 have s0:Same H0 (upd H0 a (.frz ob (.dK (zipD (kds.map (·.1)) vs)))):=fun b u q=>by rw[upd_ne (ne_of_none q y)];exact q
 have off:∀ {j:Nat}{sl:Sl},j≠i->(ρ.set i (hld kds))[j]?=some sl->ρ[j]?=some sl:=fun hj q=>by rwa [List.getElem?_set_ne (Ne.symm hj)] at q
 have on:∀ {sl:Sl},(ρ.set i (hld kds))[i]?=some sl->sl=hld kds:=fun q=>by rw[List.getElem?_set_self il] at q;exact (Option.some.inj q).symm
 refine⟨s0,fun b u q=>?_,R.init.trans s0,fun b u q=>?_,fun b u q m=>?_,fun b m=>?_,by rw[List.length_set];exact R.len,fun j d q=>?_,fun j b o q=>?_,fun j k b1 b2 o1 o2 b q1 q2 q3 q4=>?_⟩
 ·by_cases h:b=a
  ·subst h;rw[upd_same] at q ⊢;exact q
  ·rw[upd_ne h] at q ⊢;exact R.same b u q
 ·by_cases h:b=a
  ·subst h;exact .inr he
  ·rw[upd_ne h] at q;exact R.fresh b u q
 ·rw[upd_ne (ne_of_none q he)];exact R.keep b u q m
 ·by_cases h:b=a
  ·subst h;rw[upd_same];exact Option.some_ne_none _
  ·rw[upd_ne h];exact R.apt b m
 ·by_cases hj:j=i
  ·subst hj
   have q2:=on q;unfold hld at q2;cases q2;refine⟨.ref a,x,?_⟩;unfold Rep;exact⟨a,ob,vs,rfl,upd_same,Reps.mono s0 _ r,by rw[List.length_map,List.length_map]⟩
  ·obtain⟨v,a1,a2⟩:=R.im j d (off hj q)
   exact⟨v,a1,Rep.mono s0 _ a2⟩
 ·by_cases hj:j=i
  ·subst hj
   have q2:=on q;unfold hld at q2;cases q2
  ·have q':=off hj q
   obtain⟨b',x1,y1,z1,w1⟩:=R.ow j b o q';have nb:b'≠a:=fun h=>hj (R.ne j i b false o _ b' q' hi x1 (by rw[h];exact x))
   exact⟨b',x1,by rw[upd_ne nb];exact y1,z1,w1.step s0 fun u q=>by rw[upd_ne nb];exact q⟩
 ·have n1:j≠i:=fun h=>by subst h;have q5:=on q1;unfold hld at q5;cases q5
  have n2:k≠i:=fun h=>by subst h;have q5:=on q2;unfold hld at q5;cases q5
  exact R.ne j k b1 b2 o1 o2 b (off n1 q1) (off n2 q2) q3 q4
theorem RS.back {H0' H':Hp}{a:Addr}{vs:List V}{ob:Obj} (R:RS K c H0 H ρ σ) (hi:ρ[i]?=some (.ow false (.dic kds))) (x:σ[i]?=some (some (.ref a))) (y:H0 a=none) (he:c.He a=none) (r:Reps K H0 (kds.map (·.2)) vs)
  (sm:Same (upd H0 a (.frz ob (.dK (zipD (kds.map (·.1)) vs)))) H0') (R':RS K c H0' H' (ρ.set i (hld kds)) σ) (hn:ρ.all ndS=true):Same H0 (less H0' a)/\H' a=some (.frz ob (.dK (zipD (kds.map (·.1)) vs)))/\RS K c (less H0' a) (upd H' a (.dK (zipD (kds.map (·.1)) vs))) ρ σ:=by
 have ha:H0' a=some (.frz ob (.dK (zipD (kds.map (·.1)) vs))):=sm a _ upd_same
 have s0:Same H0 (less H0' a):=fun b u q=>by
  have nb:b≠a:=fun h=>by rw[h,y] at q;cases q
  rw[less_ne nb];exact sm b u (by rw[upd_ne nb];exact q)
 have off:∀ {j:Nat}{sl:Sl},j≠i->ρ[j]?=some sl->(ρ.set i (hld kds))[j]?=some sl:=fun hj q=>by rw[List.getElem?_set_ne (Ne.symm hj)];exact q
 have ok_at:OwOk K (less H0' a) (upd H' a (.dK (zipD (kds.map (·.1)) vs))) a (.dic kds):=⟨_,vs,upd_same,rfl,Reps.mono s0 _ r⟩;have mine:∀ {b:Bool}{o:MO},ρ[i]?=some (.ow b o)->b=false/\o=.dic kds:=fun q=>by rw[hi] at q;cases q;exact⟨rfl,rfl⟩
 refine⟨s0,R'.same a _ ha,fun b u q=>by rw[upd_ne (less_of q).1];exact R'.same b u (less_of q).2,fun b u q=>?_,fun b u q=>R'.fresh b u (less_of q).2,fun b u q m=>?_,fun b m=>?_,R.len,fun j d q=>?_,fun j b o q=>?_,R.ne⟩
 ·exact s0 b u (R.init b u q)
 ·rw[upd_ne (ne_of_none q he)];exact R'.keep b u q m
 ·by_cases h:b=a
  ·subst h;rw[upd_same];exact Option.some_ne_none _
  ·rw[upd_ne h];exact R'.apt b m
 ·obtain⟨v,a1,a2⟩:=R.im j d q
  exact⟨v,a1,Rep.mono s0 _ a2⟩
 ·by_cases hj:j=i
  ·subst hj
   obtain⟨rfl,rfl⟩:=mine q;exact⟨a,x,less_at,he,ok_at⟩
  ·obtain⟨b',x1,y1,z1,w1⟩:=R'.ow j b o (off hj q)
   have nb:b'≠a:=fun h=>by rw[h,ha] at y1;cases y1
   refine⟨b',x1,by rw[less_ne nb];exact y1,z1,?_⟩
   have hq:ndS (.ow b o)=true:=List.all_eq_true.mp hn _ (List.mem_of_getElem? q);cases o with
   |lst ds=>obtain⟨ws,w2,w3⟩:=w1;exact⟨ws,by rw[upd_ne nb];exact w2,Reps.less ha ds hq w3⟩
   |dic kds2=>obtain⟨ks2,ws,w2,w3,w4⟩:=w1;exact⟨ks2,ws,by rw[upd_ne nb];exact w2,w3,Reps.less ha _ hq w4⟩
end
section
variable {X:Cx}{pos:Pos}{e:Expr}{F G:FE}{A:FA}
theorem xfzd (i:Nat) {st:Stmt}{S:FS} (h:XS X st S):XS X st (sFzD i S):=PS.wk (ps_fz i h) fun Dn σ H ⟨c,H0,ρ,r,R,f,q⟩=>by
 unfold sFzD sFzDa at f;obtain⟨⟨b,kds⟩,h1,f⟩:=bnd_eq f
 by_cases hb:b=false
 ·have f2:S (ρ.set i (hld kds))=some r:=by
   have f3:(if b=false then S (ρ.set i (hld kds)) else none)=some r:=f
   rwa [if_pos hb] at f3
  subst hb;obtain⟨a,vs,x,_,_,e4,_,RR⟩:=R.asData (owD_eq h1);exact⟨a,_,x,e4,fun ob=>⟨c,_,_,r,(RR ob).2,f2,Post.mono (RR ob).1 q⟩⟩
 ·have f3:(if b=false then S (ρ.set i (hld kds)) else none)=some r:=f
  rw[if_neg hb] at f3;cases f3
end
end Fx
set_option maxRecDepth 100000
namespace Fx
open PySem PySem.Spec PyProof.Rows L2
section
variable {X:Cx}
theorem dct_get {K:PySem.W.Frag}{H0 H:Hp}{ks:List Str}{ds:List D}{a:Addr}{o:Obj}{vs:List V}{k:Str} (s:Same H0 H) (ea:H0 a=some (.frz o (.dK ((ks.map Sum.inr).zip vs)))) (t:Reps K H0 ds vs) (l:ks.length=ds.length) :
  ∃ u,DGet H a (.str k) u/\(getK k (ks.zip ds)=none->u=none)/\∀ d,getK k (ks.zip ds)=some d->∃ v,u=some v/\Rep K H0 d v:=by
 have f1:(ks.zip ds).map (·.1)=ks:=List.map_fst_zip (by omega)
 have f2:(ks.zip ds).map (·.2)=ds:=List.map_snd_zip (by omega)
 have ln:=t.length;refine⟨valV (zipD ks vs) (.inr k),.inl ⟨_,.inr k,.inr ⟨o,s _ _ ea⟩,rfl,rfl⟩,fun h=>?_,fun d h=>?_⟩
 ·have:=val_none (vs:=vs) (by rw[List.length_zip];omega) h
  rw[f1] at this;exact this
 ·obtain⟨v,w1,w2⟩:=val_of (by rw[f2];exact t) h
  rw[f1] at w1;exact⟨v,w1,w2⟩
theorem dctX_inv {d:D}{q:List Str×List D} (h:dctX d=some q):d=.dct q.1 q.2:=by
 cases d with
 |dct ks vs=>cases h;rfl
 |_=>cases h
theorem strX_inv {d:D}{k:Str} (h:strX d=some k):d=.str k:=by
 cases d with
 |str z=>cases h;rfl
 |_=>cases h
theorem op_din (hu:X.A.units+1<cLine):OpR X (compareOp .In) (fun y x H Q=>∃ a o,x=.ref a/\DGet H a y o/\Q (.bl o.isSome) H):=by
 intro pins s σ H x y v u Q I rx ry h;obtain⟨a,o,rfl,g,q⟩:=h;cases ry;exact d_in hu I g rx fun s' I'=>⟨.bl o.isSome,H,I',rfl,q⟩
theorem op_dnin (hu:X.A.units+1<cLine):OpR X (compareOp .NotIn) (fun y x H Q=>∃ a o,x=.ref a/\DGet H a y o/\Q (.bl (!o.isSome)) H):=by
 intro pins s σ H x y v u Q I rx ry h;obtain⟨a,o,rfl,g,q⟩:=h;cases ry;exact d_notIn hu I g rx fun s' I'=>⟨.bl (!o.isSome),H,I',rfl,q⟩
theorem din_of {K:PySem.W.Frag}{H0 H:Hp}{ks:List Str}{ds:List D}{vx vy:V}{k:Str} (s:Same H0 H) (r1:Rep K H0 (.str k) vx) (r2:Rep K H0 (.dct ks ds) vy):∃ a o,vy=.ref a/\DGet H a vx o/\o.isSome=(getK k (ks.zip ds)).isSome:=by
 unfold Rep at r1 r2;subst r1;obtain⟨a,ob,vs,rfl,ea,t,l⟩:=r2;obtain⟨u,dg,hn,hs⟩:=dct_get (k:=k) s ea t l;refine⟨a,u,rfl,dg,?_⟩;cases z:getK k (ks.zip ds) with
 |none=>rw[hn z];rfl
 |some d=>obtain⟨v,e,_⟩:=hs d z;rw[e];rfl
theorem cDin (hu:X.A.units+1<cLine):CmpOk X .In dDin:=⟨_,op_din hu,fun c H0 H ρ σ x y d vx vy Q R r1 r2 e q=>by
 unfold dDin at e;obtain⟨⟨ks,ds⟩,g1,e⟩:=bnd_eq e;obtain⟨k,g2,e⟩:=bnd_eq e;cases dctX_inv g1;cases strX_inv g2;cases e;obtain⟨a,o,rfl,dg,z⟩:=din_of R.same r1 r2;exact⟨a,o,rfl,dg,by rw[z];exact q _ H0 H (Same.refl _) R (by unfold Rep;rfl)⟩⟩
theorem cDnin (hu:X.A.units+1<cLine):CmpOk X .NotIn dDnin:=⟨_,op_dnin hu,fun c H0 H ρ σ x y d vx vy Q R r1 r2 e q=>by
 unfold dDnin at e;obtain⟨⟨ks,ds⟩,g1,e⟩:=bnd_eq e;obtain⟨k,g2,e⟩:=bnd_eq e;cases dctX_inv g1;cases strX_inv g2;cases e;obtain⟨a,o,rfl,dg,z⟩:=din_of R.same r1 r2;exact⟨a,o,rfl,dg,by rw[z];exact q _ H0 H (Same.refl _) R (by unfold Rep;rfl)⟩⟩
end
end Fx
set_option maxRecDepth 100000
namespace Fx
open PySem PySem.W PySem.Spec PyProof.Rows L2
section
variable {X:Cx}{pins:List (Addr×Obj)}{σ:L2.St}{H:Hp}{s:Shared}
noncomputable def rSortG (K:Frag) (sh:D->Bool):List V->Hp->VK->Prop:=fun xs H Q=>∃ p ds vs H0,xs=[.ref p]/\SqL K H p vs/\Same H0 H/\Reps K H0 ds vs/\ds.length<=1000/\ds.all sh=true/\∀ l vs',H l=none->Reps K H0 (sortT ds) vs'->Q (.ref l) (upd H l (.lst vs'))
theorem rank_congr {n:Nat}{key:Nat->Ky}{i j:Nat} (h:key i=key j):rankK n key i=rankK n key j:=by
 unfold rankK;rw[h]
structure SortSh (X:Cx) (sh:D->Bool):Prop where
 inj:∀ {a b:D},sh a=true->sh b=true->fK a=fK b->a=b
 same:∀ {pins:List (Addr×Obj)}{σ:L2.St}{H:Hp}{s:Shared},Inv X pins σ H s->∀ {d e:D},sh d=true->sh e=true->∀ {x:V},Rep X.K H d x->Rep X.K H e x->d=e
 asks:∀ {σ:L2.St}{H:Hp}{ds:List D}{vs:List V}{its:List Value},ds.all sh=true->Reps X.K H ds vs->Vals vs its->∃ κ:SortKind,(∀ (pins:List (Addr×Obj)) (s:Shared),Inv X pins σ H s->2<=its.length->∀ Q:SortKind->Shared->Prop,Q κ s->wpAny (model X.prog X.w) X.A.in1.in1 (keyKind' its.toArray) Q (fun _ _=>False) s) /\
   ∀ (pins:List (Addr×Obj)) (s:Shared),Inv X pins σ H s->∀ i j,i<ds.length->j<ds.length->∀ Q:Bool->Shared->Prop,Q (decide (fK (ds.getD i .non)<fK (ds.getD j .non))) s->kas_ask X.prog X.w X.A.in1.in1 κ its i j Q s
theorem call_sortG {sh:D → Bool} (S:SortSh X sh):CallR X (.builtin "sorted") (rSortG X.K sh):=by
 intro pins s σ H xs us Q I r h;obtain⟨p,ds,vs,H0,rfl,sq,sm,rp0,h64,al,q⟩:=h;have rp:Reps X.K H ds vs:=Reps.mono sm _ rp0;obtain⟨u,rfl,ru⟩:=vals1 r;cases ru;obtain⟨its,rv,⟨ob,n,h1,h2,h3,h4⟩,_⟩:=I.list sq;have len:its.length=ds.length:=by rw[<- rv.length,<- rp.length]
 have inj:∀ a b,a∈ds->b∈ds->fK a=fK b->a=b:=fun a b ha hb e=>S.inj (List.all_eq_true.mp al a ha) (List.all_eq_true.mp al b hb) e
 have mem:∀ i,i<ds.length->ds.getD i .non∈ds:=fun i hi=>by
  rw[List.getD_eq_getElem?_getD,List.getElem?_eq_getElem hi];exact List.getElem_mem hi
 obtain⟨κ,kd,ak⟩:=S.asks (σ:=σ) al rp rv;have big:(1000:Nat)<=sizeLine:=by decide
 refine sorted_any (κ:=κ) (r:=rankK ds.length fun i=>fK (ds.getD i .non)) h1 h2 h4 (by omega) (fun i j hi hj e=>?_) (fun g a kp na=>?_) fun g1 g2 pm e op mo k1 k2 at2=>?_
 ·obtain⟨x,rx,ux⟩:=reps_get rp rv (i:=i) (by omega)
  obtain⟨y,ry,uy⟩:=reps_get rp rv (i:=j) (by omega)
  rw[<- e] at uy;obtain rfl:=RelV.inj ux uy;have:ds.getD i .non=ds.getD j .non:=S.same I (List.all_eq_true.mp al _ (mem i (by omega))) (List.all_eq_true.mp al _ (mem j (by omega))) rx ry
  exact rank_congr (key:=fun i=>fK (ds.getD i .non)) (congrArg fK this)
 ·have up:∀ g':Heap,(∀ b o,b≠a->g.get? b=some o->g'.get? b=some o)->∀ b o,s.heap.get? b=some o->g'.get? b=some o:=fun g' k b o z=>k b o (fun y=>by rw[y,na] at z;cases z) (kp b o z)
  refine⟨fun l2 g' k Q q=>kd pins _ (I.kept (t':=s.toks) (up g' k)) l2 Q q,fun g' k i j hi hj C q=>ak pins _ (I.kept (t':=s.toks) (up g' k)) i j (by omega) (by omega) C ?_⟩
  have ri:=rank_iff (n:=ds.length) (key:=fun i=>fK (ds.getD i .non)) (i:=i) (j:=j) (by omega)
  rw[<- decide_eq_decide.mpr ri];exact q
 ·have I1:Inv X pins σ H {s with heap:=g1}:=I.kept (t':=s.toks) k1
  rw[len] at op mo;have below:∀ i∈pm.toList,i<ds.length:=fun i hi=>List.mem_range.mp (op.perm.mem_iff.mp hi)
  obtain⟨ws,w1,w2⟩:=reps_perm rp0 rv below
  have srt:(pm.toList.map fun i=>ds.getD i .non)=sortT ds:=by
   refine sortT_uniq inj ?_ ?_
   ·have e1:=op.perm.map fun i=>ds.getD i .non
    have e2:(List.range ds.length).map (fun i=>ds.getD i .non)=ds:=by
     refine List.ext_getElem (by simp) fun i h1 h2=>?_
     simp[h2]
    rw[e2] at e1;exact e1
   ·rw[List.pairwise_map,List.pairwise_iff_getElem]
    intro i j hi hj hij;have szp:pm.toList.length=ds.length:=by rw[Array.length_toList,op.size]
    have m1:=mo i j (Nat.le_of_lt hij) (by omega)
    have gi:pm.getD i 0=pm.toList[i]:=by
     rw[Array.getD_eq_getD_getElem?,<- Array.getElem?_toList,List.getElem?_eq_getElem hi];rfl
    have gj:pm.getD j 0=pm.toList[j]:=by
     rw[Array.getD_eq_getD_getElem?,<- Array.getElem?_toList,List.getElem?_eq_getElem hj];rfl
    unfold KP at m1;rw[gi,gj] at m1;refine decide_eq_false fun z=>?_
    have:=(rank_iff (n:=ds.length) (key:=fun i=>fK (ds.getD i .non)) (i:=pm.toList[j]) (j:=pm.toList[i]) (below _ (List.getElem_mem hj))).mpr z
    omega
  rw[srt] at w1
  have hz:ws.length<=sizeLine:=by
   have:=w1.length;rw[(sortT_perm ds).length_eq] at this;omega
  exact⟨.ref g1.objs.size,_,I1.laid (t':=s.toks) (o:=.lst ws) k2 (Nat.le_refl _) ⟨hz,_,e,w2,at2⟩,rfl,q _ _ (I1.hok.fresh (Nat.le_refl _)) w1⟩
theorem callSortG {sh:D → Bool} (S:SortSh X sh):BOk X (.builtin "sorted") (bSortG sh):=⟨_,call_sortG S,fun c H0 H ρ σ ds d vs Q R r e q=>by
 unfold bSortG at e
 split at e
 ·rename_i xs
  obtain⟨⟨h64,al⟩,rfl⟩:=ifs e;obtain⟨v,rfl,rv⟩:=Reps.v1 r;unfold Rep at rv;obtain⟨p,ws,rfl,sq,t⟩:=rv;refine⟨p,xs,ws,H0,rfl,Same.seq R.same sq,R.same,t,h64,al,fun l ws' hl r'=>?_⟩
  have S:=Step.alloc (o:=.lst ws') R.same hl;refine q _ _ _ S.s0 (R.after S) ?_;unfold Rep;exact⟨l,ws',rfl,.inl (.inl upd_same),Reps.mono S.s0 _ r'⟩
 ·cases e⟩
theorem isS_eq {d:D} (h:isS d=true):∃ x,d=.str x:=by
 cases d with
 |str x=>exact⟨x,rfl⟩
 |_=>cases h
theorem sh_str:SortSh X isS where
 inj:=fun ha hb e=>by
  obtain⟨x,rfl⟩:=isS_eq ha;obtain⟨y,rfl⟩:=isS_eq hb;exact (sameF_eq (d:=.str x) (e:=.str y) rfl).2.1.mp e
 same:=fun {pins σ H s} I {d e} hd he {x} r1 r2=>by
  obtain⟨a,rfl⟩:=isS_eq hd;obtain⟨b,rfl⟩:=isS_eq he;unfold Rep at r1 r2;rw[r1] at r2;cases r2;rfl
 asks:=fun {σ H ds vs its} al rp rv=>by
  have at':∀ i,i<ds.length->∃ x t,ds.getD i .non=.str x/\its.getD i Value.none=.str x t:=fun i hi=>by
   obtain⟨v,r1,r2⟩:=reps_get rp rv hi;obtain⟨x,ex⟩:=isS_eq (List.all_eq_true.mp al (ds.getD i .non) (by rw[List.getD_eq_getElem?_getD,List.getElem?_eq_getElem hi];exact List.getElem_mem hi))
   rw[ex] at r1;unfold Rep at r1;subst r1;obtain⟨t,e⟩:=r2;exact⟨x,t,ex,e⟩
  have len:its.length=ds.length:=by rw[<- rv.length,<- rp.length]
  refine⟨oneType',fun pins s I l2 Q q=>kas_kind (T:=.type "str") l2 (fun v hv=>?_) rfl rfl q,fun pins s I i j hi hj Q q=>?_⟩
  ·obtain⟨i,hi,rfl⟩:=List.getElem_of_mem hv
   obtain⟨x,t,_,e⟩:=at' i (by omega)
   rw[List.getD_eq_getElem?_getD,List.getElem?_eq_getElem hi] at e;have e:its[i]=Value.str x t:=e;rw[e];exact .now
  ·obtain⟨x,t,e1,e2⟩:=at' i hi
   obtain⟨y,u,e3,e4⟩:=at' j hj;unfold kas_ask;rw[e2,e4];rw[e1,e3] at q;have h3:=(sameF_eq (d:=.str x) (e:=.str y) rfl).2.2.1;refine kas_lt_str ?_
   have:decide (fK (D.str x)<fK (.str y))=decide (x.cps.toList<y.cps.toList):=by
    rw[decide_eq_decide,<- h3];unfold ltF;exact decide_eq_true_iff
   rw[this] at q;exact q
end
end Fx
set_option maxRecDepth 100000
namespace L2
open PySem PySem.Spec PyProof.Rows
theorem codeAmong_more {pos:Pos}{a b:Int}{c:Value}:∀ l:List Value,TriplesOk l ->
  codeAmong pos (l++[rawInt a,rawInt b,c])=codeAmong pos l\/(codeAmong pos l=none/\codeAmong pos (l++[rawInt a,rawInt b,c])=some c)
 |[],_=>by
  simp only[List.nil_append,codeAmong,rawInt]
  split
  ·exact .inr ⟨trivial,rfl⟩
  ·exact .inl rfl
 |[x],h=>by cases x <;> exact False.elim h
 |[x,y],h=>by cases x <;> first | exact False.elim h | (cases y <;> exact False.elim h)
 |x::y::z::r,h=>by
  cases x with
  |int i t =>
   cases y with
   |int k u =>
    simp only[List.cons_append,codeAmong]
    split
    ·exact .inl rfl
    ·exact codeAmong_more r h
   |_=>exact False.elim h
  |_=>exact False.elim h
noncomputable abbrev lamObj (params:Arguments) (body:Expr) (scope:Scope) (pm:Value) (c':Addr) (ctv:Value):Obj:=PySem.W.kla_obj "<lambda>" TabQ params body scope [] pm c' ctv
theorem mk_lam {X:Cx}{pins:List (Addr×Obj)}{σ:St}{H:Hp}{s:Shared}{M:Model}{A:Around}{E:Value->Shared->Prop}{c:Addr}{params:Arguments}{body:Expr}{scope:Scope}{pos:Pos}{fl:Nat}{Q:Value->Shared->Prop}
  (I:Inv X pins σ H s) (hc:X.env.code=.ref c) (C:PySem.W.CodeHd X.base c TabP) (hcl:closureFor scope X.env=pure [])
  (h:∀ (f c':Addr) (H':Hp) (s':Shared) (pm ctv:Value),Inv X ((f,lamObj params body scope pm c' ctv)::pins) σ H' s'->Same H H'->H' c'=some (.cod TabQ)->X.s₀.heap.objs.size<=f->Q (.ref f) s') :
  wpAny M A (makeFunction "<lambda>" TabQ params (.expr body) scope X.env [] [] [] pos fl) Q E s:=by
 have hP0:=I.base.tbls _ _ I.ok.tab;obtain⟨ps,hP,tr,al⟩:=(show ObjOk X.prog X.w H s.heap TabP (.tbl TabQ) from I.hok _ _ hP0);have hg:s.heap.Ns mainGlobals X.mg:=I.ok.mod.glob.keeps I.bk;obtain⟨bm,ob,b1,b2,b3,b4,b5,b6⟩:=I.ok.mod.bm;have b3':=I.bk _ _ b3;have hbP:bm≠TabP:=fun q=>by rw[q,hP] at b3';cases b3';cases b4
 have hgP:mainGlobals≠TabP:=fun q=>by
  obtain⟨o,es,ep,e,hd,_⟩:=hg;rw[q,hP] at e;cases e;cases hd
 have notG:bm≠mainGlobals:=fun q=>by
  obtain⟨o,es,ep,e,hd,_⟩:=hg;rw[<- q,b3'] at e;cases e;rw[hd] at b6;cases b6
 have hB:s.heap.BuiltinsAt X.mg TabP:=⟨bm,ob,b1,b2,notG,hbP,b3',b4,b5,b6⟩
 rcases al pos with z | ⟨c',z,y⟩
 ·refine PySem.W.kla_makeFunction hcl I.ok.glob hg hc (C.keeps I.bk) hP tr z hgP hB fun c' ctv h' tk hx hge hlt hrec htb=>?_
  have hfc:H c'=none:=I.hok.fresh hge;have hsz:s.heap.objs.size<=h'.objs.size:=Nat.le_of_lt (Nat.lt_of_le_of_lt hge hlt);have nP:∀ b,H b=none->b≠TabP:=fun b n q=>by rw[q,hP0] at n;cases n
  let oF:Obj:=lamObj params body scope ((X.mg "__name__").getD .none) c' ctv
  have up:∀ b o,h'.get? b=some o->(h'.push oF).get? b=some o:=fun b o e=>Heap.get?_push_of_some _ e
  have hok':HOk X.prog X.w (upd H c' (.cod TabQ)) (h'.push oF):=fun b o e=>by
   by_cases hb:b=c'
   ·subst hb
    rw[upd_same] at e;cases e;obtain⟨d,oc,vs,t,e1,e2,r⟩:=hrec;cases e1;exact⟨_,oc,vs,t,rfl,up _ _ e2,r⟩
   ·rw[upd_ne hb] at e
    by_cases hb2:b=TabP
    ·subst hb2
     rw[hP0] at e;cases e;refine⟨_,up _ _ htb,?_,fun pos'=>?_⟩
     ·have:=TriplesOk_snoc pos.line pos.col (.ref c') ps.toList tr
      simpa using this
     ·have q:(ps++#[rawInt pos.line,rawInt pos.col,.ref c']).toList=ps.toList++[rawInt pos.line,rawInt pos.col,.ref c']:=by simp
      rw[q]
      rcases codeAmong_more (pos:=pos') (a:=pos.line) (b:=pos.col) (c:=.ref c') ps.toList tr with w | ⟨_,w⟩
      ·rw[w]
       rcases al pos' with v | ⟨c2,v,v2⟩
       ·exact .inl v
       ·exact .inr ⟨c2,v,by rw[upd_ne (ne_of_none v2 hfc)];exact v2⟩
      ·exact .inr ⟨c',w,upd_same⟩
    ·refine (I.hok b o e).stay (fun d v hd q=>up _ _ (hx d v ?_ q)) (fun d q=>by rw[upd_ne (ne_of_none q hfc)];exact q) (fun d xs q=>by rw[upd_ne (ne_of_none q hfc)];exact q) fun d xs q=>by rw[upd_ne (ne_of_none q hfc)];exact q
     rcases hd with rfl | hd
     ·exact hb2
     ·intro w
      rw[w,hP0] at hd;cases hd
  have u:Un X.fs [] H (upd H c' (.cod TabQ)) s.heap (h'.push oF):=by
   refine⟨fun b o e n _ _=>up _ _ (hx b o (nP b n) e),fun b o e n _ _=>⟨o.slots,up _ _ (hx b o (nP b n) e)⟩,fun b o e n _=>?_,fun b o e _=>?_,fun b xs q=>by rw[upd_ne (ne_of_none q hfc)];exact q,fun b o xs q=>by rw[upd_ne (ne_of_none q hfc)];exact q,fun b xs q=>by rw[upd_ne (ne_of_none q hfc)];exact q⟩
   ·rw[upd_ne (Nat.ne_of_lt (Nat.lt_of_lt_of_le (Heap.lt_size e) hge))];exact n
   ·by_cases hb:b=TabP
    ·exact⟨_,up _ _ (by rw[hb];exact htb)⟩
    ·exact⟨o,up _ _ (hx b o hb e)⟩
  have I1:Inv X pins σ (upd H c' (.cod TabQ)) {s with heap:=h'.push oF,toks:=tk}:=I.un u hok'
  refine h h'.objs.size c' _ _ ((X.mg "__name__").getD .none) ctv (I1.pins_of fun p hp=>?_) (fun b o e=>by rw[upd_ne (ne_of_none e hfc)];exact e) upd_same (Nat.le_trans I.sz hsz)
  rcases List.mem_cons.mp hp with rfl | hp
  ·refine⟨Heap.get?_push_size _ rfl,?_,Nat.ne_of_gt (Nat.lt_of_lt_of_le I.lt hsz),I.nofs hsz,fun v=>by nofun⟩
   show upd H c' (.cod TabQ) h'.objs.size=none;rw[upd_ne (Nat.ne_of_gt hlt)];exact I.hok.fresh hsz
  ·exact I1.pin p (List.mem_append_right _ hp)
 ·refine PySem.W.kla_makeFunctionHit hcl I.ok.glob hg hc (C.keeps I.bk) hP tr z hB fun ctv h' tk hk hsz=>?_
  have I1:Inv X pins σ H {s with heap:=h'.push (lamObj params body scope ((X.mg "__name__").getD .none) c' ctv),toks:=tk}:=I.kept (fun b u e=>Heap.get?_push_of_some _ (hk b u e))
  refine h h'.objs.size c' H _ ((X.mg "__name__").getD .none) ctv (I1.pins_of fun p hp=>?_) (Same.refl _) y (Nat.le_trans I.sz hsz)
  rcases List.mem_cons.mp hp with rfl | hp
  ·exact⟨Heap.get?_push_size _ rfl,I.hok.fresh hsz,Nat.ne_of_gt (Nat.lt_of_lt_of_le I.lt hsz),I.nofs hsz,fun v=>by nofun⟩
  ·exact I1.pin p (List.mem_append_right _ hp)
theorem run_lam {CX:CXT}{P:Program}{w:World}{K:PySem.W.Frag}{mg:Str->Option Value}{base:Heap}{A:Around}{outer:List Env}{s:Shared}{H:Hp}{k:Nat}{f c':Addr}{params:Arguments}{body:Expr}{scope:Scope}{pm ctv:Value}{N ps:List Str}{us:List Value}{vs:List V}{Q:VK}{E:XK}{args:Args}
  (hr:Room (k+1) A) (e0:Env0 P w K mg base A outer s H) (hf:s.heap.get? f=some (lamObj params body scope pm c' ctv)) (hc:H c'=some (.cod TabQ)) (S:FnScope N ps scope)
  (hb:BindsTo s (PySem.W.kla_fn "<lambda>" TabQ params body scope [] pm (.ref c') ctv) args (ps.zip us)) (hl:vs.length=ps.length) (r:Vals vs us)
  (hbody:Room k (A.deeper (envOfC TabQ scope s.heap.objs.size f (.ref c')))->∃ t,PE (cxOf CX P w K mg base N TabQ scope f (.ref c') A outer s H E) body t/\t (start N vs) H Q) :
  codeAny (model P w) A (.call (.ref f) args) (CR CX outer P w H s Q E) s:=by
 have lim:s.heap.NoLimit:=e0.mod.nolimit.keeps fun b o e=>(e0.bs b o e).1
 have hcr:s.heap.CodeRec (.ref c') TabQ:=e0.hok c' _ hc
 have hkind:∀ y∈ps.zip us,scope.names.lookup y.1=some .local\/(scope.names.lookup y.1=some .cell/\((cellsFrom (s.heap.objs.size+1) scope.names []).lookup y.1).isSome=true):=fun⟨n,v⟩ hy=>by
  rcases S.par n (List.of_mem_zip hy).1 with q | q
  ·exact .inl q
  ·exact .inr ⟨q,PySem.W.cellsFrom_some _ _ _ (.inl q)⟩
 refine PySem.W.kla_callFunE hr.depth hf rfl S.co S.gen rfl hcr (hb _ _ _ _ ?_);refine wpAny_newFunctionEnv_cells S.kind hkind fun env he s1 x=>?_
 subst he;refine⟨lim.keeps x.toInCall.keep,PySem.W.kla_codeExpr ?_⟩;obtain⟨t,ht,hq⟩:=hbody (hr.deeper _);have I:Inv (cxOf CX P w K mg base N TabQ scope f (.ref c') A outer s H E) [] (start N vs) H s1:=inv_start S hr.hd e0 hl r x;refine wpAny_mono (ht [] s1 (start N vs) H _ I hq) (fun u s' hs=>?_) fun e s' hs=>hs
 obtain⟨v,H',J,rv,q⟩:=hs;exact⟨v,H',J.os,J.bare,J.base,J.hok,rv,q⟩
end L2
set_option maxRecDepth 100000
namespace L2
open PySem PySem.Spec PyProof.Rows
section
variable {X:Cx}{ps qs:List (Addr×Obj)}{σ:St}{H:Hp}{s:Shared}
theorem Inv.sub (I:Inv X ps σ H s) (h:∀ q∈qs,q∈ps):Inv X qs σ H s :=
 I.pins_of fun q hq=>I.pin q (List.mem_append.mpr (.inr (h q hq)))
theorem Inv.obj (I:Inv X ps σ H s) {a:Addr}{o:Obj} (h:(a,o)∈ps):s.heap.get? a=some o:=(I.pin (a,o) (List.mem_append.mpr (.inr h))).1
structure Young (X:Cx) (ps:List (Addr×Obj)) (a:Addr):Prop where
 age:X.s₀.heap.objs.size<=a
 one:∀ p,p∈X.pn\/p∈ps->p.1≠a
theorem Young.fresh (I:Inv X ps σ H s) {a:Addr} (h:s.heap.objs.size<=a):Young X ps a :=
 ⟨Nat.le_trans I.sz h,fun p hp e=>by
  have:=Heap.lt_size (I.pin p (List.mem_append.mpr hp)).1;rw[e] at this;exact absurd this (Nat.not_lt.mpr h)⟩
theorem Young.more {a b:Addr}{o:Obj} (y:Young X ps a) (h:b≠a):Young X ((b,o)::ps) a :=
 ⟨y.age,fun p hp=>by
  rcases hp with h1 | h1
  ·exact y.one p (.inl h1)
  ·cases h1 with
   |head=>exact h
   |tail _ h2=>exact y.one p (.inr h2)⟩
theorem Inv.became {a:Addr}{o u:Obj}{g:Heap}{n:Nat} (I:Inv X ((a,o)::ps) σ H s) (y:Young X ps a) (k:∀ b v,b≠a->s.heap.get? b=some v->g.get? b=some v) (e:g.get? a=some u) (d:∀ v,u.data≠.cell v) :
  Inv X ((a,u)::ps) σ H {s with heap:=g,toks:=n}:=by
 have P:=I.pin (a,o) (List.mem_append.mpr (.inr (.head _)))
 have C:∀ x c,X.env.cells.lookup x=some c->c≠a:=fun x c q z=>by
  obtain⟨v,w,h1,h2⟩:=I.cell x c q;have h3:w=o:=by rw[z,P.1] at h1;exact (Option.some.inj h1).symm
  exact P.2.2.2.2 v (by rw[<- h3];exact h2)
 have J:Inv X ps σ H {s with heap:=g,toks:=n}:=(I.sub fun q h=>.tail _ h).turned k P.2.1 P.2.2.1 (.inr y.age) C fun p hp=>y.one p (List.mem_append.mp hp)
 refine J.pins_of fun q hq=>?_
 cases hq with
 |head=>exact⟨e,P.2.1,P.2.2.1,P.2.2.2.1,d⟩
 |tail _ h=>exact J.pin q (List.mem_append.mpr (.inr h))
theorem Inv.pinNew {a:Addr}{o:Obj} (I:Inv X ps σ H s) (h0:H a=none) (e:s.heap.get? a=some o) (d:∀ v,o.data≠.cell v) (l:a≠X.env.locals) (f:a∉X.fs):Inv X ((a,o)::ps) σ H s :=
 I.pins_of fun q hq=>by
  cases hq with
  |head=>exact⟨e,h0,l,f,d⟩
  |tail _ h=>exact I.pin q (List.mem_append.mpr (.inr h))
end
noncomputable abbrev itObj (l:Addr) (j:Nat) (o:Obj):Prop:=o.cls=.type "list_iterator" ∧ o.data=.fields #[.ref l,.int j 0]
theorem strs_get:∀ {ns:List Str}{vs:List Value}{j:Nat}{n:Str},Vals (ns.map V.str) vs->ns[j]?=some n->∃ t,vs[j]?=some (.str n t)
 |[],_,_,_,_,e=>by simp at e
 |m::ns,_,j,n,.cons h r,e=>by
  cases j with
  |zero =>
   have e:m=n:=by simpa using e
   subst e;obtain⟨t,rfl⟩:=h;exact⟨t,rfl⟩
  |succ j =>
   obtain⟨t,q⟩:=strs_get (j:=j) (n:=n) r (by simpa using e)
   exact⟨t,by simpa using q⟩
theorem step_strs {X:Cx}{A:Around}{ps:List (Addr×Obj)}{σ:St}{H:Hp}{s:Shared}{It l:Addr}{o:Obj}{j:Nat}{ns:List Str}{Q:Option Value->Shared->Prop}{E:Value->Shared->Prop}
  (hd:A.handled=none) (y:Young X ps It) (I:Inv X ((It,o)::ps) σ H s) (io:itObj l j o) (sq:SqL X.K H l (ns.map V.str))
  (stop:ns[j]?=none->∀ s',Inv X ps σ H s'->Q none s')
  (go:∀ n t o' s',ns[j]?=some n->itObj l (j+1) o'->Inv X ((It,o')::ps) σ H s'->Q (some (.str n t)) s'):wpAny (model X.prog X.w) A (pyNext (.ref It)) Q E s:=by
 obtain⟨vs,rv,pl,_⟩:=I.list sq;have at0:s.heap.IsListIter It l j:=⟨o,I.obj (.head _),io.1,io.2⟩;have len:vs.length=ns.length:=by rw[<- rv.length,List.length_map]
 cases q:ns[j]? with
 |none =>
  have q':vs.toArray[j]?=none:=by
   rw[List.getElem?_toArray,List.getElem?_eq_none_iff,len];exact List.getElem?_eq_none_iff.mp q
  refine wpAny_pyNext_list_end hd at0 pl.isList q' fun g x=>stop q _ ?_
  have P:=I.pin (It,o) (List.mem_append.mpr (.inr (.head _)))
  exact (I.sub fun r h=>.tail _ h).turned (t':=s.toks) x P.2.1 P.2.2.1 (.inr y.age) (fun a c e z=>by
   obtain⟨v,w,h1,h2⟩:=I.cell a c e;rw[z,P.1] at h1;exact P.2.2.2.2 v (by rw[Option.some.inj h1];exact h2)) fun p hp=>y.one p (List.mem_append.mp hp)
 |some n =>
  obtain⟨t,ht⟩:=strs_get rv q;refine wpAny_pyNext_list_item at0 pl.isList (x:=.str n t) (by rw[List.getElem?_toArray];exact ht) fun g st x=>?_
  obtain⟨o',e',c',d'⟩:=st;exact go n t o' _ q ⟨c',d'⟩ (I.became (n:=s.toks) y (fun b v hb e=>(x.2 b hb).trans e) e' fun v=>by rw[d'];nofun)
theorem put_row {X:Cx}{M:Model}{A:Around}{ps:List (Addr×Obj)}{σ:St}{H:Hp}{s:Shared}{S:Addr}{xs ys:Array Value}{c:Nat}{Q:Unit->Shared->Prop}{E:Value->Shared->Prop} (hx:xs.size<=2) (hy:ys.size<=2)
  (y:Young X ps S) (I:Inv X ((S,seqObj "list" xs c)::ps) σ H s) (h:∀ c' s',Inv X ((S,seqObj "list" ys c')::ps) σ H s' → Q () s'):wpAny M A (updateSeq S fun _=>ys) Q E s:=by
 have e:=I.obj (.head _);have sb:=Heap.SameBut.update s.heap S (Obj.mapSeq fun _=>ys)
 have big:2<=sizeLine:=by decide
 exact wpAny_updateSeq e rfl (h _ _ (I.became (n:=s.toks) y (fun b v hb q=>(sb.2 b hb).trans q) (get?_update_seq e fun _=>ys) fun v=>by nofun)) (Nat.le_trans hx big) (Nat.le_trans hy (Nat.le_succ_of_le big))
noncomputable def kLt (a b:Int×Str):Bool:=Fx.lexF [.int a.1,.str a.2] [.int b.1,.str b.2]
theorem flats2 {i:Int}{x:Str}{us:List Value} (r:Vals [.int i,.str x] us):Fx.Flats [.int i,.str x] us:=by
 cases r with
 |cons h1 r =>
  cases r with
  |cons h2 r =>
   cases r;obtain⟨t,rfl⟩:=h1;obtain⟨t2,rfl⟩:=h2;exact .cons ⟨t,rfl⟩ (.cons ⟨t2,rfl⟩ .nil)
theorem less_keys {X:Cx}{A:Around}{ps:List (Addr×Obj)}{σ:St}{H:Hp}{s:Shared}{a b:Addr}{k m:Int×Str}{Q:Value->Shared->Prop}{E:Value->Shared->Prop} (hu:A.units<cLine) (I:Inv X ps σ H s)
  (ha:SqT X.K H a [.int k.1,.str k.2]) (hb:SqT X.K H b [.int m.1,.str m.2]) (h:Q (.bool (kLt k m)) s):wpAny (model X.prog X.w) A (richCompare .Lt (.ref a) (.ref b)) Q E s:=by
 obtain⟨us,r1,t1,_⟩:=I.tuple ha;obtain⟨ws,r2,t2,_⟩:=I.tuple hb;exact Fx.lt_tupFlat t1 t2 (by simpa using flats2 r1) (by simpa using flats2 r2) rfl hu h
end L2
set_option maxRecDepth 100000
namespace L2
open PySem PySem.Spec PyProof.Rows
noncomputable def leastK (g:Str->Int×Str):Option Str->List Str->Option Str
 |o,[]=>o
 |none,n::r=>leastK g (some n) r
 |some b,n::r=>leastK g (some (if kLt (g n) (g b)=true then n else b)) r
noncomputable def KeyOk (X:Cx) (A:Around) (σ:St) (f c':Addr) (fo:Obj) (g:Str->Int×Str) (P:Str->Prop):Prop :=
 ∀ (ps:List (Addr×Obj)) (H:Hp) (s:Shared) (n:Str) (t:Tok),P n->Inv X ps σ H s->(f,fo)∈ps->H c'=some (.cod TabQ) ->
  wpAny (model X.prog X.w) A (call (.ref f) [.str n t]) (fun u s'=>∃ ka H',u=.ref ka/\Inv X ps σ H' s'/\Same H H'/\SqT X.K H' ka [.int (g n).1,.str (g n).2]) (fun _ _=>False) s
inductive Holds4 (K:PySem.W.Frag) (g:Str->Int×Str) (H:Hp):Option Str->Array Value->Prop
 |no:Holds4 K g H none #[]
 |yes (b:Str) (t:Tok) (k:Addr) (h:SqT K H k [.int (g b).1,.str (g b).2]):Holds4 K g H (some b) #[.str b t,.ref k]
theorem Holds4.size {K:PySem.W.Frag}{g:Str->Int×Str}{H:Hp}{o:Option Str}{xs:Array Value} (h:Holds4 K g H o xs):xs.size<=2:=by
 cases h with
 |no=>exact Nat.zero_le _
 |yes=>exact Nat.le_refl _
theorem Holds4.same {K:PySem.W.Frag}{g:Str->Int×Str}{H H':Hp}{o:Option Str}{xs:Array Value} (h:Holds4 K g H o xs) (e:Same H H'):Holds4 K g H' o xs:=by
 cases h with
 |no=>exact .no
 |yes b t k q=>exact .yes b t k (Fx.Same.seqT e q)
noncomputable def outK:Option Str->Value->Prop
 |none,v=>v=.none
 |some b,v=>∃ t,v=.str b t
section
variable {X:Cx}{A:Around}{σ:St}{ps:List (Addr×Obj)}{f c' l S It:Addr}{fo:Obj}{g:Str->Int×Str}{ns:List Str}{P:Str->Prop}
theorem least_loop (hd:A.handled=none) (hu:A.in1.units<cLine) (fm:(f,fo)∈ps) (yS:Young X ps S) (yI:Young X ps It) (ne:S≠It) (key:KeyOk X A.in1 σ f c' fo g P) (hP:∀ n∈ns,P n) (R:Result->Shared->Prop) :
  ∀ (r:List Str) (j:Nat) (o:Option Str) (xs:Array Value) (c:Nat) (oi:Obj) (H:Hp) (s:Shared),ns.drop j=r → Inv X ((It,oi)::(S,seqObj "list" xs c)::ps) σ H s → itObj l j oi → SqL X.K H l (ns.map V.str) → H c'=some (.cod TabQ) → Holds4 X.K g H o xs →
   (∀ H' s' v,Inv X ps σ H' s'->Same H H'->outK (leastK g o r) v->R (.ok (.ret v)) s') ->
   codeAny (model X.prog X.w) A (.builtin "min.loop" ⟨[.ref It,.ref f,.ref S],[(Str.ofString "default",.none)]⟩) R s:=by
 have nm:(toString "min"++toString ".loop":String)="min.loop":=by decide
 intro r
 induction r with
 |nil =>
  intro j o xs c oi H s dr I io sq hc hh out;have none_j:ns[j]?=none:=List.getElem?_eq_none_iff.mpr (List.drop_eq_nil_iff.mp dr)
  apply codeAny_builtin PySem.F.entry_min_loop
  rw[show A.under (.builtin "min.loop" ⟨[.ref It,.ref f,.ref S],[(Str.ofString "default",.none)]⟩)=A.in1 from Around.under_plainId PySem.F.plain_min_loop _]
  change wpAny (model X.prog X.w) A.in1 (seqItems? (.ref S) >>= _) _ _ s
  apply wpAny_bind
  apply wpAny_seqItems (I.obj (.tail _ (.head _))) rfl
  change wpAny (model X.prog X.w) A.in1 (tryCatch (pyNext (.ref It)) _ >>= _) _ _ s
  apply wpAny_bind
  apply wpAny_tryCatch
  refine step_strs (A:=A.in1) hd (yI.more ne) I io sq (fun _ s1 I1=>?_) fun n _ _ _ e=>by rw[none_j] at e;cases e
  cases hh with
  |no=>exact wpAny_bind (wpAny_rule (wpAny_pure (out H s1 .none (I1.sub fun q h=>.tail _ h) (Same.refl _) rfl)))
  |yes b t k q =>
   apply wpAny_bind
   refine put_row (xs:=#[.str b t,.ref k]) (ys:=#[]) (Nat.le_refl _) (Nat.zero_le _) yS I1 fun _ s2 I2=>?_
   exact wpAny_bind (wpAny_letGo (wpAny_pure (out H s2 (.str b t) (I2.sub fun q h=>.tail _ h) (Same.refl _) ⟨t,rfl⟩)))
 |cons n r ih =>
  intro j o xs c oi H s dr I io sq hc hh out
  have lt:j<ns.length:=by
   cases Nat.lt_or_ge j ns.length with
   |inl h=>exact h
   |inr h=>rw[List.drop_eq_nil_iff.mpr h] at dr;cases dr
  have two:ns[j]?=some n/\ns.drop (j+1)=r:=by
   rw[List.drop_eq_getElem_cons lt] at dr;injection dr with h1 h2
   exact⟨by rw[List.getElem?_eq_getElem lt,h1],h2⟩
  apply codeAny_builtin PySem.F.entry_min_loop
  rw[show A.under (.builtin "min.loop" ⟨[.ref It,.ref f,.ref S],[(Str.ofString "default",.none)]⟩)=A.in1 from Around.under_plainId PySem.F.plain_min_loop _]
  change wpAny (model X.prog X.w) A.in1 (seqItems? (.ref S) >>= _) _ _ s
  apply wpAny_bind
  apply wpAny_seqItems (I.obj (.tail _ (.head _))) rfl
  change wpAny (model X.prog X.w) A.in1 (tryCatch (pyNext (.ref It)) _ >>= _) _ _ s
  apply wpAny_bind
  apply wpAny_tryCatch
  refine step_strs (A:=A.in1) hd (yI.more ne) I io sq (fun e=>by rw[two.1] at e;cases e) fun m t oj s1 e ioj I1=>?_
  have mn:n=m:=Option.some.inj (two.1.symm.trans e);subst mn
  change wpAny (model X.prog X.w) A.in1 (tryCatch (holding [.str n t] (call (.ref f) [.str n t])) _ >>= _) _ _ s1
  apply wpAny_bind
  apply wpAny_tryCatch
  apply wpAny_holding
  refine wpAny_mono (key _ H s1 n t (hP n (List.mem_of_getElem? two.1)) I1 (.tail _ (.tail _ fm)) hc) (fun u s2 w=>?_) fun _ _ z=>z.elim
  obtain⟨ka,H2,rfl,I2,sm,kq⟩:=w
  have I3:Inv X ((S,seqObj "list" xs c)::(It,oj)::ps) σ H2 s2:=I2.sub fun q h=>by
   cases h with
   |head=>exact .tail _ (.head _)
   |tail _ h=>cases h with
    |head=>exact .head _
    |tail _ h=>exact .tail _ (.tail _ h)
  have again:∀ (o':Option Str) (ys:Array Value) (c2:Nat) (s3:Shared),Inv X ((S,seqObj "list" ys c2)::(It,oj)::ps) σ H2 s3 → Holds4 X.K g H2 o' ys → leastK g o (n::r)=leastK g o' r →
    codeAny (model X.prog X.w) A (.builtin "min.loop" ⟨[.ref It,.ref f,.ref S],[(Str.ofString "default",.none)]⟩) R s3:=fun o' ys c2 s3 I4 h4 same =>
   ih (j+1) o' ys c2 oj H2 s3 two.2 (I4.sub fun q h=>by
    cases h with
    |head=>exact .tail _ (.head _)
    |tail _ h=>cases h with
     |head=>exact .head _
     |tail _ h=>exact .tail _ (.tail _ h)) ioj (sm.seq sq) (sm _ _ hc) h4 fun H' s' v J sm2 ov=>out H' s' v J (sm.trans sm2) (by rw[same];exact ov)
  have quiet:(Code.builtin "min.loop" ⟨[.ref It,.ref f,.ref S],[(Str.ofString "default",.none)]⟩).quiet=true:=plainId_quiet PySem.F.plain_min_loop _;cases hh with
  |no =>
   apply wpAny_bind
   refine put_row (xs:=#[]) (ys:=#[.str n t,.ref ka]) (Nat.zero_le _) (Nat.le_refl _) (yS.more (Ne.symm ne)) I3 fun c2 s3 I4=>?_
   rw[nm];exact wpAny_pure ⟨quiet,again (some n) _ c2 s3 I4 (.yes n t ka kq) rfl⟩
  |yes b tb kb hb =>
   change wpAny (model X.prog X.w) A.in1 (tryCatch (holding [.str n t,.ref ka] (richCompare .Lt (.ref ka) (.ref kb) >>= _)) _ >>= _) _ _ s2
   apply wpAny_bind
   apply wpAny_tryCatch
   apply wpAny_holding
   apply wpAny_bind
   refine less_keys hu I2 kq (Fx.Same.seqT sm hb) ?_
   apply wpAny_bind
   apply wpAny_holding
   apply wpAny_truthy_bool
   apply wpAny_bind
   apply wpAny_letGo
   apply wpAny_pure
   cases less:kLt (g n) (g b) with
   |true =>
    rw[if_pos rfl]
    apply wpAny_bind
    refine put_row (xs:=#[.str b tb,.ref kb]) (ys:=#[.str n t,.ref ka]) (Nat.le_refl _) (Nat.le_refl _) (yS.more (Ne.symm ne)) I3 fun c2 s3 I4=>?_
    rw[nm];exact wpAny_bind (wpAny_letGo (wpAny_pure ⟨quiet,again (some n) _ c2 s3 I4 (.yes n t ka kq) (by rw[leastK,less,if_pos rfl])⟩))
   |false =>
    rw[if_neg Bool.false_ne_true,nm];exact wpAny_bind (wpAny_letGo (wpAny_pure ⟨quiet,again (some b) _ c s2 I3 (.yes b tb kb (Fx.Same.seqT sm hb)) (by rw[leastK,less,if_neg Bool.false_ne_true])⟩))
theorem min_args (a v u:Value):argsOk "min" ⟨[a],[(Str.ofString "key",v),(Str.ofString "default",u)]⟩:=by
 unfold argsOk
 kernel_rfl
theorem min_call {H:Hp}{s:Shared}{Q:Value->Shared->Prop}{E:Value->Shared->Prop} (hd:A.handled=none) (hu:A.in1.units<cLine) (fm:(f,fo)∈ps) (I:Inv X ps σ H s) (sq:SqL X.K H l (ns.map V.str)) (hc:H c'=some (.cod TabQ)) (key:KeyOk X A.in1 σ f c' fo g P) (hP:∀ n∈ns,P n)
  (out:∀ H' s' v,Inv X ps σ H' s'->Same H H'->outK (leastK g none ns) v->Q v s') :
  wpAny (model X.prog X.w) A (call (.builtin "min") [.ref l] [(Str.ofString "key",.ref f),(Str.ofString "default",.none)]) Q E s:=by
 have nm:(toString "min"++toString ".loop":String)="min.loop":=by decide
 obtain⟨vs,_,pl,_⟩:=I.list sq
 let oi:Obj:={cls:=.type "list_iterator",data:=.fields #[.ref l,.int 0 0]}
 let h1:=s.heap.push oi
 let h2:=h1.push (seqObj "list" #[] 0)
 have up:∀ b u,s.heap.get? b=some u->h2.get? b=some u:=fun b u e=>Heap.get?_push_of_some _ (Heap.get?_push_of_some _ e)
 have n1:h1.objs.size=s.heap.objs.size+1:=size_push' ..;have le:s.heap.objs.size<=h1.objs.size:=by rw[n1];exact Nat.le_succ _
 have I0:Inv X ps σ H {s with heap:=h2}:=I.kept (t':=s.toks) up
 have put:∀ {qs:List (Addr×Obj)}{a:Addr}{o:Obj},Inv X qs σ H {s with heap:=h2}->s.heap.objs.size<=a->h2.get? a=some o->(∀ v,o.data≠.cell v)->Inv X ((a,o)::qs) σ H {s with heap:=h2}:=fun J h e d =>
  J.pinNew (I.hok.fresh h) e d (Nat.ne_of_gt (Nat.lt_of_lt_of_le I.lt h)) (I.nofs h)
 have I1:=put (put I0 (a:=h1.objs.size) (o:=seqObj "list" #[] 0) le (Heap.get?_push_size _ rfl) (fun v=>by nofun)) (a:=s.heap.objs.size) (o:=oi) (Nat.le_refl _) (Heap.get?_push_of_some _ (Heap.get?_push_size _ rfl)) fun v=>by nofun
 apply kmk_tree PySem.F.kind_min PySem.F.plain_min PySem.F.entry_min (min_args _ _ _)
 change wpAny (model X.prog X.w) A.in1 (Builtin.Builtins.bindParams "min" ["key","default"] 0 ⟨[],[(Str.ofString "key",.ref f),(Str.ofString "default",.none)]⟩ >>= _) _ _ s
 apply wpAny_bind
 rw[show Builtin.Builtins.bindParams "min" ["key","default"] 0 ⟨[],[(Str.ofString "key",.ref f),(Str.ofString "default",.none)]⟩=pure [some (.ref f),some .none] from rfl]
 apply wpAny_pure
 apply wpAny_bind
 apply wpAny_pure
 apply wpAny_bind
 apply wpAny_pyIter_list pl.isList
 apply wpAny_bind
 refine wpAny_newList (items:=[]) ?_ (Nat.zero_le sizeLine);rw[nm]
 apply wpAny_pure
 exact⟨plainId_quiet PySem.F.plain_min_loop _,least_loop (ns:=ns) hd hu fm (Young.fresh I le) (Young.fresh I (Nat.le_refl _)) (by rw[n1];exact Nat.succ_ne_self _) key hP _ ns 0 none #[] 0 oi H _ rfl I1 ⟨rfl,rfl⟩ sq hc .no fun H' s' v J sm ov=>out H' s' v J sm ov⟩
end
end L2
set_option maxRecDepth 100000
set_option maxHeartbeats 4000000
namespace Fx
open PySem PySem.Spec PyProof.Rows L2
noncomputable def gLen (n:Str):Int×Str:=(n.length,n)
theorem least_len:∀ (l:List Str) (b:Str),leastK gLen (some b) l=some (sBest b l)
 |[],b=>rfl
 |n::r,b=>by
  rw[leastK,least_len r];rfl
theorem least_is (l:List Str) {v:Value} (h:outK (leastK gLen none l) v):∃ x:V,RelV x v/\∀ (K:PySem.W.Frag) (H:Hp),Rep K H (sMin l) x:=by
 cases l with
 |nil=>exact⟨.non,h,fun K H=>by unfold sMin Rep;rfl⟩
 |cons n r =>
  rw[leastK,least_len] at h;exact⟨.str (sBest n r),h,fun K H=>by unfold sMin;exact rep_str H _⟩
noncomputable abbrev fLen:FE:=eTup (aC (eF bLen2 (aC (eV 0) aN)) (aC (eV 0) aN))
theorem key_len {X:Cx}{σ:L2.St}{params:Arguments}{body:Expr}{scope:Scope}{f c':Addr}{pm ctv:Value} (hr:Room 2 X.A) (S:FnScope ["name"] ["name"] scope)
  (hb:∀ (u pm c ctv:Value),bindArgs (PySem.W.kla_fn "<lambda>" TabQ params body scope [] pm c ctv) ⟨[u],[]⟩=pure [(Str.ofString "name",u)])
  (hbody:∀ (f:Addr) (c:Value) (A:Around) (outer:List Env) (s:Shared) (H:Hp) (E:XK),XE (cxOf CX0 X.prog X.w X.K X.mg X.base ["name"] TabQ scope f c A outer s H E) body fLen) :
  KeyOk X X.A.in1 σ f c' (lamObj params body scope pm c' ctv) gLen (fun n=>n.length<=1000):=by
 intro pins H s n t hn I hm hc;have hn2:n.length<=sizeLine:=Nat.le_trans hn (by decide)
 have hf:=(I.pin _ (List.mem_append_right _ hm)).1;have hF:fLen [.im (.str n)]=some (.tup [.int n.length,.str n],[.im (.str n)]):=by simp[fLen,hn2]
 refine wpAny_call (codeAny_mono (run_lam (CX:=CX0) (k:=0) (N:=["name"]) (ps:=["name"]) (us:=[.str n t]) (vs:=[.str n]) (Q:=fun v H'=>∃ ka,v=.ref ka ∧ Same H H' ∧ SqT X.K H' ka [.int (gLen n).1,.str (gLen n).2]) (E:=E0) hr.in1 I.env0.in1 hf hc S (.of_eq (hb _ _ _ _)) rfl (.cons ⟨t,rfl⟩ .nil)
  fun _=>⟨_,hbody f (.ref c') X.A.in1 X.stack s H E0,⟨fun _=>none,H,[]⟩,fun _=>none,[.im (.str n)],_,_,RS.start (ds:=[.str n]) (vs:=[.str n]) (m:=0) (n:=1) (fun b o e=>nomatch e) (Reps.one (rep_str _ _)) rfl,hF,fun v H0' H' sm R rv=>?_⟩) fun r s' h=>?_)
 ·unfold Rep at rv
  obtain⟨ka,vs,rfl,sq,rr⟩:=rv;obtain⟨x1,x2,rfl,y1,y2⟩:=Reps.v2 rr;unfold Rep at y1 y2;subst y1 y2;exact⟨ka,rfl,fun b o e=>R.keep b o e (by simp),Same.seqT R.same sq⟩
 ·cases r with
  |error e=>exact False.elim h
  |ok fl =>
   cases fl with
   |ret u =>
    obtain⟨v,H',I',rv,ka,rfl,sm,sq⟩:=I.after h;exact⟨ka,H',rv,I',sm,sq⟩
   |next=>exact False.elim h
   |brk=>exact False.elim h
   |cont=>exact False.elim h
theorem xminS {X:Cx}{e:Expr}{A:FA}{params:Arguments}{lb:Expr}{scope:Scope}{lpos kp1 kp2 p pos cp:Pos}{j} (hr:Room 2 X.A) (hcd:∃ c,X.env.code=.ref c ∧ PySem.W.codeHdIn X.K c TabP=true) (S:FnScope ["name"] ["name"] scope)
  (hb:∀ (u pm c ctv:Value),bindArgs (PySem.W.kla_fn "<lambda>" TabQ params lb scope [] pm c ctv) ⟨[u],[]⟩=pure [(Str.ofString "name",u)])
  (hbody:∀ (f:Addr) (c:Value) (A:Around) (outer:List Env) (s:Shared) (H:Hp) (E:XK),XE (cxOf CX0 X.prog X.w X.K X.mg X.base ["name"] TabQ scope f c A outer s H E) lb fLen)
  (hm:X.mg "min"=none) (ha:XA X [e] A) (hq:X.env.qual++"<lambda>"=TabQ:=by rfl) (hcl:closureFor scope X.env=pure []:=by rfl) (hdef:defaultsOf params X.env=([],[]):=by rfl) (hg:Gl X "min":=by rfl)
  (he:backTo pos (starEach [e] X.env)=(false,eval e X.env)::backTo pos (starEach [] X.env):=by rfl) (hpl:(backTo pos (starEach [e] X.env)).any (·.1)=false:=by rfl) :
  XE X (.Call (.Name "min" p) [e] [⟨some "key",.Lambda params lb scope lpos,kp1⟩,⟨some "default",.Constant .none j cp,kp2⟩] pos) (eF bMinS A):=by
 intro pins s σ H Q I hQ;obtain⟨c,H0,ρ,d,ρ',R,z,q⟩:=hQ;unfold eF at z;obtain⟨⟨ds,ρ1⟩,h1,z⟩:=bnd_eq z;obtain⟨d',h2,z⟩:=bnd_eq z;have z':some (d',ρ1)=some (d,ρ'):=z;cases z';obtain⟨cc,hc1,hc2⟩:=hcd;refine wpAny_Call_Name_kw (ld_blt I hg hm (u:=.builtin "min") PyProof.Rows.boot_min ?_);refine callWith_kw (thn (ha pos pins s σ H (fun vs H'=>∃ H0',Same H0 H0'/\RS X.K c H0' H' ρ' σ/\Reps X.K H0' ds vs) I ⟨c,H0,ρ,ds,_,R,h1,fun vs H0' H' sm R1 r1=>⟨H0',sm,R1,r1⟩⟩) fun us s1 ⟨vs,Hh,I1,rv,H1,sm1,R1,r1⟩=>?_) he hpl
 refine kws_cons (PySem.W.kla_eval hdef ?_);rw[hq];refine mk_lam I1 hc1 (PySem.W.codeHd_of_K I1.ok.mod.kin hc2) hcl fun f c' H2 s2 pm ctv I2 sm2 hc' hf0=>?_
 refine kws_cons (thn (pe_non _ s2 σ H2 (fun v H3=>v=.non/\H3=H2) I2 ⟨rfl,rfl⟩) fun u s3 ⟨v3,H3,I3,rv3,e3,e4⟩=>?_)
 subst e3 e4;obtain rfl:u=Value.none:=rv3;refine kws_nil ?_
 have hl:∃ (l:Addr) (is:List Str),us=[.ref l]/\SqL X.K Hh l (is.map V.str)/\d=sMin is/\∀ n∈is,n.length<=1000:=by
  have h2':bMinS ds=some d:=h2;unfold bMinS at h2'
  split at h2'
  ·rename_i xs
   obtain⟨is,e5,e6⟩:=bnd_eq h2';obtain⟨al,rfl⟩:=ifs e6;cases strs_inv e5;obtain⟨v,rfl,r2⟩:=Reps.v1 r1;unfold Rep at r2;obtain⟨l,vs2,rfl,sq,r4⟩:=r2;rw[reps_strs_inv r4] at sq;obtain⟨u,rfl,ru⟩:=vals1 rv;exact⟨l,is,by cases ru;rfl,R1.same.seq sq,rfl,fun n hn=>by simpa using List.all_eq_true.mp al n hn⟩
  ·cases h2'
 obtain⟨l,is,rfl,sq,rfl,small⟩:=hl;have fin:∀ {v:V}{u:Value}{H4:Hp}{s4:Shared},Inv X ((f,lamObj params lb scope pm c' ctv)::pins) σ H4 s4->Same H3 H4->RelV v u->Rep X.K H1 (sMin is) v->EP X pins σ Q u s4:=fun {v u H4 s4} I4 sm4 ru rp =>
  ⟨v,H4,I4.sub fun q h=>.tail _ h,ru,q v H1 H4 sm1 (R1.after ⟨Same.refl _,sm2.trans sm4,R1.same.trans (sm2.trans sm4),fun b o e=>.inl e⟩) rp⟩
 refine min_call (X:=X) (A:=X.A) (ns:=is) (g:=gLen) hr.hd ?_ (.head _) I3 (sm2.seq sq) hc' (key_len hr S hb hbody) small fun H4 s4 v I4 sm4 ov=>?_
 ·have:=hr.units;show X.A.units+1<cLine;omega
 ·obtain⟨x,rx,px⟩:=least_is is ov
  exact fin (v:=x) I4 sm4 rx (px X.K H1)
theorem fn_okc {P:Program}{w:World}{K:PySem.W.Frag}{mg:Str->Option Value}{base:Heap}{x qual:Str}{st:Stmt}{f:Addr}{fd:FuncData}{N ps:List Str}{k n m:Nat}{B:FS} (F:Fun K x qual st f fd) (S:FnScope N ps (defScope st)) (hn:ps.length=n) (hN:N.length=n+m)
  (hb:∀ (cdv:Value) (A:Around) (outer:List Env) (s:Shared) (H:Hp) (E:XK),fd.code=cdv->Room k (A.deeper (envOfC qual (defScope st) s.heap.objs.size f cdv))->XSs (cxOf CX0 P w K mg base N qual (defScope st) f cdv A outer s H E).nox (defBody st) B) :
  FnOk P w K mg base CX0 (k+1) f fd ps (spP K (fnD n m B)):=by
 obtain⟨oc,od,kV,doc,pm,an,cdv,ct,osl,rfl,lk,hcd⟩:=F.ex;have F':Fun K x qual st f (PySem.W.fnOf x qual (defArgs st) (defBody st) (defScope st) .none kV doc pm an cdv ct):=F
 have inv:∀ {ds:List D}{d:D},fnD n m B ds=some d->ds.length=n/\∃ r,B (ds.map .im++List.replicate m .no)=some r/\retR r=some d:=fun {ds d} h=>by
  unfold fnD at h
  split at h
  ·rename_i hl
   obtain⟨r,h1,h2⟩:=bnd_eq h;exact⟨hl,r,h1,h2⟩
  ·cases h
 refine fn_of lk hcd S (fun vs H Q E h=>?_) fun A outer s H vs Q E hr h=>?_
 ·obtain⟨Hi,ds,d,_,r,e,_⟩:=h
  rw[hn,<- r.length];exact (inv e).1
 ·obtain⟨Hi,ds,d,hs,r,e,q⟩:=h
  obtain⟨hl,res,h1,h2⟩:=inv e;refine⟨_,PSs.nox (hb cdv A outer s H E rfl hr),⟨Hi,H,[]⟩,Hi,_,res,RS.start (n:=N.length) (m:=m) hs r (by rw[<- r.length];omega),h1,?_⟩
  cases res with
  |nx ρ' =>
   have e':D.non=d:=Option.some.inj h2;subst e';exact fun σ' H0' H' s0 R=>q .non H0' H' R.step (by unfold Rep;rfl)
  |rt d' ρ' =>
   have e':d'=d:=Option.some.inj h2;subst e';exact fun v σ' H0' H' s0 R rv=>q v H0' H' R.step rv
  |bk ρ'=>cases h2
  |ct ρ'=>cases h2
end Fx
set_option maxRecDepth 100000
set_option maxHeartbeats 4000000
namespace L2
open PySem PySem.Spec PyProof.Rows
theorem law_call2 {P:Program}{w:World}{K:PySem.W.Frag}{mg mb:Str->Option Value}{CX:CXT}{k:Nat}{fa a cT:Addr}{fd:FuncData}{x:Str}{sp:Sp}{s₁:Shared}{vs:List Value}{ns:List Int}
  (KX:K.In s₁.heap) (hT:s₁.heap.get? TabP=some (PySem.W.tabObj #[])) (hKT:K.lookup TabP=none) (hCT:PySem.W.CodeHd s₁.heap cT TabP) (hns:s₁.heap.Ns mainGlobals mg) (hb:s₁.heap.Ns builtinsNs mb) (hbb:∀ x:Str,x≠"__name__" → mb x=bootBuiltins x) (hlim:s₁.heap.NoLimit) (hg:s₁.gens=#[])
  (hbm:∃ bm ob,mg "__builtins__"=some (.ref bm) ∧ bm≠builtinsNs ∧ s₁.heap.get? bm=some ob ∧ ob.cls=.type "module" ∧ ob.dict=some builtinsNs ∧ ob.data=.plain)
  (ha:s₁.heap.get? a=some {cls:=.type "list",data:=.seq vs.toArray}) (hi:IntsAre vs ns) (hl:ns.length ≤ sizeLine) (hr:Room k callerA)
  (F:∀ base:Heap,K.In base->base.Ns mainGlobals mg->FnOk P w K mg base CX k fa fd [x] sp) (hbind:∀ (s:Shared) (u:Value),BindsTo s fd ⟨[u],[]⟩ [(x,u)])
  (hsp:∀ H:Hp,SqL K H a (ns.map V.int)->sp [.ref a] H (fun v _=>v=.bl true) fun _ _ _=>False)
  (hCX:∀ H e s',CX [] H s₁ (fun _ _ _=>False) e s'->False) :
  codeAny (model P w) callerA (.call (.ref fa) ⟨[.ref a],[]⟩) (fun r s'=>r=.ok (.ret (.bool true))/\OldK s₁.heap s'.heap/\s'.os=s₁.os/\AllBare s'.gens) s₁:=by
 have rv:=vals_ints hi;have lenV:=hi.length;have haT:a≠TabP:=fun e=>by rw[e,hT] at ha;cases ha
 have core:∀ H:Hp,H TabP=some (.tbl TabQ)->(∀ b,b≠TabP->H b=none\/∃ o xs,H b=some (.frz o (.lst xs)))->SqL K H a (ns.map V.int)->HOk P w H s₁.heap->(∀ b,H b≠none->b=a\/b=TabP)->(H a≠none->K.lookup a=none) ->
   codeAny (model P w) callerA (.call (.ref fa) ⟨[.ref a],[]⟩) (fun r s'=>r=.ok (.ret (.bool true))/\OldK s₁.heap s'.heap/\s'.os=s₁.os/\AllBare s'.gens) s₁:=by
  intro H hHT hO hS hok hA hK;have base_of:∀ {b:Addr}{o:Obj},s₁.heap.get? b=some o->H b=none->(hidT s₁.heap H).get? b=some o:=fun e n=>hidT_get e n
  have noT:∀ {b:Addr}{o:Obj},s₁.heap.get? b=some o->(∀ it n,o.data≠.seq it n)->(∀ it,o.data≠.fields it)->H b=none:=fun {b o} e d1 d2=>by
   cases q:H b with
   |none=>rfl
   |some u =>
    rcases hA b (by rw[q];simp) with e' | e'
    ·subst e'
     rw[ha] at e;cases e;exact absurd rfl (d1 _ _)
    ·subst e'
     rw[hT] at e;cases e;exact absurd rfl (d2 _)
  have noA:∀ {b:Addr}{o:Obj}{es:Array DictEntry}{ep:Nat},s₁.heap.get? b=some o->o.data=.dict es ep->H b=none:=fun {b o es ep} e d=>noT e (by rw[d];nofun) (by rw[d];nofun)
  have nsK:∀ {b:Addr}{m:Str->Option Value},s₁.heap.Ns b m->(hidT s₁.heap H).Ns b m:=fun {b m} ⟨o,es,ep,e,d,r⟩=>⟨o,es,ep,base_of e (noA e d),d,r⟩
  have hKb:K.In (hidT s₁.heap H):=fun b o e=>base_of (KX b o e) (by
   cases q:H b with
   |none=>rfl
   |some u =>
    rcases hA b (by rw[q];simp) with e' | e'
    ·subst e'
     rw[hK (by rw[q];simp)] at e;cases e
    ·subst e'
     rw[hKT] at e;cases e)
  obtain⟨bm,ob,b1,b2,b3,b4,b5,b6⟩:=hbm;have hM:Mod K mg (hidT s₁.heap H):=⟨hKb,nsK hns,⟨mb,nsK hb,hbb⟩,(let ⟨mc,h1,h2⟩:=hlim;⟨mc,nsK h1,h2⟩),⟨bm,ob,b1,b2,base_of b3 (noT b3 (by rw[b6];nofun) (by rw[b6];nofun)),b4,b5,b6⟩⟩
  have e0:Env0 P w K mg (hidT s₁.heap H) callerA [] s₁ H:=⟨rfl,hM,fun b o e=>of_hidT e,Nat.le_of_eq (hidT_size _ _),trivial,fun b hb=>absurd (show b∈([]:List Addr) from hb) (by simp),hok,.of_eq hg,hHT⟩
  refine codeAny_mono ((F _ hKb (nsK hns)).run callerA [] s₁ H ⟨[.ref a],[]⟩ [.ref a] [.ref a] _ _ hr e0 (hbind s₁ (.ref a)) (.cons rfl .nil) (hsp H hS)) fun r s' h=>?_
  cases r with
  |error e=>exact (hCX H e s' h).elim
  |ok fl =>
   cases fl with
   |next=>exact False.elim h
   |brk=>exact False.elim h
   |cont=>exact False.elim h
   |ret u =>
    obtain⟨v,H',os,bare,un,hok',r',q⟩:=h;have q':v=.bl true:=q;subst q';obtain rfl:u=Value.bool true:=r';obtain⟨ps,hP,_⟩:=(show ObjOk P w H' s'.heap TabP (.tbl TabQ) from hok' _ _ (un.tbls _ _ hHT))
    have keep:∀ b o,b≠TabP->s₁.heap.get? b=some o->s'.heap.get? b=some o:=fun b o hb e=>by
     cases q:H b with
     |none=>exact un.keep b o e q (by intro z;exact absurd (show b∈([]:List Addr) from z) (by simp)) (by simp)
     |some u =>
      rcases hO b hb with z | ⟨ob,xs,z⟩
      ·rw[q] at z;cases z
      ·have z2:=un.frzs b ob _ z
       obtain⟨e1,_⟩:=hok b _ z;obtain⟨e2,_⟩:=hok' b _ z2;rw[e] at e1;cases e1;exact e2
    refine⟨rfl,⟨fun b o e=>?_,fun b o e=>?_⟩,os,bare⟩
    ·by_cases hb:b=TabP
     ·subst hb
      rw[hT] at e;cases e;exact .inr (.inl ⟨(hCT.tab hT).isCodeTable,rfl,#[],ps,rfl,by rw[Array.empty_append];exact hP⟩)
     ·exact .inl (keep b o hb e)
    ·by_cases hb:b=TabP
     ·subst hb;exact⟨_,hP⟩
     ·exact⟨o,keep b o hb e⟩
 have tOk:∀ H:Hp,ObjOk P w H s₁.heap TabP (.tbl TabQ):=fun H=>⟨#[],hT,trivial,fun pos=>.inl rfl⟩
 cases hk:K.lookup a with
 |some o =>
  have e:=KX a o hk;rw[ha] at e;cases e;refine core (fun b=>if b=TabP then some (.tbl TabQ) else none) (if_pos rfl) (fun b hb=>.inl (if_neg hb)) (.inr ⟨_,vs.toArray,_,hk,rfl,rfl,rfl,by rw[List.size_toArray,lenV];exact hl,by simpa using rv⟩) (fun b u z=>?_) (fun b z=>?_) fun z=>absurd (if_neg haT) z
  ·by_cases hb:b=TabP
   ·have z':=(if_pos hb).symm.trans z
    cases z';subst hb;exact tOk _
   ·have z':=(if_neg hb).symm.trans z
    cases z'
  ·by_cases hb:b=TabP
   ·exact .inr hb
   ·exact absurd (if_neg hb) z
 |none =>
  refine core (fun b=>if b=TabP then some (.tbl TabQ) else if b=a then some (.frz {cls:=.type "list",data:=.seq vs.toArray} (.lst (ns.map V.int))) else none) (if_pos rfl) (fun b hb=>?_) (.inl (.inr ⟨{cls:=.type "list",data:=.seq vs.toArray},(if_neg haT).trans (if_pos rfl)⟩)) (fun b u z=>?_) (fun b z=>?_) fun _=>hk
  ·by_cases hb2:b=a
   ·exact .inr ⟨_,_,(if_neg hb).trans (if_pos hb2)⟩
   ·exact .inl ((if_neg hb).trans (if_neg hb2))
  ·by_cases hbT:b=TabP
   ·have z':=(if_pos hbT).symm.trans z
    cases z';subst hbT;exact tOk _
   ·by_cases hb:b=a
    ·have z':=((if_neg hbT).trans (if_pos hb)).symm.trans z
     cases z';subst hb;exact⟨ha,by rw[List.length_map];exact hl,vs,_,rv,ha⟩
    ·have z':=((if_neg hbT).trans (if_neg hb)).symm.trans z
     cases z'
  ·by_cases hbT:b=TabP
   ·exact .inr hbT
   ·by_cases hb:b=a
    ·exact .inl hb
    ·exact absurd ((if_neg hbT).trans (if_neg hb)) z
theorem walk_of2 {l:PySem.W.OpenLaw}{n k:Nat}{q:Program}{loose:List Str}{XP:(Str->Option Value)->Heap->Prop}{YP:World->Heap->Prop}{d:DefRec}{K:Params->PySem.W.Frag}{CX:World->CXT}{sp:World->Sp}{x:Str}
  (hn:l.most=some n) (hn2:n<=sizeLine) (hdf:d.params.defaults=[]) (hr:Room k callerA)
  (hY:∀ (w:World) (h:Heap),YP w h->(K w.params).In h) (hYT:∀ (w:World) (h:Heap),YP w h->h.get? TabP=some (PySem.W.tabObj #[])) (hKT:∀ w:World,(K w.params).lookup TabP=none) (hC:∀ w:World,∃ c,PySem.W.codeHdIn (K w.params) c TabP=true)
  (F:∀ (w:World) (mg:Str->Option Value) (fa:Addr) (h:Heap),(K w.params).In h->h.Ns mainGlobals mg->mg d.name=some (.ref fa) ->
   ∃ fd:FuncData,(∀ (s:Shared) (u:Value),BindsTo s fd ⟨[u],[]⟩ [(x,u)]) /\
    ∀ base:Heap,(K w.params).In base->base.Ns mainGlobals mg->FnOk l.prog w (K w.params) mg base (CX w) k fa fd [x] (sp w))
  (hsp:∀ (w:World) (H:Hp) (a:Addr) (ns:List Int),ns.length<=n->SqL (K w.params) H a (ns.map V.int)->sp w [.ref a] H (fun v _=>v=.bl true) fun _ _ _=>False)
  (hCX:∀ (w:World) (H:Hp) (s:Shared) (e:Value) (s':Shared),CX w [] H s (fun _ _ _=>False) e s'->False) :
  PySem.W.WalkO q loose XP YP l.row.toRowW d [] (fun f vs=>PySem.call f vs):=by
 refine Att.attach_call hn hdf fun w s₀ s₁ mg mb fa o pm cd doc a vs ns G Y ho hd hcd hmg hobj hints hlen hg=>?_
 have KX:=hY w _ Y;obtain⟨fd,hb,hF⟩:=F w mg fa _ KX G.T.g hmg;obtain⟨c,hc⟩:=hC w;exact law_call2 KX (hYT w _ Y) (hKT w) (PySem.W.codeHd_of_K KX hc) G.T.g G.T.b G.T.builtins G.T.nolimit hg G.T.bmain hobj hints (Nat.le_trans hlen hn2) hr hF hb (fun H hS=>hsp w H a ns hlen hS) fun H e s'=>hCX w H s₁ e s'
end L2
set_option maxRecDepth 100000
namespace Fx
open PySem PySem.Spec
theorem erase_perm {α:Type}:∀ {l:List α}{i:Nat} (h:i<l.length),(l[i]::l.eraseIdx i).Perm l
 |x::r,0,_=>List.Perm.refl _
 |x::r,i+1,h=>by
  have h':i<r.length:=by simpa using h
  show (r[i]::x::r.eraseIdx i).Perm (x::r);exact (List.Perm.swap x r[i] _).trans ((erase_perm h').cons x)
section
variable {M:Model}{A:Around}{E:Value->Shared->Prop}{s:Shared}
theorem wpAny_pick {src:Source}{n:Nat}{Q:Nat->Shared->Prop} (hn:n≠0) (h:∀ i dr,i<n->Q i {s with drawn:=dr}):wpAny M A (choose src n) Q E s:=fun Γ p _=>by
 unfold choose;rw[Sem.wp_choose];exact⟨hn,h _ _ (Nat.mod_lt _ (Nat.pos_of_ne_zero hn))⟩
theorem wpAny_drawOrder {α:Type}:∀ (n:Nat) (xs:List α) (s:Shared) (Q:List α->Shared->Prop),n=xs.length->(∀ ys dr,ys.Perm xs->Q ys {s with drawn:=dr})->wpAny M A (drawOrder n xs) Q E s
 |0,xs,s,Q,e,h=>by
  have:xs=[]:=List.length_eq_zero_iff.mp e.symm;subst this;unfold drawOrder;exact wpAny_pure (h [] s.drawn (List.Perm.refl _))
 |n+1,[],s,Q,e,h=>by cases e
 |n+1,x::r,s,Q,e,h=>by
  unfold drawOrder;refine wpAny_bind (wpAny_pick (by simp) fun i dr hi=>?_)
  have e1:(x::r)[i]?=some ((x::r)[i]):=List.getElem?_eq_getElem hi;rw[e1];refine wpAny_bind (wpAny_drawOrder n ((x::r).eraseIdx i) _ _ ?_ fun ys dr' hp=>wpAny_pure ?_)
  ·rw[List.length_eraseIdx_of_lt hi];omega
  ·refine h _ dr' ?_
   exact (hp.cons _).trans (erase_perm hi)
end
theorem pick_perm {α:Type} (f:Nat->Nat):∀ (n k:Nat) (l:List α) (out:Array α),n=l.length->(pickOrder.go f n k l out).toList.Perm (out.toList++l)
 |0,k,l,out,e=>by
  have:l=[]:=List.length_eq_zero_iff.mp e.symm;subst this;unfold pickOrder.go;rw[List.append_nil]
 |n+1,k,l,out,e=>by
  unfold pickOrder.go;have hl:f k % l.length<l.length:=Nat.mod_lt _ (by omega)
  rw[List.getElem?_eq_getElem hl];refine (pick_perm f n (k+1) _ _ (by rw[List.length_eraseIdx_of_lt hl];omega)).trans ?_
  rw[Array.toList_push,List.append_assoc];exact List.Perm.append_left _ (erase_perm hl)
theorem pickOrder_perm {α:Type} (f:Nat->Nat) (xs:Array α):(pickOrder f xs).toList.Perm xs.toList:=by
 unfold pickOrder;have:=pick_perm f xs.size 0 xs.toList #[] (by simp)
 simpa using this
theorem layNew_marks (t:SetTable) (es:Array (Int×Value)) (h:Int) (x:Value):(layNew t es h x).2.1.led=t.led/\((layNew t es h x).2.1.plain=true->t.plain=true):=by
 have st:∀ (u:SetTable) (n:Nat),(u.standIn n).led=u.led/\(u.standIn n).plain=false:=fun u n=>⟨rfl,rfl⟩
 unfold layNew
 split
 ·rename_i slot wd _
  have pu:(t.put slot).1.led=t.led/\(t.put slot).1.plain=t.plain:=⟨rfl,rfl⟩;dsimp only;unfold SetTable.orStandIn
  split
  ·exact⟨pu.1,fun q=>by rw[<- pu.2];exact q⟩
  ·exact⟨pu.1,fun q=>by cases q⟩
 ·exact⟨rfl,fun q=>by cases q⟩
theorem relayAll_marks (t:SetTable) (es:Array (Int×Value)) (n:Nat):(relayAll t es n).2.1.led=t.led/\((relayAll t es n).2.1.plain=true->t.plain=true):=by
 unfold relayAll
 split
 ·rename_i t' order e
  have m:t'.led=t.led/\t'.plain=t.plain:=by
   unfold SetTable.relaid SetTable.laid at e;cases z:SetTable.layClean (SetTable.sizeAbove n-1) (es.map (·.1)) with
   |none=>rw[z] at e;cases e
   |some ow=>rw[z] at e;cases e;exact⟨rfl,rfl⟩
  dsimp only
  split
  ·exact⟨m.1,fun q=>by rw[<- m.2];exact q⟩
  ·exact⟨rfl,fun q=>by cases q⟩
 ·exact⟨rfl,fun q=>by cases q⟩
noncomputable def SetS (P:Program) (w:World) (bt:Bool) (h:Heap) (a:Addr) (ss:List Str):Prop :=
 ∃ o es ep t,h.get? a=some o/\o.ExactSet/\o.data=.set es ep t/\ElemsOf (PySem.strKind P w) es.toList/\(es.toList.map fun e=>PyProof.Rows.strOf e.2).Perm ss/\ss.Nodup/\es.size<scanBound/\t.fits es.size=true /\
  (t.plain=true->es.size=0)/\(bt=false->t.led=true)
section
variable {P:Program}{w:World}{bt:Bool}{A:Around}{E:Value->Shared->Prop}{s:Shared}{a:Addr}{ss:List Str}
theorem elem_str {es:List (Int×Value)} (h:ElemsOf (PySem.strKind P w) es):∀ e∈es,∃ x t,e.2=.str x t/\e.1=(PySem.strKind P w).hash x:=fun e he=>by
 obtain⟨⟨k,hk,hh⟩,_⟩:=h e he;obtain⟨t,ht⟩:=Value.isStrOf_shape hk;exact⟨k,t,ht,hh⟩
theorem is_str_iff {x:Str}{v:Value}{y:Str}{t:Tok} (e:v=.str y t):(PySem.strKind P w).is x v=decide (x=y):=by
 subst e;have h:(PySem.strKind P w).is y (.str y t)=true:=by show Value.isStrOf y (.str y t)=true;simp[Value.isStrOf]
 exact KeyKind.is_eq_decide h x
theorem wpAny_addS {x:Str}{tk:Tok}{Q:Bool->Shared->Prop} (hS:SetS P w bt s.heap a ss) (hroom:ss.length+1<scanBound)
  (h:∀ h',Heap.SameBut a s.heap h'->SetS P w bt h' a (if x∈ss then ss else ss++[x])->Q (!decide (x∈ss)) {s with heap:=h'}) :
  wpAny (model P w) A (setAddHashed a (.str x tk) ((PySem.strKind P w).hash x)) Q E s:=by
 obtain⟨o,es,ep,t,ho,hex,hd,hel,hp,hnd,hb,hf,hpl,hled⟩:=hS;have hkey:(PySem.strKind P w).is x (.str x tk)=true:=by rw[is_str_iff rfl];simp
 have hsc:(Value.str x tk).scannable=true:=rfl
 have hn:es.size=ss.length:=by
  have:=hp.length_eq;rw[List.length_map,Array.length_toList] at this;exact this
 have mem:(∃ e∈es.toList,(PySem.strKind P w).is x e.2=true)↔x∈ss:=by
  rw[<- hp.mem_iff,List.mem_map];constructor
  ·rintro ⟨e,he,q⟩
   obtain⟨y,t,ey,_⟩:=elem_str hel e he;rw[is_str_iff ey,decide_eq_true_iff] at q;exact⟨e,he,by rw[ey,q];rfl⟩
  ·rintro ⟨e,he,q⟩
   obtain⟨y,t,ey,_⟩:=elem_str hel e he;rw[ey] at q;exact⟨e,he,by rw[is_str_iff ey,decide_eq_true_iff,<- q];rfl⟩
 unfold setAddHashed setAddHashedIn;refine wpAny_holding (wpAny_bind (wpAny_setState_of ho hd hf ?_));dsimp only;rw[byScan_of hsc hb hel];simp only[↓reduceIte];unfold setAddByScan;refine wpAny_bind (wpAny_bind (wpAny_rule (wpAny_bind (wpAny_setScan_of hkey ho hd hf hel ?_))));cases hr:List.findIdx? (fun e=>(PySem.strKind P w).is x e.2) es.toList with
 |some j =>
  obtain⟨hj,hpj,_⟩:=List.findIdx?_eq_some_iff_getElem.mp hr;have hx:x∈ss:=mem.mp ⟨es.toList[j],List.getElem_mem hj,hpj⟩;dsimp only;refine wpAny_pure (wpAny_pure ?_);have:=h s.heap (Heap.SameBut.refl a s.heap) (by rw[if_pos hx];exact⟨o,es,ep,t,ho,hex,hd,hel,hp,hnd,hb,hf,hpl,hled⟩)
  rw[decide_eq_true hx] at this;exact this
 |none =>
  have hx:¬ x∈ss:=fun q=>by
   obtain⟨e,he,q⟩:=mem.mpr q;have:=List.findIdx?_eq_none_iff.mp hr e he;rw[q] at this;cases this
  dsimp only;have lp:=layNew_perm t es ((PySem.strKind P w).hash x) (.str x tk);have lf:=layNew_fits t es ((PySem.strKind P w).hash x) (.str x tk);have lm:=layNew_marks t es ((PySem.strKind P w).hash x) (.str x tk)
  generalize layNew t es ((PySem.strKind P w).hash x) (.str x tk)=L at lp lf lm ⊢
  obtain⟨es1,t1,wd,gave⟩:=L;dsimp only at lp lf lm ⊢;rw[Array.toList_push] at lp;have hel1:ElemsOf (PySem.strKind P w) es1.toList:=(hel.push hkey hsc).perm lp
  have hp1:(es1.toList.map fun e=>PyProof.Rows.strOf e.2).Perm (ss++[x]):=by
   refine (lp.map _).trans ?_;rw[List.map_append];exact hp.append (List.Perm.refl _)
  have nd1:(ss++[x]).Nodup:=by
   rw[List.nodup_append];exact⟨hnd,by simp,fun u hu v hv e=>by rw[List.mem_singleton] at hv;subst hv;subst e;exact hx hu⟩
  have sz1:es1.size=es.size+1:=by
   have:=lp.length_eq;rw[List.length_append,Array.length_toList,Array.length_toList] at this;exact this
  have gw:∀ (b:Bool) (s₁:Shared) (Q':Unit → Shared → Prop),Q' () s₁ → wpAny (model P w) A (match b with | true=>rule "set.scan.the-table-gave-way" | false=>pure ()) Q' E s₁ :=
   fun b s₁ Q' q=>by cases b <;> first | exact wpAny_pure q | exact wpAny_rule q
  refine wpAny_bind (gw _ _ _ ?_);have fin:∀ (g:Bool->Sem Unit),(∀ (b:Bool) (s₁:Shared) (Q':Unit->Shared->Prop),Q' () s₁->wpAny (model P w) A (g b) Q' E s₁)->∀ (R:Option Bool->Shared->Prop) (t2:SetTable),t2.fits es1.size=true->t2.led=t.led->t2.plain=false ->
    (∀ h',Heap.SameBut a s.heap h'->SetS P w bt h' a (ss++[x])->R (some true) {s with heap:=h'}) ->
    wpAny (model P w) A (do
     storeSet a es1 t2
     if (!wd&&t2.tooFull)=true then do
       g (relayAll t2 es1 (SetTable.grown es1.size)).2.2
       storeSet a (relayAll t2 es1 (SetTable.grown es1.size)).1 (relayAll t2 es1 (SetTable.grown es1.size)).2.1
       pure (some true)
      else pure (some true)) R E s:=fun g hg R t2 f2 l2 p2 k=>by
   have b1:es1.size<scanBound:=by rw[sz1,hn];exact hroom
   refine wpAny_bind (wpAny_storeSet_of ho hd ?_ (fits_of_scanBound b1))
   have at1:(s.heap.update a (Obj.putSet es1 t2)).get? a=some {o with data:=.set es1 (ep+1) t2}:=by
    have z:=Heap.get?_update_self (Obj.putSet es1 t2) ho (by rw[putSet_of es1 t2 hd];rfl)
    rw[putSet_of es1 t2 hd] at z;exact z
   have sb1:=Heap.SameBut.update s.heap a (Obj.putSet es1 t2)
   split
   ·have rp:=relayAll_perm t2 es1 (SetTable.grown es1.size)
    have rf:=relayAll_fits t2 es1 (SetTable.grown es1.size);have rm:=relayAll_marks t2 es1 (SetTable.grown es1.size)
    generalize relayAll t2 es1 (SetTable.grown es1.size)=Rl at rp rf rm ⊢
    obtain⟨es2,t3,g2⟩:=Rl;dsimp only at rp rf rm ⊢;have sz2:es2.size=es1.size:=by rw[<- Array.length_toList,rp.length_eq,Array.length_toList]
    have b2:es2.size<scanBound:=by rw[sz2];exact b1
    refine wpAny_bind (hg _ _ _ (wpAny_bind (wpAny_storeSet_of at1 rfl (wpAny_pure (k _ (sb1.trans (Heap.SameBut.update _ a _)) ?_)) (fits_of_scanBound b2))))
    have at2:((s.heap.update a (Obj.putSet es1 t2)).update a (Obj.putSet es2 t3)).get? a=some {o with data:=.set es2 (ep+1+1) t3}:=by
     have z:=Heap.get?_update_self (Obj.putSet es2 t3) at1 (by rw[putSet_of (es:=es1) (ep:=ep+1) (t:=t2) es2 t3 rfl];rfl)
     rw[putSet_of (es:=es1) (ep:=ep+1) (t:=t2) es2 t3 rfl] at z;exact z
    exact⟨_,es2,ep+1+1,t3,at2,hex,rfl,hel1.perm rp,(rp.map _).trans hp1,nd1,b2,rf,fun q=>(by rw[p2] at rm;exact absurd (rm.2 q) (by simp)),fun q=>by rw[rm.1,l2];exact hled q⟩
   ·exact wpAny_pure (k _ sb1 ⟨_,es1,ep+1,t2,at1,hex,rfl,hel1,hp1,nd1,b1,f2,fun q=>(by rw[p2] at q;cases q),fun q=>by rw[l2];exact hled q⟩)
  have done:∀ h',Heap.SameBut a s.heap h'->SetS P w bt h' a (ss++[x])->Q true {s with heap:=h'}:=fun h' c1 c2=>by
   have:=h h' c1 (by rw[if_neg hx];exact c2)
   rw[decide_eq_false hx] at this;exact this
  split
  ·refine wpAny_bind ?_
   rw[hashByValue_scannable 8 hsc];refine wpAny_pure (fin _ gw _ _ ?_ ?_ ?_ fun h' c1 c2=>?_)
   ·exact SetTable.fits_plain_off lf
   ·exact lm.1
   ·rfl
   ·dsimp only;exact wpAny_pure (done h' c1 c2)
  ·rename_i np
   refine wpAny_bind (wpAny_pure ?_);simp only[↓reduceIte];refine fin _ gw _ _ lf lm.1 (by simpa using np) fun h' c1 c2=>?_
   dsimp only;exact wpAny_pure (done h' c1 c2)
end
end Fx
set_option maxRecDepth 100000
namespace Fx
open PySem PySem.Spec
theorem addAll_len:∀ (xs acc:List Str),(addAll acc xs).length<=acc.length+xs.length
 |[],acc=>Nat.le_refl _
 |x::r,acc=>by
  have h:=addAll_len r (addS acc x)
  have h2:(addS acc x).length<=acc.length+1:=by
   unfold addS;split
   ·omega
   ·rw[List.length_append];exact Nat.le_refl _
  show (addAll (addS acc x) r).length<=_;rw[List.length_cons];omega
noncomputable def ItAt:Bool->Heap->Addr->Addr->Nat->Prop
 |true,h,it,c,i=>h.IsTupleIter it c i
 |false,h,it,c,i=>h.IsListIter it c i
noncomputable def SqAt:Bool->Heap->Addr->Array Value->Prop
 |true,h,c,us=>h.IsTuple c us
 |false,h,c,us=>h.IsList c us
section
variable {P:Program}{w:World}{A:Around}{E:Value->Shared->Prop}{s:Shared}{it c:Addr}{i:Nat}{us:Array Value}
theorem SqAt.keep {T:Bool}{h h':Heap} (q:SqAt T h c us) (k:∀ b o,h.get? b=some o->h'.get? b=some o):SqAt T h' c us:=by
 cases T with
 |true=>obtain⟨o,ho,r⟩:=q;exact⟨o,k _ _ ho,r⟩
 |false=>obtain⟨o,ho,r⟩:=q;exact⟨o,k _ _ ho,r⟩
theorem next_item {T:Bool}{x:Value}{Q:Option Value->Shared->Prop} (a:ItAt T s.heap it c i) (b:SqAt T s.heap c us) (hx:us[i]?=some x)
  (k:∀ h',ItAt T h' it c (i+1)->Heap.SameBut it s.heap h'->Q (some x) {s with heap:=h'}):wpAny (model P w) A (pyNext (.ref it)) Q E s:=by
 cases T with
 |true=>exact wpAny_pyNext_tuple_item a b hx k
 |false=>exact wpAny_pyNext_list_item a b hx k
theorem next_end {T:Bool}{Q:Option Value->Shared->Prop} (hh:A.handled=none) (a:ItAt T s.heap it c i) (b:SqAt T s.heap c us) (hx:us[i]?=none)
  (k:∀ h',Heap.ExtBut it s.heap h'->Q none {s with heap:=h'}):wpAny (model P w) A (pyNext (.ref it)) Q E s:=by
 cases T with
 |true=>exact wpAny_pyNext_tuple_end hh a b hx k
 |false=>exact wpAny_pyNext_list_end hh a b hx k
theorem iter_start {T:Bool}{Q:Value->Shared->Prop} (b:SqAt T s.heap c us)
  (k:∀ oI:Obj,ItAt T (s.heap.push oI) s.heap.objs.size c 0->Q (.ref s.heap.objs.size) {s with heap:=s.heap.push oI}):wpAny (model P w) A (pyIter (.ref c)) Q E s:=by
 cases T with
 |true=>exact wpAny_pyIter_tuple b (k _ ⟨_,Heap.get?_push_size _ rfl,rfl,rfl⟩)
 |false=>exact wpAny_pyIter_list b (k _ ⟨_,Heap.get?_push_size _ rfl,rfl,rfl⟩)
theorem ItAt.same {T:Bool}{h h':Heap}{b:Addr} (q:ItAt T h it c i) (sb:Heap.SameBut b h h') (ne:it≠b):ItAt T h' it c i:=by
 cases T with
 |true=>obtain⟨o,ho,r⟩:=q;exact⟨o,(sb.2 it ne).trans ho,r⟩
 |false=>obtain⟨o,ho,r⟩:=q;exact⟨o,(sb.2 it ne).trans ho,r⟩
theorem SetS.same {bt:Bool}{h h':Heap}{a b:Addr}{ss:List Str} (q:SetS P w bt h a ss) (sb:Heap.SameBut b h h') (ne:a≠b):SetS P w bt h' a ss:=by
 obtain⟨o,es,ep,t,ho,r⟩:=q;exact⟨o,es,ep,t,(sb.2 a ne).trans ho,r⟩
theorem SetS.ext {bt:Bool}{h h':Heap}{a b:Addr}{ss:List Str} (q:SetS P w bt h a ss) (eb:Heap.ExtBut b h h') (ne:a≠b):SetS P w bt h' a ss:=by
 obtain⟨o,es,ep,t,ho,r⟩:=q;exact⟨o,es,ep,t,eb a _ ne ho,r⟩
theorem SetS.keep {bt:Bool}{h h':Heap}{a:Addr}{ss:List Str} (q:SetS P w bt h a ss) (k:∀ b o,h.get? b=some o->h'.get? b=some o):SetS P w bt h' a ss:=by
 obtain⟨o,es,ep,t,ho,r⟩:=q;exact⟨o,es,ep,t,k _ _ ho,r⟩
theorem strs_at {all:List Value}{xs:List Str} (h:PyProof.Rows.StrsAre all xs) {i:Nat}{x:Str}{r:List Str} (e:xs.drop i=x::r):∃ tk,all[i]?=some (.str x tk):=by
 induction h generalizing i with
 |nil=>simp at e
 |cons y t h ih =>
  cases i with
  |zero =>
   rw[List.drop_zero] at e;injection e with e1 e2
   subst e1;exact⟨t,rfl⟩
  |succ i =>
   rw[List.drop_succ_cons] at e;obtain⟨tk,q⟩:=ih e;exact⟨tk,by simpa using q⟩
theorem set_loop {bt T:Bool}{hI:Heap}{a:Addr}{all:List Value}{xs0:List Str}{R:Result->Shared->Prop} (ha0:hI.get? a=none) (hi0:hI.get? it=none) (hne:a≠it) (sq:SqAt T hI c all.toArray) (sa:PyProof.Rows.StrsAre all xs0) (hh:A.handled=none) :
  ∀ (xs:List Str) (acc:List Str) (s:Shared) (i:Nat),xs0.drop i=xs->(∀ b o,hI.get? b=some o->s.heap.get? b=some o)->ItAt T s.heap it c i->SetS P w bt s.heap a acc->acc.length+xs.length+1<scanBound ->
   (∀ h' tk',(∀ b o,hI.get? b=some o->h'.get? b=some o)->SetS P w bt h' a (addAll acc xs)->R (.ok (.ret .none)) {s with heap:=h',toks:=tk'}) ->
   codeAny (model P w) A (.builtin "set.update.loop" ⟨[.ref a,.ref it],[]⟩) R s:=by
 intro xs
 induction xs with
 |nil =>
  intro acc s i e kp hit hS hz q;refine codeAny_builtin PyProof.Rows.F.entry_set_update_loop ?_;rw[Around.under_plainId PyProof.Rows.F.plain_set_update_loop _];show wpAny _ A.in1 (pyNext (.ref it) >>= _) _ _ s
  have hl:all.length=xs0.length:=by
   have:=sa.strs;rw[<- this,List.length_map]
  have hx:all.toArray[i]?=none:=by
   have:all[i]?=none:=List.getElem?_eq_none (by rw[hl];simpa using e)
   simpa using this
  refine wpAny_bind (next_end hh hit (sq.keep kp) hx fun h' eb=>wpAny_pure ?_)
  exact q h' s.toks (fun b o hb=>eb b o (fun z=>by rw[z,hi0] at hb;cases hb) (kp _ _ hb)) (hS.ext eb hne)
 |cons x xs ih =>
  intro acc s i e kp hit hS hz q;refine codeAny_builtin PyProof.Rows.F.entry_set_update_loop ?_;rw[Around.under_plainId PyProof.Rows.F.plain_set_update_loop _];show wpAny _ A.in1 (pyNext (.ref it) >>= _) _ _ s;obtain⟨tk,hx0⟩:=strs_at sa e;have hx:all.toArray[i]?=some (.str x tk):=by simpa using hx0
  refine wpAny_bind (next_item hit (sq.keep kp) hx fun h1 hit1 sb1=>?_)
  have kp1:∀ b o,hI.get? b=some o->h1.get? b=some o:=fun b o hb=>(sb1.2 b (fun z=>by rw[z,hi0] at hb;cases hb)).trans (kp _ _ hb)
  show wpAny _ A.in1 (holding [Value.str x tk] (setAdd a (.str x tk)) >>= _) _ _ _;refine wpAny_bind (wpAny_holding ?_);unfold setAdd;have hkey:(PySem.strKind P w).is x (.str x tk)=true:=by rw[is_str_iff rfl];simp
  refine wpAny_holding (wpAny_bind ((PySem.strKind P w).pyHash hkey ?_));simp only[List.length_cons] at hz;refine wpAny_addS (s:={s with heap:=h1,toks:=s.toks+1}) (hS.same sb1 hne) (by omega) fun h2 sb2 hS2=>?_
  have kp2:∀ b o,hI.get? b=some o->h2.get? b=some o:=fun b o hb=>(sb2.2 b (fun z=>by rw[z,ha0] at hb;cases hb)).trans (kp1 _ _ hb)
  have l2:(addS acc x).length<=acc.length+1:=by
   unfold addS;split
   ·omega
   ·rw[List.length_append];exact Nat.le_refl _
  refine wpAny_pure ⟨plainId_quiet PyProof.Rows.F.plain_set_update_loop _,?_⟩;exact ih (addS acc x) {s with heap:=h2,toks:=s.toks+1} (i+1) (by rw[<- List.drop_drop,e];rfl) kp2 (hit1.same sb2 (Ne.symm hne)) hS2 (by omega) fun h' tk' c1 c2=>q h' tk' c1 c2
end
end Fx
set_option maxRecDepth 100000
namespace Fx
open PySem PySem.Spec
noncomputable abbrev byT (w:World):Bool:=w.params.followText "set-order"
noncomputable abbrev newS (w:World):Obj:={cls:=.type "set",dict:=none,data:=.set #[] 0 (.fresh 0 0 (!byT w))}
theorem sub_tuple_set:isSubtype (.type "tuple") (.type "set")=pure false:=by rw[isSubtype_type];kernel_rfl
theorem sub_tuple_frozenset:isSubtype (.type "tuple") (.type "frozenset")=pure false:=by rw[isSubtype_type];kernel_rfl
section
variable {P:Program}{w:World}{A:Around}{E:Value->Shared->Prop}{s:Shared}
theorem setS_new (h:Heap):SetS P w (byT w) (h.push (newS w)) h.objs.size [] :=
 ⟨_,#[],0,_,Heap.get?_push_size _ rfl,⟨rfl,rfl,rfl⟩,rfl,fun e he=>(by simp at he),List.Perm.refl _,List.nodup_nil,by decide,by rfl,fun _=>rfl,fun e=>by show (!byT w)=true;rw[e];rfl⟩
theorem code_new_S (v:Value) {Q₁:Value->Shared->Prop} (h:Q₁ (.ref s.heap.objs.size) {s with heap:=s.heap.push (newS w)}) :
  codeAny (model P w) A (.call (.builtin "set.__new__") ⟨[.type "set",v],[]⟩) (wants Q₁ E) s:=by
 refine codeAny_of_tree ?_;show wpAny _ A.in1 (checkBuiltinCall "set.__new__" ⟨[.type "set",v],[]⟩ >>= fun _=>again (.builtin "set.__new__" ⟨[.type "set",v],[]⟩)) _ _ s
 refine wpAny_bind (wpAny_of_eq (F.newCall_set_1 v) (wpAny_pure ⟨plainId_quiet F.plain_set_new _,codeAny_builtin F.entry_set_new ?_⟩));rw[Around.under_plainId F.plain_set_new _];unfold Builtin.«set.__new__» Builtin.Frozenset.newClass;have sb:=sub_set_self;obtain⟨h0,g0,d0,k0,o0⟩:=s;dsimp only
 wp_walk
 refine wpAny_askSetting (wpAny_pure ?_);dsimp only;simp only[newObj];exact wpAny_bind (wpAny_alloc (wpAny_pure (wpAny_pure h)))
set_option maxHeartbeats 3200000 in
theorem call_setS {T:Bool}{c:Addr}{all:List Value}{xs:List Str}{Q:Value->Shared->Prop} (hh:A.handled=none) (sq:SqAt T s.heap c all.toArray) (sa:PyProof.Rows.StrsAre all xs) (hz:xs.length+1<scanBound)
  (k:∀ (h':Heap) (tk:Nat),(∀ b o,s.heap.get? b=some o->h'.get? b=some o)->SetS P w (byT w) h' s.heap.objs.size (addAll [] xs)->Q (.ref s.heap.objs.size) {s with heap:=h',toks:=tk}) :
  wpAny (model P w) A (call (.type "set") [.ref c]) Q E s:=by
 obtain⟨mc,mt,mr⟩:=F.called_set.mro;have md:=F.called_set.made;have su:=F.called_set.sub;refine wpAny_call (codeAny_of_tree ?_);show wpAny _ _ (callAny (.type "set") _) _ _ _;refine wpAny_pure ⟨Code.quiet_builtin _ (by decide +kernel),codeAny_builtin F.entry_type_call ?_⟩
 rw[Around.under_plain (weight_type_call_type "set" [.ref c] []) rfl];have f1:=F.called_set.notType;have f2:=F.called_set.canCreate;have f3:=F.typeCall_set_1 (.ref c)
 repeat (any_goals (first | assumption | wp_step))
 refine codeAny_mono (code_new_S (.ref c) (E:=E) (Q₁:=fun z s1=>z=.ref s.heap.objs.size/\s1={s with heap:=s.heap.push (newS w)}) ⟨rfl,rfl⟩) fun r s1 hr=>?_
 cases r with
 |error e=>exact hr
 |ok fl =>
  cases fl with
  |ret z =>
   obtain⟨rfl,rfl⟩:=hr;have at0:(s.heap.push (newS w)).get? s.heap.objs.size=some (newS w):=Heap.get?_push_size _ rfl;have ty0:Shared.TypeIs {s with heap:=s.heap.push (newS w)} (.ref s.heap.objs.size) "set":=⟨_,at0,rfl⟩
   have li:=F.called_set.init.lookup;have bi:=F.called_set.init.bind (.ref s.heap.objs.size)
   repeat (any_goals (first | assumption | wp_step))
   refine codeAny_mono (codeAny_call_builtin (R:=wants (fun r s2=>r=.none/\∃ h' tk,s2={s with heap:=h',toks:=tk}/\(∀ b o,s.heap.get? b=some o->h'.get? b=some o)/\SetS P w (byT w) h' s.heap.objs.size (addAll [] xs)) E) F.called_set.init.plain F.entry_set_init (check_set_init_1 ty0 ?_)) fun r2 s2 hr2=>?_
   ·have sq1:SqAt T (s.heap.push (newS w)) c all.toArray:=sq.keep fun b o e=>Heap.get?_push_of_some _ e
    have e1:∃ TT:String,Shared.TypeIs {s with heap:=s.heap.push (newS w)} (.ref c) TT ∧ (isSubtype (.type TT) (.type "set")=pure false) ∧ (isSubtype (.type TT) (.type "frozenset")=pure false) ∧ (Value.type TT==Value.type "dict")=false:=by
     cases T with
     |true=>obtain⟨o,ho,hc,_⟩:=sq1;exact⟨"tuple",⟨o,ho,hc⟩,sub_tuple_set,sub_tuple_frozenset,by decide⟩
     |false=>obtain⟨o,ho,hc,_⟩:=sq1;exact⟨"list",⟨o,ho,hc⟩,F.sub_list_set,F.sub_list_frozenset,by decide⟩
    obtain⟨TT,tyc,n1,n2,n3⟩:=e1;unfold Builtin.«set.__init__» noKeywords Builtin.Frozenset.updateFrom
    generalize hPI:pyIter=PI
    wp_walk
    subst hPI;refine iter_start (s:={s with heap:=s.heap.push (newS w)}) sq1 fun oI hI0=>?_
    have sz:(s.heap.push (newS w)).objs.size=s.heap.objs.size+1:=by rw[Heap.size_push]
    have none_of:∀ n,s.heap.objs.size<=n->s.heap.get? n=none:=fun n hn=>by
     cases z:s.heap.get? n with
     |none=>rfl
     |some o=>exact absurd (Heap.lt_size z) (Nat.not_lt.mpr hn)
    refine wpAny_bind (wpAny_runValue ?_);refine set_loop (A:=A.in1.in1) (bt:=byT w) (hI:=s.heap) (none_of _ (Nat.le_refl _)) (none_of _ (by show s.heap.objs.size<=(s.heap.push (newS w)).objs.size;rw[sz];exact Nat.le_succ _)) (by show s.heap.objs.size≠(s.heap.push (newS w)).objs.size;rw[sz];exact Nat.ne_of_lt (Nat.lt_succ_self _)) sq sa hh
     xs [] {s with heap:=(s.heap.push (newS w)).push oI} 0 rfl (fun b o e=>Heap.get?_push_of_some _ (Heap.get?_push_of_some _ e)) hI0 ((setS_new s.heap).keep fun b o e=>Heap.get?_push_of_some _ e) (by rw[List.length_nil];omega) fun h' tk c1 c2=>?_
    refine wpAny_pure (wpAny_pure ?_);exact⟨rfl,h',tk,rfl,c1,c2⟩
   ·cases r2 with
    |error e=>exact hr2
    |ok fl2 =>
     cases fl2 with
     |ret r =>
      obtain⟨rfl,h',tk,rfl,c1,c2⟩:=hr2
      repeat (any_goals (first | assumption | wp_step))
      exact k _ _ c1 c2
     |_=>exact hr2.elim
  |_=>exact hr.elim
end
end Fx
set_option maxRecDepth 100000
namespace Fx
open PySem PySem.Spec
theorem slot_sit_next:Slot "set_iterator" "__next__" "set_iterator.__next__" :=
 .of (owner:="set_iterator") (n:="__next__") (by rw[typeLookup_type,builtinLookup_eq_fast];kernel_rfl) (by decide +kernel) (by decide +kernel) (by decide +kernel) (by first | exact .inl (by decide +kernel) | exact .inr (by decide +kernel)) (by rw[isSubtype_type];kernel_rfl)
theorem slot_sit_iter:Slot "set_iterator" "__iter__" "set_iterator.__iter__" :=
 .of (owner:="set_iterator") (n:="__iter__") (by rw[typeLookup_type,builtinLookup_eq_fast];kernel_rfl) (by decide +kernel) (by decide +kernel) (by decide +kernel) (by first | exact .inl (by decide +kernel) | exact .inr (by decide +kernel)) (by rw[isSubtype_type];kernel_rfl)
theorem entry_sit_next:entryFor table "set_iterator.__next__"=some Builtin.«set_iterator.__next__»:=entryFor_of_tree (by kernel_rfl)
theorem entry_sit_iter:entryFor table "set_iterator.__iter__"=some Builtin.«dict_keyiterator.__iter__» :=
 entryFor_alias (id':="dict_keyiterator.__iter__") (by kernel_rfl) (by first | rfl | decide +kernel) (by decide +kernel) (by kernel_rfl)
theorem entry_set_iter':entryFor table "set.__iter__"=some Builtin.«frozenset.__iter__» :=
 entryFor_alias (id':="frozenset.__iter__") (by kernel_rfl) (by first | rfl | decide +kernel) (by decide +kernel) (by kernel_rfl)
theorem args_sit_next (v:Value):argsOk "set_iterator.__next__" ⟨[v],[]⟩:=by unfold argsOk;kernel_rfl
theorem args_sit_iter (v:Value):argsOk "set_iterator.__iter__" ⟨[v],[]⟩:=by unfold argsOk;kernel_rfl
noncomputable abbrev sitO (first:Value) (i:Int) (a:Addr) (n ep:Nat):Obj:={cls:=.type "set_iterator",data:=.fields #[first,.int i 0,.ref a,.int n 0,.int ep 0]}
section
variable {P:Program}{w:World}{A:Around}{E:Value->Shared->Prop}{s:Shared}{it a:Addr}
theorem self_sit {o:Obj}{Q:Value → Shared → Prop} (ho:s.heap.get? it=some o) (hc:o.cls=.type "set_iterator") (h:Q (.ref it) s):wpAny (model P w) A (pyIter (.ref it)) Q E s:=by
 have ty:s.TypeIs (.ref it) "set_iterator":=⟨o,ho,hc⟩;refine wpAny_pyIter_slot ty slot_sit_iter (wpAny_call_entry slot_sit_iter ty entry_sit_iter ?_ (args_sit_iter _));show wpAny _ _ (ret (.ref it)) _ _ s;exact wpAny_pure ⟨_,rfl,"set_iterator",_,ty,slot_sit_next.lookup,h⟩
theorem next_sit {o:Obj}{Q:Option Value → Shared → Prop} (ho:s.heap.get? it=some o) (hc:o.cls=.type "set_iterator")
  (h:wpAny (model P w) A.in1 (Builtin.«set_iterator.__next__» ⟨[.ref it],[]⟩) (fun fin s'=>∃ v,fin=.done (.ret v) ∧ Q (some v) s') (fun e s'=>∃ x oe,e=.ref x ∧ s'.heap.get? x=some oe ∧ oe.cls=.type "StopIteration" ∧ Q none s') s) :
  wpAny (model P w) A (pyNext (.ref it)) Q E s:=by
 have ty:s.TypeIs (.ref it) "set_iterator":=⟨o,ho,hc⟩;unfold pyNext;refine wpAny_bind (wpAny_attempt (wpAny_callSpecial?_slot (name:=Str.ofString "__next__") ty slot_sit_next (wpAny_call_entry slot_sit_next ty entry_sit_next (wpAny_mono h (fun fin s' q=>?_) fun e s' q=>?_) (args_sit_next _))))
 ·obtain⟨v,rfl,q⟩:=q
  exact⟨v,rfl,wpAny_pure q⟩
 ·obtain⟨x,oe,rfl,h1,h2,q⟩:=q
  exact wpAny_bind (wpAny_isInstance (T:="StopIteration") (b:=true) ⟨oe,h1,h2⟩ isSubtype_stop (wpAny_pure q))
theorem stop_S {α:Type}{Q:α->Shared->Prop} (hh:A.handled=none)
  (k:∀ (h':Heap) (x:Addr) (oe:Obj),(∀ b o,s.heap.get? b=some o → h'.get? b=some o) → h'.get? x=some oe → oe.cls=.type "StopIteration" → E (.ref x) {s with heap:=h'}) :
  wpAny (model P w) A (newExc (.type "StopIteration") [] >>= fun e=>raiseNew e) Q E s:=by
 refine wpAny_bind ?_;simp only[newExc,newTuple];refine wpAny_bind (wpAny_newObj_type ?_ (by size_fits))
 refine wpAny_bind (m:=firstArgMember _ _) (wpAny_of_eq (a:=Value.none) (by first | rfl | (simp only[firstArgMember];rfl)) (wpAny_newObj_type ?_ (by size_fits)))
 simp only[raiseNew];refine wpAny_bind (wpAny_handled ?_);rw[hh];exact wpAny_bind (wpAny_pure (wpAny_throw (k _ _ _ (fun b o e=>Heap.get?_push_of_some _ (Heap.get?_push_of_some _ e)) (Heap.get?_push_size _ rfl) rfl)))
end
end Fx
set_option maxRecDepth 100000
namespace Fx
open PySem PySem.Spec
section
variable {P:Program}{w:World}{A:Around}{E:Value->Shared->Prop}{s:Shared}{it a:Addr}
structure SObj (h:Heap) (a:Addr) (es:Array (Int×Value)) (ep:Nat) (t:SetTable):Prop where
 at_:∃ o,h.get? a=some o/\o.ExactSet/\o.data=.set es ep t
 fits:t.fits es.size=true
theorem SObj.keep {h h':Heap}{es:Array (Int×Value)}{ep:Nat}{t:SetTable} (q:SObj h a es ep t) (k:∀ o,h.get? a=some o->h'.get? a=some o):SObj h' a es ep t:=by
 obtain⟨⟨o,h1,h2⟩,f⟩:=q;exact⟨⟨o,k o h1,h2⟩,f⟩
theorem next_drawn {es:Array (Int×Value)}{ep:Nat}{t:SetTable}{tp:Addr}{pl:List Nat}{i p:Nat}{e:Int×Value}{Q:Option Value->Shared->Prop} (hI:s.heap.get? it=some (sitO (.ref tp) i a es.size ep)) (hO:SObj s.heap a es ep t)
  (hT:s.heap.IsTuple tp (pl.map fun q:Nat=>Value.int q 0).toArray) (hp:pl[i]?=some p) (he:es[p]?=some e)
  (k:∀ h',h'.get? it=some (sitO (.ref tp) (i+1:Nat) a es.size ep)->Heap.SameBut it s.heap h'->Q (some e.2) {s with heap:=h'}):wpAny (model P w) A (pyNext (.ref it)) Q E s:=by
 obtain⟨⟨o,h1,h2,h3⟩,hf⟩:=hO;obtain⟨ot,t1,t2,tn,t3⟩:=hT;refine next_sit hI rfl ?_;show wpAny _ _ (fieldsOf (.ref it) >>= _) _ _ s;refine wpAny_bind (wpAny_fieldsOf hI rfl ?_);show wpAny _ _ (setEntries a >>= _) _ _ s;refine wpAny_bind (wpAny_setEntries_of h1 h3 hf ?_);rw[if_neg (by simp)]
 show wpAny _ _ (seqItems? (.ref tp) >>= _) _ _ s;refine wpAny_bind (wpAny_seqItems t1 t3 ?_)
 have pk:(pl.map fun q:Nat=>Value.int q 0).toArray[((i:Nat):Int).toNat]?=some (.int p 0):=by
  simp[hp]
 dsimp only;rw[pk];show wpAny _ _ (setNextDrawn a ((p:Nat):Int).toNat ((ep:Nat):Int).toNat >>= _) _ _ s;refine wpAny_bind ?_;unfold setNextDrawn;refine wpAny_bind (wpAny_setState_of h1 h3 hf ?_);dsimp only;rw[if_neg (by simp)]
 have ek:es[((p:Nat):Int).toNat]?=some (e.1,e.2):=by simpa using he
 rw[ek];refine wpAny_pure (wpAny_bind (wpAny_setField hI rfl (by simp) (wpAny_pure ⟨_,rfl,k _ ?_ (Heap.SameBut.update ..)⟩)))
 have z:=Heap.get?_update_self (Obj.mapFields (·.setIfInBounds 1 (rawInt (((i:Nat):Int)+1)))) hI rfl;rw[z];rfl
theorem end_drawn {es:Array (Int×Value)}{ep:Nat}{t:SetTable}{tp:Addr}{pl:List Nat}{i:Nat}{Q:Option Value->Shared->Prop} (hh:A.handled=none) (hI:s.heap.get? it=some (sitO (.ref tp) i a es.size ep)) (hO:SObj s.heap a es ep t)
  (hT:s.heap.IsTuple tp (pl.map fun q:Nat=>Value.int q 0).toArray) (hp:pl[i]?=none)
  (k:∀ h',Heap.ExtBut it s.heap h'->Q none {s with heap:=h'}):wpAny (model P w) A (pyNext (.ref it)) Q E s:=by
 obtain⟨⟨o,h1,h2,h3⟩,hf⟩:=hO;obtain⟨ot,t1,t2,tn,t3⟩:=hT;refine next_sit hI rfl ?_;show wpAny _ _ (fieldsOf (.ref it) >>= _) _ _ s;refine wpAny_bind (wpAny_fieldsOf hI rfl ?_);show wpAny _ _ (setEntries a >>= _) _ _ s;refine wpAny_bind (wpAny_setEntries_of h1 h3 hf ?_);rw[if_neg (by simp)]
 show wpAny _ _ (seqItems? (.ref tp) >>= _) _ _ s;refine wpAny_bind (wpAny_seqItems t1 t3 ?_)
 have pk:(pl.map fun q:Nat=>Value.int q 0).toArray[((i:Nat):Int).toNat]?=none:=by
  simp[hp]
 dsimp only;rw[pk];refine wpAny_bind (wpAny_setField hI rfl (by simp) ?_)
 have z:=Heap.get?_update_self (Obj.mapFields (·.setIfInBounds 0 (rawInt 0))) hI rfl;refine wpAny_bind (wpAny_setField z rfl (by simp[sitO,Obj.mapFields]) ?_)
 refine stop_S hh fun h' x oe kp hx hc=>⟨x,oe,rfl,hx,hc,k h' fun b ob hb e=>kp b ob ?_⟩
 rw[Heap.get?_update_other _ _ (Ne.symm hb),Heap.get?_update_other _ _ (Ne.symm hb)];exact e
theorem next_slot {es:Array (Int×Value)}{ep:Nat}{t:SetTable}{sl nx i:Nat}{v:Value}{Q:Option Value->Shared->Prop} (hI:s.heap.get? it=some (sitO (.int sl 0) i a es.size ep)) (hO:SObj s.heap a es ep t)
  (hN:∀ (A':Around) (Q':Option (Value×Nat)->Shared->Prop) (E':Value->Shared->Prop),Q' (some (v,nx)) s->wpAny (model P w) A' (setNext a sl i ep) Q' E' s)
  (k:∀ h',h'.get? it=some (sitO (.int nx 0) (i+1:Nat) a es.size ep)->Heap.SameBut it s.heap h'->Q (some v) {s with heap:=h'}):wpAny (model P w) A (pyNext (.ref it)) Q E s:=by
 obtain⟨⟨o,h1,h2,h3⟩,hf⟩:=hO;refine next_sit hI rfl ?_;show wpAny _ _ (fieldsOf (.ref it) >>= _) _ _ s;refine wpAny_bind (wpAny_fieldsOf hI rfl ?_);show wpAny _ _ (setEntries a >>= _) _ _ s;refine wpAny_bind (wpAny_setEntries_of h1 h3 hf ?_);rw[if_neg (by simp)]
 show wpAny _ _ (setNext a ((sl:Nat):Int).toNat ((i:Nat):Int).toNat ((ep:Nat):Int).toNat >>= _) _ _ s;rw[Int.toNat_natCast,Int.toNat_natCast,Int.toNat_natCast];refine wpAny_bind (hN _ _ _ ?_);dsimp only;refine wpAny_bind (wpAny_setField hI rfl (by simp) ?_)
 have z:=Heap.get?_update_self (Obj.mapFields (·.setIfInBounds 0 (rawInt (nx:Int)))) hI rfl;refine wpAny_bind (wpAny_setField z rfl (by simp[sitO,Obj.mapFields]) (wpAny_pure ⟨_,rfl,k _ ?_ ((Heap.SameBut.update ..).trans (Heap.SameBut.update ..))⟩))
 have z2:=Heap.get?_update_self (Obj.mapFields (·.setIfInBounds 1 (rawInt (((i:Nat):Int)+1)))) z rfl;rw[z2];rfl
theorem end_slot {es:Array (Int×Value)}{ep:Nat}{t:SetTable}{sl i:Nat}{Q:Option Value->Shared->Prop} (hh:A.handled=none) (hI:s.heap.get? it=some (sitO (.int sl 0) i a es.size ep)) (hO:SObj s.heap a es ep t)
  (hN:∀ (A':Around) (Q':Option (Value×Nat)->Shared->Prop) (E':Value->Shared->Prop),Q' none s->wpAny (model P w) A' (setNext a sl i ep) Q' E' s)
  (k:∀ h',Heap.ExtBut it s.heap h'->Q none {s with heap:=h'}):wpAny (model P w) A (pyNext (.ref it)) Q E s:=by
 obtain⟨⟨o,h1,h2,h3⟩,hf⟩:=hO;refine next_sit hI rfl ?_;show wpAny _ _ (fieldsOf (.ref it) >>= _) _ _ s;refine wpAny_bind (wpAny_fieldsOf hI rfl ?_);show wpAny _ _ (setEntries a >>= _) _ _ s;refine wpAny_bind (wpAny_setEntries_of h1 h3 hf ?_);rw[if_neg (by simp)]
 show wpAny _ _ (setNext a ((sl:Nat):Int).toNat ((i:Nat):Int).toNat ((ep:Nat):Int).toNat >>= _) _ _ s;rw[Int.toNat_natCast,Int.toNat_natCast,Int.toNat_natCast];refine wpAny_bind (hN _ _ _ ?_);dsimp only;refine wpAny_bind (wpAny_setField hI rfl (by simp) ?_)
 refine stop_S hh fun h' x oe kp hx hc=>⟨x,oe,rfl,hx,hc,k h' fun b ob hb e=>kp b ob ?_⟩
 rw[Heap.get?_update_other _ _ (Ne.symm hb)];exact e
theorem setNext_T {es:Array (Int×Value)}{ep:Nat}{t:SetTable}{sl i:Nat} (hO:SObj s.heap a es ep t) (bt:byT w=true) {Q:Option (Value×Nat)->Shared->Prop} (q:Q (((pickOrder (w.params.setOrder a ep) es)[i]?).map fun e=>(e.2,sl)) s) :
  wpAny (model P w) A (setNext a sl i ep) Q E s:=by
 obtain⟨⟨o,h1,h2,h3⟩,hf⟩:=hO;unfold setNext;refine wpAny_bind (wpAny_setState_of h1 h3 hf ?_);dsimp only;unfold setsByText;refine wpAny_bind (wpAny_bind (wpAny_askSetting (wpAny_pure ?_)))
 split
 ·rw[if_neg (by simp)]
  unfold setWalk setsByText;refine wpAny_bind (wpAny_bind (wpAny_setState_of h1 h3 hf ?_));dsimp only;refine wpAny_bind (wpAny_bind (wpAny_askSetting (wpAny_pure ?_)))
  split
  ·exact wpAny_bind (wpAny_askSetting (wpAny_pure (wpAny_pure q)))
  ·rename_i c;exact absurd bt c
 ·rename_i c;exact absurd bt c
theorem setNext_S {es:Array (Int×Value)}{ep:Nat}{t:SetTable}{sl i:Nat} (hO:SObj s.heap a es ep t) (bt:byT w=false) (le:es.size<=1) (ld:t.led=true) {Q:Option (Value×Nat)->Shared->Prop}
  (q:Q (match es[SetTable.below t.place sl]?,t.place[SetTable.below t.place sl]? with | some (_,x),some j=>some (x,j+1) | _,_=>none) s) :
  wpAny (model P w) A (setNext a sl i ep) Q E s:=by
 obtain⟨⟨o,h1,h2,h3⟩,hf⟩:=hO;unfold setNext;refine wpAny_bind (wpAny_setState_of h1 h3 hf ?_);dsimp only;unfold setsByText;refine wpAny_bind (wpAny_bind (wpAny_askSetting (wpAny_pure ?_)))
 split
 ·rename_i c
  have c:byT w=true:=c;rw[bt] at c;cases c
 ·split
  ·rename_i c
   have c:(!t.plain&&decide (es.size > 1))=true:=c;simp at c;omega
  ·have m:∀ (Q':Unit → Shared → Prop),Q' () s → wpAny (model P w) A (if (!t.led&&!es.isEmpty)=true then unsupported "set:maker-not-led" else pure ()) Q' E s:=fun Q' q'=>by
    rw[if_neg (by simp[ld])];exact wpAny_pure q'
   exact wpAny_bind (m _ (wpAny_pure q))
end
end Fx
set_option maxRecDepth 100000
namespace Fx
open PySem PySem.Spec
section
variable {P:Program}{w:World}{A:Around}{E:Value->Shared->Prop}{s:Shared}{a:Addr}
noncomputable def Ready (P:Program) (w:World) (X:Addr->Prop) (I:Addr) (vs:List Value) (h:Heap):Prop :=
 ∃ (fp:List Addr) (St:Nat->Heap->Prop),(∀ A:Around,A.handled=none->Walks P w A I fp [I] vs.length (fun i v=>vs[i]?=some v) St)/\St 0 h/\∀ b∈fp,b<h.objs.size/\X b
theorem range_vals (es:Array (Int×Value)):((List.range es.size).map fun p=>(es.getD p default).2)=es.toList.map (·.2):=by
 apply List.ext_getElem?
 intro i
 by_cases h:i<es.size
 ·simp[h,Array.getD]
 ·have h':es.size<=i:=Nat.not_lt.mp h
  simp[h']
theorem ready_drawn {es:Array (Int×Value)}{ep:Nat}{t:SetTable}{tp I:Addr}{pl:List Nat}{h:Heap} (hI:h.get? I=some (sitO (.ref tp) 0 a es.size ep)) (hO:SObj h a es ep t)
  (hT:h.IsTuple tp (pl.map fun q:Nat=>Value.int q 0).toArray) (hp:pl.Perm (List.range es.size)) (n1:a≠I) (n2:tp≠I) {X:Addr->Prop} (xI:X I) (xa:X a) (xt:X tp):Ready P w X I (pl.map fun p=>(es.getD p default).2) h:=by
 refine⟨[I,a,tp],fun i h=>h.get? I=some (sitO (.ref tp) (i:Nat) a es.size ep)/\SObj h a es ep t/\h.IsTuple tp (pl.map fun q:Nat=>Value.int q 0).toArray,fun A hh=>?_,⟨hI,hO,hT⟩,fun b hb=>?_⟩
 ·refine⟨fun b hb=>(by simp at hb;simp[hb]),fun i h h' st k=>⟨k I (by simp) _ st.1,st.2.1.keep (k a (by simp)),?_⟩,fun i s Q E hi st q=>?_,fun s Q E st q=>?_,fun i s Q E st q=>self_sit st.1 rfl q⟩
  ·obtain⟨o,ho,r⟩:=st.2.2;exact⟨o,k tp (by simp) _ ho,r⟩
  ·rw[List.length_map] at hi
   have hpl:pl[i]?=some pl[i]:=List.getElem?_eq_getElem hi
   have hm:pl[i]<es.size:=by
    have:=hp.mem_iff.mp (List.getElem_mem hi)
    simpa using this
   refine next_drawn st.1 st.2.1 st.2.2 hpl (e:=es[pl[i]]) (by simp[hm]) fun h' c1 c2=>q _ h' s.toks ?_ ⟨c1,st.2.1.keep fun o e=>(c2.2 a n1).trans e,?_⟩ fun b o hb e=>(c2.2 b fun z=>hb (by simp[z])).trans e
   ·rw[List.getElem?_map,hpl]
    simp[Array.getD,hm]
   ·obtain⟨o,ho,r⟩:=st.2.2;exact⟨o,(c2.2 tp n2).trans ho,r⟩
  ·rw[List.length_map] at st
   exact end_drawn hh st.1 st.2.1 st.2.2 (List.getElem?_eq_none (Nat.le_refl _)) fun h' c=>q h' s.toks fun b o hb e=>c b o (fun z=>hb (by simp[z])) e
 ·have:b=I\/b=a\/b=tp:=by simpa using hb
  rcases this with rfl | rfl | rfl
  ·exact⟨Heap.lt_size hI,xI⟩
  ·obtain⟨⟨o,h1,_⟩,_⟩:=hO;exact⟨Heap.lt_size h1,xa⟩
  ·obtain⟨o,ho,_⟩:=hT;exact⟨Heap.lt_size ho,xt⟩
theorem ready_text {es:Array (Int×Value)}{ep:Nat}{t:SetTable}{I:Addr}{h:Heap} (bt:byT w=true) (hI:h.get? I=some (sitO (.int 0 0) 0 a es.size ep)) (hO:SObj h a es ep t) (n1:a≠I) {X:Addr->Prop} (xI:X I) (xa:X a) :
  Ready P w X I ((pickOrder (w.params.setOrder a ep) es).toList.map (·.2)) h:=by
 refine⟨[I,a],fun i h=>h.get? I=some (sitO (.int ((0:Nat):Int) 0) (i:Nat) a es.size ep)/\SObj h a es ep t,fun A hh=>?_,⟨hI,hO⟩,fun b hb=>?_⟩
 ·refine⟨fun b hb=>(by simp at hb;simp[hb]),fun i h h' st k=>⟨k I (by simp) _ st.1,st.2.keep (k a (by simp))⟩,fun i s Q E hi st q=>?_,fun s Q E st q=>?_,fun i s Q E st q=>self_sit st.1 rfl q⟩
  ·rw[List.length_map,Array.length_toList] at hi
   refine next_slot st.1 st.2 (v:=(pickOrder (w.params.setOrder a ep) es)[i].2) (nx:=0) (fun A' Q' E' q'=>setNext_T st.2 bt (by rw[Array.getElem?_eq_getElem hi];exact q')) fun h' c1 c2=>q _ h' s.toks ?_ ⟨c1,st.2.keep fun o e=>(c2.2 a n1).trans e⟩ fun b o hb e=>(c2.2 b fun z=>hb (by simp[z])).trans e
   rw[List.getElem?_map,Array.getElem?_toList,Array.getElem?_eq_getElem hi];rfl
  ·rw[List.length_map,Array.length_toList] at st
   exact end_slot hh st.1 st.2 (fun A' Q' E' q'=>setNext_T st.2 bt (by rw[Array.getElem?_eq_none (Nat.le_refl _)];exact q')) fun h' c=>q h' s.toks fun b o hb e=>c b o (fun z=>hb (by simp[z])) e
 ·have:b=I\/b=a:=by simpa using hb
  rcases this with rfl | rfl
  ·exact⟨Heap.lt_size hI,xI⟩
  ·obtain⟨⟨o,h1,_⟩,_⟩:=hO;exact⟨Heap.lt_size h1,xa⟩
theorem below_small (xs:Array Nat) (le:xs.size<=1):SetTable.below xs 0=0/\∀ j,xs[0]?=some j->SetTable.below xs (j+1)=1:=by
 obtain⟨l⟩:=xs
 match l,le with
 |[],_=>exact⟨rfl,fun j e=>by simp at e⟩
 |[x],_ =>
  refine⟨?_,fun j e=>?_⟩
  ·simp[SetTable.below,SetTable.below.go]
  ·have:x=j:=by simpa using e
   subst this;simp[SetTable.below,SetTable.below.go]
 |x::y::r,h=>simp at h
theorem ready_small {es:Array (Int×Value)}{ep:Nat}{t:SetTable}{I:Addr}{h:Heap} (bt:byT w=false) (le:es.size<=1) (ld:t.led=true) (hI:h.get? I=some (sitO (.int 0 0) 0 a es.size ep)) (hO:SObj h a es ep t) (n1:a≠I) {X:Addr->Prop} (xI:X I) (xa:X a) :
  Ready P w X I (es.toList.map (·.2)) h:=by
 have ps:t.place.size=es.size:=by
  have:=hO.fits;unfold SetTable.fits at this;simp at this;exact this.1
 obtain⟨b0,b1⟩:=below_small t.place (by omega)
 refine⟨[I,a],fun i h=>(∃ sl:Nat,h.get? I=some (sitO (.int (sl:Int) 0) (i:Nat) a es.size ep)/\SetTable.below t.place sl=i)/\SObj h a es ep t,fun A hh=>?_,⟨⟨0,hI,b0⟩,hO⟩,fun b hb=>?_⟩
 ·refine⟨fun b hb=>(by simp at hb;simp[hb]),fun i h h' st k=>?_,fun i s Q E hi st q=>?_,fun s Q E st q=>?_,fun i s Q E st q=>?_⟩
  ·obtain⟨⟨sl,c1,c2⟩,c3⟩:=st
   exact⟨⟨sl,k I (by simp) _ c1,c2⟩,c3.keep (k a (by simp))⟩
  ·obtain⟨⟨sl,c1,c2⟩,c3⟩:=st
   rw[List.length_map,Array.length_toList] at hi;have i0:i=0:=by omega
   subst i0;have hpl:0<t.place.size:=by omega
   refine next_slot c1 c3 (v:=es[0].2) (nx:=t.place[0]+1) (fun A' Q' E' q'=>setNext_S c3 bt le ld (by rw[c2,Array.getElem?_eq_getElem hi,Array.getElem?_eq_getElem hpl];exact q')) fun h' d1 d2=>q _ h' s.toks ?_ ⟨⟨_,d1,b1 _ (Array.getElem?_eq_getElem hpl)⟩,c3.keep fun o e=>(d2.2 a n1).trans e⟩ fun b o hb e=>(d2.2 b fun z=>hb (by simp[z])).trans e
   rw[List.getElem?_map,Array.getElem?_toList,Array.getElem?_eq_getElem hi];rfl
  ·rw[List.length_map,Array.length_toList] at st
   obtain⟨⟨sl,c1,c2⟩,c3⟩:=st;exact end_slot hh c1 c3 (fun A' Q' E' q'=>setNext_S c3 bt le ld (by rw[c2,Array.getElem?_eq_none (Nat.le_refl _)];exact q')) fun h' c=>q h' s.toks fun b o hb e=>c b o (fun z=>hb (by simp[z])) e
  ·obtain⟨⟨sl,c1,c2⟩,c3⟩:=st
   exact self_sit c1 rfl q
 ·have:b=I\/b=a:=by simpa using hb
  rcases this with rfl | rfl
  ·exact⟨Heap.lt_size hI,xI⟩
  ·obtain⟨⟨o,h1,_⟩,_⟩:=hO;exact⟨Heap.lt_size h1,xa⟩
end
end Fx
set_option maxRecDepth 100000
namespace Fx
open PySem PySem.Spec
section
variable {P:Program}{w:World}{A:Around}{E:Value->Shared->Prop}{s:Shared}{a:Addr}{ss:List Str}
theorem vals_strs {es:Array (Int×Value)}{vs:List Value} (hel:ElemsOf (PySem.strKind P w) es.toList) (hp:(es.toList.map fun e=>PyProof.Rows.strOf e.2).Perm ss) (pv:vs.Perm (es.toList.map (·.2))):∃ ts,PyProof.Rows.StrsAre vs ts/\ts.Perm ss:=by
 refine⟨vs.map PyProof.Rows.strOf,PyProof.Rows.strsAre_map vs fun v hv=>?_,?_⟩
 ·obtain⟨e,he,rfl⟩:=List.mem_map.mp (pv.mem_iff.mp hv)
  obtain⟨x,t,q,_⟩:=elem_str hel e he;exact⟨x,t,q⟩
 ·refine (pv.map _).trans ?_
  rw[List.map_map];exact hp
theorem iter_setS {Q:Value->Shared->Prop} (hS:SetS P w (byT w) s.heap a ss)
  (k:∀ (I:Addr) (vs:List Value) (ts:List Str) (h':Heap) (dr:Drawn),(∀ b o,s.heap.get? b=some o->h'.get? b=some o)->s.heap.get? I=none->I<h'.objs.size->Ready P w (fun b=>b=a\/s.heap.get? b=none) I vs h'->PyProof.Rows.StrsAre vs ts->ts.Perm ss->Q (.ref I) {s with heap:=h',drawn:=dr}) :
  wpAny (model P w) A (pyIter (.ref a)) Q E s:=by
 obtain⟨o,es,ep,t,ho,hex,hd,hel,hp,hnd,hb,hf,hpl,hled⟩:=hS;have ty:s.TypeIs (.ref a) "set":=⟨o,ho,hex.1⟩;have hO:SObj s.heap a es ep t:=⟨⟨o,ho,hex,hd⟩,hf⟩
 have fresh:∀ n,s.heap.objs.size<=n->s.heap.get? n=none:=fun n hn=>by
  cases z:s.heap.get? n with
  |none=>rfl
  |some o=>exact absurd (Heap.lt_size z) (Nat.not_lt.mpr hn)
 have al:a<s.heap.objs.size:=Heap.lt_size ho;refine wpAny_pyIter_slot ty PySem.F.slot_set_iter (wpAny_call_entry PySem.F.slot_set_iter ty entry_set_iter' ?_ (PySem.F.args_set_iter_1 _));unfold Builtin.«frozenset.__iter__» Builtin.Frozenset.slot0 slotArgs Builtin.Frozenset.addrOf Builtin.Frozenset.sizeOf;refine wpAny_bind (wpAny_pure ?_);refine wpAny_bind (wpAny_bind (wpAny_setEntries_of ho hd hf (wpAny_pure ?_)));refine wpAny_bind ?_;unfold setDrawn setsByText;refine wpAny_bind (wpAny_setState_of ho hd hf ?_);dsimp only;refine wpAny_bind (wpAny_bind (wpAny_askSetting (wpAny_pure (wpAny_pure ?_))))
 split
 ·rename_i c
  have c:(!byT w&&(!t.plain&&decide (es.size > 1)))=true:=c;refine wpAny_bind (wpAny_drawOrder _ _ _ _ (by simp) fun pl dr pp=>?_)
  have ln:pl.length=es.size:=by rw[pp.length_eq,List.length_range]
  have lz:(pl.map fun i:Nat=>rawInt i).length<=sizeLine:=by
   rw[List.length_map,ln];exact fits_of_scanBound hb
  refine wpAny_bind (wpAny_newTuple ?_ lz);have kp1:∀ b o,s.heap.get? b=some o → (s.heap.push {cls:=.type "tuple",data:=.seq (pl.map fun i:Nat=>rawInt i).toArray}).get? b=some o:=fun b o e=>Heap.get?_push_of_some _ e
  obtain⟨o1,q1,q2,q3⟩:∃ o1,(s.heap.push {cls:=.type "tuple",data:=.seq (pl.map fun i:Nat=>rawInt i).toArray}).get? a=some o1 ∧ o1.ExactSet ∧ o1.data=.set es ep t:=⟨o,kp1 _ _ ho,hex,hd⟩
  show wpAny _ _ (setEpoch a >>= _) _ _ _;refine wpAny_bind (wpAny_setEpoch_of q1 q3 hf ?_);refine wpAny_bind (wpAny_newObj_type (wpAny_pure ⟨_,rfl,"set_iterator",_,⟨_,Heap.get?_push_size _ rfl,rfl⟩,slot_sit_next.lookup,?_⟩));have sz:(s.heap.push {cls:=.type "tuple",data:=.seq (pl.map fun i:Nat=>rawInt i).toArray}).objs.size=s.heap.objs.size+1:=by rw[Heap.size_push]
  obtain⟨ts,s1,s2⟩:=vals_strs (P:=P) (w:=w) (vs:=pl.map fun p=>(es.getD p default).2) hel hp (by rw[<- range_vals];exact pp.map _)
  refine k _ _ ts _ dr (fun b o e=>Heap.get?_push_of_some _ (kp1 b o e)) (fresh _ (by rw[sz];exact Nat.le_succ _)) (Heap.lt_size (Heap.get?_push_size _ rfl)) (ready_drawn (tp:=s.heap.objs.size) (Heap.get?_push_size _ rfl) (hO.keep fun o e=>Heap.get?_push_of_some _ (kp1 _ o e)) ⟨_,Heap.get?_push_of_some _ (Heap.get?_push_size _ rfl),rfl,0,rfl⟩ pp ?_ ?_ (.inr (fresh _ (by rw[sz];exact Nat.le_succ _))) (.inl rfl) (.inr (fresh _ (Nat.le_refl _)))) s1 s2
  ·rw[sz];exact Nat.ne_of_lt (Nat.lt_succ_of_lt al)
  ·rw[sz];exact Nat.ne_of_lt (Nat.lt_succ_self _)
 ·rename_i c
  have c:¬ (!byT w&&(!t.plain&&decide (es.size > 1)))=true:=c;refine wpAny_bind (wpAny_pure ?_);show wpAny _ _ (setEpoch a >>= _) _ _ _;refine wpAny_bind (wpAny_setEpoch_of ho hd hf ?_);refine wpAny_bind (wpAny_newObj_type (wpAny_pure ⟨_,rfl,"set_iterator",_,⟨_,Heap.get?_push_size _ rfl,rfl⟩,slot_sit_next.lookup,?_⟩));cases bt:byT w with
  |true =>
   obtain⟨ts,s1,s2⟩:=vals_strs (P:=P) (w:=w) (vs:=(pickOrder (w.params.setOrder a ep) es).toList.map (·.2)) hel hp ((pickOrder_perm _ es).map _);exact k _ _ ts _ s.drawn (fun b o e=>Heap.get?_push_of_some _ e) (fresh _ (Nat.le_refl _)) (Heap.lt_size (Heap.get?_push_size _ rfl)) (ready_text bt (Heap.get?_push_size _ rfl) (hO.keep fun o e=>Heap.get?_push_of_some _ e) (Nat.ne_of_lt al) (.inr (fresh _ (Nat.le_refl _))) (.inl rfl)) s1 s2
  |false =>
   have le:es.size<=1:=by
    rw[bt] at c;cases pl:t.plain with
    |true=>have:=hpl pl;omega
    |false=>rw[pl] at c;simp at c;exact c
   obtain⟨ts,s1,s2⟩:=vals_strs (P:=P) (w:=w) (vs:=es.toList.map (·.2)) hel hp (List.Perm.refl _);exact k _ _ ts _ s.drawn (fun b o e=>Heap.get?_push_of_some _ e) (fresh _ (Nat.le_refl _)) (Heap.lt_size (Heap.get?_push_size _ rfl)) (ready_small bt le (hled bt) (Heap.get?_push_size _ rfl) (hO.keep fun o e=>Heap.get?_push_of_some _ e) (Nat.ne_of_lt al) (.inr (fresh _ (Nat.le_refl _))) (.inl rfl)) s1 s2
end
end Fx
set_option maxRecDepth 100000
namespace Fx
open PySem PySem.Spec
section
variable {P:Program}{w:World}{A:Around}{E:Value->Shared->Prop}{s:Shared}{a:Addr}{ss:List Str}
theorem hint_set {Q:Bool → Shared → Prop} (ty:s.TypeIs (.ref a) "set") (q:Q false s):wpAny (model P w) A (Builtin.List.listLengthHint (.ref a)) Q E s:=by
 have sp:splitId "set.__len__"=some ("set","__len__"):=by decide +kernel
 have su:=sub_set_self;unfold Builtin.List.listLengthHint;refine wpAny_bind (wpAny_specialOf ty PySem.F.slot_set_len.lookup ?_);dsimp only;rw[sp];dsimp only;refine wpAny_bind (wpAny_isInstance ty su ?_);refine wpAny_ite_split (fun z=>absurd z (by decide)) fun _=>wpAny_ite_split (fun _=>?_) fun z=>absurd (by decide +kernel) z
 exact wpAny_bind (wpAny_typeOf ty (wpAny_pure q))
theorem extend_setS {R:Result → Shared → Prop} (hh:A.handled=none) (hS:SetS P w (byT w) s.heap a ss) (S:Addr) (nS:S≠a) (res:Value) (c0:Nat) (hL:s.heap.get? S=some {cls:=.type "list",data:=.seq #[] c0})
  (hR:∀ h' tk dr (acc:Array Value) c' (ts:List Str),(∀ b o,b≠S → s.heap.get? b=some o → h'.get? b=some o) → h'.get? S=some {cls:=.type "list",dict:=none,data:=.seq acc c',slots:=#[]} → PyProof.Rows.StrsAre acc.toList ts → ts.Perm ss → R (.ok (.ret res)) {s with heap:=h',toks:=tk,drawn:=dr}) :
  wpAny (model P w) A.in1 (Builtin.List.listExtendWith (.ref S) (.ref a) res)
   (fun fin s'=>match fin with | .done f=>R (.ok f) s' | .again c'=>c'.quiet=true/\codeAny (model P w) A c' R s') (fun e s'=>R (.error e) s') s:=by
 have ty:s.TypeIs (.ref a) "set":=by
  obtain⟨o,es,ep,t,ho,hex,_⟩:=hS;exact⟨o,ho,hex.1⟩
 have ssz:ss.length<=sizeLine:=by
  obtain⟨o,es,ep,t,ho,hex,hd,hel,hp,hnd,hb,_⟩:=hS;have:=hp.length_eq;rw[List.length_map,Array.length_toList] at this;rw[<- this];exact fits_of_scanBound hb
 unfold Builtin.List.listExtendWith;refine wpAny_bind (wpAny_typeOf (T:="set") ty ?_);have h1:Builtin.List.listSameRef (.ref S) (.ref a)=false:=by simp[Builtin.List.listSameRef,nS]
 have h2:(Value.type "set"==Value.type "list")=false:=by decide
 have h3:(Value.type "set"==Value.type "tuple")=false:=by decide
 simp only[h1,h2,h3,Bool.or_false,Bool.false_eq_true,if_false];refine wpAny_bind (iter_setS hS fun I vs ts h' dr kp fI ltI rd sa pp=>?_)
 obtain⟨fp,St,W,st,lf⟩:=rd;have nI:S≠I:=fun z=>by rw[<- z,hL] at fI;cases fI
 have vl:vs.length=ss.length:=by
  have:=sa.strs;have q:vs.length=ts.length:=by rw[<- this,List.length_map]
  rw[q,pp.length_eq]
 have hSf:S∉fp:=fun m=>by
  rcases (lf S m).2 with z | z
  ·exact nS z
  ·rw[hL] at z;cases z
 have key:∀ (h:Heap) (c1 tk:Nat),St 0 h → (∀ b o,b≠S → s.heap.get? b=some o → h.get? b=some o) → h.get? S=some {cls:=.type "list",data:=.seq #[] c1} →
   codeAny (model P w) A (.builtin "list.extend.loop" ⟨[.ref S,.ref I,res],[]⟩) R {s with heap:=h,toks:=tk,drawn:=dr}:=fun h c1 tk st0 k0 l0=>by
  refine codeAny_extend_loopS (W A.in1 hh).toS (by rw[vl];exact ssz) S hSf res vs.length 0 _ #[] c1 rfl (Nat.zero_le _) st0 l0 (ItemsOf.nil _) fun s' acc c' hm l' ia=>?_
  have ev:acc.toList=vs:=by
   apply List.ext_getElem?
   intro j;rw[Array.getElem?_toList]
   by_cases hj:j<acc.size
   ·rw[ia.2 j _ (Array.getElem?_eq_getElem hj),Array.getElem?_eq_getElem hj]
   ·rw[Array.getElem?_eq_none (Nat.not_lt.mp hj),List.getElem?_eq_none (by have:=ia.1;omega)]
  rw[Moved.eq_with hm];refine hR s'.heap s'.toks dr acc c' ts (fun b o hb e=>hm.heap b o (fun m=>?_) (k0 b o hb e)) l' (by rw[ev];exact sa) pp
  rcases List.mem_cons.mp m with z | m
  ·exact hb z
  ·rw[List.mem_singleton.mp m,fI] at e;cases e
 have l1:h'.get? S=some {cls:=.type "list",data:=.seq #[] c0}:=kp _ _ hL;refine wpAny_bind (wpAny_holding (hint_set (s:={s with heap:=h',drawn:=dr}) ?_ ?_))
 ·obtain⟨o,ho,hc⟩:=ty
  exact⟨o,kp _ _ ho,hc⟩
 refine wpAny_ite_split (fun _=>?_) (fun _=>wpAny_pure ⟨plainId_quiet PySem.F.plain_extend_loop _,key _ c0 _ st (fun b o _ e=>kp _ _ e) l1⟩)
 refine wpAny_bind (wpAny_rule (wpAny_bind ?_));show wpAny _ _ (updateSeq S (fun z=>z.push Value.none) >>= fun _=>updateSeq S fun z=>z.pop) _ _ _
 refine wpAny_bind (wpAny_updateSeq l1 rfl ?_);have l2:=Heap.get?_update_self (Obj.mapSeq fun z=>z.push Value.none) l1 rfl
 refine wpAny_updateSeq (hz:=by seq_fits) l2 rfl ?_
 have l3:=Heap.get?_update_self (Obj.mapSeq fun z=>z.pop) l2 rfl
 refine wpAny_pure ⟨plainId_quiet PySem.F.plain_extend_loop _,key _ _ _ ?_ (fun b o hb e=>?_) l3⟩
 ·refine (W A.in1 hh).frame 0 _ _ st fun b hb o e=>?_
  have nb:S≠b:=fun z=>hSf (by rw[z];exact hb)
  exact (Heap.get?_update_other _ _ nb).trans ((Heap.get?_update_other _ _ nb).trans e)
 ·exact (Heap.get?_update_other _ _ (Ne.symm hb)).trans ((Heap.get?_update_other _ _ (Ne.symm hb)).trans (kp _ _ e))
end
end Fx
set_option maxRecDepth 100000
namespace Fx
open PySem PySem.Spec PyProof.Rows
section
variable {P:Program}{w:World}{A:Around}{E:Value->Shared->Prop}{s:Shared}{a:Addr}{ss:List Str}
theorem collect_setS {Q:List Value->Shared->Prop} (hh:A.handled=none) (hS:SetS P w (byT w) s.heap a ss)
  (k:∀ (h':Heap) (tk:Nat) (dr:Drawn) (vs:List Value) (ts:List Str),(∀ b o,s.heap.get? b=some o->h'.get? b=some o)->StrsAre vs ts->ts.Perm ss->Q vs {s with heap:=h',toks:=tk,drawn:=dr}) :
  wpAny (model P w) A (collect (.ref a)) Q E s:=by
 have al:a<s.heap.objs.size:=by
  obtain⟨o,es,ep,t,ho,_⟩:=hS;exact Heap.lt_size ho
 unfold collect;refine wpAny_bind (wpAny_runValue (codeAny_builtin PySem.F.entry_proto_collect ?_));rw[Around.under_plainId PySem.F.plain_proto_collect _];show wpAny _ A.in1 (newList [] >>= fun z=>again (.builtin "list.__iadd__" ⟨[z,.ref a],[]⟩)) _ _ s
 refine wpAny_bind (wpAny_newObj_type (wpAny_pure ⟨plainId_quiet PySem.F.plain_list_iadd _,codeAny_builtin PySem.F.entry_list_iadd ?_⟩));rw[Around.under_plainId PySem.F.plain_list_iadd _];have l0:(s.heap.push {cls:=.type "list",data:=.seq ([]:List Value).toArray}).get? s.heap.objs.size=some {cls:=.type "list",data:=.seq #[]}:=Heap.get?_push_size _ rfl;show wpAny _ A.in1 (Builtin.List.listExtendWith (.ref s.heap.objs.size) (.ref a) (.ref s.heap.objs.size)) _ _ _;have key:=extend_setS (A:=A) (s:={s with heap:=s.heap.push {cls:=.type "list",data:=.seq ([]:List Value).toArray}})
  (R:=fun (q:Result) (s':Shared)=>∃ (h':Heap) (tk:Nat) (dr:Drawn) (acc:Array Value) (c':Nat) (ts:List Str),q=.ok (.ret (.ref s.heap.objs.size))/\s'={s with heap:=h',toks:=tk,drawn:=dr} /\
   (∀ b o,s.heap.get? b=some o → h'.get? b=some o) ∧ h'.get? s.heap.objs.size=some {cls:=.type "list",dict:=none,data:=.seq acc c',slots:=#[]} ∧ StrsAre acc.toList ts ∧ ts.Perm ss)
  hh (hS.keep fun b o e=>Heap.get?_push_of_some _ e) s.heap.objs.size (Nat.ne_of_gt al) (.ref s.heap.objs.size) 0 l0
  (fun h' tk dr acc c' ts c1 c2 c3 c4=>⟨h',tk,dr,acc,c',ts,rfl,rfl,fun b o e=>c1 b o (Nat.ne_of_lt (Heap.lt_size e)) (Heap.get?_push_of_some _ e),c2,c3,c4⟩)
 refine wpAny_mono key (fun fin s' x=>?_) fun e s' x=>?_
 ·cases fin with
  |done f =>
   obtain⟨h',tk,dr,acc,c',ts,e,rfl,c1,c2,c3,c4⟩:=x;cases e;show wpAny _ A (load s.heap.objs.size >>= _) _ _ _;exact wpAny_bind (wpAny_load c2 (wpAny_pure (k h' tk dr acc.toList ts c1 c3 c4)))
  |again c₁ =>
   refine⟨x.1,codeAny_mono x.2 fun q s₂ y=>?_⟩
   obtain⟨h',tk,dr,acc,c',ts,rfl,rfl,c1,c2,c3,c4⟩:=y;show wpAny _ A (load s.heap.objs.size >>= _) _ _ _;exact wpAny_bind (wpAny_load c2 (wpAny_pure (k h' tk dr acc.toList ts c1 c3 c4)))
 ·obtain⟨_,_,_,_,_,_,e',_⟩:=x
  cases e'
theorem sortS_eq_of_perm {l m:List Str} (h:l.Perm m):sortS l=sortS m:=by
 refine List.Perm.eq_of_pairwise (le:=fun a b=>ltS b a=false) (fun a b _ _ p q=>?_) (sortS_pw l) (sortS_pw m) ((sortS_perm l).trans (h.trans (sortS_perm m).symm))
 unfold ltS at p q;rw[decide_eq_false_iff_not] at p q;have:=List.le_antisymm (List.not_lt.mp p) (List.not_lt.mp q);obtain⟨⟨la⟩⟩:=a;obtain⟨⟨lb⟩⟩:=b;cases this;rfl
theorem sorted_setS {Q:Value->Shared->Prop} (hh:A.handled=none) (hS:SetS P w (byT w) s.heap a ss) (h64:ss.length<64)
  (k:∀ (h1 h2:Heap) (tk:Nat) (dr:Drawn) (out:Array Value) (e:Nat),(∀ b o',s.heap.get? b=some o' → h1.get? b=some o') → (∀ b o',h1.get? b=some o' → h2.get? b=some o') → h2.get? h1.objs.size=some (seqObj "list" out e) → StrsAre out.toList (sortS ss) →
   Q (.ref h1.objs.size) {s with heap:=h2,toks:=tk,drawn:=dr}) :
  wpAny (model P w) A (call (.builtin "sorted") [.ref a]) Q E s:=by
 refine Calls.call_function_entry kind_sorted plain_sorted entry_sorted (args_sorted1 _) ?_;unfold Builtin.«sorted»;refine wpAny_bind (m:=checkCount "sorted" 1 1 _) (wpAny_pure (wpAny_bind (collect_setS (A:=A.in1) hh hS fun h1 tk dr us ts kp sa pp=>?_)))
 have ul:us.length=ss.length:=by
  have q:=sa.strs;rw[<- pp.length_eq,<- q,List.length_map]
 refine wpAny_bind (wpAny_newList ?_ (by rw[ul,sizeLine_eq];omega))
 have at1:(h1.push (seqObj "list" us.toArray 0)).get? h1.objs.size=some (seqObj "list" us.toArray 0):=Heap.get?_push_size _ rfl;refine wpAny_bind (wpAny_holding (wpAny_call_entry slot_list_sort ⟨_,at1,rfl⟩ entry_list_sort (list_sort_treeK strKind_oneLt at1 sa.keysOf (fun v1 v2 r e=>keyKind_strs (by rw[<- e];exact sa)) (by rw[ul];exact h64) fun st hp hs=>⟨_,rfl,?_⟩) (args_list_sort _)))
 obtain⟨t',q1,q2,q3⟩:=sorted_out_str sa hp hs;obtain⟨e,he⟩:=sortedHeap_at (out:=(arrOf st).map (·.2)) at1;rw[sortS_uniq q2 q3,sortS_eq_of_perm pp] at q1;refine wpAny_pure ⟨_,rfl,k h1 _ tk dr _ e kp (fun b o' hb=>?_) he q1⟩
 have lt:b<h1.objs.size:=Heap.lt_size hb;rw[sortedHeap_old (Nat.ne_of_lt lt) (by rw[size_push'];exact Nat.lt_succ_of_lt lt)]
 exact Heap.get?_push_of_some _ hb
end
end Fx
set_option maxRecDepth 100000
namespace Fx
open PySem PySem.Spec PyProof.Rows L2
noncomputable def setO (P:Program) (w:World) (a:Addr) (ss:List Str):HO:=.ext fun h=>SetS P w (byT w) h a ss
theorem setO_ok {P:Program}{w:World}{H:Hp}{h:Heap}{a:Addr}{ss:List Str} (q:SetS P w (byT w) h a ss):ObjOk P w H h a (setO P w a ss):=by
 refine⟨q,?_,fun h1 h2 q1 k=>?_⟩
 ·obtain⟨o,es,ep,t,ho,_⟩:=q
  exact⟨o,ho⟩
 ·obtain⟨o,es,ep,t,ho,r⟩:=q1
  exact⟨o,es,ep,t,k _ ho,r⟩
theorem Inv.drawn {X:Cx}{pins:List (Addr×Obj)}{σ:List (Option V)}{H:Hp}{s:Shared} (dr:Drawn) (I:Inv X pins σ H s):Inv X pins σ H {s with drawn:=dr} :=
 ⟨I.ok,I.os,I.bare,I.base,I.loc,I.cell,I.free,I.freeC,I.pin,I.hok,I.len⟩
theorem Step.side {H0 H:Hp}{p:Addr}{o:HO} (s:Same H0 H) (hp:H p=none):Step H0 H H0 (upd H p o):=by
 refine⟨Same.refl _,fun b u e=>by rw[upd_ne (ne_of_none e hp)];exact e,fun b u e=>?_,fun b u e=>.inl e⟩
 have e':=s _ _ e;rw[upd_ne (ne_of_none e' hp)];exact e'
section
variable {X:Cx}
theorem sq_of {pins:List (Addr×Obj)}{σ:L2.St}{H:Hp}{s:Shared}{p:Addr}{xs:List V} (I:Inv X pins σ H s) (hq:SqL X.K H p xs\/SqT X.K H p xs):∃ (T:Bool) (its:List Value),Vals xs its/\SqAt T s.heap p its.toArray:=by
 rcases hq with hq | hq
 ·obtain⟨its,rv,pl,_⟩:=I.list hq
  exact⟨false,its,rv,pl.isList⟩
 ·obtain⟨its,rv,tp,_⟩:=I.tuple hq
  exact⟨true,its,rv,tp⟩
theorem call_set_S (hc:X.calm=true):CallR X (.type "set") (fun xs H Q=>∃ p ss,xs=[.ref p] ∧ (SqL X.K H p (ss.map V.str) ∨ SqT X.K H p (ss.map V.str)) ∧ ss.length<1000 ∧ ∀ l,H l=none → Q (.ref l) (upd H l (setO X.prog X.w l (addAll [] ss)))):=by
 intro pins s σ H xs us Q I r h;obtain⟨p,ss,rfl,hq,hz,q⟩:=h;obtain⟨u,rfl,ru⟩:=vals1 r;cases ru;obtain⟨T,its,rv,sq⟩:=sq_of I hq;refine call_setS (I.ok.hd hc) sq (strsAre_of rv) (by unfold scanBound;omega) fun h' tk kp hS=>?_
 exact⟨.ref s.heap.objs.size,_,I.laid (o:=setO X.prog X.w s.heap.objs.size (addAll [] ss)) kp (Nat.le_refl _) (setO_ok hS),rfl,q _ (I.hok.fresh (Nat.le_refl _))⟩
theorem call_sorted_S (hc:X.calm=true):CallR X (.builtin "sorted") (fun xs H Q=>∃ p ss,xs=[.ref p] ∧ H p=some (setO X.prog X.w p ss) ∧ ss.length<64 ∧ ∀ l,H l=none → Q (.ref l) (upd H l (.lst ((sortS ss).map V.str)))):=by
 intro pins s σ H xs us Q I r h;obtain⟨p,ss,rfl,hq,h64,q⟩:=h;obtain⟨u,rfl,ru⟩:=vals1 r;cases ru;have hS:SetS X.prog X.w (byT X.w) s.heap p ss:=(I.hok p _ hq).1;refine sorted_setS (I.ok.hd hc) hS h64 fun h1 h2 tk dr out e k1 k2 at1 so=>?_
 have I1:Inv X pins σ H {s with heap:=h1,toks:=tk,drawn:=dr}:=Inv.drawn dr (I.kept (t':=tk) k1)
 have hz:((sortS ss).map V.str).length<=sizeLine:=by
  rw[List.length_map,(sortS_perm ss).length_eq,sizeLine_eq];omega
 refine⟨.ref h1.objs.size,_,I1.laid (t':=tk) (o:=.lst ((sortS ss).map V.str)) k2 (Nat.le_refl _) ⟨hz,out.toList,e,vals_of_strs so,?_⟩,rfl,q _ (I1.hok.fresh (Nat.le_refl _))⟩;rw[at1]
theorem addAll_64 {ss:List Str} (h:ss.length<64):(addAll [] ss).length<64:=by
 have:=addAll_len ss [];rw[List.length_nil] at this;omega
theorem xsortset {a:Expr}{F:FE}{p p2 dpos pos:Pos} (hm:X.mg "set"=none) (hm2:X.mg "sorted"=none) (he:XE X a F) (hc:X.calm=true:=by rfl) (hg:Gl X "set":=by rfl) (hg2:Gl X "sorted":=by rfl)
  (h1:starEach [a] X.env=[(false,eval a X.env)]:=by rfl) (h2:starEach [.Call (.Name "set" p) [a] [] dpos] X.env=[(false,eval (.Call (.Name "set" p) [a] [] dpos) X.env)]:=by rfl) :
  XE X (.Call (.Name "sorted" p2) [.Call (.Name "set" p) [a] [] dpos] [] pos) (eF bSortSet (aC F aN)) :=
 PE.wk (pe_callB (call_sorted_S hc) hg2 hm2 PyProof.Rows.boot_sorted (pa_cons (pe_callTy (call_set_S hc) hg hm PyProof.Rows.boot_set (xaC he xaN h1) (by decide) (by decide) h1 rfl) pa_nil h2) (by decide) (by decide) h2 rfl) fun σ H Q ⟨c,H0,ρ,d,ρ',R,f,q⟩=>by
  unfold eF at f;obtain⟨⟨ds,ρ1⟩,g1,f⟩:=bnd_eq f;obtain⟨d',g2,f⟩:=bnd_eq f;have f':some (d',ρ1)=some (d,ρ'):=f;cases f';refine⟨c,H0,ρ,ds,_,R,g1,fun vs H1 Hh s1 R1 r1=>?_⟩
  have main:∀ (ad:Addr) (ss:List Str),vs=[.ref ad]->ss.length<64->d=.lst ((sortS (addAll [] ss)).map .str)->(SqL X.K Hh ad (ss.map V.str)\/SqT X.K Hh ad (ss.map V.str)) ->
    ∃ p ss,vs=[.ref p]/\(SqL X.K Hh p (ss.map V.str)\/SqT X.K Hh p (ss.map V.str))/\ss.length<1000/\∀ l,Hh l=none->∃ p ss',[V.ref l]=[.ref p]/\upd Hh l (setO X.prog X.w l (addAll [] ss)) p=some (setO X.prog X.w p ss')/\ss'.length<64 /\
     ∀ l2,upd Hh l (setO X.prog X.w l (addAll [] ss)) l2=none->Q (.ref l2) (upd (upd Hh l (setO X.prog X.w l (addAll [] ss))) l2 (.lst ((sortS ss').map V.str))):=fun ad ss ev l64 ed sq=>by
   refine⟨ad,ss,ev,sq,by omega,fun l hl=>⟨l,addAll [] ss,rfl,upd_same,addAll_64 l64,fun l2 hl2=>?_⟩⟩
   have S1:=Step.side (o:=setO X.prog X.w l (addAll [] ss)) R1.same hl;have S2:=Step.alloc (o:=.lst ((sortS (addAll [] ss)).map V.str)) S1.s' hl2;refine q _ _ _ (s1.trans (S1.trans S2).s0) (R1.after (S1.trans S2)) ?_;rw[ed];unfold Rep;exact⟨l2,_,rfl,.inl (.inl upd_same),reps_strs _⟩
  have inv:∀ {xs:List D},sortSetL xs=some d->∃ ss:List Str,xs=ss.map .str/\ss.length<64/\d=.lst ((sortS (addAll [] ss)).map .str):=fun {xs} h=>by
   unfold sortSetL at h;obtain⟨ss,e,f⟩:=bnd_eq h;obtain⟨l,rfl⟩:=ifs f;exact⟨ss,strs_inv e,l,rfl⟩
  have g2:bSortSet ds=some d:=g2;unfold bSortSet at g2
  split at g2
  ·obtain⟨ss,rfl,l64,ed⟩:=inv g2
   obtain⟨v,rfl,rv⟩:=Reps.v1 r1;unfold Rep at rv;obtain⟨ad,ws,rfl,sq,t⟩:=rv;rw[reps_strs_inv t] at sq;exact main ad ss rfl l64 ed (.inr (Same.seqT R1.same sq))
  ·obtain⟨ss,rfl,l64,ed⟩:=inv g2
   obtain⟨v,rfl,rv⟩:=Reps.v1 r1;unfold Rep at rv;obtain⟨ad,ws,rfl,sq,t⟩:=rv;rw[reps_strs_inv t] at sq;exact main ad ss rfl l64 ed (.inl (Same.seq R1.same sq))
  ·cases g2
end
end Fx
set_option maxRecDepth 100000
namespace Fx
open PySem PySem.Spec PyProof.Rows L2
section
variable {K:PySem.W.Frag}{c:FC}{H0 H H':Hp}{ρ:En}{σ:L2.St}{l:Addr}{o:HO}
theorem RS.hide (R:RS K c H0 H ρ σ) (hl:H l=none):l∉c.Ap/\c.He l=none/\H0 l=none/\c.Hi l=none:=by
 have h0:H0 l=none:=R.same.free hl;exact⟨fun m=>R.apt l m hl,R.heNone hl,h0,R.init.free h0⟩
theorem RS.hid (R:RS K c H0 H ρ σ) (hl:H l=none):RS K ⟨c.Hi,upd c.He l o,c.Ap⟩ H0 (upd H l o) ρ σ:=by
 obtain⟨n1,n2,n3,_⟩:=R.hide hl;have ne:∀ {b:Addr}{u:HO},H b=some u->b≠l:=fun e z=>by rw[z,hl] at e;cases e
 refine⟨fun b u e=>?_,R.init,fun b u e=>?_,fun b u e n=>?_,fun a ha=>?_,R.len,R.im,fun i b o e=>?_,R.ne⟩
 ·have h:=R.same b u e
  rw[upd_ne (ne h)];exact h
 ·have h:=R.same b u e
  rcases R.fresh b u e with q | q
  ·exact .inl q
  ·exact .inr (by show upd c.He l _ b=none;rw[upd_ne (ne h)];exact q)
 ·by_cases z:b=l
  ·subst z
   have e:upd c.He b _ b=some u:=e;rw[upd_same] at e ⊢;exact e
  ·have e:upd c.He l _ b=some u:=e
   rw[upd_ne z] at e ⊢;exact R.keep b u e n
 ·by_cases z:a=l
  ·subst z;exact absurd ha n1
  ·rw[upd_ne z];exact R.apt a ha
 ·obtain⟨a,e1,e2,e3,e4⟩:=R.ow i b o e
  obtain⟨u,hu⟩:=e4.some;refine⟨a,e1,e2,?_,e4.step (Same.refl _) fun u h=>by rw[upd_ne (ne h)];exact h⟩
  cases b with
  |true=>exact e3
  |false =>
   have e3:c.He a=none:=e3;show upd c.He l _ a=none;rw[upd_ne (ne hu)];exact e3
end
inductive KEnt (w:World) (K:PySem.W.Frag):List DictEntry->List (Str×D)->Prop
 |nil:KEnt w K [] []
 |cons {k:Str}{d:D}{t:Tok}{v:Value}{es:List DictEntry}{kds:List (Str×D)}:KV1 K d v->KEnt w K es kds->KEnt w K (⟨hashStr w k,.str k t,v⟩::es) ((k,d)::kds)
theorem KEnt.all {w:World}{K:PySem.W.Frag}:∀ {es:List DictEntry}{kds:List (Str×D)},KEnt w K es kds->∃ vs:List (Key×Value),vs.map (·.1)=kds.map (fun q=>Sum.inr q.1) /\
  (∀ (P:Program),PySem.Pairs (mixKind P w) es vs)/\(∀ (P:Program),∀ e∈es,∃ k,(mixKind P w).is k e.key=true/\e.hash=(mixKind P w).hash k) /\
  ∀ k d,getK k kds=some d->∃ u,valueAt vs (.inr k)=some u/\KV1 K d u
 |_,_,.nil=>⟨[],rfl,fun _=>.nil,fun _ e h=>(by cases h),fun k d h=>(by cases h)⟩
 |_,_,.cons (k:=k) (d:=d) (t:=t) (v:=v) (es:=es) (kds:=kds) h r=>by
  obtain⟨vs,e1,e2,e3,e4⟩:=r.all;refine⟨(.inr k,v)::vs,by rw[List.map_cons,List.map_cons,e1],fun P=>.cons (mixKind_str P w k t) rfl (e2 P),fun P e he=>?_,fun k' d' hk=>?_⟩
  ·rcases List.mem_cons.mp he with rfl | he
   ·exact⟨.inr k,mixKind_str P w k t,rfl⟩
   ·exact e3 P e he
  ·unfold getK at hk
   unfold valueAt;rw[List.find?_cons]
   by_cases z:k=k'
   ·subst z
    rw[if_pos rfl] at hk;cases hk;exact⟨v,by simp,h⟩
   ·rw[if_neg z] at hk
    obtain⟨u,e5,e6⟩:=e4 k' d' hk;refine⟨u,?_,e6⟩;rw[decide_eq_false (fun y=>z (Sum.inr.inj y))]
    exact e5
section
variable {X:Cx}{pos:Pos}{e k:Expr}{F G:FE}{A:FA}
end
end Fx
namespace Fx
open PySem
noncomputable def b_key_behind:FS :=
 (sSeq (sSet 1 (e2 dRst (eV 0) (eC (.str (Str.ofString "z")))))
 (sSeq (sIf (tB (e2 dEq (eV 1) (eC (.str (Str.ofString "")))))
 (sRet (eIf (tB (e2 dLt (eF bLen2 (aC (eV 0) aN)) (eC (.int 8)))) (e2 dMulZ (eC (.str (Str.ofString "a"))) (e2 dAdd (eF bLen2 (aC (eV 0) aN)) (eC (.int 1)))) (eC .non)))
 sN)
 (sSeq (sSet 2 (e2 dIx2 (eC (.str (Str.ofString "abcdefghijklmnopqrstuvwxyz"))) (e2 dAdd (e2 dIdx (eC (.str (Str.ofString "abcdefghijklmnopqrstuvwxyz"))) (e2 dIx2 (eV 1) (e1 dNeg (eC (.int 1))))) (eC (.int 1)))))
 (sRet (e2 dAdd (e2 dAdd (eSl2 (eV 1) oN (oS (e1 dNeg (eC (.int 1))))) (eV 2)) (e2 dMulZ (eC (.str (Str.ofString "a"))) (e2 dSub (eF bLen2 (aC (eV 0) aN)) (eF bLen2 (aC (eV 1) aN)))))))))
noncomputable def m_key_behind:List D->Option D:=fnD 1 2 b_key_behind
noncomputable abbrev l_keys_some_1:FS :=
 (sDK 2 (eV 3) (eC (.bl true)))
noncomputable abbrev l_keys_some_2:FS :=
 (sDK 2 (eV 3) (eC (.bl true)))
noncomputable abbrev l_keys_some_3:FS :=
 (sSet 3 (eF m_key_behind (aC (eV 3) aN)))
noncomputable abbrev l_keys_some_4:FT :=
 (tAnd (tB (e2 dIsNot (eV 3) (eC .non))) (tB (e2 dDin (eV 3) (eV 2))))
noncomputable def b_keys_some:FS :=
 (sSeq (sDN 2)
 (sSeq (sFor (gN 3) (eV 1)
 l_keys_some_1)
 (sSeq (sIf (tB (e2 dEq (e2 dIx2 (eV 0) (eC (.int 0))) (eC (.str (Str.ofString "only")))))
 (sSeq (sFzD 2 (sSet 4 (eLC [2] (e2 dIx2 (eV 0) (eC (.int 1))) (tB (e2 dDnin (eV 0) (eV 1))) (eV 0))))
 (sRet (eF bMinS (aC (eV 4) aN))))
 sN)
 (sSeq (sFor (gN 3) (e2 dIx2 (eV 0) (eC (.int 1)))
 l_keys_some_2)
 (sSeq (sSet 3 (eC (.str (Str.ofString "a"))))
 (sSeq (sFzD 2 (sWhile (fun _=>200) l_keys_some_4
 l_keys_some_3))
 (sRet (eV 3))))))))
noncomputable def m_keys_some:List D->Option D:=fnD 2 3 b_keys_some
noncomputable def b_law_cell_at:FS :=
 (sSeq (sIf (tB (e2 dLt (eV 1) (eF bLen2 (aC (eV 0) aN))))
 (sRet (e2 dIx2 (eV 0) (eV 1)))
 sN)
 (sRet (eC (.int 0))))
noncomputable def m_law_cell_at:List D->Option D:=fnD 2 0 b_law_cell_at
noncomputable def b_law_mixed:FS :=
 (sSeq (sSet 2 (e2 dMod (e2 dMul (e2 dAdd (e2 dAdd (eV 0) (e2 dMul (eC (.int 7919)) (eV 1))) (eC (.int 1))) (eC (.int 48271))) (eC (.int 2147483647))))
 (sRet (e2 dMod (e2 dMul (eV 2) (e2 dAdd (e2 dDiv (eV 2) (eC (.int 1009))) (eC (.int 69621)))) (eC (.int 2147483647)))))
noncomputable def m_law_mixed:List D->Option D:=fnD 2 1 b_law_mixed
noncomputable def b_law_draws:En->Option MO :=
 (nSeq (sSet 1 (eF m_law_cell_at (aC (eV 0) (aC (eC (.int 0)) aN)))) (nRet [(Str.ofString "script"),(Str.ofString "way"),(Str.ofString "left"),(Str.ofString "at"),(Str.ofString "number"),(Str.ofString "k")] (aC (eV 0) (aC (e2 dMod (eV 1) (eC (.int 2))) (aC (eC (.int 0)) (aC (eC (.int 1)) (aC (eV 1) (aC (eC (.int 0)) aN))))))))
noncomputable def m_law_draws:List D->Option MO:=fnN 1 1 b_law_draws
noncomputable abbrev l_law_next_1:FS :=
 (sSeq (sDP 0 (Str.ofString "left") (eF bAbs (aC (e2 dIx2 (eDG 0 (Str.ofString "script")) (eDG 0 (Str.ofString "at"))) aN)))
 (sDP 0 (Str.ofString "at") (e2 dAdd (eDG 0 (Str.ofString "at")) (eC (.int 1)))))
noncomputable abbrev l_law_next_2:FT :=
 (tAnd (tB (e2 dEq (eDG 0 (Str.ofString "way")) (eC (.int 1)))) (tAnd (tB (e2 dEq (eDG 0 (Str.ofString "left")) (eC (.int 0)))) (tB (e2 dLt (eDG 0 (Str.ofString "at")) (eF bLen2 (aC (eDG 0 (Str.ofString "script")) aN))))))
noncomputable def b_law_next:FS :=
 (sSeq (sWhile (fun _=>200) l_law_next_2
 l_law_next_1)
 (sSeq (sIf (tB (e2 dGt (eDG 0 (Str.ofString "left")) (eC (.int 0))))
 (sSeq (sSet 2 (e2 dMod (eDG 0 (Str.ofString "left")) (eC (.int 1000003))))
 (sSeq (sDP 0 (Str.ofString "left") (e2 dDiv (eDG 0 (Str.ofString "left")) (eC (.int 1000003))))
 (sRet (eV 2))))
 sN)
 (sSeq (sDP 0 (Str.ofString "k") (e2 dAdd (eDG 0 (Str.ofString "k")) (eC (.int 1))))
 (sSeq (sSet 1 (e2 dAdd (eDG 0 (Str.ofString "number")) (eF m_law_cell_at (aC (eDG 0 (Str.ofString "script")) (aC (eDG 0 (Str.ofString "k")) aN)))))
 (sSeq (sDP 0 (Str.ofString "number") (eF m_law_mixed (aC (eV 1) (aC (eDG 0 (Str.ofString "k")) aN))))
 (sRet (eF m_law_mixed (aC (eDG 0 (Str.ofString "number")) (aC (eC (.int 7)) aN)))))))))
noncomputable def m_law_next:MO->List D->Option (D×MO):=fnB 0 2 b_law_next
noncomputable abbrev l_law_pool_1:FS :=
 (sSet 2 (e2 dAdd (eV 2) (e2 dIx2 (eV 1) (e2 dMod (eFb 0 m_law_next aN) (eC (.int 26))))))
noncomputable def b_law_pool:FS :=
 (sSeq (sSet 1 (eC (.str (Str.ofString "abcdefghijklmnopqrstuvwxyz"))))
 (sSeq (sSet 2 (eC (.str (Str.ofString ""))))
 (sSeq (sForR (gN 3) (rng1 (e2 dAdd (eC (.int 1)) (e2 dMod (eFb 0 m_law_next aN) (eC (.int 8))))) l_law_pool_1)
 (sSeq (sIf (tB (e2 dEq (e2 dMod (eFb 0 m_law_next aN) (eC (.int 3))) (eC (.int 1))))
 (sRet (eLst (aC (eC (.str (Str.ofString "a"))) (aC (eC (.str (Str.ofString "b"))) (aC (eC (.str (Str.ofString "z"))) (aC (eC (.str (Str.ofString "aa"))) (aC (eC (.str (Str.ofString "ab"))) (aC (eC (.str (Str.ofString "az"))) (aC (eC (.str (Str.ofString "ba"))) (aC (eC (.str (Str.ofString "zz"))) (aC (eC (.str (Str.ofString "aaa"))) aN)))))))))))
 sN)
 (sSeq (sSet 4 (e2 dMod (eFb 0 m_law_next aN) (eF bLen2 (aC (eV 2) aN))))
 (sRet (eLC [2,4] (eC (.str (Str.ofString "abcdefghz"))) tYes (e2 dAdd (e2 dAdd (eSl2 (eV 1) oN (oS (eV 2))) (eV 0)) (eSl2 (eV 1) (oS (e2 dAdd (eV 2) (eC (.int 1)))) oN)))))))))
noncomputable def m_law_pool:MO->List D->Option (D×MO):=fnB 0 4 b_law_pool
noncomputable def b_law_keys:FS :=
 (sSeq (sSet 2 (eLCB [0] 0 0 (eV 1) (tB (e2 dEq (e2 dMod (eFb 1 m_law_next aN) (eC (.int 3))) (eC (.int 1)))) (eV 0)))
 (sSeq (sIf (tOr (tB (e2 dEq (eV 2) (eLst aN))) (tB (e2 dEq (e2 dMod (eFb 0 m_law_next aN) (eC (.int 2))) (eC (.int 1)))))
 (sRet (eTup (aC (eC (.str (Str.ofString "but"))) (aC (eF bTuple (aC (eF bSortSet (aC (eV 2) aN)) aN)) aN))))
 sN)
 (sRet (eTup (aC (eC (.str (Str.ofString "only"))) (aC (eF bTuple (aC (eF bSortSet (aC (eV 2) aN)) aN)) aN))))))
noncomputable def m_law_keys:MO->List D->Option (D×MO):=fnB 1 1 b_law_keys
noncomputable abbrev l_law_early_1:FS :=
 (sIf (tB (e2 dLt (eV 3) (eC (.int 26))))
 (sApp 1 (e2 dIx2 (eV 2) (eV 3)))
 (sApp 1 (e2 dAdd (e2 dIx2 (eV 2) (e2 dSub (e2 dDiv (eV 3) (eC (.int 26))) (eC (.int 1)))) (e2 dIx2 (eV 2) (e2 dMod (eV 3) (eC (.int 26)))))))
noncomputable def b_law_early:FS :=
 (sSeq (sOwn 1 (oLst aN))
 (sSeq (sSet 2 (eC (.str (Str.ofString "abcdefghijklmnopqrstuvwxyz"))))
 (sSeq (sForR (gN 3) (rng1 (eV 0)) l_law_early_1)
 (sFrz 1 (sRet (eV 1))))))
noncomputable def m_law_early:List D->Option D:=fnD 1 3 b_law_early
noncomputable def b_law_key:FS :=
 (sSeq (sIf (tOr (tNot (tV (eTy .str (eV 0)))) (tB (e2 dEq (eV 0) (eC (.str (Str.ofString ""))))))
 (sRet (eC (.bl false)))
 sN)
 (sRet (e2 dEq (eLC [] (eV 0) (tB (e2 dNotIn2 (eV 0) (eC (.str (Str.ofString "abcdefghijklmnopqrstuvwxyz"))))) (eV 0)) (eLst aN))))
noncomputable def m_law_key:List D->Option D:=fnD 1 0 b_law_key
noncomputable def b_law_before:FS :=
 (sRet (eLC [1] (eV 0) (tB (e2 dLtP (eTup (aC (eF bLen2 (aC (eV 0) aN)) (aC (eV 0) aN))) (eTup (aC (eF bLen2 (aC (eV 1) aN)) (aC (eV 1) aN))))) (eV 0)))
noncomputable def m_law_before:List D->Option D:=fnD 2 0 b_law_before
noncomputable abbrev l_law_1:FS :=
 (sIf (tAnd (tB (e2 dLtP (eTup (aC (eF bLen2 (aC (eV 10) aN)) (aC (eV 10) aN))) (eTup (aC (eF bLen2 (aC (eV 8) aN)) (aC (eV 8) aN))))) (tAnd (tB (e2 dNotIn2 (eV 10) (e2 dIx2 (eV 3) (eC (.int 1))))) (tB (e2 dNotIn2 (eV 10) (eV 4)))))
 (sRet (eC (.bl false)))
 sN)
noncomputable def b_law:FS :=
 (sSeq (sNew 1 m_law_draws (aC (eV 0) aN))
 (sSeq (sSet 2 (eFb 1 m_law_pool aN))
 (sSeq (sSet 3 (eFb 1 m_law_keys (aC (eV 2) aN)))
 (sSeq (sSet 4 (eLCB [1] 1 0 (e1 dRev (eV 2)) (tB (e2 dEq (e2 dMod (eFb 1 m_law_next aN) (eC (.int 3))) (eC (.int 1)))) (eV 0)))
 (sSeq (sSet 5 (eF m_law_early (aC (e2 dMod (eFb 1 m_law_next aN) (eC (.int 81))) aN)))
 (sSeq (sSet 6 (e2 dMod (eFb 1 m_law_next aN) (eC (.int 3))))
 (sSeq (sIf (tB (e2 dEq (eV 6) (eC (.int 1))))
 (sSet 3 (eTup (aC (eC (.str (Str.ofString "but"))) (aC (eF bTuple (aC (eF (bSortG isS) (aC (eV 5) aN)) aN)) aN))))
 sN)
 (sSeq (sIf (tB (e2 dEq (eV 6) (eC (.int 2))))
 (sSet 4 (e2 dAdd (eV 4) (e1 dRev (eV 5))))
 sN)
 (sSeq (sSet 7 (eF bList (aC (eV 4) aN)))
 (sSeq (sSet 8 (eF m_keys_some (aC (eV 3) (aC (eV 7) aN))))
 (sSeq (sSet 9 (eLC [4] (e2 dIx2 (eV 3) (eC (.int 1))) (tB (e2 dNotIn2 (eV 0) (eV 1))) (eV 0)))
 (sSeq (sIf (tB (e2 dNe (eV 7) (eV 4)))
 (sRet (eC (.bl false)))
 sN)
 (sSeq (sIf (tB (e2 dEq (e2 dIx2 (eV 3) (eC (.int 0))) (eC (.str (Str.ofString "only")))))
 (sSeq (sIf (tB (e2 dEq (eV 9) (eLst aN)))
 (sRet (e2 dIs (eV 8) (eC .non)))
 sN)
 (sRet (eAnd (e2 dIn2 (eV 8) (eV 9)) (e2 dEq (eF m_law_before (aC (eV 9) (aC (eV 8) aN))) (eLst aN)))))
 sN)
 (sSeq (sIf (tOr (tNot (tV (eF m_law_key (aC (eV 8) aN)))) (tOr (tB (e2 dIn2 (eV 8) (e2 dIx2 (eV 3) (eC (.int 1))))) (tB (e2 dIn2 (eV 8) (eV 4)))))
 (sRet (eC (.bl false)))
 sN)
 (sSeq (sFor (gN 10) (eF m_law_early (aC (eC (.int 100)) aN))
 l_law_1)
 (sRet (e2 dLt (eF bLen2 (aC (eV 8) aN)) (eC (.int 3)))))))))))))))))))
noncomputable def m_law:List D->Option D:=fnD 1 10 b_law
end Fx
set_option maxRecDepth 100000
set_option maxHeartbeats 4000000
namespace Fx
open PySem PySem.Spec PyProof.Rows L2
noncomputable def top (i:Nat):Stmt:=PySem.Challenge.pw_latewell_k13_the_first_key.main.body.getD i (.Pass ⟨0,0,0,0⟩)
structure Blt (K:PySem.W.Frag) (mg:Str->Option Value):Prop where
 z_abs:mg "abs"=none
 z_len:mg "len"=none
 z_max:mg "max"=none
 z_min:mg "min"=none
 z_any:mg "any"=none
 z_all:mg "all"=none
 z_range:mg "range"=none
 z_isinstance:mg "isinstance"=none
 z_int:mg "int"=none
 z_bool:mg "bool"=none
 z_str:mg "str"=none
 z_tuple:mg "tuple"=none
 z_list:mg "list"=none
 z_sorted:mg "sorted"=none
 z_dict:mg "dict"=none
 z_set:mg "set"=none
 z_reversed:mg "reversed"=none
 c_LETTERS:∃ t,mg "LETTERS"=some (.str (Str.ofString "abcdefghijklmnopqrstuvwxyz") t)
 c_LONGEST:∃ t,mg "LONGEST"=some (.int 8 t)
section
variable {P:Program}{w:World}{K:PySem.W.Frag}{mg:Str->Option Value}{base:Heap}
noncomputable abbrev s_key_behind:Stmt:=top 3
theorem sc_key_behind:FnScope ["key","stem","letter"] ["key"] (defScope s_key_behind):=⟨rfl,rfl,rfl,by decide +kernel,rfl,by decide +kernel,by decide +kernel⟩
theorem ok_key_behind {f:Addr}{fd:FuncData} (F:Fun K "key_behind" "key_behind" s_key_behind f fd) (bF:Binds K fd ["key"] []) (mF:mg "key_behind"=some (.ref f)) (T:Blt K mg) :DefOk P w K mg base 1 "key_behind" m_key_behind :=
 ⟨f,fd,["key"],fn_ok F sc_key_behind rfl rfl (fun cdv A outer s H E hr =>
 (xsC (xset 1 sc_key_behind.nd (xrst (xv 0) xstr))
 (xsC (xsif (xt (cEq hr.units) (xv 1) xstr)
 (xs1 (xret (xif (xt cLt (xB callLen2 rfl T.z_len PySem.boot_len (xaC (xv 0) xaN)) (xglI T.c_LONGEST)) (xb oMulZ xstr (xb oAdd (xB callLen2 rfl T.z_len PySem.boot_len (xaC (xv 0) xaN)) xint)) xnon)))
 xsN)
 (xsC (xset 2 sc_key_behind.nd (xix2 (xglS T.c_LETTERS) (xb oAdd (xindex (xglS T.c_LETTERS) (xix2 (xv 1) (xneg xint))) xint)))
 (xs1 (xret (xb oAdd (xb oAdd (xsl2 (xv 1) xoN (xoS (xneg xint))) (xv 2)) (xb oMulZ xstr (xb oSub (xB callLen2 rfl T.z_len PySem.boot_len (xaC (xv 0) xaN)) (xB callLen2 rfl T.z_len PySem.boot_len (xaC (xv 1) xaN))))))))))),bF,F.kp,mF⟩
noncomputable abbrev s_keys_some:Stmt:=top 4
theorem sc_keys_some:FnScope ["keys","others","shut","key","names"] ["keys","others"] (defScope s_keys_some):=⟨rfl,rfl,rfl,by decide +kernel,rfl,by decide +kernel,by decide +kernel⟩
theorem ok_keys_some {f:Addr}{fd:FuncData} (F:Fun K "keys_some" "keys_some" s_keys_some f fd) (bF:Binds K fd ["keys","others"] []) (mF:mg "keys_some"=some (.ref f)) (T:Blt K mg) (hC:∃ c,fd.code=.ref c ∧ PySem.W.codeHdIn K c L2.TabP=true) (G_key_behind:DefOk P w K mg base 1 "key_behind" m_key_behind):DefOk P w K mg base 4 "keys_some" m_keys_some :=
 ⟨f,fd,["keys","others"],fn_okc F sc_keys_some rfl rfl (fun cdv A outer s H E hcd hr =>
 (xsC (xdn 2 sc_keys_some.nd)
 (xsC (xfor (xgN 3 sc_keys_some.nd) (xv 1)
 (xs1 (xdk 2 (hu_of hr) (xv 3) xbl)))
 (xsC (xsif (xt (cEq hr.units) (xix2 (xv 0) xint) xstr)
 (xsC (xfzd 2 (xsetlc 4 sc_keys_some.nd (sc:=defScope s_keys_some) rfl rfl (by show ScB ["keys","others","shut","key","names"] (defScope s_keys_some) _ "name" ["shut"] [2];exact⟨rfl,rfl,by decide +kernel,by decide +kernel,rfl,by decide +kernel,by decide +kernel,rfl,by decide +kernel⟩) (xix2 (xv 0) xint) (fun _ _ _ _=>(xts_one (xt (cDnin (hu_of hr)) (xv 0) (xv 1)))) (fun _ _ _ _=>(xv 0))))
 (xs1 (xret (xminS (hr.mono (by decide)) (by obtain⟨c,h1,h2⟩:=hC;exact⟨c,hcd.symm.trans h1,h2⟩) (by exact⟨rfl,rfl,rfl,by decide +kernel,rfl,by decide +kernel,by decide +kernel⟩) (by intros;rfl) (by intro f c A outer s H E;exact (xtup (xaC (xB callLen2 rfl T.z_len PySem.boot_len (xaC (xv 0) xaN)) (xaC (xv 0) xaN)))) T.z_min (xaC (xv 4) xaN)))))
 xsN)
 (xsC (xfor (xgN 3 sc_keys_some.nd) (xix2 (xv 0) xint)
 (xs1 (xdk 2 (hu_of hr) (xv 3) xbl)))
 (xsC (xset 3 sc_keys_some.nd xstr)
 (xsC (xfzd 2 (xwhile (xw (xwand (xt cIsNot (xv 3) xnon) (xwand1 (xt (cDin (hu_of hr)) (xv 3) (xv 2)))))
 (xs1 (xset 3 sc_keys_some.nd (xF G_key_behind (hr.mono (by decide)) (xaC (xv 3) xaN))))))
 (xs1 (xret (xv 3)))))))))),bF,F.kp,mF⟩
noncomputable abbrev s_law_cell_at:Stmt:=top 6
theorem sc_law_cell_at:FnScope ["_law_script","_law_k"] ["_law_script","_law_k"] (defScope s_law_cell_at):=⟨rfl,rfl,rfl,by decide +kernel,rfl,by decide +kernel,by decide +kernel⟩
theorem ok_law_cell_at {f:Addr}{fd:FuncData} (F:Fun K "_law_cell_at" "_law_cell_at" s_law_cell_at f fd) (bF:Binds K fd ["_law_script","_law_k"] []) (mF:mg "_law_cell_at"=some (.ref f)) (T:Blt K mg) :DefOk P w K mg base 1 "_law_cell_at" m_law_cell_at :=
 ⟨f,fd,["_law_script","_law_k"],fn_ok F sc_law_cell_at rfl rfl (fun cdv A outer s H E hr =>
 (xsC (xsif (xt cLt (xv 1) (xB callLen2 rfl T.z_len PySem.boot_len (xaC (xv 0) xaN)))
 (xs1 (xret (xix2 (xv 0) (xv 1))))
 xsN)
 (xs1 (xret xint)))),bF,F.kp,mF⟩
noncomputable abbrev s_law_mixed:Stmt:=top 7
theorem sc_law_mixed:FnScope ["_law_cell","_law_k","_law_number"] ["_law_cell","_law_k"] (defScope s_law_mixed):=⟨rfl,rfl,rfl,by decide +kernel,rfl,by decide +kernel,by decide +kernel⟩
theorem ok_law_mixed {f:Addr}{fd:FuncData} (F:Fun K "_law_mixed" "_law_mixed" s_law_mixed f fd) (bF:Binds K fd ["_law_cell","_law_k"] []) (mF:mg "_law_mixed"=some (.ref f)) (T:Blt K mg) :DefOk P w K mg base 1 "_law_mixed" m_law_mixed :=
 ⟨f,fd,["_law_cell","_law_k"],fn_ok F sc_law_mixed rfl rfl (fun cdv A outer s H E hr =>
 (xsC (xset 2 sc_law_mixed.nd (xb oMod (xb oMul (xb oAdd (xb oAdd (xv 0) (xb oMul xint (xv 1))) xint) xint) xint))
 (xs1 (xret (xb oMod (xb oMul (xv 2) (xb oAdd (xb oDiv (xv 2) xint) xint)) xint))))),bF,F.kp,mF⟩
noncomputable abbrev s_law_draws:Stmt:=top 8
theorem sc_law_draws:FnScope ["_law_script","_law_first"] ["_law_script"] (defScope s_law_draws):=⟨rfl,rfl,rfl,by decide +kernel,rfl,by decide +kernel,by decide +kernel⟩
theorem ok_law_draws {f:Addr}{fd:FuncData} (F:Fun K "_law_draws" "_law_draws" s_law_draws f fd) (bF:Binds K fd ["_law_script"] []) (mF:mg "_law_draws"=some (.ref f)) (T:Blt K mg) (G_law_cell_at:DefOk P w K mg base 1 "_law_cell_at" m_law_cell_at):DefN P w K mg base 2 "_law_draws" m_law_draws :=
 ⟨f,fd,["_law_script"],fnN_ok F sc_law_draws rfl rfl (fun cdv A outer s H E hr =>
 (xnC (xnS (xset 1 sc_law_draws.nd (xF G_law_cell_at (hr.mono (by decide)) (xaC (xv 0) (xaC xint xaN))))) (xn1 (xpC (xv 0) (xpC (xb oMod (xv 1) xint) (xpC xint (xpC xint (xpC (xv 1) (xpC xint xp0))))))))),bF,F.kp,mF⟩
noncomputable abbrev s_law_next:Stmt:=top 9
theorem sc_law_next:FnScope ["_law_draws_here","_law_number","_law_found"] ["_law_draws_here"] (defScope s_law_next):=⟨rfl,rfl,rfl,by decide +kernel,rfl,by decide +kernel,by decide +kernel⟩
theorem ok_law_next {f:Addr}{fd:FuncData} (F:Fun K "_law_next" "_law_next" s_law_next f fd) (bF:Binds K fd ["_law_draws_here"] []) (mF:mg "_law_next"=some (.ref f)) (T:Blt K mg) (G_law_cell_at:DefOk P w K mg base 1 "_law_cell_at" m_law_cell_at) (G_law_mixed:DefOk P w K mg base 1 "_law_mixed" m_law_mixed):DefB P w K mg base 2 "_law_next" m_law_next :=
 ⟨f,fd,["_law_draws_here"],fnB_ok F sc_law_next rfl rfl (fun cdv A outer s H E hr =>
 (xsC (xwhile (xw (xwand (xt (cEq hr.units) (xdg 0 (hu_of hr)) xint) (xwand (xt (cEq hr.units) (xdg 0 (hu_of hr)) xint) (xwand1 (xt cLt (xdg 0 (hu_of hr)) (xB callLen2 rfl T.z_len PySem.boot_len (xaC (xdg 0 (hu_of hr)) xaN)))))))
 (xsC (xdp 0 (hu_of hr) (xB callAbs rfl T.z_abs PyProof.Rows.boot_abs (xaC (xix2 (xdg 0 (hu_of hr)) (xdg 0 (hu_of hr))) xaN)))
 (xs1 (xdp 0 (hu_of hr) (xb oAdd (xdg 0 (hu_of hr)) xint)))))
 (xsC (xsif (xt cGt (xdg 0 (hu_of hr)) xint)
 (xsC (xset 2 sc_law_next.nd (xb oMod (xdg 0 (hu_of hr)) xint))
 (xsC (xdp 0 (hu_of hr) (xb oDiv (xdg 0 (hu_of hr)) xint))
 (xs1 (xret (xv 2)))))
 xsN)
 (xsC (xdp 0 (hu_of hr) (xb oAdd (xdg 0 (hu_of hr)) xint))
 (xsC (xset 1 sc_law_next.nd (xb oAdd (xdg 0 (hu_of hr)) (xF G_law_cell_at (hr.mono (by decide)) (xaC (xdg 0 (hu_of hr)) (xaC (xdg 0 (hu_of hr)) xaN)))))
 (xsC (xdp 0 (hu_of hr) (xF G_law_mixed (hr.mono (by decide)) (xaC (xv 1) (xaC (xdg 0 (hu_of hr)) xaN))))
 (xs1 (xret (xF G_law_mixed (hr.mono (by decide)) (xaC (xdg 0 (hu_of hr)) (xaC xint xaN))))))))))),bF,F.kp,mF⟩
noncomputable abbrev s_law_pool:Stmt:=top 10
theorem sc_law_pool:FnScope ["_law_draws_here","_law_some","_law_word","_law_k","_law_at"] ["_law_draws_here"] (defScope s_law_pool):=⟨rfl,rfl,rfl,by decide +kernel,rfl,by decide +kernel,by decide +kernel⟩
theorem ok_law_pool {f:Addr}{fd:FuncData} (F:Fun K "_law_pool" "_law_pool" s_law_pool f fd) (bF:Binds K fd ["_law_draws_here"] []) (mF:mg "_law_pool"=some (.ref f)) (T:Blt K mg) (G_law_next:DefB P w K mg base 2 "_law_next" m_law_next):DefB P w K mg base 3 "_law_pool" m_law_pool :=
 ⟨f,fd,["_law_draws_here"],fnB_ok F sc_law_pool rfl rfl (fun cdv A outer s H E hr =>
 (xsC (xset 1 sc_law_pool.nd xstr)
 (xsC (xset 2 sc_law_pool.nd xstr)
 (xsC (xforR1 T.z_range (xgN 3 sc_law_pool.nd) (xb oAdd xint (xb oMod (xFb 0 G_law_next (hr.mono (by decide)) xaN) xint)) (xs1 (xset 2 sc_law_pool.nd (xb oAdd (xv 2) (xix2 (xv 1) (xb oMod (xFb 0 G_law_next (hr.mono (by decide)) xaN) xint))))))
 (xsC (xsif (xt (cEq hr.units) (xb oMod (xFb 0 G_law_next (hr.mono (by decide)) xaN) xint) xint)
 (xs1 (xret (xlst (xaC xstr (xaC xstr (xaC xstr (xaC xstr (xaC xstr (xaC xstr (xaC xstr (xaC xstr (xaC xstr xaN))))))))))))
 xsN)
 (xsC (xset 4 sc_law_pool.nd (xb oMod (xFb 0 G_law_next (hr.mono (by decide)) xaN) (xB callLen2 rfl T.z_len PySem.boot_len (xaC (xv 2) xaN))))
 (xs1 (xret (xlc (sc:=defScope s_law_pool) rfl rfl (by show ScB ["_law_draws_here","_law_some","_law_word","_law_k","_law_at"] (defScope s_law_pool) _ "_law_sign" ["_law_word","_law_at"] [2,4];exact⟨rfl,rfl,by decide +kernel,by decide +kernel,rfl,by decide +kernel,by decide +kernel,rfl,by decide +kernel⟩) xstr (fun _ _ _ _=>xts_nil) (fun _ _ _ _=>(xb oAdd (xb oAdd (xsl2 (xv 1) xoN (xoS (xv 2))) (xv 0)) (xsl2 (xv 1) (xoS (xb oAdd (xv 2) xint)) xoN)))))))))))),bF,F.kp,mF⟩
noncomputable abbrev s_law_keys:Stmt:=top 11
theorem sc_law_keys:FnScope ["_law_draws_here","_law_pool_here","_law_names"] ["_law_draws_here","_law_pool_here"] (defScope s_law_keys):=⟨rfl,rfl,rfl,by decide +kernel,rfl,by decide +kernel,by decide +kernel⟩
theorem ok_law_keys {f:Addr}{fd:FuncData} (F:Fun K "_law_keys" "_law_keys" s_law_keys f fd) (bF:Binds K fd ["_law_draws_here","_law_pool_here"] []) (mF:mg "_law_keys"=some (.ref f)) (T:Blt K mg) (G_law_next:DefB P w K mg base 2 "_law_next" m_law_next):DefB P w K mg base 3 "_law_keys" m_law_keys :=
 ⟨f,fd,["_law_draws_here","_law_pool_here"],fnB_ok F sc_law_keys rfl rfl (fun cdv A outer s H E hr =>
 (xsC (xsetlcB 2 sc_law_keys.nd 0 0 (sc:=defScope s_law_keys) rfl rfl (by show ScB ["_law_draws_here","_law_pool_here","_law_names"] (defScope s_law_keys) _ "_law_name" ["_law_draws_here"] [0];exact⟨rfl,rfl,by decide +kernel,by decide +kernel,rfl,by decide +kernel,by decide +kernel,rfl,by decide +kernel⟩) (xv 1) (fun _ _ _ _=>(xts_one (xt (cEq hr.units) (xb oMod (xFb 1 G_law_next (hr.mono (by decide)) xaN) xint) xint))) (fun _ _ _ _=>(xv 0)))
 (xsC (xsif (xw (xwor (xt (cEq hr.units) (xv 2) (xlst xaN)) (xwor1 (xt (cEq hr.units) (xb oMod (xFb 0 G_law_next (hr.mono (by decide)) xaN) xint) xint))))
 (xs1 (xret (xtup (xaC xstr (xaC (xTy callTuple rfl T.z_tuple PyProof.Rows.boot_tuple (xaC (xsortset T.z_set T.z_sorted (xv 2)) xaN)) xaN)))))
 xsN)
 (xs1 (xret (xtup (xaC xstr (xaC (xTy callTuple rfl T.z_tuple PyProof.Rows.boot_tuple (xaC (xsortset T.z_set T.z_sorted (xv 2)) xaN)) xaN)))))))),bF,F.kp,mF⟩
noncomputable abbrev s_law_early:Stmt:=top 13
theorem sc_law_early:FnScope ["_law_many","_law_found","_law_some","_law_k"] ["_law_many"] (defScope s_law_early):=⟨rfl,rfl,rfl,by decide +kernel,rfl,by decide +kernel,by decide +kernel⟩
theorem ok_law_early {f:Addr}{fd:FuncData} (F:Fun K "_law_early" "_law_early" s_law_early f fd) (bF:Binds K fd ["_law_many"] []) (mF:mg "_law_early"=some (.ref f)) (T:Blt K mg) :DefOk P w K mg base 1 "_law_early" m_law_early :=
 ⟨f,fd,["_law_many"],fn_ok F sc_law_early rfl rfl (fun cdv A outer s H E hr =>
 (xsC (xown 1 sc_law_early.nd (xoLst xaN))
 (xsC (xset 2 sc_law_early.nd xstr)
 (xsC (xforR1 T.z_range (xgN 3 sc_law_early.nd) (xv 0) (xs1 (xsif (xt cLt (xv 3) xint)
 (xs1 (xapp 1 (xaC (xix2 (xv 2) (xv 3)) xaN)))
 (xs1 (xapp 1 (xaC (xb oAdd (xix2 (xv 2) (xb oSub (xb oDiv (xv 3) xint) xint)) (xix2 (xv 2) (xb oMod (xv 3) xint))) xaN))))))
 (xs1 (xfrz 1 (xret (xv 1)))))))),bF,F.kp,mF⟩
noncomputable abbrev s_law_key:Stmt:=top 14
theorem sc_law_key:FnScope ["_law_found"] ["_law_found"] (defScope s_law_key):=⟨rfl,rfl,rfl,by decide +kernel,rfl,by decide +kernel,by decide +kernel⟩
theorem ok_law_key {f:Addr}{fd:FuncData} (F:Fun K "_law_key" "_law_key" s_law_key f fd) (bF:Binds K fd ["_law_found"] []) (mF:mg "_law_key"=some (.ref f)) (T:Blt K mg) :DefOk P w K mg base 1 "_law_key" m_law_key :=
 ⟨f,fd,["_law_found"],fn_ok F sc_law_key rfl rfl (fun cdv A outer s H E hr =>
 (xsC (xsif (xw (xwor (xtnot (xtv (xty (t:=.str) T.z_isinstance T.z_str PyProof.Rows.boot_str (xv 0)) (fun _=>rfl))) (xwor1 (xt (cEq hr.units) (xv 0) xstr))))
 (xs1 (xret xbl))
 xsN)
 (xs1 (xret (xcmp (cEq hr.units) (xlc (sc:=defScope s_law_key) rfl rfl (by show ScB ["_law_found"] (defScope s_law_key) _ "_law_sign" [] [];exact⟨rfl,rfl,by decide +kernel,by decide +kernel,rfl,by decide +kernel,by decide +kernel,rfl,by decide +kernel⟩) (xv 0) (fun _ _ _ _=>(xts_one (xt cNotIn2 (xv 0) xstr))) (fun _ _ _ _=>(xv 0))) (xlst xaN)))))),bF,F.kp,mF⟩
noncomputable abbrev s_law_before:Stmt:=top 15
theorem sc_law_before:FnScope ["_law_names","_law_found"] ["_law_names","_law_found"] (defScope s_law_before):=⟨rfl,rfl,rfl,by decide +kernel,rfl,by decide +kernel,by decide +kernel⟩
theorem ok_law_before {f:Addr}{fd:FuncData} (F:Fun K "_law_before" "_law_before" s_law_before f fd) (bF:Binds K fd ["_law_names","_law_found"] []) (mF:mg "_law_before"=some (.ref f)) (T:Blt K mg) :DefOk P w K mg base 1 "_law_before" m_law_before :=
 ⟨f,fd,["_law_names","_law_found"],fn_ok F sc_law_before rfl rfl (fun cdv A outer s H E hr =>
 (xs1 (xret (xlc (sc:=defScope s_law_before) rfl rfl (by show ScB ["_law_names","_law_found"] (defScope s_law_before) _ "_law_name" ["_law_found"] [1];exact⟨rfl,rfl,by decide +kernel,by decide +kernel,rfl,by decide +kernel,by decide +kernel,rfl,by decide +kernel⟩) (xv 0) (fun _ _ _ _=>(xts_one (xt (cLtP (Nat.lt_of_le_of_lt (Nat.le_add_right _ 64) hr.units)) (xtup (xaC (xB callLen2 rfl T.z_len PySem.boot_len (xaC (xv 0) xaN)) (xaC (xv 0) xaN))) (xtup (xaC (xB callLen2 rfl T.z_len PySem.boot_len (xaC (xv 1) xaN)) (xaC (xv 1) xaN)))))) (fun _ _ _ _=>(xv 0)))))),bF,F.kp,mF⟩
noncomputable abbrev s_law:Stmt:=top 16
theorem sc_law:FnScope ["_law_script","_law_draws_here","_law_pool_here","_law_keys_here","_law_others","_law_early_here","_law_form","_law_handed","_law_found","_law_left","_law_name"] ["_law_script"] (defScope s_law):=⟨rfl,rfl,rfl,by decide +kernel,rfl,by decide +kernel,by decide +kernel⟩
theorem fn_law {f:Addr}{fd:FuncData} (F:Fun K "law" "law" s_law f fd) (T:Blt K mg) (G_law_before:DefOk P w K mg base 1 "_law_before" m_law_before) (G_law_draws:DefN P w K mg base 2 "_law_draws" m_law_draws) (G_law_early:DefOk P w K mg base 1 "_law_early" m_law_early) (G_law_key:DefOk P w K mg base 1 "_law_key" m_law_key) (G_law_keys:DefB P w K mg base 3 "_law_keys" m_law_keys) (G_law_next:DefB P w K mg base 2 "_law_next" m_law_next) (G_law_pool:DefB P w K mg base 3 "_law_pool" m_law_pool) (G_keys_some:DefOk P w K mg base 4 "keys_some" m_keys_some):FnOk P w K mg base CX0 5 f fd ["_law_script"] (spP K m_law) :=
 fn_ok F sc_law rfl rfl (fun cdv A outer s H E hr =>
 (xsC (xnew 1 sc_law.nd G_law_draws (hr.mono (by decide)) (xaC (xv 0) xaN))
 (xsC (xset 2 sc_law.nd (xFb 1 G_law_pool (hr.mono (by decide)) xaN))
 (xsC (xset 3 sc_law.nd (xFb 1 G_law_keys (hr.mono (by decide)) (xaC (xv 2) xaN)))
 (xsC (xset 4 sc_law.nd (xlcBr 1 0 T.z_reversed (sc:=defScope s_law) rfl rfl (by show ScB ["_law_script","_law_draws_here","_law_pool_here","_law_keys_here","_law_others","_law_early_here","_law_form","_law_handed","_law_found","_law_left","_law_name"] (defScope s_law) _ "_law_name" ["_law_draws_here"] [1];exact⟨rfl,rfl,by decide +kernel,by decide +kernel,rfl,by decide +kernel,by decide +kernel,rfl,by decide +kernel⟩) (xv 2) (fun _ _ _ _=>(xts_one (xt (cEq hr.units) (xb oMod (xFb 1 G_law_next (hr.mono (by decide)) xaN) xint) xint))) (fun _ _ _ _=>(xv 0))))
 (xsC (xset 5 sc_law.nd (xF G_law_early (hr.mono (by decide)) (xaC (xb oMod (xFb 1 G_law_next (hr.mono (by decide)) xaN) xint) xaN)))
 (xsC (xset 6 sc_law.nd (xb oMod (xFb 1 G_law_next (hr.mono (by decide)) xaN) xint))
 (xsC (xsif (xt (cEq hr.units) (xv 6) xint)
 (xs1 (xset 3 sc_law.nd (xtup (xaC xstr (xaC (xTy callTuple rfl T.z_tuple PyProof.Rows.boot_tuple (xaC (xB (callSortG sh_str) rfl T.z_sorted PyProof.Rows.boot_sorted (xaC (xv 5) xaN)) xaN)) xaN)))))
 xsN)
 (xsC (xsif (xt (cEq hr.units) (xv 6) xint)
 (xs1 (xset 4 sc_law.nd (xb oAdd (xv 4) (xlistrev T.z_list T.z_reversed rfl (xv 5)))))
 xsN)
 (xsC (xset 7 sc_law.nd (xTy callList rfl T.z_list PyProof.Rows.boot_list (xaC (xv 4) xaN)))
 (xsC (xset 8 sc_law.nd (xF G_keys_some (hr.mono (by decide)) (xaC (xv 3) (xaC (xv 7) xaN))))
 (xsC (xsetlc 9 sc_law.nd (sc:=defScope s_law) rfl rfl (by show ScB ["_law_script","_law_draws_here","_law_pool_here","_law_keys_here","_law_others","_law_early_here","_law_form","_law_handed","_law_found","_law_left","_law_name"] (defScope s_law) _ "_law_name" ["_law_others"] [4];exact⟨rfl,rfl,by decide +kernel,by decide +kernel,rfl,by decide +kernel,by decide +kernel,rfl,by decide +kernel⟩) (xix2 (xv 3) xint) (fun _ _ _ _=>(xts_one (xt cNotIn2 (xv 0) (xv 1)))) (fun _ _ _ _=>(xv 0)))
 (xsC (xsif (xt (cNe hr.units) (xv 7) (xv 4))
 (xs1 (xret xbl))
 xsN)
 (xsC (xsif (xt (cEq hr.units) (xix2 (xv 3) xint) xstr)
 (xsC (xsif (xt (cEq hr.units) (xv 9) (xlst xaN))
 (xs1 (xret (xcmp cIs (xv 8) xnon)))
 xsN)
 (xs1 (xret (xand (xcmp cIn2 (xv 8) (xv 9)) (xone (xcmp (cEq hr.units) (xF G_law_before (hr.mono (by decide)) (xaC (xv 9) (xaC (xv 8) xaN))) (xlst xaN)))))))
 xsN)
 (xsC (xsif (xw (xwor (xtnot (xtv (xF G_law_key (hr.mono (by decide)) (xaC (xv 8) xaN)) (fun _=>rfl))) (xwor (xt cIn2 (xv 8) (xix2 (xv 3) xint)) (xwor1 (xt cIn2 (xv 8) (xv 4))))))
 (xs1 (xret xbl))
 xsN)
 (xsC (xfor (xgN 10 sc_law.nd) (xF G_law_early (hr.mono (by decide)) (xaC xint xaN))
 (xs1 (xsif (xw (xwand (xt (cLtP (Nat.lt_of_le_of_lt (Nat.le_add_right _ 64) hr.units)) (xtup (xaC (xB callLen2 rfl T.z_len PySem.boot_len (xaC (xv 10) xaN)) (xaC (xv 10) xaN))) (xtup (xaC (xB callLen2 rfl T.z_len PySem.boot_len (xaC (xv 8) xaN)) (xaC (xv 8) xaN)))) (xwand (xt cNotIn2 (xv 10) (xix2 (xv 3) xint)) (xwand1 (xt cNotIn2 (xv 10) (xv 4))))))
 (xs1 (xret xbl))
 xsN)))
 (xs1 (xret (xcmp cLt (xB callLen2 rfl T.z_len PySem.boot_len (xaC (xv 8) xaN)) xint)))))))))))))))))))
end
end Fx
namespace Fx
open PySem
noncomputable def fnBa (o:Option Res):Option (D×MO):=bnd o fun r=>retB r
noncomputable def retBa (d:D) (o:Option (Bool×MO)):Option (D×MO):=bnd o fun q=>if q.1=true then some (d,q.2) else none
@[simp] theorem fnB_ (n k:Nat) (B:FS) (o:MO) (ds:List D):fnB n k B o ds=if ds.length=n then fnBa (B (.ow true o::(ds.map .im++List.replicate k .no))) else none:=Eq.trans rfl rfl
@[simp] theorem fnBa_r (d:D) (ρ:En):fnBa (some (.rt d ρ))=retBa d (owO ρ[0]?):=Eq.trans rfl rfl
@[simp] theorem fnBa_n (ρ:En):fnBa (some (.nx ρ))=retBa .non (owO ρ[0]?):=Eq.trans rfl rfl
@[simp] theorem retBa_s (d:D) (o:MO):retBa d (some (true,o))=some (d,o):=Eq.trans rfl rfl
@[simp] theorem fnN_ (n k:Nat) (F:En->Option MO) (ds:List D):fnN n k F ds=if ds.length=n then F (ds.map .im++List.replicate k .no) else none:=Eq.trans rfl rfl
noncomputable def nSeqa (F:En->Option MO) (o:Option Res):Option MO:=bnd o fun r=>match r with
 |.nx ρ'=>F ρ'
 |_=>none
@[simp] theorem nSeq_ (A:FS) (F:En->Option MO) (ρ:En):nSeq A F ρ=nSeqa F (A ρ):=Eq.trans rfl rfl
@[simp] theorem nSeqa_n (F:En->Option MO) (ρ:En):nSeqa F (some (.nx ρ))=F ρ:=Eq.trans rfl rfl
noncomputable def nReta (ks:List Str) (o:Option (List D×En)):Option MO:=bnd o fun p=>if p.1.length=ks.length/\ks.length<=15/\ks.Nodup then some (.dic (ks.zip p.1)) else none
@[simp] theorem nRet_ (ks:List Str) (A:FA) (ρ:En):nRet ks A ρ=if ρ.all noOw=true then nReta ks (A ρ) else none:=Eq.trans rfl rfl
@[simp] theorem nReta_s (ks:List Str) (ds:List D) (ρ:En):nReta ks (some (ds,ρ))=if ds.length=ks.length/\ks.length<=15/\ks.Nodup then some (.dic (ks.zip ds)) else none:=Eq.trans rfl rfl
noncomputable def lcBb (js:List Nat) (i q:Nat) (ρ:En) (b:Bool) (xs:List D) (o:Option (List D×MO)):Option (D×En):=bnd o fun t=>if xs.length<=sizeLine/\js[q]?=some i/\js.Nodup then some (.lst t.1,ρ.set i (.ow b t.2)) else none
noncomputable def lcBa (js:List Nat) (i q:Nat) (T:FT) (F:FE) (xs:List D) (ρ:En) (o:Option (Bool×MO)):Option (D×En):=bnd o fun w=>lcBb js i q ρ w.1 xs (cGoB T F ρ i js q w.2 xs)
@[simp] theorem lcB_ (js:List Nat) (i q:Nat) (T:FT) (F:FE) (xs:List D) (ρ:En):lcB js i q T F xs ρ=lcBa js i q T F xs ρ (owO ρ[i]?):=Eq.trans rfl rfl
@[simp] theorem lcBa_s (js:List Nat) (i q:Nat) (T:FT) (F:FE) (xs:List D) (ρ:En) (b:Bool) (o:MO):lcBa js i q T F xs ρ (some (b,o))=lcBb js i q ρ b xs (cGoB T F ρ i js q o xs):=Eq.trans rfl rfl
@[simp] theorem lcBb_s (js:List Nat) (i q:Nat) (ρ:En) (b:Bool) (xs ys:List D) (o:MO):lcBb js i q ρ b xs (some (ys,o))=if xs.length<=sizeLine/\js[q]?=some i/\js.Nodup then some (.lst ys,ρ.set i (.ow b o)) else none:=Eq.trans rfl rfl
noncomputable def eLCBb (js:List Nat) (i q:Nat) (T:FT) (F:FE) (ρ:En) (o:Option (List D)):Option (D×En):=bnd o fun xs=>lcB js i q T F xs ρ
noncomputable def eLCBa (js:List Nat) (i q:Nat) (T:FT) (F:FE) (o:Option (D×En)):Option (D×En):=bnd o fun p=>eLCBb js i q T F p.2 (items p.1)
@[simp] theorem eLCB_ (js:List Nat) (i q:Nat) (I:FE) (T:FT) (F:FE) (ρ:En):eLCB js i q I T F ρ=eLCBa js i q T F (I ρ):=Eq.trans rfl rfl
@[simp] theorem eLCBa_s (js:List Nat) (i q:Nat) (T:FT) (F:FE) (x:D) (ρ:En):eLCBa js i q T F (some (x,ρ))=eLCBb js i q T F ρ (items x):=Eq.trans rfl rfl
@[simp] theorem eLCBb_s (js:List Nat) (i q:Nat) (T:FT) (F:FE) (ρ:En) (xs:List D):eLCBb js i q T F ρ (some xs)=lcB js i q T F xs ρ:=Eq.trans rfl rfl
end Fx
namespace Fx
open PySem
theorem fGo_all {g:D->En->Option En}{B:FS} (P:En->Prop):∀ (vs:List D) (ρ:En),(∀ v ρ,v∈vs->P ρ->∃ ρ1 ρ2,g v ρ=some ρ1/\B ρ1=some (.nx ρ2)/\P ρ2)->P ρ->∃ ρ',fGo g B vs ρ=some (.nx ρ')/\P ρ'
 |[],ρ,_,p=>⟨ρ,rfl,p⟩
 |v::vs,ρ,h,p=>by
  obtain⟨ρ1,ρ2,h1,h2,p2⟩:=h v ρ (List.mem_cons_self ..) p;obtain⟨ρ',e,p'⟩:=fGo_all P vs ρ2 (fun u ρ hu q=>h u ρ (List.mem_cons_of_mem _ hu) q) p2
  refine⟨ρ',?_,p'⟩;rw[fGo_c,h1,fGa_s,h2,fGb_n];exact e
theorem okMul_r {i j:Int} (h:j.natAbs<2 ^ 64):okMul i j=true:=by
 unfold okMul;rw[decide_eq_true h];simp
theorem okMul_l {i j:Int} (h:i.natAbs<2 ^ 64):okMul i j=true:=by
 unfold okMul;rw[decide_eq_true h];simp
theorem okDiv_s {j:Int} (h0:j≠0) (h:j.natAbs<2 ^ 64):okDiv j=true:=by
 unfold okDiv;rw[decide_eq_true h0,decide_eq_true (Nat.lt_trans h (Nat.pow_lt_pow_right (by decide) (by decide)))];rfl
end Fx
namespace Fx
open PySem
noncomputable def drD (ns:List Int) (wy l a nb kk:Int):List (Str×D):=[(Str.ofString "script",.lst (ns.map .int)),(Str.ofString "way",.int wy),(Str.ofString "left",.int l),(Str.ofString "at",.int a),(Str.ofString "number",.int nb),(Str.ofString "k",.int kk)]
section
variable (ns:List Int) (wy l a nb kk:Int) (d:Int)
theorem drS:getK (Str.ofString "script") (drD ns wy l a nb kk)=some (.lst (ns.map .int)):=rfl
theorem drW:getK (Str.ofString "way") (drD ns wy l a nb kk)=some (.int wy):=rfl
theorem drL:getK (Str.ofString "left") (drD ns wy l a nb kk)=some (.int l):=rfl
theorem drA:getK (Str.ofString "at") (drD ns wy l a nb kk)=some (.int a):=rfl
theorem drN:getK (Str.ofString "number") (drD ns wy l a nb kk)=some (.int nb):=rfl
theorem drK:getK (Str.ofString "k") (drD ns wy l a nb kk)=some (.int kk):=rfl
theorem stL:setK (Str.ofString "left") (.int d) (drD ns wy l a nb kk)=drD ns wy d a nb kk:=rfl
theorem stA:setK (Str.ofString "at") (.int d) (drD ns wy l a nb kk)=drD ns wy l d nb kk:=rfl
theorem stN:setK (Str.ofString "number") (.int d) (drD ns wy l a nb kk)=drD ns wy l a d kk:=rfl
theorem stK:setK (Str.ofString "k") (.int d) (drD ns wy l a nb kk)=drD ns wy l a nb d:=rfl
theorem drlen:(drD ns wy l a nb kk).length=6:=rfl
end
theorem at_ints (ns:List Int) {i:Int} (h0:0<=i) (h1:i<ns.length):∃ x:Int,atD (ns.map D.int) i=some (.int x):=by
 have hi:i.toNat<ns.length:=by omega
 refine⟨ns[i.toNat],?_⟩;unfold atD dPl;rw[List.length_map,if_pos h0,if_pos h1];show (ns.map D.int)[i.toNat]?=_;rw[List.getElem?_map,List.getElem?_eq_getElem hi];rfl
theorem cell_eq (ns:List Int) {k:Int} (h0:0<=k):∃ x:Int,m_law_cell_at [.lst (ns.map .int),.int k]=some (.int x):=by
 by_cases h:k<ns.length
 ·obtain⟨x,e⟩:=at_ints ns h0 h
  exact⟨x,by simp[m_law_cell_at,b_law_cell_at,h,e]⟩
 ·exact⟨0,by simp[m_law_cell_at,b_law_cell_at,h]⟩
theorem mixed_eq (c k:Int):∃ r:Int,m_law_mixed [.int c,.int k]=some (.int r)/\0<=r:=by
 have a:∀ x:Int,0<=Int.fmod x 2147483647/\Int.fmod x 2147483647<2147483647:=fun x=>⟨Int.fmod_nonneg_of_pos _ (by decide),Int.fmod_lt_of_pos _ (by decide)⟩
 have m1:∀ x:Int,okMul x 48271=true:=fun x=>okMul_r (by decide)
 have m2:okMul 7919 k=true:=okMul_l (by decide)
 have m4:∀ x y:Int,okMul (Int.fmod x 2147483647) y=true:=fun x y=>okMul_l (by have:=a x;omega)
 have d1:okDiv 1009=true:=okDiv_s (by decide) (by decide)
 exact⟨_,by simp[m_law_mixed,b_law_mixed,m1,m2,m4,d1];rfl,(a _).1⟩
noncomputable abbrev drE (ns:List Int) (wy l a nb kk:Int) (s1 s2:Sl):En:=[.ow true (.dic (drD ns wy l a nb kk)),s1,s2]
theorem cond_no {ns:List Int}{wy l a nb kk:Int}{s1 s2:Sl} (h:¬ (wy=1/\l=0/\a<ns.length)):l_law_next_2 (drE ns wy l a nb kk s1 s2)=some (false,drE ns wy l a nb kk s1 s2):=by
 by_cases h1:wy=1
 ·by_cases h2:l=0
  ·have h3:¬ a<ns.length:=fun z=>h ⟨h1,h2,z⟩
   simp[l_law_next_2,drW,drL,drA,drS,h1,h2,h3]
  ·simp[l_law_next_2,drW,drL,drA,drS,h1,h2]
 ·simp[l_law_next_2,drW,drL,drA,drS,h1]
theorem cond_yes {ns:List Int}{wy l a nb kk:Int}{s1 s2:Sl} (h1:wy=1) (h2:l=0) (h3:a<ns.length):l_law_next_2 (drE ns wy l a nb kk s1 s2)=some (true,drE ns wy l a nb kk s1 s2):=by
 simp[l_law_next_2,drW,drL,drA,drS,h1,h2,h3]
theorem turn_next {ns:List Int}{wy l a nb kk:Int}{s1 s2:Sl} (h0:0<=a) (h3:a<ns.length):∃ l':Int,l_law_next_1 (drE ns wy l a nb kk s1 s2)=some (.nx (drE ns wy l' (a+1) nb kk s1 s2))/\0<=l':=by
 obtain⟨x,e⟩:=at_ints ns h0 h3;refine⟨(x.natAbs:Int),?_,by omega⟩
 simp[l_law_next_1,drW,drL,drA,drS,e,drlen,stL,stA]
theorem while_next (ns:List Int) (wy nb kk:Int) (s1 s2:Sl):∀ (m:Nat) (l a:Int),0<=l->1<=a->(ns.length:Int)-a<m->∀ f,m<f ->
  ∃ l' a':Int,wGo l_law_next_2 l_law_next_1 f (drE ns wy l a nb kk s1 s2)=some (.nx (drE ns wy l' a' nb kk s1 s2))/\0<=l'/\1<=a'
 |m,l,a,hl,ha,hm,f,hf=>by
  obtain⟨f,rfl⟩:∃ g,f=g+1:=⟨f-1,by omega⟩
  rw[wGo_s]
  by_cases h:wy=1/\l=0/\a<ns.length
  ·obtain⟨l',e,hl'⟩:=turn_next (wy:=wy) (l:=l) (nb:=nb) (kk:=kk) (s1:=s1) (s2:=s2) (show (0:Int)<=a by omega) h.2.2
   rw[cond_yes h.1 h.2.1 h.2.2,wGa_t,e,wGb_n]
   match m,hm,hf with
   |0,hm,_=>omega
   |m+1,hm,hf=>exact while_next ns wy nb kk s1 s2 m l' (a+1) hl' (by omega) (by omega) f (by omega)
  ·rw[cond_no h,wGa_f]
   exact⟨l,a,rfl,hl,ha⟩
noncomputable def DrOk (ns:List Int) (o:MO):Prop:=∃ wy l a nb kk:Int,o=.dic (drD ns wy l a nb kk)/\0<=l/\1<=a/\0<=kk
theorem next_ok {ns:List Int} (hn:ns.length<=63) {o:MO} (h:DrOk ns o):∃ (r:Int) (o':MO),m_law_next o []=some (.int r,o')/\0<=r/\DrOk ns o':=by
 obtain⟨wy,l,a,nb,kk,rfl,hl,ha,hk⟩:=h;obtain⟨l',a',e,hl',ha'⟩:=while_next ns wy nb kk .no .no 64 l a hl ha (by omega) 200 (by decide)
 by_cases hp:0<l'
 ·have d1:okDiv 1000003=true:=okDiv_s (by decide) (by decide)
  have f0:=Int.fmod_nonneg_of_pos l' (b:=1000003) (by decide)
  have q:l'.fdiv 1000003=l' / 1000003:=Int.fdiv_eq_ediv_of_nonneg _ (by decide)
  refine⟨l'.fmod 1000003,.dic (drD ns wy (l' / 1000003) a' nb kk),?_,f0,wy,l' / 1000003,a',nb,kk,rfl,Int.ediv_nonneg hl' (by decide),ha',hk⟩
  simp[m_law_next,b_law_next,List.replicate,e,drL,hp,d1,q,drlen,stL]
 ·obtain⟨x,ex⟩:=cell_eq ns (k:=kk+1) (by omega)
  obtain⟨r1,e1,_⟩:=mixed_eq (nb+x) (kk+1);obtain⟨r2,e2,h2⟩:=mixed_eq r1 7;refine⟨r2,.dic (drD ns wy l' a' r1 (kk+1)),?_,h2,wy,l',a',r1,kk+1,rfl,hl',ha',by omega⟩
  simp[m_law_next,b_law_next,List.replicate,e,drL,hp,drK,drN,drS,drlen,stK,stN,ex,e1,e2]
end Fx
namespace Fx
open PySem
noncomputable abbrev alpha:Str:=Str.ofString "abcdefghijklmnopqrstuvwxyz"
theorem alpha_len:alpha.length=26:=by decide +kernel
theorem alpha_at:∀ j:Nat,j<26->alpha.cps.toList[j]?=some (97+j):=by
 have e:alpha.cps.toList=List.range' 97 26:=by decide +kernel
 intro j hj;rw[e,List.getElem?_range' hj];simp
theorem small_line {n:Nat} (h:n<=1000):n<=sizeLine:=Nat.le_trans h (by decide)
theorem letter_ix {i:Int} (h0:0<=i) (h1:i<26):atS alpha i=some (.str (chS (97+i.toNat))):=by
 unfold atS;rw[if_pos (by rw[alpha_len];exact small_line (by decide))]
 have l:alpha.cps.toList.length=26:=by decide +kernel
 unfold dPl;rw[l,if_pos h0,if_pos (by exact_mod_cast h1),bnd_some,alpha_at _ (by omega),bnd_some]
theorem fm26 (x:Int):0<=x.fmod 26/\x.fmod 26<26:=⟨Int.fmod_nonneg_of_pos _ (by decide),Int.fmod_lt_of_pos _ (by decide)⟩
noncomputable def ltr (x:Int):Str:=chS (97+(x.fmod 26).toNat)
theorem ltr_ix (x:Int):atS alpha (x.fmod 26)=some (.str (ltr x)):=letter_ix (fm26 x).1 (fm26 x).2
theorem ltr_len (x:Int):(ltr x).length=1:=rfl
theorem app_len (a b:Str):(a++b).length=a.length+b.length:=by
 show (a.cps++b.cps).size=_;rw[Array.size_append];rfl
theorem fGo_rngI {g:D->En->Option En}{B:FS} (P:Nat->En->Prop):∀ (n:Nat) (lo:Int) (k:Nat) (ρ:En),(∀ (i:Nat) (v:Int) ρ,i<k+n->P i ρ->∃ ρ1 ρ2,g (.int v) ρ=some ρ1/\B ρ1=some (.nx ρ2)/\P (i+1) ρ2)->P k ρ->∃ ρ',fGo g B (rngD lo n) ρ=some (.nx ρ')/\P (k+n) ρ'
 |0,lo,k,ρ,_,p=>⟨ρ,rfl,p⟩
 |n+1,lo,k,ρ,h,p=>by
  obtain⟨ρ1,ρ2,h1,h2,p2⟩:=h k lo ρ (by omega) p
  obtain⟨ρ',e,p'⟩:=fGo_rngI P n (lo+1) (k+1) ρ2 (fun i v ρ hi q=>h i v ρ (by omega) q) p2
  refine⟨ρ',?_,by rw[show k+(n+1)=k+1+n by omega];exact p'⟩
  rw[show rngD lo (n+1)=.int lo::rngD (lo+1) n from rfl,fGo_c,h1,fGa_s,h2,fGb_n];exact e
end Fx
namespace Fx
open PySem
theorem pool_turn {ns:List Int} (hn:ns.length<=63) (s4:Sl) (i:Nat) (v:Int) (ρ:En) (hi:i<100) (p:∃ o wd s3,DrOk ns o/\wd.length=i/\ρ=[.ow true o,.im (.str alpha),.im (.str wd),s3,s4]) :
  ∃ ρ1 ρ2,gN 3 (.int v) ρ=some ρ1/\l_law_pool_1 ρ1=some (.nx ρ2)/\∃ o wd s3,DrOk ns o/\wd.length=i+1/\ρ2=[.ow true o,.im (.str alpha),.im (.str wd),s3,s4]:=by
 obtain⟨o,wd,s3,ho,hl,rfl⟩:=p;obtain⟨r,o',e,hr,ho'⟩:=next_ok hn ho;have lz:wd.length+(ltr r).length<=sizeLine:=small_line (by rw[ltr_len];omega)
 refine⟨_,[.ow true o',.im (.str alpha),.im (.str (wd++ltr r)),.im (.int v),s4],rfl,?_,o',wd++ltr r,_,ho',by rw[app_len,ltr_len,hl],rfl⟩
 simp[l_law_pool_1,e,ltr_ix,lz]
theorem signs_go (wd:Str) (hw:wd.length<=100) (at_:Int):∀ cs:List Nat,∃ ks:List Str,cGo tYes (e2 dAdd (e2 dAdd (eSl2 (eV 1) oN (oS (eV 2))) (eV 0)) (eSl2 (eV 1) (oS (e2 dAdd (eV 2) (eC (.int 1)))) oN)) [.im (.str wd),.im (.int at_)] (cs.map fun c=>.str (chS c))=some (ks.map .str)/\ks.length=cs.length/\(∀ k∈ks,k.length<=300/\∃ c∈cs,c∈k.cps.toList)
 |[]=>⟨[],rfl,rfl,fun k h=>by cases h⟩
 |c::r=>by
  obtain⟨ks,e,l,m⟩:=signs_go wd hw at_ r;have wz:wd.length<=sizeLine:=small_line (by omega)
  have s1:=Txt.slice_le wd none (some at_);have s2:=Txt.slice_le wd (some (at_+1)) none;have cl:(chS c).length=1:=rfl;have z1:(Txt.slice wd none (some at_)).length+(chS c).length<=sizeLine:=small_line (by omega)
  have z2:(Txt.slice wd none (some at_)++chS c).length+(Txt.slice wd (some (at_+1)) none).length<=sizeLine:=small_line (by rw[app_len];omega)
  refine⟨(Txt.slice wd none (some at_)++chS c++Txt.slice wd (some (at_+1)) none)::ks,?_,by rw[List.length_cons,List.length_cons,l],fun k hk=>?_⟩
  rotate_left
  ·rcases List.mem_cons.mp hk with rfl | hk
   ·refine⟨by rw[app_len,app_len];omega,c,by simp,?_⟩
    show c∈((Txt.slice wd none (some at_)).cps++#[c]++(Txt.slice wd (some (at_+1)) none).cps).toList;simp
   ·obtain⟨m1,c',m2,m3⟩:=m k hk
    exact⟨m1,c',by simp[m2],m3⟩
  rw[List.map_cons,cGo_c];show cGa _ _ _ _ (some (true,_))=_;have st:e2 dAdd (e2 dAdd (eSl2 (eV 1) oN (oS (eV 2))) (eV 0)) (eSl2 (eV 1) (oS (e2 dAdd (eV 2) (eC (.int 1)))) oN) [.im (.str (chS c)),.im (.str wd),.im (.int at_)]
    = some (.str (Txt.slice wd none (some at_)++chS c++Txt.slice wd (some (at_+1)) none),[.im (.str (chS c)),.im (.str wd),.im (.int at_)]):=by
   simp[wz,z1,z2]
  rw[cGa_t,st,cGb_s,e,cnsO_s];rfl
noncomputable abbrev poolS:List Str:=[Str.ofString "a",Str.ofString "b",Str.ofString "z",Str.ofString "aa",Str.ofString "ab",Str.ofString "az",Str.ofString "ba",Str.ofString "zz",Str.ofString "aaa"]
theorem pool_ok {ns:List Int} (hn:ns.length ≤ 63) {o:MO} (ho:DrOk ns o):∃ (ks:List Str) (o':MO),m_law_pool o []=some (.lst (ks.map .str),o') ∧ ks.length=9 ∧ (∀ k∈ks,k.length ≤ 300) ∧ Str.ofString "q"∉ks ∧ DrOk ns o':=by
 obtain⟨r1,o1,e1,h1,ho1⟩:=next_ok hn ho;have f0:=Int.fmod_nonneg_of_pos r1 (b:=8) (by decide)
 have f1:=Int.fmod_lt_of_pos r1 (b:=8) (by decide)
 have el:(Str.ofString "").length=0:=by decide +kernel
 obtain⟨ρ',el',o2,wd,s3,ho2,hl,rfl⟩:=fGo_rngI (g:=gN 3) (B:=l_law_pool_1) (fun i ρ=>∃ o wd s3,DrOk ns o/\wd.length=i/\ρ=[.ow true o,.im (.str alpha),.im (.str wd),s3,.no]) (1+r1.fmod 8).toNat 0 0
  [.ow true o1,.im (.str alpha),.im (.str (Str.ofString "")),.no,.no] (fun i v ρ hi p=>pool_turn hn .no i v ρ (by omega) p) ⟨o1,_,_,ho1,el,rfl⟩
 obtain⟨r2,o3,e3,h3,ho3⟩:=next_ok hn ho2;have wz:wd.length<=sizeLine:=small_line (by omega)
 have q1:-4611686018427387904<=1+r1.fmod 8:=by omega
 have q2:1+r1.fmod 8<4611686018427387904:=by omega
 by_cases h:r2.fmod 3=1
 ·refine⟨poolS,o3,?_,rfl,by decide +kernel,by decide +kernel,ho3⟩
  simp[m_law_pool,b_law_pool,List.replicate,e1,q1,q2,el',e3,h]
 ·obtain⟨r3,o4,e4,h4,ho4⟩:=next_ok hn ho3
  have nz:¬ (wd.length:Int)=0:=by omega
  have nz':¬ wd.length=0:=by omega
  obtain⟨ks,ek,lk,mk⟩:=signs_go wd (by omega) (r3.fmod (wd.length:Int)) (Str.ofString "abcdefghz").cps.toList
  have sl:(Str.ofString "abcdefghz").cps.toList.length=9:=by decide +kernel
  have cl:(chs (Str.ofString "abcdefghz")).length ≤ sizeLine:=by
   unfold chs;rw[List.length_map,sl];exact small_line (by decide)
  have ek':cGo tYes (e2 dAdd (e2 dAdd (eSl2 (eV 1) oN (oS (eV 2))) (eV 0)) (eSl2 (eV 1) (oS (e2 dAdd (eV 2) (eC (.int 1)))) oN)) [.im (.str wd),.im (.int (r3.fmod (wd.length:Int)))] (chs (Str.ofString "abcdefghz"))=some (ks.map .str):=ek;refine⟨ks,o4,?_,by rw[lk,sl],fun k hk=>(mk k hk).1,fun hq=>?_,ho4⟩
  rotate_left
  ·obtain⟨_,c,c1,c2⟩:=mk _ hq
   have d:∀ c∈(Str.ofString "abcdefghz").cps.toList,¬ c∈(Str.ofString "q").cps.toList:=by decide +kernel
   exact d c c1 c2
  simp[m_law_pool,b_law_pool,List.replicate,e1,q1,q2,el',e3,h,e4,wz,nz,nz',ek',cl]
end Fx
namespace Fx
open PySem
theorem names_go {ns:List Int} (hn:ns.length<=63) (ρ:En):∀ (ks:List Str) (o:MO),DrOk ns o->∃ (ks':List Str) (o':MO),cGoB (tB (e2 dEq (e2 dMod (eFb 1 m_law_next aN) (eC (.int 3))) (eC (.int 1)))) (eV 0) ρ 0 [0] 0 o (ks.map .str)=some (ks'.map .str,o')/\ks'.length<=ks.length/\(∀ k∈ks',k∈ks)/\DrOk ns o'
 |[],o,ho=>⟨[],o,rfl,Nat.le_refl _,fun k h=>h,ho⟩
 |k::r,o,ho=>by
  obtain⟨v,o1,e,_,ho1⟩:=next_ok hn ho;obtain⟨ks',o',e',l',m',ho'⟩:=names_go hn ρ r o1 ho1;have fr:frAt ρ 0 o [0]=some [.ow true o]:=rfl;rw[List.map_cons,cGoB_cons,fr,bnd_some]
  by_cases h:v.fmod 3=1
  ·have t:tB (e2 dEq (e2 dMod (eFb 1 m_law_next aN) (eC (.int 3))) (eC (.int 1))) [.im (.str k),.ow true o]=some (true,[.im (.str k),.ow true o1]):=by simp[e,h]
   have f:eV 0 [.im (.str k),.ow true o1]=some (.str k,[.im (.str k),.ow true o1]):=rfl;rw[t,bnd_some];refine⟨k::ks',o',?_,by rw[List.length_cons,List.length_cons];omega,fun x hx=>by rcases List.mem_cons.mp hx with rfl | hx;exact List.mem_cons_self;exact List.mem_cons_of_mem _ (m' x hx),ho'⟩
   show (if true=true then bnd (eV 0 [.im (.str k),.ow true o1]) _ else _)=_;rw[if_pos rfl,f,bnd_some];show bnd (some o1) _=_;rw[bnd_some,e',bnd_some];rfl
  ·have t:tB (e2 dEq (e2 dMod (eFb 1 m_law_next aN) (eC (.int 3))) (eC (.int 1))) [.im (.str k),.ow true o]=some (false,[.im (.str k),.ow true o1]):=by simp[e,h]
   rw[t,bnd_some];refine⟨ks',o',?_,by rw[List.length_cons];omega,fun x hx=>List.mem_cons_of_mem _ (m' x hx),ho'⟩
   show (if false=true then _ else bnd (some o1) _)=_;rw[if_neg (by simp),bnd_some,e']
theorem dpDs_strs:∀ ks:List Str,dpDs (ks.map .str)=0
 |[]=>rfl
 |k::r=>by rw[List.map_cons,dpDs_cons,dpD_str,dpDs_strs r];rfl
theorem eqDs_nil_strs (ks:List Str):eqDs (ks.map .str) []=ks.isEmpty:=by
 cases ks <;> simp
theorem keys_ok {ns:List Int} (hn:ns.length ≤ 63) {o:MO} (ho:DrOk ns o) {ks:List Str} (hk:ks.length=9):∃ (w:Str) (ts:List Str) (o':MO),m_law_keys o [.lst (ks.map .str)]=some (.tup [.str w,.tup (ts.map .str)],o') ∧ (w=Str.ofString "only" ∧ ts≠[] ∨ w=Str.ofString "but") ∧ (∃ ks',ts=sortS (addAll [] ks') ∧ (∀ k∈ks',k∈ks) ∧ ks'.length ≤ 9) ∧ DrOk ns o':=by
 obtain⟨ks',o1,e1,l1,m1,ho1⟩:=names_go hn [.ow true o,.im (.lst (ks.map .str)),.no] ks o ho;have lz:ks.length<=sizeLine:=small_line (by omega)
 have ss:=sortSetL_strs ks' (by omega)
 have dp:=dpDs_strs ks';have q0:=eqDs_nil_strs ks';cases hE:ks'.isEmpty with
 |true =>
  rw[hE] at q0;exact⟨Str.ofString "but",sortS (addAll [] ks'),o1,by simp[m_law_keys,b_law_keys,List.replicate,e1,lz,dp,q0,ss],.inr rfl,⟨ks',rfl,m1,by omega⟩,ho1⟩
 |false =>
  rw[hE] at q0;obtain⟨r,o2,e2',_,ho2⟩:=next_ok hn ho1
  have ne:sortS (addAll [] ks')≠[]:=fun z=>by
   cases ks' with
   |nil=>cases hE
   |cons y r =>
    have:y∈sortS (addAll [] (y::r)):=(sortS_perm _).mem_iff.mpr (mem_addAll.mpr (.inr List.mem_cons_self));rw[z] at this;cases this
  by_cases h:r.fmod 2=1
  ·exact⟨Str.ofString "but",sortS (addAll [] ks'),o2,by simp[m_law_keys,b_law_keys,List.replicate,e1,lz,dp,q0,ss,e2',h],.inr rfl,⟨ks',rfl,m1,by omega⟩,ho2⟩
  ·exact⟨Str.ofString "only",sortS (addAll [] ks'),o2,by simp[m_law_keys,b_law_keys,List.replicate,e1,lz,dp,q0,ss,e2',h],.inl ⟨rfl,ne⟩,⟨ks',rfl,m1,by omega⟩,ho2⟩
end Fx
namespace Fx
open PySem
noncomputable def eK (i:Nat):Str:=if i<26 then chS (97+i) else chS (97+(i / 26-1))++chS (97+i % 26)
noncomputable def chkS (o:Option D) (s:Str):Bool:=match o with
 |some (.str x)=>x==s
 |_=>false
theorem chk_eq {o:Option D}{s:Str} (h:chkS o s=true):o=some (.str s):=by
 unfold chkS at h
 split at h
 ·rw[beq_iff_eq.mp h]
 ·cases h
theorem behind_tab:∀ i∈List.range 100,chkS (m_key_behind [.str (eK i)]) (eK (i+1))=true:=by decide +kernel
theorem behind_eq {i:Nat} (h:i<100):m_key_behind [.str (eK i)]=some (.str (eK (i+1))):=chk_eq (behind_tab i (List.mem_range.mpr h))
noncomputable def chkB (o:Option D):Bool:=match o with
 |some (.bl b)=>b
 |_=>false
theorem chkB_eq {o:Option D} (h:chkB o=true):o=some (.bl true):=by
 unfold chkB at h
 split at h
 ·rw[h]
 ·cases h
theorem key_tab:∀ i∈List.range 100,chkB (m_law_key [.str (eK i)])=true:=by decide +kernel
theorem lkey_eq {i:Nat} (h:i<100):m_law_key [.str (eK i)]=some (.bl true):=chkB_eq (key_tab i (List.mem_range.mpr h))
theorem eK_tab:∀ i∈List.range 100,(eK i).length<=2:=by decide +kernel
theorem eK_len {i:Nat} (h:i<100):(eK i).length<=2:=eK_tab i (List.mem_range.mpr h)
theorem eK_nd:((List.range 100).map eK).Nodup:=by decide +kernel
theorem less_tab:∀ i∈List.range 100,∀ j∈List.range 100,i<=j->sLt (eK j) (eK i)=false:=by decide +kernel
theorem eK_le {i j:Nat} (hj:j<100) (h:i<=j):sLt (eK j) (eK i)=false:=less_tab i (List.mem_range.mpr (by omega)) j (List.mem_range.mpr hj) h
end Fx
namespace Fx
open PySem
theorem inD_str (k:Str):∀ ts:List Str,inD (.str k) (ts.map .str)=decide (k∈ts)
 |[]=>rfl
 |t::r=>by
  have ih:=inD_str k r;unfold inD at ih ⊢;rw[List.map_cons,List.any_cons,ih,eqD_str_str]
  by_cases h:t=k
  ·simp[h]
  ·have:¬ k=t:=fun e=>h e.symm
   simp[h,this]
theorem eqDs_strs:∀ xs ys:List Str,eqDs (xs.map .str) (ys.map .str)=decide (xs=ys)
 |[],[]=>by simp
 |[],y::r=>by simp
 |x::r,[]=>by simp
 |x::r,y::t=>by
  have ih:=eqDs_strs r t;simp[ih]
theorem okIn_strs (k:Str):∀ ks:List Str,okIn (.str k) (ks.map .str)=true:=fun ks=>by
 unfold okIn;rw[show flatD (.str k)=true from rfl,Bool.true_and,List.all_eq_true];intro x hx;obtain⟨y,_,rfl⟩:=List.mem_map.mp hx;rfl
theorem out_go (pr ks:List Str):cGo (tB (e2 dNotIn2 (eV 0) (eV 1))) (eV 0) [.im (.lst (pr.map .str))] (ks.map .str)=some ((ks.filter fun k=>!decide (k∈pr)).map .str):=by
 induction ks with
 |nil=>rfl
 |cons k r ih =>
  have ok:=okIn_strs k pr;have e:=inD_str k pr;rw[List.map_cons,cGo_c]
  by_cases h:k∈pr
  ·have t:tB (e2 dNotIn2 (eV 0) (eV 1)) [.im (.str k),.im (.lst (pr.map .str))]=some (false,[.im (.str k),.im (.lst (pr.map .str))]):=by simp[ok,e,h]
   rw[t,cGa_f,ih,List.filter_cons_of_neg (by simp[h])]
  ·have t:tB (e2 dNotIn2 (eV 0) (eV 1)) [.im (.str k),.im (.lst (pr.map .str))]=some (true,[.im (.str k),.im (.lst (pr.map .str))]):=by simp[ok,e,h]
   have f:eV 0 [.im (.str k),.im (.lst (pr.map .str))]=some (.str k,[.im (.str k),.im (.lst (pr.map .str))]):=rfl;rw[t,cGa_t,f,cGb_s,ih,cnsO_s,List.filter_cons_of_pos (by simp[h])];rfl
theorem fGo_cnt {g:D->En->Option En}{B:FS} (P:Nat->En->Prop):∀ (n:Nat) (lo:Int) (j:Nat) (ρ:En),(∀ (i:Nat) ρ,i<n->P (j+i) ρ->∃ ρ1 ρ2,g (.int (lo+i)) ρ=some ρ1/\B ρ1=some (.nx ρ2)/\P (j+i+1) ρ2)->P j ρ->∃ ρ',fGo g B (rngD lo n) ρ=some (.nx ρ')/\P (j+n) ρ'
 |0,lo,j,ρ,_,p=>⟨ρ,rfl,p⟩
 |n+1,lo,j,ρ,h,p=>by
  obtain⟨ρ1,ρ2,h1,h2,p2⟩:=h 0 ρ (by omega) p
  have h1':g (.int lo) ρ=some ρ1:=by simpa using h1
  obtain⟨ρ',e,p'⟩:=fGo_cnt P n (lo+1) (j+1) ρ2 (fun i ρ hi q=>by
   obtain⟨a,b,c,d,e⟩:=h (i+1) ρ (by omega) (by rw[show j+(i+1)=j+1+i by omega];exact q)
   refine⟨a,b,?_,d,by rw[show j+1+i+1=j+(i+1)+1 by omega];exact e⟩
   rw[show lo+1+(i:Int)=lo+((i+1:Nat):Int) by push_cast;omega];exact c) p2
  refine⟨ρ',?_,by rw[show j+(n+1)=j+1+n by omega];exact p'⟩
  rw[show rngD lo (n+1)=.int lo::rngD (lo+1) n from rfl,fGo_c,h1',fGa_s,h2,fGb_n];exact e
noncomputable abbrev eKs (n:Nat):List Str:=(List.range n).map eK
noncomputable def PE1 (m:D) (n:Nat) (ρ:En):Prop:=∃ s3,ρ=[.im m,.ow false (.lst ((eKs n).map .str)),.im (.str alpha),s3]
theorem early_step (m:D) (i:Nat) (hi:i<200):l_law_early_1 [.im m,.ow false (.lst ((eKs i).map .str)),.im (.str alpha),.im (.int (i:Int))]=some (.nx [.im m,.ow false (.lst ((eKs (i+1)).map .str)),.im (.str alpha),.im (.int (i:Int))]):=by
 have nx:(eKs (i+1)).map D.str=(eKs i).map D.str++[.str (eK i)]:=by
  unfold eKs;rw[List.range_succ,List.map_append,List.map_append];rfl
 have hl:i<1000000:=by omega
 rw[nx]
 by_cases h:(i:Int)<26
 ·have e:=letter_ix (i:=(i:Int)) (by omega) h
  have ek:eK i=chS (97+i):=if_pos (by omega)
  rw[Int.toNat_natCast] at e;simp[l_law_early_1,h,e,hl,ek]
 ·have d:okDiv 26=true:=okDiv_s (by decide) (by decide)
  have q1:(i:Int).fdiv 26=(i:Int) / 26:=Int.fdiv_eq_ediv_of_nonneg _ (by decide)
  have q2:(i:Int).fmod 26=(i:Int) % 26:=Int.fmod_eq_emod_of_nonneg _ (by decide)
  have e1:=letter_ix (i:=(i:Int) / 26-1) (by omega) (by omega)
  have e2:=letter_ix (i:=(i:Int) % 26) (by omega) (by omega)
  have t1:((i:Int) / 26-1).toNat=i / 26-1:=by omega
  have t2:((i:Int) % 26).toNat=i % 26:=by omega
  rw[t1] at e1;rw[t2] at e2;have ek:eK i=chS (97+(i / 26-1))++chS (97+i % 26):=if_neg (by omega)
  have z:(chS (97+(i / 26-1))).length+(chS (97+i % 26)).length<=sizeLine:=small_line (by show 1+1<=1000;decide)
  simp[l_law_early_1,h,d,q1,q2,e1,e2,hl,ek,z]
theorem early_eq (n:Int) (h0:0<=n) (h1:n<=100):m_law_early [.int n]=some (.lst ((eKs n.toNat).map .str)):=by
 obtain⟨ρ',e,s3,rfl⟩:=fGo_cnt (g:=gN 3) (B:=l_law_early_1) (PE1 (.int n)) n.toNat 0 0 [.im (.int n),.ow false (.lst []),.im (.str alpha),.no]
  (fun i ρ hi p=>by
   obtain⟨s3,rfl⟩:=p;refine⟨_,_,rfl,?_,.im (.int (i:Int)),rfl⟩;have:=early_step (.int n) i (by omega)
   simp only[Nat.zero_add,Int.zero_add];exact this) ⟨.no,rfl⟩
 have r1:-4611686018427387904<=n:=by omega
 have r2:n<4611686018427387904:=by omega
 rw[Nat.zero_add] at e;simp[m_law_early,b_law_early,List.replicate,r1,r2,e,frz]
end Fx
namespace Fx
open PySem
theorem e2_run {op:D->D->Option D}{F G:FE}{ρ ρ1 ρ2:En}{x y d:D} (h1:F ρ=some (x,ρ1)) (h2:G ρ1=some (y,ρ2)) (h3:op x y=some d):e2 op F G ρ=some (d,ρ2):=by
 unfold e2;rw[h1,bnd_some];dsimp only;rw[h2,bnd_some];dsimp only;rw[h3,bnd_some]
theorem getK_set (k x:Str) (d:D):∀ kds:List (Str×D),(getK x (setK k d kds)).isSome=(getK x kds).isSome
 |[]=>rfl
 |q::r=>by
  have ih:=getK_set k x d r;show (getK x ((if q.1=k then (q.1,d) else q)::setK k d r)).isSome=_;unfold getK
  by_cases h:q.1=k
  ·rw[if_pos h]
   show (if q.1=x then some d else getK x (setK k d r)).isSome=(if q.1=x then some q.2 else getK x r).isSome
   split
   ·rfl
   ·exact ih
  ·rw[if_neg h]
   split
   ·rfl
   ·exact ih
theorem getK_snoc (k x:Str) (d:D):∀ kds:List (Str×D),(getK x (kds++[(k,d)])).isSome=((getK x kds).isSome||decide (k=x))
 |[]=>by
  show (if k=x then some d else none).isSome=_
  by_cases h:k=x
  ·rw[if_pos h,decide_eq_true h];rfl
  ·rw[if_neg h,decide_eq_false h];rfl
 |q::r=>by
  have ih:=getK_snoc k x d r;show (if q.1=x then some q.2 else getK x (r++[(k,d)])).isSome=((if q.1=x then some q.2 else getK x r).isSome||decide (k=x))
  by_cases h:q.1=x
  ·rw[if_pos h,if_pos h];rfl
  ·rw[if_neg h,if_neg h];exact ih
theorem len_set (k:Str) (d:D):∀ kds:List (Str×D),(setK k d kds).length=kds.length
 |[]=>rfl
 |q::r=>by show (setK k d r).length+1=_;rw[len_set];rfl
noncomputable def Has (kds:List (Str×D)) (S:List Str):Prop:=(∀ x,(getK x kds).isSome=decide (x∈S))/\kds.length<=S.length
theorem Has.put {kds:List (Str×D)}{S:List Str} (h:Has kds S) (k:Str) (d:D):Has (putD k d kds) (S++[k]):=by
 unfold putD
 by_cases c:(getK k kds).isSome=true
 ·rw[if_pos c]
  refine⟨fun x=>?_,by rw[len_set,List.length_append];have:=h.2;omega⟩
  rw[getK_set,h.1,decide_eq_decide,List.mem_append,List.mem_singleton];have:k∈S:=by rw[h.1] at c;exact of_decide_eq_true c
  exact⟨.inl,fun z=>by rcases z with z | rfl;exact z;exact this⟩
 ·rw[if_neg c]
  refine⟨fun x=>?_,by rw[List.length_append,List.length_append];have:=h.2;simp;omega⟩
  rw[getK_snoc,h.1,Bool.eq_iff_iff,Bool.or_eq_true,decide_eq_true_iff,decide_eq_true_iff,decide_eq_true_iff,List.mem_append,List.mem_singleton];exact⟨fun z=>by rcases z with z | z;exact .inl z;exact .inr z.symm,fun z=>by rcases z with z | z;exact .inl z;exact .inr z.symm⟩
theorem fill (a b:D) (s4:Sl):∀ (ks S:List Str) (kds:List (Str×D)) (s3:Sl),Has kds S->S.length+ks.length<100->∃ kds' s3',fGo (gN 3) l_keys_some_1 (ks.map .str) [.im a,.im b,.ow false (.dic kds),s3,s4]=some (.nx [.im a,.im b,.ow false (.dic kds'),s3',s4])/\Has kds' (S++ks)
 |[],S,kds,s3,h,_=>⟨kds,s3,rfl,by rw[List.append_nil];exact h⟩
 |k::ks,S,kds,s3,h,hl=>by
  rw[List.length_cons] at hl;obtain⟨kds',s3',e,h'⟩:=fill a b s4 ks (S++[k]) (putD k (.bl true) kds) (.im (.str k)) (h.put k _) (by rw[List.length_append,List.length_singleton];omega)
  refine⟨kds',s3',?_,by rw[List.append_assoc] at h';exact h'⟩
  have lt:kds.length<100:=by have:=h.2;omega
  have st:l_keys_some_1 [.im a,.im b,.ow false (.dic kds),.im (.str k),s4]=some (.nx [.im a,.im b,.ow false (.dic (putD k (.bl true) kds)),.im (.str k),s4]):=by
   simp[l_keys_some_1,lt]
  rw[List.map_cons,fGo_c];show fGa _ _ _ (some [.im a,.im b,.ow false (.dic kds),.im (.str k),s4])=_;rw[fGa_s,st,fGb_n];exact e
theorem has_nil:Has [] []:=⟨fun x=>rfl,Nat.le_refl _⟩
theorem zip_fs:∀ kds:List (Str×D),(kds.map (·.1)).zip (kds.map (·.2))=kds
 |[]=>rfl
 |q::r=>by rw[List.map_cons,List.map_cons,List.zip_cons_cons,zip_fs r]
noncomputable abbrev dctOf (kds:List (Str×D)):D:=.dct (kds.map (·.1)) (kds.map (·.2))
theorem dct_in {kds:List (Str×D)}{S:List Str} (h:Has kds S) (k:Str):dDin (.str k) (dctOf kds)=some (.bl (decide (k∈S))):=by
 rw[dDin_,zip_fs,h.1]
theorem dct_nin {kds:List (Str×D)}{S:List Str} (h:Has kds S) (k:Str):dDnin (.str k) (dctOf kds)=some (.bl (!decide (k∈S))):=by
 rw[dDnin_,zip_fs,h.1]
theorem left_go {kds:List (Str×D)}{S:List Str} (h:Has kds S) (ks:List Str):cGo (tB (e2 dDnin (eV 0) (eV 1))) (eV 0) [.im (dctOf kds)] (ks.map .str)=some ((ks.filter fun k=>!decide (k∈S)).map .str):=by
 induction ks with
 |nil=>rfl
 |cons k r ih =>
  have e:=dct_nin h k;rw[List.map_cons,cGo_c]
  have t:tB (e2 dDnin (eV 0) (eV 1)) [.im (.str k),.im (dctOf kds)]=some (!decide (k∈S),[.im (.str k),.im (dctOf kds)]):=by
   show bnd (e2 dDnin (eV 0) (eV 1) [.im (.str k),.im (dctOf kds)]) _=_;have:e2 dDnin (eV 0) (eV 1) [.im (.str k),.im (dctOf kds)]=some (.bl (!decide (k∈S)),[.im (.str k),.im (dctOf kds)]):=e2_run (F:=eV 0) (G:=eV 1) rfl rfl e;rw[this];rfl
  by_cases hk:k∈S
  ·rw[t,decide_eq_true hk,Bool.not_true,cGa_f,ih,List.filter_cons_of_neg (by simp[hk])]
  ·have f:eV 0 [.im (.str k),.im (dctOf kds)]=some (.str k,[.im (.str k),.im (dctOf kds)]):=rfl
   rw[t,decide_eq_false hk,Bool.not_false,cGa_t,f,cGb_s,ih,cnsO_s,List.filter_cons_of_pos (by simp[hk])];rfl
theorem walk_keys {a b:D}{s4:Sl}{kds:List (Str×D)}{S:List Str} (h:Has kds S) {i:Nat} (hi:i<100) (out:eK i∉S):∀ (m j f:Nat),j+m=i->m<f->(∀ k,k<i->eK k∈S) ->
  wGo l_keys_some_4 l_keys_some_3 f [.im a,.im b,.im (dctOf kds),.im (.str (eK j)),s4]=some (.nx [.im a,.im b,.im (dctOf kds),.im (.str (eK i)),s4])
 |m,j,f,e,hf,all=>by
  obtain⟨f,rfl⟩:∃ g,f=g+1:=⟨f-1,by omega⟩
  have c:∀ x:Str,l_keys_some_4 [.im a,.im b,.im (dctOf kds),.im (.str x),s4]=some (decide (x∈S),[.im a,.im b,.im (dctOf kds),.im (.str x),s4]):=fun x=>by
   have q:=dct_in h x;have t1:tB (e2 dIsNot (eV 3) (eC .non)) [.im a,.im b,.im (dctOf kds),.im (.str x),s4]=some (true,[.im a,.im b,.im (dctOf kds),.im (.str x),s4]):=by simp
   have t2:tB (e2 dDin (eV 3) (eV 2)) [.im a,.im b,.im (dctOf kds),.im (.str x),s4]=some (decide (x∈S),[.im a,.im b,.im (dctOf kds),.im (.str x),s4]):=by
    have:e2 dDin (eV 3) (eV 2) [.im a,.im b,.im (dctOf kds),.im (.str x),s4]=some (.bl (decide (x∈S)),[.im a,.im b,.im (dctOf kds),.im (.str x),s4]):=e2_run (F:=eV 3) (G:=eV 2) rfl rfl q;show bnd (e2 dDin (eV 3) (eV 2) _) _=_;rw[this];rfl
   show bnd (tB (e2 dIsNot (eV 3) (eC .non)) _) _=_;rw[t1,bnd_some];exact t2
  rw[wGo_s,c]
  match m,e,hf with
  |0,e,_ =>
   have:j=i:=by omega
   subst this;rw[decide_eq_false out,wGa_f]
  |m+1,e,hf =>
   rw[decide_eq_true (all j (by omega)),wGa_t]
   have kb:=behind_eq (i:=j) (by omega)
   have st:l_keys_some_3 [.im a,.im b,.im (dctOf kds),.im (.str (eK j)),s4]=some (.nx [.im a,.im b,.im (dctOf kds),.im (.str (eK (j+1))),s4]):=by
    show bnd (eF m_key_behind (aC (eV 3) aN) _) _=_
    have:eF m_key_behind (aC (eV 3) aN) [.im a,.im b,.im (dctOf kds),.im (.str (eK j)),s4]=some (.str (eK (j+1)),[.im a,.im b,.im (dctOf kds),.im (.str (eK j)),s4]):=by
     show bnd (m_key_behind [.str (eK j)]) _=_;rw[kb];rfl
    rw[this];rfl
   rw[st,wGb_n];exact walk_keys h hi out m (j+1) f (by omega) (by omega) all
theorem nd_le {α:Type} [DecidableEq α]:∀ {l m:List α},l.Nodup->(∀ x∈l,x∈m)->l.length<=m.length
 |[],_,_,_=>Nat.zero_le _
 |a::l,m,nd,h=>by
  obtain⟨n1,n2⟩:=List.nodup_cons.mp nd;have am:a∈m:=h a List.mem_cons_self;have:=nd_le (m:=m.erase a) n2 fun x hx=>(List.mem_erase_of_ne fun (z:x=a)=>n1 (z▸hx)).mpr (h x (List.mem_cons_of_mem _ hx))
  have le:=List.length_erase_of_mem am;have pos:0<m.length:=List.length_pos_of_mem am;rw[List.length_cons];omega
theorem first_out (S:List Str) (hS:S.length<99):∃ i,i<99/\eK i∉S/\∀ k,k<i->eK k∈S:=by
 have:∀ n,n<=99->(∀ k,k<n->eK k∈S)\/∃ i,i<n/\eK i∉S/\∀ k,k<i->eK k∈S:=by
  intro n
  induction n with
  |zero=>intro _;exact .inl fun k z=>absurd z (Nat.not_lt_zero k)
  |succ n ih =>
   intro hn
   rcases ih (by omega) with h | ⟨i,a,b,c⟩
   ·by_cases z:eK n∈S
    ·refine .inl fun k hk=>?_
     by_cases e:k=n
     ·rw[e];exact z
     ·exact h k (by omega)
    ·exact .inr ⟨n,Nat.lt_succ_self _,z,h⟩
   ·exact .inr ⟨i,by omega,b,c⟩
 rcases this 99 (Nat.le_refl _) with h | h
 ·have sub:((List.range 99).map eK).Nodup:=by
   have:=eK_nd;rw[show List.range 100=List.range 99++[99] from List.range_succ,List.map_append] at this;exact (List.nodup_append.mp this).1
  have:=nd_le sub fun x hx=>by
   obtain⟨k,hk,rfl⟩:=List.mem_map.mp hx;exact h k (List.mem_range.mp hk)
  rw[List.length_map,List.length_range] at this;omega
 ·exact h
end Fx
namespace Fx
open PySem
noncomputable abbrev wO:Str:=Str.ofString "only"
noncomputable abbrev wB:Str:=Str.ofString "but"
theorem only_but:¬ (wB=wO):=by decide +kernel
theorem ix2_0 (a b:D):atD [a,b] 0=some a:=rfl
theorem ix2_1 (a b:D):atD [a,b] 1=some b:=rfl
noncomputable abbrev kyD (w:Str) (ts:List Str):D:=.tup [.str w,.tup (ts.map .str)]
theorem some_but (ts os:List Str) (h:os.length+ts.length<99):∃ i,i<99/\m_keys_some [kyD wB ts,.lst (os.map .str)]=some (.str (eK i))/\eK i∉os++ts/\∀ k,k<i->eK k∈os++ts:=by
 obtain⟨i,hi,out,all⟩:=first_out (os++ts) (by rw[List.length_append];omega)
 obtain⟨k1,s3,e1,h1⟩:=fill (kyD wB ts) (.lst (os.map .str)) .no os [] [] .no has_nil (by simp;omega)
 rw[List.nil_append] at h1;obtain⟨k2,s3',e2',h2⟩:=fill (kyD wB ts) (.lst (os.map .str)) .no ts os k1 s3 h1 (by omega)
 have e2'':fGo (gN 3) l_keys_some_2 (ts.map .str) [.im (kyD wB ts),.im (.lst (os.map .str)),.ow false (.dic k1),s3,.no]=some (.nx [.im (kyD wB ts),.im (.lst (os.map .str)),.ow false (.dic k2),s3',.no]):=e2';have w:=walk_keys (a:=kyD wB ts) (b:=.lst (os.map .str)) (s4:=.no) h2 (i:=i) (by omega) out i 0 200 (by omega) (by omega) all
 have e0:eK 0=Str.ofString "a":=by decide +kernel
 rw[e0] at w;refine⟨i,hi,?_,out,all⟩;have ob:=only_but;simp[m_keys_some,b_keys_some,List.replicate,e1,ix2_0,ix2_1,ob,e2'',hld,w]
theorem some_only (ts os:List Str) (h:os.length+ts.length<99) (hl:∀ t∈ts,t.length<=1000):m_keys_some [kyD wO ts,.lst (os.map .str)]=some (sMin (ts.filter fun k=>!decide (k∈os))):=by
 obtain⟨k1,s3,e1,h1⟩:=fill (kyD wO ts) (.lst (os.map .str)) .no os [] [] .no has_nil (by simp;omega)
 rw[List.nil_append] at h1;have go:=left_go h1 ts;have z:(ts.map D.str).length<=sizeLine:=small_line (by rw[List.length_map];omega)
 have tx:txts ((ts.filter fun k=>!decide (k∈os)).map .str)=some (ts.filter fun k=>!decide (k∈os)):=strs_map _
 have al:(ts.filter fun k=>!decide (k∈os)).all (fun s=>decide (s.length<=1000))=true:=by
  rw[List.all_eq_true];intro x hx;exact decide_eq_true (hl x (List.mem_filter.mp hx).1)
 have bm:bMinS [.lst ((ts.filter fun k=>!decide (k∈os)).map .str)]=some (sMin (ts.filter fun k=>!decide (k∈os))):=by
  rw[bMinS_l,tx,bnd_some,if_pos al]
 have z':ts.length<=sizeLine:=by rw[List.length_map] at z;exact z
 generalize (ts.filter fun k=>!decide (k∈os))=L at *
 have go':cGo (tB (e2 dDnin (eV 0) (eV 1))) (eV 0) [.im (.dct (k1.map (·.1)) (k1.map (·.2)))] (ts.map .str)=some (L.map .str):=go;simp[m_keys_some,b_keys_some,List.replicate,e1,ix2_0,ix2_1,hld,go',z',bm]
noncomputable def kap (a:Str):Ky:=fKs [.int a.length,.str a]
theorem sLt_eq (a b:Str):sLt a b=decide (kap a<kap b):=lexF_lt (ds:=[.int a.length,.str a]) (es:=[.int b.length,.str b]) rfl
theorem best_mem:∀ (l:List Str) (b:Str),sBest b l∈b::l
 |[],b=>List.mem_cons_self
 |n::r,b=>by
  have:=best_mem r (if sLt n b=true then n else b);show sBest (if sLt n b=true then n else b) r∈_
  rcases List.mem_cons.mp this with e | e
  ·rw[e]
   split
   ·exact List.mem_cons_of_mem _ List.mem_cons_self
   ·exact List.mem_cons_self
  ·exact List.mem_cons_of_mem _ (List.mem_cons_of_mem _ e)
theorem best_le:∀ (l:List Str) (b x:Str),x∈b::l->¬ kap x<kap (sBest b l)
 |[],b,x,hx=>by rw[List.mem_singleton.mp hx];exact List.lt_irrefl _
 |n::r,b,x,hx=>by
  have ih:=best_le r (if sLt n b=true then n else b);show ¬ kap x<kap (sBest (if sLt n b=true then n else b) r)
  rcases List.mem_cons.mp hx with rfl | hx
  ·have i0:=ih _ List.mem_cons_self
   by_cases c:sLt n x=true
   ·rw[if_pos c] at i0 ⊢
    rw[sLt_eq,decide_eq_true_eq] at c;exact List.not_lt.mpr (List.le_trans (List.not_lt.mp i0) (List.le_of_lt c))
   ·rw[if_neg c] at i0 ⊢
    exact i0
  ·rcases List.mem_cons.mp hx with rfl | hx
   ·have i0:=ih _ List.mem_cons_self
    by_cases c:sLt x b=true
    ·rw[if_pos c] at i0 ⊢;exact i0
    ·rw[if_neg c] at i0 ⊢
     rw[sLt_eq,decide_eq_true_eq] at c;exact List.not_lt.mpr (List.le_trans (List.not_lt.mp i0) (List.not_lt.mp c))
   ·exact ih x (List.mem_cons_of_mem _ hx)
noncomputable abbrev tLess:FT:=tB (e2 dLtP (eTup (aC (eF bLen2 (aC (eV 0) aN)) (aC (eV 0) aN))) (eTup (aC (eF bLen2 (aC (eV 1) aN)) (aC (eV 1) aN))))
theorem before_go {f:Str} (hf:f.length<=1000):∀ ks:List Str,(∀ k∈ks,k.length<=1000)->cGo tLess (eV 0) [.im (.str f)] (ks.map .str)=some ((ks.filter fun k=>sLt k f).map .str)
 |[],_=>rfl
 |k::r,h=>by
  have ih:=before_go hf r fun x hx=>h x (List.mem_cons_of_mem _ hx)
  have z1:k.length<=sizeLine:=small_line (h k List.mem_cons_self);have z2:f.length<=sizeLine:=small_line hf
  have t:tLess [.im (.str k),.im (.str f)]=some (sLt k f,[.im (.str k),.im (.str f)]):=by
   unfold sLt;simp[tLess,z1,z2]
  rw[List.map_cons,cGo_c];cases c:sLt k f with
  |true =>
   rw[c] at t;have ff:eV 0 [.im (.str k),.im (.str f)]=some (.str k,[.im (.str k),.im (.str f)]):=rfl;rw[t,cGa_t,ff,cGb_s,ih,cnsO_s,List.filter_cons_of_pos (by simpa using c)];rfl
  |false =>
   rw[c] at t;rw[t,cGa_f,ih,List.filter_cons_of_neg (by simp[c])]
theorem before_none {ks:List Str}{f:Str} (hl:ks.length<=1000) (hf:f.length<=1000) (h:∀ k∈ks,k.length<=1000) (le:∀ k∈ks,sLt k f=false):m_law_before [.lst (ks.map .str),.str f]=some (.lst []):=by
 have go:=before_go hf ks h;have fn:(ks.filter fun k=>sLt k f)=[]:=List.filter_eq_nil_iff.mpr fun k hk=>by rw[le k hk];exact Bool.false_ne_true
 rw[fn] at go;have z:ks.length<=sizeLine:=small_line hl;have go':cGo (tB (e2 dLtP (eTup (aC (eF bLen2 (aC (eV 0) aN)) (aC (eV 0) aN))) (eTup (aC (eF bLen2 (aC (eV 1) aN)) (aC (eV 1) aN))))) (eV 0) [.im (.str f)] (ks.map .str)=some []:=go;simp[m_law_before,b_law_before,go',z]
end Fx
namespace Fx
open PySem
theorem draws_ok (ns:List Int):∃ o,m_law_draws [.lst (ns.map .int)]=some o/\DrOk ns o:=by
 obtain⟨c,e⟩:=cell_eq ns (k:=0) (by decide)
 have nd:[Str.ofString "script",Str.ofString "way",Str.ofString "left",Str.ofString "at",Str.ofString "number",Str.ofString "k"].Nodup:=by decide +kernel
 refine⟨.dic (drD ns (c.fmod 2) 0 1 c 0),?_,c.fmod 2,0,1,c,0,rfl,by decide,by decide,by decide⟩
 simp[m_law_draws,b_law_draws,List.replicate,e,noOw,nd,drD]
theorem names_go1 {ns:List Int} (hn:ns.length<=63) (ρ:En):∀ (ks:List Str) (o:MO),DrOk ns o->∃ (ks':List Str) (o':MO),cGoB (tB (e2 dEq (e2 dMod (eFb 1 m_law_next aN) (eC (.int 3))) (eC (.int 1)))) (eV 0) ρ 1 [1] 0 o (ks.map .str)=some (ks'.map .str,o')/\ks'.length<=ks.length/\(∀ k∈ks',k∈ks)/\DrOk ns o'
 |[],o,ho=>⟨[],o,rfl,Nat.le_refl _,fun k h=>h,ho⟩
 |k::r,o,ho=>by
  obtain⟨v,o1,e,_,ho1⟩:=next_ok hn ho;obtain⟨ks',o',e',l',m',ho'⟩:=names_go1 hn ρ r o1 ho1;have fr:frAt ρ 1 o [1]=some [.ow true o]:=rfl;rw[List.map_cons,cGoB_cons,fr,bnd_some]
  by_cases h:v.fmod 3=1
  ·have t:tB (e2 dEq (e2 dMod (eFb 1 m_law_next aN) (eC (.int 3))) (eC (.int 1))) [.im (.str k),.ow true o]=some (true,[.im (.str k),.ow true o1]):=by simp[e,h]
   have f:eV 0 [.im (.str k),.ow true o1]=some (.str k,[.im (.str k),.ow true o1]):=rfl;rw[t,bnd_some];refine⟨k::ks',o',?_,by rw[List.length_cons,List.length_cons];omega,fun x hx=>by rcases List.mem_cons.mp hx with rfl | hx;exact List.mem_cons_self;exact List.mem_cons_of_mem _ (m' x hx),ho'⟩
   show (if true=true then bnd (eV 0 [.im (.str k),.ow true o1]) _ else _)=_;rw[if_pos rfl,f,bnd_some];show bnd (some o1) _=_;rw[bnd_some,e',bnd_some];rfl
  ·have t:tB (e2 dEq (e2 dMod (eFb 1 m_law_next aN) (eC (.int 3))) (eC (.int 1))) [.im (.str k),.ow true o]=some (false,[.im (.str k),.ow true o1]):=by simp[e,h]
   rw[t,bnd_some];refine⟨ks',o',?_,by rw[List.length_cons];omega,fun x hx=>List.mem_cons_of_mem _ (m' x hx),ho'⟩
   show (if false=true then _ else bnd (some o1) _)=_;rw[if_neg (by simp),bnd_some,e']
noncomputable abbrev E13 (sc:D) (o:MO) (pool:D) (w:Str) (ts os:List Str) (e5 e6 s7 s8 s9 s10:Sl):En:=[.im sc,.ow false o,.im pool,.im (kyD w ts),.im (.lst (os.map .str)),e5,e6,s7,s8,s9,s10]
theorem loop_eq {sc pool:D}{o:MO}{ts os:List Str}{e5 e6 s7 s9:Sl}{i:Nat} (hi:i<99) (all:∀ k,k<i->eK k∈os++ts) (s10:Sl):∃ s10',fGo (gN 10) l_law_1 ((eKs 100).map .str) (E13 sc o pool wB ts os e5 e6 s7 (.im (.str (eK i))) s9 s10)=some (.nx (E13 sc o pool wB ts os e5 e6 s7 (.im (.str (eK i))) s9 s10')):=by
 obtain⟨ρ',e,s10',rfl⟩:=fGo_all (g:=gN 10) (B:=l_law_1) (fun ρ=>∃ s10,ρ=E13 sc o pool wB ts os e5 e6 s7 (.im (.str (eK i))) s9 s10) ((eKs 100).map .str) (E13 sc o pool wB ts os e5 e6 s7 (.im (.str (eK i))) s9 s10) (fun v ρ hv p=>by
  obtain⟨s10,rfl⟩:=p;obtain⟨x,hx,rfl⟩:=List.mem_map.mp hv;obtain⟨j,hj,rfl⟩:=List.mem_map.mp hx;have hj:=List.mem_range.mp hj;refine⟨_,E13 sc o pool wB ts os e5 e6 s7 (.im (.str (eK i))) s9 (.im (.str (eK j))),rfl,?_,_,rfl⟩;have z1:(eK j).length<=sizeLine:=small_line (by have:=eK_len hj;omega)
  have z2:(eK i).length<=sizeLine:=small_line (by have:=eK_len (i:=i) (by omega);omega)
  have i1:=inD_str (eK j) ts;have i2:=inD_str (eK j) os;have k1:=okIn_strs (eK j) ts;have k2:=okIn_strs (eK j) os;cases c:lexF [.int (eK j).length,.str (eK j)] [.int (eK i).length,.str (eK i)] with
  |false=>simp[l_law_1,E13,z1,z2,c]
  |true =>
   have lt:j<i:=Nat.lt_of_not_le fun z=>by
    have:=eK_le (i:=i) (j:=j) hj z;unfold sLt at this;rw[c] at this;cases this
   rcases List.mem_append.mp (all j lt) with m | m
   ·by_cases m2:eK j∈ts
    ·simp[l_law_1,E13,z1,z2,c,ix2_1,k1,i1,m2]
    ·simp[l_law_1,E13,z1,z2,c,ix2_1,k1,i1,m2,k2,i2,m]
   ·simp[l_law_1,E13,z1,z2,c,ix2_1,k1,i1,m]) ⟨s10,rfl⟩
 exact⟨s10',e⟩
noncomputable def tail13:FS :=
 (sSeq (sSet 7 (eF bList (aC (eV 4) aN)))
 (sSeq (sSet 8 (eF m_keys_some (aC (eV 3) (aC (eV 7) aN))))
 (sSeq (sSet 9 (eLC [4] (e2 dIx2 (eV 3) (eC (.int 1))) (tB (e2 dNotIn2 (eV 0) (eV 1))) (eV 0)))
 (sSeq (sIf (tB (e2 dNe (eV 7) (eV 4)))
 (sRet (eC (.bl false)))
 sN)
 (sSeq (sIf (tB (e2 dEq (e2 dIx2 (eV 3) (eC (.int 0))) (eC (.str (Str.ofString "only")))))
 (sSeq (sIf (tB (e2 dEq (eV 9) (eLst aN)))
 (sRet (e2 dIs (eV 8) (eC .non)))
 sN)
 (sRet (eAnd (e2 dIn2 (eV 8) (eV 9)) (e2 dEq (eF m_law_before (aC (eV 9) (aC (eV 8) aN))) (eLst aN)))))
 sN)
 (sSeq (sIf (tOr (tNot (tV (eF m_law_key (aC (eV 8) aN)))) (tOr (tB (e2 dIn2 (eV 8) (e2 dIx2 (eV 3) (eC (.int 1))))) (tB (e2 dIn2 (eV 8) (eV 4)))))
 (sRet (eC (.bl false)))
 sN)
 (sSeq (sFor (gN 10) (eF m_law_early (aC (eC (.int 100)) aN))
 l_law_1)
 (sRet (e2 dLt (eF bLen2 (aC (eV 8) aN)) (eC (.int 3)))))))))))
theorem dpS (os:List Str):dpDs (os.map .str)=0:=dpDs_strs os
theorem tail_but {sc pool:D}{o:MO}{ts os:List Str} (e5 e6:Sl) (h:os.length+ts.length<99):∃ ρ',tail13 (E13 sc o pool wB ts os e5 e6 .no .no .no .no)=some (.rt (.bl true) ρ'):=by
 obtain⟨i,hi,e,out,all⟩:=some_but ts os h;have o1:eK i∉ts:=fun z=>out (List.mem_append_right _ z)
 have o2:eK i∉os:=fun z=>out (List.mem_append_left _ z)
 have i1:=inD_str (eK i) ts;have i2:=inD_str (eK i) os;have k1:=okIn_strs (eK i) ts;have k2:=okIn_strs (eK i) os;rw[decide_eq_false o1] at i1;rw[decide_eq_false o2] at i2;have lk:=lkey_eq (i:=i) (by omega)
 have go:=out_go os ts;have z:ts.length<=sizeLine:=small_line (by omega)
 have dp:=dpS os;have eq:=eqDs_strs os os;rw[decide_eq_true rfl] at eq;have ea:=early_eq 100 (by decide) (by decide)
 have el:=eK_len (i:=i) (by omega)
 have z2:(eK i).length<=sizeLine:=small_line (by omega)
 have l3:((eK i).length:Int)<3:=by omega
 have ob:=only_but
 generalize hL:(ts.filter fun k=>!decide (k∈os))=L at *
 obtain⟨s10',lp⟩:=loop_eq (sc:=sc) (pool:=pool) (o:=o) (ts:=ts) (os:=os) (e5:=e5) (e6:=e6) (s7:=.im (.lst (os.map .str))) (s9:=.im (.lst (L.map .str))) hi all .no;have ea':m_law_early [.int 100]=some (.lst ((eKs 100).map .str)):=ea
 generalize hE:(eKs 100).map D.str=ES at *
 refine⟨E13 sc o pool wB ts os e5 e6 (.im (.lst (os.map .str))) (.im (.str (eK i))) (.im (.lst (L.map .str))) s10',?_⟩;have kk:m_keys_some [.tup [.str wB,.tup (ts.map .str)],.lst (os.map .str)]=some (.str (eK i)):=e;simp[tail13,E13,kk,ix2_0,ix2_1,go,z,dp,eq,ob,lk,k1,i1,k2,i2,ea',lp,z2,l3]
theorem tail_only {sc pool:D}{o:MO}{ts os:List Str} (e5 e6:Sl) (h:os.length+ts.length<99) (hl:∀ t∈ts,t.length<=1000):∃ ρ',tail13 (E13 sc o pool wO ts os e5 e6 .no .no .no .no)=some (.rt (.bl true) ρ'):=by
 have e:=some_only ts os h hl;have go:=out_go os ts;have z:ts.length<=sizeLine:=small_line (by omega)
 have dp:=dpS os;have eq:=eqDs_strs os os;rw[decide_eq_true rfl] at eq;have small:∀ k∈(ts.filter fun k=>!decide (k∈os)),k.length<=1000:=fun k hk=>hl k (List.mem_filter.mp hk).1
 have len:(ts.filter fun k=>!decide (k∈os)).length<=1000:=Nat.le_trans (List.length_filter_le _ _) (by omega)
 have kk:m_keys_some [.tup [.str wO,.tup (ts.map .str)],.lst (os.map .str)]=some (sMin (ts.filter fun k=>!decide (k∈os))):=e
 generalize hL:(ts.filter fun k=>!decide (k∈os))=L at *
 cases L with
 |nil =>
  refine⟨E13 sc o pool wO ts os e5 e6 (.im (.lst (os.map .str))) (.im .non) (.im (.lst [])) .no,?_⟩;have kk:m_keys_some [.tup [.str wO,.tup (ts.map .str)],.lst (os.map .str)]=some .non:=kk;have go:cGo (tB (e2 dNotIn2 (eV 0) (eV 1))) (eV 0) [.im (.lst (os.map .str))] (ts.map .str)=some []:=go;simp[tail13,E13,kk,ix2_0,ix2_1,go,z,dp,eq]
 |cons n r =>
  have mem:=best_mem r n
  have bf:=before_none (ks:=n::r) (f:=sBest n r) len (small _ mem) small fun k hk=>by
   rw[sLt_eq];exact decide_eq_false (best_le r n k hk)
  have kk:m_keys_some [.tup [.str wO,.tup (ts.map .str)],.lst (os.map .str)]=some (.str (sBest n r)):=kk;have i1:=inD_str (sBest n r) (n::r);have k1:=okIn_strs (sBest n r) (n::r);rw[decide_eq_true mem] at i1;have dp2:=dpS (n::r)
  generalize hM:(n::r).map D.str=M at *
  have ne:eqDs M []=false:=by rw[<- hM];rfl
  generalize sBest n r=f at *
  refine⟨E13 sc o pool wO ts os e5 e6 (.im (.lst (os.map .str))) (.im (.str f)) (.im (.lst M)) .no,?_⟩;simp[tail13,E13,kk,ix2_0,ix2_1,go,z,dp,eq,dp2,ne,k1,i1,bf]
noncomputable def unS:D->Str
 |.str x=>x
 |_=>Str.empty
theorem sort_strs (L:List Str):∃ ts:List Str,sortT (L.map .str)=ts.map .str/\ts.length=L.length/\∀ x∈ts,x∈L:=by
 have pm:=sortT_perm (L.map .str)
 have e:sortT (L.map .str)=((sortT (L.map .str)).map unS).map .str:=by
  rw[List.map_map];refine ((List.map_congr_left (g:=id) fun d hd=>?_).trans (List.map_id _)).symm
  obtain⟨x,_,rfl⟩:=List.mem_map.mp (pm.mem_iff.mp hd);rfl
 refine⟨(sortT (L.map .str)).map unS,e,?_,fun x hx=>?_⟩
 ·rw[List.length_map,pm.length_eq,List.length_map]
 ·obtain⟨d,hd,rfl⟩:=List.mem_map.mp hx
  obtain⟨y,hy,rfl⟩:=List.mem_map.mp (pm.mem_iff.mp hd);exact hy
theorem isS_all (L:List Str):(L.map D.str).all isS=true:=by
 rw[List.all_eq_true];intro d hd;obtain⟨x,_,rfl⟩:=List.mem_map.mp hd;rfl
theorem law_true (ns:List Int) (hl:ns.length<=63):m_law [.lst (ns.map .int)]=some (.bl true):=by
 obtain⟨o0,e0,d0⟩:=draws_ok ns
 generalize hsc:D.lst (ns.map .int)=sc at *
 obtain⟨ks,o1,e1,lk,smk,_,d1⟩:=pool_ok hl d0;obtain⟨w,ts,o2,e2',hw,⟨ks',rfl,sub,lk'⟩,d2⟩:=keys_ok hl d1 lk;obtain⟨os,o3,e3,lo,mo,d3⟩:=names_go1 hl [.im sc,.ow false o2,.im (.lst (ks.map .str)),.im (.tup [.str w,.tup ((sortS (addAll [] ks')).map .str)]),.no,.no,.no,.no,.no,.no,.no] ks.reverse o2 d2;rw[List.map_reverse] at e3;obtain⟨r4,o4,e4,_,d4⟩:=next_ok hl d3;obtain⟨r5,o5,e5,_,d5⟩:=next_ok hl d4;have f0:=Int.fmod_nonneg_of_pos r4 (b:=81) (by decide)
 have f1:=Int.fmod_lt_of_pos r4 (b:=81) (by decide)
 have ea:=early_eq (r4.fmod 81) f0 (by omega)
 have ln:(r4.fmod 81).toNat<=80:=by omega
 generalize (r4.fmod 81).toNat=n at *
 have mts:∀ t∈sortS (addAll [] ks'),t∈ks':=fun t ht=>by
  rcases mem_addAll.mp ((sortS_perm _).mem_iff.mp ht) with z | z
  ·cases z
  ·exact z
 have lts:(sortS (addAll [] ks')).length<=9:=by
  rw[(sortS_perm _).length_eq]
  have:∀ (xs acc:List Str),(addAll acc xs).length<=acc.length+xs.length:=by
   intro xs
   induction xs with
   |nil=>intro acc;exact Nat.le_refl _
   |cons x r ih =>
    intro acc;have h1:=ih (addS acc x)
    have h2:(addS acc x).length<=acc.length+1:=by
     unfold addS
     split
     ·omega
     ·simp
    show (addAll (addS acc x) r).length<=_;rw[List.length_cons];omega
  have:=this ks' [];simp at this;omega
 have sts:∀ t∈sortS (addAll [] ks'),t.length<=1000:=fun t ht=>Nat.le_trans (smk t (sub t (mts t ht))) (by decide)
 generalize sortS (addAll [] ks')=ts at *
 rw[List.length_reverse,lk] at lo;have zk:ks.length<=sizeLine:=small_line (by omega)
 obtain⟨tq,sq,lq,_⟩:=sort_strs (eKs n);have al:=isS_all (eKs n);have le:(eKs n).length=n:=by simp
 have bs:bSortG isS [.lst ((eKs n).map .str)]=some (.lst (tq.map .str)):=by
  rw[bSortG_l,if_pos ⟨by rw[List.length_map];omega,al⟩,sq]
 have ad:os.length+n<=sizeLine:=small_line (by omega)
 have rv:(eKs n).reverse.map D.str=((eKs n).map D.str).reverse:=List.map_reverse;simp only[m_law,b_law]
 generalize hR:sSeq (sSet 7 _) _=RR
 have hT:RR=tail13:=hR.symm
 have T1:r5.fmod 3=1->∃ ρ',RR (E13 sc o5 (.lst (ks.map .str)) wB tq os (.im (.lst ((eKs n).map .str))) (.im (.int (r5.fmod 3))) .no .no .no .no)=some (.rt (.bl true) ρ'):=fun _=>by
  rw[hT];exact tail_but _ _ (by omega)
 have T0:∃ ρ',RR (E13 sc o5 (.lst (ks.map .str)) w ts os (.im (.lst ((eKs n).map .str))) (.im (.int (r5.fmod 3))) .no .no .no .no)=some (.rt (.bl true) ρ'):=by
  rw[hT]
  rcases hw with ⟨rfl,_⟩ | rfl
  ·exact tail_only _ _ (by omega) sts
  ·exact tail_but _ _ (by omega)
 have T2:∃ ρ',RR (E13 sc o5 (.lst (ks.map .str)) w ts (os++(eKs n).reverse) (.im (.lst ((eKs n).map .str))) (.im (.int (r5.fmod 3))) .no .no .no .no)=some (.rt (.bl true) ρ'):=by
  rw[hT];have:(os++(eKs n).reverse).length+ts.length<99:=by rw[List.length_append,List.length_reverse,le];omega
  rcases hw with ⟨rfl,_⟩ | rfl
  ·exact tail_only _ _ this sts
  ·exact tail_but _ _ this
 rw[E13,List.map_append,rv] at T2;rw[E13] at T0;rw[E13] at T1
 generalize hES:(eKs n).map D.str=ES at *
 have lES:ES.length=n:=by rw[<- hES,List.length_map,le]
 rw[<- lES] at ad
 by_cases c1:r5.fmod 3=1
 ·obtain⟨ρ',t⟩:=T1 c1
  rw[c1] at t;simp[List.replicate,e0,e1,e2',e3,zk,e4,ea,e5,c1,bs,t]
 ·by_cases c2:r5.fmod 3=2
  ·obtain⟨ρ',t⟩:=T2
   rw[c2] at t;simp[List.replicate,e0,e1,e2',e3,zk,e4,ea,e5,c2,ad,t]
  ·obtain⟨ρ',t⟩:=T0
   simp[List.replicate,e0,e1,e2',e3,zk,e4,ea,e5,c1,c2,t]
end Fx
set_option maxRecDepth 100000
set_option maxHeartbeats 4000000
namespace Fx
open PySem PySem.Spec PyProof.Rows L2
theorem reps_ints {K:PySem.W.Frag}{H:Hp}:∀ ns:List Int,Reps K H (ns.map D.int) (ns.map V.int)
 |[]=>Reps.nil_
 |n::r=>Reps.cons (rep_int H n) (reps_ints r)
theorem all_mk {l:PySem.W.OpenLaw}{w:World}{K:PySem.W.Frag}{h:Heap}{mg:Str → Option Value}{fa f1 f2 f3 f4 f5 f6 f7 f8 f9 f10 f11 f12:Addr} (X:K.In h) (G:h.Ns mainGlobals mg) (hfa:mg "law"=some (.ref fa))
  {od1 an1:Option Addr}{sl1:Array (Option Value)}{oc1 kV1 dc1 pm1 cd1 ct1:Value}
  (a1:PySem.W.nsIn K mainGlobals "key_behind"=some (some (.ref f1))) (l1:K.lookup f1=some ⟨oc1,od1,.func (PySem.W.fnOf "key_behind" "key_behind" (defArgs s_key_behind) (defBody s_key_behind) (defScope s_key_behind) .none kV1 dc1 pm1 an1 cd1 ct1),sl1⟩) (c1:PySem.W.codeIn K cd1 "key_behind"=true) (k1:PySem.W.keepIn K (.ref f1)=true)
  {od2 an2:Option Addr}{sl2:Array (Option Value)}{oc2 kV2 dc2 pm2 cd2 ct2:Value}
  (a2:PySem.W.nsIn K mainGlobals "keys_some"=some (some (.ref f2))) (l2:K.lookup f2=some ⟨oc2,od2,.func (PySem.W.fnOf "keys_some" "keys_some" (defArgs s_keys_some) (defBody s_keys_some) (defScope s_keys_some) .none kV2 dc2 pm2 an2 cd2 ct2),sl2⟩) (c2:PySem.W.codeIn K cd2 "keys_some"=true) (k2:PySem.W.keepIn K (.ref f2)=true)
  {od3 an3:Option Addr}{sl3:Array (Option Value)}{oc3 kV3 dc3 pm3 cd3 ct3:Value}
  (a3:PySem.W.nsIn K mainGlobals "_law_cell_at"=some (some (.ref f3))) (l3:K.lookup f3=some ⟨oc3,od3,.func (PySem.W.fnOf "_law_cell_at" "_law_cell_at" (defArgs s_law_cell_at) (defBody s_law_cell_at) (defScope s_law_cell_at) .none kV3 dc3 pm3 an3 cd3 ct3),sl3⟩) (c3:PySem.W.codeIn K cd3 "_law_cell_at"=true) (k3:PySem.W.keepIn K (.ref f3)=true)
  {od4 an4:Option Addr}{sl4:Array (Option Value)}{oc4 kV4 dc4 pm4 cd4 ct4:Value}
  (a4:PySem.W.nsIn K mainGlobals "_law_mixed"=some (some (.ref f4))) (l4:K.lookup f4=some ⟨oc4,od4,.func (PySem.W.fnOf "_law_mixed" "_law_mixed" (defArgs s_law_mixed) (defBody s_law_mixed) (defScope s_law_mixed) .none kV4 dc4 pm4 an4 cd4 ct4),sl4⟩) (c4:PySem.W.codeIn K cd4 "_law_mixed"=true) (k4:PySem.W.keepIn K (.ref f4)=true)
  {od5 an5:Option Addr}{sl5:Array (Option Value)}{oc5 kV5 dc5 pm5 cd5 ct5:Value}
  (a5:PySem.W.nsIn K mainGlobals "_law_draws"=some (some (.ref f5))) (l5:K.lookup f5=some ⟨oc5,od5,.func (PySem.W.fnOf "_law_draws" "_law_draws" (defArgs s_law_draws) (defBody s_law_draws) (defScope s_law_draws) .none kV5 dc5 pm5 an5 cd5 ct5),sl5⟩) (c5:PySem.W.codeIn K cd5 "_law_draws"=true) (k5:PySem.W.keepIn K (.ref f5)=true)
  {od6 an6:Option Addr}{sl6:Array (Option Value)}{oc6 kV6 dc6 pm6 cd6 ct6:Value}
  (a6:PySem.W.nsIn K mainGlobals "_law_next"=some (some (.ref f6))) (l6:K.lookup f6=some ⟨oc6,od6,.func (PySem.W.fnOf "_law_next" "_law_next" (defArgs s_law_next) (defBody s_law_next) (defScope s_law_next) .none kV6 dc6 pm6 an6 cd6 ct6),sl6⟩) (c6:PySem.W.codeIn K cd6 "_law_next"=true) (k6:PySem.W.keepIn K (.ref f6)=true)
  {od7 an7:Option Addr}{sl7:Array (Option Value)}{oc7 kV7 dc7 pm7 cd7 ct7:Value}
  (a7:PySem.W.nsIn K mainGlobals "_law_pool"=some (some (.ref f7))) (l7:K.lookup f7=some ⟨oc7,od7,.func (PySem.W.fnOf "_law_pool" "_law_pool" (defArgs s_law_pool) (defBody s_law_pool) (defScope s_law_pool) .none kV7 dc7 pm7 an7 cd7 ct7),sl7⟩) (c7:PySem.W.codeIn K cd7 "_law_pool"=true) (k7:PySem.W.keepIn K (.ref f7)=true)
  {od8 an8:Option Addr}{sl8:Array (Option Value)}{oc8 kV8 dc8 pm8 cd8 ct8:Value}
  (a8:PySem.W.nsIn K mainGlobals "_law_keys"=some (some (.ref f8))) (l8:K.lookup f8=some ⟨oc8,od8,.func (PySem.W.fnOf "_law_keys" "_law_keys" (defArgs s_law_keys) (defBody s_law_keys) (defScope s_law_keys) .none kV8 dc8 pm8 an8 cd8 ct8),sl8⟩) (c8:PySem.W.codeIn K cd8 "_law_keys"=true) (k8:PySem.W.keepIn K (.ref f8)=true)
  {od9 an9:Option Addr}{sl9:Array (Option Value)}{oc9 kV9 dc9 pm9 cd9 ct9:Value}
  (a9:PySem.W.nsIn K mainGlobals "_law_early"=some (some (.ref f9))) (l9:K.lookup f9=some ⟨oc9,od9,.func (PySem.W.fnOf "_law_early" "_law_early" (defArgs s_law_early) (defBody s_law_early) (defScope s_law_early) .none kV9 dc9 pm9 an9 cd9 ct9),sl9⟩) (c9:PySem.W.codeIn K cd9 "_law_early"=true) (k9:PySem.W.keepIn K (.ref f9)=true)
  {od10 an10:Option Addr}{sl10:Array (Option Value)}{oc10 kV10 dc10 pm10 cd10 ct10:Value}
  (a10:PySem.W.nsIn K mainGlobals "_law_key"=some (some (.ref f10))) (l10:K.lookup f10=some ⟨oc10,od10,.func (PySem.W.fnOf "_law_key" "_law_key" (defArgs s_law_key) (defBody s_law_key) (defScope s_law_key) .none kV10 dc10 pm10 an10 cd10 ct10),sl10⟩) (c10:PySem.W.codeIn K cd10 "_law_key"=true) (k10:PySem.W.keepIn K (.ref f10)=true)
  {od11 an11:Option Addr}{sl11:Array (Option Value)}{oc11 kV11 dc11 pm11 cd11 ct11:Value}
  (a11:PySem.W.nsIn K mainGlobals "_law_before"=some (some (.ref f11))) (l11:K.lookup f11=some ⟨oc11,od11,.func (PySem.W.fnOf "_law_before" "_law_before" (defArgs s_law_before) (defBody s_law_before) (defScope s_law_before) .none kV11 dc11 pm11 an11 cd11 ct11),sl11⟩) (c11:PySem.W.codeIn K cd11 "_law_before"=true) (k11:PySem.W.keepIn K (.ref f11)=true)
  {od12 an12:Option Addr}{sl12:Array (Option Value)}{oc12 kV12 dc12 pm12 cd12 ct12:Value}
  (a12:PySem.W.nsIn K mainGlobals "law"=some (some (.ref f12))) (l12:K.lookup f12=some ⟨oc12,od12,.func (PySem.W.fnOf "law" "law" (defArgs s_law) (defBody s_law) (defScope s_law) .none kV12 dc12 pm12 an12 cd12 ct12),sl12⟩) (c12:PySem.W.codeIn K cd12 "law"=true) (k12:PySem.W.keepIn K (.ref f12)=true)
  {tc1:_} (y1:PySem.W.nsIn K mainGlobals "LETTERS"=some (some (.str (Str.ofString "abcdefghijklmnopqrstuvwxyz") tc1))) {tc2:_} (y2:PySem.W.nsIn K mainGlobals "LONGEST"=some (some (.int 8 tc2)))
  {cL:Addr} (eL:cd2=.ref cL) (hL:PySem.W.codeHdIn K cL L2.TabP=true)
  (z1:PySem.W.nsIn K mainGlobals "abs"=some none) (z2:PySem.W.nsIn K mainGlobals "len"=some none) (z3:PySem.W.nsIn K mainGlobals "max"=some none) (z4:PySem.W.nsIn K mainGlobals "min"=some none) (z5:PySem.W.nsIn K mainGlobals "any"=some none) (z6:PySem.W.nsIn K mainGlobals "all"=some none) (z7:PySem.W.nsIn K mainGlobals "range"=some none) (z8:PySem.W.nsIn K mainGlobals "isinstance"=some none) (z9:PySem.W.nsIn K mainGlobals "int"=some none) (z10:PySem.W.nsIn K mainGlobals "bool"=some none) (z11:PySem.W.nsIn K mainGlobals "str"=some none) (z12:PySem.W.nsIn K mainGlobals "tuple"=some none) (z13:PySem.W.nsIn K mainGlobals "list"=some none) (z14:PySem.W.nsIn K mainGlobals "sorted"=some none) (z15:PySem.W.nsIn K mainGlobals "dict"=some none) (z16:PySem.W.nsIn K mainGlobals "set"=some none) (z17:PySem.W.nsIn K mainGlobals "reversed"=some none) :
  ∃ fd:FuncData,(∀ (s:Shared) (v:Value),BindsTo s fd ⟨[v],[]⟩ [("_law_script",v)]) ∧ ∀ base:Heap,K.In base → base.Ns mainGlobals mg → FnOk l.prog w K mg base CX0 5 fa fd ["_law_script"] (spP K m_law):=by
 have e:=hfa.symm.trans (PySem.W.mg_of X G a12);cases e;have T:Blt K mg:=⟨PySem.W.mg_none_of X G z1,PySem.W.mg_none_of X G z2,PySem.W.mg_none_of X G z3,PySem.W.mg_none_of X G z4,PySem.W.mg_none_of X G z5,PySem.W.mg_none_of X G z6,PySem.W.mg_none_of X G z7,PySem.W.mg_none_of X G z8,PySem.W.mg_none_of X G z9,PySem.W.mg_none_of X G z10,PySem.W.mg_none_of X G z11,PySem.W.mg_none_of X G z12,PySem.W.mg_none_of X G z13,PySem.W.mg_none_of X G z14,PySem.W.mg_none_of X G z15,PySem.W.mg_none_of X G z16,PySem.W.mg_none_of X G z17,⟨_,PySem.W.mg_of X G y1⟩,⟨_,PySem.W.mg_of X G y2⟩⟩;have F1:=fun_mk (st:=s_key_behind) l1 c1 k1;have b1:=F1.binds (ps:=["key"]) fun _ _ _ _ _ _ us hl=>match us,hl with | [_],_=>rfl
 have F2:=fun_mk (st:=s_keys_some) l2 c2 k2;have b2:=F2.binds (ps:=["keys","others"]) fun _ _ _ _ _ _ us hl=>match us,hl with | [_,_],_=>rfl
 have F3:=fun_mk (st:=s_law_cell_at) l3 c3 k3;have b3:=F3.binds (ps:=["_law_script","_law_k"]) fun _ _ _ _ _ _ us hl=>match us,hl with | [_,_],_=>rfl
 have F4:=fun_mk (st:=s_law_mixed) l4 c4 k4;have b4:=F4.binds (ps:=["_law_cell","_law_k"]) fun _ _ _ _ _ _ us hl=>match us,hl with | [_,_],_=>rfl
 have F5:=fun_mk (st:=s_law_draws) l5 c5 k5;have b5:=F5.binds (ps:=["_law_script"]) fun _ _ _ _ _ _ us hl=>match us,hl with | [_],_=>rfl
 have F6:=fun_mk (st:=s_law_next) l6 c6 k6;have b6:=F6.binds (ps:=["_law_draws_here"]) fun _ _ _ _ _ _ us hl=>match us,hl with | [_],_=>rfl
 have F7:=fun_mk (st:=s_law_pool) l7 c7 k7;have b7:=F7.binds (ps:=["_law_draws_here"]) fun _ _ _ _ _ _ us hl=>match us,hl with | [_],_=>rfl
 have F8:=fun_mk (st:=s_law_keys) l8 c8 k8;have b8:=F8.binds (ps:=["_law_draws_here","_law_pool_here"]) fun _ _ _ _ _ _ us hl=>match us,hl with | [_,_],_=>rfl
 have F9:=fun_mk (st:=s_law_early) l9 c9 k9;have b9:=F9.binds (ps:=["_law_many"]) fun _ _ _ _ _ _ us hl=>match us,hl with | [_],_=>rfl
 have F10:=fun_mk (st:=s_law_key) l10 c10 k10;have b10:=F10.binds (ps:=["_law_found"]) fun _ _ _ _ _ _ us hl=>match us,hl with | [_],_=>rfl
 have F11:=fun_mk (st:=s_law_before) l11 c11 k11;have b11:=F11.binds (ps:=["_law_names","_law_found"]) fun _ _ _ _ _ _ us hl=>match us,hl with | [_,_],_=>rfl
 have F12:=fun_mk (st:=s_law) l12 c12 k12;have b12:=F12.binds (ps:=["_law_script"]) fun _ _ _ _ _ _ us hl=>match us,hl with | [_],_=>rfl
 refine⟨PySem.W.fnOf "law" "law" (defArgs s_law) (defBody s_law) (defScope s_law) .none kV12 dc12 pm12 an12 cd12 ct12,fun s v=>.of_eq rfl,fun base _ _=>?_⟩
 have G1:DefOk l.prog w K mg base 1 "key_behind" m_key_behind:=ok_key_behind F1 b1 (PySem.W.mg_of X G a1) T;have G3:DefOk l.prog w K mg base 1 "_law_cell_at" m_law_cell_at:=ok_law_cell_at F3 b3 (PySem.W.mg_of X G a3) T;have G4:DefOk l.prog w K mg base 1 "_law_mixed" m_law_mixed:=ok_law_mixed F4 b4 (PySem.W.mg_of X G a4) T;have G9:DefOk l.prog w K mg base 1 "_law_early" m_law_early:=ok_law_early F9 b9 (PySem.W.mg_of X G a9) T;have G10:DefOk l.prog w K mg base 1 "_law_key" m_law_key:=ok_law_key F10 b10 (PySem.W.mg_of X G a10) T;have G11:DefOk l.prog w K mg base 1 "_law_before" m_law_before:=ok_law_before F11 b11 (PySem.W.mg_of X G a11) T;have G5:DefN l.prog w K mg base 2 "_law_draws" m_law_draws:=ok_law_draws F5 b5 (PySem.W.mg_of X G a5) T G3;have G6:DefB l.prog w K mg base 2 "_law_next" m_law_next:=ok_law_next F6 b6 (PySem.W.mg_of X G a6) T G3 G4;have G7:DefB l.prog w K mg base 3 "_law_pool" m_law_pool:=ok_law_pool F7 b7 (PySem.W.mg_of X G a7) T G6;have G8:DefB l.prog w K mg base 3 "_law_keys" m_law_keys:=ok_law_keys F8 b8 (PySem.W.mg_of X G a8) T G6;have G2:DefOk l.prog w K mg base 4 "keys_some" m_keys_some:=ok_keys_some F2 b2 (PySem.W.mg_of X G a2) T ⟨cL,eL,hL⟩ G1;exact fn_law F12 T G11 G5 G9 G10 G8 G6 G7 G2
theorem walk {l:PySem.W.OpenLaw}{q:Program}{loose:List Str}{XP:(Str->Option Value)->Heap->Prop}{YP:World->Heap->Prop}{d:DefRec}{K:Params->PySem.W.Frag} (hn:l.most=some 63) (hdf:d.params.defaults=[])
  (hY:∀ (w:World) (h:Heap),YP w h->(K w.params).In h)
  (hYT:∀ (w:World) (h:Heap),YP w h->h.get? L2.TabP=some (PySem.W.tabObj #[])) (hKT:∀ w:World,(K w.params).lookup L2.TabP=none) (hC:∀ w:World,∃ c,PySem.W.codeHdIn (K w.params) c L2.TabP=true)
  (F:∀ (w:World) (mg:Str->Option Value) (fa:Addr) (h:Heap),(K w.params).In h->h.Ns mainGlobals mg->mg d.name=some (.ref fa) ->
   ∃ fd:FuncData,(∀ (s:Shared) (u:Value),BindsTo s fd ⟨[u],[]⟩ [("_law_script",u)]) ∧ ∀ base:Heap,(K w.params).In base → base.Ns mainGlobals mg → FnOk l.prog w (K w.params) mg base CX0 5 fa fd ["_law_script"] (spP (K w.params) m_law)) :
  PySem.W.WalkO q loose XP YP l.row.toRowW d [] (fun f vs=>PySem.call f vs) :=
 L2.walk_of2 (n:=63) (k:=5) (x:="_law_script") (CX:=fun _=>CX0) (sp:=fun w=>spP (K w.params) m_law) hn (by decide) hdf ⟨rfl,by decide,by decide⟩ hY hYT hKT hC F
  (fun w H a ns hl hS=>⟨H,[.lst (ns.map .int)],.bl true,Same.refl _,Reps.one (by unfold Rep;exact⟨a,_,rfl,hS,reps_ints ns⟩),law_true ns hl,fun v Hi' H' S r=>by unfold Rep at r;exact r⟩) fun _ _ _ _ _ z=>z
end Fx
open PySem PySem.W PyProof.Rows
set_option maxRecDepth 100000 in
set_option maxHeartbeats 0 in
theorem PySem.Challenge.cw_latewell_k13_the_first_key_holds : PySem.Challenge.rw_latewell_k13_the_first_key.Holds := by
 w_on;o_law;k_head;(case hw=>w_witness2)
 k_fill
 refine Fx.walk (l:=PySem.Challenge.rw_latewell_k13_the_first_key) rfl rfl (fun w h Y=>PySem.W.km_in_of Y) (fun w h Y=>PySem.W.km_tabs_of Y _ (List.mem_singleton.mpr rfl)) (fun w=>by kernel_rfl) (fun w=>⟨25,by kernel_rfl⟩) ?F
 case F =>
  intro w mg fa h KX G hmg;refine' Fx.all_mk KX G hmg ?a1 ?l1 ?c1 ?k1 ?a2 ?l2 ?c2 ?k2 ?a3 ?l3 ?c3 ?k3 ?a4 ?l4 ?c4 ?k4 ?a5 ?l5 ?c5 ?k5 ?a6 ?l6 ?c6 ?k6 ?a7 ?l7 ?c7 ?k7 ?a8 ?l8 ?c8 ?k8 ?a9 ?l9 ?c9 ?k9 ?a10 ?l10 ?c10 ?k10 ?a11 ?l11 ?c11 ?k11 ?a12 ?l12 ?c12 ?k12 ?y1 ?y2 ?eL ?hL ?z1 ?z2 ?z3 ?z4 ?z5 ?z6 ?z7 ?z8 ?z9 ?z10 ?z11 ?z12 ?z13 ?z14 ?z15 ?z16 ?z17
  (case a1=>k_is)
  (case l1=>k_is)
  (case c1=>k_is)
  (case k1=>k_is)
  (case a2=>k_is)
  (case l2=>k_is)
  (case c2=>k_is)
  (case k2=>k_is)
  (case a3=>k_is)
  (case l3=>k_is)
  (case c3=>k_is)
  (case k3=>k_is)
  (case a4=>k_is)
  (case l4=>k_is)
  (case c4=>k_is)
  (case k4=>k_is)
  (case a5=>k_is)
  (case l5=>k_is)
  (case c5=>k_is)
  (case k5=>k_is)
  (case a6=>k_is)
  (case l6=>k_is)
  (case c6=>k_is)
  (case k6=>k_is)
  (case a7=>k_is)
  (case l7=>k_is)
  (case c7=>k_is)
  (case k7=>k_is)
  (case a8=>k_is)
  (case l8=>k_is)
  (case c8=>k_is)
  (case k8=>k_is)
  (case a9=>k_is)
  (case l9=>k_is)
  (case c9=>k_is)
  (case k9=>k_is)
  (case a10=>k_is)
  (case l10=>k_is)
  (case c10=>k_is)
  (case k10=>k_is)
  (case a11=>k_is)
  (case l11=>k_is)
  (case c11=>k_is)
  (case k11=>k_is)
  (case a12=>k_is)
  (case l12=>k_is)
  (case c12=>k_is)
  (case k12=>k_is)
  (case y1=>k_is)
  (case y2=>k_is)
  (case eL=>rfl)
  (case hL=>kernel_rfl)
  (case z1=>k_is)
  (case z2=>k_is)
  (case z3=>k_is)
  (case z4=>k_is)
  (case z5=>k_is)
  (case z6=>k_is)
  (case z7=>k_is)
  (case z8=>k_is)
  (case z9=>k_is)
  (case z10=>k_is)
  (case z11=>k_is)
  (case z12=>k_is)
  (case z13=>k_is)
  (case z14=>k_is)
  (case z15=>k_is)
  (case z16=>k_is)
  (case z17=>k_is)
