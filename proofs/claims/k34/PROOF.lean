import PyProof.Rows.All
import Wide.All
import OpenK.AllK
import Wide.FinOn
import Lean
import PyProof.EqAt
import PyProof.EqKinds
import PyProof.TupleCall
import PySem.Sem
import PySem.Builtin.Int.W1All
import PyProof.StrBlockI
import PyProof.Rows.SortStr
import PyProof.TupleOfSeq
import PyProof.AttrMissHeap
import PyProof.TupleIter
import PyProof.DictUpdate
import PyProof.ListNew
import KE.KDictOf
import PyProof.StrBlock2
import KE.KDictLaws
import KE.KSortTup
import PyProof.Rows.SumAny
import PyProof.Rows.TupTab
import PyProof.DictItems
import KE.KPairComp
import PyProof.ListRange
import PySem.Challenge.RW_latewell_k34_cells_by_windows
set_option Elab.async false
set_option linter.all false
set_option maxRecDepth 100000
namespace L2
open PySem PySem.Spec PyProof.Rows
noncomputable abbrev Key:=Sum Int Str
noncomputable def keyIs:Key->Value->Bool
 |.inl k,v=>Value.isInt k v
 |.inr x,v=>Value.isStrOf x v
noncomputable def keyH (w:World):Key->Int
 |.inl k=>hashInt k
 |.inr x=>hashStr w x
theorem keyIs_shape:∀ {k:Key}{v:Value},keyIs k v=true->(∃ i t,k=Sum.inl i/\v=Value.int i t)\/(∃ x t,k=Sum.inr x/\v=Value.str x t)
 |.inl i,v,h=>by
  obtain⟨t,e⟩:=Value.isInt_shape (k:=i) (v:=v) h;exact .inl ⟨i,t,rfl,e⟩
 |.inr x,v,h=>by
  obtain⟨t,e⟩:=Value.isStrOf_shape (x:=x) (v:=v) h;exact .inr ⟨x,t,rfl,e⟩
theorem keyIs_int (i:Int) (t:Tok):keyIs (.inl i) (.int i t)=true:=by simp[keyIs,Value.isInt]
theorem keyIs_str (x:Str) (t:Tok):keyIs (.inr x) (.str x t)=true:=by simp[keyIs,Value.isStrOf]
theorem key_ll (a b:Int):decide ((Sum.inl a:Key)=Sum.inl b)=(a==b):=by
 by_cases e:a=b
 ·subst e;simp
 ·have h:¬ (Sum.inl a:Key)=Sum.inl b:=fun q=>e (Sum.inl.inj q)
  rw[decide_eq_false h];exact (beq_eq_false_iff_ne.mpr e).symm
theorem key_rr (a b:Str):decide ((Sum.inr a:Key)=Sum.inr b)=decide (a=b):=by
 by_cases e:a=b
 ·subst e;simp
 ·have h:¬ (Sum.inr a:Key)=Sum.inr b:=fun q=>e (Sum.inr.inj q)
  rw[decide_eq_false h,decide_eq_false e]
theorem key_lr (a:Int) (b:Str):decide ((Sum.inl a:Key)=Sum.inr b)=false:=decide_eq_false (fun q=>nomatch q)
theorem key_rl (a:Str) (b:Int):decide ((Sum.inr a:Key)=Sum.inl b)=false:=decide_eq_false (fun q=>nomatch q)
noncomputable def mixKind (prog:Program) (w:World):PySem.KeyKind prog w Key where
 is:=keyIs
 hash:=keyH w
 inj:=fun v a b ha hb=>by
  rcases keyIs_shape ha with ⟨i,t,rfl,rfl⟩ | ⟨x,t,rfl,rfl⟩
  ·rcases keyIs_shape hb with ⟨j,u,rfl,e⟩ | ⟨y,u,rfl,e⟩
   ·injection e with e1 _;rw[e1]
   ·exact nomatch e
  ·rcases keyIs_shape hb with ⟨j,u,rfl,e⟩ | ⟨y,u,rfl,e⟩
   ·exact nomatch e
   ·injection e with e1 _;rw[e1]
 byValue:=fun k v h=>by
  rcases keyIs_shape h with ⟨i,t,rfl,rfl⟩ | ⟨x,t,rfl,rfl⟩ <;> rfl
 pyHash:=fun hv h=>by
  rcases keyIs_shape hv with ⟨i,t,rfl,rfl⟩ | ⟨x,t,rfl,rfl⟩
  ·exact wpAny_pyHash_int h
  ·exact wpAny_pyHash_str h
 eqBool:=fun hu hv h=>by
  rcases keyIs_shape hu with ⟨i,t,rfl,rfl⟩ | ⟨x,t,rfl,rfl⟩
  ·rcases keyIs_shape hv with ⟨j,u,rfl,rfl⟩ | ⟨y,u,rfl,rfl⟩
   ·rw[key_ll] at h;exact wpAny_eqBool_int h
   ·rw[key_lr] at h;exact SeqAt.EqAt.int_str i t y u _ _ _ _ h
  ·rcases keyIs_shape hv with ⟨j,u,rfl,rfl⟩ | ⟨y,u,rfl,rfl⟩
   ·rw[key_rl] at h;exact SeqAt.EqAt.str_int x t j u _ _ _ _ h
   ·rw[key_rr] at h;exact wpAny_eqBool_str h
 «strs»:=fun k x t v h=>by
  rcases keyIs_shape h with ⟨i,u,rfl,e⟩ | ⟨y,u,rfl,e⟩
  ·exact nomatch e
  ·injection e with e1 _
   subst e1;cases v <;> rfl
theorem mixKind_int (prog:Program) (w:World) (i:Int) (t:Tok):(mixKind prog w).is (.inl i) (.int i t)=true:=keyIs_int i t
theorem mixKind_str (prog:Program) (w:World) (x:Str) (t:Tok):(mixKind prog w).is (.inr x) (.str x t)=true:=keyIs_str x t
end L2
namespace L2
open PySem PySem.Spec PyProof.Rows
inductive V where
 |non | bl (b:Bool) | int (i:Int) | str (x:Str) | byt (b:Array UInt8) | flt (b:UInt64) | ref (a:Addr) | ty (n:String)
 deriving DecidableEq
noncomputable def RelV:V->Value->Prop
 |.non,u=>u=Value.none
 |.bl b,u=>u=Value.bool b
 |.int i,u=>∃ t,u=Value.int i t
 |.str x,u=>∃ t,u=Value.str x t
 |.byt b,u=>∃ t,u=Value.bytes b t
 |.flt b,u=>∃ t,u=Value.float b t
 |.ref a,u=>u=Value.ref a
 |.ty n,u=>u=Value.type n
noncomputable abbrev Vals:List V->List Value->Prop:=Paired RelV
theorem Vals.length {xs:List V}{us:List Value} (r:Vals xs us):xs.length=us.length:=Paired.length r
theorem Vals.get:∀ {xs:List V}{us:List Value}{i:Nat}{x:V},Vals xs us->xs[i]?=some x->∃ u,us[i]?=some u/\RelV x u
 |_,_,_,_,.nil,e=>by simp at e
 |_,_,0,_,.cons r _,e=>by simp at e;subst e;exact⟨_,rfl,r⟩
 |_,_,i+1,x,.cons _ t,e=>by
  obtain⟨u,h1,h2⟩:=Vals.get (i:=i) (x:=x) t (by simpa using e)
  exact⟨u,by simpa using h1,h2⟩
theorem Vals.append:∀ {xs ys:List V}{us ws:List Value},Vals xs us->Vals ys ws->Vals (xs++ys) (us++ws)
 |_,_,_,_,.nil,s=>s
 |_,_,_,_,.cons r t,s=>.cons r (Vals.append t s)
theorem Vals.take:∀ {xs:List V}{us:List Value} (n:Nat),Vals xs us->Vals (xs.take n) (us.take n)
 |_,_,0,_=>.nil
 |_,_,_+1,.nil=>.nil
 |_,_,n+1,.cons r t=>.cons r (Vals.take n t)
theorem Vals.drop:∀ {xs:List V}{us:List Value} (n:Nat),Vals xs us->Vals (xs.drop n) (us.drop n)
 |_,_,0,r=>r
 |_,_,_+1,.nil=>.nil
 |_,_,n+1,.cons _ t=>Vals.drop n t
noncomputable def RelO:Option V->Option Value->Prop
 |some v,some u=>RelV v u
 |none,none=>True
 |_,_=>False
noncomputable def KV {κ:Type}:List (κ×V)->List (κ×Value)->Prop:=Paired fun (p:κ×V) (q:κ×Value)=>p.1=q.1/\RelV p.2 q.2
noncomputable def kV:Key->V
 |.inl i=>.int i
 |.inr x=>.str x
inductive HO where
 |lst (xs:List V)
 |tup (xs:List V)
 |dK (kvs:List (Key×V)) | dT (kvs:List (List Key×V))
 |set (S:Int->Bool) (n:Nat)
 |ins (C dx:Addr) (fs:List (Str×V))
 |own (x:Addr)
 |xd (fs:List (Str×V))
 |met (f x:Addr)
 |rng (lo hi:Int)
 |frz (o:Obj) (u:HO)
 |tbl (ps:Array Value)
 |ext (φ:Program->World->Heap->Prop)
noncomputable abbrev Hp:=Addr->Option HO
noncomputable def upd (H:Hp) (a:Addr) (o:HO):Hp:=fun b=>if b=a then some o else H b
theorem upd_same {H:Hp}{a:Addr}{o:HO}:upd H a o a=some o:=by unfold upd;rw[if_pos rfl]
theorem upd_ne {H:Hp}{a b:Addr}{o:HO} (h:b≠a):upd H a o b=H b:=by unfold upd;rw[if_neg h]
theorem ne_of {H:Hp}{a b:Addr}{o u:HO} (h:H a=some o) (h':H b=some u) (d:o≠u):a≠b:=by
 intro e;subst e;rw[h] at h';exact d (Option.some.inj h')
theorem ne_of_none {H:Hp}{a b:Addr}{o:HO} (h:H a=some o) (h':H b=none):a≠b:=by
 intro e;subst e;rw[h] at h';cases h'
noncomputable def IsTuN (h:Heap) (a:Addr) (items:Array Value):Prop:=∃ o,h.get? a=some o ∧ o.cls=.type "tuple" ∧ (∃ n,o.data=.seq items n) ∧ o.dict=none
theorem IsTuN.tup {h:Heap}{a:Addr}{items:Array Value} (x:IsTuN h a items):IsTup h a items:=let ⟨o,p,q,⟨n,r⟩,_⟩:=x;⟨o,p,q,n,r⟩
theorem IsTuN.new (h:Heap) (items:Array Value):IsTuN (h.push {cls:=.type "tuple",data:=.seq items}) h.objs.size items:=⟨_,Heap.get?_push_size _ rfl,rfl,⟨0,rfl⟩,rfl⟩
section
variable (P:Program) (w:World)
noncomputable def ObjOk (H:Hp) (h:Heap) (a:Addr):HO->Prop
 |.lst xs=>xs.length ≤ sizeLine ∧ ∃ (its:List Value) (n:Nat),Vals xs its ∧ h.get? a=some {cls:=.type "list",data:=.seq its.toArray n}
 |.tup xs=>xs.length<=sizeLine/\∃ its:List Value,Vals xs its/\IsTuN h a its.toArray
 |.dK kvs=>kvs.length<=sizeLine/\(a==sysModules)=false/\∃ vs,KV kvs vs/\h.DictOf (mixKind P w) a vs
 |.dT kvs=>kvs.length<=sizeLine/\(a==sysModules)=false/\∃ xs:List (List Key×Addr×Value),
   Paired (fun (p:List Key×V) (q:List Key×Addr×Value)=>p.1=q.1/\H q.2.1=some (.tup (p.1.map kV))/\RelV p.2 q.2.2) kvs xs /\
   ∃ o es ep,h.get? a=some o/\o.ExactDict/\o.data=.dict es ep/\es.toList=xs.map (entryOfKey (tupleKind (mixKind P w)))/\(xs.map (·.1)).Nodup
 |.set S n=>h.SetOf (intKind P w) a S n
 |.ins C dx fs=>H dx=some (.own a)/\fs.length<=1000/\dx≠a/\h.get? a=some (PySem.W.instObj C dx) /\
   ∃ mA,h.Ns1 dx mA/\(∀ f,RelO (fs.lookup f) (mA f))/\PySem.Within mA (fs.map (·.1))
 |.own _=>∃ o,h.get? a=some o
 |.xd fs=>∃ mA,h.Ns1 a mA/\∀ f,RelO (fs.lookup f) (mA f)
 |.rng lo hi=>∃ t u v,h.get? a=some {cls:=.type "range",data:=.fields #[.int lo t,.int hi u,.int 1 v]}
 |.frz o u=>h.get? a=some o/\ObjOk H h a u
 |.tbl ps=>h.get? a=some {cls:=.none,data:=.fields ps}
 |.met f x=>h.get? a=some (PySem.W.methodObj (.ref f) (.ref x))
 |.ext φ=>φ P w h/\(∃ o,h.get? a=some o)/\∀ h1 h2:Heap,φ P w h1->(∀ o,h1.get? a=some o->h2.get? a=some o)->φ P w h2
noncomputable def HOk (H:Hp) (h:Heap):Prop:=∀ a o,H a=some o->ObjOk P w H h a o
end
section
variable {P:Program}{w:World}{H H':Hp}{h h':Heap}{a:Addr}{o:HO}
theorem ObjOk.lt (x:ObjOk P w H h a o):a<h.objs.size:=by
 cases o with
 |lst xs=>obtain⟨_,_,_,_,e⟩:=x;exact Heap.lt_size e
 |tup xs=>obtain⟨_,_,_,p⟩:=x;exact p.tup.lt
 |dK kvs=>obtain⟨_,_,_,_,o,_,_,e,_⟩:=x;exact Heap.lt_size e
 |dT kvs=>obtain⟨_,_,_,_,o,_,_,e,_⟩:=x;exact Heap.lt_size e
 |set S n=>obtain⟨o,_,_,_,e,_⟩:=x;exact Heap.lt_size e
 |ins C dx fs=>obtain⟨_,_,_,e,_⟩:=x;exact Heap.lt_size e
 |own y=>obtain⟨_,e⟩:=x;exact Heap.lt_size e
 |xd fs=>obtain⟨_,⟨_,_,_,e,_⟩,_⟩:=x;exact Heap.lt_size e
 |rng lo hi=>obtain⟨_,_,_,e⟩:=x;exact Heap.lt_size e
 |frz ob u=>obtain⟨e,_⟩:=x;exact Heap.lt_size e
 |tbl ps=>exact Heap.lt_size (show h.get? a=some _ from x)
 |met f y=>exact Heap.lt_size (show h.get? a=some _ from x)
 |ext φ=>obtain⟨_,⟨_,e⟩,_⟩:=x;exact Heap.lt_size e
theorem Paired.mapP {α β:Type}{F G:α->β->Prop}:∀ {l₁:List α}{l₂:List β},Paired F l₁ l₂->(∀ a b,F a b->G a b)->Paired G l₁ l₂
 |_,_,.nil,_=>.nil
 |_,_,.cons r t,f=>.cons (f _ _ r) (Paired.mapP t f)
theorem ObjOk.stay (x:ObjOk P w H h a o) (k:∀ b u,(b=a\/H b=some (.own a))->h.get? b=some u->h'.get? b=some u)
  (ho:∀ b,H b=some (.own a)->H' b=some (.own a)) (ht:∀ b xs,H b=some (.tup xs)->H' b=some (.tup xs)):ObjOk P w H' h' a o:=by
 induction o with
 |lst xs=>obtain⟨z,its,n,r,e⟩:=x;exact⟨z,its,n,r,k _ _ (.inl rfl) e⟩
 |tup xs=>obtain⟨z,its,r,ob,e,c⟩:=x;exact⟨z,its,r,ob,k _ _ (.inl rfl) e,c⟩
 |dK kvs=>obtain⟨z,y,vs,r,ob,es,ep,e,c⟩:=x;exact⟨z,y,vs,r,ob,es,ep,k _ _ (.inl rfl) e,c⟩
 |dT kvs =>
  obtain⟨z,y,xs,r,ob,es,ep,e,c⟩:=x;exact⟨z,y,xs,Paired.mapP r fun p q z=>⟨z.1,ht _ _ z.2.1,z.2.2⟩,ob,es,ep,k _ _ (.inl rfl) e,c⟩
 |set S n=>obtain⟨ob,es,ep,t,e,c⟩:=x;exact⟨ob,es,ep,t,k _ _ (.inl rfl) e,c⟩
 |ins C dx fs =>
  obtain⟨d,z,ne,e,mA,⟨od,es,ep,e2,c⟩,r⟩:=x;exact⟨ho _ d,z,ne,k _ _ (.inl rfl) e,mA,⟨od,es,ep,k _ _ (.inr d) e2,c⟩,r⟩
 |own y=>obtain⟨ob,e⟩:=x;exact⟨ob,k _ _ (.inl rfl) e⟩
 |xd fs=>obtain⟨mA,⟨od,es,ep,e,c⟩,r⟩:=x;exact⟨mA,⟨od,es,ep,k _ _ (.inl rfl) e,c⟩,r⟩
 |rng lo hi=>obtain⟨t,u,v,e⟩:=x;exact⟨t,u,v,k _ _ (.inl rfl) e⟩
 |frz ob u ih=>obtain⟨e,q⟩:=x;exact⟨k _ _ (.inl rfl) e,ih q⟩
 |tbl ps =>
  have e:h.get? a=some {cls:=.none,data:=.fields ps}:=x;show h'.get? a=some {cls:=.none,data:=.fields ps};exact k a _ (.inl rfl) e
 |met f y =>
  have e:h.get? a=some (PySem.W.methodObj (.ref f) (.ref y)):=x;show h'.get? a=some (PySem.W.methodObj (.ref f) (.ref y));exact k a _ (.inl rfl) e
 |ext φ=>obtain⟨p,⟨o,e⟩,st⟩:=x;exact⟨st _ _ p fun o q=>k _ _ (.inl rfl) q,⟨o,k _ _ (.inl rfl) e⟩,st⟩
theorem HOk.lt (x:HOk P w H h) (e:H a=some o):a<h.objs.size:=(x a o e).lt
theorem HOk.fresh (x:HOk P w H h) (e:h.objs.size<=a):H a=none:=by
 cases q:H a with
 |none=>rfl
 |some u=>exact absurd (Nat.lt_of_lt_of_le (x.lt q) e) (Nat.lt_irrefl _)
theorem HOk.kept (x:HOk P w H h) (k:∀ b u,h.get? b=some u->h'.get? b=some u):HOk P w H h':=fun a o e =>
 (x a o e).stay (fun b u _ q=>k b u q) (fun _ q=>q) fun _ _ q=>q
theorem HOk.laid (x:HOk P w H h) (k:∀ b u,h.get? b=some u->h'.get? b=some u) (hp:h.objs.size<=a) (new:ObjOk P w (upd H a o) h' a o):HOk P w (upd H a o) h':=fun b u e=>by
 have hn:=x.fresh hp
 by_cases hb:b=a
 ·subst hb;rw[upd_same] at e;cases e;exact new
 ·rw[upd_ne hb] at e
  exact (x b u e).stay (fun c v _ q=>k c v q) (fun c q=>by rw[upd_ne (ne_of_none q hn)];exact q) fun c xs q=>by rw[upd_ne (ne_of_none q hn)];exact q
end
noncomputable def Rd (H:Hp) (a:Addr) (u:HO):Prop:=H a=some u\/∃ o,H a=some (.frz o u)
theorem Rd.ok {P:Program}{w:World}{H:Hp}{h:Heap}{a:Addr}{u:HO} (r:Rd H a u) (x:HOk P w H h):ObjOk P w H h a u:=by
 rcases r with r | ⟨o,r⟩
 ·exact x a u r
 ·obtain⟨_,q⟩:=x a _ r
  exact q
noncomputable def Mut:Option HO->Prop
 |some (.lst _)=>True
 |some (.dK _)=>True
 |some (.dT _)=>True
 |some (.set _ _)=>True
 |some (.ins _ _ _)=>True
 |some (.ext _)=>True
 |_=>False
section
variable {P:Program}{w:World}{H:Hp}{h h':Heap}{x e:Addr}{o':HO}
theorem HOk.write (ok:HOk P w H h) (mu:Mut (H x)) (he:e=x\/H e=some (.own x)) (k:∀ b u,b≠e->h.get? b=some u->h'.get? b=some u) (heo:∃ u,h'.get? e=some u)
  (new:ObjOk P w (upd H x o') h' x o'):HOk P w (upd H x o') h':=fun b u q=>by
 have nown:∀ c y,H c=some (.own y)->c≠x:=fun c y r z=>by subst z;rw[r] at mu;exact mu
 have ntup:∀ c xs,H c=some (.tup xs)->c≠x:=fun c xs r z=>by subst z;rw[r] at mu;exact mu
 by_cases hb:b=x
 ·subst hb;rw[upd_same] at q;cases q;exact new
 ·rw[upd_ne hb] at q
  by_cases hbe:b=e
  ·have q':H b=some (.own x):=by
    rcases he with z | z
    ·exact absurd (hbe.trans z) hb
    ·rw[hbe];exact z
   rw[q] at q';cases q';obtain⟨v,hv⟩:=heo;exact⟨v,by rw[hbe];exact hv⟩
  ·refine (ok b u q).stay (fun c v hc r=>k c v ?_ r) (fun c r=>by rw[upd_ne (nown c b r)];exact r) fun c xs r=>by rw[upd_ne (ntup c xs r)];exact r
   rcases hc with rfl | hc
   ·exact hbe
   ·rintro rfl
    rcases he with z | z
    ·exact nown c b hc z
    ·rw[hc] at z;cases z;exact hb rfl
end
structure Un (fs ex:List Addr) (H H':Hp) (h h':Heap):Prop where
 keep:∀ b o,h.get? b=some o->H b=none->b∉fs->b∉ex->h'.get? b=some o
 slot:∀ b o,h.get? b=some o->H b=none->b∈fs->b∉ex->∃ sl,h'.get? b=some {o with slots:=sl}
 free:∀ b o,h.get? b=some o->H b=none->b∉ex->H' b=none
 there:∀ b o,h.get? b=some o->b∉ex->∃ o',h'.get? b=some o'
 tups:∀ b xs,H b=some (.tup xs)->H' b=some (.tup xs)
 frzs:∀ b o u,H b=some (.frz o u)->H' b=some (.frz o u)
 tbls:∀ b ps,H b=some (.tbl ps)->∃ more,H' b=some (.tbl (ps++more))
section
variable {fs fs' ex ex':List Addr}{H H1 H2:Hp}{h h1 h2 h':Heap}{a x e:Addr}{o:HO}
theorem Un.any (u:Un fs ex H H1 h h1) {b:Addr}{ob:Obj} (q:h.get? b=some ob) (n:H b=none) (hx:b∉ex):∃ sl,h1.get? b=some {ob with slots:=sl}:=by
 by_cases hb:b∈fs
 ·exact u.slot b ob q n hb hx
 ·exact⟨ob.slots,u.keep b ob q n hb hx⟩
theorem Un.trans (a:Un fs ex H H1 h h1) (b:Un fs ex H1 H2 h1 h2):Un fs ex H H2 h h2 where
 keep:=fun c ob q n hc hx=>b.keep c ob (a.keep c ob q n hc hx) (a.free c ob q n hx) hc hx
 slot:=fun c ob q n hc hx=>by
  obtain⟨sl,e1⟩:=a.slot c ob q n hc hx;obtain⟨sl',e2⟩:=b.slot c _ e1 (a.free c ob q n hx) hc hx;exact⟨sl',e2⟩
 free:=fun c ob q n hx=>by
  obtain⟨o',e1⟩:=a.there c ob q hx;exact b.free c o' e1 (a.free c ob q n hx) hx
 there:=fun c ob q hx=>by
  obtain⟨o',e1⟩:=a.there c ob q hx;exact b.there c o' e1 hx
 tups:=fun c xs q=>b.tups c xs (a.tups c xs q)
 frzs:=fun c ob xs q=>b.frzs c ob xs (a.frzs c ob xs q)
 tbls:=fun c ps q=>by
  obtain⟨m1,e1⟩:=a.tbls c ps q;obtain⟨m2,e2⟩:=b.tbls c _ e1;exact⟨m1++m2,by rw[e2,Array.append_assoc]⟩
theorem Un.kept (k:∀ b u,h.get? b=some u->h'.get? b=some u):Un fs ex H H h h' :=
 ⟨fun b ob q _ _ _=>k b ob q,fun b ob q _ _ _=>⟨ob.slots,k b ob q⟩,fun _ _ _ n _=>n,fun b ob q _=>⟨ob,k b ob q⟩,fun _ _ q=>q,fun _ _ _ q=>q,fun _ ps q=>⟨#[],by rw[q];simp⟩⟩
theorem Un.refl:Un fs ex H H h h:=Un.kept fun _ _ q=>q
theorem Un.laid (k:∀ b u,h.get? b=some u->h'.get? b=some u) (hp:h.objs.size<=a) (hn:H a=none):Un fs ex H (upd H a o) h h' where
 keep:=fun b u q _ _ _=>k b u q
 slot:=fun b u q _ _ _=>⟨u.slots,k b u q⟩
 free:=fun b u q n _=>by rw[upd_ne (Nat.ne_of_lt (Nat.lt_of_lt_of_le (Heap.lt_size q) hp))];exact n
 there:=fun b u q _=>⟨u,k b u q⟩
 tups:=fun b xs q=>by rw[upd_ne (ne_of_none q hn)];exact q
 frzs:=fun b u xs q=>by rw[upd_ne (ne_of_none q hn)];exact q
 tbls:=fun b ps q=>⟨#[],by rw[upd_ne (ne_of_none q hn),q];simp⟩
theorem Un.write (mu:Mut (H x)) (he:e=x\/H e=some (.own x)) (k:∀ b u,b≠e->h.get? b=some u->h'.get? b=some u) (heo:∃ u,h'.get? e=some u):Un fs ex H (upd H x o) h h':=by
 have hx:∀ b,H b=none->b≠x:=fun b n z=>by subst z;rw[n] at mu;exact mu
 have hb:∀ b,H b=none->b≠e:=fun b n z=>by
  subst z
  rcases he with r | r
  ·exact hx b n r
  ·rw[n] at r;cases r
 have hm:∀ b u,H b=some u->¬ Mut (some u)->b≠x:=fun b u q nm z=>by subst z;rw[q] at mu;exact nm mu
 refine⟨fun b u q n _ _=>k b u (hb b n) q,fun b u q n _ _=>⟨u.slots,k b u (hb b n) q⟩,fun b u q n _=>by rw[upd_ne (hx b n)];exact n,fun b u q _=>?_,
  fun b xs q=>by rw[upd_ne (hm b _ q fun z=>z)];exact q,fun b u xs q=>by rw[upd_ne (hm b _ q fun z=>z)];exact q,fun b ps q=>⟨#[],by rw[upd_ne (hm b _ q fun z=>z),q];simp⟩⟩
 by_cases hbe:b=e
 ·subst hbe;exact heo
 ·exact⟨u,k b u hbe q⟩
theorem Un.mono (u:Un fs ex H H1 h h1) (hs:∀ b∈fs,b∈fs') (hx:∀ b∈ex,b∈ex'):Un fs' ex' H H1 h h1 :=
 ⟨fun b ob q n hb he=>u.keep b ob q n (fun z=>hb (hs b z)) fun z=>he (hx b z),fun _ _ q n _ he=>u.any q n fun z=>he (hx _ z),fun b ob q n he=>u.free b ob q n fun z=>he (hx b z),fun b ob q he=>u.there b ob q fun z=>he (hx b z),u.tups,u.frzs,u.tbls⟩
end
noncomputable def trk (h:Heap) (H:Hp):List Addr:=(List.range h.objs.size).filter fun a=>(H a).isSome
noncomputable def hidT (h:Heap) (H:Hp):Heap:=PySem.W.hideAll h (trk h H)
theorem hidT_size (h:Heap) (H:Hp):(hidT h H).objs.size=h.objs.size:=PySem.W.hideAll_size _ _
theorem hidT_get {h:Heap}{H:Hp}{b:Addr}{o:Obj} (e:h.get? b=some o) (n:H b=none):(hidT h H).get? b=some o :=
 PySem.W.hideAll_get _ e fun hm=>by
  have q:(H b).isSome=true:=(List.mem_filter.mp hm).2;rw[n] at q;simp at q
theorem of_hidT {h:Heap}{H:Hp}{b:Addr}{o:Obj} (e:(hidT h H).get? b=some o):h.get? b=some o/\H b=none:=by
 have e':h.get? b=some o:=PySem.W.of_hideAll (trk h H) e;refine⟨e',?_⟩;cases q:H b with
 |none=>rfl
 |some x =>
  have hm:b∈trk h H:=List.mem_filter.mpr ⟨List.mem_range.mpr (Heap.lt_size e'),by simp[q]⟩
  have z:(hidT h H).get? b=none:=PySem.W.hideAll_none (trk h H) hm;rw[z] at e;cases e
noncomputable def allNews (g h:Heap) (L:Addr):List (Addr×Obj):=(List.range h.objs.size).filterMap fun a=>if a=L\/(g.get? a).isSome=true then none else (h.get? a).map fun o=>(a,o)
noncomputable def rest (g h:Heap) (L d:Addr):List (Addr×Obj):=(allNews g h L).filter fun p=>decide (p.1≠d)
end L2
namespace L2
open PySem PySem.Spec PyProof.Rows
structure Mod (K:PySem.W.Frag) (mg:Str->Option Value) (base:Heap):Prop where
 kin:K.In base
 glob:base.Ns mainGlobals mg
 blt:∃ mb,base.Ns builtinsNs mb ∧ ∀ x:Str,x≠"__name__" → mb x=bootBuiltins x
 nolimit:base.NoLimit
structure Cx where
 prog:Program
 w:World
 K:PySem.W.Frag
 mg:Str->Option Value
 base:Heap
 A:Around
 N:List Str
 s₀:Shared
 H₀:Hp
 env:Env
 outer:List Env
 stack:List Env
 ex:List Addr
 fn:Str->Bool
 calm:Bool
 pn:List (Addr×Obj)
 xe:Value->Shared->Prop
noncomputable def frs (l:List Env):List Addr:=l.filterMap (·.frame)
noncomputable abbrev Cx.fs (X:Cx):List Addr:=frs X.outer
noncomputable def Vis (sc:Scope) (x:Str):Prop:=sc.names.lookup x=some .local\/sc.names.lookup x=some .cell\/sc.names.lookup x=some .free
noncomputable def Loc (sc:Scope) (x:Str):Prop:=sc.names.lookup x=some .local\/sc.names.lookup x=some .cell
noncomputable def Look (env:Env) (h:Heap) (m:Str->Option Value) (x:Str) (u:Value):Prop :=
 (env.kindOf x=some .local/\m x=some u)\/((env.kindOf x=some .cell\/env.kindOf x=some .free)/\∃ c,env.cells.lookup x=some c/\h.IsCell c (some u))
structure Cx.Ok (X:Cx):Prop where
 mod:Mod X.K X.mg X.base
 kind:X.env.scope.kind=.function
 glob:X.env.globals=mainGlobals
 blt:X.env.builtins=builtinsNs
 above:X.s₀.heap.objs.size<=X.env.locals
 inj:∀ x y c,X.env.cells.lookup x=some c->X.env.cells.lookup y=some c->x=y
 has:∀ x,(X.env.kindOf x=some .cell\/X.env.kindOf x=some .free)->∃ c,X.env.cells.lookup x=some c
 cab:∀ x c,X.fn x=true->X.env.cells.lookup x=some c->X.s₀.heap.objs.size<=c
 hd:X.calm=true->X.A.handled=none
 frames:X.A.frames=some X.stack
 stk:X.stack=X.outer\/(X.stack=X.env::X.outer/\X.env.frame=some X.env.locals)
 exf:∀ b∈X.ex,b≠X.env.locals/\∀ x c,X.env.cells.lookup x=some c->c≠b
 bs:∀ b o,X.base.get? b=some o->X.s₀.heap.get? b=some o/\X.H₀ b=none
 bsz:X.base.objs.size<=X.s₀.heap.objs.size
 noex:∀ b o,X.base.get? b=some o->b∉X.ex
 exfs:∀ b∈X.ex,b∉X.fs
 funs:X.s₀.heap.FunFrames X.base X.outer
 frf:∀ b∈X.fs,X.H₀ b=none
structure Inv (X:Cx) (pins:List (Addr×Obj)) (σ:List (Option V)) (H:Hp) (s:Shared):Prop where
 ok:X.Ok
 os:s.os=X.s₀.os
 bare:AllBare s.gens
 base:Un X.fs X.ex X.H₀ H X.s₀.heap s.heap
 loc:∃ m,s.heap.Ns X.env.locals m/\∀ (i:Nat) (x:Str) (v:V),X.N[i]?=some x->σ[i]?=some (some v)->Vis X.env.scope x->∃ u,RelV v u/\Look X.env s.heap m x u
 cell:∀ x c,X.env.cells.lookup x=some c->∃ v,s.heap.IsCell c v
 free:H X.env.locals=none
 freeC:∀ x c,X.env.cells.lookup x=some c->H c=none
 pin:∀ p∈X.pn++pins,s.heap.get? p.1=some p.2/\H p.1=none/\p.1≠X.env.locals/\p.1∉X.fs/\∀ v,p.2.data≠.cell v
 hok:HOk X.prog X.w H s.heap
 len:σ.length=X.N.length
section
variable {X:Cx}{pins:List (Addr×Obj)}{σ:List (Option V)}{H H':Hp}{s:Shared}{h':Heap}
theorem Cx.Ok.nofr (ok:X.Ok) {b:Addr}{o:Obj} (e:X.base.get? b=some o):b∉X.fs:=fun hb=>by
 have:=(ok.funs.mem hb).1;rw[e] at this;cases this
theorem Inv.bs (I:Inv X pins σ H s):∀ b o,X.base.get? b=some o->s.heap.get? b=some o/\H b=none:=fun b o e =>
 ⟨I.base.keep b o (I.ok.bs b o e).1 (I.ok.bs b o e).2 (I.ok.nofr e) (I.ok.noex b o e),I.base.free b o (I.ok.bs b o e).1 (I.ok.bs b o e).2 (I.ok.noex b o e)⟩
theorem Inv.bk (I:Inv X pins σ H s):∀ b o,X.base.get? b=some o->s.heap.get? b=some o:=fun b o e=>(I.bs b o e).1
theorem Inv.mod (I:Inv X pins σ H s):Mod X.K X.mg X.base:=I.ok.mod
theorem Inv.kIn (I:Inv X pins σ H s):X.K.In s.heap:=I.ok.mod.kin.keeps I.bk
theorem Inv.fr (I:Inv X pins σ H s):∃ m,Fr X.base X.env.locals s.heap m :=
 let ⟨m,hn,_⟩:=I.loc
 ⟨m,hn,I.bk,Nat.le_trans I.ok.bsz I.ok.above⟩
theorem Inv.lt (I:Inv X pins σ H s):X.env.locals<s.heap.objs.size:=let ⟨_,hn,_⟩:=I.loc;hn.lt
theorem Inv.sz (I:Inv X pins σ H s):X.s₀.heap.objs.size<=s.heap.objs.size:=Nat.le_trans I.ok.above (Nat.le_of_lt I.lt)
theorem Inv.nofs (I:Inv X pins σ H s) {a:Addr} (h:s.heap.objs.size<=a):a∉X.fs:=fun hb=>by
 obtain⟨_,o,ho,_⟩:=I.ok.funs.mem hb;exact absurd (Nat.lt_of_lt_of_le (Heap.lt_size ho) (Nat.le_trans I.sz h)) (Nat.lt_irrefl _)
theorem Inv.cne (I:Inv X pins σ H s):∀ x c,X.env.cells.lookup x=some c->c≠X.env.locals:=fun x c e z=>by
 obtain⟨v,o,ho,hd⟩:=I.cell x c e;obtain⟨m,⟨o',es,ep,ho',hd',_⟩,_⟩:=I.loc;rw[z,ho'] at ho;cases ho;rw[hd'] at hd;cases hd
theorem Inv.funs (I:Inv X pins σ H s):s.heap.FunFrames X.base X.outer:=by
 have all:∀ (l:List Env),(∀ b∈frs l,b∈X.fs)->X.s₀.heap.FunFrames X.base l->s.heap.FunFrames X.base l:=by
  intro l
  induction l with
  |nil=>intro _ _;trivial
  |cons env r ih =>
   intro hs hl;obtain⟨hk,⟨L,o,hf,hn,ho,hd⟩,hr⟩:=hl;have hL:L∈X.fs:=hs L (by unfold frs;rw[List.filterMap_cons,hf];exact List.mem_cons_self)
   obtain⟨sl,e⟩:=I.base.slot L o ho (I.ok.frf L hL) hL fun z=>I.ok.exfs L z hL
   exact⟨hk,⟨L,_,hf,hn,e,hd⟩,ih (fun b hb=>hs b (by unfold frs;rw[List.filterMap_cons,hf];exact List.mem_cons_of_mem _ hb)) hr⟩
 exact all X.outer (fun _ hb=>hb) I.ok.funs
theorem Inv.stack (I:Inv X pins σ H s):s.heap.FunFrames X.base X.stack:=by
 rcases I.ok.stk with e | ⟨e,hf⟩
 ·rw[e];exact I.funs
 ·rw[e]
  obtain⟨m,hn,_⟩:=I.loc;refine .cons (by rw[I.ok.kind];decide) hf hn ?_ I.funs
  exact Heap.get?_none_of_le (Nat.le_trans I.ok.bsz I.ok.above)
theorem Inv.stkSub (I:Inv X pins σ H s):∀ b∈frs X.stack,b∈X.env.locals::X.fs:=fun b hb=>by
 rcases I.ok.stk with e | ⟨e,hf⟩
 ·rw[e] at hb;exact List.mem_cons_of_mem _ hb
 ·rw[e] at hb
  unfold frs at hb;rw[List.filterMap_cons,hf] at hb;exact hb
theorem Inv.stkFree (I:Inv X pins σ H s):∀ b∈frs X.stack,H b=none:=fun b hb=>by
 rcases List.mem_cons.mp (I.stkSub b hb) with e | hb
 ·rw[e];exact I.free
 ·obtain⟨_,o,ho,_⟩:=I.ok.funs.mem hb
  exact I.base.free b o ho (I.ok.frf b hb) fun z=>I.ok.exfs b z hb
theorem Inv.step {g':Array GenState}{t':Nat}{d':Drawn}{ch:List Addr} (I:Inv X pins σ H s)
  (hch:∀ b∈ch,(b∈X.ex\/X.s₀.heap.objs.size<=b)/\b≠X.env.locals/\(∀ x c,X.env.cells.lookup x=some c->c≠b)/\∀ p∈X.pn++pins,p.1≠b)
  (keep:∀ b o,b≠X.env.locals->b∉X.fs->b∉ch->s.heap.get? b=some o->H b=none->h'.get? b=some o)
  (slot:∀ b o,b≠X.env.locals->b∈X.fs->b∉ch->s.heap.get? b=some o->H b=none->∃ sl,h'.get? b=some {o with slots:=sl}) (free:∀ b o,b∉ch->s.heap.get? b=some o->H b=none->H' b=none)
  (there:∀ b o,b∉ch->s.heap.get? b=some o->∃ o',h'.get? b=some o')
  (tups:∀ b xs,H b=some (.tup xs)->H' b=some (.tup xs)) (frzs:∀ b o u,H b=some (.frz o u)->H' b=some (.frz o u)) (tbls:∀ b ps,H b=some (.tbl ps)->∃ more,H' b=some (.tbl (ps++more)))
  (ns:∀ m,s.heap.Ns X.env.locals m->h'.Ns X.env.locals m) (hok:HOk X.prog X.w H' h') (hg:AllBare g') :
  Inv X pins σ H' {s with heap:=h',gens:=g',drawn:=d',toks:=t'}:=by
 have neL:∀ b o,X.s₀.heap.get? b=some o->b≠X.env.locals:=fun b o e=>Nat.ne_of_lt (Nat.lt_of_lt_of_le (Heap.lt_size e) I.ok.above)
 have neC:∀ b o,X.s₀.heap.get? b=some o->b∉X.ex->b∉ch:=fun b o e hx hb=>by
  rcases (hch b hb).1 with z | z
  ·exact hx z
  ·exact absurd (Nat.lt_of_lt_of_le (Heap.lt_size e) z) (Nat.lt_irrefl _)
 have cellK:∀ x c,X.env.cells.lookup x=some c->∀ v,s.heap.IsCell c v->h'.IsCell c v:=fun x c e v hh0_=>by
  obtain⟨o,ho,hd⟩:=hh0_;have nch:c∉ch:=fun z=>(hch c z).2.2.1 x c e rfl
  by_cases hc:c∈X.fs
  ·obtain⟨sl,q⟩:=slot c o (I.cne x c e) hc nch ho (I.freeC x c e)
   exact⟨_,q,hd⟩
  ·exact⟨o,keep c o (I.cne x c e) hc nch ho (I.freeC x c e),hd⟩
 refine⟨I.ok,I.os,hg,⟨fun b o e n hb hx=>?_,fun b o e n hb hx=>?_,fun b o e n hx=>?_,fun b o e hx=>?_,fun b xs e=>tups b xs (I.base.tups b xs e),fun b o xs e=>frzs b o xs (I.base.frzs b o xs e),fun b ps e=>?_⟩,?_,fun x c e=>?_,?_,fun x c e=>?_,fun p hp=>?_,hok,I.len⟩
 ·exact keep b o (neL b o e) hb (neC b o e hx) (I.base.keep b o e n hb hx) (I.base.free b o e n hx)
 ·obtain⟨sl,e1⟩:=I.base.slot b o e n hb hx
  obtain⟨sl',e2⟩:=slot b _ (neL b o e) hb (neC b o e hx) e1 (I.base.free b o e n hx);exact⟨sl',e2⟩
 ·obtain⟨o',e1⟩:=I.base.there b o e hx
  exact free b o' (neC b o e hx) e1 (I.base.free b o e n hx)
 ·obtain⟨o',e1⟩:=I.base.there b o e hx
  exact there b o' (neC b o e hx) e1
 ·obtain⟨m1,e1⟩:=I.base.tbls b ps e
  obtain⟨m2,e2⟩:=tbls b _ e1;exact⟨m1++m2,by rw[e2,Array.append_assoc]⟩
 ·obtain⟨m,hn,hl⟩:=I.loc
  refine⟨m,ns m hn,fun i x v e1 e2 e3=>?_⟩
  obtain⟨u,r,l⟩:=hl i x v e1 e2 e3;refine⟨u,r,?_⟩
  rcases l with l | ⟨k,c,e,z⟩
  ·exact .inl l
  ·exact .inr ⟨k,c,e,cellK x c e _ z⟩
 ·obtain⟨v,z⟩:=I.cell x c e
  exact⟨v,cellK x c e v z⟩
 ·obtain⟨m,⟨o,_,_,ho,_⟩,_⟩:=I.loc
  exact free _ o (fun z=>(hch _ z).2.1 rfl) ho I.free
 ·obtain⟨v,o,ho,hd⟩:=I.cell x c e
  exact free c o (fun z=>(hch c z).2.2.1 x c e rfl) ho (I.freeC x c e)
 ·obtain⟨e,n,ne,nf,d⟩:=I.pin p hp
  have nch:p.1∉ch:=fun z=>(hch p.1 z).2.2.2 p hp rfl
  exact⟨keep p.1 p.2 ne nf nch e n,free p.1 p.2 nch e n,ne,nf,d⟩
theorem Inv.un {t':Nat} (I:Inv X pins σ H s) (u:Un X.fs [] H H' s.heap h') (hok:HOk X.prog X.w H' h'):Inv X pins σ H' {s with heap:=h',toks:=t'}:=by
 obtain⟨m,⟨o,es,ep,ho,r⟩,_⟩:=id I.loc;obtain⟨sl,hL⟩:=u.any ho I.free (by simp)
 exact I.step (g':=s.gens) (d':=s.drawn) (ch:=[]) (fun _ z=>nomatch z) (fun b o _ hb _ e n=>u.keep b o e n hb (by simp)) (fun b o _ hb _ e n=>u.slot b o e n hb (by simp)) (fun b o _ e n=>u.free b o e n (by simp)) (fun b o _ e=>u.there b o e (by simp)) u.tups u.frzs u.tbls (fun m' hm=>by
  obtain⟨o',es',ep',ho',r'⟩:=hm;rw[ho] at ho';cases ho';exact⟨_,es',ep',hL,r'⟩) hok I.bare
theorem Inv.call {g':Array GenState}{t':Nat}{d':Drawn}{ch:List Addr} (I:Inv X pins σ H s) (u:Un (frs X.stack) ch H H' s.heap h') (hok:HOk X.prog X.w H' h') (hg:AllBare g')
  (hch:∀ b∈ch,(b∈X.ex\/X.s₀.heap.objs.size<=b)/\b≠X.env.locals/\(∀ x c,X.env.cells.lookup x=some c->c≠b)/\∀ p∈X.pn++pins,p.1≠b) :
  Inv X pins σ H' {s with heap:=h',gens:=g',drawn:=d',toks:=t'}:=by
 obtain⟨m,⟨o,es,ep,ho,r⟩,_⟩:=id I.loc;obtain⟨sl,hL⟩:=u.any ho I.free fun z=>(hch _ z).2.1 rfl
 exact I.step (ch:=ch) hch (fun b o hL hb hc e n=>u.keep b o e n (fun z=>(List.mem_cons.mp (I.stkSub b z)).elim hL hb) hc) (fun b o _ _ hc e n=>u.any e n hc) (fun b o hc e n=>u.free b o e n hc) (fun b o hc e=>u.there b o e hc) u.tups u.frzs u.tbls (fun m' hm=>by
  obtain⟨o',es',ep',ho',r'⟩:=hm;rw[ho] at ho';cases ho';exact⟨_,es',ep',hL,r'⟩) hok hg
theorem Inv.turned {t':Nat}{it:Addr} (I:Inv X pins σ H s) (k:∀ b o,b≠it->s.heap.get? b=some o->h'.get? b=some o) (hn:H it=none) (hL:it≠X.env.locals)
  (h1:it∈X.ex\/X.s₀.heap.objs.size<=it) (h2:∀ x c,X.env.cells.lookup x=some c->c≠it) (h3:∀ p∈X.pn++pins,p.1≠it):Inv X pins σ H {s with heap:=h',toks:=t'}:=by
 have nit:∀ b u,H b=some u->b≠it:=fun b u e z=>by rw[z,hn] at e;cases e
 refine I.step (g':=s.gens) (d':=s.drawn) (ch:=[it]) (fun b hb=>?_) (fun b o _ _ hc e _=>k b o (fun z=>hc (by simp[z])) e) (fun b o _ _ hc e _=>⟨o.slots,k b o (fun z=>hc (by simp[z])) e⟩) (fun _ _ _ _ n=>n)
  (fun b o hc e=>⟨o,k b o (fun z=>hc (by simp[z])) e⟩) (fun _ _ e=>e) (fun _ _ _ e=>e) (fun b ps e=>⟨#[],by rw[e];simp⟩) (fun m hm=>?_) (fun b u e=>?_) I.bare
 ·have e:b=it:=by simpa using hb
  subst e;exact⟨h1,hL,h2,h3⟩
 ·obtain⟨o,es,ep,ho,r⟩:=hm
  exact⟨o,es,ep,k _ o (Ne.symm hL) ho,r⟩
 ·refine (I.hok b u e).stay (fun c v hc q=>k c v ?_ q) (fun _ q=>q) fun _ _ q=>q
  rcases hc with z | z
  ·rw[z];exact nit b u e
  ·exact nit c _ z
theorem Inv.tok (I:Inv X pins σ H s) (t:Nat):Inv X pins σ H {s with toks:=t}:=I.un (h':=s.heap) (t':=t) Un.refl I.hok
theorem Inv.kept {t':Nat} (I:Inv X pins σ H s) (k:∀ b u,s.heap.get? b=some u->h'.get? b=some u):Inv X pins σ H {s with heap:=h',toks:=t'}:=I.un (Un.kept k) (I.hok.kept k)
theorem Inv.laid {a:Addr}{o:HO}{t':Nat} (I:Inv X pins σ H s) (k:∀ b u,s.heap.get? b=some u->h'.get? b=some u) (hp:s.heap.objs.size<=a) (new:ObjOk X.prog X.w (upd H a o) h' a o) :
  Inv X pins σ (upd H a o) {s with heap:=h',toks:=t'}:=I.un (Un.laid k hp (I.hok.fresh hp)) (I.hok.laid k hp new)
theorem Inv.write {x e:Addr}{o:HO}{t':Nat} (I:Inv X pins σ H s) (mu:Mut (H x)) (he:e=x\/H e=some (.own x)) (k:∀ b u,b≠e->s.heap.get? b=some u->h'.get? b=some u) (heo:∃ u,h'.get? e=some u)
  (new:ObjOk X.prog X.w (upd H x o) h' x o):Inv X pins σ (upd H x o) {s with heap:=h',toks:=t'}:=I.un (Un.write mu he k heo) (I.hok.write mu he k heo new)
theorem Inv.weak {σ':List (Option V)} (I:Inv X pins σ H s) (hl:σ'.length=σ.length) (w:∀ (i:Nat) v,σ'[i]?=some (some v)->σ[i]?=some (some v)):Inv X pins σ' H s :=
 ⟨I.ok,I.os,I.bare,I.base,let ⟨m,hn,hl'⟩:=I.loc;⟨m,hn,fun i x v e1 e2 e3=>hl' i x v e1 (w i v e2) e3⟩,I.cell,I.free,I.freeC,I.pin,I.hok,hl.trans I.len⟩
theorem Inv.pins_of {pins':List (Addr×Obj)} (I:Inv X pins σ H s) (h:∀ p∈pins',s.heap.get? p.1=some p.2/\H p.1=none/\p.1≠X.env.locals/\p.1∉X.fs/\∀ v,p.2.data≠.cell v):Inv X pins' σ H s :=
 ⟨I.ok,I.os,I.bare,I.base,I.loc,I.cell,I.free,I.freeC,fun p hp=>(List.mem_append.mp hp).elim (fun z=>I.pin p (List.mem_append_left _ z)) (h p),I.hok,I.len⟩
theorem nodup_ix {N:List Str} (hN:N.Nodup) {i j:Nat}{x:Str} (a:N[i]?=some x) (b:N[j]?=some x):i=j:=by
 obtain⟨h1,e1⟩:=List.getElem?_eq_some_iff.mp a;obtain⟨h2,e2⟩:=List.getElem?_eq_some_iff.mp b;exact (List.getElem_inj hN).mp (e1.trans e2.symm)
theorem store_ok2 {M:Model}{A:Around}{E:Value->Shared->Prop}{i:Nat}{x:Str}{v:V}{u:Value}{Q:Unit->Shared->Prop} (I:Inv X pins σ H s) (hN:X.N.Nodup) (hi:X.N[i]?=some x) (hx:Loc X.env.scope x) (r:RelV v u)
  (h:∀ s',Inv X pins (σ.set i (some v)) H s'->(∃ a,Heap.SameBut a s.heap s'.heap/\(a=X.env.locals\/X.env.cells.lookup x=some a))->Q () s') (hf:X.fn x=true\/X.env.scope.names.lookup x=some .local:=by first | exact .inl rfl | exact .inr rfl | assumption):wpAny M A (storeName X.env x u) Q E s:=by
 obtain⟨m,hn,hl⟩:=id I.loc;have hcls:(X.env.scope.kind==.class||(X.env.scope.kind==.module&&X.env.locals != X.env.globals))=false:=by rw[I.ok.kind];rfl
 have hiσ:i<σ.length:=by rw[I.len];exact (List.getElem?_eq_some_iff.mp hi).1
 have cne:=I.cne
 have tracked:∀ {a:Addr}{h':Heap},(∃ o,s.heap.get? a=some o/\H a=none)->Heap.SameBut a s.heap h'->HOk X.prog X.w H h':=fun {a h'} ha hs b ob e=>by
  obtain⟨_,_,hfree⟩:=ha;refine (I.hok b ob e).stay (fun c w' hc q=>(hs.2 c ?_).trans q) (fun _ q=>q) fun _ _ q=>q
  rintro rfl
  rcases hc with rfl | hc
  ·rw[hfree] at e;cases e
  ·rw[hfree] at hc;cases hc
 rcases hx with hk | hk
 ·refine wpAny_storeName_local hk hn (fun h' hn' hs=>?_) hcls
  obtain⟨oL,_,_,hoL,_⟩:=id hn;refine h _ ⟨I.ok,I.os,I.bare,⟨fun b o e n hb hx=>?_,fun b o e n hb hx=>?_,I.base.free,fun b o e hx=>?_,I.base.tups,I.base.frzs,I.base.tbls⟩,⟨_,hn',fun j y v' e1 e2 e3=>?_⟩,fun y c e=>?_,I.free,I.freeC,fun p hp=>?_,tracked ⟨oL,hoL,I.free⟩ hs,by simpa using I.len⟩ ⟨_,hs,.inl rfl⟩
  ·exact (hs.2 b (Nat.ne_of_lt (Nat.lt_of_lt_of_le (Heap.lt_size e) I.ok.above))).trans (I.base.keep b o e n hb hx)
  ·obtain⟨sl,e1⟩:=I.base.slot b o e n hb hx
   exact⟨sl,(hs.2 b (Nat.ne_of_lt (Nat.lt_of_lt_of_le (Heap.lt_size e) I.ok.above))).trans e1⟩
  ·obtain⟨o',e1⟩:=I.base.there b o e hx
   exact⟨o',(hs.2 b (Nat.ne_of_lt (Nat.lt_of_lt_of_le (Heap.lt_size e) I.ok.above))).trans e1⟩
  ·by_cases hj:j=i
   ·subst hj
    rw[hi] at e1;cases e1;rw[List.getElem?_set_self hiσ] at e2;cases e2;exact⟨u,r,.inl ⟨hk,by simp⟩⟩
   ·rw[List.getElem?_set_ne (Ne.symm hj)] at e2
    obtain⟨u',r',q⟩:=hl j y v' e1 e2 e3;refine⟨u',r',?_⟩
    rcases q with ⟨k,e⟩ | ⟨k,c,e,z⟩
    ·refine .inl ⟨k,?_⟩
     have:y≠x:=fun e=>hj (nodup_ix hN e1 (e▸hi))
     simp[this,e]
    ·exact .inr ⟨k,c,e,z.sameBut hs (cne y c e)⟩
  ·obtain⟨w',z⟩:=I.cell y c e
   exact⟨w',z.sameBut hs (cne y c e)⟩
  ·obtain⟨e,n,ne,nf,d⟩:=I.pin p hp
   exact⟨(hs.2 p.1 ne).trans e,n,ne,nf,d⟩
 ·have hfn:X.fn x=true:=by
   rcases hf with z | z
   ·exact z
   ·rw[z] at hk;cases hk
  obtain⟨c,hc⟩:=I.ok.has x (.inl hk);obtain⟨w',z⟩:=I.cell x c hc;refine wpAny_storeName_cell I.ok.kind hk hc z (fun h' hc' hs=>?_)
  obtain⟨oc,hoc,hocd⟩:=id z;refine h {s with heap:=h'} ⟨I.ok,I.os,I.bare,⟨fun b o e n hb hx=>?_,fun b o e n hb hx=>?_,I.base.free,fun b o e hx=>?_,I.base.tups,I.base.frzs,I.base.tbls⟩,⟨m,hn.sameBut hs (Ne.symm (cne x c hc)),fun j y v' e1 e2 e3=>?_⟩,fun y c' e=>?_,I.free,I.freeC,fun p hp=>?_,tracked ⟨oc,hoc,I.freeC x c hc⟩ hs,by simpa using I.len⟩ ⟨c,hs,.inr hc⟩
  ·exact (hs.2 b (Nat.ne_of_lt (Nat.lt_of_lt_of_le (Heap.lt_size e) (I.ok.cab x c hfn hc)))).trans (I.base.keep b o e n hb hx)
  ·obtain⟨sl,e1⟩:=I.base.slot b o e n hb hx
   exact⟨sl,(hs.2 b (Nat.ne_of_lt (Nat.lt_of_lt_of_le (Heap.lt_size e) (I.ok.cab x c hfn hc)))).trans e1⟩
  ·obtain⟨o',e1⟩:=I.base.there b o e hx
   exact⟨o',(hs.2 b (Nat.ne_of_lt (Nat.lt_of_lt_of_le (Heap.lt_size e) (I.ok.cab x c hfn hc)))).trans e1⟩
  ·by_cases hj:j=i
   ·subst hj
    rw[hi] at e1;cases e1;rw[List.getElem?_set_self hiσ] at e2;cases e2;exact⟨u,r,.inr ⟨.inl hk,c,hc,hc'⟩⟩
   ·rw[List.getElem?_set_ne (Ne.symm hj)] at e2
    obtain⟨u',r',q⟩:=hl j y v' e1 e2 e3;refine⟨u',r',?_⟩
    rcases q with q | ⟨k,c',e,z'⟩
    ·exact .inl q
    ·refine .inr ⟨k,c',e,z'.sameBut hs ?_⟩
     rintro rfl;exact hj (nodup_ix hN e1 (I.ok.inj _ _ _ e hc▸hi))
  ·by_cases hcc:c'=c
   ·subst hcc;exact⟨_,hc'⟩
   ·obtain⟨w2,z2⟩:=I.cell y c' e
    exact⟨w2,z2.sameBut hs hcc⟩
  ·obtain⟨e,n,ne,nf,d⟩:=I.pin p hp
   refine⟨(hs.2 p.1 ?_).trans e,n,ne,nf,d⟩;intro q;rw[q,hoc] at e;have q':oc=p.2:=Option.some.inj e;exact d w' (by rw[<- q'];exact hocd)
theorem store_ok {M:Model}{A:Around}{E:Value->Shared->Prop}{i:Nat}{x:Str}{v:V}{u:Value}{Q:Unit->Shared->Prop} (I:Inv X pins σ H s) (hN:X.N.Nodup) (hi:X.N[i]?=some x) (hx:Loc X.env.scope x) (r:RelV v u)
  (h:∀ s',Inv X pins (σ.set i (some v)) H s'->Q () s') (hf:X.fn x=true\/X.env.scope.names.lookup x=some .local:=by first | exact .inl rfl | exact .inr rfl | assumption):wpAny M A (storeName X.env x u) Q E s :=
 store_ok2 I hN hi hx r (fun s' I' _=>h s' I') hf
theorem Inv.call' {s':Shared}{ch:List Addr} (I:Inv X pins σ H s) (ho:s'.os=s.os) (u:Un (frs X.stack) ch H H' s.heap s'.heap) (hok:HOk X.prog X.w H' s'.heap) (hg:AllBare s'.gens)
  (hch:∀ b∈ch,(b∈X.ex\/X.s₀.heap.objs.size<=b)/\b≠X.env.locals/\(∀ x c,X.env.cells.lookup x=some c->c≠b)/\∀ p∈X.pn++pins,p.1≠b):Inv X pins σ H' s':=by
 obtain⟨h',g',d',t',o'⟩:=s';have e:o'=s.os:=ho;subst e;exact I.call (g':=g') (t':=t') (d':=d') u hok hg hch
end
noncomputable abbrev XK:=Value->Option Addr->Hp->Prop
noncomputable abbrev St:=List (Option V)
noncomputable abbrev VK:=V->Hp->Prop
noncomputable abbrev TE:=St->Hp->VK->Prop
noncomputable abbrev TT:=St->Hp->(Bool->Hp->Prop)->Prop
noncomputable abbrev TA:=St->Hp->(List V->Hp->Prop)->Prop
structure Ends where
 nx:St->Hp->Prop
 rt:VK
 bk:St->Hp->Prop:=fun _ _=>False
 ct:St->Hp->Prop:=fun _ _=>False
noncomputable abbrev TS:=Ends->St->Hp->Prop
noncomputable def EP (X:Cx) (pins:List (Addr×Obj)) (σ:St) (Q:VK) (u:Value) (s':Shared):Prop:=∃ v H',Inv X pins σ H' s'/\RelV v u/\Q v H'
noncomputable def TP (X:Cx) (pins:List (Addr×Obj)) (σ:St) (Q:Bool->Hp->Prop) (b:Bool) (s':Shared):Prop:=∃ H',Inv X pins σ H' s'/\Q b H'
noncomputable def AP (X:Cx) (pins:List (Addr×Obj)) (σ:St) (Q:List V->Hp->Prop) (us:List Value) (s':Shared):Prop:=∃ vs H',Inv X pins σ H' s'/\Vals vs us/\Q vs H'
noncomputable def SP (X:Cx) (pins:List (Addr×Obj)) (D:Ends) (f:Flow) (s':Shared):Prop :=
 match f with
 |.next=>∃ σ' H',Inv X pins σ' H' s'/\D.nx σ' H'
 |.brk=>∃ σ' H',Inv X pins σ' H' s'/\D.bk σ' H'
 |.cont=>∃ σ' H',Inv X pins σ' H' s'/\D.ct σ' H'
 |.ret u=>∃ v σ' H',Inv X pins σ' H' s'/\RelV v u/\D.rt v H'
noncomputable def PE (X:Cx) (e:Expr) (t:TE):Prop :=
 ∀ (pins:List (Addr×Obj)) (s:Shared) (σ:St) (H:Hp) (Q:VK),Inv X pins σ H s->t σ H Q->wpAny (model X.prog X.w) X.A (eval e X.env) (EP X pins σ Q) X.xe s
noncomputable def PT (X:Cx) (e:Expr) (t:TT):Prop :=
 ∀ (pins:List (Addr×Obj)) (s:Shared) (σ:St) (H:Hp) (Q:Bool->Hp->Prop),Inv X pins σ H s->t σ H Q->wpAny (model X.prog X.w) X.A (isTrue e X.env (eval e X.env)) (TP X pins σ Q) X.xe s
noncomputable def PW (X:Cx) (e:Expr) (t:TT):Prop :=
 ∀ (whole:Sem Value) (pins:List (Addr×Obj)) (s:Shared) (σ:St) (H:Hp) (Q:Bool->Hp->Prop),Inv X pins σ H s->t σ H Q->wpAny (model X.prog X.w) X.A (isTrue e X.env whole) (TP X pins σ Q) X.xe s
theorem PW.pt {X:Cx}{e:Expr}{t:TT} (h:PW X e t):PT X e t:=h _
noncomputable def PA (X:Cx) (es:List Expr) (t:TA):Prop :=
 ∀ (pos:Pos) (pins:List (Addr×Obj)) (s:Shared) (σ:St) (H:Hp) (Q:List V->Hp->Prop),Inv X pins σ H s->t σ H Q->wpAny (model X.prog X.w) X.A (spliced (backTo pos (starEach es X.env))) (AP X pins σ Q) X.xe s
noncomputable def PS (X:Cx) (st:Stmt) (t:TS):Prop :=
 ∀ (pins:List (Addr×Obj)) (s:Shared) (σ:St) (H:Hp) (D:Ends),Inv X pins σ H s->t D σ H->wpAny (model X.prog X.w) X.A (exec st X.env) (SP X pins D) X.xe s
noncomputable def PSs (X:Cx) (st:List Stmt) (t:TS):Prop :=
 ∀ (pins:List (Addr×Obj)) (s:Shared) (σ:St) (H:Hp) (D:Ends),Inv X pins σ H s->t D σ H->wpAny (model X.prog X.w) X.A (execs st X.env) (SP X pins D) X.xe s
theorem thn {α:Type}{t:Sem α}{Q Q':α->Shared->Prop}{M:Model}{A:Around}{E:Value->Shared->Prop}{s:Shared} (h:wpAny M A t Q E s) (hQ:∀ a s,Q a s->Q' a s):wpAny M A t Q' E s:=wpAny_mono h hQ fun _ _ x=>x
end L2
namespace L2
open PySem PySem.Spec PyProof.Rows
section
variable {X:Cx}
noncomputable def tVar (i:Nat):TE:=fun σ H Q=>∃ v,σ[i]?=some (some v)/\Q v H
noncomputable def tC (v:V):TE:=fun _ H Q=>Q v H
theorem pe_var {i:Nat}{x:Str}{pos:Pos} (hN:X.N[i]?=some x) (hv:Vis X.env.scope x) (hd:(x==("__debug__":Str))=false:=by decide) (hcd:(x==("__classdict__":Str))=false:=by decide):PE X (.Name x pos) (tVar i):=by
 intro pins s σ H Q I h;obtain⟨v,e,h⟩:=h;obtain⟨m,hn,hl⟩:=I.loc;obtain⟨u,r,l⟩:=hl i x v hN e hv;have fin:EP X pins σ Q u s:=⟨v,H,I,r,h⟩
 rcases l with ⟨hk,hm⟩ | ⟨hk,c,hc,hcell⟩
 ·exact wpAny_Name (wpAny_loadName_local I.ok.kind hk hn hm fin) hd
 ·rcases hk with hk | hk
  ·exact wpAny_Name (wpAny_loadName_cell I.ok.kind hk hc hcell fin) hd
  ·exact wpAny_Name (wpAny_loadName_free I.ok.kind hk hc hcell fin hcd) hd
theorem pe_int {i j pos}:PE X (.Constant (.int i) j pos) (tC (.int i)):=fun _ _ _ H _ I h=>wpAny_Constant_int ⟨.int i,H,I.tok _,⟨_,rfl⟩,h⟩
theorem pe_bl {b j pos}:PE X (.Constant (.bool b) j pos) (tC (.bl b)):=fun _ _ _ H _ I h=>Constant_bool ⟨.bl b,H,I,rfl,h⟩
theorem pe_str {x j pos}:PE X (.Constant (.str x) j pos) (tC (.str x)):=fun _ _ _ H _ I h=>Calls.Constant_str ⟨.str x,H,I.tok _,⟨_,rfl⟩,h⟩
noncomputable def Gl (X:Cx) (x:Str):Prop:=X.env.kindOf x=some .globalImplicit
theorem ld_glob {E:Value->Shared->Prop}{pins:List (Addr×Obj)}{s:Shared}{σ:St}{H:Hp}{x:Str}{u:Value}{pos:Pos}{Q:Value->Shared->Prop} (I:Inv X pins σ H s) (hg:Gl X x) (hm:X.mg x=some u) (h:Q u s)
  (hd:(x==("__debug__":Str))=false:=by decide):wpAny (model X.prog X.w) X.A (eval (.Name x pos) X.env) Q E s :=
 Calls.Name_function_global I.ok.kind hg (Calls.loadGlobal_global (by rw[I.ok.glob];exact I.mod.glob.keeps I.bk) hm h) hd
theorem ld_blt {E:Value->Shared->Prop}{pins:List (Addr×Obj)}{s:Shared}{σ:St}{H:Hp}{x:Str}{u:Value}{pos:Pos}{Q:Value->Shared->Prop} (I:Inv X pins σ H s) (hg:Gl X x) (hm:X.mg x=none) (hv:bootBuiltins x=some u) (h:Q u s)
  (hn:x≠"__name__":=by decide) (hd:(x==("__debug__":Str))=false:=by decide):wpAny (model X.prog X.w) X.A (eval (.Name x pos) X.env) Q E s:=by
 obtain⟨mb,h1,h2⟩:=I.mod.blt;exact Calls.Name_function_global I.ok.kind hg (Calls.loadGlobal_builtin (by rw[I.ok.glob];exact I.mod.glob.keeps I.bk) hm (by rw[I.ok.blt];exact h1.keeps I.bk) ((h2 x hn).trans hv) h) hd
theorem pe_bltn {x:Str}{v:V}{u:Value}{pos:Pos} (hg:Gl X x) (hm:X.mg x=none) (hv:bootBuiltins x=some u) (r:RelV v u) (hn:x≠"__name__":=by decide) (hd:(x==("__debug__":Str))=false:=by decide):PE X (.Name x pos) (tC v) :=
 fun _ _ _ H _ I h=>ld_blt I hg hm hv ⟨v,H,I,r,h⟩ hn hd
variable {a b:Expr}{ta tb:TE}{pos:Pos}
noncomputable def tB (t:TE):TT:=fun σ H Q=>t σ H fun x H1=>∃ c,x=.bl c/\Q c H1
variable {tA tB':TT}{rest:List Expr}
noncomputable def tAnd (t u:TT):TT:=fun σ H Q=>t σ H fun c H1=>if c=true then u σ H1 Q else Q false H1
noncomputable def tOr (t u:TT):TT:=fun σ H Q=>t σ H fun c H1=>if c=true then Q true H1 else u σ H1 Q
noncomputable def tNot (t:TT):TT:=fun σ H Q=>t σ H fun c H1=>Q (!c) H1
theorem pw_or1 (ha:PT X a tA):PW X (.BoolOp .Or [a] pos) tA:=by
 intro wh pins s σ H Q I h;refine isTrue_or (thn (ha pins s σ H Q I h) fun c s1 e=>?_)
 cases c with
 |false=>exact isTrue_or_nil e
 |true=>exact e
theorem pw_or (ha:PT X a tA) (hb:PW X (.BoolOp .Or (b::rest) pos) tB'):PW X (.BoolOp .Or (a::b::rest) pos) (tOr tA tB'):=by
 intro wh pins s σ H Q I h;refine isTrue_or (thn (ha pins s σ H _ I h) fun c s1 hh0_=>?_)
 obtain⟨H1,I1,q1⟩:=hh0_;cases c with
 |true=>exact⟨H1,I1,q1⟩
 |false=>exact hb wh pins s1 σ H1 Q I1 q1
theorem pt_not (ha:PT X a tA):PT X (.UnaryOp .Not a pos) (tNot tA):=by
 intro pins s σ H Q I h;exact isTrue_not (ha pins s σ H (fun c H1=>Q (!c) H1) I h)
noncomputable def tOrV (ta tb:TE):TE:=fun σ H Q=>ta σ H fun x H1=>∃ c,x=.bl c/\if c=true then Q (.bl true) H1 else tb σ H1 Q
noncomputable def tNotV (ta:TE):TE:=fun σ H Q=>ta σ H fun x H1=>∃ c,x=.bl c/\Q (.bl (!c)) H1
theorem pe_one {op}{t:TE} (h:PE X a t):PE X (.BoolOp op [a] pos) t:=fun pins s σ H Q I hw=>BoolOp_one (h pins s σ H Q I hw)
theorem pe_or (ha:PE X a ta) (hb:PE X (.BoolOp .Or (b::rest) pos) tb):PE X (.BoolOp .Or (a::b::rest) pos) (tOrV ta tb):=by
 intro pins s σ H Q I h;refine BoolOp_or (thn (ha pins s σ H _ I h) fun v s1 hh0_=>?_)
 obtain⟨x,H1,I1,r1,q1⟩:=hh0_;obtain⟨c,rfl,q1⟩:=q1;cases r1;refine wpAny_truthy_bool ?_;cases c with
 |false=>exact hb pins s1 σ H1 Q I1 q1
 |true=>exact⟨.bl true,H1,I1,rfl,q1⟩
theorem pe_not (ha:PE X a ta):PE X (.UnaryOp .Not a pos) (tNotV ta):=by
 intro pins s σ H Q I h;refine UnaryOp_ (thn (ha pins s σ H _ I h) fun v s1 hh0_=>?_)
 obtain⟨x,H1,I1,r1,q1⟩:=hh0_;obtain⟨c,rfl,q1⟩:=q1;cases r1;exact not_of (wpAny_truthy_bool ⟨.bl (!c),H1,I1,rfl,q1⟩)
noncomputable def tIf (t:TT) (ta tb:TE):TE:=fun σ H Q=>t σ H fun c H1=>if c=true then ta σ H1 Q else tb σ H1 Q
theorem pe_ifExp {c:Expr} (hc:PT X c tA) (ha:PE X a ta) (hb:PE X b tb):PE X (.IfExp c a b pos) (tIf tA ta tb):=by
 intro pins s σ H Q I h;refine wpAny_IfExp (thn (hc pins s σ H _ I h) fun d s1 hh0_=>?_)
 obtain⟨H1,I1,q1⟩:=hh0_;cases d with
 |true=>exact ha pins s1 σ H1 Q I1 q1
 |false=>exact hb pins s1 σ H1 Q I1 q1
end
end L2
namespace L2
open PySem PySem.Spec PyProof.Rows
noncomputable def SqL (K:PySem.W.Frag) (H:Hp) (a:Addr) (xs:List V):Prop :=
 Rd H a (.lst xs) \/
  ∃ (o:Obj) (its:Array Value) (n:Nat),K.lookup a=some o ∧ o.cls=.type "list" ∧ o.dict=none ∧ o.data=.seq its n ∧ its.size ≤ sizeLine ∧ Vals xs its.toList
noncomputable def SqT (K:PySem.W.Frag) (H:Hp) (a:Addr) (xs:List V):Prop :=
 Rd H a (.tup xs) \/
  ∃ (o:Obj) (its:Array Value) (n:Nat),K.lookup a=some o ∧ o.cls=.type "tuple" ∧ o.dict=none ∧ o.data=.seq its n ∧ its.size ≤ sizeLine ∧ Vals xs its.toList
noncomputable def absV:Value->Option V
 |.none=>some .non
 |.bool b=>some (.bl b)
 |.int i _=>some (.int i)
 |.str x _=>some (.str x)
 |.bytes b _=>some (.byt b)
 |.float b _=>some (.flt b)
 |.ref a=>some (.ref a)
 |.type n=>some (.ty n)
 |_=>none
theorem RelV.abs {x:V}{u:Value} (r:RelV x u):absV u=some x:=by
 cases x with
 |non=>cases r;rfl
 |bl _=>cases r;rfl
 |int _=>obtain⟨t,rfl⟩:=r;rfl
 |str _=>obtain⟨t,rfl⟩:=r;rfl
 |byt _=>obtain⟨t,rfl⟩:=r;rfl
 |flt _=>obtain⟨t,rfl⟩:=r;rfl
 |ref _=>cases r;rfl
 |ty _=>cases r;rfl
theorem RelV.inj {x y:V}{u:Value} (r:RelV x u) (q:RelV y u):x=y:=Option.some.inj (r.abs.symm.trans q.abs)
theorem Vals.inj:∀ {xs ys:List V}{us:List Value},Vals xs us->Vals ys us->xs=ys
 |_,_,_,.nil,.nil=>rfl
 |_,_,_,.cons r t,.cons r' t'=>by rw[r.inj r',Vals.inj t t']
section
variable {X:Cx}{pins:List (Addr×Obj)}{σ:St}{H:Hp}{s:Shared}{a:Addr}{xs ys:List V}
theorem SqL.of {K:PySem.W.Frag} (h:H a=some (.lst xs)):SqL K H a xs:=.inl (.inl h)
theorem Inv.list (I:Inv X pins σ H s) (h:SqL X.K H a xs):∃ its:List Value,Vals xs its/\PlainL s.heap a its.toArray/\xs.length<=sizeLine:=by
 rcases h with h | ⟨o,its,n,hk,hc,hd,hs,hz,r⟩
 ·obtain⟨z,its,n,r,e⟩:=h.ok I.hok
  exact⟨its,r,⟨_,n,e,rfl,rfl,rfl⟩,z⟩
 ·refine⟨its.toList,r,⟨o,n,I.kIn a o hk,hc,hd,by simpa using hs⟩,?_⟩
  have e:=r.length;simp only[Array.length_toList] at e;omega
theorem Inv.tuple (I:Inv X pins σ H s) (h:SqT X.K H a xs):∃ its:List Value,Vals xs its/\IsTup s.heap a its.toArray/\xs.length<=sizeLine:=by
 rcases h with h | ⟨o,its,n,hk,hc,_,hs,hz,r⟩
 ·obtain⟨z,its,r,p⟩:=h.ok I.hok
  exact⟨its,r,p.tup,z⟩
 ·refine⟨its.toList,r,⟨o,I.kIn a o hk,hc,n,by simpa using hs⟩,?_⟩
  have e:=r.length;simp only[Array.length_toList] at e;omega
theorem Inv.tupleN (I:Inv X pins σ H s) (h:SqT X.K H a xs):∃ its:List Value,Vals xs its/\IsTuN s.heap a its.toArray/\xs.length<=sizeLine:=by
 rcases h with h | ⟨o,its,n,hk,hc,hd,hs,hz,r⟩
 ·obtain⟨z,its,r,p⟩:=h.ok I.hok
  exact⟨its,r,p,z⟩
 ·refine⟨its.toList,r,⟨o,I.kIn a o hk,hc,⟨n,by simpa using hs⟩,hd⟩,?_⟩
  have e:=r.length;simp only[Array.length_toList] at e;omega
theorem Inv.list_inj (I:Inv X pins σ H s) (h:SqL X.K H a xs) (h':SqL X.K H a ys):xs=ys:=by
 obtain⟨its,r,⟨o,n,e,_,_,d⟩,_⟩:=I.list h;obtain⟨its',r',⟨o',n',e',_,_,d'⟩,_⟩:=I.list h';rw[e] at e';cases e';rw[d] at d';injection d' with d1 _
 have:its=its':=by simpa using congrArg Array.toList d1
 subst this;exact r.inj r'
theorem Inv.tuple_inj (I:Inv X pins σ H s) (h:SqT X.K H a xs) (h':SqT X.K H a ys):xs=ys:=by
 obtain⟨its,r,⟨o,e,_,n,d⟩,_⟩:=I.tuple h;obtain⟨its',r',⟨o',e',_,n',d'⟩,_⟩:=I.tuple h';rw[e] at e';cases e';rw[d] at d';injection d' with d1 _
 have:its=its':=by simpa using congrArg Array.toList d1
 subst this;exact r.inj r'
end
noncomputable abbrev Cx.wish (X:Cx) (E:Value->Shared->Prop):Cx:={X with xe:=E}
noncomputable abbrev Cx.nox (X:Cx):Cx:=X.wish fun _ _=>False
theorem Cx.Ok.wish {X:Cx} (ok:X.Ok) (E:Value->Shared->Prop):(X.wish E).Ok :=
 ⟨ok.mod,ok.kind,ok.glob,ok.blt,ok.above,ok.inj,ok.has,ok.cab,ok.hd,ok.frames,ok.stk,ok.exf,ok.bs,ok.bsz,ok.noex,ok.exfs,ok.funs,ok.frf⟩
theorem Cx.Ok.unwish {X:Cx}{E:Value->Shared->Prop} (ok:(X.wish E).Ok):X.Ok :=
 ⟨ok.mod,ok.kind,ok.glob,ok.blt,ok.above,ok.inj,ok.has,ok.cab,ok.hd,ok.frames,ok.stk,ok.exf,ok.bs,ok.bsz,ok.noex,ok.exfs,ok.funs,ok.frf⟩
section
variable {X:Cx}{pins:List (Addr×Obj)}{σ:St}{H:Hp}{s:Shared}{E:Value->Shared->Prop}
theorem Inv.wish (I:Inv X pins σ H s) (E:Value->Shared->Prop):Inv (X.wish E) pins σ H s:=⟨I.ok.wish E,I.os,I.bare,I.base,I.loc,I.cell,I.free,I.freeC,I.pin,I.hok,I.len⟩
theorem Inv.unwish (I:Inv (X.wish E) pins σ H s):Inv X pins σ H s:=⟨I.ok.unwish,I.os,I.bare,I.base,I.loc,I.cell,I.free,I.freeC,I.pin,I.hok,I.len⟩
theorem SP.unwish {D:Ends}{f:Flow}{s':Shared} (h:SP (X.wish E) pins D f s'):SP X pins D f s':=by
 cases f with
 |next=>obtain⟨σ',H',I,q⟩:=h;exact⟨σ',H',I.unwish,q⟩
 |brk=>obtain⟨σ',H',I,q⟩:=h;exact⟨σ',H',I.unwish,q⟩
 |cont=>obtain⟨σ',H',I,q⟩:=h;exact⟨σ',H',I.unwish,q⟩
 |ret u=>obtain⟨v,σ',H',I,r,q⟩:=h;exact⟨v,σ',H',I.unwish,r,q⟩
theorem PSs.nox {st:List Stmt}{t:TS} (h:PSs X.nox st t):PSs X st t:=fun pins s σ H D I hw =>
 wpAny_mono (h pins s σ H D (I.wish _) hw) (fun _ _ q=>q.unwish) fun _ _ z=>False.elim z
end
section
variable {X:Cx}{st:Stmt}{rest:List Stmt}{t u:TS}{e:Expr}{te:TE}{pos:Pos}
noncomputable def tNext:TS:=fun D σ H=>D.nx σ H
noncomputable def tSeq (t u:TS):TS:=fun D σ H=>t {D with nx:=u D} σ H
theorem pss_nil:PSs X [] tNext:=fun _ _ σ H _ I h=>wpAny_execs_nil ⟨σ,H,I,h⟩
theorem pss_cons (h1:PS X st t) (h2:PSs X rest u):PSs X (st::rest) (tSeq t u):=by
 intro pins s σ H D I h;refine wpAny_execs_cons (thn (h1 pins s σ H {D with nx:=u D} I h) fun f s1 q=>?_)
 cases f with
 |next =>
  obtain⟨σ',H',I',q⟩:=q;exact h2 pins s1 σ' H' D I' q
 |ret v=>exact q
 |brk=>exact q
 |cont=>exact q
theorem pss_one (h1:PS X st t):PSs X [st] t:=by
 intro pins s σ H D I h;refine wpAny_execs_cons (thn (h1 pins s σ H D I h) fun f s1 q=>?_)
 cases f with
 |next=>exact wpAny_execs_nil q
 |ret v=>exact q
 |brk=>exact q
 |cont=>exact q
theorem Inv.quiet {pins:List (Addr×Obj)}{σ:St}{H:Hp}{s:Shared} (I:Inv X pins σ H s):interactive X.env=false:=by simp[interactive,I.ok.kind]
noncomputable def tDrop (te:TE):TS:=fun D σ H=>te σ H fun _ H1=>D.nx σ H1
theorem ps_expr (he:PE X e te) (hs:swapsWith e none pos.line X.env=pure false:=by rfl):PS X (.Expr e pos) (tDrop te):=by
 intro pins s σ H D I h;exact wpAny_Expr_any (thn (he pins s σ H _ I h) fun v s1 ⟨x,H1,I1,r1,q1⟩=>⟨σ,H1,I1,q1⟩) I.quiet hs
noncomputable def tRet (te:TE):TS:=fun D σ H=>te σ H D.rt
theorem ps_ret (he:PE X e te):PS X (.Return (some e) pos) (tRet te):=by
 intro pins s σ H D I h;exact wpAny_Return_some (thn (he pins s σ H _ I h) fun v s1 ⟨x,H1,I1,r1,q1⟩=>⟨x,σ,H1,I1,r1,q1⟩)
noncomputable def tIfS (c:TT) (t u:TS):TS:=fun D σ H=>c σ H fun b H1=>if b=true then t D σ H1 else u D σ H1
theorem ps_if {c:Expr}{a b:List Stmt}{tc:TT} (hc:PT X c tc) (ha:PSs X a t) (hb:PSs X b u):PS X (.If c a b pos) (tIfS tc t u):=by
 intro pins s σ H D I h;refine wpAny_If (thn (hc pins s σ H _ I h) fun d s1 hh0_=>?_)
 obtain⟨H1,I1,q1⟩:=hh0_;cases d with
 |true=>exact ha pins s1 σ H1 D I1 q1
 |false=>exact hb pins s1 σ H1 D I1 q1
end
noncomputable abbrev TG:=V->St->Hp->(St->Hp->Prop)->Prop
noncomputable abbrev TGs:=List V->St->Hp->(St->Hp->Prop)->Prop
noncomputable def PG (X:Cx) (target:Expr) (t:TG):Prop :=
 ∀ (pins:List (Addr×Obj)) (s:Shared) (σ:St) (H:Hp) (v:V) (u:Value) (Q:St->Hp->Prop),Inv X pins σ H s->RelV v u->t v σ H Q ->
  wpAny (model X.prog X.w) X.A (assign target X.env u) (fun _ s'=>∃ σ' H',Inv X pins σ' H' s'/\Q σ' H') X.xe s
noncomputable def PGs (X:Cx) (ts:List Expr) (t:TGs):Prop :=
 ∀ (pins:List (Addr×Obj)) (s:Shared) (σ:St) (H:Hp) (vs:List V) (us:List Value) (Q:St->Hp->Prop),Inv X pins σ H s->Vals vs us->t vs σ H Q ->
  wpAny (model X.prog X.w) X.A (assignInOrder ((assignEach ts X.env).map (·.2)) us) (fun _ s'=>∃ σ' H',Inv X pins σ' H' s'/\Q σ' H') X.xe s
section
variable {X:Cx}{pos:Pos}
noncomputable def gName (i:Nat):TG:=fun v σ H Q=>Q (σ.set i (some v)) H
theorem pg_name {i:Nat}{x:Str} (hN:X.N.Nodup) (hi:X.N[i]?=some x) (hx:Loc X.env.scope x) (hf:X.fn x=true\/X.env.scope.names.lookup x=some .local:=by first | exact .inl rfl | exact .inr rfl | assumption):PG X (.Name x pos) (gName i):=by
 intro pins s σ H v u Q I r h;exact wpAny_assign_Name (store_ok I hN hi hx r (fun s' I'=>⟨_,H,I',h⟩) hf)
noncomputable def gNil:TGs:=fun vs σ H Q=>vs=[]/\Q σ H
noncomputable def gCons (t:TG) (u:TGs):TGs:=fun vs σ H Q=>∃ v r,vs=v::r/\t v σ H fun σ' H'=>u r σ' H' Q
theorem pgs_nil:PGs X [] gNil:=by
 intro pins s σ H vs us Q I r h;obtain⟨e,h⟩:=h;subst e;cases r;exact assignInOrder_nil ⟨σ,H,I,h⟩
theorem pgs_cons {e:Expr}{es:List Expr}{t:TG}{u:TGs} (h1:PG X e t) (h2:PGs X es u)
  (hs:(assignEach (e::es) X.env).map (·.2)=assign e X.env::(assignEach es X.env).map (·.2):=by rfl):PGs X (e::es) (gCons t u):=by
 intro pins s σ H vs us Q I r h;obtain⟨v,vr,e1,h⟩:=h;subst e1;cases r with
 |cons r rr =>
  rw[hs];refine assignInOrder_cons (thn (h1 pins s σ H _ _ _ I r h) fun _ s1 hh0_=>?_)
  obtain⟨σ1,H1,I1,q1⟩:=hh0_;exact h2 pins s1 σ1 H1 _ _ Q I1 rr q1
noncomputable def gTup (K:PySem.W.Frag) (n:Nat) (t:TGs):TG:=fun v σ H Q=>∃ a xs,v=.ref a/\SqT K H a xs/\xs.length=n/\t xs σ H Q
theorem pg_tup {es:List Expr}{k:Nat}{t:TGs}{n:Nat} (hc:X.calm=true) (h:PGs X es t)
  (hn:(assignEach es X.env).length=n:=by rfl) (hst:(assignEach es X.env).findIdx? (·.1)=none:=by rfl):PG X (.Tuple es k pos) (gTup X.K n t):=by
 intro pins s σ H v u Q I r hw;obtain⟨a,xs,e1,hq,hl,hw⟩:=hw;subst e1;cases r;obtain⟨its,rv,ht,hz⟩:=I.tuple hq;refine assign_Tuple_tuple (I.ok.hd hc) ht (by simp[hn,<- hl,rv.length]) hst fun h' hx=>?_
 have I1:Inv X pins σ H {s with heap:=h'}:=I.kept (t':=s.toks) fun b o e=>hx b o (Nat.ne_of_lt (Heap.lt_size e)) e
 exact h pins _ σ H xs _ Q I1 (by simpa using rv) hw
noncomputable def tAsg (te:TE) (g:TG):TS:=fun D σ H=>te σ H fun x H1=>g x σ H1 D.nx
theorem ps_set {i:Nat}{x:Str}{e:Expr}{te:TE}{pos':Pos} (hN:X.N.Nodup) (hi:X.N[i]?=some x) (hx:Loc X.env.scope x) (he:PE X e te) (hs:swapsWith e (some (.Name x pos')) pos.line X.env=pure false:=by rfl) (hf:X.fn x=true\/X.env.scope.names.lookup x=some .local:=by first | exact .inl rfl | exact .inr rfl | assumption) :
  PS X (.Assign [.Name x pos'] e pos) (tAsg te (gName i)):=by
 intro pins s σ H D I h;refine wpAny_Assign_Name (thn (he pins s σ H _ I h) fun v s1 hh0_=>?_) hs
 obtain⟨y,H1,I1,r1,q1⟩:=hh0_;exact store_ok I1 hN hi hx r1 (fun s2 I2=>⟨_,H1,I2,q1⟩) hf
end
section
variable {X:Cx}{pos:Pos}
end
structure It where
 go:Nat->Hp->Prop
 yld:Nat->Hp->V->Hp->Prop
 stop:Nat->Hp->Prop
noncomputable def FpOk (X:Cx) (pins:List (Addr×Obj)) (H:Hp) (b:Addr):Prop :=
 H b=none/\b≠X.env.locals/\b∉X.fs/\(b∈X.ex\/X.s₀.heap.objs.size<=b)/\(∀ x c,X.env.cells.lookup x=some c->c≠b)/\∀ p∈X.pn++pins,p.1≠b
theorem Inv.fpOk {X:Cx}{pins:List (Addr×Obj)}{σ:St}{H H':Hp}{s:Shared}{b:Addr} (I:Inv X pins σ H s) (hb:s.heap.objs.size<=b) (hn:H' b=none):FpOk X pins H' b:=by
 refine⟨hn,Nat.ne_of_gt (Nat.lt_of_lt_of_le I.lt hb),I.nofs hb,.inr (Nat.le_trans I.sz hb),fun x c e z=>?_,fun p hp z=>?_⟩
 ·obtain⟨v,q⟩:=I.cell x c e
  exact absurd (Nat.lt_of_lt_of_le q.lt (by rw[z];exact hb)) (Nat.lt_irrefl _)
 ·exact absurd (Nat.lt_of_lt_of_le (Heap.lt_size (I.pin p hp).1) (by rw[z];exact hb)) (Nat.lt_irrefl _)
structure Turn (P:Program) (w:World) (K:PySem.W.Frag) (tg:Expr) (J:It) (fp:List Addr) (it:Addr) (tn:Nat->Heap->Prop):Prop where
 mem:it∈fp
 obj:∀ i h,tn i h->∀ b∈fp,∃ o,h.get? b=some o/\∀ v,o.data≠.cell v
 keep:∀ i h h',tn i h->(∀ b∈fp,∀ o,h.get? b=some o->h'.get? b=some o)->tn i h'
 item:∀ (X:Cx),X.prog=P->X.w=w->X.K=K->X.calm=true->∀ (i:Nat) (pins:List (Addr×Obj)) (s:Shared) (σ:St) (H:Hp) (E:Value->Shared->Prop),Inv X pins σ H s->(∀ b∈fp,FpOk X pins H b)->tn i s.heap->J.go i H ->
  wpAny (model P w) X.A (pyNext (.ref it)) (fun r s1=>∃ u,r=some u /\
   wpAny (model P w) X.A (letOwnedTupleGo tg (.ref it) u) (fun _ s2=>∃ x H',Inv X pins σ H' s2/\RelV x u/\J.yld i H x H'/\tn (i+1) s2.heap/\∀ b∈fp,H' b=none) E s1) E s
 done:∀ (X:Cx),X.prog=P->X.w=w->X.K=K->X.calm=true->∀ (i:Nat) (pins:List (Addr×Obj)) (s:Shared) (σ:St) (H:Hp) (E:Value->Shared->Prop),Inv X pins σ H s->(∀ b∈fp,FpOk X pins H b)->tn i s.heap->J.stop i H ->
  wpAny (model P w) X.A (pyNext (.ref it)) (fun r s1=>r=none/\Inv X pins σ H s1) E s
 self:∀ (A:Around) (i:Nat) (s:Shared) (Q:Value->Shared->Prop) (E:Value->Shared->Prop),tn i s.heap->Q (.ref it) s->wpAny (model P w) A (pyIter (.ref it)) Q E s
noncomputable abbrev TI:=St->Hp->(It->Hp->Prop)->Prop
noncomputable def PIE (X:Cx) (pins:List (Addr×Obj)) (σ:St) (tg:Expr) (R:It->Hp->Prop) (itv:Value) (s2:Shared):Prop :=
 ∃ (it:Addr) (fp:List Addr) (tn:Nat->Heap->Prop) (J:It) (H':Hp),itv=.ref it/\Inv X pins σ H' s2/\Turn X.prog X.w X.K tg J fp it tn/\tn 0 s2.heap/\(∀ b∈fp,FpOk X pins H' b)/\R J H'
noncomputable def PI (X:Cx) (tg iter:Expr) (wi:TI):Prop :=
 ∀ (pins:List (Addr×Obj)) (s:Shared) (σ:St) (H:Hp) (R:It->Hp->Prop),Inv X pins σ H s->wi σ H R ->
  wpAny (model X.prog X.w) X.A (eval iter X.env) (fun v s1=>wpAny (model X.prog X.w) X.A (pyIter v) (PIE X pins σ tg R) X.xe s1) X.xe s
theorem go_of {M:Model}{A:Around}{E:Value->Shared->Prop}{s:Shared}{tg:Expr}{it:Addr}{u:Value}{o:Obj}{n:String}{vs:Array Value}{Q:Unit->Shared->Prop} (ho:s.heap.get? it=some o) (hc:o.cls=.type n) (hd:o.data=.fields vs)
  (hn:["enumerate","zip","dict_itemiterator","dict_reverseitemiterator","odict_iterator","itertools.zip_longest","itertools.pairwise"].contains n=false) (hQ:Q () s):wpAny M A (letOwnedTupleGo tg (.ref it) u) Q E s:=by
 unfold letOwnedTupleGo;cases tg <;> first
  |exact wpAny_pure hQ
  |(cases u <;> first
    |exact wpAny_pure hQ
    |(refine wpAny_bind (wpAny_load ho ?_);rw[hc,hd];show wpAny M A (if (["enumerate","zip","dict_itemiterator","dict_reverseitemiterator","odict_iterator","itertools.zip_longest","itertools.pairwise"].contains n&&vs[0]?==some (rawInt _))=true then _ else _) Q E s;rw[if_neg (by intro h;rw[hn,Bool.false_and] at h;cases h)];exact wpAny_pure hQ))
noncomputable def Itl (K:PySem.W.Frag) (a:Addr):It :=
 ⟨fun i H=>∃ xs x,SqL K H a xs/\xs[i]?=some x,fun i H x H'=>H'=H/\∀ xs,SqL K H a xs->xs[i]?=some x,fun i H=>∃ xs,SqL K H a xs/\xs.length<=i⟩
noncomputable def Itt (K:PySem.W.Frag) (a:Addr):It :=
 ⟨fun i H=>∃ xs x,SqT K H a xs/\xs[i]?=some x,fun i H x H'=>H'=H/\∀ xs,SqT K H a xs->xs[i]?=some x,fun i H=>∃ xs,SqT K H a xs/\xs.length<=i⟩
noncomputable def Itr (lo:Int) (n:Nat):It:=⟨fun i _=>i<n,fun i H x H'=>H'=H/\x=.int (lo+i),fun i _=>n<=i⟩
theorem turn_list {P:Program}{w:World}{K:PySem.W.Frag}{tg:Expr} (a it:Addr):Turn P w K tg (Itl K a) [it] it (fun i h=>h.IsListIter it a i) where
 mem:=by simp
 obj:=fun i h st b hb=>by
  have e:b=it:=by simpa using hb
  subst e;obtain⟨o,e,c,d⟩:=st;exact⟨o,e,fun v z=>by rw[d] at z;cases z⟩
 keep:=fun i h h' st k=>st.at fun o e=>k it (by simp) o e
 item:=by
  intro X hP hw hK hc i pins s σ H E I hf st hg;subst hP hw hK;obtain⟨xs,x,hq,hx⟩:=hg;obtain⟨its,rv,p,hz⟩:=I.list hq;obtain⟨u,hu,ru⟩:=rv.get hx;obtain⟨f0,f1,f2,f3,f4,f5⟩:=hf it (by simp)
  refine wpAny_pyNext_list_item st p.isList (x:=u) (by simpa using hu) fun h' st' sb=>?_
  have I1:Inv X pins σ H {s with heap:=h'}:=I.turned (t':=s.toks) (fun b o hb e=>(sb.2 b hb).trans e) f0 f1 f3 f4 f5
  obtain⟨o,e,c,d⟩:=id st';exact⟨u,rfl,go_of (s:={s with heap:=h'}) e c d (by decide) ⟨x,H,I1,ru,⟨rfl,fun ys hy=>by rw[I.list_inj hy hq];exact hx⟩,st',fun b hb=>(hf b hb).1⟩⟩
 done:=by
  intro X hP hw hK hc i pins s σ H E I hf st hg;subst hP hw hK;obtain⟨xs,hq,hx⟩:=hg;obtain⟨its,rv,p,hz⟩:=I.list hq;obtain⟨f0,f1,f2,f3,f4,f5⟩:=hf it (by simp)
  have hl:=rv.length;exact wpAny_pyNext_list_end (I.ok.hd hc) st p.isList (by simp;omega) fun h' eb=>⟨rfl,I.turned (t':=s.toks) (fun b o hb e=>eb b o hb e) f0 f1 f3 f4 f5⟩
 self:=fun _ _ _ _ _ st h=>wpAny_pyIter_listiter st h
theorem turn_tuple {P:Program}{w:World}{K:PySem.W.Frag}{tg:Expr} (a it:Addr):Turn P w K tg (Itt K a) [it] it (fun i h=>h.IsTupleIter it a i) where
 mem:=by simp
 obj:=fun i h st b hb=>by
  have e:b=it:=by simpa using hb
  subst e;obtain⟨o,e,c,d⟩:=st;exact⟨o,e,fun v z=>by rw[d] at z;cases z⟩
 keep:=fun i h h' st k=>st.at fun o e=>k it (by simp) o e
 item:=by
  intro X hP hw hK hc i pins s σ H E I hf st hg;subst hP hw hK;obtain⟨xs,x,hq,hx⟩:=hg;obtain⟨its,rv,p,hz⟩:=I.tuple hq;obtain⟨u,hu,ru⟩:=rv.get hx;obtain⟨f0,f1,f2,f3,f4,f5⟩:=hf it (by simp)
  refine wpAny_pyNext_tuple_item st (show s.heap.IsTuple a its.toArray from p) (x:=u) (by simpa using hu) fun h' st' sb=>?_
  have I1:Inv X pins σ H {s with heap:=h'}:=I.turned (t':=s.toks) (fun b o hb e=>(sb.2 b hb).trans e) f0 f1 f3 f4 f5
  obtain⟨o,e,c,d⟩:=id st';exact⟨u,rfl,go_of (s:={s with heap:=h'}) e c d (by decide) ⟨x,H,I1,ru,⟨rfl,fun ys hy=>by rw[I.tuple_inj hy hq];exact hx⟩,st',fun b hb=>(hf b hb).1⟩⟩
 done:=by
  intro X hP hw hK hc i pins s σ H E I hf st hg;subst hP hw hK;obtain⟨xs,hq,hx⟩:=hg;obtain⟨its,rv,p,hz⟩:=I.tuple hq;obtain⟨f0,f1,f2,f3,f4,f5⟩:=hf it (by simp)
  have hl:=rv.length;exact wpAny_pyNext_tuple_end (I.ok.hd hc) st (show s.heap.IsTuple a its.toArray from p) (by simp;omega) fun h' eb=>⟨rfl,I.turned (t':=s.toks) (fun b o hb e=>eb b o hb e) f0 f1 f3 f4 f5⟩
 self:=fun _ _ _ _ _ st h=>wpAny_pyIter_tupleiter st h
theorem turn_range {P:Program}{w:World}{K:PySem.W.Frag}{tg:Expr} (it:Addr) (lo:Int) (n:Nat):Turn P w K tg (Itr lo n) [it] it (fun i h=>IsRangeIter h it (lo+(i:Nat)*1) ((n:Int)-(i:Nat)) 1) where
 mem:=by simp
 obj:=fun i h st b hb=>by
  have e:b=it:=by simpa using hb
  subst e
  exact⟨_,st,fun v z=>by
   have z':Data.fields _=Data.cell v:=z;cases z'⟩
 keep:=fun i h h' st k=>k it (by simp) _ st
 item:=by
  intro X hP hw hK hc i pins s σ H E I hf st hg;subst hP hw hK;obtain⟨f0,f1,f2,f3,f4,f5⟩:=hf it (by simp)
  have W:=Walks.range (prog:=X.prog) (w:=X.w) (I.ok.hd hc) it lo 1 n;refine W.item i s _ _ hg st fun v h' tk hv st' kk=>?_
  obtain⟨t,rfl⟩:=hv;have I1:Inv X pins σ H {s with heap:=h',toks:=tk}:=I.turned (fun b o hb e=>kk b o (by simpa using hb) e) f0 f1 f3 f4 f5
  refine⟨_,rfl,go_of (s:={s with heap:=h',toks:=tk}) (n:="range_iterator") st' rfl rfl (by decide) ⟨.int (lo+i),H,I1,⟨t,?_⟩,⟨rfl,rfl⟩,st',fun b hb=>(hf b hb).1⟩⟩
  rw[Int.mul_one]
 done:=by
  intro X hP hw hK hc i pins s σ H E I hf st hg;subst hP hw hK;obtain⟨f0,f1,f2,f3,f4,f5⟩:=hf it (by simp)
  exact wpAny_pyNext_range_end (I.ok.hd hc) st (by have:n<=i:=hg;omega) fun h' eb=>⟨rfl,I.turned (t':=s.toks) (fun b o hb e=>eb b o hb e) f0 f1 f3 f4 f5⟩
 self:=fun _ _ _ _ _ st h=>wpAny_pyIter_rangeiter st h
end L2
namespace L2
open PySem PySem.Spec PyProof.Rows
section
variable {X:Cx}{tg:Expr}
noncomputable def iList (K:PySem.W.Frag) (tl:TE):TI:=fun σ H R=>tl σ H fun x H1=>∃ a,x=.ref a/\(∃ xs,SqL K H1 a xs)/\R (Itl K a) H1
noncomputable def iTup (K:PySem.W.Frag) (tl:TE):TI:=fun σ H R=>tl σ H fun x H1=>∃ a,x=.ref a/\(∃ xs,SqT K H1 a xs)/\R (Itt K a) H1
theorem pi_list {l:Expr}{tl:TE} (hl:PE X l tl):PI X tg l (iList X.K tl):=by
 intro pins s σ H R I h;refine thn (hl pins s σ H _ I h) fun v s1 hh0_=>?_
 obtain⟨x,H1,I1,r1,q1⟩:=hh0_;obtain⟨a,e,⟨xs,hq⟩,q⟩:=q1;subst e;cases r1;obtain⟨its,rv,p,hz⟩:=I1.list hq;refine wpAny_pyIter_list p.isList ?_;refine⟨s1.heap.objs.size,[s1.heap.objs.size],_,_,H1,rfl,I1.kept (t':=s1.toks) fun b o e=>Heap.get?_push_of_some _ e,turn_list a _,⟨_,Heap.get?_push_size _ rfl,rfl,rfl⟩,fun b hb=>?_,q⟩
 have e:b=s1.heap.objs.size:=by simpa using hb
 subst e;exact I1.fpOk (Nat.le_refl _) (I1.hok.fresh (Nat.le_refl _))
theorem pi_tup {l:Expr}{tl:TE} (hl:PE X l tl):PI X tg l (iTup X.K tl):=by
 intro pins s σ H R I h;refine thn (hl pins s σ H _ I h) fun v s1 hh0_=>?_
 obtain⟨x,H1,I1,r1,q1⟩:=hh0_;obtain⟨a,e,⟨xs,hq⟩,q⟩:=q1;subst e;cases r1;obtain⟨its,rv,p,hz⟩:=I1.tuple hq;refine wpAny_pyIter_tuple (show s1.heap.IsTuple a its.toArray from p) ?_;refine⟨s1.heap.objs.size,[s1.heap.objs.size],_,_,H1,rfl,I1.kept (t':=s1.toks) fun b o e=>Heap.get?_push_of_some _ e,turn_tuple a _,⟨_,Heap.get?_push_size _ rfl,rfl,rfl⟩,fun b hb=>?_,q⟩
 have e:b=s1.heap.objs.size:=by simpa using hb
 subst e;exact I1.fpOk (Nat.le_refl _) (I1.hok.fresh (Nat.le_refl _))
theorem range_it {pins:List (Addr×Obj)}{σ:St}{H:Hp}{s:Shared}{R:It->Hp->Prop}{E:Value->Shared->Prop}{lo hi:Int}{t u v:Tok}{tk:Nat} (I:Inv X pins σ H s) (h1:-(2 ^ 62)<=lo) (h2:lo<2 ^ 62) (h3:-(2 ^ 62)<=hi) (h4:hi<2 ^ 62)
  (q:R (Itr lo (hi-lo).toNat) H):wpAny (model X.prog X.w) X.A (pyIter (.ref s.heap.objs.size)) (PIE X pins σ tg R) E {s with heap:=s.heap.push {cls:=.type "range",data:=.fields #[.int lo t,.int hi u,.int 1 v]},toks:=tk}:=by
 refine wpAny_pyIter_range (IsRange.new ..) (small_one h1 h2 h3 h4) ?_;have I1:Inv X pins σ H {s with heap:=s.heap.push {cls:=.type "range",data:=.fields #[.int lo t,.int hi u,.int 1 v]},toks:=tk}:=I.kept fun b o e=>Heap.get?_push_of_some _ e
 refine⟨(s.heap.push {cls:=.type "range",data:=.fields #[.int lo t,.int hi u,.int 1 v]}).objs.size,[(s.heap.push {cls:=.type "range",data:=.fields #[.int lo t,.int hi u,.int 1 v]}).objs.size],_,_,H,rfl,
  I1.kept (t':=tk) fun b o e=>Heap.get?_push_of_some _ e,turn_range _ lo (hi-lo).toNat,?_,fun b hb=>?_,q⟩
 ·have e1:lo+((0:Nat):Int)*1=lo:=by simp
  have e2:(((hi-lo).toNat:Nat):Int)-((0:Nat):Int)=Builtin.Range.rangeSize lo hi 1:=by rw[rangeSize_one];split <;> omega
  show IsRangeIter _ _ (lo+((0:Nat):Int)*1) ((((hi-lo).toNat:Nat):Int)-((0:Nat):Int)) 1;rw[e1,e2];exact Heap.get?_push_size _ rfl
 ·have e:b=(s.heap.push {cls:=.type "range",data:=.fields #[.int lo t,.int hi u,.int 1 v]}).objs.size:=by simpa using hb
  subst e;exact I1.fpOk (Nat.le_refl _) (I1.hok.fresh (Nat.le_refl _))
noncomputable def iRng1 (ta:TA):TI:=fun σ H R=>ta σ H fun vs H1=>∃ j:Int,vs=[.int j]/\-(2 ^ 62)<=j/\j<2 ^ 62/\R (Itr 0 j.toNat) H1
noncomputable def iRng2 (ta:TA):TI:=fun σ H R=>ta σ H fun vs H1=>∃ i j:Int,vs=[.int i,.int j]/\(-(2 ^ 62)<=i/\i<2 ^ 62/\-(2 ^ 62)<=j/\j<2 ^ 62)/\R (Itr i (j-i).toNat) H1
theorem pi_range1 {a:Expr}{ta:TA}{p pos:Pos} (hg:Gl X "range") (hm:X.mg "range"=none) (ha:PA X [a] ta) (hs:starEach [a] X.env=[(false,eval a X.env)]:=by rfl):PI X tg (.Call (.Name "range" p) [a] [] pos) (iRng1 ta):=by
 intro pins s σ H R I h;refine Call_ (ld_blt I hg hm boot_range (PyProof.Rows.callWith_type1 (thn (ha pos pins s σ H _ I h) fun us s1 hh0_=>?_) hs rfl))
 obtain⟨vs,H1,I1,r1,q1⟩:=hh0_;obtain⟨j,e,q1,q2,q⟩:=q1;subst e;cases r1 with
 |cons r rr =>
  cases rr;obtain⟨t,rfl⟩:=r;exact call_range_1 (range_it I1 (by omega) (by omega) q1 q2 (by simpa using q))
theorem pi_range2 {a b:Expr}{ta:TA}{p pos:Pos} (hg:Gl X "range") (hm:X.mg "range"=none) (ha:PA X [a,b] ta) (hs:starEach [a,b] X.env=[(false,eval a X.env),(false,eval b X.env)]:=by rfl) (hs2:starEach [b] X.env=[(false,eval b X.env)]:=by rfl) :
  PI X tg (.Call (.Name "range" p) [a,b] [] pos) (iRng2 ta):=by
 intro pins s σ H R I h;refine Call_ (ld_blt I hg hm boot_range (PyProof.Rows.callWith_type1 (thn (ha pos pins s σ H _ I h) fun us s1 hh0_=>?_) (by rw[hs,hs2]) (by rw[hs2];rfl)))
 obtain⟨vs,H1,I1,r1,q1⟩:=hh0_;obtain⟨i,j,e,⟨q1,q2,q3,q4⟩,q⟩:=q1;subst e;cases r1 with
 |cons r rr =>
  cases rr with
  |cons r' rr =>
   cases rr;obtain⟨t,rfl⟩:=r;obtain⟨t',rfl⟩:=r';exact call_range_2 (range_it I1 q1 q2 q3 q4 q)
noncomputable def tFor (wi:TI) (g:TG) (tb:TS):TS:=fun D σ H=>wi σ H fun J H1=>∃ W:Nat->Nat->St->Hp->Prop,(∃ m,W 0 m σ H1)/\∀ i m σ H,W i m σ H ->
 (J.stop i H/\D.nx σ H)\/(J.go i H/\∃ N:St->Hp->Prop,(∀ σ' H',N σ' H'->∃ m',m'<m/\W (i+1) m' σ' H')/\∀ x H',J.yld i H x H'->g x σ H' fun σ2 H2=>tb {D with nx:=N,ct:=N,bk:=D.nx} σ2 H2)
noncomputable def pinsAt (fp:List Addr) (h:Heap):List (Addr×Obj):=fp.filterMap fun b=>(h.get? b).map fun o=>(b,o)
theorem mem_pinsAt {fp:List Addr}{h:Heap}{b:Addr}{o:Obj} (hb:b∈fp) (e:h.get? b=some o):(b,o)∈pinsAt fp h:=List.mem_filterMap.mpr ⟨b,hb,by rw[e];rfl⟩
theorem of_pinsAt {fp:List Addr}{h:Heap}{p:Addr×Obj} (hp:p∈pinsAt fp h):p.1∈fp/\h.get? p.1=some p.2:=by
 obtain⟨b,hb,e⟩:=List.mem_filterMap.mp hp;cases q:h.get? b with
 |none=>rw[q] at e;cases e
 |some o =>
  rw[q] at e;have e':(b,o)=p:=Option.some.inj e;subst e';exact⟨hb,q⟩
theorem Inv.pinned {pins:List (Addr×Obj)}{σ:St}{H:Hp}{s:Shared}{fp:List Addr} (I:Inv X pins σ H s) (hf:∀ b∈fp,FpOk X pins H b) (ho:∀ b∈fp,∃ o,s.heap.get? b=some o/\∀ v,o.data≠.cell v):Inv X (pins++pinsAt fp s.heap) σ H s :=
 I.pins_of fun p hp=>(List.mem_append.mp hp).elim (fun z=>I.pin p (List.mem_append_right _ z)) fun z=>by
  obtain⟨hb,e⟩:=of_pinsAt z;obtain⟨f0,f1,f2,_⟩:=hf p.1 hb;obtain⟨o,e',d⟩:=ho p.1 hb;rw[e] at e';cases e';exact⟨e,f0,f1,f2,d⟩
theorem Inv.unpinned {pins pl:List (Addr×Obj)}{σ:St}{H:Hp}{s:Shared} (I:Inv X (pins++pl) σ H s):Inv X pins σ H s:=I.pins_of fun p hp=>I.pin p (List.mem_append_right _ (List.mem_append_left _ hp))
theorem ps_for {iter:Expr}{body:List Stmt}{wi:TI}{g:TG}{tb:TS}{pos:Pos} (hp:PassesOwn (model X.prog X.w) X.A X.env X.xe) (hc:X.calm=true) (hi:PI X tg iter wi) (hg:PG X tg g) (hb:PSs X body tb)
  (hs:∀ x,foldedSetIterable iter X.env x=pure x:=by intro _;rfl):PS X (.For tg iter body [] pos) (tFor wi g tb):=by
 intro pins s σ H D I h;refine wpAny_For (thn (hi pins s σ H _ I h) fun v s1 h1=>thn h1 fun itv s2 h2=>?_) hs
 obtain⟨it,fp,tn,J,H2,e,I2,T,st2,f2,W,⟨m0,w0⟩,turn⟩:=h2;subst e;have stat:∀ {H':Hp},(∀ b∈fp,H' b=none)->∀ b∈fp,FpOk X pins H' b:=fun hn b hb=>⟨hn b hb,(f2 b hb).2⟩
 refine codeAny_forLoop_any (fun n s'=>∃ i σ' H',Inv X pins σ' H' s'/\tn i s'.heap/\(∀ b∈fp,H' b=none)/\W i n σ' H') ?_ m0 ⟨0,σ,H2,I2,st2,fun b hb=>(f2 b hb).1,w0⟩
 rintro n s3 ⟨i,σ3,H3,I3,st3,fr3,w3⟩
 rcases turn i n σ3 H3 w3 with ⟨stop,qn⟩ | ⟨go,N,hN,step⟩
 ·refine wpAny_passesOwn hp (thn (T.done X rfl rfl rfl hc i pins s3 σ3 H3 X.xe I3 (stat fr3) st3 stop) fun r s4 hh0_=>?_)
  obtain⟨hr,I4⟩:=hh0_;subst hr;exact wpAny_execs_nil ⟨σ3,H3,I4,qn⟩
 ·refine wpAny_passesOwn hp (thn (T.item X rfl rfl rfl hc i pins s3 σ3 H3 X.xe I3 (stat fr3) st3 go) fun r s4 hh0_=>?_)
  obtain⟨u,hr,h4⟩:=hh0_;subst hr;refine wpAny_passesOwn hp (thn h4 fun _ s5 hh0_=>?_)
  obtain⟨x,H5,I5,r5,y5,st5,fr5⟩:=hh0_;have I5':=I5.pinned (stat fr5) (T.obj _ _ st5);refine wpAny_passesOwn hp (thn (hg _ s5 σ3 H5 x u _ I5' r5 (step x H5 y5)) fun _ s6 hh0_=>?_)
  obtain⟨σ6,H6,I6,q6⟩:=hh0_;refine wpAny_passesOwn hp (thn (hb _ s6 σ6 H6 _ I6 q6) fun f s7 q7=>?_)
  have again:∀ {σ7:St}{H7:Hp},Inv X (pins++pinsAt fp s5.heap) σ7 H7 s7->N σ7 H7->∃ m,m<n/\∃ i σ' H',Inv X pins σ' H' s7/\tn i s7.heap/\(∀ b∈fp,H' b=none)/\W i m σ' H':=fun {σ7 H7} I7 n7=>by
   obtain⟨m',hm,w7⟩:=hN σ7 H7 n7;refine⟨m',hm,i+1,σ7,H7,I7.unpinned,T.keep _ _ _ st5 fun b hb o e=>(I7.pin (b,o) (List.mem_append_right _ (List.mem_append_right _ (mem_pinsAt hb e)))).1,fun b hb=>?_,w7⟩
   obtain⟨o,e,d⟩:=T.obj _ _ st5 b hb;exact (I7.pin (b,o) (List.mem_append_right _ (List.mem_append_right _ (mem_pinsAt hb e)))).2.1
  cases f with
  |next=>obtain⟨σ7,H7,I7,n7⟩:=q7;exact again I7 n7
  |cont=>obtain⟨σ7,H7,I7,n7⟩:=q7;exact again I7 n7
  |brk=>obtain⟨σ7,H7,I7,q7⟩:=q7;exact⟨σ7,H7,I7.unpinned,q7⟩
  |ret v=>obtain⟨x7,σ7,H7,I7,r7,q7⟩:=q7;exact⟨x7,σ7,H7,I7.unpinned,r7,q7⟩
end
end L2
namespace L2
open PySem PySem.Spec PyProof.Rows
noncomputable abbrev R2:=V->V->Hp->VK->Prop
noncomputable def OpR (X:Cx) (f:Value->Value->Sem Value) (r:R2):Prop :=
 ∀ (pins:List (Addr×Obj)) (s:Shared) (σ:St) (H:Hp) (x y:V) (v u:Value) (Q:VK),Inv X pins σ H s->RelV x v->RelV y u->r x y H Q ->
  wpAny (model X.prog X.w) X.A (f v u) (EP X pins σ Q) X.xe s
noncomputable def UnR (X:Cx) (f:Value->Sem Value) (r:V->Hp->VK->Prop):Prop :=
 ∀ (pins:List (Addr×Obj)) (s:Shared) (σ:St) (H:Hp) (x:V) (v:Value) (Q:VK),Inv X pins σ H s->RelV x v->r x H Q ->
  wpAny (model X.prog X.w) X.A (f v) (EP X pins σ Q) X.xe s
noncomputable def CallR (X:Cx) (f:Value) (r:List V->Hp->VK->Prop):Prop :=
 ∀ (pins:List (Addr×Obj)) (s:Shared) (σ:St) (H:Hp) (xs:List V) (us:List Value) (Q:VK),Inv X pins σ H s->Vals xs us->r xs H Q ->
  wpAny (model X.prog X.w) X.A (call f us) (EP X pins σ Q) X.xe s
noncomputable def TruR (X:Cx) (r:V->Hp->(Bool->Hp->Prop)->Prop):Prop :=
 ∀ (pins:List (Addr×Obj)) (s:Shared) (σ:St) (H:Hp) (x:V) (v:Value) (Q:Bool->Hp->Prop),Inv X pins σ H s->RelV x v->r x H Q ->
  wpAny (model X.prog X.w) X.A (truthy v) (TP X pins σ Q) X.xe s
noncomputable def tOp (r:R2) (ta tb:TE):TE:=fun σ H Q=>ta σ H fun x H1=>tb σ H1 fun y H2=>r x y H2 Q
noncomputable def tUn (r:V->Hp->VK->Prop) (ta:TE):TE:=fun σ H Q=>ta σ H fun x H1=>r x H1 Q
noncomputable def rI (C:Int->Int->Prop) (g:Int->Int->V):R2:=fun x y H Q=>∃ i j,x=.int i/\y=.int j/\C i j/\Q (g i j) H
noncomputable def rI0 (g:Int->Int->V):R2:=fun x y H Q=>∃ i j,x=.int i/\y=.int j/\Q (g i j) H
noncomputable def rU (g:Int->V):V->Hp->VK->Prop:=fun x H Q=>∃ i,x=.int i/\Q (g i) H
section
variable {X:Cx}{a b c:Expr}{ta tb tc:TE}{pos:Pos}
theorem binT (ha:PE X a ta) (hb:PE X b tb) {pins:List (Addr×Obj)}{s:Shared}{σ:St}{H:Hp}{R:V->V->Hp->Prop} (I:Inv X pins σ H s)
  (h:ta σ H fun x H1=>tb σ H1 fun y H2=>R x y H2) {Q:Value->Shared->Prop}{f:Value->Value->Sem Value}
  (hf:∀ v u s2 x y H2,Inv X pins σ H2 s2->RelV x v->RelV y u->R x y H2->wpAny (model X.prog X.w) X.A (f v u) Q X.xe s2) :
  wpAny (model X.prog X.w) X.A (eval a X.env) (fun v s₁=>wpAny (model X.prog X.w) X.A (eval b X.env) (fun u s₂=>wpAny (model X.prog X.w) X.A (f v u) Q X.xe s₂) X.xe s₁) X.xe s:=by
 refine thn (ha pins s σ H _ I h) fun v s1 hh0_=>?_
 obtain⟨x,H1,I1,r1,q1⟩:=hh0_;refine thn (hb pins s1 σ H1 _ I1 q1) fun u s2 hh0_=>?_
 obtain⟨y,H2,I2,r2,q2⟩:=hh0_;exact hf v u s2 x y H2 I2 r1 r2 q2
theorem pe_op {op:Operator}{r:R2} (ho:OpR X (binaryOp op) r) (ha:PE X a ta) (hb:PE X b tb):PE X (.BinOp a op b pos) (tOp r ta tb):=by
 intro pins s σ H Q I h;exact wpAny_BinOp (binT ha hb I h fun v u s2 x y H2 I2 rx ry q=>ho pins s2 σ H2 x y v u Q I2 rx ry q)
theorem pe_un {op:UnaryOp}{r:V->Hp->VK->Prop} (ho:UnR X (unaryOp op) r) (ha:PE X a ta):PE X (.UnaryOp op a pos) (tUn r ta):=by
 intro pins s σ H Q I h;exact UnaryOp_ (thn (ha pins s σ H _ I h) fun v s1 ⟨x,H1,I1,r1,q1⟩=>ho pins s1 σ H1 x v Q I1 r1 q1)
theorem opI {f:Value->Value->Sem Value}{C:Int->Int->Prop}{g:Int->Int->Int}
  (rule:∀ (i j:Int) (t u:Tok) (s:Shared) (Q:Value->Shared->Prop) (E:Value->Shared->Prop),C i j->Q (.int (g i j) s.toks) {s with toks:=s.toks+1}->wpAny (model X.prog X.w) X.A (f (.int i t) (.int j u)) Q E s) :
  OpR X f (rI C fun i j=>.int (g i j)):=by
 intro pins s σ H x y v u Q I rx ry h;obtain⟨i,j,rfl,rfl,hc,q⟩:=h;obtain⟨t,rfl⟩:=rx;obtain⟨t',rfl⟩:=ry;exact rule i j t t' s _ _ hc ⟨.int (g i j),H,I.tok _,⟨_,rfl⟩,q⟩
theorem opI0 {f:Value->Value->Sem Value}{g:Int->Int->Int}
  (rule:∀ (i j:Int) (t u:Tok) (s:Shared) (Q:Value->Shared->Prop) (E:Value->Shared->Prop),Q (.int (g i j) s.toks) {s with toks:=s.toks+1}->wpAny (model X.prog X.w) X.A (f (.int i t) (.int j u)) Q E s) :
  OpR X f (rI0 fun i j=>.int (g i j)):=by
 intro pins s σ H x y v u Q I rx ry h;obtain⟨i,j,rfl,rfl,q⟩:=h;obtain⟨t,rfl⟩:=rx;obtain⟨t',rfl⟩:=ry;exact rule i j t t' s _ _ ⟨.int (g i j),H,I.tok _,⟨_,rfl⟩,q⟩
theorem opB0 {f:Value->Value->Sem Value}{g:Int->Int->Bool}
  (rule:∀ (i j:Int) (t u:Tok) (s:Shared) (Q:Value->Shared->Prop) (E:Value->Shared->Prop),Q (.bool (g i j)) s->wpAny (model X.prog X.w) X.A (f (.int i t) (.int j u)) Q E s) :
  OpR X f (rI0 fun i j=>.bl (g i j)):=by
 intro pins s σ H x y v u Q I rx ry h;obtain⟨i,j,rfl,rfl,q⟩:=h;obtain⟨t,rfl⟩:=rx;obtain⟨t',rfl⟩:=ry;exact rule i j t t' s _ _ ⟨.bl (g i j),H,I,rfl,q⟩
noncomputable def CPow (i j:Int):Prop:=0<=j/\j<=1000000/\i.natAbs<2 ^ 64
noncomputable def CMul (i j:Int):Prop:=(-(2 ^ 64)<i/\i<2 ^ 64)\/(-(2 ^ 64)<j/\j<2 ^ 64)
theorem two_pow_nn (k:Nat):(0:Int)<=2 ^ k:=by
 rw[two_pow_cast];exact Int.natCast_nonneg _
theorem op_add:OpR X (binaryOp .Add) (rI0 fun i j=>.int (i+j)):=opI0 fun _ _ _ _ _ _ _ q=>add_int q
theorem op_sub:OpR X (binaryOp .Sub) (rI0 fun i j=>.int (i-j)):=opI0 fun _ _ _ _ _ _ _ q=>sub_int q
theorem op_modN:OpR X (binaryOp .Mod) (rI (fun _ j=>j≠0) fun i j=>.int (i.fmod j)):=opI fun _ _ _ _ _ _ _ hc q=>mod_int' hc q
theorem op_pow:OpR X (binaryOp .Pow) (rI CPow fun i j=>.int (i ^ j.toNat)):=opI fun _ _ _ _ _ _ _ hc q=>pow_int_small hc.1 hc.2.1 hc.2.2 q
theorem op_shr:OpR X (binaryOp .RShift) (rI (fun _ j=>0<=j) fun i j=>.int (i / 2 ^ j.toNat)):=opI fun i j _ _ _ _ _ hc q =>
 rshift_int hc (by rw[Int.fdiv_eq_ediv_of_nonneg i (two_pow_nn _)];exact q)
theorem op_and:OpR X (binaryOp .BitAnd) (rI0 fun i j=>.int (Builtin.bitAnd i j)):=opI0 fun _ _ _ _ _ _ _ q=>and_int q
theorem op_xor:OpR X (binaryOp .BitXor) (rI0 fun i j=>.int (Builtin.bitXor i j)):=opI0 fun _ _ _ _ _ _ _ q=>xor_int q
theorem unI {f:Value->Sem Value}{g:Int->Int}
  (rule:∀ (i:Int) (t:Tok) (s:Shared) (Q:Value->Shared->Prop) (E:Value->Shared->Prop),Q (.int (g i) s.toks) {s with toks:=s.toks+1}->wpAny (model X.prog X.w) X.A (f (.int i t)) Q E s) :
  UnR X f (rU fun i=>.int (g i)):=by
 intro pins s σ H x v Q I rx h;obtain⟨i,rfl,q⟩:=h;obtain⟨t,rfl⟩:=rx;exact rule i t s _ _ ⟨.int (g i),H,I.tok _,⟨_,rfl⟩,q⟩
theorem un_neg:UnR X (unaryOp .USub) (rU fun i=>.int (-i)):=unI fun _ _ _ _ _ q=>neg_int q
end
section
variable {X:Cx}{a b c:Expr}{ta tb tc:TE}{pos:Pos}
theorem op_lt:OpR X (compareOp .Lt) (rI0 fun i j=>.bl (decide (i<j))):=opB0 fun _ _ _ _ _ _ _ q=>lt_int q
theorem op_le:OpR X (compareOp .LtE) (rI0 fun i j=>.bl (decide (i<=j))):=opB0 fun _ _ _ _ _ _ _ q=>le_int q
theorem op_gt:OpR X (compareOp .Gt) (rI0 fun i j=>.bl (decide (j<i))):=opB0 fun _ _ _ _ _ _ _ q=>gt_int q
theorem OpR.or {f:Value->Value->Sem Value}{r r':R2} (h:OpR X f r) (h':OpR X f r'):OpR X f (fun x y H Q=>r x y H Q\/r' x y H Q):=by
 intro pins s σ H x y v u Q I rx ry q
 rcases q with q | q
 ·exact h pins s σ H x y v u Q I rx ry q
 ·exact h' pins s σ H x y v u Q I rx ry q
theorem nomark (b:Expr) {op:CmpOp} (h:op≠.In:=by decide) (h2:op≠.NotIn:=by decide):behindInMarks op b=false:=by
 have e1:(op==CmpOp.In)=false:=by cases op <;> first | rfl | exact absurd rfl h
 have e2:(op==CmpOp.NotIn)=false:=by cases op <;> first | rfl | exact absurd rfl h2
 cases b <;> simp[behindInMarks,e1,e2]
theorem pe_cmpR {op:CmpOp}{r:R2} (ho:OpR X (compareOp op) r) (ha:PE X a ta) (hb:PE X b tb) (hm:behindInMarks op b=false):PE X (.Compare a [op] [b] pos) (tOp r ta tb):=by
 intro pins s σ H Q I h;exact wpAny_Compare1 (binT ha hb I h fun v u s2 x y H2 I2 rx ry q=>ho pins s2 σ H2 x y v u Q I2 rx ry q) hm
noncomputable def tTest (t:TE):TT:=fun σ H Q=>t σ H fun x H'=>∃ k,x=.bl k/\Q k H'
theorem pt_cmpR {op:CmpOp}{r:R2} (ho:OpR X (compareOp op) r) (ha:PE X a ta) (hb:PE X b tb) (hm:behindInMarks op b=false):PT X (.Compare a [op] [b] pos) (tTest (tOp r ta tb)):=by
 intro pins s σ H Q I h;refine wpAny_isTrue_Compare1 (thn (ha pins s σ H _ I h) fun v s1 ⟨x,H1,I1,r1,q1⟩=>thn (hb pins s1 σ H1 _ I1 q1) fun u s2 ⟨y,H2,I2,r2,q2⟩ =>
  thn (ho pins s2 σ H2 x y v u _ I2 r1 r2 q2) fun c s3 ⟨z,H3,I3,r3,k,e,q3⟩=>?_) hm
 subst e;cases r3;exact wpAny_truthy_bool ⟨H3,I3,q3⟩
noncomputable def tChain (r r':R2) (ta tb tc:TE):TE:=fun σ H Q=>ta σ H fun x H1=>tb σ H1 fun y H2=>r x y H2 fun z H3=>∃ k,z=.bl k /\
 (if k=true then tc σ H3 fun w' H4=>r' y w' H4 Q else Q (.bl false) H3)
theorem pt_chain {op op':CmpOp}{r r':R2} (ho:OpR X (compareOp op) r) (ho':OpR X (compareOp op') r') (ha:PE X a ta) (hb:PE X b tb) (hc:PE X c tc)
  (hm:lastMarks [op,op'] [b,c]=false:=by with_unfolding_all rfl):PT X (.Compare a [op,op'] [b,c] pos) (tTest (tChain r r' ta tb tc)):=by
 intro pins s σ H Q I h;refine isTrue_chain (thn (ha pins s σ H _ I h) fun v s1 ⟨x,H1,I1,r1,q1⟩=>test_link (thn (hb pins s1 σ H1 _ I1 q1) fun u s2 ⟨y,H2,I2,r2,q2⟩ =>
  thn (ho pins s2 σ H2 x y v u _ I2 r1 r2 q2) fun d s3 ⟨z,H3,I3,r3,k,e,q3⟩=>?_)) hm
 subst e;cases r3;refine wpAny_truthy_bool ?_;cases k with
 |false =>
  obtain⟨k',e',q'⟩:=q3;cases e';exact ite_ff ⟨H3,I3,q'⟩
 |true =>
  refine ite_tt (test_last (thn (hc pins s3 σ H3 _ I3 q3) fun w' s4 ⟨z',H4,I4,r4,q4⟩=>thn (ho' pins s4 σ H4 y z' u w' _ I4 r2 r4 q4) fun d' s5 hh0_=>?_))
  obtain⟨z2,H5,I5,r5,k2,e2,q5⟩:=hh0_;subst e2;cases r5;exact wpAny_truthy_bool ⟨H5,I5,q5⟩
noncomputable def TruV (K:PySem.W.Frag) (x:V) (H:Hp) (k:Bool):Prop :=
 match x with
 |.non=>k=false
 |.bl b=>k=b
 |.int i=>k=(i != 0)
 |.str y=>y.length<=sizeLine/\k=((y.length:Int) != 0)
 |.byt y=>y.size<=sizeLine/\k=((y.size:Int) != 0)
 |.ref p=>(∃ xs,SqL K H p xs/\k=!xs.isEmpty)\/(∃ xs,SqT K H p xs/\k=!xs.isEmpty)\/∃ kvs,H p=some (.dK kvs)/\k=!kvs.isEmpty
 |_=>False
theorem isEmpty_kv {κ:Type}{kvs:List (κ×V)}{vs:List (κ×Value)} (r:KV kvs vs):(!vs.isEmpty)=!kvs.isEmpty:=by
 cases r <;> rfl
theorem isEmpty_of {xs:List V}{its:List Value} (r:Vals xs its):(!its.toArray.isEmpty)=!xs.isEmpty:=by
 cases r <;> simp
theorem line63:(sizeLine:Nat)<2 ^ 63:=by rw[sizeLine_eq];decide
theorem tru_ok:TruR X (fun x H Q=>∃ k,TruV X.K x H k/\Q k H):=by
 intro pins s σ H x v Q I rx h;obtain⟨k,e,q⟩:=h;have hl:=line63;have hs:sizeLine=16777216:=sizeLine_eq;cases x with
 |non =>
  cases rx;have e':k=false:=e;subst e';exact truthy_none ⟨H,I,q⟩
 |bl b =>
  cases rx;have e':k=b:=e;subst e';exact wpAny_truthy_bool ⟨H,I,q⟩
 |int i =>
  obtain⟨t,rfl⟩:=rx;have e':k=(i != 0):=e;subst e';exact PySem.P.truthy_int ⟨H,I,q⟩
 |str y =>
  obtain⟨t,rfl⟩:=rx;obtain⟨hy,e'⟩:y.length<=sizeLine/\k=((y.length:Int) != 0):=e;subst e';exact PySem.P.truthy_str (by omega) ⟨H,I.tok _,q⟩
 |byt y =>
  obtain⟨t,rfl⟩:=rx;obtain⟨hy,e'⟩:y.size<=sizeLine/\k=((y.size:Int) != 0):=e;subst e';exact PySem.W.truthy_bytes (by omega) ⟨H,I.tok _,q⟩
 |ref p =>
  cases rx;have e':(∃ xs,SqL X.K H p xs/\k=!xs.isEmpty)\/(∃ xs,SqT X.K H p xs/\k=!xs.isEmpty)\/∃ kvs,H p=some (.dK kvs)/\k=!kvs.isEmpty:=e
  rcases e' with ⟨xs,hx,e'⟩ | ⟨xs,hx,e'⟩ | ⟨kvs,hx,e'⟩
  ·subst e'
   obtain⟨its,r,pl,hz⟩:=I.list hx;have hlen:=r.length;exact wpAny_truthy_list pl.isList (by simp only[List.size_toArray];omega) ⟨H,I.tok _,by rw[isEmpty_of r];exact q⟩
  ·subst e'
   obtain⟨its,r,pl,hz⟩:=I.tuple hx;have hlen:=r.length;exact truthy_tuple pl (by simp only[List.size_toArray];omega) ⟨H,I.tok _,by rw[isEmpty_of r];exact q⟩
  ·subst e'
   obtain⟨hz,hS,vs,r,m⟩:kvs.length<=sizeLine/\(p==sysModules)=false/\∃ vs,KV kvs vs/\s.heap.DictOf (mixKind X.prog X.w) p vs:=I.hok p _ hx;have hlen:kvs.length=vs.length:=Paired.length r;exact wpAny_truthy_dict hS m (by omega) ⟨H,I.tok _,by rw[isEmpty_kv r];exact q⟩
 |_=>exact (show False from e).elim
theorem pt_truth (ha:PE X a ta) (he:∀ whole,isTrue a X.env whole=(do let v <- whole;standAt a.pos;holding [v] (truthy v))) :
  PT X a (fun σ H Q=>ta σ H fun x H'=>∃ k,TruV X.K x H' k/\Q k H'):=by
 intro pins s σ H Q I h;exact isTrue_plain (thn (ha pins s σ H _ I h) fun v s1 ⟨x,H1,I1,r1,q1⟩=>tru_ok pins s1 σ H1 x v Q I1 r1 q1) (he _)
theorem op_add_str:OpR X (binaryOp .Add) (fun x y H Q=>∃ i j,x=.str i/\y=.str j/\i.length+j.length<=sizeLine/\Q (.str (i++j)) H):=by
 intro pins s σ H x y v u Q I rx ry h;obtain⟨i,j,rfl,rfl,hz,q⟩:=h;obtain⟨t,rfl⟩:=rx;obtain⟨t',rfl⟩:=ry;exact add_str (fun t' tk=>⟨.str (i++j),H,I.tok _,⟨_,rfl⟩,q⟩) hz
theorem vals1 {x:V}{us:List Value} (r:Vals [x] us):∃ u,us=[u]/\RelV x u:=by
 cases r with
 |cons r1 r2=>cases r2;exact⟨_,rfl,r1⟩
theorem vals2 {x y:V}{us:List Value} (r:Vals [x,y] us):∃ u w',us=[u,w']/\RelV x u/\RelV y w':=by
 cases r with
 |cons r1 r2 =>
  cases r2 with
  |cons r3 r4=>cases r4;exact⟨_,_,rfl,r1,r3⟩
theorem call_abs:CallR X (.builtin "abs") (fun xs H Q=>∃ i,xs=[.int i] ∧ Q (.int (if i<0 then -i else i)) H):=by
 intro pins s σ H xs us Q I r h;obtain⟨i,rfl,q⟩:=h;obtain⟨u,rfl,t,rfl⟩:=vals1 r;exact call_abs_int fun u tk=>⟨.int (if i<0 then -i else i),H,I.tok _,⟨_,rfl⟩,q⟩
theorem call_max2 (hc:X.calm=true):CallR X (.builtin "max") (fun xs H Q=>∃ i j,xs=[.int i,.int j] ∧ Q (.int (if j > i then j else i)) H):=by
 intro pins s σ H xs us Q I r h;obtain⟨i,j,rfl,q⟩:=h;obtain⟨u,w',rfl,⟨t,rfl⟩,⟨t',rfl⟩⟩:=vals2 r;refine max_two_ints (I.ok.hd hc) fun h' tk k=>⟨_,H,I.kept k,?_,q⟩
 by_cases hj:j > i
 ·rw[if_pos hj,if_pos hj];exact⟨_,rfl⟩
 ·rw[if_neg hj,if_neg hj];exact⟨_,rfl⟩
theorem call_min2 (hc:X.calm=true):CallR X (.builtin "min") (fun xs H Q=>∃ i j,xs=[.int i,.int j] ∧ Q (.int (if j<i then j else i)) H):=by
 intro pins s σ H xs us Q I r h;obtain⟨i,j,rfl,q⟩:=h;obtain⟨u,w',rfl,⟨t,rfl⟩,⟨t',rfl⟩⟩:=vals2 r;refine min_two_ints (I.ok.hd hc) fun h' tk k=>⟨_,H,I.kept k,?_,q⟩
 by_cases hj:j<i
 ·rw[if_pos hj,if_pos hj];exact⟨_,rfl⟩
 ·rw[if_neg hj,if_neg hj];exact⟨_,rfl⟩
theorem call_int1:CallR X (.type "int") (fun xs H Q=>(∃ i,xs=[.int i] ∧ Q (.int i) H) ∨ ∃ k,xs=[.bl k] ∧ Q (.int (if k then 1 else 0)) H):=by
 intro pins s σ H xs us Q I r h
 rcases h with ⟨i,rfl,q⟩ | ⟨k,rfl,q⟩
 ·obtain⟨u,rfl,t,rfl⟩:=vals1 r
  exact call_int_int ⟨.int i,H,I,⟨_,rfl⟩,q⟩
 ·obtain⟨u,rfl,r1⟩:=vals1 r
  cases r1;exact call_int_bool ⟨.int (if k then 1 else 0),H,I.tok _,⟨_,rfl⟩,q⟩
end
end L2
namespace L2
open PySem PySem.Spec PyProof.Rows
structure ObjM (h:Heap) (x dx C:Addr) (mA:Str->Option Value):Prop where
 obj:h.get? x=some (PySem.W.instObj C dx)
 ns:h.Ns1 dx mA
 ne:dx≠x
section
variable {prog:Program}{w:World}{A:Around}{E:Value->Shared->Prop}{s:Shared}{K:PySem.W.Frag}{x dx C f:Addr}{mA:Str->Option Value}{name:Str}{v:Value}
end
theorem RelO.some_of {v:V}{o:Option Value} (r:RelO (some v) o):∃ u,o=some u/\RelV v u:=by
 cases o with
 |none=>exact (show False from r).elim
 |some u=>exact⟨u,rfl,r⟩
section
variable {P:Program}{w:World}{H H':Hp}{h h':Heap}{a C dx:Addr}{fs fs':List (Str×V)}
end
structure Cls (K:PySem.W.Frag) (C:Addr):Prop where
 pg:PySem.W.plainGet K C Str.empty=true
 hd:PySem.W.hasDictIn K C=true
 po:PySem.W.plainOver K C=true
 sa:PySem.W.findIn K (.ref C) "__setattr__"=some (some (.builtin "object.__setattr__"))
theorem Cls.get {K:PySem.W.Frag}{C:Addr} (c:Cls K C) (f:Str):PySem.W.plainGet K C f=true:=c.pg
structure Con (K:PySem.W.Frag) (C:Addr) (f:Str) (v:V) (u:Value):Prop where
 at_:PySem.W.findIn K (.ref C) f=some (some u)
 rel:RelV v u
 get:PySem.W.specialIn K u "__get__"=some none
 cp:PySem.W.copiedNames.contains f=false
structure Meth (K:PySem.W.Frag) (C:Addr) (m:Str) (f:Addr):Prop where
 at_:PySem.W.findIn K (.ref C) m=some (some (.ref f))
 fn:PySem.W.isFn K (.ref f)=true
 kp:PySem.W.keepIn K (.ref f)=true
section
variable {X:Cx}{pins:List (Addr×Obj)}{σ:St}{H:Hp}{s:Shared}{a C dx:Addr}{fs:List (Str×V)}{f:Str}{v:V}{A:Around}{E:Value->Shared->Prop}
end
section
variable {X:Cx}{o e value:Expr}{f:Str}{pos pos' tpos:Pos}{ta tv:TE}
end
section
variable {X:Cx}{pins:List (Addr×Obj)}{σ:St}{H:Hp}{s:Shared}{A:Around}{E:Value->Shared->Prop}{Q:Value->Shared->Prop}{c:Value}{b:Bool}
inductive TyOf (K:PySem.W.Frag) (H:Hp):V->Value->Prop where
 |non:TyOf K H .non (.type "NoneType")
 |bl (x:Bool):TyOf K H (.bl x) (.type "bool")
 |int (i:Int):TyOf K H (.int i) (.type "int")
 |str (x:Str):TyOf K H (.str x) (.type "str")
 |flt (x:UInt64):TyOf K H (.flt x) (.type "float")
 |lst {a:Addr}{xs:List V} (e:H a=some (.lst xs)):TyOf K H (.ref a) (.type "list")
 |frz {a:Addr}{o:Obj}{xs:List V} (e:H a=some (.frz o (.lst xs))):TyOf K H (.ref a) (.type "list")
 |tup {a:Addr}{xs:List V} (e:H a=some (.tup xs)):TyOf K H (.ref a) (.type "tuple")
 |dK {a:Addr}{kvs:List (Key×V)} (e:H a=some (.dK kvs)):TyOf K H (.ref a) (.type "dict")
 |dT {a:Addr}{kvs:List (List Key×V)} (e:H a=some (.dT kvs)):TyOf K H (.ref a) (.type "dict")
 |ins {a C dx:Addr}{fs:List (Str×V)} (e:H a=some (.ins C dx fs)) (cl:Cls K C) (ha:PySem.W.findIn K (.ref C) "__class__"=some (some (.builtin "object.__class__")))
   (hn:PySem.W.specialIn K (.builtin "object.__class__") "__get__"=some (some (.builtin "getset_descriptor.__get__"))) (htk:PySem.W.takesIn K (.builtin "object.__class__")=some true)
   (hm:PySem.W.mroIn K C (.type "object")=some true):TyOf K H (.ref a) (.ref C)
end
end L2
namespace L2
open PySem PySem.Spec PyProof.Rows
structure Room (k:Nat) (A:Around):Prop where
 hd:A.handled=none
 dp:A.depth+3*k+5<recursionLimit
 un:A.units+16*k+200<cLine
theorem Room.mono {j k:Nat}{A:Around} (r:Room k A) (h:j<=k):Room j A:=⟨r.hd,by have:=r.dp;omega,by have:=r.un;omega⟩
theorem Room.deeper {k:Nat}{A:Around} (r:Room (k+1) A) (env:Env):Room k (A.deeper env) :=
 ⟨r.hd,by have:=r.dp;show A.depth+1+3*k+5<_;omega,by have:=r.un;show A.units+3+16*k+200<_;omega⟩
theorem Room.in1 {k:Nat}{A:Around} (r:Room (k+1) A):Room k A.in1 :=
 ⟨r.hd,by have:=r.dp;show A.depth+3*k+5<_;omega,by have:=r.un;show A.units+1+16*k+200<_;omega⟩
theorem Room.depth {k:Nat}{A:Around} (r:Room k A):A.depth<recursionLimit:=by have:=r.dp;omega
theorem Room.units {k:Nat}{A:Around} (r:Room k A):A.units+64<cLine:=by have:=r.un;omega
noncomputable def tNil:TA:=fun _ H Q=>Q [] H
noncomputable def tCons (ta:TE) (tr:TA):TA:=fun σ H Q=>ta σ H fun x H1=>tr σ H1 fun xs H2=>Q (x::xs) H2
section
variable {X:Cx}{e:Expr}{es:List Expr}{te:TE}{t:TA}{pos:Pos}
theorem pa_nil:PA X [] tNil:=fun _ _ _ _ H Q I h=>Calls.spliced_nil ⟨[],H,I,.nil,h⟩
theorem pa_cons (ha:PE X e te) (hr:PA X es t) (hs:starEach (e::es) X.env=(false,eval e X.env)::starEach es X.env:=by rfl):PA X (e::es) (tCons te t):=by
 intro pos pins s σ H Q I h;rw[hs];show wpAny _ _ (spliced ((false,eval e X.env)::backTo pos (starEach es X.env))) _ _ s;refine Calls.spliced_cons (thn (ha pins s σ H _ I h) fun u s1 hh0_=>?_)
 obtain⟨x,H1,I1,r1,q1⟩:=hh0_;exact thn (hr pos pins s1 σ H1 _ I1 q1) fun us s2 ⟨xs,H2,I2,r2,q2⟩=>⟨x::xs,H2,I2,.cons r1 r2,q2⟩
noncomputable def tTup (t:TA):TE:=fun σ H Q=>t σ H fun xs H1=>xs.length<=sizeLine/\∀ p,H1 p=none->Q (.ref p) (upd H1 p (.tup xs))
noncomputable def tLst (t:TA):TE:=fun σ H Q=>t σ H fun xs H1=>xs.length<=sizeLine/\∀ p,H1 p=none->Q (.ref p) (upd H1 p (.lst xs))
theorem pe_tup {x1} (h:PA X es t):PE X (.Tuple es x1 pos) (tTup t):=by
 intro pins s σ H Q I hq;refine wpAny_Tuple_spliced (thn (h pos pins s σ H _ I hq) fun us s1 ⟨xs,H1,I1,r,z,q⟩=>⟨by rw[<- r.length];exact z,?_⟩)
 have hf:H1 s1.heap.objs.size=none:=I1.hok.fresh (Nat.le_refl _);refine⟨.ref s1.heap.objs.size,upd H1 s1.heap.objs.size (.tup xs),I1.laid (t':=s1.toks) (fun b u e=>Heap.get?_push_of_some _ e) (Nat.le_refl _) ?_,rfl,q _ hf⟩
 exact⟨z,us,r,⟨_,Heap.get?_push_size _ rfl,rfl,⟨_,rfl⟩,rfl⟩⟩
theorem pe_lst (h:PA X es t):PE X (.List es pos) (tLst t):=by
 intro pins s σ H Q I hq;refine wpAny_List_spliced (thn (h pos pins s σ H _ I hq) fun us s1 ⟨xs,H1,I1,r,z,q⟩=>⟨by rw[<- r.length];exact z,?_⟩)
 have hf:H1 s1.heap.objs.size=none:=I1.hok.fresh (Nat.le_refl _);refine⟨.ref s1.heap.objs.size,upd H1 s1.heap.objs.size (.lst xs),I1.laid (t':=s1.toks) (fun b u e=>Heap.get?_push_of_some _ e) (Nat.le_refl _) ?_,rfl,q _ hf⟩
 exact⟨z,us,0,r,Heap.get?_push_size _ rfl⟩
end
noncomputable abbrev Sp:=List V->Hp->VK->XK->Prop
noncomputable abbrev CXT:=List Env->Hp->Shared->XK->Value->Shared->Prop
structure Env0 (P:Program) (w:World) (K:PySem.W.Frag) (mg:Str->Option Value) (base:Heap) (A:Around) (outer:List Env) (s:Shared) (H:Hp):Prop where
 frames:A.frames=some outer
 mod:Mod K mg base
 bs:∀ b o,base.get? b=some o->s.heap.get? b=some o/\H b=none
 bsz:base.objs.size<=s.heap.objs.size
 funs:s.heap.FunFrames base outer
 frf:∀ b∈frs outer,H b=none
 hok:HOk P w H s.heap
 bare:AllBare s.gens
noncomputable def CE (outer:List Env) (P:Program) (w:World) (H:Hp) (s:Shared) (Q:VK) (u:Value) (s':Shared):Prop :=
 ∃ v H',s'.os=s.os/\AllBare s'.gens/\Un (frs outer) [] H H' s.heap s'.heap/\HOk P w H' s'.heap/\RelV v u/\Q v H'
noncomputable def CR (CX:CXT) (outer:List Env) (P:Program) (w:World) (H:Hp) (s:Shared) (Q:VK) (E:XK) (r:Result) (s':Shared):Prop :=
 match r with
 |.ok (.ret u)=>CE outer P w H s Q u s'
 |.ok _=>False
 |.error e=>CX outer H s E e s'
structure FnOk (P:Program) (w:World) (K:PySem.W.Frag) (mg:Str->Option Value) (base:Heap) (CX:CXT) (k:Nat) (f:Addr) (fd:FuncData) (ps:List Str) (sp:Sp):Prop where
 len:∀ vs H Q E,sp vs H Q E->vs.length=ps.length
 run:∀ (A:Around) (outer:List Env) (s:Shared) (H:Hp) (args:Args) (us:List Value) (vs:List V) (Q:VK) (E:XK),Room k A->Env0 P w K mg base A outer s H->BindsTo s fd args (ps.zip us)->Vals vs us->sp vs H Q E ->
  codeAny (model P w) A (.call (.ref f) args) (CR CX outer P w H s Q E) s
theorem FnOk.mono {P:Program}{w:World}{K:PySem.W.Frag}{mg:Str->Option Value}{base:Heap}{CX:CXT}{j k:Nat}{f:Addr}{fd:FuncData}{ps:List Str}{sp:Sp} (F:FnOk P w K mg base CX j f fd ps sp) (h:j<=k) :
  FnOk P w K mg base CX k f fd ps sp:=⟨F.len,fun A outer s H args us vs Q E hr=>F.run A outer s H args us vs Q E (hr.mono h)⟩
theorem Env0.in1 {P:Program}{w:World}{K:PySem.W.Frag}{mg:Str->Option Value}{base:Heap}{A:Around}{outer:List Env}{s:Shared}{H:Hp} (e:Env0 P w K mg base A outer s H) :
  Env0 P w K mg base A.in1 outer s H:=⟨e.frames,e.mod,e.bs,e.bsz,e.funs,e.frf,e.hok,e.bare⟩
section
variable {X:Cx}{pins:List (Addr×Obj)}{σ:St}{H:Hp}{s s':Shared}
theorem Inv.env0 (I:Inv X pins σ H s):Env0 X.prog X.w X.K X.mg X.base X.A X.stack s H :=
 ⟨I.ok.frames,I.ok.mod,I.bs,Nat.le_trans I.ok.bsz I.sz,I.stack,I.stkFree,I.hok,I.bare⟩
theorem Inv.after {Q:VK}{u:Value} (I:Inv X pins σ H s) (h:CE X.stack X.prog X.w H s Q u s'):EP X pins σ Q u s':=by
 obtain⟨v,H',os,bare,un,hok,r,q⟩:=h;obtain⟨hh,g,d,t,os'⟩:=s';obtain rfl:os'=s.os:=os;exact⟨v,H',I.call (h':=hh) (g':=g) (d':=d) (t':=t) (ch:=[]) un hok bare (fun b z=>absurd z (by simp)),r,q⟩
end
noncomputable def tCall (sp:Sp) (dvs:List V) (E:XK) (t:TA):TE:=fun σ H Q=>t σ H fun vs H1=>sp (vs++dvs) H1 Q E
noncomputable def Binds (K:PySem.W.Frag) (fd:FuncData) (ps:List Str) (ds:List Value):Prop :=
 ∀ (s:Shared) (us:List Value),K.In s.heap->(us++ds).length=ps.length->BindsTo s fd ⟨us,[]⟩ (ps.zip (us++ds))
theorem Binds.all {K:PySem.W.Frag}{fd:FuncData}{ps:List Str} (h:∀ us:List Value,us.length=ps.length->bindArgs fd ⟨us,[]⟩=pure (ps.zip us)):Binds K fd ps []:=fun s us _ hl=>by
 rw[List.append_nil] at hl ⊢;exact .of_eq (h us hl)
noncomputable def Passes (CX:CXT) (X:Cx) (E:XK):Prop:=∀ (pins:List (Addr×Obj)) (σ:St) (H:Hp) (s:Shared) (e:Value) (s':Shared),Inv X pins σ H s->CX X.stack H s E e s'->X.xe e s'
section
variable {X:Cx}{CX:CXT}{k:Nat}{f C:Addr}{fd:FuncData}{ps:List Str}{sp:Sp}{dvs:List V}{ds:List Value}{E:XK}{x m:Str}{p pos apos:Pos}{e o:Expr}{es:List Expr}{ta:TE}{t:TA}
theorem run_fn {pins:List (Addr×Obj)}{σ:St}{H:Hp}{s:Shared}{Q:VK}{us:List Value}{vs:List V} (F:FnOk X.prog X.w X.K X.mg X.base CX k f fd ps sp) (hr:Room k X.A) (hb:Binds X.K fd ps ds) (hd:Vals dvs ds) (hx:Passes CX X E)
  (I:Inv X pins σ H s) (r:Vals vs us) (h:sp (vs++dvs) H Q E):wpAny (model X.prog X.w) X.A (call (.ref f) us) (EP X pins σ Q) X.xe s:=by
 have r2:Vals (vs++dvs) (us++ds):=r.append hd;have hl:(us++ds).length=ps.length:=by rw[<- r2.length];exact F.len _ _ _ _ h
 refine wpAny_call (codeAny_mono (F.run X.A X.stack s H ⟨us,[]⟩ (us++ds) (vs++dvs) Q E hr I.env0 (hb s us I.kIn hl) r2 h) fun r s' hq=>?_)
 cases r with
 |error e=>exact hx pins σ H s e s' I hq
 |ok fl =>
  cases fl with
  |ret u=>exact I.after hq
  |next=>exact False.elim hq
  |brk=>exact False.elim hq
  |cont=>exact False.elim hq
theorem pe_call (F:FnOk X.prog X.w X.K X.mg X.base CX k f fd ps sp) (hr:Room k X.A) (hg:Gl X x) (hm:X.mg x=some (.ref f)) (hk:PySem.W.keepIn X.K (.ref f)=true) (hb:Binds X.K fd ps ds) (hd:Vals dvs ds) (hx:Passes CX X E)
  (ha:PA X (e::es) t) (hdb:(x==("__debug__":Str))=false:=by decide) (he:starEach (e::es) X.env=(false,eval e X.env)::starEach es X.env:=by rfl) (hpl:(backTo pos (starEach es X.env)).any (·.1)=false:=by rfl) :
  PE X (.Call (.Name x p) (e::es) [] pos) (tCall sp dvs E t):=by
 intro pins s σ H Q I h;refine wpAny_Call_Name_kw (ld_glob I hg hm ?_ hdb);refine PySem.W.callWith_K (h₀:=X.base) I.ok.mod.kin hk (thn (ha pos pins s σ H _ I h) fun us s1 ⟨vs,H1,I1,r,q⟩=>⟨I1.kIn,?_⟩) he hpl
 exact run_fn F hr hb hd hx I1 r q
structure Mk (K:PySem.W.Frag) (C f:Addr):Prop where
 makes:PySem.W.makesIn K C=true
 init:PySem.W.findIn K (.ref C) "__init__"=some (some (.ref f))
 fn:PySem.W.isFn K (.ref f)=true
 kp:PySem.W.keepIn K (.ref C)=true
end
section
variable {X:Cx}{CX:CXT}{k:Nat}{f C:Addr}{fd:FuncData}{ps ks:List Str}{sp:Sp}{E:XK}{x m:Str}{p pos apos kpos:Pos}{e o:Expr}{es:List Expr}{kws:List Keyword}{te ta:TE}{t tk:TA}{nm:Option Str}
structure KBinds (K:PySem.W.Frag) (fd:FuncData) (ps ks:List Str) (g:List Value->List Value->List Value) (gV:List V->List V->List V):Prop where
 to:∀ (s:Shared) (us ws:List Value),K.In s.heap->(g us ws).length=ps.length->BindsTo s fd ⟨us,ks.zip ws⟩ (ps.zip (g us ws))
 rel:∀ {vs:List V}{us:List Value}{zs:List V}{ws:List Value},Vals vs us->Vals zs ws->Vals (gV vs zs) (g us ws)
variable {g:List Value->List Value->List Value}{gV:List V->List V->List V}
end
structure FnScope (N P:List Str) (sc:Scope):Prop where
 kind:sc.kind=.function
 co:sc.isCoroutine=false
 gen:sc.isGenerator=false
 nd:N.Nodup
 pre:N.take P.length=P
 par:∀ x∈P,sc.names.lookup x=some .local\/sc.names.lookup x=some .cell
 nofree:∀ y∈sc.names,y.2≠.free
theorem bindL_out {kindOf:Str->Option NameKind}{x:Str}:∀ {binds:List (Str×Value)}{m:Str->Option Value},(∀ v,(x,v)∉binds)->bindL kindOf binds m x=m x
 |[],_,_=>rfl
 |(n,v)::r,m,h=>by
  unfold bindL;rw[bindL_out fun w hw=>h w (List.mem_cons_of_mem _ hw)]
  split
  ·have:x≠n:=by rintro rfl;exact h v List.mem_cons_self
   simp[this]
  ·rfl
theorem bindC_out {kindOf:Str->Option NameKind}{x:Str}:∀ {binds:List (Str×Value)}{m:Str->Option Value},(∀ v,(x,v)∉binds)->bindC kindOf binds m x=m x
 |[],_,_=>rfl
 |(n,v)::r,m,h=>by
  unfold bindC;rw[bindC_out fun w hw=>h w (List.mem_cons_of_mem _ hw)]
  split
  ·rfl
  ·have:x≠n:=by rintro rfl;exact h v List.mem_cons_self
   simp[this]
theorem bindL_get {kindOf:Str->Option NameKind}{x:Str}{v:Value}:∀ {P:List Str}{vs:List Value}{i:Nat}{m:Str->Option Value},P.Nodup->P[i]?=some x->vs[i]?=some v->kindOf x=some .local ->
  bindL kindOf (P.zip vs) m x=some v
 |[],_,_,_,_,h,_,_=>by simp at h
 |_::_,[],_,_,_,_,h,_=>by simp at h
 |p::P,w::vs,0,m,nd,h1,h2,hk=>by
  simp at h1 h2;subst h1;subst h2;show bindL kindOf ((p,w)::P.zip vs) m p=_;unfold bindL;rw[bindL_out fun v hv=>(List.nodup_cons.mp nd).1 (List.of_mem_zip hv).1,if_pos hk]
  simp
 |p::P,w::vs,i+1,m,nd,h1,h2,hk=>by
  show bindL kindOf ((p,w)::P.zip vs) m x=_;unfold bindL;exact bindL_get (i:=i) (List.nodup_cons.mp nd).2 (by simpa using h1) (by simpa using h2) hk
theorem bindC_get {kindOf:Str->Option NameKind}{x:Str}{v:Value}:∀ {P:List Str}{vs:List Value}{i:Nat}{m:Str->Option Value},P.Nodup->P[i]?=some x->vs[i]?=some v->kindOf x≠some .local ->
  bindC kindOf (P.zip vs) m x=some v
 |[],_,_,_,_,h,_,_=>by simp at h
 |_::_,[],_,_,_,_,h,_=>by simp at h
 |p::P,w::vs,0,m,nd,h1,h2,hk=>by
  simp at h1 h2;subst h1;subst h2;show bindC kindOf ((p,w)::P.zip vs) m p=_;unfold bindC;rw[bindC_out fun v hv=>(List.nodup_cons.mp nd).1 (List.of_mem_zip hv).1,if_neg hk]
  simp
 |p::P,w::vs,i+1,m,nd,h1,h2,hk=>by
  show bindC kindOf ((p,w)::P.zip vs) m x=_;unfold bindC;exact bindC_get (i:=i) (List.nodup_cons.mp nd).2 (by simpa using h1) (by simpa using h2) hk
noncomputable def start (N:List Str) (vs:List V):St:=vs.map some++List.replicate (N.length-vs.length) none
noncomputable def cxOf (CX:CXT) (P:Program) (w:World) (K:PySem.W.Frag) (mg:Str->Option Value) (base:Heap) (N:List Str) (qual:Str) (scope:Scope) (f:Addr) (cd:Value) (A:Around) (outer:List Env) (s:Shared) (H:Hp) (E:XK):Cx where
 prog:=P
 w:=w
 K:=K
 mg:=mg
 base:=base
 A:=A.deeper (envOfC qual scope s.heap.objs.size f cd)
 N:=N
 s₀:=s
 H₀:=H
 env:=envOfC qual scope s.heap.objs.size f cd
 outer:=outer
 stack:=envOfC qual scope s.heap.objs.size f cd::outer
 ex:=[]
 calm:=true
 fn:=fun _=>true
 pn:=[]
 xe:=fun e s'=>wpAny (model P w) (A.deeper (envOfC qual scope s.heap.objs.size f cd)) (leaving (envOfC qual scope s.heap.objs.size f cd) e) (fun _ s''=>CX outer H s E e s'') (fun e' s''=>CX outer H s E e' s'') s'
theorem cell_has {sc:Scope}{n:Nat}{x:Str} (h:sc.names.lookup x=some .cell):∃ c,(cellsFrom n sc.names []).lookup x=some c:=by
 have q:=PySem.W.cellsFrom_some sc.names n [] (.inl h);exact Option.isSome_iff_exists.mp q
theorem inv_start {CX:CXT}{P:Program}{w:World}{K:PySem.W.Frag}{mg:Str->Option Value}{base:Heap}{N ps:List Str}{qual:Str}{scope:Scope}{f:Addr}{cd:Value}{A:Around}{outer:List Env}{s s1:Shared}{H:Hp}{E:XK}{us:List Value}{vs:List V}
  (S:FnScope N ps scope) (hd:A.handled=none) (e0:Env0 P w K mg base A outer s H) (hl:vs.length=ps.length) (r:Vals vs us)
  (x:InCallC s s.heap.objs.size (bindL (envOfC qual scope s.heap.objs.size f cd).kindOf (ps.zip us) fun _=>none) (cellsFrom (s.heap.objs.size+1) scope.names []) (bindC (envOfC qual scope s.heap.objs.size f cd).kindOf (ps.zip us) fun _=>none) s1) :
  Inv (cxOf CX P w K mg base N qual scope f cd A outer s H E) [] (start N vs) H s1:=by
 have hpl:ps.length<=N.length:=by have:=congrArg List.length S.pre;rw[List.length_take] at this;omega
 obtain⟨h1,tk,rfl,hk⟩:=x.done;have noA:∀ b:Addr,b∉(cxOf CX P w K mg base N qual scope f cd A outer s H E).ex:=fun b z=>absurd (show b∈([]:List Addr) from z) (by simp)
 refine⟨⟨e0.mod,S.kind,rfl,rfl,Nat.le_refl _,fun y z c h1 h2=>?_,fun y hy=>?_,fun y c _ h=>?_,fun _=>hd,Around.frames_deeper e0.frames,.inr ⟨rfl,rfl⟩,fun b z=>absurd z (noA b),e0.bs,e0.bsz,fun b _ _=>noA b,fun b z=>absurd z (noA b),e0.funs,e0.frf⟩,
  rfl,e0.bare,Un.kept hk,⟨_,x.toInCall.ns,fun i y v h1 h2 h3=>?_⟩,fun y c h=>⟨_,x.cell y c h⟩,e0.hok.fresh (Nat.le_refl _),fun y c h=>?_,fun p hp=>absurd (show p∈([]:List (Addr×Obj)) from hp) (by simp),e0.hok.kept hk,?_⟩
 ·exact name_of_addr x.apart (PySem.mem_of_lookup h1) (PySem.mem_of_lookup h2)
 ·have hy:scope.names.lookup y=some .cell\/scope.names.lookup y=some .free:=hy
  rcases hy with hy | hy
  ·exact cell_has hy
  ·exact absurd rfl (S.nofree _ (PySem.mem_of_lookup hy))
 ·exact Nat.le_of_lt (x.above y c (PySem.mem_of_lookup h))
 ·have hi:i<vs.length:=by
   unfold start at h2
   by_cases hi:i<vs.length
   ·exact hi
   ·rw[List.getElem?_append_right (by simpa using hi)] at h2
    rw[List.getElem?_replicate] at h2
    split at h2 <;> cases h2
  have ha:vs[i]?=some v:=by
   unfold start at h2;rw[List.getElem?_append_left (by simpa using hi),List.getElem?_map] at h2
   cases e:vs[i]? with
   |none=>rw[e] at h2;cases h2
   |some a=>rw[e] at h2;cases h2;rfl
  obtain⟨u,hu,rv⟩:=r.get ha
  have hp:ps[i]?=some y:=by
   rw[<- S.pre,List.getElem?_take_of_lt (by omega)];exact h1
  have ndP:ps.Nodup:=by rw[<- S.pre];exact S.nd.sublist (List.take_sublist _ _)
  refine⟨u,rv,?_⟩
  rcases S.par y (List.mem_of_getElem? hp) with k | k
  ·exact .inl ⟨k,bindL_get ndP hp hu k⟩
  ·obtain⟨c,e⟩:=cell_has (n:=s.heap.objs.size+1) k
   refine .inr ⟨.inl k,c,e,?_⟩;have q:=x.cell y c e;rw[bindC_get ndP hp hu (by show scope.names.lookup y≠_;rw[k];decide)] at q
   exact q
 ·exact e0.hok.fresh (Nat.le_of_lt (x.above y c (PySem.mem_of_lookup h)))
 ·unfold start
  show _=N.length;rw[List.length_append,List.length_map,List.length_replicate];omega
theorem fn_of {CX:CXT}{P:Program}{w:World}{K:PySem.W.Frag}{mg:Str->Option Value}{base:Heap}{k:Nat}{f:Addr}{name qual:Str}{params:Arguments}{body:List Stmt}{scope:Scope}{dV kV doc pm cdv ct oc:Value}{an od:Option Addr}
  {osl:Array (Option Value)}{N ps:List Str}{sp:Sp} (lk:K.lookup f=some ⟨oc,od,.func (PySem.W.fnOf name qual params body scope dV kV doc pm an cdv ct),osl⟩) (hcd:PySem.W.codeIn K cdv qual=true) (S:FnScope N ps scope)
  (len:∀ vs H Q E,sp vs H Q E->vs.length=ps.length)
  (hbody:∀ (A:Around) (outer:List Env) (s:Shared) (H:Hp) (vs:List V) (Q:VK) (E:XK),Room k (A.deeper (envOfC qual scope s.heap.objs.size f cdv))->sp vs H Q E ->
   ∃ t,PSs (cxOf CX P w K mg base N qual scope f cdv A outer s H E) body t/\t {nx:=fun _ H'=>Q .non H',rt:=Q} (start N vs) H) :
  FnOk P w K mg base CX (k+1) f (PySem.W.fnOf name qual params body scope dV kV doc pm an cdv ct) ps sp:=by
 refine⟨len,fun A outer s H args us vs Q E hr e0 hb r hsp=>?_⟩
 have hl:=len _ _ _ _ hsp;have KX:K.In s.heap:=e0.mod.kin.keeps fun b o e=>(e0.bs b o e).1
 have lim:s.heap.NoLimit:=e0.mod.nolimit.keeps fun b o e=>(e0.bs b o e).1
 have hkind:∀ y∈ps.zip us,scope.names.lookup y.1=some .local\/(scope.names.lookup y.1=some .cell/\((cellsFrom (s.heap.objs.size+1) scope.names []).lookup y.1).isSome=true):=fun hh0_ hy=>by
  obtain⟨n,v⟩:=hh0_
  rcases S.par n (List.of_mem_zip hy).1 with q | q
  ·exact .inl q
  ·exact .inr ⟨q,PySem.W.cellsFrom_some _ _ _ (.inl q)⟩
 refine codeAny_call_function hr.depth (KX _ _ lk) rfl S.co S.gen rfl (PySem.W.codeRec_of KX hcd) (hb _ _ _ _ ?_);refine wpAny_newFunctionEnv_cells S.kind hkind fun env he s1 x=>?_
 subst he;refine⟨lim.keeps x.toInCall.keep,codeAny_func ?_⟩;obtain⟨t,ht,hq⟩:=hbody A outer s H vs Q E (hr.deeper _) hsp;have I:Inv (cxOf CX P w K mg base N qual scope f cdv A outer s H E) [] (start N vs) H s1:=inv_start S hr.hd e0 hl r x;refine wpAny_mono (ht [] s1 (start N vs) H _ I hq) (fun fl s' hs=>?_) fun e s' hs=>hs
 have fin:∀ {σ':St}{H':Hp}{v:V}{u:Value},Inv (cxOf CX P w K mg base N qual scope f cdv A outer s H E) [] σ' H' s'->RelV v u->Q v H'->CE outer P w H s Q u s' :=
  fun {σ' H' v u} J rv q=>⟨v,H',J.os,J.bare,J.base,J.hok,rv,q⟩
 cases fl with
 |ret u =>
  obtain⟨v,σ',H',J,rv,q⟩:=hs;exact fin J rv q
 |next =>
  obtain⟨σ',H',J,q⟩:=hs;exact fin (v:=V.non) (u:=Value.none) J rfl q
 |brk =>
  obtain⟨_,_,_,q⟩:=hs;exact False.elim q
 |cont =>
  obtain⟨_,_,_,q⟩:=hs;exact False.elim q
end L2
namespace L2
open PySem PySem.Spec PyProof.Rows
section
variable {X:Cx}{x:Str}{p pos:Pos}{e:Expr}{es:List Expr}{t:TA}{id T:String}{r:List V->Hp->VK->Prop}
noncomputable def tCB (r:List V->Hp->VK->Prop) (t:TA):TE:=fun σ H Q=>t σ H fun vs H1=>r vs H1 Q
theorem pe_callB (hc:CallR X (.builtin id) r) (hg:Gl X x) (hm:X.mg x=none) (hv:bootBuiltins x=some (.builtin id)) (ha:PA X (e::es) t) (hn:x≠"__name__":=by decide) (hdb:(x==("__debug__":Str))=false:=by decide)
  (he:starEach (e::es) X.env=(false,eval e X.env)::starEach es X.env:=by rfl) (hpl:(backTo pos (starEach es X.env)).any (·.1)=false:=by rfl):PE X (.Call (.Name x p) (e::es) [] pos) (tCB r t):=by
 intro pins s σ H Q I h;refine wpAny_Call_Name_kw (ld_blt I hg hm hv ?_ hn hdb);exact PyProof.Rows.callWith_builtin1 (thn (ha pos pins s σ H _ I h) fun us s1 ⟨vs,H1,I1,r1,q1⟩=>hc pins s1 σ H1 vs us Q I1 r1 q1) he hpl
theorem pe_callTy (hc:CallR X (.type T) r) (hg:Gl X x) (hm:X.mg x=none) (hv:bootBuiltins x=some (.type T)) (ha:PA X (e::es) t) (hn:x≠"__name__":=by decide) (hdb:(x==("__debug__":Str))=false:=by decide)
  (he:starEach (e::es) X.env=(false,eval e X.env)::starEach es X.env:=by rfl) (hpl:(backTo pos (starEach es X.env)).any (·.1)=false:=by rfl):PE X (.Call (.Name x p) (e::es) [] pos) (tCB r t):=by
 intro pins s σ H Q I h;refine wpAny_Call_Name_kw (ld_blt I hg hm hv ?_ hn hdb);exact PyProof.Rows.callWith_type1 (thn (ha pos pins s σ H _ I h) fun us s1 ⟨vs,H1,I1,r1,q1⟩=>hc pins s1 σ H1 vs us Q I1 r1 q1) he hpl
end
end L2
namespace HT
open PySem PyProof.Rows
section
open PySem.SeqAt
open PySem.AutoSeq1 (wpAny_loadPart')
open PySem.MeetsSeq PySem.MeetsSeq2 PySem.MeetsSeq3
end
section
variable {prog:Program}{w:World}{A:Around}{E:Value->Shared->Prop}{s:Shared}
noncomputable def sIx (n d:Nat):Option Int->Nat
 |none=>d
 |some v=>if v<0 then (v+(n:Int)).toNat else min v.toNat n
theorem sIx_le (n d:Nat) (hd:d<=n) (o:Option Int):sIx n d o<=n:=by
 cases o with
 |none=>exact hd
 |some v =>
  show (if v<0 then (v+(n:Int)).toNat else min v.toNat n)<=n
  by_cases hv:v<0
  ·rw[if_pos hv];omega
  ·rw[if_neg hv];exact Nat.min_le_right _ _
theorem clip_eq (v:Int) (n d:Nat):(if v<0 then max (v+(n:Int)) 0 else min v (n:Int))=((sIx n d (some v):Nat):Int):=by
 show (if v<0 then max (v+(n:Int)) 0 else min v (n:Int))=(((if v<0 then (v+(n:Int)).toNat else min v.toNat n):Nat):Int)
 by_cases hv:v<0
 ·simp only[if_pos hv];omega
 ·simp only[if_neg hv];omega
theorem adjust_gen (lo hi:Option Int) (n:Nat):Builtin.Slice.sliceAdjust lo hi 1 (n:Int)=(((sIx n 0 lo:Nat):Int),((sIx n n hi:Nat):Int)):=by
 have h1:¬ ((1:Int)<0):=by omega
 unfold Builtin.Slice.sliceAdjust;simp only[h1,if_false];refine Prod.ext ?_ ?_
 ·cases lo with
  |none=>rfl
  |some v=>exact clip_eq v n 0
 ·cases hi with
  |none=>rfl
  |some v=>exact clip_eq v n n
theorem places_gen (i j:Nat):Builtin.Slice.slicePlaces (i:Int) (j:Int) 1=j-i:=by
 unfold Builtin.Slice.slicePlaces;have h1:(1:Int) > 0:=by omega
 simp only[h1,if_true,Int.ediv_one]
 split <;> omega
theorem slicePart_ {v:Value}{o:Option Int}{Q:Option Int->Shared->Prop} (p:IsPart v o) (h:Q o s):wpAny (model prog w) A (Builtin.Slice.slicePartIndex v) Q E s:=by
 cases p with
 |none=>exact slicePart_none h
 |int i t=>exact slicePart_int h
theorem sliceApplied_gen {sl:Addr}{vl vu:Value}{lo hi:Option Int}{n:Nat}{Q:Int×Int×Nat->Shared->Prop} (hs:s.heap.IsSliceOf sl vl vu .none) (pl:IsPart vl lo) (pu:IsPart vu hi)
  (h:Q (((sIx n 0 lo:Nat):Int),1,sIx n n hi-sIx n 0 lo) s):wpAny (model prog w) A (Builtin.Slice.sliceApplied (.ref sl) (pure (n:Int))) Q E s:=by
 obtain⟨os,hos,hcs,hds⟩:=id hs;unfold Builtin.Slice.sliceApplied Builtin.Slice.sliceFields;refine wpAny_bind (wpAny_bind (wpAny_field hos hds (x:=vl) rfl (wpAny_bind (wpAny_field hos hds (x:=vu) rfl (wpAny_bind (wpAny_field hos hds (x:=.none) rfl (wpAny_pure ?_)))))));refine wpAny_bind (slicePart_none ?_);show wpAny _ _ (if ((1:Int)==0)=true then _ else _) _ _ s;rw[if_neg (by decide)]
 refine wpAny_bind (slicePart_ pl (wpAny_bind (slicePart_ pu (wpAny_bind (wpAny_pure ?_)))));show wpAny _ _ (match Builtin.Slice.sliceAdjust lo hi 1 (n:Int) with | (lo,hi)=>pure (lo,(1:Int),Builtin.Slice.slicePlaces lo hi 1)) _ _ s
 rw[adjust_gen lo hi n];show wpAny _ _ (pure (((sIx n 0 lo:Nat):Int),(1:Int),Builtin.Slice.slicePlaces ((sIx n 0 lo:Nat):Int) ((sIx n n hi:Nat):Int) 1)) _ _ s;rw[places_gen];exact wpAny_pure h
theorem pick_gen (xs:Array Value) (i k:Nat):((List.range k).filterMap fun (m:Nat)=>xs[((i:Int)+(m:Int)*1).toNat]?).toArray=((xs.toList.drop i).take k).toArray:=by
 have e:(fun (m:Nat)=>xs[((i:Int)+(m:Int)*1).toNat]?)=fun m=>xs[i+m]?:=by
  funext m
  have:((i:Int)+(m:Int)*1).toNat=i+m:=by omega
  rw[this]
 rw[e];have:=pick_run xs i k;rw[List.filterMap_map] at this;have e2:((fun x=>xs[x]?) ∘ fun x=>i+x)=fun m=>xs[i+m]?:=rfl
 rw[e2] at this;rw[this]
theorem getItem_tuple_cut {t sl:Addr}{items:Array Value}{vl vu:Value}{lo hi:Option Int}{Q:Value->Shared->Prop} (ht:IsTup s.heap t items) (hs:s.heap.IsSliceOf sl vl vu .none) (pl:IsPart vl lo) (pu:IsPart vu hi)
  (hw:¬ (sIx items.size 0 lo=0/\sIx items.size items.size hi=items.size))
  (h:Q (.ref s.heap.objs.size) {s with heap:=s.heap.push {cls:=.type "tuple",data:=.seq ((items.toList.drop (sIx items.size 0 lo)).take (sIx items.size items.size hi-sIx items.size 0 lo)).toArray}})
  (hsz:items.size<=sizeLine):wpAny (model prog w) A (getItem (.ref t) (.ref sl)) Q E s:=by
 have htake:sizeOk (.seq ((items.toList.drop (sIx items.size 0 lo)).take (sIx items.size items.size hi-sIx items.size 0 lo)).toArray):=by
  show ((items.toList.drop (sIx items.size 0 lo)).take (sIx items.size items.size hi-sIx items.size 0 lo)).toArray.size<=sizeLine;rw[List.size_toArray,List.length_take,List.length_drop,Array.length_toList];omega
 have hj:sIx items.size items.size hi<=items.size:=sIx_le _ _ (Nat.le_refl _) hi;obtain⟨os,hos,hcs,hds⟩:=id hs;have hTs:s.TypeIs (.ref sl) "slice":=⟨os,hos,hcs⟩;unfold getItem
 try with_reducible refine wpAny_holding ?_
 first | refine wpAny_bind (wpAny_pure ?_) | skip
 refine wpAny_bind (wpAny_sequenceKey ht.typeIs (by decide) ?_)
 refine wpAny_bind (wpAny_callSpecial?_slot (name:=Str.ofString "__getitem__") ht.typeIs PyProof.Rows.slot_tuple_getitem
  (wpAny_call_entry PyProof.Rows.slot_tuple_getitem ht.typeIs entry_tuple_getitem ?_ (args_tuple_getitem _ _)))
 show wpAny _ _ (Builtin.Tuple.tupleItemsOf (.ref t) >>= _) _ _ s;refine wpAny_bind (tupleItemsOf_ ht ?_);refine wpAny_bind (wpAny_typeOf hTs ?_);rw[if_pos (by decide)]
 refine wpAny_bind (sliceApplied_gen hs pl pu ?_)
 have hno:¬ ((((sIx items.size 0 lo:Nat):Int)==0&&(1:Int)==1&&(sIx items.size items.size hi-sIx items.size 0 lo)==items.size)=true):=by
  intro q;rw[Bool.and_eq_true,Bool.and_eq_true] at q;have q1:((sIx items.size 0 lo:Nat):Int)=0:=eq_of_beq q.1.1;have q2:sIx items.size items.size hi-sIx items.size 0 lo=items.size:=eq_of_beq q.2;exact hw ⟨by omega,by omega⟩
 show wpAny _ _ (if (((sIx items.size 0 lo:Nat):Int)==0&&(1:Int)==1&&(sIx items.size items.size hi-sIx items.size 0 lo)==items.size)=true then _ else _) _ _ s;rw[if_neg hno,pick_gen]
 first
  |exact wpAny_bind (m:=Builtin.Tuple.tupleExact _) (wpAny_newObj_type (wpAny_pure ⟨_,rfl,wpAny_pure h⟩) htake)
  |exact wpAny_bind (m:=Builtin.Tuple.tupleExact _) (wpAny_newObj_type (wpAny_bind (wpAny_pure (wpAny_pure ⟨_,rfl,wpAny_pure h⟩))) htake)
  |exact wpAny_bind (wpAny_bind (m:=Builtin.Tuple.tupleExact _) (wpAny_newObj_type (wpAny_pure (wpAny_pure ⟨_,rfl,wpAny_pure h⟩)) htake))
  |exact wpAny_bind (wpAny_bind (m:=Builtin.Tuple.tupleExact _) (wpAny_newObj_type (wpAny_pure ⟨_,rfl,wpAny_pure h⟩) htake))
end
end HT
namespace L2
open PySem PySem.Spec PyProof.Rows
noncomputable abbrev TO:=St->Hp->(Option Int->Hp->Prop)->Prop
noncomputable def PO (X:Cx) (e:Option Expr) (t:TO):Prop :=
 ∀ (pins:List (Addr×Obj)) (s:Shared) (σ:St) (H:Hp) (Q:Option Int->Hp->Prop),Inv X pins σ H s->t σ H Q ->
  wpAny (model X.prog X.w) X.A (evalPart e X.env) (fun u s'=>∃ o H',Inv X pins σ H' s'/\IsPart u o/\Q o H') X.xe s
noncomputable def tNoPart:TO:=fun _ H Q=>Q none H
noncomputable def tPart (t:TE):TO:=fun σ H Q=>t σ H fun x H1=>∃ i,x=.int i/\Q (some i) H1
theorem intsAre_of {ns:List Int}:∀ {us:List Value},Vals (ns.map V.int) us->IntsAre us ns:=by
 induction ns with
 |nil=>intro us r;rw[List.map_nil] at r;cases r;exact .nil
 |cons n ns ih =>
  intro us r;rw[List.map_cons] at r;cases r with
  |cons r1 r2 =>
   obtain⟨t,e⟩:=r1;subst e;exact .cons n t (ih r2)
section
variable {X:Cx}{e:Expr}{te:TE}{lo hi:Option Expr}{tl th:TO}{pos p2:Pos}
theorem po_none:PO X none tNoPart:=by
 intro pins s σ H Q I h;rw[evalPart_none];exact wpAny_pure ⟨none,H,I,.none,h⟩
theorem po_some (h:PE X e te):PO X (some e) (tPart te):=by
 intro pins s σ H Q I hw;rw[evalPart_some];refine thn (h pins s σ H _ I hw) fun u s1 hh0_=>?_
 obtain⟨x,H1,I1,r1,q1⟩:=hh0_;obtain⟨i,rfl,q⟩:=q1;obtain⟨t,rfl⟩:=r1;exact⟨some i,H1,I1,.int i t,q⟩
noncomputable def SlR (X:Cx) (r:V->Option Int->Option Int->Hp->VK->Prop):Prop :=
 ∀ (pins:List (Addr×Obj)) (s:Shared) (σ:St) (H:Hp) (x:V) (v vl vu:Value) (lo hi:Option Int) (sl:Addr) (Q:VK),Inv X pins σ H s->RelV x v->s.heap.IsSliceOf sl vl vu .none->IsPart vl lo->IsPart vu hi->r x lo hi H Q ->
  ∃ T id,typeLookup (.type T) "__getitem__"=pure (some (.builtin id)) ∧ s.TypeIs v T ∧ wpAny (model X.prog X.w) X.A (getItem v (.ref sl)) (EP X pins σ Q) X.xe s
theorem SlR.or {r r':V->Option Int->Option Int->Hp->VK->Prop} (h:SlR X r) (h':SlR X r'):SlR X (fun x lo hi H Q=>r x lo hi H Q\/r' x lo hi H Q):=by
 intro pins s σ H x v vl vu lo hi sl Q I rx hs pl pu q
 rcases q with q | q
 ·exact h pins s σ H x v vl vu lo hi sl Q I rx hs pl pu q
 ·exact h' pins s σ H x v vl vu lo hi sl Q I rx hs pl pu q
noncomputable def tSl (r:V->Option Int->Option Int->Hp->VK->Prop) (te:TE) (tl th:TO):TE:=fun σ H Q=>te σ H fun x H1=>tl σ H1 fun l H2=>th σ H2 fun u H3=>r x l u H3 Q
theorem pe_slice {r:V->Option Int->Option Int->Hp->VK->Prop} (hr:SlR X r) (he:PE X e te) (hl:PO X lo tl) (hu:PO X hi th):PE X (.Subscript e (.Slice lo hi none p2) pos) (tSl r te tl th):=by
 intro pins s σ H Q I h;refine Subscript_ (thn (he pins s σ H _ I h) fun v s1 hh0_=>?_)
 obtain⟨x,H1,I1,r1,q1⟩:=hh0_;refine wpAny_Slice (thn (hl pins s1 σ H1 _ I1 q1) fun vl s2 ⟨l,H2,I2,pl,q2⟩=>thn (hu pins s2 σ H2 _ I2 q2) fun vu s3 hh0_=>?_)
 obtain⟨u,H3,I3,pu,q3⟩:=hh0_;rw[evalPart_none];refine wpAny_pure ?_;have I4:Inv X pins σ H3 {s3 with heap:=s3.heap.push {cls:=.type "slice",data:=.fields #[vl,vu,.none]}}:=I3.kept (t':=s3.toks) fun b ob q=>Heap.get?_push_of_some _ q
 obtain⟨T,id,hT,ht,hg⟩:=hr pins {s3 with heap:=s3.heap.push {cls:=.type "slice",data:=.fields #[vl,vu,.none]}} σ H3 x v vl vu l u s3.heap.objs.size Q I4 r1 (Heap.IsSliceOf.new ..) pl pu q3
 show wpAny (model X.prog X.w) X.A (subscriptTail e (.Slice lo hi none p2) v (.ref s3.heap.objs.size)) (EP X pins σ Q) X.xe {s3 with heap:=s3.heap.push {cls:=.type "slice",data:=.fields #[vl,vu,.none]}}
 exact tail_any (ops:=[.ref s3.heap.objs.size,v]) ht hT hg (by with_unfolding_all rfl)
noncomputable def cutV (xs:List V) (lo hi:Option Int):List V:=(xs.drop (HT.sIx xs.length 0 lo)).take (HT.sIx xs.length xs.length hi-HT.sIx xs.length 0 lo)
theorem cutV_length (xs:List V) (lo hi:Option Int):(cutV xs lo hi).length<=xs.length:=by
 unfold cutV;rw[List.length_take,List.length_drop];omega
noncomputable def rSlT (K:PySem.W.Frag):V->Option Int->Option Int->Hp->VK->Prop:=fun x lo hi H Q=>∃ a xs,x=.ref a/\SqT K H a xs /\
 ¬ (HT.sIx xs.length 0 lo=0/\HT.sIx xs.length xs.length hi=xs.length)/\∀ p,H p=none->Q (.ref p) (upd H p (.tup (cutV xs lo hi)))
theorem sl_tup:SlR X (rSlT X.K):=by
 intro pins s σ H x v vl vu lo hi sl Q I rx hs pl pu h;obtain⟨a,xs,rfl,hx,hw,q⟩:=h;cases rx;obtain⟨its,r,ht,hz⟩:=I.tuple hx;have hlen:its.toArray.size=xs.length:=by rw[List.size_toArray];exact r.length.symm
 refine⟨"tuple",_,PyProof.Rows.slot_tuple_getitem.lookup,ht.typeIs,?_⟩;refine HT.getItem_tuple_cut ht hs pl pu (by rw[hlen];exact hw) ?_ (by rw[hlen];exact hz)
 rw[hlen];refine⟨.ref s.heap.objs.size,_,I.laid (t':=s.toks) (o:=.tup (cutV xs lo hi)) (fun b ob q=>Heap.get?_push_of_some _ q) (Nat.le_refl _) ?_,rfl,q _ (I.hok.fresh (Nat.le_refl _))⟩
 exact⟨Nat.le_trans (cutV_length xs lo hi) hz,_,(r.drop (HT.sIx xs.length 0 lo)).take (HT.sIx xs.length xs.length hi-HT.sIx xs.length 0 lo),IsTuN.new _ _⟩
end
end L2
namespace L2
open PySem PySem.Spec PyProof.Rows
noncomputable def ixN (n:Nat) (i:Int):Option Nat:=if 0<=i then (if i<n then some i.toNat else none) else if -(n:Int)<=i then some (i+n).toNat else none
noncomputable def atI {α:Type} (xs:List α) (i:Int):Option α:=(ixN xs.length i).bind fun j=>xs[j]?
theorem ixN_seq {n:Nat}{i:Int}{j:Nat} (h:ixN n i=some j):seqIndex? i n=some j/\j<n/\-(n:Int)<=i/\i<n:=by
 unfold ixN at h
 by_cases h0:0<=i
 ·rw[if_pos h0] at h
  by_cases h1:i<n
  ·rw[if_pos h1] at h
   have e:i.toNat=j:=Option.some.inj h;exact⟨by rw[seqIndex_of h0 h1,e],by omega,by omega,h1⟩
  ·rw[if_neg h1] at h;cases h
 ·rw[if_neg h0] at h
  by_cases h1:-(n:Int)<=i
  ·rw[if_pos h1] at h
   have e:(i+n).toNat=j:=Option.some.inj h;exact⟨by rw[seqIndex_neg (by omega) h1,e],by omega,h1,by omega⟩
  ·rw[if_neg h1] at h;cases h
theorem atI_get {α:Type}{xs:List α}{i:Int}{v:α} (h:atI xs i=some v):∃ j,seqIndex? i xs.length=some j/\xs[j]?=some v/\j<xs.length/\-(xs.length:Int)<=i/\i<xs.length:=by
 unfold atI at h;cases e:ixN xs.length i with
 |none=>rw[e] at h;cases h
 |some j =>
  rw[e] at h;obtain⟨h1,h2,h3,h4⟩:=ixN_seq e;exact⟨j,h1,h,h2,h3,h4⟩
noncomputable def PlainIx (b:Expr):Prop:=∀ o i,subscripted b false o i=operate [o,i] (getItem o i)
noncomputable def IxR (X:Cx) (r:R2):Prop :=
 ∀ (value slice:Expr) (pins:List (Addr×Obj)) (s:Shared) (σ:St) (H:Hp) (x y:V) (v u:Value) (Q:VK),Inv X pins σ H s->RelV x v->RelV y u->r x y H Q ->
  subscripted slice false v u=operate [v,u] (getItem v u)->wpAny (model X.prog X.w) X.A (subscriptTail value slice v u) (EP X pins σ Q) X.xe s
noncomputable def MtR (X:Cx) (id:String) (r:V->List V->Hp->VK->Prop):Prop :=
 ∀ (pins:List (Addr×Obj)) (s:Shared) (σ:St) (H:Hp) (x:V) (xs:List V) (v:Value) (us:List Value) (Q:VK),Inv X pins σ H s->RelV x v->Vals xs us->r x xs H Q ->
  wpAny (model X.prog X.w) X.A (call (.builtin id) (v::us)) (EP X pins σ Q) X.xe s
section
variable {X:Cx}{a b:Expr}{ta tb:TE}{pos:Pos}
theorem IxR.or {r r':R2} (h:IxR X r) (h':IxR X r'):IxR X (fun x y H Q=>r x y H Q\/r' x y H Q):=by
 intro value slice pins s σ H x y v u Q I rx ry q hs
 rcases q with q | q
 ·exact h value slice pins s σ H x y v u Q I rx ry q hs
 ·exact h' value slice pins s σ H x y v u Q I rx ry q hs
theorem pe_ix {r:R2} (hr:IxR X r) (ha:PE X a ta) (hb:PE X b tb) (hs:PlainIx b):PE X (.Subscript a b pos) (tOp r ta tb):=by
 intro pins s σ H Q I h;exact Subscript_ (binT ha hb I h fun v u s2 x y H2 I2 rx ry q=>hr a b pins s2 σ H2 x y v u Q I2 rx ry q (hs _ _))
noncomputable def rIxL (K:PySem.W.Frag):R2:=fun x y H Q=>∃ p xs i v,x=.ref p/\y=.int i/\SqL K H p xs/\atI xs i=some v/\Q v H
noncomputable def rIxT (K:PySem.W.Frag):R2:=fun x y H Q=>∃ p xs i v,x=.ref p/\y=.int i/\SqT K H p xs/\atI xs i=some v/\Q v H
noncomputable def rIxS:R2:=fun x y H Q=>∃ z i c,x=.str z/\y=.int i/\z.length<=sizeLine/\atI z.cps.toList i=some c/\Q (.str ⟨#[c]⟩) H
theorem ix_list:IxR X (rIxL X.K):=by
 intro value slice pins s σ H x y v u Q I rx ry h hs;obtain⟨p,xs,i,z,rfl,rfl,hq,he,q⟩:=h;cases rx;obtain⟨t,rfl⟩:=ry;obtain⟨its,r,pl,hz⟩:=I.list hq;obtain⟨j,h1,h2,h3,h4,h5⟩:=atI_get he;obtain⟨w,ew,rw'⟩:=r.get h2;have hl:=r.length;have hn:=line63;have fin:EP X pins σ Q w s:=⟨z,H,I,rw',q⟩
 by_cases h0:0<=i
 ·have hj:i.toNat=j:=by
   rw[seqIndex_of h0 h5] at h1;exact Option.some.inj h1
  exact item_listR pl.isList h0 (by omega) (by rw[hj];simpa using ew) fin hs
 ·have hj:(i+(its.toArray.size:Int)).toNat=j:=by
   rw[seqIndex_neg (by omega) h4] at h1
   rw[List.size_toArray,<- hl];exact Option.some.inj h1
  exact subscriptTail_builtinR (x:=w) pl.isList.typeIs slot_list_getitem.lookup
   (wpAny_getItem_list_neg (Q:=fun r s'=>r=w/\EP X pins σ Q r s') pl.isList (by omega) (by rw[List.size_toArray] <;> omega) (by omega) (by rw[hj];simpa using ew) ⟨rfl,fin⟩) hs
theorem ix_tup:IxR X (rIxT X.K):=by
 intro value slice pins s σ H x y v u Q I rx ry h hs;obtain⟨p,xs,i,z,rfl,rfl,hq,he,q⟩:=h;cases rx;obtain⟨t,rfl⟩:=ry;obtain⟨its,r,pl,hz⟩:=I.tuple hq;obtain⟨j,h1,h2,h3,h4,h5⟩:=atI_get he;obtain⟨w,ew,rw'⟩:=r.get h2;have hl:=r.length;have hn:=line63;have fin:EP X pins σ Q w s:=⟨z,H,I,rw',q⟩;exact subscriptTail_builtinR (x:=w) pl.typeIs slot_tuple_getitem.lookup
  (getItem_tuple (j:=j) (Q:=fun r s'=>r=w/\EP X pins σ Q r s') pl (by omega) (by omega) (by rw[List.size_toArray,<- hl];exact h1) (by simpa using ew) ⟨rfl,fin⟩) hs
theorem ix_str:IxR X rIxS:=by
 intro value slice pins s σ H x y v u Q I rx ry h hs;obtain⟨z,i,c,rfl,rfl,hz,he,q⟩:=h;obtain⟨t,rfl⟩:=rx;obtain⟨t',rfl⟩:=ry;obtain⟨j,h1,h2,h3,h4,h5⟩:=atI_get he;have hl:z.cps.toList.length=z.length:=by simp[Str.length]
 rw[hl] at h1 h4 h5;have hn:=line63
 exact tail_any (typeIs_str s z t) slot_str_getitem.lookup (getItem_str (c:=c) (by
  have e1:decide (i < -(2 ^ 63:Int))=false:=decide_eq_false (by omega)
  have e2:decide (i>=2 ^ 63)=false:=decide_eq_false (by omega)
  rw[e1,e2,Bool.or_false]) (by rw[h1];simpa using h2) ⟨.str ⟨#[c]⟩,H,I.tok _,⟨_,rfl⟩,q⟩) hs
noncomputable def rIx (K:PySem.W.Frag):R2:=fun x y H Q=>rIxL K x y H Q\/rIxT K x y H Q\/rIxS x y H Q
theorem ix_seq:IxR X (rIx X.K):=ix_list.or (ix_tup.or ix_str)
theorem Inv.lst {pins:List (Addr×Obj)}{σ:St}{H:Hp}{s:Shared}{p:Addr}{xs:List V} (I:Inv X pins σ H s) (h:H p=some (.lst xs)) :
  ∃ (its:List Value) (n:Nat),Vals xs its ∧ s.heap.get? p=some {cls:=.type "list",data:=.seq its.toArray n} ∧ xs.length ≤ sizeLine:=by
 obtain⟨z,its,n,r,e⟩:=I.hok p _ h;exact⟨its,n,r,e,z⟩
theorem slice_bounds (lo hi:Option Int) (n:Nat):(sliceBounds lo hi none n).1=((HT.sIx n 0 lo:Nat):Int)/\(sliceBounds lo hi none n).2.1=((HT.sIx n n hi:Nat):Int)/\(sliceBounds lo hi none n).2.2=1:=by
 refine⟨?_,?_,rfl⟩
 ·cases lo with
  |none=>simp[sliceBounds,HT.sIx]
  |some i =>
   simp only[sliceBounds,HT.sIx,Option.getD_none,show (1:Int) > 0 by decide,if_true]
   by_cases h:i<0
   ·simp only[h,if_true] <;> omega
   ·simp only[h,if_false] <;> omega
 ·cases hi with
  |none=>simp[sliceBounds,HT.sIx]
  |some i =>
   simp only[sliceBounds,HT.sIx,Option.getD_none,show (1:Int) > 0 by decide,if_true]
   by_cases h:i<0
   ·simp only[h,if_true] <;> omega
   ·simp only[h,if_false] <;> omega
theorem slicePick_cut (its:List Value) (lo hi:Option Int):slicePick its.toArray lo hi none=((its.drop (HT.sIx its.length 0 lo)).take (HT.sIx its.length its.length hi-HT.sIx its.length 0 lo)).toArray:=by
 obtain⟨h1,h2,h3⟩:=slice_bounds lo hi its.toArray.size;unfold slicePick;rw[h1,h2,h3];simp only[sliceRange_one,pick_run,List.size_toArray] <;> rfl
noncomputable def rSlL (K:PySem.W.Frag):V->Option Int->Option Int->Hp->VK->Prop:=fun x lo hi H Q=>∃ a xs,x=.ref a/\SqL K H a xs/\∀ p,H p=none->Q (.ref p) (upd H p (.lst (cutV xs lo hi)))
theorem sl_list:SlR X (rSlL X.K):=by
 intro pins s σ H x v vl vu lo hi sl Q I rx hs pl pu h;obtain⟨a,xs,rfl,hx,q⟩:=h;cases rx;obtain⟨its,r,ht,hz⟩:=I.list hx;have hlen:=r.length;refine⟨"list",_,slot_list_getitem.lookup,ht.isList.typeIs,?_⟩;refine wpAny_getItem_list_slice ht.isList hs pl pu .none (by simp) ?_ (by rw[List.size_toArray] <;> omega)
 rw[slicePick_cut,<- hlen];refine⟨.ref s.heap.objs.size,_,I.laid (t':=s.toks) (o:=.lst (cutV xs lo hi)) (fun b ob q=>Heap.get?_push_of_some _ q) (Nat.le_refl _) ?_,rfl,q _ (I.hok.fresh (Nat.le_refl _))⟩
 exact⟨Nat.le_trans (cutV_length xs lo hi) hz,_,0,(r.drop (HT.sIx xs.length 0 lo)).take (HT.sIx xs.length xs.length hi-HT.sIx xs.length 0 lo),Heap.get?_push_size _ rfl⟩
theorem call_len_seq:CallR X (.builtin "len") (fun xs H Q=>∃ p ys,xs=[.ref p] ∧ (SqL X.K H p ys ∨ SqT X.K H p ys) ∧ Q (.int ys.length) H):=by
 intro pins s σ H xs us Q I r h;obtain⟨p,ys,rfl,hq,q⟩:=h;obtain⟨u,rfl,rx⟩:=vals1 r;cases rx;have hn:=line63
 rcases hq with hq | hq
 ·obtain⟨its,r',pl,hz⟩:=I.list hq
  have hlen:=r'.length;exact Calls.call_len_list pl.isList (by simp only[List.size_toArray] <;> omega) ⟨.int ys.length,H,I.tok _,⟨s.toks+1,by rw[List.size_toArray,hlen]⟩,q⟩
 ·obtain⟨its,r',pl,hz⟩:=I.tuple hq
  have hlen:=r'.length;exact len_tuple pl (by simp only[List.size_toArray] <;> omega) ⟨.int ys.length,H,I.tok _,⟨s.toks+1,by rw[List.size_toArray,hlen]⟩,q⟩
theorem call_len_str:CallR X (.builtin "len") (fun xs H Q=>∃ z,xs=[.str z] ∧ z.length ≤ sizeLine ∧ Q (.int z.length) H):=by
 intro pins s σ H xs us Q I r h;obtain⟨z,rfl,hz,q⟩:=h;obtain⟨u,rfl,t,rfl⟩:=vals1 r;have hn:=line63;exact len_str (by omega) ⟨.int z.length,H,I.tok _,⟨_,rfl⟩,q⟩
theorem CallR.or {f:Value}{r r':List V->Hp->VK->Prop} (h:CallR X f r) (h':CallR X f r'):CallR X f (fun xs H Q=>r xs H Q\/r' xs H Q):=by
 intro pins s σ H xs us Q I rs q
 rcases q with q | q
 ·exact h pins s σ H xs us Q I rs q
 ·exact h' pins s σ H xs us Q I rs q
theorem call_list_of:CallR X (.type "list") (fun xs H Q=>∃ p ys,xs=[.ref p] ∧ (SqL X.K H p ys ∨ SqT X.K H p ys) ∧ ∀ l,H l=none → Q (.ref l) (upd H l (.lst ys))):=by
 intro pins s σ H xs us Q I r h;obtain⟨p,ys,rfl,hq,q⟩:=h;obtain⟨u,rfl,rx⟩:=vals1 r;cases rx;have fin:∀ (its:List Value),Vals ys its->ys.length<=sizeLine->∀ (h':Heap) (c':Nat),(∀ b o',s.heap.get? b=some o'->h'.get? b=some o') ->
   h'.get? s.heap.objs.size=some {cls:=.type "list",dict:=none,data:=.seq its.toArray c',slots:=#[]} → EP X pins σ Q (.ref s.heap.objs.size) {s with heap:=h'}:=fun its r' hz h' c' kp e =>
  ⟨.ref s.heap.objs.size,_,I.laid (t':=s.toks) kp (Nat.le_refl _) (show ObjOk X.prog X.w _ h' _ (.lst ys) from ⟨hz,its,c',r',e⟩),rfl,q _ (I.hok.fresh (Nat.le_refl _))⟩
 rcases hq with hq | hq
 ·obtain⟨its,r',pl,hz⟩:=I.list hq
  have hlen:=r'.length;obtain⟨o,ho,hc,n,hd⟩:=pl.isList;exact call_list_seq p (.inl rfl) ho hc hd (fun h' c' kp e=>fin its r' hz h' c' kp e) (by simp only[List.size_toArray] <;> omega)
 ·obtain⟨its,r',pl,hz⟩:=I.tuple hq
  have hlen:=r'.length;obtain⟨o,ho,hc,n,hd⟩:=pl;exact call_list_seq p (.inr rfl) ho hc hd (fun h' c' kp e=>fin its r' hz h' c' kp e) (by simp only[List.size_toArray] <;> omega)
noncomputable def tyV (K:PySem.W.Frag) (T:String) (x:V) (H:Hp):Prop:=match x with
 |.str _=>T="str"
 |.int _=>T="int"
 |.ref p=>(T="list" ∧ ∃ xs,SqL K H p xs) ∨ (T="tuple" ∧ ∃ o,K.lookup p=some o ∧ o.cls=.type "tuple" ∧ o.dict=none) ∨
   (T="dict" ∧ ((∃ kvs,H p=some (.dK kvs)) ∨ ∃ kvs,H p=some (.dT kvs))) ∨ (T="set" ∧ ∃ S n,H p=some (.set S n))
 |_=>False
theorem tyV_is {pins:List (Addr×Obj)}{σ:St}{H:Hp}{s:Shared}{T:String}{x:V}{v:Value} (I:Inv X pins σ H s) (r:RelV x v) (ty:tyV X.K T x H) :
  s.TypeIs v T/\∀ a,v=.ref a->∃ ob,s.heap.get? a=some ob/\ob.dict=none:=by
 cases x with
 |str z =>
  obtain⟨t,rfl⟩:=r;cases (show T="str" from ty);exact⟨typeIs_str s z t,fun _ e=>nomatch e⟩
 |int i =>
  obtain⟨t,rfl⟩:=r;cases (show T="int" from ty);exact⟨typeIs_int s i t,fun _ e=>nomatch e⟩
 |ref p =>
  cases r
  rcases ty with ⟨rfl,xs,hq⟩ | ⟨rfl,o,hk,hc,hd⟩ | ⟨rfl,hk⟩ | ⟨rfl,S,n,hk⟩
  ·obtain⟨its,_,pl,_⟩:=I.list hq
   refine⟨pl.isList.typeIs,fun a e=>?_⟩
   cases e;obtain⟨o,n,e,c,hd,_⟩:=pl;exact⟨o,e,hd⟩
  ·refine⟨⟨o,I.kIn p o hk,hc⟩,fun a e=>?_⟩
   cases e;exact⟨o,I.kIn _ o hk,hd⟩
  ·have z:∃ o,s.heap.get? p=some o/\o.ExactDict:=by
    rcases hk with ⟨kvs,hk⟩ | ⟨kvs,hk⟩
    ·obtain⟨_,_,_,_,o,_,_,e,ex,_⟩:=I.hok p _ hk
     exact⟨o,e,ex⟩
    ·obtain⟨_,_,_,_,o,_,_,e,ex,_⟩:=I.hok p _ hk
     exact⟨o,e,ex⟩
   obtain⟨o,e,ex⟩:=z;refine⟨⟨o,e,ex.1⟩,fun a e2=>?_⟩
   cases e2;exact⟨o,e,ex.2.1⟩
  ·obtain⟨o,_,_,_,e,ex,_⟩:=I.hok p _ hk
   refine⟨⟨o,e,ex.1⟩,fun a e2=>?_⟩
   cases e2;exact⟨o,e,ex.2.1⟩
 |_=>exact False.elim ty
noncomputable def tBM0 (K:PySem.W.Frag) (T:String) (r:V->List V->Hp->VK->Prop) (to:TE):TE:=fun σ H Q=>to σ H fun x H1=>tyV K T x H1/\r x [] H1 Q
noncomputable def tBM (K:PySem.W.Frag) (T:String) (r:V->List V->Hp->VK->Prop) (to:TE) (t:TA):TE:=fun σ H Q=>to σ H fun x H1=>tyV K T x H1/\t σ H1 fun xs H2=>r x xs H2 Q
variable {o e:Expr}{es:List Expr}{to:TE}{t:TA}{name:Str}{apos cpos:Pos}{T id:String}{r:V->List V->Hp->VK->Prop}
theorem pe_bm0 (pa:PlainAttrs T) (slot:Slot T name id) (hty:typeOf (.builtin id)=pure (.type "method_descriptor")) (hm:MtR X id r) (ho:PE X o to)
  (hbase:attributeBase o name X.env (eval o X.env)=eval o X.env:=by rfl) (hline:(apos.endLine==cpos.line)=true:=by rfl):PE X (.Call (.Attribute o name apos) [] [] cpos) (tBM0 X.K T r to):=by
 intro pins s σ H Q I h;refine wpAny_Call_method0_late hbase hline (thn (ho pins s σ H _ I h) fun v s1 hh0_=>?_)
 obtain⟨x,H1,I1,r1,ty,q1⟩:=hh0_;obtain⟨h1,h2⟩:=tyV_is I1 r1 ty;exact⟨T,id,pa,slot,hty,h1,h2,Calls.callWith_builtin rfl (PySem.evalArgs_none (hm pins s1 σ H1 x [] v [] Q I1 r1 .nil q1))⟩
theorem pe_bm (pa:PlainAttrs T) (slot:Slot T name id) (hty:typeOf (.builtin id)=pure (.type "method_descriptor")) (hm:MtR X id r) (ho:PE X o to) (ha:PA X (e::es) t)
  (hbase:attributeBase o name X.env (eval o X.env)=eval o X.env:=by rfl)
  (hfew:((backTo cpos (starEach (e::es) X.env)).all (fun x=>!x.1)&&(backToKw cpos (keywordEach [] X.env)).all (fun x=>x.1.isSome)
   && decide ((e::es).length+([]:List Keyword).length+(if ([]:List Keyword).isEmpty then 0 else 1)<30))=true:=by rfl)
  (hline:(apos.endLine==cpos.line)=true:=by rfl) (hs:starEach (e::es) X.env=(false,eval e X.env)::starEach es X.env:=by rfl) (hplain:(backTo cpos (starEach es X.env)).any (·.1)=false:=by rfl) :
  PE X (.Call (.Attribute o name apos) (e::es) [] cpos) (tBM X.K T r to t):=by
 intro pins s σ H Q I h;refine wpAny_Call_method_late hbase hfew hline rfl (thn (ho pins s σ H _ I h) fun v s1 hh0_=>?_)
 obtain⟨x,H1,I1,r1,ty,q1⟩:=hh0_;obtain⟨h1,h2⟩:=tyV_is I1 r1 ty;refine⟨T,id,pa,slot,hty,h1,h2,?_⟩;have hA:=ha cpos pins s1 σ H1 _ I1 q1;rw[hs] at hA ⊢;refine Calls.callWith_builtin (by show (false||(backTo cpos (starEach es X.env)).any (·.1))=false;rw[hplain] <;> rfl) (Calls.evalArgs_plain ?_)
 exact thn hA fun us s2 ⟨vs,H2,I2,r2,q2⟩=>hm pins s2 σ H2 x vs v us Q I2 r1 r2 q2
end
end L2
namespace L2
open PySem PySem.Spec PyProof.Rows
noncomputable def MtM (X:Cx) (id:String) (r:V->List V->Hp->VK->Prop):Prop :=
 ∀ (pins:List (Addr×Obj)) (s:Shared) (σ:St) (H:Hp) (x:V) (xs:List V) (v:Value) (us:List Value) (Q:VK),Inv X pins σ H s->RelV x v->Vals xs us->r x xs H Q ->
  wpAny (model X.prog X.w) X.A (call (.builtin id) (v::us)) (EP X pins σ Q) X.xe s
theorem Vals.one:∀ {x:V}{us:List Value},Vals [x] us->∃ u,us=[u]/\RelV x u
 |_,_,.cons r .nil=>⟨_,rfl,r⟩
theorem Vals.zero:∀ {us:List Value},Vals [] us->us=[]
 |_,.nil=>rfl
theorem Vals.reverse {xs:List V}{us:List Value} (h:Vals xs us):Vals xs.reverse us.reverse:=by
 induction h with
 |nil=>exact .nil
 |cons r t ih=>rw[List.reverse_cons,List.reverse_cons];exact Vals.append ih (.cons r .nil)
section
variable {X:Cx}{pins:List (Addr×Obj)}{σ:St}{H:Hp}{s:Shared}{l b:Addr}{xs ys zs:List V}
theorem Inv.lset {its its':List Value}{n:Nat}{f:Array Value->Array Value}{t':Nat} (I:Inv X pins σ H s) (hH:H l=some (.lst xs))
  (e:s.heap.get? l=some {cls:=.type "list",data:=.seq its.toArray n}) (hf:f its.toArray=its'.toArray) (hv:Vals ys its') (hz:ys.length ≤ sizeLine) :
  Inv X pins σ (upd H l (.lst ys)) {s with heap:=s.heap.update l (Obj.mapSeq f),toks:=t'}:=by
 have q:=PySem.IsL.update e f;rw[hf] at q;refine I.write (x:=l) (e:=l) (by rw[hH];exact trivial) (.inl rfl) (fun b' u hb hu=>(Heap.get?_update_other s.heap (Obj.mapSeq f) (Ne.symm hb)).trans hu) ⟨_,q⟩ ?_
 exact⟨hz,its',_,hv,q⟩
theorem Inv.lnew {its:List Value}{t':Nat} (I:Inv X pins σ H s) (hv:Vals ys its) (hz:ys.length<=sizeLine) :
  Inv X pins σ (upd H s.heap.objs.size (.lst ys)) {s with heap:=s.heap.push {cls:=.type "list",data:=.seq its.toArray},toks:=t'} :=
 I.laid (fun _ _ q=>Heap.get?_push_of_some _ q) (Nat.le_refl _) ⟨hz,its,0,hv,Heap.get?_push_size _ rfl⟩
theorem Inv.fresh (I:Inv X pins σ H s):H s.heap.objs.size=none:=I.hok.fresh (Nat.le_refl _)
theorem Inv.lstM (I:Inv X pins σ H s) (hH:H l=some (.lst xs)):xs.length ≤ sizeLine ∧ ∃ (its:List Value) (n:Nat),Vals xs its ∧ xs.length=its.length ∧ s.heap.get? l=some {cls:=.type "list",data:=.seq its.toArray n}:=by
 obtain⟨z,its,n,r,e⟩:=I.hok l _ hH;exact⟨z,its,n,r,r.length,e⟩
end
section
variable {X:Cx}
noncomputable def rAppend:V->List V->Hp->VK->Prop:=fun x vs H Q=>∃ l xs y,x=.ref l/\vs=[y]/\H l=some (.lst xs)/\xs.length<sizeLine/\Q .non (upd H l (.lst (xs++[y])))
theorem mt_append:MtM X "list.append" rAppend:=by
 intro pins s σ H x vs v us Q I rx rv h;obtain⟨l,xs,y,rfl,rfl,hH,hz,q⟩:=h;cases rx;obtain⟨u,rfl,ru⟩:=rv.one;obtain⟨z,its,n,r,hl,e⟩:=I.lstM hH;refine call_meets F.slot_list_append ⟨_,e,rfl⟩ F.entry_list_append (F.args_list_append_2 _ _) (PySem.list_append l its.toArray n u (by rw[List.size_toArray];omega)) ⟨e,?_⟩
 refine⟨.non,_,I.lset (its':=its++[u]) hH e (by simp) (r.append (.cons ru .nil)) ?_,rfl,q⟩
 rw[List.length_append,List.length_singleton];omega
noncomputable def rClear:V->List V->Hp->VK->Prop:=fun x vs H Q=>∃ l xs,x=.ref l/\vs=[]/\H l=some (.lst xs)/\Q .non (upd H l (.lst []))
theorem mt_clear:MtM X "list.clear" rClear:=by
 intro pins s σ H x vs v us Q I rx rv h;obtain⟨l,xs,rfl,rfl,hH,q⟩:=h;cases rx;have hus:=rv.zero;subst hus;obtain⟨z,its,n,r,hl,e⟩:=I.lstM hH;refine call_meets F.slot_list_clear ⟨_,e,rfl⟩ F.entry_list_clear (F.args_list_clear_1 _) (AutoSeq1.list_clear_list_0 l its.toArray n (by rw[List.size_toArray];omega)) ⟨e,?_⟩
 exact⟨.non,_,I.lset (its':=[]) (ys:=[]) hH e rfl .nil (Nat.zero_le _),rfl,q⟩
end
section
variable {prog:Program}{w:World}{A:Around}{E:Value->Shared->Prop}{s:Shared}
end
section
variable {X:Cx}
end
end L2
namespace Att
open PySem PySem.W PySem.Calls PyProof.Rows
theorem ints_of_wellAll {P:Params}{h:Heap}:∀ (ns:List Int) (vs:List Value),WellAll P h vs (ns.map WData.int)->IntsAre vs ns:=by
 intro ns
 induction ns with
 |nil =>
  intro vs w;rw[List.map_nil] at w;cases w;exact .nil
 |cons n ns ih =>
  intro vs w;rw[List.map_cons] at w;cases w with
  |cons a b =>
   cases a;exact .cons _ _ (ih _ b)
theorem script_of {l:OpenLaw}{n:Nat} (hn:l.most=some n) {P:Params}{h:Heap}{args:List WData}{vals:List Value}
  (hpre:l.row.toRowW.claim.pre args=true) (hwl:WellAll P h vals args) :
  ∃ a vs ns,vals=[Value.ref a] ∧ args=[WData.list (ns.map WData.int)] ∧ h.get? a=some {cls:=.type "list",data:=.seq vs.toArray} ∧ IntsAre vs ns ∧ ns.length ≤ n:=by
 have hsh:WShape.hasAll [] args [.list .int]=true:=(pre_splitW hpre).1;have hc:l.pre.holds [] {args:=args}=true:=(pre_splitW hpre).2;obtain⟨d,r,rfl,h1,h2⟩:=hasAllW_cons hsh;obtain rfl:=hasAllW_nil h2;obtain⟨xs,rfl,h3⟩:=hasW_list h1;obtain⟨ns,rfl⟩:=items_int h3
 have hlen:ns.length<=n:=by
  unfold OpenLaw.pre at hc
  have h4:(WTm.not (.lt (.lit (.int (n:Int))) (.len (.arg 0)))).holds [] {args:=[.list (ns.map .int)]}=true:=by
   have h4:=(holds_andW hc).1;rw[hn] at h4;exact h4
  have h5:=condW_of h4 (w_not (w_lt w_lit (w_len_list (w_arg rfl))));rw[List.length_map] at h5;refine Nat.le_of_not_lt fun q=>?_
  have q':(n:Int)<((ns.length:Nat):Int):=by omega
  first
   |(rw[decide_eq_true q'] at h5;exact absurd h5 (by decide))
   |(simp at h5;omega)
 cases hwl with
 |cons w1 w2 =>
  cases w2;cases w1 with
  |list ho hall=>exact⟨_,_,ns,rfl,rfl,ho,ints_of_wellAll ns _ hall,hlen⟩
theorem post_true (l:OpenLaw) (args:List WData):l.row.toRowW.claim.post args (.bool true) args=true :=
 postW_of (r:=l.row.toRowW) (X:=(true==true))
  (show WShape.has [] (.bool true) .bool=true by first | rfl | decide | simp[WShape.has,WShape.arms,WShape.armsAll])
  (show (WTm.eq .res (.lit (.bool true))).value [] {args:=args,res:=some (.bool true),after:=args}=some (.bool (true==true)) from w_eq_bool (w_res rfl) w_lit) rfl
theorem attach_call {l:OpenLaw}{n:Nat}{q:Program}{loose:List Str}{XP:(Str->Option Value)->Heap->Prop}{YP:World->Heap->Prop}{d:DefRec}
  (hn:l.most=some n) (hdf:d.params.defaults=[])
  (call:∀ (w:World) (s₀ s₁:Shared) (mg mb:Str->Option Value) (fa:Addr) (o:Obj) (pm cd doc:Value) (a:Addr) (vs:List Value) (ns:List Int),
   Ground q loose [] XP w s₀ mg mb s₁.heap->YP w s₁.heap ->
   s₁.heap.get? fa=some o->o.data=.func (docDef d.name d.params d.body d.scope pm cd doc)->s₁.heap.CodeRec cd d.name->mg d.name=some (.ref fa) ->
   s₁.heap.get? a=some {cls:=.type "list",data:=.seq vs.toArray} → IntsAre vs ns → ns.length ≤ n → s₁.gens=#[] →
   codeAny (model l.prog w) callerA (.call (.ref fa) ⟨[.ref a],[]⟩) (fun r s'=>r=.ok (.ret (.bool true))/\OldK s₁.heap s'.heap/\s'.os=s₁.os/\AllBare s'.gens) s₁) :
  WalkO q loose XP YP l.row.toRowW d [] (fun f vs=>PySem.call f vs):=by
 intro w s₀ s₁ mg mb G Y fa o pm cd doc dV kV ho hd hcd hD hmg hg args vals as hpre hlay hrd hwl hlo;obtain rfl:dV=.none:=Dflts.none hD hdf;obtain rfl:kV=.none:=Dflts.noKw hD;obtain⟨a,vs,ns,rfl,rfl,hobj,hints,hlen⟩:=script_of hn hpre hwl;refine enter_call (codeAny_mono (call w s₀ s₁ mg mb fa o pm cd doc a vs ns G Y ho (fd_plain hd) hcd hmg hobj hints hlen hg) fun r s' hq=>?_)
 obtain⟨rfl,h2,h3,h4⟩:=hq;exact⟨.inl ⟨.bool true,.bool true,[],rfl,fun _=>rfl,.bool true,post_true l _,fun _=>⟨List.Pairwise.nil,fun _ hm=>(nomatch hm)⟩⟩,h2,h3,h4⟩
section
variable {prog:Program}{w:World}{A:Around}{E:Value->Shared->Prop}{s:Shared}{K:Frag}
end
end Att
namespace L2
open PySem PySem.Spec PyProof.Rows
theorem vals_ints:∀ {vs:List Value}{ns:List Int},IntsAre vs ns->Vals (ns.map V.int) vs
 |_,_,.nil=>.nil
 |_,_,.cons n t h=>.cons ⟨t,rfl⟩ (vals_ints h)
noncomputable def Only (H:Hp):Prop:=∀ b,H b=none\/∃ o xs,H b=some (.frz o (.lst xs))
theorem law_call {P:Program}{w:World}{K:PySem.W.Frag}{mg mb:Str->Option Value}{CX:CXT}{k:Nat}{fa a:Addr}{fd:FuncData}{x:Str}{sp:Sp}{s₁:Shared}{vs:List Value}{ns:List Int}
  (KX:K.In s₁.heap) (hns:s₁.heap.Ns mainGlobals mg) (hb:s₁.heap.Ns builtinsNs mb) (hbb:∀ x:Str,x≠"__name__" → mb x=bootBuiltins x) (hlim:s₁.heap.NoLimit) (hg:s₁.gens=#[])
  (ha:s₁.heap.get? a=some {cls:=.type "list",data:=.seq vs.toArray}) (hi:IntsAre vs ns) (hl:ns.length ≤ sizeLine) (hr:Room k callerA)
  (F:∀ base:Heap,K.In base->base.Ns mainGlobals mg->FnOk P w K mg base CX k fa fd [x] sp) (hbind:∀ (s:Shared) (u:Value),BindsTo s fd ⟨[u],[]⟩ [(x,u)])
  (hsp:∀ H:Hp,Only H->SqL K H a (ns.map V.int)->sp [.ref a] H (fun v _=>v=.bl true) fun _ _ _=>False)
  (hCX:∀ H e s',CX [] H s₁ (fun _ _ _=>False) e s'->False) :
  codeAny (model P w) callerA (.call (.ref fa) ⟨[.ref a],[]⟩) (fun r s'=>r=.ok (.ret (.bool true))/\OldK s₁.heap s'.heap/\s'.os=s₁.os/\AllBare s'.gens) s₁:=by
 have rv:=vals_ints hi;have lenV:=hi.length;have core:∀ H:Hp,Only H->SqL K H a (ns.map V.int)->HOk P w H s₁.heap->(∀ b,H b≠none->b=a)->(H a≠none->K.lookup a=none) ->
   codeAny (model P w) callerA (.call (.ref fa) ⟨[.ref a],[]⟩) (fun r s'=>r=.ok (.ret (.bool true))/\OldK s₁.heap s'.heap/\s'.os=s₁.os/\AllBare s'.gens) s₁:=by
  intro H hO hS hok hA hK;have base_of:∀ {b:Addr}{o:Obj},s₁.heap.get? b=some o->H b=none->(hidT s₁.heap H).get? b=some o:=fun e n=>hidT_get e n
  have noA:∀ {b:Addr}{o:Obj}{es:Array DictEntry}{ep:Nat},s₁.heap.get? b=some o->o.data=.dict es ep->H b=none:=fun {b o es ep} e d=>by
   cases q:H b with
   |none=>rfl
   |some u =>
    have e':b=a:=hA b (by rw[q];simp)
    subst e';rw[ha] at e;cases e;have d':Data.seq vs.toArray _=Data.dict es ep:=d;cases d'
  have nsK:∀ {b:Addr}{m:Str->Option Value},s₁.heap.Ns b m->(hidT s₁.heap H).Ns b m:=fun {b m} ⟨o,es,ep,e,d,r⟩=>⟨o,es,ep,base_of e (noA e d),d,r⟩
  have hKb:K.In (hidT s₁.heap H):=fun b o e=>base_of (KX b o e) (by
   cases q:H b with
   |none=>rfl
   |some u =>
    have e':b=a:=hA b (by rw[q];simp)
    subst e';rw[hK (by rw[q];simp)] at e;cases e)
  have hM:Mod K mg (hidT s₁.heap H):=⟨hKb,nsK hns,⟨mb,nsK hb,hbb⟩,let ⟨mc,h1,h2⟩:=hlim;⟨mc,nsK h1,h2⟩⟩;have e0:Env0 P w K mg (hidT s₁.heap H) callerA [] s₁ H:=⟨rfl,hM,fun b o e=>of_hidT e,Nat.le_of_eq (hidT_size _ _),trivial,fun b hb=>absurd (show b∈([]:List Addr) from hb) (by simp),hok,.of_eq hg⟩
  refine codeAny_mono ((F _ hKb (nsK hns)).run callerA [] s₁ H ⟨[.ref a],[]⟩ [.ref a] [.ref a] _ _ hr e0 (hbind s₁ (.ref a)) (.cons rfl .nil) (hsp H hO hS)) fun r s' h=>?_
  cases r with
  |error e=>exact (hCX H e s' h).elim
  |ok fl =>
   cases fl with
   |next=>exact False.elim h
   |brk=>exact False.elim h
   |cont=>exact False.elim h
   |ret u =>
    obtain⟨v,H',os,bare,un,hok',r',q⟩:=h;have q':v=.bl true:=q;subst q';obtain rfl:u=Value.bool true:=r';refine⟨rfl,OldK.of_keep fun b o e=>?_,os,bare⟩
    cases q:H b with
    |none=>exact un.keep b o e q (by intro z;exact absurd (show b∈([]:List Addr) from z) (by simp)) (by simp)
    |some u =>
     rcases hO b with z | ⟨ob,xs,z⟩
     ·rw[q] at z;cases z
     ·have z2:=un.frzs b ob _ z
      obtain⟨e1,_⟩:=hok b _ z;obtain⟨e2,_⟩:=hok' b _ z2;rw[e] at e1;cases e1;exact e2
 cases hk:K.lookup a with
 |some o =>
  have e:=KX a o hk;rw[ha] at e;cases e;refine core (fun _=>none) (fun _=>.inl rfl) (.inr ⟨_,vs.toArray,_,hk,rfl,rfl,rfl,by rw[List.size_toArray,lenV];exact hl,by simpa using rv⟩) (fun b u z=>by have z':(none:Option HO)=some u:=z;cases z') (fun b z=>absurd rfl z) fun z=>absurd rfl z
 |none =>
  refine core (fun b=>if b=a then some (.frz {cls:=.type "list",data:=.seq vs.toArray} (.lst (ns.map V.int))) else none) (fun b=>?_) (.inl (.inr ⟨{cls:=.type "list",data:=.seq vs.toArray},if_pos rfl⟩)) (fun b u z=>?_) (fun b z=>?_) fun _=>hk
  ·by_cases hb:b=a
   ·exact .inr ⟨_,_,if_pos hb⟩
   ·exact .inl (if_neg hb)
  ·by_cases hb:b=a
   ·have z':=(if_pos hb).symm.trans z
    cases z';subst hb;exact⟨ha,by rw[List.length_map];exact hl,vs,_,rv,ha⟩
   ·have z':=(if_neg hb).symm.trans z
    cases z'
  ·by_cases hb:b=a
   ·exact hb
   ·exact absurd (if_neg hb) z
end L2
namespace L2
open PySem PySem.Spec PyProof.Rows
theorem walk_of {l:PySem.W.OpenLaw}{n k:Nat}{q:Program}{loose:List Str}{XP:(Str->Option Value)->Heap->Prop}{YP:World->Heap->Prop}{d:DefRec}{K:Params->PySem.W.Frag}{CX:World->CXT}{sp:World->Sp}{x:Str}
  (hn:l.most=some n) (hn2:n<=sizeLine) (hdf:d.params.defaults=[]) (hr:Room k callerA)
  (hY:∀ (w:World) (h:Heap),YP w h->(K w.params).In h)
  (F:∀ (w:World) (mg:Str->Option Value) (fa:Addr) (h:Heap),(K w.params).In h->h.Ns mainGlobals mg->mg d.name=some (.ref fa) ->
   ∃ fd:FuncData,(∀ (s:Shared) (u:Value),BindsTo s fd ⟨[u],[]⟩ [(x,u)]) /\
    ∀ base:Heap,(K w.params).In base->base.Ns mainGlobals mg->FnOk l.prog w (K w.params) mg base (CX w) k fa fd [x] (sp w))
  (hsp:∀ (w:World) (H:Hp) (a:Addr) (ns:List Int),ns.length<=n->Only H->SqL (K w.params) H a (ns.map V.int)->sp w [.ref a] H (fun v _=>v=.bl true) fun _ _ _=>False)
  (hCX:∀ (w:World) (H:Hp) (s:Shared) (e:Value) (s':Shared),CX w [] H s (fun _ _ _=>False) e s'->False) :
  PySem.W.WalkO q loose XP YP l.row.toRowW d [] (fun f vs=>PySem.call f vs):=by
 refine Att.attach_call hn hdf fun w s₀ s₁ mg mb fa o pm cd doc a vs ns G Y ho hd hcd hmg hobj hints hlen hg=>?_
 have KX:=hY w _ Y;obtain⟨fd,hb,hF⟩:=F w mg fa _ KX G.T.g hmg;exact law_call KX G.T.g G.T.b G.T.builtins G.T.nolimit hg hobj hints (Nat.le_trans hlen hn2) hr hF hb (fun H hO hS=>hsp w H a ns hlen hO hS) fun H e s'=>hCX w H s₁ e s'
end L2
namespace L2
open PySem PySem.Spec PyProof.Rows
noncomputable def defArgs (s:Stmt):Arguments:=match s with
 |.FunctionDef _ a _ _ _ _ _ _ _ _=>a
 |_=>{posonlyargs:=[],args:=[],vararg:=none,kwonlyargs:=[],kw_defaults:=[],kwarg:=none,defaults:=[]}
noncomputable def defBody (s:Stmt):List Stmt:=match s with
 |.FunctionDef _ _ b _ _ _ _ _ _ _=>b
 |_=>[]
noncomputable def defScope (s:Stmt):Scope:=match s with
 |.FunctionDef _ _ _ _ _ _ sc _ _ _=>sc
 |_=>{kind:=.function,names:=[],isGenerator:=false,isCoroutine:=false}
noncomputable abbrev CX0:CXT:=fun _ _ _ _ _ _=>False
noncomputable abbrev E0:XK:=fun _ _ _=>False
theorem pass0 {X:Cx}:Passes CX0 X E0:=fun _ _ _ _ _ _ _ h=>h.elim
structure Fun (K:PySem.W.Frag) (x qual:Str) (st:Stmt) (f:Addr) (fd:FuncData):Prop where
 ex:∃ (oc:Value) (od:Option Addr) (kV doc pm:Value) (an:Option Addr) (cdv ct:Value) (osl:Array (Option Value)),
  fd=PySem.W.fnOf x qual (defArgs st) (defBody st) (defScope st) .none kV doc pm an cdv ct/\K.lookup f=some ⟨oc,od,.func fd,osl⟩/\PySem.W.codeIn K cdv qual=true
 kp:PySem.W.keepIn K (.ref f)=true
section
variable {P:Program}{w:World}{K:PySem.W.Frag}{mg:Str->Option Value}{base:Heap}
theorem Fun.ok {x qual:Str}{st:Stmt}{f:Addr}{fd:FuncData}{N ps:List Str}{k:Nat}{sp:Sp} (F:Fun K x qual st f fd) (S:FnScope N ps (defScope st)) (len:∀ vs H Q E,sp vs H Q E->vs.length=ps.length)
  (hbody:∀ (cdv:Value) (A:Around) (outer:List Env) (s:Shared) (H:Hp) (vs:List V) (Q:VK) (E:XK),Room k (A.deeper (envOfC qual (defScope st) s.heap.objs.size f cdv))->sp vs H Q E ->
   ∃ t,PSs (cxOf CX0 P w K mg base N qual (defScope st) f cdv A outer s H E).nox (defBody st) t/\t {nx:=fun _ H'=>Q .non H',rt:=Q} (start N vs) H):FnOk P w K mg base CX0 (k+1) f fd ps sp:=by
 obtain⟨oc,od,kV,doc,pm,an,cdv,ct,osl,rfl,lk,hcd⟩:=F.ex;refine fn_of lk hcd S len fun A outer s H vs Q E hr hsp=>?_
 obtain⟨t,h,q⟩:=hbody cdv A outer s H vs Q E hr hsp;exact⟨t,h.nox,q⟩
theorem Fun.binds {x qual:Str}{st:Stmt}{f:Addr}{fd:FuncData}{ps:List Str} (F:Fun K x qual st f fd)
  (h:∀ (kV doc pm:Value) (an:Option Addr) (cdv ct:Value) (us:List Value),us.length=ps.length->bindArgs (PySem.W.fnOf x qual (defArgs st) (defBody st) (defScope st) .none kV doc pm an cdv ct) ⟨us,[]⟩=pure (ps.zip us)):Binds K fd ps []:=by
 obtain⟨oc,od,kV,doc,pm,an,cdv,ct,osl,rfl,lk,hcd⟩:=F.ex;exact .all (h kV doc pm an cdv ct)
theorem fun_mk {x qual:Str}{st:Stmt}{f:Addr}{oc:Value}{od an:Option Addr}{osl:Array (Option Value)}{kV doc pm cdv ct:Value} (l:K.lookup f=some ⟨oc,od,.func (PySem.W.fnOf x qual (defArgs st) (defBody st) (defScope st) .none kV doc pm an cdv ct),osl⟩)
  (c:PySem.W.codeIn K cdv qual=true) (k:PySem.W.keepIn K (.ref f)=true):Fun K x qual st f (PySem.W.fnOf x qual (defArgs st) (defBody st) (defScope st) .none kV doc pm an cdv ct):=⟨⟨oc,od,kV,doc,pm,an,cdv,ct,osl,rfl,l,c⟩,k⟩
end
theorem hu_of {A:Around}{k:Nat} (hr:Room k A):A.units+1<cLine:=Nat.lt_of_le_of_lt (Nat.add_le_add_left (by decide:1<=64) _) hr.units
theorem small1000 {n:Nat} (h:n<=1000):n<sizeLine:=Nat.lt_of_le_of_lt h (by decide)
section
variable {X:Cx}
end
noncomputable def Same (H H':Hp):Prop:=∀ b o,H b=some o->H' b=some o
theorem Same.refl (H:Hp):Same H H:=fun _ _ h=>h
theorem Same.trans {H H1 H2:Hp} (a:Same H H1) (b:Same H1 H2):Same H H2:=fun c o h=>b c o (a c o h)
theorem Same.free {H H':Hp} (e:Same H H') {l:Addr} (h:H' l=Option.none):H l=Option.none:=by
 cases q:H l with
 |none=>rfl
 |some o =>
  rw[e l o q] at h;cases h
theorem Same.seq {K:PySem.W.Frag}{H H':Hp}{a:Addr}{xs:List V} (e:Same H H') (h:SqL K H a xs):SqL K H' a xs:=by
 rcases h with (h | ⟨o,h⟩) | h
 ·exact .inl (.inl (e _ _ h))
 ·exact .inl (.inr ⟨o,e _ _ h⟩)
 ·exact .inr h
end L2
set_option maxRecDepth 100000
set_option maxRecDepth 100000
namespace L2
open PySem PySem.Spec PyProof.Rows
end L2
namespace L2
open PySem PySem.Spec PyProof.Rows
section
variable (P:Program) (w:World)
end
section
variable {P:Program}{w:World}{H H':Hp}{h h':Heap}{a:Addr}{o:HO}
end
section
variable {P:Program}{w:World}{H:Hp}{h h':Heap}{x e:Addr}{o':HO}
end
section
variable {fs fs' ex ex':List Addr}{H H1 H2:Hp}{h h1 h2 h':Heap}{a x e:Addr}{o:HO}
end
end L2
namespace L2
open PySem PySem.Spec PyProof.Rows
section
variable {X:Cx}{pins:List (Addr×Obj)}{σ:List (Option V)}{H H':Hp}{s:Shared}{h':Heap}
end
end L2
namespace L2
open PySem PySem.Spec PyProof.Rows
section
variable {X:Cx}
variable {a b:Expr}{ta tb:TE}{pos:Pos}
variable {tA tB':TT}{rest:List Expr}
end
end L2
namespace L2
open PySem PySem.Spec PyProof.Rows
section
variable {X:Cx}{pins:List (Addr×Obj)}{σ:St}{H:Hp}{s:Shared}{a:Addr}{xs ys:List V}
end
section
variable {X:Cx}{pins:List (Addr×Obj)}{σ:St}{H:Hp}{s:Shared}{E:Value->Shared->Prop}
end
section
variable {X:Cx}{st:Stmt}{rest:List Stmt}{t u:TS}{e:Expr}{te:TE}{pos:Pos}
end
section
variable {X:Cx}{pos:Pos}
end
section
variable {X:Cx}{pos:Pos}
end
end L2
namespace L2
open PySem PySem.Spec PyProof.Rows
section
variable {X:Cx}{tg:Expr}
end
end L2
namespace L2
open PySem PySem.Spec PyProof.Rows
section
variable {X:Cx}{a b c:Expr}{ta tb tc:TE}{pos:Pos}
end
section
variable {X:Cx}{a b c:Expr}{ta tb tc:TE}{pos:Pos}
end
end L2
namespace L2
open PySem PySem.Spec PyProof.Rows
section
variable {prog:Program}{w:World}{A:Around}{E:Value->Shared->Prop}{s:Shared}{K:PySem.W.Frag}{x dx C f:Addr}{mA:Str->Option Value}{name:Str}{v:Value}
end
section
variable {P:Program}{w:World}{H H':Hp}{h h':Heap}{a C dx:Addr}{fs fs':List (Str×V)}
end
section
variable {X:Cx}{pins:List (Addr×Obj)}{σ:St}{H:Hp}{s:Shared}{a C dx:Addr}{fs:List (Str×V)}{f:Str}{v:V}{A:Around}{E:Value->Shared->Prop}
end
section
variable {X:Cx}{o e value:Expr}{f:Str}{pos pos' tpos:Pos}{ta tv:TE}
end
section
variable {X:Cx}{pins:List (Addr×Obj)}{σ:St}{H:Hp}{s:Shared}{A:Around}{E:Value->Shared->Prop}{Q:Value->Shared->Prop}{c:Value}{b:Bool}
end
end L2
namespace L2
open PySem PySem.Spec PyProof.Rows
section
variable {X:Cx}{e:Expr}{es:List Expr}{te:TE}{t:TA}{pos:Pos}
end
section
variable {X:Cx}{pins:List (Addr×Obj)}{σ:St}{H:Hp}{s s':Shared}
end
section
variable {X:Cx}{CX:CXT}{k:Nat}{f C:Addr}{fd:FuncData}{ps:List Str}{sp:Sp}{dvs:List V}{ds:List Value}{E:XK}{x m:Str}{p pos apos:Pos}{e o:Expr}{es:List Expr}{ta:TE}{t:TA}
end
section
variable {X:Cx}{CX:CXT}{k:Nat}{f C:Addr}{fd:FuncData}{ps ks:List Str}{sp:Sp}{E:XK}{x m:Str}{p pos apos kpos:Pos}{e o:Expr}{es:List Expr}{kws:List Keyword}{te ta:TE}{t tk:TA}{nm:Option Str}
variable {g:List Value->List Value->List Value}{gV:List V->List V->List V}
end
end L2
namespace L2
open PySem PySem.Spec PyProof.Rows
section
variable {X:Cx}{x:Str}{p pos:Pos}{e:Expr}{es:List Expr}{t:TA}{id T:String}{r:List V->Hp->VK->Prop}
end
end L2
namespace L2
open PySem PySem.Spec PyProof.Rows
section
variable {κ:Type} [DecidableEq κ]
noncomputable def valV (kvs:List (κ×V)) (k:κ):Option V:=(kvs.find? fun kv=>decide (kv.1=k)).map (·.2)
noncomputable def putK (kvs:List (κ×V)) (k:κ) (v:V):List (κ×V) :=
 if (kvs.any fun kv=>decide (kv.1=k))=true then kvs.map (fun kv=>if kv.1=k then (kv.1,v) else kv) else kvs++[(k,v)]
noncomputable def dropK (kvs:List (κ×V)) (k:κ):List (κ×V):=kvs.filter fun kv=>decide (kv.1≠k)
theorem valV_pos {p:κ×V}{r:List (κ×V)}{k:κ} (e:p.1=k):valV (p::r) k=some p.2:=by simp[valV,List.find?_cons,e]
theorem valV_neg {p:κ×V}{r:List (κ×V)}{k:κ} (e:¬ p.1=k):valV (p::r) k=valV r k:=by simp[valV,List.find?_cons,e]
theorem valV_any (k:κ):∀ kvs:List (κ×V),(kvs.any fun kv=>decide (kv.1=k))=(valV kvs k).isSome
 |[]=>rfl
 |p::r=>by
  rw[List.any_cons]
  by_cases e:p.1=k
  ·simp only[valV_pos e,decide_eq_true e,Bool.true_or,Option.isSome_some]
  ·rw[valV_neg e,decide_eq_false e,Bool.false_or];exact valV_any k r
theorem valV_map (k j:κ) (y:V):∀ kvs:List (κ×V),valV (kvs.map fun kv=>if kv.1=k then (kv.1,y) else kv) j=(valV kvs j).map fun x=>if j=k then y else x
 |[]=>rfl
 |p::r=>by
  have ih:=valV_map k j y r;rw[List.map_cons]
  by_cases h:p.1=k
  ·rw[if_pos h]
   by_cases e:p.1=j
   ·rw[valV_pos (p:=(p.1,y)) e,valV_pos e,Option.map_some,if_pos (e.symm.trans h)]
   ·rw[valV_neg (p:=(p.1,y)) e,valV_neg e,ih]
  ·rw[if_neg h]
   by_cases e:p.1=j
   ·rw[valV_pos (p:=p) e,valV_pos e,Option.map_some,if_neg (fun z=>h (e.trans z))]
   ·rw[valV_neg (p:=p) e,valV_neg e,ih]
theorem valV_snoc (k j:κ) (y:V):∀ kvs:List (κ×V),valV kvs k=none->valV (kvs++[(k,y)]) j=if j=k then some y else valV kvs j
 |[],_=>by
  by_cases e:k=j
  ·rw[if_pos e.symm];exact valV_pos (p:=(k,y)) e
  ·rw[if_neg (fun z=>e z.symm)];exact valV_neg (p:=(k,y)) e
 |p::r,hn=>by
  rw[List.cons_append];have hk:¬ p.1=k:=fun z=>by rw[valV_pos z] at hn;cases hn
  rw[valV_neg hk] at hn;have ih:=valV_snoc k j y r hn
  by_cases e:p.1=j
  ·rw[valV_pos e,valV_pos e,if_neg (fun z=>hk (e.trans z))]
  ·rw[valV_neg e,valV_neg e,ih]
theorem valV_put (kvs:List (κ×V)) (k j:κ) (y:V):valV (putK kvs k y) j=if j=k then some y else valV kvs j:=by
 unfold putK
 by_cases a:(kvs.any fun kv=>decide (kv.1=k))=true
 ·rw[if_pos a,valV_map]
  rw[valV_any] at a
  by_cases e:j=k
  ·obtain⟨x,hx⟩:=Option.isSome_iff_exists.mp a
   rw[if_pos e,e,hx,Option.map_some,if_pos rfl]
  ·rw[if_neg e]
   cases valV kvs j with
   |none=>rfl
   |some x=>rw[Option.map_some,if_neg e]
 ·rw[if_neg a]
  refine valV_snoc k j y kvs ?_;rw[valV_any] at a;cases q:valV kvs k with
  |none=>rfl
  |some x=>rw[q] at a;exact (a rfl).elim
theorem length_putK (kvs:List (κ×V)) (k:κ) (v:V):(putK kvs k v).length<=kvs.length+1:=by
 unfold putK
 split
 ·rw[List.length_map];omega
 ·rw[List.length_append,List.length_cons,List.length_nil];omega
theorem RelO.isSome_eq {o:Option V}{u:Option Value} (r:RelO o u):o.isSome=u.isSome:=by
 cases o with
 |none=>cases u with
  |none=>rfl
  |some _=>exact (show False from r).elim
 |some _=>cases u with
  |none=>exact (show False from r).elim
  |some _=>rfl
theorem RelO.getD {o:Option V}{u:Option Value}{d:V}{d':Value} (r:RelO o u) (rd:RelV d d'):RelV (o.getD d) (u.getD d'):=by
 cases o with
 |none=>cases u with
  |none=>exact rd
  |some _=>exact (show False from r).elim
 |some _=>cases u with
  |none=>exact (show False from r).elim
  |some _=>exact r
theorem KV.val {kvs:List (κ×V)}{vs:List (κ×Value)} (r:KV kvs vs) (k:κ):RelO (valV kvs k) (valueAt vs k):=by
 unfold KV at r
 induction r with
 |nil=>exact True.intro
 |@cons p q ps qs h t ih =>
  obtain⟨h1,h2⟩:=h
  by_cases e:p.1=k
  ·have e':q.1=k:=h1.symm.trans e
   have b:valueAt (q::qs) k=some q.2:=by simp[valueAt,List.find?_cons,e']
   rw[valV_pos e,b];exact h2
  ·have e':¬ q.1=k:=fun z=>e (h1.trans z)
   have b:valueAt (q::qs) k=valueAt qs k:=by simp[valueAt,List.find?_cons,e']
   rw[valV_neg e,b];exact ih
theorem KV.any {kvs:List (κ×V)}{vs:List (κ×Value)} (r:KV kvs vs) (k:κ):(kvs.any fun kv=>decide (kv.1=k))=vs.any fun kv=>decide (kv.1=k):=by
 unfold KV at r
 induction r with
 |nil=>rfl
 |cons h t ih=>rw[List.any_cons,List.any_cons,ih,h.1]
theorem KV.repl {kvs:List (κ×V)}{vs:List (κ×Value)} (r:KV kvs vs) (k:κ) {y:V}{u:Value} (ry:RelV y u) :
  KV (kvs.map fun kv=>if kv.1=k then (kv.1,y) else kv) (vs.map fun kv=>if kv.1=k then (kv.1,u) else kv):=by
 unfold KV at r ⊢
 induction r with
 |nil=>exact .nil
 |@cons p q ps qs h t ih =>
  rw[List.map_cons,List.map_cons];refine .cons ?_ ih;obtain⟨h1,h2⟩:=h
  by_cases e:p.1=k
  ·rw[if_pos e,if_pos (h1.symm.trans e)];exact⟨h1,ry⟩
  ·rw[if_neg e,if_neg (fun z=>e (h1.trans z))];exact⟨h1,h2⟩
theorem KV.put {kvs:List (κ×V)}{vs:List (κ×Value)} (r:KV kvs vs) (k:κ) {y:V}{u:Value} (ry:RelV y u):KV (putK kvs k y) (stored vs k u):=by
 unfold putK stored;rw[r.any k]
 by_cases e:(vs.any fun kv=>decide (kv.1=k))=true
 ·rw[if_pos e,if_pos e];exact r.repl k ry
 ·rw[if_neg e,if_neg e];exact Paired.snoc r ⟨rfl,ry⟩
theorem KV.drop {kvs:List (κ×V)}{vs:List (κ×Value)} (r:KV kvs vs) (k:κ):KV (dropK kvs k) (without vs k):=by
 unfold KV at r ⊢;unfold dropK without
 induction r with
 |nil=>exact .nil
 |@cons p q ps qs h t ih =>
  obtain⟨h1,h2⟩:=h;rw[List.filter_cons,List.filter_cons]
  by_cases e:p.1=k
  ·have a:¬ decide (p.1≠k)=true:=by simp[e]
   have b:¬ decide (q.1≠k)=true:=by simp[h1.symm.trans e]
   rw[if_neg a,if_neg b];exact ih
  ·have e':¬ q.1=k:=fun z=>e (h1.trans z)
   have a:decide (p.1≠k)=true:=by simp[e]
   have b:decide (q.1≠k)=true:=by simp[e']
   rw[if_pos a,if_pos b];exact .cons ⟨h1,h2⟩ ih
theorem KV.keys {kvs:List (κ×V)}{vs:List (κ×Value)} (r:KV kvs vs):kvs.map (·.1)=vs.map (·.1):=by
 unfold KV at r
 induction r with
 |nil=>rfl
 |cons h t ih=>rw[List.map_cons,List.map_cons,ih,h.1]
theorem KV.length {kvs:List (κ×V)}{vs:List (κ×Value)} (r:KV kvs vs):kvs.length=vs.length:=Paired.length r
end
theorem kV_is {P:Program}{w:World}{k:Key}{u:Value} (r:RelV (kV k) u):(mixKind P w).is k u=true:=by
 cases k with
 |inl i=>obtain⟨t,e⟩:=(show ∃ t,u=Value.int i t from r);subst e;exact mixKind_int P w i t
 |inr x=>obtain⟨t,e⟩:=(show ∃ t,u=Value.str x t from r);subst e;exact mixKind_str P w x t
theorem items_are {P:Program}{w:World}:∀ {ks:List Key}{us:List Value},Vals (ks.map kV) us->ItemsAre (mixKind P w) ks us
 |[],_,r=>by rw[List.map_nil] at r;cases r;exact .nil
 |k::ks,_,r=>by
  rw[List.map_cons] at r;cases r with
  |cons h t=>exact .cons (kV_is h) (items_are t)
noncomputable abbrev KT (H:Hp):List (List Key×V)->List (List Key×Addr×Value)->Prop:=Paired fun p q=>p.1=q.1/\H q.2.1=some (.tup (p.1.map kV))/\RelV p.2 q.2.2
theorem KT.val {H:Hp}{kvs:List (List Key×V)}{xs:List (List Key×Addr×Value)} (r:KT H kvs xs) (k:List Key):RelO (valV kvs k) ((atKey xs k).map (·.2)):=by
 induction r with
 |nil=>exact True.intro
 |@cons p q ps qs h t ih =>
  obtain⟨h1,_,h2⟩:=h
  by_cases e:p.1=k
  ·have e':q.1=k:=h1.symm.trans e
   have b:atKey (q::qs) k=some q.2:=by simp[atKey,List.find?_cons,e']
   rw[valV_pos e,b];exact h2
  ·have e':¬ q.1=k:=fun z=>e (h1.trans z)
   have b:atKey (q::qs) k=atKey qs k:=by simp[atKey,List.find?_cons,e']
   rw[valV_neg e,b];exact ih
theorem KT.repl {H:Hp}{kvs:List (List Key×V)}{xs:List (List Key×Addr×Value)} (r:KT H kvs xs) (k:List Key) {y:V}{u:Value} (ry:RelV y u) :
  KT H (kvs.map fun kv=>if kv.1=k then (kv.1,y) else kv) (xs.map (putAt k u)):=by
 induction r with
 |nil=>exact .nil
 |@cons p q ps qs h t ih =>
  rw[List.map_cons,List.map_cons];refine .cons ?_ ih;obtain⟨h1,h2,h3⟩:=h;unfold putAt
  by_cases e:p.1=k
  ·rw[if_pos e,if_pos (h1.symm.trans e)];exact⟨h1,h2,ry⟩
  ·rw[if_neg e,if_neg (fun z=>e (h1.trans z))];exact⟨h1,h2,h3⟩
theorem KT.put {H:Hp}{kvs:List (List Key×V)}{xs:List (List Key×Addr×Value)} (r:KT H kvs xs) (k:List Key) {b:Addr}{y:V}{u:Value} (hb:H b=some (.tup (k.map kV))) (ry:RelV y u) :
  KT H (putK kvs k y) (storedH xs k b u):=by
 have e:(kvs.any fun kv=>decide (kv.1=k))=(atKey xs k).isSome:=by
  rw[valV_any,(r.val k).isSome_eq,Option.isSome_map]
 unfold putK storedH;rw[e]
 by_cases q:(atKey xs k).isSome=true
 ·rw[if_pos q,if_pos q];exact r.repl k ry
 ·rw[if_neg q,if_neg q];exact Paired.snoc r ⟨rfl,hb,ry⟩
theorem KT.keeps {H H':Hp}{kvs:List (List Key×V)}{xs:List (List Key×Addr×Value)} (r:KT H kvs xs) (ht:∀ b ys,H b=some (.tup ys)->H' b=some (.tup ys)):KT H' kvs xs :=
 Paired.mapP r fun _ _ z=>⟨z.1,ht _ _ z.2.1,z.2.2⟩
section
variable {P:Program}{w:World}{H:Hp}{h:Heap}{a:Addr}
theorem key_of {ks:List Key} (ok:HOk P w H h) (e:H a=some (.tup (ks.map kV))):(tupleKind (mixKind P w)).is h ks a:=by
 obtain⟨_,its,r,o,h1,h2,⟨n,h3⟩,_⟩:=(show ObjOk P w H h a (.tup (ks.map kV)) from ok a _ e);exact⟨o,its.toArray,n,h1,h2,h3,by simpa using items_are r⟩
end
noncomputable def DGet (H:Hp) (a:Addr) (y:V) (r:Option V):Prop :=
 (∃ kvs k,Rd H a (.dK kvs)/\y=kV k/\r=valV kvs k)\/∃ kvs k b,Rd H a (.dT kvs)/\y=.ref b/\H b=some (.tup (k.map kV))/\r=valV kvs k
noncomputable def DPut (H:Hp) (a:Addr) (y v:V) (H':Hp):Prop :=
 (∃ kvs k,H a=some (.dK kvs)/\y=kV k/\kvs.length<sizeLine/\H'=upd H a (.dK (putK kvs k v))) \/
 ∃ kvs k b,H a=some (.dT kvs)/\y=.ref b/\H b=some (.tup (k.map kV))/\kvs.length<sizeLine/\H'=upd H a (.dT (putK kvs k v))
section
variable {X:Cx}{pins:List (Addr×Obj)}{σ:St}{H:Hp}{s:Shared}{a:Addr}{y v:V}{u r:Value}{o:Option V}{A:Around}{E:Value->Shared->Prop}
theorem Inv.big (I:Inv X pins σ H s):sysModules<s.heap.objs.size:=by
 have h:mainGlobals<s.heap.objs.size:=(I.mod.glob.keeps I.bk).lt;exact Nat.lt_trans (by decide) h
theorem d_write {h':Heap}{t':Nat}{ob:HO} (I:Inv X pins σ H s) (mu:Mut (H a)) (hs:Heap.SameBut a s.heap h') (he:∃ q,h'.get? a=some q) (new:ObjOk X.prog X.w (upd H a ob) h' a ob) :
  Inv X pins σ (upd H a ob) {s with heap:=h',toks:=t'} :=
 I.write (x:=a) (e:=a) mu (.inl rfl) (fun b q hb z=>(hs.2 b hb).trans z) he new
end
section
variable {X:Cx}{pins:List (Addr×Obj)}{σ:St}{H:Hp}{s:Shared}{a:Addr}{kvs:List (Key×V)}{k:Key}{u:Value}{A:Around}{E:Value->Shared->Prop}
end
noncomputable def NoSl (i:Expr):Prop:=∀ ov iv,subscripted i false ov iv=operate [ov,iv] (getItem ov iv)
theorem subD_of {prog:Program}{w:World}{A:Around}{E:Value->Shared->Prop}{s:Shared}{env:Env}{value slice:Expr}{pos:Pos}{T id:String}{Q:Value->Shared->Prop}
  (hl:typeLookup (.type T) "__getitem__"=pure (some (.builtin id))) (hs:NoSl slice)
  (h:wpAny (model prog w) A (eval value env) (fun o s₁=>wpAny (model prog w) A (eval slice env) (fun i s₂=>s₂.TypeIs o T/\wpAny (model prog w) A (getItem o i) Q E s₂) E s₁) E s) :
  wpAny (model prog w) A (eval (.Subscript value slice pos) env) Q E s:=by
 refine Subscript_ (wpAny_mono h (fun o s₁ h₁=>wpAny_mono h₁ (fun i s₂ h₂=>?_) fun _ _ x=>x) fun _ _ x=>x)
 obtain⟨hT,h₂⟩:=h₂;unfold subscriptTail;refine wpAny_bind ?_;rw[getitemInPython_of_ne hT.not_modules];refine wpAny_bind (wpAny_specialOf hT hl ?_)
 have fin:wpAny (model prog w) A (subscripted slice false o i) (fun r s₃=>wpAny (model prog w) A (letTemporaryGo value o r >>= fun _=>pure r) Q E s₃) E s₂:=by
  rw[hs o i];exact wpAny_operating (wpAny_mono h₂ (fun r s₃ h₃=>wpAny_bind (wpAny_letTemporaryGo (wpAny_pure h₃))) fun _ _ x=>x)
 first
  |exact wpAny_pure (wpAny_bind fin)
  |exact wpAny_bind (wpAny_pure (wpAny_bind fin))
  |exact wpAny_bind fin
section
variable {X:Cx}{o i e value:Expr}{pos pos' tpos:Pos}{td ty tv:TE}
end
section
variable {X:Cx}{pos:Pos}
end
structure M1 (X:Cx) (o:Expr) (m:Str) (apos:Pos) (e:Expr) (cpos:Pos):Prop where
 base:attributeBase o m X.env (eval o X.env)=eval o X.env
 few:((backTo cpos (starEach [e] X.env)).all (fun x=>!x.1)&&(backToKw cpos (keywordEach [] X.env)).all (fun x=>x.1.isSome)
  && decide (([e]:List Expr).length+([]:List Keyword).length+(if ([]:List Keyword).isEmpty then 0 else 1)<30))=true
 line:(apos.endLine==cpos.line)=true
 trees:backTo cpos (starEach [e] X.env)=[(false,eval e X.env)]
structure M2 (X:Cx) (o:Expr) (m:Str) (apos:Pos) (e f:Expr) (cpos:Pos):Prop where
 base:attributeBase o m X.env (eval o X.env)=eval o X.env
 few:((backTo cpos (starEach [e,f] X.env)).all (fun x=>!x.1)&&(backToKw cpos (keywordEach [] X.env)).all (fun x=>x.1.isSome)
  && decide (([e,f]:List Expr).length+([]:List Keyword).length+(if ([]:List Keyword).isEmpty then 0 else 1)<30))=true
 line:(apos.endLine==cpos.line)=true
 trees:backTo cpos (starEach [e,f] X.env)=[(false,eval e X.env),(false,eval f X.env)]
section
variable {X:Cx}{pins:List (Addr×Obj)}{σ:St}{H:Hp}{s:Shared}{a:Addr}{y d:V}{u r:Value}{o:Option V}{A:Around}{E:Value->Shared->Prop}
end
section
variable {X:Cx}{o e f:Expr}{apos cpos:Pos}{td ty tx:TE}
end
section
variable {X:Cx}{pins:List (Addr×Obj)}{σ:St}{H:Hp}{s:Shared}{a:Addr}{kvs:List (Key×V)}{A:Around}{E:Value->Shared->Prop}
end
section
variable {X:Cx}{pins:List (Addr×Obj)}{σ:St}{H:Hp}{s:Shared}{a:Addr}{y:V}{u:Value}{A:Around}{E:Value->Shared->Prop}
end
end L2
namespace Att
open PySem PySem.W PySem.Calls PyProof.Rows
section
variable {prog:Program}{w:World}{A:Around}{E:Value->Shared->Prop}{s:Shared}{K:Frag}
end
end Att
namespace L2
open PySem PySem.Spec PyProof.Rows
end L2
namespace L2
open PySem PySem.Spec PyProof.Rows
end L2
namespace L2
open PySem PySem.Spec PyProof.Rows
section
variable {P:Program}{w:World}{K:PySem.W.Frag}{mg:Str->Option Value}{base:Heap}
end
section
variable {X:Cx}
end
section
variable {κ:Type} [DecidableEq κ]
theorem nd_snoc:∀ {l:List κ}{k:κ},l.Nodup->¬ k∈l->(l++[k]).Nodup
 |[],k,_,_=>by simp
 |a::r,k,h,hk=>by
  obtain⟨h1,h2⟩:=List.nodup_cons.mp h;show (a::(r++[k])).Nodup;refine List.nodup_cons.mpr ⟨fun m=>?_,nd_snoc h2 fun m=>hk (List.mem_cons.mpr (Or.inr m))⟩
  rcases List.mem_append.mp m with q | q
  ·exact h1 q
  ·exact hk (List.mem_cons.mpr (Or.inl (List.mem_singleton.mp q).symm))
end
end L2
set_option maxRecDepth 100000
namespace L2
open PySem PySem.Spec PyProof.Rows
theorem ne_lt {a b:Addr}{n:Nat} (h:a<n) (h':n<=b):a≠b:=Nat.ne_of_lt (Nat.lt_of_lt_of_le h h')
theorem ne_lt' {a b:Addr}{n:Nat} (h:a<n) (h':n<=b):b≠a:=(ne_lt h h').symm
noncomputable def clOf (cells:List (Str×Addr)):List (Str×NameKind)->List (Str×Addr)->List (Str×Addr)
 |[],acc=>acc
 |(n,k)::r,acc=>clOf cells r (if (k==NameKind.free)=true then (n,(cells.lookup n).getD 0)::acc else acc)
theorem closure_go {env:Env}:∀ (l:List (Str×NameKind)) (acc:List (Str×Addr)),(∀ y∈l,y.2=.free->∃ c,env.cells.lookup y.1=some c) ->
  (forIn l acc fun (y:Str×NameKind) (cs:List (Str×Addr))=>(match y with
   |(name,kind)=>if (kind==NameKind.free)=true then do let c <- cellOf env name;pure (ForInStep.yield ((name,c)::cs)) else pure (ForInStep.yield cs):Sem _))=pure (clOf env.cells l acc)
 |[],acc,_=>rfl
 |(n,k)::r,acc,h=>by
  rw[List.forIn_cons];unfold clOf
  by_cases e:(k==NameKind.free)=true
  ·have e':k=NameKind.free:=by simpa using e
   obtain⟨c,hc⟩:=h (n,k) List.mem_cons_self e';simp only[e,if_true,cellOf,hc,pure_bind,Option.getD_some];exact closure_go r _ fun y hy=>h y (List.mem_cons_of_mem _ hy)
  ·simp only[e,if_false,pure_bind]
   exact closure_go r _ fun y hy=>h y (List.mem_cons_of_mem _ hy)
theorem closure_eq {sc:Scope}{env:Env} (h:∀ y∈sc.names,y.2=.free->∃ c,env.cells.lookup y.1=some c):closureFor sc env=pure (clOf env.cells sc.names []):=by
 have e:=closure_go (env:=env) sc.names [] h;simp only[closureFor];exact (bind_pure _).trans e
theorem clOf_sub {cells:List (Str×Addr)}{y:Str}{c:Addr}:∀ (l:List (Str×NameKind)) (acc:List (Str×Addr)),(∀ y∈l,y.2=.free->∃ c,cells.lookup y.1=some c) ->
  (clOf cells l acc).lookup y=some c->cells.lookup y=some c\/acc.lookup y=some c
 |[],acc,_,e=>.inr e
 |(n,k)::r,acc,h,e=>by
  unfold clOf at e;have hr:∀ y∈r,y.2=.free->∃ c,cells.lookup y.1=some c:=fun y hy=>h y (List.mem_cons_of_mem _ hy)
  rcases clOf_sub r _ hr e with q | q
  ·exact .inl q
  ·by_cases z:(k==NameKind.free)=true
   ·rw[if_pos z] at q
    rw[List.lookup_cons] at q;cases hb:y==n with
    |true =>
     rw[hb] at q;obtain⟨c',hc'⟩:=h (n,k) List.mem_cons_self (by simpa using z)
     have hc'':cells.lookup n=some c':=hc';rw[hc''] at q;have e1:y=n:=by simpa using hb
     have q':c'=c:=Option.some.inj q;exact .inl (by rw[e1,hc'',q'])
    |false =>
     rw[hb] at q;exact .inr q
   ·rw[if_neg z] at q
    exact .inr q
theorem clOf_has {cells:List (Str×Addr)}{y:Str}:∀ (l:List (Str×NameKind)) (acc:List (Str×Addr)),((y,NameKind.free)∈l\/∃ c,acc.lookup y=some c)->∃ c,(clOf cells l acc).lookup y=some c
 |[],acc,h=>by
  rcases h with h | h
  ·cases h
  ·exact h
 |(n,k)::r,acc,h=>by
  unfold clOf
  have grow:∀ v:Addr,(∃ c,acc.lookup y=some c)->∃ c,((n,v)::acc).lookup y=some c:=fun v hh0_=>by
   obtain⟨c,hc⟩:=hh0_;rw[List.lookup_cons];cases y==n with
   |true=>exact⟨v,rfl⟩
   |false=>exact⟨c,hc⟩
  rcases h with h | h
  ·rcases List.mem_cons.mp h with e | h
   ·have e1:y=n:=congrArg Prod.fst e
    have e2:NameKind.free=k:=congrArg Prod.snd e;subst e1 e2;refine clOf_has r _ (.inr ?_);rw[if_pos (by rfl)]
    refine⟨(cells.lookup y).getD 0,?_⟩;rw[List.lookup_cons];simp
   ·exact clOf_has r _ (.inl h)
  ·refine clOf_has r _ (.inr ?_)
   split
   ·exact grow _ h
   ·exact h
theorem relab_mem {scope:Scope}{env:Env}{y:Str}{k:NameKind} (hc:∀ z∈scope.names,z.2≠.cell) (h:(relabel scope env).names.lookup y=some k) (hk:k=.cell\/k=.free):(y,NameKind.free)∈scope.names:=by
 have m:=PySem.mem_of_lookup h;unfold relabel at m;obtain⟨⟨n,k'⟩,hm,e⟩:=List.mem_map.mp m;dsimp only at e
 split at e
 ·rename_i z
  have e1:n=y:=congrArg Prod.fst e
  have z1:k'=NameKind.free:=by
   simp only[Bool.and_eq_true] at z
   simpa using z.1.1
  subst e1 z1;exact hm
 ·have e1:n=y:=congrArg Prod.fst e
  have e2:k'=k:=congrArg Prod.snd e;subst e1 e2
  rcases hk with z | z
  ·exact absurd z (hc _ hm)
  ·rw[z] at hm;exact hm
theorem relab_free {env:Env} (hf:env.scope.kind=.function):∀ {names:List (Str×NameKind)}{y:Str},names.lookup y=some .free->env.kindOf y=some .cell ->
  (names.map fun (n,k)=>if (k==NameKind.free&&env.scope.kind==.function&&env.kindOf n==some .cell) then (n,NameKind.cell) else (n,k)).lookup y=some .cell
 |[],_,h,_=>by simp at h
 |(n,k)::r,y,h,hk=>by
  have ih:=@relab_free env hf r y;rw[List.map_cons];cases hy:y==n with
  |true =>
   have e:y=n:=by simpa using hy
   subst e;rw[List.lookup_cons,hy] at h;have h':k=NameKind.free:=Option.some.inj h;subst h';simp[hf,hk,List.lookup_cons]
  |false =>
   rw[List.lookup_cons,hy] at h;show List.lookup y ((if (k==NameKind.free&&env.scope.kind==.function&&env.kindOf n==some .cell)=true then (n,NameKind.cell) else (n,k))::_)=_
   by_cases z:(k==NameKind.free&&env.scope.kind==.function&&env.kindOf n==some .cell)=true
   ·rw[if_pos z,List.lookup_cons,hy];exact ih h hk
   ·rw[if_neg z,List.lookup_cons,hy];exact ih h hk
structure ScB (N:List Str) (sc scope:Scope) (x:Str) (frees:List Str) (js:List Nat):Prop where
 kind:scope.kind=.function
 fk:sc.kind=.function
 cells:∀ y∈scope.names,y.2≠.cell
 locs:∀ y∈scope.names,y.2=.local->scope.names.lookup y.1=some .local
 own:scope.names.lookup x=some .local
 fr:∀ y∈scope.names,y.2=.free->sc.names.lookup y.1=some .cell
 nd:(x::frees).Nodup
 ln:frees.length=js.length
 zp:∀ p∈frees.zip js,N[p.2]?=some p.1/\sc.names.lookup p.1=some .cell/\scope.names.lookup p.1=some .free
noncomputable def cxB (X:Cx) (N:List Str) (scope:Scope) (s:Shared) (H:Hp) (C:Addr) (fp:List Addr):Cx where
 prog:=X.prog
 w:=X.w
 K:=X.K
 mg:=X.mg
 base:=X.base
 A:=X.A
 N:=N
 s₀:=s
 H₀:=H
 env:=compEnvC scope (clOf X.env.cells scope.names []) C X.env
 outer:=X.stack
 stack:=X.stack
 ex:=fp
 fn:=fun _=>false
 calm:=X.calm
 pn:=[]
 xe:=fun _ _=>False
noncomputable def frv (σ:St) (js:List Nat):St:=js.map fun j=>(σ[j]?).join
noncomputable def PTs (X:Cx) (ifs:List Expr) (t:TT):Prop :=
 ∀ (pins:List (Addr×Obj)) (s:Shared) (σ:St) (H:Hp) (Q:Bool->Hp->Prop),Inv X pins σ H s->t σ H Q ->
  wpAny (model X.prog X.w) X.A (forIn ifs true fun c r=>if r=true then do let ok <- isTrue c X.env (eval c X.env);pure (ForInStep.yield ok) else pure (ForInStep.yield r)) (TP X pins σ Q) X.xe s
noncomputable def tYes:TT:=fun _ H Q=>Q true H
theorem pts_nil {X:Cx}:PTs X [] tYes:=fun _ _ _ H _ I h=>wpAny_tests_nil ⟨H,I,h⟩
noncomputable def LcW (js:List Nat) (tt:TT) (te:TE) (σ:St) (Q:List V->Hp->Prop) (J:It) (H1:Hp):Prop :=
 ∃ W:Nat->Nat->List V->Hp->Prop,(∃ m,W 0 m [] H1)/\∀ i m ys H,W i m ys H ->
  (J.stop i H/\ys.length<=sizeLine/\Q ys H) \/
  (J.go i H/\ys.length<sizeLine/\∀ x H',J.yld i H x H'->tt (some x::frv σ js) H' fun b H2 =>
   if b=true then te (some x::frv σ js) H2 fun v H3=>∃ m',m'<m/\W (i+1) m' (ys++[v]) H3 else ∃ m',m'<m/\W (i+1) m' ys H2)
section
variable {X:Cx}{pins:List (Addr×Obj)}{σ:St}{H:Hp}{s:Shared}{x:Str}{scope sc:Scope}{frees:List Str}{js:List Nat}
theorem lcells (I:Inv X pins σ H s) (hsc:X.env.scope=sc) (B:ScB X.N sc scope x frees js):∀ y∈scope.names,y.2=.free->∃ c,X.env.cells.lookup y.1=some c:=fun y hy hf =>
 I.ok.has y.1 (.inl (show X.env.scope.names.lookup y.1=some .cell by rw[hsc];exact B.fr y hy hf))
theorem zip_get {α β:Type}:∀ {l:List α}{r:List β}{k:Nat}{a:α},l.length=r.length->l[k]?=some a->∃ b,r[k]?=some b/\(a,b)∈l.zip r
 |[],_,_,_,_,h=>by simp at h
 |_::_,[],_,_,hl,_=>by simp at hl
 |a'::l,b'::r,0,a,_,h=>by
  simp at h;subst h;exact⟨b',rfl,by simp⟩
 |a'::l,b'::r,k+1,a,hl,h=>by
  obtain⟨b,h1,h2⟩:=zip_get (l:=l) (r:=r) (k:=k) (a:=a) (by simpa using hl) (by simpa using h)
  exact⟨b,by simpa using h1,by rw[List.zip_cons_cons];exact List.mem_cons_of_mem _ h2⟩
theorem blk_start {fp:List Addr}{h₁:Heap}{C D:Addr}{tk:Nat}{mC:Str->Option Value}{oD:Obj} (I:Inv X pins σ H s) (hsc:X.env.scope=sc) (B:ScB X.N sc scope x frees js) (hf:∀ b∈fp,FpOk X pins H b) (hfo:∀ b∈fp,b<s.heap.objs.size)
  (hC:s.heap.objs.size<=C) (hD:s.heap.objs.size<=D) (hDC:D≠C) (old:∀ b o,s.heap.get? b=some o->h₁.get? b=some o) (ns:h₁.Ns C mC) (gD:h₁.get? D=some oD) (nD:∀ v,oD.data≠.cell v) :
  Inv (cxB X (x::frees) scope s H C fp) (pins++[(D,oD)]) (none::frv σ js) H {s with heap:=h₁,toks:=tk}:=by
 have lc:=lcells I hsc B
 have sub:∀ y c,(clOf X.env.cells scope.names []).lookup y=some c->X.env.cells.lookup y=some c:=fun y c e=>by
  rcases clOf_sub scope.names [] lc e with q | q
  ·exact q
  ·cases q
 have cold:∀ y c,X.env.cells.lookup y=some c->c<s.heap.objs.size:=fun y c e=>by
  obtain⟨v,q⟩:=I.cell y c e;exact q.lt
 have fpC:∀ b∈fp,(b∈X.ex\/X.s₀.heap.objs.size<=b):=fun b hb=>(hf b hb).2.2.2.1
 obtain⟨m,hn,hl⟩:=I.loc;refine⟨⟨I.ok.mod,B.kind,I.ok.glob,I.ok.blt,hC,?_,?_,?_,I.ok.hd,I.ok.frames,.inl rfl,?_,?_,Nat.le_trans I.ok.bsz I.sz,?_,?_,I.stack,I.stkFree⟩,rfl,I.bare,Un.kept old,⟨mC,ns,?_⟩,?_,I.hok.fresh hC,?_,?_,I.hok.kept old,?_⟩
 ·exact fun y z c e1 e2=>I.ok.inj y z c (sub y c e1) (sub z c e2)
 ·intro y hy
  have hm:(y,NameKind.free)∈scope.names:=by
   rcases hy with q | q
   ·exact relab_mem (env:=X.env) B.cells q (.inl rfl)
   ·exact relab_mem (env:=X.env) B.cells q (.inr rfl)
  exact clOf_has scope.names [] (.inl hm)
 ·exact fun y c z _=>absurd z Bool.false_ne_true
 ·intro b hb
  refine⟨fun z=>?_,fun y c e z=>(hf b hb).2.2.2.2.1 y c (sub y c e) z⟩
  have z':b=C:=z;exact absurd (Nat.lt_of_lt_of_le (hfo b hb) hC) (by rw[z'];exact Nat.lt_irrefl _)
 ·exact fun b o e=>I.bs b o e
 ·intro b o e hb
  rcases fpC b hb with z | z
  ·exact I.ok.noex b o e z
  ·exact absurd (Nat.lt_of_lt_of_le (Heap.lt_size (I.ok.bs b o e).1) z) (Nat.lt_irrefl _)
 ·intro b hb z
  rcases List.mem_cons.mp (I.stkSub b z) with e | e
  ·exact (hf b hb).2.1 e
  ·exact (hf b hb).2.2.1 e
 ·intro i y v e1 e2 e3
  cases i with
  |zero=>simp at e2
  |succ k =>
   have e1':frees[k]?=some y:=by
    have e0:(x::frees)[k+1]?=some y:=e1
    simpa using e0
   obtain⟨j,hj,hz⟩:=zip_get B.ln e1';obtain⟨z1,z2,z3⟩:=B.zp _ hz;have e2':(frv σ js)[k]?=some (some v):=by simpa using e2
   have e4:σ[j]?=some (some v):=by
    unfold frv at e2';rw[List.getElem?_map,hj] at e2';have e5:(σ[j]?).join=some v:=Option.some.inj e2';cases q:σ[j]? with
    |none=>rw[q] at e5;cases e5
    |some w'=>rw[q] at e5;cases w' with
     |none=>cases e5
     |some w2=>cases e5;rfl
   have kX:X.env.kindOf y=some .cell:=by show X.env.scope.names.lookup y=_;rw[hsc];exact z2
   obtain⟨u,r,q⟩:=hl j y v z1 e4 (.inr (.inl kX));refine⟨u,r,?_⟩
   rcases q with ⟨q,_⟩ | ⟨_,c,ec,ic⟩
   ·rw[kX] at q;cases q
   ·have kY:(compEnvC scope (clOf X.env.cells scope.names []) C X.env).kindOf y=some .cell:=relab_free (env:=X.env) (by rw[hsc];exact B.fk) z3 kX
    refine .inr ⟨.inl kY,c,?_,?_⟩
    ·obtain⟨c',ec'⟩:=clOf_has (cells:=X.env.cells) scope.names [] (.inl (PySem.mem_of_lookup z3))
     have:=sub y c' ec';rw[ec] at this;cases this;exact ec'
    ·obtain⟨o,ho,hd⟩:=ic
     exact⟨o,old c o ho,hd⟩
 ·intro y c e
  obtain⟨v,o,ho,hd⟩:=I.cell y c (sub y c e);exact⟨v,o,old c o ho,hd⟩
 ·exact fun y c e=>I.freeC y c (sub y c e)
 ·intro p hp
  have hp':p∈pins++[(D,oD)]:=by simpa [cxB] using hp
  rcases List.mem_append.mp hp' with z | z
  ·obtain⟨a1,a2,a3,a4,a5⟩:=I.pin p (List.mem_append_right _ z)
   refine⟨old _ _ a1,a2,fun e=>?_,fun e=>?_,a5⟩
   ·exact absurd (Nat.lt_of_lt_of_le (Heap.lt_size a1) hC) (by rw[show p.1=C from e];exact Nat.lt_irrefl _)
   ·rcases List.mem_cons.mp (I.stkSub p.1 e) with e | e
    ·exact a3 e
    ·exact a4 e
  ·have z':p=(D,oD):=by simpa using z
   subst z';refine⟨gD,I.hok.fresh hD,hDC,fun e=>?_,nD⟩
   rcases List.mem_cons.mp (I.stkSub D e) with e | e
   ·exact absurd (Nat.lt_of_lt_of_le I.lt hD) (by rw[show D=X.env.locals from e];exact Nat.lt_irrefl _)
   ·exact I.nofs hD e
 ·show (none::frv σ js).length=(x::frees).length
  rw[List.length_cons,List.length_cons,B.ln,frv,List.length_map]
end
theorem comp_turns {prog:Program}{w:World}{A:Around}{R:Result->Shared->Prop}{s:Shared}{elt target iter:Expr}{ifs:List Expr}{scope:Scope}{pos:Pos}{it acc:Value}{env:Env} (I:Nat->Shared->Prop)
  (turn:∀ n s,I n s->wpAny (model prog w) A (pyNext it) (fun r s1=>match r with
   |none=>R (.ok .next) s1
   |some v=>wpAny (model prog w) A (letOwnedTupleGo target it v) (fun _ s2=>wpAny (model prog w) A (assign target env v) (fun _ s3 =>
     wpAny (model prog w) A (forIn ifs true fun c r=>if r=true then do let ok <- isTrue c env (eval c env);pure (ForInStep.yield ok) else pure (ForInStep.yield r)) (fun ok s4 =>
      if ok=true then wpAny (model prog w) A (eval elt env) (fun y s5=>wpAny (model prog w) A (call (.builtin "list.append") [acc,y]) (fun _ s6=>∃ m,m<n ∧ I m s6) (fun _ _=>False) s5) (fun _ _=>False) s4
      else ∃ m,m<n/\I m s4) (fun _ _=>False) s3) (fun _ _=>False) s2) (fun _ _=>False) s1) (fun _ _=>False) s)
  (n:Nat) (h:I n s):codeAny (model prog w) A (.compLoop (.ListComp elt [⟨target,iter,ifs,0⟩] scope pos) 0 it acc env) R s:=by
 refine codeAny_loop rfl I (fun n s hI=>?_) n h
 show wpAny _ A ((compTurn (.ListComp elt [⟨target,iter,ifs,0⟩] scope pos) 0 it acc env).onRaise (fun x=>do noteFrame x env;theTreesLotGoes x)) _ _ s
 refine wpAny_noted ?_;rw[compTurn_list];refine wpAny_bind (wpAny_standAt (wpAny_bind (wpAny_mono (turn n s hI) (fun r s1 h1=>?_) fun _ _ z=>z.elim)))
 cases r with
 |none=>exact wpAny_pure h1
 |some v =>
  refine wpAny_bind (wpAny_mono h1 (fun _ s2 h2=>?_) fun _ _ z=>z.elim)
  refine wpAny_bind (wpAny_mono h2 (fun _ s3 h3=>?_) fun _ _ z=>z.elim)
  refine wpAny_bind (wpAny_mono h3 (fun ok s4 h4=>?_) fun _ _ z=>z.elim)
  cases ok with
  |false=>exact wpAny_pure ⟨rfl,h4⟩
  |true =>
   refine wpAny_bind (wpAny_bind (wpAny_mono h4 (fun y s5 h5=>?_) fun _ _ z=>z.elim))
   exact wpAny_bind (wpAny_mono h5 (fun _ s6 h6=>wpAny_pure (wpAny_pure ⟨rfl,h6⟩)) fun _ _ z=>z.elim)
section
variable {X:Cx}{pins:List (Addr×Obj)}{σ:St}{H:Hp}{s:Shared}{x:Str}{scope sc:Scope}{frees:List Str}{js:List Nat}{elt iter:Expr}{ifs:List Expr}{px pos:Pos}{tt:TT}{te:TE}{E:Value->Shared->Prop}
noncomputable abbrev lobj (its:List Value) (n:Nat):Obj:={cls:=.type "list",data:=.seq its.toArray n}
theorem lc_run {it:Addr}{fp:List Addr}{tn:Nat->Heap->Prop}{J:It}{Qe:List V->Hp->Prop}{RR:Value->Addr->Result->Shared->Prop} (I:Inv X pins σ H s) (hc:X.calm=true) (hsc:X.env.scope=sc) (B:ScB X.N sc scope x frees js)
  (T:Turn X.prog X.w X.K (.Name x px) J fp it tn) (st:tn 0 s.heap) (f:∀ b∈fp,FpOk X pins H b) (hW:LcW js tt te σ Qe J H)
  (ht:∀ s H C fp,PTs (cxB X (x::frees) scope s H C fp) ifs tt) (he:∀ s H C fp,PE (cxB X (x::frees) scope s H C fp) elt te)
  (hR:∀ (D C:Addr) (s':Shared) (H':Hp) (ys:List V) (its:List Value) (n:Nat),s.heap.objs.size<=D->s.heap.objs.size<=C->D≠C->Inv (cxB X (x::frees) scope s H C fp) pins (none::frv σ js) H' s'->H' D=none ->
   Vals ys its->s'.heap.get? D=some (lobj its n)->ys.length<=sizeLine->Qe ys H'->RR (.ref D) C (.ok .next) s') :
  wpAny (model X.prog X.w) X.A (newList []) (fun acc s3=>wpAny (model X.prog X.w) X.A (newFunctionEnv scope X.env.globals (clOf X.env.cells scope.names []) [] X.env.qual none .none (some X.env)) (fun cenv s4 =>
   codeAny (model X.prog X.w) X.A (.compStart (.ListComp elt [⟨.Name x px,iter,ifs,0⟩] scope pos) 0 (.ref it) acc {cenv with scope:=relabel scope X.env}) (RR acc cenv.locals) s4) E s3) E s:=by
 obtain⟨W,⟨m0,w0⟩,turn⟩:=hW;refine wpAny_newObj_type (wpAny_newFunctionEnv B.cells (by intro y hy;simp at hy) (fun h₁ hns₁ hsb₁=>?_) B.kind)
 dsimp only at hns₁ hsb₁ ⊢
 generalize hG:s.heap.push {cls:=.type "list",dict:=none,data:=.seq ([]:List Value).toArray}=G at hns₁ hsb₁ ⊢
 have hC0:G.objs.size=s.heap.objs.size+1:=by rw[<- hG,Heap.size_push]
 have hCs0:s.heap.objs.size<=G.objs.size:=by rw[hC0];exact Nat.le_succ _
 have hDC0:s.heap.objs.size≠G.objs.size:=by rw[hC0];exact Nat.ne_of_lt (Nat.lt_succ_self _)
 obtain⟨C,hCe⟩:∃ C:Addr,C=G.objs.size:=⟨_,rfl⟩;obtain⟨D,hDe⟩:∃ D:Addr,D=s.heap.objs.size:=⟨_,rfl⟩;rw[<- hCe] at hns₁ hsb₁ hDC0 hCs0 ⊢;have hDs:s.heap.objs.size<=D:=by rw[hDe];exact Nat.le_refl _
 have hCs:s.heap.objs.size<=C:=hCs0;have hDC:D≠C:=by rw[hDe];exact hDC0
 have old:∀ b o,s.heap.get? b=some o->h₁.get? b=some o:=fun b o e=>by
  refine hsb₁.extBut b o (ne_lt (Heap.lt_size e) hCs) (Heap.get?_push_of_some _ ?_);rw[<- hG];exact Heap.get?_push_of_some _ e
 have gD:h₁.get? D=some (lobj [] 0):=by
  refine hsb₁.extBut D _ hDC (Heap.get?_push_of_some _ ?_);rw[<- hG,hDe];exact Heap.get?_push_size _ rfl
 have hfo:∀ b∈fp,b<s.heap.objs.size:=fun b hb=>by
  obtain⟨o,e,_⟩:=T.obj 0 _ st b hb;exact Heap.lt_size e
 show codeAny (model X.prog X.w) X.A (.compStart (.ListComp elt [⟨.Name x px,iter,ifs,0⟩] scope pos) 0 (.ref it) (.ref s.heap.objs.size) (compEnvC scope (clOf X.env.cells scope.names []) C X.env)) (RR (.ref s.heap.objs.size) C) _;rw[<- hDe];have nDf:D∉fp:=fun z=>ne_lt (hfo D z) hDs rfl
 have Y0:=blk_start (tk:=s.toks+([]:List (Str×Value)).length) (x:=x) I hsc B f hfo hCs hDs hDC old hns₁ gD (fun v z=>nomatch z)
 have tn0:tn 0 h₁:=T.keep 0 _ _ st fun b _ o e=>old b o e
 have sub:∀ y c,(clOf X.env.cells scope.names []).lookup y=some c->X.env.cells.lookup y=some c:=fun y c e=>by
  rcases clOf_sub scope.names [] (lcells I hsc B) e with q | q
  ·exact q
  ·cases q
 have pOld:∀ p∈pins,p.1<s.heap.objs.size:=fun p hp=>Heap.lt_size (I.pin p (List.mem_append_right _ hp)).1
 have stat:∀ {H':Hp}{o:Obj},(∀ b∈fp,H' b=none)->∀ b∈fp,FpOk (cxB X (x::frees) scope s H C fp) (pins++[(D,o)]) H' b:=fun {H' o} hn b hb=>by
  obtain⟨_,a2,a3,a4,a5,a6⟩:=f b hb;have lt:=hfo b hb;refine⟨hn b hb,?_,fun z=>?_,.inl hb,fun y c e=>a5 y c (sub y c e),fun p hp=>?_⟩
  ·exact ne_lt lt hCs
  ·rcases List.mem_cons.mp (I.stkSub b z) with e | e
   ·exact a2 e
   ·exact a3 e
  ·have hp':p∈pins++[(D,o)]:=by simpa [cxB] using hp
   rcases List.mem_append.mp hp' with z | z
   ·exact a6 p (List.mem_append_right _ z)
   ·have z':p=(D,o):=by simpa using z
    subst z';exact ne_lt' lt hDs
 have loop:∀ s3:Shared,s3={s with heap:=h₁,toks:=s.toks+([]:List (Str×Value)).length} ->
   codeAny (model X.prog X.w) X.A (.compLoop (.ListComp elt [⟨.Name x px,iter,ifs,0⟩] scope pos) 0 (.ref it) (.ref D) (compEnvC scope (clOf X.env.cells scope.names []) C X.env)) (RR (.ref D) C) s3:=by
  rintro s3 rfl;refine comp_turns (fun n s'=>∃ i ys its k H',Inv (cxB X (x::frees) scope s H C fp) (pins++[(D,lobj its k)]) (none::frv σ js) H' s'/\tn i s'.heap/\(∀ b∈fp,H' b=none)/\Vals ys its/\W i n ys H') ?_ m0
   ⟨0,[],[],0,H,Y0,tn0,fun b hb=>(f b hb).1,.nil,w0⟩
  rintro n s4 ⟨i,ys,its,k,H4,I4,tn4,fr4,rv,w4⟩
  have pD:∀ {pl:List (Addr×Obj)}{σ':St}{H':Hp}{s':Shared},Inv (cxB X (x::frees) scope s H C fp) (pins++[(D,lobj its k)]++pl) σ' H' s'->s'.heap.get? D=some (lobj its k)/\H' D=none:=fun I'=>by
   have q:=I'.pin (D,lobj its k) (List.mem_append_right _ (List.mem_append_left _ (List.mem_append_right _ List.mem_cons_self)));exact⟨q.1,q.2.1⟩
  have pins_only:∀ {pl:List (Addr×Obj)}{σ':St}{H':Hp}{s':Shared},Inv (cxB X (x::frees) scope s H C fp) (pins++pl) σ' H' s'->Inv (cxB X (x::frees) scope s H C fp) pins σ' H' s':=fun I'=>I'.unpinned
  rcases turn i n ys H4 w4 with ⟨stop,lz,qe⟩ | ⟨go,lz,step⟩
  ·refine thn (T.done (cxB X (x::frees) scope s H C fp) rfl rfl rfl hc i _ s4 _ H4 (fun _ _=>False) I4 (stat fr4) tn4 stop) fun r s5 hh0_=>?_
   obtain⟨hr,I5⟩:=hh0_;subst hr;have I5':Inv (cxB X (x::frees) scope s H C fp) (pins++[(D,lobj its k)]++[]) (none::frv σ js) H4 s5:=by simpa using I5
   exact hR D C s5 H4 ys its k hDs hCs hDC (pins_only I5) (pD I5').2 rv (pD I5').1 lz qe
  ·refine thn (T.item (cxB X (x::frees) scope s H C fp) rfl rfl rfl hc i _ s4 _ H4 (fun _ _=>False) I4 (stat fr4) tn4 go) fun r s5 hh0_=>?_
   obtain⟨u,hr,h5⟩:=hh0_;subst hr;refine thn h5 fun _ s6 hh0_=>?_
   obtain⟨y,H6,I6,r6,y6,tn6,fr6⟩:=hh0_;have I6':=I6.pinned (stat fr6) (T.obj _ _ tn6);have hx:Loc (cxB X (x::frees) scope s H C fp).env.scope x:=.inl (lookup_relabel_local B.own)
   have dfs:D∉(cxB X (x::frees) scope s H C fp).fs:=fun z=>by
    rcases List.mem_cons.mp (I.stkSub D z) with e | e
    ·exact ne_lt I.lt hDs e.symm
    ·exact I.nofs hDs e
   refine thn (pg_name (X:=cxB X (x::frees) scope s H C fp) (i:=0) B.nd rfl hx (.inr (lookup_relabel_local B.own)) _ s6 _ H6 y u (fun σ' H'=>σ'=some y::frv σ js/\tt σ' H' fun b H2 =>
    if b=true then te (some y::frv σ js) H2 fun v H3=>∃ m',m'<n/\W (i+1) m' (ys++[v]) H3 else ∃ m',m'<n/\W (i+1) m' ys H2) I6' r6 ⟨rfl,step y H6 y6⟩) fun _ s7 ⟨σ7,H7,I7,e7,q7⟩=>?_
   subst e7;have back:∀ {σ':St}{H':Hp}{s':Shared},Inv (cxB X (x::frees) scope s H C fp) (pins++[(D,lobj its k)]++pinsAt fp s6.heap) σ' H' s'->(∀ b∈fp,∀ o,s6.heap.get? b=some o->s'.heap.get? b=some o)/\∀ b∈fp,H' b=none:=fun {σ' H' s'} I' =>
    ⟨fun b hb o e=>(I'.pin (b,o) (List.mem_append_right _ (List.mem_append_right _ (mem_pinsAt hb e)))).1,fun b hb=>by
     obtain⟨o,e,_⟩:=T.obj _ _ tn6 b hb;exact (I'.pin (b,o) (List.mem_append_right _ (List.mem_append_right _ (mem_pinsAt hb e)))).2.1⟩
   have forget:∀ {pl:List (Addr×Obj)}{H':Hp}{s':Shared},Inv (cxB X (x::frees) scope s H C fp) pl (some y::frv σ js) H' s'->Inv (cxB X (x::frees) scope s H C fp) pl (none::frv σ js) H' s':=fun I' =>
    I'.weak rfl fun j v e=>by
     cases j with
     |zero=>simp at e
     |succ j=>simpa using e
   refine thn (ht s H C fp _ s7 _ H7 _ I7 q7) fun ok s8 hh0_=>?_
   obtain⟨H8,I8,q8⟩:=hh0_;cases ok with
   |false =>
    rw[if_neg Bool.false_ne_true] at q8 ⊢;obtain⟨m',hm,w8⟩:=q8;obtain⟨b1,b2⟩:=back I8;exact⟨m',hm,i+1,ys,its,k,H8,forget I8.unpinned,T.keep _ _ _ tn6 b1,b2,rv,w8⟩
   |true =>
    rw[if_pos rfl] at q8 ⊢;refine thn (he s H C fp _ s8 _ H8 _ I8 q8) fun v s9 hh0_=>?_
    obtain⟨vv,H9,I9,r9,m',hm,w9⟩:=hh0_;obtain⟨gD9,nD9⟩:=pD I9;obtain⟨b1,b2⟩:=back I9;have hlen:=rv.length;refine call_meets F.slot_list_append ⟨_,gD9,rfl⟩ F.entry_list_append (F.args_list_append_2 _ _) (PySem.list_append D its.toArray k v (by rw[List.size_toArray];omega)) ⟨gD9,?_⟩
    have ea:its.toArray.push v=(its++[v]).toArray:=by simp
    obtain⟨k',q⟩:∃ k',(s9.heap.update D (Obj.mapSeq (·.push v))).get? D=some (lobj (its++[v]) k'):=by
     have q0:=PySem.IsL.update gD9 (·.push v);rw[ea] at q0;exact⟨_,q0⟩
    have oth:∀ b o,b≠D->s9.heap.get? b=some o->(s9.heap.update D (Obj.mapSeq (·.push v))).get? b=some o:=fun b o hb e=>(Heap.get?_update_other s9.heap (Obj.mapSeq (·.push v)) (Ne.symm hb)).trans e
    have I10:Inv (cxB X (x::frees) scope s H C fp) pins (some y::frv σ js) H9 {s9 with heap:=s9.heap.update D (Obj.mapSeq (·.push v))} :=
     (pins_only I9.unpinned).turned (t':=s9.toks) (it:=D) oth nD9 hDC (.inr hDs) (fun y' c e z=>by
      obtain⟨w',q'⟩:=I.cell y' c (sub y' c e)
      exact ne_lt q'.lt hDs z) (fun p hp z=>by
      have hp':p∈pins:=by simpa [cxB] using hp
      exact ne_lt (pOld p hp') hDs z)
    refine⟨m',hm,i+1,ys++[vv],its++[v],k',H9,forget (I10.pins_of fun p hp=>?_),T.keep _ _ _ tn6 fun b hb o e=>oth b o (fun z=>nDf (z▸hb)) (b1 b hb o e),b2,rv.append (.cons r9 .nil),w9⟩
    rcases List.mem_append.mp hp with z | z
    ·exact I10.pin p (List.mem_append_right _ z)
    ·have z':p=(D,lobj (its++[v]) k'):=List.mem_singleton.mp z
     subst z';exact⟨q,nD9,hDC,dfs,fun w' z2=>nomatch z2⟩
 exact codeAny_compStart_list (loop _ rfl) (T.self _ 0 _ _ _ tn0 (loop _ rfl))
theorem lc_after {fp:List Addr}{D C:Addr}{s':Shared}{H':Hp}{ys:List V}{its:List Value}{n:Nat} (I:Inv X pins σ H s) (f:∀ b∈fp,FpOk X pins H b) (hD:s.heap.objs.size<=D) (J:Inv (cxB X (x::frees) scope s H C fp) pins (none::frv σ js) H' s') (nD:H' D=none) (rv:Vals ys its)
  (gD:s'.heap.get? D=some (lobj its n)) (hz:ys.length<=sizeLine):Inv X pins σ (upd H' D (.lst ys)) s':=by
 have u:Un (frs X.stack) fp H H' s.heap s'.heap:=J.base;have hk:HOk X.prog X.w H' s'.heap:=J.hok;refine I.call' (ch:=fp) J.os ⟨u.keep,u.slot,fun b o e n' hx=>?_,u.there,fun b xs e=>?_,fun b o v e=>?_,fun b ps e=>?_⟩ (fun b o e=>?_) J.bare fun b hb=>?_
 ·rw[upd_ne (ne_lt (Heap.lt_size e) hD)]
  exact u.free b o e n' hx
 ·have q:=u.tups b xs e
  rw[upd_ne (ne_of_none q nD)];exact q
 ·have q:=u.frzs b o v e
  rw[upd_ne (ne_of_none q nD)];exact q
 ·obtain⟨more,q⟩:=u.tbls b ps e
  exact⟨more,by rw[upd_ne (ne_of_none q nD)];exact q⟩
 ·by_cases hb:b=D
  ·subst hb
   rw[upd_same] at e;cases e;exact⟨hz,its,n,rv,gD⟩
  ·rw[upd_ne hb] at e
   exact (hk b o e).stay (fun c v _ q=>q) (fun c q=>by rw[upd_ne (ne_of_none q nD)];exact q) fun c xs q=>by rw[upd_ne (ne_of_none q nD)];exact q
 ·obtain⟨_,a2,a3,a4,a5,a6⟩:=f b hb
  exact⟨a4,a2,a5,a6⟩
theorem lc_go {C:Addr}{s':Shared}{H':Hp}{σ':St}{h':Heap} (I:Inv X pins σ H s) (J:Inv X pins σ' H' s') (hC:s.heap.objs.size<=C) (nC:H' C=none) (hs:Heap.SameBut C s'.heap h'):Inv X pins σ' H' {s' with heap:=h'}:=by
 refine J.turned (t':=s'.toks) (it:=C) (fun b o hb e=>(hs.2 b hb).trans e) nC (fun z=>?_) (.inr (Nat.le_trans I.sz hC)) (fun y c e z=>?_) fun p hp z=>?_
 ·exact ne_lt I.lt hC z.symm
 ·obtain⟨v,q⟩:=I.cell y c e
  exact ne_lt q.lt hC z
 ·exact ne_lt (Heap.lt_size (I.pin p hp).1) hC z
noncomputable def tLC (wi:TI) (js:List Nat) (tt:TT) (te:TE):TE:=fun σ H Q=>wi σ H (LcW js tt te σ fun ys H'=>∀ D,H' D=none->Q (.ref D) (upd H' D (.lst ys)))
theorem pe_lc {wi:TI} (hc:X.calm=true) (hsc:X.env.scope=sc) (B:ScB X.N sc scope x frees js) (hi:PI X (.Name x px) iter wi) (ht:∀ s H C fp,PTs (cxB X (x::frees) scope s H C fp) ifs tt) (he:∀ s H C fp,PE (cxB X (x::frees) scope s H C fp) elt te)
  (hs:∀ v,foldedSetIterable iter X.env v=pure v:=by intro _;rfl):PE X (.ListComp elt [⟨.Name x px,iter,ifs,0⟩] scope pos) (tLC wi js tt te):=by
 intro pins s σ H Q I h;rw[eval_ListComp];refine wpAny_comprehension_free (use:=none) rfl hs (closure_eq (lcells I hsc B)) B.kind B.locs (thn (hi pins s σ H _ I h) fun v s1 h1=>thn h1 fun itv s2 h2=>?_)
 obtain⟨it,fp,tn,J,H2,e,I2,T,st2,f2,hW⟩:=h2;subst e;refine lc_run (RR:=fun acc C=>compPost (model X.prog X.w) X.A X.xe none (EP X pins σ Q) acc C) I2 hc hsc B T st2 f2 hW ht he ?_
 intro D C s' H' ys its n hD hC hDC J' nD rv gD hz q;obtain⟨m,hn,_⟩:=J'.loc;refine⟨m,hn,fun h' hs'=>?_⟩
 have A1:=lc_after I2 f2 hD J' nD rv gD hz;have nC:(upd H' D (.lst ys)) C=none:=by rw[upd_ne (Ne.symm hDC)];exact J'.free
 exact⟨.ref D,_,lc_go I2 A1 hC nC hs',rfl,q D nD⟩
end
end L2
namespace Fx
open PySem
inductive D where
 |non | bl (b:Bool) | int (i:Int) | str (x:Str) | tup (xs:List D) | lst (xs:List D)
 |opq (ks:List (Str×Int)) (vs:List D)
inductive MO where
 |lst (xs:List D) | dic (kvs:List (Str×D)) | dtu (kvs:List ((Str×Int)×D))
inductive Sl where
 |no | im (d:D) | ow (b:Bool) (o:MO)
noncomputable abbrev En:=List Sl
inductive Res where
 |nx (ρ:En) | rt (d:D) (ρ:En) | bk (ρ:En) | ct (ρ:En)
noncomputable abbrev FE:=En->Option (D×En)
noncomputable abbrev FT:=En->Option (Bool×En)
noncomputable abbrev FA:=En->Option (List D×En)
noncomputable abbrev FS:=En->Option Res
noncomputable def bnd {α β:Type} (x:Option α) (f:α->Option β):Option β:=x.bind f
theorem bnd_some {α β:Type} (a:α) (f:α->Option β):bnd (some a) f=f a:=rfl
mutual
noncomputable def eqD:D->D->Bool
 |.non,.non=>true
 |.bl a,.bl b=>a==b
 |.bl a,.int b=>(if a then 1 else 0)==b
 |.int a,.bl b=>a==(if b then 1 else 0)
 |.int a,.int b=>a==b
 |.str a,.str b=>a==b
 |.tup a,.tup b=>eqDs a b
 |.lst a,.lst b=>eqDs a b
 |_,_=>false
noncomputable def eqDs:List D->List D->Bool
 |[],[]=>true
 |a::r,b::t=>eqD a b&&eqDs r t
 |_,_=>false
end
@[simp] theorem eqD_non_non :eqD .non .non=true:=by rw[eqD]
@[simp] theorem eqD_non_bl (y:Bool):eqD .non (.bl y)=false:=by simp[eqD]
@[simp] theorem eqD_non_int (y:Int):eqD .non (.int y)=false:=by simp[eqD]
@[simp] theorem eqD_non_str (y:Str):eqD .non (.str y)=false:=by simp[eqD]
@[simp] theorem eqD_non_tup (y:List D):eqD .non (.tup y)=false:=by simp[eqD]
@[simp] theorem eqD_non_lst (y:List D):eqD .non (.lst y)=false:=by simp[eqD]
@[simp] theorem eqD_bl_non (x:Bool):eqD (.bl x) .non=false:=by simp[eqD]
@[simp] theorem eqD_bl_bl (x:Bool) (y:Bool):eqD (.bl x) (.bl y)=decide (x=y):=by rw[eqD];exact Bool.beq_eq_decide_eq _ _
@[simp] theorem eqD_bl_int (x:Bool) (y:Int):eqD (.bl x) (.int y)=((if x then 1 else 0)==y):=by rw[eqD]
@[simp] theorem eqD_bl_str (x:Bool) (y:Str):eqD (.bl x) (.str y)=false:=by simp[eqD]
@[simp] theorem eqD_bl_tup (x:Bool) (y:List D):eqD (.bl x) (.tup y)=false:=by simp[eqD]
@[simp] theorem eqD_bl_lst (x:Bool) (y:List D):eqD (.bl x) (.lst y)=false:=by simp[eqD]
@[simp] theorem eqD_int_non (x:Int):eqD (.int x) .non=false:=by simp[eqD]
@[simp] theorem eqD_int_bl (x:Int) (y:Bool):eqD (.int x) (.bl y)=(x==(if y then 1 else 0)):=by rw[eqD]
@[simp] theorem eqD_int_int (x:Int) (y:Int):eqD (.int x) (.int y)=decide (x=y):=by rw[eqD];exact Bool.beq_eq_decide_eq _ _
@[simp] theorem eqD_int_str (x:Int) (y:Str):eqD (.int x) (.str y)=false:=by simp[eqD]
@[simp] theorem eqD_int_tup (x:Int) (y:List D):eqD (.int x) (.tup y)=false:=by simp[eqD]
@[simp] theorem eqD_int_lst (x:Int) (y:List D):eqD (.int x) (.lst y)=false:=by simp[eqD]
@[simp] theorem eqD_str_non (x:Str):eqD (.str x) .non=false:=by simp[eqD]
@[simp] theorem eqD_str_bl (x:Str) (y:Bool):eqD (.str x) (.bl y)=false:=by simp[eqD]
@[simp] theorem eqD_str_int (x:Str) (y:Int):eqD (.str x) (.int y)=false:=by simp[eqD]
@[simp] theorem eqD_str_str (x:Str) (y:Str):eqD (.str x) (.str y)=decide (x=y):=by rw[eqD];exact Bool.beq_eq_decide_eq _ _
@[simp] theorem eqD_str_tup (x:Str) (y:List D):eqD (.str x) (.tup y)=false:=by simp[eqD]
@[simp] theorem eqD_str_lst (x:Str) (y:List D):eqD (.str x) (.lst y)=false:=by simp[eqD]
@[simp] theorem eqD_tup_non (x:List D):eqD (.tup x) .non=false:=by simp[eqD]
@[simp] theorem eqD_tup_bl (x:List D) (y:Bool):eqD (.tup x) (.bl y)=false:=by simp[eqD]
@[simp] theorem eqD_tup_int (x:List D) (y:Int):eqD (.tup x) (.int y)=false:=by simp[eqD]
@[simp] theorem eqD_tup_str (x:List D) (y:Str):eqD (.tup x) (.str y)=false:=by simp[eqD]
@[simp] theorem eqD_tup_tup (x:List D) (y:List D):eqD (.tup x) (.tup y)=eqDs x y:=by rw[eqD]
@[simp] theorem eqD_tup_lst (x:List D) (y:List D):eqD (.tup x) (.lst y)=false:=by simp[eqD]
@[simp] theorem eqD_lst_non (x:List D):eqD (.lst x) .non=false:=by simp[eqD]
@[simp] theorem eqD_lst_bl (x:List D) (y:Bool):eqD (.lst x) (.bl y)=false:=by simp[eqD]
@[simp] theorem eqD_lst_int (x:List D) (y:Int):eqD (.lst x) (.int y)=false:=by simp[eqD]
@[simp] theorem eqD_lst_str (x:List D) (y:Str):eqD (.lst x) (.str y)=false:=by simp[eqD]
@[simp] theorem eqD_lst_tup (x:List D) (y:List D):eqD (.lst x) (.tup y)=false:=by simp[eqD]
@[simp] theorem eqD_lst_lst (x:List D) (y:List D):eqD (.lst x) (.lst y)=eqDs x y:=by rw[eqD]
@[simp] theorem eqDs_nn:eqDs [] []=true:=by rw[eqDs]
@[simp] theorem eqDs_cc (a b:D) (r t:List D):eqDs (a::r) (b::t)=(eqD a b&&eqDs r t):=by rw[eqDs]
@[simp] theorem eqDs_nc (b:D) (t:List D):eqDs [] (b::t)=false:=by simp[eqDs]
@[simp] theorem eqDs_cn (b:D) (t:List D):eqDs (b::t) []=false:=by simp[eqDs]
mutual
noncomputable def dpD:D->Nat
 |.tup xs=>dpDs xs+1
 |.lst xs=>dpDs xs+1
 |.opq _ _=>1000
 |_=>0
noncomputable def dpDs:List D->Nat
 |[]=>0
 |d::r=>max (dpD d) (dpDs r)
end
@[simp] theorem dpD_opq (ks:List (Str×Int)) (vs:List D):dpD (.opq ks vs)=1000:=rfl
@[simp] theorem dpD_non:dpD .non=0:=rfl
@[simp] theorem dpD_bl (b:Bool):dpD (.bl b)=0:=rfl
@[simp] theorem dpD_int (i:Int):dpD (.int i)=0:=rfl
@[simp] theorem dpD_str (x:Str):dpD (.str x)=0:=rfl
@[simp] theorem dpD_tup (xs:List D):dpD (.tup xs)=dpDs xs+1:=rfl
@[simp] theorem dpD_lst (xs:List D):dpD (.lst xs)=dpDs xs+1:=rfl
@[simp] theorem dpDs_nil:dpDs []=0:=rfl
@[simp] theorem dpDs_cons (d:D) (r:List D):dpDs (d::r)=max (dpD d) (dpDs r):=rfl
noncomputable def bigM (i:Int):Bool:=decide (i.natAbs<2 ^ 1000)
noncomputable def okMul (i j:Int):Bool:=decide (i.natAbs<2 ^ 64)||decide (j.natAbs<2 ^ 64)||(bigM i&&bigM j)
noncomputable def okDiv (j:Int):Bool:=decide (j≠0)&&decide (j.natAbs<2 ^ 1000)
noncomputable def dAdd:D->D->Option D
 |.int i,.int j=>some (.int (i+j))
 |.str a,.str b=>if a.length+b.length<=sizeLine then some (.str (a++b)) else none
 |.lst a,.lst b=>if a.length+b.length<=sizeLine then some (.lst (a++b)) else none
 |_,_=>none
noncomputable def dSub:D->D->Option D
 |.int i,.int j=>some (.int (i-j))
 |_,_=>none
noncomputable def dMul:D->D->Option D
 |.int i,.int j=>if okMul i j=true then some (.int (i*j)) else none
 |_,_=>none
noncomputable def dDiv:D->D->Option D
 |.int i,.int j=>if okDiv j=true then some (.int (i.fdiv j)) else none
 |_,_=>none
noncomputable def dMod:D->D->Option D
 |.int i,.int j=>if j≠0 then some (.int (i.fmod j)) else none
 |_,_=>none
noncomputable def dPow:D->D->Option D
 |.int i,.int j=>if 0<=j/\j<=64/\i.natAbs<2 ^ 64 then some (.int (i ^ j.toNat)) else none
 |_,_=>none
noncomputable def dNeg:D->Option D
 |.int i=>some (.int (-i))
 |_=>none
noncomputable def dCmp (p:Int->Int->Bool):D->D->Option D
 |.int i,.int j=>some (.bl (p i j))
 |_,_=>none
noncomputable def dLt:D->D->Option D:=dCmp fun i j=>decide (i<j)
noncomputable def dLe:D->D->Option D:=dCmp fun i j=>decide (i<=j)
noncomputable def dGt:D->D->Option D:=dCmp fun i j=>decide (j<i)
noncomputable def dGe:D->D->Option D:=dCmp fun i j=>decide (j<=i)
noncomputable def dEq (x y:D):Option D:=if dpD x<=30/\dpD y<=30 then some (.bl (eqD x y)) else none
noncomputable def dNe (x y:D):Option D:=if dpD x<=30/\dpD y<=30 then some (.bl (!eqD x y)) else none
noncomputable def isN:D->Bool
 |.non=>true
 |_=>false
@[simp] theorem isN_opq (ks:List (Str×Int)) (vs:List D):isN (.opq ks vs)=false:=rfl
@[simp] theorem isN_non:isN .non=true:=rfl
@[simp] theorem isN_bl (b:Bool):isN (.bl b)=false:=rfl
@[simp] theorem isN_int (b:Int):isN (.int b)=false:=rfl
@[simp] theorem isN_str (b:Str):isN (.str b)=false:=rfl
@[simp] theorem isN_tup (b:List D):isN (.tup b)=false:=rfl
@[simp] theorem isN_lst (b:List D):isN (.lst b)=false:=rfl
noncomputable def dIs (x y:D):Option D:=match y with
 |.non=>some (.bl (isN x))
 |_=>none
noncomputable def dIsNot (x y:D):Option D:=match y with
 |.non=>some (.bl (!isN x))
 |_=>none
noncomputable def dTru:D->Option Bool
 |.non=>some false
 |.bl b=>some b
 |.int i=>some (i != 0)
 |.lst xs=>some (!xs.isEmpty)
 |.tup xs=>some (!xs.isEmpty)
 |_=>none
noncomputable def dPl (n:Nat) (i:Int):Option Nat:=if 0<=i then (if i<n then some i.toNat else none) else if -(n:Int)<=i then some (i+n).toNat else none
noncomputable def atD (xs:List D) (i:Int):Option D:=(dPl xs.length i).bind fun j=>xs[j]?
noncomputable def dIx:D->D->Option D
 |.tup xs,.int i=>atD xs i
 |.lst xs,.int i=>atD xs i
 |_,_=>none
noncomputable def dEnd (n d:Nat):Option Int->Nat
 |none=>d
 |some v=>(if v<0 then max (v+(n:Int)) 0 else min v (n:Int)).toNat
noncomputable def dCut (xs:List D) (lo hi:Option Int):List D:=(xs.drop (dEnd xs.length 0 lo)).take (dEnd xs.length xs.length hi-dEnd xs.length 0 lo)
noncomputable def dSl:D->Option Int->Option Int->Option D
 |.lst xs,lo,hi=>some (.lst (dCut xs lo hi))
 |.tup xs,lo,hi=>if dEnd xs.length 0 lo=0/\dEnd xs.length xs.length hi=xs.length then none else some (.tup (dCut xs lo hi))
 |_,_,_=>none
noncomputable def bAbs:List D->Option D
 |[.int i]=>some (.int (if i<0 then -i else i))
 |_=>none
noncomputable def bLen:List D->Option D
 |[.lst xs]=>some (.int xs.length)
 |[.tup xs]=>some (.int xs.length)
 |_=>none
noncomputable def intsOf:List D->Option (List Int)
 |[]=>some []
 |.int i::r=>bnd (intsOf r) fun is=>some (i::is)
 |_=>none
theorem intsOf_cons (i:Int) (r:List D):intsOf (.int i::r)=bnd (intsOf r) fun is=>some (i::is):=rfl
noncomputable def minI:Int->List Int->Int
 |m,[]=>m
 |m,x::r=>minI (if x<m then x else m) r
noncomputable def maxI:Int->List Int->Int
 |m,[]=>m
 |m,x::r=>maxI (if m<x then x else m) r
noncomputable def bestI (f:Int->List Int->Int):List Int->Option D
 |[]=>none
 |i::r=>some (.int (f i r))
noncomputable def bMax:List D->Option D
 |[.int i,.int j]=>some (.int (if j > i then j else i))
 |[.lst xs]=>bnd (intsOf xs) fun is=>bestI maxI is
 |_=>none
noncomputable def bMin:List D->Option D
 |[.int i,.int j]=>some (.int (if j<i then j else i))
 |[.lst xs]=>bnd (intsOf xs) fun is=>bestI minI is
 |_=>none
noncomputable def bools:List D->Option (List Bool)
 |[]=>some []
 |.bl b::r=>bnd (bools r) fun bs=>some (b::bs)
 |_=>none
theorem bools_cons (b:Bool) (r:List D):bools (.bl b::r)=bnd (bools r) fun bs=>some (b::bs):=rfl
noncomputable def bAny:List D->Option D
 |[.lst xs]=>bnd (bools xs) fun bs=>some (.bl (bs.any id))
 |_=>none
noncomputable def bAll:List D->Option D
 |[.lst xs]=>bnd (bools xs) fun bs=>some (.bl (bs.all id))
 |_=>none
inductive Ty where
 |int | bool | str | tuple | list
noncomputable def isTy:Ty->D->Bool
 |.int,.int _=>true
 |.int,.bl _=>true
 |.bool,.bl _=>true
 |.str,.str _=>true
 |.tuple,.tup _=>true
 |.list,.lst _=>true
 |_,_=>false
noncomputable def slV (ρ:En):Option Sl->Option (D×En)
 |some (.im d)=>some (d,ρ)
 |_=>none
noncomputable def eV (i:Nat) (ρ:En):Option (D×En):=slV ρ ρ[i]?
noncomputable def eNever:FE:=fun _=>none
noncomputable def eC (d:D) (ρ:En):Option (D×En):=some (d,ρ)
noncomputable def e1 (op:D->Option D) (F:FE) (ρ:En):Option (D×En):=bnd (F ρ) fun p=>bnd (op p.1) fun d=>some (d,p.2)
noncomputable def e2 (op:D->D->Option D) (F G:FE) (ρ:En):Option (D×En):=bnd (F ρ) fun p=>bnd (G p.2) fun q=>bnd (op p.1 q.1) fun d=>some (d,q.2)
noncomputable def blB:D->Option Bool
 |.bl b=>some b
 |_=>none
noncomputable def e3 (op op':D->D->Option D) (F G L:FE) (ρ:En):Option (D×En):=bnd (F ρ) fun p=>bnd (G p.2) fun q=>bnd (op p.1 q.1) fun z=>bnd (blB z) fun b =>
 if b=true then bnd (L q.2) fun r=>bnd (op' q.1 r.1) fun d=>some (d,r.2) else some (.bl false,q.2)
noncomputable def aN (ρ:En):Option (List D×En):=some ([],ρ)
noncomputable def aC (F:FE) (A:FA) (ρ:En):Option (List D×En):=bnd (F ρ) fun p=>bnd (A p.2) fun q=>some (p.1::q.1,q.2)
noncomputable def eTup (A:FA) (ρ:En):Option (D×En):=bnd (A ρ) fun p=>if p.1.length<=1000 then some (.tup p.1,p.2) else none
noncomputable def eLst (A:FA) (ρ:En):Option (D×En):=bnd (A ρ) fun p=>if p.1.length<=1000 then some (.lst p.1,p.2) else none
noncomputable def eF (g:List D->Option D) (A:FA) (ρ:En):Option (D×En):=bnd (A ρ) fun p=>bnd (g p.1) fun d=>some (d,p.2)
noncomputable def eTy (t:Ty) (F:FE) (ρ:En):Option (D×En):=bnd (F ρ) fun p=>some (.bl (isTy t p.1),p.2)
noncomputable abbrev FO:=En->Option (Option Int×En)
noncomputable def intI:D->Option Int
 |.int i=>some i
 |_=>none
noncomputable def oN (ρ:En):Option (Option Int×En):=some (none,ρ)
noncomputable def oS (F:FE) (ρ:En):Option (Option Int×En):=bnd (F ρ) fun p=>bnd (intI p.1) fun i=>some (some i,p.2)
noncomputable def eSl (F:FE) (lo hi:FO) (ρ:En):Option (D×En):=bnd (F ρ) fun p=>bnd (lo p.2) fun l=>bnd (hi l.2) fun h=>bnd (dSl p.1 l.1 h.1) fun d=>some (d,h.2)
noncomputable def tB (F:FE) (ρ:En):Option (Bool×En):=bnd (F ρ) fun p=>bnd (blB p.1) fun b=>some (b,p.2)
noncomputable def tV (F:FE) (ρ:En):Option (Bool×En):=bnd (F ρ) fun p=>bnd (dTru p.1) fun b=>some (b,p.2)
noncomputable def tAnd (T U:FT) (ρ:En):Option (Bool×En):=bnd (T ρ) fun p=>if p.1=true then U p.2 else some (false,p.2)
noncomputable def tOr (T U:FT) (ρ:En):Option (Bool×En):=bnd (T ρ) fun p=>if p.1=true then some (true,p.2) else U p.2
noncomputable def tNot (T:FT) (ρ:En):Option (Bool×En):=bnd (T ρ) fun p=>some (!p.1,p.2)
noncomputable def tYes (ρ:En):Option (Bool×En):=some (true,ρ)
noncomputable def eIf (T:FT) (F G:FE) (ρ:En):Option (D×En):=bnd (T ρ) fun p=>if p.1=true then F p.2 else G p.2
noncomputable def eAnd (F G:FE) (ρ:En):Option (D×En):=bnd (F ρ) fun p=>bnd (blB p.1) fun b=>if b=true then G p.2 else some (.bl false,p.2)
noncomputable def eOr (F G:FE) (ρ:En):Option (D×En):=bnd (F ρ) fun p=>bnd (blB p.1) fun b=>if b=true then some (.bl true,p.2) else G p.2
noncomputable def eNot (F:FE) (ρ:En):Option (D×En):=bnd (F ρ) fun p=>bnd (blB p.1) fun b=>some (.bl (!b),p.2)
noncomputable def slI:Option Sl->Option Sl
 |some (.im d)=>some (.im d)
 |_=>none
noncomputable def imAt (ρ:En):List Nat->Option En
 |[]=>some []
 |j::js=>bnd (slI ρ[j]?) fun s=>bnd (imAt ρ js) fun r=>some (s::r)
theorem imAt_cons (ρ:En) (j:Nat) (js:List Nat):imAt ρ (j::js)=bnd (slI ρ[j]?) fun s=>bnd (imAt ρ js) fun r=>some (s::r):=rfl
noncomputable def cGo (T:FT) (F:FE) (fr:En):List D->Option (List D)
 |[]=>some []
 |d::r=>bnd (T (.im d::fr)) fun p=>if p.1=true then bnd (F p.2) fun q=>bnd (cGo T F fr r) fun t=>some (q.1::t) else cGo T F fr r
theorem cGo_nil (T:FT) (F:FE) (fr:En):cGo T F fr []=some []:=rfl
theorem cGo_cons (T:FT) (F:FE) (fr:En) (d:D) (r:List D):cGo T F fr (d::r)=bnd (T (.im d::fr)) fun p=>if p.1=true then bnd (F p.2) fun q=>bnd (cGo T F fr r) fun t=>some (q.1::t) else cGo T F fr r:=rfl
noncomputable def chS (c:Nat):Str:=⟨#[c]⟩
noncomputable def chs (z:Str):List D:=z.cps.toList.map fun c=>.str (chS c)
noncomputable def items:D->Option (List D)
 |.lst xs=>some xs
 |.tup xs=>some xs
 |.str z=>some (chs z)
 |_=>none
noncomputable def eLC (js:List Nat) (I:FE) (T:FT) (F:FE) (ρ:En):Option (D×En):=bnd (I ρ) fun p=>bnd (items p.1) fun xs=>bnd (imAt p.2 js) fun fr=>bnd (cGo T F fr xs) fun ys=>if xs.length<=sizeLine then some (.lst ys,p.2) else none
noncomputable def sN (ρ:En):Option Res:=some (.nx ρ)
noncomputable def nxR (G:FS):Res->Option Res
 |.nx ρ'=>G ρ'
 |.rt d ρ=>some (.rt d ρ)
 |.bk ρ=>some (.bk ρ)
 |.ct ρ=>some (.ct ρ)
noncomputable def sSeq (F G:FS) (ρ:En):Option Res:=bnd (F ρ) fun r=>nxR G r
noncomputable def sSet (i:Nat) (F:FE) (ρ:En):Option Res:=bnd (F ρ) fun p=>some (.nx (p.2.set i (.im p.1)))
noncomputable def setAll:List Nat->List D->En->En
 |i::is,d::ds,ρ=>setAll is ds (ρ.set i (.im d))
 |_,_,ρ=>ρ
theorem setAll_cons (i:Nat) (is:List Nat) (d:D) (ds:List D) (ρ:En):setAll (i::is) (d::ds) ρ=setAll is ds (ρ.set i (.im d)):=rfl
theorem setAll_nil (ds:List D) (ρ:En):setAll [] ds ρ=ρ:=by cases ds <;> rfl
noncomputable def tupX:D->Option (List D)
 |.tup xs=>some xs
 |.lst xs=>some xs
 |_=>none
noncomputable def gN (i:Nat) (d:D) (ρ:En):Option En:=some (ρ.set i (.im d))
noncomputable def gT (is:List Nat) (d:D) (ρ:En):Option En:=bnd (tupX d) fun xs=>if xs.length=is.length then some (setAll is xs ρ) else none
noncomputable def sTup (is:List Nat) (F:FE) (ρ:En):Option Res:=bnd (F ρ) fun p=>bnd (gT is p.1 p.2) fun ρ'=>some (.nx ρ')
noncomputable def sIf (T:FT) (F G:FS) (ρ:En):Option Res:=bnd (T ρ) fun p=>if p.1=true then F p.2 else G p.2
noncomputable def sRet (F:FE) (ρ:En):Option Res:=bnd (F ρ) fun p=>some (.rt p.1 p.2)
noncomputable def sRetN (ρ:En):Option Res:=some (.rt .non ρ)
noncomputable def sBk (ρ:En):Option Res:=some (.bk ρ)
noncomputable def sCt (ρ:En):Option Res:=some (.ct ρ)
noncomputable def goR (G:FS):Res->Option Res
 |.nx ρ=>G ρ
 |.ct ρ=>G ρ
 |.bk ρ=>some (.nx ρ)
 |.rt d ρ=>some (.rt d ρ)
noncomputable def fGo (g:D->En->Option En) (B:FS):List D->FS
 |[],ρ=>some (.nx ρ)
 |d::r,ρ=>bnd (g d ρ) fun ρ1=>bnd (B ρ1) fun z=>goR (fGo g B r) z
theorem fGo_nil (g:D->En->Option En) (B:FS) (ρ:En):fGo g B [] ρ=some (.nx ρ):=rfl
theorem fGo_cons (g:D->En->Option En) (B:FS) (d:D) (r:List D) (ρ:En):fGo g B (d::r) ρ=bnd (g d ρ) fun ρ1=>bnd (B ρ1) fun z=>goR (fGo g B r) z:=rfl
noncomputable def sFor (g:D->En->Option En) (F:FE) (B:FS) (ρ:En):Option Res:=bnd (F ρ) fun p=>bnd (items p.1) fun xs=>fGo g B xs p.2
noncomputable def rngD (lo:Int):Nat->List D
 |0=>[]
 |n+1=>.int lo::rngD (lo+1) n
noncomputable def rng1 (F:FE) (ρ:En):Option (List D×En):=bnd (F ρ) fun p=>bnd (intI p.1) fun j=>if -(2 ^ 62)<=j/\j<2 ^ 62 then some (rngD 0 j.toNat,p.2) else none
noncomputable def rng2 (F G:FE) (ρ:En):Option (List D×En):=bnd (F ρ) fun p=>bnd (G p.2) fun q=>bnd (intI p.1) fun i=>bnd (intI q.1) fun j =>
 if -(2 ^ 62)<=i/\i<2 ^ 62/\-(2 ^ 62)<=j/\j<2 ^ 62 then some (rngD i (j-i).toNat,q.2) else none
noncomputable def sForR (g:D->En->Option En) (R:FA) (B:FS) (ρ:En):Option Res:=bnd (R ρ) fun p=>fGo g B p.1 p.2
noncomputable def wGo (T:FT) (B:FS):Nat->FS
 |0,_=>none
 |n+1,ρ=>bnd (T ρ) fun p=>if p.1=true then bnd (B p.2) fun z=>goR (wGo T B n) z else some (.nx p.2)
noncomputable def sWhile (fuel:En->Nat) (T:FT) (B:FS) (ρ:En):Option Res:=wGo T B (fuel ρ) ρ
noncomputable def oLst (A:FA) (ρ:En):Option (List D×En):=bnd (A ρ) fun p=>if p.1.length<=1000 then some p else none
noncomputable def oIf (T:FT) (A B:FA) (ρ:En):Option (List D×En):=bnd (T ρ) fun p=>if p.1=true then A p.2 else B p.2
noncomputable def sOwn (i:Nat) (A:FA) (ρ:En):Option Res:=bnd (A ρ) fun p=>some (.nx (p.2.set i (.ow false (.lst p.1))))
noncomputable def owL:Option Sl->Option (List D)
 |some (.ow false (.lst ds))=>some ds
 |_=>none
noncomputable def sApp (i:Nat) (F:FE) (ρ:En):Option Res:=bnd (owL ρ[i]?) fun _=>bnd (F ρ) fun p=>bnd (owL p.2[i]?) fun ds=>if ds.length<1000000 then some (.nx (p.2.set i (.ow false (.lst (ds++[p.1]))))) else none
noncomputable def frz (i:Nat) (ρ:En):En:=match ρ[i]? with
 |some (.ow false (.lst ds))=>ρ.set i (.im (.lst ds))
 |_=>ρ
noncomputable def sFrz (i:Nat) (F:FS) (ρ:En):Option Res:=F (frz i ρ)
noncomputable def eLR (js:List Nat) (R:FA) (T:FT) (F:FE) (ρ:En):Option (D×En):=bnd (R ρ) fun p=>bnd (imAt p.2 js) fun fr=>bnd (cGo T F fr p.1) fun ys=>if p.1.length<=sizeLine then some (.lst ys,p.2) else none
noncomputable def isB (b:Bool):D->Bool
 |.bl c=>decide (c=b)
 |_=>false
noncomputable def e1B (b n:Bool) (F:FE) (ρ:En):Option (D×En):=bnd (F ρ) fun p=>some (.bl (if n then !isB b p.1 else isB b p.1),p.2)
noncomputable def retR:Res->Option D
 |.rt d _=>some d
 |.nx _=>some .non
 |_=>none
noncomputable def fnD (n k:Nat) (B:FS) (ds:List D):Option D:=if ds.length=n then bnd (B (ds.map .im++List.replicate k .no)) fun r=>retR r else none
end Fx
set_option maxRecDepth 100000
namespace Fx
open PySem PySem.Spec PyProof.Rows L2
noncomputable abbrev Tab (α:Type):=List ((Str×Int)×Addr×α)
noncomputable def kTI (k:Str×Int):List Key:=[.inr k.1,.inl k.2]
noncomputable def upTI (x:(Str×Int)×Addr×Value):List Key×Addr×Value:=(kTI x.1,x.2.1,x.2.2)
structure TD (P:Program) (w:World) (o:Obj) (tab:Tab V):Prop where
 ex:o.ExactDict
 es:∃ es ep xs,o.data=.dict es ep/\es.toList=(xs.map upTI).map (entryOfKey (tupleKind (mixKind P w)))/\Paired (fun (p:(Str×Int)×Addr×V) (q:(Str×Int)×Addr×Value)=>p.1=q.1/\p.2.1=q.2.1/\RelV p.2.2 q.2.2) tab xs
 nd:(tab.map (·.1)).Nodup
 few:tab.length<=sizeLine
noncomputable def tdO (a:Addr) (tab:Tab V):HO:=.ext fun P w h=>(a==sysModules)=false/\∃ o,h.get? a=some o/\TD P w o tab
noncomputable def tdF (a:Addr) (o:Obj) (tab:Tab V):HO:=.ext fun P w h=>(a==sysModules)=false/\h.get? a=some o/\TD P w o tab
noncomputable def KsAt (H:Hp) (tab:Tab V):Prop:=∀ x∈tab,H x.2.1=some (.tup [.str x.1.1,.int x.1.2])
mutual
noncomputable def Rep (K:PySem.W.Frag) (H:Hp):D->V->Prop
 |.non,v=>v=.non
 |.bl b,v=>v=.bl b
 |.int i,v=>v=.int i
 |.str x,v=>v=.str x
 |.tup ds,v=>∃ a vs,v=.ref a/\SqT K H a vs/\Reps K H ds vs
 |.lst ds,v=>∃ a vs,v=.ref a/\SqL K H a vs/\Reps K H ds vs
 |.opq ks ds,v=>∃ a o tab,v=.ref a/\H a=some (tdF a o tab)/\ks=tab.map (·.1)/\KsAt H tab/\Reps K H ds (tab.map (·.2.2))
noncomputable def Reps (K:PySem.W.Frag) (H:Hp):List D->List V->Prop
 |[],vs=>vs=[]
 |d::ds,vs=>∃ v r,vs=v::r/\Rep K H d v/\Reps K H ds r
end
theorem Same.rd {H H':Hp}{a:Addr}{u:HO} (e:Same H H') (h:Rd H a u):Rd H' a u:=by
 rcases h with h | ⟨o,h⟩
 ·exact .inl (e _ _ h)
 ·exact .inr ⟨o,e _ _ h⟩
theorem Same.seqT {K:PySem.W.Frag}{H H':Hp}{a:Addr}{xs:List V} (e:Same H H') (h:SqT K H a xs):SqT K H' a xs:=by
 rcases h with h | h
 ·exact .inl (Same.rd e h)
 ·exact .inr h
section
variable {K:PySem.W.Frag}{H H':Hp}
mutual
theorem Rep.mono (e:Same H H'):∀ (d:D) {v:V},Rep K H d v->Rep K H' d v
 |.non,_,h=>h
 |.bl _,_,h=>h
 |.int _,_,h=>h
 |.str _,_,h=>h
 |.tup ds,_,h=>by
  unfold Rep at h ⊢;obtain⟨a,vs,q,s,r⟩:=h;exact⟨a,vs,q,Same.seqT e s,Reps.mono e ds r⟩
 |.lst ds,_,h=>by
  unfold Rep at h ⊢;obtain⟨a,vs,q,s,r⟩:=h;exact⟨a,vs,q,Same.seq e s,Reps.mono e ds r⟩
 |.opq ks ds,_,h=>by
  unfold Rep at h ⊢;obtain⟨a,o,tab,q,s,z,k,r⟩:=h;exact⟨a,o,tab,q,e _ _ s,z,fun x hx=>e _ _ (k x hx),Reps.mono e ds r⟩
theorem Reps.mono (e:Same H H'):∀ (ds:List D) {vs:List V},Reps K H ds vs->Reps K H' ds vs
 |[],_,h=>h
 |d::ds,_,h=>by
  unfold Reps at h ⊢;obtain⟨v,r,q,s,t⟩:=h;exact⟨v,r,q,Rep.mono e d s,Reps.mono e ds t⟩
end
theorem Reps.length:∀ {ds:List D}{vs:List V},Reps K H ds vs->ds.length=vs.length
 |[],_,h=>by unfold Reps at h;rw[h];rfl
 |d::ds,_,h=>by
  unfold Reps at h;obtain⟨v,r,q,_,t⟩:=h;rw[q,List.length_cons,List.length_cons,Reps.length t]
theorem Reps.get:∀ {ds:List D}{vs:List V}{i:Nat}{d:D},Reps K H ds vs->ds[i]?=some d->∃ v,vs[i]?=some v/\Rep K H d v
 |[],_,_,_,_,e=>by simp at e
 |d::ds,_,0,_,h,e=>by
  unfold Reps at h;obtain⟨v,r,rfl,s,_⟩:=h;simp at e;subst e;exact⟨v,rfl,s⟩
 |d::ds,_,i+1,d',h,e=>by
  unfold Reps at h;obtain⟨v,r,rfl,_,t⟩:=h;obtain⟨w,a,b⟩:=Reps.get (i:=i) (d:=d') t (by simpa using e)
  exact⟨w,by simpa using a,b⟩
theorem Reps.app:∀ {ds es:List D}{vs ws:List V},Reps K H ds vs->Reps K H es ws->Reps K H (ds++es) (vs++ws)
 |[],_,_,_,h,h'=>by unfold Reps at h;rw[h];exact h'
 |d::ds,es,_,ws,h,h'=>by
  unfold Reps at h;obtain⟨v,r,rfl,s,t⟩:=h;show Reps K H (d::(ds++es)) (v::(r++ws));unfold Reps;exact⟨v,r++ws,rfl,s,Reps.app t h'⟩
theorem Reps.take:∀ {ds:List D}{vs:List V} (n:Nat),Reps K H ds vs->Reps K H (ds.take n) (vs.take n)
 |[],_,n,h=>by unfold Reps at h;rw[h];simp[Reps]
 |d::ds,vs,0,h=>by simp[Reps]
 |d::ds,_,n+1,h=>by
  unfold Reps at h;obtain⟨v,r,rfl,s,t⟩:=h;show Reps K H (d::ds.take n) (v::r.take n);unfold Reps;exact⟨v,r.take n,rfl,s,Reps.take n t⟩
theorem Reps.drop:∀ {ds:List D}{vs:List V} (n:Nat),Reps K H ds vs->Reps K H (ds.drop n) (vs.drop n)
 |[],_,n,h=>by unfold Reps at h;rw[h];simp[Reps]
 |d::ds,vs,0,h=>by simpa using h
 |d::ds,_,n+1,h=>by
  unfold Reps at h;obtain⟨v,r,rfl,s,t⟩:=h
  simpa using Reps.drop n t
theorem Reps.one {d:D}{v:V} (h:Rep K H d v):Reps K H [d] [v]:=by
 unfold Reps Reps;exact⟨v,[],rfl,h,rfl⟩
theorem Reps.cons {d:D}{ds:List D}{v:V}{vs:List V} (h:Rep K H d v) (t:Reps K H ds vs):Reps K H (d::ds) (v::vs):=by
 unfold Reps;exact⟨v,vs,rfl,h,t⟩
theorem Reps.nil_:Reps K H [] []:=by unfold Reps;rfl
end
structure FC where
 Hi:Hp
 He:Hp
 Ap:List Addr
noncomputable def OwOk (K:PySem.W.Frag) (H0 H:Hp) (a:Addr):MO->Prop
 |.lst ds=>∃ vs,H a=some (.lst vs)/\Reps K H0 ds vs
 |.dic kds=>∃ ks vs,H a=some (.dK ((ks.map Sum.inr).zip vs))/\ks=kds.map (·.1)/\Reps K H0 (kds.map (·.2)) vs
 |.dtu kds=>∃ tab,H a=some (tdO a tab)/\tab.map (·.1)=kds.map (·.1)/\KsAt H0 tab/\Reps K H0 (kds.map (·.2)) (tab.map (·.2.2))
structure RS (K:PySem.W.Frag) (c:FC) (H0 H:Hp) (ρ:En) (σ:L2.St):Prop where
 same:Same H0 H
 init:Same c.Hi H0
 fresh:∀ b o,H0 b=some o->c.Hi b=some o\/c.He b=none
 keep:∀ b o,c.He b=some o->b∉c.Ap->H b=some o
 apt:∀ a∈c.Ap,H a≠none
 len:ρ.length=σ.length
 im:∀ (i:Nat) (d:D),ρ[i]?=some (.im d)->∃ v,σ[i]?=some (some v)/\Rep K H0 d v
 ow:∀ (i:Nat) (b:Bool) (o:MO),ρ[i]?=some (.ow b o)->∃ a,σ[i]?=some (some (.ref a))/\H0 a=none/\(if b=true then a∈c.Ap else c.He a=none)/\OwOk K H0 H a o
 ne:∀ (i j:Nat) (b b':Bool) (o o':MO) (a:Addr),ρ[i]?=some (.ow b o)->ρ[j]?=some (.ow b' o')->σ[i]?=some (some (.ref a))->σ[j]?=some (some (.ref a))->i=j
section
variable {K:PySem.W.Frag}{c:FC}{H0 H H0' H':Hp}{ρ:En}{σ:L2.St}
theorem OwOk.some {a:Addr}{o:MO} (h:OwOk K H0 H a o):∃ u,H a=Option.some u:=by
 cases o with
 |lst ds=>obtain⟨vs,e,_⟩:=h;exact⟨_,e⟩
 |dic ds=>obtain⟨ks,vs,e,_⟩:=h;exact⟨_,e⟩
 |dtu ds=>obtain⟨tab,e,_⟩:=h;exact⟨_,e⟩
theorem OwOk.step {a:Addr}{o:MO} (h:OwOk K H0 H a o) (s0:Same H0 H0') (s:∀ u,H a=Option.some u->H' a=Option.some u):OwOk K H0' H' a o:=by
 cases o with
 |lst ds=>obtain⟨vs,e,r⟩:=h;exact⟨vs,s _ e,Reps.mono s0 ds r⟩
 |dic ds=>obtain⟨ks,vs,e,q,r⟩:=h;exact⟨ks,vs,s _ e,q,Reps.mono s0 _ r⟩
 |dtu ds=>obtain⟨tab,e,z,q,r⟩:=h;exact⟨tab,s _ e,z,fun x hx=>s0 _ _ (q x hx),Reps.mono s0 _ r⟩
structure Step (H0 H H0' H':Hp):Prop where
 s0:Same H0 H0'
 s:Same H H'
 s':Same H0' H'
 fr:∀ b o,H0' b=some o->H0 b=some o\/H b=none
theorem RS.after (R:RS K c H0 H ρ σ) (S:Step H0 H H0' H'):RS K c H0' H' ρ σ:=by
 refine⟨S.s',R.init.trans S.s0,fun b o e=>?_,fun b o e n=>S.s _ _ (R.keep b o e n),fun a ha e=>?_,R.len,fun i d e=>?_,fun i b o e=>?_,R.ne⟩
 ·rcases S.fr b o e with h | h
  ·exact R.fresh b o h
  ·refine .inr ?_
   cases q:c.He b with
   |none=>rfl
   |some u =>
    by_cases hb:b∈c.Ap
    ·exact absurd h (R.apt b hb)
    ·rw[R.keep b u q hb] at h;cases h
 ·cases q:H a with
  |none=>exact R.apt a ha q
  |some u=>rw[S.s _ _ q] at e;cases e
 ·obtain⟨v,a,b⟩:=R.im i d e
  exact⟨v,a,Rep.mono S.s0 d b⟩
 ·obtain⟨a,x,y,z,w⟩:=R.ow i b o e
  refine⟨a,x,?_,z,w.step S.s0 fun u q=>S.s _ _ q⟩
  obtain⟨u,q⟩:=w.some;cases t:H0' a with
  |none=>rfl
  |some o' =>
   rcases S.fr a o' t with h | h
   ·rw[y] at h;cases h
   ·rw[q] at h;cases h
theorem Step.refl (s:Same H0 H):Step H0 H H0 H:=⟨Same.refl _,Same.refl _,s,fun _ _ e=>.inl e⟩
theorem Step.trans {A B:Hp} (x:Step H0 H H0' H') (y:Step H0' H' A B):Step H0 H A B:=by
 refine⟨x.s0.trans y.s0,x.s.trans y.s,y.s',fun b o e=>?_⟩
 rcases y.fr b o e with h | h
 ·exact x.fr b o h
 ·exact .inr (x.s.free h)
theorem Step.alloc {p:Addr}{o:HO} (s:Same H0 H) (hp:H p=none):Step H0 H (upd H0 p o) (upd H p o):=by
 have h0:H0 p=none:=s.free hp;refine⟨fun b u e=>by rw[upd_ne (ne_of_none e h0)];exact e,fun b u e=>by rw[upd_ne (ne_of_none e hp)];exact e,fun b u e=>?_,fun b u e=>?_⟩
 ·by_cases hb:b=p
  ·subst hb;rw[upd_same] at e ⊢;exact e
  ·rw[upd_ne hb] at e ⊢;exact s _ _ e
 ·by_cases hb:b=p
  ·subst hb;exact .inr hp
  ·rw[upd_ne hb] at e;exact .inl e
end
noncomputable def tE (K:PySem.W.Frag) (F:FE):TE:=fun σ H Q=>∃ c H0 ρ d ρ',RS K c H0 H ρ σ/\F ρ=some (d,ρ')/\∀ v H0' H',Same H0 H0'->RS K c H0' H' ρ' σ->Rep K H0' d v->Q v H'
noncomputable def tTt (K:PySem.W.Frag) (F:FT):TT:=fun σ H Q=>∃ c H0 ρ b ρ',RS K c H0 H ρ σ/\F ρ=some (b,ρ')/\∀ H0' H',Same H0 H0'->RS K c H0' H' ρ' σ->Q b H'
noncomputable def tAa (K:PySem.W.Frag) (F:FA):TA:=fun σ H Q=>∃ c H0 ρ ds ρ',RS K c H0 H ρ σ/\F ρ=some (ds,ρ')/\∀ vs H0' H',Same H0 H0'->RS K c H0' H' ρ' σ->Reps K H0' ds vs->Q vs H'
noncomputable def tOo (K:PySem.W.Frag) (F:FO):TO:=fun σ H Q=>∃ c H0 ρ o ρ',RS K c H0 H ρ σ/\F ρ=some (o,ρ')/\∀ H0' H',Same H0 H0'->RS K c H0' H' ρ' σ->Q o H'
noncomputable def XE (X:Cx) (e:Expr) (F:FE):Prop:=PE X e (tE X.K F)
noncomputable def XT (X:Cx) (e:Expr) (F:FT):Prop:=PT X e (tTt X.K F)
noncomputable def XW (X:Cx) (e:Expr) (F:FT):Prop:=PW X e (tTt X.K F)
noncomputable def XA (X:Cx) (es:List Expr) (F:FA):Prop:=PA X es (tAa X.K F)
noncomputable def XO (X:Cx) (e:Option Expr) (F:FO):Prop:=PO X e (tOo X.K F)
theorem bnd_eq {α β:Type}{x:Option α}{f:α->Option β}{b:β} (h:bnd x f=some b):∃ a,x=some a/\f a=some b:=by
 cases x with
 |none=>cases h
 |some a=>exact⟨a,rfl,h⟩
theorem PE.wk {X:Cx}{e:Expr}{t t':TE} (h:PE X e t) (w:∀ σ H Q,t' σ H Q->t σ H Q):PE X e t':=fun pins s σ H Q I q=>h pins s σ H Q I (w σ H Q q)
theorem PT.wk {X:Cx}{e:Expr}{t t':TT} (h:PT X e t) (w:∀ σ H Q,t' σ H Q->t σ H Q):PT X e t':=fun pins s σ H Q I q=>h pins s σ H Q I (w σ H Q q)
theorem PW.wk {X:Cx}{e:Expr}{t t':TT} (h:PW X e t) (w:∀ σ H Q,t' σ H Q->t σ H Q):PW X e t':=fun wh pins s σ H Q I q=>h wh pins s σ H Q I (w σ H Q q)
theorem PA.wk {X:Cx}{e:List Expr}{t t':TA} (h:PA X e t) (w:∀ σ H Q,t' σ H Q->t σ H Q):PA X e t':=fun pos pins s σ H Q I q=>h pos pins s σ H Q I (w σ H Q q)
theorem PS.wk {X:Cx}{e:Stmt}{t t':TS} (h:PS X e t) (w:∀ D σ H,t' D σ H->t D σ H):PS X e t':=fun pins s σ H D I q=>h pins s σ H D I (w D σ H q)
theorem PSs.wk {X:Cx}{e:List Stmt}{t t':TS} (h:PSs X e t) (w:∀ D σ H,t' D σ H->t D σ H):PSs X e t':=fun pins s σ H D I q=>h pins s σ H D I (w D σ H q)
section
variable {X:Cx}{pos:Pos}{a b e:Expr}{F G L:FE}{T U:FT}
theorem xv (i:Nat) {x:Str} (hN:X.N[i]?=some x:=by rfl) (hv:Vis X.env.scope x:=by first | exact Or.inl rfl | exact Or.inr (Or.inl rfl) | exact Or.inr (Or.inr rfl)) (hd:(x==("__debug__":Str))=false:=by decide)
  (hcd:(x==("__classdict__":Str))=false:=by decide):XE X (.Name x pos) (eV i) :=
 PE.wk (pe_var hN hv hd hcd) fun σ H Q hh0_=>by
  obtain⟨c,H0,ρ,d,ρ',R,f,q⟩:=hh0_;unfold eV at f;cases z:ρ[i]? with
  |none=>rw[z] at f;cases f
  |some sl =>
   rw[z] at f;cases sl with
   |no=>cases f
   |ow b o=>cases f
   |im d' =>
    have f':some (d',ρ)=some (d,ρ'):=f;cases f';obtain⟨v,e1,e2⟩:=R.im i _ z;exact⟨v,e1,q v H0 H (Same.refl _) R e2⟩
theorem xnever:XE X e eNever:=fun pins s σ H Q I hh0_=>by obtain⟨c,H0,ρ,d,ρ',R,f,q⟩:=hh0_;cases f
theorem eC_inv {d d':D}{ρ ρ':En} (h:eC d ρ=some (d',ρ')):d'=d/\ρ'=ρ:=by
 have h':some (d,ρ)=some (d',ρ'):=h;cases h';exact⟨rfl,rfl⟩
theorem xint {i:Int}{j}:XE X (.Constant (.int i) j pos) (eC (.int i)):=PE.wk pe_int fun σ H Q hh0_=>by
 obtain⟨c,H0,ρ,d,ρ',R,f,q⟩:=hh0_;obtain⟨rfl,rfl⟩:=eC_inv f;exact q _ H0 H (Same.refl _) R (by unfold Rep;rfl)
theorem xbl {i:Bool}{j}:XE X (.Constant (.bool i) j pos) (eC (.bl i)):=PE.wk pe_bl fun σ H Q hh0_=>by
 obtain⟨c,H0,ρ,d,ρ',R,f,q⟩:=hh0_;obtain⟨rfl,rfl⟩:=eC_inv f;exact q _ H0 H (Same.refl _) R (by unfold Rep;rfl)
theorem xstr {x:Str}{j}:XE X (.Constant (.str x) j pos) (eC (.str x)):=PE.wk pe_str fun σ H Q hh0_=>by
 obtain⟨c,H0,ρ,d,ρ',R,f,q⟩:=hh0_;obtain⟨rfl,rfl⟩:=eC_inv f;exact q _ H0 H (Same.refl _) R (by unfold Rep;rfl)
noncomputable abbrev Aft (K:PySem.W.Frag) (c:FC) (H0:Hp) (ρ:En) (σ:L2.St) (d:D) (Q:VK):Prop:=∀ v H0' H',Same H0 H0'->RS K c H0' H' ρ σ->Rep K H0' d v->Q v H'
noncomputable def OpD (K:PySem.W.Frag) (r:R2) (op:D->D->Option D):Prop:=∀ (c:FC) (H0 H:Hp) (ρ:En) (σ:L2.St) (x y d:D) (vx vy:V) (Q:VK),RS K c H0 H ρ σ->Rep K H0 x vx->Rep K H0 y vy->op x y=some d->Aft K c H0 ρ σ d Q->r vx vy H Q
noncomputable def BinOk (X:Cx) (op:Operator) (f:D->D->Option D):Prop:=∃ r,OpR X (binaryOp op) r/\OpD X.K r f
noncomputable def CmpOk (X:Cx) (op:CmpOp) (f:D->D->Option D):Prop:=∃ r,OpR X (compareOp op) r/\OpD X.K r f
theorem e2_inv {op:D->D->Option D}{ρ ρ':En}{d:D} (h:e2 op F G ρ=some (d,ρ')):∃ x ρ1 y,F ρ=some (x,ρ1)/\G ρ1=some (y,ρ')/\op x y=some d:=by
 unfold e2 at h;obtain⟨⟨x,ρ1⟩,h1,h⟩:=bnd_eq h;obtain⟨⟨y,ρ2⟩,h2,h⟩:=bnd_eq h;obtain⟨z,h3,h⟩:=bnd_eq h;have h':some (z,ρ2)=some (d,ρ'):=h;cases h';exact⟨x,ρ1,y,h1,h2,h3⟩
theorem two_of {K:PySem.W.Frag}{op:D->D->Option D}{r:R2} (o:OpD K r op) {σ:L2.St}{H:Hp}{Q:VK} (h:tE K (e2 op F G) σ H Q):tOp r (tE K F) (tE K G) σ H Q:=by
 obtain⟨c,H0,ρ,d,ρ',R,f,q⟩:=h;obtain⟨x,ρ1,y,h1,h2,h3⟩:=e2_inv f;refine⟨c,H0,ρ,x,ρ1,R,h1,fun vx H1 Hh s1 R1 r1=>?_⟩
 refine⟨c,H1,ρ1,y,ρ',R1,h2,fun vy H2 Hh2 s2 R2 r2=>?_⟩
 exact o c H2 Hh2 ρ' σ x y d vx vy Q R2 (Rep.mono s2 x r1) r2 h3 fun v H3 Hh3 s3 R3 r3=>q v H3 Hh3 (s1.trans (s2.trans s3)) R3 r3
theorem xb {op:Operator}{f:D->D->Option D} (o:BinOk X op f) (ha:XE X a F) (hb:XE X b G):XE X (.BinOp a op b pos) (e2 f F G):=by
 obtain⟨r,h1,h2⟩:=o;exact PE.wk (pe_op h1 ha hb) fun σ H Q h=>two_of h2 h
theorem xcmp {op:CmpOp}{f:D->D->Option D} (o:CmpOk X op f) (ha:XE X a F) (hb:XE X b G) (hm:behindInMarks op b=false:=by first | exact nomark _ | with_unfolding_all rfl):XE X (.Compare a [op] [b] pos) (e2 f F G):=by
 obtain⟨r,h1,h2⟩:=o;exact PE.wk (pe_cmpR h1 ha hb hm) fun σ H Q h=>two_of h2 h
theorem tB_of {K:PySem.W.Frag}{t:TE}{σ:L2.St}{H:Hp}{Q:Bool->Hp->Prop} (w:∀ Q,tE K F σ H Q->t σ H Q) (h:tTt K (tB F) σ H Q):tTest t σ H Q:=by
 obtain⟨c,H0,ρ,b,ρ',R,f,q⟩:=h;unfold tB at f;obtain⟨⟨d,ρ1⟩,h1,f⟩:=bnd_eq f;obtain⟨b',h2,f⟩:=bnd_eq f;have f':some (b',ρ1)=some (b,ρ'):=f;cases f';refine w _ ⟨c,H0,ρ,d,_,R,h1,fun v H1 Hh s1 R1 r1=>?_⟩
 cases d with
 |bl k =>
  have e:k=b:=Option.some.inj h2;unfold Rep at r1;exact⟨k,r1,by rw[e];exact q H1 Hh s1 R1⟩
 |_=>cases h2
theorem xt {op:CmpOp}{f:D->D->Option D} (o:CmpOk X op f) (ha:XE X a F) (hb:XE X b G) (hm:behindInMarks op b=false:=by first | exact nomark _ | with_unfolding_all rfl):XT X (.Compare a [op] [b] pos) (tB (e2 f F G)):=by
 obtain⟨r,h1,h2⟩:=o;exact PT.wk (pt_cmpR h1 ha hb hm) fun σ H Q h=>tB_of (fun Q h=>two_of h2 h) h
theorem three_of {K:PySem.W.Frag}{op op':D->D->Option D}{r r':R2} (o:OpD K r op) (o':OpD K r' op') {σ:L2.St}{H:Hp}{Q:VK} (h:tE K (e3 op op' F G L) σ H Q):tChain r r' (tE K F) (tE K G) (tE K L) σ H Q:=by
 obtain⟨c,H0,ρ,d,ρ',R,f,q⟩:=h;unfold e3 at f;obtain⟨⟨x,ρ1⟩,h1,f⟩:=bnd_eq f;obtain⟨⟨y,ρ2⟩,h2,f⟩:=bnd_eq f;obtain⟨z,h3,f⟩:=bnd_eq f;obtain⟨k,h4,f⟩:=bnd_eq f;dsimp only at h2 h3 h4 f;refine⟨c,H0,ρ,x,ρ1,R,h1,fun vx H1 Hh s1 R1 r1=>?_⟩
 refine⟨c,H1,ρ1,y,ρ2,R1,h2,fun vy H2 Hh2 s2 R2 r2=>?_⟩
 refine o c H2 Hh2 ρ2 σ x y z vx vy _ R2 (Rep.mono s2 x r1) r2 h3 fun v H3 Hh3 s3 R3 r3=>?_
 cases z with
 |bl k' =>
  have e:k'=k:=Option.some.inj h4;subst e;unfold Rep at r3;refine⟨k',r3,?_⟩;cases k' with
  |false =>
   rw[if_neg Bool.false_ne_true] at f ⊢;have f':some (D.bl false,ρ2)=some (d,ρ'):=f;cases f';exact q _ H3 Hh3 (s1.trans (s2.trans s3)) R3 (by unfold Rep;rfl)
  |true =>
   rw[if_pos rfl] at f ⊢;obtain⟨⟨w,ρ3⟩,h5,f⟩:=bnd_eq f;obtain⟨d',h6,f⟩:=bnd_eq f;dsimp only at h6 f;have f':some (d',ρ3)=some (d,ρ'):=f;cases f';refine⟨c,H3,ρ2,w,_,R3,h5,fun vw H4 Hh4 s4 R4 r4=>?_⟩
   exact o' c H4 Hh4 _ σ y w d vy vw Q R4 (Rep.mono s4 y (Rep.mono s3 y r2)) r4 h6 fun v H5 Hh5 s5 R5 r5=>q v H5 Hh5 (s1.trans (s2.trans (s3.trans (s4.trans s5)))) R5 r5
 |_=>cases h4
theorem xt3 {op op':CmpOp}{f f':D->D->Option D}{m:Expr} (o:CmpOk X op f) (o':CmpOk X op' f') (ha:XE X a F) (hb:XE X b G) (hc:XE X m L) (hm:lastMarks [op,op'] [b,m]=false:=by with_unfolding_all rfl):XT X (.Compare a [op,op'] [b,m] pos) (tB (e3 f f' F G L)):=by
 obtain⟨r,h1,h2⟩:=o;obtain⟨r',h1',h2'⟩:=o';exact PT.wk (pt_chain h1 h1' ha hb hc hm) fun σ H Q h=>tB_of (fun Q h=>three_of h2 h2' h) h
theorem xif {c:Expr} (hc:XT X c T) (ha:XE X a F) (hb:XE X b G):XE X (.IfExp c a b pos) (eIf T F G):=PE.wk (pe_ifExp hc ha hb) fun σ H Q hh0_=>by
 obtain⟨c,H0,ρ,d,ρ',R,f,q⟩:=hh0_;unfold eIf at f;obtain⟨⟨k,ρ1⟩,h1,f⟩:=bnd_eq f;dsimp only at f;refine⟨c,H0,ρ,k,ρ1,R,h1,fun H1 Hh s1 R1=>?_⟩
 cases k with
 |true =>
  rw[if_pos rfl] at f ⊢;exact⟨c,H1,ρ1,d,ρ',R1,f,fun v H2 Hh2 s2 R2 r2=>q v H2 Hh2 (s1.trans s2) R2 r2⟩
 |false =>
  rw[if_neg Bool.false_ne_true] at f ⊢;exact⟨c,H1,ρ1,d,ρ',R1,f,fun v H2 Hh2 s2 R2 r2=>q v H2 Hh2 (s1.trans s2) R2 r2⟩
theorem xone {op} (h:XE X a F):XE X (.BoolOp op [a] pos) F:=pe_one h
variable {rest:List Expr}
theorem xor (ha:XE X a F) (hb:XE X (.BoolOp .Or (b::rest) pos) G):XE X (.BoolOp .Or (a::b::rest) pos) (eOr F G):=PE.wk (pe_or ha hb) fun σ H Q hh0_=>by
 obtain⟨c,H0,ρ,d,ρ',R,f,q⟩:=hh0_;unfold eOr at f;obtain⟨⟨z,ρ1⟩,h1,f⟩:=bnd_eq f;obtain⟨k,h2,f⟩:=bnd_eq f;dsimp only at h2 f;refine⟨c,H0,ρ,z,ρ1,R,h1,fun v H1 Hh s1 R1 r1=>?_⟩
 cases z with
 |bl k' =>
  have e:k'=k:=Option.some.inj h2;subst e;unfold Rep at r1;refine⟨k',r1,?_⟩;cases k' with
  |true =>
   rw[if_pos rfl] at f ⊢;have f':some (D.bl true,ρ1)=some (d,ρ'):=f;cases f';exact q _ H1 Hh s1 R1 (by unfold Rep;rfl)
  |false =>
   rw[if_neg Bool.false_ne_true] at f ⊢;exact⟨c,H1,ρ1,d,ρ',R1,f,fun v H2 Hh2 s2 R2 r2=>q v H2 Hh2 (s1.trans s2) R2 r2⟩
 |_=>cases h2
theorem xnot (ha:XE X a F):XE X (.UnaryOp .Not a pos) (eNot F):=PE.wk (pe_not ha) fun σ H Q hh0_=>by
 obtain⟨c,H0,ρ,d,ρ',R,f,q⟩:=hh0_;unfold eNot at f;obtain⟨⟨z,ρ1⟩,h1,f⟩:=bnd_eq f;obtain⟨k,h2,f⟩:=bnd_eq f;dsimp only at h2 f;have f':some (D.bl (!k),ρ1)=some (d,ρ'):=f;cases f';refine⟨c,H0,ρ,z,_,R,h1,fun v H1 Hh s1 R1 r1=>?_⟩
 cases z with
 |bl k' =>
  have e:k'=k:=Option.some.inj h2;subst e;unfold Rep at r1;exact⟨k',r1,q _ H1 Hh s1 R1 (by unfold Rep;rfl)⟩
 |_=>cases h2
theorem xw (h:XW X a T):XT X a T:=PW.pt h
theorem xwor1 (ha:XT X a T):XW X (.BoolOp .Or [a] pos) T:=pw_or1 ha
theorem xwor (ha:XT X a T) (hb:XW X (.BoolOp .Or (b::rest) pos) U):XW X (.BoolOp .Or (a::b::rest) pos) (tOr T U):=PW.wk (pw_or ha hb) fun σ H Q hh0_=>by
 obtain⟨c,H0,ρ,k,ρ',R,f,q⟩:=hh0_;unfold tOr at f;obtain⟨⟨k',ρ1⟩,h1,f⟩:=bnd_eq f;dsimp only at f;refine⟨c,H0,ρ,k',ρ1,R,h1,fun H1 Hh s1 R1=>?_⟩
 cases k' with
 |true =>
  rw[if_pos rfl] at f ⊢;have f':some (true,ρ1)=some (k,ρ'):=f;cases f';exact q H1 Hh s1 R1
 |false =>
  rw[if_neg Bool.false_ne_true] at f ⊢;exact⟨c,H1,ρ1,k,ρ',R1,f,fun H2 Hh2 s2 R2=>q H2 Hh2 (s1.trans s2) R2⟩
theorem xtnot (ha:XT X a T):XT X (.UnaryOp .Not a pos) (tNot T):=PT.wk (pt_not ha) fun σ H Q hh0_=>by
 obtain⟨c,H0,ρ,k,ρ',R,f,q⟩:=hh0_;unfold tNot at f;obtain⟨⟨k',ρ1⟩,h1,f⟩:=bnd_eq f;have f':some (!k',ρ1)=some (k,ρ'):=f;cases f';exact⟨c,H0,ρ,k',_,R,h1,fun H1 Hh s1 R1=>q H1 Hh s1 R1⟩
theorem tru_of {K:PySem.W.Frag}{H0 H:Hp}{d:D}{v:V}{k:Bool} (s:Same H0 H) (r:Rep K H0 d v) (h:dTru d=some k):TruV K v H k:=by
 cases d with
 |non=>unfold Rep at r;subst r;cases h;rfl
 |bl b=>unfold Rep at r;subst r;cases h;rfl
 |int i=>unfold Rep at r;subst r;cases h;rfl
 |str x=>cases h
 |opq=>cases h
 |tup ds =>
  unfold Rep at r;obtain⟨p,vs,rfl,q,t⟩:=r;have e:(!ds.isEmpty)=k:=Option.some.inj h;have e2:ds.isEmpty=vs.isEmpty:=by rw[Bool.eq_iff_iff,List.isEmpty_iff_length_eq_zero,List.isEmpty_iff_length_eq_zero,t.length]
  exact .inr (.inl ⟨vs,Same.seqT s q,by rw[<- e2];exact e.symm⟩)
 |lst ds =>
  unfold Rep at r;obtain⟨p,vs,rfl,q,t⟩:=r;have e:(!ds.isEmpty)=k:=Option.some.inj h;have e2:ds.isEmpty=vs.isEmpty:=by rw[Bool.eq_iff_iff,List.isEmpty_iff_length_eq_zero,List.isEmpty_iff_length_eq_zero,t.length]
  exact .inl ⟨vs,Same.seq s q,by rw[<- e2];exact e.symm⟩
theorem xtv (ha:XE X a F) (he:∀ whole,isTrue a X.env whole=(do let v <- whole;standAt a.pos;holding [v] (truthy v))):XT X a (tV F):=PT.wk (pt_truth ha he) fun σ H Q hh0_=>by
 obtain⟨c,H0,ρ,k,ρ',R,f,q⟩:=hh0_;unfold tV at f;obtain⟨⟨d,ρ1⟩,h1,f⟩:=bnd_eq f;obtain⟨k',h2,f⟩:=bnd_eq f;have f':some (k',ρ1)=some (k,ρ'):=f;cases f';exact⟨c,H0,ρ,d,_,R,h1,fun v H1 Hh s1 R1 r1=>⟨k,tru_of R1.same r1 h2,q H1 Hh s1 R1⟩⟩
theorem xaN:XA X [] aN:=PA.wk pa_nil fun σ H Q hh0_=>by
 obtain⟨c,H0,ρ,ds,ρ',R,f,q⟩:=hh0_;have f':some (([]:List D),ρ)=some (ds,ρ'):=f;cases f';exact q [] H0 H (Same.refl _) R Reps.nil_
theorem xaC {es:List Expr}{A:FA} (ha:XE X e F) (hr:XA X es A) (hs:starEach (e::es) X.env=(false,eval e X.env)::starEach es X.env:=by rfl):XA X (e::es) (aC F A):=PA.wk (pa_cons ha hr hs) fun σ H Q hh0_=>by
 obtain⟨c,H0,ρ,ds,ρ',R,f,q⟩:=hh0_;unfold aC at f;obtain⟨⟨d,ρ1⟩,h1,f⟩:=bnd_eq f;obtain⟨⟨r,ρ2⟩,h2,f⟩:=bnd_eq f;have f':some (d::r,ρ2)=some (ds,ρ'):=f;cases f';refine⟨c,H0,ρ,d,ρ1,R,h1,fun v H1 Hh s1 R1 r1=>?_⟩
 refine⟨c,H1,ρ1,r,_,R1,h2,fun vs H2 Hh2 s2 R2 r2=>?_⟩
 exact q _ H2 Hh2 (s1.trans s2) R2 (Reps.cons (Rep.mono s2 d r1) r2)
theorem t1000 {n:Nat} (h:n<=1000):n<=sizeLine:=Nat.le_of_lt (small1000 h)
theorem xtup {es:List Expr}{A:FA}{x1} (h:XA X es A):XE X (.Tuple es x1 pos) (eTup A):=PE.wk (pe_tup h) fun σ H Q hh0_=>by
 obtain⟨c,H0,ρ,d,ρ',R,f,q⟩:=hh0_;unfold eTup at f;obtain⟨⟨ds,ρ1⟩,h1,f⟩:=bnd_eq f;dsimp only at f
 split at f
 ·rename_i hl
  cases f;refine⟨c,H0,ρ,ds,_,R,h1,fun vs H1 Hh s1 R1 r1=>⟨by rw[<- r1.length];exact t1000 hl,fun p hp=>?_⟩⟩
  have S:=Step.alloc (o:=.tup vs) R1.same hp;refine q _ _ _ (s1.trans S.s0) (R1.after S) ?_;unfold Rep;exact⟨p,vs,rfl,.inl (.inl upd_same),Reps.mono S.s0 ds r1⟩
 ·cases f
theorem xlst {es:List Expr}{A:FA} (h:XA X es A):XE X (.List es pos) (eLst A):=PE.wk (pe_lst h) fun σ H Q hh0_=>by
 obtain⟨c,H0,ρ,d,ρ',R,f,q⟩:=hh0_;unfold eLst at f;obtain⟨⟨ds,ρ1⟩,h1,f⟩:=bnd_eq f;dsimp only at f
 split at f
 ·rename_i hl
  cases f;refine⟨c,H0,ρ,ds,_,R,h1,fun vs H1 Hh s1 R1 r1=>⟨by rw[<- r1.length];exact t1000 hl,fun p hp=>?_⟩⟩
  have S:=Step.alloc (o:=.lst vs) R1.same hp;refine q _ _ _ (s1.trans S.s0) (R1.after S) ?_;unfold Rep;exact⟨p,vs,rfl,.inl (.inl upd_same),Reps.mono S.s0 ds r1⟩
 ·cases f
theorem dPl_eq:@dPl=@ixN:=rfl
theorem at_of {K:PySem.W.Frag}{H:Hp}{ds:List D}{vs:List V}{i:Int}{d:D} (r:Reps K H ds vs) (h:atD ds i=some d):∃ v,atI vs i=some v/\Rep K H d v:=by
 unfold atD at h;obtain⟨j,h1,h2⟩:=bnd_eq (x:=dPl ds.length i) (f:=fun j=>ds[j]?) h
 obtain⟨v,e1,e2⟩:=r.get h2;refine⟨v,?_,e2⟩;unfold atI;rw[<- r.length,<- dPl_eq,h1];exact e1
theorem PO.wk {X:Cx}{e:Option Expr}{t t':TO} (h:PO X e t) (w:∀ σ H Q,t' σ H Q->t σ H Q):PO X e t':=fun pins s σ H Q I q=>h pins s σ H Q I (w σ H Q q)
theorem xoN:XO X none oN:=PO.wk po_none fun σ H Q hh0_=>by
 obtain⟨c,H0,ρ,o,ρ',R,f,q⟩:=hh0_;have f':some ((none:Option Int),ρ)=some (o,ρ'):=f;cases f';exact q H0 H (Same.refl _) R
theorem xoS (h:XE X e F):XO X (some e) (oS F):=PO.wk (po_some h) fun σ H Q hh0_=>by
 obtain⟨c,H0,ρ,o,ρ',R,f,q⟩:=hh0_;unfold oS at f;obtain⟨⟨d,ρ1⟩,h1,f⟩:=bnd_eq f;obtain⟨i,h2,f⟩:=bnd_eq f;dsimp only at h2 f;have f':some (some i,ρ1)=some (o,ρ'):=f;cases f';refine⟨c,H0,ρ,d,_,R,h1,fun v H1 Hh s1 R1 r1=>?_⟩
 cases d with
 |int j =>
  have e:j=i:=Option.some.inj h2;subst e;unfold Rep at r1;exact⟨j,r1,q H1 Hh s1 R1⟩
 |_=>cases h2
theorem dEnd_eq (n d:Nat) (o:Option Int):dEnd n d o=HT.sIx n d o:=by
 cases o with
 |none=>rfl
 |some v =>
  show (if v<0 then max (v+(n:Int)) 0 else min v (n:Int)).toNat=if v<0 then (v+(n:Int)).toNat else min v.toNat n
  split <;> omega
theorem cut_of {K:PySem.W.Frag}{H:Hp}{ds:List D}{vs:List V} (r:Reps K H ds vs) (lo hi:Option Int):Reps K H (dCut ds lo hi) (cutV vs lo hi):=by
 unfold dCut cutV;rw[dEnd_eq,dEnd_eq,r.length];exact (r.drop _).take _
end
end Fx
set_option maxRecDepth 100000
namespace Fx
open PySem PySem.Spec PyProof.Rows L2
section
variable {X:Cx}{K:PySem.W.Frag}
theorem opD_int {C:Int->Int->Prop}{g:Int->Int->V}{f:D->D->Option D} (h:∀ x y d,f x y=some d->∃ i j,x=.int i/\y=.int j/\C i j/\∀ H,Rep K H d (g i j)):OpD K (rI C g) f:=fun c H0 H ρ σ x y d vx vy Q R r1 r2 e q=>by
 obtain⟨i,j,rfl,rfl,hc,hr⟩:=h x y d e;unfold Rep at r1 r2;exact⟨i,j,r1,r2,hc,q _ H0 H (Same.refl _) R (hr H0)⟩
theorem opD_int0 {g:Int->Int->V}{f:D->D->Option D} (h:∀ x y d,f x y=some d->∃ i j,x=.int i/\y=.int j/\∀ H,Rep K H d (g i j)):OpD K (rI0 g) f:=fun c H0 H ρ σ x y d vx vy Q R r1 r2 e q=>by
 obtain⟨i,j,rfl,rfl,hr⟩:=h x y d e;unfold Rep at r1 r2;exact⟨i,j,r1,r2,q _ H0 H (Same.refl _) R (hr H0)⟩
theorem rep_int (H:Hp) (i:Int):Rep K H (.int i) (.int i):=by unfold Rep;rfl
theorem rep_bl (H:Hp) (i:Bool):Rep K H (.bl i) (.bl i):=by unfold Rep;rfl
theorem ifs {c:Prop} [Decidable c] {α:Type}{a d:α} (h:(if c then some a else none)=some d):c/\a=d:=by
 by_cases hc:c
 ·rw[if_pos hc] at h;exact⟨hc,Option.some.inj h⟩
 ·rw[if_neg hc] at h;cases h
theorem oSub:BinOk X .Sub dSub:=⟨_,op_sub,opD_int0 fun x y d e=>by
 cases x <;> cases y <;> cases e
 exact⟨_,_,rfl,rfl,fun H=>rep_int H _⟩⟩
noncomputable def CMulD (i j:Int):Prop:=okMul i j=true
theorem intBits_1000 {i:Int} (h:bigM i=true):Builtin.Int.intBits i<=1000:=by
 have h:i.natAbs<2 ^ 1000:=of_decide_eq_true h;unfold Builtin.Int.intBits
 split
 ·exact Nat.zero_le _
 ·rename_i hz
  have hz:i≠0:=by simpa using hz
  have h0:i.natAbs≠0:=by omega
  have:=(Nat.log2_lt h0).mpr h;omega
theorem CMulD.ok {i j:Int} (h:CMulD i j):IntMulOk i j:=by
 unfold CMulD okMul at h;simp only[Bool.or_eq_true,Bool.and_eq_true,decide_eq_true_eq] at h
 rcases h with (h | h) | ⟨h1,h2⟩
 ·exact IntMulOk.of_left (intBits_le_64 (by omega) (by omega))
 ·exact IntMulOk.of_right (intBits_le_64 (by omega) (by omega))
 ·unfold IntMulOk
  have b1:=intBits_1000 h1;have b2:=intBits_1000 h2
  have:Builtin.Int.intTooBig ((Builtin.Int.intBits i:Int)+(Builtin.Int.intBits j:Int))=false:=by
   unfold Builtin.Int.intTooBig;refine decide_eq_false ?_;have:(2000:Int)<=bitsLine:=by decide
   omega
  simp[this]
theorem oMul:BinOk X .Mult dMul:=⟨rI CMulD fun i j=>.int (i*j),opI fun _ _ _ _ _ _ _ hc q=>mul_int q hc.ok,opD_int fun x y d e=>by
 cases x with
 |int i =>
  cases y with
  |int j =>
   obtain⟨h,rfl⟩:=ifs (c:=okMul i j=true) e;exact⟨_,_,rfl,rfl,h,fun H=>rep_int H _⟩
  |_=>cases e
 |_=>cases y <;> cases e⟩
noncomputable def CDivD (i j:Int):Prop:=okDiv j=true
theorem oDiv:BinOk X .FloorDiv dDiv:=⟨rI CDivD fun i j=>.int (i.fdiv j),opI fun i j _ _ _ _ _ hc q=>by
  unfold CDivD okDiv at hc;simp only[Bool.and_eq_true,decide_eq_true_eq] at hc;refine floordiv_int hc.1 q (.inl (PyProof.noPylong_of_log2 ?_));have h0:j.natAbs≠0:=by have:=hc.1;omega
  have:=(Nat.log2_lt h0).mpr hc.2
  omega,opD_int fun x y d e=>by
 cases x with
 |int i =>
  cases y with
  |int j =>
   obtain⟨h,rfl⟩:=ifs (c:=okDiv j=true) e;exact⟨_,_,rfl,rfl,h,fun H=>rep_int H _⟩
  |_=>cases e
 |_=>cases y <;> cases e⟩
theorem oMod:BinOk X .Mod dMod:=⟨_,op_modN,opD_int fun x y d e=>by
 cases x with
 |int i =>
  cases y with
  |int j =>
   obtain⟨h,rfl⟩:=ifs (c:=j≠0) e;exact⟨_,_,rfl,rfl,h,fun H=>rep_int H _⟩
  |_=>cases e
 |_=>cases y <;> cases e⟩
theorem oPow:BinOk X .Pow dPow:=⟨_,op_pow,opD_int fun x y d e=>by
 cases x with
 |int i =>
  cases y with
  |int j =>
   obtain⟨h,rfl⟩:=ifs (c:=0<=j/\j<=64/\i.natAbs<2 ^ 64) e;exact⟨_,_,rfl,rfl,⟨h.1,by omega,h.2.2⟩,fun H=>rep_int H _⟩
  |_=>cases e
 |_=>cases y <;> cases e⟩
noncomputable def rCatR (K:PySem.W.Frag):R2:=fun x y H Q=>∃ l b xs zs,x=.ref l/\y=.ref b/\SqL K H l xs/\SqL K H b zs/\xs.length+zs.length<=sizeLine/\∀ p,H p=none->Q (.ref p) (upd H p (.lst (xs++zs)))
theorem op_catR:OpR X (binaryOp .Add) (rCatR X.K):=by
 intro pins s σ H x y v u Q I rx ry h;obtain⟨l,b,xs,zs,rfl,rfl,hH,hB,hz,q⟩:=h;cases rx;cases ry;obtain⟨its,r,pl,_⟩:=I.list hH;obtain⟨its2,r2,pl2,_⟩:=I.list hB;have hl:=r.length;have hl2:=r2.length;obtain⟨⟨cls,dd,data,sl⟩,ho,hc,n,hd⟩:=pl.isList;obtain⟨⟨cls2,dd2,data2,sl2⟩,ho2,hc2,n2,hd2⟩:=pl2.isList;simp only at hc hd hc2 hd2;subst hc hd hc2 hd2;have e:its.toArray++its2.toArray=(its++its2).toArray:=by simp
 refine concat_meets ⟨_,ho,rfl⟩ ⟨_,ho2,rfl⟩ noFill_list_add seq_list_add PySem.F.slot_list_add PySem.F.entry_list_add (PySem.F.args_list_add_2 _ _) (list_addW l b its.toArray its2.toArray n n2 dd dd2 sl sl2 (by rw[List.size_toArray,List.size_toArray];omega)) ⟨ho,ho2,?_⟩
 rw[e];exact⟨.ref _,_,I.lnew (t':=s.toks) (r.append r2) (by rw[List.length_append];omega),rfl,q _ I.fresh⟩
noncomputable def rAddD (K:PySem.W.Frag):R2:=fun x y H Q=>rI0 (fun i j=>.int (i+j)) x y H Q\/((∃ i j,x=.str i/\y=.str j/\i.length+j.length<=sizeLine/\Q (.str (i++j)) H)\/rCatR K x y H Q)
theorem oAdd:BinOk X .Add dAdd:=⟨rAddD X.K,op_add.or (op_add_str.or op_catR),fun c H0 H ρ σ x y d vx vy Q R r1 r2 e q=>by
 cases x with
 |int i =>
  cases y with
  |int j =>
   cases e;unfold Rep at r1 r2;exact .inl ⟨_,_,r1,r2,q _ H0 H (Same.refl _) R (rep_int H0 _)⟩
  |_=>cases e
 |str i =>
  cases y with
  |str j =>
   obtain⟨h,rfl⟩:=ifs (c:=i.length+j.length<=sizeLine) e;unfold Rep at r1 r2;exact .inr (.inl ⟨_,_,r1,r2,h,q _ H0 H (Same.refl _) R (by unfold Rep;rfl)⟩)
  |_=>cases e
 |lst ds =>
  cases y with
  |lst es =>
   obtain⟨h,rfl⟩:=ifs (c:=ds.length+es.length<=sizeLine) e;unfold Rep at r1 r2;obtain⟨p,vs,rfl,s,t⟩:=r1;obtain⟨p2,vs2,rfl,s2,t2⟩:=r2;refine .inr (.inr ⟨p,p2,vs,vs2,rfl,rfl,Same.seq R.same s,Same.seq R.same s2,by rw[<- t.length,<- t2.length];exact h,fun p' hp=>?_⟩)
   have S:=Step.alloc (o:=.lst (vs++vs2)) R.same hp;refine q _ _ _ S.s0 (R.after S) ?_;unfold Rep;exact⟨p',_,rfl,.inl (.inl upd_same),Reps.mono S.s0 _ (t.app t2)⟩
  |_=>cases e
 |_=>cases y <;> cases e⟩
theorem xneg {a:Expr}{F:FE}{pos:Pos} (ha:XE X a F):XE X (.UnaryOp .USub a pos) (e1 dNeg F):=PE.wk (pe_un un_neg ha) fun σ H Q hh0_=>by
 obtain⟨c,H0,ρ,d,ρ',R,f,q⟩:=hh0_;unfold e1 at f;obtain⟨⟨x,ρ1⟩,h1,f⟩:=bnd_eq f;obtain⟨d',h2,f⟩:=bnd_eq f;dsimp only at h2 f;have f':some (d',ρ1)=some (d,ρ'):=f;cases f';refine⟨c,H0,ρ,x,_,R,h1,fun v H1 Hh s1 R1 r1=>?_⟩
 cases x with
 |int i =>
  have e:D.int (-i)=d:=Option.some.inj h2;subst e;unfold Rep at r1;exact⟨i,r1,q _ H1 Hh s1 R1 (rep_int _ _)⟩
 |_=>cases h2
theorem cmpD {p:Int->Int->Bool}:OpD K (rI0 fun i j=>.bl (p i j)) (dCmp p):=opD_int0 fun x y d e=>by
 cases x <;> cases y <;> cases e
 exact⟨_,_,rfl,rfl,fun H=>rep_bl H _⟩
theorem cLt:CmpOk X .Lt dLt:=⟨_,op_lt,cmpD⟩
theorem cLe:CmpOk X .LtE dLe:=⟨_,op_le,cmpD⟩
theorem cGt:CmpOk X .Gt dGt:=⟨_,op_gt,cmpD⟩
end
end Fx
set_option maxRecDepth 100000
namespace Fx
open PySem PySem.Spec PyProof.Rows L2
theorem eqDs_all:∀ (ds es:List D),eqDs ds es=((List.range (min ds.length es.length)).all (fun j=>eqD (ds.getD j .non) (es.getD j .non))&&ds.length==es.length)
 |[],[]=>by simp[eqDs]
 |[],e::es=>by simp[eqDs]
 |d::ds,[]=>by simp[eqDs]
 |d::ds,e::es=>by
  rw[eqDs,eqDs_all ds es];have h:min (d::ds).length (e::es).length=min ds.length es.length+1:=by simp only[List.length_cons];omega
  rw[h,List.range_succ_eq_map,List.all_cons,List.all_map];have h2:((d::ds).length==(e::es).length)=(ds.length==es.length):=by simp
  rw[h2,Bool.and_assoc];rfl
theorem dpDs_le:∀ {ds:List D}{n:Nat}{j:Nat}{d:D},dpDs ds<=n->ds[j]?=some d->dpD d<=n
 |[],_,_,_,_,e=>by simp at e
 |d::ds,n,0,_,h,e=>by
  rw[dpDs_cons] at h;simp at e;subst e;omega
 |d::ds,n,j+1,d',h,e=>by
  rw[dpDs_cons] at h;exact dpDs_le (ds:=ds) (n:=n) (j:=j) (by omega) (by simpa using e)
section
variable {X:Cx}{pins:List (Addr×Obj)}{σ:L2.St}{H:Hp}{s:Shared}
theorem eqDs_of {ds es:List D}{vs:List V} (hd:Reps X.K H ds vs) (he:Reps X.K H es vs) (h:∀ (j:Nat) (d e:D) (v:V),ds[j]?=some d->es[j]?=some e->Rep X.K H d v->Rep X.K H e v->eqD d e=true):eqDs ds es=true:=by
 rw[eqDs_all];have l1:=hd.length;have l2:=he.length;rw[Bool.and_eq_true,List.all_eq_true];refine⟨fun j hj=>?_,by simp;omega⟩
 have hj':j<ds.length:=by have:=List.mem_range.mp hj;omega
 have hk':j<es.length:=by omega
 obtain⟨v,a1,a2⟩:=hd.get (i:=j) (d:=ds[j]) (by simp[hj'])
 obtain⟨v',b1,b2⟩:=he.get (i:=j) (d:=es[j]) (by simp[hk'])
 rw[a1] at b1;cases b1;have:=h j ds[j] es[j] v (by simp[hj']) (by simp[hk']) a2 b2
 simpa [List.getD,hj',hk'] using this
theorem no_tl (I:Inv X pins σ H s) {a:Addr}{xs ys:List V} (h:SqT X.K H a xs) (h':SqL X.K H a ys):False:=by
 obtain⟨_,_,⟨o,e,c,_⟩,_⟩:=I.tuple h;obtain⟨_,_,⟨o',n,e',c',_⟩,_⟩:=I.list h';rw[e] at e';cases e';have z:=c.symm.trans c';injection z with z
 exact absurd z (by decide)
theorem rep_one (I:Inv X pins σ H s):∀ (n:Nat) (d e:D) (v:V),dpD d<=n->dpD d<1000->dpD e<1000->Rep X.K H d v->Rep X.K H e v->eqD d e=true
 |n,d,e,v,hn,hz1,hz2,r1,r2=>by
  cases d with
  |opq=>exact absurd hz1 (by rw[dpD_opq];omega)
  |non =>
   cases e with
   |opq=>exact absurd hz2 (by rw[dpD_opq];omega)
   |non=>unfold Rep at r1 r2;rw[r1] at r2;first | (cases r2;simp[eqD]) | cases r2
   |bl b2=>unfold Rep at r1 r2;rw[r1] at r2;first | (cases r2;simp[eqD]) | cases r2
   |int b2=>unfold Rep at r1 r2;rw[r1] at r2;first | (cases r2;simp[eqD]) | cases r2
   |str b2=>unfold Rep at r1 r2;rw[r1] at r2;first | (cases r2;simp[eqD]) | cases r2
   |tup es=>unfold Rep at r1 r2;obtain⟨p,vs,z,_⟩:=r2;rw[r1] at z;cases z
   |lst es=>unfold Rep at r1 r2;obtain⟨p,vs,z,_⟩:=r2;rw[r1] at z;cases z
  |bl b1 =>
   cases e with
   |opq=>exact absurd hz2 (by rw[dpD_opq];omega)
   |non=>unfold Rep at r1 r2;rw[r1] at r2;first | (cases r2;simp[eqD]) | cases r2
   |bl b2=>unfold Rep at r1 r2;rw[r1] at r2;first | (cases r2;simp[eqD]) | cases r2
   |int b2=>unfold Rep at r1 r2;rw[r1] at r2;first | (cases r2;simp[eqD]) | cases r2
   |str b2=>unfold Rep at r1 r2;rw[r1] at r2;first | (cases r2;simp[eqD]) | cases r2
   |tup es=>unfold Rep at r1 r2;obtain⟨p,vs,z,_⟩:=r2;rw[r1] at z;cases z
   |lst es=>unfold Rep at r1 r2;obtain⟨p,vs,z,_⟩:=r2;rw[r1] at z;cases z
  |int b1 =>
   cases e with
   |opq=>exact absurd hz2 (by rw[dpD_opq];omega)
   |non=>unfold Rep at r1 r2;rw[r1] at r2;first | (cases r2;simp[eqD]) | cases r2
   |bl b2=>unfold Rep at r1 r2;rw[r1] at r2;first | (cases r2;simp[eqD]) | cases r2
   |int b2=>unfold Rep at r1 r2;rw[r1] at r2;first | (cases r2;simp[eqD]) | cases r2
   |str b2=>unfold Rep at r1 r2;rw[r1] at r2;first | (cases r2;simp[eqD]) | cases r2
   |tup es=>unfold Rep at r1 r2;obtain⟨p,vs,z,_⟩:=r2;rw[r1] at z;cases z
   |lst es=>unfold Rep at r1 r2;obtain⟨p,vs,z,_⟩:=r2;rw[r1] at z;cases z
  |str b1 =>
   cases e with
   |opq=>exact absurd hz2 (by rw[dpD_opq];omega)
   |non=>unfold Rep at r1 r2;rw[r1] at r2;first | (cases r2;simp[eqD]) | cases r2
   |bl b2=>unfold Rep at r1 r2;rw[r1] at r2;first | (cases r2;simp[eqD]) | cases r2
   |int b2=>unfold Rep at r1 r2;rw[r1] at r2;first | (cases r2;simp[eqD]) | cases r2
   |str b2=>unfold Rep at r1 r2;rw[r1] at r2;first | (cases r2;simp[eqD]) | cases r2
   |tup es=>unfold Rep at r1 r2;obtain⟨p,vs,z,_⟩:=r2;rw[r1] at z;cases z
   |lst es=>unfold Rep at r1 r2;obtain⟨p,vs,z,_⟩:=r2;rw[r1] at z;cases z
  |tup ds =>
   cases e with
   |opq=>exact absurd hz2 (by rw[dpD_opq];omega)
   |non=>unfold Rep at r1 r2;obtain⟨p,vs,z,_⟩:=r1;rw[r2] at z;cases z
   |bl b2=>unfold Rep at r1 r2;obtain⟨p,vs,z,_⟩:=r1;rw[r2] at z;cases z
   |int b2=>unfold Rep at r1 r2;obtain⟨p,vs,z,_⟩:=r1;rw[r2] at z;cases z
   |str b2=>unfold Rep at r1 r2;obtain⟨p,vs,z,_⟩:=r1;rw[r2] at z;cases z
   |tup es =>
    unfold Rep at r1 r2;obtain⟨p,vs,z,s1,q1⟩:=r1;obtain⟨p',vs',z',s2,q2⟩:=r2;rw[z] at z';cases z';have e:=I.tuple_inj s1 s2;subst e;cases n with
    |zero=>rw[dpD_tup] at hn;omega
    |succ n =>
     rw[dpD_tup] at hn;rw[eqD];exact eqDs_of q1 q2 fun j d e v h1 h2=>rep_one I n d e v (dpDs_le (by omega) h1) (by have z:=dpDs_le (n:=998) (by first | (rw[dpD_tup] at hz1;omega) | (rw[dpD_lst] at hz1;omega)) h1;omega) (by have z:=dpDs_le (n:=998) (by first | (rw[dpD_tup] at hz2;omega) | (rw[dpD_lst] at hz2;omega)) h2;omega)
   |lst es=>unfold Rep at r1 r2;obtain⟨p,vs,z,s1,_⟩:=r1;obtain⟨p',vs',z',s2,_⟩:=r2;rw[z] at z';cases z';exact (no_tl I s1 s2).elim
  |lst ds =>
   cases e with
   |opq=>exact absurd hz2 (by rw[dpD_opq];omega)
   |non=>unfold Rep at r1 r2;obtain⟨p,vs,z,_⟩:=r1;rw[r2] at z;cases z
   |bl b2=>unfold Rep at r1 r2;obtain⟨p,vs,z,_⟩:=r1;rw[r2] at z;cases z
   |int b2=>unfold Rep at r1 r2;obtain⟨p,vs,z,_⟩:=r1;rw[r2] at z;cases z
   |str b2=>unfold Rep at r1 r2;obtain⟨p,vs,z,_⟩:=r1;rw[r2] at z;cases z
   |tup es=>unfold Rep at r1 r2;obtain⟨p,vs,z,s1,_⟩:=r1;obtain⟨p',vs',z',s2,_⟩:=r2;rw[z] at z';cases z';exact (no_tl I s2 s1).elim
   |lst es =>
    unfold Rep at r1 r2;obtain⟨p,vs,z,s1,q1⟩:=r1;obtain⟨p',vs',z',s2,q2⟩:=r2;rw[z] at z';cases z';have e:=I.list_inj s1 s2;subst e;cases n with
    |zero=>rw[dpD_lst] at hn;omega
    |succ n =>
     rw[dpD_lst] at hn;rw[eqD];exact eqDs_of q1 q2 fun j d e v h1 h2=>rep_one I n d e v (dpDs_le (by omega) h1) (by have z:=dpDs_le (n:=998) (by first | (rw[dpD_tup] at hz1;omega) | (rw[dpD_lst] at hz1;omega)) h1;omega) (by have z:=dpDs_le (n:=998) (by first | (rw[dpD_tup] at hz2;omega) | (rw[dpD_lst] at hz2;omega)) h2;omega)
noncomputable def RcN (X:Cx) (H:Hp) (s:Shared) (n:Nat):Prop:=∀ (A:Around) (d e:D) (x y:V) (u v:Value),dpD d<=n->dpD d<1000->dpD e<1000->A.units+n<cLine->Rep X.K H d x->RelV x u->Rep X.K H e y->RelV y v->SeqAt.RcAt A s u v (eqD d e)
noncomputable def EqN (X:Cx) (H:Hp) (s:Shared) (n:Nat):Prop:=∀ (A:Around) (d e:D) (x y:V) (u v:Value),dpD d<=n->dpD d<1000->dpD e<1000->A.units+n<cLine->Rep X.K H d x->RelV x u->Rep X.K H e y->RelV y v->SeqAt.EqAt A s u v (eqD d e)
theorem eqN_of (I:Inv X pins σ H s) {n:Nat} (rc:RcN X H s n):EqN X H s n:=by
 intro A d e x y u v hn hz1 hz2 hA r1 w1 r2 w2;have hu:A.units<cLine:=by omega
 have key:=rc A d e x y u v hn hz1 hz2 hA r1 w1 r2 w2;have one:x=y->eqD d e=true:=fun z=>rep_one I _ d e x (Nat.le_refl _) hz1 hz2 r1 (z▸r2)
 cases d with
 |opq=>exact absurd hz1 (by rw[dpD_opq];omega)
 |non =>
  cases e with
  |opq=>exact absurd hz2 (by rw[dpD_opq];omega)
  |non=>unfold Rep at r1;subst r1;cases (show u=Value.none from w1);unfold Rep at r2;subst r2;cases (show v=Value.none from w2);exact SeqAt.EqAt.same _
  |bl b2=>unfold Rep at r1;subst r1;cases (show u=Value.none from w1);unfold Rep at r2;subst r2;cases (show v=Value.bool _ from w2);exact SeqAt.EqAt.none_bool _
  |int b2=>unfold Rep at r1;subst r1;cases (show u=Value.none from w1);unfold Rep at r2;subst r2;obtain⟨t2,z2⟩:=w2;subst z2;exact SeqAt.EqAt.none_int _ _
  |str b2=>unfold Rep at r1;subst r1;cases (show u=Value.none from w1);unfold Rep at r2;subst r2;obtain⟨t2,z2⟩:=w2;subst z2;exact SeqAt.EqAt.none_str _ _
  |tup es=>unfold Rep at r1;subst r1;cases (show u=Value.none from w1);unfold Rep at r2;obtain⟨p2,vs2,y2,s2,q2⟩:=r2;subst y2;cases (show v=Value.ref _ from w2);obtain⟨its2,rv2,tp2,_⟩:=I.tuple s2;exact SeqAt.EqAt.none_tuple tp2 hu
  |lst es=>unfold Rep at r1;subst r1;cases (show u=Value.none from w1);unfold Rep at r2;obtain⟨p2,vs2,y2,s2,q2⟩:=r2;subst y2;cases (show v=Value.ref _ from w2);obtain⟨its2,rv2,tp2,_⟩:=I.list s2;have tp2:=tp2.isList;exact SeqAt.EqAt.none_list tp2 hu
 |bl b1 =>
  cases e with
  |opq=>exact absurd hz2 (by rw[dpD_opq];omega)
  |non=>unfold Rep at r1;subst r1;cases (show u=Value.bool _ from w1);unfold Rep at r2;subst r2;cases (show v=Value.none from w2);exact SeqAt.EqAt.bool_none _
  |bl b2=>unfold Rep at r1;subst r1;cases (show u=Value.bool _ from w1);unfold Rep at r2;subst r2;cases (show v=Value.bool _ from w2);exact SeqAt.EqAt.bool_bool _ _
  |int b2=>unfold Rep at r1;subst r1;cases (show u=Value.bool _ from w1);unfold Rep at r2;subst r2;obtain⟨t2,z2⟩:=w2;subst z2;exact SeqAt.EqAt.bool_int _ _ _
  |str b2=>unfold Rep at r1;subst r1;cases (show u=Value.bool _ from w1);unfold Rep at r2;subst r2;obtain⟨t2,z2⟩:=w2;subst z2;exact SeqAt.EqAt.bool_str _ _ _
  |tup es=>unfold Rep at r1;subst r1;cases (show u=Value.bool _ from w1);unfold Rep at r2;obtain⟨p2,vs2,y2,s2,q2⟩:=r2;subst y2;cases (show v=Value.ref _ from w2);obtain⟨its2,rv2,tp2,_⟩:=I.tuple s2;exact SeqAt.EqAt.bool_tuple _ tp2 hu
  |lst es=>unfold Rep at r1;subst r1;cases (show u=Value.bool _ from w1);unfold Rep at r2;obtain⟨p2,vs2,y2,s2,q2⟩:=r2;subst y2;cases (show v=Value.ref _ from w2);obtain⟨its2,rv2,tp2,_⟩:=I.list s2;have tp2:=tp2.isList;exact SeqAt.EqAt.bool_list _ tp2 hu
 |int b1 =>
  cases e with
  |opq=>exact absurd hz2 (by rw[dpD_opq];omega)
  |non=>unfold Rep at r1;subst r1;obtain⟨t1,z1⟩:=w1;subst z1;unfold Rep at r2;subst r2;cases (show v=Value.none from w2);exact SeqAt.EqAt.int_none _ _
  |bl b2=>unfold Rep at r1;subst r1;obtain⟨t1,z1⟩:=w1;subst z1;unfold Rep at r2;subst r2;cases (show v=Value.bool _ from w2);exact SeqAt.EqAt.int_bool _ _ _
  |int b2=>unfold Rep at r1;subst r1;obtain⟨t1,z1⟩:=w1;subst z1;unfold Rep at r2;subst r2;obtain⟨t2,z2⟩:=w2;subst z2;exact SeqAt.EqAt.int_int _ _ _ _
  |str b2=>unfold Rep at r1;subst r1;obtain⟨t1,z1⟩:=w1;subst z1;unfold Rep at r2;subst r2;obtain⟨t2,z2⟩:=w2;subst z2;exact SeqAt.EqAt.int_str _ _ _ _
  |tup es=>unfold Rep at r1;subst r1;obtain⟨t1,z1⟩:=w1;subst z1;unfold Rep at r2;obtain⟨p2,vs2,y2,s2,q2⟩:=r2;subst y2;cases (show v=Value.ref _ from w2);obtain⟨its2,rv2,tp2,_⟩:=I.tuple s2;exact SeqAt.EqAt.int_tuple _ _ tp2 hu
  |lst es=>unfold Rep at r1;subst r1;obtain⟨t1,z1⟩:=w1;subst z1;unfold Rep at r2;obtain⟨p2,vs2,y2,s2,q2⟩:=r2;subst y2;cases (show v=Value.ref _ from w2);obtain⟨its2,rv2,tp2,_⟩:=I.list s2;have tp2:=tp2.isList;exact SeqAt.EqAt.int_list _ _ tp2 hu
 |str b1 =>
  cases e with
  |opq=>exact absurd hz2 (by rw[dpD_opq];omega)
  |non=>unfold Rep at r1;subst r1;obtain⟨t1,z1⟩:=w1;subst z1;unfold Rep at r2;subst r2;cases (show v=Value.none from w2);exact SeqAt.EqAt.str_none _ _
  |bl b2=>unfold Rep at r1;subst r1;obtain⟨t1,z1⟩:=w1;subst z1;unfold Rep at r2;subst r2;cases (show v=Value.bool _ from w2);exact SeqAt.EqAt.str_bool _ _ _
  |int b2=>unfold Rep at r1;subst r1;obtain⟨t1,z1⟩:=w1;subst z1;unfold Rep at r2;subst r2;obtain⟨t2,z2⟩:=w2;subst z2;exact SeqAt.EqAt.str_int _ _ _ _
  |str b2=>unfold Rep at r1;subst r1;obtain⟨t1,z1⟩:=w1;subst z1;unfold Rep at r2;subst r2;obtain⟨t2,z2⟩:=w2;subst z2;exact SeqAt.EqAt.str_str _ _ _ _
  |tup es=>unfold Rep at r1;subst r1;obtain⟨t1,z1⟩:=w1;subst z1;unfold Rep at r2;obtain⟨p2,vs2,y2,s2,q2⟩:=r2;subst y2;cases (show v=Value.ref _ from w2);obtain⟨its2,rv2,tp2,_⟩:=I.tuple s2;exact SeqAt.EqAt.str_tuple _ _ tp2 hu
  |lst es=>unfold Rep at r1;subst r1;obtain⟨t1,z1⟩:=w1;subst z1;unfold Rep at r2;obtain⟨p2,vs2,y2,s2,q2⟩:=r2;subst y2;cases (show v=Value.ref _ from w2);obtain⟨its2,rv2,tp2,_⟩:=I.list s2;have tp2:=tp2.isList;exact SeqAt.EqAt.str_list _ _ tp2 hu
 |tup ds =>
  cases e with
  |opq=>exact absurd hz2 (by rw[dpD_opq];omega)
  |non=>unfold Rep at r1;obtain⟨p1,vs1,y1,s1,q1⟩:=r1;subst y1;cases (show u=Value.ref _ from w1);obtain⟨its1,rv1,tp1,_⟩:=I.tuple s1;unfold Rep at r2;subst r2;cases (show v=Value.none from w2);exact SeqAt.EqAt.tuple_none tp1 hu
  |bl b2=>unfold Rep at r1;obtain⟨p1,vs1,y1,s1,q1⟩:=r1;subst y1;cases (show u=Value.ref _ from w1);obtain⟨its1,rv1,tp1,_⟩:=I.tuple s1;unfold Rep at r2;subst r2;cases (show v=Value.bool _ from w2);exact SeqAt.EqAt.tuple_bool _ tp1 hu
  |int b2=>unfold Rep at r1;obtain⟨p1,vs1,y1,s1,q1⟩:=r1;subst y1;cases (show u=Value.ref _ from w1);obtain⟨its1,rv1,tp1,_⟩:=I.tuple s1;unfold Rep at r2;subst r2;obtain⟨t2,z2⟩:=w2;subst z2;exact SeqAt.EqAt.tuple_int _ _ tp1 hu
  |str b2=>unfold Rep at r1;obtain⟨p1,vs1,y1,s1,q1⟩:=r1;subst y1;cases (show u=Value.ref _ from w1);obtain⟨its1,rv1,tp1,_⟩:=I.tuple s1;unfold Rep at r2;subst r2;obtain⟨t2,z2⟩:=w2;subst z2;exact SeqAt.EqAt.tuple_str _ _ tp1 hu
  |tup es =>
   unfold Rep at r1 r2;obtain⟨p1,vs1,y1,_⟩:=r1;obtain⟨p2,vs2,y2,_⟩:=r2;subst y1 y2;cases (show u=Value.ref _ from w1);cases (show v=Value.ref _ from w2)
   by_cases h:p1=p2
   ·rw[one (by rw[h]),h];exact SeqAt.EqAt.same _
   ·exact SeqAt.EqAt.of_refs h key
  |lst es=>unfold Rep at r1;obtain⟨p1,vs1,y1,s1,q1⟩:=r1;subst y1;cases (show u=Value.ref _ from w1);obtain⟨its1,rv1,tp1,_⟩:=I.tuple s1;unfold Rep at r2;obtain⟨p2,vs2,y2,s2,q2⟩:=r2;subst y2;cases (show v=Value.ref _ from w2);obtain⟨its2,rv2,tp2,_⟩:=I.list s2;have tp2:=tp2.isList;exact SeqAt.EqAt.tuple_list tp1 tp2 hu
 |lst ds =>
  cases e with
  |opq=>exact absurd hz2 (by rw[dpD_opq];omega)
  |non=>unfold Rep at r1;obtain⟨p1,vs1,y1,s1,q1⟩:=r1;subst y1;cases (show u=Value.ref _ from w1);obtain⟨its1,rv1,tp1,_⟩:=I.list s1;have tp1:=tp1.isList;unfold Rep at r2;subst r2;cases (show v=Value.none from w2);exact SeqAt.EqAt.list_none tp1 hu
  |bl b2=>unfold Rep at r1;obtain⟨p1,vs1,y1,s1,q1⟩:=r1;subst y1;cases (show u=Value.ref _ from w1);obtain⟨its1,rv1,tp1,_⟩:=I.list s1;have tp1:=tp1.isList;unfold Rep at r2;subst r2;cases (show v=Value.bool _ from w2);exact SeqAt.EqAt.list_bool _ tp1 hu
  |int b2=>unfold Rep at r1;obtain⟨p1,vs1,y1,s1,q1⟩:=r1;subst y1;cases (show u=Value.ref _ from w1);obtain⟨its1,rv1,tp1,_⟩:=I.list s1;have tp1:=tp1.isList;unfold Rep at r2;subst r2;obtain⟨t2,z2⟩:=w2;subst z2;exact SeqAt.EqAt.list_int _ _ tp1 hu
  |str b2=>unfold Rep at r1;obtain⟨p1,vs1,y1,s1,q1⟩:=r1;subst y1;cases (show u=Value.ref _ from w1);obtain⟨its1,rv1,tp1,_⟩:=I.list s1;have tp1:=tp1.isList;unfold Rep at r2;subst r2;obtain⟨t2,z2⟩:=w2;subst z2;exact SeqAt.EqAt.list_str _ _ tp1 hu
  |tup es=>unfold Rep at r1;obtain⟨p1,vs1,y1,s1,q1⟩:=r1;subst y1;cases (show u=Value.ref _ from w1);obtain⟨its1,rv1,tp1,_⟩:=I.list s1;have tp1:=tp1.isList;unfold Rep at r2;obtain⟨p2,vs2,y2,s2,q2⟩:=r2;subst y2;cases (show v=Value.ref _ from w2);obtain⟨its2,rv2,tp2,_⟩:=I.tuple s2;exact SeqAt.EqAt.list_tuple tp1 tp2 hu
  |lst es =>
   unfold Rep at r1 r2;obtain⟨p1,vs1,y1,_⟩:=r1;obtain⟨p2,vs2,y2,_⟩:=r2;subst y1 y2;cases (show u=Value.ref _ from w1);cases (show v=Value.ref _ from w2)
   by_cases h:p1=p2
   ·rw[one (by rw[h]),h];exact SeqAt.EqAt.same _
   ·exact SeqAt.EqAt.of_refs h key
theorem arr_get {its:List Value}{j:Nat} (h:j<its.toArray.size):its[j]?=some its.toArray[j]:=by
 have h':j<its.length:=by simpa using h
 simp[h']
theorem item_eq {A:Around}{n:Nat} (eqn:EqN X H s n) {ds es:List D}{vs vs':List V}{its its':List Value} (hn:dpDs ds<=n) (hz1:dpDs ds<1000) (hz2:dpDs es<1000) (hA:A.in1.units+n<cLine) (q1:Reps X.K H ds vs) (q2:Reps X.K H es vs') (rv:Vals vs its) (rv':Vals vs' its')
  (j:Nat) (h1:j<its.toArray.size) (h2:j<its'.toArray.size):SeqAt.EqAt A.in1 s its.toArray[j] its'.toArray[j] (eqD (ds.getD j .non) (es.getD j .non)):=by
 have l1:=q1.length;have l2:=q2.length;have m1:=rv.length;have m2:=rv'.length;have k1:j<ds.length:=by rw[List.size_toArray] at h1;omega
 have k2:j<es.length:=by rw[List.size_toArray] at h2;omega
 have e1:ds[j]?=some ds[j]:=by simp[k1]
 have e2:es[j]?=some es[j]:=by simp[k2]
 obtain⟨v,a1,a2⟩:=q1.get e1;obtain⟨v',b1,b2⟩:=q2.get e2;obtain⟨u,c1,c2⟩:=rv.get a1;obtain⟨u',d1,d2⟩:=rv'.get b1;rw[arr_get h1] at c1;rw[arr_get h2] at d1;have g1:ds.getD j .non=ds[j]:=by simp[List.getD,k1]
 have g2:es.getD j .non=es[j]:=by simp[List.getD,k2]
 rw[g1,g2,Option.some.inj c1,Option.some.inj d1];exact eqn A.in1 ds[j] es[j] v v' u u' (dpDs_le hn e1) (by have z:=dpDs_le (n:=999) (by omega) e1;omega) (by have z:=dpDs_le (n:=999) (by omega) e2;omega) hA a2 c2 b2 d2
theorem rcS (I:Inv X pins σ H s) (n:Nat) (ih:∀ m,m<n->EqN X H s m):RcN X H s n:=by
  intro A d e x y u v hn hz1 hz2 hA r1 w1 r2 w2;have hu:A.units<cLine:=by omega
  cases d with
  |opq=>exact absurd hz1 (by rw[dpD_opq];omega)
  |non =>
   cases e with
   |opq=>exact absurd hz2 (by rw[dpD_opq];omega)
   |non=>unfold Rep at r1;subst r1;cases (show u=Value.none from w1);unfold Rep at r2;subst r2;cases (show v=Value.none from w2);exact SeqAt.RcAt.none_none
   |bl b2=>unfold Rep at r1;subst r1;cases (show u=Value.none from w1);unfold Rep at r2;subst r2;cases (show v=Value.bool _ from w2);exact SeqAt.RcAt.none_bool _
   |int b2=>unfold Rep at r1;subst r1;cases (show u=Value.none from w1);unfold Rep at r2;subst r2;obtain⟨t2,z2⟩:=w2;subst z2;exact SeqAt.RcAt.none_int _ _
   |str b2=>unfold Rep at r1;subst r1;cases (show u=Value.none from w1);unfold Rep at r2;subst r2;obtain⟨t2,z2⟩:=w2;subst z2;exact SeqAt.RcAt.none_str _ _
   |tup es=>unfold Rep at r1;subst r1;cases (show u=Value.none from w1);unfold Rep at r2;obtain⟨p2,vs2,y2,s2,q2⟩:=r2;subst y2;cases (show v=Value.ref _ from w2);obtain⟨its2,rv2,tp2,_⟩:=I.tuple s2;exact SeqAt.RcAt.none_tuple tp2 hu
   |lst es=>unfold Rep at r1;subst r1;cases (show u=Value.none from w1);unfold Rep at r2;obtain⟨p2,vs2,y2,s2,q2⟩:=r2;subst y2;cases (show v=Value.ref _ from w2);obtain⟨its2,rv2,tp2,_⟩:=I.list s2;have tp2:=tp2.isList;exact SeqAt.RcAt.none_list tp2 hu
  |bl b1 =>
   cases e with
   |opq=>exact absurd hz2 (by rw[dpD_opq];omega)
   |non=>unfold Rep at r1;subst r1;cases (show u=Value.bool _ from w1);unfold Rep at r2;subst r2;cases (show v=Value.none from w2);exact SeqAt.RcAt.bool_none _
   |bl b2=>unfold Rep at r1;subst r1;cases (show u=Value.bool _ from w1);unfold Rep at r2;subst r2;cases (show v=Value.bool _ from w2);exact SeqAt.RcAt.bool_bool _ _
   |int b2=>unfold Rep at r1;subst r1;cases (show u=Value.bool _ from w1);unfold Rep at r2;subst r2;obtain⟨t2,z2⟩:=w2;subst z2;exact SeqAt.RcAt.bool_int _ _ _
   |str b2=>unfold Rep at r1;subst r1;cases (show u=Value.bool _ from w1);unfold Rep at r2;subst r2;obtain⟨t2,z2⟩:=w2;subst z2;exact SeqAt.RcAt.bool_str _ _ _
   |tup es=>unfold Rep at r1;subst r1;cases (show u=Value.bool _ from w1);unfold Rep at r2;obtain⟨p2,vs2,y2,s2,q2⟩:=r2;subst y2;cases (show v=Value.ref _ from w2);obtain⟨its2,rv2,tp2,_⟩:=I.tuple s2;exact SeqAt.RcAt.bool_tuple _ tp2 hu
   |lst es=>unfold Rep at r1;subst r1;cases (show u=Value.bool _ from w1);unfold Rep at r2;obtain⟨p2,vs2,y2,s2,q2⟩:=r2;subst y2;cases (show v=Value.ref _ from w2);obtain⟨its2,rv2,tp2,_⟩:=I.list s2;have tp2:=tp2.isList;exact SeqAt.RcAt.bool_list _ tp2 hu
  |int b1 =>
   cases e with
   |opq=>exact absurd hz2 (by rw[dpD_opq];omega)
   |non=>unfold Rep at r1;subst r1;obtain⟨t1,z1⟩:=w1;subst z1;unfold Rep at r2;subst r2;cases (show v=Value.none from w2);exact SeqAt.RcAt.int_none _ _
   |bl b2=>unfold Rep at r1;subst r1;obtain⟨t1,z1⟩:=w1;subst z1;unfold Rep at r2;subst r2;cases (show v=Value.bool _ from w2);exact SeqAt.RcAt.int_bool _ _ _
   |int b2=>unfold Rep at r1;subst r1;obtain⟨t1,z1⟩:=w1;subst z1;unfold Rep at r2;subst r2;obtain⟨t2,z2⟩:=w2;subst z2;exact SeqAt.RcAt.int_int _ _ _ _
   |str b2=>unfold Rep at r1;subst r1;obtain⟨t1,z1⟩:=w1;subst z1;unfold Rep at r2;subst r2;obtain⟨t2,z2⟩:=w2;subst z2;exact SeqAt.RcAt.int_str _ _ _ _
   |tup es=>unfold Rep at r1;subst r1;obtain⟨t1,z1⟩:=w1;subst z1;unfold Rep at r2;obtain⟨p2,vs2,y2,s2,q2⟩:=r2;subst y2;cases (show v=Value.ref _ from w2);obtain⟨its2,rv2,tp2,_⟩:=I.tuple s2;exact SeqAt.RcAt.int_tuple _ _ tp2 hu
   |lst es=>unfold Rep at r1;subst r1;obtain⟨t1,z1⟩:=w1;subst z1;unfold Rep at r2;obtain⟨p2,vs2,y2,s2,q2⟩:=r2;subst y2;cases (show v=Value.ref _ from w2);obtain⟨its2,rv2,tp2,_⟩:=I.list s2;have tp2:=tp2.isList;exact SeqAt.RcAt.int_list _ _ tp2 hu
  |str b1 =>
   cases e with
   |opq=>exact absurd hz2 (by rw[dpD_opq];omega)
   |non=>unfold Rep at r1;subst r1;obtain⟨t1,z1⟩:=w1;subst z1;unfold Rep at r2;subst r2;cases (show v=Value.none from w2);exact SeqAt.RcAt.str_none _ _
   |bl b2=>unfold Rep at r1;subst r1;obtain⟨t1,z1⟩:=w1;subst z1;unfold Rep at r2;subst r2;cases (show v=Value.bool _ from w2);exact SeqAt.RcAt.str_bool _ _ _
   |int b2=>unfold Rep at r1;subst r1;obtain⟨t1,z1⟩:=w1;subst z1;unfold Rep at r2;subst r2;obtain⟨t2,z2⟩:=w2;subst z2;exact SeqAt.RcAt.str_int _ _ _ _
   |str b2=>unfold Rep at r1;subst r1;obtain⟨t1,z1⟩:=w1;subst z1;unfold Rep at r2;subst r2;obtain⟨t2,z2⟩:=w2;subst z2;exact SeqAt.RcAt.str_str _ _ _ _
   |tup es=>unfold Rep at r1;subst r1;obtain⟨t1,z1⟩:=w1;subst z1;unfold Rep at r2;obtain⟨p2,vs2,y2,s2,q2⟩:=r2;subst y2;cases (show v=Value.ref _ from w2);obtain⟨its2,rv2,tp2,_⟩:=I.tuple s2;exact SeqAt.RcAt.str_tuple _ _ tp2 hu
   |lst es=>unfold Rep at r1;subst r1;obtain⟨t1,z1⟩:=w1;subst z1;unfold Rep at r2;obtain⟨p2,vs2,y2,s2,q2⟩:=r2;subst y2;cases (show v=Value.ref _ from w2);obtain⟨its2,rv2,tp2,_⟩:=I.list s2;have tp2:=tp2.isList;exact SeqAt.RcAt.str_list _ _ tp2 hu
  |tup ds =>
   cases e with
   |opq=>exact absurd hz2 (by rw[dpD_opq];omega)
   |non=>unfold Rep at r1;obtain⟨p1,vs1,y1,s1,q1⟩:=r1;subst y1;cases (show u=Value.ref _ from w1);obtain⟨its1,rv1,tp1,_⟩:=I.tuple s1;unfold Rep at r2;subst r2;cases (show v=Value.none from w2);exact SeqAt.RcAt.tuple_none tp1 hu
   |bl b2=>unfold Rep at r1;obtain⟨p1,vs1,y1,s1,q1⟩:=r1;subst y1;cases (show u=Value.ref _ from w1);obtain⟨its1,rv1,tp1,_⟩:=I.tuple s1;unfold Rep at r2;subst r2;cases (show v=Value.bool _ from w2);exact SeqAt.RcAt.tuple_bool _ tp1 hu
   |int b2=>unfold Rep at r1;obtain⟨p1,vs1,y1,s1,q1⟩:=r1;subst y1;cases (show u=Value.ref _ from w1);obtain⟨its1,rv1,tp1,_⟩:=I.tuple s1;unfold Rep at r2;subst r2;obtain⟨t2,z2⟩:=w2;subst z2;exact SeqAt.RcAt.tuple_int _ _ tp1 hu
   |str b2=>unfold Rep at r1;obtain⟨p1,vs1,y1,s1,q1⟩:=r1;subst y1;cases (show u=Value.ref _ from w1);obtain⟨its1,rv1,tp1,_⟩:=I.tuple s1;unfold Rep at r2;subst r2;obtain⟨t2,z2⟩:=w2;subst z2;exact SeqAt.RcAt.tuple_str _ _ tp1 hu
   |tup es =>
     rw[dpD_tup] at hn;unfold Rep at r1;obtain⟨p1,vs1,y1,s1,q1⟩:=r1;subst y1;cases (show u=Value.ref _ from w1);obtain⟨its1,rv1,tp1,_⟩:=I.tuple s1;unfold Rep at r2;obtain⟨p2,vs2,y2,s2,q2⟩:=r2;subst y2;cases (show v=Value.ref _ from w2);obtain⟨its2,rv2,tp2,_⟩:=I.tuple s2;have hi:A.in1.units+(n-1)<cLine:=by show A.units+1+(n-1)<cLine;omega
     have z:=SeqAt.RcAt.tuples (e:=fun j=>eqD (ds.getD j .non) (es.getD j .non)) tp1 tp2 hu (item_eq (A:=A) (ih (n-1) (by omega)) (by omega) (by first | (rw[dpD_tup] at hz1;omega) | (rw[dpD_lst] at hz1;omega)) (by first | (rw[dpD_tup] at hz2;omega) | (rw[dpD_lst] at hz2;omega)) hi q1 q2 rv1 rv2)
     rw[List.size_toArray,List.size_toArray,<- rv1.length,<- rv2.length,<- q1.length,<- q2.length] at z;rw[eqD,eqDs_all];exact z
   |lst es=>unfold Rep at r1;obtain⟨p1,vs1,y1,s1,q1⟩:=r1;subst y1;cases (show u=Value.ref _ from w1);obtain⟨its1,rv1,tp1,_⟩:=I.tuple s1;unfold Rep at r2;obtain⟨p2,vs2,y2,s2,q2⟩:=r2;subst y2;cases (show v=Value.ref _ from w2);obtain⟨its2,rv2,tp2,_⟩:=I.list s2;have tp2:=tp2.isList;exact SeqAt.RcAt.tuple_list tp1 tp2 hu
  |lst ds =>
   cases e with
   |opq=>exact absurd hz2 (by rw[dpD_opq];omega)
   |non=>unfold Rep at r1;obtain⟨p1,vs1,y1,s1,q1⟩:=r1;subst y1;cases (show u=Value.ref _ from w1);obtain⟨its1,rv1,tp1,_⟩:=I.list s1;have tp1:=tp1.isList;unfold Rep at r2;subst r2;cases (show v=Value.none from w2);exact SeqAt.RcAt.list_none tp1 hu
   |bl b2=>unfold Rep at r1;obtain⟨p1,vs1,y1,s1,q1⟩:=r1;subst y1;cases (show u=Value.ref _ from w1);obtain⟨its1,rv1,tp1,_⟩:=I.list s1;have tp1:=tp1.isList;unfold Rep at r2;subst r2;cases (show v=Value.bool _ from w2);exact SeqAt.RcAt.list_bool _ tp1 hu
   |int b2=>unfold Rep at r1;obtain⟨p1,vs1,y1,s1,q1⟩:=r1;subst y1;cases (show u=Value.ref _ from w1);obtain⟨its1,rv1,tp1,_⟩:=I.list s1;have tp1:=tp1.isList;unfold Rep at r2;subst r2;obtain⟨t2,z2⟩:=w2;subst z2;exact SeqAt.RcAt.list_int _ _ tp1 hu
   |str b2=>unfold Rep at r1;obtain⟨p1,vs1,y1,s1,q1⟩:=r1;subst y1;cases (show u=Value.ref _ from w1);obtain⟨its1,rv1,tp1,_⟩:=I.list s1;have tp1:=tp1.isList;unfold Rep at r2;subst r2;obtain⟨t2,z2⟩:=w2;subst z2;exact SeqAt.RcAt.list_str _ _ tp1 hu
   |tup es=>unfold Rep at r1;obtain⟨p1,vs1,y1,s1,q1⟩:=r1;subst y1;cases (show u=Value.ref _ from w1);obtain⟨its1,rv1,tp1,_⟩:=I.list s1;have tp1:=tp1.isList;unfold Rep at r2;obtain⟨p2,vs2,y2,s2,q2⟩:=r2;subst y2;cases (show v=Value.ref _ from w2);obtain⟨its2,rv2,tp2,_⟩:=I.tuple s2;exact SeqAt.RcAt.list_tuple tp1 tp2 hu
   |lst es =>
     rw[dpD_lst] at hn;unfold Rep at r1;obtain⟨p1,vs1,y1,s1,q1⟩:=r1;subst y1;cases (show u=Value.ref _ from w1);obtain⟨its1,rv1,tp1,_⟩:=I.list s1;have tp1:=tp1.isList;unfold Rep at r2;obtain⟨p2,vs2,y2,s2,q2⟩:=r2;subst y2;cases (show v=Value.ref _ from w2);obtain⟨its2,rv2,tp2,_⟩:=I.list s2;have tp2:=tp2.isList;have hi:A.in1.units+(n-1)<cLine:=by show A.units+1+(n-1)<cLine;omega
     have l1:its1.toArray.size=ds.length:=by rw[List.size_toArray,<- rv1.length,<- q1.length]
     have l2:its2.toArray.size=es.length:=by rw[List.size_toArray,<- rv2.length,<- q2.length]
     rw[eqD,eqDs_all]
     by_cases hl:ds.length=es.length
     ·have z:=SeqAt.RcAt.lists (e:=fun j=>eqD (ds.getD j .non) (es.getD j .non)) tp1 tp2 (by rw[l1,l2];exact hl) hu (item_eq (A:=A) (ih (n-1) (by omega)) (by omega) (by first | (rw[dpD_tup] at hz1;omega) | (rw[dpD_lst] at hz1;omega)) (by first | (rw[dpD_tup] at hz2;omega) | (rw[dpD_lst] at hz2;omega)) hi q1 q2 rv1 rv2)
      rw[l1] at z;rw[show min ds.length es.length=ds.length by omega,show (ds.length==es.length)=true by simp[hl],Bool.and_true]
      exact z
     ·rw[show (ds.length==es.length)=false by simp[hl],Bool.and_false]
      exact SeqAt.RcAt.lists_lengths tp1 tp2 (by rw[l1,l2];simp[hl]) hu
theorem eqNall (I:Inv X pins σ H s) (n:Nat):EqN X H s n:=by
 induction n using Nat.strongRecOn with
 |ind n ih=>exact eqN_of I (rcS I n ih)
theorem rcN (I:Inv X pins σ H s) (n:Nat):RcN X H s n:=rcS I n fun m _=>eqNall I m
noncomputable def rEqD (K:PySem.W.Frag):R2:=fun x y H Q=>∃ d e,Rep K H d x/\Rep K H e y/\dpD d<=30/\dpD e<=30/\Q (.bl (eqD d e)) H
theorem op_eqD (hu:X.A.units+64<cLine):OpR X (compareOp .Eq) (rEqD X.K):=by
 intro pins s σ H x y v u Q I rx ry h;obtain⟨d,e,r1,r2,hd,hd2,q⟩:=h;exact rcN I 30 X.A d e x y v u hd (by omega) (by omega) (by omega) r1 rx r2 ry X.prog X.w X.xe _ ⟨.bl _,H,I,rfl,q⟩
theorem eqOpD {K:PySem.W.Frag}:OpD K (rEqD K) dEq:=fun c H0 H ρ σ x y d vx vy Q R r1 r2 e q=>by
 unfold dEq at e
 split at e
 ·rename_i hd
  cases e;exact⟨x,y,Rep.mono R.same x r1,Rep.mono R.same y r2,hd.1,hd.2,q _ H0 H (Same.refl _) R (rep_bl _ _)⟩
 ·cases e
theorem cEq (hu:X.A.units+64<cLine):CmpOk X .Eq dEq:=⟨_,op_eqD hu,eqOpD⟩
theorem neN (I:Inv X pins σ H s) (n:Nat) (A:Around) (d e:D) (x y:V) (u v:Value) (hn:dpD d<=n) (hz1:dpD d<1000) (hz2:dpD e<1000) (hA:A.units+n<cLine) (r1:Rep X.K H d x) (w1:RelV x u) (r2:Rep X.K H e y) (w2:RelV y v):SeqAt.RcNeAt A s u v (!eqD d e):=by
  have hu:A.units<cLine:=by omega
  cases d with
  |opq=>exact absurd hz1 (by rw[dpD_opq];omega)
  |non =>
   cases e with
   |opq=>exact absurd hz2 (by rw[dpD_opq];omega)
   |non=>unfold Rep at r1;subst r1;cases (show u=Value.none from w1);unfold Rep at r2;subst r2;cases (show v=Value.none from w2);exact SeqAt.RcNeAt.none_none
   |bl b2=>unfold Rep at r1;subst r1;cases (show u=Value.none from w1);unfold Rep at r2;subst r2;cases (show v=Value.bool _ from w2);exact SeqAt.RcNeAt.none_bool _
   |int b2=>unfold Rep at r1;subst r1;cases (show u=Value.none from w1);unfold Rep at r2;subst r2;obtain⟨t2,z2⟩:=w2;subst z2;exact SeqAt.RcNeAt.none_int _ _
   |str b2=>unfold Rep at r1;subst r1;cases (show u=Value.none from w1);unfold Rep at r2;subst r2;obtain⟨t2,z2⟩:=w2;subst z2;exact SeqAt.RcNeAt.none_str _ _
   |tup es=>unfold Rep at r1;subst r1;cases (show u=Value.none from w1);unfold Rep at r2;obtain⟨p2,vs2,y2,s2,q2⟩:=r2;subst y2;cases (show v=Value.ref _ from w2);obtain⟨its2,rv2,tp2,_⟩:=I.tuple s2;exact SeqAt.RcNeAt.none_tuple tp2 hu
   |lst es=>unfold Rep at r1;subst r1;cases (show u=Value.none from w1);unfold Rep at r2;obtain⟨p2,vs2,y2,s2,q2⟩:=r2;subst y2;cases (show v=Value.ref _ from w2);obtain⟨its2,rv2,tp2,_⟩:=I.list s2;have tp2:=tp2.isList;exact SeqAt.RcNeAt.none_list tp2 hu
  |bl b1 =>
   cases e with
   |opq=>exact absurd hz2 (by rw[dpD_opq];omega)
   |non=>unfold Rep at r1;subst r1;cases (show u=Value.bool _ from w1);unfold Rep at r2;subst r2;cases (show v=Value.none from w2);exact SeqAt.RcNeAt.bool_none _
   |bl b2=>unfold Rep at r1;subst r1;cases (show u=Value.bool _ from w1);unfold Rep at r2;subst r2;cases (show v=Value.bool _ from w2);exact SeqAt.RcNeAt.bool_bool _ _
   |int b2=>unfold Rep at r1;subst r1;cases (show u=Value.bool _ from w1);unfold Rep at r2;subst r2;obtain⟨t2,z2⟩:=w2;subst z2;exact SeqAt.RcNeAt.bool_int _ _ _
   |str b2=>unfold Rep at r1;subst r1;cases (show u=Value.bool _ from w1);unfold Rep at r2;subst r2;obtain⟨t2,z2⟩:=w2;subst z2;exact SeqAt.RcNeAt.bool_str _ _ _
   |tup es=>unfold Rep at r1;subst r1;cases (show u=Value.bool _ from w1);unfold Rep at r2;obtain⟨p2,vs2,y2,s2,q2⟩:=r2;subst y2;cases (show v=Value.ref _ from w2);obtain⟨its2,rv2,tp2,_⟩:=I.tuple s2;exact SeqAt.RcNeAt.bool_tuple _ tp2 hu
   |lst es=>unfold Rep at r1;subst r1;cases (show u=Value.bool _ from w1);unfold Rep at r2;obtain⟨p2,vs2,y2,s2,q2⟩:=r2;subst y2;cases (show v=Value.ref _ from w2);obtain⟨its2,rv2,tp2,_⟩:=I.list s2;have tp2:=tp2.isList;exact SeqAt.RcNeAt.bool_list _ tp2 hu
  |int b1 =>
   cases e with
   |opq=>exact absurd hz2 (by rw[dpD_opq];omega)
   |non=>unfold Rep at r1;subst r1;obtain⟨t1,z1⟩:=w1;subst z1;unfold Rep at r2;subst r2;cases (show v=Value.none from w2);exact SeqAt.RcNeAt.int_none _ _
   |bl b2=>unfold Rep at r1;subst r1;obtain⟨t1,z1⟩:=w1;subst z1;unfold Rep at r2;subst r2;cases (show v=Value.bool _ from w2);exact SeqAt.RcNeAt.int_bool _ _ _
   |int b2=>unfold Rep at r1;subst r1;obtain⟨t1,z1⟩:=w1;subst z1;unfold Rep at r2;subst r2;obtain⟨t2,z2⟩:=w2;subst z2;exact SeqAt.RcNeAt.int_int _ _ _ _
   |str b2=>unfold Rep at r1;subst r1;obtain⟨t1,z1⟩:=w1;subst z1;unfold Rep at r2;subst r2;obtain⟨t2,z2⟩:=w2;subst z2;exact SeqAt.RcNeAt.int_str _ _ _ _
   |tup es=>unfold Rep at r1;subst r1;obtain⟨t1,z1⟩:=w1;subst z1;unfold Rep at r2;obtain⟨p2,vs2,y2,s2,q2⟩:=r2;subst y2;cases (show v=Value.ref _ from w2);obtain⟨its2,rv2,tp2,_⟩:=I.tuple s2;exact SeqAt.RcNeAt.int_tuple _ _ tp2 hu
   |lst es=>unfold Rep at r1;subst r1;obtain⟨t1,z1⟩:=w1;subst z1;unfold Rep at r2;obtain⟨p2,vs2,y2,s2,q2⟩:=r2;subst y2;cases (show v=Value.ref _ from w2);obtain⟨its2,rv2,tp2,_⟩:=I.list s2;have tp2:=tp2.isList;exact SeqAt.RcNeAt.int_list _ _ tp2 hu
  |str b1 =>
   cases e with
   |opq=>exact absurd hz2 (by rw[dpD_opq];omega)
   |non=>unfold Rep at r1;subst r1;obtain⟨t1,z1⟩:=w1;subst z1;unfold Rep at r2;subst r2;cases (show v=Value.none from w2);exact SeqAt.RcNeAt.str_none _ _
   |bl b2=>unfold Rep at r1;subst r1;obtain⟨t1,z1⟩:=w1;subst z1;unfold Rep at r2;subst r2;cases (show v=Value.bool _ from w2);exact SeqAt.RcNeAt.str_bool _ _ _
   |int b2=>unfold Rep at r1;subst r1;obtain⟨t1,z1⟩:=w1;subst z1;unfold Rep at r2;subst r2;obtain⟨t2,z2⟩:=w2;subst z2;exact SeqAt.RcNeAt.str_int _ _ _ _
   |str b2=>unfold Rep at r1;subst r1;obtain⟨t1,z1⟩:=w1;subst z1;unfold Rep at r2;subst r2;obtain⟨t2,z2⟩:=w2;subst z2;exact SeqAt.RcNeAt.str_str _ _ _ _
   |tup es=>unfold Rep at r1;subst r1;obtain⟨t1,z1⟩:=w1;subst z1;unfold Rep at r2;obtain⟨p2,vs2,y2,s2,q2⟩:=r2;subst y2;cases (show v=Value.ref _ from w2);obtain⟨its2,rv2,tp2,_⟩:=I.tuple s2;exact SeqAt.RcNeAt.str_tuple _ _ tp2 hu
   |lst es=>unfold Rep at r1;subst r1;obtain⟨t1,z1⟩:=w1;subst z1;unfold Rep at r2;obtain⟨p2,vs2,y2,s2,q2⟩:=r2;subst y2;cases (show v=Value.ref _ from w2);obtain⟨its2,rv2,tp2,_⟩:=I.list s2;have tp2:=tp2.isList;exact SeqAt.RcNeAt.str_list _ _ tp2 hu
  |tup ds =>
   cases e with
   |opq=>exact absurd hz2 (by rw[dpD_opq];omega)
   |non=>unfold Rep at r1;obtain⟨p1,vs1,y1,s1,q1⟩:=r1;subst y1;cases (show u=Value.ref _ from w1);obtain⟨its1,rv1,tp1,_⟩:=I.tuple s1;unfold Rep at r2;subst r2;cases (show v=Value.none from w2);exact SeqAt.RcNeAt.tuple_none tp1 hu
   |bl b2=>unfold Rep at r1;obtain⟨p1,vs1,y1,s1,q1⟩:=r1;subst y1;cases (show u=Value.ref _ from w1);obtain⟨its1,rv1,tp1,_⟩:=I.tuple s1;unfold Rep at r2;subst r2;cases (show v=Value.bool _ from w2);exact SeqAt.RcNeAt.tuple_bool _ tp1 hu
   |int b2=>unfold Rep at r1;obtain⟨p1,vs1,y1,s1,q1⟩:=r1;subst y1;cases (show u=Value.ref _ from w1);obtain⟨its1,rv1,tp1,_⟩:=I.tuple s1;unfold Rep at r2;subst r2;obtain⟨t2,z2⟩:=w2;subst z2;exact SeqAt.RcNeAt.tuple_int _ _ tp1 hu
   |str b2=>unfold Rep at r1;obtain⟨p1,vs1,y1,s1,q1⟩:=r1;subst y1;cases (show u=Value.ref _ from w1);obtain⟨its1,rv1,tp1,_⟩:=I.tuple s1;unfold Rep at r2;subst r2;obtain⟨t2,z2⟩:=w2;subst z2;exact SeqAt.RcNeAt.tuple_str _ _ tp1 hu
   |tup es =>
     rw[dpD_tup] at hn;unfold Rep at r1;obtain⟨p1,vs1,y1,s1,q1⟩:=r1;subst y1;cases (show u=Value.ref _ from w1);obtain⟨its1,rv1,tp1,_⟩:=I.tuple s1;unfold Rep at r2;obtain⟨p2,vs2,y2,s2,q2⟩:=r2;subst y2;cases (show v=Value.ref _ from w2);obtain⟨its2,rv2,tp2,_⟩:=I.tuple s2;have hi:A.in1.units+(n-1)<cLine:=by show A.units+1+(n-1)<cLine;omega
     have z:=SeqAt.RcNeAt.tuples (e:=fun j=>eqD (ds.getD j .non) (es.getD j .non)) tp1 tp2 hu (item_eq (A:=A) (eqNall I (n-1)) (by omega) (by first | (rw[dpD_tup] at hz1;omega) | (rw[dpD_lst] at hz1;omega)) (by first | (rw[dpD_tup] at hz2;omega) | (rw[dpD_lst] at hz2;omega)) hi q1 q2 rv1 rv2)
     rw[List.size_toArray,List.size_toArray,<- rv1.length,<- rv2.length,<- q1.length,<- q2.length] at z;rw[eqD,eqDs_all];exact z
   |lst es=>unfold Rep at r1;obtain⟨p1,vs1,y1,s1,q1⟩:=r1;subst y1;cases (show u=Value.ref _ from w1);obtain⟨its1,rv1,tp1,_⟩:=I.tuple s1;unfold Rep at r2;obtain⟨p2,vs2,y2,s2,q2⟩:=r2;subst y2;cases (show v=Value.ref _ from w2);obtain⟨its2,rv2,tp2,_⟩:=I.list s2;have tp2:=tp2.isList;exact SeqAt.RcNeAt.tuple_list tp1 tp2 hu
  |lst ds =>
   cases e with
   |opq=>exact absurd hz2 (by rw[dpD_opq];omega)
   |non=>unfold Rep at r1;obtain⟨p1,vs1,y1,s1,q1⟩:=r1;subst y1;cases (show u=Value.ref _ from w1);obtain⟨its1,rv1,tp1,_⟩:=I.list s1;have tp1:=tp1.isList;unfold Rep at r2;subst r2;cases (show v=Value.none from w2);exact SeqAt.RcNeAt.list_none tp1 hu
   |bl b2=>unfold Rep at r1;obtain⟨p1,vs1,y1,s1,q1⟩:=r1;subst y1;cases (show u=Value.ref _ from w1);obtain⟨its1,rv1,tp1,_⟩:=I.list s1;have tp1:=tp1.isList;unfold Rep at r2;subst r2;cases (show v=Value.bool _ from w2);exact SeqAt.RcNeAt.list_bool _ tp1 hu
   |int b2=>unfold Rep at r1;obtain⟨p1,vs1,y1,s1,q1⟩:=r1;subst y1;cases (show u=Value.ref _ from w1);obtain⟨its1,rv1,tp1,_⟩:=I.list s1;have tp1:=tp1.isList;unfold Rep at r2;subst r2;obtain⟨t2,z2⟩:=w2;subst z2;exact SeqAt.RcNeAt.list_int _ _ tp1 hu
   |str b2=>unfold Rep at r1;obtain⟨p1,vs1,y1,s1,q1⟩:=r1;subst y1;cases (show u=Value.ref _ from w1);obtain⟨its1,rv1,tp1,_⟩:=I.list s1;have tp1:=tp1.isList;unfold Rep at r2;subst r2;obtain⟨t2,z2⟩:=w2;subst z2;exact SeqAt.RcNeAt.list_str _ _ tp1 hu
   |tup es=>unfold Rep at r1;obtain⟨p1,vs1,y1,s1,q1⟩:=r1;subst y1;cases (show u=Value.ref _ from w1);obtain⟨its1,rv1,tp1,_⟩:=I.list s1;have tp1:=tp1.isList;unfold Rep at r2;obtain⟨p2,vs2,y2,s2,q2⟩:=r2;subst y2;cases (show v=Value.ref _ from w2);obtain⟨its2,rv2,tp2,_⟩:=I.tuple s2;exact SeqAt.RcNeAt.list_tuple tp1 tp2 hu
   |lst es =>
     rw[dpD_lst] at hn;unfold Rep at r1;obtain⟨p1,vs1,y1,s1,q1⟩:=r1;subst y1;cases (show u=Value.ref _ from w1);obtain⟨its1,rv1,tp1,_⟩:=I.list s1;have tp1:=tp1.isList;unfold Rep at r2;obtain⟨p2,vs2,y2,s2,q2⟩:=r2;subst y2;cases (show v=Value.ref _ from w2);obtain⟨its2,rv2,tp2,_⟩:=I.list s2;have tp2:=tp2.isList;have hi:A.in1.units+(n-1)<cLine:=by show A.units+1+(n-1)<cLine;omega
     have l1:its1.toArray.size=ds.length:=by rw[List.size_toArray,<- rv1.length,<- q1.length]
     have l2:its2.toArray.size=es.length:=by rw[List.size_toArray,<- rv2.length,<- q2.length]
     rw[eqD,eqDs_all]
     by_cases hl:ds.length=es.length
     ·have z:=SeqAt.RcNeAt.lists (e:=fun j=>eqD (ds.getD j .non) (es.getD j .non)) tp1 tp2 (by rw[l1,l2];exact hl) hu (item_eq (A:=A) (eqNall I (n-1)) (by omega) (by first | (rw[dpD_tup] at hz1;omega) | (rw[dpD_lst] at hz1;omega)) (by first | (rw[dpD_tup] at hz2;omega) | (rw[dpD_lst] at hz2;omega)) hi q1 q2 rv1 rv2)
      rw[l1] at z;rw[show min ds.length es.length=ds.length by omega,show (ds.length==es.length)=true by simp[hl],Bool.and_true]
      exact z
     ·rw[show (ds.length==es.length)=false by simp[hl],Bool.and_false]
      exact SeqAt.RcNeAt.lists_lengths tp1 tp2 (by rw[l1,l2];simp[hl]) hu
noncomputable def rNeD (K:PySem.W.Frag):R2:=fun x y H Q=>∃ d e,Rep K H d x/\Rep K H e y/\dpD d<=30/\dpD e<=30/\Q (.bl (!eqD d e)) H
theorem op_neD (hu:X.A.units+64<cLine):OpR X (compareOp .NotEq) (rNeD X.K):=by
 intro pins s σ H x y v u Q I rx ry h;obtain⟨d,e,r1,r2,hd,hd2,q⟩:=h;exact neN I 30 X.A d e x y v u hd (by omega) (by omega) (by omega) r1 rx r2 ry X.prog X.w X.xe _ ⟨.bl _,H,I,rfl,q⟩
theorem neOpD {K:PySem.W.Frag}:OpD K (rNeD K) dNe:=fun c H0 H ρ σ x y d vx vy Q R r1 r2 e q=>by
 unfold dNe at e
 split at e
 ·rename_i hd
  cases e;exact⟨x,y,Rep.mono R.same x r1,Rep.mono R.same y r2,hd.1,hd.2,q _ H0 H (Same.refl _) R (rep_bl _ _)⟩
 ·cases e
theorem cNe (hu:X.A.units+64<cLine):CmpOk X .NotEq dNe:=⟨_,op_neD hu,neOpD⟩
end
end Fx
set_option maxRecDepth 100000
namespace Fx
open PySem PySem.Spec PyProof.Rows L2
section
variable {X:Cx}
noncomputable def BOk (X:Cx) (f:Value) (g:List D->Option D):Prop:=∃ r,CallR X f r/\∀ (c:FC) (H0 H:Hp) (ρ:En) (σ:L2.St) (ds:List D) (d:D) (vs:List V) (Q:VK),RS X.K c H0 H ρ σ->Reps X.K H0 ds vs->g ds=some d->Aft X.K c H0 ρ σ d Q->r vs H Q
theorem eF_of {g:List D->Option D}{A:FA}{r:List V->Hp->VK->Prop} (o:∀ (c:FC) (H0 H:Hp) (ρ:En) (σ:L2.St) (ds:List D) (d:D) (vs:List V) (Q:VK),RS X.K c H0 H ρ σ->Reps X.K H0 ds vs->g ds=some d->Aft X.K c H0 ρ σ d Q->r vs H Q)
  {σ:L2.St}{H:Hp}{Q:VK} (h:tE X.K (eF g A) σ H Q):tCB r (tAa X.K A) σ H Q:=by
 obtain⟨c,H0,ρ,d,ρ',R,f,q⟩:=h;unfold eF at f;obtain⟨⟨ds,ρ1⟩,h1,f⟩:=bnd_eq f;obtain⟨d',h2,f⟩:=bnd_eq f;have f':some (d',ρ1)=some (d,ρ'):=f;cases f';exact⟨c,H0,ρ,ds,_,R,h1,fun vs H1 Hh s1 R1 r1=>o c H1 Hh _ σ ds d vs Q R1 r1 h2 fun v H2 Hh2 s2 R2 r2=>q v H2 Hh2 (s1.trans s2) R2 r2⟩
theorem xB {id:String}{g:List D → Option D}{A:FA}{x:Str}{p pos:Pos}{e:Expr}{es:List Expr} (o:BOk X (.builtin id) g) (hg:Gl X x) (hm:X.mg x=none) (hv:bootBuiltins x=some (.builtin id)) (ha:XA X (e::es) A) (hn:x≠"__name__":=by decide) (hdb:(x==("__debug__":Str))=false:=by decide)
  (he:starEach (e::es) X.env=(false,eval e X.env)::starEach es X.env:=by rfl) (hpl:(backTo pos (starEach es X.env)).any (·.1)=false:=by rfl):XE X (.Call (.Name x p) (e::es) [] pos) (eF g A):=by
 obtain⟨r,h1,h2⟩:=o;exact PE.wk (pe_callB h1 hg hm hv ha hn hdb he hpl) fun σ H Q h=>eF_of h2 h
theorem Reps.v1 {K:PySem.W.Frag}{H:Hp}{d:D}{vs:List V} (h:Reps K H [d] vs):∃ v,vs=[v]/\Rep K H d v:=by
 unfold Reps at h;obtain⟨v,r,e,a,b⟩:=h;unfold Reps at b;exact⟨v,by rw[e,b],a⟩
theorem Reps.v2 {K:PySem.W.Frag}{H:Hp}{d d':D}{vs:List V} (h:Reps K H [d,d'] vs):∃ v v',vs=[v,v']/\Rep K H d v/\Rep K H d' v':=by
 unfold Reps at h;obtain⟨v,r,e,a,b⟩:=h;obtain⟨v',e',b'⟩:=Reps.v1 b;exact⟨v,v',by rw[e,e'],a,b'⟩
theorem bAbs_inv {ds:List D}{d:D} (h:bAbs ds=some d):∃ i,ds=[.int i]/\d=.int (if i<0 then -i else i):=by
 unfold bAbs at h
 split at h
 ·cases h;exact⟨_,rfl,rfl⟩
 ·cases h
theorem callAbs:BOk X (.builtin "abs") bAbs:=⟨_,call_abs,fun c H0 H ρ σ ds d vs Q R r e q=>by
 obtain⟨i,rfl,rfl⟩:=bAbs_inv e;obtain⟨v,rfl,rv⟩:=Reps.v1 r;unfold Rep at rv;subst rv;exact⟨i,rfl,q _ H0 H (Same.refl _) R (rep_int _ _)⟩⟩
theorem ints_rep {K:PySem.W.Frag}{H:Hp}:∀ {ds:List D}{is:List Int}{vs:List V},intsOf ds=some is->Reps K H ds vs->vs=is.map V.int
 |[],_,_,e,r=>by
  have e':([]:List Int)=_:=Option.some.inj e;unfold Reps at r;rw[r,<- e'];rfl
 |d::ds,_,_,e,r=>by
  cases d with
  |int i =>
   rw[intsOf_cons] at e;obtain⟨is,e1,e2⟩:=bnd_eq e;cases e2;unfold Reps at r;obtain⟨v,r',rfl,a,t⟩:=r;unfold Rep at a;rw[a,ints_rep e1 t];rfl
  |_=>cases e
theorem intsAre_of:∀ {is:List Int}{us:List Value},Vals (is.map V.int) us->IntsAre us is:=by
 intro is
 induction is with
 |nil=>intro us h;cases h;exact .nil
 |cons b r ih =>
  intro us h;cases h with
  |cons a t=>obtain⟨tk,rfl⟩:=(show ∃ t,_=Value.int b t from a);exact .cons b tk (ih t)
theorem minI_spec:∀ (r:List Int) (m:Int),(minI m r=m\/minI m r∈r)/\minI m r<=m/\∀ a∈r,minI m r<=a
 |[],m=>⟨.inl rfl,Int.le_refl _,fun a h=>by cases h⟩
 |x::r,m=>by
  obtain⟨h1,h2,h3⟩:=minI_spec r (if x<m then x else m);rw[show minI m (x::r)=minI (if x<m then x else m) r from rfl]
  by_cases h:x<m
  ·rw[if_pos h] at h1 h2 h3 ⊢
   refine⟨.inr ?_,by omega,fun a ha=>?_⟩
   ·rcases h1 with e | e
    ·rw[e];exact List.mem_cons_self
    ·exact List.mem_cons_of_mem _ e
   ·rcases List.mem_cons.mp ha with rfl | ha
    ·exact h2
    ·exact h3 a ha
  ·rw[if_neg h] at h1 h2 h3 ⊢
   refine⟨?_,h2,fun a ha=>?_⟩
   ·rcases h1 with e | e
    ·exact .inl e
    ·exact .inr (List.mem_cons_of_mem _ e)
   ·rcases List.mem_cons.mp ha with rfl | ha
    ·omega
    ·exact h3 a ha
theorem maxI_spec:∀ (r:List Int) (m:Int),(maxI m r=m\/maxI m r∈r)/\m<=maxI m r/\∀ a∈r,a<=maxI m r
 |[],m=>⟨.inl rfl,Int.le_refl _,fun a h=>by cases h⟩
 |x::r,m=>by
  obtain⟨h1,h2,h3⟩:=maxI_spec r (if m<x then x else m);rw[show maxI m (x::r)=maxI (if m<x then x else m) r from rfl]
  by_cases h:m<x
  ·rw[if_pos h] at h1 h2 h3 ⊢
   refine⟨.inr ?_,by omega,fun a ha=>?_⟩
   ·rcases h1 with e | e
    ·rw[e];exact List.mem_cons_self
    ·exact List.mem_cons_of_mem _ e
   ·rcases List.mem_cons.mp ha with rfl | ha
    ·exact h2
    ·exact h3 a ha
  ·rw[if_neg h] at h1 h2 h3 ⊢
   refine⟨?_,h2,fun a ha=>?_⟩
   ·rcases h1 with e | e
    ·exact .inl e
    ·exact .inr (List.mem_cons_of_mem _ e)
   ·rcases List.mem_cons.mp ha with rfl | ha
    ·omega
    ·exact h3 a ha
theorem minI_uniq {i M:Int}{r:List Int} (h:M∈i::r) (h':∀ a∈i::r,M<=a):M=minI i r:=by
 obtain⟨h1,h2,h3⟩:=minI_spec r i
 have a1:minI i r<=M:=by
  rcases List.mem_cons.mp h with rfl | h
  ·exact h2
  ·exact h3 _ h
 have a2:M<=minI i r:=by
  rcases h1 with e | e
  ·rw[e];exact h' _ List.mem_cons_self
  ·exact h' _ (List.mem_cons_of_mem _ e)
 omega
theorem maxI_uniq {i M:Int}{r:List Int} (h:M∈i::r) (h':∀ a∈i::r,a<=M):M=maxI i r:=by
 obtain⟨h1,h2,h3⟩:=maxI_spec r i
 have a1:M<=maxI i r:=by
  rcases List.mem_cons.mp h with rfl | h
  ·exact h2
  ·exact h3 _ h
 have a2:maxI i r<=M:=by
  rcases h1 with e | e
  ·rw[e];exact h' _ List.mem_cons_self
  ·exact h' _ (List.mem_cons_of_mem _ e)
 omega
theorem call_minL (hc:X.calm=true):CallR X (.builtin "min") (fun xs H Q=>∃ (p:Addr) (i:Int) (r:List Int),xs=[.ref p] ∧ SqL X.K H p ((i::r).map V.int) ∧ Q (.int (minI i r)) H):=by
 intro pins s σ H xs us Q I r h;obtain⟨l,i,is,rfl,hl,q⟩:=h;obtain⟨u,rfl,ru⟩:=vals1 r;cases ru;obtain⟨its,rv,pl,hz⟩:=I.list hl;have hi:=intsAre_of rv;have hL:=pl.isList;obtain⟨ys,e⟩:=hi.allInts.items;have hns:i::is=ys.toList.map (·.1):=by rw[<- hi.numsOf,<- nums_intItems,<- e]
 have hsz:0<ys.size:=by
  have h3:0<(i::is).length:=Nat.succ_pos _;rw[hns,List.length_map,Array.length_toList] at h3;exact h3
 rw[e] at hL;refine min_intList (I.ok.hd hc) hL hsz fun v h' tk hv hk=>?_
 obtain⟨t,rfl⟩:=intItems_at hv;obtain⟨h1,h2⟩:=argBest_lt (numAt ys) (ys.size-1);refine⟨_,H,I.kept hk,?_,q⟩
 have:numAt ys (argBest (fun i j=>decide (numAt ys i<numAt ys j)) (ys.size-1))=minI i is:=minI_uniq (by rw[hns,numAt_eq];exact getD_mem (by rw[List.length_map,Array.length_toList];omega)) fun a ha=>by
  rw[hns] at ha;obtain⟨j,hj,rfl⟩:=mem_getD ha;rw[List.length_map,Array.length_toList] at hj;rw[<- numAt_eq];exact h2 j (by omega)
 rw[this];exact⟨_,rfl⟩
theorem call_maxL (hc:X.calm=true):CallR X (.builtin "max") (fun xs H Q=>∃ (p:Addr) (i:Int) (r:List Int),xs=[.ref p] ∧ SqL X.K H p ((i::r).map V.int) ∧ Q (.int (maxI i r)) H):=by
 intro pins s σ H xs us Q I r h;obtain⟨l,i,is,rfl,hl,q⟩:=h;obtain⟨u,rfl,ru⟩:=vals1 r;cases ru;obtain⟨its,rv,pl,hz⟩:=I.list hl;have hi:=intsAre_of rv;have hL:=pl.isList;obtain⟨ys,e⟩:=hi.allInts.items;have hns:i::is=ys.toList.map (·.1):=by rw[<- hi.numsOf,<- nums_intItems,<- e]
 have hsz:0<ys.size:=by
  have h3:0<(i::is).length:=Nat.succ_pos _;rw[hns,List.length_map,Array.length_toList] at h3;exact h3
 rw[e] at hL;refine max_intList (I.ok.hd hc) hL hsz fun v h' tk hv hk=>?_
 obtain⟨t,rfl⟩:=intItems_at hv;obtain⟨h1,h2⟩:=argBest_gt (numAt ys) (ys.size-1);refine⟨_,H,I.kept hk,?_,q⟩
 have:numAt ys (argBest (fun i j=>decide (numAt ys i > numAt ys j)) (ys.size-1))=maxI i is:=maxI_uniq (by rw[hns,numAt_eq];exact getD_mem (by rw[List.length_map,Array.length_toList];omega)) fun a ha=>by
  rw[hns] at ha;obtain⟨j,hj,rfl⟩:=mem_getD ha;rw[List.length_map,Array.length_toList] at hj;rw[<- numAt_eq];exact h2 j (by omega)
 rw[this];exact⟨_,rfl⟩
theorem CallR.or {X:Cx}{f:Value}{r r':List V->Hp->VK->Prop} (h:CallR X f r) (h':CallR X f r'):CallR X f (fun xs H Q=>r xs H Q\/r' xs H Q) :=
 fun pins s σ H xs us Q I v z=>z.elim (fun a=>h pins s σ H xs us Q I v a) (fun a=>h' pins s σ H xs us Q I v a)
theorem bestI_inv {f:Int->List Int->Int}{is:List Int}{d:D} (h:bestI f is=some d):∃ i r,is=i::r/\d=.int (f i r):=by
 cases is with
 |nil=>cases h
 |cons i r=>cases h;exact⟨i,r,rfl,rfl⟩
theorem callMax (hc:X.calm=true):BOk X (.builtin "max") bMax:=⟨_,(call_max2 hc).or (call_maxL hc),fun c H0 H ρ σ ds d vs Q R r e q=>by
 unfold bMax at e
 split at e
 ·cases e
  obtain⟨v,v',rfl,r1,r2⟩:=Reps.v2 r;unfold Rep at r1 r2;subst r1 r2;exact .inl ⟨_,_,rfl,q _ H0 H (Same.refl _) R (rep_int _ _)⟩
 ·obtain⟨is,e1,e2⟩:=bnd_eq e
  obtain⟨i,is,rfl,rfl⟩:=bestI_inv e2;obtain⟨v,rfl,rv⟩:=Reps.v1 r;unfold Rep at rv;obtain⟨p,ws,rfl,s,t⟩:=rv;have:=ints_rep e1 t;subst this;exact .inr ⟨p,i,is,rfl,Same.seq R.same s,q _ H0 H (Same.refl _) R (rep_int _ _)⟩
 ·cases e⟩
theorem callMin (hc:X.calm=true):BOk X (.builtin "min") bMin:=⟨_,(call_min2 hc).or (call_minL hc),fun c H0 H ρ σ ds d vs Q R r e q=>by
 unfold bMin at e
 split at e
 ·cases e
  obtain⟨v,v',rfl,r1,r2⟩:=Reps.v2 r;unfold Rep at r1 r2;subst r1 r2;exact .inl ⟨_,_,rfl,q _ H0 H (Same.refl _) R (rep_int _ _)⟩
 ·obtain⟨is,e1,e2⟩:=bnd_eq e
  obtain⟨i,is,rfl,rfl⟩:=bestI_inv e2;obtain⟨v,rfl,rv⟩:=Reps.v1 r;unfold Rep at rv;obtain⟨p,ws,rfl,s,t⟩:=rv;have:=ints_rep e1 t;subst this;exact .inr ⟨p,i,is,rfl,Same.seq R.same s,q _ H0 H (Same.refl _) R (rep_int _ _)⟩
 ·cases e⟩
theorem bools_rep {K:PySem.W.Frag}{H:Hp}:∀ {ds:List D}{bs:List Bool}{vs:List V},bools ds=some bs->Reps K H ds vs->vs=bs.map V.bl
 |[],_,_,e,r=>by
  have e':([]:List Bool)=_:=Option.some.inj e;unfold Reps at r;rw[r,<- e'];rfl
 |d::ds,_,_,e,r=>by
  cases d with
  |bl b =>
   rw[bools_cons] at e;obtain⟨bs,e1,e2⟩:=bnd_eq e;cases e2;unfold Reps at r;obtain⟨v,r',rfl,a,t⟩:=r;unfold Rep at a;rw[a,bools_rep e1 t];rfl
  |_=>cases e
theorem boolsAre_of:∀ {bs:List Bool}{us:List Value},Vals (bs.map V.bl) us->LSm.BoolsAre us bs:=by
 intro bs
 induction bs with
 |nil=>intro us h;cases h;exact .nil
 |cons b r ih =>
  intro us h;cases h with
  |cons a t=>cases (show _=Value.bool b from a);exact .cons b (ih t)
theorem call_anyD (hc:X.calm=true):CallR X (.builtin "any") (fun xs H Q=>∃ (p:Addr) (bs:List Bool),xs=[.ref p] ∧ SqL X.K H p (bs.map V.bl) ∧ Q (.bl (bs.any id)) H):=by
 intro pins s σ H xs us Q I r h;obtain⟨l,bs,rfl,hl,q⟩:=h;obtain⟨u,rfl,ru⟩:=vals1 r;cases ru;obtain⟨its,rv,pl,hz⟩:=I.list hl;have hb:=boolsAre_of rv;have hl:=pl.isList;have hlt:l<s.heap.objs.size:=by obtain⟨_,e,_⟩:=hl;exact Heap.lt_size e
 refine call_any_walk (wpAny_pyIter_list hl ?_);refine⟨s.heap.objs.size,[s.heap.objs.size,l],[s.heap.objs.size],its.toArray.size,_,_,fun i=>(bs[i]?).getD false,rfl,Walks.list (A:=X.A.in1) (I.ok.hd hc) _ l (Nat.ne_of_lt hlt) its.toArray,
  ⟨⟨_,Heap.get?_push_size _ rfl,rfl,rfl⟩,hl.push _⟩,fun i v s' Q' E' hP hQ=>?_,fun h' tk hk=>?_⟩
 ·obtain⟨b,e,rfl⟩:=hb.get i v (by simpa using hP)
  simp only[e,Option.getD_some] at hQ;exact wpAny_truthy_bool hQ
 ·have e:((List.range its.toArray.size).any fun i=>(bs[i]?).getD false)=bs.any id:=by
   rw[List.size_toArray,hb.length];exact LSm.range_any bs
  rw[e];exact⟨.bl _,H,I.kept (t':=tk) (LSm.kept_iter hk),rfl,q⟩
theorem callAnyO (hc:X.calm=true):BOk X (.builtin "any") bAny:=⟨_,call_anyD hc,fun c H0 H ρ σ ds d vs Q R r e q=>by
 unfold bAny at e
 split at e
 ·obtain⟨bs,e1,e2⟩:=bnd_eq e
  cases e2;obtain⟨v,rfl,rv⟩:=Reps.v1 r;unfold Rep at rv;obtain⟨p,ws,rfl,s,t⟩:=rv;have:=bools_rep e1 t;subst this;exact⟨p,bs,rfl,Same.seq R.same s,q _ H0 H (Same.refl _) R (rep_bl _ _)⟩
 ·cases e⟩
noncomputable def tyN:Ty->String
 |.int=>"int" | .bool=>"bool" | .str=>"str" | .tuple=>"tuple" | .list=>"list"
noncomputable def tyV (d:D):Value:=match d with
 |.non=>.type "NoneType" | .bl _=>.type "bool" | .int _=>.type "int" | .str _=>.type "str" | .tup _=>.type "tuple" | .lst _=>.type "list" | .opq _ _=>.type "dict"
theorem kit_eq (K:PySem.W.Frag) (t:Ty) (d:D):PySem.W.kitOne K (tyV d) (.type (tyN t))=some (isTy t d):=by
 cases t <;> cases d <;> rfl
theorem call_isi (t:Ty):CallR X (.builtin "isinstance") (fun xs H Q=>∃ d x,xs=[x,.ty (tyN t)] ∧ Rep X.K H d x ∧ Q (.bl (isTy t d)) H):=by
 intro pins s σ H xs us Q I r h;obtain⟨d,x,rfl,rx,q⟩:=h;obtain⟨u,w,rfl,ru,rw'⟩:=vals2 r;cases (show w=Value.type _ from rw');have k:=kit_eq X.K t d;have fin:∀ tk,EP X pins σ Q (.bool (isTy t d)) {s with toks:=tk}:=fun tk=>⟨.bl _,H,I.tok tk,rfl,q⟩
 cases d with
 |non=>unfold Rep at rx;subst rx;cases (show u=Value.none from ru);exact PySem.W.kia_one PySem.W.kitx_none I.kIn True.intro k (fun z=>nomatch z) fin
 |bl y=>unfold Rep at rx;subst rx;cases (show u=Value.bool y from ru);exact PySem.W.kia_one PySem.W.kitx_bool I.kIn True.intro k (fun z=>nomatch z) fin
 |int i=>unfold Rep at rx;subst rx;obtain⟨t,z⟩:=(show ∃ t,u=Value.int i t from ru);cases z;exact PySem.W.kia_one PySem.W.kitx_int I.kIn True.intro k (fun z=>nomatch z) fin
 |str y=>unfold Rep at rx;subst rx;obtain⟨t,z⟩:=(show ∃ t,u=Value.str y t from ru);cases z;exact PySem.W.kia_one PySem.W.kitx_str I.kIn True.intro k (fun z=>nomatch z) fin
 |tup ds =>
  unfold Rep at rx;obtain⟨a,vs,rfl,s1,_⟩:=rx;cases (show u=Value.ref a from ru);obtain⟨_,_,⟨o,h1,h2,_⟩,_⟩:=I.tuple s1;exact PySem.W.kia_one PySem.W.kitx_tuple I.kIn ⟨o,h1,h2⟩ k (fun z=>nomatch z) fin
 |opq ks ds =>
  unfold Rep at rx;obtain⟨a,o,tab,rfl,ea,_⟩:=rx;cases (show u=Value.ref a from ru);obtain⟨⟨_,h1,h2⟩,_⟩:=(show ObjOk X.prog X.w H s.heap a (tdF a o tab) from I.hok a _ ea);exact PySem.W.kia_one PySem.W.kitx_dict I.kIn ⟨o,h1,h2.ex.1⟩ k (fun z=>nomatch z) fin
 |lst ds =>
  unfold Rep at rx;obtain⟨a,vs,rfl,s1,_⟩:=rx;cases (show u=Value.ref a from ru);obtain⟨_,_,⟨o,n,h1,h2,_⟩,_⟩:=I.list s1;exact PySem.W.kia_one PySem.W.kitx_list I.kIn ⟨o,h1,h2⟩ k (fun z=>nomatch z) fin
theorem xty {t:Ty}{T:Str}{p p' pos:Pos}{e:Expr}{F:FE} (hi:X.mg "isinstance"=none) (hm:X.mg T=none) (hT:bootBuiltins T=some (.type (tyN t))) (ha:XE X e F) (hg:Gl X "isinstance":=by rfl) (hg':Gl X T:=by rfl)
  (hn:T≠"__name__":=by decide) (hd:(T==("__debug__":Str))=false:=by decide) (hs:starEach [e,.Name T p'] X.env=(false,eval e X.env)::starEach [.Name T p'] X.env:=by rfl) (hs':starEach [.Name T p'] X.env=[(false,eval (.Name T p') X.env)]:=by rfl)
  (hpl:(backTo pos (starEach [.Name T p'] X.env)).any (·.1)=false:=by rfl):XE X (.Call (.Name "isinstance" p) [e,.Name T p'] [] pos) (eTy t F) :=
 PE.wk (pe_callB (call_isi t) hg hi PyProof.Rows.boot_isinstance (pa_cons ha (pa_cons (pe_bltn (v:=.ty (tyN t)) hg' hm hT rfl hn hd) pa_nil hs') hs) (by decide) (by decide) hs hpl) fun σ H Q hh0_=>by
  obtain⟨c,H0,ρ,d,ρ',R,f,q⟩:=hh0_;unfold eTy at f;obtain⟨⟨x,ρ1⟩,h1,f⟩:=bnd_eq f;have f':some (D.bl (isTy t x),ρ1)=some (d,ρ'):=f;cases f';exact⟨c,H0,ρ,x,_,R,h1,fun v H1 Hh s1 R1 r1=>⟨x,v,rfl,Rep.mono R1.same x r1,q _ H1 Hh s1 R1 (rep_bl _ _)⟩⟩
noncomputable def spP (K:PySem.W.Frag) (g:List D->Option D):Sp:=fun vs H Q _=>∃ Hi ds d,Same Hi H/\Reps K Hi ds vs/\g ds=some d/\∀ v Hi' H',Step Hi H Hi' H'->Rep K Hi' d v->Q v H'
structure DefOk (P:Program) (w:World) (K:PySem.W.Frag) (mg:Str->Option Value) (base:Heap) (k:Nat) (x:Str) (g:List D->Option D):Prop where
 ex:∃ f fd ps,FnOk P w K mg base CX0 k f fd ps (spP K g)/\Binds K fd ps []/\PySem.W.keepIn K (.ref f)=true/\mg x=some (.ref f)
theorem xF {k:Nat}{x:Str}{g:List D → Option D}{A:FA}{p pos:Pos}{e:Expr}{es:List Expr} (G:DefOk X.prog X.w X.K X.mg X.base k x g) (hr:Room k X.A) (ha:XA X (e::es) A) (hg:Gl X x:=by rfl) (hdb:(x==("__debug__":Str))=false:=by decide)
  (he:starEach (e::es) X.env=(false,eval e X.env)::starEach es X.env:=by rfl) (hpl:(backTo pos (starEach es X.env)).any (·.1)=false:=by rfl):XE X (.Call (.Name x p) (e::es) [] pos) (eF g A):=by
 obtain⟨f,fd,ps,F,hb,hk,hm⟩:=G.ex;refine PE.wk (pe_call F hr hg hm hk hb .nil pass0 ha hdb he hpl) fun σ H Q hh0_=>?_
 obtain⟨c,H0,ρ,d,ρ',R,z,q⟩:=hh0_;unfold eF at z;obtain⟨⟨ds,ρ1⟩,h1,z⟩:=bnd_eq z;obtain⟨d',h2,z⟩:=bnd_eq z;have z':some (d',ρ1)=some (d,ρ'):=z;cases z';exact⟨c,H0,ρ,ds,_,R,h1,fun vs H1 Hh s1 R1 r1=>⟨H1,ds,d,R1.same,by rw[List.append_nil];exact r1,h2,fun v Hi' H' S rv=>q v Hi' H' (s1.trans S.s0) (R1.after S) rv⟩⟩
end
end Fx
set_option maxRecDepth 100000
namespace Fx
open PySem PySem.Spec PyProof.Rows L2
noncomputable def Yields (K:PySem.W.Frag) (J:It) (H1:Hp) (xs:List D):Prop:=∀ (H0 H:Hp) (i:Nat),Same H1 H0->Same H0 H ->
 (∀ d,xs[i]?=some d->J.go i H/\∀ x H',J.yld i H x H'->H'=H/\Rep K H0 d x)/\(xs.length<=i->J.stop i H)
theorem yields_list {K:PySem.W.Frag}{H1:Hp}{a:Addr}{vs:List V}{xs:List D} (rd:SqL K H1 a vs) (r:Reps K H1 xs vs):Yields K (Itl K a) H1 xs:=fun H0 H i s s'=>by
 have sq:SqL K H a vs:=Same.seq (s.trans s') rd;refine⟨fun d e=>?_,fun h=>⟨vs,sq,by rw[<- r.length];exact h⟩⟩
 obtain⟨v,e1,e2⟩:=r.get e;refine⟨⟨vs,v,sq,e1⟩,fun x H' ⟨h1,h2⟩=>⟨h1,?_⟩⟩
 have:=h2 vs sq;rw[e1] at this;cases this;exact Rep.mono s d e2
theorem yields_tup {K:PySem.W.Frag}{H1:Hp}{a:Addr}{vs:List V}{xs:List D} (rd:SqT K H1 a vs) (r:Reps K H1 xs vs):Yields K (Itt K a) H1 xs:=fun H0 H i s s'=>by
 have sq:SqT K H a vs:=Same.seqT (s.trans s') rd;refine⟨fun d e=>?_,fun h=>⟨vs,sq,by rw[<- r.length];exact h⟩⟩
 obtain⟨v,e1,e2⟩:=r.get e;refine⟨⟨vs,v,sq,e1⟩,fun x H' ⟨h1,h2⟩=>⟨h1,?_⟩⟩
 have:=h2 vs sq;rw[e1] at this;cases this;exact Rep.mono s d e2
theorem rngD_length:∀ (n:Nat) (lo:Int),(rngD lo n).length=n
 |0,_=>rfl
 |n+1,lo=>by show (rngD (lo+1) n).length+1=n+1;rw[rngD_length n]
theorem rngD_get:∀ (n:Nat) (lo:Int) (i:Nat) (d:D),(rngD lo n)[i]?=some d->d=.int (lo+i)/\i<n
 |0,lo,i,d,h=>by simp[rngD] at h
 |n+1,lo,0,d,h=>by
  simp[rngD] at h;exact⟨by rw[<- h];simp,by omega⟩
 |n+1,lo,i+1,d,h=>by
  have h':(rngD (lo+1) n)[i]?=some d:=by simpa [rngD] using h
  obtain⟨a,b⟩:=rngD_get n (lo+1) i d h';refine⟨by rw[a];congr 1;push_cast;omega,by omega⟩
theorem yields_rng {K:PySem.W.Frag}{H1:Hp} (lo:Int) (n:Nat):Yields K (Itr lo n) H1 (rngD lo n):=fun H0 H i s s'=>by
 refine⟨fun d e=>?_,fun h=>by rw[rngD_length] at h;exact h⟩
 obtain⟨rfl,hi⟩:=rngD_get n lo i d e;refine⟨hi,fun x H' ⟨h1,h2⟩=>⟨h1,?_⟩⟩
 unfold Rep;exact h2
noncomputable def Its (z:Str):It:=⟨fun i _=>i<z.cps.size,fun i H x H'=>H'=H/\∃ c,z.cps[i]?=some c/\x=.str (chS c),fun i _=>z.cps.size<=i⟩
theorem turn_str {P:Program}{w:World}{K:PySem.W.Frag}{tg:Expr}{n:String} (z:Str) (t:Tok) (it:Addr) (hn:["enumerate","zip","dict_itemiterator","dict_reverseitemiterator","odict_iterator","itertools.zip_longest","itertools.pairwise"].contains n=false)
  (W:∀ A:Around,A.handled=none->Walks P w A it [it] [it] z.cps.size (SignAt z) (fun i h=>h.IsStrIter it n z t i)) (fin:∀ (A:Around) (s:Shared) (i:Nat) (Q:Option Value->Shared->Prop) (E:Value->Shared->Prop),A.handled=none->s.heap.IsStrIter it n z t i->z.cps[i]?=none->(∀ h',Heap.ExtBut it s.heap h'->Q none {s with heap:=h'})->wpAny (model P w) A (pyNext (.ref it)) Q E s)
  (slf:∀ (A:Around) (i:Nat) (s:Shared) (Q:Value->Shared->Prop) (E:Value->Shared->Prop),s.heap.IsStrIter it n z t i->Q (.ref it) s->wpAny (model P w) A (pyIter (.ref it)) Q E s) :
  Turn P w K tg (Its z) [it] it (fun i h=>h.IsStrIter it n z t i) where
 mem:=by simp
 obj:=fun i h st b hb=>by
  have e:b=it:=by simpa using hb
  subst e;obtain⟨o,e,c,d⟩:=st;exact⟨o,e,fun v z=>by rw[d] at z;cases z⟩
 keep:=fun i h h' st k=>let ⟨o,e,r⟩:=st;⟨o,k it (by simp) o e,r⟩
 item:=by
  intro X hP hw hK hc i pins s σ H E I hf st hg;subst hP hw hK;obtain⟨f0,f1,f2,f3,f4,f5⟩:=hf it (by simp)
  refine (W X.A (I.ok.hd hc)).item i s _ _ hg st fun v h' tk hv st' kk=>?_
  obtain⟨ch,u,e1,rfl⟩:=hv;have I1:Inv X pins σ H {s with heap:=h',toks:=tk}:=I.turned (fun b o hb e=>kk b o (by simpa using hb) e) f0 f1 f3 f4 f5
  obtain⟨o,e,c,d⟩:=id st';exact⟨_,rfl,go_of (s:={s with heap:=h',toks:=tk}) e c d hn ⟨.str (chS ch),H,I1,⟨u,rfl⟩,⟨rfl,ch,e1,rfl⟩,st',fun b hb=>(hf b hb).1⟩⟩
 done:=by
  intro X hP hw hK hc i pins s σ H E I hf st hg;subst hP hw hK;obtain⟨f0,f1,f2,f3,f4,f5⟩:=hf it (by simp)
  have hg:z.cps.size<=i:=hg;exact fin X.A s i _ _ (I.ok.hd hc) st (by simp[hg]) fun h' eb=>⟨rfl,I.turned (t':=s.toks) (fun b o hb e=>eb b o hb e) f0 f1 f3 f4 f5⟩
 self:=fun A i s Q E st h=>slf A i s Q E st h
noncomputable def iStr (t:TE):TI:=fun σ H R=>t σ H fun x H1=>∃ z,x=.str z/\R (Its z) H1
noncomputable def iSq (K:PySem.W.Frag) (t:TE):TI:=fun σ H R=>iList K t σ H R\/iTup K t σ H R\/iStr t σ H R
theorem pi_str {X:Cx}{tg l:Expr}{tl:TE} (hl:PE X l tl):PI X tg l (iStr tl):=by
 intro pins s σ H R I h;refine thn (hl pins s σ H _ I h) fun v s1 hh0_=>?_
 obtain⟨x,H1,I1,r1,q1⟩:=hh0_;obtain⟨z,e,q⟩:=q1;subst e;obtain⟨t,rfl⟩:=r1
 have fp:∀ (o:Obj),∀ b∈[s1.heap.objs.size],FpOk X pins H1 b:=fun o b hb=>by
  have e:b=s1.heap.objs.size:=by simpa using hb
  subst e;exact I1.fpOk (Nat.le_refl _) (I1.hok.fresh (Nat.le_refl _))
 cases ha:z.cps.all (·<128)
 ·refine wpAny_pyIter_wide ha ?_
  exact⟨s1.heap.objs.size,[s1.heap.objs.size],_,_,H1,rfl,I1.kept (t':=s1.toks) fun b o e=>Heap.get?_push_of_some _ e,turn_str (n:="str_iterator") z t _ (by decide) (fun A hA=>Walks.strWide hA _ z t) (fun A s i Q E hA st hx hQ=>wpAny_pyNext_wide_end hA st hx hQ) (fun _ _ _ _ _ st h=>wpAny_pyIter_striter_wide st h),⟨_,Heap.get?_push_size _ rfl,rfl,rfl⟩,fp {cls:=.none,data:=.fields #[]},q⟩
 ·refine wpAny_pyIter_ascii ha ?_
  exact⟨s1.heap.objs.size,[s1.heap.objs.size],_,_,H1,rfl,I1.kept (t':=s1.toks) fun b o e=>Heap.get?_push_of_some _ e,turn_str (n:="str_ascii_iterator") z t _ (by decide) (fun A hA=>Walks.strAscii hA _ z t) (fun A s i Q E hA st hx hQ=>wpAny_pyNext_ascii_end hA st hx hQ) (fun _ _ _ _ _ st h=>wpAny_pyIter_striter_ascii st h),⟨_,Heap.get?_push_size _ rfl,rfl,rfl⟩,fp {cls:=.none,data:=.fields #[]},q⟩
theorem yields_str {K:PySem.W.Frag}{H1:Hp} (z:Str):Yields K (Its z) H1 (chs z):=fun H0 H i s s'=>by
 have hl:(chs z).length=z.cps.size:=by unfold chs;rw[List.length_map,Array.length_toList]
 refine⟨fun d e=>?_,fun h=>by rw[hl] at h;exact h⟩
 have hi:i<z.cps.size:=by rw[<- hl];exact (List.getElem?_eq_some_iff.mp e).1
 refine⟨hi,fun x H' ⟨h1,ch,h2,h3⟩=>⟨h1,?_⟩⟩
 unfold chs at e;rw[List.getElem?_map,Array.getElem?_toList,h2] at e;have e':D.str (chS ch)=d:=Option.some.inj e;subst e';unfold Rep;exact h3
theorem pi_sq {X:Cx}{tg l:Expr}{tl:TE} (hl:PE X l tl):PI X tg l (iSq X.K tl):=fun pins s σ H R I h=>by
 rcases h with h | h | h
 ·exact pi_list hl pins s σ H R I h
 ·exact pi_tup hl pins s σ H R I h
 ·exact pi_str hl pins s σ H R I h
theorem walk_of_data {K:PySem.W.Frag}{F:FE}{σ:L2.St}{H:Hp}{R:It->Hp->Prop}{c:FC}{H0:Hp}{ρ ρ':En}{d:D}{xs:List D} (rs:RS K c H0 H ρ σ) (f:F ρ=some (d,ρ')) (hx:items d=some xs)
  (h:∀ J H1 Hh,Same H0 H1->RS K c H1 Hh ρ' σ->Yields K J H1 xs->R J Hh):iSq K (tE K F) σ H R:=by
 cases d with
 |lst ds =>
  have e:ds=xs:=Option.some.inj hx;subst e;refine .inl ⟨c,H0,ρ,_,ρ',rs,f,fun v H1 Hh s1 R1 r1=>?_⟩
  unfold Rep at r1;obtain⟨a,vs,rfl,rd,r⟩:=r1;exact⟨a,rfl,⟨vs,Same.seq R1.same rd⟩,h _ H1 Hh s1 R1 (yields_list rd r)⟩
 |tup ds =>
  have e:ds=xs:=Option.some.inj hx;subst e;refine .inr (.inl ⟨c,H0,ρ,_,ρ',rs,f,fun v H1 Hh s1 R1 r1=>?_⟩)
  unfold Rep at r1;obtain⟨a,vs,rfl,rd,r⟩:=r1;exact⟨a,rfl,⟨vs,Same.seqT R1.same rd⟩,h _ H1 Hh s1 R1 (yields_tup rd r)⟩
 |str z =>
  have e:chs z=xs:=Option.some.inj hx;subst e;refine .inr (.inr ⟨c,H0,ρ,_,ρ',rs,f,fun v H1 Hh s1 R1 r1=>?_⟩)
  unfold Rep at r1;exact⟨z,r1,h _ H1 Hh s1 R1 (yields_str z)⟩
 |_=>cases hx
theorem imAt_get {ρ:En}:∀ {js:List Nat}{fr:En},imAt ρ js=some fr->fr.length=js.length/\∀ (k:Nat) (s:Sl),fr[k]?=some s->∃ j d,js[k]?=some j/\ρ[j]?=some (.im d)/\s=.im d
 |[],_,h=>by
  have h':([]:En)=_:=Option.some.inj h;subst h';exact⟨rfl,fun k s e=>by simp at e⟩
 |j::js,_,h=>by
  rw[imAt_cons] at h;obtain⟨s,h1,h⟩:=bnd_eq h;obtain⟨r,h2,h⟩:=bnd_eq h;cases h;obtain⟨a,b⟩:=imAt_get h2;refine⟨by rw[List.length_cons,List.length_cons,a],fun k s' e=>?_⟩
  cases k with
  |zero =>
   simp at e;subst e;cases z:ρ[j]? with
   |none=>rw[z] at h1;cases h1
   |some sl =>
    rw[z] at h1;cases sl with
    |im d=>exact⟨j,d,rfl,z,(Option.some.inj h1).symm⟩
    |_=>cases h1
  |succ k =>
   obtain⟨j',d,x1,x2,x3⟩:=b k s' (by simpa using e)
   exact⟨j',d,by simpa using x1,x2,x3⟩
theorem RS.block {K:PySem.W.Frag}{c:FC}{H0 H:Hp}{ρ:En}{σ:L2.St}{js:List Nat}{fr:En}{d:D}{x:V} (R:RS K c H0 H ρ σ) (hf:imAt ρ js=some fr) (rx:Rep K H0 d x):RS K ⟨H0,H,[]⟩ H0 H (.im d::fr) (some x::frv σ js):=by
 obtain⟨l,g⟩:=imAt_get hf;refine⟨R.same,Same.refl _,fun b o e=>.inl e,fun b o e _=>e,fun a h=>(by cases h),?_,fun i d' e=>?_,fun i b o e=>?_,fun i j b b' o o' a e=>?_⟩
 ·rw[List.length_cons,List.length_cons,l,frv,List.length_map]
 ·cases i with
  |zero=>simp at e;subst e;exact⟨x,rfl,rx⟩
  |succ k =>
   obtain⟨j,d2,x1,x2,x3⟩:=g k _ (by simpa using e)
   cases x3;obtain⟨v,y1,y2⟩:=R.im j d' x2;refine⟨v,?_,y2⟩;show (frv σ js)[k]?=some (some v);unfold frv;rw[List.getElem?_map,x1];show some (σ[j]?).join=some (some v);rw[y1];rfl
 ·cases i with
  |zero=>simp at e
  |succ k =>
   obtain⟨j,d2,_,_,x3⟩:=g k _ (by simpa using e)
   cases x3
 ·cases i with
  |zero=>simp at e
  |succ k =>
   obtain⟨j,d2,_,_,x3⟩:=g k _ (by simpa using e)
   cases x3
theorem RS.step {K:PySem.W.Frag}{Hi He H0 H:Hp}{ρ:En}{σ:L2.St} (R:RS K ⟨Hi,He,[]⟩ H0 H ρ σ):Step Hi He H0 H :=
 ⟨R.init,fun b o e=>R.keep b o e (by simp),R.same,R.fresh⟩
theorem drop_of {α:Type}{xs:List α}{i:Nat}{d:α} (h:xs[i]?=some d):xs.drop i=d::xs.drop (i+1):=by
 obtain⟨hi,e⟩:=List.getElem?_eq_some_iff.mp h;rw[<- e];exact List.drop_eq_getElem_cons hi
theorem lc_of {K:PySem.W.Frag}{c:FC}{H1 Hh:Hp}{ρ:En}{σ:L2.St}{js:List Nat}{fr:En}{T:FT}{F:FE}{xs out:List D}{J:It}{Qf:List V->Hp->Prop} (R:RS K c H1 Hh ρ σ) (hf:imAt ρ js=some fr) (hc:cGo T F fr xs=some out) (hz:xs.length<=sizeLine) (hy:Yields K J H1 xs)
  (q:∀ ys H0 H,Same H1 H0->RS K c H0 H ρ σ->Reps K H0 out ys->Qf ys H):LcW js (tTt K T) (tE K F) σ Qf J Hh:=by
 refine⟨fun i m ys H=>m=xs.length-i/\i<=xs.length/\∃ H0,Same H1 H0/\RS K c H0 H ρ σ/\∃ pre rest,Reps K H0 pre ys/\pre.length<=i/\cGo T F fr (xs.drop i)=some rest/\pre++rest=out,⟨xs.length,by simp,Nat.zero_le _,H1,Same.refl _,R,[],out,Reps.nil_,Nat.zero_le _,by simpa using hc,rfl⟩,?_⟩
 rintro i m ys H ⟨rfl,hi,H0,s0,R0,pre,rest,rp,lp,hg,e⟩;obtain⟨y1,y2⟩:=hy H0 H i s0 R0.same
 by_cases hlt:i<xs.length
 ·have hd:xs[i]?=some xs[i]:=by simp[hlt]
  obtain⟨go,yl⟩:=y1 _ hd;refine .inr ⟨go,by rw[<- rp.length];omega,fun x H' hx=>?_⟩
  obtain⟨rfl,rx⟩:=yl x H' hx;rw[drop_of hd,cGo_cons] at hg;obtain⟨⟨b,ρb⟩,g1,hg⟩:=bnd_eq hg;dsimp only at hg;refine⟨⟨H0,H',[]⟩,H0,_,b,ρb,R0.block hf rx,g1,fun H2 Hh2 s2 R2=>?_⟩
  cases b with
  |false =>
   rw[if_neg Bool.false_ne_true] at hg ⊢;have S:=R2.step;exact⟨xs.length-(i+1),by omega,rfl,hlt,H2,s0.trans S.s0,R0.after S,pre,rest,Reps.mono S.s0 _ rp,by omega,hg,e⟩
  |true =>
   rw[if_pos rfl] at hg ⊢;obtain⟨⟨z,ρz⟩,g2,hg⟩:=bnd_eq hg;obtain⟨t,g3,hg⟩:=bnd_eq hg;dsimp only at hg;have hg':some (z::t)=some rest:=hg;cases hg';refine⟨⟨H0,H',[]⟩,H2,ρb,z,ρz,R2,g2,fun v H3 Hh3 s3 R3 r3=>?_⟩
   have S:=R3.step;refine⟨xs.length-(i+1),by omega,rfl,hlt,H3,s0.trans S.s0,R0.after S,pre++[z],t,(Reps.mono S.s0 _ rp).app (Reps.one r3),?_,g3,?_⟩
   ·rw[List.length_append,List.length_singleton];omega
   ·rw[List.append_assoc];exact e
 ·have ei:i=xs.length:=by omega
  have hn:xs.drop i=[]:=List.drop_eq_nil_of_le (by omega)
  rw[hn,cGo_nil] at hg;have hg':([]:List D)=rest:=Option.some.inj hg;subst hg';rw[List.append_nil] at e;subst e;exact .inl ⟨y2 (by omega),by rw[<- rp.length];omega,q ys H0 H s0 R0 rp⟩
noncomputable def XTs (X:Cx) (ifs:List Expr) (T:FT):Prop:=PTs X ifs (tTt X.K T)
theorem PTs.wk {X:Cx}{e:List Expr}{t t':TT} (h:PTs X e t) (w:∀ σ H Q,t' σ H Q->t σ H Q):PTs X e t':=fun pins s σ H Q I q=>h pins s σ H Q I (w σ H Q q)
theorem xts_nil {X:Cx}:XTs X [] Fx.tYes:=PTs.wk pts_nil fun σ H Q hh0_=>by
 obtain⟨c,H0,ρ,b,ρ',R,f,q⟩:=hh0_;have f':some (true,ρ)=some (b,ρ'):=f;cases f';exact q H0 H (Same.refl _) R
section
variable {X:Cx}{scope sc:Scope}{x:Str}{frees:List Str}{js:List Nat}{px pos:Pos}{elt iter:Expr}{ifs:List Expr}{I F:FE}{T:FT}
theorem eLC_inv {ρ ρ':En}{d:D} (h:eLC js I T F ρ=some (d,ρ')):∃ z xs fr ys,I ρ=some (z,ρ')/\items z=some xs/\imAt ρ' js=some fr/\cGo T F fr xs=some ys/\xs.length<=sizeLine/\d=.lst ys:=by
 unfold eLC at h;obtain⟨⟨z,ρ1⟩,h1,h⟩:=bnd_eq h;obtain⟨xs,h2,h⟩:=bnd_eq h;obtain⟨fr,h3,h⟩:=bnd_eq h;obtain⟨ys,h4,h⟩:=bnd_eq h;dsimp only at h2 h3 h4 h
 split at h
 ·rename_i hz
  cases h;exact⟨z,xs,fr,ys,h1,h2,h3,h4,hz,rfl⟩
 ·cases h
theorem xlc (hc:X.calm=true) (hsc:X.env.scope=sc) (B:ScB X.N sc scope x frees js) (hi:XE X iter I) (ht:∀ s H C fp,XTs (cxB X (x::frees) scope s H C fp) ifs T) (he:∀ s H C fp,XE (cxB X (x::frees) scope s H C fp) elt F)
  (hs:∀ v,foldedSetIterable iter X.env v=pure v:=by intro _;rfl):XE X (.ListComp elt [⟨.Name x px,iter,ifs,0⟩] scope pos) (eLC js I T F) :=
 PE.wk (pe_lc (tt:=tTt X.K T) (te:=tE X.K F) hc hsc B (pi_sq hi) ht he hs) fun σ H Q hh0_=>by
  obtain⟨c,H0,ρ,d,ρ',R,f,q⟩:=hh0_;obtain⟨z,xs,fr,ys,h1,h2,h3,h4,hz,rfl⟩:=eLC_inv f;refine walk_of_data R h1 h2 fun J H1 Hh s1 R1 hy=>?_
  refine lc_of R1 h3 h4 hz hy fun vs H2 Hh2 s2 R2 r2=>fun p hp=>?_
  have S:=Step.alloc (o:=.lst vs) R2.same hp;refine q _ _ _ (s1.trans (s2.trans S.s0)) (R2.after S) ?_;unfold Rep;exact⟨p,vs,rfl,.inl (.inl upd_same),Reps.mono S.s0 _ r2⟩
end
noncomputable def Post (K:PySem.W.Frag) (c:FC) (Dn:Ends) (H0:Hp):Res->Prop
 |.nx ρ'=>∀ σ' H0' H',Same H0 H0'->RS K c H0' H' ρ' σ'->Dn.nx σ' H'
 |.rt d ρ'=>∀ v σ' H0' H',Same H0 H0'->RS K c H0' H' ρ' σ'->Rep K H0' d v->Dn.rt v H'
 |.bk ρ'=>∀ σ' H0' H',Same H0 H0'->RS K c H0' H' ρ' σ'->Dn.bk σ' H'
 |.ct ρ'=>∀ σ' H0' H',Same H0 H0'->RS K c H0' H' ρ' σ'->Dn.ct σ' H'
noncomputable def tS (K:PySem.W.Frag) (F:FS):TS:=fun Dn σ H=>∃ c H0 ρ r,RS K c H0 H ρ σ/\F ρ=some r/\Post K c Dn H0 r
noncomputable def XS (X:Cx) (st:Stmt) (F:FS):Prop:=PS X st (tS X.K F)
noncomputable def XSs (X:Cx) (sts:List Stmt) (F:FS):Prop:=PSs X sts (tS X.K F)
theorem Post.mono {K:PySem.W.Frag}{c:FC}{Dn:Ends}{H0 H1:Hp} (s:Same H0 H1):∀ {r:Res},Post K c Dn H0 r->Post K c Dn H1 r
 |.nx _,h=>fun σ' H0' H' z=>h σ' H0' H' (s.trans z)
 |.rt _ _,h=>fun v σ' H0' H' z=>h v σ' H0' H' (s.trans z)
 |.bk _,h=>fun σ' H0' H' z=>h σ' H0' H' (s.trans z)
 |.ct _,h=>fun σ' H0' H' z=>h σ' H0' H' (s.trans z)
theorem RS.set {K:PySem.W.Frag}{c:FC}{H0 H:Hp}{ρ:En}{σ:L2.St}{d:D}{v:V} (R:RS K c H0 H ρ σ) (i:Nat) (r:Rep K H0 d v):RS K c H0 H (ρ.set i (.im d)) (σ.set i (some v)):=by
 have hl:=R.len;have other:∀ (j:Nat) (sl:Sl),j≠i->(ρ.set i (.im d))[j]?=some sl->ρ[j]?=some sl:=fun j sl hj e=>by rwa [List.getElem?_set_ne (Ne.symm hj)] at e
 have otherS:∀ (j:Nat),j≠i->(σ.set i (some v))[j]?=σ[j]?:=fun j hj=>List.getElem?_set_ne (Ne.symm hj)
 have same:∀ (sl:Sl),(ρ.set i (.im d))[i]?=some sl->sl=.im d/\i<ρ.length:=fun sl e=>by
  by_cases hi:i<ρ.length
  ·rw[List.getElem?_set_self hi] at e;exact⟨(Option.some.inj e).symm,hi⟩
  ·rw[List.getElem?_eq_none (by rw[List.length_set];omega)] at e;cases e
 refine⟨R.same,R.init,R.fresh,R.keep,R.apt,by rw[List.length_set,List.length_set,hl],fun j d' e=>?_,fun j bb o e=>?_,fun j k b1 b2 o o' a e1 e2 e3 e4=>?_⟩
 ·by_cases hj:j=i
  ·subst hj
   obtain⟨e',hi⟩:=same _ e;cases e';exact⟨v,by rw[List.getElem?_set_self (by omega)],r⟩
  ·rw[otherS j hj];exact R.im j d' (other j _ hj e)
 ·by_cases hj:j=i
  ·subst hj;obtain⟨e',_⟩:=same _ e;cases e'
  ·rw[otherS j hj];exact R.ow j bb o (other j _ hj e)
 ·by_cases hj:j=i
  ·subst hj;obtain⟨e',_⟩:=same _ e1;cases e'
  ·by_cases hk:k=i
   ·subst hk;obtain⟨e',_⟩:=same _ e2;cases e'
   ·rw[otherS j hj] at e3;rw[otherS k hk] at e4
    exact R.ne j k b1 b2 o o' a (other j _ hj e1) (other k _ hk e2) e3 e4
section
variable {X:Cx}{pos:Pos}{e:Expr}{F:FE}{T:FT}{A B:FS}
theorem xsN:XSs X [] sN:=PSs.wk pss_nil fun Dn σ H hh0_=>by
 obtain⟨c,H0,ρ,r,R,f,q⟩:=hh0_;have f':some (Res.nx ρ)=some r:=f;cases f';exact q σ H0 H (Same.refl _) R
theorem xs1 {st:Stmt} (h:XS X st A):XSs X [st] A:=pss_one h
theorem xsC {st:Stmt}{rest:List Stmt} (h1:XS X st A) (h2:XSs X rest B):XSs X (st::rest) (sSeq A B):=PSs.wk (pss_cons h1 h2) fun Dn σ H hh0_=>by
 obtain⟨c,H0,ρ,r,R,f,q⟩:=hh0_;unfold sSeq at f;obtain⟨z,h,f⟩:=bnd_eq f;refine⟨c,H0,ρ,z,R,h,?_⟩;cases z with
 |nx ρ1=>exact fun σ' H0' H' s R'=>⟨c,H0',ρ1,r,R',f,q.mono s⟩
 |rt d ρ1=>have f':some (Res.rt d ρ1)=some r:=f;cases f';exact q
 |bk ρ1=>have f':some (Res.bk ρ1)=some r:=f;cases f';exact q
 |ct ρ1=>have f':some (Res.ct ρ1)=some r:=f;cases f';exact q
theorem xset (i:Nat) {x:Str}{pos':Pos} (hN:X.N.Nodup) (he:XE X e F) (hi:X.N[i]?=some x:=by rfl) (hx:Loc X.env.scope x:=by first | exact Or.inl rfl | exact Or.inr rfl) (hs:swapsWith e (some (.Name x pos')) pos.line X.env=pure false:=by rfl)
  (hf:X.fn x=true\/X.env.scope.names.lookup x=some .local:=by first | exact .inl rfl | exact .inr rfl):XS X (.Assign [.Name x pos'] e pos) (sSet i F):=PS.wk (ps_set hN hi hx he hs hf) fun Dn σ H hh0_=>by
 obtain⟨c,H0,ρ,r,R,f,q⟩:=hh0_;unfold sSet at f;obtain⟨⟨d,ρ1⟩,h1,f⟩:=bnd_eq f;have f':some (Res.nx (ρ1.set i (.im d)))=some r:=f;cases f';exact⟨c,H0,ρ,d,ρ1,R,h1,fun v H1 Hh s1 R1 r1=>q _ H1 Hh s1 (R1.set i r1)⟩
theorem xsif {c:Expr}{a b:List Stmt} (hc:XT X c T) (ha:XSs X a A) (hb:XSs X b B):XS X (.If c a b pos) (sIf T A B):=PS.wk (ps_if hc ha hb) fun Dn σ H hh0_=>by
 obtain⟨c,H0,ρ,r,R,f,q⟩:=hh0_;unfold sIf at f;obtain⟨⟨k,ρ1⟩,h1,f⟩:=bnd_eq f;dsimp only at f;refine⟨c,H0,ρ,k,ρ1,R,h1,fun H1 Hh s1 R1=>?_⟩
 cases k with
 |true =>
  rw[if_pos rfl] at f ⊢;exact⟨c,H1,ρ1,r,R1,f,q.mono s1⟩
 |false =>
  rw[if_neg Bool.false_ne_true] at f ⊢;exact⟨c,H1,ρ1,r,R1,f,q.mono s1⟩
theorem xret (he:XE X e F):XS X (.Return (some e) pos) (sRet F):=PS.wk (ps_ret he) fun Dn σ H hh0_=>by
 obtain⟨c,H0,ρ,r,R,f,q⟩:=hh0_;unfold sRet at f;obtain⟨⟨d,ρ1⟩,h1,f⟩:=bnd_eq f;have f':some (Res.rt d ρ1)=some r:=f;cases f';exact⟨c,H0,ρ,d,ρ1,R,h1,fun v H1 Hh s1 R1 r1=>q v σ H1 Hh s1 R1 r1⟩
noncomputable abbrev GD:=D->En->Option En
noncomputable def tG (K:PySem.W.Frag) (g:GD):TG:=fun v σ H Q=>∃ c H0 ρ d ρ',RS K c H0 H ρ σ/\Rep K H0 d v/\g d ρ=some ρ'/\∀ σ' H0' H',Same H0 H0'->RS K c H0' H' ρ' σ'->Q σ' H'
noncomputable def tGs (K:PySem.W.Frag) (is:List Nat):TGs:=fun vs σ H Q=>∃ c H0 ρ ds,RS K c H0 H ρ σ/\Reps K H0 ds vs/\ds.length=is.length/\∀ σ' H0' H',Same H0 H0'->RS K c H0' H' (setAll is ds ρ) σ'->Q σ' H'
noncomputable def XG (X:Cx) (tg:Expr) (g:GD):Prop:=PG X tg (tG X.K g)
noncomputable def XGs (X:Cx) (tgs:List Expr) (is:List Nat):Prop:=PGs X tgs (tGs X.K is)
theorem xgN (i:Nat) {x:Str} (hN:X.N.Nodup) (hi:X.N[i]?=some x:=by rfl) (hx:Loc X.env.scope x:=by first | exact Or.inl rfl | exact Or.inr rfl) (hf:X.fn x=true\/X.env.scope.names.lookup x=some .local:=by first | exact .inl rfl | exact .inr rfl):XG X (.Name x pos) (gN i) :=
 fun pins s σ H v u Q I rv hh0_=>by obtain⟨c,H0,ρ,d,ρ',R,r,f,q⟩:=hh0_;exact pg_name hN hi hx hf pins s σ H v u Q I rv (by
  have f':some (ρ.set i (.im d))=some ρ':=f;cases f';exact q _ H0 H (Same.refl _) (R.set i r))
theorem xgs0:XGs X [] []:=fun pins s σ H vs us Q I rv hh0_=>by obtain⟨c,H0,ρ,ds,R,r,l,q⟩:=hh0_;exact pgs_nil pins s σ H vs us Q I rv (by
 have e:ds=[]:=List.length_eq_zero_iff.mp l;subst e;unfold Reps at r;exact⟨r,q σ H0 H (Same.refl _) (by simpa [setAll_nil] using R)⟩)
theorem xgsC {e:Expr}{es:List Expr}{i:Nat}{is:List Nat} (h1:XG X e (gN i)) (h2:XGs X es is) (hs:(assignEach (e::es) X.env).map (·.2)=assign e X.env::(assignEach es X.env).map (·.2):=by rfl):XGs X (e::es) (i::is) :=
 fun pins s σ H vs us Q I rv hh0_=>by obtain⟨c,H0,ρ,ds,R,r,l,q⟩:=hh0_;exact pgs_cons h1 h2 hs pins s σ H vs us Q I rv (by
  cases ds with
  |nil=>simp at l
  |cons d ds =>
   unfold Reps at r;obtain⟨v,vr,rfl,r1,r2⟩:=r;refine⟨v,vr,rfl,c,H0,ρ,d,_,R,r1,rfl,fun σ1 H1 Hh s1 R1=>?_⟩
   exact⟨c,H1,_,ds,R1,Reps.mono s1 _ r2,by simpa using l,fun σ2 H2 Hh2 s2 R2=>q σ2 H2 Hh2 (s1.trans s2) (by simpa [setAll_cons] using R2)⟩)
theorem assign_Tuple_list {X:Cx}{s:Shared}{E:Value->Shared->Prop}{elts:List Expr}{k:Nat}{l:Addr}{items:Array Value}{Q:Unit->Shared->Prop} (hh:X.A.handled=none) (hl:s.heap.IsList l items)
  (hn:(assignEach elts X.env).length=items.size) (hstar:(assignEach elts X.env).findIdx? (·.1)=none)
  (h:∀ h',Heap.ExtBut s.heap.objs.size s.heap h'->wpAny (model X.prog X.w) X.A (assignInOrder ((assignEach elts X.env).map (·.2)) items.toList) Q E {s with heap:=h'}) :
  wpAny (model X.prog X.w) X.A (assign (.Tuple elts k pos) X.env (.ref l)) Q E s:=by
 rw[assign_Tuple];refine wpAny_bind (wpAny_standAt ?_);unfold unpack;rw[hn,hstar];exact wpAny_bind (wpAny_holding (PySem.W.kun_itemsOf hh hl h))
noncomputable def gLst (K:PySem.W.Frag) (n:Nat) (t:TGs):TG:=fun v σ H Q=>∃ a xs,v=.ref a/\SqL K H a xs/\xs.length=n/\t xs σ H Q
theorem pg_lst {es:List Expr}{k:Nat}{t:TGs}{n:Nat} (hc:X.calm=true) (h:PGs X es t)
  (hn:(assignEach es X.env).length=n:=by rfl) (hst:(assignEach es X.env).findIdx? (·.1)=none:=by rfl):PG X (.Tuple es k pos) (gLst X.K n t):=by
 intro pins s σ H v u Q I r hw;obtain⟨a,xs,e1,hq,hl,hw⟩:=hw;subst e1;cases r;obtain⟨its,rv,pl,hz⟩:=I.list hq;refine assign_Tuple_list (I.ok.hd hc) pl.isList (by simp[hn,<- hl,rv.length]) hst fun h' hx=>?_
 have I1:Inv X pins σ H {s with heap:=h'}:=I.kept (t':=s.toks) fun b o e=>hx b o (Nat.ne_of_lt (Heap.lt_size e)) e
 exact h pins _ σ H xs _ Q I1 (by simpa using rv) hw
theorem xgT {es:List Expr}{k:Nat}{is:List Nat} (h:XGs X es is) (hc:X.calm=true:=by rfl) (hn:(assignEach es X.env).length=is.length:=by rfl) (hst:(assignEach es X.env).findIdx? (·.1)=none:=by rfl):XG X (.Tuple es k pos) (gT is) :=
 fun pins s σ H v u Q I rv hh0_=>by
  obtain⟨c,H0,ρ,d,ρ',R,r,f,q⟩:=hh0_;unfold gT at f;obtain⟨xs,h1,f⟩:=bnd_eq f
  split at f
  ·rename_i hl
   cases f;cases d with
   |tup ds =>
    refine pg_tup hc h hn hst pins s σ H v u Q I rv ?_;have e:ds=xs:=Option.some.inj h1;subst e;unfold Rep at r;obtain⟨a,vs,rfl,sq,r⟩:=r;exact⟨a,vs,rfl,Same.seqT R.same sq,by rw[<- r.length];exact hl,c,H0,ρ,ds,R,r,hl,q⟩
   |lst ds =>
    refine pg_lst hc h hn hst pins s σ H v u Q I rv ?_;have e:ds=xs:=Option.some.inj h1;subst e;unfold Rep at r;obtain⟨a,vs,rfl,sq,r⟩:=r;exact⟨a,vs,rfl,Same.seq R.same sq,by rw[<- r.length];exact hl,c,H0,ρ,ds,R,r,hl,q⟩
   |_=>cases h1
  ·cases f
theorem for_of {K:PySem.W.Frag}{c:FC}{H1 Hh:Hp}{ρ:En}{σ:L2.St}{g:GD}{B:FS}{xs:List D}{J:It}{Dn:Ends}{r:Res} (R:RS K c H1 Hh ρ σ) (hf:fGo g B xs ρ=some r) (hy:Yields K J H1 xs) (q:Post K c Dn H1 r) :
  ∃ W:Nat->Nat->L2.St->Hp->Prop,(∃ m,W 0 m σ Hh)/\∀ i m σ H,W i m σ H ->
   (J.stop i H/\Dn.nx σ H)\/(J.go i H/\∃ N:L2.St->Hp->Prop,(∀ σ' H',N σ' H'->∃ m',m'<m/\W (i+1) m' σ' H')/\∀ x H',J.yld i H x H'->tG K g x σ H' fun σ2 H2=>tS K B {Dn with nx:=N,ct:=N,bk:=Dn.nx} σ2 H2):=by
 refine⟨fun i m σ H=>m=xs.length-i/\i<=xs.length/\∃ H0 ρ,Same H1 H0/\RS K c H0 H ρ σ/\fGo g B (xs.drop i) ρ=some r,⟨xs.length,by simp,Nat.zero_le _,H1,ρ,Same.refl _,R,by simpa using hf⟩,?_⟩
 rintro i m σ H ⟨rfl,hi,H0,ρ,s0,R0,hg⟩;obtain⟨y1,y2⟩:=hy H0 H i s0 R0.same
 by_cases hlt:i<xs.length
 ·have hd:xs[i]?=some xs[i]:=by simp[hlt]
  obtain⟨go,yl⟩:=y1 _ hd;refine .inr ⟨go,fun σ' H'=>∃ m',m'<xs.length-i/\m'=xs.length-(i+1)/\i+1<=xs.length/\∃ H0 ρ,Same H1 H0/\RS K c H0 H' ρ σ'/\fGo g B (xs.drop (i+1)) ρ=some r,fun σ' H' ⟨m',a,b⟩=>⟨m',a,b⟩,fun x H' hx=>?_⟩
  obtain⟨rfl,rx⟩:=yl x H' hx;rw[drop_of hd,fGo_cons] at hg;obtain⟨ρ1,g1,hg⟩:=bnd_eq hg;obtain⟨z,g2,hg⟩:=bnd_eq hg;refine⟨c,H0,ρ,_,ρ1,R0,rx,g1,fun σ1 H2 Hh2 s2 R2=>⟨c,H2,ρ1,z,R2,g2,?_⟩⟩
  cases z with
  |nx ρ2=>exact fun σ' H3 Hh3 s3 R3=>⟨_,by omega,rfl,hlt,H3,ρ2,s0.trans (s2.trans s3),R3,hg⟩
  |ct ρ2=>exact fun σ' H3 Hh3 s3 R3=>⟨_,by omega,rfl,hlt,H3,ρ2,s0.trans (s2.trans s3),R3,hg⟩
  |bk ρ2 =>
   have hg':some (Res.nx ρ2)=some r:=hg;cases hg';exact fun σ' H3 Hh3 s3 R3=>q σ' H3 Hh3 (s0.trans (s2.trans s3)) R3
  |rt d ρ2 =>
   have hg':some (Res.rt d ρ2)=some r:=hg;cases hg';exact fun v σ' H3 Hh3 s3 R3 r3=>q v σ' H3 Hh3 (s0.trans (s2.trans s3)) R3 r3
 ·have hn:xs.drop i=[]:=List.drop_eq_nil_of_le (by omega)
  rw[hn,fGo_nil] at hg;have hg':some (Res.nx ρ)=some r:=hg;cases hg';exact .inl ⟨y2 (by omega),q σ H0 H s0 R0⟩
theorem xfor {tg iter:Expr}{body:List Stmt}{g:GD} (hg:XG X tg g) (hi:XE X iter F) (hb:XSs X body B) (hp:PassesOwn (model X.prog X.w) X.A X.env X.xe:=by exact PassesOwn.never) (hc:X.calm=true:=by rfl) (hs:∀ x,foldedSetIterable iter X.env x=pure x:=by intro _;rfl) :
  XS X (.For tg iter body [] pos) (sFor g F B):=PS.wk (ps_for hp hc (pi_sq hi) hg hb hs) fun Dn σ H hh0_=>by
 obtain⟨c,H0,ρ,r,R,f,q⟩:=hh0_;unfold sFor at f;obtain⟨⟨d,ρ1⟩,h1,f⟩:=bnd_eq f;obtain⟨xs,h2,f⟩:=bnd_eq f;exact walk_of_data R h1 h2 fun J H1 Hh s1 R1 hy=>for_of R1 f hy (q.mono s1)
theorem xforR1 {tg a:Expr}{body:List Stmt}{g:GD}{p pos':Pos} (hm:X.mg "range"=none) (hg:XG X tg g) (ha:XE X a F) (hb:XSs X body B) (hgl:Gl X "range":=by rfl) (hp:PassesOwn (model X.prog X.w) X.A X.env X.xe:=by exact PassesOwn.never) (hc:X.calm=true:=by rfl)
  (hst:starEach [a] X.env=[(false,eval a X.env)]:=by rfl) (hs:∀ x,foldedSetIterable (.Call (.Name "range" p) [a] [] pos') X.env x=pure x:=by intro _;rfl) :
  XS X (.For tg (.Call (.Name "range" p) [a] [] pos') body [] pos) (sForR g (rng1 F) B):=PS.wk (ps_for hp hc (pi_range1 hgl hm (pa_cons ha pa_nil hst) hst) hg hb hs) fun Dn σ H hh0_=>by
 obtain⟨c,H0,ρ,r,R,f,q⟩:=hh0_;unfold sForR rng1 at f;obtain⟨⟨xs,ρ1⟩,h1,f⟩:=bnd_eq f;obtain⟨⟨d,ρ2⟩,h2,h1⟩:=bnd_eq h1;obtain⟨j,h3,h1⟩:=bnd_eq h1;dsimp only at h1 h3 f
 split at h1
 ·rename_i hj
  cases h1;refine⟨c,H0,ρ,d,_,R,h2,fun v H1 Hh s1 R1 r1=>?_⟩
  cases d with
  |int k =>
   have e:k=j:=Option.some.inj h3;subst e;unfold Rep at r1;subst r1;exact⟨k,rfl,hj.1,hj.2,for_of R1 f (yields_rng 0 k.toNat) (q.mono s1)⟩
  |_=>cases h3
 ·cases h1
theorem xforR2 {tg a b:Expr}{body:List Stmt}{g:GD}{G:FE}{p pos':Pos} (hm:X.mg "range"=none) (hg:XG X tg g) (ha:XE X a F) (hb':XE X b G) (hb:XSs X body B) (hgl:Gl X "range":=by rfl) (hp:PassesOwn (model X.prog X.w) X.A X.env X.xe:=by exact PassesOwn.never) (hc:X.calm=true:=by rfl)
  (hst:starEach [a,b] X.env=[(false,eval a X.env),(false,eval b X.env)]:=by rfl) (hst':starEach [b] X.env=[(false,eval b X.env)]:=by rfl) (hs:∀ x,foldedSetIterable (.Call (.Name "range" p) [a,b] [] pos') X.env x=pure x:=by intro _;rfl) :
  XS X (.For tg (.Call (.Name "range" p) [a,b] [] pos') body [] pos) (sForR g (rng2 F G) B):=PS.wk (ps_for hp hc (pi_range2 hgl hm (pa_cons ha (pa_cons hb' pa_nil hst') (by rw[hst,hst'])) hst hst') hg hb hs) fun Dn σ H hh0_=>by
 obtain⟨c,H0,ρ,r,R,f,q⟩:=hh0_;unfold sForR rng2 at f;obtain⟨⟨xs,ρ1⟩,h1,f⟩:=bnd_eq f;obtain⟨⟨d,ρ2⟩,h2,h1⟩:=bnd_eq h1;obtain⟨⟨d',ρ3⟩,h3,h1⟩:=bnd_eq h1;obtain⟨i,h4,h1⟩:=bnd_eq h1;obtain⟨j,h5,h1⟩:=bnd_eq h1;dsimp only at h1 h3 h4 h5 f
 split at h1
 ·rename_i hj
  cases h1;refine⟨c,H0,ρ,d,ρ2,R,h2,fun v H1 Hh s1 R1 r1=>?_⟩
  refine⟨c,H1,ρ2,d',_,R1,h3,fun v' H2 Hh2 s2 R2 r2=>?_⟩
  cases d with
  |int k =>
   cases d' with
   |int k' =>
    have e:k=i:=Option.some.inj h4;have e':k'=j:=Option.some.inj h5;subst e e';unfold Rep at r1 r2;subst r1 r2;exact⟨k,k',rfl,hj,for_of R2 f (yields_rng k (k'-k).toNat) (q.mono (s1.trans s2))⟩
   |_=>cases h5
  |_=>cases h4
 ·cases h1
end
theorem RS.start {K:PySem.W.Frag}{Hi H:Hp}{ds:List D}{vs:List V}{m n:Nat} (s:Same Hi H) (r:Reps K Hi ds vs) (hn:n-vs.length=m):RS K ⟨Hi,H,[]⟩ Hi H (ds.map .im++List.replicate m .no) (vs.map some++List.replicate (n-vs.length) none):=by
 have hl:=r.length;refine⟨s,Same.refl _,fun b o e=>.inl e,fun b o e _=>e,fun a h=>(by cases h),?_,fun i d e=>?_,fun i b o e=>?_,fun i j b b' o o' a e=>?_⟩
 ·rw[List.length_append,List.length_append,List.length_map,List.length_map,List.length_replicate,List.length_replicate,hl,hn]
 ·by_cases hi:i<ds.length
  ·rw[List.getElem?_append_left (by simpa using hi),List.getElem?_map] at e
   cases z:ds[i]? with
   |none=>rw[z] at e;cases e
   |some d' =>
    rw[z] at e;have e':d'=d:=by have:=Option.some.inj e;injection this
    subst e';obtain⟨v,a,b⟩:=r.get z;exact⟨v,by rw[List.getElem?_append_left (by simp;omega),List.getElem?_map,a];rfl,b⟩
  ·rw[List.getElem?_append_right (by simpa using Nat.le_of_not_lt hi),List.getElem?_replicate] at e
   split at e <;> cases e
 ·by_cases hi:i<ds.length
  ·rw[List.getElem?_append_left (by simpa using hi),List.getElem?_map] at e
   cases z:ds[i]? with
   |none=>rw[z] at e;cases e
   |some d'=>rw[z] at e;cases e
  ·rw[List.getElem?_append_right (by simpa using Nat.le_of_not_lt hi),List.getElem?_replicate] at e
   split at e <;> cases e
 ·by_cases hi:i<ds.length
  ·rw[List.getElem?_append_left (by simpa using hi),List.getElem?_map] at e
   cases z:ds[i]? with
   |none=>rw[z] at e;cases e
   |some d'=>rw[z] at e;cases e
  ·rw[List.getElem?_append_right (by simpa using Nat.le_of_not_lt hi),List.getElem?_replicate] at e
   split at e <;> cases e
theorem fn_ok {P:Program}{w:World}{K:PySem.W.Frag}{mg:Str->Option Value}{base:Heap}{x qual:Str}{st:Stmt}{f:Addr}{fd:FuncData}{N ps:List Str}{k n m:Nat}{B:FS} (F:Fun K x qual st f fd) (S:FnScope N ps (defScope st)) (hn:ps.length=n) (hN:N.length=n+m)
  (hb:∀ (cdv:Value) (A:Around) (outer:List Env) (s:Shared) (H:Hp) (E:XK),Room k (A.deeper (envOfC qual (defScope st) s.heap.objs.size f cdv))->XSs (cxOf CX0 P w K mg base N qual (defScope st) f cdv A outer s H E).nox (defBody st) B) :
  FnOk P w K mg base CX0 (k+1) f fd ps (spP K (fnD n m B)):=by
 have inv:∀ {ds:List D}{d:D},fnD n m B ds=some d->ds.length=n/\∃ r,B (ds.map .im++List.replicate m .no)=some r/\retR r=some d:=fun {ds d} h=>by
  unfold fnD at h
  split at h
  ·rename_i hl
   obtain⟨r,h1,h2⟩:=bnd_eq h;exact⟨hl,r,h1,h2⟩
  ·cases h
 refine F.ok S (fun vs H Q E h=>?_) (fun cdv A outer s H vs Q E hr h=>?_)
 ·obtain⟨Hi,ds,d,_,r,e,_⟩:=h
  rw[hn,<- r.length];exact (inv e).1
 ·obtain⟨Hi,ds,d,hs,r,e,q⟩:=h
  obtain⟨hl,res,h1,h2⟩:=inv e;refine⟨_,hb cdv A outer s H E hr,⟨Hi,H,[]⟩,Hi,_,res,RS.start (n:=N.length) (m:=m) hs r (by rw[<- r.length];omega),h1,?_⟩
  cases res with
  |nx ρ' =>
   have e':D.non=d:=Option.some.inj h2;subst e';exact fun σ' H0' H' s0 R=>q .non H0' H' R.step (by unfold Rep;rfl)
  |rt d' ρ' =>
   have e':d'=d:=Option.some.inj h2;subst e';exact fun v σ' H0' H' s0 R rv=>q v H0' H' R.step rv
  |bk ρ'=>cases h2
  |ct ρ'=>cases h2
end Fx
namespace Fx
open PySem
@[simp] theorem dAdd_i (i j:Int):dAdd (.int i) (.int j)=some (.int (i+j)):=Eq.trans rfl rfl
@[simp] theorem dAdd_l (a b:List D):dAdd (.lst a) (.lst b)=if a.length+b.length<=sizeLine then some (.lst (a++b)) else none:=Eq.trans rfl rfl
@[simp] theorem dAdd_s (a b:Str):dAdd (.str a) (.str b)=if a.length+b.length<=sizeLine then some (.str (a++b)) else none:=Eq.trans rfl rfl
@[simp] theorem dSub_i (i j:Int):dSub (.int i) (.int j)=some (.int (i-j)):=Eq.trans rfl rfl
@[simp] theorem dMul_i (i j:Int):dMul (.int i) (.int j)=if okMul i j=true then some (.int (i*j)) else none:=Eq.trans rfl rfl
@[simp] theorem dDiv_i (i j:Int):dDiv (.int i) (.int j)=if okDiv j=true then some (.int (i.fdiv j)) else none:=Eq.trans rfl rfl
@[simp] theorem dMod_i (i j:Int):dMod (.int i) (.int j)=if j≠0 then some (.int (i.fmod j)) else none:=Eq.trans rfl rfl
@[simp] theorem dPow_i (i j:Int):dPow (.int i) (.int j)=if 0<=j/\j<=64/\i.natAbs<2 ^ 64 then some (.int (i ^ j.toNat)) else none:=Eq.trans rfl rfl
@[simp] theorem dNeg_i (i:Int):dNeg (.int i)=some (.int (-i)):=Eq.trans rfl rfl
@[simp] theorem dLt_i (i j:Int):dLt (.int i) (.int j)=some (.bl (decide (i<j))):=Eq.trans rfl rfl
@[simp] theorem dLe_i (i j:Int):dLe (.int i) (.int j)=some (.bl (decide (i<=j))):=Eq.trans rfl rfl
@[simp] theorem dGt_i (i j:Int):dGt (.int i) (.int j)=some (.bl (decide (j<i))):=Eq.trans rfl rfl
@[simp] theorem dGe_i (i j:Int):dGe (.int i) (.int j)=some (.bl (decide (j<=i))):=Eq.trans rfl rfl
@[simp] theorem dEq_ (x y:D):dEq x y=if dpD x<=30/\dpD y<=30 then some (.bl (eqD x y)) else none:=Eq.trans rfl rfl
@[simp] theorem dNe_ (x y:D):dNe x y=if dpD x<=30/\dpD y<=30 then some (.bl (!eqD x y)) else none:=Eq.trans rfl rfl
@[simp] theorem dIs_ (x:D):dIs x .non=some (.bl (isN x)):=Eq.trans rfl rfl
@[simp] theorem dIsNot_ (x:D):dIsNot x .non=some (.bl (!isN x)):=Eq.trans rfl rfl
@[simp] theorem dTru_n :dTru .non=some false:=Eq.trans rfl rfl
@[simp] theorem dTru_b (b:Bool):dTru (.bl b)=some b:=Eq.trans rfl rfl
@[simp] theorem dTru_i (i:Int):dTru (.int i)=some (i != 0):=Eq.trans rfl rfl
@[simp] theorem dTru_l (xs:List D):dTru (.lst xs)=some (!xs.isEmpty):=Eq.trans rfl rfl
@[simp] theorem dTru_t (xs:List D):dTru (.tup xs)=some (!xs.isEmpty):=Eq.trans rfl rfl
@[simp] theorem dIx_t (xs:List D) (i:Int):dIx (.tup xs) (.int i)=atD xs i:=Eq.trans rfl rfl
@[simp] theorem dIx_l (xs:List D) (i:Int):dIx (.lst xs) (.int i)=atD xs i:=Eq.trans rfl rfl
@[simp] theorem dSl_l (xs:List D) (lo hi:Option Int):dSl (.lst xs) lo hi=some (.lst (dCut xs lo hi)):=Eq.trans rfl rfl
@[simp] theorem dSl_t (xs:List D) (lo hi:Option Int):dSl (.tup xs) lo hi=if dEnd xs.length 0 lo=0/\dEnd xs.length xs.length hi=xs.length then none else some (.tup (dCut xs lo hi)):=Eq.trans rfl rfl
@[simp] theorem bAbs_ (i:Int):bAbs [.int i]=some (.int (i.natAbs:Int)):=congrArg (fun z=>some (D.int z)) (show (if i<0 then -i else i)=(i.natAbs:Int) by split <;> omega)
@[simp] theorem bLen_l (xs:List D):bLen [.lst xs]=some (.int xs.length):=Eq.trans rfl rfl
@[simp] theorem bLen_t (xs:List D):bLen [.tup xs]=some (.int xs.length):=Eq.trans rfl rfl
theorem bMax_l (xs:List D):bMax [.lst xs]=bnd (intsOf xs) fun is=>bestI maxI is:=rfl
theorem bMin_l (xs:List D):bMin [.lst xs]=bnd (intsOf xs) fun is=>bestI minI is:=rfl
@[simp] theorem bMax_ (i j:Int):bMax [.int i,.int j]=some (.int (if j > i then j else i)):=Eq.trans rfl rfl
@[simp] theorem bMin_ (i j:Int):bMin [.int i,.int j]=some (.int (if j<i then j else i)):=Eq.trans rfl rfl
noncomputable def cnsO {α:Type} (x:α) (o:Option (List α)):Option (List α):=bnd o fun t=>some (x::t)
@[simp] theorem cnsO_s {α:Type} (x:α) (t:List α):cnsO x (some t)=some (x::t):=Eq.trans rfl rfl
@[simp] theorem bools_n :bools []=some []:=Eq.trans rfl rfl
@[simp] theorem bools_c (b:Bool) (r:List D):bools (.bl b::r)=cnsO b (bools r):=Eq.trans rfl rfl
noncomputable def anyA (o:Option (List Bool)):Option D:=bnd o fun bs=>some (.bl (bs.any id))
noncomputable def allA (o:Option (List Bool)):Option D:=bnd o fun bs=>some (.bl (bs.all id))
@[simp] theorem anyA_s (bs:List Bool):anyA (some bs)=some (.bl (bs.any id)):=Eq.trans rfl rfl
@[simp] theorem allA_s (bs:List Bool):allA (some bs)=some (.bl (bs.all id)):=Eq.trans rfl rfl
@[simp] theorem bAny_ (xs:List D):bAny [.lst xs]=anyA (bools xs):=Eq.trans rfl rfl
@[simp] theorem bAll_ (xs:List D):bAll [.lst xs]=allA (bools xs):=Eq.trans rfl rfl
@[simp] theorem isTy_int_opq (ks:List (Str×Int)) (vs:List D):isTy .int (.opq ks vs)=false:=Eq.trans rfl rfl
@[simp] theorem isTy_bool_opq (ks:List (Str×Int)) (vs:List D):isTy .bool (.opq ks vs)=false:=Eq.trans rfl rfl
@[simp] theorem isTy_str_opq (ks:List (Str×Int)) (vs:List D):isTy .str (.opq ks vs)=false:=Eq.trans rfl rfl
@[simp] theorem isTy_tuple_opq (ks:List (Str×Int)) (vs:List D):isTy .tuple (.opq ks vs)=false:=Eq.trans rfl rfl
@[simp] theorem isTy_list_opq (ks:List (Str×Int)) (vs:List D):isTy .list (.opq ks vs)=false:=Eq.trans rfl rfl
@[simp] theorem isB_opq (b:Bool) (ks:List (Str×Int)) (vs:List D):isB b (.opq ks vs)=false:=Eq.trans rfl rfl
@[simp] theorem isTy_int_non :isTy .int .non=false:=Eq.trans rfl rfl
@[simp] theorem isTy_int_bl (b:Bool):isTy .int (.bl b)=true:=Eq.trans rfl rfl
@[simp] theorem isTy_int_int (b:Int):isTy .int (.int b)=true:=Eq.trans rfl rfl
@[simp] theorem isTy_int_str (b:Str):isTy .int (.str b)=false:=Eq.trans rfl rfl
@[simp] theorem isTy_int_tup (b:List D):isTy .int (.tup b)=false:=Eq.trans rfl rfl
@[simp] theorem isTy_int_lst (b:List D):isTy .int (.lst b)=false:=Eq.trans rfl rfl
@[simp] theorem isTy_bool_non :isTy .bool .non=false:=Eq.trans rfl rfl
@[simp] theorem isTy_bool_bl (b:Bool):isTy .bool (.bl b)=true:=Eq.trans rfl rfl
@[simp] theorem isTy_bool_int (b:Int):isTy .bool (.int b)=false:=Eq.trans rfl rfl
@[simp] theorem isTy_bool_str (b:Str):isTy .bool (.str b)=false:=Eq.trans rfl rfl
@[simp] theorem isTy_bool_tup (b:List D):isTy .bool (.tup b)=false:=Eq.trans rfl rfl
@[simp] theorem isTy_bool_lst (b:List D):isTy .bool (.lst b)=false:=Eq.trans rfl rfl
@[simp] theorem isTy_str_non :isTy .str .non=false:=Eq.trans rfl rfl
@[simp] theorem isTy_str_bl (b:Bool):isTy .str (.bl b)=false:=Eq.trans rfl rfl
@[simp] theorem isTy_str_int (b:Int):isTy .str (.int b)=false:=Eq.trans rfl rfl
@[simp] theorem isTy_str_str (b:Str):isTy .str (.str b)=true:=Eq.trans rfl rfl
@[simp] theorem isTy_str_tup (b:List D):isTy .str (.tup b)=false:=Eq.trans rfl rfl
@[simp] theorem isTy_str_lst (b:List D):isTy .str (.lst b)=false:=Eq.trans rfl rfl
@[simp] theorem isTy_tuple_non :isTy .tuple .non=false:=Eq.trans rfl rfl
@[simp] theorem isTy_tuple_bl (b:Bool):isTy .tuple (.bl b)=false:=Eq.trans rfl rfl
@[simp] theorem isTy_tuple_int (b:Int):isTy .tuple (.int b)=false:=Eq.trans rfl rfl
@[simp] theorem isTy_tuple_str (b:Str):isTy .tuple (.str b)=false:=Eq.trans rfl rfl
@[simp] theorem isTy_tuple_tup (b:List D):isTy .tuple (.tup b)=true:=Eq.trans rfl rfl
@[simp] theorem isTy_tuple_lst (b:List D):isTy .tuple (.lst b)=false:=Eq.trans rfl rfl
@[simp] theorem isTy_list_non :isTy .list .non=false:=Eq.trans rfl rfl
@[simp] theorem isTy_list_bl (b:Bool):isTy .list (.bl b)=false:=Eq.trans rfl rfl
@[simp] theorem isTy_list_int (b:Int):isTy .list (.int b)=false:=Eq.trans rfl rfl
@[simp] theorem isTy_list_str (b:Str):isTy .list (.str b)=false:=Eq.trans rfl rfl
@[simp] theorem isTy_list_tup (b:List D):isTy .list (.tup b)=false:=Eq.trans rfl rfl
@[simp] theorem isTy_list_lst (b:List D):isTy .list (.lst b)=true:=Eq.trans rfl rfl
noncomputable def mkP (o:Option D) (ρ:En):Option (D×En):=bnd o fun d=>some (d,ρ)
@[simp] theorem mkP_s (d:D) (ρ:En):mkP (some d) ρ=some (d,ρ):=Eq.trans rfl rfl
@[simp] theorem slV_i (ρ:En) (d:D):slV ρ (some (.im d))=some (d,ρ):=Eq.trans rfl rfl
@[simp] theorem eV_ (i:Nat) (ρ:En):eV i ρ=slV ρ ρ[i]?:=Eq.trans rfl rfl
@[simp] theorem eC_ (d:D) (ρ:En):eC d ρ=some (d,ρ):=Eq.trans rfl rfl
noncomputable def e1a (op:D->Option D) (o:Option (D×En)):Option (D×En):=bnd o fun p=>bnd (op p.1) fun d=>some (d,p.2)
@[simp] theorem e1_ (op:D->Option D) (F:FE) (ρ:En):e1 op F ρ=e1a op (F ρ):=Eq.trans rfl rfl
@[simp] theorem e1a_s (op:D->Option D) (x:D) (ρ:En):e1a op (some (x,ρ))=mkP (op x) ρ:=Eq.trans rfl rfl
noncomputable def e2b (op:D->D->Option D) (x:D) (o:Option (D×En)):Option (D×En):=bnd o fun q=>bnd (op x q.1) fun d=>some (d,q.2)
noncomputable def e2a (op:D->D->Option D) (G:FE) (o:Option (D×En)):Option (D×En):=bnd o fun p=>bnd (G p.2) fun q=>bnd (op p.1 q.1) fun d=>some (d,q.2)
@[simp] theorem e2_ (op:D->D->Option D) (F G:FE) (ρ:En):e2 op F G ρ=e2a op G (F ρ):=Eq.trans rfl rfl
@[simp] theorem e2a_s (op:D->D->Option D) (G:FE) (x:D) (ρ:En):e2a op G (some (x,ρ))=e2b op x (G ρ):=Eq.trans rfl rfl
@[simp] theorem e2b_s (op:D->D->Option D) (x y:D) (ρ:En):e2b op x (some (y,ρ))=mkP (op x y) ρ:=Eq.trans rfl rfl
noncomputable def e3c (op':D->D->Option D) (L:FE) (y:D) (ρ:En) (o:Option D):Option (D×En):=bnd o fun z=>bnd (blB z) fun b=>if b=true then bnd (L ρ) fun r=>bnd (op' y r.1) fun d=>some (d,r.2) else some (.bl false,ρ)
noncomputable def e3b (op op':D->D->Option D) (L:FE) (x:D) (o:Option (D×En)):Option (D×En):=bnd o fun q=>bnd (op x q.1) fun z=>bnd (blB z) fun b=>if b=true then bnd (L q.2) fun r=>bnd (op' q.1 r.1) fun d=>some (d,r.2) else some (.bl false,q.2)
noncomputable def e3a (op op':D->D->Option D) (G L:FE) (o:Option (D×En)):Option (D×En):=bnd o fun p=>bnd (G p.2) fun q=>bnd (op p.1 q.1) fun z=>bnd (blB z) fun b=>if b=true then bnd (L q.2) fun r=>bnd (op' q.1 r.1) fun d=>some (d,r.2) else some (.bl false,q.2)
@[simp] theorem e3_ (op op':D->D->Option D) (F G L:FE) (ρ:En):e3 op op' F G L ρ=e3a op op' G L (F ρ):=Eq.trans rfl rfl
@[simp] theorem e3a_s (op op':D->D->Option D) (G L:FE) (x:D) (ρ:En):e3a op op' G L (some (x,ρ))=e3b op op' L x (G ρ):=Eq.trans rfl rfl
@[simp] theorem e3b_s (op op':D->D->Option D) (L:FE) (x y:D) (ρ:En):e3b op op' L x (some (y,ρ))=e3c op' L y ρ (op x y):=Eq.trans rfl rfl
@[simp] theorem e3c_t (op':D->D->Option D) (L:FE) (y:D) (ρ:En):e3c op' L y ρ (some (.bl true))=e2b op' y (L ρ):=Eq.trans rfl rfl
@[simp] theorem e3c_f (op':D->D->Option D) (L:FE) (y:D) (ρ:En):e3c op' L y ρ (some (.bl false))=some (.bl false,ρ):=Eq.trans rfl rfl
@[simp] theorem aN_ (ρ:En):aN ρ=some ([],ρ):=Eq.trans rfl rfl
noncomputable def aCb (x:D) (o:Option (List D×En)):Option (List D×En):=bnd o fun q=>some (x::q.1,q.2)
noncomputable def aCa (A:FA) (o:Option (D×En)):Option (List D×En):=bnd o fun p=>bnd (A p.2) fun q=>some (p.1::q.1,q.2)
@[simp] theorem aC_ (F:FE) (A:FA) (ρ:En):aC F A ρ=aCa A (F ρ):=Eq.trans rfl rfl
@[simp] theorem aCa_s (A:FA) (x:D) (ρ:En):aCa A (some (x,ρ))=aCb x (A ρ):=Eq.trans rfl rfl
@[simp] theorem aCb_s (x:D) (xs:List D) (ρ:En):aCb x (some (xs,ρ))=some (x::xs,ρ):=Eq.trans rfl rfl
noncomputable def tupA (o:Option (List D×En)):Option (D×En):=bnd o fun p=>if p.1.length<=1000 then some (.tup p.1,p.2) else none
@[simp] theorem eTup_ (A:FA) (ρ:En):eTup A ρ=tupA (A ρ):=Eq.trans rfl rfl
@[simp] theorem tupA_s (xs:List D) (ρ:En):tupA (some (xs,ρ))=if xs.length<=1000 then some (.tup xs,ρ) else none:=Eq.trans rfl rfl
noncomputable def lstA (o:Option (List D×En)):Option (D×En):=bnd o fun p=>if p.1.length<=1000 then some (.lst p.1,p.2) else none
@[simp] theorem eLst_ (A:FA) (ρ:En):eLst A ρ=lstA (A ρ):=Eq.trans rfl rfl
@[simp] theorem lstA_s (xs:List D) (ρ:En):lstA (some (xs,ρ))=if xs.length<=1000 then some (.lst xs,ρ) else none:=Eq.trans rfl rfl
noncomputable def eFa (g:List D->Option D) (o:Option (List D×En)):Option (D×En):=bnd o fun p=>bnd (g p.1) fun d=>some (d,p.2)
@[simp] theorem eF_ (g:List D->Option D) (A:FA) (ρ:En):eF g A ρ=eFa g (A ρ):=Eq.trans rfl rfl
@[simp] theorem eFa_s (g:List D->Option D) (xs:List D) (ρ:En):eFa g (some (xs,ρ))=mkP (g xs) ρ:=Eq.trans rfl rfl
noncomputable def eTya (t:Ty) (o:Option (D×En)):Option (D×En):=bnd o fun p=>some (.bl (isTy t p.1),p.2)
@[simp] theorem eTy_ (t:Ty) (F:FE) (ρ:En):eTy t F ρ=eTya t (F ρ):=Eq.trans rfl rfl
@[simp] theorem eTya_s (t:Ty) (x:D) (ρ:En):eTya t (some (x,ρ))=some (.bl (isTy t x),ρ):=Eq.trans rfl rfl
@[simp] theorem oN_ (ρ:En):oN ρ=some (none,ρ):=Eq.trans rfl rfl
noncomputable def oSa (o:Option (D×En)):Option (Option Int×En):=bnd o fun p=>bnd (intI p.1) fun i=>some (some i,p.2)
@[simp] theorem oS_ (F:FE) (ρ:En):oS F ρ=oSa (F ρ):=Eq.trans rfl rfl
@[simp] theorem oSa_s (i:Int) (ρ:En):oSa (some (.int i,ρ))=some (some i,ρ):=Eq.trans rfl rfl
noncomputable def eSlc (x:D) (l:Option Int) (o:Option (Option Int×En)):Option (D×En):=bnd o fun h=>bnd (dSl x l h.1) fun d=>some (d,h.2)
noncomputable def eSlb (hi:FO) (x:D) (o:Option (Option Int×En)):Option (D×En):=bnd o fun l=>bnd (hi l.2) fun h=>bnd (dSl x l.1 h.1) fun d=>some (d,h.2)
noncomputable def eSla (lo hi:FO) (o:Option (D×En)):Option (D×En):=bnd o fun p=>bnd (lo p.2) fun l=>bnd (hi l.2) fun h=>bnd (dSl p.1 l.1 h.1) fun d=>some (d,h.2)
@[simp] theorem eSl_ (F:FE) (lo hi:FO) (ρ:En):eSl F lo hi ρ=eSla lo hi (F ρ):=Eq.trans rfl rfl
@[simp] theorem eSla_s (lo hi:FO) (x:D) (ρ:En):eSla lo hi (some (x,ρ))=eSlb hi x (lo ρ):=Eq.trans rfl rfl
@[simp] theorem eSlb_s (hi:FO) (x:D) (l:Option Int) (ρ:En):eSlb hi x (some (l,ρ))=eSlc x l (hi ρ):=Eq.trans rfl rfl
@[simp] theorem eSlc_s (x:D) (l h:Option Int) (ρ:En):eSlc x l (some (h,ρ))=mkP (dSl x l h) ρ:=Eq.trans rfl rfl
noncomputable def mkB (o:Option Bool) (ρ:En):Option (Bool×En):=bnd o fun b=>some (b,ρ)
@[simp] theorem mkB_s (b:Bool) (ρ:En):mkB (some b) ρ=some (b,ρ):=Eq.trans rfl rfl
noncomputable def tBa (o:Option (D×En)):Option (Bool×En):=bnd o fun p=>bnd (blB p.1) fun b=>some (b,p.2)
@[simp] theorem tB_ (F:FE) (ρ:En):tB F ρ=tBa (F ρ):=Eq.trans rfl rfl
@[simp] theorem tBa_s (b:Bool) (ρ:En):tBa (some (.bl b,ρ))=some (b,ρ):=Eq.trans rfl rfl
noncomputable def tVa (o:Option (D×En)):Option (Bool×En):=bnd o fun p=>bnd (dTru p.1) fun b=>some (b,p.2)
@[simp] theorem tV_ (F:FE) (ρ:En):tV F ρ=tVa (F ρ):=Eq.trans rfl rfl
@[simp] theorem tVa_s (x:D) (ρ:En):tVa (some (x,ρ))=mkB (dTru x) ρ:=Eq.trans rfl rfl
noncomputable def tAnda (U:FT) (o:Option (Bool×En)):Option (Bool×En):=bnd o fun p=>if p.1=true then U p.2 else some (false,p.2)
noncomputable def tOra (U:FT) (o:Option (Bool×En)):Option (Bool×En):=bnd o fun p=>if p.1=true then some (true,p.2) else U p.2
noncomputable def tNota (o:Option (Bool×En)):Option (Bool×En):=bnd o fun p=>some (!p.1,p.2)
@[simp] theorem tAnd_ (T U:FT) (ρ:En):tAnd T U ρ=tAnda U (T ρ):=Eq.trans rfl rfl
@[simp] theorem tAnda_t (U:FT) (ρ:En):tAnda U (some (true,ρ))=U ρ:=Eq.trans rfl rfl
@[simp] theorem tAnda_f (U:FT) (ρ:En):tAnda U (some (false,ρ))=some (false,ρ):=Eq.trans rfl rfl
@[simp] theorem tOr_ (T U:FT) (ρ:En):tOr T U ρ=tOra U (T ρ):=Eq.trans rfl rfl
@[simp] theorem tOra_t (U:FT) (ρ:En):tOra U (some (true,ρ))=some (true,ρ):=Eq.trans rfl rfl
@[simp] theorem tOra_f (U:FT) (ρ:En):tOra U (some (false,ρ))=U ρ:=Eq.trans rfl rfl
@[simp] theorem tNot_ (T:FT) (ρ:En):tNot T ρ=tNota (T ρ):=Eq.trans rfl rfl
@[simp] theorem tNota_s (b:Bool) (ρ:En):tNota (some (b,ρ))=some (!b,ρ):=Eq.trans rfl rfl
@[simp] theorem tYes_ (ρ:En):tYes ρ=some (true,ρ):=Eq.trans rfl rfl
noncomputable def eIfa (F G:FE) (o:Option (Bool×En)):Option (D×En):=bnd o fun p=>if p.1=true then F p.2 else G p.2
@[simp] theorem eIf_ (T:FT) (F G:FE) (ρ:En):eIf T F G ρ=eIfa F G (T ρ):=Eq.trans rfl rfl
@[simp] theorem eIfa_t (F G:FE) (ρ:En):eIfa F G (some (true,ρ))=F ρ:=Eq.trans rfl rfl
@[simp] theorem eIfa_f (F G:FE) (ρ:En):eIfa F G (some (false,ρ))=G ρ:=Eq.trans rfl rfl
noncomputable def eAnda (G:FE) (o:Option (D×En)):Option (D×En):=bnd o fun p=>bnd (blB p.1) fun b=>if b=true then G p.2 else some (.bl false,p.2)
noncomputable def eOra (G:FE) (o:Option (D×En)):Option (D×En):=bnd o fun p=>bnd (blB p.1) fun b=>if b=true then some (.bl true,p.2) else G p.2
noncomputable def eNota (o:Option (D×En)):Option (D×En):=bnd o fun p=>bnd (blB p.1) fun b=>some (.bl (!b),p.2)
@[simp] theorem eAnd_ (F G:FE) (ρ:En):eAnd F G ρ=eAnda G (F ρ):=Eq.trans rfl rfl
@[simp] theorem eAnda_t (G:FE) (ρ:En):eAnda G (some (.bl true,ρ))=G ρ:=Eq.trans rfl rfl
@[simp] theorem eAnda_f (G:FE) (ρ:En):eAnda G (some (.bl false,ρ))=some (.bl false,ρ):=Eq.trans rfl rfl
@[simp] theorem eOr_ (F G:FE) (ρ:En):eOr F G ρ=eOra G (F ρ):=Eq.trans rfl rfl
@[simp] theorem eOra_t (G:FE) (ρ:En):eOra G (some (.bl true,ρ))=some (.bl true,ρ):=Eq.trans rfl rfl
@[simp] theorem eOra_f (G:FE) (ρ:En):eOra G (some (.bl false,ρ))=G ρ:=Eq.trans rfl rfl
@[simp] theorem eNot_ (F:FE) (ρ:En):eNot F ρ=eNota (F ρ):=Eq.trans rfl rfl
@[simp] theorem eNota_s (b:Bool) (ρ:En):eNota (some (.bl b,ρ))=some (.bl (!b),ρ):=Eq.trans rfl rfl
noncomputable def imA (o:Option Sl) (q:Option En):Option En:=bnd o fun s=>bnd q fun r=>some (s::r)
@[simp] theorem imA_s (s:Sl) (r:En):imA (some s) (some r)=some (s::r):=Eq.trans rfl rfl
@[simp] theorem slI_i (d:D):slI (some (.im d))=some (.im d):=Eq.trans rfl rfl
@[simp] theorem imAt_n (ρ:En):imAt ρ []=some []:=Eq.trans rfl rfl
@[simp] theorem imAt_c (ρ:En) (j:Nat) (js:List Nat):imAt ρ (j::js)=imA (slI ρ[j]?) (imAt ρ js):=Eq.trans rfl rfl
noncomputable def cGb (T:FT) (F:FE) (fr:En) (r:List D) (o:Option (D×En)):Option (List D):=bnd o fun q=>bnd (cGo T F fr r) fun t=>some (q.1::t)
noncomputable def cGa (T:FT) (F:FE) (fr:En) (r:List D) (o:Option (Bool×En)):Option (List D):=bnd o fun p=>if p.1=true then bnd (F p.2) fun q=>bnd (cGo T F fr r) fun t=>some (q.1::t) else cGo T F fr r
@[simp] theorem cGo_n (T:FT) (F:FE) (fr:En):cGo T F fr []=some []:=Eq.trans rfl rfl
@[simp] theorem cGo_c (T:FT) (F:FE) (fr:En) (d:D) (r:List D):cGo T F fr (d::r)=cGa T F fr r (T (.im d::fr)):=Eq.trans rfl rfl
@[simp] theorem cGa_t (T:FT) (F:FE) (fr:En) (r:List D) (ρ:En):cGa T F fr r (some (true,ρ))=cGb T F fr r (F ρ):=Eq.trans rfl rfl
@[simp] theorem cGa_f (T:FT) (F:FE) (fr:En) (r:List D) (ρ:En):cGa T F fr r (some (false,ρ))=cGo T F fr r:=Eq.trans rfl rfl
@[simp] theorem cGb_s (T:FT) (F:FE) (fr:En) (r:List D) (x:D) (ρ:En):cGb T F fr r (some (x,ρ))=cnsO x (cGo T F fr r):=Eq.trans rfl rfl
@[simp] theorem items_l (xs:List D):items (.lst xs)=some xs:=Eq.trans rfl rfl
@[simp] theorem items_s (z:Str):items (.str z)=some (chs z):=Eq.trans rfl rfl
@[simp] theorem items_t (xs:List D):items (.tup xs)=some xs:=Eq.trans rfl rfl
noncomputable def eLCd (ρ:En) (xs:List D) (o:Option (List D)):Option (D×En):=bnd o fun ys=>if xs.length<=sizeLine then some (.lst ys,ρ) else none
noncomputable def eLCc (T:FT) (F:FE) (ρ:En) (xs:List D) (o:Option En):Option (D×En):=bnd o fun fr=>eLCd ρ xs (cGo T F fr xs)
noncomputable def eLCb (js:List Nat) (T:FT) (F:FE) (ρ:En) (o:Option (List D)):Option (D×En):=bnd o fun xs=>eLCc T F ρ xs (imAt ρ js)
noncomputable def eLCa (js:List Nat) (T:FT) (F:FE) (o:Option (D×En)):Option (D×En):=bnd o fun p=>eLCb js T F p.2 (items p.1)
@[simp] theorem eLC_ (js:List Nat) (I:FE) (T:FT) (F:FE) (ρ:En):eLC js I T F ρ=eLCa js T F (I ρ):=Eq.trans rfl rfl
@[simp] theorem eLCa_s (js:List Nat) (T:FT) (F:FE) (x:D) (ρ:En):eLCa js T F (some (x,ρ))=eLCb js T F ρ (items x):=Eq.trans rfl rfl
@[simp] theorem eLCb_s (js:List Nat) (T:FT) (F:FE) (ρ:En) (xs:List D):eLCb js T F ρ (some xs)=eLCc T F ρ xs (imAt ρ js):=Eq.trans rfl rfl
@[simp] theorem eLCc_s (T:FT) (F:FE) (ρ:En) (xs:List D) (fr:En):eLCc T F ρ xs (some fr)=eLCd ρ xs (cGo T F fr xs):=Eq.trans rfl rfl
@[simp] theorem eLCd_s (ρ:En) (xs ys:List D):eLCd ρ xs (some ys)=if xs.length<=sizeLine then some (.lst ys,ρ) else none:=Eq.trans rfl rfl
@[simp] theorem sN_ (ρ:En):sN ρ=some (.nx ρ):=Eq.trans rfl rfl
noncomputable def sSeqa (G:FS) (o:Option Res):Option Res:=bnd o fun r=>nxR G r
@[simp] theorem sSeq_ (F G:FS) (ρ:En):sSeq F G ρ=sSeqa G (F ρ):=Eq.trans rfl rfl
@[simp] theorem sSeqa_n (G:FS) (ρ:En):sSeqa G (some (.nx ρ))=G ρ:=Eq.trans rfl rfl
@[simp] theorem sSeqa_r (G:FS) (d:D) (ρ:En):sSeqa G (some (.rt d ρ))=some (.rt d ρ):=Eq.trans rfl rfl
@[simp] theorem sSeqa_b (G:FS) (ρ:En):sSeqa G (some (.bk ρ))=some (.bk ρ):=Eq.trans rfl rfl
@[simp] theorem sSeqa_c (G:FS) (ρ:En):sSeqa G (some (.ct ρ))=some (.ct ρ):=Eq.trans rfl rfl
noncomputable def sSeta (i:Nat) (o:Option (D×En)):Option Res:=bnd o fun p=>some (.nx (p.2.set i (.im p.1)))
@[simp] theorem sSet_ (i:Nat) (F:FE) (ρ:En):sSet i F ρ=sSeta i (F ρ):=Eq.trans rfl rfl
@[simp] theorem sSeta_s (i:Nat) (x:D) (ρ:En):sSeta i (some (x,ρ))=some (.nx (ρ.set i (.im x))):=Eq.trans rfl rfl
@[simp] theorem setAll_c (i:Nat) (is:List Nat) (d:D) (ds:List D) (ρ:En):setAll (i::is) (d::ds) ρ=setAll is ds (ρ.set i (.im d)):=Eq.trans rfl rfl
@[simp] theorem setAll_n (ds:List D) (ρ:En):setAll [] ds ρ=ρ:=by cases ds <;> exact Eq.trans rfl rfl
@[simp] theorem tupX_l (xs:List D):tupX (.lst xs)=some xs:=Eq.trans rfl rfl
@[simp] theorem tupX_t (xs:List D):tupX (.tup xs)=some xs:=Eq.trans rfl rfl
@[simp] theorem gN_ (i:Nat) (d:D) (ρ:En):gN i d ρ=some (ρ.set i (.im d)):=Eq.trans rfl rfl
noncomputable def gTa (is:List Nat) (ρ:En) (o:Option (List D)):Option En:=bnd o fun xs=>if xs.length=is.length then some (setAll is xs ρ) else none
@[simp] theorem gT_ (is:List Nat) (d:D) (ρ:En):gT is d ρ=gTa is ρ (tupX d):=Eq.trans rfl rfl
@[simp] theorem gTa_s (is:List Nat) (ρ:En) (xs:List D):gTa is ρ (some xs)=if xs.length=is.length then some (setAll is xs ρ) else none:=Eq.trans rfl rfl
noncomputable def sTupb (o:Option En):Option Res:=bnd o fun ρ=>some (.nx ρ)
noncomputable def sTupa (is:List Nat) (o:Option (D×En)):Option Res:=bnd o fun p=>sTupb (gT is p.1 p.2)
@[simp] theorem sTup_ (is:List Nat) (F:FE) (ρ:En):sTup is F ρ=sTupa is (F ρ):=Eq.trans rfl rfl
@[simp] theorem sTupa_s (is:List Nat) (x:D) (ρ:En):sTupa is (some (x,ρ))=sTupb (gT is x ρ):=Eq.trans rfl rfl
@[simp] theorem sTupb_s (ρ:En):sTupb (some ρ)=some (.nx ρ):=Eq.trans rfl rfl
noncomputable def sIfa (F G:FS) (o:Option (Bool×En)):Option Res:=bnd o fun p=>if p.1=true then F p.2 else G p.2
@[simp] theorem sIf_ (T:FT) (F G:FS) (ρ:En):sIf T F G ρ=sIfa F G (T ρ):=Eq.trans rfl rfl
@[simp] theorem sIfa_t (F G:FS) (ρ:En):sIfa F G (some (true,ρ))=F ρ:=Eq.trans rfl rfl
@[simp] theorem sIfa_f (F G:FS) (ρ:En):sIfa F G (some (false,ρ))=G ρ:=Eq.trans rfl rfl
noncomputable def sReta (o:Option (D×En)):Option Res:=bnd o fun p=>some (.rt p.1 p.2)
@[simp] theorem sRet_ (F:FE) (ρ:En):sRet F ρ=sReta (F ρ):=Eq.trans rfl rfl
@[simp] theorem sReta_s (x:D) (ρ:En):sReta (some (x,ρ))=some (.rt x ρ):=Eq.trans rfl rfl
@[simp] theorem sRetN_ (ρ:En):sRetN ρ=some (.rt .non ρ):=Eq.trans rfl rfl
@[simp] theorem sBk_ (ρ:En):sBk ρ=some (.bk ρ):=Eq.trans rfl rfl
@[simp] theorem sCt_ (ρ:En):sCt ρ=some (.ct ρ):=Eq.trans rfl rfl
noncomputable def fGb (g:D->En->Option En) (B:FS) (r:List D) (o:Option Res):Option Res:=bnd o fun z=>goR (fGo g B r) z
noncomputable def fGa (g:D->En->Option En) (B:FS) (r:List D) (o:Option En):Option Res:=bnd o fun ρ1=>fGb g B r (B ρ1)
theorem fGo_c (g:D->En->Option En) (B:FS) (d:D) (r:List D) (ρ:En):fGo g B (d::r) ρ=fGa g B r (g d ρ):=Eq.trans rfl rfl
@[simp] theorem fGa_s (g:D->En->Option En) (B:FS) (r:List D) (ρ:En):fGa g B r (some ρ)=fGb g B r (B ρ):=Eq.trans rfl rfl
@[simp] theorem fGb_n (g:D->En->Option En) (B:FS) (r:List D) (ρ:En):fGb g B r (some (.nx ρ))=fGo g B r ρ:=Eq.trans rfl rfl
@[simp] theorem fGb_c (g:D->En->Option En) (B:FS) (r:List D) (ρ:En):fGb g B r (some (.ct ρ))=fGo g B r ρ:=Eq.trans rfl rfl
@[simp] theorem fGb_b (g:D->En->Option En) (B:FS) (r:List D) (ρ:En):fGb g B r (some (.bk ρ))=some (.nx ρ):=Eq.trans rfl rfl
@[simp] theorem fGb_r (g:D->En->Option En) (B:FS) (r:List D) (d:D) (ρ:En):fGb g B r (some (.rt d ρ))=some (.rt d ρ):=Eq.trans rfl rfl
noncomputable def sForb (g:D->En->Option En) (B:FS) (ρ:En) (o:Option (List D)):Option Res:=bnd o fun xs=>fGo g B xs ρ
noncomputable def sFora (g:D->En->Option En) (B:FS) (o:Option (D×En)):Option Res:=bnd o fun p=>sForb g B p.2 (items p.1)
@[simp] theorem sFor_ (g:D->En->Option En) (F:FE) (B:FS) (ρ:En):sFor g F B ρ=sFora g B (F ρ):=Eq.trans rfl rfl
@[simp] theorem sFora_s (g:D->En->Option En) (B:FS) (x:D) (ρ:En):sFora g B (some (x,ρ))=sForb g B ρ (items x):=Eq.trans rfl rfl
@[simp] theorem sForb_s (g:D->En->Option En) (B:FS) (ρ:En) (xs:List D):sForb g B ρ (some xs)=fGo g B xs ρ:=Eq.trans rfl rfl
noncomputable def rng1a (o:Option (D×En)):Option (List D×En):=bnd o fun p=>bnd (intI p.1) fun j=>if -(2 ^ 62)<=j/\j<2 ^ 62 then some (rngD 0 j.toNat,p.2) else none
@[simp] theorem rng1_ (F:FE) (ρ:En):rng1 F ρ=rng1a (F ρ):=Eq.trans rfl rfl
@[simp] theorem rng1a_s (j:Int) (ρ:En):rng1a (some (.int j,ρ))=if -(2 ^ 62)<=j/\j<2 ^ 62 then some (rngD 0 j.toNat,ρ) else none:=Eq.trans rfl rfl
noncomputable def rng2b (x:D) (o:Option (D×En)):Option (List D×En):=bnd o fun q=>bnd (intI x) fun i=>bnd (intI q.1) fun j=>if -(2 ^ 62)<=i/\i<2 ^ 62/\-(2 ^ 62)<=j/\j<2 ^ 62 then some (rngD i (j-i).toNat,q.2) else none
noncomputable def rng2a (G:FE) (o:Option (D×En)):Option (List D×En):=bnd o fun p=>rng2b p.1 (G p.2)
@[simp] theorem rng2_ (F G:FE) (ρ:En):rng2 F G ρ=rng2a G (F ρ):=Eq.trans rfl rfl
@[simp] theorem rng2a_s (G:FE) (x:D) (ρ:En):rng2a G (some (x,ρ))=rng2b x (G ρ):=Eq.trans rfl rfl
@[simp] theorem rng2b_s (i j:Int) (ρ:En):rng2b (.int i) (some (.int j,ρ))=if -(2 ^ 62)<=i/\i<2 ^ 62/\-(2 ^ 62)<=j/\j<2 ^ 62 then some (rngD i (j-i).toNat,ρ) else none:=Eq.trans rfl rfl
noncomputable def sForRa (g:D->En->Option En) (B:FS) (o:Option (List D×En)):Option Res:=bnd o fun p=>fGo g B p.1 p.2
@[simp] theorem sForR_ (g:D->En->Option En) (X:FA) (B:FS) (ρ:En):sForR g X B ρ=sForRa g B (X ρ):=Eq.trans rfl rfl
@[simp] theorem sForRa_s (g:D->En->Option En) (B:FS) (xs:List D) (ρ:En):sForRa g B (some (xs,ρ))=fGo g B xs ρ:=Eq.trans rfl rfl
noncomputable def wGb (T:FT) (B:FS) (n:Nat) (o:Option Res):Option Res:=bnd o fun z=>goR (wGo T B n) z
noncomputable def wGa (T:FT) (B:FS) (n:Nat) (o:Option (Bool×En)):Option Res:=bnd o fun p=>if p.1=true then wGb T B n (B p.2) else some (.nx p.2)
@[simp] theorem wGa_t (T:FT) (B:FS) (n:Nat) (ρ:En):wGa T B n (some (true,ρ))=wGb T B n (B ρ):=Eq.trans rfl rfl
@[simp] theorem wGa_f (T:FT) (B:FS) (n:Nat) (ρ:En):wGa T B n (some (false,ρ))=some (.nx ρ):=Eq.trans rfl rfl
@[simp] theorem wGb_n (T:FT) (B:FS) (n:Nat) (ρ:En):wGb T B n (some (.nx ρ))=wGo T B n ρ:=Eq.trans rfl rfl
@[simp] theorem wGb_c (T:FT) (B:FS) (n:Nat) (ρ:En):wGb T B n (some (.ct ρ))=wGo T B n ρ:=Eq.trans rfl rfl
@[simp] theorem wGb_b (T:FT) (B:FS) (n:Nat) (ρ:En):wGb T B n (some (.bk ρ))=some (.nx ρ):=Eq.trans rfl rfl
@[simp] theorem wGb_r (T:FT) (B:FS) (n:Nat) (d:D) (ρ:En):wGb T B n (some (.rt d ρ))=some (.rt d ρ):=Eq.trans rfl rfl
@[simp] theorem sWhile_ (fuel:En->Nat) (T:FT) (B:FS) (ρ:En):sWhile fuel T B ρ=wGo T B (fuel ρ) ρ:=Eq.trans rfl rfl
noncomputable def fnA (o:Option Res):Option D:=bnd o fun r=>retR r
@[simp] theorem fnA_r (d:D) (ρ:En):fnA (some (.rt d ρ))=some d:=Eq.trans rfl rfl
@[simp] theorem fnA_n (ρ:En):fnA (some (.nx ρ))=some .non:=Eq.trans rfl rfl
@[simp] theorem fnD_ (n k:Nat) (B:FS) (ds:List D):fnD n k B ds=if ds.length=n then fnA (B (ds.map .im++List.replicate k .no)) else none:=Eq.trans rfl rfl
noncomputable def oLsta (o:Option (List D×En)):Option (List D×En):=bnd o fun p=>if p.1.length<=1000 then some p else none
@[simp] theorem oLst_ (A:FA) (ρ:En):oLst A ρ=oLsta (A ρ):=Eq.trans rfl rfl
@[simp] theorem oLsta_s (xs:List D) (ρ:En):oLsta (some (xs,ρ))=if xs.length<=1000 then some (xs,ρ) else none:=Eq.trans rfl rfl
noncomputable def oIfa (A B:FA) (o:Option (Bool×En)):Option (List D×En):=bnd o fun p=>if p.1=true then A p.2 else B p.2
@[simp] theorem oIf_ (T:FT) (A B:FA) (ρ:En):oIf T A B ρ=oIfa A B (T ρ):=Eq.trans rfl rfl
@[simp] theorem oIfa_t (A B:FA) (ρ:En):oIfa A B (some (true,ρ))=A ρ:=Eq.trans rfl rfl
@[simp] theorem oIfa_f (A B:FA) (ρ:En):oIfa A B (some (false,ρ))=B ρ:=Eq.trans rfl rfl
noncomputable def sOwna (i:Nat) (o:Option (List D×En)):Option Res:=bnd o fun p=>some (.nx (p.2.set i (.ow false (.lst p.1))))
@[simp] theorem sOwn_ (i:Nat) (A:FA) (ρ:En):sOwn i A ρ=sOwna i (A ρ):=Eq.trans rfl rfl
@[simp] theorem sOwna_s (i:Nat) (xs:List D) (ρ:En):sOwna i (some (xs,ρ))=some (.nx (ρ.set i (.ow false (.lst xs)))):=Eq.trans rfl rfl
@[simp] theorem owL_s (ds:List D):owL (some (.ow false (.lst ds)))=some ds:=Eq.trans rfl rfl
noncomputable def sAppc (i:Nat) (x:D) (ρ:En) (o:Option (List D)):Option Res:=bnd o fun ds=>if ds.length<1000000 then some (.nx (ρ.set i (.ow false (.lst (ds++[x]))))) else none
noncomputable def sAppb (i:Nat) (o:Option (D×En)):Option Res:=bnd o fun p=>sAppc i p.1 p.2 (owL p.2[i]?)
noncomputable def sAppa (i:Nat) (F:FE) (ρ:En) (o:Option (List D)):Option Res:=bnd o fun _=>sAppb i (F ρ)
@[simp] theorem sApp_ (i:Nat) (F:FE) (ρ:En):sApp i F ρ=sAppa i F ρ (owL ρ[i]?):=Eq.trans rfl rfl
@[simp] theorem sAppa_s (i:Nat) (F:FE) (ρ:En) (ds:List D):sAppa i F ρ (some ds)=sAppb i (F ρ):=Eq.trans rfl rfl
@[simp] theorem sAppb_s (i:Nat) (x:D) (ρ:En):sAppb i (some (x,ρ))=sAppc i x ρ (owL ρ[i]?):=Eq.trans rfl rfl
@[simp] theorem sAppc_s (i:Nat) (x:D) (ρ:En) (ds:List D):sAppc i x ρ (some ds)=if ds.length<1000000 then some (.nx (ρ.set i (.ow false (.lst (ds++[x]))))) else none:=Eq.trans rfl rfl
noncomputable def frza (i:Nat) (ρ:En):Option Sl->En
 |some (.ow false (.lst ds))=>ρ.set i (.im (.lst ds))
 |_=>ρ
@[simp] theorem frz_ (i:Nat) (ρ:En):frz i ρ=frza i ρ ρ[i]?:=by unfold frz frza;split <;> simp_all
@[simp] theorem frza_o (i:Nat) (ρ:En) (ds:List D):frza i ρ (some (.ow false (.lst ds)))=ρ.set i (.im (.lst ds)):=Eq.trans rfl rfl
@[simp] theorem frza_i (i:Nat) (ρ:En) (d:D):frza i ρ (some (.im d))=ρ:=Eq.trans rfl rfl
@[simp] theorem sFrz_ (i:Nat) (F:FS) (ρ:En):sFrz i F ρ=F (frz i ρ):=Eq.trans rfl rfl
noncomputable def eLRb (T:FT) (F:FE) (ρ:En) (xs:List D) (o:Option En):Option (D×En):=bnd o fun fr=>eLCd ρ xs (cGo T F fr xs)
noncomputable def eLRa (js:List Nat) (T:FT) (F:FE) (o:Option (List D×En)):Option (D×En):=bnd o fun p=>eLRb T F p.2 p.1 (imAt p.2 js)
@[simp] theorem eLR_ (js:List Nat) (R:FA) (T:FT) (F:FE) (ρ:En):eLR js R T F ρ=eLRa js T F (R ρ):=Eq.trans rfl rfl
@[simp] theorem eLRa_s (js:List Nat) (T:FT) (F:FE) (xs:List D) (ρ:En):eLRa js T F (some (xs,ρ))=eLRb T F ρ xs (imAt ρ js):=Eq.trans rfl rfl
@[simp] theorem eLRb_s (T:FT) (F:FE) (ρ:En) (xs:List D) (fr:En):eLRb T F ρ xs (some fr)=eLCd ρ xs (cGo T F fr xs):=Eq.trans rfl rfl
@[simp] theorem isB_non (b:Bool) :isB b .non=false:=Eq.trans rfl rfl
@[simp] theorem isB_int (b:Bool) (c:Int):isB b (.int c)=false:=Eq.trans rfl rfl
@[simp] theorem isB_str (b:Bool) (c:Str):isB b (.str c)=false:=Eq.trans rfl rfl
@[simp] theorem isB_tup (b:Bool) (c:List D):isB b (.tup c)=false:=Eq.trans rfl rfl
@[simp] theorem isB_lst (b:Bool) (c:List D):isB b (.lst c)=false:=Eq.trans rfl rfl
@[simp] theorem isB_bl (b c:Bool):isB b (.bl c)=decide (c=b):=Eq.trans rfl rfl
noncomputable def e1Ba (b n:Bool) (o:Option (D×En)):Option (D×En):=bnd o fun p=>some (.bl (if n then !isB b p.1 else isB b p.1),p.2)
@[simp] theorem e1B_ (b n:Bool) (F:FE) (ρ:En):e1B b n F ρ=e1Ba b n (F ρ):=Eq.trans rfl rfl
@[simp] theorem e1Ba_s (b n:Bool) (x:D) (ρ:En):e1Ba b n (some (x,ρ))=some (.bl (if n then !isB b x else isB b x),ρ):=Eq.trans rfl rfl
end Fx
set_option maxRecDepth 100000
namespace Fx
open PySem PySem.Spec PyProof.Rows L2
theorem RS.heNone {K:PySem.W.Frag}{c:FC}{H0 H:Hp}{ρ:En}{σ:L2.St} (R:RS K c H0 H ρ σ) {p:Addr} (hp:H p=none):c.He p=none:=by
 cases q:c.He p with
 |none=>rfl
 |some u =>
  by_cases hb:p∈c.Ap
  ·exact absurd hp (R.apt p hb)
  ·rw[R.keep p u q hb] at hp;cases hp
theorem RS.setOwn {K:PySem.W.Frag}{c:FC}{H0 H:Hp}{ρ:En}{σ:L2.St}{p:Addr}{u:HO}{o:MO} (R:RS K c H0 H ρ σ) (i:Nat) (hp:H p=none) (r:OwOk K H0 (upd H p u) p o) :
  RS K c H0 (upd H p u) (ρ.set i (.ow false o)) (σ.set i (some (.ref p))):=by
 have hl:=R.len;have h0:H0 p=none:=R.same.free hp;have he:=R.heNone hp;have up:∀ b v,H b=some v->(upd H p u) b=some v:=fun b v e=>by rw[upd_ne (ne_of_none e hp)];exact e
 have other:∀ (j:Nat) (sl:Sl),j≠i->(ρ.set i (.ow false o))[j]?=some sl->ρ[j]?=some sl:=fun j sl hj e=>by rwa [List.getElem?_set_ne (Ne.symm hj)] at e
 have otherS:∀ (j:Nat),j≠i->(σ.set i (some (V.ref p)))[j]?=σ[j]?:=fun j hj=>List.getElem?_set_ne (Ne.symm hj)
 have same:∀ (sl:Sl),(ρ.set i (.ow false o))[i]?=some sl->sl=.ow false o/\i<ρ.length:=fun sl e=>by
  by_cases hi:i<ρ.length
  ·rw[List.getElem?_set_self hi] at e;exact⟨(Option.some.inj e).symm,hi⟩
  ·rw[List.getElem?_eq_none (by rw[List.length_set];omega)] at e;cases e
 have ownNe:∀ (j:Nat) (b:Bool) (o:MO) (a:Addr),ρ[j]?=some (.ow b o)->σ[j]?=some (some (.ref a))->a≠p:=fun j b o a e1 e2=>by
  obtain⟨a',x,_,_,w⟩:=R.ow j b o e1;rw[x] at e2;cases e2;obtain⟨u,q⟩:=w.some;exact ne_of_none q hp
 refine⟨fun b u e=>up b u (R.same b u e),R.init,R.fresh,fun b o e n=>up b o (R.keep b o e n),fun a ha e=>?_,by rw[List.length_set,List.length_set,hl],fun j d' e=>?_,fun j bb o' e=>?_,fun j k b1 b2 o1 o2 a e1 e2 e3 e4=>?_⟩
 ·cases q:H a with
  |none=>exact R.apt a ha q
  |some v=>rw[up a v q] at e;cases e
 ·by_cases hj:j=i
  ·subst hj;obtain⟨e',_⟩:=same _ e;cases e'
  ·rw[otherS j hj];exact R.im j d' (other j _ hj e)
 ·by_cases hj:j=i
  ·subst hj
   obtain⟨e',hi⟩:=same _ e;cases e';exact⟨p,by rw[List.getElem?_set_self (by omega)],h0,he,r⟩
  ·rw[otherS j hj]
   obtain⟨a,x,y,z,w⟩:=R.ow j bb o' (other j _ hj e);exact⟨a,x,y,z,w.step (Same.refl _) fun v q=>up a v q⟩
 ·by_cases hj:j=i
  ·by_cases hk:k=i
   ·omega
   ·subst hj
    obtain⟨_,hi⟩:=same _ e1;rw[List.getElem?_set_self (by omega)] at e3
    cases e3;rw[otherS k hk] at e4;exact absurd rfl (ownNe k b2 o2 _ (other k _ hk e2) e4)
  ·by_cases hk:k=i
   ·subst hk
    obtain⟨_,hi⟩:=same _ e2;rw[List.getElem?_set_self (by omega)] at e4
    cases e4;rw[otherS j hj] at e3;exact absurd rfl (ownNe j b1 o1 _ (other j _ hj e1) e3)
   ·rw[otherS j hj] at e3;rw[otherS k hk] at e4
    exact R.ne j k b1 b2 o1 o2 a (other j _ hj e1) (other k _ hk e2) e3 e4
theorem RS.lent {K:PySem.W.Frag}{c:FC}{H0 H H0' H':Hp}{ρ:En}{σ:L2.St}{a:Addr}{b:Bool}{o o':MO} (R:RS K c H0 H ρ σ) {i:Nat} (hi:ρ[i]?=some (.ow b o)) (ha:σ[i]?=some (some (.ref a)))
  (s0:Same H0 H0') (s':Same H0' H') (kp:∀ x u,H x=some u->x≠a->H' x=some u) (fr:∀ x u,H0' x=some u->H0 x=some u\/H x=none) (r:OwOk K H0' H' a o') :
  RS K c H0' H' (ρ.set i (.ow b o')) σ:=by
 obtain⟨a',x,y,z,w⟩:=R.ow i b o hi;rw[ha] at x;cases x;obtain⟨ua,qa⟩:=w.some;have il:i<ρ.length:=(List.getElem?_eq_some_iff.mp hi).1
 have n0:∀ x,H0 x=none->H x≠none->H0' x=none:=fun x h1 h2=>by
  cases q:H0' x with
  |none=>rfl
  |some u =>
   rcases fr x u q with h | h
   ·rw[h1] at h;cases h
   ·exact absurd h h2
 have other:∀ (j:Nat) (sl:Sl),j≠i->(ρ.set i (.ow b o'))[j]?=some sl->ρ[j]?=some sl:=fun j sl hj e=>by rwa [List.getElem?_set_ne (Ne.symm hj)] at e
 have same:∀ (sl:Sl),(ρ.set i (.ow b o'))[i]?=some sl->sl=.ow b o':=fun sl e=>by
  rw[List.getElem?_set_self il] at e;exact (Option.some.inj e).symm
 have was:∀ (j:Nat) (bb:Bool) (oo:MO),(ρ.set i (.ow b o'))[j]?=some (.ow bb oo)->∃ bb o'',ρ[j]?=some (.ow bb o''):=fun j bb oo e=>by
  by_cases hj:j=i
  ·exact⟨b,o,by rw[hj];exact hi⟩
  ·exact⟨bb,oo,other j _ hj e⟩
 refine⟨s',R.init.trans s0,fun x u e=>?_,fun x u e n=>?_,fun x hx e=>?_,by rw[List.length_set];exact R.len,fun j d' e=>?_,fun j bb oo e=>?_,fun j k b1 b2 o1 o2 x e1 e2 e3 e4=>?_⟩
 ·rcases fr x u e with h | h
  ·exact R.fresh x u h
  ·exact .inr (R.heNone h)
 ·have:x≠a:=fun h=>by
   cases b with
   |true=>exact n (h▸z)
   |false =>
    have z':c.He a=none:=z;rw[h,z'] at e;cases e
  exact kp x u (R.keep x u e n) this
 ·by_cases h:x=a
  ·obtain⟨u,q⟩:=r.some
   rw[h,q] at e;cases e
  ·cases q:H x with
   |none=>exact R.apt x hx q
   |some u=>rw[kp x u q h] at e;cases e
 ·by_cases hj:j=i
  ·subst hj;cases same _ e
  ·obtain⟨v,a1,a2⟩:=R.im j d' (other j _ hj e)
   exact⟨v,a1,Rep.mono s0 _ a2⟩
 ·by_cases hj:j=i
  ·subst hj
   cases same _ e;exact⟨a,ha,n0 a y (by rw[qa];intro h;cases h),z,r⟩
  ·have q':=other j _ hj e
   obtain⟨x,x1,y1,z1,w1⟩:=R.ow j bb oo q';have nx:x≠a:=fun h=>hj (R.ne j i bb b oo o x q' hi x1 (by rw[h];exact ha))
   obtain⟨u,qu⟩:=w1.some;exact⟨x,x1,n0 x y1 (by rw[qu];intro h;cases h),z1,w1.step s0 fun v q=>kp x v q nx⟩
 ·obtain⟨_,p,e1⟩:=was j b1 o1 e1
  obtain⟨_,q,e2⟩:=was k b2 o2 e2;exact R.ne j k _ _ p q x e1 e2 e3 e4
theorem RS.mutOwn {K:PySem.W.Frag}{c:FC}{H0 H:Hp}{ρ:En}{σ:L2.St}{a:Addr}{b:Bool}{o o':MO}{u:HO} (R:RS K c H0 H ρ σ) {i:Nat} (hi:ρ[i]?=some (.ow b o)) (ha:σ[i]?=some (some (.ref a))) (r:OwOk K H0 (upd H a u) a o') :
  RS K c H0 (upd H a u) (ρ.set i (.ow b o')) σ:=by
 obtain⟨a',x,y,z,w⟩:=R.ow i b o hi;rw[ha] at x;cases x;refine R.lent hi ha (Same.refl _) (fun x v e=>?_) (fun x v e n=>by rw[upd_ne n];exact e) (fun x v e=>.inl e) r
 have:x≠a:=fun h=>by rw[h,y] at e;cases e
 rw[upd_ne this];exact R.same x v e
theorem RS.freeze {K:PySem.W.Frag}{c:FC}{H0 H:Hp}{ρ:En}{σ:L2.St}{ds:List D} (R:RS K c H0 H ρ σ) {i:Nat} (hi:ρ[i]?=some (.ow false (.lst ds))) :
  ∃ H0',Same H0 H0'/\RS K c H0' H (ρ.set i (.im (.lst ds))) σ:=by
 obtain⟨a,x,y,z,vs,e,r⟩:=R.ow i _ _ hi;have he:c.He a=none:=z;have il:i<ρ.length:=(List.getElem?_eq_some_iff.mp hi).1;have s0:Same H0 (upd H0 a (.lst vs)):=fun b u q=>by rw[upd_ne (ne_of_none q y)];exact q
 have other:∀ (j:Nat) (sl:Sl),j≠i->(ρ.set i (.im (.lst ds)))[j]?=some sl->ρ[j]?=some sl:=fun j sl hj e=>by rwa [List.getElem?_set_ne (Ne.symm hj)] at e
 have same:∀ (sl:Sl),(ρ.set i (.im (.lst ds)))[i]?=some sl->sl=.im (.lst ds):=fun sl e=>by
  rw[List.getElem?_set_self il] at e;exact (Option.some.inj e).symm
 refine⟨upd H0 a (.lst vs),s0,fun b u q=>?_,R.init.trans s0,fun b u q=>?_,R.keep,R.apt,by rw[List.length_set];exact R.len,fun j d' q=>?_,fun j bb o' q=>?_,fun j k b1 b2 o' o'' b e1 e2 e3 e4=>?_⟩
 ·by_cases h:b=a
  ·subst h;rw[upd_same] at q;cases q;exact e
  ·rw[upd_ne h] at q;exact R.same b u q
 ·by_cases h:b=a
  ·subst h;exact .inr he
  ·rw[upd_ne h] at q;exact R.fresh b u q
 ·by_cases hj:j=i
  ·subst hj
   cases same _ q;refine⟨.ref a,x,?_⟩;unfold Rep;exact⟨a,vs,rfl,.inl (.inl upd_same),Reps.mono s0 _ r⟩
  ·obtain⟨v,a1,a2⟩:=R.im j d' (other j _ hj q)
   exact⟨v,a1,Rep.mono s0 _ a2⟩
 ·by_cases hj:j=i
  ·subst hj;cases same _ q
  ·have q':=other j _ hj q
   obtain⟨b,x1,y1,z1,w1⟩:=R.ow j bb o' q';have nb:b≠a:=fun h=>hj (R.ne j i bb false o' _ b q' hi x1 (by rw[h];exact x))
   exact⟨b,x1,by rw[upd_ne nb];exact y1,z1,w1.step s0 fun u q=>q⟩
 ·by_cases hj:j=i
  ·subst hj;cases same _ e1
  ·by_cases hk:k=i
   ·subst hk;cases same _ e2
   ·exact R.ne j k b1 b2 o' o'' b (other j _ hj e1) (other k _ hk e2) e3 e4
noncomputable def tEo (K:PySem.W.Frag) (A:FA):TE:=fun σ H Q=>∃ c H0 ρ ds ρ',RS K c H0 H ρ σ/\A ρ=some (ds,ρ')/\∀ p vs H0' H',Same H0 H0'->RS K c H0' H' ρ' σ->H' p=none->Reps K H0' ds vs->Q (.ref p) (upd H' p (.lst vs))
noncomputable def XO' (X:Cx) (e:Expr) (A:FA):Prop:=PE X e (tEo X.K A)
theorem owL_eq {o:Option Sl}{ds:List D} (h:owL o=some ds):o=some (.ow false (.lst ds)):=by
 unfold owL at h
 split at h
 ·cases h;rfl
 ·cases h
section
variable {X:Cx}{pos:Pos}{e:Expr}{F:FE}{T:FT}{A B:FA}
theorem xoLst {es:List Expr} (h:XA X es A):XO' X (.List es pos) (oLst A):=PE.wk (pe_lst h) fun σ H Q hh0_=>by
 obtain⟨c,H0,ρ,ds,ρ',R,f,q⟩:=hh0_;unfold oLst at f;obtain⟨⟨ds',ρ1⟩,h1,f⟩:=bnd_eq f;obtain⟨hl,f'⟩:=ifs f;cases f';exact⟨c,H0,ρ,ds,_,R,h1,fun vs H1 Hh s1 R1 r1=>⟨by rw[<- r1.length];exact t1000 hl,fun p hp=>q p vs H1 Hh s1 R1 hp r1⟩⟩
theorem xown (i:Nat) {x:Str}{pos':Pos} (hN:X.N.Nodup) (he:XO' X e A) (hi:X.N[i]?=some x:=by rfl) (hx:Loc X.env.scope x:=by first | exact Or.inl rfl | exact Or.inr rfl) (hs:swapsWith e (some (.Name x pos')) pos.line X.env=pure false:=by rfl)
  (hf:X.fn x=true\/X.env.scope.names.lookup x=some .local:=by first | exact .inl rfl | exact .inr rfl):XS X (.Assign [.Name x pos'] e pos) (sOwn i A):=PS.wk (ps_set hN hi hx he hs hf) fun Dn σ H hh0_=>by
 obtain⟨c,H0,ρ,r,R,f,q⟩:=hh0_;unfold sOwn at f;obtain⟨⟨ds,ρ1⟩,h1,f⟩:=bnd_eq f;have f':some (Res.nx (ρ1.set i (.ow false (.lst ds))))=some r:=f;cases f';exact⟨c,H0,ρ,ds,ρ1,R,h1,fun p vs H1 Hh s1 R1 hp r1=>q _ H1 _ s1 (R1.setOwn (o:=.lst ds) (u:=.lst vs) i hp ⟨vs,upd_same,r1⟩)⟩
theorem xapp (i:Nat) {x:Str}{p1 p2 p3:Pos} (ha:XA X [e] (aC F aN)) (hN:X.N[i]?=some x:=by rfl) (hv:Vis X.env.scope x:=by first | exact Or.inl rfl | exact Or.inr (Or.inl rfl) | exact Or.inr (Or.inr rfl)) (hd:(x==("__debug__":Str))=false:=by decide)
  (hcd:(x==("__classdict__":Str))=false:=by decide) (hbase:attributeBase (.Name x p1) "append" X.env (eval (.Name x p1) X.env)=eval (.Name x p1) X.env:=by rfl)
  (hfew:((backTo p3 (starEach [e] X.env)).all (fun x=>!x.1)&&(backToKw p3 (keywordEach [] X.env)).all (fun x=>x.1.isSome)&&decide ([e].length+([]:List Keyword).length+(if ([]:List Keyword).isEmpty then 0 else 1)<30))=true:=by rfl)
  (hline:(p2.endLine==p3.line)=true:=by rfl) (hst:starEach [e] X.env=(false,eval e X.env)::starEach [] X.env:=by rfl) (hpl:(backTo p3 (starEach [] X.env)).any (·.1)=false:=by rfl)
  (hs:swapsWith (.Call (.Attribute (.Name x p1) "append" p2) [e] [] p3) none pos.line X.env=pure false:=by rfl) :
  XS X (.Expr (.Call (.Attribute (.Name x p1) "append" p2) [e] [] p3) pos) (sApp i F) :=
 PS.wk (ps_expr (pe_bm PySem.F.plainAttrs_list PySem.F.slot_list_append PySem.F.type_list_append mt_append (pe_var hN hv hd hcd) ha hbase hfew hline hst hpl) hs) fun Dn σ H hh0_=>by
  obtain⟨c,H0,ρ,r,R,f,q⟩:=hh0_;unfold sApp at f;obtain⟨ds0,h0,f⟩:=bnd_eq f;obtain⟨⟨d,ρ1⟩,h1,f⟩:=bnd_eq f;obtain⟨ds,h2,f⟩:=bnd_eq f;dsimp only at h2 f;obtain⟨hl,f'⟩:=ifs f;cases f';obtain⟨a,x1,_,_,vs0,y1,_⟩:=R.ow i _ _ (owL_eq h0);refine⟨.ref a,x1,.inl ⟨rfl,vs0,SqL.of y1⟩,c,H0,ρ,[d],ρ1,R,by unfold aC aN;rw[h1];rfl,fun vs H1 Hh s1 R1 r1=>?_⟩
  obtain⟨v,rfl,rv⟩:=Reps.v1 r1;obtain⟨a',x2,_,_,ws,y2,z2⟩:=R1.ow i _ _ (owL_eq h2);rw[x1] at x2;cases x2;refine⟨a,ws,v,rfl,rfl,y2,?_,?_⟩
  ·rw[<- z2.length]
   exact Nat.lt_of_lt_of_le hl (by rw[sizeLine_eq];decide)
  ·exact q σ H1 _ s1 (R1.mutOwn (o':=.lst (ds++[d])) (u:=.lst (ws++[v])) (owL_eq h2) x1 ⟨_,upd_same,z2.app (Reps.one rv)⟩)
theorem xfrz (i:Nat) {st:Stmt}{G:FS} (h:XS X st G):XS X st (sFrz i G):=PS.wk h fun Dn σ H hh0_=>by
 obtain⟨c,H0,ρ,r,R,f,q⟩:=hh0_;unfold sFrz frz at f;cases z:ρ[i]? with
 |none=>rw[z] at f;exact⟨c,H0,ρ,r,R,f,q⟩
 |some sl =>
  rw[z] at f;cases sl with
  |no=>exact⟨c,H0,ρ,r,R,f,q⟩
  |im d=>exact⟨c,H0,ρ,r,R,f,q⟩
  |ow b o =>
   cases b with
   |true=>exact⟨c,H0,ρ,r,R,f,q⟩
   |false =>
   cases o with
   |dic kds=>exact⟨c,H0,ρ,r,R,f,q⟩
   |dtu kds=>exact⟨c,H0,ρ,r,R,f,q⟩
   |lst ds =>
    obtain⟨H0',s0,R'⟩:=R.freeze z;exact⟨c,H0',_,r,R',f,q.mono s0⟩
end
section
variable {X:Cx}{scope sc:Scope}{x:Str}{frees:List Str}{js:List Nat}{px pos p pos':Pos}{elt a b:Expr}{ifs:List Expr}{F G I:FE}{T:FT}
theorem eLR_inv {R:FA}{ρ ρ':En}{d:D} (h:eLR js R T F ρ=some (d,ρ')):∃ xs fr ys,R ρ=some (xs,ρ')/\imAt ρ' js=some fr/\cGo T F fr xs=some ys/\xs.length<=sizeLine/\d=.lst ys:=by
 unfold eLR at h;obtain⟨⟨xs,ρ1⟩,h1,h⟩:=bnd_eq h;obtain⟨fr,h3,h⟩:=bnd_eq h;obtain⟨ys,h4,h⟩:=bnd_eq h;dsimp only at h3 h4 h;obtain⟨hz,h⟩:=Fx.ifs h;cases h;exact⟨xs,fr,ys,h1,h3,h4,hz,rfl⟩
theorem xlr1 (hm:X.mg "range"=none) (hc:X.calm=true) (hsc:X.env.scope=sc) (B:ScB X.N sc scope x frees js) (ha:XE X a F) (ht:∀ s H C fp,XTs (cxB X (x::frees) scope s H C fp) ifs T) (he:∀ s H C fp,XE (cxB X (x::frees) scope s H C fp) elt I)
  (hgl:Gl X "range":=by rfl) (hst:starEach [a] X.env=[(false,eval a X.env)]:=by rfl)
  (hs:∀ v,foldedSetIterable (.Call (.Name "range" p) [a] [] pos') X.env v=pure v:=by intro _;rfl):XE X (.ListComp elt [⟨.Name x px,.Call (.Name "range" p) [a] [] pos',ifs,0⟩] scope pos) (eLR js (rng1 F) T I) :=
 PE.wk (pe_lc (tt:=tTt X.K T) (te:=tE X.K I) hc hsc B (pi_range1 hgl hm (pa_cons ha pa_nil hst) hst) ht he hs) fun σ H Q hh0_=>by
  obtain⟨c,H0,ρ,d,ρ',R,f,q⟩:=hh0_;obtain⟨xs,fr,ys,h1,h3,h4,hz,rfl⟩:=eLR_inv f;unfold rng1 at h1;obtain⟨⟨d1,ρ1⟩,g1,h1⟩:=bnd_eq h1;obtain⟨i,g3,h1⟩:=bnd_eq h1;dsimp only at g3 h1;obtain⟨hj,h1⟩:=Fx.ifs h1;cases h1;refine⟨c,H0,ρ,d1,_,R,g1,fun v H1 Hh s1 R1 r1=>?_⟩
  cases d1 with
  |int k =>
   have e:k=i:=Option.some.inj g3;subst e;unfold Rep at r1;subst r1;refine⟨k,rfl,hj.1,hj.2,lc_of R1 h3 h4 hz (yields_rng 0 k.toNat) fun vs H3 Hh3 s3 R3 r3=>fun p hp=>?_⟩
   have S:=Step.alloc (o:=.lst vs) R3.same hp;refine q _ _ _ (s1.trans (s3.trans S.s0)) (R3.after S) ?_;unfold Rep;exact⟨p,vs,rfl,.inl (.inl upd_same),Reps.mono S.s0 _ r3⟩
  |_=>cases g3
end
end Fx
namespace Fx
open PySem
noncomputable def dBand:D->D->Option D
 |.int i,.int j=>some (.int (Builtin.bitAnd i j))
 |_,_=>none
noncomputable def dBor:D->D->Option D
 |.int i,.int j=>some (.int (Builtin.bitOr i j))
 |_,_=>none
noncomputable def dBxor:D->D->Option D
 |.int i,.int j=>some (.int (Builtin.bitXor i j))
 |_,_=>none
noncomputable def dShr:D->D->Option D
 |.int i,.int j=>if 0<=j then some (.int (i / 2 ^ j.toNat)) else none
 |_,_=>none
noncomputable def atS (z:Str) (i:Int):Option D:=if z.length<=sizeLine then bnd (bnd (dPl z.cps.toList.length i) fun j=>z.cps.toList[j]?) fun c=>some (.str (chS c)) else none
noncomputable def dIx2:D->D->Option D
 |.tup xs,.int i=>atD xs i
 |.lst xs,.int i=>atD xs i
 |.str z,.int i=>atS z i
 |_,_=>none
noncomputable def bLen2:List D->Option D
 |[.lst xs]=>some (.int xs.length)
 |[.tup xs]=>some (.int xs.length)
 |[.str z]=>if z.length<=sizeLine then some (.int z.length) else none
 |_=>none
noncomputable def flatD:D->Bool
 |.opq _ _=>false
 |.tup _=>false
 |.lst _=>false
 |_=>true
noncomputable def inD (x:D) (xs:List D):Bool:=xs.any fun y=>eqD y x
noncomputable def okIn (x:D) (xs:List D):Bool:=flatD x&&xs.all flatD
noncomputable def dIn:D->D->Option D
 |x,.tup xs=>if okIn x xs=true then some (.bl (inD x xs)) else none
 |x,.lst xs=>if okIn x xs=true then some (.bl (inD x xs)) else none
 |_,_=>none
noncomputable def dNotIn:D->D->Option D
 |x,.tup xs=>if okIn x xs=true then some (.bl (!inD x xs)) else none
 |x,.lst xs=>if okIn x xs=true then some (.bl (!inD x xs)) else none
 |_,_=>none
noncomputable def bInt:List D->Option D
 |[.int i]=>some (.int i)
 |[.bl b]=>some (.int (if b then 1 else 0))
 |_=>none
noncomputable def bTuple:List D->Option D
 |[.lst xs]=>some (.tup xs)
 |[.tup xs]=>some (.tup xs)
 |_=>none
noncomputable def bList:List D->Option D
 |[.lst xs]=>some (.lst xs)
 |[.tup xs]=>some (.lst xs)
 |_=>none
@[simp] theorem dBand_i (i j:Int):dBand (.int i) (.int j)=some (.int (Builtin.bitAnd i j)):=Eq.trans rfl rfl
@[simp] theorem dBor_i (i j:Int):dBor (.int i) (.int j)=some (.int (Builtin.bitOr i j)):=Eq.trans rfl rfl
@[simp] theorem dBxor_i (i j:Int):dBxor (.int i) (.int j)=some (.int (Builtin.bitXor i j)):=Eq.trans rfl rfl
@[simp] theorem dShr_i (i j:Int):dShr (.int i) (.int j)=if 0<=j then some (.int (i / 2 ^ j.toNat)) else none:=Eq.trans rfl rfl
@[simp] theorem dIx2_t (xs:List D) (i:Int):dIx2 (.tup xs) (.int i)=atD xs i:=Eq.trans rfl rfl
@[simp] theorem dIx2_l (xs:List D) (i:Int):dIx2 (.lst xs) (.int i)=atD xs i:=Eq.trans rfl rfl
@[simp] theorem dIx2_s (z:Str) (i:Int):dIx2 (.str z) (.int i)=atS z i:=Eq.trans rfl rfl
@[simp] theorem bLen2_l (xs:List D):bLen2 [.lst xs]=some (.int xs.length):=Eq.trans rfl rfl
@[simp] theorem bLen2_t (xs:List D):bLen2 [.tup xs]=some (.int xs.length):=Eq.trans rfl rfl
@[simp] theorem bLen2_s (z:Str):bLen2 [.str z]=if z.length<=sizeLine then some (.int z.length) else none:=Eq.trans rfl rfl
@[simp] theorem dIn_t (x:D) (xs:List D):dIn x (.tup xs)=if okIn x xs=true then some (.bl (inD x xs)) else none:=Eq.trans rfl rfl
@[simp] theorem dIn_l (x:D) (xs:List D):dIn x (.lst xs)=if okIn x xs=true then some (.bl (inD x xs)) else none:=Eq.trans rfl rfl
@[simp] theorem dNotIn_t (x:D) (xs:List D):dNotIn x (.tup xs)=if okIn x xs=true then some (.bl (!inD x xs)) else none:=Eq.trans rfl rfl
@[simp] theorem dNotIn_l (x:D) (xs:List D):dNotIn x (.lst xs)=if okIn x xs=true then some (.bl (!inD x xs)) else none:=Eq.trans rfl rfl
@[simp] theorem bInt_i (i:Int):bInt [.int i]=some (.int i):=Eq.trans rfl rfl
@[simp] theorem bInt_b (b:Bool):bInt [.bl b]=some (.int (if b then 1 else 0)):=Eq.trans rfl rfl
@[simp] theorem bTuple_l (xs:List D):bTuple [.lst xs]=some (.tup xs):=Eq.trans rfl rfl
@[simp] theorem bTuple_t (xs:List D):bTuple [.tup xs]=some (.tup xs):=Eq.trans rfl rfl
@[simp] theorem bList_l (xs:List D):bList [.lst xs]=some (.lst xs):=Eq.trans rfl rfl
@[simp] theorem bList_t (xs:List D):bList [.tup xs]=some (.lst xs):=Eq.trans rfl rfl
end Fx
set_option maxRecDepth 100000
namespace Fx
open PySem PySem.Spec PyProof.Rows L2
section
variable {X:Cx}{K:PySem.W.Frag}
theorem oBand:BinOk X .BitAnd dBand:=⟨_,op_and,opD_int0 fun x y d e=>by
 cases x <;> cases y <;> cases e
 exact⟨_,_,rfl,rfl,fun H=>rep_int H _⟩⟩
theorem oBxor:BinOk X .BitXor dBxor:=⟨_,op_xor,opD_int0 fun x y d e=>by
 cases x <;> cases y <;> cases e
 exact⟨_,_,rfl,rfl,fun H=>rep_int H _⟩⟩
theorem oShr:BinOk X .RShift dShr:=⟨_,op_shr,opD_int fun x y d e=>by
 cases x with
 |int i =>
  cases y with
  |int j =>
   obtain⟨h,rfl⟩:=ifs (c:=0<=j) e;exact⟨_,_,rfl,rfl,h,fun H=>rep_int H _⟩
  |_=>cases e
 |_=>cases y <;> cases e⟩
theorem rep_str (H:Hp) (x:Str):Rep K H (.str x) (.str x):=by unfold Rep;rfl
theorem ixD2:OpD K (rIx K) dIx2:=fun c H0 H ρ σ x y d vx vy Q R r1 r2 e q=>by
 cases y with
 |int i =>
  unfold Rep at r2;subst r2;cases x with
  |tup ds =>
   unfold Rep at r1;obtain⟨p,vs,rfl,s,t⟩:=r1;obtain⟨v,e1,e2⟩:=at_of t e;exact .inr (.inl ⟨p,vs,i,v,rfl,rfl,Same.seqT R.same s,e1,q v H0 H (Same.refl _) R e2⟩)
  |lst ds =>
   unfold Rep at r1;obtain⟨p,vs,rfl,s,t⟩:=r1;obtain⟨v,e1,e2⟩:=at_of t e;exact .inl ⟨p,vs,i,v,rfl,rfl,Same.seq R.same s,e1,q v H0 H (Same.refl _) R e2⟩
  |str z =>
   unfold Rep at r1;subst r1;have e:atS z i=some d:=e;unfold atS at e
   by_cases hz:z.length<=sizeLine
   ·rw[if_pos hz] at e
    obtain⟨ch,e1,e2⟩:=bnd_eq e;have e2:some (D.str (chS ch))=some d:=e2;cases e2;exact .inr (.inr ⟨z,i,ch,rfl,rfl,hz,e1,q _ H0 H (Same.refl _) R (rep_str H0 (chS ch))⟩)
   ·rw[if_neg hz] at e;cases e
  |_=>cases e
 |_=>cases x <;> cases e
variable {a b:Expr}{F G:FE}{pos:Pos}
theorem xix2 (ha:XE X a F) (hb:XE X b G) (hs:PlainIx b:=by intro _ _;rfl):XE X (.Subscript a b pos) (e2 dIx2 F G):=PE.wk (pe_ix ix_seq ha hb hs) fun σ H Q h=>two_of ixD2 h
theorem callLen2:BOk X (.builtin "len") bLen2:=⟨_,call_len_seq.or call_len_str,fun c H0 H ρ σ ds d vs Q R r e q=>by
 unfold bLen2 at e
 split at e
 ·cases e
  obtain⟨v,rfl,rv⟩:=Reps.v1 r;unfold Rep at rv;obtain⟨p,ws,rfl,s,t⟩:=rv;exact .inl ⟨p,ws,rfl,.inl (Same.seq R.same s),by rw[<- t.length];exact q _ H0 H (Same.refl _) R (rep_int _ _)⟩
 ·cases e
  obtain⟨v,rfl,rv⟩:=Reps.v1 r;unfold Rep at rv;obtain⟨p,ws,rfl,s,t⟩:=rv;exact .inl ⟨p,ws,rfl,.inr (Same.seqT R.same s),by rw[<- t.length];exact q _ H0 H (Same.refl _) R (rep_int _ _)⟩
 ·rename_i z
  obtain⟨hz,rfl⟩:=ifs e;obtain⟨v,rfl,rv⟩:=Reps.v1 r;unfold Rep at rv;subst rv;exact .inr ⟨z,rfl,hz,q _ H0 H (Same.refl _) R (rep_int _ _)⟩
 ·cases e⟩
theorem xTy {T:String}{g:List D → Option D}{A:FA}{x:Str}{p:Pos}{e:Expr}{es:List Expr} (o:BOk X (.type T) g) (hg:Gl X x) (hm:X.mg x=none) (hv:bootBuiltins x=some (.type T)) (ha:XA X (e::es) A) (hn:x≠"__name__":=by decide) (hdb:(x==("__debug__":Str))=false:=by decide)
  (he:starEach (e::es) X.env=(false,eval e X.env)::starEach es X.env:=by rfl) (hpl:(backTo pos (starEach es X.env)).any (·.1)=false:=by rfl):XE X (.Call (.Name x p) (e::es) [] pos) (eF g A):=by
 obtain⟨r,h1,h2⟩:=o;exact PE.wk (pe_callTy h1 hg hm hv ha hn hdb he hpl) fun σ H Q h=>eF_of h2 h
theorem callInt:BOk X (.type "int") bInt:=⟨_,call_int1,fun c H0 H ρ σ ds d vs Q R r e q=>by
 unfold bInt at e
 split at e
 ·cases e
  obtain⟨v,rfl,rv⟩:=Reps.v1 r;unfold Rep at rv;subst rv;exact .inl ⟨_,rfl,q _ H0 H (Same.refl _) R (rep_int _ _)⟩
 ·cases e
  obtain⟨v,rfl,rv⟩:=Reps.v1 r;unfold Rep at rv;subst rv;exact .inr ⟨_,rfl,q _ H0 H (Same.refl _) R (rep_int _ _)⟩
 ·cases e⟩
theorem callList:BOk X (.type "list") bList:=⟨_,call_list_of,fun c H0 H ρ σ ds d vs Q R r e q=>by
 unfold bList at e
 split at e
 ·cases e
  obtain⟨v,rfl,rv⟩:=Reps.v1 r;unfold Rep at rv;obtain⟨p,ws,rfl,s,t⟩:=rv;refine⟨p,ws,rfl,.inl (Same.seq R.same s),fun l hl=>?_⟩
  have S:=Step.alloc (o:=.lst ws) R.same hl;refine q _ _ _ S.s0 (R.after S) ?_;unfold Rep;exact⟨l,_,rfl,.inl (.inl upd_same),Reps.mono S.s0 _ t⟩
 ·cases e
  obtain⟨v,rfl,rv⟩:=Reps.v1 r;unfold Rep at rv;obtain⟨p,ws,rfl,s,t⟩:=rv;refine⟨p,ws,rfl,.inr (Same.seqT R.same s),fun l hl=>?_⟩
  have S:=Step.alloc (o:=.lst ws) R.same hl;refine q _ _ _ S.s0 (R.after S) ?_;unfold Rep;exact⟨l,_,rfl,.inl (.inl upd_same),Reps.mono S.s0 _ t⟩
 ·cases e⟩
end
end Fx
namespace Fx
open PySem
noncomputable def getK (k:Str):List (Str×D)->Option D
 |[]=>none
 |q::r=>if q.1=k then some q.2 else getK k r
noncomputable def setK (k:Str) (d:D):List (Str×D)->List (Str×D)
 |[]=>[]
 |q::r=>(if q.1=k then (q.1,d) else q)::setK k d r
noncomputable def owO:Option Sl->Option (Bool×MO)
 |some (.ow b o)=>some (b,o)
 |_=>none
noncomputable def owD:Option Sl->Option (Bool×List (Str×D))
 |some (.ow b (.dic kds))=>some (b,kds)
 |_=>none
noncomputable def eDG (i:Nat) (k:Str) (ρ:En):Option (D×En):=bnd (owD ρ[i]?) fun p=>bnd (getK k p.2) fun d=>some (d,ρ)
noncomputable def sDP (i:Nat) (k:Str) (F:FE) (ρ:En):Option Res:=bnd (F ρ) fun p=>bnd (owD p.2[i]?) fun q=>bnd (getK k q.2) fun _=>if q.2.length<100 then some (.nx (p.2.set i (.ow q.1 (.dic (setK k p.1 q.2))))) else none
noncomputable def eFb (i:Nat) (g:MO->List D->Option (D×MO)) (A:FA) (ρ:En):Option (D×En):=bnd (owO ρ[i]?) fun _=>bnd (A ρ) fun p=>bnd (owO p.2[i]?) fun q=>bnd (g q.2 p.1) fun z=>some (z.1,p.2.set i (.ow q.1 z.2))
noncomputable def noOw:Sl->Bool
 |.ow _ _=>false
 |_=>true
noncomputable def fnN (n k:Nat) (F:En->Option MO) (ds:List D):Option MO:=if ds.length=n then F (ds.map .im++List.replicate k .no) else none
noncomputable def sNew (i:Nat) (g:List D->Option MO) (A:FA) (ρ:En):Option Res:=bnd (A ρ) fun p=>bnd (g p.1) fun o=>some (.nx (p.2.set i (.ow false o)))
@[simp] theorem owO_s (b:Bool) (o:MO):owO (some (.ow b o))=some (b,o):=Eq.trans rfl rfl
@[simp] theorem owD_s (b:Bool) (o:List (Str×D)):owD (some (.ow b (.dic o)))=some (b,o):=Eq.trans rfl rfl
noncomputable def eDGa (k:Str) (ρ:En) (o:Option (Bool×List (Str×D))):Option (D×En):=bnd o fun p=>bnd (getK k p.2) fun d=>some (d,ρ)
@[simp] theorem eDG_ (i:Nat) (k:Str) (ρ:En):eDG i k ρ=eDGa k ρ (owD ρ[i]?):=Eq.trans rfl rfl
@[simp] theorem eDGa_s (k:Str) (ρ:En) (b:Bool) (kds:List (Str×D)):eDGa k ρ (some (b,kds))=mkP (getK k kds) ρ:=Eq.trans rfl rfl
noncomputable def sDPc (i:Nat) (k:Str) (d:D) (ρ:En) (b:Bool) (kds:List (Str×D)) (o:Option D):Option Res:=bnd o fun _=>if kds.length<100 then some (.nx (ρ.set i (.ow b (.dic (setK k d kds))))) else none
noncomputable def sDPb (i:Nat) (k:Str) (d:D) (ρ:En) (o:Option (Bool×List (Str×D))):Option Res:=bnd o fun q=>sDPc i k d ρ q.1 q.2 (getK k q.2)
noncomputable def sDPa (i:Nat) (k:Str) (o:Option (D×En)):Option Res:=bnd o fun p=>sDPb i k p.1 p.2 (owD p.2[i]?)
@[simp] theorem sDP_ (i:Nat) (k:Str) (F:FE) (ρ:En):sDP i k F ρ=sDPa i k (F ρ):=Eq.trans rfl rfl
@[simp] theorem sDPa_s (i:Nat) (k:Str) (d:D) (ρ:En):sDPa i k (some (d,ρ))=sDPb i k d ρ (owD ρ[i]?):=Eq.trans rfl rfl
@[simp] theorem sDPb_s (i:Nat) (k:Str) (d:D) (ρ:En) (b:Bool) (kds:List (Str×D)):sDPb i k d ρ (some (b,kds))=sDPc i k d ρ b kds (getK k kds):=Eq.trans rfl rfl
@[simp] theorem sDPc_s (i:Nat) (k:Str) (d:D) (ρ:En) (b:Bool) (kds:List (Str×D)) (z:D):sDPc i k d ρ b kds (some z)=if kds.length<100 then some (.nx (ρ.set i (.ow b (.dic (setK k d kds))))) else none:=Eq.trans rfl rfl
noncomputable def eFbd (i:Nat) (ρ:En) (b:Bool) (o:Option (D×MO)):Option (D×En):=bnd o fun z=>some (z.1,ρ.set i (.ow b z.2))
noncomputable def eFbc (i:Nat) (g:MO->List D->Option (D×MO)) (ds:List D) (ρ:En) (o:Option (Bool×MO)):Option (D×En):=bnd o fun q=>eFbd i ρ q.1 (g q.2 ds)
noncomputable def eFbb (i:Nat) (g:MO->List D->Option (D×MO)) (o:Option (List D×En)):Option (D×En):=bnd o fun p=>eFbc i g p.1 p.2 (owO p.2[i]?)
noncomputable def eFba (i:Nat) (g:MO->List D->Option (D×MO)) (A:FA) (ρ:En) (o:Option (Bool×MO)):Option (D×En):=bnd o fun _=>eFbb i g (A ρ)
@[simp] theorem eFb_ (i:Nat) (g:MO->List D->Option (D×MO)) (A:FA) (ρ:En):eFb i g A ρ=eFba i g A ρ (owO ρ[i]?):=Eq.trans rfl rfl
@[simp] theorem eFba_s (i:Nat) (g:MO->List D->Option (D×MO)) (A:FA) (ρ:En) (q:Bool×MO):eFba i g A ρ (some q)=eFbb i g (A ρ):=Eq.trans rfl rfl
@[simp] theorem eFbb_s (i:Nat) (g:MO->List D->Option (D×MO)) (ds:List D) (ρ:En):eFbb i g (some (ds,ρ))=eFbc i g ds ρ (owO ρ[i]?):=Eq.trans rfl rfl
@[simp] theorem eFbc_s (i:Nat) (g:MO->List D->Option (D×MO)) (ds:List D) (ρ:En) (b:Bool) (o:MO):eFbc i g ds ρ (some (b,o))=eFbd i ρ b (g o ds):=Eq.trans rfl rfl
@[simp] theorem eFbd_s (i:Nat) (ρ:En) (b:Bool) (d:D) (o:MO):eFbd i ρ b (some (d,o))=some (d,ρ.set i (.ow b o)):=Eq.trans rfl rfl
noncomputable def sNewb (i:Nat) (ρ:En) (o:Option MO):Option Res:=bnd o fun o=>some (.nx (ρ.set i (.ow false o)))
noncomputable def sNewa (i:Nat) (g:List D->Option MO) (o:Option (List D×En)):Option Res:=bnd o fun p=>sNewb i p.2 (g p.1)
@[simp] theorem sNew_ (i:Nat) (g:List D->Option MO) (A:FA) (ρ:En):sNew i g A ρ=sNewa i g (A ρ):=Eq.trans rfl rfl
@[simp] theorem sNewa_s (i:Nat) (g:List D->Option MO) (ds:List D) (ρ:En):sNewa i g (some (ds,ρ))=sNewb i ρ (g ds):=Eq.trans rfl rfl
@[simp] theorem sNewb_s (i:Nat) (ρ:En) (o:MO):sNewb i ρ (some o)=some (.nx (ρ.set i (.ow false o))):=Eq.trans rfl rfl
end Fx
set_option maxRecDepth 100000
namespace Fx
open PySem PySem.Spec PyProof.Rows L2
noncomputable def zipD (ks:List Str) (vs:List V):List (Key×V):=(ks.map Sum.inr).zip vs
section
variable {K:PySem.W.Frag}{H:Hp}
end
section
variable {X:Cx}{pos:Pos}{e:Expr}{F:FE}{A:FA}
noncomputable def spB (K:PySem.W.Frag) (g:MO->List D->Option (D×MO)):Sp:=fun vs H Q _=>∃ Hi a o vr ds d o',vs=.ref a::vr/\Same Hi H/\Hi a=none/\OwOk K Hi H a o/\Reps K Hi ds vr/\g o ds=some (d,o') /\
 ∀ v Hi' H',Same Hi Hi'->Same Hi' H'->(∀ b u,H b=some u->b≠a->H' b=some u)->(∀ b u,Hi' b=some u->Hi b=some u\/H b=none)->OwOk K Hi' H' a o'->Rep K Hi' d v->Q v H'
structure DefB (P:Program) (w:World) (K:PySem.W.Frag) (mg:Str->Option Value) (base:Heap) (k:Nat) (x:Str) (g:MO->List D->Option (D×MO)):Prop where
 ex:∃ f fd ps,FnOk P w K mg base CX0 k f fd ps (spB K g)/\Binds K fd ps []/\PySem.W.keepIn K (.ref f)=true/\mg x=some (.ref f)
end
end Fx
set_option maxRecDepth 100000
namespace Fx
open PySem PySem.Spec PyProof.Rows L2
noncomputable def NewAt (K:PySem.W.Frag) (Hi H:Hp) (o:MO) (a:Addr) (Hi' H':Hp):Prop :=
 Same Hi Hi'/\Same Hi' H'/\Same H H'/\(∀ b u,Hi' b=some u->Hi b=some u\/H b=none)/\Hi' a=none/\H a=none/\OwOk K Hi' H' a o
noncomputable def spN (K:PySem.W.Frag) (g:List D->Option MO):Sp:=fun vs H Q _=>∃ Hi ds o,Same Hi H/\Reps K Hi ds vs/\g ds=some o/\∀ a Hi' H',NewAt K Hi H o a Hi' H'->Q (.ref a) H'
structure DefN (P:Program) (w:World) (K:PySem.W.Frag) (mg:Str->Option Value) (base:Heap) (k:Nat) (x:Str) (g:List D->Option MO):Prop where
 ex:∃ f fd ps,FnOk P w K mg base CX0 k f fd ps (spN K g)/\Binds K fd ps []/\PySem.W.keepIn K (.ref f)=true/\mg x=some (.ref f)
theorem RS.got {K:PySem.W.Frag}{c:FC}{H0 H H0' H':Hp}{ρ:En}{σ:L2.St}{a:Addr}{o:MO} (R:RS K c H0 H ρ σ) (i:Nat) (h:NewAt K H0 H o a H0' H'):RS K c H0' H' (ρ.set i (.ow false o)) (σ.set i (some (.ref a))):=by
 obtain⟨s0,s',s,fr,a0,aH,ok⟩:=h;obtain⟨u,hu⟩:=ok.some
 have R2:RS K c H0' (fun b=>if b=a then none else H' b) ρ σ:=R.after ⟨s0,fun b v e=>by
  have:b≠a:=fun z=>by rw[z,aH] at e;cases e
  show (if b=a then none else H' b)=some v
  rw[if_neg this];exact s b v e,fun b v e=>by
  have:b≠a:=fun z=>by rw[z,a0] at e;cases e
  show (if b=a then none else H' b)=some v;rw[if_neg this];exact s' b v e,fr⟩
 have hup:upd (fun b=>if b=a then none else H' b) a u=H':=by
  funext b
  by_cases hb:b=a
  ·rw[hb,upd_same,hu]
  ·rw[upd_ne hb];exact if_neg hb
 have:=R2.setOwn (u:=u) (o:=o) (p:=a) i (if_pos rfl) (by rw[hup];exact ok)
 rw[hup] at this;exact this
section
variable {X:Cx}{pos:Pos}{e:Expr}{F:FE}{A:FA}
theorem xnew (i:Nat) {k:Nat}{x y:Str}{g:List D->Option MO}{p pos' cpos:Pos}{es:List Expr} (hN:X.N.Nodup) (G:DefN X.prog X.w X.K X.mg X.base k x g) (hr:Room k X.A) (ha:XA X (e::es) A) (hi:X.N[i]?=some y:=by rfl) (hx:Loc X.env.scope y:=by first | exact Or.inl rfl | exact Or.inr rfl)
  (hs:swapsWith (.Call (.Name x p) (e::es) [] cpos) (some (.Name y pos')) pos.line X.env=pure false:=by rfl) (hf:X.fn y=true\/X.env.scope.names.lookup y=some .local:=by first | exact .inl rfl | exact .inr rfl)
  (hg:Gl X x:=by rfl) (hdb:(x==("__debug__":Str))=false:=by decide) (he:starEach (e::es) X.env=(false,eval e X.env)::starEach es X.env:=by rfl) (hpl:(backTo cpos (starEach es X.env)).any (·.1)=false:=by rfl) :
  XS X (.Assign [.Name y pos'] (.Call (.Name x p) (e::es) [] cpos) pos) (sNew i g A):=by
 obtain⟨f,fd,ps,F,hb,hk,hm⟩:=G.ex;refine PS.wk (ps_set hN hi hx (pe_call F hr hg hm hk hb .nil pass0 ha hdb he hpl) hs hf) fun Dn σ H hh0_=>?_
 obtain⟨c,H0,ρ,r,R,f,q⟩:=hh0_;unfold sNew at f;obtain⟨⟨ds,ρ1⟩,h1,f⟩:=bnd_eq f;obtain⟨o,h2,f⟩:=bnd_eq f;have f':some (Res.nx (ρ1.set i (.ow false o)))=some r:=f;cases f';exact⟨c,H0,ρ,ds,ρ1,R,h1,fun vs H1 Hh s1 R1 r1=>⟨H1,ds,o,R1.same,by rw[List.append_nil];exact r1,h2,fun a Hi' H' nw=>q _ Hi' H' (s1.trans nw.1) (R1.got i nw)⟩⟩
noncomputable def tN (K:PySem.W.Frag) (F:En->Option MO):TS:=fun Dn σ H=>∃ Hi He H0 ρ o,RS K ⟨Hi,He,[]⟩ H0 H ρ σ/\F ρ=some o/\∀ a H0' H',NewAt K Hi He o a H0' H'->Dn.rt (.ref a) H'
noncomputable def XN (X:Cx) (sts:List Stmt) (F:En->Option MO):Prop:=PSs X sts (tN X.K F)
end
theorem fnN_ok {P:Program}{w:World}{K:PySem.W.Frag}{mg:Str->Option Value}{base:Heap}{x qual:Str}{st:Stmt}{f:Addr}{fd:FuncData}{N ps:List Str}{k n m:Nat}{B:En->Option MO} (F:Fun K x qual st f fd) (S:FnScope N ps (defScope st)) (hn:ps.length=n) (hN:N.length=n+m)
  (hb:∀ (cdv:Value) (A:Around) (outer:List Env) (s:Shared) (H:Hp) (E:XK),Room k (A.deeper (envOfC qual (defScope st) s.heap.objs.size f cdv))->XN (cxOf CX0 P w K mg base N qual (defScope st) f cdv A outer s H E).nox (defBody st) B) :
  FnOk P w K mg base CX0 (k+1) f fd ps (spN K (fnN n m B)):=by
 refine F.ok S (fun vs H Q E h=>?_) (fun cdv A outer s H vs Q E hr h=>?_)
 ·obtain⟨Hi,ds,o,_,r,e,_⟩:=h
  unfold fnN at e
  split at e
  ·rename_i hl;rw[hn,<- r.length];exact hl
  ·cases e
 ·obtain⟨Hi,ds,o,hs,r,e,q⟩:=h
  unfold fnN at e
  split at e
  ·rename_i hl
   exact⟨_,hb cdv A outer s H E hr,Hi,H,Hi,_,o,RS.start (n:=N.length) (m:=m) hs r (by rw[<- r.length];omega),e,q⟩
  ·cases e
end Fx
namespace Fx
open PySem
noncomputable def dSl2:D->Option Int->Option Int->Option D
 |.lst xs,lo,hi=>some (.lst (dCut xs lo hi))
 |.tup xs,lo,hi=>if dEnd xs.length 0 lo=0/\dEnd xs.length xs.length hi=xs.length then none else some (.tup (dCut xs lo hi))
 |.str z,lo,hi=>if z.length<=sizeLine then some (.str (Txt.slice z lo hi)) else none
 |_,_,_=>none
noncomputable def eSl2 (F:FE) (lo hi:FO) (ρ:En):Option (D×En):=bnd (F ρ) fun p=>bnd (lo p.2) fun l=>bnd (hi l.2) fun h=>bnd (dSl2 p.1 l.1 h.1) fun d=>some (d,h.2)
noncomputable def inS (x z:Str):Bool:=!(Builtin.Str.occurrences z x 0 z.length 1).isEmpty
noncomputable def dIn2:D->D->Option D
 |x,.tup xs=>if okIn x xs=true then some (.bl (inD x xs)) else none
 |x,.lst xs=>if okIn x xs=true then some (.bl (inD x xs)) else none
 |.str x,.str z=>some (.bl (inS x z))
 |_,_=>none
noncomputable def dNotIn2:D->D->Option D
 |x,.tup xs=>if okIn x xs=true then some (.bl (!inD x xs)) else none
 |x,.lst xs=>if okIn x xs=true then some (.bl (!inD x xs)) else none
 |.str x,.str z=>some (.bl (!inS x z))
 |_,_=>none
noncomputable def eSl2c (x:D) (l:Option Int) (o:Option (Option Int×En)):Option (D×En):=bnd o fun h=>bnd (dSl2 x l h.1) fun d=>some (d,h.2)
noncomputable def eSl2b (hi:FO) (x:D) (o:Option (Option Int×En)):Option (D×En):=bnd o fun l=>bnd (hi l.2) fun h=>bnd (dSl2 x l.1 h.1) fun d=>some (d,h.2)
noncomputable def eSl2a (lo hi:FO) (o:Option (D×En)):Option (D×En):=bnd o fun p=>bnd (lo p.2) fun l=>bnd (hi l.2) fun h=>bnd (dSl2 p.1 l.1 h.1) fun d=>some (d,h.2)
@[simp] theorem eSl2_ (F:FE) (lo hi:FO) (ρ:En):eSl2 F lo hi ρ=eSl2a lo hi (F ρ):=Eq.trans rfl rfl
@[simp] theorem eSl2a_s (lo hi:FO) (x:D) (ρ:En):eSl2a lo hi (some (x,ρ))=eSl2b hi x (lo ρ):=Eq.trans rfl rfl
@[simp] theorem eSl2b_s (hi:FO) (x:D) (l:Option Int) (ρ:En):eSl2b hi x (some (l,ρ))=eSl2c x l (hi ρ):=Eq.trans rfl rfl
@[simp] theorem eSl2c_s (x:D) (l h:Option Int) (ρ:En):eSl2c x l (some (h,ρ))=mkP (dSl2 x l h) ρ:=Eq.trans rfl rfl
@[simp] theorem dSl2_l (xs:List D) (lo hi:Option Int):dSl2 (.lst xs) lo hi=some (.lst (dCut xs lo hi)):=Eq.trans rfl rfl
@[simp] theorem dSl2_t (xs:List D) (lo hi:Option Int):dSl2 (.tup xs) lo hi=if dEnd xs.length 0 lo=0/\dEnd xs.length xs.length hi=xs.length then none else some (.tup (dCut xs lo hi)):=Eq.trans rfl rfl
@[simp] theorem dSl2_s (z:Str) (lo hi:Option Int):dSl2 (.str z) lo hi=if z.length<=sizeLine then some (.str (Txt.slice z lo hi)) else none:=Eq.trans rfl rfl
@[simp] theorem dIn2_t (x:D) (xs:List D):dIn2 x (.tup xs)=if okIn x xs=true then some (.bl (inD x xs)) else none:=by cases x <;> rfl
@[simp] theorem dIn2_l (x:D) (xs:List D):dIn2 x (.lst xs)=if okIn x xs=true then some (.bl (inD x xs)) else none:=by cases x <;> rfl
@[simp] theorem dIn2_s (x z:Str):dIn2 (.str x) (.str z)=some (.bl (inS x z)):=Eq.trans rfl rfl
@[simp] theorem dNotIn2_t (x:D) (xs:List D):dNotIn2 x (.tup xs)=if okIn x xs=true then some (.bl (!inD x xs)) else none:=by cases x <;> rfl
@[simp] theorem dNotIn2_l (x:D) (xs:List D):dNotIn2 x (.lst xs)=if okIn x xs=true then some (.bl (!inD x xs)) else none:=by cases x <;> rfl
@[simp] theorem dNotIn2_s (x z:Str):dNotIn2 (.str x) (.str z)=some (.bl (!inS x z)):=Eq.trans rfl rfl
end Fx
set_option maxRecDepth 100000
namespace Fx
open PySem PySem.Spec PyProof.Rows L2
section
variable {X:Cx}{K:PySem.W.Frag}{pos:Pos}{e:Expr}{F:FE}
noncomputable def rSlS:V->Option Int->Option Int->Hp->VK->Prop:=fun x lo hi H Q=>∃ z,x=.str z/\z.length<=sizeLine/\Q (.str (Txt.slice z lo hi)) H
theorem part_ {v:Value}{o:Option Int} (p:IsPart v o):∃ l:Option (Int×Tok),v=partValue l/\l.map (·.1)=o:=by
 cases p with
 |none=>exact⟨none,rfl,rfl⟩
 |int i t=>exact⟨some (i,t),rfl,rfl⟩
theorem sl_str:SlR X rSlS:=by
 intro pins s σ H x v vl vu lo hi sl Q I rx hs pl pu h;obtain⟨z,rfl,hz,q⟩:=h;obtain⟨t,rfl⟩:=rx;obtain⟨l,rfl,rfl⟩:=part_ pl;obtain⟨u,rfl,rfl⟩:=part_ pu;refine⟨"str",_,slot_str_getitem.lookup,typeIs_str _ _ _,wpAny_getItem_str_slice (l:=l) (u:=u) (st:=none) hs rfl ?_⟩;exact post_val_or_str ⟨Nat.le_trans (Txt.slice_le z _ _) hz,fun t' k=>⟨.str (Txt.slice z (l.map (·.1)) (u.map (·.1))),H,I.tok _,⟨_,rfl⟩,q⟩⟩
theorem xsl2 {lo hi:Option Expr}{A B:FO}{p2:Pos} (he:XE X e F) (hl:XO X lo A) (hh:XO X hi B):XE X (.Subscript e (.Slice lo hi none p2) pos) (eSl2 F A B):=PE.wk (pe_slice ((sl_list.or sl_tup).or sl_str) he hl hh) fun σ H Q hh0_=>by
 obtain⟨c,H0,ρ,d,ρ',R,f,q⟩:=hh0_;unfold eSl2 at f;obtain⟨⟨x,ρ1⟩,h1,f⟩:=bnd_eq f;obtain⟨⟨l,ρ2⟩,h2,f⟩:=bnd_eq f;obtain⟨⟨u,ρ3⟩,h3,f⟩:=bnd_eq f;obtain⟨d',h4,f⟩:=bnd_eq f;dsimp only at h2 h3 h4 f;have f':some (d',ρ3)=some (d,ρ'):=f;cases f';refine⟨c,H0,ρ,x,ρ1,R,h1,fun v H1 Hh s1 R1 r1=>?_⟩
 refine⟨c,H1,ρ1,l,ρ2,R1,h2,fun H2 Hh2 s2 R2=>?_⟩
 refine⟨c,H2,ρ2,u,_,R2,h3,fun H3 Hh3 s3 R3=>?_⟩
 have r3:=Rep.mono s3 x (Rep.mono s2 x r1);cases x with
 |lst ds =>
  have e:D.lst (dCut ds l u)=d:=Option.some.inj h4;subst e;unfold Rep at r3;obtain⟨p,vs,rfl,s,t⟩:=r3;refine .inl (.inl ⟨p,vs,rfl,Same.seq R3.same s,fun p' hp=>?_⟩)
  have S:=Step.alloc (o:=.lst (cutV vs l u)) R3.same hp;refine q _ _ _ (s1.trans (s2.trans (s3.trans S.s0))) (R3.after S) ?_;unfold Rep;exact⟨p',_,rfl,.inl (.inl upd_same),Reps.mono S.s0 _ (cut_of t l u)⟩
 |tup ds =>
  have h5:(if dEnd ds.length 0 l=0/\dEnd ds.length ds.length u=ds.length then none else some (D.tup (dCut ds l u)))=some d:=h4
  by_cases hn:dEnd ds.length 0 l=0/\dEnd ds.length ds.length u=ds.length
  ·rw[if_pos hn] at h5;cases h5
  ·rw[if_neg hn] at h5
   cases h5;unfold Rep at r3;obtain⟨p,vs,rfl,s,t⟩:=r3;refine .inl (.inr ⟨p,vs,rfl,Same.seqT R3.same s,?_,fun p' hp=>?_⟩)
   ·rw[<- dEnd_eq,<- dEnd_eq,<- t.length];exact hn
   have S:=Step.alloc (o:=.tup (cutV vs l u)) R3.same hp;refine q _ _ _ (s1.trans (s2.trans (s3.trans S.s0))) (R3.after S) ?_;unfold Rep;exact⟨p',_,rfl,.inl (.inl upd_same),Reps.mono S.s0 _ (cut_of t l u)⟩
 |str z =>
  obtain⟨hz,rfl⟩:=ifs (c:=z.length<=sizeLine) h4;unfold Rep at r3;exact .inr ⟨z,r3,hz,q _ H3 Hh3 (s1.trans (s2.trans s3)) R3 (rep_str H3 _)⟩
 |_=>cases h4
theorem OpR.or {f:Value->Value->Sem Value}{r r':R2} (h:OpR X f r) (h':OpR X f r'):OpR X f (fun x y H Q=>r x y H Q\/r' x y H Q):=by
 intro pins s σ H x y v u Q I rx ry q
 rcases q with q | q
 ·exact h pins s σ H x y v u Q I rx ry q
 ·exact h' pins s σ H x y v u Q I rx ry q
end
end Fx
namespace Fx
open PySem
end Fx
set_option maxRecDepth 100000
namespace Fx
open PySem PySem.Spec PyProof.Rows L2
section
variable {X:Cx}{scope sc:Scope}{x:Str}{frees:List Str}{js:List Nat}{px pos p pos':Pos}{elt iter a:Expr}{ifs:List Expr}{I F:FE}{T:FT}
end
end Fx
set_option maxRecDepth 100000
namespace Fx
open PySem PySem.Spec PyProof.Rows L2
section
variable {X:Cx}{pos:Pos}
end
section
variable {X:Cx}{scope sc:Scope}{x y:Str}{frees:List Str}{js:List Nat}{px py pos spos p pos':Pos}{elt iter a:Expr}{ifs:List Expr}{I F:FE}{T:FT}
end
end Fx
namespace Fx
open PySem
noncomputable def ltS (a b:Str):Bool:=decide (a.cps.toList<b.cps.toList)
noncomputable def insS (x:Str):List Str->List Str
 |[]=>[x]
 |y::r=>if ltS y x=true then y::insS x r else x::y::r
noncomputable def sortS:List Str->List Str
 |[]=>[]
 |x::r=>insS x (sortS r)
noncomputable def txts:List D->Option (List Str)
 |[]=>some []
 |.str x::r=>bnd (txts r) fun t=>some (x::t)
 |_=>none
theorem strs_cons (x:Str) (r:List D):txts (.str x::r)=bnd (txts r) fun t=>some (x::t):=rfl
noncomputable def sortL (xs:List D):Option D:=bnd (txts xs) fun ss=>if ss.length<64 then some (.lst ((sortS ss).map .str)) else none
noncomputable def bSorted:List D->Option D
 |[.tup xs]=>sortL xs
 |[.lst xs]=>sortL xs
 |_=>none
noncomputable def lstX:D->Option (List D)
 |.lst xs=>some xs
 |_=>none
noncomputable def strX:D->Option Str
 |.str x=>some x
 |_=>none
noncomputable def joinL (sep:Str) (xs:List D):Option D:=bnd (txts xs) fun ss=>if (ss.map (·.length)).sum+ss.length*sep.length<=1000000 then some (.str (Str.join sep ss)) else none
noncomputable def eJoin (sep:Str) (F:FE) (ρ:En):Option (D×En):=bnd (F ρ) fun p=>bnd (lstX p.1) fun xs=>bnd (joinL sep xs) fun d=>some (d,p.2)
noncomputable def pairsD:List D->Option (List (Str×D))
 |[]=>some []
 |.tup [.str k,v]::r=>bnd (pairsD r) fun t=>some ((k,v)::t)
 |_=>none
noncomputable def getL (xs:List D) (k:D) (d:D):Option D:=bnd (pairsD xs) fun kvs=>bnd (strX k) fun k=>if kvs.length<=1000/\(kvs.map (·.1)).Nodup then some ((getK k kvs).getD d) else none
noncomputable def tupY:D->Option (List D)
 |.tup xs=>some xs
 |_=>none
@[simp] theorem tupY_t (xs:List D):tupY (.tup xs)=some xs:=Eq.trans rfl rfl
noncomputable def eDGet (E Kf Df:FE) (ρ:En):Option (D×En):=bnd (E ρ) fun p=>bnd (tupY p.1) fun xs=>if p.2.all noOw=true then bnd (Kf p.2) fun q=>bnd (Df q.2) fun r=>bnd (getL xs q.1 r.1) fun d=>some (d,r.2) else none
@[simp] theorem noOw_i (d:D):noOw (.im d)=true:=Eq.trans rfl rfl
@[simp] theorem noOw_n:noOw .no=true:=Eq.trans rfl rfl
@[simp] theorem bSorted_t (xs:List D):bSorted [.tup xs]=sortL xs:=Eq.trans rfl rfl
@[simp] theorem bSorted_l (xs:List D):bSorted [.lst xs]=sortL xs:=Eq.trans rfl rfl
@[simp] theorem lstX_l (xs:List D):lstX (.lst xs)=some xs:=Eq.trans rfl rfl
noncomputable def eJoinb (sep:Str) (ρ:En) (o:Option (List D)):Option (D×En):=bnd o fun xs=>bnd (joinL sep xs) fun d=>some (d,ρ)
noncomputable def eJoina (sep:Str) (o:Option (D×En)):Option (D×En):=bnd o fun p=>eJoinb sep p.2 (lstX p.1)
@[simp] theorem eJoin_ (sep:Str) (F:FE) (ρ:En):eJoin sep F ρ=eJoina sep (F ρ):=Eq.trans rfl rfl
@[simp] theorem eJoina_s (sep:Str) (x:D) (ρ:En):eJoina sep (some (x,ρ))=eJoinb sep ρ (lstX x):=Eq.trans rfl rfl
@[simp] theorem eJoinb_s (sep:Str) (ρ:En) (xs:List D):eJoinb sep ρ (some xs)=mkP (joinL sep xs) ρ:=Eq.trans rfl rfl
noncomputable def eDGetd (xs:List D) (k:D) (o:Option (D×En)):Option (D×En):=bnd o fun r=>bnd (getL xs k r.1) fun d=>some (d,r.2)
noncomputable def eDGetc (Df:FE) (xs:List D) (o:Option (D×En)):Option (D×En):=bnd o fun q=>eDGetd xs q.1 (Df q.2)
noncomputable def eDGetb (Kf Df:FE) (ρ:En) (o:Option (List D)):Option (D×En):=bnd o fun xs=>if ρ.all noOw=true then eDGetc Df xs (Kf ρ) else none
noncomputable def eDGeta (Kf Df:FE) (o:Option (D×En)):Option (D×En):=bnd o fun p=>eDGetb Kf Df p.2 (tupY p.1)
@[simp] theorem eDGet_ (E Kf Df:FE) (ρ:En):eDGet E Kf Df ρ=eDGeta Kf Df (E ρ):=Eq.trans rfl rfl
@[simp] theorem eDGeta_s (Kf Df:FE) (x:D) (ρ:En):eDGeta Kf Df (some (x,ρ))=eDGetb Kf Df ρ (tupY x):=Eq.trans rfl rfl
@[simp] theorem eDGetb_s (Kf Df:FE) (ρ:En) (xs:List D):eDGetb Kf Df ρ (some xs)=if ρ.all noOw=true then eDGetc Df xs (Kf ρ) else none:=Eq.trans rfl rfl
@[simp] theorem eDGetc_s (Df:FE) (xs:List D) (k:D) (ρ:En):eDGetc Df xs (some (k,ρ))=eDGetd xs k (Df ρ):=Eq.trans rfl rfl
@[simp] theorem eDGetd_s (xs:List D) (k d:D) (ρ:En):eDGetd xs k (some (d,ρ))=mkP (getL xs k d) ρ:=Eq.trans rfl rfl
theorem strs_map:∀ (ss:List Str),txts (ss.map .str)=some ss
 |[]=>rfl
 |x::r=>by rw[List.map_cons,strs_cons,strs_map r];rfl
end Fx
set_option maxRecDepth 100000
namespace Fx
open PySem PySem.Spec PyProof.Rows
section
variable {prog:Program}{w:World}{A:Around}{E:Value->Shared->Prop}{s:Shared}
end
end Fx
set_option maxRecDepth 100000
namespace Fx
open PySem
end Fx
set_option maxRecDepth 100000
namespace Fx
open PySem
section
variable {prog:Program}{w:World}{K:Type} [DecidableEq K] {knd:KeyKind prog w K}{A:Around}{E:Value->Shared->Prop}{s:Shared}
inductive PairsAt (knd:KeyKind prog w K) (h:Heap):List Value->List (K×Value)->Prop
 |nil:PairsAt knd h [] []
 |cons {p:Addr}{u v:Value}{k:K}{us:List Value}{kvs:List (K×Value)} (a:h.IsTuple p #[u,v]) (b:knd.is k u=true) (r:PairsAt knd h us kvs):PairsAt knd h (.ref p::us) ((k,v)::kvs)
end
end Fx
set_option maxRecDepth 100000
namespace Fx
open PySem PySem.Spec PyProof.Rows L2
noncomputable def KV1 (K:PySem.W.Frag) (d:D) (u:Value):Prop:=∃ v,RelV v u/\∀ H,Rep K H d v
section
variable {K:PySem.W.Frag}
end
theorem strs_inv:∀ {xs:List D}{ss:List Str},txts xs=some ss->xs=ss.map .str
 |[],ss,h=>by cases h;rfl
 |.str x::r,ss,h=>by
  rw[strs_cons] at h;obtain⟨t,e,f⟩:=bnd_eq h;cases f;rw[strs_inv e];rfl
 |.non::_,_,h=>by cases h
 |.bl _::_,_,h=>by cases h
 |.int _::_,_,h=>by cases h
 |.tup _::_,_,h=>by cases h
 |.lst _::_,_,h=>by cases h
theorem reps_strs_inv {K:PySem.W.Frag}{H:Hp}:∀ {ss:List Str}{vs:List V},Reps K H (ss.map D.str) vs->vs=ss.map V.str
 |[],vs,h=>by rw[List.map_nil] at h;unfold Reps at h;exact h
 |x::r,vs,h=>by
  rw[List.map_cons] at h;unfold Reps at h;obtain⟨v,t,rfl,a,b⟩:=h;unfold Rep at a;rw[a,reps_strs_inv b];rfl
section
variable {X:Cx}
theorem strVals_of:∀ {ss:List Str}{us:List Value},Vals (ss.map V.str) us->∃ l:List (Str×Tok),us=strValues l/\l.map (·.1)=ss
 |[],us,h=>by rw[List.map_nil] at h;cases h;exact⟨[],rfl,rfl⟩
 |x::r,us,h=>by
  rw[List.map_cons] at h;cases h with
  |cons a b =>
   obtain⟨t,rfl⟩:=a;obtain⟨l,rfl,e⟩:=strVals_of b;exact⟨(x,t)::l,rfl,by rw[List.map_cons,e]⟩
theorem join_len (sep:Str):∀ ss:List Str,(Str.join sep ss).length<=(ss.map (·.length)).sum+ss.length*sep.length
 |[]=>by show (Str.empty).length<=_;exact Nat.zero_le _
 |[x]=>by simp[Str.join]
 |x::y::r=>by
  have ih:=join_len sep (y::r)
  have ap:∀ a b:Str,(a++b).length=a.length+b.length:=fun a b=>by
   show (a.cps++b.cps).size=_;rw[Array.size_append];rfl
  show (x++sep++Str.join sep (y::r)).length<=_;rw[ap,ap,List.map_cons,List.sum_cons,List.length_cons,Nat.succ_mul];omega
theorem mt_join:MtR X "str.join" (fun x xs H Q=>∃ sep p ss,x=.str sep ∧ xs=[.ref p] ∧ SqL X.K H p (ss.map V.str) ∧ (ss.map (·.length)).sum+ss.length*sep.length ≤ 1000000 ∧ Q (.str (Str.join sep ss)) H):=by
 intro pins s σ H x xs v us Q I rx rs h;obtain⟨sep,p,ss,rfl,rfl,hq,hz,q⟩:=h;obtain⟨t,rfl⟩:=rx;obtain⟨u,rfl,ru⟩:=vals1 rs;cases ru;obtain⟨its,rv,pl,_⟩:=I.list hq;obtain⟨l,rfl,el⟩:=strVals_of rv;have jl:=join_len sep ss;have hs:(Str.join sep ss).length<=sizeLine:=Nat.le_trans (Nat.le_trans jl hz) (by decide)
 have hok:Builtin.Str.tooLong ((l.map (·.1)).toArray.foldl (fun a p=>a+p.length+sep.length) 0)=false:=by
  rw[StrLaws.joinTotal,el];unfold Builtin.Str.tooLong;exact decide_eq_false (by have:=(show (1000000:Nat)<=sizeLine by decide);omega)
 refine call_meets PySem.F.slot_str_join (typeIs_str _ _ _) PySem.F.entry_str_join (PySem.F.args_str_join_2 _ _) (meets_str_join_list sep t p l hok) ⟨pl.isList,?_⟩;have eg:Builtin.Str.glued sep (l.map (·.1))=Str.join sep ss:=by rw[StrLaws.glued_eq_join,el]
 match l,el,eg with
 |[a],el,_ =>
  have e1:Str.join sep ss=a.1:=by rw[<- el];rfl
  exact⟨.str (Str.join sep ss),H,I,⟨a.2,by rw[e1]⟩,q⟩
 |[],_,eg=>exact⟨by rw[eg];exact hs,.str (Str.join sep ss),H,I.tok _,⟨s.toks,by rw[eg]⟩,q⟩
 |a::b::r,_,eg=>exact⟨by rw[eg];exact hs,.str (Str.join sep ss),H,I.tok _,⟨s.toks,by rw[eg]⟩,q⟩
theorem xjoin {e:Expr}{F:FE}{sep:Str}{j:Nat}{p apos cpos:Pos} (h:XE X e F)
  (hbase:attributeBase (.Constant (.str sep) j p) "join" X.env (eval (.Constant (.str sep) j p) X.env)=eval (.Constant (.str sep) j p) X.env:=by rfl)
  (hfew:((backTo cpos (starEach [e] X.env)).all (fun x=>!x.1)&&(backToKw cpos (keywordEach [] X.env)).all (fun x=>x.1.isSome)
   && decide (([e]:List Expr).length+([]:List Keyword).length+(if ([]:List Keyword).isEmpty then 0 else 1)<30))=true:=by rfl)
  (hline:(apos.endLine==cpos.line)=true:=by rfl) (hs:starEach [e] X.env=[(false,eval e X.env)]:=by rfl):XE X (.Call (.Attribute (.Constant (.str sep) j p) "join" apos) [e] [] cpos) (eJoin sep F) :=
 PE.wk (pe_bm PySem.F.plainAttrs_str PySem.F.slot_str_join PySem.F.type_str_join mt_join pe_str (xaC h xaN hs) hbase hfew hline hs rfl) fun σ H Q hh0_=>by
  obtain⟨c,H0,ρ,d,ρ',R,f,q⟩:=hh0_;unfold eJoin at f;obtain⟨⟨d1,ρ1⟩,h1,f⟩:=bnd_eq f;obtain⟨xs,h2,f⟩:=bnd_eq f;obtain⟨d',h3,f⟩:=bnd_eq f;have f':some (d',ρ1)=some (d,ρ'):=f;cases f'
  have e1:d1=.lst xs:=by
   cases d1 with
   |lst ys=>cases h2;rfl
   |_=>cases h2
  subst e1;unfold joinL at h3;obtain⟨ss,h4,h3⟩:=bnd_eq h3;obtain⟨hz,rfl⟩:=ifs h3;cases strs_inv h4;refine⟨rfl,c,H0,ρ,[.lst (ss.map .str)],ρ',R,?_,fun vs H1 Hh s1 R1 r1=>?_⟩
  ·unfold aC
   rw[h1];rfl
  ·obtain⟨v,rfl,rv⟩:=Reps.v1 r1
   unfold Rep at rv;obtain⟨p,ws,rfl,sq,t⟩:=rv;rw[reps_strs_inv t] at sq;exact⟨sep,p,ss,rfl,rfl,Same.seq R1.same sq,hz,q _ H1 Hh s1 R1 (rep_str _ _)⟩
end
inductive PV (K:PySem.W.Frag) (H:Hp):List V->List (Key×V)->Prop
 |nil:PV K H [] []
 |cons {a:Addr}{k:Str}{v:V}{vs:List V}{kvs:List (Key×V)} (p:SqT K H a [.str k,v]) (r:PV K H vs kvs):PV K H (.ref a::vs) ((.inr k,v)::kvs)
section
variable {X:Cx}
end
section
variable {X:Cx}
end
section
variable {X:Cx}{scope sc:Scope}{x y:Str}{frees:List Str}{js:List Nat}{px py spos pos p pos':Pos}{elt a:Expr}{ifs:List Expr}{F I:FE}{T:FT}
end
end Fx
namespace Fx
open PySem
noncomputable def addS (acc:List Str) (x:Str):List Str:=if x∈acc then acc else acc++[x]
noncomputable def addAll (acc:List Str) (xs:List Str):List Str:=xs.foldl addS acc
noncomputable def sortSetL (xs:List D):Option D:=bnd (txts xs) fun ss=>if ss.length<64 then some (.lst ((sortS (addAll [] ss)).map .str)) else none
noncomputable def bSortSet:List D->Option D
 |[.tup xs]=>sortSetL xs
 |[.lst xs]=>sortSetL xs
 |_=>none
@[simp] theorem bSortSet_t (xs:List D):bSortSet [.tup xs]=sortSetL xs:=Eq.trans rfl rfl
@[simp] theorem bSortSet_l (xs:List D):bSortSet [.lst xs]=sortSetL xs:=Eq.trans rfl rfl
end Fx
namespace Fx
open PySem
noncomputable def sqA:D->Option (List D)
 |.tup xs=>some xs
 |.lst xs=>some xs
 |_=>none
@[simp] theorem sqA_t (xs:List D):sqA (.tup xs)=some xs:=Eq.trans rfl rfl
@[simp] theorem sqA_l (xs:List D):sqA (.lst xs)=some xs:=Eq.trans rfl rfl
end Fx
namespace Fx
open PySem
noncomputable def kS:D->Option Str
 |.str k=>some k
 |_=>none
@[simp] theorem kS_s (k:Str):kS (.str k)=some k:=Eq.trans rfl rfl
noncomputable def putD (k:Str) (d:D) (kds:List (Str×D)):List (Str×D):=if (getK k kds).isSome=true then setK k d kds else kds++[(k,d)]
noncomputable def sDN (i:Nat) (ρ:En):Option Res:=some (.nx (ρ.set i (.ow false (.dic []))))
@[simp] theorem sDN_ (i:Nat) (ρ:En):sDN i ρ=some (.nx (ρ.set i (.ow false (.dic [])))):=Eq.trans rfl rfl
noncomputable def sDKe (i:Nat) (d:D) (ρ:En) (k:Str) (o:Option (Bool×List (Str×D))):Option Res:=bnd o fun q=>if q.2.length<100 then some (.nx (ρ.set i (.ow q.1 (.dic (putD k d q.2))))) else none
noncomputable def sDKd (i:Nat) (d:D) (ρ:En) (o:Option Str):Option Res:=bnd o fun k=>sDKe i d ρ k (owD ρ[i]?)
noncomputable def sDKc (i:Nat) (d:D) (o:Option (D×En)):Option Res:=bnd o fun p=>sDKd i d p.2 (kS p.1)
noncomputable def sDKb (i:Nat) (G:FE) (d:D) (ρ:En) (o:Option (Bool×List (Str×D))):Option Res:=bnd o fun _=>sDKc i d (G ρ)
noncomputable def sDKa (i:Nat) (G:FE) (o:Option (D×En)):Option Res:=bnd o fun p=>sDKb i G p.1 p.2 (owD p.2[i]?)
noncomputable def sDK (i:Nat) (G F:FE) (ρ:En):Option Res:=sDKa i G (F ρ)
@[simp] theorem sDK_ (i:Nat) (G F:FE) (ρ:En):sDK i G F ρ=sDKa i G (F ρ):=Eq.trans rfl rfl
@[simp] theorem sDKa_s (i:Nat) (G:FE) (d:D) (ρ:En):sDKa i G (some (d,ρ))=sDKb i G d ρ (owD ρ[i]?):=Eq.trans rfl rfl
@[simp] theorem sDKb_s (i:Nat) (G:FE) (d:D) (ρ:En) (q:Bool×List (Str×D)):sDKb i G d ρ (some q)=sDKc i d (G ρ):=Eq.trans rfl rfl
@[simp] theorem sDKc_s (i:Nat) (d x:D) (ρ:En):sDKc i d (some (x,ρ))=sDKd i d ρ (kS x):=Eq.trans rfl rfl
@[simp] theorem sDKd_s (i:Nat) (d:D) (ρ:En) (k:Str):sDKd i d ρ (some k)=sDKe i d ρ k (owD ρ[i]?):=Eq.trans rfl rfl
@[simp] theorem sDKe_s (i:Nat) (d:D) (ρ:En) (k:Str) (b:Bool) (kds:List (Str×D)):sDKe i d ρ k (some (b,kds))=if kds.length<100 then some (.nx (ρ.set i (.ow b (.dic (putD k d kds))))) else none:=Eq.trans rfl rfl
noncomputable def nOw:Option Sl->Option MO
 |some (.ow false o)=>some o
 |_=>none
@[simp] theorem nOw_s (o:MO):nOw (some (.ow false o))=some o:=Eq.trans rfl rfl
noncomputable def nRetO (i:Nat) (ρ:En):Option MO:=nOw ρ[i]?
@[simp] theorem nRetO_ (i:Nat) (ρ:En):nRetO i ρ=nOw ρ[i]?:=Eq.trans rfl rfl
noncomputable def sXa (o:Option (D×En)):Option Res:=bnd o fun p=>some (.nx p.2)
noncomputable def sX (F:FE) (ρ:En):Option Res:=sXa (F ρ)
@[simp] theorem sX_ (F:FE) (ρ:En):sX F ρ=sXa (F ρ):=Eq.trans rfl rfl
@[simp] theorem sXa_s (d:D) (ρ:En):sXa (some (d,ρ))=some (.nx ρ):=Eq.trans rfl rfl
mutual
noncomputable def nd:D->Bool
 |.opq _ _=>false
 |.tup xs=>nds xs
 |.lst xs=>nds xs
 |_=>true
noncomputable def nds:List D->Bool
 |[]=>true
 |d::r=>nd d&&nds r
end
noncomputable def ndS:Sl->Bool
 |.ow _ (.lst ds)=>nds ds
 |.ow _ (.dic kds)=>nds (kds.map (·.2))
 |_=>true
noncomputable def eHoldB (ρ ρh:En) (o:Option (D×En)):Option (D×En):=bnd o fun p=>@ite _ (nd p.1=true/\p.2=ρh) (Classical.propDecidable _) (some (p.1,ρ)) none
noncomputable def eNFc (ρ:En) (o:Option D):Option (D×En):=bnd o fun d=>some (d,ρ)
@[simp] theorem eNFc_s (ρ:En) (d:D):eNFc ρ (some d)=some (d,ρ):=Eq.trans rfl rfl
noncomputable def dcX:D->Option (List (Str×D))
 |_=>none
noncomputable def sDCb (i:Nat) (ρ:En) (o:Option (List (Str×D))):Option Res:=bnd o fun kds=>some (.nx (ρ.set i (.ow false (.dic kds))))
noncomputable def sDCa (i:Nat) (o:Option (D×En)):Option Res:=bnd o fun p=>sDCb i p.2 (dcX p.1)
noncomputable def sDC (i:Nat) (F:FE) (ρ:En):Option Res:=sDCa i (F ρ)
@[simp] theorem sDC_ (i:Nat) (F:FE) (ρ:En):sDC i F ρ=sDCa i (F ρ):=Eq.trans rfl rfl
@[simp] theorem sDCa_s (i:Nat) (d:D) (ρ:En):sDCa i (some (d,ρ))=sDCb i ρ (dcX d):=Eq.trans rfl rfl
@[simp] theorem sDCb_s (i:Nat) (ρ:En) (kds:List (Str×D)):sDCb i ρ (some kds)=some (.nx (ρ.set i (.ow false (.dic kds)))):=Eq.trans rfl rfl
noncomputable def dDx:D->D->Option D
 |_,_=>none
noncomputable def flat:D->Bool
 |.non=>true
 |.int _=>true
 |_=>false
noncomputable def hitD (d:D):Option D->Bool
 |some e=>eqD d e
 |none=>false
noncomputable def sameD (a b:List (Str×D)):Bool:=a.length==b.length&&a.all fun p=>hitD p.2 (getK p.1 b)
noncomputable def dDq:D->D->Option D
 |_,_=>none
noncomputable def dDn:D->D->Option D
 |_,_=>none
end Fx
namespace Fx
open PySem
noncomputable def tHoldB (ρ ρh:En) (o:Option (Bool×En)):Option (Bool×En):=bnd o fun p=>@ite _ (p.2=ρh) (Classical.propDecidable _) (some (p.1,ρ)) none
end Fx
namespace Fx
open PySem
noncomputable def dMulS:D->D->Option D
 |.str x,.int n=>if 1<=n/\n<=1000/\x.length<=1000 then some (.str (Txt.mul x n)) else none
 |_,_=>none
@[simp] theorem dMulS_s (x:Str) (n:Int):dMulS (.str x) (.int n)=if 1<=n/\n<=1000/\x.length<=1000 then some (.str (Txt.mul x n)) else none:=Eq.trans rfl rfl
end Fx
set_option maxRecDepth 100000
namespace Fx
open PySem PySem.Spec PyProof.Rows L2
section
variable {K:PySem.W.Frag}{H:Hp}
end
section
variable {X:Cx}{pos:Pos}{e:Expr}{F G:FE}{A:FA}
end
end Fx
namespace Fx
open PySem
end Fx
namespace Fx
open PySem
noncomputable def dctX:D->Option (List Str×List D)
 |_=>none
noncomputable def dDix (d k:D):Option D:=bnd (dctX d) fun q=>bnd (strX k) fun s=>getK s (q.1.zip q.2)
noncomputable def dDin (k d:D):Option D:=bnd (dctX d) fun q=>bnd (strX k) fun s=>some (.bl (getK s (q.1.zip q.2)).isSome)
noncomputable def dDnin (k d:D):Option D:=bnd (dctX d) fun q=>bnd (strX k) fun s=>some (.bl (!(getK s (q.1.zip q.2)).isSome))
noncomputable def eDGt (E Kf Df:FE) (ρ:En):Option (D×En):=bnd (E ρ) fun p=>bnd (dctX p.1) fun q=>bnd (Kf p.2) fun k=>bnd (Df k.2) fun e=>bnd (strX k.1) fun s=>some ((getK s (q.1.zip q.2)).getD e.1,e.2)
noncomputable def eDGtc (q:List Str×List D) (k:D) (o:Option (D×En)):Option (D×En):=bnd o fun e=>bnd (strX k) fun s=>some ((getK s (q.1.zip q.2)).getD e.1,e.2)
noncomputable def eDGtb (q:List Str×List D) (Df:FE) (o:Option (D×En)):Option (D×En):=bnd o fun k=>eDGtc q k.1 (Df k.2)
noncomputable def eDGta (Kf Df:FE) (o:Option (D×En)):Option (D×En):=bnd o fun p=>bnd (dctX p.1) fun q=>eDGtb q Df (Kf p.2)
@[simp] theorem eDGt_ (E Kf Df:FE) (ρ:En):eDGt E Kf Df ρ=eDGta Kf Df (E ρ):=Eq.trans rfl rfl
@[simp] theorem eDGtb_s (q:List Str×List D) (Df:FE) (k:D) (ρ:En):eDGtb q Df (some (k,ρ))=eDGtc q k (Df ρ):=Eq.trans rfl rfl
@[simp] theorem eDGtc_s (ks:List Str) (vs:List D) (k:Str) (e:D) (ρ:En):eDGtc (ks,vs) (.str k) (some (e,ρ))=some ((getK k (ks.zip vs)).getD e,ρ):=Eq.trans rfl rfl
noncomputable def eLCD (js:List Nat) (I:FE) (T:FT) (F:FE) (ρ:En):Option (D×En):=bnd (I ρ) fun p=>bnd (dctX p.1) fun q=>bnd (imAt p.2 js) fun fr=>bnd (cGo T F fr (q.1.map .str)) fun ys=>if q.1.length<=sizeLine then some (.lst ys,p.2) else none
noncomputable def eLCDc (n:Nat) (ρ:En) (o:Option (List D)):Option (D×En):=bnd o fun ys=>if n<=sizeLine then some (.lst ys,ρ) else none
noncomputable def eLCDb (q:List Str) (T:FT) (F:FE) (ρ:En) (o:Option En):Option (D×En):=bnd o fun fr=>eLCDc q.length ρ (cGo T F fr (q.map .str))
noncomputable def eLCDa (js:List Nat) (T:FT) (F:FE) (o:Option (D×En)):Option (D×En):=bnd o fun p=>bnd (dctX p.1) fun q=>eLCDb q.1 T F p.2 (imAt p.2 js)
@[simp] theorem eLCD_ (js:List Nat) (I:FE) (T:FT) (F:FE) (ρ:En):eLCD js I T F ρ=eLCDa js T F (I ρ):=Eq.trans rfl rfl
@[simp] theorem eLCDb_s (q:List Str) (T:FT) (F:FE) (ρ fr:En):eLCDb q T F ρ (some fr)=eLCDc q.length ρ (cGo T F fr (q.map .str)):=Eq.trans rfl rfl
@[simp] theorem eLCDc_s (n:Nat) (ρ:En) (ys:List D):eLCDc n ρ (some ys)=if n<=sizeLine then some (.lst ys,ρ) else none:=Eq.trans rfl rfl
noncomputable def owLs:Option Sl->Option (List D)
 |some (.ow _ (.lst ds))=>some ds
 |_=>none
@[simp] theorem owLs_s (b:Bool) (ds:List D):owLs (some (.ow b (.lst ds)))=some ds:=Eq.trans rfl rfl
noncomputable def eLCO (js:List Nat) (i:Nat) (T:FT) (F:FE) (ρ:En):Option (D×En):=bnd (owLs ρ[i]?) fun ds=>bnd (imAt ρ js) fun fr=>bnd (cGo T F fr ds) fun ys=>if ds.length<=sizeLine then some (.lst ys,ρ) else none
noncomputable def eLCOb (ds:List D) (T:FT) (F:FE) (ρ:En) (o:Option En):Option (D×En):=bnd o fun fr=>eLCDc ds.length ρ (cGo T F fr ds)
noncomputable def eLCOa (js:List Nat) (T:FT) (F:FE) (ρ:En) (o:Option (List D)):Option (D×En):=bnd o fun ds=>eLCOb ds T F ρ (imAt ρ js)
@[simp] theorem eLCO_ (js:List Nat) (i:Nat) (T:FT) (F:FE) (ρ:En):eLCO js i T F ρ=eLCOa js T F ρ (owLs ρ[i]?):=Eq.trans rfl rfl
@[simp] theorem eLCOa_s (js:List Nat) (T:FT) (F:FE) (ρ:En) (ds:List D):eLCOa js T F ρ (some ds)=eLCOb ds T F ρ (imAt ρ js):=Eq.trans rfl rfl
@[simp] theorem eLCOb_s (ds:List D) (T:FT) (F:FE) (ρ fr:En):eLCOb ds T F ρ (some fr)=eLCDc ds.length ρ (cGo T F fr ds):=Eq.trans rfl rfl
noncomputable def eInO (neg:Bool) (F:FE) (i:Nat) (ρ:En):Option (D×En):=bnd (F ρ) fun p=>bnd (owLs p.2[i]?) fun ds=>if okIn p.1 ds=true then some (.bl (if neg then !inD p.1 ds else inD p.1 ds),p.2) else none
noncomputable def eInOb (neg:Bool) (x:D) (ρ:En) (o:Option (List D)):Option (D×En):=bnd o fun ds=>if okIn x ds=true then some (.bl (if neg then !inD x ds else inD x ds),ρ) else none
noncomputable def eInOa (neg:Bool) (i:Nat) (o:Option (D×En)):Option (D×En):=bnd o fun p=>eInOb neg p.1 p.2 (owLs p.2[i]?)
@[simp] theorem eInO_ (neg:Bool) (F:FE) (i:Nat) (ρ:En):eInO neg F i ρ=eInOa neg i (F ρ):=Eq.trans rfl rfl
@[simp] theorem eInOa_s (neg:Bool) (i:Nat) (x:D) (ρ:En):eInOa neg i (some (x,ρ))=eInOb neg x ρ (owLs ρ[i]?):=Eq.trans rfl rfl
@[simp] theorem eInOb_s (neg:Bool) (x:D) (ρ:En) (ds:List D):eInOb neg x ρ (some ds)=if okIn x ds=true then some (.bl (if neg then !inD x ds else inD x ds),ρ) else none:=Eq.trans rfl rfl
noncomputable def eOrV (F G:FE) (ρ:En):Option (D×En):=bnd (F ρ) fun p=>bnd (dTru p.1) fun b=>if b=true then some p else G p.2
noncomputable def eOrVb (x:D) (ρ:En) (G:FE) (o:Option Bool):Option (D×En):=bnd o fun b=>if b=true then some (x,ρ) else G ρ
noncomputable def eOrVa (G:FE) (o:Option (D×En)):Option (D×En):=bnd o fun p=>eOrVb p.1 p.2 G (dTru p.1)
@[simp] theorem eOrV_ (F G:FE) (ρ:En):eOrV F G ρ=eOrVa G (F ρ):=Eq.trans rfl rfl
@[simp] theorem eOrVa_s (G:FE) (x:D) (ρ:En):eOrVa G (some (x,ρ))=eOrVb x ρ G (dTru x):=Eq.trans rfl rfl
@[simp] theorem eOrVb_s (x:D) (ρ:En) (G:FE) (b:Bool):eOrVb x ρ G (some b)=if b=true then some (x,ρ) else G ρ:=Eq.trans rfl rfl
end Fx
set_option maxRecDepth 100000
namespace Fx
open PySem
noncomputable abbrev Ky:=List (List Int)
mutual
noncomputable def fK:D->Ky
 |.int i=>[[i]]
 |.str s=>[s.cps.toList.map Int.ofNat]
 |.tup xs=>fKs xs
 |_=>[]
noncomputable def fKs:List D->Ky
 |[]=>[]
 |d::r=>fK d++fKs r
end
noncomputable def ltK (a b:D):Bool:=decide (fK a<fK b)
noncomputable def insT (x:D):List D->List D
 |[]=>[x]
 |y::r=>if ltK y x=true then y::insT x r else x::y::r
noncomputable def sortT:List D->List D
 |[]=>[]
 |x::r=>insT x (sortT r)
theorem mem_insT {x y:D}:∀ {l:List D},y∈insT x l↔y=x\/y∈l
 |[]=>by simp[insT]
 |z::r=>by
  unfold insT
  split
  ·rw[List.mem_cons,mem_insT,List.mem_cons]
   exact⟨fun h=>by rcases h with h | h | h;exact .inr (.inl h);exact .inl h;exact .inr (.inr h),fun h=>by rcases h with h | h | h;exact .inr (.inl h);exact .inl h;exact .inr (.inr h)⟩
  ·rw[List.mem_cons]
theorem insT_perm {x:D}:∀ {l:List D},(insT x l).Perm (x::l)
 |[]=>List.Perm.refl _
 |y::r=>by
  unfold insT
  split
  ·exact ((insT_perm (l:=r)).cons y).trans (List.Perm.swap x y r)
  ·exact List.Perm.refl _
theorem sortT_perm:∀ l:List D,(sortT l).Perm l
 |[]=>List.Perm.refl _
 |x::r=>by unfold sortT;exact insT_perm.trans ((sortT_perm r).cons x)
theorem ltK_trans {a b c:Ky} (h1:¬ b<a) (h2:¬ c<b):¬ c<a:=List.not_lt.mpr (List.le_trans (List.not_lt.mp h1) (List.not_lt.mp h2))
theorem insT_pw {x:D}:∀ {l:List D},(l.Pairwise fun a b=>ltK b a=false)->(insT x l).Pairwise fun a b=>ltK b a=false
 |[],_=>List.pairwise_singleton _ _
 |y::r,h=>by
  unfold insT;obtain⟨h1,h2⟩:=List.pairwise_cons.mp h
  by_cases q:ltK y x=true
  ·rw[if_pos q]
   refine List.pairwise_cons.mpr ⟨fun z hz=>?_,insT_pw h2⟩
   rcases mem_insT.mp hz with rfl | hz
   ·unfold ltK at q ⊢
    rw[decide_eq_true_eq] at q;rw[decide_eq_false_iff_not];exact List.not_lt.mpr (List.le_of_lt q)
   ·exact h1 z hz
  ·rw[if_neg q]
   have q:ltK y x=false:=by simpa using q
   refine List.pairwise_cons.mpr ⟨fun z hz=>?_,h⟩
   rcases List.mem_cons.mp hz with rfl | hz
   ·exact q
   ·have a2:=h1 z hz
    unfold ltK at q a2 ⊢;rw[decide_eq_false_iff_not] at q a2 ⊢;exact ltK_trans q a2
theorem sortT_pw:∀ l:List D,(sortT l).Pairwise fun a b=>ltK b a=false
 |[]=>List.Pairwise.nil
 |x::r=>by unfold sortT;exact insT_pw (sortT_pw r)
theorem sortT_uniq {l t:List D} (inj:∀ a b,a∈l->b∈l->fK a=fK b->a=b) (hp:t.Perm l) (hs:t.Pairwise fun a b=>ltK b a=false):t=sortT l:=by
 refine List.Perm.eq_of_pairwise (le:=fun a b=>ltK b a=false) (fun a b ha hb p q=>?_) hs (sortT_pw l) (hp.trans (sortT_perm l).symm)
 unfold ltK at p q;rw[decide_eq_false_iff_not] at p q;exact inj a b (hp.mem_iff.mp ha) ((sortT_perm l).mem_iff.mp hb) (List.le_antisymm (List.not_lt.mp p) (List.not_lt.mp q))
theorem count_lt {p q:Nat->Bool}:∀ {l:List Nat},(∀ x,p x=true->q x=true)->(∃ x∈l,q x=true/\p x=false)->l.countP p<l.countP q
 |[],_,h=>by obtain⟨x,h,_⟩:=h;cases h
 |y::r,hi,h=>by
  have le:r.countP p<=r.countP q:=List.countP_mono_left fun x _=>hi x
  obtain⟨x,hx,h1,h2⟩:=h
  rcases List.mem_cons.mp hx with rfl | hx
  ·rw[List.countP_cons_of_neg (by rw[h2];exact Bool.false_ne_true),List.countP_cons_of_pos h1];omega
  ·have ih:=count_lt hi ⟨x,hx,h1,h2⟩
   cases hp:p y with
   |true=>rw[List.countP_cons_of_pos hp,List.countP_cons_of_pos (hi y hp)];omega
   |false =>
    rw[List.countP_cons_of_neg (by rw[hp];exact Bool.false_ne_true)]
    exact Nat.lt_of_lt_of_le ih (by rw[List.countP_cons];omega)
noncomputable def rankK (n:Nat) (key:Nat->Ky) (i:Nat):Nat:=(List.range n).countP fun k=>decide (key k<key i)
theorem rank_iff {n:Nat}{key:Nat->Ky}{i j:Nat} (hi:i<n):rankK n key i<rankK n key j↔key i<key j:=by
 constructor
 ·intro h
  by_cases c:key i<key j
  ·exact c
  ·have le:rankK n key j<=rankK n key i:=List.countP_mono_left fun x _ hx=>by
    rw[decide_eq_true_eq] at hx ⊢;refine Decidable.byContradiction fun z=>c (List.lt_of_le_of_lt (List.not_lt.mp z) hx)
   omega
 ·intro c
  refine count_lt (fun x hx=>?_) ⟨i,List.mem_range.mpr hi,decide_eq_true c,decide_eq_false (List.lt_irrefl _)⟩
  rw[decide_eq_true_eq] at hx ⊢;exact List.lt_trans hx c
end Fx
namespace Fx
open PySem
noncomputable def r3:D->Bool
 |.tup [.int _,.str _,.int _]=>true
 |_=>false
noncomputable def r22:D->Bool
 |.tup [.tup [.str _,.int _],.tup [.int _,.int _]]=>true
 |_=>false
noncomputable def bSortT:List D->Option D
 |[.lst xs]=>if xs.length<64/\(xs.all r3=true\/xs.all r22=true) then some (.lst (sortT xs)) else none
 |_=>none
@[simp] theorem bSortT_l (xs:List D):bSortT [.lst xs]=if xs.length<64/\(xs.all r3=true\/xs.all r22=true) then some (.lst (sortT xs)) else none:=Eq.trans rfl rfl
end Fx
namespace Fx
open PySem
noncomputable def bSum:List D->Option D
 |[.lst xs]=>bnd (intsOf xs) fun is=>some (.int is.sum)
 |_=>none
theorem bSum_l (xs:List D):bSum [.lst xs]=bnd (intsOf xs) fun is=>some (.int is.sum):=rfl
noncomputable def dRev:D->Option D
 |.lst xs=>some (.lst xs.reverse)
 |_=>none
@[simp] theorem dRev_l (xs:List D):dRev (.lst xs)=some (.lst xs.reverse):=Eq.trans rfl rfl
noncomputable def two:D->Option (D×D)
 |.tup [a,b]=>some (a,b)
 |_=>none
noncomputable def cGo2 (T:FT) (F:FE) (fr:En):List D->Option (List D)
 |[]=>some []
 |d::r=>bnd (two d) fun q=>bnd (T (.im q.1::.im q.2::fr)) fun p=>if p.1=true then bnd (F p.2) fun z=>bnd (cGo2 T F fr r) fun t=>some (z.1::t) else cGo2 T F fr r
theorem cGo2_nil (T:FT) (F:FE) (fr:En):cGo2 T F fr []=some []:=rfl
theorem cGo2_cons (T:FT) (F:FE) (fr:En) (d:D) (r:List D):cGo2 T F fr (d::r)=bnd (two d) fun q=>bnd (T (.im q.1::.im q.2::fr)) fun p=>if p.1=true then bnd (F p.2) fun z=>bnd (cGo2 T F fr r) fun t=>some (z.1::t) else cGo2 T F fr r:=rfl
noncomputable def keyT:D->Option Str
 |.tup [.int _,.str k,.int _]=>some k
 |_=>none
noncomputable def lastAt (k:Str):List (List D)->Option Nat
 |[]=>none
 |x::r=>match lastAt k r with
  |some i=>some (i+1)
  |none=>if (x.head?.bind keyT)=some k then some 0 else none
end Fx
namespace Fx
open PySem
noncomputable def dKx (kds:List (Str×D)):D->Option D
 |.str k=>getK k kds
 |_=>none
@[simp] theorem dKx_s (kds:List (Str×D)) (k:Str):dKx kds (.str k)=getK k kds:=Eq.trans rfl rfl
noncomputable def eDGkd (ρ:En) (k:Str) (o:Option (Bool×List (Str×D))):Option (D×En):=bnd o fun q=>mkP (getK k q.2) ρ
noncomputable def eDGkc (i:Nat) (ρ:En) (o:Option Str):Option (D×En):=bnd o fun k=>eDGkd ρ k (owD ρ[i]?)
noncomputable def eDGkb (i:Nat) (o:Option (D×En)):Option (D×En):=bnd o fun p=>eDGkc i p.2 (kS p.1)
noncomputable def eDGka (i:Nat) (G:FE) (ρ:En) (o:Option (Bool×List (Str×D))):Option (D×En):=bnd o fun _=>eDGkb i (G ρ)
noncomputable def eDGk (i:Nat) (G:FE) (ρ:En):Option (D×En):=eDGka i G ρ (owD ρ[i]?)
@[simp] theorem eDGk_ (i:Nat) (G:FE) (ρ:En):eDGk i G ρ=eDGka i G ρ (owD ρ[i]?):=Eq.trans rfl rfl
@[simp] theorem eDGka_s (i:Nat) (G:FE) (ρ:En) (q:Bool×List (Str×D)):eDGka i G ρ (some q)=eDGkb i (G ρ):=Eq.trans rfl rfl
@[simp] theorem eDGkb_s (i:Nat) (d:D) (ρ:En):eDGkb i (some (d,ρ))=eDGkc i ρ (kS d):=Eq.trans rfl rfl
@[simp] theorem eDGkc_s (i:Nat) (ρ:En) (k:Str):eDGkc i ρ (some k)=eDGkd ρ k (owD ρ[i]?):=Eq.trans rfl rfl
@[simp] theorem eDGkd_s (ρ:En) (k:Str) (b:Bool) (kds:List (Str×D)):eDGkd ρ k (some (b,kds))=mkP (getK k kds) ρ:=Eq.trans rfl rfl
noncomputable def eDGde (ρ:En) (k:Str) (d:D) (o:Option (Bool×List (Str×D))):Option (D×En):=bnd o fun q=>some ((getK k q.2).getD d,ρ)
noncomputable def eDGdd (i:Nat) (k:Str) (o:Option (D×En)):Option (D×En):=bnd o fun p=>eDGde p.2 k p.1 (owD p.2[i]?)
noncomputable def eDGdc (i:Nat) (F:FE) (ρ:En) (o:Option Str):Option (D×En):=bnd o fun k=>eDGdd i k (F ρ)
noncomputable def eDGdb (i:Nat) (F:FE) (o:Option (D×En)):Option (D×En):=bnd o fun p=>eDGdc i F p.2 (kS p.1)
noncomputable def eDGda (i:Nat) (G F:FE) (ρ:En) (o:Option (Bool×List (Str×D))):Option (D×En):=bnd o fun _=>eDGdb i F (G ρ)
noncomputable def eDGd (i:Nat) (G F:FE) (ρ:En):Option (D×En):=eDGda i G F ρ (owD ρ[i]?)
@[simp] theorem eDGd_ (i:Nat) (G F:FE) (ρ:En):eDGd i G F ρ=eDGda i G F ρ (owD ρ[i]?):=Eq.trans rfl rfl
@[simp] theorem eDGda_s (i:Nat) (G F:FE) (ρ:En) (q:Bool×List (Str×D)):eDGda i G F ρ (some q)=eDGdb i F (G ρ):=Eq.trans rfl rfl
@[simp] theorem eDGdb_s (i:Nat) (F:FE) (d:D) (ρ:En):eDGdb i F (some (d,ρ))=eDGdc i F ρ (kS d):=Eq.trans rfl rfl
@[simp] theorem eDGdc_s (i:Nat) (F:FE) (ρ:En) (k:Str):eDGdc i F ρ (some k)=eDGdd i k (F ρ):=Eq.trans rfl rfl
@[simp] theorem eDGdd_s (i:Nat) (k:Str) (d:D) (ρ:En):eDGdd i k (some (d,ρ))=eDGde ρ k d (owD ρ[i]?):=Eq.trans rfl rfl
@[simp] theorem eDGde_s (ρ:En) (k:Str) (d:D) (b:Bool) (kds:List (Str×D)):eDGde ρ k d (some (b,kds))=some ((getK k kds).getD d,ρ):=Eq.trans rfl rfl
noncomputable def sDDa (i:Nat) (ks:List Str) (o:Option (List D×En)):Option Res:=bnd o fun p=>if p.1.length=ks.length/\ks.length<=15/\ks.Nodup then some (.nx (p.2.set i (.ow false (.dic (ks.zip p.1))))) else none
noncomputable def sDD (i:Nat) (ks:List Str) (A:FA) (ρ:En):Option Res:=sDDa i ks (A ρ)
@[simp] theorem sDD_ (i:Nat) (ks:List Str) (A:FA) (ρ:En):sDD i ks A ρ=sDDa i ks (A ρ):=Eq.trans rfl rfl
@[simp] theorem sDDa_s (i:Nat) (ks:List Str) (ds:List D) (ρ:En):sDDa i ks (some (ds,ρ))=if ds.length=ks.length/\ks.length<=15/\ks.Nodup then some (.nx (ρ.set i (.ow false (.dic (ks.zip ds))))) else none:=Eq.trans rfl rfl
noncomputable def addG (k:Str) (d:D):List (Str×List D)->List (Str×List D)
 |[]=>[(k,[d])]
 |q::r=>if q.1=k then (q.1,q.2++[d])::r else q::addG k d r
noncomputable def grpGo:List D->List (Str×List D)->Option (List (Str×List D))
 |[],g=>some g
 |d::r,g=>bnd (keyT d) fun k=>grpGo r (addG k d g)
noncomputable def grpD (g:List (Str×List D)):List (Str×D):=g.map fun q=>(q.1,.lst q.2)
noncomputable def lastIm (j:Nat) (xs:List D) (ρ:En):En:=match xs.getLast? with
 |some d=>ρ.set j (.im d)
 |none=>ρ
noncomputable def sGrpC (j i:Nat) (xs:List D) (ρ:En) (o:Option (List (Str×List D))):Option Res:=bnd o fun g=>some (.nx (lastIm j xs (ρ.set i (.ow false (.dic (grpD g))))))
noncomputable def sGrpB (j i:Nat) (xs:List D) (ρ:En) (o:Option (Bool×List (Str×D))):Option Res:=bnd o fun q=>if q.1=false/\q.2=[]/\xs.length<=1000/\j≠i/\j<ρ.length then sGrpC j i xs ρ (grpGo xs []) else none
noncomputable def sGrpA (j i:Nat) (o:Option (D×En)):Option Res:=bnd o fun p=>match p.1 with
 |.lst xs=>sGrpB j i xs p.2 (owD p.2[i]?)
 |_=>none
noncomputable def sGrp (j i:Nat) (F:FE) (ρ:En):Option Res:=sGrpA j i (F ρ)
@[simp] theorem sGrp_ (j i:Nat) (F:FE) (ρ:En):sGrp j i F ρ=sGrpA j i (F ρ):=Eq.trans rfl rfl
@[simp] theorem sGrpA_s (j i:Nat) (xs:List D) (ρ:En):sGrpA j i (some (.lst xs,ρ))=sGrpB j i xs ρ (owD ρ[i]?):=Eq.trans rfl rfl
@[simp] theorem sGrpB_s (j i:Nat) (xs:List D) (ρ:En) (b:Bool) (kds:List (Str×D)):sGrpB j i xs ρ (some (b,kds))=if b=false/\kds=[]/\xs.length<=1000/\j≠i/\j<ρ.length then sGrpC j i xs ρ (grpGo xs []) else none:=Eq.trans rfl rfl
@[simp] theorem sGrpC_s (j i:Nat) (xs:List D) (ρ:En) (g:List (Str×List D)):sGrpC j i xs ρ (some g)=some (.nx (lastIm j xs (ρ.set i (.ow false (.dic (grpD g)))))):=Eq.trans rfl rfl
noncomputable def owL1:Option Sl->Option (List D)
 |some (.ow false (.lst ds))=>some ds
 |_=>none
@[simp] theorem owL1_s (ds:List D):owL1 (some (.ow false (.lst ds)))=some ds:=Eq.trans rfl rfl
noncomputable def oneOw (i:Nat) (ρ:En):Bool:=(ρ.set i .no).all noOw
noncomputable def tHoldLB (ρ ρh:En) (o:Option (Bool×En)):Option (Bool×En):=bnd o fun p=>@ite _ (p.2=ρh) (Classical.propDecidable _) (some (p.1,ρ)) none
noncomputable def tHoldLA (i:Nat) (T:FT) (ρ:En) (o:Option (List D)):Option (Bool×En):=bnd o fun ds=>if oneOw i ρ=true then tHoldLB ρ (ρ.set i (.im (.lst ds))) (T (ρ.set i (.im (.lst ds)))) else none
noncomputable def tHoldL (i:Nat) (T:FT) (ρ:En):Option (Bool×En):=tHoldLA i T ρ (owL1 ρ[i]?)
@[simp] theorem tHoldL_ (i:Nat) (T:FT) (ρ:En):tHoldL i T ρ=tHoldLA i T ρ (owL1 ρ[i]?):=Eq.trans rfl rfl
@[simp] theorem tHoldLA_s (i:Nat) (T:FT) (ρ:En) (ds:List D):tHoldLA i T ρ (some ds)=if oneOw i ρ=true then tHoldLB ρ (ρ.set i (.im (.lst ds))) (T (ρ.set i (.im (.lst ds)))) else none:=Eq.trans rfl rfl
theorem tHoldLB_s (ρ ρh:En) (b:Bool):tHoldLB ρ ρh (some (b,ρh))=some (b,ρ):=by
 unfold tHoldLB bnd;exact if_pos rfl
noncomputable def asL:MO->Option D
 |.lst ds=>some (.lst ds)
 |_=>none
@[simp] theorem asL_s (ds:List D):asL (.lst ds)=some (.lst ds):=Eq.trans rfl rfl
noncomputable def eNLb (ρ:En) (o:Option MO):Option (D×En):=bnd o fun m=>mkP (asL m) ρ
noncomputable def eNLa (g:List D->Option MO) (o:Option (List D×En)):Option (D×En):=bnd o fun p=>eNLb p.2 (g p.1)
noncomputable def eNL (g:List D->Option MO) (A:FA) (ρ:En):Option (D×En):=eNLa g (A ρ)
@[simp] theorem eNL_ (g:List D->Option MO) (A:FA) (ρ:En):eNL g A ρ=eNLa g (A ρ):=Eq.trans rfl rfl
@[simp] theorem eNLa_s (g:List D->Option MO) (ds:List D) (ρ:En):eNLa g (some (ds,ρ))=eNLb ρ (g ds):=Eq.trans rfl rfl
@[simp] theorem eNLb_s (ρ:En) (m:MO):eNLb ρ (some m)=mkP (asL m) ρ:=Eq.trans rfl rfl
noncomputable def bSortU:List D->Option D
 |[.lst xs]=>if xs.length<=1000/\(xs.all r3=true\/xs.all r22=true) then some (.lst (sortT xs)) else none
 |_=>none
@[simp] theorem bSortU_l (xs:List D):bSortU [.lst xs]=if xs.length<=1000/\(xs.all r3=true\/xs.all r22=true) then some (.lst (sortT xs)) else none:=Eq.trans rfl rfl
noncomputable def nSoB (o:Option D):Option MO:=bnd o fun d=>match d with
 |.lst ds=>some (.lst ds)
 |_=>none
noncomputable def nSoA (o:Option (D×En)):Option MO:=bnd o fun p=>nSoB (bSortU [p.1])
noncomputable def nSo (F:FE) (ρ:En):Option MO:=nSoA (F ρ)
@[simp] theorem nSo_ (F:FE) (ρ:En):nSo F ρ=nSoA (F ρ):=Eq.trans rfl rfl
@[simp] theorem nSoA_s (d:D) (ρ:En):nSoA (some (d,ρ))=nSoB (bSortU [d]):=Eq.trans rfl rfl
@[simp] theorem nSoB_s (ds:List D):nSoB (some (.lst ds))=some (.lst ds):=Eq.trans rfl rfl
noncomputable def nFrz (i:Nat) (F:En->Option MO) (ρ:En):Option MO:=F (frz i ρ)
@[simp] theorem nFrz_ (i:Nat) (F:En->Option MO) (ρ:En):nFrz i F ρ=F (frz i ρ):=Eq.trans rfl rfl
end Fx
set_option maxRecDepth 100000
namespace Fx
open PySem PySem.Spec PyProof.Rows L2
section
variable {K:PySem.W.Frag}{c:FC}{H0 H H':Hp}{ρ:En}{σ:L2.St}{l:Addr}{o:HO}
end
inductive KEnt (w:World) (K:PySem.W.Frag):List DictEntry->List (Str×D)->Prop
 |nil:KEnt w K [] []
 |cons {k:Str}{d:D}{t:Tok}{v:Value}{es:List DictEntry}{kds:List (Str×D)}:KV1 K d v->KEnt w K es kds->KEnt w K (⟨hashStr w k,.str k t,v⟩::es) ((k,d)::kds)
theorem KEnt.all {w:World}{K:PySem.W.Frag}:∀ {es:List DictEntry}{kds:List (Str×D)},KEnt w K es kds->∃ vs:List (Key×Value),vs.map (·.1)=kds.map (fun q=>Sum.inr q.1) /\
  (∀ (P:Program),PySem.Pairs (mixKind P w) es vs)/\(∀ (P:Program),∀ e∈es,∃ k,(mixKind P w).is k e.key=true/\e.hash=(mixKind P w).hash k) /\
  ∀ k d,getK k kds=some d->∃ u,valueAt vs (.inr k)=some u/\KV1 K d u
 |_,_,.nil=>⟨[],rfl,fun _=>.nil,fun _ e h=>(by cases h),fun k d h=>(by cases h)⟩
 |_,_,.cons (k:=k) (d:=d) (t:=t) (v:=v) (es:=es) (kds:=kds) h r=>by
  obtain⟨vs,e1,e2,e3,e4⟩:=r.all;refine⟨(.inr k,v)::vs,by rw[List.map_cons,List.map_cons,e1],fun P=>.cons (mixKind_str P w k t) rfl (e2 P),fun P e he=>?_,fun k' d' hk=>?_⟩
  ·rcases List.mem_cons.mp he with rfl | he
   ·exact⟨.inr k,mixKind_str P w k t,rfl⟩
   ·exact e3 P e he
  ·unfold getK at hk
   unfold valueAt;rw[List.find?_cons]
   by_cases z:k=k'
   ·subst z
    rw[if_pos rfl] at hk;cases hk;exact⟨v,by simp,h⟩
   ·rw[if_neg z] at hk
    obtain⟨u,e5,e6⟩:=e4 k' d' hk;refine⟨u,?_,e6⟩;rw[decide_eq_false (fun y=>z (Sum.inr.inj y))]
    exact e5
section
variable {X:Cx}{pos:Pos}{e k:Expr}{F G:FE}{A:FA}
end
end Fx
set_option maxRecDepth 100000
namespace Fx
open PySem PySem.Spec PyProof.Rows L2
section
variable {X:Cx}{pos:Pos}{e k:Expr}{F G:FE}{A:FA}
end
end Fx
set_option maxRecDepth 100000
namespace Fx
open PySem PySem.Spec PyProof.Rows L2
noncomputable def sameF:D->D->Bool
 |.int _,.int _=>true
 |.str _,.str _=>true
 |_,_=>false
noncomputable def sameFs:List D->List D->Bool
 |[],[]=>true
 |d::r,e::t=>sameF d e&&sameFs r t
 |_,_=>false
noncomputable def ltF:D->D->Bool
 |.int i,.int j=>decide (i<j)
 |.str a,.str b=>decide (a.cps.toList<b.cps.toList)
 |_,_=>false
noncomputable def lexF:List D->List D->Bool
 |d::r,e::t=>if eqD d e=true then lexF r t else ltF d e
 |_,_=>false
theorem map_lt:∀ (l m:List Nat),(l.map Int.ofNat<m.map Int.ofNat)↔l<m
 |[],[]=>by simp
 |[],_::_=>by simp
 |_::_,[]=>by simp
 |a::l,b::m=>by
  rw[List.map_cons,List.map_cons,List.cons_lt_cons_iff,List.cons_lt_cons_iff,map_lt l m];have h1:(Int.ofNat a<Int.ofNat b)↔a<b:=Int.ofNat_lt;have h2:(Int.ofNat a=Int.ofNat b)↔a=b:=Int.ofNat_inj;rw[h1,h2]
theorem one_lt (a b:List Int):([a]:Ky)<[b]↔a<b:=by
 rw[List.cons_lt_cons_iff];exact⟨fun h=>h.elim id fun z=>absurd z.2 (List.lt_irrefl _),.inl⟩
theorem sameF_eq {d e:D} (h:sameF d e=true):(eqD d e=true↔d=e)/\(fK d=fK e↔d=e)/\(ltF d e=true↔fK d<fK e)/\(∃ k,fK d=[k])/\∃ k,fK e=[k]:=by
 cases d with
 |int i =>
  cases e with
  |int j =>
   have e1:fK (.int i)=[[i]]:=by unfold fK;rfl
   have e2:fK (.int j)=[[j]]:=by unfold fK;rfl
   rw[e1,e2];refine⟨by simp,by simp,?_,⟨_,rfl⟩,_,rfl⟩
   rw[one_lt,List.cons_lt_cons_iff];show decide (i<j)=true↔_;rw[decide_eq_true_eq];exact⟨.inl,fun z=>z.elim id fun y=>absurd y.2 (List.lt_irrefl _)⟩
  |_=>cases h
 |str a =>
  cases e with
  |str b =>
   have e1:fK (.str a)=[a.cps.toList.map Int.ofNat]:=by unfold fK;rfl
   have e2:fK (.str b)=[b.cps.toList.map Int.ofNat]:=by unfold fK;rfl
   rw[e1,e2];refine⟨by simp,?_,?_,⟨_,rfl⟩,_,rfl⟩
   ·constructor
    ·intro z
     have z1:a.cps.toList.map Int.ofNat=b.cps.toList.map Int.ofNat:=(List.cons.inj z).1;have z2:a.cps.toList=b.cps.toList:=List.map_inj_right (fun x y q=>Int.ofNat.inj q) |>.mp z1
     obtain⟨⟨la⟩⟩:=a;obtain⟨⟨lb⟩⟩:=b;cases z2;rfl
    ·intro z;cases z;rfl
   ·rw[one_lt,map_lt]
    show decide (a.cps.toList<b.cps.toList)=true↔_;rw[decide_eq_true_eq]
  |_=>cases h
 |_=>cases h
theorem fKs_cons (d:D) (r:List D):fKs (d::r)=fK d++fKs r:=by rw[fKs]
theorem sameFs_len:∀ {ds es:List D},sameFs ds es=true->ds.length=es.length/\(fKs ds).length=(fKs es).length
 |[],[],_=>⟨rfl,rfl⟩
 |[],_::_,h=>by cases h
 |_::_,[],h=>by cases h
 |d::r,e::t,h=>by
  unfold sameFs at h;rw[Bool.and_eq_true] at h;obtain⟨_,_,_,⟨k,e1⟩,k',e2⟩:=sameF_eq h.1;obtain⟨h1,h2⟩:=sameFs_len h.2;exact⟨by simp[h1],by rw[fKs_cons,fKs_cons,e1,e2];simp[h2]⟩
theorem sameFs_inj:∀ {ds es:List D},sameFs ds es=true->(fKs ds=fKs es↔ds=es)
 |[],[],_=>by simp
 |[],_::_,h=>by cases h
 |_::_,[],h=>by cases h
 |d::r,e::t,h=>by
  unfold sameFs at h;rw[Bool.and_eq_true] at h;obtain⟨_,q,_,⟨k,e1⟩,k',e2⟩:=sameF_eq h.1;have ih:=sameFs_inj h.2;rw[fKs_cons,fKs_cons];constructor
  ·intro z
   rw[e1,e2] at z;have z':k::fKs r=k'::fKs t:=z;injection z' with z1 z2
   rw[q.mp (by rw[e1,e2,z1]),ih.mp z2]
  ·intro z;cases z;rfl
theorem lexF_lt:∀ {ds es:List D},sameFs ds es=true->lexF ds es=decide (fKs ds<fKs es)
 |[],[],_=>by
  have:fKs []=[]:=by rw[fKs]
  rw[this];exact (decide_eq_false (List.lt_irrefl _)).symm
 |[],_::_,h=>by cases h
 |_::_,[],h=>by cases h
 |d::r,e::t,h=>by
  unfold sameFs at h;rw[Bool.and_eq_true] at h;obtain⟨q1,q2,q3,⟨k,e1⟩,k',e2⟩:=sameF_eq h.1;have ih:=lexF_lt h.2;unfold lexF;rw[fKs_cons,fKs_cons,e1,e2];show _=decide (k::fKs r<k'::fKs t)
  by_cases z:eqD d e=true
  ·have:k=k':=by
    have:=q1.mp z;subst this;rw[e1] at e2;exact (List.cons.inj e2).1
   subst this;rw[if_pos z,ih];refine decide_eq_decide.mpr ?_;rw[List.cons_lt_cons_iff];exact⟨fun y=>.inr ⟨rfl,y⟩,fun y=>y.elim (fun y=>absurd y (List.lt_irrefl _)) (·.2)⟩
  ·rw[if_neg z]
   have ne:k≠k':=fun y=>z (q1.mpr (q2.mp (by rw[e1,e2,y])))
   have e3:ltF d e=decide (k<k'):=by
    have q4:ltF d e=true↔k<k':=by rw[q3,e1,e2,one_lt]
    cases hh:ltF d e with
    |true=>exact (decide_eq_true (q4.mp hh)).symm
    |false=>exact (decide_eq_false fun y=>by rw[q4.mpr y] at hh;cases hh).symm
   rw[e3];refine decide_eq_decide.mpr ?_;rw[List.cons_lt_cons_iff];exact⟨.inl,fun y=>y.elim id fun y=>absurd y.1 ne⟩
end Fx
set_option maxRecDepth 100000
namespace Fx
open PySem PySem.W PyProof.Rows
noncomputable def WpT {α:Type} (lt:Nat->Nat->Bool) (n:Nat) (P:α->Prop):KasT α->Prop
 |.ret a=>P a
 |.ask i j k=>i<n/\j<n/\WpT lt n P (k (lt i j))
section
variable {n:Nat}{r:Nat->Nat}
noncomputable abbrev ltR (r:Nat->Nat) (i j:Nat):Bool:=decide (r i<r j)
structure OkP (n:Nat) (p:Array Nat):Prop where
 size:p.size=n
 perm:p.toList.Perm (List.range n)
noncomputable def KP (r:Nat->Nat) (p:Array Nat) (k:Nat):Nat:=r (p.getD k 0)
theorem OkP.lt {p:Array Nat} (h:OkP n p) (hn:0<n) (k:Nat):p.getD k 0<n:=by
 by_cases hk:k<p.size
 ·rw[Array.getD_eq_getD_getElem?,getElem?_pos p k hk]
  have:p[k]∈p.toList:=by simp
  exact List.mem_range.mp (h.perm.mem_iff.mp this)
 ·rw[Array.getD_eq_getD_getElem?,getElem?_neg p k hk];exact hn
noncomputable def Mono (r:Nat->Nat) (p:Array Nat) (m:Nat):Prop:=∀ i j,i<=j->j<m->KP r p i<=KP r p j
theorem okP_range:OkP n (List.toArray (List.range n)):=⟨by simp,by simp⟩
end
end Fx
set_option maxRecDepth 100000
namespace Fx
open PySem PySem.Spec PyProof.Rows L2
noncomputable def RelF:D->Value->Prop
 |.int i,v=>∃ t,v=.int i t
 |.str a,v=>∃ t,v=.str a t
 |_,_=>False
inductive Flats:List D->List Value->Prop
 |nil:Flats [] []
 |cons {d:D}{u:Value}{ds:List D}{us:List Value} (h:RelF d u) (r:Flats ds us):Flats (d::ds) (u::us)
theorem Flats.length {ds:List D}{us:List Value} (h:Flats ds us):ds.length=us.length:=by
 induction h with
 |nil=>rfl
 |cons _ _ ih=>simp[ih]
theorem eqAt_flat (A:Around) (s:Shared) {d e:D}{u v:Value} (h:sameF d e=true) (r1:RelF d u) (r2:RelF e v):SeqAt.EqAt A s u v (eqD d e):=by
 cases d with
 |int i =>
  cases e with
  |int j =>
   obtain⟨t,rfl⟩:=r1;obtain⟨w,rfl⟩:=r2;rw[show eqD (.int i) (.int j)=(i==j) by rw[eqD]]
   exact SeqAt.EqAt.int_int i t j w
  |_=>cases h
 |str a =>
  cases e with
  |str b =>
   obtain⟨t,rfl⟩:=r1;obtain⟨w,rfl⟩:=r2;rw[show eqD (.str a) (.str b)=(a==b) by rw[eqD]]
   exact SeqAt.EqAt.str_str a t b w
  |_=>cases h
 |_=>cases h
theorem rcLt_flat (A:Around) (s:Shared) {d e:D}{u v:Value} (h:sameF d e=true) (r1:RelF d u) (r2:RelF e v) (prog:Program) (w:World) (E:Value->Shared->Prop) (Q:Value->Shared->Prop) (q:Q (.bool (ltF d e)) s) :
  wpAny (model prog w) A (richCompare .Lt u v) Q E s:=by
 cases d with
 |int i =>
  cases e with
  |int j =>
   obtain⟨t,rfl⟩:=r1;obtain⟨w',rfl⟩:=r2;exact (PyProof.Rows.lt_int q:wpAny (model prog w) A (compareOp .Lt (.int i t) (.int j w')) Q E s)
  |_=>cases h
 |str a =>
  cases e with
  |str b =>
   obtain⟨t,rfl⟩:=r1;obtain⟨w',rfl⟩:=r2;exact (PyProof.Rows.lt_str (by simpa [ltF] using q):wpAny (model prog w) A (compareOp .Lt (.str a t) (.str b w')) Q E s)
  |_=>cases h
 |_=>cases h
section
open PySem.SeqAt
open PySem.AutoSeq1 (wpAny_loadPart')
open PySem.MeetsSeq PySem.MeetsSeq2 PySem.MeetsSeq3
theorem tuple_lt_flat (l b:Addr) (items items2:Array Value) (n n2:Nat) (dd dd2:Option Addr) (sl sl2:Array (Option Value)) (ds es:List D) (hi:Flats ds items.toList) (hj:Flats es items2.toList) (hs:sameFs ds es=true) :
  Meets (Builtin.«tuple.__lt__» ⟨[.ref l,.ref b],[]⟩)
   (fun _ R s=>s.heap.get? l=some {cls:=.type "tuple",dict:=dd,data:=.seq items n,slots:=sl} ∧ s.heap.get? b=some {cls:=.type "tuple",dict:=dd2,data:=.seq items2 n2,slots:=sl2} ∧
    R (.ok (.ret (.bool (lexF ds es)))) s) :=
 .of_wp fun prog w A R s h=>by
  obtain⟨hp,g,d,tk,os⟩:=s;obtain⟨hl,hb,h⟩:=h;have f2:=AutoSeq1.sub_tuple_tuple;have z1:items.size=ds.length:=by rw[hi.length];simp
  have z2:items2.size=es.length:=by rw[hj.length];simp
  have z3:=(sameFs_len hs).1
  wp_walk using wpAny_loadPart' hl,wpAny_loadPart' hb,wpAny_forIn_list _ (fun rest b s'=>b.1=none/\s'=⟨hp,g,d,tk,os⟩/\∃ (vs ws:List Value) (ds' es':List D),rest=vs.zip ws /\
   Flats ds' vs/\Flats es' ws/\sameFs ds' es'=true/\R (.ok (.ret (.bool (lexF ds' es')))) ⟨hp,g,d,tk,os⟩) _
  case turn =>
   rintro ⟨y,x⟩ rest b s' ⟨hb',rfl,vs,ws,ds',es',hz,hvi,hwi,hsm,hR⟩;cases hvi with
   |nil=>rw[List.zip_nil_left] at hz;cases hz
   |@cons dx ux dsx usx hd hvi' =>
    cases hwi with
    |nil=>rw[List.zip_nil_right] at hz;cases hz
    |@cons ex vx esx wsx he' hwi' =>
     rw[List.zip_cons_cons] at hz;injection hz with hyx hrest
     injection hyx with hy hx
     subst hy hx;unfold sameFs at hsm;rw[Bool.and_eq_true] at hsm;unfold lexF at hR;refine wpAny_bind (eqAt_flat A.in1 ⟨hp,g,d,tk,os⟩ hsm.1 hd he' prog w _ _ ?_);cases hq:eqD dx ex with
     |true =>
      rw[hq,if_pos rfl] at hR
      wp_walk
      exact⟨rfl,rfl,_,_,_,_,hrest,hvi',hwi',hsm.2,hR⟩
     |false =>
      rw[hq,if_neg Bool.false_ne_true] at hR;have hri:=rcLt_flat A.in1 ⟨hp,g,d,tk,os⟩ hsm.1 hd he' prog w
      wp_walk using hri
      exact⟨_,rfl,by simpa using hR⟩
  case fin =>
   rintro ⟨b1,b2⟩ s' ⟨hb',rfl,vs,ws,ds',es',hz,hvi,hwi,hsm,hR⟩;simp only at hb';subst hb'
   have hv:lexF ds' es'=decide (items.size<items2.size):=by
    rw[decide_eq_false (by omega)]
    cases hvi with
    |nil=>unfold lexF;rfl
    |cons a hv =>
     cases hwi with
     |nil=>unfold lexF;rfl
     |cons c hw=>rw[List.zip_cons_cons] at hz;cases hz
   rw[hv] at hR
   wp_walk
   exact⟨_,rfl,by simpa [Builtin.Tuple.tupleCompareSizes] using hR⟩
  case h =>
   exact⟨rfl,rfl,items.toList,items2.toList,ds,es,rfl,hi,hj,hs,h⟩
end
theorem lt_tupFlat {prog:Program}{w:World}{A:Around}{E:Value->Shared->Prop}{s:Shared}{l b:Addr}{items items2:Array Value}{ds es:List D}{Q:Value->Shared->Prop} (hl:IsTup s.heap l items) (hb:IsTup s.heap b items2) (hi:Flats ds items.toList) (hj:Flats es items2.toList) (hs:sameFs ds es=true)
  (hu:A.units<cLine) (h:Q (.bool (lexF ds es)) s):wpAny (model prog w) A (compareOp .Lt (.ref l) (.ref b)) Q E s:=by
 obtain⟨⟨cls,dd,data,sl⟩,ho,hc,n,hd⟩:=id hl;obtain⟨⟨cls2,dd2,data2,sl2⟩,ho2,hc2,n2,hd2⟩:=id hb;simp only at hc hd hc2 hd2;subst hc hd hc2 hd2;exact richCompare_meets_room (op:=.Lt) ⟨_,ho,rfl⟩ ⟨_,ho2,rfl⟩ PySem.F.slot_tuple_lt PySem.F.entry_tuple_lt (PySem.F.args_tuple_lt_2 _ _) (tuple_lt_flat l b items items2 n n2 dd dd2 sl sl2 ds es hi hj hs)
  ⟨ho,ho2,show Value.bool (lexF ds es)≠Value.notImplemented/\Q (.bool (lexF ds es)) s from ⟨(fun x=>nomatch x),h⟩⟩ hu
end Fx
set_option maxRecDepth 100000
namespace Fx
open PySem PySem.W PySem.Spec PyProof.Rows
section
variable {prog:Program}{w:World}{A:Around}{E:Value->Shared->Prop}{s:Shared}
structure Asks (prog:Program) (w:World) (A:Around) (s:Shared) (a:Addr) (vs:List Value) (κ:SortKind) (r:Nat->Nat):Prop where
 kind:2<=vs.length->∀ h',(∀ b o,b≠a->s.heap.get? b=some o->h'.get? b=some o)->∀ Q:SortKind->Shared->Prop,Q κ {s with heap:=h'}->wpAny (model prog w) A (keyKind' vs.toArray) Q (fun _ _=>False) {s with heap:=h'}
 ask:∀ h',(∀ b o,b≠a->s.heap.get? b=some o->h'.get? b=some o)->∀ i j,i<vs.length->j<vs.length->∀ C:Bool->Shared->Prop,C (ltR r i j) {s with heap:=h'}->kas_ask prog w A κ vs i j C {s with heap:=h'}
theorem getD_range (vs:List Value):(List.range vs.length).map (fun i=>vs.getD i Value.none)=vs:=by
 refine List.ext_getElem (by simp) fun i h1 h2=>?_
 simp[h2]
end
end Fx
set_option maxRecDepth 100000
namespace Fx
open PySem PySem.W PySem.Spec PyProof.Rows L2
section
variable {prog:Program}{w:World}{A:Around}{E:Value->Shared->Prop}{s:Shared}{b:Bool}{Q:Bool->Shared->Prop}
theorem lex_step {p q:Value}{r:List (Value×Value)}{i:Nat}{e l:Bool}{fin:Bool} (hE:SeqAt.EqAt A s p q e) (hL:∀ Q':Bool->Shared->Prop,Q' l s->wpAny (model prog w) A (oneLt' (b&&i==0) p q) Q' (fun _ _=>False) s)
  (h1:e=true->KatLex prog w A b fin Q r (i+1) s) (h2:e=false->Q l s):KatLex prog w A b fin Q ((p,q)::r) i s :=
 kat_cons (hE prog w _ _ (kat_go (fun z=>kat_yes (h1 z)) fun z=>kat_no (hL Q (h2 z))))
theorem oneLt_flat (c:Bool) {d e:D}{u v:Value} (h:sameF d e=true) (r1:RelF d u) (r2:RelF e v) (Q':Bool->Shared->Prop) (q:Q' (ltF d e) s):wpAny (model prog w) A (oneLt' c u v) Q' E s:=by
 cases c with
 |false=>exact kat_one u v (rcLt_flat A s h r1 r2 prog w E _ q)
 |true =>
  cases d with
  |int i =>
   cases e with
   |int j=>obtain⟨t,rfl⟩:=r1;obtain⟨w',rfl⟩:=r2;exact oneLt_int q
   |_=>cases h
  |str a =>
   cases e with
   |str b=>obtain⟨t,rfl⟩:=r1;obtain⟨w',rfl⟩:=r2;exact oneLt_str q
   |_=>cases h
  |_=>cases h
theorem katlex_flat:∀ (ds es:List D) {us vs:List Value}{i:Nat},sameFs ds es=true->Flats ds us->Flats es vs->Q (lexF ds es) s->KatLex prog w A b false Q (us.zip vs) i s
 |[],[],_,_,i,h,f1,f2,q=>by
  cases f1;cases f2;unfold lexF at q;exact kat_nil q
 |[],_::_,_,_,i,h,_,_,q=>by cases h
 |_::_,[],_,_,i,h,_,_,q=>by cases h
 |d::ds,e::es,_,_,i,h,f1,f2,q=>by
  cases f1 with
  |cons a r =>
   cases f2 with
   |cons a' r' =>
    unfold sameFs at h;rw[Bool.and_eq_true] at h;unfold lexF at q;rw[List.zip_cons_cons];refine lex_step (eqAt_flat A s h.1 a a') (fun Q'=>oneLt_flat _ h.1 a a' Q') (fun z=>?_) fun z=>?_
    ·rw[if_pos z] at q;exact katlex_flat ds es h.2 r r' q
    ·rw[if_neg (by rw[z];exact Bool.false_ne_true)] at q;exact q
end
theorem app_lt:∀ {a c:Ky}{x y:Ky},a.length=c.length->(a++x<c++y↔a<c\/(a=c/\x<y))
 |[],[],x,y,_=>by simp
 |[],_::_,_,_,h=>by cases h
 |_::_,[],_,_,h=>by cases h
 |k::a,l::c,x,y,h=>by
  rw[List.cons_append,List.cons_append,List.cons_lt_cons_iff,List.cons_lt_cons_iff,app_lt (by simpa using h)]
  constructor
  ·rintro (z | ⟨rfl,z | ⟨rfl,z⟩⟩)
   ·exact .inl (.inl z)
   ·exact .inl (.inr ⟨rfl,z⟩)
   ·exact .inr ⟨rfl,z⟩
  ·rintro ((z | ⟨rfl,z⟩) | ⟨z,z2⟩)
   ·exact .inl z
   ·exact .inr ⟨rfl,.inl z⟩
   ·injection z with z3 z4;subst z3 z4;exact .inr ⟨rfl,.inr ⟨rfl,z2⟩⟩
theorem fK_tup (xs:List D):fK (.tup xs)=fKs xs:=by rw[fK]
theorem fKs_nil:fKs []=[]:=by rw[fKs]
theorem eqDs_iff:∀ {ds es:List D},sameFs ds es=true->(eqDs ds es=true↔ds=es)
 |[],[],_=>by simp
 |[],_::_,h=>by cases h
 |_::_,[],h=>by cases h
 |d::r,e::t,h=>by
  unfold sameFs at h;rw[Bool.and_eq_true] at h;have q:=(sameF_eq h.1).1;have ih:=eqDs_iff h.2;rw[show eqDs (d::r) (e::t)=(eqD d e&&eqDs r t) by simp[eqDs],Bool.and_eq_true,q,ih]
  simp
theorem two_lt {a1 a2 b1 b2:List D} (h1:sameFs a1 b1=true) (h2:sameFs a2 b2=true):(if eqD (.tup a1) (.tup b1)=true then (if eqD (.tup a2) (.tup b2)=true then false else lexF a2 b2) else lexF a1 b1)=decide (fK (.tup [.tup a1,.tup a2])<fK (.tup [.tup b1,.tup b2])):=by
 have e:∀ x y:List D,fK (.tup [.tup x,.tup y])=fKs x++fKs y:=fun x y=>by rw[fK_tup,fKs_cons,fKs_cons,fK_tup,fK_tup,fKs_nil,List.append_nil]
 rw[e,e,lexF_lt h1,lexF_lt h2,eqD_tup_tup,eqD_tup_tup];have l:=app_lt (a:=fKs a1) (c:=fKs b1) (x:=fKs a2) (y:=fKs b2) (sameFs_len h1).2
 by_cases z:eqDs a1 b1=true
 ·rw[if_pos z]
  have z':=(eqDs_iff h1).mp z;subst z'
  have l2:(fKs a1++fKs a2<fKs a1++fKs b2)↔fKs a2<fKs b2:=by
   rw[l];exact⟨fun y=>y.elim (fun y=>absurd y (List.lt_irrefl _)) (·.2),fun y=>.inr ⟨rfl,y⟩⟩
  by_cases z2:eqDs a2 b2=true
  ·rw[if_pos z2]
   have z2':=(eqDs_iff h2).mp z2;subst z2';exact (decide_eq_false (List.lt_irrefl _)).symm
  ·rw[if_neg z2]
   exact decide_eq_decide.mpr l2.symm
 ·rw[if_neg z]
  refine decide_eq_decide.mpr ?_;rw[l];exact⟨.inl,fun y=>y.elim id fun y=>absurd ((eqDs_iff h1).mpr ((sameFs_inj h1).mp y.1)) z⟩
section
variable {X:Cx}{pins:List (Addr×Obj)}{σ:L2.St}{H:Hp}{s:Shared}
theorem flats_of {K:Frag}:∀ {ds:List D}{vs:List V}{us:List Value},(∀ d∈ds,∃ e,sameF d e=true)->Reps K H ds vs->Vals vs us->Flats ds us
 |[],vs,us,_,r,v=>by unfold Reps at r;subst r;cases v;exact .nil
 |d::ds,vs,us,h,r,v=>by
  unfold Reps at r;obtain⟨x,vr,rfl,r1,r2⟩:=r;cases v with
  |cons rx vx =>
   refine .cons ?_ (flats_of (fun e he=>h e (List.mem_cons_of_mem _ he)) r2 vx)
   obtain⟨e,he⟩:=h d List.mem_cons_self;cases d with
   |int i=>unfold Rep at r1;subst r1;exact rx
   |str a=>unfold Rep at r1;subst r1;exact rx
   |_=>cases e <;> cases he
theorem tup_at (I:Inv X pins σ H s) {ds:List D}{v:V}{u:Value} (r:Rep X.K H (.tup ds) v) (ru:RelV v u):∃ a ws its,u=.ref a/\IsTup s.heap a (List.toArray its)/\Reps X.K H ds ws/\Vals ws its:=by
 unfold Rep at r;obtain⟨a,ws,rfl,sq,rr⟩:=r;obtain⟨its,rv,tp,_⟩:=I.tuple sq;exact⟨a,ws,its,ru,tp,rr,rv⟩
theorem reps_get {K:Frag}:∀ {ds:List D}{vs:List V}{us:List Value}{i:Nat},Reps K H ds vs->Vals vs us->i<ds.length->∃ v,Rep K H (ds.getD i .non) v/\RelV v (us.getD i Value.none)
 |[],_,_,_,_,_,h=>by cases h
 |d::ds,vs,us,i,r,v,h=>by
  unfold Reps at r;obtain⟨x,vr,rfl,r1,r2⟩:=r;cases v with
  |cons rx vx =>
   cases i with
   |zero=>exact⟨x,r1,rx⟩
   |succ i=>exact reps_get (i:=i) r2 vx (by simpa using h)
theorem reps_perm {K:Frag}{ds:List D}{vs:List V}{us:List Value} (r:Reps K H ds vs) (v:Vals vs us):∀ {is:List Nat},(∀ i∈is,i<ds.length)->∃ ws,Reps K H (is.map fun i=>ds.getD i .non) ws/\Vals ws (is.map fun i=>us.getD i Value.none)
 |[],_=>⟨[],by unfold Reps;rfl,.nil⟩
 |i::is,h=>by
  obtain⟨x,r1,r2⟩:=reps_get r v (h i List.mem_cons_self);obtain⟨ws,r3,r4⟩:=reps_perm r v (is:=is) fun j hj=>h j (List.mem_cons_of_mem _ hj)
  exact⟨x::ws,Reps.cons r1 r3,.cons r2 r4⟩
end
end Fx
set_option maxRecDepth 100000
namespace Fx
open PySem PySem.W PySem.Spec PyProof.Rows L2
section
variable {X:Cx}{pins:List (Addr×Obj)}{σ:L2.St}{H:Hp}{s:Shared}
theorem mem1 {P:D->Prop}{a:D} (h:P a):∀ d∈[a],P d:=fun d hd=>by rw[List.mem_singleton.mp hd];exact h
theorem firsts {T:Value} (I:Inv X pins σ H s):∀ {ds:List D}{vs:List V}{us:List Value},(∀ d∈ds,∃ e r,d=.tup (e::r)/\∀ (x:V) (u:Value),Rep X.K H e x->RelV x u->Looks (model X.prog X.w) s.heap (typeOf u) T)->Reps X.K H ds vs->Vals vs us ->
  ∃ fs:List Value,KatTups s.heap us fs/\fs.length=ds.length/\∀ v∈fs,Looks (model X.prog X.w) s.heap (typeOf v) T
 |[],vs,us,_,r,v=>by unfold Reps at r;subst r;cases v;exact⟨[],.nil,rfl,fun _ h=>by cases h⟩
 |d::ds,vs,us,h,r,v=>by
  unfold Reps at r;obtain⟨x,vr,rfl,r1,r2⟩:=r;cases v with
  |cons rx vx =>
   obtain⟨fs,k1,k2,k3⟩:=firsts I (fun e he=>h e (List.mem_cons_of_mem _ he)) r2 vx
   obtain⟨e,rr,rfl,hT⟩:=h d List.mem_cons_self;obtain⟨a,ws,its,rfl,⟨o,ho,hc,n,hd⟩,r3,v3⟩:=tup_at I r1 rx;unfold Reps at r3;obtain⟨x1,wr,rfl,r4,_⟩:=r3;cases v3 with
   |@cons _ u1 _ l1 rx1 vx1 =>
    refine⟨u1::fs,.cons ho hc hd (by simp) k1,by simp[k2],fun z hz=>?_⟩
    rcases List.mem_cons.mp hz with rfl | hz
    ·exact hT _ _ r4 rx1
    ·exact k3 z hz
theorem looks_tup {M:Model}{h:Heap}{a:Addr}{its:Array Value} (x:IsTup h a its):Looks M h (typeOf (.ref a)) (.type "tuple"):=by
 obtain⟨o,ho,hc,_⟩:=x;rw[<- hc];exact (Looks.ld ho).andThen .now
end
end Fx
set_option maxRecDepth 100000
namespace Fx
open PySem PySem.Spec PyProof.Rows L2
section
variable {X:Cx}{pos:Pos}{e:Expr}{F:FE}
theorem call_sumL (hc:X.calm=true):CallR X (.builtin "sum") (fun xs H Q=>∃ (p:Addr) (is:List Int),xs=[.ref p] ∧ SqL X.K H p (is.map V.int) ∧ Q (.int is.sum) H):=by
 intro pins s σ H xs us Q I r h;obtain⟨l,is,rfl,hl,q⟩:=h;obtain⟨u,rfl,ru⟩:=vals1 r;cases ru;obtain⟨its,rv,pl,hz⟩:=I.list hl;have hi:=intsAre_of rv;have hL:=pl.isList;obtain⟨ys,e⟩:=hi.allInts.items;have hns:is=ys.toList.map (·.1):=by rw[<- hi.numsOf,<- nums_intItems,<- e]
 rw[e] at hL;refine PySem.sum_intListG (I.ok.hd hc) hL fun h' tk t' hk=>⟨.int is.sum,H,I.kept (t':=tk) hk,?_,q⟩
 rw[preSum_eq,List.take_of_length_le (by simp),<- hns]
 exact⟨t',rfl⟩
theorem callSum (hc:X.calm=true):BOk X (.builtin "sum") bSum:=⟨_,call_sumL hc,fun c H0 H ρ σ ds d vs Q R r e q=>by
 unfold bSum at e
 split at e
 ·obtain⟨is,e1,e2⟩:=bnd_eq e
  cases e2;obtain⟨v,rfl,rv⟩:=Reps.v1 r;unfold Rep at rv;obtain⟨p,ws,rfl,s,t⟩:=rv;have:=ints_rep e1 t;subst this;exact⟨p,is,rfl,Same.seq R.same s,q _ H0 H (Same.refl _) R (rep_int _ _)⟩
 ·cases e⟩
theorem fm_map {α β:Type}{f:α->Option β}{g:α->β}:∀ l:List α,(∀ k∈l,f k=some (g k))->l.filterMap f=l.map g
 |[],_=>rfl
 |k::r,h=>by rw[List.filterMap_cons,h k List.mem_cons_self,List.map_cons,fm_map r fun x hx=>h x (List.mem_cons_of_mem _ hx)]
theorem pick_rev (its:List Value):slicePick its.toArray none none (some (-1))=its.reverse.toArray:=by
 unfold slicePick
 have b:sliceBounds none none (some (-1)) its.toArray.size=((its.length:Int)-1,-1,-1):=by
  unfold sliceBounds;simp
 rw[b]
 have r:sliceRange ((its.length:Int)-1) (-1) (-1)=(List.range its.length).map fun k=>its.length-1-k:=by
  unfold sliceRange
  have c:(if (-1:Int) > 0 then (if (its.length:Int)-1 < -1 then (-1-((its.length:Int)-1)+-1-1) / -1 else 0) else (if (its.length:Int)-1 > -1 then ((its.length:Int)-1 - -1 - -1-1) / (- -1) else 0)).toNat=its.length:=by
   rw[if_neg (by decide)]
   by_cases h:(its.length:Int)-1 > -1
   ·rw[if_pos h,show (- -1:Int)=1 by decide,Int.ediv_one];omega
   ·rw[if_neg h];omega
  simp only[c];refine List.map_congr_left fun k hk=>?_
  have:=List.mem_range.mp hk;omega
 show ((sliceRange ((its.length:Int)-1) (-1) (-1)).filterMap (its.toArray[·]?)).toArray=_;rw[r,List.filterMap_map]
 congr 1
 have e:((List.range its.length).filterMap fun k=>its.toArray[its.length-1-k]?)=(List.range its.length).map fun k=>its.getD (its.length-1-k) Value.none:=by
  refine fm_map _ fun k hk=>?_
  have:=List.mem_range.mp hk;rw[List.getElem?_toArray,List.getElem?_eq_getElem (by omega)]
  simp[show its.length-1-k<its.length by omega]
 refine Eq.trans ?_ (e.trans ?_)
 ·rfl
 ·refine List.ext_getElem (by simp) fun i h1 h2=>?_
  have hi:i<its.length:=by simpa using h1
  rw[List.getElem_map,List.getElem_range,List.getElem_reverse];simp[show its.length-1-i<its.length by omega]
theorem pe_rev {te:TE}{p2 p3 p4:Pos}{k:Nat} (he:PE X e te):PE X (.Subscript e (.Slice none none (some (.UnaryOp .USub (.Constant (.int 1) k p3) p4)) p2) pos) (fun σ H Q=>te σ H fun x H1=>∃ a xs,x=.ref a/\SqL X.K H1 a xs/\∀ p,H1 p=none->Q (.ref p) (upd H1 p (.lst xs.reverse))):=by
 intro pins s σ H Q I h;refine Subscript_ (thn (he pins s σ H _ I h) fun v s1 hh0_=>?_)
 obtain⟨x,H1,I1,r1,a,xs,ex,sq,q⟩:=hh0_;subst ex;cases r1;refine wpAny_Slice ?_;rw[evalPart_none];refine wpAny_pure (wpAny_pure ?_);rw[evalPart_some];refine thn (pe_un (X:=X) un_neg (pe_int (i:=1) (j:=k) (pos:=p3)) (pos:=p4) pins s1 σ H1 (fun y H'=>y=.int (-1)/\H'=H1) I1 ⟨1,rfl,rfl,rfl⟩) fun st s2 hh0_=>?_
 obtain⟨y,H2,I2,ry,ey,eH⟩:=hh0_;subst ey eH;obtain⟨t,rfl⟩:=ry;have I4:Inv X pins σ H2 {s2 with heap:=s2.heap.push {cls:=.type "slice",data:=.fields #[.none,.none,.int (-1) t]}}:=I2.kept (t':=s2.toks) fun b ob q=>Heap.get?_push_of_some _ q
 obtain⟨its,rv,ht,hz⟩:=I4.list sq;have hlen:=rv.length;show wpAny (model X.prog X.w) X.A (subscriptTail e (.Slice none none (some (.UnaryOp .USub (.Constant (.int 1) k p3) p4)) p2) (.ref a) (.ref s2.heap.objs.size)) (EP X pins σ Q) X.xe {s2 with heap:=s2.heap.push {cls:=.type "slice",data:=.fields #[.none,.none,.int (-1) t]}}
 refine tail_any (ops:=[.ref a,.ref s2.heap.objs.size]) ht.isList.typeIs slot_list_getitem.lookup ?_ (by with_unfolding_all rfl)
 refine wpAny_getItem_list_slice ht.isList (Heap.IsSliceOf.new ..) .none .none (.int (-1) t) (by simp) ?_ (by rw[List.size_toArray] <;> omega)
 rw[pick_rev];refine⟨.ref _,_,I4.laid (t':=s2.toks) (o:=.lst xs.reverse) (fun b ob q=>Heap.get?_push_of_some _ q) (Nat.le_refl _) ?_,rfl,q _ (I4.hok.fresh (Nat.le_refl _))⟩
 exact⟨by rw[List.length_reverse];exact hz,_,0,Vals.reverse rv,Heap.get?_push_size _ rfl⟩
theorem reps_rev {K:PySem.W.Frag}{H:Hp}:∀ {ds:List D}{vs:List V},Reps K H ds vs->Reps K H ds.reverse vs.reverse
 |[],vs,r=>by unfold Reps at r;subst r;exact Reps.nil_
 |d::ds,vs,r=>by
  unfold Reps at r;obtain⟨v,vr,rfl,r1,r2⟩:=r;rw[List.reverse_cons,List.reverse_cons];exact (reps_rev r2).app (Reps.one r1)
theorem xrev {p2 p3 p4:Pos}{k:Nat} (he:XE X e F):XE X (.Subscript e (.Slice none none (some (.UnaryOp .USub (.Constant (.int 1) k p3) p4)) p2) pos) (e1 dRev F):=PE.wk (pe_rev he) fun σ H Q hh0_=>by
 obtain⟨c,H0,ρ,d,ρ',R,f,q⟩:=hh0_;unfold e1 at f;obtain⟨⟨x,ρ1⟩,h1,f⟩:=bnd_eq f;obtain⟨d',h2,f⟩:=bnd_eq f;have f':some (d',ρ1)=some (d,ρ'):=f;cases f';cases x with
 |lst xs =>
  cases h2;refine⟨c,H0,ρ,_,_,R,h1,fun v H1 Hh s1 R1 r1=>?_⟩
  unfold Rep at r1;obtain⟨a,ws,rfl,sq,t⟩:=r1;refine⟨a,ws,rfl,Same.seq R1.same sq,fun p hp=>?_⟩
  have S:=Step.alloc (o:=.lst ws.reverse) R1.same hp;refine q _ _ _ (s1.trans S.s0) (R1.after S) ?_;unfold Rep;exact⟨p,_,rfl,.inl (.inl upd_same),Reps.mono S.s0 _ (reps_rev t)⟩
 |_=>cases h2
end
end Fx
set_option maxRecDepth 100000
namespace L2
open PySem PySem.Spec PyProof.Rows
noncomputable def LcW2 (K:PySem.W.Frag) (js:List Nat) (tt:TT) (te:TE) (σ:St) (Q:List V->Hp->Prop) (J:It) (H1:Hp):Prop :=
 ∃ W:Nat->Nat->List V->Hp->Prop,(∃ m,W 0 m [] H1)/\∀ i m ys H,W i m ys H ->
  (J.stop i H/\ys.length<=sizeLine/\Q ys H) \/
  (J.go i H/\ys.length<sizeLine/\∀ x H',J.yld i H x H'->∃ ta v1 v2,x=.ref ta/\SqT K H' ta [v1,v2]/\tt (some v1::some v2::frv σ js) H' fun b H2 =>
   if b=true then te (some v1::some v2::frv σ js) H2 fun v H3=>∃ m',m'<m/\W (i+1) m' (ys++[v]) H3 else ∃ m',m'<m/\W (i+1) m' ys H2)
section
variable {X:Cx}{scope:Scope}{s:Shared}{H:Hp}{C:Addr}{fp:List Addr}{pins:List (Addr×Obj)}{H':Hp}{s':Shared}
theorem inv_names {N N':List Str}{σ σ':St} (I:Inv (cxB X N scope s H C fp) pins σ H' s') (hl:σ'.length=N'.length) (h:∀ (i:Nat) (x:Str) (v:V),N'[i]?=some x->σ'[i]?=some (some v)->∃ j:Nat,N[j]?=some x/\σ[j]?=some (some v)):Inv (cxB X N' scope s H C fp) pins σ' H' s' :=
 let k:=I.ok
 ⟨⟨k.mod,k.kind,k.glob,k.blt,k.above,k.inj,k.has,k.cab,k.hd,k.frames,k.stk,k.exf,k.bs,k.bsz,k.noex,k.exfs,k.funs,k.frf⟩,I.os,I.bare,I.base,by
  obtain⟨m,hn,hv⟩:=I.loc;refine⟨m,hn,fun i x v e1 e2 e3=>?_⟩
  obtain⟨j,a1,a2⟩:=h i x v e1 e2;exact hv j x v a1 a2 e3,I.cell,I.free,I.freeC,I.pin,I.hok,hl⟩
theorem inv_two {x x2:Str}{frees:List Str}{τ:St} (I:Inv (cxB X (x::frees) scope s H C fp) pins (none::τ) H' s'):Inv (cxB X (x::x2::frees) scope s H C fp) pins (none::none::τ) H' s' :=
 inv_names I (by have:(none::τ).length=(x::frees).length:=I.len;simp at this;simp[this]) fun i y v e1 e2=>by
  match i,e1,e2 with
  |0,_,e2=>simp at e2
  |1,_,e2=>simp at e2
  |i+2,e1,e2=>exact⟨i+1,by simpa using e1,by simpa using e2⟩
theorem inv_one {x x2:Str}{frees:List Str}{τ:St} (I:Inv (cxB X (x::x2::frees) scope s H C fp) pins (none::none::τ) H' s'):Inv (cxB X (x::frees) scope s H C fp) pins (none::τ) H' s' :=
 inv_names I (by have:(none::none::τ).length=(x::x2::frees).length:=I.len;simp at this;simp[this]) fun i y v e1 e2=>by
  match i,e1,e2 with
  |0,_,e2=>simp at e2
  |i+1,e1,e2=>exact⟨i+2,by simpa using e1,by simpa using e2⟩
end
section
variable {X:Cx}{pins:List (Addr×Obj)}{σ:St}{H:Hp}{s:Shared}{x x2:Str}{scope sc:Scope}{frees:List Str}{js:List Nat}{elt iter:Expr}{ifs:List Expr}{px py pt pos:Pos}{kt:Nat}{tt:TT}{te:TE}{E:Value->Shared->Prop}
theorem lc_run2 {it:Addr}{fp:List Addr}{tn:Nat->Heap->Prop}{J:It}{Qe:List V->Hp->Prop}{RR:Value->Addr->Result->Shared->Prop} (I:Inv X pins σ H s) (hc:X.calm=true) (hsc:X.env.scope=sc) (B:ScB X.N sc scope x frees js) (own2:scope.names.lookup x2=some .local) (nd2:(x::x2::frees).Nodup)
  (T:Turn X.prog X.w X.K (.Tuple [.Name x px,.Name x2 py] kt pt) J fp it tn) (st:tn 0 s.heap) (f:∀ b∈fp,FpOk X pins H b) (hW:LcW2 X.K js tt te σ Qe J H)
  (ht:∀ s H C fp,PTs (cxB X (x::x2::frees) scope s H C fp) ifs tt) (he:∀ s H C fp,PE (cxB X (x::x2::frees) scope s H C fp) elt te)
  (hR:∀ (D C:Addr) (s':Shared) (H':Hp) (ys:List V) (its:List Value) (n:Nat),s.heap.objs.size<=D->s.heap.objs.size<=C->D≠C->Inv (cxB X (x::x2::frees) scope s H C fp) pins (none::none::frv σ js) H' s'->H' D=none ->
   Vals ys its->s'.heap.get? D=some (lobj its n)->ys.length<=sizeLine->Qe ys H'->RR (.ref D) C (.ok .next) s') :
  wpAny (model X.prog X.w) X.A (newList []) (fun acc s3=>wpAny (model X.prog X.w) X.A (newFunctionEnv scope X.env.globals (clOf X.env.cells scope.names []) [] X.env.qual none .none (some X.env)) (fun cenv s4 =>
   codeAny (model X.prog X.w) X.A (.compStart (.ListComp elt [⟨.Tuple [.Name x px,.Name x2 py] kt pt,iter,ifs,0⟩] scope pos) 0 (.ref it) acc {cenv with scope:=relabel scope X.env}) (RR acc cenv.locals) s4) E s3) E s:=by
 obtain⟨W,⟨m0,w0⟩,turn⟩:=hW;refine wpAny_newObj_type (wpAny_newFunctionEnv B.cells (by intro y hy;simp at hy) (fun h₁ hns₁ hsb₁=>?_) B.kind)
 dsimp only at hns₁ hsb₁ ⊢
 generalize hG:s.heap.push {cls:=.type "list",dict:=none,data:=.seq ([]:List Value).toArray}=G at hns₁ hsb₁ ⊢
 have hC0:G.objs.size=s.heap.objs.size+1:=by rw[<- hG,Heap.size_push]
 have hCs0:s.heap.objs.size<=G.objs.size:=by rw[hC0];exact Nat.le_succ _
 have hDC0:s.heap.objs.size≠G.objs.size:=by rw[hC0];exact Nat.ne_of_lt (Nat.lt_succ_self _)
 obtain⟨C,hCe⟩:∃ C:Addr,C=G.objs.size:=⟨_,rfl⟩;obtain⟨D,hDe⟩:∃ D:Addr,D=s.heap.objs.size:=⟨_,rfl⟩;rw[<- hCe] at hns₁ hsb₁ hDC0 hCs0 ⊢;have hDs:s.heap.objs.size<=D:=by rw[hDe];exact Nat.le_refl _
 have hCs:s.heap.objs.size<=C:=hCs0;have hDC:D≠C:=by rw[hDe];exact hDC0
 have old:∀ b o,s.heap.get? b=some o->h₁.get? b=some o:=fun b o e=>by
  refine hsb₁.extBut b o (ne_lt (Heap.lt_size e) hCs) (Heap.get?_push_of_some _ ?_);rw[<- hG];exact Heap.get?_push_of_some _ e
 have gD:h₁.get? D=some (lobj [] 0):=by
  refine hsb₁.extBut D _ hDC (Heap.get?_push_of_some _ ?_);rw[<- hG,hDe];exact Heap.get?_push_size _ rfl
 have hfo:∀ b∈fp,b<s.heap.objs.size:=fun b hb=>by
  obtain⟨o,e,_⟩:=T.obj 0 _ st b hb;exact Heap.lt_size e
 show codeAny (model X.prog X.w) X.A (.compStart (.ListComp elt [⟨.Tuple [.Name x px,.Name x2 py] kt pt,iter,ifs,0⟩] scope pos) 0 (.ref it) (.ref s.heap.objs.size) (compEnvC scope (clOf X.env.cells scope.names []) C X.env)) (RR (.ref s.heap.objs.size) C) _;rw[<- hDe];have nDf:D∉fp:=fun z=>ne_lt (hfo D z) hDs rfl
 have Y0:=inv_two (x2:=x2) (blk_start (tk:=s.toks+([]:List (Str×Value)).length) (x:=x) I hsc B f hfo hCs hDs hDC old hns₁ gD (fun v z=>nomatch z))
 have tn0:tn 0 h₁:=T.keep 0 _ _ st fun b _ o e=>old b o e
 have sub:∀ y c,(clOf X.env.cells scope.names []).lookup y=some c->X.env.cells.lookup y=some c:=fun y c e=>by
  rcases clOf_sub scope.names [] (lcells I hsc B) e with q | q
  ·exact q
  ·cases q
 have pOld:∀ p∈pins,p.1<s.heap.objs.size:=fun p hp=>Heap.lt_size (I.pin p (List.mem_append_right _ hp)).1
 have stat:∀ {H':Hp}{o:Obj},(∀ b∈fp,H' b=none)->∀ b∈fp,FpOk (cxB X (x::x2::frees) scope s H C fp) (pins++[(D,o)]) H' b:=fun {H' o} hn b hb=>by
  obtain⟨_,a2,a3,a4,a5,a6⟩:=f b hb;have lt:=hfo b hb;refine⟨hn b hb,?_,fun z=>?_,.inl hb,fun y c e=>a5 y c (sub y c e),fun p hp=>?_⟩
  ·exact ne_lt lt hCs
  ·rcases List.mem_cons.mp (I.stkSub b z) with e | e
   ·exact a2 e
   ·exact a3 e
  ·have hp':p∈pins++[(D,o)]:=by simpa [cxB] using hp
   rcases List.mem_append.mp hp' with z | z
   ·exact a6 p (List.mem_append_right _ z)
   ·have z':p=(D,o):=by simpa using z
    subst z';exact ne_lt' lt hDs
 have loop:∀ s3:Shared,s3={s with heap:=h₁,toks:=s.toks+([]:List (Str×Value)).length} ->
   codeAny (model X.prog X.w) X.A (.compLoop (.ListComp elt [⟨.Tuple [.Name x px,.Name x2 py] kt pt,iter,ifs,0⟩] scope pos) 0 (.ref it) (.ref D) (compEnvC scope (clOf X.env.cells scope.names []) C X.env)) (RR (.ref D) C) s3:=by
  rintro s3 rfl;refine comp_turns (fun n s'=>∃ i ys its k H',Inv (cxB X (x::x2::frees) scope s H C fp) (pins++[(D,lobj its k)]) (none::none::frv σ js) H' s'/\tn i s'.heap/\(∀ b∈fp,H' b=none)/\Vals ys its/\W i n ys H') ?_ m0
   ⟨0,[],[],0,H,Y0,tn0,fun b hb=>(f b hb).1,.nil,w0⟩
  rintro n s4 ⟨i,ys,its,k,H4,I4,tn4,fr4,rv,w4⟩
  have pD:∀ {pl:List (Addr×Obj)}{σ':St}{H':Hp}{s':Shared},Inv (cxB X (x::x2::frees) scope s H C fp) (pins++[(D,lobj its k)]++pl) σ' H' s'->s'.heap.get? D=some (lobj its k)/\H' D=none:=fun I'=>by
   have q:=I'.pin (D,lobj its k) (List.mem_append_right _ (List.mem_append_left _ (List.mem_append_right _ List.mem_cons_self)));exact⟨q.1,q.2.1⟩
  have pins_only:∀ {pl:List (Addr×Obj)}{σ':St}{H':Hp}{s':Shared},Inv (cxB X (x::x2::frees) scope s H C fp) (pins++pl) σ' H' s'->Inv (cxB X (x::x2::frees) scope s H C fp) pins σ' H' s':=fun I'=>I'.unpinned
  rcases turn i n ys H4 w4 with ⟨stop,lz,qe⟩ | ⟨go,lz,step⟩
  ·refine thn (T.done (cxB X (x::x2::frees) scope s H C fp) rfl rfl rfl hc i _ s4 _ H4 (fun _ _=>False) I4 (stat fr4) tn4 stop) fun r s5 hh0_=>?_
   obtain⟨hr,I5⟩:=hh0_;subst hr;have I5':Inv (cxB X (x::x2::frees) scope s H C fp) (pins++[(D,lobj its k)]++[]) (none::none::frv σ js) H4 s5:=by simpa using I5
   exact hR D C s5 H4 ys its k hDs hCs hDC (pins_only I5) (pD I5').2 rv (pD I5').1 lz qe
  ·refine thn (T.item (cxB X (x::x2::frees) scope s H C fp) rfl rfl rfl hc i _ s4 _ H4 (fun _ _=>False) I4 (stat fr4) tn4 go) fun r s5 hh0_=>?_
   obtain⟨u,hr,h5⟩:=hh0_;subst hr;refine thn h5 fun _ s6 hh0_=>?_
   obtain⟨y,H6,I6,r6,y6,tn6,fr6⟩:=hh0_;have I6':=I6.pinned (stat fr6) (T.obj _ _ tn6);have hx:Loc (cxB X (x::x2::frees) scope s H C fp).env.scope x:=.inl (lookup_relabel_local B.own);have hx2:Loc (cxB X (x::x2::frees) scope s H C fp).env.scope x2:=.inl (lookup_relabel_local own2)
   have dfs:D∉(cxB X (x::x2::frees) scope s H C fp).fs:=fun z=>by
    rcases List.mem_cons.mp (I.stkSub D z) with e | e
    ·exact ne_lt I.lt hDs e.symm
    ·exact I.nofs hDs e
   obtain⟨ta,v1,v2,ey,sq,stp⟩:=step y H6 y6;subst ey;refine thn (pg_tup (X:=cxB X (x::x2::frees) scope s H C fp) (pos:=pt) (k:=kt) hc (pgs_cons (pg_name (i:=0) nd2 rfl hx (.inr (lookup_relabel_local B.own))) (pgs_cons (pg_name (i:=1) nd2 rfl hx2 (.inr (lookup_relabel_local own2))) pgs_nil)) rfl rfl _ s6 _ H6 (.ref ta) u (fun σ' H'=>σ'=some v1::some v2::frv σ js/\tt σ' H' fun b H2 =>
    if b=true then te (some v1::some v2::frv σ js) H2 fun v H3=>∃ m',m'<n/\W (i+1) m' (ys++[v]) H3 else ∃ m',m'<n/\W (i+1) m' ys H2) I6' r6 ⟨ta,[v1,v2],rfl,sq,rfl,v1,[v2],rfl,v2,[],rfl,rfl,rfl,stp⟩) fun _ s7 ⟨σ7,H7,I7,e7,q7⟩=>?_
   subst e7;have back:∀ {σ':St}{H':Hp}{s':Shared},Inv (cxB X (x::x2::frees) scope s H C fp) (pins++[(D,lobj its k)]++pinsAt fp s6.heap) σ' H' s'->(∀ b∈fp,∀ o,s6.heap.get? b=some o->s'.heap.get? b=some o)/\∀ b∈fp,H' b=none:=fun {σ' H' s'} I' =>
    ⟨fun b hb o e=>(I'.pin (b,o) (List.mem_append_right _ (List.mem_append_right _ (mem_pinsAt hb e)))).1,fun b hb=>by
     obtain⟨o,e,_⟩:=T.obj _ _ tn6 b hb;exact (I'.pin (b,o) (List.mem_append_right _ (List.mem_append_right _ (mem_pinsAt hb e)))).2.1⟩
   have forget:∀ {pl:List (Addr×Obj)}{H':Hp}{s':Shared},Inv (cxB X (x::x2::frees) scope s H C fp) pl (some v1::some v2::frv σ js) H' s'->Inv (cxB X (x::x2::frees) scope s H C fp) pl (none::none::frv σ js) H' s':=fun I' =>
    I'.weak rfl fun j v e=>by
     match j,e with
     |0,e=>simp at e
     |1,e=>simp at e
     |j+2,e=>simpa using e
   refine thn (ht s H C fp _ s7 _ H7 _ I7 q7) fun ok s8 hh0_=>?_
   obtain⟨H8,I8,q8⟩:=hh0_;cases ok with
   |false =>
    rw[if_neg Bool.false_ne_true] at q8 ⊢;obtain⟨m',hm,w8⟩:=q8;obtain⟨b1,b2⟩:=back I8;exact⟨m',hm,i+1,ys,its,k,H8,forget I8.unpinned,T.keep _ _ _ tn6 b1,b2,rv,w8⟩
   |true =>
    rw[if_pos rfl] at q8 ⊢;refine thn (he s H C fp _ s8 _ H8 _ I8 q8) fun v s9 hh0_=>?_
    obtain⟨vv,H9,I9,r9,m',hm,w9⟩:=hh0_;obtain⟨gD9,nD9⟩:=pD I9;obtain⟨b1,b2⟩:=back I9;have hlen:=rv.length;refine call_meets F.slot_list_append ⟨_,gD9,rfl⟩ F.entry_list_append (F.args_list_append_2 _ _) (PySem.list_append D its.toArray k v (by rw[List.size_toArray];omega)) ⟨gD9,?_⟩
    have ea:its.toArray.push v=(its++[v]).toArray:=by simp
    obtain⟨k',q⟩:∃ k',(s9.heap.update D (Obj.mapSeq (·.push v))).get? D=some (lobj (its++[v]) k'):=by
     have q0:=PySem.IsL.update gD9 (·.push v);rw[ea] at q0;exact⟨_,q0⟩
    have oth:∀ b o,b≠D->s9.heap.get? b=some o->(s9.heap.update D (Obj.mapSeq (·.push v))).get? b=some o:=fun b o hb e=>(Heap.get?_update_other s9.heap (Obj.mapSeq (·.push v)) (Ne.symm hb)).trans e
    have I10:Inv (cxB X (x::x2::frees) scope s H C fp) pins (some v1::some v2::frv σ js) H9 {s9 with heap:=s9.heap.update D (Obj.mapSeq (·.push v))} :=
     (pins_only I9.unpinned).turned (t':=s9.toks) (it:=D) oth nD9 hDC (.inr hDs) (fun y' c e z=>by
      obtain⟨w',q'⟩:=I.cell y' c (sub y' c e)
      exact ne_lt q'.lt hDs z) (fun p hp z=>by
      have hp':p∈pins:=by simpa [cxB] using hp
      exact ne_lt (pOld p hp') hDs z)
    refine⟨m',hm,i+1,ys++[vv],its++[v],k',H9,forget (I10.pins_of fun p hp=>?_),T.keep _ _ _ tn6 fun b hb o e=>oth b o (fun z=>nDf (z▸hb)) (b1 b hb o e),b2,rv.append (.cons r9 .nil),w9⟩
    rcases List.mem_append.mp hp with z | z
    ·exact I10.pin p (List.mem_append_right _ z)
    ·have z':p=(D,lobj (its++[v]) k'):=List.mem_singleton.mp z
     subst z';exact⟨q,nD9,hDC,dfs,fun w' z2=>nomatch z2⟩
 exact codeAny_compStart_list (loop _ rfl) (T.self _ 0 _ _ _ tn0 (loop _ rfl))
noncomputable def tLC2 (K:PySem.W.Frag) (wi:TI) (js:List Nat) (tt:TT) (te:TE):TE:=fun σ H Q=>wi σ H (LcW2 K js tt te σ fun ys H'=>∀ D,H' D=none->Q (.ref D) (upd H' D (.lst ys)))
theorem pe_lc2 {wi:TI} (hc:X.calm=true) (hsc:X.env.scope=sc) (B:ScB X.N sc scope x frees js) (own2:scope.names.lookup x2=some .local) (nd2:(x::x2::frees).Nodup) (hi:PI X (.Tuple [.Name x px,.Name x2 py] kt pt) iter wi) (ht:∀ s H C fp,PTs (cxB X (x::x2::frees) scope s H C fp) ifs tt) (he:∀ s H C fp,PE (cxB X (x::x2::frees) scope s H C fp) elt te)
  (hs:∀ v,foldedSetIterable iter X.env v=pure v:=by intro _;rfl):PE X (.ListComp elt [⟨.Tuple [.Name x px,.Name x2 py] kt pt,iter,ifs,0⟩] scope pos) (tLC2 X.K wi js tt te):=by
 intro pins s σ H Q I h;rw[eval_ListComp];refine wpAny_comprehension_free (use:=none) rfl hs (closure_eq (lcells I hsc B)) B.kind B.locs (thn (hi pins s σ H _ I h) fun v s1 h1=>thn h1 fun itv s2 h2=>?_)
 obtain⟨it,fp,tn,J,H2,e,I2,T,st2,f2,hW⟩:=h2;subst e;refine lc_run2 (RR:=fun acc C=>compPost (model X.prog X.w) X.A X.xe none (EP X pins σ Q) acc C) I2 hc hsc B own2 nd2 T st2 f2 hW ht he ?_
 intro D C s' H' ys its n hD hC hDC J' nD rv gD hz q;obtain⟨m,hn,_⟩:=J'.loc;refine⟨m,hn,fun h' hs'=>?_⟩
 have A1:=lc_after I2 f2 hD (inv_one J') nD rv gD hz;have nC:(upd H' D (.lst ys)) C=none:=by rw[upd_ne (Ne.symm hDC)];exact J'.free
 exact⟨.ref D,_,lc_go I2 A1 hC nC hs',rfl,q D nD⟩
end
end L2
set_option maxRecDepth 100000
namespace Fx
open PySem PySem.Spec PyProof.Rows L2
theorem RS.block2 {K:PySem.W.Frag}{c:FC}{H0 H:Hp}{ρ:En}{σ:L2.St}{js:List Nat}{fr:En}{d e:D}{x y:V} (R:RS K c H0 H ρ σ) (hf:imAt ρ js=some fr) (rx:Rep K H0 d x) (ry:Rep K H0 e y):RS K ⟨H0,H,[]⟩ H0 H (.im d::.im e::fr) (some x::some y::frv σ js):=by
 have B:=R.block hf ry
 have noO:∀ (i:Nat) (b:Bool) (o:MO),(Sl.im e::fr)[i]?≠some (.ow b o):=fun i b o z=>by
  obtain⟨a,_,y1,z1,w1⟩:=B.ow i b o z;cases b with
  |true=>exact absurd z1 (by simp)
  |false =>
   have z2:H a=none:=z1;obtain⟨u,hu⟩:=w1.some;rw[z2] at hu;cases hu
 refine⟨B.same,B.init,B.fresh,B.keep,B.apt,by have:=B.len;simp at this;simp[this],fun i d' q=>?_,fun i b o q=>?_,fun i j b b' o o' a q=>?_⟩
 ·match i,q with
  |0,q=>cases q;exact⟨x,rfl,rx⟩
  |i+1,q=>exact B.im i d' (by simpa using q)
 ·match i,q with
  |0,q=>cases q
  |i+1,q=>exact absurd (by simpa using q) (noO i b o)
 ·match i,q with
  |0,q=>cases q
  |i+1,q=>exact absurd (by simpa using q) (noO i b o)
structure ScB2 (N:List Str) (sc scope:Scope) (x x2:Str) (frees:List Str) (js:List Nat):Prop where
 B:ScB N sc scope x frees js
 own2:scope.names.lookup x2=some .local
 nd2:(x::x2::frees).Nodup
section
variable {X:Cx}{x x2:Str}{scope sc:Scope}{frees:List Str}{js:List Nat}{elt iter:Expr}{ifs:List Expr}{px py pt pos:Pos}{kt:Nat}{I F:FE}{T:FT}
end
end Fx
set_option maxRecDepth 100000
namespace Fx
open PySem PySem.Spec PyProof.Rows L2
theorem lastAt_lt {k:Str}:∀ {st:List (List D)}{i:Nat},lastAt k st=some i->i<st.length
 |[],i,h=>by cases h
 |x::r,i,h=>by
  unfold lastAt at h
  split at h
  ·rename_i j hj
   have:=lastAt_lt hj;cases h;rw[List.length_cons];omega
  ·split at h
   ·cases h;rw[List.length_cons];omega
   ·cases h
theorem lastAt_snoc (k:Str) (d:D):∀ st:List (List D),lastAt k (st++[[d]])=if keyT d=some k then some st.length else lastAt k st
 |[]=>by
  show (if ([d].head?.bind keyT)=some k then some 0 else none)=_;rfl
 |x::r=>by
  have ih:=lastAt_snoc k d r;rw[List.cons_append];unfold lastAt;rw[ih]
  by_cases h:keyT d=some k
  ·rw[if_pos h,if_pos h];rfl
  ·rw[if_neg h,if_neg h]
theorem lastAt_set (k:Str) (d:D):∀ (st:List (List D)) (i:Nat) (x:List D),st[i]?=some x->x≠[]->lastAt k (st.set i (x++[d]))=lastAt k st
 |[],i,x,h,_=>by cases h
 |y::r,0,x,h,hx=>by
  obtain rfl:y=x:=Option.some.inj h;rw[List.set_cons_zero];unfold lastAt
  have:(y++[d]).head?=y.head?:=by
   cases y with
   |nil=>exact absurd rfl hx
   |cons a b=>rfl
  rw[this]
 |y::r,i+1,x,h,hx=>by
  rw[List.set_cons_succ];unfold lastAt;rw[lastAt_set k d r i x h hx]
section
variable {K:PySem.W.Frag}{Hi Hin H H':Hp}{l S T p:Addr}{vs:List V}{st:List (List D)}{refs:List Addr}{kvs:List (Key×V)}{d:D}{v:V}{k:Str}
end
end Fx
set_option maxRecDepth 100000
namespace Fx
open PySem PySem.Spec PyProof.Rows L2
end Fx
set_option maxRecDepth 100000
namespace Fx
open PySem PySem.Spec PyProof.Rows L2
theorem ref_lt {α:Type}{l:List α}{i:Nat}{a:α} (h:l[i]?=some a):i<l.length:=(List.getElem?_eq_some_iff.mp h).1
section
variable {K:PySem.W.Frag}{H0 Hs H H':Hp}{T p:Addr}{g:List (Str×List D)}{refs:List Addr}{k:Str}{d:D}{v:V}
end
section
variable {X:Cx}{pos:Pos}{iter:Expr}{F:FE}
end
end Fx
set_option maxRecDepth 100000
namespace Fx
open PySem PySem.W PyProof.Rows
noncomputable def gallop':Bool->Keyed->Array Keyed->Nat->Nat->Nat->StateT SortSt Sem (Option Nat):=sortPriv% PySem.Builtin.gallop
noncomputable def mergeLo':Array Keyed->Array Keyed->StateT SortSt Sem (Array Keyed):=sortPriv% PySem.Builtin.mergeLo
noncomputable def mergeHi':Array Keyed->Array Keyed->StateT SortSt Sem (Array Keyed):=sortPriv% PySem.Builtin.mergeHi
structure Cmp (prog:Program) (w:World) (A:Around) (s:Shared) (κ:SortKind) (rk:Keyed->Nat) (M:Keyed->Prop):Prop where
 ask:∀ x y,M x->M y->∀ Q:Bool->Shared->Prop,Q (decide (rk x<rk y)) s->wpAny (model prog w) A (keyLt' κ x.1 y.1) Q (fun _ _=>False) s
section
variable {prog:Program}{w:World}{A:Around}{E:Value->Shared->Prop}{s:Shared}{κ:SortKind}{rk:Keyed->Nat}{M:Keyed->Prop}
theorem Cmp.lt (C:Cmp prog w A s κ rk M) {st:SortSt} (hk:kindOf st=κ) {x y:Keyed} (hx:M x) (hy:M y) {Q:Option Bool->SortSt->Prop} (h:Q (some (decide (rk x<rk y))) st):wpS (model prog w) A E s (lt' x y) Q st:=by
 rw[lt'_eq];refine wpS_bind (wpS_get ?_);rw[hk];refine wpS_bind (wpS_lift (wpAny_attempt (wpAny_mono (C.ask x y hx hy (fun b s'=>s'=s/\b=decide (rk x<rk y)) ⟨rfl,rfl⟩) (fun b s' hb=>?_) fun _ _ z=>z.elim)))
 obtain⟨rfl,rfl⟩:=hb;exact⟨rfl,wpS_pure h⟩
theorem wpS_elem {st:SortSt}{xs:Array Keyed}{i:Nat}{x:Keyed} (hx:xs[i]?=some x) {Q:Keyed->SortSt->Prop} (h:Q x st):wpS (model prog w) A E s (elem' xs i) Q st:=by
 rw[elem'_eq,hx];exact wpS_pure h
noncomputable def Cut (b:Nat->Prop) (n k:Nat):Prop:=k<=n/\(∀ i,i<k->b i)/\∀ i,k<=i->i<n->¬ b i
noncomputable def bey (rk:Keyed->Nat) (left:Bool) (key x:Keyed):Bool:=if left=true then decide (rk x<rk key) else !decide (rk key<rk x)
theorem wpS_bey (C:Cmp prog w A s κ rk M) {st:SortSt} (hk:kindOf st=κ) {left:Bool}{key x:Keyed}{arr:Array Keyed}{j:Nat} (mk:M key) (hx:arr[j]?=some x) (mx:M x) {Q:Option Bool->SortSt->Prop} (h:Q (some (bey rk left key x)) st) :
  wpS (model prog w) A E s (do
   let x <- elem' arr j
   if left=true then lt' x key else do
    let r <- lt' key x
    pure (Option.map (fun x=>!x) r)) Q st:=by
 refine wpS_bind (wpS_elem hx ?_);unfold bey at h;cases left with
 |true=>rw[if_pos rfl] at h ⊢;exact C.lt hk mx mk h
 |false =>
  rw[if_neg Bool.false_ne_true] at h ⊢;exact wpS_bind (C.lt hk mk mx (wpS_pure h))
theorem gallop_ok (C:Cmp prog w A s κ rk M) {st:SortSt} (hk:kindOf st=κ) {left:Bool}{key:Keyed}{arr:Array Keyed}{base n hint:Nat} (mk:M key) (f:Nat->Keyed) (hf:∀ i,i<n->arr[base+i]?=some (f i)/\M (f i)) (hh:hint<n)
  (mono:∀ i j,i<=j->j<n->bey rk left key (f j)=true->bey rk left key (f i)=true) {Q:Option Nat->SortSt->Prop} (h:∀ k,Cut (fun i=>bey rk left key (f i)=true) n k->Q (some k) st) :
  wpS (model prog w) A E s (gallop' left key arr base n hint) Q st:=by
 have last:∀ lo hi,lo<=hi->hi<=n->(∀ i,i<lo->bey rk left key (f i)=true)->(∀ i,hi<=i->i<n->¬ bey rk left key (f i)=true)->∀ {R:Option (Option Nat)×Nat×Nat->SortSt->Prop},(∀ k,Cut (fun i=>bey rk left key (f i)=true) n k->R (none,k,k) st) ->
   wpS (model prog w) A E s (forIn [:n] ((none,lo,hi):Option (Option Nat)×Nat×Nat) fun x __s =>
    if __s.snd.fst>=__s.snd.snd then pure (ForInStep.done (none,__s.snd.fst,__s.snd.snd))
    else do
     let r <- (do
      let x <- elem' arr (base+(__s.snd.fst+(__s.snd.snd-__s.snd.fst) / 2))
      if left=true then lt' x key else do
       let r <- lt' key x
       pure (Option.map (fun x=>!x) r))
     match r with
     |some more=>if more=true then pure (ForInStep.yield (none,__s.snd.fst+(__s.snd.snd-__s.snd.fst) / 2+1,__s.snd.snd)) else pure (ForInStep.yield (none,__s.snd.fst,__s.snd.fst+(__s.snd.snd-__s.snd.fst) / 2))
     |_=>pure (ForInStep.done (some none,__s.snd.fst,__s.snd.snd))) R st:=fun lo hi h1 h2 h3 h4 {R} hR=>by
  refine wpS_forRange (I:=fun x c st'=>st'=st/\∃ lo hi,c=(none,lo,hi)/\lo<=hi/\hi<=n/\hi-lo<=n-x/\(∀ i,i<lo->bey rk left key (f i)=true)/\∀ i,hi<=i->i<n->¬ bey rk left key (f i)=true) ?_ ?_ ⟨rfl,lo,hi,rfl,h1,h2,by omega,h3,h4⟩
  ·rintro x c st' _ hx ⟨rfl,lo,hi,rfl,g1,g2,g3,g4,g5⟩
   dsimp only
   by_cases c:lo>=hi
   ·rw[if_pos c]
    obtain rfl:lo=hi:=by omega
    exact wpS_pure (hR lo ⟨g2,g4,g5⟩)
   ·rw[if_neg c]
    obtain⟨a1,a2⟩:=hf (lo+(hi-lo) / 2) (by omega)
    refine wpS_bind (wpS_bey C hk mk a1 a2 ?_);cases q:bey rk left key (f (lo+(hi-lo) / 2)) with
    |true =>
     dsimp only;rw[if_pos rfl];exact wpS_pure ⟨rfl,_,_,rfl,by omega,g2,by omega,fun i hi'=>mono i _ (by omega) (by omega) q,g5⟩
    |false =>
     dsimp only;rw[if_neg Bool.false_ne_true];exact wpS_pure ⟨rfl,_,_,rfl,by omega,by omega,by omega,g4,fun i hi' hn z=>by have:=mono _ i hi' hn z;rw[q] at this;cases this⟩
  ·rintro c st' ⟨rfl,lo,hi,rfl,g1,g2,g3,g4,g5⟩
   obtain rfl:lo=hi:=by omega
   exact hR lo ⟨g2,g4,g5⟩
 obtain⟨a1,a2⟩:=hf hint hh;refine wpS_bind (wpS_bey C hk mk a1 a2 ?_);cases q0:bey rk left key (f hint) with
 |true =>
  refine wpS_bind (wpS_mono (wpS_forRange (I:=fun x c st'=>st'=st/\∃ l o,c=(none,l,o)/\x+1<=o/\l<o/\hint+l<n/\bey rk left key (f (hint+l))=true)
   (Q:=fun c st'=>st'=st/\∃ l o,c=(none,l,o)/\l<o/\hint+l<n/\bey rk left key (f (hint+l))=true/\(n-hint<=o\/(hint+o<n/\¬ bey rk left key (f (hint+o))=true))) ?_ ?_ ⟨rfl,0,1,rfl,Nat.le_refl _,Nat.one_pos,by omega,q0⟩) ?_)
  ·rintro x c st' _ hx ⟨rfl,l,o,rfl,g1,g2,g3,g4⟩
   dsimp only
   by_cases c:o>=n-hint
   ·rw[if_pos c]
    exact wpS_pure ⟨rfl,l,o,rfl,g2,g3,g4,.inl c⟩
   ·rw[if_neg c]
    obtain⟨b1,b2⟩:=hf (hint+o) (by omega)
    refine wpS_bind (wpS_bey C hk mk b1 b2 ?_);cases q:bey rk left key (f (hint+o)) with
    |true =>
     dsimp only;rw[if_neg (by decide)]
     exact wpS_pure ⟨rfl,o,2*o+1,rfl,by omega,by omega,by omega,q⟩
    |false =>
     dsimp only;rw[if_pos (by decide)]
     exact wpS_pure ⟨rfl,l,o,rfl,g2,g3,g4,.inr ⟨by omega,by rw[q];exact Bool.false_ne_true⟩⟩
  ·rintro c st' ⟨rfl,l,o,rfl,g1,g2,g3,g4⟩
   exact⟨rfl,l,o,rfl,g2,g3,g4,.inl (by omega)⟩
  ·rintro c st' ⟨rfl,l,o,rfl,g1,g2,g3,g4⟩
   refine wpS_bind (last (hint+l+1) (hint+min o (n-hint)) (by omega) (by omega) (fun i hi=>mono i _ (by omega) g2 g3) (fun i hi hn z=>?_) fun k hc=>wpS_pure (h k hc))
   rcases g4 with g4 | ⟨g4,g5⟩
   ·omega
   ·exact g5 (mono _ i (by omega) hn z)
 |false =>
  refine wpS_bind (wpS_mono (wpS_forRange (I:=fun x c st'=>st'=st/\∃ l o,c=(none,l,o)/\x+1<=o/\l<o/\l<=hint/\¬ bey rk left key (f (hint-l))=true)
   (Q:=fun c st'=>st'=st/\∃ l o,c=(none,l,o)/\l<o/\l<=hint/\¬ bey rk left key (f (hint-l))=true/\(hint+1<=o\/(o<=hint/\bey rk left key (f (hint-o))=true))) ?_ ?_ ⟨rfl,0,1,rfl,Nat.le_refl _,Nat.one_pos,by omega,by rw[Nat.sub_zero,q0];exact Bool.false_ne_true⟩) ?_)
  ·rintro x c st' _ hx ⟨rfl,l,o,rfl,g1,g2,g3,g4⟩
   dsimp only
   by_cases c:o>=hint+1
   ·rw[if_pos c]
    exact wpS_pure ⟨rfl,l,o,rfl,g2,g3,g4,.inl c⟩
   ·rw[if_neg c]
    obtain⟨b1,b2⟩:=hf (hint-o) (by omega)
    refine wpS_bind (wpS_bey C hk mk b1 b2 ?_);cases q:bey rk left key (f (hint-o)) with
    |true =>
     dsimp only;rw[if_pos rfl];exact wpS_pure ⟨rfl,l,o,rfl,g2,g3,g4,.inr ⟨by omega,q⟩⟩
    |false =>
     dsimp only;rw[if_neg Bool.false_ne_true];exact wpS_pure ⟨rfl,o,2*o+1,rfl,by omega,by omega,by omega,by rw[q];exact Bool.false_ne_true⟩
  ·rintro c st' ⟨rfl,l,o,rfl,g1,g2,g3,g4⟩
   exact⟨rfl,l,o,rfl,g2,g3,g4,.inl (by omega)⟩
  ·rintro c st' ⟨rfl,l,o,rfl,g1,g2,g3,g4⟩
   refine wpS_bind (last (hint+1-min o (hint+1)) (hint-l) (by omega) (by omega) (fun i hi=>?_) (fun i hi hn z=>g3 (mono _ i hi hn z)) fun k hc=>wpS_pure (h k hc))
   rcases g4 with g4 | ⟨g4,g5⟩
   ·omega
   ·exact mono i _ (by omega) (by omega) g5
end
end Fx
set_option maxRecDepth 100000
namespace Fx
open PySem PySem.W PyProof.Rows
structure Gm (le:Keyed->Keyed->Prop) (T out P Q:List Keyed):Prop where
 perm:(out++P++Q).Perm T
 so:out.Pairwise le
 bp:∀ x∈out,∀ y∈P,le x y
 bq:∀ x∈out,∀ y∈Q,le x y
 sp:P.Pairwise le
 sq:Q.Pairwise le
section
variable {le:Keyed->Keyed->Prop}{T out P Q P1 Q1:List Keyed}
theorem Gm.swap (h:Gm le T out P Q):Gm le T out Q P:=by
 refine⟨List.Perm.trans ?_ h.perm,h.so,h.bq,h.bp,h.sq,h.sp⟩;rw[List.append_assoc,List.append_assoc];exact List.perm_append_comm.append_left out
theorem Gm.takeP (h:Gm le T out (P1++P) Q) (hl:∀ x∈P1,∀ y∈Q,le x y):Gm le T (out++P1) P Q:=by
 obtain⟨s1,s2,s3⟩:=List.pairwise_append.mp h.sp;refine⟨by rw[List.append_assoc out];exact h.perm,List.pairwise_append.mpr ⟨h.so,s1,fun x hx y hy=>h.bp x hx y (List.mem_append_left _ hy)⟩,fun x hx y hy=>?_,fun x hx y hy=>?_,s2,h.sq⟩
 ·rcases List.mem_append.mp hx with hx | hx
  ·exact h.bp x hx y (List.mem_append_right _ hy)
  ·exact s3 x hx y hy
 ·rcases List.mem_append.mp hx with hx | hx
  ·exact h.bq x hx y hy
  ·exact hl x hx y hy
theorem Gm.endP (h:Gm le T out P []):(out++P).Perm T/\(out++P).Pairwise le:=by
 refine⟨by have:=h.perm;rwa [List.append_nil] at this,List.pairwise_append.mpr ⟨h.so,h.sp,h.bp⟩⟩
theorem Gm.endL (h:Gm le T out P Q) (hl:∀ y∈Q,∀ x∈P,le y x):(out++Q++P).Perm T/\(out++Q++P).Pairwise le:=by
 refine⟨h.swap.perm,List.pairwise_append.mpr ⟨List.pairwise_append.mpr ⟨h.so,h.sq,h.bq⟩,h.sp,fun x hx y hy=>?_⟩⟩
 rcases List.mem_append.mp hx with hx | hx
 ·exact h.bp x hx y hy
 ·exact hl x hx y hy
end
theorem drop1 {xs:Array Keyed}{i:Nat}{x:Keyed} (h:xs[i]?=some x):xs.toList.drop i=x::xs.toList.drop (i+1):=by
 rw[<- Array.getElem?_toList] at h;obtain⟨h1,rfl⟩:=List.getElem?_eq_some_iff.mp h;exact List.drop_eq_getElem_cons h1
theorem ext_to (xs:Array Keyed) (i:Nat):(xs.extract i).toList=xs.toList.drop i:=by
 rw[Array.toList_extract];simp only[List.extract_eq_drop_take];exact List.take_of_length_le (by simp)
theorem ext_tk (xs:Array Keyed) (i k:Nat):(xs.extract i (i+k)).toList=(xs.toList.drop i).take k:=by
 rw[Array.toList_extract,List.extract_eq_drop_take,Nat.add_sub_cancel_left]
theorem atA {xs:Array Keyed}{i:Nat} (h:i<xs.size):xs[i]?=some xs[i]:=Array.getElem?_eq_getElem h
noncomputable def leR (rk:Keyed->Nat) (x y:Keyed):Prop:=rk x<=rk y
noncomputable def geR (rk:Keyed->Nat) (x y:Keyed):Prop:=rk y<=rk x
noncomputable def MR (rk:Keyed->Nat) (T:List Keyed) (r:Array Keyed):Prop:=r.toList.Perm T/\r.toList.Pairwise (leR rk)
noncomputable abbrev gst (st:SortSt) (g:Nat):SortSt:=SortSt.mk' (kindOf st) (arrOf st) (pendingOf st) g (failedOf st)
noncomputable def setG':Nat->StateT SortSt Sem Unit:=sortPriv% PySem.Builtin.setMinGallop
section
variable {prog:Program}{w:World}{A:Around}{E:Value->Shared->Prop}{s:Shared}{κ:SortKind}{rk:Keyed->Nat}{M:Keyed->Prop}
theorem wpS_setG {st:SortSt}{g0 g:Nat}{Q:Unit->SortSt->Prop} (h:Q () (gst st g)):wpS (model prog w) A E s (setG' g) Q (gst st g0):=wpS_modify h
theorem wpS_ite {σ α:Type}{c:Prop} [Decidable c] {m m':StateT σ Sem α}{Q:α->σ->Prop}{st:σ} (h1:c->wpS (model prog w) A E s m Q st) (h2:¬ c->wpS (model prog w) A E s m' Q st):wpS (model prog w) A E s (if c then m else m') Q st:=by
 by_cases h:c
 ·rw[if_pos h];exact h1 h
 ·rw[if_neg h];exact h2 h
variable {a b:Array Keyed}{T:List Keyed}{out:Array Keyed}{ia ib:Nat}
theorem lo_done (h:Gm (leR rk) T out.toList (a.toList.drop ia) (b.toList.drop ib)) (e:ib=b.size\/ia=a.size):MR rk T (out++a.extract ia++b.extract ib):=by
 unfold MR;rw[Array.toList_append,Array.toList_append,ext_to,ext_to]
 rcases e with rfl | rfl
 ·have e0:b.toList.drop b.size=[]:=List.drop_of_length_le (by simp)
  rw[e0] at h ⊢;rw[List.append_nil];exact h.endP
 ·have e0:a.toList.drop a.size=[]:=List.drop_of_length_le (by simp)
  rw[e0] at h ⊢;rw[List.append_nil];exact h.swap.endP
theorem lo_last (h:Gm (leR rk) T out.toList (a.toList.drop ia) (b.toList.drop ib)) {z:Keyed} (hz:a.toList.drop ia=[z]) (hb:∀ y∈b.toList,rk y<=rk z):MR rk T (out++b.extract ib++a.extract ia):=by
 unfold MR;rw[Array.toList_append,Array.toList_append,ext_to,ext_to];refine h.endL fun y hy x hx=>?_
 rw[hz] at hx;rw[List.mem_singleton.mp hx];exact hb y (List.mem_of_mem_drop hy)
theorem mem_drop_ge {xs:Array Keyed} (so:xs.toList.Pairwise (leR rk)) {i:Nat}{x:Keyed} (h:xs[i]?=some x):∀ y∈xs.toList.drop i,rk x<=rk y:=fun y hy=>by
 have s2:=so.drop (i:=i);rw[drop1 h] at s2 hy
 rcases List.mem_cons.mp hy with rfl | hy
 ·exact Nat.le_refl _
 ·exact (List.pairwise_cons.mp s2).1 y hy
theorem so_at {xs:Array Keyed} (so:xs.toList.Pairwise (leR rk)) {i j:Nat}{x y:Keyed} (hi:xs[i]?=some x) (hj:xs[j]?=some y) (hij:i<=j):rk x<=rk y:=by
 refine mem_drop_ge so hi y ?_;rw[<- Array.getElem?_toList] at hj;have:(xs.toList.drop i)[j-i]?=some y:=by rw[List.getElem?_drop,show i+(j-i)=j by omega];exact hj
 exact List.mem_of_getElem? this
theorem gal_ok (C:Cmp prog w A s κ rk M) {st:SortSt} (hk:kindOf st=κ) {left:Bool}{key:Keyed}{arr:Array Keyed}{base n hint:Nat} (mk:M key) (am:∀ x∈arr.toList,M x) (hn:base+n<=arr.size) (hh:hint<n)
  (so:∀ i j,base<=i->i<=j->j<base+n->∀ x y,arr[i]?=some x->arr[j]?=some y->rk x<=rk y) {Q:Option Nat->SortSt->Prop}
  (h:∀ k,k<=n->(∀ i x,i<k->arr[base+i]?=some x->if left=true then rk x<rk key else rk x<=rk key)->(∀ i x,k<=i->i<n->arr[base+i]?=some x->if left=true then rk key<=rk x else rk key<rk x)->Q (some k) st) :
  wpS (model prog w) A E s (gallop' left key arr base n hint) Q st:=by
 have get:∀ i,i<n->arr[base+i]?=some (arr.getD (base+i) key):=fun i hi=>by
  have:base+i<arr.size:=by omega
  rw[Array.getD_eq_getD_getElem?,atA this];rfl
 have bt:∀ i,bey rk left key (arr.getD (base+i) key)=true↔if left=true then rk (arr.getD (base+i) key)<rk key else rk (arr.getD (base+i) key)<=rk key:=fun i=>by
  unfold bey;cases left <;> simp
 refine gallop_ok C hk mk (fun i=>arr.getD (base+i) key) (fun i hi=>⟨get i hi,am _ ?_⟩) hh (fun i j hij hj z=>?_) fun k hc=>h k hc.1 (fun i x hi hx=>?_) fun i x hi hn' hx=>?_
 ·have:=get i hi
  rw[<- Array.getElem?_toList] at this;exact List.mem_of_getElem? this
 ·have q:=so (base+i) (base+j) (by omega) (by omega) (by omega) _ _ (get i (by omega)) (get j hj)
  rw[bt] at z ⊢;cases left with
  |true=>rw[if_pos rfl] at z ⊢;omega
  |false=>rw[if_neg Bool.false_ne_true] at z ⊢;omega
 ·have q:=(bt i).mp (hc.2.1 i hi)
  have e:=get i (by have:=hc.1;omega)
  rw[hx] at e;rw[<- Option.some.inj e] at q;exact q
 ·have q:=fun z=>hc.2.2 i hi hn' ((bt i).mpr z)
  have e:=get i hn';rw[hx] at e;rw[<- Option.some.inj e] at q;cases left with
  |true=>rw[if_pos rfl];exact Nat.le_of_not_lt fun z=>q (by rw[if_pos rfl];exact z)
  |false=>rw[if_neg Bool.false_ne_true];exact Nat.lt_of_not_le fun z=>q (by rw[if_neg Bool.false_ne_true];exact z)
end
end Fx
set_option maxRecDepth 100000
namespace Fx
open PySem PySem.W PyProof.Rows
section
variable {prog:Program}{w:World}{A:Around}{E:Value->Shared->Prop}{s:Shared}{κ:SortKind}{rk:Keyed->Nat}{M:Keyed->Prop}
variable {a b:Array Keyed}{T:List Keyed}{out:Array Keyed}{ia ib:Nat}{x y z:Keyed}
theorem lo_pushA (h:Gm (leR rk) T out.toList (a.toList.drop ia) (b.toList.drop ib)) (hx:a[ia]?=some x) (hl:∀ y∈b.toList.drop ib,rk x<=rk y):Gm (leR rk) T (out.push x).toList (a.toList.drop (ia+1)) (b.toList.drop ib):=by
 rw[drop1 hx] at h;rw[Array.toList_push];exact Gm.takeP (P1:=[x]) h fun u hu y hy=>by rw[List.mem_singleton.mp hu];exact hl y hy
theorem lo_pushB (h:Gm (leR rk) T out.toList (a.toList.drop ia) (b.toList.drop ib)) (hy:b[ib]?=some y) (hl:∀ x∈a.toList.drop ia,rk y<=rk x):Gm (leR rk) T (out.push y).toList (a.toList.drop ia) (b.toList.drop (ib+1)):=(lo_pushA h.swap hy hl).swap
theorem mem_dt {xs:Array Keyed}{i k:Nat} (h:x∈(xs.toList.drop i).take k):∃ j,j<k/\xs[i+j]?=some x:=by
 obtain⟨j,hj⟩:=List.mem_iff_getElem?.mp h;rw[List.getElem?_take] at hj
 split at hj
 ·rename_i c
  rw[List.getElem?_drop,Array.getElem?_toList] at hj;exact⟨j,c,hj⟩
 ·cases hj
theorem mem_d {xs:Array Keyed}{i:Nat} (h:x∈xs.toList.drop i):∃ j,xs[i+j]?=some x:=by
 obtain⟨j,hj⟩:=List.mem_iff_getElem?.mp h;rw[List.getElem?_drop,Array.getElem?_toList] at hj;exact⟨j,hj⟩
theorem lo_takeA (h:Gm (leR rk) T out.toList (a.toList.drop ia) (b.toList.drop ib)) (k:Nat) (hl:∀ i x,i<k->a[ia+i]?=some x->∀ y∈b.toList.drop ib,rk x<=rk y):Gm (leR rk) T (out++a.extract ia (ia+k)).toList (a.toList.drop (ia+k)) (b.toList.drop ib):=by
 rw[Array.toList_append,ext_tk];have e:a.toList.drop ia=(a.toList.drop ia).take k++a.toList.drop (ia+k):=by rw[<- List.drop_drop,List.take_append_drop]
 rw[e] at h
 exact h.takeP fun x hx y hy=>by
  obtain⟨j,hj,hx⟩:=mem_dt hx;exact hl j x hj hx y hy
theorem lo_takeB (h:Gm (leR rk) T out.toList (a.toList.drop ia) (b.toList.drop ib)) (k:Nat) (hl:∀ i y,i<k->b[ib+i]?=some y->∀ x∈a.toList.drop ia,rk y<=rk x):Gm (leR rk) T (out++b.extract ib (ib+k)).toList (a.toList.drop ia) (b.toList.drop (ib+k)):=(lo_takeA h.swap k hl).swap
noncomputable abbrev LG (rk:Keyed->Nat) (a b:Array Keyed) (out:Array Keyed) (ia ib:Nat):Prop:=Gm (leR rk) (a.toList++b.toList) out.toList (a.toList.drop ia) (b.toList.drop ib)
theorem last1 (hz:a[a.size-1]?=some z) (e:ia+1=a.size):a.toList.drop ia=[z]:=by
 have:a[ia]?=some z:=by rw[show ia=a.size-1 by omega];exact hz
 rw[drop1 this,List.drop_of_length_le (by simp;omega)]
theorem lo_ok (C:Cmp prog w A s κ rk M) {st:SortSt} (hk:kindOf st=κ) (ma:∀ x∈a.toList,M x) (mb:∀ x∈b.toList,M x) (sa:a.toList.Pairwise (leR rk)) (sb:b.toList.Pairwise (leR rk)) (hz:a[a.size-1]?=some z) (hb:∀ y∈b.toList,rk y<=rk z)
  (hy:b[0]?=some y) (h0:∀ x∈a.toList,rk y<=rk x) {g0:Nat}{Q:Array Keyed->SortSt->Prop} (h:∀ r g,MR rk (a.toList++b.toList) r->Q r (gst st g)):wpS (model prog w) A E s (mergeLo' a b) Q (gst st g0):=by
 have mA:∀ {i:Nat}{x:Keyed},a[i]?=some x->M x:=fun {i x} e=>ma x (by rw[<- Array.getElem?_toList] at e;exact List.mem_of_getElem? e)
 have mB:∀ {i:Nat}{x:Keyed},b[i]?=some x->M x:=fun {i x} e=>mb x (by rw[<- Array.getElem?_toList] at e;exact List.mem_of_getElem? e)
 have as:0<a.size:=by
  have:=(Array.getElem?_eq_some_iff.mp hz).1;omega
 have bs:0<b.size:=(Array.getElem?_eq_some_iff.mp hy).1;have soA:∀ (i j:Nat) (x y:Keyed),a[i]?=some x->a[j]?=some y->i<=j->rk x<=rk y:=fun i j x y e1 e2 e3=>so_at sa e1 e2 e3
 have soB:∀ (i j:Nat) (x y:Keyed),b[i]?=some x->b[j]?=some y->i<=j->rk x<=rk y:=fun i j x y e1 e2 e3=>so_at sb e1 e2 e3
 have start:LG rk a b #[] 0 0:=⟨by simp,List.Pairwise.nil,fun x hx=>(by cases hx),fun x hx=>(by cases hx),by simpa using sa,by simpa using sb⟩
 have G0:LG rk a b #[y] 0 1:=lo_pushB start hy (by simpa using h0)
 refine wpS_bind (wpS_lift (wpAny_rule ⟨rfl,?_⟩));refine wpS_bind (wpS_elem hy ?_);dsimp only
 by_cases c1:1=b.size
 ·rw[if_pos (by simpa using c1)]
  exact wpS_pure (h _ _ (lo_done G0 (.inl c1)))
 rw[if_neg (by simpa using c1)]
 by_cases c2:0+1=a.size
 ·rw[if_pos (by simpa using c2)]
  exact wpS_pure (h _ _ (lo_last G0 (last1 hz c2) hb))
 rw[if_neg (by simpa using c2)]
 refine wpS_bind (wpS_get (wpS_bind ?_));refine wpS_mono (wpS_forRange (I:=fun x c st'=>∃ g,st'=gst st g/\∃ out' ia' ib' mg,c=(none,out',ia',ib',mg)/\LG rk a b out' ia' ib'/\ia'+1<a.size/\ib'<b.size/\x<=ia'+ib')
  (Q:=fun c st'=>∃ g,st'=gst st g/\∃ r,c.1=some r/\MR rk (a.toList++b.toList) r) ?_ ?_ ⟨_,rfl,_,_,_,_,rfl,G0,by omega,by omega,Nat.zero_le _⟩) ?_
 ·rintro x c st' _ hx ⟨g,rfl,out',ia',ib',mg,rfl,G',k1,k2,k3⟩
  dsimp only;refine wpS_bind (wpS_mono (wpS_forRange (I:=fun x c st'=>st'=gst st g/\∃ out2 ia2 ib2 ac bc,c=(none,out2,ia2,ib2,ac,bc)/\LG rk a b out2 ia2 ib2/\ia2+1<a.size/\ib2<b.size/\ia'+ib'+x<=ia2+ib2)
   (Q:=fun c st'=>st'=gst st g/\((∃ r,c.1=some r/\MR rk (a.toList++b.toList) r)\/∃ out2 ia2 ib2 ac bc,c=(none,out2,ia2,ib2,ac,bc)/\LG rk a b out2 ia2 ib2/\ia2+1<a.size/\ib2<b.size/\ia'+ib'+1<=ia2+ib2)) ?_ ?_ ⟨rfl,_,_,_,_,_,rfl,G',k1,k2,Nat.le_refl _⟩) ?_)
  ·rintro x c st' _ hx ⟨rfl,out2,ia2,ib2,ac,bc,rfl,G2,l1,l2,l3⟩
   dsimp only;have eb:=atA l2;have ea:=atA (xs:=a) (i:=ia2) (by omega)
   refine wpS_bind (wpS_elem eb (wpS_bind (wpS_elem ea (wpS_bind (C.lt (st:=gst st g) hk (mB eb) (mA ea) ?_)))))
   by_cases q:rk b[ib2]<rk a[ia2]
   ·rw[decide_eq_true q]
    dsimp only;rw[if_pos rfl];refine wpS_bind (wpS_elem eb ?_);have G3:=lo_pushB G2 eb fun x hx=>Nat.le_trans (Nat.le_of_lt q) (mem_drop_ge sa ea x hx)
    by_cases c:ib2+1=b.size
    ·rw[if_pos (by simpa using c)]
     exact wpS_pure ⟨rfl,.inl ⟨_,rfl,lo_done G3 (.inl c)⟩⟩
    ·rw[if_neg (by simpa using c)]
     split
     ·exact wpS_pure ⟨rfl,.inr ⟨_,_,_,_,_,rfl,G3,l1,by omega,by omega⟩⟩
     ·exact wpS_pure ⟨rfl,_,_,_,_,_,rfl,G3,l1,by omega,by omega⟩
   ·rw[decide_eq_false q]
    dsimp only;rw[if_neg Bool.false_ne_true];refine wpS_bind (wpS_elem ea ?_);have G3:=lo_pushA G2 ea fun y hy=>Nat.le_trans (Nat.le_of_not_lt q) (mem_drop_ge sb eb y hy)
    by_cases c:ia2+1+1=a.size
    ·rw[if_pos (by simpa using c)]
     exact wpS_pure ⟨rfl,.inl ⟨_,rfl,lo_last G3 (last1 hz c) hb⟩⟩
    ·rw[if_neg (by simpa using c)]
     split
     ·exact wpS_pure ⟨rfl,.inr ⟨_,_,_,_,_,rfl,G3,by omega,l2,by omega⟩⟩
     ·exact wpS_pure ⟨rfl,_,_,_,_,_,rfl,G3,by omega,l2,by omega⟩
  ·rintro c st' ⟨rfl,out2,ia2,ib2,ac,bc,rfl,G2,l1,l2,l3⟩
   omega
  ·rintro c st' ⟨rfl,⟨r,e,hr⟩ | ⟨out2,ia2,ib2,ac,bc,rfl,G2,l1,l2,l3⟩⟩
   ·obtain⟨c1,c2⟩:=c
    dsimp only at e;subst e;exact wpS_pure ⟨g,rfl,r,rfl,hr⟩
   dsimp only;refine wpS_bind (wpS_lift (wpAny_rule ⟨rfl,?_⟩));refine wpS_bind (wpS_mono (wpS_forRange (I:=fun x c st'=>∃ g,st'=gst st g/\∃ out3 ia3 ib3 mg ac bc,c=(none,out3,ia3,ib3,mg,ac,bc)/\LG rk a b out3 ia3 ib3/\ia3+1<a.size/\ib3<b.size/\ia2+ib2+x<=ia3+ib3)
    (Q:=fun c st'=>∃ g,st'=gst st g/\((∃ r,c.1=some r/\MR rk (a.toList++b.toList) r)\/∃ out3 ia3 ib3 mg ac bc,c=(none,out3,ia3,ib3,mg,ac,bc)/\LG rk a b out3 ia3 ib3/\ia3+1<a.size/\ib3<b.size/\ia2+ib2<=ia3+ib3)) ?_ ?_ ⟨g,rfl,_,_,_,_,_,_,rfl,G2,l1,l2,Nat.le_refl _⟩) ?_)
   ·rintro x c st' _ hx ⟨g,rfl,out3,ia3,ib3,mg,ac,bc,rfl,G3,m1,m2,m3⟩
    have eb:=atA m2;refine wpS_ite (fun _=>?_) (fun _=>?_)
    all_goals
     refine wpS_bind (wpS_setG (wpS_bind (wpS_elem eb (wpS_bind (gal_ok (left:=false) (arr:=a) (base:=ia3) (n:=a.size-ia3) (hint:=0) C (by exact hk) (mB eb) ma (by omega) (by omega) (fun i j _ hij _ x y e1 e2=>soA i j x y e1 e2 hij) fun k kn u1 u2=>?_)))))
     have G4:=lo_takeA G3 k (fun i x hi hx y hy=>Nat.le_trans (u1 i x hi hx) (mem_drop_ge sb eb y hy))
     have v2:∀ x∈a.toList.drop (ia3+k),rk b[ib3]<=rk x:=fun x hx=>by
      obtain⟨j,hj⟩:=mem_d hx;rw[Nat.add_assoc] at hj;have:=(Array.getElem?_eq_some_iff.mp hj).1;exact Nat.le_of_lt (u2 (k+j) x (by omega) (by omega) hj)
     refine wpS_ite (fun c=>?_) (fun c=>?_)
     ·refine wpS_ite (fun c3=>wpS_pure ⟨_,rfl,.inl ⟨_,rfl,lo_last G4 (last1 hz (by simpa using c3)) hb⟩⟩) fun c3=>?_
      have c3:¬ ia3+k+1=a.size:=by simpa using c3
      refine wpS_ite (fun c4=>wpS_pure ⟨_,rfl,.inl ⟨_,rfl,lo_done G4 (.inr (by simpa using c4))⟩⟩) fun c4=>?_
      have c4:¬ ia3+k=a.size:=by simpa using c4
      refine wpS_bind (wpS_elem eb ?_);have G5:=lo_pushB G4 eb v2;refine wpS_ite (fun c=>wpS_pure ⟨_,rfl,.inl ⟨_,rfl,lo_done G5 (.inl (by simpa using c))⟩⟩) fun c=>?_
      have n2:ib3+1<b.size:=by
       have:¬ ib3+1=b.size:=by simpa using c
       omega
      have ea:=atA (xs:=a) (i:=ia3+k) (by omega)
      refine wpS_bind (wpS_elem ea (wpS_bind (gal_ok (left:=true) (arr:=b) (base:=ib3+1) (n:=b.size-(ib3+1)) (hint:=0) C (by exact hk) (mA ea) mb (by omega) (by omega) (fun i j _ hij _ x y e1 e2=>soB i j x y e1 e2 hij) fun k2 kn2 w1 w2=>?_)))
      have G6:=lo_takeB G5 k2 (fun i y hi hy x hx=>Nat.le_trans (Nat.le_of_lt (w1 i y hi hy)) (mem_drop_ge sa ea x hx))
      have v3:∀ y∈b.toList.drop (ib3+1+k2),rk a[ia3+k]<=rk y:=fun y hy=>by
       obtain⟨j,hj⟩:=mem_d hy;rw[Nat.add_assoc (ib3+1)] at hj;have:=(Array.getElem?_eq_some_iff.mp hj).1;exact w2 (k2+j) y (by omega) (by omega) hj
      refine wpS_ite (fun c2=>?_) (fun c2=>?_)
      ·refine wpS_ite (fun c3=>wpS_pure ⟨_,rfl,.inl ⟨_,rfl,lo_done G6 (.inl (by simpa using c3))⟩⟩) fun c3=>?_
       have c3:¬ ib3+1+k2=b.size:=by simpa using c3
       refine wpS_bind (wpS_elem ea ?_);have G7:=lo_pushA G6 ea v3;refine wpS_ite (fun c4=>wpS_pure ⟨_,rfl,.inl ⟨_,rfl,lo_last G7 (last1 hz (by simpa using c4)) hb⟩⟩) fun c4=>?_
       have c4:¬ ia3+k+1+1=a.size:=by simpa using c4
       exact wpS_ite (fun _=>wpS_pure ⟨_,rfl,.inr ⟨_,ia3+k+1,ib3+1+k2,_,_,_,rfl,G7,by omega,by omega,by omega⟩⟩) fun _=>wpS_pure ⟨_,rfl,_,ia3+k+1,ib3+1+k2,_,_,_,rfl,G7,by omega,by omega,by omega⟩
      ·obtain rfl:k2=0:=by omega
       refine wpS_bind (wpS_elem ea ?_);have G7:=lo_pushA G5 ea v3;refine wpS_ite (fun c4=>wpS_pure ⟨_,rfl,.inl ⟨_,rfl,lo_last G7 (last1 hz (by simpa using c4)) hb⟩⟩) fun c4=>?_
       have c4:¬ ia3+k+1+1=a.size:=by simpa using c4
       exact wpS_ite (fun _=>wpS_pure ⟨_,rfl,.inr ⟨_,ia3+k+1,ib3+1,_,_,_,rfl,G7,by omega,by omega,by omega⟩⟩) fun _=>wpS_pure ⟨_,rfl,_,ia3+k+1,ib3+1,_,_,_,rfl,G7,by omega,by omega,by omega⟩
     ·obtain rfl:k=0:=by omega
      refine wpS_bind (wpS_elem eb ?_);have G5:=lo_pushB G3 eb v2;refine wpS_ite (fun c=>wpS_pure ⟨_,rfl,.inl ⟨_,rfl,lo_done G5 (.inl (by simpa using c))⟩⟩) fun c=>?_
      have n2:ib3+1<b.size:=by
       have:¬ ib3+1=b.size:=by simpa using c
       omega
      have ea:=atA (xs:=a) (i:=ia3) (by omega)
      refine wpS_bind (wpS_elem ea (wpS_bind (gal_ok (left:=true) (arr:=b) (base:=ib3+1) (n:=b.size-(ib3+1)) (hint:=0) C (by exact hk) (mA ea) mb (by omega) (by omega) (fun i j _ hij _ x y e1 e2=>soB i j x y e1 e2 hij) fun k2 kn2 w1 w2=>?_)))
      have G6:=lo_takeB G5 k2 (fun i y hi hy x hx=>Nat.le_trans (Nat.le_of_lt (w1 i y hi hy)) (mem_drop_ge sa ea x hx))
      have v3:∀ y∈b.toList.drop (ib3+1+k2),rk a[ia3]<=rk y:=fun y hy=>by
       obtain⟨j,hj⟩:=mem_d hy;rw[Nat.add_assoc (ib3+1)] at hj;have:=(Array.getElem?_eq_some_iff.mp hj).1;exact w2 (k2+j) y (by omega) (by omega) hj
      refine wpS_ite (fun c2=>?_) (fun c2=>?_)
      ·refine wpS_ite (fun c3=>wpS_pure ⟨_,rfl,.inl ⟨_,rfl,lo_done G6 (.inl (by simpa using c3))⟩⟩) fun c3=>?_
       have c3:¬ ib3+1+k2=b.size:=by simpa using c3
       refine wpS_bind (wpS_elem ea ?_);have G7:=lo_pushA G6 ea v3;refine wpS_ite (fun c4=>wpS_pure ⟨_,rfl,.inl ⟨_,rfl,lo_last G7 (last1 hz (by simpa using c4)) hb⟩⟩) fun c4=>?_
       have c4:¬ ia3+1+1=a.size:=by simpa using c4
       exact wpS_ite (fun _=>wpS_pure ⟨_,rfl,.inr ⟨_,ia3+1,ib3+1+k2,_,_,_,rfl,G7,by omega,by omega,by omega⟩⟩) fun _=>wpS_pure ⟨_,rfl,_,ia3+1,ib3+1+k2,_,_,_,rfl,G7,by omega,by omega,by omega⟩
      ·obtain rfl:k2=0:=by omega
       refine wpS_bind (wpS_elem ea ?_);have G7:=lo_pushA G5 ea v3;refine wpS_ite (fun c4=>wpS_pure ⟨_,rfl,.inl ⟨_,rfl,lo_last G7 (last1 hz (by simpa using c4)) hb⟩⟩) fun c4=>?_
       have c4:¬ ia3+1+1=a.size:=by simpa using c4
       exact wpS_ite (fun _=>wpS_pure ⟨_,rfl,.inr ⟨_,ia3+1,ib3+1,_,_,_,rfl,G7,by omega,by omega,by omega⟩⟩) fun _=>wpS_pure ⟨_,rfl,_,ia3+1,ib3+1,_,_,_,rfl,G7,by omega,by omega,by omega⟩
   ·rintro c st' ⟨g,rfl,out3,ia3,ib3,mg,ac,bc,rfl,G3,m1,m2,m3⟩
    omega
   ·rintro c st' ⟨g,rfl,⟨r,e,hr⟩ | ⟨out3,ia3,ib3,mg,ac,bc,rfl,G3,m1,m2,m3⟩⟩
    ·obtain⟨c1,c2⟩:=c
     dsimp only at e;subst e;exact wpS_pure ⟨g,rfl,r,rfl,hr⟩
    ·dsimp only
     exact wpS_bind (wpS_setG (wpS_pure ⟨_,rfl,_,_,_,_,rfl,G3,m1,m2,by omega⟩))
 ·rintro c st' ⟨g,rfl,out',ia',ib',mg,rfl,G',k1,k2,k3⟩
  omega
 ·rintro c st' ⟨g,rfl,r,e,hr⟩
  obtain⟨c1,c2⟩:=c;dsimp only at e;subst e;exact wpS_pure (h r g hr)
end
end Fx
set_option maxRecDepth 100000
namespace Fx
open PySem PySem.W PyProof.Rows
section
variable {prog:Program}{w:World}{A:Around}{E:Value->Shared->Prop}{s:Shared}{κ:SortKind}{rk:Keyed->Nat}{M:Keyed->Prop}
variable {a b:Array Keyed}{T:List Keyed}{out:Array Keyed}{na nb:Nat}{x y z:Keyed}
noncomputable abbrev HGm (rk:Keyed->Nat) (T:List Keyed) (a b out:Array Keyed) (na nb:Nat):Prop:=Gm (geR rk) T out.toList (a.toList.take na).reverse (b.toList.take nb).reverse
theorem rev1 {xs:Array Keyed}{n:Nat} (h0:0<n) (hx:xs[n-1]?=some x):(xs.toList.take n).reverse=x::(xs.toList.take (n-1)).reverse:=by
 obtain⟨m,rfl⟩:∃ m,n=m+1:=⟨n-1,by omega⟩
 rw[Nat.add_sub_cancel] at hx ⊢;rw[<- Array.getElem?_toList] at hx;rw[List.take_succ,hx,List.reverse_append];rfl
theorem mem_t {xs:Array Keyed}{k:Nat} (h:x∈xs.toList.take k):∃ j,j<k/\xs[j]?=some x:=by
 have:=mem_dt (xs:=xs) (i:=0) (k:=k) (by rw[List.drop_zero];exact h)
 obtain⟨j,hj,e⟩:=this;rw[Nat.zero_add] at e;exact⟨j,hj,e⟩
theorem mem_take_le {xs:Array Keyed} (so:xs.toList.Pairwise (leR rk)) {n:Nat} (h0:0<n) (hx:xs[n-1]?=some x):∀ y∈xs.toList.take n,rk y<=rk x:=fun y hy=>by
 obtain⟨j,hj,e⟩:=mem_t hy;exact so_at so e hx (by omega)
theorem hi_pushA (h:HGm rk T a b out na nb) (h0:0<na) (hx:a[na-1]?=some x) (hl:∀ y∈b.toList.take nb,rk y<=rk x):HGm rk T a b (out.push x) (na-1) nb:=by
 unfold HGm at h ⊢;rw[rev1 h0 hx] at h;rw[Array.toList_push];exact Gm.takeP (P1:=[x]) h fun u hu y hy=>by rw[List.mem_singleton.mp hu];exact hl y (List.mem_reverse.mp hy)
theorem hi_pushB (h:HGm rk T a b out na nb) (h0:0<nb) (hy:b[nb-1]?=some y) (hl:∀ x∈a.toList.take na,rk x<=rk y):HGm rk T a b (out.push y) na (nb-1):=Gm.swap (hi_pushA (a:=b) (b:=a) (Gm.swap h) h0 hy hl)
theorem ext_rv (xs:Array Keyed) (i j:Nat):(xs.extract i j).reverse.toList=((xs.toList.take j).drop i).reverse:=by
 rw[Array.toList_reverse,Array.toList_extract,List.extract_eq_drop_take,List.drop_take]
theorem hi_takeA {k:Nat} (h:HGm rk T a b out na nb) (hk:k<=na) (hl:∀ i x,k<=i->i<na->a[i]?=some x->∀ y∈b.toList.take nb,rk y<=rk x):HGm rk T a b (out++(a.extract k na).reverse) k nb:=by
 unfold HGm at h ⊢
 have e:a.toList.take na=a.toList.take k++(a.toList.take na).drop k:=by
  have:=List.take_append_drop k (a.toList.take na);rw[List.take_take,Nat.min_eq_left hk] at this;exact this.symm
 rw[Array.toList_append,ext_rv];rw[e,List.reverse_append] at h;refine h.takeP fun x hx y hy=>?_
 have hx:=List.mem_reverse.mp hx;rw[List.drop_take] at hx;obtain⟨j,hj,ex⟩:=mem_dt hx;exact hl (k+j) x (by omega) (by omega) ex y (List.mem_reverse.mp hy)
theorem hi_takeB {k:Nat} (h:HGm rk T a b out na nb) (hk:k<=nb) (hl:∀ i y,k<=i->i<nb->b[i]?=some y->∀ x∈a.toList.take na,rk x<=rk y):HGm rk T a b (out++(b.extract k nb).reverse) na k:=Gm.swap (hi_takeA (a:=b) (b:=a) (Gm.swap h) hk hl)
theorem mr_rev {l:List Keyed}{r:Array Keyed} (e:r.toList=l.reverse) (hp:l.Perm T) (hs:l.Pairwise (geR rk)):MR rk T r:=by
 unfold MR;rw[e];exact⟨(List.reverse_perm l).trans hp,List.pairwise_reverse.mpr hs⟩
theorem ext_0 (xs:Array Keyed) (n:Nat):(xs.extract 0 n).toList=xs.toList.take n:=by
 rw[Array.toList_extract,List.extract_eq_drop_take,List.drop_zero,Nat.sub_zero]
theorem hi_done (h:HGm rk T a b out na nb) (e:na=0\/nb=0):MR rk T (a.extract 0 na++b.extract 0 nb++out.reverse):=by
 unfold HGm at h
 rcases e with rfl | rfl
 ·rw[List.take_zero,List.reverse_nil] at h
  obtain⟨p1,p2⟩:=h.swap.endP;refine mr_rev ?_ p1 p2;rw[Array.toList_append,Array.toList_append,ext_0,ext_0,Array.toList_reverse,List.reverse_append,List.reverse_reverse,List.take_zero,List.nil_append]
 ·rw[List.take_zero,List.reverse_nil] at h
  obtain⟨p1,p2⟩:=h.endP;refine mr_rev ?_ p1 p2;rw[Array.toList_append,Array.toList_append,ext_0,ext_0,Array.toList_reverse,List.reverse_append,List.reverse_reverse,List.take_zero,List.append_nil]
theorem hi_first (h:HGm rk T a b out na nb) (hy:b[0]?=some y) (e:nb=1) (h0:∀ x∈a.toList,rk y<=rk x):MR rk T (b.extract 0 nb++a.extract 0 na++out.reverse):=by
 subst e;unfold HGm at h;have e1:=rev1 (xs:=b) (n:=1) Nat.one_pos hy;rw[show 1-1=0 from rfl,List.take_zero,List.reverse_nil] at e1
 obtain⟨p1,p2⟩:=h.swap.endL fun u hu v hv=>by
  rw[e1] at hv;rw[List.mem_singleton.mp hv];exact h0 u (List.mem_of_mem_take (List.mem_reverse.mp hu))
 refine mr_rev ?_ p1 p2;rw[Array.toList_append,Array.toList_append,ext_0,ext_0,Array.toList_reverse,List.reverse_append,List.reverse_append,List.reverse_reverse,List.reverse_reverse,List.append_assoc]
noncomputable abbrev HG (rk:Keyed->Nat) (a b out:Array Keyed) (na nb:Nat):Prop:=HGm rk (a.toList++b.toList) a b out na nb
theorem hi_ok (C:Cmp prog w A s κ rk M) {st:SortSt} (hk:kindOf st=κ) (ma:∀ x∈a.toList,M x) (mb:∀ x∈b.toList,M x) (sa:a.toList.Pairwise (leR rk)) (sb:b.toList.Pairwise (leR rk)) (hz:a[a.size-1]?=some z) (hb:∀ y∈b.toList,rk y<=rk z)
  (hy:b[0]?=some y) (h0:∀ x∈a.toList,rk y<=rk x) {g0:Nat}{Q:Array Keyed->SortSt->Prop} (h:∀ r g,MR rk (a.toList++b.toList) r->Q r (gst st g)):wpS (model prog w) A E s (mergeHi' a b) Q (gst st g0):=by
 have mA:∀ {i:Nat}{x:Keyed},a[i]?=some x->M x:=fun {i x} e=>ma x (by rw[<- Array.getElem?_toList] at e;exact List.mem_of_getElem? e)
 have mB:∀ {i:Nat}{x:Keyed},b[i]?=some x->M x:=fun {i x} e=>mb x (by rw[<- Array.getElem?_toList] at e;exact List.mem_of_getElem? e)
 have as:0<a.size:=by
  have:=(Array.getElem?_eq_some_iff.mp hz).1;omega
 have bs:0<b.size:=(Array.getElem?_eq_some_iff.mp hy).1;have soA:∀ (i j:Nat) (x y:Keyed),a[i]?=some x->a[j]?=some y->i<=j->rk x<=rk y:=fun i j x y e1 e2 e3=>so_at sa e1 e2 e3
 have soB:∀ (i j:Nat) (x y:Keyed),b[i]?=some x->b[j]?=some y->i<=j->rk x<=rk y:=fun i j x y e1 e2 e3=>so_at sb e1 e2 e3
 have ta:a.toList.take a.size=a.toList:=List.take_of_length_le (by simp)
 have tb:b.toList.take b.size=b.toList:=List.take_of_length_le (by simp)
 have start:HG rk a b #[] a.size b.size:=by
  unfold HG HGm;rw[ta,tb];exact⟨(List.reverse_perm _).append (List.reverse_perm _),List.Pairwise.nil,fun x hx=>(by cases hx),fun x hx=>(by cases hx),List.pairwise_reverse.mpr sa,List.pairwise_reverse.mpr sb⟩
 have G0:HG rk a b #[z] (a.size-1) b.size:=hi_pushA start as hz (by rw[tb];exact hb)
 refine wpS_bind (wpS_lift (wpAny_rule ⟨rfl,?_⟩));refine wpS_bind (wpS_elem hz ?_);dsimp only
 by_cases c1:a.size-1=0
 ·rw[if_pos (by simpa using c1)]
  exact wpS_pure (h _ _ (hi_done G0 (.inl c1)))
 rw[if_neg (by simpa using c1)]
 by_cases c2:b.size=1
 ·rw[if_pos (by simpa using c2)]
  exact wpS_pure (h _ _ (hi_first G0 hy c2 h0))
 rw[if_neg (by simpa using c2)]
 refine wpS_bind (wpS_get (wpS_bind ?_));refine wpS_mono (wpS_forRange (I:=fun x c st'=>∃ g,st'=gst st g/\∃ na' nb' out' mg,c=(none,na',nb',out',mg)/\HG rk a b out' na' nb'/\(0<na'/\na'<=a.size)/\(1<nb'/\nb'<=b.size)/\x+na'+nb'<=a.size+b.size)
  (Q:=fun c st'=>∃ g,st'=gst st g/\∃ r,c.1=some r/\MR rk (a.toList++b.toList) r) ?_ ?_ ⟨_,rfl,_,_,_,_,rfl,G0,⟨by omega,by omega⟩,⟨by omega,by omega⟩,by omega⟩) ?_
 ·rintro x c st' _ hx ⟨g,rfl,na',nb',out',mg,rfl,G',k1,k2,k3⟩
  dsimp only;refine wpS_bind (wpS_mono (wpS_forRange (I:=fun x c st'=>st'=gst st g/\∃ na2 nb2 out2 ac bc,c=(none,na2,nb2,out2,ac,bc)/\HG rk a b out2 na2 nb2/\(0<na2/\na2<=a.size)/\(1<nb2/\nb2<=b.size)/\x+na2+nb2<=na'+nb')
   (Q:=fun c st'=>st'=gst st g/\((∃ r,c.1=some r/\MR rk (a.toList++b.toList) r)\/∃ na2 nb2 out2 ac bc,c=(none,na2,nb2,out2,ac,bc)/\HG rk a b out2 na2 nb2/\(0<na2/\na2<=a.size)/\(1<nb2/\nb2<=b.size)/\1+na2+nb2<=na'+nb')) ?_ ?_ ⟨rfl,_,_,_,_,_,rfl,G',k1,k2,by omega⟩) ?_)
  ·rintro x c st' _ hx ⟨rfl,na2,nb2,out2,ac,bc,rfl,G2,l1,l2,l3⟩
   dsimp only;have eb:=atA (xs:=b) (i:=nb2-1) (by omega)
   have ea:=atA (xs:=a) (i:=na2-1) (by omega)
   refine wpS_bind (wpS_elem eb (wpS_bind (wpS_elem ea (wpS_bind (C.lt (st:=gst st g) hk (mB eb) (mA ea) ?_)))))
   by_cases q:rk b[nb2-1]<rk a[na2-1]
   ·rw[decide_eq_true q]
    dsimp only;rw[if_pos rfl];refine wpS_bind (wpS_elem ea ?_);have G3:=hi_pushA G2 (by omega) ea fun y hy=>Nat.le_trans (mem_take_le sb (by omega) eb y hy) (Nat.le_of_lt q)
    by_cases c:na2-1=0
    ·rw[if_pos (by simpa using c)]
     exact wpS_pure ⟨rfl,.inl ⟨_,rfl,hi_done G3 (.inl c)⟩⟩
    ·rw[if_neg (by simpa using c)]
     split
     ·exact wpS_pure ⟨rfl,.inr ⟨_,_,_,_,_,rfl,G3,⟨by omega,by omega⟩,l2,by omega⟩⟩
     ·exact wpS_pure ⟨rfl,_,_,_,_,_,rfl,G3,⟨by omega,by omega⟩,l2,by omega⟩
   ·rw[decide_eq_false q]
    dsimp only;rw[if_neg Bool.false_ne_true];refine wpS_bind (wpS_elem eb ?_);have G3:=hi_pushB G2 (by omega) eb fun x hx=>Nat.le_trans (mem_take_le sa (by omega) ea x hx) (Nat.le_of_not_lt q)
    by_cases c:nb2-1=1
    ·rw[if_pos (by simpa using c)]
     exact wpS_pure ⟨rfl,.inl ⟨_,rfl,hi_first G3 hy c h0⟩⟩
    ·rw[if_neg (by simpa using c)]
     split
     ·exact wpS_pure ⟨rfl,.inr ⟨_,_,_,_,_,rfl,G3,l1,⟨by omega,by omega⟩,by omega⟩⟩
     ·exact wpS_pure ⟨rfl,_,_,_,_,_,rfl,G3,l1,⟨by omega,by omega⟩,by omega⟩
  ·rintro c st' ⟨rfl,na2,nb2,out2,ac,bc,rfl,G2,l1,l2,l3⟩
   omega
  ·rintro c st' ⟨rfl,⟨r,e,hr⟩ | ⟨na2,nb2,out2,ac,bc,rfl,G2,l1,l2,l3⟩⟩
   ·obtain⟨c1,c2⟩:=c
    dsimp only at e;subst e;exact wpS_pure ⟨g,rfl,r,rfl,hr⟩
   dsimp only;refine wpS_bind (wpS_lift (wpAny_rule ⟨rfl,?_⟩));refine wpS_bind (wpS_mono (wpS_forRange (I:=fun x c st'=>∃ g,st'=gst st g/\∃ na3 nb3 out3 mg ac bc,c=(none,na3,nb3,out3,mg,ac,bc)/\HG rk a b out3 na3 nb3/\(0<na3/\na3<=a.size)/\(1<nb3/\nb3<=b.size)/\x+na3+nb3<=na2+nb2)
    (Q:=fun c st'=>∃ g,st'=gst st g/\((∃ r,c.1=some r/\MR rk (a.toList++b.toList) r)\/∃ na3 nb3 out3 mg ac bc,c=(none,na3,nb3,out3,mg,ac,bc)/\HG rk a b out3 na3 nb3/\(0<na3/\na3<=a.size)/\(1<nb3/\nb3<=b.size)/\na3+nb3<=na2+nb2)) ?_ ?_ ⟨g,rfl,_,_,_,_,_,_,rfl,G2,l1,l2,by omega⟩) ?_)
   ·rintro x c st' _ hx ⟨g,rfl,na3,nb3,out3,mg,ac,bc,rfl,G3,m1,m2,m3⟩
    have eb:=atA (xs:=b) (i:=nb3-1) (by omega)
    refine wpS_ite (fun _=>?_) (fun _=>?_)
    all_goals
     refine wpS_bind (wpS_setG (wpS_bind (wpS_elem eb (wpS_bind (gal_ok (left:=false) (arr:=a) (base:=0) (n:=na3) (hint:=na3-1) C (by exact hk) (mB eb) ma (by omega) (by omega) (fun i j _ hij _ x y e1 e2=>soA i j x y e1 e2 hij) fun k kn u1 u2=>?_)))))
     have G4:=hi_takeA G3 kn (fun i x hi hi' hx y hy=>Nat.le_trans (mem_take_le sb (by omega) eb y hy) (Nat.le_of_lt (u2 i x hi hi' (by rw[Nat.zero_add];exact hx))))
     have v2:∀ x∈a.toList.take k,rk x<=rk b[nb3-1]:=fun x hx=>by
      obtain⟨j,hj,hx⟩:=mem_t hx;exact u1 j x hj (by rw[Nat.zero_add];exact hx)
     refine wpS_ite (fun c=>?_) (fun c=>?_)
     ·refine wpS_ite (fun c3=>wpS_pure ⟨_,rfl,.inl ⟨_,rfl,hi_done G4 (.inl (by simpa using c3))⟩⟩) fun c3=>?_
      have c3:¬ k=0:=by simpa using c3
      refine wpS_bind (wpS_elem eb ?_);have G5:=hi_pushB G4 (by omega) eb v2
      refine wpS_ite (fun c=>wpS_pure ⟨_,rfl,.inl ⟨_,rfl,hi_first G5 hy (by simpa using c) h0⟩⟩) fun c=>?_
      have n2:¬ nb3-1=1:=by simpa using c
      have ea:=atA (xs:=a) (i:=k-1) (by omega)
      refine wpS_bind (wpS_elem ea (wpS_bind (gal_ok (left:=true) (arr:=b) (base:=0) (n:=nb3-1) (hint:=nb3-1-1) C (by exact hk) (mA ea) mb (by omega) (by omega) (fun i j _ hij _ x y e1 e2=>soB i j x y e1 e2 hij) fun k2 kn2 w1 w2=>?_)))
      have G6:=hi_takeB G5 kn2 (fun i y hi hi' hy x hx=>Nat.le_trans (mem_take_le sa (by omega) ea x hx) (w2 i y hi hi' (by rw[Nat.zero_add];exact hy)))
      have v3:∀ y∈b.toList.take k2,rk y<=rk a[k-1]:=fun y hy=>by
       obtain⟨j,hj,hy⟩:=mem_t hy;exact Nat.le_of_lt (w1 j y hj (by rw[Nat.zero_add];exact hy))
      refine wpS_ite (fun c2=>?_) (fun c2=>?_)
      ·refine wpS_ite (fun c3=>wpS_pure ⟨_,rfl,.inl ⟨_,rfl,hi_first G6 hy (by simpa using c3) h0⟩⟩) fun c3=>?_
       refine wpS_ite (fun c4=>wpS_pure ⟨_,rfl,.inl ⟨_,rfl,hi_done G6 (.inr (by simpa using c4))⟩⟩) fun c4=>?_
       have c3:¬ k2=1:=by simpa using c3
       have c4:¬ k2=0:=by simpa using c4
       refine wpS_bind (wpS_elem ea ?_);have G7:=hi_pushA G6 (by omega) ea v3
       refine wpS_ite (fun c5=>wpS_pure ⟨_,rfl,.inl ⟨_,rfl,hi_done G7 (.inl (by simpa using c5))⟩⟩) fun c5=>?_
       have c5:¬ k-1=0:=by simpa using c5
       exact wpS_ite (fun _=>wpS_pure ⟨_,rfl,.inr ⟨k-1,k2,_,_,_,_,rfl,G7,⟨by omega,by omega⟩,⟨by omega,by omega⟩,by omega⟩⟩) fun _=>wpS_pure ⟨_,rfl,k-1,k2,_,_,_,_,rfl,G7,⟨by omega,by omega⟩,⟨by omega,by omega⟩,by omega⟩
      ·have ek:k2=nb3-1:=by
        have c2:¬ nb3-1-k2 > 0:=c2;omega
       rw[ek] at v3;refine wpS_bind (wpS_elem ea ?_);have G7:=hi_pushA G5 (by omega) ea v3
       refine wpS_ite (fun c5=>wpS_pure ⟨_,rfl,.inl ⟨_,rfl,hi_done G7 (.inl (by simpa using c5))⟩⟩) fun c5=>?_
       have c5:¬ k-1=0:=by simpa using c5
       exact wpS_ite (fun _=>wpS_pure ⟨_,rfl,.inr ⟨k-1,nb3-1,_,_,_,_,rfl,G7,⟨by omega,by omega⟩,⟨by omega,by omega⟩,by omega⟩⟩) fun _=>wpS_pure ⟨_,rfl,k-1,nb3-1,_,_,_,_,rfl,G7,⟨by omega,by omega⟩,⟨by omega,by omega⟩,by omega⟩
     ·have ek:k=na3:=by
       have c:¬ na3-k > 0:=c;omega
      rw[ek] at v2;refine wpS_bind (wpS_elem eb ?_);have G5:=hi_pushB G3 (by omega) eb v2
      refine wpS_ite (fun c=>wpS_pure ⟨_,rfl,.inl ⟨_,rfl,hi_first G5 hy (by simpa using c) h0⟩⟩) fun c=>?_
      have n2:¬ nb3-1=1:=by simpa using c
      have ea:=atA (xs:=a) (i:=na3-1) (by omega)
      refine wpS_bind (wpS_elem ea (wpS_bind (gal_ok (left:=true) (arr:=b) (base:=0) (n:=nb3-1) (hint:=nb3-1-1) C (by exact hk) (mA ea) mb (by omega) (by omega) (fun i j _ hij _ x y e1 e2=>soB i j x y e1 e2 hij) fun k2 kn2 w1 w2=>?_)))
      have G6:=hi_takeB G5 kn2 (fun i y hi hi' hy x hx=>Nat.le_trans (mem_take_le sa (by omega) ea x hx) (w2 i y hi hi' (by rw[Nat.zero_add];exact hy)))
      have v3:∀ y∈b.toList.take k2,rk y<=rk a[na3-1]:=fun y hy=>by
       obtain⟨j,hj,hy⟩:=mem_t hy;exact Nat.le_of_lt (w1 j y hj (by rw[Nat.zero_add];exact hy))
      refine wpS_ite (fun c2=>?_) (fun c2=>?_)
      ·refine wpS_ite (fun c3=>wpS_pure ⟨_,rfl,.inl ⟨_,rfl,hi_first G6 hy (by simpa using c3) h0⟩⟩) fun c3=>?_
       refine wpS_ite (fun c4=>wpS_pure ⟨_,rfl,.inl ⟨_,rfl,hi_done G6 (.inr (by simpa using c4))⟩⟩) fun c4=>?_
       have c3:¬ k2=1:=by simpa using c3
       have c4:¬ k2=0:=by simpa using c4
       refine wpS_bind (wpS_elem ea ?_);have G7:=hi_pushA G6 (by omega) ea v3
       refine wpS_ite (fun c5=>wpS_pure ⟨_,rfl,.inl ⟨_,rfl,hi_done G7 (.inl (by simpa using c5))⟩⟩) fun c5=>?_
       have c5:¬ na3-1=0:=by simpa using c5
       exact wpS_ite (fun _=>wpS_pure ⟨_,rfl,.inr ⟨na3-1,k2,_,_,_,_,rfl,G7,⟨by omega,by omega⟩,⟨by omega,by omega⟩,by omega⟩⟩) fun _=>wpS_pure ⟨_,rfl,na3-1,k2,_,_,_,_,rfl,G7,⟨by omega,by omega⟩,⟨by omega,by omega⟩,by omega⟩
      ·have ek:k2=nb3-1:=by
        have c2:¬ nb3-1-k2 > 0:=c2;omega
       rw[ek] at v3;refine wpS_bind (wpS_elem ea ?_);have G7:=hi_pushA G5 (by omega) ea v3
       refine wpS_ite (fun c5=>wpS_pure ⟨_,rfl,.inl ⟨_,rfl,hi_done G7 (.inl (by simpa using c5))⟩⟩) fun c5=>?_
       have c5:¬ na3-1=0:=by simpa using c5
       exact wpS_ite (fun _=>wpS_pure ⟨_,rfl,.inr ⟨na3-1,nb3-1,_,_,_,_,rfl,G7,⟨by omega,by omega⟩,⟨by omega,by omega⟩,by omega⟩⟩) fun _=>wpS_pure ⟨_,rfl,na3-1,nb3-1,_,_,_,_,rfl,G7,⟨by omega,by omega⟩,⟨by omega,by omega⟩,by omega⟩
   ·rintro c st' ⟨g,rfl,na3,nb3,out3,mg,ac,bc,rfl,G3,m1,m2,m3⟩
    omega
   ·rintro c st' ⟨g,rfl,⟨r,e,hr⟩ | ⟨na3,nb3,out3,mg,ac,bc,rfl,G3,m1,m2,m3⟩⟩
    ·obtain⟨c1,c2⟩:=c
     dsimp only at e;subst e;exact wpS_pure ⟨g,rfl,r,rfl,hr⟩
    ·dsimp only
     exact wpS_bind (wpS_setG (wpS_pure ⟨_,rfl,_,_,_,_,rfl,G3,m1,m2,by omega⟩))
 ·rintro c st' ⟨g,rfl,na',nb',out',mg,rfl,G',k1,k2,k3⟩
  omega
 ·rintro c st' ⟨g,rfl,r,e,hr⟩
  obtain⟨c1,c2⟩:=c;dsimp only at e;subst e;exact wpS_pure (h r g hr)
end
end Fx
set_option maxRecDepth 100000
namespace Fx
open PySem PySem.W PyProof.Rows
theorem put_back (c:Nat):∀ (l:List Keyed) (m:Nat) (a:Array Keyed),c+m+l.length<=a.size->((l.zipIdx m).foldl (fun a (p:Keyed×Nat)=>a.setIfInBounds (c+p.2) p.1) a).toList=a.toList.take (c+m)++(l++a.toList.drop (c+m+l.length))
 |[],m,a,h=>by simp
 |x::l,m,a,h=>by
  rw[List.length_cons] at h;rw[List.zipIdx_cons,List.foldl_cons,put_back c l (m+1) _ (by rw[Array.size_setIfInBounds];omega)]
  have e:(a.setIfInBounds (c+m) x).toList=a.toList.set (c+m) x:=Array.toList_setIfInBounds;have hl:c+m<a.toList.length:=by rw[Array.length_toList];omega
  rw[e,show c+(m+1)=c+m+1 by omega,List.take_succ,List.getElem?_set_self hl,List.take_set_of_le (Nat.le_refl _),List.drop_set_of_lt (by omega),List.length_cons,show c+m+1+l.length=c+m+(l.length+1) by omega,List.append_assoc]
  rfl
section
variable {prog:Program}{w:World}{A:Around}{E:Value->Shared->Prop}{s:Shared}{κ:SortKind}{rk:Keyed->Nat}{M:Keyed->Prop}
theorem ext_mid (xs:Array Keyed) (i j:Nat):(xs.extract i j).toList=(xs.toList.drop i).take (j-i):=by
 rw[Array.toList_extract,List.extract_eq_drop_take]
theorem get_mid {xs:Array Keyed}{pre B post:List Keyed} (e:xs.toList=pre++(B++post)) {i:Nat} (hi:i<B.length):xs[pre.length+i]?=some B[i]:=by
 rw[<- Array.getElem?_toList,e,List.getElem?_append_right (by omega),Nat.add_sub_cancel_left,List.getElem?_append_left hi,List.getElem?_eq_getElem hi]
theorem at_list {l:List Keyed} (so:l.Pairwise (leR rk)) {i j:Nat} (hij:i<=j) (hj:j<l.length):rk (l[i]'(by omega))<=rk l[j]:=by
 by_cases h:i=j
 ·subst h;exact Nat.le_refl _
 ·exact List.pairwise_iff_getElem.mp so i j (by omega) hj (by omega)
theorem merge_at (C:Cmp prog w A s κ rk M) {st:SortSt} (hk:kindOf st=κ) (hf:failedOf st=none) {pre L R post:List Keyed} (e:(arrOf st).toList=pre++(L++(R++post))) {i p p':Nat} (p1:(pendingOf st)[i]?=some (pre.length,L.length,p)) (p2:(pendingOf st)[i+1]?=some (pre.length+L.length,R.length,p'))
  (nL:L≠[]) (nR:R≠[]) (sL:L.Pairwise (leR rk)) (sR:R.Pairwise (leR rk)) (ml:∀ x∈(arrOf st).toList,M x) {Q:Bool->SortSt->Prop}
  (h:∀ (xs:Array Keyed) (g:Nat) (N:List Keyed),xs.toList=pre++(N++post)->N.Perm (L++R)->N.Pairwise (leR rk)->Q true (SortSt.mk' κ xs (((pendingOf st).setIfInBounds i (pre.length,L.length+R.length,p)).eraseIdxIfInBounds (i+1)) g none)) :
  wpS (model prog w) A E s (mergeAt' i) Q st:=by
 subst hk;have e2:(arrOf st).toList=(pre++L)++(R++post):=by rw[e,List.append_assoc]
 have l2:(pre++L).length=pre.length+L.length:=List.length_append
 have sz:(arrOf st).size=pre.length+L.length+R.length+post.length:=by
  rw[<- Array.length_toList,e];simp;omega
 have lL:0<L.length:=List.length_pos_iff.mpr nL;have lR:0<R.length:=List.length_pos_iff.mpr nR;have gL:∀ i (hi:i<L.length),(arrOf st)[pre.length+i]?=some L[i]:=fun i hi=>get_mid e hi
 have gR:∀ i (hi:i<R.length),(arrOf st)[pre.length+L.length+i]?=some R[i]:=fun i hi=>by rw[<- l2];exact get_mid e2 hi
 have mm:∀ {i:Nat}{x:Keyed},(arrOf st)[i]?=some x->M x:=fun {i x} q=>ml x (by rw[<- Array.getElem?_toList] at q;exact List.mem_of_getElem? q)
 refine wpS_bind (wpS_get ?_);rw[show (sortPriv% PySem.Builtin.SortState.pending) st=pendingOf st from rfl,p1,p2];dsimp only;refine wpS_bind (wpS_modify ?_);have r0:=gR 0 lR;rw[Nat.add_zero] at r0;refine wpS_bind (wpS_elem r0 (wpS_bind (gal_ok (left:=false) (arr:=arrOf st) (base:=pre.length) (n:=L.length) (hint:=0) C (by exact rfl) (mm r0) ml (by omega) lL (fun i j h1 h2 h3 x y ex ey=>?_) fun k kn u1 u2=>?_)))
 ·rw[show i=pre.length+(i-pre.length) by omega,gL _ (by omega)] at ex
  rw[show j=pre.length+(j-pre.length) by omega,gL _ (by omega)] at ey
  cases ex;cases ey;exact at_list sL (by omega) (by omega)
 have x1:∀ i (hi:i<L.length),i<k->rk L[i]<=rk R[0]:=fun i hi hk=>u1 i _ hk (gL i hi)
 have x2:∀ i (hi:i<L.length),k<=i->rk R[0]<rk L[i]:=fun i hi hk=>u2 i _ hk hi (gL i hi)
 have whole:(∀ x∈L,∀ y∈R,rk x<=rk y)->Q true (SortSt.mk' (kindOf st) (arrOf st) (((pendingOf st).setIfInBounds i (pre.length,L.length+R.length,p)).eraseIdxIfInBounds (i+1)) (gallopOf st) (failedOf st)):=fun q=>by
  rw[hf];exact h _ _ (L++R) (by rw[e,List.append_assoc]) (List.Perm.refl _) (List.pairwise_append.mpr ⟨sL,sR,q⟩)
 have fromR:∀ y∈R,rk R[0]<=rk y:=fun y hy=>by
  obtain⟨j,hj,rfl⟩:=List.getElem_of_mem hy;exact at_list sR (Nat.zero_le _) hj
 refine wpS_ite (fun c=>wpS_pure (whole fun x hx y hy=>?_)) (fun c=>?_)
 ·have c:L.length-k=0:=by simpa using c
  obtain⟨j,hj,rfl⟩:=List.getElem_of_mem hx;exact Nat.le_trans (x1 j hj (by omega)) (fromR y hy)
 have c:¬ L.length-k=0:=by simpa using c
 have z0:=gL (L.length-1) (by omega)
 have ei:pre.length+k+(L.length-k)-1=pre.length+(L.length-1):=by omega
 rw[<- ei] at z0;refine wpS_bind (wpS_elem z0 (wpS_bind (gal_ok (left:=true) (arr:=arrOf st) (base:=pre.length+L.length) (n:=R.length) (hint:=R.length-1) C (by exact rfl) (mm z0) ml (by omega) (by omega) (fun i j h1 h2 h3 x y ex ey=>?_) fun k2 kn2 w1 w2=>?_)))
 ·rw[show i=pre.length+L.length+(i-(pre.length+L.length)) by omega,gR _ (by omega)] at ex
  rw[show j=pre.length+L.length+(j-(pre.length+L.length)) by omega,gR _ (by omega)] at ey
  cases ex;cases ey;exact at_list sR (by omega) (by omega)
 have y1:∀ i (hi:i<R.length),i<k2->rk R[i]<rk L[L.length-1]:=fun i hi hk=>w1 i _ hk (gR i hi)
 have y2:∀ i (hi:i<R.length),k2<=i->rk L[L.length-1]<=rk R[i]:=fun i hi hk=>w2 i _ hk hi (gR i hi)
 have toL:∀ x∈L,rk x<=rk L[L.length-1]:=fun x hx=>by
  obtain⟨j,hj,rfl⟩:=List.getElem_of_mem hx;exact at_list sL (by omega) (by omega)
 refine wpS_ite (fun c2=>wpS_pure (whole fun x hx y hy=>?_)) (fun c2=>?_)
 ·have c2:k2=0:=by simpa using c2
  obtain⟨j,hj,rfl⟩:=List.getElem_of_mem hy;exact Nat.le_trans (toL x hx) (y2 j hj (by omega))
 have c2:¬ k2=0:=by simpa using c2
 have ex:((arrOf st).extract (pre.length+k) (pre.length+L.length)).toList=L.drop k:=by
  rw[ext_mid,e,show pre.length+L.length-(pre.length+k)=L.length-k by omega,<- List.drop_drop,List.drop_left',List.drop_append_of_le_length (by omega),List.take_append_of_le_length (by rw[List.length_drop];omega),List.take_of_length_le (by rw[List.length_drop];omega)]
  rfl
 have ey:((arrOf st).extract (pre.length+L.length) (pre.length+L.length+k2)).toList=R.take k2:=by
  rw[ext_mid,e2,Nat.add_sub_cancel_left,<- l2,List.drop_left',List.take_append_of_le_length kn2];rfl
 have sx:((arrOf st).extract (pre.length+k) (pre.length+L.length)).size=L.length-k:=by rw[<- Array.length_toList,ex,List.length_drop]
 have zx:((arrOf st).extract (pre.length+k) (pre.length+L.length))[((arrOf st).extract (pre.length+k) (pre.length+L.length)).size-1]?=some L[L.length-1]:=by
  rw[sx,<- Array.getElem?_toList,ex,List.getElem?_drop,show k+(L.length-k-1)=L.length-1 by omega,List.getElem?_eq_getElem (by omega)]
 have zy:((arrOf st).extract (pre.length+L.length) (pre.length+L.length+k2))[0]?=some R[0]:=by
  rw[<- Array.getElem?_toList,ey,List.getElem?_take,if_pos (by omega),List.getElem?_eq_getElem lR]
 have hb:∀ y∈((arrOf st).extract (pre.length+L.length) (pre.length+L.length+k2)).toList,rk y<=rk L[L.length-1]:=by
  rw[ey];intro y hy;obtain⟨j,hj,rfl⟩:=List.getElem_of_mem hy;rw[List.getElem_take];rw[List.length_take] at hj;exact Nat.le_of_lt (y1 j (by omega) (by omega))
 have h0:∀ x∈((arrOf st).extract (pre.length+k) (pre.length+L.length)).toList,rk R[0]<=rk x:=by
  rw[ex];intro x hx;obtain⟨j,hj,rfl⟩:=List.getElem_of_mem hx;rw[List.getElem_drop];rw[List.length_drop] at hj;exact Nat.le_of_lt (x2 (k+j) (by omega) (by omega))
 have mx:∀ x∈((arrOf st).extract (pre.length+k) (pre.length+L.length)).toList,M x:=by
  rw[ex];exact fun x hx=>ml x (by rw[e];exact List.mem_append_right _ (List.mem_append_left _ (List.mem_of_mem_drop hx)))
 have my:∀ x∈((arrOf st).extract (pre.length+L.length) (pre.length+L.length+k2)).toList,M x:=by
  rw[ey];exact fun x hx=>ml x (by rw[e2];exact List.mem_append_right _ (List.mem_append_left _ (List.mem_of_mem_take hx)))
 have ox:((arrOf st).extract (pre.length+k) (pre.length+L.length)).toList.Pairwise (leR rk):=by rw[ex];exact sL.drop
 have oy:((arrOf st).extract (pre.length+L.length) (pre.length+L.length+k2)).toList.Pairwise (leR rk):=by rw[ey];exact sR.take
 have fin:∀ (r:Array Keyed) (g:Nat),MR rk (L.drop k++R.take k2) r->Q true (SortSt.mk' (kindOf st) (r.toList.zipIdx.foldl (fun a (p:Keyed×Nat)=>a.setIfInBounds (pre.length+k+p.2) p.1) (arrOf st)) (((pendingOf st).setIfInBounds i (pre.length,L.length+R.length,p)).eraseIdxIfInBounds (i+1)) g (failedOf st)):=fun r g hr=>by
  obtain⟨rp,rs⟩:=hr;have rl:r.toList.length=L.length-k+k2:=by rw[rp.length_eq,List.length_append,List.length_drop,List.length_take];omega
  have pb:=put_back (pre.length+k) r.toList 0 (arrOf st) (by rw[rl];omega)
  rw[Nat.add_zero,rl] at pb;have t1:(arrOf st).toList.take (pre.length+k)=pre++L.take k:=by rw[e,List.take_length_add_append,List.take_append_of_le_length (by omega)]
  have t2:(arrOf st).toList.drop (pre.length+k+(L.length-k+k2))=R.drop k2++post:=by
   rw[show pre.length+k+(L.length-k+k2)=(pre++L).length+k2 by rw[l2];omega,e2,List.drop_length_add_append,List.drop_append_of_le_length kn2]
  rw[t1,t2] at pb;rw[hf];refine h _ g (L.take k++(r.toList++R.drop k2)) (by rw[pb];simp only[List.append_assoc]) ?_ ?_
  ·have q:(L.take k++(r.toList++R.drop k2)).Perm (L.take k++((L.drop k++R.take k2)++R.drop k2)):=(rp.append_right _).append_left _
   have q2:L.take k++((L.drop k++R.take k2)++R.drop k2)=L++R:=by
    rw[List.append_assoc (L.drop k),List.take_append_drop,<- List.append_assoc,List.take_append_drop]
   rw[q2] at q;exact q
  ·have memr:∀ x∈r.toList,x∈L.drop k\/x∈R.take k2:=fun x hx=>List.mem_append.mp (rp.mem_iff.mp hx)
   have s1:=sL;rw[<- List.take_append_drop k L] at s1;obtain⟨a1,a2,a3⟩:=List.pairwise_append.mp s1;have s2:=sR;rw[<- List.take_append_drop k2 R] at s2;obtain⟨b1,b2,b3⟩:=List.pairwise_append.mp s2
   have lk:∀ x∈L.take k,rk x<=rk R[0]:=fun x hx=>by
    obtain⟨j,hj,rfl⟩:=List.getElem_of_mem hx;rw[List.getElem_take];rw[List.length_take] at hj;exact x1 j (by omega) (by omega)
   have rd:∀ y∈R.drop k2,rk L[L.length-1]<=rk y:=fun y hy=>by
    obtain⟨j,hj,rfl⟩:=List.getElem_of_mem hy;rw[List.getElem_drop];rw[List.length_drop] at hj;exact y2 (k2+j) (by omega) (by omega)
   refine List.pairwise_append.mpr ⟨a1,List.pairwise_append.mpr ⟨rs,b2,fun x hx y hy=>?_⟩,fun x hx y hy=>?_⟩
   ·rcases memr x hx with q | q
    ·exact Nat.le_trans (toL x (List.mem_of_mem_drop q)) (rd y hy)
    ·exact b3 x q y hy
   ·rcases List.mem_append.mp hy with hy | hy
    ·rcases memr y hy with q | q
     ·exact a3 x hx y q
     ·exact Nat.le_trans (lk x hx) (fromR y (List.mem_of_mem_take q))
    ·exact Nat.le_trans (lk x hx) (fromR y (List.mem_of_mem_drop hy))
 refine wpS_ite (fun c3=>wpS_bind ?_) (fun c3=>wpS_bind ?_)
 ·refine lo_ok (st:=SortSt.mk' (kindOf st) (arrOf st) (((pendingOf st).setIfInBounds i (pre.length,L.length+R.length,p)).eraseIdxIfInBounds (i+1)) (gallopOf st) (failedOf st)) (g0:=gallopOf st) C rfl mx my ox oy zx hb zy h0 fun r g hr=>?_
  rw[ex,ey] at hr;refine wpS_bind (wpS_modify (wpS_bind (wpS_get (wpS_pure ?_))));have:=fin r g hr;rw[hf] at this ⊢;exact this
 ·refine hi_ok (st:=SortSt.mk' (kindOf st) (arrOf st) (((pendingOf st).setIfInBounds i (pre.length,L.length+R.length,p)).eraseIdxIfInBounds (i+1)) (gallopOf st) (failedOf st)) (g0:=gallopOf st) C rfl mx my ox oy zx hb zy h0 fun r g hr=>?_
  rw[ex,ey] at hr;refine wpS_bind (wpS_modify (wpS_bind (wpS_get (wpS_pure ?_))));have:=fin r g hr;rw[hf] at this ⊢;exact this
end
end Fx
set_option maxRecDepth 100000
namespace Fx
open PySem PySem.W PyProof.Rows
noncomputable def Rk (rk:Keyed->Nat) (xs:Array Keyed) (i:Nat):Nat:=match xs[i]? with
 |some x=>rk x
 |none=>0
theorem Rk_congr {rk:Keyed->Nat}{xs ys:Array Keyed}{i j:Nat} (h:xs[i]?=ys[j]?):Rk rk xs i=Rk rk ys j:=by unfold Rk;rw[h]
theorem Rk_at {rk:Keyed->Nat}{xs:Array Keyed}{i:Nat}{x:Keyed} (h:xs[i]?=some x):Rk rk xs i=rk x:=by unfold Rk;rw[h]
noncomputable def Kp (lo:Nat) (a xs:Array Keyed):Prop:=xs.Perm a/\∀ i,i<lo->xs[i]?=a[i]?
theorem Kp.size {lo:Nat}{a xs:Array Keyed} (h:Kp lo a xs):xs.size=a.size:=h.1.size_eq
noncomputable def UpO (rk:Keyed->Nat) (xs:Array Keyed) (lo m:Nat):Prop:=∀ i j,i<=j->j<m->Rk rk xs (lo+i)<=Rk rk xs (lo+j)
noncomputable def DnO (rk:Keyed->Nat) (xs:Array Keyed) (lo m:Nat):Prop:=∀ i j,i<=j->j<m->Rk rk xs (lo+j)<=Rk rk xs (lo+i)
section
variable {prog:Program}{w:World}{A:Around}{E:Value->Shared->Prop}{s:Shared}{κ:SortKind}{rk:Keyed->Nat}{M:Keyed->Prop}
theorem Kp.mir {lo i j d:Nat}{a xs:Array Keyed} (h:Kp lo a xs) (hi:lo<=i) (hj:j<=xs.size):Kp lo a (mirror xs i j ((j-i) / 2)) :=
 ⟨(mirror_perm _ _ _ _).trans h.1,fun k hk=>by rw[getElem?_mirror_all hj,if_neg (by omega)];exact h.2 k hk⟩
theorem Kp.bub {lo k d:Nat}{a xs:Array Keyed} (h:Kp lo a xs) (hs:k<xs.size) (hd:d<=k) (hl:lo<=k-d):Kp lo a (bubble xs k d) :=
 ⟨(bubble_perm _ _ _).trans h.1,fun i hi=>by rw[getElem?_bubble hs d hd,if_neg (by omega),if_neg (by omega)];exact h.2 i hi⟩
theorem Rk_mir {xs:Array Keyed}{i j:Nat} (hj:j<=xs.size) (k:Nat):Rk rk (mirror xs i j ((j-i) / 2)) k=if i<=k/\k<j then Rk rk xs (i+j-1-k) else Rk rk xs k:=by
 have e:=getElem?_mirror_all (xs:=xs) (i:=i) hj k
 by_cases h1:i<=k/\k<j
 ·rw[if_pos h1] at e ⊢;exact Rk_congr e
 ·rw[if_neg h1] at e ⊢;exact Rk_congr e
theorem Rk_mir_eq {xs:Array Keyed}{i j:Nat} (hj:j<=xs.size) (e:∀ k,i<=k->k<j->Rk rk xs k=Rk rk xs (j-1)) (k:Nat):Rk rk (mirror xs i j ((j-i) / 2)) k=Rk rk xs k:=by
 rw[Rk_mir hj]
 split
 ·rw[e _ (by omega) (by omega),e k (by omega) (by omega)]
 ·rfl
theorem Rk_bub {xs:Array Keyed}{k d:Nat} (hs:k<xs.size) (hd:d<=k) (i:Nat):Rk rk (bubble xs k d) i=if i=k-d then Rk rk xs k else if k-d<i/\i<=k then Rk rk xs (i-1) else Rk rk xs i:=by
 have e:=getElem?_bubble hs d hd i
 by_cases h1:i=k-d
 ·rw[if_pos h1] at e ⊢;exact Rk_congr e
 ·rw[if_neg h1] at e ⊢
  by_cases h2:k-d<i/\i<=k
  ·rw[if_pos h2] at e ⊢;exact Rk_congr e
  ·rw[if_neg h2] at e ⊢;exact Rk_congr e
theorem Cmp.ltAt (C:Cmp prog w A s κ rk M) {st:SortSt}{xs:Array Keyed} (hk:kindOf st=κ) (ml:∀ x∈(arrOf st).toList,M x) {lo i j:Nat} (kp:Kp lo (arrOf st) xs) (hi:i<xs.size) (hj:j<xs.size) {Q:Option Bool->SortSt->Prop} (h:Q (some (decide (Rk rk xs i<Rk rk xs j))) (setArr st xs)) :
  wpS (model prog w) A E s (ltAt' i j) Q (setArr st xs):=by
 rw[ltAt'_eq];refine wpS_bind (wpS_get ?_)
 have mm:∀ {i:Nat}{x:Keyed},xs[i]?=some x->M x:=fun {i x} q=>ml x (by
  rw[<- Array.getElem?_toList] at q;exact (Array.perm_iff_toList_perm.mp kp.1).mem_iff.mp (List.mem_of_getElem? q))
 have ei:=atA hi;have ej:=atA hj;rw[Rk_at ei,Rk_at ej] at h;exact wpS_bind (wpS_elem ei (wpS_bind (wpS_elem ej (C.lt (st:=setArr st xs) hk (mm ei) (mm ej) h))))
theorem up_more {xs:Array Keyed}{lo m:Nat} (h:UpO rk xs lo m) (c:m=0\/Rk rk xs (lo+m-1)<=Rk rk xs (lo+m)):UpO rk xs lo (m+1):=fun i j hij hj=>by
 by_cases z:j<m
 ·exact h i j hij z
 ·obtain rfl:j=m:=by omega
  by_cases w:i=j
  ·subst w;exact Nat.le_refl _
  ·rcases c with c | c
   ·omega
   ·have:=h i (j-1) (by omega) (by omega)
    rw[show lo+(j-1)=lo+j-1 by omega] at this
    exact Nat.le_trans this c
theorem dn_more {xs:Array Keyed}{lo m:Nat} (h:DnO rk xs lo m) (c:m=0\/Rk rk xs (lo+m)<=Rk rk xs (lo+m-1)):DnO rk xs lo (m+1):=fun i j hij hj=>by
 by_cases z:j<m
 ·exact h i j hij z
 ·obtain rfl:j=m:=by omega
  by_cases w:i=j
  ·subst w;exact Nat.le_refl _
  ·rcases c with c | c
   ·omega
   ·have:=h i (j-1) (by omega) (by omega)
    rw[show lo+(j-1)=lo+j-1 by omega] at this
    exact Nat.le_trans c this
structure Gap (rk:Keyed->Nat) (xs:Array Keyed) (lo k l r:Nat):Prop where
 ord:l<=r/\r<=k
 below:∀ i<l,Rk rk xs (lo+i)<=Rk rk xs (lo+k)
 above:∀ i<k,r<=i->Rk rk xs (lo+k)<Rk rk xs (lo+i)
theorem Gap.all {xs:Array Keyed}{lo k:Nat}:Gap rk xs lo k 0 k:=⟨⟨Nat.zero_le _,Nat.le_refl _⟩,fun i z=>absurd z (Nat.not_lt_zero i),fun i z y=>absurd (Nat.lt_of_lt_of_le z y) (Nat.lt_irrefl _)⟩
theorem Gap.half {xs:Array Keyed}{lo k l r:Nat} (g:Gap rk xs lo k l r) (up:UpO rk xs lo k) (lt:l<r) :
  (Rk rk xs (lo+k)<Rk rk xs (lo+(l+r) / 2)->Gap rk xs lo k l ((l+r) / 2))/\(¬ Rk rk xs (lo+k)<Rk rk xs (lo+(l+r) / 2)->Gap rk xs lo k ((l+r) / 2+1) r):=by
 have o:=g.ord;have m1:l<=(l+r) / 2:=by omega
 have m2:(l+r) / 2<r:=by omega
 constructor
 ·intro c
  exact⟨⟨m1,by omega⟩,g.below,fun i ik ri=>Nat.lt_of_lt_of_le c (up ((l+r) / 2) i ri ik)⟩
 ·intro c
  exact⟨⟨m2,o.2⟩,fun i il=>Nat.le_trans (up i ((l+r) / 2) (Nat.le_of_lt_succ il) (by omega)) (Nat.le_of_not_lt c),g.above⟩
theorem Gap.put {xs:Array Keyed}{lo k l:Nat} (g:Gap rk xs lo k l l) (up:UpO rk xs lo k) (hk:lo+k<xs.size):UpO rk (bubble xs (lo+k) (k-l)) lo (k+1):=by
 have o:=g.ord.2
 have at':∀ i,i<=k->Rk rk (bubble xs (lo+k) (k-l)) (lo+i)=if i=l then Rk rk xs (lo+k) else if l<i then Rk rk xs (lo+(i-1)) else Rk rk xs (lo+i):=fun i ik=>by
  rw[Rk_bub hk (by omega)]
  by_cases c1:i=l
  ·rw[if_pos c1,if_pos (by omega)]
  ·rw[if_neg c1,if_neg (by omega)]
   by_cases c2:l<i
   ·rw[if_pos c2,if_pos ⟨by omega,by omega⟩]
    congr 1
    omega
   ·rw[if_neg c2,if_neg (by omega)]
 intro i j ij jk;rw[at' i (by omega),at' j (by omega)]
 rcases Nat.lt_trichotomy i l with ci | ci | ci
 ·rw[if_neg (by omega),if_neg (by omega)]
  rcases Nat.lt_trichotomy j l with cj | cj | cj
  ·rw[if_neg (by omega),if_neg (by omega)];exact up i j ij (by omega)
  ·rw[if_pos cj];exact g.below i ci
  ·rw[if_neg (by omega),if_pos cj];exact up i (j-1) (by omega) (by omega)
 ·rw[if_pos ci]
  by_cases cj:j=l
  ·rw[if_pos cj];exact Nat.le_refl _
  ·rw[if_neg cj,if_pos (by omega)];exact Nat.le_of_lt (g.above (j-1) (by omega) (by omega))
 ·rw[if_neg (by omega),if_pos ci,if_neg (by omega),if_pos (by omega)]
  exact up (i-1) (j-1) (by omega) (by omega)
noncomputable def InS (st:SortSt) (xs:Array Keyed) (rk:Keyed->Nat) (lo k steps:Nat) (c:Option Bool×Nat×Nat) (st':SortSt):Prop:=st'=setArr st xs/\c.1=none/\Gap rk xs lo k c.2.1 c.2.2/\c.2.2<=c.2.1+(k-steps)
noncomputable def OutS (st:SortSt) (rk:Keyed->Nat) (lo n k:Nat) (c:Option Bool×Unit) (st':SortSt):Prop:=c=(none,())/\∃ xs,st'=setArr st xs/\Kp lo (arrOf st) xs/\UpO rk xs lo (min k n)
theorem binO_ok (C:Cmp prog w A s κ rk M) {st:SortSt}{xs0:Array Keyed} (hk:kindOf st=κ) (ml:∀ x∈(arrOf st).toList,M x) {lo n ok:Nat} (hn:lo+n<=(arrOf st).size) (hok:ok<=n) (kp0:Kp lo (arrOf st) xs0) (hs:UpO rk xs0 lo ok) {Q:Bool->SortSt->Prop}
  (h:∀ xs,Kp lo (arrOf st) xs->UpO rk xs lo n->Q true (setArr st xs)):wpS (model prog w) A E s (binarySort' lo n ok) Q (setArr st xs0):=by
 have start:OutS st rk lo n (max ok 1) (none,()) (setArr st xs0):=⟨rfl,xs0,rfl,kp0,fun i j ij jm=>by
  by_cases z:j<ok
  ·exact hs i j ij z
  ·rw[show i=j by omega];exact Nat.le_refl _⟩
 have turn:∀ (k:Nat) (xs:Array Keyed),Kp lo (arrOf st) xs->UpO rk xs lo k->k<n->∀ l r,Gap rk xs lo k l r->r<=l->OutS st rk lo n (k+1) (none,()) (setArr st (bubble xs (lo+k) (lo+k-(lo+l)))):=fun k xs kp up kn l r g e=>by
  have rl:r=l:=Nat.le_antisymm e g.ord.1;subst rl;have sz:lo+k<xs.size:=by have:=kp.size;omega
  have o:=g.ord.2;rw[Nat.add_sub_add_left];exact⟨rfl,_,rfl,kp.bub sz (by omega) (by omega),by rw[Nat.min_eq_left kn];exact g.put up sz⟩
 refine wpS_bind (wpS_mono (wpS_forRange (I:=OutS st rk lo n) (Q:=OutS st rk lo n (max (max ok 1) n)) (fun k c st' _ kn z=>?_) (fun c st' z=>z) start) fun c st' z=>?_)
 ·obtain⟨rfl,xs,rfl,kp,up⟩:=z
  rw[Nat.min_eq_left (Nat.le_of_lt kn)] at up;have sz:=kp.size;refine wpS_bind (wpS_mono (wpS_forRange (I:=InS st xs rk lo k) (Q:=fun c st'=>InS st xs rk lo k k c st') (fun x c st' _ xk z=>?_) (fun c st' z=>?_) ⟨rfl,rfl,Gap.all,by show k<=0+(k-0);omega⟩) fun c st' z=>?_)
  ·obtain⟨c1,l,r⟩:=c
   obtain⟨rfl,c0,g,few⟩:=z;have c0:c1=none:=c0;subst c0;have few:r<=l+(k-x):=few;have g:Gap rk xs lo k l r:=g;have o:=g.ord;dsimp only
   by_cases done:l>=r
   ·rw[if_pos done]
    exact wpS_pure ⟨rfl,rfl,g,by show r<=l+(k-k);omega⟩
   ·rw[if_neg done]
    obtain⟨left,right⟩:=g.half up (Nat.lt_of_not_le done);refine wpS_bind (C.ltAt hk ml kp (by omega) (by omega) ?_)
    by_cases c:Rk rk xs (lo+k)<Rk rk xs (lo+(l+r) / 2)
    ·rw[decide_eq_true c]
     exact wpS_pure ⟨rfl,rfl,left c,by show (l+r) / 2<=l+(k-(x+1));omega⟩
    ·rw[decide_eq_false c]
     exact wpS_pure ⟨rfl,rfl,right c,by show r<=(l+r) / 2+1+(k-(x+1));omega⟩
  ·have:max 0 k=k:=by omega
   rw[this] at z;exact z
  ·obtain⟨c1,l,r⟩:=c
   obtain⟨rfl,c0,g,few⟩:=z;have c0:c1=none:=c0;subst c0;have few:r<=l+(k-k):=few;exact wpS_bind (wpS_modify (wpS_pure (turn k xs kp up kn l r g (by omega))))
 ·obtain⟨rfl,xs,rfl,kp,up⟩:=z
  refine wpS_pure (h xs kp ?_);have:min (max (max ok 1) n) n=n:=by omega
  rw[this] at up;exact up
end
end Fx
set_option maxRecDepth 100000
namespace Fx
open PySem PySem.W PyProof.Rows
section
variable {prog:Program}{w:World}{A:Around}{E:Value->Shared->Prop}{s:Shared}{κ:SortKind}{rk:Keyed->Nat}{M:Keyed->Prop}
theorem wpS_rev {st:SortSt}{xs:Array Keyed}{i j:Nat}{Q:Unit->SortSt->Prop} (h:Q () (setArr st (mirror xs i j ((j-i) / 2)))):wpS (model prog w) A E s (reverseSlice' i j) Q (setArr st xs):=by
 rw[reverseSlice'_eq];exact wpS_modify h
theorem run_ok (C:Cmp prog w A s κ rk M) {st:SortSt}{xs0:Array Keyed} (hk:kindOf st=κ) (ml:∀ x∈(arrOf st).toList,M x) {lo n:Nat} (hn:lo+n=(arrOf st).size) (h1:1<=n) (kp0:Kp lo (arrOf st) xs0) {Q:Option Nat->SortSt->Prop}
  (h:∀ m xs,Kp lo (arrOf st) xs->1<=m->m<=n->UpO rk xs lo m->Q (some m) (setArr st xs)):wpS (model prog w) A E s (countRun' lo n) Q (setArr st xs0):=by
 have sz0:=kp0.size;refine wpS_bind (wpS_mono (wpS_forRange (I:=fun x c st'=>st'=setArr st xs0/\c=(none,x)/\UpO rk xs0 lo x)
  (Q:=fun c st'=>st'=setArr st xs0/\∃ m,c=(none,m)/\1<=m/\m<=n/\UpO rk xs0 lo m/\(m<n->Rk rk xs0 (lo+m)<Rk rk xs0 (lo+m-1))) ?_ ?_ ⟨rfl,rfl,fun i j hij hj=>by rw[show i=j by omega];exact Nat.le_refl _⟩) ?_)
 ·rintro x c st' hx1 hx ⟨rfl,rfl,up⟩
  dsimp only;refine wpS_bind (C.ltAt hk ml kp0 (by omega) (by omega) ?_)
  by_cases q:Rk rk xs0 (lo+x)<Rk rk xs0 (lo+x-1)
  ·rw[decide_eq_true q]
   dsimp only;rw[if_pos rfl];exact wpS_pure ⟨rfl,x,rfl,hx1,by omega,up,fun _=>q⟩
  ·rw[decide_eq_false q]
   dsimp only;rw[if_neg Bool.false_ne_true];exact wpS_pure ⟨rfl,rfl,up_more up (.inr (Nat.le_of_not_lt q))⟩
 ·rintro c st' ⟨rfl,rfl,up⟩
  rw[show max 1 n=n by omega] at up ⊢
  exact⟨rfl,n,rfl,h1,Nat.le_refl _,up,fun z=>absurd z (Nat.lt_irrefl _)⟩
 rintro c st' ⟨rfl,m,rfl,m1,m2,up,dn⟩;dsimp only
 by_cases e:m=n
 ·rw[if_pos (by simpa using e)]
  exact wpS_pure (h m xs0 kp0 m1 m2 up)
 rw[if_neg (by simpa using e)]
 have dn:=dn (by omega)
 refine wpS_ite (fun c=>wpS_bind (C.ltAt hk ml kp0 (by omega) (by omega) ?_)) fun c=>?_
 ·by_cases q:Rk rk xs0 lo<Rk rk xs0 (lo+m-1)
  ·rw[decide_eq_true q]
   dsimp only;rw[if_pos rfl];exact wpS_pure (h m xs0 kp0 m1 m2 up)
  ·rw[decide_eq_false q]
   refine wpS_ite (fun z=>by cases z) fun _=>?_
   have all:∀ k,lo<=k->k<lo+m->Rk rk xs0 k=Rk rk xs0 (lo+m-1):=fun k hk1 hk2=>by
    have a1:=up 0 (k-lo) (by omega) (by omega)
    have a2:=up (k-lo) (m-1) (by omega) (by omega)
    rw[Nat.add_zero,show lo+(k-lo)=k by omega] at a1
    rw[show lo+(k-lo)=k by omega,show lo+(m-1)=lo+m-1 by omega] at a2
    omega
   have ek:=Rk_mir_eq (rk:=rk) (xs:=xs0) (i:=lo) (j:=lo+m) (by omega) all
   refine wpS_bind (wpS_rev ?_);have kp1:=kp0.mir (d:=0) (i:=lo) (j:=lo+m) (Nat.le_refl _) (by omega)
   have dn1:DnO rk (mirror xs0 lo (lo+m) ((lo+m-lo) / 2)) lo (m+1):=by
    refine dn_more (fun i j hij hj=>?_) (.inr ?_)
    ·rw[ek,ek,all _ (by omega) (by omega),all (lo+i) (by omega) (by omega)];exact Nat.le_refl _
    ·rw[ek,ek];exact Nat.le_of_lt dn
   refine wpS_bind (wpS_lift (wpAny_rule ⟨rfl,?_⟩));refine wpS_bind (wpS_mono (wpS_forRange (I:=fun x c st'=>∃ xs q,st'=setArr st xs/\c=(none,x,q)/\Kp lo (arrOf st) xs/\DnO rk xs lo x/\q+1<=x/\∀ k,lo+x-(q+1)<=k->k<lo+x->Rk rk xs k=Rk rk xs (lo+x-1))
    (Q:=fun c st'=>∃ xs d q,st'=setArr st xs/\c=(none,d,q)/\Kp lo (arrOf st) xs/\DnO rk xs lo d/\q+1<=d/\d<=n/\∀ k,lo+d-(q+1)<=k->k<lo+d->Rk rk xs k=Rk rk xs (lo+d-1)) ?_ ?_ ⟨_,0,rfl,rfl,kp1,dn1,by omega,fun k a b=>by rw[show k=lo+(m+1)-1 by omega]⟩) ?_)
   ·rintro x c st' hx1 hx ⟨xs,q,rfl,rfl,kx,dx,qx,ex⟩
    have sx:=kx.size;dsimp only;refine wpS_bind (C.ltAt hk ml kx (by omega) (by omega) ?_)
    by_cases r:Rk rk xs (lo+x)<Rk rk xs (lo+x-1)
    ·rw[decide_eq_true r]
     refine wpS_ite (fun _=>?_) fun z=>absurd rfl z
     refine wpS_ite (fun c=>wpS_bind (wpS_rev (wpS_pure ?_))) fun c=>wpS_pure ?_
     ·have er:=Rk_mir_eq (rk:=rk) (xs:=xs) (i:=lo+x-(q+1)) (j:=lo+x) (by omega) ex
      refine⟨_,0,rfl,rfl,kx.mir (d:=0) (by omega) (by omega),dn_more (fun i j hij hj=>?_) (.inr ?_),by omega,fun k a b=>by rw[show k=lo+(x+1)-1 by omega]⟩
      ·rw[er,er];exact dx i j hij hj
      ·rw[er,er];exact Nat.le_of_lt r
     ·exact⟨xs,0,rfl,rfl,kx,dn_more dx (.inr (Nat.le_of_lt r)),by omega,fun k a b=>by rw[show k=lo+(x+1)-1 by omega]⟩
    ·rw[decide_eq_false r]
     refine wpS_ite (fun z=>by cases z) fun _=>wpS_bind (C.ltAt hk ml kx (by omega) (by omega) ?_)
     by_cases r2:Rk rk xs (lo+x-1)<Rk rk xs (lo+x)
     ·rw[decide_eq_true r2]
      exact wpS_ite (fun _=>wpS_pure ⟨xs,x,q,rfl,rfl,kx,dx,qx,by omega,ex⟩) fun z=>absurd rfl z
     ·rw[decide_eq_false r2]
      refine wpS_ite (fun z=>by cases z) fun _=>wpS_pure ⟨xs,q+1,rfl,rfl,kx,dn_more dx (.inr (by omega)),by omega,fun k a b=>?_⟩
      rw[show lo+(x+1)-1=lo+x by omega]
      by_cases z:k<lo+x
      ·rw[ex k (by omega) z];omega
      ·rw[show k=lo+x by omega]
   ·rintro c st' ⟨xs,q,rfl,rfl,kx,dx,qx,ex⟩
    rw[show max (m+1) n=n by omega] at dx qx ex ⊢
    exact⟨xs,n,q,rfl,rfl,kx,dx,qx,Nat.le_refl _,ex⟩
   ·rintro c st' ⟨xs,d,q,rfl,rfl,kx,dx,qx,dn',ex⟩
    have sx:=kx.size;refine wpS_ite (fun c=>wpS_bind (wpS_rev ?_)) fun c=>?_
    ·have er:=Rk_mir_eq (rk:=rk) (xs:=xs) (i:=lo+d-(q+1)) (j:=lo+d) (by omega) ex
     have kp2:=kx.mir (d:=0) (i:=lo+d-(q+1)) (j:=lo+d) (by omega) (by omega)
     have dn2:DnO rk (mirror xs (lo+d-(q+1)) (lo+d) ((lo+d-(lo+d-(q+1))) / 2)) lo d:=fun i j hij hj=>by rw[er,er];exact dx i j hij hj
     generalize mirror xs (lo+d-(q+1)) (lo+d) ((lo+d-(lo+d-(q+1))) / 2)=xs2 at kp2 dn2 ⊢
     refine wpS_bind (wpS_rev ?_);have kp3:=Kp.mir (d:=0) (i:=lo) (j:=lo+d) kp2 (Nat.le_refl _) (by have:=kp2.size;omega)
     have up3:UpO rk (mirror (xs2) lo (lo+d) ((lo+d-lo) / 2)) lo d:=fun i j hij hj=>by
      have sz:=kp2.size;rw[Rk_mir (by omega),Rk_mir (by omega),if_pos (by omega),if_pos (by omega),show lo+(lo+d)-1-(lo+i)=lo+(d-1-i) by omega,show lo+(lo+d)-1-(lo+j)=lo+(d-1-j) by omega]
      exact dn2 _ _ (by omega) (by omega)
     generalize mirror (xs2) lo (lo+d) ((lo+d-lo) / 2)=xs3 at kp3 up3 ⊢
     have sz3:=kp3.size;refine wpS_bind (wpS_mono (wpS_forRange (I:=fun x c st'=>st'=setArr st xs3/\c=(none,x)/\UpO rk xs3 lo x) (Q:=fun c st'=>st'=setArr st xs3/\∃ m,c=(none,m)/\1<=m/\m<=n/\UpO rk xs3 lo m) ?_ ?_ ⟨rfl,rfl,up3⟩) ?_)
     ·rintro x c st' hx1 hx ⟨rfl,rfl,up⟩
      have hx1:d<=x:=hx1;dsimp only;refine wpS_bind (C.ltAt hk ml kp3 (by omega) (by omega) ?_)
      by_cases q:Rk rk xs3 (lo+x)<Rk rk xs3 (lo+x-1)
      ·rw[decide_eq_true q]
       exact wpS_ite (fun _=>wpS_pure ⟨rfl,x,rfl,by omega,by omega,up⟩) fun z=>absurd rfl z
      ·rw[decide_eq_false q]
       exact wpS_ite (fun z=>by cases z) fun _=>wpS_pure ⟨rfl,rfl,up_more up (.inr (Nat.le_of_not_lt q))⟩
     ·rintro c st' ⟨rfl,rfl,up⟩
      rw[show max d n=n by omega] at up ⊢
      exact⟨rfl,n,rfl,h1,Nat.le_refl _,up⟩
     ·rintro c st' ⟨rfl,m',rfl,g1,g2,up⟩
      exact wpS_pure (h m' xs3 kp3 g1 g2 up)
    ·refine wpS_bind (wpS_rev ?_)
     have kp3:=Kp.mir (d:=0) (i:=lo) (j:=lo+d) kx (Nat.le_refl _) (by have:=kx.size;omega)
     have up3:UpO rk (mirror (xs) lo (lo+d) ((lo+d-lo) / 2)) lo d:=fun i j hij hj=>by
      have sz:=kx.size;rw[Rk_mir (by omega),Rk_mir (by omega),if_pos (by omega),if_pos (by omega),show lo+(lo+d)-1-(lo+i)=lo+(d-1-i) by omega,show lo+(lo+d)-1-(lo+j)=lo+(d-1-j) by omega]
      exact dx _ _ (by omega) (by omega)
     generalize mirror (xs) lo (lo+d) ((lo+d-lo) / 2)=xs3 at kp3 up3 ⊢
     have sz3:=kp3.size;refine wpS_bind (wpS_mono (wpS_forRange (I:=fun x c st'=>st'=setArr st xs3/\c=(none,x)/\UpO rk xs3 lo x) (Q:=fun c st'=>st'=setArr st xs3/\∃ m,c=(none,m)/\1<=m/\m<=n/\UpO rk xs3 lo m) ?_ ?_ ⟨rfl,rfl,up3⟩) ?_)
     ·rintro x c st' hx1 hx ⟨rfl,rfl,up⟩
      have hx1:d<=x:=hx1;dsimp only;refine wpS_bind (C.ltAt hk ml kp3 (by omega) (by omega) ?_)
      by_cases q:Rk rk xs3 (lo+x)<Rk rk xs3 (lo+x-1)
      ·rw[decide_eq_true q]
       exact wpS_ite (fun _=>wpS_pure ⟨rfl,x,rfl,by omega,by omega,up⟩) fun z=>absurd rfl z
      ·rw[decide_eq_false q]
       exact wpS_ite (fun z=>by cases z) fun _=>wpS_pure ⟨rfl,rfl,up_more up (.inr (Nat.le_of_not_lt q))⟩
     ·rintro c st' ⟨rfl,rfl,up⟩
      rw[show max d n=n by omega] at up ⊢
      exact⟨rfl,n,rfl,h1,Nat.le_refl _,up⟩
     ·rintro c st' ⟨rfl,m',rfl,g1,g2,up⟩
      exact wpS_pure (h m' xs3 kp3 g1 g2 up)
 ·have dn1:DnO rk xs0 lo (m+1):=dn_more (fun i j hij hj=>by rw[show i=j by omega];exact Nat.le_refl _) (.inr (Nat.le_of_lt dn))
  refine wpS_bind (wpS_lift (wpAny_rule ⟨rfl,?_⟩));refine wpS_bind (wpS_mono (wpS_forRange (I:=fun x c st'=>∃ xs q,st'=setArr st xs/\c=(none,x,q)/\Kp lo (arrOf st) xs/\DnO rk xs lo x/\q+1<=x/\∀ k,lo+x-(q+1)<=k->k<lo+x->Rk rk xs k=Rk rk xs (lo+x-1))
   (Q:=fun c st'=>∃ xs d q,st'=setArr st xs/\c=(none,d,q)/\Kp lo (arrOf st) xs/\DnO rk xs lo d/\q+1<=d/\d<=n/\∀ k,lo+d-(q+1)<=k->k<lo+d->Rk rk xs k=Rk rk xs (lo+d-1)) ?_ ?_ ⟨xs0,0,rfl,rfl,kp0,dn1,by omega,fun k a b=>by rw[show k=lo+(m+1)-1 by omega]⟩) ?_)
  ·rintro x c st' hx1 hx ⟨xs,q,rfl,rfl,kx,dx,qx,ex⟩
   have sx:=kx.size;dsimp only;refine wpS_bind (C.ltAt hk ml kx (by omega) (by omega) ?_)
   by_cases r:Rk rk xs (lo+x)<Rk rk xs (lo+x-1)
   ·rw[decide_eq_true r]
    refine wpS_ite (fun _=>?_) fun z=>absurd rfl z
    refine wpS_ite (fun c=>wpS_bind (wpS_rev (wpS_pure ?_))) fun c=>wpS_pure ?_
    ·have er:=Rk_mir_eq (rk:=rk) (xs:=xs) (i:=lo+x-(q+1)) (j:=lo+x) (by omega) ex
     refine⟨_,0,rfl,rfl,kx.mir (d:=0) (by omega) (by omega),dn_more (fun i j hij hj=>?_) (.inr ?_),by omega,fun k a b=>by rw[show k=lo+(x+1)-1 by omega]⟩
     ·rw[er,er];exact dx i j hij hj
     ·rw[er,er];exact Nat.le_of_lt r
    ·exact⟨xs,0,rfl,rfl,kx,dn_more dx (.inr (Nat.le_of_lt r)),by omega,fun k a b=>by rw[show k=lo+(x+1)-1 by omega]⟩
   ·rw[decide_eq_false r]
    refine wpS_ite (fun z=>by cases z) fun _=>wpS_bind (C.ltAt hk ml kx (by omega) (by omega) ?_)
    by_cases r2:Rk rk xs (lo+x-1)<Rk rk xs (lo+x)
    ·rw[decide_eq_true r2]
     exact wpS_ite (fun _=>wpS_pure ⟨xs,x,q,rfl,rfl,kx,dx,qx,by omega,ex⟩) fun z=>absurd rfl z
    ·rw[decide_eq_false r2]
     refine wpS_ite (fun z=>by cases z) fun _=>wpS_pure ⟨xs,q+1,rfl,rfl,kx,dn_more dx (.inr (by omega)),by omega,fun k a b=>?_⟩
     rw[show lo+(x+1)-1=lo+x by omega]
     by_cases z:k<lo+x
     ·rw[ex k (by omega) z];omega
     ·rw[show k=lo+x by omega]
  ·rintro c st' ⟨xs,q,rfl,rfl,kx,dx,qx,ex⟩
   rw[show max (m+1) n=n by omega] at dx qx ex ⊢
   exact⟨xs,n,q,rfl,rfl,kx,dx,qx,Nat.le_refl _,ex⟩
  ·rintro c st' ⟨xs,d,q,rfl,rfl,kx,dx,qx,dn',ex⟩
   have sx:=kx.size;refine wpS_ite (fun c=>wpS_bind (wpS_rev ?_)) fun c=>?_
   ·have er:=Rk_mir_eq (rk:=rk) (xs:=xs) (i:=lo+d-(q+1)) (j:=lo+d) (by omega) ex
    have kp2:=kx.mir (d:=0) (i:=lo+d-(q+1)) (j:=lo+d) (by omega) (by omega)
    have dn2:DnO rk (mirror xs (lo+d-(q+1)) (lo+d) ((lo+d-(lo+d-(q+1))) / 2)) lo d:=fun i j hij hj=>by rw[er,er];exact dx i j hij hj
    generalize mirror xs (lo+d-(q+1)) (lo+d) ((lo+d-(lo+d-(q+1))) / 2)=xs2 at kp2 dn2 ⊢
    refine wpS_bind (wpS_rev ?_);have kp3:=Kp.mir (d:=0) (i:=lo) (j:=lo+d) kp2 (Nat.le_refl _) (by have:=kp2.size;omega)
    have up3:UpO rk (mirror (xs2) lo (lo+d) ((lo+d-lo) / 2)) lo d:=fun i j hij hj=>by
     have sz:=kp2.size;rw[Rk_mir (by omega),Rk_mir (by omega),if_pos (by omega),if_pos (by omega),show lo+(lo+d)-1-(lo+i)=lo+(d-1-i) by omega,show lo+(lo+d)-1-(lo+j)=lo+(d-1-j) by omega]
     exact dn2 _ _ (by omega) (by omega)
    generalize mirror (xs2) lo (lo+d) ((lo+d-lo) / 2)=xs3 at kp3 up3 ⊢
    have sz3:=kp3.size;refine wpS_bind (wpS_mono (wpS_forRange (I:=fun x c st'=>st'=setArr st xs3/\c=(none,x)/\UpO rk xs3 lo x) (Q:=fun c st'=>st'=setArr st xs3/\∃ m,c=(none,m)/\1<=m/\m<=n/\UpO rk xs3 lo m) ?_ ?_ ⟨rfl,rfl,up3⟩) ?_)
    ·rintro x c st' hx1 hx ⟨rfl,rfl,up⟩
     have hx1:d<=x:=hx1;dsimp only;refine wpS_bind (C.ltAt hk ml kp3 (by omega) (by omega) ?_)
     by_cases q:Rk rk xs3 (lo+x)<Rk rk xs3 (lo+x-1)
     ·rw[decide_eq_true q]
      exact wpS_ite (fun _=>wpS_pure ⟨rfl,x,rfl,by omega,by omega,up⟩) fun z=>absurd rfl z
     ·rw[decide_eq_false q]
      exact wpS_ite (fun z=>by cases z) fun _=>wpS_pure ⟨rfl,rfl,up_more up (.inr (Nat.le_of_not_lt q))⟩
    ·rintro c st' ⟨rfl,rfl,up⟩
     rw[show max d n=n by omega] at up ⊢
     exact⟨rfl,n,rfl,h1,Nat.le_refl _,up⟩
    ·rintro c st' ⟨rfl,m',rfl,g1,g2,up⟩
     exact wpS_pure (h m' xs3 kp3 g1 g2 up)
   ·refine wpS_bind (wpS_rev ?_)
    have kp3:=Kp.mir (d:=0) (i:=lo) (j:=lo+d) kx (Nat.le_refl _) (by have:=kx.size;omega)
    have up3:UpO rk (mirror (xs) lo (lo+d) ((lo+d-lo) / 2)) lo d:=fun i j hij hj=>by
     have sz:=kx.size;rw[Rk_mir (by omega),Rk_mir (by omega),if_pos (by omega),if_pos (by omega),show lo+(lo+d)-1-(lo+i)=lo+(d-1-i) by omega,show lo+(lo+d)-1-(lo+j)=lo+(d-1-j) by omega]
     exact dx _ _ (by omega) (by omega)
    generalize mirror (xs) lo (lo+d) ((lo+d-lo) / 2)=xs3 at kp3 up3 ⊢
    have sz3:=kp3.size;refine wpS_bind (wpS_mono (wpS_forRange (I:=fun x c st'=>st'=setArr st xs3/\c=(none,x)/\UpO rk xs3 lo x) (Q:=fun c st'=>st'=setArr st xs3/\∃ m,c=(none,m)/\1<=m/\m<=n/\UpO rk xs3 lo m) ?_ ?_ ⟨rfl,rfl,up3⟩) ?_)
    ·rintro x c st' hx1 hx ⟨rfl,rfl,up⟩
     have hx1:d<=x:=hx1;dsimp only;refine wpS_bind (C.ltAt hk ml kp3 (by omega) (by omega) ?_)
     by_cases q:Rk rk xs3 (lo+x)<Rk rk xs3 (lo+x-1)
     ·rw[decide_eq_true q]
      exact wpS_ite (fun _=>wpS_pure ⟨rfl,x,rfl,by omega,by omega,up⟩) fun z=>absurd rfl z
     ·rw[decide_eq_false q]
      exact wpS_ite (fun z=>by cases z) fun _=>wpS_pure ⟨rfl,rfl,up_more up (.inr (Nat.le_of_not_lt q))⟩
    ·rintro c st' ⟨rfl,rfl,up⟩
     rw[show max d n=n by omega] at up ⊢
     exact⟨rfl,n,rfl,h1,Nat.le_refl _,up⟩
    ·rintro c st' ⟨rfl,m',rfl,g1,g2,up⟩
     exact wpS_pure (h m' xs3 kp3 g1 g2 up)
end
end Fx
set_option maxRecDepth 100000
namespace Fx
open PySem PySem.W PyProof.Rows
noncomputable def rows:List (List Keyed×Nat)->Nat->List (Nat×Nat×Nat)
 |[],_=>[]
 |r::t,o=>(o,r.1.length,r.2)::rows t (o+r.1.length)
noncomputable def flatR (rs:List (List Keyed×Nat)):List Keyed:=(rs.map (·.1)).flatten
theorem flatR_app (a b:List (List Keyed×Nat)):flatR (a++b)=flatR a++flatR b:=by unfold flatR;rw[List.map_append,List.flatten_append]
theorem flatR_cons (r:List Keyed×Nat) (b:List (List Keyed×Nat)):flatR (r::b)=r.1++flatR b:=by unfold flatR;rw[List.map_cons,List.flatten_cons]
theorem rows_app:∀ (a b:List (List Keyed×Nat)) (o:Nat),rows (a++b) o=rows a o++rows b (o+(flatR a).length)
 |[],b,o=>rfl
 |r::a,b,o=>by
  rw[List.cons_append];show (o,r.1.length,r.2)::rows (a++b) (o+r.1.length)=(o,r.1.length,r.2)::(rows a (o+r.1.length)++rows b _);rw[rows_app a b,flatR_cons,List.length_append,Nat.add_assoc]
theorem rows_len:∀ (a:List (List Keyed×Nat)) (o:Nat),(rows a o).length=a.length
 |[],o=>rfl
 |r::a,o=>by show (rows a _).length+1=_;rw[rows_len a];rfl
structure RunsOk (rk:Keyed->Nat) (κ:SortKind) (T:List Keyed) (post:List Keyed) (rs:List (List Keyed×Nat)) (st:SortSt):Prop where
 kind:kindOf st=κ
 fail:failedOf st=none
 pend:(pendingOf st).toList=rows rs 0
 arr:(arrOf st).toList=flatR rs++post
 perm:(arrOf st).toList.Perm T
 ne:∀ r∈rs,r.1≠[]
 so:∀ r∈rs,r.1.Pairwise (leR rk)
section
variable {prog:Program}{w:World}{A:Around}{E:Value->Shared->Prop}{s:Shared}{κ:SortKind}{rk:Keyed->Nat}{T:List Keyed}
theorem RunsOk.pat {post:List Keyed}{rs:List (List Keyed×Nat)}{st:SortSt} (h:RunsOk rk κ T post rs st) {a b:List (List Keyed×Nat)}{r:List Keyed×Nat} (e:rs=a++r::b):(pendingOf st)[a.length]?=some ((flatR a).length,r.1.length,r.2):=by
 rw[<- Array.getElem?_toList,h.pend,e,rows_app,List.getElem?_append_right (by rw[rows_len];omega),rows_len,Nat.sub_self,Nat.zero_add]
 rfl
theorem RunsOk.psize {post:List Keyed}{rs:List (List Keyed×Nat)}{st:SortSt} (h:RunsOk rk κ T post rs st):(pendingOf st).size=rs.length:=by
 rw[<- Array.length_toList,h.pend,rows_len]
theorem merge_runs (C:Cmp prog w A s κ rk (fun x=>x∈T)) {post:List Keyed}{rs:List (List Keyed×Nat)}{st:SortSt} (h:RunsOk rk κ T post rs st) {i:Nat} (hi:i+1<rs.length) {Q:Bool->SortSt->Prop}
  (q:∀ rs' st',RunsOk rk κ T post rs' st'->rs'.length+1=rs.length->Q true st'):wpS (model prog w) A E s (mergeAt' i) Q st:=by
 obtain⟨a,L,R,b,rfl,rfl⟩:∃ a L R b,rs=a++L::R::b/\a.length=i:=by
  refine⟨rs.take i,rs[i],rs[i+1],rs.drop (i+2),?_,by rw[List.length_take];omega⟩
  have e1:=List.drop_eq_getElem_cons (l:=rs) (i:=i) (by omega)
  have e2:=List.drop_eq_getElem_cons (l:=rs) (i:=i+1) (by omega)
  rw[<- e2,<- e1,List.take_append_drop]
 have p1:=h.pat (a:=a) (r:=L) (b:=R::b) rfl;have p2:=h.pat (a:=a++[L]) (r:=R) (b:=b) (by simp)
 rw[flatR_app,List.length_append,List.length_append,flatR_cons] at p2
 have e:(arrOf st).toList=flatR a++(L.1++(R.1++(flatR b++post))):=by
  rw[h.arr,flatR_app,flatR_cons,flatR_cons];simp only[List.append_assoc]
 have ml:L∈a++L::R::b:=by simp
 have mr:R∈a++L::R::b:=by simp
 refine merge_at C h.kind h.fail e p1 (p':=R.2) (by simpa [flatR] using p2) (h.ne _ ml) (h.ne _ mr) (h.so _ ml) (h.so _ mr) (fun x hx=>h.perm.mem_iff.mp hx) fun xs g N ex np ns=>?_
 have nl:N.length=L.1.length+R.1.length:=by rw[np.length_eq,List.length_append]
 refine q (a++(N,L.2)::b) _ ⟨rfl,rfl,?_,?_,?_,fun r hr=>?_,fun r hr=>?_⟩ (by simp;omega)
 ·show (((pendingOf st).setIfInBounds a.length ((flatR a).length,L.1.length+R.1.length,L.2)).eraseIdxIfInBounds (a.length+1)).toList=_
  rw[Array.toList_eraseIdxIfInBounds,Array.toList_setIfInBounds,h.pend,rows_app,rows_app];have l1:=rows_len a 0;rw[List.set_append_right _ _ (by omega),List.eraseIdx_append_of_length_le (by omega),l1,Nat.sub_self,Nat.add_sub_cancel_left]
  show rows a 0++((flatR a).length,L.1.length+R.1.length,L.2)::rows b (0+(flatR a).length+L.1.length+R.1.length)=rows a 0++(0+(flatR a).length,N.length,L.2)::rows b (0+(flatR a).length+N.length);rw[nl,Nat.zero_add,Nat.add_assoc]
 ·show xs.toList=_
  rw[ex,flatR_app,flatR_cons];simp only[List.append_assoc]
 ·show xs.toList.Perm T
  refine List.Perm.trans ?_ h.perm;rw[ex,e,<- List.append_assoc L.1];exact (np.append_right _).append_left _
 ·rcases List.mem_append.mp hr with hr | hr
  ·exact h.ne r (List.mem_append_left _ hr)
  ·rcases List.mem_cons.mp hr with rfl | hr
   ·intro z
    have z:N=[]:=z;rw[z] at nl;have:=List.length_pos_iff.mpr (h.ne _ ml);simp at nl;omega
   ·exact h.ne r (List.mem_append_right _ (List.mem_cons_of_mem _ (List.mem_cons_of_mem _ hr)))
 ·rcases List.mem_append.mp hr with hr | hr
  ·exact h.so r (List.mem_append_left _ hr)
  ·rcases List.mem_cons.mp hr with rfl | hr
   ·exact ns
   ·exact h.so r (List.mem_append_right _ (List.mem_cons_of_mem _ (List.mem_cons_of_mem _ hr)))
end
end Fx
set_option maxRecDepth 100000
namespace Fx
open PySem PySem.W PyProof.Rows
section
variable {prog:Program}{w:World}{A:Around}{E:Value->Shared->Prop}{s:Shared}{κ:SortKind}{rk:Keyed->Nat}{T:List Keyed}
theorem up_seg {xs:Array Keyed}{lo n:Nat} (hn:lo+n<=xs.size) (h:UpO rk xs lo n):((xs.toList.drop lo).take n).Pairwise (leR rk):=by
 rw[List.pairwise_iff_getElem];intro i j hi hj hij;rw[List.length_take] at hi hj
 have e:∀ (k:Nat) (hk:k<((xs.toList.drop lo).take n).length),Rk rk xs (lo+k)=rk ((xs.toList.drop lo).take n)[k]:=fun k hk=>by
  refine Rk_at ?_;rw[List.length_take] at hk;rw[List.getElem_take,List.getElem_drop,<- Array.getElem?_toList,List.getElem?_eq_getElem]
 have:=h i j (by omega) (by omega)
 rw[e i (by rw[List.length_take];omega),e j (by rw[List.length_take];omega)] at this
 exact this
theorem take_kp {lo:Nat}{a xs:Array Keyed} (h:Kp lo a xs):xs.toList.take lo=a.toList.take lo:=by
 refine List.ext_getElem? fun i=>?_
 rw[List.getElem?_take,List.getElem?_take]
 split
 ·rename_i hi
  rw[Array.getElem?_toList,Array.getElem?_toList];exact h.2 i hi
 ·rfl
theorem RunsOk.push {post rest N:List Keyed}{rs:List (List Keyed×Nat)}{st:SortSt} (h:RunsOk rk κ T post rs st) (e:post=N++rest) (nN:N≠[]) (sN:N.Pairwise (leR rk)):RunsOk rk κ T rest (rs++[(N,0)]) (setPending st ((pendingOf st).push ((flatR rs).length,N.length,0))):=by
 refine⟨h.kind,h.fail,?_,?_,h.perm,fun r hr=>?_,fun r hr=>?_⟩
 ·show ((pendingOf st).push ((flatR rs).length,N.length,0)).toList=_
  rw[Array.toList_push,h.pend,rows_app,Nat.zero_add];rfl
 ·show (arrOf st).toList=_
  rw[h.arr,flatR_app,e];rw[flatR_cons,show flatR ([]:List (List Keyed×Nat))=[] from rfl,List.append_nil,List.append_assoc]
 ·rcases List.mem_append.mp hr with hr | hr
  ·exact h.ne r hr
  ·rw[List.mem_singleton.mp hr];exact nN
 ·rcases List.mem_append.mp hr with hr | hr
  ·exact h.so r hr
  ·rw[List.mem_singleton.mp hr];exact sN
theorem RunsOk.pow {post:List Keyed}{rs:List (List Keyed×Nat)}{st:SortSt} (h:RunsOk rk κ T post rs st) (pw:Nat) (hn:rs≠[]):∃ rs',rs'≠[]/\flatR rs'=flatR rs/\RunsOk rk κ T post rs' (setPending st ((pendingOf st).modify ((pendingOf st).size-1) fun x=>(x.1,x.2.1,pw))):=by
 obtain⟨a,r,rfl⟩:∃ a r,rs=a++[r]:=by
  rcases List.eq_nil_or_concat rs with z | ⟨a,r,z⟩
  ·exact absurd z hn
  ·exact⟨a,r,by rw[z,List.concat_eq_append]⟩
 have fe:flatR (a++[(r.1,pw)])=flatR (a++[r]):=by rw[flatR_app,flatR_app,flatR_cons,flatR_cons]
 refine⟨a++[(r.1,pw)],by simp,fe,h.kind,h.fail,?_,?_,h.perm,fun x hx=>?_,fun x hx=>?_⟩
 ·show ((pendingOf st).modify ((pendingOf st).size-1) fun x=>(x.1,x.2.1,pw)).toList=_
  rw[h.psize,Array.toList_modify,h.pend,rows_app,rows_app];have l1:=rows_len a 0;rw[show (a++[r]).length-1=(rows a 0).length by rw[l1];simp]
  have mo:∀ (l:List (Nat×Nat×Nat)) (y:Nat×Nat×Nat) (f:Nat×Nat×Nat->Nat×Nat×Nat),(l++[y]).modify l.length f=l++[f y]:=by
   intro l y f
   induction l with
   |nil=>rfl
   |cons z l ih=>rw[List.cons_append,List.length_cons,List.modify_succ_cons,ih];rfl
  exact mo _ _ _
 ·show (arrOf st).toList=_
  rw[h.arr,fe]
 ·rcases List.mem_append.mp hx with hx | hx
  ·exact h.ne x (List.mem_append_left _ hx)
  ·rw[List.mem_singleton.mp hx]
   exact h.ne r (by simp)
 ·rcases List.mem_append.mp hx with hx | hx
  ·exact h.so x (List.mem_append_left _ hx)
  ·rw[List.mem_singleton.mp hx]
   exact h.so r (by simp)
theorem ite_lt {c:Prop} [Decidable c] {a b n:Nat} (h1:a+1<n) (h2:b+1<n):(if c then a else b)+1<n:=by
 split
 ·exact h1
 ·exact h2
theorem RunsOk.rear {post:List Keyed}{rs:List (List Keyed×Nat)}{st:SortSt} (h:RunsOk rk κ T post rs st) {xs:Array Keyed} (kp:Kp (flatR rs).length (arrOf st) xs) (n:Nat):RunsOk rk κ T ((xs.toList.drop (flatR rs).length).take n++xs.toList.drop ((flatR rs).length+n)) rs (setArr st xs):=by
 refine⟨h.kind,h.fail,h.pend,?_,(Array.perm_iff_toList_perm.mp kp.1).trans h.perm,h.ne,h.so⟩;show xs.toList=_;have e:=take_kp kp;rw[h.arr,List.take_left'] at e
 ·rw[<- List.drop_drop,List.take_append_drop]
  exact (List.take_append_drop (flatR rs).length xs.toList).symm.trans (by rw[e])
 ·rfl
theorem RunsOk.lens {post:List Keyed}{rs:List (List Keyed×Nat)}{st:SortSt} (h:RunsOk rk κ T post rs st):(flatR rs).length+post.length=T.length:=by
 rw[<- h.perm.length_eq,h.arr,List.length_append]
theorem runs_ok (C:Cmp prog w A s κ rk (fun x=>x∈T)) {st:SortSt} (hk:kindOf st=κ) (hf:failedOf st=none) (hp:pendingOf st=#[]) (ha:(arrOf st).toList=T) (h2:2<=(arrOf st).size) {Q:Unit->SortSt->Prop}
  (q:∀ st',(arrOf st').toList.Perm T->(arrOf st').toList.Pairwise (leR rk)->failedOf st'=none->Q () st'):wpS (model prog w) A E s sortRuns' Q st:=by
 have sz:∀ {post:List Keyed}{rs:List (List Keyed×Nat)}{st':SortSt},RunsOk rk κ T post rs st'->(arrOf st').size=(arrOf st).size:=fun {post rs st'} h=>by
  rw[<- Array.length_toList,<- Array.length_toList,h.perm.length_eq,ha]
 refine wpS_bind (wpS_get ?_);dsimp only;refine wpS_bind (wpS_mono (wpS_forRange (I:=fun x c st'=>∃ lo rs post,c=(none,lo)/\RunsOk rk κ T post rs st'/\(flatR rs).length=lo/\x<=lo)
  (Q:=fun c st'=>∃ lo rs,c=(none,lo)/\RunsOk rk κ T [] rs st') ?_ ?_ ⟨0,[],T,rfl,⟨hk,hf,by rw[hp];rfl,ha,by rw[ha],fun r hr=>(by cases hr),fun r hr=>(by cases hr)⟩,rfl,Nat.zero_le _⟩) ?_)
 ·rintro x c st' _ hx ⟨lo,rs,post,rfl,R,hl,xl⟩
  have s1:=sz R;have s2:=R.lens;have s3:T.length=(arrOf st).size:=by rw[<- ha,Array.length_toList]
  refine wpS_ite (fun c=>?_) fun c=>?_
  ·have c:lo>=(arrOf st).size:=c
   obtain rfl:post=[]:=List.length_eq_zero_iff.mp (by omega)
   exact wpS_pure ⟨lo,rs,rfl,R⟩
  have c:¬ lo>=(arrOf st).size:=c;have hx:x<(arrOf st).size:=hx;have ml:∀ x∈(arrOf st').toList,x∈T:=fun x hx=>R.perm.mem_iff.mp hx
  have prep:∀ (n:Nat) (xs:Array Keyed),Kp lo (arrOf st') xs->1<=n->lo+n<=(arrOf st).size->UpO rk xs lo n->RunsOk rk κ T ((xs.toList.drop lo).take n++xs.toList.drop (lo+n)) rs (setArr st' xs)/\((xs.toList.drop lo).take n).length=n/\(xs.toList.drop lo).take n≠[]/\((xs.toList.drop lo).take n).Pairwise (leR rk):=fun n xs kp h1 h2 up=>by
   have sx:=kp.size;have nl:((xs.toList.drop lo).take n).length=n:=by rw[List.length_take,List.length_drop,Array.length_toList];omega
   refine⟨?_,nl,fun z=>by rw[z] at nl;simp at nl;omega,up_seg (by omega) up⟩
   subst hl;exact R.rear kp n
  refine wpS_bind (run_ok C (st:=st') (xs0:=arrOf st') R.kind ml (lo:=lo) (n:=(arrOf st).size-lo) (by omega) (by omega) ⟨Array.Perm.refl _,fun _ _=>rfl⟩ fun m xs kp m1 m2 up=>?_)
  refine wpS_ite (fun c2=>?_) fun c2=>?_
  ·refine wpS_bind (wpS_lift (wpAny_rule ⟨rfl,?_⟩))
   have c2:m<minRun' (arrOf st).size (arrOf st).size 0:=c2;refine wpS_bind (binO_ok C (st:=st') R.kind ml (lo:=lo) (n:=min ((arrOf st).size-lo) (minRun' (arrOf st).size (arrOf st).size 0)) (ok:=m) (by omega) (by omega) kp up fun xs kp up=>?_)
   refine wpS_ite (fun z=>by cases z) fun _=>?_
   obtain⟨R1,nlen,nN,sN⟩:=prep _ xs kp (by omega) (by omega) up
   refine wpS_bind (wpS_get ?_)
   rcases List.eq_nil_or_concat rs with z | ⟨a,r,z⟩
   ·have hb:((sortPriv% PySem.Builtin.SortState.pending) (setArr st' xs)).back?=none:=by
     have e:(pendingOf st').toList=[]:=by rw[R.pend,z];rfl
     have e2:pendingOf st'=#[]:=Array.toList_inj.mp e;show (pendingOf st').back?=none;rw[e2];rfl
    rw[hb];have R2:=R1.push rfl nN sN;rw[nlen,hl] at R2;exact wpS_bind (wpS_modify (wpS_pure ⟨lo+min ((arrOf st).size-lo) (minRun' (arrOf st).size (arrOf st).size 0),_,_,rfl,R2,by have:=R2.lens;have:=R1.lens;simp only[List.length_append,nlen] at this;omega,by omega⟩))
   ·obtain⟨y,hb⟩:∃ y,((sortPriv% PySem.Builtin.SortState.pending) (setArr st' xs)).back?=some y:=by
     have e:=R.psize;rw[z,List.concat_eq_append,List.length_append,List.length_singleton] at e;refine⟨(pendingOf st')[(pendingOf st').size-1]'(by omega),?_⟩
     show (pendingOf st').back?=_;rw[Array.back?_eq_getElem?,Array.getElem?_eq_getElem]
    obtain⟨y1,y2,y3⟩:=y;rw[hb];refine wpS_bind (wpS_mono (wpS_forRange (I:=fun x c st2=>c=(none,())/\∃ rs2,rs2≠[]/\RunsOk rk κ T _ rs2 st2)
     (Q:=fun c st2=>c=(none,())/\∃ rs2,rs2≠[]/\RunsOk rk κ T _ rs2 st2) ?_ (fun c st2 z=>z) ⟨rfl,rs,by rw[z];simp,R1⟩) ?_)
    ·rintro x2 c st2 _ hx2 ⟨rfl,rs2,ne2,R2⟩
     refine wpS_bind (wpS_get ?_);have ps:=R2.psize
     by_cases c:1<rs2.length
     ·have hb2:(if ((sortPriv% PySem.Builtin.SortState.pending) st2).size > 1 then ((sortPriv% PySem.Builtin.SortState.pending) st2)[((sortPriv% PySem.Builtin.SortState.pending) st2).size-2]? else none)=some ((pendingOf st2)[(pendingOf st2).size-2]'(by omega)):=by
       show (if (pendingOf st2).size > 1 then (pendingOf st2)[(pendingOf st2).size-2]? else none)=_;rw[if_pos (by omega),Array.getElem?_eq_getElem]
      rw[hb2];refine wpS_ite (fun _=>wpS_pure ⟨rfl,rs2,ne2,R2⟩) fun _=>wpS_bind (merge_runs C R2 (show (pendingOf st2).size-2+1<rs2.length by omega) fun rs3 st3 R3 hr=>?_)
      exact wpS_ite (fun z=>by cases z) fun _=>wpS_pure ⟨rfl,rs3,fun z=>(by rw[z] at hr;simp at hr;omega),R3⟩
     ·have hb2:(if ((sortPriv% PySem.Builtin.SortState.pending) st2).size > 1 then ((sortPriv% PySem.Builtin.SortState.pending) st2)[((sortPriv% PySem.Builtin.SortState.pending) st2).size-2]? else none)=none:=by
       show (if (pendingOf st2).size > 1 then (pendingOf st2)[(pendingOf st2).size-2]? else none)=_;rw[if_neg (by omega)]
      rw[hb2];exact wpS_pure ⟨rfl,rs2,ne2,R2⟩
    ·rintro c st2 ⟨rfl,rs2,ne2,R2⟩
     dsimp only;obtain⟨rs3,ne3,fe,R3⟩:=R2.pow _ ne2;have R4:=R3.push rfl nN sN
     have fl:(flatR rs3).length=lo:=by
      have:=R3.lens;have:=R1.lens;omega
     rw[nlen,fl] at R4;exact wpS_bind (wpS_modify (wpS_bind (wpS_modify (wpS_pure ⟨lo+min ((arrOf st).size-lo) (minRun' (arrOf st).size (arrOf st).size 0),_,_,rfl,R4,by have:=R4.lens;have:=R1.lens;simp only[List.length_append,nlen] at this;omega,by omega⟩))))
  ·obtain⟨R1,nlen,nN,sN⟩:=prep m xs kp m1 (by omega) up
   refine wpS_bind (wpS_get ?_)
   rcases List.eq_nil_or_concat rs with z | ⟨a,r,z⟩
   ·have hb:((sortPriv% PySem.Builtin.SortState.pending) (setArr st' xs)).back?=none:=by
     have e:(pendingOf st').toList=[]:=by rw[R.pend,z];rfl
     have e2:pendingOf st'=#[]:=Array.toList_inj.mp e;show (pendingOf st').back?=none;rw[e2];rfl
    rw[hb];have R2:=R1.push rfl nN sN;rw[nlen,hl] at R2;exact wpS_bind (wpS_modify (wpS_pure ⟨lo+m,_,_,rfl,R2,by have:=R2.lens;have:=R1.lens;simp only[List.length_append,nlen] at this;omega,by omega⟩))
   ·obtain⟨y,hb⟩:∃ y,((sortPriv% PySem.Builtin.SortState.pending) (setArr st' xs)).back?=some y:=by
     have e:=R.psize;rw[z,List.concat_eq_append,List.length_append,List.length_singleton] at e;refine⟨(pendingOf st')[(pendingOf st').size-1]'(by omega),?_⟩
     show (pendingOf st').back?=_;rw[Array.back?_eq_getElem?,Array.getElem?_eq_getElem]
    obtain⟨y1,y2,y3⟩:=y;rw[hb];refine wpS_bind (wpS_mono (wpS_forRange (I:=fun x c st2=>c=(none,())/\∃ rs2,rs2≠[]/\RunsOk rk κ T _ rs2 st2)
     (Q:=fun c st2=>c=(none,())/\∃ rs2,rs2≠[]/\RunsOk rk κ T _ rs2 st2) ?_ (fun c st2 z=>z) ⟨rfl,rs,by rw[z];simp,R1⟩) ?_)
    ·rintro x2 c st2 _ hx2 ⟨rfl,rs2,ne2,R2⟩
     refine wpS_bind (wpS_get ?_);have ps:=R2.psize
     by_cases c:1<rs2.length
     ·have hb2:(if ((sortPriv% PySem.Builtin.SortState.pending) st2).size > 1 then ((sortPriv% PySem.Builtin.SortState.pending) st2)[((sortPriv% PySem.Builtin.SortState.pending) st2).size-2]? else none)=some ((pendingOf st2)[(pendingOf st2).size-2]'(by omega)):=by
       show (if (pendingOf st2).size > 1 then (pendingOf st2)[(pendingOf st2).size-2]? else none)=_;rw[if_pos (by omega),Array.getElem?_eq_getElem]
      rw[hb2];refine wpS_ite (fun _=>wpS_pure ⟨rfl,rs2,ne2,R2⟩) fun _=>wpS_bind (merge_runs C R2 (show (pendingOf st2).size-2+1<rs2.length by omega) fun rs3 st3 R3 hr=>?_)
      exact wpS_ite (fun z=>by cases z) fun _=>wpS_pure ⟨rfl,rs3,fun z=>(by rw[z] at hr;simp at hr;omega),R3⟩
     ·have hb2:(if ((sortPriv% PySem.Builtin.SortState.pending) st2).size > 1 then ((sortPriv% PySem.Builtin.SortState.pending) st2)[((sortPriv% PySem.Builtin.SortState.pending) st2).size-2]? else none)=none:=by
       show (if (pendingOf st2).size > 1 then (pendingOf st2)[(pendingOf st2).size-2]? else none)=_;rw[if_neg (by omega)]
      rw[hb2];exact wpS_pure ⟨rfl,rs2,ne2,R2⟩
    ·rintro c st2 ⟨rfl,rs2,ne2,R2⟩
     dsimp only;obtain⟨rs3,ne3,fe,R3⟩:=R2.pow _ ne2;have R4:=R3.push rfl nN sN
     have fl:(flatR rs3).length=lo:=by
      have:=R3.lens;have:=R1.lens;omega
     rw[nlen,fl] at R4;exact wpS_bind (wpS_modify (wpS_bind (wpS_modify (wpS_pure ⟨lo+m,_,_,rfl,R4,by have:=R4.lens;have:=R1.lens;simp only[List.length_append,nlen] at this;omega,by omega⟩))))
 ·rintro c st' ⟨lo,rs,post,rfl,R,hl,xl⟩
  have s1:=sz R;have s2:(arrOf st').size=lo+post.length:=by rw[<- Array.length_toList,R.arr,List.length_append,hl]
  have xl:max 0 (arrOf st).size<=lo:=xl;obtain rfl:post=[]:=List.length_eq_zero_iff.mp (by omega)
  exact⟨lo,rs,rfl,R⟩
 ·rintro c st' ⟨lo,rs,rfl,R⟩
  dsimp only
  have lenle:∀ (rs:List (List Keyed×Nat)),(∀ r∈rs,r.1≠[])->rs.length<=(flatR rs).length:=by
   intro rs
   induction rs with
   |nil=>intro _;exact Nat.le_refl _
   |cons r rs ih =>
    intro h;rw[flatR_cons,List.length_append,List.length_cons];have:=List.length_pos_iff.mpr (h r List.mem_cons_self);have:=ih fun x hx=>h x (List.mem_cons_of_mem _ hx)
    omega
  have total:∀ {rs:List (List Keyed×Nat)}{st':SortSt},RunsOk rk κ T [] rs st'->(flatR rs).length=(arrOf st).size:=fun {rs st'} R=>by
   have:=sz R;rw[<- Array.length_toList,R.arr,List.append_nil] at this;exact this
  refine wpS_bind (wpS_mono (wpS_forRange (I:=fun x c st'=>c=(none,())/\∃ rs,RunsOk rk κ T [] rs st'/\rs.length+x<=(arrOf st).size)
   (Q:=fun c st'=>c=(none,())/\∃ rs,RunsOk rk κ T [] rs st'/\rs.length<=1) ?_ ?_ ⟨rfl,rs,R,by have:=lenle rs R.ne;have:=total R;omega⟩) ?_)
  ·rintro x c st' _ hx ⟨rfl,rs,R,hl⟩
   refine wpS_bind (wpS_get ?_);have ps:=R.psize;refine wpS_ite (fun c=>wpS_pure ⟨rfl,rs,R,?_⟩) fun c=>wpS_bind (merge_runs C R ?_ fun rs' st2 R' hr=>?_)
   ·rw[<- ps];exact c
   ·have c:¬ (pendingOf st').size<=1:=c
    exact ite_lt (show (pendingOf st').size-2-1+1<rs.length by omega) (show (pendingOf st').size-2+1<rs.length by omega)
   ·exact wpS_ite (fun z=>by cases z) fun _=>wpS_pure ⟨rfl,rs',R',by omega⟩
  ·rintro c st' ⟨rfl,rs,R,hl⟩
   have hl:rs.length+max 0 (arrOf st).size<=(arrOf st).size:=hl;exact⟨rfl,rs,R,by omega⟩
  ·rintro c st' ⟨rfl,rs,R,hl⟩
   refine wpS_pure (q st' R.perm ?_ R.fail);rw[R.arr,List.append_nil]
   match rs,hl,R.so with
   |[],_,_=>exact List.Pairwise.nil
   |[r],_,so =>
    rw[flatR_cons,show flatR ([]:List (List Keyed×Nat))=[] from rfl,List.append_nil];exact so r List.mem_cons_self
end
end Fx
set_option maxRecDepth 100000
namespace Fx
open PySem PySem.W PySem.Spec PyProof.Rows
theorem perm_map {α β:Type} [DecidableEq β] {g:α->β}:∀ (l:List β) (m:List α),l.Perm (m.map g)->∃ m':List α,m'.Perm m/\l=m'.map g
 |[],m,h=>by
  have:m.map g=[]:=h.nil_eq.symm;exact⟨[],by rw[List.map_eq_nil_iff.mp this],rfl⟩
 |x::l,m,h=>by
  have hx:x∈m.map g:=h.mem_iff.mp List.mem_cons_self;obtain⟨i,hi,rfl⟩:=List.mem_map.mp hx;obtain⟨a,b,rfl⟩:=List.append_of_mem hi
  have h2:(g i::l).Perm (g i::(a++b).map g):=by
   refine h.trans ?_;rw[List.map_append,List.map_cons,List.map_append];exact List.perm_middle
  obtain⟨m',h3,rfl⟩:=perm_map l (a++b) h2.cons_inv;exact⟨i::m',(h3.cons i).trans List.perm_middle.symm,rfl⟩
section
variable {prog:Program}{w:World}{A:Around}{E:Value->Shared->Prop}{s:Shared}
theorem zip_self (vs:List Value):(vs.toArray.zip vs.toArray).toList=(List.range vs.length).map fun i=>(vs.getD i Value.none,vs.getD i Value.none):=by
 refine List.ext_getElem (by simp) fun i h1 h2=>?_
 simp at h1;simp[h1]
theorem list_sort_any {a:Addr}{vs:List Value}{n:Nat}{κ:SortKind}{r:Nat → Nat}{P:PySem.Fin → Shared → Prop} (ho:s.heap.get? a=some (seqObj "list" vs.toArray n)) (hz:vs.length ≤ sizeLine) (k:Asks prog w A s a vs κ r)
  (cons:∀ i j,i<vs.length->j<vs.length->vs.getD i Value.none=vs.getD j Value.none->r i=r j)
  (fin:∀ p:Array Nat,OkP vs.length p->Mono r p vs.length->P (.done (.ret .none)) {s with heap:=sortedHeap s.heap a vs (p.toList.map fun i=>vs.getD i Value.none).toArray}) :
  wpAny (model prog w) A (Builtin.«list.sort» ⟨[.ref a],[]⟩) P E s:=by
 rw[list_sort_plain];have ha:a<s.heap.objs.size:=Heap.lt_size ho;have hsz:vs.toArray.size=vs.length:=by simp
 refine wpAny_bind (listItems_at ho rfl ?_);refine wpAny_bind (listUpdate_at ho rfl ?_ (by omega) (Nat.zero_le _))
 obtain⟨e1,ho1⟩:∃ e1,(s.heap.update a (Obj.mapSeq fun _=>#[])).get? a=some (seqObj "list" #[] e1):=⟨_,get?_update_seq ho (fun _=>#[])⟩
 refine wpAny_bind (seqEpoch_at ho1 rfl ?_);refine wpAny_bind (wpAny_newTuple ?_ (show vs.length<=_ by omega))
 refine wpAny_bind (wpAny_newList ?_ (Nat.zero_le _));refine wpAny_holding ?_;have up:∀ b o,b<s.heap.objs.size → (s.heap.update a (Obj.mapSeq fun _=>#[])).get? b=some o → (((s.heap.update a (Obj.mapSeq fun _=>#[])).push (seqObj "tuple" vs.toArray 0)).push (seqObj "list" #[] 0)).get? b=some o:=fun b o hb q=>Heap.get?_push_of_some _ (Heap.get?_push_of_some _ q)
 have ho6:=up a _ ha ho1;have keep:∀ b o,b≠a → s.heap.get? b=some o → (((s.heap.update a (Obj.mapSeq fun _=>#[])).push (seqObj "tuple" vs.toArray 0)).push (seqObj "list" #[] 0)).get? b=some o:=fun b o hb q =>
  up b o (Heap.lt_size q) (by rw[Heap.get?_update_ne _ _ _ _ hb];exact q)
 show wpAny (model prog w) A _ P E {s with heap:=((s.heap.update a (Obj.mapSeq fun _=>#[])).push (seqObj "tuple" vs.toArray 0)).push (seqObj "list" #[] 0)}
 generalize hG:((s.heap.update a (Obj.mapSeq fun _=>#[])).push (seqObj "tuple" vs.toArray 0)).push (seqObj "list" #[] 0)=G at ho6 keep
 dsimp only;have last:∀ (p:Array Nat) (st:SortSt),OkP vs.length p->Mono r p vs.length->(arrOf st).map (·.2)=(p.toList.map fun i=>vs.getD i Value.none).toArray->failedOf st=none->wpAny (model prog w) A (do
   let touched:=(<- seqEpoch a) != e1
   Builtin.List.listUpdate (.ref a) fun _=>(arrOf st).map (·.2)
   if let some e:=failedOf st then rule "list.sort.comparison-raised";throw e
   if touched then rule "list.sort.modified";raiseError "ValueError" "list modified during sort"
   ret .none) P E {s with heap:=G}:=fun p st op mo ar fa=>by
  refine wpAny_bind (seqEpoch_at ho6 rfl ?_);rw[ar];have z:(p.toList.map fun i=>vs.getD i Value.none).toArray.size=vs.length:=by rw[List.size_toArray,List.length_map,Array.length_toList,op.size]
  refine wpAny_bind (listUpdate_at ho6 rfl ?_ (Nat.zero_le _) (by rw[z];omega))
  rw[fa];simp only[bne_self_eq_false,Bool.false_eq_true,if_false];subst hG;exact wpAny_pure (fin p op mo)
 by_cases h2:vs.toArray.size<2
 ·rw[if_pos h2,if_pos h2]
  refine wpAny_bind (wpAny_pure ?_);rw[StateT.run_pure];refine wpAny_bind (wpAny_pure ?_);refine last (List.toArray (List.range vs.length)) _ okP_range (fun i j hij hj=>by rw[show i=j by omega];exact Nat.le_refl _) ?_ rfl
  show ((vs.toArray.zip vs.toArray).map (·.2))=_;rw[show (List.toArray (List.range vs.length)).toList=List.range vs.length from rfl,getD_range]
  apply Array.toList_inj.mp
  rw[Array.toList_map];simp[List.map_snd_zip]
 ·rw[if_neg h2,if_neg h2]
  refine wpAny_bind (wpAny_mono (k.kind (by omega) _ keep (fun κ' s'=>κ'=κ/\s'={s with heap:=G}) ⟨rfl,rfl⟩) (fun κ' s' hk=>?_) fun _ _ x=>x.elim)
  obtain⟨rfl,rfl⟩:=hk;obtain⟨T,hT⟩:∃ T,T=(vs.toArray.zip vs.toArray).toList:=⟨_,rfl⟩;have zs:=zip_self vs
  have mem:∀ x∈T,∃ i,i<vs.length/\x=(vs.getD i Value.none,vs.getD i Value.none):=fun x hx=>by
   rw[hT,zs] at hx;obtain⟨i,hi,rfl⟩:=List.mem_map.mp hx;exact⟨i,List.mem_range.mp hi,rfl⟩
  have fi:∀ x:Keyed,∃ ri:Nat,∀ i,i<vs.length->x=(vs.getD i Value.none,vs.getD i Value.none)->ri=r i:=fun x=>by
   by_cases q:∃ i,i<vs.length/\x=(vs.getD i Value.none,vs.getD i Value.none)
   ·obtain⟨i,hi,rfl⟩:=q
    exact⟨r i,fun j hj e=>cons i j hi hj (congrArg Prod.fst e)⟩
   ·exact⟨0,fun i hi e=>absurd ⟨i,hi,e⟩ q⟩
  obtain⟨rk,hrk⟩:∃ rk:Keyed->Nat,∀ i,i<vs.length->rk (vs.getD i Value.none,vs.getD i Value.none)=r i:=⟨fun x=>Classical.choose (fi x),fun i hi=>Classical.choose_spec (fi _) i hi rfl⟩
  have C:Cmp prog w A {s with heap:=G} κ' rk (fun x=>x∈T):=⟨fun x y hx hy Q q=>by
   obtain⟨i,hi,rfl⟩:=mem x hx;obtain⟨j,hj,rfl⟩:=mem y hy;rw[hrk i hi,hrk j hj] at q;exact k.ask G keep i j hi hj Q q⟩
  refine wpAny_bind (wpAny_mono (runs_ok (E:=E) C (st:=SortSt.mk' κ' (vs.toArray.zip vs.toArray) #[] 7 none) rfl rfl rfl hT.symm (by show 2<=(vs.toArray.zip vs.toArray).size;rw[Array.size_zip];omega)
   (Q:=fun _ st'=>(arrOf st').toList.Perm T/\(arrOf st').toList.Pairwise (leR rk)/\failedOf st'=none) fun st' a1 a2 a3=>⟨a1,a2,a3⟩) ?_ fun _ _ e=>e)
  rintro ⟨⟨⟩,st'⟩ s' ⟨hs',hp,hs,hf⟩;dsimp only at hp hs hf;subst hs';dsimp only;rw[hT,zs] at hp;obtain⟨m,pm,em⟩:=perm_map _ _ hp;have ml:m.length=vs.length:=by rw[pm.length_eq,List.length_range]
  have mlt:∀ i∈m,i<vs.length:=fun i hi=>List.mem_range.mp (pm.mem_iff.mp hi)
  refine last m.toArray st' ⟨by rw[List.size_toArray,ml],pm⟩ (fun i j hij hj=>?_) ?_ hf
  ·by_cases e:i=j
   ·subst e;exact Nat.le_refl _
   ·have hi':i<m.length:=by omega
    have hj':j<m.length:=by omega
    have g:∀ (k:Nat) (hk:k<m.length),KP r m.toArray k=r m[k]:=fun k hk=>by
     unfold KP;rw[Array.getD_eq_getD_getElem?,List.getElem?_toArray,List.getElem?_eq_getElem hk];rfl
    rw[g i hi',g j hj'];rw[em,List.pairwise_map,List.pairwise_iff_getElem] at hs;have:=hs i j hi' hj' (by omega)
    unfold leR at this;rw[hrk _ (mlt _ (List.getElem_mem hi')),hrk _ (mlt _ (List.getElem_mem hj'))] at this;exact this
  ·apply Array.toList_inj.mp
   rw[Array.toList_map,em,List.map_map];rfl
theorem sorted_any {it:Addr}{ob:Obj}{n:Nat}{us:List Value}{κ:SortKind}{Q:Value → Shared → Prop}{r:Nat → Nat} (ho:s.heap.get? it=some ob) (hc:ob.cls=.type "list") (hd:ob.data=.seq us.toArray n) (hz:us.length ≤ sizeLine)
  (cons:∀ i j,i<us.length->j<us.length->us.getD i Value.none=us.getD j Value.none->r i=r j)
  (k:∀ (h1:Heap) (a:Addr),(∀ b o,s.heap.get? b=some o->h1.get? b=some o)->s.heap.get? a=none->Asks prog w A.in1.in1 {s with heap:=h1} a us κ r)
  (fin:∀ (h1 h2:Heap) (p:Array Nat) (e:Nat),OkP us.length p → Mono r p us.length → (∀ b o',s.heap.get? b=some o' → h1.get? b=some o') → (∀ b o',h1.get? b=some o' → h2.get? b=some o') → h2.get? h1.objs.size=some (seqObj "list" (p.toList.map fun i=>us.getD i Value.none).toArray e) → Q (.ref h1.objs.size) {s with heap:=h2}) :
  wpAny (model prog w) A (call (.builtin "sorted") [.ref it]) Q E s:=by
 refine Calls.call_function_entry kind_sorted plain_sorted entry_sorted (args_sorted1 _) ?_;unfold Builtin.«sorted»;refine wpAny_bind (m:=checkCount "sorted" 1 1 _) (wpAny_pure ?_);have hz':us.toArray.size<=sizeLine:=by rw[List.size_toArray];exact hz
 refine wpAny_bind (wpAny_collect_seq it (.inl rfl) ho hc hd (fun h1 kp=>?_) hz')
 refine wpAny_bind (wpAny_newList ?_ hz);have at1:(h1.push (seqObj "list" us.toArray 0)).get? h1.objs.size=some (seqObj "list" us.toArray 0):=Heap.get?_push_size _ rfl;have old:∀ b o,s.heap.get? b=some o → (h1.push (seqObj "list" us.toArray 0)).get? b=some o:=fun b o q=>Heap.get?_push_of_some _ (kp b o q)
 have new:s.heap.get? h1.objs.size=none:=by
  cases q:s.heap.get? h1.objs.size with
  |none=>rfl
  |some o=>exact absurd (Heap.lt_size (kp _ o q)) (Nat.lt_irrefl _)
 refine wpAny_bind (wpAny_holding (wpAny_call_entry slot_list_sort ⟨_,at1,rfl⟩ entry_list_sort (list_sort_any (s:={s with heap:=h1.push (seqObj "list" us.toArray 0)}) at1 hz (k _ _ old new) cons fun p op mo=>⟨_,rfl,?_⟩) (args_list_sort _)))
 obtain⟨e,he⟩:=sortedHeap_at (out:=(p.toList.map fun i=>us.getD i Value.none).toArray) at1
 refine wpAny_pure ⟨_,rfl,fin h1 _ p e op mo kp (fun b o' hb=>?_) he⟩
 have lt:b<h1.objs.size:=Heap.lt_size hb;show (sortedHeap (h1.push (seqObj "list" us.toArray 0)) h1.objs.size us (p.toList.map fun i=>us.getD i Value.none).toArray).get? b=some o'
 rw[sortedHeap_old (Nat.ne_of_lt lt) (by rw[size_push'];exact Nat.lt_succ_of_lt lt)]
 exact Heap.get?_push_of_some _ hb
end
end Fx
set_option maxRecDepth 100000
namespace Fx
open PySem PySem.W PySem.Spec PyProof.Rows L2
section
variable {X:Cx}{pins:List (Addr×Obj)}{σ:L2.St}{H:Hp}{s:Shared}
theorem tup_same (I:Inv X pins σ H s) {ds es:List D}{x:V} (r1:Rep X.K H (.tup ds) x) (r2:Rep X.K H (.tup es) x):∃ ws,Reps X.K H ds ws/\Reps X.K H es ws:=by
 unfold Rep at r1 r2;obtain⟨a,ws,rfl,s1,q1⟩:=r1;obtain⟨b,ws',e,s2,q2⟩:=r2;cases e;obtain rfl:=I.tuple_inj s1 s2;exact⟨ws,q1,q2⟩
theorem rank_congr {n:Nat}{key:Nat->Ky}{i j:Nat} (h:key i=key j):rankK n key i=rankK n key j:=by
 unfold rankK;rw[h]
end
end Fx
set_option maxRecDepth 100000
namespace Fx
open PySem PySem.Spec PyProof.Rows L2
noncomputable def lss (H:Hp) (a:Addr):Hp:=fun b=>if b=a then none else H b
theorem lss_at {H:Hp}{a:Addr}:lss H a a=none:=if_pos rfl
theorem lss_ne {H:Hp}{a b:Addr} (h:b≠a):lss H a b=H b:=if_neg h
theorem lss_of {H:Hp}{a b:Addr}{u:HO} (h:lss H a b=some u):b≠a/\H b=some u:=by
 by_cases e:b=a
 ·rw[e,lss_at] at h;cases h
 ·exact⟨e,by rw[lss_ne e] at h;exact h⟩
theorem owL1_eq {o:Option Sl}{ds:List D} (h:owL1 o=some ds):o=some (.ow false (.lst ds)):=by
 unfold owL1 at h
 split at h
 ·cases h;rfl
 ·cases h
section
variable {K:PySem.W.Frag}{c:FC}{H0 H:Hp}{ρ:En}{σ:L2.St}{i:Nat}{ds:List D}
theorem RS.asList (R:RS K c H0 H ρ σ) (hi:ρ[i]?=some (.ow false (.lst ds))) :
  ∃ a vs,σ[i]?=some (some (.ref a))/\H0 a=none/\c.He a=none/\H a=some (.lst vs)/\Reps K H0 ds vs/\Same H0 (upd H0 a (.lst vs))/\RS K c (upd H0 a (.lst vs)) H (ρ.set i (.im (.lst ds))) σ:=by
 obtain⟨a,x,y,z,vs,e,r⟩:=R.ow i _ _ hi;have he:c.He a=none:=z;have il:i<ρ.length:=(List.getElem?_eq_some_iff.mp hi).1;have s0:Same H0 (upd H0 a (.lst vs)):=fun b u q=>by rw[upd_ne (ne_of_none q y)];exact q
 have off:∀ {j:Nat}{sl:Sl},j≠i->(ρ.set i (.im (.lst ds)))[j]?=some sl->ρ[j]?=some sl:=fun hj e=>by rwa [List.getElem?_set_ne (Ne.symm hj)] at e
 have on:∀ {sl:Sl},(ρ.set i (.im (.lst ds)))[i]?=some sl->sl=.im (.lst ds):=fun e=>by
  rw[List.getElem?_set_self il] at e;exact (Option.some.inj e).symm
 refine⟨a,vs,x,y,he,e,r,s0,fun b u q=>?_,R.init.trans s0,fun b u q=>?_,R.keep,R.apt,by rw[List.length_set];exact R.len,fun j d' q=>?_,fun j bb o' q=>?_,fun j k b1 b2 o' o'' b e1 e2 e3 e4=>?_⟩
 ·by_cases h:b=a
  ·subst h;rw[upd_same] at q;cases q;exact e
  ·rw[upd_ne h] at q;exact R.same b u q
 ·by_cases h:b=a
  ·subst h;exact .inr he
  ·rw[upd_ne h] at q;exact R.fresh b u q
 ·by_cases hj:j=i
  ·subst hj
   cases on q;refine⟨.ref a,x,?_⟩;unfold Rep;exact⟨a,vs,rfl,.inl (.inl upd_same),Reps.mono s0 _ r⟩
  ·obtain⟨v,a1,a2⟩:=R.im j d' (off hj q)
   exact⟨v,a1,Rep.mono s0 _ a2⟩
 ·by_cases hj:j=i
  ·subst hj;cases on q
  ·have q':=off hj q
   obtain⟨b,x1,y1,z1,w1⟩:=R.ow j bb o' q';have nb:b≠a:=fun h=>hj (R.ne j i bb false o' _ b q' hi x1 (by rw[h];exact x))
   exact⟨b,x1,by rw[upd_ne nb];exact y1,z1,w1.step s0 fun u q=>q⟩
 ·by_cases hj:j=i
  ·subst hj;cases on e1
  ·by_cases hk:k=i
   ·subst hk;cases on e2
   ·exact R.ne j k b1 b2 o' o'' b (off hj e1) (off hk e2) e3 e4
theorem RS.backL {H0' H':Hp}{a:Addr}{vs:List V} (R:RS K c H0 H ρ σ) (hi:ρ[i]?=some (.ow false (.lst ds))) (one:oneOw i ρ=true) (x:σ[i]?=some (some (.ref a))) (y:H0 a=none) (he:c.He a=none) (r:Reps K H0 ds vs)
  (sm:Same (upd H0 a (.lst vs)) H0') (R':RS K c H0' H' (ρ.set i (.im (.lst ds))) σ):Same H0 (lss H0' a)/\RS K c (lss H0' a) H' ρ σ:=by
 have s0:Same H0 (lss H0' a):=fun b u q=>by
  have nb:b≠a:=fun h=>by rw[h,y] at q;cases q
  rw[lss_ne nb];exact sm b u (by rw[upd_ne nb];exact q)
 refine⟨s0,fun b u q=>R'.same b u (lss_of q).2,fun b u q=>s0 b u (R.init b u q),fun b u q=>R'.fresh b u (lss_of q).2,R'.keep,R'.apt,R.len,fun j d q=>?_,fun j b o q=>?_,R.ne⟩
 ·obtain⟨v,a1,a2⟩:=R.im j d q
  exact⟨v,a1,Rep.mono s0 _ a2⟩
 ·by_cases hj:j=i
  ·subst hj
   rw[hi] at q;cases q;exact⟨a,x,lss_at,he,vs,R'.same a _ (sm a _ upd_same),Reps.mono s0 _ r⟩
  ·unfold oneOw at one
   have:=List.all_eq_true.mp one (.ow b o) (List.mem_of_getElem? (i:=j) (by rw[List.getElem?_set_ne (Ne.symm hj)];exact q))
   cases this
end
section
variable {X:Cx}{pos:Pos}{e:Expr}{F:FE}{A:FA}{T:FT}
theorem xthl (i:Nat) (he:XT X e T):XT X e (tHoldL i T):=PT.wk he fun σ H Q hh0_=>by
 obtain⟨c,H0,ρ,d,ρ',R,f,q⟩:=hh0_;unfold tHoldL tHoldLA at f;obtain⟨ds,h1,f⟩:=bnd_eq f
 by_cases hc:oneOw i ρ=true
 ·rw[if_pos hc] at f
  unfold tHoldLB at f;obtain⟨⟨d1,ρ1⟩,h2,f2⟩:=bnd_eq f
  by_cases hd:ρ1=ρ.set i (.im (.lst ds))
  ·have f4:some (d1,ρ)=some (d,ρ'):=(if_pos hd).symm.trans f2
   cases f4;subst hd;have z:=owL1_eq h1;obtain⟨a,vs,x,y,hE,_,r,_,R1⟩:=R.asList z;refine⟨c,_,_,d,_,R1,h2,fun H0' H' sm R'=>?_⟩
   obtain⟨s1,R2⟩:=R.backL z hc x y hE r sm R';exact q _ _ s1 R2
  ·have f4:=(if_neg hd).symm.trans f2
   cases f4
 ·rw[if_neg hc] at f
  cases f
theorem asL_inv {m:MO}{d:D} (h:asL m=some d):∃ ds,m=.lst ds/\d=.lst ds:=by
 cases m with
 |lst ds=>cases h;exact⟨ds,rfl,rfl⟩
 |dic kds=>cases h
 |dtu kds=>cases h
theorem xNL {k:Nat}{x:Str}{g:List D → Option MO}{p:Pos}{es:List Expr} (N:DefN X.prog X.w X.K X.mg X.base k x g) (hr:Room k X.A) (ha:XA X (e::es) A) (hg:Gl X x:=by rfl) (hdb:(x==("__debug__":Str))=false:=by decide)
  (he:starEach (e::es) X.env=(false,eval e X.env)::starEach es X.env:=by rfl) (hpl:(backTo pos (starEach es X.env)).any (·.1)=false:=by rfl):XE X (.Call (.Name x p) (e::es) [] pos) (eNL g A):=by
 obtain⟨f,fd,ps,Fn,hb,hk,hm⟩:=N.ex;refine PE.wk (pe_call Fn hr hg hm hk hb .nil pass0 ha hdb he hpl) fun σ H Q hh0_=>?_
 obtain⟨c,H0,ρ,d,ρ',R,z,q⟩:=hh0_;unfold eNL eNLa at z;obtain⟨⟨ds,ρ1⟩,h1,z⟩:=bnd_eq z;unfold eNLb at z;obtain⟨m,h2,z⟩:=bnd_eq z;unfold mkP at z;obtain⟨d1,h3,z⟩:=bnd_eq z;have z':some (d1,ρ1)=some (d,ρ'):=z;cases z';obtain⟨es,rfl,rfl⟩:=asL_inv h3;refine⟨c,H0,ρ,ds,_,R,h1,fun vs H1 Hh s1 R1 r1=>⟨H1,ds,_,R1.same,by rw[List.append_nil];exact r1,h2,fun a Hi' H' nw=>?_⟩⟩
 obtain⟨s0,s',s,fr,a0,aH,ws,ea,r⟩:=nw;have m0:Same Hi' (upd Hi' a (.lst ws)):=fun b u q=>by rw[upd_ne (ne_of_none q a0)];exact q
 refine q _ (upd Hi' a (.lst ws)) H' (s1.trans (s0.trans m0)) (R1.after ⟨s0.trans m0,s,fun b u q=>?_,fun b u q=>?_⟩) ?_
 ·by_cases h:b=a
  ·subst h;rw[upd_same] at q;cases q;exact ea
  ·rw[upd_ne h] at q;exact s' b u q
 ·by_cases h:b=a
  ·subst h;exact .inr aH
  ·rw[upd_ne h] at q;exact fr b u q
 ·unfold Rep
  exact⟨a,ws,rfl,.inl (.inl upd_same),Reps.mono m0 _ r⟩
end
end Fx
set_option maxRecDepth 100000
namespace Fx
open PySem PySem.Spec PyProof.Rows L2
section
variable {P:Program}{w:World}{κ:Type} [DecidableEq κ] {knd:HeapKind P w κ}{A:Around}{E:Value->Shared->Prop}{s:Shared}{d a:Addr}{xs:List (κ×Addr×Value)}{k:κ}{v:Value}
theorem ofH_more {h:Heap}{o:Obj}{es:Array DictEntry}{ep:Nat} (e1:h.get? d=some o) (e2:o.ExactDict) (e3:o.data=.dict es ep) (e4:es.toList=xs.map (entryOfKey knd)) (e5:∀ x∈xs,knd.is h x.1 x.2.1) (e6:(xs.map (·.1)).Nodup)
  (hk:knd.is h k a) (no:∀ (j:Nat) (p:Addr×Value),xs[j]?≠some (k,p)) :
  (h.update d (Obj.mapDictKeys (fun q=>q.push ⟨knd.hash k,.ref a,v⟩))).DictOfH knd d (xs++[(k,a,v)]):=by
 have new:¬ k∈xs.map (·.1):=fun z=>by
  obtain⟨x,hx,ex⟩:=List.mem_map.mp z;obtain⟨j,hj⟩:=List.getElem?_of_mem hx;exact no j x.2 (by rw[hj,<- ex])
 have sm:Heap.SameBut d h (h.update d (Obj.mapDictKeys (fun q=>q.push ⟨knd.hash k,.ref a,v⟩))):=Heap.SameBut.update ..
 have e3':=Obj.data_mapDictKeys e3 (fun q=>q.push ⟨knd.hash k,.ref a,v⟩)
 refine⟨_,_,_,Heap.get?_update_self _ e1 (Obj.isFreed_of_dict e3'),e2.mapDictKeys _,e3',?_,fun x hx=>?_,?_⟩
 ·rw[Array.toList_push,e4,List.map_append];rfl
 ·cases List.mem_append.mp hx with
  |inl hx=>exact knd.keeps (e5 x hx) e1 e3 sm
  |inr hx=>cases List.mem_singleton.mp hx;exact knd.keeps hk e1 e3 sm
 ·rw[List.map_append];exact nd_snoc e6 new
theorem sd_heap {Q:Value->Shared->Prop} (hu:knd.room A) (hk:knd.is s.heap k a) (hm:s.heap.DictOfH knd d xs) (hz:xs.length<sizeLine)
  (old:∀ (j:Nat) (p:Addr×Value),xs[j]?=some (k,p)->Q p.2 {s with toks:=s.toks+knd.draws k})
  (new:(∀ (j:Nat) (p:Addr×Value),xs[j]?≠some (k,p))->∀ h',h'.DictOfH knd d (xs++[(k,a,v)])->Heap.SameBut d s.heap h'->Q v {s with heap:=h',toks:=s.toks+knd.draws k}) :
  wpAny (model P w) A (dictSetDefault d (.ref a) v) Q E s:=by
 obtain⟨o,es,ep,e1,e2,e3,e4,e5,e6⟩:=hm;have len:=size_of_entries e4;unfold dictSetDefault;refine wpAny_holding (wpAny_bind (knd.pyHash hu hk (wpAny_bind (wpAny_dictFind_heap (s:={s with toks:=s.toks+knd.draws k}) hu hk e1 e3 e4 e5 e6 (fun no=>?_) fun j p hj=>?_))))
 ·exact wpAny_bind (wpAny_rule (wpAny_bind (wpAny_updateDictKeys (hz:=by omega) (s:={s with toks:=s.toks+knd.draws k}) e1 e3 (wpAny_pure (new no _ (ofH_more e1 e2 e3 e4 e5 e6 hk no) (Heap.SameBut.update ..))))))
 ·refine wpAny_bind (wpAny_dictEntries (s:={s with toks:=s.toks+knd.draws k}) e1 e3 ?_)
  rw[entry_at e4 j,hj];exact wpAny_bind (wpAny_rule (wpAny_pure (old j p hj)))
end
end Fx
set_option maxRecDepth 100000
namespace Fx
open PySem PySem.Spec PyProof.Rows L2
section
variable {P:Program}{w:World}{A:Around}{E:Value->Shared->Prop}{s:Shared}{d it:Addr}{od:Obj}{es:Array DictEntry}{i ep:Nat}
theorem num_nat {n:Nat}:((n:Int)+1)=((n+1:Nat):Int):=by omega
theorem not_neg {n:Nat}:¬ ((n:Int)<0):=by omega
theorem it_dict {Q:Value->Shared->Prop} (hd:(d==sysModules)=false) (h1:s.heap.get? d=some od) (h2:od.ExactDict) (h3:od.data=.dict es ep)
  (q:∀ h',(∀ b o,s.heap.get? b=some o->h'.get? b=some o)->h'.IsKeyIter s.heap.objs.size d 0 es.size ep->h'.objs.size=s.heap.objs.size+1->Q (.ref s.heap.objs.size) {s with heap:=h'}):wpAny (model P w) A (pyIter (.ref d)) Q E s:=by
 have ty:s.TypeIs (.ref d) "dict":=⟨od,h1,h2.1⟩;refine wpAny_pyIter_slot ty PySem.F.slot_dict_iter (wpAny_call_entry PySem.F.slot_dict_iter ty PySem.F.entry_dict_iter (wpAny_bind ?_) (PySem.F.args_dict_iter_1 _));unfold Builtin.Dict.dictSlotNone;refine wpAny_bind (wpAny_notOrdered_dict ty (show wpAny _ _ (pure (Value.ref d)) _ _ s from wpAny_pure (show wpAny _ _ (Builtin.Dict.showsAll d >>= _) _ _ s from ?_)));unfold Builtin.Dict.showsAll;rw[hd];refine wpAny_bind (wpAny_pure (wpAny_bind (wpAny_dictEntries h1 h3 (wpAny_bind (wpAny_dictEpoch h1 h3 (wpAny_bind (wpAny_newObj_type (wpAny_pure ⟨_,rfl,"dict_keyiterator",_,⟨_,Heap.get?_push_size _ rfl,rfl⟩,PySem.F.slot_dict_keyiterator_next.lookup,?_⟩))))))));exact q _ (fun b o e=>Heap.get?_push_of_some _ e) ⟨_,Heap.get?_push_size _ rfl,rfl,rfl⟩ (Heap.size_push ..)
theorem next_key {e:DictEntry}{Q:Option Value->Shared->Prop} (hit:s.heap.IsKeyIter it d i es.size ep) (h1:s.heap.get? d=some od) (h3:od.data=.dict es ep) (he:es[i]?=some e)
  (q:∀ h',h'.IsKeyIter it d (i+1) es.size ep->Heap.SameBut it s.heap h'->Q (some e.key) {s with heap:=h'}):wpAny (model P w) A (pyNext (.ref it)) Q E s:=by
 have ty:=hit.typeIs;obtain⟨o,e1,e2,e3⟩:=id hit;have at2:(s.heap.update it (Obj.mapFields (·.setIfInBounds 1 (rawInt ((i:Int)+1))))).IsKeyIter it d (i+1) es.size ep :=
  ⟨_,Heap.get?_update_self _ e1 (Obj.isFreed_of_fields (Obj.data_mapFields e3 _)),e2▸Obj.cls_mapFields ..,by rw[Obj.data_mapFields e3,num_nat];rfl⟩
 unfold pyNext;refine wpAny_bind (wpAny_attempt (wpAny_callSpecial?_slot (name:=Str.ofString "__next__") ty PySem.F.slot_dict_keyiterator_next (wpAny_call_entry PySem.F.slot_dict_keyiterator_next ty PySem.F.entry_dict_keyiterator_next (wpAny_bind (wpAny_pure (wpAny_bind (wpAny_bind (wpAny_bind (wpAny_typeNameOfWhole_keyiter ty (wpAny_pure (wpAny_bind (wpAny_fieldsOf e1 e3 ?_)))))))) ) (PySem.F.args_dict_keyiterator_next_1 _))));refine show wpAny _ _ (if (Value.ref d==Value.none)=true then _ else _) _ _ s from ?_;have nn:(Value.ref d==Value.none)=false:=rfl;rw[nn];refine wpAny_bind (wpAny_pure (wpAny_bind (wpAny_dictEntries h1 h3 ?_)));rw[if_neg (by simp)]
 refine wpAny_bind (wpAny_pure (wpAny_bind (wpAny_dictEpoch h1 h3 ?_)));rw[if_neg (by simp)]
 refine wpAny_pure ?_;dsimp only;rw[if_neg not_neg,Int.toNat_natCast,he];refine wpAny_bind (wpAny_bind (wpAny_typeNameOfWhole_keyiter ty (wpAny_pure (wpAny_bind (wpAny_isOneOf_keyiter ty (show wpAny _ _ (setField (.ref it) 1 (rawInt ((i:Int)+1)) >>= _) _ _ s from wpAny_bind (wpAny_setField e1 e3 (by simp) (wpAny_bind (wpAny_holding (wpAny_bind (wpAny_isOneOf_keyiter (Heap.IsKeyIter.typeIs (s:={s with heap:=s.heap.update it (Obj.mapFields (·.setIfInBounds 1 (rawInt ((i:Int)+1))))}) at2) ?_)))))))))))
 exact wpAny_pure (wpAny_pure ⟨_,rfl,wpAny_pure (q _ at2 (Heap.SameBut.update ..))⟩)
theorem stop_after {Q:Option Value->Shared->Prop}{h:Heap}{g:Shared} (hh:A.handled=none) (q:∀ h',(∀ b o,h.get? b=some o->h'.get? b=some o)->Q none {g with heap:=h'}) :
  wpAny (model P w) A.in1 (newExc (.type "StopIteration") [] >>= fun x=>(raiseNew x:Sem Fin)) (fun fin s'=>False)
   (fun e s'=>wpAny (model P w) A (isInstance e (Value.type "StopIteration") >>= fun b=>if b=true then pure none else throw e) Q E s') {g with heap:=h}:=by
 simp only[newExc,newTuple];refine wpAny_bind (wpAny_bind (wpAny_newObj_type (wpAny_bind (m:=firstArgMember _ _) (wpAny_of_eq (a:=Value.none) (by first | rfl | (simp only[firstArgMember];rfl)) (wpAny_newObj_type ?_ (by size_fits)))) (by size_fits)))
 unfold raiseNew;refine wpAny_bind (wpAny_handled ?_);rw[show A.in1.handled=none from hh];refine wpAny_bind (wpAny_pure (wpAny_throw ?_));refine wpAny_bind (wpAny_isInstance (T:="StopIteration") (b:=true) ⟨_,Heap.get?_push_size _ rfl,rfl⟩ isSubtype_stop ?_);exact wpAny_pure (q _ fun b o e=>Heap.get?_push_of_some _ (Heap.get?_push_of_some _ e))
theorem end_key {Q:Option Value->Shared->Prop} (hh:A.handled=none) (hit:s.heap.IsKeyIter it d i es.size ep) (h1:s.heap.get? d=some od) (h3:od.data=.dict es ep) (he:es.size<=i)
  (q:∀ h',Heap.ExtBut it s.heap h'->Q none {s with heap:=h'}):wpAny (model P w) A (pyNext (.ref it)) Q E s:=by
 have ty:=hit.typeIs;obtain⟨o,e1,e2,e3⟩:=id hit;unfold pyNext;refine wpAny_bind (wpAny_attempt (wpAny_callSpecial?_slot (name:=Str.ofString "__next__") ty PySem.F.slot_dict_keyiterator_next (wpAny_call_entry PySem.F.slot_dict_keyiterator_next ty PySem.F.entry_dict_keyiterator_next (wpAny_bind (wpAny_pure (wpAny_bind (wpAny_bind (wpAny_bind (wpAny_typeNameOfWhole_keyiter ty (wpAny_pure (wpAny_bind (wpAny_fieldsOf e1 e3 ?_)))))))) ) (PySem.F.args_dict_keyiterator_next_1 _))));refine show wpAny _ _ (if (Value.ref d==Value.none)=true then _ else _) _ _ s from ?_;have nn:(Value.ref d==Value.none)=false:=rfl;rw[nn];refine wpAny_bind (wpAny_pure (wpAny_bind (wpAny_dictEntries h1 h3 ?_)));rw[if_neg (by simp)]
 refine wpAny_bind (wpAny_pure (wpAny_bind (wpAny_dictEpoch h1 h3 ?_)));rw[if_neg (by simp)]
 refine wpAny_pure ?_;dsimp only;rw[if_neg not_neg,Int.toNat_natCast,Array.getElem?_eq_none he];refine wpAny_bind (wpAny_bind (wpAny_typeNameOfWhole_keyiter ty (wpAny_pure (show wpAny _ _ (setField (.ref it) 0 .none >>= _) _ _ s from wpAny_bind (wpAny_setField e1 e3 (by simp) ?_)))))
 exact wpAny_mono (stop_after (g:=s) (E:=E) (Q:=Q) hh fun h' k=>q h' fun b o n e=>k b o ((Heap.SameBut.update ..).extBut b o n e)) (fun _ _ f=>f.elim) fun _ _ z=>z
end
end Fx
set_option maxRecDepth 100000
namespace Fx
open PySem PySem.Spec PyProof.Rows L2
section
variable {P:Program}{w:World}{A:Around}{E:Value->Shared->Prop}{s:Shared}{d it v:Addr}{od:Obj}{es:Array DictEntry}{i n ep:Nat}{x y:Value}
theorem it_items {Q:Value->Shared->Prop} (hv:s.heap.IsItemsView v d) (h1:s.heap.get? d=some od) (h3:od.data=.dict es ep)
  (q:∀ h',(∀ b o,s.heap.get? b=some o->h'.get? b=some o)->IsItemIter h' s.heap.objs.size d 0 es.size ep .none .none->h'.objs.size=s.heap.objs.size+1->Q (.ref s.heap.objs.size) {s with heap:=h'}):wpAny (model P w) A (pyIter (.ref v)) Q E s:=by
 have ty:=hv.typeIs;obtain⟨o,e1,e2,e3⟩:=hv;refine wpAny_pyIter_slot ty PySem.F.slot_dict_items_iter (wpAny_call_entry PySem.F.slot_dict_items_iter ty PySem.F.entry_dict_items_iter (wpAny_bind (wpAny_pure (wpAny_bind (wpAny_bind (wpAny_field e1 e3 (x:=.ref d) rfl (wpAny_pure (wpAny_bind (wpAny_bind (wpAny_dictEntries h1 h3 (wpAny_bind (wpAny_dictEpoch h1 h3 ?_)))))))))))  (PySem.F.args_dict_items_iter_1 _))
 refine wpAny_newObj_type (wpAny_pure ⟨_,rfl,"dict_itemiterator",_,⟨_,Heap.get?_push_size _ rfl,rfl⟩,PySem.F.slot_dict_itemiterator_next.lookup,?_⟩) (by
  rw[show Builtin.Dict_items.ownsTuple "dict_itemiterator"=true from by decide]
  have:(6:Nat)<=sizeLine:=by decide
  simpa [sizeOk,Builtin.Dict_items.ownedTupleFields] using this)
 exact q _ (fun b o e=>Heap.get?_push_of_some _ e) (Heap.get?_push_size _ rfl) (Heap.size_push ..)
theorem pair_made {a c:Value}{Q:Value->Shared->Prop} (hi:IsItemIter s.heap it d i n ep x y)
  (q:∀ h',IsItemIterOut h' it d i n ep a c s.heap.objs.size → h'.get? s.heap.objs.size=some {cls:=.type "tuple",data:=.seq #[a,c]} → h'.objs.size=s.heap.objs.size+1 → (∀ b o,b≠it → s.heap.get? b=some o → h'.get? b=some o) → Q (.ref s.heap.objs.size) {s with heap:=h'}) :
  wpAny (model P w) A (Builtin.Dict_items.pairFromOwner (.ref it) 6 a c) Q E s:=by
 have lt:it<s.heap.objs.size:=Heap.lt_size hi;have ne:s.heap.objs.size≠it:=Nat.ne_of_gt lt;have b0:=Heap.get?_push_of_some {cls:=.type "tuple",data:=.seq #[a,c]} hi;have t0:(s.heap.push {cls:=.type "tuple",data:=.seq #[a,c]}).get? s.heap.objs.size=some {cls:=.type "tuple",data:=.seq #[a,c]}:=Heap.get?_push_size _ rfl;unfold Builtin.Dict_items.pairFromOwner;refine wpAny_bind (wpAny_newTuple (wpAny_bind (wpAny_bind (wpAny_field (s:={s with heap:=s.heap.push {cls:=.type "tuple",data:=.seq #[a,c]}}) b0 rfl (x:=.none) rfl (wpAny_pure ?_)))))
 dsimp only;rw[if_pos rfl];refine wpAny_bind (wpAny_field (s:={s with heap:=s.heap.push {cls:=.type "tuple",data:=.seq #[a,c]}}) b0 rfl (x:=x) rfl (wpAny_bind (wpAny_field (s:={s with heap:=s.heap.push {cls:=.type "tuple",data:=.seq #[a,c]}}) b0 rfl (x:=y) rfl ?_)))
 refine wpAny_bind (wpAny_setField_rec (s:={s with heap:=s.heap.push {cls:=.type "tuple",data:=.seq #[a,c]}}) b0 (by simp) fun g1 b1 s1=>wpAny_bind (wpAny_setField_rec (s:={s with heap:=g1}) b1 (by simp) fun g2 b2 s2=>wpAny_bind (wpAny_setField_rec (s:={s with heap:=g2}) b2 (by simp) fun g3 b3 s3=>wpAny_bind (wpAny_setField_rec (s:={s with heap:=g3}) b3 (by simp) fun g4 b4 s4=>wpAny_bind (wpAny_letGo (wpAny_pure ?_))))))
 have z1:g1.objs.size=(s.heap.push {cls:=.type "tuple",data:=.seq #[a,c]}).objs.size:=s1.1;have z2:g2.objs.size=g1.objs.size:=s2.1;have z3:g3.objs.size=g2.objs.size:=s3.1;have z4:g4.objs.size=g3.objs.size:=s4.1;have go:∀ b o,b≠it → (s.heap.push {cls:=.type "tuple",data:=.seq #[a,c]}).get? b=some o → g4.get? b=some o:=fun b o nb e=>s4.extBut b o nb (s3.extBut b o nb (s2.extBut b o nb (s1.extBut b o nb e)))
 exact q g4 b4 (go _ _ ne t0) (by rw[z4,z3,z2,z1,Heap.size_push]) fun b o nb e=>go b o nb (Heap.get?_push_of_some _ e)
theorem next_item {e:DictEntry}{Q:Option Value->Shared->Prop} (hit:IsItemIter s.heap it d i es.size ep x y) (h1:s.heap.get? d=some od) (h3:od.data=.dict es ep) (he:es[i]?=some e)
  (q:∀ h',IsItemIterOut h' it d (i+1) es.size ep e.key e.val s.heap.objs.size → h'.get? s.heap.objs.size=some {cls:=.type "tuple",data:=.seq #[e.key,e.val]} → h'.objs.size=s.heap.objs.size+1 → (∀ b o,b≠it → s.heap.get? b=some o → h'.get? b=some o) → Q (some (.ref s.heap.objs.size)) {s with heap:=h'}) :
  wpAny (model P w) A (pyNext (.ref it)) Q E s:=by
 have ty:s.TypeIs (.ref it) "dict_itemiterator":=⟨_,hit,rfl⟩;unfold pyNext;refine wpAny_bind (wpAny_attempt (wpAny_callSpecial?_slot (name:=Str.ofString "__next__") ty PySem.F.slot_dict_itemiterator_next (wpAny_call_entry PySem.F.slot_dict_itemiterator_next ty PySem.F.entry_dict_itemiterator_next (wpAny_bind (wpAny_pure (wpAny_bind (wpAny_bind (wpAny_bind (wpAny_typeNameOfWhole_itemiter ty (wpAny_pure (wpAny_bind (wpAny_fieldsOf hit rfl ?_)))))))) ) (PySem.F.args_dict_itemiterator_next_1 _))));refine show wpAny _ _ (if (Value.ref d==Value.none)=true then _ else _) _ _ s from ?_;have nn:(Value.ref d==Value.none)=false:=rfl;rw[nn];refine wpAny_bind (wpAny_pure (wpAny_bind (wpAny_dictEntries h1 h3 ?_)));rw[if_neg (by simp)]
 refine wpAny_bind (wpAny_pure (wpAny_bind (wpAny_dictEpoch h1 h3 ?_)));rw[if_neg (by simp)]
 refine wpAny_pure ?_;dsimp only;rw[if_neg not_neg,Int.toNat_natCast,he];refine wpAny_bind (wpAny_bind (wpAny_typeNameOfWhole_itemiter ty (wpAny_pure (wpAny_bind (wpAny_isOneOf_itemiter ty (show wpAny _ _ (setField (.ref it) 3 (rawInt ((i:Int)+1)) >>= _) _ _ s from wpAny_bind (wpAny_setField_rec hit (by simp) fun g1 b1 s1=>?_)))))))
 have b1':IsItemIter g1 it d (i+1) es.size ep x y:=by
  unfold IsItemIter;rw[<- num_nat];exact b1
 have ty1:Shared.TypeIs {s with heap:=g1} (.ref it) "dict_itemiterator":=⟨_,b1',rfl⟩
 have z1:g1.objs.size=s.heap.objs.size:=s1.1;refine wpAny_bind (wpAny_holding (wpAny_bind (wpAny_isOneOf_itemiter ty1 (wpAny_bind (wpAny_isOneOf_itemiter ty1 (show wpAny _ _ (Builtin.Dict_items.pairFromOwner (.ref it) 6 e.key e.val) _ _ {s with heap:=g1} from pair_made (s:={s with heap:=g1}) b1' fun h' k1 k2 k3 k4=>wpAny_pure ⟨_,rfl,wpAny_pure ?_⟩))))))
 rw[show ({s with heap:=g1}:Shared).heap.objs.size=s.heap.objs.size from z1] at k1 k2 k3 ⊢
 exact q h' k1 k2 k3 fun b o nb e=>k4 b o nb (s1.extBut b o nb e)
theorem end_item {Q:Option Value->Shared->Prop} (hh:A.handled=none) (hit:IsItemIter s.heap it d i es.size ep x y) (h1:s.heap.get? d=some od) (h3:od.data=.dict es ep) (he:es.size<=i)
  (q:∀ h',Heap.ExtBut it s.heap h'->Q none {s with heap:=h'}):wpAny (model P w) A (pyNext (.ref it)) Q E s:=by
 have ty:s.TypeIs (.ref it) "dict_itemiterator":=⟨_,hit,rfl⟩;unfold pyNext;refine wpAny_bind (wpAny_attempt (wpAny_callSpecial?_slot (name:=Str.ofString "__next__") ty PySem.F.slot_dict_itemiterator_next (wpAny_call_entry PySem.F.slot_dict_itemiterator_next ty PySem.F.entry_dict_itemiterator_next (wpAny_bind (wpAny_pure (wpAny_bind (wpAny_bind (wpAny_bind (wpAny_typeNameOfWhole_itemiter ty (wpAny_pure (wpAny_bind (wpAny_fieldsOf hit rfl ?_)))))))) ) (PySem.F.args_dict_itemiterator_next_1 _))));refine show wpAny _ _ (if (Value.ref d==Value.none)=true then _ else _) _ _ s from ?_;have nn:(Value.ref d==Value.none)=false:=rfl;rw[nn];refine wpAny_bind (wpAny_pure (wpAny_bind (wpAny_dictEntries h1 h3 ?_)));rw[if_neg (by simp)]
 refine wpAny_bind (wpAny_pure (wpAny_bind (wpAny_dictEpoch h1 h3 ?_)));rw[if_neg (by simp)]
 refine wpAny_pure ?_;dsimp only;rw[if_neg not_neg,Int.toNat_natCast,Array.getElem?_eq_none he];refine wpAny_bind (wpAny_bind (wpAny_typeNameOfWhole_itemiter ty (wpAny_pure (show wpAny _ _ (setField (.ref it) 2 .none >>= _) _ _ s from wpAny_bind (wpAny_setField hit rfl (by simp) ?_)))))
 exact wpAny_mono (stop_after (g:=s) (E:=E) (Q:=Q) hh fun h' k=>q h' fun b o n e=>k b o ((Heap.SameBut.update ..).extBut b o n e)) (fun _ _ f=>f.elim) fun _ _ z=>z
end
end Fx
set_option maxRecDepth 100000
namespace Fx
open PySem PySem.Spec PyProof.Rows L2
noncomputable def lookT (tab:Tab V) (k:Str×Int):Option V:=(tab.find? fun x=>decide (x.1=k)).map (·.2.2)
noncomputable def putA (k:Str×Int) (v:V) (x:(Str×Int)×Addr×V):(Str×Int)×Addr×V:=if x.1=k then (x.1,x.2.1,v) else x
noncomputable def putT (tab:Tab V) (k:Str×Int) (b:Addr) (v:V):Tab V:=if (lookT tab k).isSome then tab.map (putA k v) else tab++[(k,b,v)]
noncomputable abbrev RowR:(Str×Int)×Addr×V->(Str×Int)×Addr×Value->Prop:=fun p q=>p.1=q.1/\p.2.1=q.2.1/\RelV p.2.2 q.2.2
theorem kTI_inj {a b:Str×Int} (h:kTI a=kTI b):a=b:=by
 unfold kTI at h;injection h with h1 h2
 injection h2 with h3 _
 injection h1 with h1
 injection h3 with h3
 exact Prod.ext h1 h3
theorem dec_kTI (a b:Str×Int):decide (kTI a=kTI b)=decide (a=b):=by
 by_cases e:a=b
 ·rw[e];simp
 ·rw[decide_eq_false e,decide_eq_false fun z=>e (kTI_inj z)]
theorem kTI_map (k:Str×Int):(kTI k).map kV=[.str k.1,.int k.2]:=rfl
theorem keys_rel:∀ {tab:Tab V}{xs:Tab Value},Paired RowR tab xs->(xs.map upTI).map (·.1)=(tab.map (·.1)).map kTI
 |_,_,.nil=>rfl
 |_,_,.cons r t=>by rw[List.map_cons,List.map_cons,List.map_cons,List.map_cons,keys_rel t,r.1];rfl
theorem look_rel {k:Str×Int}:∀ {tab:Tab V}{xs:Tab Value},Paired RowR tab xs->RelO (lookT tab k) ((atKey (xs.map upTI) (kTI k)).map (·.2))
 |_,_,.nil=>trivial
 |_,_,.cons (a:=x) (b:=y) r t=>by
  have ih:=look_rel (k:=k) t;unfold lookT atKey at ih ⊢;rw[List.map_cons,List.find?_cons,List.find?_cons];have e:decide ((upTI y).1=kTI k)=decide (x.1=k):=by rw[r.1];exact dec_kTI _ _
  rw[e];cases decide (x.1=k) with
  |true=>exact r.2.2
  |false=>exact ih
theorem nd_rel {tab:Tab V}{xs:Tab Value} (r:Paired RowR tab xs) (n:(tab.map (·.1)).Nodup):((xs.map upTI).map (·.1)).Nodup:=by
 rw[keys_rel r];exact List.pairwise_map.mpr (n.imp fun hab z=>hab (kTI_inj z))
theorem put_map {k:Str×Int}{v:V}{u:Value} (rv:RelV v u):∀ {tab:Tab V}{xs:Tab Value},Paired RowR tab xs->∃ ys,Paired RowR (tab.map (putA k v)) ys/\ys.map upTI=(xs.map upTI).map (putAt (kTI k) u)
 |_,_,.nil=>⟨[],.nil,rfl⟩
 |_,_,.cons (a:=x) (b:=y) r t=>by
  obtain⟨ys,h1,h2⟩:=put_map (k:=k) rv t
  by_cases e:x.1=k
  ·refine⟨(y.1,y.2.1,u)::ys,.cons ?_ h1,?_⟩
   ·unfold putA;rw[if_pos e];exact⟨r.1,r.2.1,rv⟩
   ·rw[List.map_cons,List.map_cons,List.map_cons,h2]
    unfold putAt;rw[if_pos (by rw[<- e,r.1];rfl)];rfl
  ·refine⟨y::ys,.cons ?_ h1,?_⟩
   ·unfold putA;rw[if_neg e];exact r
   ·rw[List.map_cons,List.map_cons,List.map_cons,h2]
    unfold putAt;rw[if_neg (fun z=>e (by rw[r.1];exact kTI_inj z))]
theorem paired_app {α β:Type}{F:α->β->Prop}{a:α}{b:β} (h:F a b):∀ {l:List α}{m:List β},Paired F l m->Paired F (l++[a]) (m++[b])
 |_,_,.nil=>.cons h .nil
 |_,_,.cons r t=>.cons r (paired_app h t)
theorem put_rel {k:Str×Int}{b:Addr}{v:V}{u:Value} (rv:RelV v u) {tab:Tab V}{xs:Tab Value} (r:Paired RowR tab xs):∃ ys,Paired RowR (putT tab k b v) ys/\ys.map upTI=storedH (xs.map upTI) (kTI k) b u:=by
 have l:=look_rel (k:=k) r;unfold putT storedH;have e:(lookT tab k).isSome=(atKey (xs.map upTI) (kTI k)).isSome:=by rw[l.isSome_eq,Option.isSome_map]
 rw[e]
 by_cases z:(atKey (xs.map upTI) (kTI k)).isSome=true
 ·rw[if_pos z,if_pos z];exact put_map rv r
 ·rw[if_neg z,if_neg z]
  exact⟨xs++[(k,b,u)],paired_app ⟨rfl,rfl,rv⟩ r,by rw[List.map_append];rfl⟩
theorem putA_key (k:Str×Int) (v:V) (tab:Tab V):(tab.map (putA k v)).map (·.1)=tab.map (·.1):=by
 rw[List.map_map];refine List.map_congr_left fun x _=>?_
 show (putA k v x).1=x.1;unfold putA
 split <;> rfl
theorem look_none {tab:Tab V}{k:Str×Int} (h:lookT tab k=none):¬ k∈tab.map (·.1):=fun z=>by
 obtain⟨x,hx,e⟩:=List.mem_map.mp z;unfold lookT at h;rw[Option.map_eq_none_iff,List.find?_eq_none] at h;exact h x hx (by simpa using e)
theorem putT_key {tab:Tab V}{k:Str×Int}{b:Addr}{v:V}:(putT tab k b v).map (·.1)=if (lookT tab k).isSome then tab.map (·.1) else tab.map (·.1)++[k]:=by
 unfold putT
 split
 ·exact putA_key k v tab
 ·rw[List.map_append];rfl
theorem putT_nd {tab:Tab V}{k:Str×Int}{b:Addr}{v:V} (n:(tab.map (·.1)).Nodup):((putT tab k b v).map (·.1)).Nodup:=by
 rw[putT_key]
 split
 ·exact n
 ·rename_i h
  exact nd_snoc n (look_none (by simpa using h))
theorem putT_len {tab:Tab V}{k:Str×Int}{b:Addr}{v:V}:(putT tab k b v).length<=tab.length+1:=by
 unfold putT
 split
 ·rw[List.length_map];omega
 ·rw[List.length_append];exact Nat.le_refl _
theorem KsAt.put {H:Hp}{tab:Tab V}{k:Str×Int}{b:Addr}{v:V} (h:KsAt H tab) (hb:H b=some (.tup [.str k.1,.int k.2])):KsAt H (putT tab k b v):=fun x hx=>by
 unfold putT at hx
 split at hx
 ·obtain⟨y,hy,e⟩:=List.mem_map.mp hx
  have:=h y hy;rw[<- e];unfold putA
  split <;> exact this
 ·rcases List.mem_append.mp hx with hx | hx
  ·exact h x hx
  ·rw[List.mem_singleton.mp hx];exact hb
theorem KsAt.mono {H H':Hp}{tab:Tab V} (h:KsAt H tab) (s:Same H H'):KsAt H' tab:=fun x hx=>s _ _ (h x hx)
section
variable {P:Program}{w:World}{H:Hp}{h:Heap}{a:Addr}{o:Obj}{tab:Tab V}
theorem KsAt.is (ok:HOk P w H h) {k:Str×Int}{b:Addr} (e:H b=some (.tup [.str k.1,.int k.2])):(tupleKind (mixKind P w)).is h (kTI k) b:=key_of ok (by rw[kTI_map];exact e)
theorem keys_is (ok:HOk P w H h):∀ {tab:Tab V}{xs:Tab Value},Paired RowR tab xs->KsAt H tab->∀ x∈xs.map upTI,(tupleKind (mixKind P w)).is h x.1 x.2.1
 |_,_,.nil,_,x,hx=>nomatch hx
 |_,_,.cons (a:=p) (b:=q) r t,ks,x,hx=>by
  rw[List.map_cons] at hx
  rcases List.mem_cons.mp hx with e | hx
  ·rw[e]
   have:=KsAt.is ok (ks p List.mem_cons_self);show (tupleKind (mixKind P w)).is h (kTI q.1) q.2.1;rw[<- r.1,<- r.2.1];exact this
  ·exact keys_is ok t (fun y hy=>ks y (List.mem_cons_of_mem _ hy)) x hx
theorem TD.of (ok:HOk P w H h) (td:TD P w o tab) (ks:KsAt H tab) (e:h.get? a=some o):∃ xs,Paired RowR tab xs/\h.DictOfH (tupleKind (mixKind P w)) a (xs.map upTI):=by
 obtain⟨ex,⟨es,ep,xs,h1,h2,h3⟩,nd,few⟩:=td;exact⟨xs,h3,o,es,ep,e,ex,h1,h2,keys_is ok h3 ks,nd_rel h3 nd⟩
theorem TD.mk' {xs:Tab Value} (r:Paired RowR tab xs) (d:h.DictOfH (tupleKind (mixKind P w)) a (xs.map upTI)) (nd:(tab.map (·.1)).Nodup) (few:tab.length<=sizeLine):∃ o,h.get? a=some o/\TD P w o tab:=by
 obtain⟨o,es,ep,e1,e2,e3,e4,_,_⟩:=d;exact⟨o,e1,e2,⟨es,ep,xs,e3,e4,r⟩,nd,few⟩
theorem tdO_ok (hd:(a==sysModules)=false) (e:∃ o,h.get? a=some o/\TD P w o tab):ObjOk P w H h a (tdO a tab):=by
 obtain⟨o,e1,e2⟩:=e;exact⟨⟨hd,o,e1,e2⟩,⟨o,e1⟩,fun h1 h2 ⟨x,q,y,z⟩ k=>⟨x,q,k _ y,z⟩⟩
theorem tdF_ok (hd:(a==sysModules)=false) (e1:h.get? a=some o) (e2:TD P w o tab):ObjOk P w H h a (tdF a o tab):=⟨⟨hd,e1,e2⟩,⟨o,e1⟩,fun h1 h2 ⟨x,y,z⟩ k=>⟨x,k _ y,z⟩⟩
noncomputable def TAt (H:Hp) (a:Addr) (tab:Tab V):Prop:=(H a=some (tdO a tab)\/∃ o,H a=some (tdF a o tab))/\KsAt H tab
theorem TAt.obj (ok:HOk P w H h) (t:TAt H a tab):(a==sysModules)=false/\∃ o,h.get? a=some o/\TD P w o tab:=by
 rcases t with ⟨t | ⟨o,t⟩,_⟩
 ·obtain⟨⟨hd,o,e1,e2⟩,_⟩:=(show ObjOk P w H h a (tdO a tab) from ok a _ t)
  exact⟨hd,o,e1,e2⟩
 ·obtain⟨⟨hd,e1,e2⟩,_⟩:=(show ObjOk P w H h a (tdF a o tab) from ok a _ t)
  exact⟨hd,o,e1,e2⟩
end
end Fx
namespace Fx
open PySem
noncomputable def lookD (k:Str×Int) (kds:List ((Str×Int)×D)):Option D:=(kds.find? fun x=>decide (x.1=k)).map (·.2)
noncomputable def putDA (k:Str×Int) (d:D) (x:(Str×Int)×D):(Str×Int)×D:=if x.1=k then (x.1,d) else x
noncomputable def putTD (k:Str×Int) (d:D) (kds:List ((Str×Int)×D)):List ((Str×Int)×D):=if (lookD k kds).isSome then kds.map (putDA k d) else kds++[(k,d)]
noncomputable def owU:Option Sl->Option (List ((Str×Int)×D))
 |some (.ow false (.dtu kds))=>some kds
 |_=>none
@[simp] theorem owU_s (kds:List ((Str×Int)×D)):owU (some (.ow false (.dtu kds)))=some kds:=Eq.trans rfl rfl
noncomputable def ti:List D->Option (Str×Int)
 |[.str s,.int i]=>some (s,i)
 |_=>none
@[simp] theorem ti_s (s:Str) (i:Int):ti [.str s,.int i]=some (s,i):=Eq.trans rfl rfl
noncomputable def sTN (i:Nat) (ρ:En):Option Res:=some (.nx (ρ.set i (.ow false (.dtu []))))
@[simp] theorem sTN_ (i:Nat) (ρ:En):sTN i ρ=some (.nx (ρ.set i (.ow false (.dtu [])))):=Eq.trans rfl rfl
noncomputable def eTGe (k:Str×Int) (d:D) (ρ:En) (o:Option (List ((Str×Int)×D))):Option (D×En):=bnd o fun kds=>some ((lookD k kds).getD d,ρ)
noncomputable def eTGd (i:Nat) (k:Str×Int) (o:Option (D×En)):Option (D×En):=bnd o fun p=>eTGe k p.1 p.2 (owU p.2[i]?)
noncomputable def eTGc (i:Nat) (F:FE) (ρ:En) (o:Option (Str×Int)):Option (D×En):=bnd o fun k=>eTGd i k (F ρ)
noncomputable def eTGb (i:Nat) (F:FE) (o:Option (List D×En)):Option (D×En):=bnd o fun p=>eTGc i F p.2 (ti p.1)
noncomputable def eTGa (i:Nat) (A:FA) (F:FE) (ρ:En) (o:Option (List ((Str×Int)×D))):Option (D×En):=bnd o fun _=>eTGb i F (A ρ)
noncomputable def eTG (i:Nat) (A:FA) (F:FE) (ρ:En):Option (D×En):=eTGa i A F ρ (owU ρ[i]?)
@[simp] theorem eTG_ (i:Nat) (A:FA) (F:FE) (ρ:En):eTG i A F ρ=eTGa i A F ρ (owU ρ[i]?):=Eq.trans rfl rfl
@[simp] theorem eTGa_s (i:Nat) (A:FA) (F:FE) (ρ:En) (q:List ((Str×Int)×D)):eTGa i A F ρ (some q)=eTGb i F (A ρ):=Eq.trans rfl rfl
@[simp] theorem eTGb_s (i:Nat) (F:FE) (ds:List D) (ρ:En):eTGb i F (some (ds,ρ))=eTGc i F ρ (ti ds):=Eq.trans rfl rfl
@[simp] theorem eTGc_s (i:Nat) (F:FE) (ρ:En) (k:Str×Int):eTGc i F ρ (some k)=eTGd i k (F ρ):=Eq.trans rfl rfl
@[simp] theorem eTGd_s (i:Nat) (k:Str×Int) (d:D) (ρ:En):eTGd i k (some (d,ρ))=eTGe k d ρ (owU ρ[i]?):=Eq.trans rfl rfl
@[simp] theorem eTGe_s (k:Str×Int) (d:D) (ρ:En) (kds:List ((Str×Int)×D)):eTGe k d ρ (some kds)=some ((lookD k kds).getD d,ρ):=Eq.trans rfl rfl
noncomputable def sTKe (i:Nat) (d:D) (ρ:En) (k:Str×Int) (o:Option (List ((Str×Int)×D))):Option Res:=bnd o fun kds=>if kds.length<1000 then some (.nx (ρ.set i (.ow false (.dtu (putTD k d kds))))) else none
noncomputable def sTKd (i:Nat) (d:D) (ρ:En) (o:Option (Str×Int)):Option Res:=bnd o fun k=>sTKe i d ρ k (owU ρ[i]?)
noncomputable def sTKc (i:Nat) (d:D) (o:Option (List D×En)):Option Res:=bnd o fun p=>sTKd i d p.2 (ti p.1)
noncomputable def sTKb (i:Nat) (A:FA) (d:D) (ρ:En) (o:Option (List ((Str×Int)×D))):Option Res:=bnd o fun _=>sTKc i d (A ρ)
noncomputable def sTKa (i:Nat) (A:FA) (o:Option (D×En)):Option Res:=bnd o fun p=>sTKb i A p.1 p.2 (owU p.2[i]?)
noncomputable def sTK (i:Nat) (A:FA) (F:FE) (ρ:En):Option Res:=sTKa i A (F ρ)
@[simp] theorem sTK_ (i:Nat) (A:FA) (F:FE) (ρ:En):sTK i A F ρ=sTKa i A (F ρ):=Eq.trans rfl rfl
@[simp] theorem sTKa_s (i:Nat) (A:FA) (d:D) (ρ:En):sTKa i A (some (d,ρ))=sTKb i A d ρ (owU ρ[i]?):=Eq.trans rfl rfl
@[simp] theorem sTKb_s (i:Nat) (A:FA) (d:D) (ρ:En) (q:List ((Str×Int)×D)):sTKb i A d ρ (some q)=sTKc i d (A ρ):=Eq.trans rfl rfl
@[simp] theorem sTKc_s (i:Nat) (d:D) (ds:List D) (ρ:En):sTKc i d (some (ds,ρ))=sTKd i d ρ (ti ds):=Eq.trans rfl rfl
@[simp] theorem sTKd_s (i:Nat) (d:D) (ρ:En) (k:Str×Int):sTKd i d ρ (some k)=sTKe i d ρ k (owU ρ[i]?):=Eq.trans rfl rfl
@[simp] theorem sTKe_s (i:Nat) (d:D) (ρ:En) (k:Str×Int) (kds:List ((Str×Int)×D)):sTKe i d ρ k (some kds)=if kds.length<1000 then some (.nx (ρ.set i (.ow false (.dtu (putTD k d kds))))) else none:=Eq.trans rfl rfl
noncomputable def asT (kds:List ((Str×Int)×D)):D:=.opq (kds.map (·.1)) (kds.map (·.2))
noncomputable def sFTa (i:Nat) (B:FS) (ρ:En) (o:Option (List ((Str×Int)×D))):Option Res:=bnd o fun kds=>B (ρ.set i (.im (asT kds)))
noncomputable def sFT (i:Nat) (B:FS) (ρ:En):Option Res:=sFTa i B ρ (owU ρ[i]?)
@[simp] theorem sFT_ (i:Nat) (B:FS) (ρ:En):sFT i B ρ=sFTa i B ρ (owU ρ[i]?):=Eq.trans rfl rfl
@[simp] theorem sFTa_s (i:Nat) (B:FS) (ρ:En) (kds:List ((Str×Int)×D)):sFTa i B ρ (some kds)=B (ρ.set i (.im (asT kds))):=Eq.trans rfl rfl
noncomputable def dIxT:D->D->Option D
 |.opq ks vs,.tup [.str s,.int i]=>lookD (s,i) (ks.zip vs)
 |_,_=>none
@[simp] theorem dIxT_s (ks:List (Str×Int)) (vs:List D) (s:Str) (i:Int):dIxT (.opq ks vs) (.tup [.str s,.int i])=lookD (s,i) (ks.zip vs):=Eq.trans rfl rfl
noncomputable def kD (k:Str×Int):D:=.tup [.str k.1,.int k.2]
noncomputable def opqX:D->Option (List (Str×Int)×List D)
 |.opq ks vs=>some (ks,vs)
 |_=>none
@[simp] theorem opqX_s (ks:List (Str×Int)) (vs:List D):opqX (.opq ks vs)=some (ks,vs):=Eq.trans rfl rfl
noncomputable def eLKc (ρ:En) (n:Nat) (o:Option (List D)):Option (D×En):=bnd o fun ys=>if n<=sizeLine then some (.lst ys,ρ) else none
noncomputable def eLKb (ks:List (Str×Int)) (T:FT) (F:FE) (ρ:En) (o:Option En):Option (D×En):=bnd o fun fr=>eLKc ρ ks.length (cGo T F fr (ks.map kD))
noncomputable def eLKa (js:List Nat) (T:FT) (F:FE) (ρ:En) (o:Option (List (Str×Int)×List D)):Option (D×En):=bnd o fun q=>eLKb q.1 T F ρ (imAt ρ js)
noncomputable def eLKz (js:List Nat) (T:FT) (F:FE) (o:Option (D×En)):Option (D×En):=bnd o fun p=>eLKa js T F p.2 (opqX p.1)
noncomputable def eLK (js:List Nat) (I:FE) (T:FT) (F:FE) (ρ:En):Option (D×En):=eLKz js T F (I ρ)
@[simp] theorem eLK_ (js:List Nat) (I:FE) (T:FT) (F:FE) (ρ:En):eLK js I T F ρ=eLKz js T F (I ρ):=Eq.trans rfl rfl
@[simp] theorem eLKz_s (js:List Nat) (T:FT) (F:FE) (d:D) (ρ:En):eLKz js T F (some (d,ρ))=eLKa js T F ρ (opqX d):=Eq.trans rfl rfl
@[simp] theorem eLKa_s (js:List Nat) (T:FT) (F:FE) (ρ:En) (ks:List (Str×Int)) (vs:List D):eLKa js T F ρ (some (ks,vs))=eLKb ks T F ρ (imAt ρ js):=Eq.trans rfl rfl
@[simp] theorem eLKb_s (ks:List (Str×Int)) (T:FT) (F:FE) (ρ fr:En):eLKb ks T F ρ (some fr)=eLKc ρ ks.length (cGo T F fr (ks.map kD)):=Eq.trans rfl rfl
@[simp] theorem eLKc_s (ρ:En) (n:Nat) (ys:List D):eLKc ρ n (some ys)=if n<=sizeLine then some (.lst ys,ρ) else none:=Eq.trans rfl rfl
noncomputable def prD (x:(Str×Int)×D):D:=.tup [kD x.1,x.2]
noncomputable def eLIb (ks:List (Str×Int)) (vs:List D) (T:FT) (F:FE) (ρ:En) (o:Option En):Option (D×En):=bnd o fun fr=>eLKc ρ ks.length (cGo2 T F fr ((ks.zip vs).map prD))
noncomputable def eLIa (js:List Nat) (T:FT) (F:FE) (ρ:En) (o:Option (List (Str×Int)×List D)):Option (D×En):=bnd o fun q=>eLIb q.1 q.2 T F ρ (imAt ρ js)
noncomputable def eLIz (js:List Nat) (T:FT) (F:FE) (o:Option (D×En)):Option (D×En):=bnd o fun p=>eLIa js T F p.2 (opqX p.1)
noncomputable def eLI (js:List Nat) (I:FE) (T:FT) (F:FE) (ρ:En):Option (D×En):=eLIz js T F (I ρ)
@[simp] theorem eLI_ (js:List Nat) (I:FE) (T:FT) (F:FE) (ρ:En):eLI js I T F ρ=eLIz js T F (I ρ):=Eq.trans rfl rfl
@[simp] theorem eLIz_s (js:List Nat) (T:FT) (F:FE) (d:D) (ρ:En):eLIz js T F (some (d,ρ))=eLIa js T F ρ (opqX d):=Eq.trans rfl rfl
@[simp] theorem eLIa_s (js:List Nat) (T:FT) (F:FE) (ρ:En) (ks:List (Str×Int)) (vs:List D):eLIa js T F ρ (some (ks,vs))=eLIb ks vs T F ρ (imAt ρ js):=Eq.trans rfl rfl
@[simp] theorem eLIb_s (ks:List (Str×Int)) (vs:List D) (T:FT) (F:FE) (ρ fr:En):eLIb ks vs T F ρ (some fr)=eLKc ρ ks.length (cGo2 T F fr ((ks.zip vs).map prD)):=Eq.trans rfl rfl
noncomputable def gKey:D->D->Option ((Str×Int)×D)
 |.tup [.int _,.str s,e],.int w=>some ((s,w),e)
 |_,_=>none
@[simp] theorem gKey_s (t:Int) (s:Str) (e:D) (w:Int):gKey (.tup [.int t,.str s,e]) (.int w)=some ((s,w),e):=Eq.trans rfl rfl
noncomputable def addGT (k:Str×Int) (e:D):List ((Str×Int)×List D)->List ((Str×Int)×List D)
 |[]=>[(k,[e])]
 |q::r=>if q.1=k then (q.1,q.2++[e])::r else q::addGT k e r
noncomputable def gtIn (d:D):List D->Nat->List ((Str×Int)×List D)->Option (Nat×List ((Str×Int)×List D))
 |[],n,g=>some (n,g)
 |w::r,n,g=>bnd (gKey d w) fun q=>if n<1000 then gtIn d r (n+1) (addGT q.1 q.2 g) else none
noncomputable def lsX:D->Option (List D)
 |.lst xs=>some xs
 |_=>none
@[simp] theorem lsX_s (xs:List D):lsX (.lst xs)=some xs:=Eq.trans rfl rfl
noncomputable def lastIn (l:Nat) (ws:List D) (ρ:En):En:=match ws.getLast? with
 |some d=>ρ.set l (.im d)
 |none=>ρ
noncomputable def gtOut (j l:Nat) (G:FE):List D->En->Nat->List ((Str×Int)×List D)->Option (En×List ((Str×Int)×List D))
 |[],ρ,_,g=>some (ρ,g)
 |d::r,ρ,n,g=>bnd (G (ρ.set j (.im d))) fun p=>bnd (lsX p.1) fun ws=>bnd (gtIn d ws n g) fun q=>gtOut j l G r (lastIn l ws (ρ.set j (.im d))) q.1 q.2
noncomputable def gtD (g:List ((Str×Int)×List D)):List ((Str×Int)×D):=g.map fun q=>(q.1,.lst q.2)
noncomputable def sGTb (i j l:Nat) (ρ:En) (xs:List D) (G:FE):Option Res:=if j≠i/\l≠i/\j≠l/\i<ρ.length/\j<ρ.length/\l<ρ.length/\(ρ.set i .no).all noOw=true then bnd (gtOut j l G xs (ρ.set i .no) 0 []) fun q=>some (.nx (q.1.set i (.ow false (.dtu (gtD q.2))))) else none
noncomputable def sGTa (i j l:Nat) (G:FE) (ρ:En) (o:Option (List D)) (u:Option (List ((Str×Int)×D))):Option Res:=bnd o fun xs=>bnd u fun kds=>match kds with
 |[]=>sGTb i j l ρ xs G
 |_=>none
noncomputable def sGTz (i j l:Nat) (G:FE) (o:Option (D×En)):Option Res:=bnd o fun p=>sGTa i j l G p.2 (lsX p.1) (owU p.2[i]?)
noncomputable def sGT (i j l:Nat) (F G:FE) (ρ:En):Option Res:=sGTz i j l G (F ρ)
@[simp] theorem sGT_ (i j l:Nat) (F G:FE) (ρ:En):sGT i j l F G ρ=sGTz i j l G (F ρ):=Eq.trans rfl rfl
@[simp] theorem sGTz_s (i j l:Nat) (G:FE) (d:D) (ρ:En):sGTz i j l G (some (d,ρ))=sGTa i j l G ρ (lsX d) (owU ρ[i]?):=Eq.trans rfl rfl
@[simp] theorem sGTa_s (i j l:Nat) (G:FE) (ρ:En) (xs:List D):sGTa i j l G ρ (some xs) (some [])=sGTb i j l ρ xs G:=Eq.trans rfl rfl
noncomputable def r21:D->Bool
 |.tup [.tup [.str _,.int _],.int _]=>true
 |_=>false
noncomputable def bSortG (sh:D->Bool):List D->Option D
 |[.lst xs]=>if xs.length<=1000/\xs.all sh=true then some (.lst (sortT xs)) else none
 |_=>none
@[simp] theorem bSortG_l (sh:D->Bool) (xs:List D):bSortG sh [.lst xs]=if xs.length<=1000/\xs.all sh=true then some (.lst (sortT xs)) else none:=Eq.trans rfl rfl
noncomputable def nSgB (o:Option D):Option MO:=bnd o fun d=>match d with
 |.lst ds=>some (.lst ds)
 |_=>none
noncomputable def nSgA (o:Option (D×En)):Option MO:=bnd o fun p=>nSgB (bSortG r21 [p.1])
noncomputable def nSg (F:FE) (ρ:En):Option MO:=nSgA (F ρ)
@[simp] theorem nSg_ (F:FE) (ρ:En):nSg F ρ=nSgA (F ρ):=Eq.trans rfl rfl
@[simp] theorem nSgA_s (d:D) (ρ:En):nSgA (some (d,ρ))=nSgB (bSortG r21 [d]):=Eq.trans rfl rfl
@[simp] theorem nSgB_s (ds:List D):nSgB (some (.lst ds))=some (.lst ds):=Eq.trans rfl rfl
noncomputable def eLrgA (o:Option (List D×En)):Option (D×En):=bnd o fun p=>if p.1.length<=1000 then some (.lst p.1,p.2) else none
noncomputable def eLrg (F G:FE) (ρ:En):Option (D×En):=eLrgA (rng2 F G ρ)
@[simp] theorem eLrg_ (F G:FE) (ρ:En):eLrg F G ρ=eLrgA (rng2 F G ρ):=Eq.trans rfl rfl
@[simp] theorem eLrgA_s (xs:List D) (ρ:En):eLrgA (some (xs,ρ))=if xs.length<=1000 then some (.lst xs,ρ) else none:=Eq.trans rfl rfl
noncomputable def sClLA (i:Nat) (ρ:En) (o:Option (List D)):Option Res:=bnd o fun _=>some (.nx (ρ.set i (.ow false (.lst []))))
noncomputable def sClL (i:Nat) (ρ:En):Option Res:=sClLA i ρ (owL ρ[i]?)
@[simp] theorem sClL_ (i:Nat) (ρ:En):sClL i ρ=sClLA i ρ (owL ρ[i]?):=Eq.trans rfl rfl
@[simp] theorem sClLA_s (i:Nat) (ρ:En) (ds:List D):sClLA i ρ (some ds)=some (.nx (ρ.set i (.ow false (.lst [])))):=Eq.trans rfl rfl
noncomputable def bSortV:List D->Option D:=bSortG r21
@[simp] theorem bSortV_l (xs:List D):bSortV [.lst xs]=if xs.length<=1000/\xs.all r21=true then some (.lst (sortT xs)) else none:=Eq.trans rfl rfl
end Fx
set_option maxRecDepth 100000
namespace Fx
open PySem PySem.Spec PyProof.Rows L2
section
variable {P:Program}{w:World}{κ:Type} [DecidableEq κ] {d b:Addr}{v:Value}
theorem meets_sdH (knd:HeapKind P w κ) (hd:(d==sysModules)=false):MeetsIn P w (Builtin.«dict.setdefault» ⟨[.ref d,.ref b,v],[]⟩) (fun A R s=>knd.room A.in1/\∃ k xs,knd.is s.heap k b/\s.heap.DictOfH knd d xs/\xs.length<sizeLine /\
  (∀ (j:Nat) (p:Addr×Value),xs[j]?=some (k,p)->R (.ok (.ret p.2)) {s with toks:=s.toks+knd.draws k}) /\
  ((∀ (j:Nat) (p:Addr×Value),xs[j]?≠some (k,p))->∀ h',h'.DictOfH knd d (xs++[(k,b,v)])->Heap.SameBut d s.heap h'->R (.ok (.ret v)) {s with heap:=h',toks:=s.toks+knd.draws k})) :=
 .of_wp fun A R s hh0_=>by
  obtain⟨hu,k,xs,hk,hm,hz,q1,q2⟩:=hh0_;unfold Builtin.«dict.setdefault» Builtin.Dict.keyAndDefault;refine wpAny_bind (wpAny_bind (wpAny_notOrdered_dict hm.typeIs (show wpAny _ _ (pure (d,Value.ref b,some v)) _ _ s from wpAny_pure (show wpAny _ _ (if (d==sysModules)=true then _ else _) _ _ s from ?_))));rw[hd];refine wpAny_bind (sd_heap hu hk hm hz (fun j p hj=>?_) fun no h' h1 h2=>?_)
  ·exact wpAny_pure ⟨_,rfl,q1 j p hj⟩
  ·exact wpAny_pure ⟨_,rfl,q2 no h' h1 h2⟩
end
section
variable {X:Cx}{pins:List (Addr×Obj)}{σ:L2.St}{H:Hp}{s:Shared}{a b:Addr}{tab:Tab V}{k:Str×Int}{v d:V}{u r:Value}{A:Around}{E:Value->Shared->Prop}
theorem TAt.ty (I:Inv X pins σ H s) (t:TAt H a tab):s.TypeIs (.ref a) "dict" ∧ (∀ b,Value.ref a=.ref b → ∃ ob,s.heap.get? b=some ob ∧ ob.dict=none):=by
 obtain⟨hd,o,e1,td⟩:=t.obj I.hok;exact⟨⟨o,e1,td.ex.1⟩,fun b q=>by cases q;exact⟨o,e1,td.ex.2.1⟩⟩
theorem t_get {Q:Value->Shared->Prop} (hu:A.units+1<cLine) (I:Inv X pins σ H s) (t:TAt H a tab) (kb:H b=some (.tup [.str k.1,.int k.2])) (rd:RelV d r) (h:∀ w' s',Inv X pins σ H s'->RelV ((lookT tab k).getD d) w'->Q w' s') :
  wpAny (model X.prog X.w) A (call (.builtin "dict.get") [.ref a,.ref b,r]) Q E s:=by
 obtain⟨hd,o,e1,td⟩:=t.obj I.hok;obtain⟨xs,rel,dd⟩:=td.of I.hok t.2 e1;exact call_meetsIn PySem.F.slot_dict_get dd.typeIs PySem.F.entry_dict_get (PySem.F.args_dict_get_3 _ _ _) (meetsH_dict_get_default (tupleKind (mixKind X.prog X.w)) a b hd r) ⟨tupleKind_room_in1 hu,kTI k,xs.map upTI,KsAt.is I.hok kb,dd,h _ _ (I.tok _) ((look_rel rel).getD rd)⟩
theorem key_sq (I:Inv X pins σ H s) (h:SqT X.K H b [.str k.1,.int k.2]):(tupleKind (mixKind X.prog X.w)).is s.heap (kTI k) b:=by
 obtain⟨its,r,⟨o,h1,h2,⟨n,h3⟩,_⟩,_⟩:=I.tupleN h;exact⟨o,its.toArray,n,h1,h2,h3,by simpa using items_are (ks:=kTI k) r⟩
theorem t_item {Q:Value->Shared->Prop} (hu:A.units+1<cLine) (I:Inv X pins σ H s) (t:TAt H a tab) (kb:SqT X.K H b [.str k.1,.int k.2]) (l:lookT tab k=some v) (h:∀ w' s',Inv X pins σ H s'->RelV v w'->Q w' s') :
  wpAny (model X.prog X.w) A (getItem (.ref a) (.ref b)) Q E s:=by
 obtain⟨hd,o,e1,td⟩:=t.obj I.hok;obtain⟨xs,rel,dd⟩:=td.of I.hok t.2 e1;obtain⟨w',hw,rw'⟩:=RelO.some_of (v:=v) (by rw[<- l];exact look_rel rel)
 obtain⟨p,hp,hp2⟩:=Option.map_eq_some_iff.mp hw;refine wpAny_getItem_heap (tupleKind_room_in1 hu) (key_sq I kb) dd hp ?_;rw[hp2];exact h w' _ (I.tok _) rw'
theorem t_put {Q:Unit->Shared->Prop} (hu:A.units+1<cLine) (I:Inv X pins σ H s) (e:H a=some (tdO a tab)) (ks:KsAt H tab) (kb:H b=some (.tup [.str k.1,.int k.2])) (few:tab.length<sizeLine) (rv:RelV v u)
  (h:∀ s',Inv X pins σ (upd H a (tdO a (putT tab k b v))) s'->Q () s'):wpAny (model X.prog X.w) A (setItem (.ref a) (.ref b) u) Q E s:=by
 obtain⟨hd,o,e1,td⟩:=TAt.obj I.hok ⟨.inl e,ks⟩;obtain⟨xs,rel,dd⟩:=td.of I.hok ks e1;obtain⟨ys,r1,r2⟩:=put_rel (k:=k) (b:=b) rv rel;have hz:(xs.map upTI).length<=sizeLine:=by rw[List.length_map,<- Paired.length rel];omega
 refine wpAny_setItem_heap (hsz:=hz) (tupleKind_room_in1 hu) (KsAt.is I.hok kb) dd fun h' dd' hs=>h _ ?_
 rw[<- r2] at dd';exact d_write I (by rw[e];exact True.intro) hs (let ⟨q,_,_,hq,_⟩:=dd';⟨q,hq⟩) (tdO_ok hd (TD.mk' r1 dd' (putT_nd td.nd) (by have:=putT_len (tab:=tab) (k:=k) (b:=b) (v:=v);omega)))
theorem look_at {tab:Tab V}{xs:Tab Value} (rel:Paired RowR tab xs) (nd:(tab.map (·.1)).Nodup) {j:Nat}{p:Addr×Value} (hj:(xs.map upTI)[j]?=some (kTI k,p)):∃ v,lookT tab k=some v/\RelV v p.2:=by
 have e:=atKey_of_get (nd_rel rel nd) hj;have l:=look_rel (k:=k) rel;rw[e] at l;cases z:lookT tab k with
 |none=>rw[z] at l;exact l.elim
 |some v=>rw[z] at l;exact⟨v,rfl,l⟩
theorem look_no {tab:Tab V}{xs:Tab Value} (rel:Paired RowR tab xs) (no:∀ (j:Nat) (p:Addr×Value),(xs.map upTI)[j]?≠some (kTI k,p)):lookT tab k=none:=by
 have e:=atKey_none_of_get no;have l:=look_rel (k:=k) rel;rw[e] at l;cases z:lookT tab k with
 |none=>rfl
 |some v=>rw[z] at l;exact l.elim
theorem putT_new {tab:Tab V}{k:Str×Int}{b:Addr}{v:V} (h:lookT tab k=none):putT tab k b v=tab++[(k,b,v)]:=by
 unfold putT;rw[h];rfl
theorem t_sd {Q:Value->Shared->Prop} (hu:A.units+1<cLine) (I:Inv X pins σ H s) (e:H a=some (tdO a tab)) (ks:KsAt H tab) (kb:H b=some (.tup [.str k.1,.int k.2])) (few:tab.length<sizeLine) (rd:RelV d r)
  (h1:∀ v w' s',lookT tab k=some v->Inv X pins σ H s'->RelV v w'->Q w' s') (h2:∀ s',lookT tab k=none->Inv X pins σ (upd H a (tdO a (tab++[(k,b,d)]))) s'->Q r s') :
  wpAny (model X.prog X.w) A (call (.builtin "dict.setdefault") [.ref a,.ref b,r]) Q E s:=by
 obtain⟨hd,o,e1,td⟩:=TAt.obj I.hok ⟨.inl e,ks⟩;obtain⟨xs,rel,dd⟩:=td.of I.hok ks e1;have len:=Paired.length rel;refine call_meetsIn PySem.F.slot_dict_setdefault dd.typeIs PySem.F.entry_dict_setdefault (PySem.F.args_dict_setdefault_3 _ _ _) (meets_sdH (tupleKind (mixKind X.prog X.w)) hd) ⟨tupleKind_room_in1 hu,kTI k,xs.map upTI,KsAt.is I.hok kb,dd,by rw[List.length_map];omega,fun j p hj=>?_,fun no h' dd' hs=>?_⟩
 ·obtain⟨v,l,rv⟩:=look_at rel td.nd hj
  exact h1 v _ _ l (I.tok _) rv
 ·have l:=look_no rel no
  have nd:=putT_nd (k:=k) (b:=b) (v:=d) td.nd;rw[putT_new l] at nd;refine h2 _ l (d_write I (by rw[e];exact True.intro) hs (let ⟨q,_,_,hq,_⟩:=dd';⟨q,hq⟩) (tdO_ok hd (TD.mk' (xs:=xs++[(k,b,r)]) (paired_app ⟨rfl,rfl,rd⟩ rel) (by rw[List.map_append];exact dd') nd (by rw[List.length_append];exact few))))
end
noncomputable def tTGet (td ty tx:TE):TE:=fun σ H Q=>td σ H fun x H1=>∃ a,x=.ref a/\(∃ tab,TAt H1 a tab)/\ty σ H1 fun y H2=>tx σ H2 fun z H3=>∃ tab k b,TAt H3 a tab/\y=.ref b/\H3 b=some (.tup [.str k.1,.int k.2])/\Q ((lookT tab k).getD z) H3
noncomputable def tTItem (K:PySem.W.Frag) (td ty:TE):TE:=fun σ H Q=>td σ H fun x H1=>ty σ H1 fun y H2=>∃ a tab k b v,x=.ref a/\TAt H2 a tab/\y=.ref b/\SqT K H2 b [.str k.1,.int k.2]/\lookT tab k=some v/\Q v H2
noncomputable def tTSd (td ty tx:TE):TE:=fun σ H Q=>td σ H fun x H1=>∃ a,x=.ref a/\(∃ tab,TAt H1 a tab)/\ty σ H1 fun y H2=>tx σ H2 fun z H3=>∃ tab k b,H3 a=some (tdO a tab)/\KsAt H3 tab/\y=.ref b/\H3 b=some (.tup [.str k.1,.int k.2])/\tab.length<sizeLine /\
 (∀ v,lookT tab k=some v->Q v H3)/\(lookT tab k=none->Q z (upd H3 a (tdO a (tab++[(k,b,z)]))))
noncomputable def sTPut (td ty tv:TE):TS:=fun D σ H=>tv σ H fun v H1=>td σ H1 fun x H2=>ty σ H2 fun y H3=>∃ a tab k b,x=.ref a/\H3 a=some (tdO a tab)/\KsAt H3 tab/\y=.ref b/\H3 b=some (.tup [.str k.1,.int k.2])/\tab.length<sizeLine/\D.nx σ (upd H3 a (tdO a (putT tab k b v)))
noncomputable def tTNew:TE:=fun _ H Q=>∀ p,H p=none->Q (.ref p) (upd H p (tdO p []))
section
variable {X:Cx}{o i e f value:Expr}{apos cpos pos pos':Pos}{td ty tx tv:TE}
theorem pe_tget (hu:X.A.units+1<cLine) (ho:PE X o td) (he:PE X e ty) (hf:PE X f tx) (m:M2 X o "get" apos e f cpos):PE X (.Call (.Attribute o "get" apos) [e,f] [] cpos) (tTGet td ty tx):=by
 intro pins s σ H Q I h;refine wpAny_Call_method m.base m.few m.line PySem.F.plainAttrs_dict PySem.F.slot_dict_get PySem.F.type_dict_get (thn (ho pins s σ H _ I h) fun u s1 hh0_=>?_)
 obtain⟨x,H1,I1,rx,a,ex,⟨tab,d⟩,q1⟩:=hh0_;subst ex;obtain rfl:u=Value.ref a:=rx;refine⟨(d.ty I1).1,(d.ty I1).2,?_⟩;rw[m.trees];refine Calls.callWith_builtin rfl (Calls.evalArgs_plain (Calls.spliced_cons (thn (he pins s1 σ H1 _ I1 q1) fun iv s2 ⟨y,H2,I2,ry,q2⟩ =>
  Calls.spliced_cons (thn (hf pins s2 σ H2 _ I2 q2) fun fv s3 ⟨z,H3,I3,rz,tab',k,b,g,ey,kb,q3⟩=>Calls.spliced_nil ?_))))
 subst ey;obtain rfl:iv=Value.ref b:=ry;exact t_get hu I3 g kb rz fun w' s4 I4 rw'=>⟨_,H3,I4,rw',q3⟩
theorem pe_tsd (hu:X.A.units+1<cLine) (ho:PE X o td) (he:PE X e ty) (hf:PE X f tx) (m:M2 X o "setdefault" apos e f cpos):PE X (.Call (.Attribute o "setdefault" apos) [e,f] [] cpos) (tTSd td ty tx):=by
 intro pins s σ H Q I h;refine wpAny_Call_method m.base m.few m.line PySem.F.plainAttrs_dict PySem.F.slot_dict_setdefault PySem.F.type_dict_setdefault (thn (ho pins s σ H _ I h) fun u s1 hh0_=>?_)
 obtain⟨x,H1,I1,rx,a,ex,⟨tab,d⟩,q1⟩:=hh0_;subst ex;obtain rfl:u=Value.ref a:=rx;refine⟨(d.ty I1).1,(d.ty I1).2,?_⟩;rw[m.trees];refine Calls.callWith_builtin rfl (Calls.evalArgs_plain (Calls.spliced_cons (thn (he pins s1 σ H1 _ I1 q1) fun iv s2 ⟨y,H2,I2,ry,q2⟩ =>
  Calls.spliced_cons (thn (hf pins s2 σ H2 _ I2 q2) fun fv s3 ⟨z,H3,I3,rz,tab',k,b,ea,ks,ey,kb,few,q3,q4⟩=>Calls.spliced_nil ?_))))
 subst ey;obtain rfl:iv=Value.ref b:=ry;exact t_sd hu I3 ea ks kb few rz (fun v w' s4 l I4 rv=>⟨v,H3,I4,rv,q3 v l⟩) fun s4 l I4=>⟨z,_,I4,rz,q4 l⟩
theorem pe_titem (hu:X.A.units+1<cLine) (ho:PE X o td) (hi:PE X i ty) (hs:NoSl i):PE X (.Subscript o i pos) (tTItem X.K td ty):=by
 intro pins s σ H Q I h;refine subD_of PySem.F.slot_dict_getitem.lookup hs (thn (ho pins s σ H _ I h) fun u s1 ⟨x,H1,I1,rx,q1⟩=>thn (hi pins s1 σ H1 _ I1 q1) fun iv s2 hh0_=>?_)
 obtain⟨y,H2,I2,ry,a,tab,k,b,v,ex,g,ey,kb,l,q2⟩:=hh0_;subst ex ey;obtain rfl:u=Value.ref a:=rx;obtain rfl:iv=Value.ref b:=ry;exact⟨(g.ty I2).1,t_item hu I2 g kb l fun w' s3 I3 rw'=>⟨v,H2,I3,rw',q2⟩⟩
theorem ps_tput (hu:X.A.units+1<cLine) (ho:PE X o td) (hi:PE X i ty) (hv:PE X value tv) (hs:swapsWith value (some (.Subscript o i pos')) pos.line X.env=pure false):PS X (.Assign [.Subscript o i pos'] value pos) (sTPut td ty tv):=by
 intro pins s σ H D I h;refine wpAny_Assign_Subscript (thn (hv pins s σ H _ I h) fun r s1 ⟨v,H1,I1,rv,q1⟩=>thn (ho pins s1 σ H1 _ I1 q1) fun u s2 ⟨x,H2,I2,rx,q2⟩=>thn (hi pins s2 σ H2 _ I2 q2) fun iv s3 hh0_=>?_) hs
 obtain⟨y,H3,I3,ry,a,tab,k,b,ex,ea,ks,ey,kb,few,q3⟩:=hh0_;subst ex ey;obtain rfl:u=Value.ref a:=rx;obtain rfl:iv=Value.ref b:=ry;exact t_put hu I3 ea ks kb few rv fun s4 I4=>⟨σ,_,I4,q3⟩
theorem pe_tnew:PE X (.Dict [] [] pos) tTNew:=fun pins s σ H Q I h=>by
 have nd:(s.heap.push {cls:=.type "dict",data:=.dict #[]}).DictOfH (tupleKind (mixKind X.prog X.w)) s.heap.objs.size (([]:Tab Value).map upTI):=Heap.DictOfH.new s.heap;exact wpAny_Dict_empty ⟨.ref s.heap.objs.size,_,I.laid (a:=s.heap.objs.size) (o:=tdO s.heap.objs.size []) (t':=s.toks) (fun _ _ q=>Heap.get?_push_of_some _ q) (Nat.le_refl _) (tdO_ok (beq_eq_false_iff_ne.mpr (Ne.symm (Nat.ne_of_lt I.big))) (TD.mk' .nil nd List.nodup_nil (Nat.zero_le _))),rfl,h _ (I.hok.fresh (Nat.le_refl _))⟩
end
end Fx
set_option maxRecDepth 100000
namespace Fx
open PySem PySem.Spec PyProof.Rows L2
theorem pair_get {α β:Type}{F:α->β->Prop}:∀ {l:List α}{m:List β},Paired F l m->∀ {i:Nat}{x:α},l[i]?=some x->∃ y,m[i]?=some y/\F x y
 |_,_,.nil,i,x,h=>by simp at h
 |_,_,.cons r t,0,x,h=>by cases h;exact⟨_,rfl,r⟩
 |_,_,.cons r t,i+1,x,h=>pair_get t (by simpa using h)
theorem TD.entry {P:Program}{w:World}{o:Obj}{tab:Tab V}{es:Array DictEntry}{ep:Nat} (td:TD P w o tab) (h:o.data=.dict es ep):es.size=tab.length/\∀ (i:Nat) (x:(Str×Int)×Addr×V),tab[i]?=some x->∃ e,es[i]?=some e/\e.key=.ref x.2.1/\RelV x.2.2 e.val:=by
 obtain⟨es',ep',xs,h1,h2,h3⟩:=td.es;rw[h] at h1;cases h1;have len:=Paired.length h3;refine⟨by rw[<- Array.length_toList,h2,List.length_map,List.length_map,len],fun i x hx=>?_⟩
 obtain⟨y,hy,r⟩:=pair_get h3 hx;have e:es[i]?=some (entryOfKey (tupleKind (mixKind P w)) (upTI y)):=by rw[<- Array.getElem?_toList,h2,List.getElem?_map,List.getElem?_map,hy];rfl
 exact⟨_,e,by rw[r.2.1];rfl,r.2.2⟩
noncomputable def Itk (a:Addr) (o:Obj) (tab:Tab V):It :=
 ⟨fun i H=>i<tab.length/\H a=some (tdF a o tab),fun i H x H'=>H'=H/\∃ r,tab[i]?=some r/\x=.ref r.2.1,fun i H=>tab.length<=i/\H a=some (tdF a o tab)⟩
noncomputable def Iti (a:Addr) (o:Obj) (tab:Tab V):It :=
 ⟨fun i H=>i<tab.length/\H a=some (tdF a o tab),fun i H x H'=>∃ r p,tab[i]?=some r/\x=.ref p/\H p=none/\H'=upd H p (.tup [.ref r.2.1,r.2.2]),fun i H=>tab.length<=i/\H a=some (tdF a o tab)⟩
theorem tdF_at {X:Cx}{pins:List (Addr×Obj)}{σ:L2.St}{H:Hp}{s:Shared}{a:Addr}{o:Obj}{tab:Tab V} (I:Inv X pins σ H s) (e:H a=some (tdF a o tab)):(a==sysModules)=false/\s.heap.get? a=some o/\TD X.prog X.w o tab :=
 let ⟨q,_⟩:=(show ObjOk X.prog X.w H s.heap a (tdF a o tab) from I.hok a _ e);q
theorem turn_tdk {P:Program}{w:World}{K:PySem.W.Frag}{tg:Expr} (a it:Addr) (o:Obj) (tab:Tab V) (es:Array DictEntry) (ep:Nat) (hob:o.data=.dict es ep):Turn P w K tg (Itk a o tab) [it] it (fun i h=>h.IsKeyIter it a i es.size ep) where
 mem:=List.mem_singleton.mpr rfl
 obj:=fun i h st b hb=>by
  obtain⟨q,e,c,d⟩:=st;rw[List.mem_singleton.mp hb];exact⟨q,e,fun v z=>by rw[d] at z;cases z⟩
 keep:=fun i h h' st k=>st.at fun o e=>k it (List.mem_singleton.mpr rfl) o e
 item:=fun X hP hw hK hc i pins s σ H E I hf st hh0_=>by
  obtain⟨hi,ea⟩:=hh0_;subst hP hw hK;obtain⟨f0,f1,f2,f3,f4,f5⟩:=hf it (List.mem_singleton.mpr rfl);obtain⟨hd,eo,td⟩:=tdF_at I ea;obtain⟨e,he,ek,_⟩:=(td.entry hob).2 i _ (List.getElem?_eq_getElem hi);refine next_key st eo hob he fun h' st' sb=>?_
  have I1:Inv X pins σ H {s with heap:=h'}:=I.turned (t':=s.toks) (fun b o hb e=>(sb.2 b hb).trans e) f0 f1 f3 f4 f5
  obtain⟨q,e1,c,d⟩:=id st';exact⟨_,rfl,go_of (s:={s with heap:=h'}) e1 c d (by decide) ⟨.ref tab[i].2.1,H,I1,by rw[ek];rfl,⟨rfl,_,List.getElem?_eq_getElem hi,rfl⟩,st',fun b hb=>(hf b hb).1⟩⟩
 done:=fun X hP hw hK hc i pins s σ H E I hf st hh0_=>by
  obtain⟨hi,ea⟩:=hh0_;subst hP hw hK;obtain⟨f0,f1,f2,f3,f4,f5⟩:=hf it (List.mem_singleton.mpr rfl);obtain⟨hd,eo,td⟩:=tdF_at I ea;exact end_key (I.ok.hd hc) st eo hob (by rw[(td.entry hob).1];exact hi) fun h' eb=>⟨rfl,I.turned (t':=s.toks) (fun b o hb e=>eb b o hb e) f0 f1 f3 f4 f5⟩
 self:=fun _ _ _ _ _ st h=>wpAny_pyIter_keyiter st h
noncomputable def iTdk (t:TE):TI:=fun σ H R=>t σ H fun x H1=>∃ a o tab,x=.ref a/\H1 a=some (tdF a o tab)/\R (Itk a o tab) H1
theorem pi_tdk {X:Cx}{tg l:Expr}{tl:TE} (hl:PE X l tl):PI X tg l (iTdk tl):=by
 intro pins s σ H R I h;refine thn (hl pins s σ H _ I h) fun v s1 hh0_=>?_
 obtain⟨x,H1,I1,r1,q1⟩:=hh0_;obtain⟨a,o,tab,e,ea,q⟩:=q1;subst e;cases r1;obtain⟨hd,eo,td⟩:=tdF_at I1 ea;obtain⟨es,ep,xs,hob,_⟩:=td.es;refine it_dict hd eo td.ex hob fun h' k st sz=>?_
 refine⟨s1.heap.objs.size,[s1.heap.objs.size],_,_,H1,rfl,I1.kept (t':=s1.toks) k,turn_tdk a _ o tab es ep hob,st,fun b hb=>?_,q⟩
 rw[List.mem_singleton.mp hb];exact I1.fpOk (Nat.le_refl _) (I1.hok.fresh (Nat.le_refl _))
theorem meets_items {P:Program}{w:World}{d:Addr} (hd:(d==sysModules)=false):MeetsIn P w (Builtin.«dict.items» ⟨[.ref d],[]⟩) (fun _ R s=>s.TypeIs (.ref d) "dict" ∧
  ∀ h',(∀ b o,s.heap.get? b=some o->h'.get? b=some o)->h'.IsItemsView s.heap.objs.size d->h'.objs.size=s.heap.objs.size+1->R (.ok (.ret (.ref s.heap.objs.size))) {s with heap:=h'}) :=
 .of_wp fun A R s hh0_=>by
  obtain⟨ty,q⟩:=hh0_;unfold Builtin.«dict.items» Builtin.Dict.noArgs;refine wpAny_bind (wpAny_bind (wpAny_notOrdered_dict ty (show wpAny _ _ (pure d) _ _ s from wpAny_pure (show wpAny _ _ (Builtin.Dict.showsAll d >>= _) _ _ s from ?_))));unfold Builtin.Dict.showsAll;rw[hd];exact wpAny_bind (wpAny_pure (wpAny_bind (wpAny_newObj_type (wpAny_pure ⟨_,rfl,q _ (fun b o e=>Heap.get?_push_of_some _ e) ⟨_,Heap.get?_push_size _ rfl,rfl,rfl⟩ (Heap.size_push ..)⟩))))
theorem turn_tdi {P:Program}{w:World}{K:PySem.W.Frag}{elts:List Expr}{x1:Nat}{pt:Pos} (a it:Addr) (o:Obj) (tab:Tab V) (es:Array DictEntry) (ep:Nat) (hob:o.data=.dict es ep):Turn P w K (.Tuple elts x1 pt) (Iti a o tab) [it] it (fun i h=>∃ x y,IsItemIter h it a i es.size ep x y) where
 mem:=List.mem_singleton.mpr rfl
 obj:=fun i h hh0_ b hb=>by
  obtain⟨x,y,st⟩:=hh0_;rw[List.mem_singleton.mp hb];exact⟨_,st,fun v z=>by cases z⟩
 keep:=fun i h h' ⟨x,y,st⟩ k=>⟨x,y,k it (List.mem_singleton.mpr rfl) _ st⟩
 item:=fun X hP hw hK hc i pins s σ H E I hf hh0_ hh1_=>by
  obtain⟨x,y,st⟩:=hh0_;obtain⟨hi,ea⟩:=hh1_;subst hP hw hK;obtain⟨f0,f1,f2,f3,f4,f5⟩:=hf it (List.mem_singleton.mpr rfl);obtain⟨hd,eo,td⟩:=tdF_at I ea;obtain⟨e,he,ek,ev⟩:=(td.entry hob).2 i _ (List.getElem?_eq_getElem hi);refine next_item st eo hob he fun h1 k1 k2 k3 k4=>⟨_,rfl,?_⟩
  have hp:H s.heap.objs.size=none:=I.hok.fresh (Nat.le_refl _);refine wpAny_letOwnedTupleGo_items (s:={s with heap:=h1}) k1 fun h2 it2 sb=>?_
  have lt:it<s.heap.objs.size:=Heap.lt_size st;have I0:Inv X pins σ (upd H s.heap.objs.size (.tup [.ref tab[i].2.1,tab[i].2.2])) {s with heap:=s.heap.push {cls:=.type "tuple",data:=.seq #[e.key,e.val]}} :=
   I.laid (t':=s.toks) (fun b o q=>Heap.get?_push_of_some _ q) (Nat.le_refl _) (show ObjOk X.prog X.w _ _ _ (.tup [.ref tab[i].2.1,tab[i].2.2]) from ⟨by show (2:Nat)<=sizeLine;decide,[e.key,e.val],.cons (by rw[ek];rfl) (.cons ev .nil),IsTuN.new _ _⟩)
  have I2:Inv X pins σ (upd H s.heap.objs.size (.tup [.ref tab[i].2.1,tab[i].2.2])) {s with heap:=h2}:=I0.turned (t':=s.toks) (fun b q hb e=>(sb.2 b hb).trans (by
   rcases Heap.get?_push_cases e with ⟨z1,z2⟩ | z
   ·rw[z1,z2];exact k2
   ·exact k4 b q hb z)) (by rw[upd_ne (Nat.ne_of_lt lt)];exact f0) f1 f3 f4 f5
  exact⟨.ref s.heap.objs.size,_,I2,rfl,⟨_,_,List.getElem?_eq_getElem hi,rfl,hp,rfl⟩,⟨_,_,it2⟩,fun b hb=>by rw[List.mem_singleton.mp hb,upd_ne (Nat.ne_of_lt lt)];exact f0⟩
 done:=fun X hP hw hK hc i pins s σ H E I hf hh0_ hh1_=>by
  obtain⟨x,y,st⟩:=hh0_;obtain⟨hi,ea⟩:=hh1_;subst hP hw hK;obtain⟨f0,f1,f2,f3,f4,f5⟩:=hf it (List.mem_singleton.mpr rfl);obtain⟨hd,eo,td⟩:=tdF_at I ea;exact end_item (I.ok.hd hc) st eo hob (by rw[(td.entry hob).1];exact hi) fun h' eb=>⟨rfl,I.turned (t':=s.toks) (fun b o hb e=>eb b o hb e) f0 f1 f3 f4 f5⟩
 self:=fun _ _ _ _ _ ⟨_,_,st⟩ h=>PySem.W.kcp_self st h
noncomputable def iTdi (t:TE):TI:=fun σ H R=>t σ H fun x H1=>∃ a o tab,x=.ref a/\H1 a=some (tdF a o tab)/\R (Iti a o tab) H1
theorem pi_tdi {X:Cx}{l:Expr}{tl:TE}{elts:List Expr}{x1:Nat}{pt apos cpos:Pos} (hl:PE X l tl) (hbase:attributeBase l "items" X.env (eval l X.env)=eval l X.env:=by rfl) (hline:(apos.endLine==cpos.line)=true:=by rfl) :
  PI X (.Tuple elts x1 pt) (.Call (.Attribute l "items" apos) [] [] cpos) (iTdi tl):=by
 intro pins s σ H R I h;refine wpAny_Call_method0_late hbase hline (thn (hl pins s σ H _ I h) fun v s1 hh0_=>?_)
 obtain⟨x,H1,I1,r1,a,o,tab,e,ea,q⟩:=hh0_;subst e;cases r1;obtain⟨hd,eo,td⟩:=tdF_at I1 ea;obtain⟨es,ep,xs,hob,_⟩:=td.es;have ty:s1.TypeIs (.ref a) "dict":=⟨o,eo,td.ex.1⟩;refine⟨"dict","dict.items",PySem.F.plainAttrs_dict,PySem.F.slot_dict_items,PySem.F.type_dict_items,ty,fun b q=>by cases q;exact⟨o,eo,td.ex.2.1⟩,Calls.callWith_builtin rfl (PySem.evalArgs_none ?_)⟩
 refine call_meetsIn PySem.F.slot_dict_items ty PySem.F.entry_dict_items (PySem.F.args_dict_items_1 _) (meets_items hd) ⟨ty,fun h1 k1 hv z1=>?_⟩
 have I2:Inv X pins σ H1 {s1 with heap:=h1}:=I1.kept (t':=s1.toks) k1
 refine it_items (s:={s1 with heap:=h1}) hv (k1 _ _ eo) hob fun h2 k2 st z2=>?_
 refine⟨h1.objs.size,[h1.objs.size],_,_,H1,rfl,I2.kept (t':=s1.toks) k2,turn_tdi a _ o tab es ep hob,⟨_,_,st⟩,fun b hb=>?_,q⟩
 rw[List.mem_singleton.mp hb];exact I2.fpOk (Nat.le_refl _) (I2.hok.fresh (Nat.le_refl _))
end Fx
set_option maxRecDepth 100000
namespace Fx
open PySem PySem.Spec PyProof.Rows L2
theorem owU_eq {o:Option Sl}{q:List ((Str×Int)×D)} (h:owU o=some q):o=some (.ow false (.dtu q)):=by
 unfold owU at h
 split at h
 ·cases h;rfl
 ·cases h
theorem ti_eq {ds:List D}{k:Str×Int} (h:ti ds=some k):ds=[.str k.1,.int k.2]:=by
 unfold ti at h
 split at h
 ·cases h;rfl
 ·cases h
theorem reps_ti {K:PySem.W.Frag}{H:Hp}{k:Str×Int}{vs:List V} (h:Reps K H [.str k.1,.int k.2] vs):vs=[.str k.1,.int k.2]:=by
 unfold Reps at h;obtain⟨v,r,rfl,a,h⟩:=h;unfold Reps at h;obtain⟨u,r',rfl,b,h⟩:=h;unfold Reps at h;unfold Rep at a b;subst h a b;rfl
section
variable {K:PySem.W.Frag}{H:Hp}{k:Str×Int}{d:D}{v:V}{b:Addr}
theorem look_both:∀ (kds:List ((Str×Int)×D)) (tab:Tab V),tab.map (·.1)=kds.map (·.1)->Reps K H (kds.map (·.2)) (tab.map (·.2.2)) ->
  (∃ d v,lookD k kds=some d/\lookT tab k=some v/\Rep K H d v)\/(lookD k kds=none/\lookT tab k=none)
 |[],[],_,_=>.inr ⟨rfl,rfl⟩
 |[],_::_,e,_=>by cases e
 |_::_,[],e,_=>by cases e
 |x::kds,y::tab,e,r=>by
  rw[List.map_cons,List.map_cons] at e r;injection e with e1 e2
  unfold Reps at r;obtain⟨v,q,e3,rv,r⟩:=r;injection e3 with e3 e4
  subst e4
  by_cases z:x.1=k
  ·refine .inl ⟨x.2,y.2.2,?_,?_,by rw[e3];exact rv⟩
   ·unfold lookD;rw[List.find?_cons,decide_eq_true z];rfl
   ·unfold lookT;rw[List.find?_cons,e1,decide_eq_true z];rfl
  ·have a1:lookD k (x::kds)=lookD k kds:=by unfold lookD;rw[List.find?_cons,decide_eq_false z]
   have a2:lookT (y::tab) k=lookT tab k:=by unfold lookT;rw[List.find?_cons,e1,decide_eq_false z]
   rw[a1,a2];exact look_both kds tab e2 r
theorem putA_both (rd:Rep K H d v):∀ (kds:List ((Str×Int)×D)) (tab:Tab V),tab.map (·.1)=kds.map (·.1)->Reps K H (kds.map (·.2)) (tab.map (·.2.2)) ->
  (tab.map (putA k v)).map (·.1)=(kds.map (putDA k d)).map (·.1)/\Reps K H ((kds.map (putDA k d)).map (·.2)) ((tab.map (putA k v)).map (·.2.2))
 |[],[],_,_=>⟨rfl,Reps.nil_⟩
 |[],_::_,e,_=>by cases e
 |_::_,[],e,_=>by cases e
 |x::kds,y::tab,e,r=>by
  rw[List.map_cons,List.map_cons] at e r;injection e with e1 e2
  unfold Reps at r;obtain⟨w,q,e3,rv,r⟩:=r;injection e3 with e3 e4
  subst e4;obtain⟨h1,h2⟩:=putA_both rd kds tab e2 r;rw[List.map_cons,List.map_cons,List.map_cons,List.map_cons,List.map_cons,List.map_cons]
  by_cases z:x.1=k
  ·refine⟨?_,Reps.cons ?_ h2⟩
   ·rw[h1];unfold putA putDA;rw[if_pos z,e1,if_pos z]
   ·unfold putA putDA;rw[if_pos z,e1,if_pos z];exact rd
  ·refine⟨?_,Reps.cons ?_ h2⟩
   ·rw[h1]
    show (putA k v y).1::_=(putDA k d x).1::_;have q1:putDA k d x=x:=if_neg z;have q2:putA k v y=y:=if_neg (by rw[e1];exact z)
    rw[q1,q2,e1]
   ·unfold putA putDA;rw[if_neg z,e1,if_neg z,e3];exact rv
theorem put_both {kds:List ((Str×Int)×D)}{tab:Tab V} (rd:Rep K H d v) (e:tab.map (·.1)=kds.map (·.1)) (r:Reps K H (kds.map (·.2)) (tab.map (·.2.2))) :
  (putT tab k b v).map (·.1)=(putTD k d kds).map (·.1)/\Reps K H ((putTD k d kds).map (·.2)) ((putT tab k b v).map (·.2.2)):=by
 unfold putT putTD
 rcases look_both (k:=k) kds tab e r with ⟨d',v',h1,h2,_⟩ | ⟨h1,h2⟩
 ·rw[h1,h2];exact putA_both rd kds tab e r
 ·rw[h1,h2]
  refine⟨?_,?_⟩
  ·show (tab++[(k,b,v)]).map (·.1)=(kds++[(k,d)]).map (·.1)
   rw[List.map_append,List.map_append,e];rfl
  ·show Reps K H ((kds++[(k,d)]).map (·.2)) ((tab++[(k,b,v)]).map (·.2.2))
   rw[List.map_append,List.map_append];exact r.app (Reps.one rd)
end
theorem lt_size {n m:Nat} (h:n<1000) (e:m=n):m<sizeLine:=by
 have:(1000:Nat)<=sizeLine:=by decide
 omega
section
variable {X:Cx}{pos:Pos}{e:Expr}{es:List Expr}{F G:FE}{A:FA}
theorem xtn (i:Nat) {x:Str}{p p2:Pos} (hN:X.N.Nodup) (hi:X.N[i]?=some x:=by rfl) (hx:Loc X.env.scope x:=by first | exact Or.inl rfl | exact Or.inr rfl) (hs:swapsWith (.Dict [] [] p2) (some (.Name x p)) pos.line X.env=pure false:=by rfl)
  (hf:X.fn x=true\/X.env.scope.names.lookup x=some .local:=by first | exact .inl rfl | exact .inr rfl):XS X (.Assign [.Name x p] (.Dict [] [] p2) pos) (sTN i) :=
 PS.wk (ps_set hN hi hx pe_tnew hs hf) fun Dn σ H hh0_=>by
  obtain⟨c,H0,ρ,r,R,f,q⟩:=hh0_;have f':some (Res.nx (ρ.set i (.ow false (.dtu []))))=some r:=f;cases f';exact fun a ha=>q _ H0 _ (Same.refl _) (R.setOwn (o:=.dtu []) (u:=tdO a []) i ha ⟨[],upd_same,rfl,(fun x hx=>by cases hx),Reps.nil_⟩)
theorem xtg (i:Nat) {x:Str}{p ap cp tp:Pos}{x1:Nat} (hu:X.A.units+1<cLine) (hk:XA X es A) (he:XE X e F) (m:M2 X (.Name x p) "get" ap (.Tuple es x1 tp) e cp:=by exact⟨rfl,rfl,rfl,rfl⟩) (hN:X.N[i]?=some x:=by rfl) (hv:Vis X.env.scope x:=by first | exact Or.inl rfl | exact Or.inr (Or.inl rfl) | exact Or.inr (Or.inr rfl)) (hd:(x==("__debug__":Str))=false:=by decide)
  (hcd:(x==("__classdict__":Str))=false:=by decide):XE X (.Call (.Attribute (.Name x p) "get" ap) [.Tuple es x1 tp,e] [] cp) (eTG i A F) :=
 PE.wk (pe_tget hu (pe_var hN hv hd hcd) (pe_tup hk) he m) fun σ H Q hh0_=>by
  obtain⟨c,H0,ρ,d,ρ',R,f,q⟩:=hh0_;unfold eTG eTGa at f;obtain⟨kds0,h1,f⟩:=bnd_eq f;unfold eTGb at f;obtain⟨⟨ds,ρ1⟩,h2,f⟩:=bnd_eq f;unfold eTGc at f;obtain⟨k,h3,f⟩:=bnd_eq f;unfold eTGd at f;obtain⟨⟨z,ρ2⟩,h4,f⟩:=bnd_eq f;unfold eTGe at f;obtain⟨kds,h5,f⟩:=bnd_eq f;have f':some ((lookD k kds).getD z,ρ2)=some (d,ρ'):=f;cases f';have hy:=ti_eq h3;have hy:ds=[.str k.1,.int k.2]:=hy;subst hy;obtain⟨a,e1,_,_,tab0,e40,_,k0,_⟩:=R.ow i false _ (owU_eq h1);refine⟨_,e1,a,rfl,⟨tab0,.inl e40,k0.mono R.same⟩,c,H0,ρ,_,ρ1,R,h2,fun vs H1 Hh s1 R1 r1=>?_⟩
  cases reps_ti r1;refine⟨by show (2:Nat)<=sizeLine;decide,fun b hb=>?_⟩
  have S:=Step.alloc (o:=.tup [.str k.1,.int k.2]) R1.same hb;have R2:=R1.after S;refine⟨c,_,ρ1,z,_,R2,h4,fun u H2 Hh2 s2 R3 r2=>?_⟩
  obtain⟨a2,e2,_,_,tab,e4,ek,k3,t⟩:=R3.ow i false _ (owU_eq h5);rw[e1] at e2;cases e2;refine⟨tab,k,b,⟨.inl e4,k3.mono R3.same⟩,rfl,R3.same _ _ (s2 _ _ upd_same),q _ H2 Hh2 (s1.trans (S.s0.trans s2)) R3 ?_⟩
  rcases look_both (k:=k) kds tab ek t with ⟨d',v',g1,g2,g3⟩ | ⟨g1,g2⟩
  ·rw[g1,g2];exact g3
  ·rw[g1,g2];exact r2
theorem xtk (i:Nat) {x:Str}{p p3 tp:Pos}{x1:Nat} (hu:X.A.units+1<cLine) (hk:XA X es A) (he:XE X e F) (hN:X.N[i]?=some x:=by rfl) (hv:Vis X.env.scope x:=by first | exact Or.inl rfl | exact Or.inr (Or.inl rfl) | exact Or.inr (Or.inr rfl)) (hd:(x==("__debug__":Str))=false:=by decide)
  (hcd:(x==("__classdict__":Str))=false:=by decide) (hs:swapsWith e (some (.Subscript (.Name x p) (.Tuple es x1 tp) p3)) pos.line X.env=pure false:=by rfl):XS X (.Assign [.Subscript (.Name x p) (.Tuple es x1 tp) p3] e pos) (sTK i A F) :=
 PS.wk (ps_tput hu (pe_var hN hv hd hcd) (pe_tup hk) he hs) fun Dn σ H hh0_=>by
  obtain⟨c,H0,ρ,r,R,f,q⟩:=hh0_;unfold sTK sTKa at f;obtain⟨⟨d,ρ1⟩,h1,f⟩:=bnd_eq f;unfold sTKb at f;obtain⟨kds0,h2,f⟩:=bnd_eq f;unfold sTKc at f;obtain⟨⟨ds,ρ2⟩,h3,f⟩:=bnd_eq f;unfold sTKd at f;obtain⟨k,h4,f⟩:=bnd_eq f;unfold sTKe at f;obtain⟨kds,h5,f⟩:=bnd_eq f;obtain⟨h6,rfl⟩:=ifs f;have hy:ds=[.str k.1,.int k.2]:=ti_eq h4;subst hy;refine⟨c,H0,ρ,d,ρ1,R,h1,fun v H1 Hh s1 R1 r1=>?_⟩
  obtain⟨a,e1,_⟩:=R1.ow i false _ (owU_eq h2);refine⟨_,e1,c,H1,ρ1,_,ρ2,R1,h3,fun vs H2 Hh2 s2 R2 r2=>?_⟩
  cases reps_ti r2;refine⟨by show (2:Nat)<=sizeLine;decide,fun b hb=>?_⟩
  have S:=Step.alloc (o:=.tup [.str k.1,.int k.2]) R2.same hb;have R3:=R2.after S;have z:=owU_eq h5;obtain⟨a2,e2,_,_,tab,e4,ek,k3,t⟩:=R3.ow i false _ z;rw[e1] at e2;cases e2;obtain⟨w1,w2⟩:=put_both (k:=k) (b:=b) (Rep.mono (s2.trans S.s0) d r1) ek t;have len:tab.length=kds.length:=by have:=congrArg List.length ek;simpa using this
  refine⟨a,tab,k,b,rfl,e4,k3.mono R3.same,rfl,upd_same,lt_size h6 len,?_⟩;exact q σ _ _ (s1.trans (s2.trans S.s0)) (R3.mutOwn z e1 ⟨_,upd_same,w1,k3.put upd_same,w2⟩)
end
end Fx
set_option maxRecDepth 100000
namespace Fx
open PySem PySem.Spec PyProof.Rows L2
theorem RS.frozen {K:PySem.W.Frag}{c:FC}{H0 H:Hp}{ρ:En}{σ:L2.St}{m:MO}{a:Addr}{u:HO}{d:D} (R:RS K c H0 H ρ σ) {i:Nat} (hi:ρ[i]?=some (.ow false m)) (hx:σ[i]?=some (some (.ref a)))
  (rep:∀ H',Same H0 H'->H' a=some u->Rep K H' d (.ref a)):∃ H0',Same H0 H0'/\RS K c H0' (upd H a u) (ρ.set i (.im d)) σ:=by
 obtain⟨a',x,y,z,w⟩:=R.ow i _ _ hi;rw[hx] at x;cases x;have he:c.He a=none:=z;have il:i<ρ.length:=(List.getElem?_eq_some_iff.mp hi).1;have s0:Same H0 (upd H0 a u):=fun b o q=>by rw[upd_ne (ne_of_none q y)];exact q
 have off:∀ {j:Nat}{sl:Sl},j≠i->(ρ.set i (.im d))[j]?=some sl->ρ[j]?=some sl:=fun hj e=>by rwa [List.getElem?_set_ne (Ne.symm hj)] at e
 have on:∀ {sl:Sl},(ρ.set i (.im d))[i]?=some sl->sl=.im d:=fun e=>by rw[List.getElem?_set_self il] at e;exact (Option.some.inj e).symm
 refine⟨upd H0 a u,s0,⟨fun b o q=>?_,R.init.trans s0,fun b o q=>?_,fun b o q n=>?_,fun b hb q=>?_,by rw[List.length_set];exact R.len,fun j d' q=>?_,fun j bb o q=>?_,fun j k b1 b2 o o' b e1 e2 e3 e4=>?_⟩⟩
 ·by_cases h:b=a
  ·rw[h,upd_same] at q ⊢;exact q
  ·rw[upd_ne h] at q ⊢;exact R.same b o q
 ·by_cases h:b=a
  ·rw[h];exact .inr he
  ·rw[upd_ne h] at q;exact R.fresh b o q
 ·rw[upd_ne fun h=>by rw[h,he] at q;cases q];exact R.keep b o q n
 ·by_cases h:b=a
  ·rw[h,upd_same] at q;cases q
  ·rw[upd_ne h] at q;exact R.apt b hb q
 ·by_cases hj:j=i
  ·subst hj
   cases on q;exact⟨.ref a,hx,rep _ s0 upd_same⟩
  ·obtain⟨v,a1,a2⟩:=R.im j d' (off hj q)
   exact⟨v,a1,Rep.mono s0 _ a2⟩
 ·by_cases hj:j=i
  ·subst hj;cases on q
  ·have q':=off hj q
   obtain⟨b,x1,y1,z1,w1⟩:=R.ow j bb o q';have nb:b≠a:=fun h=>hj (R.ne j i bb false o _ b q' hi x1 (by rw[h];exact hx))
   exact⟨b,x1,by rw[upd_ne nb];exact y1,z1,w1.step s0 fun t q=>by rw[upd_ne nb];exact q⟩
 ·by_cases hj:j=i
  ·subst hj;cases on e1
  ·by_cases hk:k=i
   ·subst hk;cases on e2
   ·exact R.ne j k b1 b2 o o' b (off hj e1) (off hk e2) e3 e4
theorem inv_ft {X:Cx}{pins:List (Addr×Obj)}{σ:L2.St}{H:Hp}{s:Shared}{a:Addr}{tab:Tab V} (I:Inv X pins σ H s) (e:H a=some (tdO a tab)):∃ o,Inv X pins σ (upd H a (tdF a o tab)) s:=by
 obtain⟨⟨hd,o,e1,td⟩,_⟩:=(show ObjOk X.prog X.w H s.heap a (tdO a tab) from I.hok a _ e);exact⟨o,I.write (t':=s.toks) (h':=s.heap) (x:=a) (e:=a) (by rw[e];trivial) (.inl rfl) (fun _ _ _ q=>q) ⟨o,e1⟩ (tdF_ok hd e1 td)⟩
noncomputable def tsFT (i:Nat) (t:TS):TS:=fun D σ H=>∃ a tab,σ[i]?=some (some (.ref a))/\H a=some (tdO a tab)/\∀ o,t D σ (upd H a (tdF a o tab))
section
variable {X:Cx}{pos:Pos}{e e':Expr}{st:Stmt}{F G I:FE}{B:FS}{T:FT}
theorem ps_ft (i:Nat) {t:TS} (h:PS X st t):PS X st (tsFT i t):=fun pins s σ H D I hh0_=>by
 obtain⟨a,tab,_,ea,q⟩:=hh0_;obtain⟨o,I1⟩:=inv_ft I ea;exact h pins s σ _ D I1 (q o)
theorem xft (i:Nat) (h:XS X st B):XS X st (sFT i B):=PS.wk (ps_ft i h) fun Dn σ H hh0_=>by
 obtain⟨c,H0,ρ,r,R,f,q⟩:=hh0_;unfold sFT sFTa at f;obtain⟨kds,h1,f⟩:=bnd_eq f;have z:=owU_eq h1;obtain⟨a,e1,y,_,tab,e4,ek,ks,t⟩:=R.ow i false _ z;refine⟨a,tab,e1,e4,fun o=>?_⟩
 obtain⟨H0',s0,R'⟩:=R.frozen (u:=tdF a o tab) (d:=asT kds) z e1 fun H' s eH=>by
  unfold asT Rep;exact⟨a,o,tab,rfl,eH,ek.symm,ks.mono s,Reps.mono s _ t⟩
 exact⟨c,H0',_,r,R',f,q.mono s0⟩
theorem xixT (hu:X.A.units+1<cLine) (h1:XE X e F) (h2:XE X e' G) (hs:NoSl e'):XE X (.Subscript e e' pos) (e2 dIxT F G) :=
 PE.wk (pe_titem hu h1 h2 hs) fun σ H Q hh0_=>by
  obtain⟨c,H0,ρ,d,ρ',R,f,q⟩:=hh0_;obtain⟨x,ρ1,y,g1,g2,g3⟩:=e2_inv f;refine⟨c,H0,ρ,x,ρ1,R,g1,fun v H1 Hh s1 R1 r1=>⟨c,H1,ρ1,y,ρ',R1,g2,fun u H2 Hh2 s2 R2 r2=>?_⟩⟩
  unfold dIxT at g3
  split at g3
  ·rename_i ks vs s i
   unfold Rep at r1 r2;obtain⟨a,o,tab,rfl,ea,ek,ka,t⟩:=r1;obtain⟨b,ws,rfl,sq,rs⟩:=r2;cases reps_ti (k:=(s,i)) rs
   have len:ks.length=vs.length:=by
    have:=t.length;rw[ek,this];simp
   have e1:(ks.zip vs).map (·.1)=ks:=List.map_fst_zip (by omega)
   have e2:(ks.zip vs).map (·.2)=vs:=List.map_snd_zip (by omega)
   rcases look_both (K:=X.K) (H:=H1) (k:=(s,i)) (ks.zip vs) tab (by rw[e1];exact ek.symm) (by rw[e2];exact t) with ⟨d',v',a1,a2,a3⟩ | ⟨a1,a2⟩
   ·rw[g3] at a1;cases a1
    exact⟨a,tab,(s,i),b,v',rfl,⟨.inr ⟨o,R2.same _ _ (s2 _ _ ea)⟩,ka.mono (s2.trans R2.same)⟩,rfl,Same.seqT R2.same sq,a2,q _ H2 Hh2 (s1.trans s2) R2 (Rep.mono s2 _ a3)⟩
   ·rw[g3] at a1;cases a1
  ·cases g3
end
theorem opqX_eq {d:D}{q:List (Str×Int)×List D} (h:opqX d=some q):d=.opq q.1 q.2:=by
 unfold opqX at h
 split at h
 ·cases h;rfl
 ·cases h
theorem kD_rep {K:PySem.W.Frag}{H:Hp}{k:Str×Int}{b:Addr} (h:H b=some (.tup [.str k.1,.int k.2])):Rep K H (kD k) (.ref b):=by
 unfold kD Rep;refine⟨b,_,rfl,.inl (.inl h),?_⟩;refine Reps.cons ?_ (Reps.cons ?_ Reps.nil_) <;> (unfold Rep;rfl)
theorem yields_k {K:PySem.W.Frag}{H1:Hp}{a:Addr}{o:Obj}{tab:Tab V} (ea:H1 a=some (tdF a o tab)) (ks:KsAt H1 tab):Yields K (Itk a o tab) H1 ((tab.map (·.1)).map kD):=fun H0 H i s s'=>by
 have eh:=s' _ _ (s _ _ ea);refine⟨fun d e=>?_,fun h=>⟨by simpa using h,eh⟩⟩
 rw[List.getElem?_map,List.getElem?_map] at e;cases z:tab[i]? with
 |none=>rw[z] at e;cases e
 |some r =>
  rw[z] at e;cases e;refine⟨⟨(List.getElem?_eq_some_iff.mp z).1,eh⟩,fun x H' ⟨h1,r',h2,h3⟩=>⟨h1,?_⟩⟩
  rw[z] at h2;cases h2;rw[h3];exact kD_rep (s _ _ (ks _ (List.mem_of_getElem? z)))
section
variable {X:Cx}{scope sc:Scope}{x x2:Str}{frees:List Str}{js:List Nat}{px py pt pos ap cp:Pos}{kt:Nat}{elt iter:Expr}{ifs:List Expr}{I F:FE}{T:FT}
theorem xlk (hc:X.calm=true) (hsc:X.env.scope=sc) (B:ScB X.N sc scope x frees js) (hi:XE X iter I) (ht:∀ s H C fp,XTs (cxB X (x::frees) scope s H C fp) ifs T) (he:∀ s H C fp,XE (cxB X (x::frees) scope s H C fp) elt F)
  (hs:∀ v,foldedSetIterable iter X.env v=pure v:=by intro _;rfl):XE X (.ListComp elt [⟨.Name x px,iter,ifs,0⟩] scope pos) (eLK js I T F) :=
 PE.wk (pe_lc (tt:=tTt X.K T) (te:=tE X.K F) hc hsc B (pi_tdk hi) ht he hs) fun σ H Q hh0_=>by
  obtain⟨c,H0,ρ,d,ρ',R,f,q⟩:=hh0_;unfold eLK eLKz at f;obtain⟨⟨z,ρ1⟩,h1,f⟩:=bnd_eq f;unfold eLKa at f;obtain⟨⟨ks,ds⟩,g1,f⟩:=bnd_eq f;unfold eLKb at f;obtain⟨fr,h3,f⟩:=bnd_eq f;unfold eLKc at f;obtain⟨ys,h4,f⟩:=bnd_eq f;obtain⟨hz,f⟩:=Fx.ifs f;cases f;cases opqX_eq g1;refine⟨c,H0,ρ,_,ρ1,R,h1,fun v H1 Hh s1 R1 r1=>?_⟩
  unfold Rep at r1;obtain⟨a,o,tab,rfl,ea,ek,ka,t⟩:=r1;have ek:ks=tab.map (·.1):=ek;subst ek;refine⟨a,o,tab,rfl,R1.same _ _ ea,?_⟩;refine lc_of R1 h3 h4 (by rw[List.length_map];exact hz) (yields_k ea ka) fun vs H2 Hh2 s2 R2 r2=>fun p hp=>?_
  have S:=Step.alloc (o:=.lst vs) R2.same hp;refine q _ _ _ (s1.trans (s2.trans S.s0)) (R2.after S) ?_;unfold Rep;exact⟨p,vs,rfl,.inl (.inl upd_same),Reps.mono S.s0 _ r2⟩
end
end Fx
set_option maxRecDepth 100000
namespace Fx
open PySem PySem.Spec PyProof.Rows L2
theorem reps_at {K:PySem.W.Frag}{H:Hp}{tab:Tab V}{ds:List D} (t:Reps K H ds (tab.map (·.2.2))) {i:Nat}{r:(Str×Int)×Addr×V} (hr:tab[i]?=some r):∃ d,ds[i]?=some d/\Rep K H d r.2.2:=by
 have hi:=(List.getElem?_eq_some_iff.mp hr).1;have len:=t.length;rw[List.length_map] at len;have hd:ds[i]?=some ds[i]:=List.getElem?_eq_getElem (by omega)
 obtain⟨v,hv,rv⟩:=t.get hd;rw[List.getElem?_map,hr] at hv;cases hv;exact⟨_,hd,rv⟩
theorem lc_items {K:PySem.W.Frag}{c:FC}{H1 Hh:Hp}{ρ:En}{σ:L2.St}{js:List Nat}{fr:En}{T:FT}{F:FE}{out:List D}{a:Addr}{o:Obj}{tab:Tab V}{ds:List D}{Qf:List V->Hp->Prop} (R:RS K c H1 Hh ρ σ) (hf:imAt ρ js=some fr)
  (hc:cGo2 T F fr (((tab.map (·.1)).zip ds).map prD)=some out) (hz:tab.length<=sizeLine) (ea:H1 a=some (tdF a o tab)) (ka:KsAt H1 tab) (tr:Reps K H1 ds (tab.map (·.2.2)))
  (q:∀ ys H0 H,Same H1 H0->RS K c H0 H ρ σ->Reps K H0 out ys->Qf ys H):LcW2 K js (tTt K T) (tE K F) σ Qf (Iti a o tab) Hh:=by
 have len:ds.length=tab.length:=by have:=tr.length;rw[List.length_map] at this;exact this
 have xl:(((tab.map (·.1)).zip ds).map prD).length=tab.length:=by rw[List.length_map,List.length_zip,List.length_map,len,Nat.min_self]
 generalize hxs:((tab.map (·.1)).zip ds).map prD=xs at hc xl
 refine⟨fun i m ys H=>m=tab.length-i/\i<=tab.length/\∃ H0,Same H1 H0/\RS K c H0 H ρ σ/\∃ pre rest,Reps K H0 pre ys/\pre.length<=i/\cGo2 T F fr (xs.drop i)=some rest/\pre++rest=out,⟨tab.length,by simp,Nat.zero_le _,H1,Same.refl _,R,[],out,Reps.nil_,Nat.zero_le _,by simpa using hc,rfl⟩,?_⟩
 rintro i m ys H ⟨rfl,hi,H0,s0,R0,pre,rest,rp,lp,hg,e⟩;have eh:H a=some (tdF a o tab):=R0.same _ _ (s0 _ _ ea)
 by_cases hlt:i<tab.length
 ·have hr:tab[i]?=some tab[i]:=List.getElem?_eq_getElem hlt
  obtain⟨d2,hd2,r2⟩:=reps_at tr hr
  have hx:xs[i]?=some (prD (tab[i].1,d2)):=by
   have hz2:((tab.map (·.1)).zip ds)[i]?=some (tab[i].1,d2):=List.getElem?_zip_eq_some.mpr ⟨by rw[List.getElem?_map,hr];rfl,hd2⟩
   rw[<- hxs,List.getElem?_map,hz2];rfl
  refine .inr ⟨⟨hlt,eh⟩,by rw[<- rp.length];omega,fun x H' hy=>?_⟩
  obtain⟨r',p,hr',rfl,hp,rfl⟩:=hy;rw[hr] at hr';cases hr';have S0:=Step.alloc (o:=.tup [.ref tab[i].2.1,tab[i].2.2]) R0.same hp;have R1:=R0.after S0;rw[drop_of hx,cGo2_cons] at hg;obtain⟨⟨e1,e2⟩,g0,hg⟩:=bnd_eq hg;have g0':some (kD tab[i].1,d2)=some (e1,e2):=g0;cases g0';refine⟨p,.ref tab[i].2.1,tab[i].2.2,rfl,.inl (.inl upd_same),?_⟩;obtain⟨⟨b,ρb⟩,g1,hg⟩:=bnd_eq hg;dsimp only at hg;have k1:Rep K _ (kD tab[i].1) (.ref tab[i].2.1):=kD_rep (S0.s0 _ _ (s0 _ _ (ka _ (List.getElem_mem hlt))));have k2:Rep K _ d2 tab[i].2.2:=Rep.mono (s0.trans S0.s0) _ r2;refine⟨⟨upd H0 p (.tup [.ref tab[i].2.1,tab[i].2.2]),upd H p (.tup [.ref tab[i].2.1,tab[i].2.2]),[]⟩,_,_,b,ρb,R1.block2 hf k1 k2,g1,fun H2 Hh2 s2 R2=>?_⟩
  cases b with
  |false =>
   rw[if_neg Bool.false_ne_true] at hg ⊢;have S:=R2.step;exact⟨tab.length-(i+1),by omega,rfl,hlt,H2,s0.trans (S0.s0.trans S.s0),R1.after S,pre,rest,Reps.mono (S0.s0.trans S.s0) _ rp,by omega,hg,e⟩
  |true =>
   rw[if_pos rfl] at hg ⊢;obtain⟨⟨z,ρz⟩,g2,hg⟩:=bnd_eq hg;obtain⟨t,g3,hg⟩:=bnd_eq hg;dsimp only at hg;have hg':some (z::t)=some rest:=hg;cases hg';refine⟨⟨upd H0 p (.tup [.ref tab[i].2.1,tab[i].2.2]),upd H p (.tup [.ref tab[i].2.1,tab[i].2.2]),[]⟩,H2,ρb,z,ρz,R2,g2,fun v H3 Hh3 s3 R3 r3=>?_⟩
   have S:=R3.step;refine⟨tab.length-(i+1),by omega,rfl,hlt,H3,s0.trans (S0.s0.trans S.s0),R1.after S,pre++[z],t,(Reps.mono (S0.s0.trans S.s0) _ rp).app (Reps.one r3),?_,g3,?_⟩
   ·rw[List.length_append,List.length_singleton];omega
   ·rw[List.append_assoc];exact e
 ·have hn:xs.drop i=[]:=List.drop_eq_nil_of_le (by omega)
  rw[hn,cGo2_nil] at hg;cases hg;rw[List.append_nil] at e;subst e;exact .inl ⟨⟨by omega,eh⟩,by rw[<- rp.length];omega,q ys H0 H s0 R0 rp⟩
section
variable {X:Cx}{scope sc:Scope}{x x2:Str}{frees:List Str}{js:List Nat}{px py pt pos ap cp:Pos}{kt:Nat}{elt iter:Expr}{ifs:List Expr}{I F:FE}{T:FT}
theorem xli (hc:X.calm=true) (hsc:X.env.scope=sc) (B:ScB2 X.N sc scope x x2 frees js) (hi:XE X iter I) (ht:∀ s H C fp,XTs (cxB X (x::x2::frees) scope s H C fp) ifs T) (he:∀ s H C fp,XE (cxB X (x::x2::frees) scope s H C fp) elt F)
  (hbase:attributeBase iter "items" X.env (eval iter X.env)=eval iter X.env:=by rfl) (hline:(ap.endLine==cp.line)=true:=by rfl)
  (hs:∀ v,foldedSetIterable (.Call (.Attribute iter "items" ap) [] [] cp) X.env v=pure v:=by intro _;rfl):XE X (.ListComp elt [⟨.Tuple [.Name x px,.Name x2 py] kt pt,.Call (.Attribute iter "items" ap) [] [] cp,ifs,0⟩] scope pos) (eLI js I T F) :=
 PE.wk (pe_lc2 (tt:=tTt X.K T) (te:=tE X.K F) hc hsc B.B B.own2 B.nd2 (pi_tdi hi hbase hline) ht he hs) fun σ H Q hh0_=>by
  obtain⟨c,H0,ρ,d,ρ',R,f,q⟩:=hh0_;unfold eLI eLIz at f;obtain⟨⟨z,ρ1⟩,h1,f⟩:=bnd_eq f;unfold eLIa at f;obtain⟨⟨ks,ds⟩,g1,f⟩:=bnd_eq f;unfold eLIb at f;obtain⟨fr,h3,f⟩:=bnd_eq f;unfold eLKc at f;obtain⟨ys,h4,f⟩:=bnd_eq f;obtain⟨hz,f⟩:=Fx.ifs f;cases f;cases opqX_eq g1;refine⟨c,H0,ρ,_,ρ1,R,h1,fun v H1 Hh s1 R1 r1=>?_⟩
  unfold Rep at r1;obtain⟨a,o,tab,rfl,ea,ek,ka,t⟩:=r1;have ek:ks=tab.map (·.1):=ek;subst ek;refine⟨a,o,tab,rfl,R1.same _ _ ea,?_⟩;refine lc_items R1 h3 h4 (by simpa using hz) ea ka t fun vs H2 Hh2 s2 R2 r2=>fun p hp=>?_
  have S:=Step.alloc (o:=.lst vs) R2.same hp;refine q _ _ _ (s1.trans (s2.trans S.s0)) (R2.after S) ?_;unfold Rep;exact⟨p,vs,rfl,.inl (.inl upd_same),Reps.mono S.s0 _ r2⟩
end
end Fx
set_option maxRecDepth 100000
namespace Fx
open PySem PySem.Spec PyProof.Rows L2
structure GT (K:PySem.W.Frag) (c:FC) (H0 H:Hp) (T:Addr) (g:List ((Str×Int)×List D)) (tab:Tab V):Prop where
 hT:H T=some (tdO T tab)
 nT:H0 T=none
 eT:c.He T=none
 keys:tab.map (·.1)=g.map (·.1)
 ka:KsAt H0 tab
 ats:∀ (i:Nat) (r:(Str×Int)×Addr×V) (q:(Str×Int)×List D),tab[i]?=some r->g[i]?=some q->∃ a ws,r.2.2=.ref a/\H a=some (.lst ws)/\Reps K H0 q.2 ws/\H0 a=none/\c.He a=none
 nd:(tab.map (·.2.2)).Nodup
theorem grpT_val (e:D) (k:Str×Int):∀ (g:List ((Str×Int)×List D)) (tab:Tab V),tab.map (·.1)=g.map (·.1) ->
  (lookT tab k=none/\addGT k e g=g++[(k,[e])])\/∃ i r ds,tab[i]?=some r/\g[i]?=some (k,ds)/\lookT tab k=some r.2.2/\addGT k e g=g.set i (k,ds++[e])
 |[],[],_=>.inl ⟨rfl,rfl⟩
 |[],_::_,z=>by cases z
 |_::_,[],z=>by cases z
 |q::g,r::tab,z=>by
  rw[List.map_cons,List.map_cons] at z;injection z with z1 z2
  by_cases hk:q.1=k
  ·refine .inr ⟨0,r,q.2,rfl,by rw[<- hk];rfl,?_,?_⟩
   ·unfold lookT;rw[List.find?_cons,z1,decide_eq_true hk];rfl
   ·show (if q.1=k then (q.1,q.2++[e])::g else q::addGT k e g)=_
    rw[if_pos hk,hk];rfl
  ·have a1:addGT k e (q::g)=q::addGT k e g:=if_neg hk
   have a2:lookT (r::tab) k=lookT tab k:=by unfold lookT;rw[List.find?_cons,z1,decide_eq_false hk]
   rw[a1,a2]
   rcases grpT_val e k g tab z2 with ⟨h1,h2⟩ | ⟨i,r',ds,h1,h2,h3,h4⟩
   ·exact .inl ⟨h1,by rw[h2];rfl⟩
   ·exact .inr ⟨i+1,r',ds,by simpa using h1,by simpa using h2,h3,by rw[h4];rfl⟩
section
variable {K:PySem.W.Frag}{c:FC}{H0 H H0' H':Hp}{T p b:Addr}{g:List ((Str×Int)×List D)}{tab:Tab V}{k:Str×Int}{e:D}{v:V}{ρ:En}{σ:L2.St}
theorem GT.step (h:GT K c H0 H T g tab) (S:Step H0 H H0' H'):GT K c H0' H' T g tab:=by
 have fr:∀ {x:Addr}{u:HO},H0 x=none->H x=some u->H0' x=none:=fun n q=>by
  rename_i x u
  cases z:H0' x with
  |none=>rfl
  |some o =>
   rcases S.fr x o z with y | y
   ·rw[n] at y;cases y
   ·rw[q] at y;cases y
 refine⟨S.s _ _ h.hT,fr h.nT h.hT,h.eT,h.keys,h.ka.mono S.s0,fun i r q hr hq=>?_,h.nd⟩
 obtain⟨a,ws,h1,h2,h3,h4,h5⟩:=h.ats i r q hr hq;exact⟨a,ws,h1,S.s _ _ h2,Reps.mono S.s0 _ h3,fr h4 h2,h5⟩
theorem RS.move (R:RS K c H0 H ρ σ) (no:∀ (i:Nat) (b:Bool) (o:MO),ρ[i]?≠some (.ow b o)) (m:∀ x u,H x=some u->(H0 x=some u\/c.He x=some u)->H' x=some u) (t:∀ x,H x≠none->H' x≠none):RS K c H0 H' ρ σ :=
 ⟨fun b o q=>m b o (R.same b o q) (.inl q),R.init,R.fresh,fun b o q n=>m b o (R.keep b o q n) (.inr q),fun a ha=>t a (R.apt a ha),R.len,R.im,fun i b o q=>absurd q (no i b o),fun i j b b' o o' a q=>absurd q (no i b o)⟩
theorem GT.lst {i:Nat}{r:(Str×Int)×Addr×V} (h:GT K c H0 H T g tab) (hr:tab[i]?=some r):∃ a ws,r.2.2=.ref a/\H a=some (.lst ws)/\H0 a=none/\c.He a=none:=by
 have hi:=(List.getElem?_eq_some_iff.mp hr).1;have len:tab.length=g.length:=by have:=congrArg List.length h.keys;simpa using this
 have hq:g[i]?=some g[i]:=List.getElem?_eq_getElem (by omega)
 obtain⟨a,ws,h1,h2,h3,h4,h5⟩:=h.ats i r _ hr hq;exact⟨a,ws,h1,h2,h4,h5⟩
theorem tdO_ne_lst {T:Addr}{tab:Tab V}{ws:List V} (h:(some (tdO T tab):Option HO)=some (.lst ws)):False:=by cases h
theorem GT.new (h:GT K c H0 H T g tab) (hp:H p=none) (ep:c.He p=none) (hb:H0 b=some (.tup [.str k.1,.int k.2])) (rv:Rep K H0 e v)
  (e1:H' T=some (tdO T (tab++[(k,b,.ref p)]))) (e2:H' p=some (.lst [v])) (e3:∀ x,x≠T->x≠p->H' x=H x) (h0:H0 p=none):GT K c H0 H' T (g++[(k,[e])]) (tab++[(k,b,.ref p)]):=by
 have len:tab.length=g.length:=by have:=congrArg List.length h.keys;simpa using this
 refine⟨e1,h.nT,h.eT,by rw[List.map_append,List.map_append,h.keys];rfl,fun x hx=>?_,fun i r q hr hq=>?_,?_⟩
 ·rcases List.mem_append.mp hx with hx | hx
  ·exact h.ka x hx
  ·rw[List.mem_singleton.mp hx];exact hb
 ·by_cases hi:i<tab.length
  ·rw[List.getElem?_append_left hi] at hr
   rw[List.getElem?_append_left (by omega)] at hq
   obtain⟨a,ws,h1,h2,h3,h4,h5⟩:=h.ats i r q hr hq;have n1:a≠T:=fun z=>by rw[z,h.hT] at h2;exact tdO_ne_lst h2
   have n2:a≠p:=fun z=>by rw[z,hp] at h2;cases h2
   exact⟨a,ws,h1,by rw[e3 a n1 n2];exact h2,h3,h4,h5⟩
  ·have hi2:=(List.getElem?_eq_some_iff.mp hr).1
   rw[List.length_append,List.length_singleton] at hi2;have ie:i=tab.length:=by omega
   subst ie;rw[List.getElem?_append_right (Nat.le_refl _),Nat.sub_self] at hr;rw[List.getElem?_append_right (by omega),len,Nat.sub_self] at hq
   cases hr;cases hq;exact⟨p,[v],rfl,e2,Reps.one rv,h0,ep⟩
 ·rw[List.map_append,List.nodup_append]
  refine⟨h.nd,by simp,fun x hx y hy z=>?_⟩
  have hy':y=.ref p:=List.mem_singleton.mp hy;rw[hy'] at z;obtain⟨r,hr,er⟩:=List.mem_map.mp hx;obtain⟨i,hi⟩:=List.getElem?_of_mem hr;obtain⟨a,ws,h1,h2,_⟩:=h.lst hi;rw[<- er,h1] at z;cases z;rw[hp] at h2;cases h2
theorem GT.app (h:GT K c H0 H T g tab) {i:Nat}{r:(Str×Int)×Addr×V}{ds:List D}{a:Addr}{ws:List V} (hr:tab[i]?=some r) (hg:g[i]?=some (k,ds)) (ra:r.2.2=.ref a) (hw:H a=some (.lst ws)) (rv:Rep K H0 e v)
  (e2:H' a=some (.lst (ws++[v]))) (e3:∀ x u,H x=some u->x≠a->H' x=some u):GT K c H0 H' T (g.set i (k,ds++[e])) tab:=by
 obtain⟨a',ws',h1,h2,h3,h4,h5⟩:=h.ats i r _ hr hg;rw[ra] at h1;cases h1;rw[hw] at h2;cases h2;have aT:a≠T:=fun z=>by rw[z,h.hT] at hw;exact tdO_ne_lst hw
 have il:i<g.length:=(List.getElem?_eq_some_iff.mp hg).1
 have km:(g.set i (k,ds++[e])).map (·.1)=g.map (·.1):=by
  refine List.ext_getElem? fun n=>?_
  rw[List.getElem?_map,List.getElem?_map]
  by_cases z:i=n
  ·subst z;rw[List.getElem?_set_self il,hg];rfl
  ·rw[List.getElem?_set_ne z]
 refine⟨e3 _ _ h.hT (Ne.symm aT),h.nT,h.eT,by rw[km];exact h.keys,h.ka,fun n r' q hn hq=>?_,h.nd⟩
 by_cases z:i=n
 ·subst z
  rw[hr] at hn;cases hn;rw[List.getElem?_set_self il] at hq;cases hq;exact⟨a,_,ra,e2,h3.app (Reps.one rv),h4,h5⟩
 ·rw[List.getElem?_set_ne z] at hq
  obtain⟨a2,ws2,k1,k2,k3,k4,k5⟩:=h.ats n r' q hn hq
  have n1:a2≠a:=fun w=>z (by
   have e1:(tab.map (·.2.2))[i]?=some (.ref a):=by rw[List.getElem?_map,hr];exact congrArg some ra
   have e2:(tab.map (·.2.2))[n]?=some (.ref a):=by rw[List.getElem?_map,hn];show some r'.2.2=_;rw[k1,w]
   exact (List.getElem?_inj (List.getElem?_eq_some_iff.mp e1).1 h.nd).mp (e1.trans e2.symm))
  exact⟨a2,ws2,k1,e3 _ _ k2 n1,k3,k4,k5⟩
end
end Fx
set_option maxRecDepth 100000
namespace Fx
open PySem PySem.Spec PyProof.Rows L2
noncomputable def TFew (n:Nat) (g:List ((Str×Int)×List D)):Prop:=g.length<=n/\∀ q∈g,q.2.length<=n
theorem tfew_add {n:Nat} (k:Str×Int) (e:D):∀ (g:List ((Str×Int)×List D)),TFew n g->TFew (n+1) (addGT k e g)
 |[],h=>⟨Nat.succ_le_succ (Nat.zero_le _),fun q hq=>by rw[List.mem_singleton.mp hq];exact Nat.succ_le_succ (Nat.zero_le _)⟩
 |q::g,h=>by
  by_cases hk:q.1=k
  ·have a:addGT k e (q::g)=(q.1,q.2++[e])::g:=if_pos hk
   rw[a];refine⟨Nat.le_succ_of_le h.1,fun x hx=>?_⟩
   rcases List.mem_cons.mp hx with rfl | hx
   ·have:=h.2 q List.mem_cons_self
    show (q.2++[e]).length<=_;rw[List.length_append,List.length_singleton];omega
   ·exact Nat.le_succ_of_le (h.2 x (List.mem_cons_of_mem _ hx))
  ·have a:addGT k e (q::g)=q::addGT k e g:=if_neg hk
   rw[a];cases n with
   |zero=>have:=h.1;simp at this
   |succ m =>
    have h1:g.length<=m:=by have:=h.1;simp at this;exact this
    have hl:(addGT k e g).length<=g.length+1:=by
     clear h h1 a hk
     induction g with
     |nil=>exact Nat.le_refl _
     |cons r g ih =>
      show (if r.1=k then (r.1,r.2++[e])::g else r::addGT k e g).length<=_
      split
      ·simp
      ·simp;omega
    have hm:=(tfew_add k e g ⟨Nat.le_succ_of_le h1,fun x hx=>h.2 x (List.mem_cons_of_mem _ hx)⟩).2
    refine⟨by simp;omega,fun x hx=>?_⟩
    rcases List.mem_cons.mp hx with rfl | hx
    ·exact Nat.le_succ_of_le (h.2 _ List.mem_cons_self)
    ·exact hm x hx
theorem gKey_eq {d w:D}{q:(Str×Int)×D} (h:gKey d w=some q):∃ t,d=.tup [.int t,.str q.1.1,q.2]/\w=.int q.1.2:=by
 unfold gKey at h
 split at h
 ·cases h;exact⟨_,rfl,rfl⟩
 ·cases h
theorem three_at {K:PySem.W.Frag}{H:Hp}{t:Int}{s:Str}{e:D}{v:V} (h:Rep K H (.tup [.int t,.str s,e]) v):∃ a u,v=.ref a/\SqT K H a [.int t,.str s,u]/\Rep K H e u:=by
 unfold Rep at h;obtain⟨a,vs,rfl,sq,r⟩:=h;unfold Reps at r;obtain⟨v1,r1,rfl,q1,r⟩:=r;unfold Reps at r;obtain⟨v2,r2,rfl,q2,r⟩:=r;unfold Reps at r;obtain⟨v3,r3,rfl,q3,r⟩:=r;unfold Reps at r;unfold Rep at q1 q2;subst q1 q2 r;exact⟨a,v3,rfl,sq,q3⟩
noncomputable abbrev tbT (K:PySem.W.Frag) (i j l:Nat):TS:=tDrop (tBM K "list" rAppend (tTSd (tVar i) (tTup (tCons (tOp (rIxT K) (tVar j) (tC (.int 1))) (tCons (tVar l) tNil))) (tLst tNil)) (tCons (tOp (rIxT K) (tVar j) (tC (.int 2))) tNil))
theorem grpT_body {K:PySem.W.Frag}{c:FC}{H0 H:Hp}{T:Addr}{g:List ((Str×Int)×List D)}{tab:Tab V}{d wd:D}{q0:(Str×Int)×D}{v vw:V}{i j l n:Nat}{ρ:En}{σ:L2.St} (h:GT K c H0 H T g tab) (R:RS K c H0 H ρ σ) (no:∀ (i:Nat) (b:Bool) (o:MO),ρ[i]?≠some (.ow b o))
  (few:TFew n g) (hn:n<1000) (rv:Rep K H0 d v) (rw':Rep K H0 wd vw) (hk:gKey d wd=some q0) (hi:σ[i]?=some (some (.ref T))) (hj:σ[j]?=some (some v)) (hl:σ[l]?=some (some vw)) (Dn:Ends)
  (q:∀ H0' H' tab',Same H0 H0'->GT K c H0' H' T (addGT q0.1 q0.2 g) tab'->RS K c H0' H' ρ σ->Dn.nx σ H'):tbT K i j l Dn σ H:=by
 obtain⟨t,rfl,rfl⟩:=gKey_eq hk;obtain⟨k,e⟩:=q0;unfold Rep at rw';subst rw';obtain⟨a,u,rfl,sq,ru⟩:=three_at rv;have big:(1000:Nat)<=sizeLine:=by decide
 have len:tab.length=g.length:=by have:=congrArg List.length h.keys;simpa using this
 refine⟨.ref T,hi,T,rfl,⟨tab,.inl h.hT,h.ka.mono R.same⟩,.ref a,hj,a,_,1,.str k.1,rfl,rfl,Same.seqT R.same sq,rfl,.int k.2,hl,by show (2:Nat)<=sizeLine;decide,fun b hb=>⟨Nat.zero_le _,fun p hp=>?_⟩⟩
 have S1:=Step.alloc (o:=.tup [.str k.1,.int k.2]) R.same hb;have R1:=R.after S1;have h1:=h.step S1;have ru1:=Rep.mono S1.s0 _ ru;have sq1:SqT K (upd H b (.tup [.str k.1,.int k.2])) a [.int t,.str k.1,u]:=Same.seqT (S1.s0.trans S1.s') sq;have Tp:T≠p:=fun z=>by rw[<- z,h1.hT] at hp;cases hp
 have bp:b≠p:=fun z=>by rw[<- z,upd_same] at hp;cases hp
 have ep:c.He p=none:=by
  cases z:c.He p with
  |none=>rfl
  |some o =>
   by_cases hA:p∈c.Ap
   ·exact absurd hp (R1.apt p hA)
   ·rw[R1.keep p o z hA] at hp;cases hp
 have h0p:upd H0 b (.tup [.str k.1,.int k.2]) p=none:=by
  cases z:upd H0 b (.tup [.str k.1,.int k.2]) p with
  |none=>rfl
  |some o=>rw[R1.same p o z] at hp;cases hp
 generalize hH1:upd H b (.tup [.str k.1,.int k.2])=H1 at R1 h1 sq1 hp
 generalize hG0:upd H0 b (.tup [.str k.1,.int k.2])=G0 at R1 h1 ru1 h0p
 have hb0:G0 b=some (.tup [.str k.1,.int k.2]):=by rw[<- hG0,upd_same]
 have s01:Same H0 G0:=by rw[<- hG0];exact S1.s0
 have pn:∀ {x:Addr}{w:HO},H1 x=some w->x≠p:=fun q z=>by rw[z,hp] at q;cases q
 refine⟨tab,k,b,by rw[upd_ne Tp];exact h1.hT,fun x hx=>by rw[upd_ne (pn (R1.same _ _ (h1.ka x hx)))];exact R1.same _ _ (h1.ka x hx),rfl,by rw[upd_ne bp];exact R1.same _ _ hb0,by have:=few.1;omega,fun w hw=>?_,fun hw=>?_⟩
 ·rcases grpT_val e k g tab h.keys with ⟨g1,g2⟩ | ⟨i',r,ds,g1,g2,g3,g4⟩
  ·rw[g1] at hw;cases hw
  ·rw[g3] at hw;cases hw
   obtain⟨x,ws,k1,k2,k3,k4,k5⟩:=h1.ats i' r _ g1 g2;have xp:=pn k2;have xw:(upd H1 p (.lst [])) x=some (.lst ws):=by rw[upd_ne xp];exact k2
   rw[k1];refine⟨.inl ⟨rfl,_,SqL.of xw⟩,.ref a,hj,a,[.int t,.str k.1,u],2,u,rfl,rfl,?_,rfl,x,ws,u,rfl,rfl,xw,?_,q G0 _ tab s01 ?_ ?_⟩
   ·refine Same.seqT (fun y o e=>?_) sq1
    rw[upd_ne (pn e)];exact e
   ·rw[<- k3.length];have:=few.2 _ (List.mem_of_getElem? g2);have this:ds.length<=n:=this;show ds.length<_;omega
   ·rw[g4]
    refine h1.app g1 g2 k1 k2 ru1 upd_same fun y o e ne=>?_
    rw[upd_ne ne,upd_ne (pn e)];exact e
   ·refine R1.move no (fun y o e f=>?_) fun y e z=>?_
    ·have ne:y≠x:=fun z=>by
      rw[z] at f
      rcases f with f | f
      ·rw[k4] at f;cases f
      ·rw[k5] at f;cases f
     rw[upd_ne ne,upd_ne (pn e)];exact e
    ·by_cases y1:y=x
     ·rw[y1,upd_same] at z;cases z
     ·rw[upd_ne y1] at z
      by_cases y2:y=p
      ·rw[y2,upd_same] at z;cases z
      ·rw[upd_ne y2] at z;exact e z
 ·rcases grpT_val e k g tab h.keys with ⟨g1,g2⟩ | ⟨i',r,ds,g1,g2,g3,g4⟩
  ·have e1:(upd (upd H1 p (.lst [])) T (tdO T (tab++[(k,b,V.ref p)]))) p=some (.lst []):=by rw[upd_ne (Ne.symm Tp),upd_same]
   refine⟨.inl ⟨rfl,_,SqL.of e1⟩,.ref a,hj,a,[.int t,.str k.1,u],2,u,rfl,rfl,?_,rfl,p,[],u,rfl,rfl,e1,by show 0<sizeLine;omega,q G0 _ (tab++[(k,b,.ref p)]) s01 ?_ ?_⟩
   ·rcases sq1 with (z | ⟨o,z⟩) | z
    ·refine .inl (.inl ?_)
     have aT:a≠T:=fun y=>by rw[y,h1.hT] at z;cases z
     rw[upd_ne aT,upd_ne (pn z)];exact z
    ·refine .inl (.inr ⟨o,?_⟩)
     have aT:a≠T:=fun y=>by rw[y,h1.hT] at z;cases z
     rw[upd_ne aT,upd_ne (pn z)];exact z
    ·exact .inr z
   ·rw[g2]
    refine h1.new hp ep hb0 ru1 (by rw[upd_ne Tp,upd_same]) upd_same (fun x n1 n2=>by rw[upd_ne n2,upd_ne n1,upd_ne n2]) h0p
   ·refine R1.move no (fun y o e f=>?_) fun y e z=>?_
    ·have ne:y≠T:=fun z=>by
      rw[z] at f
      rcases f with f | f
      ·rw[h1.nT] at f;cases f
      ·rw[h1.eT] at f;cases f
     rw[upd_ne (pn e),upd_ne ne,upd_ne (pn e)];exact e
    ·by_cases y1:y=p
     ·rw[y1,upd_same] at z;cases z
     ·rw[upd_ne y1] at z
      by_cases y2:y=T
      ·rw[y2,upd_same] at z;cases z
      ·rw[upd_ne y2,upd_ne y1] at z;exact e z
  ·rw[g3] at hw;cases hw
end Fx
set_option maxRecDepth 100000
namespace Fx
open PySem PySem.Spec PyProof.Rows L2
theorem all_no {ρ:En} (h:ρ.all noOw=true):∀ (i:Nat) (b:Bool) (o:MO),ρ[i]?≠some (.ow b o):=fun i b o q=>by
 have:=List.all_eq_true.mp h _ (List.mem_of_getElem? q);cases this
theorem all_set {ρ:En}{j:Nat}{d:D} (h:ρ.all noOw=true):(ρ.set j (.im d)).all noOw=true:=by
 refine List.all_eq_true.mpr fun x hx=>?_
 rcases List.mem_or_eq_of_mem_set hx with hx | rfl
 ·exact List.all_eq_true.mp h x hx
 ·rfl
section
variable {K:PySem.W.Frag}{c:FC}{H0 H:Hp}{ρ:En}{σ:L2.St}{T:Addr}{g:List ((Str×Int)×List D)}{tab:Tab V}{i j l n:Nat}
theorem RS.lone (R:RS K c H0 H ρ σ) (no:ρ.all noOw=true):RS K ⟨H0,H,[]⟩ H0 H ρ σ :=
 ⟨R.same,Same.refl _,fun b o q=>.inl q,fun b o q _=>q,fun a ha=>by simp at ha,R.len,R.im,fun i b o q=>absurd q (all_no no i b o),fun i j b b' o o' a q=>absurd q (all_no no i b o)⟩
theorem lastIn_step {ws:List D}{m:Nat}{w:D} (h:ws[m]?=some w) (ρ:En):(lastIn l (ws.take m) ρ).set l (.im w)=lastIn l (ws.take (m+1)) ρ:=by
 have e:ws.take (m+1)=ws.take m++[w]:=by
  rw[List.take_succ,h];rfl
 have e2:lastIn l (ws.take (m+1)) ρ=ρ.set l (.im w):=by
  unfold lastIn;rw[e,List.getLast?_append];rfl
 rw[e2];unfold lastIn
 split
 ·rw[List.set_set]
 ·rfl
theorem lastIn_no {ws:List D}{ρ:En} (h:ρ.all noOw=true):(lastIn l ws ρ).all noOw=true:=by
 unfold lastIn
 split
 ·exact all_set h
 ·exact h
theorem lastIn_at {ws:List D}{ρ:En} (h:j≠l):(lastIn l ws ρ)[j]?=ρ[j]?:=by
 unfold lastIn
 split
 ·rw[List.getElem?_set_ne (Ne.symm h)]
 ·rfl
theorem lastIn_len {ws:List D}{ρ:En}:(lastIn l ws ρ).length=ρ.length:=by
 unfold lastIn
 split
 ·rw[List.length_set]
 ·rfl
theorem grpT_in {G:FE}{ρ2:En}{d:D}{ws:List D}{n':Nat}{g':List ((Str×Int)×List D)} (h:GT K c H0 H T g tab) (R:RS K c H0 H ρ σ) (no:ρ.all noOw=true) (few:TFew n g) (hd:ρ[j]?=some (.im d)) (hG:G ρ=some (.lst ws,ρ2)) (hg:gtIn d ws n g=some (n',g'))
  (hjl:j≠l) (hil:l≠i) (ll:l<ρ.length) (hi:σ[i]?=some (some (.ref T))) (Dn:Ends)
  (q:∀ H0' H' tab' σ',Same H0 H0'->GT K c H0' H' T g' tab'->TFew n' g'->RS K c H0' H' (lastIn l ws ρ) σ'->σ'[i]?=some (some (.ref T))->Dn.nx σ' H'):tFor (iList K (tE K G)) (gName l) (tbT K i j l) Dn σ H:=by
 refine⟨⟨H0,H,[]⟩,H0,ρ,.lst ws,ρ2,R.lone no,hG,fun v H1 Hh s1 R1 r1=>?_⟩
 have S:=R1.step;unfold Rep at r1;obtain⟨l',us,rfl,sq,rs⟩:=r1;have len:=rs.length;refine⟨l',rfl,⟨us,Same.seq R1.same sq⟩,fun m mm σ' H'=>mm=ws.length-m/\m<=ws.length/\∃ H0' tab' g1 n1,Same H1 H0'/\GT K c H0' H' T g1 tab'/\TFew n1 g1/\gtIn d (ws.drop m) n1 g1=some (n',g')/\RS K c H0' H' (lastIn l (ws.take m) ρ) σ'/\σ'[i]?=some (some (.ref T)),
  ⟨ws.length,rfl,Nat.zero_le _,H1,tab,g,n,Same.refl _,h.step S,few,hg,R.after S,hi⟩,?_⟩
 rintro m mm σ' H' ⟨rfl,hm,H0',tab',g1,n1,s',h1,few1,hg1,R2,hi2⟩;have sq2:SqL K H' l' us:=Same.seq (s'.trans R2.same) sq
 by_cases hlt:m<ws.length
 ·have hw:ws[m]?=some ws[m]:=List.getElem?_eq_getElem hlt
  obtain⟨u,hu,ru⟩:=rs.get hw;rw[drop_of hw] at hg1;obtain⟨⟨k,e⟩,hk,hg1⟩:=bnd_eq hg1;have hg0:(if n1<1000 then gtIn d (ws.drop (m+1)) (n1+1) (addGT k e g1) else none)=some (n',g'):=hg1
  by_cases hn:n1<1000
  case neg=>rw[if_neg hn] at hg0;cases hg0
  rw[if_pos hn] at hg0
  clear hg1
  have hg1:=hg0;refine .inr ⟨⟨us,u,sq2,hu⟩,fun σ'' H''=>∃ H0' tab' g1 n1,Same H1 H0'/\GT K c H0' H'' T g1 tab'/\TFew n1 g1/\gtIn d (ws.drop (m+1)) n1 g1=some (n',g')/\RS K c H0' H'' (lastIn l (ws.take (m+1)) ρ) σ''/\σ''[i]?=some (some (.ref T)),
   fun σ'' H'' ⟨a1,a2,a3,a4,a5⟩=>⟨ws.length-(m+1),by omega,rfl,hlt,a1,a2,a3,a4,a5⟩,fun x H'' hx=>?_⟩
  obtain⟨rfl,hx⟩:=hx;have:=hx us sq2;rw[hu] at this;cases this;show tbT K i j l _ (σ'.set l (some u)) H'';have R3:=R2.set l (Rep.mono s' _ ru);rw[lastIn_step hw] at R3;have no3:(lastIn l (ws.take (m+1)) ρ).all noOw=true:=lastIn_no no;obtain⟨vd,hvd,rvd⟩:=R3.im j d (by rw[lastIn_at hjl];exact hd)
  have ll2:l<σ'.length:=by rw[<- R2.len,lastIn_len];exact ll
  refine grpT_body h1 R3 (all_no no3) few1 hn rvd (Rep.mono s' _ ru) hk (by rw[List.getElem?_set_ne hil];exact hi2) hvd (by rw[List.getElem?_set_self ll2]) _ fun H0'' H3 tab'' s'' h2 R4=>?_
  exact⟨H0'',tab'',_,_,s'.trans s'',h2,tfew_add k e g1 few1,hg1,R4,by rw[List.getElem?_set_ne hil];exact hi2⟩
 ·have ne:m=ws.length:=by omega
  have hn2:ws.drop m=[]:=List.drop_eq_nil_of_le (by omega)
  rw[hn2] at hg1;have hg':some (n1,g1)=some (n',g'):=hg1;cases hg';refine .inl ⟨⟨us,sq2,by rw[<- len];omega⟩,?_⟩
  rw[ne,List.take_length] at R2;exact q H0' H' tab' σ' (s1.trans s') h1 few1 R2 hi2
theorem RS.no (R:RS K c H0 H ρ σ) (i:Nat):RS K c H0 H (ρ.set i .no) σ:=by
 have off:∀ {j:Nat}{sl:Sl},sl≠.no->(ρ.set i .no)[j]?=some sl->ρ[j]?=some sl:=fun {j sl} ne e=>by
  by_cases hj:i=j
  ·subst hj
   by_cases il:i<ρ.length
   ·rw[List.getElem?_set_self il] at e;cases e;exact absurd rfl ne
   ·rw[List.getElem?_eq_none (by rw[List.length_set];omega)] at e;cases e
  ·rwa [List.getElem?_set_ne hj] at e
 exact⟨R.same,R.init,R.fresh,R.keep,R.apt,by rw[List.length_set];exact R.len,fun j d q=>R.im j d (off (fun z=>nomatch z) q),fun j b o q=>R.ow j b o (off (fun z=>nomatch z) q),fun j k b b' o o' a q1 q2=>R.ne j k b b' o o' a (off (fun z=>nomatch z) q1) (off (fun z=>nomatch z) q2)⟩
noncomputable def adr:V->Option Addr
 |.ref a=>some a
 |_=>none
noncomputable def refsT (tab:Tab V):List Addr:=tab.filterMap fun r=>adr r.2.2
theorem refsT_mem {a:Addr} (h:a∈refsT tab):∃ (i:Nat) (r:(Str×Int)×Addr×V),tab[i]?=some r/\r.2.2=.ref a:=by
 obtain⟨r,hr,e⟩:=List.mem_filterMap.mp h;obtain⟨i,hi⟩:=List.getElem?_of_mem hr;refine⟨i,r,hi,?_⟩;unfold adr at e
 split at e
 ·rename_i h;cases e;exact h
 ·cases e
theorem refsT_of {i:Nat}{r:(Str×Int)×Addr×V}{a:Addr} (h:tab[i]?=some r) (e:r.2.2=.ref a):a∈refsT tab:=List.mem_filterMap.mpr ⟨r,List.mem_of_getElem? h,by rw[e];rfl⟩
theorem reps_tab {H':Hp}:∀ (g:List ((Str×Int)×List D)) (tab:Tab V),tab.map (·.1)=g.map (·.1)->(∀ (i:Nat) r q,tab[i]?=some r->g[i]?=some q->Rep K H' (.lst q.2) r.2.2)->Reps K H' ((gtD g).map (·.2)) (tab.map (·.2.2))
 |[],[],_,_=>Reps.nil_
 |[],_::_,e,_=>by cases e
 |_::_,[],e,_=>by cases e
 |q::g,r::tab,e,h=>by
  rw[List.map_cons,List.map_cons] at e;injection e with e1 e2
  exact Reps.cons (h 0 r q rfl rfl) (reps_tab g tab e2 fun i r' q' hr hq=>h (i+1) r' q' (by simpa using hr) (by simpa using hq))
theorem GT.fin (h:GT K c H0 H T g tab) (R:RS K c H0 H ρ σ) (no:ρ.all noOw=true) (hi:σ[i]?=some (some (.ref T))):∃ H0',Same H0 H0'/\RS K c H0' H (ρ.set i (.ow false (.dtu (gtD g)))) σ:=by
 have s0:Same H0 (fun b=>if b∈refsT tab then H b else H0 b):=fun b o e=>by
  have:¬ b∈refsT tab:=fun z=>by
   obtain⟨n,r,hr,er⟩:=refsT_mem z;obtain⟨a,ws,h1,h2,h3,h4⟩:=h.lst hr;rw[er] at h1;cases h1;rw[h3] at e;cases e
  show (if b∈refsT tab then H b else H0 b)=some o;rw[if_neg this];exact e
 have nTr:¬ T∈refsT tab:=fun z=>by
  obtain⟨n,r,hr,er⟩:=refsT_mem z;obtain⟨a,ws,h1,h2,h3,h4⟩:=h.lst hr;rw[er] at h1;cases h1;rw[h.hT] at h2;exact tdO_ne_lst h2
 have len:ρ.length=σ.length:=R.len;have il:i<ρ.length:=by rw[len];exact (List.getElem?_eq_some_iff.mp hi).1
 have off:∀ {j:Nat}{sl:Sl},j≠i->(ρ.set i (.ow false (.dtu (gtD g))))[j]?=some sl->ρ[j]?=some sl:=fun hj e=>by rwa [List.getElem?_set_ne (Ne.symm hj)] at e
 have on:∀ {sl:Sl},(ρ.set i (.ow false (.dtu (gtD g))))[i]?=some sl->sl=.ow false (.dtu (gtD g)):=fun e=>by rw[List.getElem?_set_self il] at e;exact (Option.some.inj e).symm
 refine⟨_,s0,⟨fun b o e=>?_,R.init.trans s0,fun b o e=>?_,R.keep,R.apt,by rw[List.length_set];exact len,fun j d e=>?_,fun j b o e=>?_,fun j k b b' o o' a e1 e2 _ _=>?_⟩⟩
 ·have e':(if b∈refsT tab then H b else H0 b)=some o:=e
  by_cases z:b∈refsT tab
  ·rw[if_pos z] at e';exact e'
  ·rw[if_neg z] at e';exact R.same b o e'
 ·have e':(if b∈refsT tab then H b else H0 b)=some o:=e
  by_cases z:b∈refsT tab
  ·obtain⟨n,r,hr,er⟩:=refsT_mem z
   obtain⟨a,ws,h1,h2,h3,h4⟩:=h.lst hr;rw[er] at h1;cases h1;exact .inr h4
  ·rw[if_neg z] at e';exact R.fresh b o e'
 ·by_cases hj:j=i
  ·subst hj;cases on e
  ·obtain⟨v,a1,a2⟩:=R.im j d (off hj e)
   exact⟨v,a1,Rep.mono s0 _ a2⟩
 ·by_cases hj:j=i
  ·subst hj
   cases on e;refine⟨T,hi,?_,h.eT,tab,h.hT,by rw[h.keys];unfold gtD;rw[List.map_map];rfl,h.ka.mono s0,reps_tab g tab h.keys fun n r q hr hq=>?_⟩
   ·show (if T∈refsT tab then H T else H0 T)=none
    rw[if_neg nTr];exact h.nT
   ·obtain⟨a,ws,h1,h2,h3,_,_⟩:=h.ats n r q hr hq
    rw[h1];unfold Rep;refine⟨a,ws,rfl,.inl (.inl ?_),Reps.mono s0 _ h3⟩;show (if a∈refsT tab then H a else H0 a)=_;rw[if_pos (refsT_of hr h1)];exact h2
  ·exact absurd (off hj e) (all_no no j b o)
 ·by_cases hj:j=i
  ·by_cases hk:k=i
   ·rw[hj,hk]
   ·exact absurd (off hk e2) (all_no no k b' o')
  ·exact absurd (off hj e1) (all_no no j b o)
end
end Fx
set_option maxRecDepth 100000
namespace Fx
open PySem PySem.Spec PyProof.Rows L2
theorem lsX_eq {d:D}{xs:List D} (h:lsX d=some xs):d=.lst xs:=by
 unfold lsX at h
 split at h
 ·cases h;rfl
 ·cases h
section
variable {X:Cx}{pos pos2:Pos}{iter iter2:Expr}{F G:FE}{body:List Stmt}
theorem xgrpT (i j l:Nat) {x y:Str}{px py:Pos} (hN:X.N.Nodup) (hi:XE X iter F) (hi2:XE X iter2 G) (hb:PSs X body (tbT X.K i j l)) (hx:X.N[j]?=some x:=by rfl) (hlx:Loc X.env.scope x:=by first | exact Or.inl rfl | exact Or.inr rfl)
  (hfx:X.fn x=true\/X.env.scope.names.lookup x=some .local:=by first | exact .inl rfl | exact .inr rfl) (hy:X.N[l]?=some y:=by rfl) (hly:Loc X.env.scope y:=by first | exact Or.inl rfl | exact Or.inr rfl)
  (hfy:X.fn y=true\/X.env.scope.names.lookup y=some .local:=by first | exact .inl rfl | exact .inr rfl) (hp:PassesOwn (model X.prog X.w) X.A X.env X.xe:=by exact PassesOwn.never) (hc:X.calm=true:=by rfl)
  (hs:∀ x,foldedSetIterable iter X.env x=pure x:=by intro _;rfl) (hs2:∀ x,foldedSetIterable iter2 X.env x=pure x:=by intro _;rfl) :
  XS X (.For (.Name x px) iter [.For (.Name y py) iter2 body [] pos2] [] pos) (sGT i j l F G) :=
 PS.wk (ps_for hp hc (pi_list hi) (pg_name hN hx hlx hfx) (pss_one (ps_for hp hc (pi_list hi2) (pg_name hN hy hly hfy) hb hs2)) hs) fun Dn σ H hh0_=>by
  obtain⟨c,H0,ρ,r,R,f,q⟩:=hh0_;unfold sGT sGTz at f;obtain⟨⟨dd,ρ1⟩,h1,f⟩:=bnd_eq f;unfold sGTa at f;obtain⟨xs,h2,f⟩:=bnd_eq f;obtain⟨kds,h3,f⟩:=bnd_eq f;cases kds with
  |cons _ _=>cases f
  |nil =>
  have f0:sGTb i j l ρ1 xs G=some r:=f;unfold sGTb at f0
  by_cases hcc:j≠i/\l≠i/\j≠l/\i<ρ1.length/\j<ρ1.length/\l<ρ1.length/\(ρ1.set i .no).all noOw=true
  case neg=>rw[if_neg hcc] at f0;cases f0
  rw[if_pos hcc] at f0;obtain⟨nji,nli,njl,il,jl,ll,no⟩:=hcc;obtain⟨⟨ρF,gF⟩,h4,f1⟩:=bnd_eq f0;have f2:some (Res.nx (ρF.set i (.ow false (.dtu (gtD gF)))))=some r:=f1;cases f2;have hd:=lsX_eq h2;have hd:dd=.lst xs:=hd;subst hd;refine⟨c,H0,ρ,_,ρ1,R,h1,fun v H1 Hh s1 R1 r1=>?_⟩
  unfold Rep at r1;obtain⟨a,ws,rfl,sq,rs⟩:=r1;have z:=owU_eq h3;obtain⟨T,ht,hT0,eT,tab0,e4,ek,_,_⟩:=R1.ow i _ _ z;have t0:tab0=[]:=by cases tab0 with
   |nil=>rfl
   |cons _ _=>cases ek
  subst t0;have len:=rs.length;have g0:GT X.K c H1 Hh T [] []:=⟨e4,hT0,eT,rfl,(fun x hx=>by cases hx),(fun i r q hr=>by simp at hr),List.nodup_nil⟩
  refine⟨a,rfl,⟨ws,Same.seq R1.same sq⟩,fun n m σ' H'=>m=xs.length-n/\n<=xs.length/\∃ H0' tab' g1 n1 ρ',Same H1 H0'/\GT X.K c H0' H' T g1 tab'/\TFew n1 g1/\gtOut j l G (xs.drop n) ρ' n1 g1=some (ρF,gF)/\RS X.K c H0' H' ρ' σ'/\ρ'.all noOw=true/\ρ'.length=ρ1.length/\σ'[i]?=some (some (.ref T)),
   ⟨xs.length,rfl,Nat.zero_le _,H1,[],[],0,ρ1.set i .no,Same.refl _,g0,⟨Nat.le_refl _,fun q hq=>by cases hq⟩,h4,R1.no i,no,List.length_set ..,ht⟩,?_⟩
  rintro n m σ' H' ⟨rfl,hn,H0',tab',g1,n1,ρ',s',h5,few,hg,R2,no2,len2,hi2⟩;have sq2:SqL X.K H' a ws:=Same.seq (s'.trans R2.same) sq
  by_cases hlt:n<xs.length
  ·have hw:xs[n]?=some xs[n]:=List.getElem?_eq_getElem hlt
   obtain⟨u,hu,ru⟩:=rs.get hw;rw[drop_of hw] at hg;obtain⟨⟨dw,ρ2⟩,k1,hg⟩:=bnd_eq hg;obtain⟨wl,k2,hg1⟩:=bnd_eq hg;obtain⟨⟨n2,g2⟩,k3,hg2⟩:=bnd_eq hg1;have k2':dw=.lst wl:=lsX_eq k2;subst k2';refine .inr ⟨⟨ws,u,sq2,hu⟩,fun σ'' H''=>∃ H0' tab' g1 n1 ρ',Same H1 H0'/\GT X.K c H0' H'' T g1 tab'/\TFew n1 g1/\gtOut j l G (xs.drop (n+1)) ρ' n1 g1=some (ρF,gF)/\RS X.K c H0' H'' ρ' σ''/\ρ'.all noOw=true/\ρ'.length=ρ1.length/\σ''[i]?=some (some (.ref T)),
    fun σ'' H'' ⟨a1,a2,a3,a4,a5,a6⟩=>⟨xs.length-(n+1),by omega,rfl,hlt,a1,a2,a3,a4,a5,a6⟩,fun x H'' hx=>?_⟩
   obtain⟨rfl,hx⟩:=hx;have:=hx ws sq2;rw[hu] at this;cases this;have R3:=R2.set j (Rep.mono s' _ ru);have no3:(ρ'.set j (.im xs[n])).all noOw=true:=all_set no2;show tFor (iList X.K (tE X.K G)) (gName l) (tbT X.K i j l) _ (σ'.set j (some u)) H'';refine grpT_in h5 R3 no3 few (by rw[List.getElem?_set_self (by omega)]) k1 k3 njl nli (by rw[List.length_set];omega) (by rw[List.getElem?_set_ne nji];exact hi2) _ fun H0'' H3 tab'' σ3 s'' h6 few2 R4 hi3=>?_
   exact⟨H0'',tab'',g2,n2,_,s'.trans s'',h6,few2,hg2,R4,lastIn_no no3,by rw[lastIn_len,List.length_set];exact len2,hi3⟩
  ·have hn2:xs.drop n=[]:=List.drop_eq_nil_of_le (by omega)
   rw[hn2] at hg;have hg':some (ρ',g1)=some (ρF,gF):=hg;cases hg';obtain⟨H0'',s3,R3⟩:=h5.fin R2 no2 hi2;exact .inl ⟨⟨ws,sq2,by rw[<- len];omega⟩,q _ H0'' H' (s1.trans (s'.trans s3)) R3⟩
theorem xgbody (i j l:Nat) {x y z:Str}{p1 p2 p3 p4 p5 p6 p7 p8 p9 p10 p11 p12 p13 p14 p15:Pos}{c1 c2 x1:Nat} (hu:X.A.units+1<cLine)
  (hx:X.N[j]?=some x:=by rfl) (hvx:Vis X.env.scope x:=by first | exact Or.inl rfl | exact Or.inr (Or.inl rfl) | exact Or.inr (Or.inr rfl)) (hdx:(x==("__debug__":Str))=false:=by decide) (hcx:(x==("__classdict__":Str))=false:=by decide)
  (hy:X.N[l]?=some y:=by rfl) (hvy:Vis X.env.scope y:=by first | exact Or.inl rfl | exact Or.inr (Or.inl rfl) | exact Or.inr (Or.inr rfl)) (hdy:(y==("__debug__":Str))=false:=by decide) (hcy:(y==("__classdict__":Str))=false:=by decide)
  (hz:X.N[i]?=some z:=by rfl) (hvz:Vis X.env.scope z:=by first | exact Or.inl rfl | exact Or.inr (Or.inl rfl) | exact Or.inr (Or.inr rfl)) (hdz:(z==("__debug__":Str))=false:=by decide) (hcz:(z==("__classdict__":Str))=false:=by decide)
  (m:M2 X (.Name z p1) "setdefault" p2 (.Tuple [.Subscript (.Name x p3) (.Constant (.int 1) c1 p4) p5,.Name y p6] x1 p7) (.List [] p8) p9:=by exact⟨rfl,rfl,rfl,rfl⟩)
  (st1:starEach [.Subscript (.Name x p3) (.Constant (.int 1) c1 p4) p5,.Name y p6] X.env=(false,eval (.Subscript (.Name x p3) (.Constant (.int 1) c1 p4) p5) X.env)::starEach [.Name y p6] X.env:=by rfl)
  (st2:starEach [.Name y p6] X.env=(false,eval (.Name y p6) X.env)::starEach [] X.env:=by rfl)
  (hbase:attributeBase (.Call (.Attribute (.Name z p1) "setdefault" p2) [.Tuple [.Subscript (.Name x p3) (.Constant (.int 1) c1 p4) p5,.Name y p6] x1 p7,.List [] p8] [] p9) "append" X.env (eval (.Call (.Attribute (.Name z p1) "setdefault" p2) [.Tuple [.Subscript (.Name x p3) (.Constant (.int 1) c1 p4) p5,.Name y p6] x1 p7,.List [] p8] [] p9) X.env)=eval (.Call (.Attribute (.Name z p1) "setdefault" p2) [.Tuple [.Subscript (.Name x p3) (.Constant (.int 1) c1 p4) p5,.Name y p6] x1 p7,.List [] p8] [] p9) X.env:=by rfl)
  (hfew:((backTo p14 (starEach [.Subscript (.Name x p11) (.Constant (.int 2) c2 p12) p13] X.env)).all (fun x=>!x.1)&&(backToKw p14 (keywordEach [] X.env)).all (fun x=>x.1.isSome)&&decide ([Expr.Subscript (.Name x p11) (.Constant (.int 2) c2 p12) p13].length+([]:List Keyword).length+(if ([]:List Keyword).isEmpty then 0 else 1)<30))=true:=by rfl)
  (hline:(p10.endLine==p14.line)=true:=by rfl) (hst:starEach [.Subscript (.Name x p11) (.Constant (.int 2) c2 p12) p13] X.env=(false,eval (.Subscript (.Name x p11) (.Constant (.int 2) c2 p12) p13) X.env)::starEach [] X.env:=by rfl) (hpl:(backTo p14 (starEach [] X.env)).any (·.1)=false:=by rfl)
  (hsw:swapsWith (.Call (.Attribute (.Call (.Attribute (.Name z p1) "setdefault" p2) [.Tuple [.Subscript (.Name x p3) (.Constant (.int 1) c1 p4) p5,.Name y p6] x1 p7,.List [] p8] [] p9) "append" p10) [.Subscript (.Name x p11) (.Constant (.int 2) c2 p12) p13] [] p14) none p15.line X.env=pure false:=by rfl) :
  PSs X [.Expr (.Call (.Attribute (.Call (.Attribute (.Name z p1) "setdefault" p2) [.Tuple [.Subscript (.Name x p3) (.Constant (.int 1) c1 p4) p5,.Name y p6] x1 p7,.List [] p8] [] p9) "append" p10) [.Subscript (.Name x p11) (.Constant (.int 2) c2 p12) p13] [] p14) p15] (tbT X.K i j l) :=
 pss_one (ps_expr (pe_bm PySem.F.plainAttrs_list PySem.F.slot_list_append PySem.F.type_list_append mt_append (pe_tsd hu (pe_var hz hvz hdz hcz) (pe_tup (pa_cons (pe_ix ix_tup (pe_var hx hvx hdx hcx) pe_int (fun _ _=>rfl)) (pa_cons (pe_var hy hvy hdy hcy) pa_nil st2) st1)) (pe_lst pa_nil) m)
  (pa_cons (pe_ix ix_tup (pe_var hx hvx hdx hcx) pe_int (fun _ _=>rfl)) pa_nil hst) hbase hfew hline hst hpl) hsw)
end
end Fx
set_option maxRecDepth 100000
namespace Fx
open PySem PySem.W PySem.Spec PyProof.Rows L2
section
variable {X:Cx}{pins:List (Addr×Obj)}{σ:L2.St}{H:Hp}{s:Shared}
noncomputable def rSortG (K:Frag) (sh:D->Bool):List V->Hp->VK->Prop:=fun xs H Q=>∃ p ds vs H0,xs=[.ref p]/\SqL K H p vs/\Same H0 H/\Reps K H0 ds vs/\ds.length<=1000/\ds.all sh=true/\∀ l vs',H l=none->Reps K H0 (sortT ds) vs'->Q (.ref l) (upd H l (.lst vs'))
structure SortSh (X:Cx) (sh:D->Bool):Prop where
 inj:∀ {a b:D},sh a=true->sh b=true->fK a=fK b->a=b
 same:∀ {pins:List (Addr×Obj)}{σ:L2.St}{H:Hp}{s:Shared},Inv X pins σ H s->∀ {d e:D},sh d=true->sh e=true->∀ {x:V},Rep X.K H d x->Rep X.K H e x->d=e
 asks:∀ {σ:L2.St}{H:Hp}{ds:List D}{vs:List V}{its:List Value},ds.all sh=true->Reps X.K H ds vs->Vals vs its->∃ κ:SortKind,(∀ (pins:List (Addr×Obj)) (s:Shared),Inv X pins σ H s->2<=its.length->∀ Q:SortKind->Shared->Prop,Q κ s->wpAny (model X.prog X.w) X.A.in1.in1 (keyKind' its.toArray) Q (fun _ _=>False) s) /\
   ∀ (pins:List (Addr×Obj)) (s:Shared),Inv X pins σ H s->∀ i j,i<ds.length->j<ds.length->∀ Q:Bool->Shared->Prop,Q (decide (fK (ds.getD i .non)<fK (ds.getD j .non))) s->kas_ask X.prog X.w X.A.in1.in1 κ its i j Q s
theorem call_sortG {sh:D → Bool} (S:SortSh X sh):CallR X (.builtin "sorted") (rSortG X.K sh):=by
 intro pins s σ H xs us Q I r h;obtain⟨p,ds,vs,H0,rfl,sq,sm,rp0,h64,al,q⟩:=h;have rp:Reps X.K H ds vs:=Reps.mono sm _ rp0;obtain⟨u,rfl,ru⟩:=vals1 r;cases ru;obtain⟨its,rv,⟨ob,n,h1,h2,h3,h4⟩,_⟩:=I.list sq;have len:its.length=ds.length:=by rw[<- rv.length,<- rp.length]
 have inj:∀ a b,a∈ds->b∈ds->fK a=fK b->a=b:=fun a b ha hb e=>S.inj (List.all_eq_true.mp al a ha) (List.all_eq_true.mp al b hb) e
 have mem:∀ i,i<ds.length->ds.getD i .non∈ds:=fun i hi=>by
  rw[List.getD_eq_getElem?_getD,List.getElem?_eq_getElem hi];exact List.getElem_mem hi
 obtain⟨κ,kd,ak⟩:=S.asks (σ:=σ) al rp rv;have big:(1000:Nat)<=sizeLine:=by decide
 refine sorted_any (κ:=κ) (r:=rankK ds.length fun i=>fK (ds.getD i .non)) h1 h2 h4 (by omega) (fun i j hi hj e=>?_) (fun g a kp na=>?_) fun g1 g2 pm e op mo k1 k2 at2=>?_
 ·obtain⟨x,rx,ux⟩:=reps_get rp rv (i:=i) (by omega)
  obtain⟨y,ry,uy⟩:=reps_get rp rv (i:=j) (by omega)
  rw[<- e] at uy;obtain rfl:=RelV.inj ux uy;have:ds.getD i .non=ds.getD j .non:=S.same I (List.all_eq_true.mp al _ (mem i (by omega))) (List.all_eq_true.mp al _ (mem j (by omega))) rx ry
  exact rank_congr (key:=fun i=>fK (ds.getD i .non)) (congrArg fK this)
 ·have up:∀ g':Heap,(∀ b o,b≠a->g.get? b=some o->g'.get? b=some o)->∀ b o,s.heap.get? b=some o->g'.get? b=some o:=fun g' k b o z=>k b o (fun y=>by rw[y,na] at z;cases z) (kp b o z)
  refine⟨fun l2 g' k Q q=>kd pins _ (I.kept (t':=s.toks) (up g' k)) l2 Q q,fun g' k i j hi hj C q=>ak pins _ (I.kept (t':=s.toks) (up g' k)) i j (by omega) (by omega) C ?_⟩
  have ri:=rank_iff (n:=ds.length) (key:=fun i=>fK (ds.getD i .non)) (i:=i) (j:=j) (by omega)
  rw[<- decide_eq_decide.mpr ri];exact q
 ·have I1:Inv X pins σ H {s with heap:=g1}:=I.kept (t':=s.toks) k1
  rw[len] at op mo;have below:∀ i∈pm.toList,i<ds.length:=fun i hi=>List.mem_range.mp (op.perm.mem_iff.mp hi)
  obtain⟨ws,w1,w2⟩:=reps_perm rp0 rv below
  have srt:(pm.toList.map fun i=>ds.getD i .non)=sortT ds:=by
   refine sortT_uniq inj ?_ ?_
   ·have e1:=op.perm.map fun i=>ds.getD i .non
    have e2:(List.range ds.length).map (fun i=>ds.getD i .non)=ds:=by
     refine List.ext_getElem (by simp) fun i h1 h2=>?_
     simp[h2]
    rw[e2] at e1;exact e1
   ·rw[List.pairwise_map,List.pairwise_iff_getElem]
    intro i j hi hj hij;have szp:pm.toList.length=ds.length:=by rw[Array.length_toList,op.size]
    have m1:=mo i j (Nat.le_of_lt hij) (by omega)
    have gi:pm.getD i 0=pm.toList[i]:=by
     rw[Array.getD_eq_getD_getElem?,<- Array.getElem?_toList,List.getElem?_eq_getElem hi];rfl
    have gj:pm.getD j 0=pm.toList[j]:=by
     rw[Array.getD_eq_getD_getElem?,<- Array.getElem?_toList,List.getElem?_eq_getElem hj];rfl
    unfold KP at m1;rw[gi,gj] at m1;refine decide_eq_false fun z=>?_
    have:=(rank_iff (n:=ds.length) (key:=fun i=>fK (ds.getD i .non)) (i:=pm.toList[j]) (j:=pm.toList[i]) (below _ (List.getElem_mem hj))).mpr z
    omega
  rw[srt] at w1
  have hz:ws.length<=sizeLine:=by
   have:=w1.length;rw[(sortT_perm ds).length_eq] at this;omega
  exact⟨.ref g1.objs.size,_,I1.laid (t':=s.toks) (o:=.lst ws) k2 (Nat.le_refl _) ⟨hz,_,e,w2,at2⟩,rfl,q _ _ (I1.hok.fresh (Nat.le_refl _)) w1⟩
theorem callSortG {sh:D → Bool} (S:SortSh X sh):BOk X (.builtin "sorted") (bSortG sh):=⟨_,call_sortG S,fun c H0 H ρ σ ds d vs Q R r e q=>by
 unfold bSortG at e
 split at e
 ·rename_i xs
  obtain⟨⟨h64,al⟩,rfl⟩:=ifs e;obtain⟨v,rfl,rv⟩:=Reps.v1 r;unfold Rep at rv;obtain⟨p,ws,rfl,sq,t⟩:=rv;refine⟨p,xs,ws,H0,rfl,Same.seq R.same sq,R.same,t,h64,al,fun l ws' hl r'=>?_⟩
  have S:=Step.alloc (o:=.lst ws') R.same hl;refine q _ _ _ S.s0 (R.after S) ?_;unfold Rep;exact⟨l,ws',rfl,.inl (.inl upd_same),Reps.mono S.s0 _ r'⟩
 ·cases e⟩
theorem r21_eq {d:D} (h:r21 d=true):∃ a i j,d=.tup [.tup [.str a,.int i],.int j]:=by
 unfold r21 at h
 split at h
 ·exact⟨_,_,_,rfl⟩
 ·cases h
theorem fK_21 (x:List D) (j:Int):fK (.tup [.tup x,.int j])=fK (.tup [.tup x,.tup [.int j]]):=by
 have e:∀ y:D,fK (.tup [.tup x,y])=fKs x++fK y:=fun y=>by rw[fK_tup,fKs_cons,fKs_cons,fK_tup,fKs_nil,List.append_nil]
 have e2:fK (.tup [.int j])=fK (.int j):=by rw[fK_tup,fKs_cons,fKs_nil,List.append_nil]
 rw[e,e,e2]
theorem r21_inj {a b:D} (ha:r21 a=true) (hb:r21 b=true) (h:fK a=fK b):a=b:=by
 obtain⟨x,i,j,rfl⟩:=r21_eq ha;obtain⟨x',i',j',rfl⟩:=r21_eq hb;have e:∀ x y:List D,fK (.tup [.tup x,.tup y])=fKs x++fKs y:=fun x y=>by rw[fK_tup,fKs_cons,fKs_cons,fK_tup,fK_tup,fKs_nil,List.append_nil]
 rw[fK_21,fK_21,e,e] at h;obtain⟨h1,h2⟩:=List.append_inj h (sameFs_len (ds:=[.str x,.int i]) (es:=[.str x',.int i']) rfl).2;have h3:=(sameFs_inj (ds:=[.int j]) (es:=[.int j']) rfl).mp h2;rw[(sameFs_inj (ds:=[.str x,.int i]) (es:=[.str x',.int i']) rfl).mp h1,(List.cons.inj h3).1]
theorem r21_same (I:Inv X pins σ H s) {d e:D} (hd:r21 d=true) (he:r21 e=true) {x:V} (r1:Rep X.K H d x) (r2:Rep X.K H e x):d=e:=by
 obtain⟨a,i,j,rfl⟩:=r21_eq hd;obtain⟨a',i',j',rfl⟩:=r21_eq he;obtain⟨ws,q1,q2⟩:=tup_same I r1 r2;obtain⟨v1,v2,rfl,p1,p2⟩:=Reps.v2 q1;obtain⟨v1',v2',e1,p1',p2'⟩:=Reps.v2 q2;obtain⟨rfl,e2⟩:=List.cons.inj e1;obtain⟨rfl,_⟩:=List.cons.inj e2;obtain⟨ws1,m1,m2⟩:=tup_same I p1 p1';obtain⟨x1,x2,rfl,n1,n2⟩:=Reps.v2 m1;obtain⟨y1,y2,f1,n1',n2'⟩:=Reps.v2 m2;obtain⟨rfl,f2⟩:=List.cons.inj f1;obtain⟨rfl,_⟩:=List.cons.inj f2;unfold Rep at n1 n1' n2 n2' p2 p2';rw[n1] at n1';rw[n2] at n2';rw[p2] at p2';cases n1';cases n2';cases p2';rfl
theorem lex_21 {x y:List D}{j j':Int} (h:sameFs x y=true):(if eqD (.tup x) (.tup y)=true then lexF [.int j] [.int j'] else lexF x y)=decide (fK (.tup [.tup x,.int j])<fK (.tup [.tup y,.int j'])):=by
 rw[fK_21,fK_21,<- two_lt h (show sameFs [.int j] [.int j']=true from rfl)]
 split
 ·split
  ·rename_i z
   rw[eqD_tup_tup] at z;have:=(eqDs_iff (show sameFs [.int j] [.int j']=true from rfl)).mp z;rw[this,lexF_lt (show sameFs [.int j'] [.int j']=true from rfl)];exact decide_eq_false (List.lt_irrefl _)
  ·rfl
 ·rfl
theorem ask21 {A:Around}{Q:Bool->Shared->Prop}{E:Value->Shared->Prop} (hA:A.units+8<cLine) (I:Inv X pins σ H s) {d e:D} (hd:r21 d=true) (he:r21 e=true) {x y:V}{u v:Value} (r1:Rep X.K H d x) (v1:RelV x u) (r2:Rep X.K H e y) (v2:RelV y v)
  (q:Q (decide (fK d<fK e)) s):wpAny (model X.prog X.w) A (keyLt' (tuples' false) u v) Q E s:=by
 obtain⟨a,i,j,rfl⟩:=r21_eq hd;obtain⟨a',i',j',rfl⟩:=r21_eq he;obtain⟨p1,ws,its,rfl,⟨o,ho,hc,n,hdt⟩,rr,rv⟩:=tup_at I r1 v1;obtain⟨p2,ws',its',rfl,⟨o',ho',hc',n',hdt'⟩,rr',rv'⟩:=tup_at I r2 v2;have s1:sameFs [.str a,.int i] [.str a',.int i']=true:=rfl
 have fl:∀ (a:Str) (i:Int),∀ d∈[D.str a,.int i],∃ e,sameF d e=true:=fun a i d hd=>by
  rcases List.mem_cons.mp hd with rfl | hd
  ·exact⟨.str a,rfl⟩
  ·rw[List.mem_singleton.mp hd];exact⟨.int 0,rfl⟩
 rw[<- lex_21 s1] at q;obtain⟨x1,x2,rfl,q1,q3⟩:=Reps.v2 rr;obtain⟨y1,y2,rfl,q2,q4⟩:=Reps.v2 rr';cases rv with
 |cons c1 rv =>
  cases rv with
  |cons c2 rv =>
   cases rv;cases rv' with
   |cons c3 rv' =>
    cases rv' with
    |cons c4 rv' =>
     cases rv'
     rename_i u1 u2 w1 w2
     have E1:SeqAt.EqAt A s u1 w1 (eqD (.tup [.str a,.int i]) (.tup [.str a',.int i'])):=eqNall I 3 A _ _ x1 y1 u1 w1 (by simp) (by simp) (by simp) (by omega) q1 c1 q2 c3
     have f1:=flats_of (mem1 ⟨.int 0,rfl⟩) (Reps.one q3) (Paired.cons c2 .nil);have f2:=flats_of (mem1 ⟨.int 0,rfl⟩) (Reps.one q4) (Paired.cons c4 .nil);refine kat_lt ho hdt ho' hdt' (lex_step (l:=lexF [.str a,.int i] [.str a',.int i']) (fin:=false) E1 (fun Q' q'=>?_) (fun z=>katlex_flat [.int j] [.int j'] rfl f1 f2 ?_) fun z=>?_)
     ·obtain⟨a1,_,i1,rfl,tp1,m1,m2⟩:=tup_at I q1 c1
      obtain⟨a2,_,i2,rfl,tp2,m3,m4⟩:=tup_at I q2 c3;exact kat_one _ _ (lt_tupFlat tp1 tp2 (flats_of (fl a i) m1 m2) (flats_of (fl a' i') m3 m4) s1 (by omega) q')
     ·rw[if_pos z] at q;exact q
     ·rw[if_neg (by rw[z];exact Bool.false_ne_true)] at q;exact q
theorem sh_21 (hu:X.A.units+64<cLine):SortSh X r21 where
 inj:=r21_inj
 same:=fun I _ _ hd he _ r1 r2=>r21_same I hd he r1 r2
 asks:=fun {σ H ds vs its} al rp rv=>by
  have inn:X.A.in1.in1.units+8<cLine:=by
   have e:X.A.in1.in1.units<=X.A.units+2:=by simp[Around.in1,Around.units]
   omega
  have len:its.length=ds.length:=by rw[<- rv.length,<- rp.length]
  have mem:∀ i,i<ds.length->ds.getD i .non∈ds:=fun i hi=>by
   rw[List.getD_eq_getElem?_getD,List.getElem?_eq_getElem hi];exact List.getElem_mem hi
  refine⟨tuples' (Value.type "tuple" != Value.type "tuple"),fun pins s I' l2 Q q=>?_,fun pins s I' i j hi hj Q q=>?_⟩
  ·obtain⟨fs,k1,k2,k3⟩:=firsts (T:=.type "tuple") I' (fun d hd=>by
    obtain⟨a,i,j,rfl⟩:=r21_eq (List.all_eq_true.mp al d hd);refine⟨_,_,rfl,fun x u rx ru=>?_⟩
    obtain⟨_,_,_,rfl,tp,_⟩:=tup_at I' rx ru;exact looks_tup tp) rp rv
   exact kat_kind k1 (by omega) k3 rfl q
  ·obtain⟨x,rx,ux⟩:=reps_get rp rv hi
   obtain⟨y,ry,uy⟩:=reps_get rp rv hj;exact ask21 inn I' (List.all_eq_true.mp al _ (mem i hi)) (List.all_eq_true.mp al _ (mem j hj)) rx ux ry uy q
end
end Fx
set_option maxRecDepth 100000
namespace Fx
open PySem PySem.Spec PyProof.Rows L2
noncomputable def rRg2:List V->Hp->VK->Prop:=fun xs H Q=>∃ i j:Int,xs=[.int i,.int j]/\∀ p,H p=none->Q (.ref p) (upd H p (.rng i j))
noncomputable def rLrg:List V->Hp->VK->Prop:=fun xs H Q=>∃ (p:Addr) (i j:Int),xs=[.ref p]/\H p=some (.rng i j)/\(-(2 ^ 62)<=i/\i<2 ^ 62/\-(2 ^ 62)<=j/\j<2 ^ 62)/\(j-i).toNat<=1000 /\
 ∀ l,H l=none->Q (.ref l) (upd H l (.lst ((List.range (j-i).toNat).map fun k:Nat=>V.int (i+k))))
theorem vals_at:∀ {xs:List V}{us:List Value},xs.length=us.length->(∀ (n:Nat) x u,xs[n]?=some x->us[n]?=some u->RelV x u)->Vals xs us
 |[],[],_,_=>.nil
 |[],_::_,e,_=>by cases e
 |_::_,[],e,_=>by cases e
 |x::xs,u::us,e,h=>.cons (h 0 x u rfl rfl) (vals_at (by simpa using e) fun n y v a b=>h (n+1) y v (by simpa using a) (by simpa using b))
section
variable {X:Cx}
theorem call_rg2:CallR X (.type "range") rRg2:=fun pins s σ H xs us Q I r h=>by
 obtain⟨i,j,rfl,q⟩:=h;obtain⟨u,w,rfl,⟨t,rfl⟩,⟨t',rfl⟩⟩:=vals2 r;exact call_range_2 ⟨.ref s.heap.objs.size,_,I.laid (o:=.rng i j) (fun b o e=>Heap.get?_push_of_some _ e) (Nat.le_refl _) (show ObjOk X.prog X.w _ _ _ (.rng i j) from ⟨t,t',s.toks,Heap.get?_push_size _ rfl⟩),rfl,q _ (I.hok.fresh (Nat.le_refl _))⟩
theorem call_lrg (hc:X.calm=true):CallR X (.type "list") rLrg:=fun pins s σ H xs us Q I r h=>by
 obtain⟨p,i,j,rfl,ep,⟨b1,b2,b3,b4⟩,hz,q⟩:=h;obtain⟨u,rfl,ru⟩:=vals1 r;cases ru;obtain⟨t1,t2,t3,eo⟩:=(show ObjOk X.prog X.w H s.heap p (.rng i j) from I.hok p _ ep);have sz:Builtin.Range.rangeSize i j 1=((j-i).toNat:Int):=by rw[rangeSize_one];split <;> omega
 have p24:(1000:Nat)<=2 ^ 24:=by decide
 refine call_list_range (I.ok.hd hc) (show IsRange s.heap p i j 1 t1 t2 t3 from eo) (small_one b1 b2 b3 b4) sz (Nat.le_trans hz p24) fun h' tk acc' c' k1 k2 k3=>?_
 have big:(1000:Nat)<=sizeLine:=by decide
 refine⟨.ref s.heap.objs.size,_,I.laid (o:=.lst ((List.range (j-i).toNat).map fun k:Nat=>V.int (i+k))) k1 (Nat.le_refl _) ⟨by rw[List.length_map,List.length_range];omega,acc'.toList,c',vals_at ?_ fun n x u ex eu=>?_,by simpa using k2⟩,rfl,q _ (I.hok.fresh (Nat.le_refl _))⟩
 ·rw[List.length_map,List.length_range,Array.length_toList,k3.1]
 ·rw[List.getElem?_map] at ex
  cases z:(List.range (j-i).toNat)[n]? with
  |none=>rw[z] at ex;cases ex
  |some m =>
   rw[z] at ex;cases ex;obtain⟨hn,e⟩:=List.getElem?_eq_some_iff.mp z;rw[List.getElem_range] at e;subst e;obtain⟨t,rfl⟩:=k3.2 n u (by rw[<- Array.getElem?_toList];exact eu)
   exact⟨t,by rw[Int.mul_one]⟩
theorem reps_rng {K:PySem.W.Frag}{H:Hp}:∀ (n:Nat) (lo:Int),Reps K H (rngD lo n) ((List.range n).map fun k:Nat=>V.int (lo+k))
 |0,lo=>Reps.nil_
 |n+1,lo=>by
  rw[List.range_succ_eq_map,List.map_cons,List.map_map];refine Reps.cons ?_ ?_
  ·unfold Rep;simp
  ·have:=reps_rng (K:=K) (H:=H) n (lo+1)
   have e:((fun k:Nat=>V.int (lo+k)) ∘ Nat.succ)=fun k:Nat=>V.int (lo+1+k):=by
    funext k
    show V.int (lo+((k+1:Nat):Int))=_
    congr 1
    omega
   rw[e];exact this
variable {a b:Expr}{F G:FE}{p p2 pos pos':Pos}
theorem xlrg (hm:X.mg "list"=none) (hm2:X.mg "range"=none) (ha:XE X a F) (hb:XE X b G) (hg:Gl X "list":=by rfl) (hg2:Gl X "range":=by rfl) (hc:X.calm=true:=by rfl)
  (st:starEach [a,b] X.env=(false,eval a X.env)::starEach [b] X.env:=by rfl) (st2:starEach [b] X.env=(false,eval b X.env)::starEach [] X.env:=by rfl) (pl:(backTo pos' (starEach [b] X.env)).any (·.1)=false:=by rfl)
  (st3:starEach [.Call (.Name "range" p2) [a,b] [] pos'] X.env=(false,eval (.Call (.Name "range" p2) [a,b] [] pos') X.env)::starEach [] X.env:=by rfl) (pl2:(backTo pos (starEach [] X.env)).any (·.1)=false:=by rfl) :
  XE X (.Call (.Name "list" p) [.Call (.Name "range" p2) [a,b] [] pos'] [] pos) (eLrg F G) :=
 PE.wk (pe_callTy (call_lrg hc) hg hm boot_list (pa_cons (pe_callTy call_rg2 hg2 hm2 boot_range (pa_cons ha (pa_cons hb pa_nil st2) st) (by decide) (by decide) st pl) pa_nil st3) (by decide) (by decide) st3 pl2) fun σ H Q hh0_=>by
  obtain⟨c,H0,ρ,d,ρ',R,f,q⟩:=hh0_;unfold eLrg eLrgA at f;obtain⟨⟨xs,ρ1⟩,h1,f⟩:=bnd_eq f;obtain⟨hz,f⟩:=ifs f;cases f;unfold rng2 at h1;obtain⟨⟨d1,ρ2⟩,h2,h1⟩:=bnd_eq h1;obtain⟨⟨d2,ρ3⟩,h3,h1⟩:=bnd_eq h1;obtain⟨i,h4,h1⟩:=bnd_eq h1;obtain⟨j,h5,h1⟩:=bnd_eq h1;obtain⟨hj,h1⟩:=ifs h1;cases h1;refine⟨c,H0,ρ,d1,ρ2,R,h2,fun v H1 Hh s1 R1 r1=>⟨c,H1,ρ2,d2,_,R1,h3,fun v' H2 Hh2 s2 R2 r2=>?_⟩⟩
  cases d1 with
  |int k =>
   cases d2 with
   |int k' =>
    have e:k=i:=Option.some.inj h4;have e':k'=j:=Option.some.inj h5;subst e e';unfold Rep at r1 r2;subst r1 r2;refine⟨k,k',rfl,fun p hp=>⟨p,k,k',rfl,upd_same,hj,by rw[rngD_length] at hz;exact hz,fun l hl=>?_⟩⟩
    have S1:=Step.alloc (o:=.rng k k') R2.same hp;have R3:=R2.after S1;have S2:=Step.alloc (o:=.lst ((List.range (k'-k).toNat).map fun n:Nat=>V.int (k+n))) R3.same hl
    refine q _ _ _ (s1.trans (s2.trans (S1.s0.trans S2.s0))) (R3.after S2) ?_;unfold Rep;exact⟨l,_,rfl,.inl (.inl upd_same),reps_rng _ _⟩
   |_=>cases h5
  |_=>cases h4
end
end Fx
set_option maxRecDepth 100000
namespace Fx
open PySem PySem.Spec PyProof.Rows L2
section
variable {X:Cx}{pos:Pos}{e:Expr}{F:FE}{A:FA}{T:FT}
theorem xnSg {p rpos:Pos} (hu:X.A.units+64<cLine) (hm:X.mg "sorted"=none) (he:XE X e F) (hg:Gl X "sorted":=by rfl) (hst:starEach [e] X.env=(false,eval e X.env)::starEach [] X.env:=by rfl) (hpl:(backTo pos (starEach [] X.env)).any (·.1)=false:=by rfl) :
  XN X [.Return (some (.Call (.Name "sorted" p) [e] [] pos)) rpos] (nSg F) :=
 PSs.wk (pss_one (ps_ret (pe_callB (call_sortG (sh_21 hu)) hg hm PyProof.Rows.boot_sorted (pa_cons he pa_nil hst) (by decide) (by decide) hst hpl))) fun Dn σ H hh0_=>by
  obtain⟨Hi,He,H0,ρ,o,R,f,q⟩:=hh0_;unfold nSg nSgA at f;obtain⟨⟨d,ρ1⟩,h1,f⟩:=bnd_eq f;unfold nSgB at f;obtain⟨d2,h2,f⟩:=bnd_eq f;unfold bSortG at h2
  split at h2
  ·rename_i xs z
   cases z;obtain⟨⟨h64,sh⟩,rfl⟩:=ifs h2;have f':some (MO.lst (sortT xs))=some o:=f;cases f';refine⟨_,H0,ρ,_,ρ1,R,h1,fun v H1 Hh s1 R1 rv=>?_⟩
   unfold Rep at rv;obtain⟨p,ws,rfl,sq,t⟩:=rv;refine⟨p,xs,ws,H1,rfl,Same.seq R1.same sq,R1.same,t,h64,sh,fun l ws' hl r'=>?_⟩
   have l1:H1 l=none:=R1.same.free hl;refine q l H1 _ ⟨R1.init,fun b u e=>?_,fun b u e=>?_,R1.fresh,l1,R1.heNone hl,ws',upd_same,r'⟩
   ·rw[upd_ne (ne_of_none e l1)];exact R1.same b u e
   ·have e':=R1.keep b u e (by simp)
    rw[upd_ne (ne_of_none e' hl)];exact e'
  ·cases h2
theorem callSortV (hu:X.A.units+64<cLine):BOk X (.builtin "sorted") bSortV:=callSortG (sh_21 hu)
theorem xclr (i:Nat) {x:Str}{p ap cp:Pos} (hN:X.N[i]?=some x:=by rfl) (hv:Vis X.env.scope x:=by first | exact Or.inl rfl | exact Or.inr (Or.inl rfl) | exact Or.inr (Or.inr rfl)) (hd:(x==("__debug__":Str))=false:=by decide)
  (hcd:(x==("__classdict__":Str))=false:=by decide) (hbase:attributeBase (.Name x p) "clear" X.env (eval (.Name x p) X.env)=eval (.Name x p) X.env:=by rfl) (hline:(ap.endLine==cp.line)=true:=by rfl)
  (hs:swapsWith (.Call (.Attribute (.Name x p) "clear" ap) [] [] cp) none pos.line X.env=pure false:=by rfl):XS X (.Expr (.Call (.Attribute (.Name x p) "clear" ap) [] [] cp) pos) (sClL i) :=
 PS.wk (ps_expr (pe_bm0 PySem.F.plainAttrs_list PySem.F.slot_list_clear PySem.F.type_list_clear mt_clear (pe_var hN hv hd hcd) hbase hline) hs) fun Dn σ H hh0_=>by
  obtain⟨c,H0,ρ,r,R,f,q⟩:=hh0_;unfold sClL sClLA at f;obtain⟨ds,h1,f⟩:=bnd_eq f;have f':some (Res.nx (ρ.set i (.ow false (.lst []))))=some r:=f;cases f';obtain⟨a,x1,_,_,vs,y1,_⟩:=R.ow i _ _ (owL_eq h1);exact⟨.ref a,x1,.inl ⟨rfl,vs,SqL.of y1⟩,a,vs,rfl,rfl,y1,q σ H0 _ (Same.refl _) (R.mutOwn (o':=.lst []) (u:=.lst []) (owL_eq h1) x1 ⟨_,upd_same,Reps.nil_⟩)⟩
end
end Fx
namespace Fx
open PySem
noncomputable section
noncomputable def b_windows_of:FS :=
 (sSeq (sSet 2 (e2 dIx2 (eV 0) (eC (.int 3))))
 (sSeq (sIf (tB (e2 dEq (e2 dIx2 (eV 0) (eC (.int 0))) (eC (.str (Str.ofString "fixed")))))
 (sRet (eLst (aC (e2 dDiv (eV 1) (e2 dIx2 (eV 2) (eC (.int 0)))) aN)))
 sN)
 (sSeq (sIf (tB (e2 dEq (e2 dIx2 (eV 0) (eC (.int 0))) (eC (.str (Str.ofString "slide")))))
 (sRet (eLrg (e2 dAdd (e2 dDiv (e2 dSub (eV 1) (e2 dIx2 (eV 2) (eC (.int 0)))) (e2 dIx2 (eV 2) (eC (.int 1)))) (eC (.int 1))) (e2 dAdd (e2 dDiv (eV 1) (e2 dIx2 (eV 2) (eC (.int 1)))) (eC (.int 1)))))
 sN)
 (sRet (eLst (aC (eC (.int 0)) aN))))))
noncomputable def m_windows_of:List D->Option D:=fnD 2 1 b_windows_of
noncomputable def b_amount_of:FS :=
 (sSeq (sIf (tB (e2 dEq (eV 0) (eC (.str (Str.ofString "count")))))
 (sRet (eF bLen2 (aC (eV 1) aN)))
 sN)
 (sSeq (sIf (tB (e2 dEq (eV 0) (eC (.str (Str.ofString "sum")))))
 (sRet (eF bSum (aC (eV 1) aN)))
 sN)
 (sRet (eIf (tB (e2 dEq (eV 0) (eC (.str (Str.ofString "most"))))) (eF bMax (aC (eV 1) aN)) (eF bMin (aC (eV 1) aN))))))
noncomputable def m_amount_of:List D->Option D:=fnD 2 0 b_amount_of
noncomputable def b_window_cells:FS :=
 (sSeq (sTN 2)
 (sSeq (sGT 2 3 4 (eV 1) (eF m_windows_of (aC (eV 0) (aC (e2 dIx2 (eV 3) (eC (.int 0))) aN))))
 (sFT 2 (sRet (eLK [2,0] (eV 2) tYes (eTup (aC (eV 0) (aC (eF m_amount_of (aC (e2 dIx2 (e2 dIx2 (eV 2) (eC (.int 3))) (e1 dNeg (eC (.int 1)))) (aC (e2 dIxT (eV 1) (eV 0)) aN))) aN))))))))
noncomputable def m_window_cells:List D->Option D:=fnD 2 3 b_window_cells
noncomputable def b_fold_cells:En->Option MO :=
 (nSg (eIf (tB (e2 dEq (e2 dIx2 (eV 0) (eC (.int 0))) (eC (.str (Str.ofString "gaps"))))) eNever (eF m_window_cells (aC (eV 0) (aC (eV 1) aN)))))
noncomputable def m_fold_cells:List D->Option MO:=fnN 2 0 b_fold_cells
noncomputable def b_law_cell_at:FS :=
 (sSeq (sIf (tB (e2 dLt (eV 1) (eF bLen2 (aC (eV 0) aN))))
 (sRet (e2 dIx2 (eV 0) (eV 1)))
 sN)
 (sRet (eC (.int 0))))
noncomputable def m_law_cell_at:List D->Option D:=fnD 2 0 b_law_cell_at
noncomputable def b_law_mixed:FS :=
 (sSeq (sSet 2 (e2 dMod (e2 dMul (e2 dAdd (e2 dAdd (e2 dBand (eV 0) (eC (.int 2147483647))) (e2 dMul (eC (.int 7919)) (eV 1))) (eC (.int 1))) (eC (.int 48271))) (eC (.int 2147483647))))
 (sSeq (sSet 2 (e2 dMod (e2 dMul (eV 2) (e2 dAdd (e2 dDiv (eV 2) (eC (.int 1009))) (eC (.int 69621)))) (eC (.int 2147483647))))
 (sSeq (sSet 2 (e2 dMod (e2 dMul (eV 2) (e2 dAdd (e2 dDiv (eV 2) (eC (.int 1013))) (eC (.int 40692)))) (eC (.int 2147483647))))
 (sRet (e2 dBxor (eV 2) (e2 dBand (e2 dShr (eV 0) (e2 dAdd (e2 dMul (eC (.int 31)) (eV 1)) (eC (.int 31)))) (eC (.int 2147483647))))))))
noncomputable def m_law_mixed:List D->Option D:=fnD 2 1 b_law_mixed
noncomputable def b_law_keys:FS :=
 (sSeq (sSet 1 (eC (.str (Str.ofString "abcdefghijklmnopqrstuvwxyz"))))
 (sSeq (sSet 2 (eF m_law_mixed (aC (eV 0) (aC (eC (.int 900)) aN))))
 (sSeq (sSet 3 (eJoin (Str.ofString "") (eLR [1,2] (rng1 (e2 dBand (e2 dShr (eV 2) (eC (.int 20))) (eC (.int 3)))) tYes (e2 dIx2 (eV 1) (e2 dMod (e2 dBand (e2 dShr (eV 2) (e2 dMul (eC (.int 5)) (eV 0))) (eC (.int 31))) (eC (.int 26)))))))
 (sRet (eLR [1,3,2] (rng1 (eC (.int 5))) tYes (e2 dAdd (e2 dIx2 (eV 1) (e2 dMod (e2 dAdd (e2 dShr (eV 3) (eC (.int 22))) (e2 dMul (eC (.int 7)) (eV 0))) (eC (.int 26)))) (eSl2 (eV 2) oN (oS (e2 dMod (eV 0) (eC (.int 4)))))))))))
noncomputable def m_law_keys:List D->Option D:=fnD 1 3 b_law_keys
noncomputable def b_law_number:FS :=
 (sSeq (sSet 2 (eF m_law_mixed (aC (eV 0) (aC (eV 1) aN))))
 (sSeq (sIf (tB (e2 dGt (e2 dBand (eV 2) (eC (.int 3))) (eC (.int 0))))
 (sRet (e2 dSub (e2 dMod (e2 dShr (eV 2) (eC (.int 2))) (eC (.int 13))) (eC (.int 6))))
 sN)
 (sRet (e2 dAdd (e2 dMul (e2 dSub (eV 2) (eC (.int 1073741824))) (eC (.int 400))) (e2 dBand (eV 2) (eC (.int 255)))))))
noncomputable def m_law_number:List D->Option D:=fnD 2 1 b_law_number
noncomputable abbrev l_law_things_1:FS :=
 (sSeq (sSet 5 (eF m_law_mixed (aC (eV 0) (aC (e2 dMul (eC (.int 3)) (eV 4)) aN))))
 (sSeq (sSet 6 (e2 dIx2 (eLst (aC (e2 dMod (e2 dShr (eV 5) (eC (.int 2))) (eC (.int 30))) (aC (eF bAbs (aC (eF m_law_number (aC (eV 0) (aC (e2 dAdd (e2 dMul (eC (.int 3)) (eV 4)) (eC (.int 1))) aN))) aN)) aN))) (e2 dDiv (e2 dBand (e2 dShr (eV 5) (eC (.int 20))) (eC (.int 3))) (eC (.int 3)))))
 (sApp 3 (eTup (aC (eV 6) (aC (e2 dIx2 (eV 1) (e2 dMod (e2 dBand (eV 5) (eC (.int 3))) (eC (.int 3)))) (aC (eF m_law_number (aC (eV 0) (aC (e2 dAdd (e2 dMul (eC (.int 3)) (eV 4)) (eC (.int 2))) aN))) aN)))))))
noncomputable def b_law_things:FS :=
 (sSeq (sOwn 3 (oLst aN))
 (sSeq (sForR (gN 4) (rng1 (eV 2)) l_law_things_1)
 (sFrz 3 (sRet (eV 3)))))
noncomputable def m_law_things:List D->Option D:=fnD 3 4 b_law_things
noncomputable def b_law_amount:FS :=
 (sSeq (sIf (tB (e2 dEq (eV 0) (eC (.str (Str.ofString "count")))))
 (sRet (eF bLen2 (aC (eV 1) aN)))
 sN)
 (sSeq (sIf (tB (e2 dEq (eV 0) (eC (.str (Str.ofString "sum")))))
 (sRet (eF bSum (aC (eV 1) aN)))
 sN)
 (sRet (e2 dIx2 (eLst (aC (eF bMax (aC (eV 1) aN)) (aC (eF bMin (aC (eV 1) aN)) aN))) (eF bInt (aC (e2 dEq (eV 0) (eC (.str (Str.ofString "least")))) aN))))))
noncomputable def m_law_amount:List D->Option D:=fnD 2 0 b_law_amount
noncomputable def b_law_fold:FS :=
 (sSeq (sSet 1 (eF m_law_mixed (aC (eV 0) (aC (eC (.int 0)) aN))))
 (sSeq (sSet 2 (e2 dIx2 (eLst (aC (eC (.str (Str.ofString "count"))) (aC (eC (.str (Str.ofString "sum"))) (aC (eC (.str (Str.ofString "most"))) (aC (eC (.str (Str.ofString "least"))) aN))))) (e2 dBand (eV 1) (eC (.int 3)))))
 (sSeq (sSet 3 (e2 dAdd (eC (.int 1)) (e2 dIx2 (eLst (aC (e2 dMod (e2 dShr (eV 1) (eC (.int 2))) (eC (.int 6))) (aC (e2 dMod (eF bAbs (aC (eF m_law_number (aC (eV 0) (aC (eC (.int 1)) aN))) aN)) (e2 dPow (eC (.int 10)) (eC (.int 11)))) aN))) (e2 dDiv (e2 dBand (e2 dShr (eV 1) (eC (.int 20))) (eC (.int 3))) (eC (.int 3))))))
 (sSeq (sIf (tB (e2 dEq (e2 dBand (e2 dShr (eV 1) (eC (.int 22))) (eC (.int 3))) (eC (.int 0))))
 (sRet (eTup (aC (eC (.str (Str.ofString "ever"))) (aC (eC (.str (Str.ofString "all"))) (aC (eTup (aC (eC (.str (Str.ofString "there"))) aN)) (aC (eTup (aC (eV 2) aN)) aN))))))
 sN)
 (sSeq (sIf (tB (e2 dEq (e2 dBand (e2 dShr (eV 1) (eC (.int 22))) (eC (.int 3))) (eC (.int 1))))
 (sRet (eTup (aC (eC (.str (Str.ofString "fixed"))) (aC (eC (.str (Str.ofString "all"))) (aC (eTup (aC (eC (.str (Str.ofString "there"))) aN)) (aC (eTup (aC (eV 3) (aC (eV 2) aN))) aN))))))
 sN)
 (sSeq (sSet 3 (eF bMin (aC (eV 3) (aC (e2 dMul (eC (.int 4)) (e2 dPow (eC (.int 10)) (eC (.int 10)))) aN))))
 (sSeq (sSet 4 (e2 dAdd (e2 dAdd (eV 3) (eC (.int 1))) (e2 dMod (eF m_law_mixed (aC (eV 0) (aC (eC (.int 2)) aN))) (e2 dMul (eC (.int 19)) (eV 3)))))
 (sRet (eTup (aC (eC (.str (Str.ofString "slide"))) (aC (eC (.str (Str.ofString "all"))) (aC (eTup (aC (eC (.str (Str.ofString "there"))) aN)) (aC (eTup (aC (eV 4) (aC (eV 3) (aC (eV 2) aN)))) aN)))))))))))))
noncomputable def m_law_fold:List D->Option D:=fnD 1 4 b_law_fold
noncomputable abbrev l_law_windows_1:FS :=
 (sIf (tB (e3 dLe dLt (e2 dMul (eV 4) (eV 2)) (eV 1) (e2 dAdd (e2 dMul (eV 4) (eV 2)) (e2 dIx2 (e2 dIx2 (eV 0) (eC (.int 3))) (eC (.int 0))))))
 (sApp 3 (eV 4))
 sN)
noncomputable def b_law_windows:FS :=
 (sSeq (sIf (tB (e2 dEq (e2 dIx2 (eV 0) (eC (.int 0))) (eC (.str (Str.ofString "ever")))))
 (sRet (eLst (aC (eC (.int 0)) aN)))
 sN)
 (sSeq (sSet 2 (e2 dIx2 (e2 dIx2 (eV 0) (eC (.int 3))) (e1 dNeg (eC (.int 2)))))
 (sSeq (sOwn 3 (oLst aN))
 (sSeq (sForR (gN 4) (rng2 (e2 dSub (e2 dDiv (eV 1) (eV 2)) (eC (.int 21))) (e2 dAdd (e2 dDiv (eV 1) (eV 2)) (eC (.int 2)))) l_law_windows_1)
 (sFrz 3 (sRet (eV 3)))))))
noncomputable def m_law_windows:List D->Option D:=fnD 2 3 b_law_windows
noncomputable abbrev l_law_due_1:FS :=
 (sTK 2 (aC (eV 4) (aC (eV 6) aN)) (e2 dAdd (eTG 2 (aC (eV 4) (aC (eV 6) aN)) (eLst aN)) (eLst (aC (eV 5) aN))))
noncomputable abbrev l_law_due_2:FS :=
 (sFor (gN 6) (eF m_law_windows (aC (eV 0) (aC (eV 3) aN)))
 l_law_due_1)
noncomputable def b_law_due:FS :=
 (sSeq (sTN 2)
 (sSeq (sFor (gT [3,4,5]) (eV 1)
 l_law_due_2)
 (sFT 2 (sRet (eF bSortV (aC (eLI [0] (eV 2) tYes (eTup (aC (eV 0) (aC (eF m_law_amount (aC (e2 dIx2 (e2 dIx2 (eV 2) (eC (.int 3))) (e1 dNeg (eC (.int 1)))) (aC (eV 1) aN))) aN)))) aN))))))
noncomputable def m_law_due:List D->Option D:=fnD 2 5 b_law_due
noncomputable def b_law:FS :=
 (sSeq (sSet 1 (eF m_law_keys (aC (eF m_law_cell_at (aC (eV 0) (aC (eC (.int 0)) aN))) aN)))
 (sSeq (sSet 2 (eF m_law_fold (aC (eF m_law_cell_at (aC (eV 0) (aC (eC (.int 1)) aN))) aN)))
 (sSeq (sSet 3 (eF m_law_things (aC (eF m_law_cell_at (aC (eV 0) (aC (eC (.int 2)) aN))) (aC (eV 1) (aC (e2 dMod (eF m_law_mixed (aC (eF m_law_cell_at (aC (eV 0) (aC (eC (.int 0)) aN))) (aC (eC (.int 0)) aN))) (eC (.int 17))) aN)))))
 (sSeq (sSet 4 (eF m_law_due (aC (eV 2) (aC (eV 3) aN))))
 (sSeq (sSet 5 (eF bList (aC (eV 3) aN)))
 (sSeq (sNew 6 m_fold_cells (aC (eV 2) (aC (eV 5) aN)))
 (sSeq (sIf (tHoldL 6 (tOr (tNot (tV (eTy .list (eV 6)))) (tOr (tB (e2 dNe (eV 6) (eV 4))) (tB (e2 dNe (eV 5) (eV 3))))))
 (sRet (eC (.bl false)))
 sN)
 (sSeq (sIf (tHoldL 6 (tV (eF bAny (aC (eLC [] (eV 6) tYes (eOr (eNot (eTy .tuple (eV 0))) (eTy .bool (e2 dIx2 (eV 0) (eC (.int 1)))))) aN))))
 (sRet (eC (.bl false)))
 sN)
 (sSeq (sClL 6)
 (sRet (e2 dEq (eNL m_fold_cells (aC (eV 2) (aC (e1 dRev (eV 3)) aN))) (eV 4))))))))))))
noncomputable def m_law:List D->Option D:=fnD 1 6 b_law
end
end Fx
set_option maxRecDepth 100000
set_option maxHeartbeats 4000000
namespace Fx
open PySem PySem.Spec PyProof.Rows L2
noncomputable def top (i:Nat):Stmt:=PySem.Challenge.pw_latewell_k34_cells_by_windows.main.body.getD i (.Pass ⟨0,0,0,0⟩)
structure Blt (w:World) (K:PySem.W.Frag) (mg:Str->Option Value):Prop where
 z_abs:mg "abs"=none
 z_len:mg "len"=none
 z_max:mg "max"=none
 z_min:mg "min"=none
 z_any:mg "any"=none
 z_all:mg "all"=none
 z_range:mg "range"=none
 z_isinstance:mg "isinstance"=none
 z_int:mg "int"=none
 z_bool:mg "bool"=none
 z_str:mg "str"=none
 z_tuple:mg "tuple"=none
 z_list:mg "list"=none
 z_sorted:mg "sorted"=none
 z_dict:mg "dict"=none
 z_set:mg "set"=none
 z_sum:mg "sum"=none
section
variable {P:Program}{w:World}{K:PySem.W.Frag}{mg:Str->Option Value}{base:Heap}
noncomputable abbrev s_windows_of:Stmt:=top 1
theorem sc_windows_of:FnScope ["row","time","rest"] ["row","time"] (defScope s_windows_of):=⟨rfl,rfl,rfl,by decide +kernel,rfl,by decide +kernel,by decide +kernel⟩
theorem ok_windows_of {f:Addr}{fd:FuncData} (F:Fun K "windows_of" "windows_of" s_windows_of f fd) (bF:Binds K fd ["row","time"] []) (mF:mg "windows_of"=some (.ref f)) (T:Blt w K mg) :DefOk P w K mg base 1 "windows_of" m_windows_of :=
 ⟨f,fd,["row","time"],fn_ok F sc_windows_of rfl rfl (fun cdv A outer s H E hr =>
 (xsC (xset 2 sc_windows_of.nd (xix2 (xv 0) xint))
 (xsC (xsif (xt (cEq hr.units) (xix2 (xv 0) xint) xstr)
 (xs1 (xret (xlst (xaC (xb oDiv (xv 1) (xix2 (xv 2) xint)) xaN))))
 xsN)
 (xsC (xsif (xt (cEq hr.units) (xix2 (xv 0) xint) xstr)
 (xs1 (xret (xlrg T.z_list T.z_range (xb oAdd (xb oDiv (xb oSub (xv 1) (xix2 (xv 2) xint)) (xix2 (xv 2) xint)) xint) (xb oAdd (xb oDiv (xv 1) (xix2 (xv 2) xint)) xint))))
 xsN)
 (xs1 (xret (xlst (xaC xint xaN)))))))),bF,F.kp,mF⟩
noncomputable abbrev s_amount_of:Stmt:=top 2
theorem sc_amount_of:FnScope ["fold_word","values"] ["fold_word","values"] (defScope s_amount_of):=⟨rfl,rfl,rfl,by decide +kernel,rfl,by decide +kernel,by decide +kernel⟩
theorem ok_amount_of {f:Addr}{fd:FuncData} (F:Fun K "amount_of" "amount_of" s_amount_of f fd) (bF:Binds K fd ["fold_word","values"] []) (mF:mg "amount_of"=some (.ref f)) (T:Blt w K mg) :DefOk P w K mg base 1 "amount_of" m_amount_of :=
 ⟨f,fd,["fold_word","values"],fn_ok F sc_amount_of rfl rfl (fun cdv A outer s H E hr =>
 (xsC (xsif (xt (cEq hr.units) (xv 0) xstr)
 (xs1 (xret (xB callLen2 rfl T.z_len PySem.boot_len (xaC (xv 1) xaN))))
 xsN)
 (xsC (xsif (xt (cEq hr.units) (xv 0) xstr)
 (xs1 (xret (xB (callSum rfl) rfl T.z_sum PyProof.Rows.boot_sum (xaC (xv 1) xaN))))
 xsN)
 (xs1 (xret (xif (xt (cEq hr.units) (xv 0) xstr) (xB (callMax rfl) rfl T.z_max PyProof.Rows.boot_max (xaC (xv 1) xaN)) (xB (callMin rfl) rfl T.z_min PyProof.Rows.boot_min (xaC (xv 1) xaN)))))))),bF,F.kp,mF⟩
noncomputable abbrev s_window_cells:Stmt:=top 3
theorem sc_window_cells:FnScope ["row","things","values","thing","window"] ["row","things"] (defScope s_window_cells):=⟨rfl,rfl,rfl,by decide +kernel,rfl,by decide +kernel,by decide +kernel⟩
theorem ok_window_cells {f:Addr}{fd:FuncData} (F:Fun K "window_cells" "window_cells" s_window_cells f fd) (bF:Binds K fd ["row","things"] []) (mF:mg "window_cells"=some (.ref f)) (T:Blt w K mg) (G_amount_of:DefOk P w K mg base 1 "amount_of" m_amount_of) (G_windows_of:DefOk P w K mg base 1 "windows_of" m_windows_of):DefOk P w K mg base 2 "window_cells" m_window_cells :=
 ⟨f,fd,["row","things"],fn_ok F sc_window_cells rfl rfl (fun cdv A outer s H E hr =>
 (xsC (xtn 2 sc_window_cells.nd)
 (xsC (xgrpT 2 3 4 sc_window_cells.nd (xv 1) (xF G_windows_of (hr.mono (by decide)) (xaC (xv 0) (xaC (xix2 (xv 3) xint) xaN))) (xgbody 2 3 4 (hu_of hr)))
 (xs1 (xft 2 (xret (xlk (sc:=defScope s_window_cells) rfl rfl (by show ScB ["row","things","values","thing","window"] (defScope s_window_cells) _ "cell" ["values","row"] [2,0];exact⟨rfl,rfl,by decide +kernel,by decide +kernel,rfl,by decide +kernel,by decide +kernel,rfl,by decide +kernel⟩) (xv 2) (fun _ _ _ _=>xts_nil) (fun _ _ _ _=>(xtup (xaC (xv 0) (xaC (xF G_amount_of (hr.mono (by decide)) (xaC (xix2 (xix2 (xv 2) xint) (xneg xint)) (xaC (xixT (hu_of hr) (xv 1) (xv 0) (fun _ _=>rfl)) xaN))) xaN))))))))))),bF,F.kp,mF⟩
noncomputable abbrev s_fold_cells:Stmt:=top 6
theorem sc_fold_cells:FnScope ["row","things"] ["row","things"] (defScope s_fold_cells):=⟨rfl,rfl,rfl,by decide +kernel,rfl,by decide +kernel,by decide +kernel⟩
theorem ok_fold_cells {f:Addr}{fd:FuncData} (F:Fun K "fold_cells" "fold_cells" s_fold_cells f fd) (bF:Binds K fd ["row","things"] []) (mF:mg "fold_cells"=some (.ref f)) (T:Blt w K mg) (G_window_cells:DefOk P w K mg base 2 "window_cells" m_window_cells):DefN P w K mg base 3 "fold_cells" m_fold_cells :=
 ⟨f,fd,["row","things"],fnN_ok F sc_fold_cells rfl rfl (fun cdv A outer s H E hr =>
 (xnSg hr.units T.z_sorted (xif (xt (cEq hr.units) (xix2 (xv 0) xint) xstr) xnever (xF G_window_cells (hr.mono (by decide)) (xaC (xv 0) (xaC (xv 1) xaN)))))),bF,F.kp,mF⟩
noncomputable abbrev s_law_cell_at:Stmt:=top 8
theorem sc_law_cell_at:FnScope ["_law_script","_law_k"] ["_law_script","_law_k"] (defScope s_law_cell_at):=⟨rfl,rfl,rfl,by decide +kernel,rfl,by decide +kernel,by decide +kernel⟩
theorem ok_law_cell_at {f:Addr}{fd:FuncData} (F:Fun K "_law_cell_at" "_law_cell_at" s_law_cell_at f fd) (bF:Binds K fd ["_law_script","_law_k"] []) (mF:mg "_law_cell_at"=some (.ref f)) (T:Blt w K mg) :DefOk P w K mg base 1 "_law_cell_at" m_law_cell_at :=
 ⟨f,fd,["_law_script","_law_k"],fn_ok F sc_law_cell_at rfl rfl (fun cdv A outer s H E hr =>
 (xsC (xsif (xt cLt (xv 1) (xB callLen2 rfl T.z_len PySem.boot_len (xaC (xv 0) xaN)))
 (xs1 (xret (xix2 (xv 0) (xv 1))))
 xsN)
 (xs1 (xret xint)))),bF,F.kp,mF⟩
noncomputable abbrev s_law_mixed:Stmt:=top 9
theorem sc_law_mixed:FnScope ["_law_cell","_law_k","_law_number_here"] ["_law_cell","_law_k"] (defScope s_law_mixed):=⟨rfl,rfl,rfl,by decide +kernel,rfl,by decide +kernel,by decide +kernel⟩
theorem ok_law_mixed {f:Addr}{fd:FuncData} (F:Fun K "_law_mixed" "_law_mixed" s_law_mixed f fd) (bF:Binds K fd ["_law_cell","_law_k"] []) (mF:mg "_law_mixed"=some (.ref f)) (T:Blt w K mg) :DefOk P w K mg base 1 "_law_mixed" m_law_mixed :=
 ⟨f,fd,["_law_cell","_law_k"],fn_ok F sc_law_mixed rfl rfl (fun cdv A outer s H E hr =>
 (xsC (xset 2 sc_law_mixed.nd (xb oMod (xb oMul (xb oAdd (xb oAdd (xb oBand (xv 0) xint) (xb oMul xint (xv 1))) xint) xint) xint))
 (xsC (xset 2 sc_law_mixed.nd (xb oMod (xb oMul (xv 2) (xb oAdd (xb oDiv (xv 2) xint) xint)) xint))
 (xsC (xset 2 sc_law_mixed.nd (xb oMod (xb oMul (xv 2) (xb oAdd (xb oDiv (xv 2) xint) xint)) xint))
 (xs1 (xret (xb oBxor (xv 2) (xb oBand (xb oShr (xv 0) (xb oAdd (xb oMul xint (xv 1)) xint)) xint)))))))),bF,F.kp,mF⟩
noncomputable abbrev s_law_keys:Stmt:=top 10
theorem sc_law_keys:FnScope ["_law_cell","_law_some","_law_number_here","_law_stem"] ["_law_cell"] (defScope s_law_keys):=⟨rfl,rfl,rfl,by decide +kernel,rfl,by decide +kernel,by decide +kernel⟩
theorem ok_law_keys {f:Addr}{fd:FuncData} (F:Fun K "_law_keys" "_law_keys" s_law_keys f fd) (bF:Binds K fd ["_law_cell"] []) (mF:mg "_law_keys"=some (.ref f)) (T:Blt w K mg) (G_law_mixed:DefOk P w K mg base 1 "_law_mixed" m_law_mixed):DefOk P w K mg base 2 "_law_keys" m_law_keys :=
 ⟨f,fd,["_law_cell"],fn_ok F sc_law_keys rfl rfl (fun cdv A outer s H E hr =>
 (xsC (xset 1 sc_law_keys.nd xstr)
 (xsC (xset 2 sc_law_keys.nd (xF G_law_mixed (hr.mono (by decide)) (xaC (xv 0) (xaC xint xaN))))
 (xsC (xset 3 sc_law_keys.nd (xjoin (xlr1 T.z_range (sc:=defScope s_law_keys) rfl rfl (by show ScB ["_law_cell","_law_some","_law_number_here","_law_stem"] (defScope s_law_keys) _ "_law_k" ["_law_some","_law_number_here"] [1,2];exact⟨rfl,rfl,by decide +kernel,by decide +kernel,rfl,by decide +kernel,by decide +kernel,rfl,by decide +kernel⟩) (xb oBand (xb oShr (xv 2) xint) xint) (fun _ _ _ _=>xts_nil) (fun _ _ _ _=>(xix2 (xv 1) (xb oMod (xb oBand (xb oShr (xv 2) (xb oMul xint (xv 0))) xint) xint))))))
 (xs1 (xret (xlr1 T.z_range (sc:=defScope s_law_keys) rfl rfl (by show ScB ["_law_cell","_law_some","_law_number_here","_law_stem"] (defScope s_law_keys) _ "_law_k" ["_law_some","_law_stem","_law_number_here"] [1,3,2];exact⟨rfl,rfl,by decide +kernel,by decide +kernel,rfl,by decide +kernel,by decide +kernel,rfl,by decide +kernel⟩) xint (fun _ _ _ _=>xts_nil) (fun _ _ _ _=>(xb oAdd (xix2 (xv 1) (xb oMod (xb oAdd (xb oShr (xv 3) xint) (xb oMul xint (xv 0))) xint)) (xsl2 (xv 2) xoN (xoS (xb oMod (xv 0) xint)))))))))))),bF,F.kp,mF⟩
noncomputable abbrev s_law_number:Stmt:=top 11
theorem sc_law_number:FnScope ["_law_cell","_law_j","_law_number_here"] ["_law_cell","_law_j"] (defScope s_law_number):=⟨rfl,rfl,rfl,by decide +kernel,rfl,by decide +kernel,by decide +kernel⟩
theorem ok_law_number {f:Addr}{fd:FuncData} (F:Fun K "_law_number" "_law_number" s_law_number f fd) (bF:Binds K fd ["_law_cell","_law_j"] []) (mF:mg "_law_number"=some (.ref f)) (T:Blt w K mg) (G_law_mixed:DefOk P w K mg base 1 "_law_mixed" m_law_mixed):DefOk P w K mg base 2 "_law_number" m_law_number :=
 ⟨f,fd,["_law_cell","_law_j"],fn_ok F sc_law_number rfl rfl (fun cdv A outer s H E hr =>
 (xsC (xset 2 sc_law_number.nd (xF G_law_mixed (hr.mono (by decide)) (xaC (xv 0) (xaC (xv 1) xaN))))
 (xsC (xsif (xt cGt (xb oBand (xv 2) xint) xint)
 (xs1 (xret (xb oSub (xb oMod (xb oShr (xv 2) xint) xint) xint)))
 xsN)
 (xs1 (xret (xb oAdd (xb oMul (xb oSub (xv 2) xint) xint) (xb oBand (xv 2) xint))))))),bF,F.kp,mF⟩
noncomputable abbrev s_law_things:Stmt:=top 16
theorem sc_law_things:FnScope ["_law_cell","_law_keys_here","_law_many","_law_found","_law_k","_law_number_here","_law_time"] ["_law_cell","_law_keys_here","_law_many"] (defScope s_law_things):=⟨rfl,rfl,rfl,by decide +kernel,rfl,by decide +kernel,by decide +kernel⟩
theorem ok_law_things {f:Addr}{fd:FuncData} (F:Fun K "_law_things" "_law_things" s_law_things f fd) (bF:Binds K fd ["_law_cell","_law_keys_here","_law_many"] []) (mF:mg "_law_things"=some (.ref f)) (T:Blt w K mg) (G_law_mixed:DefOk P w K mg base 1 "_law_mixed" m_law_mixed) (G_law_number:DefOk P w K mg base 2 "_law_number" m_law_number):DefOk P w K mg base 3 "_law_things" m_law_things :=
 ⟨f,fd,["_law_cell","_law_keys_here","_law_many"],fn_ok F sc_law_things rfl rfl (fun cdv A outer s H E hr =>
 (xsC (xown 3 sc_law_things.nd (xoLst xaN))
 (xsC (xforR1 T.z_range (xgN 4 sc_law_things.nd) (xv 2) (xsC (xset 5 sc_law_things.nd (xF G_law_mixed (hr.mono (by decide)) (xaC (xv 0) (xaC (xb oMul xint (xv 4)) xaN))))
 (xsC (xset 6 sc_law_things.nd (xix2 (xlst (xaC (xb oMod (xb oShr (xv 5) xint) xint) (xaC (xB callAbs rfl T.z_abs PyProof.Rows.boot_abs (xaC (xF G_law_number (hr.mono (by decide)) (xaC (xv 0) (xaC (xb oAdd (xb oMul xint (xv 4)) xint) xaN))) xaN)) xaN))) (xb oDiv (xb oBand (xb oShr (xv 5) xint) xint) xint)))
 (xs1 (xapp 3 (xaC (xtup (xaC (xv 6) (xaC (xix2 (xv 1) (xb oMod (xb oBand (xv 5) xint) xint)) (xaC (xF G_law_number (hr.mono (by decide)) (xaC (xv 0) (xaC (xb oAdd (xb oMul xint (xv 4)) xint) xaN))) xaN)))) xaN))))))
 (xs1 (xfrz 3 (xret (xv 3))))))),bF,F.kp,mF⟩
noncomputable abbrev s_law_amount:Stmt:=top 17
theorem sc_law_amount:FnScope ["_law_word","_law_values"] ["_law_word","_law_values"] (defScope s_law_amount):=⟨rfl,rfl,rfl,by decide +kernel,rfl,by decide +kernel,by decide +kernel⟩
theorem ok_law_amount {f:Addr}{fd:FuncData} (F:Fun K "_law_amount" "_law_amount" s_law_amount f fd) (bF:Binds K fd ["_law_word","_law_values"] []) (mF:mg "_law_amount"=some (.ref f)) (T:Blt w K mg) :DefOk P w K mg base 1 "_law_amount" m_law_amount :=
 ⟨f,fd,["_law_word","_law_values"],fn_ok F sc_law_amount rfl rfl (fun cdv A outer s H E hr =>
 (xsC (xsif (xt (cEq hr.units) (xv 0) xstr)
 (xs1 (xret (xB callLen2 rfl T.z_len PySem.boot_len (xaC (xv 1) xaN))))
 xsN)
 (xsC (xsif (xt (cEq hr.units) (xv 0) xstr)
 (xs1 (xret (xB (callSum rfl) rfl T.z_sum PyProof.Rows.boot_sum (xaC (xv 1) xaN))))
 xsN)
 (xs1 (xret (xix2 (xlst (xaC (xB (callMax rfl) rfl T.z_max PyProof.Rows.boot_max (xaC (xv 1) xaN)) (xaC (xB (callMin rfl) rfl T.z_min PyProof.Rows.boot_min (xaC (xv 1) xaN)) xaN))) (xTy callInt rfl T.z_int PyProof.Rows.boot_int (xaC (xcmp (cEq hr.units) (xv 0) xstr) xaN)))))))),bF,F.kp,mF⟩
noncomputable abbrev s_law_fold:Stmt:=top 18
theorem sc_law_fold:FnScope ["_law_cell","_law_number_here","_law_word","_law_step","_law_width"] ["_law_cell"] (defScope s_law_fold):=⟨rfl,rfl,rfl,by decide +kernel,rfl,by decide +kernel,by decide +kernel⟩
theorem ok_law_fold {f:Addr}{fd:FuncData} (F:Fun K "_law_fold" "_law_fold" s_law_fold f fd) (bF:Binds K fd ["_law_cell"] []) (mF:mg "_law_fold"=some (.ref f)) (T:Blt w K mg) (G_law_mixed:DefOk P w K mg base 1 "_law_mixed" m_law_mixed) (G_law_number:DefOk P w K mg base 2 "_law_number" m_law_number):DefOk P w K mg base 3 "_law_fold" m_law_fold :=
 ⟨f,fd,["_law_cell"],fn_ok F sc_law_fold rfl rfl (fun cdv A outer s H E hr =>
 (xsC (xset 1 sc_law_fold.nd (xF G_law_mixed (hr.mono (by decide)) (xaC (xv 0) (xaC xint xaN))))
 (xsC (xset 2 sc_law_fold.nd (xix2 (xlst (xaC xstr (xaC xstr (xaC xstr (xaC xstr xaN))))) (xb oBand (xv 1) xint)))
 (xsC (xset 3 sc_law_fold.nd (xb oAdd xint (xix2 (xlst (xaC (xb oMod (xb oShr (xv 1) xint) xint) (xaC (xb oMod (xB callAbs rfl T.z_abs PyProof.Rows.boot_abs (xaC (xF G_law_number (hr.mono (by decide)) (xaC (xv 0) (xaC xint xaN))) xaN)) (xb oPow xint xint)) xaN))) (xb oDiv (xb oBand (xb oShr (xv 1) xint) xint) xint))))
 (xsC (xsif (xt (cEq hr.units) (xb oBand (xb oShr (xv 1) xint) xint) xint)
 (xs1 (xret (xtup (xaC xstr (xaC xstr (xaC (xtup (xaC xstr xaN)) (xaC (xtup (xaC (xv 2) xaN)) xaN)))))))
 xsN)
 (xsC (xsif (xt (cEq hr.units) (xb oBand (xb oShr (xv 1) xint) xint) xint)
 (xs1 (xret (xtup (xaC xstr (xaC xstr (xaC (xtup (xaC xstr xaN)) (xaC (xtup (xaC (xv 3) (xaC (xv 2) xaN))) xaN)))))))
 xsN)
 (xsC (xset 3 sc_law_fold.nd (xB (callMin rfl) rfl T.z_min PyProof.Rows.boot_min (xaC (xv 3) (xaC (xb oMul xint (xb oPow xint xint)) xaN))))
 (xsC (xset 4 sc_law_fold.nd (xb oAdd (xb oAdd (xv 3) xint) (xb oMod (xF G_law_mixed (hr.mono (by decide)) (xaC (xv 0) (xaC xint xaN))) (xb oMul xint (xv 3)))))
 (xs1 (xret (xtup (xaC xstr (xaC xstr (xaC (xtup (xaC xstr xaN)) (xaC (xtup (xaC (xv 4) (xaC (xv 3) (xaC (xv 2) xaN)))) xaN))))))))))))))),bF,F.kp,mF⟩
noncomputable abbrev s_law_windows:Stmt:=top 19
theorem sc_law_windows:FnScope ["_law_row","_law_time","_law_step","_law_found","_law_window"] ["_law_row","_law_time"] (defScope s_law_windows):=⟨rfl,rfl,rfl,by decide +kernel,rfl,by decide +kernel,by decide +kernel⟩
theorem ok_law_windows {f:Addr}{fd:FuncData} (F:Fun K "_law_windows" "_law_windows" s_law_windows f fd) (bF:Binds K fd ["_law_row","_law_time"] []) (mF:mg "_law_windows"=some (.ref f)) (T:Blt w K mg) :DefOk P w K mg base 1 "_law_windows" m_law_windows :=
 ⟨f,fd,["_law_row","_law_time"],fn_ok F sc_law_windows rfl rfl (fun cdv A outer s H E hr =>
 (xsC (xsif (xt (cEq hr.units) (xix2 (xv 0) xint) xstr)
 (xs1 (xret (xlst (xaC xint xaN))))
 xsN)
 (xsC (xset 2 sc_law_windows.nd (xix2 (xix2 (xv 0) xint) (xneg xint)))
 (xsC (xown 3 sc_law_windows.nd (xoLst xaN))
 (xsC (xforR2 T.z_range (xgN 4 sc_law_windows.nd) (xb oSub (xb oDiv (xv 1) (xv 2)) xint) (xb oAdd (xb oDiv (xv 1) (xv 2)) xint) (xs1 (xsif (xt3 cLe cLt (xb oMul (xv 4) (xv 2)) (xv 1) (xb oAdd (xb oMul (xv 4) (xv 2)) (xix2 (xix2 (xv 0) xint) xint)))
 (xs1 (xapp 3 (xaC (xv 4) xaN)))
 xsN)))
 (xs1 (xfrz 3 (xret (xv 3))))))))),bF,F.kp,mF⟩
noncomputable abbrev s_law_due:Stmt:=top 20
theorem sc_law_due:FnScope ["_law_row","_law_things_here","_law_cells","_law_time","_law_key","_law_value","_law_window"] ["_law_row","_law_things_here"] (defScope s_law_due):=⟨rfl,rfl,rfl,by decide +kernel,rfl,by decide +kernel,by decide +kernel⟩
theorem ok_law_due {f:Addr}{fd:FuncData} (F:Fun K "_law_due" "_law_due" s_law_due f fd) (bF:Binds K fd ["_law_row","_law_things_here"] []) (mF:mg "_law_due"=some (.ref f)) (T:Blt w K mg) (G_law_amount:DefOk P w K mg base 1 "_law_amount" m_law_amount) (G_law_windows:DefOk P w K mg base 1 "_law_windows" m_law_windows):DefOk P w K mg base 2 "_law_due" m_law_due :=
 ⟨f,fd,["_law_row","_law_things_here"],fn_ok F sc_law_due rfl rfl (fun cdv A outer s H E hr =>
 (xsC (xtn 2 sc_law_due.nd)
 (xsC (xfor (xgT (xgsC (xgN 3 sc_law_due.nd) (xgsC (xgN 4 sc_law_due.nd) (xgsC (xgN 5 sc_law_due.nd) xgs0)))) (xv 1)
 (xs1 (xfor (xgN 6 sc_law_due.nd) (xF G_law_windows (hr.mono (by decide)) (xaC (xv 0) (xaC (xv 3) xaN)))
 (xs1 (xtk 2 (hu_of hr) (xaC (xv 4) (xaC (xv 6) xaN)) (xb oAdd (xtg 2 (hu_of hr) (xaC (xv 4) (xaC (xv 6) xaN)) (xlst xaN)) (xlst (xaC (xv 5) xaN))))))))
 (xs1 (xft 2 (xret (xB (callSortV hr.units) rfl T.z_sorted PyProof.Rows.boot_sorted (xaC (xli (sc:=defScope s_law_due) rfl rfl (by show ScB2 ["_law_row","_law_things_here","_law_cells","_law_time","_law_key","_law_value","_law_window"] (defScope s_law_due) _ "_law_cell" "_law_values" ["_law_row"] [0];exact⟨⟨rfl,rfl,by decide +kernel,by decide +kernel,rfl,by decide +kernel,by decide +kernel,rfl,by decide +kernel⟩,rfl,by decide +kernel⟩) (xv 2) (fun _ _ _ _=>xts_nil) (fun _ _ _ _=>(xtup (xaC (xv 0) (xaC (xF G_law_amount (hr.mono (by decide)) (xaC (xix2 (xix2 (xv 2) xint) (xneg xint)) (xaC (xv 1) xaN))) xaN))))) xaN)))))))),bF,F.kp,mF⟩
noncomputable abbrev s_law:Stmt:=top 21
theorem sc_law:FnScope ["_law_script","_law_keys_here","_law_row","_law_things_here","_law_due_here","_law_handed","_law_found"] ["_law_script"] (defScope s_law):=⟨rfl,rfl,rfl,by decide +kernel,rfl,by decide +kernel,by decide +kernel⟩
theorem fn_law {f:Addr}{fd:FuncData} (F:Fun K "law" "law" s_law f fd) (T:Blt w K mg) (G_law_cell_at:DefOk P w K mg base 1 "_law_cell_at" m_law_cell_at) (G_law_due:DefOk P w K mg base 2 "_law_due" m_law_due) (G_law_fold:DefOk P w K mg base 3 "_law_fold" m_law_fold) (G_law_keys:DefOk P w K mg base 2 "_law_keys" m_law_keys) (G_law_mixed:DefOk P w K mg base 1 "_law_mixed" m_law_mixed) (G_law_things:DefOk P w K mg base 3 "_law_things" m_law_things) (G_fold_cells:DefN P w K mg base 3 "fold_cells" m_fold_cells):FnOk P w K mg base CX0 4 f fd ["_law_script"] (spP K m_law) :=
 fn_ok F sc_law rfl rfl (fun cdv A outer s H E hr =>
 (xsC (xset 1 sc_law.nd (xF G_law_keys (hr.mono (by decide)) (xaC (xF G_law_cell_at (hr.mono (by decide)) (xaC (xv 0) (xaC xint xaN))) xaN)))
 (xsC (xset 2 sc_law.nd (xF G_law_fold (hr.mono (by decide)) (xaC (xF G_law_cell_at (hr.mono (by decide)) (xaC (xv 0) (xaC xint xaN))) xaN)))
 (xsC (xset 3 sc_law.nd (xF G_law_things (hr.mono (by decide)) (xaC (xF G_law_cell_at (hr.mono (by decide)) (xaC (xv 0) (xaC xint xaN))) (xaC (xv 1) (xaC (xb oMod (xF G_law_mixed (hr.mono (by decide)) (xaC (xF G_law_cell_at (hr.mono (by decide)) (xaC (xv 0) (xaC xint xaN))) (xaC xint xaN))) xint) xaN)))))
 (xsC (xset 4 sc_law.nd (xF G_law_due (hr.mono (by decide)) (xaC (xv 2) (xaC (xv 3) xaN))))
 (xsC (xset 5 sc_law.nd (xTy callList rfl T.z_list PyProof.Rows.boot_list (xaC (xv 3) xaN)))
 (xsC (xnew 6 sc_law.nd G_fold_cells (hr.mono (by decide)) (xaC (xv 2) (xaC (xv 5) xaN)))
 (xsC (xsif (xthl 6 (xw (xwor (xtnot (xtv (xty (t:=.list) T.z_isinstance T.z_list PyProof.Rows.boot_list (xv 6)) (fun _=>rfl))) (xwor (xt (cNe hr.units) (xv 6) (xv 4)) (xwor1 (xt (cNe hr.units) (xv 5) (xv 3)))))))
 (xs1 (xret xbl))
 xsN)
 (xsC (xsif (xthl 6 (xtv (xB (callAnyO rfl) rfl T.z_any PyProof.Rows.boot_any (xaC (xlc (sc:=defScope s_law) rfl rfl (by show ScB ["_law_script","_law_keys_here","_law_row","_law_things_here","_law_due_here","_law_handed","_law_found"] (defScope s_law) _ "_law_one" [] [];exact⟨rfl,rfl,by decide +kernel,by decide +kernel,rfl,by decide +kernel,by decide +kernel,rfl,by decide +kernel⟩) (xv 6) (fun _ _ _ _=>xts_nil) (fun _ _ _ _=>(xor (xnot (xty (t:=.tuple) T.z_isinstance T.z_tuple PyProof.Rows.boot_tuple (xv 0))) (xone (xty (t:=.bool) T.z_isinstance T.z_bool PyProof.Rows.boot_bool (xix2 (xv 0) xint)))))) xaN)) (fun _=>rfl)))
 (xs1 (xret xbl))
 xsN)
 (xsC (xclr 6)
 (xs1 (xret (xcmp (cEq hr.units) (xNL G_fold_cells (hr.mono (by decide)) (xaC (xv 2) (xaC (xrev (xv 3)) xaN))) (xv 4))))))))))))))
end
end Fx
namespace Fx
open PySem
theorem okMul_r {i j:Int} (h:j.natAbs<2 ^ 64):okMul i j=true:=by
 unfold okMul;rw[decide_eq_true h];simp
theorem okMul_l {i j:Int} (h:i.natAbs<2 ^ 64):okMul i j=true:=by
 unfold okMul;rw[decide_eq_true h];simp
theorem okDiv_s {j:Int} (h0:j≠0) (h:j.natAbs<2 ^ 64):okDiv j=true:=by
 unfold okDiv;rw[decide_eq_true h0,decide_eq_true (Nat.lt_trans h (Nat.pow_lt_pow_right (by decide) (by decide)))];rfl
end Fx
namespace Fx
open PySem
theorem bitAnd_bounds (x m:Int) (hm:0<=m):0<=Builtin.bitAnd x m/\Builtin.bitAnd x m<=m:=by
 unfold Builtin.bitAnd
 split
 ·have h:x.toNat &&& m.toNat<=m.toNat:=Nat.and_le_right
  omega
 ·rename_i h;simp at h;omega
 ·have h:m.toNat &&& (Builtin.bitNot x).toNat<=m.toNat:=Nat.and_le_left
  omega
 ·rename_i h;simp at h;omega
theorem bitXor_nn {x y:Int} (hx:0<=x) (hy:0<=y):Builtin.bitXor x y=((x.toNat ||| y.toNat:Nat):Int)-((x.toNat &&& y.toNat:Nat):Int):=by
 have e1:Builtin.bitAnd x y=((x.toNat &&& y.toNat:Nat):Int):=by
  unfold Builtin.bitAnd;rw[decide_eq_true hx,decide_eq_true hy]
 have e2:Builtin.bitOr x y=((x.toNat ||| y.toNat:Nat):Int):=by
  have a:decide (0<=Builtin.bitNot x)=false:=decide_eq_false (by unfold Builtin.bitNot;omega)
  have b:decide (0<=Builtin.bitNot y)=false:=decide_eq_false (by unfold Builtin.bitNot;omega)
  have n1:Builtin.bitNot (Builtin.bitNot x)=x:=by unfold Builtin.bitNot;omega
  have n2:Builtin.bitNot (Builtin.bitNot y)=y:=by unfold Builtin.bitNot;omega
  unfold Builtin.bitOr Builtin.bitAnd;rw[a,b];simp only[n1,n2];unfold Builtin.bitNot;omega
 unfold Builtin.bitXor;rw[e1,e2]
theorem bitXor_bounds {x y:Int}{k:Nat} (hx:0<=x) (hy:0<=y) (bx:x<2 ^ k) (by':y<2 ^ k):0<=Builtin.bitXor x y/\Builtin.bitXor x y<2 ^ k:=by
 rw[bitXor_nn hx hy];have p:((2 ^ k:Nat):Int)=(2:Int) ^ k:=by push_cast;rfl
 have h1:x.toNat<2 ^ k:=by omega
 have h2:y.toNat<2 ^ k:=by omega
 have h3:=Nat.or_lt_two_pow h1 h2;have h4:x.toNat &&& y.toNat<=x.toNat:=Nat.and_le_left;have h5:x.toNat<=x.toNat ||| y.toNat:=Nat.left_le_or;omega
end Fx
namespace Fx
open PySem
theorem mixed_eq (c k:Int) (hk:0<=k):∃ r:Int,m_law_mixed [.int c,.int k]=some (.int r)/\0<=r/\r<2147483648:=by
 have a:∀ x:Int,0<=Int.fmod x 2147483647/\Int.fmod x 2147483647<2147483647:=fun x=>⟨Int.fmod_nonneg_of_pos _ (by decide),Int.fmod_lt_of_pos _ (by decide)⟩
 have e:0<=31*k+31:=by omega
 have m1:∀ x:Int,okMul x 48271=true:=fun x=>okMul_r (by decide)
 have m2:okMul 7919 k=true:=okMul_l (by decide)
 have m3:okMul 31 k=true:=okMul_l (by decide)
 have m4:∀ x y:Int,okMul (Int.fmod x 2147483647) y=true:=fun x y=>okMul_l (by have:=a x;omega)
 have d1:okDiv 1009=true:=okDiv_s (by decide) (by decide)
 have d2:okDiv 1013=true:=okDiv_s (by decide) (by decide)
 have b:=bitAnd_bounds (c / 2 ^ (31*k+31).toNat) 2147483647 (by decide)
 refine⟨_,by simp[m_law_mixed,b_law_mixed,e,m1,m2,m3,m4,d1,d2];rfl,?_⟩
 exact bitXor_bounds (k:=31) (a _).1 b.1 (Int.lt_trans (a _).2 (by decide)) (Int.lt_of_le_of_lt b.2 (by decide))
theorem number_eq (c k:Int) (hk:0<=k):∃ r:Int,m_law_number [.int c,.int k]=some (.int r)/\-429496730000<=r/\r<429496730000:=by
 obtain⟨n,e,n0,n1⟩:=mixed_eq c k hk;have m:okMul (n-1073741824) 400=true:=okMul_r (by decide)
 have b:=bitAnd_bounds n 255 (by decide)
 have f0:=Int.fmod_nonneg_of_pos (n / 4) (b:=13) (by decide)
 have f1:=Int.fmod_lt_of_pos (n / 4) (b:=13) (by decide)
 by_cases h:0<Builtin.bitAnd n 3
 ·refine⟨Int.fmod (n / 4) 13-6,by simp[m_law_number,b_law_number,e,h],by omega,by omega⟩
 ·refine⟨(n-1073741824)*400+Builtin.bitAnd n 255,by simp[m_law_number,b_law_number,e,h,m],by omega,by omega⟩
end Fx
namespace Fx
open PySem
noncomputable abbrev alpha:Str:=Str.ofString "abcdefghijklmnopqrstuvwxyz"
theorem alpha_len:alpha.length=26:=by decide +kernel
theorem alpha_at:∀ j:Nat,j<26->alpha.cps.toList[j]?=some (97+j):=by
 have e:alpha.cps.toList=List.range' 97 26:=by decide +kernel
 intro j hj;rw[e,List.getElem?_range' hj];simp
theorem small_line {n:Nat} (h:n<=1000):n<=sizeLine:=Nat.le_trans h (by decide)
theorem letter_ix {i:Int} (h0:0<=i) (h1:i<26):atS alpha i=some (.str (chS (97+i.toNat))):=by
 unfold atS;rw[if_pos (by rw[alpha_len];exact small_line (by decide))]
 have l:alpha.cps.toList.length=26:=by decide +kernel
 unfold dPl;rw[l,if_pos h0,if_pos (by exact_mod_cast h1),bnd_some,alpha_at _ (by omega),bnd_some]
theorem fm26 (x:Int):0<=x.fmod 26/\x.fmod 26<26:=⟨Int.fmod_nonneg_of_pos _ (by decide),Int.fmod_lt_of_pos _ (by decide)⟩
noncomputable def ltr (x:Int):Str:=chS (97+(x.fmod 26).toNat)
theorem ltr_ix (x:Int):atS alpha (x.fmod 26)=some (.str (ltr x)):=letter_ix (fm26 x).1 (fm26 x).2
theorem ltr_ne {x y:Int}{s u:Str} (h:¬ x.fmod 26=y.fmod 26):¬ (ltr x++s=ltr y++u):=by
 intro e;have e1:(ltr x++s).cps.toList=(ltr y++u).cps.toList:=by rw[e]
 have e2:(97+(x.fmod 26).toNat)::s.cps.toList=(97+(y.fmod 26).toNat)::u.cps.toList:=by
  have a:∀ (c:Nat) (z:Str),(chS c++z).cps.toList=c::z.cps.toList:=fun c z=>by
   show ((chS c).cps++z.cps).toList=_;rw[Array.toList_append];rfl
  have b:=e1;unfold ltr at b;rw[a,a] at b;exact b
 injection e2 with e3 _
 have:=fm26 x;have:=fm26 y;omega
theorem stem_eq (ss:List Str) (hn:ss.length ≤ 3) (h:∀ s∈ss,s.length=1):∃ z:Str,joinL (Str.ofString "") (ss.map .str)=some (.str z) ∧ z.length ≤ 900:=by
 have le:(Str.ofString "").length=0:=by decide +kernel
 have q:∀ n:Nat,n<=3->n+0<=1000000:=fun n h=>by omega
 unfold joinL;rw[strs_map,bnd_some,le,Nat.mul_zero,Nat.add_zero]
 have ap:∀ a b:Str,(a++b).length=a.length+b.length:=fun a b=>by
  show (a.cps++b.cps).size=_;rw[Array.size_append];rfl
 match ss,hn,h with
 |[],_,_=>exact⟨_,if_pos (by simp),by show (Str.empty).length<=_;decide⟩
 |[a],_,h=>exact⟨_,if_pos (by simp[h a (by simp)]),by show a.length<=_;rw[h a (by simp)];decide⟩
 |[a,b],_,h =>
  refine⟨_,if_pos (by simp[h a (by simp),h b (by simp)]),?_⟩
  show (a++Str.ofString ""++b).length ≤ _;rw[ap,ap,le,h a (by simp),h b (by simp)];decide
 |[a,b,c],_,h =>
  refine⟨_,if_pos (by simp[h a (by simp),h b (by simp),h c (by simp)]),?_⟩
  show (a++Str.ofString ""++(b++Str.ofString ""++c)).length ≤ _;rw[ap,ap,ap,ap,le,h a (by simp),h b (by simp),h c (by simp)];decide
theorem fmod26 (x:Int):x.fmod 26=x % 26:=by rw[Int.fmod_eq_emod_of_nonneg _ (by decide)]
theorem keys_eq (c:Int):∃ k0 k1 k2 k3 k4:Str,m_law_keys [.int c]=some (.lst [.str k0,.str k1,.str k2,.str k3,.str k4])/\[k0,k1,k2,k3,k4].Nodup:=by
 obtain⟨n,en,n0,n1⟩:=mixed_eq c 900 (by decide)
 have bj:=bitAnd_bounds (n / 1048576) 3 (by decide)
 have st:∀ (k:Int),0<=k->e2 dIx2 (eV 1) (e2 dMod (e2 dBand (e2 dShr (eV 2) (e2 dMul (eC (.int 5)) (eV 0))) (eC (.int 31))) (eC (.int 26))) [.im (.int k),.im (.str alpha),.im (.int n)]
   = some (.str (ltr (Builtin.bitAnd (n / 2 ^ (5*k).toNat) 31)),[.im (.int k),.im (.str alpha),.im (.int n)]):=fun k hk=>by
  have h1:okMul 5 k=true:=okMul_l (by decide)
  have h2:0<=5*k:=by omega
  simp[h1,h2,ltr_ix]
 have go:∀ (m:Nat),m<=3->∃ ss:List Str,cGo tYes (e2 dIx2 (eV 1) (e2 dMod (e2 dBand (e2 dShr (eV 2) (e2 dMul (eC (.int 5)) (eV 0))) (eC (.int 31))) (eC (.int 26)))) [.im (.str alpha),.im (.int n)] (rngD 0 m)=some (ss.map .str)/\ss.length=m/\∀ s∈ss,s.length=1:=fun m hm=>by
  have:∀ (m:Nat) (lo:Int),0<=lo->∃ ss:List Str,cGo tYes (e2 dIx2 (eV 1) (e2 dMod (e2 dBand (e2 dShr (eV 2) (e2 dMul (eC (.int 5)) (eV 0))) (eC (.int 31))) (eC (.int 26)))) [.im (.str alpha),.im (.int n)] (rngD lo m)=some (ss.map .str)/\ss.length=m/\∀ s∈ss,s.length=1:=by
   intro m
   induction m with
   |zero=>intro lo _;exact⟨[],rfl,rfl,fun s h=>by cases h⟩
   |succ m ih =>
    intro lo hlo;obtain⟨ss,e,l,h⟩:=ih (lo+1) (by omega)
    refine⟨ltr (Builtin.bitAnd (n / 2 ^ (5*lo).toNat) 31)::ss,?_,by rw[List.length_cons,l],fun s hs=>?_⟩
    ·show cGo _ _ _ (.int lo::rngD (lo+1) m)=_
     rw[cGo_c];show cGa _ _ _ _ (some (true,_))=_;rw[cGa_t,st lo hlo,cGb_s,e,cnsO_s];rfl
    ·rcases List.mem_cons.mp hs with rfl | q
     ·rfl
     ·exact h s q
  exact this m 0 (by decide)
 obtain⟨ss,ess,ls,hs⟩:=go (Builtin.bitAnd (n / 1048576) 3).toNat (by omega)
 obtain⟨z,ez,lz⟩:=stem_eq ss (by omega) hs
 have sl:∀ i:Option Int,1+(Txt.slice z none i).length<=sizeLine:=fun i=>small_line (by have:=Txt.slice_le z none i;omega)
 have zl:z.length<=sizeLine:=small_line (by omega)
 have r1:Builtin.bitAnd (n / 1048576) 3<4611686018427387904:=by omega
 have r2:-4611686018427387904<=Builtin.bitAnd (n / 1048576) 3:=by omega
 have r3:(rngD 0 (Builtin.bitAnd (n / 1048576) 3).toNat).length<=sizeLine:=by
  have:∀ (m:Nat) (lo:Int),(rngD lo m).length=m:=by
   intro m;induction m with
   |zero=>intro _;rfl
   |succ m ih=>intro lo;show (rngD (lo+1) m).length+1=_;rw[ih]
  rw[this];exact small_line (by omega)
 obtain⟨K,hK⟩:∃ K:Int->Str,∀ k:Int,K k=ltr (n / 4194304+7*k)++Txt.slice z none (some (k.fmod 4)):=⟨_,fun _=>rfl⟩
 have el:∀ k:Int,e2 dAdd (e2 dIx2 (eV 1) (e2 dMod (e2 dAdd (e2 dShr (eV 3) (eC (.int 22))) (e2 dMul (eC (.int 7)) (eV 0))) (eC (.int 26)))) (eSl2 (eV 2) oN (oS (e2 dMod (eV 0) (eC (.int 4))))) [.im (.int k),.im (.str alpha),.im (.str z),.im (.int n)]
   = some (.str (K k),[.im (.int k),.im (.str alpha),.im (.str z),.im (.int n)]):=fun k=>by
  have h1:okMul 7 k=true:=okMul_l (by decide)
  have h3:(ltr (n / 4194304+7*k)).length+(Txt.slice z none (some (k.fmod 4))).length<=sizeLine:=sl _;rw[hK];simp[h1,ltr_ix,zl,h3]
 have lp:cGo tYes (e2 dAdd (e2 dIx2 (eV 1) (e2 dMod (e2 dAdd (e2 dShr (eV 3) (eC (.int 22))) (e2 dMul (eC (.int 7)) (eV 0))) (eC (.int 26)))) (eSl2 (eV 2) oN (oS (e2 dMod (eV 0) (eC (.int 4)))))) [.im (.str alpha),.im (.str z),.im (.int n)] (rngD 0 5)
   = some [.str (K 0),.str (K 1),.str (K 2),.str (K 3),.str (K 4)]:=by
  have t:∀ ρ:En,tYes ρ=some (true,ρ):=fun _=>rfl
  show cGo _ _ _ [.int 0,.int 1,.int 2,.int 3,.int 4]=_;rw[cGo_c,t,cGa_t,el 0,cGb_s,cGo_c,t,cGa_t,el 1,cGb_s,cGo_c,t,cGa_t,el 2,cGb_s,cGo_c,t,cGa_t,el 3,cGb_s,cGo_c,t,cGa_t,el 4,cGb_s,cGo_n];rfl
 have l5:(rngD 0 5).length<=sizeLine:=small_line (by decide)
 have ne:∀ i j:Int,¬ (n / 4194304+7*i) % 26=(n / 4194304+7*j) % 26->¬ K i=K j:=fun i j h=>by
  rw[hK,hK];exact ltr_ne (by rw[fmod26,fmod26];exact h)
 refine⟨K 0,K 1,K 2,K 3,K 4,?_,?_⟩
 ·simp[m_law_keys,b_law_keys,en,List.replicate,ess,r1,r2,r3,ez,lp,l5]
 ·have:=ne 0 1 (by omega);have:=ne 0 2 (by omega);have:=ne 0 3 (by omega);have:=ne 0 4 (by omega)
  have:=ne 1 2 (by omega);have:=ne 1 3 (by omega);have:=ne 1 4 (by omega)
  have:=ne 2 3 (by omega);have:=ne 2 4 (by omega);have:=ne 3 4 (by omega)
  simp_all
end Fx
namespace Fx
open PySem
structure Th where
 t:Int
 k:Str
 v:Int
 deriving DecidableEq
noncomputable def tD (x:Th):D:=.tup [.int x.t,.str x.k,.int x.v]
end Fx
namespace Fx
open PySem
theorem at_map {α:Type} (f:α->D) (xs:List α) {i:Int} (h0:0<=i) (h1:i<xs.length):∃ x,x∈xs/\atD (xs.map f) i=some (f x):=by
 have hi:i.toNat<xs.length:=by omega
 refine⟨xs[i.toNat],List.getElem_mem hi,?_⟩;unfold atD dPl;rw[List.length_map,if_pos h0,if_pos h1];show (xs.map f)[i.toNat]?=_;rw[List.getElem?_map,List.getElem?_eq_getElem hi];rfl
theorem ix2_any (a b:Int) {i:Int} (h0:0<=i) (h1:i<=1):atD [.int a,.int b] i=some (.int (if i=0 then a else b)):=by
 have:i=0\/i=1:=by omega
 rcases this with rfl | rfl <;> rfl
theorem ix5 (k0 k1 k2 k3 k4:Str) {i:Int} (h0:0<=i) (h1:i<5):∃ x:Str,atD [.str k0,.str k1,.str k2,.str k3,.str k4] i=some (.str x):=by
 obtain⟨x,_,e⟩:=at_map D.str [k0,k1,k2,k3,k4] h0 (by simpa using h1)
 exact⟨x,e⟩
theorem third (n:Int):0<=Int.fdiv (Builtin.bitAnd (n / 1048576) 3) 3/\Int.fdiv (Builtin.bitAnd (n / 1048576) 3) 3<=1:=by
 have b:=bitAnd_bounds (n / 1048576) 3 (by decide)
 rw[Int.fdiv_eq_ediv_of_nonneg _ (by decide)]
 omega
theorem d3:okDiv 3=true:=okDiv_s (by decide) (by decide)
noncomputable def P3 (c:Int) (k0 k1 k2 k3 k4:Str) (m:Int) (n:Nat) (ρ:En):Prop:=∃ (L:List Th) (s4 s5 s6:Sl),(L.length<=n/\∀ x∈L,0<=x.t/\x.t<1000000000000)/\ρ=[.im (.int c),.im (.lst [.str k0,.str k1,.str k2,.str k3,.str k4]),.im (.int m),.ow false (.lst (L.map tD)),s4,s5,s6]
theorem things_step (c:Int) (k0 k1 k2 k3 k4:Str) (m:Int) (j:Nat) (hj:j<100) (i:Int) (hi:0<=i) (L:List Th) (hL:L.length<=j/\∀ x∈L,0<=x.t/\x.t<1000000000000) (s5 s6:Sl):∃ ρ',l_law_things_1 [.im (.int c),.im (.lst [.str k0,.str k1,.str k2,.str k3,.str k4]),.im (.int m),.ow false (.lst (L.map tD)),.im (.int i),s5,s6]=some (.nx ρ')/\P3 c k0 k1 k2 k3 k4 m (j+1) ρ':=by
 have a1:okMul 3 i=true:=okMul_l (by decide)
 obtain⟨n,en,n0,n1⟩:=mixed_eq c (3*i) (by omega)
 obtain⟨x,ex,x0,x1⟩:=number_eq c (3*i+1) (by omega)
 obtain⟨v,ev,_,_⟩:=number_eq c (3*i+2) (by omega)
 have ei:=ix2_any ((n / 4).fmod 30) (x.natAbs:Int) (third n).1 (third n).2
 have tb:0<=(if (Builtin.bitAnd (n / 1048576) 3).fdiv 3=0 then (n / 4).fmod 30 else (x.natAbs:Int))/\(if (Builtin.bitAnd (n / 1048576) 3).fdiv 3=0 then (n / 4).fmod 30 else (x.natAbs:Int))<1000000000000:=by
  have g1:=Int.fmod_nonneg_of_pos (n / 4) (b:=30) (by decide)
  have g2:=Int.fmod_lt_of_pos (n / 4) (b:=30) (by decide)
  split <;> omega
 generalize (if (Builtin.bitAnd (n / 1048576) 3).fdiv 3=0 then (n / 4).fmod 30 else (x.natAbs:Int))=t at ei tb
 have f0:=Int.fmod_nonneg_of_pos (Builtin.bitAnd n 3) (b:=3) (by decide)
 have f1:=Int.fmod_lt_of_pos (Builtin.bitAnd n 3) (b:=3) (by decide)
 obtain⟨k,ek⟩:=ix5 k0 k1 k2 k3 k4 f0 (by omega)
 have hl:L.length<1000000:=by have:=hL.1;omega
 refine⟨_,by simp[l_law_things_1,a1,en,ex,ev,ei,ek,d3,hl];rfl,L++[⟨t,k,v⟩],.im (.int i),.im (.int n),.im (.int t),⟨by rw[List.length_append,List.length_singleton];have:=hL.1;omega,fun y hy=>?_⟩,?_⟩
 ·rcases List.mem_append.mp hy with hy | hy
  ·exact hL.2 y hy
  ·rw[List.mem_singleton.mp hy];exact tb
 rw[List.map_append];rfl
theorem fGo_cnt {g:D->En->Option En}{B:FS} (P:Nat->En->Prop):∀ (n:Nat) (lo:Int) (j:Nat) (ρ:En),(∀ (i:Nat) ρ,i<n->P (j+i) ρ->∃ ρ1 ρ2,g (.int (lo+i)) ρ=some ρ1/\B ρ1=some (.nx ρ2)/\P (j+i+1) ρ2)->P j ρ->∃ ρ',fGo g B (rngD lo n) ρ=some (.nx ρ')/\P (j+n) ρ'
 |0,lo,j,ρ,_,p=>⟨ρ,rfl,p⟩
 |n+1,lo,j,ρ,h,p=>by
  obtain⟨ρ1,ρ2,h1,h2,p2⟩:=h 0 ρ (by omega) p
  have h1':g (.int lo) ρ=some ρ1:=by simpa using h1
  obtain⟨ρ',e,p'⟩:=fGo_cnt P n (lo+1) (j+1) ρ2 (fun i ρ hi q=>by
   obtain⟨a,b,c,d,e⟩:=h (i+1) ρ (by omega) (by rw[show j+(i+1)=j+1+i by omega];exact q)
   refine⟨a,b,?_,d,by rw[show j+1+i+1=j+(i+1)+1 by omega];exact e⟩
   rw[show lo+1+(i:Int)=lo+((i+1:Nat):Int) by push_cast;omega];exact c) p2
  refine⟨ρ',?_,by rw[show j+(n+1)=j+1+n by omega];exact p'⟩
  rw[show rngD lo (n+1)=.int lo::rngD (lo+1) n from rfl,fGo_c,h1',fGa_s,h2,fGb_n];exact e
theorem things_eq (c:Int) (k0 k1 k2 k3 k4:Str) (m:Int) (h0:0<=m) (h1:m<17):∃ L:List Th,m_law_things [.int c,.lst [.str k0,.str k1,.str k2,.str k3,.str k4],.int m]=some (.lst (L.map tD))/\L.length<=16/\∀ x∈L,0<=x.t/\x.t<1000000000000:=by
 obtain⟨ρ',e,L,s4,s5,s6,hl,rfl⟩:=fGo_cnt (g:=gN 4) (B:=l_law_things_1) (P3 c k0 k1 k2 k3 k4 m) m.toNat 0 0 [.im (.int c),.im (.lst [.str k0,.str k1,.str k2,.str k3,.str k4]),.im (.int m),.ow false (.lst []),.no,.no,.no]
  (fun i ρ hi p=>by
   obtain⟨L,a4,a5,a6,hl,rfl⟩:=p;obtain⟨ρ',e,p'⟩:=things_step c k0 k1 k2 k3 k4 m (0+i) (by omega) (0+i) (by omega) L hl a5 a6
   exact⟨_,ρ',rfl,e,p'⟩) ⟨[],_,_,_,⟨Nat.le_refl _,fun x hx=>by cases hx⟩,rfl⟩
 refine⟨L,?_,by have:=hl.1;omega,hl.2⟩
 have r1:-4611686018427387904<=m:=by omega
 have r2:m<4611686018427387904:=by omega
 simp[m_law_things,b_law_things,List.replicate,r1,r2,e]
end Fx
namespace Fx
open PySem
theorem ints_map:∀ vs:List Int,intsOf (vs.map D.int)=some vs
 |[]=>rfl
 |v::r=>by
  show bnd (intsOf (r.map D.int)) _=_;rw[ints_map r];rfl
noncomputable abbrev wC:Str:=Str.ofString "count"
noncomputable abbrev wS:Str:=Str.ofString "sum"
noncomputable abbrev wM:Str:=Str.ofString "most"
noncomputable abbrev wL:Str:=Str.ofString "least"
theorem n3:(wS=wC)=False:=eq_false (by decide +kernel)
theorem n4:(wM=wC)=False:=eq_false (by decide +kernel)
theorem n5:(wM=wS)=False:=eq_false (by decide +kernel)
theorem n6:(wM=wL)=False:=eq_false (by decide +kernel)
theorem n7:(wL=wC)=False:=eq_false (by decide +kernel)
theorem n8:(wL=wS)=False:=eq_false (by decide +kernel)
theorem n9:(wL=wM)=False:=eq_false (by decide +kernel)
noncomputable abbrev IsW (w:Str):Prop:=w=wC\/w=wS\/w=wM\/w=wL
theorem maxI_in:∀ (r:List Int) (a:Int),maxI a r∈a::r/\∀ x∈a::r,x<=maxI a r
 |[],a=>⟨List.mem_cons_self,fun x hx=>by rw[List.mem_singleton.mp hx];exact Int.le_refl _⟩
 |b::r,a=>by
  have e:maxI a (b::r)=maxI (if a<b then b else a) r:=rfl;rw[e];obtain⟨h1,h2⟩:=maxI_in r (if a<b then b else a);have h3:=h2 _ List.mem_cons_self;have h4:∀ z,z=(if a<b then b else a)->a<=z/\b<=z/\(z=a\/z=b):=fun z e=>by subst e;split <;> omega
  have h5:=h4 _ rfl
  generalize (if a<b then b else a)=z at *
  refine⟨?_,fun x hx=>?_⟩
  ·rcases List.mem_cons.mp h1 with h | h
   ·rw[h];rcases h5.2.2 with e | e <;> rw[e] <;> simp
   ·simp[h]
  ·rcases List.mem_cons.mp hx with rfl | hx
   ·omega
   ·rcases List.mem_cons.mp hx with rfl | hx
    ·omega
    ·exact h2 x (List.mem_cons_of_mem _ hx)
theorem minI_in:∀ (r:List Int) (a:Int),minI a r∈a::r/\∀ x∈a::r,minI a r<=x
 |[],a=>⟨List.mem_cons_self,fun x hx=>by rw[List.mem_singleton.mp hx];exact Int.le_refl _⟩
 |b::r,a=>by
  have e:minI a (b::r)=minI (if b<a then b else a) r:=rfl;rw[e];obtain⟨h1,h2⟩:=minI_in r (if b<a then b else a);have h3:=h2 _ List.mem_cons_self;have h4:∀ z,z=(if b<a then b else a)->z<=a/\z<=b/\(z=a\/z=b):=fun z e=>by subst e;split <;> omega
  have h5:=h4 _ rfl
  generalize (if b<a then b else a)=z at *
  refine⟨?_,fun x hx=>?_⟩
  ·rcases List.mem_cons.mp h1 with h | h
   ·rw[h];rcases h5.2.2 with e | e <;> rw[e] <;> simp
   ·simp[h]
  ·rcases List.mem_cons.mp hx with rfl | hx
   ·omega
   ·rcases List.mem_cons.mp hx with rfl | hx
    ·omega
    ·exact h2 x (List.mem_cons_of_mem _ hx)
noncomputable def amt (w:Str):List Int->Int
 |[]=>0
 |a::r=>if w=wC then ((a::r).length:Int) else if w=wS then (a::r).sum else if w=wM then maxI a r else minI a r
theorem sum_perm {l m:List Int} (p:l.Perm m):l.sum=m.sum:=by
 induction p with
 |nil=>rfl
 |cons x _ ih=>simp[ih]
 |swap x y l=>simp;omega
 |trans _ _ h1 h2=>rw[h1,h2]
theorem amt_perm {w:Str}{l m:List Int} (p:l.Perm m):amt w l=amt w m:=by
 cases l with
 |nil=>rw[List.nil_perm.mp p]
 |cons a r =>
  cases m with
  |nil=>exact absurd p.length_eq (by simp)
  |cons b t =>
   have e1:=p.length_eq;have e2:=sum_perm p
   have e3:maxI a r=maxI b t:=by
    obtain⟨h1,h2⟩:=maxI_in r a;obtain⟨h3,h4⟩:=maxI_in t b;have:=h4 _ (p.mem_iff.mp h1);have:=h2 _ (p.mem_iff.mpr h3);omega
   have e4:minI a r=minI b t:=by
    obtain⟨h1,h2⟩:=minI_in r a;obtain⟨h3,h4⟩:=minI_in t b;have:=h4 _ (p.mem_iff.mp h1);have:=h2 _ (p.mem_iff.mpr h3);omega
   show (if w=wC then ((a::r).length:Int) else if w=wS then (a::r).sum else if w=wM then maxI a r else minI a r)=(if w=wC then ((b::t).length:Int) else if w=wS then (b::t).sum else if w=wM then maxI b t else minI b t);rw[e1,e2,e3,e4]
theorem amount_eq {w:Str} (hw:IsW w) {vs:List Int} (hv:vs≠[]):m_amount_of [.str w,.lst (vs.map .int)]=some (.int (amt w vs))/\m_law_amount [.str w,.lst (vs.map .int)]=some (.int (amt w vs)):=by
 obtain⟨a,r,rfl⟩:=List.exists_cons_of_ne_nil hv;have es:bSum [.lst ((a::r).map .int)]=some (.int (a::r).sum):=by rw[bSum_l,ints_map];rfl
 have ex:bMax [.lst ((a::r).map .int)]=some (.int (maxI a r)):=by rw[bMax_l,ints_map];rfl
 have ei:bMin [.lst ((a::r).map .int)]=some (.int (minI a r)):=by rw[bMin_l,ints_map];rfl
 have el:bLen2 [.lst ((a::r).map .int)]=some (.int (a::r).length):=by rw[bLen2_l,List.length_map]
 generalize D.lst ((a::r).map .int)=x at *
 rcases hw with rfl | rfl | rfl | rfl
 ·have e:amt wC (a::r)=((a::r).length:Int):=by simp[amt]
  rw[e];exact⟨by simp[m_amount_of,b_amount_of,el],by simp[m_law_amount,b_law_amount,el]⟩
 ·have e:amt wS (a::r)=(a::r).sum:=by simp[amt,n3]
  rw[e];exact⟨by simp[m_amount_of,b_amount_of,es,n3],by simp[m_law_amount,b_law_amount,es,n3]⟩
 ·have e:amt wM (a::r)=maxI a r:=by simp[amt,n4,n5]
  rw[e];refine⟨by simp[m_amount_of,b_amount_of,ex,n4,n5],?_⟩
  simp[m_law_amount,b_law_amount,ex,ei,n4,n5,n6];rfl
 ·have e:amt wL (a::r)=minI a r:=by simp[amt,n7,n8,n9]
  rw[e];refine⟨by simp[m_amount_of,b_amount_of,ei,n7,n8,n9],?_⟩
  simp[m_law_amount,b_law_amount,ex,ei,n7,n8,n9];rfl
end Fx
namespace Fx
open PySem
noncomputable def rowD (kind:Str) (rest:List D):D:=.tup [.str kind,.str (Str.ofString "all"),.tup [.str (Str.ofString "there")],.tup rest]
inductive Fold where
 |ever (w:Str) | fixed (s:Int) (w:Str) | slide (wd s:Int) (w:Str)
noncomputable def Fold.D':Fold->D
 |.ever w=>rowD (Str.ofString "ever") [.str w]
 |.fixed s w=>rowD (Str.ofString "fixed") [.int s,.str w]
 |.slide wd s w=>rowD (Str.ofString "slide") [.int wd,.int s,.str w]
noncomputable def Fold.ok:Fold->Prop
 |.ever w=>IsW w
 |.fixed s w=>IsW w/\1<=s/\s<=100000000000
 |.slide wd s w=>IsW w/\1<=s/\s<=40000000000/\s<wd/\wd<=20*s
theorem word_ix (n:Int):∃ w,IsW w/\atD [.str wC,.str wS,.str wM,.str wL] (Builtin.bitAnd n 3)=some (.str w):=by
 have b:=bitAnd_bounds n 3 (by decide)
 generalize Builtin.bitAnd n 3=i at b
 have:i=0\/i=1\/i=2\/i=3:=by omega
 rcases this with rfl | rfl | rfl | rfl
 ·exact⟨wC,.inl rfl,rfl⟩
 ·exact⟨wS,.inr (.inl rfl),rfl⟩
 ·exact⟨wM,.inr (.inr (.inl rfl)),rfl⟩
 ·exact⟨wL,.inr (.inr (.inr rfl)),rfl⟩
theorem fold_eq (c:Int):∃ f:Fold,f.ok/\m_law_fold [.int c]=some f.D':=by
 obtain⟨n,en,n0,n1⟩:=mixed_eq c 0 (by decide)
 obtain⟨x,ex,x0,x1⟩:=number_eq c 1 (by decide)
 obtain⟨m,em,m0,m1⟩:=mixed_eq c 2 (by decide)
 obtain⟨w,hw,ew⟩:=word_ix n;have ei:=ix2_any ((n / 4).fmod 6) ((x.natAbs:Int).fmod 100000000000) (third n).1 (third n).2
 have s0:0<=(if (Builtin.bitAnd (n / 1048576) 3).fdiv 3=0 then (n / 4).fmod 6 else (x.natAbs:Int).fmod 100000000000)/\(if (Builtin.bitAnd (n / 1048576) 3).fdiv 3=0 then (n / 4).fmod 6 else (x.natAbs:Int).fmod 100000000000)<100000000000:=by
  have a1:=Int.fmod_nonneg_of_pos (n / 4) (b:=6) (by decide)
  have a2:=Int.fmod_lt_of_pos (n / 4) (b:=6) (by decide)
  have a3:=Int.fmod_nonneg_of_pos (x.natAbs:Int) (b:=100000000000) (by decide)
  have a4:=Int.fmod_lt_of_pos (x.natAbs:Int) (b:=100000000000) (by decide)
  split <;> omega
 generalize (if (Builtin.bitAnd (n / 1048576) 3).fdiv 3=0 then (n / 4).fmod 6 else (x.natAbs:Int).fmod 100000000000)=s at ei s0
 by_cases h0:Builtin.bitAnd (n / 4194304) 3=0
 ·refine⟨.ever w,hw,?_⟩
  simp[m_law_fold,b_law_fold,en,ex,ei,ew,d3,h0];rfl
 ·by_cases h1:Builtin.bitAnd (n / 4194304) 3=1
  ·refine⟨.fixed (1+s) w,⟨hw,by omega,by omega⟩,?_⟩
   simp[m_law_fold,b_law_fold,en,ex,ei,ew,d3,h0,h1];rfl
  ·have hmin:∃ t:Int,bMin [.int (1+s),.int 40000000000]=some (.int t)/\1<=t/\t<=40000000000:=by
    refine⟨minI (1+s) [40000000000],rfl,?_⟩;have:minI (1+s) [40000000000]=if (40000000000:Int)<1+s then 40000000000 else 1+s:=rfl;rw[this]
    split <;> omega
   obtain⟨t,et,t0,t1⟩:=hmin;have b0:=Int.fmod_nonneg_of_pos m (b:=19*t) (by omega)
   have b1:=Int.fmod_lt_of_pos m (b:=19*t) (by omega)
   refine⟨.slide (t+1+m.fmod (19*t)) t w,⟨hw,t0,t1,by omega,by omega⟩,?_⟩
   have a1:okMul 4 10000000000=true:=okMul_l (by decide)
   have a2:okMul 19 t=true:=okMul_l (by decide)
   have a3:okDiv (19*t)=true:=okDiv_s (by omega) (by omega)
   have a4:¬ 19*t=0:=by omega
   have a5:¬ t=0:=by omega
   simp[m_law_fold,b_law_fold,en,ex,em,ei,ew,d3,h0,h1,et,a1,a2,a3,a4,a5];rfl
end Fx
namespace Fx
open PySem
noncomputable def rngI (lo:Int):Nat->List Int
 |0=>[]
 |n+1=>lo::rngI (lo+1) n
theorem rngD_I:∀ (n:Nat) (lo:Int),rngD lo n=(rngI lo n).map .int
 |0,lo=>rfl
 |n+1,lo=>by
  show D.int lo::rngD (lo+1) n=_;rw[rngD_I n];rfl
noncomputable def Fold.wins (f:Fold) (t:Int):List Int:=match f with
 |.ever _=>[0]
 |.fixed s _=>[t.fdiv s]
 |.slide wd s _=>rngI ((t-wd).fdiv s+1) (t.fdiv s+1-((t-wd).fdiv s+1)).toNat
theorem kn1:(Str.ofString "ever"=Str.ofString "fixed")=False:=eq_false (by decide +kernel)
theorem kn2:(Str.ofString "ever"=Str.ofString "slide")=False:=eq_false (by decide +kernel)
theorem kn3:(Str.ofString "slide"=Str.ofString "fixed")=False:=eq_false (by decide +kernel)
theorem kn4:(Str.ofString "fixed"=Str.ofString "ever")=False:=eq_false (by decide +kernel)
theorem kn5:(Str.ofString "slide"=Str.ofString "ever")=False:=eq_false (by decide +kernel)
theorem jx4_0 (a b c d:D):atD [a,b,c,d] 0=some a:=rfl
theorem jx4_3 (a b c d:D):atD [a,b,c,d] 3=some d:=rfl
theorem jx2_0 (a b:D):atD [a,b] 0=some a:=rfl
theorem jx3_0 (a b c:D):atD [a,b,c] 0=some a:=rfl
theorem jx3_1 (a b c:D):atD [a,b,c] 1=some b:=rfl
theorem rngI_len:∀ (n:Nat) (lo:Int),(rngI lo n).length=n
 |0,_=>rfl
 |n+1,lo=>by show (rngI (lo+1) n).length+1=n+1;rw[rngI_len n]
theorem windows_eq (f:Fold) (hf:f.ok) (t:Int) (h0:0<=t) (h1:t<1000000000000):m_windows_of [f.D',.int t]=some (.lst ((f.wins t).map .int))/\(f.wins t).length<=20:=by
 cases f with
 |ever w=>exact⟨by simp[m_windows_of,b_windows_of,Fold.D',rowD,Fold.wins,jx4_0,jx4_3,kn1,kn2],by show (1:Nat)<=20;decide⟩
 |fixed s w =>
  obtain⟨hw,s0,s1⟩:=hf;have a3:okDiv s=true:=okDiv_s (by omega) (by omega)
  exact⟨by simp[m_windows_of,b_windows_of,Fold.D',rowD,Fold.wins,jx4_0,jx4_3,jx2_0,a3],by show (1:Nat)<=20;decide⟩
 |slide wd s w =>
  obtain⟨hw,s0,s1,s2,s3⟩:=hf;have a3:okDiv s=true:=okDiv_s (by omega) (by omega)
  have d1:t.fdiv s=t / s:=Int.fdiv_eq_ediv_of_nonneg _ (by omega)
  have d2:(t-wd).fdiv s=(t-wd) / s:=Int.fdiv_eq_ediv_of_nonneg _ (by omega)
  have b1:0<=t / s:=Int.ediv_nonneg h0 (by omega)
  have b2:t / s<=t:=Int.ediv_le_self _ h0
  have b3:-800000000001<=(t-wd) / s:=by
   rw[Int.le_ediv_iff_mul_le (by omega)]
   have:-800000000001*s<=-800000000001:=by omega
   omega
  have b4:(t-wd) / s<=1000000000000:=Int.le_trans (Int.ediv_le_ediv (by omega) (show t-wd<=t by omega)) (by omega)
  have b5:t / s-(t-wd) / s<=20:=by
   have:(t-20*s) / s<=(t-wd) / s:=Int.ediv_le_ediv (by omega) (by omega)
   have e:(t-20*s) / s=t / s-20:=by
    rw[show t-20*s=t+(-20)*s by omega,Int.add_mul_ediv_right _ _ (by omega)];omega
   omega
  have ln:(t.fdiv s+1-((t-wd).fdiv s+1)).toNat<=20:=by rw[d1,d2];omega
  refine⟨?_,?_⟩
  ·have c1:(rngI ((t-wd).fdiv s+1) (t.fdiv s+1-((t-wd).fdiv s+1)).toNat).length<=1000:=by rw[rngI_len];omega
   have r1:-4611686018427387904<=(t-wd).fdiv s+1:=by rw[d2];omega
   have r2:(t-wd).fdiv s+1<4611686018427387904:=by rw[d2];omega
   have r3:-4611686018427387904<=t.fdiv s+1:=by rw[d1];omega
   have r4:t.fdiv s+1<4611686018427387904:=by rw[d1];omega
   simp[m_windows_of,b_windows_of,Fold.D',rowD,Fold.wins,jx4_0,jx4_3,jx3_0,jx3_1,a3,kn3,r1,r2,r3,r4,c1,rngD_I]
  ·show (rngI _ _).length<=20
   rw[rngI_len];exact ln
end Fx
namespace Fx
open PySem
theorem filt0 {a b:Int} (h:b<=a):∀ (n:Nat) (lo:Int),(rngI lo n).filter (fun k=>decide (a<=k/\k<b))=[]
 |0,_=>rfl
 |n+1,lo=>by
  show (lo::rngI (lo+1) n).filter _=[];rw[List.filter_cons,if_neg (by simp;omega)]
  exact filt0 h n (lo+1)
theorem filt:∀ (n:Nat) (lo a b:Int),lo<=a->a<=b->b<=lo+n->(rngI lo n).filter (fun k=>decide (a<=k/\k<b))=rngI a (b-a).toNat
 |0,lo,a,b,h1,h2,h3=>by
  have:(b-a).toNat=0:=by omega
  rw[this];rfl
 |n+1,lo,a,b,h1,h2,h3=>by
  show (lo::rngI (lo+1) n).filter _=_
  by_cases e:lo<a
  ·rw[List.filter_cons,if_neg (by simp;omega)]
   exact filt n (lo+1) a b (by omega) h2 (by omega)
  ·have e1:lo=a:=by omega
   subst e1
   by_cases e2:lo<b
   ·rw[List.filter_cons,if_pos (by simp;omega)]
    have e3:(b-lo).toNat=(b-(lo+1)).toNat+1:=by omega
    rw[e3];show _=lo::rngI (lo+1) (b-(lo+1)).toNat;rw[<- filt n (lo+1) (lo+1) b (Int.le_refl _) (by omega) (by omega)]
    congr 1
    refine List.filter_congr fun k hk=>?_
    have:lo+1<=k:=by
     clear filt h3 e2 e3
     have g:∀ (n:Nat) (lo:Int) k,k∈rngI lo n->lo<=k:=fun n=>by
      induction n with
      |zero=>intro lo k hk;cases hk
      |succ n ih =>
       intro lo k hk
       rcases List.mem_cons.mp hk with rfl | hk
       ·exact Int.le_refl _
       ·have:=ih _ _ hk;omega
     exact g _ _ _ hk
    refine decide_eq_decide.mpr ⟨fun h=>⟨this,h.2⟩,fun h=>⟨by omega,h.2⟩⟩
   ·rw[show (b-lo).toNat=0 by omega]
    rw[List.filter_cons,if_neg (by simp;omega)]
    exact filt0 (by omega) _ _
theorem rngI_snoc:∀ (n:Nat) (lo:Int),rngI lo (n+1)=rngI lo n++[lo+n]
 |0,lo=>by simp[rngI]
 |n+1,lo=>by
  show lo::rngI (lo+1) (n+1)=lo::(rngI (lo+1) n++[lo+((n+1:Nat):Int)]);rw[rngI_snoc n (lo+1)]
  congr 3
  push_cast;omega
noncomputable def P8 (row:D) (t s wd lo:Int) (n:Nat) (ρ:En):Prop:=∃ s4:Sl,ρ=[.im row,.im (.int t),.im (.int s),.ow false (.lst (((rngI lo n).filter fun k=>decide (k*s<=t/\t<k*s+wd)).map .int)),s4]
theorem win_step (kind:Str) (rest:List D) (t s wd lo:Int) (h:atD rest 0=some (.int wd)) (hs:s.natAbs<2 ^ 64) (i:Nat) (hi:i<100) (s4:Sl):∃ ρ',l_law_windows_1 [.im (rowD kind rest),.im (.int t),.im (.int s),.ow false (.lst (((rngI lo i).filter fun k=>decide (k*s<=t/\t<k*s+wd)).map .int)),.im (.int (lo+i))]=some (.nx ρ')/\P8 (rowD kind rest) t s wd lo (i+1) ρ':=by
 have a1:okMul (lo+i) s=true:=okMul_r hs
 have ln:((rngI lo i).filter fun k=>decide (k*s<=t/\t<k*s+wd)).length<1000000:=by
  have:=List.length_filter_le (fun k=>decide (k*s<=t/\t<k*s+wd)) (rngI lo i)
  rw[rngI_len] at this;omega
 unfold P8;rw[rngI_snoc,List.filter_append]
 generalize ((rngI lo i).filter fun k=>decide (k*s<=t/\t<k*s+wd))=F at ln
 by_cases c1:(lo+i)*s<=t
 ·by_cases c2:t<(lo+i)*s+wd
  ·refine⟨_,by simp[l_law_windows_1,rowD,jx4_3,h,a1,c1,c2,ln];rfl,.im (.int (lo+i)),?_⟩
   simp[rowD,c1,c2]
  ·refine⟨_,by simp[l_law_windows_1,rowD,jx4_3,h,a1,c1,c2];rfl,.im (.int (lo+i)),?_⟩
   simp[rowD,c1,c2]
 ·refine⟨_,by simp[l_law_windows_1,rowD,jx4_3,h,a1,c1];rfl,.im (.int (lo+i)),?_⟩
  simp[rowD,c1]
end Fx
namespace Fx
open PySem
theorem win_all (kind:Str) (rest:List D) (t s wd:Int) (h:atD rest 0=some (.int wd)) (h2:atD rest (-2)=some (.int s)) (hk:(kind=Str.ofString "ever")=False) (s0:1 ≤ s) (s1:s ≤ 100000000000) (s2:s ≤ wd) (s3:wd ≤ 20*s) (h0:0 ≤ t) (h1:t<1000000000000) :
  m_law_windows [rowD kind rest,.int t]=some (.lst ((rngI ((t-wd).fdiv s+1) (t.fdiv s+1-((t-wd).fdiv s+1)).toNat).map .int)):=by
 have a3:okDiv s=true:=okDiv_s (by omega) (by omega)
 have d1:t.fdiv s=t / s:=Int.fdiv_eq_ediv_of_nonneg _ (by omega)
 have d2:(t-wd).fdiv s=(t-wd) / s:=Int.fdiv_eq_ediv_of_nonneg _ (by omega)
 have b1:0<=t / s:=Int.ediv_nonneg h0 (by omega)
 have b2:t / s<=t:=Int.ediv_le_self _ h0
 have b5:t / s-20<=(t-wd) / s:=by
  have:(t-20*s) / s<=(t-wd) / s:=Int.ediv_le_ediv (by omega) (by omega)
  have e:(t-20*s) / s=t / s-20:=by
   rw[show t-20*s=t+(-20)*s by omega,Int.add_mul_ediv_right _ _ (by omega)];omega
  omega
 have b6:(t-wd) / s+1<=t / s:=by
  have:(t-wd) / s<=(t-s) / s:=Int.ediv_le_ediv (by omega) (by omega)
  have e:(t-s) / s=t / s-1:=by
   rw[show t-s=t+(-1)*s by omega,Int.add_mul_ediv_right _ _ (by omega)];omega
  omega
 obtain⟨ρ',e,s4,rfl⟩:=fGo_cnt (g:=gN 4) (B:=l_law_windows_1) (P8 (rowD kind rest) t s wd (t.fdiv s-21)) 23 (t.fdiv s-21) 0 [.im (rowD kind rest),.im (.int t),.im (.int s),.ow false (.lst []),.no]
  (fun i ρ hi p=>by
   obtain⟨s4,rfl⟩:=p;rw[Nat.zero_add];obtain⟨ρ',e,p'⟩:=win_step kind rest t s wd (t.fdiv s-21) h (by omega) i (by omega) s4
   exact⟨_,ρ',rfl,e,p'⟩) ⟨_,rfl⟩
 rw[Nat.zero_add] at e
 have fe:((rngI (t.fdiv s-21) 23).filter fun k=>decide (k*s<=t/\t<k*s+wd))=rngI ((t-wd).fdiv s+1) (t.fdiv s+1-((t-wd).fdiv s+1)).toNat:=by
  rw[d1,d2,<- filt 23 (t / s-21) ((t-wd) / s+1) (t / s+1) (by omega) (by omega) (by omega)]
  refine List.filter_congr fun k _=>decide_eq_decide.mpr ?_
  have q1:k*s<=t↔k<=t / s:=(Int.le_ediv_iff_mul_le (by omega)).symm
  have q2:(t-wd) / s<k↔t-wd<k*s:=Int.ediv_lt_iff_lt_mul (by omega)
  rw[q1];constructor
  ·intro ⟨x,y⟩;have:=q2.mpr (by omega);omega
  ·intro ⟨x,y⟩;have:=q2.mp (by omega);omega
 rw[fe] at e;have r1:-4611686018427387904<=t.fdiv s-21:=by rw[d1];omega
 have r2:t.fdiv s-21<4611686018427387904:=by rw[d1];omega
 have r3:-4611686018427387904<=t.fdiv s+2:=by rw[d1];omega
 have r4:t.fdiv s+2<4611686018427387904:=by rw[d1];omega
 have r5:(t.fdiv s+2-(t.fdiv s-21)).toNat=23:=by omega
 have h2':atD rest (-2)=some (.int s):=h2;have j0:atD [.str kind,.str (Str.ofString "all"),.tup [.str (Str.ofString "there")],.tup rest] 0=some (.str kind):=rfl;unfold rowD at e ⊢;simp[m_law_windows,b_law_windows,List.replicate,jx4_0,jx4_3,hk,h2,a3,r1,r2,r3,r4,r5,e]
theorem law_windows_eq (f:Fold) (hf:f.ok) (t:Int) (h0:0<=t) (h1:t<1000000000000):m_law_windows [f.D',.int t]=some (.lst ((f.wins t).map .int)):=by
 cases f with
 |ever w=>simp[m_law_windows,b_law_windows,Fold.D',rowD,Fold.wins,jx4_0]
 |fixed s w =>
  obtain⟨hw,s0,s1⟩:=hf;have:=win_all (Str.ofString "fixed") [.int s,.str w] t s s rfl rfl kn4 s0 s1 (Int.le_refl _) (by omega) h0 h1
  have e:(t-s).fdiv s+1=t.fdiv s:=by
   rw[Int.fdiv_eq_ediv_of_nonneg _ (by omega),Int.fdiv_eq_ediv_of_nonneg _ (by omega),show t-s=t+(-1)*s by omega,Int.add_mul_ediv_right _ _ (by omega)];omega
  rw[e,show (t.fdiv s+1-t.fdiv s).toNat=1 by omega] at this
  exact this
 |slide wd s w =>
  obtain⟨hw,s0,s1,s2,s3⟩:=hf;exact win_all (Str.ofString "slide") [.int wd,.int s,.str w] t s wd rfl rfl kn5 s0 (by omega) (by omega) s3 h0 h1
end Fx
namespace Fx
open PySem
noncomputable abbrev Grp:=List ((Str×Int)×List Int)
noncomputable def addI (k:Str×Int) (v:Int):Grp->Grp
 |[]=>[(k,[v])]
 |q::r=>if q.1=k then (q.1,q.2++[v])::r else q::addI k v r
noncomputable def gD (g:Grp):List ((Str×Int)×List D):=g.map fun q=>(q.1,q.2.map .int)
theorem addGT_I (k:Str×Int) (v:Int):∀ g:Grp,addGT k (.int v) (gD g)=gD (addI k v g)
 |[]=>rfl
 |q::r=>by
  show (if q.1=k then (q.1,q.2.map D.int++[.int v])::gD r else (q.1,q.2.map .int)::addGT k (.int v) (gD r))=gD (if q.1=k then (q.1,q.2++[v])::r else q::addI k v r)
  split
  ·simp[gD]
  ·rw[addGT_I k v r];rfl
noncomputable def addWs (k:Str) (v:Int) (ws:List Int) (g:Grp):Grp:=ws.foldl (fun g w=>addI (k,w) v g) g
noncomputable def grp (f:Fold) (L:List Th) (g:Grp):Grp:=L.foldl (fun g x=>addWs x.k x.v (f.wins x.t) g) g
theorem gtIn_eq (x:Th):∀ (ws:List Int) (n:Nat) (g:Grp),n+ws.length<=1000->gtIn (tD x) (ws.map .int) n (gD g)=some (n+ws.length,gD (addWs x.k x.v ws g))
 |[],n,g,_=>rfl
 |w::r,n,g,h=>by
  show bnd (gKey (tD x) (.int w)) (fun q=>if n<1000 then gtIn (tD x) (r.map .int) (n+1) (addGT q.1 q.2 (gD g)) else none)=_
  have e:gKey (tD x) (.int w)=some ((x.k,w),.int x.v):=rfl;rw[e];show (if n<1000 then gtIn (tD x) (r.map .int) (n+1) (addGT (x.k,w) (.int x.v) (gD g)) else none)=_;rw[List.length_cons] at h;rw[if_pos (by omega),addGT_I,gtIn_eq x r (n+1) _ (by omega)]
  rw[List.length_cons,show n+1+r.length=n+(r.length+1) by omega];rfl
theorem gtOut_eq (f:Fold) (row:D) {G:FE} (hG:∀ (x:Th) (th:D) (s4:Sl),0<=x.t->x.t<1000000000000->∃ ρ',G [.im row,.im th,.no,.im (tD x),s4]=some (.lst ((f.wins x.t).map .int),ρ')) (hw:∀ t,0<=t->t<1000000000000->(f.wins t).length<=20) (th:D) :
  ∀ (L:List Th) (n:Nat) (g:Grp) (s3 s4:Sl),(∀ x∈L,0<=x.t/\x.t<1000000000000)->n+20*L.length<=1000->s3≠.ow true (.lst []) ->
  ∃ s3' s4':Sl,gtOut 3 4 G (L.map tD) [.im row,.im th,.no,s3,s4] n (gD g)=some ([.im row,.im th,.no,s3',s4'],gD (grp f L g))
 |[],n,g,s3,s4,_,_,_=>⟨s3,s4,rfl⟩
 |x::L,n,g,s3,s4,hb,hn,h3=>by
  obtain⟨t0,t1⟩:=hb x List.mem_cons_self;obtain⟨ρ',e⟩:=hG x th s4 t0 t1;have w20:=hw x.t t0 t1;rw[List.length_cons] at hn;have e2:=gtIn_eq x (f.wins x.t) n g (by omega)
  obtain⟨s4',hl⟩:∃ s4',lastIn 4 ((f.wins x.t).map D.int) [.im row,.im th,.no,.im (tD x),s4]=[.im row,.im th,.no,.im (tD x),s4']:=by
   unfold lastIn
   split
   ·exact⟨_,rfl⟩
   ·exact⟨_,rfl⟩
  obtain⟨a3,a4,ih⟩:=gtOut_eq f row hG hw th L (n+(f.wins x.t).length) (addWs x.k x.v (f.wins x.t) g) (.im (tD x)) s4' (fun y hy=>hb y (List.mem_cons_of_mem _ hy)) (by omega) (fun z=>nomatch z)
  refine⟨a3,a4,?_⟩;show bnd (G [.im row,.im th,.no,.im (tD x),s4]) (fun p=>bnd (lsX p.1) fun ws=>bnd (gtIn (tD x) ws n (gD g)) fun q=>gtOut 3 4 G (L.map tD) (lastIn 4 ws [.im row,.im th,.no,.im (tD x),s4]) q.1 q.2)=_
  rw[e];show bnd (gtIn (tD x) ((f.wins x.t).map .int) n (gD g)) (fun q=>gtOut 3 4 G (L.map tD) (lastIn 4 ((f.wins x.t).map .int) [.im row,.im th,.no,.im (tD x),s4]) q.1 q.2)=_
  rw[e2];show gtOut 3 4 G (L.map tD) (lastIn 4 ((f.wins x.t).map .int) [.im row,.im th,.no,.im (tD x),s4]) (n+(f.wins x.t).length) (gD (addWs x.k x.v (f.wins x.t) g))=_;rw[hl];exact ih
end Fx
namespace Fx
open PySem
noncomputable def gOk (g:Grp):Prop:=(g.map (·.1)).Nodup/\∀ q∈g,q.2≠[]
theorem addI_keys (k:Str×Int) (v:Int):∀ g:Grp,(addI k v g).map (·.1)=if k∈g.map (·.1) then g.map (·.1) else g.map (·.1)++[k]
 |[]=>rfl
 |q::r=>by
  show ((if q.1=k then (q.1,q.2++[v])::r else q::addI k v r)).map (·.1)=_
  by_cases h:q.1=k
  ·rw[if_pos h,if_pos (by rw[<- h];exact List.mem_cons_self)];rfl
  ·rw[if_neg h,List.map_cons,addI_keys k v r,List.map_cons]
   by_cases z:k∈r.map (·.1)
   ·rw[if_pos z,if_pos (List.mem_cons_of_mem _ z)]
   ·rw[if_neg z,if_neg (fun y=>by rcases List.mem_cons.mp y with y | y;exact h y.symm;exact z y)];rfl
theorem addI_ok {k:Str×Int}{v:Int}{g:Grp} (h:gOk g):gOk (addI k v g):=by
 refine⟨?_,?_⟩
 ·rw[addI_keys]
  split
  ·exact h.1
  ·rename_i z
   rw[List.nodup_append];exact⟨h.1,by simp,fun a ha b hb e=>z (by rw[<- List.mem_singleton.mp hb,<- e];exact ha)⟩
 ·have h2:=h.2
  clear h
  induction g with
  |nil=>intro q hq;rw[List.mem_singleton.mp hq];simp
  |cons x r ih =>
   intro q hq;have hq:q∈(if x.1=k then (x.1,x.2++[v])::r else x::addI k v r):=hq
   split at hq
   ·rcases List.mem_cons.mp hq with rfl | hq
    ·simp
    ·exact h2 q (List.mem_cons_of_mem _ hq)
   ·rcases List.mem_cons.mp hq with rfl | hq
    ·exact h2 _ List.mem_cons_self
    ·exact ih (fun y hy=>h2 y (List.mem_cons_of_mem _ hy)) q hq
theorem addWs_ok {k:Str}{v:Int}:∀ (ws:List Int) {g:Grp},gOk g->gOk (addWs k v ws g)
 |[],_,h=>h
 |w::r,g,h=>addWs_ok (k:=k) (v:=v) r (addI_ok h)
theorem grp_ok (f:Fold):∀ (L:List Th) {g:Grp},gOk g->gOk (grp f L g)
 |[],_,h=>h
 |x::L,g,h=>grp_ok f L (addWs_ok _ h)
theorem look_own {g:List ((Str×Int)×D)} (nd:(g.map (·.1)).Nodup) {q:(Str×Int)×D} (hq:q∈g):lookD q.1 g=some q.2:=by
 induction g with
 |nil=>cases hq
 |cons x r ih =>
  rw[List.map_cons,List.nodup_cons] at nd;unfold lookD;rw[List.find?_cons]
  rcases List.mem_cons.mp hq with rfl | hq
  ·simp
  ·have ne:¬ x.1=q.1:=fun e=>nd.1 (by rw[e];exact List.mem_map_of_mem hq)
   rw[decide_eq_false ne];exact ih nd.2 hq
end Fx
namespace Fx
open PySem
noncomputable def Fold.word:Fold->Str
 |.ever w=>w | .fixed _ w=>w | .slide _ _ w=>w
theorem Fold.isW {f:Fold} (h:f.ok):IsW f.word:=by
 cases f with
 |ever w=>exact h
 |fixed s w=>exact h.1
 |slide wd s w=>exact h.1
noncomputable def cellD (w:Str) (q:(Str×Int)×List Int):D:=.tup [kD q.1,.int (amt w q.2)]
theorem word_at (f:Fold):∃ kind rest,f.D'=rowD kind rest ∧ atD rest (-1)=some (.str f.word) ∧ (kind=Str.ofString "gaps")=False:=by
 cases f with
 |ever w=>exact⟨_,_,rfl,rfl,eq_false (by decide +kernel)⟩
 |fixed s w=>exact⟨_,_,rfl,rfl,eq_false (by decide +kernel)⟩
 |slide wd s w=>exact⟨_,_,rfl,rfl,eq_false (by decide +kernel)⟩
theorem cells_go (f:Fold) (hf:f.ok) (G:List ((Str×Int)×D)):∀ (g:Grp),(∀ q∈g,q.2≠[]/\lookD q.1 G=some (.lst (q.2.map .int))) ->
  cGo tYes (eTup (aC (eV 0) (aC (eF m_amount_of (aC (e2 dIx2 (e2 dIx2 (eV 2) (eC (.int 3))) (e1 dNeg (eC (.int 1)))) (aC (e2 dIxT (eV 1) (eV 0)) aN))) aN))) [.im (.opq (G.map (·.1)) (G.map (·.2))),.im f.D'] ((g.map (·.1)).map kD)=some (g.map (cellD f.word))
 |[],_=>rfl
 |q::g,h=>by
  obtain⟨h1,h2⟩:=h q List.mem_cons_self;obtain⟨kind,rest,w1,w2,_⟩:=word_at f;have ih:=cells_go f hf G g fun x hx=>h x (List.mem_cons_of_mem _ hx)
  have ea:=(amount_eq (f.isW hf) h1).1
  have ez:(G.map (·.1)).zip (G.map (·.2))=G:=by
   clear h h2 ih
   induction G with
   |nil=>rfl
   |cons x r ih=>simp[ih]
  generalize hE:eTup (aC (eV 0) (aC (eF m_amount_of (aC (e2 dIx2 (e2 dIx2 (eV 2) (eC (.int 3))) (e1 dNeg (eC (.int 1)))) (aC (e2 dIxT (eV 1) (eV 0)) aN))) aN))=E at ih ⊢
  have hs:E [.im (kD q.1),.im (.opq (G.map (·.1)) (G.map (·.2))),.im f.D']=some (cellD f.word q,[.im (kD q.1),.im (.opq (G.map (·.1)) (G.map (·.2))),.im f.D']):=by
   rw[<- hE,w1];unfold kD rowD cellD kD;simp[jx4_3,w2,ez,h2,ea]
  show bnd (E [.im (kD q.1),.im (.opq (G.map (·.1)) (G.map (·.2))),.im f.D']) (fun z=>bnd (cGo tYes E [.im (.opq (G.map (·.1)) (G.map (·.2))),.im f.D'] ((g.map (·.1)).map kD)) fun t=>some (z.1::t))=_
  rw[hs,ih];rfl
end Fx
namespace Fx
open PySem
theorem gOk_nil:gOk []:=⟨List.nodup_nil,fun q hq=>by cases hq⟩
theorem gtD_gD (g:Grp):gtD (gD g)=g.map fun q=>(q.1,D.lst (q.2.map .int)):=by
 unfold gtD gD;rw[List.map_map];rfl
theorem addI_len (k:Str×Int) (v:Int):∀ g:Grp,(addI k v g).length<=g.length+1
 |[]=>Nat.le_refl _
 |q::r=>by
  show (if q.1=k then (q.1,q.2++[v])::r else q::addI k v r).length<=_;have:=addI_len k v r
  split <;> simp <;> omega
theorem addWs_len (k:Str) (v:Int):∀ (ws:List Int) (g:Grp),(addWs k v ws g).length<=g.length+ws.length
 |[],g=>Nat.le_refl _
 |w::r,g=>by
  have:=addWs_len k v r (addI (k,w) v g);have:=addI_len (k,w) v g;show (addWs k v r (addI (k,w) v g)).length<=g.length+(r.length+1);omega
theorem grp_len (f:Fold) (hw:∀ t,0<=t->t<1000000000000->(f.wins t).length<=20):∀ (L:List Th) (g:Grp),(∀ x∈L,0<=x.t/\x.t<1000000000000)->(grp f L g).length<=g.length+20*L.length
 |[],g,_=>Nat.le_refl _
 |x::L,g,h=>by
  obtain⟨t0,t1⟩:=h x List.mem_cons_self;have a:=grp_len f hw L (addWs x.k x.v (f.wins x.t) g) fun y hy=>h y (List.mem_cons_of_mem _ hy)
  have b:=addWs_len x.k x.v (f.wins x.t) g;have c:=hw x.t t0 t1;show (grp f L (addWs x.k x.v (f.wins x.t) g)).length<=_;rw[List.length_cons];omega
theorem window_cells_eq (f:Fold) (hf:f.ok) (L:List Th) (hL:L.length<=16) (hb:∀ x∈L,0<=x.t/\x.t<1000000000000) :
  m_window_cells [f.D',.lst (L.map tD)]=some (.lst ((grp f L []).map (cellD f.word))):=by
 have hw:∀ t,0<=t->t<1000000000000->(f.wins t).length<=20:=fun t a b=>(windows_eq f hf t a b).2
 generalize hG:eF m_windows_of (aC (eV 0) (aC (e2 dIx2 (eV 3) (eC (.int 0))) aN))=G
 have hG':∀ (x:Th) (th:D) (s4:Sl),0<=x.t->x.t<1000000000000->∃ ρ',G [.im f.D',.im th,.no,.im (tD x),s4]=some (.lst ((f.wins x.t).map .int),ρ'):=fun x th s4 a b=>by
  have e:=(windows_eq f hf x.t a b).1;have j:atD [.int x.t,.str x.k,.int x.v] 0=some (.int x.t):=rfl;refine⟨[.im f.D',.im th,.no,.im (tD x),s4],?_⟩;rw[<- hG];unfold tD;simp[j,e]
 obtain⟨s3,s4,q1⟩:=gtOut_eq f f.D' hG' hw (.lst (L.map tD)) L 0 [] .no .no hb (by omega) (fun z=>nomatch z)
 have ok:=grp_ok f L gOk_nil;have ln:=grp_len f hw L [] hb;have big:(1000:Nat)<=sizeLine:=by decide
 generalize hg:grp f L []=g at q1 ok ln
 have q2:=cells_go f hf (gtD (gD g)) g fun q hq=>⟨ok.2 q hq,by
  rw[gtD_gD];exact look_own (g:=g.map fun q=>(q.1,D.lst (q.2.map .int))) (by rw[List.map_map];exact ok.1) (q:=(q.1,.lst (q.2.map .int))) (List.mem_map_of_mem (f:=fun q:(Str×Int)×List Int=>(q.1,D.lst (q.2.map .int))) hq)⟩
 have ks:(gtD (gD g)).map (·.1)=g.map (·.1):=by rw[gtD_gD,List.map_map];rfl
 have l1:(g.map (·.1)).length<=sizeLine:=by rw[List.length_map];simp at ln;omega
 have q1':gtOut 3 4 G (L.map tD) [.im f.D',.im (.lst (L.map tD)),.no,.no,.no] 0 []=some ([.im f.D',.im (.lst (L.map tD)),.no,s3,s4],gD g):=q1
 have sg:sGT 2 3 4 (eV 1) G [.im f.D',.im (.lst (L.map tD)),.ow false (.dtu []),.no,.no]=some (.nx [.im f.D',.im (.lst (L.map tD)),.ow false (.dtu (gtD (gD g))),s3,s4]):=by
  simp[sGTb,q1',noOw,bnd]
 have q2':cGo tYes (eTup (aC (eV 0) (aC (eF m_amount_of (aC (e2 dIx2 (e2 dIx2 (eV 2) (eC (.int 3))) (e1 dNeg (eC (.int 1)))) (aC (e2 dIxT (eV 1) (eV 0)) aN))) aN))) [.im (asT (gtD (gD g))),.im f.D'] (((gtD (gD g)).map (·.1)).map kD)=some (g.map (cellD f.word)):=by rw[ks];exact q2
 have l2:((gtD (gD g)).map (·.1)).length<=sizeLine:=by rw[ks];exact l1
 have lk:eLK [2,0] (eV 2) tYes (eTup (aC (eV 0) (aC (eF m_amount_of (aC (e2 dIx2 (e2 dIx2 (eV 2) (eC (.int 3))) (e1 dNeg (eC (.int 1)))) (aC (e2 dIxT (eV 1) (eV 0)) aN))) aN))) [.im f.D',.im (.lst (L.map tD)),.im (asT (gtD (gD g))),s3,s4]=some (.lst (g.map (cellD f.word)),[.im f.D',.im (.lst (L.map tD)),.im (asT (gtD (gD g))),s3,s4]):=by
  show bnd (cGo tYes _ [.im (asT (gtD (gD g))),.im f.D'] (((gtD (gD g)).map (·.1)).map kD)) (fun ys=>if ((gtD (gD g)).map (·.1)).length<=sizeLine then some (D.lst ys,_) else none)=_
  rw[q2'];show (if ((gtD (gD g)).map (·.1)).length<=sizeLine then some (D.lst (g.map (cellD f.word)),_) else none)=_;rw[if_pos l2]
 generalize hE:eLK [2,0] (eV 2) tYes (eTup (aC (eV 0) (aC (eF m_amount_of (aC (e2 dIx2 (e2 dIx2 (eV 2) (eC (.int 3))) (e1 dNeg (eC (.int 1)))) (aC (e2 dIxT (eV 1) (eV 0)) aN))) aN)))=E at lk
 generalize hS:sGT 2 3 4 (eV 1) G=S at sg
 unfold m_window_cells b_window_cells;rw[hG,hE,hS];simp[List.replicate,sg,lk]
end Fx
namespace Fx
open PySem
noncomputable def tB' (g:Grp):List ((Str×Int)×D):=g.map fun q=>(q.1,D.lst (q.2.map .int))
theorem put_addI (k:Str×Int) (v:Int) (n:Nat):∀ g:Grp,(g.map (·.1)).Nodup->(∀ q∈g,q.2.length<=n)->∃ vs:List Int,vs.length<=n/\((lookD k (tB' g)).getD (.lst []))=.lst (vs.map .int)/\putTD k (.lst ((vs++[v]).map .int)) (tB' g)=tB' (addI k v g)
 |[],_,_=>⟨[],Nat.zero_le _,rfl,rfl⟩
 |q::r,nd,hn=>by
  rw[List.map_cons,List.nodup_cons] at nd
  by_cases h:q.1=k
  ·have e1:lookD k (tB' (q::r))=some (.lst (q.2.map .int)):=by
    unfold lookD tB';rw[List.map_cons,List.find?_cons,decide_eq_true h];rfl
   refine⟨q.2,hn q List.mem_cons_self,by rw[e1];rfl,?_⟩
   unfold putTD;rw[e1];have e2:addI k v (q::r)=(q.1,q.2++[v])::r:=if_pos h;rw[e2];show (tB' (q::r)).map (putDA k _)=_;unfold tB';rw[List.map_cons,List.map_cons,List.map_cons]
   congr 1
   ·unfold putDA;rw[if_pos h]
   ·rw[List.map_map]
    refine List.map_congr_left fun x hx=>?_
    show putDA k _ (x.1,_)=_;unfold putDA;rw[if_neg fun e=>nd.1 (by rw[h,<- e];exact List.mem_map_of_mem hx)]
  ·obtain⟨vs,l,a,b⟩:=put_addI k v n r nd.2 fun x hx=>hn x (List.mem_cons_of_mem _ hx)
   have e1:lookD k (tB' (q::r))=lookD k (tB' r):=by
    unfold lookD tB';rw[List.map_cons,List.find?_cons,decide_eq_false h]
   refine⟨vs,l,by rw[e1];exact a,?_⟩
   have e2:addI k v (q::r)=q::addI k v r:=if_neg h;rw[e2];unfold putTD at b ⊢;rw[e1];have e3:putDA k (.lst ((vs++[v]).map .int)) (q.1,D.lst (q.2.map .int))=(q.1,D.lst (q.2.map .int)):=if_neg h
   split at b
   ·rename_i z
    rw[if_pos z];show (putDA k _ (q.1,_))::(tB' r).map _=(q.1,_)::tB' (addI k v r);rw[e3,b]
   ·rename_i z
    rw[if_neg z];show (q.1,_)::(tB' r++_)=(q.1,_)::tB' (addI k v r);rw[b]
end Fx
namespace Fx
open PySem
noncomputable def gB (n:Nat) (g:Grp):Prop:=g.length<=n/\∀ q∈g,q.2.length<=n
theorem gB_add {n:Nat}{k:Str×Int}{v:Int}{g:Grp} (h:gB n g):gB (n+1) (addI k v g):=by
 refine⟨by have:=addI_len k v g;have:=h.1;omega,?_⟩
 have h2:=h.2
 clear h
 induction g with
 |nil=>intro q hq;rw[List.mem_singleton.mp hq];simp
 |cons x r ih =>
  intro q hq;have hq:q∈(if x.1=k then (x.1,x.2++[v])::r else x::addI k v r):=hq
  split at hq
  ·rcases List.mem_cons.mp hq with rfl | hq
   ·have:=h2 x List.mem_cons_self
    rw[List.length_append,List.length_singleton];omega
   ·have:=h2 q (List.mem_cons_of_mem _ hq);omega
  ·rcases List.mem_cons.mp hq with rfl | hq
   ·have:=h2 q List.mem_cons_self;omega
   ·exact ih (fun y hy=>h2 y (List.mem_cons_of_mem _ hy)) q hq
noncomputable abbrev ED (row th:D) (g:Grp) (a b c d:Sl):En:=[.im row,.im th,.ow false (.dtu (tB' g)),a,b,c,d]
theorem due_step (row th:D) (t:Int) (k:Str) (v w:Int) {g:Grp} (ok:gOk g) {n:Nat} (hn:n<1000) (hg:gB n g) :
  l_law_due_1 (ED row th g (.im (.int t)) (.im (.str k)) (.im (.int v)) (.im (.int w)))=some (.nx (ED row th (addI (k,w) v g) (.im (.int t)) (.im (.str k)) (.im (.int v)) (.im (.int w)))):=by
 obtain⟨vs,l,a,b⟩:=put_addI (k,w) v n g ok.1 hg.2;have big:(1000:Nat)<=sizeLine:=by decide
 have l1:(tB' g).length<1000:=by unfold tB';rw[List.length_map];have:=hg.1;omega
 have l2:vs.length+1<=sizeLine:=by omega
 rw[List.map_append] at b;simp only[List.map_cons,List.map_nil] at b;simp[l_law_due_1,a,l1,l2,b]
end Fx
namespace Fx
open PySem
theorem due_in (row th:D) (t:Int) (k:Str) (v:Int):∀ (ws:List Int) (g:Grp) (n:Nat) (s6:Sl),gOk g->gB n g->n+ws.length<=1000 ->
  ∃ s6',fGo (gN 6) l_law_due_1 (ws.map .int) (ED row th g (.im (.int t)) (.im (.str k)) (.im (.int v)) s6)=some (.nx (ED row th (addWs k v ws g) (.im (.int t)) (.im (.str k)) (.im (.int v)) s6'))/\gB (n+ws.length) (addWs k v ws g)
 |[],g,n,s6,_,hb,_=>⟨s6,rfl,hb⟩
 |w::r,g,n,s6,ok,hb,hn=>by
  rw[List.length_cons] at hn;obtain⟨s,e,b⟩:=due_in row th t k v r (addI (k,w) v g) (n+1) (.im (.int w)) (addI_ok ok) (gB_add hb) (by omega)
  refine⟨s,?_,by rw[List.length_cons,show n+(r.length+1)=n+1+r.length by omega];exact b⟩
  have st:=due_step row th t k v w ok (n:=n) (by omega) hb
  have g1:gN 6 (.int w) (ED row th g (.im (.int t)) (.im (.str k)) (.im (.int v)) s6)=some (ED row th g (.im (.int t)) (.im (.str k)) (.im (.int v)) (.im (.int w))):=rfl;rw[List.map_cons,fGo_c,g1,fGa_s,st,fGb_n];exact e
theorem due_out (f:Fold) (hf:f.ok) (th:D):∀ (L:List Th) (g:Grp) (n:Nat) (a b c d:Sl),(∀ x∈L,0<=x.t/\x.t<1000000000000)->gOk g->gB n g->n+20*L.length<=1000 ->
  ∃ a' b' c' d',fGo (gT [3,4,5]) l_law_due_2 (L.map tD) (ED f.D' th g a b c d)=some (.nx (ED f.D' th (grp f L g) a' b' c' d'))
 |[],g,n,a,b,c,d,_,_,_,_=>⟨a,b,c,d,rfl⟩
 |x::L,g,n,a,b,c,d,hx,ok,hb,hn=>by
  rw[List.length_cons] at hn;obtain⟨t0,t1⟩:=hx x List.mem_cons_self;have w20:=(windows_eq f hf x.t t0 t1).2;have ew:=law_windows_eq f hf x.t t0 t1;obtain⟨s,e,b2⟩:=due_in f.D' th x.t x.k x.v (f.wins x.t) g n d ok hb (by omega)
  obtain⟨a',b',c',d',ih⟩:=due_out f hf th L (addWs x.k x.v (f.wins x.t) g) (n+(f.wins x.t).length) (.im (.int x.t)) (.im (.str x.k)) (.im (.int x.v)) s (fun y hy=>hx y (List.mem_cons_of_mem _ hy)) (addWs_ok _ ok) b2 (by omega)
  refine⟨a',b',c',d',?_⟩;have g1:gT [3,4,5] (tD x) (ED f.D' th g a b c d)=some (ED f.D' th g (.im (.int x.t)) (.im (.str x.k)) (.im (.int x.v)) d):=rfl
  have st:l_law_due_2 (ED f.D' th g (.im (.int x.t)) (.im (.str x.k)) (.im (.int x.v)) d)=some (.nx (ED f.D' th (addWs x.k x.v (f.wins x.t) g) (.im (.int x.t)) (.im (.str x.k)) (.im (.int x.v)) s)):=by
   have z:eF m_law_windows (aC (eV 0) (aC (eV 3) aN)) (ED f.D' th g (.im (.int x.t)) (.im (.str x.k)) (.im (.int x.v)) d)=some (.lst ((f.wins x.t).map .int),ED f.D' th g (.im (.int x.t)) (.im (.str x.k)) (.im (.int x.v)) d):=by simp[ew]
   unfold l_law_due_2;rw[sFor_,z,sFora_s];exact e
  rw[List.map_cons,fGo_c,g1,fGa_s,st,fGb_n];exact ih
theorem items_go (f:Fold) (hf:f.ok):∀ (g:Grp),(∀ q∈g,q.2≠[]) ->
  cGo2 tYes (eTup (aC (eV 0) (aC (eF m_law_amount (aC (e2 dIx2 (e2 dIx2 (eV 2) (eC (.int 3))) (e1 dNeg (eC (.int 1)))) (aC (eV 1) aN))) aN))) [.im f.D'] ((tB' g).map prD)=some (g.map (cellD f.word))
 |[],_=>rfl
 |q::g,h=>by
  have h1:=h q List.mem_cons_self;obtain⟨kind,rest,w1,w2,_⟩:=word_at f;have ih:=items_go f hf g fun x hx=>h x (List.mem_cons_of_mem _ hx)
  have ea:=(amount_eq (f.isW hf) h1).2
  generalize hE:eTup (aC (eV 0) (aC (eF m_law_amount (aC (e2 dIx2 (e2 dIx2 (eV 2) (eC (.int 3))) (e1 dNeg (eC (.int 1)))) (aC (eV 1) aN))) aN))=E at ih ⊢
  have hs:E [.im (kD q.1),.im (.lst (q.2.map .int)),.im f.D']=some (cellD f.word q,[.im (kD q.1),.im (.lst (q.2.map .int)),.im f.D']):=by
   rw[<- hE,w1];unfold kD rowD cellD kD;simp[jx4_3,w2,ea]
  show bnd (E [.im (kD q.1),.im (.lst (q.2.map .int)),.im f.D']) (fun z=>bnd (cGo2 tYes E [.im f.D'] ((tB' g).map prD)) fun t=>some (z.1::t))=_
  rw[hs,ih];rfl
theorem zip_own {α β:Type}:∀ G:List (α×β),(G.map (·.1)).zip (G.map (·.2))=G
 |[]=>rfl
 |x::r=>by simp[zip_own r]
theorem r21_cells (w:Str) (g:Grp):(g.map (cellD w)).all r21=true:=by
 rw[List.all_eq_true];intro x hx;obtain⟨q,_,rfl⟩:=List.mem_map.mp hx;rfl
theorem due_eq (f:Fold) (hf:f.ok) (L:List Th) (hL:L.length<=16) (hb:∀ x∈L,0<=x.t/\x.t<1000000000000) :
  m_law_due [f.D',.lst (L.map tD)]=some (.lst (sortT ((grp f L []).map (cellD f.word)))):=by
 have hw:∀ t,0<=t->t<1000000000000->(f.wins t).length<=20:=fun t a b=>(windows_eq f hf t a b).2
 have ok:=grp_ok f L gOk_nil;have ln:=grp_len f hw L [] hb;have big:(1000:Nat)<=sizeLine:=by decide
 obtain⟨a,b,c,d,lo⟩:=due_out f hf (.lst (L.map tD)) L [] 0 .no .no .no .no hb gOk_nil ⟨Nat.le_refl _,fun q hq=>by cases hq⟩ (by omega)
 generalize hg:grp f L []=g at lo ok ln
 have it:=items_go f hf g ok.2;have r:=r21_cells f.word g;have cl:(g.map (cellD f.word)).length<=1000:=by rw[List.length_map];simp at ln;omega
 have ez:((tB' g).map (·.1)).zip ((tB' g).map (·.2))=tB' g:=by
  exact zip_own _
 have l2:((tB' g).map (·.1)).length<=sizeLine:=by unfold tB';rw[List.length_map,List.length_map];simp at ln;omega
 have li:eLI [0] (eV 2) tYes (eTup (aC (eV 0) (aC (eF m_law_amount (aC (e2 dIx2 (e2 dIx2 (eV 2) (eC (.int 3))) (e1 dNeg (eC (.int 1)))) (aC (eV 1) aN))) aN))) [.im f.D',.im (.lst (L.map tD)),.im (asT (tB' g)),a,b,c,d]=some (.lst (g.map (cellD f.word)),[.im f.D',.im (.lst (L.map tD)),.im (asT (tB' g)),a,b,c,d]):=by
  show bnd (cGo2 tYes _ [.im f.D'] ((((tB' g).map (·.1)).zip ((tB' g).map (·.2))).map prD)) (fun ys=>if ((tB' g).map (·.1)).length<=sizeLine then some (D.lst ys,_) else none)=_
  rw[ez,it];show (if ((tB' g).map (·.1)).length<=sizeLine then some (D.lst (g.map (cellD f.word)),_) else none)=_;rw[if_pos l2]
 have lo':sFor (gT [3,4,5]) (eV 1) l_law_due_2 [.im f.D',.im (.lst (L.map tD)),.ow false (.dtu []),.no,.no,.no,.no]=some (.nx [.im f.D',.im (.lst (L.map tD)),.ow false (.dtu (tB' g)),a,b,c,d]):=lo
 generalize hE:eLI [0] (eV 2) tYes (eTup (aC (eV 0) (aC (eF m_law_amount (aC (e2 dIx2 (e2 dIx2 (eV 2) (eC (.int 3))) (e1 dNeg (eC (.int 1)))) (aC (eV 1) aN))) aN)))=E at li
 generalize hS:sFor (gT [3,4,5]) (eV 1) l_law_due_2=S at lo'
 unfold m_law_due b_law_due;rw[hE,hS]
 generalize g.map (cellD f.word)=C at *
 simp[List.replicate,lo',li,r,cl]
end Fx
namespace Fx
open PySem
theorem fold_cells_eq (f:Fold) (hf:f.ok) (L:List Th) (hL:L.length<=16) (hb:∀ x∈L,0<=x.t/\x.t<1000000000000) :
  m_fold_cells [f.D',.lst (L.map tD)]=some (.lst (sortT ((grp f L []).map (cellD f.word)))):=by
 have hw:∀ t,0<=t->t<1000000000000->(f.wins t).length<=20:=fun t a b=>(windows_eq f hf t a b).2
 have ln:=grp_len f hw L [] hb;have e:=window_cells_eq f hf L hL hb;have r:=r21_cells f.word (grp f L []);have cl:((grp f L []).map (cellD f.word)).length<=1000:=by rw[List.length_map];simp at ln;omega
 generalize (grp f L []).map (cellD f.word)=C at *
 obtain⟨kind,rest,w1,_,hk⟩:=word_at f;rw[w1] at e ⊢;unfold rowD at e ⊢;simp[m_fold_cells,b_fold_cells,fnN,jx4_0,hk,e,r,cl]
end Fx
namespace Fx
open PySem
noncomputable abbrev Ev:=(Str×Int)×Int
noncomputable def evs (f:Fold) (L:List Th):List Ev:=L.flatMap fun x=>(f.wins x.t).map fun w=>((x.k,w),x.v)
noncomputable def addEs (es:List Ev) (g:Grp):Grp:=es.foldl (fun g e=>addI e.1 e.2 g) g
theorem addWs_all (k:Str) (v:Int) (ws:List Int) (g:Grp):addWs k v ws g=addEs (ws.map fun w=>((k,w),v)) g:=by
 unfold addWs addEs;rw[List.foldl_map]
theorem grp_all (f:Fold):∀ (L:List Th) (g:Grp),grp f L g=addEs (evs f L) g
 |[],g=>rfl
 |x::L,g=>by
  show grp f L (addWs x.k x.v (f.wins x.t) g)=_;rw[grp_all f L,addWs_all];show _=addEs (((f.wins x.t).map fun w=>((x.k,w),x.v))++evs f L) g
  unfold addEs;rw[List.foldl_append]
noncomputable def vals (k:Str×Int) (es:List Ev):List Int:=(es.filter fun e=>decide (e.1=k)).map (·.2)
structure GI (es:List Ev) (g:Grp):Prop where
 nd:(g.map (·.1)).Nodup
 ks:∀ k,k∈g.map (·.1)↔k∈es.map (·.1)
 vs:∀ q∈g,q.2=vals q.1 es
theorem addI_mem {k:Str×Int}{v:Int}:∀ {g:Grp},(g.map (·.1)).Nodup->∀ {q},q∈addI k v g->(q.1≠k/\q∈g)\/(q.1=k/\((∃ u,(k,u)∈g/\q.2=u++[v])\/(k∉g.map (·.1)/\q.2=[v])))
 |[],_,q,hq=>by rw[List.mem_singleton.mp hq];exact .inr ⟨rfl,.inr ⟨by simp,rfl⟩⟩
 |x::r,nd,q,hq=>by
  rw[List.map_cons,List.nodup_cons] at nd;have hq:q∈(if x.1=k then (x.1,x.2++[v])::r else x::addI k v r):=hq
  by_cases h:x.1=k
  ·rw[if_pos h] at hq
   rcases List.mem_cons.mp hq with rfl | hq
   ·exact .inr ⟨h,.inl ⟨x.2,by rw[<- h];exact List.mem_cons_self,rfl⟩⟩
   ·exact .inl ⟨fun e=>nd.1 (by rw[h,<- e];exact List.mem_map_of_mem hq),List.mem_cons_of_mem _ hq⟩
  ·rw[if_neg h] at hq
   rcases List.mem_cons.mp hq with rfl | hq
   ·exact .inl ⟨h,List.mem_cons_self⟩
   ·rcases addI_mem nd.2 hq with ⟨a,b⟩ | ⟨a,⟨u,b,c⟩ | ⟨b,c⟩⟩
    ·exact .inl ⟨a,List.mem_cons_of_mem _ b⟩
    ·exact .inr ⟨a,.inl ⟨u,List.mem_cons_of_mem _ b,c⟩⟩
    ·exact .inr ⟨a,.inr ⟨fun z=>by rcases List.mem_cons.mp z with z | z;exact h z.symm;exact b z,c⟩⟩
theorem vals_snoc (k:Str×Int) (es:List Ev) (e:Ev):vals k (es++[e])=vals k es++(if e.1=k then [e.2] else []):=by
 unfold vals;rw[List.filter_append,List.map_append]
 congr 1
 by_cases h:e.1=k
 ·simp[h]
 ·simp[h]
theorem GI.add {es:List Ev}{g:Grp} (h:GI es g) (e:Ev):GI (es++[e]) (addI e.1 e.2 g) where
 nd:=by
  rw[addI_keys]
  split
  ·exact h.nd
  ·rename_i z
   rw[List.nodup_append];exact⟨h.nd,by simp,fun a ha b hb q=>z (by rw[<- List.mem_singleton.mp hb,<- q];exact ha)⟩
 ks:=fun k=>by
  rw[addI_keys,List.map_append,List.mem_append,<- h.ks k]
  split
  ·rename_i z
   constructor
   ·exact .inl
   ·rintro (y | y)
    ·exact y
    ·simp at y;rw[y];exact z
  ·rw[List.mem_append];simp
 vs:=fun q hq=>by
  rw[vals_snoc]
  rcases addI_mem h.nd hq with ⟨a,b⟩ | ⟨a,⟨u,b,c⟩ | ⟨b,c⟩⟩
  ·rw[if_neg fun z=>a z.symm,List.append_nil];exact h.vs q b
  ·have:=h.vs _ b
   rw[if_pos a.symm,c,a]
   congr 1
  ·rw[if_pos a.symm,c,a]
   have:vals e.1 es=[]:=by
    unfold vals;rw[List.map_eq_nil_iff,List.filter_eq_nil_iff];intro x hx;simp only[decide_eq_true_eq];exact fun z=>b ((h.ks e.1).mpr (by rw[<- z];exact List.mem_map_of_mem hx))
   rw[this];rfl
theorem GI.all:∀ (es:List Ev) {d:List Ev}{g:Grp},GI d g->GI (d++es) (addEs es g)
 |[],d,g,h=>by rw[List.append_nil];exact h
 |e::r,d,g,h=>by
  have:=GI.all r (h.add e);rw[List.append_assoc] at this;exact this
theorem GI.nil:GI [] []:=⟨List.nodup_nil,fun k=>Iff.rfl,fun q hq=>by cases hq⟩
theorem cells_nodup {w:Str}{g:Grp} (nd:(g.map (·.1)).Nodup):(g.map (cellD w)).Nodup:=by
 induction g with
 |nil=>exact List.nodup_nil
 |cons x r ih =>
  rw[List.map_cons,List.nodup_cons] at nd ⊢;refine⟨fun hm=>nd.1 ?_,ih nd.2⟩
  obtain⟨y,hy,e⟩:=List.mem_map.mp hm
  have:y.1=x.1:=by
   unfold cellD kD at e;injection e with e
   injection e with e _
   injection e with e
   injection e with e1 e2
   injection e2 with e2 _
   injection e1 with e1
   injection e2 with e2
   exact Prod.ext e1 e2
  rw[<- this];exact List.mem_map_of_mem hy
theorem GI.sub {w:Str}{es es':List Ev} (p:es.Perm es') {g g':Grp} (h:GI es g) (h':GI es' g') {c:D} (hc:c∈g.map (cellD w)):c∈g'.map (cellD w):=by
 obtain⟨q,hq,rfl⟩:=List.mem_map.mp hc;have k1:q.1∈g'.map (·.1):=(h'.ks _).mpr ((p.map (·.1)).mem_iff.mp ((h.ks _).mp (List.mem_map_of_mem hq)));obtain⟨r,hr,e⟩:=List.mem_map.mp k1;refine List.mem_map.mpr ⟨r,hr,?_⟩;have a:=h.vs q hq;have b:=h'.vs r hr;unfold cellD
 have:amt w r.2=amt w q.2:=by
  rw[a,b,e];unfold vals;exact amt_perm ((p.symm.filter _).map _)
 rw[this,e]
theorem cells_rev (f:Fold) (L:List Th):sortT ((grp f L.reverse []).map (cellD f.word))=sortT ((grp f L []).map (cellD f.word)):=by
 have p:(evs f L.reverse).Perm (evs f L):=(List.reverse_perm L).flatMap_right _;have h:=GI.all (evs f L.reverse) GI.nil;have h':=GI.all (evs f L) GI.nil;rw[List.nil_append,<- grp_all] at h h';have pm:((grp f L.reverse []).map (cellD f.word)).Perm ((grp f L []).map (cellD f.word)) :=
  (List.perm_ext_iff_of_nodup (cells_nodup h.nd) (cells_nodup h'.nd)).mpr fun c=>⟨GI.sub p h h',GI.sub p.symm h' h⟩
 refine sortT_uniq (fun a b ha hb e=>?_) ((sortT_perm _).trans pm) (sortT_pw _)
 have r:=List.all_eq_true.mp (r21_cells f.word (grp f L []));exact r21_inj (r a ha) (r b hb) e
end Fx
namespace Fx
open PySem
theorem dp_th:∀ x:List Th,dpDs (x.map tD)<=1
 |[]=>by decide
 |a::r=>by
  have:=dp_th r;rw[List.map_cons,dpDs_cons];have:dpD (tD a)=1:=rfl;omega
theorem eq_self_th:∀ x:List Th,eqDs (x.map tD) (x.map tD)=true
 |[]=>by simp
 |a::r=>by rw[List.map_cons,eqDs_cc,eq_self_th r];simp[tD]
noncomputable abbrev Ce:=(Str×Int)×Int
noncomputable def cD (q:Ce):D:=.tup [.tup [.str q.1.1,.int q.1.2],.int q.2]
noncomputable def unC:D->Ce
 |.tup [.tup [.str a,.int i],.int j]=>((a,i),j)
 |_=>((Str.ofString "",0),0)
theorem dp_cl:∀ x:List Ce,dpDs (x.map cD)<=2
 |[]=>by decide
 |a::r=>by
  have:=dp_cl r;rw[List.map_cons,dpDs_cons];have:dpD (cD a)=2:=rfl;omega
theorem eq_self_cl:∀ x:List Ce,eqDs (x.map cD) (x.map cD)=true
 |[]=>by simp
 |a::r=>by rw[List.map_cons,eqDs_cc,eq_self_cl r];simp[cD]
theorem sort_C (w:Str) (g:Grp):∃ S:List Ce,sortT (g.map (cellD w))=S.map cD/\S.length=g.length:=by
 have pm:=sortT_perm (g.map (cellD w))
 have e:sortT (g.map (cellD w))=((sortT (g.map (cellD w))).map unC).map cD:=by
  rw[List.map_map];refine ((List.map_congr_left (g:=id) fun d hd=>?_).trans (List.map_id _)).symm
  obtain⟨x,_,rfl⟩:=List.mem_map.mp (pm.mem_iff.mp hd);rfl
 refine⟨(sortT (g.map (cellD w))).map unC,e,?_⟩;rw[List.length_map,pm.length_eq,List.length_map]
theorem at_i {α:Type} (f:α->D) {xs:List α}{j:Nat}{u:α} (h:xs[j]?=some u):atD (xs.map f) (j:Int)=some (f u):=by
 have hj:=(List.getElem?_eq_some_iff.mp h).1;unfold atD dPl;rw[List.length_map,if_pos (by omega),if_pos (by omega)]
 show (xs.map f)[((j:Nat):Int).toNat]?=_;rw[Int.toNat_natCast,List.getElem?_map,h];rfl
theorem cell_at_eq (ns:List Int) (hl:ns.length<=63) (j:Nat):∃ c:Int,m_law_cell_at [.lst (ns.map .int),.int (j:Int)]=some (.int c):=by
 by_cases h:(j:Int)<(ns.length:Int)
 ·have hj:ns[j]?=some ns[j]:=List.getElem?_eq_getElem (by omega)
  have a:=at_i D.int hj;exact⟨ns[j],by simp[m_law_cell_at,b_law_cell_at,h,a]⟩
 ·exact⟨0,by simp[m_law_cell_at,b_law_cell_at,h]⟩
theorem ix2_1 (a b:D):atD [a,b] 1=some b:=rfl
theorem nots_eq:∀ cs:List Ce,cGo tYes (eOr (eNot (eTy .tuple (eV 0))) (eTy .bool (e2 dIx2 (eV 0) (eC (.int 1))))) [] (cs.map cD)=some (cs.map fun _=>.bl false)
 |[]=>rfl
 |c::r=>by
  rw[List.map_cons,cGo_c];have t:tYes [.im (cD c)]=some (true,[.im (cD c)]):=rfl;have e:eOr (eNot (eTy .tuple (eV 0))) (eTy .bool (e2 dIx2 (eV 0) (eC (.int 1)))) [.im (cD c)]=some (.bl false,[.im (cD c)]):=by simp[cD,ix2_1]
  rw[t,cGa_t,e,cGb_s,nots_eq r,cnsO_s];rfl
theorem bools_f:∀ cs:List Ce,bools (cs.map fun _=>.bl false)=some (cs.map fun _=>false)
 |[]=>rfl
 |c::r=>by
  rw[List.map_cons,bools_cons,bools_f r];rfl
theorem any_f (cs:List Ce):bAny [.lst (cs.map fun _=>.bl false)]=some (.bl false):=by
 rw[bAny_,bools_f,anyA_s]
 congr 2
 rw[List.any_eq_false];intro b hb;obtain⟨_,_,rfl⟩:=List.mem_map.mp hb;simp
theorem law_true (ns:List Int) (hl:ns.length<=63):m_law [.lst (ns.map .int)]=some (.bl true):=by
 obtain⟨c0,e0⟩:=cell_at_eq ns hl 0;obtain⟨c1,e1⟩:=cell_at_eq ns hl 1;obtain⟨c2,e2⟩:=cell_at_eq ns hl 2;have e0:m_law_cell_at [.lst (ns.map .int),.int 0]=some (.int c0):=e0;have e1:m_law_cell_at [.lst (ns.map .int),.int 1]=some (.int c1):=e1;have e2:m_law_cell_at [.lst (ns.map .int),.int 2]=some (.int c2):=e2
 generalize D.lst (ns.map .int)=sc at *
 obtain⟨k0,k1,k2,k3,k4,ek,_⟩:=keys_eq c0;obtain⟨f,hf,ef⟩:=fold_eq c1;obtain⟨n,en,_,_⟩:=mixed_eq c0 0 (by decide)
 obtain⟨L,eL,hL,hb⟩:=things_eq c2 k0 k1 k2 k3 k4 (n.fmod 17) (Int.fmod_nonneg_of_pos _ (by decide)) (Int.fmod_lt_of_pos _ (by decide))
 have du:=due_eq f hf L hL hb;have f1:=fold_cells_eq f hf L hL hb;have f2:=fold_cells_eq f hf L.reverse (by rw[List.length_reverse];exact hL) fun x hx=>hb x (List.mem_reverse.mp hx)
 rw[cells_rev] at f2;have ln:=grp_len f (fun t a b=>(windows_eq f hf t a b).2) L [] hb
 obtain⟨S,eS,lS⟩:=sort_C f.word (grp f L []);rw[eS] at du f1 f2;have sl:S.length<=sizeLine:=small_line (by simp at ln;omega)
 have ll:L.length<=sizeLine:=small_line (by omega)
 have d1:=dp_th L;have d2:=dp_cl S;have t1:=eq_self_th L;have t2:=eq_self_cl S;have no:=nots_eq S;have an:=any_f S;rw[List.map_reverse] at f2;have dq1:dpDs (L.map tD)+1<=30:=by omega
 have dq2:dpDs (S.map cD)+1<=30:=by omega
 generalize f.D'=row at *
 simp[m_law,b_law,List.replicate,e0,e1,e2,ek,ef,en,eL,du,f1,oneOw,noOw,tHoldLB_s,dq1,dq2,t1,t2,no,an,sl,ll,f2]
end Fx
set_option maxRecDepth 100000
set_option maxHeartbeats 4000000
namespace Fx
open PySem PySem.Spec PyProof.Rows L2
theorem reps_ints {K:PySem.W.Frag}{H:Hp}:∀ ns:List Int,Reps K H (ns.map D.int) (ns.map V.int)
 |[]=>Reps.nil_
 |n::r=>Reps.cons (rep_int H n) (reps_ints r)
theorem us1 {P:List Value->Prop} (h:∀ a0,P [a0]):∀ us:List Value,us.length=1->P us:=fun us hl=>by
 cases us with
 |nil=>exact absurd hl (by simp)
 |cons a0 us =>
 cases us with
 |nil=>exact h _
 |cons b us=>exact absurd hl (by simp)
theorem us2 {P:List Value->Prop} (h:∀ a0 a1,P [a0,a1]):∀ us:List Value,us.length=2->P us:=fun us hl=>by
 cases us with
 |nil=>exact absurd hl (by simp)
 |cons a0 us =>
 cases us with
 |nil=>exact absurd hl (by simp)
 |cons a1 us =>
 cases us with
 |nil=>exact h _ _
 |cons b us=>exact absurd hl (by simp)
theorem us3 {P:List Value->Prop} (h:∀ a0 a1 a2,P [a0,a1,a2]):∀ us:List Value,us.length=3->P us:=fun us hl=>by
 cases us with
 |nil=>exact absurd hl (by simp)
 |cons a0 us =>
 cases us with
 |nil=>exact absurd hl (by simp)
 |cons a1 us =>
 cases us with
 |nil=>exact absurd hl (by simp)
 |cons a2 us =>
 cases us with
 |nil=>exact h _ _ _
 |cons b us=>exact absurd hl (by simp)
theorem us4 {P:List Value->Prop} (h:∀ a0 a1 a2 a3,P [a0,a1,a2,a3]):∀ us:List Value,us.length=4->P us:=fun us hl=>by
 cases us with
 |nil=>exact absurd hl (by simp)
 |cons a0 us =>
 cases us with
 |nil=>exact absurd hl (by simp)
 |cons a1 us =>
 cases us with
 |nil=>exact absurd hl (by simp)
 |cons a2 us =>
 cases us with
 |nil=>exact absurd hl (by simp)
 |cons a3 us =>
 cases us with
 |nil=>exact h _ _ _ _
 |cons b us=>exact absurd hl (by simp)
theorem us5 {P:List Value->Prop} (h:∀ a0 a1 a2 a3 a4,P [a0,a1,a2,a3,a4]):∀ us:List Value,us.length=5->P us:=fun us hl=>by
 cases us with
 |nil=>exact absurd hl (by simp)
 |cons a0 us =>
 cases us with
 |nil=>exact absurd hl (by simp)
 |cons a1 us =>
 cases us with
 |nil=>exact absurd hl (by simp)
 |cons a2 us =>
 cases us with
 |nil=>exact absurd hl (by simp)
 |cons a3 us =>
 cases us with
 |nil=>exact absurd hl (by simp)
 |cons a4 us =>
 cases us with
 |nil=>exact h _ _ _ _ _
 |cons b us=>exact absurd hl (by simp)
theorem all_mk {l:PySem.W.OpenLaw}{w:World}{K:PySem.W.Frag}{h:Heap}{mg:Str → Option Value}{fa f1 f2 f3 f4 f5 f6 f7 f8 f9 f10 f11 f12 f13 f14:Addr} (X:K.In h) (G:h.Ns mainGlobals mg) (hfa:mg "law"=some (.ref fa))
  {od1 an1:Option Addr}{sl1:Array (Option Value)}{oc1 kV1 dc1 pm1 cd1 ct1:Value}
  (a1:PySem.W.nsIn K mainGlobals "windows_of"=some (some (.ref f1))) (l1:K.lookup f1=some ⟨oc1,od1,.func (PySem.W.fnOf "windows_of" "windows_of" (defArgs s_windows_of) (defBody s_windows_of) (defScope s_windows_of) .none kV1 dc1 pm1 an1 cd1 ct1),sl1⟩) (c1:PySem.W.codeIn K cd1 "windows_of"=true) (k1:PySem.W.keepIn K (.ref f1)=true)
  {od2 an2:Option Addr}{sl2:Array (Option Value)}{oc2 kV2 dc2 pm2 cd2 ct2:Value}
  (a2:PySem.W.nsIn K mainGlobals "amount_of"=some (some (.ref f2))) (l2:K.lookup f2=some ⟨oc2,od2,.func (PySem.W.fnOf "amount_of" "amount_of" (defArgs s_amount_of) (defBody s_amount_of) (defScope s_amount_of) .none kV2 dc2 pm2 an2 cd2 ct2),sl2⟩) (c2:PySem.W.codeIn K cd2 "amount_of"=true) (k2:PySem.W.keepIn K (.ref f2)=true)
  {od3 an3:Option Addr}{sl3:Array (Option Value)}{oc3 kV3 dc3 pm3 cd3 ct3:Value}
  (a3:PySem.W.nsIn K mainGlobals "window_cells"=some (some (.ref f3))) (l3:K.lookup f3=some ⟨oc3,od3,.func (PySem.W.fnOf "window_cells" "window_cells" (defArgs s_window_cells) (defBody s_window_cells) (defScope s_window_cells) .none kV3 dc3 pm3 an3 cd3 ct3),sl3⟩) (c3:PySem.W.codeIn K cd3 "window_cells"=true) (k3:PySem.W.keepIn K (.ref f3)=true)
  {od4 an4:Option Addr}{sl4:Array (Option Value)}{oc4 kV4 dc4 pm4 cd4 ct4:Value}
  (a4:PySem.W.nsIn K mainGlobals "fold_cells"=some (some (.ref f4))) (l4:K.lookup f4=some ⟨oc4,od4,.func (PySem.W.fnOf "fold_cells" "fold_cells" (defArgs s_fold_cells) (defBody s_fold_cells) (defScope s_fold_cells) .none kV4 dc4 pm4 an4 cd4 ct4),sl4⟩) (c4:PySem.W.codeIn K cd4 "fold_cells"=true) (k4:PySem.W.keepIn K (.ref f4)=true)
  {od5 an5:Option Addr}{sl5:Array (Option Value)}{oc5 kV5 dc5 pm5 cd5 ct5:Value}
  (a5:PySem.W.nsIn K mainGlobals "_law_cell_at"=some (some (.ref f5))) (l5:K.lookup f5=some ⟨oc5,od5,.func (PySem.W.fnOf "_law_cell_at" "_law_cell_at" (defArgs s_law_cell_at) (defBody s_law_cell_at) (defScope s_law_cell_at) .none kV5 dc5 pm5 an5 cd5 ct5),sl5⟩) (c5:PySem.W.codeIn K cd5 "_law_cell_at"=true) (k5:PySem.W.keepIn K (.ref f5)=true)
  {od6 an6:Option Addr}{sl6:Array (Option Value)}{oc6 kV6 dc6 pm6 cd6 ct6:Value}
  (a6:PySem.W.nsIn K mainGlobals "_law_mixed"=some (some (.ref f6))) (l6:K.lookup f6=some ⟨oc6,od6,.func (PySem.W.fnOf "_law_mixed" "_law_mixed" (defArgs s_law_mixed) (defBody s_law_mixed) (defScope s_law_mixed) .none kV6 dc6 pm6 an6 cd6 ct6),sl6⟩) (c6:PySem.W.codeIn K cd6 "_law_mixed"=true) (k6:PySem.W.keepIn K (.ref f6)=true)
  {od7 an7:Option Addr}{sl7:Array (Option Value)}{oc7 kV7 dc7 pm7 cd7 ct7:Value}
  (a7:PySem.W.nsIn K mainGlobals "_law_keys"=some (some (.ref f7))) (l7:K.lookup f7=some ⟨oc7,od7,.func (PySem.W.fnOf "_law_keys" "_law_keys" (defArgs s_law_keys) (defBody s_law_keys) (defScope s_law_keys) .none kV7 dc7 pm7 an7 cd7 ct7),sl7⟩) (c7:PySem.W.codeIn K cd7 "_law_keys"=true) (k7:PySem.W.keepIn K (.ref f7)=true)
  {od8 an8:Option Addr}{sl8:Array (Option Value)}{oc8 kV8 dc8 pm8 cd8 ct8:Value}
  (a8:PySem.W.nsIn K mainGlobals "_law_number"=some (some (.ref f8))) (l8:K.lookup f8=some ⟨oc8,od8,.func (PySem.W.fnOf "_law_number" "_law_number" (defArgs s_law_number) (defBody s_law_number) (defScope s_law_number) .none kV8 dc8 pm8 an8 cd8 ct8),sl8⟩) (c8:PySem.W.codeIn K cd8 "_law_number"=true) (k8:PySem.W.keepIn K (.ref f8)=true)
  {od9 an9:Option Addr}{sl9:Array (Option Value)}{oc9 kV9 dc9 pm9 cd9 ct9:Value}
  (a9:PySem.W.nsIn K mainGlobals "_law_things"=some (some (.ref f9))) (l9:K.lookup f9=some ⟨oc9,od9,.func (PySem.W.fnOf "_law_things" "_law_things" (defArgs s_law_things) (defBody s_law_things) (defScope s_law_things) .none kV9 dc9 pm9 an9 cd9 ct9),sl9⟩) (c9:PySem.W.codeIn K cd9 "_law_things"=true) (k9:PySem.W.keepIn K (.ref f9)=true)
  {od10 an10:Option Addr}{sl10:Array (Option Value)}{oc10 kV10 dc10 pm10 cd10 ct10:Value}
  (a10:PySem.W.nsIn K mainGlobals "_law_amount"=some (some (.ref f10))) (l10:K.lookup f10=some ⟨oc10,od10,.func (PySem.W.fnOf "_law_amount" "_law_amount" (defArgs s_law_amount) (defBody s_law_amount) (defScope s_law_amount) .none kV10 dc10 pm10 an10 cd10 ct10),sl10⟩) (c10:PySem.W.codeIn K cd10 "_law_amount"=true) (k10:PySem.W.keepIn K (.ref f10)=true)
  {od11 an11:Option Addr}{sl11:Array (Option Value)}{oc11 kV11 dc11 pm11 cd11 ct11:Value}
  (a11:PySem.W.nsIn K mainGlobals "_law_fold"=some (some (.ref f11))) (l11:K.lookup f11=some ⟨oc11,od11,.func (PySem.W.fnOf "_law_fold" "_law_fold" (defArgs s_law_fold) (defBody s_law_fold) (defScope s_law_fold) .none kV11 dc11 pm11 an11 cd11 ct11),sl11⟩) (c11:PySem.W.codeIn K cd11 "_law_fold"=true) (k11:PySem.W.keepIn K (.ref f11)=true)
  {od12 an12:Option Addr}{sl12:Array (Option Value)}{oc12 kV12 dc12 pm12 cd12 ct12:Value}
  (a12:PySem.W.nsIn K mainGlobals "_law_windows"=some (some (.ref f12))) (l12:K.lookup f12=some ⟨oc12,od12,.func (PySem.W.fnOf "_law_windows" "_law_windows" (defArgs s_law_windows) (defBody s_law_windows) (defScope s_law_windows) .none kV12 dc12 pm12 an12 cd12 ct12),sl12⟩) (c12:PySem.W.codeIn K cd12 "_law_windows"=true) (k12:PySem.W.keepIn K (.ref f12)=true)
  {od13 an13:Option Addr}{sl13:Array (Option Value)}{oc13 kV13 dc13 pm13 cd13 ct13:Value}
  (a13:PySem.W.nsIn K mainGlobals "_law_due"=some (some (.ref f13))) (l13:K.lookup f13=some ⟨oc13,od13,.func (PySem.W.fnOf "_law_due" "_law_due" (defArgs s_law_due) (defBody s_law_due) (defScope s_law_due) .none kV13 dc13 pm13 an13 cd13 ct13),sl13⟩) (c13:PySem.W.codeIn K cd13 "_law_due"=true) (k13:PySem.W.keepIn K (.ref f13)=true)
  {od14 an14:Option Addr}{sl14:Array (Option Value)}{oc14 kV14 dc14 pm14 cd14 ct14:Value}
  (a14:PySem.W.nsIn K mainGlobals "law"=some (some (.ref f14))) (l14:K.lookup f14=some ⟨oc14,od14,.func (PySem.W.fnOf "law" "law" (defArgs s_law) (defBody s_law) (defScope s_law) .none kV14 dc14 pm14 an14 cd14 ct14),sl14⟩) (c14:PySem.W.codeIn K cd14 "law"=true) (k14:PySem.W.keepIn K (.ref f14)=true)
  (z1:PySem.W.nsIn K mainGlobals "abs"=some none) (z2:PySem.W.nsIn K mainGlobals "len"=some none) (z3:PySem.W.nsIn K mainGlobals "max"=some none) (z4:PySem.W.nsIn K mainGlobals "min"=some none) (z5:PySem.W.nsIn K mainGlobals "any"=some none) (z6:PySem.W.nsIn K mainGlobals "all"=some none) (z7:PySem.W.nsIn K mainGlobals "range"=some none) (z8:PySem.W.nsIn K mainGlobals "isinstance"=some none) (z9:PySem.W.nsIn K mainGlobals "int"=some none) (z10:PySem.W.nsIn K mainGlobals "bool"=some none) (z11:PySem.W.nsIn K mainGlobals "str"=some none) (z12:PySem.W.nsIn K mainGlobals "tuple"=some none) (z13:PySem.W.nsIn K mainGlobals "list"=some none) (z14:PySem.W.nsIn K mainGlobals "sorted"=some none) (z15:PySem.W.nsIn K mainGlobals "dict"=some none) (z16:PySem.W.nsIn K mainGlobals "set"=some none) (z17:PySem.W.nsIn K mainGlobals "sum"=some none) :
  ∃ fd:FuncData,(∀ (s:Shared) (v:Value),BindsTo s fd ⟨[v],[]⟩ [("_law_script",v)]) ∧ ∀ base:Heap,K.In base → base.Ns mainGlobals mg → FnOk l.prog w K mg base CX0 4 fa fd ["_law_script"] (spP K m_law):=by
 have e:=hfa.symm.trans (PySem.W.mg_of X G a14);cases e;have T:Blt w K mg:=⟨PySem.W.mg_none_of X G z1,PySem.W.mg_none_of X G z2,PySem.W.mg_none_of X G z3,PySem.W.mg_none_of X G z4,PySem.W.mg_none_of X G z5,PySem.W.mg_none_of X G z6,PySem.W.mg_none_of X G z7,PySem.W.mg_none_of X G z8,PySem.W.mg_none_of X G z9,PySem.W.mg_none_of X G z10,PySem.W.mg_none_of X G z11,PySem.W.mg_none_of X G z12,PySem.W.mg_none_of X G z13,PySem.W.mg_none_of X G z14,PySem.W.mg_none_of X G z15,PySem.W.mg_none_of X G z16,PySem.W.mg_none_of X G z17⟩;have F1:=fun_mk (st:=s_windows_of) l1 c1 k1;have b1:=F1.binds (ps:=["row","time"]) fun _ _ _ _ _ _=>us2 fun _ _=>rfl
 have F2:=fun_mk (st:=s_amount_of) l2 c2 k2;have b2:=F2.binds (ps:=["fold_word","values"]) fun _ _ _ _ _ _=>us2 fun _ _=>rfl
 have F3:=fun_mk (st:=s_window_cells) l3 c3 k3;have b3:=F3.binds (ps:=["row","things"]) fun _ _ _ _ _ _=>us2 fun _ _=>rfl
 have F4:=fun_mk (st:=s_fold_cells) l4 c4 k4;have b4:=F4.binds (ps:=["row","things"]) fun _ _ _ _ _ _=>us2 fun _ _=>rfl
 have F5:=fun_mk (st:=s_law_cell_at) l5 c5 k5;have b5:=F5.binds (ps:=["_law_script","_law_k"]) fun _ _ _ _ _ _=>us2 fun _ _=>rfl
 have F6:=fun_mk (st:=s_law_mixed) l6 c6 k6;have b6:=F6.binds (ps:=["_law_cell","_law_k"]) fun _ _ _ _ _ _=>us2 fun _ _=>rfl
 have F7:=fun_mk (st:=s_law_keys) l7 c7 k7;have b7:=F7.binds (ps:=["_law_cell"]) fun _ _ _ _ _ _=>us1 fun _=>rfl
 have F8:=fun_mk (st:=s_law_number) l8 c8 k8;have b8:=F8.binds (ps:=["_law_cell","_law_j"]) fun _ _ _ _ _ _=>us2 fun _ _=>rfl
 have F9:=fun_mk (st:=s_law_things) l9 c9 k9;have b9:=F9.binds (ps:=["_law_cell","_law_keys_here","_law_many"]) fun _ _ _ _ _ _=>us3 fun _ _ _=>rfl
 have F10:=fun_mk (st:=s_law_amount) l10 c10 k10;have b10:=F10.binds (ps:=["_law_word","_law_values"]) fun _ _ _ _ _ _=>us2 fun _ _=>rfl
 have F11:=fun_mk (st:=s_law_fold) l11 c11 k11;have b11:=F11.binds (ps:=["_law_cell"]) fun _ _ _ _ _ _=>us1 fun _=>rfl
 have F12:=fun_mk (st:=s_law_windows) l12 c12 k12;have b12:=F12.binds (ps:=["_law_row","_law_time"]) fun _ _ _ _ _ _=>us2 fun _ _=>rfl
 have F13:=fun_mk (st:=s_law_due) l13 c13 k13;have b13:=F13.binds (ps:=["_law_row","_law_things_here"]) fun _ _ _ _ _ _=>us2 fun _ _=>rfl
 have F14:=fun_mk (st:=s_law) l14 c14 k14;have b14:=F14.binds (ps:=["_law_script"]) fun _ _ _ _ _ _=>us1 fun _=>rfl
 refine⟨PySem.W.fnOf "law" "law" (defArgs s_law) (defBody s_law) (defScope s_law) .none kV14 dc14 pm14 an14 cd14 ct14,fun s v=>.of_eq rfl,fun base _ _=>?_⟩
 have G1:DefOk l.prog w K mg base 1 "windows_of" m_windows_of:=ok_windows_of F1 b1 (PySem.W.mg_of X G a1) T;have G2:DefOk l.prog w K mg base 1 "amount_of" m_amount_of:=ok_amount_of F2 b2 (PySem.W.mg_of X G a2) T;have G5:DefOk l.prog w K mg base 1 "_law_cell_at" m_law_cell_at:=ok_law_cell_at F5 b5 (PySem.W.mg_of X G a5) T;have G6:DefOk l.prog w K mg base 1 "_law_mixed" m_law_mixed:=ok_law_mixed F6 b6 (PySem.W.mg_of X G a6) T;have G10:DefOk l.prog w K mg base 1 "_law_amount" m_law_amount:=ok_law_amount F10 b10 (PySem.W.mg_of X G a10) T;have G12:DefOk l.prog w K mg base 1 "_law_windows" m_law_windows:=ok_law_windows F12 b12 (PySem.W.mg_of X G a12) T;have G3:DefOk l.prog w K mg base 2 "window_cells" m_window_cells:=ok_window_cells F3 b3 (PySem.W.mg_of X G a3) T G2 G1;have G7:DefOk l.prog w K mg base 2 "_law_keys" m_law_keys:=ok_law_keys F7 b7 (PySem.W.mg_of X G a7) T G6;have G8:DefOk l.prog w K mg base 2 "_law_number" m_law_number:=ok_law_number F8 b8 (PySem.W.mg_of X G a8) T G6;have G13:DefOk l.prog w K mg base 2 "_law_due" m_law_due:=ok_law_due F13 b13 (PySem.W.mg_of X G a13) T G10 G12;have G4:DefN l.prog w K mg base 3 "fold_cells" m_fold_cells:=ok_fold_cells F4 b4 (PySem.W.mg_of X G a4) T G3;have G9:DefOk l.prog w K mg base 3 "_law_things" m_law_things:=ok_law_things F9 b9 (PySem.W.mg_of X G a9) T G6 G8;have G11:DefOk l.prog w K mg base 3 "_law_fold" m_law_fold:=ok_law_fold F11 b11 (PySem.W.mg_of X G a11) T G6 G8;exact fn_law F14 T G5 G13 G11 G7 G6 G9 G4
theorem walk {l:PySem.W.OpenLaw}{q:Program}{loose:List Str}{XP:(Str->Option Value)->Heap->Prop}{YP:World->Heap->Prop}{d:DefRec}{K:Params->PySem.W.Frag} (hn:l.most=some 63) (hdf:d.params.defaults=[])
  (hY:∀ (w:World) (h:Heap),YP w h->(K w.params).In h)
  (F:∀ (w:World) (mg:Str->Option Value) (fa:Addr) (h:Heap),(K w.params).In h->h.Ns mainGlobals mg->mg d.name=some (.ref fa) ->
   ∃ fd:FuncData,(∀ (s:Shared) (u:Value),BindsTo s fd ⟨[u],[]⟩ [("_law_script",u)]) ∧ ∀ base:Heap,(K w.params).In base → base.Ns mainGlobals mg → FnOk l.prog w (K w.params) mg base CX0 4 fa fd ["_law_script"] (spP (K w.params) m_law)) :
  PySem.W.WalkO q loose XP YP l.row.toRowW d [] (fun f vs=>PySem.call f vs) :=
 L2.walk_of (n:=63) (k:=4) (x:="_law_script") (CX:=fun _=>CX0) (sp:=fun w=>spP (K w.params) m_law) hn (by decide) hdf ⟨rfl,by decide,by decide⟩ hY F
  (fun w H a ns hl _ hS=>⟨H,[.lst (ns.map .int)],.bl true,Same.refl _,Reps.one (by unfold Rep;exact⟨a,_,rfl,hS,reps_ints ns⟩),law_true ns hl,fun v Hi' H' S r=>by unfold Rep at r;exact r⟩) fun _ _ _ _ _ z=>z
end Fx
open PySem PySem.W PyProof.Rows
set_option maxRecDepth 100000 in
set_option maxHeartbeats 0 in
theorem PySem.Challenge.cw_latewell_k34_cells_by_windows_holds : PySem.Challenge.rw_latewell_k34_cells_by_windows.Holds := by
 w_on;o_law;k_head;(case hw=>w_witness2)
 k_fill
 refine Fx.walk (l:=PySem.Challenge.rw_latewell_k34_cells_by_windows) rfl rfl (fun w h Y=>PySem.W.kIn_of Y) ?F
 case F =>
  intro w mg fa h KX G hmg;refine' Fx.all_mk KX G hmg ?a1 ?l1 ?c1 ?k1 ?a2 ?l2 ?c2 ?k2 ?a3 ?l3 ?c3 ?k3 ?a4 ?l4 ?c4 ?k4 ?a5 ?l5 ?c5 ?k5 ?a6 ?l6 ?c6 ?k6 ?a7 ?l7 ?c7 ?k7 ?a8 ?l8 ?c8 ?k8 ?a9 ?l9 ?c9 ?k9 ?a10 ?l10 ?c10 ?k10 ?a11 ?l11 ?c11 ?k11 ?a12 ?l12 ?c12 ?k12 ?a13 ?l13 ?c13 ?k13 ?a14 ?l14 ?c14 ?k14 ?z1 ?z2 ?z3 ?z4 ?z5 ?z6 ?z7 ?z8 ?z9 ?z10 ?z11 ?z12 ?z13 ?z14 ?z15 ?z16 ?z17
  (case a1=>k_is)
  (case l1=>k_is)
  (case c1=>k_is)
  (case k1=>k_is)
  (case a2=>k_is)
  (case l2=>k_is)
  (case c2=>k_is)
  (case k2=>k_is)
  (case a3=>k_is)
  (case l3=>k_is)
  (case c3=>k_is)
  (case k3=>k_is)
  (case a4=>k_is)
  (case l4=>k_is)
  (case c4=>k_is)
  (case k4=>k_is)
  (case a5=>k_is)
  (case l5=>k_is)
  (case c5=>k_is)
  (case k5=>k_is)
  (case a6=>k_is)
  (case l6=>k_is)
  (case c6=>k_is)
  (case k6=>k_is)
  (case a7=>k_is)
  (case l7=>k_is)
  (case c7=>k_is)
  (case k7=>k_is)
  (case a8=>k_is)
  (case l8=>k_is)
  (case c8=>k_is)
  (case k8=>k_is)
  (case a9=>k_is)
  (case l9=>k_is)
  (case c9=>k_is)
  (case k9=>k_is)
  (case a10=>k_is)
  (case l10=>k_is)
  (case c10=>k_is)
  (case k10=>k_is)
  (case a11=>k_is)
  (case l11=>k_is)
  (case c11=>k_is)
  (case k11=>k_is)
  (case a12=>k_is)
  (case l12=>k_is)
  (case c12=>k_is)
  (case k12=>k_is)
  (case a13=>k_is)
  (case l13=>k_is)
  (case c13=>k_is)
  (case k13=>k_is)
  (case a14=>k_is)
  (case l14=>k_is)
  (case c14=>k_is)
  (case k14=>k_is)
  (case z1=>k_is)
  (case z2=>k_is)
  (case z3=>k_is)
  (case z4=>k_is)
  (case z5=>k_is)
  (case z6=>k_is)
  (case z7=>k_is)
  (case z8=>k_is)
  (case z9=>k_is)
  (case z10=>k_is)
  (case z11=>k_is)
  (case z12=>k_is)
  (case z13=>k_is)
  (case z14=>k_is)
  (case z15=>k_is)
  (case z16=>k_is)
  (case z17=>k_is)
