import PyProof.Rows.All
import Wide.All
import OpenK.AllK
import Wide.FinOn
import Lean
import PyProof.EqAt
import PyProof.EqKinds
import PyProof.TupleCall
import PySem.Sem
import PySem.Builtin.Int.W1All
import PyProof.StrBlockI
import PyProof.Rows.SortStr
import PyProof.TupleOfSeq
import PyProof.AttrMissHeap
import PyProof.TupleIter
import PyProof.DictUpdate
import PyProof.ListNew
import KE.KDictOf
import PyProof.SetKind
import PyProof.DictKinds
import PyProof.SeqWrite
import PyProof.CollectWalk
import PyProof.FactsAll.set_1
import PyProof.FactsAll.set_2
import PyProof.FactsAll.set_3
import PyProof.Rows.SetFrom
import PyProof.Walks
import PyProof.WalksS
import PyProof.FactsAll.tuple_iterator
import KE.KDictList
import PySem.Challenge.RW_latewell_k15_boxes_by_rows
set_option Elab.async false
set_option linter.all false
set_option maxRecDepth 100000
set_option maxHeartbeats 4000000
noncomputable section
open PySem.W (Frag nsIn mg_of mg_none_of fnOf codeIn keepIn OpenLaw)
section
open PySem PyProof.Rows
abbrev qb:=@wpAny_bind
abbrev qc:=@wpAny_pure
abbrev qd:=@Heap.get?_push_of_some
abbrev qg:=@List.mem_cons_of_mem
abbrev qh:=@Option.some.inj
abbrev qi:=@Nat.le_refl
abbrev qj:=@Heap.get?_push_size
abbrev qk:=@Heap.lt_size
abbrev ql:=@List.mem_append_right
abbrev qm:=@Nat.lt_of_lt_of_le
abbrev qo:=@Nat.ne_of_lt
theorem qp{α:Type _}{a b:α}{l:List α}(h:a∈b::l):a=b\/a∈l:=List.mem_cons.mp h
end
namespace L2
open PySem PySem.Spec PyProof.Rows
abbrev Key:=Sum Int Str
def Y_8:Key->Value->Bool
 |.inl k,v=>Value.isInt k v
 |.inr x,v=>Value.isStrOf x v
def bL5 (w:World):Key->Int
 |.inl k=>hashInt k
 |.inr x=>hashStr w x
theorem g_2:∀ {k:Key}{v:Value},Y_8 k v=true->(∃ i t,k=Sum.inl i/\v=Value.int i t)\/(∃ x t,k=Sum.inr x/\v=Value.str x t)
 |.inl i,v,h=>by
  obtain⟨t,e⟩:=Value.isInt_shape (k:=i) (v:=v) h;exact .inl ⟨i,t,rfl,e⟩
 |.inr x,v,h=>by
  obtain⟨t,e⟩:=Value.isStrOf_shape (x:=x) (v:=v) h;exact .inr ⟨x,t,rfl,e⟩
theorem aq8 (i:Int) (t:Tok):Y_8 (.inl i) (.int i t)=true:=by simp[Y_8,Value.isInt]
theorem aq7 (x:Str) (t:Tok):Y_8 (.inr x) (.str x t)=true:=by simp[Y_8,Value.isStrOf]
theorem be3 (a b:Int):decide ((Sum.inl a:Key)=Sum.inl b)=(a==b):=by
 by_cases e:a=b
 ·subst e;simp
 ·have h:¬ (Sum.inl a:Key)=Sum.inl b:=λ q=>e (Sum.inl.inj q)
  rw[decide_eq_false h];exact (beq_eq_false_iff_ne.mpr e).symm
theorem be0 (a b:Str):decide ((Sum.inr a:Key)=Sum.inr b)=decide (a=b):=by
 by_cases e:a=b
 ·subst e;simp
 ·have h:¬ (Sum.inr a:Key)=Sum.inr b:=λ q=>e (Sum.inr.inj q)
  rw[decide_eq_false h,decide_eq_false e]
theorem be2 (a:Int) (b:Str):decide ((Sum.inl a:Key)=Sum.inr b)=false:=decide_eq_false (λ q=>nomatch q)
theorem be1 (a:Str) (b:Int):decide ((Sum.inr a:Key)=Sum.inl b)=false:=decide_eq_false (λ q=>nomatch q)
def f_2 (prog:Program) (w:World):PySem.KeyKind prog w Key where
 is:=Y_8
 hash:=bL5 w
 inj:=λ v a b ha hb=>by
  rcases g_2 ha with ⟨i,t,rfl,rfl⟩ | ⟨x,t,rfl,rfl⟩
  ·rcases g_2 hb with ⟨j,u,rfl,e⟩ | ⟨y,u,rfl,e⟩
   ·injection e with e1 _;rw[e1]
   ·exact nomatch e
  ·rcases g_2 hb with ⟨j,u,rfl,e⟩ | ⟨y,u,rfl,e⟩
   ·exact nomatch e
   ·injection e with e1 _;rw[e1]
 byValue:=λ k v h=>by
  rcases g_2 h with ⟨i,t,rfl,rfl⟩ | ⟨x,t,rfl,rfl⟩ <;> rfl
 pyHash:=λ hv h=>by
  rcases g_2 hv with ⟨i,t,rfl,rfl⟩ | ⟨x,t,rfl,rfl⟩
  ·exact wpAny_pyHash_int h
  ·exact wpAny_pyHash_str h
 eqBool:=λ hu hv h=>by
  rcases g_2 hu with ⟨i,t,rfl,rfl⟩ | ⟨x,t,rfl,rfl⟩
  ·rcases g_2 hv with ⟨j,u,rfl,rfl⟩ | ⟨y,u,rfl,rfl⟩
   ·rw[be3] at h;exact wpAny_eqBool_int h
   ·rw[be2] at h;exact SeqAt.EqAt.int_str i t y u _ _ _ _ h
  ·rcases g_2 hv with ⟨j,u,rfl,rfl⟩ | ⟨y,u,rfl,rfl⟩
   ·rw[be1] at h;exact SeqAt.EqAt.str_int x t j u _ _ _ _ h
   ·rw[be0] at h;exact wpAny_eqBool_str h
 «strs»:=λ k x t v h=>by
  rcases g_2 h with ⟨i,u,rfl,e⟩ | ⟨y,u,rfl,e⟩
  ·exact nomatch e
  ·injection e with e1 _
   subst e1;cases v <;> rfl
theorem Y_1 (prog:Program) (w:World) (i:Int) (t:Tok):(f_2 prog w).is (.inl i) (.int i t)=true:=aq8 i t
theorem Y_0 (prog:Program) (w:World) (x:Str) (t:Tok):(f_2 prog w).is (.inr x) (.str x t)=true:=aq7 x t
inductive V where
 |non | bl (b:Bool) | int (i:Int) | str (x:Str) | byt (b:Array UInt8) | flt (b:UInt64) | ref (a:Addr) | ty (n:String)
 deriving DecidableEq
def RelV:V->Value->Prop
 |.non,u=>u=Value.none
 |.bl b,u=>u=Value.bool b
 |.int i,u=>∃ t,u=Value.int i t
 |.str x,u=>∃ t,u=Value.str x t
 |.byt b,u=>∃ t,u=Value.bytes b t
 |.flt b,u=>∃ t,u=Value.float b t
 |.ref a,u=>u=Value.ref a
 |.ty n,u=>u=Value.type n
abbrev Vals:List V->List Value->Prop:=Paired RelV
theorem Vals.length {xs:List V}{us:List Value} (r:Vals xs us):xs.length=us.length:=Paired.length r
theorem Vals.get:∀ {xs:List V}{us:List Value}{i:Nat}{x:V},Vals xs us->xs[i]?=some x->∃ u,us[i]?=some u/\RelV x u
 |_,_,_,_,.nil,e=>by simp at e
 |_,_,0,_,.cons r _,e=>by simp at e;subst e;exact⟨_,rfl,r⟩
 |_,_,i+1,x,.cons _ t,e=>by
  obtain⟨u,h1,h2⟩:=Vals.get (i:=i) (x:=x) t (by simpa using e)
  exact⟨u,by simpa using h1,h2⟩
theorem Vals.set {x:V}{u:Value} (r:RelV x u):∀ {xs:List V}{us:List Value} (i:Nat),Vals xs us->Vals (xs.set i x) (us.set i u)
 |_,_,_,.nil=>.nil
 |_,_,0,.cons _ t=>.cons r t
 |_,_,i+1,.cons q t=>.cons q (Vals.set r i t)
theorem Vals.append:∀ {xs ys:List V}{us ws:List Value},Vals xs us->Vals ys ws->Vals (xs++ys) (us++ws)
 |_,_,_,_,.nil,s=>s
 |_,_,_,_,.cons r t,s=>.cons r (Vals.append t s)
theorem Vals.take:∀ {xs:List V}{us:List Value} (n:Nat),Vals xs us->Vals (xs.take n) (us.take n)
 |_,_,0,_=>.nil
 |_,_,_+1,.nil=>.nil
 |_,_,n+1,.cons r t=>.cons r (Vals.take n t)
theorem Vals.drop:∀ {xs:List V}{us:List Value} (n:Nat),Vals xs us->Vals (xs.drop n) (us.drop n)
 |_,_,0,r=>r
 |_,_,_+1,.nil=>.nil
 |_,_,n+1,.cons _ t=>Vals.drop n t
theorem Vals.none_of:∀ {xs:List V}{us:List Value}{i:Nat},Vals xs us->xs[i]?=none->us[i]?=none:=λ {xs us i} r e=>by
 have h1:=r.length;have h2:xs.length<=i:=List.getElem?_eq_none_iff.mp e;exact List.getElem?_eq_none_iff.mpr (by omega)
def RelO:Option V->Option Value->Prop
 |some v,some u=>RelV v u
 |none,none=>True
 |_,_=>False
def KV {κ:Type}:List (κ×V)->List (κ×Value)->Prop:=Paired λ (p:κ×V) (q:κ×Value)=>p.1=q.1/\RelV p.2 q.2
def kV:Key->V
 |.inl i=>.int i
 |.inr x=>.str x
inductive HO where
 |lst (xs:List V)
 |tup (xs:List V)
 |dK (kvs:List (Key×V)) | dT (kvs:List (List Key×V))
 |set (S:Int->Bool) (n:Nat)
 |ins (C dx:Addr) (fs:List (Str×V))
 |own (x:Addr)
 |xd (fs:List (Str×V))
 |met (f x:Addr)
 |rng (lo hi:Int)
 |frz (o:Obj) (u:HO)
 |tbl (ps:Array Value)
 |ext (φ:Heap->Prop)
abbrev Hp:=Addr->Option HO
def upd (H:Hp) (a:Addr) (o:HO):Hp:=λ b=>if b=a then some o else H b
theorem a_7 {H:Hp}{a:Addr}{o:HO}:upd H a o a=some o:=by unfold upd;rw[if_pos rfl]
theorem b_6 {H:Hp}{a b:Addr}{o:HO} (h:b≠a):upd H a o b=H b:=by unfold upd;rw[if_neg h]
theorem ne_of {H:Hp}{a b:Addr}{o u:HO} (h:H a=some o) (h':H b=some u) (d:o≠u):a≠b:=by
 intro e;subst e;rw[h] at h';exact d (qh h')
theorem c_7 {H:Hp}{a b:Addr}{o:HO} (h:H a=some o) (h':H b=none):a≠b:=by
 intro e;subst e;rw[h] at h';cases h'
def IsTuN (h:Heap) (a:Addr) (items:Array Value):Prop:=∃ o,h.get? a=some o ∧ o.cls=.type "tuple" ∧ (∃ n,o.data=.seq items n) ∧ o.dict=none
theorem IsTuN.tup {h:Heap}{a:Addr}{items:Array Value} (x:IsTuN h a items):IsTup h a items:=let ⟨o,p,q,⟨n,r⟩,_⟩:=x;⟨o,p,q,n,r⟩
theorem IsTuN.new (h:Heap) (items:Array Value):IsTuN (h.push {cls:=.type "tuple",data:=.seq items}) h.objs.size items:=⟨_,qj _ rfl,rfl,⟨0,rfl⟩,rfl⟩
section
variable (P:Program) (w:World)
def ObjOk (H:Hp) (h:Heap) (a:Addr):HO->Prop
 |.lst xs=>xs.length ≤ sizeLine ∧ ∃ (its:List Value) (n:Nat),Vals xs its ∧ h.get? a=some {cls:=.type "list",data:=.seq its.toArray n}
 |.tup xs=>xs.length<=sizeLine/\∃ its:List Value,Vals xs its/\IsTuN h a its.toArray
 |.dK kvs=>kvs.length<=sizeLine/\(a==sysModules)=false/\∃ vs,KV kvs vs/\h.DictOf (f_2 P w) a vs
 |.dT kvs=>kvs.length<=sizeLine/\(a==sysModules)=false/\∃ xs:List (List Key×Addr×Value),
   Paired (λ (p:List Key×V) (q:List Key×Addr×Value)=>p.1=q.1/\H q.2.1=some (.tup (p.1.map kV))/\RelV p.2 q.2.2) kvs xs /\
   ∃ o es ep,h.get? a=some o/\o.ExactDict/\o.data=.dict es ep/\es.toList=xs.map (entryOfKey (tupleKind (f_2 P w)))/\(xs.map (·.1)).Nodup
 |.set S n=>h.SetOf (intKind P w) a S n
 |.ins C dx fs=>H dx=some (.own a)/\fs.length<=1000/\dx≠a/\h.get? a=some (PySem.W.instObj C dx) /\
   ∃ mA,h.Ns1 dx mA/\(∀ f,RelO (fs.lookup f) (mA f))/\PySem.Within mA (fs.map (·.1))
 |.own _=>∃ o,h.get? a=some o
 |.xd fs=>∃ mA,h.Ns1 a mA/\∀ f,RelO (fs.lookup f) (mA f)
 |.rng lo hi=>∃ t u v,h.get? a=some {cls:=.type "range",data:=.fields #[.int lo t,.int hi u,.int 1 v]}
 |.frz o u=>h.get? a=some o/\ObjOk H h a u
 |.tbl ps=>h.get? a=some {cls:=.none,data:=.fields ps}
 |.met f x=>h.get? a=some (PySem.W.methodObj (.ref f) (.ref x))
 |.ext φ=>φ h/\(∃ o,h.get? a=some o)/\∀ h1 h2:Heap,φ h1->(∀ o,h1.get? a=some o->h2.get? a=some o)->φ h2
def HOk (H:Hp) (h:Heap):Prop:=∀ a o,H a=some o->ObjOk P w H h a o
end
section
variable {P:Program}{w:World}{H H':Hp}{h h':Heap}{a:Addr}{o:HO}
theorem ObjOk.lt (x:ObjOk P w H h a o):a<h.objs.size:=by
 cases o with
 |lst xs=>obtain⟨_,_,_,_,e⟩:=x;exact qk e
 |tup xs=>obtain⟨_,_,_,p⟩:=x;exact p.tup.lt
 |dK kvs=>obtain⟨_,_,_,_,o,_,_,e,_⟩:=x;exact qk e
 |dT kvs=>obtain⟨_,_,_,_,o,_,_,e,_⟩:=x;exact qk e
 |set S n=>obtain⟨o,_,_,_,e,_⟩:=x;exact qk e
 |ins C dx fs=>obtain⟨_,_,_,e,_⟩:=x;exact qk e
 |own y=>obtain⟨_,e⟩:=x;exact qk e
 |xd fs=>obtain⟨_,⟨_,_,_,e,_⟩,_⟩:=x;exact qk e
 |rng lo hi=>obtain⟨_,_,_,e⟩:=x;exact qk e
 |frz ob u=>obtain⟨e,_⟩:=x;exact qk e
 |tbl ps=>exact qk (show h.get? a=some _ from x)
 |met f y=>exact qk (show h.get? a=some _ from x)
 |ext φ=>obtain⟨_,⟨_,e⟩,_⟩:=x;exact qk e
theorem Paired.mapP {α β:Type}{F G:α->β->Prop}:∀ {l₁:List α}{l₂:List β},Paired F l₁ l₂->(∀ a b,F a b->G a b)->Paired G l₁ l₂
 |_,_,.nil,_=>.nil
 |_,_,.cons r t,f=>.cons (f _ _ r) (Paired.mapP t f)
theorem ObjOk.stay (x:ObjOk P w H h a o) (k:∀ b u,(b=a\/H b=some (.own a))->h.get? b=some u->h'.get? b=some u)
  (ho:∀ b,H b=some (.own a)->H' b=some (.own a)) (ht:∀ b xs,H b=some (.tup xs)->H' b=some (.tup xs)):ObjOk P w H' h' a o:=by
 induction o with
 |lst xs=>obtain⟨z,its,n,r,e⟩:=x;exact⟨z,its,n,r,k _ _ (.inl rfl) e⟩
 |tup xs=>obtain⟨z,its,r,ob,e,c⟩:=x;exact⟨z,its,r,ob,k _ _ (.inl rfl) e,c⟩
 |dK kvs=>obtain⟨z,y,vs,r,ob,es,ep,e,c⟩:=x;exact⟨z,y,vs,r,ob,es,ep,k _ _ (.inl rfl) e,c⟩
 |dT kvs =>
  obtain⟨z,y,xs,r,ob,es,ep,e,c⟩:=x;exact⟨z,y,xs,Paired.mapP r λ p q z=>⟨z.1,ht _ _ z.2.1,z.2.2⟩,ob,es,ep,k _ _ (.inl rfl) e,c⟩
 |set S n=>obtain⟨ob,es,ep,t,e,c⟩:=x;exact⟨ob,es,ep,t,k _ _ (.inl rfl) e,c⟩
 |ins C dx fs =>
  obtain⟨d,z,ne,e,mA,⟨od,es,ep,e2,c⟩,r⟩:=x;exact⟨ho _ d,z,ne,k _ _ (.inl rfl) e,mA,⟨od,es,ep,k _ _ (.inr d) e2,c⟩,r⟩
 |own y=>obtain⟨ob,e⟩:=x;exact⟨ob,k _ _ (.inl rfl) e⟩
 |xd fs=>obtain⟨mA,⟨od,es,ep,e,c⟩,r⟩:=x;exact⟨mA,⟨od,es,ep,k _ _ (.inl rfl) e,c⟩,r⟩
 |rng lo hi=>obtain⟨t,u,v,e⟩:=x;exact⟨t,u,v,k _ _ (.inl rfl) e⟩
 |frz ob u ih=>obtain⟨e,q⟩:=x;exact⟨k _ _ (.inl rfl) e,ih q⟩
 |tbl ps =>
  have e:h.get? a=some {cls:=.none,data:=.fields ps}:=x;show h'.get? a=some {cls:=.none,data:=.fields ps};exact k a _ (.inl rfl) e
 |met f y =>
  have e:h.get? a=some (PySem.W.methodObj (.ref f) (.ref y)):=x;show h'.get? a=some (PySem.W.methodObj (.ref f) (.ref y));exact k a _ (.inl rfl) e
 |ext φ=>obtain⟨p,⟨o,e⟩,st⟩:=x;exact⟨st _ _ p λ o q=>k _ _ (.inl rfl) q,⟨o,k _ _ (.inl rfl) e⟩,st⟩
theorem HOk.lt (x:HOk P w H h) (e:H a=some o):a<h.objs.size:=(x a o e).lt
theorem HOk.fresh (x:HOk P w H h) (e:h.objs.size<=a):H a=none:=by
 cases q:H a with
 |none=>rfl
 |some u=>exact absurd (qm (x.lt q) e) (Nat.lt_irrefl _)
theorem HOk.kept (x:HOk P w H h) (k:∀ b u,h.get? b=some u->h'.get? b=some u):HOk P w H h':=λ a o e =>
 (x a o e).stay (λ b u _ q=>k b u q) (λ _ q=>q) λ _ _ q=>q
theorem HOk.laid (x:HOk P w H h) (k:∀ b u,h.get? b=some u->h'.get? b=some u) (hp:h.objs.size<=a) (new:ObjOk P w (upd H a o) h' a o):HOk P w (upd H a o) h':=λ b u e=>by
 have hn:=x.fresh hp
 by_cases hb:b=a
 ·subst hb;rw[a_7] at e;cases e;exact new
 ·rw[b_6 hb] at e
  exact (x b u e).stay (λ c v _ q=>k c v q) (λ c q=>by rw[b_6 (c_7 q hn)];exact q) λ c xs q=>by rw[b_6 (c_7 q hn)];exact q
end
def Rd (H:Hp) (a:Addr) (u:HO):Prop:=H a=some u\/∃ o,H a=some (.frz o u)
theorem Rd.of {H:Hp}{a:Addr}{u:HO} (h:H a=some u):Rd H a u:=.inl h
theorem Rd.ok {P:Program}{w:World}{H:Hp}{h:Heap}{a:Addr}{u:HO} (r:Rd H a u) (x:HOk P w H h):ObjOk P w H h a u:=by
 rcases r with r | ⟨o,r⟩
 ·exact x a u r
 ·obtain⟨_,q⟩:=x a _ r
  exact q
def Mut:Option HO->Prop
 |some (.lst _)=>True
 |some (.dK _)=>True
 |some (.dT _)=>True
 |some (.set _ _)=>True
 |some (.ins _ _ _)=>True
 |some (.ext _)=>True
 |_=>False
section
variable {P:Program}{w:World}{H:Hp}{h h':Heap}{x e:Addr}{o':HO}
theorem HOk.write (ok:HOk P w H h) (mu:Mut (H x)) (he:e=x\/H e=some (.own x)) (k:∀ b u,b≠e->h.get? b=some u->h'.get? b=some u) (heo:∃ u,h'.get? e=some u)
  (new:ObjOk P w (upd H x o') h' x o'):HOk P w (upd H x o') h':=λ b u q=>by
 have nown:∀ c y,H c=some (.own y)->c≠x:=λ c y r z=>by subst z;rw[r] at mu;exact mu
 have ntup:∀ c xs,H c=some (.tup xs)->c≠x:=λ c xs r z=>by subst z;rw[r] at mu;exact mu
 by_cases hb:b=x
 ·subst hb;rw[a_7] at q;cases q;exact new
 ·rw[b_6 hb] at q
  by_cases hbe:b=e
  ·have q':H b=some (.own x):=by
    rcases he with z | z
    ·exact absurd (hbe.trans z) hb
    ·rw[hbe];exact z
   rw[q] at q';cases q';obtain⟨v,hv⟩:=heo;exact⟨v,by rw[hbe];exact hv⟩
  ·refine (ok b u q).stay (λ c v hc r=>k c v ?_ r) (λ c r=>by rw[b_6 (nown c b r)];exact r) λ c xs r=>by rw[b_6 (ntup c xs r)];exact r
   rcases hc with rfl | hc
   ·exact hbe
   ·rintro rfl
    rcases he with z | z
    ·exact nown c b hc z
    ·rw[hc] at z;cases z;exact hb rfl
end
structure Un (fs ex:List Addr) (H H':Hp) (h h':Heap):Prop where
 keep:∀ b o,h.get? b=some o->H b=none->b∉fs->b∉ex->h'.get? b=some o
 slot:∀ b o,h.get? b=some o->H b=none->b∈fs->b∉ex->∃ sl,h'.get? b=some {o with slots:=sl}
 free:∀ b o,h.get? b=some o->H b=none->b∉ex->H' b=none
 there:∀ b o,h.get? b=some o->b∉ex->∃ o',h'.get? b=some o'
 tups:∀ b xs,H b=some (.tup xs)->H' b=some (.tup xs)
 frzs:∀ b o u,H b=some (.frz o u)->H' b=some (.frz o u)
 tbls:∀ b ps,H b=some (.tbl ps)->∃ more,H' b=some (.tbl (ps++more))
section
variable {fs fs' ex ex':List Addr}{H H1 H2:Hp}{h h1 h2 h':Heap}{a x e:Addr}{o:HO}
theorem Un.any (u:Un fs ex H H1 h h1) {b:Addr}{ob:Obj} (q:h.get? b=some ob) (n:H b=none) (hx:b∉ex):∃ sl,h1.get? b=some {ob with slots:=sl}:=by
 by_cases hb:b∈fs
 ·exact u.slot b ob q n hb hx
 ·exact⟨ob.slots,u.keep b ob q n hb hx⟩
theorem Un.trans (a:Un fs ex H H1 h h1) (b:Un fs ex H1 H2 h1 h2):Un fs ex H H2 h h2 where
 keep:=λ c ob q n hc hx=>b.keep c ob (a.keep c ob q n hc hx) (a.free c ob q n hx) hc hx
 slot:=λ c ob q n hc hx=>by
  obtain⟨sl,e1⟩:=a.slot c ob q n hc hx;obtain⟨sl',e2⟩:=b.slot c _ e1 (a.free c ob q n hx) hc hx;exact⟨sl',e2⟩
 free:=λ c ob q n hx=>by
  obtain⟨o',e1⟩:=a.there c ob q hx;exact b.free c o' e1 (a.free c ob q n hx) hx
 there:=λ c ob q hx=>by
  obtain⟨o',e1⟩:=a.there c ob q hx;exact b.there c o' e1 hx
 tups:=λ c xs q=>b.tups c xs (a.tups c xs q)
 frzs:=λ c ob xs q=>b.frzs c ob xs (a.frzs c ob xs q)
 tbls:=λ c ps q=>by
  obtain⟨m1,e1⟩:=a.tbls c ps q;obtain⟨m2,e2⟩:=b.tbls c _ e1;exact⟨m1++m2,by rw[e2,Array.append_assoc]⟩
theorem Un.kept (k:∀ b u,h.get? b=some u->h'.get? b=some u):Un fs ex H H h h' :=
 ⟨λ b ob q _ _ _=>k b ob q,λ b ob q _ _ _=>⟨ob.slots,k b ob q⟩,λ _ _ _ n _=>n,λ b ob q _=>⟨ob,k b ob q⟩,λ _ _ q=>q,λ _ _ _ q=>q,λ _ ps q=>⟨#[],by rw[q];simp⟩⟩
theorem Un.refl:Un fs ex H H h h:=Un.kept λ _ _ q=>q
theorem Un.laid (k:∀ b u,h.get? b=some u->h'.get? b=some u) (hp:h.objs.size<=a) (hn:H a=none):Un fs ex H (upd H a o) h h' where
 keep:=λ b u q _ _ _=>k b u q
 slot:=λ b u q _ _ _=>⟨u.slots,k b u q⟩
 free:=λ b u q n _=>by rw[b_6 (Nat.ne_of_lt (Nat.lt_of_lt_of_le (Heap.lt_size q) hp))];exact n
 there:=λ b u q _=>⟨u,k b u q⟩
 tups:=λ b xs q=>by rw[b_6 (c_7 q hn)];exact q
 frzs:=λ b u xs q=>by rw[b_6 (c_7 q hn)];exact q
 tbls:=λ b ps q=>⟨#[],by rw[b_6 (c_7 q hn),q];simp⟩
theorem Un.write (mu:Mut (H x)) (he:e=x\/H e=some (.own x)) (k:∀ b u,b≠e->h.get? b=some u->h'.get? b=some u) (heo:∃ u,h'.get? e=some u):Un fs ex H (upd H x o) h h':=by
 have hx:∀ b,H b=none->b≠x:=λ b n z=>by subst z;rw[n] at mu;exact mu
 have hb:∀ b,H b=none->b≠e:=λ b n z=>by
  subst z
  rcases he with r | r
  ·exact hx b n r
  ·rw[n] at r;cases r
 have hm:∀ b u,H b=some u->¬ Mut (some u)->b≠x:=λ b u q nm z=>by subst z;rw[q] at mu;exact nm mu
 refine⟨λ b u q n _ _=>k b u (hb b n) q,λ b u q n _ _=>⟨u.slots,k b u (hb b n) q⟩,λ b u q n _=>by rw[b_6 (hx b n)];exact n,λ b u q _=>?_,
  λ b xs q=>by rw[b_6 (hm b _ q λ z=>z)];exact q,λ b u xs q=>by rw[b_6 (hm b _ q λ z=>z)];exact q,λ b ps q=>⟨#[],by rw[b_6 (hm b _ q λ z=>z),q];simp⟩⟩
 by_cases hbe:b=e
 ·subst hbe;exact heo
 ·exact⟨u,k b u hbe q⟩
theorem Un.mono (u:Un fs ex H H1 h h1) (hs:∀ b∈fs,b∈fs') (hx:∀ b∈ex,b∈ex'):Un fs' ex' H H1 h h1 :=
 ⟨λ b ob q n hb he=>u.keep b ob q n (λ z=>hb (hs b z)) λ z=>he (hx b z),λ _ _ q n _ he=>u.any q n λ z=>he (hx _ z),λ b ob q n he=>u.free b ob q n λ z=>he (hx b z),λ b ob q he=>u.there b ob q λ z=>he (hx b z),u.tups,u.frzs,u.tbls⟩
end
def trk (h:Heap) (H:Hp):List Addr:=(List.range h.objs.size).filter λ a=>(H a).isSome
def aB2 (h:Heap) (H:Hp):Heap:=PySem.W.hideAll h (trk h H)
theorem ar7 (h:Heap) (H:Hp):(aB2 h H).objs.size=h.objs.size:=PySem.W.hideAll_size _ _
theorem aB1 {h:Heap}{H:Hp}{b:Addr}{o:Obj} (e:h.get? b=some o) (n:H b=none):(aB2 h H).get? b=some o :=
 PySem.W.hideAll_get _ e λ hm=>by
  have q:(H b).isSome=true:=(List.mem_filter.mp hm).2;rw[n] at q;simp at q
theorem aN4 {h:Heap}{H:Hp}{b:Addr}{o:Obj} (e:(aB2 h H).get? b=some o):h.get? b=some o/\H b=none:=by
 have e':h.get? b=some o:=PySem.W.of_hideAll (trk h H) e;refine⟨e',?_⟩;cases q:H b with
 |none=>rfl
 |some x =>
  have hm:b∈trk h H:=List.mem_filter.mpr ⟨List.mem_range.mpr (qk e'),by simp[q]⟩
  have z:(aB2 h H).get? b=none:=PySem.W.hideAll_none (trk h H) hm;rw[z] at e;cases e
def aU3 (g h:Heap) (L:Addr):List (Addr×Obj):=(List.range h.objs.size).filterMap λ a=>if a=L\/(g.get? a).isSome=true then none else (h.get? a).map λ o=>(a,o)
def rest (g h:Heap) (L d:Addr):List (Addr×Obj):=(aU3 g h L).filter λ p=>decide (p.1≠d)
structure Mod (K:Frag) (mg:Str->Option Value) (base:Heap):Prop where
 kin:K.In base
 glob:base.Ns mainGlobals mg
 blt:∃ mb,base.Ns builtinsNs mb ∧ ∀ x:Str,x≠"__name__" → mb x=bootBuiltins x
 nolimit:base.NoLimit
structure Cx where
 prog:Program
 w:World
 K:Frag
 mg:Str->Option Value
 base:Heap
 A:Around
 N:List Str
 s₀:Shared
 H₀:Hp
 env:Env
 outer:List Env
 stack:List Env
 ex:List Addr
 fn:Str->Bool
 calm:Bool
 pn:List (Addr×Obj)
 xe:Value->Shared->Prop
def frs (l:List Env):List Addr:=l.filterMap (·.frame)
abbrev Cx.fs (X:Cx):List Addr:=frs X.outer
def Vis (sc:Scope) (x:Str):Prop:=sc.names.lookup x=some .local\/sc.names.lookup x=some .cell\/sc.names.lookup x=some .free
def Loc (sc:Scope) (x:Str):Prop:=sc.names.lookup x=some .local\/sc.names.lookup x=some .cell
def bP6 (env:Env) (h:Heap) (m:Str->Option Value) (x:Str) (u:Value):Prop :=
 (env.kindOf x=some .local/\m x=some u)\/((env.kindOf x=some .cell\/env.kindOf x=some .free)/\∃ c,env.cells.lookup x=some c/\h.IsCell c (some u))
structure Cx.Ok (X:Cx):Prop where
 mod:Mod X.K X.mg X.base
 kind:X.env.scope.kind=.function
 glob:X.env.globals=mainGlobals
 blt:X.env.builtins=builtinsNs
 above:X.s₀.heap.objs.size<=X.env.locals
 inj:∀ x y c,X.env.cells.lookup x=some c->X.env.cells.lookup y=some c->x=y
 has:∀ x,(X.env.kindOf x=some .cell\/X.env.kindOf x=some .free)->∃ c,X.env.cells.lookup x=some c
 cab:∀ x c,X.fn x=true->X.env.cells.lookup x=some c->X.s₀.heap.objs.size<=c
 hd:X.calm=true->X.A.handled=none
 frames:X.A.frames=some X.stack
 stk:X.stack=X.outer\/(X.stack=X.env::X.outer/\X.env.frame=some X.env.locals)
 exf:∀ b∈X.ex,b≠X.env.locals/\∀ x c,X.env.cells.lookup x=some c->c≠b
 bs:∀ b o,X.base.get? b=some o->X.s₀.heap.get? b=some o/\X.H₀ b=none
 bsz:X.base.objs.size<=X.s₀.heap.objs.size
 noex:∀ b o,X.base.get? b=some o->b∉X.ex
 exfs:∀ b∈X.ex,b∉X.fs
 funs:X.s₀.heap.FunFrames X.base X.outer
 frf:∀ b∈X.fs,X.H₀ b=none
structure Inv (X:Cx) (pins:List (Addr×Obj)) (σ:List (Option V)) (H:Hp) (s:Shared):Prop where
 ok:X.Ok
 os:s.os=X.s₀.os
 bare:AllBare s.gens
 base:Un X.fs X.ex X.H₀ H X.s₀.heap s.heap
 loc:∃ m,s.heap.Ns X.env.locals m/\∀ (i:Nat) (x:Str) (v:V),X.N[i]?=some x->σ[i]?=some (some v)->Vis X.env.scope x->∃ u,RelV v u/\bP6 X.env s.heap m x u
 cell:∀ x c,X.env.cells.lookup x=some c->∃ v,s.heap.IsCell c v
 free:H X.env.locals=none
 freeC:∀ x c,X.env.cells.lookup x=some c->H c=none
 pin:∀ p∈X.pn++pins,s.heap.get? p.1=some p.2/\H p.1=none/\p.1≠X.env.locals/\p.1∉X.fs/\∀ v,p.2.data≠.cell v
 hok:HOk X.prog X.w H s.heap
 len:σ.length=X.N.length
section
variable {X:Cx}{pins:List (Addr×Obj)}{σ:List (Option V)}{H H':Hp}{s:Shared}{h':Heap}
theorem Cx.Ok.nofr (ok:X.Ok) {b:Addr}{o:Obj} (e:X.base.get? b=some o):b∉X.fs:=λ hb=>by
 have:=(ok.funs.mem hb).1;rw[e] at this;cases this
theorem Inv.bs (I:Inv X pins σ H s):∀ b o,X.base.get? b=some o->s.heap.get? b=some o/\H b=none:=λ b o e =>
 ⟨I.base.keep b o (I.ok.bs b o e).1 (I.ok.bs b o e).2 (I.ok.nofr e) (I.ok.noex b o e),I.base.free b o (I.ok.bs b o e).1 (I.ok.bs b o e).2 (I.ok.noex b o e)⟩
theorem Inv.bk (I:Inv X pins σ H s):∀ b o,X.base.get? b=some o->s.heap.get? b=some o:=λ b o e=>(I.bs b o e).1
theorem Inv.mod (I:Inv X pins σ H s):Mod X.K X.mg X.base:=I.ok.mod
theorem Inv.kIn (I:Inv X pins σ H s):X.K.In s.heap:=I.ok.mod.kin.keeps I.bk
theorem Inv.nolimit (I:Inv X pins σ H s):s.heap.NoLimit:=I.ok.mod.nolimit.keeps I.bk
theorem Inv.fr (I:Inv X pins σ H s):∃ m,Fr X.base X.env.locals s.heap m :=
 let ⟨m,hn,_⟩:=I.loc
 ⟨m,hn,I.bk,Nat.le_trans I.ok.bsz I.ok.above⟩
theorem Inv.lt (I:Inv X pins σ H s):X.env.locals<s.heap.objs.size:=let ⟨_,hn,_⟩:=I.loc;hn.lt
theorem Inv.sz (I:Inv X pins σ H s):X.s₀.heap.objs.size<=s.heap.objs.size:=Nat.le_trans I.ok.above (Nat.le_of_lt I.lt)
theorem Inv.nofs (I:Inv X pins σ H s) {a:Addr} (h:s.heap.objs.size<=a):a∉X.fs:=λ hb=>by
 obtain⟨_,o,ho,_⟩:=I.ok.funs.mem hb;exact absurd (qm (qk ho) (Nat.le_trans I.sz h)) (Nat.lt_irrefl _)
theorem Inv.cne (I:Inv X pins σ H s):∀ x c,X.env.cells.lookup x=some c->c≠X.env.locals:=λ x c e z=>by
 obtain⟨v,o,ho,hd⟩:=I.cell x c e;obtain⟨m,⟨o',es,ep,ho',hd',_⟩,_⟩:=I.loc;rw[z,ho'] at ho;cases ho;rw[hd'] at hd;cases hd
theorem Inv.funs (I:Inv X pins σ H s):s.heap.FunFrames X.base X.outer:=by
 have all:∀ (l:List Env),(∀ b∈frs l,b∈X.fs)->X.s₀.heap.FunFrames X.base l->s.heap.FunFrames X.base l:=by
  intro l
  induction l with
  |nil=>intro _ _;trivial
  |cons env r ih =>
   intro hs hl;obtain⟨hk,⟨L,o,hf,hn,ho,hd⟩,hr⟩:=hl;have hL:L∈X.fs:=hs L (by unfold frs;rw[List.filterMap_cons,hf];exact List.mem_cons_self)
   obtain⟨sl,e⟩:=I.base.slot L o ho (I.ok.frf L hL) hL λ z=>I.ok.exfs L z hL
   exact⟨hk,⟨L,_,hf,hn,e,hd⟩,ih (λ b hb=>hs b (by unfold frs;rw[List.filterMap_cons,hf];exact qg _ hb)) hr⟩
 exact all X.outer (λ _ hb=>hb) I.ok.funs
theorem Inv.stack (I:Inv X pins σ H s):s.heap.FunFrames X.base X.stack:=by
 rcases I.ok.stk with e | ⟨e,hf⟩
 ·rw[e];exact I.funs
 ·rw[e]
  obtain⟨m,hn,_⟩:=I.loc;refine .cons (by rw[I.ok.kind];decide) hf hn ?_ I.funs
  exact Heap.get?_none_of_le (Nat.le_trans I.ok.bsz I.ok.above)
theorem Inv.stkSub (I:Inv X pins σ H s):∀ b∈frs X.stack,b∈X.env.locals::X.fs:=λ b hb=>by
 rcases I.ok.stk with e | ⟨e,hf⟩
 ·rw[e] at hb;exact qg _ hb
 ·rw[e] at hb
  unfold frs at hb;rw[List.filterMap_cons,hf] at hb;exact hb
theorem Inv.stkFree (I:Inv X pins σ H s):∀ b∈frs X.stack,H b=none:=λ b hb=>by
 rcases qp (I.stkSub b hb) with e | hb
 ·rw[e];exact I.free
 ·obtain⟨_,o,ho,_⟩:=I.ok.funs.mem hb
  exact I.base.free b o ho (I.ok.frf b hb) λ z=>I.ok.exfs b z hb
theorem Inv.step {g':Array GenState}{t':Nat}{d':Drawn}{ch:List Addr} (I:Inv X pins σ H s)
  (hch:∀ b∈ch,(b∈X.ex\/X.s₀.heap.objs.size<=b)/\b≠X.env.locals/\(∀ x c,X.env.cells.lookup x=some c->c≠b)/\∀ p∈X.pn++pins,p.1≠b)
  (keep:∀ b o,b≠X.env.locals->b∉X.fs->b∉ch->s.heap.get? b=some o->H b=none->h'.get? b=some o)
  (slot:∀ b o,b≠X.env.locals->b∈X.fs->b∉ch->s.heap.get? b=some o->H b=none->∃ sl,h'.get? b=some {o with slots:=sl}) (free:∀ b o,b∉ch->s.heap.get? b=some o->H b=none->H' b=none)
  (there:∀ b o,b∉ch->s.heap.get? b=some o->∃ o',h'.get? b=some o')
  (tups:∀ b xs,H b=some (.tup xs)->H' b=some (.tup xs)) (frzs:∀ b o u,H b=some (.frz o u)->H' b=some (.frz o u)) (tbls:∀ b ps,H b=some (.tbl ps)->∃ more,H' b=some (.tbl (ps++more)))
  (ns:∀ m,s.heap.Ns X.env.locals m->h'.Ns X.env.locals m) (hok:HOk X.prog X.w H' h') (hg:AllBare g') :
  Inv X pins σ H' {s with heap:=h',gens:=g',drawn:=d',toks:=t'}:=by
 have neL:∀ b o,X.s₀.heap.get? b=some o->b≠X.env.locals:=λ b o e=>qo (qm (qk e) I.ok.above)
 have neC:∀ b o,X.s₀.heap.get? b=some o->b∉X.ex->b∉ch:=λ b o e hx hb=>by
  rcases (hch b hb).1 with z | z
  ·exact hx z
  ·exact absurd (qm (qk e) z) (Nat.lt_irrefl _)
 have cellK:∀ x c,X.env.cells.lookup x=some c->∀ v,s.heap.IsCell c v->h'.IsCell c v:=λ x c e v hh0_=>by
  obtain⟨o,ho,hd⟩:=hh0_;have nch:c∉ch:=λ z=>(hch c z).2.2.1 x c e rfl
  by_cases hc:c∈X.fs
  ·obtain⟨sl,q⟩:=slot c o (I.cne x c e) hc nch ho (I.freeC x c e)
   exact⟨_,q,hd⟩
  ·exact⟨o,keep c o (I.cne x c e) hc nch ho (I.freeC x c e),hd⟩
 refine⟨I.ok,I.os,hg,⟨λ b o e n hb hx=>?_,λ b o e n hb hx=>?_,λ b o e n hx=>?_,λ b o e hx=>?_,λ b xs e=>tups b xs (I.base.tups b xs e),λ b o xs e=>frzs b o xs (I.base.frzs b o xs e),λ b ps e=>?_⟩,?_,λ x c e=>?_,?_,λ x c e=>?_,λ p hp=>?_,hok,I.len⟩
 ·exact keep b o (neL b o e) hb (neC b o e hx) (I.base.keep b o e n hb hx) (I.base.free b o e n hx)
 ·obtain⟨sl,e1⟩:=I.base.slot b o e n hb hx
  obtain⟨sl',e2⟩:=slot b _ (neL b o e) hb (neC b o e hx) e1 (I.base.free b o e n hx);exact⟨sl',e2⟩
 ·obtain⟨o',e1⟩:=I.base.there b o e hx
  exact free b o' (neC b o e hx) e1 (I.base.free b o e n hx)
 ·obtain⟨o',e1⟩:=I.base.there b o e hx
  exact there b o' (neC b o e hx) e1
 ·obtain⟨m1,e1⟩:=I.base.tbls b ps e
  obtain⟨m2,e2⟩:=tbls b _ e1;exact⟨m1++m2,by rw[e2,Array.append_assoc]⟩
 ·obtain⟨m,hn,hl⟩:=I.loc
  refine⟨m,ns m hn,λ i x v e1 e2 e3=>?_⟩
  obtain⟨u,r,l⟩:=hl i x v e1 e2 e3;refine⟨u,r,?_⟩
  rcases l with l | ⟨k,c,e,z⟩
  ·exact .inl l
  ·exact .inr ⟨k,c,e,cellK x c e _ z⟩
 ·obtain⟨v,z⟩:=I.cell x c e
  exact⟨v,cellK x c e v z⟩
 ·obtain⟨m,⟨o,_,_,ho,_⟩,_⟩:=I.loc
  exact free _ o (λ z=>(hch _ z).2.1 rfl) ho I.free
 ·obtain⟨v,o,ho,hd⟩:=I.cell x c e
  exact free c o (λ z=>(hch c z).2.2.1 x c e rfl) ho (I.freeC x c e)
 ·obtain⟨e,n,ne,nf,d⟩:=I.pin p hp
  have nch:p.1∉ch:=λ z=>(hch p.1 z).2.2.2 p hp rfl
  exact⟨keep p.1 p.2 ne nf nch e n,free p.1 p.2 nch e n,ne,nf,d⟩
theorem Inv.un {t':Nat} (I:Inv X pins σ H s) (u:Un X.fs [] H H' s.heap h') (hok:HOk X.prog X.w H' h'):Inv X pins σ H' {s with heap:=h',toks:=t'}:=by
 obtain⟨m,⟨o,es,ep,ho,r⟩,_⟩:=id I.loc;obtain⟨sl,hL⟩:=u.any ho I.free (by simp)
 exact I.step (g':=s.gens) (d':=s.drawn) (ch:=[]) (λ _ z=>nomatch z) (λ b o _ hb _ e n=>u.keep b o e n hb (by simp)) (λ b o _ hb _ e n=>u.slot b o e n hb (by simp)) (λ b o _ e n=>u.free b o e n (by simp)) (λ b o _ e=>u.there b o e (by simp)) u.tups u.frzs u.tbls (λ m' hm=>by
  obtain⟨o',es',ep',ho',r'⟩:=hm;rw[ho] at ho';cases ho';exact⟨_,es',ep',hL,r'⟩) hok I.bare
theorem Inv.call {g':Array GenState}{t':Nat}{d':Drawn}{ch:List Addr} (I:Inv X pins σ H s) (u:Un (frs X.stack) ch H H' s.heap h') (hok:HOk X.prog X.w H' h') (hg:AllBare g')
  (hch:∀ b∈ch,(b∈X.ex\/X.s₀.heap.objs.size<=b)/\b≠X.env.locals/\(∀ x c,X.env.cells.lookup x=some c->c≠b)/\∀ p∈X.pn++pins,p.1≠b) :
  Inv X pins σ H' {s with heap:=h',gens:=g',drawn:=d',toks:=t'}:=by
 obtain⟨m,⟨o,es,ep,ho,r⟩,_⟩:=id I.loc;obtain⟨sl,hL⟩:=u.any ho I.free λ z=>(hch _ z).2.1 rfl
 exact I.step (ch:=ch) hch (λ b o hL hb hc e n=>u.keep b o e n (λ z=>(qp (I.stkSub b z)).elim hL hb) hc) (λ b o _ _ hc e n=>u.any e n hc) (λ b o hc e n=>u.free b o e n hc) (λ b o hc e=>u.there b o e hc) u.tups u.frzs u.tbls (λ m' hm=>by
  obtain⟨o',es',ep',ho',r'⟩:=hm;rw[ho] at ho';cases ho';exact⟨_,es',ep',hL,r'⟩) hok hg
theorem Inv.turned {t':Nat}{it:Addr} (I:Inv X pins σ H s) (k:∀ b o,b≠it->s.heap.get? b=some o->h'.get? b=some o) (hn:H it=none) (hL:it≠X.env.locals)
  (h1:it∈X.ex\/X.s₀.heap.objs.size<=it) (h2:∀ x c,X.env.cells.lookup x=some c->c≠it) (h3:∀ p∈X.pn++pins,p.1≠it):Inv X pins σ H {s with heap:=h',toks:=t'}:=by
 have nit:∀ b u,H b=some u->b≠it:=λ b u e z=>by rw[z,hn] at e;cases e
 refine I.step (g':=s.gens) (d':=s.drawn) (ch:=[it]) (λ b hb=>?_) (λ b o _ _ hc e _=>k b o (λ z=>hc (by simp[z])) e) (λ b o _ _ hc e _=>⟨o.slots,k b o (λ z=>hc (by simp[z])) e⟩) (λ _ _ _ _ n=>n)
  (λ b o hc e=>⟨o,k b o (λ z=>hc (by simp[z])) e⟩) (λ _ _ e=>e) (λ _ _ _ e=>e) (λ b ps e=>⟨#[],by rw[e];simp⟩) (λ m hm=>?_) (λ b u e=>?_) I.bare
 ·have e:b=it:=by simpa using hb
  subst e;exact⟨h1,hL,h2,h3⟩
 ·obtain⟨o,es,ep,ho,r⟩:=hm
  exact⟨o,es,ep,k _ o (Ne.symm hL) ho,r⟩
 ·refine (I.hok b u e).stay (λ c v hc q=>k c v ?_ q) (λ _ q=>q) λ _ _ q=>q
  rcases hc with z | z
  ·rw[z];exact nit b u e
  ·exact nit c _ z
theorem Inv.tok (I:Inv X pins σ H s) (t:Nat):Inv X pins σ H {s with toks:=t}:=I.un (h':=s.heap) (t':=t) Un.refl I.hok
theorem Inv.kept {t':Nat} (I:Inv X pins σ H s) (k:∀ b u,s.heap.get? b=some u->h'.get? b=some u):Inv X pins σ H {s with heap:=h',toks:=t'}:=I.un (Un.kept k) (I.hok.kept k)
theorem Inv.laid {a:Addr}{o:HO}{t':Nat} (I:Inv X pins σ H s) (k:∀ b u,s.heap.get? b=some u->h'.get? b=some u) (hp:s.heap.objs.size<=a) (new:ObjOk X.prog X.w (upd H a o) h' a o) :
  Inv X pins σ (upd H a o) {s with heap:=h',toks:=t'}:=I.un (Un.laid k hp (I.hok.fresh hp)) (I.hok.laid k hp new)
theorem Inv.write {x e:Addr}{o:HO}{t':Nat} (I:Inv X pins σ H s) (mu:Mut (H x)) (he:e=x\/H e=some (.own x)) (k:∀ b u,b≠e->s.heap.get? b=some u->h'.get? b=some u) (heo:∃ u,h'.get? e=some u)
  (new:ObjOk X.prog X.w (upd H x o) h' x o):Inv X pins σ (upd H x o) {s with heap:=h',toks:=t'}:=I.un (Un.write mu he k heo) (I.hok.write mu he k heo new)
theorem Inv.weak {σ':List (Option V)} (I:Inv X pins σ H s) (hl:σ'.length=σ.length) (w:∀ (i:Nat) v,σ'[i]?=some (some v)->σ[i]?=some (some v)):Inv X pins σ' H s :=
 ⟨I.ok,I.os,I.bare,I.base,let ⟨m,hn,hl'⟩:=I.loc;⟨m,hn,λ i x v e1 e2 e3=>hl' i x v e1 (w i v e2) e3⟩,I.cell,I.free,I.freeC,I.pin,I.hok,hl.trans I.len⟩
theorem Inv.pins_of {pins':List (Addr×Obj)} (I:Inv X pins σ H s) (h:∀ p∈pins',s.heap.get? p.1=some p.2/\H p.1=none/\p.1≠X.env.locals/\p.1∉X.fs/\∀ v,p.2.data≠.cell v):Inv X pins' σ H s :=
 ⟨I.ok,I.os,I.bare,I.base,I.loc,I.cell,I.free,I.freeC,λ p hp=>(List.mem_append.mp hp).elim (λ z=>I.pin p (List.mem_append_left _ z)) (h p),I.hok,I.len⟩
theorem ac4 {N:List Str} (hN:N.Nodup) {i j:Nat}{x:Str} (a:N[i]?=some x) (b:N[j]?=some x):i=j:=by
 obtain⟨h1,e1⟩:=List.getElem?_eq_some_iff.mp a;obtain⟨h2,e2⟩:=List.getElem?_eq_some_iff.mp b;exact (List.getElem_inj hN).mp (e1.trans e2.symm)
theorem P_8 {M:Model}{A:Around}{E:Value->Shared->Prop}{i:Nat}{x:Str}{v:V}{u:Value}{Q:Unit->Shared->Prop} (I:Inv X pins σ H s) (hN:X.N.Nodup) (hi:X.N[i]?=some x) (hx:Loc X.env.scope x) (r:RelV v u)
  (h:∀ s',Inv X pins (σ.set i (some v)) H s'->(∃ a,Heap.SameBut a s.heap s'.heap/\(a=X.env.locals\/X.env.cells.lookup x=some a))->Q () s') (hf:X.fn x=true\/X.env.scope.names.lookup x=some .local:=by first | exact .inl rfl | exact .inr rfl | assumption):wpAny M A (storeName X.env x u) Q E s:=by
 obtain⟨m,hn,hl⟩:=id I.loc;have hcls:(X.env.scope.kind==.class||(X.env.scope.kind==.module&&X.env.locals != X.env.globals))=false:=by rw[I.ok.kind];rfl
 have hiσ:i<σ.length:=by rw[I.len];exact (List.getElem?_eq_some_iff.mp hi).1
 have cne:=I.cne
 have tracked:∀ {a:Addr}{h':Heap},(∃ o,s.heap.get? a=some o/\H a=none)->Heap.SameBut a s.heap h'->HOk X.prog X.w H h':=λ {a h'} ha hs b ob e=>by
  obtain⟨_,_,hfree⟩:=ha;refine (I.hok b ob e).stay (λ c w' hc q=>(hs.2 c ?_).trans q) (λ _ q=>q) λ _ _ q=>q
  rintro rfl
  rcases hc with rfl | hc
  ·rw[hfree] at e;cases e
  ·rw[hfree] at hc;cases hc
 rcases hx with hk | hk
 ·refine wpAny_storeName_local hk hn (λ h' hn' hs=>?_) hcls
  obtain⟨oL,_,_,hoL,_⟩:=id hn;refine h _ ⟨I.ok,I.os,I.bare,⟨λ b o e n hb hx=>?_,λ b o e n hb hx=>?_,I.base.free,λ b o e hx=>?_,I.base.tups,I.base.frzs,I.base.tbls⟩,⟨_,hn',λ j y v' e1 e2 e3=>?_⟩,λ y c e=>?_,I.free,I.freeC,λ p hp=>?_,tracked ⟨oL,hoL,I.free⟩ hs,by simpa using I.len⟩ ⟨_,hs,.inl rfl⟩
  ·exact (hs.2 b (qo (qm (qk e) I.ok.above))).trans (I.base.keep b o e n hb hx)
  ·obtain⟨sl,e1⟩:=I.base.slot b o e n hb hx
   exact⟨sl,(hs.2 b (qo (qm (qk e) I.ok.above))).trans e1⟩
  ·obtain⟨o',e1⟩:=I.base.there b o e hx
   exact⟨o',(hs.2 b (qo (qm (qk e) I.ok.above))).trans e1⟩
  ·by_cases hj:j=i
   ·subst hj
    rw[hi] at e1;cases e1;rw[List.getElem?_set_self hiσ] at e2;cases e2;exact⟨u,r,.inl ⟨hk,by simp⟩⟩
   ·rw[List.getElem?_set_ne (Ne.symm hj)] at e2
    obtain⟨u',r',q⟩:=hl j y v' e1 e2 e3;refine⟨u',r',?_⟩
    rcases q with ⟨k,e⟩ | ⟨k,c,e,z⟩
    ·refine .inl ⟨k,?_⟩
     have:y≠x:=λ e=>hj (ac4 hN e1 (e▸hi))
     simp[this,e]
    ·exact .inr ⟨k,c,e,z.sameBut hs (cne y c e)⟩
  ·obtain⟨w',z⟩:=I.cell y c e
   exact⟨w',z.sameBut hs (cne y c e)⟩
  ·obtain⟨e,n,ne,nf,d⟩:=I.pin p hp
   exact⟨(hs.2 p.1 ne).trans e,n,ne,nf,d⟩
 ·have hfn:X.fn x=true:=by
   rcases hf with z | z
   ·exact z
   ·rw[z] at hk;cases hk
  obtain⟨c,hc⟩:=I.ok.has x (.inl hk);obtain⟨w',z⟩:=I.cell x c hc;refine wpAny_storeName_cell I.ok.kind hk hc z (λ h' hc' hs=>?_)
  obtain⟨oc,hoc,hocd⟩:=id z;refine h {s with heap:=h'} ⟨I.ok,I.os,I.bare,⟨λ b o e n hb hx=>?_,λ b o e n hb hx=>?_,I.base.free,λ b o e hx=>?_,I.base.tups,I.base.frzs,I.base.tbls⟩,⟨m,hn.sameBut hs (Ne.symm (cne x c hc)),λ j y v' e1 e2 e3=>?_⟩,λ y c' e=>?_,I.free,I.freeC,λ p hp=>?_,tracked ⟨oc,hoc,I.freeC x c hc⟩ hs,by simpa using I.len⟩ ⟨c,hs,.inr hc⟩
  ·exact (hs.2 b (qo (qm (qk e) (I.ok.cab x c hfn hc)))).trans (I.base.keep b o e n hb hx)
  ·obtain⟨sl,e1⟩:=I.base.slot b o e n hb hx
   exact⟨sl,(hs.2 b (qo (qm (qk e) (I.ok.cab x c hfn hc)))).trans e1⟩
  ·obtain⟨o',e1⟩:=I.base.there b o e hx
   exact⟨o',(hs.2 b (qo (qm (qk e) (I.ok.cab x c hfn hc)))).trans e1⟩
  ·by_cases hj:j=i
   ·subst hj
    rw[hi] at e1;cases e1;rw[List.getElem?_set_self hiσ] at e2;cases e2;exact⟨u,r,.inr ⟨.inl hk,c,hc,hc'⟩⟩
   ·rw[List.getElem?_set_ne (Ne.symm hj)] at e2
    obtain⟨u',r',q⟩:=hl j y v' e1 e2 e3;refine⟨u',r',?_⟩
    rcases q with q | ⟨k,c',e,z'⟩
    ·exact .inl q
    ·refine .inr ⟨k,c',e,z'.sameBut hs ?_⟩
     rintro rfl;exact hj (ac4 hN e1 (I.ok.inj _ _ _ e hc▸hi))
  ·by_cases hcc:c'=c
   ·subst hcc;exact⟨_,hc'⟩
   ·obtain⟨w2,z2⟩:=I.cell y c' e
    exact⟨w2,z2.sameBut hs hcc⟩
  ·obtain⟨e,n,ne,nf,d⟩:=I.pin p hp
   refine⟨(hs.2 p.1 ?_).trans e,n,ne,nf,d⟩;intro q;rw[q,hoc] at e;have q':oc=p.2:=qh e;exact d w' (by rw[<- q'];exact hocd)
theorem ab3 {M:Model}{A:Around}{E:Value->Shared->Prop}{i:Nat}{x:Str}{v:V}{u:Value}{Q:Unit->Shared->Prop} (I:Inv X pins σ H s) (hN:X.N.Nodup) (hi:X.N[i]?=some x) (hx:Loc X.env.scope x) (r:RelV v u)
  (h:∀ s',Inv X pins (σ.set i (some v)) H s'->Q () s') (hf:X.fn x=true\/X.env.scope.names.lookup x=some .local:=by first | exact .inl rfl | exact .inr rfl | assumption):wpAny M A (storeName X.env x u) Q E s :=
 P_8 I hN hi hx r (λ s' I' _=>h s' I') hf
theorem Inv.call' {s':Shared}{ch:List Addr} (I:Inv X pins σ H s) (ho:s'.os=s.os) (u:Un (frs X.stack) ch H H' s.heap s'.heap) (hok:HOk X.prog X.w H' s'.heap) (hg:AllBare s'.gens)
  (hch:∀ b∈ch,(b∈X.ex\/X.s₀.heap.objs.size<=b)/\b≠X.env.locals/\(∀ x c,X.env.cells.lookup x=some c->c≠b)/\∀ p∈X.pn++pins,p.1≠b):Inv X pins σ H' s':=by
 obtain⟨h',g',d',t',o'⟩:=s';have e:o'=s.os:=ho;subst e;exact I.call (g':=g') (t':=t') (d':=d') u hok hg hch
end
abbrev XK:=Value->Option Addr->Hp->Prop
abbrev St:=List (Option V)
abbrev VK:=V->Hp->Prop
abbrev TE:=St->Hp->VK->Prop
abbrev TT:=St->Hp->(Bool->Hp->Prop)->Prop
abbrev TA:=St->Hp->(List V->Hp->Prop)->Prop
structure Ends where
 nx:St->Hp->Prop
 rt:VK
 bk:St->Hp->Prop:=λ _ _=>False
 ct:St->Hp->Prop:=λ _ _=>False
abbrev TS:=Ends->St->Hp->Prop
def EP (X:Cx) (pins:List (Addr×Obj)) (σ:St) (Q:VK) (u:Value) (s':Shared):Prop:=∃ v H',Inv X pins σ H' s'/\RelV v u/\Q v H'
def TP (X:Cx) (pins:List (Addr×Obj)) (σ:St) (Q:Bool->Hp->Prop) (b:Bool) (s':Shared):Prop:=∃ H',Inv X pins σ H' s'/\Q b H'
def AP (X:Cx) (pins:List (Addr×Obj)) (σ:St) (Q:List V->Hp->Prop) (us:List Value) (s':Shared):Prop:=∃ vs H',Inv X pins σ H' s'/\Vals vs us/\Q vs H'
def SP (X:Cx) (pins:List (Addr×Obj)) (D:Ends) (f:Flow) (s':Shared):Prop :=
 match f with
 |.next=>∃ σ' H',Inv X pins σ' H' s'/\D.nx σ' H'
 |.brk=>∃ σ' H',Inv X pins σ' H' s'/\D.bk σ' H'
 |.cont=>∃ σ' H',Inv X pins σ' H' s'/\D.ct σ' H'
 |.ret u=>∃ v σ' H',Inv X pins σ' H' s'/\RelV v u/\D.rt v H'
def PE (X:Cx) (e:Expr) (t:TE):Prop :=
 ∀ (pins:List (Addr×Obj)) (s:Shared) (σ:St) (H:Hp) (Q:VK),Inv X pins σ H s->t σ H Q->wpAny (model X.prog X.w) X.A (eval e X.env) (EP X pins σ Q) X.xe s
def PT (X:Cx) (e:Expr) (t:TT):Prop :=
 ∀ (pins:List (Addr×Obj)) (s:Shared) (σ:St) (H:Hp) (Q:Bool->Hp->Prop),Inv X pins σ H s->t σ H Q->wpAny (model X.prog X.w) X.A (isTrue e X.env (eval e X.env)) (TP X pins σ Q) X.xe s
def PW (X:Cx) (e:Expr) (t:TT):Prop :=
 ∀ (whole:Sem Value) (pins:List (Addr×Obj)) (s:Shared) (σ:St) (H:Hp) (Q:Bool->Hp->Prop),Inv X pins σ H s->t σ H Q->wpAny (model X.prog X.w) X.A (isTrue e X.env whole) (TP X pins σ Q) X.xe s
theorem PW.pt {X:Cx}{e:Expr}{t:TT} (h:PW X e t):PT X e t:=h _
def PA (X:Cx) (es:List Expr) (t:TA):Prop :=
 ∀ (pos:Pos) (pins:List (Addr×Obj)) (s:Shared) (σ:St) (H:Hp) (Q:List V->Hp->Prop),Inv X pins σ H s->t σ H Q->wpAny (model X.prog X.w) X.A (spliced (backTo pos (starEach es X.env))) (AP X pins σ Q) X.xe s
def PS (X:Cx) (st:Stmt) (t:TS):Prop :=
 ∀ (pins:List (Addr×Obj)) (s:Shared) (σ:St) (H:Hp) (D:Ends),Inv X pins σ H s->t D σ H->wpAny (model X.prog X.w) X.A (exec st X.env) (SP X pins D) X.xe s
def PSs (X:Cx) (st:List Stmt) (t:TS):Prop :=
 ∀ (pins:List (Addr×Obj)) (s:Shared) (σ:St) (H:Hp) (D:Ends),Inv X pins σ H s->t D σ H->wpAny (model X.prog X.w) X.A (execs st X.env) (SP X pins D) X.xe s
theorem thn {α:Type}{t:Sem α}{Q Q':α->Shared->Prop}{M:Model}{A:Around}{E:Value->Shared->Prop}{s:Shared} (h:wpAny M A t Q E s) (hQ:∀ a s,Q a s->Q' a s):wpAny M A t Q' E s:=wpAny_mono h hQ λ _ _ x=>x
section
variable {X:Cx}
def bz8 (i:Nat):TE:=λ σ H Q=>∃ v,σ[i]?=some (some v)/\Q v H
def tC (v:V):TE:=λ _ H Q=>Q v H
theorem E_3 {i:Nat}{x:Str}{pos:Pos} (hN:X.N[i]?=some x) (hv:Vis X.env.scope x) (hd:(x==("__debug__":Str))=false:=by decide) (hcd:(x==("__classdict__":Str))=false:=by decide):PE X (.Name x pos) (bz8 i):=by
 intro pins s σ H Q I h;obtain⟨v,e,h⟩:=h;obtain⟨m,hn,hl⟩:=I.loc;obtain⟨u,r,l⟩:=hl i x v hN e hv;have fin:EP X pins σ Q u s:=⟨v,H,I,r,h⟩
 rcases l with ⟨hk,hm⟩ | ⟨hk,c,hc,hcell⟩
 ·exact wpAny_Name (wpAny_loadName_local I.ok.kind hk hn hm fin) hd
 ·rcases hk with hk | hk
  ·exact wpAny_Name (wpAny_loadName_cell I.ok.kind hk hc hcell fin) hd
  ·exact wpAny_Name (wpAny_loadName_free I.ok.kind hk hc hcell fin hcd) hd
theorem bc0 {i j pos}:PE X (.Constant (.int i) j pos) (tC (.int i)):=λ _ _ _ H _ I h=>wpAny_Constant_int ⟨.int i,H,I.tok _,⟨_,rfl⟩,h⟩
theorem bs1 {b j pos}:PE X (.Constant (.bool b) j pos) (tC (.bl b)):=λ _ _ _ H _ I h=>Constant_bool ⟨.bl b,H,I,rfl,h⟩
theorem bb8 {j pos}:PE X (.Constant .none j pos) (tC .non):=λ _ _ _ H _ I h=>Constant_none ⟨.non,H,I,rfl,h⟩
theorem ab9 {x j pos}:PE X (.Constant (.str x) j pos) (tC (.str x)):=λ _ _ _ H _ I h=>Calls.Constant_str ⟨.str x,H,I.tok _,⟨_,rfl⟩,h⟩
def Gl (X:Cx) (x:Str):Prop:=X.env.kindOf x=some .globalImplicit
theorem aq1 {E:Value->Shared->Prop}{pins:List (Addr×Obj)}{s:Shared}{σ:St}{H:Hp}{x:Str}{u:Value}{pos:Pos}{Q:Value->Shared->Prop} (I:Inv X pins σ H s) (hg:Gl X x) (hm:X.mg x=some u) (h:Q u s)
  (hd:(x==("__debug__":Str))=false:=by decide):wpAny (model X.prog X.w) X.A (eval (.Name x pos) X.env) Q E s :=
 Calls.Name_function_global I.ok.kind hg (Calls.loadGlobal_global (by rw[I.ok.glob];exact I.mod.glob.keeps I.bk) hm h) hd
theorem aq2 {E:Value->Shared->Prop}{pins:List (Addr×Obj)}{s:Shared}{σ:St}{H:Hp}{x:Str}{u:Value}{pos:Pos}{Q:Value->Shared->Prop} (I:Inv X pins σ H s) (hg:Gl X x) (hm:X.mg x=none) (hv:bootBuiltins x=some u) (h:Q u s)
  (hn:x≠"__name__":=by decide) (hd:(x==("__debug__":Str))=false:=by decide):wpAny (model X.prog X.w) X.A (eval (.Name x pos) X.env) Q E s:=by
 obtain⟨mb,h1,h2⟩:=I.mod.blt;exact Calls.Name_function_global I.ok.kind hg (Calls.loadGlobal_builtin (by rw[I.ok.glob];exact I.mod.glob.keeps I.bk) hm (by rw[I.ok.blt];exact h1.keeps I.bk) ((h2 x hn).trans hv) h) hd
theorem aM4 {x:Str}{v:V}{u:Value}{pos:Pos} (hg:Gl X x) (hm:X.mg x=some u) (r:RelV v u) (hd:(x==("__debug__":Str))=false:=by decide):PE X (.Name x pos) (tC v) :=
 λ _ _ _ H _ I h=>aq1 I hg hm ⟨v,H,I,r,h⟩ hd
variable {a b:Expr}{ta tb:TE}{pos:Pos}
def tB (t:TE):TT:=λ σ H Q=>t σ H λ x H1=>∃ c,x=.bl c/\Q c H1
variable {tA tB':TT}{rest:List Expr}
def tAnd (t u:TT):TT:=λ σ H Q=>t σ H λ c H1=>if c=true then u σ H1 Q else Q false H1
def tOr (t u:TT):TT:=λ σ H Q=>t σ H λ c H1=>if c=true then Q true H1 else u σ H1 Q
def tNot (t:TT):TT:=λ σ H Q=>t σ H λ c H1=>Q (!c) H1
theorem aL0 (ha:PT X a tA):PW X (.BoolOp .And [a] pos) tA:=by
 intro wh pins s σ H Q I h;refine isTrue_and (thn (ha pins s σ H Q I h) λ c s1 e=>?_)
 cases c with
 |true=>exact isTrue_and_nil e
 |false=>exact e
theorem ba2 (ha:PT X a tA):PW X (.BoolOp .Or [a] pos) tA:=by
 intro wh pins s σ H Q I h;refine isTrue_or (thn (ha pins s σ H Q I h) λ c s1 e=>?_)
 cases c with
 |false=>exact isTrue_or_nil e
 |true=>exact e
theorem ba3 (ha:PT X a tA) (hb:PW X (.BoolOp .And (b::rest) pos) tB'):PW X (.BoolOp .And (a::b::rest) pos) (tAnd tA tB'):=by
 intro wh pins s σ H Q I h;refine isTrue_and (thn (ha pins s σ H _ I h) λ c s1 hh0_=>?_)
 obtain⟨H1,I1,q1⟩:=hh0_;cases c with
 |true=>exact hb wh pins s1 σ H1 Q I1 q1
 |false=>exact⟨H1,I1,q1⟩
theorem br4 (ha:PT X a tA) (hb:PW X (.BoolOp .Or (b::rest) pos) tB'):PW X (.BoolOp .Or (a::b::rest) pos) (tOr tA tB'):=by
 intro wh pins s σ H Q I h;refine isTrue_or (thn (ha pins s σ H _ I h) λ c s1 hh0_=>?_)
 obtain⟨H1,I1,q1⟩:=hh0_;cases c with
 |true=>exact⟨H1,I1,q1⟩
 |false=>exact hb wh pins s1 σ H1 Q I1 q1
theorem ba7 (ha:PT X a tA):PT X (.UnaryOp .Not a pos) (tNot tA):=by
 intro pins s σ H Q I h;exact isTrue_not (ha pins s σ H (λ c H1=>Q (!c) H1) I h)
def bo5 (ta tb:TE):TE:=λ σ H Q=>ta σ H λ x H1=>∃ c,x=.bl c/\if c=true then tb σ H1 Q else Q (.bl false) H1
def bI3 (ta tb:TE):TE:=λ σ H Q=>ta σ H λ x H1=>∃ c,x=.bl c/\if c=true then Q (.bl true) H1 else tb σ H1 Q
theorem bb7 {op}{t:TE} (h:PE X a t):PE X (.BoolOp op [a] pos) t:=λ pins s σ H Q I hw=>BoolOp_one (h pins s σ H Q I hw)
theorem bc1 (ha:PE X a ta) (hb:PE X (.BoolOp .And (b::rest) pos) tb):PE X (.BoolOp .And (a::b::rest) pos) (bo5 ta tb):=by
 intro pins s σ H Q I h;refine BoolOp_and (thn (ha pins s σ H _ I h) λ v s1 hh0_=>?_)
 obtain⟨x,H1,I1,r1,q1⟩:=hh0_;obtain⟨c,rfl,q1⟩:=q1;cases r1;refine wpAny_truthy_bool ?_;cases c with
 |true=>exact hb pins s1 σ H1 Q I1 q1
 |false=>exact⟨.bl false,H1,I1,rfl,q1⟩
theorem br8 (ha:PE X a ta) (hb:PE X (.BoolOp .Or (b::rest) pos) tb):PE X (.BoolOp .Or (a::b::rest) pos) (bI3 ta tb):=by
 intro pins s σ H Q I h;refine BoolOp_or (thn (ha pins s σ H _ I h) λ v s1 hh0_=>?_)
 obtain⟨x,H1,I1,r1,q1⟩:=hh0_;obtain⟨c,rfl,q1⟩:=q1;cases r1;refine wpAny_truthy_bool ?_;cases c with
 |false=>exact hb pins s1 σ H1 Q I1 q1
 |true=>exact⟨.bl true,H1,I1,rfl,q1⟩
def tIf (t:TT) (ta tb:TE):TE:=λ σ H Q=>t σ H λ c H1=>if c=true then ta σ H1 Q else tb σ H1 Q
theorem aA1 {c:Expr} (hc:PT X c tA) (ha:PE X a ta) (hb:PE X b tb):PE X (.IfExp c a b pos) (tIf tA ta tb):=by
 intro pins s σ H Q I h;refine wpAny_IfExp (thn (hc pins s σ H _ I h) λ d s1 hh0_=>?_)
 obtain⟨H1,I1,q1⟩:=hh0_;cases d with
 |true=>exact ha pins s1 σ H1 Q I1 q1
 |false=>exact hb pins s1 σ H1 Q I1 q1
end
def SqL (K:Frag) (H:Hp) (a:Addr) (xs:List V):Prop :=
 Rd H a (.lst xs) \/
  ∃ (o:Obj) (its:Array Value) (n:Nat),K.lookup a=some o ∧ o.cls=.type "list" ∧ o.dict=none ∧ o.data=.seq its n ∧ its.size ≤ sizeLine ∧ Vals xs its.toList
def SqT (K:Frag) (H:Hp) (a:Addr) (xs:List V):Prop :=
 Rd H a (.tup xs) \/
  ∃ (o:Obj) (its:Array Value) (n:Nat),K.lookup a=some o ∧ o.cls=.type "tuple" ∧ o.dict=none ∧ o.data=.seq its n ∧ its.size ≤ sizeLine ∧ Vals xs its.toList
def bP2:Value->Option V
 |.none=>some .non
 |.bool b=>some (.bl b)
 |.int i _=>some (.int i)
 |.str x _=>some (.str x)
 |.bytes b _=>some (.byt b)
 |.float b _=>some (.flt b)
 |.ref a=>some (.ref a)
 |.type n=>some (.ty n)
 |_=>none
theorem RelV.abs {x:V}{u:Value} (r:RelV x u):bP2 u=some x:=by
 cases x with
 |non=>cases r;rfl
 |bl _=>cases r;rfl
 |int _=>obtain⟨t,rfl⟩:=r;rfl
 |str _=>obtain⟨t,rfl⟩:=r;rfl
 |byt _=>obtain⟨t,rfl⟩:=r;rfl
 |flt _=>obtain⟨t,rfl⟩:=r;rfl
 |ref _=>cases r;rfl
 |ty _=>cases r;rfl
theorem RelV.inj {x y:V}{u:Value} (r:RelV x u) (q:RelV y u):x=y:=qh (r.abs.symm.trans q.abs)
theorem Vals.inj:∀ {xs ys:List V}{us:List Value},Vals xs us->Vals ys us->xs=ys
 |_,_,_,.nil,.nil=>rfl
 |_,_,_,.cons r t,.cons r' t'=>by rw[r.inj r',Vals.inj t t']
section
variable {X:Cx}{pins:List (Addr×Obj)}{σ:St}{H:Hp}{s:Shared}{a:Addr}{xs ys:List V}
theorem SqL.of {K:Frag} (h:H a=some (.lst xs)):SqL K H a xs:=.inl (.inl h)
theorem SqT.of {K:Frag} (h:H a=some (.tup xs)):SqT K H a xs:=.inl (.inl h)
theorem Inv.list (I:Inv X pins σ H s) (h:SqL X.K H a xs):∃ its:List Value,Vals xs its/\PlainL s.heap a its.toArray/\xs.length<=sizeLine:=by
 rcases h with h | ⟨o,its,n,hk,hc,hd,hs,hz,r⟩
 ·obtain⟨z,its,n,r,e⟩:=h.ok I.hok
  exact⟨its,r,⟨_,n,e,rfl,rfl,rfl⟩,z⟩
 ·refine⟨its.toList,r,⟨o,n,I.kIn a o hk,hc,hd,by simpa using hs⟩,?_⟩
  have e:=r.length;simp only[Array.length_toList] at e;omega
theorem Inv.tuple (I:Inv X pins σ H s) (h:SqT X.K H a xs):∃ its:List Value,Vals xs its/\IsTup s.heap a its.toArray/\xs.length<=sizeLine:=by
 rcases h with h | ⟨o,its,n,hk,hc,_,hs,hz,r⟩
 ·obtain⟨z,its,r,p⟩:=h.ok I.hok
  exact⟨its,r,p.tup,z⟩
 ·refine⟨its.toList,r,⟨o,I.kIn a o hk,hc,n,by simpa using hs⟩,?_⟩
  have e:=r.length;simp only[Array.length_toList] at e;omega
theorem Inv.tupleN (I:Inv X pins σ H s) (h:SqT X.K H a xs):∃ its:List Value,Vals xs its/\IsTuN s.heap a its.toArray/\xs.length<=sizeLine:=by
 rcases h with h | ⟨o,its,n,hk,hc,hd,hs,hz,r⟩
 ·obtain⟨z,its,r,p⟩:=h.ok I.hok
  exact⟨its,r,p,z⟩
 ·refine⟨its.toList,r,⟨o,I.kIn a o hk,hc,⟨n,by simpa using hs⟩,hd⟩,?_⟩
  have e:=r.length;simp only[Array.length_toList] at e;omega
theorem Inv.list_inj (I:Inv X pins σ H s) (h:SqL X.K H a xs) (h':SqL X.K H a ys):xs=ys:=by
 obtain⟨its,r,⟨o,n,e,_,_,d⟩,_⟩:=I.list h;obtain⟨its',r',⟨o',n',e',_,_,d'⟩,_⟩:=I.list h';rw[e] at e';cases e';rw[d] at d';injection d' with d1 _
 have:its=its':=by simpa using congrArg Array.toList d1
 subst this;exact r.inj r'
theorem Inv.tuple_inj (I:Inv X pins σ H s) (h:SqT X.K H a xs) (h':SqT X.K H a ys):xs=ys:=by
 obtain⟨its,r,⟨o,e,_,n,d⟩,_⟩:=I.tuple h;obtain⟨its',r',⟨o',e',_,n',d'⟩,_⟩:=I.tuple h';rw[e] at e';cases e';rw[d] at d';injection d' with d1 _
 have:its=its':=by simpa using congrArg Array.toList d1
 subst this;exact r.inj r'
end
abbrev Cx.wish (X:Cx) (E:Value->Shared->Prop):Cx:={X with xe:=E}
abbrev Cx.nox (X:Cx):Cx:=X.wish λ _ _=>False
theorem Cx.Ok.wish {X:Cx} (ok:X.Ok) (E:Value->Shared->Prop):(X.wish E).Ok :=
 ⟨ok.mod,ok.kind,ok.glob,ok.blt,ok.above,ok.inj,ok.has,ok.cab,ok.hd,ok.frames,ok.stk,ok.exf,ok.bs,ok.bsz,ok.noex,ok.exfs,ok.funs,ok.frf⟩
theorem Cx.Ok.unwish {X:Cx}{E:Value->Shared->Prop} (ok:(X.wish E).Ok):X.Ok :=
 ⟨ok.mod,ok.kind,ok.glob,ok.blt,ok.above,ok.inj,ok.has,ok.cab,ok.hd,ok.frames,ok.stk,ok.exf,ok.bs,ok.bsz,ok.noex,ok.exfs,ok.funs,ok.frf⟩
section
variable {X:Cx}{pins:List (Addr×Obj)}{σ:St}{H:Hp}{s:Shared}{E:Value->Shared->Prop}
theorem Inv.wish (I:Inv X pins σ H s) (E:Value->Shared->Prop):Inv (X.wish E) pins σ H s:=⟨I.ok.wish E,I.os,I.bare,I.base,I.loc,I.cell,I.free,I.freeC,I.pin,I.hok,I.len⟩
theorem Inv.unwish (I:Inv (X.wish E) pins σ H s):Inv X pins σ H s:=⟨I.ok.unwish,I.os,I.bare,I.base,I.loc,I.cell,I.free,I.freeC,I.pin,I.hok,I.len⟩
theorem SP.unwish {D:Ends}{f:Flow}{s':Shared} (h:SP (X.wish E) pins D f s'):SP X pins D f s':=by
 cases f with
 |next=>obtain⟨σ',H',I,q⟩:=h;exact⟨σ',H',I.unwish,q⟩
 |brk=>obtain⟨σ',H',I,q⟩:=h;exact⟨σ',H',I.unwish,q⟩
 |cont=>obtain⟨σ',H',I,q⟩:=h;exact⟨σ',H',I.unwish,q⟩
 |ret u=>obtain⟨v,σ',H',I,r,q⟩:=h;exact⟨v,σ',H',I.unwish,r,q⟩
theorem PE.nox {e:Expr}{t:TE} (h:PE X.nox e t):PE X e t:=λ pins s σ H Q I hw =>
 wpAny_mono (h pins s σ H Q (I.wish _) hw) (λ _ _ ⟨v,H',I',r,q⟩=>⟨v,H',I'.unwish,r,q⟩) λ _ _ z=>False.elim z
theorem PT.nox {e:Expr}{t:TT} (h:PT X.nox e t):PT X e t:=λ pins s σ H Q I hw =>
 wpAny_mono (h pins s σ H Q (I.wish _) hw) (λ _ _ ⟨H',I',q⟩=>⟨H',I'.unwish,q⟩) λ _ _ z=>False.elim z
theorem PSs.nox {st:List Stmt}{t:TS} (h:PSs X.nox st t):PSs X st t:=λ pins s σ H D I hw =>
 wpAny_mono (h pins s σ H D (I.wish _) hw) (λ _ _ q=>q.unwish) λ _ _ z=>False.elim z
end
section
variable {X:Cx}{st:Stmt}{rest:List Stmt}{t u:TS}{e:Expr}{te:TE}{pos:Pos}
def bn7:TS:=λ D σ H=>D.nx σ H
def bI1 (t u:TS):TS:=λ D σ H=>t {D with nx:=u D} σ H
theorem aL5:PSs X [] bn7:=λ _ _ σ H _ I h=>wpAny_execs_nil ⟨σ,H,I,h⟩
theorem ab8 (h1:PS X st t) (h2:PSs X rest u):PSs X (st::rest) (bI1 t u):=by
 intro pins s σ H D I h;refine wpAny_execs_cons (thn (h1 pins s σ H {D with nx:=u D} I h) λ f s1 q=>?_)
 cases f with
 |next =>
  obtain⟨σ',H',I',q⟩:=q;exact h2 pins s1 σ' H' D I' q
 |ret v=>exact q
 |brk=>exact q
 |cont=>exact q
theorem al9 (h1:PS X st t):PSs X [st] t:=by
 intro pins s σ H D I h;refine wpAny_execs_cons (thn (h1 pins s σ H D I h) λ f s1 q=>?_)
 cases f with
 |next=>exact wpAny_execs_nil q
 |ret v=>exact q
 |brk=>exact q
 |cont=>exact q
theorem Inv.quiet {pins:List (Addr×Obj)}{σ:St}{H:Hp}{s:Shared} (I:Inv X pins σ H s):interactive X.env=false:=by simp[interactive,I.ok.kind]
def bn8 (te:TE):TS:=λ D σ H=>te σ H λ _ H1=>D.nx σ H1
theorem aL6 (he:PE X e te) (hs:swapsWith e none pos.line X.env=pure false:=by rfl):PS X (.Expr e pos) (bn8 te):=by
 intro pins s σ H D I h;exact wpAny_Expr_any (thn (he pins s σ H _ I h) λ v s1 ⟨x,H1,I1,r1,q1⟩=>⟨σ,H1,I1,q1⟩) I.quiet hs
def bI2 (te:TE):TS:=λ D σ H=>te σ H D.rt
theorem aF5 (he:PE X e te):PS X (.Return (some e) pos) (bI2 te):=by
 intro pins s σ H D I h;exact wpAny_Return_some (thn (he pins s σ H _ I h) λ v s1 ⟨x,H1,I1,r1,q1⟩=>⟨x,σ,H1,I1,r1,q1⟩)
def bI7 (c:TT) (t u:TS):TS:=λ D σ H=>c σ H λ b H1=>if b=true then t D σ H1 else u D σ H1
theorem br5 {c:Expr}{a b:List Stmt}{tc:TT} (hc:PT X c tc) (ha:PSs X a t) (hb:PSs X b u):PS X (.If c a b pos) (bI7 tc t u):=by
 intro pins s σ H D I h;refine wpAny_If (thn (hc pins s σ H _ I h) λ d s1 hh0_=>?_)
 obtain⟨H1,I1,q1⟩:=hh0_;cases d with
 |true=>exact ha pins s1 σ H1 D I1 q1
 |false=>exact hb pins s1 σ H1 D I1 q1
end
abbrev TG:=V->St->Hp->(St->Hp->Prop)->Prop
abbrev TGs:=List V->St->Hp->(St->Hp->Prop)->Prop
def PG (X:Cx) (target:Expr) (t:TG):Prop :=
 ∀ (pins:List (Addr×Obj)) (s:Shared) (σ:St) (H:Hp) (v:V) (u:Value) (Q:St->Hp->Prop),Inv X pins σ H s->RelV v u->t v σ H Q ->
  wpAny (model X.prog X.w) X.A (assign target X.env u) (λ _ s'=>∃ σ' H',Inv X pins σ' H' s'/\Q σ' H') X.xe s
def PGs (X:Cx) (ts:List Expr) (t:TGs):Prop :=
 ∀ (pins:List (Addr×Obj)) (s:Shared) (σ:St) (H:Hp) (vs:List V) (us:List Value) (Q:St->Hp->Prop),Inv X pins σ H s->Vals vs us->t vs σ H Q ->
  wpAny (model X.prog X.w) X.A (assignInOrder ((assignEach ts X.env).map (·.2)) us) (λ _ s'=>∃ σ' H',Inv X pins σ' H' s'/\Q σ' H') X.xe s
section
variable {X:Cx}{pos:Pos}
def bf3 (i:Nat):TG:=λ v σ H Q=>Q (σ.set i (some v)) H
theorem am4 {i:Nat}{x:Str} (hN:X.N.Nodup) (hi:X.N[i]?=some x) (hx:Loc X.env.scope x) (hf:X.fn x=true\/X.env.scope.names.lookup x=some .local:=by first | exact .inl rfl | exact .inr rfl | assumption):PG X (.Name x pos) (bf3 i):=by
 intro pins s σ H v u Q I r h;exact wpAny_assign_Name (ab3 I hN hi hx r (λ s' I'=>⟨_,H,I',h⟩) hf)
def bM2:TGs:=λ vs σ H Q=>vs=[]/\Q σ H
def bu7 (t:TG) (u:TGs):TGs:=λ vs σ H Q=>∃ v r,vs=v::r/\t v σ H λ σ' H'=>u r σ' H' Q
theorem aM2:PGs X [] bM2:=by
 intro pins s σ H vs us Q I r h;obtain⟨e,h⟩:=h;subst e;cases r;exact assignInOrder_nil ⟨σ,H,I,h⟩
theorem az9 {e:Expr}{es:List Expr}{t:TG}{u:TGs} (h1:PG X e t) (h2:PGs X es u)
  (hs:(assignEach (e::es) X.env).map (·.2)=assign e X.env::(assignEach es X.env).map (·.2):=by rfl):PGs X (e::es) (bu7 t u):=by
 intro pins s σ H vs us Q I r h;obtain⟨v,vr,e1,h⟩:=h;subst e1;cases r with
 |cons r rr =>
  rw[hs];refine assignInOrder_cons (thn (h1 pins s σ H _ _ _ I r h) λ _ s1 hh0_=>?_)
  obtain⟨σ1,H1,I1,q1⟩:=hh0_;exact h2 pins s1 σ1 H1 _ _ Q I1 rr q1
def bM0 (K:Frag) (n:Nat) (t:TGs):TG:=λ v σ H Q=>∃ a xs,v=.ref a/\SqT K H a xs/\xs.length=n/\t xs σ H Q
theorem bb3 {es:List Expr}{k:Nat}{t:TGs}{n:Nat} (hc:X.calm=true) (h:PGs X es t)
  (hn:(assignEach es X.env).length=n:=by rfl) (hst:(assignEach es X.env).findIdx? (·.1)=none:=by rfl):PG X (.Tuple es k pos) (bM0 X.K n t):=by
 intro pins s σ H v u Q I r hw;obtain⟨a,xs,e1,hq,hl,hw⟩:=hw;subst e1;cases r;obtain⟨its,rv,ht,hz⟩:=I.tuple hq;refine assign_Tuple_tuple (I.ok.hd hc) ht (by simp[hn,<- hl,rv.length]) hst λ h' hx=>?_
 have I1:Inv X pins σ H {s with heap:=h'}:=I.kept (t':=s.toks) λ b o e=>hx b o (qo (qk e)) e
 exact h pins _ σ H xs _ Q I1 (by simpa using rv) hw
def bA1 (te:TE) (g:TG):TS:=λ D σ H=>te σ H λ x H1=>g x σ H1 D.nx
theorem ba9 {tg e:Expr}{te:TE}{g:TG} (he:PE X e te) (hg:PG X tg g) (hs:swapsWithSole [tg] e pos.line X.env=pure false:=by rfl) (hw:swappedStores [tg] e X.env=pure none:=by rfl)
  (h1:(assignEach [tg] X.env).map (·.2)=[assign tg X.env]:=by rfl):PS X (.Assign [tg] e pos) (bA1 te g):=by
 intro pins s σ H D I h;refine wpAny_Assign_stores (thn (he pins s σ H _ I h) λ v s1 hh0_=>?_) hs hw
 obtain⟨x,H1,I1,r1,q1⟩:=hh0_;rw[h1];exact thn (hg pins s1 σ H1 x v _ I1 r1 q1) λ _ s2 q=>q
theorem am0 {i:Nat}{x:Str}{e:Expr}{te:TE}{pos':Pos} (hN:X.N.Nodup) (hi:X.N[i]?=some x) (hx:Loc X.env.scope x) (he:PE X e te) (hs:swapsWith e (some (.Name x pos')) pos.line X.env=pure false:=by rfl) (hf:X.fn x=true\/X.env.scope.names.lookup x=some .local:=by first | exact .inl rfl | exact .inr rfl | assumption) :
  PS X (.Assign [.Name x pos'] e pos) (bA1 te (bf3 i)):=by
 intro pins s σ H D I h;refine wpAny_Assign_Name (thn (he pins s σ H _ I h) λ v s1 hh0_=>?_) hs
 obtain⟨y,H1,I1,r1,q1⟩:=hh0_;exact ab3 I1 hN hi hx r1 (λ s2 I2=>⟨_,H1,I2,q1⟩) hf
end
section
variable {X:Cx}{pos:Pos}
def aX8 (c:TT) (tb:TS):TS:=λ D σ H=>∃ W:Nat->St->Hp->Prop,(∃ m,W m σ H)/\∀ m σ H,W m σ H ->
 c σ H λ b H1=>if b=true then ∃ N:St->Hp->Prop,(∀ σ' H',N σ' H'->∃ m',m'<m/\W m' σ' H')/\tb {D with nx:=N,ct:=N,bk:=D.nx} σ H1 else D.nx σ H1
theorem az4 {c:Expr}{body:List Stmt}{tc:TT}{tb:TS} (hp:PassesOwn (model X.prog X.w) X.A X.env X.xe) (hc:PT X c tc) (hb:PSs X body tb):PS X (.While c body [] pos) (aX8 tc tb):=by
 intro pins s σ H D I h;obtain⟨W,⟨m0,w0⟩,turn⟩:=h;refine wpAny_While (codeAny_whileLoop (λ n s'=>∃ σ' H',Inv X pins σ' H' s'/\W n σ' H') ?_ m0 ⟨σ,H,I,w0⟩)
 rintro n s1 ⟨σ1,H1,I1,w1⟩;refine wpAny_passesOwn hp (thn (hc pins s1 σ1 H1 _ I1 (turn n σ1 H1 w1)) λ b s2 hh0_=>?_)
 obtain⟨H2,I2,q2⟩:=hh0_;cases b with
 |true =>
  obtain⟨N,hN,q2⟩:=q2;rw[if_pos rfl];refine wpAny_passesOwn hp (thn (hb pins s2 σ1 H2 _ I2 q2) λ f s3 q3=>?_)
  cases f with
  |next =>
   obtain⟨σ3,H3,I3,n3⟩:=q3;obtain⟨m',hm,w3⟩:=hN σ3 H3 n3;exact⟨m',hm,σ3,H3,I3,w3⟩
  |cont =>
   obtain⟨σ3,H3,I3,n3⟩:=q3;obtain⟨m',hm,w3⟩:=hN σ3 H3 n3;exact⟨m',hm,σ3,H3,I3,w3⟩
  |brk=>exact q3
  |ret v=>exact q3
 |false =>
  rw[if_neg Bool.false_ne_true];exact wpAny_execs_nil ⟨σ1,H2,I2,q2⟩
end
structure It where
 go:Nat->Hp->Prop
 yld:Nat->Hp->V->Hp->Prop
 stop:Nat->Hp->Prop
def aw6 (X:Cx) (pins:List (Addr×Obj)) (H:Hp) (b:Addr):Prop :=
 H b=none/\b≠X.env.locals/\b∉X.fs/\(b∈X.ex\/X.s₀.heap.objs.size<=b)/\(∀ x c,X.env.cells.lookup x=some c->c≠b)/\∀ p∈X.pn++pins,p.1≠b
theorem Inv.fpOk {X:Cx}{pins:List (Addr×Obj)}{σ:St}{H H':Hp}{s:Shared}{b:Addr} (I:Inv X pins σ H s) (hb:s.heap.objs.size<=b) (hn:H' b=none):aw6 X pins H' b:=by
 refine⟨hn,Nat.ne_of_gt (qm I.lt hb),I.nofs hb,.inr (Nat.le_trans I.sz hb),λ x c e z=>?_,λ p hp z=>?_⟩
 ·obtain⟨v,q⟩:=I.cell x c e
  exact absurd (qm q.lt (by rw[z];exact hb)) (Nat.lt_irrefl _)
 ·exact absurd (qm (qk (I.pin p hp).1) (by rw[z];exact hb)) (Nat.lt_irrefl _)
structure Turn (P:Program) (w:World) (K:Frag) (tg:Expr) (J:It) (fp:List Addr) (it:Addr) (tn:Nat->Heap->Prop):Prop where
 mem:it∈fp
 obj:∀ i h,tn i h->∀ b∈fp,∃ o,h.get? b=some o/\∀ v,o.data≠.cell v
 keep:∀ i h h',tn i h->(∀ b∈fp,∀ o,h.get? b=some o->h'.get? b=some o)->tn i h'
 item:∀ (X:Cx),X.prog=P->X.w=w->X.K=K->X.calm=true->∀ (i:Nat) (pins:List (Addr×Obj)) (s:Shared) (σ:St) (H:Hp) (E:Value->Shared->Prop),Inv X pins σ H s->(∀ b∈fp,aw6 X pins H b)->tn i s.heap->J.go i H ->
  wpAny (model P w) X.A (pyNext (.ref it)) (λ r s1=>∃ u,r=some u /\
   wpAny (model P w) X.A (letOwnedTupleGo tg (.ref it) u) (λ _ s2=>∃ x H',Inv X pins σ H' s2/\RelV x u/\J.yld i H x H'/\tn (i+1) s2.heap/\∀ b∈fp,H' b=none) E s1) E s
 done:∀ (X:Cx),X.prog=P->X.w=w->X.K=K->X.calm=true->∀ (i:Nat) (pins:List (Addr×Obj)) (s:Shared) (σ:St) (H:Hp) (E:Value->Shared->Prop),Inv X pins σ H s->(∀ b∈fp,aw6 X pins H b)->tn i s.heap->J.stop i H ->
  wpAny (model P w) X.A (pyNext (.ref it)) (λ r s1=>r=none/\Inv X pins σ H s1) E s
 self:∀ (A:Around) (i:Nat) (s:Shared) (Q:Value->Shared->Prop) (E:Value->Shared->Prop),tn i s.heap->Q (.ref it) s->wpAny (model P w) A (pyIter (.ref it)) Q E s
abbrev TI:=St->Hp->(It->Hp->Prop)->Prop
def PIE (X:Cx) (pins:List (Addr×Obj)) (σ:St) (tg:Expr) (R:It->Hp->Prop) (itv:Value) (s2:Shared):Prop :=
 ∃ (it:Addr) (fp:List Addr) (tn:Nat->Heap->Prop) (J:It) (H':Hp),itv=.ref it/\Inv X pins σ H' s2/\Turn X.prog X.w X.K tg J fp it tn/\tn 0 s2.heap/\(∀ b∈fp,aw6 X pins H' b)/\R J H'
def PI (X:Cx) (tg iter:Expr) (wi:TI):Prop :=
 ∀ (pins:List (Addr×Obj)) (s:Shared) (σ:St) (H:Hp) (R:It->Hp->Prop),Inv X pins σ H s->wi σ H R ->
  wpAny (model X.prog X.w) X.A (eval iter X.env) (λ v s1=>wpAny (model X.prog X.w) X.A (pyIter v) (PIE X pins σ tg R) X.xe s1) X.xe s
theorem ar8 {M:Model}{A:Around}{E:Value->Shared->Prop}{s:Shared}{tg:Expr}{it:Addr}{u:Value}{o:Obj}{n:String}{vs:Array Value}{Q:Unit->Shared->Prop} (ho:s.heap.get? it=some o) (hc:o.cls=.type n) (hd:o.data=.fields vs)
  (hn:["enumerate","zip","dict_itemiterator","dict_reverseitemiterator","odict_iterator","itertools.zip_longest","itertools.pairwise"].contains n=false) (hQ:Q () s):wpAny M A (letOwnedTupleGo tg (.ref it) u) Q E s:=by
 unfold letOwnedTupleGo;cases tg <;> first
  |exact qc hQ
  |(cases u <;> first
    |exact qc hQ
    |(refine qb (wpAny_load ho ?_);rw[hc,hd];show wpAny M A (if (["enumerate","zip","dict_itemiterator","dict_reverseitemiterator","odict_iterator","itertools.zip_longest","itertools.pairwise"].contains n&&vs[0]?==some (rawInt _))=true then _ else _) Q E s;rw[if_neg (by intro h;rw[hn,Bool.false_and] at h;cases h)];exact qc hQ))
def Itl (K:Frag) (a:Addr):It :=
 ⟨λ i H=>∃ xs x,SqL K H a xs/\xs[i]?=some x,λ i H x H'=>H'=H/\∀ xs,SqL K H a xs->xs[i]?=some x,λ i H=>∃ xs,SqL K H a xs/\xs.length<=i⟩
def Itt (K:Frag) (a:Addr):It :=
 ⟨λ i H=>∃ xs x,SqT K H a xs/\xs[i]?=some x,λ i H x H'=>H'=H/\∀ xs,SqT K H a xs->xs[i]?=some x,λ i H=>∃ xs,SqT K H a xs/\xs.length<=i⟩
def Itr (lo:Int) (n:Nat):It:=⟨λ i _=>i<n,λ i H x H'=>H'=H/\x=.int (lo+i),λ i _=>n<=i⟩
theorem al0 {P:Program}{w:World}{K:Frag}{tg:Expr} (a it:Addr):Turn P w K tg (Itl K a) [it] it (λ i h=>h.IsListIter it a i) where
 mem:=by simp
 obj:=λ i h st b hb=>by
  have e:b=it:=by simpa using hb
  subst e;obtain⟨o,e,c,d⟩:=st;exact⟨o,e,λ v z=>by rw[d] at z;cases z⟩
 keep:=λ i h h' st k=>st.at λ o e=>k it (by simp) o e
 item:=by
  intro X hP hw hK hc i pins s σ H E I hf st hg;subst hP hw hK;obtain⟨xs,x,hq,hx⟩:=hg;obtain⟨its,rv,p,hz⟩:=I.list hq;obtain⟨u,hu,ru⟩:=rv.get hx;obtain⟨f0,f1,f2,f3,f4,f5⟩:=hf it (by simp)
  refine wpAny_pyNext_list_item st p.isList (x:=u) (by simpa using hu) λ h' st' sb=>?_
  have I1:Inv X pins σ H {s with heap:=h'}:=I.turned (t':=s.toks) (λ b o hb e=>(sb.2 b hb).trans e) f0 f1 f3 f4 f5
  obtain⟨o,e,c,d⟩:=id st';exact⟨u,rfl,ar8 (s:={s with heap:=h'}) e c d (by decide) ⟨x,H,I1,ru,⟨rfl,λ ys hy=>by rw[I.list_inj hy hq];exact hx⟩,st',λ b hb=>(hf b hb).1⟩⟩
 done:=by
  intro X hP hw hK hc i pins s σ H E I hf st hg;subst hP hw hK;obtain⟨xs,hq,hx⟩:=hg;obtain⟨its,rv,p,hz⟩:=I.list hq;obtain⟨f0,f1,f2,f3,f4,f5⟩:=hf it (by simp)
  have hl:=rv.length;exact wpAny_pyNext_list_end (I.ok.hd hc) st p.isList (by simp;omega) λ h' eb=>⟨rfl,I.turned (t':=s.toks) (λ b o hb e=>eb b o hb e) f0 f1 f3 f4 f5⟩
 self:=λ _ _ _ _ _ st h=>wpAny_pyIter_listiter st h
theorem ag0 {P:Program}{w:World}{K:Frag}{tg:Expr} (a it:Addr):Turn P w K tg (Itt K a) [it] it (λ i h=>h.IsTupleIter it a i) where
 mem:=by simp
 obj:=λ i h st b hb=>by
  have e:b=it:=by simpa using hb
  subst e;obtain⟨o,e,c,d⟩:=st;exact⟨o,e,λ v z=>by rw[d] at z;cases z⟩
 keep:=λ i h h' st k=>st.at λ o e=>k it (by simp) o e
 item:=by
  intro X hP hw hK hc i pins s σ H E I hf st hg;subst hP hw hK;obtain⟨xs,x,hq,hx⟩:=hg;obtain⟨its,rv,p,hz⟩:=I.tuple hq;obtain⟨u,hu,ru⟩:=rv.get hx;obtain⟨f0,f1,f2,f3,f4,f5⟩:=hf it (by simp)
  refine wpAny_pyNext_tuple_item st (show s.heap.IsTuple a its.toArray from p) (x:=u) (by simpa using hu) λ h' st' sb=>?_
  have I1:Inv X pins σ H {s with heap:=h'}:=I.turned (t':=s.toks) (λ b o hb e=>(sb.2 b hb).trans e) f0 f1 f3 f4 f5
  obtain⟨o,e,c,d⟩:=id st';exact⟨u,rfl,ar8 (s:={s with heap:=h'}) e c d (by decide) ⟨x,H,I1,ru,⟨rfl,λ ys hy=>by rw[I.tuple_inj hy hq];exact hx⟩,st',λ b hb=>(hf b hb).1⟩⟩
 done:=by
  intro X hP hw hK hc i pins s σ H E I hf st hg;subst hP hw hK;obtain⟨xs,hq,hx⟩:=hg;obtain⟨its,rv,p,hz⟩:=I.tuple hq;obtain⟨f0,f1,f2,f3,f4,f5⟩:=hf it (by simp)
  have hl:=rv.length;exact wpAny_pyNext_tuple_end (I.ok.hd hc) st (show s.heap.IsTuple a its.toArray from p) (by simp;omega) λ h' eb=>⟨rfl,I.turned (t':=s.toks) (λ b o hb e=>eb b o hb e) f0 f1 f3 f4 f5⟩
 self:=λ _ _ _ _ _ st h=>wpAny_pyIter_tupleiter st h
theorem ag1 {P:Program}{w:World}{K:Frag}{tg:Expr} (it:Addr) (lo:Int) (n:Nat):Turn P w K tg (Itr lo n) [it] it (λ i h=>IsRangeIter h it (lo+(i:Nat)*1) ((n:Int)-(i:Nat)) 1) where
 mem:=by simp
 obj:=λ i h st b hb=>by
  have e:b=it:=by simpa using hb
  subst e
  exact⟨_,st,λ v z=>by
   have z':Data.fields _=Data.cell v:=z;cases z'⟩
 keep:=λ i h h' st k=>k it (by simp) _ st
 item:=by
  intro X hP hw hK hc i pins s σ H E I hf st hg;subst hP hw hK;obtain⟨f0,f1,f2,f3,f4,f5⟩:=hf it (by simp)
  have W:=Walks.range (prog:=X.prog) (w:=X.w) (I.ok.hd hc) it lo 1 n;refine W.item i s _ _ hg st λ v h' tk hv st' kk=>?_
  obtain⟨t,rfl⟩:=hv;have I1:Inv X pins σ H {s with heap:=h',toks:=tk}:=I.turned (λ b o hb e=>kk b o (by simpa using hb) e) f0 f1 f3 f4 f5
  refine⟨_,rfl,ar8 (s:={s with heap:=h',toks:=tk}) (n:="range_iterator") st' rfl rfl (by decide) ⟨.int (lo+i),H,I1,⟨t,?_⟩,⟨rfl,rfl⟩,st',λ b hb=>(hf b hb).1⟩⟩
  rw[Int.mul_one]
 done:=by
  intro X hP hw hK hc i pins s σ H E I hf st hg;subst hP hw hK;obtain⟨f0,f1,f2,f3,f4,f5⟩:=hf it (by simp)
  exact wpAny_pyNext_range_end (I.ok.hd hc) st (by have:n<=i:=hg;omega) λ h' eb=>⟨rfl,I.turned (t':=s.toks) (λ b o hb e=>eb b o hb e) f0 f1 f3 f4 f5⟩
 self:=λ _ _ _ _ _ st h=>wpAny_pyIter_rangeiter st h
section
variable {X:Cx}{tg:Expr}
def bf1 (K:Frag) (tl:TE):TI:=λ σ H R=>tl σ H λ x H1=>∃ a,x=.ref a/\(∃ xs,SqL K H1 a xs)/\R (Itl K a) H1
def bC7 (K:Frag) (tl:TE):TI:=λ σ H R=>tl σ H λ x H1=>∃ a,x=.ref a/\(∃ xs,SqT K H1 a xs)/\R (Itt K a) H1
theorem aM1 {l:Expr}{tl:TE} (hl:PE X l tl):PI X tg l (bf1 X.K tl):=by
 intro pins s σ H R I h;refine thn (hl pins s σ H _ I h) λ v s1 hh0_=>?_
 obtain⟨x,H1,I1,r1,q1⟩:=hh0_;obtain⟨a,e,⟨xs,hq⟩,q⟩:=q1;subst e;cases r1;obtain⟨its,rv,p,hz⟩:=I1.list hq;refine wpAny_pyIter_list p.isList ?_;refine⟨s1.heap.objs.size,[s1.heap.objs.size],_,_,H1,rfl,I1.kept (t':=s1.toks) λ b o e=>qd _ e,al0 a _,⟨_,qj _ rfl,rfl,rfl⟩,λ b hb=>?_,q⟩
 have e:b=s1.heap.objs.size:=by simpa using hb
 subst e;exact I1.fpOk (qi _) (I1.hok.fresh (qi _))
theorem bb0 {l:Expr}{tl:TE} (hl:PE X l tl):PI X tg l (bC7 X.K tl):=by
 intro pins s σ H R I h;refine thn (hl pins s σ H _ I h) λ v s1 hh0_=>?_
 obtain⟨x,H1,I1,r1,q1⟩:=hh0_;obtain⟨a,e,⟨xs,hq⟩,q⟩:=q1;subst e;cases r1;obtain⟨its,rv,p,hz⟩:=I1.tuple hq;refine wpAny_pyIter_tuple (show s1.heap.IsTuple a its.toArray from p) ?_;refine⟨s1.heap.objs.size,[s1.heap.objs.size],_,_,H1,rfl,I1.kept (t':=s1.toks) λ b o e=>qd _ e,ag0 a _,⟨_,qj _ rfl,rfl,rfl⟩,λ b hb=>?_,q⟩
 have e:b=s1.heap.objs.size:=by simpa using hb
 subst e;exact I1.fpOk (qi _) (I1.hok.fresh (qi _))
theorem ay6 {pins:List (Addr×Obj)}{σ:St}{H:Hp}{s:Shared}{R:It->Hp->Prop}{E:Value->Shared->Prop}{lo hi:Int}{t u v:Tok}{tk:Nat} (I:Inv X pins σ H s) (h1:-(2 ^ 62)<=lo) (h2:lo<2 ^ 62) (h3:-(2 ^ 62)<=hi) (h4:hi<2 ^ 62)
  (q:R (Itr lo (hi-lo).toNat) H):wpAny (model X.prog X.w) X.A (pyIter (.ref s.heap.objs.size)) (PIE X pins σ tg R) E {s with heap:=s.heap.push {cls:=.type "range",data:=.fields #[.int lo t,.int hi u,.int 1 v]},toks:=tk}:=by
 refine wpAny_pyIter_range (IsRange.new ..) (small_one h1 h2 h3 h4) ?_;have I1:Inv X pins σ H {s with heap:=s.heap.push {cls:=.type "range",data:=.fields #[.int lo t,.int hi u,.int 1 v]},toks:=tk}:=I.kept λ b o e=>qd _ e
 refine⟨(s.heap.push {cls:=.type "range",data:=.fields #[.int lo t,.int hi u,.int 1 v]}).objs.size,[(s.heap.push {cls:=.type "range",data:=.fields #[.int lo t,.int hi u,.int 1 v]}).objs.size],_,_,H,rfl,
  I1.kept (t':=tk) λ b o e=>qd _ e,ag1 _ lo (hi-lo).toNat,?_,λ b hb=>?_,q⟩
 ·have e1:lo+((0:Nat):Int)*1=lo:=by simp
  have e2:(((hi-lo).toNat:Nat):Int)-((0:Nat):Int)=Builtin.Range.rangeSize lo hi 1:=by rw[rangeSize_one];split <;> omega
  show IsRangeIter _ _ (lo+((0:Nat):Int)*1) ((((hi-lo).toNat:Nat):Int)-((0:Nat):Int)) 1;rw[e1,e2];exact qj _ rfl
 ·have e:b=(s.heap.push {cls:=.type "range",data:=.fields #[.int lo t,.int hi u,.int 1 v]}).objs.size:=by simpa using hb
  subst e;exact I1.fpOk (qi _) (I1.hok.fresh (qi _))
def bu6 (ta:TA):TI:=λ σ H R=>ta σ H λ vs H1=>∃ j:Int,vs=[.int j]/\-(2 ^ 62)<=j/\j<2 ^ 62/\R (Itr 0 j.toNat) H1
theorem am3 {a:Expr}{ta:TA}{p pos:Pos} (hg:Gl X "range") (hm:X.mg "range"=none) (ha:PA X [a] ta) (hs:starEach [a] X.env=[(false,eval a X.env)]:=by rfl):PI X tg (.Call (.Name "range" p) [a] [] pos) (bu6 ta):=by
 intro pins s σ H R I h;refine Call_ (aq2 I hg hm boot_range (PyProof.Rows.callWith_type1 (thn (ha pos pins s σ H _ I h) λ us s1 hh0_=>?_) hs rfl))
 obtain⟨vs,H1,I1,r1,q1⟩:=hh0_;obtain⟨j,e,q1,q2,q⟩:=q1;subst e;cases r1 with
 |cons r rr =>
  cases rr;obtain⟨t,rfl⟩:=r;exact call_range_1 (ay6 I1 (by omega) (by omega) q1 q2 (by simpa using q))
def bI8 (wi:TI) (g:TG) (tb:TS):TS:=λ D σ H=>wi σ H λ J H1=>∃ W:Nat->Nat->St->Hp->Prop,(∃ m,W 0 m σ H1)/\∀ i m σ H,W i m σ H ->
 (J.stop i H/\D.nx σ H)\/(J.go i H/\∃ N:St->Hp->Prop,(∀ σ' H',N σ' H'->∃ m',m'<m/\W (i+1) m' σ' H')/\∀ x H',J.yld i H x H'->g x σ H' λ σ2 H2=>tb {D with nx:=N,ct:=N,bk:=D.nx} σ2 H2)
def R_0 (fp:List Addr) (h:Heap):List (Addr×Obj):=fp.filterMap λ b=>(h.get? b).map λ o=>(b,o)
theorem v_0 {fp:List Addr}{h:Heap}{b:Addr}{o:Obj} (hb:b∈fp) (e:h.get? b=some o):(b,o)∈R_0 fp h:=List.mem_filterMap.mpr ⟨b,hb,by rw[e];rfl⟩
theorem ao0 {fp:List Addr}{h:Heap}{p:Addr×Obj} (hp:p∈R_0 fp h):p.1∈fp/\h.get? p.1=some p.2:=by
 obtain⟨b,hb,e⟩:=List.mem_filterMap.mp hp;cases q:h.get? b with
 |none=>rw[q] at e;cases e
 |some o =>
  rw[q] at e;have e':(b,o)=p:=qh e;subst e';exact⟨hb,q⟩
theorem Inv.pinned {pins:List (Addr×Obj)}{σ:St}{H:Hp}{s:Shared}{fp:List Addr} (I:Inv X pins σ H s) (hf:∀ b∈fp,aw6 X pins H b) (ho:∀ b∈fp,∃ o,s.heap.get? b=some o/\∀ v,o.data≠.cell v):Inv X (pins++R_0 fp s.heap) σ H s :=
 I.pins_of λ p hp=>(List.mem_append.mp hp).elim (λ z=>I.pin p (ql _ z)) λ z=>by
  obtain⟨hb,e⟩:=ao0 z;obtain⟨f0,f1,f2,_⟩:=hf p.1 hb;obtain⟨o,e',d⟩:=ho p.1 hb;rw[e] at e';cases e';exact⟨e,f0,f1,f2,d⟩
theorem Inv.unpinned {pins pl:List (Addr×Obj)}{σ:St}{H:Hp}{s:Shared} (I:Inv X (pins++pl) σ H s):Inv X pins σ H s:=I.pins_of λ p hp=>I.pin p (ql _ (List.mem_append_left _ hp))
theorem ba8 {iter:Expr}{body:List Stmt}{wi:TI}{g:TG}{tb:TS}{pos:Pos} (hp:PassesOwn (model X.prog X.w) X.A X.env X.xe) (hc:X.calm=true) (hi:PI X tg iter wi) (hg:PG X tg g) (hb:PSs X body tb)
  (hs:∀ x,foldedSetIterable iter X.env x=pure x:=by intro _;rfl):PS X (.For tg iter body [] pos) (bI8 wi g tb):=by
 intro pins s σ H D I h;refine wpAny_For (thn (hi pins s σ H _ I h) λ v s1 h1=>thn h1 λ itv s2 h2=>?_) hs
 obtain⟨it,fp,tn,J,H2,e,I2,T,st2,f2,W,⟨m0,w0⟩,turn⟩:=h2;subst e;have stat:∀ {H':Hp},(∀ b∈fp,H' b=none)->∀ b∈fp,aw6 X pins H' b:=λ hn b hb=>⟨hn b hb,(f2 b hb).2⟩
 refine codeAny_forLoop_any (λ n s'=>∃ i σ' H',Inv X pins σ' H' s'/\tn i s'.heap/\(∀ b∈fp,H' b=none)/\W i n σ' H') ?_ m0 ⟨0,σ,H2,I2,st2,λ b hb=>(f2 b hb).1,w0⟩
 rintro n s3 ⟨i,σ3,H3,I3,st3,fr3,w3⟩
 rcases turn i n σ3 H3 w3 with ⟨stop,qn⟩ | ⟨go,N,hN,step⟩
 ·refine wpAny_passesOwn hp (thn (T.done X rfl rfl rfl hc i pins s3 σ3 H3 X.xe I3 (stat fr3) st3 stop) λ r s4 hh0_=>?_)
  obtain⟨hr,I4⟩:=hh0_;subst hr;exact wpAny_execs_nil ⟨σ3,H3,I4,qn⟩
 ·refine wpAny_passesOwn hp (thn (T.item X rfl rfl rfl hc i pins s3 σ3 H3 X.xe I3 (stat fr3) st3 go) λ r s4 hh0_=>?_)
  obtain⟨u,hr,h4⟩:=hh0_;subst hr;refine wpAny_passesOwn hp (thn h4 λ _ s5 hh0_=>?_)
  obtain⟨x,H5,I5,r5,y5,st5,fr5⟩:=hh0_;have I5':=I5.pinned (stat fr5) (T.obj _ _ st5);refine wpAny_passesOwn hp (thn (hg _ s5 σ3 H5 x u _ I5' r5 (step x H5 y5)) λ _ s6 hh0_=>?_)
  obtain⟨σ6,H6,I6,q6⟩:=hh0_;refine wpAny_passesOwn hp (thn (hb _ s6 σ6 H6 _ I6 q6) λ f s7 q7=>?_)
  have again:∀ {σ7:St}{H7:Hp},Inv X (pins++R_0 fp s5.heap) σ7 H7 s7->N σ7 H7->∃ m,m<n/\∃ i σ' H',Inv X pins σ' H' s7/\tn i s7.heap/\(∀ b∈fp,H' b=none)/\W i m σ' H':=λ {σ7 H7} I7 n7=>by
   obtain⟨m',hm,w7⟩:=hN σ7 H7 n7;refine⟨m',hm,i+1,σ7,H7,I7.unpinned,T.keep _ _ _ st5 λ b hb o e=>(I7.pin (b,o) (ql _ (ql _ (v_0 hb e)))).1,λ b hb=>?_,w7⟩
   obtain⟨o,e,d⟩:=T.obj _ _ st5 b hb;exact (I7.pin (b,o) (ql _ (ql _ (v_0 hb e)))).2.1
  cases f with
  |next=>obtain⟨σ7,H7,I7,n7⟩:=q7;exact again I7 n7
  |cont=>obtain⟨σ7,H7,I7,n7⟩:=q7;exact again I7 n7
  |brk=>obtain⟨σ7,H7,I7,q7⟩:=q7;exact⟨σ7,H7,I7.unpinned,q7⟩
  |ret v=>obtain⟨x7,σ7,H7,I7,r7,q7⟩:=q7;exact⟨x7,σ7,H7,I7.unpinned,r7,q7⟩
end
abbrev R2:=V->V->Hp->VK->Prop
def OpR (X:Cx) (f:Value->Value->Sem Value) (r:R2):Prop :=
 ∀ (pins:List (Addr×Obj)) (s:Shared) (σ:St) (H:Hp) (x y:V) (v u:Value) (Q:VK),Inv X pins σ H s->RelV x v->RelV y u->r x y H Q ->
  wpAny (model X.prog X.w) X.A (f v u) (EP X pins σ Q) X.xe s
def UnR (X:Cx) (f:Value->Sem Value) (r:V->Hp->VK->Prop):Prop :=
 ∀ (pins:List (Addr×Obj)) (s:Shared) (σ:St) (H:Hp) (x:V) (v:Value) (Q:VK),Inv X pins σ H s->RelV x v->r x H Q ->
  wpAny (model X.prog X.w) X.A (f v) (EP X pins σ Q) X.xe s
def CallR (X:Cx) (f:Value) (r:List V->Hp->VK->Prop):Prop :=
 ∀ (pins:List (Addr×Obj)) (s:Shared) (σ:St) (H:Hp) (xs:List V) (us:List Value) (Q:VK),Inv X pins σ H s->Vals xs us->r xs H Q ->
  wpAny (model X.prog X.w) X.A (call f us) (EP X pins σ Q) X.xe s
def bP5 (X:Cx) (r:V->Hp->(Bool->Hp->Prop)->Prop):Prop :=
 ∀ (pins:List (Addr×Obj)) (s:Shared) (σ:St) (H:Hp) (x:V) (v:Value) (Q:Bool->Hp->Prop),Inv X pins σ H s->RelV x v->r x H Q ->
  wpAny (model X.prog X.w) X.A (truthy v) (TP X pins σ Q) X.xe s
def tOp (r:R2) (ta tb:TE):TE:=λ σ H Q=>ta σ H λ x H1=>tb σ H1 λ y H2=>r x y H2 Q
def tUn (r:V->Hp->VK->Prop) (ta:TE):TE:=λ σ H Q=>ta σ H λ x H1=>r x H1 Q
def rI (C:Int->Int->Prop) (g:Int->Int->V):R2:=λ x y H Q=>∃ i j,x=.int i/\y=.int j/\C i j/\Q (g i j) H
def rI0 (g:Int->Int->V):R2:=λ x y H Q=>∃ i j,x=.int i/\y=.int j/\Q (g i j) H
def rU (g:Int->V):V->Hp->VK->Prop:=λ x H Q=>∃ i,x=.int i/\Q (g i) H
section
variable {X:Cx}{a b c:Expr}{ta tb tc:TE}{pos:Pos}
theorem by3 (ha:PE X a ta) (hb:PE X b tb) {pins:List (Addr×Obj)}{s:Shared}{σ:St}{H:Hp}{R:V->V->Hp->Prop} (I:Inv X pins σ H s)
  (h:ta σ H λ x H1=>tb σ H1 λ y H2=>R x y H2) {Q:Value->Shared->Prop}{f:Value->Value->Sem Value}
  (hf:∀ v u s2 x y H2,Inv X pins σ H2 s2->RelV x v->RelV y u->R x y H2->wpAny (model X.prog X.w) X.A (f v u) Q X.xe s2) :
  wpAny (model X.prog X.w) X.A (eval a X.env) (λ v s₁=>wpAny (model X.prog X.w) X.A (eval b X.env) (λ u s₂=>wpAny (model X.prog X.w) X.A (f v u) Q X.xe s₂) X.xe s₁) X.xe s:=by
 refine thn (ha pins s σ H _ I h) λ v s1 hh0_=>?_
 obtain⟨x,H1,I1,r1,q1⟩:=hh0_;refine thn (hb pins s1 σ H1 _ I1 q1) λ u s2 hh0_=>?_
 obtain⟨y,H2,I2,r2,q2⟩:=hh0_;exact hf v u s2 x y H2 I2 r1 r2 q2
theorem aM3 {op:Operator}{r:R2} (ho:OpR X (binaryOp op) r) (ha:PE X a ta) (hb:PE X b tb):PE X (.BinOp a op b pos) (tOp r ta tb):=by
 intro pins s σ H Q I h;exact wpAny_BinOp (by3 ha hb I h λ v u s2 x y H2 I2 rx ry q=>ho pins s2 σ H2 x y v u Q I2 rx ry q)
theorem br7 {op:UnaryOp}{r:V->Hp->VK->Prop} (ho:UnR X (unaryOp op) r) (ha:PE X a ta):PE X (.UnaryOp op a pos) (tUn r ta):=by
 intro pins s σ H Q I h;exact UnaryOp_ (thn (ha pins s σ H _ I h) λ v s1 ⟨x,H1,I1,r1,q1⟩=>ho pins s1 σ H1 x v Q I1 r1 q1)
theorem opI {f:Value->Value->Sem Value}{C:Int->Int->Prop}{g:Int->Int->Int}
  (rule:∀ (i j:Int) (t u:Tok) (s:Shared) (Q:Value->Shared->Prop) (E:Value->Shared->Prop),C i j->Q (.int (g i j) s.toks) {s with toks:=s.toks+1}->wpAny (model X.prog X.w) X.A (f (.int i t) (.int j u)) Q E s) :
  OpR X f (rI C λ i j=>.int (g i j)):=by
 intro pins s σ H x y v u Q I rx ry h;obtain⟨i,j,rfl,rfl,hc,q⟩:=h;obtain⟨t,rfl⟩:=rx;obtain⟨t',rfl⟩:=ry;exact rule i j t t' s _ _ hc ⟨.int (g i j),H,I.tok _,⟨_,rfl⟩,q⟩
theorem bB5 {f:Value->Value->Sem Value}{g:Int->Int->Int}
  (rule:∀ (i j:Int) (t u:Tok) (s:Shared) (Q:Value->Shared->Prop) (E:Value->Shared->Prop),Q (.int (g i j) s.toks) {s with toks:=s.toks+1}->wpAny (model X.prog X.w) X.A (f (.int i t) (.int j u)) Q E s) :
  OpR X f (rI0 λ i j=>.int (g i j)):=by
 intro pins s σ H x y v u Q I rx ry h;obtain⟨i,j,rfl,rfl,q⟩:=h;obtain⟨t,rfl⟩:=rx;obtain⟨t',rfl⟩:=ry;exact rule i j t t' s _ _ ⟨.int (g i j),H,I.tok _,⟨_,rfl⟩,q⟩
theorem bk7 {f:Value->Value->Sem Value}{g:Int->Int->Bool}
  (rule:∀ (i j:Int) (t u:Tok) (s:Shared) (Q:Value->Shared->Prop) (E:Value->Shared->Prop),Q (.bool (g i j)) s->wpAny (model X.prog X.w) X.A (f (.int i t) (.int j u)) Q E s) :
  OpR X f (rI0 λ i j=>.bl (g i j)):=by
 intro pins s σ H x y v u Q I rx ry h;obtain⟨i,j,rfl,rfl,q⟩:=h;obtain⟨t,rfl⟩:=rx;obtain⟨t',rfl⟩:=ry;exact rule i j t t' s _ _ ⟨.bl (g i j),H,I,rfl,q⟩
def bP7 (i j:Int):Prop:=0<=j/\j<=1000000/\i.natAbs<2 ^ 64
def CMul (i j:Int):Prop:=(-(2 ^ 64)<i/\i<2 ^ 64)\/(-(2 ^ 64)<j/\j<2 ^ 64)
theorem CMul.ok {i j:Int} (h:CMul i j):IntMulOk i j:=by
 rcases h with ⟨h1,h2⟩ | ⟨h1,h2⟩
 ·exact .of_left (intBits_le_64 h1 h2)
 ·exact .of_right (intBits_le_64 h1 h2)
theorem op_add:OpR X (binaryOp .Add) (rI0 λ i j=>.int (i+j)):=bB5 λ _ _ _ _ _ _ _ q=>add_int q
theorem bc4:OpR X (binaryOp .Sub) (rI0 λ i j=>.int (i-j)):=bB5 λ _ _ _ _ _ _ _ q=>sub_int q
theorem aN1:OpR X (binaryOp .Mod) (rI (λ _ j=>j≠0) λ i j=>.int (i.fmod j)):=opI λ _ _ _ _ _ _ _ hc q=>mod_int' hc q
theorem bc5:OpR X (binaryOp .Pow) (rI bP7 λ i j=>.int (i ^ j.toNat)):=opI λ _ _ _ _ _ _ _ hc q=>pow_int_small hc.1 hc.2.1 hc.2.2 q
theorem unI {f:Value->Sem Value}{g:Int->Int}
  (rule:∀ (i:Int) (t:Tok) (s:Shared) (Q:Value->Shared->Prop) (E:Value->Shared->Prop),Q (.int (g i) s.toks) {s with toks:=s.toks+1}->wpAny (model X.prog X.w) X.A (f (.int i t)) Q E s) :
  UnR X f (rU λ i=>.int (g i)):=by
 intro pins s σ H x v Q I rx h;obtain⟨i,rfl,q⟩:=h;obtain⟨t,rfl⟩:=rx;exact rule i t s _ _ ⟨.int (g i),H,I.tok _,⟨_,rfl⟩,q⟩
theorem aX4:UnR X (unaryOp .USub) (rU λ i=>.int (-i)):=unI λ _ _ _ _ _ q=>neg_int q
end
section
variable {X:Cx}{a b c:Expr}{ta tb tc:TE}{pos:Pos}
theorem as6 {pins:List (Addr×Obj)}{σ:St}{H:Hp}{s:Shared}{Q:VK}{k k':Bool} (I:Inv X pins σ H s) (q:Q (.bl k) H) (e:k=k'):EP X pins σ Q (.bool k') s:=by
 subst e;exact⟨.bl k,H,I,rfl,q⟩
theorem bs3:OpR X (compareOp .Lt) (rI0 λ i j=>.bl (decide (i<j))):=bk7 λ _ _ _ _ _ _ _ q=>lt_int q
theorem bs4:OpR X (compareOp .LtE) (rI0 λ i j=>.bl (decide (i<=j))):=bk7 λ _ _ _ _ _ _ _ q=>le_int q
theorem bs5:OpR X (compareOp .Gt) (rI0 λ i j=>.bl (decide (j<i))):=bk7 λ _ _ _ _ _ _ _ q=>gt_int q
theorem bs6:OpR X (compareOp .GtE) (rI0 λ i j=>.bl (decide (j<=i))):=bk7 λ _ _ _ _ _ _ _ q=>ge_int q
theorem am8:OpR X (compareOp .In) (λ x y H Q=>∃ i j,x=.str i/\y=.str j/\Q (.bl (!(Builtin.Str.occurrences j i 0 j.length 1).isEmpty)) H):=by
 intro pins s σ H x y v u Q I rx ry h;obtain⟨i,j,rfl,rfl,q⟩:=h;obtain⟨t,rfl⟩:=rx;obtain⟨t',rfl⟩:=ry;exact in_str (as6 I q rfl)
theorem bc7:OpR X (compareOp .Is) (λ x y H Q=>y=.non/\Q (.bl (decide (x=.non))) H):=by
 intro pins s σ H x y v u Q I rx ry h;obtain⟨rfl,q⟩:=h;cases ry;refine is_none_gen (as6 I q ?_);cases x <;> first
  |(cases rx;rfl)
  |(obtain⟨t,rfl⟩:=rx;rfl)
theorem aN0:OpR X (compareOp .IsNot) (λ x y H Q=>y=.non/\Q (.bl (!decide (x=.non))) H):=by
 intro pins s σ H x y v u Q I rx ry h;obtain⟨rfl,q⟩:=h;cases ry;refine isnot_none_gen (as6 I q ?_);cases x <;> first
  |(cases rx;rfl)
  |(obtain⟨t,rfl⟩:=rx;rfl)
theorem OpR.or {f:Value->Value->Sem Value}{r r':R2} (h:OpR X f r) (h':OpR X f r'):OpR X f (λ x y H Q=>r x y H Q\/r' x y H Q):=by
 intro pins s σ H x y v u Q I rx ry q
 rcases q with q | q
 ·exact h pins s σ H x y v u Q I rx ry q
 ·exact h' pins s σ H x y v u Q I rx ry q
theorem ao1 (b:Expr) {op:CmpOp} (h:op≠.In:=by decide) (h2:op≠.NotIn:=by decide):behindInMarks op b=false:=by
 have e1:(op==CmpOp.In)=false:=by cases op <;> first | rfl | exact absurd rfl h
 have e2:(op==CmpOp.NotIn)=false:=by cases op <;> first | rfl | exact absurd rfl h2
 cases b <;> simp[behindInMarks,e1,e2]
theorem aM6 {op:CmpOp}{r:R2} (ho:OpR X (compareOp op) r) (ha:PE X a ta) (hb:PE X b tb) (hm:behindInMarks op b=false):PE X (.Compare a [op] [b] pos) (tOp r ta tb):=by
 intro pins s σ H Q I h;exact wpAny_Compare1 (by3 ha hb I h λ v u s2 x y H2 I2 rx ry q=>ho pins s2 σ H2 x y v u Q I2 rx ry q) hm
def aJ1 (t:TE):TT:=λ σ H Q=>t σ H λ x H'=>∃ k,x=.bl k/\Q k H'
theorem al8 {op:CmpOp}{r:R2} (ho:OpR X (compareOp op) r) (ha:PE X a ta) (hb:PE X b tb) (hm:behindInMarks op b=false):PT X (.Compare a [op] [b] pos) (aJ1 (tOp r ta tb)):=by
 intro pins s σ H Q I h;refine wpAny_isTrue_Compare1 (thn (ha pins s σ H _ I h) λ v s1 ⟨x,H1,I1,r1,q1⟩=>thn (hb pins s1 σ H1 _ I1 q1) λ u s2 ⟨y,H2,I2,r2,q2⟩ =>
  thn (ho pins s2 σ H2 x y v u _ I2 r1 r2 q2) λ c s3 ⟨z,H3,I3,r3,k,e,q3⟩=>?_) hm
 subst e;cases r3;exact wpAny_truthy_bool ⟨H3,I3,q3⟩
def aE9 (r r':R2) (ta tb tc:TE):TE:=λ σ H Q=>ta σ H λ x H1=>tb σ H1 λ y H2=>r x y H2 λ z H3=>∃ k,z=.bl k /\
 (if k=true then tc σ H3 λ w' H4=>r' y w' H4 Q else Q (.bl false) H3)
theorem az3 {op op':CmpOp}{r r':R2} (ho:OpR X (compareOp op) r) (ho':OpR X (compareOp op') r') (ha:PE X a ta) (hb:PE X b tb) (hc:PE X c tc)
  (hm:lastMarks [op,op'] [b,c]=false:=by with_unfolding_all rfl):PT X (.Compare a [op,op'] [b,c] pos) (aJ1 (aE9 r r' ta tb tc)):=by
 intro pins s σ H Q I h;refine isTrue_chain (thn (ha pins s σ H _ I h) λ v s1 ⟨x,H1,I1,r1,q1⟩=>test_link (thn (hb pins s1 σ H1 _ I1 q1) λ u s2 ⟨y,H2,I2,r2,q2⟩ =>
  thn (ho pins s2 σ H2 x y v u _ I2 r1 r2 q2) λ d s3 ⟨z,H3,I3,r3,k,e,q3⟩=>?_)) hm
 subst e;cases r3;refine wpAny_truthy_bool ?_;cases k with
 |false =>
  obtain⟨k',e',q'⟩:=q3;cases e';exact ite_ff ⟨H3,I3,q'⟩
 |true =>
  refine ite_tt (test_last (thn (hc pins s3 σ H3 _ I3 q3) λ w' s4 ⟨z',H4,I4,r4,q4⟩=>thn (ho' pins s4 σ H4 y z' u w' _ I4 r2 r4 q4) λ d' s5 hh0_=>?_))
  obtain⟨z2,H5,I5,r5,k2,e2,q5⟩:=hh0_;subst e2;cases r5;exact wpAny_truthy_bool ⟨H5,I5,q5⟩
def bm3 (K:Frag) (x:V) (H:Hp) (k:Bool):Prop :=
 match x with
 |.non=>k=false
 |.bl b=>k=b
 |.int i=>k=(i != 0)
 |.str y=>y.length<=sizeLine/\k=((y.length:Int) != 0)
 |.byt y=>y.size<=sizeLine/\k=((y.size:Int) != 0)
 |.ref p=>(∃ xs,SqL K H p xs/\k=!xs.isEmpty)\/(∃ xs,SqT K H p xs/\k=!xs.isEmpty)\/∃ kvs,H p=some (.dK kvs)/\k=!kvs.isEmpty
 |_=>False
theorem ah9 {κ:Type}{kvs:List (κ×V)}{vs:List (κ×Value)} (r:KV kvs vs):(!vs.isEmpty)=!kvs.isEmpty:=by
 cases r <;> rfl
theorem J_5 {xs:List V}{its:List Value} (r:Vals xs its):(!its.toArray.isEmpty)=!xs.isEmpty:=by
 cases r <;> simp
theorem J_3:(sizeLine:Nat)<2 ^ 63:=by rw[sizeLine_eq];decide
theorem aE7:bP5 X (λ x H Q=>∃ k,bm3 X.K x H k/\Q k H):=by
 intro pins s σ H x v Q I rx h;obtain⟨k,e,q⟩:=h;have hl:=J_3;have hs:sizeLine=16777216:=sizeLine_eq;cases x with
 |non =>
  cases rx;have e':k=false:=e;subst e';exact truthy_none ⟨H,I,q⟩
 |bl b =>
  cases rx;have e':k=b:=e;subst e';exact wpAny_truthy_bool ⟨H,I,q⟩
 |int i =>
  obtain⟨t,rfl⟩:=rx;have e':k=(i != 0):=e;subst e';exact PySem.P.truthy_int ⟨H,I,q⟩
 |str y =>
  obtain⟨t,rfl⟩:=rx;obtain⟨hy,e'⟩:y.length<=sizeLine/\k=((y.length:Int) != 0):=e;subst e';exact PySem.P.truthy_str (by omega) ⟨H,I.tok _,q⟩
 |byt y =>
  obtain⟨t,rfl⟩:=rx;obtain⟨hy,e'⟩:y.size<=sizeLine/\k=((y.size:Int) != 0):=e;subst e';exact PySem.W.truthy_bytes (by omega) ⟨H,I.tok _,q⟩
 |ref p =>
  cases rx;have e':(∃ xs,SqL X.K H p xs/\k=!xs.isEmpty)\/(∃ xs,SqT X.K H p xs/\k=!xs.isEmpty)\/∃ kvs,H p=some (.dK kvs)/\k=!kvs.isEmpty:=e
  rcases e' with ⟨xs,hx,e'⟩ | ⟨xs,hx,e'⟩ | ⟨kvs,hx,e'⟩
  ·subst e'
   obtain⟨its,r,pl,hz⟩:=I.list hx;have hlen:=r.length;exact wpAny_truthy_list pl.isList (by simp only[List.size_toArray];omega) ⟨H,I.tok _,by rw[J_5 r];exact q⟩
  ·subst e'
   obtain⟨its,r,pl,hz⟩:=I.tuple hx;have hlen:=r.length;exact truthy_tuple pl (by simp only[List.size_toArray];omega) ⟨H,I.tok _,by rw[J_5 r];exact q⟩
  ·subst e'
   obtain⟨hz,hS,vs,r,m⟩:kvs.length<=sizeLine/\(p==sysModules)=false/\∃ vs,KV kvs vs/\s.heap.DictOf (f_2 X.prog X.w) p vs:=I.hok p _ hx;have hlen:kvs.length=vs.length:=Paired.length r;exact wpAny_truthy_dict hS m (by omega) ⟨H,I.tok _,by rw[ah9 r];exact q⟩
 |_=>exact (show False from e).elim
theorem az2 (ha:PE X a ta) (he:∀ whole,isTrue a X.env whole=(do let v <- whole;standAt a.pos;holding [v] (truthy v))) :
  PT X a (λ σ H Q=>ta σ H λ x H'=>∃ k,bm3 X.K x H' k/\Q k H'):=by
 intro pins s σ H Q I h;exact isTrue_plain (thn (ha pins s σ H _ I h) λ v s1 ⟨x,H1,I1,r1,q1⟩=>aE7 pins s1 σ H1 x v Q I1 r1 q1) (he _)
theorem op_add_str:OpR X (binaryOp .Add) (λ x y H Q=>∃ i j,x=.str i/\y=.str j/\i.length+j.length<=sizeLine/\Q (.str (i++j)) H):=by
 intro pins s σ H x y v u Q I rx ry h;obtain⟨i,j,rfl,rfl,hz,q⟩:=h;obtain⟨t,rfl⟩:=rx;obtain⟨t',rfl⟩:=ry;exact add_str (λ t' tk=>⟨.str (i++j),H,I.tok _,⟨_,rfl⟩,q⟩) hz
theorem z_4 {x:V}{us:List Value} (r:Vals [x] us):∃ u,us=[u]/\RelV x u:=by
 cases r with
 |cons r1 r2=>cases r2;exact⟨_,rfl,r1⟩
theorem aI6 {x y:V}{us:List Value} (r:Vals [x,y] us):∃ u w',us=[u,w']/\RelV x u/\RelV y w':=by
 cases r with
 |cons r1 r2 =>
  cases r2 with
  |cons r3 r4=>cases r4;exact⟨_,_,rfl,r1,r3⟩
theorem aD0:CallR X (.builtin "abs") (λ xs H Q=>∃ i,xs=[.int i] ∧ Q (.int (if i<0 then -i else i)) H):=by
 intro pins s σ H xs us Q I r h;obtain⟨i,rfl,q⟩:=h;obtain⟨u,rfl,t,rfl⟩:=z_4 r;exact call_abs_int λ u tk=>⟨.int (if i<0 then -i else i),H,I.tok _,⟨_,rfl⟩,q⟩
theorem av3 (hc:X.calm=true):CallR X (.builtin "max") (λ xs H Q=>∃ i j,xs=[.int i,.int j] ∧ Q (.int (if j > i then j else i)) H):=by
 intro pins s σ H xs us Q I r h;obtain⟨i,j,rfl,q⟩:=h;obtain⟨u,w',rfl,⟨t,rfl⟩,⟨t',rfl⟩⟩:=aI6 r;refine max_two_ints (I.ok.hd hc) λ h' tk k=>⟨_,H,I.kept k,?_,q⟩
 by_cases hj:j > i
 ·rw[if_pos hj,if_pos hj];exact⟨_,rfl⟩
 ·rw[if_neg hj,if_neg hj];exact⟨_,rfl⟩
theorem av1 (hc:X.calm=true):CallR X (.builtin "min") (λ xs H Q=>∃ i j,xs=[.int i,.int j] ∧ Q (.int (if j<i then j else i)) H):=by
 intro pins s σ H xs us Q I r h;obtain⟨i,j,rfl,q⟩:=h;obtain⟨u,w',rfl,⟨t,rfl⟩,⟨t',rfl⟩⟩:=aI6 r;refine min_two_ints (I.ok.hd hc) λ h' tk k=>⟨_,H,I.kept k,?_,q⟩
 by_cases hj:j<i
 ·rw[if_pos hj,if_pos hj];exact⟨_,rfl⟩
 ·rw[if_neg hj,if_neg hj];exact⟨_,rfl⟩
end
structure ObjM (h:Heap) (x dx C:Addr) (mA:Str->Option Value):Prop where
 obj:h.get? x=some (PySem.W.instObj C dx)
 ns:h.Ns1 dx mA
 ne:dx≠x
theorem RelO.some_of {v:V}{o:Option Value} (r:RelO (some v) o):∃ u,o=some u/\RelV v u:=by
 cases o with
 |none=>exact (show False from r).elim
 |some u=>exact⟨u,rfl,r⟩
theorem RelO.none_of {o:Option Value} (r:RelO none o):o=none:=by
 cases o with
 |none=>rfl
 |some u=>exact (show False from r).elim
structure Cls (K:Frag) (C:Addr):Prop where
 pg:PySem.W.plainGet K C Str.empty=true
 hd:PySem.W.hasDictIn K C=true
 po:PySem.W.plainOver K C=true
 sa:PySem.W.findIn K (.ref C) "__setattr__"=some (some (.builtin "object.__setattr__"))
theorem Cls.get {K:Frag}{C:Addr} (c:Cls K C) (f:Str):PySem.W.plainGet K C f=true:=c.pg
structure Con (K:Frag) (C:Addr) (f:Str) (v:V) (u:Value):Prop where
 at_:PySem.W.findIn K (.ref C) f=some (some u)
 rel:RelV v u
 get:PySem.W.specialIn K u "__get__"=some none
 cp:PySem.W.copiedNames.contains f=false
structure Meth (K:Frag) (C:Addr) (m:Str) (f:Addr):Prop where
 at_:PySem.W.findIn K (.ref C) m=some (some (.ref f))
 fn:PySem.W.isFn K (.ref f)=true
 kp:keepIn K (.ref f)=true
section
variable {X:Cx}{pins:List (Addr×Obj)}{σ:St}{H:Hp}{s:Shared}{a C dx:Addr}{fs:List (Str×V)}{f:Str}{v:V}{A:Around}{E:Value->Shared->Prop}
theorem Inv.made (I:Inv X pins σ H s):Inv X pins σ (upd (upd H s.heap.objs.size (.own (s.heap.objs.size+1))) (s.heap.objs.size+1) (.ins C s.heap.objs.size []))
  {s with heap:=(s.heap.push PySem.W.emptyDict).push (PySem.W.instObj C s.heap.objs.size)}:=by
 have e1:(s.heap.push PySem.W.emptyDict).get? s.heap.objs.size=some PySem.W.emptyDict:=qj s.heap rfl
 have e2:((s.heap.push PySem.W.emptyDict).push (PySem.W.instObj C s.heap.objs.size)).get? (s.heap.objs.size+1)=some (PySem.W.instObj C s.heap.objs.size):=by
  have:=qj (s.heap.push PySem.W.emptyDict) (o:=PySem.W.instObj C s.heap.objs.size) rfl
  rwa [Heap.size_push] at this
 have e3:(s.heap.push PySem.W.emptyDict).Ns s.heap.objs.size (λ _=>none):=⟨PySem.W.emptyDict,#[],_,e1,rfl,(λ e he=>absurd he (by simp)),λ _=>rfl⟩
 have I1:=I.laid (a:=s.heap.objs.size) (o:=.own (s.heap.objs.size+1)) (h':=s.heap.push PySem.W.emptyDict) (t':=s.toks) (λ b u q=>qd _ q) (qi _) ⟨_,e1⟩
 refine I1.laid (a:=s.heap.objs.size+1) (o:=.ins C s.heap.objs.size []) (t':=s.toks) (λ b u q=>qd _ q) (Nat.le_of_eq (Heap.size_push _ _)) ?_
 have ne:s.heap.objs.size≠s.heap.objs.size+1:=qo (Nat.lt_succ_self _);refine⟨by rw[b_6 ne,a_7],Nat.zero_le _,ne,e2,λ _=>none,(Heap.Ns1.of_empty e3).at λ o q=>qd _ q,λ _=>True.intro,λ y hy=>absurd rfl hy⟩
end
section
variable {X:Cx}{pins:List (Addr×Obj)}{σ:St}{H:Hp}{s:Shared}{A:Around}{E:Value->Shared->Prop}{Q:Value->Shared->Prop}{c:Value}{b:Bool}
inductive TyOf (K:Frag) (H:Hp):V->Value->Prop where
 |non:TyOf K H .non (.type "NoneType")
 |bl (x:Bool):TyOf K H (.bl x) (.type "bool")
 |int (i:Int):TyOf K H (.int i) (.type "int")
 |str (x:Str):TyOf K H (.str x) (.type "str")
 |flt (x:UInt64):TyOf K H (.flt x) (.type "float")
 |lst {a:Addr}{xs:List V} (e:H a=some (.lst xs)):TyOf K H (.ref a) (.type "list")
 |frz {a:Addr}{o:Obj}{xs:List V} (e:H a=some (.frz o (.lst xs))):TyOf K H (.ref a) (.type "list")
 |tup {a:Addr}{xs:List V} (e:H a=some (.tup xs)):TyOf K H (.ref a) (.type "tuple")
 |dK {a:Addr}{kvs:List (Key×V)} (e:H a=some (.dK kvs)):TyOf K H (.ref a) (.type "dict")
 |dT {a:Addr}{kvs:List (List Key×V)} (e:H a=some (.dT kvs)):TyOf K H (.ref a) (.type "dict")
 |ins {a C dx:Addr}{fs:List (Str×V)} (e:H a=some (.ins C dx fs)) (cl:Cls K C) (ha:PySem.W.findIn K (.ref C) "__class__"=some (some (.builtin "object.__class__")))
   (hn:PySem.W.specialIn K (.builtin "object.__class__") "__get__"=some (some (.builtin "getset_descriptor.__get__"))) (htk:PySem.W.takesIn K (.builtin "object.__class__")=some true)
   (hm:PySem.W.mroIn K C (.type "object")=some true):TyOf K H (.ref a) (.ref C)
end
structure Room (k:Nat) (A:Around):Prop where
 hd:A.handled=none
 dp:A.depth+3*k+5<recursionLimit
 un:A.units+16*k+200<cLine
theorem Room.mono {j k:Nat}{A:Around} (r:Room k A) (h:j<=k):Room j A:=⟨r.hd,by have:=r.dp;omega,by have:=r.un;omega⟩
theorem Room.deeper {k:Nat}{A:Around} (r:Room (k+1) A) (env:Env):Room k (A.deeper env) :=
 ⟨r.hd,by have:=r.dp;show A.depth+1+3*k+5<_;omega,by have:=r.un;show A.units+3+16*k+200<_;omega⟩
theorem Room.in1 {k:Nat}{A:Around} (r:Room (k+1) A):Room k A.in1 :=
 ⟨r.hd,by have:=r.dp;show A.depth+3*k+5<_;omega,by have:=r.un;show A.units+1+16*k+200<_;omega⟩
theorem Room.depth {k:Nat}{A:Around} (r:Room k A):A.depth<recursionLimit:=by have:=r.dp;omega
theorem Room.units {k:Nat}{A:Around} (r:Room k A):A.units+64<cLine:=by have:=r.un;omega
def bI5:TA:=λ _ H Q=>Q [] H
def bo1 (ta:TE) (tr:TA):TA:=λ σ H Q=>ta σ H λ x H1=>tr σ H1 λ xs H2=>Q (x::xs) H2
section
variable {X:Cx}{e:Expr}{es:List Expr}{te:TE}{t:TA}{pos:Pos}
theorem R_2:PA X [] bI5:=λ _ _ _ _ H Q I h=>Calls.spliced_nil ⟨[],H,I,.nil,h⟩
theorem z_6 (ha:PE X e te) (hr:PA X es t) (hs:starEach (e::es) X.env=(false,eval e X.env)::starEach es X.env:=by rfl):PA X (e::es) (bo1 te t):=by
 intro pos pins s σ H Q I h;rw[hs];show wpAny _ _ (spliced ((false,eval e X.env)::backTo pos (starEach es X.env))) _ _ s;refine Calls.spliced_cons (thn (ha pins s σ H _ I h) λ u s1 hh0_=>?_)
 obtain⟨x,H1,I1,r1,q1⟩:=hh0_;exact thn (hr pos pins s1 σ H1 _ I1 q1) λ us s2 ⟨xs,H2,I2,r2,q2⟩=>⟨x::xs,H2,I2,.cons r1 r2,q2⟩
def bI0 (t:TA):TE:=λ σ H Q=>t σ H λ xs H1=>xs.length<=sizeLine/\∀ p,H1 p=none->Q (.ref p) (upd H1 p (.tup xs))
def bI6 (t:TA):TE:=λ σ H Q=>t σ H λ xs H1=>xs.length<=sizeLine/\∀ p,H1 p=none->Q (.ref p) (upd H1 p (.lst xs))
theorem bb5 {x1} (h:PA X es t):PE X (.Tuple es x1 pos) (bI0 t):=by
 intro pins s σ H Q I hq;refine wpAny_Tuple_spliced (thn (h pos pins s σ H _ I hq) λ us s1 ⟨xs,H1,I1,r,z,q⟩=>⟨by rw[<- r.length];exact z,?_⟩)
 have hf:H1 s1.heap.objs.size=none:=I1.hok.fresh (qi _);refine⟨.ref s1.heap.objs.size,upd H1 s1.heap.objs.size (.tup xs),I1.laid (t':=s1.toks) (λ b u e=>qd _ e) (qi _) ?_,rfl,q _ hf⟩
 exact⟨z,us,r,⟨_,qj _ rfl,rfl,⟨_,rfl⟩,rfl⟩⟩
theorem aF6 (h:PA X es t):PE X (.List es pos) (bI6 t):=by
 intro pins s σ H Q I hq;refine wpAny_List_spliced (thn (h pos pins s σ H _ I hq) λ us s1 ⟨xs,H1,I1,r,z,q⟩=>⟨by rw[<- r.length];exact z,?_⟩)
 have hf:H1 s1.heap.objs.size=none:=I1.hok.fresh (qi _);refine⟨.ref s1.heap.objs.size,upd H1 s1.heap.objs.size (.lst xs),I1.laid (t':=s1.toks) (λ b u e=>qd _ e) (qi _) ?_,rfl,q _ hf⟩
 exact⟨z,us,0,r,qj _ rfl⟩
end
abbrev Sp:=List V->Hp->VK->XK->Prop
abbrev CXT:=List Env->Hp->Shared->XK->Value->Shared->Prop
structure Env0 (P:Program) (w:World) (K:Frag) (mg:Str->Option Value) (base:Heap) (A:Around) (outer:List Env) (s:Shared) (H:Hp):Prop where
 frames:A.frames=some outer
 mod:Mod K mg base
 bs:∀ b o,base.get? b=some o->s.heap.get? b=some o/\H b=none
 bsz:base.objs.size<=s.heap.objs.size
 funs:s.heap.FunFrames base outer
 frf:∀ b∈frs outer,H b=none
 hok:HOk P w H s.heap
 bare:AllBare s.gens
def CE (outer:List Env) (P:Program) (w:World) (H:Hp) (s:Shared) (Q:VK) (u:Value) (s':Shared):Prop :=
 ∃ v H',s'.os=s.os/\AllBare s'.gens/\Un (frs outer) [] H H' s.heap s'.heap/\HOk P w H' s'.heap/\RelV v u/\Q v H'
def CR (CX:CXT) (outer:List Env) (P:Program) (w:World) (H:Hp) (s:Shared) (Q:VK) (E:XK) (r:Result) (s':Shared):Prop :=
 match r with
 |.ok (.ret u)=>CE outer P w H s Q u s'
 |.ok _=>False
 |.error e=>CX outer H s E e s'
structure FnOk (P:Program) (w:World) (K:Frag) (mg:Str->Option Value) (base:Heap) (CX:CXT) (k:Nat) (f:Addr) (fd:FuncData) (ps:List Str) (sp:Sp):Prop where
 len:∀ vs H Q E,sp vs H Q E->vs.length=ps.length
 run:∀ (A:Around) (outer:List Env) (s:Shared) (H:Hp) (args:Args) (us:List Value) (vs:List V) (Q:VK) (E:XK),Room k A->Env0 P w K mg base A outer s H->BindsTo s fd args (ps.zip us)->Vals vs us->sp vs H Q E ->
  codeAny (model P w) A (.call (.ref f) args) (CR CX outer P w H s Q E) s
theorem FnOk.mono {P:Program}{w:World}{K:Frag}{mg:Str->Option Value}{base:Heap}{CX:CXT}{j k:Nat}{f:Addr}{fd:FuncData}{ps:List Str}{sp:Sp} (F:FnOk P w K mg base CX j f fd ps sp) (h:j<=k) :
  FnOk P w K mg base CX k f fd ps sp:=⟨F.len,λ A outer s H args us vs Q E hr=>F.run A outer s H args us vs Q E (hr.mono h)⟩
theorem FnOk.imp {P:Program}{w:World}{K:Frag}{mg:Str->Option Value}{base:Heap}{CX:CXT}{k:Nat}{f:Addr}{fd:FuncData}{ps:List Str}{sp sp':Sp} (F:FnOk P w K mg base CX k f fd ps sp)
  (h:∀ vs H Q E,sp' vs H Q E->sp vs H Q E):FnOk P w K mg base CX k f fd ps sp' :=
 ⟨λ vs H Q E q=>F.len vs H Q E (h _ _ _ _ q),λ A outer s H args us vs Q E hr he hb hv hs=>F.run A outer s H args us vs Q E hr he hb hv (h _ _ _ _ hs)⟩
theorem Env0.in1 {P:Program}{w:World}{K:Frag}{mg:Str->Option Value}{base:Heap}{A:Around}{outer:List Env}{s:Shared}{H:Hp} (e:Env0 P w K mg base A outer s H) :
  Env0 P w K mg base A.in1 outer s H:=⟨e.frames,e.mod,e.bs,e.bsz,e.funs,e.frf,e.hok,e.bare⟩
section
variable {X:Cx}{pins:List (Addr×Obj)}{σ:St}{H:Hp}{s s':Shared}
theorem Inv.env0 (I:Inv X pins σ H s):Env0 X.prog X.w X.K X.mg X.base X.A X.stack s H :=
 ⟨I.ok.frames,I.ok.mod,I.bs,Nat.le_trans I.ok.bsz I.sz,I.stack,I.stkFree,I.hok,I.bare⟩
theorem Inv.after {Q:VK}{u:Value} (I:Inv X pins σ H s) (h:CE X.stack X.prog X.w H s Q u s'):EP X pins σ Q u s':=by
 obtain⟨v,H',os,bare,un,hok,r,q⟩:=h;obtain⟨hh,g,d,t,os'⟩:=s';obtain rfl:os'=s.os:=os;exact⟨v,H',I.call (h':=hh) (g':=g) (d':=d) (t':=t) (ch:=[]) un hok bare (λ b z=>absurd z (by simp)),r,q⟩
end
def bo2 (sp:Sp) (dvs:List V) (E:XK) (t:TA):TE:=λ σ H Q=>t σ H λ vs H1=>sp (vs++dvs) H1 Q E
def Binds (K:Frag) (fd:FuncData) (ps:List Str) (ds:List Value):Prop :=
 ∀ (s:Shared) (us:List Value),K.In s.heap->(us++ds).length=ps.length->BindsTo s fd ⟨us,[]⟩ (ps.zip (us++ds))
theorem Binds.all {K:Frag}{fd:FuncData}{ps:List Str} (h:∀ us:List Value,us.length=ps.length->bindArgs fd ⟨us,[]⟩=pure (ps.zip us)):Binds K fd ps []:=λ s us _ hl=>by
 rw[List.append_nil] at hl ⊢;exact .of_eq (h us hl)
def aw5 (CX:CXT) (X:Cx) (E:XK):Prop:=∀ (pins:List (Addr×Obj)) (σ:St) (H:Hp) (s:Shared) (e:Value) (s':Shared),Inv X pins σ H s->CX X.stack H s E e s'->X.xe e s'
section
variable {X:Cx}{CX:CXT}{k:Nat}{f C:Addr}{fd:FuncData}{ps:List Str}{sp:Sp}{dvs:List V}{ds:List Value}{E:XK}{x m:Str}{p pos apos:Pos}{e o:Expr}{es:List Expr}{ta:TE}{t:TA}
theorem aZ4 {pins:List (Addr×Obj)}{σ:St}{H:Hp}{s:Shared}{Q:VK}{us:List Value}{vs:List V} (F:FnOk X.prog X.w X.K X.mg X.base CX k f fd ps sp) (hr:Room k X.A) (hb:Binds X.K fd ps ds) (hd:Vals dvs ds) (hx:aw5 CX X E)
  (I:Inv X pins σ H s) (r:Vals vs us) (h:sp (vs++dvs) H Q E):wpAny (model X.prog X.w) X.A (call (.ref f) us) (EP X pins σ Q) X.xe s:=by
 have r2:Vals (vs++dvs) (us++ds):=r.append hd;have hl:(us++ds).length=ps.length:=by rw[<- r2.length];exact F.len _ _ _ _ h
 refine wpAny_call (codeAny_mono (F.run X.A X.stack s H ⟨us,[]⟩ (us++ds) (vs++dvs) Q E hr I.env0 (hb s us I.kIn hl) r2 h) λ r s' hq=>?_)
 cases r with
 |error e=>exact hx pins σ H s e s' I hq
 |ok fl =>
  cases fl with
  |ret u=>exact I.after hq
  |next=>exact False.elim hq
  |brk=>exact False.elim hq
  |cont=>exact False.elim hq
theorem W_8 (F:FnOk X.prog X.w X.K X.mg X.base CX k f fd ps sp) (hr:Room k X.A) (hg:Gl X x) (hm:X.mg x=some (.ref f)) (hk:keepIn X.K (.ref f)=true) (hb:Binds X.K fd ps ds) (hd:Vals dvs ds) (hx:aw5 CX X E)
  (ha:PA X (e::es) t) (hdb:(x==("__debug__":Str))=false:=by decide) (he:starEach (e::es) X.env=(false,eval e X.env)::starEach es X.env:=by rfl) (hpl:(backTo pos (starEach es X.env)).any (·.1)=false:=by rfl) :
  PE X (.Call (.Name x p) (e::es) [] pos) (bo2 sp dvs E t):=by
 intro pins s σ H Q I h;refine wpAny_Call_Name_kw (aq1 I hg hm ?_ hdb);refine PySem.W.callWith_K (h₀:=X.base) I.ok.mod.kin hk (thn (ha pos pins s σ H _ I h) λ us s1 ⟨vs,H1,I1,r,q⟩=>⟨I1.kIn,?_⟩) he hpl
 exact aZ4 F hr hb hd hx I1 r q
structure Mk (K:Frag) (C f:Addr):Prop where
 makes:PySem.W.makesIn K C=true
 init:PySem.W.findIn K (.ref C) "__init__"=some (some (.ref f))
 fn:PySem.W.isFn K (.ref f)=true
 kp:keepIn K (.ref C)=true
end
section
variable {X:Cx}{CX:CXT}{k:Nat}{f C:Addr}{fd:FuncData}{ps ks:List Str}{sp:Sp}{E:XK}{x m:Str}{p pos apos kpos:Pos}{e o:Expr}{es:List Expr}{kws:List Keyword}{te ta:TE}{t tk:TA}{nm:Option Str}
structure KBinds (K:Frag) (fd:FuncData) (ps ks:List Str) (g:List Value->List Value->List Value) (gV:List V->List V->List V):Prop where
 to:∀ (s:Shared) (us ws:List Value),K.In s.heap->(g us ws).length=ps.length->BindsTo s fd ⟨us,ks.zip ws⟩ (ps.zip (g us ws))
 rel:∀ {vs:List V}{us:List Value}{zs:List V}{ws:List Value},Vals vs us->Vals zs ws->Vals (gV vs zs) (g us ws)
variable {g:List Value->List Value->List Value}{gV:List V->List V->List V}
end
structure FnScope (N P:List Str) (sc:Scope):Prop where
 kind:sc.kind=.function
 co:sc.isCoroutine=false
 gen:sc.isGenerator=false
 nd:N.Nodup
 pre:N.take P.length=P
 par:∀ x∈P,sc.names.lookup x=some .local\/sc.names.lookup x=some .cell
 nofree:∀ y∈sc.names,y.2≠.free
theorem U_3 {kindOf:Str->Option NameKind}{x:Str}:∀ {binds:List (Str×Value)}{m:Str->Option Value},(∀ v,(x,v)∉binds)->bindL kindOf binds m x=m x
 |[],_,_=>rfl
 |(n,v)::r,m,h=>by
  unfold bindL;rw[U_3 λ w hw=>h w (List.mem_cons_of_mem _ hw)]
  split
  ·have:x≠n:=by rintro rfl;exact h v List.mem_cons_self
   simp[this]
  ·rfl
theorem U_5 {kindOf:Str->Option NameKind}{x:Str}:∀ {binds:List (Str×Value)}{m:Str->Option Value},(∀ v,(x,v)∉binds)->bindC kindOf binds m x=m x
 |[],_,_=>rfl
 |(n,v)::r,m,h=>by
  unfold bindC;rw[U_5 λ w hw=>h w (List.mem_cons_of_mem _ hw)]
  split
  ·rfl
  ·have:x≠n:=by rintro rfl;exact h v List.mem_cons_self
   simp[this]
theorem U_4 {kindOf:Str->Option NameKind}{x:Str}{v:Value}:∀ {P:List Str}{vs:List Value}{i:Nat}{m:Str->Option Value},P.Nodup->P[i]?=some x->vs[i]?=some v->kindOf x=some .local ->
  bindL kindOf (P.zip vs) m x=some v
 |[],_,_,_,_,h,_,_=>by simp at h
 |_::_,[],_,_,_,_,h,_=>by simp at h
 |p::P,w::vs,0,m,nd,h1,h2,hk=>by
  simp at h1 h2;subst h1;subst h2;show bindL kindOf ((p,w)::P.zip vs) m p=_;unfold bindL;rw[U_3 λ v hv=>(List.nodup_cons.mp nd).1 (List.of_mem_zip hv).1,if_pos hk]
  simp
 |p::P,w::vs,i+1,m,nd,h1,h2,hk=>by
  show bindL kindOf ((p,w)::P.zip vs) m x=_;unfold bindL;exact U_4 (i:=i) (List.nodup_cons.mp nd).2 (by simpa using h1) (by simpa using h2) hk
theorem U_6 {kindOf:Str->Option NameKind}{x:Str}{v:Value}:∀ {P:List Str}{vs:List Value}{i:Nat}{m:Str->Option Value},P.Nodup->P[i]?=some x->vs[i]?=some v->kindOf x≠some .local ->
  bindC kindOf (P.zip vs) m x=some v
 |[],_,_,_,_,h,_,_=>by simp at h
 |_::_,[],_,_,_,_,h,_=>by simp at h
 |p::P,w::vs,0,m,nd,h1,h2,hk=>by
  simp at h1 h2;subst h1;subst h2;show bindC kindOf ((p,w)::P.zip vs) m p=_;unfold bindC;rw[U_5 λ v hv=>(List.nodup_cons.mp nd).1 (List.of_mem_zip hv).1,if_neg hk]
  simp
 |p::P,w::vs,i+1,m,nd,h1,h2,hk=>by
  show bindC kindOf ((p,w)::P.zip vs) m x=_;unfold bindC;exact U_6 (i:=i) (List.nodup_cons.mp nd).2 (by simpa using h1) (by simpa using h2) hk
def start (N:List Str) (vs:List V):St:=vs.map some++List.replicate (N.length-vs.length) none
def aC7 (CX:CXT) (P:Program) (w:World) (K:Frag) (mg:Str->Option Value) (base:Heap) (N:List Str) (qual:Str) (scope:Scope) (f:Addr) (cd:Value) (A:Around) (outer:List Env) (s:Shared) (H:Hp) (E:XK):Cx where
 prog:=P
 w:=w
 K:=K
 mg:=mg
 base:=base
 A:=A.deeper (envOfC qual scope s.heap.objs.size f cd)
 N:=N
 s₀:=s
 H₀:=H
 env:=envOfC qual scope s.heap.objs.size f cd
 outer:=outer
 stack:=envOfC qual scope s.heap.objs.size f cd::outer
 ex:=[]
 calm:=true
 fn:=λ _=>true
 pn:=[]
 xe:=λ e s'=>wpAny (model P w) (A.deeper (envOfC qual scope s.heap.objs.size f cd)) (leaving (envOfC qual scope s.heap.objs.size f cd) e) (λ _ s''=>CX outer H s E e s'') (λ e' s''=>CX outer H s E e' s'') s'
theorem ae9 {sc:Scope}{n:Nat}{x:Str} (h:sc.names.lookup x=some .cell):∃ c,(cellsFrom n sc.names []).lookup x=some c:=by
 have q:=PySem.W.cellsFrom_some sc.names n [] (.inl h);exact Option.isSome_iff_exists.mp q
theorem ar5 {CX:CXT}{P:Program}{w:World}{K:Frag}{mg:Str->Option Value}{base:Heap}{N ps:List Str}{qual:Str}{scope:Scope}{f:Addr}{cd:Value}{A:Around}{outer:List Env}{s s1:Shared}{H:Hp}{E:XK}{us:List Value}{vs:List V}
  (S:FnScope N ps scope) (hd:A.handled=none) (e0:Env0 P w K mg base A outer s H) (hl:vs.length=ps.length) (r:Vals vs us)
  (x:InCallC s s.heap.objs.size (bindL (envOfC qual scope s.heap.objs.size f cd).kindOf (ps.zip us) λ _=>none) (cellsFrom (s.heap.objs.size+1) scope.names []) (bindC (envOfC qual scope s.heap.objs.size f cd).kindOf (ps.zip us) λ _=>none) s1) :
  Inv (aC7 CX P w K mg base N qual scope f cd A outer s H E) [] (start N vs) H s1:=by
 have hpl:ps.length<=N.length:=by have:=congrArg List.length S.pre;rw[List.length_take] at this;omega
 obtain⟨h1,tk,rfl,hk⟩:=x.done;have noA:∀ b:Addr,b∉(aC7 CX P w K mg base N qual scope f cd A outer s H E).ex:=λ b z=>absurd (show b∈([]:List Addr) from z) (by simp)
 refine⟨⟨e0.mod,S.kind,rfl,rfl,qi _,λ y z c h1 h2=>?_,λ y hy=>?_,λ y c _ h=>?_,λ _=>hd,Around.frames_deeper e0.frames,.inr ⟨rfl,rfl⟩,λ b z=>absurd z (noA b),e0.bs,e0.bsz,λ b _ _=>noA b,λ b z=>absurd z (noA b),e0.funs,e0.frf⟩,
  rfl,e0.bare,Un.kept hk,⟨_,x.toInCall.ns,λ i y v h1 h2 h3=>?_⟩,λ y c h=>⟨_,x.cell y c h⟩,e0.hok.fresh (qi _),λ y c h=>?_,λ p hp=>absurd (show p∈([]:List (Addr×Obj)) from hp) (by simp),e0.hok.kept hk,?_⟩
 ·exact name_of_addr x.apart (PySem.mem_of_lookup h1) (PySem.mem_of_lookup h2)
 ·have hy:scope.names.lookup y=some .cell\/scope.names.lookup y=some .free:=hy
  rcases hy with hy | hy
  ·exact ae9 hy
  ·exact absurd rfl (S.nofree _ (PySem.mem_of_lookup hy))
 ·exact Nat.le_of_lt (x.above y c (PySem.mem_of_lookup h))
 ·have hi:i<vs.length:=by
   unfold start at h2
   by_cases hi:i<vs.length
   ·exact hi
   ·rw[List.getElem?_append_right (by simpa using hi)] at h2
    rw[List.getElem?_replicate] at h2
    split at h2 <;> cases h2
  have ha:vs[i]?=some v:=by
   unfold start at h2;rw[List.getElem?_append_left (by simpa using hi),List.getElem?_map] at h2
   cases e:vs[i]? with
   |none=>rw[e] at h2;cases h2
   |some a=>rw[e] at h2;cases h2;rfl
  obtain⟨u,hu,rv⟩:=r.get ha
  have hp:ps[i]?=some y:=by
   rw[<- S.pre,List.getElem?_take_of_lt (by omega)];exact h1
  have ndP:ps.Nodup:=by rw[<- S.pre];exact S.nd.sublist (List.take_sublist _ _)
  refine⟨u,rv,?_⟩
  rcases S.par y (List.mem_of_getElem? hp) with k | k
  ·exact .inl ⟨k,U_4 ndP hp hu k⟩
  ·obtain⟨c,e⟩:=ae9 (n:=s.heap.objs.size+1) k
   refine .inr ⟨.inl k,c,e,?_⟩;have q:=x.cell y c e;rw[U_6 ndP hp hu (by show scope.names.lookup y≠_;rw[k];decide)] at q
   exact q
 ·exact e0.hok.fresh (Nat.le_of_lt (x.above y c (PySem.mem_of_lookup h)))
 ·unfold start
  show _=N.length;rw[List.length_append,List.length_map,List.length_replicate];omega
theorem bu9 {CX:CXT}{P:Program}{w:World}{K:Frag}{mg:Str->Option Value}{base:Heap}{k:Nat}{f:Addr}{name qual:Str}{params:Arguments}{body:List Stmt}{scope:Scope}{dV kV doc pm cdv ct oc:Value}{an od:Option Addr}
  {osl:Array (Option Value)}{N ps:List Str}{sp:Sp} (lk:K.lookup f=some ⟨oc,od,.func (fnOf name qual params body scope dV kV doc pm an cdv ct),osl⟩) (hcd:codeIn K cdv qual=true) (S:FnScope N ps scope)
  (len:∀ vs H Q E,sp vs H Q E->vs.length=ps.length)
  (hbody:∀ (A:Around) (outer:List Env) (s:Shared) (H:Hp) (vs:List V) (Q:VK) (E:XK),Room k (A.deeper (envOfC qual scope s.heap.objs.size f cdv))->sp vs H Q E ->
   ∃ t,PSs (aC7 CX P w K mg base N qual scope f cdv A outer s H E) body t/\t {nx:=λ _ H'=>Q .non H',rt:=Q} (start N vs) H) :
  FnOk P w K mg base CX (k+1) f (fnOf name qual params body scope dV kV doc pm an cdv ct) ps sp:=by
 refine⟨len,λ A outer s H args us vs Q E hr e0 hb r hsp=>?_⟩
 have hl:=len _ _ _ _ hsp;have KX:K.In s.heap:=e0.mod.kin.keeps λ b o e=>(e0.bs b o e).1
 have lim:s.heap.NoLimit:=e0.mod.nolimit.keeps λ b o e=>(e0.bs b o e).1
 have hkind:∀ y∈ps.zip us,scope.names.lookup y.1=some .local\/(scope.names.lookup y.1=some .cell/\((cellsFrom (s.heap.objs.size+1) scope.names []).lookup y.1).isSome=true):=λ hh0_ hy=>by
  obtain⟨n,v⟩:=hh0_
  rcases S.par n (List.of_mem_zip hy).1 with q | q
  ·exact .inl q
  ·exact .inr ⟨q,PySem.W.cellsFrom_some _ _ _ (.inl q)⟩
 refine codeAny_call_function hr.depth (KX _ _ lk) rfl S.co S.gen rfl (PySem.W.codeRec_of KX hcd) (hb _ _ _ _ ?_);refine wpAny_newFunctionEnv_cells S.kind hkind λ env he s1 x=>?_
 subst he;refine⟨lim.keeps x.toInCall.keep,codeAny_func ?_⟩;obtain⟨t,ht,hq⟩:=hbody A outer s H vs Q E (hr.deeper _) hsp;have I:Inv (aC7 CX P w K mg base N qual scope f cdv A outer s H E) [] (start N vs) H s1:=ar5 S hr.hd e0 hl r x;refine wpAny_mono (ht [] s1 (start N vs) H _ I hq) (λ fl s' hs=>?_) λ e s' hs=>hs
 have fin:∀ {σ':St}{H':Hp}{v:V}{u:Value},Inv (aC7 CX P w K mg base N qual scope f cdv A outer s H E) [] σ' H' s'->RelV v u->Q v H'->CE outer P w H s Q u s' :=
  λ {σ' H' v u} J rv q=>⟨v,H',J.os,J.bare,J.base,J.hok,rv,q⟩
 cases fl with
 |ret u =>
  obtain⟨v,σ',H',J,rv,q⟩:=hs;exact fin J rv q
 |next =>
  obtain⟨σ',H',J,q⟩:=hs;exact fin (v:=V.non) (u:=Value.none) J rfl q
 |brk =>
  obtain⟨_,_,_,q⟩:=hs;exact False.elim q
 |cont =>
  obtain⟨_,_,_,q⟩:=hs;exact False.elim q
section
variable {X:Cx}{x:Str}{p pos:Pos}{e:Expr}{es:List Expr}{t:TA}{id T:String}{r:List V->Hp->VK->Prop}
def tCB (r:List V->Hp->VK->Prop) (t:TA):TE:=λ σ H Q=>t σ H λ vs H1=>r vs H1 Q
theorem C_9 (hc:CallR X (.builtin id) r) (hg:Gl X x) (hm:X.mg x=none) (hv:bootBuiltins x=some (.builtin id)) (ha:PA X (e::es) t) (hn:x≠"__name__":=by decide) (hdb:(x==("__debug__":Str))=false:=by decide)
  (he:starEach (e::es) X.env=(false,eval e X.env)::starEach es X.env:=by rfl) (hpl:(backTo pos (starEach es X.env)).any (·.1)=false:=by rfl):PE X (.Call (.Name x p) (e::es) [] pos) (tCB r t):=by
 intro pins s σ H Q I h;refine wpAny_Call_Name_kw (aq2 I hg hm hv ?_ hn hdb);exact PyProof.Rows.callWith_builtin1 (thn (ha pos pins s σ H _ I h) λ us s1 ⟨vs,H1,I1,r1,q1⟩=>hc pins s1 σ H1 vs us Q I1 r1 q1) he hpl
theorem p_2 (hc:CallR X (.type T) r) (hg:Gl X x) (hm:X.mg x=none) (hv:bootBuiltins x=some (.type T)) (ha:PA X (e::es) t) (hn:x≠"__name__":=by decide) (hdb:(x==("__debug__":Str))=false:=by decide)
  (he:starEach (e::es) X.env=(false,eval e X.env)::starEach es X.env:=by rfl) (hpl:(backTo pos (starEach es X.env)).any (·.1)=false:=by rfl):PE X (.Call (.Name x p) (e::es) [] pos) (tCB r t):=by
 intro pins s σ H Q I h;refine wpAny_Call_Name_kw (aq2 I hg hm hv ?_ hn hdb);exact PyProof.Rows.callWith_type1 (thn (ha pos pins s σ H _ I h) λ us s1 ⟨vs,H1,I1,r1,q1⟩=>hc pins s1 σ H1 vs us Q I1 r1 q1) he hpl
end
end L2
namespace HT
open PySem PyProof.Rows
section
variable {prog:Program}{w:World}{A:Around}{E:Value->Shared->Prop}{s:Shared}
def sIx (n d:Nat):Option Int->Nat
 |none=>d
 |some v=>if v<0 then (v+(n:Int)).toNat else min v.toNat n
theorem aZ2 (n d:Nat) (hd:d<=n) (o:Option Int):sIx n d o<=n:=by
 cases o with
 |none=>exact hd
 |some v =>
  show (if v<0 then (v+(n:Int)).toNat else min v.toNat n)<=n
  by_cases hv:v<0
  ·rw[if_pos hv];omega
  ·rw[if_neg hv];exact Nat.min_le_right _ _
theorem au8 (v:Int) (n d:Nat):(if v<0 then max (v+(n:Int)) 0 else min v (n:Int))=((sIx n d (some v):Nat):Int):=by
 show (if v<0 then max (v+(n:Int)) 0 else min v (n:Int))=(((if v<0 then (v+(n:Int)).toNat else min v.toNat n):Nat):Int)
 by_cases hv:v<0
 ·simp only[if_pos hv];omega
 ·simp only[if_neg hv];omega
theorem aj3 (lo hi:Option Int) (n:Nat):Builtin.Slice.sliceAdjust lo hi 1 (n:Int)=(((sIx n 0 lo:Nat):Int),((sIx n n hi:Nat):Int)):=by
 have h1:¬ ((1:Int)<0):=by omega
 unfold Builtin.Slice.sliceAdjust;simp only[h1,if_false];refine Prod.ext ?_ ?_
 ·cases lo with
  |none=>rfl
  |some v=>exact au8 v n 0
 ·cases hi with
  |none=>rfl
  |some v=>exact au8 v n n
theorem ah0 (i j:Nat):Builtin.Slice.slicePlaces (i:Int) (j:Int) 1=j-i:=by
 unfold Builtin.Slice.slicePlaces;have h1:(1:Int) > 0:=by omega
 simp only[h1,if_true,Int.ediv_one]
 split <;> omega
theorem I_7 {v:Value}{o:Option Int}{Q:Option Int->Shared->Prop} (p:IsPart v o) (h:Q o s):wpAny (model prog w) A (Builtin.Slice.slicePartIndex v) Q E s:=by
 cases p with
 |none=>exact slicePart_none h
 |int i t=>exact slicePart_int h
theorem C_0 {sl:Addr}{vl vu:Value}{lo hi:Option Int}{n:Nat}{Q:Int×Int×Nat->Shared->Prop} (hs:s.heap.IsSliceOf sl vl vu .none) (pl:IsPart vl lo) (pu:IsPart vu hi)
  (h:Q (((sIx n 0 lo:Nat):Int),1,sIx n n hi-sIx n 0 lo) s):wpAny (model prog w) A (Builtin.Slice.sliceApplied (.ref sl) (pure (n:Int))) Q E s:=by
 obtain⟨os,hos,hcs,hds⟩:=id hs;unfold Builtin.Slice.sliceApplied Builtin.Slice.sliceFields;refine qb (qb (wpAny_field hos hds (x:=vl) rfl (qb (wpAny_field hos hds (x:=vu) rfl (qb (wpAny_field hos hds (x:=.none) rfl (qc ?_)))))));refine qb (slicePart_none ?_);show wpAny _ _ (if ((1:Int)==0)=true then _ else _) _ _ s;rw[if_neg (by decide)]
 refine qb (I_7 pl (qb (I_7 pu (qb (qc ?_)))));show wpAny _ _ (match Builtin.Slice.sliceAdjust lo hi 1 (n:Int) with | (lo,hi)=>pure (lo,(1:Int),Builtin.Slice.slicePlaces lo hi 1)) _ _ s
 rw[aj3 lo hi n];show wpAny _ _ (pure (((sIx n 0 lo:Nat):Int),(1:Int),Builtin.Slice.slicePlaces ((sIx n 0 lo:Nat):Int) ((sIx n n hi:Nat):Int) 1)) _ _ s;rw[ah0];exact qc h
theorem az7 (xs:Array Value) (i k:Nat):((List.range k).filterMap λ (m:Nat)=>xs[((i:Int)+(m:Int)*1).toNat]?).toArray=((xs.toList.drop i).take k).toArray:=by
 have e:(λ (m:Nat)=>xs[((i:Int)+(m:Int)*1).toNat]?)=λ m=>xs[i+m]?:=by
  funext m
  have:((i:Int)+(m:Int)*1).toNat=i+m:=by omega
  rw[this]
 rw[e];have:=pick_run xs i k;rw[List.filterMap_map] at this;have e2:((λ x=>xs[x]?) ∘ λ x=>i+x)=λ m=>xs[i+m]?:=rfl
 rw[e2] at this;rw[this]
theorem getItem_tuple_cut {t sl:Addr}{items:Array Value}{vl vu:Value}{lo hi:Option Int}{Q:Value->Shared->Prop} (ht:IsTup s.heap t items) (hs:s.heap.IsSliceOf sl vl vu .none) (pl:IsPart vl lo) (pu:IsPart vu hi)
  (hw:¬ (sIx items.size 0 lo=0/\sIx items.size items.size hi=items.size))
  (h:Q (.ref s.heap.objs.size) {s with heap:=s.heap.push {cls:=.type "tuple",data:=.seq ((items.toList.drop (sIx items.size 0 lo)).take (sIx items.size items.size hi-sIx items.size 0 lo)).toArray}})
  (hsz:items.size<=sizeLine):wpAny (model prog w) A (getItem (.ref t) (.ref sl)) Q E s:=by
 have htake:sizeOk (.seq ((items.toList.drop (sIx items.size 0 lo)).take (sIx items.size items.size hi-sIx items.size 0 lo)).toArray):=by
  show ((items.toList.drop (sIx items.size 0 lo)).take (sIx items.size items.size hi-sIx items.size 0 lo)).toArray.size<=sizeLine;rw[List.size_toArray,List.length_take,List.length_drop,Array.length_toList];omega
 have hj:sIx items.size items.size hi<=items.size:=aZ2 _ _ (qi _) hi;obtain⟨os,hos,hcs,hds⟩:=id hs;have hTs:s.TypeIs (.ref sl) "slice":=⟨os,hos,hcs⟩;unfold getItem
 try with_reducible refine wpAny_holding ?_
 first | refine qb (qc ?_) | skip
 refine qb (wpAny_sequenceKey ht.typeIs (by decide) ?_)
 refine qb (wpAny_callSpecial?_slot (name:=Str.ofString "__getitem__") ht.typeIs PyProof.Rows.slot_tuple_getitem
  (wpAny_call_entry PyProof.Rows.slot_tuple_getitem ht.typeIs entry_tuple_getitem ?_ (args_tuple_getitem _ _)))
 show wpAny _ _ (Builtin.Tuple.tupleItemsOf (.ref t) >>= _) _ _ s;refine qb (tupleItemsOf_ ht ?_);refine qb (wpAny_typeOf hTs ?_);rw[if_pos (by decide)]
 refine qb (C_0 hs pl pu ?_)
 have hno:¬ ((((sIx items.size 0 lo:Nat):Int)==0&&(1:Int)==1&&(sIx items.size items.size hi-sIx items.size 0 lo)==items.size)=true):=by
  intro q;rw[Bool.and_eq_true,Bool.and_eq_true] at q;have q1:((sIx items.size 0 lo:Nat):Int)=0:=eq_of_beq q.1.1;have q2:sIx items.size items.size hi-sIx items.size 0 lo=items.size:=eq_of_beq q.2;exact hw ⟨by omega,by omega⟩
 show wpAny _ _ (if (((sIx items.size 0 lo:Nat):Int)==0&&(1:Int)==1&&(sIx items.size items.size hi-sIx items.size 0 lo)==items.size)=true then _ else _) _ _ s;rw[if_neg hno,az7]
 first
  |exact qb (m:=Builtin.Tuple.tupleExact _) (wpAny_newObj_type (qc ⟨_,rfl,qc h⟩) htake)
  |exact qb (m:=Builtin.Tuple.tupleExact _) (wpAny_newObj_type (qb (qc (qc ⟨_,rfl,qc h⟩))) htake)
  |exact qb (qb (m:=Builtin.Tuple.tupleExact _) (wpAny_newObj_type (qc (qc ⟨_,rfl,qc h⟩)) htake))
  |exact qb (qb (m:=Builtin.Tuple.tupleExact _) (wpAny_newObj_type (qc ⟨_,rfl,qc h⟩) htake))
end
end HT
namespace L2
open PySem PySem.Spec PyProof.Rows
abbrev TO:=St->Hp->(Option Int->Hp->Prop)->Prop
def PO (X:Cx) (e:Option Expr) (t:TO):Prop :=
 ∀ (pins:List (Addr×Obj)) (s:Shared) (σ:St) (H:Hp) (Q:Option Int->Hp->Prop),Inv X pins σ H s->t σ H Q ->
  wpAny (model X.prog X.w) X.A (evalPart e X.env) (λ u s'=>∃ o H',Inv X pins σ H' s'/\IsPart u o/\Q o H') X.xe s
def aJ2:TO:=λ _ H Q=>Q none H
def bn4 (t:TE):TO:=λ σ H Q=>t σ H λ x H1=>∃ i,x=.int i/\Q (some i) H1
theorem intsAre_of {ns:List Int}:∀ {us:List Value},Vals (ns.map V.int) us->IntsAre us ns:=by
 induction ns with
 |nil=>intro us r;rw[List.map_nil] at r;cases r;exact .nil
 |cons n ns ih =>
  intro us r;rw[List.map_cons] at r;cases r with
  |cons r1 r2 =>
   obtain⟨t,e⟩:=r1;subst e;exact .cons n t (ih r2)
section
variable {X:Cx}{e:Expr}{te:TE}{lo hi:Option Expr}{tl th:TO}{pos p2:Pos}
theorem aM0:PO X none aJ2:=by
 intro pins s σ H Q I h;rw[evalPart_none];exact qc ⟨none,H,I,.none,h⟩
theorem aL9 (h:PE X e te):PO X (some e) (bn4 te):=by
 intro pins s σ H Q I hw;rw[evalPart_some];refine thn (h pins s σ H _ I hw) λ u s1 hh0_=>?_
 obtain⟨x,H1,I1,r1,q1⟩:=hh0_;obtain⟨i,rfl,q⟩:=q1;obtain⟨t,rfl⟩:=r1;exact⟨some i,H1,I1,.int i t,q⟩
def SlR (X:Cx) (r:V->Option Int->Option Int->Hp->VK->Prop):Prop :=
 ∀ (pins:List (Addr×Obj)) (s:Shared) (σ:St) (H:Hp) (x:V) (v vl vu:Value) (lo hi:Option Int) (sl:Addr) (Q:VK),Inv X pins σ H s->RelV x v->s.heap.IsSliceOf sl vl vu .none->IsPart vl lo->IsPart vu hi->r x lo hi H Q ->
  ∃ T id,typeLookup (.type T) "__getitem__"=pure (some (.builtin id)) ∧ s.TypeIs v T ∧ wpAny (model X.prog X.w) X.A (getItem v (.ref sl)) (EP X pins σ Q) X.xe s
theorem SlR.or {r r':V->Option Int->Option Int->Hp->VK->Prop} (h:SlR X r) (h':SlR X r'):SlR X (λ x lo hi H Q=>r x lo hi H Q\/r' x lo hi H Q):=by
 intro pins s σ H x v vl vu lo hi sl Q I rx hs pl pu q
 rcases q with q | q
 ·exact h pins s σ H x v vl vu lo hi sl Q I rx hs pl pu q
 ·exact h' pins s σ H x v vl vu lo hi sl Q I rx hs pl pu q
def tSl (r:V->Option Int->Option Int->Hp->VK->Prop) (te:TE) (tl th:TO):TE:=λ σ H Q=>te σ H λ x H1=>tl σ H1 λ l H2=>th σ H2 λ u H3=>r x l u H3 Q
theorem aA0 {r:V->Option Int->Option Int->Hp->VK->Prop} (hr:SlR X r) (he:PE X e te) (hl:PO X lo tl) (hu:PO X hi th):PE X (.Subscript e (.Slice lo hi none p2) pos) (tSl r te tl th):=by
 intro pins s σ H Q I h;refine Subscript_ (thn (he pins s σ H _ I h) λ v s1 hh0_=>?_)
 obtain⟨x,H1,I1,r1,q1⟩:=hh0_;refine wpAny_Slice (thn (hl pins s1 σ H1 _ I1 q1) λ vl s2 ⟨l,H2,I2,pl,q2⟩=>thn (hu pins s2 σ H2 _ I2 q2) λ vu s3 hh0_=>?_)
 obtain⟨u,H3,I3,pu,q3⟩:=hh0_;rw[evalPart_none];refine qc ?_;have I4:Inv X pins σ H3 {s3 with heap:=s3.heap.push {cls:=.type "slice",data:=.fields #[vl,vu,.none]}}:=I3.kept (t':=s3.toks) λ b ob q=>qd _ q
 obtain⟨T,id,hT,ht,hg⟩:=hr pins {s3 with heap:=s3.heap.push {cls:=.type "slice",data:=.fields #[vl,vu,.none]}} σ H3 x v vl vu l u s3.heap.objs.size Q I4 r1 (Heap.IsSliceOf.new ..) pl pu q3
 show wpAny (model X.prog X.w) X.A (subscriptTail e (.Slice lo hi none p2) v (.ref s3.heap.objs.size)) (EP X pins σ Q) X.xe {s3 with heap:=s3.heap.push {cls:=.type "slice",data:=.fields #[vl,vu,.none]}}
 exact tail_any (ops:=[.ref s3.heap.objs.size,v]) ht hT hg (by with_unfolding_all rfl)
def aw9 (xs:List V) (lo hi:Option Int):List V:=(xs.drop (HT.sIx xs.length 0 lo)).take (HT.sIx xs.length xs.length hi-HT.sIx xs.length 0 lo)
theorem F_5 (xs:List V) (lo hi:Option Int):(aw9 xs lo hi).length<=xs.length:=by
 unfold aw9;rw[List.length_take,List.length_drop];omega
def bK0 (K:Frag):V->Option Int->Option Int->Hp->VK->Prop:=λ x lo hi H Q=>∃ a xs,x=.ref a/\SqT K H a xs /\
 ¬ (HT.sIx xs.length 0 lo=0/\HT.sIx xs.length xs.length hi=xs.length)/\∀ p,H p=none->Q (.ref p) (upd H p (.tup (aw9 xs lo hi)))
theorem aY5:SlR X (bK0 X.K):=by
 intro pins s σ H x v vl vu lo hi sl Q I rx hs pl pu h;obtain⟨a,xs,rfl,hx,hw,q⟩:=h;cases rx;obtain⟨its,r,ht,hz⟩:=I.tuple hx;have hlen:its.toArray.size=xs.length:=by rw[List.size_toArray];exact r.length.symm
 refine⟨"tuple",_,PyProof.Rows.slot_tuple_getitem.lookup,ht.typeIs,?_⟩;refine HT.getItem_tuple_cut ht hs pl pu (by rw[hlen];exact hw) ?_ (by rw[hlen];exact hz)
 rw[hlen];refine⟨.ref s.heap.objs.size,_,I.laid (t':=s.toks) (o:=.tup (aw9 xs lo hi)) (λ b ob q=>qd _ q) (qi _) ?_,rfl,q _ (I.hok.fresh (qi _))⟩
 exact⟨Nat.le_trans (F_5 xs lo hi) hz,_,(r.drop (HT.sIx xs.length 0 lo)).take (HT.sIx xs.length xs.length hi-HT.sIx xs.length 0 lo),IsTuN.new _ _⟩
end
def ixN (n:Nat) (i:Int):Option Nat:=if 0<=i then (if i<n then some i.toNat else none) else if -(n:Int)<=i then some (i+n).toNat else none
def atI {α:Type} (xs:List α) (i:Int):Option α:=(ixN xs.length i).bind λ j=>xs[j]?
theorem aO6 {n:Nat}{i:Int}{j:Nat} (h:ixN n i=some j):seqIndex? i n=some j/\j<n/\-(n:Int)<=i/\i<n:=by
 unfold ixN at h
 by_cases h0:0<=i
 ·rw[if_pos h0] at h
  by_cases h1:i<n
  ·rw[if_pos h1] at h
   have e:i.toNat=j:=qh h;exact⟨by rw[seqIndex_of h0 h1,e],by omega,by omega,h1⟩
  ·rw[if_neg h1] at h;cases h
 ·rw[if_neg h0] at h
  by_cases h1:-(n:Int)<=i
  ·rw[if_pos h1] at h
   have e:(i+n).toNat=j:=qh h;exact⟨by rw[seqIndex_neg (by omega) h1,e],by omega,h1,by omega⟩
  ·rw[if_neg h1] at h;cases h
theorem aa7 {α:Type}{xs:List α}{i:Int}{v:α} (h:atI xs i=some v):∃ j,seqIndex? i xs.length=some j/\xs[j]?=some v/\j<xs.length/\-(xs.length:Int)<=i/\i<xs.length:=by
 unfold atI at h;cases e:ixN xs.length i with
 |none=>rw[e] at h;cases h
 |some j =>
  rw[e] at h;obtain⟨h1,h2,h3,h4⟩:=aO6 e;exact⟨j,h1,h,h2,h3,h4⟩
def aa8 (b:Expr):Prop:=∀ o i,subscripted b false o i=operate [o,i] (getItem o i)
def IxR (X:Cx) (r:R2):Prop :=
 ∀ (value slice:Expr) (pins:List (Addr×Obj)) (s:Shared) (σ:St) (H:Hp) (x y:V) (v u:Value) (Q:VK),Inv X pins σ H s->RelV x v->RelV y u->r x y H Q ->
  subscripted slice false v u=operate [v,u] (getItem v u)->wpAny (model X.prog X.w) X.A (subscriptTail value slice v u) (EP X pins σ Q) X.xe s
def MtR (X:Cx) (id:String) (r:V->List V->Hp->VK->Prop):Prop :=
 ∀ (pins:List (Addr×Obj)) (s:Shared) (σ:St) (H:Hp) (x:V) (xs:List V) (v:Value) (us:List Value) (Q:VK),Inv X pins σ H s->RelV x v->Vals xs us->r x xs H Q ->
  wpAny (model X.prog X.w) X.A (call (.builtin id) (v::us)) (EP X pins σ Q) X.xe s
section
variable {X:Cx}{a b:Expr}{ta tb:TE}{pos:Pos}
theorem IxR.or {r r':R2} (h:IxR X r) (h':IxR X r'):IxR X (λ x y H Q=>r x y H Q\/r' x y H Q):=by
 intro value slice pins s σ H x y v u Q I rx ry q hs
 rcases q with q | q
 ·exact h value slice pins s σ H x y v u Q I rx ry q hs
 ·exact h' value slice pins s σ H x y v u Q I rx ry q hs
theorem MtR.or {id:String}{r r':V->List V->Hp->VK->Prop} (h:MtR X id r) (h':MtR X id r'):MtR X id (λ x xs H Q=>r x xs H Q\/r' x xs H Q):=by
 intro pins s σ H x xs v us Q I rx rs q
 rcases q with q | q
 ·exact h pins s σ H x xs v us Q I rx rs q
 ·exact h' pins s σ H x xs v us Q I rx rs q
theorem br9 {r:R2} (hr:IxR X r) (ha:PE X a ta) (hb:PE X b tb) (hs:aa8 b):PE X (.Subscript a b pos) (tOp r ta tb):=by
 intro pins s σ H Q I h;exact Subscript_ (by3 ha hb I h λ v u s2 x y H2 I2 rx ry q=>hr a b pins s2 σ H2 x y v u Q I2 rx ry q (hs _ _))
def bB2 (K:Frag):R2:=λ x y H Q=>∃ p xs i v,x=.ref p/\y=.int i/\SqL K H p xs/\atI xs i=some v/\Q v H
def bB0 (K:Frag):R2:=λ x y H Q=>∃ p xs i v,x=.ref p/\y=.int i/\SqT K H p xs/\atI xs i=some v/\Q v H
def bB1:R2:=λ x y H Q=>∃ z i c,x=.str z/\y=.int i/\z.length<=sizeLine/\atI z.cps.toList i=some c/\Q (.str ⟨#[c]⟩) H
theorem ix_list:IxR X (bB2 X.K):=by
 intro value slice pins s σ H x y v u Q I rx ry h hs;obtain⟨p,xs,i,z,rfl,rfl,hq,he,q⟩:=h;cases rx;obtain⟨t,rfl⟩:=ry;obtain⟨its,r,pl,hz⟩:=I.list hq;obtain⟨j,h1,h2,h3,h4,h5⟩:=aa7 he;obtain⟨w,ew,rw'⟩:=r.get h2;have hl:=r.length;have hn:=J_3;have fin:EP X pins σ Q w s:=⟨z,H,I,rw',q⟩
 by_cases h0:0<=i
 ·have hj:i.toNat=j:=by
   rw[seqIndex_of h0 h5] at h1;exact qh h1
  exact item_listR pl.isList h0 (by omega) (by rw[hj];simpa using ew) fin hs
 ·have hj:(i+(its.toArray.size:Int)).toNat=j:=by
   rw[seqIndex_neg (by omega) h4] at h1
   rw[List.size_toArray,<- hl];exact qh h1
  exact subscriptTail_builtinR (x:=w) pl.isList.typeIs slot_list_getitem.lookup
   (wpAny_getItem_list_neg (Q:=λ r s'=>r=w/\EP X pins σ Q r s') pl.isList (by omega) (by rw[List.size_toArray] <;> omega) (by omega) (by rw[hj];simpa using ew) ⟨rfl,fin⟩) hs
theorem ix_tup:IxR X (bB0 X.K):=by
 intro value slice pins s σ H x y v u Q I rx ry h hs;obtain⟨p,xs,i,z,rfl,rfl,hq,he,q⟩:=h;cases rx;obtain⟨t,rfl⟩:=ry;obtain⟨its,r,pl,hz⟩:=I.tuple hq;obtain⟨j,h1,h2,h3,h4,h5⟩:=aa7 he;obtain⟨w,ew,rw'⟩:=r.get h2;have hl:=r.length;have hn:=J_3;have fin:EP X pins σ Q w s:=⟨z,H,I,rw',q⟩;exact subscriptTail_builtinR (x:=w) pl.typeIs slot_tuple_getitem.lookup
  (getItem_tuple (j:=j) (Q:=λ r s'=>r=w/\EP X pins σ Q r s') pl (by omega) (by omega) (by rw[List.size_toArray,<- hl];exact h1) (by simpa using ew) ⟨rfl,fin⟩) hs
theorem be5:IxR X bB1:=by
 intro value slice pins s σ H x y v u Q I rx ry h hs;obtain⟨z,i,c,rfl,rfl,hz,he,q⟩:=h;obtain⟨t,rfl⟩:=rx;obtain⟨t',rfl⟩:=ry;obtain⟨j,h1,h2,h3,h4,h5⟩:=aa7 he;have hl:z.cps.toList.length=z.length:=by simp[Str.length]
 rw[hl] at h1 h4 h5;have hn:=J_3
 exact tail_any (typeIs_str s z t) slot_str_getitem.lookup (getItem_str (c:=c) (by
  have e1:decide (i < -(2 ^ 63:Int))=false:=decide_eq_false (by omega)
  have e2:decide (i>=2 ^ 63)=false:=decide_eq_false (by omega)
  rw[e1,e2,Bool.or_false]) (by rw[h1];simpa using h2) ⟨.str ⟨#[c]⟩,H,I.tok _,⟨_,rfl⟩,q⟩) hs
def rIx (K:Frag):R2:=λ x y H Q=>bB2 K x y H Q\/bB0 K x y H Q\/bB1 x y H Q
theorem be6:IxR X (rIx X.K):=ix_list.or (ix_tup.or be5)
theorem Inv.lst {pins:List (Addr×Obj)}{σ:St}{H:Hp}{s:Shared}{p:Addr}{xs:List V} (I:Inv X pins σ H s) (h:H p=some (.lst xs)) :
  ∃ (its:List Value) (n:Nat),Vals xs its ∧ s.heap.get? p=some {cls:=.type "list",data:=.seq its.toArray n} ∧ xs.length ≤ sizeLine:=by
 obtain⟨z,its,n,r,e⟩:=I.hok p _ h;exact⟨its,n,r,e,z⟩
theorem Q_0 (lo hi:Option Int) (n:Nat):(sliceBounds lo hi none n).1=((HT.sIx n 0 lo:Nat):Int)/\(sliceBounds lo hi none n).2.1=((HT.sIx n n hi:Nat):Int)/\(sliceBounds lo hi none n).2.2=1:=by
 refine⟨?_,?_,rfl⟩
 ·cases lo with
  |none=>simp[sliceBounds,HT.sIx]
  |some i =>
   simp only[sliceBounds,HT.sIx,Option.getD_none,show (1:Int) > 0 by decide,if_true]
   by_cases h:i<0
   ·simp only[h,if_true] <;> omega
   ·simp only[h,if_false] <;> omega
 ·cases hi with
  |none=>simp[sliceBounds,HT.sIx]
  |some i =>
   simp only[sliceBounds,HT.sIx,Option.getD_none,show (1:Int) > 0 by decide,if_true]
   by_cases h:i<0
   ·simp only[h,if_true] <;> omega
   ·simp only[h,if_false] <;> omega
theorem L_3 (its:List Value) (lo hi:Option Int):slicePick its.toArray lo hi none=((its.drop (HT.sIx its.length 0 lo)).take (HT.sIx its.length its.length hi-HT.sIx its.length 0 lo)).toArray:=by
 obtain⟨h1,h2,h3⟩:=Q_0 lo hi its.toArray.size;unfold slicePick;rw[h1,h2,h3];simp only[sliceRange_one,pick_run,List.size_toArray] <;> rfl
def bK2 (K:Frag):V->Option Int->Option Int->Hp->VK->Prop:=λ x lo hi H Q=>∃ a xs,x=.ref a/\SqL K H a xs/\∀ p,H p=none->Q (.ref p) (upd H p (.lst (aw9 xs lo hi)))
theorem sl_list:SlR X (bK2 X.K):=by
 intro pins s σ H x v vl vu lo hi sl Q I rx hs pl pu h;obtain⟨a,xs,rfl,hx,q⟩:=h;cases rx;obtain⟨its,r,ht,hz⟩:=I.list hx;have hlen:=r.length;refine⟨"list",_,slot_list_getitem.lookup,ht.isList.typeIs,?_⟩;refine wpAny_getItem_list_slice ht.isList hs pl pu .none (by simp) ?_ (by rw[List.size_toArray] <;> omega)
 rw[L_3,<- hlen];refine⟨.ref s.heap.objs.size,_,I.laid (t':=s.toks) (o:=.lst (aw9 xs lo hi)) (λ b ob q=>qd _ q) (qi _) ?_,rfl,q _ (I.hok.fresh (qi _))⟩
 exact⟨Nat.le_trans (F_5 xs lo hi) hz,_,0,(r.drop (HT.sIx xs.length 0 lo)).take (HT.sIx xs.length xs.length hi-HT.sIx xs.length 0 lo),qj _ rfl⟩
def I_0:V->Bool
 |.non=>true
 |.bl _=>true
 |.int _=>true
 |.str _=>true
 |_=>false
def eqV:V->V->Bool
 |.non,.non=>true
 |.bl a,.bl b=>a==b
 |.bl a,.int b=>(if a then 1 else 0)==b
 |.int a,.bl b=>a==(if b then 1 else 0)
 |.int a,.int b=>a==b
 |.str a,.str b=>a==b
 |_,_=>false
theorem bh0 {A:Around}{s:Shared}{y x:V}{u v:Value} (ry:RelV y u) (rx:RelV x v) (fy:I_0 y=true) (fx:I_0 x=true):SeqAt.EqAt A s u v (eqV y x):=by
 cases y with
 |non =>
  cases ry;cases x with
  |non=>cases rx;exact SeqAt.EqAt.same _
  |bl b=>cases rx;exact SeqAt.EqAt.none_bool b
  |int b=>obtain⟨t,rfl⟩:=rx;exact SeqAt.EqAt.none_int b t
  |str b=>obtain⟨t,rfl⟩:=rx;exact SeqAt.EqAt.none_str b t
  |_=>exact absurd (show false=true from fx) Bool.false_ne_true
 |bl a =>
  cases ry;cases x with
  |non=>cases rx;exact SeqAt.EqAt.bool_none a
  |bl b=>cases rx;exact SeqAt.EqAt.bool_bool a b
  |int b=>obtain⟨t,rfl⟩:=rx;exact SeqAt.EqAt.bool_int a b t
  |str b=>obtain⟨t,rfl⟩:=rx;exact SeqAt.EqAt.bool_str a b t
  |_=>exact absurd (show false=true from fx) Bool.false_ne_true
 |int a =>
  obtain⟨t',rfl⟩:=ry;cases x with
  |non=>cases rx;exact SeqAt.EqAt.int_none a t'
  |bl b=>cases rx;exact SeqAt.EqAt.int_bool a t' b
  |int b=>obtain⟨t,rfl⟩:=rx;exact SeqAt.EqAt.int_int a t' b t
  |str b=>obtain⟨t,rfl⟩:=rx;exact SeqAt.EqAt.int_str a t' b t
  |_=>exact absurd (show false=true from fx) Bool.false_ne_true
 |str a =>
  obtain⟨t',rfl⟩:=ry;cases x with
  |non=>cases rx;exact SeqAt.EqAt.str_none a t'
  |bl b=>cases rx;exact SeqAt.EqAt.str_bool a t' b
  |int b=>obtain⟨t,rfl⟩:=rx;exact SeqAt.EqAt.str_int a t' b t
  |str b=>obtain⟨t,rfl⟩:=rx;exact SeqAt.EqAt.str_str a t' b t
  |_=>exact absurd (show false=true from fx) Bool.false_ne_true
 |_=>exact absurd (show false=true from fy) Bool.false_ne_true
def eqU (x:V) (u:Value):Bool:=match u with
 |.none=>eqV .non x
 |.bool b=>eqV (.bl b) x
 |.int i _=>eqV (.int i) x
 |.str z _=>eqV (.str z) x
 |_=>false
theorem aH5 {x y:V}{u:Value} (r:RelV y u) (f:I_0 y=true):eqU x u=eqV y x:=by
 cases y with
 |non=>cases r;rfl
 |bl b=>cases r;rfl
 |int i=>obtain⟨t,rfl⟩:=r;rfl
 |str z=>obtain⟨t,rfl⟩:=r;rfl
 |_=>exact absurd (show false=true from f) Bool.false_ne_true
theorem G_2 {x:V}:∀ {xs:List V}{us:List Value},Vals xs us->xs.all I_0=true->us.any (eqU x)=xs.any λ y=>eqV y x
 |_,_,.nil,_=>rfl
 |y::xs,u::us,.cons r t,f=>by
  rw[List.all_cons,Bool.and_eq_true] at f;rw[List.any_cons,List.any_cons,aH5 r f.1,G_2 t f.2]
theorem y_0 {A:Around}{s:Shared}{x:V}{v:Value} (rx:RelV x v) (fx:I_0 x=true):∀ {xs:List V}{us:List Value},Vals xs us->xs.all I_0=true->∀ u∈us,SeqAt.EqAt A s u v (eqU x u)
 |_,_,.nil,_=>λ u hu=>by cases hu
 |y::xs,u::us,.cons r t,f=>λ u' hu=>by
  rw[List.all_cons,Bool.and_eq_true] at f
  rcases qp hu with rfl | hu
  ·rw[aH5 r f.1];exact bh0 r rx f.1 fx
  ·exact y_0 rx fx t f.2 u' hu
def inV (x:V) (xs:List V):Bool:=xs.any λ y=>eqV y x
def rIn (K:Frag) (neg:Bool):R2:=λ x y H Q=>∃ p xs,y=.ref p/\(SqL K H p xs\/SqT K H p xs)/\I_0 x=true/\xs.all I_0=true/\Q (.bl (if neg then !inV x xs else inV x xs)) H
theorem am9:OpR X (compareOp .In) (rIn X.K false):=by
 intro pins s σ H x y v u Q I rx ry h;obtain⟨p,xs,rfl,hq,fx,fs,q⟩:=h;cases ry
 rcases hq with hq | hq
 ·obtain⟨its,r,pl,hz⟩:=I.list hq
  refine SeqAt.in_listAt (eqU x) pl.isList (λ w hw=>y_0 rx fx r fs w (by simpa using hw)) ⟨.bl _,H,I,rfl,?_⟩
  rw[show its.toArray.any (eqU x)=its.any (eqU x) by simp,G_2 r fs]
  exact q
 ·obtain⟨its,r,pl,hz⟩:=I.tuple hq
  refine SeqAt.in_tupleAt (eqU x) pl (λ w hw=>y_0 rx fx r fs w (by simpa using hw)) ⟨.bl _,H,I,rfl,?_⟩
  rw[show its.toArray.any (eqU x)=its.any (eqU x) by simp,G_2 r fs]
  exact q
theorem B_0:OpR X (compareOp .NotIn) (rIn X.K true):=by
 intro pins s σ H x y v u Q I rx ry h;obtain⟨p,xs,rfl,hq,fx,fs,q⟩:=h;cases ry
 rcases hq with hq | hq
 ·obtain⟨its,r,pl,hz⟩:=I.list hq
  refine SeqAt.notIn_listAt (eqU x) pl.isList (λ w hw=>y_0 rx fx r fs w (by simpa using hw)) ⟨.bl _,H,I,rfl,?_⟩
  rw[show its.toArray.any (eqU x)=its.any (eqU x) by simp,G_2 r fs]
  exact q
 ·obtain⟨its,r,pl,hz⟩:=I.tuple hq
  refine SeqAt.notIn_tupleAt (eqU x) pl (λ w hw=>y_0 rx fx r fs w (by simpa using hw)) ⟨.bl _,H,I,rfl,?_⟩
  rw[show its.toArray.any (eqU x)=its.any (eqU x) by simp,G_2 r fs]
  exact q
theorem R_4:OpR X (compareOp .NotIn) (λ x y H Q=>∃ i j,x=.str i/\y=.str j/\Q (.bl (!(!(Builtin.Str.occurrences j i 0 j.length 1).isEmpty))) H):=by
 intro pins s σ H x y v u Q I rx ry h;obtain⟨i,j,rfl,rfl,q⟩:=h;obtain⟨t,rfl⟩:=rx;obtain⟨t',rfl⟩:=ry;exact notIn_str ⟨.bl _,H,I,rfl,q⟩
theorem call_len_seq:CallR X (.builtin "len") (λ xs H Q=>∃ p ys,xs=[.ref p] ∧ (SqL X.K H p ys ∨ SqT X.K H p ys) ∧ Q (.int ys.length) H):=by
 intro pins s σ H xs us Q I r h;obtain⟨p,ys,rfl,hq,q⟩:=h;obtain⟨u,rfl,rx⟩:=z_4 r;cases rx;have hn:=J_3
 rcases hq with hq | hq
 ·obtain⟨its,r',pl,hz⟩:=I.list hq
  have hlen:=r'.length;exact Calls.call_len_list pl.isList (by simp only[List.size_toArray] <;> omega) ⟨.int ys.length,H,I.tok _,⟨s.toks+1,by rw[List.size_toArray,hlen]⟩,q⟩
 ·obtain⟨its,r',pl,hz⟩:=I.tuple hq
  have hlen:=r'.length;exact len_tuple pl (by simp only[List.size_toArray] <;> omega) ⟨.int ys.length,H,I.tok _,⟨s.toks+1,by rw[List.size_toArray,hlen]⟩,q⟩
theorem U_1:CallR X (.builtin "len") (λ xs H Q=>∃ z,xs=[.str z] ∧ z.length ≤ sizeLine ∧ Q (.int z.length) H):=by
 intro pins s σ H xs us Q I r h;obtain⟨z,rfl,hz,q⟩:=h;obtain⟨u,rfl,t,rfl⟩:=z_4 r;have hn:=J_3;exact len_str (by omega) ⟨.int z.length,H,I.tok _,⟨_,rfl⟩,q⟩
theorem CallR.or {f:Value}{r r':List V->Hp->VK->Prop} (h:CallR X f r) (h':CallR X f r'):CallR X f (λ xs H Q=>r xs H Q\/r' xs H Q):=by
 intro pins s σ H xs us Q I rs q
 rcases q with q | q
 ·exact h pins s σ H xs us Q I rs q
 ·exact h' pins s σ H xs us Q I rs q
theorem U_0:CallR X (.type "list") (λ xs H Q=>∃ p ys,xs=[.ref p] ∧ (SqL X.K H p ys ∨ SqT X.K H p ys) ∧ ∀ l,H l=none → Q (.ref l) (upd H l (.lst ys))):=by
 intro pins s σ H xs us Q I r h;obtain⟨p,ys,rfl,hq,q⟩:=h;obtain⟨u,rfl,rx⟩:=z_4 r;cases rx;have fin:∀ (its:List Value),Vals ys its->ys.length<=sizeLine->∀ (h':Heap) (c':Nat),(∀ b o',s.heap.get? b=some o'->h'.get? b=some o') ->
   h'.get? s.heap.objs.size=some {cls:=.type "list",dict:=none,data:=.seq its.toArray c',slots:=#[]} → EP X pins σ Q (.ref s.heap.objs.size) {s with heap:=h'}:=λ its r' hz h' c' kp e =>
  ⟨.ref s.heap.objs.size,_,I.laid (t':=s.toks) kp (qi _) (show ObjOk X.prog X.w _ h' _ (.lst ys) from ⟨hz,its,c',r',e⟩),rfl,q _ (I.hok.fresh (qi _))⟩
 rcases hq with hq | hq
 ·obtain⟨its,r',pl,hz⟩:=I.list hq
  have hlen:=r'.length;obtain⟨o,ho,hc,n,hd⟩:=pl.isList;exact call_list_seq p (.inl rfl) ho hc hd (λ h' c' kp e=>fin its r' hz h' c' kp e) (by simp only[List.size_toArray] <;> omega)
 ·obtain⟨its,r',pl,hz⟩:=I.tuple hq
  have hlen:=r'.length;obtain⟨o,ho,hc,n,hd⟩:=pl;exact call_list_seq p (.inr rfl) ho hc hd (λ h' c' kp e=>fin its r' hz h' c' kp e) (by simp only[List.size_toArray] <;> omega)
theorem O_1:CallR X (.type "tuple") (λ xs H Q=>∃ p ys,xs=[.ref p] ∧ ((SqL X.K H p ys ∧ ∀ l,H l=none → Q (.ref l) (upd H l (.tup ys))) ∨ (SqT X.K H p ys ∧ Q (.ref p) H))):=by
 intro pins s σ H xs us Q I r h;obtain⟨p,ys,rfl,h⟩:=h;obtain⟨u,rfl,rx⟩:=z_4 r;cases rx
 rcases h with ⟨hq,q⟩ | ⟨hq,q⟩
 ·obtain⟨its,r',pl,hz⟩:=I.list hq
  have hlen:=r'.length;refine call_tuple_list pl.isList (λ h' kp=>?_) (by simp only[List.size_toArray] <;> omega)
  have I1:Inv X pins σ H {s with heap:=h'}:=I.kept (t':=s.toks) kp
  have I2:Inv X pins σ (upd H h'.objs.size (.tup ys)) {s with heap:=h'.push {cls:=.type "tuple",data:=.seq its.toArray}} :=
   I1.laid (t':=s.toks) (λ b o e=>qd _ e) (qi _) (show ObjOk X.prog X.w _ _ _ (.tup ys) from ⟨hz,its,r',IsTuN.new _ _⟩)
  exact⟨.ref h'.objs.size,_,I2,rfl,q _ (I1.hok.fresh (qi _))⟩
 ·obtain⟨its,r',pl,hz⟩:=I.tuple hq
  exact call_tuple_same pl ⟨.ref p,H,I,rfl,q⟩
def tyV (K:Frag) (T:String) (x:V) (H:Hp):Prop:=match x with
 |.str _=>T="str"
 |.int _=>T="int"
 |.ref p=>(T="list" ∧ ∃ xs,SqL K H p xs) ∨ (T="tuple" ∧ ∃ o,K.lookup p=some o ∧ o.cls=.type "tuple" ∧ o.dict=none) ∨
   (T="dict" ∧ ((∃ kvs,H p=some (.dK kvs)) ∨ ∃ kvs,H p=some (.dT kvs))) ∨ (T="set" ∧ ∃ S n,H p=some (.set S n))
 |_=>False
theorem aX5 {pins:List (Addr×Obj)}{σ:St}{H:Hp}{s:Shared}{T:String}{x:V}{v:Value} (I:Inv X pins σ H s) (r:RelV x v) (ty:tyV X.K T x H) :
  s.TypeIs v T/\∀ a,v=.ref a->∃ ob,s.heap.get? a=some ob/\ob.dict=none:=by
 cases x with
 |str z =>
  obtain⟨t,rfl⟩:=r;cases (show T="str" from ty);exact⟨typeIs_str s z t,λ _ e=>nomatch e⟩
 |int i =>
  obtain⟨t,rfl⟩:=r;cases (show T="int" from ty);exact⟨typeIs_int s i t,λ _ e=>nomatch e⟩
 |ref p =>
  cases r
  rcases ty with ⟨rfl,xs,hq⟩ | ⟨rfl,o,hk,hc,hd⟩ | ⟨rfl,hk⟩ | ⟨rfl,S,n,hk⟩
  ·obtain⟨its,_,pl,_⟩:=I.list hq
   refine⟨pl.isList.typeIs,λ a e=>?_⟩
   cases e;obtain⟨o,n,e,c,hd,_⟩:=pl;exact⟨o,e,hd⟩
  ·refine⟨⟨o,I.kIn p o hk,hc⟩,λ a e=>?_⟩
   cases e;exact⟨o,I.kIn _ o hk,hd⟩
  ·have z:∃ o,s.heap.get? p=some o/\o.ExactDict:=by
    rcases hk with ⟨kvs,hk⟩ | ⟨kvs,hk⟩
    ·obtain⟨_,_,_,_,o,_,_,e,ex,_⟩:=I.hok p _ hk
     exact⟨o,e,ex⟩
    ·obtain⟨_,_,_,_,o,_,_,e,ex,_⟩:=I.hok p _ hk
     exact⟨o,e,ex⟩
   obtain⟨o,e,ex⟩:=z;refine⟨⟨o,e,ex.1⟩,λ a e2=>?_⟩
   cases e2;exact⟨o,e,ex.2.1⟩
  ·obtain⟨o,_,_,_,e,ex,_⟩:=I.hok p _ hk
   refine⟨⟨o,e,ex.1⟩,λ a e2=>?_⟩
   cases e2;exact⟨o,e,ex.2.1⟩
 |_=>exact False.elim ty
def tBM (K:Frag) (T:String) (r:V->List V->Hp->VK->Prop) (to:TE) (t:TA):TE:=λ σ H Q=>to σ H λ x H1=>tyV K T x H1/\t σ H1 λ xs H2=>r x xs H2 Q
variable {o e:Expr}{es:List Expr}{to:TE}{t:TA}{name:Str}{apos cpos:Pos}{T id:String}{r:V->List V->Hp->VK->Prop}
theorem bs0 (pa:PlainAttrs T) (slot:Slot T name id) (hty:typeOf (.builtin id)=pure (.type "method_descriptor")) (hm:MtR X id r) (ho:PE X o to) (ha:PA X (e::es) t)
  (hbase:attributeBase o name X.env (eval o X.env)=eval o X.env:=by rfl)
  (hfew:((backTo cpos (starEach (e::es) X.env)).all (λ x=>!x.1)&&(backToKw cpos (keywordEach [] X.env)).all (λ x=>x.1.isSome)
   && decide ((e::es).length+([]:List Keyword).length+(if ([]:List Keyword).isEmpty then 0 else 1)<30))=true:=by rfl)
  (hline:(apos.endLine==cpos.line)=true:=by rfl) (hs:starEach (e::es) X.env=(false,eval e X.env)::starEach es X.env:=by rfl) (hplain:(backTo cpos (starEach es X.env)).any (·.1)=false:=by rfl) :
  PE X (.Call (.Attribute o name apos) (e::es) [] cpos) (tBM X.K T r to t):=by
 intro pins s σ H Q I h;refine wpAny_Call_method_late hbase hfew hline rfl (thn (ho pins s σ H _ I h) λ v s1 hh0_=>?_)
 obtain⟨x,H1,I1,r1,ty,q1⟩:=hh0_;obtain⟨h1,h2⟩:=aX5 I1 r1 ty;refine⟨T,id,pa,slot,hty,h1,h2,?_⟩;have hA:=ha cpos pins s1 σ H1 _ I1 q1;rw[hs] at hA ⊢;refine Calls.callWith_builtin (by show (false||(backTo cpos (starEach es X.env)).any (·.1))=false;rw[hplain] <;> rfl) (Calls.evalArgs_plain ?_)
 exact thn hA λ us s2 ⟨vs,H2,I2,r2,q2⟩=>hm pins s2 σ H2 x vs v us Q I2 r1 r2 q2
end
def MtM (X:Cx) (id:String) (r:V->List V->Hp->VK->Prop):Prop :=
 ∀ (pins:List (Addr×Obj)) (s:Shared) (σ:St) (H:Hp) (x:V) (xs:List V) (v:Value) (us:List Value) (Q:VK),Inv X pins σ H s->RelV x v->Vals xs us->r x xs H Q ->
  wpAny (model X.prog X.w) X.A (call (.builtin id) (v::us)) (EP X pins σ Q) X.xe s
theorem Vals.one:∀ {x:V}{us:List Value},Vals [x] us->∃ u,us=[u]/\RelV x u
 |_,_,.cons r .nil=>⟨_,rfl,r⟩
theorem Vals.two:∀ {x y:V}{us:List Value},Vals [x,y] us->∃ u v,us=[u,v]/\RelV x u/\RelV y v
 |_,_,_,.cons r (.cons q .nil)=>⟨_,_,rfl,r,q⟩
theorem Vals.zero:∀ {us:List Value},Vals [] us->us=[]
 |_,.nil=>rfl
theorem Vals.eraseIdx:∀ {xs:List V}{us:List Value} (i:Nat),Vals xs us->Vals (xs.eraseIdx i) (us.eraseIdx i)
 |_,_,_,.nil=>.nil
 |_,_,0,.cons _ t=>t
 |_,_,i+1,.cons r t=>.cons r (Vals.eraseIdx i t)
section
variable {X:Cx}{pins:List (Addr×Obj)}{σ:St}{H:Hp}{s:Shared}{l b:Addr}{xs ys zs:List V}
theorem Inv.lset {its its':List Value}{n:Nat}{f:Array Value->Array Value}{t':Nat} (I:Inv X pins σ H s) (hH:H l=some (.lst xs))
  (e:s.heap.get? l=some {cls:=.type "list",data:=.seq its.toArray n}) (hf:f its.toArray=its'.toArray) (hv:Vals ys its') (hz:ys.length ≤ sizeLine) :
  Inv X pins σ (upd H l (.lst ys)) {s with heap:=s.heap.update l (Obj.mapSeq f),toks:=t'}:=by
 have q:=PySem.IsL.update e f;rw[hf] at q;refine I.write (x:=l) (e:=l) (by rw[hH];exact trivial) (.inl rfl) (λ b' u hb hu=>(Heap.get?_update_other s.heap (Obj.mapSeq f) (Ne.symm hb)).trans hu) ⟨_,q⟩ ?_
 exact⟨hz,its',_,hv,q⟩
theorem Inv.lnew {its:List Value}{t':Nat} (I:Inv X pins σ H s) (hv:Vals ys its) (hz:ys.length<=sizeLine) :
  Inv X pins σ (upd H s.heap.objs.size (.lst ys)) {s with heap:=s.heap.push {cls:=.type "list",data:=.seq its.toArray},toks:=t'} :=
 I.laid (λ _ _ q=>qd _ q) (qi _) ⟨hz,its,0,hv,qj _ rfl⟩
theorem Inv.fresh (I:Inv X pins σ H s):H s.heap.objs.size=none:=I.hok.fresh (qi _)
theorem Inv.lstM (I:Inv X pins σ H s) (hH:H l=some (.lst xs)):xs.length ≤ sizeLine ∧ ∃ (its:List Value) (n:Nat),Vals xs its ∧ xs.length=its.length ∧ s.heap.get? l=some {cls:=.type "list",data:=.seq its.toArray n}:=by
 obtain⟨z,its,n,r,e⟩:=I.hok l _ hH;exact⟨z,its,n,r,r.length,e⟩
end
section
variable {X:Cx}
def aK8:V->List V->Hp->VK->Prop:=λ x vs H Q=>∃ l xs y,x=.ref l/\vs=[y]/\H l=some (.lst xs)/\xs.length<sizeLine/\Q .non (upd H l (.lst (xs++[y])))
theorem ao4:MtM X "list.append" aK8:=by
 intro pins s σ H x vs v us Q I rx rv h;obtain⟨l,xs,y,rfl,rfl,hH,hz,q⟩:=h;cases rx;obtain⟨u,rfl,ru⟩:=rv.one;obtain⟨z,its,n,r,hl,e⟩:=I.lstM hH;refine call_meets F.slot_list_append ⟨_,e,rfl⟩ F.entry_list_append (F.args_list_append_2 _ _) (PySem.list_append l its.toArray n u (by rw[List.size_toArray];omega)) ⟨e,?_⟩
 refine⟨.non,_,I.lset (its':=its++[u]) hH e (by simp) (r.append (.cons ru .nil)) ?_,rfl,q⟩
 rw[List.length_append,List.length_singleton];omega
end
end L2
namespace Att
open PySem PySem.W PySem.Calls PyProof.Rows
theorem F_1 {P:Params}{h:Heap}:∀ (ns:List Int) (vs:List Value),WellAll P h vs (ns.map WData.int)->IntsAre vs ns:=by
 intro ns
 induction ns with
 |nil =>
  intro vs w;rw[List.map_nil] at w;cases w;exact .nil
 |cons n ns ih =>
  intro vs w;rw[List.map_cons] at w;cases w with
  |cons a b =>
   cases a;exact .cons _ _ (ih _ b)
theorem al3 {l:OpenLaw}{n:Nat} (hn:l.most=some n) {P:Params}{h:Heap}{args:List WData}{vals:List Value}
  (hpre:l.row.toRowW.claim.pre args=true) (hwl:WellAll P h vals args) :
  ∃ a vs ns,vals=[Value.ref a] ∧ args=[WData.list (ns.map WData.int)] ∧ h.get? a=some {cls:=.type "list",data:=.seq vs.toArray} ∧ IntsAre vs ns ∧ ns.length ≤ n:=by
 have hsh:WShape.hasAll [] args [.list .int]=true:=(pre_splitW hpre).1;have hc:l.pre.holds [] {args:=args}=true:=(pre_splitW hpre).2;obtain⟨d,r,rfl,h1,h2⟩:=hasAllW_cons hsh;obtain rfl:=hasAllW_nil h2;obtain⟨xs,rfl,h3⟩:=hasW_list h1;obtain⟨ns,rfl⟩:=items_int h3
 have hlen:ns.length<=n:=by
  unfold OpenLaw.pre at hc
  have h4:(WTm.not (.lt (.lit (.int (n:Int))) (.len (.arg 0)))).holds [] {args:=[.list (ns.map .int)]}=true:=by
   have h4:=(holds_andW hc).1;rw[hn] at h4;exact h4
  have h5:=condW_of h4 (w_not (w_lt w_lit (w_len_list (w_arg rfl))));rw[List.length_map] at h5;refine Nat.le_of_not_lt λ q=>?_
  have q':(n:Int)<((ns.length:Nat):Int):=by omega
  first
   |(rw[decide_eq_true q'] at h5;exact absurd h5 (by decide))
   |(simp at h5;omega)
 cases hwl with
 |cons w1 w2 =>
  cases w2;cases w1 with
  |list ho hall=>exact⟨_,_,ns,rfl,rfl,ho,F_1 ns _ hall,hlen⟩
theorem am1 (l:OpenLaw) (args:List WData):l.row.toRowW.claim.post args (.bool true) args=true :=
 postW_of (r:=l.row.toRowW) (X:=(true==true))
  (show WShape.has [] (.bool true) .bool=true by first | rfl | decide | simp[WShape.has,WShape.arms,WShape.armsAll])
  (show (WTm.eq .res (.lit (.bool true))).value [] {args:=args,res:=some (.bool true),after:=args}=some (.bool (true==true)) from w_eq_bool (w_res rfl) w_lit) rfl
theorem attach_call {l:OpenLaw}{n:Nat}{q:Program}{loose:List Str}{XP:(Str->Option Value)->Heap->Prop}{YP:World->Heap->Prop}{d:DefRec}
  (hn:l.most=some n) (hdf:d.params.defaults=[])
  (call:∀ (w:World) (s₀ s₁:Shared) (mg mb:Str->Option Value) (fa:Addr) (o:Obj) (pm cd doc:Value) (a:Addr) (vs:List Value) (ns:List Int),
   Ground q loose [] XP w s₀ mg mb s₁.heap->YP w s₁.heap ->
   s₁.heap.get? fa=some o->o.data=.func (docDef d.name d.params d.body d.scope pm cd doc)->s₁.heap.CodeRec cd d.name->mg d.name=some (.ref fa) ->
   s₁.heap.get? a=some {cls:=.type "list",data:=.seq vs.toArray} → IntsAre vs ns → ns.length ≤ n → s₁.gens=#[] →
   codeAny (model l.prog w) callerA (.call (.ref fa) ⟨[.ref a],[]⟩) (λ r s'=>r=.ok (.ret (.bool true))/\OldK s₁.heap s'.heap/\s'.os=s₁.os/\AllBare s'.gens) s₁) :
  WalkO q loose XP YP l.row.toRowW d [] (λ f vs=>PySem.call f vs):=by
 intro w s₀ s₁ mg mb G Y fa o pm cd doc dV kV ho hd hcd hD hmg hg args vals as hpre hlay hrd hwl hlo;obtain rfl:dV=.none:=Dflts.none hD hdf;obtain rfl:kV=.none:=Dflts.noKw hD;obtain⟨a,vs,ns,rfl,rfl,hobj,hints,hlen⟩:=al3 hn hpre hwl;refine enter_call (codeAny_mono (call w s₀ s₁ mg mb fa o pm cd doc a vs ns G Y ho (fd_plain hd) hcd hmg hobj hints hlen hg) λ r s' hq=>?_)
 obtain⟨rfl,h2,h3,h4⟩:=hq;exact⟨.inl ⟨.bool true,.bool true,[],rfl,λ _=>rfl,.bool true,am1 l _,λ _=>⟨List.Pairwise.nil,λ _ hm=>(nomatch hm)⟩⟩,h2,h3,h4⟩
end Att
namespace L2
open PySem PySem.Spec PyProof.Rows
theorem P_3:∀ {vs:List Value}{ns:List Int},IntsAre vs ns->Vals (ns.map V.int) vs
 |_,_,.nil=>.nil
 |_,_,.cons n t h=>.cons ⟨t,rfl⟩ (P_3 h)
def by8 (H:Hp):Prop:=∀ b,H b=none\/∃ o xs,H b=some (.frz o (.lst xs))
theorem aA7 {P:Program}{w:World}{K:Frag}{mg mb:Str->Option Value}{CX:CXT}{k:Nat}{fa a:Addr}{fd:FuncData}{x:Str}{sp:Sp}{s₁:Shared}{vs:List Value}{ns:List Int}
  (KX:K.In s₁.heap) (hns:s₁.heap.Ns mainGlobals mg) (hb:s₁.heap.Ns builtinsNs mb) (hbb:∀ x:Str,x≠"__name__" → mb x=bootBuiltins x) (hlim:s₁.heap.NoLimit) (hg:s₁.gens=#[])
  (ha:s₁.heap.get? a=some {cls:=.type "list",data:=.seq vs.toArray}) (hi:IntsAre vs ns) (hl:ns.length ≤ sizeLine) (hr:Room k callerA)
  (F:∀ base:Heap,K.In base->base.Ns mainGlobals mg->FnOk P w K mg base CX k fa fd [x] sp) (hbind:∀ (s:Shared) (u:Value),BindsTo s fd ⟨[u],[]⟩ [(x,u)])
  (hsp:∀ H:Hp,by8 H->SqL K H a (ns.map V.int)->sp [.ref a] H (λ v _=>v=.bl true) λ _ _ _=>False)
  (hCX:∀ H e s',CX [] H s₁ (λ _ _ _=>False) e s'->False) :
  codeAny (model P w) callerA (.call (.ref fa) ⟨[.ref a],[]⟩) (λ r s'=>r=.ok (.ret (.bool true))/\OldK s₁.heap s'.heap/\s'.os=s₁.os/\AllBare s'.gens) s₁:=by
 have rv:=P_3 hi;have lenV:=hi.length;have core:∀ H:Hp,by8 H->SqL K H a (ns.map V.int)->HOk P w H s₁.heap->(∀ b,H b≠none->b=a)->(H a≠none->K.lookup a=none) ->
   codeAny (model P w) callerA (.call (.ref fa) ⟨[.ref a],[]⟩) (λ r s'=>r=.ok (.ret (.bool true))/\OldK s₁.heap s'.heap/\s'.os=s₁.os/\AllBare s'.gens) s₁:=by
  intro H hO hS hok hA hK;have base_of:∀ {b:Addr}{o:Obj},s₁.heap.get? b=some o->H b=none->(aB2 s₁.heap H).get? b=some o:=λ e n=>aB1 e n
  have noA:∀ {b:Addr}{o:Obj}{es:Array DictEntry}{ep:Nat},s₁.heap.get? b=some o->o.data=.dict es ep->H b=none:=λ {b o es ep} e d=>by
   cases q:H b with
   |none=>rfl
   |some u =>
    have e':b=a:=hA b (by rw[q];simp)
    subst e';rw[ha] at e;cases e;have d':Data.seq vs.toArray _=Data.dict es ep:=d;cases d'
  have nsK:∀ {b:Addr}{m:Str->Option Value},s₁.heap.Ns b m->(aB2 s₁.heap H).Ns b m:=λ {b m} ⟨o,es,ep,e,d,r⟩=>⟨o,es,ep,base_of e (noA e d),d,r⟩
  have hKb:K.In (aB2 s₁.heap H):=λ b o e=>base_of (KX b o e) (by
   cases q:H b with
   |none=>rfl
   |some u =>
    have e':b=a:=hA b (by rw[q];simp)
    subst e';rw[hK (by rw[q];simp)] at e;cases e)
  have hM:Mod K mg (aB2 s₁.heap H):=⟨hKb,nsK hns,⟨mb,nsK hb,hbb⟩,let ⟨mc,h1,h2⟩:=hlim;⟨mc,nsK h1,h2⟩⟩;have e0:Env0 P w K mg (aB2 s₁.heap H) callerA [] s₁ H:=⟨rfl,hM,λ b o e=>aN4 e,Nat.le_of_eq (ar7 _ _),trivial,λ b hb=>absurd (show b∈([]:List Addr) from hb) (by simp),hok,.of_eq hg⟩
  refine codeAny_mono ((F _ hKb (nsK hns)).run callerA [] s₁ H ⟨[.ref a],[]⟩ [.ref a] [.ref a] _ _ hr e0 (hbind s₁ (.ref a)) (.cons rfl .nil) (hsp H hO hS)) λ r s' h=>?_
  cases r with
  |error e=>exact (hCX H e s' h).elim
  |ok fl =>
   cases fl with
   |next=>exact False.elim h
   |brk=>exact False.elim h
   |cont=>exact False.elim h
   |ret u =>
    obtain⟨v,H',os,bare,un,hok',r',q⟩:=h;have q':v=.bl true:=q;subst q';obtain rfl:u=Value.bool true:=r';refine⟨rfl,OldK.of_keep λ b o e=>?_,os,bare⟩
    cases q:H b with
    |none=>exact un.keep b o e q (by intro z;exact absurd (show b∈([]:List Addr) from z) (by simp)) (by simp)
    |some u =>
     rcases hO b with z | ⟨ob,xs,z⟩
     ·rw[q] at z;cases z
     ·have z2:=un.frzs b ob _ z
      obtain⟨e1,_⟩:=hok b _ z;obtain⟨e2,_⟩:=hok' b _ z2;rw[e] at e1;cases e1;exact e2
 cases hk:K.lookup a with
 |some o =>
  have e:=KX a o hk;rw[ha] at e;cases e;refine core (λ _=>none) (λ _=>.inl rfl) (.inr ⟨_,vs.toArray,_,hk,rfl,rfl,rfl,by rw[List.size_toArray,lenV];exact hl,by simpa using rv⟩) (λ b u z=>by have z':(none:Option HO)=some u:=z;cases z') (λ b z=>absurd rfl z) λ z=>absurd rfl z
 |none =>
  refine core (λ b=>if b=a then some (.frz {cls:=.type "list",data:=.seq vs.toArray} (.lst (ns.map V.int))) else none) (λ b=>?_) (.inl (.inr ⟨{cls:=.type "list",data:=.seq vs.toArray},if_pos rfl⟩)) (λ b u z=>?_) (λ b z=>?_) λ _=>hk
  ·by_cases hb:b=a
   ·exact .inr ⟨_,_,if_pos hb⟩
   ·exact .inl (if_neg hb)
  ·by_cases hb:b=a
   ·have z':=(if_pos hb).symm.trans z
    cases z';subst hb;exact⟨ha,by rw[List.length_map];exact hl,vs,_,rv,ha⟩
   ·have z':=(if_neg hb).symm.trans z
    cases z'
  ·by_cases hb:b=a
   ·exact hb
   ·exact absurd (if_neg hb) z
theorem walk_of {l:OpenLaw}{n k:Nat}{q:Program}{loose:List Str}{XP:(Str->Option Value)->Heap->Prop}{YP:World->Heap->Prop}{d:DefRec}{K:Params->Frag}{CX:World->CXT}{sp:World->Sp}{x:Str}
  (hn:l.most=some n) (hn2:n<=sizeLine) (hdf:d.params.defaults=[]) (hr:Room k callerA)
  (hY:∀ (w:World) (h:Heap),YP w h->(K w.params).In h)
  (F:∀ (w:World) (mg:Str->Option Value) (fa:Addr) (h:Heap),(K w.params).In h->h.Ns mainGlobals mg->mg d.name=some (.ref fa) ->
   ∃ fd:FuncData,(∀ (s:Shared) (u:Value),BindsTo s fd ⟨[u],[]⟩ [(x,u)]) /\
    ∀ base:Heap,(K w.params).In base->base.Ns mainGlobals mg->FnOk l.prog w (K w.params) mg base (CX w) k fa fd [x] (sp w))
  (hsp:∀ (w:World) (H:Hp) (a:Addr) (ns:List Int),ns.length<=n->by8 H->SqL (K w.params) H a (ns.map V.int)->sp w [.ref a] H (λ v _=>v=.bl true) λ _ _ _=>False)
  (hCX:∀ (w:World) (H:Hp) (s:Shared) (e:Value) (s':Shared),CX w [] H s (λ _ _ _=>False) e s'->False) :
  PySem.W.WalkO q loose XP YP l.row.toRowW d [] (λ f vs=>PySem.call f vs):=by
 refine Att.attach_call hn hdf λ w s₀ s₁ mg mb fa o pm cd doc a vs ns G Y ho hd hcd hmg hobj hints hlen hg=>?_
 have KX:=hY w _ Y;obtain⟨fd,hb,hF⟩:=F w mg fa _ KX G.T.g hmg;exact aA7 KX G.T.g G.T.b G.T.builtins G.T.nolimit hg hobj hints (Nat.le_trans hlen hn2) hr hF hb (λ H hO hS=>hsp w H a ns hlen hO hS) λ H e s'=>hCX w H s₁ e s'
def b_3 (s:Stmt):Arguments:=match s with
 |.FunctionDef _ a _ _ _ _ _ _ _ _=>a
 |_=>{posonlyargs:=[],args:=[],vararg:=none,kwonlyargs:=[],kw_defaults:=[],kwarg:=none,defaults:=[]}
def b_0 (s:Stmt):List Stmt:=match s with
 |.FunctionDef _ _ b _ _ _ _ _ _ _=>b
 |_=>[]
def a_0 (s:Stmt):Scope:=match s with
 |.FunctionDef _ _ _ _ _ _ sc _ _ _=>sc
 |_=>{kind:=.function,names:=[],isGenerator:=false,isCoroutine:=false}
abbrev CX0:CXT:=λ _ _ _ _ _ _=>False
abbrev E0:XK:=λ _ _ _=>False
theorem aM7 {X:Cx}:aw5 CX0 X E0:=λ _ _ _ _ _ _ _ h=>h.elim
structure Fun (K:Frag) (x qual:Str) (st:Stmt) (f:Addr) (fd:FuncData):Prop where
 ex:∃ (oc:Value) (od:Option Addr) (kV doc pm:Value) (an:Option Addr) (cdv ct:Value) (osl:Array (Option Value)),
  fd=fnOf x qual (b_3 st) (b_0 st) (a_0 st) .none kV doc pm an cdv ct/\K.lookup f=some ⟨oc,od,.func fd,osl⟩/\codeIn K cdv qual=true
 kp:keepIn K (.ref f)=true
section
variable {P:Program}{w:World}{K:Frag}{mg:Str->Option Value}{base:Heap}
theorem Fun.ok {x qual:Str}{st:Stmt}{f:Addr}{fd:FuncData}{N ps:List Str}{k:Nat}{sp:Sp} (F:Fun K x qual st f fd) (S:FnScope N ps (a_0 st)) (len:∀ vs H Q E,sp vs H Q E->vs.length=ps.length)
  (hbody:∀ (cdv:Value) (A:Around) (outer:List Env) (s:Shared) (H:Hp) (vs:List V) (Q:VK) (E:XK),Room k (A.deeper (envOfC qual (a_0 st) s.heap.objs.size f cdv))->sp vs H Q E ->
   ∃ t,PSs (aC7 CX0 P w K mg base N qual (a_0 st) f cdv A outer s H E).nox (b_0 st) t/\t {nx:=λ _ H'=>Q .non H',rt:=Q} (start N vs) H):FnOk P w K mg base CX0 (k+1) f fd ps sp:=by
 obtain⟨oc,od,kV,doc,pm,an,cdv,ct,osl,rfl,lk,hcd⟩:=F.ex;refine bu9 lk hcd S len λ A outer s H vs Q E hr hsp=>?_
 obtain⟨t,h,q⟩:=hbody cdv A outer s H vs Q E hr hsp;exact⟨t,h.nox,q⟩
theorem Fun.binds {x qual:Str}{st:Stmt}{f:Addr}{fd:FuncData}{ps:List Str} (F:Fun K x qual st f fd)
  (h:∀ (kV doc pm:Value) (an:Option Addr) (cdv ct:Value) (us:List Value),us.length=ps.length->bindArgs (fnOf x qual (b_3 st) (b_0 st) (a_0 st) .none kV doc pm an cdv ct) ⟨us,[]⟩=pure (ps.zip us)):Binds K fd ps []:=by
 obtain⟨oc,od,kV,doc,pm,an,cdv,ct,osl,rfl,lk,hcd⟩:=F.ex;exact .all (h kV doc pm an cdv ct)
theorem c_9 {x qual:Str}{st:Stmt}{f:Addr}{oc:Value}{od an:Option Addr}{osl:Array (Option Value)}{kV doc pm cdv ct:Value} (l:K.lookup f=some ⟨oc,od,.func (fnOf x qual (b_3 st) (b_0 st) (a_0 st) .none kV doc pm an cdv ct),osl⟩)
  (c:codeIn K cdv qual=true) (k:keepIn K (.ref f)=true):Fun K x qual st f (fnOf x qual (b_3 st) (b_0 st) (a_0 st) .none kV doc pm an cdv ct):=⟨⟨oc,od,kV,doc,pm,an,cdv,ct,osl,rfl,l,c⟩,k⟩
end
theorem n_7 {A:Around}{k:Nat} (hr:Room k A):A.units+1<cLine:=Nat.lt_of_le_of_lt (Nat.add_le_add_left (by decide:1<=64) _) hr.units
theorem D_8 {n:Nat} (h:n<=1000):n<sizeLine:=Nat.lt_of_le_of_lt h (by decide)
section
variable {X:Cx}
theorem pv (i:Nat) {x:Str}{pos:Pos} (hN:X.N[i]?=some x:=by rfl) (hv:Vis X.env.scope x:=by first | exact Or.inl rfl | exact Or.inr (Or.inl rfl) | exact Or.inr (Or.inr rfl)) (hd:(x==("__debug__":Str))=false:=by decide)
  (hcd:(x==("__classdict__":Str))=false:=by decide):PE X (.Name x pos) (bz8 i):=E_3 hN hv hd hcd
end
def Same (H H':Hp):Prop:=∀ b o,H b=some o->H' b=some o
theorem Same.refl (H:Hp):Same H H:=λ _ _ h=>h
theorem Same.trans {H H1 H2:Hp} (a:Same H H1) (b:Same H1 H2):Same H H2:=λ c o h=>b c o (a c o h)
theorem Same.free {H H':Hp} (e:Same H H') {l:Addr} (h:H' l=Option.none):H l=Option.none:=by
 cases q:H l with
 |none=>rfl
 |some o =>
  rw[e l o q] at h;cases h
theorem Same.seq {K:Frag}{H H':Hp}{a:Addr}{xs:List V} (e:Same H H') (h:SqL K H a xs):SqL K H' a xs:=by
 rcases h with (h | ⟨o,h⟩) | h
 ·exact .inl (.inl (e _ _ h))
 ·exact .inl (.inr ⟨o,e _ _ h⟩)
 ·exact .inr h
section
variable {κ:Type} [DecidableEq κ]
def K_8 (kvs:List (κ×V)) (k:κ):Option V:=(kvs.find? λ kv=>decide (kv.1=k)).map (·.2)
def H_1 (kvs:List (κ×V)) (k:κ) (v:V):List (κ×V) :=
 if (kvs.any λ kv=>decide (kv.1=k))=true then kvs.map (λ kv=>if kv.1=k then (kv.1,v) else kv) else kvs++[(k,v)]
def bi3 (kvs:List (κ×V)) (k:κ):List (κ×V):=kvs.filter λ kv=>decide (kv.1≠k)
theorem C_7 {p:κ×V}{r:List (κ×V)}{k:κ} (e:p.1=k):K_8 (p::r) k=some p.2:=by simp[K_8,List.find?_cons,e]
theorem x_4 {p:κ×V}{r:List (κ×V)}{k:κ} (e:¬ p.1=k):K_8 (p::r) k=K_8 r k:=by simp[K_8,List.find?_cons,e]
theorem x_5 (k:κ):∀ kvs:List (κ×V),(kvs.any λ kv=>decide (kv.1=k))=(K_8 kvs k).isSome
 |[]=>rfl
 |p::r=>by
  rw[List.any_cons]
  by_cases e:p.1=k
  ·simp only[C_7 e,decide_eq_true e,Bool.true_or,Option.isSome_some]
  ·rw[x_4 e,decide_eq_false e,Bool.false_or];exact x_5 k r
theorem w_6 (kvs:List (κ×V)) (k:κ) (v:V):(H_1 kvs k v).length<=kvs.length+1:=by
 unfold H_1
 split
 ·rw[List.length_map];omega
 ·rw[List.length_append,List.length_cons,List.length_nil];omega
theorem az1 {kvs:List (κ×V)}{k:κ} (v:V) (h:K_8 kvs k=none):H_1 kvs k v=kvs++[(k,v)]:=by
 unfold H_1;rw[x_5,h];exact if_neg (by decide)
theorem RelO.isSome_eq {o:Option V}{u:Option Value} (r:RelO o u):o.isSome=u.isSome:=by
 cases o with
 |none=>cases u with
  |none=>rfl
  |some _=>exact (show False from r).elim
 |some _=>cases u with
  |none=>exact (show False from r).elim
  |some _=>rfl
theorem RelO.getD {o:Option V}{u:Option Value}{d:V}{d':Value} (r:RelO o u) (rd:RelV d d'):RelV (o.getD d) (u.getD d'):=by
 cases o with
 |none=>cases u with
  |none=>exact rd
  |some _=>exact (show False from r).elim
 |some _=>cases u with
  |none=>exact (show False from r).elim
  |some _=>exact r
theorem KV.val {kvs:List (κ×V)}{vs:List (κ×Value)} (r:KV kvs vs) (k:κ):RelO (K_8 kvs k) (valueAt vs k):=by
 unfold KV at r
 induction r with
 |nil=>exact True.intro
 |@cons p q ps qs h t ih =>
  obtain⟨h1,h2⟩:=h
  by_cases e:p.1=k
  ·have e':q.1=k:=h1.symm.trans e
   have b:valueAt (q::qs) k=some q.2:=by simp[valueAt,List.find?_cons,e']
   rw[C_7 e,b];exact h2
  ·have e':¬ q.1=k:=λ z=>e (h1.trans z)
   have b:valueAt (q::qs) k=valueAt qs k:=by simp[valueAt,List.find?_cons,e']
   rw[x_4 e,b];exact ih
theorem KV.any {kvs:List (κ×V)}{vs:List (κ×Value)} (r:KV kvs vs) (k:κ):(kvs.any λ kv=>decide (kv.1=k))=vs.any λ kv=>decide (kv.1=k):=by
 unfold KV at r
 induction r with
 |nil=>rfl
 |cons h t ih=>rw[List.any_cons,List.any_cons,ih,h.1]
theorem KV.repl {kvs:List (κ×V)}{vs:List (κ×Value)} (r:KV kvs vs) (k:κ) {y:V}{u:Value} (ry:RelV y u) :
  KV (kvs.map λ kv=>if kv.1=k then (kv.1,y) else kv) (vs.map λ kv=>if kv.1=k then (kv.1,u) else kv):=by
 unfold KV at r ⊢
 induction r with
 |nil=>exact .nil
 |@cons p q ps qs h t ih =>
  rw[List.map_cons,List.map_cons];refine .cons ?_ ih;obtain⟨h1,h2⟩:=h
  by_cases e:p.1=k
  ·rw[if_pos e,if_pos (h1.symm.trans e)];exact⟨h1,ry⟩
  ·rw[if_neg e,if_neg (λ z=>e (h1.trans z))];exact⟨h1,h2⟩
theorem KV.put {kvs:List (κ×V)}{vs:List (κ×Value)} (r:KV kvs vs) (k:κ) {y:V}{u:Value} (ry:RelV y u):KV (H_1 kvs k y) (stored vs k u):=by
 unfold H_1 stored;rw[r.any k]
 by_cases e:(vs.any λ kv=>decide (kv.1=k))=true
 ·rw[if_pos e,if_pos e];exact r.repl k ry
 ·rw[if_neg e,if_neg e];exact Paired.snoc r ⟨rfl,ry⟩
theorem KV.drop {kvs:List (κ×V)}{vs:List (κ×Value)} (r:KV kvs vs) (k:κ):KV (bi3 kvs k) (without vs k):=by
 unfold KV at r ⊢;unfold bi3 without
 induction r with
 |nil=>exact .nil
 |@cons p q ps qs h t ih =>
  obtain⟨h1,h2⟩:=h;rw[List.filter_cons,List.filter_cons]
  by_cases e:p.1=k
  ·have a:¬ decide (p.1≠k)=true:=by simp[e]
   have b:¬ decide (q.1≠k)=true:=by simp[h1.symm.trans e]
   rw[if_neg a,if_neg b];exact ih
  ·have e':¬ q.1=k:=λ z=>e (h1.trans z)
   have a:decide (p.1≠k)=true:=by simp[e]
   have b:decide (q.1≠k)=true:=by simp[e']
   rw[if_pos a,if_pos b];exact .cons ⟨h1,h2⟩ ih
theorem KV.keys {kvs:List (κ×V)}{vs:List (κ×Value)} (r:KV kvs vs):kvs.map (·.1)=vs.map (·.1):=by
 unfold KV at r
 induction r with
 |nil=>rfl
 |cons h t ih=>rw[List.map_cons,List.map_cons,ih,h.1]
theorem KV.length {kvs:List (κ×V)}{vs:List (κ×Value)} (r:KV kvs vs):kvs.length=vs.length:=Paired.length r
end
theorem Y_9 {P:Program}{w:World}{k:Key}{u:Value} (r:RelV (kV k) u):(f_2 P w).is k u=true:=by
 cases k with
 |inl i=>obtain⟨t,e⟩:=(show ∃ t,u=Value.int i t from r);subst e;exact Y_1 P w i t
 |inr x=>obtain⟨t,e⟩:=(show ∃ t,u=Value.str x t from r);subst e;exact Y_0 P w x t
theorem T_4 {P:Program}{w:World}:∀ {ks:List Key}{us:List Value},Vals (ks.map kV) us->ItemsAre (f_2 P w) ks us
 |[],_,r=>by rw[List.map_nil] at r;cases r;exact .nil
 |k::ks,_,r=>by
  rw[List.map_cons] at r;cases r with
  |cons h t=>exact .cons (Y_9 h) (T_4 t)
abbrev KT (H:Hp):List (List Key×V)->List (List Key×Addr×Value)->Prop:=Paired λ p q=>p.1=q.1/\H q.2.1=some (.tup (p.1.map kV))/\RelV p.2 q.2.2
theorem KT.val {H:Hp}{kvs:List (List Key×V)}{xs:List (List Key×Addr×Value)} (r:KT H kvs xs) (k:List Key):RelO (K_8 kvs k) ((atKey xs k).map (·.2)):=by
 induction r with
 |nil=>exact True.intro
 |@cons p q ps qs h t ih =>
  obtain⟨h1,_,h2⟩:=h
  by_cases e:p.1=k
  ·have e':q.1=k:=h1.symm.trans e
   have b:atKey (q::qs) k=some q.2:=by simp[atKey,List.find?_cons,e']
   rw[C_7 e,b];exact h2
  ·have e':¬ q.1=k:=λ z=>e (h1.trans z)
   have b:atKey (q::qs) k=atKey qs k:=by simp[atKey,List.find?_cons,e']
   rw[x_4 e,b];exact ih
theorem KT.repl {H:Hp}{kvs:List (List Key×V)}{xs:List (List Key×Addr×Value)} (r:KT H kvs xs) (k:List Key) {y:V}{u:Value} (ry:RelV y u) :
  KT H (kvs.map λ kv=>if kv.1=k then (kv.1,y) else kv) (xs.map (putAt k u)):=by
 induction r with
 |nil=>exact .nil
 |@cons p q ps qs h t ih =>
  rw[List.map_cons,List.map_cons];refine .cons ?_ ih;obtain⟨h1,h2,h3⟩:=h;unfold putAt
  by_cases e:p.1=k
  ·rw[if_pos e,if_pos (h1.symm.trans e)];exact⟨h1,h2,ry⟩
  ·rw[if_neg e,if_neg (λ z=>e (h1.trans z))];exact⟨h1,h2,h3⟩
theorem KT.put {H:Hp}{kvs:List (List Key×V)}{xs:List (List Key×Addr×Value)} (r:KT H kvs xs) (k:List Key) {b:Addr}{y:V}{u:Value} (hb:H b=some (.tup (k.map kV))) (ry:RelV y u) :
  KT H (H_1 kvs k y) (storedH xs k b u):=by
 have e:(kvs.any λ kv=>decide (kv.1=k))=(atKey xs k).isSome:=by
  rw[x_5,(r.val k).isSome_eq,Option.isSome_map]
 unfold H_1 storedH;rw[e]
 by_cases q:(atKey xs k).isSome=true
 ·rw[if_pos q,if_pos q];exact r.repl k ry
 ·rw[if_neg q,if_neg q];exact Paired.snoc r ⟨rfl,hb,ry⟩
theorem KT.keeps {H H':Hp}{kvs:List (List Key×V)}{xs:List (List Key×Addr×Value)} (r:KT H kvs xs) (ht:∀ b ys,H b=some (.tup ys)->H' b=some (.tup ys)):KT H' kvs xs :=
 Paired.mapP r λ _ _ z=>⟨z.1,ht _ _ z.2.1,z.2.2⟩
section
variable {P:Program}{w:World}{H:Hp}{h:Heap}{a:Addr}
theorem aZ7 {u:HO} (ok:HOk P w H h) (e:Rd H a u):ObjOk P w H h a u:=e.ok ok
theorem ai3 {kvs:List (Key×V)} (ok:HOk P w H h) (e:Rd H a (.dK kvs)):kvs.length<=sizeLine/\(a==sysModules)=false/\∃ vs,KV kvs vs/\h.DictOf (f_2 P w) a vs :=
 show ObjOk P w H h a (.dK kvs) from aZ7 ok e
theorem bi4 {kvs:List (Key×V)} (ok:HOk P w H h) (e:H a=some (.dK kvs)):kvs.length<=sizeLine/\(a==sysModules)=false/\∃ vs,KV kvs vs/\h.DictOf (f_2 P w) a vs:=ai3 ok (.inl e)
theorem T_3 {ks:List Key} (ok:HOk P w H h) (e:H a=some (.tup (ks.map kV))):(tupleKind (f_2 P w)).is h ks a:=by
 obtain⟨_,its,r,o,h1,h2,⟨n,h3⟩,_⟩:=(show ObjOk P w H h a (.tup (ks.map kV)) from ok a _ e);exact⟨o,its.toArray,n,h1,h2,h3,by simpa using T_4 r⟩
theorem ai1 {kvs:List (List Key×V)} (ok:HOk P w H h) (e:Rd H a (.dT kvs)):kvs.length<=sizeLine/\(a==sysModules)=false /\
  ∃ xs,KT H kvs xs/\h.DictOfH (tupleKind (f_2 P w)) a xs:=by
 obtain⟨z,y,xs,r,o,es,ep,h1,h2,h3,h4,h5⟩:=(show ObjOk P w H h a (.dT kvs) from aZ7 ok e);refine⟨z,y,xs,r,o,es,ep,h1,h2,h3,h4,λ x hx=>?_,h5⟩
 have all:∀ {l:List (List Key×V)}{m:List (List Key×Addr×Value)},KT H l m->∀ x∈m,(tupleKind (f_2 P w)).is h x.1 x.2.1:=by
  intro l m q
  induction q with
  |nil=>intro x hx;exact nomatch hx
  |@cons p q ps qs hq t ih =>
   intro x hx
   rcases qp hx with e | hx
   ·subst e
    exact T_3 ok (by rw[<- hq.1];exact hq.2.1)
   ·exact ih x hx
 exact all r x hx
theorem bx8 {kvs:List (List Key×V)} (ok:HOk P w H h) (e:H a=some (.dT kvs)):kvs.length<=sizeLine/\(a==sysModules)=false /\
  ∃ xs,KT H kvs xs/\h.DictOfH (tupleKind (f_2 P w)) a xs:=ai1 ok (.inl e)
end
def DGet (H:Hp) (a:Addr) (y:V) (r:Option V):Prop :=
 (∃ kvs k,Rd H a (.dK kvs)/\y=kV k/\r=K_8 kvs k)\/∃ kvs k b,Rd H a (.dT kvs)/\y=.ref b/\H b=some (.tup (k.map kV))/\r=K_8 kvs k
def DPut (H:Hp) (a:Addr) (y v:V) (H':Hp):Prop :=
 (∃ kvs k,H a=some (.dK kvs)/\y=kV k/\kvs.length<sizeLine/\H'=upd H a (.dK (H_1 kvs k v))) \/
 ∃ kvs k b,H a=some (.dT kvs)/\y=.ref b/\H b=some (.tup (k.map kV))/\kvs.length<sizeLine/\H'=upd H a (.dT (H_1 kvs k v))
theorem DGet.k {H:Hp}{a:Addr}{kvs:List (Key×V)}{k:Key} (e:H a=some (.dK kvs)):DGet H a (kV k) (K_8 kvs k):=.inl ⟨kvs,k,.inl e,rfl,rfl⟩
theorem DGet.t {H:Hp}{a b:Addr}{kvs:List (List Key×V)}{k:List Key} (e:H a=some (.dT kvs)) (eb:H b=some (.tup (k.map kV))):DGet H a (.ref b) (K_8 kvs k):=.inr ⟨kvs,k,b,.inl e,rfl,eb,rfl⟩
theorem DPut.k {H:Hp}{a:Addr}{kvs:List (Key×V)}{k:Key}{v:V} (e:H a=some (.dK kvs)) (hl:kvs.length<sizeLine):DPut H a (kV k) v (upd H a (.dK (H_1 kvs k v))):=.inl ⟨kvs,k,e,rfl,hl,rfl⟩
theorem DPut.t {H:Hp}{a b:Addr}{kvs:List (List Key×V)}{k:List Key}{v:V} (e:H a=some (.dT kvs)) (eb:H b=some (.tup (k.map kV))) (hl:kvs.length<sizeLine) :
  DPut H a (.ref b) v (upd H a (.dT (H_1 kvs k v))):=.inr ⟨kvs,k,b,e,rfl,eb,hl,rfl⟩
section
variable {X:Cx}{pins:List (Addr×Obj)}{σ:St}{H:Hp}{s:Shared}{a:Addr}{y v:V}{u r:Value}{o:Option V}{A:Around}{E:Value->Shared->Prop}
theorem Inv.big (I:Inv X pins σ H s):sysModules<s.heap.objs.size:=by
 have h:mainGlobals<s.heap.objs.size:=(I.mod.glob.keeps I.bk).lt;exact Nat.lt_trans (by decide) h
theorem au4 {Q:Value->Shared->Prop} (hu:A.units+1<cLine) (I:Inv X pins σ H s) (g:DGet H a y (some v)) (ry:RelV y u) (h:∀ w' s',Inv X pins σ H s'->RelV v w'->Q w' s') :
  wpAny (model X.prog X.w) A (getItem (.ref a) u) Q E s:=by
 rcases g with ⟨kvs,k,e,ey,l⟩ | ⟨kvs,k,b,e,ey,eb,l⟩
 ·subst ey
  obtain⟨z,hd,vs,rel,dd⟩:=ai3 I.hok e;obtain⟨w',hw,rw'⟩:=RelO.some_of (v:=v) (o:=valueAt vs k) (by rw[l];exact rel.val k)
  exact wpAny_getItem_of (Y_9 ry) dd.mapOf hw (h w' _ (I.tok _) rw')
 ·subst ey
  cases (show u=Value.ref b from ry);obtain⟨z,hd,xs,rel,dd⟩:=ai1 I.hok e;obtain⟨w',hw,rw'⟩:=RelO.some_of (v:=v) (o:=(atKey xs k).map (·.2)) (by rw[l];exact rel.val k)
  obtain⟨p,hp,hp2⟩:=Option.map_eq_some_iff.mp hw;refine wpAny_getItem_heap (tupleKind_room_in1 hu) (T_3 I.hok eb) dd hp ?_;rw[hp2];exact h w' _ (I.tok _) rw'
theorem aT2 {Q:Value->Shared->Prop} (hu:A.units+1<cLine) (I:Inv X pins σ H s) (g:DGet H a y o) (ry:RelV y u) (h:∀ s',Inv X pins σ H s'->Q (.bool (!o.isSome)) s') :
  wpAny (model X.prog X.w) A (compareOp .NotIn u (.ref a)) Q E s:=by
 rcases g with ⟨kvs,k,e,ey,l⟩ | ⟨kvs,k,b,e,ey,eb,l⟩
 ·subst ey
  obtain⟨z,hd,vs,rel,dd⟩:=ai3 I.hok e;refine wpAny_notIn_of (Y_9 ry) hd dd.mapOf ?_;rw[<- (rel.val k).isSome_eq,<- l];exact h _ (I.tok _)
 ·subst ey
  cases (show u=Value.ref b from ry);obtain⟨z,hd,xs,rel,dd⟩:=ai1 I.hok e;refine wpAny_notIn_heap (tupleKind_room_in1 hu) (T_3 I.hok eb) hd dd ?_;have q:=(rel.val k).isSome_eq;rw[Option.isSome_map] at q;rw[<- q,<- l];exact h _ (I.tok _)
theorem aa0 {h':Heap}{t':Nat}{ob:HO} (I:Inv X pins σ H s) (mu:Mut (H a)) (hs:Heap.SameBut a s.heap h') (he:∃ q,h'.get? a=some q) (new:ObjOk X.prog X.w (upd H a ob) h' a ob) :
  Inv X pins σ (upd H a ob) {s with heap:=h',toks:=t'} :=
 I.write (x:=a) (e:=a) mu (.inl rfl) (λ b q hb z=>(hs.2 b hb).trans z) he new
theorem ae7 {P:Program}{w:World}{H':Hp}{h':Heap}{kvs:List (Key×V)}{vs:List (Key×Value)} (z:kvs.length<=sizeLine) (hd:(a==sysModules)=false) (rel:KV kvs vs) (dd:h'.DictOf (f_2 P w) a vs) :
  ObjOk P w H' h' a (.dK kvs):=⟨z,hd,vs,rel,dd⟩
theorem au3 {H':Hp}{Q:Unit->Shared->Prop} (hu:A.units+1<cLine) (I:Inv X pins σ H s) (g:DPut H a y v H') (ry:RelV y u) (rv:RelV v r) (h:∀ s',Inv X pins σ H' s'->Q () s') :
  wpAny (model X.prog X.w) A (setItem (.ref a) u r) Q E s:=by
 rcases g with ⟨kvs,k,e,ey,l,eH⟩ | ⟨kvs,k,b,e,ey,eb,l,eH⟩
 ·subst ey eH
  obtain⟨z,hd,vs,rel,dd⟩:=bi4 I.hok e;have hz:vs.length<=sizeLine:=by rw[<- rel.length];exact z
  have hl:(H_1 kvs k v).length<=sizeLine:=by have:=w_6 kvs k v;omega
  refine wpAny_setItem_pairs (hsz:=hz) (Y_9 ry) dd λ h' dd' hs=>h _ ?_
  have he:∃ q,h'.get? a=some q:=let ⟨q,_,_,hq,_⟩:=dd';⟨q,hq⟩;exact aa0 I (by rw[e];exact True.intro) hs he (ae7 hl hd (rel.put k rv) dd')
 ·subst ey eH
  cases (show u=Value.ref b from ry);obtain⟨z,hd,xs,rel,dd⟩:=bx8 I.hok e;have hz:xs.length<=sizeLine:=by rw[<- Paired.length rel];exact z
  have hl:(H_1 kvs k v).length<=sizeLine:=by have:=w_6 kvs k v;omega
  refine wpAny_setItem_heap (hsz:=hz) (tupleKind_room_in1 hu) (T_3 I.hok eb) dd λ h' dd' hs=>h _ ?_
  obtain⟨q,es,ep,hq,h2,h3,h4,_,h5⟩:=dd';refine aa0 I (by rw[e];exact True.intro) hs ⟨q,hq⟩ ⟨hl,hd,_,(rel.put k eb rv).keeps λ c ys ec=>?_,q,es,ep,hq,h2,h3,h4,h5⟩
  rw[b_6 (ne_of ec e (λ z=>nomatch z))]
  exact ec
end
def by9 (i:Expr):Prop:=∀ ov iv,subscripted i false ov iv=operate [ov,iv] (getItem ov iv)
theorem aJ6 {prog:Program}{w:World}{A:Around}{E:Value->Shared->Prop}{s:Shared}{env:Env}{value slice:Expr}{pos:Pos}{T id:String}{Q:Value->Shared->Prop}
  (hl:typeLookup (.type T) "__getitem__"=pure (some (.builtin id))) (hs:by9 slice)
  (h:wpAny (model prog w) A (eval value env) (λ o s₁=>wpAny (model prog w) A (eval slice env) (λ i s₂=>s₂.TypeIs o T/\wpAny (model prog w) A (getItem o i) Q E s₂) E s₁) E s) :
  wpAny (model prog w) A (eval (.Subscript value slice pos) env) Q E s:=by
 refine Subscript_ (wpAny_mono h (λ o s₁ h₁=>wpAny_mono h₁ (λ i s₂ h₂=>?_) λ _ _ x=>x) λ _ _ x=>x)
 obtain⟨hT,h₂⟩:=h₂;unfold subscriptTail;refine qb ?_;rw[getitemInPython_of_ne hT.not_modules];refine qb (wpAny_specialOf hT hl ?_)
 have fin:wpAny (model prog w) A (subscripted slice false o i) (λ r s₃=>wpAny (model prog w) A (letTemporaryGo value o r >>= λ _=>pure r) Q E s₃) E s₂:=by
  rw[hs o i];exact wpAny_operating (wpAny_mono h₂ (λ r s₃ h₃=>qb (wpAny_letTemporaryGo (qc h₃))) λ _ _ x=>x)
 first
  |exact qc (qb fin)
  |exact qb (qc (qb fin))
  |exact qb fin
theorem Z_7 {X:Cx}{pins:List (Addr×Obj)}{σ:St}{H:Hp}{s:Shared}{a:Addr}{y:V}{o:Option V} (I:Inv X pins σ H s) (g:DGet H a y o):s.TypeIs (.ref a) "dict":=by
 rcases g with ⟨kvs,k,e,_,_⟩ | ⟨kvs,k,b,e,_,_,_⟩
 ·obtain⟨_,_,vs,_,dd⟩:=ai3 I.hok e
  exact dd.typeIs
 ·obtain⟨_,_,xs,_,dd⟩:=ai1 I.hok e
  exact dd.typeIs
def bo0 (td ty:TE):TE:=λ σ H Q=>td σ H λ x H1=>ty σ H1 λ y H2=>∃ a v,x=.ref a/\DGet H2 a y (some v)/\Q v H2
def bq0 (td ty tv:TE):TS:=λ D σ H=>tv σ H λ v H1=>td σ H1 λ x H2=>ty σ H2 λ y H3=>∃ a H4,x=.ref a/\DPut H3 a y v H4/\D.nx σ H4
section
variable {X:Cx}{o i e value:Expr}{pos pos' tpos:Pos}{td ty tv:TE}
theorem am5 (hu:X.A.units+1<cLine) (ho:PE X o td) (hi:PE X i ty) (hs:by9 i):PE X (.Subscript o i pos) (bo0 td ty):=by
 intro pins s σ H Q I h;refine aJ6 PySem.F.slot_dict_getitem.lookup hs (thn (ho pins s σ H _ I h) λ u s1 ⟨x,H1,I1,rx,q1⟩=>thn (hi pins s1 σ H1 _ I1 q1) λ iv s2 hh0_=>?_)
 obtain⟨y,H2,I2,ry,a,v,ex,g,q2⟩:=hh0_;subst ex;obtain rfl:u=Value.ref a:=rx;exact⟨Z_7 I2 g,au4 hu I2 g ry λ w' s3 I3 rw'=>⟨v,H2,I3,rw',q2⟩⟩
theorem aL7 (hu:X.A.units+1<cLine) (ho:PE X o td) (hi:PE X i ty) (hv:PE X value tv) (hs:swapsWith value (some (.Subscript o i pos')) pos.line X.env=pure false) :
  PS X (.Assign [.Subscript o i pos'] value pos) (bq0 td ty tv):=by
 intro pins s σ H D I h;refine wpAny_Assign_Subscript (thn (hv pins s σ H _ I h) λ r s1 ⟨v,H1,I1,rv,q1⟩=>thn (ho pins s1 σ H1 _ I1 q1) λ u s2 ⟨x,H2,I2,rx,q2⟩=>thn (hi pins s2 σ H2 _ I2 q2) λ iv s3 hh0_=>?_) hs
 obtain⟨y,H3,I3,ry,a,H4,ex,g,q3⟩:=hh0_;subst ex;obtain rfl:u=Value.ref a:=rx;exact au3 hu I3 g ry rv λ s4 I4=>⟨σ,H4,I4,q3⟩
end
theorem aB8 {P:Program}{w:World}{H:Hp} (h:Heap) (hb:sysModules<h.objs.size):ObjOk P w H (h.push {cls:=.type "dict",data:=.dict #[]}) h.objs.size (.dK []) :=
 ⟨Nat.zero_le _,beq_eq_false_iff_ne.mpr (Ne.symm (qo hb)),[],.nil,Heap.DictOf.new h⟩
def ab2:List (TE×TE)->St->Hp->(List (V×V)->Hp->Prop)->Prop
 |[],_,H,Q=>Q [] H
 |(tk,tv)::r,σ,H,Q=>tk σ H λ x H1=>tv σ H1 λ y H2=>ab2 r σ H2 λ ps H3=>Q ((x,y)::ps) H3
abbrev VV:List (V×V)->List (Value×Value)->Prop:=Paired λ p q=>RelV p.1 q.1/\RelV p.2 q.2
def PPs (X:Cx) (pos:Pos) (keys:List (Option Expr)) (values:List Expr) (trs:List (TE×TE)):Prop :=
 ∀ (pins:List (Addr×Obj)) (s:Shared) (σ:St) (H:Hp) (Q:List (V×V)->Hp->Prop),Inv X pins σ H s->ab2 trs σ H Q ->
  wpAny (model X.prog X.w) X.A (evalPairs (pairTrees keys values X.env pos)) (λ vs s'=>∃ ps H',Inv X pins σ H' s'/\VV ps vs/\Q ps H') X.xe s
theorem aL8 {X:Cx}{pos:Pos}:PPs X pos [] [] []:=λ pins s σ H Q I h=>pairTrees_nil_walk ⟨[],H,I,.nil,h⟩
theorem az5 {X:Cx}{pos:Pos}{k v:Expr}{ks:List (Option Expr)}{vs:List Expr}{tk tv:TE}{trs:List (TE×TE)} (hk:PE X k tk) (hv:PE X v tv) (hr:PPs X pos ks vs trs) :
  PPs X pos (some k::ks) (v::vs) ((tk,tv)::trs):=λ pins s σ H Q I h =>
 pairTrees_cons_walk (thn (hk pins s σ H _ I h) λ u s1 ⟨x,H1,I1,rx,q1⟩=>thn (hv pins s1 σ H1 _ I1 q1) λ w2 s2 ⟨y,H2,I2,ry,q2⟩ =>
  thn (hr pins s2 σ H2 _ I2 q2) λ ws s3 ⟨ps,H3,I3,rel,q3⟩=>⟨(x,y)::ps,H3,I3,.cons ⟨rx,ry⟩ rel,q3⟩)
def B_2 (kvs more:List (Key×V)):List (Key×V):=more.foldl (λ acc kv=>H_1 acc kv.1 kv.2) kvs
theorem KV.merge:∀ {more:List (Key×V)}{rs:List (Key×Value)}{kvs:List (Key×V)}{vs:List (Key×Value)},KV more rs->KV kvs vs->KV (B_2 kvs more) (merged vs rs):=by
 intro more rs kvs vs r;unfold KV at r
 induction r generalizing kvs vs with
 |nil=>intro q;exact q
 |@cons p q ps qs h t ih =>
  intro r0
  have e:KV (H_1 kvs p.1 p.2) (stored vs q.1 q.2):=by
   have:=r0.put p.1 h.2;rw[<- h.1];exact this
  exact ih e
theorem y_3:∀ (more kvs:List (Key×V)),(B_2 kvs more).length<=kvs.length+more.length
 |[],kvs=>by show kvs.length<=kvs.length+0;omega
 |p::r,kvs=>by
  have h1:=y_3 r (H_1 kvs p.1 p.2);have h2:=w_6 kvs p.1 p.2;show (B_2 (H_1 kvs p.1 p.2) r).length<=_;rw[List.length_cons];omega
theorem K_0 {P:Program}{w:World}:∀ {kvs:List (Key×V)}{ws:List (Value×Value)},VV (kvs.map λ kv=>(kV kv.1,kv.2)) ws->∃ rs,Carries (f_2 P w) ws rs/\KV kvs rs
 |[],_,r=>by rw[List.map_nil] at r;cases r;exact⟨[],True.intro,.nil⟩
 |p::kvs,_,r=>by
  rw[List.map_cons] at r;cases r with
  |@cons a b as bs h t =>
   obtain⟨rs,c,q⟩:=K_0 (P:=P) (w:=w) t;obtain⟨b1,b2⟩:=b;exact⟨(p.1,b2)::rs,⟨Y_9 h.1,rfl,c⟩,.cons ⟨rfl,h.2⟩ q⟩
def bn9 (trs:List (TE×TE)):TE:=λ σ H Q=>∀ p,H p=none->ab2 trs σ (upd H p (.dK [])) λ ps H2=>H2 p=some (.dK [])/\∃ kvs:List (Key×V),ps=kvs.map (λ kv=>(kV kv.1,kv.2))/\kvs.length<=15/\Q (.ref p) (upd H2 p (.dK (B_2 [] kvs)))
theorem aM5 {X:Cx}{pos:Pos}{keys:List (Option Expr)}{values:List Expr}{trs:List (TE×TE)} (h:PPs X pos keys values trs) (hall:keys.all (·.isSome)=true) (hl:keys.length=values.length) (h0:keys≠[])
  (h15:keys.length<=15):PE X (.Dict keys values pos) (bn9 trs):=by
 intro pins s σ H Q I q;have hn:=I.hok.fresh (qi s.heap.objs.size);have I1:=I.laid (a:=s.heap.objs.size) (o:=.dK []) (h':=s.heap.push {cls:=.type "dict",data:=.dict #[]}) (t':=s.toks) (λ _ _ q=>qd _ q) (qi _) (aB8 s.heap I.big)
 refine wpAny_Dict_walk (knd:=f_2 X.prog X.w) hall hl h0 h15 (thn (h pins _ σ _ _ I1 (q _ hn)) λ ws s2 hh0_=>?_)
 obtain⟨ps,H2,I2,rel,e,kvs,ep,lk,q2⟩:=hh0_;subst ep;obtain⟨rs,c,rk⟩:=K_0 (P:=X.prog) (w:=X.w) rel;obtain⟨z,hd,vs0,r0,dd⟩:=bi4 I2.hok e;cases r0;refine⟨rs,c,dd,λ h' dd' hs=>⟨.ref s.heap.objs.size,_,?_,rfl,q2⟩⟩
 have hz:(B_2 [] kvs).length<=sizeLine:=by
  have h1:=y_3 kvs [];rw[List.length_nil] at h1;rw[sizeLine_eq];omega
 have he:∃ q,h'.get? s.heap.objs.size=some q:=let ⟨q,_,_,hq,_⟩:=dd';⟨q,hq⟩;exact aa0 I2 (by rw[e];exact True.intro) hs he (ae7 hz hd (rk.merge .nil) dd')
structure M1 (X:Cx) (o:Expr) (m:Str) (apos:Pos) (e:Expr) (cpos:Pos):Prop where
 base:attributeBase o m X.env (eval o X.env)=eval o X.env
 few:((backTo cpos (starEach [e] X.env)).all (λ x=>!x.1)&&(backToKw cpos (keywordEach [] X.env)).all (λ x=>x.1.isSome)
  && decide (([e]:List Expr).length+([]:List Keyword).length+(if ([]:List Keyword).isEmpty then 0 else 1)<30))=true
 line:(apos.endLine==cpos.line)=true
 trees:backTo cpos (starEach [e] X.env)=[(false,eval e X.env)]
structure M2 (X:Cx) (o:Expr) (m:Str) (apos:Pos) (e f:Expr) (cpos:Pos):Prop where
 base:attributeBase o m X.env (eval o X.env)=eval o X.env
 few:((backTo cpos (starEach [e,f] X.env)).all (λ x=>!x.1)&&(backToKw cpos (keywordEach [] X.env)).all (λ x=>x.1.isSome)
  && decide (([e,f]:List Expr).length+([]:List Keyword).length+(if ([]:List Keyword).isEmpty then 0 else 1)<30))=true
 line:(apos.endLine==cpos.line)=true
 trees:backTo cpos (starEach [e,f] X.env)=[(false,eval e X.env),(false,eval f X.env)]
def IsD (H:Hp) (a:Addr):Prop:=(∃ kvs,Rd H a (.dK kvs))\/∃ kvs,Rd H a (.dT kvs)
theorem be8 {X:Cx}{pins:List (Addr×Obj)}{σ:St}{H:Hp}{s:Shared}{a:Addr} (I:Inv X pins σ H s) (d:IsD H a) :
  s.TypeIs (.ref a) "dict" ∧ (∀ b,Value.ref a=.ref b → ∃ ob,s.heap.get? b=some ob ∧ ob.dict=none) ∧ (a==sysModules)=false:=by
 rcases d with ⟨kvs,e⟩ | ⟨kvs,e⟩
 ·obtain⟨_,hd,vs,_,dd⟩:=ai3 I.hok e
  refine⟨dd.typeIs,λ b q=>?_,hd⟩
  cases q;obtain⟨ob,_,_,h1,h2,_⟩:=dd;exact⟨ob,h1,h2.2.1⟩
 ·obtain⟨_,hd,xs,_,dd⟩:=ai1 I.hok e
  refine⟨dd.typeIs,λ b q=>?_,hd⟩
  cases q;obtain⟨ob,_,_,h1,h2,_⟩:=dd;exact⟨ob,h1,h2.2.1⟩
section
variable {X:Cx}{pins:List (Addr×Obj)}{σ:St}{H:Hp}{s:Shared}{a:Addr}{y d:V}{u r:Value}{o:Option V}{A:Around}{E:Value->Shared->Prop}
theorem bi7 {Q:Value->Shared->Prop} (hu:A.units+1<cLine) (I:Inv X pins σ H s) (g:DGet H a y o) (ry:RelV y u) (rd:RelV d r) (h:∀ w' s',Inv X pins σ H s'->RelV (o.getD d) w'->Q w' s') :
  wpAny (model X.prog X.w) A (call (.builtin "dict.get") [.ref a,u,r]) Q E s:=by
 rcases g with ⟨kvs,k,e,ey,l⟩ | ⟨kvs,k,b,e,ey,eb,l⟩
 ·subst ey
  obtain⟨z,hd,vs,rel,dd⟩:=ai3 I.hok e;refine call_meetsIn PySem.F.slot_dict_get dd.typeIs PySem.F.entry_dict_get (PySem.F.args_dict_get_3 _ _ _) (meets_dict_get_default (f_2 X.prog X.w) a (Y_9 ry) hd r) ⟨_,dd.mapOf,h _ _ (I.tok _) ?_⟩;rw[l];exact (rel.val k).getD rd
 ·subst ey
  cases (show u=Value.ref b from ry);obtain⟨z,hd,xs,rel,dd⟩:=ai1 I.hok e;refine call_meetsIn PySem.F.slot_dict_get dd.typeIs PySem.F.entry_dict_get (PySem.F.args_dict_get_3 _ _ _) (meetsH_dict_get_default (tupleKind (f_2 X.prog X.w)) a b hd r) ⟨tupleKind_room_in1 hu,k,xs,T_3 I.hok eb,dd,h _ _ (I.tok _) ?_⟩;rw[l];exact (rel.val k).getD rd
end
def aY1 (td ty tx:TE):TE:=λ σ H Q=>td σ H λ x H1=>∃ a,x=.ref a/\IsD H1 a/\ty σ H1 λ y H2=>tx σ H2 λ z H3=>∃ o,DGet H3 a y o/\Q (o.getD z) H3
section
variable {X:Cx}{o e f:Expr}{apos cpos:Pos}{td ty tx:TE}
theorem ac0 (hu:X.A.units+1<cLine) (ho:PE X o td) (he:PE X e ty) (hf:PE X f tx) (m:M2 X o "get" apos e f cpos):PE X (.Call (.Attribute o "get" apos) [e,f] [] cpos) (aY1 td ty tx):=by
 intro pins s σ H Q I h;refine wpAny_Call_method m.base m.few m.line PySem.F.plainAttrs_dict PySem.F.slot_dict_get PySem.F.type_dict_get (thn (ho pins s σ H _ I h) λ u s1 hh0_=>?_)
 obtain⟨x,H1,I1,rx,a,ex,d,q1⟩:=hh0_;subst ex;obtain rfl:u=Value.ref a:=rx;obtain⟨t1,t2,_⟩:=be8 I1 d;refine⟨t1,t2,?_⟩;rw[m.trees];refine Calls.callWith_builtin rfl (Calls.evalArgs_plain (Calls.spliced_cons (thn (he pins s1 σ H1 _ I1 q1) λ iv s2 ⟨y,H2,I2,ry,q2⟩ =>
  Calls.spliced_cons (thn (hf pins s2 σ H2 _ I2 q2) λ fv s3 ⟨z,H3,I3,rz,ov,g,q3⟩=>Calls.spliced_nil ?_))))
 exact bi7 hu I3 g ry rz λ w' s4 I4 rw'=>⟨_,H3,I4,rw',q3⟩
end
end L2
namespace Att
open PySem PySem.W PySem.Calls PyProof.Rows
end Att
namespace L2
open PySem PySem.Spec PyProof.Rows
section
variable {κ:Type} [DecidableEq κ]
theorem aI7 {kvs:List (κ×V)}{k:κ}{v:V} (h:K_8 kvs k=some v):k∈kvs.map (·.1):=by
 have q:(kvs.any λ kv=>decide (kv.1=k))=true:=by
  rw[x_5,h]
  all_goals rfl
 obtain⟨p,hp,e⟩:=List.any_eq_true.mp q;exact List.mem_map.mpr ⟨p,hp,of_decide_eq_true e⟩
end
theorem C_4 {a b:Addr}{n:Nat} (h:a<n) (h':n<=b):a≠b:=qo (qm h h')
theorem aF9 {a b:Addr}{n:Nat} (h:a<n) (h':n<=b):b≠a:=(C_4 h h').symm
def aa1 (cells:List (Str×Addr)):List (Str×NameKind)->List (Str×Addr)->List (Str×Addr)
 |[],acc=>acc
 |(n,k)::r,acc=>aa1 cells r (if (k==NameKind.free)=true then (n,(cells.lookup n).getD 0)::acc else acc)
theorem A_2 {env:Env}:∀ (l:List (Str×NameKind)) (acc:List (Str×Addr)),(∀ y∈l,y.2=.free->∃ c,env.cells.lookup y.1=some c) ->
  (forIn l acc λ (y:Str×NameKind) (cs:List (Str×Addr))=>(match y with
   |(name,kind)=>if (kind==NameKind.free)=true then do let c <- cellOf env name;pure (ForInStep.yield ((name,c)::cs)) else pure (ForInStep.yield cs):Sem _))=pure (aa1 env.cells l acc)
 |[],acc,_=>rfl
 |(n,k)::r,acc,h=>by
  rw[List.forIn_cons];unfold aa1
  by_cases e:(k==NameKind.free)=true
  ·have e':k=NameKind.free:=by simpa using e
   obtain⟨c,hc⟩:=h (n,k) List.mem_cons_self e';simp only[e,if_true,cellOf,hc,pure_bind,Option.getD_some];exact A_2 r _ λ y hy=>h y (qg _ hy)
  ·simp only[e,if_false,pure_bind]
   exact A_2 r _ λ y hy=>h y (qg _ hy)
theorem J_9 {sc:Scope}{env:Env} (h:∀ y∈sc.names,y.2=.free->∃ c,env.cells.lookup y.1=some c):closureFor sc env=pure (aa1 env.cells sc.names []):=by
 have e:=A_2 (env:=env) sc.names [] h;simp only[closureFor];exact (bind_pure _).trans e
theorem O_0 {cells:List (Str×Addr)}{y:Str}{c:Addr}:∀ (l:List (Str×NameKind)) (acc:List (Str×Addr)),(∀ y∈l,y.2=.free->∃ c,cells.lookup y.1=some c) ->
  (aa1 cells l acc).lookup y=some c->cells.lookup y=some c\/acc.lookup y=some c
 |[],acc,_,e=>.inr e
 |(n,k)::r,acc,h,e=>by
  unfold aa1 at e;have hr:∀ y∈r,y.2=.free->∃ c,cells.lookup y.1=some c:=λ y hy=>h y (qg _ hy)
  rcases O_0 r _ hr e with q | q
  ·exact .inl q
  ·by_cases z:(k==NameKind.free)=true
   ·rw[if_pos z] at q
    rw[List.lookup_cons] at q;cases hb:y==n with
    |true =>
     rw[hb] at q;obtain⟨c',hc'⟩:=h (n,k) List.mem_cons_self (by simpa using z)
     have hc'':cells.lookup n=some c':=hc';rw[hc''] at q;have e1:y=n:=by simpa using hb
     have q':c'=c:=qh q;exact .inl (by rw[e1,hc'',q'])
    |false =>
     rw[hb] at q;exact .inr q
   ·rw[if_neg z] at q
    exact .inr q
theorem y_6 {cells:List (Str×Addr)}{y:Str}:∀ (l:List (Str×NameKind)) (acc:List (Str×Addr)),((y,NameKind.free)∈l\/∃ c,acc.lookup y=some c)->∃ c,(aa1 cells l acc).lookup y=some c
 |[],acc,h=>by
  rcases h with h | h
  ·cases h
  ·exact h
 |(n,k)::r,acc,h=>by
  unfold aa1
  have grow:∀ v:Addr,(∃ c,acc.lookup y=some c)->∃ c,((n,v)::acc).lookup y=some c:=λ v hh0_=>by
   obtain⟨c,hc⟩:=hh0_;rw[List.lookup_cons];cases y==n with
   |true=>exact⟨v,rfl⟩
   |false=>exact⟨c,hc⟩
  rcases h with h | h
  ·rcases qp h with e | h
   ·have e1:y=n:=congrArg Prod.fst e
    have e2:NameKind.free=k:=congrArg Prod.snd e;subst e1 e2;refine y_6 r _ (.inr ?_);rw[if_pos (by rfl)]
    refine⟨(cells.lookup y).getD 0,?_⟩;rw[List.lookup_cons];simp
   ·exact y_6 r _ (.inl h)
  ·refine y_6 r _ (.inr ?_)
   split
   ·exact grow _ h
   ·exact h
theorem Q_8 {scope:Scope}{env:Env}{y:Str}{k:NameKind} (hc:∀ z∈scope.names,z.2≠.cell) (h:(relabel scope env).names.lookup y=some k) (hk:k=.cell\/k=.free):(y,NameKind.free)∈scope.names:=by
 have m:=PySem.mem_of_lookup h;unfold relabel at m;obtain⟨⟨n,k'⟩,hm,e⟩:=List.mem_map.mp m;dsimp only at e
 split at e
 ·rename_i z
  have e1:n=y:=congrArg Prod.fst e
  have z1:k'=NameKind.free:=by
   simp only[Bool.and_eq_true] at z
   simpa using z.1.1
  subst e1 z1;exact hm
 ·have e1:n=y:=congrArg Prod.fst e
  have e2:k'=k:=congrArg Prod.snd e;subst e1 e2
  rcases hk with z | z
  ·exact absurd z (hc _ hm)
  ·rw[z] at hm;exact hm
theorem I_9 {env:Env} (hf:env.scope.kind=.function):∀ {names:List (Str×NameKind)}{y:Str},names.lookup y=some .free->env.kindOf y=some .cell ->
  (names.map λ (n,k)=>if (k==NameKind.free&&env.scope.kind==.function&&env.kindOf n==some .cell) then (n,NameKind.cell) else (n,k)).lookup y=some .cell
 |[],_,h,_=>by simp at h
 |(n,k)::r,y,h,hk=>by
  have ih:=@I_9 env hf r y;rw[List.map_cons];cases hy:y==n with
  |true =>
   have e:y=n:=by simpa using hy
   subst e;rw[List.lookup_cons,hy] at h;have h':k=NameKind.free:=qh h;subst h';simp[hf,hk,List.lookup_cons]
  |false =>
   rw[List.lookup_cons,hy] at h;show List.lookup y ((if (k==NameKind.free&&env.scope.kind==.function&&env.kindOf n==some .cell)=true then (n,NameKind.cell) else (n,k))::_)=_
   by_cases z:(k==NameKind.free&&env.scope.kind==.function&&env.kindOf n==some .cell)=true
   ·rw[if_pos z,List.lookup_cons,hy];exact ih h hk
   ·rw[if_neg z,List.lookup_cons,hy];exact ih h hk
structure ScB (N:List Str) (sc scope:Scope) (x:Str) (frees:List Str) (js:List Nat):Prop where
 kind:scope.kind=.function
 fk:sc.kind=.function
 cells:∀ y∈scope.names,y.2≠.cell
 locs:∀ y∈scope.names,y.2=.local->scope.names.lookup y.1=some .local
 own:scope.names.lookup x=some .local
 fr:∀ y∈scope.names,y.2=.free->sc.names.lookup y.1=some .cell
 nd:(x::frees).Nodup
 ln:frees.length=js.length
 zp:∀ p∈frees.zip js,N[p.2]?=some p.1/\sc.names.lookup p.1=some .cell/\scope.names.lookup p.1=some .free
def cxB (X:Cx) (N:List Str) (scope:Scope) (s:Shared) (H:Hp) (C:Addr) (fp:List Addr):Cx where
 prog:=X.prog
 w:=X.w
 K:=X.K
 mg:=X.mg
 base:=X.base
 A:=X.A
 N:=N
 s₀:=s
 H₀:=H
 env:=compEnvC scope (aa1 X.env.cells scope.names []) C X.env
 outer:=X.stack
 stack:=X.stack
 ex:=fp
 fn:=λ _=>false
 calm:=X.calm
 pn:=[]
 xe:=λ _ _=>False
def frv (σ:St) (js:List Nat):St:=js.map λ j=>(σ[j]?).join
def PTs (X:Cx) (ifs:List Expr) (t:TT):Prop :=
 ∀ (pins:List (Addr×Obj)) (s:Shared) (σ:St) (H:Hp) (Q:Bool->Hp->Prop),Inv X pins σ H s->t σ H Q ->
  wpAny (model X.prog X.w) X.A (forIn ifs true λ c r=>if r=true then do let ok <- isTrue c X.env (eval c X.env);pure (ForInStep.yield ok) else pure (ForInStep.yield r)) (TP X pins σ Q) X.xe s
def tYes:TT:=λ _ H Q=>Q true H
theorem aL4 {X:Cx}:PTs X [] tYes:=λ _ _ _ H _ I h=>wpAny_tests_nil ⟨H,I,h⟩
theorem aL3 {X:Cx}{c:Expr}{t:TT} (h:PT X c t):PTs X [c] t:=λ pins s σ H Q I q=>wpAny_tests_one (h pins s σ H Q I q)
def LcW (js:List Nat) (tt:TT) (te:TE) (σ:St) (Q:List V->Hp->Prop) (J:It) (H1:Hp):Prop :=
 ∃ W:Nat->Nat->List V->Hp->Prop,(∃ m,W 0 m [] H1)/\∀ i m ys H,W i m ys H ->
  (J.stop i H/\ys.length<=sizeLine/\Q ys H) \/
  (J.go i H/\ys.length<sizeLine/\∀ x H',J.yld i H x H'->tt (some x::frv σ js) H' λ b H2 =>
   if b=true then te (some x::frv σ js) H2 λ v H3=>∃ m',m'<m/\W (i+1) m' (ys++[v]) H3 else ∃ m',m'<m/\W (i+1) m' ys H2)
section
variable {X:Cx}{pins:List (Addr×Obj)}{σ:St}{H:Hp}{s:Shared}{x:Str}{scope sc:Scope}{frees:List Str}{js:List Nat}
theorem ad3 (I:Inv X pins σ H s) (hsc:X.env.scope=sc) (B:ScB X.N sc scope x frees js):∀ y∈scope.names,y.2=.free->∃ c,X.env.cells.lookup y.1=some c:=λ y hy hf =>
 I.ok.has y.1 (.inl (show X.env.scope.names.lookup y.1=some .cell by rw[hsc];exact B.fr y hy hf))
theorem ak0 {α β:Type}:∀ {l:List α}{r:List β}{k:Nat}{a:α},l.length=r.length->l[k]?=some a->∃ b,r[k]?=some b/\(a,b)∈l.zip r
 |[],_,_,_,_,h=>by simp at h
 |_::_,[],_,_,hl,_=>by simp at hl
 |a'::l,b'::r,0,a,_,h=>by
  simp at h;subst h;exact⟨b',rfl,by simp⟩
 |a'::l,b'::r,k+1,a,hl,h=>by
  obtain⟨b,h1,h2⟩:=ak0 (l:=l) (r:=r) (k:=k) (a:=a) (by simpa using hl) (by simpa using h)
  exact⟨b,by simpa using h1,by rw[List.zip_cons_cons];exact qg _ h2⟩
theorem av6 {fp:List Addr}{h₁:Heap}{C D:Addr}{tk:Nat}{mC:Str->Option Value}{oD:Obj} (I:Inv X pins σ H s) (hsc:X.env.scope=sc) (B:ScB X.N sc scope x frees js) (hf:∀ b∈fp,aw6 X pins H b) (hfo:∀ b∈fp,b<s.heap.objs.size)
  (hC:s.heap.objs.size<=C) (hD:s.heap.objs.size<=D) (hDC:D≠C) (old:∀ b o,s.heap.get? b=some o->h₁.get? b=some o) (ns:h₁.Ns C mC) (gD:h₁.get? D=some oD) (nD:∀ v,oD.data≠.cell v) :
  Inv (cxB X (x::frees) scope s H C fp) (pins++[(D,oD)]) (none::frv σ js) H {s with heap:=h₁,toks:=tk}:=by
 have lc:=ad3 I hsc B
 have sub:∀ y c,(aa1 X.env.cells scope.names []).lookup y=some c->X.env.cells.lookup y=some c:=λ y c e=>by
  rcases O_0 scope.names [] lc e with q | q
  ·exact q
  ·cases q
 have cold:∀ y c,X.env.cells.lookup y=some c->c<s.heap.objs.size:=λ y c e=>by
  obtain⟨v,q⟩:=I.cell y c e;exact q.lt
 have fpC:∀ b∈fp,(b∈X.ex\/X.s₀.heap.objs.size<=b):=λ b hb=>(hf b hb).2.2.2.1
 obtain⟨m,hn,hl⟩:=I.loc;refine⟨⟨I.ok.mod,B.kind,I.ok.glob,I.ok.blt,hC,?_,?_,?_,I.ok.hd,I.ok.frames,.inl rfl,?_,?_,Nat.le_trans I.ok.bsz I.sz,?_,?_,I.stack,I.stkFree⟩,rfl,I.bare,Un.kept old,⟨mC,ns,?_⟩,?_,I.hok.fresh hC,?_,?_,I.hok.kept old,?_⟩
 ·exact λ y z c e1 e2=>I.ok.inj y z c (sub y c e1) (sub z c e2)
 ·intro y hy
  have hm:(y,NameKind.free)∈scope.names:=by
   rcases hy with q | q
   ·exact Q_8 (env:=X.env) B.cells q (.inl rfl)
   ·exact Q_8 (env:=X.env) B.cells q (.inr rfl)
  exact y_6 scope.names [] (.inl hm)
 ·exact λ y c z _=>absurd z Bool.false_ne_true
 ·intro b hb
  refine⟨λ z=>?_,λ y c e z=>(hf b hb).2.2.2.2.1 y c (sub y c e) z⟩
  have z':b=C:=z;exact absurd (qm (hfo b hb) hC) (by rw[z'];exact Nat.lt_irrefl _)
 ·exact λ b o e=>I.bs b o e
 ·intro b o e hb
  rcases fpC b hb with z | z
  ·exact I.ok.noex b o e z
  ·exact absurd (qm (qk (I.ok.bs b o e).1) z) (Nat.lt_irrefl _)
 ·intro b hb z
  rcases qp (I.stkSub b z) with e | e
  ·exact (hf b hb).2.1 e
  ·exact (hf b hb).2.2.1 e
 ·intro i y v e1 e2 e3
  cases i with
  |zero=>simp at e2
  |succ k =>
   have e1':frees[k]?=some y:=by
    have e0:(x::frees)[k+1]?=some y:=e1
    simpa using e0
   obtain⟨j,hj,hz⟩:=ak0 B.ln e1';obtain⟨z1,z2,z3⟩:=B.zp _ hz;have e2':(frv σ js)[k]?=some (some v):=by simpa using e2
   have e4:σ[j]?=some (some v):=by
    unfold frv at e2';rw[List.getElem?_map,hj] at e2';have e5:(σ[j]?).join=some v:=qh e2';cases q:σ[j]? with
    |none=>rw[q] at e5;cases e5
    |some w'=>rw[q] at e5;cases w' with
     |none=>cases e5
     |some w2=>cases e5;rfl
   have kX:X.env.kindOf y=some .cell:=by show X.env.scope.names.lookup y=_;rw[hsc];exact z2
   obtain⟨u,r,q⟩:=hl j y v z1 e4 (.inr (.inl kX));refine⟨u,r,?_⟩
   rcases q with ⟨q,_⟩ | ⟨_,c,ec,ic⟩
   ·rw[kX] at q;cases q
   ·have kY:(compEnvC scope (aa1 X.env.cells scope.names []) C X.env).kindOf y=some .cell:=I_9 (env:=X.env) (by rw[hsc];exact B.fk) z3 kX
    refine .inr ⟨.inl kY,c,?_,?_⟩
    ·obtain⟨c',ec'⟩:=y_6 (cells:=X.env.cells) scope.names [] (.inl (PySem.mem_of_lookup z3))
     have:=sub y c' ec';rw[ec] at this;cases this;exact ec'
    ·obtain⟨o,ho,hd⟩:=ic
     exact⟨o,old c o ho,hd⟩
 ·intro y c e
  obtain⟨v,o,ho,hd⟩:=I.cell y c (sub y c e);exact⟨v,o,old c o ho,hd⟩
 ·exact λ y c e=>I.freeC y c (sub y c e)
 ·intro p hp
  have hp':p∈pins++[(D,oD)]:=by simpa [cxB] using hp
  rcases List.mem_append.mp hp' with z | z
  ·obtain⟨a1,a2,a3,a4,a5⟩:=I.pin p (ql _ z)
   refine⟨old _ _ a1,a2,λ e=>?_,λ e=>?_,a5⟩
   ·exact absurd (qm (qk a1) hC) (by rw[show p.1=C from e];exact Nat.lt_irrefl _)
   ·rcases qp (I.stkSub p.1 e) with e | e
    ·exact a3 e
    ·exact a4 e
  ·have z':p=(D,oD):=by simpa using z
   subst z';refine⟨gD,I.hok.fresh hD,hDC,λ e=>?_,nD⟩
   rcases qp (I.stkSub D e) with e | e
   ·exact absurd (qm I.lt hD) (by rw[show D=X.env.locals from e];exact Nat.lt_irrefl _)
   ·exact I.nofs hD e
 ·show (none::frv σ js).length=(x::frees).length
  rw[List.length_cons,List.length_cons,B.ln,frv,List.length_map]
end
theorem ai4 {prog:Program}{w:World}{A:Around}{R:Result->Shared->Prop}{s:Shared}{elt target iter:Expr}{ifs:List Expr}{scope:Scope}{pos:Pos}{it acc:Value}{env:Env} (I:Nat->Shared->Prop)
  (turn:∀ n s,I n s->wpAny (model prog w) A (pyNext it) (λ r s1=>match r with
   |none=>R (.ok .next) s1
   |some v=>wpAny (model prog w) A (letOwnedTupleGo target it v) (λ _ s2=>wpAny (model prog w) A (assign target env v) (λ _ s3 =>
     wpAny (model prog w) A (forIn ifs true λ c r=>if r=true then do let ok <- isTrue c env (eval c env);pure (ForInStep.yield ok) else pure (ForInStep.yield r)) (λ ok s4 =>
      if ok=true then wpAny (model prog w) A (eval elt env) (λ y s5=>wpAny (model prog w) A (call (.builtin "list.append") [acc,y]) (λ _ s6=>∃ m,m<n ∧ I m s6) (λ _ _=>False) s5) (λ _ _=>False) s4
      else ∃ m,m<n/\I m s4) (λ _ _=>False) s3) (λ _ _=>False) s2) (λ _ _=>False) s1) (λ _ _=>False) s)
  (n:Nat) (h:I n s):codeAny (model prog w) A (.compLoop (.ListComp elt [⟨target,iter,ifs,0⟩] scope pos) 0 it acc env) R s:=by
 refine codeAny_loop rfl I (λ n s hI=>?_) n h
 show wpAny _ A ((compTurn (.ListComp elt [⟨target,iter,ifs,0⟩] scope pos) 0 it acc env).onRaise (λ x=>do noteFrame x env;theTreesLotGoes x)) _ _ s
 refine wpAny_noted ?_;rw[compTurn_list];refine qb (wpAny_standAt (qb (wpAny_mono (turn n s hI) (λ r s1 h1=>?_) λ _ _ z=>z.elim)))
 cases r with
 |none=>exact qc h1
 |some v =>
  refine qb (wpAny_mono h1 (λ _ s2 h2=>?_) λ _ _ z=>z.elim)
  refine qb (wpAny_mono h2 (λ _ s3 h3=>?_) λ _ _ z=>z.elim)
  refine qb (wpAny_mono h3 (λ ok s4 h4=>?_) λ _ _ z=>z.elim)
  cases ok with
  |false=>exact qc ⟨rfl,h4⟩
  |true =>
   refine qb (qb (wpAny_mono h4 (λ y s5 h5=>?_) λ _ _ z=>z.elim))
   exact qb (wpAny_mono h5 (λ _ s6 h6=>qc (qc ⟨rfl,h6⟩)) λ _ _ z=>z.elim)
section
variable {X:Cx}{pins:List (Addr×Obj)}{σ:St}{H:Hp}{s:Shared}{x:Str}{scope sc:Scope}{frees:List Str}{js:List Nat}{elt iter:Expr}{ifs:List Expr}{px pos:Pos}{tt:TT}{te:TE}{E:Value->Shared->Prop}
abbrev ap4 (its:List Value) (n:Nat):Obj:={cls:=.type "list",data:=.seq its.toArray n}
theorem aG3 {it:Addr}{fp:List Addr}{tn:Nat->Heap->Prop}{J:It}{Qe:List V->Hp->Prop}{RR:Value->Addr->Result->Shared->Prop} (I:Inv X pins σ H s) (hc:X.calm=true) (hsc:X.env.scope=sc) (B:ScB X.N sc scope x frees js)
  (T:Turn X.prog X.w X.K (.Name x px) J fp it tn) (st:tn 0 s.heap) (f:∀ b∈fp,aw6 X pins H b) (hW:LcW js tt te σ Qe J H)
  (ht:∀ s H C fp,PTs (cxB X (x::frees) scope s H C fp) ifs tt) (he:∀ s H C fp,PE (cxB X (x::frees) scope s H C fp) elt te)
  (hR:∀ (D C:Addr) (s':Shared) (H':Hp) (ys:List V) (its:List Value) (n:Nat),s.heap.objs.size<=D->s.heap.objs.size<=C->D≠C->Inv (cxB X (x::frees) scope s H C fp) pins (none::frv σ js) H' s'->H' D=none ->
   Vals ys its->s'.heap.get? D=some (ap4 its n)->ys.length<=sizeLine->Qe ys H'->RR (.ref D) C (.ok .next) s') :
  wpAny (model X.prog X.w) X.A (newList []) (λ acc s3=>wpAny (model X.prog X.w) X.A (newFunctionEnv scope X.env.globals (aa1 X.env.cells scope.names []) [] X.env.qual none .none (some X.env)) (λ cenv s4 =>
   codeAny (model X.prog X.w) X.A (.compStart (.ListComp elt [⟨.Name x px,iter,ifs,0⟩] scope pos) 0 (.ref it) acc {cenv with scope:=relabel scope X.env}) (RR acc cenv.locals) s4) E s3) E s:=by
 obtain⟨W,⟨m0,w0⟩,turn⟩:=hW;refine wpAny_newObj_type (wpAny_newFunctionEnv B.cells (by intro y hy;simp at hy) (λ h₁ hns₁ hsb₁=>?_) B.kind)
 dsimp only at hns₁ hsb₁ ⊢
 generalize hG:s.heap.push {cls:=.type "list",dict:=none,data:=.seq ([]:List Value).toArray}=G at hns₁ hsb₁ ⊢
 have hC0:G.objs.size=s.heap.objs.size+1:=by rw[<- hG,Heap.size_push]
 have hCs0:s.heap.objs.size<=G.objs.size:=by rw[hC0];exact Nat.le_succ _
 have hDC0:s.heap.objs.size≠G.objs.size:=by rw[hC0];exact qo (Nat.lt_succ_self _)
 obtain⟨C,hCe⟩:∃ C:Addr,C=G.objs.size:=⟨_,rfl⟩;obtain⟨D,hDe⟩:∃ D:Addr,D=s.heap.objs.size:=⟨_,rfl⟩;rw[<- hCe] at hns₁ hsb₁ hDC0 hCs0 ⊢;have hDs:s.heap.objs.size<=D:=by rw[hDe];exact qi _
 have hCs:s.heap.objs.size<=C:=hCs0;have hDC:D≠C:=by rw[hDe];exact hDC0
 have old:∀ b o,s.heap.get? b=some o->h₁.get? b=some o:=λ b o e=>by
  refine hsb₁.extBut b o (C_4 (qk e) hCs) (qd _ ?_);rw[<- hG];exact qd _ e
 have gD:h₁.get? D=some (ap4 [] 0):=by
  refine hsb₁.extBut D _ hDC (qd _ ?_);rw[<- hG,hDe];exact qj _ rfl
 have hfo:∀ b∈fp,b<s.heap.objs.size:=λ b hb=>by
  obtain⟨o,e,_⟩:=T.obj 0 _ st b hb;exact qk e
 show codeAny (model X.prog X.w) X.A (.compStart (.ListComp elt [⟨.Name x px,iter,ifs,0⟩] scope pos) 0 (.ref it) (.ref s.heap.objs.size) (compEnvC scope (aa1 X.env.cells scope.names []) C X.env)) (RR (.ref s.heap.objs.size) C) _;rw[<- hDe];have nDf:D∉fp:=λ z=>C_4 (hfo D z) hDs rfl
 have Y0:=av6 (tk:=s.toks+([]:List (Str×Value)).length) (x:=x) I hsc B f hfo hCs hDs hDC old hns₁ gD (λ v z=>nomatch z)
 have tn0:tn 0 h₁:=T.keep 0 _ _ st λ b _ o e=>old b o e
 have sub:∀ y c,(aa1 X.env.cells scope.names []).lookup y=some c->X.env.cells.lookup y=some c:=λ y c e=>by
  rcases O_0 scope.names [] (ad3 I hsc B) e with q | q
  ·exact q
  ·cases q
 have pOld:∀ p∈pins,p.1<s.heap.objs.size:=λ p hp=>qk (I.pin p (ql _ hp)).1
 have stat:∀ {H':Hp}{o:Obj},(∀ b∈fp,H' b=none)->∀ b∈fp,aw6 (cxB X (x::frees) scope s H C fp) (pins++[(D,o)]) H' b:=λ {H' o} hn b hb=>by
  obtain⟨_,a2,a3,a4,a5,a6⟩:=f b hb;have lt:=hfo b hb;refine⟨hn b hb,?_,λ z=>?_,.inl hb,λ y c e=>a5 y c (sub y c e),λ p hp=>?_⟩
  ·exact C_4 lt hCs
  ·rcases qp (I.stkSub b z) with e | e
   ·exact a2 e
   ·exact a3 e
  ·have hp':p∈pins++[(D,o)]:=by simpa [cxB] using hp
   rcases List.mem_append.mp hp' with z | z
   ·exact a6 p (ql _ z)
   ·have z':p=(D,o):=by simpa using z
    subst z';exact aF9 lt hDs
 have loop:∀ s3:Shared,s3={s with heap:=h₁,toks:=s.toks+([]:List (Str×Value)).length} ->
   codeAny (model X.prog X.w) X.A (.compLoop (.ListComp elt [⟨.Name x px,iter,ifs,0⟩] scope pos) 0 (.ref it) (.ref D) (compEnvC scope (aa1 X.env.cells scope.names []) C X.env)) (RR (.ref D) C) s3:=by
  rintro s3 rfl;refine ai4 (λ n s'=>∃ i ys its k H',Inv (cxB X (x::frees) scope s H C fp) (pins++[(D,ap4 its k)]) (none::frv σ js) H' s'/\tn i s'.heap/\(∀ b∈fp,H' b=none)/\Vals ys its/\W i n ys H') ?_ m0
   ⟨0,[],[],0,H,Y0,tn0,λ b hb=>(f b hb).1,.nil,w0⟩
  rintro n s4 ⟨i,ys,its,k,H4,I4,tn4,fr4,rv,w4⟩
  have pD:∀ {pl:List (Addr×Obj)}{σ':St}{H':Hp}{s':Shared},Inv (cxB X (x::frees) scope s H C fp) (pins++[(D,ap4 its k)]++pl) σ' H' s'->s'.heap.get? D=some (ap4 its k)/\H' D=none:=λ I'=>by
   have q:=I'.pin (D,ap4 its k) (ql _ (List.mem_append_left _ (ql _ List.mem_cons_self)));exact⟨q.1,q.2.1⟩
  have pins_only:∀ {pl:List (Addr×Obj)}{σ':St}{H':Hp}{s':Shared},Inv (cxB X (x::frees) scope s H C fp) (pins++pl) σ' H' s'->Inv (cxB X (x::frees) scope s H C fp) pins σ' H' s':=λ I'=>I'.unpinned
  rcases turn i n ys H4 w4 with ⟨stop,lz,qe⟩ | ⟨go,lz,step⟩
  ·refine thn (T.done (cxB X (x::frees) scope s H C fp) rfl rfl rfl hc i _ s4 _ H4 (λ _ _=>False) I4 (stat fr4) tn4 stop) λ r s5 hh0_=>?_
   obtain⟨hr,I5⟩:=hh0_;subst hr;have I5':Inv (cxB X (x::frees) scope s H C fp) (pins++[(D,ap4 its k)]++[]) (none::frv σ js) H4 s5:=by simpa using I5
   exact hR D C s5 H4 ys its k hDs hCs hDC (pins_only I5) (pD I5').2 rv (pD I5').1 lz qe
  ·refine thn (T.item (cxB X (x::frees) scope s H C fp) rfl rfl rfl hc i _ s4 _ H4 (λ _ _=>False) I4 (stat fr4) tn4 go) λ r s5 hh0_=>?_
   obtain⟨u,hr,h5⟩:=hh0_;subst hr;refine thn h5 λ _ s6 hh0_=>?_
   obtain⟨y,H6,I6,r6,y6,tn6,fr6⟩:=hh0_;have I6':=I6.pinned (stat fr6) (T.obj _ _ tn6);have hx:Loc (cxB X (x::frees) scope s H C fp).env.scope x:=.inl (lookup_relabel_local B.own)
   have dfs:D∉(cxB X (x::frees) scope s H C fp).fs:=λ z=>by
    rcases qp (I.stkSub D z) with e | e
    ·exact C_4 I.lt hDs e.symm
    ·exact I.nofs hDs e
   refine thn (am4 (X:=cxB X (x::frees) scope s H C fp) (i:=0) B.nd rfl hx (.inr (lookup_relabel_local B.own)) _ s6 _ H6 y u (λ σ' H'=>σ'=some y::frv σ js/\tt σ' H' λ b H2 =>
    if b=true then te (some y::frv σ js) H2 λ v H3=>∃ m',m'<n/\W (i+1) m' (ys++[v]) H3 else ∃ m',m'<n/\W (i+1) m' ys H2) I6' r6 ⟨rfl,step y H6 y6⟩) λ _ s7 ⟨σ7,H7,I7,e7,q7⟩=>?_
   subst e7;have back:∀ {σ':St}{H':Hp}{s':Shared},Inv (cxB X (x::frees) scope s H C fp) (pins++[(D,ap4 its k)]++R_0 fp s6.heap) σ' H' s'->(∀ b∈fp,∀ o,s6.heap.get? b=some o->s'.heap.get? b=some o)/\∀ b∈fp,H' b=none:=λ {σ' H' s'} I' =>
    ⟨λ b hb o e=>(I'.pin (b,o) (ql _ (ql _ (v_0 hb e)))).1,λ b hb=>by
     obtain⟨o,e,_⟩:=T.obj _ _ tn6 b hb;exact (I'.pin (b,o) (ql _ (ql _ (v_0 hb e)))).2.1⟩
   have forget:∀ {pl:List (Addr×Obj)}{H':Hp}{s':Shared},Inv (cxB X (x::frees) scope s H C fp) pl (some y::frv σ js) H' s'->Inv (cxB X (x::frees) scope s H C fp) pl (none::frv σ js) H' s':=λ I' =>
    I'.weak rfl λ j v e=>by
     cases j with
     |zero=>simp at e
     |succ j=>simpa using e
   refine thn (ht s H C fp _ s7 _ H7 _ I7 q7) λ ok s8 hh0_=>?_
   obtain⟨H8,I8,q8⟩:=hh0_;cases ok with
   |false =>
    rw[if_neg Bool.false_ne_true] at q8 ⊢;obtain⟨m',hm,w8⟩:=q8;obtain⟨b1,b2⟩:=back I8;exact⟨m',hm,i+1,ys,its,k,H8,forget I8.unpinned,T.keep _ _ _ tn6 b1,b2,rv,w8⟩
   |true =>
    rw[if_pos rfl] at q8 ⊢;refine thn (he s H C fp _ s8 _ H8 _ I8 q8) λ v s9 hh0_=>?_
    obtain⟨vv,H9,I9,r9,m',hm,w9⟩:=hh0_;obtain⟨gD9,nD9⟩:=pD I9;obtain⟨b1,b2⟩:=back I9;have hlen:=rv.length;refine call_meets F.slot_list_append ⟨_,gD9,rfl⟩ F.entry_list_append (F.args_list_append_2 _ _) (PySem.list_append D its.toArray k v (by rw[List.size_toArray];omega)) ⟨gD9,?_⟩
    have ea:its.toArray.push v=(its++[v]).toArray:=by simp
    obtain⟨k',q⟩:∃ k',(s9.heap.update D (Obj.mapSeq (·.push v))).get? D=some (ap4 (its++[v]) k'):=by
     have q0:=PySem.IsL.update gD9 (·.push v);rw[ea] at q0;exact⟨_,q0⟩
    have oth:∀ b o,b≠D->s9.heap.get? b=some o->(s9.heap.update D (Obj.mapSeq (·.push v))).get? b=some o:=λ b o hb e=>(Heap.get?_update_other s9.heap (Obj.mapSeq (·.push v)) (Ne.symm hb)).trans e
    have I10:Inv (cxB X (x::frees) scope s H C fp) pins (some y::frv σ js) H9 {s9 with heap:=s9.heap.update D (Obj.mapSeq (·.push v))} :=
     (pins_only I9.unpinned).turned (t':=s9.toks) (it:=D) oth nD9 hDC (.inr hDs) (λ y' c e z=>by
      obtain⟨w',q'⟩:=I.cell y' c (sub y' c e)
      exact C_4 q'.lt hDs z) (λ p hp z=>by
      have hp':p∈pins:=by simpa [cxB] using hp
      exact C_4 (pOld p hp') hDs z)
    refine⟨m',hm,i+1,ys++[vv],its++[v],k',H9,forget (I10.pins_of λ p hp=>?_),T.keep _ _ _ tn6 λ b hb o e=>oth b o (λ z=>nDf (z▸hb)) (b1 b hb o e),b2,rv.append (.cons r9 .nil),w9⟩
    rcases List.mem_append.mp hp with z | z
    ·exact I10.pin p (ql _ z)
    ·have z':p=(D,ap4 (its++[v]) k'):=List.mem_singleton.mp z
     subst z';exact⟨q,nD9,hDC,dfs,λ w' z2=>nomatch z2⟩
 exact codeAny_compStart_list (loop _ rfl) (T.self _ 0 _ _ _ tn0 (loop _ rfl))
theorem ad4 {fp:List Addr}{D C:Addr}{s':Shared}{H':Hp}{ys:List V}{its:List Value}{n:Nat} (I:Inv X pins σ H s) (f:∀ b∈fp,aw6 X pins H b) (hD:s.heap.objs.size<=D) (J:Inv (cxB X (x::frees) scope s H C fp) pins (none::frv σ js) H' s') (nD:H' D=none) (rv:Vals ys its)
  (gD:s'.heap.get? D=some (ap4 its n)) (hz:ys.length<=sizeLine):Inv X pins σ (upd H' D (.lst ys)) s':=by
 have u:Un (frs X.stack) fp H H' s.heap s'.heap:=J.base;have hk:HOk X.prog X.w H' s'.heap:=J.hok;refine I.call' (ch:=fp) J.os ⟨u.keep,u.slot,λ b o e n' hx=>?_,u.there,λ b xs e=>?_,λ b o v e=>?_,λ b ps e=>?_⟩ (λ b o e=>?_) J.bare λ b hb=>?_
 ·rw[b_6 (C_4 (Heap.lt_size e) hD)]
  exact u.free b o e n' hx
 ·have q:=u.tups b xs e
  rw[b_6 (c_7 q nD)];exact q
 ·have q:=u.frzs b o v e
  rw[b_6 (c_7 q nD)];exact q
 ·obtain⟨more,q⟩:=u.tbls b ps e
  exact⟨more,by rw[b_6 (c_7 q nD)];exact q⟩
 ·by_cases hb:b=D
  ·subst hb
   rw[a_7] at e;cases e;exact⟨hz,its,n,rv,gD⟩
  ·rw[b_6 hb] at e
   exact (hk b o e).stay (λ c v _ q=>q) (λ c q=>by rw[b_6 (c_7 q nD)];exact q) λ c xs q=>by rw[b_6 (c_7 q nD)];exact q
 ·obtain⟨_,a2,a3,a4,a5,a6⟩:=f b hb
  exact⟨a4,a2,a5,a6⟩
theorem bd6 {C:Addr}{s':Shared}{H':Hp}{σ':St}{h':Heap} (I:Inv X pins σ H s) (J:Inv X pins σ' H' s') (hC:s.heap.objs.size<=C) (nC:H' C=none) (hs:Heap.SameBut C s'.heap h'):Inv X pins σ' H' {s' with heap:=h'}:=by
 refine J.turned (t':=s'.toks) (it:=C) (λ b o hb e=>(hs.2 b hb).trans e) nC (λ z=>?_) (.inr (Nat.le_trans I.sz hC)) (λ y c e z=>?_) λ p hp z=>?_
 ·exact C_4 I.lt hC z.symm
 ·obtain⟨v,q⟩:=I.cell y c e
  exact C_4 q.lt hC z
 ·exact C_4 (qk (I.pin p hp).1) hC z
def tLC (wi:TI) (js:List Nat) (tt:TT) (te:TE):TE:=λ σ H Q=>wi σ H (LcW js tt te σ λ ys H'=>∀ D,H' D=none->Q (.ref D) (upd H' D (.lst ys)))
theorem bb9 {wi:TI} (hc:X.calm=true) (hsc:X.env.scope=sc) (B:ScB X.N sc scope x frees js) (hi:PI X (.Name x px) iter wi) (ht:∀ s H C fp,PTs (cxB X (x::frees) scope s H C fp) ifs tt) (he:∀ s H C fp,PE (cxB X (x::frees) scope s H C fp) elt te)
  (hs:∀ v,foldedSetIterable iter X.env v=pure v:=by intro _;rfl):PE X (.ListComp elt [⟨.Name x px,iter,ifs,0⟩] scope pos) (tLC wi js tt te):=by
 intro pins s σ H Q I h;rw[eval_ListComp];refine wpAny_comprehension_free (use:=none) rfl hs (J_9 (ad3 I hsc B)) B.kind B.locs (thn (hi pins s σ H _ I h) λ v s1 h1=>thn h1 λ itv s2 h2=>?_)
 obtain⟨it,fp,tn,J,H2,e,I2,T,st2,f2,hW⟩:=h2;subst e;refine aG3 (RR:=λ acc C=>compPost (model X.prog X.w) X.A X.xe none (EP X pins σ Q) acc C) I2 hc hsc B T st2 f2 hW ht he ?_
 intro D C s' H' ys its n hD hC hDC J' nD rv gD hz q;obtain⟨m,hn,_⟩:=J'.loc;refine⟨m,hn,λ h' hs'=>?_⟩
 have A1:=ad4 I2 f2 hD J' nD rv gD hz;have nC:(upd H' D (.lst ys)) C=none:=by rw[b_6 (Ne.symm hDC)];exact J'.free
 exact⟨.ref D,_,bd6 I2 A1 hC nC hs',rfl,q D nD⟩
def aX9 (i:Nat) (wi:TI) (js:List Nat) (tt:TT) (te:TE):TS:=λ D σ H=>wi σ H (LcW js tt te σ λ ys H'=>∀ a,H' a=none->D.nx (σ.set i (some (.ref a))) (upd H' a (.lst ys)))
theorem L_8 {wi:TI}{i:Nat}{y:Str}{py spos:Pos} (hN:X.N.Nodup) (hi':X.N[i]?=some y) (hy:X.env.scope.names.lookup y=some .local) (hc:X.calm=true) (hsc:X.env.scope=sc) (B:ScB X.N sc scope x frees js) (hi:PI X (.Name x px) iter wi)
  (ht:∀ s H C fp,PTs (cxB X (x::frees) scope s H C fp) ifs tt) (he:∀ s H C fp,PE (cxB X (x::frees) scope s H C fp) elt te)
  (hsw:swapsWith (.ListComp elt [⟨.Name x px,iter,ifs,0⟩] scope pos) (some (.Name y py)) spos.line X.env=pure true:=by rfl)
  (hs:∀ v,foldedSetIterable iter X.env v=pure v:=by intro _;rfl):PS X (.Assign [.Name y py] (.ListComp elt [⟨.Name x px,iter,ifs,0⟩] scope pos) spos) (aX9 i wi js tt te):=by
 intro pins s σ H D I h;rw[exec_Assign_Name_used _ _ _ _ hsw];refine qb (wpAny_standAt (qb ?_));show wpAny _ X.A (do let _ <- comprehension (.ListComp elt [⟨.Name x px,iter,ifs,0⟩] scope pos) scope X.env _ (newList []) false (eval iter X.env) (some (assign (.Name y py) X.env))) _ _ s;refine qb (wpAny_mono (wpAny_comprehension_free (use:=some (assign (.Name y py) X.env)) (Q:=λ _ s'=>SP X pins D .next s') rfl hs (J_9 (ad3 I hsc B)) B.kind B.locs
  (thn (hi pins s σ H _ I h) λ v s1 h1=>thn h1 λ itv s2 h2=>?_)) (λ _ s' q=>qc (qc q)) λ _ _ z=>z)
 obtain⟨it,fp,tn,J,H2,e,I2,T,st2,f2,hW⟩:=h2;subst e;refine aG3 (RR:=λ acc C=>compPost (model X.prog X.w) X.A X.xe (some (assign (.Name y py) X.env)) (λ _ s'=>SP X pins D .next s') acc C) I2 hc hsc B T st2 f2 hW ht he ?_
 intro a C s' H' ys its n hD hC hDC J' nD rv gD hz q;have A1:=ad4 I2 f2 hD J' nD rv gD hz;have nC:(upd H' a (.lst ys)) C=none:=by rw[b_6 (Ne.symm hDC)];exact J'.free
 obtain⟨m,hn,_⟩:=J'.loc;have hL:C≠X.env.locals:=aF9 I2.lt hC;show wpAny _ X.A (assign (.Name y py) X.env (.ref a)) _ _ s';refine wpAny_assign_Name (P_8 A1 hN hi' (.inl hy) (v:=.ref a) rfl (λ s3 I3 hh0_=>?_) (.inr hy))
 obtain⟨b,sb,hb⟩:=hh0_
 have nb:C≠b:=by
  rcases hb with z | z
  ·rw[z];exact hL
  ·intro e
   obtain⟨v,q'⟩:=I2.cell y b z;exact C_4 q'.lt hC e.symm
 obtain⟨o,es,ep,ho,r⟩:=hn;refine⟨m,⟨o,es,ep,(sb.2 C nb).trans ho,r⟩,λ h' hs'=>?_⟩
 exact⟨_,_,bd6 I2 I3 hC nC hs',q a nD⟩
end
end L2
namespace Fx
open PySem
inductive D where
 |non | bl (b:Bool) | int (i:Int) | str (x:Str) | tup (xs:List D) | lst (xs:List D)
 |opq
 |dct (ks:List Str) (vs:List D)
inductive MO where
 |lst (xs:List D) | dic (kvs:List (Str×D))
inductive Sl where
 |no | im (d:D) | ow (b:Bool) (o:MO)
abbrev En:=List Sl
inductive Res where
 |nx (ρ:En) | rt (d:D) (ρ:En) | bk (ρ:En) | ct (ρ:En)
abbrev FE:=En->Option (D×En)
abbrev FT:=En->Option (Bool×En)
abbrev FA:=En->Option (List D×En)
abbrev FS:=En->Option Res
def bnd {α β:Type} (x:Option α) (f:α->Option β):Option β:=x.bind f
theorem b_8 {α β:Type} (a:α) (f:α->Option β):bnd (some a) f=f a:=rfl
mutual
def eqD:D->D->Bool
 |.non,.non=>true
 |.bl a,.bl b=>a==b
 |.bl a,.int b=>(if a then 1 else 0)==b
 |.int a,.bl b=>a==(if b then 1 else 0)
 |.int a,.int b=>a==b
 |.str a,.str b=>a==b
 |.tup a,.tup b=>I_1 a b
 |.lst a,.lst b=>I_1 a b
 |_,_=>false
def I_1:List D->List D->Bool
 |[],[]=>true
 |a::r,b::t=>eqD a b&&I_1 r t
 |_,_=>false
end
@[simp] theorem aQ4 :eqD .non .non=true:=by rw[eqD]
@[simp] theorem aV2 (y:Bool):eqD .non (.bl y)=false:=by simp[eqD]
@[simp] theorem aQ6 (y:Int):eqD .non (.int y)=false:=by simp[eqD]
@[simp] theorem aQ3 (y:Str):eqD .non (.str y)=false:=by simp[eqD]
@[simp] theorem aQ2 (y:List D):eqD .non (.tup y)=false:=by simp[eqD]
@[simp] theorem aQ5 (y:List D):eqD .non (.lst y)=false:=by simp[eqD]
@[simp] theorem aV7 (x:Bool):eqD (.bl x) .non=false:=by simp[eqD]
@[simp] theorem bg9 (x:Bool) (y:Bool):eqD (.bl x) (.bl y)=decide (x=y):=by rw[eqD];exact Bool.beq_eq_decide_eq _ _
@[simp] theorem aV9 (x:Bool) (y:Int):eqD (.bl x) (.int y)=((if x then 1 else 0)==y):=by rw[eqD]
@[simp] theorem aV6 (x:Bool) (y:Str):eqD (.bl x) (.str y)=false:=by simp[eqD]
@[simp] theorem aV5 (x:Bool) (y:List D):eqD (.bl x) (.tup y)=false:=by simp[eqD]
@[simp] theorem aV8 (x:Bool) (y:List D):eqD (.bl x) (.lst y)=false:=by simp[eqD]
@[simp] theorem aR4 (x:Int):eqD (.int x) .non=false:=by simp[eqD]
@[simp] theorem aV4 (x:Int) (y:Bool):eqD (.int x) (.bl y)=(x==(if y then 1 else 0)):=by rw[eqD]
@[simp] theorem aR6 (x:Int) (y:Int):eqD (.int x) (.int y)=decide (x=y):=by rw[eqD];exact Bool.beq_eq_decide_eq _ _
@[simp] theorem aR3 (x:Int) (y:Str):eqD (.int x) (.str y)=false:=by simp[eqD]
@[simp] theorem aR2 (x:Int) (y:List D):eqD (.int x) (.tup y)=false:=by simp[eqD]
@[simp] theorem aR5 (x:Int) (y:List D):eqD (.int x) (.lst y)=false:=by simp[eqD]
@[simp] theorem aP9 (x:Str):eqD (.str x) .non=false:=by simp[eqD]
@[simp] theorem aV1 (x:Str) (y:Bool):eqD (.str x) (.bl y)=false:=by simp[eqD]
@[simp] theorem aQ1 (x:Str) (y:Int):eqD (.str x) (.int y)=false:=by simp[eqD]
@[simp] theorem Z_5 (x:Str) (y:Str):eqD (.str x) (.str y)=decide (x=y):=by rw[eqD];exact Bool.beq_eq_decide_eq _ _
@[simp] theorem aP8 (x:Str) (y:List D):eqD (.str x) (.tup y)=false:=by simp[eqD]
@[simp] theorem aQ0 (x:Str) (y:List D):eqD (.str x) (.lst y)=false:=by simp[eqD]
@[simp] theorem aP5 (x:List D):eqD (.tup x) .non=false:=by simp[eqD]
@[simp] theorem aV0 (x:List D) (y:Bool):eqD (.tup x) (.bl y)=false:=by simp[eqD]
@[simp] theorem aP7 (x:List D) (y:Int):eqD (.tup x) (.int y)=false:=by simp[eqD]
@[simp] theorem aP4 (x:List D) (y:Str):eqD (.tup x) (.str y)=false:=by simp[eqD]
@[simp] theorem aP3 (x:List D) (y:List D):eqD (.tup x) (.tup y)=I_1 x y:=by rw[eqD]
@[simp] theorem aP6 (x:List D) (y:List D):eqD (.tup x) (.lst y)=false:=by simp[eqD]
@[simp] theorem aQ9 (x:List D):eqD (.lst x) .non=false:=by simp[eqD]
@[simp] theorem aV3 (x:List D) (y:Bool):eqD (.lst x) (.bl y)=false:=by simp[eqD]
@[simp] theorem aR1 (x:List D) (y:Int):eqD (.lst x) (.int y)=false:=by simp[eqD]
@[simp] theorem aQ8 (x:List D) (y:Str):eqD (.lst x) (.str y)=false:=by simp[eqD]
@[simp] theorem aQ7 (x:List D) (y:List D):eqD (.lst x) (.tup y)=false:=by simp[eqD]
@[simp] theorem aR0 (x:List D) (y:List D):eqD (.lst x) (.lst y)=I_1 x y:=by rw[eqD]
@[simp] theorem bv1:I_1 [] []=true:=by rw[I_1]
@[simp] theorem bv4 (a b:D) (r t:List D):I_1 (a::r) (b::t)=(eqD a b&&I_1 r t):=by rw[I_1]
@[simp] theorem bv2 (b:D) (t:List D):I_1 [] (b::t)=false:=by simp[I_1]
@[simp] theorem bv3 (b:D) (t:List D):I_1 (b::t) []=false:=by simp[I_1]
mutual
def dpD:D->Nat
 |.tup xs=>ai2 xs+1
 |.lst xs=>ai2 xs+1
 |.opq=>1000
 |.dct _ _=>1000
 |_=>0
def ai2:List D->Nat
 |[]=>0
 |d::r=>max (dpD d) (ai2 r)
end
@[simp] theorem d_3:dpD .opq=1000:=rfl
@[simp] theorem d_4 (ks:List Str) (vs:List D):dpD (.dct ks vs)=1000:=rfl
@[simp] theorem bx9:dpD .non=0:=rfl
@[simp] theorem bF2 (b:Bool):dpD (.bl b)=0:=rfl
@[simp] theorem by0 (i:Int):dpD (.int i)=0:=rfl
@[simp] theorem aT0 (x:Str):dpD (.str x)=0:=rfl
@[simp] theorem k_2 (xs:List D):dpD (.tup xs)=ai2 xs+1:=rfl
@[simp] theorem k_3 (xs:List D):dpD (.lst xs)=ai2 xs+1:=rfl
@[simp] theorem bl7:ai2 []=0:=rfl
@[simp] theorem F_4 (d:D) (r:List D):ai2 (d::r)=max (dpD d) (ai2 r):=rfl
def aj9 (i:Int):Bool:=decide (i.natAbs<2 ^ 1000)
def l_6 (i j:Int):Bool:=decide (i.natAbs<2 ^ 64)||decide (j.natAbs<2 ^ 64)||(aj9 i&&aj9 j)
def z_7 (j:Int):Bool:=decide (j≠0)&&decide (j.natAbs<2 ^ 1000)
def n_9:D->D->Option D
 |.int i,.int j=>some (.int (i+j))
 |.str a,.str b=>if a.length+b.length<=sizeLine then some (.str (a++b)) else none
 |.lst a,.lst b=>if a.length+b.length<=sizeLine then some (.lst (a++b)) else none
 |_,_=>none
def N_8:D->D->Option D
 |.int i,.int j=>some (.int (i-j))
 |_,_=>none
def V_5:D->D->Option D
 |.int i,.int j=>if l_6 i j=true then some (.int (i*j)) else none
 |_,_=>none
def aC5:D->D->Option D
 |.int i,.int j=>if z_7 j=true then some (.int (i.fdiv j)) else none
 |_,_=>none
def k_0:D->D->Option D
 |.int i,.int j=>if j≠0 then some (.int (i.fmod j)) else none
 |_,_=>none
def aW1:D->D->Option D
 |.int i,.int j=>if 0<=j/\j<=64/\i.natAbs<2 ^ 64 then some (.int (i ^ j.toNat)) else none
 |_,_=>none
def bl8:D->Option D
 |.int i=>some (.int (-i))
 |_=>none
def bj2 (p:Int->Int->Bool):D->D->Option D
 |.int i,.int j=>some (.bl (p i j))
 |_,_=>none
def dLt:D->D->Option D:=bj2 λ i j=>decide (i<j)
def dLe:D->D->Option D:=bj2 λ i j=>decide (i<=j)
def dGt:D->D->Option D:=bj2 λ i j=>decide (j<i)
def dGe:D->D->Option D:=bj2 λ i j=>decide (j<=i)
def dEq (x y:D):Option D:=if dpD x<=30/\dpD y<=30 then some (.bl (eqD x y)) else none
def dNe (x y:D):Option D:=if dpD x<=30/\dpD y<=30 then some (.bl (!eqD x y)) else none
def isN:D->Bool
 |.non=>true
 |_=>false
@[simp] theorem bu0:isN .opq=false:=rfl
@[simp] theorem bu4 (ks:List Str) (vs:List D):isN (.dct ks vs)=false:=rfl
@[simp] theorem bu1:isN .non=true:=rfl
@[simp] theorem bC4 (b:Bool):isN (.bl b)=false:=rfl
@[simp] theorem bu3 (b:Int):isN (.int b)=false:=rfl
@[simp] theorem bt9 (b:Str):isN (.str b)=false:=rfl
@[simp] theorem bt8 (b:List D):isN (.tup b)=false:=rfl
@[simp] theorem bu2 (b:List D):isN (.lst b)=false:=rfl
def dIs (x y:D):Option D:=match y with
 |.non=>some (.bl (isN x))
 |_=>none
def n_8 (x y:D):Option D:=match y with
 |.non=>some (.bl (!isN x))
 |_=>none
def aB9:D->Option Bool
 |.non=>some false
 |.bl b=>some b
 |.int i=>some (i != 0)
 |.lst xs=>some (!xs.isEmpty)
 |.tup xs=>some (!xs.isEmpty)
 |_=>none
def dPl (n:Nat) (i:Int):Option Nat:=if 0<=i then (if i<n then some i.toNat else none) else if -(n:Int)<=i then some (i+n).toNat else none
def atD (xs:List D) (i:Int):Option D:=(dPl xs.length i).bind λ j=>xs[j]?
def ae8 (n d:Nat):Option Int->Nat
 |none=>d
 |some v=>(if v<0 then max (v+(n:Int)) 0 else min v (n:Int)).toNat
def aI1 (xs:List D) (lo hi:Option Int):List D:=(xs.drop (ae8 xs.length 0 lo)).take (ae8 xs.length xs.length hi-ae8 xs.length 0 lo)
def aU2:List D->Option D
 |[.int i]=>some (.int (if i<0 then -i else i))
 |_=>none
def J_6:List D->Option (List Int)
 |[]=>some []
 |.int i::r=>bnd (J_6 r) λ is=>some (i::is)
 |_=>none
theorem Z_0 (i:Int) (r:List D):J_6 (.int i::r)=bnd (J_6 r) λ is=>some (i::is):=rfl
def ah5:Int->List Int->Int
 |m,[]=>m
 |m,x::r=>ah5 (if x<m then x else m) r
def ah6:Int->List Int->Int
 |m,[]=>m
 |m,x::r=>ah6 (if m<x then x else m) r
def aT8 (f:Int->List Int->Int):List Int->Option D
 |[]=>none
 |i::r=>some (.int (f i r))
def aU0:List D->Option D
 |[.int i,.int j]=>some (.int (if j > i then j else i))
 |[.lst xs]=>bnd (J_6 xs) λ is=>aT8 ah6 is
 |_=>none
def bm2:List D->Option D
 |[.int i,.int j]=>some (.int (if j<i then j else i))
 |[.lst xs]=>bnd (J_6 xs) λ is=>aT8 ah5 is
 |_=>none
inductive Ty where
 |int | bool | str | tuple | list
def slV (ρ:En):Option Sl->Option (D×En)
 |some (.im d)=>some (d,ρ)
 |_=>none
def eV (i:Nat) (ρ:En):Option (D×En):=slV ρ ρ[i]?
def aH6:FE:=λ _=>none
def eC (d:D) (ρ:En):Option (D×En):=some (d,ρ)
def e1 (op:D->Option D) (F:FE) (ρ:En):Option (D×En):=bnd (F ρ) λ p=>bnd (op p.1) λ d=>some (d,p.2)
def e2 (op:D->D->Option D) (F G:FE) (ρ:En):Option (D×En):=bnd (F ρ) λ p=>bnd (G p.2) λ q=>bnd (op p.1 q.1) λ d=>some (d,q.2)
def blB:D->Option Bool
 |.bl b=>some b
 |_=>none
def e3 (op op':D->D->Option D) (F G L:FE) (ρ:En):Option (D×En):=bnd (F ρ) λ p=>bnd (G p.2) λ q=>bnd (op p.1 q.1) λ z=>bnd (blB z) λ b =>
 if b=true then bnd (L q.2) λ r=>bnd (op' q.1 r.1) λ d=>some (d,r.2) else some (.bl false,q.2)
def aN (ρ:En):Option (List D×En):=some ([],ρ)
def aC (F:FE) (A:FA) (ρ:En):Option (List D×En):=bnd (F ρ) λ p=>bnd (A p.2) λ q=>some (p.1::q.1,q.2)
def q_7 (A:FA) (ρ:En):Option (D×En):=bnd (A ρ) λ p=>if p.1.length<=1000 then some (.tup p.1,p.2) else none
def P_2 (A:FA) (ρ:En):Option (D×En):=bnd (A ρ) λ p=>if p.1.length<=1000 then some (.lst p.1,p.2) else none
def eF (g:List D->Option D) (A:FA) (ρ:En):Option (D×En):=bnd (A ρ) λ p=>bnd (g p.1) λ d=>some (d,p.2)
abbrev FO:=En->Option (Option Int×En)
def bl2:D->Option Int
 |.int i=>some i
 |_=>none
def oN (ρ:En):Option (Option Int×En):=some (none,ρ)
def oS (F:FE) (ρ:En):Option (Option Int×En):=bnd (F ρ) λ p=>bnd (bl2 p.1) λ i=>some (some i,p.2)
def tB (F:FE) (ρ:En):Option (Bool×En):=bnd (F ρ) λ p=>bnd (blB p.1) λ b=>some (b,p.2)
def tV (F:FE) (ρ:En):Option (Bool×En):=bnd (F ρ) λ p=>bnd (aB9 p.1) λ b=>some (b,p.2)
def tAnd (T U:FT) (ρ:En):Option (Bool×En):=bnd (T ρ) λ p=>if p.1=true then U p.2 else some (false,p.2)
def tOr (T U:FT) (ρ:En):Option (Bool×En):=bnd (T ρ) λ p=>if p.1=true then some (true,p.2) else U p.2
def tNot (T:FT) (ρ:En):Option (Bool×En):=bnd (T ρ) λ p=>some (!p.1,p.2)
def tYes (ρ:En):Option (Bool×En):=some (true,ρ)
def eIf (T:FT) (F G:FE) (ρ:En):Option (D×En):=bnd (T ρ) λ p=>if p.1=true then F p.2 else G p.2
def aH9 (F G:FE) (ρ:En):Option (D×En):=bnd (F ρ) λ p=>bnd (blB p.1) λ b=>if b=true then G p.2 else some (.bl false,p.2)
def eOr (F G:FE) (ρ:En):Option (D×En):=bnd (F ρ) λ p=>bnd (blB p.1) λ b=>if b=true then some (.bl true,p.2) else G p.2
def slI:Option Sl->Option Sl
 |some (.im d)=>some (.im d)
 |_=>none
def V_4 (ρ:En):List Nat->Option En
 |[]=>some []
 |j::js=>bnd (slI ρ[j]?) λ s=>bnd (V_4 ρ js) λ r=>some (s::r)
theorem ar6 (ρ:En) (j:Nat) (js:List Nat):V_4 ρ (j::js)=bnd (slI ρ[j]?) λ s=>bnd (V_4 ρ js) λ r=>some (s::r):=rfl
def cGo (T:FT) (F:FE) (fr:En):List D->Option (List D)
 |[]=>some []
 |d::r=>bnd (T (.im d::fr)) λ p=>if p.1=true then bnd (F p.2) λ q=>bnd (cGo T F fr r) λ t=>some (q.1::t) else cGo T F fr r
theorem aT6 (T:FT) (F:FE) (fr:En):cGo T F fr []=some []:=rfl
theorem aD2 (T:FT) (F:FE) (fr:En) (d:D) (r:List D):cGo T F fr (d::r)=bnd (T (.im d::fr)) λ p=>if p.1=true then bnd (F p.2) λ q=>bnd (cGo T F fr r) λ t=>some (q.1::t) else cGo T F fr r:=rfl
def chS (c:Nat):Str:=⟨#[c]⟩
def chs (z:Str):List D:=z.cps.toList.map λ c=>.str (chS c)
def items:D->Option (List D)
 |.lst xs=>some xs
 |.tup xs=>some xs
 |.str z=>some (chs z)
 |_=>none
def eLC (js:List Nat) (I:FE) (T:FT) (F:FE) (ρ:En):Option (D×En):=bnd (I ρ) λ p=>bnd (items p.1) λ xs=>bnd (V_4 p.2 js) λ fr=>bnd (cGo T F fr xs) λ ys=>if xs.length<=sizeLine then some (.lst ys,p.2) else none
def sN (ρ:En):Option Res:=some (.nx ρ)
def nxR (G:FS):Res->Option Res
 |.nx ρ'=>G ρ'
 |.rt d ρ=>some (.rt d ρ)
 |.bk ρ=>some (.bk ρ)
 |.ct ρ=>some (.ct ρ)
def b_7 (F G:FS) (ρ:En):Option Res:=bnd (F ρ) λ r=>nxR G r
def d_7 (i:Nat) (F:FE) (ρ:En):Option Res:=bnd (F ρ) λ p=>some (.nx (p.2.set i (.im p.1)))
def t_8:List Nat->List D->En->En
 |i::is,d::ds,ρ=>t_8 is ds (ρ.set i (.im d))
 |_,_,ρ=>ρ
theorem W_2 (i:Nat) (is:List Nat) (d:D) (ds:List D) (ρ:En):t_8 (i::is) (d::ds) ρ=t_8 is ds (ρ.set i (.im d)):=rfl
theorem ag6 (ds:List D) (ρ:En):t_8 [] ds ρ=ρ:=by cases ds <;> rfl
def bn3:D->Option (List D)
 |.tup xs=>some xs
 |.lst xs=>some xs
 |_=>none
def gN (i:Nat) (d:D) (ρ:En):Option En:=some (ρ.set i (.im d))
def gT (is:List Nat) (d:D) (ρ:En):Option En:=bnd (bn3 d) λ xs=>if xs.length=is.length then some (t_8 is xs ρ) else none
def bk1 (is:List Nat) (F:FE) (ρ:En):Option Res:=bnd (F ρ) λ p=>bnd (gT is p.1 p.2) λ ρ'=>some (.nx ρ')
def sIf (T:FT) (F G:FS) (ρ:En):Option Res:=bnd (T ρ) λ p=>if p.1=true then F p.2 else G p.2
def e_8 (F:FE) (ρ:En):Option Res:=bnd (F ρ) λ p=>some (.rt p.1 p.2)
def goR (G:FS):Res->Option Res
 |.nx ρ=>G ρ
 |.ct ρ=>G ρ
 |.bk ρ=>some (.nx ρ)
 |.rt d ρ=>some (.rt d ρ)
def fGo (g:D->En->Option En) (B:FS):List D->FS
 |[],ρ=>some (.nx ρ)
 |d::r,ρ=>bnd (g d ρ) λ ρ1=>bnd (B ρ1) λ z=>goR (fGo g B r) z
theorem aP2 (g:D->En->Option En) (B:FS) (ρ:En):fGo g B [] ρ=some (.nx ρ):=rfl
theorem aB5 (g:D->En->Option En) (B:FS) (d:D) (r:List D) (ρ:En):fGo g B (d::r) ρ=bnd (g d ρ) λ ρ1=>bnd (B ρ1) λ z=>goR (fGo g B r) z:=rfl
def P_1 (lo:Int):Nat->List D
 |0=>[]
 |n+1=>.int lo::P_1 (lo+1) n
def aK7 (F:FE) (ρ:En):Option (List D×En):=bnd (F ρ) λ p=>bnd (bl2 p.1) λ j=>if -(2 ^ 62)<=j/\j<2 ^ 62 then some (P_1 0 j.toNat,p.2) else none
def W_4 (g:D->En->Option En) (R:FA) (B:FS) (ρ:En):Option Res:=bnd (R ρ) λ p=>fGo g B p.1 p.2
def wGo (T:FT) (B:FS):Nat->FS
 |0,_=>none
 |n+1,ρ=>bnd (T ρ) λ p=>if p.1=true then bnd (B p.2) λ z=>goR (wGo T B n) z else some (.nx p.2)
theorem ax3 (T:FT) (B:FS) (n:Nat) (ρ:En):wGo T B (n+1) ρ=bnd (T ρ) λ p=>if p.1=true then bnd (B p.2) λ z=>goR (wGo T B n) z else some (.nx p.2):=rfl
def Q_6 (fuel:En->Nat) (T:FT) (B:FS) (ρ:En):Option Res:=wGo T B (fuel ρ) ρ
def bk9 (A:FA) (ρ:En):Option (List D×En):=bnd (A ρ) λ p=>if p.1.length<=1000 then some p else none
def bk2 (i:Nat) (A:FA) (ρ:En):Option Res:=bnd (A ρ) λ p=>some (.nx (p.2.set i (.ow false (.lst p.1))))
def owL:Option Sl->Option (List D)
 |some (.ow false (.lst ds))=>some ds
 |_=>none
def bk6 (i:Nat) (F:FE) (ρ:En):Option Res:=bnd (owL ρ[i]?) λ _=>bnd (F ρ) λ p=>bnd (owL p.2[i]?) λ ds=>if ds.length<1000000 then some (.nx (p.2.set i (.ow false (.lst (ds++[p.1]))))) else none
def frz (i:Nat) (ρ:En):En:=match ρ[i]? with
 |some (.ow false (.lst ds))=>ρ.set i (.im (.lst ds))
 |_=>ρ
def bk4 (i:Nat) (F:FS) (ρ:En):Option Res:=F (frz i ρ)
def bq7:Res->Option D
 |.rt d _=>some d
 |.nx _=>some .non
 |_=>none
def fnD (n k:Nat) (B:FS) (ds:List D):Option D:=if ds.length=n then bnd (B (ds.map .im++List.replicate k .no)) λ r=>bq7 r else none
end Fx
namespace Fx
open PySem PySem.Spec PyProof.Rows L2
mutual
def Rep (K:Frag) (H:Hp):D->V->Prop
 |.non,v=>v=.non
 |.bl b,v=>v=.bl b
 |.int i,v=>v=.int i
 |.str x,v=>v=.str x
 |.tup ds,v=>∃ a vs,v=.ref a/\SqT K H a vs/\Reps K H ds vs
 |.lst ds,v=>∃ a vs,v=.ref a/\SqL K H a vs/\Reps K H ds vs
 |.opq,v=>∃ a kvs,v=.ref a/\H a=some (.dK kvs)
 |.dct ks ds,v=>∃ a o vs,v=.ref a/\H a=some (.frz o (.dK ((ks.map Sum.inr).zip vs)))/\Reps K H ds vs/\ks.length=ds.length
def Reps (K:Frag) (H:Hp):List D->List V->Prop
 |[],vs=>vs=[]
 |d::ds,vs=>∃ v r,vs=v::r/\Rep K H d v/\Reps K H ds r
end
theorem Same.rd {H H':Hp}{a:Addr}{u:HO} (e:Same H H') (h:Rd H a u):Rd H' a u:=by
 rcases h with h | ⟨o,h⟩
 ·exact .inl (e _ _ h)
 ·exact .inr ⟨o,e _ _ h⟩
theorem Same.seqT {K:Frag}{H H':Hp}{a:Addr}{xs:List V} (e:Same H H') (h:SqT K H a xs):SqT K H' a xs:=by
 rcases h with h | h
 ·exact .inl (Same.rd e h)
 ·exact .inr h
section
variable {K:Frag}{H H':Hp}
mutual
theorem Rep.mono (e:Same H H'):∀ (d:D) {v:V},Rep K H d v->Rep K H' d v
 |.non,_,h=>h
 |.bl _,_,h=>h
 |.int _,_,h=>h
 |.str _,_,h=>h
 |.tup ds,_,h=>by
  unfold Rep at h ⊢;obtain⟨a,vs,q,s,r⟩:=h;exact⟨a,vs,q,Same.seqT e s,Reps.mono e ds r⟩
 |.lst ds,_,h=>by
  unfold Rep at h ⊢;obtain⟨a,vs,q,s,r⟩:=h;exact⟨a,vs,q,Same.seq e s,Reps.mono e ds r⟩
 |.opq,_,h=>by
  unfold Rep at h ⊢;obtain⟨a,kvs,q,s⟩:=h;exact⟨a,kvs,q,e _ _ s⟩
 |.dct ks ds,_,h=>by
  unfold Rep at h ⊢;obtain⟨a,o,vs,q,s,r,l⟩:=h;exact⟨a,o,vs,q,e _ _ s,Reps.mono e ds r,l⟩
theorem Reps.mono (e:Same H H'):∀ (ds:List D) {vs:List V},Reps K H ds vs->Reps K H' ds vs
 |[],_,h=>h
 |d::ds,_,h=>by
  unfold Reps at h ⊢;obtain⟨v,r,q,s,t⟩:=h;exact⟨v,r,q,Rep.mono e d s,Reps.mono e ds t⟩
end
theorem Reps.length:∀ {ds:List D}{vs:List V},Reps K H ds vs->ds.length=vs.length
 |[],_,h=>by unfold Reps at h;rw[h];rfl
 |d::ds,_,h=>by
  unfold Reps at h;obtain⟨v,r,q,_,t⟩:=h;rw[q,List.length_cons,List.length_cons,Reps.length t]
theorem Reps.get:∀ {ds:List D}{vs:List V}{i:Nat}{d:D},Reps K H ds vs->ds[i]?=some d->∃ v,vs[i]?=some v/\Rep K H d v
 |[],_,_,_,_,e=>by simp at e
 |d::ds,_,0,_,h,e=>by
  unfold Reps at h;obtain⟨v,r,rfl,s,_⟩:=h;simp at e;subst e;exact⟨v,rfl,s⟩
 |d::ds,_,i+1,d',h,e=>by
  unfold Reps at h;obtain⟨v,r,rfl,_,t⟩:=h;obtain⟨w,a,b⟩:=Reps.get (i:=i) (d:=d') t (by simpa using e)
  exact⟨w,by simpa using a,b⟩
theorem Reps.app:∀ {ds es:List D}{vs ws:List V},Reps K H ds vs->Reps K H es ws->Reps K H (ds++es) (vs++ws)
 |[],_,_,_,h,h'=>by unfold Reps at h;rw[h];exact h'
 |d::ds,es,_,ws,h,h'=>by
  unfold Reps at h;obtain⟨v,r,rfl,s,t⟩:=h;show Reps K H (d::(ds++es)) (v::(r++ws));unfold Reps;exact⟨v,r++ws,rfl,s,Reps.app t h'⟩
theorem Reps.take:∀ {ds:List D}{vs:List V} (n:Nat),Reps K H ds vs->Reps K H (ds.take n) (vs.take n)
 |[],_,n,h=>by unfold Reps at h;rw[h];simp[Reps]
 |d::ds,vs,0,h=>by simp[Reps]
 |d::ds,_,n+1,h=>by
  unfold Reps at h;obtain⟨v,r,rfl,s,t⟩:=h;show Reps K H (d::ds.take n) (v::r.take n);unfold Reps;exact⟨v,r.take n,rfl,s,Reps.take n t⟩
theorem Reps.drop:∀ {ds:List D}{vs:List V} (n:Nat),Reps K H ds vs->Reps K H (ds.drop n) (vs.drop n)
 |[],_,n,h=>by unfold Reps at h;rw[h];simp[Reps]
 |d::ds,vs,0,h=>by simpa using h
 |d::ds,_,n+1,h=>by
  unfold Reps at h;obtain⟨v,r,rfl,s,t⟩:=h
  simpa using Reps.drop n t
theorem Reps.one {d:D}{v:V} (h:Rep K H d v):Reps K H [d] [v]:=by
 unfold Reps Reps;exact⟨v,[],rfl,h,rfl⟩
theorem Reps.cons {d:D}{ds:List D}{v:V}{vs:List V} (h:Rep K H d v) (t:Reps K H ds vs):Reps K H (d::ds) (v::vs):=by
 unfold Reps;exact⟨v,vs,rfl,h,t⟩
theorem Reps.nil_:Reps K H [] []:=by unfold Reps;rfl
end
structure FC where
 Hi:Hp
 He:Hp
 Ap:List Addr
def OwOk (K:Frag) (H0 H:Hp) (a:Addr):MO->Prop
 |.lst ds=>∃ vs,H a=some (.lst vs)/\Reps K H0 ds vs
 |.dic kds=>∃ ks vs,H a=some (.dK ((ks.map Sum.inr).zip vs))/\ks=kds.map (·.1)/\Reps K H0 (kds.map (·.2)) vs
structure RS (K:Frag) (c:FC) (H0 H:Hp) (ρ:En) (σ:L2.St):Prop where
 same:Same H0 H
 init:Same c.Hi H0
 fresh:∀ b o,H0 b=some o->c.Hi b=some o\/c.He b=none
 keep:∀ b o,c.He b=some o->b∉c.Ap->H b=some o
 apt:∀ a∈c.Ap,H a≠none
 len:ρ.length=σ.length
 im:∀ (i:Nat) (d:D),ρ[i]?=some (.im d)->∃ v,σ[i]?=some (some v)/\Rep K H0 d v
 ow:∀ (i:Nat) (b:Bool) (o:MO),ρ[i]?=some (.ow b o)->∃ a,σ[i]?=some (some (.ref a))/\H0 a=none/\(if b=true then a∈c.Ap else c.He a=none)/\OwOk K H0 H a o
 ne:∀ (i j:Nat) (b b':Bool) (o o':MO) (a:Addr),ρ[i]?=some (.ow b o)->ρ[j]?=some (.ow b' o')->σ[i]?=some (some (.ref a))->σ[j]?=some (some (.ref a))->i=j
section
variable {K:Frag}{c:FC}{H0 H H0' H':Hp}{ρ:En}{σ:L2.St}
theorem OwOk.some {a:Addr}{o:MO} (h:OwOk K H0 H a o):∃ u,H a=Option.some u:=by
 cases o with
 |lst ds=>obtain⟨vs,e,_⟩:=h;exact⟨_,e⟩
 |dic ds=>obtain⟨ks,vs,e,_⟩:=h;exact⟨_,e⟩
theorem OwOk.step {a:Addr}{o:MO} (h:OwOk K H0 H a o) (s0:Same H0 H0') (s:∀ u,H a=Option.some u->H' a=Option.some u):OwOk K H0' H' a o:=by
 cases o with
 |lst ds=>obtain⟨vs,e,r⟩:=h;exact⟨vs,s _ e,Reps.mono s0 ds r⟩
 |dic ds=>obtain⟨ks,vs,e,q,r⟩:=h;exact⟨ks,vs,s _ e,q,Reps.mono s0 _ r⟩
structure Step (H0 H H0' H':Hp):Prop where
 s0:Same H0 H0'
 s:Same H H'
 s':Same H0' H'
 fr:∀ b o,H0' b=some o->H0 b=some o\/H b=none
theorem RS.after (R:RS K c H0 H ρ σ) (S:Step H0 H H0' H'):RS K c H0' H' ρ σ:=by
 refine⟨S.s',R.init.trans S.s0,λ b o e=>?_,λ b o e n=>S.s _ _ (R.keep b o e n),λ a ha e=>?_,R.len,λ i d e=>?_,λ i b o e=>?_,R.ne⟩
 ·rcases S.fr b o e with h | h
  ·exact R.fresh b o h
  ·refine .inr ?_
   cases q:c.He b with
   |none=>rfl
   |some u =>
    by_cases hb:b∈c.Ap
    ·exact absurd h (R.apt b hb)
    ·rw[R.keep b u q hb] at h;cases h
 ·cases q:H a with
  |none=>exact R.apt a ha q
  |some u=>rw[S.s _ _ q] at e;cases e
 ·obtain⟨v,a,b⟩:=R.im i d e
  exact⟨v,a,Rep.mono S.s0 d b⟩
 ·obtain⟨a,x,y,z,w⟩:=R.ow i b o e
  refine⟨a,x,?_,z,w.step S.s0 λ u q=>S.s _ _ q⟩
  obtain⟨u,q⟩:=w.some;cases t:H0' a with
  |none=>rfl
  |some o' =>
   rcases S.fr a o' t with h | h
   ·rw[y] at h;cases h
   ·rw[q] at h;cases h
theorem Step.refl (s:Same H0 H):Step H0 H H0 H:=⟨Same.refl _,Same.refl _,s,λ _ _ e=>.inl e⟩
theorem Step.trans {A B:Hp} (x:Step H0 H H0' H') (y:Step H0' H' A B):Step H0 H A B:=by
 refine⟨x.s0.trans y.s0,x.s.trans y.s,y.s',λ b o e=>?_⟩
 rcases y.fr b o e with h | h
 ·exact x.fr b o h
 ·exact .inr (x.s.free h)
theorem Step.alloc {p:Addr}{o:HO} (s:Same H0 H) (hp:H p=none):Step H0 H (upd H0 p o) (upd H p o):=by
 have h0:H0 p=none:=s.free hp;refine⟨λ b u e=>by rw[b_6 (c_7 e h0)];exact e,λ b u e=>by rw[b_6 (c_7 e hp)];exact e,λ b u e=>?_,λ b u e=>?_⟩
 ·by_cases hb:b=p
  ·subst hb;rw[a_7] at e ⊢;exact e
  ·rw[b_6 hb] at e ⊢;exact s _ _ e
 ·by_cases hb:b=p
  ·subst hb;exact .inr hp
  ·rw[b_6 hb] at e;exact .inl e
end
def tE (K:Frag) (F:FE):TE:=λ σ H Q=>∃ c H0 ρ d ρ',RS K c H0 H ρ σ/\F ρ=some (d,ρ')/\∀ v H0' H',Same H0 H0'->RS K c H0' H' ρ' σ->Rep K H0' d v->Q v H'
def tTt (K:Frag) (F:FT):TT:=λ σ H Q=>∃ c H0 ρ b ρ',RS K c H0 H ρ σ/\F ρ=some (b,ρ')/\∀ H0' H',Same H0 H0'->RS K c H0' H' ρ' σ->Q b H'
def tAa (K:Frag) (F:FA):TA:=λ σ H Q=>∃ c H0 ρ ds ρ',RS K c H0 H ρ σ/\F ρ=some (ds,ρ')/\∀ vs H0' H',Same H0 H0'->RS K c H0' H' ρ' σ->Reps K H0' ds vs->Q vs H'
def tOo (K:Frag) (F:FO):TO:=λ σ H Q=>∃ c H0 ρ o ρ',RS K c H0 H ρ σ/\F ρ=some (o,ρ')/\∀ H0' H',Same H0 H0'->RS K c H0' H' ρ' σ->Q o H'
def XE (X:Cx) (e:Expr) (F:FE):Prop:=PE X e (tE X.K F)
def XT (X:Cx) (e:Expr) (F:FT):Prop:=PT X e (tTt X.K F)
def XW (X:Cx) (e:Expr) (F:FT):Prop:=PW X e (tTt X.K F)
def XA (X:Cx) (es:List Expr) (F:FA):Prop:=PA X es (tAa X.K F)
def XO (X:Cx) (e:Option Expr) (F:FO):Prop:=PO X e (tOo X.K F)
theorem a_2 {α β:Type}{x:Option α}{f:α->Option β}{b:β} (h:bnd x f=some b):∃ a,x=some a/\f a=some b:=by
 cases x with
 |none=>cases h
 |some a=>exact⟨a,rfl,h⟩
theorem PE.wk {X:Cx}{e:Expr}{t t':TE} (h:PE X e t) (w:∀ σ H Q,t' σ H Q->t σ H Q):PE X e t':=λ pins s σ H Q I q=>h pins s σ H Q I (w σ H Q q)
theorem PT.wk {X:Cx}{e:Expr}{t t':TT} (h:PT X e t) (w:∀ σ H Q,t' σ H Q->t σ H Q):PT X e t':=λ pins s σ H Q I q=>h pins s σ H Q I (w σ H Q q)
theorem PW.wk {X:Cx}{e:Expr}{t t':TT} (h:PW X e t) (w:∀ σ H Q,t' σ H Q->t σ H Q):PW X e t':=λ wh pins s σ H Q I q=>h wh pins s σ H Q I (w σ H Q q)
theorem PA.wk {X:Cx}{e:List Expr}{t t':TA} (h:PA X e t) (w:∀ σ H Q,t' σ H Q->t σ H Q):PA X e t':=λ pos pins s σ H Q I q=>h pos pins s σ H Q I (w σ H Q q)
theorem PS.wk {X:Cx}{e:Stmt}{t t':TS} (h:PS X e t) (w:∀ D σ H,t' D σ H->t D σ H):PS X e t':=λ pins s σ H D I q=>h pins s σ H D I (w D σ H q)
theorem PSs.wk {X:Cx}{e:List Stmt}{t t':TS} (h:PSs X e t) (w:∀ D σ H,t' D σ H->t D σ H):PSs X e t':=λ pins s σ H D I q=>h pins s σ H D I (w D σ H q)
section
variable {X:Cx}{pos:Pos}{a b e:Expr}{F G L:FE}{T U:FT}
theorem xv (i:Nat) {x:Str} (hN:X.N[i]?=some x:=by rfl) (hv:Vis X.env.scope x:=by first | exact Or.inl rfl | exact Or.inr (Or.inl rfl) | exact Or.inr (Or.inr rfl)) (hd:(x==("__debug__":Str))=false:=by decide)
  (hcd:(x==("__classdict__":Str))=false:=by decide):XE X (.Name x pos) (eV i) :=
 PE.wk (E_3 hN hv hd hcd) λ σ H Q hh0_=>by
  obtain⟨c,H0,ρ,d,ρ',R,f,q⟩:=hh0_;unfold eV at f;cases z:ρ[i]? with
  |none=>rw[z] at f;cases f
  |some sl =>
   rw[z] at f;cases sl with
   |no=>cases f
   |ow b o=>cases f
   |im d' =>
    have f':some (d',ρ)=some (d,ρ'):=f;cases f';obtain⟨v,e1,e2⟩:=R.im i _ z;exact⟨v,e1,q v H0 H (Same.refl _) R e2⟩
theorem aW7:XE X e aH6:=λ pins s σ H Q I hh0_=>by obtain⟨c,H0,ρ,d,ρ',R,f,q⟩:=hh0_;cases f
theorem T_7 {d d':D}{ρ ρ':En} (h:eC d ρ=some (d',ρ')):d'=d/\ρ'=ρ:=by
 have h':some (d,ρ)=some (d',ρ'):=h;cases h';exact⟨rfl,rfl⟩
theorem a_4 {i:Int}{j}:XE X (.Constant (.int i) j pos) (eC (.int i)):=PE.wk bc0 λ σ H Q hh0_=>by
 obtain⟨c,H0,ρ,d,ρ',R,f,q⟩:=hh0_;obtain⟨rfl,rfl⟩:=T_7 f;exact q _ H0 H (Same.refl _) R (by unfold Rep;rfl)
theorem xbl {i:Bool}{j}:XE X (.Constant (.bool i) j pos) (eC (.bl i)):=PE.wk bs1 λ σ H Q hh0_=>by
 obtain⟨c,H0,ρ,d,ρ',R,f,q⟩:=hh0_;obtain⟨rfl,rfl⟩:=T_7 f;exact q _ H0 H (Same.refl _) R (by unfold Rep;rfl)
theorem j_9 {j}:XE X (.Constant .none j pos) (eC .non):=PE.wk bb8 λ σ H Q hh0_=>by
 obtain⟨c,H0,ρ,d,ρ',R,f,q⟩:=hh0_;obtain⟨rfl,rfl⟩:=T_7 f;exact q _ H0 H (Same.refl _) R (by unfold Rep;rfl)
theorem i_4 {x:Str}{j}:XE X (.Constant (.str x) j pos) (eC (.str x)):=PE.wk ab9 λ σ H Q hh0_=>by
 obtain⟨c,H0,ρ,d,ρ',R,f,q⟩:=hh0_;obtain⟨rfl,rfl⟩:=T_7 f;exact q _ H0 H (Same.refl _) R (by unfold Rep;rfl)
abbrev Aft (K:Frag) (c:FC) (H0:Hp) (ρ:En) (σ:L2.St) (d:D) (Q:VK):Prop:=∀ v H0' H',Same H0 H0'->RS K c H0' H' ρ σ->Rep K H0' d v->Q v H'
def OpD (K:Frag) (r:R2) (op:D->D->Option D):Prop:=∀ (c:FC) (H0 H:Hp) (ρ:En) (σ:L2.St) (x y d:D) (vx vy:V) (Q:VK),RS K c H0 H ρ σ->Rep K H0 x vx->Rep K H0 y vy->op x y=some d->Aft K c H0 ρ σ d Q->r vx vy H Q
def V_3 (X:Cx) (op:Operator) (f:D->D->Option D):Prop:=∃ r,OpR X (binaryOp op) r/\OpD X.K r f
def x_0 (X:Cx) (op:CmpOp) (f:D->D->Option D):Prop:=∃ r,OpR X (compareOp op) r/\OpD X.K r f
theorem aI0 {op:D->D->Option D}{ρ ρ':En}{d:D} (h:e2 op F G ρ=some (d,ρ')):∃ x ρ1 y,F ρ=some (x,ρ1)/\G ρ1=some (y,ρ')/\op x y=some d:=by
 unfold e2 at h;obtain⟨⟨x,ρ1⟩,h1,h⟩:=a_2 h;obtain⟨⟨y,ρ2⟩,h2,h⟩:=a_2 h;obtain⟨z,h3,h⟩:=a_2 h;have h':some (z,ρ2)=some (d,ρ'):=h;cases h';exact⟨x,ρ1,y,h1,h2,h3⟩
theorem ab0 {K:Frag}{op:D->D->Option D}{r:R2} (o:OpD K r op) {σ:L2.St}{H:Hp}{Q:VK} (h:tE K (e2 op F G) σ H Q):tOp r (tE K F) (tE K G) σ H Q:=by
 obtain⟨c,H0,ρ,d,ρ',R,f,q⟩:=h;obtain⟨x,ρ1,y,h1,h2,h3⟩:=aI0 f;refine⟨c,H0,ρ,x,ρ1,R,h1,λ vx H1 Hh s1 R1 r1=>?_⟩
 refine⟨c,H1,ρ1,y,ρ',R1,h2,λ vy H2 Hh2 s2 R2 r2=>?_⟩
 exact o c H2 Hh2 ρ' σ x y d vx vy Q R2 (Rep.mono s2 x r1) r2 h3 λ v H3 Hh3 s3 R3 r3=>q v H3 Hh3 (s1.trans (s2.trans s3)) R3 r3
theorem xb {op:Operator}{f:D->D->Option D} (o:V_3 X op f) (ha:XE X a F) (hb:XE X b G):XE X (.BinOp a op b pos) (e2 f F G):=by
 obtain⟨r,h1,h2⟩:=o;exact PE.wk (aM3 h1 ha hb) λ σ H Q h=>ab0 h2 h
theorem V_7 {op:CmpOp}{f:D->D->Option D} (o:x_0 X op f) (ha:XE X a F) (hb:XE X b G) (hm:behindInMarks op b=false:=by first | exact ao1 _ | with_unfolding_all rfl):XE X (.Compare a [op] [b] pos) (e2 f F G):=by
 obtain⟨r,h1,h2⟩:=o;exact PE.wk (aM6 h1 ha hb hm) λ σ H Q h=>ab0 h2 h
theorem aJ3 {K:Frag}{t:TE}{σ:L2.St}{H:Hp}{Q:Bool->Hp->Prop} (w:∀ Q,tE K F σ H Q->t σ H Q) (h:tTt K (tB F) σ H Q):aJ1 t σ H Q:=by
 obtain⟨c,H0,ρ,b,ρ',R,f,q⟩:=h;unfold tB at f;obtain⟨⟨d,ρ1⟩,h1,f⟩:=a_2 f;obtain⟨b',h2,f⟩:=a_2 f;have f':some (b',ρ1)=some (b,ρ'):=f;cases f';refine w _ ⟨c,H0,ρ,d,_,R,h1,λ v H1 Hh s1 R1 r1=>?_⟩
 cases d with
 |bl k =>
  have e:k=b:=qh h2;unfold Rep at r1;exact⟨k,r1,by rw[e];exact q H1 Hh s1 R1⟩
 |_=>cases h2
theorem xt {op:CmpOp}{f:D->D->Option D} (o:x_0 X op f) (ha:XE X a F) (hb:XE X b G) (hm:behindInMarks op b=false:=by first | exact ao1 _ | with_unfolding_all rfl):XT X (.Compare a [op] [b] pos) (tB (e2 f F G)):=by
 obtain⟨r,h1,h2⟩:=o;exact PT.wk (al8 h1 ha hb hm) λ σ H Q h=>aJ3 (λ Q h=>ab0 h2 h) h
theorem ax9 {K:Frag}{op op':D->D->Option D}{r r':R2} (o:OpD K r op) (o':OpD K r' op') {σ:L2.St}{H:Hp}{Q:VK} (h:tE K (e3 op op' F G L) σ H Q):aE9 r r' (tE K F) (tE K G) (tE K L) σ H Q:=by
 obtain⟨c,H0,ρ,d,ρ',R,f,q⟩:=h;unfold e3 at f;obtain⟨⟨x,ρ1⟩,h1,f⟩:=a_2 f;obtain⟨⟨y,ρ2⟩,h2,f⟩:=a_2 f;obtain⟨z,h3,f⟩:=a_2 f;obtain⟨k,h4,f⟩:=a_2 f;dsimp only at h2 h3 h4 f;refine⟨c,H0,ρ,x,ρ1,R,h1,λ vx H1 Hh s1 R1 r1=>?_⟩
 refine⟨c,H1,ρ1,y,ρ2,R1,h2,λ vy H2 Hh2 s2 R2 r2=>?_⟩
 refine o c H2 Hh2 ρ2 σ x y z vx vy _ R2 (Rep.mono s2 x r1) r2 h3 λ v H3 Hh3 s3 R3 r3=>?_
 cases z with
 |bl k' =>
  have e:k'=k:=qh h4;subst e;unfold Rep at r3;refine⟨k',r3,?_⟩;cases k' with
  |false =>
   rw[if_neg Bool.false_ne_true] at f ⊢;have f':some (D.bl false,ρ2)=some (d,ρ'):=f;cases f';exact q _ H3 Hh3 (s1.trans (s2.trans s3)) R3 (by unfold Rep;rfl)
  |true =>
   rw[if_pos rfl] at f ⊢;obtain⟨⟨w,ρ3⟩,h5,f⟩:=a_2 f;obtain⟨d',h6,f⟩:=a_2 f;dsimp only at h6 f;have f':some (d',ρ3)=some (d,ρ'):=f;cases f';refine⟨c,H3,ρ2,w,_,R3,h5,λ vw H4 Hh4 s4 R4 r4=>?_⟩
   exact o' c H4 Hh4 _ σ y w d vy vw Q R4 (Rep.mono s4 y (Rep.mono s3 y r2)) r4 h6 λ v H5 Hh5 s5 R5 r5=>q v H5 Hh5 (s1.trans (s2.trans (s3.trans (s4.trans s5)))) R5 r5
 |_=>cases h4
theorem xt3 {op op':CmpOp}{f f':D->D->Option D}{m:Expr} (o:x_0 X op f) (o':x_0 X op' f') (ha:XE X a F) (hb:XE X b G) (hc:XE X m L) (hm:lastMarks [op,op'] [b,m]=false:=by with_unfolding_all rfl):XT X (.Compare a [op,op'] [b,m] pos) (tB (e3 f f' F G L)):=by
 obtain⟨r,h1,h2⟩:=o;obtain⟨r',h1',h2'⟩:=o';exact PT.wk (az3 h1 h1' ha hb hc hm) λ σ H Q h=>aJ3 (λ Q h=>ax9 h2 h2' h) h
theorem xif {c:Expr} (hc:XT X c T) (ha:XE X a F) (hb:XE X b G):XE X (.IfExp c a b pos) (eIf T F G):=PE.wk (aA1 hc ha hb) λ σ H Q hh0_=>by
 obtain⟨c,H0,ρ,d,ρ',R,f,q⟩:=hh0_;unfold eIf at f;obtain⟨⟨k,ρ1⟩,h1,f⟩:=a_2 f;dsimp only at f;refine⟨c,H0,ρ,k,ρ1,R,h1,λ H1 Hh s1 R1=>?_⟩
 cases k with
 |true =>
  rw[if_pos rfl] at f ⊢;exact⟨c,H1,ρ1,d,ρ',R1,f,λ v H2 Hh2 s2 R2 r2=>q v H2 Hh2 (s1.trans s2) R2 r2⟩
 |false =>
  rw[if_neg Bool.false_ne_true] at f ⊢;exact⟨c,H1,ρ1,d,ρ',R1,f,λ v H2 Hh2 s2 R2 r2=>q v H2 Hh2 (s1.trans s2) R2 r2⟩
theorem aw7 {op} (h:XE X a F):XE X (.BoolOp op [a] pos) F:=bb7 h
variable {rest:List Expr}
theorem aX1 (ha:XE X a F) (hb:XE X (.BoolOp .And (b::rest) pos) G):XE X (.BoolOp .And (a::b::rest) pos) (aH9 F G):=PE.wk (bc1 ha hb) λ σ H Q hh0_=>by
 obtain⟨c,H0,ρ,d,ρ',R,f,q⟩:=hh0_;unfold aH9 at f;obtain⟨⟨z,ρ1⟩,h1,f⟩:=a_2 f;obtain⟨k,h2,f⟩:=a_2 f;dsimp only at h2 f;refine⟨c,H0,ρ,z,ρ1,R,h1,λ v H1 Hh s1 R1 r1=>?_⟩
 cases z with
 |bl k' =>
  have e:k'=k:=qh h2;subst e;unfold Rep at r1;refine⟨k',r1,?_⟩;cases k' with
  |true =>
   rw[if_pos rfl] at f ⊢;exact⟨c,H1,ρ1,d,ρ',R1,f,λ v H2 Hh2 s2 R2 r2=>q v H2 Hh2 (s1.trans s2) R2 r2⟩
  |false =>
   rw[if_neg Bool.false_ne_true] at f ⊢;have f':some (D.bl false,ρ1)=some (d,ρ'):=f;cases f';exact q _ H1 Hh s1 R1 (by unfold Rep;rfl)
 |_=>cases h2
theorem xor (ha:XE X a F) (hb:XE X (.BoolOp .Or (b::rest) pos) G):XE X (.BoolOp .Or (a::b::rest) pos) (eOr F G):=PE.wk (br8 ha hb) λ σ H Q hh0_=>by
 obtain⟨c,H0,ρ,d,ρ',R,f,q⟩:=hh0_;unfold eOr at f;obtain⟨⟨z,ρ1⟩,h1,f⟩:=a_2 f;obtain⟨k,h2,f⟩:=a_2 f;dsimp only at h2 f;refine⟨c,H0,ρ,z,ρ1,R,h1,λ v H1 Hh s1 R1 r1=>?_⟩
 cases z with
 |bl k' =>
  have e:k'=k:=qh h2;subst e;unfold Rep at r1;refine⟨k',r1,?_⟩;cases k' with
  |true =>
   rw[if_pos rfl] at f ⊢;have f':some (D.bl true,ρ1)=some (d,ρ'):=f;cases f';exact q _ H1 Hh s1 R1 (by unfold Rep;rfl)
  |false =>
   rw[if_neg Bool.false_ne_true] at f ⊢;exact⟨c,H1,ρ1,d,ρ',R1,f,λ v H2 Hh2 s2 R2 r2=>q v H2 Hh2 (s1.trans s2) R2 r2⟩
 |_=>cases h2
theorem xw (h:XW X a T):XT X a T:=PW.pt h
theorem n_5 (ha:XT X a T):XW X (.BoolOp .And [a] pos) T:=aL0 ha
theorem D_6 (ha:XT X a T):XW X (.BoolOp .Or [a] pos) T:=ba2 ha
theorem q_3 (ha:XT X a T) (hb:XW X (.BoolOp .And (b::rest) pos) U):XW X (.BoolOp .And (a::b::rest) pos) (tAnd T U):=PW.wk (ba3 ha hb) λ σ H Q hh0_=>by
 obtain⟨c,H0,ρ,k,ρ',R,f,q⟩:=hh0_;unfold tAnd at f;obtain⟨⟨k',ρ1⟩,h1,f⟩:=a_2 f;dsimp only at f;refine⟨c,H0,ρ,k',ρ1,R,h1,λ H1 Hh s1 R1=>?_⟩
 cases k' with
 |true =>
  rw[if_pos rfl] at f ⊢;exact⟨c,H1,ρ1,k,ρ',R1,f,λ H2 Hh2 s2 R2=>q H2 Hh2 (s1.trans s2) R2⟩
 |false =>
  rw[if_neg Bool.false_ne_true] at f ⊢;have f':some (false,ρ1)=some (k,ρ'):=f;cases f';exact q H1 Hh s1 R1
theorem aj5 (ha:XT X a T) (hb:XW X (.BoolOp .Or (b::rest) pos) U):XW X (.BoolOp .Or (a::b::rest) pos) (tOr T U):=PW.wk (br4 ha hb) λ σ H Q hh0_=>by
 obtain⟨c,H0,ρ,k,ρ',R,f,q⟩:=hh0_;unfold tOr at f;obtain⟨⟨k',ρ1⟩,h1,f⟩:=a_2 f;dsimp only at f;refine⟨c,H0,ρ,k',ρ1,R,h1,λ H1 Hh s1 R1=>?_⟩
 cases k' with
 |true =>
  rw[if_pos rfl] at f ⊢;have f':some (true,ρ1)=some (k,ρ'):=f;cases f';exact q H1 Hh s1 R1
 |false =>
  rw[if_neg Bool.false_ne_true] at f ⊢;exact⟨c,H1,ρ1,k,ρ',R1,f,λ H2 Hh2 s2 R2=>q H2 Hh2 (s1.trans s2) R2⟩
theorem aI5 (ha:XT X a T):XT X (.UnaryOp .Not a pos) (tNot T):=PT.wk (ba7 ha) λ σ H Q hh0_=>by
 obtain⟨c,H0,ρ,k,ρ',R,f,q⟩:=hh0_;unfold tNot at f;obtain⟨⟨k',ρ1⟩,h1,f⟩:=a_2 f;have f':some (!k',ρ1)=some (k,ρ'):=f;cases f';exact⟨c,H0,ρ,k',_,R,h1,λ H1 Hh s1 R1=>q H1 Hh s1 R1⟩
theorem aE8 {K:Frag}{H0 H:Hp}{d:D}{v:V}{k:Bool} (s:Same H0 H) (r:Rep K H0 d v) (h:aB9 d=some k):bm3 K v H k:=by
 cases d with
 |non=>unfold Rep at r;subst r;cases h;rfl
 |bl b=>unfold Rep at r;subst r;cases h;rfl
 |int i=>unfold Rep at r;subst r;cases h;rfl
 |str x=>cases h
 |opq=>cases h
 |dct ks vs=>cases h
 |tup ds =>
  unfold Rep at r;obtain⟨p,vs,rfl,q,t⟩:=r;have e:(!ds.isEmpty)=k:=qh h;have e2:ds.isEmpty=vs.isEmpty:=by rw[Bool.eq_iff_iff,List.isEmpty_iff_length_eq_zero,List.isEmpty_iff_length_eq_zero,t.length]
  exact .inr (.inl ⟨vs,Same.seqT s q,by rw[<- e2];exact e.symm⟩)
 |lst ds =>
  unfold Rep at r;obtain⟨p,vs,rfl,q,t⟩:=r;have e:(!ds.isEmpty)=k:=qh h;have e2:ds.isEmpty=vs.isEmpty:=by rw[Bool.eq_iff_iff,List.isEmpty_iff_length_eq_zero,List.isEmpty_iff_length_eq_zero,t.length]
  exact .inl ⟨vs,Same.seq s q,by rw[<- e2];exact e.symm⟩
theorem xtv (ha:XE X a F) (he:∀ whole,isTrue a X.env whole=(do let v <- whole;standAt a.pos;holding [v] (truthy v))):XT X a (tV F):=PT.wk (az2 ha he) λ σ H Q hh0_=>by
 obtain⟨c,H0,ρ,k,ρ',R,f,q⟩:=hh0_;unfold tV at f;obtain⟨⟨d,ρ1⟩,h1,f⟩:=a_2 f;obtain⟨k',h2,f⟩:=a_2 f;have f':some (k',ρ1)=some (k,ρ'):=f;cases f';exact⟨c,H0,ρ,d,_,R,h1,λ v H1 Hh s1 R1 r1=>⟨k,aE8 R1.same r1 h2,q H1 Hh s1 R1⟩⟩
theorem xaN:XA X [] aN:=PA.wk R_2 λ σ H Q hh0_=>by
 obtain⟨c,H0,ρ,ds,ρ',R,f,q⟩:=hh0_;have f':some (([]:List D),ρ)=some (ds,ρ'):=f;cases f';exact q [] H0 H (Same.refl _) R Reps.nil_
theorem xaC {es:List Expr}{A:FA} (ha:XE X e F) (hr:XA X es A) (hs:starEach (e::es) X.env=(false,eval e X.env)::starEach es X.env:=by rfl):XA X (e::es) (aC F A):=PA.wk (z_6 ha hr hs) λ σ H Q hh0_=>by
 obtain⟨c,H0,ρ,ds,ρ',R,f,q⟩:=hh0_;unfold aC at f;obtain⟨⟨d,ρ1⟩,h1,f⟩:=a_2 f;obtain⟨⟨r,ρ2⟩,h2,f⟩:=a_2 f;have f':some (d::r,ρ2)=some (ds,ρ'):=f;cases f';refine⟨c,H0,ρ,d,ρ1,R,h1,λ v H1 Hh s1 R1 r1=>?_⟩
 refine⟨c,H1,ρ1,r,_,R1,h2,λ vs H2 Hh2 s2 R2 r2=>?_⟩
 exact q _ H2 Hh2 (s1.trans s2) R2 (Reps.cons (Rep.mono s2 d r1) r2)
theorem aJ5 {n:Nat} (h:n<=1000):n<=sizeLine:=Nat.le_of_lt (D_8 h)
theorem aU5 {es:List Expr}{A:FA}{x1} (h:XA X es A):XE X (.Tuple es x1 pos) (q_7 A):=PE.wk (bb5 h) λ σ H Q hh0_=>by
 obtain⟨c,H0,ρ,d,ρ',R,f,q⟩:=hh0_;unfold q_7 at f;obtain⟨⟨ds,ρ1⟩,h1,f⟩:=a_2 f;dsimp only at f
 split at f
 ·rename_i hl
  cases f;refine⟨c,H0,ρ,ds,_,R,h1,λ vs H1 Hh s1 R1 r1=>⟨by rw[<- r1.length];exact aJ5 hl,λ p hp=>?_⟩⟩
  have S:=Step.alloc (o:=.tup vs) R1.same hp;refine q _ _ _ (s1.trans S.s0) (R1.after S) ?_;unfold Rep;exact⟨p,vs,rfl,.inl (.inl a_7),Reps.mono S.s0 ds r1⟩
 ·cases f
theorem bj7 {es:List Expr}{A:FA} (h:XA X es A):XE X (.List es pos) (P_2 A):=PE.wk (aF6 h) λ σ H Q hh0_=>by
 obtain⟨c,H0,ρ,d,ρ',R,f,q⟩:=hh0_;unfold P_2 at f;obtain⟨⟨ds,ρ1⟩,h1,f⟩:=a_2 f;dsimp only at f
 split at f
 ·rename_i hl
  cases f;refine⟨c,H0,ρ,ds,_,R,h1,λ vs H1 Hh s1 R1 r1=>⟨by rw[<- r1.length];exact aJ5 hl,λ p hp=>?_⟩⟩
  have S:=Step.alloc (o:=.lst vs) R1.same hp;refine q _ _ _ (s1.trans S.s0) (R1.after S) ?_;unfold Rep;exact⟨p,vs,rfl,.inl (.inl a_7),Reps.mono S.s0 ds r1⟩
 ·cases f
theorem bi8:@dPl=@ixN:=rfl
theorem bj5 {K:Frag}{H:Hp}{ds:List D}{vs:List V}{i:Int}{d:D} (r:Reps K H ds vs) (h:atD ds i=some d):∃ v,atI vs i=some v/\Rep K H d v:=by
 unfold atD at h;obtain⟨j,h1,h2⟩:=a_2 (x:=dPl ds.length i) (f:=λ j=>ds[j]?) h
 obtain⟨v,e1,e2⟩:=r.get h2;refine⟨v,?_,e2⟩;unfold atI;rw[<- r.length,<- bi8,h1];exact e1
theorem PO.wk {X:Cx}{e:Option Expr}{t t':TO} (h:PO X e t) (w:∀ σ H Q,t' σ H Q->t σ H Q):PO X e t':=λ pins s σ H Q I q=>h pins s σ H Q I (w σ H Q q)
theorem xoN:XO X none oN:=PO.wk aM0 λ σ H Q hh0_=>by
 obtain⟨c,H0,ρ,o,ρ',R,f,q⟩:=hh0_;have f':some ((none:Option Int),ρ)=some (o,ρ'):=f;cases f';exact q H0 H (Same.refl _) R
theorem xoS (h:XE X e F):XO X (some e) (oS F):=PO.wk (aL9 h) λ σ H Q hh0_=>by
 obtain⟨c,H0,ρ,o,ρ',R,f,q⟩:=hh0_;unfold oS at f;obtain⟨⟨d,ρ1⟩,h1,f⟩:=a_2 f;obtain⟨i,h2,f⟩:=a_2 f;dsimp only at h2 f;have f':some (some i,ρ1)=some (o,ρ'):=f;cases f';refine⟨c,H0,ρ,d,_,R,h1,λ v H1 Hh s1 R1 r1=>?_⟩
 cases d with
 |int j =>
  have e:j=i:=qh h2;subst e;unfold Rep at r1;exact⟨j,r1,q H1 Hh s1 R1⟩
 |_=>cases h2
theorem N_9 (n d:Nat) (o:Option Int):ae8 n d o=HT.sIx n d o:=by
 cases o with
 |none=>rfl
 |some v =>
  show (if v<0 then max (v+(n:Int)) 0 else min v (n:Int)).toNat=if v<0 then (v+(n:Int)).toNat else min v.toNat n
  split <;> omega
theorem aI2 {K:Frag}{H:Hp}{ds:List D}{vs:List V} (r:Reps K H ds vs) (lo hi:Option Int):Reps K H (aI1 ds lo hi) (aw9 vs lo hi):=by
 unfold aI1 aw9;rw[N_9,N_9,r.length];exact (r.drop _).take _
end
section
variable {X:Cx}{K:Frag}
theorem M_1 {C:Int->Int->Prop}{g:Int->Int->V}{f:D->D->Option D} (h:∀ x y d,f x y=some d->∃ i j,x=.int i/\y=.int j/\C i j/\∀ H,Rep K H d (g i j)):OpD K (rI C g) f:=λ c H0 H ρ σ x y d vx vy Q R r1 r2 e q=>by
 obtain⟨i,j,rfl,rfl,hc,hr⟩:=h x y d e;unfold Rep at r1 r2;exact⟨i,j,r1,r2,hc,q _ H0 H (Same.refl _) R (hr H0)⟩
theorem ac1 {g:Int->Int->V}{f:D->D->Option D} (h:∀ x y d,f x y=some d->∃ i j,x=.int i/\y=.int j/\∀ H,Rep K H d (g i j)):OpD K (rI0 g) f:=λ c H0 H ρ σ x y d vx vy Q R r1 r2 e q=>by
 obtain⟨i,j,rfl,rfl,hr⟩:=h x y d e;unfold Rep at r1 r2;exact⟨i,j,r1,r2,q _ H0 H (Same.refl _) R (hr H0)⟩
theorem i_6 (H:Hp) (i:Int):Rep K H (.int i) (.int i):=by unfold Rep;rfl
theorem v_8 (H:Hp) (i:Bool):Rep K H (.bl i) (.bl i):=by unfold Rep;rfl
theorem ifs {c:Prop} [Decidable c] {α:Type}{a d:α} (h:(if c then some a else none)=some d):c/\a=d:=by
 by_cases hc:c
 ·rw[if_pos hc] at h;exact⟨hc,qh h⟩
 ·rw[if_neg hc] at h;cases h
theorem S_4:V_3 X .Sub N_8:=⟨_,bc4,ac1 λ x y d e=>by
 cases x <;> cases y <;> cases e
 exact⟨_,_,rfl,rfl,λ H=>i_6 H _⟩⟩
def CMulD (i j:Int):Prop:=l_6 i j=true
theorem B_3 {i:Int} (h:aj9 i=true):Builtin.Int.intBits i<=1000:=by
 have h:i.natAbs<2 ^ 1000:=of_decide_eq_true h;unfold Builtin.Int.intBits
 split
 ·exact Nat.zero_le _
 ·rename_i hz
  have hz:i≠0:=by simpa using hz
  have h0:i.natAbs≠0:=by omega
  have:=(Nat.log2_lt h0).mpr h;omega
theorem CMulD.ok {i j:Int} (h:CMulD i j):IntMulOk i j:=by
 unfold CMulD l_6 at h;simp only[Bool.or_eq_true,Bool.and_eq_true,decide_eq_true_eq] at h
 rcases h with (h | h) | ⟨h1,h2⟩
 ·exact IntMulOk.of_left (intBits_le_64 (by omega) (by omega))
 ·exact IntMulOk.of_right (intBits_le_64 (by omega) (by omega))
 ·unfold IntMulOk
  have b1:=B_3 h1;have b2:=B_3 h2
  have:Builtin.Int.intTooBig ((Builtin.Int.intBits i:Int)+(Builtin.Int.intBits j:Int))=false:=by
   unfold Builtin.Int.intTooBig;refine decide_eq_false ?_;have:(2000:Int)<=bitsLine:=by decide
   omega
  simp[this]
theorem ac2:V_3 X .Mult V_5:=⟨rI CMulD λ i j=>.int (i*j),opI λ _ _ _ _ _ _ _ hc q=>mul_int q hc.ok,M_1 λ x y d e=>by
 cases x with
 |int i =>
  cases y with
  |int j =>
   obtain⟨h,rfl⟩:=ifs (c:=l_6 i j=true) e;exact⟨_,_,rfl,rfl,h,λ H=>i_6 H _⟩
  |_=>cases e
 |_=>cases y <;> cases e⟩
def bj6 (i j:Int):Prop:=z_7 j=true
theorem aN5:V_3 X .FloorDiv aC5:=⟨rI bj6 λ i j=>.int (i.fdiv j),opI λ i j _ _ _ _ _ hc q=>by
  unfold bj6 z_7 at hc;simp only[Bool.and_eq_true,decide_eq_true_eq] at hc;refine floordiv_int hc.1 q (.inl (PyProof.noPylong_of_log2 ?_));have h0:j.natAbs≠0:=by have:=hc.1;omega
  have:=(Nat.log2_lt h0).mpr hc.2
  omega,M_1 λ x y d e=>by
 cases x with
 |int i =>
  cases y with
  |int j =>
   obtain⟨h,rfl⟩:=ifs (c:=z_7 j=true) e;exact⟨_,_,rfl,rfl,h,λ H=>i_6 H _⟩
  |_=>cases e
 |_=>cases y <;> cases e⟩
theorem l_5:V_3 X .Mod k_0:=⟨_,aN1,M_1 λ x y d e=>by
 cases x with
 |int i =>
  cases y with
  |int j =>
   obtain⟨h,rfl⟩:=ifs (c:=j≠0) e;exact⟨_,_,rfl,rfl,h,λ H=>i_6 H _⟩
  |_=>cases e
 |_=>cases y <;> cases e⟩
theorem bk8:V_3 X .Pow aW1:=⟨_,bc5,M_1 λ x y d e=>by
 cases x with
 |int i =>
  cases y with
  |int j =>
   obtain⟨h,rfl⟩:=ifs (c:=0<=j/\j<=64/\i.natAbs<2 ^ 64) e;exact⟨_,_,rfl,rfl,⟨h.1,by omega,h.2.2⟩,λ H=>i_6 H _⟩
  |_=>cases e
 |_=>cases y <;> cases e⟩
def ba1 (K:Frag):R2:=λ x y H Q=>∃ l b xs zs,x=.ref l/\y=.ref b/\SqL K H l xs/\SqL K H b zs/\xs.length+zs.length<=sizeLine/\∀ p,H p=none->Q (.ref p) (upd H p (.lst (xs++zs)))
theorem aN3:OpR X (binaryOp .Add) (ba1 X.K):=by
 intro pins s σ H x y v u Q I rx ry h;obtain⟨l,b,xs,zs,rfl,rfl,hH,hB,hz,q⟩:=h;cases rx;cases ry;obtain⟨its,r,pl,_⟩:=I.list hH;obtain⟨its2,r2,pl2,_⟩:=I.list hB;have hl:=r.length;have hl2:=r2.length;obtain⟨⟨cls,dd,data,sl⟩,ho,hc,n,hd⟩:=pl.isList;obtain⟨⟨cls2,dd2,data2,sl2⟩,ho2,hc2,n2,hd2⟩:=pl2.isList;simp only at hc hd hc2 hd2;subst hc hd hc2 hd2;have e:its.toArray++its2.toArray=(its++its2).toArray:=by simp
 refine concat_meets ⟨_,ho,rfl⟩ ⟨_,ho2,rfl⟩ noFill_list_add seq_list_add PySem.F.slot_list_add PySem.F.entry_list_add (PySem.F.args_list_add_2 _ _) (list_addW l b its.toArray its2.toArray n n2 dd dd2 sl sl2 (by rw[List.size_toArray,List.size_toArray];omega)) ⟨ho,ho2,?_⟩
 rw[e];exact⟨.ref _,_,I.lnew (t':=s.toks) (r.append r2) (by rw[List.length_append];omega),rfl,q _ I.fresh⟩
def br3 (K:Frag):R2:=λ x y H Q=>rI0 (λ i j=>.int (i+j)) x y H Q\/((∃ i j,x=.str i/\y=.str j/\i.length+j.length<=sizeLine/\Q (.str (i++j)) H)\/ba1 K x y H Q)
theorem t_3:V_3 X .Add n_9:=⟨br3 X.K,op_add.or (op_add_str.or aN3),λ c H0 H ρ σ x y d vx vy Q R r1 r2 e q=>by
 cases x with
 |int i =>
  cases y with
  |int j =>
   cases e;unfold Rep at r1 r2;exact .inl ⟨_,_,r1,r2,q _ H0 H (Same.refl _) R (i_6 H0 _)⟩
  |_=>cases e
 |str i =>
  cases y with
  |str j =>
   obtain⟨h,rfl⟩:=ifs (c:=i.length+j.length<=sizeLine) e;unfold Rep at r1 r2;exact .inr (.inl ⟨_,_,r1,r2,h,q _ H0 H (Same.refl _) R (by unfold Rep;rfl)⟩)
  |_=>cases e
 |lst ds =>
  cases y with
  |lst es =>
   obtain⟨h,rfl⟩:=ifs (c:=ds.length+es.length<=sizeLine) e;unfold Rep at r1 r2;obtain⟨p,vs,rfl,s,t⟩:=r1;obtain⟨p2,vs2,rfl,s2,t2⟩:=r2;refine .inr (.inr ⟨p,p2,vs,vs2,rfl,rfl,Same.seq R.same s,Same.seq R.same s2,by rw[<- t.length,<- t2.length];exact h,λ p' hp=>?_⟩)
   have S:=Step.alloc (o:=.lst (vs++vs2)) R.same hp;refine q _ _ _ S.s0 (R.after S) ?_;unfold Rep;exact⟨p',_,rfl,.inl (.inl a_7),Reps.mono S.s0 _ (t.app t2)⟩
  |_=>cases e
 |_=>cases y <;> cases e⟩
theorem bz3 {a:Expr}{F:FE}{pos:Pos} (ha:XE X a F):XE X (.UnaryOp .USub a pos) (e1 bl8 F):=PE.wk (br7 aX4 ha) λ σ H Q hh0_=>by
 obtain⟨c,H0,ρ,d,ρ',R,f,q⟩:=hh0_;unfold e1 at f;obtain⟨⟨x,ρ1⟩,h1,f⟩:=a_2 f;obtain⟨d',h2,f⟩:=a_2 f;dsimp only at h2 f;have f':some (d',ρ1)=some (d,ρ'):=f;cases f';refine⟨c,H0,ρ,x,_,R,h1,λ v H1 Hh s1 R1 r1=>?_⟩
 cases x with
 |int i =>
  have e:D.int (-i)=d:=qh h2;subst e;unfold Rep at r1;exact⟨i,r1,q _ H1 Hh s1 R1 (i_6 _ _)⟩
 |_=>cases h2
theorem bl9 {p:Int->Int->Bool}:OpD K (rI0 λ i j=>.bl (p i j)) (bj2 p):=ac1 λ x y d e=>by
 cases x <;> cases y <;> cases e
 exact⟨_,_,rfl,rfl,λ H=>v_8 H _⟩
theorem cLt:x_0 X .Lt dLt:=⟨_,bs3,bl9⟩
theorem cLe:x_0 X .LtE dLe:=⟨_,bs4,bl9⟩
theorem cGt:x_0 X .Gt dGt:=⟨_,bs5,bl9⟩
theorem cGe:x_0 X .GtE dGe:=⟨_,bs6,bl9⟩
theorem aG7 {H:Hp}{x:D}{v:V} (r:Rep K H x v):isN x=decide (v=.non):=by
 cases x with
 |non=>unfold Rep at r;subst r;rfl
 |bl b=>unfold Rep at r;subst r;rfl
 |int b=>unfold Rep at r;subst r;rfl
 |str b=>unfold Rep at r;subst r;rfl
 |tup ds=>unfold Rep at r;obtain⟨p,vs,rfl,_⟩:=r;rfl
 |opq=>unfold Rep at r;obtain⟨p,kvs,rfl,_⟩:=r;rfl
 |dct ks vs=>unfold Rep at r;obtain⟨p,o,us,rfl,_⟩:=r;rfl
 |lst ds=>unfold Rep at r;obtain⟨p,vs,rfl,_⟩:=r;rfl
theorem cIs:x_0 X .Is dIs:=⟨_,bc7,λ c H0 H ρ σ x y d vx vy Q R r1 r2 e q=>by
 cases y with
 |non =>
  have e':D.bl (isN x)=d:=by cases x <;> exact qh e
  subst e';unfold Rep at r2;exact⟨r2,by rw[<- aG7 r1];exact q _ H0 H (Same.refl _) R (v_8 _ _)⟩
 |_=>cases x <;> cases e⟩
theorem p_3:x_0 X .IsNot n_8:=⟨_,aN0,λ c H0 H ρ σ x y d vx vy Q R r1 r2 e q=>by
 cases y with
 |non =>
  have e':D.bl (!isN x)=d:=by cases x <;> exact qh e
  subst e';unfold Rep at r2;exact⟨r2,by rw[<- aG7 r1];exact q _ H0 H (Same.refl _) R (v_8 _ _)⟩
 |_=>cases x <;> cases e⟩
end
theorem v_4:∀ (ds es:List D),I_1 ds es=((List.range (min ds.length es.length)).all (λ j=>eqD (ds.getD j .non) (es.getD j .non))&&ds.length==es.length)
 |[],[]=>by simp[I_1]
 |[],e::es=>by simp[I_1]
 |d::ds,[]=>by simp[I_1]
 |d::ds,e::es=>by
  rw[I_1,v_4 ds es];have h:min (d::ds).length (e::es).length=min ds.length es.length+1:=by simp only[List.length_cons];omega
  rw[h,List.range_succ_eq_map,List.all_cons,List.all_map];have h2:((d::ds).length==(e::es).length)=(ds.length==es.length):=by simp
  rw[h2,Bool.and_assoc];rfl
theorem q_8:∀ {ds:List D}{n:Nat}{j:Nat}{d:D},ai2 ds<=n->ds[j]?=some d->dpD d<=n
 |[],_,_,_,_,e=>by simp at e
 |d::ds,n,0,_,h,e=>by
  rw[F_4] at h;simp at e;subst e;omega
 |d::ds,n,j+1,d',h,e=>by
  rw[F_4] at h;exact q_8 (ds:=ds) (n:=n) (j:=j) (by omega) (by simpa using e)
section
variable {X:Cx}{pins:List (Addr×Obj)}{σ:L2.St}{H:Hp}{s:Shared}
theorem as9 {ds es:List D}{vs:List V} (hd:Reps X.K H ds vs) (he:Reps X.K H es vs) (h:∀ (j:Nat) (d e:D) (v:V),ds[j]?=some d->es[j]?=some e->Rep X.K H d v->Rep X.K H e v->eqD d e=true):I_1 ds es=true:=by
 rw[v_4];have l1:=hd.length;have l2:=he.length;rw[Bool.and_eq_true,List.all_eq_true];refine⟨λ j hj=>?_,by simp;omega⟩
 have hj':j<ds.length:=by have:=List.mem_range.mp hj;omega
 have hk':j<es.length:=by omega
 obtain⟨v,a1,a2⟩:=hd.get (i:=j) (d:=ds[j]) (by simp[hj'])
 obtain⟨v',b1,b2⟩:=he.get (i:=j) (d:=es[j]) (by simp[hk'])
 rw[a1] at b1;cases b1;have:=h j ds[j] es[j] v (by simp[hj']) (by simp[hk']) a2 b2
 simpa [List.getD,hj',hk'] using this
theorem bd0 (I:Inv X pins σ H s) {a:Addr}{xs ys:List V} (h:SqT X.K H a xs) (h':SqL X.K H a ys):False:=by
 obtain⟨_,_,⟨o,e,c,_⟩,_⟩:=I.tuple h;obtain⟨_,_,⟨o',n,e',c',_⟩,_⟩:=I.list h';rw[e] at e';cases e';have z:=c.symm.trans c';injection z with z
 exact absurd z (by decide)
theorem W_5 (I:Inv X pins σ H s):∀ (n:Nat) (d e:D) (v:V),dpD d<=n->dpD d<1000->dpD e<1000->Rep X.K H d v->Rep X.K H e v->eqD d e=true
 |n,d,e,v,hn,hz1,hz2,r1,r2=>by
  cases d with
  |opq=>exact absurd hz1 (by rw[d_3];omega)
  |dct ks0 vs0=>exact absurd hz1 (by rw[d_4];omega)
  |non =>
   cases e with
   |opq=>exact absurd hz2 (by rw[d_3];omega)
   |dct ks0 vs0=>exact absurd hz2 (by rw[d_4];omega)
   |non=>unfold Rep at r1 r2;rw[r1] at r2;first | (cases r2;simp[eqD]) | cases r2
   |bl b2=>unfold Rep at r1 r2;rw[r1] at r2;first | (cases r2;simp[eqD]) | cases r2
   |int b2=>unfold Rep at r1 r2;rw[r1] at r2;first | (cases r2;simp[eqD]) | cases r2
   |str b2=>unfold Rep at r1 r2;rw[r1] at r2;first | (cases r2;simp[eqD]) | cases r2
   |tup es=>unfold Rep at r1 r2;obtain⟨p,vs,z,_⟩:=r2;rw[r1] at z;cases z
   |lst es=>unfold Rep at r1 r2;obtain⟨p,vs,z,_⟩:=r2;rw[r1] at z;cases z
  |bl b1 =>
   cases e with
   |opq=>exact absurd hz2 (by rw[d_3];omega)
   |dct ks0 vs0=>exact absurd hz2 (by rw[d_4];omega)
   |non=>unfold Rep at r1 r2;rw[r1] at r2;first | (cases r2;simp[eqD]) | cases r2
   |bl b2=>unfold Rep at r1 r2;rw[r1] at r2;first | (cases r2;simp[eqD]) | cases r2
   |int b2=>unfold Rep at r1 r2;rw[r1] at r2;first | (cases r2;simp[eqD]) | cases r2
   |str b2=>unfold Rep at r1 r2;rw[r1] at r2;first | (cases r2;simp[eqD]) | cases r2
   |tup es=>unfold Rep at r1 r2;obtain⟨p,vs,z,_⟩:=r2;rw[r1] at z;cases z
   |lst es=>unfold Rep at r1 r2;obtain⟨p,vs,z,_⟩:=r2;rw[r1] at z;cases z
  |int b1 =>
   cases e with
   |opq=>exact absurd hz2 (by rw[d_3];omega)
   |dct ks0 vs0=>exact absurd hz2 (by rw[d_4];omega)
   |non=>unfold Rep at r1 r2;rw[r1] at r2;first | (cases r2;simp[eqD]) | cases r2
   |bl b2=>unfold Rep at r1 r2;rw[r1] at r2;first | (cases r2;simp[eqD]) | cases r2
   |int b2=>unfold Rep at r1 r2;rw[r1] at r2;first | (cases r2;simp[eqD]) | cases r2
   |str b2=>unfold Rep at r1 r2;rw[r1] at r2;first | (cases r2;simp[eqD]) | cases r2
   |tup es=>unfold Rep at r1 r2;obtain⟨p,vs,z,_⟩:=r2;rw[r1] at z;cases z
   |lst es=>unfold Rep at r1 r2;obtain⟨p,vs,z,_⟩:=r2;rw[r1] at z;cases z
  |str b1 =>
   cases e with
   |opq=>exact absurd hz2 (by rw[d_3];omega)
   |dct ks0 vs0=>exact absurd hz2 (by rw[d_4];omega)
   |non=>unfold Rep at r1 r2;rw[r1] at r2;first | (cases r2;simp[eqD]) | cases r2
   |bl b2=>unfold Rep at r1 r2;rw[r1] at r2;first | (cases r2;simp[eqD]) | cases r2
   |int b2=>unfold Rep at r1 r2;rw[r1] at r2;first | (cases r2;simp[eqD]) | cases r2
   |str b2=>unfold Rep at r1 r2;rw[r1] at r2;first | (cases r2;simp[eqD]) | cases r2
   |tup es=>unfold Rep at r1 r2;obtain⟨p,vs,z,_⟩:=r2;rw[r1] at z;cases z
   |lst es=>unfold Rep at r1 r2;obtain⟨p,vs,z,_⟩:=r2;rw[r1] at z;cases z
  |tup ds =>
   cases e with
   |opq=>exact absurd hz2 (by rw[d_3];omega)
   |dct ks0 vs0=>exact absurd hz2 (by rw[d_4];omega)
   |non=>unfold Rep at r1 r2;obtain⟨p,vs,z,_⟩:=r1;rw[r2] at z;cases z
   |bl b2=>unfold Rep at r1 r2;obtain⟨p,vs,z,_⟩:=r1;rw[r2] at z;cases z
   |int b2=>unfold Rep at r1 r2;obtain⟨p,vs,z,_⟩:=r1;rw[r2] at z;cases z
   |str b2=>unfold Rep at r1 r2;obtain⟨p,vs,z,_⟩:=r1;rw[r2] at z;cases z
   |tup es =>
    unfold Rep at r1 r2;obtain⟨p,vs,z,s1,q1⟩:=r1;obtain⟨p',vs',z',s2,q2⟩:=r2;rw[z] at z';cases z';have e:=I.tuple_inj s1 s2;subst e;cases n with
    |zero=>rw[k_2] at hn;omega
    |succ n =>
     rw[k_2] at hn;rw[eqD];exact as9 q1 q2 λ j d e v h1 h2=>W_5 I n d e v (q_8 (by omega) h1) (by have z:=q_8 (n:=998) (by first | (rw[k_2] at hz1;omega) | (rw[k_3] at hz1;omega)) h1;omega) (by have z:=q_8 (n:=998) (by first | (rw[k_2] at hz2;omega) | (rw[k_3] at hz2;omega)) h2;omega)
   |lst es=>unfold Rep at r1 r2;obtain⟨p,vs,z,s1,_⟩:=r1;obtain⟨p',vs',z',s2,_⟩:=r2;rw[z] at z';cases z';exact (bd0 I s1 s2).elim
  |lst ds =>
   cases e with
   |opq=>exact absurd hz2 (by rw[d_3];omega)
   |dct ks0 vs0=>exact absurd hz2 (by rw[d_4];omega)
   |non=>unfold Rep at r1 r2;obtain⟨p,vs,z,_⟩:=r1;rw[r2] at z;cases z
   |bl b2=>unfold Rep at r1 r2;obtain⟨p,vs,z,_⟩:=r1;rw[r2] at z;cases z
   |int b2=>unfold Rep at r1 r2;obtain⟨p,vs,z,_⟩:=r1;rw[r2] at z;cases z
   |str b2=>unfold Rep at r1 r2;obtain⟨p,vs,z,_⟩:=r1;rw[r2] at z;cases z
   |tup es=>unfold Rep at r1 r2;obtain⟨p,vs,z,s1,_⟩:=r1;obtain⟨p',vs',z',s2,_⟩:=r2;rw[z] at z';cases z';exact (bd0 I s2 s1).elim
   |lst es =>
    unfold Rep at r1 r2;obtain⟨p,vs,z,s1,q1⟩:=r1;obtain⟨p',vs',z',s2,q2⟩:=r2;rw[z] at z';cases z';have e:=I.list_inj s1 s2;subst e;cases n with
    |zero=>rw[k_3] at hn;omega
    |succ n =>
     rw[k_3] at hn;rw[eqD];exact as9 q1 q2 λ j d e v h1 h2=>W_5 I n d e v (q_8 (by omega) h1) (by have z:=q_8 (n:=998) (by first | (rw[k_2] at hz1;omega) | (rw[k_3] at hz1;omega)) h1;omega) (by have z:=q_8 (n:=998) (by first | (rw[k_2] at hz2;omega) | (rw[k_3] at hz2;omega)) h2;omega)
def RcN (X:Cx) (H:Hp) (s:Shared) (n:Nat):Prop:=∀ (A:Around) (d e:D) (x y:V) (u v:Value),dpD d<=n->dpD d<1000->dpD e<1000->A.units+n<cLine->Rep X.K H d x->RelV x u->Rep X.K H e y->RelV y v->SeqAt.RcAt A s u v (eqD d e)
def EqN (X:Cx) (H:Hp) (s:Shared) (n:Nat):Prop:=∀ (A:Around) (d e:D) (x y:V) (u v:Value),dpD d<=n->dpD d<1000->dpD e<1000->A.units+n<cLine->Rep X.K H d x->RelV x u->Rep X.K H e y->RelV y v->SeqAt.EqAt A s u v (eqD d e)
theorem bg8 (I:Inv X pins σ H s) {n:Nat} (rc:RcN X H s n):EqN X H s n:=by
 intro A d e x y u v hn hz1 hz2 hA r1 w1 r2 w2;have hu:A.units<cLine:=by omega
 have key:=rc A d e x y u v hn hz1 hz2 hA r1 w1 r2 w2;have one:x=y->eqD d e=true:=λ z=>W_5 I _ d e x (qi _) hz1 hz2 r1 (z▸r2)
 cases d with
 |opq=>exact absurd hz1 (by rw[d_3];omega)
 |dct ks0 vs0=>exact absurd hz1 (by rw[d_4];omega)
 |non =>
  cases e with
  |opq=>exact absurd hz2 (by rw[d_3];omega)
  |dct ks0 vs0=>exact absurd hz2 (by rw[d_4];omega)
  |non=>unfold Rep at r1;subst r1;cases (show u=Value.none from w1);unfold Rep at r2;subst r2;cases (show v=Value.none from w2);exact SeqAt.EqAt.same _
  |bl b2=>unfold Rep at r1;subst r1;cases (show u=Value.none from w1);unfold Rep at r2;subst r2;cases (show v=Value.bool _ from w2);exact SeqAt.EqAt.none_bool _
  |int b2=>unfold Rep at r1;subst r1;cases (show u=Value.none from w1);unfold Rep at r2;subst r2;obtain⟨t2,z2⟩:=w2;subst z2;exact SeqAt.EqAt.none_int _ _
  |str b2=>unfold Rep at r1;subst r1;cases (show u=Value.none from w1);unfold Rep at r2;subst r2;obtain⟨t2,z2⟩:=w2;subst z2;exact SeqAt.EqAt.none_str _ _
  |tup es=>unfold Rep at r1;subst r1;cases (show u=Value.none from w1);unfold Rep at r2;obtain⟨p2,vs2,y2,s2,q2⟩:=r2;subst y2;cases (show v=Value.ref _ from w2);obtain⟨its2,rv2,tp2,_⟩:=I.tuple s2;exact SeqAt.EqAt.none_tuple tp2 hu
  |lst es=>unfold Rep at r1;subst r1;cases (show u=Value.none from w1);unfold Rep at r2;obtain⟨p2,vs2,y2,s2,q2⟩:=r2;subst y2;cases (show v=Value.ref _ from w2);obtain⟨its2,rv2,tp2,_⟩:=I.list s2;have tp2:=tp2.isList;exact SeqAt.EqAt.none_list tp2 hu
 |bl b1 =>
  cases e with
  |opq=>exact absurd hz2 (by rw[d_3];omega)
  |dct ks0 vs0=>exact absurd hz2 (by rw[d_4];omega)
  |non=>unfold Rep at r1;subst r1;cases (show u=Value.bool _ from w1);unfold Rep at r2;subst r2;cases (show v=Value.none from w2);exact SeqAt.EqAt.bool_none _
  |bl b2=>unfold Rep at r1;subst r1;cases (show u=Value.bool _ from w1);unfold Rep at r2;subst r2;cases (show v=Value.bool _ from w2);exact SeqAt.EqAt.bool_bool _ _
  |int b2=>unfold Rep at r1;subst r1;cases (show u=Value.bool _ from w1);unfold Rep at r2;subst r2;obtain⟨t2,z2⟩:=w2;subst z2;exact SeqAt.EqAt.bool_int _ _ _
  |str b2=>unfold Rep at r1;subst r1;cases (show u=Value.bool _ from w1);unfold Rep at r2;subst r2;obtain⟨t2,z2⟩:=w2;subst z2;exact SeqAt.EqAt.bool_str _ _ _
  |tup es=>unfold Rep at r1;subst r1;cases (show u=Value.bool _ from w1);unfold Rep at r2;obtain⟨p2,vs2,y2,s2,q2⟩:=r2;subst y2;cases (show v=Value.ref _ from w2);obtain⟨its2,rv2,tp2,_⟩:=I.tuple s2;exact SeqAt.EqAt.bool_tuple _ tp2 hu
  |lst es=>unfold Rep at r1;subst r1;cases (show u=Value.bool _ from w1);unfold Rep at r2;obtain⟨p2,vs2,y2,s2,q2⟩:=r2;subst y2;cases (show v=Value.ref _ from w2);obtain⟨its2,rv2,tp2,_⟩:=I.list s2;have tp2:=tp2.isList;exact SeqAt.EqAt.bool_list _ tp2 hu
 |int b1 =>
  cases e with
  |opq=>exact absurd hz2 (by rw[d_3];omega)
  |dct ks0 vs0=>exact absurd hz2 (by rw[d_4];omega)
  |non=>unfold Rep at r1;subst r1;obtain⟨t1,z1⟩:=w1;subst z1;unfold Rep at r2;subst r2;cases (show v=Value.none from w2);exact SeqAt.EqAt.int_none _ _
  |bl b2=>unfold Rep at r1;subst r1;obtain⟨t1,z1⟩:=w1;subst z1;unfold Rep at r2;subst r2;cases (show v=Value.bool _ from w2);exact SeqAt.EqAt.int_bool _ _ _
  |int b2=>unfold Rep at r1;subst r1;obtain⟨t1,z1⟩:=w1;subst z1;unfold Rep at r2;subst r2;obtain⟨t2,z2⟩:=w2;subst z2;exact SeqAt.EqAt.int_int _ _ _ _
  |str b2=>unfold Rep at r1;subst r1;obtain⟨t1,z1⟩:=w1;subst z1;unfold Rep at r2;subst r2;obtain⟨t2,z2⟩:=w2;subst z2;exact SeqAt.EqAt.int_str _ _ _ _
  |tup es=>unfold Rep at r1;subst r1;obtain⟨t1,z1⟩:=w1;subst z1;unfold Rep at r2;obtain⟨p2,vs2,y2,s2,q2⟩:=r2;subst y2;cases (show v=Value.ref _ from w2);obtain⟨its2,rv2,tp2,_⟩:=I.tuple s2;exact SeqAt.EqAt.int_tuple _ _ tp2 hu
  |lst es=>unfold Rep at r1;subst r1;obtain⟨t1,z1⟩:=w1;subst z1;unfold Rep at r2;obtain⟨p2,vs2,y2,s2,q2⟩:=r2;subst y2;cases (show v=Value.ref _ from w2);obtain⟨its2,rv2,tp2,_⟩:=I.list s2;have tp2:=tp2.isList;exact SeqAt.EqAt.int_list _ _ tp2 hu
 |str b1 =>
  cases e with
  |opq=>exact absurd hz2 (by rw[d_3];omega)
  |dct ks0 vs0=>exact absurd hz2 (by rw[d_4];omega)
  |non=>unfold Rep at r1;subst r1;obtain⟨t1,z1⟩:=w1;subst z1;unfold Rep at r2;subst r2;cases (show v=Value.none from w2);exact SeqAt.EqAt.str_none _ _
  |bl b2=>unfold Rep at r1;subst r1;obtain⟨t1,z1⟩:=w1;subst z1;unfold Rep at r2;subst r2;cases (show v=Value.bool _ from w2);exact SeqAt.EqAt.str_bool _ _ _
  |int b2=>unfold Rep at r1;subst r1;obtain⟨t1,z1⟩:=w1;subst z1;unfold Rep at r2;subst r2;obtain⟨t2,z2⟩:=w2;subst z2;exact SeqAt.EqAt.str_int _ _ _ _
  |str b2=>unfold Rep at r1;subst r1;obtain⟨t1,z1⟩:=w1;subst z1;unfold Rep at r2;subst r2;obtain⟨t2,z2⟩:=w2;subst z2;exact SeqAt.EqAt.str_str _ _ _ _
  |tup es=>unfold Rep at r1;subst r1;obtain⟨t1,z1⟩:=w1;subst z1;unfold Rep at r2;obtain⟨p2,vs2,y2,s2,q2⟩:=r2;subst y2;cases (show v=Value.ref _ from w2);obtain⟨its2,rv2,tp2,_⟩:=I.tuple s2;exact SeqAt.EqAt.str_tuple _ _ tp2 hu
  |lst es=>unfold Rep at r1;subst r1;obtain⟨t1,z1⟩:=w1;subst z1;unfold Rep at r2;obtain⟨p2,vs2,y2,s2,q2⟩:=r2;subst y2;cases (show v=Value.ref _ from w2);obtain⟨its2,rv2,tp2,_⟩:=I.list s2;have tp2:=tp2.isList;exact SeqAt.EqAt.str_list _ _ tp2 hu
 |tup ds =>
  cases e with
  |opq=>exact absurd hz2 (by rw[d_3];omega)
  |dct ks0 vs0=>exact absurd hz2 (by rw[d_4];omega)
  |non=>unfold Rep at r1;obtain⟨p1,vs1,y1,s1,q1⟩:=r1;subst y1;cases (show u=Value.ref _ from w1);obtain⟨its1,rv1,tp1,_⟩:=I.tuple s1;unfold Rep at r2;subst r2;cases (show v=Value.none from w2);exact SeqAt.EqAt.tuple_none tp1 hu
  |bl b2=>unfold Rep at r1;obtain⟨p1,vs1,y1,s1,q1⟩:=r1;subst y1;cases (show u=Value.ref _ from w1);obtain⟨its1,rv1,tp1,_⟩:=I.tuple s1;unfold Rep at r2;subst r2;cases (show v=Value.bool _ from w2);exact SeqAt.EqAt.tuple_bool _ tp1 hu
  |int b2=>unfold Rep at r1;obtain⟨p1,vs1,y1,s1,q1⟩:=r1;subst y1;cases (show u=Value.ref _ from w1);obtain⟨its1,rv1,tp1,_⟩:=I.tuple s1;unfold Rep at r2;subst r2;obtain⟨t2,z2⟩:=w2;subst z2;exact SeqAt.EqAt.tuple_int _ _ tp1 hu
  |str b2=>unfold Rep at r1;obtain⟨p1,vs1,y1,s1,q1⟩:=r1;subst y1;cases (show u=Value.ref _ from w1);obtain⟨its1,rv1,tp1,_⟩:=I.tuple s1;unfold Rep at r2;subst r2;obtain⟨t2,z2⟩:=w2;subst z2;exact SeqAt.EqAt.tuple_str _ _ tp1 hu
  |tup es =>
   unfold Rep at r1 r2;obtain⟨p1,vs1,y1,_⟩:=r1;obtain⟨p2,vs2,y2,_⟩:=r2;subst y1 y2;cases (show u=Value.ref _ from w1);cases (show v=Value.ref _ from w2)
   by_cases h:p1=p2
   ·rw[one (by rw[h]),h];exact SeqAt.EqAt.same _
   ·exact SeqAt.EqAt.of_refs h key
  |lst es=>unfold Rep at r1;obtain⟨p1,vs1,y1,s1,q1⟩:=r1;subst y1;cases (show u=Value.ref _ from w1);obtain⟨its1,rv1,tp1,_⟩:=I.tuple s1;unfold Rep at r2;obtain⟨p2,vs2,y2,s2,q2⟩:=r2;subst y2;cases (show v=Value.ref _ from w2);obtain⟨its2,rv2,tp2,_⟩:=I.list s2;have tp2:=tp2.isList;exact SeqAt.EqAt.tuple_list tp1 tp2 hu
 |lst ds =>
  cases e with
  |opq=>exact absurd hz2 (by rw[d_3];omega)
  |dct ks0 vs0=>exact absurd hz2 (by rw[d_4];omega)
  |non=>unfold Rep at r1;obtain⟨p1,vs1,y1,s1,q1⟩:=r1;subst y1;cases (show u=Value.ref _ from w1);obtain⟨its1,rv1,tp1,_⟩:=I.list s1;have tp1:=tp1.isList;unfold Rep at r2;subst r2;cases (show v=Value.none from w2);exact SeqAt.EqAt.list_none tp1 hu
  |bl b2=>unfold Rep at r1;obtain⟨p1,vs1,y1,s1,q1⟩:=r1;subst y1;cases (show u=Value.ref _ from w1);obtain⟨its1,rv1,tp1,_⟩:=I.list s1;have tp1:=tp1.isList;unfold Rep at r2;subst r2;cases (show v=Value.bool _ from w2);exact SeqAt.EqAt.list_bool _ tp1 hu
  |int b2=>unfold Rep at r1;obtain⟨p1,vs1,y1,s1,q1⟩:=r1;subst y1;cases (show u=Value.ref _ from w1);obtain⟨its1,rv1,tp1,_⟩:=I.list s1;have tp1:=tp1.isList;unfold Rep at r2;subst r2;obtain⟨t2,z2⟩:=w2;subst z2;exact SeqAt.EqAt.list_int _ _ tp1 hu
  |str b2=>unfold Rep at r1;obtain⟨p1,vs1,y1,s1,q1⟩:=r1;subst y1;cases (show u=Value.ref _ from w1);obtain⟨its1,rv1,tp1,_⟩:=I.list s1;have tp1:=tp1.isList;unfold Rep at r2;subst r2;obtain⟨t2,z2⟩:=w2;subst z2;exact SeqAt.EqAt.list_str _ _ tp1 hu
  |tup es=>unfold Rep at r1;obtain⟨p1,vs1,y1,s1,q1⟩:=r1;subst y1;cases (show u=Value.ref _ from w1);obtain⟨its1,rv1,tp1,_⟩:=I.list s1;have tp1:=tp1.isList;unfold Rep at r2;obtain⟨p2,vs2,y2,s2,q2⟩:=r2;subst y2;cases (show v=Value.ref _ from w2);obtain⟨its2,rv2,tp2,_⟩:=I.tuple s2;exact SeqAt.EqAt.list_tuple tp1 tp2 hu
  |lst es =>
   unfold Rep at r1 r2;obtain⟨p1,vs1,y1,_⟩:=r1;obtain⟨p2,vs2,y2,_⟩:=r2;subst y1 y2;cases (show u=Value.ref _ from w1);cases (show v=Value.ref _ from w2)
   by_cases h:p1=p2
   ·rw[one (by rw[h]),h];exact SeqAt.EqAt.same _
   ·exact SeqAt.EqAt.of_refs h key
theorem aw2 {its:List Value}{j:Nat} (h:j<its.toArray.size):its[j]?=some its.toArray[j]:=by
 have h':j<its.length:=by simpa using h
 simp[h']
theorem N_2 {A:Around}{n:Nat} (eqn:EqN X H s n) {ds es:List D}{vs vs':List V}{its its':List Value} (hn:ai2 ds<=n) (hz1:ai2 ds<1000) (hz2:ai2 es<1000) (hA:A.in1.units+n<cLine) (q1:Reps X.K H ds vs) (q2:Reps X.K H es vs') (rv:Vals vs its) (rv':Vals vs' its')
  (j:Nat) (h1:j<its.toArray.size) (h2:j<its'.toArray.size):SeqAt.EqAt A.in1 s its.toArray[j] its'.toArray[j] (eqD (ds.getD j .non) (es.getD j .non)):=by
 have l1:=q1.length;have l2:=q2.length;have m1:=rv.length;have m2:=rv'.length;have k1:j<ds.length:=by rw[List.size_toArray] at h1;omega
 have k2:j<es.length:=by rw[List.size_toArray] at h2;omega
 have e1:ds[j]?=some ds[j]:=by simp[k1]
 have e2:es[j]?=some es[j]:=by simp[k2]
 obtain⟨v,a1,a2⟩:=q1.get e1;obtain⟨v',b1,b2⟩:=q2.get e2;obtain⟨u,c1,c2⟩:=rv.get a1;obtain⟨u',d1,d2⟩:=rv'.get b1;rw[aw2 h1] at c1;rw[aw2 h2] at d1;have g1:ds.getD j .non=ds[j]:=by simp[List.getD,k1]
 have g2:es.getD j .non=es[j]:=by simp[List.getD,k2]
 rw[g1,g2,Option.some.inj c1,Option.some.inj d1];exact eqn A.in1 ds[j] es[j] v v' u u' (q_8 hn e1) (by have z:=q_8 (n:=999) (by omega) e1;omega) (by have z:=q_8 (n:=999) (by omega) e2;omega) hA a2 c2 b2 d2
theorem rcS (I:Inv X pins σ H s) (n:Nat) (ih:∀ m,m<n->EqN X H s m):RcN X H s n:=by
  intro A d e x y u v hn hz1 hz2 hA r1 w1 r2 w2;have hu:A.units<cLine:=by omega
  cases d with
  |opq=>exact absurd hz1 (by rw[d_3];omega)
  |dct ks0 vs0=>exact absurd hz1 (by rw[d_4];omega)
  |non =>
   cases e with
   |opq=>exact absurd hz2 (by rw[d_3];omega)
   |dct ks0 vs0=>exact absurd hz2 (by rw[d_4];omega)
   |non=>unfold Rep at r1;subst r1;cases (show u=Value.none from w1);unfold Rep at r2;subst r2;cases (show v=Value.none from w2);exact SeqAt.RcAt.none_none
   |bl b2=>unfold Rep at r1;subst r1;cases (show u=Value.none from w1);unfold Rep at r2;subst r2;cases (show v=Value.bool _ from w2);exact SeqAt.RcAt.none_bool _
   |int b2=>unfold Rep at r1;subst r1;cases (show u=Value.none from w1);unfold Rep at r2;subst r2;obtain⟨t2,z2⟩:=w2;subst z2;exact SeqAt.RcAt.none_int _ _
   |str b2=>unfold Rep at r1;subst r1;cases (show u=Value.none from w1);unfold Rep at r2;subst r2;obtain⟨t2,z2⟩:=w2;subst z2;exact SeqAt.RcAt.none_str _ _
   |tup es=>unfold Rep at r1;subst r1;cases (show u=Value.none from w1);unfold Rep at r2;obtain⟨p2,vs2,y2,s2,q2⟩:=r2;subst y2;cases (show v=Value.ref _ from w2);obtain⟨its2,rv2,tp2,_⟩:=I.tuple s2;exact SeqAt.RcAt.none_tuple tp2 hu
   |lst es=>unfold Rep at r1;subst r1;cases (show u=Value.none from w1);unfold Rep at r2;obtain⟨p2,vs2,y2,s2,q2⟩:=r2;subst y2;cases (show v=Value.ref _ from w2);obtain⟨its2,rv2,tp2,_⟩:=I.list s2;have tp2:=tp2.isList;exact SeqAt.RcAt.none_list tp2 hu
  |bl b1 =>
   cases e with
   |opq=>exact absurd hz2 (by rw[d_3];omega)
   |dct ks0 vs0=>exact absurd hz2 (by rw[d_4];omega)
   |non=>unfold Rep at r1;subst r1;cases (show u=Value.bool _ from w1);unfold Rep at r2;subst r2;cases (show v=Value.none from w2);exact SeqAt.RcAt.bool_none _
   |bl b2=>unfold Rep at r1;subst r1;cases (show u=Value.bool _ from w1);unfold Rep at r2;subst r2;cases (show v=Value.bool _ from w2);exact SeqAt.RcAt.bool_bool _ _
   |int b2=>unfold Rep at r1;subst r1;cases (show u=Value.bool _ from w1);unfold Rep at r2;subst r2;obtain⟨t2,z2⟩:=w2;subst z2;exact SeqAt.RcAt.bool_int _ _ _
   |str b2=>unfold Rep at r1;subst r1;cases (show u=Value.bool _ from w1);unfold Rep at r2;subst r2;obtain⟨t2,z2⟩:=w2;subst z2;exact SeqAt.RcAt.bool_str _ _ _
   |tup es=>unfold Rep at r1;subst r1;cases (show u=Value.bool _ from w1);unfold Rep at r2;obtain⟨p2,vs2,y2,s2,q2⟩:=r2;subst y2;cases (show v=Value.ref _ from w2);obtain⟨its2,rv2,tp2,_⟩:=I.tuple s2;exact SeqAt.RcAt.bool_tuple _ tp2 hu
   |lst es=>unfold Rep at r1;subst r1;cases (show u=Value.bool _ from w1);unfold Rep at r2;obtain⟨p2,vs2,y2,s2,q2⟩:=r2;subst y2;cases (show v=Value.ref _ from w2);obtain⟨its2,rv2,tp2,_⟩:=I.list s2;have tp2:=tp2.isList;exact SeqAt.RcAt.bool_list _ tp2 hu
  |int b1 =>
   cases e with
   |opq=>exact absurd hz2 (by rw[d_3];omega)
   |dct ks0 vs0=>exact absurd hz2 (by rw[d_4];omega)
   |non=>unfold Rep at r1;subst r1;obtain⟨t1,z1⟩:=w1;subst z1;unfold Rep at r2;subst r2;cases (show v=Value.none from w2);exact SeqAt.RcAt.int_none _ _
   |bl b2=>unfold Rep at r1;subst r1;obtain⟨t1,z1⟩:=w1;subst z1;unfold Rep at r2;subst r2;cases (show v=Value.bool _ from w2);exact SeqAt.RcAt.int_bool _ _ _
   |int b2=>unfold Rep at r1;subst r1;obtain⟨t1,z1⟩:=w1;subst z1;unfold Rep at r2;subst r2;obtain⟨t2,z2⟩:=w2;subst z2;exact SeqAt.RcAt.int_int _ _ _ _
   |str b2=>unfold Rep at r1;subst r1;obtain⟨t1,z1⟩:=w1;subst z1;unfold Rep at r2;subst r2;obtain⟨t2,z2⟩:=w2;subst z2;exact SeqAt.RcAt.int_str _ _ _ _
   |tup es=>unfold Rep at r1;subst r1;obtain⟨t1,z1⟩:=w1;subst z1;unfold Rep at r2;obtain⟨p2,vs2,y2,s2,q2⟩:=r2;subst y2;cases (show v=Value.ref _ from w2);obtain⟨its2,rv2,tp2,_⟩:=I.tuple s2;exact SeqAt.RcAt.int_tuple _ _ tp2 hu
   |lst es=>unfold Rep at r1;subst r1;obtain⟨t1,z1⟩:=w1;subst z1;unfold Rep at r2;obtain⟨p2,vs2,y2,s2,q2⟩:=r2;subst y2;cases (show v=Value.ref _ from w2);obtain⟨its2,rv2,tp2,_⟩:=I.list s2;have tp2:=tp2.isList;exact SeqAt.RcAt.int_list _ _ tp2 hu
  |str b1 =>
   cases e with
   |opq=>exact absurd hz2 (by rw[d_3];omega)
   |dct ks0 vs0=>exact absurd hz2 (by rw[d_4];omega)
   |non=>unfold Rep at r1;subst r1;obtain⟨t1,z1⟩:=w1;subst z1;unfold Rep at r2;subst r2;cases (show v=Value.none from w2);exact SeqAt.RcAt.str_none _ _
   |bl b2=>unfold Rep at r1;subst r1;obtain⟨t1,z1⟩:=w1;subst z1;unfold Rep at r2;subst r2;cases (show v=Value.bool _ from w2);exact SeqAt.RcAt.str_bool _ _ _
   |int b2=>unfold Rep at r1;subst r1;obtain⟨t1,z1⟩:=w1;subst z1;unfold Rep at r2;subst r2;obtain⟨t2,z2⟩:=w2;subst z2;exact SeqAt.RcAt.str_int _ _ _ _
   |str b2=>unfold Rep at r1;subst r1;obtain⟨t1,z1⟩:=w1;subst z1;unfold Rep at r2;subst r2;obtain⟨t2,z2⟩:=w2;subst z2;exact SeqAt.RcAt.str_str _ _ _ _
   |tup es=>unfold Rep at r1;subst r1;obtain⟨t1,z1⟩:=w1;subst z1;unfold Rep at r2;obtain⟨p2,vs2,y2,s2,q2⟩:=r2;subst y2;cases (show v=Value.ref _ from w2);obtain⟨its2,rv2,tp2,_⟩:=I.tuple s2;exact SeqAt.RcAt.str_tuple _ _ tp2 hu
   |lst es=>unfold Rep at r1;subst r1;obtain⟨t1,z1⟩:=w1;subst z1;unfold Rep at r2;obtain⟨p2,vs2,y2,s2,q2⟩:=r2;subst y2;cases (show v=Value.ref _ from w2);obtain⟨its2,rv2,tp2,_⟩:=I.list s2;have tp2:=tp2.isList;exact SeqAt.RcAt.str_list _ _ tp2 hu
  |tup ds =>
   cases e with
   |opq=>exact absurd hz2 (by rw[d_3];omega)
   |dct ks0 vs0=>exact absurd hz2 (by rw[d_4];omega)
   |non=>unfold Rep at r1;obtain⟨p1,vs1,y1,s1,q1⟩:=r1;subst y1;cases (show u=Value.ref _ from w1);obtain⟨its1,rv1,tp1,_⟩:=I.tuple s1;unfold Rep at r2;subst r2;cases (show v=Value.none from w2);exact SeqAt.RcAt.tuple_none tp1 hu
   |bl b2=>unfold Rep at r1;obtain⟨p1,vs1,y1,s1,q1⟩:=r1;subst y1;cases (show u=Value.ref _ from w1);obtain⟨its1,rv1,tp1,_⟩:=I.tuple s1;unfold Rep at r2;subst r2;cases (show v=Value.bool _ from w2);exact SeqAt.RcAt.tuple_bool _ tp1 hu
   |int b2=>unfold Rep at r1;obtain⟨p1,vs1,y1,s1,q1⟩:=r1;subst y1;cases (show u=Value.ref _ from w1);obtain⟨its1,rv1,tp1,_⟩:=I.tuple s1;unfold Rep at r2;subst r2;obtain⟨t2,z2⟩:=w2;subst z2;exact SeqAt.RcAt.tuple_int _ _ tp1 hu
   |str b2=>unfold Rep at r1;obtain⟨p1,vs1,y1,s1,q1⟩:=r1;subst y1;cases (show u=Value.ref _ from w1);obtain⟨its1,rv1,tp1,_⟩:=I.tuple s1;unfold Rep at r2;subst r2;obtain⟨t2,z2⟩:=w2;subst z2;exact SeqAt.RcAt.tuple_str _ _ tp1 hu
   |tup es =>
     rw[k_2] at hn;unfold Rep at r1;obtain⟨p1,vs1,y1,s1,q1⟩:=r1;subst y1;cases (show u=Value.ref _ from w1);obtain⟨its1,rv1,tp1,_⟩:=I.tuple s1;unfold Rep at r2;obtain⟨p2,vs2,y2,s2,q2⟩:=r2;subst y2;cases (show v=Value.ref _ from w2);obtain⟨its2,rv2,tp2,_⟩:=I.tuple s2;have hi:A.in1.units+(n-1)<cLine:=by show A.units+1+(n-1)<cLine;omega
     have z:=SeqAt.RcAt.tuples (e:=λ j=>eqD (ds.getD j .non) (es.getD j .non)) tp1 tp2 hu (N_2 (A:=A) (ih (n-1) (by omega)) (by omega) (by first | (rw[k_2] at hz1;omega) | (rw[k_3] at hz1;omega)) (by first | (rw[k_2] at hz2;omega) | (rw[k_3] at hz2;omega)) hi q1 q2 rv1 rv2)
     rw[List.size_toArray,List.size_toArray,<- rv1.length,<- rv2.length,<- q1.length,<- q2.length] at z;rw[eqD,v_4];exact z
   |lst es=>unfold Rep at r1;obtain⟨p1,vs1,y1,s1,q1⟩:=r1;subst y1;cases (show u=Value.ref _ from w1);obtain⟨its1,rv1,tp1,_⟩:=I.tuple s1;unfold Rep at r2;obtain⟨p2,vs2,y2,s2,q2⟩:=r2;subst y2;cases (show v=Value.ref _ from w2);obtain⟨its2,rv2,tp2,_⟩:=I.list s2;have tp2:=tp2.isList;exact SeqAt.RcAt.tuple_list tp1 tp2 hu
  |lst ds =>
   cases e with
   |opq=>exact absurd hz2 (by rw[d_3];omega)
   |dct ks0 vs0=>exact absurd hz2 (by rw[d_4];omega)
   |non=>unfold Rep at r1;obtain⟨p1,vs1,y1,s1,q1⟩:=r1;subst y1;cases (show u=Value.ref _ from w1);obtain⟨its1,rv1,tp1,_⟩:=I.list s1;have tp1:=tp1.isList;unfold Rep at r2;subst r2;cases (show v=Value.none from w2);exact SeqAt.RcAt.list_none tp1 hu
   |bl b2=>unfold Rep at r1;obtain⟨p1,vs1,y1,s1,q1⟩:=r1;subst y1;cases (show u=Value.ref _ from w1);obtain⟨its1,rv1,tp1,_⟩:=I.list s1;have tp1:=tp1.isList;unfold Rep at r2;subst r2;cases (show v=Value.bool _ from w2);exact SeqAt.RcAt.list_bool _ tp1 hu
   |int b2=>unfold Rep at r1;obtain⟨p1,vs1,y1,s1,q1⟩:=r1;subst y1;cases (show u=Value.ref _ from w1);obtain⟨its1,rv1,tp1,_⟩:=I.list s1;have tp1:=tp1.isList;unfold Rep at r2;subst r2;obtain⟨t2,z2⟩:=w2;subst z2;exact SeqAt.RcAt.list_int _ _ tp1 hu
   |str b2=>unfold Rep at r1;obtain⟨p1,vs1,y1,s1,q1⟩:=r1;subst y1;cases (show u=Value.ref _ from w1);obtain⟨its1,rv1,tp1,_⟩:=I.list s1;have tp1:=tp1.isList;unfold Rep at r2;subst r2;obtain⟨t2,z2⟩:=w2;subst z2;exact SeqAt.RcAt.list_str _ _ tp1 hu
   |tup es=>unfold Rep at r1;obtain⟨p1,vs1,y1,s1,q1⟩:=r1;subst y1;cases (show u=Value.ref _ from w1);obtain⟨its1,rv1,tp1,_⟩:=I.list s1;have tp1:=tp1.isList;unfold Rep at r2;obtain⟨p2,vs2,y2,s2,q2⟩:=r2;subst y2;cases (show v=Value.ref _ from w2);obtain⟨its2,rv2,tp2,_⟩:=I.tuple s2;exact SeqAt.RcAt.list_tuple tp1 tp2 hu
   |lst es =>
     rw[k_3] at hn;unfold Rep at r1;obtain⟨p1,vs1,y1,s1,q1⟩:=r1;subst y1;cases (show u=Value.ref _ from w1);obtain⟨its1,rv1,tp1,_⟩:=I.list s1;have tp1:=tp1.isList;unfold Rep at r2;obtain⟨p2,vs2,y2,s2,q2⟩:=r2;subst y2;cases (show v=Value.ref _ from w2);obtain⟨its2,rv2,tp2,_⟩:=I.list s2;have tp2:=tp2.isList;have hi:A.in1.units+(n-1)<cLine:=by show A.units+1+(n-1)<cLine;omega
     have l1:its1.toArray.size=ds.length:=by rw[List.size_toArray,<- rv1.length,<- q1.length]
     have l2:its2.toArray.size=es.length:=by rw[List.size_toArray,<- rv2.length,<- q2.length]
     rw[eqD,v_4]
     by_cases hl:ds.length=es.length
     ·have z:=SeqAt.RcAt.lists (e:=λ j=>eqD (ds.getD j .non) (es.getD j .non)) tp1 tp2 (by rw[l1,l2];exact hl) hu (N_2 (A:=A) (ih (n-1) (by omega)) (by omega) (by first | (rw[k_2] at hz1;omega) | (rw[k_3] at hz1;omega)) (by first | (rw[k_2] at hz2;omega) | (rw[k_3] at hz2;omega)) hi q1 q2 rv1 rv2)
      rw[l1] at z;rw[show min ds.length es.length=ds.length by omega,show (ds.length==es.length)=true by simp[hl],Bool.and_true]
      exact z
     ·rw[show (ds.length==es.length)=false by simp[hl],Bool.and_false]
      exact SeqAt.RcAt.lists_lengths tp1 tp2 (by rw[l1,l2];simp[hl]) hu
theorem as8 (I:Inv X pins σ H s) (n:Nat):EqN X H s n:=by
 induction n using Nat.strongRecOn with
 |ind n ih=>exact bg8 I (rcS I n ih)
theorem rcN (I:Inv X pins σ H s) (n:Nat):RcN X H s n:=rcS I n λ m _=>as8 I m
def bB3 (K:Frag):R2:=λ x y H Q=>∃ d e,Rep K H d x/\Rep K H e y/\dpD d<=30/\dpD e<=30/\Q (.bl (eqD d e)) H
theorem bc8 (hu:X.A.units+64<cLine):OpR X (compareOp .Eq) (bB3 X.K):=by
 intro pins s σ H x y v u Q I rx ry h;obtain⟨d,e,r1,r2,hd,hd2,q⟩:=h;exact rcN I 30 X.A d e x y v u hd (by omega) (by omega) (by omega) r1 rx r2 ry X.prog X.w X.xe _ ⟨.bl _,H,I,rfl,q⟩
theorem bv0 {K:Frag}:OpD K (bB3 K) dEq:=λ c H0 H ρ σ x y d vx vy Q R r1 r2 e q=>by
 unfold dEq at e
 split at e
 ·rename_i hd
  cases e;exact⟨x,y,Rep.mono R.same x r1,Rep.mono R.same y r2,hd.1,hd.2,q _ H0 H (Same.refl _) R (v_8 _ _)⟩
 ·cases e
theorem cEq (hu:X.A.units+64<cLine):x_0 X .Eq dEq:=⟨_,bc8 hu,bv0⟩
theorem neN (I:Inv X pins σ H s) (n:Nat) (A:Around) (d e:D) (x y:V) (u v:Value) (hn:dpD d<=n) (hz1:dpD d<1000) (hz2:dpD e<1000) (hA:A.units+n<cLine) (r1:Rep X.K H d x) (w1:RelV x u) (r2:Rep X.K H e y) (w2:RelV y v):SeqAt.RcNeAt A s u v (!eqD d e):=by
  have hu:A.units<cLine:=by omega
  cases d with
  |opq=>exact absurd hz1 (by rw[d_3];omega)
  |dct ks0 vs0=>exact absurd hz1 (by rw[d_4];omega)
  |non =>
   cases e with
   |opq=>exact absurd hz2 (by rw[d_3];omega)
   |dct ks0 vs0=>exact absurd hz2 (by rw[d_4];omega)
   |non=>unfold Rep at r1;subst r1;cases (show u=Value.none from w1);unfold Rep at r2;subst r2;cases (show v=Value.none from w2);exact SeqAt.RcNeAt.none_none
   |bl b2=>unfold Rep at r1;subst r1;cases (show u=Value.none from w1);unfold Rep at r2;subst r2;cases (show v=Value.bool _ from w2);exact SeqAt.RcNeAt.none_bool _
   |int b2=>unfold Rep at r1;subst r1;cases (show u=Value.none from w1);unfold Rep at r2;subst r2;obtain⟨t2,z2⟩:=w2;subst z2;exact SeqAt.RcNeAt.none_int _ _
   |str b2=>unfold Rep at r1;subst r1;cases (show u=Value.none from w1);unfold Rep at r2;subst r2;obtain⟨t2,z2⟩:=w2;subst z2;exact SeqAt.RcNeAt.none_str _ _
   |tup es=>unfold Rep at r1;subst r1;cases (show u=Value.none from w1);unfold Rep at r2;obtain⟨p2,vs2,y2,s2,q2⟩:=r2;subst y2;cases (show v=Value.ref _ from w2);obtain⟨its2,rv2,tp2,_⟩:=I.tuple s2;exact SeqAt.RcNeAt.none_tuple tp2 hu
   |lst es=>unfold Rep at r1;subst r1;cases (show u=Value.none from w1);unfold Rep at r2;obtain⟨p2,vs2,y2,s2,q2⟩:=r2;subst y2;cases (show v=Value.ref _ from w2);obtain⟨its2,rv2,tp2,_⟩:=I.list s2;have tp2:=tp2.isList;exact SeqAt.RcNeAt.none_list tp2 hu
  |bl b1 =>
   cases e with
   |opq=>exact absurd hz2 (by rw[d_3];omega)
   |dct ks0 vs0=>exact absurd hz2 (by rw[d_4];omega)
   |non=>unfold Rep at r1;subst r1;cases (show u=Value.bool _ from w1);unfold Rep at r2;subst r2;cases (show v=Value.none from w2);exact SeqAt.RcNeAt.bool_none _
   |bl b2=>unfold Rep at r1;subst r1;cases (show u=Value.bool _ from w1);unfold Rep at r2;subst r2;cases (show v=Value.bool _ from w2);exact SeqAt.RcNeAt.bool_bool _ _
   |int b2=>unfold Rep at r1;subst r1;cases (show u=Value.bool _ from w1);unfold Rep at r2;subst r2;obtain⟨t2,z2⟩:=w2;subst z2;exact SeqAt.RcNeAt.bool_int _ _ _
   |str b2=>unfold Rep at r1;subst r1;cases (show u=Value.bool _ from w1);unfold Rep at r2;subst r2;obtain⟨t2,z2⟩:=w2;subst z2;exact SeqAt.RcNeAt.bool_str _ _ _
   |tup es=>unfold Rep at r1;subst r1;cases (show u=Value.bool _ from w1);unfold Rep at r2;obtain⟨p2,vs2,y2,s2,q2⟩:=r2;subst y2;cases (show v=Value.ref _ from w2);obtain⟨its2,rv2,tp2,_⟩:=I.tuple s2;exact SeqAt.RcNeAt.bool_tuple _ tp2 hu
   |lst es=>unfold Rep at r1;subst r1;cases (show u=Value.bool _ from w1);unfold Rep at r2;obtain⟨p2,vs2,y2,s2,q2⟩:=r2;subst y2;cases (show v=Value.ref _ from w2);obtain⟨its2,rv2,tp2,_⟩:=I.list s2;have tp2:=tp2.isList;exact SeqAt.RcNeAt.bool_list _ tp2 hu
  |int b1 =>
   cases e with
   |opq=>exact absurd hz2 (by rw[d_3];omega)
   |dct ks0 vs0=>exact absurd hz2 (by rw[d_4];omega)
   |non=>unfold Rep at r1;subst r1;obtain⟨t1,z1⟩:=w1;subst z1;unfold Rep at r2;subst r2;cases (show v=Value.none from w2);exact SeqAt.RcNeAt.int_none _ _
   |bl b2=>unfold Rep at r1;subst r1;obtain⟨t1,z1⟩:=w1;subst z1;unfold Rep at r2;subst r2;cases (show v=Value.bool _ from w2);exact SeqAt.RcNeAt.int_bool _ _ _
   |int b2=>unfold Rep at r1;subst r1;obtain⟨t1,z1⟩:=w1;subst z1;unfold Rep at r2;subst r2;obtain⟨t2,z2⟩:=w2;subst z2;exact SeqAt.RcNeAt.int_int _ _ _ _
   |str b2=>unfold Rep at r1;subst r1;obtain⟨t1,z1⟩:=w1;subst z1;unfold Rep at r2;subst r2;obtain⟨t2,z2⟩:=w2;subst z2;exact SeqAt.RcNeAt.int_str _ _ _ _
   |tup es=>unfold Rep at r1;subst r1;obtain⟨t1,z1⟩:=w1;subst z1;unfold Rep at r2;obtain⟨p2,vs2,y2,s2,q2⟩:=r2;subst y2;cases (show v=Value.ref _ from w2);obtain⟨its2,rv2,tp2,_⟩:=I.tuple s2;exact SeqAt.RcNeAt.int_tuple _ _ tp2 hu
   |lst es=>unfold Rep at r1;subst r1;obtain⟨t1,z1⟩:=w1;subst z1;unfold Rep at r2;obtain⟨p2,vs2,y2,s2,q2⟩:=r2;subst y2;cases (show v=Value.ref _ from w2);obtain⟨its2,rv2,tp2,_⟩:=I.list s2;have tp2:=tp2.isList;exact SeqAt.RcNeAt.int_list _ _ tp2 hu
  |str b1 =>
   cases e with
   |opq=>exact absurd hz2 (by rw[d_3];omega)
   |dct ks0 vs0=>exact absurd hz2 (by rw[d_4];omega)
   |non=>unfold Rep at r1;subst r1;obtain⟨t1,z1⟩:=w1;subst z1;unfold Rep at r2;subst r2;cases (show v=Value.none from w2);exact SeqAt.RcNeAt.str_none _ _
   |bl b2=>unfold Rep at r1;subst r1;obtain⟨t1,z1⟩:=w1;subst z1;unfold Rep at r2;subst r2;cases (show v=Value.bool _ from w2);exact SeqAt.RcNeAt.str_bool _ _ _
   |int b2=>unfold Rep at r1;subst r1;obtain⟨t1,z1⟩:=w1;subst z1;unfold Rep at r2;subst r2;obtain⟨t2,z2⟩:=w2;subst z2;exact SeqAt.RcNeAt.str_int _ _ _ _
   |str b2=>unfold Rep at r1;subst r1;obtain⟨t1,z1⟩:=w1;subst z1;unfold Rep at r2;subst r2;obtain⟨t2,z2⟩:=w2;subst z2;exact SeqAt.RcNeAt.str_str _ _ _ _
   |tup es=>unfold Rep at r1;subst r1;obtain⟨t1,z1⟩:=w1;subst z1;unfold Rep at r2;obtain⟨p2,vs2,y2,s2,q2⟩:=r2;subst y2;cases (show v=Value.ref _ from w2);obtain⟨its2,rv2,tp2,_⟩:=I.tuple s2;exact SeqAt.RcNeAt.str_tuple _ _ tp2 hu
   |lst es=>unfold Rep at r1;subst r1;obtain⟨t1,z1⟩:=w1;subst z1;unfold Rep at r2;obtain⟨p2,vs2,y2,s2,q2⟩:=r2;subst y2;cases (show v=Value.ref _ from w2);obtain⟨its2,rv2,tp2,_⟩:=I.list s2;have tp2:=tp2.isList;exact SeqAt.RcNeAt.str_list _ _ tp2 hu
  |tup ds =>
   cases e with
   |opq=>exact absurd hz2 (by rw[d_3];omega)
   |dct ks0 vs0=>exact absurd hz2 (by rw[d_4];omega)
   |non=>unfold Rep at r1;obtain⟨p1,vs1,y1,s1,q1⟩:=r1;subst y1;cases (show u=Value.ref _ from w1);obtain⟨its1,rv1,tp1,_⟩:=I.tuple s1;unfold Rep at r2;subst r2;cases (show v=Value.none from w2);exact SeqAt.RcNeAt.tuple_none tp1 hu
   |bl b2=>unfold Rep at r1;obtain⟨p1,vs1,y1,s1,q1⟩:=r1;subst y1;cases (show u=Value.ref _ from w1);obtain⟨its1,rv1,tp1,_⟩:=I.tuple s1;unfold Rep at r2;subst r2;cases (show v=Value.bool _ from w2);exact SeqAt.RcNeAt.tuple_bool _ tp1 hu
   |int b2=>unfold Rep at r1;obtain⟨p1,vs1,y1,s1,q1⟩:=r1;subst y1;cases (show u=Value.ref _ from w1);obtain⟨its1,rv1,tp1,_⟩:=I.tuple s1;unfold Rep at r2;subst r2;obtain⟨t2,z2⟩:=w2;subst z2;exact SeqAt.RcNeAt.tuple_int _ _ tp1 hu
   |str b2=>unfold Rep at r1;obtain⟨p1,vs1,y1,s1,q1⟩:=r1;subst y1;cases (show u=Value.ref _ from w1);obtain⟨its1,rv1,tp1,_⟩:=I.tuple s1;unfold Rep at r2;subst r2;obtain⟨t2,z2⟩:=w2;subst z2;exact SeqAt.RcNeAt.tuple_str _ _ tp1 hu
   |tup es =>
     rw[k_2] at hn;unfold Rep at r1;obtain⟨p1,vs1,y1,s1,q1⟩:=r1;subst y1;cases (show u=Value.ref _ from w1);obtain⟨its1,rv1,tp1,_⟩:=I.tuple s1;unfold Rep at r2;obtain⟨p2,vs2,y2,s2,q2⟩:=r2;subst y2;cases (show v=Value.ref _ from w2);obtain⟨its2,rv2,tp2,_⟩:=I.tuple s2;have hi:A.in1.units+(n-1)<cLine:=by show A.units+1+(n-1)<cLine;omega
     have z:=SeqAt.RcNeAt.tuples (e:=λ j=>eqD (ds.getD j .non) (es.getD j .non)) tp1 tp2 hu (N_2 (A:=A) (as8 I (n-1)) (by omega) (by first | (rw[k_2] at hz1;omega) | (rw[k_3] at hz1;omega)) (by first | (rw[k_2] at hz2;omega) | (rw[k_3] at hz2;omega)) hi q1 q2 rv1 rv2)
     rw[List.size_toArray,List.size_toArray,<- rv1.length,<- rv2.length,<- q1.length,<- q2.length] at z;rw[eqD,v_4];exact z
   |lst es=>unfold Rep at r1;obtain⟨p1,vs1,y1,s1,q1⟩:=r1;subst y1;cases (show u=Value.ref _ from w1);obtain⟨its1,rv1,tp1,_⟩:=I.tuple s1;unfold Rep at r2;obtain⟨p2,vs2,y2,s2,q2⟩:=r2;subst y2;cases (show v=Value.ref _ from w2);obtain⟨its2,rv2,tp2,_⟩:=I.list s2;have tp2:=tp2.isList;exact SeqAt.RcNeAt.tuple_list tp1 tp2 hu
  |lst ds =>
   cases e with
   |opq=>exact absurd hz2 (by rw[d_3];omega)
   |dct ks0 vs0=>exact absurd hz2 (by rw[d_4];omega)
   |non=>unfold Rep at r1;obtain⟨p1,vs1,y1,s1,q1⟩:=r1;subst y1;cases (show u=Value.ref _ from w1);obtain⟨its1,rv1,tp1,_⟩:=I.list s1;have tp1:=tp1.isList;unfold Rep at r2;subst r2;cases (show v=Value.none from w2);exact SeqAt.RcNeAt.list_none tp1 hu
   |bl b2=>unfold Rep at r1;obtain⟨p1,vs1,y1,s1,q1⟩:=r1;subst y1;cases (show u=Value.ref _ from w1);obtain⟨its1,rv1,tp1,_⟩:=I.list s1;have tp1:=tp1.isList;unfold Rep at r2;subst r2;cases (show v=Value.bool _ from w2);exact SeqAt.RcNeAt.list_bool _ tp1 hu
   |int b2=>unfold Rep at r1;obtain⟨p1,vs1,y1,s1,q1⟩:=r1;subst y1;cases (show u=Value.ref _ from w1);obtain⟨its1,rv1,tp1,_⟩:=I.list s1;have tp1:=tp1.isList;unfold Rep at r2;subst r2;obtain⟨t2,z2⟩:=w2;subst z2;exact SeqAt.RcNeAt.list_int _ _ tp1 hu
   |str b2=>unfold Rep at r1;obtain⟨p1,vs1,y1,s1,q1⟩:=r1;subst y1;cases (show u=Value.ref _ from w1);obtain⟨its1,rv1,tp1,_⟩:=I.list s1;have tp1:=tp1.isList;unfold Rep at r2;subst r2;obtain⟨t2,z2⟩:=w2;subst z2;exact SeqAt.RcNeAt.list_str _ _ tp1 hu
   |tup es=>unfold Rep at r1;obtain⟨p1,vs1,y1,s1,q1⟩:=r1;subst y1;cases (show u=Value.ref _ from w1);obtain⟨its1,rv1,tp1,_⟩:=I.list s1;have tp1:=tp1.isList;unfold Rep at r2;obtain⟨p2,vs2,y2,s2,q2⟩:=r2;subst y2;cases (show v=Value.ref _ from w2);obtain⟨its2,rv2,tp2,_⟩:=I.tuple s2;exact SeqAt.RcNeAt.list_tuple tp1 tp2 hu
   |lst es =>
     rw[k_3] at hn;unfold Rep at r1;obtain⟨p1,vs1,y1,s1,q1⟩:=r1;subst y1;cases (show u=Value.ref _ from w1);obtain⟨its1,rv1,tp1,_⟩:=I.list s1;have tp1:=tp1.isList;unfold Rep at r2;obtain⟨p2,vs2,y2,s2,q2⟩:=r2;subst y2;cases (show v=Value.ref _ from w2);obtain⟨its2,rv2,tp2,_⟩:=I.list s2;have tp2:=tp2.isList;have hi:A.in1.units+(n-1)<cLine:=by show A.units+1+(n-1)<cLine;omega
     have l1:its1.toArray.size=ds.length:=by rw[List.size_toArray,<- rv1.length,<- q1.length]
     have l2:its2.toArray.size=es.length:=by rw[List.size_toArray,<- rv2.length,<- q2.length]
     rw[eqD,v_4]
     by_cases hl:ds.length=es.length
     ·have z:=SeqAt.RcNeAt.lists (e:=λ j=>eqD (ds.getD j .non) (es.getD j .non)) tp1 tp2 (by rw[l1,l2];exact hl) hu (N_2 (A:=A) (as8 I (n-1)) (by omega) (by first | (rw[k_2] at hz1;omega) | (rw[k_3] at hz1;omega)) (by first | (rw[k_2] at hz2;omega) | (rw[k_3] at hz2;omega)) hi q1 q2 rv1 rv2)
      rw[l1] at z;rw[show min ds.length es.length=ds.length by omega,show (ds.length==es.length)=true by simp[hl],Bool.and_true]
      exact z
     ·rw[show (ds.length==es.length)=false by simp[hl],Bool.and_false]
      exact SeqAt.RcNeAt.lists_lengths tp1 tp2 (by rw[l1,l2];simp[hl]) hu
def bA9 (K:Frag):R2:=λ x y H Q=>∃ d e,Rep K H d x/\Rep K H e y/\dpD d<=30/\dpD e<=30/\Q (.bl (!eqD d e)) H
theorem bc6 (hu:X.A.units+64<cLine):OpR X (compareOp .NotEq) (bA9 X.K):=by
 intro pins s σ H x y v u Q I rx ry h;obtain⟨d,e,r1,r2,hd,hd2,q⟩:=h;exact neN I 30 X.A d e x y v u hd (by omega) (by omega) (by omega) r1 rx r2 ry X.prog X.w X.xe _ ⟨.bl _,H,I,rfl,q⟩
theorem bs9 {K:Frag}:OpD K (bA9 K) dNe:=λ c H0 H ρ σ x y d vx vy Q R r1 r2 e q=>by
 unfold dNe at e
 split at e
 ·rename_i hd
  cases e;exact⟨x,y,Rep.mono R.same x r1,Rep.mono R.same y r2,hd.1,hd.2,q _ H0 H (Same.refl _) R (v_8 _ _)⟩
 ·cases e
theorem cNe (hu:X.A.units+64<cLine):x_0 X .NotEq dNe:=⟨_,bc6 hu,bs9⟩
end
section
variable {X:Cx}
def BOk (X:Cx) (f:Value) (g:List D->Option D):Prop:=∃ r,CallR X f r/\∀ (c:FC) (H0 H:Hp) (ρ:En) (σ:L2.St) (ds:List D) (d:D) (vs:List V) (Q:VK),RS X.K c H0 H ρ σ->Reps X.K H0 ds vs->g ds=some d->Aft X.K c H0 ρ σ d Q->r vs H Q
theorem bi1 {g:List D->Option D}{A:FA}{r:List V->Hp->VK->Prop} (o:∀ (c:FC) (H0 H:Hp) (ρ:En) (σ:L2.St) (ds:List D) (d:D) (vs:List V) (Q:VK),RS X.K c H0 H ρ σ->Reps X.K H0 ds vs->g ds=some d->Aft X.K c H0 ρ σ d Q->r vs H Q)
  {σ:L2.St}{H:Hp}{Q:VK} (h:tE X.K (eF g A) σ H Q):tCB r (tAa X.K A) σ H Q:=by
 obtain⟨c,H0,ρ,d,ρ',R,f,q⟩:=h;unfold eF at f;obtain⟨⟨ds,ρ1⟩,h1,f⟩:=a_2 f;obtain⟨d',h2,f⟩:=a_2 f;have f':some (d',ρ1)=some (d,ρ'):=f;cases f';exact⟨c,H0,ρ,ds,_,R,h1,λ vs H1 Hh s1 R1 r1=>o c H1 Hh _ σ ds d vs Q R1 r1 h2 λ v H2 Hh2 s2 R2 r2=>q v H2 Hh2 (s1.trans s2) R2 r2⟩
theorem xB {id:String}{g:List D → Option D}{A:FA}{x:Str}{p pos:Pos}{e:Expr}{es:List Expr} (o:BOk X (.builtin id) g) (hg:Gl X x) (hm:X.mg x=none) (hv:bootBuiltins x=some (.builtin id)) (ha:XA X (e::es) A) (hn:x≠"__name__":=by decide) (hdb:(x==("__debug__":Str))=false:=by decide)
  (he:starEach (e::es) X.env=(false,eval e X.env)::starEach es X.env:=by rfl) (hpl:(backTo pos (starEach es X.env)).any (·.1)=false:=by rfl):XE X (.Call (.Name x p) (e::es) [] pos) (eF g A):=by
 obtain⟨r,h1,h2⟩:=o;exact PE.wk (C_9 h1 hg hm hv ha hn hdb he hpl) λ σ H Q h=>bi1 h2 h
theorem Reps.v1 {K:Frag}{H:Hp}{d:D}{vs:List V} (h:Reps K H [d] vs):∃ v,vs=[v]/\Rep K H d v:=by
 unfold Reps at h;obtain⟨v,r,e,a,b⟩:=h;unfold Reps at b;exact⟨v,by rw[e,b],a⟩
theorem Reps.v2 {K:Frag}{H:Hp}{d d':D}{vs:List V} (h:Reps K H [d,d'] vs):∃ v v',vs=[v,v']/\Rep K H d v/\Rep K H d' v':=by
 unfold Reps at h;obtain⟨v,r,e,a,b⟩:=h;obtain⟨v',e',b'⟩:=Reps.v1 b;exact⟨v,v',by rw[e,e'],a,b'⟩
theorem aD7 {ds:List D}{d:D} (h:aU2 ds=some d):∃ i,ds=[.int i]/\d=.int (if i<0 then -i else i):=by
 unfold aU2 at h
 split at h
 ·cases h;exact⟨_,rfl,rfl⟩
 ·cases h
theorem aa3:BOk X (.builtin "abs") aU2:=⟨_,aD0,λ c H0 H ρ σ ds d vs Q R r e q=>by
 obtain⟨i,rfl,rfl⟩:=aD7 e;obtain⟨v,rfl,rv⟩:=Reps.v1 r;unfold Rep at rv;subst rv;exact⟨i,rfl,q _ H0 H (Same.refl _) R (i_6 _ _)⟩⟩
theorem N_3 {K:Frag}{H:Hp}:∀ {ds:List D}{is:List Int}{vs:List V},J_6 ds=some is->Reps K H ds vs->vs=is.map V.int
 |[],_,_,e,r=>by
  have e':([]:List Int)=_:=qh e;unfold Reps at r;rw[r,<- e'];rfl
 |d::ds,_,_,e,r=>by
  cases d with
  |int i =>
   rw[Z_0] at e;obtain⟨is,e1,e2⟩:=a_2 e;cases e2;unfold Reps at r;obtain⟨v,r',rfl,a,t⟩:=r;unfold Rep at a;rw[a,N_3 e1 t];rfl
  |_=>cases e
theorem intsAre_of:∀ {is:List Int}{us:List Value},Vals (is.map V.int) us->IntsAre us is:=by
 intro is
 induction is with
 |nil=>intro us h;cases h;exact .nil
 |cons b r ih =>
  intro us h;cases h with
  |cons a t=>obtain⟨tk,rfl⟩:=(show ∃ t,_=Value.int b t from a);exact .cons b tk (ih t)
theorem S_9:∀ (r:List Int) (m:Int),(ah5 m r=m\/ah5 m r∈r)/\ah5 m r<=m/\∀ a∈r,ah5 m r<=a
 |[],m=>⟨.inl rfl,Int.le_refl _,λ a h=>by cases h⟩
 |x::r,m=>by
  obtain⟨h1,h2,h3⟩:=S_9 r (if x<m then x else m);rw[show ah5 m (x::r)=ah5 (if x<m then x else m) r from rfl]
  by_cases h:x<m
  ·rw[if_pos h] at h1 h2 h3 ⊢
   refine⟨.inr ?_,by omega,λ a ha=>?_⟩
   ·rcases h1 with e | e
    ·rw[e];exact List.mem_cons_self
    ·exact qg _ e
   ·rcases qp ha with rfl | ha
    ·exact h2
    ·exact h3 a ha
  ·rw[if_neg h] at h1 h2 h3 ⊢
   refine⟨?_,h2,λ a ha=>?_⟩
   ·rcases h1 with e | e
    ·exact .inl e
    ·exact .inr (qg _ e)
   ·rcases qp ha with rfl | ha
    ·omega
    ·exact h3 a ha
theorem T_1:∀ (r:List Int) (m:Int),(ah6 m r=m\/ah6 m r∈r)/\m<=ah6 m r/\∀ a∈r,a<=ah6 m r
 |[],m=>⟨.inl rfl,Int.le_refl _,λ a h=>by cases h⟩
 |x::r,m=>by
  obtain⟨h1,h2,h3⟩:=T_1 r (if m<x then x else m);rw[show ah6 m (x::r)=ah6 (if m<x then x else m) r from rfl]
  by_cases h:m<x
  ·rw[if_pos h] at h1 h2 h3 ⊢
   refine⟨.inr ?_,by omega,λ a ha=>?_⟩
   ·rcases h1 with e | e
    ·rw[e];exact List.mem_cons_self
    ·exact qg _ e
   ·rcases qp ha with rfl | ha
    ·exact h2
    ·exact h3 a ha
  ·rw[if_neg h] at h1 h2 h3 ⊢
   refine⟨?_,h2,λ a ha=>?_⟩
   ·rcases h1 with e | e
    ·exact .inl e
    ·exact .inr (qg _ e)
   ·rcases qp ha with rfl | ha
    ·omega
    ·exact h3 a ha
theorem ao5 {i M:Int}{r:List Int} (h:M∈i::r) (h':∀ a∈i::r,M<=a):M=ah5 i r:=by
 obtain⟨h1,h2,h3⟩:=S_9 r i
 have a1:ah5 i r<=M:=by
  rcases qp h with rfl | h
  ·exact h2
  ·exact h3 _ h
 have a2:M<=ah5 i r:=by
  rcases h1 with e | e
  ·rw[e];exact h' _ List.mem_cons_self
  ·exact h' _ (qg _ e)
 omega
theorem ao9 {i M:Int}{r:List Int} (h:M∈i::r) (h':∀ a∈i::r,a<=M):M=ah6 i r:=by
 obtain⟨h1,h2,h3⟩:=T_1 r i
 have a1:M<=ah6 i r:=by
  rcases qp h with rfl | h
  ·exact h2
  ·exact h3 _ h
 have a2:ah6 i r<=M:=by
  rcases h1 with e | e
  ·rw[e];exact h' _ List.mem_cons_self
  ·exact h' _ (qg _ e)
 omega
theorem av0 (hc:X.calm=true):CallR X (.builtin "min") (λ xs H Q=>∃ (p:Addr) (i:Int) (r:List Int),xs=[.ref p] ∧ SqL X.K H p ((i::r).map V.int) ∧ Q (.int (ah5 i r)) H):=by
 intro pins s σ H xs us Q I r h;obtain⟨l,i,is,rfl,hl,q⟩:=h;obtain⟨u,rfl,ru⟩:=z_4 r;cases ru;obtain⟨its,rv,pl,hz⟩:=I.list hl;have hi:=intsAre_of rv;have hL:=pl.isList;obtain⟨ys,e⟩:=hi.allInts.items;have hns:i::is=ys.toList.map (·.1):=by rw[<- hi.numsOf,<- nums_intItems,<- e]
 have hsz:0<ys.size:=by
  have h3:0<(i::is).length:=Nat.succ_pos _;rw[hns,List.length_map,Array.length_toList] at h3;exact h3
 rw[e] at hL;refine min_intList (I.ok.hd hc) hL hsz λ v h' tk hv hk=>?_
 obtain⟨t,rfl⟩:=intItems_at hv;obtain⟨h1,h2⟩:=argBest_lt (numAt ys) (ys.size-1);refine⟨_,H,I.kept hk,?_,q⟩
 have:numAt ys (argBest (λ i j=>decide (numAt ys i<numAt ys j)) (ys.size-1))=ah5 i is:=ao5 (by rw[hns,numAt_eq];exact getD_mem (by rw[List.length_map,Array.length_toList];omega)) λ a ha=>by
  rw[hns] at ha;obtain⟨j,hj,rfl⟩:=mem_getD ha;rw[List.length_map,Array.length_toList] at hj;rw[<- numAt_eq];exact h2 j (by omega)
 rw[this];exact⟨_,rfl⟩
theorem av2 (hc:X.calm=true):CallR X (.builtin "max") (λ xs H Q=>∃ (p:Addr) (i:Int) (r:List Int),xs=[.ref p] ∧ SqL X.K H p ((i::r).map V.int) ∧ Q (.int (ah6 i r)) H):=by
 intro pins s σ H xs us Q I r h;obtain⟨l,i,is,rfl,hl,q⟩:=h;obtain⟨u,rfl,ru⟩:=z_4 r;cases ru;obtain⟨its,rv,pl,hz⟩:=I.list hl;have hi:=intsAre_of rv;have hL:=pl.isList;obtain⟨ys,e⟩:=hi.allInts.items;have hns:i::is=ys.toList.map (·.1):=by rw[<- hi.numsOf,<- nums_intItems,<- e]
 have hsz:0<ys.size:=by
  have h3:0<(i::is).length:=Nat.succ_pos _;rw[hns,List.length_map,Array.length_toList] at h3;exact h3
 rw[e] at hL;refine max_intList (I.ok.hd hc) hL hsz λ v h' tk hv hk=>?_
 obtain⟨t,rfl⟩:=intItems_at hv;obtain⟨h1,h2⟩:=argBest_gt (numAt ys) (ys.size-1);refine⟨_,H,I.kept hk,?_,q⟩
 have:numAt ys (argBest (λ i j=>decide (numAt ys i > numAt ys j)) (ys.size-1))=ah6 i is:=ao9 (by rw[hns,numAt_eq];exact getD_mem (by rw[List.length_map,Array.length_toList];omega)) λ a ha=>by
  rw[hns] at ha;obtain⟨j,hj,rfl⟩:=mem_getD ha;rw[List.length_map,Array.length_toList] at hj;rw[<- numAt_eq];exact h2 j (by omega)
 rw[this];exact⟨_,rfl⟩
theorem CallR.or {X:Cx}{f:Value}{r r':List V->Hp->VK->Prop} (h:CallR X f r) (h':CallR X f r'):CallR X f (λ xs H Q=>r xs H Q\/r' xs H Q) :=
 λ pins s σ H xs us Q I v z=>z.elim (λ a=>h pins s σ H xs us Q I v a) (λ a=>h' pins s σ H xs us Q I v a)
theorem U_7 {f:Int->List Int->Int}{is:List Int}{d:D} (h:aT8 f is=some d):∃ i r,is=i::r/\d=.int (f i r):=by
 cases is with
 |nil=>cases h
 |cons i r=>cases h;exact⟨i,r,rfl,rfl⟩
theorem O_4 (hc:X.calm=true):BOk X (.builtin "max") aU0:=⟨_,(av3 hc).or (av2 hc),λ c H0 H ρ σ ds d vs Q R r e q=>by
 unfold aU0 at e
 split at e
 ·cases e
  obtain⟨v,v',rfl,r1,r2⟩:=Reps.v2 r;unfold Rep at r1 r2;subst r1 r2;exact .inl ⟨_,_,rfl,q _ H0 H (Same.refl _) R (i_6 _ _)⟩
 ·obtain⟨is,e1,e2⟩:=a_2 e
  obtain⟨i,is,rfl,rfl⟩:=U_7 e2;obtain⟨v,rfl,rv⟩:=Reps.v1 r;unfold Rep at rv;obtain⟨p,ws,rfl,s,t⟩:=rv;have:=N_3 e1 t;subst this;exact .inr ⟨p,i,is,rfl,Same.seq R.same s,q _ H0 H (Same.refl _) R (i_6 _ _)⟩
 ·cases e⟩
theorem aT5 (hc:X.calm=true):BOk X (.builtin "min") bm2:=⟨_,(av1 hc).or (av0 hc),λ c H0 H ρ σ ds d vs Q R r e q=>by
 unfold bm2 at e
 split at e
 ·cases e
  obtain⟨v,v',rfl,r1,r2⟩:=Reps.v2 r;unfold Rep at r1 r2;subst r1 r2;exact .inl ⟨_,_,rfl,q _ H0 H (Same.refl _) R (i_6 _ _)⟩
 ·obtain⟨is,e1,e2⟩:=a_2 e
  obtain⟨i,is,rfl,rfl⟩:=U_7 e2;obtain⟨v,rfl,rv⟩:=Reps.v1 r;unfold Rep at rv;obtain⟨p,ws,rfl,s,t⟩:=rv;have:=N_3 e1 t;subst this;exact .inr ⟨p,i,is,rfl,Same.seq R.same s,q _ H0 H (Same.refl _) R (i_6 _ _)⟩
 ·cases e⟩
def tyV (d:D):Value:=match d with
 |.non=>.type "NoneType" | .bl _=>.type "bool" | .int _=>.type "int" | .str _=>.type "str" | .tup _=>.type "tuple" | .lst _=>.type "list" | .opq=>.type "dict" | .dct _ _=>.type "dict"
def spP (K:Frag) (g:List D->Option D):Sp:=λ vs H Q _=>∃ Hi ds d,Same Hi H/\Reps K Hi ds vs/\g ds=some d/\∀ v Hi' H',Step Hi H Hi' H'->Rep K Hi' d v->Q v H'
structure DefOk (P:Program) (w:World) (K:Frag) (mg:Str->Option Value) (base:Heap) (k:Nat) (x:Str) (g:List D->Option D):Prop where
 ex:∃ f fd ps,FnOk P w K mg base CX0 k f fd ps (spP K g)/\Binds K fd ps []/\keepIn K (.ref f)=true/\mg x=some (.ref f)
theorem xF {k:Nat}{x:Str}{g:List D → Option D}{A:FA}{p pos:Pos}{e:Expr}{es:List Expr} (G:DefOk X.prog X.w X.K X.mg X.base k x g) (hr:Room k X.A) (ha:XA X (e::es) A) (hg:Gl X x:=by rfl) (hdb:(x==("__debug__":Str))=false:=by decide)
  (he:starEach (e::es) X.env=(false,eval e X.env)::starEach es X.env:=by rfl) (hpl:(backTo pos (starEach es X.env)).any (·.1)=false:=by rfl):XE X (.Call (.Name x p) (e::es) [] pos) (eF g A):=by
 obtain⟨f,fd,ps,F,hb,hk,hm⟩:=G.ex;refine PE.wk (W_8 F hr hg hm hk hb .nil aM7 ha hdb he hpl) λ σ H Q hh0_=>?_
 obtain⟨c,H0,ρ,d,ρ',R,z,q⟩:=hh0_;unfold eF at z;obtain⟨⟨ds,ρ1⟩,h1,z⟩:=a_2 z;obtain⟨d',h2,z⟩:=a_2 z;have z':some (d',ρ1)=some (d,ρ'):=z;cases z';exact⟨c,H0,ρ,ds,_,R,h1,λ vs H1 Hh s1 R1 r1=>⟨H1,ds,d,R1.same,by rw[List.append_nil];exact r1,h2,λ v Hi' H' S rv=>q v Hi' H' (s1.trans S.s0) (R1.after S) rv⟩⟩
end
def y_9 (K:Frag) (J:It) (H1:Hp) (xs:List D):Prop:=∀ (H0 H:Hp) (i:Nat),Same H1 H0->Same H0 H ->
 (∀ d,xs[i]?=some d->J.go i H/\∀ x H',J.yld i H x H'->H'=H/\Rep K H0 d x)/\(xs.length<=i->J.stop i H)
theorem V_6 {K:Frag}{H1:Hp}{a:Addr}{vs:List V}{xs:List D} (rd:SqL K H1 a vs) (r:Reps K H1 xs vs):y_9 K (Itl K a) H1 xs:=λ H0 H i s s'=>by
 have sq:SqL K H a vs:=Same.seq (s.trans s') rd;refine⟨λ d e=>?_,λ h=>⟨vs,sq,by rw[<- r.length];exact h⟩⟩
 obtain⟨v,e1,e2⟩:=r.get e;refine⟨⟨vs,v,sq,e1⟩,λ x H' ⟨h1,h2⟩=>⟨h1,?_⟩⟩
 have:=h2 vs sq;rw[e1] at this;cases this;exact Rep.mono s d e2
theorem af5 {K:Frag}{H1:Hp}{a:Addr}{vs:List V}{xs:List D} (rd:SqT K H1 a vs) (r:Reps K H1 xs vs):y_9 K (Itt K a) H1 xs:=λ H0 H i s s'=>by
 have sq:SqT K H a vs:=Same.seqT (s.trans s') rd;refine⟨λ d e=>?_,λ h=>⟨vs,sq,by rw[<- r.length];exact h⟩⟩
 obtain⟨v,e1,e2⟩:=r.get e;refine⟨⟨vs,v,sq,e1⟩,λ x H' ⟨h1,h2⟩=>⟨h1,?_⟩⟩
 have:=h2 vs sq;rw[e1] at this;cases this;exact Rep.mono s d e2
theorem E_2:∀ (n:Nat) (lo:Int),(P_1 lo n).length=n
 |0,_=>rfl
 |n+1,lo=>by show (P_1 (lo+1) n).length+1=n+1;rw[E_2 n]
theorem ab6:∀ (n:Nat) (lo:Int) (i:Nat) (d:D),(P_1 lo n)[i]?=some d->d=.int (lo+i)/\i<n
 |0,lo,i,d,h=>by simp[P_1] at h
 |n+1,lo,0,d,h=>by
  simp[P_1] at h;exact⟨by rw[<- h];simp,by omega⟩
 |n+1,lo,i+1,d,h=>by
  have h':(P_1 (lo+1) n)[i]?=some d:=by simpa [P_1] using h
  obtain⟨a,b⟩:=ab6 n (lo+1) i d h';refine⟨by rw[a];congr 1;push_cast;omega,by omega⟩
theorem af7 {K:Frag}{H1:Hp} (lo:Int) (n:Nat):y_9 K (Itr lo n) H1 (P_1 lo n):=λ H0 H i s s'=>by
 refine⟨λ d e=>?_,λ h=>by rw[E_2] at h;exact h⟩
 obtain⟨rfl,hi⟩:=ab6 n lo i d e;refine⟨hi,λ x H' ⟨h1,h2⟩=>⟨h1,?_⟩⟩
 unfold Rep;exact h2
def Its (z:Str):It:=⟨λ i _=>i<z.cps.size,λ i H x H'=>H'=H/\∃ c,z.cps[i]?=some c/\x=.str (chS c),λ i _=>z.cps.size<=i⟩
theorem ab1 {P:Program}{w:World}{K:Frag}{tg:Expr}{n:String} (z:Str) (t:Tok) (it:Addr) (hn:["enumerate","zip","dict_itemiterator","dict_reverseitemiterator","odict_iterator","itertools.zip_longest","itertools.pairwise"].contains n=false)
  (W:∀ A:Around,A.handled=none->Walks P w A it [it] [it] z.cps.size (SignAt z) (λ i h=>h.IsStrIter it n z t i)) (fin:∀ (A:Around) (s:Shared) (i:Nat) (Q:Option Value->Shared->Prop) (E:Value->Shared->Prop),A.handled=none->s.heap.IsStrIter it n z t i->z.cps[i]?=none->(∀ h',Heap.ExtBut it s.heap h'->Q none {s with heap:=h'})->wpAny (model P w) A (pyNext (.ref it)) Q E s)
  (slf:∀ (A:Around) (i:Nat) (s:Shared) (Q:Value->Shared->Prop) (E:Value->Shared->Prop),s.heap.IsStrIter it n z t i->Q (.ref it) s->wpAny (model P w) A (pyIter (.ref it)) Q E s) :
  Turn P w K tg (Its z) [it] it (λ i h=>h.IsStrIter it n z t i) where
 mem:=by simp
 obj:=λ i h st b hb=>by
  have e:b=it:=by simpa using hb
  subst e;obtain⟨o,e,c,d⟩:=st;exact⟨o,e,λ v z=>by rw[d] at z;cases z⟩
 keep:=λ i h h' st k=>let ⟨o,e,r⟩:=st;⟨o,k it (by simp) o e,r⟩
 item:=by
  intro X hP hw hK hc i pins s σ H E I hf st hg;subst hP hw hK;obtain⟨f0,f1,f2,f3,f4,f5⟩:=hf it (by simp)
  refine (W X.A (I.ok.hd hc)).item i s _ _ hg st λ v h' tk hv st' kk=>?_
  obtain⟨ch,u,e1,rfl⟩:=hv;have I1:Inv X pins σ H {s with heap:=h',toks:=tk}:=I.turned (λ b o hb e=>kk b o (by simpa using hb) e) f0 f1 f3 f4 f5
  obtain⟨o,e,c,d⟩:=id st';exact⟨_,rfl,ar8 (s:={s with heap:=h',toks:=tk}) e c d hn ⟨.str (chS ch),H,I1,⟨u,rfl⟩,⟨rfl,ch,e1,rfl⟩,st',λ b hb=>(hf b hb).1⟩⟩
 done:=by
  intro X hP hw hK hc i pins s σ H E I hf st hg;subst hP hw hK;obtain⟨f0,f1,f2,f3,f4,f5⟩:=hf it (by simp)
  have hg:z.cps.size<=i:=hg;exact fin X.A s i _ _ (I.ok.hd hc) st (by simp[hg]) λ h' eb=>⟨rfl,I.turned (t':=s.toks) (λ b o hb e=>eb b o hb e) f0 f1 f3 f4 f5⟩
 self:=λ A i s Q E st h=>slf A i s Q E st h
def bC8 (t:TE):TI:=λ σ H R=>t σ H λ x H1=>∃ z,x=.str z/\R (Its z) H1
def iSq (K:Frag) (t:TE):TI:=λ σ H R=>bf1 K t σ H R\/bC7 K t σ H R\/bC8 t σ H R
theorem bb1 {X:Cx}{tg l:Expr}{tl:TE} (hl:PE X l tl):PI X tg l (bC8 tl):=by
 intro pins s σ H R I h;refine thn (hl pins s σ H _ I h) λ v s1 hh0_=>?_
 obtain⟨x,H1,I1,r1,q1⟩:=hh0_;obtain⟨z,e,q⟩:=q1;subst e;obtain⟨t,rfl⟩:=r1
 have fp:∀ (o:Obj),∀ b∈[s1.heap.objs.size],aw6 X pins H1 b:=λ o b hb=>by
  have e:b=s1.heap.objs.size:=by simpa using hb
  subst e;exact I1.fpOk (qi _) (I1.hok.fresh (qi _))
 cases ha:z.cps.all (·<128)
 ·refine wpAny_pyIter_wide ha ?_
  exact⟨s1.heap.objs.size,[s1.heap.objs.size],_,_,H1,rfl,I1.kept (t':=s1.toks) λ b o e=>qd _ e,ab1 (n:="str_iterator") z t _ (by decide) (λ A hA=>Walks.strWide hA _ z t) (λ A s i Q E hA st hx hQ=>wpAny_pyNext_wide_end hA st hx hQ) (λ _ _ _ _ _ st h=>wpAny_pyIter_striter_wide st h),⟨_,qj _ rfl,rfl,rfl⟩,fp {cls:=.none,data:=.fields #[]},q⟩
 ·refine wpAny_pyIter_ascii ha ?_
  exact⟨s1.heap.objs.size,[s1.heap.objs.size],_,_,H1,rfl,I1.kept (t':=s1.toks) λ b o e=>qd _ e,ab1 (n:="str_ascii_iterator") z t _ (by decide) (λ A hA=>Walks.strAscii hA _ z t) (λ A s i Q E hA st hx hQ=>wpAny_pyNext_ascii_end hA st hx hQ) (λ _ _ _ _ _ st h=>wpAny_pyIter_striter_ascii st h),⟨_,qj _ rfl,rfl,rfl⟩,fp {cls:=.none,data:=.fields #[]},q⟩
theorem af6 {K:Frag}{H1:Hp} (z:Str):y_9 K (Its z) H1 (chs z):=λ H0 H i s s'=>by
 have hl:(chs z).length=z.cps.size:=by unfold chs;rw[List.length_map,Array.length_toList]
 refine⟨λ d e=>?_,λ h=>by rw[hl] at h;exact h⟩
 have hi:i<z.cps.size:=by rw[<- hl];exact (List.getElem?_eq_some_iff.mp e).1
 refine⟨hi,λ x H' ⟨h1,ch,h2,h3⟩=>⟨h1,?_⟩⟩
 unfold chs at e;rw[List.getElem?_map,Array.getElem?_toList,h2] at e;have e':D.str (chS ch)=d:=qh e;subst e';unfold Rep;exact h3
theorem az8 {X:Cx}{tg l:Expr}{tl:TE} (hl:PE X l tl):PI X tg l (iSq X.K tl):=λ pins s σ H R I h=>by
 rcases h with h | h | h
 ·exact aM1 hl pins s σ H R I h
 ·exact bb0 hl pins s σ H R I h
 ·exact bb1 hl pins s σ H R I h
theorem p_8 {K:Frag}{F:FE}{σ:L2.St}{H:Hp}{R:It->Hp->Prop}{c:FC}{H0:Hp}{ρ ρ':En}{d:D}{xs:List D} (rs:RS K c H0 H ρ σ) (f:F ρ=some (d,ρ')) (hx:items d=some xs)
  (h:∀ J H1 Hh,Same H0 H1->RS K c H1 Hh ρ' σ->y_9 K J H1 xs->R J Hh):iSq K (tE K F) σ H R:=by
 cases d with
 |lst ds =>
  have e:ds=xs:=qh hx;subst e;refine .inl ⟨c,H0,ρ,_,ρ',rs,f,λ v H1 Hh s1 R1 r1=>?_⟩
  unfold Rep at r1;obtain⟨a,vs,rfl,rd,r⟩:=r1;exact⟨a,rfl,⟨vs,Same.seq R1.same rd⟩,h _ H1 Hh s1 R1 (V_6 rd r)⟩
 |tup ds =>
  have e:ds=xs:=qh hx;subst e;refine .inr (.inl ⟨c,H0,ρ,_,ρ',rs,f,λ v H1 Hh s1 R1 r1=>?_⟩)
  unfold Rep at r1;obtain⟨a,vs,rfl,rd,r⟩:=r1;exact⟨a,rfl,⟨vs,Same.seqT R1.same rd⟩,h _ H1 Hh s1 R1 (af5 rd r)⟩
 |str z =>
  have e:chs z=xs:=qh hx;subst e;refine .inr (.inr ⟨c,H0,ρ,_,ρ',rs,f,λ v H1 Hh s1 R1 r1=>?_⟩)
  unfold Rep at r1;exact⟨z,r1,h _ H1 Hh s1 R1 (af6 z)⟩
 |_=>cases hx
theorem ad8 {ρ:En}:∀ {js:List Nat}{fr:En},V_4 ρ js=some fr->fr.length=js.length/\∀ (k:Nat) (s:Sl),fr[k]?=some s->∃ j d,js[k]?=some j/\ρ[j]?=some (.im d)/\s=.im d
 |[],_,h=>by
  have h':([]:En)=_:=qh h;subst h';exact⟨rfl,λ k s e=>by simp at e⟩
 |j::js,_,h=>by
  rw[ar6] at h;obtain⟨s,h1,h⟩:=a_2 h;obtain⟨r,h2,h⟩:=a_2 h;cases h;obtain⟨a,b⟩:=ad8 h2;refine⟨by rw[List.length_cons,List.length_cons,a],λ k s' e=>?_⟩
  cases k with
  |zero =>
   simp at e;subst e;cases z:ρ[j]? with
   |none=>rw[z] at h1;cases h1
   |some sl =>
    rw[z] at h1;cases sl with
    |im d=>exact⟨j,d,rfl,z,(qh h1).symm⟩
    |_=>cases h1
  |succ k =>
   obtain⟨j',d,x1,x2,x3⟩:=b k s' (by simpa using e)
   exact⟨j',d,by simpa using x1,x2,x3⟩
theorem RS.block {K:Frag}{c:FC}{H0 H:Hp}{ρ:En}{σ:L2.St}{js:List Nat}{fr:En}{d:D}{x:V} (R:RS K c H0 H ρ σ) (hf:V_4 ρ js=some fr) (rx:Rep K H0 d x):RS K ⟨H0,H,[]⟩ H0 H (.im d::fr) (some x::frv σ js):=by
 obtain⟨l,g⟩:=ad8 hf;refine⟨R.same,Same.refl _,λ b o e=>.inl e,λ b o e _=>e,λ a h=>(by cases h),?_,λ i d' e=>?_,λ i b o e=>?_,λ i j b b' o o' a e=>?_⟩
 ·rw[List.length_cons,List.length_cons,l,frv,List.length_map]
 ·cases i with
  |zero=>simp at e;subst e;exact⟨x,rfl,rx⟩
  |succ k =>
   obtain⟨j,d2,x1,x2,x3⟩:=g k _ (by simpa using e)
   cases x3;obtain⟨v,y1,y2⟩:=R.im j d' x2;refine⟨v,?_,y2⟩;show (frv σ js)[k]?=some (some v);unfold frv;rw[List.getElem?_map,x1];show some (σ[j]?).join=some (some v);rw[y1];rfl
 ·cases i with
  |zero=>simp at e
  |succ k =>
   obtain⟨j,d2,_,_,x3⟩:=g k _ (by simpa using e)
   cases x3
 ·cases i with
  |zero=>simp at e
  |succ k =>
   obtain⟨j,d2,_,_,x3⟩:=g k _ (by simpa using e)
   cases x3
theorem RS.step {K:Frag}{Hi He H0 H:Hp}{ρ:En}{σ:L2.St} (R:RS K ⟨Hi,He,[]⟩ H0 H ρ σ):Step Hi He H0 H :=
 ⟨R.init,λ b o e=>R.keep b o e (by simp),R.same,R.fresh⟩
theorem Z_6 {α:Type}{xs:List α}{i:Nat}{d:α} (h:xs[i]?=some d):xs.drop i=d::xs.drop (i+1):=by
 obtain⟨hi,e⟩:=List.getElem?_eq_some_iff.mp h;rw[<- e];exact List.drop_eq_getElem_cons hi
theorem aO3 {K:Frag}{c:FC}{H1 Hh:Hp}{ρ:En}{σ:L2.St}{js:List Nat}{fr:En}{T:FT}{F:FE}{xs out:List D}{J:It}{Qf:List V->Hp->Prop} (R:RS K c H1 Hh ρ σ) (hf:V_4 ρ js=some fr) (hc:cGo T F fr xs=some out) (hz:xs.length<=sizeLine) (hy:y_9 K J H1 xs)
  (q:∀ ys H0 H,Same H1 H0->RS K c H0 H ρ σ->Reps K H0 out ys->Qf ys H):LcW js (tTt K T) (tE K F) σ Qf J Hh:=by
 refine⟨λ i m ys H=>m=xs.length-i/\i<=xs.length/\∃ H0,Same H1 H0/\RS K c H0 H ρ σ/\∃ pre rest,Reps K H0 pre ys/\pre.length<=i/\cGo T F fr (xs.drop i)=some rest/\pre++rest=out,⟨xs.length,by simp,Nat.zero_le _,H1,Same.refl _,R,[],out,Reps.nil_,Nat.zero_le _,by simpa using hc,rfl⟩,?_⟩
 rintro i m ys H ⟨rfl,hi,H0,s0,R0,pre,rest,rp,lp,hg,e⟩;obtain⟨y1,y2⟩:=hy H0 H i s0 R0.same
 by_cases hlt:i<xs.length
 ·have hd:xs[i]?=some xs[i]:=by simp[hlt]
  obtain⟨go,yl⟩:=y1 _ hd;refine .inr ⟨go,by rw[<- rp.length];omega,λ x H' hx=>?_⟩
  obtain⟨rfl,rx⟩:=yl x H' hx;rw[Z_6 hd,aD2] at hg;obtain⟨⟨b,ρb⟩,g1,hg⟩:=a_2 hg;dsimp only at hg;refine⟨⟨H0,H',[]⟩,H0,_,b,ρb,R0.block hf rx,g1,λ H2 Hh2 s2 R2=>?_⟩
  cases b with
  |false =>
   rw[if_neg Bool.false_ne_true] at hg ⊢;have S:=R2.step;exact⟨xs.length-(i+1),by omega,rfl,hlt,H2,s0.trans S.s0,R0.after S,pre,rest,Reps.mono S.s0 _ rp,by omega,hg,e⟩
  |true =>
   rw[if_pos rfl] at hg ⊢;obtain⟨⟨z,ρz⟩,g2,hg⟩:=a_2 hg;obtain⟨t,g3,hg⟩:=a_2 hg;dsimp only at hg;have hg':some (z::t)=some rest:=hg;cases hg';refine⟨⟨H0,H',[]⟩,H2,ρb,z,ρz,R2,g2,λ v H3 Hh3 s3 R3 r3=>?_⟩
   have S:=R3.step;refine⟨xs.length-(i+1),by omega,rfl,hlt,H3,s0.trans S.s0,R0.after S,pre++[z],t,(Reps.mono S.s0 _ rp).app (Reps.one r3),?_,g3,?_⟩
   ·rw[List.length_append,List.length_singleton];omega
   ·rw[List.append_assoc];exact e
 ·have ei:i=xs.length:=by omega
  have hn:xs.drop i=[]:=List.drop_eq_nil_of_le (by omega)
  rw[hn,aT6] at hg;have hg':([]:List D)=rest:=qh hg;subst hg';rw[List.append_nil] at e;subst e;exact .inl ⟨y2 (by omega),by rw[<- rp.length];omega,q ys H0 H s0 R0 rp⟩
def XTs (X:Cx) (ifs:List Expr) (T:FT):Prop:=PTs X ifs (tTt X.K T)
theorem PTs.wk {X:Cx}{e:List Expr}{t t':TT} (h:PTs X e t) (w:∀ σ H Q,t' σ H Q->t σ H Q):PTs X e t':=λ pins s σ H Q I q=>h pins s σ H Q I (w σ H Q q)
theorem K_5 {X:Cx}:XTs X [] Fx.tYes:=PTs.wk aL4 λ σ H Q hh0_=>by
 obtain⟨c,H0,ρ,b,ρ',R,f,q⟩:=hh0_;have f':some (true,ρ)=some (b,ρ'):=f;cases f';exact q H0 H (Same.refl _) R
theorem w_2 {X:Cx}{c:Expr}{T:FT} (h:XT X c T):XTs X [c] T:=aL3 h
section
variable {X:Cx}{scope sc:Scope}{x:Str}{frees:List Str}{js:List Nat}{px pos:Pos}{elt iter:Expr}{ifs:List Expr}{I F:FE}{T:FT}
theorem at4 {ρ ρ':En}{d:D} (h:eLC js I T F ρ=some (d,ρ')):∃ z xs fr ys,I ρ=some (z,ρ')/\items z=some xs/\V_4 ρ' js=some fr/\cGo T F fr xs=some ys/\xs.length<=sizeLine/\d=.lst ys:=by
 unfold eLC at h;obtain⟨⟨z,ρ1⟩,h1,h⟩:=a_2 h;obtain⟨xs,h2,h⟩:=a_2 h;obtain⟨fr,h3,h⟩:=a_2 h;obtain⟨ys,h4,h⟩:=a_2 h;dsimp only at h2 h3 h4 h
 split at h
 ·rename_i hz
  cases h;exact⟨z,xs,fr,ys,h1,h2,h3,h4,hz,rfl⟩
 ·cases h
theorem xlc (hc:X.calm=true) (hsc:X.env.scope=sc) (B:ScB X.N sc scope x frees js) (hi:XE X iter I) (ht:∀ s H C fp,XTs (cxB X (x::frees) scope s H C fp) ifs T) (he:∀ s H C fp,XE (cxB X (x::frees) scope s H C fp) elt F)
  (hs:∀ v,foldedSetIterable iter X.env v=pure v:=by intro _;rfl):XE X (.ListComp elt [⟨.Name x px,iter,ifs,0⟩] scope pos) (eLC js I T F) :=
 PE.wk (bb9 (tt:=tTt X.K T) (te:=tE X.K F) hc hsc B (az8 hi) ht he hs) λ σ H Q hh0_=>by
  obtain⟨c,H0,ρ,d,ρ',R,f,q⟩:=hh0_;obtain⟨z,xs,fr,ys,h1,h2,h3,h4,hz,rfl⟩:=at4 f;refine p_8 R h1 h2 λ J H1 Hh s1 R1 hy=>?_
  refine aO3 R1 h3 h4 hz hy λ vs H2 Hh2 s2 R2 r2=>λ p hp=>?_
  have S:=Step.alloc (o:=.lst vs) R2.same hp;refine q _ _ _ (s1.trans (s2.trans S.s0)) (R2.after S) ?_;unfold Rep;exact⟨p,vs,rfl,.inl (.inl a_7),Reps.mono S.s0 _ r2⟩
end
def Post (K:Frag) (c:FC) (Dn:Ends) (H0:Hp):Res->Prop
 |.nx ρ'=>∀ σ' H0' H',Same H0 H0'->RS K c H0' H' ρ' σ'->Dn.nx σ' H'
 |.rt d ρ'=>∀ v σ' H0' H',Same H0 H0'->RS K c H0' H' ρ' σ'->Rep K H0' d v->Dn.rt v H'
 |.bk ρ'=>∀ σ' H0' H',Same H0 H0'->RS K c H0' H' ρ' σ'->Dn.bk σ' H'
 |.ct ρ'=>∀ σ' H0' H',Same H0 H0'->RS K c H0' H' ρ' σ'->Dn.ct σ' H'
def tS (K:Frag) (F:FS):TS:=λ Dn σ H=>∃ c H0 ρ r,RS K c H0 H ρ σ/\F ρ=some r/\Post K c Dn H0 r
def XS (X:Cx) (st:Stmt) (F:FS):Prop:=PS X st (tS X.K F)
def XSs (X:Cx) (sts:List Stmt) (F:FS):Prop:=PSs X sts (tS X.K F)
theorem Post.mono {K:Frag}{c:FC}{Dn:Ends}{H0 H1:Hp} (s:Same H0 H1):∀ {r:Res},Post K c Dn H0 r->Post K c Dn H1 r
 |.nx _,h=>λ σ' H0' H' z=>h σ' H0' H' (s.trans z)
 |.rt _ _,h=>λ v σ' H0' H' z=>h v σ' H0' H' (s.trans z)
 |.bk _,h=>λ σ' H0' H' z=>h σ' H0' H' (s.trans z)
 |.ct _,h=>λ σ' H0' H' z=>h σ' H0' H' (s.trans z)
theorem RS.set {K:Frag}{c:FC}{H0 H:Hp}{ρ:En}{σ:L2.St}{d:D}{v:V} (R:RS K c H0 H ρ σ) (i:Nat) (r:Rep K H0 d v):RS K c H0 H (ρ.set i (.im d)) (σ.set i (some v)):=by
 have hl:=R.len;have other:∀ (j:Nat) (sl:Sl),j≠i->(ρ.set i (.im d))[j]?=some sl->ρ[j]?=some sl:=λ j sl hj e=>by rwa [List.getElem?_set_ne (Ne.symm hj)] at e
 have otherS:∀ (j:Nat),j≠i->(σ.set i (some v))[j]?=σ[j]?:=λ j hj=>List.getElem?_set_ne (Ne.symm hj)
 have same:∀ (sl:Sl),(ρ.set i (.im d))[i]?=some sl->sl=.im d/\i<ρ.length:=λ sl e=>by
  by_cases hi:i<ρ.length
  ·rw[List.getElem?_set_self hi] at e;exact⟨(qh e).symm,hi⟩
  ·rw[List.getElem?_eq_none (by rw[List.length_set];omega)] at e;cases e
 refine⟨R.same,R.init,R.fresh,R.keep,R.apt,by rw[List.length_set,List.length_set,hl],λ j d' e=>?_,λ j bb o e=>?_,λ j k b1 b2 o o' a e1 e2 e3 e4=>?_⟩
 ·by_cases hj:j=i
  ·subst hj
   obtain⟨e',hi⟩:=same _ e;cases e';exact⟨v,by rw[List.getElem?_set_self (by omega)],r⟩
  ·rw[otherS j hj];exact R.im j d' (other j _ hj e)
 ·by_cases hj:j=i
  ·subst hj;obtain⟨e',_⟩:=same _ e;cases e'
  ·rw[otherS j hj];exact R.ow j bb o (other j _ hj e)
 ·by_cases hj:j=i
  ·subst hj;obtain⟨e',_⟩:=same _ e1;cases e'
  ·by_cases hk:k=i
   ·subst hk;obtain⟨e',_⟩:=same _ e2;cases e'
   ·rw[otherS j hj] at e3;rw[otherS k hk] at e4
    exact R.ne j k b1 b2 o o' a (other j _ hj e1) (other k _ hk e2) e3 e4
section
variable {X:Cx}{pos:Pos}{e:Expr}{F:FE}{T:FT}{A B:FS}
theorem xsN:XSs X [] sN:=PSs.wk aL5 λ Dn σ H hh0_=>by
 obtain⟨c,H0,ρ,r,R,f,q⟩:=hh0_;have f':some (Res.nx ρ)=some r:=f;cases f';exact q σ H0 H (Same.refl _) R
theorem xs1 {st:Stmt} (h:XS X st A):XSs X [st] A:=al9 h
theorem xsC {st:Stmt}{rest:List Stmt} (h1:XS X st A) (h2:XSs X rest B):XSs X (st::rest) (b_7 A B):=PSs.wk (ab8 h1 h2) λ Dn σ H hh0_=>by
 obtain⟨c,H0,ρ,r,R,f,q⟩:=hh0_;unfold b_7 at f;obtain⟨z,h,f⟩:=a_2 f;refine⟨c,H0,ρ,z,R,h,?_⟩;cases z with
 |nx ρ1=>exact λ σ' H0' H' s R'=>⟨c,H0',ρ1,r,R',f,q.mono s⟩
 |rt d ρ1=>have f':some (Res.rt d ρ1)=some r:=f;cases f';exact q
 |bk ρ1=>have f':some (Res.bk ρ1)=some r:=f;cases f';exact q
 |ct ρ1=>have f':some (Res.ct ρ1)=some r:=f;cases f';exact q
theorem bz0 (i:Nat) {x:Str}{pos':Pos} (hN:X.N.Nodup) (he:XE X e F) (hi:X.N[i]?=some x:=by rfl) (hx:Loc X.env.scope x:=by first | exact Or.inl rfl | exact Or.inr rfl) (hs:swapsWith e (some (.Name x pos')) pos.line X.env=pure false:=by rfl)
  (hf:X.fn x=true\/X.env.scope.names.lookup x=some .local:=by first | exact .inl rfl | exact .inr rfl):XS X (.Assign [.Name x pos'] e pos) (d_7 i F):=PS.wk (am0 hN hi hx he hs hf) λ Dn σ H hh0_=>by
 obtain⟨c,H0,ρ,r,R,f,q⟩:=hh0_;unfold d_7 at f;obtain⟨⟨d,ρ1⟩,h1,f⟩:=a_2 f;have f':some (Res.nx (ρ1.set i (.im d)))=some r:=f;cases f';exact⟨c,H0,ρ,d,ρ1,R,h1,λ v H1 Hh s1 R1 r1=>q _ H1 Hh s1 (R1.set i r1)⟩
theorem aE3 (i:Nat) {y x:Str}{py px spos:Pos}{scope sc:Scope}{frees:List Str}{js:List Nat}{elt iter:Expr}{ifs:List Expr}{I:FE} (hN:X.N.Nodup) (hc:X.calm=true) (hsc:X.env.scope=sc) (Bk:ScB X.N sc scope x frees js) (hi:XE X iter I)
  (ht:∀ s H C fp,XTs (cxB X (x::frees) scope s H C fp) ifs T) (he:∀ s H C fp,XE (cxB X (x::frees) scope s H C fp) elt F) (hi':X.N[i]?=some y:=by rfl) (hy:X.env.scope.names.lookup y=some .local:=by rfl)
  (hsw:swapsWith (.ListComp elt [⟨.Name x px,iter,ifs,0⟩] scope pos) (some (.Name y py)) spos.line X.env=pure true:=by rfl)
  (hs:∀ v,foldedSetIterable iter X.env v=pure v:=by intro _;rfl):XS X (.Assign [.Name y py] (.ListComp elt [⟨.Name x px,iter,ifs,0⟩] scope pos) spos) (d_7 i (eLC js I T F)) :=
 PS.wk (L_8 (tt:=tTt X.K T) (te:=tE X.K F) hN hi' hy hc hsc Bk (az8 hi) ht he hsw hs) λ Dn σ H hh0_=>by
  obtain⟨c,H0,ρ,r,R,f,q⟩:=hh0_;unfold d_7 at f;obtain⟨⟨d,ρ1⟩,h1,f⟩:=a_2 f;have f':some (Res.nx (ρ1.set i (.im d)))=some r:=f;cases f';obtain⟨z,xs,fr,ys,h0,h2,h3,h4,hz,rfl⟩:=at4 h1;refine p_8 R h0 h2 λ J H1 Hh s1 R1 hy=>?_
  refine aO3 R1 h3 h4 hz hy λ vs H2 Hh2 s2 R2 r2=>λ p hp=>?_
  have S:=Step.alloc (o:=.lst vs) R2.same hp;refine q _ _ _ (s1.trans (s2.trans S.s0)) ((R2.after S).set i ?_);unfold Rep;exact⟨p,vs,rfl,.inl (.inl a_7),Reps.mono S.s0 _ r2⟩
theorem bH1 {c:Expr}{a b:List Stmt} (hc:XT X c T) (ha:XSs X a A) (hb:XSs X b B):XS X (.If c a b pos) (sIf T A B):=PS.wk (br5 hc ha hb) λ Dn σ H hh0_=>by
 obtain⟨c,H0,ρ,r,R,f,q⟩:=hh0_;unfold sIf at f;obtain⟨⟨k,ρ1⟩,h1,f⟩:=a_2 f;dsimp only at f;refine⟨c,H0,ρ,k,ρ1,R,h1,λ H1 Hh s1 R1=>?_⟩
 cases k with
 |true =>
  rw[if_pos rfl] at f ⊢;exact⟨c,H1,ρ1,r,R1,f,q.mono s1⟩
 |false =>
  rw[if_neg Bool.false_ne_true] at f ⊢;exact⟨c,H1,ρ1,r,R1,f,q.mono s1⟩
theorem bz1 (he:XE X e F):XS X (.Return (some e) pos) (e_8 F):=PS.wk (aF5 he) λ Dn σ H hh0_=>by
 obtain⟨c,H0,ρ,r,R,f,q⟩:=hh0_;unfold e_8 at f;obtain⟨⟨d,ρ1⟩,h1,f⟩:=a_2 f;have f':some (Res.rt d ρ1)=some r:=f;cases f';exact⟨c,H0,ρ,d,ρ1,R,h1,λ v H1 Hh s1 R1 r1=>q v σ H1 Hh s1 R1 r1⟩
abbrev GD:=D->En->Option En
def tG (K:Frag) (g:GD):TG:=λ v σ H Q=>∃ c H0 ρ d ρ',RS K c H0 H ρ σ/\Rep K H0 d v/\g d ρ=some ρ'/\∀ σ' H0' H',Same H0 H0'->RS K c H0' H' ρ' σ'->Q σ' H'
def tGs (K:Frag) (is:List Nat):TGs:=λ vs σ H Q=>∃ c H0 ρ ds,RS K c H0 H ρ σ/\Reps K H0 ds vs/\ds.length=is.length/\∀ σ' H0' H',Same H0 H0'->RS K c H0' H' (t_8 is ds ρ) σ'->Q σ' H'
def XG (X:Cx) (tg:Expr) (g:GD):Prop:=PG X tg (tG X.K g)
def XGs (X:Cx) (tgs:List Expr) (is:List Nat):Prop:=PGs X tgs (tGs X.K is)
theorem xgN (i:Nat) {x:Str} (hN:X.N.Nodup) (hi:X.N[i]?=some x:=by rfl) (hx:Loc X.env.scope x:=by first | exact Or.inl rfl | exact Or.inr rfl) (hf:X.fn x=true\/X.env.scope.names.lookup x=some .local:=by first | exact .inl rfl | exact .inr rfl):XG X (.Name x pos) (gN i) :=
 λ pins s σ H v u Q I rv hh0_=>by obtain⟨c,H0,ρ,d,ρ',R,r,f,q⟩:=hh0_;exact am4 hN hi hx hf pins s σ H v u Q I rv (by
  have f':some (ρ.set i (.im d))=some ρ':=f;cases f';exact q _ H0 H (Same.refl _) (R.set i r))
theorem bH5:XGs X [] []:=λ pins s σ H vs us Q I rv hh0_=>by obtain⟨c,H0,ρ,ds,R,r,l,q⟩:=hh0_;exact aM2 pins s σ H vs us Q I rv (by
 have e:ds=[]:=List.length_eq_zero_iff.mp l;subst e;unfold Reps at r;exact⟨r,q σ H0 H (Same.refl _) (by simpa [ag6] using R)⟩)
theorem bm6 {e:Expr}{es:List Expr}{i:Nat}{is:List Nat} (h1:XG X e (gN i)) (h2:XGs X es is) (hs:(assignEach (e::es) X.env).map (·.2)=assign e X.env::(assignEach es X.env).map (·.2):=by rfl):XGs X (e::es) (i::is) :=
 λ pins s σ H vs us Q I rv hh0_=>by obtain⟨c,H0,ρ,ds,R,r,l,q⟩:=hh0_;exact az9 h1 h2 hs pins s σ H vs us Q I rv (by
  cases ds with
  |nil=>simp at l
  |cons d ds =>
   unfold Reps at r;obtain⟨v,vr,rfl,r1,r2⟩:=r;refine⟨v,vr,rfl,c,H0,ρ,d,_,R,r1,rfl,λ σ1 H1 Hh s1 R1=>?_⟩
   exact⟨c,H1,_,ds,R1,Reps.mono s1 _ r2,by simpa using l,λ σ2 H2 Hh2 s2 R2=>q σ2 H2 Hh2 (s1.trans s2) (by simpa [W_2] using R2)⟩)
theorem A_9 {X:Cx}{s:Shared}{E:Value->Shared->Prop}{elts:List Expr}{k:Nat}{l:Addr}{items:Array Value}{Q:Unit->Shared->Prop} (hh:X.A.handled=none) (hl:s.heap.IsList l items)
  (hn:(assignEach elts X.env).length=items.size) (hstar:(assignEach elts X.env).findIdx? (·.1)=none)
  (h:∀ h',Heap.ExtBut s.heap.objs.size s.heap h'->wpAny (model X.prog X.w) X.A (assignInOrder ((assignEach elts X.env).map (·.2)) items.toList) Q E {s with heap:=h'}) :
  wpAny (model X.prog X.w) X.A (assign (.Tuple elts k pos) X.env (.ref l)) Q E s:=by
 rw[assign_Tuple];refine qb (wpAny_standAt ?_);unfold unpack;rw[hn,hstar];exact qb (wpAny_holding (PySem.W.kun_itemsOf hh hl h))
def bM3 (K:Frag) (n:Nat) (t:TGs):TG:=λ v σ H Q=>∃ a xs,v=.ref a/\SqL K H a xs/\xs.length=n/\t xs σ H Q
theorem bb4 {es:List Expr}{k:Nat}{t:TGs}{n:Nat} (hc:X.calm=true) (h:PGs X es t)
  (hn:(assignEach es X.env).length=n:=by rfl) (hst:(assignEach es X.env).findIdx? (·.1)=none:=by rfl):PG X (.Tuple es k pos) (bM3 X.K n t):=by
 intro pins s σ H v u Q I r hw;obtain⟨a,xs,e1,hq,hl,hw⟩:=hw;subst e1;cases r;obtain⟨its,rv,pl,hz⟩:=I.list hq;refine A_9 (I.ok.hd hc) pl.isList (by simp[hn,<- hl,rv.length]) hst λ h' hx=>?_
 have I1:Inv X pins σ H {s with heap:=h'}:=I.kept (t':=s.toks) λ b o e=>hx b o (qo (qk e)) e
 exact h pins _ σ H xs _ Q I1 (by simpa using rv) hw
theorem xgT {es:List Expr}{k:Nat}{is:List Nat} (h:XGs X es is) (hc:X.calm=true:=by rfl) (hn:(assignEach es X.env).length=is.length:=by rfl) (hst:(assignEach es X.env).findIdx? (·.1)=none:=by rfl):XG X (.Tuple es k pos) (gT is) :=
 λ pins s σ H v u Q I rv hh0_=>by
  obtain⟨c,H0,ρ,d,ρ',R,r,f,q⟩:=hh0_;unfold gT at f;obtain⟨xs,h1,f⟩:=a_2 f
  split at f
  ·rename_i hl
   cases f;cases d with
   |tup ds =>
    refine bb3 hc h hn hst pins s σ H v u Q I rv ?_;have e:ds=xs:=qh h1;subst e;unfold Rep at r;obtain⟨a,vs,rfl,sq,r⟩:=r;exact⟨a,vs,rfl,Same.seqT R.same sq,by rw[<- r.length];exact hl,c,H0,ρ,ds,R,r,hl,q⟩
   |lst ds =>
    refine bb4 hc h hn hst pins s σ H v u Q I rv ?_;have e:ds=xs:=qh h1;subst e;unfold Rep at r;obtain⟨a,vs,rfl,sq,r⟩:=r;exact⟨a,vs,rfl,Same.seq R.same sq,by rw[<- r.length];exact hl,c,H0,ρ,ds,R,r,hl,q⟩
   |_=>cases h1
  ·cases f
theorem aI4 {tg:Expr}{is:List Nat} (hg:XG X tg (gT is)) (he:XE X e F) (hs:swapsWithSole [tg] e pos.line X.env=pure false:=by rfl) (hw:swappedStores [tg] e X.env=pure none:=by rfl)
  (h1:(assignEach [tg] X.env).map (·.2)=[assign tg X.env]:=by rfl):XS X (.Assign [tg] e pos) (bk1 is F):=PS.wk (ba9 he hg hs hw h1) λ Dn σ H hh0_=>by
 obtain⟨c,H0,ρ,r,R,f,q⟩:=hh0_;unfold bk1 at f;obtain⟨⟨d,ρ1⟩,h1,f⟩:=a_2 f;obtain⟨ρ2,h2,f⟩:=a_2 f;have f':some (Res.nx ρ2)=some r:=f;cases f';exact⟨c,H0,ρ,d,ρ1,R,h1,λ v H1 Hh s1 R1 r1=>⟨c,H1,ρ1,d,ρ2,R1,r1,h2,λ σ' H2 Hh2 s2 R2=>q σ' H2 Hh2 (s1.trans s2) R2⟩⟩
theorem bf8 {K:Frag}{c:FC}{H1 Hh:Hp}{ρ:En}{σ:L2.St}{g:GD}{B:FS}{xs:List D}{J:It}{Dn:Ends}{r:Res} (R:RS K c H1 Hh ρ σ) (hf:fGo g B xs ρ=some r) (hy:y_9 K J H1 xs) (q:Post K c Dn H1 r) :
  ∃ W:Nat->Nat->L2.St->Hp->Prop,(∃ m,W 0 m σ Hh)/\∀ i m σ H,W i m σ H ->
   (J.stop i H/\Dn.nx σ H)\/(J.go i H/\∃ N:L2.St->Hp->Prop,(∀ σ' H',N σ' H'->∃ m',m'<m/\W (i+1) m' σ' H')/\∀ x H',J.yld i H x H'->tG K g x σ H' λ σ2 H2=>tS K B {Dn with nx:=N,ct:=N,bk:=Dn.nx} σ2 H2):=by
 refine⟨λ i m σ H=>m=xs.length-i/\i<=xs.length/\∃ H0 ρ,Same H1 H0/\RS K c H0 H ρ σ/\fGo g B (xs.drop i) ρ=some r,⟨xs.length,by simp,Nat.zero_le _,H1,ρ,Same.refl _,R,by simpa using hf⟩,?_⟩
 rintro i m σ H ⟨rfl,hi,H0,ρ,s0,R0,hg⟩;obtain⟨y1,y2⟩:=hy H0 H i s0 R0.same
 by_cases hlt:i<xs.length
 ·have hd:xs[i]?=some xs[i]:=by simp[hlt]
  obtain⟨go,yl⟩:=y1 _ hd;refine .inr ⟨go,λ σ' H'=>∃ m',m'<xs.length-i/\m'=xs.length-(i+1)/\i+1<=xs.length/\∃ H0 ρ,Same H1 H0/\RS K c H0 H' ρ σ'/\fGo g B (xs.drop (i+1)) ρ=some r,λ σ' H' ⟨m',a,b⟩=>⟨m',a,b⟩,λ x H' hx=>?_⟩
  obtain⟨rfl,rx⟩:=yl x H' hx;rw[Z_6 hd,aB5] at hg;obtain⟨ρ1,g1,hg⟩:=a_2 hg;obtain⟨z,g2,hg⟩:=a_2 hg;refine⟨c,H0,ρ,_,ρ1,R0,rx,g1,λ σ1 H2 Hh2 s2 R2=>⟨c,H2,ρ1,z,R2,g2,?_⟩⟩
  cases z with
  |nx ρ2=>exact λ σ' H3 Hh3 s3 R3=>⟨_,by omega,rfl,hlt,H3,ρ2,s0.trans (s2.trans s3),R3,hg⟩
  |ct ρ2=>exact λ σ' H3 Hh3 s3 R3=>⟨_,by omega,rfl,hlt,H3,ρ2,s0.trans (s2.trans s3),R3,hg⟩
  |bk ρ2 =>
   have hg':some (Res.nx ρ2)=some r:=hg;cases hg';exact λ σ' H3 Hh3 s3 R3=>q σ' H3 Hh3 (s0.trans (s2.trans s3)) R3
  |rt d ρ2 =>
   have hg':some (Res.rt d ρ2)=some r:=hg;cases hg';exact λ v σ' H3 Hh3 s3 R3 r3=>q v σ' H3 Hh3 (s0.trans (s2.trans s3)) R3 r3
 ·have hn:xs.drop i=[]:=List.drop_eq_nil_of_le (by omega)
  rw[hn,aP2] at hg;have hg':some (Res.nx ρ)=some r:=hg;cases hg';exact .inl ⟨y2 (by omega),q σ H0 H s0 R0⟩
theorem aW9 {tg a:Expr}{body:List Stmt}{g:GD}{p pos':Pos} (hm:X.mg "range"=none) (hg:XG X tg g) (ha:XE X a F) (hb:XSs X body B) (hgl:Gl X "range":=by rfl) (hp:PassesOwn (model X.prog X.w) X.A X.env X.xe:=by exact PassesOwn.never) (hc:X.calm=true:=by rfl)
  (hst:starEach [a] X.env=[(false,eval a X.env)]:=by rfl) (hs:∀ x,foldedSetIterable (.Call (.Name "range" p) [a] [] pos') X.env x=pure x:=by intro _;rfl) :
  XS X (.For tg (.Call (.Name "range" p) [a] [] pos') body [] pos) (W_4 g (aK7 F) B):=PS.wk (ba8 hp hc (am3 hgl hm (z_6 ha R_2 hst) hst) hg hb hs) λ Dn σ H hh0_=>by
 obtain⟨c,H0,ρ,r,R,f,q⟩:=hh0_;unfold W_4 aK7 at f;obtain⟨⟨xs,ρ1⟩,h1,f⟩:=a_2 f;obtain⟨⟨d,ρ2⟩,h2,h1⟩:=a_2 h1;obtain⟨j,h3,h1⟩:=a_2 h1;dsimp only at h1 h3 f
 split at h1
 ·rename_i hj
  cases h1;refine⟨c,H0,ρ,d,_,R,h2,λ v H1 Hh s1 R1 r1=>?_⟩
  cases d with
  |int k =>
   have e:k=j:=qh h3;subst e;unfold Rep at r1;subst r1;exact⟨k,rfl,hj.1,hj.2,bf8 R1 f (af7 0 k.toNat) (q.mono s1)⟩
  |_=>cases h3
 ·cases h1
theorem aW5 {c:Expr}{body:List Stmt}{fuel:En->Nat} (hc:XT X c T) (hb:XSs X body B) (hp:PassesOwn (model X.prog X.w) X.A X.env X.xe:=by exact PassesOwn.never):XS X (.While c body [] pos) (Q_6 fuel T B):=PS.wk (az4 hp hc hb) λ Dn σ H hh0_=>by
 obtain⟨c,H0,ρ,r,R,f,q⟩:=hh0_;refine⟨λ m σ H=>∃ H1 ρ,Same H0 H1/\RS X.K c H1 H ρ σ/\wGo T B m ρ=some r,⟨fuel ρ,H0,ρ,Same.refl _,R,f⟩,?_⟩
 rintro m σ1 Hh ⟨H1,ρ1,s1,R1,hw⟩;cases m with
 |zero=>cases hw
 |succ m =>
  rw[ax3] at hw;obtain⟨⟨b,ρ2⟩,h1,hw⟩:=a_2 hw;dsimp only at hw;refine⟨c,H1,ρ1,b,ρ2,R1,h1,λ H2 Hh2 s2 R2=>?_⟩
  cases b with
  |false =>
   rw[if_neg Bool.false_ne_true] at hw ⊢;have hw':some (Res.nx ρ2)=some r:=hw;cases hw';exact q σ1 H2 Hh2 (s1.trans s2) R2
  |true =>
   rw[if_pos rfl] at hw ⊢;obtain⟨z,h2,hw⟩:=a_2 hw;refine⟨λ σ' H'=>∃ m',m'<m+1/\∃ H1 ρ,Same H0 H1/\RS X.K c H1 H' ρ σ'/\wGo T B m' ρ=some r,λ σ' H' h=>h,⟨c,H2,ρ2,z,R2,h2,?_⟩⟩
   cases z with
   |nx ρ3=>exact λ σ' H3 Hh3 s3 R3=>⟨m,by omega,H3,ρ3,s1.trans (s2.trans s3),R3,hw⟩
   |ct ρ3=>exact λ σ' H3 Hh3 s3 R3=>⟨m,by omega,H3,ρ3,s1.trans (s2.trans s3),R3,hw⟩
   |bk ρ3 =>
    have hw':some (Res.nx ρ3)=some r:=hw;cases hw';exact λ σ' H3 Hh3 s3 R3=>q σ' H3 Hh3 (s1.trans (s2.trans s3)) R3
   |rt d ρ3 =>
    have hw':some (Res.rt d ρ3)=some r:=hw;cases hw';exact λ v σ' H3 Hh3 s3 R3 r3=>q v σ' H3 Hh3 (s1.trans (s2.trans s3)) R3 r3
end
theorem RS.start {K:Frag}{Hi H:Hp}{ds:List D}{vs:List V}{m n:Nat} (s:Same Hi H) (r:Reps K Hi ds vs) (hn:n-vs.length=m):RS K ⟨Hi,H,[]⟩ Hi H (ds.map .im++List.replicate m .no) (vs.map some++List.replicate (n-vs.length) none):=by
 have hl:=r.length;refine⟨s,Same.refl _,λ b o e=>.inl e,λ b o e _=>e,λ a h=>(by cases h),?_,λ i d e=>?_,λ i b o e=>?_,λ i j b b' o o' a e=>?_⟩
 ·rw[List.length_append,List.length_append,List.length_map,List.length_map,List.length_replicate,List.length_replicate,hl,hn]
 ·by_cases hi:i<ds.length
  ·rw[List.getElem?_append_left (by simpa using hi),List.getElem?_map] at e
   cases z:ds[i]? with
   |none=>rw[z] at e;cases e
   |some d' =>
    rw[z] at e;have e':d'=d:=by have:=qh e;injection this
    subst e';obtain⟨v,a,b⟩:=r.get z;exact⟨v,by rw[List.getElem?_append_left (by simp;omega),List.getElem?_map,a];rfl,b⟩
  ·rw[List.getElem?_append_right (by simpa using Nat.le_of_not_lt hi),List.getElem?_replicate] at e
   split at e <;> cases e
 ·by_cases hi:i<ds.length
  ·rw[List.getElem?_append_left (by simpa using hi),List.getElem?_map] at e
   cases z:ds[i]? with
   |none=>rw[z] at e;cases e
   |some d'=>rw[z] at e;cases e
  ·rw[List.getElem?_append_right (by simpa using Nat.le_of_not_lt hi),List.getElem?_replicate] at e
   split at e <;> cases e
 ·by_cases hi:i<ds.length
  ·rw[List.getElem?_append_left (by simpa using hi),List.getElem?_map] at e
   cases z:ds[i]? with
   |none=>rw[z] at e;cases e
   |some d'=>rw[z] at e;cases e
  ·rw[List.getElem?_append_right (by simpa using Nat.le_of_not_lt hi),List.getElem?_replicate] at e
   split at e <;> cases e
theorem l_2 {P:Program}{w:World}{K:Frag}{mg:Str->Option Value}{base:Heap}{x qual:Str}{st:Stmt}{f:Addr}{fd:FuncData}{N ps:List Str}{k n m:Nat}{B:FS} (F:Fun K x qual st f fd) (S:FnScope N ps (a_0 st)) (hn:ps.length=n) (hN:N.length=n+m)
  (hb:∀ (cdv:Value) (A:Around) (outer:List Env) (s:Shared) (H:Hp) (E:XK),Room k (A.deeper (envOfC qual (a_0 st) s.heap.objs.size f cdv))->XSs (aC7 CX0 P w K mg base N qual (a_0 st) f cdv A outer s H E).nox (b_0 st) B) :
  FnOk P w K mg base CX0 (k+1) f fd ps (spP K (fnD n m B)):=by
 have inv:∀ {ds:List D}{d:D},fnD n m B ds=some d->ds.length=n/\∃ r,B (ds.map .im++List.replicate m .no)=some r/\bq7 r=some d:=λ {ds d} h=>by
  unfold fnD at h
  split at h
  ·rename_i hl
   obtain⟨r,h1,h2⟩:=a_2 h;exact⟨hl,r,h1,h2⟩
  ·cases h
 refine F.ok S (λ vs H Q E h=>?_) (λ cdv A outer s H vs Q E hr h=>?_)
 ·obtain⟨Hi,ds,d,_,r,e,_⟩:=h
  rw[hn,<- r.length];exact (inv e).1
 ·obtain⟨Hi,ds,d,hs,r,e,q⟩:=h
  obtain⟨hl,res,h1,h2⟩:=inv e;refine⟨_,hb cdv A outer s H E hr,⟨Hi,H,[]⟩,Hi,_,res,RS.start (n:=N.length) (m:=m) hs r (by rw[<- r.length];omega),h1,?_⟩
  cases res with
  |nx ρ' =>
   have e':D.non=d:=qh h2;subst e';exact λ σ' H0' H' s0 R=>q .non H0' H' R.step (by unfold Rep;rfl)
  |rt d' ρ' =>
   have e':d'=d:=qh h2;subst e';exact λ v σ' H0' H' s0 R rv=>q v H0' H' R.step rv
  |bk ρ'=>cases h2
  |ct ρ'=>cases h2
end Fx
namespace Fx
open PySem
@[simp] theorem bG9 (i j:Int):n_9 (.int i) (.int j)=some (.int (i+j)):=Eq.trans rfl rfl
@[simp] theorem bG8 (a b:List D):n_9 (.lst a) (.lst b)=if a.length+b.length<=sizeLine then some (.lst (a++b)) else none:=Eq.trans rfl rfl
@[simp] theorem bG7 (a b:Str):n_9 (.str a) (.str b)=if a.length+b.length<=sizeLine then some (.str (a++b)) else none:=Eq.trans rfl rfl
@[simp] theorem bF5 (i j:Int):N_8 (.int i) (.int j)=some (.int (i-j)):=Eq.trans rfl rfl
@[simp] theorem bG0 (i j:Int):V_5 (.int i) (.int j)=if l_6 i j=true then some (.int (i*j)) else none:=Eq.trans rfl rfl
@[simp] theorem bG6 (i j:Int):aC5 (.int i) (.int j)=if z_7 j=true then some (.int (i.fdiv j)) else none:=Eq.trans rfl rfl
@[simp] theorem bG1 (i j:Int):k_0 (.int i) (.int j)=if j≠0 then some (.int (i.fmod j)) else none:=Eq.trans rfl rfl
@[simp] theorem bF8 (i j:Int):aW1 (.int i) (.int j)=if 0<=j/\j<=64/\i.natAbs<2 ^ 64 then some (.int (i ^ j.toNat)) else none:=Eq.trans rfl rfl
@[simp] theorem bF9 (i:Int):bl8 (.int i)=some (.int (-i)):=Eq.trans rfl rfl
@[simp] theorem bO2 (i j:Int):dLt (.int i) (.int j)=some (.bl (decide (i<j))):=Eq.trans rfl rfl
@[simp] theorem bO3 (i j:Int):dLe (.int i) (.int j)=some (.bl (decide (i<=j))):=Eq.trans rfl rfl
@[simp] theorem bO4 (i j:Int):dGt (.int i) (.int j)=some (.bl (decide (j<i))):=Eq.trans rfl rfl
@[simp] theorem bO5 (i j:Int):dGe (.int i) (.int j)=some (.bl (decide (j<=i))):=Eq.trans rfl rfl
@[simp] theorem bR3 (x y:D):dEq x y=if dpD x<=30/\dpD y<=30 then some (.bl (eqD x y)) else none:=Eq.trans rfl rfl
@[simp] theorem bR1 (x y:D):dNe x y=if dpD x<=30/\dpD y<=30 then some (.bl (!eqD x y)) else none:=Eq.trans rfl rfl
@[simp] theorem bR2 (x:D):dIs x .non=some (.bl (isN x)):=Eq.trans rfl rfl
@[simp] theorem by1 (x:D):n_8 x .non=some (.bl (!isN x)):=Eq.trans rfl rfl
@[simp] theorem bF4 (b:Bool):aB9 (.bl b)=some b:=Eq.trans rfl rfl
@[simp] theorem bF3 (xs:List D):aB9 (.tup xs)=some (!xs.isEmpty):=Eq.trans rfl rfl
@[simp] theorem bP1 (i:Int):aU2 [.int i]=some (.int (i.natAbs:Int)):=congrArg (λ z=>some (D.int z)) (show (if i<0 then -i else i)=(i.natAbs:Int) by split <;> omega)
@[simp] theorem bP0 (i j:Int):aU0 [.int i,.int j]=some (.int (if j > i then j else i)):=Eq.trans rfl rfl
@[simp] theorem bO9 (i j:Int):bm2 [.int i,.int j]=some (.int (if j<i then j else i)):=Eq.trans rfl rfl
def bH0 {α:Type} (x:α) (o:Option (List α)):Option (List α):=bnd o λ t=>some (x::t)
@[simp] theorem J_8 {α:Type} (x:α) (t:List α):bH0 x (some t)=some (x::t):=Eq.trans rfl rfl
def mkP (o:Option D) (ρ:En):Option (D×En):=bnd o λ d=>some (d,ρ)
@[simp] theorem bL3 (d:D) (ρ:En):mkP (some d) ρ=some (d,ρ):=Eq.trans rfl rfl
@[simp] theorem bJ1 (ρ:En) (d:D):slV ρ (some (.im d))=some (d,ρ):=Eq.trans rfl rfl
@[simp] theorem eV_ (i:Nat) (ρ:En):eV i ρ=slV ρ ρ[i]?:=Eq.trans rfl rfl
@[simp] theorem eC_ (d:D) (ρ:En):eC d ρ=some (d,ρ):=Eq.trans rfl rfl
def e1a (op:D->Option D) (o:Option (D×En)):Option (D×En):=bnd o λ p=>bnd (op p.1) λ d=>some (d,p.2)
@[simp] theorem e1_ (op:D->Option D) (F:FE) (ρ:En):e1 op F ρ=e1a op (F ρ):=Eq.trans rfl rfl
@[simp] theorem bO0 (op:D->Option D) (x:D) (ρ:En):e1a op (some (x,ρ))=mkP (op x) ρ:=Eq.trans rfl rfl
def e2b (op:D->D->Option D) (x:D) (o:Option (D×En)):Option (D×En):=bnd o λ q=>bnd (op x q.1) λ d=>some (d,q.2)
def e2a (op:D->D->Option D) (G:FE) (o:Option (D×En)):Option (D×En):=bnd o λ p=>bnd (G p.2) λ q=>bnd (op p.1 q.1) λ d=>some (d,q.2)
@[simp] theorem e2_ (op:D->D->Option D) (F G:FE) (ρ:En):e2 op F G ρ=e2a op G (F ρ):=Eq.trans rfl rfl
@[simp] theorem bN9 (op:D->D->Option D) (G:FE) (x:D) (ρ:En):e2a op G (some (x,ρ))=e2b op x (G ρ):=Eq.trans rfl rfl
@[simp] theorem bN8 (op:D->D->Option D) (x y:D) (ρ:En):e2b op x (some (y,ρ))=mkP (op x y) ρ:=Eq.trans rfl rfl
def e3c (op':D->D->Option D) (L:FE) (y:D) (ρ:En) (o:Option D):Option (D×En):=bnd o λ z=>bnd (blB z) λ b=>if b=true then bnd (L ρ) λ r=>bnd (op' y r.1) λ d=>some (d,r.2) else some (.bl false,ρ)
def e3b (op op':D->D->Option D) (L:FE) (x:D) (o:Option (D×En)):Option (D×En):=bnd o λ q=>bnd (op x q.1) λ z=>bnd (blB z) λ b=>if b=true then bnd (L q.2) λ r=>bnd (op' q.1 r.1) λ d=>some (d,r.2) else some (.bl false,q.2)
def e3a (op op':D->D->Option D) (G L:FE) (o:Option (D×En)):Option (D×En):=bnd o λ p=>bnd (G p.2) λ q=>bnd (op p.1 q.1) λ z=>bnd (blB z) λ b=>if b=true then bnd (L q.2) λ r=>bnd (op' q.1 r.1) λ d=>some (d,r.2) else some (.bl false,q.2)
@[simp] theorem e3_ (op op':D->D->Option D) (F G L:FE) (ρ:En):e3 op op' F G L ρ=e3a op op' G L (F ρ):=Eq.trans rfl rfl
@[simp] theorem bN7 (op op':D->D->Option D) (G L:FE) (x:D) (ρ:En):e3a op op' G L (some (x,ρ))=e3b op op' L x (G ρ):=Eq.trans rfl rfl
@[simp] theorem bN6 (op op':D->D->Option D) (L:FE) (x y:D) (ρ:En):e3b op op' L x (some (y,ρ))=e3c op' L y ρ (op x y):=Eq.trans rfl rfl
@[simp] theorem bN4 (op':D->D->Option D) (L:FE) (y:D) (ρ:En):e3c op' L y ρ (some (.bl true))=e2b op' y (L ρ):=Eq.trans rfl rfl
@[simp] theorem bN5 (op':D->D->Option D) (L:FE) (y:D) (ρ:En):e3c op' L y ρ (some (.bl false))=some (.bl false,ρ):=Eq.trans rfl rfl
@[simp] theorem aN_ (ρ:En):aN ρ=some ([],ρ):=Eq.trans rfl rfl
def aCb (x:D) (o:Option (List D×En)):Option (List D×En):=bnd o λ q=>some (x::q.1,q.2)
def aCa (A:FA) (o:Option (D×En)):Option (List D×En):=bnd o λ p=>bnd (A p.2) λ q=>some (p.1::q.1,q.2)
@[simp] theorem aC_ (F:FE) (A:FA) (ρ:En):aC F A ρ=aCa A (F ρ):=Eq.trans rfl rfl
@[simp] theorem bP4 (A:FA) (x:D) (ρ:En):aCa A (some (x,ρ))=aCb x (A ρ):=Eq.trans rfl rfl
@[simp] theorem bP3 (x:D) (xs:List D) (ρ:En):aCb x (some (xs,ρ))=some (x::xs,ρ):=Eq.trans rfl rfl
def bz7 (o:Option (List D×En)):Option (D×En):=bnd o λ p=>if p.1.length<=1000 then some (.tup p.1,p.2) else none
@[simp] theorem bM5 (A:FA) (ρ:En):q_7 A ρ=bz7 (A ρ):=Eq.trans rfl rfl
@[simp] theorem bz6 (xs:List D) (ρ:En):bz7 (some (xs,ρ))=if xs.length<=1000 then some (.tup xs,ρ) else none:=Eq.trans rfl rfl
def bB8 (o:Option (List D×En)):Option (D×En):=bnd o λ p=>if p.1.length<=1000 then some (.lst p.1,p.2) else none
@[simp] theorem bM7 (A:FA) (ρ:En):P_2 A ρ=bB8 (A ρ):=Eq.trans rfl rfl
@[simp] theorem bB7 (xs:List D) (ρ:En):bB8 (some (xs,ρ))=if xs.length<=1000 then some (.lst xs,ρ) else none:=Eq.trans rfl rfl
def eFa (g:List D->Option D) (o:Option (List D×En)):Option (D×En):=bnd o λ p=>bnd (g p.1) λ d=>some (d,p.2)
@[simp] theorem eF_ (g:List D->Option D) (A:FA) (ρ:En):eF g A ρ=eFa g (A ρ):=Eq.trans rfl rfl
@[simp] theorem bN1 (g:List D->Option D) (xs:List D) (ρ:En):eFa g (some (xs,ρ))=mkP (g xs) ρ:=Eq.trans rfl rfl
@[simp] theorem oN_ (ρ:En):oN ρ=some (none,ρ):=Eq.trans rfl rfl
def oSa (o:Option (D×En)):Option (Option Int×En):=bnd o λ p=>bnd (bl2 p.1) λ i=>some (some i,p.2)
@[simp] theorem oS_ (F:FE) (ρ:En):oS F ρ=oSa (F ρ):=Eq.trans rfl rfl
@[simp] theorem bK9 (i:Int) (ρ:En):oSa (some (.int i,ρ))=some (some i,ρ):=Eq.trans rfl rfl
def mkB (o:Option Bool) (ρ:En):Option (Bool×En):=bnd o λ b=>some (b,ρ)
@[simp] theorem bL4 (b:Bool) (ρ:En):mkB (some b) ρ=some (b,ρ):=Eq.trans rfl rfl
def tBa (o:Option (D×En)):Option (Bool×En):=bnd o λ p=>bnd (blB p.1) λ b=>some (b,p.2)
@[simp] theorem tB_ (F:FE) (ρ:En):tB F ρ=tBa (F ρ):=Eq.trans rfl rfl
@[simp] theorem bI9 (b:Bool) (ρ:En):tBa (some (.bl b,ρ))=some (b,ρ):=Eq.trans rfl rfl
def tVa (o:Option (D×En)):Option (Bool×En):=bnd o λ p=>bnd (aB9 p.1) λ b=>some (b,p.2)
@[simp] theorem tV_ (F:FE) (ρ:En):tV F ρ=tVa (F ρ):=Eq.trans rfl rfl
@[simp] theorem bH9 (x:D) (ρ:En):tVa (some (x,ρ))=mkB (aB9 x) ρ:=Eq.trans rfl rfl
def aJ4 (U:FT) (o:Option (Bool×En)):Option (Bool×En):=bnd o λ p=>if p.1=true then U p.2 else some (false,p.2)
def bn5 (U:FT) (o:Option (Bool×En)):Option (Bool×En):=bnd o λ p=>if p.1=true then some (true,p.2) else U p.2
def aY0 (o:Option (Bool×En)):Option (Bool×En):=bnd o λ p=>some (!p.1,p.2)
@[simp] theorem bJ0 (T U:FT) (ρ:En):tAnd T U ρ=aJ4 U (T ρ):=Eq.trans rfl rfl
@[simp] theorem bo3 (U:FT) (ρ:En):aJ4 U (some (true,ρ))=U ρ:=Eq.trans rfl rfl
@[simp] theorem bo4 (U:FT) (ρ:En):aJ4 U (some (false,ρ))=some (false,ρ):=Eq.trans rfl rfl
@[simp] theorem bP8 (T U:FT) (ρ:En):tOr T U ρ=bn5 U (T ρ):=Eq.trans rfl rfl
@[simp] theorem bz9 (U:FT) (ρ:En):bn5 U (some (true,ρ))=some (true,ρ):=Eq.trans rfl rfl
@[simp] theorem bA0 (U:FT) (ρ:En):bn5 U (some (false,ρ))=U ρ:=Eq.trans rfl rfl
@[simp] theorem bI4 (T:FT) (ρ:En):tNot T ρ=aY0 (T ρ):=Eq.trans rfl rfl
@[simp] theorem bn6 (b:Bool) (ρ:En):aY0 (some (b,ρ))=some (!b,ρ):=Eq.trans rfl rfl
@[simp] theorem bH8 (ρ:En):tYes ρ=some (true,ρ):=Eq.trans rfl rfl
def bw9 (F G:FE) (o:Option (Bool×En)):Option (D×En):=bnd o λ p=>if p.1=true then F p.2 else G p.2
@[simp] theorem bQ8 (T:FT) (F G:FE) (ρ:En):eIf T F G ρ=bw9 F G (T ρ):=Eq.trans rfl rfl
@[simp] theorem bE0 (F G:FE) (ρ:En):bw9 F G (some (true,ρ))=F ρ:=Eq.trans rfl rfl
@[simp] theorem bE1 (F G:FE) (ρ:En):bw9 F G (some (false,ρ))=G ρ:=Eq.trans rfl rfl
def aS5 (G:FE) (o:Option (D×En)):Option (D×En):=bnd o λ p=>bnd (blB p.1) λ b=>if b=true then G p.2 else some (.bl false,p.2)
def bv8 (G:FE) (o:Option (D×En)):Option (D×En):=bnd o λ p=>bnd (blB p.1) λ b=>if b=true then some (.bl true,p.2) else G p.2
@[simp] theorem bN3 (F G:FE) (ρ:En):aH9 F G ρ=aS5 G (F ρ):=Eq.trans rfl rfl
@[simp] theorem bx6 (G:FE) (ρ:En):aS5 G (some (.bl true,ρ))=G ρ:=Eq.trans rfl rfl
@[simp] theorem bx7 (G:FE) (ρ:En):aS5 G (some (.bl false,ρ))=some (.bl false,ρ):=Eq.trans rfl rfl
@[simp] theorem bQ6 (F G:FE) (ρ:En):eOr F G ρ=bv8 G (F ρ):=Eq.trans rfl rfl
@[simp] theorem bD3 (G:FE) (ρ:En):bv8 G (some (.bl true,ρ))=some (.bl true,ρ):=Eq.trans rfl rfl
@[simp] theorem bD4 (G:FE) (ρ:En):bv8 G (some (.bl false,ρ))=G ρ:=Eq.trans rfl rfl
def imA (o:Option Sl) (q:Option En):Option En:=bnd o λ s=>bnd q λ r=>some (s::r)
@[simp] theorem bL8 (s:Sl) (r:En):imA (some s) (some r)=some (s::r):=Eq.trans rfl rfl
@[simp] theorem bJ2 (d:D):slI (some (.im d))=some (.im d):=Eq.trans rfl rfl
@[simp] theorem bC5 (ρ:En):V_4 ρ []=some []:=Eq.trans rfl rfl
@[simp] theorem bC6 (ρ:En) (j:Nat) (js:List Nat):V_4 ρ (j::js)=imA (slI ρ[j]?) (V_4 ρ js):=Eq.trans rfl rfl
def cGb (T:FT) (F:FE) (fr:En) (r:List D) (o:Option (D×En)):Option (List D):=bnd o λ q=>bnd (cGo T F fr r) λ t=>some (q.1::t)
def cGa (T:FT) (F:FE) (fr:En) (r:List D) (o:Option (Bool×En)):Option (List D):=bnd o λ p=>if p.1=true then bnd (F p.2) λ q=>bnd (cGo T F fr r) λ t=>some (q.1::t) else cGo T F fr r
@[simp] theorem bO7 (T:FT) (F:FE) (fr:En):cGo T F fr []=some []:=Eq.trans rfl rfl
@[simp] theorem ai6 (T:FT) (F:FE) (fr:En) (d:D) (r:List D):cGo T F fr (d::r)=cGa T F fr r (T (.im d::fr)):=Eq.trans rfl rfl
@[simp] theorem ai8 (T:FT) (F:FE) (fr:En) (r:List D) (ρ:En):cGa T F fr r (some (true,ρ))=cGb T F fr r (F ρ):=Eq.trans rfl rfl
@[simp] theorem aD4 (T:FT) (F:FE) (fr:En) (r:List D) (ρ:En):cGa T F fr r (some (false,ρ))=cGo T F fr r:=Eq.trans rfl rfl
@[simp] theorem ai7 (T:FT) (F:FE) (fr:En) (r:List D) (x:D) (ρ:En):cGb T F fr r (some (x,ρ))=bH0 x (cGo T F fr r):=Eq.trans rfl rfl
@[simp] theorem bt7 (xs:List D):items (.lst xs)=some xs:=Eq.trans rfl rfl
@[simp] theorem bt6 (z:Str):items (.str z)=some (chs z):=Eq.trans rfl rfl
@[simp] theorem bt5 (xs:List D):items (.tup xs)=some xs:=Eq.trans rfl rfl
def bv9 (ρ:En) (xs:List D) (o:Option (List D)):Option (D×En):=bnd o λ ys=>if xs.length<=sizeLine then some (.lst ys,ρ) else none
def bw0 (T:FT) (F:FE) (ρ:En) (xs:List D) (o:Option En):Option (D×En):=bnd o λ fr=>bv9 ρ xs (cGo T F fr xs)
def bw1 (js:List Nat) (T:FT) (F:FE) (ρ:En) (o:Option (List D)):Option (D×En):=bnd o λ xs=>bw0 T F ρ xs (V_4 ρ js)
def bD9 (js:List Nat) (T:FT) (F:FE) (o:Option (D×En)):Option (D×En):=bnd o λ p=>bw1 js T F p.2 (items p.1)
@[simp] theorem bQ7 (js:List Nat) (I:FE) (T:FT) (F:FE) (ρ:En):eLC js I T F ρ=bD9 js T F (I ρ):=Eq.trans rfl rfl
@[simp] theorem bD8 (js:List Nat) (T:FT) (F:FE) (x:D) (ρ:En):bD9 js T F (some (x,ρ))=bw1 js T F ρ (items x):=Eq.trans rfl rfl
@[simp] theorem bD7 (js:List Nat) (T:FT) (F:FE) (ρ:En) (xs:List D):bw1 js T F ρ (some xs)=bw0 T F ρ xs (V_4 ρ js):=Eq.trans rfl rfl
@[simp] theorem bD6 (T:FT) (F:FE) (ρ:En) (xs:List D) (fr:En):bw0 T F ρ xs (some fr)=bv9 ρ xs (cGo T F fr xs):=Eq.trans rfl rfl
@[simp] theorem bD5 (ρ:En) (xs ys:List D):bv9 ρ xs (some ys)=if xs.length<=sizeLine then some (.lst ys,ρ) else none:=Eq.trans rfl rfl
@[simp] theorem sN_ (ρ:En):sN ρ=some (.nx ρ):=Eq.trans rfl rfl
def aK3 (G:FS) (o:Option Res):Option Res:=bnd o λ r=>nxR G r
@[simp] theorem bp4 (F G:FS) (ρ:En):b_7 F G ρ=aK3 G (F ρ):=Eq.trans rfl rfl
@[simp] theorem aK2 (G:FS) (ρ:En):aK3 G (some (.nx ρ))=G ρ:=Eq.trans rfl rfl
@[simp] theorem bp3 (G:FS) (d:D) (ρ:En):aK3 G (some (.rt d ρ))=some (.rt d ρ):=Eq.trans rfl rfl
def aY8 (i:Nat) (o:Option (D×En)):Option Res:=bnd o λ p=>some (.nx (p.2.set i (.im p.1)))
@[simp] theorem bp2 (i:Nat) (F:FE) (ρ:En):d_7 i F ρ=aY8 i (F ρ):=Eq.trans rfl rfl
@[simp] theorem aK1 (i:Nat) (x:D) (ρ:En):aY8 i (some (x,ρ))=some (.nx (ρ.set i (.im x))):=Eq.trans rfl rfl
@[simp] theorem bk0 (i:Nat) (is:List Nat) (d:D) (ds:List D) (ρ:En):t_8 (i::is) (d::ds) ρ=t_8 is ds (ρ.set i (.im d)):=Eq.trans rfl rfl
@[simp] theorem bj9 (ds:List D) (ρ:En):t_8 [] ds ρ=ρ:=by cases ds <;> exact Eq.trans rfl rfl
@[simp] theorem bz5 (xs:List D):bn3 (.tup xs)=some xs:=Eq.trans rfl rfl
def gTa (is:List Nat) (ρ:En) (o:Option (List D)):Option En:=bnd o λ xs=>if xs.length=is.length then some (t_8 is xs ρ) else none
@[simp] theorem gT_ (is:List Nat) (d:D) (ρ:En):gT is d ρ=gTa is ρ (bn3 d):=Eq.trans rfl rfl
@[simp] theorem bM1 (is:List Nat) (ρ:En) (xs:List D):gTa is ρ (some xs)=if xs.length=is.length then some (t_8 is xs ρ) else none:=Eq.trans rfl rfl
def aK0 (o:Option En):Option Res:=bnd o λ ρ=>some (.nx ρ)
def aY7 (is:List Nat) (o:Option (D×En)):Option Res:=bnd o λ p=>aK0 (gT is p.1 p.2)
@[simp] theorem bJ3 (is:List Nat) (F:FE) (ρ:En):bk1 is F ρ=aY7 is (F ρ):=Eq.trans rfl rfl
@[simp] theorem bp1 (is:List Nat) (x:D) (ρ:En):aY7 is (some (x,ρ))=aK0 (gT is x ρ):=Eq.trans rfl rfl
@[simp] theorem bp0 (ρ:En):aK0 (some ρ)=some (.nx ρ):=Eq.trans rfl rfl
def bp9 (F G:FS) (o:Option (Bool×En)):Option Res:=bnd o λ p=>if p.1=true then F p.2 else G p.2
@[simp] theorem bP9 (T:FT) (F G:FS) (ρ:En):sIf T F G ρ=bp9 F G (T ρ):=Eq.trans rfl rfl
@[simp] theorem bA2 (F G:FS) (ρ:En):bp9 F G (some (true,ρ))=F ρ:=Eq.trans rfl rfl
@[simp] theorem bA3 (F G:FS) (ρ:En):bp9 F G (some (false,ρ))=G ρ:=Eq.trans rfl rfl
def aY9 (o:Option (D×En)):Option Res:=bnd o λ p=>some (.rt p.1 p.2)
@[simp] theorem bJ4 (F:FE) (ρ:En):e_8 F ρ=aY9 (F ρ):=Eq.trans rfl rfl
@[simp] theorem bp5 (x:D) (ρ:En):aY9 (some (x,ρ))=some (.rt x ρ):=Eq.trans rfl rfl
def fGb (g:D->En->Option En) (B:FS) (r:List D) (o:Option Res):Option Res:=bnd o λ z=>goR (fGo g B r) z
def fGa (g:D->En->Option En) (B:FS) (r:List D) (o:Option En):Option Res:=bnd o λ ρ1=>fGb g B r (B ρ1)
theorem bg2 (g:D->En->Option En) (B:FS) (d:D) (r:List D) (ρ:En):fGo g B (d::r) ρ=fGa g B r (g d ρ):=Eq.trans rfl rfl
@[simp] theorem bg4 (g:D->En->Option En) (B:FS) (r:List D) (ρ:En):fGa g B r (some ρ)=fGb g B r (B ρ):=Eq.trans rfl rfl
@[simp] theorem bg3 (g:D->En->Option En) (B:FS) (r:List D) (ρ:En):fGb g B r (some (.nx ρ))=fGo g B r ρ:=Eq.trans rfl rfl
def aZ5 (o:Option (D×En)):Option (List D×En):=bnd o λ p=>bnd (bl2 p.1) λ j=>if -(2 ^ 62)<=j/\j<2 ^ 62 then some (P_1 0 j.toNat,p.2) else none
@[simp] theorem bJ9 (F:FE) (ρ:En):aK7 F ρ=aZ5 (F ρ):=Eq.trans rfl rfl
@[simp] theorem bq6 (j:Int) (ρ:En):aZ5 (some (.int j,ρ))=if -(2 ^ 62)<=j/\j<2 ^ 62 then some (P_1 0 j.toNat,ρ) else none:=Eq.trans rfl rfl
def aF2 (g:D->En->Option En) (B:FS) (o:Option (List D×En)):Option Res:=bnd o λ p=>fGo g B p.1 p.2
@[simp] theorem bA4 (g:D->En->Option En) (X:FA) (B:FS) (ρ:En):W_4 g X B ρ=aF2 g B (X ρ):=Eq.trans rfl rfl
@[simp] theorem bk5 (g:D->En->Option En) (B:FS) (xs:List D) (ρ:En):aF2 g B (some (xs,ρ))=fGo g B xs ρ:=Eq.trans rfl rfl
def wGb (T:FT) (B:FS) (n:Nat) (o:Option Res):Option Res:=bnd o λ z=>goR (wGo T B n) z
def wGa (T:FT) (B:FS) (n:Nat) (o:Option (Bool×En)):Option Res:=bnd o λ p=>if p.1=true then wGb T B n (B p.2) else some (.nx p.2)
theorem aX2 (T:FT) (B:FS) (n:Nat) (ρ:En):wGo T B (n+1) ρ=wGa T B n (T ρ):=Eq.trans rfl rfl
@[simp] theorem bn1 (T:FT) (B:FS) (n:Nat) (ρ:En):wGa T B n (some (true,ρ))=wGb T B n (B ρ):=Eq.trans rfl rfl
@[simp] theorem bn2 (T:FT) (B:FS) (n:Nat) (ρ:En):wGa T B n (some (false,ρ))=some (.nx ρ):=Eq.trans rfl rfl
@[simp] theorem bn0 (T:FT) (B:FS) (n:Nat) (ρ:En):wGb T B n (some (.nx ρ))=wGo T B n ρ:=Eq.trans rfl rfl
@[simp] theorem bo9 (fuel:En->Nat) (T:FT) (B:FS) (ρ:En):Q_6 fuel T B ρ=wGo T B (fuel ρ) ρ:=Eq.trans rfl rfl
def fnA (o:Option Res):Option D:=bnd o λ r=>bq7 r
@[simp] theorem bM4 (d:D) (ρ:En):fnA (some (.rt d ρ))=some d:=Eq.trans rfl rfl
@[simp] theorem bQ4 (n k:Nat) (B:FS) (ds:List D):fnD n k B ds=if ds.length=n then fnA (B (ds.map .im++List.replicate k .no)) else none:=Eq.trans rfl rfl
def bc9 (o:Option (List D×En)):Option (List D×En):=bnd o λ p=>if p.1.length<=1000 then some p else none
@[simp] theorem bL0 (A:FA) (ρ:En):bk9 A ρ=bc9 (A ρ):=Eq.trans rfl rfl
@[simp] theorem bs7 (xs:List D) (ρ:En):bc9 (some (xs,ρ))=if xs.length<=1000 then some (xs,ρ) else none:=Eq.trans rfl rfl
def aZ0 (i:Nat) (o:Option (List D×En)):Option Res:=bnd o λ p=>some (.nx (p.2.set i (.ow false (.lst p.1))))
@[simp] theorem bJ5 (i:Nat) (A:FA) (ρ:En):bk2 i A ρ=aZ0 i (A ρ):=Eq.trans rfl rfl
@[simp] theorem bp6 (i:Nat) (xs:List D) (ρ:En):aZ0 i (some (xs,ρ))=some (.nx (ρ.set i (.ow false (.lst xs)))):=Eq.trans rfl rfl
@[simp] theorem bK6 (ds:List D):owL (some (.ow false (.lst ds)))=some ds:=Eq.trans rfl rfl
def aK5 (i:Nat) (x:D) (ρ:En) (o:Option (List D)):Option Res:=bnd o λ ds=>if ds.length<1000000 then some (.nx (ρ.set i (.ow false (.lst (ds++[x]))))) else none
def aK6 (i:Nat) (o:Option (D×En)):Option Res:=bnd o λ p=>aK5 i p.1 p.2 (owL p.2[i]?)
def aZ3 (i:Nat) (F:FE) (ρ:En) (o:Option (List D)):Option Res:=bnd o λ _=>aK6 i (F ρ)
@[simp] theorem bJ8 (i:Nat) (F:FE) (ρ:En):bk6 i F ρ=aZ3 i F ρ (owL ρ[i]?):=Eq.trans rfl rfl
@[simp] theorem bq5 (i:Nat) (F:FE) (ρ:En) (ds:List D):aZ3 i F ρ (some ds)=aK6 i (F ρ):=Eq.trans rfl rfl
@[simp] theorem bq4 (i:Nat) (x:D) (ρ:En):aK6 i (some (x,ρ))=aK5 i x ρ (owL ρ[i]?):=Eq.trans rfl rfl
@[simp] theorem bq3 (i:Nat) (x:D) (ρ:En) (ds:List D):aK5 i x ρ (some ds)=if ds.length<1000000 then some (.nx (ρ.set i (.ow false (.lst (ds++[x]))))) else none:=Eq.trans rfl rfl
def bu8 (i:Nat) (ρ:En):Option Sl->En
 |some (.ow false (.lst ds))=>ρ.set i (.im (.lst ds))
 |_=>ρ
@[simp] theorem bQ2 (i:Nat) (ρ:En):frz i ρ=bu8 i ρ ρ[i]?:=by unfold frz bu8;split <;> simp_all
@[simp] theorem bC9 (i:Nat) (ρ:En) (ds:List D):bu8 i ρ (some (.ow false (.lst ds)))=ρ.set i (.im (.lst ds)):=Eq.trans rfl rfl
@[simp] theorem bJ7 (i:Nat) (F:FS) (ρ:En):bk4 i F ρ=F (frz i ρ):=Eq.trans rfl rfl
end Fx
namespace Fx
open PySem PySem.Spec PyProof.Rows L2
theorem RS.heNone {K:Frag}{c:FC}{H0 H:Hp}{ρ:En}{σ:L2.St} (R:RS K c H0 H ρ σ) {p:Addr} (hp:H p=none):c.He p=none:=by
 cases q:c.He p with
 |none=>rfl
 |some u =>
  by_cases hb:p∈c.Ap
  ·exact absurd hp (R.apt p hb)
  ·rw[R.keep p u q hb] at hp;cases hp
theorem RS.setOwn {K:Frag}{c:FC}{H0 H:Hp}{ρ:En}{σ:L2.St}{p:Addr}{u:HO}{o:MO} (R:RS K c H0 H ρ σ) (i:Nat) (hp:H p=none) (r:OwOk K H0 (upd H p u) p o) :
  RS K c H0 (upd H p u) (ρ.set i (.ow false o)) (σ.set i (some (.ref p))):=by
 have hl:=R.len;have h0:H0 p=none:=R.same.free hp;have he:=R.heNone hp;have up:∀ b v,H b=some v->(upd H p u) b=some v:=λ b v e=>by rw[b_6 (c_7 e hp)];exact e
 have other:∀ (j:Nat) (sl:Sl),j≠i->(ρ.set i (.ow false o))[j]?=some sl->ρ[j]?=some sl:=λ j sl hj e=>by rwa [List.getElem?_set_ne (Ne.symm hj)] at e
 have otherS:∀ (j:Nat),j≠i->(σ.set i (some (V.ref p)))[j]?=σ[j]?:=λ j hj=>List.getElem?_set_ne (Ne.symm hj)
 have same:∀ (sl:Sl),(ρ.set i (.ow false o))[i]?=some sl->sl=.ow false o/\i<ρ.length:=λ sl e=>by
  by_cases hi:i<ρ.length
  ·rw[List.getElem?_set_self hi] at e;exact⟨(qh e).symm,hi⟩
  ·rw[List.getElem?_eq_none (by rw[List.length_set];omega)] at e;cases e
 have ownNe:∀ (j:Nat) (b:Bool) (o:MO) (a:Addr),ρ[j]?=some (.ow b o)->σ[j]?=some (some (.ref a))->a≠p:=λ j b o a e1 e2=>by
  obtain⟨a',x,_,_,w⟩:=R.ow j b o e1;rw[x] at e2;cases e2;obtain⟨u,q⟩:=w.some;exact c_7 q hp
 refine⟨λ b u e=>up b u (R.same b u e),R.init,R.fresh,λ b o e n=>up b o (R.keep b o e n),λ a ha e=>?_,by rw[List.length_set,List.length_set,hl],λ j d' e=>?_,λ j bb o' e=>?_,λ j k b1 b2 o1 o2 a e1 e2 e3 e4=>?_⟩
 ·cases q:H a with
  |none=>exact R.apt a ha q
  |some v=>rw[up a v q] at e;cases e
 ·by_cases hj:j=i
  ·subst hj;obtain⟨e',_⟩:=same _ e;cases e'
  ·rw[otherS j hj];exact R.im j d' (other j _ hj e)
 ·by_cases hj:j=i
  ·subst hj
   obtain⟨e',hi⟩:=same _ e;cases e';exact⟨p,by rw[List.getElem?_set_self (by omega)],h0,he,r⟩
  ·rw[otherS j hj]
   obtain⟨a,x,y,z,w⟩:=R.ow j bb o' (other j _ hj e);exact⟨a,x,y,z,w.step (Same.refl _) λ v q=>up a v q⟩
 ·by_cases hj:j=i
  ·by_cases hk:k=i
   ·omega
   ·subst hj
    obtain⟨_,hi⟩:=same _ e1;rw[List.getElem?_set_self (by omega)] at e3
    cases e3;rw[otherS k hk] at e4;exact absurd rfl (ownNe k b2 o2 _ (other k _ hk e2) e4)
  ·by_cases hk:k=i
   ·subst hk
    obtain⟨_,hi⟩:=same _ e2;rw[List.getElem?_set_self (by omega)] at e4
    cases e4;rw[otherS j hj] at e3;exact absurd rfl (ownNe j b1 o1 _ (other j _ hj e1) e3)
   ·rw[otherS j hj] at e3;rw[otherS k hk] at e4
    exact R.ne j k b1 b2 o1 o2 a (other j _ hj e1) (other k _ hk e2) e3 e4
theorem RS.lent {K:Frag}{c:FC}{H0 H H0' H':Hp}{ρ:En}{σ:L2.St}{a:Addr}{b:Bool}{o o':MO} (R:RS K c H0 H ρ σ) {i:Nat} (hi:ρ[i]?=some (.ow b o)) (ha:σ[i]?=some (some (.ref a)))
  (s0:Same H0 H0') (s':Same H0' H') (kp:∀ x u,H x=some u->x≠a->H' x=some u) (fr:∀ x u,H0' x=some u->H0 x=some u\/H x=none) (r:OwOk K H0' H' a o') :
  RS K c H0' H' (ρ.set i (.ow b o')) σ:=by
 obtain⟨a',x,y,z,w⟩:=R.ow i b o hi;rw[ha] at x;cases x;obtain⟨ua,qa⟩:=w.some;have il:i<ρ.length:=(List.getElem?_eq_some_iff.mp hi).1
 have n0:∀ x,H0 x=none->H x≠none->H0' x=none:=λ x h1 h2=>by
  cases q:H0' x with
  |none=>rfl
  |some u =>
   rcases fr x u q with h | h
   ·rw[h1] at h;cases h
   ·exact absurd h h2
 have other:∀ (j:Nat) (sl:Sl),j≠i->(ρ.set i (.ow b o'))[j]?=some sl->ρ[j]?=some sl:=λ j sl hj e=>by rwa [List.getElem?_set_ne (Ne.symm hj)] at e
 have same:∀ (sl:Sl),(ρ.set i (.ow b o'))[i]?=some sl->sl=.ow b o':=λ sl e=>by
  rw[List.getElem?_set_self il] at e;exact (qh e).symm
 have was:∀ (j:Nat) (bb:Bool) (oo:MO),(ρ.set i (.ow b o'))[j]?=some (.ow bb oo)->∃ bb o'',ρ[j]?=some (.ow bb o''):=λ j bb oo e=>by
  by_cases hj:j=i
  ·exact⟨b,o,by rw[hj];exact hi⟩
  ·exact⟨bb,oo,other j _ hj e⟩
 refine⟨s',R.init.trans s0,λ x u e=>?_,λ x u e n=>?_,λ x hx e=>?_,by rw[List.length_set];exact R.len,λ j d' e=>?_,λ j bb oo e=>?_,λ j k b1 b2 o1 o2 x e1 e2 e3 e4=>?_⟩
 ·rcases fr x u e with h | h
  ·exact R.fresh x u h
  ·exact .inr (R.heNone h)
 ·have:x≠a:=λ h=>by
   cases b with
   |true=>exact n (h▸z)
   |false =>
    have z':c.He a=none:=z;rw[h,z'] at e;cases e
  exact kp x u (R.keep x u e n) this
 ·by_cases h:x=a
  ·obtain⟨u,q⟩:=r.some
   rw[h,q] at e;cases e
  ·cases q:H x with
   |none=>exact R.apt x hx q
   |some u=>rw[kp x u q h] at e;cases e
 ·by_cases hj:j=i
  ·subst hj;cases same _ e
  ·obtain⟨v,a1,a2⟩:=R.im j d' (other j _ hj e)
   exact⟨v,a1,Rep.mono s0 _ a2⟩
 ·by_cases hj:j=i
  ·subst hj
   cases same _ e;exact⟨a,ha,n0 a y (by rw[qa];intro h;cases h),z,r⟩
  ·have q':=other j _ hj e
   obtain⟨x,x1,y1,z1,w1⟩:=R.ow j bb oo q';have nx:x≠a:=λ h=>hj (R.ne j i bb b oo o x q' hi x1 (by rw[h];exact ha))
   obtain⟨u,qu⟩:=w1.some;exact⟨x,x1,n0 x y1 (by rw[qu];intro h;cases h),z1,w1.step s0 λ v q=>kp x v q nx⟩
 ·obtain⟨_,p,e1⟩:=was j b1 o1 e1
  obtain⟨_,q,e2⟩:=was k b2 o2 e2;exact R.ne j k _ _ p q x e1 e2 e3 e4
theorem RS.mutOwn {K:Frag}{c:FC}{H0 H:Hp}{ρ:En}{σ:L2.St}{a:Addr}{b:Bool}{o o':MO}{u:HO} (R:RS K c H0 H ρ σ) {i:Nat} (hi:ρ[i]?=some (.ow b o)) (ha:σ[i]?=some (some (.ref a))) (r:OwOk K H0 (upd H a u) a o') :
  RS K c H0 (upd H a u) (ρ.set i (.ow b o')) σ:=by
 obtain⟨a',x,y,z,w⟩:=R.ow i b o hi;rw[ha] at x;cases x;refine R.lent hi ha (Same.refl _) (λ x v e=>?_) (λ x v e n=>by rw[b_6 n];exact e) (λ x v e=>.inl e) r
 have:x≠a:=λ h=>by rw[h,y] at e;cases e
 rw[b_6 this];exact R.same x v e
theorem RS.freeze {K:Frag}{c:FC}{H0 H:Hp}{ρ:En}{σ:L2.St}{ds:List D} (R:RS K c H0 H ρ σ) {i:Nat} (hi:ρ[i]?=some (.ow false (.lst ds))) :
  ∃ H0',Same H0 H0'/\RS K c H0' H (ρ.set i (.im (.lst ds))) σ:=by
 obtain⟨a,x,y,z,vs,e,r⟩:=R.ow i _ _ hi;have he:c.He a=none:=z;have il:i<ρ.length:=(List.getElem?_eq_some_iff.mp hi).1;have s0:Same H0 (upd H0 a (.lst vs)):=λ b u q=>by rw[b_6 (c_7 q y)];exact q
 have other:∀ (j:Nat) (sl:Sl),j≠i->(ρ.set i (.im (.lst ds)))[j]?=some sl->ρ[j]?=some sl:=λ j sl hj e=>by rwa [List.getElem?_set_ne (Ne.symm hj)] at e
 have same:∀ (sl:Sl),(ρ.set i (.im (.lst ds)))[i]?=some sl->sl=.im (.lst ds):=λ sl e=>by
  rw[List.getElem?_set_self il] at e;exact (qh e).symm
 refine⟨upd H0 a (.lst vs),s0,λ b u q=>?_,R.init.trans s0,λ b u q=>?_,R.keep,R.apt,by rw[List.length_set];exact R.len,λ j d' q=>?_,λ j bb o' q=>?_,λ j k b1 b2 o' o'' b e1 e2 e3 e4=>?_⟩
 ·by_cases h:b=a
  ·subst h;rw[a_7] at q;cases q;exact e
  ·rw[b_6 h] at q;exact R.same b u q
 ·by_cases h:b=a
  ·subst h;exact .inr he
  ·rw[b_6 h] at q;exact R.fresh b u q
 ·by_cases hj:j=i
  ·subst hj
   cases same _ q;refine⟨.ref a,x,?_⟩;unfold Rep;exact⟨a,vs,rfl,.inl (.inl a_7),Reps.mono s0 _ r⟩
  ·obtain⟨v,a1,a2⟩:=R.im j d' (other j _ hj q)
   exact⟨v,a1,Rep.mono s0 _ a2⟩
 ·by_cases hj:j=i
  ·subst hj;cases same _ q
  ·have q':=other j _ hj q
   obtain⟨b,x1,y1,z1,w1⟩:=R.ow j bb o' q';have nb:b≠a:=λ h=>hj (R.ne j i bb false o' _ b q' hi x1 (by rw[h];exact x))
   exact⟨b,x1,by rw[b_6 nb];exact y1,z1,w1.step s0 λ u q=>q⟩
 ·by_cases hj:j=i
  ·subst hj;cases same _ e1
  ·by_cases hk:k=i
   ·subst hk;cases same _ e2
   ·exact R.ne j k b1 b2 o' o'' b (other j _ hj e1) (other k _ hk e2) e3 e4
def tEo (K:Frag) (A:FA):TE:=λ σ H Q=>∃ c H0 ρ ds ρ',RS K c H0 H ρ σ/\A ρ=some (ds,ρ')/\∀ p vs H0' H',Same H0 H0'->RS K c H0' H' ρ' σ->H' p=none->Reps K H0' ds vs->Q (.ref p) (upd H' p (.lst vs))
def XO' (X:Cx) (e:Expr) (A:FA):Prop:=PE X e (tEo X.K A)
theorem am6 {o:Option Sl}{ds:List D} (h:owL o=some ds):o=some (.ow false (.lst ds)):=by
 unfold owL at h
 split at h
 ·cases h;rfl
 ·cases h
section
variable {X:Cx}{pos:Pos}{e:Expr}{F:FE}{T:FT}{A B:FA}
theorem bm5 {es:List Expr} (h:XA X es A):XO' X (.List es pos) (bk9 A):=PE.wk (aF6 h) λ σ H Q hh0_=>by
 obtain⟨c,H0,ρ,ds,ρ',R,f,q⟩:=hh0_;unfold bk9 at f;obtain⟨⟨ds',ρ1⟩,h1,f⟩:=a_2 f;obtain⟨hl,f'⟩:=ifs f;cases f';exact⟨c,H0,ρ,ds,_,R,h1,λ vs H1 Hh s1 R1 r1=>⟨by rw[<- r1.length];exact aJ5 hl,λ p hp=>q p vs H1 Hh s1 R1 hp r1⟩⟩
theorem bH2 (i:Nat) {x:Str}{pos':Pos} (hN:X.N.Nodup) (he:XO' X e A) (hi:X.N[i]?=some x:=by rfl) (hx:Loc X.env.scope x:=by first | exact Or.inl rfl | exact Or.inr rfl) (hs:swapsWith e (some (.Name x pos')) pos.line X.env=pure false:=by rfl)
  (hf:X.fn x=true\/X.env.scope.names.lookup x=some .local:=by first | exact .inl rfl | exact .inr rfl):XS X (.Assign [.Name x pos'] e pos) (bk2 i A):=PS.wk (am0 hN hi hx he hs hf) λ Dn σ H hh0_=>by
 obtain⟨c,H0,ρ,r,R,f,q⟩:=hh0_;unfold bk2 at f;obtain⟨⟨ds,ρ1⟩,h1,f⟩:=a_2 f;have f':some (Res.nx (ρ1.set i (.ow false (.lst ds))))=some r:=f;cases f';exact⟨c,H0,ρ,ds,ρ1,R,h1,λ p vs H1 Hh s1 R1 hp r1=>q _ H1 _ s1 (R1.setOwn (o:=.lst ds) (u:=.lst vs) i hp ⟨vs,a_7,r1⟩)⟩
theorem bH7 (i:Nat) {x:Str}{p1 p2 p3:Pos} (ha:XA X [e] (aC F aN)) (hN:X.N[i]?=some x:=by rfl) (hv:Vis X.env.scope x:=by first | exact Or.inl rfl | exact Or.inr (Or.inl rfl) | exact Or.inr (Or.inr rfl)) (hd:(x==("__debug__":Str))=false:=by decide)
  (hcd:(x==("__classdict__":Str))=false:=by decide) (hbase:attributeBase (.Name x p1) "append" X.env (eval (.Name x p1) X.env)=eval (.Name x p1) X.env:=by rfl)
  (hfew:((backTo p3 (starEach [e] X.env)).all (λ x=>!x.1)&&(backToKw p3 (keywordEach [] X.env)).all (λ x=>x.1.isSome)&&decide ([e].length+([]:List Keyword).length+(if ([]:List Keyword).isEmpty then 0 else 1)<30))=true:=by rfl)
  (hline:(p2.endLine==p3.line)=true:=by rfl) (hst:starEach [e] X.env=(false,eval e X.env)::starEach [] X.env:=by rfl) (hpl:(backTo p3 (starEach [] X.env)).any (·.1)=false:=by rfl)
  (hs:swapsWith (.Call (.Attribute (.Name x p1) "append" p2) [e] [] p3) none pos.line X.env=pure false:=by rfl) :
  XS X (.Expr (.Call (.Attribute (.Name x p1) "append" p2) [e] [] p3) pos) (bk6 i F) :=
 PS.wk (aL6 (bs0 PySem.F.plainAttrs_list PySem.F.slot_list_append PySem.F.type_list_append ao4 (E_3 hN hv hd hcd) ha hbase hfew hline hst hpl) hs) λ Dn σ H hh0_=>by
  obtain⟨c,H0,ρ,r,R,f,q⟩:=hh0_;unfold bk6 at f;obtain⟨ds0,h0,f⟩:=a_2 f;obtain⟨⟨d,ρ1⟩,h1,f⟩:=a_2 f;obtain⟨ds,h2,f⟩:=a_2 f;dsimp only at h2 f;obtain⟨hl,f'⟩:=ifs f;cases f';obtain⟨a,x1,_,_,vs0,y1,_⟩:=R.ow i _ _ (am6 h0);refine⟨.ref a,x1,.inl ⟨rfl,vs0,SqL.of y1⟩,c,H0,ρ,[d],ρ1,R,by unfold aC aN;rw[h1];rfl,λ vs H1 Hh s1 R1 r1=>?_⟩
  obtain⟨v,rfl,rv⟩:=Reps.v1 r1;obtain⟨a',x2,_,_,ws,y2,z2⟩:=R1.ow i _ _ (am6 h2);rw[x1] at x2;cases x2;refine⟨a,ws,v,rfl,rfl,y2,?_,?_⟩
  ·rw[<- z2.length]
   exact qm hl (by rw[sizeLine_eq];decide)
  ·exact q σ H1 _ s1 (R1.mutOwn (o':=.lst (ds++[d])) (u:=.lst (ws++[v])) (am6 h2) x1 ⟨_,a_7,z2.app (Reps.one rv)⟩)
theorem bH6 (i:Nat) {st:Stmt}{G:FS} (h:XS X st G):XS X st (bk4 i G):=PS.wk h λ Dn σ H hh0_=>by
 obtain⟨c,H0,ρ,r,R,f,q⟩:=hh0_;unfold bk4 frz at f;cases z:ρ[i]? with
 |none=>rw[z] at f;exact⟨c,H0,ρ,r,R,f,q⟩
 |some sl =>
  rw[z] at f;cases sl with
  |no=>exact⟨c,H0,ρ,r,R,f,q⟩
  |im d=>exact⟨c,H0,ρ,r,R,f,q⟩
  |ow b o =>
   cases b with
   |true=>exact⟨c,H0,ρ,r,R,f,q⟩
   |false =>
   cases o with
   |dic kds=>exact⟨c,H0,ρ,r,R,f,q⟩
   |lst ds =>
    obtain⟨H0',s0,R'⟩:=R.freeze z;exact⟨c,H0',_,r,R',f,q.mono s0⟩
end
end Fx
namespace Fx
open PySem
def atS (z:Str) (i:Int):Option D:=if z.length<=sizeLine then bnd (bnd (dPl z.cps.toList.length i) λ j=>z.cps.toList[j]?) λ c=>some (.str (chS c)) else none
def b_2:D->D->Option D
 |.tup xs,.int i=>atD xs i
 |.lst xs,.int i=>atD xs i
 |.str z,.int i=>atS z i
 |_,_=>none
def V_1:List D->Option D
 |[.lst xs]=>some (.int xs.length)
 |[.tup xs]=>some (.int xs.length)
 |[.str z]=>if z.length<=sizeLine then some (.int z.length) else none
 |_=>none
def Z_2:D->Bool
 |.opq=>false
 |.dct _ _=>false
 |.tup _=>false
 |.lst _=>false
 |_=>true
def inD (x:D) (xs:List D):Bool:=xs.any λ y=>eqD y x
def D_0 (x:D) (xs:List D):Bool:=Z_2 x&&xs.all Z_2
def dIn:D->D->Option D
 |x,.tup xs=>if D_0 x xs=true then some (.bl (inD x xs)) else none
 |x,.lst xs=>if D_0 x xs=true then some (.bl (inD x xs)) else none
 |_,_=>none
def bi9:D->D->Option D
 |x,.tup xs=>if D_0 x xs=true then some (.bl (!inD x xs)) else none
 |x,.lst xs=>if D_0 x xs=true then some (.bl (!inD x xs)) else none
 |_,_=>none
def p_7:List D->Option D
 |[.lst xs]=>some (.tup xs)
 |[.tup xs]=>some (.tup xs)
 |_=>none
def aD6:List D->Option D
 |[.lst xs]=>some (.lst xs)
 |[.tup xs]=>some (.lst xs)
 |_=>none
@[simp] theorem bG2 (xs:List D) (i:Int):b_2 (.tup xs) (.int i)=atD xs i:=Eq.trans rfl rfl
@[simp] theorem bG4 (xs:List D) (i:Int):b_2 (.lst xs) (.int i)=atD xs i:=Eq.trans rfl rfl
@[simp] theorem bG3 (z:Str) (i:Int):b_2 (.str z) (.int i)=atS z i:=Eq.trans rfl rfl
@[simp] theorem by7 (xs:List D):V_1 [.lst xs]=some (.int xs.length):=Eq.trans rfl rfl
@[simp] theorem by6 (z:Str):V_1 [.str z]=if z.length<=sizeLine then some (.int z.length) else none:=Eq.trans rfl rfl
@[simp] theorem bm1 (xs:List D):p_7 [.lst xs]=some (.tup xs):=Eq.trans rfl rfl
@[simp] theorem by4 (xs:List D):aD6 [.tup xs]=some (.lst xs):=Eq.trans rfl rfl
end Fx
namespace Fx
open PySem PySem.Spec PyProof.Rows L2
section
variable {X:Cx}{K:Frag}
theorem L_7 (H:Hp) (x:Str):Rep K H (.str x) (.str x):=by unfold Rep;rfl
theorem bL6:OpD K (rIx K) b_2:=λ c H0 H ρ σ x y d vx vy Q R r1 r2 e q=>by
 cases y with
 |int i =>
  unfold Rep at r2;subst r2;cases x with
  |tup ds =>
   unfold Rep at r1;obtain⟨p,vs,rfl,s,t⟩:=r1;obtain⟨v,e1,e2⟩:=bj5 t e;exact .inr (.inl ⟨p,vs,i,v,rfl,rfl,Same.seqT R.same s,e1,q v H0 H (Same.refl _) R e2⟩)
  |lst ds =>
   unfold Rep at r1;obtain⟨p,vs,rfl,s,t⟩:=r1;obtain⟨v,e1,e2⟩:=bj5 t e;exact .inl ⟨p,vs,i,v,rfl,rfl,Same.seq R.same s,e1,q v H0 H (Same.refl _) R e2⟩
  |str z =>
   unfold Rep at r1;subst r1;have e:atS z i=some d:=e;unfold atS at e
   by_cases hz:z.length<=sizeLine
   ·rw[if_pos hz] at e
    obtain⟨ch,e1,e2⟩:=a_2 e;have e2:some (D.str (chS ch))=some d:=e2;cases e2;exact .inr (.inr ⟨z,i,ch,rfl,rfl,hz,e1,q _ H0 H (Same.refl _) R (L_7 H0 (chS ch))⟩)
   ·rw[if_neg hz] at e;cases e
  |_=>cases e
 |_=>cases x <;> cases e
variable {a b:Expr}{F G:FE}{pos:Pos}
theorem c_6 (ha:XE X a F) (hb:XE X b G) (hs:aa8 b:=by intro _ _;rfl):XE X (.Subscript a b pos) (e2 b_2 F G):=PE.wk (br9 be6 ha hb hs) λ σ H Q h=>ab0 bL6 h
theorem D_5:BOk X (.builtin "len") V_1:=⟨_,call_len_seq.or U_1,λ c H0 H ρ σ ds d vs Q R r e q=>by
 unfold V_1 at e
 split at e
 ·cases e
  obtain⟨v,rfl,rv⟩:=Reps.v1 r;unfold Rep at rv;obtain⟨p,ws,rfl,s,t⟩:=rv;exact .inl ⟨p,ws,rfl,.inl (Same.seq R.same s),by rw[<- t.length];exact q _ H0 H (Same.refl _) R (i_6 _ _)⟩
 ·cases e
  obtain⟨v,rfl,rv⟩:=Reps.v1 r;unfold Rep at rv;obtain⟨p,ws,rfl,s,t⟩:=rv;exact .inl ⟨p,ws,rfl,.inr (Same.seqT R.same s),by rw[<- t.length];exact q _ H0 H (Same.refl _) R (i_6 _ _)⟩
 ·rename_i z
  obtain⟨hz,rfl⟩:=ifs e;obtain⟨v,rfl,rv⟩:=Reps.v1 r;unfold Rep at rv;subst rv;exact .inr ⟨z,rfl,hz,q _ H0 H (Same.refl _) R (i_6 _ _)⟩
 ·cases e⟩
theorem xTy {T:String}{g:List D → Option D}{A:FA}{x:Str}{p:Pos}{e:Expr}{es:List Expr} (o:BOk X (.type T) g) (hg:Gl X x) (hm:X.mg x=none) (hv:bootBuiltins x=some (.type T)) (ha:XA X (e::es) A) (hn:x≠"__name__":=by decide) (hdb:(x==("__debug__":Str))=false:=by decide)
  (he:starEach (e::es) X.env=(false,eval e X.env)::starEach es X.env:=by rfl) (hpl:(backTo pos (starEach es X.env)).any (·.1)=false:=by rfl):XE X (.Call (.Name x p) (e::es) [] pos) (eF g A):=by
 obtain⟨r,h1,h2⟩:=o;exact PE.wk (p_2 h1 hg hm hv ha hn hdb he hpl) λ σ H Q h=>bi1 h2 h
theorem aD1:BOk X (.type "list") aD6:=⟨_,U_0,λ c H0 H ρ σ ds d vs Q R r e q=>by
 unfold aD6 at e
 split at e
 ·cases e
  obtain⟨v,rfl,rv⟩:=Reps.v1 r;unfold Rep at rv;obtain⟨p,ws,rfl,s,t⟩:=rv;refine⟨p,ws,rfl,.inl (Same.seq R.same s),λ l hl=>?_⟩
  have S:=Step.alloc (o:=.lst ws) R.same hl;refine q _ _ _ S.s0 (R.after S) ?_;unfold Rep;exact⟨l,_,rfl,.inl (.inl a_7),Reps.mono S.s0 _ t⟩
 ·cases e
  obtain⟨v,rfl,rv⟩:=Reps.v1 r;unfold Rep at rv;obtain⟨p,ws,rfl,s,t⟩:=rv;refine⟨p,ws,rfl,.inr (Same.seqT R.same s),λ l hl=>?_⟩
  have S:=Step.alloc (o:=.lst ws) R.same hl;refine q _ _ _ S.s0 (R.after S) ?_;unfold Rep;exact⟨l,_,rfl,.inl (.inl a_7),Reps.mono S.s0 _ t⟩
 ·cases e⟩
theorem h_6:BOk X (.type "tuple") p_7:=⟨_,O_1,λ c H0 H ρ σ ds d vs Q R r e q=>by
 unfold p_7 at e
 split at e
 ·cases e
  obtain⟨v,rfl,rv⟩:=Reps.v1 r;unfold Rep at rv;obtain⟨p,ws,rfl,s,t⟩:=rv;refine⟨p,ws,rfl,.inl ⟨Same.seq R.same s,λ l hl=>?_⟩⟩
  have S:=Step.alloc (o:=.tup ws) R.same hl;refine q _ _ _ S.s0 (R.after S) ?_;unfold Rep;exact⟨l,_,rfl,.inl (.inl a_7),Reps.mono S.s0 _ t⟩
 ·cases e
  obtain⟨v,rfl,rv⟩:=Reps.v1 r;have rv':=rv;unfold Rep at rv;obtain⟨p,ws,rfl,s,t⟩:=rv;exact⟨p,ws,rfl,.inr ⟨Same.seqT R.same s,q _ H0 H (Same.refl _) R rv'⟩⟩
 ·cases e⟩
theorem D_3 {H:Hp}{d:D}{v:V} (h:Z_2 d=true) (r:Rep K H d v):I_0 v=true/\∀ d' v',Z_2 d'=true->Rep K H d' v'->eqV v v'=eqD d d':=by
 cases d with
 |tup xs=>cases h
 |lst xs=>cases h
 |opq=>cases h
 |dct ks vs=>cases h
 |_ =>
  unfold Rep at r;subst r;refine⟨rfl,λ d' v' h' r'=>?_⟩
  cases d' with
  |tup xs=>cases h'
  |lst xs=>cases h'
  |opq=>cases h'
  |dct ks vs=>cases h'
  |_ =>
   unfold Rep at r';subst r'
   first
    |(simp[eqV];done)
    |(simp[eqV,eqD];done)
    |(simp[eqV,eqD,Bool.beq_eq_decide_eq];done)
    |(unfold eqV;simp)
theorem ad7 {H:Hp}{x:D}{v:V} (hx:Z_2 x=true) (r:Rep K H x v):∀ {ds:List D}{vs:List V},ds.all Z_2=true->Reps K H ds vs->vs.all I_0=true/\inV v vs=inD x ds
 |[],vs,_,t=>by
  unfold Reps at t;subst t;exact⟨rfl,rfl⟩
 |d::ds,vs,h,t=>by
  unfold Reps at t;obtain⟨u,us,rfl,t1,t2⟩:=t;rw[List.all_cons,Bool.and_eq_true] at h;obtain⟨i1,i2⟩:=ad7 hx r h.2 t2;obtain⟨f1,f2⟩:=D_3 h.1 t1;refine⟨by rw[List.all_cons,f1,i1];rfl,?_⟩
  unfold inV inD at *;rw[List.any_cons,List.any_cons,f2 x v hx r,i2]
theorem aG9 {neg:Bool}{f:D->D->Option D} (hf:∀ x y d,f x y=some d->∃ xs,(y=.tup xs\/y=.lst xs)/\D_0 x xs=true/\d=.bl (if neg then !inD x xs else inD x xs)):OpD K (rIn K neg) f:=λ c H0 H ρ σ x y d vx vy Q R r1 r2 e q=>by
 obtain⟨xs,hy,ok,rfl⟩:=hf x y d e;unfold D_0 at ok;rw[Bool.and_eq_true] at ok
 rcases hy with rfl | rfl
 ·unfold Rep at r2
  obtain⟨p,ws,rfl,s,t⟩:=r2;obtain⟨i1,i2⟩:=ad7 ok.1 r1 ok.2 t;exact⟨p,ws,rfl,.inr (Same.seqT R.same s),(D_3 ok.1 r1).1,i1,by rw[i2];exact q _ H0 H (Same.refl _) R (v_8 _ _)⟩
 ·unfold Rep at r2
  obtain⟨p,ws,rfl,s,t⟩:=r2;obtain⟨i1,i2⟩:=ad7 ok.1 r1 ok.2 t;exact⟨p,ws,rfl,.inl (Same.seq R.same s),(D_3 ok.1 r1).1,i1,by rw[i2];exact q _ H0 H (Same.refl _) R (v_8 _ _)⟩
end
end Fx
namespace Fx
open PySem
def s_4 (k:Str):List (Str×D)->Option D
 |[]=>none
 |q::r=>if q.1=k then some q.2 else s_4 k r
def ag4 (k:Str) (d:D):List (Str×D)->List (Str×D)
 |[]=>[]
 |q::r=>(if q.1=k then (q.1,d) else q)::ag4 k d r
def owO:Option Sl->Option (Bool×MO)
 |some (.ow b o)=>some (b,o)
 |_=>none
def owD:Option Sl->Option (Bool×List (Str×D))
 |some (.ow b (.dic kds))=>some (b,kds)
 |_=>none
def eDG (i:Nat) (k:Str) (ρ:En):Option (D×En):=bnd (owD ρ[i]?) λ p=>bnd (s_4 k p.2) λ d=>some (d,ρ)
def sDP (i:Nat) (k:Str) (F:FE) (ρ:En):Option Res:=bnd (F ρ) λ p=>bnd (owD p.2[i]?) λ q=>bnd (s_4 k q.2) λ _=>if q.2.length<100 then some (.nx (p.2.set i (.ow q.1 (.dic (ag4 k p.1 q.2))))) else none
def eFb (i:Nat) (g:MO->List D->Option (D×MO)) (A:FA) (ρ:En):Option (D×En):=bnd (owO ρ[i]?) λ _=>bnd (A ρ) λ p=>bnd (owO p.2[i]?) λ q=>bnd (g q.2 p.1) λ z=>some (z.1,p.2.set i (.ow q.1 z.2))
def bq9:Res->Option (D×MO)
 |.rt d ρ=>bnd (owO ρ[0]?) λ q=>if q.1=true then some (d,q.2) else none
 |.nx ρ=>bnd (owO ρ[0]?) λ q=>if q.1=true then some (.non,q.2) else none
 |_=>none
def fnB (n k:Nat) (B:FS) (o:MO) (ds:List D):Option (D×MO):=if ds.length=n then bnd (B (.ow true o::(ds.map .im++List.replicate k .no))) λ r=>bq9 r else none
def ao2:Sl->Bool
 |.ow _ _=>false
 |_=>true
def bl1 (ks:List Str) (A:FA) (ρ:En):Option MO:=if ρ.all ao2=true then bnd (A ρ) λ p=>if p.1.length=ks.length/\ks.length<=15/\ks.Nodup then some (.dic (ks.zip p.1)) else none else none
def bl0 (A:FS) (F:En->Option MO) (ρ:En):Option MO:=bnd (A ρ) λ r=>match r with
 |.nx ρ'=>F ρ'
 |_=>none
def fnN (n k:Nat) (F:En->Option MO) (ds:List D):Option MO:=if ds.length=n then F (ds.map .im++List.replicate k .no) else none
def bk3 (i:Nat) (g:List D->Option MO) (A:FA) (ρ:En):Option Res:=bnd (A ρ) λ p=>bnd (g p.1) λ o=>some (.nx (p.2.set i (.ow false o)))
@[simp] theorem bK5 (b:Bool) (o:MO):owO (some (.ow b o))=some (b,o):=Eq.trans rfl rfl
@[simp] theorem bK7 (b:Bool) (o:List (Str×D)):owD (some (.ow b (.dic o)))=some (b,o):=Eq.trans rfl rfl
def bE9 (k:Str) (ρ:En) (o:Option (Bool×List (Str×D))):Option (D×En):=bnd o λ p=>bnd (s_4 k p.2) λ d=>some (d,ρ)
@[simp] theorem bR0 (i:Nat) (k:Str) (ρ:En):eDG i k ρ=bE9 k ρ (owD ρ[i]?):=Eq.trans rfl rfl
@[simp] theorem bE8 (k:Str) (ρ:En) (b:Bool) (kds:List (Str×D)):bE9 k ρ (some (b,kds))=mkP (s_4 k kds) ρ:=Eq.trans rfl rfl
def bq1 (i:Nat) (k:Str) (d:D) (ρ:En) (b:Bool) (kds:List (Str×D)) (o:Option D):Option Res:=bnd o λ _=>if kds.length<100 then some (.nx (ρ.set i (.ow b (.dic (ag4 k d kds))))) else none
def bq2 (i:Nat) (k:Str) (d:D) (ρ:En) (o:Option (Bool×List (Str×D))):Option Res:=bnd o λ q=>bq1 i k d ρ q.1 q.2 (s_4 k q.2)
def bA8 (i:Nat) (k:Str) (o:Option (D×En)):Option Res:=bnd o λ p=>bq2 i k p.1 p.2 (owD p.2[i]?)
@[simp] theorem bQ0 (i:Nat) (k:Str) (F:FE) (ρ:En):sDP i k F ρ=bA8 i k (F ρ):=Eq.trans rfl rfl
@[simp] theorem bA7 (i:Nat) (k:Str) (d:D) (ρ:En):bA8 i k (some (d,ρ))=bq2 i k d ρ (owD ρ[i]?):=Eq.trans rfl rfl
@[simp] theorem bA6 (i:Nat) (k:Str) (d:D) (ρ:En) (b:Bool) (kds:List (Str×D)):bq2 i k d ρ (some (b,kds))=bq1 i k d ρ b kds (s_4 k kds):=Eq.trans rfl rfl
@[simp] theorem bA5 (i:Nat) (k:Str) (d:D) (ρ:En) (b:Bool) (kds:List (Str×D)) (z:D):bq1 i k d ρ b kds (some z)=if kds.length<100 then some (.nx (ρ.set i (.ow b (.dic (ag4 k d kds))))) else none:=Eq.trans rfl rfl
def bx0 (i:Nat) (ρ:En) (b:Bool) (o:Option (D×MO)):Option (D×En):=bnd o λ z=>some (z.1,ρ.set i (.ow b z.2))
def bx1 (i:Nat) (g:MO->List D->Option (D×MO)) (ds:List D) (ρ:En) (o:Option (Bool×MO)):Option (D×En):=bnd o λ q=>bx0 i ρ q.1 (g q.2 ds)
def bx2 (i:Nat) (g:MO->List D->Option (D×MO)) (o:Option (List D×En)):Option (D×En):=bnd o λ p=>bx1 i g p.1 p.2 (owO p.2[i]?)
def bE6 (i:Nat) (g:MO->List D->Option (D×MO)) (A:FA) (ρ:En) (o:Option (Bool×MO)):Option (D×En):=bnd o λ _=>bx2 i g (A ρ)
@[simp] theorem bQ9 (i:Nat) (g:MO->List D->Option (D×MO)) (A:FA) (ρ:En):eFb i g A ρ=bE6 i g A ρ (owO ρ[i]?):=Eq.trans rfl rfl
@[simp] theorem bE5 (i:Nat) (g:MO->List D->Option (D×MO)) (A:FA) (ρ:En) (q:Bool×MO):bE6 i g A ρ (some q)=bx2 i g (A ρ):=Eq.trans rfl rfl
@[simp] theorem bE4 (i:Nat) (g:MO->List D->Option (D×MO)) (ds:List D) (ρ:En):bx2 i g (some (ds,ρ))=bx1 i g ds ρ (owO ρ[i]?):=Eq.trans rfl rfl
@[simp] theorem bE3 (i:Nat) (g:MO->List D->Option (D×MO)) (ds:List D) (ρ:En) (b:Bool) (o:MO):bx1 i g ds ρ (some (b,o))=bx0 i ρ b (g o ds):=Eq.trans rfl rfl
@[simp] theorem bE2 (i:Nat) (ρ:En) (b:Bool) (d:D) (o:MO):bx0 i ρ b (some (d,o))=some (d,ρ.set i (.ow b o)):=Eq.trans rfl rfl
def aK4 (i:Nat) (ρ:En) (o:Option MO):Option Res:=bnd o λ o=>some (.nx (ρ.set i (.ow false o)))
def aZ1 (i:Nat) (g:List D->Option MO) (o:Option (List D×En)):Option Res:=bnd o λ p=>aK4 i p.2 (g p.1)
@[simp] theorem bJ6 (i:Nat) (g:List D->Option MO) (A:FA) (ρ:En):bk3 i g A ρ=aZ1 i g (A ρ):=Eq.trans rfl rfl
@[simp] theorem bp8 (i:Nat) (g:List D->Option MO) (ds:List D) (ρ:En):aZ1 i g (some (ds,ρ))=aK4 i ρ (g ds):=Eq.trans rfl rfl
@[simp] theorem bp7 (i:Nat) (ρ:En) (o:MO):aK4 i ρ (some o)=some (.nx (ρ.set i (.ow false o))):=Eq.trans rfl rfl
end Fx
namespace Fx
open PySem PySem.Spec PyProof.Rows L2
def z_0 (ks:List Str) (vs:List V):List (Key×V):=(ks.map Sum.inr).zip vs
theorem x_1 (k:Str) (ks:List Str) (v:V) (vs:List V):z_0 (k::ks) (v::vs)=(Sum.inr k,v)::z_0 ks vs:=rfl
section
variable {K:Frag}{H:Hp}
theorem P_4 {k:Str}{d:D}:∀ {kds:List (Str×D)}{vs:List V},Reps K H (kds.map (·.2)) vs->s_4 k kds=some d->∃ v,K_8 (z_0 (kds.map (·.1)) vs) (.inr k)=some v/\Rep K H d v
 |[],_,_,e=>by cases e
 |q::r,vs,t,e=>by
  rw[List.map_cons] at t;unfold Reps at t;obtain⟨v,vr,rfl,t1,t2⟩:=t;rw[List.map_cons,x_1];unfold s_4 at e
  by_cases hk:q.1=k
  ·rw[if_pos hk] at e
   cases e;exact⟨v,C_7 (by rw[hk]),t1⟩
  ·rw[if_neg hk] at e
   obtain⟨u,e1,e2⟩:=P_4 t2 e;exact⟨u,by rw[x_4 λ z=>hk (Sum.inr.inj z)];exact e1,e2⟩
theorem aG0 {k:Str}{d:D}{v:V} (rv:Rep K H d v):∀ {kds:List (Str×D)}{vs:List V},Reps K H (kds.map (·.2)) vs->∃ vs',(z_0 (kds.map (·.1)) vs).map (λ kv=>if kv.1=Sum.inr k then (kv.1,v) else kv)=z_0 ((ag4 k d kds).map (·.1)) vs'/\Reps K H ((ag4 k d kds).map (·.2)) vs'
 |[],vs,t=>⟨[],rfl,Reps.nil_⟩
 |q::r,vs,t=>by
  rw[List.map_cons] at t;unfold Reps at t;obtain⟨u,ur,rfl,t1,t2⟩:=t;obtain⟨vs',e1,e2⟩:=aG0 rv t2;unfold ag4;rw[List.map_cons,x_1,List.map_cons,e1]
  by_cases hk:q.1=k
  ·refine⟨v::vs',?_,?_⟩
   ·rw[if_pos (show (Sum.inr q.1:Key)=Sum.inr k by rw[hk]),if_pos hk];rfl
   ·rw[if_pos hk];exact Reps.cons rv e2
  ·refine⟨u::vs',?_,?_⟩
   ·rw[if_neg (show ¬ (Sum.inr q.1:Key)=Sum.inr k from λ z=>hk (Sum.inr.inj z)),if_neg hk];rfl
   ·rw[if_neg hk];exact Reps.cons t1 e2
theorem ba4 {k:Str}{d d0:D}{v:V}{kds:List (Str×D)}{vs:List V} (rv:Rep K H d v) (t:Reps K H (kds.map (·.2)) vs) (h:s_4 k kds=some d0) :
  ∃ vs',H_1 (z_0 (kds.map (·.1)) vs) (.inr k) v=z_0 ((ag4 k d kds).map (·.1)) vs'/\Reps K H ((ag4 k d kds).map (·.2)) vs':=by
 obtain⟨u,e,_⟩:=P_4 t h;obtain⟨vs',e1,e2⟩:=aG0 (k:=k) rv t;refine⟨vs',?_,e2⟩;unfold H_1;rw[x_5,e,if_pos (show (some u).isSome=true from rfl)];exact e1
end
theorem aF7 {o:Option Sl}{q:Bool×List (Str×D)} (h:owD o=some q):o=some (.ow q.1 (.dic q.2)):=by
 unfold owD at h
 split at h
 ·cases h;rfl
 ·cases h
theorem R_3 {o:Option Sl}{q:Bool×MO} (h:owO o=some q):o=some (.ow q.1 q.2):=by
 unfold owO at h
 split at h
 ·cases h;rfl
 ·cases h
section
variable {X:Cx}{pos:Pos}{e:Expr}{F:FE}{A:FA}
theorem xdg (i:Nat) {x k:Str}{j:Nat}{p p2:Pos} (hu:X.A.units+1<cLine) (hN:X.N[i]?=some x:=by rfl) (hv:Vis X.env.scope x:=by first | exact Or.inl rfl | exact Or.inr (Or.inl rfl) | exact Or.inr (Or.inr rfl)) (hd:(x==("__debug__":Str))=false:=by decide)
  (hcd:(x==("__classdict__":Str))=false:=by decide):XE X (.Subscript (.Name x p) (.Constant (.str k) j p2) pos) (eDG i k) :=
 PE.wk (am5 hu (E_3 hN hv hd hcd) ab9 (λ _ _=>rfl)) λ σ H Q hh0_=>by
  obtain⟨c,H0,ρ,d,ρ',R,f,q⟩:=hh0_;unfold eDG at f;obtain⟨⟨b,kds⟩,h1,f⟩:=a_2 f;obtain⟨d',h2,f⟩:=a_2 f;have f':some (d',ρ)=some (d,ρ'):=f;cases f';obtain⟨a,e1,e2,e3,ks,vs,e4,rfl,r⟩:=R.ow i b _ (aF7 h1);obtain⟨v,w1,w2⟩:=P_4 r h2;refine⟨_,e1,a,v,rfl,?_,q v H0 H (Same.refl _) R w2⟩;rw[<- w1];exact DGet.k (k:=.inr k) e4
theorem bt3 {n:Nat} (h:n<100):n<sizeLine:=D_8 (by omega)
theorem ax0 {K:Frag}{H:Hp}{kds:List (Str×D)}{vs:List V} (t:Reps K H (kds.map (·.2)) vs):(z_0 (kds.map (·.1)) vs).length=kds.length:=by
 have hl:=t.length;rw[List.length_map] at hl;unfold z_0;rw[List.length_zip,List.length_map,List.length_map,<- hl,Nat.min_self]
theorem xdp (i:Nat) {x k:Str}{j:Nat}{p p2 p3:Pos} (hu:X.A.units+1<cLine) (he:XE X e F) (hN:X.N[i]?=some x:=by rfl) (hv:Vis X.env.scope x:=by first | exact Or.inl rfl | exact Or.inr (Or.inl rfl) | exact Or.inr (Or.inr rfl)) (hd:(x==("__debug__":Str))=false:=by decide)
  (hcd:(x==("__classdict__":Str))=false:=by decide) (hs:swapsWith e (some (.Subscript (.Name x p) (.Constant (.str k) j p2) p3)) pos.line X.env=pure false:=by rfl) :
  XS X (.Assign [.Subscript (.Name x p) (.Constant (.str k) j p2) p3] e pos) (sDP i k F) :=
 PS.wk (aL7 hu (E_3 hN hv hd hcd) ab9 he hs) λ Dn σ H hh0_=>by
  obtain⟨c,H0,ρ,r,R,f,q⟩:=hh0_;unfold sDP at f;obtain⟨⟨d,ρ1⟩,h1,f⟩:=a_2 f;obtain⟨⟨b,kds⟩,h2,f⟩:=a_2 f;obtain⟨d0,h3,f⟩:=a_2 f;obtain⟨h4,rfl⟩:=ifs f;refine⟨c,H0,ρ,d,ρ1,R,h1,λ v H1 Hh s1 R1 r1=>?_⟩
  have z:=aF7 h2;obtain⟨a,e1,e2,e3,ks,vs,e4,rfl,t⟩:=R1.ow i b _ z;obtain⟨vs',w1,w2⟩:=ba4 r1 t h3;refine⟨_,e1,a,_,rfl,DPut.k (k:=.inr k) e4 (by have:=ax0 t;unfold z_0 at this;rw[this];exact bt3 h4),?_⟩
  exact q σ H1 _ s1 (R1.mutOwn z e1 ⟨_,vs',by rw[a_7];exact congrArg (λ y=>some (HO.dK y)) w1,rfl,w2⟩)
def spB (K:Frag) (g:MO->List D->Option (D×MO)):Sp:=λ vs H Q _=>∃ Hi a o vr ds d o',vs=.ref a::vr/\Same Hi H/\Hi a=none/\OwOk K Hi H a o/\Reps K Hi ds vr/\g o ds=some (d,o') /\
 ∀ v Hi' H',Same Hi Hi'->Same Hi' H'->(∀ b u,H b=some u->b≠a->H' b=some u)->(∀ b u,Hi' b=some u->Hi b=some u\/H b=none)->OwOk K Hi' H' a o'->Rep K Hi' d v->Q v H'
structure DefB (P:Program) (w:World) (K:Frag) (mg:Str->Option Value) (base:Heap) (k:Nat) (x:Str) (g:MO->List D->Option (D×MO)):Prop where
 ex:∃ f fd ps,FnOk P w K mg base CX0 k f fd ps (spB K g)/\Binds K fd ps []/\keepIn K (.ref f)=true/\mg x=some (.ref f)
theorem xFb (i:Nat) {k:Nat}{x y:Str}{g:MO->List D->Option (D×MO)}{p py pos:Pos}{es:List Expr} (G:DefB X.prog X.w X.K X.mg X.base k x g) (hr:Room k X.A) (ha:XA X es A) (hN:X.N[i]?=some y:=by rfl) (hg:Gl X x:=by rfl)
  (hv:Vis X.env.scope y:=by first | exact Or.inl rfl | exact Or.inr (Or.inl rfl) | exact Or.inr (Or.inr rfl)) (hdb:(x==("__debug__":Str))=false:=by decide) (hd:(y==("__debug__":Str))=false:=by decide) (hcd:(y==("__classdict__":Str))=false:=by decide)
  (hpl:(backTo pos (starEach es X.env)).any (·.1)=false:=by rfl):XE X (.Call (.Name x p) (.Name y py::es) [] pos) (eFb i g A):=by
 obtain⟨f,fd,ps,F,hb,hk,hm⟩:=G.ex;refine PE.wk (W_8 F hr hg hm hk hb .nil aM7 (z_6 (E_3 hN hv hd hcd) ha rfl) hdb rfl hpl) λ σ H Q hh0_=>?_
 obtain⟨c,H0,ρ,d,ρ',R,z,q⟩:=hh0_;unfold eFb at z;obtain⟨⟨b0,o0⟩,h0,z⟩:=a_2 z;obtain⟨⟨ds,ρ1⟩,h1,z⟩:=a_2 z;obtain⟨⟨b,o⟩,h2,z⟩:=a_2 z;obtain⟨⟨d',o'⟩,h3,z⟩:=a_2 z;have z':some (d',ρ1.set i (.ow b o'))=some (d,ρ'):=z;cases z';obtain⟨a,e1,_⟩:=R.ow i b0 o0 (R_3 h0);refine⟨_,e1,c,H0,ρ,ds,ρ1,R,h1,λ vs H1 Hh s1 R1 r1=>?_⟩
 have y2:=R_3 h2;obtain⟨a',e1',e2',e3',w'⟩:=R1.ow i b o y2;rw[e1] at e1';cases e1';refine⟨H1,a,o,vs,ds,d,o',by rw[List.append_nil],R1.same,e2',w',r1,h3,λ v Hi' H' s2 s3 kp fr ok rv=>?_⟩
 exact q v Hi' H' (s1.trans s2) (R1.lent y2 e1 s2 s3 kp fr ok) rv
end
theorem RS.startB {K:Frag}{Hi H:Hp}{ds:List D}{vs:List V}{a:Addr}{o:MO}{m n:Nat} (s:Same Hi H) (h0:Hi a=none) (ok:OwOk K Hi H a o) (r:Reps K Hi ds vs) (hn:n-(vs.length+1)=m) :
  RS K ⟨Hi,H,[a]⟩ Hi H (.ow true o::(ds.map .im++List.replicate m .no)) (some (.ref a)::(vs.map some++List.replicate (n-(vs.length+1)) none)):=by
 have R:=RS.start (n:=n-1) (m:=m) s r (by omega)
 have hnn:n-1-vs.length=n-(vs.length+1):=by omega
 rw[hnn] at R
 have now:∀ (i:Nat) (b:Bool) (o:MO),¬ (ds.map Sl.im++List.replicate m Sl.no)[i]?=some (.ow b o):=λ i b o e=>by
  by_cases hi:i<ds.length
  ·rw[List.getElem?_append_left (by simpa using hi),List.getElem?_map] at e
   cases z:ds[i]? with
   |none=>rw[z] at e;cases e
   |some d'=>rw[z] at e;cases e
  ·rw[List.getElem?_append_right (by simpa using Nat.le_of_not_lt hi),List.getElem?_replicate] at e
   split at e <;> cases e
 refine⟨s,Same.refl _,λ b o e=>.inl e,λ b o e _=>e,λ b hb e=>?_,?_,λ i d e=>?_,λ i b o' e=>?_,λ i j b b' o1 o2 x e1 e2 e3 e4=>?_⟩
 ·obtain⟨u,hu⟩:=ok.some
  have:b=a:=by simpa using hb
  have e:H b=none:=e;rw[this,hu] at e;cases e
 ·rw[List.length_cons,List.length_cons,R.len]
 ·cases i with
  |zero=>cases e
  |succ i=>exact R.im i d e
 ·cases i with
  |zero =>
   have e':Sl.ow true o=Sl.ow b o':=qh e;cases e';exact⟨a,rfl,h0,by rw[if_pos rfl];exact List.mem_singleton.mpr rfl,ok⟩
  |succ i=>exact absurd e (now i b o')
 ·cases i with
  |zero =>
   cases j with
   |zero=>rfl
   |succ j=>exact absurd e2 (now j _ _)
  |succ i=>exact absurd e1 (now i _ _)
theorem t_4 {P:Program}{w:World}{K:Frag}{mg:Str->Option Value}{base:Heap}{x qual:Str}{st:Stmt}{f:Addr}{fd:FuncData}{N ps:List Str}{k n m:Nat}{B:FS} (F:Fun K x qual st f fd) (S:FnScope N ps (a_0 st)) (hn:ps.length=n+1) (hN:N.length=n+1+m)
  (hb:∀ (cdv:Value) (A:Around) (outer:List Env) (s:Shared) (H:Hp) (E:XK),Room k (A.deeper (envOfC qual (a_0 st) s.heap.objs.size f cdv))->XSs (aC7 CX0 P w K mg base N qual (a_0 st) f cdv A outer s H E).nox (b_0 st) B) :
  FnOk P w K mg base CX0 (k+1) f fd ps (spB K (fnB n m B)):=by
 have inv:∀ {o:MO}{ds:List D}{z:D×MO},fnB n m B o ds=some z->ds.length=n/\∃ r,B (.ow true o::(ds.map .im++List.replicate m .no))=some r/\bq9 r=some z:=λ {o ds z} h=>by
  unfold fnB at h
  split at h
  ·rename_i hl
   obtain⟨r,h1,h2⟩:=a_2 h;exact⟨hl,r,h1,h2⟩
  ·cases h
 have fin:∀ {Hi H H0' H':Hp}{a:Addr}{o':MO}{ρ':En}{σ':L2.St},RS K ⟨Hi,H,[a]⟩ H0' H' ρ' σ'->ρ'[0]?=some (.ow true o')->Same Hi H0'/\Same H0' H'/\(∀ b u,H b=some u->b≠a->H' b=some u)/\(∀ b u,H0' b=some u->Hi b=some u\/H b=none)/\OwOk K H0' H' a o' :=
  λ {Hi H H0' H' a o' ρ' σ'} R e=>by
   obtain⟨a',_,_,z,ok⟩:=R.ow 0 true o' e;rw[if_pos rfl] at z;have za:a'=a:=by simpa using z
   subst za;exact⟨R.init,R.same,λ b u h n=>R.keep b u h (by simpa using n),R.fresh,ok⟩
 refine F.ok S (λ vs H Q E h=>?_) (λ cdv A outer s H vs Q E hr h=>?_)
 ·obtain⟨Hi,a,o,vr,ds,d,o',rfl,_,_,_,r,e,_⟩:=h
  rw[hn,List.length_cons,<- r.length,(inv e).1]
 ·obtain⟨Hi,a,o,vr,ds,d,o',rfl,hs,h0,ok,r,e,q⟩:=h
  obtain⟨hl,res,h1,h2⟩:=inv e;have hlen:=r.length;have R:=RS.startB (n:=N.length) (m:=m) hs h0 ok r (by omega)
  refine⟨_,hb cdv A outer s H E hr,⟨Hi,H,[a]⟩,Hi,_,res,R,h1,?_⟩;cases res with
  |nx ρ' =>
   obtain⟨⟨b,oo⟩,z1,z2⟩:=a_2 (show bnd (owO ρ'[0]?) (λ q=>if q.1=true then some (D.non,q.2) else none)=some (d,o') from h2)
   obtain⟨hbt,z3⟩:=ifs z2;cases z3;have hbt:b=true:=hbt;subst hbt;exact λ σ' H0' H' s0 R=>let ⟨x1,x2,x3,x4,x5⟩:=fin R (R_3 z1);q .non H0' H' x1 x2 x3 x4 x5 (by unfold Rep;rfl)
  |rt d' ρ' =>
   obtain⟨⟨b,oo⟩,z1,z2⟩:=a_2 (show bnd (owO ρ'[0]?) (λ q=>if q.1=true then some (d',q.2) else none)=some (d,o') from h2)
   obtain⟨hbt,z3⟩:=ifs z2;cases z3;have hbt:b=true:=hbt;subst hbt;exact λ v σ' H0' H' s0 R rv=>let ⟨x1,x2,x3,x4,x5⟩:=fin R (R_3 z1);q v H0' H' x1 x2 x3 x4 x5 rv
  |bk ρ'=>cases h2
  |ct ρ'=>cases h2
def aU4 (K:Frag) (Hi H:Hp) (o:MO) (a:Addr) (Hi' H':Hp):Prop :=
 Same Hi Hi'/\Same Hi' H'/\Same H H'/\(∀ b u,Hi' b=some u->Hi b=some u\/H b=none)/\Hi' a=none/\H a=none/\OwOk K Hi' H' a o
def spN (K:Frag) (g:List D->Option MO):Sp:=λ vs H Q _=>∃ Hi ds o,Same Hi H/\Reps K Hi ds vs/\g ds=some o/\∀ a Hi' H',aU4 K Hi H o a Hi' H'->Q (.ref a) H'
structure DefN (P:Program) (w:World) (K:Frag) (mg:Str->Option Value) (base:Heap) (k:Nat) (x:Str) (g:List D->Option MO):Prop where
 ex:∃ f fd ps,FnOk P w K mg base CX0 k f fd ps (spN K g)/\Binds K fd ps []/\keepIn K (.ref f)=true/\mg x=some (.ref f)
theorem RS.got {K:Frag}{c:FC}{H0 H H0' H':Hp}{ρ:En}{σ:L2.St}{a:Addr}{o:MO} (R:RS K c H0 H ρ σ) (i:Nat) (h:aU4 K H0 H o a H0' H'):RS K c H0' H' (ρ.set i (.ow false o)) (σ.set i (some (.ref a))):=by
 obtain⟨s0,s',s,fr,a0,aH,ok⟩:=h;obtain⟨u,hu⟩:=ok.some
 have R2:RS K c H0' (λ b=>if b=a then none else H' b) ρ σ:=R.after ⟨s0,λ b v e=>by
  have:b≠a:=λ z=>by rw[z,aH] at e;cases e
  show (if b=a then none else H' b)=some v
  rw[if_neg this];exact s b v e,λ b v e=>by
  have:b≠a:=λ z=>by rw[z,a0] at e;cases e
  show (if b=a then none else H' b)=some v;rw[if_neg this];exact s' b v e,fr⟩
 have hup:upd (λ b=>if b=a then none else H' b) a u=H':=by
  funext b
  by_cases hb:b=a
  ·rw[hb,a_7,hu]
  ·rw[b_6 hb];exact if_neg hb
 have:=R2.setOwn (u:=u) (o:=o) (p:=a) i (if_pos rfl) (by rw[hup];exact ok)
 rw[hup] at this;exact this
section
variable {X:Cx}{pos:Pos}{e:Expr}{F:FE}{A:FA}
theorem bH3 (i:Nat) {k:Nat}{x y:Str}{g:List D->Option MO}{p pos' cpos:Pos}{es:List Expr} (hN:X.N.Nodup) (G:DefN X.prog X.w X.K X.mg X.base k x g) (hr:Room k X.A) (ha:XA X (e::es) A) (hi:X.N[i]?=some y:=by rfl) (hx:Loc X.env.scope y:=by first | exact Or.inl rfl | exact Or.inr rfl)
  (hs:swapsWith (.Call (.Name x p) (e::es) [] cpos) (some (.Name y pos')) pos.line X.env=pure false:=by rfl) (hf:X.fn y=true\/X.env.scope.names.lookup y=some .local:=by first | exact .inl rfl | exact .inr rfl)
  (hg:Gl X x:=by rfl) (hdb:(x==("__debug__":Str))=false:=by decide) (he:starEach (e::es) X.env=(false,eval e X.env)::starEach es X.env:=by rfl) (hpl:(backTo cpos (starEach es X.env)).any (·.1)=false:=by rfl) :
  XS X (.Assign [.Name y pos'] (.Call (.Name x p) (e::es) [] cpos) pos) (bk3 i g A):=by
 obtain⟨f,fd,ps,F,hb,hk,hm⟩:=G.ex;refine PS.wk (am0 hN hi hx (W_8 F hr hg hm hk hb .nil aM7 ha hdb he hpl) hs hf) λ Dn σ H hh0_=>?_
 obtain⟨c,H0,ρ,r,R,f,q⟩:=hh0_;unfold bk3 at f;obtain⟨⟨ds,ρ1⟩,h1,f⟩:=a_2 f;obtain⟨o,h2,f⟩:=a_2 f;have f':some (Res.nx (ρ1.set i (.ow false o)))=some r:=f;cases f';exact⟨c,H0,ρ,ds,ρ1,R,h1,λ vs H1 Hh s1 R1 r1=>⟨H1,ds,o,R1.same,by rw[List.append_nil];exact r1,h2,λ a Hi' H' nw=>q _ Hi' H' (s1.trans nw.1) (R1.got i nw)⟩⟩
def tN (K:Frag) (F:En->Option MO):TS:=λ Dn σ H=>∃ Hi He H0 ρ o,RS K ⟨Hi,He,[]⟩ H0 H ρ σ/\F ρ=some o/\∀ a H0' H',aU4 K Hi He o a H0' H'->Dn.rt (.ref a) H'
def XN (X:Cx) (sts:List Stmt) (F:En->Option MO):Prop:=PSs X sts (tN X.K F)
theorem xnC {st:Stmt}{rest:List Stmt}{B:FS}{N:En->Option MO} (h1:PS X st (λ Dn σ H=>∃ Hi He H0 ρ r,RS X.K ⟨Hi,He,[]⟩ H0 H ρ σ/\B ρ=some r/\Post X.K ⟨Hi,He,[]⟩ Dn H0 r)) (h2:XN X rest N):XN X (st::rest) (bl0 B N) :=
 PSs.wk (ab8 h1 h2) λ Dn σ H hh0_=>by
  obtain⟨Hi,He,H0,ρ,o,R,f,q⟩:=hh0_;unfold bl0 at f;obtain⟨z,h,f⟩:=a_2 f;refine⟨Hi,He,H0,ρ,z,R,h,?_⟩;cases z with
  |nx ρ1=>exact λ σ' H0' H' s R'=>⟨Hi,He,H0',ρ1,o,R',f,q⟩
  |rt d ρ1=>cases f
  |bk ρ1=>cases f
  |ct ρ1=>cases f
theorem xnS {st:Stmt}{B:FS} (h:XS X st B):PS X st (λ Dn σ H=>∃ Hi He H0 ρ r,RS X.K ⟨Hi,He,[]⟩ H0 H ρ σ/\B ρ=some r/\Post X.K ⟨Hi,He,[]⟩ Dn H0 r) :=
 PS.wk h λ Dn σ H ⟨Hi,He,H0,ρ,r,R,f,q⟩=>⟨⟨Hi,He,[]⟩,H0,ρ,r,R,f,q⟩
def XPs (X:Cx) (pos:Pos) (ks:List Str) (keys:List (Option Expr)) (values:List Expr) (A:FA):Prop:=∃ trs,PPs X pos keys values trs/\ks.length=keys.length/\keys.length=values.length/\keys.all (·.isSome)=true /\
 ∀ (c:FC) (H0 H:Hp) (ρ ρ':En) (ds:List D) (σ:L2.St) (Q:List (V×V)->Hp->Prop),RS X.K c H0 H ρ σ->A ρ=some (ds,ρ')->(∀ vs H0' H',Same H0 H0'->RS X.K c H0' H' ρ' σ->Reps X.K H0' ds vs->Q ((ks.map V.str).zip vs) H')->ab2 trs σ H Q
theorem xp0:XPs X pos [] [] [] aN:=⟨[],aL8,rfl,rfl,rfl,λ c H0 H ρ ρ' ds σ Q R f q=>by
 have f':some (([]:List D),ρ)=some (ds,ρ'):=f;cases f';exact q [] H0 H (Same.refl _) R Reps.nil_⟩
theorem xpC {k:Str}{ks:List Str}{keys:List (Option Expr)}{values:List Expr}{j:Nat}{p2:Pos} (he:XE X e F) (hr:XPs X pos ks keys values A):XPs X pos (k::ks) (some (.Constant (.str k) j p2)::keys) (e::values) (aC F A):=by
 obtain⟨trs,h1,h2,h3,h4,h5⟩:=hr;refine⟨(tC (.str k),tE X.K F)::trs,az5 ab9 he h1,by rw[List.length_cons,List.length_cons,h2],by rw[List.length_cons,List.length_cons,h3],by rw[List.all_cons,h4];rfl,λ c H0 H ρ ρ' ds σ Q R f q=>?_⟩
 unfold aC at f;obtain⟨⟨d,ρ1⟩,g1,f⟩:=a_2 f;obtain⟨⟨r,ρ2⟩,g2,f⟩:=a_2 f;have f':some (d::r,ρ2)=some (ds,ρ'):=f;cases f';refine⟨c,H0,ρ,d,ρ1,R,g1,λ v H1 Hh s1 R1 r1=>?_⟩
 exact h5 c H1 Hh ρ1 _ r σ _ R1 g2 λ vs H2 Hh2 s2 R2 r2=>q (v::vs) H2 Hh2 (s1.trans s2) R2 (Reps.cons (Rep.mono s2 d r1) r2)
theorem ac9:∀ (more kvs:List (Key×V)),((kvs++more).map (·.1)).Nodup->B_2 kvs more=kvs++more
 |[],kvs,_=>by rw[List.append_nil];rfl
 |p::r,kvs,h=>by
  have hn:K_8 kvs p.1=none:=by
   cases q:K_8 kvs p.1 with
   |none=>rfl
   |some v =>
    have hm:=aI7 q;rw[List.map_append,List.map_cons,List.nodup_append] at h;exact absurd rfl (h.2.2 _ hm _ (List.mem_cons_self ..))
  show B_2 (H_1 kvs p.1 p.2) r=_;rw[az1 p.2 hn,ac9 r _ (by simpa using h)]
  simp
theorem ak1:∀ (ks:List Str) (vs:List V),(ks.map V.str).zip vs=(z_0 ks vs).map λ kv=>(kV kv.1,kv.2)
 |[],_=>rfl
 |_::_,[]=>rfl
 |k::ks,v::vs=>by
  rw[x_1,List.map_cons,List.map_cons,List.zip_cons_cons,ak1 ks vs];rfl
theorem RS.fence {K:Frag}{c:FC}{H0 H:Hp}{ρ:En}{σ:L2.St}{p:Addr}{u:HO} (R:RS K c H0 H ρ σ) (no:ρ.all ao2=true) (hp:H p=none):RS K ⟨H0,upd H p u,[]⟩ H0 (upd H p u) ρ σ:=by
 have now:∀ (i:Nat) (b:Bool) (o:MO),¬ ρ[i]?=some (.ow b o):=λ i b o e=>by
  have:=List.all_eq_true.mp no _ (List.mem_of_getElem? e);cases this
 refine⟨λ b v e=>?_,Same.refl _,λ b o e=>.inl e,λ b o e _=>e,λ a h=>(by cases h),R.len,R.im,λ i b o e=>absurd e (now i b o),λ i j b b' o o' a e=>absurd e (now i b o)⟩
 have:b≠p:=λ z=>by rw[z,R.same.free hp] at e;cases e
 rw[b_6 this];exact R.same b v e
theorem xn1 {ks:List Str}{keys:List (Option Expr)}{values:List Expr}{rpos:Pos} (h:XPs X pos ks keys values A) (h0:keys≠[]:=by simp) (h15:keys.length<=15:=by simp):XN X [.Return (some (.Dict keys values pos)) rpos] (bl1 ks A):=by
 obtain⟨trs,h1,h2,h3,h4,h5⟩:=h;refine PSs.wk (al9 (aF5 (aM5 h1 h4 h3 h0 h15))) λ Dn σ H hh0_=>?_
 obtain⟨Hi,He,H0,ρ,o,R,f,q⟩:=hh0_;unfold bl1 at f
 by_cases no:ρ.all ao2=true
 ·rw[if_pos no] at f
  obtain⟨⟨ds,ρ1⟩,g1,f⟩:=a_2 f;obtain⟨⟨l1,l2,l3⟩,rfl⟩:=ifs f;have l1:ds.length=ks.length:=l1;show ∀ p,H p=none->_;intro p hp;refine h5 _ H0 _ ρ ρ1 ds σ _ (R.fence no hp) g1 λ vs H1 Hh s1 R1 r1=>?_
  have hl:=r1.length;have kp:Hh p=some (.dK []):=R1.keep p _ a_7 (by simp)
  refine⟨kp,z_0 ks vs,?_,?_,?_⟩
  ·exact ak1 ks vs
  ·unfold z_0;rw[List.length_zip,List.length_map];omega
  ·have nd:B_2 [] (z_0 ks vs)=z_0 ks vs:=by
    rw[ac9]
    ·rfl
    ·rw[List.nil_append]
     unfold z_0;rw[List.map_fst_zip (by rw[List.length_map];omega)]
     exact List.pairwise_map.mpr (l3.imp λ hab z=>hab (Sum.inr.inj z))
   rw[nd];have S1:=R.step;have S2:=R1.step
   have p1:H1 p=none:=by
    cases z:H1 p with
    |none=>rfl
    |some v =>
     rcases S2.fr p v z with y | y
     ·rw[R.same.free hp] at y;cases y
     ·rw[a_7] at y;cases y
   refine q p H1 _ ⟨S1.s0.trans S2.s0,λ b v e=>?_,λ b v e=>?_,λ b v e=>?_,p1,S1.s.free hp,?_⟩
   ·have:b≠p:=λ z=>by rw[z,p1] at e;cases e
    rw[b_6 this];exact S2.s' b v e
   ·have e1:=S1.s b v e
    have:b≠p:=λ z=>by rw[z,hp] at e1;cases e1
    rw[b_6 this];exact S2.s b v (by rw[b_6 this];exact e1)
   ·rcases S2.fr b v e with y | y
    ·exact S1.fr b v y
    ·have:b≠p:=λ z=>by rw[z,a_7] at y;cases y
     rw[b_6 this] at y;exact .inr (S1.s.free y)
   ·have e1:(ks.zip ds).map (·.1)=ks:=List.map_fst_zip (by omega)
    have e2:(ks.zip ds).map (·.2)=ds:=List.map_snd_zip (by omega)
    exact⟨ks,vs,by rw[a_7];rfl,e1.symm,by rw[e2];exact r1⟩
 ·rw[if_neg no] at f;cases f
end
theorem bg0 {P:Program}{w:World}{K:Frag}{mg:Str->Option Value}{base:Heap}{x qual:Str}{st:Stmt}{f:Addr}{fd:FuncData}{N ps:List Str}{k n m:Nat}{B:En->Option MO} (F:Fun K x qual st f fd) (S:FnScope N ps (a_0 st)) (hn:ps.length=n) (hN:N.length=n+m)
  (hb:∀ (cdv:Value) (A:Around) (outer:List Env) (s:Shared) (H:Hp) (E:XK),Room k (A.deeper (envOfC qual (a_0 st) s.heap.objs.size f cdv))->XN (aC7 CX0 P w K mg base N qual (a_0 st) f cdv A outer s H E).nox (b_0 st) B) :
  FnOk P w K mg base CX0 (k+1) f fd ps (spN K (fnN n m B)):=by
 refine F.ok S (λ vs H Q E h=>?_) (λ cdv A outer s H vs Q E hr h=>?_)
 ·obtain⟨Hi,ds,o,_,r,e,_⟩:=h
  unfold fnN at e
  split at e
  ·rename_i hl;rw[hn,<- r.length];exact hl
  ·cases e
 ·obtain⟨Hi,ds,o,hs,r,e,q⟩:=h
  unfold fnN at e
  split at e
  ·rename_i hl
   exact⟨_,hb cdv A outer s H E hr,Hi,H,Hi,_,o,RS.start (n:=N.length) (m:=m) hs r (by rw[<- r.length];omega),e,q⟩
  ·cases e
end Fx
namespace Fx
open PySem
def aT3:D->Option Int->Option Int->Option D
 |.lst xs,lo,hi=>some (.lst (aI1 xs lo hi))
 |.tup xs,lo,hi=>if ae8 xs.length 0 lo=0/\ae8 xs.length xs.length hi=xs.length then none else some (.tup (aI1 xs lo hi))
 |.str z,lo,hi=>if z.length<=sizeLine then some (.str (Txt.slice z lo hi)) else none
 |_,_,_=>none
def aj8 (F:FE) (lo hi:FO) (ρ:En):Option (D×En):=bnd (F ρ) λ p=>bnd (lo p.2) λ l=>bnd (hi l.2) λ h=>bnd (aT3 p.1 l.1 h.1) λ d=>some (d,h.2)
def inS (x z:Str):Bool:=!(Builtin.Str.occurrences z x 0 z.length 1).isEmpty
def aC3:D->D->Option D
 |x,.tup xs=>if D_0 x xs=true then some (.bl (inD x xs)) else none
 |x,.lst xs=>if D_0 x xs=true then some (.bl (inD x xs)) else none
 |.str x,.str z=>some (.bl (inS x z))
 |_,_=>none
def u_3:D->D->Option D
 |x,.tup xs=>if D_0 x xs=true then some (.bl (!inD x xs)) else none
 |x,.lst xs=>if D_0 x xs=true then some (.bl (!inD x xs)) else none
 |.str x,.str z=>some (.bl (!inS x z))
 |_,_=>none
def bh1 (x:D) (l:Option Int) (o:Option (Option Int×En)):Option (D×En):=bnd o λ h=>bnd (aT3 x l h.1) λ d=>some (d,h.2)
def bh2 (hi:FO) (x:D) (o:Option (Option Int×En)):Option (D×En):=bnd o λ l=>bnd (hi l.2) λ h=>bnd (aT3 x l.1 h.1) λ d=>some (d,h.2)
def bh3 (lo hi:FO) (o:Option (D×En)):Option (D×En):=bnd o λ p=>bnd (lo p.2) λ l=>bnd (hi l.2) λ h=>bnd (aT3 p.1 l.1 h.1) λ d=>some (d,h.2)
@[simp] theorem bM6 (F:FE) (lo hi:FO) (ρ:En):aj8 F lo hi ρ=bh3 lo hi (F ρ):=Eq.trans rfl rfl
@[simp] theorem bv7 (lo hi:FO) (x:D) (ρ:En):bh3 lo hi (some (x,ρ))=bh2 hi x (lo ρ):=Eq.trans rfl rfl
@[simp] theorem bv6 (hi:FO) (x:D) (l:Option Int) (ρ:En):bh2 hi x (some (l,ρ))=bh1 x l (hi ρ):=Eq.trans rfl rfl
@[simp] theorem bv5 (x:D) (l h:Option Int) (ρ:En):bh1 x l (some (h,ρ))=mkP (aT3 x l h) ρ:=Eq.trans rfl rfl
@[simp] theorem bF6 (xs:List D) (lo hi:Option Int):aT3 (.tup xs) lo hi=if ae8 xs.length 0 lo=0/\ae8 xs.length xs.length hi=xs.length then none else some (.tup (aI1 xs lo hi)):=Eq.trans rfl rfl
@[simp] theorem bF7 (z:Str) (lo hi:Option Int):aT3 (.str z) lo hi=if z.length<=sizeLine then some (.str (Txt.slice z lo hi)) else none:=Eq.trans rfl rfl
@[simp] theorem bj0 (x:D) (xs:List D):aC3 x (.tup xs)=if D_0 x xs=true then some (.bl (inD x xs)) else none:=by cases x <;> rfl
@[simp] theorem bj1 (x:D) (xs:List D):aC3 x (.lst xs)=if D_0 x xs=true then some (.bl (inD x xs)) else none:=by cases x <;> rfl
@[simp] theorem au5 (x:D) (xs:List D):u_3 x (.tup xs)=if D_0 x xs=true then some (.bl (!inD x xs)) else none:=by cases x <;> rfl
@[simp] theorem au6 (x:D) (xs:List D):u_3 x (.lst xs)=if D_0 x xs=true then some (.bl (!inD x xs)) else none:=by cases x <;> rfl
end Fx
namespace Fx
open PySem PySem.Spec PyProof.Rows L2
section
variable {X:Cx}{K:Frag}{pos:Pos}{e:Expr}{F:FE}
def bK1:V->Option Int->Option Int->Hp->VK->Prop:=λ x lo hi H Q=>∃ z,x=.str z/\z.length<=sizeLine/\Q (.str (Txt.slice z lo hi)) H
theorem bc2 {v:Value}{o:Option Int} (p:IsPart v o):∃ l:Option (Int×Tok),v=partValue l/\l.map (·.1)=o:=by
 cases p with
 |none=>exact⟨none,rfl,rfl⟩
 |int i t=>exact⟨some (i,t),rfl,rfl⟩
theorem aY6:SlR X bK1:=by
 intro pins s σ H x v vl vu lo hi sl Q I rx hs pl pu h;obtain⟨z,rfl,hz,q⟩:=h;obtain⟨t,rfl⟩:=rx;obtain⟨l,rfl,rfl⟩:=bc2 pl;obtain⟨u,rfl,rfl⟩:=bc2 pu;refine⟨"str",_,slot_str_getitem.lookup,typeIs_str _ _ _,wpAny_getItem_str_slice (l:=l) (u:=u) (st:=none) hs rfl ?_⟩;exact post_val_or_str ⟨Nat.le_trans (Txt.slice_le z _ _) hz,λ t' k=>⟨.str (Txt.slice z (l.map (·.1)) (u.map (·.1))),H,I.tok _,⟨_,rfl⟩,q⟩⟩
theorem bm4 {lo hi:Option Expr}{A B:FO}{p2:Pos} (he:XE X e F) (hl:XO X lo A) (hh:XO X hi B):XE X (.Subscript e (.Slice lo hi none p2) pos) (aj8 F A B):=PE.wk (aA0 ((sl_list.or aY5).or aY6) he hl hh) λ σ H Q hh0_=>by
 obtain⟨c,H0,ρ,d,ρ',R,f,q⟩:=hh0_;unfold aj8 at f;obtain⟨⟨x,ρ1⟩,h1,f⟩:=a_2 f;obtain⟨⟨l,ρ2⟩,h2,f⟩:=a_2 f;obtain⟨⟨u,ρ3⟩,h3,f⟩:=a_2 f;obtain⟨d',h4,f⟩:=a_2 f;dsimp only at h2 h3 h4 f;have f':some (d',ρ3)=some (d,ρ'):=f;cases f';refine⟨c,H0,ρ,x,ρ1,R,h1,λ v H1 Hh s1 R1 r1=>?_⟩
 refine⟨c,H1,ρ1,l,ρ2,R1,h2,λ H2 Hh2 s2 R2=>?_⟩
 refine⟨c,H2,ρ2,u,_,R2,h3,λ H3 Hh3 s3 R3=>?_⟩
 have r3:=Rep.mono s3 x (Rep.mono s2 x r1);cases x with
 |lst ds =>
  have e:D.lst (aI1 ds l u)=d:=qh h4;subst e;unfold Rep at r3;obtain⟨p,vs,rfl,s,t⟩:=r3;refine .inl (.inl ⟨p,vs,rfl,Same.seq R3.same s,λ p' hp=>?_⟩)
  have S:=Step.alloc (o:=.lst (aw9 vs l u)) R3.same hp;refine q _ _ _ (s1.trans (s2.trans (s3.trans S.s0))) (R3.after S) ?_;unfold Rep;exact⟨p',_,rfl,.inl (.inl a_7),Reps.mono S.s0 _ (aI2 t l u)⟩
 |tup ds =>
  have h5:(if ae8 ds.length 0 l=0/\ae8 ds.length ds.length u=ds.length then none else some (D.tup (aI1 ds l u)))=some d:=h4
  by_cases hn:ae8 ds.length 0 l=0/\ae8 ds.length ds.length u=ds.length
  ·rw[if_pos hn] at h5;cases h5
  ·rw[if_neg hn] at h5
   cases h5;unfold Rep at r3;obtain⟨p,vs,rfl,s,t⟩:=r3;refine .inl (.inr ⟨p,vs,rfl,Same.seqT R3.same s,?_,λ p' hp=>?_⟩)
   ·rw[<- N_9,<- N_9,<- t.length];exact hn
   have S:=Step.alloc (o:=.tup (aw9 vs l u)) R3.same hp;refine q _ _ _ (s1.trans (s2.trans (s3.trans S.s0))) (R3.after S) ?_;unfold Rep;exact⟨p',_,rfl,.inl (.inl a_7),Reps.mono S.s0 _ (aI2 t l u)⟩
 |str z =>
  obtain⟨hz,rfl⟩:=ifs (c:=z.length<=sizeLine) h4;unfold Rep at r3;exact .inr ⟨z,r3,hz,q _ H3 Hh3 (s1.trans (s2.trans s3)) R3 (L_7 H3 _)⟩
 |_=>cases h4
theorem OpR.or {f:Value->Value->Sem Value}{r r':R2} (h:OpR X f r) (h':OpR X f r'):OpR X f (λ x y H Q=>r x y H Q\/r' x y H Q):=by
 intro pins s σ H x y v u Q I rx ry q
 rcases q with q | q
 ·exact h pins s σ H x y v u Q I rx ry q
 ·exact h' pins s σ H x y v u Q I rx ry q
theorem be9:OpD K (rIn K false) dIn:=aG9 λ x y d e=>by
 cases y with
 |tup xs=>obtain⟨h,rfl⟩:=ifs (c:=D_0 x xs=true) e;exact⟨xs,.inl rfl,h,rfl⟩
 |lst xs=>obtain⟨h,rfl⟩:=ifs (c:=D_0 x xs=true) e;exact⟨xs,.inr rfl,h,rfl⟩
 |_=>cases e
theorem ac3:OpD K (rIn K true) bi9:=aG9 λ x y d e=>by
 cases y with
 |tup xs=>obtain⟨h,rfl⟩:=ifs (c:=D_0 x xs=true) e;exact⟨xs,.inl rfl,h,rfl⟩
 |lst xs=>obtain⟨h,rfl⟩:=ifs (c:=D_0 x xs=true) e;exact⟨xs,.inr rfl,h,rfl⟩
 |_=>cases e
theorem bm0:x_0 X .In aC3:=⟨_,OpR.or am9 am8,λ c H0 H ρ σ x y d vx vy Q R r1 r2 e q=>by
 cases y with
 |tup xs=>rw[bj0] at e;exact .inl (be9 c H0 H ρ σ x (.tup xs) d vx vy Q R r1 r2 e q)
 |lst xs=>rw[bj1] at e;exact .inl (be9 c H0 H ρ σ x (.lst xs) d vx vy Q R r1 r2 e q)
 |str b =>
  cases x with
  |str a =>
   have e':some (D.bl (inS a b))=some d:=e;cases e';unfold Rep at r1 r2;subst r1 r2;exact .inr ⟨a,b,rfl,rfl,q _ H0 H (Same.refl _) R (v_8 _ _)⟩
  |_=>cases e
 |_=>cases x <;> cases e⟩
theorem aa4:x_0 X .NotIn u_3:=⟨_,OpR.or B_0 R_4,λ c H0 H ρ σ x y d vx vy Q R r1 r2 e q=>by
 cases y with
 |tup xs=>rw[au5] at e;exact .inl (ac3 c H0 H ρ σ x (.tup xs) d vx vy Q R r1 r2 e q)
 |lst xs=>rw[au6] at e;exact .inl (ac3 c H0 H ρ σ x (.lst xs) d vx vy Q R r1 r2 e q)
 |str b =>
  cases x with
  |str a =>
   have e':some (D.bl (!inS a b))=some d:=e;cases e';unfold Rep at r1 r2;subst r1 r2;exact .inr ⟨a,b,rfl,rfl,q _ H0 H (Same.refl _) R (v_8 _ _)⟩
  |_=>cases e
 |_=>cases x <;> cases e⟩
end
end Fx
namespace Fx
open PySem
def owT:Option Sl->Option MO
 |some (.ow true o)=>some o
 |_=>none
def aj7 (ρ:En) (i:Nat) (o:MO):List Nat->Option En
 |[]=>some []
 |j::js=>bnd (if j=i then some (.ow true o) else slI ρ[j]?) λ s=>bnd (aj7 ρ i o js) λ r=>some (s::r)
def aa5 (T:FT) (F:FE) (ρ:En) (i:Nat) (js:List Nat) (q:Nat):MO->List D->Option (List D×MO)
 |o,[]=>some ([],o)
 |o,d::r=>bnd (aj7 ρ i o js) λ fr=>bnd (T (.im d::fr)) λ p=>if p.1=true then bnd (F p.2) λ z=>bnd (owT z.2[q+1]?) λ o'=>bnd (aa5 T F ρ i js q o' r) λ t=>some (z.1::t.1,t.2)
   else bnd (owT p.2[q+1]?) λ o'=>aa5 T F ρ i js q o' r
theorem aD3 (T:FT) (F:FE) (ρ:En) (i:Nat) (js:List Nat) (q:Nat) (o:MO):aa5 T F ρ i js q o []=some ([],o):=rfl
theorem y_7 (T:FT) (F:FE) (ρ:En) (i:Nat) (js:List Nat) (q:Nat) (o:MO) (d:D) (r:List D):aa5 T F ρ i js q o (d::r)=bnd (aj7 ρ i o js) λ fr=>bnd (T (.im d::fr)) λ p=>if p.1=true then bnd (F p.2) λ z=>bnd (owT z.2[q+1]?) λ o'=>bnd (aa5 T F ρ i js q o' r) λ t=>some (z.1::t.1,t.2)
   else bnd (owT p.2[q+1]?) λ o'=>aa5 T F ρ i js q o' r:=rfl
def lcB (js:List Nat) (i q:Nat) (T:FT) (F:FE) (xs:List D) (ρ:En):Option (D×En):=bnd (owO ρ[i]?) λ w=>bnd (aa5 T F ρ i js q w.2 xs) λ t=>if xs.length<=sizeLine/\js[q]?=some i/\js.Nodup then some (.lst t.1,ρ.set i (.ow w.1 t.2)) else none
def aH7 (js:List Nat) (i q:Nat) (I:FE) (T:FT) (F:FE) (ρ:En):Option (D×En):=bnd (I ρ) λ p=>bnd (items p.1) λ xs=>lcB js i q T F xs p.2
end Fx
namespace Fx
open PySem PySem.Spec PyProof.Rows L2
theorem bc3 {s:Option Sl}{o:MO} (h:owT s=some o):s=some (.ow true o):=by
 unfold owT at h
 split at h
 ·cases h;rfl
 ·cases h
theorem ae2 {ρ:En}{i:Nat}{o:MO}:∀ {js:List Nat}{fr:En},aj7 ρ i o js=some fr->fr.length=js.length/\∀ (k:Nat) (s:Sl),fr[k]?=some s->∃ j,js[k]?=some j/\((j=i/\s=.ow true o)\/∃ d,ρ[j]?=some (.im d)/\s=.im d)
 |[],_,h=>by
  have h':([]:En)=_:=qh h;subst h';exact⟨rfl,λ k s e=>by simp at e⟩
 |j::js,_,h=>by
  unfold aj7 at h;obtain⟨s,h1,h⟩:=a_2 h;obtain⟨r,h2,h⟩:=a_2 h;cases h;obtain⟨a,b⟩:=ae2 h2;refine⟨by rw[List.length_cons,List.length_cons,a],λ k s' e=>?_⟩
  cases k with
  |zero =>
   simp at e;subst e;refine⟨j,rfl,?_⟩
   by_cases hj:j=i
   ·rw[if_pos hj] at h1;cases h1;exact .inl ⟨hj,rfl⟩
   ·rw[if_neg hj] at h1
    cases z:ρ[j]? with
    |none=>rw[z] at h1;cases h1
    |some sl =>
     rw[z] at h1;cases sl with
     |im d=>exact .inr ⟨d,rfl,(qh h1).symm⟩
     |_=>cases h1
  |succ k =>
   obtain⟨j',x1,x2⟩:=b k s' (by simpa using e)
   exact⟨j',by simpa using x1,x2⟩
theorem ae1 {ρ:En}{i:Nat}{o:MO}{s:Sl}:∀ js:List Nat,aj7 (ρ.set i s) i o js=aj7 ρ i o js
 |[]=>rfl
 |j::js=>by
  unfold aj7;rw[ae1 js]
  by_cases hj:j=i
  ·rw[if_pos hj,if_pos hj]
  ·rw[if_neg hj,if_neg hj,List.getElem?_set_ne (Ne.symm hj)]
theorem aA3 {js:List Nat} (h:js.Nodup) {k l i:Nat} (a:js[k]?=some i) (b:js[l]?=some i):k=l:=by
 obtain⟨hk,ek⟩:=List.getElem?_eq_some_iff.mp a;obtain⟨hl,el⟩:=List.getElem?_eq_some_iff.mp b;exact (List.getElem_inj h).mp (ek.trans el.symm)
theorem RS.blockB {K:Frag}{c:FC}{H0 H:Hp}{ρ:En}{σ:L2.St}{js:List Nat}{fr:En}{d:D}{x:V}{i:Nat}{b:Bool}{o:MO}{a:Addr} (R:RS K c H0 H ρ σ) (hi:ρ[i]?=some (.ow b o)) (ha:σ[i]?=some (some (.ref a))) (nd:js.Nodup) (hf:aj7 ρ i o js=some fr) (rx:Rep K H0 d x) :
  RS K ⟨H0,H,[a]⟩ H0 H (.im d::fr) (some x::frv σ js):=by
 obtain⟨l,g⟩:=ae2 hf;obtain⟨a',y1,y2,y3,y4⟩:=R.ow i b o hi;rw[ha] at y1;cases y1;refine⟨R.same,Same.refl _,λ b o e=>.inl e,λ b o e _=>e,λ z hz e=>?_,?_,λ k d' e=>?_,λ k b' o' e=>?_,λ k k' b1 b2 o1 o2 z e1 e2 e3 e4=>?_⟩
 ·obtain⟨u,hu⟩:=y4.some
  have hz':z=a:=by simpa using hz
  have e:H z=none:=e;rw[hz',hu] at e;cases e
 ·rw[List.length_cons,List.length_cons,l,frv,List.length_map]
 ·cases k with
  |zero=>simp at e;subst e;exact⟨x,rfl,rx⟩
  |succ k =>
   obtain⟨j,x1,x2⟩:=g k _ (by simpa using e)
   rcases x2 with ⟨_,x3⟩ | ⟨d2,x2,x3⟩
   ·cases x3
   ·cases x3
    obtain⟨v,w1,w2⟩:=R.im j d' x2;refine⟨v,?_,w2⟩;show (frv σ js)[k]?=some (some v);unfold frv;rw[List.getElem?_map,x1];show some (σ[j]?).join=some (some v);rw[w1];rfl
 ·cases k with
  |zero=>simp at e
  |succ k =>
   obtain⟨j,x1,x2⟩:=g k _ (by simpa using e)
   rcases x2 with ⟨hj,x3⟩ | ⟨d2,_,x3⟩
   ·cases x3
    subst hj;refine⟨a,?_,y2,by rw[if_pos rfl];exact List.mem_singleton.mpr rfl,y4⟩
    show (frv σ js)[k]?=some (some (.ref a));unfold frv;rw[List.getElem?_map,x1];show some (σ[j]?).join=some (some (.ref a));rw[ha];rfl
   ·cases x3
 ·cases k with
  |zero=>simp at e1
  |succ k =>
   cases k' with
   |zero=>simp at e2
   |succ k' =>
    obtain⟨j,x1,x2⟩:=g k _ (by simpa using e1)
    obtain⟨j',x1',x2'⟩:=g k' _ (by simpa using e2)
    rcases x2 with ⟨hj,_⟩ | ⟨_,_,x3⟩
    ·rcases x2' with ⟨hj',_⟩ | ⟨_,_,x3'⟩
     ·rw[hj] at x1;rw[hj'] at x1'
      rw[aA3 nd x1 x1']
     ·cases x3'
    ·cases x3
theorem RS.unblock {K:Frag}{c:FC}{H0 H H2 Hh2:Hp}{ρ ρz:En}{σ:L2.St}{js:List Nat}{x:V}{i q:Nat}{b:Bool}{o o':MO}{a:Addr} (R:RS K c H0 H ρ σ) (hi:ρ[i]?=some (.ow b o)) (ha:σ[i]?=some (some (.ref a)))
  (R2:RS K ⟨H0,H,[a]⟩ H2 Hh2 ρz (some x::frv σ js)) (hq:owT ρz[q+1]?=some o'):RS K c H2 Hh2 (ρ.set i (.ow b o')) σ:=by
 obtain⟨a',_,_,z3,z4⟩:=R2.ow (q+1) true o' (bc3 hq);rw[if_pos rfl] at z3;have e:a'=a:=by simpa using z3
 subst e;exact R.lent hi ha R2.init R2.same (λ y u e n=>R2.keep y u e (by simpa using n)) R2.fresh z4
theorem aG4 {K:Frag}{c:FC}{H1 Hh:Hp}{ρ:En}{σ:L2.St}{js:List Nat}{i q:Nat}{b:Bool}{o o':MO}{T:FT}{F:FE}{xs out:List D}{J:It}{Qf:List V->Hp->Prop} (R:RS K c H1 Hh ρ σ) (hi:ρ[i]?=some (.ow b o)) (nd:js.Nodup) (hc:aa5 T F ρ i js q o xs=some (out,o')) (hz:xs.length<=sizeLine) (hy:y_9 K J H1 xs)
  (qf:∀ ys H0 H,Same H1 H0->RS K c H0 H (ρ.set i (.ow b o')) σ->Reps K H0 out ys->Qf ys H):LcW js (tTt K T) (tE K F) σ Qf J Hh:=by
 have il:i<ρ.length:=(List.getElem?_eq_some_iff.mp hi).1;obtain⟨a,ha,_⟩:=R.ow i b o hi;have at':∀ o,(ρ.set i (.ow b o))[i]?=some (.ow b o):=λ o=>List.getElem?_set_self il
 have e0:ρ.set i (.ow b o)=ρ:=by
  obtain⟨_,e⟩:=List.getElem?_eq_some_iff.mp hi;rw[<- e];exact List.set_getElem_self il
 refine⟨λ n m ys H=>m=xs.length-n/\n<=xs.length/\∃ H0 on,Same H1 H0/\RS K c H0 H (ρ.set i (.ow b on)) σ/\∃ pre rest,Reps K H0 pre ys/\pre.length<=n/\aa5 T F ρ i js q on (xs.drop n)=some (rest,o')/\pre++rest=out,
  ⟨xs.length,by simp,Nat.zero_le _,H1,o,Same.refl _,by rw[e0];exact R,[],out,Reps.nil_,Nat.zero_le _,by simpa using hc,rfl⟩,?_⟩
 rintro n m ys H ⟨rfl,hn,H0,on,s0,R0,pre,rest,rp,lp,hg,e⟩;obtain⟨y1,y2⟩:=hy H0 H n s0 R0.same
 by_cases hlt:n<xs.length
 ·have hd:xs[n]?=some xs[n]:=by simp[hlt]
  obtain⟨go,yl⟩:=y1 _ hd;refine .inr ⟨go,by rw[<- rp.length];omega,λ x H' hx=>?_⟩
  obtain⟨rfl,rx⟩:=yl x H' hx;rw[Z_6 hd,y_7] at hg;obtain⟨fr,g0,hg⟩:=a_2 hg;obtain⟨⟨bb,ρb⟩,g1,hg⟩:=a_2 hg;dsimp only at hg;have Rb:=R0.blockB (at' on) ha nd (by rw[ae1];exact g0) rx
  refine⟨⟨H0,H',[a]⟩,H0,_,bb,ρb,Rb,g1,λ H2 Hh2 s2 R2=>?_⟩
  cases bb with
  |false =>
   rw[if_neg Bool.false_ne_true] at hg ⊢;obtain⟨o2,g4,hg⟩:=a_2 hg;have R3:=R0.unblock (at' on) ha R2 g4;rw[List.set_set] at R3;exact⟨xs.length-(n+1),by omega,rfl,hlt,H2,o2,s0.trans s2,R3,pre,rest,Reps.mono s2 _ rp,by omega,hg,e⟩
  |true =>
   rw[if_pos rfl] at hg ⊢;obtain⟨⟨z,ρz⟩,g2,hg⟩:=a_2 hg;obtain⟨o2,g4,hg⟩:=a_2 hg;obtain⟨⟨t,ot⟩,g3,hg⟩:=a_2 hg;dsimp only at hg;have hg':some (z::t,ot)=some (rest,o'):=hg;cases hg';refine⟨⟨H0,H',[a]⟩,H2,ρb,z,ρz,R2,g2,λ v H3 Hh3 s3 R3 r3=>?_⟩
   have R4:=R0.unblock (at' on) ha R3 g4;rw[List.set_set] at R4;refine⟨xs.length-(n+1),by omega,rfl,hlt,H3,o2,s0.trans (s2.trans s3),R4,pre++[z],t,(Reps.mono (s2.trans s3) _ rp).app (Reps.one r3),?_,g3,?_⟩
   ·rw[List.length_append,List.length_singleton];omega
   ·rw[List.append_assoc];exact e
 ·have ei:n=xs.length:=by omega
  have hn:xs.drop n=[]:=List.drop_eq_nil_of_le (by omega)
  rw[hn,aD3] at hg;have hg':some (([]:List D),on)=some (rest,o'):=hg;cases hg';rw[List.append_nil] at e;subst e;exact .inl ⟨y2 (by omega),by rw[<- rp.length];omega,qf ys H0 H s0 R0 rp⟩
theorem aq3 {js:List Nat}{i q:Nat}{T:FT}{F:FE}{xs:List D}{ρ ρ':En}{d:D} (h:lcB js i q T F xs ρ=some (d,ρ')):∃ b o ys o',ρ[i]?=some (.ow b o)/\aa5 T F ρ i js q o xs=some (ys,o')/\xs.length<=sizeLine/\js.Nodup/\d=.lst ys/\ρ'=ρ.set i (.ow b o'):=by
 unfold lcB at h;obtain⟨⟨b,o⟩,h1,h⟩:=a_2 h;obtain⟨⟨ys,o'⟩,h2,h⟩:=a_2 h;obtain⟨⟨l1,l2,l3⟩,h⟩:=ifs h;cases h;exact⟨b,o,ys,o',R_3 h1,h2,l1,l3,rfl,rfl⟩
section
variable {X:Cx}{scope sc:Scope}{x:Str}{frees:List Str}{js:List Nat}{px pos p pos':Pos}{elt iter a:Expr}{ifs:List Expr}{I F:FE}{T:FT}
theorem bH4 (i q:Nat) (hc:X.calm=true) (hsc:X.env.scope=sc) (B:ScB X.N sc scope x frees js) (hi:XE X iter I) (ht:∀ s H C fp,XTs (cxB X (x::frees) scope s H C fp) ifs T) (he:∀ s H C fp,XE (cxB X (x::frees) scope s H C fp) elt F)
  (hs:∀ v,foldedSetIterable iter X.env v=pure v:=by intro _;rfl):XE X (.ListComp elt [⟨.Name x px,iter,ifs,0⟩] scope pos) (aH7 js i q I T F) :=
 PE.wk (bb9 (tt:=tTt X.K T) (te:=tE X.K F) hc hsc B (az8 hi) ht he hs) λ σ H Q hh0_=>by
  obtain⟨c,H0,ρ,d,ρ',R,f,qq⟩:=hh0_;unfold aH7 at f;obtain⟨⟨z,ρ1⟩,h1,f⟩:=a_2 f;obtain⟨xs,h2,f⟩:=a_2 f;obtain⟨b,o,ys,o',k1,k2,k3,k4,rfl,rfl⟩:=aq3 f;refine p_8 R h1 h2 λ J H1 Hh s1 R1 hy=>?_
  refine aG4 R1 k1 k4 k2 k3 hy λ vs H2 Hh2 s2 R2 r2=>λ p hp=>?_
  have S:=Step.alloc (o:=.lst vs) R2.same hp;refine qq _ _ _ (s1.trans (s2.trans S.s0)) (R2.after S) ?_;unfold Rep;exact⟨p,vs,rfl,.inl (.inl a_7),Reps.mono S.s0 _ r2⟩
end
section
variable {X:Cx}{scope sc:Scope}{x y:Str}{frees:List Str}{js:List Nat}{px py pos spos p pos':Pos}{elt iter a:Expr}{ifs:List Expr}{I F:FE}{T:FT}
theorem ak5 (n:Nat) (hN:X.N.Nodup) (i q:Nat) (hc:X.calm=true) (hsc:X.env.scope=sc) (Bk:ScB X.N sc scope x frees js) (hi:XE X iter I)
  (ht:∀ s H C fp,XTs (cxB X (x::frees) scope s H C fp) ifs T) (he:∀ s H C fp,XE (cxB X (x::frees) scope s H C fp) elt F) (hi':X.N[n]?=some y:=by rfl) (hy:X.env.scope.names.lookup y=some .local:=by rfl)
  (hsw:swapsWith (.ListComp elt [⟨.Name x px,iter,ifs,0⟩] scope pos) (some (.Name y py)) spos.line X.env=pure true:=by rfl)
  (hs:∀ v,foldedSetIterable iter X.env v=pure v:=by intro _;rfl):XS X (.Assign [.Name y py] (.ListComp elt [⟨.Name x px,iter,ifs,0⟩] scope pos) spos) (d_7 n (aH7 js i q I T F)) :=
 PS.wk (L_8 (tt:=tTt X.K T) (te:=tE X.K F) hN hi' hy hc hsc Bk (az8 hi) ht he hsw hs) λ Dn σ H hh0_=>by
  obtain⟨c,H0,ρ,r,R,f,qq⟩:=hh0_;unfold d_7 at f;obtain⟨⟨d,ρ1⟩,h1,f⟩:=a_2 f;have f':some (Res.nx (ρ1.set n (.im d)))=some r:=f;cases f';unfold aH7 at h1;obtain⟨⟨z,ρ2⟩,h0,h1⟩:=a_2 h1;obtain⟨xs,h2,h1⟩:=a_2 h1;obtain⟨b,o,ys,o',k1,k2,k3,k4,rfl,rfl⟩:=aq3 h1;refine p_8 R h0 h2 λ J H1 Hh s1 R1 hy=>?_
  refine aG4 R1 k1 k4 k2 k3 hy λ vs H2 Hh2 s2 R2 r2=>λ p hp=>?_
  have S:=Step.alloc (o:=.lst vs) R2.same hp;refine qq _ _ _ (s1.trans (s2.trans S.s0)) ((R2.after S).set n ?_);unfold Rep;exact⟨p,vs,rfl,.inl (.inl a_7),Reps.mono S.s0 _ r2⟩
end
end Fx
namespace Fx
open PySem
def ltS (a b:Str):Bool:=decide (a.cps.toList<b.cps.toList)
def aA9 (x:Str):List Str->List Str
 |[]=>[x]
 |y::r=>if ltS y x=true then y::aA9 x r else x::y::r
def c_4:List Str->List Str
 |[]=>[]
 |x::r=>aA9 x (c_4 r)
def ak8:List D->Option (List Str)
 |[]=>some []
 |.str x::r=>bnd (ak8 r) λ t=>some (x::t)
 |_=>none
theorem P_7 (x:Str) (r:List D):ak8 (.str x::r)=bnd (ak8 r) λ t=>some (x::t):=rfl
def G_4 (xs:List D):Option D:=bnd (ak8 xs) λ ss=>if ss.length<64 then some (.lst ((c_4 ss).map .str)) else none
def A_7:List D->Option D
 |[.tup xs]=>G_4 xs
 |[.lst xs]=>G_4 xs
 |_=>none
def aU6:D->Option Str
 |.str x=>some x
 |_=>none
def x_8:List D->Option (List (Str×D))
 |[]=>some []
 |.tup [.str k,v]::r=>bnd (x_8 r) λ t=>some ((k,v)::t)
 |_=>none
theorem W_9 (k:Str) (v:D) (r:List D):x_8 (.tup [.str k,v]::r)=bnd (x_8 r) λ t=>some ((k,v)::t):=rfl
def aU9 (xs:List D) (k:D) (d:D):Option D:=bnd (x_8 xs) λ kvs=>bnd (aU6 k) λ k=>if kvs.length<=1000/\(kvs.map (·.1)).Nodup then some ((s_4 k kvs).getD d) else none
def bj8:D->Option (List D)
 |.tup xs=>some xs
 |_=>none
@[simp] theorem bz4 (xs:List D):bj8 (.tup xs)=some xs:=Eq.trans rfl rfl
def aB7 (E Kf Df:FE) (ρ:En):Option (D×En):=bnd (E ρ) λ p=>bnd (bj8 p.1) λ xs=>if p.2.all ao2=true then bnd (Kf p.2) λ q=>bnd (Df q.2) λ r=>bnd (aU9 xs q.1 r.1) λ d=>some (d,r.2) else none
@[simp] theorem bB6 (d:D):ao2 (.im d)=true:=Eq.trans rfl rfl
@[simp] theorem bj3 (xs:List D):A_7 [.tup xs]=G_4 xs:=Eq.trans rfl rfl
@[simp] theorem bj4 (xs:List D):A_7 [.lst xs]=G_4 xs:=Eq.trans rfl rfl
def at5 (xs:List D) (k:D) (o:Option (D×En)):Option (D×En):=bnd o λ r=>bnd (aU9 xs k r.1) λ d=>some (d,r.2)
def at6 (Df:FE) (xs:List D) (o:Option (D×En)):Option (D×En):=bnd o λ q=>at5 xs q.1 (Df q.2)
def at7 (Kf Df:FE) (ρ:En) (o:Option (List D)):Option (D×En):=bnd o λ xs=>if ρ.all ao2=true then at6 Df xs (Kf ρ) else none
def aH8 (Kf Df:FE) (o:Option (D×En)):Option (D×En):=bnd o λ p=>at7 Kf Df p.2 (bj8 p.1)
@[simp] theorem bE7 (E Kf Df:FE) (ρ:En):aB7 E Kf Df ρ=aH8 Kf Df (E ρ):=Eq.trans rfl rfl
@[simp] theorem bl6 (Kf Df:FE) (x:D) (ρ:En):aH8 Kf Df (some (x,ρ))=at7 Kf Df ρ (bj8 x):=Eq.trans rfl rfl
@[simp] theorem bl5 (Kf Df:FE) (ρ:En) (xs:List D):at7 Kf Df ρ (some xs)=if ρ.all ao2=true then at6 Df xs (Kf ρ) else none:=Eq.trans rfl rfl
@[simp] theorem bl4 (Df:FE) (xs:List D) (k:D) (ρ:En):at6 Df xs (some (k,ρ))=at5 xs k (Df ρ):=Eq.trans rfl rfl
@[simp] theorem bl3 (xs:List D) (k d:D) (ρ:En):at5 xs k (some (d,ρ))=mkP (aU9 xs k d) ρ:=Eq.trans rfl rfl
theorem mem_insS {x y:Str}:∀ {l:List Str},y∈aA9 x l↔y=x\/y∈l
 |[]=>by simp[aA9]
 |z::r=>by
  unfold aA9
  split
  ·rw[List.mem_cons,mem_insS,List.mem_cons]
   exact⟨λ h=>by rcases h with h | h | h;exact .inr (.inl h);exact .inl h;exact .inr (.inr h),λ h=>by rcases h with h | h | h;exact .inr (.inl h);exact .inl h;exact .inr (.inr h)⟩
  ·rw[List.mem_cons]
theorem u_7:∀ (ss:List Str),ak8 (ss.map .str)=some ss
 |[]=>rfl
 |x::r=>by rw[List.map_cons,P_7,u_7 r];rfl
end Fx
namespace Fx
open PySem PySem.Spec PyProof.Rows
theorem I_5:∀ {x:Str}{l:List Str},risingS x l=true->(x::l).Pairwise λ a b=>ltS b a=false
 |x,[],_=>List.pairwise_singleton _ _
 |x,y::r,h=>by
  have h':(!ltCps y.cps.toList x.cps.toList&&risingS y r)=true:=h;rw[Bool.and_eq_true] at h';have ih:=I_5 h'.2
  have a1:ltS y x=false:=by
   have:=h'.1;rw[ltCps_eq] at this
   simpa [ltS] using this
  refine List.pairwise_cons.mpr ⟨λ z hz=>?_,ih⟩
  rcases qp hz with rfl | q
  ·exact a1
  ·have a2:=(List.pairwise_cons.mp ih).1 z q
   unfold ltS at a1 a2 ⊢;rw[decide_eq_false_iff_not] at a1 a2 ⊢;exact List.not_lt.mpr (List.le_trans (List.not_lt.mp a1) (List.not_lt.mp a2))
theorem aG8 {x:Str}:∀ {l:List Str},(l.Pairwise λ a b=>ltS b a=false)->(aA9 x l).Pairwise λ a b=>ltS b a=false
 |[],_=>List.pairwise_singleton _ _
 |y::r,h=>by
  unfold aA9;obtain⟨h1,h2⟩:=List.pairwise_cons.mp h
  by_cases q:ltS y x=true
  ·rw[if_pos q]
   refine List.pairwise_cons.mpr ⟨λ z hz=>?_,aG8 h2⟩
   rcases mem_insS.mp hz with rfl | hz
   ·unfold ltS at q ⊢
    rw[decide_eq_true_eq] at q;rw[decide_eq_false_iff_not];exact List.not_lt.mpr (List.le_of_lt q)
   ·exact h1 z hz
  ·rw[if_neg q]
   have q:ltS y x=false:=by simpa using q
   refine List.pairwise_cons.mpr ⟨λ z hz=>?_,h⟩
   rcases qp hz with rfl | hz
   ·exact q
   ·have a2:=h1 z hz
    unfold ltS at q a2 ⊢;rw[decide_eq_false_iff_not] at q a2 ⊢;exact List.not_lt.mpr (List.le_trans (List.not_lt.mp q) (List.not_lt.mp a2))
theorem C_8:∀ l:List Str,(c_4 l).Pairwise λ a b=>ltS b a=false
 |[]=>List.Pairwise.nil
 |x::r=>by unfold c_4;exact aG8 (C_8 r)
theorem ins_perm {x:Str}:∀ {l:List Str},(aA9 x l).Perm (x::l)
 |[]=>List.Perm.refl _
 |y::r=>by
  unfold aA9
  split
  ·exact ((ins_perm (l:=r)).cons y).trans (List.Perm.swap x y r)
  ·exact List.Perm.refl _
theorem c_0:∀ l:List Str,(c_4 l).Perm l
 |[]=>List.Perm.refl _
 |x::r=>by unfold c_4;exact ins_perm.trans ((c_0 r).cons x)
theorem I_6 {l t:List Str} (hp:t.Perm l) (hs:sortedS t=true):t=c_4 l:=by
 have h1:t.Pairwise λ a b=>ltS b a=false:=by
  cases t with
  |nil=>exact List.Pairwise.nil
  |cons x r=>exact I_5 hs
 refine List.Perm.eq_of_pairwise (le:=λ a b=>ltS b a=false) (λ a b _ _ p q=>?_) h1 (C_8 l) (hp.trans (c_0 l).symm)
 unfold ltS at p q;rw[decide_eq_false_iff_not] at p q;have:=List.le_antisymm (List.not_lt.mp p) (List.not_lt.mp q);obtain⟨⟨la⟩⟩:=a;obtain⟨⟨lb⟩⟩:=b;cases this;rfl
section
variable {prog:Program}{w:World}{A:Around}{E:Value->Shared->Prop}{s:Shared}
theorem V_9 {it:Addr}{T:String}{ob:Obj}{n:Nat}{us:List Value}{ss:List Str}{Q:Value → Shared → Prop} (hT:T="list" ∨ T="tuple") (ho:s.heap.get? it=some ob) (hc:ob.cls=.type T) (hd:ob.data=.seq us.toArray n)
  (hS:StrsAre us ss) (h64:us.length<64)
  (k:∀ (h1 h2:Heap) (out:Array Value) (e:Nat),(∀ b o',s.heap.get? b=some o' → h1.get? b=some o') → (∀ b o',h1.get? b=some o' → h2.get? b=some o') → h2.get? h1.objs.size=some (seqObj "list" out e) → StrsAre out.toList (c_4 ss) →
   Q (.ref h1.objs.size) {s with heap:=h2}) :
  wpAny (model prog w) A (call (.builtin "sorted") [.ref it]) Q E s:=by
 refine Calls.call_function_entry kind_sorted plain_sorted entry_sorted (args_sorted1 _) ?_;unfold Builtin.«sorted»;refine qb (m:=checkCount "sorted" 1 1 _) (qc ?_);have hz:us.toArray.size<=sizeLine:=by rw[List.size_toArray,sizeLine_eq];omega
 refine qb (wpAny_collect_seq it hT ho hc hd (λ h1 kp=>?_) hz)
 refine qb (wpAny_newList ?_);have at1:(h1.push (seqObj "list" us.toArray 0)).get? h1.objs.size=some (seqObj "list" us.toArray 0):=qj _ rfl;refine qb (wpAny_holding (wpAny_call_entry slot_list_sort ⟨_,at1,rfl⟩ entry_list_sort (list_sort_treeK strKind_oneLt at1 hS.keysOf (λ v1 v2 r e=>keyKind_strs (by rw[<- e];exact hS)) h64 λ st hp hs=>⟨_,rfl,?_⟩) (args_list_sort _)))
 obtain⟨t',q1,q2,q3⟩:=sorted_out_str hS hp hs;obtain⟨e,he⟩:=sortedHeap_at (out:=(arrOf st).map (·.2)) at1;rw[I_6 q2 q3] at q1;refine qc ⟨_,rfl,k h1 _ _ e kp (λ b o' hb=>?_) he q1⟩
 have lt:b<h1.objs.size:=qk hb;rw[sortedHeap_old (Nat.ne_of_lt lt) (by rw[size_push'];exact Nat.lt_succ_of_lt lt)]
 exact qd _ hb
end
end Fx
namespace Fx
open PySem
theorem K_9:typeLookup (.type "tuple") "keys"=pure none:=by rw[typeLookup_type,builtinLookup_eq_fast];kernel_rfl
set_option maxHeartbeats 4000000 in
theorem Y_7 {prog:Program}{w:World}{A:Around}{E:Value->Shared->Prop}{s:Shared}{a:Addr}{ob:Obj}{us:Array Value}{n:Nat}{Q:Option Value->Shared->Prop}
  (ho:s.heap.get? a=some ob) (hc:ob.cls=.type "tuple") (hdt:ob.data=.seq us n) (hnd:ob.dict=none) (hh:A.handled=none)
  (k:∀ h' tk e,Heap.NewExcOf s.heap h' e "AttributeError" → Q none {s with heap:=h',toks:=tk}) :
  wpAny (model prog w) A (getAttr? (.ref a) "keys") Q E s:=by
 obtain⟨oc,od,odt,osl⟩:=ob;simp only at hc hdt hnd;subst hc hdt hnd;obtain⟨hp,gg,dd,tk,os⟩:=s;have ty:∀ tk',(⟨hp,gg,dd,tk',os⟩:Shared).TypeIs (.ref a) "tuple":=λ _=>⟨_,ho,rfl⟩
 have e1:=sub_AttributeError;have e3:=F.slot_tuple_getattribute.lookup;have e4:=F.slot_tuple_getattribute.bind (.ref a);have e5:=am_tuple_getattr_none;unfold getAttr? getAttrBy? getAttrBy
 repeat (any_goals (first | assumption | exact ty _ | ((with_reducible show wpAny _ _ (call (Value.builtin "tuple.__getattribute__") _ _) _ _ _);refine call_meets F.slot_tuple_getattribute (ty _) am_entry_tuple_getattribute (F.args_tuple_getattribute_2 _ _) (meets_getattribute_miss_tuple a us n osl "keys" _ K_9 (by decide) (by decide)) ⟨ho,hh,λ h' tk' e hx=>?_⟩) | wp_step))
 obtain⟨t1,u1,he⟩:=hx.there;have tx:∀ tk2,(⟨h',gg,dd,tk2,os⟩:Shared).TypeIs (.ref e) "AttributeError":=λ _=>⟨_,he,rfl⟩
 show wpAny _ _ (getattributeRaised _ _ _ _ _ _ _) _ _ _;unfold getattributeRaised
 repeat (any_goals (first | assumption | exact tx _ | wp_step))
 all_goals exact k _ _ _ hx.of
theorem w_0:entryFor table "dict.update.loop"=some Builtin.«dict.update.loop»:=entryFor_of_tree (by kernel_rfl)
theorem n_2:plainId "dict.update.loop"=true:=by decide +kernel
section
variable {prog:Program}{w:World}{K:Type} [DecidableEq K] {knd:KeyKind prog w K}{A:Around}{E:Value->Shared->Prop}{s:Shared}
inductive PairsAt (knd:KeyKind prog w K) (h:Heap):List Value->List (K×Value)->Prop
 |nil:PairsAt knd h [] []
 |cons {p:Addr}{u v:Value}{k:K}{us:List Value}{kvs:List (K×Value)} (a:h.IsTuple p #[u,v]) (b:knd.is k u=true) (r:PairsAt knd h us kvs):PairsAt knd h (.ref p::us) ((k,v)::kvs)
theorem ax6 {hI:Heap}{d it t:Addr}{all:List Value}{R:Result->Shared->Prop} (hd0:hI.get? d=none) (hi0:hI.get? it=none) (hne:d≠it) (tu:hI.IsTuple t all.toArray) (hh:A.handled=none) :
  ∀ (us:List Value) (acc more:List (K×Value)) (s:Shared) (i:Nat) (tk:Tok),all.drop i=us->PairsAt knd hI us more->(∀ b o,hI.get? b=some o->s.heap.get? b=some o)->s.heap.IsTupleIter it t i->s.heap.DictOf knd d acc->acc.length+more.length<=sizeLine ->
   (∀ h' tk',(∀ b o,hI.get? b=some o->h'.get? b=some o)->h'.DictOf knd d (merged acc more)->R (.ok (.ret .none)) {s with heap:=h',toks:=tk'}) ->
   codeAny (model prog w) A (.builtin "dict.update.loop" ⟨[.ref d,.ref it,.int i tk,.none],[]⟩) R s:=by
 intro us
 induction us with
 |nil =>
  intro acc more s i tk e ps kp hit hdi hz q;cases ps;refine codeAny_builtin w_0 ?_;rw[Around.under_plainId n_2 _];show wpAny _ A.in1 (pyNext (.ref it) >>= _) _ _ s
  have tu':s.heap.IsTuple t all.toArray:=by
   obtain⟨o,ho,r⟩:=tu;exact⟨o,kp _ _ ho,r⟩
  have hx:all.toArray[i]?=none:=by
   have:all[i]?=none:=by
    have l:all.length<=i:=by simpa using e
    exact List.getElem?_eq_none l
   simpa using this
  refine qb (wpAny_pyNext_tuple_end hh hit tu' hx λ h' eb=>?_)
  show wpAny _ _ (Builtin.Dict.addKeywords d [] >>= _) _ _ _;refine qb (qc (qc ?_));exact q h' s.toks (λ b o hb=>eb b o (λ z=>by rw[z,hi0] at hb;cases hb) (kp _ _ hb)) (hdi.extBut eb hne)
 |cons u us ih =>
  intro acc more s i tk e ps kp hit hdi hz q;cases ps with
  |@cons p uk uv k _ kvs a b r =>
   refine codeAny_builtin w_0 ?_;rw[Around.under_plainId n_2 _];show wpAny _ A.in1 (pyNext (.ref it) >>= _) _ _ s
   have tu':s.heap.IsTuple t all.toArray:=by
    obtain⟨o,ho,r⟩:=tu;exact⟨o,kp _ _ ho,r⟩
   have hx0:all[i]?=some (.ref p):=by
    have:=congrArg (λ l=>l[0]?) e
    simpa using this
   have hx:all.toArray[i]?=some (.ref p):=by simpa using hx0
   refine qb (wpAny_pyNext_tuple_item hit tu' hx λ h1 hit1 sb1=>?_)
   have kp1:∀ b o,hI.get? b=some o->h1.get? b=some o:=λ b o hb=>(sb1.2 b (λ z=>by rw[z,hi0] at hb;cases hb)).trans (kp _ _ hb)
   have hd1:h1.DictOf knd d acc:=by
    obtain⟨o,es,ep,ho,rr⟩:=hdi;exact⟨o,es,ep,(sb1.2 d hne).trans ho,rr⟩
   obtain⟨op,hop,hoc,on,hod⟩:=a;have hop1:=kp1 _ _ hop;refine qb (wpAny_holding (qb (wpAny_tryCatch ?_)));unfold Builtin.Dict.pairItems;refine qb (wpAny_typeOf (T:="tuple") ⟨op,hop1,hoc⟩ ?_);rw[if_pos (by decide)]
   refine qb (wpAny_seqItems hop1 hod ?_);refine qc ?_;show wpAny _ _ (holding [uk,uv] (dictSet d uk uv)) _ _ _;refine wpAny_holding (wpAny_dictSet_pairs b hd1 (λ h2 hd2 sb2=>?_) (by simp only[List.length_cons] at hz;omega))
   refine qc ⟨plainId_quiet n_2 _,?_⟩;have kp2:∀ b o,hI.get? b=some o->h2.get? b=some o:=λ b o hb=>(sb2.2 b (λ z=>by rw[z,hd0] at hb;cases hb)).trans (kp1 _ _ hb)
   have hit2:h2.IsTupleIter it t (i+1):=by
    obtain⟨o,ho,rr⟩:=hit1;exact⟨o,(sb2.2 it (Ne.symm hne)).trans ho,rr⟩
   have el:(stored acc k uv).length+kvs.length<=sizeLine:=by
    have:(stored acc k uv).length<=acc.length+1:=by
     unfold stored
     split
     ·rw[List.length_map];omega
     ·rw[List.length_append];exact qi _
    simp only[List.length_cons] at hz;omega
   have:=ih (stored acc k uv) kvs {s with heap:=h2,toks:=s.toks+1} (i+1) 0 (by rw[<- List.drop_drop,e];rfl) r kp2 hit2 hd2 el (λ h' tk' c1 c2=>q h' tk' c1 c2)
   exact this
theorem J_7 {t:Addr}{ob:Obj}{n:Nat}{all:List Value}{kvs:List (K×Value)}{Q:Value → Shared → Prop} (ho:s.heap.get? t=some ob) (hc:ob.cls=.type "tuple") (hdt:ob.data=.seq all.toArray n) (hnd:ob.dict=none) (hh:A.handled=none)
  (ps:PairsAt knd s.heap all kvs) (nd:(kvs.map (·.1)).Nodup) (hz:kvs.length<=sizeLine)
  (q:∀ h' tk,(∀ b o,s.heap.get? b=some o->h'.get? b=some o)->h'.DictOf knd s.heap.objs.size kvs->Q (.ref s.heap.objs.size) {s with heap:=h',toks:=tk}) :
  wpAny (model prog w) A (call (.type "dict") [.ref t]) Q E s:=by
 refine callType_codes (Q₁:=λ z s1=>z=.ref s.heap.objs.size ∧ s1={s with heap:=s.heap.push {cls:=.type "dict",data:=.dict #[]}}) F.kt_called_dict (F.kt_typeCall_dict_1 _) F.entry_dict_init (kt_code_dict_new _ ⟨rfl,rfl⟩) ?_
 rintro z s1 ⟨rfl,rfl⟩;have dn:(s.heap.push {cls:=.type "dict",data:=.dict #[]}).DictOf knd s.heap.objs.size []:=Heap.DictOf.new s.heap;have ho1:(s.heap.push {cls:=.type "dict",data:=.dict #[]}).get? t=some ob:=qd _ ho;refine⟨dn.typeIs,F.args_dict_init_2 _ _,?_⟩;unfold Builtin.«dict.__init__»;refine qb ?_;unfold Builtin.Dict.selfAndRest;refine qb (wpAny_notOrdered_dict dn.typeIs (qc ?_));show wpAny _ _ (Builtin.Dict.updateFrom "dict.__init__" s.heap.objs.size (.ref t) [] .none) _ _ _;unfold Builtin.Dict.updateFrom;refine qb (wpAny_typeOf (T:="tuple") ⟨ob,ho1,hc⟩ ?_);rw[if_pos (by decide)]
 refine qb (Y_7 (A:=A.in1.in1) ho1 hc hdt hnd hh λ h2 tk e hx=>?_)
 rw[if_pos (show (none:Option Value).isNone=true from rfl)];have ho2:h2.get? t=some ob:=hx.keeps _ _ ho1
 have dn2:h2.DictOf knd s.heap.objs.size []:=by
  obtain⟨o,es,ep,h3,rr⟩:=dn;exact⟨o,es,ep,hx.keeps _ _ h3,rr⟩
 have kp2:∀ b o,s.heap.get? b=some o->h2.get? b=some o:=λ b o hb=>hx.keeps _ _ (qd _ hb)
 refine qb (wpAny_rule (qb (wpAny_pyIter_tuple (items:=all.toArray) ⟨ob,ho2,hc,n,hdt⟩ ?_)));refine qc ⟨plainId_quiet n_2 _,?_⟩
 have d0:s.heap.get? s.heap.objs.size=none:=by
  cases z:s.heap.get? s.heap.objs.size with
  |none=>rfl
  |some o=>exact absurd (qk z) (Nat.lt_irrefl _)
 have h2d:s.heap.objs.size<h2.objs.size:=by
  obtain⟨o,es,ep,h3,rr⟩:=dn2;exact qk h3
 have i0:s.heap.get? h2.objs.size=none:=by
  cases z:s.heap.get? h2.objs.size with
  |none=>rfl
  |some o=>exact absurd (qk (kp2 _ _ z)) (Nat.lt_irrefl _)
 refine ax6 (A:=A.in1) (knd:=knd) (all:=all) (hI:=s.heap) (t:=t) d0 i0 (qo h2d) ⟨ob,ho,hc,n,hdt⟩ hh all [] kvs {s with heap:=h2.push {cls:=.type "tuple_iterator",data:=.fields #[.ref t,.int 0 0]},toks:=tk} 0 0 rfl ps
  (λ b o hb=>qd _ (kp2 _ _ hb)) ⟨_,qj _ rfl,rfl,rfl⟩ (dn2.push _) (by rw[List.length_nil,Nat.zero_add];exact hz) λ h' tk' c1 c2=>?_
 rw[merged_nil_of_nodup kvs nd] at c2;exact⟨rfl,q h' tk' c1 c2⟩
end
end Fx
namespace Fx
open PySem PySem.Spec PyProof.Rows L2
def KV1 (K:Frag) (d:D) (u:Value):Prop:=∃ v,RelV v u/\∀ H,Rep K H d v
def KVs (K:Frag) (ds:List D) (us:List Value):Prop:=∃ vs,Vals vs us/\∀ H,Reps K H ds vs
section
variable {K:Frag}
theorem aG5:KV1 K .non .none:=⟨.non,rfl,λ H=>by unfold Rep;rfl⟩
theorem aG6 {i:Int}{t:Tok}:KV1 K (.int i) (.int i t):=⟨.int i,⟨t,rfl⟩,λ H=>i_6 H i⟩
theorem be4 {x:Str}{t:Tok}:KV1 K (.str x) (.str x t):=⟨.str x,⟨t,rfl⟩,λ H=>L_7 H x⟩
theorem Y_5:KVs K [] []:=⟨[],.nil,λ H=>Reps.nil_⟩
theorem v_2 {d:D}{ds:List D}{u:Value}{us:List Value} (a:KV1 K d u) (b:KVs K ds us):KVs K (d::ds) (u::us):=by
 obtain⟨v,r,p⟩:=a;obtain⟨vs,rs,ps⟩:=b;exact⟨v::vs,.cons r rs,λ H=>Reps.cons (p H) (ps H)⟩
theorem aq9 {a:Addr}{us:List Value}{n:Nat}{sl:Array (Option Value)}{ds:List D} (l:K.lookup a=some ⟨.type "tuple",none,.seq us.toArray n,sl⟩) (hz:us.length ≤ 1000) (h:KVs K ds us):KV1 K (.tup ds) (.ref a):=by
 obtain⟨vs,rs,ps⟩:=h;refine⟨.ref a,rfl,λ H=>?_⟩
 unfold Rep;refine⟨a,vs,rfl,.inr ⟨_,us.toArray,n,l,rfl,rfl,rfl,?_,?_⟩,ps H⟩
 ·rw[List.size_toArray];exact Nat.le_of_lt (D_8 hz)
 ·exact rs
end
theorem u_8:∀ {xs:List D}{ss:List Str},ak8 xs=some ss->xs=ss.map .str
 |[],ss,h=>by cases h;rfl
 |.str x::r,ss,h=>by
  rw[P_7] at h;obtain⟨t,e,f⟩:=a_2 h;cases f;rw[u_8 e];rfl
 |.non::_,_,h=>by cases h
 |.bl _::_,_,h=>by cases h
 |.int _::_,_,h=>by cases h
 |.tup _::_,_,h=>by cases h
 |.lst _::_,_,h=>by cases h
theorem p_1 {K:Frag}{H:Hp}:∀ ss:List Str,Reps K H (ss.map D.str) (ss.map V.str)
 |[]=>Reps.nil_
 |x::r=>Reps.cons (L_7 H x) (p_1 r)
theorem h_0 {K:Frag}{H:Hp}:∀ {ss:List Str}{vs:List V},Reps K H (ss.map D.str) vs->vs=ss.map V.str
 |[],vs,h=>by rw[List.map_nil] at h;unfold Reps at h;exact h
 |x::r,vs,h=>by
  rw[List.map_cons] at h;unfold Reps at h;obtain⟨v,t,rfl,a,b⟩:=h;unfold Rep at a;rw[a,h_0 b];rfl
theorem z_5:∀ {ss:List Str}{us:List Value},Vals (ss.map V.str) us->StrsAre us ss
 |[],us,h=>by rw[List.map_nil] at h;cases h;exact .nil
 |x::r,us,h=>by
  rw[List.map_cons] at h;cases h with
  |cons a b=>obtain⟨t,rfl⟩:=a;exact .cons x t (z_5 b)
theorem t_7:∀ {us:List Value}{ss:List Str},StrsAre us ss->Vals (ss.map V.str) us
 |_,_,.nil=>.nil
 |_,_,.cons x t h=>.cons ⟨t,rfl⟩ (t_7 h)
section
variable {X:Cx}
theorem C_6:CallR X (.builtin "sorted") (λ xs H Q=>∃ p ss,xs=[.ref p] ∧ (SqL X.K H p (ss.map V.str) ∨ SqT X.K H p (ss.map V.str)) ∧ ss.length<64 ∧ ∀ l,H l=none → Q (.ref l) (upd H l (.lst ((c_4 ss).map V.str)))):=by
 intro pins s σ H xs us Q I r h;obtain⟨p,ss,rfl,hq,h64,q⟩:=h;obtain⟨u,rfl,ru⟩:=z_4 r;cases ru;have fin:∀ (its:List Value) (T:String) (ob:Obj) (n:Nat),(T="list" ∨ T="tuple") → s.heap.get? p=some ob → ob.cls=.type T → ob.data=.seq its.toArray n → Vals (ss.map V.str) its →
   wpAny (model X.prog X.w) X.A (call (.builtin "sorted") [.ref p]) (EP X pins σ Q) X.xe s:=λ its T ob n hT ho hc hd rv=>by
  have hl:=rv.length;rw[List.length_map] at hl;refine V_9 hT ho hc hd (z_5 rv) (by omega) λ h1 h2 out e k1 k2 at1 so=>?_
  have I1:Inv X pins σ H {s with heap:=h1}:=I.kept (t':=s.toks) k1
  have hz:((c_4 ss).map V.str).length<=sizeLine:=by
   rw[List.length_map,(c_0 ss).length_eq,sizeLine_eq];omega
  refine⟨.ref h1.objs.size,_,I1.laid (t':=s.toks) (o:=.lst ((c_4 ss).map V.str)) k2 (qi _) ⟨hz,out.toList,e,t_7 so,?_⟩,rfl,q _ (I1.hok.fresh (qi _))⟩;rw[at1]
 rcases hq with hq | hq
 ·obtain⟨its,rv,⟨ob,n,h1,h2,h3,h4⟩,_⟩:=I.list hq
  exact fin its "list" ob n (.inl rfl) h1 h2 h4 rv
 ·obtain⟨its,rv,⟨ob,h1,h2,n,h4⟩,_⟩:=I.tuple hq
  exact fin its "tuple" ob n (.inr rfl) h1 h2 h4 rv
theorem P_9 {xs:List D}{d:D} (h:G_4 xs=some d):∃ ss:List Str,xs=ss.map .str/\ss.length<64/\d=.lst ((c_4 ss).map .str):=by
 unfold G_4 at h;obtain⟨ss,e,f⟩:=a_2 h;obtain⟨l,rfl⟩:=ifs f;exact⟨ss,u_8 e,l,rfl⟩
theorem K_1:BOk X (.builtin "sorted") A_7:=⟨_,C_6,λ c H0 H ρ σ ds d vs Q R r e q=>by
 unfold A_7 at e
 split at e
 ·obtain⟨ss,rfl,l64,rfl⟩:=P_9 e
  obtain⟨v,rfl,rv⟩:=Reps.v1 r;unfold Rep at rv;obtain⟨p,ws,rfl,s,t⟩:=rv;rw[h_0 t] at s;refine⟨p,ss,rfl,.inr (Same.seqT R.same s),l64,λ l hl=>?_⟩
  have S:=Step.alloc (o:=.lst ((c_4 ss).map V.str)) R.same hl;refine q _ _ _ S.s0 (R.after S) ?_;unfold Rep;exact⟨l,_,rfl,.inl (.inl a_7),p_1 _⟩
 ·obtain⟨ss,rfl,l64,rfl⟩:=P_9 e
  obtain⟨v,rfl,rv⟩:=Reps.v1 r;unfold Rep at rv;obtain⟨p,ws,rfl,s,t⟩:=rv;rw[h_0 t] at s;refine⟨p,ss,rfl,.inl (Same.seq R.same s),l64,λ l hl=>?_⟩
  have S:=Step.alloc (o:=.lst ((c_4 ss).map V.str)) R.same hl;refine q _ _ _ S.s0 (R.after S) ?_;unfold Rep;exact⟨l,_,rfl,.inl (.inl a_7),p_1 _⟩
 ·cases e⟩
end
inductive PV (K:Frag) (H:Hp):List V->List (Key×V)->Prop
 |nil:PV K H [] []
 |cons {a:Addr}{k:Str}{v:V}{vs:List V}{kvs:List (Key×V)} (p:SqT K H a [.str k,v]) (r:PV K H vs kvs):PV K H (.ref a::vs) ((.inr k,v)::kvs)
theorem al7 {K:Frag}{H:Hp}:∀ {vs:List V}{kvs:List (Key×V)},PV K H vs kvs->kvs.length=vs.length
 |_,_,.nil=>rfl
 |_,_,.cons p r=>by rw[List.length_cons,List.length_cons,al7 r]
section
variable {X:Cx}
theorem M_0 {pins:List (Addr×Obj)}{σ:L2.St}{H:Hp}{s:Shared} (I:Inv X pins σ H s):∀ {vs:List V}{kvs:List (Key×V)}{us:List Value},PV X.K H vs kvs->Vals vs us->∃ rs:List (Key×Value),PairsAt (f_2 X.prog X.w) s.heap us rs/\KV kvs rs
 |_,_,us,.nil,h=>by cases h;exact⟨[],.nil,.nil⟩
 |_,_,us,.cons (a:=a) (k:=k) (v:=v) p r,h=>by
  cases h with
  |@cons x u xs us' h1 h2 =>
   cases h1;obtain⟨rs,q1,q2⟩:=M_0 I r h2;obtain⟨its,rv,tp,_⟩:=I.tuple p;obtain⟨u1,u2,rfl,r1,r2⟩:=aI6 rv;exact⟨(.inr k,u2)::rs,.cons (show s.heap.IsTuple a #[u1,u2] from tp) (Y_9 (k:=.inr k) r1) q1,.cons ⟨rfl,r2⟩ q2⟩
theorem Y_6:∀ {kvs:List (Key×V)}{rs:List (Key×Value)},KV kvs rs->rs.map (·.1)=kvs.map (·.1)
 |_,_,.nil=>rfl
 |_,_,.cons h t=>by rw[List.map_cons,List.map_cons,h.1,Y_6 t]
theorem aq5:∀ {kvs:List (Key×V)}{rs:List (Key×Value)},KV kvs rs->rs.length=kvs.length
 |_,_,.nil=>rfl
 |_,_,.cons h t=>by rw[List.length_cons,List.length_cons,aq5 t]
theorem F_6 (hc:X.calm=true):CallR X (.type "dict") (λ xs H Q=>∃ p ws kvs,xs=[.ref p] ∧ SqT X.K H p ws ∧ PV X.K H ws kvs ∧ (kvs.map (·.1)).Nodup ∧ ∀ l,H l=none → Q (.ref l) (upd H l (.dK kvs))):=by
 intro pins s σ H xs us Q I r h;obtain⟨p,ws,kvs,rfl,hq,pv,nd,q⟩:=h;obtain⟨u,rfl,ru⟩:=z_4 r;cases ru;obtain⟨its,rv,⟨ob,h1,h2,⟨n,h3⟩,h4⟩,hz⟩:=I.tupleN hq;obtain⟨rs,q1,q2⟩:=M_0 I pv rv;have hk:kvs.length<=sizeLine:=by rw[al7 pv];exact hz
 refine J_7 h1 h2 h3 h4 (I.ok.hd hc) q1 (by rw[Y_6 q2];exact nd) (by rw[aq5 q2];exact hk) λ h' tk kp dd=>?_
 exact⟨.ref s.heap.objs.size,_,I.laid (o:=.dK kvs) kp (qi _) (ae7 hk (beq_eq_false_iff_ne.mpr (Ne.symm (qo I.big))) q2 dd),rfl,q _ (I.hok.fresh (qi _))⟩
end
theorem RS.unfence {K:Frag}{c:FC}{H0 H H0' H':Hp}{ρ ρ':En}{σ σ':L2.St}{p:Addr}{u:HO} (R:RS K c H0 H ρ σ) (hp:H p=none) (R':RS K ⟨H0,upd H p u,[]⟩ H0' H' ρ' σ'):RS K c H0' H' ρ' σ':=by
 have up:∀ b o,H b=some o->upd H p u b=some o:=λ b o e=>by
  rw[b_6 (λ z=>by rw[z,hp] at e;cases e)];exact e
 have dn:∀ b,upd H p u b=none->c.He b=none:=λ b e=>by
  cases q:c.He b with
  |none=>rfl
  |some o =>
   by_cases hb:b∈c.Ap
   ·cases z:H b with
    |none=>exact absurd z (R.apt b hb)
    |some o'=>rw[up b o' z] at e;cases e
   ·rw[up b o (R.keep b o q hb)] at e;cases e
 refine⟨R'.same,R.init.trans R'.init,λ b o e=>?_,λ b o e n=>R'.keep b o (up b o (R.keep b o e n)) (by simp),λ a ha e=>?_,R'.len,R'.im,λ i b o e=>?_,R'.ne⟩
 ·rcases R'.fresh b o e with h | h
  ·exact R.fresh b o h
  ·exact .inr (dn b h)
 ·cases z:H a with
  |none=>exact R.apt a ha z
  |some o=>rw[R'.keep a o (up a o z) (by simp)] at e;cases e
 ·obtain⟨a,x,y,z,w⟩:=R'.ow i b o e
  refine⟨a,x,y,?_,w⟩;cases b with
  |true=>simp at z
  |false =>
   rw[if_neg (by simp)] at z ⊢
   exact dn a z
theorem pairsD_inv:∀ {xs:List D}{kvs:List (Str×D)},x_8 xs=some kvs->xs=kvs.map λ q=>.tup [.str q.1,q.2]
 |[],kvs,h=>by cases h;rfl
 |x::r,kvs,h=>by
  unfold x_8 at h
  split at h
  ·rename_i heq;cases heq
  ·rename_i k v r' heq
   cases heq;obtain⟨t,e,f⟩:=a_2 h;cases f;rw[pairsD_inv e];rfl
  ·cases h
theorem aL1 {K:Frag}{H0 H:Hp} (s:Same H0 H):∀ {kvs:List (Str×D)}{ws:List V},Reps K H0 (kvs.map λ q=>.tup [.str q.1,q.2]) ws->∃ vs,PV K H ws (z_0 (kvs.map (·.1)) vs)/\Reps K H0 (kvs.map (·.2)) vs
 |[],ws,h=>by
  rw[List.map_nil] at h;unfold Reps at h;subst h;exact⟨[],.nil,Reps.nil_⟩
 |q::r,ws,h=>by
  rw[List.map_cons] at h;unfold Reps at h;obtain⟨v,t,rfl,a,b⟩:=h;obtain⟨vs,p1,p2⟩:=aL1 s b;unfold Rep at a;obtain⟨ad,us,rfl,sq,ru⟩:=a;obtain⟨v1,v2,rfl,r1,r2⟩:=Reps.v2 ru;unfold Rep at r1;subst r1;exact⟨v2::vs,.cons (Same.seqT s sq) p1,Reps.cons r2 p2⟩
theorem K_7 {k:Str}:∀ {kds:List (Str×D)}{vs:List V},kds.length=vs.length->s_4 k kds=none->K_8 (z_0 (kds.map (·.1)) vs) (.inr k)=none
 |[],vs,_,_=>rfl
 |q::r,[],l,_=>by cases l
 |q::r,v::vs,l,h=>by
  unfold s_4 at h
  by_cases hk:q.1=k
  ·rw[if_pos hk] at h;cases h
  ·rw[if_neg hk] at h
   rw[List.map_cons,x_1,x_4 λ z=>hk (Sum.inr.inj z)]
   exact K_7 (Nat.succ.inj l) h
section
variable {X:Cx}
theorem bm8 {a b e:Expr}{E Kf Df:FE}{p dpos apos cpos:Pos} (hm:X.mg "dict"=none) (hu:X.A.units+1<cLine) (he:XE X a E) (hk:XE X b Kf) (hd:XE X e Df) (hc:X.calm=true:=by rfl) (hg:Gl X "dict":=by rfl)
  (h1:starEach [a] X.env=[(false,eval a X.env)]:=by rfl) (m:M2 X (.Call (.Name "dict" p) [a] [] dpos) "get" apos b e cpos:=by exact⟨rfl,rfl,rfl,rfl⟩) :
  XE X (.Call (.Attribute (.Call (.Name "dict" p) [a] [] dpos) "get" apos) [b,e] [] cpos) (aB7 E Kf Df) :=
 PE.wk (ac0 hu (p_2 (F_6 hc) hg hm PyProof.Rows.boot_dict (xaC he xaN h1) (by decide) (by decide) h1 rfl) hk hd m) λ σ H Q hh0_=>by
  obtain⟨c,H0,ρ,d,ρ',R,f,q⟩:=hh0_;unfold aB7 at f;obtain⟨⟨d1,ρ1⟩,g1,f⟩:=a_2 f;obtain⟨xs,g2,f⟩:=a_2 f
  by_cases no:ρ1.all ao2=true
  ·have f:(if ρ1.all ao2=true then _ else none)=some (d,ρ'):=f
   rw[if_pos no] at f;obtain⟨⟨kd,ρ2⟩,g3,f⟩:=a_2 f;obtain⟨⟨dd,ρ3⟩,g4,f⟩:=a_2 f;obtain⟨d',g5,f⟩:=a_2 f;have f':some (d',ρ3)=some (d,ρ'):=f;cases f'
   have e1:d1=.tup xs:=by
    cases d1 with
    |tup ys=>cases g2;rfl
    |_=>cases g2
   subst e1;unfold aU9 at g5;obtain⟨kvs,g6,g5⟩:=a_2 g5;obtain⟨k,g7,g5⟩:=a_2 g5;obtain⟨⟨_,nd⟩,rfl⟩:=ifs g5
   have e2:kd=.str k:=by
    cases kd with
    |str z=>cases g7;rfl
    |_=>cases g7
   subst e2;cases pairsD_inv g6;refine⟨c,H0,ρ,[.tup (kvs.map λ q=>.tup [.str q.1,q.2])],ρ1,R,?_,λ vs H1 Hh s1 R1 r1=>?_⟩
   ·unfold aC
    rw[g1];rfl
   obtain⟨v,rfl,rv⟩:=Reps.v1 r1;unfold Rep at rv;obtain⟨ad,ws,rfl,sq,t⟩:=rv;obtain⟨vv,p1,p2⟩:=aL1 R1.same t;have ln:=p2.length;rw[List.length_map] at ln
   have kz:(z_0 (kvs.map (·.1)) vv).map (·.1)=(kvs.map (·.1)).map Sum.inr:=by
    unfold z_0;rw[List.map_fst_zip (by rw[List.length_map,List.length_map];omega)]
   have nd2:((z_0 (kvs.map (·.1)) vv).map (·.1)).Nodup:=by
    rw[kz];exact List.Pairwise.map _ (λ x y h z=>h (Sum.inr.inj z)) nd
   refine⟨ad,ws,_,rfl,Same.seqT R1.same sq,p1,nd2,λ l hl=>?_⟩
   refine⟨l,rfl,.inl ⟨_,.inl a_7⟩,?_⟩;have RF:=R1.fence (u:=.dK (z_0 (kvs.map (·.1)) vv)) no hl;refine⟨_,H1,ρ1,_,ρ2,RF,g3,λ y H2 Hh2 s2 R2 r2=>?_⟩
   refine⟨_,H2,ρ2,dd,_,R2,g4,λ z H3 Hh3 s3 R3 r3=>?_⟩
   unfold Rep at r2;subst r2;have ll:Hh3 l=some (.dK (z_0 (kvs.map (·.1)) vv)):=R3.keep l _ a_7 (by simp)
   refine⟨_,DGet.k (k:=.inr k) ll,q _ H3 Hh3 (s1.trans (s2.trans s3)) (R1.unfence hl R3) ?_⟩;cases hk:s_4 k kvs with
   |none =>
    rw[K_7 (by rw[<- ln]) hk]
    exact r3
   |some dv =>
    obtain⟨v',w1,w2⟩:=P_4 p2 hk;rw[w1];exact Rep.mono (s2.trans s3) _ w2
  ·have f:(if ρ1.all ao2=true then _ else none)=some (d,ρ'):=f
   rw[if_neg no] at f;cases f
theorem aW8 {x:Str}{d:D}{pos:Pos} (h:∃ a,X.mg x=some (.ref a) ∧ KV1 X.K d (.ref a)) (hg:Gl X x:=by rfl) (hd:(x==("__debug__":Str))=false:=by decide):XE X (.Name x pos) (eC d):=by
 obtain⟨a,h,v,rv,rp⟩:=h
 exact PE.wk (aM4 hg h (v:=v) rv hd) λ σ H Q hh0_=>by
  obtain⟨c,H0,ρ,d,ρ',R,f,q⟩:=hh0_;obtain⟨rfl,rfl⟩:=T_7 f;exact q _ H0 H (Same.refl _) R (rp H0)
end
end Fx
namespace Fx
open PySem PySem.Spec
theorem A_1 {α:Type}:∀ {l:List α}{i:Nat} (h:i<l.length),(l[i]::l.eraseIdx i).Perm l
 |x::r,0,_=>List.Perm.refl _
 |x::r,i+1,h=>by
  have h':i<r.length:=by simpa using h
  show (r[i]::x::r.eraseIdx i).Perm (x::r);exact (List.Perm.swap x r[i] _).trans ((A_1 h').cons x)
section
variable {M:Model}{A:Around}{E:Value->Shared->Prop}{s:Shared}
theorem af9 {src:Source}{n:Nat}{Q:Nat->Shared->Prop} (hn:n≠0) (h:∀ i dr,i<n->Q i {s with drawn:=dr}):wpAny M A (choose src n) Q E s:=λ Γ p _=>by
 unfold choose;rw[Sem.wp_choose];exact⟨hn,h _ _ (Nat.mod_lt _ (Nat.pos_of_ne_zero hn))⟩
theorem p_0 {α:Type}:∀ (n:Nat) (xs:List α) (s:Shared) (Q:List α->Shared->Prop),n=xs.length->(∀ ys dr,ys.Perm xs->Q ys {s with drawn:=dr})->wpAny M A (drawOrder n xs) Q E s
 |0,xs,s,Q,e,h=>by
  have:xs=[]:=List.length_eq_zero_iff.mp e.symm;subst this;unfold drawOrder;exact qc (h [] s.drawn (List.Perm.refl _))
 |n+1,[],s,Q,e,h=>by cases e
 |n+1,x::r,s,Q,e,h=>by
  unfold drawOrder;refine qb (af9 (by simp) λ i dr hi=>?_)
  have e1:(x::r)[i]?=some ((x::r)[i]):=List.getElem?_eq_getElem hi;rw[e1];refine qb (p_0 n ((x::r).eraseIdx i) _ _ ?_ λ ys dr' hp=>qc ?_)
  ·rw[List.length_eraseIdx_of_lt hi];omega
  ·refine h _ dr' ?_
   exact (hp.cons _).trans (A_1 hi)
end
theorem R_1 {α:Type} (f:Nat->Nat):∀ (n k:Nat) (l:List α) (out:Array α),n=l.length->(pickOrder.go f n k l out).toList.Perm (out.toList++l)
 |0,k,l,out,e=>by
  have:l=[]:=List.length_eq_zero_iff.mp e.symm;subst this;unfold pickOrder.go;rw[List.append_nil]
 |n+1,k,l,out,e=>by
  unfold pickOrder.go;have hl:f k % l.length<l.length:=Nat.mod_lt _ (by omega)
  rw[List.getElem?_eq_getElem hl];refine (R_1 f n (k+1) _ _ (by rw[List.length_eraseIdx_of_lt hl];omega)).trans ?_
  rw[Array.toList_push,List.append_assoc];exact List.Perm.append_left _ (A_1 hl)
theorem v_9 {α:Type} (f:Nat->Nat) (xs:Array α):(pickOrder f xs).toList.Perm xs.toList:=by
 unfold pickOrder;have:=R_1 f xs.size 0 xs.toList #[] (by simp)
 simpa using this
theorem T_2 (t:SetTable) (es:Array (Int×Value)) (h:Int) (x:Value):(layNew t es h x).2.1.led=t.led/\((layNew t es h x).2.1.plain=true->t.plain=true):=by
 have st:∀ (u:SetTable) (n:Nat),(u.standIn n).led=u.led/\(u.standIn n).plain=false:=λ u n=>⟨rfl,rfl⟩
 unfold layNew
 split
 ·rename_i slot wd _
  have pu:(t.put slot).1.led=t.led/\(t.put slot).1.plain=t.plain:=⟨rfl,rfl⟩;dsimp only;unfold SetTable.orStandIn
  split
  ·exact⟨pu.1,λ q=>by rw[<- pu.2];exact q⟩
  ·exact⟨pu.1,λ q=>by cases q⟩
 ·exact⟨rfl,λ q=>by cases q⟩
theorem G_9 (t:SetTable) (es:Array (Int×Value)) (n:Nat):(relayAll t es n).2.1.led=t.led/\((relayAll t es n).2.1.plain=true->t.plain=true):=by
 unfold relayAll
 split
 ·rename_i t' order e
  have m:t'.led=t.led/\t'.plain=t.plain:=by
   unfold SetTable.relaid SetTable.laid at e;cases z:SetTable.layClean (SetTable.sizeAbove n-1) (es.map (·.1)) with
   |none=>rw[z] at e;cases e
   |some ow=>rw[z] at e;cases e;exact⟨rfl,rfl⟩
  dsimp only
  split
  ·exact⟨m.1,λ q=>by rw[<- m.2];exact q⟩
  ·exact⟨rfl,λ q=>by cases q⟩
 ·exact⟨rfl,λ q=>by cases q⟩
def SetS (P:Program) (w:World) (bt:Bool) (h:Heap) (a:Addr) (ss:List Str):Prop :=
 ∃ o es ep t,h.get? a=some o/\o.ExactSet/\o.data=.set es ep t/\ElemsOf (PySem.strKind P w) es.toList/\(es.toList.map λ e=>PyProof.Rows.strOf e.2).Perm ss/\ss.Nodup/\es.size<scanBound/\t.fits es.size=true /\
  (t.plain=true->es.size=0)/\(bt=false->t.led=true)
section
variable {P:Program}{w:World}{bt:Bool}{A:Around}{E:Value->Shared->Prop}{s:Shared}{a:Addr}{ss:List Str}
theorem k_5 {es:List (Int×Value)} (h:ElemsOf (PySem.strKind P w) es):∀ e∈es,∃ x t,e.2=.str x t/\e.1=(PySem.strKind P w).hash x:=λ e he=>by
 obtain⟨⟨k,hk,hh⟩,_⟩:=h e he;obtain⟨t,ht⟩:=Value.isStrOf_shape hk;exact⟨k,t,ht,hh⟩
theorem i_2 {x:Str}{v:Value}{y:Str}{t:Tok} (e:v=.str y t):(PySem.strKind P w).is x v=decide (x=y):=by
 subst e;have h:(PySem.strKind P w).is y (.str y t)=true:=by show Value.isStrOf y (.str y t)=true;simp[Value.isStrOf]
 exact KeyKind.is_eq_decide h x
theorem z_2 {x:Str}{tk:Tok}{Q:Bool->Shared->Prop} (hS:SetS P w bt s.heap a ss) (hroom:ss.length+1<scanBound)
  (h:∀ h',Heap.SameBut a s.heap h'->SetS P w bt h' a (if x∈ss then ss else ss++[x])->Q (!decide (x∈ss)) {s with heap:=h'}) :
  wpAny (model P w) A (setAddHashed a (.str x tk) ((PySem.strKind P w).hash x)) Q E s:=by
 obtain⟨o,es,ep,t,ho,hex,hd,hel,hp,hnd,hb,hf,hpl,hled⟩:=hS;have hkey:(PySem.strKind P w).is x (.str x tk)=true:=by rw[i_2 rfl];simp
 have hsc:(Value.str x tk).scannable=true:=rfl
 have hn:es.size=ss.length:=by
  have:=hp.length_eq;rw[List.length_map,Array.length_toList] at this;exact this
 have mem:(∃ e∈es.toList,(PySem.strKind P w).is x e.2=true)↔x∈ss:=by
  rw[<- hp.mem_iff,List.mem_map];constructor
  ·rintro ⟨e,he,q⟩
   obtain⟨y,t,ey,_⟩:=k_5 hel e he;rw[i_2 ey,decide_eq_true_iff] at q;exact⟨e,he,by rw[ey,q];rfl⟩
  ·rintro ⟨e,he,q⟩
   obtain⟨y,t,ey,_⟩:=k_5 hel e he;rw[ey] at q;exact⟨e,he,by rw[i_2 ey,decide_eq_true_iff,<- q];rfl⟩
 unfold setAddHashed setAddHashedIn;refine wpAny_holding (qb (wpAny_setState_of ho hd hf ?_));dsimp only;rw[byScan_of hsc hb hel];simp only[↓reduceIte];unfold setAddByScan;refine qb (qb (wpAny_rule (qb (wpAny_setScan_of hkey ho hd hf hel ?_))));cases hr:List.findIdx? (λ e=>(PySem.strKind P w).is x e.2) es.toList with
 |some j =>
  obtain⟨hj,hpj,_⟩:=List.findIdx?_eq_some_iff_getElem.mp hr;have hx:x∈ss:=mem.mp ⟨es.toList[j],List.getElem_mem hj,hpj⟩;dsimp only;refine qc (qc ?_);have:=h s.heap (Heap.SameBut.refl a s.heap) (by rw[if_pos hx];exact⟨o,es,ep,t,ho,hex,hd,hel,hp,hnd,hb,hf,hpl,hled⟩)
  rw[decide_eq_true hx] at this;exact this
 |none =>
  have hx:¬ x∈ss:=λ q=>by
   obtain⟨e,he,q⟩:=mem.mpr q;have:=List.findIdx?_eq_none_iff.mp hr e he;rw[q] at this;cases this
  dsimp only;have lp:=layNew_perm t es ((PySem.strKind P w).hash x) (.str x tk);have lf:=layNew_fits t es ((PySem.strKind P w).hash x) (.str x tk);have lm:=T_2 t es ((PySem.strKind P w).hash x) (.str x tk)
  generalize layNew t es ((PySem.strKind P w).hash x) (.str x tk)=L at lp lf lm ⊢
  obtain⟨es1,t1,wd,gave⟩:=L;dsimp only at lp lf lm ⊢;rw[Array.toList_push] at lp;have hel1:ElemsOf (PySem.strKind P w) es1.toList:=(hel.push hkey hsc).perm lp
  have hp1:(es1.toList.map λ e=>PyProof.Rows.strOf e.2).Perm (ss++[x]):=by
   refine (lp.map _).trans ?_;rw[List.map_append];exact hp.append (List.Perm.refl _)
  have nd1:(ss++[x]).Nodup:=by
   rw[List.nodup_append];exact⟨hnd,by simp,λ u hu v hv e=>by rw[List.mem_singleton] at hv;subst hv;subst e;exact hx hu⟩
  have sz1:es1.size=es.size+1:=by
   have:=lp.length_eq;rw[List.length_append,Array.length_toList,Array.length_toList] at this;exact this
  have gw:∀ (b:Bool) (s₁:Shared) (Q':Unit → Shared → Prop),Q' () s₁ → wpAny (model P w) A (match b with | true=>rule "set.scan.the-table-gave-way" | false=>pure ()) Q' E s₁ :=
   λ b s₁ Q' q=>by cases b <;> first | exact qc q | exact wpAny_rule q
  refine qb (gw _ _ _ ?_);have fin:∀ (g:Bool->Sem Unit),(∀ (b:Bool) (s₁:Shared) (Q':Unit->Shared->Prop),Q' () s₁->wpAny (model P w) A (g b) Q' E s₁)->∀ (R:Option Bool->Shared->Prop) (t2:SetTable),t2.fits es1.size=true->t2.led=t.led->t2.plain=false ->
    (∀ h',Heap.SameBut a s.heap h'->SetS P w bt h' a (ss++[x])->R (some true) {s with heap:=h'}) ->
    wpAny (model P w) A (do
     storeSet a es1 t2
     if (!wd&&t2.tooFull)=true then do
       g (relayAll t2 es1 (SetTable.grown es1.size)).2.2
       storeSet a (relayAll t2 es1 (SetTable.grown es1.size)).1 (relayAll t2 es1 (SetTable.grown es1.size)).2.1
       pure (some true)
      else pure (some true)) R E s:=λ g hg R t2 f2 l2 p2 k=>by
   have b1:es1.size<scanBound:=by rw[sz1,hn];exact hroom
   refine qb (wpAny_storeSet_of ho hd ?_ (fits_of_scanBound b1))
   have at1:(s.heap.update a (Obj.putSet es1 t2)).get? a=some {o with data:=.set es1 (ep+1) t2}:=by
    have z:=Heap.get?_update_self (Obj.putSet es1 t2) ho (by rw[putSet_of es1 t2 hd];rfl)
    rw[putSet_of es1 t2 hd] at z;exact z
   have sb1:=Heap.SameBut.update s.heap a (Obj.putSet es1 t2)
   split
   ·have rp:=relayAll_perm t2 es1 (SetTable.grown es1.size)
    have rf:=relayAll_fits t2 es1 (SetTable.grown es1.size);have rm:=G_9 t2 es1 (SetTable.grown es1.size)
    generalize relayAll t2 es1 (SetTable.grown es1.size)=Rl at rp rf rm ⊢
    obtain⟨es2,t3,g2⟩:=Rl;dsimp only at rp rf rm ⊢;have sz2:es2.size=es1.size:=by rw[<- Array.length_toList,rp.length_eq,Array.length_toList]
    have b2:es2.size<scanBound:=by rw[sz2];exact b1
    refine qb (hg _ _ _ (qb (wpAny_storeSet_of at1 rfl (qc (k _ (sb1.trans (Heap.SameBut.update _ a _)) ?_)) (fits_of_scanBound b2))))
    have at2:((s.heap.update a (Obj.putSet es1 t2)).update a (Obj.putSet es2 t3)).get? a=some {o with data:=.set es2 (ep+1+1) t3}:=by
     have z:=Heap.get?_update_self (Obj.putSet es2 t3) at1 (by rw[putSet_of (es:=es1) (ep:=ep+1) (t:=t2) es2 t3 rfl];rfl)
     rw[putSet_of (es:=es1) (ep:=ep+1) (t:=t2) es2 t3 rfl] at z;exact z
    exact⟨_,es2,ep+1+1,t3,at2,hex,rfl,hel1.perm rp,(rp.map _).trans hp1,nd1,b2,rf,λ q=>(by rw[p2] at rm;exact absurd (rm.2 q) (by simp)),λ q=>by rw[rm.1,l2];exact hled q⟩
   ·exact qc (k _ sb1 ⟨_,es1,ep+1,t2,at1,hex,rfl,hel1,hp1,nd1,b1,f2,λ q=>(by rw[p2] at q;cases q),λ q=>by rw[l2];exact hled q⟩)
  have done:∀ h',Heap.SameBut a s.heap h'->SetS P w bt h' a (ss++[x])->Q true {s with heap:=h'}:=λ h' c1 c2=>by
   have:=h h' c1 (by rw[if_neg hx];exact c2)
   rw[decide_eq_false hx] at this;exact this
  split
  ·refine qb ?_
   rw[hashByValue_scannable 8 hsc];refine qc (fin _ gw _ _ ?_ ?_ ?_ λ h' c1 c2=>?_)
   ·exact SetTable.fits_plain_off lf
   ·exact lm.1
   ·rfl
   ·dsimp only;exact qc (done h' c1 c2)
  ·rename_i np
   refine qb (qc ?_);simp only[↓reduceIte];refine fin _ gw _ _ lf lm.1 (by simpa using np) λ h' c1 c2=>?_
   dsimp only;exact qc (done h' c1 c2)
end
end Fx
namespace Fx
open PySem
def I_4 (acc:List Str) (x:Str):List Str:=if x∈acc then acc else acc++[x]
def a_6 (acc:List Str) (xs:List Str):List Str:=xs.foldl I_4 acc
def n_1 (xs:List D):Option D:=bnd (ak8 xs) λ ss=>if ss.length<64 then some (.lst ((c_4 (a_6 [] ss)).map .str)) else none
def t_1:List D->Option D
 |[.tup xs]=>n_1 xs
 |[.lst xs]=>n_1 xs
 |_=>none
@[simp] theorem aW3 (xs:List D):t_1 [.lst xs]=n_1 xs:=Eq.trans rfl rfl
theorem s_1 (ks:List Str) (h:ks.length<64):n_1 (ks.map .str)=some (.lst ((c_4 (a_6 [] ks)).map .str)):=by
 unfold n_1;rw[u_7,b_8,if_pos h]
theorem mem_addAll {y:Str}:∀ {xs acc:List Str},y∈a_6 acc xs↔y∈acc\/y∈xs
 |[],acc=>by simp[a_6]
 |x::r,acc=>by
  have ih:=mem_addAll (y:=y) (xs:=r) (acc:=I_4 acc x);show y∈a_6 (I_4 acc x) r↔_;rw[ih,List.mem_cons]
  have:y∈I_4 acc x↔y∈acc\/y=x:=by
   unfold I_4
   split
   ·rename_i h
    exact⟨.inl,λ q=>q.elim id λ e=>e▸h⟩
   ·rw[List.mem_append,List.mem_singleton]
  rw[this];exact⟨λ q=>by rcases q with (q | q) | q;exact .inl q;exact .inr (.inl q);exact .inr (.inr q),λ q=>by rcases q with q | q | q;exact .inl (.inl q);exact .inl (.inr q);exact .inr q⟩
end Fx
namespace Fx
open PySem PySem.Spec
theorem f_1:∀ (xs acc:List Str),(a_6 acc xs).length<=acc.length+xs.length
 |[],acc=>qi _
 |x::r,acc=>by
  have h:=f_1 r (I_4 acc x)
  have h2:(I_4 acc x).length<=acc.length+1:=by
   unfold I_4;split
   ·omega
   ·rw[List.length_append];exact qi _
  show (a_6 (I_4 acc x) r).length<=_;rw[List.length_cons];omega
def ItAt:Bool->Heap->Addr->Addr->Nat->Prop
 |true,h,it,c,i=>h.IsTupleIter it c i
 |false,h,it,c,i=>h.IsListIter it c i
def SqAt:Bool->Heap->Addr->Array Value->Prop
 |true,h,c,us=>h.IsTuple c us
 |false,h,c,us=>h.IsList c us
section
variable {P:Program}{w:World}{A:Around}{E:Value->Shared->Prop}{s:Shared}{it c:Addr}{i:Nat}{us:Array Value}
theorem SqAt.keep {T:Bool}{h h':Heap} (q:SqAt T h c us) (k:∀ b o,h.get? b=some o->h'.get? b=some o):SqAt T h' c us:=by
 cases T with
 |true=>obtain⟨o,ho,r⟩:=q;exact⟨o,k _ _ ho,r⟩
 |false=>obtain⟨o,ho,r⟩:=q;exact⟨o,k _ _ ho,r⟩
theorem ao3 {T:Bool}{x:Value}{Q:Option Value->Shared->Prop} (a:ItAt T s.heap it c i) (b:SqAt T s.heap c us) (hx:us[i]?=some x)
  (k:∀ h',ItAt T h' it c (i+1)->Heap.SameBut it s.heap h'->Q (some x) {s with heap:=h'}):wpAny (model P w) A (pyNext (.ref it)) Q E s:=by
 cases T with
 |true=>exact wpAny_pyNext_tuple_item a b hx k
 |false=>exact wpAny_pyNext_list_item a b hx k
theorem aA4 {T:Bool}{Q:Option Value->Shared->Prop} (hh:A.handled=none) (a:ItAt T s.heap it c i) (b:SqAt T s.heap c us) (hx:us[i]?=none)
  (k:∀ h',Heap.ExtBut it s.heap h'->Q none {s with heap:=h'}):wpAny (model P w) A (pyNext (.ref it)) Q E s:=by
 cases T with
 |true=>exact wpAny_pyNext_tuple_end hh a b hx k
 |false=>exact wpAny_pyNext_list_end hh a b hx k
theorem ah8 {T:Bool}{Q:Value->Shared->Prop} (b:SqAt T s.heap c us)
  (k:∀ oI:Obj,ItAt T (s.heap.push oI) s.heap.objs.size c 0->Q (.ref s.heap.objs.size) {s with heap:=s.heap.push oI}):wpAny (model P w) A (pyIter (.ref c)) Q E s:=by
 cases T with
 |true=>exact wpAny_pyIter_tuple b (k _ ⟨_,qj _ rfl,rfl,rfl⟩)
 |false=>exact wpAny_pyIter_list b (k _ ⟨_,qj _ rfl,rfl,rfl⟩)
theorem ItAt.same {T:Bool}{h h':Heap}{b:Addr} (q:ItAt T h it c i) (sb:Heap.SameBut b h h') (ne:it≠b):ItAt T h' it c i:=by
 cases T with
 |true=>obtain⟨o,ho,r⟩:=q;exact⟨o,(sb.2 it ne).trans ho,r⟩
 |false=>obtain⟨o,ho,r⟩:=q;exact⟨o,(sb.2 it ne).trans ho,r⟩
theorem SetS.same {bt:Bool}{h h':Heap}{a b:Addr}{ss:List Str} (q:SetS P w bt h a ss) (sb:Heap.SameBut b h h') (ne:a≠b):SetS P w bt h' a ss:=by
 obtain⟨o,es,ep,t,ho,r⟩:=q;exact⟨o,es,ep,t,(sb.2 a ne).trans ho,r⟩
theorem SetS.ext {bt:Bool}{h h':Heap}{a b:Addr}{ss:List Str} (q:SetS P w bt h a ss) (eb:Heap.ExtBut b h h') (ne:a≠b):SetS P w bt h' a ss:=by
 obtain⟨o,es,ep,t,ho,r⟩:=q;exact⟨o,es,ep,t,eb a _ ne ho,r⟩
theorem SetS.keep {bt:Bool}{h h':Heap}{a:Addr}{ss:List Str} (q:SetS P w bt h a ss) (k:∀ b o,h.get? b=some o->h'.get? b=some o):SetS P w bt h' a ss:=by
 obtain⟨o,es,ep,t,ho,r⟩:=q;exact⟨o,es,ep,t,k _ _ ho,r⟩
theorem aJ7 {all:List Value}{xs:List Str} (h:PyProof.Rows.StrsAre all xs) {i:Nat}{x:Str}{r:List Str} (e:xs.drop i=x::r):∃ tk,all[i]?=some (.str x tk):=by
 induction h generalizing i with
 |nil=>simp at e
 |cons y t h ih =>
  cases i with
  |zero =>
   rw[List.drop_zero] at e;injection e with e1 e2
   subst e1;exact⟨t,rfl⟩
  |succ i =>
   rw[List.drop_succ_cons] at e;obtain⟨tk,q⟩:=ih e;exact⟨tk,by simpa using q⟩
theorem ay4 {bt T:Bool}{hI:Heap}{a:Addr}{all:List Value}{xs0:List Str}{R:Result->Shared->Prop} (ha0:hI.get? a=none) (hi0:hI.get? it=none) (hne:a≠it) (sq:SqAt T hI c all.toArray) (sa:PyProof.Rows.StrsAre all xs0) (hh:A.handled=none) :
  ∀ (xs:List Str) (acc:List Str) (s:Shared) (i:Nat),xs0.drop i=xs->(∀ b o,hI.get? b=some o->s.heap.get? b=some o)->ItAt T s.heap it c i->SetS P w bt s.heap a acc->acc.length+xs.length+1<scanBound ->
   (∀ h' tk',(∀ b o,hI.get? b=some o->h'.get? b=some o)->SetS P w bt h' a (a_6 acc xs)->R (.ok (.ret .none)) {s with heap:=h',toks:=tk'}) ->
   codeAny (model P w) A (.builtin "set.update.loop" ⟨[.ref a,.ref it],[]⟩) R s:=by
 intro xs
 induction xs with
 |nil =>
  intro acc s i e kp hit hS hz q;refine codeAny_builtin PyProof.Rows.F.entry_set_update_loop ?_;rw[Around.under_plainId PyProof.Rows.F.plain_set_update_loop _];show wpAny _ A.in1 (pyNext (.ref it) >>= _) _ _ s
  have hl:all.length=xs0.length:=by
   have:=sa.strs;rw[<- this,List.length_map]
  have hx:all.toArray[i]?=none:=by
   have:all[i]?=none:=List.getElem?_eq_none (by rw[hl];simpa using e)
   simpa using this
  refine qb (aA4 hh hit (sq.keep kp) hx λ h' eb=>qc ?_)
  exact q h' s.toks (λ b o hb=>eb b o (λ z=>by rw[z,hi0] at hb;cases hb) (kp _ _ hb)) (hS.ext eb hne)
 |cons x xs ih =>
  intro acc s i e kp hit hS hz q;refine codeAny_builtin PyProof.Rows.F.entry_set_update_loop ?_;rw[Around.under_plainId PyProof.Rows.F.plain_set_update_loop _];show wpAny _ A.in1 (pyNext (.ref it) >>= _) _ _ s;obtain⟨tk,hx0⟩:=aJ7 sa e;have hx:all.toArray[i]?=some (.str x tk):=by simpa using hx0
  refine qb (ao3 hit (sq.keep kp) hx λ h1 hit1 sb1=>?_)
  have kp1:∀ b o,hI.get? b=some o->h1.get? b=some o:=λ b o hb=>(sb1.2 b (λ z=>by rw[z,hi0] at hb;cases hb)).trans (kp _ _ hb)
  show wpAny _ A.in1 (holding [Value.str x tk] (setAdd a (.str x tk)) >>= _) _ _ _;refine qb (wpAny_holding ?_);unfold setAdd;have hkey:(PySem.strKind P w).is x (.str x tk)=true:=by rw[i_2 rfl];simp
  refine wpAny_holding (qb ((PySem.strKind P w).pyHash hkey ?_));simp only[List.length_cons] at hz;refine z_2 (s:={s with heap:=h1,toks:=s.toks+1}) (hS.same sb1 hne) (by omega) λ h2 sb2 hS2=>?_
  have kp2:∀ b o,hI.get? b=some o->h2.get? b=some o:=λ b o hb=>(sb2.2 b (λ z=>by rw[z,ha0] at hb;cases hb)).trans (kp1 _ _ hb)
  have l2:(I_4 acc x).length<=acc.length+1:=by
   unfold I_4;split
   ·omega
   ·rw[List.length_append];exact qi _
  refine qc ⟨plainId_quiet PyProof.Rows.F.plain_set_update_loop _,?_⟩;exact ih (I_4 acc x) {s with heap:=h2,toks:=s.toks+1} (i+1) (by rw[<- List.drop_drop,e];rfl) kp2 (hit1.same sb2 (Ne.symm hne)) hS2 (by omega) λ h' tk' c1 c2=>q h' tk' c1 c2
end
abbrev byT (w:World):Bool:=w.params.followText "set-order"
abbrev newS (w:World):Obj:={cls:=.type "set",dict:=none,data:=.set #[] 0 (.fresh 0 0 (!byT w))}
theorem L_1:isSubtype (.type "tuple") (.type "set")=pure false:=by rw[isSubtype_type];kernel_rfl
theorem w_3:isSubtype (.type "tuple") (.type "frozenset")=pure false:=by rw[isSubtype_type];kernel_rfl
section
variable {P:Program}{w:World}{A:Around}{E:Value->Shared->Prop}{s:Shared}
theorem ay5 (h:Heap):SetS P w (byT w) (h.push (newS w)) h.objs.size [] :=
 ⟨_,#[],0,_,qj _ rfl,⟨rfl,rfl,rfl⟩,rfl,λ e he=>(by simp at he),List.Perm.refl _,List.nodup_nil,by decide,by rfl,λ _=>rfl,λ e=>by show (!byT w)=true;rw[e];rfl⟩
theorem ac5 {Q:Value → Shared → Prop} (h:Q (.ref s.heap.objs.size) {s with heap:=s.heap.push (newS w)}):wpAny (model P w) A (newSet (.type "set")) Q E s:=by
 unfold newSet setsByText;refine qb (qb (wpAny_askSetting (qc ?_)));dsimp only;simp only[newObj];exact qb (wpAny_alloc (qc h))
theorem ai5 (v:Value) {Q₁:Value->Shared->Prop} (h:Q₁ (.ref s.heap.objs.size) {s with heap:=s.heap.push (newS w)}) :
  codeAny (model P w) A (.call (.builtin "set.__new__") ⟨[.type "set",v],[]⟩) (wants Q₁ E) s:=by
 refine codeAny_of_tree ?_;show wpAny _ A.in1 (checkBuiltinCall "set.__new__" ⟨[.type "set",v],[]⟩ >>= λ _=>again (.builtin "set.__new__" ⟨[.type "set",v],[]⟩)) _ _ s
 refine qb (wpAny_of_eq (F.newCall_set_1 v) (qc ⟨plainId_quiet F.plain_set_new _,codeAny_builtin F.entry_set_new ?_⟩));rw[Around.under_plainId F.plain_set_new _];unfold Builtin.«set.__new__» Builtin.Frozenset.newClass;have sb:=sub_set_self;obtain⟨h0,g0,d0,k0,o0⟩:=s;dsimp only
 wp_walk
 refine wpAny_askSetting (qc ?_);dsimp only;simp only[newObj];exact qb (wpAny_alloc (qc (qc h)))
set_option maxHeartbeats 3200000 in
theorem au9 {T:Bool}{c:Addr}{all:List Value}{xs:List Str}{Q:Value->Shared->Prop} (hh:A.handled=none) (sq:SqAt T s.heap c all.toArray) (sa:PyProof.Rows.StrsAre all xs) (hz:xs.length+1<scanBound)
  (k:∀ (h':Heap) (tk:Nat),(∀ b o,s.heap.get? b=some o->h'.get? b=some o)->SetS P w (byT w) h' s.heap.objs.size (a_6 [] xs)->Q (.ref s.heap.objs.size) {s with heap:=h',toks:=tk}) :
  wpAny (model P w) A (call (.type "set") [.ref c]) Q E s:=by
 obtain⟨mc,mt,mr⟩:=F.called_set.mro;have md:=F.called_set.made;have su:=F.called_set.sub;refine wpAny_call (codeAny_of_tree ?_);show wpAny _ _ (callAny (.type "set") _) _ _ _;refine qc ⟨Code.quiet_builtin _ (by decide +kernel),codeAny_builtin F.entry_type_call ?_⟩
 rw[Around.under_plain (weight_type_call_type "set" [.ref c] []) rfl];have f1:=F.called_set.notType;have f2:=F.called_set.canCreate;have f3:=F.typeCall_set_1 (.ref c)
 repeat (any_goals (first | assumption | wp_step))
 refine codeAny_mono (ai5 (.ref c) (E:=E) (Q₁:=λ z s1=>z=.ref s.heap.objs.size/\s1={s with heap:=s.heap.push (newS w)}) ⟨rfl,rfl⟩) λ r s1 hr=>?_
 cases r with
 |error e=>exact hr
 |ok fl =>
  cases fl with
  |ret z =>
   obtain⟨rfl,rfl⟩:=hr;have at0:(s.heap.push (newS w)).get? s.heap.objs.size=some (newS w):=qj _ rfl;have ty0:Shared.TypeIs {s with heap:=s.heap.push (newS w)} (.ref s.heap.objs.size) "set":=⟨_,at0,rfl⟩
   have li:=F.called_set.init.lookup;have bi:=F.called_set.init.bind (.ref s.heap.objs.size)
   repeat (any_goals (first | assumption | wp_step))
   refine codeAny_mono (codeAny_call_builtin (R:=wants (λ r s2=>r=.none/\∃ h' tk,s2={s with heap:=h',toks:=tk}/\(∀ b o,s.heap.get? b=some o->h'.get? b=some o)/\SetS P w (byT w) h' s.heap.objs.size (a_6 [] xs)) E) F.called_set.init.plain F.entry_set_init (check_set_init_1 ty0 ?_)) λ r2 s2 hr2=>?_
   ·have sq1:SqAt T (s.heap.push (newS w)) c all.toArray:=sq.keep λ b o e=>qd _ e
    have e1:∃ TT:String,Shared.TypeIs {s with heap:=s.heap.push (newS w)} (.ref c) TT ∧ (isSubtype (.type TT) (.type "set")=pure false) ∧ (isSubtype (.type TT) (.type "frozenset")=pure false) ∧ (Value.type TT==Value.type "dict")=false:=by
     cases T with
     |true=>obtain⟨o,ho,hc,_⟩:=sq1;exact⟨"tuple",⟨o,ho,hc⟩,L_1,w_3,by decide⟩
     |false=>obtain⟨o,ho,hc,_⟩:=sq1;exact⟨"list",⟨o,ho,hc⟩,F.sub_list_set,F.sub_list_frozenset,by decide⟩
    obtain⟨TT,tyc,n1,n2,n3⟩:=e1;unfold Builtin.«set.__init__» noKeywords Builtin.Frozenset.updateFrom
    generalize hPI:pyIter=PI
    wp_walk
    subst hPI;refine ah8 (s:={s with heap:=s.heap.push (newS w)}) sq1 λ oI hI0=>?_
    have sz:(s.heap.push (newS w)).objs.size=s.heap.objs.size+1:=by rw[Heap.size_push]
    have none_of:∀ n,s.heap.objs.size<=n->s.heap.get? n=none:=λ n hn=>by
     cases z:s.heap.get? n with
     |none=>rfl
     |some o=>exact absurd (qk z) (Nat.not_lt.mpr hn)
    refine qb (wpAny_runValue ?_);refine ay4 (A:=A.in1.in1) (bt:=byT w) (hI:=s.heap) (none_of _ (qi _)) (none_of _ (by show s.heap.objs.size<=(s.heap.push (newS w)).objs.size;rw[sz];exact Nat.le_succ _)) (by show s.heap.objs.size≠(s.heap.push (newS w)).objs.size;rw[sz];exact qo (Nat.lt_succ_self _)) sq sa hh
     xs [] {s with heap:=(s.heap.push (newS w)).push oI} 0 rfl (λ b o e=>qd _ (qd _ e)) hI0 ((ay5 s.heap).keep λ b o e=>qd _ e) (by rw[List.length_nil];omega) λ h' tk c1 c2=>?_
    refine qc (qc ?_);exact⟨rfl,h',tk,rfl,c1,c2⟩
   ·cases r2 with
    |error e=>exact hr2
    |ok fl2 =>
     cases fl2 with
     |ret r =>
      obtain⟨rfl,h',tk,rfl,c1,c2⟩:=hr2
      repeat (any_goals (first | assumption | wp_step))
      exact k _ _ c1 c2
     |_=>exact hr2.elim
  |_=>exact hr.elim
end
theorem slot_sit_next:Slot "set_iterator" "__next__" "set_iterator.__next__" :=
 .of (owner:="set_iterator") (n:="__next__") (by rw[typeLookup_type,builtinLookup_eq_fast];kernel_rfl) (by decide +kernel) (by decide +kernel) (by decide +kernel) (by first | exact .inl (by decide +kernel) | exact .inr (by decide +kernel)) (by rw[isSubtype_type];kernel_rfl)
theorem x_6:Slot "set_iterator" "__iter__" "set_iterator.__iter__" :=
 .of (owner:="set_iterator") (n:="__iter__") (by rw[typeLookup_type,builtinLookup_eq_fast];kernel_rfl) (by decide +kernel) (by decide +kernel) (by decide +kernel) (by first | exact .inl (by decide +kernel) | exact .inr (by decide +kernel)) (by rw[isSubtype_type];kernel_rfl)
theorem I_2:entryFor table "set_iterator.__next__"=some Builtin.«set_iterator.__next__»:=entryFor_of_tree (by kernel_rfl)
theorem I_3:entryFor table "set_iterator.__iter__"=some Builtin.«dict_keyiterator.__iter__» :=
 entryFor_alias (id':="dict_keyiterator.__iter__") (by kernel_rfl) (by first | rfl | decide +kernel) (by decide +kernel) (by kernel_rfl)
theorem F_3:entryFor table "set.__iter__"=some Builtin.«frozenset.__iter__» :=
 entryFor_alias (id':="frozenset.__iter__") (by kernel_rfl) (by first | rfl | decide +kernel) (by decide +kernel) (by kernel_rfl)
theorem O_8 (v:Value):argsOk "set_iterator.__next__" ⟨[v],[]⟩:=by unfold argsOk;kernel_rfl
theorem O_9 (v:Value):argsOk "set_iterator.__iter__" ⟨[v],[]⟩:=by unfold argsOk;kernel_rfl
abbrev ab4 (first:Value) (i:Int) (a:Addr) (n ep:Nat):Obj:={cls:=.type "set_iterator",data:=.fields #[first,.int i 0,.ref a,.int n 0,.int ep 0]}
section
variable {P:Program}{w:World}{A:Around}{E:Value->Shared->Prop}{s:Shared}{it a:Addr}
theorem L_4 {o:Obj}{Q:Value → Shared → Prop} (ho:s.heap.get? it=some o) (hc:o.cls=.type "set_iterator") (h:Q (.ref it) s):wpAny (model P w) A (pyIter (.ref it)) Q E s:=by
 have ty:s.TypeIs (.ref it) "set_iterator":=⟨o,ho,hc⟩;refine wpAny_pyIter_slot ty x_6 (wpAny_call_entry x_6 ty I_3 ?_ (O_9 _));show wpAny _ _ (ret (.ref it)) _ _ s;exact qc ⟨_,rfl,"set_iterator",_,ty,slot_sit_next.lookup,h⟩
theorem D_1 {o:Obj}{Q:Option Value → Shared → Prop} (ho:s.heap.get? it=some o) (hc:o.cls=.type "set_iterator")
  (h:wpAny (model P w) A.in1 (Builtin.«set_iterator.__next__» ⟨[.ref it],[]⟩) (λ fin s'=>∃ v,fin=.done (.ret v) ∧ Q (some v) s') (λ e s'=>∃ x oe,e=.ref x ∧ s'.heap.get? x=some oe ∧ oe.cls=.type "StopIteration" ∧ Q none s') s) :
  wpAny (model P w) A (pyNext (.ref it)) Q E s:=by
 have ty:s.TypeIs (.ref it) "set_iterator":=⟨o,ho,hc⟩;unfold pyNext;refine qb (wpAny_attempt (wpAny_callSpecial?_slot (name:=Str.ofString "__next__") ty slot_sit_next (wpAny_call_entry slot_sit_next ty I_2 (wpAny_mono h (λ fin s' q=>?_) λ e s' q=>?_) (O_8 _))))
 ·obtain⟨v,rfl,q⟩:=q
  exact⟨v,rfl,qc q⟩
 ·obtain⟨x,oe,rfl,h1,h2,q⟩:=q
  exact qb (wpAny_isInstance (T:="StopIteration") (b:=true) ⟨oe,h1,h2⟩ isSubtype_stop (qc q))
theorem aF1 {α:Type}{Q:α->Shared->Prop} (hh:A.handled=none)
  (k:∀ (h':Heap) (x:Addr) (oe:Obj),(∀ b o,s.heap.get? b=some o → h'.get? b=some o) → h'.get? x=some oe → oe.cls=.type "StopIteration" → E (.ref x) {s with heap:=h'}) :
  wpAny (model P w) A (newExc (.type "StopIteration") [] >>= λ e=>raiseNew e) Q E s:=by
 refine qb ?_;simp only[newExc,newTuple];refine qb (wpAny_newObj_type ?_ (by size_fits))
 refine qb (m:=firstArgMember _ _) (wpAny_of_eq (a:=Value.none) (by first | rfl | (simp only[firstArgMember];rfl)) (wpAny_newObj_type ?_ (by size_fits)))
 simp only[raiseNew];refine qb (wpAny_handled ?_);rw[hh];exact qb (qc (wpAny_throw (k _ _ _ (λ b o e=>qd _ (qd _ e)) (qj _ rfl) rfl)))
end
section
variable {P:Program}{w:World}{A:Around}{E:Value->Shared->Prop}{s:Shared}{it a:Addr}
structure SObj (h:Heap) (a:Addr) (es:Array (Int×Value)) (ep:Nat) (t:SetTable):Prop where
 at_:∃ o,h.get? a=some o/\o.ExactSet/\o.data=.set es ep t
 fits:t.fits es.size=true
theorem SObj.keep {h h':Heap}{es:Array (Int×Value)}{ep:Nat}{t:SetTable} (q:SObj h a es ep t) (k:∀ o,h.get? a=some o->h'.get? a=some o):SObj h' a es ep t:=by
 obtain⟨⟨o,h1,h2⟩,f⟩:=q;exact⟨⟨o,k o h1,h2⟩,f⟩
theorem ah4 {es:Array (Int×Value)}{ep:Nat}{t:SetTable}{tp:Addr}{pl:List Nat}{i p:Nat}{e:Int×Value}{Q:Option Value->Shared->Prop} (hI:s.heap.get? it=some (ab4 (.ref tp) i a es.size ep)) (hO:SObj s.heap a es ep t)
  (hT:s.heap.IsTuple tp (pl.map λ q:Nat=>Value.int q 0).toArray) (hp:pl[i]?=some p) (he:es[p]?=some e)
  (k:∀ h',h'.get? it=some (ab4 (.ref tp) (i+1:Nat) a es.size ep)->Heap.SameBut it s.heap h'->Q (some e.2) {s with heap:=h'}):wpAny (model P w) A (pyNext (.ref it)) Q E s:=by
 obtain⟨⟨o,h1,h2,h3⟩,hf⟩:=hO;obtain⟨ot,t1,t2,tn,t3⟩:=hT;refine D_1 hI rfl ?_;show wpAny _ _ (fieldsOf (.ref it) >>= _) _ _ s;refine qb (wpAny_fieldsOf hI rfl ?_);show wpAny _ _ (setEntries a >>= _) _ _ s;refine qb (wpAny_setEntries_of h1 h3 hf ?_);rw[if_neg (by simp)]
 show wpAny _ _ (seqItems? (.ref tp) >>= _) _ _ s;refine qb (wpAny_seqItems t1 t3 ?_)
 have pk:(pl.map λ q:Nat=>Value.int q 0).toArray[((i:Nat):Int).toNat]?=some (.int p 0):=by
  simp[hp]
 dsimp only;rw[pk];show wpAny _ _ (setNextDrawn a ((p:Nat):Int).toNat ((ep:Nat):Int).toNat >>= _) _ _ s;refine qb ?_;unfold setNextDrawn;refine qb (wpAny_setState_of h1 h3 hf ?_);dsimp only;rw[if_neg (by simp)]
 have ek:es[((p:Nat):Int).toNat]?=some (e.1,e.2):=by simpa using he
 rw[ek];refine qc (qb (wpAny_setField hI rfl (by simp) (qc ⟨_,rfl,k _ ?_ (Heap.SameBut.update ..)⟩)))
 have z:=Heap.get?_update_self (Obj.mapFields (·.setIfInBounds 1 (rawInt (((i:Nat):Int)+1)))) hI rfl;rw[z];rfl
theorem at3 {es:Array (Int×Value)}{ep:Nat}{t:SetTable}{tp:Addr}{pl:List Nat}{i:Nat}{Q:Option Value->Shared->Prop} (hh:A.handled=none) (hI:s.heap.get? it=some (ab4 (.ref tp) i a es.size ep)) (hO:SObj s.heap a es ep t)
  (hT:s.heap.IsTuple tp (pl.map λ q:Nat=>Value.int q 0).toArray) (hp:pl[i]?=none)
  (k:∀ h',Heap.ExtBut it s.heap h'->Q none {s with heap:=h'}):wpAny (model P w) A (pyNext (.ref it)) Q E s:=by
 obtain⟨⟨o,h1,h2,h3⟩,hf⟩:=hO;obtain⟨ot,t1,t2,tn,t3⟩:=hT;refine D_1 hI rfl ?_;show wpAny _ _ (fieldsOf (.ref it) >>= _) _ _ s;refine qb (wpAny_fieldsOf hI rfl ?_);show wpAny _ _ (setEntries a >>= _) _ _ s;refine qb (wpAny_setEntries_of h1 h3 hf ?_);rw[if_neg (by simp)]
 show wpAny _ _ (seqItems? (.ref tp) >>= _) _ _ s;refine qb (wpAny_seqItems t1 t3 ?_)
 have pk:(pl.map λ q:Nat=>Value.int q 0).toArray[((i:Nat):Int).toNat]?=none:=by
  simp[hp]
 dsimp only;rw[pk];refine qb (wpAny_setField hI rfl (by simp) ?_)
 have z:=Heap.get?_update_self (Obj.mapFields (·.setIfInBounds 0 (rawInt 0))) hI rfl;refine qb (wpAny_setField z rfl (by simp[ab4,Obj.mapFields]) ?_)
 refine aF1 hh λ h' x oe kp hx hc=>⟨x,oe,rfl,hx,hc,k h' λ b ob hb e=>kp b ob ?_⟩
 rw[Heap.get?_update_other _ _ (Ne.symm hb),Heap.get?_update_other _ _ (Ne.symm hb)];exact e
theorem S_5 {es:Array (Int×Value)}{ep:Nat}{t:SetTable}{sl nx i:Nat}{v:Value}{Q:Option Value->Shared->Prop} (hI:s.heap.get? it=some (ab4 (.int sl 0) i a es.size ep)) (hO:SObj s.heap a es ep t)
  (hN:∀ (A':Around) (Q':Option (Value×Nat)->Shared->Prop) (E':Value->Shared->Prop),Q' (some (v,nx)) s->wpAny (model P w) A' (setNext a sl i ep) Q' E' s)
  (k:∀ h',h'.get? it=some (ab4 (.int nx 0) (i+1:Nat) a es.size ep)->Heap.SameBut it s.heap h'->Q (some v) {s with heap:=h'}):wpAny (model P w) A (pyNext (.ref it)) Q E s:=by
 obtain⟨⟨o,h1,h2,h3⟩,hf⟩:=hO;refine D_1 hI rfl ?_;show wpAny _ _ (fieldsOf (.ref it) >>= _) _ _ s;refine qb (wpAny_fieldsOf hI rfl ?_);show wpAny _ _ (setEntries a >>= _) _ _ s;refine qb (wpAny_setEntries_of h1 h3 hf ?_);rw[if_neg (by simp)]
 show wpAny _ _ (setNext a ((sl:Nat):Int).toNat ((i:Nat):Int).toNat ((ep:Nat):Int).toNat >>= _) _ _ s;rw[Int.toNat_natCast,Int.toNat_natCast,Int.toNat_natCast];refine qb (hN _ _ _ ?_);dsimp only;refine qb (wpAny_setField hI rfl (by simp) ?_)
 have z:=Heap.get?_update_self (Obj.mapFields (·.setIfInBounds 0 (rawInt (nx:Int)))) hI rfl;refine qb (wpAny_setField z rfl (by simp[ab4,Obj.mapFields]) (qc ⟨_,rfl,k _ ?_ ((Heap.SameBut.update ..).trans (Heap.SameBut.update ..))⟩))
 have z2:=Heap.get?_update_self (Obj.mapFields (·.setIfInBounds 1 (rawInt (((i:Nat):Int)+1)))) z rfl;rw[z2];rfl
theorem ae5 {es:Array (Int×Value)}{ep:Nat}{t:SetTable}{sl i:Nat}{Q:Option Value->Shared->Prop} (hh:A.handled=none) (hI:s.heap.get? it=some (ab4 (.int sl 0) i a es.size ep)) (hO:SObj s.heap a es ep t)
  (hN:∀ (A':Around) (Q':Option (Value×Nat)->Shared->Prop) (E':Value->Shared->Prop),Q' none s->wpAny (model P w) A' (setNext a sl i ep) Q' E' s)
  (k:∀ h',Heap.ExtBut it s.heap h'->Q none {s with heap:=h'}):wpAny (model P w) A (pyNext (.ref it)) Q E s:=by
 obtain⟨⟨o,h1,h2,h3⟩,hf⟩:=hO;refine D_1 hI rfl ?_;show wpAny _ _ (fieldsOf (.ref it) >>= _) _ _ s;refine qb (wpAny_fieldsOf hI rfl ?_);show wpAny _ _ (setEntries a >>= _) _ _ s;refine qb (wpAny_setEntries_of h1 h3 hf ?_);rw[if_neg (by simp)]
 show wpAny _ _ (setNext a ((sl:Nat):Int).toNat ((i:Nat):Int).toNat ((ep:Nat):Int).toNat >>= _) _ _ s;rw[Int.toNat_natCast,Int.toNat_natCast,Int.toNat_natCast];refine qb (hN _ _ _ ?_);dsimp only;refine qb (wpAny_setField hI rfl (by simp) ?_)
 refine aF1 hh λ h' x oe kp hx hc=>⟨x,oe,rfl,hx,hc,k h' λ b ob hb e=>kp b ob ?_⟩
 rw[Heap.get?_update_other _ _ (Ne.symm hb)];exact e
theorem Q_2 {es:Array (Int×Value)}{ep:Nat}{t:SetTable}{sl i:Nat} (hO:SObj s.heap a es ep t) (bt:byT w=true) {Q:Option (Value×Nat)->Shared->Prop} (q:Q (((pickOrder (w.params.setOrder a ep) es)[i]?).map λ e=>(e.2,sl)) s) :
  wpAny (model P w) A (setNext a sl i ep) Q E s:=by
 obtain⟨⟨o,h1,h2,h3⟩,hf⟩:=hO;unfold setNext;refine qb (wpAny_setState_of h1 h3 hf ?_);dsimp only;unfold setsByText;refine qb (qb (wpAny_askSetting (qc ?_)))
 split
 ·rw[if_neg (by simp)]
  unfold setWalk setsByText;refine qb (qb (wpAny_setState_of h1 h3 hf ?_));dsimp only;refine qb (qb (wpAny_askSetting (qc ?_)))
  split
  ·exact qb (wpAny_askSetting (qc (qc q)))
  ·rename_i c;exact absurd bt c
 ·rename_i c;exact absurd bt c
theorem Q_3 {es:Array (Int×Value)}{ep:Nat}{t:SetTable}{sl i:Nat} (hO:SObj s.heap a es ep t) (bt:byT w=false) (le:es.size<=1) (ld:t.led=true) {Q:Option (Value×Nat)->Shared->Prop}
  (q:Q (match es[SetTable.below t.place sl]?,t.place[SetTable.below t.place sl]? with | some (_,x),some j=>some (x,j+1) | _,_=>none) s) :
  wpAny (model P w) A (setNext a sl i ep) Q E s:=by
 obtain⟨⟨o,h1,h2,h3⟩,hf⟩:=hO;unfold setNext;refine qb (wpAny_setState_of h1 h3 hf ?_);dsimp only;unfold setsByText;refine qb (qb (wpAny_askSetting (qc ?_)))
 split
 ·rename_i c
  have c:byT w=true:=c;rw[bt] at c;cases c
 ·split
  ·rename_i c
   have c:(!t.plain&&decide (es.size > 1))=true:=c;simp at c;omega
  ·have m:∀ (Q':Unit → Shared → Prop),Q' () s → wpAny (model P w) A (if (!t.led&&!es.isEmpty)=true then unsupported "set:maker-not-led" else pure ()) Q' E s:=λ Q' q'=>by
    rw[if_neg (by simp[ld])];exact qc q'
   exact qb (m _ (qc q))
end
section
variable {P:Program}{w:World}{A:Around}{E:Value->Shared->Prop}{s:Shared}{a:Addr}
def aE1 (P:Program) (w:World) (X:Addr->Prop) (I:Addr) (vs:List Value) (h:Heap):Prop :=
 ∃ (fp:List Addr) (St:Nat->Heap->Prop),(∀ A:Around,A.handled=none->Walks P w A I fp [I] vs.length (λ i v=>vs[i]?=some v) St)/\St 0 h/\∀ b∈fp,b<h.objs.size/\X b
theorem ag9 (es:Array (Int×Value)):((List.range es.size).map λ p=>(es.getD p default).2)=es.toList.map (·.2):=by
 apply List.ext_getElem?
 intro i
 by_cases h:i<es.size
 ·simp[h,Array.getD]
 ·have h':es.size<=i:=Nat.not_lt.mp h
  simp[h']
theorem W_7 {es:Array (Int×Value)}{ep:Nat}{t:SetTable}{tp I:Addr}{pl:List Nat}{h:Heap} (hI:h.get? I=some (ab4 (.ref tp) 0 a es.size ep)) (hO:SObj h a es ep t)
  (hT:h.IsTuple tp (pl.map λ q:Nat=>Value.int q 0).toArray) (hp:pl.Perm (List.range es.size)) (n1:a≠I) (n2:tp≠I) {X:Addr->Prop} (xI:X I) (xa:X a) (xt:X tp):aE1 P w X I (pl.map λ p=>(es.getD p default).2) h:=by
 refine⟨[I,a,tp],λ i h=>h.get? I=some (ab4 (.ref tp) (i:Nat) a es.size ep)/\SObj h a es ep t/\h.IsTuple tp (pl.map λ q:Nat=>Value.int q 0).toArray,λ A hh=>?_,⟨hI,hO,hT⟩,λ b hb=>?_⟩
 ·refine⟨λ b hb=>(by simp at hb;simp[hb]),λ i h h' st k=>⟨k I (by simp) _ st.1,st.2.1.keep (k a (by simp)),?_⟩,λ i s Q E hi st q=>?_,λ s Q E st q=>?_,λ i s Q E st q=>L_4 st.1 rfl q⟩
  ·obtain⟨o,ho,r⟩:=st.2.2;exact⟨o,k tp (by simp) _ ho,r⟩
  ·rw[List.length_map] at hi
   have hpl:pl[i]?=some pl[i]:=List.getElem?_eq_getElem hi
   have hm:pl[i]<es.size:=by
    have:=hp.mem_iff.mp (List.getElem_mem hi)
    simpa using this
   refine ah4 st.1 st.2.1 st.2.2 hpl (e:=es[pl[i]]) (by simp[hm]) λ h' c1 c2=>q _ h' s.toks ?_ ⟨c1,st.2.1.keep λ o e=>(c2.2 a n1).trans e,?_⟩ λ b o hb e=>(c2.2 b λ z=>hb (by simp[z])).trans e
   ·rw[List.getElem?_map,hpl]
    simp[Array.getD,hm]
   ·obtain⟨o,ho,r⟩:=st.2.2;exact⟨o,(c2.2 tp n2).trans ho,r⟩
  ·rw[List.length_map] at st
   exact at3 hh st.1 st.2.1 st.2.2 (List.getElem?_eq_none (qi _)) λ h' c=>q h' s.toks λ b o hb e=>c b o (λ z=>hb (by simp[z])) e
 ·have:b=I\/b=a\/b=tp:=by simpa using hb
  rcases this with rfl | rfl | rfl
  ·exact⟨qk hI,xI⟩
  ·obtain⟨⟨o,h1,_⟩,_⟩:=hO;exact⟨qk h1,xa⟩
  ·obtain⟨o,ho,_⟩:=hT;exact⟨qk ho,xt⟩
theorem ag8 {es:Array (Int×Value)}{ep:Nat}{t:SetTable}{I:Addr}{h:Heap} (bt:byT w=true) (hI:h.get? I=some (ab4 (.int 0 0) 0 a es.size ep)) (hO:SObj h a es ep t) (n1:a≠I) {X:Addr->Prop} (xI:X I) (xa:X a) :
  aE1 P w X I ((pickOrder (w.params.setOrder a ep) es).toList.map (·.2)) h:=by
 refine⟨[I,a],λ i h=>h.get? I=some (ab4 (.int ((0:Nat):Int) 0) (i:Nat) a es.size ep)/\SObj h a es ep t,λ A hh=>?_,⟨hI,hO⟩,λ b hb=>?_⟩
 ·refine⟨λ b hb=>(by simp at hb;simp[hb]),λ i h h' st k=>⟨k I (by simp) _ st.1,st.2.keep (k a (by simp))⟩,λ i s Q E hi st q=>?_,λ s Q E st q=>?_,λ i s Q E st q=>L_4 st.1 rfl q⟩
  ·rw[List.length_map,Array.length_toList] at hi
   refine S_5 st.1 st.2 (v:=(pickOrder (w.params.setOrder a ep) es)[i].2) (nx:=0) (λ A' Q' E' q'=>Q_2 st.2 bt (by rw[Array.getElem?_eq_getElem hi];exact q')) λ h' c1 c2=>q _ h' s.toks ?_ ⟨c1,st.2.keep λ o e=>(c2.2 a n1).trans e⟩ λ b o hb e=>(c2.2 b λ z=>hb (by simp[z])).trans e
   rw[List.getElem?_map,Array.getElem?_toList,Array.getElem?_eq_getElem hi];rfl
  ·rw[List.length_map,Array.length_toList] at st
   exact ae5 hh st.1 st.2 (λ A' Q' E' q'=>Q_2 st.2 bt (by rw[Array.getElem?_eq_none (Nat.le_refl _)];exact q')) λ h' c=>q h' s.toks λ b o hb e=>c b o (λ z=>hb (by simp[z])) e
 ·have:b=I\/b=a:=by simpa using hb
  rcases this with rfl | rfl
  ·exact⟨qk hI,xI⟩
  ·obtain⟨⟨o,h1,_⟩,_⟩:=hO;exact⟨qk h1,xa⟩
theorem aa6 (xs:Array Nat) (le:xs.size<=1):SetTable.below xs 0=0/\∀ j,xs[0]?=some j->SetTable.below xs (j+1)=1:=by
 obtain⟨l⟩:=xs
 match l,le with
 |[],_=>exact⟨rfl,λ j e=>by simp at e⟩
 |[x],_ =>
  refine⟨?_,λ j e=>?_⟩
  ·simp[SetTable.below,SetTable.below.go]
  ·have:x=j:=by simpa using e
   subst this;simp[SetTable.below,SetTable.below.go]
 |x::y::r,h=>simp at h
theorem W_6 {es:Array (Int×Value)}{ep:Nat}{t:SetTable}{I:Addr}{h:Heap} (bt:byT w=false) (le:es.size<=1) (ld:t.led=true) (hI:h.get? I=some (ab4 (.int 0 0) 0 a es.size ep)) (hO:SObj h a es ep t) (n1:a≠I) {X:Addr->Prop} (xI:X I) (xa:X a) :
  aE1 P w X I (es.toList.map (·.2)) h:=by
 have ps:t.place.size=es.size:=by
  have:=hO.fits;unfold SetTable.fits at this;simp at this;exact this.1
 obtain⟨b0,b1⟩:=aa6 t.place (by omega)
 refine⟨[I,a],λ i h=>(∃ sl:Nat,h.get? I=some (ab4 (.int (sl:Int) 0) (i:Nat) a es.size ep)/\SetTable.below t.place sl=i)/\SObj h a es ep t,λ A hh=>?_,⟨⟨0,hI,b0⟩,hO⟩,λ b hb=>?_⟩
 ·refine⟨λ b hb=>(by simp at hb;simp[hb]),λ i h h' st k=>?_,λ i s Q E hi st q=>?_,λ s Q E st q=>?_,λ i s Q E st q=>?_⟩
  ·obtain⟨⟨sl,c1,c2⟩,c3⟩:=st
   exact⟨⟨sl,k I (by simp) _ c1,c2⟩,c3.keep (k a (by simp))⟩
  ·obtain⟨⟨sl,c1,c2⟩,c3⟩:=st
   rw[List.length_map,Array.length_toList] at hi;have i0:i=0:=by omega
   subst i0;have hpl:0<t.place.size:=by omega
   refine S_5 c1 c3 (v:=es[0].2) (nx:=t.place[0]+1) (λ A' Q' E' q'=>Q_3 c3 bt le ld (by rw[c2,Array.getElem?_eq_getElem hi,Array.getElem?_eq_getElem hpl];exact q')) λ h' d1 d2=>q _ h' s.toks ?_ ⟨⟨_,d1,b1 _ (Array.getElem?_eq_getElem hpl)⟩,c3.keep λ o e=>(d2.2 a n1).trans e⟩ λ b o hb e=>(d2.2 b λ z=>hb (by simp[z])).trans e
   rw[List.getElem?_map,Array.getElem?_toList,Array.getElem?_eq_getElem hi];rfl
  ·rw[List.length_map,Array.length_toList] at st
   obtain⟨⟨sl,c1,c2⟩,c3⟩:=st;exact ae5 hh c1 c3 (λ A' Q' E' q'=>Q_3 c3 bt le ld (by rw[c2,Array.getElem?_eq_none (Nat.le_refl _)];exact q')) λ h' c=>q h' s.toks λ b o hb e=>c b o (λ z=>hb (by simp[z])) e
  ·obtain⟨⟨sl,c1,c2⟩,c3⟩:=st
   exact L_4 c1 rfl q
 ·have:b=I\/b=a:=by simpa using hb
  rcases this with rfl | rfl
  ·exact⟨qk hI,xI⟩
  ·obtain⟨⟨o,h1,_⟩,_⟩:=hO;exact⟨qk h1,xa⟩
end
section
variable {P:Program}{w:World}{A:Around}{E:Value->Shared->Prop}{s:Shared}{a:Addr}{ss:List Str}
theorem D_7 {es:Array (Int×Value)}{vs:List Value} (hel:ElemsOf (PySem.strKind P w) es.toList) (hp:(es.toList.map λ e=>PyProof.Rows.strOf e.2).Perm ss) (pv:vs.Perm (es.toList.map (·.2))):∃ ts,PyProof.Rows.StrsAre vs ts/\ts.Perm ss:=by
 refine⟨vs.map PyProof.Rows.strOf,PyProof.Rows.strsAre_map vs λ v hv=>?_,?_⟩
 ·obtain⟨e,he,rfl⟩:=List.mem_map.mp (pv.mem_iff.mp hv)
  obtain⟨x,t,q,_⟩:=k_5 hel e he;exact⟨x,t,q⟩
 ·refine (pv.map _).trans ?_
  rw[List.map_map];exact hp
theorem ar3 {Q:Value->Shared->Prop} (hS:SetS P w (byT w) s.heap a ss)
  (k:∀ (I:Addr) (vs:List Value) (ts:List Str) (h':Heap) (dr:Drawn),(∀ b o,s.heap.get? b=some o->h'.get? b=some o)->s.heap.get? I=none->I<h'.objs.size->aE1 P w (λ b=>b=a\/s.heap.get? b=none) I vs h'->PyProof.Rows.StrsAre vs ts->ts.Perm ss->Q (.ref I) {s with heap:=h',drawn:=dr}) :
  wpAny (model P w) A (pyIter (.ref a)) Q E s:=by
 obtain⟨o,es,ep,t,ho,hex,hd,hel,hp,hnd,hb,hf,hpl,hled⟩:=hS;have ty:s.TypeIs (.ref a) "set":=⟨o,ho,hex.1⟩;have hO:SObj s.heap a es ep t:=⟨⟨o,ho,hex,hd⟩,hf⟩
 have fresh:∀ n,s.heap.objs.size<=n->s.heap.get? n=none:=λ n hn=>by
  cases z:s.heap.get? n with
  |none=>rfl
  |some o=>exact absurd (qk z) (Nat.not_lt.mpr hn)
 have al:a<s.heap.objs.size:=qk ho;refine wpAny_pyIter_slot ty PySem.F.slot_set_iter (wpAny_call_entry PySem.F.slot_set_iter ty F_3 ?_ (PySem.F.args_set_iter_1 _));unfold Builtin.«frozenset.__iter__» Builtin.Frozenset.slot0 slotArgs Builtin.Frozenset.addrOf Builtin.Frozenset.sizeOf;refine qb (qc ?_);refine qb (qb (wpAny_setEntries_of ho hd hf (qc ?_)));refine qb ?_;unfold setDrawn setsByText;refine qb (wpAny_setState_of ho hd hf ?_);dsimp only;refine qb (qb (wpAny_askSetting (qc (qc ?_))))
 split
 ·rename_i c
  have c:(!byT w&&(!t.plain&&decide (es.size > 1)))=true:=c;refine qb (p_0 _ _ _ _ (by simp) λ pl dr pp=>?_)
  have ln:pl.length=es.size:=by rw[pp.length_eq,List.length_range]
  have lz:(pl.map λ i:Nat=>rawInt i).length<=sizeLine:=by
   rw[List.length_map,ln];exact fits_of_scanBound hb
  refine qb (wpAny_newTuple ?_ lz);have kp1:∀ b o,s.heap.get? b=some o → (s.heap.push {cls:=.type "tuple",data:=.seq (pl.map λ i:Nat=>rawInt i).toArray}).get? b=some o:=λ b o e=>qd _ e
  obtain⟨o1,q1,q2,q3⟩:∃ o1,(s.heap.push {cls:=.type "tuple",data:=.seq (pl.map λ i:Nat=>rawInt i).toArray}).get? a=some o1 ∧ o1.ExactSet ∧ o1.data=.set es ep t:=⟨o,kp1 _ _ ho,hex,hd⟩
  show wpAny _ _ (setEpoch a >>= _) _ _ _;refine qb (wpAny_setEpoch_of q1 q3 hf ?_);refine qb (wpAny_newObj_type (qc ⟨_,rfl,"set_iterator",_,⟨_,qj _ rfl,rfl⟩,slot_sit_next.lookup,?_⟩));have sz:(s.heap.push {cls:=.type "tuple",data:=.seq (pl.map λ i:Nat=>rawInt i).toArray}).objs.size=s.heap.objs.size+1:=by rw[Heap.size_push]
  obtain⟨ts,s1,s2⟩:=D_7 (P:=P) (w:=w) (vs:=pl.map λ p=>(es.getD p default).2) hel hp (by rw[<- ag9];exact pp.map _)
  refine k _ _ ts _ dr (λ b o e=>qd _ (kp1 b o e)) (fresh _ (by rw[sz];exact Nat.le_succ _)) (qk (qj _ rfl)) (W_7 (tp:=s.heap.objs.size) (qj _ rfl) (hO.keep λ o e=>qd _ (kp1 _ o e)) ⟨_,qd _ (qj _ rfl),rfl,0,rfl⟩ pp ?_ ?_ (.inr (fresh _ (by rw[sz];exact Nat.le_succ _))) (.inl rfl) (.inr (fresh _ (qi _)))) s1 s2
  ·rw[sz];exact qo (Nat.lt_succ_of_lt al)
  ·rw[sz];exact qo (Nat.lt_succ_self _)
 ·rename_i c
  have c:¬ (!byT w&&(!t.plain&&decide (es.size > 1)))=true:=c;refine qb (qc ?_);show wpAny _ _ (setEpoch a >>= _) _ _ _;refine qb (wpAny_setEpoch_of ho hd hf ?_);refine qb (wpAny_newObj_type (qc ⟨_,rfl,"set_iterator",_,⟨_,qj _ rfl,rfl⟩,slot_sit_next.lookup,?_⟩));cases bt:byT w with
  |true =>
   obtain⟨ts,s1,s2⟩:=D_7 (P:=P) (w:=w) (vs:=(pickOrder (w.params.setOrder a ep) es).toList.map (·.2)) hel hp ((v_9 _ es).map _);exact k _ _ ts _ s.drawn (λ b o e=>qd _ e) (fresh _ (qi _)) (qk (qj _ rfl)) (ag8 bt (qj _ rfl) (hO.keep λ o e=>qd _ e) (qo al) (.inr (fresh _ (qi _))) (.inl rfl)) s1 s2
  |false =>
   have le:es.size<=1:=by
    rw[bt] at c;cases pl:t.plain with
    |true=>have:=hpl pl;omega
    |false=>rw[pl] at c;simp at c;exact c
   obtain⟨ts,s1,s2⟩:=D_7 (P:=P) (w:=w) (vs:=es.toList.map (·.2)) hel hp (List.Perm.refl _);exact k _ _ ts _ s.drawn (λ b o e=>qd _ e) (fresh _ (qi _)) (qk (qj _ rfl)) (W_6 bt le (hled bt) (qj _ rfl) (hO.keep λ o e=>qd _ e) (qo al) (.inr (fresh _ (qi _))) (.inl rfl)) s1 s2
end
section
variable {P:Program}{w:World}{A:Around}{E:Value->Shared->Prop}{s:Shared}{a:Addr}{ss:List Str}
theorem aB0 {Q:Bool → Shared → Prop} (ty:s.TypeIs (.ref a) "set") (q:Q false s):wpAny (model P w) A (Builtin.List.listLengthHint (.ref a)) Q E s:=by
 have sp:splitId "set.__len__"=some ("set","__len__"):=by decide +kernel
 have su:=sub_set_self;unfold Builtin.List.listLengthHint;refine qb (wpAny_specialOf ty PySem.F.slot_set_len.lookup ?_);dsimp only;rw[sp];dsimp only;refine qb (wpAny_isInstance ty su ?_);refine wpAny_ite_split (λ z=>absurd z (by decide)) λ _=>wpAny_ite_split (λ _=>?_) λ z=>absurd (by decide +kernel) z
 exact qb (wpAny_typeOf ty (qc q))
theorem Z_4 {R:Result → Shared → Prop} (hh:A.handled=none) (hS:SetS P w (byT w) s.heap a ss) (S:Addr) (nS:S≠a) (res:Value) (c0:Nat) (hL:s.heap.get? S=some {cls:=.type "list",data:=.seq #[] c0})
  (hR:∀ h' tk dr (acc:Array Value) c' (ts:List Str),(∀ b o,b≠S → s.heap.get? b=some o → h'.get? b=some o) → h'.get? S=some {cls:=.type "list",dict:=none,data:=.seq acc c',slots:=#[]} → PyProof.Rows.StrsAre acc.toList ts → ts.Perm ss → R (.ok (.ret res)) {s with heap:=h',toks:=tk,drawn:=dr}) :
  wpAny (model P w) A.in1 (Builtin.List.listExtendWith (.ref S) (.ref a) res)
   (λ fin s'=>match fin with | .done f=>R (.ok f) s' | .again c'=>c'.quiet=true/\codeAny (model P w) A c' R s') (λ e s'=>R (.error e) s') s:=by
 have ty:s.TypeIs (.ref a) "set":=by
  obtain⟨o,es,ep,t,ho,hex,_⟩:=hS;exact⟨o,ho,hex.1⟩
 have ssz:ss.length<=sizeLine:=by
  obtain⟨o,es,ep,t,ho,hex,hd,hel,hp,hnd,hb,_⟩:=hS;have:=hp.length_eq;rw[List.length_map,Array.length_toList] at this;rw[<- this];exact fits_of_scanBound hb
 unfold Builtin.List.listExtendWith;refine qb (wpAny_typeOf (T:="set") ty ?_);have h1:Builtin.List.listSameRef (.ref S) (.ref a)=false:=by simp[Builtin.List.listSameRef,nS]
 have h2:(Value.type "set"==Value.type "list")=false:=by decide
 have h3:(Value.type "set"==Value.type "tuple")=false:=by decide
 simp only[h1,h2,h3,Bool.or_false,Bool.false_eq_true,if_false];refine qb (ar3 hS λ I vs ts h' dr kp fI ltI rd sa pp=>?_)
 obtain⟨fp,St,W,st,lf⟩:=rd;have nI:S≠I:=λ z=>by rw[<- z,hL] at fI;cases fI
 have vl:vs.length=ss.length:=by
  have:=sa.strs;have q:vs.length=ts.length:=by rw[<- this,List.length_map]
  rw[q,pp.length_eq]
 have hSf:S∉fp:=λ m=>by
  rcases (lf S m).2 with z | z
  ·exact nS z
  ·rw[hL] at z;cases z
 have key:∀ (h:Heap) (c1 tk:Nat),St 0 h → (∀ b o,b≠S → s.heap.get? b=some o → h.get? b=some o) → h.get? S=some {cls:=.type "list",data:=.seq #[] c1} →
   codeAny (model P w) A (.builtin "list.extend.loop" ⟨[.ref S,.ref I,res],[]⟩) R {s with heap:=h,toks:=tk,drawn:=dr}:=λ h c1 tk st0 k0 l0=>by
  refine codeAny_extend_loopS (W A.in1 hh).toS (by rw[vl];exact ssz) S hSf res vs.length 0 _ #[] c1 rfl (Nat.zero_le _) st0 l0 (ItemsOf.nil _) λ s' acc c' hm l' ia=>?_
  have ev:acc.toList=vs:=by
   apply List.ext_getElem?
   intro j;rw[Array.getElem?_toList]
   by_cases hj:j<acc.size
   ·rw[ia.2 j _ (Array.getElem?_eq_getElem hj),Array.getElem?_eq_getElem hj]
   ·rw[Array.getElem?_eq_none (Nat.not_lt.mp hj),List.getElem?_eq_none (by have:=ia.1;omega)]
  rw[Moved.eq_with hm];refine hR s'.heap s'.toks dr acc c' ts (λ b o hb e=>hm.heap b o (λ m=>?_) (k0 b o hb e)) l' (by rw[ev];exact sa) pp
  rcases qp m with z | m
  ·exact hb z
  ·rw[List.mem_singleton.mp m,fI] at e;cases e
 have l1:h'.get? S=some {cls:=.type "list",data:=.seq #[] c0}:=kp _ _ hL;refine qb (wpAny_holding (aB0 (s:={s with heap:=h',drawn:=dr}) ?_ ?_))
 ·obtain⟨o,ho,hc⟩:=ty
  exact⟨o,kp _ _ ho,hc⟩
 refine wpAny_ite_split (λ _=>?_) (λ _=>qc ⟨plainId_quiet PySem.F.plain_extend_loop _,key _ c0 _ st (λ b o _ e=>kp _ _ e) l1⟩)
 refine qb (wpAny_rule (qb ?_));show wpAny _ _ (updateSeq S (λ z=>z.push Value.none) >>= λ _=>updateSeq S λ z=>z.pop) _ _ _
 refine qb (wpAny_updateSeq l1 rfl ?_);have l2:=Heap.get?_update_self (Obj.mapSeq λ z=>z.push Value.none) l1 rfl
 refine wpAny_updateSeq (hz:=by seq_fits) l2 rfl ?_
 have l3:=Heap.get?_update_self (Obj.mapSeq λ z=>z.pop) l2 rfl
 refine qc ⟨plainId_quiet PySem.F.plain_extend_loop _,key _ _ _ ?_ (λ b o hb e=>?_) l3⟩
 ·refine (W A.in1 hh).frame 0 _ _ st λ b hb o e=>?_
  have nb:S≠b:=λ z=>hSf (by rw[z];exact hb)
  exact (Heap.get?_update_other _ _ nb).trans ((Heap.get?_update_other _ _ nb).trans e)
 ·exact (Heap.get?_update_other _ _ (Ne.symm hb)).trans ((Heap.get?_update_other _ _ (Ne.symm hb)).trans (kp _ _ e))
end
end Fx
namespace Fx
open PySem PySem.Spec PyProof.Rows
section
variable {P:Program}{w:World}{A:Around}{E:Value->Shared->Prop}{s:Shared}{a:Addr}{ss:List Str}
theorem T_9 {Q:List Value->Shared->Prop} (hh:A.handled=none) (hS:SetS P w (byT w) s.heap a ss)
  (k:∀ (h':Heap) (tk:Nat) (dr:Drawn) (vs:List Value) (ts:List Str),(∀ b o,s.heap.get? b=some o->h'.get? b=some o)->StrsAre vs ts->ts.Perm ss->Q vs {s with heap:=h',toks:=tk,drawn:=dr}) :
  wpAny (model P w) A (collect (.ref a)) Q E s:=by
 have al:a<s.heap.objs.size:=by
  obtain⟨o,es,ep,t,ho,_⟩:=hS;exact qk ho
 unfold collect;refine qb (wpAny_runValue (codeAny_builtin PySem.F.entry_proto_collect ?_));rw[Around.under_plainId PySem.F.plain_proto_collect _];show wpAny _ A.in1 (newList [] >>= λ z=>again (.builtin "list.__iadd__" ⟨[z,.ref a],[]⟩)) _ _ s
 refine qb (wpAny_newObj_type (qc ⟨plainId_quiet PySem.F.plain_list_iadd _,codeAny_builtin PySem.F.entry_list_iadd ?_⟩));rw[Around.under_plainId PySem.F.plain_list_iadd _];have l0:(s.heap.push {cls:=.type "list",data:=.seq ([]:List Value).toArray}).get? s.heap.objs.size=some {cls:=.type "list",data:=.seq #[]}:=qj _ rfl;show wpAny _ A.in1 (Builtin.List.listExtendWith (.ref s.heap.objs.size) (.ref a) (.ref s.heap.objs.size)) _ _ _;have key:=Z_4 (A:=A) (s:={s with heap:=s.heap.push {cls:=.type "list",data:=.seq ([]:List Value).toArray}})
  (R:=λ (q:Result) (s':Shared)=>∃ (h':Heap) (tk:Nat) (dr:Drawn) (acc:Array Value) (c':Nat) (ts:List Str),q=.ok (.ret (.ref s.heap.objs.size))/\s'={s with heap:=h',toks:=tk,drawn:=dr} /\
   (∀ b o,s.heap.get? b=some o → h'.get? b=some o) ∧ h'.get? s.heap.objs.size=some {cls:=.type "list",dict:=none,data:=.seq acc c',slots:=#[]} ∧ StrsAre acc.toList ts ∧ ts.Perm ss)
  hh (hS.keep λ b o e=>qd _ e) s.heap.objs.size (Nat.ne_of_gt al) (.ref s.heap.objs.size) 0 l0
  (λ h' tk dr acc c' ts c1 c2 c3 c4=>⟨h',tk,dr,acc,c',ts,rfl,rfl,λ b o e=>c1 b o (qo (qk e)) (qd _ e),c2,c3,c4⟩)
 refine wpAny_mono key (λ fin s' x=>?_) λ e s' x=>?_
 ·cases fin with
  |done f =>
   obtain⟨h',tk,dr,acc,c',ts,e,rfl,c1,c2,c3,c4⟩:=x;cases e;show wpAny _ A (load s.heap.objs.size >>= _) _ _ _;exact qb (wpAny_load c2 (qc (k h' tk dr acc.toList ts c1 c3 c4)))
  |again c₁ =>
   refine⟨x.1,codeAny_mono x.2 λ q s₂ y=>?_⟩
   obtain⟨h',tk,dr,acc,c',ts,rfl,rfl,c1,c2,c3,c4⟩:=y;show wpAny _ A (load s.heap.objs.size >>= _) _ _ _;exact qb (wpAny_load c2 (qc (k h' tk dr acc.toList ts c1 c3 c4)))
 ·obtain⟨_,_,_,_,_,_,e',_⟩:=x
  cases e'
theorem t_2 {l m:List Str} (h:l.Perm m):c_4 l=c_4 m:=by
 refine List.Perm.eq_of_pairwise (le:=λ a b=>ltS b a=false) (λ a b _ _ p q=>?_) (C_8 l) (C_8 m) ((c_0 l).trans (h.trans (c_0 m).symm))
 unfold ltS at p q;rw[decide_eq_false_iff_not] at p q;have:=List.le_antisymm (List.not_lt.mp p) (List.not_lt.mp q);obtain⟨⟨la⟩⟩:=a;obtain⟨⟨lb⟩⟩:=b;cases this;rfl
theorem V_8 {Q:Value->Shared->Prop} (hh:A.handled=none) (hS:SetS P w (byT w) s.heap a ss) (h64:ss.length<64)
  (k:∀ (h1 h2:Heap) (tk:Nat) (dr:Drawn) (out:Array Value) (e:Nat),(∀ b o',s.heap.get? b=some o' → h1.get? b=some o') → (∀ b o',h1.get? b=some o' → h2.get? b=some o') → h2.get? h1.objs.size=some (seqObj "list" out e) → StrsAre out.toList (c_4 ss) →
   Q (.ref h1.objs.size) {s with heap:=h2,toks:=tk,drawn:=dr}) :
  wpAny (model P w) A (call (.builtin "sorted") [.ref a]) Q E s:=by
 refine Calls.call_function_entry kind_sorted plain_sorted entry_sorted (args_sorted1 _) ?_;unfold Builtin.«sorted»;refine qb (m:=checkCount "sorted" 1 1 _) (qc (qb (T_9 (A:=A.in1) hh hS λ h1 tk dr us ts kp sa pp=>?_)))
 have ul:us.length=ss.length:=by
  have q:=sa.strs;rw[<- pp.length_eq,<- q,List.length_map]
 refine qb (wpAny_newList ?_ (by rw[ul,sizeLine_eq];omega))
 have at1:(h1.push (seqObj "list" us.toArray 0)).get? h1.objs.size=some (seqObj "list" us.toArray 0):=qj _ rfl;refine qb (wpAny_holding (wpAny_call_entry slot_list_sort ⟨_,at1,rfl⟩ entry_list_sort (list_sort_treeK strKind_oneLt at1 sa.keysOf (λ v1 v2 r e=>keyKind_strs (by rw[<- e];exact sa)) (by rw[ul];exact h64) λ st hp hs=>⟨_,rfl,?_⟩) (args_list_sort _)))
 obtain⟨t',q1,q2,q3⟩:=sorted_out_str sa hp hs;obtain⟨e,he⟩:=sortedHeap_at (out:=(arrOf st).map (·.2)) at1;rw[I_6 q2 q3,t_2 pp] at q1;refine qc ⟨_,rfl,k h1 _ tk dr _ e kp (λ b o' hb=>?_) he q1⟩
 have lt:b<h1.objs.size:=qk hb;rw[sortedHeap_old (Nat.ne_of_lt lt) (by rw[size_push'];exact Nat.lt_succ_of_lt lt)]
 exact qd _ hb
end
end Fx
namespace Fx
open PySem PySem.Spec PyProof.Rows L2
def E_0 (P:Program) (w:World) (a:Addr) (ss:List Str):HO:=.ext λ h=>SetS P w (byT w) h a ss
theorem W_1 {P:Program}{w:World}{H:Hp}{h:Heap}{a:Addr}{ss:List Str} (q:SetS P w (byT w) h a ss):ObjOk P w H h a (E_0 P w a ss):=by
 refine⟨q,?_,λ h1 h2 q1 k=>?_⟩
 ·obtain⟨o,es,ep,t,ho,_⟩:=q
  exact⟨o,ho⟩
 ·obtain⟨o,es,ep,t,ho,r⟩:=q1
  exact⟨o,es,ep,t,k _ ho,r⟩
theorem Inv.drawn {X:Cx}{pins:List (Addr×Obj)}{σ:List (Option V)}{H:Hp}{s:Shared} (dr:Drawn) (I:Inv X pins σ H s):Inv X pins σ H {s with drawn:=dr} :=
 ⟨I.ok,I.os,I.bare,I.base,I.loc,I.cell,I.free,I.freeC,I.pin,I.hok,I.len⟩
theorem Step.side {H0 H:Hp}{p:Addr}{o:HO} (s:Same H0 H) (hp:H p=none):Step H0 H H0 (upd H p o):=by
 refine⟨Same.refl _,λ b u e=>by rw[b_6 (c_7 e hp)];exact e,λ b u e=>?_,λ b u e=>.inl e⟩
 have e':=s _ _ e;rw[b_6 (c_7 e' hp)];exact e'
section
variable {X:Cx}
theorem bo8 {pins:List (Addr×Obj)}{σ:L2.St}{H:Hp}{s:Shared}{p:Addr}{xs:List V} (I:Inv X pins σ H s) (hq:SqL X.K H p xs\/SqT X.K H p xs):∃ (T:Bool) (its:List Value),Vals xs its/\SqAt T s.heap p its.toArray:=by
 rcases hq with hq | hq
 ·obtain⟨its,rv,pl,_⟩:=I.list hq
  exact⟨false,its,rv,pl.isList⟩
 ·obtain⟨its,rv,tp,_⟩:=I.tuple hq
  exact⟨true,its,rv,tp⟩
theorem r_7 (hc:X.calm=true):CallR X (.type "set") (λ xs H Q=>∃ p ss,xs=[.ref p] ∧ (SqL X.K H p (ss.map V.str) ∨ SqT X.K H p (ss.map V.str)) ∧ ss.length<1000 ∧ ∀ l,H l=none → Q (.ref l) (upd H l (E_0 X.prog X.w l (a_6 [] ss)))):=by
 intro pins s σ H xs us Q I r h;obtain⟨p,ss,rfl,hq,hz,q⟩:=h;obtain⟨u,rfl,ru⟩:=z_4 r;cases ru;obtain⟨T,its,rv,sq⟩:=bo8 I hq;refine au9 (I.ok.hd hc) sq (z_5 rv) (by unfold scanBound;omega) λ h' tk kp hS=>?_
 exact⟨.ref s.heap.objs.size,_,I.laid (o:=E_0 X.prog X.w s.heap.objs.size (a_6 [] ss)) kp (qi _) (W_1 hS),rfl,q _ (I.hok.fresh (qi _))⟩
theorem s_5 (hc:X.calm=true):CallR X (.builtin "sorted") (λ xs H Q=>∃ p ss,xs=[.ref p] ∧ H p=some (E_0 X.prog X.w p ss) ∧ ss.length<64 ∧ ∀ l,H l=none → Q (.ref l) (upd H l (.lst ((c_4 ss).map V.str)))):=by
 intro pins s σ H xs us Q I r h;obtain⟨p,ss,rfl,hq,h64,q⟩:=h;obtain⟨u,rfl,ru⟩:=z_4 r;cases ru;have hS:SetS X.prog X.w (byT X.w) s.heap p ss:=(I.hok p _ hq).1;refine V_8 (I.ok.hd hc) hS h64 λ h1 h2 tk dr out e k1 k2 at1 so=>?_
 have I1:Inv X pins σ H {s with heap:=h1,toks:=tk,drawn:=dr}:=Inv.drawn dr (I.kept (t':=tk) k1)
 have hz:((c_4 ss).map V.str).length<=sizeLine:=by
  rw[List.length_map,(c_0 ss).length_eq,sizeLine_eq];omega
 refine⟨.ref h1.objs.size,_,I1.laid (t':=tk) (o:=.lst ((c_4 ss).map V.str)) k2 (qi _) ⟨hz,out.toList,e,t_7 so,?_⟩,rfl,q _ (I1.hok.fresh (qi _))⟩;rw[at1]
theorem aw4 {ss:List Str} (h:ss.length<64):(a_6 [] ss).length<64:=by
 have:=f_1 ss [];rw[List.length_nil] at this;omega
theorem K_6 {a:Expr}{F:FE}{p p2 dpos pos:Pos} (hm:X.mg "set"=none) (hm2:X.mg "sorted"=none) (he:XE X a F) (hc:X.calm=true:=by rfl) (hg:Gl X "set":=by rfl) (hg2:Gl X "sorted":=by rfl)
  (h1:starEach [a] X.env=[(false,eval a X.env)]:=by rfl) (h2:starEach [.Call (.Name "set" p) [a] [] dpos] X.env=[(false,eval (.Call (.Name "set" p) [a] [] dpos) X.env)]:=by rfl) :
  XE X (.Call (.Name "sorted" p2) [.Call (.Name "set" p) [a] [] dpos] [] pos) (eF t_1 (aC F aN)) :=
 PE.wk (C_9 (s_5 hc) hg2 hm2 PyProof.Rows.boot_sorted (z_6 (p_2 (r_7 hc) hg hm PyProof.Rows.boot_set (xaC he xaN h1) (by decide) (by decide) h1 rfl) R_2 h2) (by decide) (by decide) h2 rfl) λ σ H Q hh0_=>by
  obtain⟨c,H0,ρ,d,ρ',R,f,q⟩:=hh0_;unfold eF at f;obtain⟨⟨ds,ρ1⟩,g1,f⟩:=a_2 f;obtain⟨d',g2,f⟩:=a_2 f;have f':some (d',ρ1)=some (d,ρ'):=f;cases f';refine⟨c,H0,ρ,ds,_,R,g1,λ vs H1 Hh s1 R1 r1=>?_⟩
  have main:∀ (ad:Addr) (ss:List Str),vs=[.ref ad]->ss.length<64->d=.lst ((c_4 (a_6 [] ss)).map .str)->(SqL X.K Hh ad (ss.map V.str)\/SqT X.K Hh ad (ss.map V.str)) ->
    ∃ p ss,vs=[.ref p]/\(SqL X.K Hh p (ss.map V.str)\/SqT X.K Hh p (ss.map V.str))/\ss.length<1000/\∀ l,Hh l=none->∃ p ss',[V.ref l]=[.ref p]/\upd Hh l (E_0 X.prog X.w l (a_6 [] ss)) p=some (E_0 X.prog X.w p ss')/\ss'.length<64 /\
     ∀ l2,upd Hh l (E_0 X.prog X.w l (a_6 [] ss)) l2=none->Q (.ref l2) (upd (upd Hh l (E_0 X.prog X.w l (a_6 [] ss))) l2 (.lst ((c_4 ss').map V.str))):=λ ad ss ev l64 ed sq=>by
   refine⟨ad,ss,ev,sq,by omega,λ l hl=>⟨l,a_6 [] ss,rfl,a_7,aw4 l64,λ l2 hl2=>?_⟩⟩
   have S1:=Step.side (o:=E_0 X.prog X.w l (a_6 [] ss)) R1.same hl;have S2:=Step.alloc (o:=.lst ((c_4 (a_6 [] ss)).map V.str)) S1.s' hl2;refine q _ _ _ (s1.trans (S1.trans S2).s0) (R1.after (S1.trans S2)) ?_;rw[ed];unfold Rep;exact⟨l2,_,rfl,.inl (.inl a_7),p_1 _⟩
  have inv:∀ {xs:List D},n_1 xs=some d->∃ ss:List Str,xs=ss.map .str/\ss.length<64/\d=.lst ((c_4 (a_6 [] ss)).map .str):=λ {xs} h=>by
   unfold n_1 at h;obtain⟨ss,e,f⟩:=a_2 h;obtain⟨l,rfl⟩:=ifs f;exact⟨ss,u_8 e,l,rfl⟩
  have g2:t_1 ds=some d:=g2;unfold t_1 at g2
  split at g2
  ·obtain⟨ss,rfl,l64,ed⟩:=inv g2
   obtain⟨v,rfl,rv⟩:=Reps.v1 r1;unfold Rep at rv;obtain⟨ad,ws,rfl,sq,t⟩:=rv;rw[h_0 t] at sq;exact main ad ss rfl l64 ed (.inr (Same.seqT R1.same sq))
  ·obtain⟨ss,rfl,l64,ed⟩:=inv g2
   obtain⟨v,rfl,rv⟩:=Reps.v1 r1;unfold Rep at rv;obtain⟨ad,ws,rfl,sq,t⟩:=rv;rw[h_0 t] at sq;exact main ad ss rfl l64 ed (.inl (Same.seq R1.same sq))
  ·cases g2
end
structure YE (X:Cx) (e:Expr) (F:FE):Prop where
 go:XE X e F
structure YA (X:Cx) (es:List Expr) (F:FA):Prop where
 go:XA X es F
structure YS (X:Cx) (st:Stmt) (F:FS):Prop where
 go:XS X st F
structure YSs (X:Cx) (st:List Stmt) (F:FS):Prop where
 go:XSs X st F
section
variable {X:Cx}{a b e:Expr}{es:List Expr}{F G:FE}{A:FA}{pos:Pos}{st:Stmt}{ss body:List Stmt}{B C:FS}{T:FT}
theorem ye (h:XE X e F):YE X e F:=⟨h⟩
theorem yb {op:Operator}{f:D->D->Option D} (o:V_3 X op f) (ha:YE X a F) (hb:YE X b G):YE X (.BinOp a op b pos) (e2 f F G):=⟨xb o ha.go hb.go⟩
theorem yix (ha:YE X a F) (hb:YE X b G) (hs:aa8 b:=by intro _ _;rfl):YE X (.Subscript a b pos) (e2 b_2 F G):=⟨c_6 ha.go hb.go hs⟩
theorem ax1 (h:YA X es A):YE X (.List es pos) (P_2 A):=⟨bj7 h.go⟩
theorem w_1 {x1} (h:YA X es A):YE X (.Tuple es x1 pos) (q_7 A):=⟨aU5 h.go⟩
theorem yaN:YA X [] aN:=⟨xaN⟩
theorem yaC (ha:YE X e F) (hr:YA X es A) (hs:starEach (e::es) X.env=(false,eval e X.env)::starEach es X.env:=by rfl):YA X (e::es) (aC F A):=⟨xaC ha.go hr.go hs⟩
theorem yx (h:XS X st B):YS X st B:=⟨h⟩
theorem ysN:YSs X [] sN:=⟨xsN⟩
theorem ys1 (h:YS X st B):YSs X [st] B:=⟨xs1 h.go⟩
theorem ysC (h:YS X st B) (k:YSs X ss C):YSs X (st::ss) (b_7 B C):=⟨xsC h.go k.go⟩
theorem f_6 (i:Nat) {x:Str}{pos':Pos} (hN:X.N.Nodup) (he:YE X e F) (hi:X.N[i]?=some x:=by rfl) (hx:Loc X.env.scope x:=by first | exact Or.inl rfl | exact Or.inr rfl) (hs:swapsWith e (some (.Name x pos')) pos.line X.env=pure false:=by rfl)
  (hf:X.fn x=true\/X.env.scope.names.lookup x=some .local:=by first | exact .inl rfl | exact .inr rfl):YS X (.Assign [.Name x pos'] e pos) (d_7 i F):=⟨bz0 i hN he.go hi hx hs hf⟩
theorem f_7 (he:YE X e F):YS X (.Return (some e) pos) (e_8 F):=⟨bz1 he.go⟩
theorem yif (hc:XT X e T) (ha:YSs X ss B) (hb:YSs X body C):YS X (.If e ss body pos) (sIf T B C):=⟨bH1 hc ha.go hb.go⟩
theorem ak2 {g:GD}{p pos':Pos} (hm:X.mg "range"=none) (hg:XG X b g) (ha:XE X a F) (hb:YSs X body B) (hgl:Gl X "range":=by rfl) (hp:PassesOwn (model X.prog X.w) X.A X.env X.xe:=by exact PassesOwn.never) (hc:X.calm=true:=by rfl)
  (hst:starEach [a] X.env=[(false,eval a X.env)]:=by rfl) (hs:∀ x,foldedSetIterable (.Call (.Name "range" p) [a] [] pos') X.env x=pure x:=by intro _;rfl):YS X (.For b (.Call (.Name "range" p) [a] [] pos') body [] pos) (W_4 g (aK7 F) B):=⟨aW9 hm hg ha hb.go hgl hp hc hst hs⟩
theorem aE2 {fuel:En->Nat} (hc:XT X e T) (hb:YSs X body B) (hp:PassesOwn (model X.prog X.w) X.A X.env X.xe:=by exact PassesOwn.never):YS X (.While e body [] pos) (Q_6 fuel T B):=⟨aW5 hc hb.go hp⟩
end
end Fx
namespace Fx
open PySem PySem.SetTable
def lp (m:Nat) (q:Nat×Nat):Nat×Nat:=leap m q.1 q.2
def lps (m:Nat):Nat->Nat×Nat->Nat×Nat
 |0,q=>q
 |n+1,q=>lps m n (lp m q)
theorem E_9 (m:Nat):∀ (a b:Nat) (q:Nat×Nat),lps m (a+b) q=lps m b (lps m a q)
 |0,b,q=>by rw[Nat.zero_add];rfl
 |a+1,b,q=>by rw[Nat.add_right_comm];exact E_9 m a b (lp m q)
theorem aO0 (m:Nat):∀ (n:Nat) (q:Nat×Nat),(lps m n q).2=q.2 / 32 ^ n
 |0,q=>by simp[lps]
 |n+1,q=>by
  rw[lps,aO0 m n];show q.2 / 32 / 32 ^ n=_;rw[Nat.div_div_eq_div_mul,Nat.pow_succ,Nat.mul_comm]
theorem bd4 (m:Nat):∀ (n:Nat) (q:Nat×Nat),q.1<=m->(lps m n q).1<=m
 |0,q,h=>h
 |n+1,q,h=>bd4 m n (lp m q) (Nat.le_of_lt_succ (Nat.mod_lt _ (Nat.succ_pos m)))
def aj4 (m:Nat):Prop:=∀ i j,i<=m->j<=m->∃ n,n<=m/\(lps m n (i,0)).1=j
def orb (m:Nat):Nat->Nat->List Nat
 |0,_=>[]
 |n+1,i=>i::orb m n ((i*5+1) % (m+1))
theorem ap3 (m:Nat):∀ (n:Nat) (i:Nat),∀ j∈orb m n i,∃ k,k<n/\(lps m k (i,0)).1=j
 |0,i,j,h=>by cases h
 |n+1,i,j,h=>by
  rw[orb,List.mem_cons] at h
  rcases h with rfl | h
  ·exact⟨0,Nat.succ_pos _,rfl⟩
  ·obtain⟨k,hk,e⟩:=ap3 m n _ j h
   refine⟨k+1,Nat.succ_lt_succ hk,?_⟩;have z:lp m (i,0)=((i*5+1) % (m+1),0):=by show leap m i 0=_;unfold leap;simp
   rw[lps,z];exact e
theorem F_2 {m:Nat} (h:(List.range (m+1)).all (λ j=>(orb m (m+1) 0).contains j)=true) (hz:lps m (m+1) (0,0)=(0,0)):aj4 m:=λ i j hi hj=>by
 rw[List.all_eq_true] at h
 have at0:∀ x,x<=m->∃ k,k<=m/\lps m k (0,0)=(x,0):=λ x hx=>by
  obtain⟨k,hk,e⟩:=ap3 m (m+1) 0 x (List.contains_iff_mem.mp (h x (List.mem_range.mpr (by omega))))
  have e2:(lps m k (0,0)).2=0:=by rw[aO0];simp
  exact⟨k,by omega,Prod.ext e e2⟩
 obtain⟨a,ha,ea⟩:=at0 i hi;obtain⟨b,hb,eb⟩:=at0 j hj
 by_cases c:a<=b
 ·refine⟨b-a,by omega,?_⟩
  rw[<- ea,<- E_9,show a+(b-a)=b by omega,eb]
 ·refine⟨m+1-a+b,by omega,?_⟩
  rw[<- ea,<- E_9,show a+(m+1-a+b)=(m+1)+b by omega,E_9,hz,eb]
theorem bf4:aj4 7:=F_2 (by decide +kernel) (by decide +kernel)
theorem bf7:aj4 15:=F_2 (by decide +kernel) (by decide +kernel)
theorem bf6:aj4 31:=F_2 (by decide +kernel) (by decide +kernel)
theorem bf5:aj4 63:=F_2 (by decide +kernel) (by decide +kernel)
theorem aP1:aj4 127:=F_2 (by decide +kernel) (by decide +kernel)
theorem aT7 (h:Int):bits h<2 ^ 64:=by
 unfold bits;have h1:=Int.emod_nonneg h (show (2 ^ 64:Int)≠0 by decide)
 have h2:=Int.emod_lt_of_pos h (show (0:Int)<2 ^ 64 by decide)
 omega
theorem bt2 {m:Nat} (F:aj4 m) {i p j:Nat} (hi:i<=m) (hp:p<2 ^ 64) (hj:j<=m):∃ n,n<turns m/\(lps m n (i,p)).1=j:=by
 have e2:(lps m 13 (i,p)).2=0:=by
  rw[aO0];exact Nat.div_eq_of_lt (qm hp (by decide))
 have e1:=bd4 m 13 (i,p) hi;obtain⟨n,hn,e⟩:=F _ j e1 hj;refine⟨13+n,by unfold turns;omega,?_⟩
 rw[E_9];have:lps m 13 (i,p)=((lps m 13 (i,p)).1,0):=by rw[<- e2]
 rw[this];exact e
theorem as2 {m:Nat}{ow:Array (Option Nat)}:∀ (fuel i p:Nat),(∃ n,n<fuel/\ow.getD (lps m n (i,p)).1 (some 0)=none)->∃ j,layClean.free m ow fuel i p=some j/\ow.getD j (some 0)=none
 |0,i,p,⟨n,h,_⟩=>absurd h (Nat.not_lt_zero n)
 |fuel+1,i,p,⟨n,h,e⟩=>by
  unfold layClean.free;cases q:List.find? (λ k=>(ow.getD (i+k) (some 0)).isNone) (List.range (runEnd m i+1-i)) with
  |some k =>
   refine⟨i+k,rfl,?_⟩;have:=List.find?_some q;exact Option.isNone_iff_eq_none.mp this
  |none =>
   dsimp only;cases n with
   |zero =>
    have:=List.find?_eq_none.mp q 0 (List.mem_range.mpr (by unfold runEnd;split <;> omega))
    rw[Nat.add_zero] at this;have e':ow.getD i (some 0)=none:=e;rw[e'] at this;exact absurd rfl this
   |succ n =>
    exact as2 fuel _ _ ⟨n,Nat.lt_of_succ_lt_succ h,e⟩
def stF (m:Nat) (acc:Option (Array (Option Nat)×Nat)) (h:Int):Option (Array (Option Nat)×Nat) :=
 acc.bind λ q=>(layClean.free m q.1 (turns m) (bits h % (m+1)) (bits h)).bind λ j=>some (q.1.setIfInBounds j (some q.2),q.2+1)
theorem bd8 (m:Nat) (hs:Array Int):layClean m hs=(hs.foldl (stF m) (some (Array.replicate (m+1) none,0))).map (·.1):=rfl
theorem fmS (x:Nat) (r:List (Option Nat)):List.filterMap id (some x::r)=x::List.filterMap id r:=rfl
theorem fmN (r:List (Option Nat)):List.filterMap id (none::r)=List.filterMap id r:=rfl
def aW4 (m:Nat) (ow:Array (Option Nat)) (k:Nat):Prop:=ow.size=m+1/\(ow.toList.filterMap id).Perm (List.range k)
theorem aH2:∀ l:List (Option Nat),(∀ x∈l,x≠none)->(l.filterMap id).length=l.length
 |[],_=>rfl
 |none::r,h=>absurd rfl (h none (by simp))
 |some x::r,h=>by
  rw[fmS,List.length_cons,List.length_cons,aH2 r λ y hy=>h y (by simp[hy])]
theorem as4:∀ (l:List (Option Nat)) (j k:Nat),l[j]?=some none->((l.set j (some k)).filterMap id).Perm (k::l.filterMap id)
 |[],j,k,h=>by simp at h
 |x::r,0,k,h=>by
  have e:x=none:=by simpa using h
  subst e;simp
 |none::r,j+1,k,h=>by
  rw[List.set_cons_succ,fmN,fmN];exact as4 r j k (by simpa using h)
 |some x::r,j+1,k,h=>by
  rw[List.set_cons_succ,fmS,fmS];exact ((as4 r j k (by simpa using h)).cons x).trans (List.Perm.swap k x _)
theorem getD_none {ow:Array (Option Nat)}{j:Nat} (h:ow.getD j (some 0)=none):ow.toList[j]?=some none:=by
 rw[Array.getD_eq_getD_getElem?] at h;cases q:ow[j]? with
 |none=>rw[q] at h;cases h
 |some x =>
  rw[q] at h;have:x=none:=h;subst this;rw[Array.getElem?_toList];exact q
theorem bo7 {m:Nat} (F:aj4 m) {ow:Array (Option Nat)}{k:Nat} (I:aW4 m ow k) (hk:k<=m) (h:Int):∃ ow',stF m (some (ow,k)) h=some (ow',k+1)/\aW4 m ow' (k+1):=by
 obtain⟨hs,hp⟩:=I
 have fr:∃ j,j<=m/\ow.getD j (some 0)=none:=Classical.byContradiction λ no=>by
  have all:∀ x∈ow.toList,x≠none:=λ x hx e=>by
   obtain⟨j,hj,ej⟩:=List.mem_iff_getElem.mp hx;rw[Array.length_toList] at hj;refine no ⟨j,by omega,?_⟩
   rw[Array.getD_eq_getD_getElem?,<- Array.getElem?_toList,List.getElem?_eq_getElem (by rw[Array.length_toList];exact hj),ej,e]
   rfl
  have l1:=aH2 _ all;rw[hp.length_eq,List.length_range,Array.length_toList,hs] at l1;omega
 obtain⟨j,hj,ej⟩:=fr;obtain⟨n,hn,en⟩:=bt2 F (i:=bits h % (m+1)) (Nat.le_of_lt_succ (Nat.mod_lt _ (Nat.succ_pos m))) (aT7 h) hj;obtain⟨j',e',f'⟩:=as2 (m:=m) (ow:=ow) (turns m) _ _ ⟨n,hn,by rw[en];exact ej⟩
 refine⟨ow.setIfInBounds j' (some k),?_,by rw[Array.size_setIfInBounds];exact hs,?_⟩
 ·show ((layClean.free m ow (turns m) (bits h % (m+1)) (bits h)).bind _)=_
  rw[e'];rfl
 ·rw[Array.toList_setIfInBounds]
  refine (as4 _ _ _ (getD_none f')).trans ((hp.cons k).trans ?_);rw[List.range_succ];exact (List.perm_append_singleton k (List.range k)).symm
theorem aF0 {m:Nat} (F:aj4 m):∀ (l:List Int) (ow:Array (Option Nat)) (k:Nat),aW4 m ow k->k+l.length<=m+1->∃ ow',l.foldl (stF m) (some (ow,k))=some (ow',k+l.length)/\aW4 m ow' (k+l.length)
 |[],ow,k,I,_=>⟨ow,rfl,I⟩
 |h::r,ow,k,I,hk=>by
  rw[List.length_cons] at hk;obtain⟨o1,e1,I1⟩:=bo7 F I (by omega) h
  obtain⟨o2,e2,I2⟩:=aF0 F r o1 (k+1) I1 (by omega)
  refine⟨o2,?_,?_⟩
  ·rw[List.foldl_cons,e1,e2,List.length_cons,Nat.add_assoc,Nat.add_comm 1]
  ·rw[List.length_cons,<- Nat.add_assoc,Nat.add_right_comm];exact I2
theorem bd7 {m:Nat} (F:aj4 m) (hs:Array Int) (hn:hs.size<=m+1):∃ ow,layClean m hs=some ow/\aW4 m ow hs.size:=by
 have I0:aW4 m (Array.replicate (m+1) none) 0:=⟨Array.size_replicate,by
  rw[Array.toList_replicate];have:∀ n,List.filterMap id (List.replicate n (none:Option Nat))=[]:=λ n=>by induction n with
   |zero=>rfl
   |succ n ih=>rw[List.replicate_succ,List.filterMap_cons_none rfl,ih]
  rw[this];exact .refl _⟩
 obtain⟨ow,e,I⟩:=aF0 F hs.toList _ 0 I0 (by rw[Array.length_toList];omega)
 rw[Array.length_toList,Nat.zero_add] at I e;refine⟨ow,?_,I⟩;rw[bd8,<- Array.foldl_toList,e];rfl
theorem ap5 (ow:Array (Option Nat)):((List.range ow.size).filterMap λ j=>(ow.getD j none).map (j,·)).map (·.2)=ow.toList.filterMap id:=by
 rw[List.map_filterMap]
 have:∀ (l:List (Option Nat)),(List.range l.length).filterMap (λ j=>((l[j]?.getD none).map (j,·)).map (·.2))=l.filterMap id:=λ l=>by
  induction l with
  |nil=>rfl
  |cons x r ih =>
   rw[List.length_cons,List.range_succ_eq_map,List.filterMap_cons,List.filterMap_map];have z:(λ j=>Option.map (λ x=>x.2) (Option.map (λ x=>(j,x)) ((x::r)[j]?.getD none))) ∘ Nat.succ=λ j=>((((r[j]?.getD none).map ((j+1),·)).map (·.2):Option Nat)):=by funext j;simp
   rw[z];have z2:(λ j=>((((r[j]?.getD none).map ((j+1),·)).map (·.2):Option Nat)))=λ j=>((r[j]?.getD none).map (j,·)).map (·.2):=by funext j;cases r[j]?.getD none <;> rfl
   rw[z2,ih];cases x <;> rfl
 have t:=this ow.toList;rw[Array.length_toList] at t;rw[<- t]
 congr 1
 funext j
 rw[Array.getD_eq_getD_getElem?,Array.getElem?_toList]
theorem aq4 {m:Nat} (F:aj4 m) {fi mv:Nat}{l p:Bool} (hs:Array Int) (hn:hs.size<=m):∃ t order,laid m fi mv l p hs=some (t,order)/\order.toList.Perm (List.range hs.size)/\t.fits hs.size=true/\t.led=l/\t.plain=p/\t.mask=m/\t.dummies=#[]:=by
 obtain⟨ow,e,I⟩:=bd7 F hs (by omega)
 refine⟨_,_,by unfold laid;rw[e];rfl,?_,?_,rfl,rfl,rfl,rfl⟩
 ·show (((List.range (m+1)).filterMap λ j=>(ow.getD j none).map (j,·)).map (·.2)).toArray.toList.Perm _
  rw[<- I.1,ap5];exact I.2
 ·have sz:(((List.range (m+1)).filterMap λ j=>(ow.getD j none).map (j,·)).map (·.1)).length=hs.size:=by
   rw[List.length_map,<- List.length_map (f:=λ x:Nat×Nat=>x.2),<- I.1,ap5,I.2.length_eq,List.length_range]
  unfold fits fill;simp only[List.size_toArray,Bool.and_eq_true,beq_iff_eq,decide_eq_true_eq];refine⟨sz,?_⟩;rw[sz];exact hn
end Fx
namespace Fx
open PySem PySem.Spec
theorem T_5 (n:Nat) (h:n<=120):aj4 (SetTable.sizeAbove n-1)/\n<=SetTable.sizeAbove n-1/\SetTable.sizeAbove n<=128:=by
 have key:∀ k<121,(SetTable.sizeAbove k=8\/SetTable.sizeAbove k=16\/SetTable.sizeAbove k=32\/SetTable.sizeAbove k=64\/SetTable.sizeAbove k=128)/\k<=SetTable.sizeAbove k-1:=by decide +kernel
 obtain⟨k1,k2⟩:=key n (by omega)
 refine⟨?_,k2,by omega⟩
 rcases k1 with e | e | e | e | e <;> rw[e]
 ·exact bf4
 ·exact bf7
 ·exact bf6
 ·exact bf5
 ·exact aP1
section
variable {P:Program}{w:World}{bt:Bool}{A:Around}{E:Value->Shared->Prop}{s:Shared}{a b:Addr}{ss os:List Str}
theorem J_0 {es:Array (Int×Value)}{order:Array Nat} (h:order.toList.Perm (List.range es.size)):(order.filterMap (es[·]?)).toList.Perm es.toList:=by
 rw[Array.toList_filterMap];exact (h.filterMap _).trans (by rw[filterMap_getElem?_range])
theorem t_5 {wanted:Nat}{Q:Unit->Shared->Prop}{o:Obj}{es:Array (Int×Value)}{ep:Nat}{t:SetTable} (ho:s.heap.get? a=some o) (hd:o.data=.set es ep t) (hf:t.fits es.size=true) (hw:wanted<=120) (hz:es.size<=wanted)
  (h:∀ (es':Array (Int×Value)) (t':SetTable),es'.toList.Perm es.toList->t'.fits es'.size=true->t'.led=t.led->t'.plain=t.plain->t'.mask=SetTable.sizeAbove wanted-1->t'.fill=es'.size ->
   Q () {s with heap:=s.heap.update a (Obj.putSet es' t')}):wpAny (model P w) A (setRelay a wanted) Q E s:=by
 obtain⟨F,f2,f3⟩:=T_5 wanted hw;unfold setRelay;refine qb (wpAny_setState_of ho hd hf ?_);dsimp only;obtain⟨t',order,e,hp,hft,hl,hpl,hm,hdu⟩:=aq4 F (fi:=t.finger) (mv:=t.movedTo (SetTable.sizeAbove wanted-1)) (l:=t.led) (p:=t.plain) (Array.map (λ x=>x.fst) es) (by rw[Array.size_map];omega)
 rw[Array.size_map] at hp hft;have e':t.relaid (Array.map (λ x=>x.fst) es) wanted=some (t',order):=e
 have pp:=J_0 hp;have sz:(order.filterMap (es[·]?)).size=es.size:=by rw[<- Array.length_toList,pp.length_eq,Array.length_toList]
 refine wpAny_ite_split (λ c=>absurd c (by rw[sizeLine_eq];omega)) λ _=>?_
 rw[e'];refine qb (wpAny_ite_split (λ c=>absurd sz (by simpa using c)) λ _=>qc ?_)
 dsimp only;refine wpAny_storeSet_of ho hd (h _ _ pp (by rw[sz];exact hft) hl hpl hm ?_) (by rw[sz];have:=f2;rw[sizeLine_eq];omega)
 unfold SetTable.fits at hft;simp only[Bool.and_eq_true,beq_iff_eq] at hft;unfold SetTable.fill;rw[hdu,sz,hft.1];rfl
end
section
variable {P:Program}{w:World}{A:Around}{E:Value->Shared->Prop}{s:Shared}{a b:Addr}{ss os:List Str}
theorem W_0 {h:Heap}{a:Addr} (ho:h.get? a=some (newS w)):SetS P w (byT w) h a [] :=
 ⟨_,#[],0,_,ho,⟨rfl,rfl,rfl⟩,rfl,λ e he=>(by simp at he),List.Perm.refl _,List.nodup_nil,by decide,by rfl,λ _=>rfl,λ e=>by show (!byT w)=true;rw[e];rfl⟩
theorem J_2 {each:Sem Unit}{h1:Heap}{oa:Obj}{ep1:Nat}{t1:SetTable}{Q:Unit->Shared->Prop}{ob:Obj}{eb:Array (Int×Value)}{epb:Nat}{tb:SetTable}
  (ho1:s.heap.get? a=some oa) (hexa:oa.ExactSet) (hd1:oa.data=.set #[] ep1 t1) (hf1:t1.fits 0=true) (fi:t1.fill=0) (F:aj4 t1.mask) (hz:eb.size<=t1.mask)
  (hl1:byT w=false->t1.led=true)
  (helb:ElemsOf (PySem.strKind P w) eb.toList) (hpb:(eb.toList.map λ e=>PyProof.Rows.strOf e.2).Perm os) (hnd:os.Nodup) (hbb:eb.size<scanBound) (hfb:tb.fits eb.size=true) (hplb:tb.plain=true->eb.size=0) (hledb:byT w=false->tb.led=true)
  (k:∀ h',Heap.SameBut a s.heap h'->SetS P w (byT w) h' a os->Q () {s with heap:=h'}) :
  wpAny (model P w) A (do
   let (_,_,ts) <- setState a
   match ts.road tb with
   |.slotForSlot=>storeSet a eb {tb with finger:=ts.finger,led:=ts.led&&tb.led,moves:=ts.moves,plain:=ts.plain&&tb.plain}
   |.clean =>
    let (es,t) <- (match SetTable.laid ts.mask ts.finger ts.moves (led:=ts.led&&tb.led) (plain:=ts.plain&&tb.plain) (eb.map (·.1)) with
     |some (t,order)=>if (order.filterMap (eb[·]?)).size != eb.size then (do unsupported "internal:set-table-lost-an-element";pure (order.filterMap (eb[·]?),t)) else pure (order.filterMap (eb[·]?),t)
     |_=>unsupported "internal:set-table-without-room":Sem (Array (Int×Value)×SetTable))
    storeSet a es t
   |.oneByOne=>each) Q E s:=by
 refine qb (wpAny_setState_of ho1 hd1 hf1 ?_);dsimp only
 have done:∀ (es':Array (Int×Value)) (t':SetTable),es'.toList.Perm eb.toList->t'.fits es'.size=true->(t'.plain=true->tb.plain=true)->(byT w=false->t'.led=true)->wpAny (model P w) A (storeSet a es' t') Q E s:=λ es' t' pp ft pl ld=>by
  have sz:es'.size=eb.size:=by rw[<- Array.length_toList,pp.length_eq,Array.length_toList]
  have b1:es'.size<scanBound:=by rw[sz];exact hbb
  have at1:(s.heap.update a (Obj.putSet es' t')).get? a=some {oa with data:=.set es' (ep1+1) t'}:=by
   have z:=Heap.get?_update_self (Obj.putSet es' t') ho1 (by rw[putSet_of es' t' hd1];rfl)
   rw[putSet_of es' t' hd1] at z;exact z
  refine wpAny_storeSet_of ho1 hd1 (k _ (Heap.SameBut.update _ a _) ?_) (fits_of_scanBound b1);exact⟨_,es',ep1+1,t',at1,hexa,rfl,helb.perm pp,(pp.map _).trans hpb,hnd,b1,ft,λ q=>by rw[sz];exact hplb (pl q),ld⟩
 have rd:t1.road tb=if t1.mask==tb.mask&&tb.dummies.isEmpty then .slotForSlot else .clean:=by unfold SetTable.road;rw[fi];rfl
 rw[rd]
 by_cases c:(t1.mask==tb.mask&&tb.dummies.isEmpty)=true
 ·rw[if_pos c]
  dsimp only;exact done _ _ (.refl _) hfb (λ q=>(Bool.and_eq_true_iff.mp q).2) λ q=>by show (t1.led&&tb.led)=true;rw[hl1 q,hledb q];rfl
 ·rw[if_neg c]
  dsimp only;obtain⟨t',order,e,hp,hft,hl,hpl,hm,hdu⟩:=aq4 F (fi:=t1.finger) (mv:=t1.moves) (l:=t1.led&&tb.led) (p:=t1.plain&&tb.plain) (Array.map (λ x=>x.fst) eb) (by rw[Array.size_map];exact hz)
  rw[Array.size_map] at hp hft;have pp:=J_0 hp;have sz:(order.filterMap (eb[·]?)).size=eb.size:=by rw[<- Array.length_toList,pp.length_eq,Array.length_toList]
  rw[e];refine qb (wpAny_ite_split (λ c=>absurd sz (by simpa using c)) λ _=>qc ?_)
  dsimp only;exact done _ _ pp (by rw[sz];exact hft) (λ q=>(Bool.and_eq_true_iff.mp (hpl▸q)).2) λ q=>by rw[hl,hl1 q,hledb q];rfl
theorem t_6 {each:Sem Unit}{Q:Unit->Shared->Prop} (hne:a≠b) (ho:s.heap.get? a=some (newS w)) (hS:SetS P w (byT w) s.heap b os) (hz:os.length<=60)
  (k:∀ h',Heap.SameBut a s.heap h'->SetS P w (byT w) h' a os->(os≠[]\/h'=s.heap)->Q () {s with heap:=h'}):wpAny (model P w) A (setMerge a b each) Q E s:=by
 obtain⟨ob,eb,epb,tb,hob,hexb,hdb,helb,hpb,hnd,hbb,hfb,hplb,hledb⟩:=hS
 have hn:eb.size=os.length:=by
  have:=hpb.length_eq;rw[List.length_map,Array.length_toList] at this;exact this
 unfold setMerge;have n1:(a==b)=false:=by simpa using hne
 rw[n1];refine wpAny_ite_split (λ c=>absurd c (by decide)) λ _=>?_
 refine qb (wpAny_setState_of hob hdb hfb ?_);dsimp only;refine wpAny_ite_split (λ c=>?_) λ c=>?_
 ·have z:os=[]:=by
   rw[Array.isEmpty_iff_size_eq_zero,hn] at c;exact List.length_eq_zero_iff.mp c
  subst z;exact qc (k s.heap (Heap.SameBut.refl a _) (W_0 ho) (.inr rfl))
 ·have nz:os≠[]:=λ z=>by
   subst z;exact c (by rw[Array.isEmpty_iff_size_eq_zero];exact hn)
  refine qb ?_;unfold setRoomFor;refine qb (wpAny_setState_of (es:=#[]) ho rfl rfl ?_);dsimp only;have rf:(SetTable.fresh 0 0 !byT w).roomFor eb.size=if (0+eb.size)*5>=7*3 then some ((0+eb.size)*2) else none:=rfl;rw[rf]
  by_cases c2:(0+eb.size)*5>=7*3
  ·rw[if_pos c2]
   dsimp only;have hw:(0+eb.size)*2<=120:=by omega
   obtain⟨F,f2,_⟩:=T_5 _ hw;refine t_5 (es:=#[]) ho rfl rfl hw (Nat.zero_le _) λ es' t' pp ft hl hpl hm hfi=>?_
   have z:es'=#[]:=by
    have:=pp.length_eq;rw[Array.length_toList,Array.length_toList] at this;exact Array.eq_empty_of_size_eq_zero this
   subst z
   have at1:(s.heap.update a (Obj.putSet #[] t')).get? a=some {newS w with data:=.set #[] (0+1) t'}:=by
    have z:=Heap.get?_update_self (Obj.putSet #[] t') ho rfl;exact z
   have sb1:=Heap.SameBut.update s.heap a (Obj.putSet #[] t');refine J_2 (s:={s with heap:=s.heap.update a (Obj.putSet #[] t')}) (h1:=s.heap) (ob:=ob) (epb:=epb) at1 ⟨rfl,rfl,rfl⟩ rfl ft hfi (by rw[hm];exact F) (by rw[hm];omega) (λ q=>by rw[hl];show (!byT w)=true;rw[q];rfl) helb hpb hnd hbb hfb hplb hledb λ h' sb hS'=>?_
   exact k h' (sb1.trans sb) hS' (.inl nz)
  ·rw[if_neg c2]
   dsimp only;refine qc ?_;exact J_2 (h1:=s.heap) (ob:=ob) (epb:=epb) ho ⟨rfl,rfl,rfl⟩ rfl rfl rfl bf4 (by show eb.size<=7;omega) (λ q=>by show (!byT w)=true;rw[q];rfl) helb hpb hnd hbb hfb hplb hledb λ h' sb hS'=>k h' sb hS' (.inl nz)
end
section
variable {P:Program}{w:World}{A:Around}{E:Value->Shared->Prop}{s:Shared}{a b:Addr}{ss os:List Str}
theorem z_1 {bt:Bool}{Q:Bool->Shared->Prop} (ha:SetS P w bt s.heap a ss) (hb:SetS P w bt s.heap b os) (q:Q true s):wpAny (model P w) A (setsQuiet [b,a]) Q E s:=by
 unfold setsQuiet;refine qb (wpAny_forIn_list _ (λ l acc s'=>(∀ c∈l,∃ xs,SetS P w bt s.heap c xs)/\acc=(none,())/\s=s') _ (λ c rest acc s' h=>?_) (λ acc s' h=>?_) _ _ ⟨λ c hc=>?_,rfl,rfl⟩)
 ·obtain⟨hl,rfl,hs⟩:=h
  subst hs;obtain⟨xs,o,es,ep,t,ho,hex,hd,hel,hp,hnd,hbd,hf,hpl,hled⟩:=hl c (by simp)
  refine qb (wpAny_setEntries_of ho hd hf (qb ?_));refine wpAny_forIn_array' _ (λ l acc s'=>(∀ e∈l,∃ x t,e.2=Value.str x t)/\acc=(none,())/\s=s') _ (λ e rest acc s' h=>?_) (λ acc s' h=>?_) _ _ ⟨λ e he=>?_,rfl,rfl⟩
  ·obtain⟨hl,rfl,hs⟩:=h
   subst hs;obtain⟨h0,v⟩:=e;obtain⟨x,t,ex⟩:=hl (h0,v) (by simp)
   have ex:v=Value.str x t:=ex;subst ex;exact qc ⟨λ e he=>hl e (by simp[he]),rfl,rfl⟩
  ·obtain⟨_,rfl,rfl⟩:=h
   exact qc ⟨λ c hc=>hl c (by simp[hc]),rfl,rfl⟩
  ·obtain⟨x,t,e1,_⟩:=k_5 hel e he
   exact⟨x,t,e1⟩
 ·obtain⟨_,rfl,rfl⟩:=h
  exact qc q
 ·rcases qp hc with rfl | hc
  ·exact⟨_,hb⟩
  ·rw[List.mem_singleton.mp hc];exact⟨_,ha⟩
theorem D_9 {o:Obj}{es:Array (Int×Value)}{ep:Nat}{t:SetTable}{Q:Array (Int×Value)->Shared->Prop} (ho:s.heap.get? a=some o) (hd:o.data=.set es ep t) (hf:t.fits es.size=true) (hled:byT w=false->t.led=true)
  (q:∀ (arr:Array (Int×Value)) (dr:Drawn),arr.toList.Perm es.toList->Q arr {s with drawn:=dr}):wpAny (model P w) A (setWalk a) Q E s:=by
 unfold setWalk setsByText;refine qb (wpAny_setState_of ho hd hf ?_);dsimp only;refine qb (qb (wpAny_askSetting (qc ?_)))
 split
 ·exact qb (wpAny_askSetting (qc (q _ s.drawn (v_9 _ es))))
 ·rename_i c
  have bf:byT w=false:=by cases z:byT w with
   |false=>rfl
   |true=>exact absurd z c
  split
  ·refine qb (p_0 _ _ _ _ (by simp) λ pl dr pp=>qc (q _ dr ?_))
   exact pp
  ·have m:∀ (Q':Unit → Shared → Prop),Q' () s → wpAny (model P w) A (if (!t.led&&decide (es.size > 1))=true then unsupported "set:maker-not-led" else pure ()) Q' E s:=λ Q' q'=>by
    rw[if_neg (by simp[hled bf])];exact qc q'
   exact qb (m _ (qc (q es s.drawn (.refl _))))
theorem SetS.perm {bt:Bool}{h:Heap}{xs ys:List Str} (S:SetS P w bt h a xs) (p:xs.Perm ys):SetS P w bt h a ys:=by
 obtain⟨o,es,ep,t,ho,hex,hd,hel,hp,hnd,hb,hf,hpl,hled⟩:=S;exact⟨o,es,ep,t,ho,hex,hd,hel,hp.trans p,p.nodup_iff.mp hnd,hb,hf,hpl,hled⟩
theorem B_8 {o:Obj}{es:Array (Int×Value)}{ep:Nat}{t:SetTable}{Q:Array (Int×Value)->Shared->Prop} (ha:SetS P w (byT w) s.heap a ss) (hbS:SetS P w (byT w) s.heap b os) (ho:s.heap.get? b=some o) (hd:o.data=.set es ep t) (hf:t.fits es.size=true) (hled:byT w=false->t.led=true)
  (q:∀ (arr:Array (Int×Value)) (h':Heap) (dr:Drawn),arr.toList.Perm es.toList->Heap.SameBut a s.heap h'->SetS P w (byT w) h' a ss->Q arr {s with heap:=h',drawn:=dr}):wpAny (model P w) A (setWalkUnseen b [a] (some a)) Q E s:=by
 unfold setWalkUnseen;refine qb (wpAny_setState_of ho hd hf ?_);dsimp only;unfold setsByText;refine qb (qb (wpAny_askSetting (qc ?_)));have walk:wpAny (model P w) A (setWalk b) Q E s:=D_9 ho hd hf hled λ arr dr pp=>q arr s.heap dr pp (Heap.SameBut.refl a _) ha
 refine wpAny_ite_split (λ c=>walk) λ c=>?_
 refine qb (z_1 ha hbS ?_);refine wpAny_ite_split (λ c=>absurd c (by decide)) λ _=>?_
 refine qb (wpAny_rule ?_);obtain⟨oa,ea,epa,ta,hoa,hexa,hda,hela,hpa,hnda,hba,hfa,hpla,hleda⟩:=ha;refine qb (wpAny_setState_of hoa hda hfa ?_);dsimp only;refine wpAny_ite_split (λ c2=>?_) λ _=>?_
 ·refine qb (wpAny_storeSet_of hoa hda (qc (q es _ s.drawn (.refl _) (Heap.SameBut.update _ a _) ?_)) (fits_of_scanBound hba))
  generalize hT:({ta with led:=ta.led&&t.led,plain:=ta.plain&&t.plain}:SetTable)=t2
  have at1:(s.heap.update a (Obj.putSet ea t2)).get? a=some {oa with data:=.set ea (epa+1) t2}:=by
   have z:=Heap.get?_update_self (Obj.putSet ea t2) hoa (by rw[putSet_of ea t2 hda];rfl)
   rw[putSet_of ea t2 hda] at z;exact z
  subst hT;exact⟨_,ea,epa+1,_,at1,hexa,rfl,hela,hpa,hnda,hba,hfa,λ z=>hpla (Bool.and_eq_true_iff.mp z).1,λ z=>by show (ta.led&&t.led)=true;rw[hleda z,hled z];rfl⟩
 ·exact qc (q es s.heap s.drawn (.refl _) (Heap.SameBut.refl a _) ⟨oa,ea,epa,ta,hoa,hexa,hda,hela,hpa,hnda,hba,hfa,hpla,hleda⟩)
end
section
variable {P:Program}{w:World}{A:Around}{E:Value->Shared->Prop}{s:Shared}{a b:Addr}{ss os:List Str}
theorem ah3 {x:Str}{acc:List Str} (h:acc.Nodup):(I_4 acc x).Nodup:=by
 unfold I_4
 split
 ·exact h
 ·rename_i hx
  rw[List.nodup_append];exact⟨h,by simp,λ u hu v hv e=>by rw[List.mem_singleton] at hv;subst hv;subst e;exact hx hu⟩
theorem i_7:∀ (xs acc:List Str),acc.Nodup->(a_6 acc xs).Nodup
 |[],acc,h=>h
 |x::r,acc,h=>i_7 r (I_4 acc x) (ah3 h)
theorem G_3 {acc xs ys:List Str} (h:acc.Nodup) (p:xs.Perm ys):(a_6 acc xs).Perm (a_6 acc ys) :=
 (List.perm_ext_iff_of_nodup (i_7 xs acc h) (i_7 ys acc h)).mpr λ y=>by rw[mem_addAll,mem_addAll,p.mem_iff]
theorem S_7 {each:Sem Unit}{f g:Array (Int×Value)×Nat×SetTable->Sem Unit}{Q:Unit->Shared->Prop}{ob:Obj}{eb:Array (Int×Value)}{epb:Nat}{tb:SetTable} (hne:a≠b) (hss:ss≠[]) (hA:SetS P w (byT w) s.heap a ss) (hB:SetS P w (byT w) s.heap b os)
  (hob:s.heap.get? b=some ob) (hdb:ob.data=.set eb epb tb) (hfb:tb.fits eb.size=true) (hledb:byT w=false->tb.led=true) (helb:ElemsOf (PySem.strKind P w) eb.toList) (hpb:(eb.toList.map λ e=>PyProof.Rows.strOf e.2).Perm os) (hz:ss.length+os.length<=60)
  (heach:∀ (s':Shared) (Q':Unit->Shared->Prop),s'.heap.get? b=some ob->Q' () s'->wpAny (model P w) A each Q' E s')
  (k:∀ h' dr,Heap.SameBut a s.heap h'->SetS P w (byT w) h' a (a_6 ss os)->Q () {s with heap:=h',drawn:=dr}) :
  wpAny (model P w) A (do
   let sa <- setState a
   match sa.2.2.road tb with
   |.slotForSlot=>f sa
   |.clean=>g sa
   |.oneByOne=>do
    let arr <- setWalkUnseen b [a] (some a)
    let _ <- forIn arr PUnit.unit λ (x:Int×Value) (_:PUnit)=>do
     let _ <- holding [x.2] (setAddHashed a x.2 x.1)
     each
     let st <- setState b
     if (st.2.1 != epb)=true then do
       unsupported "set.changed-during-merge"
       pure (ForInStep.yield PUnit.unit)
      else pure (ForInStep.yield PUnit.unit)
    pure ()) Q E s:=by
 have hA0:=hA;obtain⟨oa,ea,epa,ta,hoa,hexa,hda,hela,hpa,hnda,hba,hfa,hpla,hleda⟩:=hA
 have hn:ea.size=ss.length:=by
  have:=hpa.length_eq;rw[List.length_map,Array.length_toList] at this;exact this
 refine qb (wpAny_setState_of hoa hda hfa ?_);dsimp only
 have fi:ta.fill≠0:=by
  unfold SetTable.fits at hfa;simp only[Bool.and_eq_true,beq_iff_eq] at hfa;unfold SetTable.fill;have:ss.length≠0:=λ z=>hss (List.length_eq_zero_iff.mp z)
  omega
 have rd:ta.road tb=.oneByOne:=by unfold SetTable.road;rw[if_pos (by simpa using fi)]
 rw[rd];dsimp only;refine qb (B_8 hA0 hB hob hdb hfb hledb λ arr h1 dr pp sb1 hS1=>qb ?_)
 have ael:ElemsOf (PySem.strKind P w) arr.toList:=helb.perm pp;have apm:(arr.toList.map λ e=>PyProof.Rows.strOf e.2).Perm os:=(pp.map _).trans hpb
 have alen:arr.toList.length=os.length:=by rw[<- apm.length_eq,List.length_map]
 refine wpAny_forIn_array' _ (λ l _ s'=>∃ h' xs,s'={s with heap:=h',drawn:=dr}/\Heap.SameBut a s.heap h'/\SetS P w (byT w) h' a xs/\(∀ e∈l,∃ x t,e.2=Value.str x t/\e.1=(PySem.strKind P w).hash x)/\xs.length+l.length<=60 /\
   a_6 xs (l.map λ e=>PyProof.Rows.strOf e.2)=a_6 ss (arr.toList.map λ e=>PyProof.Rows.strOf e.2)) _ (λ e rest _ s' h=>?_) (λ _ s' h=>?_) _ _ ⟨h1,ss,rfl,sb1,hS1,k_5 ael,by rw[alen];exact hz,rfl⟩
 ·obtain⟨h',xs,rfl,sb,hS,hl,hlen,hadd⟩:=h
  obtain⟨x,tk,e2,e1⟩:=hl e (by simp)
  obtain⟨h0,v⟩:=e;dsimp only at e1 e2;subst e1;subst e2;rw[List.length_cons] at hlen;refine qb (wpAny_holding (z_2 hS (by unfold scanBound;omega) λ h2 sb2 hS2=>?_))
  have bb:h2.get? b=some ob:=by rw[sb2.2 b (Ne.symm hne),sb.2 b (Ne.symm hne)];exact hob
  refine qb (heach _ _ bb (qb (wpAny_setState_of bb hdb hfb ?_)));refine wpAny_ite_split (λ c=>absurd c (by simp)) λ _=>qc ?_
  refine⟨h2,I_4 xs x,rfl,sb.trans sb2,hS2,λ e he=>hl e (by simp[he]),?_,hadd⟩
  have l2:(I_4 xs x).length<=xs.length+1:=by
   unfold I_4;split
   ·omega
   ·rw[List.length_append];exact qi _
  omega
 ·obtain⟨h',xs,rfl,sb,hS,_,_,hadd⟩:=h
  have e:xs=a_6 ss (arr.toList.map λ e=>PyProof.Rows.strOf e.2):=hadd
  refine qc (k h' dr sb ?_);rw[e] at hS;exact hS.perm (G_3 hnda apm)
end
section
variable {P:Program}{w:World}{A:Around}{E:Value->Shared->Prop}{s:Shared}{a b:Addr}{ss os:List Str}
theorem B_9 {each:Sem Unit}{Q:Unit->Shared->Prop} (hne:a≠b) (hss:ss≠[]) (hA:SetS P w (byT w) s.heap a ss) (hB:SetS P w (byT w) s.heap b os) (hz:ss.length+os.length<=60)
  (heach:∀ (s':Shared) (Q':Unit->Shared->Prop),s'.heap.get? b=s.heap.get? b->Q' () s'->wpAny (model P w) A each Q' E s')
  (k:∀ h' dr,Heap.SameBut a s.heap h'->SetS P w (byT w) h' a (a_6 ss os)->Q () {s with heap:=h',drawn:=dr}):wpAny (model P w) A (setMerge a b each) Q E s:=by
 have hB0:=hB;obtain⟨ob,eb,epb,tb,hob,hexb,hdb,helb,hpb,hnd,hbb,hfb,hplb,hledb⟩:=hB
 have hn:eb.size=os.length:=by
  have:=hpb.length_eq;rw[List.length_map,Array.length_toList] at this;exact this
 unfold setMerge;have n1:(a==b)=false:=by simpa using hne
 rw[n1];refine wpAny_ite_split (λ c=>absurd c (by decide)) λ _=>?_
 refine qb (wpAny_setState_of hob hdb hfb ?_);dsimp only;refine wpAny_ite_split (λ c=>?_) λ c=>?_
 ·have z:os=[]:=by
   rw[Array.isEmpty_iff_size_eq_zero,hn] at c;exact List.length_eq_zero_iff.mp c
  subst z;exact qc (k s.heap s.drawn (Heap.SameBut.refl a _) hA)
 ·refine qb ?_
  have hA0:=hA;obtain⟨oa,ea,epa,ta,hoa,hexa,hda,hela,hpa,hnda,hba,hfa,hpla,hleda⟩:=hA
  have ha:ea.size=ss.length:=by
   have:=hpa.length_eq;rw[List.length_map,Array.length_toList] at this;exact this
  have pl:ta.place.size=ea.size:=by
   unfold SetTable.fits at hfa;simp only[Bool.and_eq_true,beq_iff_eq] at hfa;exact hfa.1
  unfold setRoomFor;refine qb (wpAny_setState_of hoa hda hfa ?_);dsimp only;have rf:ta.roomFor eb.size=if (ta.fill+eb.size)*5>=ta.mask*3 then some ((ta.place.size+eb.size)*2) else none:=rfl;rw[rf]
  by_cases c2:(ta.fill+eb.size)*5>=ta.mask*3
  ·rw[if_pos c2]
   dsimp only;refine t_5 hoa hda hfa (by omega) (by omega) λ es' t' pp ft hl hpl hm hfi=>?_
   have at1:(s.heap.update a (Obj.putSet es' t')).get? a=some {oa with data:=.set es' (epa+1) t'}:=by
    have z:=Heap.get?_update_self (Obj.putSet es' t') hoa (by rw[putSet_of es' t' hda];rfl)
    rw[putSet_of es' t' hda] at z;exact z
   have sz:es'.size=ea.size:=by rw[<- Array.length_toList,pp.length_eq,Array.length_toList]
   have sb1:=Heap.SameBut.update s.heap a (Obj.putSet es' t');have S1:SetS P w (byT w) (s.heap.update a (Obj.putSet es' t')) a ss:=⟨_,es',epa+1,t',at1,hexa,rfl,hela.perm pp,(pp.map _).trans hpa,hnda,by rw[sz];exact hba,ft,λ q=>by rw[sz];exact hpla (hpl▸q),λ q=>by rw[hl];exact hleda q⟩
   have bb:(s.heap.update a (Obj.putSet es' t')).get? b=some ob:=by rw[sb1.2 b (Ne.symm hne)];exact hob
   exact S_7 (s:={s with heap:=s.heap.update a (Obj.putSet es' t')}) hne hss S1 (hB0.same sb1 (Ne.symm hne)) bb hdb hfb hledb helb hpb hz (λ s' Q' e q=>heach s' Q' (by rw[e,hob]) q) λ h' dr sb hS=>k h' dr (sb1.trans sb) hS
  ·rw[if_neg c2]
   dsimp only;exact qc (S_7 hne hss hA0 hB0 hob hdb hfb hledb helb hpb hz (λ s' Q' e q=>heach s' Q' (by rw[e,hob]) q) k)
end
theorem T_6:entryFor table "set.__or__"=some Builtin.«frozenset.__or__» :=
 entryFor_alias (id':="frozenset.__or__") (by kernel_rfl) rfl (by decide +kernel) (by kernel_rfl)
section
variable {P:Program}{w:World}{A:Around}{E:Value->Shared->Prop}{s:Shared}{a b:Addr}{ss os:List Str}
theorem SetS.ty {bt:Bool} (hS:SetS P w bt s.heap a ss):s.TypeIs (.ref a) "set":=by
 obtain⟨o,es,ep,t,ho,hex,_⟩:=hS;exact⟨o,ho,hex.1⟩
theorem q_2 {Q:Bool → Shared → Prop} (ty:s.TypeIs (.ref a) "set") (q:Q true s):wpAny (model P w) A (Builtin.Frozenset.isAnySet (.ref a)) Q E s:=by
 unfold Builtin.Frozenset.isAnySet;have su:=sub_set_self;refine qb (wpAny_isInstance ty su ?_);exact qc q
theorem aI3 {Q:Value->Shared->Prop} (hS:SetS P w (byT w) s.heap a ss) (hz:ss.length<=60)
  (k:∀ h',(∀ b o,s.heap.get? b=some o->h'.get? b=some o)->SetS P w (byT w) h' s.heap.objs.size ss->(ss=[]->h'.get? s.heap.objs.size=some (newS w))->Q (.ref s.heap.objs.size) {s with heap:=h'}):wpAny (model P w) A (Builtin.Frozenset.copyOf a) Q E s:=by
 have al:a<s.heap.objs.size:=by
  obtain⟨o,es,ep,t,ho,_⟩:=hS;exact qk ho
 unfold Builtin.Frozenset.copyOf Builtin.Frozenset.baseOf;have su:=sub_set_self;refine qb (qb (wpAny_isInstance hS.ty su (qc (qb ?_))));refine ac5 ?_;have at0:(s.heap.push (newS w)).get? s.heap.objs.size=some (newS w):=qj _ rfl;refine qb (qc (qb ?_));refine t_6 (s:={s with heap:=s.heap.push (newS w)}) (Nat.ne_of_gt al) at0 (hS.keep λ b o e=>qd _ e) hz λ h' sb hS' c=>qc (k h' (λ b o e=>?_) hS' λ z=>?_)
 ·rw[sb.2 b (Nat.ne_of_lt (Heap.lt_size e))];exact qd _ e
 ·rcases c with c | c
  ·exact absurd z c
  ·rw[c];exact at0
end
section
variable {P:Program}{w:World}{A:Around}{E:Value->Shared->Prop}{s:Shared}{a b:Addr}{ss os:List Str}
theorem u_6 {ys:List Str} (h:ys.Nodup):ys.Perm (a_6 [] ys) :=
 (List.perm_ext_iff_of_nodup h (i_7 ys [] List.nodup_nil)).mpr λ y=>by rw[mem_addAll];simp
theorem aJ9 {Q:Value×Value → Shared → Prop}{u v:Value} (q:Q (u,v) s):wpAny (model P w) A (Builtin.Frozenset.slot1 "__or__" ⟨[u,v],[]⟩) Q E s :=
 qb (qc (qc q))
theorem ax5 {id:String}{r:Addr}{Q:Unit->Shared->Prop} (hne:r≠b) (hR:SetS P w (byT w) s.heap r ss) (hN:ss=[]->s.heap.get? r=some (newS w)) (hB:SetS P w (byT w) s.heap b os) (hz:ss.length+os.length<=60)
  (k:∀ h' dr,Heap.SameBut r s.heap h'->SetS P w (byT w) h' r (a_6 ss os)->Q () {s with heap:=h',drawn:=dr}):wpAny (model P w) A (Builtin.Frozenset.updateFrom id r (.ref b)) Q E s:=by
 have hB0:=hB;obtain⟨ob,eb,epb,tb,hob,hexb,hdb,helb,hpb,hnd,hbb,hfb,hplb,hledb⟩:=hB;unfold Builtin.Frozenset.updateFrom;refine qb (q_2 hB0.ty ?_);rw[if_pos rfl];refine qb (qc ?_);unfold Builtin.Frozenset.merge;unfold setEpoch;refine qb (qb (wpAny_setState_of hob hdb hfb (qc ?_)));dsimp only
 by_cases z:ss=[]
 ·subst z
  refine t_6 hne (hN rfl) hB0 (by rw[List.length_nil] at hz;omega) λ h' sb hS _=>k h' s.drawn sb (hS.perm (u_6 hnd))
 ·refine B_9 hne z hR hB0 hz (λ s' Q' e q=>?_) k
  unfold Builtin.Frozenset.unchanged setEpoch;refine qb (qb (wpAny_setState_of (e.trans hob) hdb hfb (qc ?_)));refine wpAny_ite_split (λ c=>absurd c (by simp)) λ _=>qc q
theorem bK8 {Q:Value->Shared->Prop} (hne:a≠b) (hA:SetS P w (byT w) s.heap a ss) (hB:SetS P w (byT w) s.heap b os) (hz:ss.length+os.length<=60)
  (k:∀ h' dr,(∀ b o,s.heap.get? b=some o->h'.get? b=some o)->SetS P w (byT w) h' s.heap.objs.size (a_6 ss os)->Q (.ref s.heap.objs.size) {s with heap:=h',drawn:=dr}) :
  wpAny (model P w) A (binaryOp .BitOr (.ref a) (.ref b)) Q E s:=by
 refine wpAny_binaryOp_same (op:=.BitOr) hA.ty hB.ty F.fills_set_or F.slot_set_or (wpAny_call_entry F.slot_set_or hA.ty T_6 ?_ (F.args_set_or_2 _ _));unfold Builtin.«frozenset.__or__»;refine qb (m:=Builtin.Frozenset.slot1 "__or__" ⟨[.ref a,.ref b],[]⟩) (aJ9 ?_)
 have bl:b<s.heap.objs.size:=by
  obtain⟨o,es,ep,t,ho,_⟩:=hB;exact qk ho
 dsimp only;refine qb (qb (q_2 hA.ty (q_2 hB.ty ?_)));refine wpAny_ite_split (λ c=>absurd c (by decide)) λ _=>?_
 refine qb (qc (qb ?_));refine qb (m:=Builtin.Frozenset.copyOf a) (aI3 hA (by omega) λ h1 kp hS1 hN=>?_)
 have n1:(Value.ref b != Value.ref a)=true:=by simpa using (Ne.symm hne)
 refine wpAny_ite_split (λ _=>?_) λ c=>absurd n1 c
 refine qb (qc (qb (wpAny_holding ?_)));refine ax5 (s:={s with heap:=h1}) (Nat.ne_of_gt bl) hS1 hN (hB.keep kp) hz λ h2 dr sb hS2=>qc (qc ⟨_,rfl,by simp,k h2 dr (λ c o e=>?_) hS2⟩)
 rw[sb.2 c (Nat.ne_of_lt (Heap.lt_size e))];exact kp c o e
end
end Fx
namespace Fx
open PySem
def sqA:D->Option (List D)
 |.tup xs=>some xs
 |.lst xs=>some xs
 |_=>none
def A_8:List D->Option D
 |[x,y]=>bnd (sqA x) λ xs=>bnd (sqA y) λ ys=>if xs.length+ys.length<=60 then n_1 (xs++ys) else none
 |_=>none
@[simp] theorem aY3 (xs:List D):sqA (.tup xs)=some xs:=Eq.trans rfl rfl
@[simp] theorem aY4 (xs:List D):sqA (.lst xs)=some xs:=Eq.trans rfl rfl
theorem K_4 (x y:D):A_8 [x,y]=bnd (sqA x) λ xs=>bnd (sqA y) λ ys=>if xs.length+ys.length<=60 then n_1 (xs++ys) else none:=rfl
end Fx
namespace Fx
open PySem PySem.Spec PyProof.Rows L2
section
variable {K:Frag}{c:FC}{H0 H H':Hp}{ρ:En}{σ:L2.St}{l:Addr}{o:HO}
theorem RS.holdF (R:RS K c H0 H ρ σ) (hl:H l=none):l∉c.Ap/\c.He l=none/\H0 l=none:=by
 have n1:l∉c.Ap:=λ m=>R.apt l m hl
 refine⟨n1,?_,?_⟩
 ·cases z:c.He l with
  |none=>rfl
  |some u=>have:=R.keep l u z n1;rw[hl] at this;cases this
 ·cases z:H0 l with
  |none=>rfl
  |some u=>have:=R.same l u z;rw[hl] at this;cases this
theorem RS.hold (R:RS K c H0 H ρ σ) (hl:H l=none):RS K ⟨c.Hi,upd c.He l o,c.Ap⟩ H0 (upd H l o) ρ σ:=by
 obtain⟨n1,n2,n3⟩:=R.holdF hl;have ne_of:∀ {b:Addr}{u:HO},H b=some u->b≠l:=λ e z=>by rw[z,hl] at e;cases e
 refine⟨λ b u e=>?_,R.init,λ b u e=>?_,λ b u e n=>?_,λ a ha=>?_,R.len,R.im,λ i b o e=>?_,R.ne⟩
 ·have h:=R.same b u e
  rw[b_6 (ne_of h)];exact h
 ·have h:=R.same b u e
  rcases R.fresh b u e with q | q
  ·exact .inl q
  ·exact .inr (by show upd c.He l _ b=none;rw[b_6 (ne_of h)];exact q)
 ·by_cases z:b=l
  ·subst z
   have e:upd c.He b _ b=some u:=e;rw[a_7] at e ⊢;exact e
  ·have e:upd c.He l _ b=some u:=e
   rw[b_6 z] at e ⊢;exact R.keep b u e n
 ·by_cases z:a=l
  ·subst z;exact absurd ha n1
  ·rw[b_6 z];exact R.apt a ha
 ·obtain⟨a,e1,e2,e3,e4⟩:=R.ow i b o e
  obtain⟨u,hu⟩:=e4.some;refine⟨a,e1,e2,?_,e4.step (Same.refl _) λ u h=>by rw[b_6 (ne_of h)];exact h⟩
  cases b with
  |true=>exact e3
  |false =>
   have e3:c.He a=none:=e3;show upd c.He l _ a=none;rw[b_6 (ne_of hu)];exact e3
theorem RS.unhold (R:RS K ⟨c.Hi,upd c.He l o,c.Ap⟩ H0 H ρ σ) (n1:l∉c.Ap) (n2:c.He l=none):RS K c H0 H ρ σ/\H l=some o:=by
 have hl:H l=some o:=R.keep l o a_7 n1;refine⟨⟨R.same,R.init,λ b u e=>?_,λ b u e n=>?_,R.apt,R.len,R.im,λ i b o e=>?_,R.ne⟩,hl⟩
 ·rcases R.fresh b u e with q | q
  ·exact .inl q
  ·have q:upd c.He l _ b=none:=q
   by_cases z:b=l
   ·subst z;rw[a_7] at q;cases q
   ·rw[b_6 z] at q;exact .inr q
 ·have z:b≠l:=λ z=>by rw[z,n2] at e;cases e
  exact R.keep b u (by show upd c.He l _ b=some u;rw[b_6 z];exact e) n
 ·obtain⟨a,e1,e2,e3,e4⟩:=R.ow i b o e
  refine⟨a,e1,e2,?_,e4⟩;cases b with
  |true=>exact e3
  |false =>
   have e3:upd c.He l _ a=none:=e3
   by_cases z:a=l
   ·subst z;rw[a_7] at e3;cases e3
   ·rw[b_6 z] at e3;exact e3
end
section
variable {X:Cx}
theorem aM9:OpR X (binaryOp .BitOr) (λ x y H Q=>∃ p q ss ys,x=.ref p/\y=.ref q/\p≠q/\H p=some (E_0 X.prog X.w p ss)/\H q=some (E_0 X.prog X.w q ys)/\ss.length+ys.length<=60/\∀ l,H l=none->Q (.ref l) (upd H l (E_0 X.prog X.w l (a_6 ss ys)))):=by
 intro pins s σ H x y v u Q I rx ry h;obtain⟨p,q,ss,ys,rfl,rfl,hne,hp,hq,hz,k⟩:=h;cases rx;cases ry;refine bK8 hne (I.hok p _ hp).1 (I.hok q _ hq).1 hz λ h' dr kp hS=>?_
 exact⟨.ref s.heap.objs.size,_,Inv.drawn dr (I.laid (t':=s.toks) (o:=E_0 X.prog X.w s.heap.objs.size (a_6 ss ys)) kp (qi _) (W_1 hS)),rfl,k _ (I.hok.fresh (qi _))⟩
theorem L_2 {K:Frag}{H0 H:Hp}{d:D}{v:V}{ss:List Str} (s:Same H0 H) (h:sqA d=some (ss.map .str)) (r:Rep K H0 d v):∃ ad,v=.ref ad/\(SqL K H ad (ss.map V.str)\/SqT K H ad (ss.map V.str)):=by
 unfold sqA at h
 split at h
 ·cases h
  unfold Rep at r;obtain⟨ad,ws,rfl,sq,t⟩:=r;rw[h_0 t] at sq;exact⟨ad,rfl,.inr (Same.seqT s sq)⟩
 ·cases h
  unfold Rep at r;obtain⟨ad,ws,rfl,sq,t⟩:=r;rw[h_0 t] at sq;exact⟨ad,rfl,.inl (Same.seq s sq)⟩
 ·cases h
theorem ay1 (ss ys:List Str):c_4 (a_6 (a_6 [] ss) (a_6 [] ys))=c_4 (a_6 [] (ss++ys)) :=
 t_2 ((List.perm_ext_iff_of_nodup (i_7 _ _ (i_7 _ _ List.nodup_nil)) (i_7 _ _ List.nodup_nil)).mpr λ y=>by
  rw[mem_addAll,mem_addAll,mem_addAll,mem_addAll,List.mem_append];simp)
theorem ak3 {a b:Expr}{F G:FE}{p p' p2 dpos dpos' bpos pos:Pos} (hm:X.mg "set"=none) (hm2:X.mg "sorted"=none) (ha:XE X a F) (hb:XE X b G) (hc:X.calm=true:=by rfl) (hg:Gl X "set":=by rfl) (hg2:Gl X "sorted":=by rfl)
  (h1:starEach [a] X.env=[(false,eval a X.env)]:=by rfl) (h1':starEach [b] X.env=[(false,eval b X.env)]:=by rfl)
  (h2:starEach [.BinOp (.Call (.Name "set" p) [a] [] dpos) .BitOr (.Call (.Name "set" p') [b] [] dpos') bpos] X.env=[(false,eval (.BinOp (.Call (.Name "set" p) [a] [] dpos) .BitOr (.Call (.Name "set" p') [b] [] dpos') bpos) X.env)]:=by rfl) :
  XE X (.Call (.Name "sorted" p2) [.BinOp (.Call (.Name "set" p) [a] [] dpos) .BitOr (.Call (.Name "set" p') [b] [] dpos') bpos] [] pos) (eF A_8 (aC F (aC G aN))) :=
 PE.wk (C_9 (s_5 hc) hg2 hm2 PyProof.Rows.boot_sorted (z_6 (aM3 aM9 (p_2 (r_7 hc) hg hm PyProof.Rows.boot_set (xaC ha xaN h1) (by decide) (by decide) h1 rfl) (p_2 (r_7 hc) hg hm PyProof.Rows.boot_set (xaC hb xaN h1') (by decide) (by decide) h1' rfl)) R_2 h2) (by decide) (by decide) h2 rfl) λ σ H Q hh0_=>by
  obtain⟨c,H0,ρ,d,ρ',R,f,q⟩:=hh0_;unfold eF at f;obtain⟨⟨ds,ρ1⟩,g1,f⟩:=a_2 f;obtain⟨d',g2,f⟩:=a_2 f;have f':some (d',ρ1)=some (d,ρ'):=f;cases f';unfold aC at g1;obtain⟨⟨d1,ρa⟩,e1,g1⟩:=a_2 g1;obtain⟨⟨dr,ρr⟩,g1',g1⟩:=a_2 g1;obtain⟨⟨d2,ρb⟩,e2,g1'⟩:=a_2 g1';obtain⟨⟨dn,ρn⟩,g1'',g1'⟩:=a_2 g1';unfold aN at g1'';cases g1'';cases g1';cases g1;have e2:G ρa=some (d2,ρb):=e2;have one:∀ {F:FE}{ρ ρ':En}{d:D},F ρ=some (d,ρ')->aC F aN ρ=some ([d],ρ'):=λ {F ρ ρ' d} e=>by unfold aC;rw[e];rfl
  have g2:A_8 [d1,d2]=some d:=g2;rw[K_4] at g2;obtain⟨xs,x1,g2⟩:=a_2 g2;obtain⟨ys,y1,g2⟩:=a_2 g2;have l60:xs.length+ys.length<=60:=Classical.byContradiction λ z=>by rw[if_neg z] at g2;cases g2
  rw[if_pos l60] at g2;unfold n_1 at g2;obtain⟨zs,ez,g2⟩:=a_2 g2;obtain⟨z64,ed⟩:=ifs g2;have ea:=u_8 ez;obtain⟨l1,l2,rfl,ex,ey⟩:=List.append_eq_map_iff.mp ea;subst ex;subst ey;rw[List.length_map,List.length_map] at l60;have k1:=f_1 l1 [];have k2:=f_1 l2 [];have k3:=f_1 (a_6 [] l2) (a_6 [] l1);rw[List.length_nil] at k1 k2;refine⟨c,H0,ρ,[d1],ρa,R,one e1,λ vs H1 Hh s1 R1 r1=>?_⟩
  obtain⟨v,rfl,rv⟩:=Reps.v1 r1;obtain⟨ad,rfl,sq⟩:=L_2 R1.same x1 rv;refine⟨ad,l1,rfl,sq,by omega,λ l hl=>?_⟩
  obtain⟨n1,n2,n3⟩:=R1.holdF hl;refine⟨⟨c.Hi,upd c.He l (E_0 X.prog X.w l (a_6 [] l1)),c.Ap⟩,H1,ρa,[d2],ρb,R1.hold hl,one e2,λ vs2 H2 Hh2 s2 R2 r2=>?_⟩
  obtain⟨v2,rfl,rv2⟩:=Reps.v1 r2;obtain⟨ad2,rfl,sq2⟩:=L_2 R2.same y1 rv2;obtain⟨R2',hl2⟩:=R2.unhold n1 n2;refine⟨ad2,l2,rfl,sq2,by omega,λ m hm=>?_⟩
  have lm:l≠m:=λ z=>by rw[<- z,hl2] at hm;cases hm
  refine⟨l,m,a_6 [] l1,a_6 [] l2,rfl,rfl,lm,by rw[b_6 lm];exact hl2,a_7,by omega,λ r hr=>?_⟩
  refine⟨r,_,rfl,a_7,by omega,λ t ht=>?_⟩
  have S1:=Step.side (o:=E_0 X.prog X.w m (a_6 [] l2)) R2'.same hm;have S2:=Step.side (o:=E_0 X.prog X.w r (a_6 (a_6 [] l1) (a_6 [] l2))) S1.s' hr;have S3:=Step.alloc (o:=.lst ((c_4 (a_6 (a_6 [] l1) (a_6 [] l2))).map V.str)) S2.s' ht;refine q _ _ _ (s1.trans (s2.trans ((S1.trans S2).trans S3).s0)) (R2'.after ((S1.trans S2).trans S3)) ?_;rw[<- ed,<- ay1];unfold Rep;exact⟨t,_,rfl,.inl (.inl a_7),p_1 _⟩
end
end Fx
namespace Fx
open PySem
end Fx
namespace Fx
open PySem PySem.Spec PyProof.Rows L2
def spC (K:Frag) (g:MO->List D->Option (D×MO)):Sp:=λ vs H Q _=>∃ Hi a o v0 d0 d o',vs=[v0,.ref a]/\Same Hi H/\Hi a=none/\OwOk K Hi H a o/\Rep K Hi d0 v0/\g o [d0]=some (d,o') /\
 ∀ v Hi' H',Same Hi Hi'->Same Hi' H'->(∀ b u,H b=some u->b≠a->H' b=some u)->(∀ b u,Hi' b=some u->Hi b=some u\/H b=none)->OwOk K Hi' H' a o'->Rep K Hi' d v->Q v H'
structure DefC (P:Program) (w:World) (K:Frag) (mg:Str->Option Value) (base:Heap) (k:Nat) (x:Str) (g:MO->List D->Option (D×MO)):Prop where
 ex:∃ f fd ps,FnOk P w K mg base CX0 k f fd ps (spC K g)/\Binds K fd ps []/\keepIn K (.ref f)=true/\mg x=some (.ref f)
end Fx
namespace Fx
open PySem PySem.Spec
section
variable {P:Program}{w:World}{A:Around}{E:Value->Shared->Prop}{s:Shared}{a b r:Addr}{ss os rs:List Str}
theorem r_1 {bt:Bool}{L:List Addr}{Q:Bool->Shared->Prop} (hL:∀ c∈L,∃ xs,SetS P w bt s.heap c xs) (q:Q true s):wpAny (model P w) A (setsQuiet L) Q E s:=by
 unfold setsQuiet;refine qb (wpAny_forIn_list _ (λ l acc s'=>(∀ c∈l,∃ xs,SetS P w bt s.heap c xs)/\acc=(none,())/\s=s') _ (λ c rest acc s' h=>?_) (λ acc s' h=>?_) _ _ ⟨hL,rfl,rfl⟩)
 ·obtain⟨hl,rfl,hs⟩:=h
  subst hs;obtain⟨xs,o,es,ep,t,ho,hex,hd,hel,hp,hnd,hbd,hf,hpl,hled⟩:=hl c (by simp)
  refine qb (wpAny_setEntries_of ho hd hf (qb ?_));refine wpAny_forIn_array' _ (λ l acc s'=>(∀ e∈l,∃ x t,e.2=Value.str x t)/\acc=(none,())/\s=s') _ (λ e rest acc s' h=>?_) (λ acc s' h=>?_) _ _ ⟨λ e he=>?_,rfl,rfl⟩
  ·obtain⟨hl,rfl,hs⟩:=h
   subst hs;obtain⟨h0,v⟩:=e;obtain⟨x,t,ex⟩:=hl (h0,v) (by simp)
   have ex:v=Value.str x t:=ex;subst ex;exact qc ⟨λ e he=>hl e (by simp[he]),rfl,rfl⟩
  ·obtain⟨_,rfl,rfl⟩:=h
   exact qc ⟨λ c hc=>hl c (by simp[hc]),rfl,rfl⟩
  ·obtain⟨x,t,e1,_⟩:=k_5 hel e he
   exact⟨x,t,e1⟩
 ·obtain⟨_,rfl,rfl⟩:=h
  exact qc q
theorem x_3 {others:List Addr}{o:Obj}{es:Array (Int×Value)}{ep:Nat}{t:SetTable}{Q:Array (Int×Value)->Shared->Prop} (hr:SetS P w (byT w) s.heap r rs) (hL:∀ c∈a::others,∃ xs,SetS P w (byT w) s.heap c xs) (ho:s.heap.get? a=some o) (hd:o.data=.set es ep t) (hf:t.fits es.size=true) (hled:byT w=false->t.led=true)
  (q:∀ (arr:Array (Int×Value)) (h':Heap) (dr:Drawn),arr.toList.Perm es.toList->Heap.SameBut r s.heap h'->SetS P w (byT w) h' r rs->Q arr {s with heap:=h',drawn:=dr}):wpAny (model P w) A (setWalkUnseen a others (some r)) Q E s:=by
 unfold setWalkUnseen;refine qb (wpAny_setState_of ho hd hf ?_);dsimp only;unfold setsByText;refine qb (qb (wpAny_askSetting (qc ?_)));have walk:wpAny (model P w) A (setWalk a) Q E s:=D_9 ho hd hf hled λ arr dr pp=>q arr s.heap dr pp (Heap.SameBut.refl r _) hr
 refine wpAny_ite_split (λ c=>walk) λ c=>?_
 refine qb (r_1 hL ?_);refine wpAny_ite_split (λ c=>absurd c (by decide)) λ _=>?_
 refine qb (wpAny_rule ?_);obtain⟨oa,ea,epa,ta,hoa,hexa,hda,hela,hpa,hnda,hba,hfa,hpla,hleda⟩:=hr;refine qb (wpAny_setState_of hoa hda hfa ?_);dsimp only;refine wpAny_ite_split (λ c2=>?_) λ _=>?_
 ·refine qb (wpAny_storeSet_of hoa hda (qc (q es _ s.drawn (.refl _) (Heap.SameBut.update _ r _) ?_)) (fits_of_scanBound hba))
  generalize hT:({ta with led:=ta.led&&t.led,plain:=ta.plain&&t.plain}:SetTable)=t2
  have at1:(s.heap.update r (Obj.putSet ea t2)).get? r=some {oa with data:=.set ea (epa+1) t2}:=by
   have z:=Heap.get?_update_self (Obj.putSet ea t2) hoa (by rw[putSet_of ea t2 hda];rfl)
   rw[putSet_of ea t2 hda] at z;exact z
  subst hT;exact⟨_,ea,epa+1,_,at1,hexa,rfl,hela,hpa,hnda,hba,hfa,λ z=>hpla (Bool.and_eq_true_iff.mp z).1,λ z=>by show (ta.led&&t.led)=true;rw[hleda z,hled z];rfl⟩
 ·exact qc (q es s.heap s.drawn (.refl _) (Heap.SameBut.refl r _) ⟨oa,ea,epa,ta,hoa,hexa,hda,hela,hpa,hnda,hba,hfa,hpla,hleda⟩)
theorem SetS.setOf {bt:Bool}{h:Heap} (S:SetS P w bt h a ss):h.SetOf (PySem.strKind P w) a (λ k=>decide (k∈ss)) ss.length:=by
 obtain⟨o,es,ep,t,ho,hex,hd,hel,hp,hnd,hb,hf,hpl,hled⟩:=S;refine⟨o,es,ep,t,ho,hex,hd,hel,λ x=>?_,hb,hf,?_⟩
 ·rw[decide_eq_true_iff,<- hp.mem_iff,List.mem_map]
  constructor
  ·rintro ⟨e,he,q⟩
   obtain⟨y,t,ey,_⟩:=k_5 hel e he;rw[ey] at q;exact⟨e,he,by rw[i_2 ey,decide_eq_true_iff,<- q];rfl⟩
  ·rintro ⟨e,he,q⟩
   obtain⟨y,t,ey,_⟩:=k_5 hel e he;rw[i_2 ey,decide_eq_true_iff] at q;exact⟨e,he,by rw[ey,q];rfl⟩
 ·have:=hp.length_eq
  rw[List.length_map,Array.length_toList] at this;exact this
theorem bg1 {bt:Bool}{x:Str}{tk:Tok}{Q:Option Nat->Shared->Prop} (hS:SetS P w bt s.heap a ss) (q:∀ i:Option Nat,i.isSome=decide (x∈ss)->Q i s):wpAny (model P w) A (setFind a (.str x tk) ((PySem.strKind P w).hash x)) Q E s :=
 wpAny_setFind_of (k:=x) (by rw[i_2 rfl];simp) rfl hS.setOf q
end
section
variable {P:Program}{w:World}{A:Around}{E:Value->Shared->Prop}{s:Shared}{a b r:Addr}{ss os rs:List Str}
theorem I_8 {Q:Nat->Shared->Prop}{bt:Bool} (hS:SetS P w bt s.heap a ss) (q:Q ss.length s):wpAny (model P w) A (Builtin.Frozenset.sizeOf a) Q E s:=by
 obtain⟨o,es,ep,t,ho,hex,hd,hel,hp,hnd,hb,hf,hpl,hled⟩:=hS
 have:es.size=ss.length:=by
  have:=hp.length_eq;rw[List.length_map,Array.length_toList] at this;exact this
 unfold Builtin.Frozenset.sizeOf;refine qb (wpAny_setEntries_of ho hd hf (qc ?_));rw[this];exact q
theorem bi6 {id:String}{Q:Value->Shared->Prop} (hne:a≠b) (hA:SetS P w (byT w) s.heap a ss) (hB:SetS P w (byT w) s.heap b os) (hz:ss.length<=60) (hbig:¬ ss.length / 4 > os.length)
  (k:∀ h' dr,(∀ b o,s.heap.get? b=some o->h'.get? b=some o)->SetS P w (byT w) h' s.heap.objs.size (a_6 [] (ss.filter λ x=>!decide (x∈os)))->Q (.ref s.heap.objs.size) {s with heap:=h',drawn:=dr}) :
  wpAny (model P w) A (Builtin.Frozenset.difference id a (.ref b)) Q E s:=by
 have hA0:=hA;obtain⟨oa,ea,epa,ta,hoa,hexa,hda,hela,hpa,hnda,hba,hfa,hpla,hleda⟩:=hA;have al:a<s.heap.objs.size:=qk hoa
 have bl:b<s.heap.objs.size:=by
  obtain⟨o,es,ep,t,ho,_⟩:=hB;exact qk ho
 unfold Builtin.Frozenset.difference Builtin.Frozenset.baseOf;refine qb (q_2 hB.ty ?_);dsimp only;refine wpAny_ite_split (λ c=>absurd c (by decide)) λ _=>?_
 refine qb (qc ?_);refine wpAny_ite_split (λ c=>absurd c (by simp)) λ _=>?_
 refine qb (I_8 hB ?_);refine qb (I_8 hA0 ?_);refine wpAny_ite_split (λ c=>absurd c hbig) λ _=>?_
 have su:=sub_set_self;refine qb (qb (wpAny_isInstance hA0.ty su (qc ?_)));refine qb (ac5 ?_);refine qb (qc ?_);have kp0:∀ c o,s.heap.get? c=some o->(s.heap.push (newS w)).get? c=some o:=λ c o e=>qd _ e
 unfold setEpoch;refine qb (qb (wpAny_setState_of (kp0 _ _ hoa) hda hfa (qc ?_)));dsimp only;have at0:(s.heap.push (newS w)).get? s.heap.objs.size=some (newS w):=qj _ rfl;have ra:a≠s.heap.objs.size:=qo al;have rb:b≠s.heap.objs.size:=qo bl;refine qb (wpAny_holding ?_);rw[if_pos rfl];refine qb (x_3 (s:={s with heap:=s.heap.push (newS w)}) (W_0 at0) (λ c hc=>?_) (kp0 _ _ hoa) hda hfa hleda λ arr h1 dr pp sb1 hS1=>qb ?_)
 ·rcases qp hc with rfl | hc
  ·exact⟨_,hA0.keep kp0⟩
  rcases qp hc with rfl | hc
  ·exact⟨_,hB.keep kp0⟩
  ·rw[List.mem_singleton.mp hc];exact⟨_,W_0 at0⟩
 have ael:ElemsOf (PySem.strKind P w) arr.toList:=hela.perm pp;have apm:(arr.toList.map λ e=>PyProof.Rows.strOf e.2).Perm ss:=(pp.map _).trans hpa
 have alen:arr.toList.length=ss.length:=by rw[<- apm.length_eq,List.length_map]
 have keepO:∀ {h':Heap}{c:Addr}{o:Obj},Heap.SameBut s.heap.objs.size (s.heap.push (newS w)) h'->s.heap.get? c=some o->h'.get? c=some o:=λ {h' c o} sb e=>by
  rw[sb.2 c (Nat.ne_of_lt (Heap.lt_size e))];exact kp0 _ _ e
 refine wpAny_forIn_array' _ (λ l _ s'=>∃ h' xs,s'={s with heap:=h',drawn:=dr}/\Heap.SameBut s.heap.objs.size (s.heap.push (newS w)) h'/\SetS P w (byT w) h' s.heap.objs.size xs/\(∀ e∈l,∃ x t,e.2=Value.str x t/\e.1=(PySem.strKind P w).hash x)/\xs.length+l.length<=60 /\
   a_6 xs ((l.map λ e=>PyProof.Rows.strOf e.2).filter λ x=>!decide (x∈os))=a_6 [] ((arr.toList.map λ e=>PyProof.Rows.strOf e.2).filter λ x=>!decide (x∈os))) _ (λ e rest _ s' h=>?_) (λ _ s' h=>?_) _ _ ⟨h1,[],rfl,sb1,hS1,k_5 ael,by rw[alen];simpa using hz,rfl⟩
 ·obtain⟨h',xs,rfl,sb,hS,hl,hlen,hadd⟩:=h
  obtain⟨x,tk,e2,e1⟩:=hl e (by simp)
  obtain⟨h0,v⟩:=e;dsimp only at e1 e2;subst e1;subst e2;rw[List.length_cons] at hlen;have hB':SetS P w (byT w) h' b os:=hB.keep λ c o e=>keepO sb e
  have tail:∀ (h2:Heap) (R:ForInStep PUnit->Shared->Prop),Heap.SameBut s.heap.objs.size (s.heap.push (newS w)) h2->R (.yield PUnit.unit) {s with heap:=h2,drawn:=dr} ->
    wpAny (model P w) A (Builtin.Frozenset.unchanged id a epa >>= λ _=>pure (ForInStep.yield PUnit.unit)) R E {s with heap:=h2,drawn:=dr}:=λ h2 R sb2 q=>by
   unfold Builtin.Frozenset.unchanged setEpoch;refine qb (qb (qb (wpAny_setState_of (keepO sb2 hoa) hda hfa (qc ?_))));exact wpAny_ite_split (λ c=>absurd c (by simp)) λ _=>qc (qc q)
  refine qb (wpAny_holding ?_);rw[if_pos rfl];refine qb (bg1 hB' λ i hi=>qb (qc ?_))
  by_cases c:x∈os
  ·have hi:i.isSome=true:=by rw[hi];simpa using c
   rw[hi];refine wpAny_ite_split (λ z=>absurd z (by decide)) λ _=>qc ?_
   refine tail h' _ sb ⟨h',xs,rfl,sb,hS,λ e he=>hl e (by simp[he]),by omega,?_⟩
   rw[<- hadd,List.map_cons,List.filter_cons_of_neg (by show ¬ (!decide (x∈os))=true;simp[c])]
  ·have hi:i.isSome=false:=by rw[hi];simpa using c
   rw[hi];refine wpAny_ite_split (λ _=>?_) λ z=>absurd rfl z
   refine qb (z_2 hS (by unfold scanBound;omega) λ h2 sb2 hS2=>qc ?_)
   have l2:(I_4 xs x).length<=xs.length+1:=by
    unfold I_4;split
    ·omega
    ·rw[List.length_append];exact qi _
   refine tail h2 _ (sb.trans sb2) ⟨h2,I_4 xs x,rfl,sb.trans sb2,hS2,λ e he=>hl e (by simp[he]),by omega,?_⟩
   rw[<- hadd,List.map_cons,List.filter_cons_of_pos (by show (!decide (x∈os))=true;simp[c])]
   rfl
 ·obtain⟨h',xs,rfl,sb,hS,_,_,hadd⟩:=h
  have e:xs=a_6 [] ((arr.toList.map λ e=>PyProof.Rows.strOf e.2).filter λ x=>!decide (x∈os)):=hadd
  refine qc (qc (k h' dr (λ c o e=>keepO sb e) ?_))
  rw[e] at hS;exact hS.perm (G_3 List.nodup_nil (apm.filter _))
end
theorem u_1:∀ {l:List Str}{j:Nat}{x:Str},l.Nodup->l[j]?=some x->l.eraseIdx j=l.filter λ y=>!decide (y=x)
 |[],j,x,_,e=>by simp at e
 |a::r,0,x,nd,e=>by
  have e:a=x:=by simpa using e
  subst e;obtain⟨n1,n2⟩:=List.nodup_cons.mp nd;rw[List.filter_cons_of_neg (by simp),List.eraseIdx_zero,List.tail_cons]
  symm
  rw[List.filter_eq_self];intro y hy;have:y≠a:=λ z=>n1 (z▸hy)
  simp[this]
 |a::r,j+1,x,nd,e=>by
  have e:r[j]?=some x:=by simpa using e
  obtain⟨n1,n2⟩:=List.nodup_cons.mp nd;have hx:x∈r:=List.mem_of_getElem? e;have ne:¬ a=x:=λ z=>n1 (z▸hx)
  rw[List.eraseIdx_cons_succ,List.filter_cons_of_pos (by simp[ne]),u_1 n2 e]
theorem N_1 {α β:Type} (f:α->β) (l:List α) (k:Nat):(l.eraseIdx k).map f=(l.map f).eraseIdx k:=by
 rw[List.eraseIdx_eq_take_drop_succ,List.eraseIdx_eq_take_drop_succ,List.map_append,List.map_take,List.map_drop]
theorem u_2 {α:Type} (xs:Array α) (p:Nat):(SetTable.eraseAt xs p).toList=xs.toList.eraseIdx p:=by
 unfold SetTable.eraseAt;rw[Array.toList_append,Array.toList_extract,Array.toList_extract,List.eraseIdx_eq_take_drop_succ]
 congr 1
 simp;exact List.take_of_length_le (by simp)
theorem B_4 {α:Type} (xs:Array α) {p:Nat} (h:p<xs.size):(SetTable.eraseAt xs p).size=xs.size-1:=by
 rw[<- Array.length_toList,u_2,List.length_eraseIdx_of_lt (by simpa using h),Array.length_toList]
theorem N_4 (xs:Array Nat) (p j:Nat) (h:p<=xs.size):(SetTable.insertAt xs p j).size=xs.size+1:=by
 unfold SetTable.insertAt;simp;omega
theorem O_5 (xs:Array Nat) (j:Nat):∀ (fuel lo hi:Nat),lo<=xs.size->hi<=xs.size->SetTable.below.go xs j fuel lo hi<=xs.size
 |0,lo,hi,h,_=>h
 |fuel+1,lo,hi,h,h'=>by
  unfold SetTable.below.go;dsimp only
  split
  ·split
   ·exact O_5 xs j fuel _ _ (by omega) h'
   ·exact O_5 xs j fuel _ _ h (by omega)
  ·exact h
theorem aD5 (xs:Array Nat) (j:Nat):SetTable.below xs j<=xs.size:=O_5 xs j _ _ _ (Nat.zero_le _) (qi _)
theorem at8 {t:SetTable}{n i:Nat} (h:t.fits n=true) (hi:i<n):(t.drop i).fits (n-1)=true/\(t.drop i).led=t.led/\(t.drop i).plain=t.plain:=by
 unfold SetTable.fits at h;simp only[Bool.and_eq_true,beq_iff_eq,decide_eq_true_iff] at h;obtain⟨h1,h2⟩:=h;have hp:i<t.place.size:=by omega
 unfold SetTable.drop;rw[Array.getElem?_eq_getElem hp];dsimp only;refine⟨?_,rfl,rfl⟩;unfold SetTable.fits SetTable.fill at *;dsimp only;rw[B_4 _ hp,N_4 _ _ _ (aD5 _ _)];simp only[Bool.and_eq_true,beq_iff_eq,decide_eq_true_iff];exact⟨by omega,by omega⟩
section
variable {P:Program}{w:World}{A:Around}{E:Value->Shared->Prop}{s:Shared}{a b r:Addr}{ss os rs:List Str}
theorem ag5 {x:Str}{tk:Tok}{o:Obj}{es:Array (Int×Value)}{ep:Nat}{t:SetTable}{Q:Option Nat->Shared->Prop} (ho:s.heap.get? a=some o) (hd:o.data=.set es ep t) (hel:ElemsOf (PySem.strKind P w) es.toList) (hb:es.size<scanBound) (hf:t.fits es.size=true)
  (h:Q (es.toList.findIdx? λ e=>(PySem.strKind P w).is x e.2) s):wpAny (model P w) A (setFind a (.str x tk) ((PySem.strKind P w).hash x)) Q E s:=by
 unfold setFind setFindIn;refine qb (wpAny_setState_of ho hd hf ?_);dsimp only;rw[byScan_of (knd:=PySem.strKind P w) rfl hb hel];simp only[↓reduceIte];refine qb (wpAny_rule ?_);refine qb (wpAny_setScan_of (knd:=PySem.strKind P w) (k:=x) (by rw[i_2 rfl];simp) ho hd hf hel ?_)
 cases hr:List.findIdx? (λ e=>(PySem.strKind P w).is x e.2) es.toList with
 |none =>
  dsimp only;rw[hr] at h;exact qc h
 |some j =>
  dsimp only;rw[hr] at h;rw[Nat.zero_add];exact qc h
theorem ba6 {bt:Bool}{o:Obj}{es es':Array (Int×Value)}{ep:Nat}{t t':SetTable}{xs:List Str} (ho:s.heap.get? a=some o) (hex:o.ExactSet) (hd:o.data=.set es ep t) (hel:ElemsOf (PySem.strKind P w) es'.toList) (hp:(es'.toList.map λ e=>PyProof.Rows.strOf e.2).Perm xs) (hnd:xs.Nodup) (hb:es'.size<scanBound) (hf:t'.fits es'.size=true)
  (hpl:t'.plain=true->es'.size=0) (hled:bt=false->t'.led=true):SetS P w bt (s.heap.update a (Obj.putSet es' t')) a xs:=by
 have at1:(s.heap.update a (Obj.putSet es' t')).get? a=some {o with data:=.set es' (ep+1) t'}:=by
  have z:=Heap.get?_update_self (Obj.putSet es' t') ho (by rw[putSet_of es' t' hd];rfl)
  rw[putSet_of es' t' hd] at z;exact z
 exact⟨_,es',ep+1,t',at1,hex,rfl,hel,hp,hnd,hb,hf,hpl,hled⟩
theorem au0 {bt:Bool}{x:Str}{tk:Tok}{Q:Bool->Shared->Prop} (hS:SetS P w bt s.heap a ss) (q:∀ (z:Bool) (h':Heap),Heap.SameBut a s.heap h'->SetS P w bt h' a (ss.filter λ y=>!decide (y=x))->Q z {s with heap:=h'}) :
  wpAny (model P w) A (setDiscardHashed a (.str x tk) ((PySem.strKind P w).hash x)) Q E s:=by
 have hS0:=hS;obtain⟨o,es,ep,t,ho,hex,hd,hel,hp,hnd,hb,hf,hpl,hled⟩:=hS;unfold setDiscardHashed;refine qb (ag5 ho hd hel hb hf ?_);cases hr:List.findIdx? (λ e=>(PySem.strKind P w).is x e.2) es.toList with
 |none =>
  dsimp only
  have no:x∉ss:=λ hx=>by
   rw[<- hp.mem_iff,List.mem_map] at hx;obtain⟨e,he,z⟩:=hx;obtain⟨y,t,ey,_⟩:=k_5 hel e he;have:=List.findIdx?_eq_none_iff.mp hr e he;rw[i_2 ey,decide_eq_false_iff_not] at this;rw[ey] at z;exact this z.symm
  have e:(ss.filter λ y=>!decide (y=x))=ss:=List.filter_eq_self.mpr λ y hy=>by
   have:y≠x:=λ z=>no (z▸hy)
   simp[this]
  exact qc (q false s.heap (Heap.SameBut.refl a _) (by rw[e];exact hS0))
 |some j =>
  dsimp only;obtain⟨hj,hpj,_⟩:=List.findIdx?_eq_some_iff_getElem.mp hr;rw[Array.length_toList] at hj;refine qb (wpAny_setState_of ho hd hf ?_);dsimp only;obtain⟨f1,f2,f3⟩:=at8 hf hj;have sz:=B_4 es hj;have hb':(SetTable.eraseAt es j).size<scanBound:=by rw[sz];omega
  refine qb (wpAny_storeSet_of ho hd ?_ (fits_of_scanBound hb'));refine qb (wpAny_point (qc ?_))
  have sub:∀ e∈(SetTable.eraseAt es j).toList,e∈es.toList:=λ e he=>by
   rw[u_2] at he;exact List.mem_of_mem_eraseIdx he
  have lx:(es.toList.map λ e=>PyProof.Rows.strOf e.2)[j]?=some x:=by
   rw[List.getElem?_map,List.getElem?_eq_getElem (by simpa using hj)]
   obtain⟨y,t,ey,_⟩:=k_5 hel _ (List.getElem_mem (by simpa using hj:j<es.toList.length))
   rw[i_2 ey,decide_eq_true_iff] at hpj;show some (PyProof.Rows.strOf es.toList[j].2)=_;rw[ey,hpj];rfl
  refine q true _ (Heap.SameBut.update _ a _) (ba6 ho hex hd (λ e he=>hel e (sub e he)) ?_ (hnd.filter _) hb' (by rw[sz];exact f1) (λ z=>?_) λ z=>by rw[f2];exact hled z)
  ·rw[u_2,N_1,u_1 (hp.nodup_iff.mpr hnd) lx]
   exact hp.filter _
  ·rw[f3] at z
   have:=hpl z;omega
theorem aX7 {bt:Bool}{Q:Unit->Shared->Prop} (hS:SetS P w bt s.heap a ss) (hz:ss.length<=30) (q:∀ h':Heap,Heap.SameBut a s.heap h'->SetS P w bt h' a ss->Q () {s with heap:=h'}):wpAny (model P w) A (setTidy a) Q E s:=by
 have hS0:=hS;obtain⟨o,es,ep,t,ho,hex,hd,hel,hp,hnd,hb,hf,hpl,hled⟩:=hS
 have len:es.size=ss.length:=by
  have:=hp.length_eq;rw[List.length_map,Array.length_toList] at this;exact this
 unfold setTidy;refine qb (wpAny_setState_of ho hd hf ?_);dsimp only;refine wpAny_ite_split (λ c=>?_) λ _=>qc (q s.heap (Heap.SameBut.refl a _) hS0)
 have g:SetTable.grown es.size=es.size*4:=by unfold SetTable.grown;rw[if_neg (by omega)]
 rw[g];refine t_5 ho hd hf (by omega) (by omega) λ es' t' pp f1 f2 f3 _ _=>?_
 have sz:es'.size=es.size:=by rw[<- Array.length_toList,pp.length_eq,Array.length_toList]
 exact q _ (Heap.SameBut.update _ a _) (ba6 ho hex hd (hel.perm pp) ((pp.map _).trans hp) hnd (by rw[sz];exact hb) f1 (λ z=>by rw[sz];exact hpl (by rw[<- f3];exact z)) λ z=>by rw[f2];exact hled z)
end
theorem N_7:entryFor table "set.__sub__"=some Builtin.«frozenset.__sub__» :=
 entryFor_alias (id':="frozenset.__sub__") (by kernel_rfl) rfl (by decide +kernel) (by kernel_rfl)
section
variable {P:Program}{w:World}{A:Around}{E:Value->Shared->Prop}{s:Shared}{a b r:Addr}{ss os rs:List Str}
theorem x_2 {others:List Addr}{o:Obj}{es:Array (Int×Value)}{ep:Nat}{t:SetTable}{Q:Array (Int×Value)->Shared->Prop} (hL:∀ c∈a::others,∃ xs,SetS P w (byT w) s.heap c xs) (ho:s.heap.get? a=some o) (hd:o.data=.set es ep t) (hf:t.fits es.size=true) (hled:byT w=false->t.led=true)
  (q:∀ (arr:Array (Int×Value)) (dr:Drawn),arr.toList.Perm es.toList->Q arr {s with drawn:=dr}):wpAny (model P w) A (setWalkUnseen a others none) Q E s:=by
 unfold setWalkUnseen;refine qb (wpAny_setState_of ho hd hf ?_);dsimp only;unfold setsByText;refine qb (qb (wpAny_askSetting (qc ?_)));have walk:wpAny (model P w) A (setWalk a) Q E s:=D_9 ho hd hf hled λ arr dr pp=>q arr dr pp
 refine wpAny_ite_split (λ c=>walk) λ c=>?_
 refine qb (r_1 hL ?_);refine wpAny_ite_split (λ c=>absurd c (by decide)) λ _=>?_
 refine qb (wpAny_rule ?_);exact qc (q es s.drawn (.refl _))
theorem Z_3 (ss rest:List Str) (x:Str):((ss.filter λ y=>!decide (y=x)).filter λ y=>!decide (y∈rest))=ss.filter λ y=>!decide (y∈x::rest):=by
 rw[List.filter_filter];refine List.filter_congr λ y _=>?_
 rw[Bool.eq_iff_iff];simp only[Bool.and_eq_true,Bool.not_eq_true',decide_eq_false_iff_not,List.mem_cons,not_or];exact⟨λ h=>⟨h.2,h.1⟩,λ h=>⟨h.2,h.1⟩⟩
theorem au1 {id:String}{Q:Unit->Shared->Prop} (hne:r≠b) (hR:SetS P w (byT w) s.heap r rs) (hB:SetS P w (byT w) s.heap b os) (hz:rs.length<=30) (hbig:¬ os.length / 8 > rs.length)
  (k:∀ h' dr,Heap.SameBut r s.heap h'->SetS P w (byT w) h' r (rs.filter λ x=>!decide (x∈os))->Q () {s with heap:=h',drawn:=dr}):wpAny (model P w) A (Builtin.Frozenset.differenceUpdate id r (.ref b)) Q E s:=by
 have hB0:=hB;obtain⟨ob,eb,epb,tb,hob,hexb,hdb,helb,hpb,hndb,hbb,hfb,hplb,hledb⟩:=hB;unfold Builtin.Frozenset.differenceUpdate;have n1:¬ (Value.ref b==Value.ref r)=true:=by simpa using (Ne.symm hne)
 refine wpAny_ite_split (λ c=>absurd c n1) λ _=>?_
 refine qb (q_2 hB0.ty ?_);refine wpAny_ite_split (λ _=>?_) λ c=>absurd rfl c
 refine qb (qc ?_);refine qb (I_8 hB0 ?_);refine qb (I_8 hR ?_);dsimp only;refine wpAny_ite_split (λ c=>absurd c hbig) λ _=>?_
 unfold setEpoch;refine qb (qb (wpAny_setState_of hob hdb hfb (qc ?_)));dsimp only;refine qb (wpAny_holding ?_);refine qb (x_2 (λ c hc=>?_) hob hdb hfb hledb λ arr dr pp=>?_)
 ·rcases qp hc with rfl | hc
  ·exact⟨_,hB0⟩
  ·rw[List.mem_singleton.mp hc];exact⟨_,hR⟩
 have ael:ElemsOf (PySem.strKind P w) arr.toList:=helb.perm pp;have apm:(arr.toList.map λ e=>PyProof.Rows.strOf e.2).Perm os:=(pp.map _).trans hpb
 have keepO:∀ {h':Heap},Heap.SameBut r s.heap h'->h'.get? b=some ob:=λ {h'} sb=>by
  rw[sb.2 b (Ne.symm hne)];exact hob
 refine qb ?_;refine wpAny_forIn_array' _ (λ l _ s'=>∃ h' xs,s'={s with heap:=h',drawn:=dr}/\Heap.SameBut r s.heap h'/\SetS P w (byT w) h' r xs/\xs.length<=30/\(∀ e∈l,∃ x t,e.2=Value.str x t/\e.1=(PySem.strKind P w).hash x) /\
   (xs.filter λ y=>!decide (y∈l.map λ e=>PyProof.Rows.strOf e.2))=rs.filter λ y=>!decide (y∈arr.toList.map λ e=>PyProof.Rows.strOf e.2)) _ (λ e rest _ s' h=>?_) (λ _ s' h=>?_) _ _ ⟨s.heap,rs,rfl,Heap.SameBut.refl r _,hR,hz,k_5 ael,rfl⟩
 ·obtain⟨h',xs,rfl,sb,hS,hlen,hl,hfil⟩:=h
  obtain⟨x,tk,e2,e1⟩:=hl e (by simp)
  obtain⟨h0,v⟩:=e;dsimp only at e1 e2;subst e1;subst e2;refine qb (wpAny_holding (au0 hS λ z h2 sb2 hS2=>?_))
  unfold Builtin.Frozenset.unchanged setEpoch;refine qb (qb (qb (wpAny_setState_of (keepO (sb.trans sb2)) hdb hfb (qc ?_))));refine wpAny_ite_split (λ c=>absurd c (by simp)) λ _=>qc (qc ?_)
  refine⟨h2,_,rfl,sb.trans sb2,hS2,Nat.le_trans (List.length_filter_le _ _) hlen,λ e he=>hl e (by simp[he]),?_⟩
  rw[<- hfil,List.map_cons];exact Z_3 xs _ x
 ·obtain⟨h',xs,rfl,sb,hS,hlen,_,hfil⟩:=h
  refine qc ?_;refine aX7 (s:={s with heap:=h',drawn:=dr}) hS hlen λ h2 sb2 hS2=>k h2 dr (sb.trans sb2) ?_
  have e1:xs=rs.filter λ y=>!decide (y∈arr.toList.map λ e=>PyProof.Rows.strOf e.2):=by
   rw[<- hfil]
   symm
   exact List.filter_eq_self.mpr λ y _=>by simp
  have e2:(rs.filter λ y=>!decide (y∈arr.toList.map λ e=>PyProof.Rows.strOf e.2))=rs.filter λ x=>!decide (x∈os):=List.filter_congr λ y _=>by
   rw[Bool.eq_iff_iff];simp only[Bool.not_eq_true',decide_eq_false_iff_not];rw[apm.mem_iff]
  rw[e1,e2] at hS2;exact hS2
theorem au2 {id:String}{Q:Value->Shared->Prop} (hne:a≠b) (hA:SetS P w (byT w) s.heap a ss) (hB:SetS P w (byT w) s.heap b os) (hz:ss.length<=30)
  (k:∀ h' dr,(∀ b o,s.heap.get? b=some o->h'.get? b=some o)->SetS P w (byT w) h' s.heap.objs.size (ss.filter λ x=>!decide (x∈os))->Q (.ref s.heap.objs.size) {s with heap:=h',drawn:=dr}) :
  wpAny (model P w) A (Builtin.Frozenset.difference id a (.ref b)) Q E s:=by
 have bl:b<s.heap.objs.size:=by
  obtain⟨o,es,ep,t,ho,_⟩:=hB;exact qk ho
 have hnd:ss.Nodup:=by
  obtain⟨o,es,ep,t,ho,hex,hd,hel,hp,hnd,_⟩:=hA;exact hnd
 by_cases hbig:ss.length / 4 > os.length
 ·unfold Builtin.Frozenset.difference
  refine qb (q_2 hB.ty ?_);dsimp only;refine wpAny_ite_split (λ c=>absurd c (by decide)) λ _=>?_
  refine qb (qc ?_);refine wpAny_ite_split (λ c=>absurd c (by simp)) λ _=>?_
  refine qb (I_8 hB ?_);refine qb (I_8 hA ?_);refine wpAny_ite_split (λ _=>?_) λ c=>absurd hbig c
  refine qb (wpAny_rule ?_);refine qb (aI3 hA (by omega) λ h1 kp hS1 hN=>?_)
  refine qb (qc (qb (wpAny_holding ?_)));refine au1 (s:={s with heap:=h1}) (Nat.ne_of_gt bl) hS1 (hB.keep kp) hz (by omega) λ h2 dr sb hS2=>qc (k h2 dr (λ c o e=>?_) hS2)
  rw[sb.2 c (Nat.ne_of_lt (Heap.lt_size e))];exact kp c o e
 ·exact bi6 hne hA hB (by omega) hbig λ h' dr kp hS=>k h' dr kp (hS.perm (u_6 (hnd.filter _)).symm)
theorem al2 {Q:Value×Value → Shared → Prop}{u v:Value} (q:Q (u,v) s):wpAny (model P w) A (Builtin.Frozenset.slot1 "__sub__" ⟨[u,v],[]⟩) Q E s :=
 qb (qc (qc q))
theorem bo6 {Q:Value->Shared->Prop} (hne:a≠b) (hA:SetS P w (byT w) s.heap a ss) (hB:SetS P w (byT w) s.heap b os) (hz:ss.length<=30)
  (k:∀ h' dr,(∀ b o,s.heap.get? b=some o->h'.get? b=some o)->SetS P w (byT w) h' s.heap.objs.size (ss.filter λ x=>!decide (x∈os))->Q (.ref s.heap.objs.size) {s with heap:=h',drawn:=dr}) :
  wpAny (model P w) A (binaryOp .Sub (.ref a) (.ref b)) Q E s:=by
 refine wpAny_binaryOp_same (op:=.Sub) hA.ty hB.ty F.fills_set_sub F.slot_set_sub (wpAny_call_entry F.slot_set_sub hA.ty N_7 ?_ (F.args_set_sub_2 _ _));unfold Builtin.«frozenset.__sub__»;refine qb (m:=Builtin.Frozenset.slot1 "__sub__" ⟨[.ref a,.ref b],[]⟩) (al2 ?_);dsimp only;simp only[Bool.false_eq_true,if_false];refine qb (qb (q_2 hA.ty (q_2 hB.ty ?_)));refine wpAny_ite_split (λ c=>absurd c (by decide)) λ _=>?_
 refine qb (qc (qb ?_));exact au2 hne hA hB hz λ h' dr kp hS=>qc ⟨_,rfl,by simp,k h' dr kp hS⟩
end
end Fx
namespace Fx
open PySem
def aT1:D->Option (List Str×List D)
 |.dct ks vs=>some (ks,vs)
 |_=>none
def V_2:List D->Option D
 |[.tup xs]=>bnd (x_8 xs) λ kvs=>if kvs.length<=1000/\(kvs.map (·.1)).Nodup then some (.dct (kvs.map (·.1)) (kvs.map (·.2))) else none
 |_=>none
theorem aU1 (xs:List D):V_2 [.tup xs]=bnd (x_8 xs) λ kvs=>if kvs.length<=1000/\(kvs.map (·.1)).Nodup then some (.dct (kvs.map (·.1)) (kvs.map (·.2))) else none:=rfl
def aC4 (d k:D):Option D:=bnd (aT1 d) λ q=>bnd (aU6 k) λ s=>s_4 s (q.1.zip q.2)
def au7 (k d:D):Option D:=bnd (aT1 d) λ q=>bnd (aU6 k) λ s=>some (.bl (!(s_4 s (q.1.zip q.2)).isSome))
@[simp] theorem bO6 (ks:List Str) (vs:List D) (k:Str):aC4 (.dct ks vs) (.str k)=s_4 k (ks.zip vs):=Eq.trans rfl rfl
@[simp] theorem bG5 (ks:List Str) (vs:List D) (k:Str):au7 (.str k) (.dct ks vs)=some (.bl (!(s_4 k (ks.zip vs)).isSome)):=Eq.trans rfl rfl
def aW0 (E Kf Df:FE) (ρ:En):Option (D×En):=bnd (E ρ) λ p=>bnd (aT1 p.1) λ q=>bnd (Kf p.2) λ k=>bnd (Df k.2) λ e=>bnd (aU6 k.1) λ s=>some ((s_4 s (q.1.zip q.2)).getD e.1,e.2)
def aS3 (q:List Str×List D) (k:D) (o:Option (D×En)):Option (D×En):=bnd o λ e=>bnd (aU6 k) λ s=>some ((s_4 s (q.1.zip q.2)).getD e.1,e.2)
def aS4 (q:List Str×List D) (Df:FE) (o:Option (D×En)):Option (D×En):=bnd o λ k=>aS3 q k.1 (Df k.2)
def bi2 (Kf Df:FE) (o:Option (D×En)):Option (D×En):=bnd o λ p=>bnd (aT1 p.1) λ q=>aS4 q Df (Kf p.2)
@[simp] theorem bN2 (E Kf Df:FE) (ρ:En):aW0 E Kf Df ρ=bi2 Kf Df (E ρ):=Eq.trans rfl rfl
@[simp] theorem bx5 (Kf Df:FE) (ks:List Str) (vs:List D) (ρ:En):bi2 Kf Df (some (.dct ks vs,ρ))=aS4 (ks,vs) Df (Kf ρ):=Eq.trans rfl rfl
@[simp] theorem bx4 (q:List Str×List D) (Df:FE) (k:D) (ρ:En):aS4 q Df (some (k,ρ))=aS3 q k (Df ρ):=Eq.trans rfl rfl
@[simp] theorem bx3 (ks:List Str) (vs:List D) (k:Str) (e:D) (ρ:En):aS3 (ks,vs) (.str k) (some (e,ρ))=some ((s_4 k (ks.zip vs)).getD e,ρ):=Eq.trans rfl rfl
def af3:List D->Option D
 |[.dct ks vs]=>some (.lst (ks.map .str))
 |_=>none
@[simp] theorem by5 (ks:List Str) (vs:List D):af3 [.dct ks vs]=some (.lst (ks.map .str)):=Eq.trans rfl rfl
def bh8 (js:List Nat) (I:FE) (T:FT) (F:FE) (ρ:En):Option (D×En):=bnd (I ρ) λ p=>bnd (aT1 p.1) λ q=>bnd (V_4 p.2 js) λ fr=>bnd (cGo T F fr (q.1.map .str)) λ ys=>if q.1.length<=sizeLine then some (.lst ys,p.2) else none
def aR8 (n:Nat) (ρ:En) (o:Option (List D)):Option (D×En):=bnd o λ ys=>if n<=sizeLine then some (.lst ys,ρ) else none
def aR9 (q:List Str) (T:FT) (F:FE) (ρ:En) (o:Option En):Option (D×En):=bnd o λ fr=>aR8 q.length ρ (cGo T F fr (q.map .str))
def bh7 (js:List Nat) (T:FT) (F:FE) (o:Option (D×En)):Option (D×En):=bnd o λ p=>bnd (aT1 p.1) λ q=>aR9 q.1 T F p.2 (V_4 p.2 js)
@[simp] theorem bM8 (js:List Nat) (I:FE) (T:FT) (F:FE) (ρ:En):bh8 js I T F ρ=bh7 js T F (I ρ):=Eq.trans rfl rfl
@[simp] theorem bw4 (js:List Nat) (T:FT) (F:FE) (ks:List Str) (vs:List D) (ρ:En):bh7 js T F (some (.dct ks vs,ρ))=aR9 ks T F ρ (V_4 ρ js):=Eq.trans rfl rfl
@[simp] theorem bw3 (q:List Str) (T:FT) (F:FE) (ρ fr:En):aR9 q T F ρ (some fr)=aR8 q.length ρ (cGo T F fr (q.map .str)):=Eq.trans rfl rfl
@[simp] theorem bw2 (n:Nat) (ρ:En) (ys:List D):aR8 n ρ (some ys)=if n<=sizeLine then some (.lst ys,ρ) else none:=Eq.trans rfl rfl
def aU8:Option Sl->Option (List D)
 |some (.ow _ (.lst ds))=>some ds
 |_=>none
@[simp] theorem bB4 (b:Bool) (ds:List D):aU8 (some (.ow b (.lst ds)))=some ds:=Eq.trans rfl rfl
def aS2 (neg:Bool) (F:FE) (i:Nat) (ρ:En):Option (D×En):=bnd (F ρ) λ p=>bnd (aU8 p.2[i]?) λ ds=>if D_0 p.1 ds=true then some (.bl (if neg then !inD p.1 ds else inD p.1 ds),p.2) else none
def aS1 (neg:Bool) (x:D) (ρ:En) (o:Option (List D)):Option (D×En):=bnd o λ ds=>if D_0 x ds=true then some (.bl (if neg then !inD x ds else inD x ds),ρ) else none
def bi0 (neg:Bool) (i:Nat) (o:Option (D×En)):Option (D×En):=bnd o λ p=>aS1 neg p.1 p.2 (aU8 p.2[i]?)
@[simp] theorem bN0 (neg:Bool) (F:FE) (i:Nat) (ρ:En):aS2 neg F i ρ=bi0 neg i (F ρ):=Eq.trans rfl rfl
@[simp] theorem bw8 (neg:Bool) (i:Nat) (x:D) (ρ:En):bi0 neg i (some (x,ρ))=aS1 neg x ρ (aU8 ρ[i]?):=Eq.trans rfl rfl
@[simp] theorem bw7 (neg:Bool) (x:D) (ρ:En) (ds:List D):aS1 neg x ρ (some ds)=if D_0 x ds=true then some (.bl (if neg then !inD x ds else inD x ds),ρ) else none:=Eq.trans rfl rfl
def aw8 (F G:FE) (ρ:En):Option (D×En):=bnd (F ρ) λ p=>bnd (aB9 p.1) λ b=>if b=true then some p else G p.2
def bh4 (x:D) (ρ:En) (G:FE) (o:Option Bool):Option (D×En):=bnd o λ b=>if b=true then some (x,ρ) else G ρ
def bh5 (G:FE) (o:Option (D×En)):Option (D×En):=bnd o λ p=>bh4 p.1 p.2 G (aB9 p.1)
@[simp] theorem bh6 (F G:FE) (ρ:En):aw8 F G ρ=bh5 G (F ρ):=Eq.trans rfl rfl
@[simp] theorem aR7 (G:FE) (x:D) (ρ:En):bh5 G (some (x,ρ))=bh4 x ρ G (aB9 x):=Eq.trans rfl rfl
def y_8:List D->Option D
 |[x,y]=>bnd (sqA x) λ xs=>bnd (sqA y) λ ys=>bnd (ak8 xs) λ ss=>bnd (ak8 ys) λ os=>if ss.length<=30/\os.length<=60 then some (.lst ((c_4 ((a_6 [] ss).filter λ x=>!decide (x∈os))).map .str)) else none
 |_=>none
theorem G_1 (x y:D):y_8 [x,y]=bnd (sqA x) λ xs=>bnd (sqA y) λ ys=>bnd (ak8 xs) λ ss=>bnd (ak8 ys) λ os=>if ss.length<=30/\os.length<=60 then some (.lst ((c_4 ((a_6 [] ss).filter λ x=>!decide (x∈os))).map .str)) else none:=rfl
end Fx
namespace Fx
open PySem PySem.Spec PyProof.Rows L2
theorem be7 {P:Program}{w:World}{k:Key}{u:Value} (h:(f_2 P w).is k u=true):RelV (kV k) u:=by
 rcases g_2 (show Y_8 k u=true from h) with ⟨i,t,rfl,rfl⟩ | ⟨x,t,rfl,rfl⟩
 ·exact⟨t,rfl⟩
 ·exact⟨t,rfl⟩
section
variable {X:Cx}
theorem O_3 (hc:X.calm=true):CallR X (.type "dict") (λ xs H Q=>∃ p ws kvs,xs=[.ref p] ∧ SqT X.K H p ws ∧ PV X.K H ws kvs ∧ (kvs.map (·.1)).Nodup ∧ ∀ l o,H l=none → Q (.ref l) (upd H l (.frz o (.dK kvs)))):=by
 intro pins s σ H xs us Q I r h;obtain⟨p,ws,kvs,rfl,hq,pv,nd,q⟩:=h;obtain⟨u,rfl,ru⟩:=z_4 r;cases ru;obtain⟨its,rv,⟨ob,h1,h2,⟨n,h3⟩,h4⟩,hz⟩:=I.tupleN hq;obtain⟨rs,q1,q2⟩:=M_0 I pv rv;have hk:kvs.length<=sizeLine:=by rw[al7 pv];exact hz
 refine J_7 h1 h2 h3 h4 (I.ok.hd hc) q1 (by rw[Y_6 q2];exact nd) (by rw[aq5 q2];exact hk) λ h' tk kp dd=>?_
 obtain⟨ob',es,ep,eo,rest⟩:=id dd;exact⟨.ref s.heap.objs.size,_,I.laid (o:=.frz ob' (.dK kvs)) kp (qi _) ⟨eo,ae7 hk (beq_eq_false_iff_ne.mpr (Ne.symm (qo I.big))) q2 dd⟩,rfl,q _ _ (I.hok.fresh (qi _))⟩
theorem af0 (hc:X.calm=true):BOk X (.type "dict") V_2:=⟨_,O_3 hc,λ c H0 H ρ σ ds d vs Q R r e q=>by
 unfold V_2 at e
 split at e
 ·obtain⟨kvs,g6,e⟩:=a_2 e
  obtain⟨⟨_,nd⟩,rfl⟩:=ifs e;cases pairsD_inv g6;obtain⟨v,rfl,rv⟩:=Reps.v1 r;unfold Rep at rv;obtain⟨ad,ws,rfl,sq,t⟩:=rv;obtain⟨vv,p1,p2⟩:=aL1 R.same t;have ln:=p2.length;rw[List.length_map] at ln
  have kz:(z_0 (kvs.map (·.1)) vv).map (·.1)=(kvs.map (·.1)).map Sum.inr:=by
   unfold z_0;rw[List.map_fst_zip (by rw[List.length_map,List.length_map];omega)]
  have nd2:((z_0 (kvs.map (·.1)) vv).map (·.1)).Nodup:=by
   rw[kz];exact List.Pairwise.map _ (λ x y h z=>h (Sum.inr.inj z)) nd
  refine⟨ad,ws,_,rfl,Same.seqT R.same sq,p1,nd2,λ l o hl=>?_⟩
  have S:=Step.alloc (o:=.frz o (.dK (z_0 (kvs.map (·.1)) vv))) R.same hl;refine q _ _ _ S.s0 (R.after S) ?_;unfold Rep;exact⟨l,o,vv,rfl,a_7,Reps.mono S.s0 _ p2,by rw[List.length_map,List.length_map]⟩
 ·cases e⟩
theorem Z_9 {K:Frag}{H0 H:Hp}{ks:List Str}{ds:List D}{a:Addr}{o:Obj}{vs:List V}{k:Str} (s:Same H0 H) (ea:H0 a=some (.frz o (.dK ((ks.map Sum.inr).zip vs)))) (t:Reps K H0 ds vs) (l:ks.length=ds.length) :
  ∃ u,DGet H a (.str k) u/\(s_4 k (ks.zip ds)=none->u=none)/\∀ d,s_4 k (ks.zip ds)=some d->∃ v,u=some v/\Rep K H0 d v:=by
 have f1:(ks.zip ds).map (·.1)=ks:=List.map_fst_zip (by omega)
 have f2:(ks.zip ds).map (·.2)=ds:=List.map_snd_zip (by omega)
 have ln:=t.length;refine⟨K_8 (z_0 ks vs) (.inr k),.inl ⟨_,.inr k,.inr ⟨o,s _ _ ea⟩,rfl,rfl⟩,λ h=>?_,λ d h=>?_⟩
 ·have:=K_7 (vs:=vs) (by rw[List.length_zip];omega) h
  rw[f1] at this;exact this
 ·obtain⟨v,w1,w2⟩:=P_4 (by rw[f2];exact t) h
  rw[f1] at w1;exact⟨v,w1,w2⟩
theorem dctX_inv {d:D}{q:List Str×List D} (h:aT1 d=some q):d=.dct q.1 q.2:=by
 cases d with
 |dct ks vs=>cases h;rfl
 |_=>cases h
theorem strX_inv {d:D}{k:Str} (h:aU6 d=some k):d=.str k:=by
 cases d with
 |str z=>cases h;rfl
 |_=>cases h
theorem aX0 {o i:Expr}{F G:FE}{pos:Pos} (hu:X.A.units+1<cLine) (ho:XE X o F) (hi:XE X i G) (hs:by9 i:=by exact λ _ _=>rfl):XE X (.Subscript o i pos) (e2 aC4 F G) :=
 PE.wk (am5 hu ho hi hs) λ σ H Q hh0_=>by
  obtain⟨c,H0,ρ,d,ρ',R,f,q⟩:=hh0_;obtain⟨x,ρ1,y,h1,h2,h3⟩:=aI0 f;unfold aC4 at h3;obtain⟨⟨ks,ds⟩,g1,h3⟩:=a_2 h3;obtain⟨k,g2,h3⟩:=a_2 h3;cases dctX_inv g1;cases strX_inv g2;refine⟨c,H0,ρ,_,ρ1,R,h1,λ vx H1 Hh s1 R1 r1=>⟨c,H1,ρ1,_,ρ',R1,h2,λ vy H2 Hh2 s2 R2 r2=>?_⟩⟩
  have r1':=Rep.mono s2 _ r1;unfold Rep at r1' r2;obtain⟨a,ob,vs,rfl,ea,t,l⟩:=r1';subst r2;obtain⟨u,dg,_,hs⟩:=Z_9 (k:=k) R2.same ea t l;obtain⟨v,rfl,rv⟩:=hs d h3;exact⟨a,v,rfl,dg,q v H2 Hh2 (s1.trans s2) R2 rv⟩
theorem aN2 (hu:X.A.units+1<cLine):OpR X (compareOp .NotIn) (λ y x H Q=>∃ a o,x=.ref a/\DGet H a y o/\Q (.bl (!o.isSome)) H):=by
 intro pins s σ H x y v u Q I rx ry h;obtain⟨a,o,rfl,g,q⟩:=h;cases ry;exact aT2 hu I g rx λ s' I'=>⟨.bl (!o.isSome),H,I',rfl,q⟩
theorem bi5 {K:Frag}{H0 H:Hp}{ks:List Str}{ds:List D}{vx vy:V}{k:Str} (s:Same H0 H) (r1:Rep K H0 (.str k) vx) (r2:Rep K H0 (.dct ks ds) vy):∃ a o,vy=.ref a/\DGet H a vx o/\o.isSome=(s_4 k (ks.zip ds)).isSome:=by
 unfold Rep at r1 r2;subst r1;obtain⟨a,ob,vs,rfl,ea,t,l⟩:=r2;obtain⟨u,dg,hn,hs⟩:=Z_9 (k:=k) s ea t l;refine⟨a,u,rfl,dg,?_⟩;cases z:s_4 k (ks.zip ds) with
 |none=>rw[hn z];rfl
 |some d=>obtain⟨v,e,_⟩:=hs d z;rw[e];rfl
theorem by2 (hu:X.A.units+1<cLine):x_0 X .NotIn au7:=⟨_,aN2 hu,λ c H0 H ρ σ x y d vx vy Q R r1 r2 e q=>by
 unfold au7 at e;obtain⟨⟨ks,ds⟩,g1,e⟩:=a_2 e;obtain⟨k,g2,e⟩:=a_2 e;cases dctX_inv g1;cases strX_inv g2;cases e;obtain⟨a,o,rfl,dg,z⟩:=bi5 R.same r1 r2;exact⟨a,o,rfl,dg,by rw[z];exact q _ H0 H (Same.refl _) R (by unfold Rep;rfl)⟩⟩
theorem bm7 {o b e:Expr}{E Kf Df:FE}{apos cpos:Pos} (hu:X.A.units+1<cLine) (ho:XE X o E) (hk:XE X b Kf) (hd:XE X e Df) (m:M2 X o "get" apos b e cpos:=by exact⟨rfl,rfl,rfl,rfl⟩) :
  XE X (.Call (.Attribute o "get" apos) [b,e] [] cpos) (aW0 E Kf Df) :=
 PE.wk (ac0 hu ho hk hd m) λ σ H Q hh0_=>by
  obtain⟨c,H0,ρ,d,ρ',R,f,q⟩:=hh0_;unfold aW0 at f;obtain⟨⟨x,ρ1⟩,h1,f⟩:=a_2 f;obtain⟨⟨ks,ds⟩,g1,f⟩:=a_2 f;obtain⟨⟨y,ρ2⟩,h2,f⟩:=a_2 f;obtain⟨⟨z,ρ3⟩,h3,f⟩:=a_2 f;obtain⟨k,g2,f⟩:=a_2 f;cases dctX_inv g1;cases strX_inv g2;cases f;refine⟨c,H0,ρ,_,ρ1,R,h1,λ vx H1 Hh s1 R1 r1=>?_⟩
  have r1':=r1;unfold Rep at r1';obtain⟨a,ob,vs,rfl,ea,t,l⟩:=r1';refine⟨a,rfl,.inl ⟨_,.inr ⟨ob,R1.same _ _ ea⟩⟩,c,H1,ρ1,_,ρ2,R1,h2,λ vy H2 Hh2 s2 R2 r2=>⟨c,H2,ρ2,_,_,R2,h3,λ vz H3 Hh3 s3 R3 r3=>?_⟩⟩
  unfold Rep at r2;subst r2;have S:=s2.trans s3;obtain⟨u,dg,hn,hs⟩:=Z_9 (k:=k) R3.same (S _ _ ea) (Reps.mono S _ t) l;refine⟨u,dg,q _ H3 Hh3 (s1.trans S) R3 ?_⟩;cases w:s_4 k (ks.zip ds) with
  |none=>rw[hn w];exact r3
  |some d=>obtain⟨v,e,rv⟩:=hs d w;rw[e];exact rv
theorem ak7:∀ {xs:List V}{us:List Value},xs.length=us.length->(∀ (i:Nat) (x:V) (u:Value),xs[i]?=some x->us[i]?=some u->RelV x u)->Vals xs us
 |[],[],_,_=>.nil
 |[],_::_,l,_=>by cases l
 |_::_,[],l,_=>by cases l
 |x::xs,u::us,l,h=>.cons (h 0 x u rfl rfl) (ak7 (Nat.succ.inj l) λ i y v e f=>h (i+1) y v (by simpa using e) (by simpa using f))
theorem aO4:∀ {kvs:List (Key×V)}{rs:List (Key×Value)}{i:Nat}{k:Key}{x:Value},KV kvs rs->rs[i]?=some (k,x)->∃ v,kvs[i]?=some (k,v)
 |_,_,_,_,_,.nil,e=>by simp at e
 |_,_,0,k,x,.cons (a:=p) (b:=q) h t,e=>by
  have e:q=(k,x):=by simpa using e
  subst e;exact⟨p.2,by rw[List.getElem?_cons_zero,<- show p.1=k from h.1]⟩
 |_,_,i+1,_,_,.cons h t,e=>by
  obtain⟨v,q⟩:=aO4 t (by simpa using e)
  exact⟨v,by simpa using q⟩
theorem O_2 (hc:X.calm=true):CallR X (.type "list") (λ xs H Q=>∃ p o kvs,xs=[.ref p] ∧ H p=some (.frz o (.dK kvs)) ∧ ∀ l,H l=none → Q (.ref l) (upd H l (.lst (kvs.map λ q=>kV q.1)))):=by
 intro pins s σ H xs us Q I r h;obtain⟨p,o,kvs,rfl,ep,q⟩:=h;obtain⟨u,rfl,ru⟩:=z_4 r;cases ru;obtain⟨eo,z,sm,vs,rel,dd⟩:=(show ObjOk X.prog X.w H s.heap p (.frz o (.dK kvs)) from I.hok p _ ep);obtain⟨epo,da⟩:=dd.dictAt;have len:=rel.length;refine PySem.W.kdl_call (PySem.W.kdl_dict sm) (I.ok.hd hc) da (by omega) λ h' tk acc' c' hk hS hacc=>?_
 refine⟨.ref s.heap.objs.size,_,I.laid (o:=.lst (kvs.map λ q=>kV q.1)) hk (qi _) ⟨by rw[List.length_map];exact z,acc'.toList,c',ak7 ?_ λ i x u ex eu=>?_,by simpa using hS⟩,rfl,q _ (I.hok.fresh (qi _))⟩
 ·have:=hacc.1
  simp;omega
 ·obtain⟨k,y,e1,e2⟩:=hacc.2 i u (by simpa using eu)
  obtain⟨v,e3⟩:=aO4 rel e1;rw[List.getElem?_map,e3] at ex;cases ex;exact be7 e2
theorem av4 (hc:X.calm=true):BOk X (.type "list") af3:=⟨_,O_2 hc,λ c H0 H ρ σ ds d vs Q R r e q=>by
 unfold af3 at e
 split at e
 ·rename_i ks dvs
  cases e;obtain⟨v,rfl,rv⟩:=Reps.v1 r;unfold Rep at rv;obtain⟨a,ob,us,rfl,ea,t,l⟩:=rv;have ln:=t.length;refine⟨a,ob,_,rfl,R.same _ _ ea,λ p hp=>?_⟩
  have e:(((ks.map Sum.inr).zip us).map λ q=>kV q.1)=ks.map V.str:=by
   rw[show (λ q:Key×V=>kV q.1)=kV ∘ Prod.fst from rfl,<- List.map_map,List.map_fst_zip (by rw[List.length_map];omega),List.map_map]
   rfl
  rw[e];have S:=Step.alloc (o:=.lst (ks.map V.str)) R.same hp;refine q _ _ _ S.s0 (R.after S) ?_;unfold Rep;exact⟨p,_,rfl,.inl (.inl a_7),p_1 _⟩
 ·cases e⟩
end
def Itd (a:Addr) (ob:Obj) (kvs:List (Key×V)):It :=
 ⟨λ i H=>i<kvs.length/\H a=some (.frz ob (.dK kvs)),λ i H x H'=>H'=H/\∃ k v,kvs[i]?=some (k,v)/\x=kV k,λ i H=>kvs.length<=i/\H a=some (.frz ob (.dK kvs))⟩
theorem ax8 {P:Program}{w:World}{K:Frag}{tg:Expr} (a it:Addr) (ob:Obj) (kvs:List (Key×V)) (es:Array DictEntry) (ep:Nat) (hob:ob.data=.dict es ep):Turn P w K tg (Itd a ob kvs) [it] it (λ i h=>h.IsKeyIter it a i kvs.length ep) where
 mem:=by simp
 obj:=λ i h st b hb=>by
  have e:b=it:=by simpa using hb
  subst e;obtain⟨o,e,c,d⟩:=st;exact⟨o,e,λ v z=>by rw[d] at z;cases z⟩
 keep:=λ i h h' st k=>st.at λ o e=>k it (by simp) o e
 item:=by
  intro X hP hw hK hc i pins s σ H E I hf st hg;subst hP hw hK;obtain⟨hi,ea⟩:=hg;obtain⟨f0,f1,f2,f3,f4,f5⟩:=hf it (by simp)
  obtain⟨eo,z,sm,vs,rel,o',es',ep',eo',hex,hd',hk,hp,hn⟩:=(show ObjOk X.prog X.w H s.heap a (.frz ob (.dK kvs)) from I.hok a _ ea);have e1:o'=ob:=qh (eo'.symm.trans eo);subst e1;rw[hob] at hd';cases hd';have len:=rel.length;have da:s.heap.DictAt (f_2 X.prog X.w) a vs ep:=⟨o',es,eo,hex,hob,hk,hp,hn⟩;obtain⟨⟨k,v⟩,hx⟩:∃ p,vs[i]?=some p:=⟨vs[i]'(by omega),by simp⟩
  have st':s.heap.IsKeyIter it a i vs.length ep:=by rw[<- len];exact st
  refine wpAny_pyNext_dict_item st' da hx λ key h' hkey hit' sb=>?_
  have I1:Inv X pins σ H {s with heap:=h'}:=I.turned (t':=s.toks) (λ b o hb e=>(sb.2 b hb).trans e) f0 f1 f3 f4 f5
  obtain⟨v',e3⟩:=aO4 rel hx;obtain⟨o,e,c,d⟩:=id hit';rw[<- len] at hit';exact⟨key,rfl,ar8 (s:={s with heap:=h'}) e c d (by decide) ⟨kV k,H,I1,be7 hkey,⟨rfl,k,v',e3,rfl⟩,hit',λ b hb=>(hf b hb).1⟩⟩
 done:=by
  intro X hP hw hK hc i pins s σ H E I hf st hg;subst hP hw hK;obtain⟨hi,ea⟩:=hg;obtain⟨f0,f1,f2,f3,f4,f5⟩:=hf it (by simp)
  obtain⟨eo,z,sm,vs,rel,o',es',ep',eo',hex,hd',hk,hp,hn⟩:=(show ObjOk X.prog X.w H s.heap a (.frz ob (.dK kvs)) from I.hok a _ ea);have e1:o'=ob:=qh (eo'.symm.trans eo);subst e1;rw[hob] at hd';cases hd';have len:=rel.length;have da:s.heap.DictAt (f_2 X.prog X.w) a vs ep:=⟨o',es,eo,hex,hob,hk,hp,hn⟩;have st':s.heap.IsKeyIter it a i vs.length ep:=by rw[<- len];exact st
  exact wpAny_pyNext_dict_end (I.ok.hd hc) st' da (by simp;omega) λ h' eb=>⟨rfl,I.turned (t':=s.toks) (λ b o hb e=>eb b o hb e) f0 f1 f3 f4 f5⟩
 self:=λ _ _ _ _ _ st h=>wpAny_pyIter_keyiter st h
def bL9 (t:TE):TI:=λ σ H R=>t σ H λ x H1=>∃ a ob kvs,x=.ref a/\H1 a=some (.frz ob (.dK kvs))/\R (Itd a ob kvs) H1
theorem bb2 {X:Cx}{tg l:Expr}{tl:TE} (hl:PE X l tl):PI X tg l (bL9 tl):=by
 intro pins s σ H R I h;refine thn (hl pins s σ H _ I h) λ v s1 hh0_=>?_
 obtain⟨x,H1,I1,r1,q1⟩:=hh0_;obtain⟨a,ob,kvs,e,ea,q⟩:=q1;subst e;cases r1;obtain⟨eo,z,sm,vs,rel,o',es',ep',eo',hex,hd',hk,hp,hn⟩:=(show ObjOk X.prog X.w H1 s1.heap a (.frz ob (.dK kvs)) from I1.hok a _ ea);have e1:o'=ob:=qh (eo'.symm.trans eo);subst e1;have len:=rel.length;have da:s1.heap.DictAt (f_2 X.prog X.w) a vs ep':=⟨o',es',eo,hex,hd',hk,hp,hn⟩;refine wpAny_pyIter_dict sm da ?_;refine⟨s1.heap.objs.size,[s1.heap.objs.size],_,_,H1,rfl,I1.kept (t':=s1.toks) λ b o e=>qd _ e,ax8 a _ o' kvs es' ep' hd',⟨_,qj _ rfl,rfl,by rw[len];rfl⟩,λ b hb=>?_,q⟩
 have e:b=s1.heap.objs.size:=by simpa using hb
 subst e;exact I1.fpOk (qi _) (I1.hok.fresh (qi _))
theorem af8 {K:Frag}{H1:Hp}{a:Addr}{ob:Obj}{ks:List Str}{vs:List V} (ea:H1 a=some (.frz ob (.dK ((ks.map Sum.inr).zip vs)))) (l:ks.length=vs.length):y_9 K (Itd a ob ((ks.map Sum.inr).zip vs)) H1 (ks.map .str):=λ H0 H i s s'=>by
 have eh:=s' _ _ (s _ _ ea);have ln:((ks.map Sum.inr).zip vs:List (Key×V)).length=ks.length:=by rw[List.length_zip,List.length_map];omega
 refine⟨λ d e=>?_,λ h=>⟨by rw[ln];simpa using h,eh⟩⟩
 rw[List.getElem?_map] at e;cases z:ks[i]? with
 |none=>rw[z] at e;cases e
 |some k =>
  rw[z] at e;cases e;have hi:=(List.getElem?_eq_some_iff.mp z).1;refine⟨⟨by rw[ln];exact hi,eh⟩,λ x H' ⟨h1,k',v',h2,h3⟩=>⟨h1,?_⟩⟩
  rw[List.getElem?_zip_eq_some] at h2;obtain⟨h2,_⟩:=h2;rw[List.getElem?_map,z] at h2;cases h2;unfold Rep;exact h3
section
variable {X:Cx}{scope sc:Scope}{x:Str}{frees:List Str}{js:List Nat}{px pos:Pos}{elt iter:Expr}{ifs:List Expr}{I F:FE}{T:FT}
theorem ak4 (i:Nat) {y:Str}{py spos:Pos} (hN:X.N.Nodup) (hc:X.calm=true) (hsc:X.env.scope=sc) (Bk:ScB X.N sc scope x frees js) (hi:XE X iter I)
  (ht:∀ s H C fp,XTs (cxB X (x::frees) scope s H C fp) ifs T) (he:∀ s H C fp,XE (cxB X (x::frees) scope s H C fp) elt F) (hi':X.N[i]?=some y:=by rfl) (hy:X.env.scope.names.lookup y=some .local:=by rfl)
  (hsw:swapsWith (.ListComp elt [⟨.Name x px,iter,ifs,0⟩] scope pos) (some (.Name y py)) spos.line X.env=pure true:=by rfl)
  (hs:∀ v,foldedSetIterable iter X.env v=pure v:=by intro _;rfl):XS X (.Assign [.Name y py] (.ListComp elt [⟨.Name x px,iter,ifs,0⟩] scope pos) spos) (d_7 i (bh8 js I T F)) :=
 PS.wk (L_8 (tt:=tTt X.K T) (te:=tE X.K F) hN hi' hy hc hsc Bk (bb2 hi) ht he hsw hs) λ Dn σ H hh0_=>by
  obtain⟨c,H0,ρ,r,R,f,q⟩:=hh0_;unfold d_7 at f;obtain⟨⟨d,ρ0⟩,h0,f⟩:=a_2 f;have f':some (Res.nx (ρ0.set i (.im d)))=some r:=f;cases f';unfold bh8 at h0;obtain⟨⟨z,ρ1⟩,h1,h0⟩:=a_2 h0;obtain⟨⟨ks,ds⟩,g1,h0⟩:=a_2 h0;obtain⟨fr,h3,h0⟩:=a_2 h0;obtain⟨ys,h4,h0⟩:=a_2 h0;obtain⟨hz,h0⟩:=Fx.ifs h0;cases h0;cases dctX_inv g1;refine⟨c,H0,ρ,_,ρ1,R,h1,λ v H1 Hh s1 R1 r1=>?_⟩
  unfold Rep at r1;obtain⟨a,ob,vs,rfl,ea,t,l⟩:=r1;refine⟨a,ob,_,rfl,R1.same _ _ ea,?_⟩;refine aO3 R1 h3 h4 (by rw[List.length_map];exact hz) (af8 ea (by rw[l,t.length])) λ vs H2 Hh2 s2 R2 r2=>λ p hp=>?_
  have S:=Step.alloc (o:=.lst vs) R2.same hp;refine q _ _ _ (s1.trans (s2.trans S.s0)) ((R2.after S).set i ?_);unfold Rep;exact⟨p,vs,rfl,.inl (.inl a_7),Reps.mono S.s0 _ r2⟩
end
section
variable {X:Cx}
theorem aA2:OpR X (binaryOp .Sub) (λ x y H Q=>∃ p q ss ys,x=.ref p/\y=.ref q/\p≠q/\H p=some (E_0 X.prog X.w p ss)/\H q=some (E_0 X.prog X.w q ys)/\ss.length<=30/\∀ l,H l=none->Q (.ref l) (upd H l (E_0 X.prog X.w l (ss.filter λ x=>!decide (x∈ys))))):=by
 intro pins s σ H x y v u Q I rx ry h;obtain⟨p,q,ss,ys,rfl,rfl,hne,hp,hq,hz,k⟩:=h;cases rx;cases ry;refine bo6 hne (I.hok p _ hp).1 (I.hok q _ hq).1 hz λ h' dr kp hS=>?_
 exact⟨.ref s.heap.objs.size,_,Inv.drawn dr (I.laid (t':=s.toks) (o:=E_0 X.prog X.w s.heap.objs.size (ss.filter λ x=>!decide (x∈ys))) kp (qi _) (W_1 hS)),rfl,k _ (I.hok.fresh (qi _))⟩
theorem aY2 (l1 l2:List Str):((a_6 [] l1).filter λ x=>!decide (x∈a_6 [] l2))=(a_6 [] l1).filter λ x=>!decide (x∈l2):=List.filter_congr λ y _=>by
 rw[Bool.eq_iff_iff];simp only[Bool.not_eq_true',decide_eq_false_iff_not];rw[mem_addAll];simp
theorem ax2 {a b:Expr}{F G:FE}{p p' p2 dpos dpos' bpos pos:Pos} (hm:X.mg "set"=none) (hm2:X.mg "sorted"=none) (ha:XE X a F) (hb:XE X b G) (hc:X.calm=true:=by rfl) (hg:Gl X "set":=by rfl) (hg2:Gl X "sorted":=by rfl)
  (h1:starEach [a] X.env=[(false,eval a X.env)]:=by rfl) (h1':starEach [b] X.env=[(false,eval b X.env)]:=by rfl)
  (h2:starEach [.BinOp (.Call (.Name "set" p) [a] [] dpos) .Sub (.Call (.Name "set" p') [b] [] dpos') bpos] X.env=[(false,eval (.BinOp (.Call (.Name "set" p) [a] [] dpos) .Sub (.Call (.Name "set" p') [b] [] dpos') bpos) X.env)]:=by rfl) :
  XE X (.Call (.Name "sorted" p2) [.BinOp (.Call (.Name "set" p) [a] [] dpos) .Sub (.Call (.Name "set" p') [b] [] dpos') bpos] [] pos) (eF y_8 (aC F (aC G aN))) :=
 PE.wk (C_9 (s_5 hc) hg2 hm2 PyProof.Rows.boot_sorted (z_6 (aM3 aA2 (p_2 (r_7 hc) hg hm PyProof.Rows.boot_set (xaC ha xaN h1) (by decide) (by decide) h1 rfl) (p_2 (r_7 hc) hg hm PyProof.Rows.boot_set (xaC hb xaN h1') (by decide) (by decide) h1' rfl)) R_2 h2) (by decide) (by decide) h2 rfl) λ σ H Q hh0_=>by
  obtain⟨c,H0,ρ,d,ρ',R,f,q⟩:=hh0_;unfold eF at f;obtain⟨⟨ds,ρ1⟩,g1,f⟩:=a_2 f;obtain⟨d',g2,f⟩:=a_2 f;have f':some (d',ρ1)=some (d,ρ'):=f;cases f';unfold aC at g1;obtain⟨⟨d1,ρa⟩,e1,g1⟩:=a_2 g1;obtain⟨⟨dr,ρr⟩,g1',g1⟩:=a_2 g1;obtain⟨⟨d2,ρb⟩,e2,g1'⟩:=a_2 g1';obtain⟨⟨dn,ρn⟩,g1'',g1'⟩:=a_2 g1';unfold aN at g1'';cases g1'';cases g1';cases g1;have e2:G ρa=some (d2,ρb):=e2;have one:∀ {F:FE}{ρ ρ':En}{d:D},F ρ=some (d,ρ')->aC F aN ρ=some ([d],ρ'):=λ {F ρ ρ' d} e=>by unfold aC;rw[e];rfl
  have g2:y_8 [d1,d2]=some d:=g2;rw[G_1] at g2;obtain⟨xs,x1,g2⟩:=a_2 g2;obtain⟨ys,y1,g2⟩:=a_2 g2;obtain⟨l1,ez1,g2⟩:=a_2 g2;obtain⟨l2,ez2,g2⟩:=a_2 g2;obtain⟨⟨z1,z2⟩,ed⟩:=ifs g2;have ea1:=u_8 ez1;have ea2:=u_8 ez2;subst ea1;subst ea2;have k1:=f_1 l1 [];have k2:=f_1 l2 [];have k3:=List.length_filter_le (λ x=>!decide (x∈a_6 [] l2)) (a_6 [] l1)
  rw[List.length_nil] at k1 k2;refine⟨c,H0,ρ,[d1],ρa,R,one e1,λ vs H1 Hh s1 R1 r1=>?_⟩
  obtain⟨v,rfl,rv⟩:=Reps.v1 r1;obtain⟨ad,rfl,sq⟩:=L_2 R1.same x1 rv;refine⟨ad,l1,rfl,sq,by omega,λ l hl=>?_⟩
  obtain⟨n1,n2,n3⟩:=R1.holdF hl;refine⟨⟨c.Hi,upd c.He l (E_0 X.prog X.w l (a_6 [] l1)),c.Ap⟩,H1,ρa,[d2],ρb,R1.hold hl,one e2,λ vs2 H2 Hh2 s2 R2 r2=>?_⟩
  obtain⟨v2,rfl,rv2⟩:=Reps.v1 r2;obtain⟨ad2,rfl,sq2⟩:=L_2 R2.same y1 rv2;obtain⟨R2',hl2⟩:=R2.unhold n1 n2;refine⟨ad2,l2,rfl,sq2,by omega,λ m hm=>?_⟩
  have lm:l≠m:=λ z=>by rw[<- z,hl2] at hm;cases hm
  refine⟨l,m,a_6 [] l1,a_6 [] l2,rfl,rfl,lm,by rw[b_6 lm];exact hl2,a_7,by omega,λ r hr=>?_⟩
  refine⟨r,_,rfl,a_7,by omega,λ t ht=>?_⟩
  have S1:=Step.side (o:=E_0 X.prog X.w m (a_6 [] l2)) R2'.same hm;have S2:=Step.side (o:=E_0 X.prog X.w r ((a_6 [] l1).filter λ x=>!decide (x∈a_6 [] l2))) S1.s' hr
  have S3:=Step.alloc (o:=.lst ((c_4 ((a_6 [] l1).filter λ x=>!decide (x∈a_6 [] l2))).map V.str)) S2.s' ht
  refine q _ _ _ (s1.trans (s2.trans ((S1.trans S2).trans S3).s0)) (R2'.after ((S1.trans S2).trans S3)) ?_;rw[<- ed];unfold Rep;refine⟨t,_,rfl,.inl (.inl a_7),?_⟩;rw[aY2];exact p_1 _
end
theorem aM8 {o:Option Sl}{ds:List D} (h:aU8 o=some ds):∃ b,o=some (.ow b (.lst ds)):=by
 unfold aU8 at h
 split at h
 ·cases h;exact⟨_,rfl⟩
 ·cases h
section
variable {X:Cx}{a b:Expr}{F G:FE}{y:Str}{py pos:Pos}{rest:List Expr}
theorem bf0 {i:Nat}{neg:Bool}{σ:L2.St}{H:Hp}{Q:VK} (h:tE X.K (aS2 neg F i) σ H Q):tE X.K F σ H λ vx H1=>∃ v,σ[i]?=some (some v)/\rIn X.K neg vx v H1 Q:=by
 obtain⟨c,H0,ρ,d,ρ',R,f,q⟩:=h;unfold aS2 at f;obtain⟨⟨x,ρ1⟩,h1,f⟩:=a_2 f;obtain⟨ds,h2,f⟩:=a_2 f;obtain⟨ok,f⟩:=ifs f;cases f;refine⟨c,H0,ρ,x,ρ1,R,h1,λ vx H1 Hh s1 R1 r1=>?_⟩
 obtain⟨bb,h2⟩:=aM8 h2;obtain⟨p,e1,_,_,vs,e4,t⟩:=R1.ow i bb _ h2;unfold D_0 at ok;rw[Bool.and_eq_true] at ok;obtain⟨i1,i2⟩:=ad7 ok.1 r1 ok.2 t;exact⟨_,e1,p,vs,rfl,.inl (.inl (.inl e4)),(D_3 ok.1 r1).1,i1,by rw[i2];exact q _ H1 Hh s1 R1 (v_8 _ _)⟩
theorem aW6 (i:Nat) (ha:XE X a F) (hN:X.N[i]?=some y:=by rfl) (hv:Vis X.env.scope y:=by first | exact Or.inl rfl | exact Or.inr (Or.inl rfl) | exact Or.inr (Or.inr rfl)) (hd:(y==("__debug__":Str))=false:=by decide) (hcd:(y==("__classdict__":Str))=false:=by decide)
  (hm:behindInMarks .NotIn (.Name y py)=false:=by first | exact ao1 _ | with_unfolding_all rfl):XT X (.Compare a [.NotIn] [.Name y py] pos) (tB (aS2 true F i)) :=
 PT.wk (al8 B_0 ha (E_3 hN hv hd hcd) hm) λ σ H Q h=>aJ3 (λ Q h=>bf0 h) h
theorem bb6 {ta tb:TE} (ha:PE X a ta) (hb:PE X (.BoolOp .Or (b::rest) pos) tb):PE X (.BoolOp .Or (a::b::rest) pos) (λ σ H Q=>ta σ H λ x H1=>∃ k,bm3 X.K x H1 k/\if k=true then Q x H1 else tb σ H1 Q):=by
 intro pins s σ H Q I h;refine BoolOp_or (thn (ha pins s σ H _ I h) λ v s1 hh0_=>?_)
 obtain⟨x,H1,I1,r1,k,tr,q1⟩:=hh0_;refine thn (aE7 pins s1 σ H1 x v (λ k H=>if k=true then Q x H else tb σ H Q) I1 r1 ⟨k,tr,q1⟩) λ k' s2 hh0_=>?_
 obtain⟨H2,I2,q2⟩:=hh0_;cases k' with
 |false=>rw[if_neg Bool.false_ne_true] at q2;exact hb pins s2 σ H2 Q I2 q2
 |true=>rw[if_pos rfl] at q2;exact⟨x,H2,I2,r1,q2⟩
theorem bz2 (ha:XE X a F) (hb:XE X (.BoolOp .Or (b::rest) pos) G):XE X (.BoolOp .Or (a::b::rest) pos) (aw8 F G):=PE.wk (bb6 ha hb) λ σ H Q hh0_=>by
 obtain⟨c,H0,ρ,d,ρ',R,f,q⟩:=hh0_;unfold aw8 at f;obtain⟨⟨z,ρ1⟩,h1,f⟩:=a_2 f;obtain⟨k,h2,f⟩:=a_2 f;dsimp only at h2 f;refine⟨c,H0,ρ,z,ρ1,R,h1,λ v H1 Hh s1 R1 r1=>⟨k,aE8 R1.same r1 h2,?_⟩⟩
 cases k with
 |true =>
  rw[if_pos rfl] at f ⊢;cases f;exact q _ H1 Hh s1 R1 r1
 |false =>
  rw[if_neg Bool.false_ne_true] at f ⊢;exact⟨c,H1,ρ1,d,ρ',R1,f,λ v H2 Hh2 s2 R2 r2=>q v H2 Hh2 (s1.trans s2) R2 r2⟩
end
end Fx
namespace Fx
open PySem
def G_0:FS :=
 (e_8 (e2 dEq (e2 aC3 (eV 1) (e2 b_2 (eV 0) (eC (.int 1)))) (e2 dEq (e2 b_2 (eV 0) (eC (.int 0))) (eC (.str "only")))))
def e_1:List D->Option D:=fnD 2 0 G_0
def s_3:List D->Option D:=fnD 2 1 λ _=>none
def t_0:FS :=
 (b_7 (sIf (tAnd (tB (e2 dEq (e2 b_2 (eV 0) (eC (.int 0))) (eC (.str "but")))) (tB (e2 dEq (e2 b_2 (eV 1) (eC (.int 0))) (eC (.str "but")))))
 (e_8 (q_7 (aC (eC (.str "but")) (aC (eF p_7 (aC (eF A_8 (aC (e2 b_2 (eV 0) (eC (.int 1))) (aC (e2 b_2 (eV 1) (eC (.int 1))) aN))) aN)) aN))))
 sN)
 (b_7 (sIf (tB (e2 dEq (e2 b_2 (eV 0) (eC (.int 0))) (eC (.str "but"))))
 (e_8 (eF s_3 (aC (eV 1) (aC (eV 0) aN))))
 sN)
 (b_7 (d_7 2 (eF p_7 (aC (eLC [1] (e2 b_2 (eV 0) (eC (.int 1))) (tV (eF e_1 (aC (eV 1) (aC (eV 0) aN)))) (eV 0)) aN)))
 (e_8 (eIf (tV (eV 2)) (q_7 (aC (eC (.str "only")) (aC (eV 2) aN))) (eC .non))))))
def j_8:List D->Option D:=fnD 2 1 t_0
def p_6:FS :=
 (b_7 (sIf (tAnd (tB (e2 dEq (e2 b_2 (eV 0) (eC (.int 0))) (eC (.str "but")))) (tB (e2 dEq (e2 b_2 (eV 1) (eC (.int 0))) (eC (.str "but")))))
 (e_8 (q_7 (aC (eC (.str "but")) (aC (eF p_7 (aC (eF A_8 (aC (e2 b_2 (eV 0) (eC (.int 1))) (aC (e2 b_2 (eV 1) (eC (.int 1))) aN))) aN)) aN))))
 sN)
 (b_7 (sIf (tB (e2 dEq (e2 b_2 (eV 0) (eC (.int 0))) (eC (.str "but"))))
 (e_8 (eF j_8 (aC (eV 1) (aC (eV 0) aN))))
 sN)
 (b_7 (d_7 2 (eF p_7 (aC (eLC [1] (e2 b_2 (eV 0) (eC (.int 1))) (tV (eF e_1 (aC (eV 1) (aC (eV 0) aN)))) (eV 0)) aN)))
 (e_8 (eIf (tV (eV 2)) (q_7 (aC (eC (.str "only")) (aC (eV 2) aN))) (eC .non))))))
def d_6:List D->Option D:=fnD 2 1 p_6
def A_6:FS :=
 (b_7 (d_7 2 (eF V_2 (aC (eV 1) aN)))
 (b_7 (sIf (tB (e2 dEq (e2 b_2 (eV 0) (eC (.int 0))) (eC (.str "only"))))
 (e_8 (q_7 (aC (eC (.str "only")) (aC (eF p_7 (aC (eF t_1 (aC (eLC [2] (e2 b_2 (eV 0) (eC (.int 1))) tYes (aW0 (eV 1) (eV 0) (eV 0))) aN)) aN)) aN))))
 sN)
 (b_7 (d_7 3 (e2 n_9 (eF aD6 (aC (e2 b_2 (eV 0) (eC (.int 1))) aN)) (eF af3 (aC (eV 2) aN))))
 (b_7 (d_7 4 (bh8 [2,0] (eV 2) (tB (e2 u_3 (eV 0) (e2 b_2 (eV 2) (eC (.int 1))))) (e2 aC4 (eV 1) (eV 0))))
 (e_8 (q_7 (aC (eC (.str "but")) (aC (eF p_7 (aC (eF y_8 (aC (eV 3) (aC (eV 4) aN))) aN)) aN))))))))
def j_7:List D->Option D:=fnD 2 3 A_6
def p_5:FS :=
 (b_7 (d_7 2 (eF V_2 (aC (eV 1) aN)))
 (b_7 (d_7 3 (eLC [2] (e2 b_2 (eV 0) (eC (.int 1))) (tB (e2 au7 (eV 0) (eV 1))) (eV 0)))
 (b_7 (d_7 4 (bh8 [2,0] (eV 2) (tB (e2 aC3 (e2 aC4 (eV 1) (eV 0)) (e2 b_2 (eV 2) (eC (.int 1))))) (eV 0)))
 (b_7 (d_7 5 (eF p_7 (aC (eF A_7 (aC (e2 n_9 (eV 3) (eV 4)) aN)) aN)))
 (b_7 (sIf (tAnd (tB (e2 dEq (e2 b_2 (eV 0) (eC (.int 0))) (eC (.str "only")))) (tNot (tV (eV 5))))
 (e_8 (eC .non))
 sN)
 (e_8 (q_7 (aC (e2 b_2 (eV 0) (eC (.int 0))) (aC (eV 5) aN)))))))))
def f_4:List D->Option D:=fnD 2 4 p_5
def d_8:FS :=
 (b_7 (sIf (tNot (tB (e3 dLe dLt (eC (.int 0)) (eV 3) (eV 2))))
 (e_8 (eC .non))
 sN)
 (b_7 (d_7 4 (eIf (tB (e2 dIs (eV 0) (eC .non))) (eC .non) (e2 n_9 (eV 0) (e2 k_0 (e2 N_8 (eV 3) (eV 0)) (eV 2)))))
 (b_7 (d_7 5 (eIf (tB (e2 dIs (eV 1) (eC .non))) (eC .non) (e2 N_8 (eV 1) (e2 k_0 (e2 N_8 (eV 1) (eV 3)) (eV 2)))))
 (b_7 (sIf (tOr (tB (e2 dIs (eV 4) (eC .non))) (tB (e2 dIs (eV 5) (eC .non))))
 (e_8 (q_7 (aC (eV 4) (aC (eV 5) (aC (eV 2) (aC (eV 3) aN))))))
 sN)
 (b_7 (sIf (tB (e2 dGt (eV 4) (eV 5)))
 (e_8 (eC .non))
 sN)
 (b_7 (sIf (tB (e2 dEq (eV 4) (eV 5)))
 (e_8 (q_7 (aC (eV 4) (aC (eV 5) (aC (eC (.int 1)) (aC (eC (.int 0)) aN))))))
 sN)
 (e_8 (q_7 (aC (eV 4) (aC (eV 5) (aC (eV 2) (aC (eV 3) aN))))))))))))
def a_3:List D->Option D:=fnD 4 2 d_8
def V_0:FS :=
 (e_8 (aH9 (eOr (e2 dIs (eV 1) (eC .non)) (e2 dLe (eV 1) (eV 0))) (eOr (e2 dIs (eV 2) (eC .non)) (e2 dLe (eV 0) (eV 2)))))
def p_9:List D->Option D:=fnD 3 0 V_0
def O_7:FS :=
 (e_8 (aH9 (eF p_9 (aC (eV 1) (aC (e2 b_2 (eV 0) (eC (.int 0))) (aC (e2 b_2 (eV 0) (eC (.int 1))) aN)))) (e2 dEq (e2 k_0 (eV 1) (e2 b_2 (eV 0) (eC (.int 2)))) (e2 b_2 (eV 0) (eC (.int 3))))))
def y_2:List D->Option D:=fnD 2 0 O_7
def s_7:FS :=
 (b_7 (sIf (tOr (tB (e2 dIs (eV 0) (eC .non))) (tB (e2 dIs (eV 1) (eC .non))))
 (e_8 (eIf (tB (e2 dIs (eV 0) (eC .non))) (eV 1) (eV 0)))
 sN)
 (e_8 (eF aU0 (aC (eV 0) (aC (eV 1) aN)))))
def h_2:List D->Option D:=fnD 2 0 s_7
def s_6:FS :=
 (b_7 (sIf (tOr (tB (e2 dIs (eV 0) (eC .non))) (tB (e2 dIs (eV 1) (eC .non))))
 (e_8 (eIf (tB (e2 dIs (eV 0) (eC .non))) (eV 1) (eV 0)))
 sN)
 (e_8 (eF bm2 (aC (eV 0) (aC (eV 1) aN)))))
def e_2:List D->Option D:=fnD 2 0 s_6
def r_8:FS :=
 (e_8 (eF a_3 (aC (eF h_2 (aC (e2 b_2 (eV 0) (eC (.int 0))) (aC (eV 1) aN))) (aC (eF e_2 (aC (e2 b_2 (eV 0) (eC (.int 1))) (aC (eV 2) aN))) (aC (e2 b_2 (eV 0) (eC (.int 2))) (aC (e2 b_2 (eV 0) (eC (.int 3))) aN))))))
def e_9:List D->Option D:=fnD 3 0 r_8
def i_9:FS :=
 (b_7 (d_7 3 (eLC [2,1] (aj8 (eV 0) oN (oS (eC (.int 2)))) tYes (eIf (tB (e2 dIs (eV 0) (eC .non))) (eC .non) (e2 n_9 (e2 V_5 (eV 2) (eV 0)) (eV 1)))))
 (b_7 (sIf (tB (e2 dLt (eV 1) (eC (.int 0))))
 (d_7 3 (P_2 (aC (e2 b_2 (eV 3) (eC (.int 1))) (aC (e2 b_2 (eV 3) (eC (.int 0))) aN))))
 sN)
 (b_7 (d_7 4 (e2 V_5 (eF aU2 (aC (eV 1) aN)) (e2 b_2 (eV 0) (eC (.int 2)))))
 (e_8 (eF a_3 (aC (e2 b_2 (eV 3) (eC (.int 0))) (aC (e2 b_2 (eV 3) (eC (.int 1))) (aC (eV 4) (aC (e2 k_0 (e2 n_9 (e2 V_5 (eV 1) (e2 b_2 (eV 0) (eC (.int 3)))) (eV 2)) (eV 4)) aN)))))))))
def c_1:List D->Option D:=fnD 3 2 i_9
abbrev l_8:FS :=
 (b_7 (d_7 6 (e2 aC5 (eV 2) (eV 4)))
 (b_7 (d_7 7 (e2 N_8 (eV 2) (e2 V_5 (eV 6) (eV 4))))
 (b_7 (d_7 2 (eV 4))
 (b_7 (d_7 4 (eV 7))
 (b_7 (d_7 7 (e2 N_8 (eV 3) (e2 V_5 (eV 6) (eV 5))))
 (b_7 (d_7 3 (eV 5))
 (d_7 5 (eV 7))))))))
abbrev l_7:FT :=
 (tB (e2 dNe (eV 4) (eC (.int 0))))
def o_0:FS :=
 (b_7 (d_7 2 (e2 k_0 (eV 0) (eV 1)))
 (b_7 (d_7 3 (eC (.int 1)))
 (b_7 (d_7 4 (eV 1))
 (b_7 (d_7 5 (eC (.int 0)))
 (b_7 (Q_6 (λ ρ=>match ρ[1]? with | some (Sl.im (D.int m))=>m.toNat+2 | _=>0) l_7
 l_8)
 (e_8 (q_7 (aC (eV 2) (aC (eV 3) aN)))))))))
def d_2:List D->Option D:=fnD 2 6 o_0
def d_0:FS :=
 (b_7 (sIf (tB (e2 dEq (eV 1) (eC (.int 0))))
 (e_8 aH6)
 sN)
 (b_7 (d_7 3 (eF d_2 (aC (eV 1) (aC (e2 b_2 (eV 0) (eC (.int 2))) aN))))
 (b_7 (d_7 4 (e2 b_2 (eV 3) (eC (.int 0))))
 (b_7 (d_7 5 (e2 N_8 (e2 b_2 (eV 0) (eC (.int 3))) (eV 2)))
 (b_7 (sIf (tB (e2 dNe (e2 k_0 (eV 5) (eV 4)) (eC (.int 0))))
 (e_8 (eC .non))
 sN)
 (b_7 (d_7 6 (e2 aC5 (e2 b_2 (eV 0) (eC (.int 2))) (eV 4)))
 (b_7 (d_7 7 (eIf (tB (e2 dGt (eV 1) (eC (.int 0)))) (P_2 (aC (e2 b_2 (eV 0) (eC (.int 0))) (aC (e2 b_2 (eV 0) (eC (.int 1))) aN))) (P_2 (aC (e2 b_2 (eV 0) (eC (.int 1))) (aC (e2 b_2 (eV 0) (eC (.int 0))) aN)))))
 (b_7 (d_7 8 (eIf (tB (e2 dIs (e2 b_2 (eV 7) (eC (.int 0))) (eC .non))) (eC .non) (e1 bl8 (e2 aC5 (e2 N_8 (eV 2) (e2 b_2 (eV 7) (eC (.int 0)))) (eV 1)))))
 (b_7 (d_7 9 (eIf (tB (e2 dIs (e2 b_2 (eV 7) (eC (.int 1))) (eC .non))) (eC .non) (e2 aC5 (e2 N_8 (e2 b_2 (eV 7) (eC (.int 1))) (eV 2)) (eV 1))))
 (e_8 (eF a_3 (aC (eV 8) (aC (eV 9) (aC (eV 6) (aC (e2 k_0 (e2 V_5 (e2 aC5 (eV 5) (eV 4)) (e2 b_2 (eV 3) (eC (.int 1)))) (eV 6)) aN)))))))))))))))
def b_4:List D->Option D:=fnD 3 7 d_0
def q_9:FS :=
 (b_7 (d_7 2 (eF b_4 (aC (eV 1) (aC (e2 b_2 (eV 0) (eC (.int 2))) (aC (e2 b_2 (eV 0) (eC (.int 3))) aN)))))
 (b_7 (sIf (tB (e2 dIs (eV 2) (eC .non)))
 (e_8 (eC .non))
 sN)
 (e_8 (eF e_9 (aC (eF c_1 (aC (eV 2) (aC (e2 b_2 (eV 0) (eC (.int 2))) (aC (e2 b_2 (eV 0) (eC (.int 3))) aN)))) (aC (e2 b_2 (eV 0) (eC (.int 0))) (aC (e2 b_2 (eV 0) (eC (.int 1))) aN)))))))
def g_1:List D->Option D:=fnD 2 1 q_9
def o_9:FS :=
 (b_7 (sIf (tOr (tB (e2 dIs (eV 0) (eC .non))) (tB (e2 dIs (eV 3) (eC .non))))
 (e_8 (eC .non))
 sN)
 (b_7 (d_7 1 (eF aU0 (aC (eV 1) (aC (eC (.int 0)) aN))))
 (b_7 (sIf (tAnd (tB (e2 n_8 (eV 2) (eC .non))) (tB (e2 dLe (eV 2) (eV 1))))
 (e_8 (eC .non))
 sN)
 (e_8 (q_7 (aC (eV 0) (aC (eV 1) (aC (eV 2) (aC (eV 3) aN)))))))))
def a_9:List D->Option D:=fnD 4 0 o_9
def K_3:FS :=
 (b_7 (d_7 2 (eF d_6 (aC (e2 b_2 (eV 0) (eC (.int 0))) (aC (e2 b_2 (eV 1) (eC (.int 0))) aN))))
 (b_7 (d_7 3 (eF g_1 (aC (e2 b_2 (eV 0) (eC (.int 3))) (aC (e2 b_2 (eV 1) (eC (.int 3))) aN))))
 (e_8 (eF a_9 (aC (eV 2) (aC (eF aU0 (aC (e2 b_2 (eV 0) (eC (.int 1))) (aC (e2 b_2 (eV 1) (eC (.int 1))) aN))) (aC (eF e_2 (aC (e2 b_2 (eV 0) (eC (.int 2))) (aC (e2 b_2 (eV 1) (eC (.int 2))) aN))) (aC (eV 3) aN))))))))
def g_6:List D->Option D:=fnD 2 2 K_3
def g_0:FS :=
 (b_7 (d_7 1 (e2 b_2 (eV 0) (eC (.int 0))))
 (b_7 (d_7 2 (e2 b_2 (eV 0) (eC (.int 3))))
 (b_7 (sIf (tB (e2 dEq (eV 1) (eC (.str "time"))))
 (e_8 (eF a_9 (aC (eC (.tup [(.str "but"),(.tup [])])) (aC (e2 b_2 (eV 2) (eC (.int 0))) (aC (e2 b_2 (eV 2) (eC (.int 1))) (aC (eC (.tup [.non,.non,(.int 1),(.int 0)])) aN))))))
 sN)
 (b_7 (sIf (tOr (tB (e2 dEq (eV 1) (eC (.str "only")))) (tB (e2 dEq (eV 1) (eC (.str "but")))))
 (e_8 (eF a_9 (aC (q_7 (aC (eV 1) (aC (eF p_7 (aC (eF A_7 (aC (eV 2) aN)) aN)) aN))) (aC (eC (.int 0)) (aC (eC .non) (aC (eC (.tup [.non,.non,(.int 1),(.int 0)])) aN))))))
 sN)
 (b_7 (sIf (tB (e2 dEq (eV 1) (eC (.str "span"))))
 (e_8 (eF a_9 (aC (eC (.tup [(.str "but"),(.tup [])])) (aC (eC (.int 0)) (aC (eC .non) (aC (eF a_3 (aC (e2 b_2 (eV 2) (eC (.int 0))) (aC (e2 b_2 (eV 2) (eC (.int 1))) (aC (eC (.int 1)) (aC (eC (.int 0)) aN))))) aN))))))
 sN)
 (b_7 (sIf (tB (e2 dEq (eV 1) (eC (.str "rest"))))
 (e_8 (eF a_9 (aC (eC (.tup [(.str "but"),(.tup [])])) (aC (eC (.int 0)) (aC (eC .non) (aC (eF a_3 (aC (eC .non) (aC (eC .non) (aC (e2 b_2 (eV 2) (eC (.int 0))) (aC (e2 b_2 (eV 2) (eC (.int 1))) aN))))) aN))))))
 sN)
 (e_8 (eC .non))))))))
def b_9:List D->Option D:=fnD 1 2 g_0
def w_9:FS :=
 (b_7 (d_7 2 (eIf (tB (e2 dIs (e2 b_2 (eV 0) (eC (.int 2))) (eC .non))) (eC .non) (e2 n_9 (e2 b_2 (eV 0) (eC (.int 2))) (eV 1))))
 (e_8 (eF a_9 (aC (e2 b_2 (eV 0) (eC (.int 0))) (aC (e2 n_9 (e2 b_2 (eV 0) (eC (.int 1))) (eV 1)) (aC (eV 2) (aC (e2 b_2 (eV 0) (eC (.int 3))) aN)))))))
def h_5:List D->Option D:=fnD 2 1 w_9
def p_4:FS :=
 (b_7 (d_7 2 (eF b_9 (aC (eV 0) aN)))
 (b_7 (sIf (tB (e2 n_8 (eV 2) (eC .non)))
 (e_8 (eF g_6 (aC (eV 2) (aC (eV 1) aN))))
 sN)
 (b_7 (d_7 3 (e2 b_2 (eV 0) (eC (.int 3))))
 (b_7 (sIf (tB (e2 dEq (e2 b_2 (eV 0) (eC (.int 0))) (eC (.str "later"))))
 (e_8 (eF h_5 (aC (eV 1) (aC (e2 b_2 (eV 3) (eC (.int 0))) aN))))
 sN)
 (b_7 (sIf (tB (e2 dEq (e2 b_2 (eV 0) (eC (.int 0))) (eC (.str "turn"))))
 (e_8 (eF a_9 (aC (e2 b_2 (eV 1) (eC (.int 0))) (aC (e2 b_2 (eV 1) (eC (.int 1))) (aC (e2 b_2 (eV 1) (eC (.int 2))) (aC (eF c_1 (aC (e2 b_2 (eV 1) (eC (.int 3))) (aC (e2 b_2 (eV 3) (eC (.int 0))) (aC (e2 b_2 (eV 3) (eC (.int 1))) aN)))) aN))))))
 sN)
 (e_8 (eF a_9 (aC (eF j_7 (aC (e2 b_2 (eV 1) (eC (.int 0))) (aC (eV 3) aN))) (aC (e2 b_2 (eV 1) (eC (.int 1))) (aC (e2 b_2 (eV 1) (eC (.int 2))) (aC (e2 b_2 (eV 1) (eC (.int 3))) aN)))))))))))
def h_1:List D->Option D:=fnD 2 2 p_4
def o_8:FS :=
 (b_7 (d_7 2 (eF b_9 (aC (eV 0) aN)))
 (b_7 (sIf (tB (e2 n_8 (eV 2) (eC .non)))
 (e_8 (eF g_6 (aC (eV 2) (aC (eV 1) aN))))
 sN)
 (b_7 (d_7 3 (e2 b_2 (eV 0) (eC (.int 3))))
 (b_7 (sIf (tB (e2 dEq (e2 b_2 (eV 0) (eC (.int 0))) (eC (.str "later"))))
 (e_8 (eF h_5 (aC (eV 1) (aC (e1 bl8 (e2 b_2 (eV 3) (eC (.int 0)))) aN))))
 sN)
 (b_7 (sIf (tB (e2 dEq (e2 b_2 (eV 0) (eC (.int 0))) (eC (.str "turn"))))
 (e_8 (eF a_9 (aC (e2 b_2 (eV 1) (eC (.int 0))) (aC (e2 b_2 (eV 1) (eC (.int 1))) (aC (e2 b_2 (eV 1) (eC (.int 2))) (aC (eF b_4 (aC (e2 b_2 (eV 1) (eC (.int 3))) (aC (e2 b_2 (eV 3) (eC (.int 0))) (aC (e2 b_2 (eV 3) (eC (.int 1))) aN)))) aN))))))
 sN)
 (e_8 (eF a_9 (aC (eF f_4 (aC (e2 b_2 (eV 1) (eC (.int 0))) (aC (eV 3) aN))) (aC (e2 b_2 (eV 1) (eC (.int 1))) (aC (e2 b_2 (eV 1) (eC (.int 2))) (aC (e2 b_2 (eV 1) (eC (.int 3))) aN)))))))))))
def e_0:List D->Option D:=fnD 2 2 o_8
def s_9:FS :=
 (b_7 (sIf (tB (e2 dLt (eV 1) (eF V_1 (aC (eV 0) aN))))
 (e_8 (e2 b_2 (eV 0) (eV 1)))
 sN)
 (e_8 (eC (.int 0))))
def e_4:List D->Option D:=fnD 2 0 s_9
def w_8:FS :=
 (b_7 (d_7 2 (e2 k_0 (e2 V_5 (e2 n_9 (e2 n_9 (eV 0) (e2 V_5 (eC (.int 7919)) (eV 1))) (eC (.int 1))) (eC (.int 48271))) (eC (.int 2147483647))))
 (e_8 (e2 k_0 (e2 V_5 (eV 2) (e2 n_9 (e2 aC5 (eV 2) (eC (.int 1009))) (eC (.int 69621)))) (eC (.int 2147483647)))))
def h_3:List D->Option D:=fnD 2 1 w_8
def F_7:En->Option MO :=
 (bl0 (d_7 1 (eF e_4 (aC (eV 0) (aC (eC (.int 0)) aN)))) (bl1 [(Str.ofString "script"),(Str.ofString "way"),(Str.ofString "left"),(Str.ofString "at"),(Str.ofString "number"),(Str.ofString "k")] (aC (eV 0) (aC (e2 k_0 (eV 1) (eC (.int 2))) (aC (eC (.int 0)) (aC (eC (.int 1)) (aC (eV 1) (aC (eC (.int 0)) aN))))))))
def m_8:List D->Option MO:=fnN 1 1 F_7
abbrev q_1:FS :=
 (b_7 (sDP 0 (Str.ofString "left") (eF aU2 (aC (e2 b_2 (eDG 0 (Str.ofString "script")) (eDG 0 (Str.ofString "at"))) aN)))
 (sDP 0 (Str.ofString "at") (e2 n_9 (eDG 0 (Str.ofString "at")) (eC (.int 1)))))
abbrev g_9:FT :=
 (tAnd (tB (e2 dEq (eDG 0 (Str.ofString "way")) (eC (.int 1)))) (tAnd (tB (e2 dEq (eDG 0 (Str.ofString "left")) (eC (.int 0)))) (tB (e2 dLt (eDG 0 (Str.ofString "at")) (eF V_1 (aC (eDG 0 (Str.ofString "script")) aN))))))
def r_9:FS :=
 (b_7 (Q_6 (λ _=>200) g_9
 q_1)
 (b_7 (sIf (tB (e2 dGt (eDG 0 (Str.ofString "left")) (eC (.int 0))))
 (b_7 (d_7 2 (e2 k_0 (eDG 0 (Str.ofString "left")) (eC (.int 1000003))))
 (b_7 (sDP 0 (Str.ofString "left") (e2 aC5 (eDG 0 (Str.ofString "left")) (eC (.int 1000003))))
 (e_8 (eV 2))))
 sN)
 (b_7 (sDP 0 (Str.ofString "k") (e2 n_9 (eDG 0 (Str.ofString "k")) (eC (.int 1))))
 (b_7 (d_7 1 (e2 n_9 (eDG 0 (Str.ofString "number")) (eF e_4 (aC (eDG 0 (Str.ofString "script")) (aC (eDG 0 (Str.ofString "k")) aN)))))
 (b_7 (sDP 0 (Str.ofString "number") (eF h_3 (aC (eV 1) (aC (eDG 0 (Str.ofString "k")) aN))))
 (e_8 (eF h_3 (aC (eDG 0 (Str.ofString "number")) (aC (eC (.int 7)) aN)))))))))
def a_1:MO->List D->Option (D×MO):=fnB 0 2 r_9
abbrev q_0:FS :=
 (d_7 2 (e2 n_9 (eV 2) (e2 b_2 (eV 1) (e2 k_0 (eFb 0 a_1 aN) (eC (.int 26))))))
def A_5:FS :=
 (b_7 (d_7 1 (eC (.str "abcdefghijklmnopqrstuvwxyz")))
 (b_7 (d_7 2 (eC (.str "")))
 (b_7 (W_4 (gN 3) (aK7 (e2 n_9 (eC (.int 1)) (e2 k_0 (eFb 0 a_1 aN) (eC (.int 8))))) q_0)
 (b_7 (sIf (tB (e2 dEq (e2 k_0 (eFb 0 a_1 aN) (eC (.int 3))) (eC (.int 1))))
 (e_8 (P_2 (aC (eC (.str "a")) (aC (eC (.str "b")) (aC (eC (.str "z")) (aC (eC (.str "aa")) (aC (eC (.str "ab")) (aC (eC (.str "az")) (aC (eC (.str "ba")) (aC (eC (.str "zz")) (aC (eC (.str "aaa")) aN)))))))))))
 sN)
 (b_7 (d_7 4 (e2 k_0 (eFb 0 a_1 aN) (eF V_1 (aC (eV 2) aN))))
 (e_8 (eLC [2,4] (eC (.str "abcdefghz")) tYes (e2 n_9 (e2 n_9 (aj8 (eV 1) oN (oS (eV 2))) (eV 0)) (aj8 (eV 1) (oS (e2 n_9 (eV 2) (eC (.int 1)))) oN)))))))))
def m_7:MO->List D->Option (D×MO):=fnB 0 4 A_5
def v_6:FS :=
 (b_7 (d_7 2 (aH7 [0] 0 0 (eV 1) (tB (e2 dEq (e2 k_0 (eFb 1 a_1 aN) (eC (.int 3))) (eC (.int 1)))) (eV 0)))
 (b_7 (sIf (tOr (tB (e2 dEq (eV 2) (P_2 aN))) (tB (e2 dEq (e2 k_0 (eFb 0 a_1 aN) (eC (.int 2))) (eC (.int 1)))))
 (e_8 (q_7 (aC (eC (.str "but")) (aC (eF p_7 (aC (eF t_1 (aC (eV 2) aN)) aN)) aN))))
 sN)
 (e_8 (q_7 (aC (eC (.str "only")) (aC (eF p_7 (aC (eF t_1 (aC (eV 2) aN)) aN)) aN))))))
def j_6:MO->List D->Option (D×MO):=fnB 1 1 v_6
def af2:FS :=
 (b_7 (sIf (tB (e2 dEq (e2 b_2 (eV 0) (eC (.int 0))) (eC (.str "only"))))
 (e_8 (e2 aC3 (eV 1) (e2 b_2 (eV 0) (eC (.int 1)))))
 sN)
 (e_8 (e2 u_3 (eV 1) (e2 b_2 (eV 0) (eC (.int 1))))))
def v_1:List D->Option D:=fnD 2 0 af2
def s_8:FS :=
 (b_7 (d_7 1 (e2 k_0 (eFb 0 a_1 aN) (eC (.int 4))))
 (b_7 (d_7 2 (e2 N_8 (e2 k_0 (eFb 0 a_1 aN) (eC (.int 41))) (eC (.int 20))))
 (b_7 (sIf (tB (e2 dEq (eV 1) (eC (.int 1))))
 (d_7 2 (e2 n_9 (e2 V_5 (eFb 0 a_1 aN) (e2 aW1 (eC (.int 10)) (eC (.int 20)))) (eFb 0 a_1 aN)))
 sN)
 (b_7 (sIf (tB (e2 dEq (eV 1) (eC (.int 2))))
 (d_7 2 (e2 N_8 (e2 N_8 (eC (.int 0)) (e2 V_5 (eFb 0 a_1 aN) (e2 aW1 (eC (.int 10)) (eC (.int 20))))) (eFb 0 a_1 aN)))
 sN)
 (e_8 (eV 2))))))
def h_4:MO->List D->Option (D×MO):=fnB 0 2 s_8
def l_4:FS :=
 (b_7 (d_7 1 (eC .non))
 (b_7 (d_7 2 (eC .non))
 (b_7 (d_7 3 (eFb 0 h_4 aN))
 (b_7 (d_7 4 (e2 k_0 (eFb 0 a_1 aN) (eC (.int 5))))
 (b_7 (sIf (tB (e2 dNe (eV 4) (eC (.int 1))))
 (d_7 1 (eV 3))
 sN)
 (b_7 (sIf (tB (e2 dNe (eV 4) (eC (.int 2))))
 (b_7 (d_7 2 (e2 n_9 (eV 3) (e2 k_0 (eFb 0 a_1 aN) (eC (.int 30)))))
 (sIf (tB (e2 dEq (eV 4) (eC (.int 3))))
 (d_7 2 (e2 n_9 (eV 3) (eF aU2 (aC (eFb 0 h_4 aN) aN))))
 sN))
 sN)
 (b_7 (d_7 5 (e2 b_2 (P_2 (aC (eC (.int 1)) (aC (eC (.int 1)) (aC (eC (.int 2)) (aC (eC (.int 3)) (aC (eC (.int 5)) (aC (eC (.int 12)) aN))))))) (e2 k_0 (eFb 0 a_1 aN) (eC (.int 6)))))
 (e_8 (eF a_3 (aC (eV 1) (aC (eV 2) (aC (eV 5) (aC (e2 k_0 (eFb 0 a_1 aN) (eV 5)) aN)))))))))))))
def e_3:MO->List D->Option (D×MO):=fnB 0 5 l_4
def A_4:FS :=
 (b_7 (sIf (tB (e2 dEq (e2 k_0 (eFb 0 a_1 aN) (eC (.int 4))) (eC (.int 1))))
 (e_8 (e2 n_9 (e2 V_5 (eFb 0 a_1 aN) (e2 aW1 (eC (.int 10)) (eC (.int 20)))) (eFb 0 a_1 aN)))
 sN)
 (e_8 (e2 k_0 (eFb 0 a_1 aN) (eC (.int 30)))))
def m_6:MO->List D->Option (D×MO):=fnB 0 0 A_4
def F_8:FS :=
 (b_7 (d_7 2 (eFb 0 j_6 (aC (eV 1) aN)))
 (b_7 (d_7 3 (eFb 0 m_6 aN))
 (b_7 (d_7 4 (e2 n_9 (e2 n_9 (eV 3) (eC (.int 1))) (e2 k_0 (eFb 0 a_1 aN) (eC (.int 12)))))
 (b_7 (sIf (tB (e2 dEq (e2 k_0 (eFb 0 a_1 aN) (eC (.int 3))) (eC (.int 1))))
 (d_7 4 (eC .non))
 sN)
 (e_8 (eF a_9 (aC (eV 2) (aC (eV 3) (aC (eV 4) (aC (eFb 0 e_3 aN) aN))))))))))
def n_6:MO->List D->Option (D×MO):=fnB 1 3 F_8
def e_6:FS :=
 (b_7 (sIf (tOr (tAnd (tB (e2 n_8 (e2 b_2 (eV 0) (eC (.int 0))) (eC .non))) (tB (e2 dLt (eV 1) (e2 b_2 (eV 0) (eC (.int 0)))))) (tAnd (tB (e2 n_8 (e2 b_2 (eV 0) (eC (.int 1))) (eC .non))) (tB (e2 dGt (eV 1) (e2 b_2 (eV 0) (eC (.int 1)))))))
 (e_8 (eC (.bl false)))
 sN)
 (e_8 (e2 dEq (e2 k_0 (eV 1) (e2 b_2 (eV 0) (eC (.int 2)))) (e2 b_2 (eV 0) (eC (.int 3))))))
def c_2:List D->Option D:=fnD 2 0 e_6
def s_0:FS :=
 (b_7 (sIf (tOr (tB (e2 dIs (eV 0) (eC .non))) (tOr (tB (e2 dLt (e2 b_2 (eV 1) (eC (.int 0))) (e2 b_2 (eV 0) (eC (.int 1))))) (tAnd (tB (e2 n_8 (e2 b_2 (eV 0) (eC (.int 2))) (eC .non))) (tB (e2 dGe (e2 b_2 (eV 1) (eC (.int 0))) (e2 b_2 (eV 0) (eC (.int 2))))))))
 (e_8 (eC (.bl false)))
 sN)
 (e_8 (aH9 (eF v_1 (aC (e2 b_2 (eV 0) (eC (.int 0))) (aC (e2 b_2 (eV 1) (eC (.int 1))) aN))) (eF c_2 (aC (e2 b_2 (eV 0) (eC (.int 3))) (aC (e2 b_2 (eV 1) (eC (.int 2))) aN))))))
def f_3:List D->Option D:=fnD 2 0 s_0
def n_0:FS :=
 (b_7 (d_7 3 (e2 N_8 (e2 n_9 (e2 b_2 (eV 1) (eC (.int 1))) (e2 k_0 (eFb 0 a_1 aN) (eC (.int 5)))) (eC (.int 2))))
 (b_7 (sIf (tAnd (tB (e2 dEq (e2 k_0 (eFb 0 a_1 aN) (eC (.int 2))) (eC (.int 1)))) (tB (e2 n_8 (e2 b_2 (eV 1) (eC (.int 2))) (eC .non))))
 (d_7 3 (e2 N_8 (e2 n_9 (e2 b_2 (eV 1) (eC (.int 2))) (e2 k_0 (eFb 0 a_1 aN) (eC (.int 5)))) (eC (.int 3))))
 sN)
 (b_7 (d_7 4 (eC (.int 0)))
 (b_7 (d_7 5 (e2 b_2 (e2 b_2 (eV 1) (eC (.int 3))) (e2 k_0 (eFb 0 a_1 aN) (eC (.int 2)))))
 (b_7 (sIf (tB (e2 n_8 (eV 5) (eC .non)))
 (d_7 4 (eV 5))
 sN)
 (b_7 (d_7 4 (e2 N_8 (e2 n_9 (eV 4) (e2 k_0 (eFb 0 a_1 aN) (eC (.int 13)))) (eC (.int 6))))
 (e_8 (q_7 (aC (eF aU0 (aC (eV 3) (aC (eC (.int 0)) aN))) (aC (e2 b_2 (e2 n_9 (eV 2) (P_2 (aC (eC (.str "q")) aN))) (e2 k_0 (eFb 0 a_1 aN) (eC (.int 10)))) (aC (eV 4) aN)))))))))))
def g_5:MO->List D->Option (D×MO):=fnB 2 3 n_0
def a_8:FS :=
 (b_7 (d_7 2 (e2 b_2 (eV 0) (eC (.int 0))))
 (b_7 (d_7 3 (e2 b_2 (eV 0) (eC (.int 3))))
 (b_7 (bk1 [4,5,6] (eV 1))
 (b_7 (sIf (tAnd (tB (e2 dEq (eV 2) (eC (.str "time")))) (tOr (tB (e2 dLt (eV 4) (e2 b_2 (eV 3) (eC (.int 0))))) (tAnd (tB (e2 n_8 (e2 b_2 (eV 3) (eC (.int 1))) (eC .non))) (tB (e2 dGe (eV 4) (e2 b_2 (eV 3) (eC (.int 1))))))))
 (e_8 (eC .non))
 sN)
 (b_7 (sIf (tOr (tAnd (tB (e2 dEq (eV 2) (eC (.str "only")))) (tB (e2 u_3 (eV 5) (eV 3)))) (tAnd (tB (e2 dEq (eV 2) (eC (.str "but")))) (tB (e2 aC3 (eV 5) (eV 3)))))
 (e_8 (eC .non))
 sN)
 (b_7 (sIf (tAnd (tB (e2 dEq (eV 2) (eC (.str "span")))) (tAnd (tB (e2 n_8 (e2 b_2 (eV 3) (eC (.int 0))) (eC .non))) (tB (e2 dLt (eV 6) (e2 b_2 (eV 3) (eC (.int 0)))))))
 (e_8 (eC .non))
 sN)
 (b_7 (sIf (tAnd (tB (e2 dEq (eV 2) (eC (.str "span")))) (tAnd (tB (e2 n_8 (e2 b_2 (eV 3) (eC (.int 1))) (eC .non))) (tB (e2 dGt (eV 6) (e2 b_2 (eV 3) (eC (.int 1)))))))
 (e_8 (eC .non))
 sN)
 (b_7 (sIf (tAnd (tB (e2 dEq (eV 2) (eC (.str "rest")))) (tB (e2 dNe (e2 k_0 (eV 6) (e2 b_2 (eV 3) (eC (.int 0)))) (e2 b_2 (eV 3) (eC (.int 1))))))
 (e_8 (eC .non))
 sN)
 (b_7 (sIf (tB (e2 dEq (eV 2) (eC (.str "turn"))))
 (e_8 (q_7 (aC (eV 4) (aC (eV 5) (aC (e2 n_9 (e2 V_5 (e2 b_2 (eV 3) (eC (.int 0))) (eV 6)) (e2 b_2 (eV 3) (eC (.int 1)))) aN)))))
 sN)
 (b_7 (sIf (tB (e2 dEq (eV 2) (eC (.str "later"))))
 (e_8 (q_7 (aC (e2 n_9 (eV 4) (e2 b_2 (eV 3) (eC (.int 0)))) (aC (eV 5) (aC (eV 6) aN)))))
 sN)
 (b_7 (sIf (tB (e2 dEq (eV 2) (eC (.str "put"))))
 (e_8 (q_7 (aC (eV 4) (aC (aB7 (eV 3) (eV 5) (eV 5)) (aC (eV 6) aN)))))
 sN)
 (e_8 (eV 1)))))))))))))
def a_5:List D->Option D:=fnD 2 5 a_8
abbrev n_4:FS :=
 (b_7 (d_7 5 (aH7 [3] 3 0 (eV 1) (tB (aS2 true (eV 0) 1)) (eV 0)))
 (bk6 3 (e2 b_2 (eV 5) (e2 k_0 (eFb 0 a_1 aN) (eF V_1 (aC (eV 5) aN))))))
def B_7:FS :=
 (b_7 (bk2 3 (bk9 aN))
 (b_7 (W_4 (gN 4) (aK7 (eV 2)) n_4)
 (bk4 3 (e_8 (eV 3)))))
def i_8:MO->List D->Option (D×MO):=fnB 2 3 B_7
def f_9:FS :=
 (b_7 (d_7 1 (e2 N_8 (e2 k_0 (eFb 0 a_1 aN) (eC (.int 41))) (eC (.int 20))))
 (b_7 (sIf (tB (e2 dEq (e2 k_0 (eFb 0 a_1 aN) (eC (.int 5))) (eC (.int 1))))
 (d_7 1 (e2 V_5 (eV 1) (e2 aW1 (eC (.int 10)) (eC (.int 10)))))
 sN)
 (b_7 (d_7 2 (e2 n_9 (eV 1) (e2 k_0 (eFb 0 a_1 aN) (eC (.int 40)))))
 (b_7 (sIf (tB (e2 dEq (e2 k_0 (eFb 0 a_1 aN) (eC (.int 4))) (eC (.int 1))))
 (d_7 2 (eC .non))
 sN)
 (b_7 (sIf (tB (e2 dEq (e2 k_0 (eFb 0 a_1 aN) (eC (.int 4))) (eC (.int 1))))
 (d_7 1 (eC .non))
 sN)
 (e_8 (q_7 (aC (eV 1) (aC (eV 2) aN)))))))))
def c_8:MO->List D->Option (D×MO):=fnB 0 2 f_9
def f_5:FS :=
 (b_7 (sIf (tB (e2 dEq (eV 1) (eC (.str "time"))))
 (b_7 (d_7 6 (e2 k_0 (eFb 0 a_1 aN) (eC (.int 40))))
 (b_7 (d_7 7 (e2 n_9 (e2 n_9 (eV 6) (eC (.int 1))) (e2 k_0 (eFb 0 a_1 aN) (eC (.int 40)))))
 (b_7 (sIf (tB (e2 dEq (e2 k_0 (eFb 0 a_1 aN) (eC (.int 3))) (eC (.int 1))))
 (d_7 7 (eC .non))
 sN)
 (e_8 (q_7 (aC (eC (.str "time")) (aC (eV 2) (aC (eV 3) (aC (q_7 (aC (eV 6) (aC (eV 7) aN))) aN)))))))))
 sN)
 (b_7 (sIf (tOr (tB (e2 dEq (eV 1) (eC (.str "only")))) (tB (e2 dEq (eV 1) (eC (.str "but")))))
 (e_8 (q_7 (aC (eV 1) (aC (eV 2) (aC (eV 3) (aC (eF p_7 (aC (eFb 0 i_8 (aC (eV 4) (aC (e2 n_9 (eC (.int 1)) (e2 k_0 (eFb 0 a_1 aN) (eC (.int 8)))) aN))) aN)) aN))))))
 sN)
 (b_7 (sIf (tB (e2 dEq (eV 1) (eC (.str "span"))))
 (e_8 (q_7 (aC (eC (.str "span")) (aC (eV 2) (aC (eV 3) (aC (eFb 0 c_8 aN) aN))))))
 sN)
 (b_7 (sIf (tB (e2 dEq (eV 1) (eC (.str "rest"))))
 (b_7 (d_7 8 (e2 n_9 (eC (.int 2)) (e2 k_0 (eFb 0 a_1 aN) (e2 b_2 (P_2 (aC (eC (.int 4)) (aC (eC (.int 4)) (aC (eC (.int 999)) aN)))) (e2 k_0 (eFb 0 a_1 aN) (eC (.int 3)))))))
 (e_8 (q_7 (aC (eC (.str "rest")) (aC (eV 2) (aC (eV 3) (aC (q_7 (aC (eV 8) (aC (e2 k_0 (eFb 0 a_1 aN) (eV 8)) aN))) aN)))))))
 sN)
 (b_7 (sIf (tB (e2 dEq (eV 1) (eC (.str "turn"))))
 (b_7 (d_7 9 (e2 n_9 (eC (.int 1)) (e2 k_0 (eFb 0 a_1 aN) (e2 b_2 (P_2 (aC (eC (.int 3)) (aC (eC (.int 3)) (aC (eC (.int 1000)) aN)))) (e2 k_0 (eFb 0 a_1 aN) (eC (.int 3)))))))
 (b_7 (sIf (tB (e2 dEq (e2 k_0 (eFb 0 a_1 aN) (eC (.int 2))) (eC (.int 1))))
 (d_7 9 (e2 N_8 (eC (.int 0)) (eV 9)))
 sN)
 (e_8 (q_7 (aC (eC (.str "turn")) (aC (eV 2) (aC (eV 3) (aC (q_7 (aC (eV 9) (aC (e2 N_8 (e2 k_0 (eFb 0 a_1 aN) (eC (.int 31))) (eC (.int 15))) aN))) aN))))))))
 sN)
 (b_7 (sIf (tB (e2 dEq (eV 1) (eC (.str "later"))))
 (e_8 (q_7 (aC (eC (.str "later")) (aC (eV 2) (aC (eV 3) (aC (q_7 (aC (e2 k_0 (eFb 0 a_1 aN) (e2 b_2 (P_2 (aC (eC (.int 20)) (aC (eC (.int 20)) (aC (eC (.int 1000000)) aN)))) (e2 k_0 (eFb 0 a_1 aN) (eC (.int 3))))) aN)) aN))))))
 sN)
 (b_7 (d_7 5 (eFb 0 i_8 (aC (eV 4) (aC (e2 n_9 (eC (.int 1)) (e2 k_0 (eFb 0 a_1 aN) (eC (.int 4)))) aN))))
 (e_8 (q_7 (aC (eC (.str "put")) (aC (eV 2) (aC (eV 3) (aC (eF p_7 (aC (aH7 [4,0] 0 1 (eV 5) tYes (q_7 (aC (eV 0) (aC (e2 b_2 (eV 1) (e2 k_0 (eFb 2 a_1 aN) (eC (.int 9)))) aN)))) aN)) aN)))))))))))))
def c_3:MO->List D->Option (D×MO):=fnB 4 5 f_5
def F_9:FS :=
 (e_8 (q_7 (aC (q_7 (aC (eC (.str "only")) (aC (q_7 (aC (e2 b_2 (eV 0) (eC (.int 1))) aN)) aN))) (aC (e2 b_2 (eV 0) (eC (.int 0))) (aC (e2 n_9 (e2 b_2 (eV 0) (eC (.int 0))) (eC (.int 1))) (aC (eF a_3 (aC (e2 b_2 (eV 0) (eC (.int 2))) (aC (e2 b_2 (eV 0) (eC (.int 2))) (aC (eC (.int 1)) (aC (eC (.int 0)) aN))))) aN))))))
def m_9:List D->Option D:=fnD 1 0 F_9
abbrev r_5:FS :=
 (b_7 (d_7 7 (e2 b_2 (P_2 (aC (eV 2) (aC (aw8 (eV 4) (eV 2)) (aC (aw8 (eV 5) (eV 2)) aN)))) (e2 k_0 (eV 6) (eC (.int 3)))))
 (b_7 (d_7 8 (eFb 0 g_5 (aC (eV 7) (aC (eV 3) aN))))
 (b_7 (d_7 9 (eF a_5 (aC (eV 1) (aC (eV 8) aN))))
 (b_7 (sIf (tB (e2 dNe (eF f_3 (aC (eV 4) (aC (eV 8) aN))) (aH9 (e2 n_8 (eV 9) (eC .non)) (eF f_3 (aC (eV 2) (aC (eV 9) aN))))))
 (e_8 (eC (.bl false)))
 sN)
 (b_7 (sIf (tAnd (tV (eF f_3 (aC (eV 2) (aC (eV 8) aN)))) (tAnd (tB (e2 n_8 (eV 9) (eC .non))) (tNot (tV (eF f_3 (aC (eV 5) (aC (eV 9) aN)))))))
 (e_8 (eC (.bl false)))
 sN)
 (b_7 (d_7 10 (eF e_0 (aC (eV 1) (aC (eF m_9 (aC (eV 8) aN)) aN))))
 (sIf (tB (e2 dNe (eF f_3 (aC (eV 5) (aC (eV 8) aN))) (aH9 (e2 n_8 (eV 10) (eC .non)) (e2 n_8 (eF g_6 (aC (eV 10) (aC (eV 2) aN))) (eC .non)))))
 (e_8 (eC (.bl false)))
 sN)))))))
def u_5:FS :=
 (b_7 (d_7 4 (eF e_0 (aC (eV 1) (aC (eV 2) aN))))
 (b_7 (d_7 5 (eF h_1 (aC (eV 1) (aC (eV 2) aN))))
 (b_7 (W_4 (gN 6) (aK7 (eC (.int 60))) r_5)
 (e_8 (eC (.bl true))))))
def g_4:MO->List D->Option (D×MO):=fnB 3 7 u_5
def aT9:FS :=
 (b_7 (bk3 1 m_8 (aC (eV 0) aN))
 (b_7 (d_7 2 (eFb 1 m_7 aN))
 (b_7 (d_7 3 (e2 b_2 (P_2 (aC (eC (.str "time")) (aC (eC (.str "only")) (aC (eC (.str "but")) (aC (eC (.str "span")) (aC (eC (.str "rest")) (aC (eC (.str "turn")) (aC (eC (.str "later")) (aC (eC (.str "put")) aN))))))))) (e2 k_0 (eFb 1 a_1 aN) (eC (.int 8)))))
 (b_7 (d_7 4 (eFb 1 c_3 (aC (eV 3) (aC (eC (.str "r")) (aC (q_7 (aC (eC (.str "f")) aN)) (aC (eV 2) aN))))))
 (b_7 (d_7 5 (eFb 1 n_6 (aC (eV 2) aN)))
 (e_8 (eOr (e2 dIs (eV 5) (eC .non)) (eFb 1 g_4 (aC (eV 4) (aC (eV 5) (aC (eV 2) aN)))))))))))
def Y_4:List D->Option D:=fnD 1 5 aT9
end Fx
namespace Fx
open PySem PySem.Spec PyProof.Rows L2
def top (i:Nat):Stmt:=PySem.Challenge.pw_latewell_k15_boxes_by_rows.main.body.getD i (.Pass ⟨0,0,0,0⟩)
structure Blt (K:Frag) (mg:Str->Option Value):Prop where
 z_abs:mg "abs"=none
 z_len:mg "len"=none
 z_max:mg "max"=none
 z_min:mg "min"=none
 z_any:mg "any"=none
 z_all:mg "all"=none
 z_range:mg "range"=none
 z_isinstance:mg "isinstance"=none
 z_int:mg "int"=none
 z_bool:mg "bool"=none
 z_str:mg "str"=none
 z_tuple:mg "tuple"=none
 z_list:mg "list"=none
 z_sorted:mg "sorted"=none
 z_dict:mg "dict"=none
 z_set:mg "set"=none
 c_EVERY_KEY:∃ a,mg "EVERY_KEY"=some (.ref a) ∧ KV1 K (.tup [(.str "but"),(.tup [])]) (.ref a)
 c_EVERY_VALUE:∃ a,mg "EVERY_VALUE"=some (.ref a) ∧ KV1 K (.tup [.non,.non,(.int 1),(.int 0)]) (.ref a)
section
variable {P:Program}{w:World}{K:Frag}{mg:Str->Option Value}{base:Heap}
abbrev m_4:Stmt:=top 2
theorem Q_5:FnScope ["keys","key"] ["keys","key"] (a_0 m_4):=⟨rfl,rfl,rfl,by decide +kernel,rfl,by decide +kernel,by decide +kernel⟩
theorem S_2 {f:Addr}{fd:FuncData} (F:Fun K "keys_hold" "keys_hold" m_4 f fd) (bF:Binds K fd ["keys","key"] []) (mF:mg "keys_hold"=some (.ref f)) (T:Blt K mg) :DefOk P w K mg base 1 "keys_hold" e_1 :=
 ⟨f,fd,["keys","key"],l_2 F Q_5 rfl rfl (λ cdv A outer s H E hr =>
 (YSs.go (ys1 (f_7 (ye (V_7 (cEq hr.units) (V_7 bm0 (xv 1) (c_6 (xv 0) a_4)) (V_7 (cEq hr.units) (c_6 (xv 0) a_4) i_4))))))),bF,F.kp,mF⟩
abbrev d_5:Stmt:=top 3
theorem sc_keys_meet:FnScope ["one","other","names"] ["one","other"] (a_0 d_5):=⟨rfl,rfl,rfl,by decide +kernel,rfl,by decide +kernel,by decide +kernel⟩
theorem H_9 {f:Addr}{fd:FuncData} (F:Fun K "keys_meet" "keys_meet" d_5 f fd) (bF:Binds K fd ["one","other"] []) (mF:mg "keys_meet"=some (.ref f)) (T:Blt K mg):DefOk P w K mg base 2 "keys_meet" s_3 :=
 ⟨f,fd,["one","other"],l_2 F sc_keys_meet rfl rfl (λ cdv A outer s H E hr=>λ _ _ _ _ _ _ hh0_=>by obtain⟨_,_,_,_,_,e,_⟩:=hh0_;exact nomatch e),bF,F.kp,mF⟩
theorem H_8 {f:Addr}{fd:FuncData} (F:Fun K "keys_meet" "keys_meet" d_5 f fd) (bF:Binds K fd ["one","other"] []) (mF:mg "keys_meet"=some (.ref f)) (T:Blt K mg) (G_keys_meet:DefOk P w K mg base 2 "keys_meet" s_3) (G_keys_hold:DefOk P w K mg base 1 "keys_hold" e_1):DefOk P w K mg base 3 "keys_meet" j_8 :=
 ⟨f,fd,["one","other"],l_2 F sc_keys_meet rfl rfl (λ cdv A outer s H E hr =>
 (YSs.go (ysC (yif (xw (q_3 (xt (cEq hr.units) (c_6 (xv 0) a_4) i_4) (n_5 (xt (cEq hr.units) (c_6 (xv 1) a_4) i_4))))
 (ys1 (f_7 (w_1 (yaC (ye i_4) (yaC (ye (xTy h_6 rfl T.z_tuple PyProof.Rows.boot_tuple (xaC (ak3 T.z_set T.z_sorted (c_6 (xv 0) a_4) (c_6 (xv 1) a_4)) xaN))) yaN)))))
 ysN) (ysC (yif (xt (cEq hr.units) (c_6 (xv 0) a_4) i_4)
 (ys1 (f_7 (ye (xF G_keys_meet (hr.mono (by decide)) (xaC (xv 1) (xaC (xv 0) xaN))))))
 ysN) (ysC (f_6 2 sc_keys_meet.nd (ye (xTy h_6 rfl T.z_tuple PyProof.Rows.boot_tuple (xaC (xlc (sc:=a_0 d_5) rfl rfl (by show ScB ["one","other","names"] (a_0 d_5) _ "name" ["other"] [1];exact⟨rfl,rfl,by decide +kernel,by decide +kernel,rfl,by decide +kernel,by decide +kernel,rfl,by decide +kernel⟩) (c_6 (xv 0) a_4) (λ _ _ _ _=>(w_2 (xtv (xF G_keys_hold (hr.mono (by decide)) (xaC (xv 1) (xaC (xv 0) xaN))) (λ _=>rfl)))) (λ _ _ _ _=>(xv 0))) xaN)))) (ys1 (f_7 (ye (xif (xtv (xv 2) (λ _=>rfl)) (aU5 (xaC i_4 (xaC (xv 2) xaN))) j_9))))))))),bF,F.kp,mF⟩
theorem M_2 {f:Addr}{fd:FuncData} (F:Fun K "keys_meet" "keys_meet" d_5 f fd) (bF:Binds K fd ["one","other"] []) (mF:mg "keys_meet"=some (.ref f)) (T:Blt K mg) (G_keys_meet:DefOk P w K mg base 3 "keys_meet" j_8) (G_keys_hold:DefOk P w K mg base 1 "keys_hold" e_1):DefOk P w K mg base 4 "keys_meet" d_6 :=
 ⟨f,fd,["one","other"],l_2 F sc_keys_meet rfl rfl (λ cdv A outer s H E hr =>
 (YSs.go (ysC (yif (xw (q_3 (xt (cEq hr.units) (c_6 (xv 0) a_4) i_4) (n_5 (xt (cEq hr.units) (c_6 (xv 1) a_4) i_4))))
 (ys1 (f_7 (w_1 (yaC (ye i_4) (yaC (ye (xTy h_6 rfl T.z_tuple PyProof.Rows.boot_tuple (xaC (ak3 T.z_set T.z_sorted (c_6 (xv 0) a_4) (c_6 (xv 1) a_4)) xaN))) yaN)))))
 ysN) (ysC (yif (xt (cEq hr.units) (c_6 (xv 0) a_4) i_4)
 (ys1 (f_7 (ye (xF G_keys_meet (hr.mono (by decide)) (xaC (xv 1) (xaC (xv 0) xaN))))))
 ysN) (ysC (f_6 2 sc_keys_meet.nd (ye (xTy h_6 rfl T.z_tuple PyProof.Rows.boot_tuple (xaC (xlc (sc:=a_0 d_5) rfl rfl (by show ScB ["one","other","names"] (a_0 d_5) _ "name" ["other"] [1];exact⟨rfl,rfl,by decide +kernel,by decide +kernel,rfl,by decide +kernel,by decide +kernel,rfl,by decide +kernel⟩) (c_6 (xv 0) a_4) (λ _ _ _ _=>(w_2 (xtv (xF G_keys_hold (hr.mono (by decide)) (xaC (xv 1) (xaC (xv 0) xaN))) (λ _=>rfl)))) (λ _ _ _ _=>(xv 0))) xaN)))) (ys1 (f_7 (ye (xif (xtv (xv 2) (λ _=>rfl)) (aU5 (xaC i_4 (xaC (xv 2) xaN))) j_9))))))))),bF,F.kp,mF⟩
theorem S_1 {f:Addr}{fd:FuncData} (F:Fun K "keys_meet" "keys_meet" d_5 f fd) (bF:Binds K fd ["one","other"] []) (mF:mg "keys_meet"=some (.ref f)) (T:Blt K mg) (G_keys_hold:DefOk P w K mg base 1 "keys_hold" e_1):DefOk P w K mg base 4 "keys_meet" d_6:=M_2 F bF mF T (H_8 F bF mF T (H_9 F bF mF T) G_keys_hold) G_keys_hold
abbrev i_1:Stmt:=top 4
theorem sc_keys_put:FnScope ["keys","table","others","left","reached"] ["keys","table"] (a_0 i_1):=⟨rfl,rfl,rfl,by decide +kernel,rfl,by decide +kernel,by decide +kernel⟩
theorem X_6 {f:Addr}{fd:FuncData} (F:Fun K "keys_put" "keys_put" i_1 f fd) (bF:Binds K fd ["keys","table"] []) (mF:mg "keys_put"=some (.ref f)) (T:Blt K mg) :DefOk P w K mg base 1 "keys_put" j_7 :=
 ⟨f,fd,["keys","table"],l_2 F sc_keys_put rfl rfl (λ cdv A outer s H E hr =>
 (YSs.go (ysC (f_6 2 sc_keys_put.nd (ye (xTy (af0 rfl) rfl T.z_dict PyProof.Rows.boot_dict (xaC (xv 1) xaN)))) (ysC (yif (xt (cEq hr.units) (c_6 (xv 0) a_4) i_4)
 (ys1 (f_7 (w_1 (yaC (ye i_4) (yaC (ye (xTy h_6 rfl T.z_tuple PyProof.Rows.boot_tuple (xaC (K_6 T.z_set T.z_sorted (xlc (sc:=a_0 i_1) rfl rfl (by show ScB ["keys","table","others","left","reached"] (a_0 i_1) _ "name" ["others"] [2];exact⟨rfl,rfl,by decide +kernel,by decide +kernel,rfl,by decide +kernel,by decide +kernel,rfl,by decide +kernel⟩) (c_6 (xv 0) a_4) (λ _ _ _ _=>K_5) (λ _ _ _ _=>(bm7 (n_7 hr) (xv 1) (xv 0) (xv 0))))) xaN))) yaN)))))
 ysN) (ysC (f_6 3 sc_keys_put.nd (yb t_3 (ye (xTy aD1 rfl T.z_list PyProof.Rows.boot_list (xaC (c_6 (xv 0) a_4) xaN))) (ye (xTy (av4 rfl) rfl T.z_list PyProof.Rows.boot_list (xaC (xv 2) xaN))))) (ysC (yx (ak4 4 sc_keys_put.nd (sc:=a_0 i_1) rfl rfl (by show ScB ["keys","table","others","left","reached"] (a_0 i_1) _ "key" ["others","keys"] [2,0];exact⟨rfl,rfl,by decide +kernel,by decide +kernel,rfl,by decide +kernel,by decide +kernel,rfl,by decide +kernel⟩) (xv 2) (λ _ _ _ _=>(w_2 (xt aa4 (xv 0) (c_6 (xv 2) a_4)))) (λ _ _ _ _=>(aX0 (n_7 hr) (xv 1) (xv 0))))) (ys1 (f_7 (w_1 (yaC (ye i_4) (yaC (ye (xTy h_6 rfl T.z_tuple PyProof.Rows.boot_tuple (xaC (ax2 T.z_set T.z_sorted (xv 3) (xv 4)) xaN))) yaN))))))))))),bF,F.kp,mF⟩
abbrev c_5:Stmt:=top 5
theorem sc_keys_put_back:FnScope ["keys","table","others","stay","become","names"] ["keys","table"] (a_0 c_5):=⟨rfl,rfl,rfl,by decide +kernel,rfl,by decide +kernel,by decide +kernel⟩
theorem C_3 {f:Addr}{fd:FuncData} (F:Fun K "keys_put_back" "keys_put_back" c_5 f fd) (bF:Binds K fd ["keys","table"] []) (mF:mg "keys_put_back"=some (.ref f)) (T:Blt K mg) :DefOk P w K mg base 1 "keys_put_back" f_4 :=
 ⟨f,fd,["keys","table"],l_2 F sc_keys_put_back rfl rfl (λ cdv A outer s H E hr =>
 (YSs.go (ysC (f_6 2 sc_keys_put_back.nd (ye (xTy (af0 rfl) rfl T.z_dict PyProof.Rows.boot_dict (xaC (xv 1) xaN)))) (ysC (yx (aE3 3 sc_keys_put_back.nd (sc:=a_0 c_5) rfl rfl (by show ScB ["keys","table","others","stay","become","names"] (a_0 c_5) _ "name" ["others"] [2];exact⟨rfl,rfl,by decide +kernel,by decide +kernel,rfl,by decide +kernel,by decide +kernel,rfl,by decide +kernel⟩) (c_6 (xv 0) a_4) (λ _ _ _ _=>(w_2 (xt (by2 (n_7 hr)) (xv 0) (xv 1)))) (λ _ _ _ _=>(xv 0)))) (ysC (yx (ak4 4 sc_keys_put_back.nd (sc:=a_0 c_5) rfl rfl (by show ScB ["keys","table","others","stay","become","names"] (a_0 c_5) _ "key" ["others","keys"] [2,0];exact⟨rfl,rfl,by decide +kernel,by decide +kernel,rfl,by decide +kernel,by decide +kernel,rfl,by decide +kernel⟩) (xv 2) (λ _ _ _ _=>(w_2 (xt bm0 (aX0 (n_7 hr) (xv 1) (xv 0)) (c_6 (xv 2) a_4)))) (λ _ _ _ _=>(xv 0)))) (ysC (f_6 5 sc_keys_put_back.nd (ye (xTy h_6 rfl T.z_tuple PyProof.Rows.boot_tuple (xaC (xB K_1 rfl T.z_sorted PyProof.Rows.boot_sorted (xaC (xb t_3 (xv 3) (xv 4)) xaN)) xaN)))) (ysC (yif (xw (q_3 (xt (cEq hr.units) (c_6 (xv 0) a_4) i_4) (n_5 (aI5 (xtv (xv 5) (λ _=>rfl))))))
 (ys1 (f_7 (ye j_9)))
 ysN) (ys1 (f_7 (w_1 (yaC (yix (ye (xv 0)) (ye a_4)) (yaC (ye (xv 5)) yaN)))))))))))),bF,F.kp,mF⟩
abbrev h_8:Stmt:=top 8
theorem sc_stretch_made:FnScope ["low","high","step","rest","first","last"] ["low","high","step","rest"] (a_0 h_8):=⟨rfl,rfl,rfl,by decide +kernel,rfl,by decide +kernel,by decide +kernel⟩
theorem E_5 {f:Addr}{fd:FuncData} (F:Fun K "stretch_made" "stretch_made" h_8 f fd) (bF:Binds K fd ["low","high","step","rest"] []) (mF:mg "stretch_made"=some (.ref f)) (T:Blt K mg) :DefOk P w K mg base 1 "stretch_made" a_3 :=
 ⟨f,fd,["low","high","step","rest"],l_2 F sc_stretch_made rfl rfl (λ cdv A outer s H E hr =>
 (YSs.go (ysC (yif (aI5 (xt3 cLe cLt a_4 (xv 3) (xv 2)))
 (ys1 (f_7 (ye j_9)))
 ysN) (ysC (f_6 4 sc_stretch_made.nd (ye (xif (xt cIs (xv 0) j_9) j_9 (xb t_3 (xv 0) (xb l_5 (xb S_4 (xv 3) (xv 0)) (xv 2)))))) (ysC (f_6 5 sc_stretch_made.nd (ye (xif (xt cIs (xv 1) j_9) j_9 (xb S_4 (xv 1) (xb l_5 (xb S_4 (xv 1) (xv 3)) (xv 2)))))) (ysC (yif (xw (aj5 (xt cIs (xv 4) j_9) (D_6 (xt cIs (xv 5) j_9))))
 (ys1 (f_7 (w_1 (yaC (ye (xv 4)) (yaC (ye (xv 5)) (yaC (ye (xv 2)) (yaC (ye (xv 3)) yaN)))))))
 ysN) (ysC (yif (xt cGt (xv 4) (xv 5))
 (ys1 (f_7 (ye j_9)))
 ysN) (ysC (yif (xt (cEq hr.units) (xv 4) (xv 5))
 (ys1 (f_7 (w_1 (yaC (ye (xv 4)) (yaC (ye (xv 5)) (yaC (ye a_4) (yaC (ye a_4) yaN)))))))
 ysN) (ys1 (f_7 (w_1 (yaC (ye (xv 4)) (yaC (ye (xv 5)) (yaC (ye (xv 2)) (yaC (ye (xv 3)) yaN))))))))))))))),bF,F.kp,mF⟩
abbrev l_0:Stmt:=top 9
theorem L_5:FnScope ["v","low","high"] ["v","low","high"] (a_0 l_0):=⟨rfl,rfl,rfl,by decide +kernel,rfl,by decide +kernel,by decide +kernel⟩
theorem M_5 {f:Addr}{fd:FuncData} (F:Fun K "is_between" "is_between" l_0 f fd) (bF:Binds K fd ["v","low","high"] []) (mF:mg "is_between"=some (.ref f)) (T:Blt K mg) :DefOk P w K mg base 1 "is_between" p_9 :=
 ⟨f,fd,["v","low","high"],l_2 F L_5 rfl rfl (λ cdv A outer s H E hr =>
 (YSs.go (ys1 (f_7 (ye (aX1 (xor (V_7 cIs (xv 1) j_9) (aw7 (V_7 cLe (xv 1) (xv 0)))) (aw7 (xor (V_7 cIs (xv 2) j_9) (aw7 (V_7 cLe (xv 0) (xv 2))))))))))),bF,F.kp,mF⟩
abbrev j_1:Stmt:=top 10
theorem G_6:FnScope ["one","v"] ["one","v"] (a_0 j_1):=⟨rfl,rfl,rfl,by decide +kernel,rfl,by decide +kernel,by decide +kernel⟩
theorem H_3 {f:Addr}{fd:FuncData} (F:Fun K "stretch_has" "stretch_has" j_1 f fd) (bF:Binds K fd ["one","v"] []) (mF:mg "stretch_has"=some (.ref f)) (T:Blt K mg) (G_is_between:DefOk P w K mg base 1 "is_between" p_9):DefOk P w K mg base 2 "stretch_has" y_2 :=
 ⟨f,fd,["one","v"],l_2 F G_6 rfl rfl (λ cdv A outer s H E hr =>
 (YSs.go (ys1 (f_7 (ye (aX1 (xF G_is_between (hr.mono (by decide)) (xaC (xv 1) (xaC (c_6 (xv 0) a_4) (xaC (c_6 (xv 0) a_4) xaN)))) (aw7 (V_7 (cEq hr.units) (xb l_5 (xv 1) (c_6 (xv 0) a_4)) (c_6 (xv 0) a_4))))))))),bF,F.kp,mF⟩
abbrev j_2:Stmt:=top 11
theorem G_7:FnScope ["one","other"] ["one","other"] (a_0 j_2):=⟨rfl,rfl,rfl,by decide +kernel,rfl,by decide +kernel,by decide +kernel⟩
theorem H_4 {f:Addr}{fd:FuncData} (F:Fun K "lower_bound" "lower_bound" j_2 f fd) (bF:Binds K fd ["one","other"] []) (mF:mg "lower_bound"=some (.ref f)) (T:Blt K mg) :DefOk P w K mg base 1 "lower_bound" h_2 :=
 ⟨f,fd,["one","other"],l_2 F G_7 rfl rfl (λ cdv A outer s H E hr =>
 (YSs.go (ysC (yif (xw (aj5 (xt cIs (xv 0) j_9) (D_6 (xt cIs (xv 1) j_9))))
 (ys1 (f_7 (ye (xif (xt cIs (xv 0) j_9) (xv 1) (xv 0)))))
 ysN) (ys1 (f_7 (ye (xB (O_4 rfl) rfl T.z_max PyProof.Rows.boot_max (xaC (xv 0) (xaC (xv 1) xaN))))))))),bF,F.kp,mF⟩
abbrev j_0:Stmt:=top 12
theorem G_5:FnScope ["one","other"] ["one","other"] (a_0 j_0):=⟨rfl,rfl,rfl,by decide +kernel,rfl,by decide +kernel,by decide +kernel⟩
theorem H_2 {f:Addr}{fd:FuncData} (F:Fun K "upper_bound" "upper_bound" j_0 f fd) (bF:Binds K fd ["one","other"] []) (mF:mg "upper_bound"=some (.ref f)) (T:Blt K mg) :DefOk P w K mg base 1 "upper_bound" e_2 :=
 ⟨f,fd,["one","other"],l_2 F G_5 rfl rfl (λ cdv A outer s H E hr =>
 (YSs.go (ysC (yif (xw (aj5 (xt cIs (xv 0) j_9) (D_6 (xt cIs (xv 1) j_9))))
 (ys1 (f_7 (ye (xif (xt cIs (xv 0) j_9) (xv 1) (xv 0)))))
 ysN) (ys1 (f_7 (ye (xB (aT5 rfl) rfl T.z_min PyProof.Rows.boot_min (xaC (xv 0) (xaC (xv 1) xaN))))))))),bF,F.kp,mF⟩
abbrev e_7:Stmt:=top 13
theorem x_7:FnScope ["one","low","high"] ["one","low","high"] (a_0 e_7):=⟨rfl,rfl,rfl,by decide +kernel,rfl,by decide +kernel,by decide +kernel⟩
theorem x_9 {f:Addr}{fd:FuncData} (F:Fun K "stretch_between" "stretch_between" e_7 f fd) (bF:Binds K fd ["one","low","high"] []) (mF:mg "stretch_between"=some (.ref f)) (T:Blt K mg) (G_lower_bound:DefOk P w K mg base 1 "lower_bound" h_2) (G_stretch_made:DefOk P w K mg base 1 "stretch_made" a_3) (G_upper_bound:DefOk P w K mg base 1 "upper_bound" e_2):DefOk P w K mg base 2 "stretch_between" e_9 :=
 ⟨f,fd,["one","low","high"],l_2 F x_7 rfl rfl (λ cdv A outer s H E hr =>
 (YSs.go (ys1 (f_7 (ye (xF G_stretch_made (hr.mono (by decide)) (xaC (xF G_lower_bound (hr.mono (by decide)) (xaC (c_6 (xv 0) a_4) (xaC (xv 1) xaN))) (xaC (xF G_upper_bound (hr.mono (by decide)) (xaC (c_6 (xv 0) a_4) (xaC (xv 2) xaN))) (xaC (c_6 (xv 0) a_4) (xaC (c_6 (xv 0) a_4) xaN)))))))))),bF,F.kp,mF⟩
abbrev d_9:Stmt:=top 14
theorem sc_stretch_moved:FnScope ["one","a","b","ends","step"] ["one","a","b"] (a_0 d_9):=⟨rfl,rfl,rfl,by decide +kernel,rfl,by decide +kernel,by decide +kernel⟩
theorem C_1 {f:Addr}{fd:FuncData} (F:Fun K "stretch_moved" "stretch_moved" d_9 f fd) (bF:Binds K fd ["one","a","b"] []) (mF:mg "stretch_moved"=some (.ref f)) (T:Blt K mg) (G_stretch_made:DefOk P w K mg base 1 "stretch_made" a_3):DefOk P w K mg base 2 "stretch_moved" c_1 :=
 ⟨f,fd,["one","a","b"],l_2 F sc_stretch_moved rfl rfl (λ cdv A outer s H E hr =>
 (YSs.go (ysC (yx (aE3 3 sc_stretch_moved.nd (sc:=a_0 d_9) rfl rfl (by show ScB ["one","a","b","ends","step"] (a_0 d_9) _ "end" ["b","a"] [2,1];exact⟨rfl,rfl,by decide +kernel,by decide +kernel,rfl,by decide +kernel,by decide +kernel,rfl,by decide +kernel⟩) (bm4 (xv 0) xoN (xoS a_4)) (λ _ _ _ _=>K_5) (λ _ _ _ _=>(xif (xt cIs (xv 0) j_9) j_9 (xb t_3 (xb ac2 (xv 2) (xv 0)) (xv 1)))))) (ysC (yif (xt cLt (xv 1) a_4)
 (ys1 (f_6 3 sc_stretch_moved.nd (ax1 (yaC (yix (ye (xv 3)) (ye a_4)) (yaC (yix (ye (xv 3)) (ye a_4)) yaN)))))
 ysN) (ysC (f_6 4 sc_stretch_moved.nd (yb ac2 (ye (xB aa3 rfl T.z_abs PyProof.Rows.boot_abs (xaC (xv 1) xaN))) (yix (ye (xv 0)) (ye a_4)))) (ys1 (f_7 (ye (xF G_stretch_made (hr.mono (by decide)) (xaC (c_6 (xv 3) a_4) (xaC (c_6 (xv 3) a_4) (xaC (xv 4) (xaC (xb l_5 (xb t_3 (xb ac2 (xv 1) (c_6 (xv 0) a_4)) (xv 2)) (xv 4)) xaN))))))))))))),bF,F.kp,mF⟩
abbrev d_1:Stmt:=top 15
theorem sc_divisor_and_factor:FnScope ["a","m","g","s","other","t","times","less"] ["a","m"] (a_0 d_1):=⟨rfl,rfl,rfl,by decide +kernel,rfl,by decide +kernel,by decide +kernel⟩
theorem t_9 {f:Addr}{fd:FuncData} (F:Fun K "divisor_and_factor" "divisor_and_factor" d_1 f fd) (bF:Binds K fd ["a","m"] []) (mF:mg "divisor_and_factor"=some (.ref f)) (T:Blt K mg) :DefOk P w K mg base 1 "divisor_and_factor" d_2 :=
 ⟨f,fd,["a","m"],l_2 F sc_divisor_and_factor rfl rfl (λ cdv A outer s H E hr =>
 (YSs.go (ysC (f_6 2 sc_divisor_and_factor.nd (yb l_5 (ye (xv 0)) (ye (xv 1)))) (ysC (f_6 3 sc_divisor_and_factor.nd (ye a_4)) (ysC (f_6 4 sc_divisor_and_factor.nd (ye (xv 1))) (ysC (f_6 5 sc_divisor_and_factor.nd (ye a_4)) (ysC (aE2 (xt (cNe hr.units) (xv 4) a_4)
 (ysC (f_6 6 sc_divisor_and_factor.nd (yb aN5 (ye (xv 2)) (ye (xv 4)))) (ysC (f_6 7 sc_divisor_and_factor.nd (yb S_4 (ye (xv 2)) (yb ac2 (ye (xv 6)) (ye (xv 4))))) (ysC (f_6 2 sc_divisor_and_factor.nd (ye (xv 4))) (ysC (f_6 4 sc_divisor_and_factor.nd (ye (xv 7))) (ysC (f_6 7 sc_divisor_and_factor.nd (yb S_4 (ye (xv 3)) (yb ac2 (ye (xv 6)) (ye (xv 5))))) (ysC (f_6 3 sc_divisor_and_factor.nd (ye (xv 5))) (ys1 (f_6 5 sc_divisor_and_factor.nd (ye (xv 7))))))))))) (ys1 (f_7 (w_1 (yaC (ye (xv 2)) (yaC (ye (xv 3)) yaN)))))))))))),bF,F.kp,mF⟩
abbrev h_9:Stmt:=top 16
theorem sc_stretch_back:FnScope ["one","a","b","found","divisor","away","step","ends","low","high"] ["one","a","b"] (a_0 h_9):=⟨rfl,rfl,rfl,by decide +kernel,rfl,by decide +kernel,by decide +kernel⟩
theorem E_6 {f:Addr}{fd:FuncData} (F:Fun K "stretch_back" "stretch_back" h_9 f fd) (bF:Binds K fd ["one","a","b"] []) (mF:mg "stretch_back"=some (.ref f)) (T:Blt K mg) (G_divisor_and_factor:DefOk P w K mg base 1 "divisor_and_factor" d_2) (G_stretch_made:DefOk P w K mg base 1 "stretch_made" a_3):DefOk P w K mg base 2 "stretch_back" b_4 :=
 ⟨f,fd,["one","a","b"],l_2 F sc_stretch_back rfl rfl (λ cdv A outer s H E hr =>
 (YSs.go (ysC (yif (xt (cEq hr.units) (xv 1) a_4)
 (ys1 (f_7 (ye aW7)))
 ysN) (ysC (f_6 3 sc_stretch_back.nd (ye (xF G_divisor_and_factor (hr.mono (by decide)) (xaC (xv 1) (xaC (c_6 (xv 0) a_4) xaN))))) (ysC (f_6 4 sc_stretch_back.nd (yix (ye (xv 3)) (ye a_4))) (ysC (f_6 5 sc_stretch_back.nd (yb S_4 (yix (ye (xv 0)) (ye a_4)) (ye (xv 2)))) (ysC (yif (xt (cNe hr.units) (xb l_5 (xv 5) (xv 4)) a_4)
 (ys1 (f_7 (ye j_9)))
 ysN) (ysC (f_6 6 sc_stretch_back.nd (yb aN5 (yix (ye (xv 0)) (ye a_4)) (ye (xv 4)))) (ysC (f_6 7 sc_stretch_back.nd (ye (xif (xt cGt (xv 1) a_4) (bj7 (xaC (c_6 (xv 0) a_4) (xaC (c_6 (xv 0) a_4) xaN))) (bj7 (xaC (c_6 (xv 0) a_4) (xaC (c_6 (xv 0) a_4) xaN)))))) (ysC (f_6 8 sc_stretch_back.nd (ye (xif (xt cIs (c_6 (xv 7) a_4) j_9) j_9 (bz3 (xb aN5 (xb S_4 (xv 2) (c_6 (xv 7) a_4)) (xv 1)))))) (ysC (f_6 9 sc_stretch_back.nd (ye (xif (xt cIs (c_6 (xv 7) a_4) j_9) j_9 (xb aN5 (xb S_4 (c_6 (xv 7) a_4) (xv 2)) (xv 1))))) (ys1 (f_7 (ye (xF G_stretch_made (hr.mono (by decide)) (xaC (xv 8) (xaC (xv 9) (xaC (xv 6) (xaC (xb l_5 (xb ac2 (xb aN5 (xv 5) (xv 4)) (c_6 (xv 3) a_4)) (xv 6)) xaN))))))))))))))))))),bF,F.kp,mF⟩
abbrev h_7:Stmt:=top 17
theorem sc_stretch_meet:FnScope ["one","other","turns"] ["one","other"] (a_0 h_7):=⟨rfl,rfl,rfl,by decide +kernel,rfl,by decide +kernel,by decide +kernel⟩
theorem E_4 {f:Addr}{fd:FuncData} (F:Fun K "stretch_meet" "stretch_meet" h_7 f fd) (bF:Binds K fd ["one","other"] []) (mF:mg "stretch_meet"=some (.ref f)) (T:Blt K mg) (G_stretch_back:DefOk P w K mg base 2 "stretch_back" b_4) (G_stretch_between:DefOk P w K mg base 2 "stretch_between" e_9) (G_stretch_moved:DefOk P w K mg base 2 "stretch_moved" c_1):DefOk P w K mg base 3 "stretch_meet" g_1 :=
 ⟨f,fd,["one","other"],l_2 F sc_stretch_meet rfl rfl (λ cdv A outer s H E hr =>
 (YSs.go (ysC (f_6 2 sc_stretch_meet.nd (ye (xF G_stretch_back (hr.mono (by decide)) (xaC (xv 1) (xaC (c_6 (xv 0) a_4) (xaC (c_6 (xv 0) a_4) xaN)))))) (ysC (yif (xt cIs (xv 2) j_9)
 (ys1 (f_7 (ye j_9)))
 ysN) (ys1 (f_7 (ye (xF G_stretch_between (hr.mono (by decide)) (xaC (xF G_stretch_moved (hr.mono (by decide)) (xaC (xv 2) (xaC (c_6 (xv 0) a_4) (xaC (c_6 (xv 0) a_4) xaN)))) (xaC (c_6 (xv 0) a_4) (xaC (c_6 (xv 0) a_4) xaN))))))))))),bF,F.kp,mF⟩
abbrev o_7:Stmt:=top 19
theorem sc_box_made:FnScope ["keys","begin","end","stretch"] ["keys","begin","end","stretch"] (a_0 o_7):=⟨rfl,rfl,rfl,by decide +kernel,rfl,by decide +kernel,by decide +kernel⟩
theorem X_8 {f:Addr}{fd:FuncData} (F:Fun K "box_made" "box_made" o_7 f fd) (bF:Binds K fd ["keys","begin","end","stretch"] []) (mF:mg "box_made"=some (.ref f)) (T:Blt K mg) :DefOk P w K mg base 1 "box_made" a_9 :=
 ⟨f,fd,["keys","begin","end","stretch"],l_2 F sc_box_made rfl rfl (λ cdv A outer s H E hr =>
 (YSs.go (ysC (yif (xw (aj5 (xt cIs (xv 0) j_9) (D_6 (xt cIs (xv 3) j_9))))
 (ys1 (f_7 (ye j_9)))
 ysN) (ysC (f_6 1 sc_box_made.nd (ye (xB (O_4 rfl) rfl T.z_max PyProof.Rows.boot_max (xaC (xv 1) (xaC a_4 xaN))))) (ysC (yif (xw (q_3 (xt p_3 (xv 2) j_9) (n_5 (xt cLe (xv 2) (xv 1)))))
 (ys1 (f_7 (ye j_9)))
 ysN) (ys1 (f_7 (w_1 (yaC (ye (xv 0)) (yaC (ye (xv 1)) (yaC (ye (xv 2)) (yaC (ye (xv 3)) yaN)))))))))))),bF,F.kp,mF⟩
abbrev o_6:Stmt:=top 20
theorem sc_box_meet:FnScope ["one","other","keys","stretch"] ["one","other"] (a_0 o_6):=⟨rfl,rfl,rfl,by decide +kernel,rfl,by decide +kernel,by decide +kernel⟩
theorem X_7 {f:Addr}{fd:FuncData} (F:Fun K "box_meet" "box_meet" o_6 f fd) (bF:Binds K fd ["one","other"] []) (mF:mg "box_meet"=some (.ref f)) (T:Blt K mg) (G_box_made:DefOk P w K mg base 1 "box_made" a_9) (G_keys_meet:DefOk P w K mg base 4 "keys_meet" d_6) (G_stretch_meet:DefOk P w K mg base 3 "stretch_meet" g_1) (G_upper_bound:DefOk P w K mg base 1 "upper_bound" e_2):DefOk P w K mg base 5 "box_meet" g_6 :=
 ⟨f,fd,["one","other"],l_2 F sc_box_meet rfl rfl (λ cdv A outer s H E hr =>
 (YSs.go (ysC (f_6 2 sc_box_meet.nd (ye (xF G_keys_meet (hr.mono (by decide)) (xaC (c_6 (xv 0) a_4) (xaC (c_6 (xv 1) a_4) xaN))))) (ysC (f_6 3 sc_box_meet.nd (ye (xF G_stretch_meet (hr.mono (by decide)) (xaC (c_6 (xv 0) a_4) (xaC (c_6 (xv 1) a_4) xaN))))) (ys1 (f_7 (ye (xF G_box_made (hr.mono (by decide)) (xaC (xv 2) (xaC (xB (O_4 rfl) rfl T.z_max PyProof.Rows.boot_max (xaC (c_6 (xv 0) a_4) (xaC (c_6 (xv 1) a_4) xaN))) (xaC (xF G_upper_bound (hr.mono (by decide)) (xaC (c_6 (xv 0) a_4) (xaC (c_6 (xv 1) a_4) xaN))) (xaC (xv 3) xaN)))))))))))),bF,F.kp,mF⟩
abbrev l_1:Stmt:=top 21
theorem sc_box_sieved:FnScope ["row","word","rest"] ["row"] (a_0 l_1):=⟨rfl,rfl,rfl,by decide +kernel,rfl,by decide +kernel,by decide +kernel⟩
theorem M_6 {f:Addr}{fd:FuncData} (F:Fun K "box_sieved" "box_sieved" l_1 f fd) (bF:Binds K fd ["row"] []) (mF:mg "box_sieved"=some (.ref f)) (T:Blt K mg) (G_box_made:DefOk P w K mg base 1 "box_made" a_9) (G_stretch_made:DefOk P w K mg base 1 "stretch_made" a_3):DefOk P w K mg base 2 "box_sieved" b_9 :=
 ⟨f,fd,["row"],l_2 F sc_box_sieved rfl rfl (λ cdv A outer s H E hr =>
 (YSs.go (ysC (f_6 1 sc_box_sieved.nd (yix (ye (xv 0)) (ye a_4))) (ysC (f_6 2 sc_box_sieved.nd (yix (ye (xv 0)) (ye a_4))) (ysC (yif (xt (cEq hr.units) (xv 1) i_4)
 (ys1 (f_7 (ye (xF G_box_made (hr.mono (by decide)) (xaC (aW8 T.c_EVERY_KEY) (xaC (c_6 (xv 2) a_4) (xaC (c_6 (xv 2) a_4) (xaC (aW8 T.c_EVERY_VALUE) xaN))))))))
 ysN) (ysC (yif (xw (aj5 (xt (cEq hr.units) (xv 1) i_4) (D_6 (xt (cEq hr.units) (xv 1) i_4))))
 (ys1 (f_7 (ye (xF G_box_made (hr.mono (by decide)) (xaC (aU5 (xaC (xv 1) (xaC (xTy h_6 rfl T.z_tuple PyProof.Rows.boot_tuple (xaC (xB K_1 rfl T.z_sorted PyProof.Rows.boot_sorted (xaC (xv 2) xaN)) xaN)) xaN))) (xaC a_4 (xaC j_9 (xaC (aW8 T.c_EVERY_VALUE) xaN))))))))
 ysN) (ysC (yif (xt (cEq hr.units) (xv 1) i_4)
 (ys1 (f_7 (ye (xF G_box_made (hr.mono (by decide)) (xaC (aW8 T.c_EVERY_KEY) (xaC a_4 (xaC j_9 (xaC (xF G_stretch_made (hr.mono (by decide)) (xaC (c_6 (xv 2) a_4) (xaC (c_6 (xv 2) a_4) (xaC a_4 (xaC a_4 xaN))))) xaN))))))))
 ysN) (ysC (yif (xt (cEq hr.units) (xv 1) i_4)
 (ys1 (f_7 (ye (xF G_box_made (hr.mono (by decide)) (xaC (aW8 T.c_EVERY_KEY) (xaC a_4 (xaC j_9 (xaC (xF G_stretch_made (hr.mono (by decide)) (xaC j_9 (xaC j_9 (xaC (c_6 (xv 2) a_4) (xaC (c_6 (xv 2) a_4) xaN))))) xaN))))))))
 ysN) (ys1 (f_7 (ye j_9))))))))))),bF,F.kp,mF⟩
abbrev m_5:Stmt:=top 22
theorem sc_box_later:FnScope ["box","c","end"] ["box","c"] (a_0 m_5):=⟨rfl,rfl,rfl,by decide +kernel,rfl,by decide +kernel,by decide +kernel⟩
theorem S_3 {f:Addr}{fd:FuncData} (F:Fun K "box_later" "box_later" m_5 f fd) (bF:Binds K fd ["box","c"] []) (mF:mg "box_later"=some (.ref f)) (T:Blt K mg) (G_box_made:DefOk P w K mg base 1 "box_made" a_9):DefOk P w K mg base 2 "box_later" h_5 :=
 ⟨f,fd,["box","c"],l_2 F sc_box_later rfl rfl (λ cdv A outer s H E hr =>
 (YSs.go (ysC (f_6 2 sc_box_later.nd (ye (xif (xt cIs (c_6 (xv 0) a_4) j_9) j_9 (xb t_3 (c_6 (xv 0) a_4) (xv 1))))) (ys1 (f_7 (ye (xF G_box_made (hr.mono (by decide)) (xaC (c_6 (xv 0) a_4) (xaC (xb t_3 (c_6 (xv 0) a_4) (xv 1)) (xaC (xv 2) (xaC (c_6 (xv 0) a_4) xaN))))))))))),bF,F.kp,mF⟩
abbrev l_9:Stmt:=top 23
theorem sc_row_forth:FnScope ["row","box","sieve","rest"] ["row","box"] (a_0 l_9):=⟨rfl,rfl,rfl,by decide +kernel,rfl,by decide +kernel,by decide +kernel⟩
theorem R_5 {f:Addr}{fd:FuncData} (F:Fun K "row_forth" "row_forth" l_9 f fd) (bF:Binds K fd ["row","box"] []) (mF:mg "row_forth"=some (.ref f)) (T:Blt K mg) (G_box_later:DefOk P w K mg base 2 "box_later" h_5) (G_box_made:DefOk P w K mg base 1 "box_made" a_9) (G_box_meet:DefOk P w K mg base 5 "box_meet" g_6) (G_box_sieved:DefOk P w K mg base 2 "box_sieved" b_9) (G_keys_put:DefOk P w K mg base 1 "keys_put" j_7) (G_stretch_moved:DefOk P w K mg base 2 "stretch_moved" c_1):DefOk P w K mg base 6 "row_forth" h_1 :=
 ⟨f,fd,["row","box"],l_2 F sc_row_forth rfl rfl (λ cdv A outer s H E hr =>
 (YSs.go (ysC (f_6 2 sc_row_forth.nd (ye (xF G_box_sieved (hr.mono (by decide)) (xaC (xv 0) xaN)))) (ysC (yif (xt p_3 (xv 2) j_9)
 (ys1 (f_7 (ye (xF G_box_meet (hr.mono (by decide)) (xaC (xv 2) (xaC (xv 1) xaN))))))
 ysN) (ysC (f_6 3 sc_row_forth.nd (yix (ye (xv 0)) (ye a_4))) (ysC (yif (xt (cEq hr.units) (c_6 (xv 0) a_4) i_4)
 (ys1 (f_7 (ye (xF G_box_later (hr.mono (by decide)) (xaC (xv 1) (xaC (c_6 (xv 3) a_4) xaN))))))
 ysN) (ysC (yif (xt (cEq hr.units) (c_6 (xv 0) a_4) i_4)
 (ys1 (f_7 (ye (xF G_box_made (hr.mono (by decide)) (xaC (c_6 (xv 1) a_4) (xaC (c_6 (xv 1) a_4) (xaC (c_6 (xv 1) a_4) (xaC (xF G_stretch_moved (hr.mono (by decide)) (xaC (c_6 (xv 1) a_4) (xaC (c_6 (xv 3) a_4) (xaC (c_6 (xv 3) a_4) xaN)))) xaN))))))))
 ysN) (ys1 (f_7 (ye (xF G_box_made (hr.mono (by decide)) (xaC (xF G_keys_put (hr.mono (by decide)) (xaC (c_6 (xv 1) a_4) (xaC (xv 3) xaN))) (xaC (c_6 (xv 1) a_4) (xaC (c_6 (xv 1) a_4) (xaC (c_6 (xv 1) a_4) xaN))))))))))))))),bF,F.kp,mF⟩
abbrev o_2:Stmt:=top 24
theorem sc_row_back:FnScope ["row","box","sieve","rest"] ["row","box"] (a_0 o_2):=⟨rfl,rfl,rfl,by decide +kernel,rfl,by decide +kernel,by decide +kernel⟩
theorem X_0 {f:Addr}{fd:FuncData} (F:Fun K "row_back" "row_back" o_2 f fd) (bF:Binds K fd ["row","box"] []) (mF:mg "row_back"=some (.ref f)) (T:Blt K mg) (G_box_later:DefOk P w K mg base 2 "box_later" h_5) (G_box_made:DefOk P w K mg base 1 "box_made" a_9) (G_box_meet:DefOk P w K mg base 5 "box_meet" g_6) (G_box_sieved:DefOk P w K mg base 2 "box_sieved" b_9) (G_keys_put_back:DefOk P w K mg base 1 "keys_put_back" f_4) (G_stretch_back:DefOk P w K mg base 2 "stretch_back" b_4):DefOk P w K mg base 6 "row_back" e_0 :=
 ⟨f,fd,["row","box"],l_2 F sc_row_back rfl rfl (λ cdv A outer s H E hr =>
 (YSs.go (ysC (f_6 2 sc_row_back.nd (ye (xF G_box_sieved (hr.mono (by decide)) (xaC (xv 0) xaN)))) (ysC (yif (xt p_3 (xv 2) j_9)
 (ys1 (f_7 (ye (xF G_box_meet (hr.mono (by decide)) (xaC (xv 2) (xaC (xv 1) xaN))))))
 ysN) (ysC (f_6 3 sc_row_back.nd (yix (ye (xv 0)) (ye a_4))) (ysC (yif (xt (cEq hr.units) (c_6 (xv 0) a_4) i_4)
 (ys1 (f_7 (ye (xF G_box_later (hr.mono (by decide)) (xaC (xv 1) (xaC (bz3 (c_6 (xv 3) a_4)) xaN))))))
 ysN) (ysC (yif (xt (cEq hr.units) (c_6 (xv 0) a_4) i_4)
 (ys1 (f_7 (ye (xF G_box_made (hr.mono (by decide)) (xaC (c_6 (xv 1) a_4) (xaC (c_6 (xv 1) a_4) (xaC (c_6 (xv 1) a_4) (xaC (xF G_stretch_back (hr.mono (by decide)) (xaC (c_6 (xv 1) a_4) (xaC (c_6 (xv 3) a_4) (xaC (c_6 (xv 3) a_4) xaN)))) xaN))))))))
 ysN) (ys1 (f_7 (ye (xF G_box_made (hr.mono (by decide)) (xaC (xF G_keys_put_back (hr.mono (by decide)) (xaC (c_6 (xv 1) a_4) (xaC (xv 3) xaN))) (xaC (c_6 (xv 1) a_4) (xaC (c_6 (xv 1) a_4) (xaC (c_6 (xv 1) a_4) xaN))))))))))))))),bF,F.kp,mF⟩
abbrev j_5:Stmt:=top 26
theorem G_8:FnScope ["_law_script","_law_k"] ["_law_script","_law_k"] (a_0 j_5):=⟨rfl,rfl,rfl,by decide +kernel,rfl,by decide +kernel,by decide +kernel⟩
theorem H_7 {f:Addr}{fd:FuncData} (F:Fun K "_law_cell_at" "_law_cell_at" j_5 f fd) (bF:Binds K fd ["_law_script","_law_k"] []) (mF:mg "_law_cell_at"=some (.ref f)) (T:Blt K mg) :DefOk P w K mg base 1 "_law_cell_at" e_4 :=
 ⟨f,fd,["_law_script","_law_k"],l_2 F G_8 rfl rfl (λ cdv A outer s H E hr =>
 (YSs.go (ysC (yif (xt cLt (xv 1) (xB D_5 rfl T.z_len PySem.boot_len (xaC (xv 0) xaN)))
 (ys1 (f_7 (yix (ye (xv 0)) (ye (xv 1)))))
 ysN) (ys1 (f_7 (ye a_4)))))),bF,F.kp,mF⟩
abbrev m_0:Stmt:=top 27
theorem sc_law_mixed:FnScope ["_law_cell","_law_k","_law_number"] ["_law_cell","_law_k"] (a_0 m_0):=⟨rfl,rfl,rfl,by decide +kernel,rfl,by decide +kernel,by decide +kernel⟩
theorem R_7 {f:Addr}{fd:FuncData} (F:Fun K "_law_mixed" "_law_mixed" m_0 f fd) (bF:Binds K fd ["_law_cell","_law_k"] []) (mF:mg "_law_mixed"=some (.ref f)) (T:Blt K mg) :DefOk P w K mg base 1 "_law_mixed" h_3 :=
 ⟨f,fd,["_law_cell","_law_k"],l_2 F sc_law_mixed rfl rfl (λ cdv A outer s H E hr =>
 (YSs.go (ysC (f_6 2 sc_law_mixed.nd (yb l_5 (yb ac2 (yb t_3 (yb t_3 (ye (xv 0)) (yb ac2 (ye a_4) (ye (xv 1)))) (ye a_4)) (ye a_4)) (ye a_4))) (ys1 (f_7 (yb l_5 (yb ac2 (ye (xv 2)) (yb t_3 (yb aN5 (ye (xv 2)) (ye a_4)) (ye a_4))) (ye a_4))))))),bF,F.kp,mF⟩
abbrev m_2:Stmt:=top 28
theorem sc_law_draws:FnScope ["_law_script","_law_first"] ["_law_script"] (a_0 m_2):=⟨rfl,rfl,rfl,by decide +kernel,rfl,by decide +kernel,by decide +kernel⟩
theorem R_9 {f:Addr}{fd:FuncData} (F:Fun K "_law_draws" "_law_draws" m_2 f fd) (bF:Binds K fd ["_law_script"] []) (mF:mg "_law_draws"=some (.ref f)) (T:Blt K mg) (G_law_cell_at:DefOk P w K mg base 1 "_law_cell_at" e_4):DefN P w K mg base 2 "_law_draws" m_8 :=
 ⟨f,fd,["_law_script"],bg0 F sc_law_draws rfl rfl (λ cdv A outer s H E hr =>
 (xnC (xnS (bz0 1 sc_law_draws.nd (xF G_law_cell_at (hr.mono (by decide)) (xaC (xv 0) (xaC a_4 xaN))))) (xn1 (xpC (xv 0) (xpC (xb l_5 (xv 1) a_4) (xpC a_4 (xpC a_4 (xpC (xv 1) (xpC a_4 xp0))))))))),bF,F.kp,mF⟩
abbrev o_4:Stmt:=top 29
theorem sc_law_next:FnScope ["_law_draws_here","_law_number","_law_found"] ["_law_draws_here"] (a_0 o_4):=⟨rfl,rfl,rfl,by decide +kernel,rfl,by decide +kernel,by decide +kernel⟩
theorem X_3 {f:Addr}{fd:FuncData} (F:Fun K "_law_next" "_law_next" o_4 f fd) (bF:Binds K fd ["_law_draws_here"] []) (mF:mg "_law_next"=some (.ref f)) (T:Blt K mg) (G_law_cell_at:DefOk P w K mg base 1 "_law_cell_at" e_4) (G_law_mixed:DefOk P w K mg base 1 "_law_mixed" h_3):DefB P w K mg base 2 "_law_next" a_1 :=
 ⟨f,fd,["_law_draws_here"],t_4 F sc_law_next rfl rfl (λ cdv A outer s H E hr =>
 (YSs.go (ysC (aE2 (xw (q_3 (xt (cEq hr.units) (xdg 0 (n_7 hr)) a_4) (q_3 (xt (cEq hr.units) (xdg 0 (n_7 hr)) a_4) (n_5 (xt cLt (xdg 0 (n_7 hr)) (xB D_5 rfl T.z_len PySem.boot_len (xaC (xdg 0 (n_7 hr)) xaN)))))))
 (ysC (yx (xdp 0 (n_7 hr) (xB aa3 rfl T.z_abs PyProof.Rows.boot_abs (xaC (c_6 (xdg 0 (n_7 hr)) (xdg 0 (n_7 hr))) xaN)))) (ys1 (yx (xdp 0 (n_7 hr) (xb t_3 (xdg 0 (n_7 hr)) a_4)))))) (ysC (yif (xt cGt (xdg 0 (n_7 hr)) a_4)
 (ysC (f_6 2 sc_law_next.nd (yb l_5 (ye (xdg 0 (n_7 hr))) (ye a_4))) (ysC (yx (xdp 0 (n_7 hr) (xb aN5 (xdg 0 (n_7 hr)) a_4))) (ys1 (f_7 (ye (xv 2))))))
 ysN) (ysC (yx (xdp 0 (n_7 hr) (xb t_3 (xdg 0 (n_7 hr)) a_4))) (ysC (f_6 1 sc_law_next.nd (yb t_3 (ye (xdg 0 (n_7 hr))) (ye (xF G_law_cell_at (hr.mono (by decide)) (xaC (xdg 0 (n_7 hr)) (xaC (xdg 0 (n_7 hr)) xaN)))))) (ysC (yx (xdp 0 (n_7 hr) (xF G_law_mixed (hr.mono (by decide)) (xaC (xv 1) (xaC (xdg 0 (n_7 hr)) xaN))))) (ys1 (f_7 (ye (xF G_law_mixed (hr.mono (by decide)) (xaC (xdg 0 (n_7 hr)) (xaC a_4 xaN))))))))))))),bF,F.kp,mF⟩
abbrev k_7:Stmt:=top 30
theorem sc_law_pool:FnScope ["_law_draws_here","_law_some","_law_word","_law_k","_law_at"] ["_law_draws_here"] (a_0 k_7):=⟨rfl,rfl,rfl,by decide +kernel,rfl,by decide +kernel,by decide +kernel⟩
theorem X_2 {f:Addr}{fd:FuncData} (F:Fun K "_law_pool" "_law_pool" k_7 f fd) (bF:Binds K fd ["_law_draws_here"] []) (mF:mg "_law_pool"=some (.ref f)) (T:Blt K mg) (G_law_next:DefB P w K mg base 2 "_law_next" a_1):DefB P w K mg base 3 "_law_pool" m_7 :=
 ⟨f,fd,["_law_draws_here"],t_4 F sc_law_pool rfl rfl (λ cdv A outer s H E hr =>
 (YSs.go (ysC (f_6 1 sc_law_pool.nd (ye i_4)) (ysC (f_6 2 sc_law_pool.nd (ye i_4)) (ysC (ak2 T.z_range (xgN 3 sc_law_pool.nd) (xb t_3 a_4 (xb l_5 (xFb 0 G_law_next (hr.mono (by decide)) xaN) a_4))
 (ys1 (f_6 2 sc_law_pool.nd (yb t_3 (ye (xv 2)) (yix (ye (xv 1)) (yb l_5 (ye (xFb 0 G_law_next (hr.mono (by decide)) xaN)) (ye a_4))))))) (ysC (yif (xt (cEq hr.units) (xb l_5 (xFb 0 G_law_next (hr.mono (by decide)) xaN) a_4) a_4)
 (ys1 (f_7 (ax1 (yaC (ye i_4) (yaC (ye i_4) (yaC (ye i_4) (yaC (ye i_4) (yaC (ye i_4) (yaC (ye i_4) (yaC (ye i_4) (yaC (ye i_4) (yaC (ye i_4) yaN))))))))))))
 ysN) (ysC (f_6 4 sc_law_pool.nd (yb l_5 (ye (xFb 0 G_law_next (hr.mono (by decide)) xaN)) (ye (xB D_5 rfl T.z_len PySem.boot_len (xaC (xv 2) xaN))))) (ys1 (f_7 (ye (xlc (sc:=a_0 k_7) rfl rfl (by show ScB ["_law_draws_here","_law_some","_law_word","_law_k","_law_at"] (a_0 k_7) _ "_law_sign" ["_law_word","_law_at"] [2,4];exact⟨rfl,rfl,by decide +kernel,by decide +kernel,rfl,by decide +kernel,by decide +kernel,rfl,by decide +kernel⟩) i_4 (λ _ _ _ _=>K_5) (λ _ _ _ _=>(xb t_3 (xb t_3 (bm4 (xv 1) xoN (xoS (xv 2))) (xv 0)) (bm4 (xv 1) (xoS (xb t_3 (xv 2) a_4)) xoN)))))))))))))),bF,F.kp,mF⟩
abbrev k_8:Stmt:=top 31
theorem sc_law_keys:FnScope ["_law_draws_here","_law_pool_here","_law_names"] ["_law_draws_here","_law_pool_here"] (a_0 k_8):=⟨rfl,rfl,rfl,by decide +kernel,rfl,by decide +kernel,by decide +kernel⟩
theorem X_5 {f:Addr}{fd:FuncData} (F:Fun K "_law_keys" "_law_keys" k_8 f fd) (bF:Binds K fd ["_law_draws_here","_law_pool_here"] []) (mF:mg "_law_keys"=some (.ref f)) (T:Blt K mg) (G_law_next:DefB P w K mg base 2 "_law_next" a_1):DefB P w K mg base 3 "_law_keys" j_6 :=
 ⟨f,fd,["_law_draws_here","_law_pool_here"],t_4 F sc_law_keys rfl rfl (λ cdv A outer s H E hr =>
 (YSs.go (ysC (yx (ak5 2 sc_law_keys.nd 0 0 (sc:=a_0 k_8) rfl rfl (by show ScB ["_law_draws_here","_law_pool_here","_law_names"] (a_0 k_8) _ "_law_name" ["_law_draws_here"] [0];exact⟨rfl,rfl,by decide +kernel,by decide +kernel,rfl,by decide +kernel,by decide +kernel,rfl,by decide +kernel⟩) (xv 1) (λ _ _ _ _=>(w_2 (xt (cEq hr.units) (xb l_5 (xFb 1 G_law_next (hr.mono (by decide)) xaN) a_4) a_4))) (λ _ _ _ _=>(xv 0)))) (ysC (yif (xw (aj5 (xt (cEq hr.units) (xv 2) (bj7 xaN)) (D_6 (xt (cEq hr.units) (xb l_5 (xFb 0 G_law_next (hr.mono (by decide)) xaN) a_4) a_4))))
 (ys1 (f_7 (w_1 (yaC (ye i_4) (yaC (ye (xTy h_6 rfl T.z_tuple PyProof.Rows.boot_tuple (xaC (K_6 T.z_set T.z_sorted (xv 2)) xaN))) yaN)))))
 ysN) (ys1 (f_7 (w_1 (yaC (ye i_4) (yaC (ye (xTy h_6 rfl T.z_tuple PyProof.Rows.boot_tuple (xaC (K_6 T.z_set T.z_sorted (xv 2)) xaN))) yaN))))))))),bF,F.kp,mF⟩
abbrev u_9:Stmt:=top 32
theorem al4:FnScope ["_law_keys_here","_law_key"] ["_law_keys_here","_law_key"] (a_0 u_9):=⟨rfl,rfl,rfl,by decide +kernel,rfl,by decide +kernel,by decide +kernel⟩
theorem an0 {f:Addr}{fd:FuncData} (F:Fun K "_law_in" "_law_in" u_9 f fd) (bF:Binds K fd ["_law_keys_here","_law_key"] []) (mF:mg "_law_in"=some (.ref f)) (T:Blt K mg) :DefOk P w K mg base 1 "_law_in" v_1 :=
 ⟨f,fd,["_law_keys_here","_law_key"],l_2 F al4 rfl rfl (λ cdv A outer s H E hr =>
 (YSs.go (ysC (yif (xt (cEq hr.units) (c_6 (xv 0) a_4) i_4)
 (ys1 (f_7 (ye (V_7 bm0 (xv 1) (c_6 (xv 0) a_4)))))
 ysN) (ys1 (f_7 (ye (V_7 aa4 (xv 1) (c_6 (xv 0) a_4)))))))),bF,F.kp,mF⟩
abbrev m_1:Stmt:=top 34
theorem sc_law_great:FnScope ["_law_draws_here","_law_form","_law_number"] ["_law_draws_here"] (a_0 m_1):=⟨rfl,rfl,rfl,by decide +kernel,rfl,by decide +kernel,by decide +kernel⟩
theorem R_8 {f:Addr}{fd:FuncData} (F:Fun K "_law_great" "_law_great" m_1 f fd) (bF:Binds K fd ["_law_draws_here"] []) (mF:mg "_law_great"=some (.ref f)) (T:Blt K mg) (G_law_next:DefB P w K mg base 2 "_law_next" a_1):DefB P w K mg base 3 "_law_great" h_4 :=
 ⟨f,fd,["_law_draws_here"],t_4 F sc_law_great rfl rfl (λ cdv A outer s H E hr =>
 (YSs.go (ysC (f_6 1 sc_law_great.nd (yb l_5 (ye (xFb 0 G_law_next (hr.mono (by decide)) xaN)) (ye a_4))) (ysC (f_6 2 sc_law_great.nd (yb S_4 (yb l_5 (ye (xFb 0 G_law_next (hr.mono (by decide)) xaN)) (ye a_4)) (ye a_4))) (ysC (yif (xt (cEq hr.units) (xv 1) a_4)
 (ys1 (f_6 2 sc_law_great.nd (yb t_3 (yb ac2 (ye (xFb 0 G_law_next (hr.mono (by decide)) xaN)) (yb bk8 (ye a_4) (ye a_4))) (ye (xFb 0 G_law_next (hr.mono (by decide)) xaN)))))
 ysN) (ysC (yif (xt (cEq hr.units) (xv 1) a_4)
 (ys1 (f_6 2 sc_law_great.nd (yb S_4 (yb S_4 (ye a_4) (yb ac2 (ye (xFb 0 G_law_next (hr.mono (by decide)) xaN)) (yb bk8 (ye a_4) (ye a_4)))) (ye (xFb 0 G_law_next (hr.mono (by decide)) xaN)))))
 ysN) (ys1 (f_7 (ye (xv 2)))))))))),bF,F.kp,mF⟩
abbrev j_4:Stmt:=top 35
theorem sc_law_stretch:FnScope ["_law_draws_here","_law_low","_law_high","_law_one","_law_form","_law_step"] ["_law_draws_here"] (a_0 j_4):=⟨rfl,rfl,rfl,by decide +kernel,rfl,by decide +kernel,by decide +kernel⟩
theorem H_6 {f:Addr}{fd:FuncData} (F:Fun K "_law_stretch" "_law_stretch" j_4 f fd) (bF:Binds K fd ["_law_draws_here"] []) (mF:mg "_law_stretch"=some (.ref f)) (T:Blt K mg) (G_law_great:DefB P w K mg base 3 "_law_great" h_4) (G_law_next:DefB P w K mg base 2 "_law_next" a_1) (G_stretch_made:DefOk P w K mg base 1 "stretch_made" a_3):DefB P w K mg base 4 "_law_stretch" e_3 :=
 ⟨f,fd,["_law_draws_here"],t_4 F sc_law_stretch rfl rfl (λ cdv A outer s H E hr =>
 (YSs.go (ysC (f_6 1 sc_law_stretch.nd (ye j_9)) (ysC (f_6 2 sc_law_stretch.nd (ye j_9)) (ysC (f_6 3 sc_law_stretch.nd (ye (xFb 0 G_law_great (hr.mono (by decide)) xaN))) (ysC (f_6 4 sc_law_stretch.nd (yb l_5 (ye (xFb 0 G_law_next (hr.mono (by decide)) xaN)) (ye a_4))) (ysC (yif (xt (cNe hr.units) (xv 4) a_4)
 (ys1 (f_6 1 sc_law_stretch.nd (ye (xv 3))))
 ysN) (ysC (yif (xt (cNe hr.units) (xv 4) a_4)
 (ysC (f_6 2 sc_law_stretch.nd (yb t_3 (ye (xv 3)) (yb l_5 (ye (xFb 0 G_law_next (hr.mono (by decide)) xaN)) (ye a_4)))) (ys1 (yif (xt (cEq hr.units) (xv 4) a_4)
 (ys1 (f_6 2 sc_law_stretch.nd (yb t_3 (ye (xv 3)) (ye (xB aa3 rfl T.z_abs PyProof.Rows.boot_abs (xaC (xFb 0 G_law_great (hr.mono (by decide)) xaN) xaN))))))
 ysN)))
 ysN) (ysC (f_6 5 sc_law_stretch.nd (yix (ax1 (yaC (ye a_4) (yaC (ye a_4) (yaC (ye a_4) (yaC (ye a_4) (yaC (ye a_4) (yaC (ye a_4) yaN))))))) (yb l_5 (ye (xFb 0 G_law_next (hr.mono (by decide)) xaN)) (ye a_4)))) (ys1 (f_7 (ye (xF G_stretch_made (hr.mono (by decide)) (xaC (xv 1) (xaC (xv 2) (xaC (xv 5) (xaC (xb l_5 (xFb 0 G_law_next (hr.mono (by decide)) xaN) (xv 5)) xaN))))))))))))))))),bF,F.kp,mF⟩
abbrev o_3:Stmt:=top 36
theorem W_3:FnScope ["_law_draws_here"] ["_law_draws_here"] (a_0 o_3):=⟨rfl,rfl,rfl,by decide +kernel,rfl,by decide +kernel,by decide +kernel⟩
theorem X_1 {f:Addr}{fd:FuncData} (F:Fun K "_law_time" "_law_time" o_3 f fd) (bF:Binds K fd ["_law_draws_here"] []) (mF:mg "_law_time"=some (.ref f)) (T:Blt K mg) (G_law_next:DefB P w K mg base 2 "_law_next" a_1):DefB P w K mg base 3 "_law_time" m_6 :=
 ⟨f,fd,["_law_draws_here"],t_4 F W_3 rfl rfl (λ cdv A outer s H E hr =>
 (YSs.go (ysC (yif (xt (cEq hr.units) (xb l_5 (xFb 0 G_law_next (hr.mono (by decide)) xaN) a_4) a_4)
 (ys1 (f_7 (yb t_3 (yb ac2 (ye (xFb 0 G_law_next (hr.mono (by decide)) xaN)) (yb bk8 (ye a_4) (ye a_4))) (ye (xFb 0 G_law_next (hr.mono (by decide)) xaN)))))
 ysN) (ys1 (f_7 (yb l_5 (ye (xFb 0 G_law_next (hr.mono (by decide)) xaN)) (ye a_4))))))),bF,F.kp,mF⟩
abbrev r_3:Stmt:=top 37
theorem sc_law_box:FnScope ["_law_draws_here","_law_pool_here","_law_keys_here","_law_begin","_law_end"] ["_law_draws_here","_law_pool_here"] (a_0 r_3):=⟨rfl,rfl,rfl,by decide +kernel,rfl,by decide +kernel,by decide +kernel⟩
theorem ah2 {f:Addr}{fd:FuncData} (F:Fun K "_law_box" "_law_box" r_3 f fd) (bF:Binds K fd ["_law_draws_here","_law_pool_here"] []) (mF:mg "_law_box"=some (.ref f)) (T:Blt K mg) (G_law_keys:DefB P w K mg base 3 "_law_keys" j_6) (G_law_next:DefB P w K mg base 2 "_law_next" a_1) (G_law_stretch:DefB P w K mg base 4 "_law_stretch" e_3) (G_law_time:DefB P w K mg base 3 "_law_time" m_6) (G_box_made:DefOk P w K mg base 1 "box_made" a_9):DefB P w K mg base 5 "_law_box" n_6 :=
 ⟨f,fd,["_law_draws_here","_law_pool_here"],t_4 F sc_law_box rfl rfl (λ cdv A outer s H E hr =>
 (YSs.go (ysC (f_6 2 sc_law_box.nd (ye (xFb 0 G_law_keys (hr.mono (by decide)) (xaC (xv 1) xaN)))) (ysC (f_6 3 sc_law_box.nd (ye (xFb 0 G_law_time (hr.mono (by decide)) xaN))) (ysC (f_6 4 sc_law_box.nd (yb t_3 (yb t_3 (ye (xv 3)) (ye a_4)) (yb l_5 (ye (xFb 0 G_law_next (hr.mono (by decide)) xaN)) (ye a_4)))) (ysC (yif (xt (cEq hr.units) (xb l_5 (xFb 0 G_law_next (hr.mono (by decide)) xaN) a_4) a_4)
 (ys1 (f_6 4 sc_law_box.nd (ye j_9)))
 ysN) (ys1 (f_7 (ye (xF G_box_made (hr.mono (by decide)) (xaC (xv 2) (xaC (xv 3) (xaC (xv 4) (xaC (xFb 0 G_law_stretch (hr.mono (by decide)) xaN) xaN)))))))))))))),bF,F.kp,mF⟩
abbrev i_0:Stmt:=top 38
theorem E_1:FnScope ["_law_stretch_here","_law_value"] ["_law_stretch_here","_law_value"] (a_0 i_0):=⟨rfl,rfl,rfl,by decide +kernel,rfl,by decide +kernel,by decide +kernel⟩
theorem E_7 {f:Addr}{fd:FuncData} (F:Fun K "_law_value_in" "_law_value_in" i_0 f fd) (bF:Binds K fd ["_law_stretch_here","_law_value"] []) (mF:mg "_law_value_in"=some (.ref f)) (T:Blt K mg) :DefOk P w K mg base 1 "_law_value_in" c_2 :=
 ⟨f,fd,["_law_stretch_here","_law_value"],l_2 F E_1 rfl rfl (λ cdv A outer s H E hr =>
 (YSs.go (ysC (yif (xw (aj5 (xw (q_3 (xt p_3 (c_6 (xv 0) a_4) j_9) (n_5 (xt cLt (xv 1) (c_6 (xv 0) a_4))))) (D_6 (xw (q_3 (xt p_3 (c_6 (xv 0) a_4) j_9) (n_5 (xt cGt (xv 1) (c_6 (xv 0) a_4))))))))
 (ys1 (f_7 (ye xbl)))
 ysN) (ys1 (f_7 (ye (V_7 (cEq hr.units) (xb l_5 (xv 1) (c_6 (xv 0) a_4)) (c_6 (xv 0) a_4)))))))),bF,F.kp,mF⟩
abbrev r_2:Stmt:=top 39
theorem ag7:FnScope ["_law_box_here","_law_thing"] ["_law_box_here","_law_thing"] (a_0 r_2):=⟨rfl,rfl,rfl,by decide +kernel,rfl,by decide +kernel,by decide +kernel⟩
theorem ah1 {f:Addr}{fd:FuncData} (F:Fun K "_law_has" "_law_has" r_2 f fd) (bF:Binds K fd ["_law_box_here","_law_thing"] []) (mF:mg "_law_has"=some (.ref f)) (T:Blt K mg) (G_law_in:DefOk P w K mg base 1 "_law_in" v_1) (G_law_value_in:DefOk P w K mg base 1 "_law_value_in" c_2):DefOk P w K mg base 2 "_law_has" f_3 :=
 ⟨f,fd,["_law_box_here","_law_thing"],l_2 F ag7 rfl rfl (λ cdv A outer s H E hr =>
 (YSs.go (ysC (yif (xw (aj5 (xt cIs (xv 0) j_9) (aj5 (xt cLt (c_6 (xv 1) a_4) (c_6 (xv 0) a_4)) (D_6 (xw (q_3 (xt p_3 (c_6 (xv 0) a_4) j_9) (n_5 (xt cGe (c_6 (xv 1) a_4) (c_6 (xv 0) a_4)))))))))
 (ys1 (f_7 (ye xbl)))
 ysN) (ys1 (f_7 (ye (aX1 (xF G_law_in (hr.mono (by decide)) (xaC (c_6 (xv 0) a_4) (xaC (c_6 (xv 1) a_4) xaN))) (aw7 (xF G_law_value_in (hr.mono (by decide)) (xaC (c_6 (xv 0) a_4) (xaC (c_6 (xv 1) a_4) xaN))))))))))),bF,F.kp,mF⟩
abbrev o_5:Stmt:=top 40
theorem sc_law_near:FnScope ["_law_draws_here","_law_box_here","_law_pool_here","_law_time_here","_law_value","_law_edge"] ["_law_draws_here","_law_box_here","_law_pool_here"] (a_0 o_5):=⟨rfl,rfl,rfl,by decide +kernel,rfl,by decide +kernel,by decide +kernel⟩
theorem X_4 {f:Addr}{fd:FuncData} (F:Fun K "_law_near" "_law_near" o_5 f fd) (bF:Binds K fd ["_law_draws_here","_law_box_here","_law_pool_here"] []) (mF:mg "_law_near"=some (.ref f)) (T:Blt K mg) (G_law_next:DefB P w K mg base 2 "_law_next" a_1):DefB P w K mg base 3 "_law_near" g_5 :=
 ⟨f,fd,["_law_draws_here","_law_box_here","_law_pool_here"],t_4 F sc_law_near rfl rfl (λ cdv A outer s H E hr =>
 (YSs.go (ysC (f_6 3 sc_law_near.nd (yb S_4 (yb t_3 (yix (ye (xv 1)) (ye a_4)) (yb l_5 (ye (xFb 0 G_law_next (hr.mono (by decide)) xaN)) (ye a_4))) (ye a_4))) (ysC (yif (xw (q_3 (xt (cEq hr.units) (xb l_5 (xFb 0 G_law_next (hr.mono (by decide)) xaN) a_4) a_4) (n_5 (xt p_3 (c_6 (xv 1) a_4) j_9))))
 (ys1 (f_6 3 sc_law_near.nd (yb S_4 (yb t_3 (yix (ye (xv 1)) (ye a_4)) (yb l_5 (ye (xFb 0 G_law_next (hr.mono (by decide)) xaN)) (ye a_4))) (ye a_4))))
 ysN) (ysC (f_6 4 sc_law_near.nd (ye a_4)) (ysC (f_6 5 sc_law_near.nd (yix (yix (ye (xv 1)) (ye a_4)) (yb l_5 (ye (xFb 0 G_law_next (hr.mono (by decide)) xaN)) (ye a_4)))) (ysC (yif (xt p_3 (xv 5) j_9)
 (ys1 (f_6 4 sc_law_near.nd (ye (xv 5))))
 ysN) (ysC (f_6 4 sc_law_near.nd (yb S_4 (yb t_3 (ye (xv 4)) (yb l_5 (ye (xFb 0 G_law_next (hr.mono (by decide)) xaN)) (ye a_4))) (ye a_4))) (ys1 (f_7 (w_1 (yaC (ye (xB (O_4 rfl) rfl T.z_max PyProof.Rows.boot_max (xaC (xv 3) (xaC a_4 xaN)))) (yaC (yix (yb t_3 (ye (xv 2)) (ax1 (yaC (ye i_4) yaN))) (yb l_5 (ye (xFb 0 G_law_next (hr.mono (by decide)) xaN)) (ye a_4))) (yaC (ye (xv 4)) yaN)))))))))))))),bF,F.kp,mF⟩
abbrev j_3:Stmt:=top 41
theorem sc_law_through:FnScope ["_law_row","_law_thing","_law_word","_law_rest","_law_time_here","_law_key","_law_value"] ["_law_row","_law_thing"] (a_0 j_3):=⟨rfl,rfl,rfl,by decide +kernel,rfl,by decide +kernel,by decide +kernel⟩
theorem H_5 {f:Addr}{fd:FuncData} (F:Fun K "_law_through" "_law_through" j_3 f fd) (bF:Binds K fd ["_law_row","_law_thing"] []) (mF:mg "_law_through"=some (.ref f)) (T:Blt K mg) :DefOk P w K mg base 1 "_law_through" a_5 :=
 ⟨f,fd,["_law_row","_law_thing"],l_2 F sc_law_through rfl rfl (λ cdv A outer s H E hr =>
 (YSs.go (ysC (f_6 2 sc_law_through.nd (yix (ye (xv 0)) (ye a_4))) (ysC (f_6 3 sc_law_through.nd (yix (ye (xv 0)) (ye a_4))) (ysC (yx (aI4 (xgT (bm6 (xgN 4 sc_law_through.nd) (bm6 (xgN 5 sc_law_through.nd) (bm6 (xgN 6 sc_law_through.nd) bH5)))) (xv 1))) (ysC (yif (xw (q_3 (xt (cEq hr.units) (xv 2) i_4) (n_5 (xw (aj5 (xt cLt (xv 4) (c_6 (xv 3) a_4)) (D_6 (xw (q_3 (xt p_3 (c_6 (xv 3) a_4) j_9) (n_5 (xt cGe (xv 4) (c_6 (xv 3) a_4)))))))))))
 (ys1 (f_7 (ye j_9)))
 ysN) (ysC (yif (xw (aj5 (xw (q_3 (xt (cEq hr.units) (xv 2) i_4) (n_5 (xt aa4 (xv 5) (xv 3))))) (D_6 (xw (q_3 (xt (cEq hr.units) (xv 2) i_4) (n_5 (xt bm0 (xv 5) (xv 3))))))))
 (ys1 (f_7 (ye j_9)))
 ysN) (ysC (yif (xw (q_3 (xt (cEq hr.units) (xv 2) i_4) (q_3 (xt p_3 (c_6 (xv 3) a_4) j_9) (n_5 (xt cLt (xv 6) (c_6 (xv 3) a_4))))))
 (ys1 (f_7 (ye j_9)))
 ysN) (ysC (yif (xw (q_3 (xt (cEq hr.units) (xv 2) i_4) (q_3 (xt p_3 (c_6 (xv 3) a_4) j_9) (n_5 (xt cGt (xv 6) (c_6 (xv 3) a_4))))))
 (ys1 (f_7 (ye j_9)))
 ysN) (ysC (yif (xw (q_3 (xt (cEq hr.units) (xv 2) i_4) (n_5 (xt (cNe hr.units) (xb l_5 (xv 6) (c_6 (xv 3) a_4)) (c_6 (xv 3) a_4)))))
 (ys1 (f_7 (ye j_9)))
 ysN) (ysC (yif (xt (cEq hr.units) (xv 2) i_4)
 (ys1 (f_7 (w_1 (yaC (ye (xv 4)) (yaC (ye (xv 5)) (yaC (yb t_3 (yb ac2 (yix (ye (xv 3)) (ye a_4)) (ye (xv 6))) (yix (ye (xv 3)) (ye a_4))) yaN))))))
 ysN) (ysC (yif (xt (cEq hr.units) (xv 2) i_4)
 (ys1 (f_7 (w_1 (yaC (yb t_3 (ye (xv 4)) (yix (ye (xv 3)) (ye a_4))) (yaC (ye (xv 5)) (yaC (ye (xv 6)) yaN))))))
 ysN) (ysC (yif (xt (cEq hr.units) (xv 2) i_4)
 (ys1 (f_7 (w_1 (yaC (ye (xv 4)) (yaC (ye (bm8 T.z_dict (n_7 hr) (xv 3) (xv 5) (xv 5))) (yaC (ye (xv 6)) yaN))))))
 ysN) (ys1 (f_7 (ye (xv 1))))))))))))))))),bF,F.kp,mF⟩
abbrev g_8:Stmt:=top 42
theorem sc_law_unlike:FnScope ["_law_draws_here","_law_names","_law_many","_law_found","_law_k","_law_left"] ["_law_draws_here","_law_names","_law_many"] (a_0 g_8):=⟨rfl,rfl,rfl,by decide +kernel,rfl,by decide +kernel,by decide +kernel⟩
theorem M_3 {f:Addr}{fd:FuncData} (F:Fun K "_law_unlike" "_law_unlike" g_8 f fd) (bF:Binds K fd ["_law_draws_here","_law_names","_law_many"] []) (mF:mg "_law_unlike"=some (.ref f)) (T:Blt K mg) (G_law_next:DefB P w K mg base 2 "_law_next" a_1):DefB P w K mg base 3 "_law_unlike" i_8 :=
 ⟨f,fd,["_law_draws_here","_law_names","_law_many"],t_4 F sc_law_unlike rfl rfl (λ cdv A outer s H E hr =>
 (YSs.go (ysC (yx (bH2 3 sc_law_unlike.nd (bm5 xaN))) (ysC (ak2 T.z_range (xgN 4 sc_law_unlike.nd) (xv 2)
 (ysC (yx (ak5 5 sc_law_unlike.nd 3 0 (sc:=a_0 g_8) rfl rfl (by show ScB ["_law_draws_here","_law_names","_law_many","_law_found","_law_k","_law_left"] (a_0 g_8) _ "_law_name" ["_law_found"] [3];exact⟨rfl,rfl,by decide +kernel,by decide +kernel,rfl,by decide +kernel,by decide +kernel,rfl,by decide +kernel⟩) (xv 1) (λ _ _ _ _=>(w_2 (aW6 1 (xv 0)))) (λ _ _ _ _=>(xv 0)))) (ys1 (yx (bH7 3 (xaC (c_6 (xv 5) (xb l_5 (xFb 0 G_law_next (hr.mono (by decide)) xaN) (xB D_5 rfl T.z_len PySem.boot_len (xaC (xv 5) xaN)))) xaN)))))) (ys1 (yx (bH6 3 (bz1 (xv 3))))))))),bF,F.kp,mF⟩
abbrev k_9:Stmt:=top 43
theorem sc_law_bounds:FnScope ["_law_draws_here","_law_low","_law_high"] ["_law_draws_here"] (a_0 k_9):=⟨rfl,rfl,rfl,by decide +kernel,rfl,by decide +kernel,by decide +kernel⟩
theorem M_4 {f:Addr}{fd:FuncData} (F:Fun K "_law_bounds" "_law_bounds" k_9 f fd) (bF:Binds K fd ["_law_draws_here"] []) (mF:mg "_law_bounds"=some (.ref f)) (T:Blt K mg) (G_law_next:DefB P w K mg base 2 "_law_next" a_1):DefB P w K mg base 3 "_law_bounds" c_8 :=
 ⟨f,fd,["_law_draws_here"],t_4 F sc_law_bounds rfl rfl (λ cdv A outer s H E hr =>
 (YSs.go (ysC (f_6 1 sc_law_bounds.nd (yb S_4 (yb l_5 (ye (xFb 0 G_law_next (hr.mono (by decide)) xaN)) (ye a_4)) (ye a_4))) (ysC (yif (xt (cEq hr.units) (xb l_5 (xFb 0 G_law_next (hr.mono (by decide)) xaN) a_4) a_4)
 (ys1 (f_6 1 sc_law_bounds.nd (yb ac2 (ye (xv 1)) (yb bk8 (ye a_4) (ye a_4)))))
 ysN) (ysC (f_6 2 sc_law_bounds.nd (yb t_3 (ye (xv 1)) (yb l_5 (ye (xFb 0 G_law_next (hr.mono (by decide)) xaN)) (ye a_4)))) (ysC (yif (xt (cEq hr.units) (xb l_5 (xFb 0 G_law_next (hr.mono (by decide)) xaN) a_4) a_4)
 (ys1 (f_6 2 sc_law_bounds.nd (ye j_9)))
 ysN) (ysC (yif (xt (cEq hr.units) (xb l_5 (xFb 0 G_law_next (hr.mono (by decide)) xaN) a_4) a_4)
 (ys1 (f_6 1 sc_law_bounds.nd (ye j_9)))
 ysN) (ys1 (f_7 (w_1 (yaC (ye (xv 1)) (yaC (ye (xv 2)) yaN)))))))))))),bF,F.kp,mF⟩
abbrev i_5:Stmt:=top 44
theorem sc_law_sieve:FnScope ["_law_draws_here","_law_word","_law_name","_law_froms","_law_pool_here","_law_keys_here","_law_begin","_law_end","_law_step","_law_times"] ["_law_draws_here","_law_word","_law_name","_law_froms","_law_pool_here"] (a_0 i_5):=⟨rfl,rfl,rfl,by decide +kernel,rfl,by decide +kernel,by decide +kernel⟩
theorem R_6 {f:Addr}{fd:FuncData} (F:Fun K "_law_sieve" "_law_sieve" i_5 f fd) (bF:Binds K fd ["_law_draws_here","_law_word","_law_name","_law_froms","_law_pool_here"] []) (mF:mg "_law_sieve"=some (.ref f)) (T:Blt K mg) (G_law_bounds:DefB P w K mg base 3 "_law_bounds" c_8) (G_law_next:DefB P w K mg base 2 "_law_next" a_1) (G_law_unlike:DefB P w K mg base 3 "_law_unlike" i_8):DefB P w K mg base 4 "_law_sieve" c_3 :=
 ⟨f,fd,["_law_draws_here","_law_word","_law_name","_law_froms","_law_pool_here"],t_4 F sc_law_sieve rfl rfl (λ cdv A outer s H E hr =>
 (YSs.go (ysC (yif (xt (cEq hr.units) (xv 1) i_4)
 (ysC (f_6 6 sc_law_sieve.nd (yb l_5 (ye (xFb 0 G_law_next (hr.mono (by decide)) xaN)) (ye a_4))) (ysC (f_6 7 sc_law_sieve.nd (yb t_3 (yb t_3 (ye (xv 6)) (ye a_4)) (yb l_5 (ye (xFb 0 G_law_next (hr.mono (by decide)) xaN)) (ye a_4)))) (ysC (yif (xt (cEq hr.units) (xb l_5 (xFb 0 G_law_next (hr.mono (by decide)) xaN) a_4) a_4)
 (ys1 (f_6 7 sc_law_sieve.nd (ye j_9)))
 ysN) (ys1 (f_7 (w_1 (yaC (ye i_4) (yaC (ye (xv 2)) (yaC (ye (xv 3)) (yaC (w_1 (yaC (ye (xv 6)) (yaC (ye (xv 7)) yaN))) yaN))))))))))
 ysN) (ysC (yif (xw (aj5 (xt (cEq hr.units) (xv 1) i_4) (D_6 (xt (cEq hr.units) (xv 1) i_4))))
 (ys1 (f_7 (w_1 (yaC (ye (xv 1)) (yaC (ye (xv 2)) (yaC (ye (xv 3)) (yaC (ye (xTy h_6 rfl T.z_tuple PyProof.Rows.boot_tuple (xaC (xFb 0 G_law_unlike (hr.mono (by decide)) (xaC (xv 4) (xaC (xb t_3 a_4 (xb l_5 (xFb 0 G_law_next (hr.mono (by decide)) xaN) a_4)) xaN))) xaN))) yaN)))))))
 ysN) (ysC (yif (xt (cEq hr.units) (xv 1) i_4)
 (ys1 (f_7 (w_1 (yaC (ye i_4) (yaC (ye (xv 2)) (yaC (ye (xv 3)) (yaC (ye (xFb 0 G_law_bounds (hr.mono (by decide)) xaN)) yaN)))))))
 ysN) (ysC (yif (xt (cEq hr.units) (xv 1) i_4)
 (ysC (f_6 8 sc_law_sieve.nd (yb t_3 (ye a_4) (yb l_5 (ye (xFb 0 G_law_next (hr.mono (by decide)) xaN)) (yix (ax1 (yaC (ye a_4) (yaC (ye a_4) (yaC (ye a_4) yaN)))) (yb l_5 (ye (xFb 0 G_law_next (hr.mono (by decide)) xaN)) (ye a_4)))))) (ys1 (f_7 (w_1 (yaC (ye i_4) (yaC (ye (xv 2)) (yaC (ye (xv 3)) (yaC (w_1 (yaC (ye (xv 8)) (yaC (yb l_5 (ye (xFb 0 G_law_next (hr.mono (by decide)) xaN)) (ye (xv 8))) yaN))) yaN))))))))
 ysN) (ysC (yif (xt (cEq hr.units) (xv 1) i_4)
 (ysC (f_6 9 sc_law_sieve.nd (yb t_3 (ye a_4) (yb l_5 (ye (xFb 0 G_law_next (hr.mono (by decide)) xaN)) (yix (ax1 (yaC (ye a_4) (yaC (ye a_4) (yaC (ye a_4) yaN)))) (yb l_5 (ye (xFb 0 G_law_next (hr.mono (by decide)) xaN)) (ye a_4)))))) (ysC (yif (xt (cEq hr.units) (xb l_5 (xFb 0 G_law_next (hr.mono (by decide)) xaN) a_4) a_4)
 (ys1 (f_6 9 sc_law_sieve.nd (yb S_4 (ye a_4) (ye (xv 9)))))
 ysN) (ys1 (f_7 (w_1 (yaC (ye i_4) (yaC (ye (xv 2)) (yaC (ye (xv 3)) (yaC (w_1 (yaC (ye (xv 9)) (yaC (yb S_4 (yb l_5 (ye (xFb 0 G_law_next (hr.mono (by decide)) xaN)) (ye a_4)) (ye a_4)) yaN))) yaN)))))))))
 ysN) (ysC (yif (xt (cEq hr.units) (xv 1) i_4)
 (ys1 (f_7 (w_1 (yaC (ye i_4) (yaC (ye (xv 2)) (yaC (ye (xv 3)) (yaC (w_1 (yaC (yb l_5 (ye (xFb 0 G_law_next (hr.mono (by decide)) xaN)) (yix (ax1 (yaC (ye a_4) (yaC (ye a_4) (yaC (ye a_4) yaN)))) (yb l_5 (ye (xFb 0 G_law_next (hr.mono (by decide)) xaN)) (ye a_4)))) yaN)) yaN)))))))
 ysN) (ysC (f_6 5 sc_law_sieve.nd (ye (xFb 0 G_law_unlike (hr.mono (by decide)) (xaC (xv 4) (xaC (xb t_3 a_4 (xb l_5 (xFb 0 G_law_next (hr.mono (by decide)) xaN) a_4)) xaN))))) (ys1 (f_7 (w_1 (yaC (ye i_4) (yaC (ye (xv 2)) (yaC (ye (xv 3)) (yaC (ye (xTy h_6 rfl T.z_tuple PyProof.Rows.boot_tuple (xaC (bH4 0 1 (sc:=a_0 i_5) rfl rfl (by show ScB ["_law_draws_here","_law_word","_law_name","_law_froms","_law_pool_here","_law_keys_here","_law_begin","_law_end","_law_step","_law_times"] (a_0 i_5) _ "_law_key" ["_law_pool_here","_law_draws_here"] [4,0];exact⟨rfl,rfl,by decide +kernel,by decide +kernel,rfl,by decide +kernel,by decide +kernel,rfl,by decide +kernel⟩) (xv 5) (λ _ _ _ _=>K_5) (λ _ _ _ _=>(aU5 (xaC (xv 0) (xaC (c_6 (xv 1) (xb l_5 (xFb 2 G_law_next (hr.mono (by decide)) xaN) a_4)) xaN))))) xaN))) yaN)))))))))))))))),bF,F.kp,mF⟩
abbrev m_3:Stmt:=top 45
theorem Q_4:FnScope ["_law_thing"] ["_law_thing"] (a_0 m_3):=⟨rfl,rfl,rfl,by decide +kernel,rfl,by decide +kernel,by decide +kernel⟩
theorem S_0 {f:Addr}{fd:FuncData} (F:Fun K "_law_alone" "_law_alone" m_3 f fd) (bF:Binds K fd ["_law_thing"] []) (mF:mg "_law_alone"=some (.ref f)) (T:Blt K mg) (G_stretch_made:DefOk P w K mg base 1 "stretch_made" a_3):DefOk P w K mg base 2 "_law_alone" m_9 :=
 ⟨f,fd,["_law_thing"],l_2 F Q_4 rfl rfl (λ cdv A outer s H E hr =>
 (YSs.go (ys1 (f_7 (w_1 (yaC (w_1 (yaC (ye i_4) (yaC (w_1 (yaC (yix (ye (xv 0)) (ye a_4)) yaN)) yaN))) (yaC (yix (ye (xv 0)) (ye a_4)) (yaC (yb t_3 (yix (ye (xv 0)) (ye a_4)) (ye a_4)) (yaC (ye (xF G_stretch_made (hr.mono (by decide)) (xaC (c_6 (xv 0) a_4) (xaC (c_6 (xv 0) a_4) (xaC a_4 (xaC a_4 xaN)))))) yaN))))))))),bF,F.kp,mF⟩
abbrev g_3:Stmt:=top 46
theorem sc_law_row_right:FnScope ["_law_draws_here","_law_row","_law_box_here","_law_pool_here","_law_back","_law_forth","_law_k","_law_about","_law_thing","_law_made","_law_source"] ["_law_draws_here","_law_row","_law_box_here","_law_pool_here"] (a_0 g_3):=⟨rfl,rfl,rfl,by decide +kernel,rfl,by decide +kernel,by decide +kernel⟩
theorem C_2 {f:Addr}{fd:FuncData} (F:Fun K "_law_row_right" "_law_row_right" g_3 f fd) (bF:Binds K fd ["_law_draws_here","_law_row","_law_box_here","_law_pool_here"] []) (mF:mg "_law_row_right"=some (.ref f)) (T:Blt K mg) (G_law_alone:DefOk P w K mg base 2 "_law_alone" m_9) (G_law_has:DefOk P w K mg base 2 "_law_has" f_3) (G_law_near:DefB P w K mg base 3 "_law_near" g_5) (G_law_through:DefOk P w K mg base 1 "_law_through" a_5) (G_box_meet:DefOk P w K mg base 5 "box_meet" g_6) (G_row_back:DefOk P w K mg base 6 "row_back" e_0) (G_row_forth:DefOk P w K mg base 6 "row_forth" h_1):DefB P w K mg base 7 "_law_row_right" g_4 :=
 ⟨f,fd,["_law_draws_here","_law_row","_law_box_here","_law_pool_here"],t_4 F sc_law_row_right rfl rfl (λ cdv A outer s H E hr =>
 (YSs.go (ysC (f_6 4 sc_law_row_right.nd (ye (xF G_row_back (hr.mono (by decide)) (xaC (xv 1) (xaC (xv 2) xaN))))) (ysC (f_6 5 sc_law_row_right.nd (ye (xF G_row_forth (hr.mono (by decide)) (xaC (xv 1) (xaC (xv 2) xaN))))) (ysC (ak2 T.z_range (xgN 6 sc_law_row_right.nd) a_4
 (ysC (f_6 7 sc_law_row_right.nd (yix (ax1 (yaC (ye (xv 2)) (yaC (ye (bz2 (xv 4) (aw7 (xv 2)))) (yaC (ye (bz2 (xv 5) (aw7 (xv 2)))) yaN)))) (yb l_5 (ye (xv 6)) (ye a_4)))) (ysC (f_6 8 sc_law_row_right.nd (ye (xFb 0 G_law_near (hr.mono (by decide)) (xaC (xv 7) (xaC (xv 3) xaN))))) (ysC (f_6 9 sc_law_row_right.nd (ye (xF G_law_through (hr.mono (by decide)) (xaC (xv 1) (xaC (xv 8) xaN))))) (ysC (yif (xt (cNe hr.units) (xF G_law_has (hr.mono (by decide)) (xaC (xv 4) (xaC (xv 8) xaN))) (aX1 (V_7 p_3 (xv 9) j_9) (aw7 (xF G_law_has (hr.mono (by decide)) (xaC (xv 2) (xaC (xv 9) xaN))))))
 (ys1 (f_7 (ye xbl)))
 ysN) (ysC (yif (xw (q_3 (xtv (xF G_law_has (hr.mono (by decide)) (xaC (xv 2) (xaC (xv 8) xaN))) (λ _=>rfl)) (q_3 (xt p_3 (xv 9) j_9) (n_5 (aI5 (xtv (xF G_law_has (hr.mono (by decide)) (xaC (xv 5) (xaC (xv 9) xaN))) (λ _=>rfl)))))))
 (ys1 (f_7 (ye xbl)))
 ysN) (ysC (f_6 10 sc_law_row_right.nd (ye (xF G_row_back (hr.mono (by decide)) (xaC (xv 1) (xaC (xF G_law_alone (hr.mono (by decide)) (xaC (xv 8) xaN)) xaN))))) (ys1 (yif (xt (cNe hr.units) (xF G_law_has (hr.mono (by decide)) (xaC (xv 5) (xaC (xv 8) xaN))) (aX1 (V_7 p_3 (xv 10) j_9) (aw7 (V_7 p_3 (xF G_box_meet (hr.mono (by decide)) (xaC (xv 10) (xaC (xv 2) xaN))) j_9))))
 (ys1 (f_7 (ye xbl)))
 ysN))))))))) (ys1 (f_7 (ye xbl)))))))),bF,F.kp,mF⟩
abbrev L_6:Stmt:=top 47
theorem sc_law:FnScope ["_law_script","_law_draws_here","_law_pool_here","_law_word","_law_row","_law_box_here"] ["_law_script"] (a_0 L_6):=⟨rfl,rfl,rfl,by decide +kernel,rfl,by decide +kernel,by decide +kernel⟩
theorem bf9 {f:Addr}{fd:FuncData} (F:Fun K "law" "law" L_6 f fd) (T:Blt K mg) (G_law_box:DefB P w K mg base 5 "_law_box" n_6) (G_law_draws:DefN P w K mg base 2 "_law_draws" m_8) (G_law_next:DefB P w K mg base 2 "_law_next" a_1) (G_law_pool:DefB P w K mg base 3 "_law_pool" m_7) (G_law_row_right:DefB P w K mg base 7 "_law_row_right" g_4) (G_law_sieve:DefB P w K mg base 4 "_law_sieve" c_3):FnOk P w K mg base CX0 8 f fd ["_law_script"] (spP K Y_4) :=
 l_2 F sc_law rfl rfl (λ cdv A outer s H E hr =>
 (YSs.go (ysC (yx (bH3 1 sc_law.nd G_law_draws (hr.mono (by decide)) (xaC (xv 0) xaN))) (ysC (f_6 2 sc_law.nd (ye (xFb 1 G_law_pool (hr.mono (by decide)) xaN))) (ysC (f_6 3 sc_law.nd (yix (ax1 (yaC (ye i_4) (yaC (ye i_4) (yaC (ye i_4) (yaC (ye i_4) (yaC (ye i_4) (yaC (ye i_4) (yaC (ye i_4) (yaC (ye i_4) yaN))))))))) (yb l_5 (ye (xFb 1 G_law_next (hr.mono (by decide)) xaN)) (ye a_4)))) (ysC (f_6 4 sc_law.nd (ye (xFb 1 G_law_sieve (hr.mono (by decide)) (xaC (xv 3) (xaC i_4 (xaC (aU5 (xaC i_4 xaN)) (xaC (xv 2) xaN))))))) (ysC (f_6 5 sc_law.nd (ye (xFb 1 G_law_box (hr.mono (by decide)) (xaC (xv 2) xaN)))) (ys1 (f_7 (ye (xor (V_7 cIs (xv 5) j_9) (aw7 (xFb 1 G_law_row_right (hr.mono (by decide)) (xaC (xv 4) (xaC (xv 5) (xaC (xv 2) xaN))))))))))))))))
end
end Fx
namespace Fx
open PySem
def bD1 (o:Option Res):Option (D×MO):=bnd o λ r=>bq9 r
def aZ6 (d:D) (o:Option (Bool×MO)):Option (D×MO):=bnd o λ q=>if q.1=true then some (d,q.2) else none
@[simp] theorem bQ5 (n k:Nat) (B:FS) (o:MO) (ds:List D):fnB n k B o ds=if ds.length=n then bD1 (B (.ow true o::(ds.map .im++List.replicate k .no))) else none:=Eq.trans rfl rfl
@[simp] theorem bD0 (d:D) (ρ:En):bD1 (some (.rt d ρ))=aZ6 d (owO ρ[0]?):=Eq.trans rfl rfl
@[simp] theorem bq8 (d:D) (o:MO):aZ6 d (some (true,o))=some (d,o):=Eq.trans rfl rfl
@[simp] theorem bQ3 (n k:Nat) (F:En->Option MO) (ds:List D):fnN n k F ds=if ds.length=n then F (ds.map .im++List.replicate k .no) else none:=Eq.trans rfl rfl
def bd1 (F:En->Option MO) (o:Option Res):Option MO:=bnd o λ r=>match r with
 |.nx ρ'=>F ρ'
 |_=>none
@[simp] theorem bL1 (A:FS) (F:En->Option MO) (ρ:En):bl0 A F ρ=bd1 F (A ρ):=Eq.trans rfl rfl
@[simp] theorem bt0 (F:En->Option MO) (ρ:En):bd1 F (some (.nx ρ))=F ρ:=Eq.trans rfl rfl
def bd2 (ks:List Str) (o:Option (List D×En)):Option MO:=bnd o λ p=>if p.1.length=ks.length/\ks.length<=15/\ks.Nodup then some (.dic (ks.zip p.1)) else none
@[simp] theorem bL2 (ks:List Str) (A:FA) (ρ:En):bl1 ks A ρ=if ρ.all ao2=true then bd2 ks (A ρ) else none:=Eq.trans rfl rfl
@[simp] theorem bt1 (ks:List Str) (ds:List D) (ρ:En):bd2 ks (some (ds,ρ))=if ds.length=ks.length/\ks.length<=15/\ks.Nodup then some (.dic (ks.zip ds)) else none:=Eq.trans rfl rfl
def bt4 (js:List Nat) (i q:Nat) (ρ:En) (b:Bool) (xs:List D) (o:Option (List D×MO)):Option (D×En):=bnd o λ t=>if xs.length<=sizeLine/\js[q]?=some i/\js.Nodup then some (.lst t.1,ρ.set i (.ow b t.2)) else none
def bC1 (js:List Nat) (i q:Nat) (T:FT) (F:FE) (xs:List D) (ρ:En) (o:Option (Bool×MO)):Option (D×En):=bnd o λ w=>bt4 js i q ρ w.1 xs (aa5 T F ρ i js q w.2 xs)
@[simp] theorem bQ1 (js:List Nat) (i q:Nat) (T:FT) (F:FE) (xs:List D) (ρ:En):lcB js i q T F xs ρ=bC1 js i q T F xs ρ (owO ρ[i]?):=Eq.trans rfl rfl
@[simp] theorem bC0 (js:List Nat) (i q:Nat) (T:FT) (F:FE) (xs:List D) (ρ:En) (b:Bool) (o:MO):bC1 js i q T F xs ρ (some (b,o))=bt4 js i q ρ b xs (aa5 T F ρ i js q o xs):=Eq.trans rfl rfl
@[simp] theorem bB9 (js:List Nat) (i q:Nat) (ρ:En) (b:Bool) (xs ys:List D) (o:MO):bt4 js i q ρ b xs (some (ys,o))=if xs.length<=sizeLine/\js[q]?=some i/\js.Nodup then some (.lst ys,ρ.set i (.ow b o)) else none:=Eq.trans rfl rfl
def aS0 (js:List Nat) (i q:Nat) (T:FT) (F:FE) (ρ:En) (o:Option (List D)):Option (D×En):=bnd o λ xs=>lcB js i q T F xs ρ
def bh9 (js:List Nat) (i q:Nat) (T:FT) (F:FE) (o:Option (D×En)):Option (D×En):=bnd o λ p=>aS0 js i q T F p.2 (items p.1)
@[simp] theorem bM9 (js:List Nat) (i q:Nat) (I:FE) (T:FT) (F:FE) (ρ:En):aH7 js i q I T F ρ=bh9 js i q T F (I ρ):=Eq.trans rfl rfl
@[simp] theorem bw6 (js:List Nat) (i q:Nat) (T:FT) (F:FE) (x:D) (ρ:En):bh9 js i q T F (some (x,ρ))=aS0 js i q T F ρ (items x):=Eq.trans rfl rfl
@[simp] theorem bw5 (js:List Nat) (i q:Nat) (T:FT) (F:FE) (ρ:En) (xs:List D):aS0 js i q T F ρ (some xs)=lcB js i q T F xs ρ:=Eq.trans rfl rfl
theorem as7 {g:D->En->Option En}{B:FS} (P:En->Prop):∀ (n:Nat) (lo:Int) (ρ:En),(∀ (i:Nat) ρ,i<n->P ρ->∃ ρ1 ρ2,g (.int (lo+i)) ρ=some ρ1/\B ρ1=some (.nx ρ2)/\P ρ2)->P ρ->∃ ρ',fGo g B (P_1 lo n) ρ=some (.nx ρ')/\P ρ'
 |0,lo,ρ,_,p=>⟨ρ,rfl,p⟩
 |n+1,lo,ρ,h,p=>by
  obtain⟨ρ1,ρ2,h1,h2,p2⟩:=h 0 ρ (by omega) p
  have h1':g (.int lo) ρ=some ρ1:=by simpa using h1
  obtain⟨ρ',e,p'⟩:=as7 P n (lo+1) ρ2 (λ i ρ hi q=>by
   obtain⟨a,b,c,d,e⟩:=h (i+1) ρ (by omega) q
   refine⟨a,b,?_,d,e⟩;rw[show lo+1+(i:Int)=lo+((i+1:Nat):Int) by push_cast;omega];exact c) p2
  refine⟨ρ',?_,p'⟩;rw[show P_1 lo (n+1)=.int lo::P_1 (lo+1) n from rfl,bg2,h1',bg4,h2,bg3];exact e
theorem X_9 {i j:Int} (h:j.natAbs<2 ^ 64):l_6 i j=true:=by
 unfold l_6;rw[decide_eq_true h];simp
theorem s_2 {i j:Int} (h:i.natAbs<2 ^ 64):l_6 i j=true:=by
 unfold l_6;rw[decide_eq_true h];simp
theorem M_7 {j:Int} (h0:j≠0) (h:j.natAbs<2 ^ 64):z_7 j=true:=by
 unfold z_7;rw[decide_eq_true h0,decide_eq_true (Nat.lt_trans h (Nat.pow_lt_pow_right (by decide) (by decide)))];rfl
def drD (ns:List Int) (wy l a nb kk:Int):List (Str×D):=[(Str.ofString "script",.lst (ns.map .int)),(Str.ofString "way",.int wy),(Str.ofString "left",.int l),(Str.ofString "at",.int a),(Str.ofString "number",.int nb),(Str.ofString "k",.int kk)]
section
variable (ns:List Int) (wy l a nb kk:Int) (d:Int)
theorem drS:s_4 (Str.ofString "script") (drD ns wy l a nb kk)=some (.lst (ns.map .int)):=rfl
theorem drW:s_4 (Str.ofString "way") (drD ns wy l a nb kk)=some (.int wy):=rfl
theorem drL:s_4 (Str.ofString "left") (drD ns wy l a nb kk)=some (.int l):=rfl
theorem drA:s_4 (Str.ofString "at") (drD ns wy l a nb kk)=some (.int a):=rfl
theorem drN:s_4 (Str.ofString "number") (drD ns wy l a nb kk)=some (.int nb):=rfl
theorem drK:s_4 (Str.ofString "k") (drD ns wy l a nb kk)=some (.int kk):=rfl
theorem stL:ag4 (Str.ofString "left") (.int d) (drD ns wy l a nb kk)=drD ns wy d a nb kk:=rfl
theorem stA:ag4 (Str.ofString "at") (.int d) (drD ns wy l a nb kk)=drD ns wy l d nb kk:=rfl
theorem stN:ag4 (Str.ofString "number") (.int d) (drD ns wy l a nb kk)=drD ns wy l a d kk:=rfl
theorem stK:ag4 (Str.ofString "k") (.int d) (drD ns wy l a nb kk)=drD ns wy l a nb d:=rfl
theorem at9:(drD ns wy l a nb kk).length=6:=rfl
end
theorem aw1 (ns:List Int) {i:Int} (h0:0<=i) (h1:i<ns.length):∃ x:Int,atD (ns.map D.int) i=some (.int x):=by
 have hi:i.toNat<ns.length:=by omega
 refine⟨ns[i.toNat],?_⟩;unfold atD dPl;rw[List.length_map,if_pos h0,if_pos h1];show (ns.map D.int)[i.toNat]?=_;rw[List.getElem?_map,List.getElem?_eq_getElem hi];rfl
theorem aa2 (ns:List Int) {k:Int} (h0:0<=k):∃ x:Int,e_4 [.lst (ns.map .int),.int k]=some (.int x):=by
 by_cases h:k<ns.length
 ·obtain⟨x,e⟩:=aw1 ns h0 h
  exact⟨x,by simp[e_4,s_9,h,e]⟩
 ·exact⟨0,by simp[e_4,s_9,h]⟩
theorem ac8 (c k:Int):∃ r:Int,h_3 [.int c,.int k]=some (.int r)/\0<=r:=by
 have a:∀ x:Int,0<=Int.fmod x 2147483647/\Int.fmod x 2147483647<2147483647:=λ x=>⟨Int.fmod_nonneg_of_pos _ (by decide),Int.fmod_lt_of_pos _ (by decide)⟩
 have m1:∀ x:Int,l_6 x 48271=true:=λ x=>X_9 (by decide)
 have m2:l_6 7919 k=true:=s_2 (by decide)
 have m4:∀ x y:Int,l_6 (Int.fmod x 2147483647) y=true:=λ x y=>s_2 (by have:=a x;omega)
 have d1:z_7 1009=true:=M_7 (by decide) (by decide)
 exact⟨_,by simp[h_3,w_8,m1,m2,m4,d1];rfl,(a _).1⟩
abbrev drE (ns:List Int) (wy l a nb kk:Int) (s1 s2:Sl):En:=[.ow true (.dic (drD ns wy l a nb kk)),s1,s2]
theorem aT4 {ns:List Int}{wy l a nb kk:Int}{s1 s2:Sl} (h:¬ (wy=1/\l=0/\a<ns.length)):g_9 (drE ns wy l a nb kk s1 s2)=some (false,drE ns wy l a nb kk s1 s2):=by
 by_cases h1:wy=1
 ·by_cases h2:l=0
  ·have h3:¬ a<ns.length:=λ z=>h ⟨h1,h2,z⟩
   simp[g_9,drW,drL,drA,drS,h1,h2,h3]
  ·simp[g_9,drW,drL,drA,drS,h1,h2]
 ·simp[g_9,drW,drL,drA,drS,h1]
theorem aC9 {ns:List Int}{wy l a nb kk:Int}{s1 s2:Sl} (h1:wy=1) (h2:l=0) (h3:a<ns.length):g_9 (drE ns wy l a nb kk s1 s2)=some (true,drE ns wy l a nb kk s1 s2):=by
 simp[g_9,drW,drL,drA,drS,h1,h2,h3]
theorem ak9 {ns:List Int}{wy l a nb kk:Int}{s1 s2:Sl} (h0:0<=a) (h3:a<ns.length):∃ l':Int,q_1 (drE ns wy l a nb kk s1 s2)=some (.nx (drE ns wy l' (a+1) nb kk s1 s2))/\0<=l':=by
 obtain⟨x,e⟩:=aw1 ns h0 h3;refine⟨(x.natAbs:Int),?_,by omega⟩
 simp[q_1,drW,drL,drA,drS,e,at9,stL,stA]
theorem z_3 (ns:List Int) (wy nb kk:Int) (s1 s2:Sl):∀ (m:Nat) (l a:Int),0<=l->1<=a->(ns.length:Int)-a<m->∀ f,m<f ->
  ∃ l' a':Int,wGo g_9 q_1 f (drE ns wy l a nb kk s1 s2)=some (.nx (drE ns wy l' a' nb kk s1 s2))/\0<=l'/\1<=a'
 |m,l,a,hl,ha,hm,f,hf=>by
  obtain⟨f,rfl⟩:∃ g,f=g+1:=⟨f-1,by omega⟩
  rw[aX2]
  by_cases h:wy=1/\l=0/\a<ns.length
  ·obtain⟨l',e,hl'⟩:=ak9 (wy:=wy) (l:=l) (nb:=nb) (kk:=kk) (s1:=s1) (s2:=s2) (show (0:Int)<=a by omega) h.2.2
   rw[aC9 h.1 h.2.1 h.2.2,bn1,e,bn0]
   match m,hm,hf with
   |0,hm,_=>omega
   |m+1,hm,hf=>exact z_3 ns wy nb kk s1 s2 m l' (a+1) hl' (by omega) (by omega) f (by omega)
  ·rw[aT4 h,bn2]
   exact⟨l,a,rfl,hl,ha⟩
def r_0 (ns:List Int) (o:MO):Prop:=∃ wy l a nb kk:Int,o=.dic (drD ns wy l a nb kk)/\0<=l/\1<=a/\0<=kk
theorem w_5 {ns:List Int} (hn:ns.length<=63) {o:MO} (h:r_0 ns o):∃ (r:Int) (o':MO),a_1 o []=some (.int r,o')/\0<=r/\r_0 ns o':=by
 obtain⟨wy,l,a,nb,kk,rfl,hl,ha,hk⟩:=h;obtain⟨l',a',e,hl',ha'⟩:=z_3 ns wy nb kk .no .no 64 l a hl ha (by omega) 200 (by decide)
 by_cases hp:0<l'
 ·have d1:z_7 1000003=true:=M_7 (by decide) (by decide)
  have f0:=Int.fmod_nonneg_of_pos l' (b:=1000003) (by decide)
  have q:l'.fdiv 1000003=l' / 1000003:=Int.fdiv_eq_ediv_of_nonneg _ (by decide)
  refine⟨l'.fmod 1000003,.dic (drD ns wy (l' / 1000003) a' nb kk),?_,f0,wy,l' / 1000003,a',nb,kk,rfl,Int.ediv_nonneg hl' (by decide),ha',hk⟩
  simp[a_1,r_9,List.replicate,e,drL,hp,d1,q,at9,stL]
 ·obtain⟨x,ex⟩:=aa2 ns (k:=kk+1) (by omega)
  obtain⟨r1,e1,_⟩:=ac8 (nb+x) (kk+1);obtain⟨r2,e2,h2⟩:=ac8 r1 7;refine⟨r2,.dic (drD ns wy l' a' r1 (kk+1)),?_,h2,wy,l',a',r1,kk+1,rfl,hl',ha',by omega⟩
  simp[a_1,r_9,List.replicate,e,drL,hp,drK,drN,drS,at9,stK,stN,ex,e1,e2]
abbrev alpha:Str:=Str.ofString "abcdefghijklmnopqrstuvwxyz"
theorem aw3:alpha.length=26:=by decide +kernel
theorem aD8:∀ j:Nat,j<26->alpha.cps.toList[j]?=some (97+j):=by
 have e:alpha.cps.toList=List.range' 97 26:=by decide +kernel
 intro j hj;rw[e,List.getElem?_range' hj];simp
theorem b_1 {n:Nat} (h:n<=1000):n<=sizeLine:=Nat.le_trans h (by decide)
theorem ap6 {i:Int} (h0:0<=i) (h1:i<26):atS alpha i=some (.str (chS (97+i.toNat))):=by
 unfold atS;rw[if_pos (by rw[aw3];exact b_1 (by decide))]
 have l:alpha.cps.toList.length=26:=by decide +kernel
 unfold dPl;rw[l,if_pos h0,if_pos (by exact_mod_cast h1),b_8,aD8 _ (by omega),b_8]
theorem bD2 (x:Int):0<=x.fmod 26/\x.fmod 26<26:=⟨Int.fmod_nonneg_of_pos _ (by decide),Int.fmod_lt_of_pos _ (by decide)⟩
def ltr (x:Int):Str:=chS (97+(x.fmod 26).toNat)
theorem bd3 (x:Int):atS alpha (x.fmod 26)=some (.str (ltr x)):=ap6 (bD2 x).1 (bD2 x).2
theorem ap2 (x:Int):(ltr x).length=1:=rfl
theorem P_0 (a b:Str):(a++b).length=a.length+b.length:=by
 show (a.cps++b.cps).size=_;rw[Array.size_append];rfl
theorem N_5 {g:D->En->Option En}{B:FS} (P:Nat->En->Prop):∀ (n:Nat) (lo:Int) (k:Nat) (ρ:En),(∀ (i:Nat) (v:Int) ρ,i<k+n->P i ρ->∃ ρ1 ρ2,g (.int v) ρ=some ρ1/\B ρ1=some (.nx ρ2)/\P (i+1) ρ2)->P k ρ->∃ ρ',fGo g B (P_1 lo n) ρ=some (.nx ρ')/\P (k+n) ρ'
 |0,lo,k,ρ,_,p=>⟨ρ,rfl,p⟩
 |n+1,lo,k,ρ,h,p=>by
  obtain⟨ρ1,ρ2,h1,h2,p2⟩:=h k lo ρ (by omega) p
  obtain⟨ρ',e,p'⟩:=N_5 P n (lo+1) (k+1) ρ2 (λ i v ρ hi q=>h i v ρ (by omega) q) p2
  refine⟨ρ',?_,by rw[show k+(n+1)=k+1+n by omega];exact p'⟩
  rw[show P_1 lo (n+1)=.int lo::P_1 (lo+1) n from rfl,bg2,h1,bg4,h2,bg3];exact e
theorem af4 {α:Type} (f:α->D) (xs:List α) {i:Int} (h0:0<=i) (h1:i<xs.length):∃ x,x∈xs/\atD (xs.map f) i=some (f x):=by
 have hi:i.toNat<xs.length:=by omega
 refine⟨xs[i.toNat],List.getElem_mem hi,?_⟩;unfold atD dPl;rw[List.length_map,if_pos h0,if_pos h1];show (xs.map f)[i.toNat]?=_;rw[List.getElem?_map,List.getElem?_eq_getElem hi];rfl
theorem am2 {ns:List Int} (hn:ns.length<=63) (s4:Sl) (i:Nat) (v:Int) (ρ:En) (hi:i<100) (p:∃ o wd s3,r_0 ns o/\wd.length=i/\ρ=[.ow true o,.im (.str alpha),.im (.str wd),s3,s4]) :
  ∃ ρ1 ρ2,gN 3 (.int v) ρ=some ρ1/\q_0 ρ1=some (.nx ρ2)/\∃ o wd s3,r_0 ns o/\wd.length=i+1/\ρ2=[.ow true o,.im (.str alpha),.im (.str wd),s3,s4]:=by
 obtain⟨o,wd,s3,ho,hl,rfl⟩:=p;obtain⟨r,o',e,hr,ho'⟩:=w_5 hn ho;have lz:wd.length+(ltr r).length<=sizeLine:=b_1 (by rw[ap2];omega)
 refine⟨_,[.ow true o',.im (.str alpha),.im (.str (wd++ltr r)),.im (.int v),s4],rfl,?_,o',wd++ltr r,_,ho',by rw[P_0,ap2,hl],rfl⟩
 simp[q_0,e,bd3,lz]
abbrev br6:List Str:=[Str.ofString "a",Str.ofString "b",Str.ofString "z",Str.ofString "aa",Str.ofString "ab",Str.ofString "az",Str.ofString "ba",Str.ofString "zz",Str.ofString "aaa"]
theorem ac6 {ns:List Int} (hn:ns.length<=63) (ρ:En):∀ (ks:List Str) (o:MO),r_0 ns o->∃ (ks':List Str) (o':MO),aa5 (tB (e2 dEq (e2 k_0 (eFb 1 a_1 aN) (eC (.int 3))) (eC (.int 1)))) (eV 0) ρ 0 [0] 0 o (ks.map .str)=some (ks'.map .str,o')/\ks'.length<=ks.length/\(∀ k∈ks',k∈ks)/\r_0 ns o'
 |[],o,ho=>⟨[],o,rfl,qi _,λ k h=>h,ho⟩
 |k::r,o,ho=>by
  obtain⟨v,o1,e,_,ho1⟩:=w_5 hn ho;obtain⟨ks',o',e',l',m',ho'⟩:=ac6 hn ρ r o1 ho1;have fr:aj7 ρ 0 o [0]=some [.ow true o]:=rfl;rw[List.map_cons,y_7,fr,b_8]
  by_cases h:v.fmod 3=1
  ·have t:tB (e2 dEq (e2 k_0 (eFb 1 a_1 aN) (eC (.int 3))) (eC (.int 1))) [.im (.str k),.ow true o]=some (true,[.im (.str k),.ow true o1]):=by simp[e,h]
   have f:eV 0 [.im (.str k),.ow true o1]=some (.str k,[.im (.str k),.ow true o1]):=rfl;rw[t,b_8];refine⟨k::ks',o',?_,by rw[List.length_cons,List.length_cons];omega,λ x hx=>by rcases qp hx with rfl | hx;exact List.mem_cons_self;exact qg _ (m' x hx),ho'⟩
   show (if true=true then bnd (eV 0 [.im (.str k),.ow true o1]) _ else _)=_;rw[if_pos rfl,f,b_8];show bnd (some o1) _=_;rw[b_8,e',b_8];rfl
  ·have t:tB (e2 dEq (e2 k_0 (eFb 1 a_1 aN) (eC (.int 3))) (eC (.int 1))) [.im (.str k),.ow true o]=some (false,[.im (.str k),.ow true o1]):=by simp[e,h]
   rw[t,b_8];refine⟨ks',o',?_,by rw[List.length_cons];omega,λ x hx=>qg _ (m' x hx),ho'⟩
   show (if false=true then _ else bnd (some o1) _)=_;rw[if_neg (by simp),b_8,e']
theorem T_8:∀ ks:List Str,ai2 (ks.map .str)=0
 |[]=>rfl
 |k::r=>by rw[List.map_cons,F_4,aT0,T_8 r];rfl
theorem N_6 (ks:List Str):I_1 (ks.map .str) []=ks.isEmpty:=by
 cases ks <;> simp
theorem aO5 {ns:List Int} (hn:ns.length ≤ 63) {o:MO} (ho:r_0 ns o) {ks:List Str} (hk:ks.length=9):∃ (w:Str) (ts:List Str) (o':MO),j_6 o [.lst (ks.map .str)]=some (.tup [.str w,.tup (ts.map .str)],o') ∧ (w=Str.ofString "only" ∧ ts≠[] ∨ w=Str.ofString "but") ∧ (∃ ks',ts=c_4 (a_6 [] ks') ∧ (∀ k∈ks',k∈ks) ∧ ks'.length ≤ 9) ∧ r_0 ns o':=by
 obtain⟨ks',o1,e1,l1,m1,ho1⟩:=ac6 hn [.ow true o,.im (.lst (ks.map .str)),.no] ks o ho;have lz:ks.length<=sizeLine:=b_1 (by omega)
 have ss:=s_1 ks' (by omega)
 have dp:=T_8 ks';have q0:=N_6 ks';cases hE:ks'.isEmpty with
 |true =>
  rw[hE] at q0;exact⟨Str.ofString "but",c_4 (a_6 [] ks'),o1,by simp[j_6,v_6,List.replicate,e1,lz,dp,q0,ss],.inr rfl,⟨ks',rfl,m1,by omega⟩,ho1⟩
 |false =>
  rw[hE] at q0;obtain⟨r,o2,e2',_,ho2⟩:=w_5 hn ho1
  have ne:c_4 (a_6 [] ks')≠[]:=λ z=>by
   cases ks' with
   |nil=>cases hE
   |cons y r =>
    have:y∈c_4 (a_6 [] (y::r)):=(c_0 _).mem_iff.mpr (mem_addAll.mpr (.inr List.mem_cons_self));rw[z] at this;cases this
  by_cases h:r.fmod 2=1
  ·exact⟨Str.ofString "but",c_4 (a_6 [] ks'),o2,by simp[j_6,v_6,List.replicate,e1,lz,dp,q0,ss,e2',h],.inr rfl,⟨ks',rfl,m1,by omega⟩,ho2⟩
  ·exact⟨Str.ofString "only",c_4 (a_6 [] ks'),o2,by simp[j_6,v_6,List.replicate,e1,lz,dp,q0,ss,e2',h],.inl ⟨rfl,ne⟩,⟨ks',rfl,m1,by omega⟩,ho2⟩
abbrev wO (o:Bool):Str:=if o then Str.ofString "only" else Str.ofString "but"
def KK (o:Bool) (ts:List Str):D:=.tup [.str (wO o),.tup (ts.map .str)]
def inK (o:Bool) (ts:List Str) (k:Str):Bool:=decide (k∈ts)==o
theorem w_7 (k:Str):∀ ts:List Str,inD (.str k) (ts.map .str)=decide (k∈ts)
 |[]=>rfl
 |t::r=>by
  have ih:=w_7 k r;unfold inD at ih ⊢;rw[List.map_cons,List.any_cons,ih,Z_5]
  by_cases h:t=k
  ·simp[h]
  ·have:¬ k=t:=λ e=>h e.symm
   simp[h,this]
theorem r_4 (k:Str):∀ ks:List Str,D_0 (.str k) (ks.map .str)=true:=λ ks=>by
 unfold D_0;rw[show Z_2 (.str k)=true from rfl,Bool.true_and,List.all_eq_true];intro x hx;obtain⟨y,_,rfl⟩:=List.mem_map.mp hx;rfl
theorem k_6 (a b:D):atD [a,b] 0=some a:=rfl
theorem k_1 (a b:D):atD [a,b] 1=some b:=rfl
theorem l_3:¬ (Str.ofString "but"=Str.ofString "only"):=by decide +kernel
theorem v_5:¬ (Str.ofString "only"=Str.ofString "but"):=by decide +kernel
theorem aO8 (o:Bool) (ts:List Str) (k:Str):e_1 [KK o ts,.str k]=some (.bl (inK o ts k)):=by
 have ok:=r_4 k ts;have e:=w_7 k ts;cases o <;> by_cases h:k∈ts <;> simp[KK,inK,e_1,G_0,k_6,k_1,ok,e,h,l_3]
theorem bu5 (o:Bool) (ts:List Str) (k:Str):v_1 [KK o ts,.str k]=some (.bl (inK o ts k)):=by
 have ok:=r_4 k ts;have e:=w_7 k ts;cases o <;> by_cases h:k∈ts <;> simp[KK,inK,v_1,af2,k_6,k_1,ok,e,h,l_3]
theorem Z_1 (o:Bool) (ts:List Str):∀ ks:List Str,cGo (tV (eF e_1 (aC (eV 1) (aC (eV 0) aN)))) (eV 0) [.im (KK o ts)] (ks.map .str)=some ((ks.filter (inK o ts)).map .str)
 |[]=>rfl
 |k::r=>by
  have ih:=Z_1 o ts r;have h:=aO8 o ts k;rw[List.map_cons,ai6];cases hb:inK o ts k with
  |false =>
   rw[hb] at h;have t:tV (eF e_1 (aC (eV 1) (aC (eV 0) aN))) [.im (.str k),.im (KK o ts)]=some (false,[.im (.str k),.im (KK o ts)]):=by simp[h]
   rw[t,aD4,ih,List.filter_cons_of_neg (by simp[hb])]
  |true =>
   rw[hb] at h;have t:tV (eF e_1 (aC (eV 1) (aC (eV 0) aN))) [.im (.str k),.im (KK o ts)]=some (true,[.im (.str k),.im (KK o ts)]):=by simp[h]
   have f:eV 0 [.im (.str k),.im (KK o ts)]=some (.str k,[.im (.str k),.im (KK o ts)]):=rfl;rw[t,ai8,f,ai7,ih,J_8,List.filter_cons_of_pos (by simp[hb]),List.map_cons]
def Y_3 (o:Bool) (t1 t2:List Str):D:=if t1.filter (inK o t2)=[] then .non else KK true (t1.filter (inK o t2))
theorem Y_2 (o:Bool) (t1 t2:List Str) (h1:t1.length<=100):j_8 [KK true t1,KK o t2]=some (Y_3 o t1 t2):=by
 have g:=Z_1 o t2 t1;have lz:t1.length<=sizeLine:=b_1 (by omega)
 have l2:(t1.filter (inK o t2)).length<=sizeLine:=b_1 (Nat.le_trans (List.length_filter_le _ _) (by omega))
 unfold Y_3;unfold KK at g
 by_cases z:t1.filter (inK o t2)=[]
 ·rw[z] at g
  rw[if_pos z];cases o <;> simp[KK,j_8,t_0,List.replicate,k_6,k_1,v_5,l_3,lz,g]
 ·rw[if_neg z]
  have ze:(t1.filter (inK o t2)).isEmpty=false:=List.isEmpty_eq_false_iff.mpr z;cases o <;> simp[KK,j_8,t_0,List.replicate,k_6,k_1,v_5,l_3,lz,l2,g,ze]
theorem ao7 (o:Bool) (t1 t2:List Str) (h1:t1.length<=100):d_6 [KK true t1,KK o t2]=some (Y_3 o t1 t2):=by
 have g:=Z_1 o t2 t1;have lz:t1.length<=sizeLine:=b_1 (by omega)
 have l2:(t1.filter (inK o t2)).length<=sizeLine:=b_1 (Nat.le_trans (List.length_filter_le _ _) (by omega))
 unfold Y_3;unfold KK at g
 by_cases z:t1.filter (inK o t2)=[]
 ·rw[z] at g
  rw[if_pos z];cases o <;> simp[KK,d_6,p_6,List.replicate,k_6,k_1,v_5,l_3,lz,g]
 ·rw[if_neg z]
  have ze:(t1.filter (inK o t2)).isEmpty=false:=List.isEmpty_eq_false_iff.mpr z;cases o <;> simp[KK,d_6,p_6,List.replicate,k_6,k_1,v_5,l_3,lz,l2,g,ze]
theorem N_0 (t1 t2:List Str) (h2:t2.length<=100):d_6 [KK false t1,KK true t2]=some (Y_3 false t2 t1):=by
 have g:=Y_2 false t2 t1 h2;unfold KK at g;simp[KK,d_6,p_6,List.replicate,k_6,k_1,v_5,l_3,g]
def uni (t1 t2:List Str):List Str:=c_4 (a_6 [] (t1++t2))
theorem ao8 (t1 t2:List Str) (h:t1.length+t2.length<=60):d_6 [KK false t1,KK false t2]=some (KK false (uni t1 t2)):=by
 have e:=s_1 (t1++t2) (by rw[List.length_append];omega)
 rw[List.map_append] at e
 have l3:(c_4 (a_6 [] (t1++t2))).length<=sizeLine:=b_1 (by
  rw[(c_0 _).length_eq];have:=f_1 (t1++t2) [];rw[List.length_append,List.length_nil] at this;omega)
 have eb:A_8 [.tup (t1.map .str),.tup (t2.map .str)]=some (.lst ((c_4 (a_6 [] (t1++t2))).map .str)):=by
  rw[K_4,aY3,b_8,aY3,b_8,if_pos (by rw[List.length_map,List.length_map];exact h),e]
 simp[KK,uni,d_6,p_6,List.replicate,k_6,k_1,v_5,l_3,eb,l3]
end Fx
namespace St
structure S where
 lo:Option Int
 hi:Option Int
 st:Int
 re:Int
 deriving DecidableEq
def leO (lo:Option Int) (v:Int):Prop:=∀ l,lo=some l->l<=v
def geO (hi:Option Int) (v:Int):Prop:=∀ h,hi=some h->v<=h
structure mem (s:S) (v:Int):Prop where
 l:leO s.lo v
 h:geO s.hi v
 r:v % s.st=s.re
structure Canon (s:S):Prop where
 pos:0<s.st
 r0:0<=s.re
 r1:s.re<s.st
 lo:∀ l,s.lo=some l->l % s.st=s.re
 hi:∀ h,s.hi=some h->h % s.st=s.re
 lh:∀ l h,s.lo=some l->s.hi=some h->l<h\/(l=h/\s.st=1/\s.re=0)
theorem cong {st x y:Int}:x % st=y % st↔st ∣ x-y:=by
 rw[Int.emod_eq_emod_iff_emod_sub_eq_zero];exact⟨Int.dvd_of_emod_eq_zero,Int.emod_eq_zero_of_dvd⟩
theorem aC8 {st re x:Int} (h0:0<=re) (h1:re<st):x % st=re↔st ∣ x-re:=by
 rw[<- cong,Int.emod_eq_of_lt h0 h1]
theorem far {st x y:Int} (h:x % st=y % st) (hl:x<y):x+st<=y:=by
 have d:=cong.mp h.symm;have:=Int.le_of_dvd (by omega) d
 omega
theorem up {l st re:Int} (hp:0<st) (h0:0<=re) (h1:re<st) :
  (l+(re-l) % st) % st=re/\l<=l+(re-l) % st/\∀ v,v % st=re->l<=v->l+(re-l) % st<=v:=by
 have a:=Int.emod_nonneg (re-l) (Int.ne_of_gt hp);have b:=Int.emod_lt_of_pos (re-l) hp
 have e:(l+(re-l) % st) % st=re:=by
  rw[Int.add_emod_emod,show l+(re-l)=re by omega,Int.emod_eq_of_lt h0 h1]
 refine⟨e,by omega,λ v hv hl=>?_⟩
 by_cases hh:v<l+(re-l) % st
 ·have:=far (hv.trans e.symm) hh
  omega
 ·omega
theorem down {h st re:Int} (hp:0<st) (h0:0<=re) (h1:re<st) :
  (h-(h-re) % st) % st=re/\h-(h-re) % st<=h/\∀ v,v % st=re->v<=h->v<=h-(h-re) % st:=by
 have a:=Int.emod_nonneg (h-re) (Int.ne_of_gt hp);have b:=Int.emod_lt_of_pos (h-re) hp
 have e:(h-(h-re) % st) % st=re:=by
  rw[Int.sub_emod_emod,show h-(h-re)=re by omega,Int.emod_eq_of_lt h0 h1]
 refine⟨e,by omega,λ v hv hl=>?_⟩
 by_cases hh:h-(h-re) % st<v
 ·have:=far (e.trans hv.symm) hh
  omega
 ·omega
def first (lo:Option Int) (st re:Int):Option Int:=lo.map λ l=>l+(re-l) % st
def last (hi:Option Int) (st re:Int):Option Int:=hi.map λ h=>h-(h-re) % st
def made2 (f l:Option Int) (st re:Int):Option S :=
 match f,l with
 |some a,some b=>if b<a then none else if a=b then some ⟨some a,some b,1,0⟩ else some ⟨some a,some b,st,re⟩
 |f,l=>some ⟨f,l,st,re⟩
def made (lo hi:Option Int) (st re:Int):Option S :=
 if 0<=re/\re<st then made2 (first lo st re) (last hi st re) st re else none
structure Between (lo hi:Option Int) (st re v:Int):Prop where
 l:leO lo v
 h:geO hi v
 r:v % st=re
def Tells (r:Option S) (p:Int->Prop):Prop :=
 match r with
 |none=>∀ v,¬ p v
 |some s=>Canon s/\∀ v,mem s v↔p v
theorem ap9 {lo:Option Int}{st re v:Int} (hp:0<st) (h0:0<=re) (h1:re<st) (hv:v % st=re):leO (first lo st re) v↔leO lo v:=by
 cases lo with
 |none=>exact⟨λ _ l e=>(nomatch e),λ _ l e=>(nomatch e)⟩
 |some l =>
  obtain⟨_,a,b⟩:=up (l:=l) hp h0 h1;constructor
  ·intro h x e;cases e;exact Int.le_trans a (h _ rfl)
  ·intro h x e;cases e;exact b v hv (h _ rfl)
theorem aB4 {hi:Option Int}{st re v:Int} (hp:0<st) (h0:0<=re) (h1:re<st) (hv:v % st=re):geO (last hi st re) v↔geO hi v:=by
 cases hi with
 |none=>exact⟨λ _ l e=>(nomatch e),λ _ l e=>(nomatch e)⟩
 |some l =>
  obtain⟨_,a,b⟩:=down (h:=l) hp h0 h1;constructor
  ·intro h x e;cases e;exact Int.le_trans (h _ rfl) a
  ·intro h x e;cases e;exact b v hv (h _ rfl)
theorem as5 {lo:Option Int}{st re l:Int} (hp:0<st) (h0:0<=re) (h1:re<st) (e:first lo st re=some l):l % st=re:=by
 cases lo with
 |none=>cases e
 |some x=>cases e;exact (up hp h0 h1).1
theorem aA8 {hi:Option Int}{st re l:Int} (hp:0<st) (h0:0<=re) (h1:re<st) (e:last hi st re=some l):l % st=re:=by
 cases hi with
 |none=>cases e
 |some x=>cases e;exact (down hp h0 h1).1
theorem made_ok {lo hi:Option Int}{st re:Int} (hp:0<st) (h0:0<=re) (h1:re<st):Tells (made lo hi st re) (Between lo hi st re):=by
 unfold made;rw[if_pos ⟨h0,h1⟩]
 have key:∀ v,v % st=re->((leO (first lo st re) v/\geO (last hi st re) v)↔(leO lo v/\geO hi v)):=λ v hv=>by
  rw[ap9 hp h0 h1 hv,aB4 hp h0 h1 hv]
 have fm:=λ l=>as5 (lo:=lo) (l:=l) hp h0 h1
 have lm:=λ l=>aA8 (hi:=hi) (l:=l) hp h0 h1
 generalize first lo st re=f at key fm
 generalize last hi st re=g at key lm
 have plain:(∀ a b,f=some a->g=some b->a<b)->Tells (some ⟨f,g,st,re⟩) (Between lo hi st re):=λ hlt=>by
  refine⟨⟨hp,h0,h1,fm,lm,λ l h e1 e2=>.inl (hlt l h e1 e2)⟩,λ v=>⟨λ m=>?_,λ m=>?_⟩⟩
  ·have:=(key v m.r).mp ⟨m.l,m.h⟩
   exact⟨this.1,this.2,m.r⟩
  ·have:=(key v m.r).mpr ⟨m.l,m.h⟩
   exact⟨this.1,this.2,m.r⟩
 cases f with
 |none=>exact plain λ a b e=>nomatch e
 |some a =>
  cases g with
  |none=>exact plain λ a b _ e=>nomatch e
  |some b =>
   unfold made2;dsimp only
   by_cases h2:b<a
   ·rw[if_pos h2]
    intro v m;obtain⟨x,y⟩:=(key v m.r).mpr ⟨m.l,m.h⟩;have:=x a rfl;have:=y b rfl;omega
   ·rw[if_neg h2]
    by_cases h3:a=b
    ·rw[if_pos h3]
     subst h3;refine⟨⟨Int.zero_lt_one,Int.le_refl _,Int.zero_lt_one,λ l _=>by simp,λ l _=>by simp,λ l h e1 e2=>.inr ⟨by cases e1;cases e2;rfl,rfl,rfl⟩⟩,λ v=>⟨λ m=>?_,λ m=>?_⟩⟩
     ·have e:v=a:=by
       have:=m.l a rfl;have:=m.h a rfl;omega
      have hv:v % st=re:=by rw[e];exact fm a rfl
      have:=(key v hv).mp ⟨m.l,m.h⟩;exact⟨this.1,this.2,hv⟩
     ·have:=(key v m.r).mpr ⟨m.l,m.h⟩
      exact⟨this.1,this.2,by simp⟩
    ·rw[if_neg h3]
     exact plain λ x y e1 e2=>by cases e1;cases e2;omega
theorem made_none {lo hi:Option Int}{st re:Int} (h:¬ (0<=re/\re<st)):made lo hi st re=none:=by
 unfold made;rw[if_neg h]
theorem aN9 {lo hi:Option Int}{st re:Int}{s:S} (h:made lo hi st re=some s):s.st=st\/s.st=1:=by
 unfold made at h
 split at h
 ·unfold made2 at h
  split at h
  ·split at h
   ·cases h
   ·split at h
    ·cases h;exact .inr rfl
    ·cases h;exact .inl rfl
  ·cases h;exact .inl rfl
 ·cases h
theorem Canon.some {s:S} (c:Canon s):∃ v,mem s v:=by
 cases e:s.lo with
 |some l =>
  refine⟨l,λ x h=>by rw[e] at h;cases h;omega,λ h hh=>?_,c.lo l e⟩
  rcases c.lh l h e hh with z | ⟨z,_⟩ <;> omega
 |none =>
  cases e2:s.hi with
  |some h=>exact⟨h,⟨λ x q=>(by rw[e] at q;cases q),λ x q=>(by rw[e2] at q;cases q;omega),c.hi h e2⟩⟩
  |none=>exact⟨s.re,⟨λ x q=>(by rw[e] at q;cases q),λ x q=>(by rw[e2] at q;cases q),Int.emod_eq_of_lt c.r0 c.r1⟩⟩
theorem Canon.memLo {s:S} (c:Canon s) {l:Int} (e:s.lo=Option.some l):mem s l:=by
 refine⟨λ x h=>by rw[e] at h;cases h;omega,λ h hh=>?_,c.lo l e⟩
 rcases c.lh l h e hh with z | ⟨z,_⟩ <;> omega
theorem Canon.memHi {s:S} (c:Canon s) {h:Int} (e:s.hi=Option.some h):mem s h:=by
 refine⟨λ x hh=>?_,λ x q=>by rw[e] at q;cases q;omega,c.hi h e⟩
 rcases c.lh x h hh e with z | ⟨z,_⟩ <;> omega
theorem Canon.down {s:S} (c:Canon s) {v:Int} (m:mem s v) (h:leO s.lo (v-s.st)):mem s (v-s.st):=by
 have:=c.pos;refine⟨h,λ x e=>by have:=m.h x e;omega,?_⟩
 rw[Int.sub_emod_right];exact m.r
theorem Canon.up {s:S} (c:Canon s) {v:Int} (m:mem s v) (h:geO s.hi (v+s.st)):mem s (v+s.st):=by
 have:=c.pos;refine⟨λ x e=>by have:=m.l x e;omega,h,?_⟩
 rw[Int.add_emod_right];exact m.r
theorem Canon.lo_of {s:S} (c:Canon s) {l:Int}:s.lo=Option.some l↔(mem s l/\∀ v,mem s v->l<=v):=by
 constructor
 ·exact λ e=>⟨c.memLo e,λ v m=>m.l l e⟩
 ·rintro ⟨m,h⟩
  cases e:s.lo with
  |none =>
   have:=h _ (c.down m λ x q=>by rw[e] at q;cases q)
   have:=c.pos;omega
  |some x =>
   have a:=h _ (c.memLo e);have b:=m.l x e;rw[show x=l by omega]
theorem Canon.hi_of {s:S} (c:Canon s) {l:Int}:s.hi=Option.some l↔(mem s l/\∀ v,mem s v->v<=l):=by
 constructor
 ·exact λ e=>⟨c.memHi e,λ v m=>m.h l e⟩
 ·rintro ⟨m,h⟩
  cases e:s.hi with
  |none =>
   have:=h _ (c.up m λ x q=>by rw[e] at q;cases q)
   have:=c.pos;omega
  |some x =>
   have a:=h _ (c.memHi e);have b:=m.h x e;rw[show x=l by omega]
theorem am7 {a b:Option Int} (h:∀ l,a=some l↔b=some l):a=b:=by
 cases a with
 |none=>cases b with
  |none=>rfl
  |some y=>exact ((h y).mpr rfl)
 |some x=>exact ((h x).mp rfl).symm
theorem al1 {s t:S} (cs:Canon s) (ct:Canon t) (h:∀ v,mem s v↔mem t v) (hlo:s.lo=t.lo) (hhi:s.hi=t.hi)
  (two:∀ l h,s.lo=some l->s.hi=some h->l<h):t.st ∣ s.st/\s.re % t.st=t.re:=by
 have p:=cs.pos
 have ex:∃ v,mem s v/\mem s (v+s.st):=by
  cases e:s.lo with
  |some l =>
   refine⟨l,cs.memLo e,cs.up (cs.memLo e) λ x q=>?_⟩
   have hlt:=two l x e q;have:=far ((cs.lo l e).trans (cs.hi x q).symm) hlt;omega
  |none =>
   obtain⟨v,m⟩:=cs.some;refine⟨v-s.st,cs.down m (λ x q=>by rw[e] at q;cases q),?_⟩
   rw[show v-s.st+s.st=v by omega];exact m
 obtain⟨v,m1,m2⟩:=ex;have n1:=(h _).mp m1;have n2:=(h _).mp m2
 have d:t.st ∣ s.st:=by
  have:=cong.mp (n2.r.trans n1.r.symm);rw[show v+s.st-v=s.st by omega] at this
  exact this
 refine⟨d,?_⟩;have e1:t.st ∣ v-s.re:=Int.dvd_trans d ((aC8 cs.r0 cs.r1).mp m1.r);have e2:=cong.mpr e1;rw[<- e2];exact n1.r
theorem Canon.ext {s t:S} (cs:Canon s) (ct:Canon t) (h:∀ v,mem s v↔mem t v):s=t:=by
 have hlo:s.lo=t.lo:=am7 λ l=>by
  rw[cs.lo_of,ct.lo_of,h];exact⟨fun⟨a,b⟩=>⟨a,λ v m=>b v ((h v).mpr m)⟩,fun⟨a,b⟩=>⟨a,λ v m=>b v ((h v).mp m)⟩⟩
 have hhi:s.hi=t.hi:=am7 λ l=>by
  rw[cs.hi_of,ct.hi_of,h];exact⟨fun⟨a,b⟩=>⟨a,λ v m=>b v ((h v).mpr m)⟩,fun⟨a,b⟩=>⟨a,λ v m=>b v ((h v).mp m)⟩⟩
 have fin:s.st=t.st->s.re=t.re->s=t:=λ a b=>by
  cases s;cases t;simp only[S.mk.injEq] at *;exact⟨hlo,hhi,a,b⟩
 by_cases one:∃ l,s.lo=Option.some l/\s.hi=Option.some l
 ·obtain⟨l,e1,e2⟩:=one
  have z1:=cs.lh l l e1 e2;have z2:=ct.lh l l (hlo▸e1) (hhi▸e2)
  rcases z1 with z | ⟨_,a,b⟩
  ·omega
  rcases z2 with z | ⟨_,a',b'⟩
  ·omega
  exact fin (by omega) (by omega)
 ·have twos:∀ l h,s.lo=Option.some l->s.hi=Option.some h->l<h:=λ l x e1 e2=>by
   rcases cs.lh l x e1 e2 with z | ⟨z,_⟩
   ·exact z
   ·exact absurd ⟨l,e1,by rw[e2,z]⟩ one
  obtain⟨a,b⟩:=al1 cs ct h hlo hhi twos;obtain⟨a',b'⟩:=al1 ct cs (λ v=>(h v).symm) hlo.symm hhi.symm λ l x e1 e2=>twos l x (hlo.trans e1) (hhi.trans e2)
  have p:=cs.pos;have p':=ct.pos;have l1:=Int.le_of_dvd p a;have l2:=Int.le_of_dvd p' a';have e:s.st=t.st:=by omega
  refine fin e ?_;rw[<- e] at b;rw[<- b,Int.emod_eq_of_lt cs.r0 cs.r1]
theorem Tells.inj {r r':Option S}{p:Int->Prop} (h:Tells r p) (h':Tells r' p):r=r':=by
 cases r with
 |none =>
  cases r' with
  |none=>rfl
  |some t=>obtain⟨v,m⟩:=h'.1.some;exact absurd ((h'.2 v).mp m) (h v)
 |some s =>
  cases r' with
  |none=>obtain⟨v,m⟩:=h.1.some;exact absurd ((h.2 v).mp m) (h' v)
  |some t=>rw[h.1.ext h'.1 λ v=>(h.2 v).trans (h'.2 v).symm]
theorem Tells.imp {r:Option S}{p q:Int->Prop} (h:Tells r p) (e:∀ v,p v↔q v):Tells r q:=by
 cases r with
 |none=>exact λ v m=>h v ((e v).mpr m)
 |some s=>exact⟨h.1,λ v=>(h.2 v).trans (e v)⟩
def ab (a:Int):Int:=if a<0 then -a else a
def mv (a b:Int) (o:Option Int):Option Int:=o.map λ e=>a*e+b
def moved (s:S) (a b:Int):Option S :=
 if a<0 then made (mv a b s.hi) (mv a b s.lo) (ab a*s.st) ((a*s.re+b) % (ab a*s.st))
 else made (mv a b s.lo) (mv a b s.hi) (ab a*s.st) ((a*s.re+b) % (ab a*s.st))
theorem ab_pos {a:Int} (h:a≠0):0<ab a:=by unfold ab;split <;> omega
theorem J_1 {a x y:Int} (h:0<a):a*x<=a*y↔x<=y:=Int.mul_le_mul_left h
theorem E_8 {a x y:Int} (h:a<0):a*x<=a*y↔y<=x:=by
 have:=Int.mul_le_mul_left (a:=-a) (b:=y) (c:=x) (by omega)
 rw[<- this,Int.neg_mul,Int.neg_mul];omega
theorem aG2 {a b v:Int}{o:Option Int} (h:0<a):leO (mv a b o) (a*v+b)↔leO o v:=by
 cases o with
 |none=>exact⟨λ _ l e=>(nomatch e),λ _ l e=>(nomatch e)⟩
 |some l =>
  have k:=J_1 (x:=l) (y:=v) h;constructor
  ·intro z x e;cases e;have z':a*l+b<=a*v+b:=z _ rfl;exact k.mp (by omega)
  ·intro z x e;cases e;have:=k.mpr (z _ rfl);show a*l+b<=a*v+b;omega
theorem aH1 {a b v:Int}{o:Option Int} (h:0<a):geO (mv a b o) (a*v+b)↔geO o v:=by
 cases o with
 |none=>exact⟨λ _ l e=>(nomatch e),λ _ l e=>(nomatch e)⟩
 |some l =>
  have k:=J_1 (x:=v) (y:=l) h;constructor
  ·intro z x e;cases e;have z':a*v+b<=a*l+b:=z _ rfl;exact k.mp (by omega)
  ·intro z x e;cases e;have:=k.mpr (z _ rfl);show a*v+b<=a*l+b;omega
theorem ap8 {a b v:Int}{o:Option Int} (h:a<0):leO (mv a b o) (a*v+b)↔geO o v:=by
 cases o with
 |none=>exact⟨λ _ l e=>(nomatch e),λ _ l e=>(nomatch e)⟩
 |some l =>
  have k:=E_8 (x:=l) (y:=v) h;constructor
  ·intro z x e;cases e;have z':a*l+b<=a*v+b:=z _ rfl;exact k.mp (by omega)
  ·intro z x e;cases e;have:=k.mpr (z _ rfl);show a*l+b<=a*v+b;omega
theorem as0 {a b v:Int}{o:Option Int} (h:a<0):geO (mv a b o) (a*v+b)↔leO o v:=by
 cases o with
 |none=>exact⟨λ _ l e=>(nomatch e),λ _ l e=>(nomatch e)⟩
 |some l =>
  have k:=E_8 (x:=v) (y:=l) h;constructor
  ·intro z x e;cases e;have z':a*v+b<=a*l+b:=z _ rfl;exact k.mp (by omega)
  ·intro z x e;cases e;have:=k.mpr (z _ rfl);show a*v+b<=a*l+b;omega
theorem D_4 {a b st re w:Int} (hp:0<st) (ha:a≠0) (h0:0<=re) (h1:re<st) :
  w % (ab a*st)=(a*re+b) % (ab a*st)↔∃ v,v % st=re/\w=a*v+b:=by
 rw[cong];constructor
 ·rintro ⟨k,e⟩
  refine⟨re+st*(if a<0 then -k else k),by rw[Int.add_mul_emod_self_left,Int.emod_eq_of_lt h0 h1],?_⟩
  have e2:a*(st*(if a<0 then -k else k))=ab a*st*k:=by
   unfold ab
   split
   ·simp only[Int.neg_mul,Int.mul_neg,Int.mul_assoc]
   ·simp only[Int.mul_assoc]
  rw[Int.mul_add,e2,<- e];omega
 ·rintro ⟨v,hv,rfl⟩
  obtain⟨k,e⟩:=(aC8 h0 h1).mp hv;refine⟨(if a<0 then -k else k),?_⟩
  have e2:a*v+b-(a*re+b)=a*(st*k):=by
   rw[<- e,Int.mul_sub];omega
  rw[e2];unfold ab
  split
  ·simp only[Int.neg_mul,Int.mul_neg,Int.mul_assoc,Int.neg_neg]
  ·simp only[Int.mul_assoc]
theorem ac7 {s:S}{a b:Int} (c:Canon s) (ha:a≠0):Tells (moved s a b) (λ w=>∃ v,mem s v/\w=a*v+b):=by
 have hS:0<ab a*s.st:=Int.mul_pos (ab_pos ha) c.pos;have r0:=Int.emod_nonneg (a*s.re+b) (Int.ne_of_gt hS);have r1:=Int.emod_lt_of_pos (a*s.re+b) hS;unfold moved
 split
 ·rename_i hn
  refine (made_ok hS r0 r1).imp λ w=>⟨λ m=>?_,?_⟩
  ·obtain⟨v,hv,rfl⟩:=(D_4 c.pos ha c.r0 c.r1).mp m.r
   exact⟨v,⟨(as0 hn).mp m.h,(ap8 hn).mp m.l,hv⟩,rfl⟩
  ·rintro ⟨v,m,rfl⟩
   exact⟨(ap8 hn).mpr m.h,(as0 hn).mpr m.l,(D_4 c.pos ha c.r0 c.r1).mpr ⟨v,m.r,rfl⟩⟩
 ·have hn:0<a:=by omega
  refine (made_ok hS r0 r1).imp λ w=>⟨λ m=>?_,?_⟩
  ·obtain⟨v,hv,rfl⟩:=(D_4 c.pos ha c.r0 c.r1).mp m.r
   exact⟨v,⟨(aG2 hn).mp m.l,(aH1 hn).mp m.h,hv⟩,rfl⟩
  ·rintro ⟨v,m,rfl⟩
   exact⟨(aG2 hn).mpr m.l,(aH1 hn).mpr m.h,(D_4 c.pos ha c.r0 c.r1).mpr ⟨v,m.r,rfl⟩⟩
theorem Tells.some {r:Option S}{p:Int->Prop} (h:Tells r p) {v:Int} (hv:p v):∃ t,r=Option.some t/\Canon t/\∀ v,mem t v↔p v:=by
 cases r with
 |none=>exact absurd hv (h v)
 |some t=>exact⟨t,rfl,h.1,h.2⟩
theorem moved_some {s:S}{a b:Int} (c:Canon s) (ha:a≠0):∃ t,moved s a b=some t/\Canon t/\(∀ w,mem t w↔∃ v,mem s v/\w=a*v+b)/\(t.st=ab a*s.st\/t.st=1):=by
 obtain⟨v,m⟩:=c.some;obtain⟨t,e,ct,h⟩:=(ac7 (b:=b) c ha).some ⟨v,m,rfl⟩;refine⟨t,e,ct,h,?_⟩;unfold moved at e
 split at e <;> exact aN9 e
structure Euc (a m g f:Int):Prop where
 pos:0<g
 da:g ∣ a
 dm:g ∣ m
 inv:m ∣ a*f-g
def bkLo (s:S) (a b:Int):Option Int:=(if 0<a then s.lo else s.hi).map λ e=>-((b-e).fdiv a)
def bkHi (s:S) (a b:Int):Option Int:=(if 0<a then s.hi else s.lo).map λ e=>(e-b).fdiv a
def back2 (s:S) (a b g f:Int):Option S :=
 if (s.re-b) % g=0 then made (bkLo s a b) (bkHi s a b) (s.st / g) ((s.re-b) / g*f % (s.st / g)) else none
theorem ap7 {v x a:Int} (h:0<a):v<=x.fdiv a↔a*v<=x:=by
 rw[Int.fdiv_eq_ediv_of_nonneg _ (by omega),Int.le_ediv_iff_mul_le h,Int.mul_comm]
theorem ad1 {v x a:Int} (h:a<0):v<=x.fdiv a↔x<=a*v:=by
 rw[<- Int.neg_fdiv_neg,Int.fdiv_eq_ediv_of_nonneg _ (by omega),Int.le_ediv_iff_mul_le (by omega),Int.mul_neg,Int.mul_comm];omega
theorem aO2 {o:Option Int}{f:Int->Int}{v:Int}{p:Prop}{u:Int} (hp:∀ e,f e<=v↔e<=u):leO (o.map f) v↔leO o u:=by
 cases o with
 |none=>exact⟨λ _ l e=>(nomatch e),λ _ l e=>(nomatch e)⟩
 |some l =>
  constructor
  ·intro z x e;cases e;exact (hp l).mp (z _ rfl)
  ·intro z x e;cases e;exact (hp l).mpr (z _ rfl)
theorem aA6 {o:Option Int}{f:Int->Int}{v:Int}{u:Int} (hp:∀ e,f e<=v↔u<=e):leO (o.map f) v↔geO o u:=by
 cases o with
 |none=>exact⟨λ _ l e=>(nomatch e),λ _ l e=>(nomatch e)⟩
 |some l =>
  constructor
  ·intro z x e;cases e;exact (hp l).mp (z _ rfl)
  ·intro z x e;cases e;exact (hp l).mpr (z _ rfl)
theorem aP0 {o:Option Int}{f:Int->Int}{v:Int}{u:Int} (hp:∀ e,v<=f e↔u<=e):geO (o.map f) v↔geO o u:=by
 cases o with
 |none=>exact⟨λ _ l e=>(nomatch e),λ _ l e=>(nomatch e)⟩
 |some l =>
  constructor
  ·intro z x e;cases e;exact (hp l).mp (z _ rfl)
  ·intro z x e;cases e;exact (hp l).mpr (z _ rfl)
theorem aB3 {o:Option Int}{f:Int->Int}{v:Int}{u:Int} (hp:∀ e,v<=f e↔e<=u):geO (o.map f) v↔leO o u:=by
 cases o with
 |none=>exact⟨λ _ l e=>(nomatch e),λ _ l e=>(nomatch e)⟩
 |some l =>
  constructor
  ·intro z x e;cases e;exact (hp l).mp (z _ rfl)
  ·intro z x e;cases e;exact (hp l).mpr (z _ rfl)
theorem U_2 {s:S}{a b v:Int} (ha:a≠0):(leO (bkLo s a b) v/\geO (bkHi s a b) v)↔(leO s.lo (a*v+b)/\geO s.hi (a*v+b)):=by
 unfold bkLo bkHi
 by_cases h:0<a
 ·rw[if_pos h,if_pos h]
  have e:a*-v=-(a*v):=Int.mul_neg _ _
  have k1:=aO2 (o:=s.lo) (f:=λ e=>-((b-e).fdiv a)) (v:=v) (u:=a*v+b) (p:=True) λ e=>by
   have:=ap7 (v:=-v) (x:=b-e) h;omega
  have k2:=aP0 (o:=s.hi) (f:=λ e=>(e-b).fdiv a) (v:=v) (u:=a*v+b) λ e=>by
   have:=ap7 (v:=v) (x:=e-b) h;omega
  rw[k1,k2]
 ·have h':a<0:=by omega
  rw[if_neg h,if_neg h];have e:a*-v=-(a*v):=Int.mul_neg _ _
  have k1:=aA6 (o:=s.hi) (f:=λ e=>-((b-e).fdiv a)) (v:=v) (u:=a*v+b) λ e=>by
   have:=ad1 (v:=-v) (x:=b-e) h';omega
  have k2:=aB3 (o:=s.lo) (f:=λ e=>(e-b).fdiv a) (v:=v) (u:=a*v+b) λ e=>by
   have:=ad1 (v:=v) (x:=e-b) h';omega
  rw[k1,k2];exact And.comm
theorem back_ok {s:S}{a b g f:Int} (c:Canon s) (ha:a≠0) (E:Euc a s.st g f):Tells (back2 s a b g f) (λ v=>mem s (a*v+b)):=by
 obtain⟨gp,⟨a',ea⟩,⟨m',em⟩,hi⟩:=E;unfold back2
 by_cases h:(s.re-b) % g=0
 ·rw[if_pos h]
  obtain⟨w,ew⟩:=Int.dvd_of_emod_eq_zero h;have e1:s.st / g=m':=by rw[em];exact Int.mul_ediv_cancel_left _ (by omega)
  have e2:(s.re-b) / g=w:=by rw[ew];exact Int.mul_ediv_cancel_left _ (by omega)
  rw[e1,e2]
  have mp:0<m':=by
   have:=c.pos;rw[em] at this;exact Int.pos_of_mul_pos_right this (by omega)
  have d1:m' ∣ a'*f-1:=by
   obtain⟨k,e⟩:=hi;refine⟨k,?_⟩
   have:g*(a'*f-1)=g*(m'*k):=by
    rw[Int.mul_sub,<- Int.mul_assoc,<- ea,Int.mul_one,e,em,Int.mul_assoc]
   exact Int.eq_of_mul_eq_mul_left (by omega) this
  have cls:∀ v,v % m'=w*f % m'↔(a*v+b) % s.st=s.re:=λ v=>by
   rw[cong,aC8 c.r0 c.r1]
   have e3:a*v+b-s.re=g*(a'*v-w):=by
    rw[Int.mul_sub,<- ew,<- Int.mul_assoc,<- ea];omega
   rw[e3,em];constructor
   ·intro d
    refine Int.mul_dvd_mul_left g ?_
    have e4:a'*v-w=a'*(v-w*f)+w*(a'*f-1):=by
     rw[Int.mul_sub,Int.mul_sub,Int.mul_one,show a'*(w*f)=w*(a'*f) by rw[<- Int.mul_assoc,<- Int.mul_assoc,Int.mul_comm a' w]];omega
    rw[e4];exact Int.dvd_add (Int.dvd_trans d (Int.dvd_mul_left _ _)) (Int.dvd_trans d1 (Int.dvd_mul_left _ _))
   ·intro d
    have d:m' ∣ a'*v-w:=Int.dvd_of_mul_dvd_mul_left (by omega) d
    have e4:v-w*f=f*(a'*v-w)-v*(a'*f-1):=by
     rw[Int.mul_sub,Int.mul_sub,Int.mul_one,show v*(a'*f)=f*(a'*v) by rw[Int.mul_comm v,Int.mul_assoc,Int.mul_left_comm],Int.mul_comm w f];omega
    rw[e4];exact Int.dvd_sub (Int.dvd_trans d (Int.dvd_mul_left _ _)) (Int.dvd_trans d1 (Int.dvd_mul_left _ _))
  refine (made_ok mp (Int.emod_nonneg _ (by omega)) (Int.emod_lt_of_pos _ mp)).imp λ v=>⟨λ m=>?_,λ m=>?_⟩
  ·obtain⟨x,y⟩:=(U_2 ha).mp ⟨m.l,m.h⟩
   exact⟨x,y,(cls v).mp m.r⟩
  ·obtain⟨x,y⟩:=(U_2 ha).mpr ⟨m.l,m.h⟩
   exact⟨x,y,(cls v).mpr m.r⟩
 ·rw[if_neg h]
  intro v m;refine h (Int.emod_eq_zero_of_dvd ?_);have d:g ∣ a*v+b-s.re:=Int.dvd_trans ⟨m',em⟩ ((aC8 c.r0 c.r1).mp m.r);have d2:g ∣ a*v:=⟨a'*v,by rw[ea,Int.mul_assoc]⟩
  have:=Int.dvd_sub d2 d;rw[show a*v-(a*v+b-s.re)=s.re-b by omega] at this
  exact this
structure EI (a m g o s t:Int):Prop where
 g0:0<=g
 o0:0<=o
 gm:g<=m
 om:o<=m
 go:0<g+o
 cs:m ∣ a*s-g
 ct:m ∣ a*t-o
 dv:∀ d,d ∣ g->d ∣ o->d ∣ a % m/\d ∣ m
 sm:s.natAbs<=m.toNat
 tm:t.natAbs<=m.toNat
 pr:s.natAbs*o.toNat+t.natAbs*g.toNat<=m.toNat
theorem EI.start {a m:Int} (hm:0<m):EI a m (a % m) m 1 0:=by
 have h0:=Int.emod_nonneg a (Int.ne_of_gt hm);have h1:=Int.emod_lt_of_pos a hm;refine⟨h0,by omega,by omega,Int.le_refl _,by omega,?_,?_,λ d x y=>⟨x,y⟩,?_,by simp,by simp⟩
 ·rw[Int.mul_one];exact Int.dvd_self_sub_emod
 ·rw[Int.mul_zero];exact⟨-1,by omega⟩
 ·show (1:Nat)<=_;omega
theorem EI.turn {a m g o s t:Int} (E:EI a m g o s t) (h:o≠0):EI a m o (g-g / o*o) t (s-g / o*t)/\(g-g / o*o).toNat<o.toNat:=by
 have:=E.o0;have op:0<o:=by omega
 have e:g-g / o*o=g % o:=by rw[Int.emod_def,Int.mul_comm]
 have r0:=Int.emod_nonneg g (Int.ne_of_gt op);have r1:=Int.emod_lt_of_pos g op;have q0:0<=g / o:=Int.ediv_nonneg E.g0 E.o0
 have prod:t.natAbs*(g % o).toNat+(s-g / o*t).natAbs*o.toNat<=m.toNat:=by
  have h1:(s-g / o*t).natAbs<=s.natAbs+(g / o).toNat*t.natAbs:=by
   refine Nat.le_trans (Int.natAbs_sub_le _ _) ?_;rw[Int.natAbs_mul,show (g / o).natAbs=(g / o).toNat by omega]
   exact qi _
  have h2:g.toNat=o.toNat*(g / o).toNat+(g % o).toNat:=by
   have:=Int.mul_ediv_add_emod g o
   have e1:((o.toNat*(g / o).toNat:Nat):Int)=o*(g / o):=by
    rw[Int.natCast_mul,Int.toNat_of_nonneg E.o0,Int.toNat_of_nonneg q0]
   omega
  have h3:=E.pr;rw[h2] at h3;have h4:=Nat.mul_le_mul_right o.toNat h1;rw[Nat.add_mul] at h4;rw[Nat.mul_add] at h3
  have h5:(g / o).toNat*t.natAbs*o.toNat=t.natAbs*(o.toNat*(g / o).toNat):=by
   rw[Nat.mul_comm _ t.natAbs,Nat.mul_assoc,Nat.mul_comm o.toNat]
  omega
 rw[e];refine⟨⟨E.o0,r0,E.om,by have:=E.om;omega,by omega,E.ct,?_,λ d x y=>?_,E.tm,?_,prod⟩,by omega⟩
 ·rw[show a*(s-g / o*t)-g % o=(a*s-g)-g / o*(a*t-o) by
   rw[<- e,Int.mul_sub,Int.mul_sub,show a*(g / o*t)=g / o*(a*t) by rw[Int.mul_left_comm]];omega]
  exact Int.dvd_sub E.cs (Int.dvd_trans E.ct (Int.dvd_mul_left _ _))
 ·refine E.dv d ?_ x
  have:=Int.mul_ediv_add_emod g o;rw[<- this];exact Int.dvd_add (Int.dvd_trans x (Int.dvd_mul_right _ _)) y
 ·have:(s-g / o*t).natAbs*o.toNat<=m.toNat:=Nat.le_trans (Nat.le_add_left _ _) prod
  exact Nat.le_trans (Nat.le_mul_of_pos_right _ (by omega)) this
theorem EI.fin {a m g s t:Int} (hm:0<m) (E:EI a m g 0 s t):Euc a m g s:=by
 obtain⟨h1,h2⟩:=E.dv g (Int.dvd_refl g) (Int.dvd_zero g);have:=E.g0;have:=E.go;refine⟨by omega,?_,h2,E.cs⟩
 have:=Int.mul_ediv_add_emod a m;rw[<- this];exact Int.dvd_add (Int.dvd_trans h2 (Int.dvd_mul_right _ _)) h1
structure Bd (s:S) (n:Nat):Prop where
 st:s.st.natAbs<=n
 re:s.re.natAbs<=n
 lo:∀ l,s.lo=some l->l.natAbs<=n
 hi:∀ l,s.hi=some l->l.natAbs<=n
def BdO (r:Option S) (n:Nat):Prop:=∀ s,r=some s->Bd s n
theorem Bd.mono {s:S}{n m:Nat} (b:Bd s n) (h:n<=m):Bd s m:=⟨Nat.le_trans b.st h,Nat.le_trans b.re h,λ l e=>Nat.le_trans (b.lo l e) h,λ l e=>Nat.le_trans (b.hi l e) h⟩
def OB (o:Option Int) (n:Nat):Prop:=∀ l,o=some l->l.natAbs<=n
theorem made_bd {lo hi:Option Int}{st re:Int}{n m:Nat} (h1:OB lo n) (h2:OB hi n) (h3:st.natAbs<=m) (hp:0<st):BdO (made lo hi st re) (n+m):=λ s e=>by
 unfold made at e
 by_cases h:0<=re/\re<st
 ·rw[if_pos h] at e
  have f1:OB (first lo st re) (n+m):=λ l q=>by
   cases lo with
   |none=>cases q
   |some x =>
    cases q;have:=h1 x rfl;have a:=Int.emod_nonneg (re-x) (Int.ne_of_gt hp);have b:=Int.emod_lt_of_pos (re-x) hp;show (x+(re-x) % st).natAbs<=n+m;omega
  have f2:OB (last hi st re) (n+m):=λ l q=>by
   cases hi with
   |none=>cases q
   |some x =>
    cases q;have:=h2 x rfl;have a:=Int.emod_nonneg (x-re) (Int.ne_of_gt hp);have b:=Int.emod_lt_of_pos (x-re) hp;show (x-(x-re) % st).natAbs<=n+m;omega
  generalize first lo st re=f at e f1
  generalize last hi st re=g at e f2
  have fin:∀ st' re',st'.natAbs<=n+m->re'.natAbs<=n+m->Bd ⟨f,g,st',re'⟩ (n+m):=λ st' re' a b=>⟨a,b,f1,f2⟩
  unfold made2 at e
  split at e
  ·split at e
   ·cases e
   ·split at e
    ·cases e;exact fin 1 0 (by show 1<=n+m;omega) (by show 0<=n+m;omega)
    ·cases e;exact fin st re (by omega) (by omega)
  ·cases e;exact fin st re (by omega) (by omega)
 ·rw[if_neg h] at e;cases e
theorem ae3 {x a:Int} (h:a≠0):(x.fdiv a).natAbs<=x.natAbs:=by
 by_cases hp:0<a
 ·rw[Int.fdiv_eq_ediv_of_nonneg _ (by omega)];exact Int.natAbs_ediv_le_natAbs _ _
 ·rw[<- Int.neg_fdiv_neg,Int.fdiv_eq_ediv_of_nonneg _ (by omega)]
  exact Nat.le_trans (Int.natAbs_ediv_le_natAbs _ _) (by rw[Int.natAbs_neg];exact qi _)
theorem back_bd {s:S}{a b g f:Int}{n:Nat} (c:Canon s) (E:Euc a s.st g f) (ha:a≠0) (bs:Bd s n) (hb:b.natAbs<=n):BdO (back2 s a b g f) (n+n+n):=by
 unfold back2
 split
 ·have gp:=E.pos
  have sp:0<s.st / g:=by
   obtain⟨m',em⟩:=E.dm;rw[em,Int.mul_ediv_cancel_left _ (by omega)]
   have:=c.pos;rw[em] at this;exact Int.pos_of_mul_pos_right this (by omega)
  refine made_bd (n:=n+n) (λ l e=>?_) (λ l e=>?_) ?_ sp
  ·unfold bkLo at e
   cases q:(if 0<a then s.lo else s.hi) with
   |none=>rw[q] at e;cases e
   |some x =>
    rw[q] at e;cases e
    have hx:x.natAbs<=n:=by
     split at q
     ·exact bs.lo x q
     ·exact bs.hi x q
    have:=ae3 (x:=b-x) ha;show (-(b-x).fdiv a).natAbs<=n+n;omega
  ·unfold bkHi at e
   cases q:(if 0<a then s.hi else s.lo) with
   |none=>rw[q] at e;cases e
   |some x =>
    rw[q] at e;cases e
    have hx:x.natAbs<=n:=by
     split at q
     ·exact bs.hi x q
     ·exact bs.lo x q
    have:=ae3 (x:=x-b) ha;show ((x-b).fdiv a).natAbs<=n+n;omega
  ·exact Nat.le_trans (Int.natAbs_ediv_le_natAbs _ _) bs.st
 ·intro s e;cases e
theorem aA5 {a b:Int}{o:Option Int}{m n:Nat} (h:OB o n) (ha:a.natAbs<=m) (hb:b.natAbs<=m):OB (mv a b o) (m*n+m):=λ l e=>by
 cases o with
 |none=>cases e
 |some x =>
  cases e;have h1:=h x rfl;have h2:=Int.natAbs_add_le (a*x) b;rw[Int.natAbs_mul] at h2;have h3:=Nat.mul_le_mul ha h1;show (a*x+b).natAbs<=m*n+m;omega
theorem ab_abs (a:Int):(ab a).natAbs=a.natAbs:=by unfold ab;split <;> omega
theorem moved_bd {s:S}{a b:Int}{m n:Nat} (c:Canon s) (ha:a≠0) (bs:Bd s n) (h1:a.natAbs<=m) (h2:b.natAbs<=m):BdO (moved s a b) (m*n+m+m*n):=by
 have hS:0<ab a*s.st:=Int.mul_pos (ab_pos ha) c.pos;have hst:(ab a*s.st).natAbs<=m*n:=by rw[Int.natAbs_mul,ab_abs];exact Nat.mul_le_mul h1 bs.st
 unfold moved
 split
 ·exact made_bd (aA5 bs.hi h1 h2) (aA5 bs.lo h1 h2) hst hS
 ·exact made_bd (aA5 bs.lo h1 h2) (aA5 bs.hi h1 h2) hst hS
def lowB (a b:Option Int):Option Int:=match a,b with
 |none,b=>b
 |a,none=>a
 |some x,some y=>some (if y > x then y else x)
def uppB (a b:Option Int):Option Int:=match a,b with
 |none,b=>b
 |a,none=>a
 |some x,some y=>some (if y<x then y else x)
theorem lowB_iff {a b:Option Int}{v:Int}:leO (lowB a b) v↔leO a v/\leO b v:=by
 cases a with
 |none=>exact⟨λ h=>⟨λ l e=>(nomatch e),h⟩,λ h=>h.2⟩
 |some x =>
  cases b with
  |none=>exact⟨λ h=>⟨h,λ l e=>(nomatch e)⟩,λ h=>h.1⟩
  |some y =>
   constructor
   ·intro h
    have:=h _ rfl;refine⟨λ l e=>?_,λ l e=>?_⟩ <;> cases e <;> split at this <;> omega
   ·rintro ⟨h1,h2⟩ l e
    cases e;have:=h1 x rfl;have:=h2 y rfl
    split <;> omega
theorem uppB_iff {a b:Option Int}{v:Int}:geO (uppB a b) v↔geO a v/\geO b v:=by
 cases a with
 |none=>exact⟨λ h=>⟨λ l e=>(nomatch e),h⟩,λ h=>h.2⟩
 |some x =>
  cases b with
  |none=>exact⟨λ h=>⟨h,λ l e=>(nomatch e)⟩,λ h=>h.1⟩
  |some y =>
   constructor
   ·intro h
    have:=h _ rfl;refine⟨λ l e=>?_,λ l e=>?_⟩ <;> cases e <;> split at this <;> omega
   ·rintro ⟨h1,h2⟩ l e
    cases e;have:=h1 x rfl;have:=h2 y rfl
    split <;> omega
theorem aO1 {a b:Option Int}{n:Nat} (h1:OB a n) (h2:OB b n):OB (lowB a b) n:=λ l e=>by
 cases a with
 |none=>exact h2 l e
 |some x =>
  cases b with
  |none=>exact h1 l e
  |some y =>
   cases e;have:=h1 x rfl;have:=h2 y rfl
   split <;> omega
theorem aI8 {a b:Option Int}{n:Nat} (h1:OB a n) (h2:OB b n):OB (uppB a b) n:=λ l e=>by
 cases a with
 |none=>exact h2 l e
 |some x =>
  cases b with
  |none=>exact h1 l e
  |some y =>
   cases e;have:=h1 x rfl;have:=h2 y rfl
   split <;> omega
def between (s:S) (lo hi:Option Int):Option S:=made (lowB s.lo lo) (uppB s.hi hi) s.st s.re
theorem ai9 {s:S}{lo hi:Option Int} (c:Canon s):Tells (between s lo hi) (λ v=>mem s v/\leO lo v/\geO hi v):=by
 refine (made_ok c.pos c.r0 c.r1).imp λ v=>⟨λ m=>?_,fun⟨m,a,b⟩=>?_⟩
 ·obtain⟨a,b⟩:=lowB_iff.mp m.l
  obtain⟨a',b'⟩:=uppB_iff.mp m.h;exact⟨⟨a,a',m.r⟩,b,b'⟩
 ·exact⟨lowB_iff.mpr ⟨m.l,a⟩,uppB_iff.mpr ⟨m.h,b⟩,m.r⟩
theorem aj1 {s:S}{lo hi:Option Int}{n:Nat} (c:Canon s) (bs:Bd s n) (h1:OB lo n) (h2:OB hi n):BdO (between s lo hi) (n+n) :=
 made_bd (aO1 bs.lo h1) (aI8 bs.hi h2) bs.st c.pos
def meet2 (one other:S) (g f:Int):Option S:=match back2 other one.st one.re g f with
 |none=>none
 |some t=>match moved t one.st one.re with
  |none=>none
  |some u=>between u one.lo one.hi
theorem meet_ok {one other:S}{g f:Int} (c1:Canon one) (c2:Canon other) (E:Euc one.st other.st g f):Tells (meet2 one other g f) (λ v=>mem one v/\mem other v):=by
 have hb:=back_ok (b:=one.re) c2 (by have:=c1.pos;omega) E
 have cls:∀ v,v % one.st=one.re↔∃ k,v=one.st*k+one.re:=λ v=>by
  constructor
  ·intro h
   refine⟨v / one.st,?_⟩;have:=Int.mul_ediv_add_emod v one.st;omega
  ·rintro ⟨k,rfl⟩
   rw[Int.mul_add_emod_self_left,Int.emod_eq_of_lt c1.r0 c1.r1]
 unfold meet2;cases e:back2 other one.st one.re g f with
 |none =>
  rw[e] at hb;intro v ⟨m1,m2⟩;obtain⟨k,rfl⟩:=(cls v).mp m1.r;exact hb k m2
 |some t =>
  rw[e] at hb;obtain⟨u,eu,cu,hu,_⟩:=moved_some (b:=one.re) hb.1 (show one.st≠0 by have:=c1.pos;omega)
  dsimp only;rw[eu];dsimp only;refine (ai9 cu).imp λ v=>⟨fun⟨m,a,b⟩=>?_,fun⟨m1,m2⟩=>?_⟩
  ·obtain⟨k,mk,rfl⟩:=(hu v).mp m
   exact⟨⟨a,b,(cls _).mpr ⟨k,rfl⟩⟩,(hb.2 k).mp mk⟩
  ·obtain⟨k,rfl⟩:=(cls v).mp m1.r
   exact⟨(hu _).mpr ⟨k,(hb.2 k).mpr m2,rfl⟩,m1.l,m1.h⟩
theorem meet_bd {one other:S}{g f:Int}{n:Nat} (c1:Canon one) (c2:Canon other) (E:Euc one.st other.st g f) (h1:1<=n) (b1:Bd one n) (b2:Bd other n):BdO (meet2 one other g f) (16*(n*n)):=by
 have ha:one.st≠0:=by have:=c1.pos;omega
 have hb:=back_ok (b:=one.re) c2 ha E;have hbb:=back_bd c2 E ha b2 b1.re;have nn:n<=n*n:=Nat.le_mul_of_pos_left n h1;intro s e;unfold meet2 at e;cases q:back2 other one.st one.re g f with
 |none=>rw[q] at e;cases e
 |some t =>
  rw[q] at e hb;have bt:=hbb t q;dsimp only at e;cases q2:moved t one.st one.re with
  |none=>rw[q2] at e;cases e
  |some u =>
   rw[q2] at e;have bu:=moved_bd hb.1 ha bt b1.st b1.re u q2
   have cu:Canon u:=by
    have:=ac7 (b:=one.re) hb.1 ha;rw[q2] at this;exact this.1
   have e1:n*(n+n+n)=n*n+n*n+n*n:=by rw[Nat.mul_add,Nat.mul_add]
   have bu':=bu.mono (m:=8*(n*n)) (by omega)
   refine (aj1 cu bu' (λ l z=>Nat.le_trans (b1.lo l z) (by omega)) (λ l z=>Nat.le_trans (b1.hi l z) (by omega)) s e).mono (by omega)
end St
namespace Fx
open PySem
def dO:Option Int->D
 |none=>.non
 |some i=>.int i
def dS (s:St.S):D:=.tup [dO s.lo,dO s.hi,.int s.st,.int s.re]
def dOS:Option St.S->D
 |none=>.non
 |some s=>dS s
@[simp] theorem f_8:dO none=.non:=rfl
@[simp] theorem k_4 (i:Int):dO (some i)=.int i:=rfl
@[simp] theorem aC2:dOS none=.non:=rfl
@[simp] theorem aC1 (s:St.S):dOS (some s)=dS s:=rfl
@[simp] theorem aC0 (lo hi:Option Int) (st re:Int):dS ⟨lo,hi,st,re⟩=.tup [dO lo,dO hi,.int st,.int re]:=rfl
@[simp] theorem bC2 (s:St.S):isN (dS s)=false:=rfl
theorem b_5 {a b:Int} (h:0<b):a.fmod b=a % b:=Int.fmod_eq_emod_of_nonneg a (by omega)
theorem q_5 (lo hi:Option Int) (st re:Int):a_3 [dO lo,dO hi,.int st,.int re]=some (dOS (St.made lo hi st re)):=by
 by_cases h:0<=re/\re<st
 ·have hp:0<st:=by omega
  have hn:¬ st=0:=by omega
  unfold St.made;rw[if_pos h];cases lo with
  |none =>
   cases hi with
   |none=>simp[a_3,d_8,h.1,h.2,hn,St.made2,St.first,St.last]
   |some y=>simp[a_3,d_8,h.1,h.2,hn,St.made2,St.first,St.last,b_5 hp]
  |some x =>
   cases hi with
   |none=>simp[a_3,d_8,h.1,h.2,hn,St.made2,St.first,St.last,b_5 hp]
   |some y =>
    simp only[St.made2,St.first,St.last,Option.map_some]
    by_cases h1:y-(y-re) % st<x+(re-x) % st
    ·simp[a_3,d_8,h.1,h.2,hn,b_5 hp,h1]
    ·by_cases h2:x+(re-x) % st=y-(y-re) % st
     ·simp[a_3,d_8,h.1,h.2,hn,b_5 hp,h2]
     ·simp[a_3,d_8,h.1,h.2,hn,b_5 hp,h1,h2]
 ·rw[St.made_none h]
  by_cases h1:0<=re
  ·have h2:¬ re<st:=λ z=>h ⟨h1,z⟩
   simp[a_3,d_8,h1,h2]
  ·simp[a_3,d_8,h1]
def leB (lo:Option Int) (v:Int):Bool:=match lo with | none=>true | some l=>decide (l<=v)
def geB (hi:Option Int) (v:Int):Bool:=match hi with | none=>true | some h=>decide (v<=h)
def hasB (s:St.S) (v:Int):Bool:=leB s.lo v&&geB s.hi v&&decide (v % s.st=s.re)
theorem aq0 {lo:Option Int}{v:Int}:leB lo v=true↔St.leO lo v:=by
 cases lo with
 |none=>exact⟨λ _ l e=>(nomatch e),λ _=>rfl⟩
 |some l=>exact⟨λ h x e=>by cases e;exact of_decide_eq_true h,λ h=>decide_eq_true (h l rfl)⟩
theorem as1 {lo:Option Int}{v:Int}:geB lo v=true↔St.geO lo v:=by
 cases lo with
 |none=>exact⟨λ _ l e=>(nomatch e),λ _=>rfl⟩
 |some l=>exact⟨λ h x e=>by cases e;exact of_decide_eq_true h,λ h=>decide_eq_true (h l rfl)⟩
theorem hasB_iff {s:St.S}{v:Int}:hasB s v=true↔St.mem s v:=by
 unfold hasB;rw[Bool.and_eq_true,Bool.and_eq_true,aq0,as1,decide_eq_true_iff];exact⟨fun⟨⟨a,b⟩,c⟩=>⟨a,b,c⟩,λ m=>⟨⟨m.l,m.h⟩,m.r⟩⟩
theorem aE0 (a:Int):(a.natAbs:Int)=St.ab a:=by unfold St.ab;split <;> omega
theorem S_6 {s:St.S} (hp:0<s.st) {a b:Int} (ha:a≠0) (ok:∀ x,(x=s.re\/s.lo=some x\/s.hi=some x)->l_6 a x=true) (ok':l_6 (St.ab a) s.st=true):c_1 [dS s,.int a,.int b]=some (dOS (St.moved s a b)):=by
 obtain⟨lo,hi,st,re⟩:=s;have hp:0<st:=hp;have okr:l_6 a re=true:=ok re (.inl rfl);have ok':l_6 (St.ab a) st=true:=ok';have hS:0<St.ab a*st:=Int.mul_pos (St.ab_pos ha) hp;have hn:¬ St.ab a*st=0:=by omega
 have two:(2:Nat)<=sizeLine:=by decide
 have four:(4:Nat)<=sizeLine:=by decide
 have md:∀ lo hi,a_3 [dO lo,dO hi,.int (St.ab a*st),.int ((a*re+b) % (St.ab a*st))]=some (dOS (St.made lo hi (St.ab a*st) ((a*re+b) % (St.ab a*st)))):=λ lo hi=>q_5 _ _ _ _
 unfold St.moved;have ix0:∀ x y:D,atD [x,y] 0=some x:=λ _ _=>rfl
 have ix1:∀ x y:D,atD [x,y] 1=some y:=λ _ _=>rfl
 have ix2:∀ x y z w:D,atD [x,y,z,w] 2=some z:=λ _ _ _ _=>rfl
 have ix3:∀ x y z w:D,atD [x,y,z,w] 3=some w:=λ _ _ _ _=>rfl
 have cut:∀ x y z w:D,aI1 [x,y,z,w] none (some 2)=[x,y]:=λ _ _ _ _=>rfl
 have e2:¬ (ae8 4 0 none=0/\ae8 4 4 (some 2)=4):=by decide
 cases lo with
 |none =>
  cases hi with
  |none =>
   have q:=md none none;simp only[f_8] at q
   by_cases h:a<0 <;> simp[c_1,i_9,ix0,ix1,ix2,ix3,cut,e2,h,okr,ok',aE0,hn,b_5 hS,two,St.mv,q]
  |some y =>
   have oky:l_6 a y=true:=ok y (.inr (.inr rfl));have q1:=md (some (a*y+b)) none;have q2:=md none (some (a*y+b));simp only[f_8,k_4] at q1 q2
   by_cases h:a<0 <;> simp[c_1,i_9,ix0,ix1,ix2,ix3,cut,e2,h,okr,oky,ok',aE0,hn,b_5 hS,two,St.mv,q1,q2]
 |some x =>
  have okx:l_6 a x=true:=ok x (.inr (.inl rfl));cases hi with
  |none =>
   have q1:=md (some (a*x+b)) none;have q2:=md none (some (a*x+b));simp only[f_8,k_4] at q1 q2
   by_cases h:a<0 <;> simp[c_1,i_9,ix0,ix1,ix2,ix3,cut,e2,h,okr,okx,ok',aE0,hn,b_5 hS,two,St.mv,q1,q2]
  |some y =>
   have oky:l_6 a y=true:=ok y (.inr (.inr rfl));have q1:=md (some (a*x+b)) (some (a*y+b));have q2:=md (some (a*y+b)) (some (a*x+b));simp only[k_4] at q1 q2
   by_cases h:a<0 <;> simp[c_1,i_9,ix0,ix1,ix2,ix3,cut,e2,h,okr,okx,oky,ok',aE0,hn,b_5 hS,two,St.mv,q1,q2]
theorem o_1 {a b:Int} (h:0<b):a.fdiv b=a / b:=Int.fdiv_eq_ediv_of_nonneg a (by omega)
theorem B_6 {i:Int}{m:Nat} (h:i.natAbs<=m) (hm:m<2 ^ 1000):aj9 i=true:=decide_eq_true (Nat.lt_of_le_of_lt h hm)
theorem u_0 {i j:Int} (h:aj9 i=true) (h':aj9 j=true):l_6 i j=true:=by unfold l_6;rw[h,h'];simp
theorem M_8 {j:Int} (h:j≠0) (h':aj9 j=true):z_7 j=true:=by
 unfold z_7;unfold aj9 at h';rw[h',decide_eq_true h];rfl
abbrev eT:FT:=l_7
abbrev eB:FS:=l_8
abbrev eE (a m g s o t:Int) (x y:Sl):En:=[.im (.int a),.im (.int m),.im (.int g),.im (.int s),.im (.int o),.im (.int t),x,y]
theorem aH4 {a m:Int} (hb:m.toNat<2 ^ 1000):∀ (n:Nat) (g o s t:Int) (x y:Sl),St.EI a m g o s t->o.toNat<n ->
  ∃ g' s' t' x' y',wGo eT eB n (eE a m g s o t x y)=some (.nx (eE a m g' s' 0 t' x' y'))/\St.EI a m g' 0 s' t'
 |0,_,_,_,_,_,_,_,h=>by omega
 |n+1,g,o,s,t,x,y,E,h=>by
  rw[aX2]
  by_cases ho:o=0
  ·subst ho
   refine⟨g,s,t,x,y,?_,E⟩;simp
  ·have:=E.o0;have:=E.g0;have:=E.gm;have:=E.om
   have op:0<o:=by omega
   have bo:aj9 o=true:=B_6 (m:=m.toNat) (by omega) hb
   have q0:0<=g / o:=Int.ediv_nonneg E.g0 E.o0;have q1:g / o<=g:=Int.ediv_le_self _ E.g0;have bq:aj9 (g / o)=true:=B_6 (m:=m.toNat) (by omega) hb
   have bt:aj9 t=true:=B_6 E.tm hb;have k1:=u_0 bq bo;have k2:=u_0 bq bt;have k3:=M_8 ho bo;obtain⟨E',l⟩:=E.turn ho;obtain⟨g',s',t',x',y',e,E2⟩:=aH4 hb n o (g-g / o*o) t (s-g / o*t) (.im (.int (g / o))) (.im (.int (s-g / o*t))) E' (by omega)
   refine⟨g',s',t',x',y',?_,E2⟩;rw[<- e];simp[ho,k1,k2,k3,o_1 op]
theorem bg7 {a m:Int} (hm:0<m) (hb:m.toNat<2 ^ 1000):∃ g f,d_2 [.int a,.int m]=some (.tup [.int g,.int f])/\St.Euc a m g f/\f.natAbs<=m.toNat:=by
 obtain⟨g,f,t,x,y,e,E⟩:=aH4 hb (m.toNat+2) (a % m) m 1 0 .no .no (St.EI.start hm) (by omega)
 refine⟨g,f,?_,E.fin hm,E.sm⟩;have hn:¬ m=0:=by omega
 have e':wGo eT eB (m.toNat+2) [.im (.int a),.im (.int m),.im (.int (a % m)),.im (.int 1),.im (.int m),.im (.int 0),.no,.no]=_:=e;simp[d_2,o_0,hn,b_5 hm,List.replicate,e']
theorem bK4:(2:Nat) ^ 900+2 ^ 900<2 ^ 1000:=by
 have h1:(2:Nat) ^ 901=2 ^ 900*2:=Nat.pow_succ 2 900;have h2:(2:Nat) ^ 901<2 ^ 1000:=Nat.pow_lt_pow_right (by decide) (by decide)
 omega
theorem aw0 {s:St.S} (hp:0<s.st) (hb:s.st.toNat<2 ^ 900) (r0:0<=s.re) (r1:s.re<s.st) {a b:Int} (ha:a≠0) (ba:a.natAbs<2 ^ 900) (bb:b.natAbs<2 ^ 900) :
  ∃ g f,St.Euc a s.st g f/\b_4 [dS s,.int a,.int b]=some (dOS (St.back2 s a b g f)):=by
 obtain⟨lo,hi,st,re⟩:=s;have hp:0<st:=hp;have hb:st.toNat<2 ^ 900:=hb;have r0:0<=re:=r0;have r1:re<st:=r1;have p9:(2:Nat) ^ 900+2 ^ 900<2 ^ 1000:=bK4;obtain⟨g,f,e,E,fm⟩:=bg7 (a:=a) hp (m:=st) (by omega)
 refine⟨g,f,E,?_⟩;have gp:=E.pos;have gl:g<=st:=Int.le_of_dvd hp E.dm;have gn:¬ g=0:=by omega
 have kg:=M_8 (j:=g) (by omega) (B_6 (m:=st.toNat) (by omega) (by omega))
 have ka:=M_8 (j:=a) ha (B_6 (m:=a.natAbs) (qi _) (by omega))
 have aw:((re-b) / g).natAbs<=2 ^ 900+2 ^ 900:=by
  have h1:(re-b).natAbs<=2 ^ 900+2 ^ 900:=by omega
  refine Nat.le_trans ?_ h1;exact Int.natAbs_ediv_le_natAbs _ _
 have k1:=u_0 (i:=(re-b) / g) (j:=f) (B_6 aw (by omega)) (B_6 fm (by omega))
 have sp:0<st / g:=by
  obtain⟨m',em⟩:=E.dm;rw[em,Int.mul_ediv_cancel_left _ gn];rw[em] at hp;exact Int.pos_of_mul_pos_right hp (by omega)
 have sn:¬ st / g=0:=by omega
 have ix0:∀ x y:D,atD [x,y] 0=some x:=λ _ _=>rfl
 have ix1:∀ x y:D,atD [x,y] 1=some y:=λ _ _=>rfl
 have iy0:∀ x y z w:D,atD [x,y,z,w] 0=some x:=λ _ _ _ _=>rfl
 have iy1:∀ x y z w:D,atD [x,y,z,w] 1=some y:=λ _ _ _ _=>rfl
 have ix2:∀ x y z w:D,atD [x,y,z,w] 2=some z:=λ _ _ _ _=>rfl
 have ix3:∀ x y z w:D,atD [x,y,z,w] 3=some w:=λ _ _ _ _=>rfl
 have md:∀ lo hi,a_3 [dO lo,dO hi,.int (st / g),.int ((re-b) / g*f % (st / g))]=some (dOS (St.made lo hi (st / g) ((re-b) / g*f % (st / g)))):=λ lo hi=>q_5 _ _ _ _
 unfold St.back2 St.bkLo St.bkHi;dsimp only
 by_cases hd:(re-b) % g=0
 ·rw[if_pos hd]
  by_cases h:0<a
  ·simp only[h,if_true]
   cases lo with
   |none =>
    cases hi with
    |none =>
     have q:=md none none;simp only[f_8] at q;simp[b_4,d_0,ha,e,ix0,ix1,ix2,ix3,iy0,iy1,gn,b_5 gp,o_1 gp,hd,kg,ka,k1,h,sn,b_5 sp,q]
    |some y =>
     have q:=md none (some ((y-b).fdiv a));simp only[f_8,k_4] at q;simp[b_4,d_0,ha,e,ix0,ix1,ix2,ix3,iy0,iy1,gn,b_5 gp,o_1 gp,hd,kg,ka,k1,h,sn,b_5 sp,q]
   |some x =>
    cases hi with
    |none =>
     have q:=md (some (-(b-x).fdiv a)) none;simp only[f_8,k_4] at q;simp[b_4,d_0,ha,e,ix0,ix1,ix2,ix3,iy0,iy1,gn,b_5 gp,o_1 gp,hd,kg,ka,k1,h,sn,b_5 sp,q]
    |some y =>
     have q:=md (some (-(b-x).fdiv a)) (some ((y-b).fdiv a));simp only[f_8,k_4] at q;simp[b_4,d_0,ha,e,ix0,ix1,ix2,ix3,iy0,iy1,gn,b_5 gp,o_1 gp,hd,kg,ka,k1,h,sn,b_5 sp,q]
  ·simp only[h,if_false]
   cases lo with
   |none =>
    cases hi with
    |none =>
     have q:=md none none;simp only[f_8] at q;simp[b_4,d_0,ha,e,ix0,ix1,ix2,ix3,iy0,iy1,gn,b_5 gp,o_1 gp,hd,kg,ka,k1,h,sn,b_5 sp,q]
    |some y =>
     have q:=md (some (-(b-y).fdiv a)) none;simp only[f_8,k_4] at q;simp[b_4,d_0,ha,e,ix0,ix1,ix2,ix3,iy0,iy1,gn,b_5 gp,o_1 gp,hd,kg,ka,k1,h,sn,b_5 sp,q]
   |some x =>
    cases hi with
    |none =>
     have q:=md none (some ((x-b).fdiv a));simp only[f_8,k_4] at q;simp[b_4,d_0,ha,e,ix0,ix1,ix2,ix3,iy0,iy1,gn,b_5 gp,o_1 gp,hd,kg,ka,k1,h,sn,b_5 sp,q]
    |some y =>
     have q:=md (some (-(b-y).fdiv a)) (some ((x-b).fdiv a));simp only[f_8,k_4] at q;simp[b_4,d_0,ha,e,ix0,ix1,ix2,ix3,iy0,iy1,gn,b_5 gp,o_1 gp,hd,kg,ka,k1,h,sn,b_5 sp,q]
 ·rw[if_neg hd]
  simp[b_4,d_0,ha,e,ix0,ix1,ix2,ix3,iy0,iy1,gn,b_5 gp,hd]
theorem f_0 (x y z w:D):atD [x,y,z,w] 0=some x:=rfl
theorem r_6 (x y z w:D):atD [x,y,z,w] 1=some y:=rfl
theorem q_6 (x y z w:D):atD [x,y,z,w] 2=some z:=rfl
theorem e_5 (x y z w:D):atD [x,y,z,w] 3=some w:=rfl
@[simp] theorem bF1 (o:Option Int):dpD (dO o)=0:=by cases o <;> rfl
@[simp] theorem bC3 (o:Option Int):isN (dO o)=o.isNone:=by cases o <;> rfl
theorem bd5 (a b:Option Int):h_2 [dO a,dO b]=some (dO (St.lowB a b)):=by
 cases a with
 |none=>cases b <;> simp[h_2,s_7,St.lowB]
 |some x=>cases b <;> simp[h_2,s_7,St.lowB]
theorem aE5 (a b:Option Int):e_2 [dO a,dO b]=some (dO (St.uppB a b)):=by
 cases a with
 |none=>cases b <;> simp[e_2,s_6,St.uppB]
 |some x=>cases b <;> simp[e_2,s_6,St.uppB]
theorem aj0 (s:St.S) (lo hi:Option Int):e_9 [dS s,dO lo,dO hi]=some (dOS (St.between s lo hi)):=by
 obtain⟨l,h,st,re⟩:=s;simp[e_9,r_8,f_0,r_6,q_6,e_5,bd5,aE5,q_5,St.between]
theorem A_3 {i:Int}{k:Nat} (h:i.natAbs<=2 ^ k) (hk:k<1000):aj9 i=true:=B_6 h (Nat.pow_lt_pow_right (by decide) hk)
theorem ah7 {n k:Nat} (h:n<=2 ^ k) (hk:k<900):n<2 ^ 900:=Nat.lt_of_le_of_lt h (Nat.pow_lt_pow_right (by decide) hk)
theorem aN7 {one other:St.S} (c1:St.Canon one) (c2:St.Canon other) {k:Nat} (hk:k<=450) (b1:St.Bd one (2 ^ k)) (b2:St.Bd other (2 ^ k)) :
  ∃ r,g_1 [dS one,dS other]=some (dOS r)/\St.Tells r (λ v=>St.mem one v/\St.mem other v)/\St.BdO r (2 ^ (2*k+4)):=by
 have ha:one.st≠0:=by have:=c1.pos;omega
 have p2:=c2.pos;have s2:=b2.st;obtain⟨g,f,E,e1⟩:=aw0 (a:=one.st) (b:=one.re) c2.pos (ah7 (k:=k) (by omega) (by omega)) c2.r0 c2.r1 ha (ah7 b1.st (by omega)) (ah7 b1.re (by omega))
 have n1:1<=2 ^ k:=Nat.one_le_two_pow;refine⟨St.meet2 one other g f,?_,St.meet_ok c1 c2 E,?_⟩
 ·have hb:=St.back_ok (b:=one.re) c2 ha E
  have hbb:=St.back_bd c2 E ha b2 b1.re;unfold St.meet2;cases q:St.back2 other one.st one.re g f with
  |none =>
   rw[q] at e1;obtain⟨l,h,st,re⟩:=one;simp only[aC2,aC0] at e1 ⊢;simp[g_1,q_9,q_6,e_5,e1]
  |some t =>
   rw[q] at e1 hb;have bt:=(hbb t q).mono (m:=2 ^ (k+2)) (by rw[Nat.pow_add];omega)
   have e2:=S_6 (b:=one.re) hb.1.pos ha (λ x hx=>u_0 (A_3 b1.st (by omega)) (by
     rcases hx with z | z | z
     ·rw[z];exact A_3 bt.re (by omega)
     ·exact A_3 (bt.lo x z) (by omega)
     ·exact A_3 (bt.hi x z) (by omega))) (u_0 (by
     have:(St.ab one.st).natAbs<=2 ^ k:=by rw[St.ab_abs];exact b1.st
     exact A_3 this (by omega)) (A_3 bt.st (by omega)))
   dsimp only;obtain⟨u,eu,_⟩:=St.moved_some (b:=one.re) hb.1 ha;rw[eu] at e2 ⊢;dsimp only;have e3:=aj0 u one.lo one.hi;obtain⟨l,h,st,re⟩:=one;simp only[aC1,aC0] at e1 e2 e3 ⊢;simp[g_1,q_9,f_0,r_6,q_6,e_5,e1,e2,e3]
 ·intro s e
  refine (St.meet_bd c1 c2 E n1 b1 b2 s e).mono ?_;rw[Nat.pow_add,Nat.two_mul,Nat.pow_add];omega
@[simp] theorem bO1 (s:St.S):dpD (dS s)<=30:=by obtain⟨l,h,st,re⟩:=s;simp
@[simp] theorem bF0 (r:Option St.S):dpD (dOS r)<=30:=by cases r <;> simp
theorem A_0 (ts:List Str) (k:Str):inK true ts k=decide (k∈ts):=by unfold inK;cases decide (k∈ts) <;> rfl
theorem C_5 (ts:List Str) (k:Str):inK false ts k=!decide (k∈ts):=by unfold inK;cases decide (k∈ts) <;> rfl
theorem aN6 {t1 t2:List Str}{x:Str}:x∈uni t1 t2↔x∈t1\/x∈t2:=by
 unfold uni;rw[(c_0 _).mem_iff,mem_addAll,List.mem_append];simp
def dK:Option (Bool×List Str)->D
 |none=>.non
 |some (o,ts)=>KK o ts
def inR:Option (Bool×List Str)->Str->Bool
 |none,_=>false
 |some (o,ts),k=>inK o ts k
theorem ax4 {s:St.S} (hp:0<s.st) (v:Int):c_2 [dS s,.int v]=some (.bl (hasB s v)):=by
 obtain⟨lo,hi,st,re⟩:=s;have hp:0<st:=hp;have hn:¬ st=0:=by omega
 unfold hasB;cases lo with
 |none =>
  cases hi with
  |none=>simp[c_2,e_6,hn,b_5 hp,leB,geB,f_0,r_6,q_6,e_5]
  |some y =>
   by_cases h:v<=y
   ·have h':¬ y<v:=by omega
    simp[c_2,e_6,hn,b_5 hp,leB,geB,f_0,r_6,q_6,e_5,h,h']
   ·have h':y<v:=by omega
    simp[c_2,e_6,hn,b_5 hp,leB,geB,f_0,r_6,q_6,e_5,h,h']
 |some x =>
  by_cases g:x<=v
  ·have g':¬ v<x:=by omega
   cases hi with
   |none=>simp[c_2,e_6,hn,b_5 hp,leB,geB,f_0,r_6,q_6,e_5,g,g']
   |some y =>
    by_cases h:v<=y
    ·have h':¬ y<v:=by omega
     simp[c_2,e_6,hn,b_5 hp,leB,geB,f_0,r_6,q_6,e_5,h,h',g,g']
    ·have h':y<v:=by omega
     simp[c_2,e_6,hn,b_5 hp,leB,geB,f_0,r_6,q_6,e_5,h,h',g,g']
  ·have g':v<x:=by omega
   simp[c_2,e_6,leB,f_0,r_6,q_6,e_5,g,g']
structure Bx where
 o:Bool
 ts:List Str
 bg:Int
 en:Option Int
 s:St.S
def dB (b:Bx):D:=.tup [KK b.o b.ts,.int b.bg,dO b.en,dS b.s]
def dBO:Option Bx->D
 |none=>.non
 |some b=>dB b
structure GB (b:Bx):Prop where
 l:b.ts.length<=9
 t0:0<=b.bg
 te:∀ e,b.en=some e->b.bg<e
 c:St.Canon b.s
 bd:St.Bd b.s (2 ^ 100)
def endB (en:Option Int) (t:Int):Bool:=match en with
 |none=>true
 |some e=>decide (t<e)
def hasX (b:Bx) (t:Int) (k:Str) (v:Int):Bool:=decide (b.bg<=t)&&endB b.en t&&inK b.o b.ts k&&hasB b.s v
def hasXO:Option Bx->Int->Str->Int->Bool
 |none,_,_,_=>false
 |some b,t,k,v=>hasX b t k v
def dTh (t:Int) (k:Str) (v:Int):D:=.tup [.int t,.str k,.int v]
theorem ar2 (x y z:D):atD [x,y,z] 0=some x:=rfl
theorem ar1 (x y z:D):atD [x,y,z] 1=some y:=rfl
theorem ar0 (x y z:D):atD [x,y,z] 2=some z:=rfl
theorem ad6 (o:Bool) (ts:List Str):isN (KK o ts)=false:=rfl
theorem J_4 (b:Bx):isN (dB b)=false:=rfl
theorem z_9 {b:Bx} (hp:0<b.s.st) (t:Int) (k:Str) (v:Int):f_3 [dB b,dTh t k v]=some (.bl (hasX b t k v)):=by
 obtain⟨o,ts,bg,en,s⟩:=b;have h1:=bu5 o ts k;have h2:=ax4 (s:=s) hp v;unfold hasX dB dTh;dsimp only
 by_cases h:t<bg
 ·have h':¬ bg<=t:=by omega
  simp[f_3,s_0,List.replicate,ar2,ar1,ar0,f_0,r_6,q_6,e_5,h,h']
 ·have h':bg<=t:=by omega
  cases en with
  |none=>cases hk:inK o ts k <;> rw[hk] at h1 <;> simp[f_3,s_0,List.replicate,ar2,ar1,ar0,f_0,r_6,q_6,e_5,h,h',h1,h2,endB]
  |some e =>
   by_cases q:e<=t
   ·have q':¬ t<e:=by omega
    simp[f_3,s_0,List.replicate,ar2,ar1,ar0,f_0,r_6,q_6,e_5,h,h',q,q',endB]
   ·have q':t<e:=by omega
    cases hk:inK o ts k <;> rw[hk] at h1 <;> simp[f_3,s_0,List.replicate,ar2,ar1,ar0,f_0,r_6,q_6,e_5,h,h',h1,h2,q,q',endB]
theorem F_0 {r:Option Bx} (hp:∀ b,r=some b->0<b.s.st) (t:Int) (k:Str) (v:Int):f_3 [dBO r,dTh t k v]=some (.bl (hasXO r t k v)):=by
 cases r with
 |none=>simp[f_3,s_0,List.replicate,dBO,hasXO]
 |some b=>exact z_9 (hp b rfl) t k v
def mkX (o:Bool) (ts:List Str) (bg:Int) (en:Option Int) (s:St.S):Option Bx:=match en with
 |none=>some ⟨o,ts,if 0 > bg then 0 else bg,none,s⟩
 |some e=>if e<=(if 0 > bg then 0 else bg) then none else some ⟨o,ts,if 0 > bg then 0 else bg,some e,s⟩
theorem n_3 (o:Bool) (ts:List Str) (bg:Int) (en:Option Int) (s:St.S):a_9 [KK o ts,.int bg,dO en,dS s]=some (dBO (mkX o ts bg en s)):=by
 cases en with
 |none=>simp[a_9,o_9,ad6,mkX,dBO,dB]
 |some e =>
  unfold mkX;dsimp only
  by_cases h:e<=(if 0 > bg then 0 else bg)
  ·simp only[h,if_true]
   simp at h;simp[a_9,o_9,ad6,dBO,dB,h]
  ·simp only[h,if_false]
   simp at h;have h':¬ (e<=if bg<0 then 0 else bg):=by omega
   simp[a_9,o_9,ad6,dBO,dB,h,h']
theorem ap1 (x y z:D):a_9 [.non,x,y,z]=some .non:=by simp[a_9,o_9]
theorem ap0 (o:Bool) (ts:List Str) (x y:D):a_9 [KK o ts,x,y,.non]=some .non:=by simp[a_9,o_9,ad6]
def mxI (a b:Int):Int:=if b > a then b else a
def mk2 (kr:Option (Bool×List Str)) (bg:Int) (en:Option Int) (sr:Option St.S):Option Bx:=match kr with
 |none=>none
 |some q=>match sr with
  |none=>none
  |some s=>mkX q.1 q.2 bg en s
theorem ad0 (kr:Option (Bool×List Str)) (bg:Int) (en:Option Int) (sr:Option St.S):a_9 [dK kr,.int bg,dO en,dOS sr]=some (dBO (mk2 kr bg en sr)):=by
 cases kr with
 |none=>exact ap1 _ _ _
 |some q =>
  cases sr with
  |none=>exact ap0 _ _ _ _
  |some s=>exact n_3 _ _ _ _ _
theorem aB6 (a b:Option Int) (t:Int):endB (St.uppB a b) t=(endB a t&&endB b t):=by
 cases a with
 |none=>cases b <;> simp[St.uppB,endB]
 |some x =>
  cases b with
  |none=>simp[St.uppB,endB]
  |some y =>
   simp only[St.uppB,endB];rw[Bool.eq_iff_iff];simp only[decide_eq_true_iff,Bool.and_eq_true]
   split <;> omega
theorem aO9 {o:Bool}{ts:List Str}{bg:Int}{en:Option Int}{s:St.S} (h0:0<=bg) (t:Int) (k:Str) (v:Int):hasXO (mkX o ts bg en s) t k v=(decide (bg<=t)&&endB en t&&inK o ts k&&hasB s v):=by
 have e:(if 0 > bg then 0 else bg)=bg:=if_neg (by omega)
 cases en with
 |none=>simp only[mkX,e];rfl
 |some x =>
  simp only[mkX,e]
  by_cases h:x<=bg
  ·rw[if_pos h]
   show false=_
   symm
   by_cases q:bg<=t
   ·have:¬ t<x:=by omega
    simp[endB,this]
   ·simp[q]
  ·rw[if_neg h];rfl
theorem S_8 (c k:Int):∃ r:Int,h_3 [.int c,.int k]=some (.int r)/\0<=r/\r<2147483647:=by
 have a:∀ x:Int,0<=Int.fmod x 2147483647/\Int.fmod x 2147483647<2147483647:=λ x=>⟨Int.fmod_nonneg_of_pos _ (by decide),Int.fmod_lt_of_pos _ (by decide)⟩
 have m1:∀ x:Int,l_6 x 48271=true:=λ x=>X_9 (by decide)
 have m2:l_6 7919 k=true:=s_2 (by decide)
 have m4:∀ x y:Int,l_6 (Int.fmod x 2147483647) y=true:=λ x y=>s_2 (by have:=a x;omega)
 have d1:z_7 1009=true:=M_7 (by decide) (by decide)
 exact⟨_,by simp[h_3,w_8,m1,m2,m4,d1];rfl,(a _).1,(a _).2⟩
theorem i_3 {ns:List Int} (hn:ns.length<=63) {o:MO} (h:r_0 ns o):∃ (r:Int) (o':MO),a_1 o []=some (.int r,o')/\0<=r/\r<2147483647/\r_0 ns o':=by
 obtain⟨wy,l,a,nb,kk,rfl,hl,ha,hk⟩:=h;obtain⟨l',a',e,hl',ha'⟩:=z_3 ns wy nb kk .no .no 64 l a hl ha (by omega) 200 (by decide)
 by_cases hp:0<l'
 ·have d1:z_7 1000003=true:=M_7 (by decide) (by decide)
  have f0:=Int.fmod_nonneg_of_pos l' (b:=1000003) (by decide)
  have f1:=Int.fmod_lt_of_pos l' (b:=1000003) (by decide)
  have q:l'.fdiv 1000003=l' / 1000003:=Int.fdiv_eq_ediv_of_nonneg _ (by decide)
  refine⟨l'.fmod 1000003,.dic (drD ns wy (l' / 1000003) a' nb kk),?_,f0,by omega,wy,l' / 1000003,a',nb,kk,rfl,Int.ediv_nonneg hl' (by decide),ha',hk⟩
  simp[a_1,r_9,List.replicate,e,drL,hp,d1,q,at9,stL]
 ·obtain⟨x,ex⟩:=aa2 ns (k:=kk+1) (by omega)
  obtain⟨r1,e1,_⟩:=S_8 (nb+x) (kk+1);obtain⟨r2,e2,h2,h3⟩:=S_8 r1 7;refine⟨r2,.dic (drD ns wy l' a' r1 (kk+1)),?_,h2,h3,wy,l',a',r1,kk+1,rfl,hl',ha',by omega⟩
  simp[a_1,r_9,List.replicate,e,drL,hp,drK,drN,drS,at9,stK,stN,ex,e1,e2]
theorem aJ0:(10:Int) ^ 20=100000000000000000000:=by decide
theorem g_7 (x:Int) {m:Int} (h:0<m):0<=x.fmod m/\x.fmod m<m:=⟨Int.fmod_nonneg_of_pos _ h,Int.fmod_lt_of_pos _ h⟩
theorem ad9 {ns:List Int} (hn:ns.length<=63) {o:MO} (h:r_0 ns o):∃ (r:Int) (o':MO),h_4 o []=some (.int r,o')/\-214748364700000000002147483647<=r/\r<=214748364700000000002147483647/\r_0 ns o':=by
 obtain⟨r1,o1,e1,_,_,h1⟩:=i_3 hn h;obtain⟨r2,o2,e2,_,_,h2⟩:=i_3 hn h1;have f4:=g_7 r1 (m:=4) (by decide)
 have f41:=g_7 r2 (m:=41) (by decide)
 have p10:(10:Int).natAbs<2 ^ 64:=by decide
 have k1:∀ x:Int,0<=x->x<2147483647->l_6 x 100000000000000000000=true:=λ x _ _=>s_2 (by omega)
 by_cases c1:r1.fmod 4=1
 ·obtain⟨r3,o3,e3,l3,u3,h3⟩:=i_3 hn h2
  obtain⟨r4,o4,e4,l4,u4,h4⟩:=i_3 hn h3;refine⟨r3*100000000000000000000+r4,o4,?_,by omega,by omega,h4⟩
  simp[h_4,s_8,List.replicate,e1,e2,c1,e3,e4,p10,aJ0,k1 r3 l3 u3]
 ·by_cases c2:r1.fmod 4=2
  ·obtain⟨r3,o3,e3,l3,u3,h3⟩:=i_3 hn h2
   obtain⟨r4,o4,e4,l4,u4,h4⟩:=i_3 hn h3;refine⟨0-r3*100000000000000000000-r4,o4,?_,by omega,by omega,h4⟩
   simp[h_4,s_8,List.replicate,e1,e2,c1,c2,e3,e4,p10,aJ0,k1 r3 l3 u3]
  ·refine⟨r2.fmod 41-20,o2,?_,by omega,by omega,h2⟩
   simp[h_4,s_8,List.replicate,e1,e2,c1,c2]
theorem ay0 {i:Int} (h0:0<=i) (h1:i<6):∃ st:Int,atD [.int 1,.int 1,.int 2,.int 3,.int 5,.int 12] i=some (.int st)/\1<=st/\st<=12:=by
 have:i=0\/i=1\/i=2\/i=3\/i=4\/i=5:=by omega
 rcases this with rfl | rfl | rfl | rfl | rfl | rfl <;> exact⟨_,rfl,by decide,by decide⟩
theorem bs2:(2:Nat) ^ 99=633825300114114700748351602688:=by decide
structure GSt (s:St.S):Prop where
 c:St.Canon s
 bd:St.Bd s (2 ^ 100)
theorem y_1 {lo hi:Option Int}{st re:Int} (s1:1<=st) (s2:st<=12) (r0:0<=re) (r1:re<st) (o1:St.OB lo (2 ^ 99)) (o2:St.OB hi (2 ^ 99)) (s:St.S) (es:St.made lo hi st re=some s):GSt s:=by
 have hb:=St.made_bd (re:=re) o1 o2 (m:=2 ^ 99) (show st.natAbs<=2 ^ 99 by rw[bs2];omega) (by omega) s es
 have p100:(2:Nat) ^ 100=2 ^ 99+2 ^ 99:=by rw[Nat.pow_succ,Nat.mul_two]
 have:=St.made_ok (lo:=lo) (hi:=hi) (by omega) r0 r1
 rw[es] at this;exact⟨this.1,by rw[p100];exact hb⟩
theorem q_4:St.OB none (2 ^ 99):=λ l e=>by cases e
theorem w_4 {x:Int} (h:-600000000000000000000000000000<=x) (h':x<=600000000000000000000000000000):St.OB (some x) (2 ^ 99):=λ l e=>by cases e;rw[bs2];omega
theorem aH0 {T:FT}{fr:List Sl} (p:Str->Bool) (h:∀ k,T (.im (.str k)::fr)=some (p k,.im (.str k)::fr)):∀ ks:List Str,cGo T (eV 0) fr (ks.map .str)=some ((ks.filter p).map .str)
 |[]=>rfl
 |k::r=>by
  have ih:=aH0 p h r;rw[List.map_cons,ai6,h k];cases hb:p k with
  |false=>rw[aD4,ih,List.filter_cons_of_neg (by simp[hb])]
  |true =>
   have f:eV 0 (.im (.str k)::fr)=some (.str k,.im (.str k)::fr):=rfl;rw[ai8,f,ai7,ih,J_8,List.filter_cons_of_pos (by simp[hb]),List.map_cons]
def Can (ts:List Str):Prop:=ts.Pairwise (λ a b=>ltS b a=false)/\ts.Nodup
theorem aK9 {l m:List Str} (h:l.Perm m) (pl:l.Pairwise λ a b=>ltS b a=false) (pm:m.Pairwise λ a b=>ltS b a=false):l=m:=by
 refine List.Perm.eq_of_pairwise (le:=λ a b=>ltS b a=false) (λ a b _ _ p q=>?_) pl pm h
 unfold ltS at p q;rw[decide_eq_false_iff_not] at p q;have:=List.le_antisymm (List.not_lt.mp p) (List.not_lt.mp q);obtain⟨⟨la⟩⟩:=a;obtain⟨⟨lb⟩⟩:=b;cases this;rfl
theorem Can.ext {a b:List Str} (ha:Can a) (hb:Can b) (h:∀ x,x∈a↔x∈b):a=b :=
 aK9 ((List.perm_ext_iff_of_nodup ha.2 hb.2).mpr h) ha.1 hb.1
structure KOk (pr:List Str) (o:Bool) (ts:List Str):Prop where
 can:Can ts
 len:ts.length<=9
 sub:∀ k∈ts,k∈pr
 ne:o=true->ts≠[]
abbrev Tb:=List (Str×Str)
def dT (tb:Tb):D:=.tup (tb.map λ p=>.tup [.str p.1,.str p.2])
def bec:Tb->Str->Str
 |[],k=>k
 |p::r,k=>if p.1=k then p.2 else bec r k
def fst (tb:Tb):List Str:=tb.map (·.1)
theorem O_6 {k:Str}:∀ {tb:Tb},k∉fst tb->bec tb k=k
 |[],_=>rfl
 |p::r,h=>by
  unfold fst at h;rw[List.map_cons,List.mem_cons,not_or] at h;show (if p.1=k then p.2 else bec r k)=k;rw[if_neg (λ z=>h.1 z.symm)]
  exact O_6 h.2
theorem av8 {k:Str}:∀ {tb:Tb},k∈fst tb->(k,bec tb k)∈tb
 |[],h=>by cases h
 |p::r,h=>by
  unfold fst at h;rw[List.map_cons,List.mem_cons] at h;show (k,if p.1=k then p.2 else bec r k)∈p::r
  by_cases c:p.1=k
  ·rw[if_pos c,<- c];exact List.mem_cons_self
  ·rw[if_neg c]
   exact qg _ (av8 (h.resolve_left λ z=>c z.symm))
theorem av7 {a b:Str}:∀ {tb:Tb},(fst tb).Nodup->(a,b)∈tb->bec tb a=b
 |[],_,h=>by cases h
 |p::r,nd,h=>by
  unfold fst at nd;rw[List.map_cons,List.nodup_cons] at nd;show (if p.1=a then p.2 else bec r a)=b
  rcases qp h with e | h
  ·rw[<- e,if_pos rfl]
  ·have:¬ p.1=a:=λ z=>nd.1 (z▸List.mem_map.mpr ⟨(a,b),h,rfl⟩)
   rw[if_neg this];exact av7 nd.2 h
def dTT (tb:Tb):D:=.dct (fst tb) (tb.map λ p=>.str p.2)
theorem aa9 (tb:Tb):(fst tb).zip (tb.map λ p=>D.str p.2)=tb.map λ p=>(p.1,D.str p.2):=by
 unfold fst
 induction tb with
 |nil=>rfl
 |cons p r ih=>rw[List.map_cons,List.map_cons,List.map_cons,List.zip_cons_cons,ih]
theorem ar9 {k:Str}:∀ tb:Tb,(s_4 k (tb.map λ p=>(p.1,D.str p.2))).getD (.str k)=.str (bec tb k)
 |[]=>rfl
 |p::r=>by
  rw[List.map_cons];unfold s_4 bec
  by_cases c:p.1=k
  ·rw[if_pos c,if_pos c];rfl
  ·rw[if_neg c,if_neg c];exact ar9 r
theorem D_2 {k:Str}:∀ {tb:Tb},k∈fst tb->s_4 k (tb.map λ p=>(p.1,D.str p.2))=some (.str (bec tb k))
 |[],h=>by cases h
 |p::r,h=>by
  unfold fst at h;rw[List.map_cons,List.mem_cons] at h;rw[List.map_cons];unfold s_4 bec
  by_cases c:p.1=k
  ·rw[if_pos c,if_pos c]
  ·rw[if_neg c,if_neg c];exact D_2 (h.resolve_left λ z=>c z.symm)
theorem ae0 {k:Str}:∀ {tb:Tb},k∉fst tb->s_4 k (tb.map λ p=>(p.1,D.str p.2))=none
 |[],h=>rfl
 |p::r,h=>by
  unfold fst at h;rw[List.map_cons,List.mem_cons,not_or] at h;rw[List.map_cons];unfold s_4;rw[if_neg (λ z=>h.1 z.symm)]
  exact ae0 h.2
theorem ai0 (k:Str) (tb:Tb):(s_4 k (tb.map λ p=>(p.1,D.str p.2))).isSome=decide (k∈fst tb):=by
 by_cases c:k∈fst tb
 ·rw[D_2 c];simp[c]
 ·rw[ae0 c];simp[c]
theorem L_9:∀ tb:Tb,x_8 (tb.map λ p=>.tup [.str p.1,.str p.2])=some (tb.map λ p=>(p.1,D.str p.2))
 |[]=>rfl
 |p::r=>by
  rw[List.map_cons,W_9,L_9 r];rfl
theorem Z_8 {tb:Tb} (nd:(fst tb).Nodup) (hl:tb.length<=9):V_2 [dT tb]=some (dTT tb):=by
 have e1:(tb.map λ p=>(p.1,D.str p.2)).map (·.1)=fst tb:=by unfold fst;rw[List.map_map];rfl
 have e2:(tb.map λ p=>(p.1,D.str p.2)).map (·.2)=tb.map λ p=>D.str p.2:=by rw[List.map_map];rfl
 unfold dT dTT;rw[aU1,L_9,b_8,if_pos ⟨by rw[List.length_map];omega,by rw[e1];exact nd⟩,e1,e2]
theorem aG1 (tb:Tb):∀ ts:List Str,cGo tYes (aW0 (eV 1) (eV 0) (eV 0)) [.im (dTT tb)] (ts.map .str)=some ((ts.map (bec tb)).map .str)
 |[]=>rfl
 |k::r=>by
  have ih:=aG1 tb r
  have ev:aW0 (eV 1) (eV 0) (eV 0) [.im (.str k),.im (dTT tb)]=some (.str (bec tb k),[.im (.str k),.im (dTT tb)]):=by
   unfold dTT;simp[aa9,ar9]
  rw[List.map_cons,ai6];show cGa _ _ _ _ (some (true,_))=_;rw[ai8,ev,ai7,ih,J_8];rfl
theorem ay7 {tb:Tb} (nd:(fst tb).Nodup) (hl:tb.length<=9) {ts:List Str} (ht:ts.length<=30):j_7 [KK true ts,dT tb]=some (KK true (c_4 (a_6 [] (ts.map (bec tb))))):=by
 have e1:=Z_8 nd hl;have e2:=aG1 tb ts;have e3:=s_1 (ts.map (bec tb)) (by rw[List.length_map];omega)
 have lz:ts.length<=sizeLine:=b_1 (by omega)
 have lt:(c_4 (a_6 [] (ts.map (bec tb)))).length<=sizeLine:=b_1 (by
  rw[(c_0 _).length_eq];have:=f_1 (ts.map (bec tb)) [];rw[List.length_nil,List.length_map] at this;omega)
 generalize ts.map (bec tb)=us at e2 e3 lt
 simp[KK,j_7,A_6,List.replicate,k_6,k_1,e1,e2,e3,lz,lt]
def H_0 (tb:Tb) (ts:List Str):List Str:=(tb.filter λ p=>!decide (p.1∈ts)).map (·.2)
theorem ab7 {tb0:Tb} (nd:(fst tb0).Nodup) (o:Bool) (ts:List Str):∀ tb:Tb,(∀ p∈tb,p∈tb0)->cGo (tB (e2 u_3 (eV 0) (e2 b_2 (eV 2) (eC (.int 1))))) (e2 aC4 (eV 1) (eV 0)) [.im (dTT tb0),.im (KK o ts)] ((fst tb).map .str)=some ((H_0 tb ts).map .str)
 |[],_=>rfl
 |p::r,h=>by
  have ih:=ab7 nd o ts r λ q hq=>h q (qg _ hq)
  have ok:=r_4 p.1 ts;have e:=w_7 p.1 ts
  have t:tB (e2 u_3 (eV 0) (e2 b_2 (eV 2) (eC (.int 1)))) [.im (.str p.1),.im (dTT tb0),.im (KK o ts)]=some (!decide (p.1∈ts),[.im (.str p.1),.im (dTT tb0),.im (KK o ts)]):=by
   unfold KK;simp[k_1,ok,e]
  have hp:=h p List.mem_cons_self;have m1:p.1∈fst tb0:=List.mem_map.mpr ⟨p,hp,rfl⟩;have b1:bec tb0 p.1=p.2:=av7 nd hp;have g:=D_2 m1;rw[b1] at g
  have ev:e2 aC4 (eV 1) (eV 0) [.im (.str p.1),.im (dTT tb0),.im (KK o ts)]=some (.str p.2,[.im (.str p.1),.im (dTT tb0),.im (KK o ts)]):=by
   unfold dTT;simp[aa9,g]
  show cGo _ _ _ (.str p.1::(fst r).map .str)=_;rw[ai6,t];unfold H_0
  by_cases c:p.1∈ts
  ·rw[decide_eq_true c]
   show cGa _ _ _ _ (some (false,_))=_;rw[aD4,ih,List.filter_cons_of_neg (by simp[c])];rfl
  ·rw[decide_eq_false c]
   show cGa _ _ _ _ (some (true,_))=_;rw[ai8,ev,ai7,ih,J_8,List.filter_cons_of_pos (by simp[c]),List.map_cons];rfl
def B_5 (tb:Tb) (ts:List Str):List Str:=c_4 ((a_6 [] (ts++fst tb)).filter λ x=>!decide (x∈H_0 tb ts))
theorem K_2 (tb:Tb) (ts:List Str):(B_5 tb ts).length<=ts.length+tb.length:=by
 unfold B_5;rw[(c_0 _).length_eq];refine Nat.le_trans (List.length_filter_le _ _) ?_;have:=f_1 (ts++fst tb) [];unfold fst at this ⊢;rw[List.length_nil,List.length_append,List.length_map] at this;omega
theorem al6 (tb:Tb) (ts:List Str):(H_0 tb ts).length<=tb.length:=by
 unfold H_0;rw[List.length_map];exact List.length_filter_le _ _
theorem aL2 {tb:Tb} (nd:(fst tb).Nodup) (hl:tb.length<=9) {ts:List Str} (ht:ts.length<=20):j_7 [KK false ts,dT tb]=some (KK false (B_5 tb ts)):=by
 have e1:=Z_8 nd hl;have e2:=ab7 nd false ts tb λ p h=>h
 have lf:(fst tb).length=tb.length:=by unfold fst;rw[List.length_map]
 have lz:ts.length+(fst tb).length<=sizeLine:=b_1 (by omega)
 have l1:(fst tb).length<=sizeLine:=b_1 (by omega)
 have rl:=al6 tb ts;have bl:=K_2 tb ts;have lb:(B_5 tb ts).length<=sizeLine:=b_1 (by omega)
 have e3:y_8 [.lst (ts.map .str++(fst tb).map .str),.lst ((H_0 tb ts).map .str)]=some (.lst ((B_5 tb ts).map .str)):=by
  rw[G_1,aY4,b_8,aY4,b_8,<- List.map_append,u_7,b_8,u_7,b_8,if_pos ⟨by rw[List.length_append];omega,by omega⟩]
  rfl
 have e1':V_2 [dT tb]=some (.dct (fst tb) (tb.map λ p=>.str p.2)):=e1
 unfold dTT at e2;unfold KK at e2;simp[KK,j_7,A_6,List.replicate,k_6,k_1,l_3,e1',e2,e3,lz,l1,lb]
theorem aJ8 (tb:Tb) (ts:List Str):cGo (tB (e2 au7 (eV 0) (eV 1))) (eV 0) [.im (dTT tb)] (ts.map .str)=some ((ts.filter λ k=>!decide (k∈fst tb)).map .str) :=
 aH0 _ (λ k=>by
  have g:=ai0 k tb;unfold dTT;simp[aa9,g]) ts
theorem U_8 {tb0:Tb} (o:Bool) (ts:List Str):∀ ks:List Str,(∀ k∈ks,k∈fst tb0)->cGo (tB (e2 aC3 (e2 aC4 (eV 1) (eV 0)) (e2 b_2 (eV 2) (eC (.int 1))))) (eV 0) [.im (dTT tb0),.im (KK o ts)] (ks.map .str)=some ((ks.filter λ k=>decide (bec tb0 k∈ts)).map .str)
 |[],_=>rfl
 |k::r,h=>by
  have ih:=U_8 o ts r λ q hq=>h q (qg _ hq)
  have ok:=r_4 (bec tb0 k) ts;have e:=w_7 (bec tb0 k) ts;have g:=D_2 (h k List.mem_cons_self)
  have t:tB (e2 aC3 (e2 aC4 (eV 1) (eV 0)) (e2 b_2 (eV 2) (eC (.int 1)))) [.im (.str k),.im (dTT tb0),.im (KK o ts)]=some (decide (bec tb0 k∈ts),[.im (.str k),.im (dTT tb0),.im (KK o ts)]):=by
   unfold KK dTT;simp[aa9,g,k_1,ok,e]
  rw[List.map_cons,ai6,t]
  by_cases c:bec tb0 k∈ts
  ·rw[decide_eq_true c]
   have f:eV 0 [.im (.str k),.im (dTT tb0),.im (KK o ts)]=some (.str k,[.im (.str k),.im (dTT tb0),.im (KK o ts)]):=rfl;rw[ai8,f,ai7,ih,J_8,List.filter_cons_of_pos (by simp[c]),List.map_cons]
  ·rw[decide_eq_false c,aD4,ih,List.filter_cons_of_neg (by simp[c])]
def u_4 (tb:Tb) (ts:List Str):List Str:=c_4 ((ts.filter λ k=>!decide (k∈fst tb))++(fst tb).filter λ k=>decide (bec tb k∈ts))
def aj2 (tb:Tb) (o:Bool) (ts:List Str):D:=if o=true/\u_4 tb ts=[] then .non else KK o (u_4 tb ts)
theorem U_9 (tb:Tb) (ts:List Str):(u_4 tb ts).length<=ts.length+tb.length:=by
 unfold u_4;rw[(c_0 _).length_eq,List.length_append];have a:=List.length_filter_le (λ k=>!decide (k∈fst tb)) ts
 have b:=List.length_filter_le (λ k=>decide (bec tb k∈ts)) (fst tb)
 unfold fst at b ⊢;unfold fst at a;rw[List.length_map] at b;omega
theorem ay9 {tb:Tb} (nd:(fst tb).Nodup) (hl:tb.length<=9) (o:Bool) {ts:List Str} (ht:ts.length<=30):f_4 [KK o ts,dT tb]=some (aj2 tb o ts):=by
 have e1:V_2 [dT tb]=some (.dct (fst tb) (tb.map λ p=>.str p.2)):=Z_8 nd hl
 have e2:=aJ8 tb ts;have e3:=U_8 (tb0:=tb) o ts (fst tb) λ k h=>h
 have lf:(fst tb).length=tb.length:=by unfold fst;rw[List.length_map]
 have a:=List.length_filter_le (λ k=>!decide (k∈fst tb)) ts
 have b:=List.length_filter_le (λ k=>decide (bec tb k∈ts)) (fst tb)
 have bl:=U_9 tb ts;have lz:ts.length<=sizeLine:=b_1 (by omega)
 have l1:(fst tb).length<=sizeLine:=b_1 (by omega)
 have lb:(u_4 tb ts).length<=sizeLine:=b_1 (by omega)
 generalize hA:(ts.filter λ k=>!decide (k∈fst tb))=A at a e2
 generalize hB:((fst tb).filter λ k=>decide (bec tb k∈ts))=B at b e3
 have eb:u_4 tb ts=c_4 (A++B):=by unfold u_4;rw[hA,hB]
 have l2:A.length+B.length<=sizeLine:=b_1 (by omega)
 have e4:G_4 (A.map D.str++B.map D.str)=some (.lst ((c_4 (A++B)).map .str)):=by
  unfold G_4;rw[<- List.map_append,u_7,b_8,if_pos (by rw[List.length_append];omega)]
 unfold dTT at e2 e3;unfold aj2;rw[eb] at lb ⊢;unfold KK at e3;cases hE:(c_4 (A++B)).isEmpty with
 |true =>
  have z:c_4 (A++B)=[]:=List.isEmpty_iff.mp hE;rw[z] at e4 ⊢;cases o <;> simp[KK,f_4,p_5,List.replicate,k_6,k_1,l_3,e1,e2,e3,e4,lz,l1,l2]
 |false =>
  have z:¬ c_4 (A++B)=[]:=List.isEmpty_eq_false_iff.mp hE;cases o <;> simp[KK,f_4,p_5,List.replicate,k_6,k_1,l_3,e1,e2,e3,e4,lz,l1,l2,lb,z,hE]
theorem mem_only {tb:Tb}{ts:List Str}{k:Str}:k∈c_4 (a_6 [] (ts.map (bec tb)))↔∃ p∈ts,bec tb p=k:=by
 rw[(c_0 _).mem_iff,mem_addAll,List.mem_map];simp
theorem mem_reach {tb:Tb}{ts:List Str}{k:Str}:k∈H_0 tb ts↔∃ a,(a,k)∈tb/\a∉ts:=by
 unfold H_0;rw[List.mem_map];constructor
 ·rintro ⟨p,hp,rfl⟩
  obtain⟨h1,h2⟩:=List.mem_filter.mp hp;exact⟨p.1,h1,by simpa using h2⟩
 ·rintro ⟨a,h1,h2⟩
  exact⟨(a,k),List.mem_filter.mpr ⟨h1,by simpa using h2⟩,rfl⟩
theorem mem_butPut {tb:Tb}{ts:List Str}{k:Str}:k∈B_5 tb ts↔(k∈ts\/k∈fst tb)/\k∉H_0 tb ts:=by
 unfold B_5;rw[(c_0 _).mem_iff,List.mem_filter,mem_addAll,List.mem_append];simp
theorem ao6 {tb:Tb}{ts:List Str}{k:Str}:k∈u_4 tb ts↔bec tb k∈ts:=by
 unfold u_4;rw[(c_0 _).mem_iff,List.mem_append,List.mem_filter,List.mem_filter]
 by_cases c:k∈fst tb
 ·simp[c]
 ·rw[O_6 c]
  simp[c]
def aU7 (tb:Tb) (o:Bool) (ts:List Str):List Str:=if o=true then c_4 (a_6 [] (ts.map (bec tb))) else B_5 tb ts
theorem ba5 {tb:Tb} (nd:(fst tb).Nodup) (hl:tb.length<=9) (o:Bool) {ts:List Str} (ht:ts.length<=20):j_7 [KK o ts,dT tb]=some (KK o (aU7 tb o ts)):=by
 cases o with
 |true=>exact ay7 nd hl (by omega)
 |false=>exact aL2 nd hl ht
theorem az0 (tb:Tb) (o:Bool) (ts:List Str):(aU7 tb o ts).length<=ts.length+tb.length:=by
 cases o with
 |true =>
  show (c_4 (a_6 [] (ts.map (bec tb)))).length<=_;rw[(c_0 _).length_eq];have:=f_1 (ts.map (bec tb)) [];rw[List.length_nil,List.length_map] at this;omega
 |false=>exact K_2 _ _
theorem aF3 {tb:Tb}{o:Bool}{ts:List Str}{p:Str} (nd:(fst tb).Nodup) (h:inK o ts p=true):inK o (aU7 tb o ts) (bec tb p)=true:=by
 cases o with
 |true =>
  rw[A_0,decide_eq_true_iff] at h ⊢;exact mem_only.mpr ⟨p,h,rfl⟩
 |false =>
  rw[C_5,Bool.not_eq_true',decide_eq_false_iff_not] at h ⊢;intro z;obtain⟨z1,z2⟩:=mem_butPut.mp z
  by_cases c:p∈fst tb
  ·exact z2 (mem_reach.mpr ⟨p,av8 c,h⟩)
  ·rw[O_6 c] at z1
   exact z1.elim h c
theorem ay8 {tb:Tb}{o:Bool}{ts:List Str}{k:Str}{pr:List Str} (nd:(fst tb).Nodup) (hk:k∈pr) (hs:∀ p∈ts,p∈pr) (hf:∀ p∈fst tb,p∈pr) (h:inK o (aU7 tb o ts) k=true):∃ p∈pr,inK o ts p=true/\bec tb p=k:=by
 cases o with
 |true =>
  rw[A_0,decide_eq_true_iff] at h;obtain⟨p,hp,e⟩:=mem_only.mp h;exact⟨p,hs p hp,by rw[A_0,decide_eq_true_iff];exact hp,e⟩
 |false =>
  rw[C_5,Bool.not_eq_true',decide_eq_false_iff_not] at h
  by_cases c:k∈H_0 tb ts
  ·obtain⟨a,h1,h2⟩:=mem_reach.mp c
   exact⟨a,hf a (List.mem_map.mpr ⟨(a,k),h1,rfl⟩),by rw[C_5,Bool.not_eq_true',decide_eq_false_iff_not];exact h2,av7 nd h1⟩
  ·have n:¬ (k∈ts\/k∈fst tb):=λ z=>h (mem_butPut.mpr ⟨z,c⟩)
   rw[not_or] at n;exact⟨k,hk,by rw[C_5,Bool.not_eq_true',decide_eq_false_iff_not];exact n.1,O_6 n.2⟩
theorem av9 (tb:Tb) (o:Bool) (ts:List Str) (k:Str):inK o (u_4 tb ts) k=inK o ts (bec tb k):=by
 unfold inK
 congr 1
 rw[decide_eq_decide];exact ao6
theorem y_4 (ts:List Str):∃ k:Str,k∉ts:=by
 have bound:∀ ts:List Str,∃ n,∀ k∈ts,k.length<=n:=λ ts=>by
  induction ts with
  |nil=>exact⟨0,λ k h=>by cases h⟩
  |cons a r ih =>
   obtain⟨n,h⟩:=ih;refine⟨max n a.length,λ k hk=>?_⟩
   rcases qp hk with rfl | hk
   ·omega
   ·have:=h k hk;omega
 obtain⟨n,h⟩:=bound ts;refine⟨⟨Array.replicate (n+1) 97⟩,λ hk=>?_⟩
 have:=h _ hk;have e:(⟨Array.replicate (n+1) 97⟩:Str).length=n+1:=Array.size_replicate;omega
theorem T_0 (o:Bool) (t1 t2:List Str):∃ r,Y_3 o t1 t2=dK r/\(∀ k,inR r k=(inK true t1 k&&inK o t2 k))/\∀ o' ts,r=some (o',ts)->ts.length<=t1.length/\∃ k,inK o' ts k=true:=by
 unfold Y_3
 by_cases z:t1.filter (inK o t2)=[]
 ·refine⟨none,by rw[if_pos z];rfl,λ k=>?_,λ o' ts e=>by cases e⟩
  rw[A_0]
  by_cases c:k∈t1
  ·have:=List.filter_eq_nil_iff.mp z k c
   have f:inK o t2 k=false:=by simpa using this
   rw[f,Bool.and_false];rfl
  ·simp[c,inR]
 ·refine⟨some (true,t1.filter (inK o t2)),by rw[if_neg z];rfl,λ k=>?_,λ o' ts e=>?_⟩
  ·show inK true _ k=_
   rw[A_0,A_0,Bool.eq_iff_iff];simp[List.mem_filter]
  ·cases e
   obtain⟨k,hk⟩:=List.exists_mem_of_ne_nil _ z;exact⟨List.length_filter_le _ _,k,by rw[A_0,decide_eq_true_iff];exact hk⟩
theorem bd9 (o1 o2:Bool) (t1 t2:List Str) (h:t1.length+t2.length<=40) :
  ∃ r,d_6 [KK o1 t1,KK o2 t2]=some (dK r)/\(∀ k,inR r k=(inK o1 t1 k&&inK o2 t2 k))/\∀ o ts,r=some (o,ts)->ts.length<=t1.length+t2.length/\∃ k,inK o ts k=true:=by
 cases o1 with
 |true =>
  obtain⟨r,e,h1,h2⟩:=T_0 o2 t1 t2;exact⟨r,by rw[ao7 o2 t1 t2 (by omega),e],h1,λ o ts z=>⟨by have:=(h2 o ts z).1;omega,(h2 o ts z).2⟩⟩
 |false =>
  cases o2 with
  |true =>
   obtain⟨r,e,h1,h2⟩:=T_0 false t2 t1;exact⟨r,by rw[N_0 t1 t2 (by omega),e],λ k=>by rw[h1 k,Bool.and_comm],λ o ts z=>⟨by have:=(h2 o ts z).1;omega,(h2 o ts z).2⟩⟩
  |false =>
   refine⟨some (false,uni t1 t2),ao8 t1 t2 (by omega),λ k=>?_,λ o ts z=>?_⟩
   ·show inK false _ k=_
    rw[C_5,C_5,C_5,Bool.eq_iff_iff];simp[aN6]
   ·cases z
    obtain⟨k,hk⟩:=y_4 (uni t1 t2);refine⟨?_,k,by rw[C_5];simp[hk]⟩
    unfold uni;rw[(c_0 _).length_eq];have:=f_1 (t1++t2) [];rw[List.length_append,List.length_nil] at this;omega
structure WB (n:Nat) (b:Bx):Prop where
 l:b.ts.length<=20
 t0:0<=b.bg
 te:∀ e,b.en=some e->b.bg<e
 c:St.Canon b.s
 bd:St.Bd b.s (2 ^ n)
 ke:∃ k,inK b.o b.ts k=true
theorem z_8 {o:Bool}{ts:List Str}{bg:Int}{en:Option Int}{s:St.S}{m:Bx} (h:mkX o ts bg en s=some m):m=⟨o,ts,if 0 > bg then 0 else bg,en,s⟩/\∀ e,en=some e->(if 0 > bg then 0 else bg)<e:=by
 cases en with
 |none=>cases h;exact⟨rfl,λ e z=>by cases z⟩
 |some e =>
  simp only[mkX] at h
  by_cases c:e<=(if 0 > bg then 0 else bg)
  ·rw[if_pos c] at h;cases h
  ·rw[if_neg c] at h;cases h
   exact⟨rfl,λ e z=>by cases z;omega⟩
theorem B_1 {n:Nat}{o:Bool}{ts:List Str}{bg:Int}{en:Option Int}{s:St.S}{m:Bx} (h:mkX o ts bg en s=some m) (l:ts.length<=20) (c:St.Canon s) (bd:St.Bd s (2 ^ n)) (ke:∃ k,inK o ts k=true):WB n m:=by
 obtain⟨rfl,te⟩:=z_8 h;exact⟨l,by show 0<=(if 0 > bg then 0 else bg);split <;> omega,te,c,bd,ke⟩
theorem WB.some_thing {n:Nat}{b:Bx} (w:WB n b):∃ t k v,0<=t/\hasX b t k v=true:=by
 obtain⟨k,hk⟩:=w.ke;obtain⟨v,hv⟩:=w.c.some;refine⟨b.bg,k,v,w.t0,?_⟩;unfold hasX
 have e1:endB b.en b.bg=true:=by
  cases e:b.en with
  |none=>rfl
  |some x=>exact decide_eq_true (w.te x e)
 rw[decide_eq_true (Int.le_refl _),e1,hk,hasB_iff.mpr hv];rfl
theorem WB.mono {n m:Nat}{b:Bx} (w:WB n b) (h:n<=m):WB m b:=⟨w.l,w.t0,w.te,w.c,w.bd.mono (Nat.pow_le_pow_right (by decide) h),w.ke⟩
theorem aN8 {n:Nat} (hn:n<=450) {a b:Bx} (ga:WB n a) (gb:WB n b) (hl:a.ts.length+b.ts.length<=20):∃ r,g_6 [dB a,dB b]=some (dBO r)/\(∀ t k v,hasXO r t k v=(hasX a t k v&&hasX b t k v))/\∀ m,r=some m->WB (2*n+4) m/\m.ts.length<=a.ts.length+b.ts.length:=by
 obtain⟨kr,ek,hk,hkw⟩:=bd9 a.o b.o a.ts b.ts (by omega)
 obtain⟨sr,es,hs,hsb⟩:=aN7 ga.c gb.c hn ga.bd gb.bd;refine⟨mk2 kr (mxI a.bg b.bg) (St.uppB a.en b.en) sr,?_,λ t k v=>?_,λ m em=>?_⟩
 ·have em:=ad0 kr (mxI a.bg b.bg) (St.uppB a.en b.en) sr
  have eu:=aE5 a.en b.en;unfold mxI at em ⊢;obtain⟨o,ts,bg,en,s⟩:=a;obtain⟨o',ts',bg',en',s'⟩:=b;simp only[gt_iff_lt] at em ⊢;simp[g_6,K_3,dB,List.replicate,f_0,r_6,q_6,e_5,ek,es,eu,em]
 ·have h0:0<=mxI a.bg b.bg:=by
   have:=ga.t0;have:=gb.t0;unfold mxI;split <;> omega
  have mx:decide (mxI a.bg b.bg<=t)=(decide (a.bg<=t)&&decide (b.bg<=t)):=by
   rw[Bool.eq_iff_iff];simp only[decide_eq_true_iff,Bool.and_eq_true];unfold mxI;split <;> omega
  have hk:=hk k
  have hv:∀ s,sr=some s->hasB s v=(hasB a.s v&&hasB b.s v):=λ s e=>by
   subst e;rw[Bool.eq_iff_iff,Bool.and_eq_true,hasB_iff,hasB_iff,hasB_iff];exact hs.2 v
  have hn:sr=none->(hasB a.s v&&hasB b.s v)=false:=λ e=>by
   subst e;rw[<- Bool.not_eq_true,Bool.and_eq_true,hasB_iff,hasB_iff];exact hs v
  unfold hasX;cases kr with
  |none =>
   have hk:false=(inK a.o a.ts k&&inK b.o b.ts k):=hk;show false=_
   symm
   cases h1:inK a.o a.ts k
   ·simp
   ·rw[h1,Bool.true_and] at hk
    rw[<- hk];simp
  |some q =>
   have hk:inK q.1 q.2 k=(inK a.o a.ts k&&inK b.o b.ts k):=hk;cases sr with
   |none =>
    have hn:=hn rfl;show false=_
    symm
    cases h1:hasB a.s v
    ·simp
    ·rw[h1,Bool.true_and] at hn
     rw[hn];simp
   |some s =>
    show hasXO (mkX q.1 q.2 _ _ s) t k v=_;rw[aO9 h0,mx,aB6,hk,hv s rfl]
    generalize decide (a.bg<=t)=x1
    generalize decide (b.bg<=t)=x2
    generalize endB a.en t=x3
    generalize endB b.en t=x4
    generalize inK a.o a.ts k=x5
    generalize inK b.o b.ts k=x6
    generalize hasB a.s v=x7
    generalize hasB b.s v=x8
    revert x1 x2 x3 x4 x5 x6 x7 x8
    decide
 ·cases kr with
  |none=>cases em
  |some q =>
   cases sr with
   |none=>cases em
   |some s =>
    have em:mkX q.1 q.2 (mxI a.bg b.bg) (St.uppB a.en b.en) s=some m:=em;obtain⟨l,ke⟩:=hkw q.1 q.2 rfl;have W:=B_1 em (by omega) hs.1 (hsb s rfl) ke
    obtain⟨rfl,_⟩:=z_8 em;exact⟨W,l⟩
theorem M_9 {n:Nat}{a b:Bx}{r:Option Bx} (h:∀ t k v,hasXO r t k v=(hasX a t k v&&hasX b t k v)) (hw:∀ m,r=some m->WB n m):r≠none↔∃ t k v,0<=t/\hasX a t k v=true/\hasX b t k v=true:=by
 constructor
 ·intro z
  cases r with
  |none=>exact absurd rfl z
  |some m =>
   obtain⟨t,k,v,t0,e⟩:=(hw m rfl).some_thing;have:=h t k v;rw[show hasXO (some m) t k v=hasX m t k v from rfl,e] at this;have:=this.symm;rw[Bool.and_eq_true] at this;exact⟨t,k,v,t0,this.1,this.2⟩
 ·rintro ⟨t,k,v,_,h1,h2⟩ z
  subst z;have:=h t k v;rw[h1,h2] at this;cases this
inductive Rw where
 |time (b:Int) (e:Option Int)
 |keys (o:Bool) (l:List Str)
 |span (lo hi:Option Int)
 |rest (m r:Int)
 |turn (a b:Int)
 |later (c:Int)
 |put (tb:Tb)
def rwW:Rw->Str
 |.time _ _=>Str.ofString "time"
 |.keys o _=>wO o
 |.span _ _=>Str.ofString "span"
 |.rest _ _=>Str.ofString "rest"
 |.turn _ _=>Str.ofString "turn"
 |.later _=>Str.ofString "later"
 |.put _=>Str.ofString "put"
def rwR:Rw->D
 |.time b e=>.tup [.int b,dO e]
 |.keys _ l=>.tup (l.map .str)
 |.span lo hi=>.tup [dO lo,dO hi]
 |.rest m r=>.tup [.int m,.int r]
 |.turn a b=>.tup [.int a,.int b]
 |.later c=>.tup [.int c]
 |.put tb=>dT tb
def dRw (r:Rw):D:=.tup [.str (rwW r),.str "r",.tup [.str "f"],rwR r]
structure ROk (r:Rw):Prop where
 time:∀ b e,r=.time b e->0<=b/\∀ x,e=some x->b<x
 keys:∀ o l,r=.keys o l->1<=l.length/\l.length<=8
 span:∀ lo hi,r=.span lo hi->St.OB lo (2 ^ 99)/\St.OB hi (2 ^ 99)/\∀ a b,lo=some a->hi=some b->a<=b
 rest:∀ m x,r=.rest m x->2<=m/\m<=2000/\0<=x/\x<m
 turn:∀ a b,r=.turn a b->a≠0/\a.natAbs<=1000/\b.natAbs<=1000
 later:∀ c,r=.later c->0<=c
 put:∀ tb,r=.put tb->(fst tb).Nodup/\tb.length<=4
abbrev Th:=Int×Str×Int
def thr:Rw->Th->Option Th
 |.time b e,x=>if b<=x.1/\endB e x.1=true then some x else none
 |.keys o l,x=>if inK o l x.2.1=true then some x else none
 |.span lo hi,x=>if leB lo x.2.2=true/\geB hi x.2.2=true then some x else none
 |.rest m r,x=>if x.2.2 % m=r then some x else none
 |.turn a b,x=>some (x.1,x.2.1,a*x.2.2+b)
 |.later c,x=>some (x.1+c,x.2.1,x.2.2)
 |.put tb,x=>some (x.1,bec tb x.2.1,x.2.2)
def y_5:Option Th->D
 |none=>.non
 |some x=>dTh x.1 x.2.1 x.2.2
theorem aE4:wO true=Str.ofString "only":=rfl
theorem aj6:wO false=Str.ofString "but":=rfl
theorem aO7 (x:D):atD [x] 0=some x:=rfl
theorem ak6:(Str.ofString "time"=Str.ofString "only")=False ∧ (Str.ofString "time"=Str.ofString "but")=False ∧ (Str.ofString "time"=Str.ofString "span")=False ∧ (Str.ofString "time"=Str.ofString "rest")=False ∧ (Str.ofString "time"=Str.ofString "turn")=False ∧ (Str.ofString "time"=Str.ofString "later")=False ∧ (Str.ofString "time"=Str.ofString "put")=False ∧
  (Str.ofString "only"=Str.ofString "time")=False ∧ (Str.ofString "only"=Str.ofString "but")=False ∧ (Str.ofString "only"=Str.ofString "span")=False ∧ (Str.ofString "only"=Str.ofString "rest")=False ∧ (Str.ofString "only"=Str.ofString "turn")=False ∧ (Str.ofString "only"=Str.ofString "later")=False ∧ (Str.ofString "only"=Str.ofString "put")=False ∧
  (Str.ofString "but"=Str.ofString "time")=False ∧ (Str.ofString "but"=Str.ofString "only")=False ∧ (Str.ofString "but"=Str.ofString "span")=False ∧ (Str.ofString "but"=Str.ofString "rest")=False ∧ (Str.ofString "but"=Str.ofString "turn")=False ∧ (Str.ofString "but"=Str.ofString "later")=False ∧ (Str.ofString "but"=Str.ofString "put")=False ∧
  (Str.ofString "span"=Str.ofString "time")=False ∧ (Str.ofString "span"=Str.ofString "only")=False ∧ (Str.ofString "span"=Str.ofString "but")=False ∧ (Str.ofString "span"=Str.ofString "rest")=False ∧ (Str.ofString "span"=Str.ofString "turn")=False ∧ (Str.ofString "span"=Str.ofString "later")=False ∧ (Str.ofString "span"=Str.ofString "put")=False ∧
  (Str.ofString "rest"=Str.ofString "time")=False ∧ (Str.ofString "rest"=Str.ofString "only")=False ∧ (Str.ofString "rest"=Str.ofString "but")=False ∧ (Str.ofString "rest"=Str.ofString "span")=False ∧ (Str.ofString "rest"=Str.ofString "turn")=False ∧ (Str.ofString "rest"=Str.ofString "later")=False ∧ (Str.ofString "rest"=Str.ofString "put")=False ∧
  (Str.ofString "turn"=Str.ofString "time")=False ∧ (Str.ofString "turn"=Str.ofString "only")=False ∧ (Str.ofString "turn"=Str.ofString "but")=False ∧ (Str.ofString "turn"=Str.ofString "span")=False ∧ (Str.ofString "turn"=Str.ofString "rest")=False ∧ (Str.ofString "turn"=Str.ofString "later")=False ∧ (Str.ofString "turn"=Str.ofString "put")=False ∧
  (Str.ofString "later"=Str.ofString "time")=False ∧ (Str.ofString "later"=Str.ofString "only")=False ∧ (Str.ofString "later"=Str.ofString "but")=False ∧ (Str.ofString "later"=Str.ofString "span")=False ∧ (Str.ofString "later"=Str.ofString "rest")=False ∧ (Str.ofString "later"=Str.ofString "turn")=False ∧ (Str.ofString "later"=Str.ofString "put")=False ∧
  (Str.ofString "put"=Str.ofString "time")=False ∧ (Str.ofString "put"=Str.ofString "only")=False ∧ (Str.ofString "put"=Str.ofString "but")=False ∧ (Str.ofString "put"=Str.ofString "span")=False ∧ (Str.ofString "put"=Str.ofString "rest")=False ∧ (Str.ofString "put"=Str.ofString "turn")=False ∧ (Str.ofString "put"=Str.ofString "later")=False:=by
 repeat (first | exact eq_false (by decide +kernel) | refine⟨eq_false (by decide +kernel),?_⟩)
theorem ag2 {r:Rw} (ok:ROk r) (t:Int) (k:Str) (v:Int):a_5 [dRw r,dTh t k v]=some (y_5 (thr r (t,k,v))):=by
 have W:=ak6;unfold dRw dTh;cases r with
 |time b e =>
  unfold thr rwW rwR
  by_cases h:b<=t
  ·have h':¬ t<b:=by omega
   cases e with
   |none=>simp[a_5,a_8,List.replicate,f_0,e_5,k_6,k_1,W,h,h',endB,y_5,dTh]
   |some x =>
    by_cases q:t<x
    ·have q':¬ x<=t:=by omega
     simp[a_5,a_8,List.replicate,f_0,e_5,k_6,k_1,W,h,h',q,q',endB,y_5,dTh]
    ·have q':x<=t:=by omega
     simp[a_5,a_8,List.replicate,f_0,e_5,k_6,k_1,W,h,h',q,q',endB,y_5]
  ·have h':t<b:=by omega
   simp[a_5,a_8,List.replicate,f_0,e_5,k_6,k_1,W,h,h',y_5]
 |keys o l =>
  have okn:=r_4 k l;have e:=w_7 k l;unfold thr rwW rwR;cases o with
  |true =>
   by_cases c:k∈l
   ·simp[a_5,a_8,List.replicate,f_0,e_5,aE4,aj6,W,okn,e,c,inK,y_5,dTh]
   ·simp[a_5,a_8,List.replicate,f_0,e_5,aE4,aj6,W,okn,e,c,inK,y_5]
  |false =>
   by_cases c:k∈l
   ·simp[a_5,a_8,List.replicate,f_0,e_5,aE4,aj6,W,okn,e,c,inK,y_5]
   ·simp[a_5,a_8,List.replicate,f_0,e_5,aE4,aj6,W,okn,e,c,inK,y_5,dTh]
 |span lo hi =>
  unfold thr rwW rwR;cases lo with
  |none =>
   cases hi with
   |none=>simp[a_5,a_8,List.replicate,f_0,e_5,k_6,k_1,W,leB,geB,y_5,dTh]
   |some y =>
    by_cases q:v<=y
    ·have q':¬ y<v:=by omega
     simp[a_5,a_8,List.replicate,f_0,e_5,k_6,k_1,W,leB,geB,q,q',y_5,dTh]
    ·have q':y<v:=by omega
     simp[a_5,a_8,List.replicate,f_0,e_5,k_6,k_1,W,leB,geB,q,q',y_5]
  |some x =>
   by_cases h:x<=v
   ·have h':¬ v<x:=by omega
    cases hi with
    |none=>simp[a_5,a_8,List.replicate,f_0,e_5,k_6,k_1,W,leB,geB,h,h',y_5,dTh]
    |some y =>
     by_cases q:v<=y
     ·have q':¬ y<v:=by omega
      simp[a_5,a_8,List.replicate,f_0,e_5,k_6,k_1,W,leB,geB,h,h',q,q',y_5,dTh]
     ·have q':y<v:=by omega
      simp[a_5,a_8,List.replicate,f_0,e_5,k_6,k_1,W,leB,geB,h,h',q,q',y_5]
   ·have h':v<x:=by omega
    simp[a_5,a_8,List.replicate,f_0,e_5,k_6,k_1,W,leB,geB,h,h',y_5]
 |rest m x =>
  obtain⟨o1,o2,o3,o4⟩:=ok.rest m x rfl;have hm:0<m:=by omega
  have hz:¬ m=0:=by omega
  unfold thr rwW rwR
  by_cases c:v % m=x
  ·simp[a_5,a_8,List.replicate,f_0,e_5,k_6,k_1,W,hz,b_5 hm,c,y_5,dTh]
  ·simp[a_5,a_8,List.replicate,f_0,e_5,k_6,k_1,W,hz,b_5 hm,c,y_5]
 |turn a b =>
  obtain⟨o1,o2,o3⟩:=ok.turn a b rfl;have km:l_6 a v=true:=s_2 (by omega)
  unfold thr rwW rwR;simp[a_5,a_8,List.replicate,f_0,e_5,k_6,k_1,W,km,y_5,dTh]
 |later c =>
  unfold thr rwW rwR;simp[a_5,a_8,List.replicate,f_0,e_5,aO7,W,y_5,dTh]
 |put tb =>
  obtain⟨o1,o2⟩:=ok.put tb rfl;have e1:(tb.map λ p=>(p.1,D.str p.2)).map (·.1)=fst tb:=by unfold fst;rw[List.map_map];rfl
  have g:aU9 (tb.map λ p=>.tup [.str p.1,.str p.2]) (.str k) (.str k)=some (.str (bec tb k)):=by
   unfold aU9;rw[L_9,b_8];show bnd (some k) _=_;rw[b_8,if_pos ⟨by rw[List.length_map];omega,by rw[e1];exact o1⟩,ar9]
  unfold thr rwW rwR dT;simp[a_5,a_8,List.replicate,f_0,e_5,W,g,y_5,dTh]
def evS:St.S:=⟨none,none,1,0⟩
theorem bg5 (v:Int):St.mem evS v:=⟨λ l e=>(by cases e),λ l e=>(by cases e),by show v % 1=0;omega⟩
theorem ae4:St.Canon evS where
 pos:=by show (0:Int)<1;decide
 r0:=by show (0:Int)<=0;decide
 r1:=by show (0:Int)<1;decide
 lo:=λ l e=>by cases e
 hi:=λ l e=>by cases e
 lh:=λ a b e=>by cases e
theorem bg6 (n:Nat):St.Bd evS (2 ^ n) where
 st:=Nat.one_le_two_pow
 re:=Nat.zero_le _
 lo:=λ l e=>by cases e
 hi:=λ l e=>by cases e
theorem aH3 (v:Int):hasB evS v=true:=hasB_iff.mpr (bg5 v)
theorem v_7 (k:Str):inK false [] k=true:=by rw[C_5];simp
structure SvOk (r:Rw) (s:Bx):Prop where
 w:WB 100 s
 l:s.ts.length<=8
 h:∀ t k v,0<=t->thr r (t,k,v)=if hasX s t k v=true then some (t,k,v) else none
theorem Q_1 {r:Rw} (ok:ROk r):((∃ s,b_9 [dRw r]=some (dB s)/\SvOk r s)\/(b_9 [dRw r]=some .non/\((∃ a b,r=.turn a b)\/(∃ c,r=.later c)\/∃ tb,r=.put tb))):=by
 have W:=ak6;cases r with
 |time b e =>
  refine .inl ?_;obtain⟨b0,te⟩:=ok.time b e rfl;have mb:=n_3 false [] b e evS;have z:(if 0 > b then 0 else b)=b:=if_neg (by omega)
  have em:mkX false [] b e evS=some ⟨false,[],b,e,evS⟩:=by
   cases e with
   |none=>simp only[mkX,z]
   |some x=>have:=te x rfl;simp only[mkX,z];rw[if_neg (by omega)]
  rw[em] at mb;refine⟨⟨false,[],b,e,evS⟩,?_,⟨by show 0 ≤ 20;decide,b0,te,ae4,bg6 100,Str.ofString "a",v_7 _⟩,Nat.zero_le _,λ t k v t0=>?_⟩
  ·simp only[KK,aj6,evS,List.map_nil,aC0,f_8] at mb
   simp[b_9,g_0,dRw,rwW,rwR,List.replicate,f_0,e_5,k_6,k_1,W,mb,dBO,evS]
  ·unfold thr hasX
   dsimp only;rw[v_7,aH3]
   by_cases c:b<=t <;> cases q:endB e t <;> simp[c,q]
 |keys o l =>
  refine .inl ?_;obtain⟨l1,l2⟩:=ok.keys o l rfl;have mb:=n_3 o (c_4 l) 0 none evS;have sl:(c_4 l).length=l.length:=(c_0 l).length_eq;have sz:(c_4 l).length<=sizeLine:=b_1 (by omega)
  have e4:G_4 (l.map D.str)=some (.lst ((c_4 l).map .str)):=by
   unfold G_4;rw[u_7,b_8,if_pos (by omega)]
  have mem:∀ k,inK o (c_4 l) k=inK o l k:=λ k=>by
   unfold inK
   congr 1
   rw[decide_eq_decide,(c_0 l).mem_iff]
  have ke:∃ k,inK o (c_4 l) k=true:=by
   cases o with
   |true =>
    cases l with
    |nil=>simp at l1
    |cons a r=>exact⟨a,by rw[mem,A_0];simp⟩
   |false =>
    obtain⟨k,hk⟩:=y_4 (c_4 l);exact⟨k,by rw[C_5];simp[hk]⟩
  refine⟨⟨o,c_4 l,0,none,evS⟩,?_,⟨by show (c_4 l).length<=20;omega,Int.le_refl _,(λ e z=>by cases z),ae4,bg6 100,ke⟩,by show (c_4 l).length<=8;omega,λ t k v t0=>?_⟩
  ·simp only[KK,evS,aC0,f_8] at mb
   cases o with
   |true =>
    simp only[aE4] at mb;simp[b_9,g_0,dRw,rwW,rwR,List.replicate,f_0,e_5,aE4,W,e4,sz,mb,dBO,mkX,evS]
   |false =>
    simp only[aj6] at mb;simp[b_9,g_0,dRw,rwW,rwR,List.replicate,f_0,e_5,aj6,W,e4,sz,mb,dBO,mkX,evS]
  ·unfold thr hasX
   dsimp only;rw[mem,aH3];cases q:inK o l k <;> simp[t0,endB]
 |span lo hi =>
  refine .inl ?_;obtain⟨o1,o2,hle⟩:=ok.span lo hi rfl;have md:=q_5 lo hi 1 0;have T:=St.made_ok (lo:=lo) (hi:=hi) (st:=1) (re:=0) (by decide) (by decide) (by decide)
  have hv:∃ v,St.Between lo hi 1 0 v:=by
   cases lo with
   |some a=>exact⟨a,λ l e=>by cases e;exact Int.le_refl _,λ h e=>hle a h rfl e,by omega⟩
   |none =>
    cases hi with
    |some b=>exact⟨b,λ l e=>(by cases e),λ h e=>by cases e;exact Int.le_refl _,by omega⟩
    |none=>exact⟨0,λ l e=>(by cases e),λ l e=>(by cases e),by decide⟩
  obtain⟨v0,hv⟩:=hv;obtain⟨s,es,cs,hs⟩:=T.some hv;have bs:=St.made_bd (re:=0) o1 o2 (m:=2 ^ 99) (show (1:Int).natAbs<=2 ^ 99 from Nat.one_le_two_pow) (by decide) s es
  have p100:(2:Nat) ^ 100=2 ^ 99+2 ^ 99:=by rw[Nat.pow_succ,Nat.mul_two]
  rw[es] at md;have mb:=n_3 false [] 0 none s;refine⟨⟨false,[],0,none,s⟩,?_,⟨by show 0 ≤ 20;decide,Int.le_refl _,(λ e z=>by cases z),cs,by rw[p100];exact bs,Str.ofString "a",v_7 _⟩,Nat.zero_le _,λ t k v t0=>?_⟩
  ·simp only[KK,aj6,List.map_nil,f_8] at mb
   simp only[dOS] at md;simp[b_9,g_0,dRw,rwW,rwR,List.replicate,f_0,e_5,k_6,k_1,W,md,mb,dBO,mkX,dB,KK,aj6]
  ·unfold thr hasX
   dsimp only;rw[v_7]
   have e:hasB s v=(leB lo v&&geB hi v):=by
    rw[Bool.eq_iff_iff,hasB_iff,hs,Bool.and_eq_true,aq0,as1];exact⟨λ h=>⟨h.1,h.2⟩,λ h=>⟨h.1,h.2,by omega⟩⟩
   rw[e];cases leB lo v <;> cases geB hi v <;> simp[t0,endB]
 |rest m x =>
  refine .inl ?_;obtain⟨m1,m2,x0,x1⟩:=ok.rest m x rfl;have md:=q_5 none none m x;have T:=St.made_ok (lo:=none) (hi:=none) (st:=m) (re:=x) (by omega) x0 x1
  have hv:St.Between none none m x x:=⟨λ l e=>(by cases e),λ l e=>(by cases e),Int.emod_eq_of_lt x0 x1⟩
  obtain⟨s,es,cs,hs⟩:=T.some hv;have bs:=St.made_bd (re:=x) (n:=2 ^ 99) (lo:=none) (hi:=none) (λ l e=>(by cases e)) (λ l e=>(by cases e)) (m:=2 ^ 99) (show m.natAbs<=2 ^ 99 by rw[bs2];omega) (by omega) s es
  have p100:(2:Nat) ^ 100=2 ^ 99+2 ^ 99:=by rw[Nat.pow_succ,Nat.mul_two]
  rw[es] at md;have mb:=n_3 false [] 0 none s;refine⟨⟨false,[],0,none,s⟩,?_,⟨by show 0 ≤ 20;decide,Int.le_refl _,(λ e z=>by cases z),cs,by rw[p100];exact bs,Str.ofString "a",v_7 _⟩,Nat.zero_le _,λ t k v t0=>?_⟩
  ·simp only[KK,aj6,List.map_nil,f_8] at mb
   simp only[dOS,f_8] at md;simp[b_9,g_0,dRw,rwW,rwR,List.replicate,f_0,e_5,k_6,k_1,W,md,mb,dBO,mkX,dB,KK,aj6]
  ·unfold thr hasX
   dsimp only;rw[v_7]
   have e:hasB s v=decide (v % m=x):=by
    rw[Bool.eq_iff_iff,hasB_iff,hs,decide_eq_true_iff];exact⟨λ h=>h.3,λ h=>⟨λ l e=>(by cases e),λ l e=>(by cases e),h⟩⟩
   rw[e]
   by_cases c:v % m=x <;> simp[c,t0,endB]
 |turn a b =>
  exact .inr ⟨by simp[b_9,g_0,dRw,rwW,rwR,List.replicate,f_0,e_5,W],.inl ⟨a,b,rfl⟩⟩
 |later c =>
  exact .inr ⟨by simp[b_9,g_0,dRw,rwW,rwR,List.replicate,f_0,e_5,W],.inr (.inl ⟨c,rfl⟩)⟩
 |put tb =>
  exact .inr ⟨by simp[b_9,g_0,dRw,rwW,rwR,dT,List.replicate,f_0,e_5,W],.inr (.inr ⟨tb,rfl⟩)⟩
theorem aS9 (b:Bx):b_2 (dB b) (.int 0)=some (KK b.o b.ts):=rfl
theorem aS8 (b:Bx):b_2 (dB b) (.int 1)=some (.int b.bg):=rfl
theorem aS7 (b:Bx):b_2 (dB b) (.int 2)=some (dO b.en):=rfl
theorem aS6 (b:Bx):b_2 (dB b) (.int 3)=some (dS b.s):=rfl
theorem ad5 (b:Bx) (c:Int):h_5 [dB b,.int c]=some (dBO (mkX b.o b.ts (b.bg+c) (b.en.map (·+c)) b.s)):=by
 have mb:=n_3 b.o b.ts (b.bg+c) (b.en.map (·+c)) b.s;cases e:b.en with
 |none =>
  rw[e] at mb;simp only[Option.map_none,f_8] at mb;simp[h_5,w_9,List.replicate,aS9,aS8,aS7,aS6,e,mb]
 |some x =>
  rw[e] at mb;simp only[Option.map_some,k_4] at mb;simp[h_5,w_9,List.replicate,aS9,aS8,aS7,aS6,e,mb]
theorem v_3 {o:Bool}{ts:List Str}{bg:Int}{en:Option Int}{s:St.S} (t:Int) (t0:0<=t) (k:Str) (v:Int):hasXO (mkX o ts bg en s) t k v=(decide (bg<=t)&&endB en t&&inK o ts k&&hasB s v):=by
 have e:decide ((if 0 > bg then 0 else bg)<=t)=decide (bg<=t):=by
  rw[decide_eq_decide]
  split <;> omega
 cases en with
 |none =>
  show (decide ((if 0 > bg then 0 else bg)<=t)&&true&&_&&_)=_;rw[e];rfl
 |some x =>
  simp only[mkX]
  by_cases h:x<=(if 0 > bg then 0 else bg)
  ·rw[if_pos h]
   show false=_
   symm
   by_cases q:bg<=t
   ·have:¬ t<x:=by split at h <;> omega
    simp[endB,this]
   ·simp[q]
  ·rw[if_neg h]
   show (decide ((if 0 > bg then 0 else bg)<=t)&&endB (some x) t&&_&&_)=_;rw[e]
abbrev bf2 (b:Bx) (x:Th):Bool:=hasX b x.1 x.2.1 x.2.2
theorem hx (b:Bx) (t:Int) (k:Str) (v:Int):hasX b t k v=(decide (b.bg<=t)&&endB b.en t&&inK b.o b.ts k&&hasB b.s v):=rfl
theorem ae6 (en:Option Int) (c t:Int):endB (en.map (·+c)) t=endB en (t-c):=by
 cases en with
 |none=>rfl
 |some x =>
  show decide (t<x+c)=decide (t-c<x);rw[decide_eq_decide];omega
theorem Q_9 {a b:Nat} (h:a<=b):2 ^ a<=2 ^ b:=Nat.pow_le_pow_right (by decide) h
theorem af1 {r:Rw} (ok:ROk r) {n:Nat} (n1:100<=n) (n2:n<=210) {b:Bx} (w:WB n b) (hl:b.ts.length<=10):∃ q,e_0 [dRw r,dB b]=some (dBO q) /\
  (∀ t k v,0<=t->hasXO q t k v=match thr r (t,k,v) with | none=>false | some y=>bf2 b y)/\∀ m,q=some m->WB (2*n+4) m/\m.ts.length<=b.ts.length+8:=by
 have W:=ak6
 rcases Q_1 ok with ⟨s,es,sv⟩ | ⟨es,hr⟩
 ·obtain⟨q,e,h1,h2⟩:=aN8 (n:=n) (by omega) (sv.w.mono n1) w (by have:=sv.l;omega)
  refine⟨q,by simp[e_0,o_8,List.replicate,es,J_4,e],λ t k v t0=>?_,λ m em=>⟨(h2 m em).1,by have:=(h2 m em).2;have:=sv.l;omega⟩⟩
  rw[h1,sv.h t k v t0];cases hasX s t k v <;> rfl
 ·rcases hr with ⟨a,c,rfl⟩ | ⟨c,rfl⟩ | ⟨tb,rfl⟩
  ·obtain⟨o1,o2,o3⟩:=ok.turn a c rfl
   have s2:=w.bd.st;have pp:=w.c.pos;obtain⟨g,f,E,e1⟩:=aw0 (a:=a) (b:=c) w.c.pos (ah7 (k:=n) (by omega) (by omega)) w.c.r0 w.c.r1 o1 (ah7 (k:=10) (by omega) (by decide)) (ah7 (k:=10) (by omega) (by decide))
   have T:=St.back_ok (b:=c) w.c o1 E;have B:=St.back_bd (b:=c) w.c E o1 w.bd (Nat.le_trans o3 (Nat.le_trans (by decide:1000<=2 ^ 100) (Q_9 n1)))
   have p3:2 ^ n+2 ^ n+2 ^ n<=2 ^ (2*n+4):=by
    have h:2 ^ (2*n+4)=2 ^ n*(2 ^ n*16):=by rw[Nat.two_mul,Nat.pow_add,Nat.pow_add,Nat.mul_assoc]
    have h1:1<=2 ^ n:=Nat.one_le_two_pow;rw[h];have:2 ^ n*3<=2 ^ n*(2 ^ n*16):=Nat.mul_le_mul_left _ (by omega)
    omega
   have e3:e_0 [dRw (.turn a c),dB b]=some (dBO (mk2 (some (b.o,b.ts)) b.bg b.en (St.back2 b.s a c g f))):=by
    have em:=ad0 (some (b.o,b.ts)) b.bg b.en (St.back2 b.s a c g f);have em:a_9 [KK b.o b.ts,.int b.bg,dO b.en,dOS (St.back2 b.s a c g f)]=_:=em;have x0:b_2 (dRw (.turn a c)) (.int 0)=some (.str "turn"):=rfl;have x3:b_2 (dRw (.turn a c)) (.int 3)=some (.tup [.int a,.int c]):=rfl;simp[e_0,o_8,List.replicate,es,x0,x3,W,aS9,aS8,aS7,aS6,k_6,k_1,e1,em]
   refine⟨_,e3,λ t k v t0=>?_,λ m em=>?_⟩
   ·show _=hasX b t k (a*v+c)
    rw[hx];cases q:St.back2 b.s a c g f with
    |none =>
     rw[q] at T;have:hasB b.s (a*v+c)=false:=by rw[<- Bool.not_eq_true,hasB_iff];exact T v
     rw[this,Bool.and_false];rfl
    |some s =>
     rw[q] at T;have:hasB s v=hasB b.s (a*v+c):=by rw[Bool.eq_iff_iff,hasB_iff,hasB_iff];exact T.2 v
     show hasXO (mkX b.o b.ts b.bg b.en s) t k v=_;rw[v_3 t t0,this]
   ·cases q:St.back2 b.s a c g f with
    |none=>rw[q] at em;cases em
    |some s =>
     rw[q] at em T;have em:mkX b.o b.ts b.bg b.en s=some m:=em;have:=B_1 (n:=2*n+4) em w.l T.1 ((B s q).mono p3) w.ke;obtain⟨rfl,_⟩:=z_8 em;exact⟨this,by show b.ts.length<=_;omega⟩
  ·have c0:=ok.later c rfl
   have le:=ad5 b (-c);have x0:b_2 (dRw (.later c)) (.int 0)=some (.str "later"):=rfl;have x3:b_2 (dRw (.later c)) (.int 3)=some (.tup [.int c]):=rfl;refine⟨_,by simp[e_0,o_8,List.replicate,es,x0,x3,W,aO7,le];rfl,λ t k v t0=>?_,λ m em=>?_⟩
   ·show _=hasX b (t+c) k v
    rw[v_3 t t0,hx,ae6];have e1:decide (b.bg+-c<=t)=decide (b.bg<=t+c):=by rw[decide_eq_decide];omega
    have e2:t - -c=t+c:=by omega
    rw[e1,e2]
   ·have:=B_1 (n:=2*n+4) em w.l w.c (w.bd.mono (Q_9 (by omega))) w.ke
    obtain⟨rfl,_⟩:=z_8 em;exact⟨this,by show b.ts.length<=_;omega⟩
  ·obtain⟨o1,o2⟩:=ok.put tb rfl
   have pb:=ay9 o1 (by omega) b.o (ts:=b.ts) (by omega)
   have x0:b_2 (dRw (.put tb)) (.int 0)=some (.str "put"):=rfl;have x3:b_2 (dRw (.put tb)) (.int 3)=some (dT tb):=rfl;have bl:=U_9 tb b.ts
   by_cases z:b.o=true/\u_4 tb b.ts=[]
   ·have eb:aj2 tb b.o b.ts=.non:=by unfold aj2;rw[if_pos z]
    rw[eb] at pb;have em:=ap1 (.int b.bg) (dO b.en) (dS b.s);refine⟨none,by simp[e_0,o_8,List.replicate,es,x0,x3,W,aS9,aS8,aS7,aS6,pb,em,dBO],λ t k v t0=>?_,λ m em=>by cases em⟩
    show false=hasX b t (bec tb k) v;have bi:=av9 tb b.o b.ts k;rw[z.1,z.2,A_0] at bi;rw[hx,z.1,<- bi];simp
   ·have eb:aj2 tb b.o b.ts=KK b.o (u_4 tb b.ts):=by unfold aj2;rw[if_neg z]
    rw[eb] at pb;have em:=n_3 b.o (u_4 tb b.ts) b.bg b.en b.s
    have ke:∃ k,inK b.o (u_4 tb b.ts) k=true:=by
     cases ho:b.o with
     |true =>
      obtain⟨k,hk⟩:=List.exists_mem_of_ne_nil _ (λ q=>z ⟨ho,q⟩)
      exact⟨k,by rw[A_0,decide_eq_true_iff];exact hk⟩
     |false =>
      obtain⟨k,hk⟩:=y_4 (u_4 tb b.ts);exact⟨k,by rw[C_5];simp[hk]⟩
    refine⟨mkX b.o (u_4 tb b.ts) b.bg b.en b.s,by simp[e_0,o_8,List.replicate,es,x0,x3,W,aS9,aS8,aS7,aS6,pb,em],λ t k v t0=>?_,λ m em=>?_⟩
    ·show _=hasX b t (bec tb k) v
     rw[v_3 t t0,hx,av9]
    ·have:=B_1 (n:=2*n+4) em (by omega) w.c (w.bd.mono (Q_9 (by omega))) ke
     obtain⟨rfl,_⟩:=z_8 em;exact⟨this,by show (u_4 tb b.ts).length<=_;omega⟩
theorem as3 {r:Rw} (ok:ROk r) {b:Bx} (w:WB 100 b) (hl:b.ts.length<=9):∃ q,h_1 [dRw r,dB b]=some (dBO q) /\
  (∀ t k v,0<=t->(hasXO q t k v=true↔∃ y:Th,0<=y.1/\bf2 b y=true/\thr r y=some (t,k,v)))/\∀ m,q=some m->WB 204 m:=by
 have W:=ak6
 rcases Q_1 ok with ⟨s,es,sv⟩ | ⟨es,hr⟩
 ·obtain⟨q,e,h1,h2⟩:=aN8 (n:=100) (by omega) sv.w w (by have:=sv.l;omega)
  refine⟨q,by simp[h_1,p_4,List.replicate,es,J_4,e],λ t k v t0=>?_,λ m em=>(h2 m em).1⟩
  rw[h1,Bool.and_eq_true];constructor
  ·rintro ⟨a1,a2⟩
   refine⟨(t,k,v),t0,a2,?_⟩;rw[sv.h t k v t0,if_pos a1]
  ·rintro ⟨⟨t',k',v'⟩,y0,a1,a2⟩
   rw[sv.h t' k' v' y0] at a2
   split at a2
   ·rename_i c
    cases a2;exact⟨c,a1⟩
   ·cases a2
 ·rcases hr with ⟨a,c,rfl⟩ | ⟨c,rfl⟩ | ⟨tb,rfl⟩
  ·obtain⟨o1,o2,o3⟩:=ok.turn a c rfl
   obtain⟨u,eu,cu,hu,_⟩:=St.moved_some (b:=c) w.c o1;have mv:=S_6 (b:=c) w.c.pos o1 (λ x _=>s_2 (by omega)) (s_2 (by rw[St.ab_abs];omega))
   rw[eu] at mv;have B:=St.moved_bd (b:=c) (m:=1000) w.c o1 w.bd o2 o3 u eu;have p3:1000*2 ^ 100+1000+1000*2 ^ 100<=2 ^ 204:=by decide
   have x0:b_2 (dRw (.turn a c)) (.int 0)=some (.str "turn"):=rfl;have x3:b_2 (dRw (.turn a c)) (.int 3)=some (.tup [.int a,.int c]):=rfl;have em:=n_3 b.o b.ts b.bg b.en u;simp only[dOS] at mv;refine⟨mkX b.o b.ts b.bg b.en u,by simp[h_1,p_4,List.replicate,es,x0,x3,W,aS9,aS8,aS7,aS6,k_6,k_1,mv,em],λ t k v t0=>?_,λ m em=>B_1 em w.l cu (B.mono p3) w.ke⟩
   rw[v_3 t t0];constructor
   ·intro h
    rw[Bool.and_eq_true,hasB_iff] at h;obtain⟨v',m1,rfl⟩:=(hu v).mp h.2;refine⟨(t,k,v'),t0,?_,rfl⟩;show hasX b t k v'=true;rw[hx,Bool.and_eq_true,hasB_iff];exact⟨h.1,m1⟩
   ·rintro ⟨⟨t',k',v'⟩,y0,a1,a2⟩
    cases a2;have a1:hasX b t' k' v'=true:=a1;rw[hx,Bool.and_eq_true,hasB_iff] at a1;rw[Bool.and_eq_true,hasB_iff];exact⟨a1.1,(hu _).mpr ⟨v',a1.2,rfl⟩⟩
  ·have c0:=ok.later c rfl
   have le:=ad5 b c;have x0:b_2 (dRw (.later c)) (.int 0)=some (.str "later"):=rfl;have x3:b_2 (dRw (.later c)) (.int 3)=some (.tup [.int c]):=rfl;refine⟨mkX b.o b.ts (b.bg+c) (b.en.map (·+c)) b.s,by simp[h_1,p_4,List.replicate,es,x0,x3,W,aO7,le],λ t k v t0=>?_,λ m em=>B_1 em w.l w.c (w.bd.mono (Q_9 (by decide))) w.ke⟩
   rw[v_3 t t0,ae6];have e1:decide (b.bg+c<=t)=decide (b.bg<=t-c):=by rw[decide_eq_decide];omega
   rw[e1,<- hx];constructor
   ·intro h
    have hb:b.bg<=t-c:=by
     rw[hx,Bool.and_eq_true,Bool.and_eq_true,Bool.and_eq_true,decide_eq_true_iff] at h;exact h.1.1.1
    have:=w.t0;refine⟨(t-c,k,v),by show 0<=t-c;omega,h,?_⟩
    show some (t-c+c,k,v)=_;rw[show t-c+c=t by omega]
   ·rintro ⟨⟨t',k',v'⟩,y0,a1,a2⟩
    cases a2;rw[show t'+c-c=t' by omega]
    exact a1
  ·obtain⟨o1,o2⟩:=ok.put tb rfl
   have pe:=ba5 o1 (by omega) b.o (ts:=b.ts) (by omega)
   have pl:=az0 tb b.o b.ts;have x0:b_2 (dRw (.put tb)) (.int 0)=some (.str "put"):=rfl;have x3:b_2 (dRw (.put tb)) (.int 3)=some (dT tb):=rfl;have em:=n_3 b.o (aU7 tb b.o b.ts) b.bg b.en b.s;obtain⟨k0,hk0⟩:=w.ke;refine⟨mkX b.o (aU7 tb b.o b.ts) b.bg b.en b.s,by simp[h_1,p_4,List.replicate,es,x0,x3,W,aS9,aS8,aS7,aS6,pe,em],λ t k v t0=>?_,λ m em=>B_1 em (by omega) w.c (w.bd.mono (Q_9 (by decide))) ⟨_,aF3 o1 hk0⟩⟩
   rw[v_3 t t0];constructor
   ·intro h
    rw[Bool.and_eq_true,Bool.and_eq_true] at h;obtain⟨p,_,h1,h2⟩:=ay8 (pr:=k::(b.ts++fst tb)) o1 List.mem_cons_self (λ p hp=>qg _ (List.mem_append_left _ hp)) (λ p hp=>qg _ (ql _ hp)) h.1.2
    refine⟨(t,p,v),t0,?_,by rw[<- h2];rfl⟩
    show hasX b t p v=true;rw[hx,Bool.and_eq_true,Bool.and_eq_true];exact⟨⟨h.1.1,h1⟩,h.2⟩
   ·rintro ⟨⟨t',k',v'⟩,y0,a1,a2⟩
    cases a2;have a1:hasX b t' k' v'=true:=a1;rw[hx,Bool.and_eq_true,Bool.and_eq_true] at a1;rw[Bool.and_eq_true,Bool.and_eq_true];exact⟨⟨a1.1.1,aF3 o1 a1.1.2⟩,a1.2⟩
theorem ab5 (wd:Str) (hw:wd.length<=100) (at_:Int):∀ cs:List Nat,cGo tYes (e2 n_9 (e2 n_9 (aj8 (eV 1) oN (oS (eV 2))) (eV 0)) (aj8 (eV 1) (oS (e2 n_9 (eV 2) (eC (.int 1)))) oN)) [.im (.str wd),.im (.int at_)] (cs.map λ c=>.str (chS c))=some ((cs.map λ c=>Txt.slice wd none (some at_)++chS c++Txt.slice wd (some (at_+1)) none).map .str)
 |[]=>rfl
 |c::r=>by
  have e:=ab5 wd hw at_ r;have wz:wd.length<=sizeLine:=b_1 (by omega)
  have s1:=Txt.slice_le wd none (some at_);have s2:=Txt.slice_le wd (some (at_+1)) none;have cl:(chS c).length=1:=rfl;have z1:(Txt.slice wd none (some at_)).length+(chS c).length<=sizeLine:=b_1 (by omega)
  have z2:(Txt.slice wd none (some at_)++chS c).length+(Txt.slice wd (some (at_+1)) none).length<=sizeLine:=b_1 (by rw[P_0];omega)
  rw[List.map_cons,ai6];show cGa _ _ _ _ (some (true,_))=_;have st:e2 n_9 (e2 n_9 (aj8 (eV 1) oN (oS (eV 2))) (eV 0)) (aj8 (eV 1) (oS (e2 n_9 (eV 2) (eC (.int 1)))) oN) [.im (.str (chS c)),.im (.str wd),.im (.int at_)]
    = some (.str (Txt.slice wd none (some at_)++chS c++Txt.slice wd (some (at_+1)) none),[.im (.str (chS c)),.im (.str wd),.im (.int at_)]):=by
   simp[wz,z1,z2]
  rw[ai8,st,ai7,e,J_8];rfl
theorem ay2 {a b:Str}{c d:Nat} (h:a++chS c++b=a++chS d++b):c=d:=by
 have h1:(a.cps++#[c]++b.cps)=(a.cps++#[d]++b.cps):=congrArg Str.cps h
 have h2:(a.cps.toList++[c]++b.cps.toList)=(a.cps.toList++[d]++b.cps.toList):=by
  have:=congrArg Array.toList h1
  simpa using this
 have h3:=List.append_cancel_right h2;have h4:=List.append_cancel_left h3
 simpa using h4
theorem az6 {ns:List Int} (hn:ns.length ≤ 63) {o:MO} (ho:r_0 ns o):∃ (ks:List Str) (o':MO),m_7 o []=some (.lst (ks.map .str),o') ∧ ks.length=9 ∧ (∀ k∈ks,k.length ≤ 300) ∧ ks.Nodup ∧ Str.ofString "q"∉ks ∧ r_0 ns o':=by
 obtain⟨r1,o1,e1,h1,ho1⟩:=w_5 hn ho;have f0:=Int.fmod_nonneg_of_pos r1 (b:=8) (by decide)
 have f1:=Int.fmod_lt_of_pos r1 (b:=8) (by decide)
 have el:(Str.ofString "").length=0:=by decide +kernel
 obtain⟨ρ',el',o2,wd,s3,ho2,hl,rfl⟩:=N_5 (g:=gN 3) (B:=q_0) (λ i ρ=>∃ o wd s3,r_0 ns o/\wd.length=i/\ρ=[.ow true o,.im (.str alpha),.im (.str wd),s3,.no]) (1+r1.fmod 8).toNat 0 0
  [.ow true o1,.im (.str alpha),.im (.str ""),.no,.no] (λ i v ρ hi p=>am2 hn .no i v ρ (by omega) p) ⟨o1,_,_,ho1,el,rfl⟩
 obtain⟨r2,o3,e3,h3,ho3⟩:=w_5 hn ho2;have wz:wd.length<=sizeLine:=b_1 (by omega)
 have q1:-4611686018427387904<=1+r1.fmod 8:=by omega
 have q2:1+r1.fmod 8<4611686018427387904:=by omega
 by_cases h:r2.fmod 3=1
 ·refine⟨br6,o3,?_,rfl,by decide +kernel,by decide +kernel,by decide +kernel,ho3⟩
  simp[m_7,A_5,List.replicate,e1,q1,q2,el',e3,h]
 ·obtain⟨r3,o4,e4,h4,ho4⟩:=w_5 hn ho3
  have nz:¬ (wd.length:Int)=0:=by omega
  have nz':¬ wd.length=0:=by omega
  have ek:=ab5 wd (by omega) (r3.fmod (wd.length:Int)) (Str.ofString "abcdefghz").cps.toList
  have sl:(Str.ofString "abcdefghz").cps.toList.length=9:=by decide +kernel
  have cl:(chs (Str.ofString "abcdefghz")).length ≤ sizeLine:=by
   unfold chs;rw[List.length_map,sl];exact b_1 (by decide)
  generalize hks:((Str.ofString "abcdefghz").cps.toList.map λ c=>Txt.slice wd none (some (r3.fmod (wd.length:Int)))++chS c++Txt.slice wd (some (r3.fmod (wd.length:Int)+1)) none)=ks at ek
  have ek':cGo tYes (e2 n_9 (e2 n_9 (aj8 (eV 1) oN (oS (eV 2))) (eV 0)) (aj8 (eV 1) (oS (e2 n_9 (eV 2) (eC (.int 1)))) oN)) [.im (.str wd),.im (.int (r3.fmod (wd.length:Int)))] (chs (Str.ofString "abcdefghz"))=some (ks.map .str):=ek;refine⟨ks,o4,?_,by rw[<- hks,List.length_map,sl],λ k hk=>?_,?_,λ hq=>?_,ho4⟩
  ·simp[m_7,A_5,List.replicate,e1,q1,q2,el',e3,h,e4,wz,nz,nz',ek',cl]
  ·rw[<- hks,List.mem_map] at hk
   obtain⟨c,_,rfl⟩:=hk;have s1:=Txt.slice_le wd none (some (r3.fmod (wd.length:Int)));have s2:=Txt.slice_le wd (some (r3.fmod (wd.length:Int)+1)) none;have cl:(chS c).length=1:=rfl;rw[P_0,P_0];omega
  ·rw[<- hks]
   have nd:(Str.ofString "abcdefghz").cps.toList.Nodup:=by decide +kernel
   exact List.Pairwise.map _ (λ x y hxy z=>hxy (ay2 z)) nd
  ·rw[<- hks,List.mem_map] at hq
   obtain⟨c,hc,e⟩:=hq;have d:∀ c∈(Str.ofString "abcdefghz").cps.toList,¬ c∈(Str.ofString "q").cps.toList:=by decide +kernel
   refine d c hc ?_;rw[<- e];show c∈((Txt.slice wd none (some (r3.fmod (wd.length:Int)))).cps++#[c]++(Txt.slice wd (some (r3.fmod (wd.length:Int)+1)) none).cps).toList;simp
theorem ag3 {ns:List Int} (hn:ns.length<=63) {o:MO} (h:r_0 ns o):∃ (r:Option St.S) (o':MO),e_3 o []=some (dOS r,o')/\(∀ s,r=some s->GSt s)/\r_0 ns o':=by
 obtain⟨g,o1,e1,l1,u1,h1⟩:=ad9 hn h;obtain⟨r2,o2,e2,_,_,h2⟩:=i_3 hn h1
 have fin:∀ o,r_0 ns o->∃ (r5:Int) (o5:MO) (r6:Int) (o6:MO) (st:Int),a_1 o []=some (.int r5,o5)/\a_1 o5 []=some (.int r6,o6)/\atD [.int 1,.int 1,.int 2,.int 3,.int 5,.int 12] (r5.fmod 6)=some (.int st)/\1<=st/\st<=12/\0<=r6.fmod st/\r6.fmod st<st/\r_0 ns o6:=λ o ho=>by
  obtain⟨r5,o5,e5,_,_,h5⟩:=i_3 hn ho;obtain⟨r6,o6,e6,_,_,h6⟩:=i_3 hn h5;have f6:=g_7 r5 (m:=6) (by decide)
  obtain⟨st,es,s1,s2⟩:=ay0 f6.1 f6.2;have fs:=g_7 r6 (m:=st) (by omega)
  exact⟨r5,o5,r6,o6,st,e5,e6,es,s1,s2,fs.1,fs.2,h6⟩
 by_cases c2:r2.fmod 5=2
 ·have c1:¬ r2.fmod 5=1:=by omega
  obtain⟨r5,o5,r6,o6,st,e5,e6,es,s1,s2,f0,f1,h6⟩:=fin o2 h2;have sn:¬ st=0:=by omega
  have em:=q_5 (some g) none st (r6.fmod st);simp only[f_8,k_4] at em;refine⟨St.made (some g) none st (r6.fmod st),o6,?_,y_1 s1 s2 f0 f1 (w_4 (by omega) (by omega)) q_4,h6⟩
  simp[e_3,l_4,List.replicate,e1,e2,c2,e5,e6,es,sn,em]
 ·obtain⟨r3,o3,e3,_,_,h3⟩:=i_3 hn h2
  have f30:=g_7 r3 (m:=30) (by decide)
  by_cases c3:r2.fmod 5=3
  ·have c1:¬ r2.fmod 5=1:=by omega
   obtain⟨g4,o4,e4,l4,u4,h4⟩:=ad9 hn h3;obtain⟨r5,o5,r6,o6,st,e5,e6,es,s1,s2,f0,f1,h6⟩:=fin o4 h4;have sn:¬ st=0:=by omega
   have em:=q_5 (some g) (some (g+(g4.natAbs:Int))) st (r6.fmod st);simp only[f_8,k_4] at em;refine⟨St.made (some g) (some (g+(g4.natAbs:Int))) st (r6.fmod st),o6,?_,y_1 s1 s2 f0 f1 (w_4 (by omega) (by omega)) (w_4 (by omega) (by omega)),h6⟩
   simp[e_3,l_4,List.replicate,e1,e2,c3,e3,e4,e5,e6,es,sn,em]
  ·obtain⟨r5,o5,r6,o6,st,e5,e6,es,s1,s2,f0,f1,h6⟩:=fin o3 h3
   have sn:¬ st=0:=by omega
   by_cases c1:r2.fmod 5=1
   ·have em:=q_5 none (some (g+r3.fmod 30)) st (r6.fmod st)
    simp only[f_8,k_4] at em;refine⟨St.made none (some (g+r3.fmod 30)) st (r6.fmod st),o6,?_,y_1 s1 s2 f0 f1 q_4 (w_4 (by omega) (by omega)),h6⟩
    simp[e_3,l_4,List.replicate,e1,e2,c1,e3,e5,e6,es,sn,em]
   ·have em:=q_5 (some g) (some (g+r3.fmod 30)) st (r6.fmod st)
    simp only[f_8,k_4] at em;refine⟨St.made (some g) (some (g+r3.fmod 30)) st (r6.fmod st),o6,?_,y_1 s1 s2 f0 f1 (w_4 (by omega) (by omega)) (w_4 (by omega) (by omega)),h6⟩
    simp[e_3,l_4,List.replicate,e1,e2,c1,c2,c3,e3,e5,e6,es,sn,em]
theorem aI9 {ns:List Int} (hn:ns.length<=63) {o:MO} (h:r_0 ns o):∃ (r:Int) (o':MO),m_6 o []=some (.int r,o')/\0<=r/\r_0 ns o':=by
 obtain⟨r1,o1,e1,_,_,h1⟩:=i_3 hn h;obtain⟨r2,o2,e2,l2,u2,h2⟩:=i_3 hn h1;have p10:(10:Int).natAbs<2 ^ 64:=by decide
 by_cases c:r1.fmod 4=1
 ·obtain⟨r3,o3,e3,l3,u3,h3⟩:=i_3 hn h2
  have k1:l_6 r2 100000000000000000000=true:=s_2 (by omega)
  refine⟨r2*100000000000000000000+r3,o3,?_,by omega,h3⟩
  simp[m_6,A_4,List.replicate,e1,c,e2,e3,p10,aJ0,k1]
 ·have f30:=g_7 r2 (m:=30) (by decide)
  refine⟨r2.fmod 30,o2,?_,f30.1,h2⟩;simp[m_6,A_4,List.replicate,e1,c,e2]
theorem aq6 {ns:List Int} (hn:ns.length<=63) {o:MO} (ho:r_0 ns o) {ks:List Str} (hk:ks.length=9) :
  ∃ (b:Bool) (ts:List Str) (o':MO),j_6 o [.lst (ks.map .str)]=some (KK b ts,o')/\ts.length<=9/\(∃ k,inK b ts k=true)/\r_0 ns o':=by
 obtain⟨w,ts,o',e,hw,⟨ks',rfl,sub,len⟩,ho'⟩:=aO5 hn ho hk
 have l9:(c_4 (a_6 [] ks')).length<=9:=by
  rw[(c_0 _).length_eq];have:=f_1 ks' [];rw[List.length_nil] at this;omega
 rcases hw with ⟨rfl,ne⟩ | rfl
 ·obtain⟨k,hk⟩:=List.exists_mem_of_ne_nil _ ne
  exact⟨true,_,o',e,l9,⟨k,by rw[A_0,decide_eq_true_iff];exact hk⟩,ho'⟩
 ·obtain⟨k,hk⟩:=y_4 (c_4 (a_6 [] ks'))
  exact⟨false,_,o',e,l9,⟨k,by rw[C_5];simp[hk]⟩,ho'⟩
theorem bO8 {ns:List Int} (hn:ns.length<=63) {o:MO} (ho:r_0 ns o) {ks:List Str} (hk:ks.length=9):∃ (r:Option Bx) (o':MO),n_6 o [.lst (ks.map .str)]=some (dBO r,o')/\(∀ b,r=some b->WB 100 b/\b.ts.length<=9)/\r_0 ns o':=by
 obtain⟨kb,ts,o1,e1,l1,ke,h1⟩:=aq6 hn ho hk;obtain⟨bg,o2,e2,b0,h2⟩:=aI9 hn h1;obtain⟨r3,o3,e3,_,_,h3⟩:=i_3 hn h2;obtain⟨r4,o4,e4,_,_,h4⟩:=i_3 hn h3;obtain⟨sr,o5,e5,g5,h5⟩:=ag3 hn h4;have f12:=g_7 r3 (m:=12) (by decide)
 have key:∀ en:Option Int,∃ r:Option Bx,a_9 [KK kb ts,.int bg,dO en,dOS sr]=some (dBO r)/\∀ b,r=some b->WB 100 b/\b.ts.length<=9:=λ en=>by
  cases sr with
  |none=>exact⟨none,ap0 _ _ _ _,λ b e=>by cases e⟩
  |some s =>
   refine⟨mkX kb ts bg en s,n_3 _ _ _ _ _,λ b e=>?_⟩
   have w:=B_1 (n:=100) e (by omega) (g5 s rfl).c (g5 s rfl).bd ke
   obtain⟨rfl,_⟩:=z_8 e;exact⟨w,l1⟩
 by_cases c:r4.fmod 3=1
 ·obtain⟨r,er,hr⟩:=key none
  simp only[f_8] at er;refine⟨r,o5,?_,hr,h5⟩;simp[n_6,F_8,List.replicate,e1,e2,e3,e4,e5,c,er]
 ·obtain⟨r,er,hr⟩:=key (some (bg+1+r3.fmod 12))
  simp only[k_4] at er;refine⟨r,o5,?_,hr,h5⟩;simp[n_6,F_8,List.replicate,e1,e2,e3,e4,e5,c,er]
theorem bs8 {ns:List Int} (hn:ns.length<=63) {o:MO} (ho:r_0 ns o) {ks:List Str} (hk:ks.length=9) {n:Nat} (b:Bx) (bd:St.Bd b.s (2 ^ n)):∃ (t:Int) (k:Str) (v:Int) (o':MO),g_5 o [dB b,.lst (ks.map .str)]=some (dTh t k v,o')/\0<=t/\v.natAbs<=2 ^ n+6/\r_0 ns o':=by
 obtain⟨kb,ts,bg,en,s⟩:=b;obtain⟨lo,hi,st,re⟩:=s;have bl:∀ l,lo=some l->l.natAbs<=2 ^ n:=bd.lo;have bh:∀ l,hi=some l->l.natAbs<=2 ^ n:=bd.hi;obtain⟨r1,o1,e1,_,_,h1⟩:=i_3 hn ho;obtain⟨r2,o2,e2,_,_,h2⟩:=i_3 hn h1;have lz:ks.length+1<=sizeLine:=b_1 (by omega)
 have tail:∀ (o:MO),r_0 ns o->∃ (r4:Int) (o4:MO) (r5:Int) (o5:MO) (r6:Int) (o6:MO) (eg:Option Int) (k:Str),a_1 o []=some (.int r4,o4)/\a_1 o4 []=some (.int r5,o5)/\a_1 o5 []=some (.int r6,o6) /\
   atD [dO lo,dO hi,.int st,.int re] (r4.fmod 2)=some (dO eg) ∧ atD (ks.map D.str++[.str "q"]) (r6.fmod 10)=some (.str k) ∧ (∀ l,eg=some l → l.natAbs ≤ 2 ^ n) ∧ 0 ≤ r5.fmod 13 ∧ r5.fmod 13<13 ∧ r_0 ns o6:=λ o ho=>by
  obtain⟨r4,o4,e4,_,_,h4⟩:=i_3 hn ho;obtain⟨r5,o5,e5,_,_,h5⟩:=i_3 hn h4;obtain⟨r6,o6,e6,_,_,h6⟩:=i_3 hn h5;have f2:=g_7 r4 (m:=2) (by decide)
  have f10:=g_7 r6 (m:=10) (by decide)
  have f13:=g_7 r5 (m:=13) (by decide)
  obtain⟨k,_,ek⟩:=af4 D.str (ks++[Str.ofString "q"]) (i:=r6.fmod 10) f10.1 (by rw[List.length_append,hk];exact f10.2)
  rw[List.map_append] at ek;have:r4.fmod 2=0\/r4.fmod 2=1:=by omega
  rcases this with z | z
  ·exact⟨r4,o4,r5,o5,r6,o6,lo,k,e4,e5,e6,by rw[z];rfl,ek,bl,f13.1,f13.2,h6⟩
  ·exact⟨r4,o4,r5,o5,r6,o6,hi,k,e4,e5,e6,by rw[z];rfl,ek,bh,f13.1,f13.2,h6⟩
 unfold dB dTh;dsimp only
 by_cases c:r2.fmod 2=1/\∃ e,en=some e
 ·obtain⟨c,e,rfl⟩:=c
  obtain⟨r3,o3,e3,_,_,h3⟩:=i_3 hn h2;obtain⟨r4,o4,r5,o5,r6,o6,eg,k,e4,e5,e6,ee,ek,beg,g0,g1,h6⟩:=tail o3 h3;cases eg with
  |none =>
   refine⟨if e+r3.fmod 5-3<0 then 0 else e+r3.fmod 5-3,k,r5.fmod 13-6,o6,?_,by split <;> omega,by generalize 2 ^ n=N;omega,h6⟩
   simp[g_5,n_0,List.replicate,f_0,r_6,q_6,e_5,e1,e2,c,e3,e4,e5,e6,ee,ek,lz]
  |some x =>
   refine⟨if e+r3.fmod 5-3<0 then 0 else e+r3.fmod 5-3,k,x+r5.fmod 13-6,o6,?_,by split <;> omega,by have:=beg x rfl;generalize 2 ^ n=N at *;omega,h6⟩
   simp[g_5,n_0,List.replicate,f_0,r_6,q_6,e_5,e1,e2,c,e3,e4,e5,e6,ee,ek,lz]
 ·obtain⟨r4,o4,r5,o5,r6,o6,eg,k,e4,e5,e6,ee,ek,beg,g0,g1,h6⟩:=tail o2 h2
  by_cases c1:r2.fmod 2=1
  ·have:en=none:=by
    cases en with
    |none=>rfl
    |some e=>exact absurd ⟨c1,e,rfl⟩ c
   subst this;cases eg with
   |none =>
    refine⟨if bg+r1.fmod 5-2<0 then 0 else bg+r1.fmod 5-2,k,r5.fmod 13-6,o6,?_,by split <;> omega,by generalize 2 ^ n=N;omega,h6⟩
    simp[g_5,n_0,List.replicate,f_0,r_6,q_6,e_5,e1,e2,c1,e4,e5,e6,ee,ek,lz]
   |some x =>
    refine⟨if bg+r1.fmod 5-2<0 then 0 else bg+r1.fmod 5-2,k,x+r5.fmod 13-6,o6,?_,by split <;> omega,by have:=beg x rfl;generalize 2 ^ n=N at *;omega,h6⟩
    simp[g_5,n_0,List.replicate,f_0,r_6,q_6,e_5,e1,e2,c1,e4,e5,e6,ee,ek,lz]
  ·cases eg with
   |none =>
    refine⟨if bg+r1.fmod 5-2<0 then 0 else bg+r1.fmod 5-2,k,r5.fmod 13-6,o6,?_,by split <;> omega,by generalize 2 ^ n=N;omega,h6⟩
    simp[g_5,n_0,List.replicate,f_0,r_6,q_6,e_5,e1,e2,c1,e4,e5,e6,ee,ek,lz]
   |some x =>
    refine⟨if bg+r1.fmod 5-2<0 then 0 else bg+r1.fmod 5-2,k,x+r5.fmod 13-6,o6,?_,by split <;> omega,by have:=beg x rfl;generalize 2 ^ n=N at *;omega,h6⟩
    simp[g_5,n_0,List.replicate,f_0,r_6,q_6,e_5,e1,e2,c1,e4,e5,e6,ee,ek,lz]
theorem aE6 (fs:List Str) (ρ:En):∀ nm:List Str,aa5 (tB (aS2 true (eV 0) 1)) (eV 0) ρ 3 [3] 0 (.lst (fs.map .str)) (nm.map .str)=some ((nm.filter λ k=>!decide (k∈fs)).map .str,.lst (fs.map .str))
 |[]=>rfl
 |k::r=>by
  have ih:=aE6 fs ρ r;have fr:aj7 ρ 3 (.lst (fs.map .str)) [3]=some [.ow true (.lst (fs.map .str))]:=rfl;have ok:=r_4 k fs;have e:=w_7 k fs
  have t:tB (aS2 true (eV 0) 1) [.im (.str k),.ow true (.lst (fs.map .str))]=some (!decide (k∈fs),[.im (.str k),.ow true (.lst (fs.map .str))]):=by
   simp[ok,e]
  rw[List.map_cons,y_7,fr,b_8,t,b_8]
  by_cases c:k∈fs
  ·rw[decide_eq_true c]
   show (if false=true then _ else bnd (some (MO.lst (fs.map .str))) _)=_;rw[if_neg (by simp),b_8,ih,List.filter_cons_of_neg (by simp[c])]
  ·rw[decide_eq_false c]
   have f:eV 0 [.im (.str k),.ow true (.lst (fs.map .str))]=some (.str k,[.im (.str k),.ow true (.lst (fs.map .str))]):=rfl;show (if true=true then bnd (eV 0 [.im (.str k),.ow true (.lst (fs.map .str))]) _ else _)=_;rw[if_pos rfl,f,b_8];show bnd (some (MO.lst (fs.map .str))) _=_;rw[b_8,ih,b_8,List.filter_cons_of_pos (by simp[c]),List.map_cons]
theorem aX3 {nm fs:List Str} (nd:nm.Nodup) (hf:fs.length<nm.length):(nm.filter λ k=>!decide (k∈fs))≠[]:=λ z=>by
 have h:∀ k∈nm,k∈fs:=λ k hk=>by
  have:=List.filter_eq_nil_iff.mp z k hk
  simpa using this
 have:=List.Nodup.length_le_of_subset nd h;omega
theorem ax7 {ns:List Int} (hn:ns.length<=63) {nm:List Str} (nd:nm.Nodup) (hl:nm.length=9) (many:D) (i:Nat) (v:Int) (ρ:En) (hi:i<9) (p:∃ (o:MO) (fs:List Str) (x4 x5:Sl),r_0 ns o/\fs.length=i/\fs.Nodup/\ρ=[.ow true o,.im (.lst (nm.map .str)),.im many,.ow false (.lst (fs.map .str)),x4,x5]) :
  ∃ ρ1 ρ2,gN 4 (.int v) ρ=some ρ1/\n_4 ρ1=some (.nx ρ2)/\∃ (o:MO) (fs:List Str) (x4 x5:Sl),r_0 ns o/\fs.length=i+1/\fs.Nodup/\ρ2=[.ow true o,.im (.lst (nm.map .str)),.im many,.ow false (.lst (fs.map .str)),x4,x5]:=by
 obtain⟨o,fs,x4,x5,ho,hf,fd,rfl⟩:=p;obtain⟨r1,o1,e1,l1,ho1⟩:=w_5 hn ho;have lg:=aE6 fs [.ow true o,.im (.lst (nm.map .str)),.im many,.ow false (.lst (fs.map .str)),.im (.int v),x5] nm;have ne:=aX3 (fs:=fs) nd (by omega)
 have mem:∀ a∈nm.filter (λ k=>!decide (k∈fs)),a∉fs:=λ a ha=>by
  simpa using (List.mem_filter.mp ha).2
 generalize nm.filter (λ k=>!decide (k∈fs))=left at lg ne mem
 have lp:0<left.length:=by
  cases left with
  |nil=>exact absurd rfl ne
  |cons a r=>exact Nat.succ_pos _
 have lpz:¬ (left.length:Int)=0:=by omega
 have lpz':¬ left.length=0:=by omega
 have m1:0<=r1.fmod left.length/\r1.fmod left.length<left.length:=⟨Int.fmod_nonneg_of_pos _ (by omega),Int.fmod_lt_of_pos _ (by omega)⟩
 obtain⟨a,ha,ea⟩:=af4 D.str left m1.1 m1.2;have lz:nm.length<=sizeLine:=b_1 (by omega)
 have tl:fs.length<1000000:=by omega
 refine⟨_,[.ow true o1,.im (.lst (nm.map .str)),.im many,.ow false (.lst (fs.map .str++[.str a])),.im (.int v),.im (.lst (left.map .str))],rfl,?_,o1,fs++[a],.im (.int v),.im (.lst (left.map .str)),ho1,by rw[List.length_append,hf];rfl,?_,?_⟩
 ·simp[n_4,lg,lz,e1,lpz,lpz',ea,tl]
 ·rw[List.nodup_append]
  refine⟨fd,by simp,λ x hx y hy e=>?_⟩
  have hy:y=a:=by simpa using hy
  subst e;subst hy;exact mem x ha hx
 ·rw[List.map_append];rfl
theorem P_5 {ns:List Int} (hn:ns.length<=63) {o:MO} (ho:r_0 ns o) {nm:List Str} (nd:nm.Nodup) (hl:nm.length=9) {m:Int} (m0:0<=m) (m1:m<=8):∃ (l:List Str) (o':MO),i_8 o [.lst (nm.map .str),.int m]=some (.lst (l.map .str),o')/\l.length=m.toNat/\l.Nodup/\r_0 ns o':=by
 obtain⟨ρ',el,o2,fs,x4,x5,ho2,hf,fd,rfl⟩:=N_5 (g:=gN 4) (B:=n_4) (λ i ρ=>∃ (o:MO) (fs:List Str) (x4 x5:Sl),r_0 ns o/\fs.length=i/\fs.Nodup/\ρ=[.ow true o,.im (.lst (nm.map .str)),.im (.int m),.ow false (.lst (fs.map .str)),x4,x5]) m.toNat 0 0
  [.ow true o,.im (.lst (nm.map .str)),.im (.int m),.ow false (.lst []),.no,.no] (λ i v ρ hi p=>ax7 hn nd hl _ i v ρ (by omega) p) ⟨o,[],.no,.no,ho,rfl,List.nodup_nil,rfl⟩
 have q1:-4611686018427387904<=m:=by omega
 have q2:m<4611686018427387904:=by omega
 refine⟨fs,o2,?_,by omega,fd,ho2⟩
 simp[i_8,B_7,List.replicate,q1,q2,el]
theorem P_6:(10:Int) ^ 10=10000000000:=by decide
theorem av5 {ns:List Int} (hn:ns.length<=63) {o:MO} (ho:r_0 ns o):∃ (lo hi:Option Int) (o':MO),c_8 o []=some (.tup [dO lo,dO hi],o')/\St.OB lo (2 ^ 99)/\St.OB hi (2 ^ 99)/\(∀ a b,lo=some a->hi=some b->a<=b)/\r_0 ns o':=by
 obtain⟨r1,o1,e1,_,_,h1⟩:=i_3 hn ho;obtain⟨r2,o2,e2,_,_,h2⟩:=i_3 hn h1;obtain⟨r3,o3,e3,_,_,h3⟩:=i_3 hn h2;obtain⟨r4,o4,e4,_,_,h4⟩:=i_3 hn h3;obtain⟨r5,o5,e5,_,_,h5⟩:=i_3 hn h4;have f41:=g_7 r1 (m:=41) (by decide)
 have f40:=g_7 r3 (m:=40) (by decide)
 have p10:(10:Int).natAbs<2 ^ 64:=by decide
 have km:l_6 (r1.fmod 41-20) 10000000000=true:=X_9 (by decide)
 have bS:∀ x:Int,-200000000000<=x->x<=200000000040->St.OB (some x) (2 ^ 99):=λ x a b=>w_4 (by omega) (by omega)
 by_cases c2:r2.fmod 5=1
 ·skip
  by_cases c4:r4.fmod 4=1
  ·by_cases c5:r5.fmod 4=1
   ·exact⟨none,none,o5,by simp[c_8,f_9,List.replicate,e1,e2,e3,e4,e5,c2,c4,c5,p10,P_6,km],q_4,q_4,(λ a b h=>by cases h),h5⟩
   ·exact⟨some ((r1.fmod 41-20)*10000000000),none,o5,by simp[c_8,f_9,List.replicate,e1,e2,e3,e4,e5,c2,c4,c5,p10,P_6,km],bS _ (by omega) (by omega),q_4,(λ a b _ h=>by cases h),h5⟩
  ·by_cases c5:r5.fmod 4=1
   ·exact⟨none,some (((r1.fmod 41-20)*10000000000)+r3.fmod 40),o5,by simp[c_8,f_9,List.replicate,e1,e2,e3,e4,e5,c2,c4,c5,p10,P_6,km],q_4,bS _ (by omega) (by omega),(λ a b h=>by cases h),h5⟩
   ·exact⟨some ((r1.fmod 41-20)*10000000000),some (((r1.fmod 41-20)*10000000000)+r3.fmod 40),o5,by simp[c_8,f_9,List.replicate,e1,e2,e3,e4,e5,c2,c4,c5,p10,P_6,km],bS _ (by omega) (by omega),bS _ (by omega) (by omega),(λ a b h g=>by cases h;cases g;omega),h5⟩
 ·skip
  by_cases c4:r4.fmod 4=1
  ·by_cases c5:r5.fmod 4=1
   ·exact⟨none,none,o5,by simp[c_8,f_9,List.replicate,e1,e2,e3,e4,e5,c2,c4,c5,p10,P_6,km],q_4,q_4,(λ a b h=>by cases h),h5⟩
   ·exact⟨some (r1.fmod 41-20),none,o5,by simp[c_8,f_9,List.replicate,e1,e2,e3,e4,e5,c2,c4,c5,p10,P_6,km],bS _ (by omega) (by omega),q_4,(λ a b _ h=>by cases h),h5⟩
  ·by_cases c5:r5.fmod 4=1
   ·exact⟨none,some ((r1.fmod 41-20)+r3.fmod 40),o5,by simp[c_8,f_9,List.replicate,e1,e2,e3,e4,e5,c2,c4,c5,p10,P_6,km],q_4,bS _ (by omega) (by omega),(λ a b h=>by cases h),h5⟩
   ·exact⟨some (r1.fmod 41-20),some ((r1.fmod 41-20)+r3.fmod 40),o5,by simp[c_8,f_9,List.replicate,e1,e2,e3,e4,e5,c2,c4,c5,p10,P_6,km],bS _ (by omega) (by omega),bS _ (by omega) (by omega),(λ a b h g=>by cases h;cases g;omega),h5⟩
theorem L_0 (a b c:Int) {i:Int} (h0:0<=i) (h1:i<3):∃ x,atD [.int a,.int b,.int c] i=some (.int x)/\(x=a\/x=b\/x=c):=by
 have:i=0\/i=1\/i=2:=by omega
 rcases this with rfl | rfl | rfl
 ·exact⟨a,rfl,.inl rfl⟩
 ·exact⟨b,rfl,.inr (.inl rfl)⟩
 ·exact⟨c,rfl,.inr (.inr rfl)⟩
theorem aZ9 {b:Int}{e:Option Int} (h:0<=b/\∀ x,e=some x->b<x):ROk (.time b e):=⟨λ _ _ z=>by cases z;exact h,λ _ _ z=>(by cases z),λ _ _ z=>(by cases z),λ _ _ z=>(by cases z),λ _ _ z=>(by cases z),λ _ z=>(by cases z),λ _ z=>(by cases z)⟩
theorem br2 {o:Bool}{l:List Str} (h:1<=l.length/\l.length<=8):ROk (.keys o l):=⟨λ _ _ z=>(by cases z),λ _ _ z=>by cases z;exact h,λ _ _ z=>(by cases z),λ _ _ z=>(by cases z),λ _ _ z=>(by cases z),λ _ z=>(by cases z),λ _ z=>(by cases z)⟩
theorem br0 {lo hi:Option Int} (h:St.OB lo (2 ^ 99)/\St.OB hi (2 ^ 99)/\∀ a b,lo=some a->hi=some b->a<=b):ROk (.span lo hi):=⟨λ _ _ z=>(by cases z),λ _ _ z=>(by cases z),λ _ _ z=>by cases z;exact h,λ _ _ z=>(by cases z),λ _ _ z=>(by cases z),λ _ z=>(by cases z),λ _ z=>(by cases z)⟩
theorem br1 {m x:Int} (h:2<=m/\m<=2000/\0<=x/\x<m):ROk (.rest m x):=⟨λ _ _ z=>(by cases z),λ _ _ z=>(by cases z),λ _ _ z=>(by cases z),λ _ _ z=>by cases z;exact h,λ _ _ z=>(by cases z),λ _ z=>(by cases z),λ _ z=>(by cases z)⟩
theorem aZ8 {a b:Int} (h:a≠0/\a.natAbs<=1000/\b.natAbs<=1000):ROk (.turn a b):=⟨λ _ _ z=>(by cases z),λ _ _ z=>(by cases z),λ _ _ z=>(by cases z),λ _ _ z=>(by cases z),λ _ _ z=>by cases z;exact h,λ _ z=>(by cases z),λ _ z=>(by cases z)⟩
theorem ba0 {c:Int} (h:0<=c):ROk (.later c):=⟨λ _ _ z=>(by cases z),λ _ _ z=>(by cases z),λ _ _ z=>(by cases z),λ _ _ z=>(by cases z),λ _ _ z=>(by cases z),λ _ z=>by cases z;exact h,λ _ z=>(by cases z)⟩
theorem bK3 {tb:Tb} (h:(fst tb).Nodup/\tb.length<=4):ROk (.put tb):=⟨λ _ _ z=>(by cases z),λ _ _ z=>(by cases z),λ _ _ z=>(by cases z),λ _ _ z=>(by cases z),λ _ _ z=>(by cases z),λ _ z=>(by cases z),λ _ z=>by cases z;exact h⟩
theorem aF4 {ns:List Int} (hn:ns.length<=63) {pool:List Str} (hp:pool.length=9) {ρ:En} (h4:ρ[4]?=some (.im (.lst (pool.map .str)))):∀ (ks:List Str) (o:MO),r_0 ns o ->
  ∃ (tb:Tb) (o':MO),aa5 tYes (q_7 (aC (eV 0) (aC (e2 b_2 (eV 1) (e2 k_0 (eFb 2 a_1 aN) (eC (.int 9)))) aN))) ρ 0 [4,0] 1 o (ks.map .str)=some (tb.map (λ p=>.tup [.str p.1,.str p.2]),o')/\fst tb=ks/\r_0 ns o'
 |[],o,ho=>⟨[],o,rfl,rfl,ho⟩
 |k::r,o,ho=>by
  obtain⟨x,o1,e1,_,_,ho1⟩:=i_3 hn ho;obtain⟨tb,o2,e2',f2,ho2⟩:=aF4 hn hp h4 r o1 ho1;have f9:=g_7 x (m:=9) (by decide)
  obtain⟨y,_,ey⟩:=af4 D.str pool f9.1 (by rw[hp];exact f9.2)
  refine⟨(k,y)::tb,o2,?_,by unfold fst at f2 ⊢;rw[List.map_cons,f2],ho2⟩
  have fr:aj7 ρ 0 o [4,0]=some [.im (.lst (pool.map .str)),.ow true o]:=by
   show bnd (slI ρ[4]?) (λ s=>bnd (bnd (some (Sl.ow true o)) λ s=>bnd (some []) λ r=>some (s::r)) λ r=>some (s::r))=_
   rw[h4];rfl
  have ev:q_7 (aC (eV 0) (aC (e2 b_2 (eV 1) (e2 k_0 (eFb 2 a_1 aN) (eC (.int 9)))) aN)) [.im (.str k),.im (.lst (pool.map .str)),.ow true o]=some (.tup [.str k,.str y],[.im (.str k),.im (.lst (pool.map .str)),.ow true o1]):=by
   simp[e1,ey]
  rw[List.map_cons,y_7,fr,b_8];show bnd (some (true,_)) _=_;rw[b_8];show (if true=true then bnd (q_7 (aC (eV 0) (aC (e2 b_2 (eV 1) (e2 k_0 (eFb 2 a_1 aN) (eC (.int 9)))) aN)) [.im (.str k),.im (.lst (pool.map .str)),.ow true o]) _ else _)=_;rw[if_pos rfl,ev,b_8];show bnd (some o1) _=_;rw[b_8,e2',b_8];rfl
abbrev nmR:D:=.str "r"
abbrev frR:D:=.tup [.str "f"]
abbrev wds:List Str:=[Str.ofString "time",Str.ofString "only",Str.ofString "but",Str.ofString "span",Str.ofString "rest",Str.ofString "turn",Str.ofString "later",Str.ofString "put"]
theorem ay3 {ns:List Int} (hn:ns.length<=63) {o:MO} (ho:r_0 ns o) {pool:List Str} (hp:pool.length=9) (nd:pool.Nodup) (wd:Str) (hw:wd∈wds) :
  ∃ (r:Rw) (o':MO),c_3 o [.str wd,nmR,frR,.lst (pool.map .str)]=some (dRw r,o')/\ROk r/\r_0 ns o':=by
 have W:=ak6;obtain⟨r1,o1,e1,_,_,h1⟩:=i_3 hn ho
 have keysC:∀ b:Bool,∃ (r:Rw) (o':MO),c_3 o [.str (wO b),nmR,frR,.lst (pool.map .str)]=some (dRw r,o')/\ROk r/\r_0 ns o':=λ b=>by
  have f8:=g_7 r1 (m:=8) (by decide)
  obtain⟨l,o2,e2,hl,_,h2⟩:=P_5 hn h1 nd hp (m:=1+r1.fmod 8) (by omega) (by omega)
  have lz:l.length<=sizeLine:=b_1 (by omega)
  refine⟨.keys b l,o2,?_,br2 ⟨by omega,by omega⟩,h2⟩
  cases b with
  |true=>simp[c_3,f_5,List.replicate,W,aE4,e1,e2,lz,dRw,rwW,rwR]
  |false=>simp[c_3,f_5,List.replicate,W,aj6,e1,e2,lz,dRw,rwW,rwR]
 simp only[List.mem_cons,List.not_mem_nil,or_false] at hw
 rcases hw with rfl | rfl | rfl | rfl | rfl | rfl | rfl | rfl
 ·obtain⟨r2,o2,e2,_,_,h2⟩:=i_3 hn h1
  obtain⟨r3,o3,e3,_,_,h3⟩:=i_3 hn h2;have f1:=g_7 r1 (m:=40) (by decide)
  have f2:=g_7 r2 (m:=40) (by decide)
  by_cases c:r3.fmod 3=1
  ·exact⟨.time (r1.fmod 40) none,o3,by simp[c_3,f_5,List.replicate,e1,e2,e3,c,dRw,rwW,rwR],aZ9 ⟨f1.1,λ x z=>by cases z⟩,h3⟩
  ·exact⟨.time (r1.fmod 40) (some (r1.fmod 40+1+r2.fmod 40)),o3,by simp[c_3,f_5,List.replicate,e1,e2,e3,c,dRw,rwW,rwR],aZ9 ⟨f1.1,λ x z=>by cases z;omega⟩,h3⟩
 ·exact keysC true
 ·exact keysC false
 ·obtain⟨lo,hi,o2,e2,b1,b2,b3,h2⟩:=av5 hn ho
  exact⟨.span lo hi,o2,by simp[c_3,f_5,List.replicate,W,e2,dRw,rwW,rwR],br0 ⟨b1,b2,b3⟩,h2⟩
 ·obtain⟨r2,o2,e2,_,_,h2⟩:=i_3 hn h1
  obtain⟨r3,o3,e3,_,_,h3⟩:=i_3 hn h2;have f3:=g_7 r2 (m:=3) (by decide)
  obtain⟨x,ex,hx⟩:=L_0 4 4 999 f3.1 f3.2;have x0:0<x:=by omega
  have xz:¬ x=0:=by omega
  have fx:=g_7 r1 x0;have sz:¬ (2+r1.fmod x=0):=by omega
  have f4:=g_7 r3 (m:=2+r1.fmod x) (by omega)
  exact⟨.rest (2+r1.fmod x) (r3.fmod (2+r1.fmod x)),o3,by simp[c_3,f_5,List.replicate,W,e1,e2,e3,ex,xz,sz,dRw,rwW,rwR],br1 ⟨by omega,by omega,f4.1,f4.2⟩,h3⟩
 ·obtain⟨r2,o2,e2,_,_,h2⟩:=i_3 hn h1
  obtain⟨r3,o3,e3,_,_,h3⟩:=i_3 hn h2;obtain⟨r4,o4,e4,_,_,h4⟩:=i_3 hn h3;have f3:=g_7 r2 (m:=3) (by decide)
  obtain⟨x,ex,hx⟩:=L_0 3 3 1000 f3.1 f3.2;have x0:0<x:=by omega
  have xz:¬ x=0:=by omega
  have fx:=g_7 r1 x0;have f31:=g_7 r4 (m:=31) (by decide)
  by_cases c:r3.fmod 2=1
  ·exact⟨.turn (0-(1+r1.fmod x)) (r4.fmod 31-15),o4,by simp[c_3,f_5,List.replicate,W,e1,e2,e3,e4,ex,xz,c,dRw,rwW,rwR],aZ8 ⟨by omega,by omega,by omega⟩,h4⟩
  ·exact⟨.turn (1+r1.fmod x) (r4.fmod 31-15),o4,by simp[c_3,f_5,List.replicate,W,e1,e2,e3,e4,ex,xz,c,dRw,rwW,rwR],aZ8 ⟨by omega,by omega,by omega⟩,h4⟩
 ·obtain⟨r2,o2,e2,_,_,h2⟩:=i_3 hn h1
  have f3:=g_7 r2 (m:=3) (by decide)
  obtain⟨x,ex,hx⟩:=L_0 20 20 1000000 f3.1 f3.2;have x0:0<x:=by omega
  have xz:¬ x=0:=by omega
  have fx:=g_7 r1 x0;exact⟨.later (r1.fmod x),o2,by simp[c_3,f_5,List.replicate,W,e1,e2,ex,xz,dRw,rwW,rwR],ba0 fx.1,h2⟩
 ·have f4:=g_7 r1 (m:=4) (by decide)
  obtain⟨l,o2,e2,hl,ld,h2⟩:=P_5 hn h1 nd hp (m:=1+r1.fmod 4) (by omega) (by omega)
  obtain⟨tb,o3,e3,hf,h3⟩:=aF4 hn hp (ρ:=[.ow true o2,.im (.str "put"),.im nmR,.im frR,.im (.lst (pool.map .str)),.im (.lst (l.map .str)),.no,.no,.no,.no]) rfl l o2 h2;have lt:tb.length=l.length:=by rw[<- hf];unfold fst;rw[List.length_map]
  have lz:l.length<=sizeLine:=b_1 (by omega)
  have tz:tb.length<=sizeLine:=b_1 (by omega)
  refine⟨.put tb,o3,?_,bK3 ⟨by rw[hf];exact ld,by omega⟩,h3⟩
  simp[c_3,f_5,List.replicate,W,e1,e2,e3,lz,tz,dRw,rwW,rwR,dT]
theorem aD9 (t:Int) (t0:0<=t) (k:Str) (v:Int) {n:Nat} (hv:v.natAbs<=2 ^ n+6) (n3:3<=n):∃ b,m_9 [dTh t k v]=some (dB b)/\WB (n+2) b/\b.ts.length=1/\∀ t' k' v',hasX b t' k' v'=true↔t'=t/\k'=k/\v'=v:=by
 have md:=q_5 (some v) (some v) 1 0;have T:=St.made_ok (lo:=some v) (hi:=some v) (st:=1) (re:=0) (by decide) (by decide) (by decide)
 have hb:St.Between (some v) (some v) 1 0 v:=⟨λ l e=>by cases e;exact Int.le_refl _,λ l e=>by cases e;exact Int.le_refl _,by omega⟩
 obtain⟨s,es,cs,hs⟩:=T.some hb;have p8:8<=2 ^ n:=Nat.pow_le_pow_right (by decide) n3 |> Nat.le_trans (by decide:8<=2 ^ 3)
 have p4:2 ^ (n+2)=2 ^ n*4:=Nat.pow_add 2 n 2;have ob:St.OB (some v) (2 ^ n+6):=λ l e=>by cases e;exact hv
 have bs:=St.made_bd (re:=0) ob ob (m:=1) (by decide) (by decide) s es
 rw[es] at md;simp only[k_4,dOS] at md;refine⟨⟨true,[k],t,some (t+1),s⟩,?_,⟨by show 1<=20;decide,t0,(λ e z=>by cases z;show t<t+1;omega),cs,bs.mono (by rw[p4];omega),k,by rw[A_0];simp⟩,rfl,λ t' k' v'=>?_⟩
 ·simp[m_9,F_9,dTh,ar2,ar1,ar0,md,dB,KK,aE4]
 ·rw[hx,Bool.and_eq_true,Bool.and_eq_true,Bool.and_eq_true,hasB_iff,hs,A_0]
  show ((decide (t<=t')=true/\decide (t'<t+1)=true)/\decide (k'∈[k])=true)/\_↔_;rw[decide_eq_true_iff,decide_eq_true_iff,decide_eq_true_iff,List.mem_singleton];constructor
  ·rintro ⟨⟨⟨a1,a2⟩,a3⟩,a4⟩
   have b1:=a4.1 v rfl;have b2:=a4.2 v rfl;exact⟨by omega,a3,by omega⟩
  ·rintro ⟨rfl,rfl,rfl⟩
   exact⟨⟨⟨Int.le_refl _,by omega⟩,rfl⟩,hb⟩
theorem aC6:dBO none=.non:=rfl
theorem aW2 (b:Bx):dBO (some b)=dB b:=rfl
theorem ar4 (r:Option Bx):isN (dBO r)=r.isNone:=by cases r <;> rfl
abbrev E15 (o:MO) (r:Rw) (b:Bx) (pl:D) (bk fw:Option Bx) (x6 x7 x8 x9 x10:Sl):En:=[.ow true o,.im (dRw r),.im (dB b),.im pl,.im (dBO bk),.im (dBO fw),x6,x7,x8,x9,x10]
theorem aF8 (q:Option Bx) (b:Bx) (i:Nat) {o:MO}{r:Rw}{pl:D}{bk fw:Option Bx}{x6 x7 x8 x9 x10:Sl} (hi:(E15 o r b pl bk fw x6 x7 x8 x9 x10)[i]?=some (.im (dBO q))) :
  aw8 (eV i) (eV 2) (E15 o r b pl bk fw x6 x7 x8 x9 x10)=some (dB (q.getD b),E15 o r b pl bk fw x6 x7 x8 x9 x10):=by
 have e:eV i (E15 o r b pl bk fw x6 x7 x8 x9 x10)=some (dBO q,E15 o r b pl bk fw x6 x7 x8 x9 x10):=by
  show slV _ (E15 o r b pl bk fw x6 x7 x8 x9 x10)[i]?=_;rw[hi];rfl
 rw[bh6,e,aR7];cases q with
 |none=>rfl
 |some m=>rfl
theorem bL7 (a b c:D) {i:Int} (h0:0<=i) (h1:i<3):atD [a,b,c] i=some a\/atD [a,b,c] i=some b\/atD [a,b,c] i=some c:=by
 have:i=0\/i=1\/i=2:=by omega
 rcases this with rfl | rfl | rfl
 ·exact .inl rfl
 ·exact .inr (.inl rfl)
 ·exact .inr (.inr rfl)
def P15 (ns:List Int) (r:Rw) (b:Bx) (pl:D) (bk fw:Option Bx) (ρ:En):Prop:=∃ o x6 x7 x8 x9 x10,r_0 ns o/\ρ=E15 o r b pl bk fw x6 x7 x8 x9 x10
theorem aX6 {ns:List Int} (hn:ns.length<=63) {r:Rw} (ok:ROk r) {b:Bx} (w:WB 100 b) (hl:b.ts.length<=9) {pool:List Str} (hp:pool.length=9) {bk fw:Option Bx}
  (hb:∀ t k v,0<=t->hasXO bk t k v=match thr r (t,k,v) with | none=>false | some y=>bf2 b y) (wb:∀ m,bk=some m->WB 204 m)
  (hf:∀ t k v,0<=t->(hasXO fw t k v=true↔∃ y:Th,0<=y.1/\bf2 b y=true/\thr r y=some (t,k,v))) (wf:∀ m,fw=some m->WB 204 m)
  (i:Nat) (ρ:En) (p:P15 ns r b (.lst (pool.map .str)) bk fw ρ) :
  ∃ ρ1 ρ2,gN 6 (.int (0+i)) ρ=some ρ1/\r_5 ρ1=some (.nx ρ2)/\P15 ns r b (.lst (pool.map .str)) bk fw ρ2:=by
 obtain⟨o,x6,x7,x8,x9,x10,ho,rfl⟩:=p;have f3:=g_7 (0+(i:Int)) (m:=3) (by decide)
 have gd:∀ q:Option Bx,(∀ m,q=some m->WB 204 m)->WB 204 (q.getD b):=λ q h=>by
  cases q with
  |none=>exact w.mono (by decide)
  |some m=>exact h m rfl
 obtain⟨c,hc,wc⟩:∃ c:Bx,atD [dB b,dB (bk.getD b),dB (fw.getD b)] ((0+(i:Int)).fmod 3)=some (dB c)/\WB 204 c:=by
  rcases bL7 (dB b) (dB (bk.getD b)) (dB (fw.getD b)) f3.1 f3.2 with z | z | z
  ·exact⟨b,z,w.mono (by decide)⟩
  ·exact⟨_,z,gd bk wb⟩
  ·exact⟨_,z,gd fw wf⟩
 obtain⟨t,k,v,o',e1,t0,hv,ho'⟩:=bs8 hn ho hp c wc.bd;have te:=ag2 ok t k v;obtain⟨al,ea,wa,la,ha⟩:=aD9 t t0 k v hv (by decide)
 obtain⟨q2,e2',h2,w2⟩:=af1 ok (n:=206) (by decide) (by decide) wa (by omega)
 have hbk:=hb t k v t0;have pb:∀ m,bk=some m->0<m.s.st:=λ m e=>(wb m e).c.pos
 have pf:∀ m,fw=some m->0<m.s.st:=λ m e=>(wf m e).c.pos
 have l1:=F_0 pb t k v;have l2:=F_0 pf t k v;have l3:=z_9 w.c.pos t k v
 have third:∃ z:Bool,hasXO fw t k v=z/\((q2=none/\z=false)\/∃ m r3,q2=some m/\g_6 [dB m,dB b]=some (dBO r3)/\z=!r3.isNone):=by
  have key:(∃ y:Th,0<=y.1/\bf2 b y=true/\thr r y=some (t,k,v))↔∃ t' k' v',0<=t'/\hasXO q2 t' k' v'=true/\hasX b t' k' v'=true:=by
   constructor
   ·rintro ⟨⟨t',k',v'⟩,y0,a1,a2⟩
    refine⟨t',k',v',y0,?_,a1⟩;rw[h2 t' k' v' y0,a2];exact (ha t k v).mpr ⟨rfl,rfl,rfl⟩
   ·rintro ⟨t',k',v',y0,a1,a2⟩
    rw[h2 t' k' v' y0] at a1;cases z:thr r (t',k',v') with
    |none=>rw[z] at a1;cases a1
    |some y =>
     rw[z] at a1;obtain⟨t2,k2,v2⟩:=y;obtain⟨rfl,rfl,rfl⟩:=(ha t2 k2 v2).mp a1;exact⟨(t',k',v'),y0,a2,z⟩
  cases q2 with
  |none =>
   refine⟨false,?_,.inl ⟨rfl,rfl⟩⟩;rw[<- Bool.not_eq_true,hf t k v t0,key];rintro ⟨_,_,_,_,z,_⟩;cases z
  |some m =>
   obtain⟨wm,lm⟩:=w2 m rfl;obtain⟨r3,e3,h3,w3⟩:=aN8 (n:=416) (by decide) wm (w.mono (by decide)) (by omega)
   refine⟨!r3.isNone,?_,.inr ⟨m,r3,rfl,e3,rfl⟩⟩;rw[Bool.eq_iff_iff,hf t k v t0,key];have mn:=M_9 h3 λ x e=>(w3 x e).1
   have:(!r3.isNone)=true↔r3≠none:=by cases r3 <;> simp
   rw[this,mn];rfl
 obtain⟨z,hz,third⟩:=third;rw[hz] at l2
 have second:∀ y,thr r (t,k,v)=some y->hasX b t k v=true->∃ y0:0<=y.1,hasXO fw y.1 y.2.1 y.2.2=true:=λ y ey hb'=>by
  have y0:0<=y.1:=by
   cases r with
   |later c =>
    have:=ok.later c rfl;cases ey;show 0<=t+c;omega
   |turn a c=>cases ey;exact t0
   |put tb=>cases ey;exact t0
   |time a c =>
    simp only[thr] at ey
    split at ey
    ·cases ey;exact t0
    ·cases ey
   |keys a c =>
    simp only[thr] at ey
    split at ey
    ·cases ey;exact t0
    ·cases ey
   |span a c =>
    simp only[thr] at ey
    split at ey
    ·cases ey;exact t0
    ·cases ey
   |rest a c =>
    simp only[thr] at ey
    split at ey
    ·cases ey;exact t0
    ·cases ey
  exact⟨y0,(hf _ _ _ y0).mpr ⟨(t,k,v),t0,hb',ey⟩⟩
 have ab:Fx.e2 b_2 (P_2 (aC (eV 2) (aC (aw8 (eV 4) (eV 2)) (aC (aw8 (eV 5) (eV 2)) aN)))) (Fx.e2 k_0 (eV 6) (eC (.int 3))) (E15 o r b (.lst (pool.map .str)) bk fw (.im (.int (0+i))) x7 x8 x9 x10)=some (dB c,E15 o r b (.lst (pool.map .str)) bk fw (.im (.int (0+i))) x7 x8 x9 x10):=by
  have q4:=aF8 bk b 4 (o:=o) (r:=r) (pl:=.lst (pool.map .str)) (bk:=bk) (fw:=fw) (x6:=.im (.int (0+i))) (x7:=x7) (x8:=x8) (x9:=x9) (x10:=x10) rfl;have q5:=aF8 fw b 5 (o:=o) (r:=r) (pl:=.lst (pool.map .str)) (bk:=bk) (fw:=fw) (x6:=.im (.int (0+i))) (x7:=x7) (x8:=x8) (x9:=x9) (x10:=x10) rfl
  generalize (0+(i:Int))=ii at hc q4 q5 ⊢
  simp only[E15] at q4 q5 ⊢;simp[q4,q5,hc,-bh6]
 refine⟨_,E15 o' r b (.lst (pool.map .str)) bk fw (.im (.int (0+i))) (.im (dB c)) (.im (dTh t k v)) (.im (y_5 (thr r (t,k,v)))) (.im (dBO q2)),rfl,?_,o',_,_,_,_,_,ho',rfl⟩;show b_7 (d_7 7 (Fx.e2 b_2 (P_2 (aC (eV 2) (aC (aw8 (eV 4) (eV 2)) (aC (aw8 (eV 5) (eV 2)) aN)))) (Fx.e2 k_0 (eV 6) (eC (.int 3))))) _ (E15 o r b (.lst (pool.map .str)) bk fw (.im (.int (0+i))) x7 x8 x9 x10)=_;rw[bp4,bp2,ab,aK1,aK2]
 generalize Sl.im (.int (0+(i:Int)))=x6
 have nT:∀ t k v,isN (dTh t k v)=false:=λ _ _ _=>rfl
 cases hy:thr r (t,k,v) with
 |none =>
  rw[hy] at te hbk;have hbk:hasXO bk t k v=false:=hbk;rw[hbk] at l1;simp only[y_5] at te
  generalize hasX b t k v=zb at l3
  rcases third with ⟨rfl,rfl⟩ | ⟨m,r3,rfl,e3,rfl⟩
  ·simp only[aC6] at e2'
   cases zb <;> simp[e1,te,l1,l2,l3,ea,e2',y_5,aC6,aW2]
  ·have e2':e_0 [dRw r,dB al]=some (dB m):=e2'
   generalize hr3:r3.isNone=zn at l2
   have en:isN (dBO r3)=zn:=by rw[ar4,hr3]
   cases zb <;> simp[e1,te,l1,l2,l3,ea,e2',e3,en,J_4,y_5,aC6,aW2]
 |some y =>
  rw[hy] at te hbk;have hbk:hasXO bk t k v=hasX b y.1 y.2.1 y.2.2:=hbk;have l4:=z_9 w.c.pos y.1 y.2.1 y.2.2;have l5:=F_0 pf y.1 y.2.1 y.2.2;have sec:=second y hy;rw[hbk] at l1;have te:a_5 [dRw r,dTh t k v]=some (dTh y.1 y.2.1 y.2.2):=te
  generalize hasX b y.1 y.2.1 y.2.2=zy at l1 l4
  generalize hasXO fw y.1 y.2.1 y.2.2=zf at l5 sec
  generalize hzb:hasX b t k v=zb at l3 sec
  have sf:zb=true->zf=true:=λ z=>(sec z).2
  rcases third with ⟨rfl,rfl⟩ | ⟨m,r3,rfl,e3,rfl⟩
  ·simp only[aC6] at e2'
   cases zb with
   |false=>simp[e1,te,l1,l2,l3,l4,ea,e2',nT,y_5,aC6,aW2]
   |true =>
    have:=sf rfl;subst this;simp[e1,te,l1,l2,l3,l4,l5,ea,e2',nT,y_5,aC6,aW2]
  ·have e2':e_0 [dRw r,dB al]=some (dB m):=e2'
   generalize hr3:r3.isNone=zn at l2
   have en:isN (dBO r3)=zn:=by rw[ar4,hr3]
   cases zb with
   |false=>simp[e1,te,l1,l2,l3,l4,ea,e2',e3,en,J_4,nT,y_5,aC6,aW2]
   |true =>
    have:=sf rfl;subst this;simp[e1,te,l1,l2,l3,l4,l5,ea,e2',e3,en,J_4,nT,y_5,aC6,aW2]
theorem al5 {ns:List Int} (hn:ns.length<=63) {o:MO} (ho:r_0 ns o) {r:Rw} (ok:ROk r) {b:Bx} (w:WB 100 b) (hl:b.ts.length<=9) {pool:List Str} (hp:pool.length=9) :
  ∃ o',g_4 o [dRw r,dB b,.lst (pool.map .str)]=some (.bl true,o'):=by
 obtain⟨bk,e1,hb,wb⟩:=af1 ok (n:=100) (by decide) (by decide) w (by omega)
 obtain⟨fw,e2,hf,wf⟩:=as3 ok w hl;obtain⟨ρ',el,o',x6,x7,x8,x9,x10,ho',rfl⟩:=as7 (P15 ns r b (.lst (pool.map .str)) bk fw) 60 0 (E15 o r b (.lst (pool.map .str)) bk fw .no .no .no .no .no)
  (λ i ρ _ p=>aX6 hn ok w hl hp hb (λ m e=>(wb m e).1) hf wf i ρ p) ⟨o,.no,.no,.no,.no,.no,ho,rfl⟩
 simp only[E15] at el;exact⟨o',by simp[g_4,u_5,List.replicate,e1,e2,el]⟩
theorem bm9 {i:Int} (h0:0<=i) (h1:i<8):∃ wd∈wds,atD (wds.map D.str) i=some (.str wd):=by
 obtain⟨x,hx,e⟩:=af4 D.str wds h0 (by exact h1)
 exact⟨x,hx,e⟩
theorem law_true (ns:List Int) (hl:ns.length<=63):Y_4 [.lst (ns.map .int)]=some (.bl true):=by
 obtain⟨x,ex⟩:=aa2 ns (k:=0) (by decide)
 have ed:m_8 [.lst (ns.map .int)]=some (.dic (drD ns (x.fmod 2) 0 1 x 0)):=by
  simp[m_8,F_7,List.replicate,ex,drD]
  decide +kernel
 obtain⟨pool,o1,e1,hp,hlen,hnd,hq,ho1⟩:=az6 hl (o:=.dic (drD ns (x.fmod 2) 0 1 x 0)) ⟨x.fmod 2,0,1,x,0,rfl,by decide,by decide,by decide⟩
 obtain⟨r2,o2,e2,_,_,ho2⟩:=i_3 hl ho1;have f8:=g_7 r2 (m:=8) (by decide)
 obtain⟨wd,hw,ew⟩:=bm9 f8.1 f8.2;obtain⟨r,o3,e3,ok,ho3⟩:=ay3 hl ho2 hp hnd wd hw;obtain⟨b,o4,e4,hb,ho4⟩:=bO8 hl ho3 hp;simp only[wds,List.map_cons,List.map_nil] at ew;cases b with
 |none =>
  simp only[aC6] at e4;simp[Y_4,aT9,List.replicate,ed,e1,e2,ew,e3,e4]
 |some b =>
  obtain⟨w,l9⟩:=hb b rfl;obtain⟨o5,e5⟩:=al5 hl ho4 ok w l9 hp;have e4:n_6 o3 [.lst (pool.map .str)]=some (dB b,o4):=e4;simp[Y_4,aT9,List.replicate,ed,e1,e2,ew,e3,e4,J_4,e5]
end Fx
namespace Fx
open PySem PySem.Spec PyProof.Rows L2
theorem Q_7 {K:Frag}{H:Hp}:∀ ns:List Int,Reps K H (ns.map D.int) (ns.map V.int)
 |[]=>Reps.nil_
 |n::r=>Reps.cons (i_6 H n) (Q_7 r)
theorem us1 {P:List Value->Prop} (h:∀ a0,P [a0]):∀ us:List Value,us.length=1->P us:=λ us hl=>by
 cases us with
 |nil=>exact absurd hl (by simp)
 |cons a0 us =>
 cases us with
 |nil=>exact h _
 |cons b us=>exact absurd hl (by simp)
theorem us2 {P:List Value->Prop} (h:∀ a0 a1,P [a0,a1]):∀ us:List Value,us.length=2->P us:=λ us hl=>by
 cases us with
 |nil=>exact absurd hl (by simp)
 |cons a0 us =>
 cases us with
 |nil=>exact absurd hl (by simp)
 |cons a1 us =>
 cases us with
 |nil=>exact h _ _
 |cons b us=>exact absurd hl (by simp)
theorem us3 {P:List Value->Prop} (h:∀ a0 a1 a2,P [a0,a1,a2]):∀ us:List Value,us.length=3->P us:=λ us hl=>by
 cases us with
 |nil=>exact absurd hl (by simp)
 |cons a0 us =>
 cases us with
 |nil=>exact absurd hl (by simp)
 |cons a1 us =>
 cases us with
 |nil=>exact absurd hl (by simp)
 |cons a2 us =>
 cases us with
 |nil=>exact h _ _ _
 |cons b us=>exact absurd hl (by simp)
theorem us4 {P:List Value->Prop} (h:∀ a0 a1 a2 a3,P [a0,a1,a2,a3]):∀ us:List Value,us.length=4->P us:=λ us hl=>by
 cases us with
 |nil=>exact absurd hl (by simp)
 |cons a0 us =>
 cases us with
 |nil=>exact absurd hl (by simp)
 |cons a1 us =>
 cases us with
 |nil=>exact absurd hl (by simp)
 |cons a2 us =>
 cases us with
 |nil=>exact absurd hl (by simp)
 |cons a3 us =>
 cases us with
 |nil=>exact h _ _ _ _
 |cons b us=>exact absurd hl (by simp)
theorem us5 {P:List Value->Prop} (h:∀ a0 a1 a2 a3 a4,P [a0,a1,a2,a3,a4]):∀ us:List Value,us.length=5->P us:=λ us hl=>by
 cases us with
 |nil=>exact absurd hl (by simp)
 |cons a0 us =>
 cases us with
 |nil=>exact absurd hl (by simp)
 |cons a1 us =>
 cases us with
 |nil=>exact absurd hl (by simp)
 |cons a2 us =>
 cases us with
 |nil=>exact absurd hl (by simp)
 |cons a3 us =>
 cases us with
 |nil=>exact absurd hl (by simp)
 |cons a4 us =>
 cases us with
 |nil=>exact h _ _ _ _ _
 |cons b us=>exact absurd hl (by simp)
theorem all_mk {l:OpenLaw}{w:World}{K:Frag}{h:Heap}{mg:Str → Option Value}{fa f1 f2 f3 f4 f5 f6 f7 f8 f9 f10 f11 f12 f13 f14 f15 f16 f17 f18 f19 f20 f21 f22 f23 f24 f25 f26 f27 f28 f29 f30 f31 f32 f33 f34 f35 f36 f37 f38 f39 f40 f41:Addr} (X:K.In h) (G:h.Ns mainGlobals mg) (hfa:mg "law"=some (.ref fa))
  {od1 an1:Option Addr}{sl1:Array (Option Value)}{oc1 kV1 dc1 pm1 cd1 ct1:Value}
  (a1:nsIn K mainGlobals "keys_hold"=some (some (.ref f1))) (l1:K.lookup f1=some ⟨oc1,od1,.func (fnOf "keys_hold" "keys_hold" (b_3 m_4) (b_0 m_4) (a_0 m_4) .none kV1 dc1 pm1 an1 cd1 ct1),sl1⟩) (c1:codeIn K cd1 "keys_hold"=true) (k1:keepIn K (.ref f1)=true)
  {od2 an2:Option Addr}{sl2:Array (Option Value)}{oc2 kV2 dc2 pm2 cd2 ct2:Value}
  (a2:nsIn K mainGlobals "keys_meet"=some (some (.ref f2))) (l2:K.lookup f2=some ⟨oc2,od2,.func (fnOf "keys_meet" "keys_meet" (b_3 d_5) (b_0 d_5) (a_0 d_5) .none kV2 dc2 pm2 an2 cd2 ct2),sl2⟩) (c2:codeIn K cd2 "keys_meet"=true) (k2:keepIn K (.ref f2)=true)
  {od3 an3:Option Addr}{sl3:Array (Option Value)}{oc3 kV3 dc3 pm3 cd3 ct3:Value}
  (a3:nsIn K mainGlobals "keys_put"=some (some (.ref f3))) (l3:K.lookup f3=some ⟨oc3,od3,.func (fnOf "keys_put" "keys_put" (b_3 i_1) (b_0 i_1) (a_0 i_1) .none kV3 dc3 pm3 an3 cd3 ct3),sl3⟩) (c3:codeIn K cd3 "keys_put"=true) (k3:keepIn K (.ref f3)=true)
  {od4 an4:Option Addr}{sl4:Array (Option Value)}{oc4 kV4 dc4 pm4 cd4 ct4:Value}
  (a4:nsIn K mainGlobals "keys_put_back"=some (some (.ref f4))) (l4:K.lookup f4=some ⟨oc4,od4,.func (fnOf "keys_put_back" "keys_put_back" (b_3 c_5) (b_0 c_5) (a_0 c_5) .none kV4 dc4 pm4 an4 cd4 ct4),sl4⟩) (c4:codeIn K cd4 "keys_put_back"=true) (k4:keepIn K (.ref f4)=true)
  {od5 an5:Option Addr}{sl5:Array (Option Value)}{oc5 kV5 dc5 pm5 cd5 ct5:Value}
  (a5:nsIn K mainGlobals "stretch_made"=some (some (.ref f5))) (l5:K.lookup f5=some ⟨oc5,od5,.func (fnOf "stretch_made" "stretch_made" (b_3 h_8) (b_0 h_8) (a_0 h_8) .none kV5 dc5 pm5 an5 cd5 ct5),sl5⟩) (c5:codeIn K cd5 "stretch_made"=true) (k5:keepIn K (.ref f5)=true)
  {od6 an6:Option Addr}{sl6:Array (Option Value)}{oc6 kV6 dc6 pm6 cd6 ct6:Value}
  (a6:nsIn K mainGlobals "is_between"=some (some (.ref f6))) (l6:K.lookup f6=some ⟨oc6,od6,.func (fnOf "is_between" "is_between" (b_3 l_0) (b_0 l_0) (a_0 l_0) .none kV6 dc6 pm6 an6 cd6 ct6),sl6⟩) (c6:codeIn K cd6 "is_between"=true) (k6:keepIn K (.ref f6)=true)
  {od7 an7:Option Addr}{sl7:Array (Option Value)}{oc7 kV7 dc7 pm7 cd7 ct7:Value}
  (a7:nsIn K mainGlobals "stretch_has"=some (some (.ref f7))) (l7:K.lookup f7=some ⟨oc7,od7,.func (fnOf "stretch_has" "stretch_has" (b_3 j_1) (b_0 j_1) (a_0 j_1) .none kV7 dc7 pm7 an7 cd7 ct7),sl7⟩) (c7:codeIn K cd7 "stretch_has"=true) (k7:keepIn K (.ref f7)=true)
  {od8 an8:Option Addr}{sl8:Array (Option Value)}{oc8 kV8 dc8 pm8 cd8 ct8:Value}
  (a8:nsIn K mainGlobals "lower_bound"=some (some (.ref f8))) (l8:K.lookup f8=some ⟨oc8,od8,.func (fnOf "lower_bound" "lower_bound" (b_3 j_2) (b_0 j_2) (a_0 j_2) .none kV8 dc8 pm8 an8 cd8 ct8),sl8⟩) (c8:codeIn K cd8 "lower_bound"=true) (k8:keepIn K (.ref f8)=true)
  {od9 an9:Option Addr}{sl9:Array (Option Value)}{oc9 kV9 dc9 pm9 cd9 ct9:Value}
  (a9:nsIn K mainGlobals "upper_bound"=some (some (.ref f9))) (l9:K.lookup f9=some ⟨oc9,od9,.func (fnOf "upper_bound" "upper_bound" (b_3 j_0) (b_0 j_0) (a_0 j_0) .none kV9 dc9 pm9 an9 cd9 ct9),sl9⟩) (c9:codeIn K cd9 "upper_bound"=true) (k9:keepIn K (.ref f9)=true)
  {od10 an10:Option Addr}{sl10:Array (Option Value)}{oc10 kV10 dc10 pm10 cd10 ct10:Value}
  (a10:nsIn K mainGlobals "stretch_between"=some (some (.ref f10))) (l10:K.lookup f10=some ⟨oc10,od10,.func (fnOf "stretch_between" "stretch_between" (b_3 e_7) (b_0 e_7) (a_0 e_7) .none kV10 dc10 pm10 an10 cd10 ct10),sl10⟩) (c10:codeIn K cd10 "stretch_between"=true) (k10:keepIn K (.ref f10)=true)
  {od11 an11:Option Addr}{sl11:Array (Option Value)}{oc11 kV11 dc11 pm11 cd11 ct11:Value}
  (a11:nsIn K mainGlobals "stretch_moved"=some (some (.ref f11))) (l11:K.lookup f11=some ⟨oc11,od11,.func (fnOf "stretch_moved" "stretch_moved" (b_3 d_9) (b_0 d_9) (a_0 d_9) .none kV11 dc11 pm11 an11 cd11 ct11),sl11⟩) (c11:codeIn K cd11 "stretch_moved"=true) (k11:keepIn K (.ref f11)=true)
  {od12 an12:Option Addr}{sl12:Array (Option Value)}{oc12 kV12 dc12 pm12 cd12 ct12:Value}
  (a12:nsIn K mainGlobals "divisor_and_factor"=some (some (.ref f12))) (l12:K.lookup f12=some ⟨oc12,od12,.func (fnOf "divisor_and_factor" "divisor_and_factor" (b_3 d_1) (b_0 d_1) (a_0 d_1) .none kV12 dc12 pm12 an12 cd12 ct12),sl12⟩) (c12:codeIn K cd12 "divisor_and_factor"=true) (k12:keepIn K (.ref f12)=true)
  {od13 an13:Option Addr}{sl13:Array (Option Value)}{oc13 kV13 dc13 pm13 cd13 ct13:Value}
  (a13:nsIn K mainGlobals "stretch_back"=some (some (.ref f13))) (l13:K.lookup f13=some ⟨oc13,od13,.func (fnOf "stretch_back" "stretch_back" (b_3 h_9) (b_0 h_9) (a_0 h_9) .none kV13 dc13 pm13 an13 cd13 ct13),sl13⟩) (c13:codeIn K cd13 "stretch_back"=true) (k13:keepIn K (.ref f13)=true)
  {od14 an14:Option Addr}{sl14:Array (Option Value)}{oc14 kV14 dc14 pm14 cd14 ct14:Value}
  (a14:nsIn K mainGlobals "stretch_meet"=some (some (.ref f14))) (l14:K.lookup f14=some ⟨oc14,od14,.func (fnOf "stretch_meet" "stretch_meet" (b_3 h_7) (b_0 h_7) (a_0 h_7) .none kV14 dc14 pm14 an14 cd14 ct14),sl14⟩) (c14:codeIn K cd14 "stretch_meet"=true) (k14:keepIn K (.ref f14)=true)
  {od15 an15:Option Addr}{sl15:Array (Option Value)}{oc15 kV15 dc15 pm15 cd15 ct15:Value}
  (a15:nsIn K mainGlobals "box_made"=some (some (.ref f15))) (l15:K.lookup f15=some ⟨oc15,od15,.func (fnOf "box_made" "box_made" (b_3 o_7) (b_0 o_7) (a_0 o_7) .none kV15 dc15 pm15 an15 cd15 ct15),sl15⟩) (c15:codeIn K cd15 "box_made"=true) (k15:keepIn K (.ref f15)=true)
  {od16 an16:Option Addr}{sl16:Array (Option Value)}{oc16 kV16 dc16 pm16 cd16 ct16:Value}
  (a16:nsIn K mainGlobals "box_meet"=some (some (.ref f16))) (l16:K.lookup f16=some ⟨oc16,od16,.func (fnOf "box_meet" "box_meet" (b_3 o_6) (b_0 o_6) (a_0 o_6) .none kV16 dc16 pm16 an16 cd16 ct16),sl16⟩) (c16:codeIn K cd16 "box_meet"=true) (k16:keepIn K (.ref f16)=true)
  {od17 an17:Option Addr}{sl17:Array (Option Value)}{oc17 kV17 dc17 pm17 cd17 ct17:Value}
  (a17:nsIn K mainGlobals "box_sieved"=some (some (.ref f17))) (l17:K.lookup f17=some ⟨oc17,od17,.func (fnOf "box_sieved" "box_sieved" (b_3 l_1) (b_0 l_1) (a_0 l_1) .none kV17 dc17 pm17 an17 cd17 ct17),sl17⟩) (c17:codeIn K cd17 "box_sieved"=true) (k17:keepIn K (.ref f17)=true)
  {od18 an18:Option Addr}{sl18:Array (Option Value)}{oc18 kV18 dc18 pm18 cd18 ct18:Value}
  (a18:nsIn K mainGlobals "box_later"=some (some (.ref f18))) (l18:K.lookup f18=some ⟨oc18,od18,.func (fnOf "box_later" "box_later" (b_3 m_5) (b_0 m_5) (a_0 m_5) .none kV18 dc18 pm18 an18 cd18 ct18),sl18⟩) (c18:codeIn K cd18 "box_later"=true) (k18:keepIn K (.ref f18)=true)
  {od19 an19:Option Addr}{sl19:Array (Option Value)}{oc19 kV19 dc19 pm19 cd19 ct19:Value}
  (a19:nsIn K mainGlobals "row_forth"=some (some (.ref f19))) (l19:K.lookup f19=some ⟨oc19,od19,.func (fnOf "row_forth" "row_forth" (b_3 l_9) (b_0 l_9) (a_0 l_9) .none kV19 dc19 pm19 an19 cd19 ct19),sl19⟩) (c19:codeIn K cd19 "row_forth"=true) (k19:keepIn K (.ref f19)=true)
  {od20 an20:Option Addr}{sl20:Array (Option Value)}{oc20 kV20 dc20 pm20 cd20 ct20:Value}
  (a20:nsIn K mainGlobals "row_back"=some (some (.ref f20))) (l20:K.lookup f20=some ⟨oc20,od20,.func (fnOf "row_back" "row_back" (b_3 o_2) (b_0 o_2) (a_0 o_2) .none kV20 dc20 pm20 an20 cd20 ct20),sl20⟩) (c20:codeIn K cd20 "row_back"=true) (k20:keepIn K (.ref f20)=true)
  {od21 an21:Option Addr}{sl21:Array (Option Value)}{oc21 kV21 dc21 pm21 cd21 ct21:Value}
  (a21:nsIn K mainGlobals "_law_cell_at"=some (some (.ref f21))) (l21:K.lookup f21=some ⟨oc21,od21,.func (fnOf "_law_cell_at" "_law_cell_at" (b_3 j_5) (b_0 j_5) (a_0 j_5) .none kV21 dc21 pm21 an21 cd21 ct21),sl21⟩) (c21:codeIn K cd21 "_law_cell_at"=true) (k21:keepIn K (.ref f21)=true)
  {od22 an22:Option Addr}{sl22:Array (Option Value)}{oc22 kV22 dc22 pm22 cd22 ct22:Value}
  (a22:nsIn K mainGlobals "_law_mixed"=some (some (.ref f22))) (l22:K.lookup f22=some ⟨oc22,od22,.func (fnOf "_law_mixed" "_law_mixed" (b_3 m_0) (b_0 m_0) (a_0 m_0) .none kV22 dc22 pm22 an22 cd22 ct22),sl22⟩) (c22:codeIn K cd22 "_law_mixed"=true) (k22:keepIn K (.ref f22)=true)
  {od23 an23:Option Addr}{sl23:Array (Option Value)}{oc23 kV23 dc23 pm23 cd23 ct23:Value}
  (a23:nsIn K mainGlobals "_law_draws"=some (some (.ref f23))) (l23:K.lookup f23=some ⟨oc23,od23,.func (fnOf "_law_draws" "_law_draws" (b_3 m_2) (b_0 m_2) (a_0 m_2) .none kV23 dc23 pm23 an23 cd23 ct23),sl23⟩) (c23:codeIn K cd23 "_law_draws"=true) (k23:keepIn K (.ref f23)=true)
  {od24 an24:Option Addr}{sl24:Array (Option Value)}{oc24 kV24 dc24 pm24 cd24 ct24:Value}
  (a24:nsIn K mainGlobals "_law_next"=some (some (.ref f24))) (l24:K.lookup f24=some ⟨oc24,od24,.func (fnOf "_law_next" "_law_next" (b_3 o_4) (b_0 o_4) (a_0 o_4) .none kV24 dc24 pm24 an24 cd24 ct24),sl24⟩) (c24:codeIn K cd24 "_law_next"=true) (k24:keepIn K (.ref f24)=true)
  {od25 an25:Option Addr}{sl25:Array (Option Value)}{oc25 kV25 dc25 pm25 cd25 ct25:Value}
  (a25:nsIn K mainGlobals "_law_pool"=some (some (.ref f25))) (l25:K.lookup f25=some ⟨oc25,od25,.func (fnOf "_law_pool" "_law_pool" (b_3 k_7) (b_0 k_7) (a_0 k_7) .none kV25 dc25 pm25 an25 cd25 ct25),sl25⟩) (c25:codeIn K cd25 "_law_pool"=true) (k25:keepIn K (.ref f25)=true)
  {od26 an26:Option Addr}{sl26:Array (Option Value)}{oc26 kV26 dc26 pm26 cd26 ct26:Value}
  (a26:nsIn K mainGlobals "_law_keys"=some (some (.ref f26))) (l26:K.lookup f26=some ⟨oc26,od26,.func (fnOf "_law_keys" "_law_keys" (b_3 k_8) (b_0 k_8) (a_0 k_8) .none kV26 dc26 pm26 an26 cd26 ct26),sl26⟩) (c26:codeIn K cd26 "_law_keys"=true) (k26:keepIn K (.ref f26)=true)
  {od27 an27:Option Addr}{sl27:Array (Option Value)}{oc27 kV27 dc27 pm27 cd27 ct27:Value}
  (a27:nsIn K mainGlobals "_law_in"=some (some (.ref f27))) (l27:K.lookup f27=some ⟨oc27,od27,.func (fnOf "_law_in" "_law_in" (b_3 u_9) (b_0 u_9) (a_0 u_9) .none kV27 dc27 pm27 an27 cd27 ct27),sl27⟩) (c27:codeIn K cd27 "_law_in"=true) (k27:keepIn K (.ref f27)=true)
  {od28 an28:Option Addr}{sl28:Array (Option Value)}{oc28 kV28 dc28 pm28 cd28 ct28:Value}
  (a28:nsIn K mainGlobals "_law_great"=some (some (.ref f28))) (l28:K.lookup f28=some ⟨oc28,od28,.func (fnOf "_law_great" "_law_great" (b_3 m_1) (b_0 m_1) (a_0 m_1) .none kV28 dc28 pm28 an28 cd28 ct28),sl28⟩) (c28:codeIn K cd28 "_law_great"=true) (k28:keepIn K (.ref f28)=true)
  {od29 an29:Option Addr}{sl29:Array (Option Value)}{oc29 kV29 dc29 pm29 cd29 ct29:Value}
  (a29:nsIn K mainGlobals "_law_stretch"=some (some (.ref f29))) (l29:K.lookup f29=some ⟨oc29,od29,.func (fnOf "_law_stretch" "_law_stretch" (b_3 j_4) (b_0 j_4) (a_0 j_4) .none kV29 dc29 pm29 an29 cd29 ct29),sl29⟩) (c29:codeIn K cd29 "_law_stretch"=true) (k29:keepIn K (.ref f29)=true)
  {od30 an30:Option Addr}{sl30:Array (Option Value)}{oc30 kV30 dc30 pm30 cd30 ct30:Value}
  (a30:nsIn K mainGlobals "_law_time"=some (some (.ref f30))) (l30:K.lookup f30=some ⟨oc30,od30,.func (fnOf "_law_time" "_law_time" (b_3 o_3) (b_0 o_3) (a_0 o_3) .none kV30 dc30 pm30 an30 cd30 ct30),sl30⟩) (c30:codeIn K cd30 "_law_time"=true) (k30:keepIn K (.ref f30)=true)
  {od31 an31:Option Addr}{sl31:Array (Option Value)}{oc31 kV31 dc31 pm31 cd31 ct31:Value}
  (a31:nsIn K mainGlobals "_law_box"=some (some (.ref f31))) (l31:K.lookup f31=some ⟨oc31,od31,.func (fnOf "_law_box" "_law_box" (b_3 r_3) (b_0 r_3) (a_0 r_3) .none kV31 dc31 pm31 an31 cd31 ct31),sl31⟩) (c31:codeIn K cd31 "_law_box"=true) (k31:keepIn K (.ref f31)=true)
  {od32 an32:Option Addr}{sl32:Array (Option Value)}{oc32 kV32 dc32 pm32 cd32 ct32:Value}
  (a32:nsIn K mainGlobals "_law_value_in"=some (some (.ref f32))) (l32:K.lookup f32=some ⟨oc32,od32,.func (fnOf "_law_value_in" "_law_value_in" (b_3 i_0) (b_0 i_0) (a_0 i_0) .none kV32 dc32 pm32 an32 cd32 ct32),sl32⟩) (c32:codeIn K cd32 "_law_value_in"=true) (k32:keepIn K (.ref f32)=true)
  {od33 an33:Option Addr}{sl33:Array (Option Value)}{oc33 kV33 dc33 pm33 cd33 ct33:Value}
  (a33:nsIn K mainGlobals "_law_has"=some (some (.ref f33))) (l33:K.lookup f33=some ⟨oc33,od33,.func (fnOf "_law_has" "_law_has" (b_3 r_2) (b_0 r_2) (a_0 r_2) .none kV33 dc33 pm33 an33 cd33 ct33),sl33⟩) (c33:codeIn K cd33 "_law_has"=true) (k33:keepIn K (.ref f33)=true)
  {od34 an34:Option Addr}{sl34:Array (Option Value)}{oc34 kV34 dc34 pm34 cd34 ct34:Value}
  (a34:nsIn K mainGlobals "_law_near"=some (some (.ref f34))) (l34:K.lookup f34=some ⟨oc34,od34,.func (fnOf "_law_near" "_law_near" (b_3 o_5) (b_0 o_5) (a_0 o_5) .none kV34 dc34 pm34 an34 cd34 ct34),sl34⟩) (c34:codeIn K cd34 "_law_near"=true) (k34:keepIn K (.ref f34)=true)
  {od35 an35:Option Addr}{sl35:Array (Option Value)}{oc35 kV35 dc35 pm35 cd35 ct35:Value}
  (a35:nsIn K mainGlobals "_law_through"=some (some (.ref f35))) (l35:K.lookup f35=some ⟨oc35,od35,.func (fnOf "_law_through" "_law_through" (b_3 j_3) (b_0 j_3) (a_0 j_3) .none kV35 dc35 pm35 an35 cd35 ct35),sl35⟩) (c35:codeIn K cd35 "_law_through"=true) (k35:keepIn K (.ref f35)=true)
  {od36 an36:Option Addr}{sl36:Array (Option Value)}{oc36 kV36 dc36 pm36 cd36 ct36:Value}
  (a36:nsIn K mainGlobals "_law_unlike"=some (some (.ref f36))) (l36:K.lookup f36=some ⟨oc36,od36,.func (fnOf "_law_unlike" "_law_unlike" (b_3 g_8) (b_0 g_8) (a_0 g_8) .none kV36 dc36 pm36 an36 cd36 ct36),sl36⟩) (c36:codeIn K cd36 "_law_unlike"=true) (k36:keepIn K (.ref f36)=true)
  {od37 an37:Option Addr}{sl37:Array (Option Value)}{oc37 kV37 dc37 pm37 cd37 ct37:Value}
  (a37:nsIn K mainGlobals "_law_bounds"=some (some (.ref f37))) (l37:K.lookup f37=some ⟨oc37,od37,.func (fnOf "_law_bounds" "_law_bounds" (b_3 k_9) (b_0 k_9) (a_0 k_9) .none kV37 dc37 pm37 an37 cd37 ct37),sl37⟩) (c37:codeIn K cd37 "_law_bounds"=true) (k37:keepIn K (.ref f37)=true)
  {od38 an38:Option Addr}{sl38:Array (Option Value)}{oc38 kV38 dc38 pm38 cd38 ct38:Value}
  (a38:nsIn K mainGlobals "_law_sieve"=some (some (.ref f38))) (l38:K.lookup f38=some ⟨oc38,od38,.func (fnOf "_law_sieve" "_law_sieve" (b_3 i_5) (b_0 i_5) (a_0 i_5) .none kV38 dc38 pm38 an38 cd38 ct38),sl38⟩) (c38:codeIn K cd38 "_law_sieve"=true) (k38:keepIn K (.ref f38)=true)
  {od39 an39:Option Addr}{sl39:Array (Option Value)}{oc39 kV39 dc39 pm39 cd39 ct39:Value}
  (a39:nsIn K mainGlobals "_law_alone"=some (some (.ref f39))) (l39:K.lookup f39=some ⟨oc39,od39,.func (fnOf "_law_alone" "_law_alone" (b_3 m_3) (b_0 m_3) (a_0 m_3) .none kV39 dc39 pm39 an39 cd39 ct39),sl39⟩) (c39:codeIn K cd39 "_law_alone"=true) (k39:keepIn K (.ref f39)=true)
  {od40 an40:Option Addr}{sl40:Array (Option Value)}{oc40 kV40 dc40 pm40 cd40 ct40:Value}
  (a40:nsIn K mainGlobals "_law_row_right"=some (some (.ref f40))) (l40:K.lookup f40=some ⟨oc40,od40,.func (fnOf "_law_row_right" "_law_row_right" (b_3 g_3) (b_0 g_3) (a_0 g_3) .none kV40 dc40 pm40 an40 cd40 ct40),sl40⟩) (c40:codeIn K cd40 "_law_row_right"=true) (k40:keepIn K (.ref f40)=true)
  {od41 an41:Option Addr}{sl41:Array (Option Value)}{oc41 kV41 dc41 pm41 cd41 ct41:Value}
  (a41:nsIn K mainGlobals "law"=some (some (.ref f41))) (l41:K.lookup f41=some ⟨oc41,od41,.func (fnOf "law" "law" (b_3 L_6) (b_0 L_6) (a_0 L_6) .none kV41 dc41 pm41 an41 cd41 ct41),sl41⟩) (c41:codeIn K cd41 "law"=true) (k41:keepIn K (.ref f41)=true)
  {tec10:_}{ec11:Addr}{nec11:Nat}{slec11:Array (Option Value)} (lec11:K.lookup ec11=some ⟨.type "tuple",none,.seq #[] nec11,slec11⟩) {ec1:Addr}{nec1:Nat}{slec1:Array (Option Value)} (lec1:K.lookup ec1=some ⟨.type "tuple",none,.seq #[.str "but" tec10,.ref ec11] nec1,slec1⟩) (y1:nsIn K mainGlobals "EVERY_KEY"=some (some (.ref ec1))) {tec22:_}{tec23:_}{ec2:Addr}{nec2:Nat}{slec2:Array (Option Value)} (lec2:K.lookup ec2=some ⟨.type "tuple",none,.seq #[.none,.none,.int 1 tec22,.int 0 tec23] nec2,slec2⟩) (y2:nsIn K mainGlobals "EVERY_VALUE"=some (some (.ref ec2)))
  (z1:nsIn K mainGlobals "abs"=some none) (z2:nsIn K mainGlobals "len"=some none) (z3:nsIn K mainGlobals "max"=some none) (z4:nsIn K mainGlobals "min"=some none) (z5:nsIn K mainGlobals "any"=some none) (z6:nsIn K mainGlobals "all"=some none) (z7:nsIn K mainGlobals "range"=some none) (z8:nsIn K mainGlobals "isinstance"=some none) (z9:nsIn K mainGlobals "int"=some none) (z10:nsIn K mainGlobals "bool"=some none) (z11:nsIn K mainGlobals "str"=some none) (z12:nsIn K mainGlobals "tuple"=some none) (z13:nsIn K mainGlobals "list"=some none) (z14:nsIn K mainGlobals "sorted"=some none) (z15:nsIn K mainGlobals "dict"=some none) (z16:nsIn K mainGlobals "set"=some none) :
  ∃ fd:FuncData,(∀ (s:Shared) (v:Value),BindsTo s fd ⟨[v],[]⟩ [("_law_script",v)]) ∧ ∀ base:Heap,K.In base → base.Ns mainGlobals mg → FnOk l.prog w K mg base CX0 8 fa fd ["_law_script"] (spP K Y_4):=by
 have e:=hfa.symm.trans (mg_of X G a41);cases e;have T:Blt K mg:=⟨mg_none_of X G z1,mg_none_of X G z2,mg_none_of X G z3,mg_none_of X G z4,mg_none_of X G z5,mg_none_of X G z6,mg_none_of X G z7,mg_none_of X G z8,mg_none_of X G z9,mg_none_of X G z10,mg_none_of X G z11,mg_none_of X G z12,mg_none_of X G z13,mg_none_of X G z14,mg_none_of X G z15,mg_none_of X G z16,⟨_,mg_of X G y1,(aq9 lec1 (by simp) (v_2 be4 (v_2 (aq9 lec11 (by simp) Y_5) Y_5)))⟩,⟨_,mg_of X G y2,(aq9 lec2 (by simp) (v_2 aG5 (v_2 aG5 (v_2 aG6 (v_2 aG6 Y_5)))))⟩⟩
 have F1:=c_9 (st:=m_4) l1 c1 k1;have b1:=F1.binds (ps:=["keys","key"]) λ _ _ _ _ _ _=>us2 λ _ _=>rfl
 have F2:=c_9 (st:=d_5) l2 c2 k2;have b2:=F2.binds (ps:=["one","other"]) λ _ _ _ _ _ _=>us2 λ _ _=>rfl
 have F3:=c_9 (st:=i_1) l3 c3 k3;have b3:=F3.binds (ps:=["keys","table"]) λ _ _ _ _ _ _=>us2 λ _ _=>rfl
 have F4:=c_9 (st:=c_5) l4 c4 k4;have b4:=F4.binds (ps:=["keys","table"]) λ _ _ _ _ _ _=>us2 λ _ _=>rfl
 have F5:=c_9 (st:=h_8) l5 c5 k5;have b5:=F5.binds (ps:=["low","high","step","rest"]) λ _ _ _ _ _ _=>us4 λ _ _ _ _=>rfl
 have F6:=c_9 (st:=l_0) l6 c6 k6;have b6:=F6.binds (ps:=["v","low","high"]) λ _ _ _ _ _ _=>us3 λ _ _ _=>rfl
 have F7:=c_9 (st:=j_1) l7 c7 k7;have b7:=F7.binds (ps:=["one","v"]) λ _ _ _ _ _ _=>us2 λ _ _=>rfl
 have F8:=c_9 (st:=j_2) l8 c8 k8;have b8:=F8.binds (ps:=["one","other"]) λ _ _ _ _ _ _=>us2 λ _ _=>rfl
 have F9:=c_9 (st:=j_0) l9 c9 k9;have b9:=F9.binds (ps:=["one","other"]) λ _ _ _ _ _ _=>us2 λ _ _=>rfl
 have F10:=c_9 (st:=e_7) l10 c10 k10;have b10:=F10.binds (ps:=["one","low","high"]) λ _ _ _ _ _ _=>us3 λ _ _ _=>rfl
 have F11:=c_9 (st:=d_9) l11 c11 k11;have b11:=F11.binds (ps:=["one","a","b"]) λ _ _ _ _ _ _=>us3 λ _ _ _=>rfl
 have F12:=c_9 (st:=d_1) l12 c12 k12;have b12:=F12.binds (ps:=["a","m"]) λ _ _ _ _ _ _=>us2 λ _ _=>rfl
 have F13:=c_9 (st:=h_9) l13 c13 k13;have b13:=F13.binds (ps:=["one","a","b"]) λ _ _ _ _ _ _=>us3 λ _ _ _=>rfl
 have F14:=c_9 (st:=h_7) l14 c14 k14;have b14:=F14.binds (ps:=["one","other"]) λ _ _ _ _ _ _=>us2 λ _ _=>rfl
 have F15:=c_9 (st:=o_7) l15 c15 k15;have b15:=F15.binds (ps:=["keys","begin","end","stretch"]) λ _ _ _ _ _ _=>us4 λ _ _ _ _=>rfl
 have F16:=c_9 (st:=o_6) l16 c16 k16;have b16:=F16.binds (ps:=["one","other"]) λ _ _ _ _ _ _=>us2 λ _ _=>rfl
 have F17:=c_9 (st:=l_1) l17 c17 k17;have b17:=F17.binds (ps:=["row"]) λ _ _ _ _ _ _=>us1 λ _=>rfl
 have F18:=c_9 (st:=m_5) l18 c18 k18;have b18:=F18.binds (ps:=["box","c"]) λ _ _ _ _ _ _=>us2 λ _ _=>rfl
 have F19:=c_9 (st:=l_9) l19 c19 k19;have b19:=F19.binds (ps:=["row","box"]) λ _ _ _ _ _ _=>us2 λ _ _=>rfl
 have F20:=c_9 (st:=o_2) l20 c20 k20;have b20:=F20.binds (ps:=["row","box"]) λ _ _ _ _ _ _=>us2 λ _ _=>rfl
 have F21:=c_9 (st:=j_5) l21 c21 k21;have b21:=F21.binds (ps:=["_law_script","_law_k"]) λ _ _ _ _ _ _=>us2 λ _ _=>rfl
 have F22:=c_9 (st:=m_0) l22 c22 k22;have b22:=F22.binds (ps:=["_law_cell","_law_k"]) λ _ _ _ _ _ _=>us2 λ _ _=>rfl
 have F23:=c_9 (st:=m_2) l23 c23 k23;have b23:=F23.binds (ps:=["_law_script"]) λ _ _ _ _ _ _=>us1 λ _=>rfl
 have F24:=c_9 (st:=o_4) l24 c24 k24;have b24:=F24.binds (ps:=["_law_draws_here"]) λ _ _ _ _ _ _=>us1 λ _=>rfl
 have F25:=c_9 (st:=k_7) l25 c25 k25;have b25:=F25.binds (ps:=["_law_draws_here"]) λ _ _ _ _ _ _=>us1 λ _=>rfl
 have F26:=c_9 (st:=k_8) l26 c26 k26;have b26:=F26.binds (ps:=["_law_draws_here","_law_pool_here"]) λ _ _ _ _ _ _=>us2 λ _ _=>rfl
 have F27:=c_9 (st:=u_9) l27 c27 k27;have b27:=F27.binds (ps:=["_law_keys_here","_law_key"]) λ _ _ _ _ _ _=>us2 λ _ _=>rfl
 have F28:=c_9 (st:=m_1) l28 c28 k28;have b28:=F28.binds (ps:=["_law_draws_here"]) λ _ _ _ _ _ _=>us1 λ _=>rfl
 have F29:=c_9 (st:=j_4) l29 c29 k29;have b29:=F29.binds (ps:=["_law_draws_here"]) λ _ _ _ _ _ _=>us1 λ _=>rfl
 have F30:=c_9 (st:=o_3) l30 c30 k30;have b30:=F30.binds (ps:=["_law_draws_here"]) λ _ _ _ _ _ _=>us1 λ _=>rfl
 have F31:=c_9 (st:=r_3) l31 c31 k31;have b31:=F31.binds (ps:=["_law_draws_here","_law_pool_here"]) λ _ _ _ _ _ _=>us2 λ _ _=>rfl
 have F32:=c_9 (st:=i_0) l32 c32 k32;have b32:=F32.binds (ps:=["_law_stretch_here","_law_value"]) λ _ _ _ _ _ _=>us2 λ _ _=>rfl
 have F33:=c_9 (st:=r_2) l33 c33 k33;have b33:=F33.binds (ps:=["_law_box_here","_law_thing"]) λ _ _ _ _ _ _=>us2 λ _ _=>rfl
 have F34:=c_9 (st:=o_5) l34 c34 k34;have b34:=F34.binds (ps:=["_law_draws_here","_law_box_here","_law_pool_here"]) λ _ _ _ _ _ _=>us3 λ _ _ _=>rfl
 have F35:=c_9 (st:=j_3) l35 c35 k35;have b35:=F35.binds (ps:=["_law_row","_law_thing"]) λ _ _ _ _ _ _=>us2 λ _ _=>rfl
 have F36:=c_9 (st:=g_8) l36 c36 k36;have b36:=F36.binds (ps:=["_law_draws_here","_law_names","_law_many"]) λ _ _ _ _ _ _=>us3 λ _ _ _=>rfl
 have F37:=c_9 (st:=k_9) l37 c37 k37;have b37:=F37.binds (ps:=["_law_draws_here"]) λ _ _ _ _ _ _=>us1 λ _=>rfl
 have F38:=c_9 (st:=i_5) l38 c38 k38;have b38:=F38.binds (ps:=["_law_draws_here","_law_word","_law_name","_law_froms","_law_pool_here"]) λ _ _ _ _ _ _=>us5 λ _ _ _ _ _=>rfl
 have F39:=c_9 (st:=m_3) l39 c39 k39;have b39:=F39.binds (ps:=["_law_thing"]) λ _ _ _ _ _ _=>us1 λ _=>rfl
 have F40:=c_9 (st:=g_3) l40 c40 k40;have b40:=F40.binds (ps:=["_law_draws_here","_law_row","_law_box_here","_law_pool_here"]) λ _ _ _ _ _ _=>us4 λ _ _ _ _=>rfl
 have F41:=c_9 (st:=L_6) l41 c41 k41;have b41:=F41.binds (ps:=["_law_script"]) λ _ _ _ _ _ _=>us1 λ _=>rfl
 refine⟨fnOf "law" "law" (b_3 L_6) (b_0 L_6) (a_0 L_6) .none kV41 dc41 pm41 an41 cd41 ct41,λ s v=>.of_eq rfl,λ base _ _=>?_⟩
 have G1:DefOk l.prog w K mg base 1 "keys_hold" e_1:=S_2 F1 b1 (mg_of X G a1) T;have G3:DefOk l.prog w K mg base 1 "keys_put" j_7:=X_6 F3 b3 (mg_of X G a3) T;have G4:DefOk l.prog w K mg base 1 "keys_put_back" f_4:=C_3 F4 b4 (mg_of X G a4) T;have G5:DefOk l.prog w K mg base 1 "stretch_made" a_3:=E_5 F5 b5 (mg_of X G a5) T;have G6:DefOk l.prog w K mg base 1 "is_between" p_9:=M_5 F6 b6 (mg_of X G a6) T;have G8:DefOk l.prog w K mg base 1 "lower_bound" h_2:=H_4 F8 b8 (mg_of X G a8) T;have G9:DefOk l.prog w K mg base 1 "upper_bound" e_2:=H_2 F9 b9 (mg_of X G a9) T;have G12:DefOk l.prog w K mg base 1 "divisor_and_factor" d_2:=t_9 F12 b12 (mg_of X G a12) T;have G15:DefOk l.prog w K mg base 1 "box_made" a_9:=X_8 F15 b15 (mg_of X G a15) T;have G21:DefOk l.prog w K mg base 1 "_law_cell_at" e_4:=H_7 F21 b21 (mg_of X G a21) T;have G22:DefOk l.prog w K mg base 1 "_law_mixed" h_3:=R_7 F22 b22 (mg_of X G a22) T;have G27:DefOk l.prog w K mg base 1 "_law_in" v_1:=an0 F27 b27 (mg_of X G a27) T;have G32:DefOk l.prog w K mg base 1 "_law_value_in" c_2:=E_7 F32 b32 (mg_of X G a32) T;have G35:DefOk l.prog w K mg base 1 "_law_through" a_5:=H_5 F35 b35 (mg_of X G a35) T;have G7:DefOk l.prog w K mg base 2 "stretch_has" y_2:=H_3 F7 b7 (mg_of X G a7) T G6;have G10:DefOk l.prog w K mg base 2 "stretch_between" e_9:=x_9 F10 b10 (mg_of X G a10) T G8 G5 G9;have G11:DefOk l.prog w K mg base 2 "stretch_moved" c_1:=C_1 F11 b11 (mg_of X G a11) T G5;have G13:DefOk l.prog w K mg base 2 "stretch_back" b_4:=E_6 F13 b13 (mg_of X G a13) T G12 G5;have G17:DefOk l.prog w K mg base 2 "box_sieved" b_9:=M_6 F17 b17 (mg_of X G a17) T G15 G5;have G18:DefOk l.prog w K mg base 2 "box_later" h_5:=S_3 F18 b18 (mg_of X G a18) T G15;have G23:DefN l.prog w K mg base 2 "_law_draws" m_8:=R_9 F23 b23 (mg_of X G a23) T G21;have G24:DefB l.prog w K mg base 2 "_law_next" a_1:=X_3 F24 b24 (mg_of X G a24) T G21 G22;have G33:DefOk l.prog w K mg base 2 "_law_has" f_3:=ah1 F33 b33 (mg_of X G a33) T G27 G32;have G39:DefOk l.prog w K mg base 2 "_law_alone" m_9:=S_0 F39 b39 (mg_of X G a39) T G5;have G14:DefOk l.prog w K mg base 3 "stretch_meet" g_1:=E_4 F14 b14 (mg_of X G a14) T G13 G10 G11;have G25:DefB l.prog w K mg base 3 "_law_pool" m_7:=X_2 F25 b25 (mg_of X G a25) T G24;have G26:DefB l.prog w K mg base 3 "_law_keys" j_6:=X_5 F26 b26 (mg_of X G a26) T G24;have G28:DefB l.prog w K mg base 3 "_law_great" h_4:=R_8 F28 b28 (mg_of X G a28) T G24;have G30:DefB l.prog w K mg base 3 "_law_time" m_6:=X_1 F30 b30 (mg_of X G a30) T G24;have G34:DefB l.prog w K mg base 3 "_law_near" g_5:=X_4 F34 b34 (mg_of X G a34) T G24;have G36:DefB l.prog w K mg base 3 "_law_unlike" i_8:=M_3 F36 b36 (mg_of X G a36) T G24;have G37:DefB l.prog w K mg base 3 "_law_bounds" c_8:=M_4 F37 b37 (mg_of X G a37) T G24
 have G2:DefOk l.prog w K mg base 4 "keys_meet" d_6:=S_1 F2 b2 (mg_of X G a2) T G1;have G29:DefB l.prog w K mg base 4 "_law_stretch" e_3:=H_6 F29 b29 (mg_of X G a29) T G28 G24 G5;have G38:DefB l.prog w K mg base 4 "_law_sieve" c_3:=R_6 F38 b38 (mg_of X G a38) T G37 G24 G36;have G16:DefOk l.prog w K mg base 5 "box_meet" g_6:=X_7 F16 b16 (mg_of X G a16) T G15 G2 G14 G9;have G31:DefB l.prog w K mg base 5 "_law_box" n_6:=ah2 F31 b31 (mg_of X G a31) T G26 G24 G29 G30 G15;have G19:DefOk l.prog w K mg base 6 "row_forth" h_1:=R_5 F19 b19 (mg_of X G a19) T G18 G15 G16 G17 G3 G11;have G20:DefOk l.prog w K mg base 6 "row_back" e_0:=X_0 F20 b20 (mg_of X G a20) T G18 G15 G16 G17 G4 G13;have G40:DefB l.prog w K mg base 7 "_law_row_right" g_4:=C_2 F40 b40 (mg_of X G a40) T G39 G33 G34 G35 G16 G20 G19;exact bf9 F41 T G31 G23 G24 G25 G40 G38
theorem walk {l:OpenLaw}{q:Program}{loose:List Str}{XP:(Str->Option Value)->Heap->Prop}{YP:World->Heap->Prop}{d:DefRec}{K:Params->Frag} (hn:l.most=some 63) (hdf:d.params.defaults=[])
  (hY:∀ (w:World) (h:Heap),YP w h->(K w.params).In h)
  (F:∀ (w:World) (mg:Str->Option Value) (fa:Addr) (h:Heap),(K w.params).In h->h.Ns mainGlobals mg->mg d.name=some (.ref fa) ->
   ∃ fd:FuncData,(∀ (s:Shared) (u:Value),BindsTo s fd ⟨[u],[]⟩ [("_law_script",u)]) ∧ ∀ base:Heap,(K w.params).In base → base.Ns mainGlobals mg → FnOk l.prog w (K w.params) mg base CX0 8 fa fd ["_law_script"] (spP (K w.params) Y_4)) :
  PySem.W.WalkO q loose XP YP l.row.toRowW d [] (λ f vs=>PySem.call f vs) :=
 L2.walk_of (n:=63) (k:=8) (x:="_law_script") (CX:=λ _=>CX0) (sp:=λ w=>spP (K w.params) Y_4) hn (by decide) hdf ⟨rfl,by decide,by decide⟩ hY F
  (λ w H a ns hl _ hS=>⟨H,[.lst (ns.map .int)],.bl true,Same.refl _,Reps.one (by unfold Rep;exact⟨a,_,rfl,hS,Q_7 ns⟩),law_true ns hl,λ v Hi' H' S r=>by unfold Rep at r;exact r⟩) λ _ _ _ _ _ z=>z
end Fx
open PySem PySem.W PyProof.Rows
def PySem.W.Fast.tw16769126499074472276:=0
def PySem.W.Fast.tw11018735369315375141:=0
def PySem.W.Fast.tw7229205192738814999:=0
def PySem.W.Fast.tw13938981045355936480:=0
def PySem.W.Fast.tw3079893804926397791:=0
def PySem.W.Fast.tw10631725364722334860:=0
def PySem.W.Fast.tw17780148807830072255:=0
def PySem.W.Fast.tw522333779896490753:=0
def PySem.W.Fast.tw12060107145881414117:=0
def PySem.W.Fast.tw759807717458109924:=0
def PySem.W.Fast.tw11698114840443099069:=0
def PySem.W.Fast.tw15812133702081561198:=0
def PySem.W.Fast.tw6685430705865625508:=0
def PySem.W.Fast.tw14583854730007475855:=0
def PySem.W.Fast.tw13840372477561664278:=0
def PySem.W.Fast.tw969341095148981744:=0
def PySem.W.Fast.tw17010635187042984560:=0
def PySem.W.Fast.tw2324339164161314453:=0
def PySem.W.Fast.tw278281737102443144:=0
def PySem.W.Fast.tw18307952494667010584:=0
def PySem.W.Fast.tw14383171158488115335:=0
def PySem.W.Fast.tw4175564751857580242:=0
def PySem.W.Fast.tw6677431123387138012:=0
def PySem.W.Fast.tw5547363099667077434:=0
def PySem.W.Fast.tw737056951679785147:=0
def PySem.W.Fast.tw14749979089778054308:=0
def PySem.W.Fast.tw13071385520409377625:=0
def PySem.W.Fast.tw16154618252346315463:=0
def PySem.W.Fast.tw5249230970154682537:=0
def PySem.W.Fast.tw7103511400725828336:=0
def PySem.W.Fast.tw5588890417181697312:=0
def PySem.W.Fast.tw15874075218634068007:=0
def PySem.W.Fast.tw13657500068240165960:=0
def PySem.W.Fast.tw5926788363474643970:=0
def PySem.W.Fast.tw3118947776042847436:=0
def PySem.W.Fast.tw3053569075538354430:=0
def PySem.W.Fast.tw1421651653387170882:=0
def PySem.W.Fast.tw7614154474934715562:=0
def PySem.W.Fast.tw12738523052936529239:=0
def PySem.W.Fast.tw7746354396622237621:=0
def PySem.W.Fast.tw5969526746961947440:=0
def PySem.W.Fast.tw6704993443439252191:=0
def PySem.W.Fast.tw16734479070569571439:=0
def PySem.W.Fast.tw8120733709848776819:=0
def PySem.W.Fast.tw12353723187781949092:=0
def PySem.W.Fast.tw7030645928935722119:=0
def PySem.W.Fast.tw1651601410791113955:=0
def PySem.W.Fast.tw3687518409653109369:=0
def PySem.W.Fast.tw11796296279706752625:=0
def PySem.W.Fast.tw13112960777086492294:=0
set_option maxRecDepth 100000 in
set_option maxHeartbeats 0 in
theorem PySem.Challenge.cw_latewell_k15_boxes_by_rows_holds : PySem.Challenge.rw_latewell_k15_boxes_by_rows.Holds := by
 w_on;o_law;k_head;(case hw=>w_witness2)
 k_fill
 refine Fx.walk (l:=PySem.Challenge.rw_latewell_k15_boxes_by_rows) rfl rfl (λ w h Y=>PySem.W.kIn_of Y) ?F
 case F =>
  intro w mg fa h KX G hmg;refine' Fx.all_mk KX G hmg ?a1 ?l1 ?c1 ?k1 ?a2 ?l2 ?c2 ?k2 ?a3 ?l3 ?c3 ?k3 ?a4 ?l4 ?c4 ?k4 ?a5 ?l5 ?c5 ?k5 ?a6 ?l6 ?c6 ?k6 ?a7 ?l7 ?c7 ?k7 ?a8 ?l8 ?c8 ?k8 ?a9 ?l9 ?c9 ?k9 ?a10 ?l10 ?c10 ?k10 ?a11 ?l11 ?c11 ?k11 ?a12 ?l12 ?c12 ?k12 ?a13 ?l13 ?c13 ?k13 ?a14 ?l14 ?c14 ?k14 ?a15 ?l15 ?c15 ?k15 ?a16 ?l16 ?c16 ?k16 ?a17 ?l17 ?c17 ?k17 ?a18 ?l18 ?c18 ?k18 ?a19 ?l19 ?c19 ?k19 ?a20 ?l20 ?c20 ?k20 ?a21 ?l21 ?c21 ?k21 ?a22 ?l22 ?c22 ?k22 ?a23 ?l23 ?c23 ?k23 ?a24 ?l24 ?c24 ?k24 ?a25 ?l25 ?c25 ?k25 ?a26 ?l26 ?c26 ?k26 ?a27 ?l27 ?c27 ?k27 ?a28 ?l28 ?c28 ?k28 ?a29 ?l29 ?c29 ?k29 ?a30 ?l30 ?c30 ?k30 ?a31 ?l31 ?c31 ?k31 ?a32 ?l32 ?c32 ?k32 ?a33 ?l33 ?c33 ?k33 ?a34 ?l34 ?c34 ?k34 ?a35 ?l35 ?c35 ?k35 ?a36 ?l36 ?c36 ?k36 ?a37 ?l37 ?c37 ?k37 ?a38 ?l38 ?c38 ?k38 ?a39 ?l39 ?c39 ?k39 ?a40 ?l40 ?c40 ?k40 ?a41 ?l41 ?c41 ?k41 ?lec11 ?lec1 ?y1 ?lec2 ?y2 ?z1 ?z2 ?z3 ?z4 ?z5 ?z6 ?z7 ?z8 ?z9 ?z10 ?z11 ?z12 ?z13 ?z14 ?z15 ?z16
  (case a1=>k_is)
  (case l1=>k_is)
  (case c1=>k_is)
  (case k1=>k_is)
  (case a2=>k_is)
  (case l2=>k_is)
  (case c2=>k_is)
  (case k2=>k_is)
  (case a3=>k_is)
  (case l3=>k_is)
  (case c3=>k_is)
  (case k3=>k_is)
  (case a4=>k_is)
  (case l4=>k_is)
  (case c4=>k_is)
  (case k4=>k_is)
  (case a5=>k_is)
  (case l5=>k_is)
  (case c5=>k_is)
  (case k5=>k_is)
  (case a6=>k_is)
  (case l6=>k_is)
  (case c6=>k_is)
  (case k6=>k_is)
  (case a7=>k_is)
  (case l7=>k_is)
  (case c7=>k_is)
  (case k7=>k_is)
  (case a8=>k_is)
  (case l8=>k_is)
  (case c8=>k_is)
  (case k8=>k_is)
  (case a9=>k_is)
  (case l9=>k_is)
  (case c9=>k_is)
  (case k9=>k_is)
  (case a10=>k_is)
  (case l10=>k_is)
  (case c10=>k_is)
  (case k10=>k_is)
  (case a11=>k_is)
  (case l11=>k_is)
  (case c11=>k_is)
  (case k11=>k_is)
  (case a12=>k_is)
  (case l12=>k_is)
  (case c12=>k_is)
  (case k12=>k_is)
  (case a13=>k_is)
  (case l13=>k_is)
  (case c13=>k_is)
  (case k13=>k_is)
  (case a14=>k_is)
  (case l14=>k_is)
  (case c14=>k_is)
  (case k14=>k_is)
  (case a15=>k_is)
  (case l15=>k_is)
  (case c15=>k_is)
  (case k15=>k_is)
  (case a16=>k_is)
  (case l16=>k_is)
  (case c16=>k_is)
  (case k16=>k_is)
  (case a17=>k_is)
  (case l17=>k_is)
  (case c17=>k_is)
  (case k17=>k_is)
  (case a18=>k_is)
  (case l18=>k_is)
  (case c18=>k_is)
  (case k18=>k_is)
  (case a19=>k_is)
  (case l19=>k_is)
  (case c19=>k_is)
  (case k19=>k_is)
  (case a20=>k_is)
  (case l20=>k_is)
  (case c20=>k_is)
  (case k20=>k_is)
  (case a21=>k_is)
  (case l21=>k_is)
  (case c21=>k_is)
  (case k21=>k_is)
  (case a22=>k_is)
  (case l22=>k_is)
  (case c22=>k_is)
  (case k22=>k_is)
  (case a23=>k_is)
  (case l23=>k_is)
  (case c23=>k_is)
  (case k23=>k_is)
  (case a24=>k_is)
  (case l24=>k_is)
  (case c24=>k_is)
  (case k24=>k_is)
  (case a25=>k_is)
  (case l25=>k_is)
  (case c25=>k_is)
  (case k25=>k_is)
  (case a26=>k_is)
  (case l26=>k_is)
  (case c26=>k_is)
  (case k26=>k_is)
  (case a27=>k_is)
  (case l27=>k_is)
  (case c27=>k_is)
  (case k27=>k_is)
  (case a28=>k_is)
  (case l28=>k_is)
  (case c28=>k_is)
  (case k28=>k_is)
  (case a29=>k_is)
  (case l29=>k_is)
  (case c29=>k_is)
  (case k29=>k_is)
  (case a30=>k_is)
  (case l30=>k_is)
  (case c30=>k_is)
  (case k30=>k_is)
  (case a31=>k_is)
  (case l31=>k_is)
  (case c31=>k_is)
  (case k31=>k_is)
  (case a32=>k_is)
  (case l32=>k_is)
  (case c32=>k_is)
  (case k32=>k_is)
  (case a33=>k_is)
  (case l33=>k_is)
  (case c33=>k_is)
  (case k33=>k_is)
  (case a34=>k_is)
  (case l34=>k_is)
  (case c34=>k_is)
  (case k34=>k_is)
  (case a35=>k_is)
  (case l35=>k_is)
  (case c35=>k_is)
  (case k35=>k_is)
  (case a36=>k_is)
  (case l36=>k_is)
  (case c36=>k_is)
  (case k36=>k_is)
  (case a37=>k_is)
  (case l37=>k_is)
  (case c37=>k_is)
  (case k37=>k_is)
  (case a38=>k_is)
  (case l38=>k_is)
  (case c38=>k_is)
  (case k38=>k_is)
  (case a39=>k_is)
  (case l39=>k_is)
  (case c39=>k_is)
  (case k39=>k_is)
  (case a40=>k_is)
  (case l40=>k_is)
  (case c40=>k_is)
  (case k40=>k_is)
  (case a41=>k_is)
  (case l41=>k_is)
  (case c41=>k_is)
  (case k41=>k_is)
  (case y1=>k_is)
  (case y2=>k_is)
  (case lec1=>k_is)
  (case lec2=>k_is)
  (case lec11=>k_is)
  (case z1=>k_is)
  (case z2=>k_is)
  (case z3=>k_is)
  (case z4=>k_is)
  (case z5=>k_is)
  (case z6=>k_is)
  (case z7=>k_is)
  (case z8=>k_is)
  (case z9=>k_is)
  (case z10=>k_is)
  (case z11=>k_is)
  (case z12=>k_is)
  (case z13=>k_is)
  (case z14=>k_is)
  (case z15=>k_is)
  (case z16=>k_is)
