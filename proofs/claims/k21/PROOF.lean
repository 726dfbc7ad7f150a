import PyProof.Rows.All
import Wide.All
import OpenK.AllK
import Wide.FinOn
import Lean
import PyProof.EqAt
import PyProof.EqKinds
import PyProof.TupleCall
import PySem.Sem
import PySem.Builtin.Int.W1All
import PyProof.StrBlockI
import PyProof.StrBlock2
import PyProof.Rows.SortStr
import PyProof.TupleOfSeq
import PyProof.AttrMissHeap
import PyProof.TupleIter
import PyProof.DictUpdate
import PyProof.ListNew
import KE.KDictOf
import KE.KSortTup
import KE.KIntText
import PyProof.Rows.StrNews
import PyProof.Rows.StrItems
import PyProof.EnumMake
import PyProof.EnumFor
import PyProof.EnumStmt
import PyProof.EnumIter
import KE.KRevIter
import KE.KDictList
import PyProof.SetKind
import PyProof.DictKinds
import PyProof.SeqWrite
import PyProof.CollectWalk
import PyProof.FactsAll.set_1
import PyProof.FactsAll.set_2
import PyProof.FactsAll.set_3
import PyProof.Rows.SetFrom
import PyProof.Walks
import PyProof.WalksS
import PyProof.FactsAll.tuple_iterator
import PyProof.SetRoads
import PyProof.ZipIter
import PyProof.Rows.TupIter
import PyProof.TupleOfGen
import PyProof.Rows.SumAny
import KE.KDictLaws
import PyProof.Rows.SortWalk
import KE.KEqDict
import PyProof.AutoSeq1
import PyProof.StrLawsChain
import PyProof.StrLawsTight
import KE.IntTextLaws
import KE.IntTextText
import PyProof.Rows.CatFin
import PyProof.Rows.StrJoinRep
import PyProof.Rows.StrClip
import PySem.Challenge.RW_latewell_k21_works_read_and_shown
set_option Elab.async false
set_option linter.all false
set_option maxRecDepth 100000
set_option maxHeartbeats 4000000
noncomputable section
open PySem.W (Frag nsIn mg_of mg_none_of fnOf codeIn keepIn OpenLaw)
section
open PySem PyProof.Rows
abbrev qb:=@wpAny_bind
abbrev qc:=@wpAny_pure
abbrev qf:=@Heap.get?_push_of_some
abbrev qg:=@List.mem_cons_self
abbrev qh:=@List.mem_cons_of_mem
abbrev qi:=@Option.some.inj
abbrev qj:=@Nat.le_refl
abbrev qk:=@Heap.get?_push_size
abbrev qm:=@Heap.lt_size
abbrev qo:=@List.mem_append_right
abbrev qp:=@Bool.false_ne_true
abbrev qr:=@Nat.le_of_ble_eq_true
abbrev qt:=@Nat.lt_of_lt_of_le
abbrev qv:=@Nat.ne_of_lt
theorem qw{α:Type _}{a b:α}{l:List α}(h:a∈b::l):a=b\/a∈l:=List.mem_cons.mp h
theorem qx{α:Type _}{a:α}{l k:List α}(h:a∈l++k):a∈l\/a∈k:=List.mem_append.mp h
end
namespace L2
open PySem PySem.Spec PyProof.Rows
abbrev Key:=Sum Int Str
def V_5:Key->Value->Bool
 |.inl k,v=>Value.isInt k v
 |.inr x,v=>Value.isStrOf x v
def bT4 (w:World):Key->Int
 |.inl k=>hashInt k
 |.inr x=>hashStr w x
theorem e_4:∀ {k:Key}{v:Value},V_5 k v=true->(∃ i t,k=Sum.inl i/\v=Value.int i t)\/(∃ x t,k=Sum.inr x/\v=Value.str x t)
 |.inl i,v,h=>by
  obtain⟨t,e⟩:=Value.isInt_shape (k:=i) (v:=v) h;exact .inl ⟨i,t,rfl,e⟩
 |.inr x,v,h=>by
  obtain⟨t,e⟩:=Value.isStrOf_shape (x:=x) (v:=v) h;exact .inr ⟨x,t,rfl,e⟩
theorem ae9 (i:Int) (t:Tok):V_5 (.inl i) (.int i t)=true:=by simp[V_5,Value.isInt]
theorem ae8 (x:Str) (t:Tok):V_5 (.inr x) (.str x t)=true:=by simp[V_5,Value.isStrOf]
theorem bd5 (a b:Int):decide ((Sum.inl a:Key)=Sum.inl b)=(a==b):=by
 by_cases e:a=b
 ·subst e;simp
 ·have h:¬ (Sum.inl a:Key)=Sum.inl b:=λ q=>e (Sum.inl.inj q)
  rw[decide_eq_false h];exact (beq_eq_false_iff_ne.mpr e).symm
theorem bd2 (a b:Str):decide ((Sum.inr a:Key)=Sum.inr b)=decide (a=b):=by
 by_cases e:a=b
 ·subst e;simp
 ·have h:¬ (Sum.inr a:Key)=Sum.inr b:=λ q=>e (Sum.inr.inj q)
  rw[decide_eq_false h,decide_eq_false e]
theorem bd4 (a:Int) (b:Str):decide ((Sum.inl a:Key)=Sum.inr b)=false:=decide_eq_false (λ q=>nomatch q)
theorem bd3 (a:Str) (b:Int):decide ((Sum.inr a:Key)=Sum.inl b)=false:=decide_eq_false (λ q=>nomatch q)
def d_9 (prog:Program) (w:World):PySem.KeyKind prog w Key where
 is:=V_5
 hash:=bT4 w
 inj:=λ v a b ha hb=>by
  rcases e_4 ha with ⟨i,t,rfl,rfl⟩ | ⟨x,t,rfl,rfl⟩
  ·rcases e_4 hb with ⟨j,u,rfl,e⟩ | ⟨y,u,rfl,e⟩
   ·injection e with e1 _;rw[e1]
   ·exact nomatch e
  ·rcases e_4 hb with ⟨j,u,rfl,e⟩ | ⟨y,u,rfl,e⟩
   ·exact nomatch e
   ·injection e with e1 _;rw[e1]
 byValue:=λ k v h=>by
  rcases e_4 h with ⟨i,t,rfl,rfl⟩ | ⟨x,t,rfl,rfl⟩ <;> rfl
 pyHash:=λ hv h=>by
  rcases e_4 hv with ⟨i,t,rfl,rfl⟩ | ⟨x,t,rfl,rfl⟩
  ·exact wpAny_pyHash_int h
  ·exact wpAny_pyHash_str h
 eqBool:=λ hu hv h=>by
  rcases e_4 hu with ⟨i,t,rfl,rfl⟩ | ⟨x,t,rfl,rfl⟩
  ·rcases e_4 hv with ⟨j,u,rfl,rfl⟩ | ⟨y,u,rfl,rfl⟩
   ·rw[bd5] at h;exact wpAny_eqBool_int h
   ·rw[bd4] at h;exact SeqAt.EqAt.int_str i t y u _ _ _ _ h
  ·rcases e_4 hv with ⟨j,u,rfl,rfl⟩ | ⟨y,u,rfl,rfl⟩
   ·rw[bd3] at h;exact SeqAt.EqAt.str_int x t j u _ _ _ _ h
   ·rw[bd2] at h;exact wpAny_eqBool_str h
 «strs»:=λ k x t v h=>by
  rcases e_4 h with ⟨i,u,rfl,e⟩ | ⟨y,u,rfl,e⟩
  ·exact nomatch e
  ·injection e with e1 _
   subst e1;cases v <;> rfl
theorem L_0 (prog:Program) (w:World) (i:Int) (t:Tok):(d_9 prog w).is (.inl i) (.int i t)=true:=ae9 i t
theorem n_6 (prog:Program) (w:World) (x:Str) (t:Tok):(d_9 prog w).is (.inr x) (.str x t)=true:=ae8 x t
inductive V where
 |non | bl (b:Bool) | int (i:Int) | str (x:Str) | byt (b:Array UInt8) | flt (b:UInt64) | ref (a:Addr) | ty (n:String)
 deriving DecidableEq
def RelV:V->Value->Prop
 |.non,u=>u=Value.none
 |.bl b,u=>u=Value.bool b
 |.int i,u=>∃ t,u=Value.int i t
 |.str x,u=>∃ t,u=Value.str x t
 |.byt b,u=>∃ t,u=Value.bytes b t
 |.flt b,u=>∃ t,u=Value.float b t
 |.ref a,u=>u=Value.ref a
 |.ty n,u=>u=Value.type n
abbrev Vals:List V->List Value->Prop:=Paired RelV
theorem Vals.length {xs:List V}{us:List Value} (r:Vals xs us):xs.length=us.length:=Paired.length r
theorem Vals.get:∀ {xs:List V}{us:List Value}{i:Nat}{x:V},Vals xs us->xs[i]?=some x->∃ u,us[i]?=some u/\RelV x u
 |_,_,_,_,.nil,e=>by simp at e
 |_,_,0,_,.cons r _,e=>by simp at e;subst e;exact⟨_,rfl,r⟩
 |_,_,i+1,x,.cons _ t,e=>by
  obtain⟨u,h1,h2⟩:=Vals.get (i:=i) (x:=x) t (by simpa using e)
  exact⟨u,by simpa using h1,h2⟩
theorem Vals.set {x:V}{u:Value} (r:RelV x u):∀ {xs:List V}{us:List Value} (i:Nat),Vals xs us->Vals (xs.set i x) (us.set i u)
 |_,_,_,.nil=>.nil
 |_,_,0,.cons _ t=>.cons r t
 |_,_,i+1,.cons q t=>.cons q (Vals.set r i t)
theorem Vals.append:∀ {xs ys:List V}{us ws:List Value},Vals xs us->Vals ys ws->Vals (xs++ys) (us++ws)
 |_,_,_,_,.nil,s=>s
 |_,_,_,_,.cons r t,s=>.cons r (Vals.append t s)
theorem Vals.take:∀ {xs:List V}{us:List Value} (n:Nat),Vals xs us->Vals (xs.take n) (us.take n)
 |_,_,0,_=>.nil
 |_,_,_+1,.nil=>.nil
 |_,_,n+1,.cons r t=>.cons r (Vals.take n t)
theorem Vals.drop:∀ {xs:List V}{us:List Value} (n:Nat),Vals xs us->Vals (xs.drop n) (us.drop n)
 |_,_,0,r=>r
 |_,_,_+1,.nil=>.nil
 |_,_,n+1,.cons _ t=>Vals.drop n t
theorem Vals.none_of:∀ {xs:List V}{us:List Value}{i:Nat},Vals xs us->xs[i]?=none->us[i]?=none:=λ {xs us i} r e=>by
 have h1:=r.length;have h2:xs.length<=i:=List.getElem?_eq_none_iff.mp e;exact List.getElem?_eq_none_iff.mpr (by omega)
def RelO:Option V->Option Value->Prop
 |some v,some u=>RelV v u
 |none,none=>True
 |_,_=>False
def KV {κ:Type}:List (κ×V)->List (κ×Value)->Prop:=Paired λ (p:κ×V) (q:κ×Value)=>p.1=q.1/\RelV p.2 q.2
def kV:Key->V
 |.inl i=>.int i
 |.inr x=>.str x
inductive HO where
 |lst (xs:List V)
 |tup (xs:List V)
 |dK (kvs:List (Key×V)) | dT (kvs:List (List Key×V))
 |set (S:Int->Bool) (n:Nat)
 |ins (C dx:Addr) (fs:List (Str×V))
 |own (x:Addr)
 |xd (fs:List (Str×V))
 |met (f x:Addr)
 |rng (lo hi:Int)
 |frz (o:Obj) (u:HO)
 |tbl (ps:Array Value)
 |ext (φ:Heap->Prop)
abbrev Hp:=Addr->Option HO
def upd (H:Hp) (a:Addr) (o:HO):Hp:=λ b=>if b=a then some o else H b
theorem a_3 {H:Hp}{a:Addr}{o:HO}:upd H a o a=some o:=by unfold upd;rw[if_pos rfl]
theorem a_6 {H:Hp}{a b:Addr}{o:HO} (h:b≠a):upd H a o b=H b:=by unfold upd;rw[if_neg h]
theorem bv1 {H:Hp}{a b:Addr}{o u:HO} (h:H a=some o) (h':H b=some u) (d:o≠u):a≠b:=by
 intro e;subst e;rw[h] at h';exact d (qi h')
theorem b_1 {H:Hp}{a b:Addr}{o:HO} (h:H a=some o) (h':H b=none):a≠b:=by
 intro e;subst e;rw[h] at h';cases h'
def IsTuN (h:Heap) (a:Addr) (items:Array Value):Prop:=∃ o,h.get? a=some o ∧ o.cls=.type "tuple" ∧ (∃ n,o.data=.seq items n) ∧ o.dict=none
theorem IsTuN.tup {h:Heap}{a:Addr}{items:Array Value} (x:IsTuN h a items):IsTup h a items:=let ⟨o,p,q,⟨n,r⟩,_⟩:=x;⟨o,p,q,n,r⟩
theorem IsTuN.new (h:Heap) (items:Array Value):IsTuN (h.push {cls:=.type "tuple",data:=.seq items}) h.objs.size items:=⟨_,qk _ rfl,rfl,⟨0,rfl⟩,rfl⟩
section
variable (P:Program) (w:World)
def ObjOk (H:Hp) (h:Heap) (a:Addr):HO->Prop
 |.lst xs=>xs.length ≤ sizeLine ∧ ∃ (its:List Value) (n:Nat),Vals xs its ∧ h.get? a=some {cls:=.type "list",data:=.seq its.toArray n}
 |.tup xs=>xs.length<=sizeLine/\∃ its:List Value,Vals xs its/\IsTuN h a its.toArray
 |.dK kvs=>kvs.length<=sizeLine/\(a==sysModules)=false/\∃ vs,KV kvs vs/\h.DictOf (d_9 P w) a vs
 |.dT kvs=>kvs.length<=sizeLine/\(a==sysModules)=false/\∃ xs:List (List Key×Addr×Value),
   Paired (λ (p:List Key×V) (q:List Key×Addr×Value)=>p.1=q.1/\H q.2.1=some (.tup (p.1.map kV))/\RelV p.2 q.2.2) kvs xs /\
   ∃ o es ep,h.get? a=some o/\o.ExactDict/\o.data=.dict es ep/\es.toList=xs.map (entryOfKey (tupleKind (d_9 P w)))/\(xs.map (·.1)).Nodup
 |.set S n=>h.SetOf (intKind P w) a S n
 |.ins C dx fs=>H dx=some (.own a)/\fs.length<=1000/\dx≠a/\h.get? a=some (PySem.W.instObj C dx) /\
   ∃ mA,h.Ns1 dx mA/\(∀ f,RelO (fs.lookup f) (mA f))/\PySem.Within mA (fs.map (·.1))
 |.own _=>∃ o,h.get? a=some o
 |.xd fs=>∃ mA,h.Ns1 a mA/\∀ f,RelO (fs.lookup f) (mA f)
 |.rng lo hi=>∃ t u v,h.get? a=some {cls:=.type "range",data:=.fields #[.int lo t,.int hi u,.int 1 v]}
 |.frz o u=>h.get? a=some o/\ObjOk H h a u
 |.tbl ps=>h.get? a=some {cls:=.none,data:=.fields ps}
 |.met f x=>h.get? a=some (PySem.W.methodObj (.ref f) (.ref x))
 |.ext φ=>φ h/\(∃ o,h.get? a=some o)/\∀ h1 h2:Heap,φ h1->(∀ o,h1.get? a=some o->h2.get? a=some o)->φ h2
def HOk (H:Hp) (h:Heap):Prop:=∀ a o,H a=some o->ObjOk P w H h a o
end
section
variable {P:Program}{w:World}{H H':Hp}{h h':Heap}{a:Addr}{o:HO}
theorem ObjOk.lt (x:ObjOk P w H h a o):a<h.objs.size:=by
 cases o with
 |lst xs=>obtain⟨_,_,_,_,e⟩:=x;exact qm e
 |tup xs=>obtain⟨_,_,_,p⟩:=x;exact p.tup.lt
 |dK kvs=>obtain⟨_,_,_,_,o,_,_,e,_⟩:=x;exact qm e
 |dT kvs=>obtain⟨_,_,_,_,o,_,_,e,_⟩:=x;exact qm e
 |set S n=>obtain⟨o,_,_,_,e,_⟩:=x;exact qm e
 |ins C dx fs=>obtain⟨_,_,_,e,_⟩:=x;exact qm e
 |own y=>obtain⟨_,e⟩:=x;exact qm e
 |xd fs=>obtain⟨_,⟨_,_,_,e,_⟩,_⟩:=x;exact qm e
 |rng lo hi=>obtain⟨_,_,_,e⟩:=x;exact qm e
 |frz ob u=>obtain⟨e,_⟩:=x;exact qm e
 |tbl ps=>exact qm (show h.get? a=some _ from x)
 |met f y=>exact qm (show h.get? a=some _ from x)
 |ext φ=>obtain⟨_,⟨_,e⟩,_⟩:=x;exact qm e
theorem Paired.mapP {α β:Type}{F G:α->β->Prop}:∀ {l₁:List α}{l₂:List β},Paired F l₁ l₂->(∀ a b,F a b->G a b)->Paired G l₁ l₂
 |[],_,h,_=>by cases h;exact .nil
 |x::l,_,h,f=>by
  cases h with
  |cons r t=>exact .cons (f _ _ r) (Paired.mapP t f)
theorem ObjOk.stay (x:ObjOk P w H h a o) (k:∀ b u,(b=a\/H b=some (.own a))->h.get? b=some u->h'.get? b=some u)
  (ho:∀ b,H b=some (.own a)->H' b=some (.own a)) (ht:∀ b xs,H b=some (.tup xs)->H' b=some (.tup xs)):ObjOk P w H' h' a o:=by
 induction o with
 |lst xs=>obtain⟨z,its,n,r,e⟩:=x;exact⟨z,its,n,r,k _ _ (.inl rfl) e⟩
 |tup xs=>obtain⟨z,its,r,ob,e,c⟩:=x;exact⟨z,its,r,ob,k _ _ (.inl rfl) e,c⟩
 |dK kvs=>obtain⟨z,y,vs,r,ob,es,ep,e,c⟩:=x;exact⟨z,y,vs,r,ob,es,ep,k _ _ (.inl rfl) e,c⟩
 |dT kvs =>
  obtain⟨z,y,xs,r,ob,es,ep,e,c⟩:=x;exact⟨z,y,xs,Paired.mapP r λ p q z=>⟨z.1,ht _ _ z.2.1,z.2.2⟩,ob,es,ep,k _ _ (.inl rfl) e,c⟩
 |set S n=>obtain⟨ob,es,ep,t,e,c⟩:=x;exact⟨ob,es,ep,t,k _ _ (.inl rfl) e,c⟩
 |ins C dx fs =>
  obtain⟨d,z,ne,e,mA,⟨od,es,ep,e2,c⟩,r⟩:=x;exact⟨ho _ d,z,ne,k _ _ (.inl rfl) e,mA,⟨od,es,ep,k _ _ (.inr d) e2,c⟩,r⟩
 |own y=>obtain⟨ob,e⟩:=x;exact⟨ob,k _ _ (.inl rfl) e⟩
 |xd fs=>obtain⟨mA,⟨od,es,ep,e,c⟩,r⟩:=x;exact⟨mA,⟨od,es,ep,k _ _ (.inl rfl) e,c⟩,r⟩
 |rng lo hi=>obtain⟨t,u,v,e⟩:=x;exact⟨t,u,v,k _ _ (.inl rfl) e⟩
 |frz ob u ih=>obtain⟨e,q⟩:=x;exact⟨k _ _ (.inl rfl) e,ih q⟩
 |tbl ps =>
  have e:h.get? a=some {cls:=.none,data:=.fields ps}:=x;show h'.get? a=some {cls:=.none,data:=.fields ps};exact k a _ (.inl rfl) e
 |met f y =>
  have e:h.get? a=some (PySem.W.methodObj (.ref f) (.ref y)):=x;show h'.get? a=some (PySem.W.methodObj (.ref f) (.ref y));exact k a _ (.inl rfl) e
 |ext φ=>obtain⟨p,⟨o,e⟩,st⟩:=x;exact⟨st _ _ p λ o q=>k _ _ (.inl rfl) q,⟨o,k _ _ (.inl rfl) e⟩,st⟩
theorem HOk.lt (x:HOk P w H h) (e:H a=some o):a<h.objs.size:=(x a o e).lt
theorem HOk.fresh (x:HOk P w H h) (e:h.objs.size<=a):H a=none:=by
 cases q:H a with
 |none=>rfl
 |some u=>exact absurd (qt (x.lt q) e) (Nat.lt_irrefl _)
theorem HOk.kept (x:HOk P w H h) (k:∀ b u,h.get? b=some u->h'.get? b=some u):HOk P w H h':=λ a o e =>
 (x a o e).stay (λ b u _ q=>k b u q) (λ _ q=>q) λ _ _ q=>q
theorem HOk.laid (x:HOk P w H h) (k:∀ b u,h.get? b=some u->h'.get? b=some u) (hp:h.objs.size<=a) (new:ObjOk P w (upd H a o) h' a o):HOk P w (upd H a o) h':=λ b u e=>by
 have hn:=x.fresh hp
 by_cases hb:b=a
 ·subst hb;rw[a_3] at e;cases e;exact new
 ·rw[a_6 hb] at e
  exact (x b u e).stay (λ c v _ q=>k c v q) (λ c q=>by rw[a_6 (b_1 q hn)];exact q) λ c xs q=>by rw[a_6 (b_1 q hn)];exact q
end
def Rd (H:Hp) (a:Addr) (u:HO):Prop:=H a=some u\/∃ o,H a=some (.frz o u)
theorem Rd.of {H:Hp}{a:Addr}{u:HO} (h:H a=some u):Rd H a u:=.inl h
theorem Rd.ok {P:Program}{w:World}{H:Hp}{h:Heap}{a:Addr}{u:HO} (r:Rd H a u) (x:HOk P w H h):ObjOk P w H h a u:=by
 rcases r with r | ⟨o,r⟩
 ·exact x a u r
 ·obtain⟨_,q⟩:=x a _ r
  exact q
def Mut:Option HO->Prop
 |some (.lst _)=>True
 |some (.dK _)=>True
 |some (.dT _)=>True
 |some (.set _ _)=>True
 |some (.ins _ _ _)=>True
 |some (.ext _)=>True
 |_=>False
section
variable {P:Program}{w:World}{H:Hp}{h h':Heap}{x e:Addr}{o':HO}
theorem HOk.write (ok:HOk P w H h) (mu:Mut (H x)) (he:e=x\/H e=some (.own x)) (k:∀ b u,b≠e->h.get? b=some u->h'.get? b=some u) (heo:∃ u,h'.get? e=some u)
  (new:ObjOk P w (upd H x o') h' x o'):HOk P w (upd H x o') h':=λ b u q=>by
 have nown:∀ c y,H c=some (.own y)->c≠x:=λ c y r z=>by subst z;rw[r] at mu;exact mu
 have ntup:∀ c xs,H c=some (.tup xs)->c≠x:=λ c xs r z=>by subst z;rw[r] at mu;exact mu
 by_cases hb:b=x
 ·subst hb;rw[a_3] at q;cases q;exact new
 ·rw[a_6 hb] at q
  by_cases hbe:b=e
  ·have q':H b=some (.own x):=by
    rcases he with z | z
    ·exact absurd (hbe.trans z) hb
    ·rw[hbe];exact z
   rw[q] at q';cases q';obtain⟨v,hv⟩:=heo;exact⟨v,by rw[hbe];exact hv⟩
  ·refine (ok b u q).stay (λ c v hc r=>k c v ?_ r) (λ c r=>by rw[a_6 (nown c b r)];exact r) λ c xs r=>by rw[a_6 (ntup c xs r)];exact r
   rcases hc with rfl | hc
   ·exact hbe
   ·rintro rfl
    rcases he with z | z
    ·exact nown c b hc z
    ·rw[hc] at z;cases z;exact hb rfl
end
structure Un (fs ex:List Addr) (H H':Hp) (h h':Heap):Prop where
 keep:∀ b o,h.get? b=some o->H b=none->b∉fs->b∉ex->h'.get? b=some o
 slot:∀ b o,h.get? b=some o->H b=none->b∈fs->b∉ex->∃ sl,h'.get? b=some {o with slots:=sl}
 free:∀ b o,h.get? b=some o->H b=none->b∉ex->H' b=none
 there:∀ b o,h.get? b=some o->b∉ex->∃ o',h'.get? b=some o'
 tups:∀ b xs,H b=some (.tup xs)->H' b=some (.tup xs)
 frzs:∀ b o u,H b=some (.frz o u)->H' b=some (.frz o u)
 tbls:∀ b ps,H b=some (.tbl ps)->∃ more,H' b=some (.tbl (ps++more))
section
variable {fs fs' ex ex':List Addr}{H H1 H2:Hp}{h h1 h2 h':Heap}{a x e:Addr}{o:HO}
theorem Un.any (u:Un fs ex H H1 h h1) {b:Addr}{ob:Obj} (q:h.get? b=some ob) (n:H b=none) (hx:b∉ex):∃ sl,h1.get? b=some {ob with slots:=sl}:=by
 by_cases hb:b∈fs
 ·exact u.slot b ob q n hb hx
 ·exact⟨ob.slots,u.keep b ob q n hb hx⟩
theorem Un.kept (k:∀ b u,h.get? b=some u->h'.get? b=some u):Un fs ex H H h h' :=
 ⟨λ b ob q _ _ _=>k b ob q,λ b ob q _ _ _=>⟨ob.slots,k b ob q⟩,λ _ _ _ n _=>n,λ b ob q _=>⟨ob,k b ob q⟩,λ _ _ q=>q,λ _ _ _ q=>q,λ _ ps q=>⟨#[],by rw[q];simp⟩⟩
theorem Un.refl:Un fs ex H H h h:=Un.kept λ _ _ q=>q
theorem Un.laid (k:∀ b u,h.get? b=some u->h'.get? b=some u) (hp:h.objs.size<=a) (hn:H a=none):Un fs ex H (upd H a o) h h' where
 keep:=λ b u q _ _ _=>k b u q
 slot:=λ b u q _ _ _=>⟨u.slots,k b u q⟩
 free:=λ b u q n _=>by rw[a_6 (Nat.ne_of_lt (Nat.lt_of_lt_of_le (Heap.lt_size q) hp))];exact n
 there:=λ b u q _=>⟨u,k b u q⟩
 tups:=λ b xs q=>by rw[a_6 (b_1 q hn)];exact q
 frzs:=λ b u xs q=>by rw[a_6 (b_1 q hn)];exact q
 tbls:=λ b ps q=>⟨#[],by rw[a_6 (b_1 q hn),q];simp⟩
theorem Un.write (mu:Mut (H x)) (he:e=x\/H e=some (.own x)) (k:∀ b u,b≠e->h.get? b=some u->h'.get? b=some u) (heo:∃ u,h'.get? e=some u):Un fs ex H (upd H x o) h h':=by
 have hx:∀ b,H b=none->b≠x:=λ b n z=>by subst z;rw[n] at mu;exact mu
 have hb:∀ b,H b=none->b≠e:=λ b n z=>by
  subst z
  rcases he with r | r
  ·exact hx b n r
  ·rw[n] at r;cases r
 have hm:∀ b u,H b=some u->¬ Mut (some u)->b≠x:=λ b u q nm z=>by subst z;rw[q] at mu;exact nm mu
 refine⟨λ b u q n _ _=>k b u (hb b n) q,λ b u q n _ _=>⟨u.slots,k b u (hb b n) q⟩,λ b u q n _=>by rw[a_6 (hx b n)];exact n,λ b u q _=>?_,
  λ b xs q=>by rw[a_6 (hm b _ q λ z=>z)];exact q,λ b u xs q=>by rw[a_6 (hm b _ q λ z=>z)];exact q,λ b ps q=>⟨#[],by rw[a_6 (hm b _ q λ z=>z),q];simp⟩⟩
 by_cases hbe:b=e
 ·subst hbe;exact heo
 ·exact⟨u,k b u hbe q⟩
theorem Un.mono (u:Un fs ex H H1 h h1) (hs:∀ b∈fs,b∈fs') (hx:∀ b∈ex,b∈ex'):Un fs' ex' H H1 h h1 :=
 ⟨λ b ob q n hb he=>u.keep b ob q n (λ z=>hb (hs b z)) λ z=>he (hx b z),λ _ _ q n _ he=>u.any q n λ z=>he (hx _ z),λ b ob q n he=>u.free b ob q n λ z=>he (hx b z),λ b ob q he=>u.there b ob q λ z=>he (hx b z),u.tups,u.frzs,u.tbls⟩
end
def trk (h:Heap) (H:Hp):List Addr:=(List.range h.objs.size).filter λ a=>(H a).isSome
def au8 (h:Heap) (H:Hp):Heap:=PySem.W.hideAll h (trk h H)
theorem af9 (h:Heap) (H:Hp):(au8 h H).objs.size=h.objs.size:=PySem.W.hideAll_size _ _
theorem au7 {h:Heap}{H:Hp}{b:Addr}{o:Obj} (e:h.get? b=some o) (n:H b=none):(au8 h H).get? b=some o :=
 PySem.W.hideAll_get _ e λ hm=>by
  have q:(H b).isSome=true:=(List.mem_filter.mp hm).2;rw[n] at q;simp at q
theorem aJ8 {h:Heap}{H:Hp}{b:Addr}{o:Obj} (e:(au8 h H).get? b=some o):h.get? b=some o/\H b=none:=by
 have e':h.get? b=some o:=PySem.W.of_hideAll (trk h H) e;refine⟨e',?_⟩;cases q:H b with
 |none=>rfl
 |some x =>
  have hm:b∈trk h H:=List.mem_filter.mpr ⟨List.mem_range.mpr (qm e'),by simp[q]⟩
  have z:(au8 h H).get? b=none:=PySem.W.hideAll_none (trk h H) hm;rw[z] at e;cases e
def aS5 (g h:Heap) (L:Addr):List (Addr×Obj):=(List.range h.objs.size).filterMap λ a=>if a=L\/(g.get? a).isSome=true then none else (h.get? a).map λ o=>(a,o)
def rest (g h:Heap) (L d:Addr):List (Addr×Obj):=(aS5 g h L).filter λ p=>decide (p.1≠d)
structure Mod (K:Frag) (mg:Str->Option Value) (base:Heap):Prop where
 kin:K.In base
 glob:base.Ns mainGlobals mg
 blt:∃ mb,base.Ns builtinsNs mb ∧ ∀ x:Str,x≠"__name__" → mb x=bootBuiltins x
 nolimit:base.NoLimit
structure Cx where
 prog:Program
 w:World
 K:Frag
 mg:Str->Option Value
 base:Heap
 A:Around
 N:List Str
 s₀:Shared
 H₀:Hp
 env:Env
 outer:List Env
 stack:List Env
 ex:List Addr
 fn:Str->Bool
 calm:Bool
 pn:List (Addr×Obj)
 xe:Value->Shared->Prop
def frs (l:List Env):List Addr:=l.filterMap (·.frame)
abbrev Cx.fs (X:Cx):List Addr:=frs X.outer
def Vis (sc:Scope) (x:Str):Prop:=sc.names.lookup x=some .local\/sc.names.lookup x=some .cell\/sc.names.lookup x=some .free
def Loc (sc:Scope) (x:Str):Prop:=sc.names.lookup x=some .local\/sc.names.lookup x=some .cell
def bX2 (env:Env) (h:Heap) (m:Str->Option Value) (x:Str) (u:Value):Prop :=
 (env.kindOf x=some .local/\m x=some u)\/((env.kindOf x=some .cell\/env.kindOf x=some .free)/\∃ c,env.cells.lookup x=some c/\h.IsCell c (some u))
structure Cx.Ok (X:Cx):Prop where
 mod:Mod X.K X.mg X.base
 kind:X.env.scope.kind=.function
 glob:X.env.globals=mainGlobals
 blt:X.env.builtins=builtinsNs
 above:X.s₀.heap.objs.size<=X.env.locals
 inj:∀ x y c,X.env.cells.lookup x=some c->X.env.cells.lookup y=some c->x=y
 has:∀ x,(X.env.kindOf x=some .cell\/X.env.kindOf x=some .free)->∃ c,X.env.cells.lookup x=some c
 cab:∀ x c,X.fn x=true->X.env.cells.lookup x=some c->X.s₀.heap.objs.size<=c
 hd:X.calm=true->X.A.handled=none
 frames:X.A.frames=some X.stack
 stk:X.stack=X.outer\/(X.stack=X.env::X.outer/\X.env.frame=some X.env.locals)
 exf:∀ b∈X.ex,b≠X.env.locals/\∀ x c,X.env.cells.lookup x=some c->c≠b
 bs:∀ b o,X.base.get? b=some o->X.s₀.heap.get? b=some o/\X.H₀ b=none
 bsz:X.base.objs.size<=X.s₀.heap.objs.size
 noex:∀ b o,X.base.get? b=some o->b∉X.ex
 exfs:∀ b∈X.ex,b∉X.fs
 funs:X.s₀.heap.FunFrames X.base X.outer
 frf:∀ b∈X.fs,X.H₀ b=none
structure Inv (X:Cx) (pins:List (Addr×Obj)) (σ:List (Option V)) (H:Hp) (s:Shared):Prop where
 ok:X.Ok
 os:s.os=X.s₀.os
 bare:AllBare s.gens
 base:Un X.fs X.ex X.H₀ H X.s₀.heap s.heap
 loc:∃ m,s.heap.Ns X.env.locals m/\∀ (i:Nat) (x:Str) (v:V),X.N[i]?=some x->σ[i]?=some (some v)->Vis X.env.scope x->∃ u,RelV v u/\bX2 X.env s.heap m x u
 cell:∀ x c,X.env.cells.lookup x=some c->∃ v,s.heap.IsCell c v
 free:H X.env.locals=none
 freeC:∀ x c,X.env.cells.lookup x=some c->H c=none
 pin:∀ p∈X.pn++pins,s.heap.get? p.1=some p.2/\H p.1=none/\p.1≠X.env.locals/\p.1∉X.fs/\∀ v,p.2.data≠.cell v
 hok:HOk X.prog X.w H s.heap
 len:σ.length=X.N.length
section
variable {X:Cx}{pins:List (Addr×Obj)}{σ:List (Option V)}{H H':Hp}{s:Shared}{h':Heap}
theorem Cx.Ok.nofr (ok:X.Ok) {b:Addr}{o:Obj} (e:X.base.get? b=some o):b∉X.fs:=λ hb=>by
 have:=(ok.funs.mem hb).1;rw[e] at this;cases this
theorem Inv.bs (I:Inv X pins σ H s):∀ b o,X.base.get? b=some o->s.heap.get? b=some o/\H b=none:=λ b o e =>
 ⟨I.base.keep b o (I.ok.bs b o e).1 (I.ok.bs b o e).2 (I.ok.nofr e) (I.ok.noex b o e),I.base.free b o (I.ok.bs b o e).1 (I.ok.bs b o e).2 (I.ok.noex b o e)⟩
theorem Inv.bk (I:Inv X pins σ H s):∀ b o,X.base.get? b=some o->s.heap.get? b=some o:=λ b o e=>(I.bs b o e).1
theorem Inv.mod (I:Inv X pins σ H s):Mod X.K X.mg X.base:=I.ok.mod
theorem Inv.kIn (I:Inv X pins σ H s):X.K.In s.heap:=I.ok.mod.kin.keeps I.bk
theorem Inv.nolimit (I:Inv X pins σ H s):s.heap.NoLimit:=I.ok.mod.nolimit.keeps I.bk
theorem Inv.fr (I:Inv X pins σ H s):∃ m,Fr X.base X.env.locals s.heap m :=
 let ⟨m,hn,_⟩:=I.loc
 ⟨m,hn,I.bk,Nat.le_trans I.ok.bsz I.ok.above⟩
theorem Inv.lt (I:Inv X pins σ H s):X.env.locals<s.heap.objs.size:=let ⟨_,hn,_⟩:=I.loc;hn.lt
theorem Inv.sz (I:Inv X pins σ H s):X.s₀.heap.objs.size<=s.heap.objs.size:=Nat.le_trans I.ok.above (Nat.le_of_lt I.lt)
theorem Inv.nofs (I:Inv X pins σ H s) {a:Addr} (h:s.heap.objs.size<=a):a∉X.fs:=λ hb=>by
 obtain⟨_,o,ho,_⟩:=I.ok.funs.mem hb;exact absurd (qt (qm ho) (Nat.le_trans I.sz h)) (Nat.lt_irrefl _)
theorem Inv.cne (I:Inv X pins σ H s):∀ x c,X.env.cells.lookup x=some c->c≠X.env.locals:=λ x c e z=>by
 obtain⟨v,o,ho,hd⟩:=I.cell x c e;obtain⟨m,⟨o',es,ep,ho',hd',_⟩,_⟩:=I.loc;rw[z,ho'] at ho;cases ho;rw[hd'] at hd;cases hd
theorem Inv.funs (I:Inv X pins σ H s):s.heap.FunFrames X.base X.outer:=by
 have all:∀ (l:List Env),(∀ b∈frs l,b∈X.fs)->X.s₀.heap.FunFrames X.base l->s.heap.FunFrames X.base l:=by
  intro l
  induction l with
  |nil=>intro _ _;trivial
  |cons env r ih =>
   intro hs hl;obtain⟨hk,⟨L,o,hf,hn,ho,hd⟩,hr⟩:=hl;have hL:L∈X.fs:=hs L (by unfold frs;rw[List.filterMap_cons,hf];exact qg)
   obtain⟨sl,e⟩:=I.base.slot L o ho (I.ok.frf L hL) hL λ z=>I.ok.exfs L z hL
   exact⟨hk,⟨L,_,hf,hn,e,hd⟩,ih (λ b hb=>hs b (by unfold frs;rw[List.filterMap_cons,hf];exact qh _ hb)) hr⟩
 exact all X.outer (λ _ hb=>hb) I.ok.funs
theorem Inv.stack (I:Inv X pins σ H s):s.heap.FunFrames X.base X.stack:=by
 rcases I.ok.stk with e | ⟨e,hf⟩
 ·rw[e];exact I.funs
 ·rw[e]
  obtain⟨m,hn,_⟩:=I.loc;refine .cons (by rw[I.ok.kind];decide) hf hn ?_ I.funs
  exact Heap.get?_none_of_le (Nat.le_trans I.ok.bsz I.ok.above)
theorem Inv.stkSub (I:Inv X pins σ H s):∀ b∈frs X.stack,b∈X.env.locals::X.fs:=λ b hb=>by
 rcases I.ok.stk with e | ⟨e,hf⟩
 ·rw[e] at hb;exact qh _ hb
 ·rw[e] at hb
  unfold frs at hb;rw[List.filterMap_cons,hf] at hb;exact hb
theorem Inv.stkFree (I:Inv X pins σ H s):∀ b∈frs X.stack,H b=none:=λ b hb=>by
 rcases qw (I.stkSub b hb) with e | hb
 ·rw[e];exact I.free
 ·obtain⟨_,o,ho,_⟩:=I.ok.funs.mem hb
  exact I.base.free b o ho (I.ok.frf b hb) λ z=>I.ok.exfs b z hb
theorem Inv.step {g':Array GenState}{t':Nat}{d':Drawn}{ch:List Addr} (I:Inv X pins σ H s)
  (hch:∀ b∈ch,(b∈X.ex\/X.s₀.heap.objs.size<=b)/\b≠X.env.locals/\(∀ x c,X.env.cells.lookup x=some c->c≠b)/\∀ p∈X.pn++pins,p.1≠b)
  (keep:∀ b o,b≠X.env.locals->b∉X.fs->b∉ch->s.heap.get? b=some o->H b=none->h'.get? b=some o)
  (slot:∀ b o,b≠X.env.locals->b∈X.fs->b∉ch->s.heap.get? b=some o->H b=none->∃ sl,h'.get? b=some {o with slots:=sl}) (free:∀ b o,b∉ch->s.heap.get? b=some o->H b=none->H' b=none)
  (there:∀ b o,b∉ch->s.heap.get? b=some o->∃ o',h'.get? b=some o')
  (tups:∀ b xs,H b=some (.tup xs)->H' b=some (.tup xs)) (frzs:∀ b o u,H b=some (.frz o u)->H' b=some (.frz o u)) (tbls:∀ b ps,H b=some (.tbl ps)->∃ more,H' b=some (.tbl (ps++more)))
  (ns:∀ m,s.heap.Ns X.env.locals m->h'.Ns X.env.locals m) (hok:HOk X.prog X.w H' h') (hg:AllBare g') :
  Inv X pins σ H' {s with heap:=h',gens:=g',drawn:=d',toks:=t'}:=by
 have neL:∀ b o,X.s₀.heap.get? b=some o->b≠X.env.locals:=λ b o e=>qv (qt (qm e) I.ok.above)
 have neC:∀ b o,X.s₀.heap.get? b=some o->b∉X.ex->b∉ch:=λ b o e hx hb=>by
  rcases (hch b hb).1 with z | z
  ·exact hx z
  ·exact absurd (qt (qm e) z) (Nat.lt_irrefl _)
 have cellK:∀ x c,X.env.cells.lookup x=some c->∀ v,s.heap.IsCell c v->h'.IsCell c v:=λ x c e v hh0_=>by
  obtain⟨o,ho,hd⟩:=hh0_;have nch:c∉ch:=λ z=>(hch c z).2.2.1 x c e rfl
  by_cases hc:c∈X.fs
  ·obtain⟨sl,q⟩:=slot c o (I.cne x c e) hc nch ho (I.freeC x c e)
   exact⟨_,q,hd⟩
  ·exact⟨o,keep c o (I.cne x c e) hc nch ho (I.freeC x c e),hd⟩
 refine⟨I.ok,I.os,hg,⟨λ b o e n hb hx=>?_,λ b o e n hb hx=>?_,λ b o e n hx=>?_,λ b o e hx=>?_,λ b xs e=>tups b xs (I.base.tups b xs e),λ b o xs e=>frzs b o xs (I.base.frzs b o xs e),λ b ps e=>?_⟩,?_,λ x c e=>?_,?_,λ x c e=>?_,λ p hp=>?_,hok,I.len⟩
 ·exact keep b o (neL b o e) hb (neC b o e hx) (I.base.keep b o e n hb hx) (I.base.free b o e n hx)
 ·obtain⟨sl,e1⟩:=I.base.slot b o e n hb hx
  obtain⟨sl',e2⟩:=slot b _ (neL b o e) hb (neC b o e hx) e1 (I.base.free b o e n hx);exact⟨sl',e2⟩
 ·obtain⟨o',e1⟩:=I.base.there b o e hx
  exact free b o' (neC b o e hx) e1 (I.base.free b o e n hx)
 ·obtain⟨o',e1⟩:=I.base.there b o e hx
  exact there b o' (neC b o e hx) e1
 ·obtain⟨m1,e1⟩:=I.base.tbls b ps e
  obtain⟨m2,e2⟩:=tbls b _ e1;exact⟨m1++m2,by rw[e2,Array.append_assoc]⟩
 ·obtain⟨m,hn,hl⟩:=I.loc
  refine⟨m,ns m hn,λ i x v e1 e2 e3=>?_⟩
  obtain⟨u,r,l⟩:=hl i x v e1 e2 e3;refine⟨u,r,?_⟩
  rcases l with l | ⟨k,c,e,z⟩
  ·exact .inl l
  ·exact .inr ⟨k,c,e,cellK x c e _ z⟩
 ·obtain⟨v,z⟩:=I.cell x c e
  exact⟨v,cellK x c e v z⟩
 ·obtain⟨m,⟨o,_,_,ho,_⟩,_⟩:=I.loc
  exact free _ o (λ z=>(hch _ z).2.1 rfl) ho I.free
 ·obtain⟨v,o,ho,hd⟩:=I.cell x c e
  exact free c o (λ z=>(hch c z).2.2.1 x c e rfl) ho (I.freeC x c e)
 ·obtain⟨e,n,ne,nf,d⟩:=I.pin p hp
  have nch:p.1∉ch:=λ z=>(hch p.1 z).2.2.2 p hp rfl
  exact⟨keep p.1 p.2 ne nf nch e n,free p.1 p.2 nch e n,ne,nf,d⟩
theorem Inv.un {t':Nat} (I:Inv X pins σ H s) (u:Un X.fs [] H H' s.heap h') (hok:HOk X.prog X.w H' h'):Inv X pins σ H' {s with heap:=h',toks:=t'}:=by
 obtain⟨m,⟨o,es,ep,ho,r⟩,_⟩:=id I.loc;obtain⟨sl,hL⟩:=u.any ho I.free (by simp)
 exact I.step (g':=s.gens) (d':=s.drawn) (ch:=[]) (λ _ z=>nomatch z) (λ b o _ hb _ e n=>u.keep b o e n hb (by simp)) (λ b o _ hb _ e n=>u.slot b o e n hb (by simp)) (λ b o _ e n=>u.free b o e n (by simp)) (λ b o _ e=>u.there b o e (by simp)) u.tups u.frzs u.tbls (λ m' hm=>by
  obtain⟨o',es',ep',ho',r'⟩:=hm;rw[ho] at ho';cases ho';exact⟨_,es',ep',hL,r'⟩) hok I.bare
theorem Inv.call {g':Array GenState}{t':Nat}{d':Drawn}{ch:List Addr} (I:Inv X pins σ H s) (u:Un (frs X.stack) ch H H' s.heap h') (hok:HOk X.prog X.w H' h') (hg:AllBare g')
  (hch:∀ b∈ch,(b∈X.ex\/X.s₀.heap.objs.size<=b)/\b≠X.env.locals/\(∀ x c,X.env.cells.lookup x=some c->c≠b)/\∀ p∈X.pn++pins,p.1≠b) :
  Inv X pins σ H' {s with heap:=h',gens:=g',drawn:=d',toks:=t'}:=by
 obtain⟨m,⟨o,es,ep,ho,r⟩,_⟩:=id I.loc;obtain⟨sl,hL⟩:=u.any ho I.free λ z=>(hch _ z).2.1 rfl
 exact I.step (ch:=ch) hch (λ b o hL hb hc e n=>u.keep b o e n (λ z=>(qw (I.stkSub b z)).elim hL hb) hc) (λ b o _ _ hc e n=>u.any e n hc) (λ b o hc e n=>u.free b o e n hc) (λ b o hc e=>u.there b o e hc) u.tups u.frzs u.tbls (λ m' hm=>by
  obtain⟨o',es',ep',ho',r'⟩:=hm;rw[ho] at ho';cases ho';exact⟨_,es',ep',hL,r'⟩) hok hg
theorem Inv.turned {t':Nat}{it:Addr} (I:Inv X pins σ H s) (k:∀ b o,b≠it->s.heap.get? b=some o->h'.get? b=some o) (hn:H it=none) (hL:it≠X.env.locals)
  (h1:it∈X.ex\/X.s₀.heap.objs.size<=it) (h2:∀ x c,X.env.cells.lookup x=some c->c≠it) (h3:∀ p∈X.pn++pins,p.1≠it):Inv X pins σ H {s with heap:=h',toks:=t'}:=by
 have nit:∀ b u,H b=some u->b≠it:=λ b u e z=>by rw[z,hn] at e;cases e
 refine I.step (g':=s.gens) (d':=s.drawn) (ch:=[it]) (λ b hb=>?_) (λ b o _ _ hc e _=>k b o (λ z=>hc (by simp[z])) e) (λ b o _ _ hc e _=>⟨o.slots,k b o (λ z=>hc (by simp[z])) e⟩) (λ _ _ _ _ n=>n)
  (λ b o hc e=>⟨o,k b o (λ z=>hc (by simp[z])) e⟩) (λ _ _ e=>e) (λ _ _ _ e=>e) (λ b ps e=>⟨#[],by rw[e];simp⟩) (λ m hm=>?_) (λ b u e=>?_) I.bare
 ·have e:b=it:=by simpa using hb
  subst e;exact⟨h1,hL,h2,h3⟩
 ·obtain⟨o,es,ep,ho,r⟩:=hm
  exact⟨o,es,ep,k _ o (Ne.symm hL) ho,r⟩
 ·refine (I.hok b u e).stay (λ c v hc q=>k c v ?_ q) (λ _ q=>q) λ _ _ q=>q
  rcases hc with z | z
  ·rw[z];exact nit b u e
  ·exact nit c _ z
theorem Inv.tok (I:Inv X pins σ H s) (t:Nat):Inv X pins σ H {s with toks:=t}:=I.un (h':=s.heap) (t':=t) Un.refl I.hok
theorem Inv.kept {t':Nat} (I:Inv X pins σ H s) (k:∀ b u,s.heap.get? b=some u->h'.get? b=some u):Inv X pins σ H {s with heap:=h',toks:=t'}:=I.un (Un.kept k) (I.hok.kept k)
theorem Inv.laid {a:Addr}{o:HO}{t':Nat} (I:Inv X pins σ H s) (k:∀ b u,s.heap.get? b=some u->h'.get? b=some u) (hp:s.heap.objs.size<=a) (new:ObjOk X.prog X.w (upd H a o) h' a o) :
  Inv X pins σ (upd H a o) {s with heap:=h',toks:=t'}:=I.un (Un.laid k hp (I.hok.fresh hp)) (I.hok.laid k hp new)
theorem Inv.write {x e:Addr}{o:HO}{t':Nat} (I:Inv X pins σ H s) (mu:Mut (H x)) (he:e=x\/H e=some (.own x)) (k:∀ b u,b≠e->s.heap.get? b=some u->h'.get? b=some u) (heo:∃ u,h'.get? e=some u)
  (new:ObjOk X.prog X.w (upd H x o) h' x o):Inv X pins σ (upd H x o) {s with heap:=h',toks:=t'}:=I.un (Un.write mu he k heo) (I.hok.write mu he k heo new)
theorem Inv.weak {σ':List (Option V)} (I:Inv X pins σ H s) (hl:σ'.length=σ.length) (w:∀ (i:Nat) v,σ'[i]?=some (some v)->σ[i]?=some (some v)):Inv X pins σ' H s :=
 ⟨I.ok,I.os,I.bare,I.base,let ⟨m,hn,hl'⟩:=I.loc;⟨m,hn,λ i x v e1 e2 e3=>hl' i x v e1 (w i v e2) e3⟩,I.cell,I.free,I.freeC,I.pin,I.hok,hl.trans I.len⟩
theorem Inv.pins_of {pins':List (Addr×Obj)} (I:Inv X pins σ H s) (h:∀ p∈pins',s.heap.get? p.1=some p.2/\H p.1=none/\p.1≠X.env.locals/\p.1∉X.fs/\∀ v,p.2.data≠.cell v):Inv X pins' σ H s :=
 ⟨I.ok,I.os,I.bare,I.base,I.loc,I.cell,I.free,I.freeC,λ p hp=>(qx hp).elim (λ z=>I.pin p (List.mem_append_left _ z)) (h p),I.hok,I.len⟩
theorem P_7 {N:List Str} (hN:N.Nodup) {i j:Nat}{x:Str} (a:N[i]?=some x) (b:N[j]?=some x):i=j:=by
 obtain⟨h1,e1⟩:=List.getElem?_eq_some_iff.mp a;obtain⟨h2,e2⟩:=List.getElem?_eq_some_iff.mp b;exact (List.getElem_inj hN).mp (e1.trans e2.symm)
theorem D_3 {M:Model}{A:Around}{E:Value->Shared->Prop}{i:Nat}{x:Str}{v:V}{u:Value}{Q:Unit->Shared->Prop} (I:Inv X pins σ H s) (hN:X.N.Nodup) (hi:X.N[i]?=some x) (hx:Loc X.env.scope x) (r:RelV v u)
  (h:∀ s',Inv X pins (σ.set i (some v)) H s'->(∃ a,Heap.SameBut a s.heap s'.heap/\(a=X.env.locals\/X.env.cells.lookup x=some a))->Q () s') (hf:X.fn x=true\/X.env.scope.names.lookup x=some .local:=by first | exact .inl rfl | exact .inr rfl | assumption):wpAny M A (storeName X.env x u) Q E s:=by
 obtain⟨m,hn,hl⟩:=id I.loc;have hcls:(X.env.scope.kind==.class||(X.env.scope.kind==.module&&X.env.locals != X.env.globals))=false:=by rw[I.ok.kind];rfl
 have hiσ:i<σ.length:=by rw[I.len];exact (List.getElem?_eq_some_iff.mp hi).1
 have cne:=I.cne
 have tracked:∀ {a:Addr}{h':Heap},(∃ o,s.heap.get? a=some o/\H a=none)->Heap.SameBut a s.heap h'->HOk X.prog X.w H h':=λ {a h'} ha hs b ob e=>by
  obtain⟨_,_,hfree⟩:=ha;refine (I.hok b ob e).stay (λ c w' hc q=>(hs.2 c ?_).trans q) (λ _ q=>q) λ _ _ q=>q
  rintro rfl
  rcases hc with rfl | hc
  ·rw[hfree] at e;cases e
  ·rw[hfree] at hc;cases hc
 rcases hx with hk | hk
 ·refine wpAny_storeName_local hk hn (λ h' hn' hs=>?_) hcls
  obtain⟨oL,_,_,hoL,_⟩:=id hn;refine h _ ⟨I.ok,I.os,I.bare,⟨λ b o e n hb hx=>?_,λ b o e n hb hx=>?_,I.base.free,λ b o e hx=>?_,I.base.tups,I.base.frzs,I.base.tbls⟩,⟨_,hn',λ j y v' e1 e2 e3=>?_⟩,λ y c e=>?_,I.free,I.freeC,λ p hp=>?_,tracked ⟨oL,hoL,I.free⟩ hs,by simpa using I.len⟩ ⟨_,hs,.inl rfl⟩
  ·exact (hs.2 b (qv (qt (qm e) I.ok.above))).trans (I.base.keep b o e n hb hx)
  ·obtain⟨sl,e1⟩:=I.base.slot b o e n hb hx
   exact⟨sl,(hs.2 b (qv (qt (qm e) I.ok.above))).trans e1⟩
  ·obtain⟨o',e1⟩:=I.base.there b o e hx
   exact⟨o',(hs.2 b (qv (qt (qm e) I.ok.above))).trans e1⟩
  ·by_cases hj:j=i
   ·subst hj
    rw[hi] at e1;cases e1;rw[List.getElem?_set_self hiσ] at e2;cases e2;exact⟨u,r,.inl ⟨hk,by simp⟩⟩
   ·rw[List.getElem?_set_ne (Ne.symm hj)] at e2
    obtain⟨u',r',q⟩:=hl j y v' e1 e2 e3;refine⟨u',r',?_⟩
    rcases q with ⟨k,e⟩ | ⟨k,c,e,z⟩
    ·refine .inl ⟨k,?_⟩
     have:y≠x:=λ e=>hj (P_7 hN e1 (e▸hi))
     simp[this,e]
    ·exact .inr ⟨k,c,e,z.sameBut hs (cne y c e)⟩
  ·obtain⟨w',z⟩:=I.cell y c e
   exact⟨w',z.sameBut hs (cne y c e)⟩
  ·obtain⟨e,n,ne,nf,d⟩:=I.pin p hp
   exact⟨(hs.2 p.1 ne).trans e,n,ne,nf,d⟩
 ·have hfn:X.fn x=true:=by
   rcases hf with z | z
   ·exact z
   ·rw[z] at hk;cases hk
  obtain⟨c,hc⟩:=I.ok.has x (.inl hk);obtain⟨w',z⟩:=I.cell x c hc;refine wpAny_storeName_cell I.ok.kind hk hc z (λ h' hc' hs=>?_)
  obtain⟨oc,hoc,hocd⟩:=id z;refine h {s with heap:=h'} ⟨I.ok,I.os,I.bare,⟨λ b o e n hb hx=>?_,λ b o e n hb hx=>?_,I.base.free,λ b o e hx=>?_,I.base.tups,I.base.frzs,I.base.tbls⟩,⟨m,hn.sameBut hs (Ne.symm (cne x c hc)),λ j y v' e1 e2 e3=>?_⟩,λ y c' e=>?_,I.free,I.freeC,λ p hp=>?_,tracked ⟨oc,hoc,I.freeC x c hc⟩ hs,by simpa using I.len⟩ ⟨c,hs,.inr hc⟩
  ·exact (hs.2 b (qv (qt (qm e) (I.ok.cab x c hfn hc)))).trans (I.base.keep b o e n hb hx)
  ·obtain⟨sl,e1⟩:=I.base.slot b o e n hb hx
   exact⟨sl,(hs.2 b (qv (qt (qm e) (I.ok.cab x c hfn hc)))).trans e1⟩
  ·obtain⟨o',e1⟩:=I.base.there b o e hx
   exact⟨o',(hs.2 b (qv (qt (qm e) (I.ok.cab x c hfn hc)))).trans e1⟩
  ·by_cases hj:j=i
   ·subst hj
    rw[hi] at e1;cases e1;rw[List.getElem?_set_self hiσ] at e2;cases e2;exact⟨u,r,.inr ⟨.inl hk,c,hc,hc'⟩⟩
   ·rw[List.getElem?_set_ne (Ne.symm hj)] at e2
    obtain⟨u',r',q⟩:=hl j y v' e1 e2 e3;refine⟨u',r',?_⟩
    rcases q with q | ⟨k,c',e,z'⟩
    ·exact .inl q
    ·refine .inr ⟨k,c',e,z'.sameBut hs ?_⟩
     rintro rfl;exact hj (P_7 hN e1 (I.ok.inj _ _ _ e hc▸hi))
  ·by_cases hcc:c'=c
   ·subst hcc;exact⟨_,hc'⟩
   ·obtain⟨w2,z2⟩:=I.cell y c' e
    exact⟨w2,z2.sameBut hs hcc⟩
  ·obtain⟨e,n,ne,nf,d⟩:=I.pin p hp
   refine⟨(hs.2 p.1 ?_).trans e,n,ne,nf,d⟩;intro q;rw[q,hoc] at e;have q':oc=p.2:=qi e;exact d w' (by rw[<- q'];exact hocd)
theorem N_8 {M:Model}{A:Around}{E:Value->Shared->Prop}{i:Nat}{x:Str}{v:V}{u:Value}{Q:Unit->Shared->Prop} (I:Inv X pins σ H s) (hN:X.N.Nodup) (hi:X.N[i]?=some x) (hx:Loc X.env.scope x) (r:RelV v u)
  (h:∀ s',Inv X pins (σ.set i (some v)) H s'->Q () s') (hf:X.fn x=true\/X.env.scope.names.lookup x=some .local:=by first | exact .inl rfl | exact .inr rfl | assumption):wpAny M A (storeName X.env x u) Q E s :=
 D_3 I hN hi hx r (λ s' I' _=>h s' I') hf
theorem Inv.call' {s':Shared}{ch:List Addr} (I:Inv X pins σ H s) (ho:s'.os=s.os) (u:Un (frs X.stack) ch H H' s.heap s'.heap) (hok:HOk X.prog X.w H' s'.heap) (hg:AllBare s'.gens)
  (hch:∀ b∈ch,(b∈X.ex\/X.s₀.heap.objs.size<=b)/\b≠X.env.locals/\(∀ x c,X.env.cells.lookup x=some c->c≠b)/\∀ p∈X.pn++pins,p.1≠b):Inv X pins σ H' s':=by
 obtain⟨h',g',d',t',o'⟩:=s';have e:o'=s.os:=ho;subst e;exact I.call (g':=g') (t':=t') (d':=d') u hok hg hch
end
abbrev XK:=Value->Option Addr->Hp->Prop
abbrev St:=List (Option V)
abbrev VK:=V->Hp->Prop
abbrev TE:=St->Hp->VK->Prop
abbrev TT:=St->Hp->(Bool->Hp->Prop)->Prop
abbrev TA:=St->Hp->(List V->Hp->Prop)->Prop
structure Ends where
 nx:St->Hp->Prop
 rt:VK
 bk:St->Hp->Prop:=λ _ _=>False
 ct:St->Hp->Prop:=λ _ _=>False
abbrev TS:=Ends->St->Hp->Prop
def EP (X:Cx) (pins:List (Addr×Obj)) (σ:St) (Q:VK) (u:Value) (s':Shared):Prop:=∃ v H',Inv X pins σ H' s'/\RelV v u/\Q v H'
def TP (X:Cx) (pins:List (Addr×Obj)) (σ:St) (Q:Bool->Hp->Prop) (b:Bool) (s':Shared):Prop:=∃ H',Inv X pins σ H' s'/\Q b H'
def AP (X:Cx) (pins:List (Addr×Obj)) (σ:St) (Q:List V->Hp->Prop) (us:List Value) (s':Shared):Prop:=∃ vs H',Inv X pins σ H' s'/\Vals vs us/\Q vs H'
def SP (X:Cx) (pins:List (Addr×Obj)) (D:Ends) (f:Flow) (s':Shared):Prop :=
 match f with
 |.next=>∃ σ' H',Inv X pins σ' H' s'/\D.nx σ' H'
 |.brk=>∃ σ' H',Inv X pins σ' H' s'/\D.bk σ' H'
 |.cont=>∃ σ' H',Inv X pins σ' H' s'/\D.ct σ' H'
 |.ret u=>∃ v σ' H',Inv X pins σ' H' s'/\RelV v u/\D.rt v H'
def PE (X:Cx) (e:Expr) (t:TE):Prop :=
 ∀ (pins:List (Addr×Obj)) (s:Shared) (σ:St) (H:Hp) (Q:VK),Inv X pins σ H s->t σ H Q->wpAny (model X.prog X.w) X.A (eval e X.env) (EP X pins σ Q) X.xe s
def PT (X:Cx) (e:Expr) (t:TT):Prop :=
 ∀ (pins:List (Addr×Obj)) (s:Shared) (σ:St) (H:Hp) (Q:Bool->Hp->Prop),Inv X pins σ H s->t σ H Q->wpAny (model X.prog X.w) X.A (isTrue e X.env (eval e X.env)) (TP X pins σ Q) X.xe s
def PW (X:Cx) (e:Expr) (t:TT):Prop :=
 ∀ (whole:Sem Value) (pins:List (Addr×Obj)) (s:Shared) (σ:St) (H:Hp) (Q:Bool->Hp->Prop),Inv X pins σ H s->t σ H Q->wpAny (model X.prog X.w) X.A (isTrue e X.env whole) (TP X pins σ Q) X.xe s
theorem PW.pt {X:Cx}{e:Expr}{t:TT} (h:PW X e t):PT X e t:=h _
def PA (X:Cx) (es:List Expr) (t:TA):Prop :=
 ∀ (pos:Pos) (pins:List (Addr×Obj)) (s:Shared) (σ:St) (H:Hp) (Q:List V->Hp->Prop),Inv X pins σ H s->t σ H Q->wpAny (model X.prog X.w) X.A (spliced (backTo pos (starEach es X.env))) (AP X pins σ Q) X.xe s
def PS (X:Cx) (st:Stmt) (t:TS):Prop :=
 ∀ (pins:List (Addr×Obj)) (s:Shared) (σ:St) (H:Hp) (D:Ends),Inv X pins σ H s->t D σ H->wpAny (model X.prog X.w) X.A (exec st X.env) (SP X pins D) X.xe s
def PSs (X:Cx) (st:List Stmt) (t:TS):Prop :=
 ∀ (pins:List (Addr×Obj)) (s:Shared) (σ:St) (H:Hp) (D:Ends),Inv X pins σ H s->t D σ H->wpAny (model X.prog X.w) X.A (execs st X.env) (SP X pins D) X.xe s
theorem ex5 {α β:Sort _}{A B C:α->β->Prop}{P:Prop} (h:∀ x y,A x y->B x y->C x y->P) (e:∃ x y,A x y/\B x y/\C x y):P:=by
 obtain⟨x,y,a,b,c⟩:=e;exact h x y a b c
theorem thn {α:Type}{t:Sem α}{Q Q':α->Shared->Prop}{M:Model}{A:Around}{E:Value->Shared->Prop}{s:Shared} (h:wpAny M A t Q E s) (hQ:∀ a s,Q a s->Q' a s):wpAny M A t Q' E s:=wpAny_mono h hQ λ _ _ x=>x
section
variable {X:Cx}
def bN5 (i:Nat):TE:=λ σ H Q=>∃ v,σ[i]?=some (some v)/\Q v H
def tC (v:V):TE:=λ _ H Q=>Q v H
theorem o_7 {i:Nat}{x:Str}{pos:Pos} (hN:X.N[i]?=some x) (hv:Vis X.env.scope x) (hd:(x==("__debug__":Str))=false:=by decide) (hcd:(x==("__classdict__":Str))=false:=by decide):PE X (.Name x pos) (bN5 i):=by
 intro pins s σ H Q I h;obtain⟨v,e,h⟩:=h;obtain⟨m,hn,hl⟩:=I.loc;obtain⟨u,r,l⟩:=hl i x v hN e hv;have fin:EP X pins σ Q u s:=⟨v,H,I,r,h⟩
 rcases l with ⟨hk,hm⟩ | ⟨hk,c,hc,hcell⟩
 ·exact wpAny_Name (wpAny_loadName_local I.ok.kind hk hn hm fin) hd
 ·rcases hk with hk | hk
  ·exact wpAny_Name (wpAny_loadName_cell I.ok.kind hk hc hcell fin) hd
  ·exact wpAny_Name (wpAny_loadName_free I.ok.kind hk hc hcell fin hcd) hd
theorem P_1 {i j pos}:PE X (.Constant (.int i) j pos) (tC (.int i)):=λ _ _ _ H _ I h=>wpAny_Constant_int ⟨.int i,H,I.tok _,⟨_,rfl⟩,h⟩
theorem bu1 {b j pos}:PE X (.Constant (.bool b) j pos) (tC (.bl b)):=λ _ _ _ H _ I h=>Constant_bool ⟨.bl b,H,I,rfl,h⟩
theorem ba3 {j pos}:PE X (.Constant .none j pos) (tC .non):=λ _ _ _ H _ I h=>Constant_none ⟨.non,H,I,rfl,h⟩
theorem aA0 {x j pos}:PE X (.Constant (.str x) j pos) (tC (.str x)):=λ _ _ _ H _ I h=>Calls.Constant_str ⟨.str x,H,I.tok _,⟨_,rfl⟩,h⟩
def Gl (X:Cx) (x:Str):Prop:=X.env.kindOf x=some .globalImplicit
theorem B_0 {E:Value->Shared->Prop}{pins:List (Addr×Obj)}{s:Shared}{σ:St}{H:Hp}{x:Str}{u:Value}{pos:Pos}{Q:Value->Shared->Prop} (I:Inv X pins σ H s) (hg:Gl X x) (hm:X.mg x=some u) (h:Q u s)
  (hd:(x==("__debug__":Str))=false:=by decide):wpAny (model X.prog X.w) X.A (eval (.Name x pos) X.env) Q E s :=
 Calls.Name_function_global I.ok.kind hg (Calls.loadGlobal_global (by rw[I.ok.glob];exact I.mod.glob.keeps I.bk) hm h) hd
theorem n_3 {E:Value->Shared->Prop}{pins:List (Addr×Obj)}{s:Shared}{σ:St}{H:Hp}{x:Str}{u:Value}{pos:Pos}{Q:Value->Shared->Prop} (I:Inv X pins σ H s) (hg:Gl X x) (hm:X.mg x=none) (hv:bootBuiltins x=some u) (h:Q u s)
  (hn:x≠"__name__":=by decide) (hd:(x==("__debug__":Str))=false:=by decide):wpAny (model X.prog X.w) X.A (eval (.Name x pos) X.env) Q E s:=by
 obtain⟨mb,h1,h2⟩:=I.mod.blt;exact Calls.Name_function_global I.ok.kind hg (Calls.loadGlobal_builtin (by rw[I.ok.glob];exact I.mod.glob.keeps I.bk) hm (by rw[I.ok.blt];exact h1.keeps I.bk) ((h2 x hn).trans hv) h) hd
theorem J_9 {x:Str}{v:V}{u:Value}{pos:Pos} (hg:Gl X x) (hm:X.mg x=some u) (r:RelV v u) (hd:(x==("__debug__":Str))=false:=by decide):PE X (.Name x pos) (tC v) :=
 λ _ _ _ H _ I h=>B_0 I hg hm ⟨v,H,I,r,h⟩ hd
theorem aJ2 {x:Str}{v:V}{u:Value}{pos:Pos} (hg:Gl X x) (hm:X.mg x=none) (hv:bootBuiltins x=some u) (r:RelV v u) (hn:x≠"__name__":=by decide) (hd:(x==("__debug__":Str))=false:=by decide):PE X (.Name x pos) (tC v) :=
 λ _ _ _ H _ I h=>n_3 I hg hm hv ⟨v,H,I,r,h⟩ hn hd
variable {a b:Expr}{ta tb:TE}{pos:Pos}
def PC (X:Cx) (op:CmpOp) (a b:Expr) (t:TE):Prop :=
 ∀ (pins:List (Addr×Obj)) (s:Shared) (σ:St) (H:Hp) (Q:VK),Inv X pins σ H s->t σ H Q ->
  wpAny (model X.prog X.w) X.A (eval a X.env) (λ v s₁=>wpAny (model X.prog X.w) X.A (eval b X.env) (λ u s₂=>wpAny (model X.prog X.w) X.A (compareOp op v u) (EP X pins σ Q) X.xe s₂) X.xe s₁) X.xe s
def tB (t:TE):TT:=λ σ H Q=>t σ H λ x H1=>∃ c,x=.bl c/\Q c H1
theorem aZ3 {op:CmpOp}{t:TE} (h:PC X op a b t) (h1:behindInMarks op b=false:=by first | exact nobehind _ (by decide) (by decide) | rfl):PT X (.Compare a [op] [b] pos) (tB t):=by
 intro pins s σ H Q I hw;refine wpAny_isTrue_Compare1 (thn (h pins s σ H _ I hw) λ v s1 h1=>thn h1 λ u s2 h2=>thn h2 λ c s3=>ex5 λ x H1 I1 r1 q1=>?_) h1
 obtain⟨d,rfl,q⟩:=q1;cases r1;exact wpAny_truthy_bool ⟨H1,I1,q⟩
variable {tA tB':TT}{rest:List Expr}
def tAnd (t u:TT):TT:=λ σ H Q=>t σ H λ c H1=>if c=true then u σ H1 Q else Q false H1
def tOr (t u:TT):TT:=λ σ H Q=>t σ H λ c H1=>if c=true then Q true H1 else u σ H1 Q
def tNot (t:TT):TT:=λ σ H Q=>t σ H λ c H1=>Q (!c) H1
theorem aH8 (ha:PT X a tA):PW X (.BoolOp .And [a] pos) tA:=by
 intro wh pins s σ H Q I h;refine isTrue_and (thn (ha pins s σ H Q I h) λ c s1 e=>?_)
 cases c with
 |true=>exact isTrue_and_nil e
 |false=>exact e
theorem aY9 (ha:PT X a tA):PW X (.BoolOp .Or [a] pos) tA:=by
 intro wh pins s σ H Q I h;refine isTrue_or (thn (ha pins s σ H Q I h) λ c s1 e=>?_)
 cases c with
 |false=>exact isTrue_or_nil e
 |true=>exact e
theorem aZ0 (ha:PT X a tA) (hb:PW X (.BoolOp .And (b::rest) pos) tB'):PW X (.BoolOp .And (a::b::rest) pos) (tAnd tA tB'):=by
 intro wh pins s σ H Q I h;refine isTrue_and (thn (ha pins s σ H _ I h) λ c s1 hh0_=>?_)
 obtain⟨H1,I1,q1⟩:=hh0_;cases c with
 |true=>exact hb wh pins s1 σ H1 Q I1 q1
 |false=>exact⟨H1,I1,q1⟩
theorem bt4 (ha:PT X a tA) (hb:PW X (.BoolOp .Or (b::rest) pos) tB'):PW X (.BoolOp .Or (a::b::rest) pos) (tOr tA tB'):=by
 intro wh pins s σ H Q I h;refine isTrue_or (thn (ha pins s σ H _ I h) λ c s1 hh0_=>?_)
 obtain⟨H1,I1,q1⟩:=hh0_;cases c with
 |true=>exact⟨H1,I1,q1⟩
 |false=>exact hb wh pins s1 σ H1 Q I1 q1
theorem aZ2 (ha:PT X a tA):PT X (.UnaryOp .Not a pos) (tNot tA):=by
 intro pins s σ H Q I h;exact isTrue_not (ha pins s σ H (λ c H1=>Q (!c) H1) I h)
def bp6 (ta tb:TE):TE:=λ σ H Q=>ta σ H λ x H1=>∃ c,x=.bl c/\if c=true then tb σ H1 Q else Q (.bl false) H1
def bO0 (ta tb:TE):TE:=λ σ H Q=>ta σ H λ x H1=>∃ c,x=.bl c/\if c=true then Q (.bl true) H1 else tb σ H1 Q
theorem ba2 {op}{t:TE} (h:PE X a t):PE X (.BoolOp op [a] pos) t:=λ pins s σ H Q I hw=>BoolOp_one (h pins s σ H Q I hw)
theorem ba4 (ha:PE X a ta) (hb:PE X (.BoolOp .And (b::rest) pos) tb):PE X (.BoolOp .And (a::b::rest) pos) (bp6 ta tb):=by
 intro pins s σ H Q I h;refine BoolOp_and (thn (ha pins s σ H _ I h) λ v s1=>ex5 λ x H1 I1 r1 q1=>?_)
 obtain⟨c,rfl,q1⟩:=q1;cases r1;refine wpAny_truthy_bool ?_;cases c with
 |true=>exact hb pins s1 σ H1 Q I1 q1
 |false=>exact⟨.bl false,H1,I1,rfl,q1⟩
theorem bt8 (ha:PE X a ta) (hb:PE X (.BoolOp .Or (b::rest) pos) tb):PE X (.BoolOp .Or (a::b::rest) pos) (bO0 ta tb):=by
 intro pins s σ H Q I h;refine BoolOp_or (thn (ha pins s σ H _ I h) λ v s1=>ex5 λ x H1 I1 r1 q1=>?_)
 obtain⟨c,rfl,q1⟩:=q1;cases r1;refine wpAny_truthy_bool ?_;cases c with
 |false=>exact hb pins s1 σ H1 Q I1 q1
 |true=>exact⟨.bl true,H1,I1,rfl,q1⟩
def tIf (t:TT) (ta tb:TE):TE:=λ σ H Q=>t σ H λ c H1=>if c=true then ta σ H1 Q else tb σ H1 Q
theorem ar6 {c:Expr} (hc:PT X c tA) (ha:PE X a ta) (hb:PE X b tb):PE X (.IfExp c a b pos) (tIf tA ta tb):=by
 intro pins s σ H Q I h;refine wpAny_IfExp (thn (hc pins s σ H _ I h) λ d s1 hh0_=>?_)
 obtain⟨H1,I1,q1⟩:=hh0_;cases d with
 |true=>exact ha pins s1 σ H1 Q I1 q1
 |false=>exact hb pins s1 σ H1 Q I1 q1
end
def SqL (K:Frag) (H:Hp) (a:Addr) (xs:List V):Prop :=
 Rd H a (.lst xs) \/
  ∃ (o:Obj) (its:Array Value) (n:Nat),K.lookup a=some o ∧ o.cls=.type "list" ∧ o.dict=none ∧ o.data=.seq its n ∧ its.size ≤ sizeLine ∧ Vals xs its.toList
def SqT (K:Frag) (H:Hp) (a:Addr) (xs:List V):Prop :=
 Rd H a (.tup xs) \/
  ∃ (o:Obj) (its:Array Value) (n:Nat),K.lookup a=some o ∧ o.cls=.type "tuple" ∧ o.dict=none ∧ o.data=.seq its n ∧ its.size ≤ sizeLine ∧ Vals xs its.toList
def bW7:Value->Option V
 |.none=>some .non
 |.bool b=>some (.bl b)
 |.int i _=>some (.int i)
 |.str x _=>some (.str x)
 |.bytes b _=>some (.byt b)
 |.float b _=>some (.flt b)
 |.ref a=>some (.ref a)
 |.type n=>some (.ty n)
 |_=>none
theorem RelV.abs {x:V}{u:Value} (r:RelV x u):bW7 u=some x:=by
 cases x with
 |non=>cases r;rfl
 |bl _=>cases r;rfl
 |int _=>obtain⟨t,rfl⟩:=r;rfl
 |str _=>obtain⟨t,rfl⟩:=r;rfl
 |byt _=>obtain⟨t,rfl⟩:=r;rfl
 |flt _=>obtain⟨t,rfl⟩:=r;rfl
 |ref _=>cases r;rfl
 |ty _=>cases r;rfl
theorem RelV.inj {x y:V}{u:Value} (r:RelV x u) (q:RelV y u):x=y:=qi (r.abs.symm.trans q.abs)
theorem Vals.inj:∀ {xs ys:List V}{us:List Value},Vals xs us->Vals ys us->xs=ys
 |[],ys,us,h,k=>by cases h;cases k;rfl
 |x::xs,ys,us,h,k=>by
  cases h with
  |cons r t =>
   cases k with
   |cons r' t'=>rw[r.inj r',Vals.inj t t']
section
variable {X:Cx}{pins:List (Addr×Obj)}{σ:St}{H:Hp}{s:Shared}{a:Addr}{xs ys:List V}
theorem SqL.of {K:Frag} (h:H a=some (.lst xs)):SqL K H a xs:=.inl (.inl h)
theorem SqT.of {K:Frag} (h:H a=some (.tup xs)):SqT K H a xs:=.inl (.inl h)
theorem Inv.list (I:Inv X pins σ H s) (h:SqL X.K H a xs):∃ its:List Value,Vals xs its/\PlainL s.heap a its.toArray/\xs.length<=sizeLine:=by
 rcases h with h | ⟨o,its,n,hk,hc,hd,hs,hz,r⟩
 ·obtain⟨z,its,n,r,e⟩:=h.ok I.hok
  exact⟨its,r,⟨_,n,e,rfl,rfl,rfl⟩,z⟩
 ·refine⟨its.toList,r,⟨o,n,I.kIn a o hk,hc,hd,by simpa using hs⟩,?_⟩
  have e:=r.length;simp only[Array.length_toList] at e;omega
theorem Inv.tuple (I:Inv X pins σ H s) (h:SqT X.K H a xs):∃ its:List Value,Vals xs its/\IsTup s.heap a its.toArray/\xs.length<=sizeLine:=by
 rcases h with h | ⟨o,its,n,hk,hc,_,hs,hz,r⟩
 ·obtain⟨z,its,r,p⟩:=h.ok I.hok
  exact⟨its,r,p.tup,z⟩
 ·refine⟨its.toList,r,⟨o,I.kIn a o hk,hc,n,by simpa using hs⟩,?_⟩
  have e:=r.length;simp only[Array.length_toList] at e;omega
theorem Inv.list_inj (I:Inv X pins σ H s) (h:SqL X.K H a xs) (h':SqL X.K H a ys):xs=ys:=by
 obtain⟨its,r,⟨o,n,e,_,_,d⟩,_⟩:=I.list h;obtain⟨its',r',⟨o',n',e',_,_,d'⟩,_⟩:=I.list h';rw[e] at e';cases e';rw[d] at d';injection d' with d1 _
 have:its=its':=by simpa using congrArg Array.toList d1
 subst this;exact r.inj r'
theorem Inv.tuple_inj (I:Inv X pins σ H s) (h:SqT X.K H a xs) (h':SqT X.K H a ys):xs=ys:=by
 obtain⟨its,r,⟨o,e,_,n,d⟩,_⟩:=I.tuple h;obtain⟨its',r',⟨o',e',_,n',d'⟩,_⟩:=I.tuple h';rw[e] at e';cases e';rw[d] at d';injection d' with d1 _
 have:its=its':=by simpa using congrArg Array.toList d1
 subst this;exact r.inj r'
end
abbrev Cx.wish (X:Cx) (E:Value->Shared->Prop):Cx:={X with xe:=E}
abbrev Cx.nox (X:Cx):Cx:=X.wish λ _ _=>False
theorem Cx.Ok.wish {X:Cx} (ok:X.Ok) (E:Value->Shared->Prop):(X.wish E).Ok :=
 ⟨ok.mod,ok.kind,ok.glob,ok.blt,ok.above,ok.inj,ok.has,ok.cab,ok.hd,ok.frames,ok.stk,ok.exf,ok.bs,ok.bsz,ok.noex,ok.exfs,ok.funs,ok.frf⟩
theorem Cx.Ok.unwish {X:Cx}{E:Value->Shared->Prop} (ok:(X.wish E).Ok):X.Ok :=
 ⟨ok.mod,ok.kind,ok.glob,ok.blt,ok.above,ok.inj,ok.has,ok.cab,ok.hd,ok.frames,ok.stk,ok.exf,ok.bs,ok.bsz,ok.noex,ok.exfs,ok.funs,ok.frf⟩
section
variable {X:Cx}{pins:List (Addr×Obj)}{σ:St}{H:Hp}{s:Shared}{E:Value->Shared->Prop}
theorem Inv.wish (I:Inv X pins σ H s) (E:Value->Shared->Prop):Inv (X.wish E) pins σ H s:=⟨I.ok.wish E,I.os,I.bare,I.base,I.loc,I.cell,I.free,I.freeC,I.pin,I.hok,I.len⟩
theorem Inv.unwish (I:Inv (X.wish E) pins σ H s):Inv X pins σ H s:=⟨I.ok.unwish,I.os,I.bare,I.base,I.loc,I.cell,I.free,I.freeC,I.pin,I.hok,I.len⟩
theorem SP.unwish {D:Ends}{f:Flow}{s':Shared} (h:SP (X.wish E) pins D f s'):SP X pins D f s':=by
 cases f with
 |next=>obtain⟨σ',H',I,q⟩:=h;exact⟨σ',H',I.unwish,q⟩
 |brk=>obtain⟨σ',H',I,q⟩:=h;exact⟨σ',H',I.unwish,q⟩
 |cont=>obtain⟨σ',H',I,q⟩:=h;exact⟨σ',H',I.unwish,q⟩
 |ret u=>obtain⟨v,σ',H',I,r,q⟩:=h;exact⟨v,σ',H',I.unwish,r,q⟩
theorem PE.nox {e:Expr}{t:TE} (h:PE X.nox e t):PE X e t:=λ pins s σ H Q I hw =>
 wpAny_mono (h pins s σ H Q (I.wish _) hw) (λ _ _ ⟨v,H',I',r,q⟩=>⟨v,H',I'.unwish,r,q⟩) λ _ _ z=>False.elim z
theorem PT.nox {e:Expr}{t:TT} (h:PT X.nox e t):PT X e t:=λ pins s σ H Q I hw =>
 wpAny_mono (h pins s σ H Q (I.wish _) hw) (λ _ _ ⟨H',I',q⟩=>⟨H',I'.unwish,q⟩) λ _ _ z=>False.elim z
theorem PSs.nox {st:List Stmt}{t:TS} (h:PSs X.nox st t):PSs X st t:=λ pins s σ H D I hw =>
 wpAny_mono (h pins s σ H D (I.wish _) hw) (λ _ _ q=>q.unwish) λ _ _ z=>False.elim z
end
section
variable {X:Cx}{st:Stmt}{rest:List Stmt}{t u:TS}{e:Expr}{te:TE}{pos:Pos}
def bo9:TS:=λ D σ H=>D.nx σ H
def bN8 (t u:TS):TS:=λ D σ H=>t {D with nx:=u D} σ H
theorem aI5:PSs X [] bo9:=λ _ _ σ H _ I h=>wpAny_execs_nil ⟨σ,H,I,h⟩
theorem O_8 (h1:PS X st t) (h2:PSs X rest u):PSs X (st::rest) (bN8 t u):=by
 intro pins s σ H D I h;refine wpAny_execs_cons (thn (h1 pins s σ H {D with nx:=u D} I h) λ f s1 q=>?_)
 cases f with
 |next =>
  obtain⟨σ',H',I',q⟩:=q;exact h2 pins s1 σ' H' D I' q
 |ret v=>exact q
 |brk=>exact q
 |cont=>exact q
theorem ab6 (h1:PS X st t):PSs X [st] t:=by
 intro pins s σ H D I h;refine wpAny_execs_cons (thn (h1 pins s σ H D I h) λ f s1 q=>?_)
 cases f with
 |next=>exact wpAny_execs_nil q
 |ret v=>exact q
 |brk=>exact q
 |cont=>exact q
theorem Inv.quiet {pins:List (Addr×Obj)}{σ:St}{H:Hp}{s:Shared} (I:Inv X pins σ H s):interactive X.env=false:=by simp[interactive,I.ok.kind]
def bp0 (te:TE):TS:=λ D σ H=>te σ H λ _ H1=>D.nx σ H1
theorem t_7 (he:PE X e te) (hs:swapsWith e none pos.line X.env=pure false:=by rfl):PS X (.Expr e pos) (bp0 te):=by
 intro pins s σ H D I h;exact wpAny_Expr_any (thn (he pins s σ H _ I h) λ v s1=>ex5 λ x H1 I1 r1 q1=>⟨σ,H1,I1,q1⟩) I.quiet hs
def bN9 (te:TE):TS:=λ D σ H=>te σ H D.rt
theorem az7 (he:PE X e te):PS X (.Return (some e) pos) (bN9 te):=by
 intro pins s σ H D I h;exact wpAny_Return_some (thn (he pins s σ H _ I h) λ v s1=>ex5 λ x H1 I1 r1 q1=>⟨x,σ,H1,I1,r1,q1⟩)
def bO5 (c:TT) (t u:TS):TS:=λ D σ H=>c σ H λ b H1=>if b=true then t D σ H1 else u D σ H1
theorem bt6 {c:Expr}{a b:List Stmt}{tc:TT} (hc:PT X c tc) (ha:PSs X a t) (hb:PSs X b u):PS X (.If c a b pos) (bO5 tc t u):=by
 intro pins s σ H D I h;refine wpAny_If (thn (hc pins s σ H _ I h) λ d s1 hh0_=>?_)
 obtain⟨H1,I1,q1⟩:=hh0_;cases d with
 |true=>exact ha pins s1 σ H1 D I1 q1
 |false=>exact hb pins s1 σ H1 D I1 q1
end
abbrev TG:=V->St->Hp->(St->Hp->Prop)->Prop
abbrev TGs:=List V->St->Hp->(St->Hp->Prop)->Prop
def PG (X:Cx) (target:Expr) (t:TG):Prop :=
 ∀ (pins:List (Addr×Obj)) (s:Shared) (σ:St) (H:Hp) (v:V) (u:Value) (Q:St->Hp->Prop),Inv X pins σ H s->RelV v u->t v σ H Q ->
  wpAny (model X.prog X.w) X.A (assign target X.env u) (λ _ s'=>∃ σ' H',Inv X pins σ' H' s'/\Q σ' H') X.xe s
def PGs (X:Cx) (ts:List Expr) (t:TGs):Prop :=
 ∀ (pins:List (Addr×Obj)) (s:Shared) (σ:St) (H:Hp) (vs:List V) (us:List Value) (Q:St->Hp->Prop),Inv X pins σ H s->Vals vs us->t vs σ H Q ->
  wpAny (model X.prog X.w) X.A (assignInOrder ((assignEach ts X.env).map (·.2)) us) (λ _ s'=>∃ σ' H',Inv X pins σ' H' s'/\Q σ' H') X.xe s
section
variable {X:Cx}{pos:Pos}
def ag2 (i:Nat):TG:=λ v σ H Q=>Q (σ.set i (some v)) H
theorem z_8 {i:Nat}{x:Str} (hN:X.N.Nodup) (hi:X.N[i]?=some x) (hx:Loc X.env.scope x) (hf:X.fn x=true\/X.env.scope.names.lookup x=some .local:=by first | exact .inl rfl | exact .inr rfl | assumption):PG X (.Name x pos) (ag2 i):=by
 intro pins s σ H v u Q I r h;exact wpAny_assign_Name (N_8 I hN hi hx r (λ s' I'=>⟨_,H,I',h⟩) hf)
def bH1:TGs:=λ vs σ H Q=>vs=[]/\Q σ H
def aN8 (t:TG) (u:TGs):TGs:=λ vs σ H Q=>∃ v r,vs=v::r/\t v σ H λ σ' H'=>u r σ' H' Q
theorem ac1:PGs X [] bH1:=by
 intro pins s σ H vs us Q I r h;obtain⟨e,h⟩:=h;subst e;cases r;exact assignInOrder_nil ⟨σ,H,I,h⟩
theorem z_7 {e:Expr}{es:List Expr}{t:TG}{u:TGs} (h1:PG X e t) (h2:PGs X es u)
  (hs:(assignEach (e::es) X.env).map (·.2)=assign e X.env::(assignEach es X.env).map (·.2):=by rfl):PGs X (e::es) (aN8 t u):=by
 intro pins s σ H vs us Q I r h;obtain⟨v,vr,e1,h⟩:=h;subst e1;cases r with
 |cons r rr =>
  rw[hs];refine assignInOrder_cons (thn (h1 pins s σ H _ _ _ I r h) λ _ s1 hh0_=>?_)
  obtain⟨σ1,H1,I1,q1⟩:=hh0_;exact h2 pins s1 σ1 H1 _ _ Q I1 rr q1
def bH0 (K:Frag) (n:Nat) (t:TGs):TG:=λ v σ H Q=>∃ a xs,v=.ref a/\SqT K H a xs/\xs.length=n/\t xs σ H Q
theorem az8 {es:List Expr}{k:Nat}{t:TGs}{n:Nat} (hc:X.calm=true) (h:PGs X es t)
  (hn:(assignEach es X.env).length=n:=by rfl) (hst:(assignEach es X.env).findIdx? (·.1)=none:=by rfl):PG X (.Tuple es k pos) (bH0 X.K n t):=by
 intro pins s σ H v u Q I r hw;obtain⟨a,xs,e1,hq,hl,hw⟩:=hw;subst e1;cases r;obtain⟨its,rv,ht,hz⟩:=I.tuple hq;refine assign_Tuple_tuple (I.ok.hd hc) ht (by simp[hn,<- hl,rv.length]) hst λ h' hx=>?_
 have I1:Inv X pins σ H {s with heap:=h'}:=I.kept (t':=s.toks) λ b o e=>hx b o (qv (qm e)) e
 exact h pins _ σ H xs _ Q I1 (by simpa using rv) hw
def bD5 (te:TE) (g:TG):TS:=λ D σ H=>te σ H λ x H1=>g x σ H1 D.nx
theorem aZ4 {tg e:Expr}{te:TE}{g:TG} (he:PE X e te) (hg:PG X tg g) (hs:swapsWithSole [tg] e pos.line X.env=pure false:=by rfl) (hw:swappedStores [tg] e X.env=pure none:=by rfl)
  (h1:(assignEach [tg] X.env).map (·.2)=[assign tg X.env]:=by rfl):PS X (.Assign [tg] e pos) (bD5 te g):=by
 intro pins s σ H D I h;refine wpAny_Assign_stores (thn (he pins s σ H _ I h) λ v s1=>ex5 λ x H1 I1 r1 q1=>?_) hs hw
 rw[h1];exact thn (hg pins s1 σ H1 x v _ I1 r1 q1) λ _ s2 q=>q
theorem D_9 {i:Nat}{x:Str}{e:Expr}{te:TE}{pos':Pos} (hN:X.N.Nodup) (hi:X.N[i]?=some x) (hx:Loc X.env.scope x) (he:PE X e te) (hs:swapsWith e (some (.Name x pos')) pos.line X.env=pure false:=by rfl) (hf:X.fn x=true\/X.env.scope.names.lookup x=some .local:=by first | exact .inl rfl | exact .inr rfl | assumption) :
  PS X (.Assign [.Name x pos'] e pos) (bD5 te (ag2 i)):=by
 intro pins s σ H D I h;refine wpAny_Assign_Name (thn (he pins s σ H _ I h) λ v s1=>ex5 λ y H1 I1 r1 q1=>?_) hs
 exact N_8 I1 hN hi hx r1 (λ s2 I2=>⟨_,H1,I2,q1⟩) hf
end
structure It where
 go:Nat->Hp->Prop
 yld:Nat->Hp->V->Hp->Prop
 stop:Nat->Hp->Prop
def FpOk (X:Cx) (pins:List (Addr×Obj)) (H:Hp) (b:Addr):Prop :=
 H b=none/\b≠X.env.locals/\b∉X.fs/\(b∈X.ex\/X.s₀.heap.objs.size<=b)/\(∀ x c,X.env.cells.lookup x=some c->c≠b)/\∀ p∈X.pn++pins,p.1≠b
theorem Inv.fpOk {X:Cx}{pins:List (Addr×Obj)}{σ:St}{H H':Hp}{s:Shared}{b:Addr} (I:Inv X pins σ H s) (hb:s.heap.objs.size<=b) (hn:H' b=none):FpOk X pins H' b:=by
 refine⟨hn,Nat.ne_of_gt (qt I.lt hb),I.nofs hb,.inr (Nat.le_trans I.sz hb),λ x c e z=>?_,λ p hp z=>?_⟩
 ·obtain⟨v,q⟩:=I.cell x c e
  exact absurd (qt q.lt (by rw[z];exact hb)) (Nat.lt_irrefl _)
 ·exact absurd (qt (qm (I.pin p hp).1) (by rw[z];exact hb)) (Nat.lt_irrefl _)
structure Turn (P:Program) (w:World) (K:Frag) (tg:Expr) (J:It) (fp:List Addr) (it:Addr) (tn:Nat->Heap->Prop):Prop where
 mem:it∈fp
 obj:∀ i h,tn i h->∀ b∈fp,∃ o,h.get? b=some o/\∀ v,o.data≠.cell v
 keep:∀ i h h',tn i h->(∀ b∈fp,∀ o,h.get? b=some o->h'.get? b=some o)->tn i h'
 item:∀ (X:Cx),X.prog=P->X.w=w->X.K=K->X.calm=true->∀ (i:Nat) (pins:List (Addr×Obj)) (s:Shared) (σ:St) (H:Hp) (E:Value->Shared->Prop),Inv X pins σ H s->(∀ b∈fp,FpOk X pins H b)->tn i s.heap->J.go i H ->
  wpAny (model P w) X.A (pyNext (.ref it)) (λ r s1=>∃ u,r=some u /\
   wpAny (model P w) X.A (letOwnedTupleGo tg (.ref it) u) (λ _ s2=>∃ x H',Inv X pins σ H' s2/\RelV x u/\J.yld i H x H'/\tn (i+1) s2.heap/\∀ b∈fp,H' b=none) E s1) E s
 done:∀ (X:Cx),X.prog=P->X.w=w->X.K=K->X.calm=true->∀ (i:Nat) (pins:List (Addr×Obj)) (s:Shared) (σ:St) (H:Hp) (E:Value->Shared->Prop),Inv X pins σ H s->(∀ b∈fp,FpOk X pins H b)->tn i s.heap->J.stop i H ->
  wpAny (model P w) X.A (pyNext (.ref it)) (λ r s1=>r=none/\Inv X pins σ H s1) E s
 self:∀ (A:Around) (i:Nat) (s:Shared) (Q:Value->Shared->Prop) (E:Value->Shared->Prop),tn i s.heap->Q (.ref it) s->wpAny (model P w) A (pyIter (.ref it)) Q E s
abbrev TI:=St->Hp->(It->Hp->Prop)->Prop
def PIE (X:Cx) (pins:List (Addr×Obj)) (σ:St) (tg:Expr) (R:It->Hp->Prop) (itv:Value) (s2:Shared):Prop :=
 ∃ (it:Addr) (fp:List Addr) (tn:Nat->Heap->Prop) (J:It) (H':Hp),itv=.ref it/\Inv X pins σ H' s2/\Turn X.prog X.w X.K tg J fp it tn/\tn 0 s2.heap/\(∀ b∈fp,FpOk X pins H' b)/\R J H'
def PI (X:Cx) (tg iter:Expr) (wi:TI):Prop :=
 ∀ (pins:List (Addr×Obj)) (s:Shared) (σ:St) (H:Hp) (R:It->Hp->Prop),Inv X pins σ H s->wi σ H R ->
  wpAny (model X.prog X.w) X.A (eval iter X.env) (λ v s1=>wpAny (model X.prog X.w) X.A (pyIter v) (PIE X pins σ tg R) X.xe s1) X.xe s
theorem au9 {M:Model}{A:Around}{E:Value->Shared->Prop}{s:Shared}{tg:Expr}{it:Addr}{u:Value}{o:Obj}{n:String}{vs:Array Value}{Q:Unit->Shared->Prop} (ho:s.heap.get? it=some o) (hc:o.cls=.type n) (hd:o.data=.fields vs)
  (hn:["enumerate","zip","dict_itemiterator","dict_reverseitemiterator","odict_iterator","itertools.zip_longest","itertools.pairwise"].contains n=false) (hQ:Q () s):wpAny M A (letOwnedTupleGo tg (.ref it) u) Q E s:=by
 unfold letOwnedTupleGo;cases tg <;> first
  |exact qc hQ
  |(cases u <;> first
    |exact qc hQ
    |(refine qb (wpAny_load ho ?_);rw[hc,hd];show wpAny M A (if (["enumerate","zip","dict_itemiterator","dict_reverseitemiterator","odict_iterator","itertools.zip_longest","itertools.pairwise"].contains n&&vs[0]?==some (rawInt _))=true then _ else _) Q E s;rw[if_neg (by intro h;rw[hn,Bool.false_and] at h;cases h)];exact qc hQ))
def Itl (K:Frag) (a:Addr):It :=
 ⟨λ i H=>∃ xs x,SqL K H a xs/\xs[i]?=some x,λ i H x H'=>H'=H/\∀ xs,SqL K H a xs->xs[i]?=some x,λ i H=>∃ xs,SqL K H a xs/\xs.length<=i⟩
def Itt (K:Frag) (a:Addr):It :=
 ⟨λ i H=>∃ xs x,SqT K H a xs/\xs[i]?=some x,λ i H x H'=>H'=H/\∀ xs,SqT K H a xs->xs[i]?=some x,λ i H=>∃ xs,SqT K H a xs/\xs.length<=i⟩
def Itr (lo:Int) (n:Nat):It:=⟨λ i _=>i<n,λ i H x H'=>H'=H/\x=.int (lo+i),λ i _=>n<=i⟩
theorem Z_3 {P:Program}{w:World}{K:Frag}{tg:Expr} (a it:Addr):Turn P w K tg (Itl K a) [it] it (λ i h=>h.IsListIter it a i) where
 mem:=by simp
 obj:=λ i h st b hb=>by
  have e:b=it:=by simpa using hb
  subst e;obtain⟨o,e,c,d⟩:=st;exact⟨o,e,λ v z=>by rw[d] at z;cases z⟩
 keep:=λ i h h' st k=>st.at λ o e=>k it (by simp) o e
 item:=by
  intro X hP hw hK hc i pins s σ H E I hf st hg;subst hP hw hK;obtain⟨xs,x,hq,hx⟩:=hg;obtain⟨its,rv,p,hz⟩:=I.list hq;obtain⟨u,hu,ru⟩:=rv.get hx;obtain⟨f0,f1,f2,f3,f4,f5⟩:=hf it (by simp)
  refine wpAny_pyNext_list_item st p.isList (x:=u) (by simpa using hu) λ h' st' sb=>?_
  have I1:Inv X pins σ H {s with heap:=h'}:=I.turned (t':=s.toks) (λ b o hb e=>(sb.2 b hb).trans e) f0 f1 f3 f4 f5
  obtain⟨o,e,c,d⟩:=id st';exact⟨u,rfl,au9 (s:={s with heap:=h'}) e c d (by decide) ⟨x,H,I1,ru,⟨rfl,λ ys hy=>by rw[I.list_inj hy hq];exact hx⟩,st',λ b hb=>(hf b hb).1⟩⟩
 done:=by
  intro X hP hw hK hc i pins s σ H E I hf st hg;subst hP hw hK;obtain⟨xs,hq,hx⟩:=hg;obtain⟨its,rv,p,hz⟩:=I.list hq;obtain⟨f0,f1,f2,f3,f4,f5⟩:=hf it (by simp)
  have hl:=rv.length;exact wpAny_pyNext_list_end (I.ok.hd hc) st p.isList (by simp;omega) λ h' eb=>⟨rfl,I.turned (t':=s.toks) (λ b o hb e=>eb b o hb e) f0 f1 f3 f4 f5⟩
 self:=λ _ _ _ _ _ st h=>wpAny_pyIter_listiter st h
theorem T_7 {P:Program}{w:World}{K:Frag}{tg:Expr} (a it:Addr):Turn P w K tg (Itt K a) [it] it (λ i h=>h.IsTupleIter it a i) where
 mem:=by simp
 obj:=λ i h st b hb=>by
  have e:b=it:=by simpa using hb
  subst e;obtain⟨o,e,c,d⟩:=st;exact⟨o,e,λ v z=>by rw[d] at z;cases z⟩
 keep:=λ i h h' st k=>st.at λ o e=>k it (by simp) o e
 item:=by
  intro X hP hw hK hc i pins s σ H E I hf st hg;subst hP hw hK;obtain⟨xs,x,hq,hx⟩:=hg;obtain⟨its,rv,p,hz⟩:=I.tuple hq;obtain⟨u,hu,ru⟩:=rv.get hx;obtain⟨f0,f1,f2,f3,f4,f5⟩:=hf it (by simp)
  refine wpAny_pyNext_tuple_item st (show s.heap.IsTuple a its.toArray from p) (x:=u) (by simpa using hu) λ h' st' sb=>?_
  have I1:Inv X pins σ H {s with heap:=h'}:=I.turned (t':=s.toks) (λ b o hb e=>(sb.2 b hb).trans e) f0 f1 f3 f4 f5
  obtain⟨o,e,c,d⟩:=id st';exact⟨u,rfl,au9 (s:={s with heap:=h'}) e c d (by decide) ⟨x,H,I1,ru,⟨rfl,λ ys hy=>by rw[I.tuple_inj hy hq];exact hx⟩,st',λ b hb=>(hf b hb).1⟩⟩
 done:=by
  intro X hP hw hK hc i pins s σ H E I hf st hg;subst hP hw hK;obtain⟨xs,hq,hx⟩:=hg;obtain⟨its,rv,p,hz⟩:=I.tuple hq;obtain⟨f0,f1,f2,f3,f4,f5⟩:=hf it (by simp)
  have hl:=rv.length;exact wpAny_pyNext_tuple_end (I.ok.hd hc) st (show s.heap.IsTuple a its.toArray from p) (by simp;omega) λ h' eb=>⟨rfl,I.turned (t':=s.toks) (λ b o hb e=>eb b o hb e) f0 f1 f3 f4 f5⟩
 self:=λ _ _ _ _ _ st h=>wpAny_pyIter_tupleiter st h
theorem T_8 {P:Program}{w:World}{K:Frag}{tg:Expr} (it:Addr) (lo:Int) (n:Nat):Turn P w K tg (Itr lo n) [it] it (λ i h=>IsRangeIter h it (lo+(i:Nat)*1) ((n:Int)-(i:Nat)) 1) where
 mem:=by simp
 obj:=λ i h st b hb=>by
  have e:b=it:=by simpa using hb
  subst e
  exact⟨_,st,λ v z=>by
   have z':Data.fields _=Data.cell v:=z;cases z'⟩
 keep:=λ i h h' st k=>k it (by simp) _ st
 item:=by
  intro X hP hw hK hc i pins s σ H E I hf st hg;subst hP hw hK;obtain⟨f0,f1,f2,f3,f4,f5⟩:=hf it (by simp)
  have W:=Walks.range (prog:=X.prog) (w:=X.w) (I.ok.hd hc) it lo 1 n;refine W.item i s _ _ hg st λ v h' tk hv st' kk=>?_
  obtain⟨t,rfl⟩:=hv;have I1:Inv X pins σ H {s with heap:=h',toks:=tk}:=I.turned (λ b o hb e=>kk b o (by simpa using hb) e) f0 f1 f3 f4 f5
  refine⟨_,rfl,au9 (s:={s with heap:=h',toks:=tk}) (n:="range_iterator") st' rfl rfl (by decide) ⟨.int (lo+i),H,I1,⟨t,?_⟩,⟨rfl,rfl⟩,st',λ b hb=>(hf b hb).1⟩⟩
  rw[Int.mul_one]
 done:=by
  intro X hP hw hK hc i pins s σ H E I hf st hg;subst hP hw hK;obtain⟨f0,f1,f2,f3,f4,f5⟩:=hf it (by simp)
  exact wpAny_pyNext_range_end (I.ok.hd hc) st (by have:n<=i:=hg;omega) λ h' eb=>⟨rfl,I.turned (t':=s.toks) (λ b o hb e=>eb b o hb e) f0 f1 f3 f4 f5⟩
 self:=λ _ _ _ _ _ st h=>wpAny_pyIter_rangeiter st h
section
variable {X:Cx}{tg:Expr}
def be7 (K:Frag) (tl:TE):TI:=λ σ H R=>tl σ H λ x H1=>∃ a,x=.ref a/\(∃ xs,SqL K H1 a xs)/\R (Itl K a) H1
def bG8 (K:Frag) (tl:TE):TI:=λ σ H R=>tl σ H λ x H1=>∃ a,x=.ref a/\(∃ xs,SqT K H1 a xs)/\R (Itt K a) H1
theorem aI7 {l:Expr}{tl:TE} (hl:PE X l tl):PI X tg l (be7 X.K tl):=by
 intro pins s σ H R I h;refine thn (hl pins s σ H _ I h) λ v s1=>ex5 λ x H1 I1 r1 q1=>?_
 obtain⟨a,e,⟨xs,hq⟩,q⟩:=q1;subst e;cases r1;obtain⟨its,rv,p,hz⟩:=I1.list hq;refine wpAny_pyIter_list p.isList ?_;refine⟨s1.heap.objs.size,[s1.heap.objs.size],_,_,H1,rfl,I1.kept (t':=s1.toks) λ b o e=>qf _ e,Z_3 a _,⟨_,qk _ rfl,rfl,rfl⟩,λ b hb=>?_,q⟩
 have e:b=s1.heap.objs.size:=by simpa using hb
 subst e;exact I1.fpOk (qj _) (I1.hok.fresh (qj _))
theorem aZ6 {l:Expr}{tl:TE} (hl:PE X l tl):PI X tg l (bG8 X.K tl):=by
 intro pins s σ H R I h;refine thn (hl pins s σ H _ I h) λ v s1=>ex5 λ x H1 I1 r1 q1=>?_
 obtain⟨a,e,⟨xs,hq⟩,q⟩:=q1;subst e;cases r1;obtain⟨its,rv,p,hz⟩:=I1.tuple hq;refine wpAny_pyIter_tuple (show s1.heap.IsTuple a its.toArray from p) ?_;refine⟨s1.heap.objs.size,[s1.heap.objs.size],_,_,H1,rfl,I1.kept (t':=s1.toks) λ b o e=>qf _ e,T_7 a _,⟨_,qk _ rfl,rfl,rfl⟩,λ b hb=>?_,q⟩
 have e:b=s1.heap.objs.size:=by simpa using hb
 subst e;exact I1.fpOk (qj _) (I1.hok.fresh (qj _))
theorem O_7 {pins:List (Addr×Obj)}{σ:St}{H:Hp}{s:Shared}{R:It->Hp->Prop}{E:Value->Shared->Prop}{lo hi:Int}{t u v:Tok}{tk:Nat} (I:Inv X pins σ H s) (h1:-(2 ^ 62)<=lo) (h2:lo<2 ^ 62) (h3:-(2 ^ 62)<=hi) (h4:hi<2 ^ 62)
  (q:R (Itr lo (hi-lo).toNat) H):wpAny (model X.prog X.w) X.A (pyIter (.ref s.heap.objs.size)) (PIE X pins σ tg R) E {s with heap:=s.heap.push {cls:=.type "range",data:=.fields #[.int lo t,.int hi u,.int 1 v]},toks:=tk}:=by
 refine wpAny_pyIter_range (IsRange.new ..) (small_one h1 h2 h3 h4) ?_;have I1:Inv X pins σ H {s with heap:=s.heap.push {cls:=.type "range",data:=.fields #[.int lo t,.int hi u,.int 1 v]},toks:=tk}:=I.kept λ b o e=>qf _ e
 refine⟨(s.heap.push {cls:=.type "range",data:=.fields #[.int lo t,.int hi u,.int 1 v]}).objs.size,[(s.heap.push {cls:=.type "range",data:=.fields #[.int lo t,.int hi u,.int 1 v]}).objs.size],_,_,H,rfl,
  I1.kept (t':=tk) λ b o e=>qf _ e,T_8 _ lo (hi-lo).toNat,?_,λ b hb=>?_,q⟩
 ·have e1:lo+((0:Nat):Int)*1=lo:=by simp
  have e2:(((hi-lo).toNat:Nat):Int)-((0:Nat):Int)=Builtin.Range.rangeSize lo hi 1:=by rw[rangeSize_one];split <;> omega
  show IsRangeIter _ _ (lo+((0:Nat):Int)*1) ((((hi-lo).toNat:Nat):Int)-((0:Nat):Int)) 1;rw[e1,e2];exact qk _ rfl
 ·have e:b=(s.heap.push {cls:=.type "range",data:=.fields #[.int lo t,.int hi u,.int 1 v]}).objs.size:=by simpa using hb
  subst e;exact I1.fpOk (qj _) (I1.hok.fresh (qj _))
def bx3 (ta:TA):TI:=λ σ H R=>ta σ H λ vs H1=>∃ j:Int,vs=[.int j]/\-(2 ^ 62)<=j/\j<2 ^ 62/\R (Itr 0 j.toNat) H1
def bx2 (ta:TA):TI:=λ σ H R=>ta σ H λ vs H1=>∃ i j:Int,vs=[.int i,.int j]/\(-(2 ^ 62)<=i/\i<2 ^ 62/\-(2 ^ 62)<=j/\j<2 ^ 62)/\R (Itr i (j-i).toNat) H1
theorem E_1 {a:Expr}{ta:TA}{p pos:Pos} (hg:Gl X "range") (hm:X.mg "range"=none) (ha:PA X [a] ta) (hs:starEach [a] X.env=[(false,eval a X.env)]:=by rfl):PI X tg (.Call (.Name "range" p) [a] [] pos) (bx3 ta):=by
 intro pins s σ H R I h;refine Call_ (n_3 I hg hm boot_range (PyProof.Rows.callWith_type1 (thn (ha pos pins s σ H _ I h) λ us s1=>ex5 λ vs H1 I1 r1 q1=>?_) hs rfl))
 obtain⟨j,e,q1,q2,q⟩:=q1;subst e;cases r1 with
 |cons r rr =>
  cases rr;obtain⟨t,rfl⟩:=r;exact call_range_1 (O_7 I1 (by omega) (by omega) q1 q2 (by simpa using q))
theorem ac0 {a b:Expr}{ta:TA}{p pos:Pos} (hg:Gl X "range") (hm:X.mg "range"=none) (ha:PA X [a,b] ta) (hs:starEach [a,b] X.env=[(false,eval a X.env),(false,eval b X.env)]:=by rfl) (hs2:starEach [b] X.env=[(false,eval b X.env)]:=by rfl) :
  PI X tg (.Call (.Name "range" p) [a,b] [] pos) (bx2 ta):=by
 intro pins s σ H R I h;refine Call_ (n_3 I hg hm boot_range (PyProof.Rows.callWith_type1 (thn (ha pos pins s σ H _ I h) λ us s1=>ex5 λ vs H1 I1 r1 q1=>?_) (by rw[hs,hs2]) (by rw[hs2];rfl)))
 obtain⟨i,j,e,⟨q1,q2,q3,q4⟩,q⟩:=q1;subst e;cases r1 with
 |cons r rr =>
  cases rr with
  |cons r' rr =>
   cases rr;obtain⟨t,rfl⟩:=r;obtain⟨t',rfl⟩:=r';exact call_range_2 (O_7 I1 q1 q2 q3 q4 q)
def bO6 (wi:TI) (g:TG) (tb:TS):TS:=λ D σ H=>wi σ H λ J H1=>∃ W:Nat->Nat->St->Hp->Prop,(∃ m,W 0 m σ H1)/\∀ i m σ H,W i m σ H ->
 (J.stop i H/\D.nx σ H)\/(J.go i H/\∃ N:St->Hp->Prop,(∀ σ' H',N σ' H'->∃ m',m'<m/\W (i+1) m' σ' H')/\∀ x H',J.yld i H x H'->g x σ H' λ σ2 H2=>tb {D with nx:=N,ct:=N,bk:=D.nx} σ2 H2)
def E_0 (fp:List Addr) (h:Heap):List (Addr×Obj):=fp.filterMap λ b=>(h.get? b).map λ o=>(b,o)
theorem m_7 {fp:List Addr}{h:Heap}{b:Addr}{o:Obj} (hb:b∈fp) (e:h.get? b=some o):(b,o)∈E_0 fp h:=List.mem_filterMap.mpr ⟨b,hb,by rw[e];rfl⟩
theorem ac9 {fp:List Addr}{h:Heap}{p:Addr×Obj} (hp:p∈E_0 fp h):p.1∈fp/\h.get? p.1=some p.2:=by
 obtain⟨b,hb,e⟩:=List.mem_filterMap.mp hp;cases q:h.get? b with
 |none=>rw[q] at e;cases e
 |some o =>
  rw[q] at e;have e':(b,o)=p:=qi e;subst e';exact⟨hb,q⟩
theorem Inv.pinned {pins:List (Addr×Obj)}{σ:St}{H:Hp}{s:Shared}{fp:List Addr} (I:Inv X pins σ H s) (hf:∀ b∈fp,FpOk X pins H b) (ho:∀ b∈fp,∃ o,s.heap.get? b=some o/\∀ v,o.data≠.cell v):Inv X (pins++E_0 fp s.heap) σ H s :=
 I.pins_of λ p hp=>(qx hp).elim (λ z=>I.pin p (qo _ z)) λ z=>by
  obtain⟨hb,e⟩:=ac9 z;obtain⟨f0,f1,f2,_⟩:=hf p.1 hb;obtain⟨o,e',d⟩:=ho p.1 hb;rw[e] at e';cases e';exact⟨e,f0,f1,f2,d⟩
theorem Inv.unpinned {pins pl:List (Addr×Obj)}{σ:St}{H:Hp}{s:Shared} (I:Inv X (pins++pl) σ H s):Inv X pins σ H s:=I.pins_of λ p hp=>I.pin p (qo _ (List.mem_append_left _ hp))
theorem P_0 {iter:Expr}{body:List Stmt}{wi:TI}{g:TG}{tb:TS}{pos:Pos} (hp:PassesOwn (model X.prog X.w) X.A X.env X.xe) (hc:X.calm=true) (hi:PI X tg iter wi) (hg:PG X tg g) (hb:PSs X body tb)
  (hs:∀ x,foldedSetIterable iter X.env x=pure x:=by intro _;rfl):PS X (.For tg iter body [] pos) (bO6 wi g tb):=by
 intro pins s σ H D I h;refine wpAny_For (thn (hi pins s σ H _ I h) λ v s1 h1=>thn h1 λ itv s2 h2=>?_) hs
 obtain⟨it,fp,tn,J,H2,e,I2,T,st2,f2,W,⟨m0,w0⟩,turn⟩:=h2;subst e;have stat:∀ {H':Hp},(∀ b∈fp,H' b=none)->∀ b∈fp,FpOk X pins H' b:=λ hn b hb=>⟨hn b hb,(f2 b hb).2⟩
 refine codeAny_forLoop_any (λ n s'=>∃ i σ' H',Inv X pins σ' H' s'/\tn i s'.heap/\(∀ b∈fp,H' b=none)/\W i n σ' H') ?_ m0 ⟨0,σ,H2,I2,st2,λ b hb=>(f2 b hb).1,w0⟩
 rintro n s3 ⟨i,σ3,H3,I3,st3,fr3,w3⟩
 rcases turn i n σ3 H3 w3 with ⟨stop,qn⟩ | ⟨go,N,hN,step⟩
 ·refine wpAny_passesOwn hp (thn (T.done X rfl rfl rfl hc i pins s3 σ3 H3 X.xe I3 (stat fr3) st3 stop) λ r s4 hh0_=>?_)
  obtain⟨hr,I4⟩:=hh0_;subst hr;exact wpAny_execs_nil ⟨σ3,H3,I4,qn⟩
 ·refine wpAny_passesOwn hp (thn (T.item X rfl rfl rfl hc i pins s3 σ3 H3 X.xe I3 (stat fr3) st3 go) λ r s4 hh0_=>?_)
  obtain⟨u,hr,h4⟩:=hh0_;subst hr;refine wpAny_passesOwn hp (thn h4 λ _ s5 hh0_=>?_)
  obtain⟨x,H5,I5,r5,y5,st5,fr5⟩:=hh0_;have I5':=I5.pinned (stat fr5) (T.obj _ _ st5);refine wpAny_passesOwn hp (thn (hg _ s5 σ3 H5 x u _ I5' r5 (step x H5 y5)) λ _ s6 hh0_=>?_)
  obtain⟨σ6,H6,I6,q6⟩:=hh0_;refine wpAny_passesOwn hp (thn (hb _ s6 σ6 H6 _ I6 q6) λ f s7 q7=>?_)
  have again:∀ {σ7:St}{H7:Hp},Inv X (pins++E_0 fp s5.heap) σ7 H7 s7->N σ7 H7->∃ m,m<n/\∃ i σ' H',Inv X pins σ' H' s7/\tn i s7.heap/\(∀ b∈fp,H' b=none)/\W i m σ' H':=λ {σ7 H7} I7 n7=>by
   obtain⟨m',hm,w7⟩:=hN σ7 H7 n7;refine⟨m',hm,i+1,σ7,H7,I7.unpinned,T.keep _ _ _ st5 λ b hb o e=>(I7.pin (b,o) (qo _ (qo _ (m_7 hb e)))).1,λ b hb=>?_,w7⟩
   obtain⟨o,e,d⟩:=T.obj _ _ st5 b hb;exact (I7.pin (b,o) (qo _ (qo _ (m_7 hb e)))).2.1
  cases f with
  |next=>obtain⟨σ7,H7,I7,n7⟩:=q7;exact again I7 n7
  |cont=>obtain⟨σ7,H7,I7,n7⟩:=q7;exact again I7 n7
  |brk=>obtain⟨σ7,H7,I7,q7⟩:=q7;exact⟨σ7,H7,I7.unpinned,q7⟩
  |ret v=>obtain⟨x7,σ7,H7,I7,r7,q7⟩:=q7;exact⟨x7,σ7,H7,I7.unpinned,r7,q7⟩
end
abbrev R2:=V->V->Hp->VK->Prop
def OpR (X:Cx) (f:Value->Value->Sem Value) (r:R2):Prop :=
 ∀ (pins:List (Addr×Obj)) (s:Shared) (σ:St) (H:Hp) (x y:V) (v u:Value) (Q:VK),Inv X pins σ H s->RelV x v->RelV y u->r x y H Q ->
  wpAny (model X.prog X.w) X.A (f v u) (EP X pins σ Q) X.xe s
def UnR (X:Cx) (f:Value->Sem Value) (r:V->Hp->VK->Prop):Prop :=
 ∀ (pins:List (Addr×Obj)) (s:Shared) (σ:St) (H:Hp) (x:V) (v:Value) (Q:VK),Inv X pins σ H s->RelV x v->r x H Q ->
  wpAny (model X.prog X.w) X.A (f v) (EP X pins σ Q) X.xe s
def CallR (X:Cx) (f:Value) (r:List V->Hp->VK->Prop):Prop :=
 ∀ (pins:List (Addr×Obj)) (s:Shared) (σ:St) (H:Hp) (xs:List V) (us:List Value) (Q:VK),Inv X pins σ H s->Vals xs us->r xs H Q ->
  wpAny (model X.prog X.w) X.A (call f us) (EP X pins σ Q) X.xe s
def bX0 (X:Cx) (r:V->Hp->(Bool->Hp->Prop)->Prop):Prop :=
 ∀ (pins:List (Addr×Obj)) (s:Shared) (σ:St) (H:Hp) (x:V) (v:Value) (Q:Bool->Hp->Prop),Inv X pins σ H s->RelV x v->r x H Q ->
  wpAny (model X.prog X.w) X.A (truthy v) (TP X pins σ Q) X.xe s
def tOp (r:R2) (ta tb:TE):TE:=λ σ H Q=>ta σ H λ x H1=>tb σ H1 λ y H2=>r x y H2 Q
def tUn (r:V->Hp->VK->Prop) (ta:TE):TE:=λ σ H Q=>ta σ H λ x H1=>r x H1 Q
def rI (C:Int->Int->Prop) (g:Int->Int->V):R2:=λ x y H Q=>∃ i j,x=.int i/\y=.int j/\C i j/\Q (g i j) H
def rI0 (g:Int->Int->V):R2:=λ x y H Q=>∃ i j,x=.int i/\y=.int j/\Q (g i j) H
def rU (g:Int->V):V->Hp->VK->Prop:=λ x H Q=>∃ i,x=.int i/\Q (g i) H
section
variable {X:Cx}{a b c:Expr}{ta tb tc:TE}{pos:Pos}
theorem bB1 (ha:PE X a ta) (hb:PE X b tb) {pins:List (Addr×Obj)}{s:Shared}{σ:St}{H:Hp}{R:V->V->Hp->Prop} (I:Inv X pins σ H s)
  (h:ta σ H λ x H1=>tb σ H1 λ y H2=>R x y H2) {Q:Value->Shared->Prop}{f:Value->Value->Sem Value}
  (hf:∀ v u s2 x y H2,Inv X pins σ H2 s2->RelV x v->RelV y u->R x y H2->wpAny (model X.prog X.w) X.A (f v u) Q X.xe s2) :
  wpAny (model X.prog X.w) X.A (eval a X.env) (λ v s₁=>wpAny (model X.prog X.w) X.A (eval b X.env) (λ u s₂=>wpAny (model X.prog X.w) X.A (f v u) Q X.xe s₂) X.xe s₁) X.xe s:=by
 refine thn (ha pins s σ H _ I h) λ v s1=>ex5 λ x H1 I1 r1 q1=>?_
 refine thn (hb pins s1 σ H1 _ I1 q1) λ u s2=>ex5 λ y H2 I2 r2 q2=>?_
 exact hf v u s2 x y H2 I2 r1 r2 q2
theorem ar5 {op:Operator}{r:R2} (ho:OpR X (binaryOp op) r) (ha:PE X a ta) (hb:PE X b tb):PE X (.BinOp a op b pos) (tOp r ta tb):=by
 intro pins s σ H Q I h;exact wpAny_BinOp (bB1 ha hb I h λ v u s2 x y H2 I2 rx ry q=>ho pins s2 σ H2 x y v u Q I2 rx ry q)
theorem aZ9 {op:UnaryOp}{r:V->Hp->VK->Prop} (ho:UnR X (unaryOp op) r) (ha:PE X a ta):PE X (.UnaryOp op a pos) (tUn r ta):=by
 intro pins s σ H Q I h;exact UnaryOp_ (thn (ha pins s σ H _ I h) λ v s1=>ex5 λ x H1 I1 r1 q1=>ho pins s1 σ H1 x v Q I1 r1 q1)
theorem opI {f:Value->Value->Sem Value}{C:Int->Int->Prop}{g:Int->Int->Int}
  (rule:∀ (i j:Int) (t u:Tok) (s:Shared) (Q:Value->Shared->Prop) (E:Value->Shared->Prop),C i j->Q (.int (g i j) s.toks) {s with toks:=s.toks+1}->wpAny (model X.prog X.w) X.A (f (.int i t) (.int j u)) Q E s) :
  OpR X f (rI C λ i j=>.int (g i j)):=by
 intro pins s σ H x y v u Q I rx ry h;obtain⟨i,j,rfl,rfl,hc,q⟩:=h;obtain⟨t,rfl⟩:=rx;obtain⟨t',rfl⟩:=ry;exact rule i j t t' s _ _ hc ⟨.int (g i j),H,I.tok _,⟨_,rfl⟩,q⟩
theorem bF2 {f:Value->Value->Sem Value}{g:Int->Int->Int}
  (rule:∀ (i j:Int) (t u:Tok) (s:Shared) (Q:Value->Shared->Prop) (E:Value->Shared->Prop),Q (.int (g i j) s.toks) {s with toks:=s.toks+1}->wpAny (model X.prog X.w) X.A (f (.int i t) (.int j u)) Q E s) :
  OpR X f (rI0 λ i j=>.int (g i j)):=by
 intro pins s σ H x y v u Q I rx ry h;obtain⟨i,j,rfl,rfl,q⟩:=h;obtain⟨t,rfl⟩:=rx;obtain⟨t',rfl⟩:=ry;exact rule i j t t' s _ _ ⟨.int (g i j),H,I.tok _,⟨_,rfl⟩,q⟩
theorem bk8 {f:Value->Value->Sem Value}{g:Int->Int->Bool}
  (rule:∀ (i j:Int) (t u:Tok) (s:Shared) (Q:Value->Shared->Prop) (E:Value->Shared->Prop),Q (.bool (g i j)) s->wpAny (model X.prog X.w) X.A (f (.int i t) (.int j u)) Q E s) :
  OpR X f (rI0 λ i j=>.bl (g i j)):=by
 intro pins s σ H x y v u Q I rx ry h;obtain⟨i,j,rfl,rfl,q⟩:=h;obtain⟨t,rfl⟩:=rx;obtain⟨t',rfl⟩:=ry;exact rule i j t t' s _ _ ⟨.bl (g i j),H,I,rfl,q⟩
def bX3 (i j:Int):Prop:=0<=j/\j<=1000000/\i.natAbs<2 ^ 64
def CMul (i j:Int):Prop:=(-(2 ^ 64)<i/\i<2 ^ 64)\/(-(2 ^ 64)<j/\j<2 ^ 64)
theorem CMul.ok {i j:Int} (h:CMul i j):IntMulOk i j:=by
 rcases h with ⟨h1,h2⟩ | ⟨h1,h2⟩
 ·exact .of_left (intBits_le_64 h1 h2)
 ·exact .of_right (intBits_le_64 h1 h2)
theorem op_add:OpR X (binaryOp .Add) (rI0 λ i j=>.int (i+j)):=bF2 λ _ _ _ _ _ _ _ q=>add_int q
theorem ba6:OpR X (binaryOp .Sub) (rI0 λ i j=>.int (i-j)):=bF2 λ _ _ _ _ _ _ _ q=>sub_int q
theorem aJ6:OpR X (binaryOp .Mod) (rI (λ _ j=>j≠0) λ i j=>.int (i.fmod j)):=opI λ _ _ _ _ _ _ _ hc q=>mod_int' hc q
theorem ba8:OpR X (binaryOp .Pow) (rI bX3 λ i j=>.int (i ^ j.toNat)):=opI λ _ _ _ _ _ _ _ hc q=>pow_int_small hc.1 hc.2.1 hc.2.2 q
theorem unI {f:Value->Sem Value}{g:Int->Int}
  (rule:∀ (i:Int) (t:Tok) (s:Shared) (Q:Value->Shared->Prop) (E:Value->Shared->Prop),Q (.int (g i) s.toks) {s with toks:=s.toks+1}->wpAny (model X.prog X.w) X.A (f (.int i t)) Q E s) :
  UnR X f (rU λ i=>.int (g i)):=by
 intro pins s σ H x v Q I rx h;obtain⟨i,rfl,q⟩:=h;obtain⟨t,rfl⟩:=rx;exact rule i t s _ _ ⟨.int (g i),H,I.tok _,⟨_,rfl⟩,q⟩
theorem ay6:UnR X (unaryOp .USub) (rU λ i=>.int (-i)):=unI λ _ _ _ _ _ q=>neg_int q
end
section
variable {X:Cx}{a b c:Expr}{ta tb tc:TE}{pos:Pos}
theorem ag7 {pins:List (Addr×Obj)}{σ:St}{H:Hp}{s:Shared}{Q:VK}{k k':Bool} (I:Inv X pins σ H s) (q:Q (.bl k) H) (e:k=k'):EP X pins σ Q (.bool k') s:=by
 subst e;exact⟨.bl k,H,I,rfl,q⟩
theorem bu2:OpR X (compareOp .Lt) (rI0 λ i j=>.bl (decide (i<j))):=bk8 λ _ _ _ _ _ _ _ q=>lt_int q
theorem bu3:OpR X (compareOp .LtE) (rI0 λ i j=>.bl (decide (i<=j))):=bk8 λ _ _ _ _ _ _ _ q=>le_int q
theorem bu4:OpR X (compareOp .Gt) (rI0 λ i j=>.bl (decide (j<i))):=bk8 λ _ _ _ _ _ _ _ q=>gt_int q
theorem bu5:OpR X (compareOp .GtE) (rI0 λ i j=>.bl (decide (j<=i))):=bk8 λ _ _ _ _ _ _ _ q=>ge_int q
theorem ac6:OpR X (compareOp .In) (λ x y H Q=>∃ i j,x=.str i/\y=.str j/\Q (.bl (!(Builtin.Str.occurrences j i 0 j.length 1).isEmpty)) H):=by
 intro pins s σ H x y v u Q I rx ry h;obtain⟨i,j,rfl,rfl,q⟩:=h;obtain⟨t,rfl⟩:=rx;obtain⟨t',rfl⟩:=ry;exact in_str (ag7 I q rfl)
theorem bb0:OpR X (compareOp .Is) (λ x y H Q=>y=.non/\Q (.bl (decide (x=.non))) H):=by
 intro pins s σ H x y v u Q I rx ry h;obtain⟨rfl,q⟩:=h;cases ry;refine is_none_gen (ag7 I q ?_);cases x <;> first
  |(cases rx;rfl)
  |(obtain⟨t,rfl⟩:=rx;rfl)
theorem aJ5:OpR X (compareOp .IsNot) (λ x y H Q=>y=.non/\Q (.bl (!decide (x=.non))) H):=by
 intro pins s σ H x y v u Q I rx ry h;obtain⟨rfl,q⟩:=h;cases ry;refine isnot_none_gen (ag7 I q ?_);cases x <;> first
  |(cases rx;rfl)
  |(obtain⟨t,rfl⟩:=rx;rfl)
theorem OpR.or {f:Value->Value->Sem Value}{r r':R2} (h:OpR X f r) (h':OpR X f r'):OpR X f (λ x y H Q=>r x y H Q\/r' x y H Q):=by
 intro pins s σ H x y v u Q I rx ry q
 rcases q with q | q
 ·exact h pins s σ H x y v u Q I rx ry q
 ·exact h' pins s σ H x y v u Q I rx ry q
theorem ad1 (b:Expr) {op:CmpOp} (h:op≠.In:=by decide) (h2:op≠.NotIn:=by decide):behindInMarks op b=false:=by
 have e1:(op==CmpOp.In)=false:=by cases op <;> first | rfl | exact absurd rfl h
 have e2:(op==CmpOp.NotIn)=false:=by cases op <;> first | rfl | exact absurd rfl h2
 cases b <;> simp[behindInMarks,e1,e2]
theorem aJ1 {op:CmpOp}{r:R2} (ho:OpR X (compareOp op) r) (ha:PE X a ta) (hb:PE X b tb) (hm:behindInMarks op b=false):PE X (.Compare a [op] [b] pos) (tOp r ta tb):=by
 intro pins s σ H Q I h;exact wpAny_Compare1 (bB1 ha hb I h λ v u s2 x y H2 I2 rx ry q=>ho pins s2 σ H2 x y v u Q I2 rx ry q) hm
def aE5 (t:TE):TT:=λ σ H Q=>t σ H λ x H'=>∃ k,x=.bl k/\Q k H'
theorem aI4 {op:CmpOp}{r:R2} (ho:OpR X (compareOp op) r) (ha:PE X a ta) (hb:PE X b tb) (hm:behindInMarks op b=false):PT X (.Compare a [op] [b] pos) (aE5 (tOp r ta tb)):=by
 intro pins s σ H Q I h;refine wpAny_isTrue_Compare1 (thn (ha pins s σ H _ I h) λ v s1=>ex5 λ x H1 I1 r1 q1=>thn (hb pins s1 σ H1 _ I1 q1) λ u s2=>ex5 λ y H2 I2 r2 q2 =>
  thn (ho pins s2 σ H2 x y v u _ I2 r1 r2 q2) λ c s3 ⟨z,H3,I3,r3,k,e,q3⟩=>?_) hm
 subst e;cases r3;exact wpAny_truthy_bool ⟨H3,I3,q3⟩
def Z_7 (r r':R2) (ta tb tc:TE):TE:=λ σ H Q=>ta σ H λ x H1=>tb σ H1 λ y H2=>r x y H2 λ z H3=>∃ k,z=.bl k /\
 (if k=true then tc σ H3 λ w' H4=>r' y w' H4 Q else Q (.bl false) H3)
theorem ar8 {op op':CmpOp}{r r':R2} (ho:OpR X (compareOp op) r) (ho':OpR X (compareOp op') r') (ha:PE X a ta) (hb:PE X b tb) (hc:PE X c tc)
  (hm:lastMarks [op,op'] [b,c]=false:=by with_unfolding_all rfl):PE X (.Compare a [op,op'] [b,c] pos) (Z_7 r r' ta tb tc):=by
 intro pins s σ H Q I h;refine Compare_chain (thn (ha pins s σ H _ I h) λ v s1=>ex5 λ x H1 I1 r1 q1=>chain_link (thn (hb pins s1 σ H1 _ I1 q1) λ u s2=>ex5 λ y H2 I2 r2 q2 =>
  thn (ho pins s2 σ H2 x y v u _ I2 r1 r2 q2) λ d s3 ⟨z,H3,I3,r3,k,e,q3⟩=>?_)) hm
 subst e;cases r3;refine wpAny_truthy_bool ?_;cases k with
 |false=>exact ite_ff ⟨.bl false,H3,I3,rfl,q3⟩
 |true=>exact ite_tt (chain_last (thn (hc pins s3 σ H3 _ I3 q3) λ w' s4=>ex5 λ z' H4 I4 r4 q4=>ho' pins s4 σ H4 y z' u w' Q I4 r2 r4 q4))
theorem ar0 {op op':CmpOp}{r r':R2} (ho:OpR X (compareOp op) r) (ho':OpR X (compareOp op') r') (ha:PE X a ta) (hb:PE X b tb) (hc:PE X c tc)
  (hm:lastMarks [op,op'] [b,c]=false:=by with_unfolding_all rfl):PT X (.Compare a [op,op'] [b,c] pos) (aE5 (Z_7 r r' ta tb tc)):=by
 intro pins s σ H Q I h;refine isTrue_chain (thn (ha pins s σ H _ I h) λ v s1=>ex5 λ x H1 I1 r1 q1=>test_link (thn (hb pins s1 σ H1 _ I1 q1) λ u s2=>ex5 λ y H2 I2 r2 q2 =>
  thn (ho pins s2 σ H2 x y v u _ I2 r1 r2 q2) λ d s3 ⟨z,H3,I3,r3,k,e,q3⟩=>?_)) hm
 subst e;cases r3;refine wpAny_truthy_bool ?_;cases k with
 |false =>
  obtain⟨k',e',q'⟩:=q3;cases e';exact ite_ff ⟨H3,I3,q'⟩
 |true =>
  refine ite_tt (test_last (thn (hc pins s3 σ H3 _ I3 q3) λ w' s4=>ex5 λ z' H4 I4 r4 q4=>thn (ho' pins s4 σ H4 y z' u w' _ I4 r2 r4 q4) λ d' s5 hh0_=>?_))
  obtain⟨z2,H5,I5,r5,k2,e2,q5⟩:=hh0_;subst e2;cases r5;exact wpAny_truthy_bool ⟨H5,I5,q5⟩
def bC1 (K:Frag) (x:V) (H:Hp) (k:Bool):Prop :=
 match x with
 |.non=>k=false
 |.bl b=>k=b
 |.int i=>k=(i != 0)
 |.str y=>y.length<=sizeLine/\k=((y.length:Int) != 0)
 |.byt y=>y.size<=sizeLine/\k=((y.size:Int) != 0)
 |.ref p=>(∃ xs,SqL K H p xs/\k=!xs.isEmpty)\/(∃ xs,SqT K H p xs/\k=!xs.isEmpty)\/∃ kvs,H p=some (.dK kvs)/\k=!kvs.isEmpty
 |_=>False
theorem V_8 {κ:Type}{kvs:List (κ×V)}{vs:List (κ×Value)} (r:KV kvs vs):(!vs.isEmpty)=!kvs.isEmpty:=by
 cases r <;> rfl
theorem y_0 {xs:List V}{its:List Value} (r:Vals xs its):(!its.toArray.isEmpty)=!xs.isEmpty:=by
 cases r <;> simp
theorem x_8:(sizeLine:Nat)<2 ^ 63:=by rw[sizeLine_eq];decide
theorem ay9:bX0 X (λ x H Q=>∃ k,bC1 X.K x H k/\Q k H):=by
 intro pins s σ H x v Q I rx h;obtain⟨k,e,q⟩:=h;have hl:=x_8;have hs:sizeLine=16777216:=sizeLine_eq;cases x with
 |non =>
  cases rx;have e':k=false:=e;subst e';exact truthy_none ⟨H,I,q⟩
 |bl b =>
  cases rx;have e':k=b:=e;subst e';exact wpAny_truthy_bool ⟨H,I,q⟩
 |int i =>
  obtain⟨t,rfl⟩:=rx;have e':k=(i != 0):=e;subst e';exact PySem.P.truthy_int ⟨H,I,q⟩
 |str y =>
  obtain⟨t,rfl⟩:=rx;obtain⟨hy,e'⟩:y.length<=sizeLine/\k=((y.length:Int) != 0):=e;subst e';exact PySem.P.truthy_str (by omega) ⟨H,I.tok _,q⟩
 |byt y =>
  obtain⟨t,rfl⟩:=rx;obtain⟨hy,e'⟩:y.size<=sizeLine/\k=((y.size:Int) != 0):=e;subst e';exact PySem.W.truthy_bytes (by omega) ⟨H,I.tok _,q⟩
 |ref p =>
  cases rx;have e':(∃ xs,SqL X.K H p xs/\k=!xs.isEmpty)\/(∃ xs,SqT X.K H p xs/\k=!xs.isEmpty)\/∃ kvs,H p=some (.dK kvs)/\k=!kvs.isEmpty:=e
  rcases e' with ⟨xs,hx,e'⟩ | ⟨xs,hx,e'⟩ | ⟨kvs,hx,e'⟩
  ·subst e'
   obtain⟨its,r,pl,hz⟩:=I.list hx;have hlen:=r.length;exact wpAny_truthy_list pl.isList (by simp only[List.size_toArray];omega) ⟨H,I.tok _,by rw[y_0 r];exact q⟩
  ·subst e'
   obtain⟨its,r,pl,hz⟩:=I.tuple hx;have hlen:=r.length;exact truthy_tuple pl (by simp only[List.size_toArray];omega) ⟨H,I.tok _,by rw[y_0 r];exact q⟩
  ·subst e'
   obtain⟨hz,hS,vs,r,m⟩:kvs.length<=sizeLine/\(p==sysModules)=false/\∃ vs,KV kvs vs/\s.heap.DictOf (d_9 X.prog X.w) p vs:=I.hok p _ hx;have hlen:kvs.length=vs.length:=Paired.length r;exact wpAny_truthy_dict hS m (by omega) ⟨H,I.tok _,by rw[V_8 r];exact q⟩
 |_=>exact (show False from e).elim
theorem aq9 (ha:PE X a ta) (he:∀ whole,isTrue a X.env whole=(do let v <- whole;standAt a.pos;holding [v] (truthy v))) :
  PT X a (λ σ H Q=>ta σ H λ x H'=>∃ k,bC1 X.K x H' k/\Q k H'):=by
 intro pins s σ H Q I h;exact isTrue_plain (thn (ha pins s σ H _ I h) λ v s1=>ex5 λ x H1 I1 r1 q1=>ay9 pins s1 σ H1 x v Q I1 r1 q1) (he _)
theorem op_add_str:OpR X (binaryOp .Add) (λ x y H Q=>∃ i j,x=.str i/\y=.str j/\i.length+j.length<=sizeLine/\Q (.str (i++j)) H):=by
 intro pins s σ H x y v u Q I rx ry h;obtain⟨i,j,rfl,rfl,hz,q⟩:=h;obtain⟨t,rfl⟩:=rx;obtain⟨t',rfl⟩:=ry;exact add_str (λ t' tk=>⟨.str (i++j),H,I.tok _,⟨_,rfl⟩,q⟩) hz
theorem j_6 {x:V}{us:List Value} (r:Vals [x] us):∃ u,us=[u]/\RelV x u:=by
 cases r with
 |cons r1 r2=>cases r2;exact⟨_,rfl,r1⟩
theorem aE2 {x y:V}{us:List Value} (r:Vals [x,y] us):∃ u w',us=[u,w']/\RelV x u/\RelV y w':=by
 cases r with
 |cons r1 r2 =>
  cases r2 with
  |cons r3 r4=>cases r4;exact⟨_,_,rfl,r1,r3⟩
theorem ax0:CallR X (.builtin "abs") (λ xs H Q=>∃ i,xs=[.int i] ∧ Q (.int (if i<0 then -i else i)) H):=by
 intro pins s σ H xs us Q I r h;obtain⟨i,rfl,q⟩:=h;obtain⟨u,rfl,t,rfl⟩:=j_6 r;exact call_abs_int λ u tk=>⟨.int (if i<0 then -i else i),H,I.tok _,⟨_,rfl⟩,q⟩
theorem aj5 (hc:X.calm=true):CallR X (.builtin "max") (λ xs H Q=>∃ i j,xs=[.int i,.int j] ∧ Q (.int (if j > i then j else i)) H):=by
 intro pins s σ H xs us Q I r h;obtain⟨i,j,rfl,q⟩:=h;obtain⟨u,w',rfl,⟨t,rfl⟩,⟨t',rfl⟩⟩:=aE2 r;refine max_two_ints (I.ok.hd hc) λ h' tk k=>⟨_,H,I.kept k,?_,q⟩
 by_cases hj:j > i
 ·rw[if_pos hj,if_pos hj];exact⟨_,rfl⟩
 ·rw[if_neg hj,if_neg hj];exact⟨_,rfl⟩
theorem aj3 (hc:X.calm=true):CallR X (.builtin "min") (λ xs H Q=>∃ i j,xs=[.int i,.int j] ∧ Q (.int (if j<i then j else i)) H):=by
 intro pins s σ H xs us Q I r h;obtain⟨i,j,rfl,q⟩:=h;obtain⟨u,w',rfl,⟨t,rfl⟩,⟨t',rfl⟩⟩:=aE2 r;refine min_two_ints (I.ok.hd hc) λ h' tk k=>⟨_,H,I.kept k,?_,q⟩
 by_cases hj:j<i
 ·rw[if_pos hj,if_pos hj];exact⟨_,rfl⟩
 ·rw[if_neg hj,if_neg hj];exact⟨_,rfl⟩
theorem aj7:CallR X (.type "int") (λ xs H Q=>(∃ i,xs=[.int i] ∧ Q (.int i) H) ∨ ∃ k,xs=[.bl k] ∧ Q (.int (if k then 1 else 0)) H):=by
 intro pins s σ H xs us Q I r h
 rcases h with ⟨i,rfl,q⟩ | ⟨k,rfl,q⟩
 ·obtain⟨u,rfl,t,rfl⟩:=j_6 r
  exact call_int_int ⟨.int i,H,I,⟨_,rfl⟩,q⟩
 ·obtain⟨u,rfl,r1⟩:=j_6 r
  cases r1;exact call_int_bool ⟨.int (if k then 1 else 0),H,I.tok _,⟨_,rfl⟩,q⟩
end
structure ObjM (h:Heap) (x dx C:Addr) (mA:Str->Option Value):Prop where
 obj:h.get? x=some (PySem.W.instObj C dx)
 ns:h.Ns1 dx mA
 ne:dx≠x
theorem RelO.some_of {v:V}{o:Option Value} (r:RelO (some v) o):∃ u,o=some u/\RelV v u:=by
 cases o with
 |none=>exact (show False from r).elim
 |some u=>exact⟨u,rfl,r⟩
theorem RelO.none_of {o:Option Value} (r:RelO none o):o=none:=by
 cases o with
 |none=>rfl
 |some u=>exact (show False from r).elim
structure Cls (K:Frag) (C:Addr):Prop where
 pg:PySem.W.plainGet K C Str.empty=true
 hd:PySem.W.hasDictIn K C=true
 po:PySem.W.plainOver K C=true
 sa:PySem.W.findIn K (.ref C) "__setattr__"=some (some (.builtin "object.__setattr__"))
theorem Cls.get {K:Frag}{C:Addr} (c:Cls K C) (f:Str):PySem.W.plainGet K C f=true:=c.pg
structure Con (K:Frag) (C:Addr) (f:Str) (v:V) (u:Value):Prop where
 at_:PySem.W.findIn K (.ref C) f=some (some u)
 rel:RelV v u
 get:PySem.W.specialIn K u "__get__"=some none
 cp:PySem.W.copiedNames.contains f=false
structure Meth (K:Frag) (C:Addr) (m:Str) (f:Addr):Prop where
 at_:PySem.W.findIn K (.ref C) m=some (some (.ref f))
 fn:PySem.W.isFn K (.ref f)=true
 kp:keepIn K (.ref f)=true
section
variable {X:Cx}{pins:List (Addr×Obj)}{σ:St}{H:Hp}{s:Shared}{A:Around}{E:Value->Shared->Prop}{Q:Value->Shared->Prop}{c:Value}{b:Bool}
inductive TyOf (K:Frag) (H:Hp):V->Value->Prop where
 |non:TyOf K H .non (.type "NoneType")
 |bl (x:Bool):TyOf K H (.bl x) (.type "bool")
 |int (i:Int):TyOf K H (.int i) (.type "int")
 |str (x:Str):TyOf K H (.str x) (.type "str")
 |flt (x:UInt64):TyOf K H (.flt x) (.type "float")
 |lst {a:Addr}{xs:List V} (e:H a=some (.lst xs)):TyOf K H (.ref a) (.type "list")
 |frz {a:Addr}{o:Obj}{xs:List V} (e:H a=some (.frz o (.lst xs))):TyOf K H (.ref a) (.type "list")
 |tup {a:Addr}{xs:List V} (e:H a=some (.tup xs)):TyOf K H (.ref a) (.type "tuple")
 |dK {a:Addr}{kvs:List (Key×V)} (e:H a=some (.dK kvs)):TyOf K H (.ref a) (.type "dict")
 |dT {a:Addr}{kvs:List (List Key×V)} (e:H a=some (.dT kvs)):TyOf K H (.ref a) (.type "dict")
 |ins {a C dx:Addr}{fs:List (Str×V)} (e:H a=some (.ins C dx fs)) (cl:Cls K C) (ha:PySem.W.findIn K (.ref C) "__class__"=some (some (.builtin "object.__class__")))
   (hn:PySem.W.specialIn K (.builtin "object.__class__") "__get__"=some (some (.builtin "getset_descriptor.__get__"))) (htk:PySem.W.takesIn K (.builtin "object.__class__")=some true)
   (hm:PySem.W.mroIn K C (.type "object")=some true):TyOf K H (.ref a) (.ref C)
end
structure Room (k:Nat) (A:Around):Prop where
 hd:A.handled=none
 dp:A.depth+3*k+5<recursionLimit
 un:A.units+16*k+200<cLine
theorem Room.mono {j k:Nat}{A:Around} (r:Room k A) (h:j<=k):Room j A:=⟨r.hd,by have:=r.dp;omega,by have:=r.un;omega⟩
theorem Room.deeper {k:Nat}{A:Around} (r:Room (k+1) A) (env:Env):Room k (A.deeper env) :=
 ⟨r.hd,by have:=r.dp;show A.depth+1+3*k+5<_;omega,by have:=r.un;show A.units+3+16*k+200<_;omega⟩
theorem Room.in1 {k:Nat}{A:Around} (r:Room (k+1) A):Room k A.in1 :=
 ⟨r.hd,by have:=r.dp;show A.depth+3*k+5<_;omega,by have:=r.un;show A.units+1+16*k+200<_;omega⟩
theorem Room.depth {k:Nat}{A:Around} (r:Room k A):A.depth<recursionLimit:=by have:=r.dp;omega
theorem Room.units {k:Nat}{A:Around} (r:Room k A):A.units+64<cLine:=by have:=r.un;omega
def bO2:TA:=λ _ H Q=>Q [] H
def bp2 (ta:TE) (tr:TA):TA:=λ σ H Q=>ta σ H λ x H1=>tr σ H1 λ xs H2=>Q (x::xs) H2
section
variable {X:Cx}{e:Expr}{es:List Expr}{te:TE}{t:TA}{pos:Pos}
theorem o_8:PA X [] bO2:=λ _ _ _ _ H Q I h=>Calls.spliced_nil ⟨[],H,I,.nil,h⟩
theorem i_3 (ha:PE X e te) (hr:PA X es t) (hs:starEach (e::es) X.env=(false,eval e X.env)::starEach es X.env:=by rfl):PA X (e::es) (bp2 te t):=by
 intro pos pins s σ H Q I h;rw[hs];show wpAny _ _ (spliced ((false,eval e X.env)::backTo pos (starEach es X.env))) _ _ s;refine Calls.spliced_cons (thn (ha pins s σ H _ I h) λ u s1=>ex5 λ x H1 I1 r1 q1=>?_)
 exact thn (hr pos pins s1 σ H1 _ I1 q1) λ us s2=>ex5 λ xs H2 I2 r2 q2=>⟨x::xs,H2,I2,.cons r1 r2,q2⟩
def bN7 (t:TA):TE:=λ σ H Q=>t σ H λ xs H1=>xs.length<=sizeLine/\∀ p,H1 p=none->Q (.ref p) (upd H1 p (.tup xs))
def bO3 (t:TA):TE:=λ σ H Q=>t σ H λ xs H1=>xs.length<=sizeLine/\∀ p,H1 p=none->Q (.ref p) (upd H1 p (.lst xs))
theorem ba0 {x1} (h:PA X es t):PE X (.Tuple es x1 pos) (bN7 t):=by
 intro pins s σ H Q I hq;refine wpAny_Tuple_spliced (thn (h pos pins s σ H _ I hq) λ us s1 ⟨xs,H1,I1,r,z,q⟩=>⟨by rw[<- r.length];exact z,?_⟩)
 have hf:H1 s1.heap.objs.size=none:=I1.hok.fresh (qj _);refine⟨.ref s1.heap.objs.size,upd H1 s1.heap.objs.size (.tup xs),I1.laid (t':=s1.toks) (λ b u e=>qf _ e) (qj _) ?_,rfl,q _ hf⟩
 exact⟨z,us,r,⟨_,qk _ rfl,rfl,⟨_,rfl⟩,rfl⟩⟩
theorem ac2 (h:PA X es t):PE X (.List es pos) (bO3 t):=by
 intro pins s σ H Q I hq;refine wpAny_List_spliced (thn (h pos pins s σ H _ I hq) λ us s1 ⟨xs,H1,I1,r,z,q⟩=>⟨by rw[<- r.length];exact z,?_⟩)
 have hf:H1 s1.heap.objs.size=none:=I1.hok.fresh (qj _);refine⟨.ref s1.heap.objs.size,upd H1 s1.heap.objs.size (.lst xs),I1.laid (t':=s1.toks) (λ b u e=>qf _ e) (qj _) ?_,rfl,q _ hf⟩
 exact⟨z,us,0,r,qk _ rfl⟩
end
abbrev Sp:=List V->Hp->VK->XK->Prop
abbrev CXT:=List Env->Hp->Shared->XK->Value->Shared->Prop
structure Env0 (P:Program) (w:World) (K:Frag) (mg:Str->Option Value) (base:Heap) (A:Around) (outer:List Env) (s:Shared) (H:Hp):Prop where
 frames:A.frames=some outer
 mod:Mod K mg base
 bs:∀ b o,base.get? b=some o->s.heap.get? b=some o/\H b=none
 bsz:base.objs.size<=s.heap.objs.size
 funs:s.heap.FunFrames base outer
 frf:∀ b∈frs outer,H b=none
 hok:HOk P w H s.heap
 bare:AllBare s.gens
def CE (outer:List Env) (P:Program) (w:World) (H:Hp) (s:Shared) (Q:VK) (u:Value) (s':Shared):Prop :=
 ∃ v H',s'.os=s.os/\AllBare s'.gens/\Un (frs outer) [] H H' s.heap s'.heap/\HOk P w H' s'.heap/\RelV v u/\Q v H'
def CR (CX:CXT) (outer:List Env) (P:Program) (w:World) (H:Hp) (s:Shared) (Q:VK) (E:XK) (r:Result) (s':Shared):Prop :=
 match r with
 |.ok (.ret u)=>CE outer P w H s Q u s'
 |.ok _=>False
 |.error e=>CX outer H s E e s'
structure FnOk (P:Program) (w:World) (K:Frag) (mg:Str->Option Value) (base:Heap) (CX:CXT) (k:Nat) (f:Addr) (fd:FuncData) (ps:List Str) (sp:Sp):Prop where
 len:∀ vs H Q E,sp vs H Q E->vs.length=ps.length
 run:∀ (A:Around) (outer:List Env) (s:Shared) (H:Hp) (args:Args) (us:List Value) (vs:List V) (Q:VK) (E:XK),Room k A->Env0 P w K mg base A outer s H->BindsTo s fd args (ps.zip us)->Vals vs us->sp vs H Q E ->
  codeAny (model P w) A (.call (.ref f) args) (CR CX outer P w H s Q E) s
theorem FnOk.mono {P:Program}{w:World}{K:Frag}{mg:Str->Option Value}{base:Heap}{CX:CXT}{j k:Nat}{f:Addr}{fd:FuncData}{ps:List Str}{sp:Sp} (F:FnOk P w K mg base CX j f fd ps sp) (h:j<=k) :
  FnOk P w K mg base CX k f fd ps sp:=⟨F.len,λ A outer s H args us vs Q E hr=>F.run A outer s H args us vs Q E (hr.mono h)⟩
theorem FnOk.imp {P:Program}{w:World}{K:Frag}{mg:Str->Option Value}{base:Heap}{CX:CXT}{k:Nat}{f:Addr}{fd:FuncData}{ps:List Str}{sp sp':Sp} (F:FnOk P w K mg base CX k f fd ps sp)
  (h:∀ vs H Q E,sp' vs H Q E->sp vs H Q E):FnOk P w K mg base CX k f fd ps sp' :=
 ⟨λ vs H Q E q=>F.len vs H Q E (h _ _ _ _ q),λ A outer s H args us vs Q E hr he hb hv hs=>F.run A outer s H args us vs Q E hr he hb hv (h _ _ _ _ hs)⟩
theorem Env0.in1 {P:Program}{w:World}{K:Frag}{mg:Str->Option Value}{base:Heap}{A:Around}{outer:List Env}{s:Shared}{H:Hp} (e:Env0 P w K mg base A outer s H) :
  Env0 P w K mg base A.in1 outer s H:=⟨e.frames,e.mod,e.bs,e.bsz,e.funs,e.frf,e.hok,e.bare⟩
section
variable {X:Cx}{pins:List (Addr×Obj)}{σ:St}{H:Hp}{s s':Shared}
theorem Inv.env0 (I:Inv X pins σ H s):Env0 X.prog X.w X.K X.mg X.base X.A X.stack s H :=
 ⟨I.ok.frames,I.ok.mod,I.bs,Nat.le_trans I.ok.bsz I.sz,I.stack,I.stkFree,I.hok,I.bare⟩
theorem Inv.after {Q:VK}{u:Value} (I:Inv X pins σ H s) (h:CE X.stack X.prog X.w H s Q u s'):EP X pins σ Q u s':=by
 obtain⟨v,H',os,bare,un,hok,r,q⟩:=h;obtain⟨hh,g,d,t,os'⟩:=s';obtain rfl:os'=s.os:=os;exact⟨v,H',I.call (h':=hh) (g':=g) (d':=d) (t':=t) (ch:=[]) un hok bare (λ b z=>absurd z (by simp)),r,q⟩
end
def bp3 (sp:Sp) (dvs:List V) (E:XK) (t:TA):TE:=λ σ H Q=>t σ H λ vs H1=>sp (vs++dvs) H1 Q E
def Binds (K:Frag) (fd:FuncData) (ps:List Str) (ds:List Value):Prop :=
 ∀ (s:Shared) (us:List Value),K.In s.heap->(us++ds).length=ps.length->BindsTo s fd ⟨us,[]⟩ (ps.zip (us++ds))
theorem Binds.all {K:Frag}{fd:FuncData}{ps:List Str} (h:∀ us:List Value,us.length=ps.length->bindArgs fd ⟨us,[]⟩=pure (ps.zip us)):Binds K fd ps []:=λ s us _ hl=>by
 rw[List.append_nil] at hl ⊢;exact .of_eq (h us hl)
def ak9 (CX:CXT) (X:Cx) (E:XK):Prop:=∀ (pins:List (Addr×Obj)) (σ:St) (H:Hp) (s:Shared) (e:Value) (s':Shared),Inv X pins σ H s->CX X.stack H s E e s'->X.xe e s'
section
variable {X:Cx}{CX:CXT}{k:Nat}{f C:Addr}{fd:FuncData}{ps:List Str}{sp:Sp}{dvs:List V}{ds:List Value}{E:XK}{x m:Str}{p pos apos:Pos}{e o:Expr}{es:List Expr}{ta:TE}{t:TA}
theorem aX9 {pins:List (Addr×Obj)}{σ:St}{H:Hp}{s:Shared}{Q:VK}{us:List Value}{vs:List V} (F:FnOk X.prog X.w X.K X.mg X.base CX k f fd ps sp) (hr:Room k X.A) (hb:Binds X.K fd ps ds) (hd:Vals dvs ds) (hx:ak9 CX X E)
  (I:Inv X pins σ H s) (r:Vals vs us) (h:sp (vs++dvs) H Q E):wpAny (model X.prog X.w) X.A (call (.ref f) us) (EP X pins σ Q) X.xe s:=by
 have r2:Vals (vs++dvs) (us++ds):=r.append hd;have hl:(us++ds).length=ps.length:=by rw[<- r2.length];exact F.len _ _ _ _ h
 refine wpAny_call (codeAny_mono (F.run X.A X.stack s H ⟨us,[]⟩ (us++ds) (vs++dvs) Q E hr I.env0 (hb s us I.kIn hl) r2 h) λ r s' hq=>?_)
 cases r with
 |error e=>exact hx pins σ H s e s' I hq
 |ok fl =>
  cases fl with
  |ret u=>exact I.after hq
  |next=>exact False.elim hq
  |brk=>exact False.elim hq
  |cont=>exact False.elim hq
theorem K_0 (F:FnOk X.prog X.w X.K X.mg X.base CX k f fd ps sp) (hr:Room k X.A) (hg:Gl X x) (hm:X.mg x=some (.ref f)) (hk:keepIn X.K (.ref f)=true) (hb:Binds X.K fd ps ds) (hd:Vals dvs ds) (hx:ak9 CX X E)
  (ha:PA X (e::es) t) (hdb:(x==("__debug__":Str))=false:=by decide) (he:starEach (e::es) X.env=(false,eval e X.env)::starEach es X.env:=by rfl) (hpl:(backTo pos (starEach es X.env)).any (·.1)=false:=by rfl) :
  PE X (.Call (.Name x p) (e::es) [] pos) (bp3 sp dvs E t):=by
 intro pins s σ H Q I h;refine wpAny_Call_Name_kw (B_0 I hg hm ?_ hdb);refine PySem.W.callWith_K (h₀:=X.base) I.ok.mod.kin hk (thn (ha pos pins s σ H _ I h) λ us s1=>ex5 λ vs H1 I1 r q=>⟨I1.kIn,?_⟩) he hpl
 exact aX9 F hr hb hd hx I1 r q
structure Mk (K:Frag) (C f:Addr):Prop where
 makes:PySem.W.makesIn K C=true
 init:PySem.W.findIn K (.ref C) "__init__"=some (some (.ref f))
 fn:PySem.W.isFn K (.ref f)=true
 kp:keepIn K (.ref C)=true
end
def PK (X:Cx) (kws:List Keyword) (t:TA):Prop :=
 ∀ (pos:Pos) (pins:List (Addr×Obj)) (s:Shared) (σ:St) (H:Hp) (Q:List V->Hp->Prop),Inv X pins σ H s->t σ H Q->wpAny (model X.prog X.w) X.A (evalAll ((backToKw pos (keywordEach kws X.env)).map (·.2))) (AP X pins σ Q) X.xe s
section
variable {X:Cx}{CX:CXT}{k:Nat}{f C:Addr}{fd:FuncData}{ps ks:List Str}{sp:Sp}{E:XK}{x m:Str}{p pos apos kpos:Pos}{e o:Expr}{es:List Expr}{kws:List Keyword}{te ta:TE}{t tk:TA}{nm:Option Str}
structure KBinds (K:Frag) (fd:FuncData) (ps ks:List Str) (g:List Value->List Value->List Value) (gV:List V->List V->List V):Prop where
 to:∀ (s:Shared) (us ws:List Value),K.In s.heap->(g us ws).length=ps.length->BindsTo s fd ⟨us,ks.zip ws⟩ (ps.zip (g us ws))
 rel:∀ {vs:List V}{us:List Value}{zs:List V}{ws:List Value},Vals vs us->Vals zs ws->Vals (gV vs zs) (g us ws)
variable {g:List Value->List Value->List Value}{gV:List V->List V->List V}
end
structure FnScope (N P:List Str) (sc:Scope):Prop where
 kind:sc.kind=.function
 co:sc.isCoroutine=false
 gen:sc.isGenerator=false
 nd:N.Nodup
 pre:N.take P.length=P
 par:∀ x∈P,sc.names.lookup x=some .local\/sc.names.lookup x=some .cell
 nofree:∀ y∈sc.names,y.2≠.free
theorem H_6 {kindOf:Str->Option NameKind}{x:Str}:∀ {binds:List (Str×Value)}{m:Str->Option Value},(∀ v,(x,v)∉binds)->bindL kindOf binds m x=m x
 |[],_,_=>rfl
 |(n,v)::r,m,h=>by
  unfold bindL;rw[H_6 λ w hw=>h w (List.mem_cons_of_mem _ hw)]
  split
  ·have:x≠n:=by rintro rfl;exact h v qg
   simp[this]
  ·rfl
theorem H_8 {kindOf:Str->Option NameKind}{x:Str}:∀ {binds:List (Str×Value)}{m:Str->Option Value},(∀ v,(x,v)∉binds)->bindC kindOf binds m x=m x
 |[],_,_=>rfl
 |(n,v)::r,m,h=>by
  unfold bindC;rw[H_8 λ w hw=>h w (List.mem_cons_of_mem _ hw)]
  split
  ·rfl
  ·have:x≠n:=by rintro rfl;exact h v qg
   simp[this]
theorem H_7 {kindOf:Str->Option NameKind}{x:Str}{v:Value}:∀ {P:List Str}{vs:List Value}{i:Nat}{m:Str->Option Value},P.Nodup->P[i]?=some x->vs[i]?=some v->kindOf x=some .local ->
  bindL kindOf (P.zip vs) m x=some v
 |[],_,_,_,_,h,_,_=>by simp at h
 |_::_,[],_,_,_,_,h,_=>by simp at h
 |p::P,w::vs,0,m,nd,h1,h2,hk=>by
  simp at h1 h2;subst h1;subst h2;show bindL kindOf ((p,w)::P.zip vs) m p=_;unfold bindL;rw[H_6 λ v hv=>(List.nodup_cons.mp nd).1 (List.of_mem_zip hv).1,if_pos hk]
  simp
 |p::P,w::vs,i+1,m,nd,h1,h2,hk=>by
  show bindL kindOf ((p,w)::P.zip vs) m x=_;unfold bindL;exact H_7 (i:=i) (List.nodup_cons.mp nd).2 (by simpa using h1) (by simpa using h2) hk
theorem H_9 {kindOf:Str->Option NameKind}{x:Str}{v:Value}:∀ {P:List Str}{vs:List Value}{i:Nat}{m:Str->Option Value},P.Nodup->P[i]?=some x->vs[i]?=some v->kindOf x≠some .local ->
  bindC kindOf (P.zip vs) m x=some v
 |[],_,_,_,_,h,_,_=>by simp at h
 |_::_,[],_,_,_,_,h,_=>by simp at h
 |p::P,w::vs,0,m,nd,h1,h2,hk=>by
  simp at h1 h2;subst h1;subst h2;show bindC kindOf ((p,w)::P.zip vs) m p=_;unfold bindC;rw[H_8 λ v hv=>(List.nodup_cons.mp nd).1 (List.of_mem_zip hv).1,if_neg hk]
  simp
 |p::P,w::vs,i+1,m,nd,h1,h2,hk=>by
  show bindC kindOf ((p,w)::P.zip vs) m x=_;unfold bindC;exact H_9 (i:=i) (List.nodup_cons.mp nd).2 (by simpa using h1) (by simpa using h2) hk
def start (N:List Str) (vs:List V):St:=vs.map some++List.replicate (N.length-vs.length) none
def aC7 (CX:CXT) (P:Program) (w:World) (K:Frag) (mg:Str->Option Value) (base:Heap) (N:List Str) (qual:Str) (scope:Scope) (f:Addr) (cd:Value) (A:Around) (outer:List Env) (s:Shared) (H:Hp) (E:XK):Cx where
 prog:=P
 w:=w
 K:=K
 mg:=mg
 base:=base
 A:=A.deeper (envOfC qual scope s.heap.objs.size f cd)
 N:=N
 s₀:=s
 H₀:=H
 env:=envOfC qual scope s.heap.objs.size f cd
 outer:=outer
 stack:=envOfC qual scope s.heap.objs.size f cd::outer
 ex:=[]
 calm:=true
 fn:=λ _=>true
 pn:=[]
 xe:=λ e s'=>wpAny (model P w) (A.deeper (envOfC qual scope s.heap.objs.size f cd)) (leaving (envOfC qual scope s.heap.objs.size f cd) e) (λ _ s''=>CX outer H s E e s'') (λ e' s''=>CX outer H s E e' s'') s'
theorem S_5 {sc:Scope}{n:Nat}{x:Str} (h:sc.names.lookup x=some .cell):∃ c,(cellsFrom n sc.names []).lookup x=some c:=by
 have q:=PySem.W.cellsFrom_some sc.names n [] (.inl h);exact Option.isSome_iff_exists.mp q
theorem af4 {CX:CXT}{P:Program}{w:World}{K:Frag}{mg:Str->Option Value}{base:Heap}{N ps:List Str}{qual:Str}{scope:Scope}{f:Addr}{cd:Value}{A:Around}{outer:List Env}{s s1:Shared}{H:Hp}{E:XK}{us:List Value}{vs:List V}
  (S:FnScope N ps scope) (hd:A.handled=none) (e0:Env0 P w K mg base A outer s H) (hl:vs.length=ps.length) (r:Vals vs us)
  (x:InCallC s s.heap.objs.size (bindL (envOfC qual scope s.heap.objs.size f cd).kindOf (ps.zip us) λ _=>none) (cellsFrom (s.heap.objs.size+1) scope.names []) (bindC (envOfC qual scope s.heap.objs.size f cd).kindOf (ps.zip us) λ _=>none) s1) :
  Inv (aC7 CX P w K mg base N qual scope f cd A outer s H E) [] (start N vs) H s1:=by
 have hpl:ps.length<=N.length:=by have:=congrArg List.length S.pre;rw[List.length_take] at this;omega
 obtain⟨h1,tk,rfl,hk⟩:=x.done;have noA:∀ b:Addr,b∉(aC7 CX P w K mg base N qual scope f cd A outer s H E).ex:=λ b z=>absurd (show b∈([]:List Addr) from z) (by simp)
 refine⟨⟨e0.mod,S.kind,rfl,rfl,qj _,λ y z c h1 h2=>?_,λ y hy=>?_,λ y c _ h=>?_,λ _=>hd,Around.frames_deeper e0.frames,.inr ⟨rfl,rfl⟩,λ b z=>absurd z (noA b),e0.bs,e0.bsz,λ b _ _=>noA b,λ b z=>absurd z (noA b),e0.funs,e0.frf⟩,
  rfl,e0.bare,Un.kept hk,⟨_,x.toInCall.ns,λ i y v h1 h2 h3=>?_⟩,λ y c h=>⟨_,x.cell y c h⟩,e0.hok.fresh (qj _),λ y c h=>?_,λ p hp=>absurd (show p∈([]:List (Addr×Obj)) from hp) (by simp),e0.hok.kept hk,?_⟩
 ·exact name_of_addr x.apart (PySem.mem_of_lookup h1) (PySem.mem_of_lookup h2)
 ·have hy:scope.names.lookup y=some .cell\/scope.names.lookup y=some .free:=hy
  rcases hy with hy | hy
  ·exact S_5 hy
  ·exact absurd rfl (S.nofree _ (PySem.mem_of_lookup hy))
 ·exact Nat.le_of_lt (x.above y c (PySem.mem_of_lookup h))
 ·have hi:i<vs.length:=by
   unfold start at h2
   by_cases hi:i<vs.length
   ·exact hi
   ·rw[List.getElem?_append_right (by simpa using hi)] at h2
    rw[List.getElem?_replicate] at h2
    split at h2 <;> cases h2
  have ha:vs[i]?=some v:=by
   unfold start at h2;rw[List.getElem?_append_left (by simpa using hi),List.getElem?_map] at h2
   cases e:vs[i]? with
   |none=>rw[e] at h2;cases h2
   |some a=>rw[e] at h2;cases h2;rfl
  obtain⟨u,hu,rv⟩:=r.get ha
  have hp:ps[i]?=some y:=by
   rw[<- S.pre,List.getElem?_take_of_lt (by omega)];exact h1
  have ndP:ps.Nodup:=by rw[<- S.pre];exact S.nd.sublist (List.take_sublist _ _)
  refine⟨u,rv,?_⟩
  rcases S.par y (List.mem_of_getElem? hp) with k | k
  ·exact .inl ⟨k,H_7 ndP hp hu k⟩
  ·obtain⟨c,e⟩:=S_5 (n:=s.heap.objs.size+1) k
   refine .inr ⟨.inl k,c,e,?_⟩;have q:=x.cell y c e;rw[H_9 ndP hp hu (by show scope.names.lookup y≠_;rw[k];decide)] at q
   exact q
 ·exact e0.hok.fresh (Nat.le_of_lt (x.above y c (PySem.mem_of_lookup h)))
 ·unfold start
  show _=N.length;rw[List.length_append,List.length_map,List.length_replicate];omega
theorem bx6 {CX:CXT}{P:Program}{w:World}{K:Frag}{mg:Str->Option Value}{base:Heap}{k:Nat}{f:Addr}{name qual:Str}{params:Arguments}{body:List Stmt}{scope:Scope}{dV kV doc pm cdv ct oc:Value}{an od:Option Addr}
  {osl:Array (Option Value)}{N ps:List Str}{sp:Sp} (lk:K.lookup f=some ⟨oc,od,.func (fnOf name qual params body scope dV kV doc pm an cdv ct),osl⟩) (hcd:codeIn K cdv qual=true) (S:FnScope N ps scope)
  (len:∀ vs H Q E,sp vs H Q E->vs.length=ps.length)
  (hbody:∀ (A:Around) (outer:List Env) (s:Shared) (H:Hp) (vs:List V) (Q:VK) (E:XK),Room k (A.deeper (envOfC qual scope s.heap.objs.size f cdv))->sp vs H Q E ->
   ∃ t,PSs (aC7 CX P w K mg base N qual scope f cdv A outer s H E) body t/\t {nx:=λ _ H'=>Q .non H',rt:=Q} (start N vs) H) :
  FnOk P w K mg base CX (k+1) f (fnOf name qual params body scope dV kV doc pm an cdv ct) ps sp:=by
 refine⟨len,λ A outer s H args us vs Q E hr e0 hb r hsp=>?_⟩
 have hl:=len _ _ _ _ hsp;have KX:K.In s.heap:=e0.mod.kin.keeps λ b o e=>(e0.bs b o e).1
 have lim:s.heap.NoLimit:=e0.mod.nolimit.keeps λ b o e=>(e0.bs b o e).1
 have hkind:∀ y∈ps.zip us,scope.names.lookup y.1=some .local\/(scope.names.lookup y.1=some .cell/\((cellsFrom (s.heap.objs.size+1) scope.names []).lookup y.1).isSome=true):=λ hh0_ hy=>by
  obtain⟨n,v⟩:=hh0_
  rcases S.par n (List.of_mem_zip hy).1 with q | q
  ·exact .inl q
  ·exact .inr ⟨q,PySem.W.cellsFrom_some _ _ _ (.inl q)⟩
 refine codeAny_call_function hr.depth (KX _ _ lk) rfl S.co S.gen rfl (PySem.W.codeRec_of KX hcd) (hb _ _ _ _ ?_);refine wpAny_newFunctionEnv_cells S.kind hkind λ env he s1 x=>?_
 subst he;refine⟨lim.keeps x.toInCall.keep,codeAny_func ?_⟩;obtain⟨t,ht,hq⟩:=hbody A outer s H vs Q E (hr.deeper _) hsp;have I:Inv (aC7 CX P w K mg base N qual scope f cdv A outer s H E) [] (start N vs) H s1:=af4 S hr.hd e0 hl r x;refine wpAny_mono (ht [] s1 (start N vs) H _ I hq) (λ fl s' hs=>?_) λ e s' hs=>hs
 have fin:∀ {σ':St}{H':Hp}{v:V}{u:Value},Inv (aC7 CX P w K mg base N qual scope f cdv A outer s H E) [] σ' H' s'->RelV v u->Q v H'->CE outer P w H s Q u s' :=
  λ {σ' H' v u} J rv q=>⟨v,H',J.os,J.bare,J.base,J.hok,rv,q⟩
 cases fl with
 |ret u =>
  obtain⟨v,σ',H',J,rv,q⟩:=hs;exact fin J rv q
 |next =>
  obtain⟨σ',H',J,q⟩:=hs;exact fin (v:=V.non) (u:=Value.none) J rfl q
 |brk =>
  obtain⟨_,_,_,q⟩:=hs;exact False.elim q
 |cont =>
  obtain⟨_,_,_,q⟩:=hs;exact False.elim q
section
variable {X:Cx}{x:Str}{p pos:Pos}{e:Expr}{es:List Expr}{t:TA}{id T:String}{r:List V->Hp->VK->Prop}
def tCB (r:List V->Hp->VK->Prop) (t:TA):TE:=λ σ H Q=>t σ H λ vs H1=>r vs H1 Q
theorem z_9 (hc:CallR X (.builtin id) r) (hg:Gl X x) (hm:X.mg x=none) (hv:bootBuiltins x=some (.builtin id)) (ha:PA X (e::es) t) (hn:x≠"__name__":=by decide) (hdb:(x==("__debug__":Str))=false:=by decide)
  (he:starEach (e::es) X.env=(false,eval e X.env)::starEach es X.env:=by rfl) (hpl:(backTo pos (starEach es X.env)).any (·.1)=false:=by rfl):PE X (.Call (.Name x p) (e::es) [] pos) (tCB r t):=by
 intro pins s σ H Q I h;refine wpAny_Call_Name_kw (n_3 I hg hm hv ?_ hn hdb);exact PyProof.Rows.callWith_builtin1 (thn (ha pos pins s σ H _ I h) λ us s1=>ex5 λ vs H1 I1 r1 q1=>hc pins s1 σ H1 vs us Q I1 r1 q1) he hpl
theorem E_2 (hc:CallR X (.type T) r) (hg:Gl X x) (hm:X.mg x=none) (hv:bootBuiltins x=some (.type T)) (ha:PA X (e::es) t) (hn:x≠"__name__":=by decide) (hdb:(x==("__debug__":Str))=false:=by decide)
  (he:starEach (e::es) X.env=(false,eval e X.env)::starEach es X.env:=by rfl) (hpl:(backTo pos (starEach es X.env)).any (·.1)=false:=by rfl):PE X (.Call (.Name x p) (e::es) [] pos) (tCB r t):=by
 intro pins s σ H Q I h;refine wpAny_Call_Name_kw (n_3 I hg hm hv ?_ hn hdb);exact PyProof.Rows.callWith_type1 (thn (ha pos pins s σ H _ I h) λ us s1=>ex5 λ vs H1 I1 r1 q1=>hc pins s1 σ H1 vs us Q I1 r1 q1) he hpl
end
end L2
namespace HT
open PySem PyProof.Rows
section
variable {prog:Program}{w:World}{A:Around}{E:Value->Shared->Prop}{s:Shared}
def sIx (n d:Nat):Option Int->Nat
 |none=>d
 |some v=>if v<0 then (v+(n:Int)).toNat else min v.toNat n
theorem sIx_nat (n d k:Nat):sIx n d (some (k:Int))=min k n:=by
 show (if (k:Int)<0 then ((k:Int)+(n:Int)).toNat else min (k:Int).toNat n)=min k n;rw[if_neg (by omega),Int.toNat_natCast]
theorem sIx_le (n d:Nat) (hd:d<=n) (o:Option Int):sIx n d o<=n:=by
 cases o with
 |none=>exact hd
 |some v =>
  show (if v<0 then (v+(n:Int)).toNat else min v.toNat n)<=n
  by_cases hv:v<0
  ·rw[if_pos hv];omega
  ·rw[if_neg hv];exact Nat.min_le_right _ _
theorem clip_eq (v:Int) (n d:Nat):(if v<0 then max (v+(n:Int)) 0 else min v (n:Int))=((sIx n d (some v):Nat):Int):=by
 show (if v<0 then max (v+(n:Int)) 0 else min v (n:Int))=(((if v<0 then (v+(n:Int)).toNat else min v.toNat n):Nat):Int)
 by_cases hv:v<0
 ·simp only[if_pos hv];omega
 ·simp only[if_neg hv];omega
theorem X_5 (lo hi:Option Int) (n:Nat):Builtin.Slice.sliceAdjust lo hi 1 (n:Int)=(((sIx n 0 lo:Nat):Int),((sIx n n hi:Nat):Int)):=by
 have h1:¬ ((1:Int)<0):=by omega
 unfold Builtin.Slice.sliceAdjust;simp only[h1,if_false];refine Prod.ext ?_ ?_
 ·cases lo with
  |none=>rfl
  |some v=>exact clip_eq v n 0
 ·cases hi with
  |none=>rfl
  |some v=>exact clip_eq v n n
theorem U_4 (i j:Nat):Builtin.Slice.slicePlaces (i:Int) (j:Int) 1=j-i:=by
 unfold Builtin.Slice.slicePlaces;have h1:(1:Int) > 0:=by omega
 simp only[h1,if_true,Int.ediv_one]
 split <;> omega
theorem slicePart_ {v:Value}{o:Option Int}{Q:Option Int->Shared->Prop} (p:IsPart v o) (h:Q o s):wpAny (model prog w) A (Builtin.Slice.slicePartIndex v) Q E s:=by
 cases p with
 |none=>exact slicePart_none h
 |int i t=>exact slicePart_int h
theorem r_4 {sl:Addr}{vl vu:Value}{lo hi:Option Int}{n:Nat}{Q:Int×Int×Nat->Shared->Prop} (hs:s.heap.IsSliceOf sl vl vu .none) (pl:IsPart vl lo) (pu:IsPart vu hi)
  (h:Q (((sIx n 0 lo:Nat):Int),1,sIx n n hi-sIx n 0 lo) s):wpAny (model prog w) A (Builtin.Slice.sliceApplied (.ref sl) (pure (n:Int))) Q E s:=by
 obtain⟨os,hos,hcs,hds⟩:=id hs;unfold Builtin.Slice.sliceApplied Builtin.Slice.sliceFields;refine qb (qb (wpAny_field hos hds (x:=vl) rfl (qb (wpAny_field hos hds (x:=vu) rfl (qb (wpAny_field hos hds (x:=.none) rfl (qc ?_)))))));refine qb (slicePart_none ?_);show wpAny _ _ (if ((1:Int)==0)=true then _ else _) _ _ s;rw[if_neg (by decide)]
 refine qb (slicePart_ pl (qb (slicePart_ pu (qb (qc ?_)))));show wpAny _ _ (match Builtin.Slice.sliceAdjust lo hi 1 (n:Int) with | (lo,hi)=>pure (lo,(1:Int),Builtin.Slice.slicePlaces lo hi 1)) _ _ s
 rw[X_5 lo hi n];show wpAny _ _ (pure (((sIx n 0 lo:Nat):Int),(1:Int),Builtin.Slice.slicePlaces ((sIx n 0 lo:Nat):Int) ((sIx n n hi:Nat):Int) 1)) _ _ s;rw[U_4];exact qc h
theorem ar2 (xs:Array Value) (i k:Nat):((List.range k).filterMap λ (m:Nat)=>xs[((i:Int)+(m:Int)*1).toNat]?).toArray=((xs.toList.drop i).take k).toArray:=by
 have e:(λ (m:Nat)=>xs[((i:Int)+(m:Int)*1).toNat]?)=λ m=>xs[i+m]?:=by
  funext m
  have:((i:Int)+(m:Int)*1).toNat=i+m:=by omega
  rw[this]
 rw[e];have:=pick_run xs i k;rw[List.filterMap_map] at this;have e2:((λ x=>xs[x]?) ∘ λ x=>i+x)=λ m=>xs[i+m]?:=rfl
 rw[e2] at this;rw[this]
theorem getItem_tuple_cut {t sl:Addr}{items:Array Value}{vl vu:Value}{lo hi:Option Int}{Q:Value->Shared->Prop} (ht:IsTup s.heap t items) (hs:s.heap.IsSliceOf sl vl vu .none) (pl:IsPart vl lo) (pu:IsPart vu hi)
  (hw:¬ (sIx items.size 0 lo=0/\sIx items.size items.size hi=items.size))
  (h:Q (.ref s.heap.objs.size) {s with heap:=s.heap.push {cls:=.type "tuple",data:=.seq ((items.toList.drop (sIx items.size 0 lo)).take (sIx items.size items.size hi-sIx items.size 0 lo)).toArray}})
  (hsz:items.size<=sizeLine):wpAny (model prog w) A (getItem (.ref t) (.ref sl)) Q E s:=by
 have htake:sizeOk (.seq ((items.toList.drop (sIx items.size 0 lo)).take (sIx items.size items.size hi-sIx items.size 0 lo)).toArray):=by
  show ((items.toList.drop (sIx items.size 0 lo)).take (sIx items.size items.size hi-sIx items.size 0 lo)).toArray.size<=sizeLine;rw[List.size_toArray,List.length_take,List.length_drop,Array.length_toList];omega
 have hj:sIx items.size items.size hi<=items.size:=sIx_le _ _ (qj _) hi;obtain⟨os,hos,hcs,hds⟩:=id hs;have hTs:s.TypeIs (.ref sl) "slice":=⟨os,hos,hcs⟩;unfold getItem
 try with_reducible refine wpAny_holding ?_
 first | refine qb (qc ?_) | skip
 refine qb (wpAny_sequenceKey ht.typeIs (by decide) ?_)
 refine qb (wpAny_callSpecial?_slot (name:=Str.ofString "__getitem__") ht.typeIs PyProof.Rows.slot_tuple_getitem
  (wpAny_call_entry PyProof.Rows.slot_tuple_getitem ht.typeIs entry_tuple_getitem ?_ (args_tuple_getitem _ _)))
 show wpAny _ _ (Builtin.Tuple.tupleItemsOf (.ref t) >>= _) _ _ s;refine qb (tupleItemsOf_ ht ?_);refine qb (wpAny_typeOf hTs ?_);rw[if_pos (by decide)]
 refine qb (r_4 hs pl pu ?_)
 have hno:¬ ((((sIx items.size 0 lo:Nat):Int)==0&&(1:Int)==1&&(sIx items.size items.size hi-sIx items.size 0 lo)==items.size)=true):=by
  intro q;rw[Bool.and_eq_true,Bool.and_eq_true] at q;have q1:((sIx items.size 0 lo:Nat):Int)=0:=eq_of_beq q.1.1;have q2:sIx items.size items.size hi-sIx items.size 0 lo=items.size:=eq_of_beq q.2;exact hw ⟨by omega,by omega⟩
 show wpAny _ _ (if (((sIx items.size 0 lo:Nat):Int)==0&&(1:Int)==1&&(sIx items.size items.size hi-sIx items.size 0 lo)==items.size)=true then _ else _) _ _ s;rw[if_neg hno,ar2]
 first
  |exact qb (m:=Builtin.Tuple.tupleExact _) (wpAny_newObj_type (qc ⟨_,rfl,qc h⟩) htake)
  |exact qb (m:=Builtin.Tuple.tupleExact _) (wpAny_newObj_type (qb (qc (qc ⟨_,rfl,qc h⟩))) htake)
  |exact qb (qb (m:=Builtin.Tuple.tupleExact _) (wpAny_newObj_type (qc (qc ⟨_,rfl,qc h⟩)) htake))
  |exact qb (qb (m:=Builtin.Tuple.tupleExact _) (wpAny_newObj_type (qc ⟨_,rfl,qc h⟩) htake))
end
end HT
namespace L2
open PySem PySem.Spec PyProof.Rows
abbrev TO:=St->Hp->(Option Int->Hp->Prop)->Prop
def PO (X:Cx) (e:Option Expr) (t:TO):Prop :=
 ∀ (pins:List (Addr×Obj)) (s:Shared) (σ:St) (H:Hp) (Q:Option Int->Hp->Prop),Inv X pins σ H s->t σ H Q ->
  wpAny (model X.prog X.w) X.A (evalPart e X.env) (λ u s'=>∃ o H',Inv X pins σ H' s'/\IsPart u o/\Q o H') X.xe s
def aE6:TO:=λ _ H Q=>Q none H
def bo6 (t:TE):TO:=λ σ H Q=>t σ H λ x H1=>∃ i,x=.int i/\Q (some i) H1
theorem intsAre_of {ns:List Int}:∀ {us:List Value},Vals (ns.map V.int) us->IntsAre us ns:=by
 induction ns with
 |nil=>intro us r;rw[List.map_nil] at r;cases r;exact .nil
 |cons n ns ih =>
  intro us r;rw[List.map_cons] at r;cases r with
  |cons r1 r2 =>
   obtain⟨t,e⟩:=r1;subst e;exact .cons n t (ih r2)
section
variable {X:Cx}{e:Expr}{te:TE}{lo hi:Option Expr}{tl th:TO}{pos p2:Pos}
theorem ab9:PO X none aE6:=by
 intro pins s σ H Q I h;rw[evalPart_none];exact qc ⟨none,H,I,.none,h⟩
theorem ab8 (h:PE X e te):PO X (some e) (bo6 te):=by
 intro pins s σ H Q I hw;rw[evalPart_some];refine thn (h pins s σ H _ I hw) λ u s1=>ex5 λ x H1 I1 r1 q1=>?_
 obtain⟨i,rfl,q⟩:=q1;obtain⟨t,rfl⟩:=r1;exact⟨some i,H1,I1,.int i t,q⟩
def SlR (X:Cx) (r:V->Option Int->Option Int->Hp->VK->Prop):Prop :=
 ∀ (pins:List (Addr×Obj)) (s:Shared) (σ:St) (H:Hp) (x:V) (v vl vu:Value) (lo hi:Option Int) (sl:Addr) (Q:VK),Inv X pins σ H s->RelV x v->s.heap.IsSliceOf sl vl vu .none->IsPart vl lo->IsPart vu hi->r x lo hi H Q ->
  ∃ T id,typeLookup (.type T) "__getitem__"=pure (some (.builtin id)) ∧ s.TypeIs v T ∧ wpAny (model X.prog X.w) X.A (getItem v (.ref sl)) (EP X pins σ Q) X.xe s
theorem SlR.or {r r':V->Option Int->Option Int->Hp->VK->Prop} (h:SlR X r) (h':SlR X r'):SlR X (λ x lo hi H Q=>r x lo hi H Q\/r' x lo hi H Q):=by
 intro pins s σ H x v vl vu lo hi sl Q I rx hs pl pu q
 rcases q with q | q
 ·exact h pins s σ H x v vl vu lo hi sl Q I rx hs pl pu q
 ·exact h' pins s σ H x v vl vu lo hi sl Q I rx hs pl pu q
def tSl (r:V->Option Int->Option Int->Hp->VK->Prop) (te:TE) (tl th:TO):TE:=λ σ H Q=>te σ H λ x H1=>tl σ H1 λ l H2=>th σ H2 λ u H3=>r x l u H3 Q
theorem ar4 {r:V->Option Int->Option Int->Hp->VK->Prop} (hr:SlR X r) (he:PE X e te) (hl:PO X lo tl) (hu:PO X hi th):PE X (.Subscript e (.Slice lo hi none p2) pos) (tSl r te tl th):=by
 intro pins s σ H Q I h;refine Subscript_ (thn (he pins s σ H _ I h) λ v s1=>ex5 λ x H1 I1 r1 q1=>?_)
 refine wpAny_Slice (thn (hl pins s1 σ H1 _ I1 q1) λ vl s2=>ex5 λ l H2 I2 pl q2=>thn (hu pins s2 σ H2 _ I2 q2) λ vu s3=>ex5 λ u H3 I3 pu q3=>?_)
 rw[evalPart_none];refine qc ?_;have I4:Inv X pins σ H3 {s3 with heap:=s3.heap.push {cls:=.type "slice",data:=.fields #[vl,vu,.none]}}:=I3.kept (t':=s3.toks) λ b ob q=>qf _ q
 obtain⟨T,id,hT,ht,hg⟩:=hr pins {s3 with heap:=s3.heap.push {cls:=.type "slice",data:=.fields #[vl,vu,.none]}} σ H3 x v vl vu l u s3.heap.objs.size Q I4 r1 (Heap.IsSliceOf.new ..) pl pu q3
 show wpAny (model X.prog X.w) X.A (subscriptTail e (.Slice lo hi none p2) v (.ref s3.heap.objs.size)) (EP X pins σ Q) X.xe {s3 with heap:=s3.heap.push {cls:=.type "slice",data:=.fields #[vl,vu,.none]}}
 exact tail_any (ops:=[.ref s3.heap.objs.size,v]) ht hT hg (by with_unfolding_all rfl)
def am5 (xs:List V) (lo hi:Option Int):List V:=(xs.drop (HT.sIx xs.length 0 lo)).take (HT.sIx xs.length xs.length hi-HT.sIx xs.length 0 lo)
theorem v_2 (xs:List V) (lo hi:Option Int):(am5 xs lo hi).length<=xs.length:=by
 unfold am5;rw[List.length_take,List.length_drop];omega
def bQ8 (K:Frag):V->Option Int->Option Int->Hp->VK->Prop:=λ x lo hi H Q=>∃ a xs,x=.ref a/\SqT K H a xs /\
 ¬ (HT.sIx xs.length 0 lo=0/\HT.sIx xs.length xs.length hi=xs.length)/\∀ p,H p=none->Q (.ref p) (upd H p (.tup (am5 xs lo hi)))
theorem aW6:SlR X (bQ8 X.K):=by
 intro pins s σ H x v vl vu lo hi sl Q I rx hs pl pu h;obtain⟨a,xs,rfl,hx,hw,q⟩:=h;cases rx;obtain⟨its,r,ht,hz⟩:=I.tuple hx;have hlen:its.toArray.size=xs.length:=by rw[List.size_toArray];exact r.length.symm
 refine⟨"tuple",_,PyProof.Rows.slot_tuple_getitem.lookup,ht.typeIs,?_⟩;refine HT.getItem_tuple_cut ht hs pl pu (by rw[hlen];exact hw) ?_ (by rw[hlen];exact hz)
 rw[hlen];refine⟨.ref s.heap.objs.size,_,I.laid (t':=s.toks) (o:=.tup (am5 xs lo hi)) (λ b ob q=>qf _ q) (qj _) ?_,rfl,q _ (I.hok.fresh (qj _))⟩
 exact⟨Nat.le_trans (v_2 xs lo hi) hz,_,(r.drop (HT.sIx xs.length 0 lo)).take (HT.sIx xs.length xs.length hi-HT.sIx xs.length 0 lo),IsTuN.new _ _⟩
end
def ixN (n:Nat) (i:Int):Option Nat:=if 0<=i then (if i<n then some i.toNat else none) else if -(n:Int)<=i then some (i+n).toNat else none
def atI {α:Type} (xs:List α) (i:Int):Option α:=(ixN xs.length i).bind λ j=>xs[j]?
theorem aN0 {n:Nat}{i:Int}{j:Nat} (h:ixN n i=some j):seqIndex? i n=some j/\j<n/\-(n:Int)<=i/\i<n:=by
 unfold ixN at h
 by_cases h0:0<=i
 ·rw[if_pos h0] at h
  by_cases h1:i<n
  ·rw[if_pos h1] at h
   have e:i.toNat=j:=qi h;exact⟨by rw[seqIndex_of h0 h1,e],by omega,by omega,h1⟩
  ·rw[if_neg h1] at h;cases h
 ·rw[if_neg h0] at h
  by_cases h1:-(n:Int)<=i
  ·rw[if_pos h1] at h
   have e:(i+n).toNat=j:=qi h;exact⟨by rw[seqIndex_neg (by omega) h1,e],by omega,h1,by omega⟩
  ·rw[if_neg h1] at h;cases h
theorem M_7 {α:Type}{xs:List α}{i:Int}{v:α} (h:atI xs i=some v):∃ j,seqIndex? i xs.length=some j/\xs[j]?=some v/\j<xs.length/\-(xs.length:Int)<=i/\i<xs.length:=by
 unfold atI at h;cases e:ixN xs.length i with
 |none=>rw[e] at h;cases h
 |some j =>
  rw[e] at h;obtain⟨h1,h2,h3,h4⟩:=aN0 e;exact⟨j,h1,h,h2,h3,h4⟩
def M_9 (b:Expr):Prop:=∀ o i,subscripted b false o i=operate [o,i] (getItem o i)
def IxR (X:Cx) (r:R2):Prop :=
 ∀ (value slice:Expr) (pins:List (Addr×Obj)) (s:Shared) (σ:St) (H:Hp) (x y:V) (v u:Value) (Q:VK),Inv X pins σ H s->RelV x v->RelV y u->r x y H Q ->
  subscripted slice false v u=operate [v,u] (getItem v u)->wpAny (model X.prog X.w) X.A (subscriptTail value slice v u) (EP X pins σ Q) X.xe s
def MtR (X:Cx) (id:String) (r:V->List V->Hp->VK->Prop):Prop :=
 ∀ (pins:List (Addr×Obj)) (s:Shared) (σ:St) (H:Hp) (x:V) (xs:List V) (v:Value) (us:List Value) (Q:VK),Inv X pins σ H s->RelV x v->Vals xs us->r x xs H Q ->
  wpAny (model X.prog X.w) X.A (call (.builtin id) (v::us)) (EP X pins σ Q) X.xe s
section
variable {X:Cx}{a b:Expr}{ta tb:TE}{pos:Pos}
theorem IxR.or {r r':R2} (h:IxR X r) (h':IxR X r'):IxR X (λ x y H Q=>r x y H Q\/r' x y H Q):=by
 intro value slice pins s σ H x y v u Q I rx ry q hs
 rcases q with q | q
 ·exact h value slice pins s σ H x y v u Q I rx ry q hs
 ·exact h' value slice pins s σ H x y v u Q I rx ry q hs
theorem MtR.or {id:String}{r r':V->List V->Hp->VK->Prop} (h:MtR X id r) (h':MtR X id r'):MtR X id (λ x xs H Q=>r x xs H Q\/r' x xs H Q):=by
 intro pins s σ H x xs v us Q I rx rs q
 rcases q with q | q
 ·exact h pins s σ H x xs v us Q I rx rs q
 ·exact h' pins s σ H x xs v us Q I rx rs q
theorem bu0 {r:R2} (hr:IxR X r) (ha:PE X a ta) (hb:PE X b tb) (hs:M_9 b):PE X (.Subscript a b pos) (tOp r ta tb):=by
 intro pins s σ H Q I h;exact Subscript_ (bB1 ha hb I h λ v u s2 x y H2 I2 rx ry q=>hr a b pins s2 σ H2 x y v u Q I2 rx ry q (hs _ _))
def bE9 (K:Frag):R2:=λ x y H Q=>∃ p xs i v,x=.ref p/\y=.int i/\SqL K H p xs/\atI xs i=some v/\Q v H
def bE7 (K:Frag):R2:=λ x y H Q=>∃ p xs i v,x=.ref p/\y=.int i/\SqT K H p xs/\atI xs i=some v/\Q v H
def bE8:R2:=λ x y H Q=>∃ z i c,x=.str z/\y=.int i/\z.length<=sizeLine/\atI z.cps.toList i=some c/\Q (.str ⟨#[c]⟩) H
theorem ix_list:IxR X (bE9 X.K):=by
 intro value slice pins s σ H x y v u Q I rx ry h hs;obtain⟨p,xs,i,z,rfl,rfl,hq,he,q⟩:=h;cases rx;obtain⟨t,rfl⟩:=ry;obtain⟨its,r,pl,hz⟩:=I.list hq;obtain⟨j,h1,h2,h3,h4,h5⟩:=M_7 he;obtain⟨w,ew,rw'⟩:=r.get h2;have hl:=r.length;have hn:=x_8;have fin:EP X pins σ Q w s:=⟨z,H,I,rw',q⟩
 by_cases h0:0<=i
 ·have hj:i.toNat=j:=by
   rw[seqIndex_of h0 h5] at h1;exact qi h1
  exact item_listR pl.isList h0 (by omega) (by rw[hj];simpa using ew) fin hs
 ·have hj:(i+(its.toArray.size:Int)).toNat=j:=by
   rw[seqIndex_neg (by omega) h4] at h1
   rw[List.size_toArray,<- hl];exact qi h1
  exact subscriptTail_builtinR (x:=w) pl.isList.typeIs slot_list_getitem.lookup
   (wpAny_getItem_list_neg (Q:=λ r s'=>r=w/\EP X pins σ Q r s') pl.isList (by omega) (by rw[List.size_toArray] <;> omega) (by omega) (by rw[hj];simpa using ew) ⟨rfl,fin⟩) hs
theorem ix_tup:IxR X (bE7 X.K):=by
 intro value slice pins s σ H x y v u Q I rx ry h hs;obtain⟨p,xs,i,z,rfl,rfl,hq,he,q⟩:=h;cases rx;obtain⟨t,rfl⟩:=ry;obtain⟨its,r,pl,hz⟩:=I.tuple hq;obtain⟨j,h1,h2,h3,h4,h5⟩:=M_7 he;obtain⟨w,ew,rw'⟩:=r.get h2;have hl:=r.length;have hn:=x_8;have fin:EP X pins σ Q w s:=⟨z,H,I,rw',q⟩;exact subscriptTail_builtinR (x:=w) pl.typeIs slot_tuple_getitem.lookup
  (getItem_tuple (j:=j) (Q:=λ r s'=>r=w/\EP X pins σ Q r s') pl (by omega) (by omega) (by rw[List.size_toArray,<- hl];exact h1) (by simpa using ew) ⟨rfl,fin⟩) hs
theorem bd9:IxR X bE8:=by
 intro value slice pins s σ H x y v u Q I rx ry h hs;obtain⟨z,i,c,rfl,rfl,hz,he,q⟩:=h;obtain⟨t,rfl⟩:=rx;obtain⟨t',rfl⟩:=ry;obtain⟨j,h1,h2,h3,h4,h5⟩:=M_7 he;have hl:z.cps.toList.length=z.length:=by simp[Str.length]
 rw[hl] at h1 h4 h5;have hn:=x_8
 exact tail_any (typeIs_str s z t) slot_str_getitem.lookup (getItem_str (c:=c) (by
  have e1:decide (i < -(2 ^ 63:Int))=false:=decide_eq_false (by omega)
  have e2:decide (i>=2 ^ 63)=false:=decide_eq_false (by omega)
  rw[e1,e2,Bool.or_false]) (by rw[h1];simpa using h2) ⟨.str ⟨#[c]⟩,H,I.tok _,⟨_,rfl⟩,q⟩) hs
def rIx (K:Frag):R2:=λ x y H Q=>bE9 K x y H Q\/bE7 K x y H Q\/bE8 x y H Q
theorem be0:IxR X (rIx X.K):=ix_list.or (ix_tup.or bd9)
theorem Inv.lst {pins:List (Addr×Obj)}{σ:St}{H:Hp}{s:Shared}{p:Addr}{xs:List V} (I:Inv X pins σ H s) (h:H p=some (.lst xs)) :
  ∃ (its:List Value) (n:Nat),Vals xs its ∧ s.heap.get? p=some {cls:=.type "list",data:=.seq its.toArray n} ∧ xs.length ≤ sizeLine:=by
 obtain⟨z,its,n,r,e⟩:=I.hok p _ h;exact⟨its,n,r,e,z⟩
theorem D_4 (lo hi:Option Int) (n:Nat):(sliceBounds lo hi none n).1=((HT.sIx n 0 lo:Nat):Int)/\(sliceBounds lo hi none n).2.1=((HT.sIx n n hi:Nat):Int)/\(sliceBounds lo hi none n).2.2=1:=by
 refine⟨?_,?_,rfl⟩
 ·cases lo with
  |none=>simp[sliceBounds,HT.sIx]
  |some i =>
   simp only[sliceBounds,HT.sIx,Option.getD_none,show (1:Int) > 0 by decide,if_true]
   by_cases h:i<0
   ·simp only[h,if_true] <;> omega
   ·simp only[h,if_false] <;> omega
 ·cases hi with
  |none=>simp[sliceBounds,HT.sIx]
  |some i =>
   simp only[sliceBounds,HT.sIx,Option.getD_none,show (1:Int) > 0 by decide,if_true]
   by_cases h:i<0
   ·simp only[h,if_true] <;> omega
   ·simp only[h,if_false] <;> omega
theorem z_3 (its:List Value) (lo hi:Option Int):slicePick its.toArray lo hi none=((its.drop (HT.sIx its.length 0 lo)).take (HT.sIx its.length its.length hi-HT.sIx its.length 0 lo)).toArray:=by
 obtain⟨h1,h2,h3⟩:=D_4 lo hi its.toArray.size;unfold slicePick;rw[h1,h2,h3];simp only[sliceRange_one,pick_run,List.size_toArray] <;> rfl
def bR0 (K:Frag):V->Option Int->Option Int->Hp->VK->Prop:=λ x lo hi H Q=>∃ a xs,x=.ref a/\SqL K H a xs/\∀ p,H p=none->Q (.ref p) (upd H p (.lst (am5 xs lo hi)))
theorem sl_list:SlR X (bR0 X.K):=by
 intro pins s σ H x v vl vu lo hi sl Q I rx hs pl pu h;obtain⟨a,xs,rfl,hx,q⟩:=h;cases rx;obtain⟨its,r,ht,hz⟩:=I.list hx;have hlen:=r.length;refine⟨"list",_,slot_list_getitem.lookup,ht.isList.typeIs,?_⟩;refine wpAny_getItem_list_slice ht.isList hs pl pu .none (by simp) ?_ (by rw[List.size_toArray] <;> omega)
 rw[z_3,<- hlen];refine⟨.ref s.heap.objs.size,_,I.laid (t':=s.toks) (o:=.lst (am5 xs lo hi)) (λ b ob q=>qf _ q) (qj _) ?_,rfl,q _ (I.hok.fresh (qj _))⟩
 exact⟨Nat.le_trans (v_2 xs lo hi) hz,_,0,(r.drop (HT.sIx xs.length 0 lo)).take (HT.sIx xs.length xs.length hi-HT.sIx xs.length 0 lo),qk _ rfl⟩
def w_4:V->Bool
 |.non=>true
 |.bl _=>true
 |.int _=>true
 |.str _=>true
 |_=>false
def eqV:V->V->Bool
 |.non,.non=>true
 |.bl a,.bl b=>a==b
 |.bl a,.int b=>(if a then 1 else 0)==b
 |.int a,.bl b=>a==(if b then 1 else 0)
 |.int a,.int b=>a==b
 |.str a,.str b=>a==b
 |_,_=>false
theorem bg1 {A:Around}{s:Shared}{y x:V}{u v:Value} (ry:RelV y u) (rx:RelV x v) (fy:w_4 y=true) (fx:w_4 x=true):SeqAt.EqAt A s u v (eqV y x):=by
 cases y with
 |non =>
  cases ry;cases x with
  |non=>cases rx;exact SeqAt.EqAt.same _
  |bl b=>cases rx;exact SeqAt.EqAt.none_bool b
  |int b=>obtain⟨t,rfl⟩:=rx;exact SeqAt.EqAt.none_int b t
  |str b=>obtain⟨t,rfl⟩:=rx;exact SeqAt.EqAt.none_str b t
  |_=>exact absurd (show false=true from fx) qp
 |bl a =>
  cases ry;cases x with
  |non=>cases rx;exact SeqAt.EqAt.bool_none a
  |bl b=>cases rx;exact SeqAt.EqAt.bool_bool a b
  |int b=>obtain⟨t,rfl⟩:=rx;exact SeqAt.EqAt.bool_int a b t
  |str b=>obtain⟨t,rfl⟩:=rx;exact SeqAt.EqAt.bool_str a b t
  |_=>exact absurd (show false=true from fx) qp
 |int a =>
  obtain⟨t',rfl⟩:=ry;cases x with
  |non=>cases rx;exact SeqAt.EqAt.int_none a t'
  |bl b=>cases rx;exact SeqAt.EqAt.int_bool a t' b
  |int b=>obtain⟨t,rfl⟩:=rx;exact SeqAt.EqAt.int_int a t' b t
  |str b=>obtain⟨t,rfl⟩:=rx;exact SeqAt.EqAt.int_str a t' b t
  |_=>exact absurd (show false=true from fx) qp
 |str a =>
  obtain⟨t',rfl⟩:=ry;cases x with
  |non=>cases rx;exact SeqAt.EqAt.str_none a t'
  |bl b=>cases rx;exact SeqAt.EqAt.str_bool a t' b
  |int b=>obtain⟨t,rfl⟩:=rx;exact SeqAt.EqAt.str_int a t' b t
  |str b=>obtain⟨t,rfl⟩:=rx;exact SeqAt.EqAt.str_str a t' b t
  |_=>exact absurd (show false=true from fx) qp
 |_=>exact absurd (show false=true from fy) qp
def eqU (x:V) (u:Value):Bool:=match u with
 |.none=>eqV .non x
 |.bool b=>eqV (.bl b) x
 |.int i _=>eqV (.int i) x
 |.str z _=>eqV (.str z) x
 |_=>false
theorem aC1 {x y:V}{u:Value} (r:RelV y u) (f:w_4 y=true):eqU x u=eqV y x:=by
 cases y with
 |non=>cases r;rfl
 |bl b=>cases r;rfl
 |int i=>obtain⟨t,rfl⟩:=r;rfl
 |str z=>obtain⟨t,rfl⟩:=r;rfl
 |_=>exact absurd (show false=true from f) qp
theorem M_8 {x:V}:∀ {xs:List V}{us:List Value},Vals xs us->xs.all w_4=true->us.any (eqU x)=xs.any λ y=>eqV y x
 |_,_,.nil,_=>rfl
 |y::xs,u::us,.cons r t,f=>by
  rw[List.all_cons,Bool.and_eq_true] at f;rw[List.any_cons,List.any_cons,aC1 r f.1,M_8 t f.2]
theorem A_9 {A:Around}{s:Shared}{x:V}{v:Value} (rx:RelV x v) (fx:w_4 x=true):∀ {xs:List V}{us:List Value},Vals xs us->xs.all w_4=true->∀ u∈us,SeqAt.EqAt A s u v (eqU x u)
 |_,_,.nil,_=>λ u hu=>by cases hu
 |y::xs,u::us,.cons r t,f=>λ u' hu=>by
  rw[List.all_cons,Bool.and_eq_true] at f
  rcases qw hu with rfl | hu
  ·rw[aC1 r f.1];exact bg1 r rx f.1 fx
  ·exact A_9 rx fx t f.2 u' hu
def inV (x:V) (xs:List V):Bool:=xs.any λ y=>eqV y x
def rIn (K:Frag) (neg:Bool):R2:=λ x y H Q=>∃ p xs,y=.ref p/\(SqL K H p xs\/SqT K H p xs)/\w_4 x=true/\xs.all w_4=true/\Q (.bl (if neg then !inV x xs else inV x xs)) H
theorem ac7:OpR X (compareOp .In) (rIn X.K false):=by
 intro pins s σ H x y v u Q I rx ry h;obtain⟨p,xs,rfl,hq,fx,fs,q⟩:=h;cases ry
 rcases hq with hq | hq
 ·obtain⟨its,r,pl,hz⟩:=I.list hq
  refine SeqAt.in_listAt (eqU x) pl.isList (λ w hw=>A_9 rx fx r fs w (by simpa using hw)) ⟨.bl _,H,I,rfl,?_⟩
  rw[show its.toArray.any (eqU x)=its.any (eqU x) by simp,M_8 r fs]
  exact q
 ·obtain⟨its,r,pl,hz⟩:=I.tuple hq
  refine SeqAt.in_tupleAt (eqU x) pl (λ w hw=>A_9 rx fx r fs w (by simpa using hw)) ⟨.bl _,H,I,rfl,?_⟩
  rw[show its.toArray.any (eqU x)=its.any (eqU x) by simp,M_8 r fs]
  exact q
theorem call_len_seq:CallR X (.builtin "len") (λ xs H Q=>∃ p ys,xs=[.ref p] ∧ (SqL X.K H p ys ∨ SqT X.K H p ys) ∧ Q (.int ys.length) H):=by
 intro pins s σ H xs us Q I r h;obtain⟨p,ys,rfl,hq,q⟩:=h;obtain⟨u,rfl,rx⟩:=j_6 r;cases rx;have hn:=x_8
 rcases hq with hq | hq
 ·obtain⟨its,r',pl,hz⟩:=I.list hq
  have hlen:=r'.length;exact Calls.call_len_list pl.isList (by simp only[List.size_toArray] <;> omega) ⟨.int ys.length,H,I.tok _,⟨s.toks+1,by rw[List.size_toArray,hlen]⟩,q⟩
 ·obtain⟨its,r',pl,hz⟩:=I.tuple hq
  have hlen:=r'.length;exact len_tuple pl (by simp only[List.size_toArray] <;> omega) ⟨.int ys.length,H,I.tok _,⟨s.toks+1,by rw[List.size_toArray,hlen]⟩,q⟩
theorem H_3:CallR X (.builtin "len") (λ xs H Q=>∃ z,xs=[.str z] ∧ z.length ≤ sizeLine ∧ Q (.int z.length) H):=by
 intro pins s σ H xs us Q I r h;obtain⟨z,rfl,hz,q⟩:=h;obtain⟨u,rfl,t,rfl⟩:=j_6 r;have hn:=x_8;exact len_str (by omega) ⟨.int z.length,H,I.tok _,⟨_,rfl⟩,q⟩
theorem CallR.or {f:Value}{r r':List V->Hp->VK->Prop} (h:CallR X f r) (h':CallR X f r'):CallR X f (λ xs H Q=>r xs H Q\/r' xs H Q):=by
 intro pins s σ H xs us Q I rs q
 rcases q with q | q
 ·exact h pins s σ H xs us Q I rs q
 ·exact h' pins s σ H xs us Q I rs q
theorem H_2:CallR X (.type "list") (λ xs H Q=>∃ p ys,xs=[.ref p] ∧ (SqL X.K H p ys ∨ SqT X.K H p ys) ∧ ∀ l,H l=none → Q (.ref l) (upd H l (.lst ys))):=by
 intro pins s σ H xs us Q I r h;obtain⟨p,ys,rfl,hq,q⟩:=h;obtain⟨u,rfl,rx⟩:=j_6 r;cases rx;have fin:∀ (its:List Value),Vals ys its->ys.length<=sizeLine->∀ (h':Heap) (c':Nat),(∀ b o',s.heap.get? b=some o'->h'.get? b=some o') ->
   h'.get? s.heap.objs.size=some {cls:=.type "list",dict:=none,data:=.seq its.toArray c',slots:=#[]} → EP X pins σ Q (.ref s.heap.objs.size) {s with heap:=h'}:=λ its r' hz h' c' kp e =>
  ⟨.ref s.heap.objs.size,_,I.laid (t':=s.toks) kp (qj _) (show ObjOk X.prog X.w _ h' _ (.lst ys) from ⟨hz,its,c',r',e⟩),rfl,q _ (I.hok.fresh (qj _))⟩
 rcases hq with hq | hq
 ·obtain⟨its,r',pl,hz⟩:=I.list hq
  have hlen:=r'.length;obtain⟨o,ho,hc,n,hd⟩:=pl.isList;exact call_list_seq p (.inl rfl) ho hc hd (λ h' c' kp e=>fin its r' hz h' c' kp e) (by simp only[List.size_toArray] <;> omega)
 ·obtain⟨its,r',pl,hz⟩:=I.tuple hq
  have hlen:=r'.length;obtain⟨o,ho,hc,n,hd⟩:=pl;exact call_list_seq p (.inr rfl) ho hc hd (λ h' c' kp e=>fin its r' hz h' c' kp e) (by simp only[List.size_toArray] <;> omega)
theorem C_3:CallR X (.type "tuple") (λ xs H Q=>∃ p ys,xs=[.ref p] ∧ ((SqL X.K H p ys ∧ ∀ l,H l=none → Q (.ref l) (upd H l (.tup ys))) ∨ (SqT X.K H p ys ∧ Q (.ref p) H))):=by
 intro pins s σ H xs us Q I r h;obtain⟨p,ys,rfl,h⟩:=h;obtain⟨u,rfl,rx⟩:=j_6 r;cases rx
 rcases h with ⟨hq,q⟩ | ⟨hq,q⟩
 ·obtain⟨its,r',pl,hz⟩:=I.list hq
  have hlen:=r'.length;refine call_tuple_list pl.isList (λ h' kp=>?_) (by simp only[List.size_toArray] <;> omega)
  have I1:Inv X pins σ H {s with heap:=h'}:=I.kept (t':=s.toks) kp
  have I2:Inv X pins σ (upd H h'.objs.size (.tup ys)) {s with heap:=h'.push {cls:=.type "tuple",data:=.seq its.toArray}} :=
   I1.laid (t':=s.toks) (λ b o e=>qf _ e) (qj _) (show ObjOk X.prog X.w _ _ _ (.tup ys) from ⟨hz,its,r',IsTuN.new _ _⟩)
  exact⟨.ref h'.objs.size,_,I2,rfl,q _ (I1.hok.fresh (qj _))⟩
 ·obtain⟨its,r',pl,hz⟩:=I.tuple hq
  exact call_tuple_same pl ⟨.ref p,H,I,rfl,q⟩
def tyV (K:Frag) (T:String) (x:V) (H:Hp):Prop:=match x with
 |.str _=>T="str"
 |.int _=>T="int"
 |.ref p=>(T="list" ∧ ∃ xs,SqL K H p xs) ∨ (T="tuple" ∧ ∃ o,K.lookup p=some o ∧ o.cls=.type "tuple" ∧ o.dict=none) ∨
   (T="dict" ∧ ((∃ kvs,H p=some (.dK kvs)) ∨ ∃ kvs,H p=some (.dT kvs))) ∨ (T="set" ∧ ∃ S n,H p=some (.set S n))
 |_=>False
theorem ay7 {pins:List (Addr×Obj)}{σ:St}{H:Hp}{s:Shared}{T:String}{x:V}{v:Value} (I:Inv X pins σ H s) (r:RelV x v) (ty:tyV X.K T x H) :
  s.TypeIs v T/\∀ a,v=.ref a->∃ ob,s.heap.get? a=some ob/\ob.dict=none:=by
 cases x with
 |str z =>
  obtain⟨t,rfl⟩:=r;cases (show T="str" from ty);exact⟨typeIs_str s z t,λ _ e=>nomatch e⟩
 |int i =>
  obtain⟨t,rfl⟩:=r;cases (show T="int" from ty);exact⟨typeIs_int s i t,λ _ e=>nomatch e⟩
 |ref p =>
  cases r
  rcases ty with ⟨rfl,xs,hq⟩ | ⟨rfl,o,hk,hc,hd⟩ | ⟨rfl,hk⟩ | ⟨rfl,S,n,hk⟩
  ·obtain⟨its,_,pl,_⟩:=I.list hq
   refine⟨pl.isList.typeIs,λ a e=>?_⟩
   cases e;obtain⟨o,n,e,c,hd,_⟩:=pl;exact⟨o,e,hd⟩
  ·refine⟨⟨o,I.kIn p o hk,hc⟩,λ a e=>?_⟩
   cases e;exact⟨o,I.kIn _ o hk,hd⟩
  ·have z:∃ o,s.heap.get? p=some o/\o.ExactDict:=by
    rcases hk with ⟨kvs,hk⟩ | ⟨kvs,hk⟩
    ·obtain⟨_,_,_,_,o,_,_,e,ex,_⟩:=I.hok p _ hk
     exact⟨o,e,ex⟩
    ·obtain⟨_,_,_,_,o,_,_,e,ex,_⟩:=I.hok p _ hk
     exact⟨o,e,ex⟩
   obtain⟨o,e,ex⟩:=z;refine⟨⟨o,e,ex.1⟩,λ a e2=>?_⟩
   cases e2;exact⟨o,e,ex.2.1⟩
  ·obtain⟨o,_,_,_,e,ex,_⟩:=I.hok p _ hk
   refine⟨⟨o,e,ex.1⟩,λ a e2=>?_⟩
   cases e2;exact⟨o,e,ex.2.1⟩
 |_=>exact False.elim ty
def bO8 (K:Frag) (T:String) (r:V->List V->Hp->VK->Prop) (to:TE):TE:=λ σ H Q=>to σ H λ x H1=>tyV K T x H1/\r x [] H1 Q
def tBM (K:Frag) (T:String) (r:V->List V->Hp->VK->Prop) (to:TE) (t:TA):TE:=λ σ H Q=>to σ H λ x H1=>tyV K T x H1/\t σ H1 λ xs H2=>r x xs H2 Q
variable {o e:Expr}{es:List Expr}{to:TE}{t:TA}{name:Str}{apos cpos:Pos}{T id:String}{r:V->List V->Hp->VK->Prop}
theorem aA2 (pa:PlainAttrs T) (slot:Slot T name id) (hty:typeOf (.builtin id)=pure (.type "method_descriptor")) (hm:MtR X id r) (ho:PE X o to)
  (hbase:attributeBase o name X.env (eval o X.env)=eval o X.env:=by rfl) (hline:(apos.endLine==cpos.line)=true:=by rfl):PE X (.Call (.Attribute o name apos) [] [] cpos) (bO8 X.K T r to):=by
 intro pins s σ H Q I h;refine wpAny_Call_method0_late hbase hline (thn (ho pins s σ H _ I h) λ v s1 hh0_=>?_)
 obtain⟨x,H1,I1,r1,ty,q1⟩:=hh0_;obtain⟨h1,h2⟩:=ay7 I1 r1 ty;exact⟨T,id,pa,slot,hty,h1,h2,Calls.callWith_builtin rfl (PySem.evalArgs_none (hm pins s1 σ H1 x [] v [] Q I1 r1 .nil q1))⟩
theorem K_1 (pa:PlainAttrs T) (slot:Slot T name id) (hty:typeOf (.builtin id)=pure (.type "method_descriptor")) (hm:MtR X id r) (ho:PE X o to) (ha:PA X (e::es) t)
  (hbase:attributeBase o name X.env (eval o X.env)=eval o X.env:=by rfl)
  (hfew:((backTo cpos (starEach (e::es) X.env)).all (λ x=>!x.1)&&(backToKw cpos (keywordEach [] X.env)).all (λ x=>x.1.isSome)
   && decide ((e::es).length+([]:List Keyword).length+(if ([]:List Keyword).isEmpty then 0 else 1)<30))=true:=by rfl)
  (hline:(apos.endLine==cpos.line)=true:=by rfl) (hs:starEach (e::es) X.env=(false,eval e X.env)::starEach es X.env:=by rfl) (hplain:(backTo cpos (starEach es X.env)).any (·.1)=false:=by rfl) :
  PE X (.Call (.Attribute o name apos) (e::es) [] cpos) (tBM X.K T r to t):=by
 intro pins s σ H Q I h;refine wpAny_Call_method_late hbase hfew hline rfl (thn (ho pins s σ H _ I h) λ v s1 hh0_=>?_)
 obtain⟨x,H1,I1,r1,ty,q1⟩:=hh0_;obtain⟨h1,h2⟩:=ay7 I1 r1 ty;refine⟨T,id,pa,slot,hty,h1,h2,?_⟩;have hA:=ha cpos pins s1 σ H1 _ I1 q1;rw[hs] at hA ⊢;refine Calls.callWith_builtin (by show (false||(backTo cpos (starEach es X.env)).any (·.1))=false;rw[hplain] <;> rfl) (Calls.evalArgs_plain ?_)
 exact thn hA λ us s2=>ex5 λ vs H2 I2 r2 q2=>hm pins s2 σ H2 x vs v us Q I2 r1 r2 q2
end
def MtM (X:Cx) (id:String) (r:V->List V->Hp->VK->Prop):Prop :=
 ∀ (pins:List (Addr×Obj)) (s:Shared) (σ:St) (H:Hp) (x:V) (xs:List V) (v:Value) (us:List Value) (Q:VK),Inv X pins σ H s->RelV x v->Vals xs us->r x xs H Q ->
  wpAny (model X.prog X.w) X.A (call (.builtin id) (v::us)) (EP X pins σ Q) X.xe s
theorem Vals.one:∀ {x:V}{us:List Value},Vals [x] us->∃ u,us=[u]/\RelV x u
 |_,_,h=>by
  cases h with
  |cons r t=>cases t;exact⟨_,rfl,r⟩
theorem Vals.two:∀ {x y:V}{us:List Value},Vals [x,y] us->∃ u v,us=[u,v]/\RelV x u/\RelV y v
 |_,_,_,h=>by
  cases h with
  |cons r t =>
   cases t with
   |cons q z=>cases z;exact⟨_,_,rfl,r,q⟩
theorem Vals.zero:∀ {us:List Value},Vals [] us->us=[]
 |_,.nil=>rfl
theorem Vals.dropLast {xs:List V}{us:List Value} (h:Vals xs us):Vals xs.dropLast us.dropLast:=by
 induction h with
 |nil=>exact .nil
 |cons r t ih =>
  cases t with
  |nil=>exact .nil
  |cons q t'=>exact .cons r ih
theorem Vals.eraseIdx:∀ {xs:List V}{us:List Value} (i:Nat),Vals xs us->Vals (xs.eraseIdx i) (us.eraseIdx i)
 |_,_,_,.nil=>.nil
 |_,_,0,.cons _ t=>t
 |_,_,i+1,.cons r t=>.cons r (Vals.eraseIdx i t)
theorem Vals.reverse {xs:List V}{us:List Value} (h:Vals xs us):Vals xs.reverse us.reverse:=by
 induction h with
 |nil=>exact .nil
 |cons r t ih=>rw[List.reverse_cons,List.reverse_cons];exact Vals.append ih (.cons r .nil)
theorem Vals.rep {xs:List V}{us:List Value} (h:Vals xs us):∀ k:Nat,Vals (List.replicate k xs).flatten (List.replicate k us).flatten
 |0=>.nil
 |k+1=>by
  rw[List.replicate_succ,List.replicate_succ,List.flatten_cons,List.flatten_cons];exact Vals.append h (Vals.rep h k)
theorem W_2 {α:Type} (l:List α):l.eraseIdx (l.length-1)=l.dropLast:=by
 induction l with
 |nil=>rfl
 |cons a r ih =>
  cases r with
  |nil=>rfl
  |cons b r =>
   have e:(a::b::r).length-1=((b::r).length-1)+1:=by
    have h1:(a::b::r).length=r.length+2:=rfl;have h2:(b::r).length=r.length+1:=rfl;omega
   rw[e,List.eraseIdx_cons_succ,ih]
   all_goals rfl
theorem G_2 (its:List Value):∀ (k:Nat) (acc:List Value),
  List.foldl (λ x1 x2=>x1++x2) acc.toArray (List.replicate k its.toArray)=(acc++(List.replicate k its).flatten).toArray
 |0,acc=>by simp
 |k+1,acc=>by
  have e:acc.toArray++its.toArray=(acc++its).toArray:=by simp
  have e2:(acc++its)++(List.replicate k its).flatten=acc++(List.replicate (k+1) its).flatten:=by
   rw[List.replicate_succ,List.flatten_cons,List.append_assoc]
  rw[<- e2,<- G_2 its k (acc++its),<- e,List.replicate_succ,List.foldl_cons]
section
variable {X:Cx}{pins:List (Addr×Obj)}{σ:St}{H:Hp}{s:Shared}{l b:Addr}{xs ys zs:List V}
theorem Inv.lset {its its':List Value}{n:Nat}{f:Array Value->Array Value}{t':Nat} (I:Inv X pins σ H s) (hH:H l=some (.lst xs))
  (e:s.heap.get? l=some {cls:=.type "list",data:=.seq its.toArray n}) (hf:f its.toArray=its'.toArray) (hv:Vals ys its') (hz:ys.length ≤ sizeLine) :
  Inv X pins σ (upd H l (.lst ys)) {s with heap:=s.heap.update l (Obj.mapSeq f),toks:=t'}:=by
 have q:=PySem.IsL.update e f;rw[hf] at q;refine I.write (x:=l) (e:=l) (by rw[hH];exact trivial) (.inl rfl) (λ b' u hb hu=>(Heap.get?_update_other s.heap (Obj.mapSeq f) (Ne.symm hb)).trans hu) ⟨_,q⟩ ?_
 exact⟨hz,its',_,hv,q⟩
theorem Inv.lnew {its:List Value}{t':Nat} (I:Inv X pins σ H s) (hv:Vals ys its) (hz:ys.length<=sizeLine) :
  Inv X pins σ (upd H s.heap.objs.size (.lst ys)) {s with heap:=s.heap.push {cls:=.type "list",data:=.seq its.toArray},toks:=t'} :=
 I.laid (λ _ _ q=>qf _ q) (qj _) ⟨hz,its,0,hv,qk _ rfl⟩
theorem Inv.fresh (I:Inv X pins σ H s):H s.heap.objs.size=none:=I.hok.fresh (qj _)
theorem Inv.lstM (I:Inv X pins σ H s) (hH:H l=some (.lst xs)):xs.length ≤ sizeLine ∧ ∃ (its:List Value) (n:Nat),Vals xs its ∧ xs.length=its.length ∧ s.heap.get? l=some {cls:=.type "list",data:=.seq its.toArray n}:=by
 obtain⟨z,its,n,r,e⟩:=I.hok l _ hH;exact⟨z,its,n,r,r.length,e⟩
theorem A_7 {n:Nat} (h:n<=sizeLine):Builtin.List.listTooLong n=false:=by
 unfold Builtin.List.listTooLong;exact decide_eq_false (by omega)
end
section
variable {X:Cx}
def aH7:V->List V->Hp->VK->Prop:=λ x vs H Q=>∃ l xs y,x=.ref l/\vs=[y]/\H l=some (.lst xs)/\xs.length<sizeLine/\Q .non (upd H l (.lst (xs++[y])))
theorem ad9:MtM X "list.append" aH7:=by
 intro pins s σ H x vs v us Q I rx rv h;obtain⟨l,xs,y,rfl,rfl,hH,hz,q⟩:=h;cases rx;obtain⟨u,rfl,ru⟩:=rv.one;obtain⟨z,its,n,r,hl,e⟩:=I.lstM hH;refine call_meets F.slot_list_append ⟨_,e,rfl⟩ F.entry_list_append (F.args_list_append_2 _ _) (PySem.list_append l its.toArray n u (by rw[List.size_toArray];omega)) ⟨e,?_⟩
 refine⟨.non,_,I.lset (its':=its++[u]) hH e (by simp) (r.append (.cons ru .nil)) ?_,rfl,q⟩
 rw[List.length_append,List.length_singleton];omega
def aH6:V->List V->Hp->VK->Prop:=λ x vs H Q=>∃ l b xs zs,x=.ref l/\vs=[.ref b]/\H l=some (.lst xs)/\H b=some (.lst zs)/\xs.length+zs.length<=sizeLine/\Q .non (upd H l (.lst (xs++zs)))
theorem ad8:MtM X "list.extend" aH6:=by
 intro pins s σ H x vs v us Q I rx rv h;obtain⟨l,b,xs,zs,rfl,rfl,hH,hB,hz,q⟩:=h;cases rx;obtain⟨u,rfl,ru⟩:=rv.one;cases ru;obtain⟨z,its,n,r,hl,e⟩:=I.lstM hH;obtain⟨z2,its2,n2,r2,hl2,e2⟩:=I.lstM hB;have hsz:its.toArray.size+its2.toArray.size<=sizeLine:=by rw[List.size_toArray,List.size_toArray];omega
 have hlong:¬ (!its.toArray.isEmpty&&Builtin.List.listTooLong (its.toArray.size+its2.toArray.size))=true:=by
  rw[A_7 hsz,Bool.and_false];exact qp
 refine call_meets F.slot_list_extend ⟨_,e,rfl⟩ F.entry_list_extend (F.args_list_extend_2 _ _)
  (AutoSeq1.list_extend_list_list_0 l its.toArray n b its2.toArray n2 hlong (by rw[List.size_toArray];omega) (by omega)) ⟨e,e2,?_⟩
 refine⟨.non,_,I.lset (its':=its++its2) hH e (by simp) (r.append r2) ?_,rfl,q⟩
 rw[List.length_append];omega
def bR2:V->List V->Hp->VK->Prop:=λ x vs H Q=>∃ l xs y,x=.ref l/\vs=[]/\H l=some (.lst xs)/\xs[xs.length-1]?=some y/\Q y (upd H l (.lst xs.dropLast))
theorem bc6:MtM X "list.pop" bR2:=by
 intro pins s σ H x vs v us Q I rx rv h;obtain⟨l,xs,y,rfl,rfl,hH,hy,q⟩:=h;cases rx;have hus:=rv.zero;subst hus;obtain⟨z,its,n,r,hl,e⟩:=I.lstM hH;obtain⟨u,hu,ru⟩:=r.get hy
 have hy':its.toArray[its.toArray.size-1]?=some u:=by
  show its.toArray[its.length-1]?=some u;rw[<- Array.getElem?_toList,<- hl];exact hu
 refine call_meets F.slot_list_pop ⟨_,e,rfl⟩ F.entry_list_pop (F.args_list_pop_1 _) (MeetsSeq.list_pop_last l its.toArray n u hy' (by rw[List.size_toArray];omega)) ⟨e,?_⟩
 refine⟨y,_,I.lset (its':=its.dropLast) hH e ?_ r.dropLast ?_,ru,q⟩
 ·show its.toArray.eraseIdxIfInBounds (its.toArray.size-1)=its.dropLast.toArray
  rw[List.size_toArray,List.eraseIdxIfInBounds_toArray,W_2]
 ·rw[List.length_dropLast]
  omega
def aY5:V->List V->Hp->VK->Prop:=λ x vs H Q=>∃ l xs,x=.ref l/\vs=[]/\H l=some (.lst xs)/\Q .non (upd H l (.lst []))
theorem at3:MtM X "list.clear" aY5:=by
 intro pins s σ H x vs v us Q I rx rv h;obtain⟨l,xs,rfl,rfl,hH,q⟩:=h;cases rx;have hus:=rv.zero;subst hus;obtain⟨z,its,n,r,hl,e⟩:=I.lstM hH;refine call_meets F.slot_list_clear ⟨_,e,rfl⟩ F.entry_list_clear (F.args_list_clear_1 _) (AutoSeq1.list_clear_list_0 l its.toArray n (by rw[List.size_toArray];omega)) ⟨e,?_⟩
 exact⟨.non,_,I.lset (its':=[]) (ys:=[]) hH e rfl .nil (Nat.zero_le _),rfl,q⟩
def bR1:R2:=λ x y H Q=>∃ l k xs,x=.ref l/\y=.int k/\H l=some (.lst xs)/\-(2 ^ 63)<=k/\k<2 ^ 63/\xs.length*k.toNat<=sizeLine /\
 ∀ p,H p=none->Q (.ref p) (upd H p (.lst (List.replicate k.toNat xs).flatten))
theorem aL4 {α:Type} (xs:List α) (k:Nat):(List.replicate k xs).flatten.length=k*xs.length:=by
 induction k with
 |zero=>simp
 |succ k ih=>rw[List.replicate_succ,List.flatten_cons,List.length_append,ih,Nat.succ_mul,Nat.add_comm]
theorem ba7:OpR X (binaryOp .Mult) bR1:=by
 intro pins s σ H x y v u Q I rx ry h;obtain⟨l,k,xs,rfl,rfl,hH,h1,h2,hz,q⟩:=h;cases rx;obtain⟨t,rfl⟩:=ry;obtain⟨z,its,n,r,hl,e⟩:=I.lstM hH;have hlen:its.toArray.size*k.toNat<=sizeLine:=by rw[List.size_toArray,<- hl];exact hz
 have hcap:¬ its.toArray.size*k.toNat > (2 ^ 63-1) / 8:=by
  have:(sizeLine:Nat)<=(2 ^ 63-1) / 8:=by decide
  omega
 have hfit:¬ (!Builtin.List.listFitsIndex k)=true:=by
  rw[fitsIndex_both h1 h2];exact qp
 have hlong:¬ Builtin.List.listTooLong (its.toArray.size*k.toNat)=true:=by
  rw[A_7 hlen];exact qp
 have hnew:List.foldl (λ x1 x2=>x1++x2) #[] (List.replicate (if its.toArray.isEmpty=true then 0 else k.toNat) its.toArray)=(List.replicate k.toNat its).flatten.toArray:=by
  have f0:∀ m:Nat,List.foldl (λ x1 x2=>x1++x2) #[] (List.replicate m its.toArray)=(List.replicate m its).flatten.toArray:=λ m=>by
   have:=G_2 its m [];rw[List.nil_append] at this;exact this
  rw[f0];cases its with
  |nil=>simp
  |cons a r'=>rw[if_neg (by simp)]
 refine wpAny_binaryOp_repeat_ref (T:="list") (U:="int") (by decide) ⟨_,e,rfl⟩ (λ s'=>typeIs_int s' k t) noFill_list_mul F.fills_int_mul F.slot_int_rmul repeat_list F.slot_int_index.lookup
  (call_meets F.slot_int_rmul (typeIs_int s k t) F.entry_int_rmul (F.args_int_rmul_2 _ _) (int___rmul___int_list k t l its.toArray n)
   ⟨e,rfl,⟨_,e,rfl⟩,call_meets F.slot_list_mul ⟨_,e,rfl⟩ F.entry_list_mul (F.args_list_mul_2 _ _) (AutoListH.list___mul___list_int_3 l its.toArray n k t hfit hcap hlong) ⟨e,?_⟩⟩)
 rw[hnew];exact⟨.ref _,_,I.lnew (t':=s.toks) (r.rep k.toNat) (by rw[aL4,Nat.mul_comm];exact hz),rfl,q _ I.fresh⟩
end
end L2
namespace Att
open PySem PySem.W PySem.Calls PyProof.Rows
theorem u_7 {P:Params}{h:Heap}:∀ (ns:List Int) (vs:List Value),WellAll P h vs (ns.map WData.int)->IntsAre vs ns:=by
 intro ns
 induction ns with
 |nil =>
  intro vs w;rw[List.map_nil] at w;cases w;exact .nil
 |cons n ns ih =>
  intro vs w;rw[List.map_cons] at w;cases w with
  |cons a b =>
   cases a;exact .cons _ _ (ih _ b)
theorem aa4 {l:OpenLaw}{n:Nat} (hn:l.most=some n) {P:Params}{h:Heap}{args:List WData}{vals:List Value}
  (hpre:l.row.toRowW.claim.pre args=true) (hwl:WellAll P h vals args) :
  ∃ a vs ns,vals=[Value.ref a] ∧ args=[WData.list (ns.map WData.int)] ∧ h.get? a=some {cls:=.type "list",data:=.seq vs.toArray} ∧ IntsAre vs ns ∧ ns.length ≤ n:=by
 have hsh:WShape.hasAll [] args [.list .int]=true:=(pre_splitW hpre).1;have hc:l.pre.holds [] {args:=args}=true:=(pre_splitW hpre).2;obtain⟨d,r,rfl,h1,h2⟩:=hasAllW_cons hsh;obtain rfl:=hasAllW_nil h2;obtain⟨xs,rfl,h3⟩:=hasW_list h1;obtain⟨ns,rfl⟩:=items_int h3
 have hlen:ns.length<=n:=by
  unfold OpenLaw.pre at hc
  have h4:(WTm.not (.lt (.lit (.int (n:Int))) (.len (.arg 0)))).holds [] {args:=[.list (ns.map .int)]}=true:=by
   have h4:=(holds_andW hc).1;rw[hn] at h4;exact h4
  have h5:=condW_of h4 (w_not (w_lt w_lit (w_len_list (w_arg rfl))));rw[List.length_map] at h5;refine Nat.le_of_not_lt λ q=>?_
  have q':(n:Int)<((ns.length:Nat):Int):=by omega
  first
   |(rw[decide_eq_true q'] at h5;exact absurd h5 (by decide))
   |(simp at h5;omega)
 cases hwl with
 |cons w1 w2 =>
  cases w2;cases w1 with
  |list ho hall=>exact⟨_,_,ns,rfl,rfl,ho,u_7 ns _ hall,hlen⟩
theorem ab7 (l:OpenLaw) (args:List WData):l.row.toRowW.claim.post args (.bool true) args=true :=
 postW_of (r:=l.row.toRowW) (X:=(true==true))
  (show WShape.has [] (.bool true) .bool=true by first | rfl | decide | simp[WShape.has,WShape.arms,WShape.armsAll])
  (show (WTm.eq .res (.lit (.bool true))).value [] {args:=args,res:=some (.bool true),after:=args}=some (.bool (true==true)) from w_eq_bool (w_res rfl) w_lit) rfl
theorem attach_call {l:OpenLaw}{n:Nat}{q:Program}{loose:List Str}{XP:(Str->Option Value)->Heap->Prop}{YP:World->Heap->Prop}{d:DefRec}
  (hn:l.most=some n) (hdf:d.params.defaults=[])
  (call:∀ (w:World) (s₀ s₁:Shared) (mg mb:Str->Option Value) (fa:Addr) (o:Obj) (pm cd doc:Value) (a:Addr) (vs:List Value) (ns:List Int),
   Ground q loose [] XP w s₀ mg mb s₁.heap->YP w s₁.heap ->
   s₁.heap.get? fa=some o->o.data=.func (docDef d.name d.params d.body d.scope pm cd doc)->s₁.heap.CodeRec cd d.name->mg d.name=some (.ref fa) ->
   s₁.heap.get? a=some {cls:=.type "list",data:=.seq vs.toArray} → IntsAre vs ns → ns.length ≤ n → s₁.gens=#[] →
   codeAny (model l.prog w) callerA (.call (.ref fa) ⟨[.ref a],[]⟩) (λ r s'=>r=.ok (.ret (.bool true))/\OldK s₁.heap s'.heap/\s'.os=s₁.os/\AllBare s'.gens) s₁) :
  WalkO q loose XP YP l.row.toRowW d [] (λ f vs=>PySem.call f vs):=by
 intro w s₀ s₁ mg mb G Y fa o pm cd doc dV kV ho hd hcd hD hmg hg args vals as hpre hlay hrd hwl hlo;obtain rfl:dV=.none:=Dflts.none hD hdf;obtain rfl:kV=.none:=Dflts.noKw hD;obtain⟨a,vs,ns,rfl,rfl,hobj,hints,hlen⟩:=aa4 hn hpre hwl;refine enter_call (codeAny_mono (call w s₀ s₁ mg mb fa o pm cd doc a vs ns G Y ho (fd_plain hd) hcd hmg hobj hints hlen hg) λ r s' hq=>?_)
 obtain⟨rfl,h2,h3,h4⟩:=hq;exact⟨.inl ⟨.bool true,.bool true,[],rfl,λ _=>rfl,.bool true,ab7 l _,λ _=>⟨List.Pairwise.nil,λ _ hm=>(nomatch hm)⟩⟩,h2,h3,h4⟩
end Att
namespace L2
open PySem PySem.Spec PyProof.Rows
theorem vals_ints:∀ {vs:List Value}{ns:List Int},IntsAre vs ns->Vals (ns.map V.int) vs
 |_,_,.nil=>.nil
 |_,_,.cons n t h=>.cons ⟨t,rfl⟩ (vals_ints h)
def bC2 (H:Hp):Prop:=∀ b,H b=none\/∃ o xs,H b=some (.frz o (.lst xs))
theorem at6 {P:Program}{w:World}{K:Frag}{mg mb:Str->Option Value}{CX:CXT}{k:Nat}{fa a:Addr}{fd:FuncData}{x:Str}{sp:Sp}{s₁:Shared}{vs:List Value}{ns:List Int}
  (KX:K.In s₁.heap) (hns:s₁.heap.Ns mainGlobals mg) (hb:s₁.heap.Ns builtinsNs mb) (hbb:∀ x:Str,x≠"__name__" → mb x=bootBuiltins x) (hlim:s₁.heap.NoLimit) (hg:s₁.gens=#[])
  (ha:s₁.heap.get? a=some {cls:=.type "list",data:=.seq vs.toArray}) (hi:IntsAre vs ns) (hl:ns.length ≤ sizeLine) (hr:Room k callerA)
  (F:∀ base:Heap,K.In base->base.Ns mainGlobals mg->FnOk P w K mg base CX k fa fd [x] sp) (hbind:∀ (s:Shared) (u:Value),BindsTo s fd ⟨[u],[]⟩ [(x,u)])
  (hsp:∀ H:Hp,bC2 H->SqL K H a (ns.map V.int)->sp [.ref a] H (λ v _=>v=.bl true) λ _ _ _=>False)
  (hCX:∀ H e s',CX [] H s₁ (λ _ _ _=>False) e s'->False) :
  codeAny (model P w) callerA (.call (.ref fa) ⟨[.ref a],[]⟩) (λ r s'=>r=.ok (.ret (.bool true))/\OldK s₁.heap s'.heap/\s'.os=s₁.os/\AllBare s'.gens) s₁:=by
 have rv:=vals_ints hi;have lenV:=hi.length;have core:∀ H:Hp,bC2 H->SqL K H a (ns.map V.int)->HOk P w H s₁.heap->(∀ b,H b≠none->b=a)->(H a≠none->K.lookup a=none) ->
   codeAny (model P w) callerA (.call (.ref fa) ⟨[.ref a],[]⟩) (λ r s'=>r=.ok (.ret (.bool true))/\OldK s₁.heap s'.heap/\s'.os=s₁.os/\AllBare s'.gens) s₁:=by
  intro H hO hS hok hA hK;have base_of:∀ {b:Addr}{o:Obj},s₁.heap.get? b=some o->H b=none->(au8 s₁.heap H).get? b=some o:=λ e n=>au7 e n
  have noA:∀ {b:Addr}{o:Obj}{es:Array DictEntry}{ep:Nat},s₁.heap.get? b=some o->o.data=.dict es ep->H b=none:=λ {b o es ep} e d=>by
   cases q:H b with
   |none=>rfl
   |some u =>
    have e':b=a:=hA b (by rw[q];simp)
    subst e';rw[ha] at e;cases e;have d':Data.seq vs.toArray _=Data.dict es ep:=d;cases d'
  have nsK:∀ {b:Addr}{m:Str->Option Value},s₁.heap.Ns b m->(au8 s₁.heap H).Ns b m:=λ {b m} ⟨o,es,ep,e,d,r⟩=>⟨o,es,ep,base_of e (noA e d),d,r⟩
  have hKb:K.In (au8 s₁.heap H):=λ b o e=>base_of (KX b o e) (by
   cases q:H b with
   |none=>rfl
   |some u =>
    have e':b=a:=hA b (by rw[q];simp)
    subst e';rw[hK (by rw[q];simp)] at e;cases e)
  have hM:Mod K mg (au8 s₁.heap H):=⟨hKb,nsK hns,⟨mb,nsK hb,hbb⟩,let ⟨mc,h1,h2⟩:=hlim;⟨mc,nsK h1,h2⟩⟩;have e0:Env0 P w K mg (au8 s₁.heap H) callerA [] s₁ H:=⟨rfl,hM,λ b o e=>aJ8 e,Nat.le_of_eq (af9 _ _),trivial,λ b hb=>absurd (show b∈([]:List Addr) from hb) (by simp),hok,.of_eq hg⟩
  refine codeAny_mono ((F _ hKb (nsK hns)).run callerA [] s₁ H ⟨[.ref a],[]⟩ [.ref a] [.ref a] _ _ hr e0 (hbind s₁ (.ref a)) (.cons rfl .nil) (hsp H hO hS)) λ r s' h=>?_
  cases r with
  |error e=>exact (hCX H e s' h).elim
  |ok fl =>
   cases fl with
   |next=>exact False.elim h
   |brk=>exact False.elim h
   |cont=>exact False.elim h
   |ret u =>
    obtain⟨v,H',os,bare,un,hok',r',q⟩:=h;have q':v=.bl true:=q;subst q';obtain rfl:u=Value.bool true:=r';refine⟨rfl,OldK.of_keep λ b o e=>?_,os,bare⟩
    cases q:H b with
    |none=>exact un.keep b o e q (by intro z;exact absurd (show b∈([]:List Addr) from z) (by simp)) (by simp)
    |some u =>
     rcases hO b with z | ⟨ob,xs,z⟩
     ·rw[q] at z;cases z
     ·have z2:=un.frzs b ob _ z
      obtain⟨e1,_⟩:=hok b _ z;obtain⟨e2,_⟩:=hok' b _ z2;rw[e] at e1;cases e1;exact e2
 cases hk:K.lookup a with
 |some o =>
  have e:=KX a o hk;rw[ha] at e;cases e;refine core (λ _=>none) (λ _=>.inl rfl) (.inr ⟨_,vs.toArray,_,hk,rfl,rfl,rfl,by rw[List.size_toArray,lenV];exact hl,by simpa using rv⟩) (λ b u z=>by have z':(none:Option HO)=some u:=z;cases z') (λ b z=>absurd rfl z) λ z=>absurd rfl z
 |none =>
  refine core (λ b=>if b=a then some (.frz {cls:=.type "list",data:=.seq vs.toArray} (.lst (ns.map V.int))) else none) (λ b=>?_) (.inl (.inr ⟨{cls:=.type "list",data:=.seq vs.toArray},if_pos rfl⟩)) (λ b u z=>?_) (λ b z=>?_) λ _=>hk
  ·by_cases hb:b=a
   ·exact .inr ⟨_,_,if_pos hb⟩
   ·exact .inl (if_neg hb)
  ·by_cases hb:b=a
   ·have z':=(if_pos hb).symm.trans z
    cases z';subst hb;exact⟨ha,by rw[List.length_map];exact hl,vs,_,rv,ha⟩
   ·have z':=(if_neg hb).symm.trans z
    cases z'
  ·by_cases hb:b=a
   ·exact hb
   ·exact absurd (if_neg hb) z
theorem walk_of {l:OpenLaw}{n k:Nat}{q:Program}{loose:List Str}{XP:(Str->Option Value)->Heap->Prop}{YP:World->Heap->Prop}{d:DefRec}{K:Params->Frag}{CX:World->CXT}{sp:World->Sp}{x:Str}
  (hn:l.most=some n) (hn2:n<=sizeLine) (hdf:d.params.defaults=[]) (hr:Room k callerA)
  (hY:∀ (w:World) (h:Heap),YP w h->(K w.params).In h)
  (F:∀ (w:World) (mg:Str->Option Value) (fa:Addr) (h:Heap),(K w.params).In h->h.Ns mainGlobals mg->mg d.name=some (.ref fa) ->
   ∃ fd:FuncData,(∀ (s:Shared) (u:Value),BindsTo s fd ⟨[u],[]⟩ [(x,u)]) /\
    ∀ base:Heap,(K w.params).In base->base.Ns mainGlobals mg->FnOk l.prog w (K w.params) mg base (CX w) k fa fd [x] (sp w))
  (hsp:∀ (w:World) (H:Hp) (a:Addr) (ns:List Int),ns.length<=n->bC2 H->SqL (K w.params) H a (ns.map V.int)->sp w [.ref a] H (λ v _=>v=.bl true) λ _ _ _=>False)
  (hCX:∀ (w:World) (H:Hp) (s:Shared) (e:Value) (s':Shared),CX w [] H s (λ _ _ _=>False) e s'->False) :
  PySem.W.WalkO q loose XP YP l.row.toRowW d [] (λ f vs=>PySem.call f vs):=by
 refine Att.attach_call hn hdf λ w s₀ s₁ mg mb fa o pm cd doc a vs ns G Y ho hd hcd hmg hobj hints hlen hg=>?_
 have KX:=hY w _ Y;obtain⟨fd,hb,hF⟩:=F w mg fa _ KX G.T.g hmg;exact at6 KX G.T.g G.T.b G.T.builtins G.T.nolimit hg hobj hints (Nat.le_trans hlen hn2) hr hF hb (λ H hO hS=>hsp w H a ns hlen hO hS) λ H e s'=>hCX w H s₁ e s'
def q_0 (s:Stmt):Arguments:=match s with
 |.FunctionDef _ a _ _ _ _ _ _ _ _=>a
 |_=>{posonlyargs:=[],args:=[],vararg:=none,kwonlyargs:=[],kw_defaults:=[],kwarg:=none,defaults:=[]}
def k_7 (s:Stmt):List Stmt:=match s with
 |.FunctionDef _ _ b _ _ _ _ _ _ _=>b
 |_=>[]
def a_1 (s:Stmt):Scope:=match s with
 |.FunctionDef _ _ _ _ _ _ sc _ _ _=>sc
 |_=>{kind:=.function,names:=[],isGenerator:=false,isCoroutine:=false}
abbrev CX0:CXT:=λ _ _ _ _ _ _=>False
abbrev E0:XK:=λ _ _ _=>False
theorem aJ4 {X:Cx}:ak9 CX0 X E0:=λ _ _ _ _ _ _ _ h=>h.elim
structure Fun (K:Frag) (x qual:Str) (st:Stmt) (f:Addr) (fd:FuncData):Prop where
 ex:∃ (oc:Value) (od:Option Addr) (kV doc pm:Value) (an:Option Addr) (cdv ct:Value) (osl:Array (Option Value)),
  fd=fnOf x qual (q_0 st) (k_7 st) (a_1 st) .none kV doc pm an cdv ct/\K.lookup f=some ⟨oc,od,.func fd,osl⟩/\codeIn K cdv qual=true
 kp:keepIn K (.ref f)=true
section
variable {P:Program}{w:World}{K:Frag}{mg:Str->Option Value}{base:Heap}
theorem Fun.ok {x qual:Str}{st:Stmt}{f:Addr}{fd:FuncData}{N ps:List Str}{k:Nat}{sp:Sp} (F:Fun K x qual st f fd) (S:FnScope N ps (a_1 st)) (len:∀ vs H Q E,sp vs H Q E->vs.length=ps.length)
  (hbody:∀ (cdv:Value) (A:Around) (outer:List Env) (s:Shared) (H:Hp) (vs:List V) (Q:VK) (E:XK),Room k (A.deeper (envOfC qual (a_1 st) s.heap.objs.size f cdv))->sp vs H Q E ->
   ∃ t,PSs (aC7 CX0 P w K mg base N qual (a_1 st) f cdv A outer s H E).nox (k_7 st) t/\t {nx:=λ _ H'=>Q .non H',rt:=Q} (start N vs) H):FnOk P w K mg base CX0 (k+1) f fd ps sp:=by
 obtain⟨oc,od,kV,doc,pm,an,cdv,ct,osl,rfl,lk,hcd⟩:=F.ex;refine bx6 lk hcd S len λ A outer s H vs Q E hr hsp=>?_
 obtain⟨t,h,q⟩:=hbody cdv A outer s H vs Q E hr hsp;exact⟨t,h.nox,q⟩
theorem Fun.binds {x qual:Str}{st:Stmt}{f:Addr}{fd:FuncData}{ps:List Str} (F:Fun K x qual st f fd)
  (h:∀ (kV doc pm:Value) (an:Option Addr) (cdv ct:Value) (us:List Value),us.length=ps.length->bindArgs (fnOf x qual (q_0 st) (k_7 st) (a_1 st) .none kV doc pm an cdv ct) ⟨us,[]⟩=pure (ps.zip us)):Binds K fd ps []:=by
 obtain⟨oc,od,kV,doc,pm,an,cdv,ct,osl,rfl,lk,hcd⟩:=F.ex;exact .all (h kV doc pm an cdv ct)
theorem e_2 {x qual:Str}{st:Stmt}{f:Addr}{oc:Value}{od an:Option Addr}{osl:Array (Option Value)}{kV doc pm cdv ct:Value} (l:K.lookup f=some ⟨oc,od,.func (fnOf x qual (q_0 st) (k_7 st) (a_1 st) .none kV doc pm an cdv ct),osl⟩)
  (c:codeIn K cdv qual=true) (k:keepIn K (.ref f)=true):Fun K x qual st f (fnOf x qual (q_0 st) (k_7 st) (a_1 st) .none kV doc pm an cdv ct):=⟨⟨oc,od,kV,doc,pm,an,cdv,ct,osl,rfl,l,c⟩,k⟩
end
theorem af8 {A:Around}{k:Nat} (hr:Room k A):A.units+1<cLine:=Nat.lt_of_le_of_lt (Nat.add_le_add_left (by decide:1<=64) _) hr.units
theorem t_3 {n:Nat} (h:n<=1000):n<sizeLine:=Nat.lt_of_le_of_lt h (by decide)
def Same (H H':Hp):Prop:=∀ b o,H b=some o->H' b=some o
theorem Same.refl (H:Hp):Same H H:=λ _ _ h=>h
theorem Same.trans {H H1 H2:Hp} (a:Same H H1) (b:Same H1 H2):Same H H2:=λ c o h=>b c o (a c o h)
theorem Same.free {H H':Hp} (e:Same H H') {l:Addr} (h:H' l=Option.none):H l=Option.none:=by
 cases q:H l with
 |none=>rfl
 |some o =>
  rw[e l o q] at h;cases h
theorem Same.seq {K:Frag}{H H':Hp}{a:Addr}{xs:List V} (e:Same H H') (h:SqL K H a xs):SqL K H' a xs:=by
 rcases h with (h | ⟨o,h⟩) | h
 ·exact .inl (.inl (e _ _ h))
 ·exact .inl (.inr ⟨o,e _ _ h⟩)
 ·exact .inr h
section
variable {κ:Type} [DecidableEq κ]
def D_0 (kvs:List (κ×V)) (k:κ):Option V:=(kvs.find? λ kv=>decide (kv.1=k)).map (·.2)
def D_8 (kvs:List (κ×V)) (k:κ) (v:V):List (κ×V) :=
 if (kvs.any λ kv=>decide (kv.1=k))=true then kvs.map (λ kv=>if kv.1=k then (kv.1,v) else kv) else kvs++[(k,v)]
def bV4 (kvs:List (κ×V)) (k:κ):List (κ×V):=kvs.filter λ kv=>decide (kv.1≠k)
theorem s_1 {p:κ×V}{r:List (κ×V)}{k:κ} (e:p.1=k):D_0 (p::r) k=some p.2:=by simp[D_0,List.find?_cons,e]
theorem m_2 {p:κ×V}{r:List (κ×V)}{k:κ} (e:¬ p.1=k):D_0 (p::r) k=D_0 r k:=by simp[D_0,List.find?_cons,e]
theorem s_2 (k:κ):∀ kvs:List (κ×V),(kvs.any λ kv=>decide (kv.1=k))=(D_0 kvs k).isSome
 |[]=>rfl
 |p::r=>by
  rw[List.any_cons]
  by_cases e:p.1=k
  ·simp only[s_1 e,decide_eq_true e,Bool.true_or,Option.isSome_some]
  ·rw[m_2 e,decide_eq_false e,Bool.false_or];exact s_2 k r
theorem u_3 (kvs:List (κ×V)) (k:κ) (v:V):(D_8 kvs k v).length<=kvs.length+1:=by
 unfold D_8
 split
 ·rw[List.length_map];omega
 ·rw[List.length_append,List.length_cons,List.length_nil];omega
theorem aq8 {kvs:List (κ×V)}{k:κ} (v:V) (h:D_0 kvs k=none):D_8 kvs k v=kvs++[(k,v)]:=by
 unfold D_8;rw[s_2,h];exact if_neg (by decide)
theorem RelO.isSome_eq {o:Option V}{u:Option Value} (r:RelO o u):o.isSome=u.isSome:=by
 cases o with
 |none=>cases u with
  |none=>rfl
  |some _=>exact (show False from r).elim
 |some _=>cases u with
  |none=>exact (show False from r).elim
  |some _=>rfl
theorem RelO.getD {o:Option V}{u:Option Value}{d:V}{d':Value} (r:RelO o u) (rd:RelV d d'):RelV (o.getD d) (u.getD d'):=by
 cases o with
 |none=>cases u with
  |none=>exact rd
  |some _=>exact (show False from r).elim
 |some _=>cases u with
  |none=>exact (show False from r).elim
  |some _=>exact r
theorem KV.val {kvs:List (κ×V)}{vs:List (κ×Value)} (r:KV kvs vs) (k:κ):RelO (D_0 kvs k) (valueAt vs k):=by
 unfold KV at r
 induction r with
 |nil=>exact True.intro
 |@cons p q ps qs h t ih =>
  obtain⟨h1,h2⟩:=h
  by_cases e:p.1=k
  ·have e':q.1=k:=h1.symm.trans e
   have b:valueAt (q::qs) k=some q.2:=by simp[valueAt,List.find?_cons,e']
   rw[s_1 e,b];exact h2
  ·have e':¬ q.1=k:=λ z=>e (h1.trans z)
   have b:valueAt (q::qs) k=valueAt qs k:=by simp[valueAt,List.find?_cons,e']
   rw[m_2 e,b];exact ih
theorem KV.any {kvs:List (κ×V)}{vs:List (κ×Value)} (r:KV kvs vs) (k:κ):(kvs.any λ kv=>decide (kv.1=k))=vs.any λ kv=>decide (kv.1=k):=by
 unfold KV at r
 induction r with
 |nil=>rfl
 |cons h t ih=>rw[List.any_cons,List.any_cons,ih,h.1]
theorem KV.repl {kvs:List (κ×V)}{vs:List (κ×Value)} (r:KV kvs vs) (k:κ) {y:V}{u:Value} (ry:RelV y u) :
  KV (kvs.map λ kv=>if kv.1=k then (kv.1,y) else kv) (vs.map λ kv=>if kv.1=k then (kv.1,u) else kv):=by
 unfold KV at r ⊢
 induction r with
 |nil=>exact .nil
 |@cons p q ps qs h t ih =>
  rw[List.map_cons,List.map_cons];refine .cons ?_ ih;obtain⟨h1,h2⟩:=h
  by_cases e:p.1=k
  ·rw[if_pos e,if_pos (h1.symm.trans e)];exact⟨h1,ry⟩
  ·rw[if_neg e,if_neg (λ z=>e (h1.trans z))];exact⟨h1,h2⟩
theorem KV.put {kvs:List (κ×V)}{vs:List (κ×Value)} (r:KV kvs vs) (k:κ) {y:V}{u:Value} (ry:RelV y u):KV (D_8 kvs k y) (stored vs k u):=by
 unfold D_8 stored;rw[r.any k]
 by_cases e:(vs.any λ kv=>decide (kv.1=k))=true
 ·rw[if_pos e,if_pos e];exact r.repl k ry
 ·rw[if_neg e,if_neg e];exact Paired.snoc r ⟨rfl,ry⟩
theorem KV.length {kvs:List (κ×V)}{vs:List (κ×Value)} (r:KV kvs vs):kvs.length=vs.length:=Paired.length r
end
theorem V_6 {P:Program}{w:World}{k:Key}{u:Value} (r:RelV (kV k) u):(d_9 P w).is k u=true:=by
 cases k with
 |inl i=>obtain⟨t,e⟩:=(show ∃ t,u=Value.int i t from r);subst e;exact L_0 P w i t
 |inr x=>obtain⟨t,e⟩:=(show ∃ t,u=Value.str x t from r);subst e;exact n_6 P w x t
theorem F_9 {P:Program}{w:World}:∀ {ks:List Key}{us:List Value},Vals (ks.map kV) us->ItemsAre (d_9 P w) ks us
 |[],_,r=>by rw[List.map_nil] at r;cases r;exact .nil
 |k::ks,_,r=>by
  rw[List.map_cons] at r;cases r with
  |cons h t=>exact .cons (V_6 h) (F_9 t)
abbrev KT (H:Hp):List (List Key×V)->List (List Key×Addr×Value)->Prop:=Paired λ p q=>p.1=q.1/\H q.2.1=some (.tup (p.1.map kV))/\RelV p.2 q.2.2
theorem KT.val {H:Hp}{kvs:List (List Key×V)}{xs:List (List Key×Addr×Value)} (r:KT H kvs xs) (k:List Key):RelO (D_0 kvs k) ((atKey xs k).map (·.2)):=by
 induction r with
 |nil=>exact True.intro
 |@cons p q ps qs h t ih =>
  obtain⟨h1,_,h2⟩:=h
  by_cases e:p.1=k
  ·have e':q.1=k:=h1.symm.trans e
   have b:atKey (q::qs) k=some q.2:=by simp[atKey,List.find?_cons,e']
   rw[s_1 e,b];exact h2
  ·have e':¬ q.1=k:=λ z=>e (h1.trans z)
   have b:atKey (q::qs) k=atKey qs k:=by simp[atKey,List.find?_cons,e']
   rw[m_2 e,b];exact ih
theorem KT.repl {H:Hp}{kvs:List (List Key×V)}{xs:List (List Key×Addr×Value)} (r:KT H kvs xs) (k:List Key) {y:V}{u:Value} (ry:RelV y u) :
  KT H (kvs.map λ kv=>if kv.1=k then (kv.1,y) else kv) (xs.map (putAt k u)):=by
 induction r with
 |nil=>exact .nil
 |@cons p q ps qs h t ih =>
  rw[List.map_cons,List.map_cons];refine .cons ?_ ih;obtain⟨h1,h2,h3⟩:=h;unfold putAt
  by_cases e:p.1=k
  ·rw[if_pos e,if_pos (h1.symm.trans e)];exact⟨h1,h2,ry⟩
  ·rw[if_neg e,if_neg (λ z=>e (h1.trans z))];exact⟨h1,h2,h3⟩
theorem KT.put {H:Hp}{kvs:List (List Key×V)}{xs:List (List Key×Addr×Value)} (r:KT H kvs xs) (k:List Key) {b:Addr}{y:V}{u:Value} (hb:H b=some (.tup (k.map kV))) (ry:RelV y u) :
  KT H (D_8 kvs k y) (storedH xs k b u):=by
 have e:(kvs.any λ kv=>decide (kv.1=k))=(atKey xs k).isSome:=by
  rw[s_2,(r.val k).isSome_eq,Option.isSome_map]
 unfold D_8 storedH;rw[e]
 by_cases q:(atKey xs k).isSome=true
 ·rw[if_pos q,if_pos q];exact r.repl k ry
 ·rw[if_neg q,if_neg q];exact Paired.snoc r ⟨rfl,hb,ry⟩
theorem KT.keeps {H H':Hp}{kvs:List (List Key×V)}{xs:List (List Key×Addr×Value)} (r:KT H kvs xs) (ht:∀ b ys,H b=some (.tup ys)->H' b=some (.tup ys)):KT H' kvs xs :=
 Paired.mapP r λ _ _ z=>⟨z.1,ht _ _ z.2.1,z.2.2⟩
section
variable {P:Program}{w:World}{H:Hp}{h:Heap}{a:Addr}
theorem aY4 {u:HO} (ok:HOk P w H h) (e:Rd H a u):ObjOk P w H h a u:=e.ok ok
theorem av7 {kvs:List (Key×V)} (ok:HOk P w H h) (e:Rd H a (.dK kvs)):kvs.length<=sizeLine/\(a==sysModules)=false/\∃ vs,KV kvs vs/\h.DictOf (d_9 P w) a vs :=
 show ObjOk P w H h a (.dK kvs) from aY4 ok e
theorem bg8 {kvs:List (Key×V)} (ok:HOk P w H h) (e:H a=some (.dK kvs)):kvs.length<=sizeLine/\(a==sysModules)=false/\∃ vs,KV kvs vs/\h.DictOf (d_9 P w) a vs:=av7 ok (.inl e)
theorem Q_2 {ks:List Key} (ok:HOk P w H h) (e:H a=some (.tup (ks.map kV))):(tupleKind (d_9 P w)).is h ks a:=by
 obtain⟨_,its,r,o,h1,h2,⟨n,h3⟩,_⟩:=(show ObjOk P w H h a (.tup (ks.map kV)) from ok a _ e);exact⟨o,its.toArray,n,h1,h2,h3,by simpa using F_9 r⟩
theorem av5 {kvs:List (List Key×V)} (ok:HOk P w H h) (e:Rd H a (.dT kvs)):kvs.length<=sizeLine/\(a==sysModules)=false /\
  ∃ xs,KT H kvs xs/\h.DictOfH (tupleKind (d_9 P w)) a xs:=by
 obtain⟨z,y,xs,r,o,es,ep,h1,h2,h3,h4,h5⟩:=(show ObjOk P w H h a (.dT kvs) from aY4 ok e);refine⟨z,y,xs,r,o,es,ep,h1,h2,h3,h4,λ x hx=>?_,h5⟩
 have all:∀ {l:List (List Key×V)}{m:List (List Key×Addr×Value)},KT H l m->∀ x∈m,(tupleKind (d_9 P w)).is h x.1 x.2.1:=by
  intro l m q
  induction q with
  |nil=>intro x hx;exact nomatch hx
  |@cons p q ps qs hq t ih =>
   intro x hx
   rcases qw hx with e | hx
   ·subst e
    exact Q_2 ok (by rw[<- hq.1];exact hq.2.1)
   ·exact ih x hx
 exact all r x hx
theorem bz6 {kvs:List (List Key×V)} (ok:HOk P w H h) (e:H a=some (.dT kvs)):kvs.length<=sizeLine/\(a==sysModules)=false /\
  ∃ xs,KT H kvs xs/\h.DictOfH (tupleKind (d_9 P w)) a xs:=av5 ok (.inl e)
end
def DGet (H:Hp) (a:Addr) (y:V) (r:Option V):Prop :=
 (∃ kvs k,Rd H a (.dK kvs)/\y=kV k/\r=D_0 kvs k)\/∃ kvs k b,Rd H a (.dT kvs)/\y=.ref b/\H b=some (.tup (k.map kV))/\r=D_0 kvs k
def DPut (H:Hp) (a:Addr) (y v:V) (H':Hp):Prop :=
 (∃ kvs k,H a=some (.dK kvs)/\y=kV k/\kvs.length<sizeLine/\H'=upd H a (.dK (D_8 kvs k v))) \/
 ∃ kvs k b,H a=some (.dT kvs)/\y=.ref b/\H b=some (.tup (k.map kV))/\kvs.length<sizeLine/\H'=upd H a (.dT (D_8 kvs k v))
theorem DGet.k {H:Hp}{a:Addr}{kvs:List (Key×V)}{k:Key} (e:H a=some (.dK kvs)):DGet H a (kV k) (D_0 kvs k):=.inl ⟨kvs,k,.inl e,rfl,rfl⟩
theorem DGet.t {H:Hp}{a b:Addr}{kvs:List (List Key×V)}{k:List Key} (e:H a=some (.dT kvs)) (eb:H b=some (.tup (k.map kV))):DGet H a (.ref b) (D_0 kvs k):=.inr ⟨kvs,k,b,.inl e,rfl,eb,rfl⟩
theorem DPut.k {H:Hp}{a:Addr}{kvs:List (Key×V)}{k:Key}{v:V} (e:H a=some (.dK kvs)) (hl:kvs.length<sizeLine):DPut H a (kV k) v (upd H a (.dK (D_8 kvs k v))):=.inl ⟨kvs,k,e,rfl,hl,rfl⟩
theorem DPut.t {H:Hp}{a b:Addr}{kvs:List (List Key×V)}{k:List Key}{v:V} (e:H a=some (.dT kvs)) (eb:H b=some (.tup (k.map kV))) (hl:kvs.length<sizeLine) :
  DPut H a (.ref b) v (upd H a (.dT (D_8 kvs k v))):=.inr ⟨kvs,k,b,e,rfl,eb,hl,rfl⟩
section
variable {X:Cx}{pins:List (Addr×Obj)}{σ:St}{H:Hp}{s:Shared}{a:Addr}{y v:V}{u r:Value}{o:Option V}{A:Around}{E:Value->Shared->Prop}
theorem Inv.big (I:Inv X pins σ H s):sysModules<s.heap.objs.size:=by
 have h:mainGlobals<s.heap.objs.size:=(I.mod.glob.keeps I.bk).lt;exact Nat.lt_trans (by decide) h
theorem ai4 {Q:Value->Shared->Prop} (hu:A.units+1<cLine) (I:Inv X pins σ H s) (g:DGet H a y (some v)) (ry:RelV y u) (h:∀ w' s',Inv X pins σ H s'->RelV v w'->Q w' s') :
  wpAny (model X.prog X.w) A (getItem (.ref a) u) Q E s:=by
 rcases g with ⟨kvs,k,e,ey,l⟩ | ⟨kvs,k,b,e,ey,eb,l⟩
 ·subst ey
  obtain⟨z,hd,vs,rel,dd⟩:=av7 I.hok e;obtain⟨w',hw,rw'⟩:=RelO.some_of (v:=v) (o:=valueAt vs k) (by rw[l];exact rel.val k)
  exact wpAny_getItem_of (V_6 ry) dd.mapOf hw (h w' _ (I.tok _) rw')
 ·subst ey
  cases (show u=Value.ref b from ry);obtain⟨z,hd,xs,rel,dd⟩:=av5 I.hok e;obtain⟨w',hw,rw'⟩:=RelO.some_of (v:=v) (o:=(atKey xs k).map (·.2)) (by rw[l];exact rel.val k)
  obtain⟨p,hp,hp2⟩:=Option.map_eq_some_iff.mp hw;refine wpAny_getItem_heap (tupleKind_room_in1 hu) (Q_2 I.hok eb) dd hp ?_;rw[hp2];exact h w' _ (I.tok _) rw'
theorem bV5 {Q:Value->Shared->Prop} (hu:A.units+1<cLine) (I:Inv X pins σ H s) (g:DGet H a y o) (ry:RelV y u) (h:∀ s',Inv X pins σ H s'->Q (.bool o.isSome) s') :
  wpAny (model X.prog X.w) A (compareOp .In u (.ref a)) Q E s:=by
 rcases g with ⟨kvs,k,e,ey,l⟩ | ⟨kvs,k,b,e,ey,eb,l⟩
 ·subst ey
  obtain⟨z,hd,vs,rel,dd⟩:=av7 I.hok e;refine wpAny_in_of (V_6 ry) hd dd.mapOf ?_;rw[<- (rel.val k).isSome_eq,<- l];exact h _ (I.tok _)
 ·subst ey
  cases (show u=Value.ref b from ry);obtain⟨z,hd,xs,rel,dd⟩:=av5 I.hok e;refine wpAny_in_heap (tupleKind_room_in1 hu) (Q_2 I.hok eb) hd dd ?_;have q:=(rel.val k).isSome_eq;rw[Option.isSome_map] at q;rw[<- q,<- l];exact h _ (I.tok _)
theorem ai2 {h':Heap}{t':Nat}{ob:HO} (I:Inv X pins σ H s) (mu:Mut (H a)) (hs:Heap.SameBut a s.heap h') (he:∃ q,h'.get? a=some q) (new:ObjOk X.prog X.w (upd H a ob) h' a ob) :
  Inv X pins σ (upd H a ob) {s with heap:=h',toks:=t'} :=
 I.write (x:=a) (e:=a) mu (.inl rfl) (λ b q hb z=>(hs.2 b hb).trans z) he new
theorem bg9 {P:Program}{w:World}{H':Hp}{h':Heap}{kvs:List (Key×V)}{vs:List (Key×Value)} (z:kvs.length<=sizeLine) (hd:(a==sysModules)=false) (rel:KV kvs vs) (dd:h'.DictOf (d_9 P w) a vs) :
  ObjOk P w H' h' a (.dK kvs):=⟨z,hd,vs,rel,dd⟩
theorem ai3 {H':Hp}{Q:Unit->Shared->Prop} (hu:A.units+1<cLine) (I:Inv X pins σ H s) (g:DPut H a y v H') (ry:RelV y u) (rv:RelV v r) (h:∀ s',Inv X pins σ H' s'->Q () s') :
  wpAny (model X.prog X.w) A (setItem (.ref a) u r) Q E s:=by
 rcases g with ⟨kvs,k,e,ey,l,eH⟩ | ⟨kvs,k,b,e,ey,eb,l,eH⟩
 ·subst ey eH
  obtain⟨z,hd,vs,rel,dd⟩:=bg8 I.hok e;have hz:vs.length<=sizeLine:=by rw[<- rel.length];exact z
  have hl:(D_8 kvs k v).length<=sizeLine:=by have:=u_3 kvs k v;omega
  refine wpAny_setItem_pairs (hsz:=hz) (V_6 ry) dd λ h' dd' hs=>h _ ?_
  have he:∃ q,h'.get? a=some q:=let ⟨q,_,_,hq,_⟩:=dd';⟨q,hq⟩;exact ai2 I (by rw[e];exact True.intro) hs he (bg9 hl hd (rel.put k rv) dd')
 ·subst ey eH
  cases (show u=Value.ref b from ry);obtain⟨z,hd,xs,rel,dd⟩:=bz6 I.hok e;have hz:xs.length<=sizeLine:=by rw[<- Paired.length rel];exact z
  have hl:(D_8 kvs k v).length<=sizeLine:=by have:=u_3 kvs k v;omega
  refine wpAny_setItem_heap (hsz:=hz) (tupleKind_room_in1 hu) (Q_2 I.hok eb) dd λ h' dd' hs=>h _ ?_
  obtain⟨q,es,ep,hq,h2,h3,h4,_,h5⟩:=dd';refine ai2 I (by rw[e];exact True.intro) hs ⟨q,hq⟩ ⟨hl,hd,_,(rel.put k eb rv).keeps λ c ys ec=>?_,q,es,ep,hq,h2,h3,h4,h5⟩
  rw[a_6 (bv1 ec e (λ z=>nomatch z))]
  exact ec
end
def bn7 (i:Expr):Prop:=∀ ov iv,subscripted i false ov iv=operate [ov,iv] (getItem ov iv)
theorem Z_8 {prog:Program}{w:World}{A:Around}{E:Value->Shared->Prop}{s:Shared}{env:Env}{value slice:Expr}{pos:Pos}{T id:String}{Q:Value->Shared->Prop}
  (hl:typeLookup (.type T) "__getitem__"=pure (some (.builtin id))) (hs:bn7 slice)
  (h:wpAny (model prog w) A (eval value env) (λ o s₁=>wpAny (model prog w) A (eval slice env) (λ i s₂=>s₂.TypeIs o T/\wpAny (model prog w) A (getItem o i) Q E s₂) E s₁) E s) :
  wpAny (model prog w) A (eval (.Subscript value slice pos) env) Q E s:=by
 refine Subscript_ (wpAny_mono h (λ o s₁ h₁=>wpAny_mono h₁ (λ i s₂ h₂=>?_) λ _ _ x=>x) λ _ _ x=>x)
 obtain⟨hT,h₂⟩:=h₂;unfold subscriptTail;refine qb ?_;rw[getitemInPython_of_ne hT.not_modules];refine qb (wpAny_specialOf hT hl ?_)
 have fin:wpAny (model prog w) A (subscripted slice false o i) (λ r s₃=>wpAny (model prog w) A (letTemporaryGo value o r >>= λ _=>pure r) Q E s₃) E s₂:=by
  rw[hs o i];exact wpAny_operating (wpAny_mono h₂ (λ r s₃ h₃=>qb (wpAny_letTemporaryGo (qc h₃))) λ _ _ x=>x)
 first
  |exact qc (qb fin)
  |exact qb (qc (qb fin))
  |exact qb fin
theorem M_3 {X:Cx}{pins:List (Addr×Obj)}{σ:St}{H:Hp}{s:Shared}{a:Addr}{y:V}{o:Option V} (I:Inv X pins σ H s) (g:DGet H a y o):s.TypeIs (.ref a) "dict":=by
 rcases g with ⟨kvs,k,e,_,_⟩ | ⟨kvs,k,b,e,_,_,_⟩
 ·obtain⟨_,_,vs,_,dd⟩:=av7 I.hok e
  exact dd.typeIs
 ·obtain⟨_,_,xs,_,dd⟩:=av5 I.hok e
  exact dd.typeIs
def bp1 (td ty:TE):TE:=λ σ H Q=>td σ H λ x H1=>ty σ H1 λ y H2=>∃ a v,x=.ref a/\DGet H2 a y (some v)/\Q v H2
def br6 (td ty tv:TE):TS:=λ D σ H=>tv σ H λ v H1=>td σ H1 λ x H2=>ty σ H2 λ y H3=>∃ a H4,x=.ref a/\DPut H3 a y v H4/\D.nx σ H4
section
variable {X:Cx}{o i e value:Expr}{pos pos' tpos:Pos}{td ty tv:TE}
theorem aJ0 (hu:X.A.units+1<cLine) (ho:PE X o td) (hi:PE X i ty) (hs:bn7 i):PE X (.Subscript o i pos) (bp1 td ty):=by
 intro pins s σ H Q I h;refine Z_8 PySem.F.slot_dict_getitem.lookup hs (thn (ho pins s σ H _ I h) λ u s1 ⟨x,H1,I1,rx,q1⟩=>thn (hi pins s1 σ H1 _ I1 q1) λ iv s2 hh0_=>?_)
 obtain⟨y,H2,I2,ry,a,v,ex,g,q2⟩:=hh0_;subst ex;obtain rfl:u=Value.ref a:=rx;exact⟨M_3 I2 g,ai4 hu I2 g ry λ w' s3 I3 rw'=>⟨v,H2,I3,rw',q2⟩⟩
theorem aI6 (hu:X.A.units+1<cLine) (ho:PE X o td) (hi:PE X i ty) (hv:PE X value tv) (hs:swapsWith value (some (.Subscript o i pos')) pos.line X.env=pure false) :
  PS X (.Assign [.Subscript o i pos'] value pos) (br6 td ty tv):=by
 intro pins s σ H D I h;refine wpAny_Assign_Subscript (thn (hv pins s σ H _ I h) λ r s1 ⟨v,H1,I1,rv,q1⟩=>thn (ho pins s1 σ H1 _ I1 q1) λ u s2 ⟨x,H2,I2,rx,q2⟩=>thn (hi pins s2 σ H2 _ I2 q2) λ iv s3 hh0_=>?_) hs
 obtain⟨y,H3,I3,ry,a,H4,ex,g,q3⟩:=hh0_;subst ex;obtain rfl:u=Value.ref a:=rx;exact ai3 hu I3 g ry rv λ s4 I4=>⟨σ,H4,I4,q3⟩
end
theorem av8 {P:Program}{w:World}{H:Hp} (h:Heap) (hb:sysModules<h.objs.size):ObjOk P w H (h.push {cls:=.type "dict",data:=.dict #[]}) h.objs.size (.dK []) :=
 ⟨Nat.zero_le _,beq_eq_false_iff_ne.mpr (Ne.symm (qv hb)),[],.nil,Heap.DictOf.new h⟩
def aW2:TE:=λ _ H Q=>∀ p,H p=none->Q (.ref p) (upd H p (.dK []))
section
variable {X:Cx}{pos:Pos}
theorem ar7:PE X (.Dict [] [] pos) aW2:=λ pins s σ H Q I h =>
 wpAny_Dict_empty ⟨.ref s.heap.objs.size,_,I.laid (a:=s.heap.objs.size) (o:=.dK []) (t':=s.toks) (λ _ _ q=>qf _ q) (qj _) (av8 s.heap I.big),rfl,h _ (I.hok.fresh (qj _))⟩
end
abbrev VV:List (V×V)->List (Value×Value)->Prop:=Paired λ p q=>RelV p.1 q.1/\RelV p.2 q.2
structure M1 (X:Cx) (o:Expr) (m:Str) (apos:Pos) (e:Expr) (cpos:Pos):Prop where
 base:attributeBase o m X.env (eval o X.env)=eval o X.env
 few:((backTo cpos (starEach [e] X.env)).all (λ x=>!x.1)&&(backToKw cpos (keywordEach [] X.env)).all (λ x=>x.1.isSome)
  && decide (([e]:List Expr).length+([]:List Keyword).length+(if ([]:List Keyword).isEmpty then 0 else 1)<30))=true
 line:(apos.endLine==cpos.line)=true
 trees:backTo cpos (starEach [e] X.env)=[(false,eval e X.env)]
structure M2 (X:Cx) (o:Expr) (m:Str) (apos:Pos) (e f:Expr) (cpos:Pos):Prop where
 base:attributeBase o m X.env (eval o X.env)=eval o X.env
 few:((backTo cpos (starEach [e,f] X.env)).all (λ x=>!x.1)&&(backToKw cpos (keywordEach [] X.env)).all (λ x=>x.1.isSome)
  && decide (([e,f]:List Expr).length+([]:List Keyword).length+(if ([]:List Keyword).isEmpty then 0 else 1)<30))=true
 line:(apos.endLine==cpos.line)=true
 trees:backTo cpos (starEach [e,f] X.env)=[(false,eval e X.env),(false,eval f X.env)]
end L2
namespace Att
open PySem PySem.W PySem.Calls PyProof.Rows
end Att
namespace L2
open PySem PySem.Spec PyProof.Rows
end L2
namespace Fx
open PySem
inductive D where
 |non | bl (b:Bool) | int (i:Int) | str (x:Str) | tup (xs:List D) | lst (xs:List D)
 |dct (ks:List Str) (vs:List D)
inductive MO where
 |lst (xs:List D) | dic (kvs:List (Str×D))
inductive Sl where
 |no | im (d:D) | ow (b:Bool) (o:MO)
abbrev En:=List Sl
inductive Res where
 |nx (ρ:En) | rt (d:D) (ρ:En) | bk (ρ:En) | ct (ρ:En)
abbrev FE:=En->Option (D×En)
abbrev FT:=En->Option (Bool×En)
abbrev FA:=En->Option (List D×En)
abbrev FS:=En->Option Res
def bnd {α β:Type} (x:Option α) (f:α->Option β):Option β:=x.bind f
theorem b_0 {α β:Type} (a:α) (f:α->Option β):bnd (some a) f=f a:=rfl
mutual
def eqD:D->D->Bool
 |.non,.non=>true
 |.bl a,.bl b=>a==b
 |.bl a,.int b=>(if a then 1 else 0)==b
 |.int a,.bl b=>a==(if b then 1 else 0)
 |.int a,.int b=>a==b
 |.str a,.str b=>a==b
 |.tup a,.tup b=>w_5 a b
 |.lst a,.lst b=>w_5 a b
 |_,_=>false
def w_5:List D->List D->Bool
 |[],[]=>true
 |a::r,b::t=>eqD a b&&w_5 r t
 |_,_=>false
end
@[simp] theorem aP3 :eqD .non .non=true:=by rw[eqD]
@[simp] theorem aT7 (y:Bool):eqD .non (.bl y)=false:=by simp[eqD]
@[simp] theorem aP5 (y:Int):eqD .non (.int y)=false:=by simp[eqD]
@[simp] theorem aP2 (y:Str):eqD .non (.str y)=false:=by simp[eqD]
@[simp] theorem aP1 (y:List D):eqD .non (.tup y)=false:=by simp[eqD]
@[simp] theorem aP4 (y:List D):eqD .non (.lst y)=false:=by simp[eqD]
@[simp] theorem aU2 (x:Bool):eqD (.bl x) .non=false:=by simp[eqD]
@[simp] theorem bg0 (x:Bool) (y:Bool):eqD (.bl x) (.bl y)=decide (x=y):=by rw[eqD];exact Bool.beq_eq_decide_eq _ _
@[simp] theorem aU4 (x:Bool) (y:Int):eqD (.bl x) (.int y)=((if x then 1 else 0)==y):=by rw[eqD]
@[simp] theorem aU1 (x:Bool) (y:Str):eqD (.bl x) (.str y)=false:=by simp[eqD]
@[simp] theorem aU0 (x:Bool) (y:List D):eqD (.bl x) (.tup y)=false:=by simp[eqD]
@[simp] theorem aU3 (x:Bool) (y:List D):eqD (.bl x) (.lst y)=false:=by simp[eqD]
@[simp] theorem aQ2 (x:Int):eqD (.int x) .non=false:=by simp[eqD]
@[simp] theorem aT9 (x:Int) (y:Bool):eqD (.int x) (.bl y)=(x==(if y then 1 else 0)):=by rw[eqD]
@[simp] theorem aQ4 (x:Int) (y:Int):eqD (.int x) (.int y)=decide (x=y):=by rw[eqD];exact Bool.beq_eq_decide_eq _ _
@[simp] theorem aQ1 (x:Int) (y:Str):eqD (.int x) (.str y)=false:=by simp[eqD]
@[simp] theorem aQ0 (x:Int) (y:List D):eqD (.int x) (.tup y)=false:=by simp[eqD]
@[simp] theorem aQ3 (x:Int) (y:List D):eqD (.int x) (.lst y)=false:=by simp[eqD]
@[simp] theorem aO8 (x:Str):eqD (.str x) .non=false:=by simp[eqD]
@[simp] theorem aT6 (x:Str) (y:Bool):eqD (.str x) (.bl y)=false:=by simp[eqD]
@[simp] theorem aP0 (x:Str) (y:Int):eqD (.str x) (.int y)=false:=by simp[eqD]
@[simp] theorem h_3 (x:Str) (y:Str):eqD (.str x) (.str y)=decide (x=y):=by rw[eqD];exact Bool.beq_eq_decide_eq _ _
@[simp] theorem aO7 (x:Str) (y:List D):eqD (.str x) (.tup y)=false:=by simp[eqD]
@[simp] theorem aO9 (x:Str) (y:List D):eqD (.str x) (.lst y)=false:=by simp[eqD]
@[simp] theorem aO4 (x:List D):eqD (.tup x) .non=false:=by simp[eqD]
@[simp] theorem aT5 (x:List D) (y:Bool):eqD (.tup x) (.bl y)=false:=by simp[eqD]
@[simp] theorem aO6 (x:List D) (y:Int):eqD (.tup x) (.int y)=false:=by simp[eqD]
@[simp] theorem aO3 (x:List D) (y:Str):eqD (.tup x) (.str y)=false:=by simp[eqD]
@[simp] theorem M_1 (x:List D) (y:List D):eqD (.tup x) (.tup y)=w_5 x y:=by rw[eqD]
@[simp] theorem aO5 (x:List D) (y:List D):eqD (.tup x) (.lst y)=false:=by simp[eqD]
@[simp] theorem aP8 (x:List D):eqD (.lst x) .non=false:=by simp[eqD]
@[simp] theorem aT8 (x:List D) (y:Bool):eqD (.lst x) (.bl y)=false:=by simp[eqD]
@[simp] theorem aP9 (x:List D) (y:Int):eqD (.lst x) (.int y)=false:=by simp[eqD]
@[simp] theorem aP7 (x:List D) (y:Str):eqD (.lst x) (.str y)=false:=by simp[eqD]
@[simp] theorem aP6 (x:List D) (y:List D):eqD (.lst x) (.tup y)=false:=by simp[eqD]
@[simp] theorem M_2 (x:List D) (y:List D):eqD (.lst x) (.lst y)=w_5 x y:=by rw[eqD]
@[simp] theorem by3:w_5 [] []=true:=by rw[w_5]
@[simp] theorem by6 (a b:D) (r t:List D):w_5 (a::r) (b::t)=(eqD a b&&w_5 r t):=by rw[w_5]
@[simp] theorem by4 (b:D) (t:List D):w_5 [] (b::t)=false:=by simp[w_5]
@[simp] theorem by5 (b:D) (t:List D):w_5 (b::t) []=false:=by simp[w_5]
mutual
def dpD:D->Nat
 |.tup xs=>w_6 xs+1
 |.lst xs=>w_6 xs+1
 |.dct _ _=>1000
 |_=>0
def w_6:List D->Nat
 |[]=>0
 |d::r=>max (dpD d) (w_6 r)
end
@[simp] theorem c_5 (ks:List Str) (vs:List D):dpD (.dct ks vs)=1000:=rfl
@[simp] theorem bz8:dpD .non=0:=rfl
@[simp] theorem bJ6 (b:Bool):dpD (.bl b)=0:=rfl
@[simp] theorem bz9 (i:Int):dpD (.int i)=0:=rfl
@[simp] theorem bz7 (x:Str):dpD (.str x)=0:=rfl
@[simp] theorem f_6 (xs:List D):dpD (.tup xs)=w_6 xs+1:=rfl
@[simp] theorem f_7 (xs:List D):dpD (.lst xs)=w_6 xs+1:=rfl
@[simp] theorem bn1:w_6 []=0:=rfl
@[simp] theorem G_7 (d:D) (r:List D):w_6 (d::r)=max (dpD d) (w_6 r):=rfl
def bB2 (i:Int):Bool:=decide (i.natAbs<2 ^ 1000)
def l_5 (i j:Int):Bool:=decide (i.natAbs<2 ^ 64)||decide (j.natAbs<2 ^ 64)||(bB2 i&&bB2 j)
def i_5 (j:Int):Bool:=decide (j≠0)&&decide (j.natAbs<2 ^ 1000)
def am0:D->Option Int
 |.int i=>some i
 |_=>none
def onI (g:Int->Int->Option D) (x y:D):Option D:=bnd (am0 x) λ i=>bnd (am0 y) (g i)
theorem x_7 {g:Int->Int->Option D}{x y d:D} (e:onI g x y=some d):∃ i j,x=.int i/\y=.int j/\g i j=some d:=by
 cases x with
 |int i =>
  cases y with
  |int j=>exact⟨i,j,rfl,rfl,e⟩
  |_=>cases e
 |_=>cases e
def f_8:D->D->Option D
 |.int i,.int j=>some (.int (i+j))
 |.str a,.str b=>if a.length+b.length<=sizeLine then some (.str (a++b)) else none
 |.lst a,.lst b=>if a.length+b.length<=sizeLine then some (.lst (a++b)) else none
 |_,_=>none
def ai5:D->D->Option D:=onI λ i j=>some (.int (i-j))
def X_9:D->D->Option D:=onI λ i j=>if l_5 i j=true then some (.int (i*j)) else none
def aw4:D->D->Option D:=onI λ i j=>if i_5 j=true then some (.int (i.fdiv j)) else none
def g_6:D->D->Option D:=onI λ i j=>if j≠0 then some (.int (i.fmod j)) else none
def am3:D->D->Option D:=onI λ i j=>if 0<=j/\j<=64/\i.natAbs<2 ^ 64 then some (.int (i ^ j.toNat)) else none
def am4:D->Option D
 |.int i=>some (.int (-i))
 |_=>none
def bh7 (p:Int->Int->Bool):D->D->Option D:=onI λ i j=>some (.bl (p i j))
def dLt:D->D->Option D:=bh7 λ i j=>decide (i<j)
def dLe:D->D->Option D:=bh7 λ i j=>decide (i<=j)
def dGt:D->D->Option D:=bh7 λ i j=>decide (j<i)
def dGe:D->D->Option D:=bh7 λ i j=>decide (j<=i)
def dEq (x y:D):Option D:=if dpD x<=30/\dpD y<=30 then some (.bl (eqD x y)) else none
def dNe (x y:D):Option D:=if dpD x<=30/\dpD y<=30 then some (.bl (!eqD x y)) else none
def isN:D->Bool
 |.non=>true
 |_=>false
@[simp] theorem bw8 (ks:List Str) (vs:List D):isN (.dct ks vs)=false:=rfl
@[simp] theorem bw5:isN .non=true:=rfl
@[simp] theorem bG3 (b:Bool):isN (.bl b)=false:=rfl
@[simp] theorem bw7 (b:Int):isN (.int b)=false:=rfl
@[simp] theorem bw4 (b:Str):isN (.str b)=false:=rfl
@[simp] theorem bw3 (b:List D):isN (.tup b)=false:=rfl
@[simp] theorem bw6 (b:List D):isN (.lst b)=false:=rfl
def dIs (x y:D):Option D:=match y with
 |.non=>some (.bl (isN x))
 |_=>none
def l_8 (x y:D):Option D:=match y with
 |.non=>some (.bl (!isN x))
 |_=>none
def aC5:D->Option Bool
 |.non=>some false
 |.bl b=>some b
 |.int i=>some (i != 0)
 |.lst xs=>some (!xs.isEmpty)
 |.tup xs=>some (!xs.isEmpty)
 |_=>none
def dPl (n:Nat) (i:Int):Option Nat:=if 0<=i then (if i<n then some i.toNat else none) else if -(n:Int)<=i then some (i+n).toNat else none
def atD (xs:List D) (i:Int):Option D:=(dPl xs.length i).bind λ j=>xs[j]?
def ai7 (n d:Nat):Option Int->Nat
 |none=>d
 |some v=>if v<0 then (v+(n:Int)).toNat else min v.toNat n
theorem S_2 (n d k:Nat):ai7 n d (some (k:Int))=min k n:=by
 show (if (k:Int)<0 then ((k:Int)+(n:Int)).toNat else min (k:Int).toNat n)=_;exact if_neg (Int.not_lt.mpr (Int.natCast_nonneg k))
def Y_0 (xs:List D) (lo hi:Option Int):List D:=(xs.drop (ai7 xs.length 0 lo)).take (ai7 xs.length xs.length hi-ai7 xs.length 0 lo)
def Y_1:List D->Option D
 |[.int i]=>some (.int (if i<0 then -i else i))
 |_=>none
def y_1:List D->Option (List Int)
 |[]=>some []
 |.int i::r=>bnd (y_1 r) λ is=>some (i::is)
 |_=>none
theorem L_4 (i:Int) (r:List D):y_1 (.int i::r)=bnd (y_1 r) λ is=>some (i::is):=rfl
def V_1:Int->List Int->Int
 |m,[]=>m
 |m,x::r=>V_1 (if x<m then x else m) r
def V_2:Int->List Int->Int
 |m,[]=>m
 |m,x::r=>V_2 (if m<x then x else m) r
def aS1 (f:Int->List Int->Int):List Int->Option D
 |[]=>none
 |i::r=>some (.int (f i r))
def aS2:List D->Option D
 |[.int i,.int j]=>some (.int (if j > i then j else i))
 |[.lst xs]=>bnd (y_1 xs) λ is=>aS1 V_2 is
 |_=>none
def bi0:List D->Option D
 |[.int i,.int j]=>some (.int (if j<i then j else i))
 |[.lst xs]=>bnd (y_1 xs) λ is=>aS1 V_1 is
 |_=>none
def w_7:List D->Option (List Bool)
 |[]=>some []
 |.bl b::r=>bnd (w_7 r) λ bs=>some (b::bs)
 |_=>none
theorem X_3 (b:Bool) (r:List D):w_7 (.bl b::r)=bnd (w_7 r) λ bs=>some (b::bs):=rfl
def I_4:List D->Option D
 |[.lst xs]=>bnd (w_7 xs) λ bs=>some (.bl (bs.all id))
 |_=>none
inductive Ty where
 |int | bool | str | tuple | list
def I_9:Ty->D->Bool
 |.int,.int _=>true
 |.int,.bl _=>true
 |.bool,.bl _=>true
 |.str,.str _=>true
 |.tuple,.tup _=>true
 |.list,.lst _=>true
 |_,_=>false
def slV (ρ:En):Option Sl->Option (D×En)
 |some (.im d)=>some (d,ρ)
 |_=>none
def eV (i:Nat) (ρ:En):Option (D×En):=slV ρ ρ[i]?
def eC (d:D) (ρ:En):Option (D×En):=some (d,ρ)
def e1 (op:D->Option D) (F:FE) (ρ:En):Option (D×En):=bnd (F ρ) λ p=>bnd (op p.1) λ d=>some (d,p.2)
def e2 (op:D->D->Option D) (F G:FE) (ρ:En):Option (D×En):=bnd (F ρ) λ p=>bnd (G p.2) λ q=>bnd (op p.1 q.1) λ d=>some (d,q.2)
def blB:D->Option Bool
 |.bl b=>some b
 |_=>none
def e3 (op op':D->D->Option D) (F G L:FE) (ρ:En):Option (D×En):=bnd (F ρ) λ p=>bnd (G p.2) λ q=>bnd (op p.1 q.1) λ z=>bnd (blB z) λ b =>
 if b=true then bnd (L q.2) λ r=>bnd (op' q.1 r.1) λ d=>some (d,r.2) else some (.bl false,q.2)
def aN (ρ:En):Option (List D×En):=some ([],ρ)
def aC (F:FE) (A:FA) (ρ:En):Option (List D×En):=bnd (F ρ) λ p=>bnd (A p.2) λ q=>some (p.1::q.1,q.2)
def g_8 (A:FA) (ρ:En):Option (D×En):=bnd (A ρ) λ p=>if p.1.length<=1000 then some (.tup p.1,p.2) else none
def k_1 (A:FA) (ρ:En):Option (D×En):=bnd (A ρ) λ p=>if p.1.length<=1000 then some (.lst p.1,p.2) else none
def eF (g:List D->Option D) (A:FA) (ρ:En):Option (D×En):=bnd (A ρ) λ p=>bnd (g p.1) λ d=>some (d,p.2)
def eTy (t:Ty) (F:FE) (ρ:En):Option (D×En):=bnd (F ρ) λ p=>some (.bl (I_9 t p.1),p.2)
abbrev FO:=En->Option (Option Int×En)
def oN (ρ:En):Option (Option Int×En):=some (none,ρ)
def oS (F:FE) (ρ:En):Option (Option Int×En):=bnd (F ρ) λ p=>bnd (am0 p.1) λ i=>some (some i,p.2)
def tB (F:FE) (ρ:En):Option (Bool×En):=bnd (F ρ) λ p=>bnd (blB p.1) λ b=>some (b,p.2)
def tV (F:FE) (ρ:En):Option (Bool×En):=bnd (F ρ) λ p=>bnd (aC5 p.1) λ b=>some (b,p.2)
def tAnd (T U:FT) (ρ:En):Option (Bool×En):=bnd (T ρ) λ p=>if p.1=true then U p.2 else some (false,p.2)
def tOr (T U:FT) (ρ:En):Option (Bool×En):=bnd (T ρ) λ p=>if p.1=true then some (true,p.2) else U p.2
def tNot (T:FT) (ρ:En):Option (Bool×En):=bnd (T ρ) λ p=>some (!p.1,p.2)
def tYes (ρ:En):Option (Bool×En):=some (true,ρ)
def eIf (T:FT) (F G:FE) (ρ:En):Option (D×En):=bnd (T ρ) λ p=>if p.1=true then F p.2 else G p.2
def W_4 (F G:FE) (ρ:En):Option (D×En):=bnd (F ρ) λ p=>bnd (blB p.1) λ b=>if b=true then G p.2 else some (.bl false,p.2)
def eOr (F G:FE) (ρ:En):Option (D×En):=bnd (F ρ) λ p=>bnd (blB p.1) λ b=>if b=true then some (.bl true,p.2) else G p.2
def slI:Option Sl->Option Sl
 |some (.im d)=>some (.im d)
 |_=>none
def r_7 (ρ:En):List Nat->Option En
 |[]=>some []
 |j::js=>bnd (slI ρ[j]?) λ s=>bnd (r_7 ρ js) λ r=>some (s::r)
theorem Q_8 (ρ:En):r_7 ρ []=some []:=rfl
theorem af7 (ρ:En) (j:Nat) (js:List Nat):r_7 ρ (j::js)=bnd (slI ρ[j]?) λ s=>bnd (r_7 ρ js) λ r=>some (s::r):=rfl
def cGo (T:FT) (F:FE) (fr:En):List D->Option (List D)
 |[]=>some []
 |d::r=>bnd (T (.im d::fr)) λ p=>if p.1=true then bnd (F p.2) λ q=>bnd (cGo T F fr r) λ t=>some (q.1::t) else cGo T F fr r
theorem aR6 (T:FT) (F:FE) (fr:En):cGo T F fr []=some []:=rfl
theorem ax2 (T:FT) (F:FE) (fr:En) (d:D) (r:List D):cGo T F fr (d::r)=bnd (T (.im d::fr)) λ p=>if p.1=true then bnd (F p.2) λ q=>bnd (cGo T F fr r) λ t=>some (q.1::t) else cGo T F fr r:=rfl
def chS (c:Nat):Str:=⟨#[c]⟩
def chs (z:Str):List D:=z.cps.toList.map λ c=>.str (chS c)
def items:D->Option (List D)
 |.lst xs=>some xs
 |.tup xs=>some xs
 |.str z=>some (chs z)
 |_=>none
def eLC (js:List Nat) (I:FE) (T:FT) (F:FE) (ρ:En):Option (D×En):=bnd (I ρ) λ p=>bnd (items p.1) λ xs=>bnd (r_7 p.2 js) λ fr=>bnd (cGo T F fr xs) λ ys=>if xs.length<=sizeLine then some (.lst ys,p.2) else none
def sN (ρ:En):Option Res:=some (.nx ρ)
def nxR (G:FS):Res->Option Res
 |.nx ρ'=>G ρ'
 |.rt d ρ=>some (.rt d ρ)
 |.bk ρ=>some (.bk ρ)
 |.ct ρ=>some (.ct ρ)
def b_4 (F G:FS) (ρ:En):Option Res:=bnd (F ρ) λ r=>nxR G r
def e_6 (i:Nat) (F:FE) (ρ:En):Option Res:=bnd (F ρ) λ p=>some (.nx (p.2.set i (.im p.1)))
def l_7:List Nat->List D->En->En
 |i::is,d::ds,ρ=>l_7 is ds (ρ.set i (.im d))
 |_,_,ρ=>ρ
theorem J_6 (i:Nat) (is:List Nat) (d:D) (ds:List D) (ρ:En):l_7 (i::is) (d::ds) ρ=l_7 is ds (ρ.set i (.im d)):=rfl
theorem U_1 (ds:List D) (ρ:En):l_7 [] ds ρ=ρ:=by cases ds <;> rfl
def bo5:D->Option (List D)
 |.tup xs=>some xs
 |.lst xs=>some xs
 |_=>none
def gN (i:Nat) (d:D) (ρ:En):Option En:=some (ρ.set i (.im d))
def gT (is:List Nat) (d:D) (ρ:En):Option En:=bnd (bo5 d) λ xs=>if xs.length=is.length then some (l_7 is xs ρ) else none
def bj6 (is:List Nat) (F:FE) (ρ:En):Option Res:=bnd (F ρ) λ p=>bnd (gT is p.1 p.2) λ ρ'=>some (.nx ρ')
def sIf (T:FT) (F G:FS) (ρ:En):Option Res:=bnd (T ρ) λ p=>if p.1=true then F p.2 else G p.2
def c_9 (F:FE) (ρ:En):Option Res:=bnd (F ρ) λ p=>some (.rt p.1 p.2)
def goR (G:FS):Res->Option Res
 |.nx ρ=>G ρ
 |.ct ρ=>G ρ
 |.bk ρ=>some (.nx ρ)
 |.rt d ρ=>some (.rt d ρ)
def fGo (g:D->En->Option En) (B:FS):List D->FS
 |[],ρ=>some (.nx ρ)
 |d::r,ρ=>bnd (g d ρ) λ ρ1=>bnd (B ρ1) λ z=>goR (fGo g B r) z
theorem ah0 (g:D->En->Option En) (B:FS) (ρ:En):fGo g B [] ρ=some (.nx ρ):=rfl
theorem R_2 (g:D->En->Option En) (B:FS) (d:D) (r:List D) (ρ:En):fGo g B (d::r) ρ=bnd (g d ρ) λ ρ1=>bnd (B ρ1) λ z=>goR (fGo g B r) z:=rfl
def al0 (g:D->En->Option En) (F:FE) (B:FS) (ρ:En):Option Res:=bnd (F ρ) λ p=>bnd (items p.1) λ xs=>fGo g B xs p.2
def r_5 (lo:Int):Nat->List D
 |0=>[]
 |n+1=>.int lo::r_5 (lo+1) n
def rng1 (F:FE) (ρ:En):Option (List D×En):=bnd (F ρ) λ p=>bnd (am0 p.1) λ j=>if -(2 ^ 62)<=j/\j<2 ^ 62 then some (r_5 0 j.toNat,p.2) else none
def bk7 (F G:FE) (ρ:En):Option (List D×En):=bnd (F ρ) λ p=>bnd (G p.2) λ q=>bnd (am0 p.1) λ i=>bnd (am0 q.1) λ j =>
 if -(2 ^ 62)<=i/\i<2 ^ 62/\-(2 ^ 62)<=j/\j<2 ^ 62 then some (r_5 i (j-i).toNat,q.2) else none
def w_0 (g:D->En->Option En) (R:FA) (B:FS) (ρ:En):Option Res:=bnd (R ρ) λ p=>fGo g B p.1 p.2
def aK0 (A:FA) (ρ:En):Option (List D×En):=bnd (A ρ) λ p=>if p.1.length<=1000 then some p else none
def aa7 (i:Nat) (A:FA) (ρ:En):Option Res:=bnd (A ρ) λ p=>some (.nx (p.2.set i (.ow false (.lst p.1))))
def owL:Option Sl->Option (List D)
 |some (.ow false (.lst ds))=>some ds
 |_=>none
def aq0 (i:Nat) (F:FE) (ρ:En):Option Res:=bnd (owL ρ[i]?) λ _=>bnd (F ρ) λ p=>bnd (owL p.2[i]?) λ ds=>if ds.length<1000000 then some (.nx (p.2.set i (.ow false (.lst (ds++[p.1]))))) else none
def frz (i:Nat) (ρ:En):En:=match ρ[i]? with
 |some (.ow false (.lst ds))=>ρ.set i (.im (.lst ds))
 |_=>ρ
def O_0 (i:Nat) (F:FS) (ρ:En):Option Res:=F (frz i ρ)
def eLR (js:List Nat) (R:FA) (T:FT) (F:FE) (ρ:En):Option (D×En):=bnd (R ρ) λ p=>bnd (r_7 p.2 js) λ fr=>bnd (cGo T F fr p.1) λ ys=>if p.1.length<=sizeLine then some (.lst ys,p.2) else none
def bs9:Res->Option D
 |.rt d _=>some d
 |.nx _=>some .non
 |_=>none
def fnD (n k:Nat) (B:FS) (ds:List D):Option D:=if ds.length=n then bnd (B (ds.map .im++List.replicate k .no)) λ r=>bs9 r else none
@[simp] theorem bL7 (i j:Int):f_8 (.int i) (.int j)=some (.int (i+j)):=Eq.trans rfl rfl
@[simp] theorem bL6 (a b:List D):f_8 (.lst a) (.lst b)=if a.length+b.length<=sizeLine then some (.lst (a++b)) else none:=Eq.trans rfl rfl
@[simp] theorem bL5 (a b:Str):f_8 (.str a) (.str b)=if a.length+b.length<=sizeLine then some (.str (a++b)) else none:=Eq.trans rfl rfl
@[simp] theorem bK0 (i j:Int):ai5 (.int i) (.int j)=some (.int (i-j)):=Eq.trans rfl rfl
@[simp] theorem bK8 (i j:Int):X_9 (.int i) (.int j)=if l_5 i j=true then some (.int (i*j)) else none:=Eq.trans rfl rfl
@[simp] theorem bL4 (i j:Int):aw4 (.int i) (.int j)=if i_5 j=true then some (.int (i.fdiv j)) else none:=Eq.trans rfl rfl
@[simp] theorem bK9 (i j:Int):g_6 (.int i) (.int j)=if j≠0 then some (.int (i.fmod j)) else none:=Eq.trans rfl rfl
@[simp] theorem bK5 (i j:Int):am3 (.int i) (.int j)=if 0<=j/\j<=64/\i.natAbs<2 ^ 64 then some (.int (i ^ j.toNat)) else none:=Eq.trans rfl rfl
@[simp] theorem bK6 (i:Int):am4 (.int i)=some (.int (-i)):=Eq.trans rfl rfl
@[simp] theorem bV7 (i j:Int):dLt (.int i) (.int j)=some (.bl (decide (i<j))):=Eq.trans rfl rfl
@[simp] theorem bV8 (i j:Int):dLe (.int i) (.int j)=some (.bl (decide (i<=j))):=Eq.trans rfl rfl
@[simp] theorem bV9 (i j:Int):dGt (.int i) (.int j)=some (.bl (decide (j<i))):=Eq.trans rfl rfl
@[simp] theorem bW0 (i j:Int):dGe (.int i) (.int j)=some (.bl (decide (j<=i))):=Eq.trans rfl rfl
@[simp] theorem aw3 (x y:D):dEq x y=if dpD x<=30/\dpD y<=30 then some (.bl (eqD x y)) else none:=Eq.trans rfl rfl
@[simp] theorem bK7 (x y:D):dNe x y=if dpD x<=30/\dpD y<=30 then some (.bl (!eqD x y)) else none:=Eq.trans rfl rfl
@[simp] theorem bZ1 (x:D):dIs x .non=some (.bl (isN x)):=Eq.trans rfl rfl
@[simp] theorem bA3 (x:D):l_8 x .non=some (.bl (!isN x)):=Eq.trans rfl rfl
@[simp] theorem bJ9 (b:Bool):aC5 (.bl b)=some b:=Eq.trans rfl rfl
@[simp] theorem bJ8 (xs:List D):aC5 (.tup xs)=some (!xs.isEmpty):=Eq.trans rfl rfl
@[simp] theorem bW5 (i:Int):Y_1 [.int i]=some (.int (i.natAbs:Int)):=congrArg (λ z=>some (D.int z)) (show (if i<0 then -i else i)=(i.natAbs:Int) by split <;> omega)
@[simp] theorem bW4 (i j:Int):aS2 [.int i,.int j]=some (.int (if j > i then j else i)):=Eq.trans rfl rfl
@[simp] theorem bW3 (i j:Int):bi0 [.int i,.int j]=some (.int (if j<i then j else i)):=Eq.trans rfl rfl
def bA6 {α:Type} (x:α) (o:Option (List α)):Option (List α):=bnd o λ t=>some (x::t)
@[simp] theorem G_8 {α:Type} (x:α) (t:List α):bA6 x (some t)=some (x::t):=Eq.trans rfl rfl
@[simp] theorem ak2 (b:Bool) (r:List D):w_7 (.bl b::r)=bA6 b (w_7 r):=Eq.trans rfl rfl
def bM3 (o:Option (List Bool)):Option D:=bnd o λ bs=>some (.bl (bs.all id))
@[simp] theorem aD0 (bs:List Bool):bM3 (some bs)=some (.bl (bs.all id)):=Eq.trans rfl rfl
@[simp] theorem bi2 (xs:List D):I_4 [.lst xs]=bM3 (w_7 xs):=Eq.trans rfl rfl
@[simp] theorem al8 (ks:List Str) (vs:List D):I_9 .tuple (.dct ks vs)=false:=Eq.trans rfl rfl
@[simp] theorem aB4 (b:Str):I_9 .str (.str b)=true:=Eq.trans rfl rfl
@[simp] theorem al5 :I_9 .tuple .non=false:=Eq.trans rfl rfl
@[simp] theorem au1 (b:Bool):I_9 .tuple (.bl b)=false:=Eq.trans rfl rfl
@[simp] theorem al7 (b:Int):I_9 .tuple (.int b)=false:=Eq.trans rfl rfl
@[simp] theorem al4 (b:Str):I_9 .tuple (.str b)=false:=Eq.trans rfl rfl
@[simp] theorem al3 (b:List D):I_9 .tuple (.tup b)=true:=Eq.trans rfl rfl
@[simp] theorem al6 (b:List D):I_9 .tuple (.lst b)=false:=Eq.trans rfl rfl
@[simp] theorem au2 (b:List D):I_9 .list (.lst b)=true:=Eq.trans rfl rfl
def mkP (o:Option D) (ρ:En):Option (D×En):=bnd o λ d=>some (d,ρ)
@[simp] theorem bS7 (d:D) (ρ:En):mkP (some d) ρ=some (d,ρ):=Eq.trans rfl rfl
@[simp] theorem bP0 (ρ:En) (d:D):slV ρ (some (.im d))=some (d,ρ):=Eq.trans rfl rfl
@[simp] theorem eV_ (i:Nat) (ρ:En):eV i ρ=slV ρ ρ[i]?:=Eq.trans rfl rfl
@[simp] theorem eC_ (d:D) (ρ:En):eC d ρ=some (d,ρ):=Eq.trans rfl rfl
def e1a (op:D->Option D) (o:Option (D×En)):Option (D×En):=bnd o λ p=>bnd (op p.1) λ d=>some (d,p.2)
@[simp] theorem e1_ (op:D->Option D) (F:FE) (ρ:En):e1 op F ρ=e1a op (F ρ):=Eq.trans rfl rfl
@[simp] theorem bV3 (op:D->Option D) (x:D) (ρ:En):e1a op (some (x,ρ))=mkP (op x) ρ:=Eq.trans rfl rfl
def e2b (op:D->D->Option D) (x:D) (o:Option (D×En)):Option (D×En):=bnd o λ q=>bnd (op x q.1) λ d=>some (d,q.2)
def e2a (op:D->D->Option D) (G:FE) (o:Option (D×En)):Option (D×En):=bnd o λ p=>bnd (G p.2) λ q=>bnd (op p.1 q.1) λ d=>some (d,q.2)
@[simp] theorem e2_ (op:D->D->Option D) (F G:FE) (ρ:En):e2 op F G ρ=e2a op G (F ρ):=Eq.trans rfl rfl
@[simp] theorem bV2 (op:D->D->Option D) (G:FE) (x:D) (ρ:En):e2a op G (some (x,ρ))=e2b op x (G ρ):=Eq.trans rfl rfl
@[simp] theorem bV1 (op:D->D->Option D) (x y:D) (ρ:En):e2b op x (some (y,ρ))=mkP (op x y) ρ:=Eq.trans rfl rfl
def e3c (op':D->D->Option D) (L:FE) (y:D) (ρ:En) (o:Option D):Option (D×En):=bnd o λ z=>bnd (blB z) λ b=>if b=true then bnd (L ρ) λ r=>bnd (op' y r.1) λ d=>some (d,r.2) else some (.bl false,ρ)
def e3b (op op':D->D->Option D) (L:FE) (x:D) (o:Option (D×En)):Option (D×En):=bnd o λ q=>bnd (op x q.1) λ z=>bnd (blB z) λ b=>if b=true then bnd (L q.2) λ r=>bnd (op' q.1 r.1) λ d=>some (d,r.2) else some (.bl false,q.2)
def e3a (op op':D->D->Option D) (G L:FE) (o:Option (D×En)):Option (D×En):=bnd o λ p=>bnd (G p.2) λ q=>bnd (op p.1 q.1) λ z=>bnd (blB z) λ b=>if b=true then bnd (L q.2) λ r=>bnd (op' q.1 r.1) λ d=>some (d,r.2) else some (.bl false,q.2)
@[simp] theorem e3_ (op op':D->D->Option D) (F G L:FE) (ρ:En):e3 op op' F G L ρ=e3a op op' G L (F ρ):=Eq.trans rfl rfl
@[simp] theorem bV0 (op op':D->D->Option D) (G L:FE) (x:D) (ρ:En):e3a op op' G L (some (x,ρ))=e3b op op' L x (G ρ):=Eq.trans rfl rfl
@[simp] theorem bU9 (op op':D->D->Option D) (L:FE) (x y:D) (ρ:En):e3b op op' L x (some (y,ρ))=e3c op' L y ρ (op x y):=Eq.trans rfl rfl
@[simp] theorem bU8 (op':D->D->Option D) (L:FE) (y:D) (ρ:En):e3c op' L y ρ (some (.bl true))=e2b op' y (L ρ):=Eq.trans rfl rfl
@[simp] theorem aN_ (ρ:En):aN ρ=some ([],ρ):=Eq.trans rfl rfl
def aCb (x:D) (o:Option (List D×En)):Option (List D×En):=bnd o λ q=>some (x::q.1,q.2)
def aCa (A:FA) (o:Option (D×En)):Option (List D×En):=bnd o λ p=>bnd (A p.2) λ q=>some (p.1::q.1,q.2)
@[simp] theorem aC_ (F:FE) (A:FA) (ρ:En):aC F A ρ=aCa A (F ρ):=Eq.trans rfl rfl
@[simp] theorem bW9 (A:FA) (x:D) (ρ:En):aCa A (some (x,ρ))=aCb x (A ρ):=Eq.trans rfl rfl
@[simp] theorem bW8 (x:D) (xs:List D) (ρ:En):aCb x (some (xs,ρ))=some (x::xs,ρ):=Eq.trans rfl rfl
def bD1 (o:Option (List D×En)):Option (D×En):=bnd o λ p=>if p.1.length<=1000 then some (.tup p.1,p.2) else none
@[simp] theorem bU2 (A:FA) (ρ:En):g_8 A ρ=bD1 (A ρ):=Eq.trans rfl rfl
@[simp] theorem bD0 (xs:List D) (ρ:En):bD1 (some (xs,ρ))=if xs.length<=1000 then some (.tup xs,ρ) else none:=Eq.trans rfl rfl
def bF8 (o:Option (List D×En)):Option (D×En):=bnd o λ p=>if p.1.length<=1000 then some (.lst p.1,p.2) else none
@[simp] theorem bU4 (A:FA) (ρ:En):k_1 A ρ=bF8 (A ρ):=Eq.trans rfl rfl
@[simp] theorem bF7 (xs:List D) (ρ:En):bF8 (some (xs,ρ))=if xs.length<=1000 then some (.lst xs,ρ) else none:=Eq.trans rfl rfl
def eFa (g:List D->Option D) (o:Option (List D×En)):Option (D×En):=bnd o λ p=>bnd (g p.1) λ d=>some (d,p.2)
@[simp] theorem eF_ (g:List D->Option D) (A:FA) (ρ:En):eF g A ρ=eFa g (A ρ):=Eq.trans rfl rfl
@[simp] theorem bU5 (g:List D->Option D) (xs:List D) (ρ:En):eFa g (some (xs,ρ))=mkP (g xs) ρ:=Eq.trans rfl rfl
def bH4 (t:Ty) (o:Option (D×En)):Option (D×En):=bnd o λ p=>some (.bl (I_9 t p.1),p.2)
@[simp] theorem bY4 (t:Ty) (F:FE) (ρ:En):eTy t F ρ=bH4 t (F ρ):=Eq.trans rfl rfl
@[simp] theorem bH3 (t:Ty) (x:D) (ρ:En):bH4 t (some (x,ρ))=some (.bl (I_9 t x),ρ):=Eq.trans rfl rfl
@[simp] theorem oN_ (ρ:En):oN ρ=some (none,ρ):=Eq.trans rfl rfl
def oSa (o:Option (D×En)):Option (Option Int×En):=bnd o λ p=>bnd (am0 p.1) λ i=>some (some i,p.2)
@[simp] theorem oS_ (F:FE) (ρ:En):oS F ρ=oSa (F ρ):=Eq.trans rfl rfl
@[simp] theorem bR5 (i:Int) (ρ:En):oSa (some (.int i,ρ))=some (some i,ρ):=Eq.trans rfl rfl
def mkB (o:Option Bool) (ρ:En):Option (Bool×En):=bnd o λ b=>some (b,ρ)
@[simp] theorem bS8 (b:Bool) (ρ:En):mkB (some b) ρ=some (b,ρ):=Eq.trans rfl rfl
def tBa (o:Option (D×En)):Option (Bool×En):=bnd o λ p=>bnd (blB p.1) λ b=>some (b,p.2)
@[simp] theorem tB_ (F:FE) (ρ:En):tB F ρ=tBa (F ρ):=Eq.trans rfl rfl
@[simp] theorem bO7 (b:Bool) (ρ:En):tBa (some (.bl b,ρ))=some (b,ρ):=Eq.trans rfl rfl
def tVa (o:Option (D×En)):Option (Bool×En):=bnd o λ p=>bnd (aC5 p.1) λ b=>some (b,p.2)
@[simp] theorem tV_ (F:FE) (ρ:En):tV F ρ=tVa (F ρ):=Eq.trans rfl rfl
@[simp] theorem bN6 (x:D) (ρ:En):tVa (some (x,ρ))=mkB (aC5 x) ρ:=Eq.trans rfl rfl
def aF0 (U:FT) (o:Option (Bool×En)):Option (Bool×En):=bnd o λ p=>if p.1=true then U p.2 else some (false,p.2)
def bo7 (U:FT) (o:Option (Bool×En)):Option (Bool×En):=bnd o λ p=>if p.1=true then some (true,p.2) else U p.2
def aW0 (o:Option (Bool×En)):Option (Bool×En):=bnd o λ p=>some (!p.1,p.2)
@[simp] theorem bO9 (T U:FT) (ρ:En):tAnd T U ρ=aF0 U (T ρ):=Eq.trans rfl rfl
@[simp] theorem bp4 (U:FT) (ρ:En):aF0 U (some (true,ρ))=U ρ:=Eq.trans rfl rfl
@[simp] theorem bp5 (U:FT) (ρ:En):aF0 U (some (false,ρ))=some (false,ρ):=Eq.trans rfl rfl
@[simp] theorem bX4 (T U:FT) (ρ:En):tOr T U ρ=bo7 U (T ρ):=Eq.trans rfl rfl
@[simp] theorem bD3 (U:FT) (ρ:En):bo7 U (some (true,ρ))=some (true,ρ):=Eq.trans rfl rfl
@[simp] theorem bD4 (U:FT) (ρ:En):bo7 U (some (false,ρ))=U ρ:=Eq.trans rfl rfl
@[simp] theorem bO1 (T:FT) (ρ:En):tNot T ρ=aW0 (T ρ):=Eq.trans rfl rfl
@[simp] theorem bo8 (b:Bool) (ρ:En):aW0 (some (b,ρ))=some (!b,ρ):=Eq.trans rfl rfl
@[simp] theorem bN4 (ρ:En):tYes ρ=some (true,ρ):=Eq.trans rfl rfl
def bz4 (F G:FE) (o:Option (Bool×En)):Option (D×En):=bnd o λ p=>if p.1=true then F p.2 else G p.2
@[simp] theorem bY9 (T:FT) (F G:FE) (ρ:En):eIf T F G ρ=bz4 F G (T ρ):=Eq.trans rfl rfl
@[simp] theorem bJ2 (F G:FE) (ρ:En):bz4 F G (some (true,ρ))=F ρ:=Eq.trans rfl rfl
@[simp] theorem bJ3 (F G:FE) (ρ:En):bz4 F G (some (false,ρ))=G ρ:=Eq.trans rfl rfl
def bg6 (G:FE) (o:Option (D×En)):Option (D×En):=bnd o λ p=>bnd (blB p.1) λ b=>if b=true then G p.2 else some (.bl false,p.2)
def bz0 (G:FE) (o:Option (D×En)):Option (D×En):=bnd o λ p=>bnd (blB p.1) λ b=>if b=true then some (.bl true,p.2) else G p.2
@[simp] theorem bU6 (F G:FE) (ρ:En):W_4 F G ρ=bg6 G (F ρ):=Eq.trans rfl rfl
@[simp] theorem bz5 (G:FE) (ρ:En):bg6 G (some (.bl true,ρ))=G ρ:=Eq.trans rfl rfl
@[simp] theorem bY5 (F G:FE) (ρ:En):eOr F G ρ=bz0 G (F ρ):=Eq.trans rfl rfl
@[simp] theorem bH5 (G:FE) (ρ:En):bz0 G (some (.bl true,ρ))=some (.bl true,ρ):=Eq.trans rfl rfl
@[simp] theorem bH6 (G:FE) (ρ:En):bz0 G (some (.bl false,ρ))=G ρ:=Eq.trans rfl rfl
def imA (o:Option Sl) (q:Option En):Option En:=bnd o λ s=>bnd q λ r=>some (s::r)
@[simp] theorem bT6 (s:Sl) (r:En):imA (some s) (some r)=some (s::r):=Eq.trans rfl rfl
@[simp] theorem bP1 (d:D):slI (some (.im d))=some (.im d):=Eq.trans rfl rfl
@[simp] theorem bG6 (ρ:En):r_7 ρ []=some []:=Eq.trans rfl rfl
@[simp] theorem bG7 (ρ:En) (j:Nat) (js:List Nat):r_7 ρ (j::js)=imA (slI ρ[j]?) (r_7 ρ js):=Eq.trans rfl rfl
def cGb (T:FT) (F:FE) (fr:En) (r:List D) (o:Option (D×En)):Option (List D):=bnd o λ q=>bnd (cGo T F fr r) λ t=>some (q.1::t)
def cGa (T:FT) (F:FE) (fr:En) (r:List D) (o:Option (Bool×En)):Option (List D):=bnd o λ p=>if p.1=true then bnd (F p.2) λ q=>bnd (cGo T F fr r) λ t=>some (q.1::t) else cGo T F fr r
@[simp] theorem bW2 (T:FT) (F:FE) (fr:En):cGo T F fr []=some []:=Eq.trans rfl rfl
@[simp] theorem aR7 (T:FT) (F:FE) (fr:En) (d:D) (r:List D):cGo T F fr (d::r)=cGa T F fr r (T (.im d::fr)):=Eq.trans rfl rfl
@[simp] theorem aR9 (T:FT) (F:FE) (fr:En) (r:List D) (ρ:En):cGa T F fr r (some (true,ρ))=cGb T F fr r (F ρ):=Eq.trans rfl rfl
@[simp] theorem bA8 (T:FT) (F:FE) (fr:En) (r:List D) (ρ:En):cGa T F fr r (some (false,ρ))=cGo T F fr r:=Eq.trans rfl rfl
@[simp] theorem aR8 (T:FT) (F:FE) (fr:En) (r:List D) (x:D) (ρ:En):cGb T F fr r (some (x,ρ))=bA6 x (cGo T F fr r):=Eq.trans rfl rfl
@[simp] theorem bw1 (xs:List D):items (.lst xs)=some xs:=Eq.trans rfl rfl
@[simp] theorem bw0 (xs:List D):items (.tup xs)=some xs:=Eq.trans rfl rfl
def bz1 (ρ:En) (xs:List D) (o:Option (List D)):Option (D×En):=bnd o λ ys=>if xs.length<=sizeLine then some (.lst ys,ρ) else none
def bz2 (T:FT) (F:FE) (ρ:En) (xs:List D) (o:Option En):Option (D×En):=bnd o λ fr=>bz1 ρ xs (cGo T F fr xs)
def bz3 (js:List Nat) (T:FT) (F:FE) (ρ:En) (o:Option (List D)):Option (D×En):=bnd o λ xs=>bz2 T F ρ xs (r_7 ρ js)
def bJ0 (js:List Nat) (T:FT) (F:FE) (o:Option (D×En)):Option (D×En):=bnd o λ p=>bz3 js T F p.2 (items p.1)
@[simp] theorem bY8 (js:List Nat) (I:FE) (T:FT) (F:FE) (ρ:En):eLC js I T F ρ=bJ0 js T F (I ρ):=Eq.trans rfl rfl
@[simp] theorem bI9 (js:List Nat) (T:FT) (F:FE) (x:D) (ρ:En):bJ0 js T F (some (x,ρ))=bz3 js T F ρ (items x):=Eq.trans rfl rfl
@[simp] theorem bI8 (js:List Nat) (T:FT) (F:FE) (ρ:En) (xs:List D):bz3 js T F ρ (some xs)=bz2 T F ρ xs (r_7 ρ js):=Eq.trans rfl rfl
@[simp] theorem bI7 (T:FT) (F:FE) (ρ:En) (xs:List D) (fr:En):bz2 T F ρ xs (some fr)=bz1 ρ xs (cGo T F fr xs):=Eq.trans rfl rfl
@[simp] theorem bI6 (ρ:En) (xs ys:List D):bz1 ρ xs (some ys)=if xs.length<=sizeLine then some (.lst ys,ρ) else none:=Eq.trans rfl rfl
@[simp] theorem sN_ (ρ:En):sN ρ=some (.nx ρ):=Eq.trans rfl rfl
def aa6 (G:FS) (o:Option Res):Option Res:=bnd o λ r=>nxR G r
@[simp] theorem aX0 (F G:FS) (ρ:En):b_4 F G ρ=aa6 G (F ρ):=Eq.trans rfl rfl
@[simp] theorem bq3 (G:FS) (ρ:En):aa6 G (some (.nx ρ))=G ρ:=Eq.trans rfl rfl
@[simp] theorem bq2 (G:FS) (d:D) (ρ:En):aa6 G (some (.rt d ρ))=some (.rt d ρ):=Eq.trans rfl rfl
def aW9 (i:Nat) (o:Option (D×En)):Option Res:=bnd o λ p=>some (.nx (p.2.set i (.im p.1)))
@[simp] theorem bP3 (i:Nat) (F:FE) (ρ:En):e_6 i F ρ=aW9 i (F ρ):=Eq.trans rfl rfl
@[simp] theorem bq1 (i:Nat) (x:D) (ρ:En):aW9 i (some (x,ρ))=some (.nx (ρ.set i (.im x))):=Eq.trans rfl rfl
@[simp] theorem bj5 (i:Nat) (is:List Nat) (d:D) (ds:List D) (ρ:En):l_7 (i::is) (d::ds) ρ=l_7 is ds (ρ.set i (.im d)):=Eq.trans rfl rfl
@[simp] theorem bj4 (ds:List D) (ρ:En):l_7 [] ds ρ=ρ:=by cases ds <;> exact Eq.trans rfl rfl
@[simp] theorem bC9 (xs:List D):bo5 (.tup xs)=some xs:=Eq.trans rfl rfl
@[simp] theorem gN_ (i:Nat) (d:D) (ρ:En):gN i d ρ=some (ρ.set i (.im d)):=Eq.trans rfl rfl
def gTa (is:List Nat) (ρ:En) (o:Option (List D)):Option En:=bnd o λ xs=>if xs.length=is.length then some (l_7 is xs ρ) else none
@[simp] theorem gT_ (is:List Nat) (d:D) (ρ:En):gT is d ρ=gTa is ρ (bo5 d):=Eq.trans rfl rfl
@[simp] theorem bT9 (is:List Nat) (ρ:En) (xs:List D):gTa is ρ (some xs)=if xs.length=is.length then some (l_7 is xs ρ) else none:=Eq.trans rfl rfl
def aF5 (o:Option En):Option Res:=bnd o λ ρ=>some (.nx ρ)
def aW8 (is:List Nat) (o:Option (D×En)):Option Res:=bnd o λ p=>aF5 (gT is p.1 p.2)
@[simp] theorem bP2 (is:List Nat) (F:FE) (ρ:En):bj6 is F ρ=aW8 is (F ρ):=Eq.trans rfl rfl
@[simp] theorem bq0 (is:List Nat) (x:D) (ρ:En):aW8 is (some (x,ρ))=aF5 (gT is x ρ):=Eq.trans rfl rfl
@[simp] theorem bp9 (ρ:En):aF5 (some ρ)=some (.nx ρ):=Eq.trans rfl rfl
def bq9 (F G:FS) (o:Option (Bool×En)):Option Res:=bnd o λ p=>if p.1=true then F p.2 else G p.2
@[simp] theorem bX5 (T:FT) (F G:FS) (ρ:En):sIf T F G ρ=bq9 F G (T ρ):=Eq.trans rfl rfl
@[simp] theorem bD7 (F G:FS) (ρ:En):bq9 F G (some (true,ρ))=F ρ:=Eq.trans rfl rfl
@[simp] theorem bD8 (F G:FS) (ρ:En):bq9 F G (some (false,ρ))=G ρ:=Eq.trans rfl rfl
def aX1 (o:Option (D×En)):Option Res:=bnd o λ p=>some (.rt p.1 p.2)
@[simp] theorem bP4 (F:FE) (ρ:En):c_9 F ρ=aX1 (F ρ):=Eq.trans rfl rfl
@[simp] theorem bq4 (x:D) (ρ:En):aX1 (some (x,ρ))=some (.rt x ρ):=Eq.trans rfl rfl
def fGb (g:D->En->Option En) (B:FS) (r:List D) (o:Option Res):Option Res:=bnd o λ z=>goR (fGo g B r) z
def fGa (g:D->En->Option En) (B:FS) (r:List D) (o:Option En):Option Res:=bnd o λ ρ1=>fGb g B r (B ρ1)
theorem bx9 (g:D->En->Option En) (B:FS) (ρ:En):fGo g B [] ρ=some (.nx ρ):=Eq.trans rfl rfl
theorem L_7 (g:D->En->Option En) (B:FS) (d:D) (r:List D) (ρ:En):fGo g B (d::r) ρ=fGa g B r (g d ρ):=Eq.trans rfl rfl
@[simp] theorem W_1 (g:D->En->Option En) (B:FS) (r:List D) (ρ:En):fGa g B r (some ρ)=fGb g B r (B ρ):=Eq.trans rfl rfl
@[simp] theorem G_3 (g:D->En->Option En) (B:FS) (r:List D) (ρ:En):fGb g B r (some (.nx ρ))=fGo g B r ρ:=Eq.trans rfl rfl
@[simp] theorem by0 (g:D->En->Option En) (B:FS) (r:List D) (d:D) (ρ:En):fGb g B r (some (.rt d ρ))=some (.rt d ρ):=Eq.trans rfl rfl
def aF7 (g:D->En->Option En) (B:FS) (ρ:En) (o:Option (List D)):Option Res:=bnd o λ xs=>fGo g B xs ρ
def aX5 (g:D->En->Option En) (B:FS) (o:Option (D×En)):Option Res:=bnd o λ p=>aF7 g B p.2 (items p.1)
@[simp] theorem br2 (g:D->En->Option En) (F:FE) (B:FS) (ρ:En):al0 g F B ρ=aX5 g B (F ρ):=Eq.trans rfl rfl
@[simp] theorem br1 (g:D->En->Option En) (B:FS) (x:D) (ρ:En):aX5 g B (some (x,ρ))=aF7 g B ρ (items x):=Eq.trans rfl rfl
@[simp] theorem br0 (g:D->En->Option En) (B:FS) (ρ:En) (xs:List D):aF7 g B ρ (some xs)=fGo g B xs ρ:=Eq.trans rfl rfl
def aY2 (o:Option (D×En)):Option (List D×En):=bnd o λ p=>bnd (am0 p.1) λ j=>if -(2 ^ 62)<=j/\j<2 ^ 62 then some (r_5 0 j.toNat,p.2) else none
@[simp] theorem bQ7 (F:FE) (ρ:En):rng1 F ρ=aY2 (F ρ):=Eq.trans rfl rfl
@[simp] theorem bs8 (j:Int) (ρ:En):aY2 (some (.int j,ρ))=if -(2 ^ 62)<=j/\j<2 ^ 62 then some (r_5 0 j.toNat,ρ) else none:=Eq.trans rfl rfl
def aG5 (x:D) (o:Option (D×En)):Option (List D×En):=bnd o λ q=>bnd (am0 x) λ i=>bnd (am0 q.1) λ j=>if -(2 ^ 62)<=i/\i<2 ^ 62/\-(2 ^ 62)<=j/\j<2 ^ 62 then some (r_5 i (j-i).toNat,q.2) else none
def aY1 (G:FE) (o:Option (D×En)):Option (List D×En):=bnd o λ p=>aG5 p.1 (G p.2)
@[simp] theorem bQ6 (F G:FE) (ρ:En):bk7 F G ρ=aY1 G (F ρ):=Eq.trans rfl rfl
@[simp] theorem bs7 (G:FE) (x:D) (ρ:En):aY1 G (some (x,ρ))=aG5 x (G ρ):=Eq.trans rfl rfl
@[simp] theorem bs6 (i j:Int) (ρ:En):aG5 (.int i) (some (.int j,ρ))=if -(2 ^ 62)<=i/\i<2 ^ 62/\-(2 ^ 62)<=j/\j<2 ^ 62 then some (r_5 i (j-i).toNat,ρ) else none:=Eq.trans rfl rfl
def az3 (g:D->En->Option En) (B:FS) (o:Option (List D×En)):Option Res:=bnd o λ p=>fGo g B p.1 p.2
@[simp] theorem bD9 (g:D->En->Option En) (X:FA) (B:FS) (ρ:En):w_0 g X B ρ=az3 g B (X ρ):=Eq.trans rfl rfl
@[simp] theorem bj8 (g:D->En->Option En) (B:FS) (xs:List D) (ρ:En):az3 g B (some (xs,ρ))=fGo g B xs ρ:=Eq.trans rfl rfl
def fnA (o:Option Res):Option D:=bnd o λ r=>bs9 r
@[simp] theorem bU1 (d:D) (ρ:En):fnA (some (.rt d ρ))=some d:=Eq.trans rfl rfl
@[simp] theorem bY3 (n k:Nat) (B:FS) (ds:List D):fnD n k B ds=if ds.length=n then fnA (B (ds.map .im++List.replicate k .no)) else none:=Eq.trans rfl rfl
def bb3 (o:Option (List D×En)):Option (List D×En):=bnd o λ p=>if p.1.length<=1000 then some p else none
@[simp] theorem bR7 (A:FA) (ρ:En):aK0 A ρ=bb3 (A ρ):=Eq.trans rfl rfl
@[simp] theorem bv0 (xs:List D) (ρ:En):bb3 (some (xs,ρ))=if xs.length<=1000 then some (xs,ρ) else none:=Eq.trans rfl rfl
def aX2 (i:Nat) (o:Option (List D×En)):Option Res:=bnd o λ p=>some (.nx (p.2.set i (.ow false (.lst p.1))))
@[simp] theorem bP6 (i:Nat) (A:FA) (ρ:En):aa7 i A ρ=aX2 i (A ρ):=Eq.trans rfl rfl
@[simp] theorem bq6 (i:Nat) (xs:List D) (ρ:En):aX2 i (some (xs,ρ))=some (.nx (ρ.set i (.ow false (.lst xs)))):=Eq.trans rfl rfl
@[simp] theorem bR3 (ds:List D):owL (some (.ow false (.lst ds)))=some ds:=Eq.trans rfl rfl
def aF9 (i:Nat) (x:D) (ρ:En) (o:Option (List D)):Option Res:=bnd o λ ds=>if ds.length<1000000 then some (.nx (ρ.set i (.ow false (.lst (ds++[x]))))) else none
def aG0 (i:Nat) (o:Option (D×En)):Option Res:=bnd o λ p=>aF9 i p.1 p.2 (owL p.2[i]?)
def aX7 (i:Nat) (F:FE) (ρ:En) (o:Option (List D)):Option Res:=bnd o λ _=>aG0 i (F ρ)
@[simp] theorem bQ2 (i:Nat) (F:FE) (ρ:En):aq0 i F ρ=aX7 i F ρ (owL ρ[i]?):=Eq.trans rfl rfl
@[simp] theorem bs4 (i:Nat) (F:FE) (ρ:En) (ds:List D):aX7 i F ρ (some ds)=aG0 i (F ρ):=Eq.trans rfl rfl
@[simp] theorem bs3 (i:Nat) (x:D) (ρ:En):aG0 i (some (x,ρ))=aF9 i x ρ (owL ρ[i]?):=Eq.trans rfl rfl
@[simp] theorem bs2 (i:Nat) (x:D) (ρ:En) (ds:List D):aF9 i x ρ (some ds)=if ds.length<1000000 then some (.nx (ρ.set i (.ow false (.lst (ds++[x]))))) else none:=Eq.trans rfl rfl
def bx5 (i:Nat) (ρ:En):Option Sl->En
 |some (.ow false (.lst ds))=>ρ.set i (.im (.lst ds))
 |_=>ρ
@[simp] theorem bY1 (i:Nat) (ρ:En):frz i ρ=bx5 i ρ ρ[i]?:=by unfold frz bx5;split <;> simp_all
@[simp] theorem bH2 (i:Nat) (ρ:En) (ds:List D):bx5 i ρ (some (.ow false (.lst ds)))=ρ.set i (.im (.lst ds)):=Eq.trans rfl rfl
@[simp] theorem bP8 (i:Nat) (F:FS) (ρ:En):O_0 i F ρ=F (frz i ρ):=Eq.trans rfl rfl
def atS (z:Str) (i:Int):Option D:=if z.length<=sizeLine then bnd (bnd (dPl z.cps.toList.length i) λ j=>z.cps.toList[j]?) λ c=>some (.str (chS c)) else none
def a_8:D->D->Option D
 |.tup xs,.int i=>atD xs i
 |.lst xs,.int i=>atD xs i
 |.str z,.int i=>atS z i
 |_,_=>none
def f_3:List D->Option D
 |[.lst xs]=>some (.int xs.length)
 |[.tup xs]=>some (.int xs.length)
 |[.str z]=>if z.length<=sizeLine then some (.int z.length) else none
 |_=>none
def W_0:D->Bool
 |.dct _ _=>false
 |.tup _=>false
 |.lst _=>false
 |_=>true
def inD (x:D) (xs:List D):Bool:=xs.any λ y=>eqD y x
def P_4 (x:D) (xs:List D):Bool:=W_0 x&&xs.all W_0
def dIn:D->D->Option D
 |x,.tup xs=>if P_4 x xs=true then some (.bl (inD x xs)) else none
 |x,.lst xs=>if P_4 x xs=true then some (.bl (inD x xs)) else none
 |_,_=>none
def am7:List D->Option D
 |[.int i]=>some (.int i)
 |[.bl b]=>some (.int (if b then 1 else 0))
 |_=>none
def m_0:List D->Option D
 |[.lst xs]=>some (.tup xs)
 |[.tup xs]=>some (.tup xs)
 |_=>none
def s_0:List D->Option D
 |[.lst xs]=>some (.lst xs)
 |[.tup xs]=>some (.lst xs)
 |_=>none
@[simp] theorem bL0 (xs:List D) (i:Int):a_8 (.tup xs) (.int i)=atD xs i:=Eq.trans rfl rfl
@[simp] theorem bL2 (xs:List D) (i:Int):a_8 (.lst xs) (.int i)=atD xs i:=Eq.trans rfl rfl
@[simp] theorem bL1 (z:Str) (i:Int):a_8 (.str z) (.int i)=atS z i:=Eq.trans rfl rfl
@[simp] theorem bB7 (xs:List D):f_3 [.lst xs]=some (.int xs.length):=Eq.trans rfl rfl
@[simp] theorem bB5 (xs:List D):f_3 [.tup xs]=some (.int xs.length):=Eq.trans rfl rfl
@[simp] theorem bB6 (z:Str):f_3 [.str z]=if z.length<=sizeLine then some (.int z.length) else none:=Eq.trans rfl rfl
@[simp] theorem bM2 (b:Bool):am7 [.bl b]=some (.int (if b then 1 else 0)):=Eq.trans rfl rfl
@[simp] theorem bn5 (xs:List D):m_0 [.lst xs]=some (.tup xs):=Eq.trans rfl rfl
@[simp] theorem bB4 (xs:List D):s_0 [.lst xs]=some (.lst xs):=Eq.trans rfl rfl
@[simp] theorem bB3 (xs:List D):s_0 [.tup xs]=some (.lst xs):=Eq.trans rfl rfl
def l_6 (k:Str):List (Str×D)->Option D
 |[]=>none
 |q::r=>if q.1=k then some q.2 else l_6 k r
def aF3 (k:Str) (d:D):List (Str×D)->List (Str×D)
 |[]=>[]
 |q::r=>(if q.1=k then (q.1,d) else q)::aF3 k d r
def owD:Option Sl->Option (Bool×List (Str×D))
 |some (.ow b (.dic kds))=>some (b,kds)
 |_=>none
def U_9:Sl->Bool
 |.ow _ _=>false
 |_=>true
def aT3 (A:FS) (F:En->Option MO) (ρ:En):Option MO:=bnd (A ρ) λ r=>match r with
 |.nx ρ'=>F ρ'
 |_=>none
def fnN (n k:Nat) (F:En->Option MO) (ds:List D):Option MO:=if ds.length=n then F (ds.map .im++List.replicate k .no) else none
def aX4 (i:Nat) (g:List D->Option MO) (A:FA) (ρ:En):Option Res:=bnd (A ρ) λ p=>bnd (g p.1) λ o=>some (.nx (p.2.set i (.ow false o)))
@[simp] theorem bR4 (b:Bool) (o:List (Str×D)):owD (some (.ow b (.dic o)))=some (b,o):=Eq.trans rfl rfl
def aF6 (i:Nat) (ρ:En) (o:Option MO):Option Res:=bnd o λ o=>some (.nx (ρ.set i (.ow false o)))
def aX3 (i:Nat) (g:List D->Option MO) (o:Option (List D×En)):Option Res:=bnd o λ p=>aF6 i p.2 (g p.1)
@[simp] theorem bP7 (i:Nat) (g:List D->Option MO) (A:FA) (ρ:En):aX4 i g A ρ=aX3 i g (A ρ):=Eq.trans rfl rfl
@[simp] theorem bq8 (i:Nat) (g:List D->Option MO) (ds:List D) (ρ:En):aX3 i g (some (ds,ρ))=aF6 i ρ (g ds):=Eq.trans rfl rfl
@[simp] theorem bq7 (i:Nat) (ρ:En) (o:MO):aF6 i ρ (some o)=some (.nx (ρ.set i (.ow false o))):=Eq.trans rfl rfl
def aw1:D->Option Int->Option Int->Option D
 |.lst xs,lo,hi=>some (.lst (Y_0 xs lo hi))
 |.tup xs,lo,hi=>if ai7 xs.length 0 lo=0/\ai7 xs.length xs.length hi=xs.length then none else some (.tup (Y_0 xs lo hi))
 |.str z,lo,hi=>if z.length<=sizeLine then some (.str (Txt.slice z lo hi)) else none
 |_,_,_=>none
def G_5 (F:FE) (lo hi:FO) (ρ:En):Option (D×En):=bnd (F ρ) λ p=>bnd (lo p.2) λ l=>bnd (hi l.2) λ h=>bnd (aw1 p.1 l.1 h.1) λ d=>some (d,h.2)
def inS (x z:Str):Bool:=!(Builtin.Str.occurrences z x 0 z.length 1).isEmpty
def d_5:D->D->Option D
 |x,.tup xs=>if P_4 x xs=true then some (.bl (inD x xs)) else none
 |x,.lst xs=>if P_4 x xs=true then some (.bl (inD x xs)) else none
 |.str x,.str z=>some (.bl (inS x z))
 |_,_=>none
def ai6:D->D->Option D
 |x,.tup xs=>if P_4 x xs=true then some (.bl (!inD x xs)) else none
 |x,.lst xs=>if P_4 x xs=true then some (.bl (!inD x xs)) else none
 |.str x,.str z=>some (.bl (!inS x z))
 |_,_=>none
def bg2 (x:D) (l:Option Int) (o:Option (Option Int×En)):Option (D×En):=bnd o λ h=>bnd (aw1 x l h.1) λ d=>some (d,h.2)
def bg3 (hi:FO) (x:D) (o:Option (Option Int×En)):Option (D×En):=bnd o λ l=>bnd (hi l.2) λ h=>bnd (aw1 x l.1 h.1) λ d=>some (d,h.2)
def bg4 (lo hi:FO) (o:Option (D×En)):Option (D×En):=bnd o λ p=>bnd (lo p.2) λ l=>bnd (hi l.2) λ h=>bnd (aw1 p.1 l.1 h.1) λ d=>some (d,h.2)
@[simp] theorem bU3 (F:FE) (lo hi:FO) (ρ:En):G_5 F lo hi ρ=bg4 lo hi (F ρ):=Eq.trans rfl rfl
@[simp] theorem by9 (lo hi:FO) (x:D) (ρ:En):bg4 lo hi (some (x,ρ))=bg3 hi x (lo ρ):=Eq.trans rfl rfl
@[simp] theorem by8 (hi:FO) (x:D) (l:Option Int) (ρ:En):bg3 hi x (some (l,ρ))=bg2 x l (hi ρ):=Eq.trans rfl rfl
@[simp] theorem by7 (x:D) (l h:Option Int) (ρ:En):bg2 x l (some (h,ρ))=mkP (aw1 x l h) ρ:=Eq.trans rfl rfl
@[simp] theorem bK3 (xs:List D) (lo hi:Option Int):aw1 (.lst xs) lo hi=some (.lst (Y_0 xs lo hi)):=Eq.trans rfl rfl
@[simp] theorem bK2 (z:Str) (lo hi:Option Int):aw1 (.str z) lo hi=if z.length<=sizeLine then some (.str (Txt.slice z lo hi)) else none:=Eq.trans rfl rfl
@[simp] theorem j_4 (x:D) (xs:List D):d_5 x (.tup xs)=if P_4 x xs=true then some (.bl (inD x xs)) else none:=by cases x <;> rfl
@[simp] theorem aC6 (x:D) (xs:List D):d_5 x (.lst xs)=if P_4 x xs=true then some (.bl (inD x xs)) else none:=by cases x <;> rfl
@[simp] theorem bL3 (x z:Str):d_5 (.str x) (.str z)=some (.bl (inS x z)):=Eq.trans rfl rfl
@[simp] theorem bh4 (x:D) (xs:List D):ai6 x (.tup xs)=if P_4 x xs=true then some (.bl (!inD x xs)) else none:=by cases x <;> rfl
@[simp] theorem bh5 (x:D) (xs:List D):ai6 x (.lst xs)=if P_4 x xs=true then some (.bl (!inD x xs)) else none:=by cases x <;> rfl
def aE4:List D->Option (List Str)
 |[]=>some []
 |.str x::r=>bnd (aE4 r) λ t=>some (x::t)
 |_=>none
theorem D_2 (x:Str) (r:List D):aE4 (.str x::r)=bnd (aE4 r) λ t=>some (x::t):=rfl
def bl2:D->Option (List D)
 |.lst xs=>some xs
 |_=>none
def bD6:D->Option Str
 |.str x=>some x
 |_=>none
def L_3 (sep:Str) (xs:List D):Option D:=bnd (aE4 xs) λ ss=>if (ss.map (·.length)).sum+ss.length*sep.length<=1000000 then some (.str (Str.join sep ss)) else none
def r_9 (sep:Str) (F:FE) (ρ:En):Option (D×En):=bnd (F ρ) λ p=>bnd (bl2 p.1) λ xs=>bnd (L_3 sep xs) λ d=>some (d,p.2)
@[simp] theorem bF6 (xs:List D):bl2 (.lst xs)=some xs:=Eq.trans rfl rfl
def ah7 (sep:Str) (ρ:En) (o:Option (List D)):Option (D×En):=bnd o λ xs=>bnd (L_3 sep xs) λ d=>some (d,ρ)
def aC2 (sep:Str) (o:Option (D×En)):Option (D×En):=bnd o λ p=>ah7 sep p.2 (bl2 p.1)
@[simp] theorem bJ1 (sep:Str) (F:FE) (ρ:En):r_9 sep F ρ=aC2 sep (F ρ):=Eq.trans rfl rfl
@[simp] theorem bm9 (sep:Str) (x:D) (ρ:En):aC2 sep (some (x,ρ))=ah7 sep ρ (bl2 x):=Eq.trans rfl rfl
@[simp] theorem bm8 (sep:Str) (ρ:En) (xs:List D):ah7 sep ρ (some xs)=mkP (L_3 sep xs) ρ:=Eq.trans rfl rfl
def aU5 (acc:List Str) (x:Str):List Str:=if x∈acc then acc else acc++[x]
def i_7 (acc:List Str) (xs:List Str):List Str:=xs.foldl aU5 acc
def bJ7:D->Option (List Str×List D)
 |.dct ks vs=>some (ks,vs)
 |_=>none
def aw5 (k d:D):Option D:=bnd (bJ7 d) λ q=>bnd (bD6 k) λ s=>some (.bl (l_6 s (q.1.zip q.2)).isSome)
@[simp] theorem bA5 (ks:List Str) (vs:List D) (k:Str):aw5 (.str k) (.dct ks vs)=some (.bl (l_6 k (ks.zip vs)).isSome):=Eq.trans rfl rfl
abbrev Ky:=List (List Int)
mutual
def fK:D->Ky
 |.int i=>[[i]]
 |.str s=>[s.cps.toList.map Int.ofNat]
 |.tup xs=>fKs xs
 |_=>[]
def fKs:List D->Ky
 |[]=>[]
 |d::r=>fK d++fKs r
end
def r3:D->Bool
 |.tup [.int _,.str _,.int _]=>true
 |_=>false
def bh2:D->Option D
 |.lst xs=>some (.lst xs.reverse)
 |_=>none
@[simp] theorem bK4 (xs:List D):bh2 (.lst xs)=some (.lst xs.reverse):=Eq.trans rfl rfl
def two:D->Option (D×D)
 |.tup [a,b]=>some (a,b)
 |_=>none
def cGo2 (T:FT) (F:FE) (fr:En):List D->Option (List D)
 |[]=>some []
 |d::r=>bnd (two d) λ q=>bnd (T (.im q.1::.im q.2::fr)) λ p=>if p.1=true then bnd (F p.2) λ z=>bnd (cGo2 T F fr r) λ t=>some (z.1::t) else cGo2 T F fr r
theorem S_6 (T:FT) (F:FE) (fr:En):cGo2 T F fr []=some []:=rfl
theorem l_9 (T:FT) (F:FE) (fr:En) (d:D) (r:List D):cGo2 T F fr (d::r)=bnd (two d) λ q=>bnd (T (.im q.1::.im q.2::fr)) λ p=>if p.1=true then bnd (F p.2) λ z=>bnd (cGo2 T F fr r) λ t=>some (z.1::t) else cGo2 T F fr r:=rfl
def am2 (js:List Nat) (I:FE) (T:FT) (F:FE) (ρ:En):Option (D×En):=bnd (I ρ) λ p=>bnd (items p.1) λ xs=>bnd (r_7 p.2 js) λ fr=>bnd (cGo2 T F fr xs) λ ys=>if xs.length<=sizeLine then some (.lst ys,p.2) else none
def kS:D->Option Str
 |.str k=>some k
 |_=>none
@[simp] theorem bY0 (k:Str):kS (.str k)=some k:=Eq.trans rfl rfl
def aI1 (k:Str) (d:D) (kds:List (Str×D)):List (Str×D):=if (l_6 k kds).isSome=true then aF3 k d kds else kds++[(k,d)]
def sDN (i:Nat) (ρ:En):Option Res:=some (.nx (ρ.set i (.ow false (.dic []))))
@[simp] theorem bX6 (i:Nat) (ρ:En):sDN i ρ=some (.nx (ρ.set i (.ow false (.dic [])))):=Eq.trans rfl rfl
def bk2 (i:Nat) (d:D) (ρ:En) (k:Str) (o:Option (Bool×List (Str×D))):Option Res:=bnd o λ q=>if q.2.length<100 then some (.nx (ρ.set i (.ow q.1 (.dic (aI1 k d q.2))))) else none
def bk3 (i:Nat) (d:D) (ρ:En) (o:Option Str):Option Res:=bnd o λ k=>bk2 i d ρ k (owD ρ[i]?)
def bk4 (i:Nat) (d:D) (o:Option (D×En)):Option Res:=bnd o λ p=>bk3 i d p.2 (kS p.1)
def bk5 (i:Nat) (G:FE) (d:D) (ρ:En) (o:Option (Bool×List (Str×D))):Option Res:=bnd o λ _=>bk4 i d (G ρ)
def bk6 (i:Nat) (G:FE) (o:Option (D×En)):Option Res:=bnd o λ p=>bk5 i G p.1 p.2 (owD p.2[i]?)
def sDK (i:Nat) (G F:FE) (ρ:En):Option Res:=bk6 i G (F ρ)
@[simp] theorem bX7 (i:Nat) (G F:FE) (ρ:En):sDK i G F ρ=bk6 i G (F ρ):=Eq.trans rfl rfl
@[simp] theorem bE5 (i:Nat) (G:FE) (d:D) (ρ:En):bk6 i G (some (d,ρ))=bk5 i G d ρ (owD ρ[i]?):=Eq.trans rfl rfl
@[simp] theorem bE4 (i:Nat) (G:FE) (d:D) (ρ:En) (q:Bool×List (Str×D)):bk5 i G d ρ (some q)=bk4 i d (G ρ):=Eq.trans rfl rfl
@[simp] theorem bE3 (i:Nat) (d x:D) (ρ:En):bk4 i d (some (x,ρ))=bk3 i d ρ (kS x):=Eq.trans rfl rfl
@[simp] theorem bE2 (i:Nat) (d:D) (ρ:En) (k:Str):bk3 i d ρ (some k)=bk2 i d ρ k (owD ρ[i]?):=Eq.trans rfl rfl
@[simp] theorem bE1 (i:Nat) (d:D) (ρ:En) (k:Str) (b:Bool) (kds:List (Str×D)):bk2 i d ρ k (some (b,kds))=if kds.length<100 then some (.nx (ρ.set i (.ow b (.dic (aI1 k d kds))))) else none:=Eq.trans rfl rfl
mutual
def nd:D->Bool
 |.dct _ _=>false
 |.tup xs=>nds xs
 |.lst xs=>nds xs
 |_=>true
def nds:List D->Bool
 |[]=>true
 |d::r=>nd d&&nds r
end
def ndS:Sl->Bool
 |.ow _ (.lst ds)=>nds ds
 |.ow _ (.dic kds)=>nds (kds.map (·.2))
 |_=>true
def hld (kds:List (Str×D)):Sl:=.im (.dct (kds.map (·.1)) (kds.map (·.2)))
def dDx:D->D->Option D
 |.dct ks ds,.str k=>l_6 k (ks.zip ds)
 |_,_=>none
@[simp] theorem bA4 (ks:List Str) (ds:List D) (k:Str):dDx (.dct ks ds) (.str k)=l_6 k (ks.zip ds):=Eq.trans rfl rfl
def x_2 (ρ ρh:En) (o:Option (Bool×En)):Option (Bool×En):=bnd o λ p=>@ite _ (p.2=ρh) (Classical.propDecidable _) (some (p.1,ρ)) none
def N_7 (i:Nat) (T:FT) (ρ:En) (o:Option (Bool×List (Str×D))):Option (Bool×En):=bnd o λ q=>if q.1=false/\ρ.all ndS=true then x_2 ρ (ρ.set i (hld q.2)) (T (ρ.set i (hld q.2))) else none
def tHold (i:Nat) (T:FT) (ρ:En):Option (Bool×En):=N_7 i T ρ (owD ρ[i]?)
@[simp] theorem aW1 (i:Nat) (T:FT) (ρ:En):tHold i T ρ=N_7 i T ρ (owD ρ[i]?):=Eq.trans rfl rfl
@[simp] theorem ao4 (i:Nat) (T:FT) (ρ:En) (b:Bool) (kds:List (Str×D)):N_7 i T ρ (some (b,kds))=if b=false/\ρ.all ndS=true then x_2 ρ (ρ.set i (hld kds)) (T (ρ.set i (hld kds))) else none:=Eq.trans rfl rfl
theorem ao3 (ρ ρh:En) (b:Bool):x_2 ρ ρh (some (b,ρh))=some (b,ρ):=by
 unfold x_2 bnd;exact if_pos rfl
def sNo:FS:=λ _=>none
def dKx (kds:List (Str×D)):D->Option D
 |.str k=>l_6 k kds
 |_=>none
def ar9:Option Sl->Option (List D)
 |some (.ow false (.lst ds))=>some ds
 |_=>none
@[simp] theorem bF1 (ds:List D):ar9 (some (.ow false (.lst ds)))=some ds:=Eq.trans rfl rfl
def o_9 (i:Nat) (ρ:En):Bool:=(ρ.set i .no).all U_9
def t_2 (ρ ρh:En) (o:Option (Bool×En)):Option (Bool×En):=bnd o λ p=>@ite _ (p.2=ρh) (Classical.propDecidable _) (some (p.1,ρ)) none
def z_1 (i:Nat) (T:FT) (ρ:En) (o:Option (List D)):Option (Bool×En):=bnd o λ ds=>if o_9 i ρ=true then t_2 ρ (ρ.set i (.im (.lst ds))) (T (ρ.set i (.im (.lst ds)))) else none
def tHoldL (i:Nat) (T:FT) (ρ:En):Option (Bool×En):=z_1 i T ρ (ar9 ρ[i]?)
@[simp] theorem aE7 (i:Nat) (T:FT) (ρ:En):tHoldL i T ρ=z_1 i T ρ (ar9 ρ[i]?):=Eq.trans rfl rfl
@[simp] theorem Z_6 (i:Nat) (T:FT) (ρ:En) (ds:List D):z_1 i T ρ (some ds)=if o_9 i ρ=true then t_2 ρ (ρ.set i (.im (.lst ds))) (T (ρ.set i (.im (.lst ds)))) else none:=Eq.trans rfl rfl
theorem o_5 (ρ ρh:En) (b:Bool):t_2 ρ ρh (some (b,ρh))=some (b,ρ):=by
 unfold t_2 bnd;exact if_pos rfl
def asL:MO->Option D
 |.lst ds=>some (.lst ds)
 |_=>none
@[simp] theorem bW6 (ds:List D):asL (.lst ds)=some (.lst ds):=Eq.trans rfl rfl
def bm0 (ρ:En) (o:Option MO):Option (D×En):=bnd o λ m=>mkP (asL m) ρ
def bm1 (g:List D->Option MO) (o:Option (List D×En)):Option (D×En):=bnd o λ p=>bm0 p.2 (g p.1)
def eNL (g:List D->Option MO) (A:FA) (ρ:En):Option (D×En):=bm1 g (A ρ)
@[simp] theorem bY6 (g:List D->Option MO) (A:FA) (ρ:En):eNL g A ρ=bm1 g (A ρ):=Eq.trans rfl rfl
@[simp] theorem bH9 (g:List D->Option MO) (ds:List D) (ρ:En):bm1 g (some (ds,ρ))=bm0 ρ (g ds):=Eq.trans rfl rfl
@[simp] theorem bH8 (ρ:En) (m:MO):bm0 ρ (some m)=mkP (asL m) ρ:=Eq.trans rfl rfl
end Fx
namespace L2
open PySem PySem.Spec PyProof.Rows
theorem r_6 {a b:Addr}{n:Nat} (h:a<n) (h':n<=b):a≠b:=qv (qt h h')
theorem aA6 {a b:Addr}{n:Nat} (h:a<n) (h':n<=b):b≠a:=(r_6 h h').symm
def G_9 (cells:List (Str×Addr)):List (Str×NameKind)->List (Str×Addr)->List (Str×Addr)
 |[],acc=>acc
 |(n,k)::r,acc=>G_9 cells r (if (k==NameKind.free)=true then (n,(cells.lookup n).getD 0)::acc else acc)
theorem q_1 {env:Env}:∀ (l:List (Str×NameKind)) (acc:List (Str×Addr)),(∀ y∈l,y.2=.free->∃ c,env.cells.lookup y.1=some c) ->
  (forIn l acc λ (y:Str×NameKind) (cs:List (Str×Addr))=>(match y with
   |(name,kind)=>if (kind==NameKind.free)=true then do let c <- cellOf env name;pure (ForInStep.yield ((name,c)::cs)) else pure (ForInStep.yield cs):Sem _))=pure (G_9 env.cells l acc)
 |[],acc,_=>rfl
 |(n,k)::r,acc,h=>by
  rw[List.forIn_cons];unfold G_9
  by_cases e:(k==NameKind.free)=true
  ·have e':k=NameKind.free:=by simpa using e
   obtain⟨c,hc⟩:=h (n,k) qg e';simp only[e,if_true,cellOf,hc,pure_bind,Option.getD_some];exact q_1 r _ λ y hy=>h y (qh _ hy)
  ·simp only[e,if_false,pure_bind]
   exact q_1 r _ λ y hy=>h y (qh _ hy)
theorem q_2 {sc:Scope}{env:Env} (h:∀ y∈sc.names,y.2=.free->∃ c,env.cells.lookup y.1=some c):closureFor sc env=pure (G_9 env.cells sc.names []):=by
 have e:=q_1 (env:=env) sc.names [] h;simp only[closureFor];exact (bind_pure _).trans e
theorem C_2 {cells:List (Str×Addr)}{y:Str}{c:Addr}:∀ (l:List (Str×NameKind)) (acc:List (Str×Addr)),(∀ y∈l,y.2=.free->∃ c,cells.lookup y.1=some c) ->
  (G_9 cells l acc).lookup y=some c->cells.lookup y=some c\/acc.lookup y=some c
 |[],acc,_,e=>.inr e
 |(n,k)::r,acc,h,e=>by
  unfold G_9 at e;have hr:∀ y∈r,y.2=.free->∃ c,cells.lookup y.1=some c:=λ y hy=>h y (qh _ hy)
  rcases C_2 r _ hr e with q | q
  ·exact .inl q
  ·by_cases z:(k==NameKind.free)=true
   ·rw[if_pos z] at q
    rw[List.lookup_cons] at q;cases hb:y==n with
    |true =>
     rw[hb] at q;obtain⟨c',hc'⟩:=h (n,k) qg (by simpa using z)
     have hc'':cells.lookup n=some c':=hc';rw[hc''] at q;have e1:y=n:=by simpa using hb
     have q':c'=c:=qi q;exact .inl (by rw[e1,hc'',q'])
    |false =>
     rw[hb] at q;exact .inr q
   ·rw[if_neg z] at q
    exact .inr q
theorem p_0 {cells:List (Str×Addr)}{y:Str}:∀ (l:List (Str×NameKind)) (acc:List (Str×Addr)),((y,NameKind.free)∈l\/∃ c,acc.lookup y=some c)->∃ c,(G_9 cells l acc).lookup y=some c
 |[],acc,h=>by
  rcases h with h | h
  ·cases h
  ·exact h
 |(n,k)::r,acc,h=>by
  unfold G_9
  have grow:∀ v:Addr,(∃ c,acc.lookup y=some c)->∃ c,((n,v)::acc).lookup y=some c:=λ v hh0_=>by
   obtain⟨c,hc⟩:=hh0_;rw[List.lookup_cons];cases y==n with
   |true=>exact⟨v,rfl⟩
   |false=>exact⟨c,hc⟩
  rcases h with h | h
  ·rcases qw h with e | h
   ·have e1:y=n:=congrArg Prod.fst e
    have e2:NameKind.free=k:=congrArg Prod.snd e;subst e1 e2;refine p_0 r _ (.inr ?_);rw[if_pos (by rfl)]
    refine⟨(cells.lookup y).getD 0,?_⟩;rw[List.lookup_cons];simp
   ·exact p_0 r _ (.inl h)
  ·refine p_0 r _ (.inr ?_)
   split
   ·exact grow _ h
   ·exact h
theorem D_7 {scope:Scope}{env:Env}{y:Str}{k:NameKind} (hc:∀ z∈scope.names,z.2≠.cell) (h:(relabel scope env).names.lookup y=some k) (hk:k=.cell\/k=.free):(y,NameKind.free)∈scope.names:=by
 have m:=PySem.mem_of_lookup h;unfold relabel at m;obtain⟨⟨n,k'⟩,hm,e⟩:=List.mem_map.mp m;dsimp only at e
 split at e
 ·rename_i z
  have e1:n=y:=congrArg Prod.fst e
  have z1:k'=NameKind.free:=by
   simp only[Bool.and_eq_true] at z
   simpa using z.1.1
  subst e1 z1;exact hm
 ·have e1:n=y:=congrArg Prod.fst e
  have e2:k'=k:=congrArg Prod.snd e;subst e1 e2
  rcases hk with z | z
  ·exact absurd z (hc _ hm)
  ·rw[z] at hm;exact hm
theorem x_6 {env:Env} (hf:env.scope.kind=.function):∀ {names:List (Str×NameKind)}{y:Str},names.lookup y=some .free->env.kindOf y=some .cell ->
  (names.map λ (n,k)=>if (k==NameKind.free&&env.scope.kind==.function&&env.kindOf n==some .cell) then (n,NameKind.cell) else (n,k)).lookup y=some .cell
 |[],_,h,_=>by simp at h
 |(n,k)::r,y,h,hk=>by
  have ih:=@x_6 env hf r y;rw[List.map_cons];cases hy:y==n with
  |true =>
   have e:y=n:=by simpa using hy
   subst e;rw[List.lookup_cons,hy] at h;have h':k=NameKind.free:=qi h;subst h';simp[hf,hk,List.lookup_cons]
  |false =>
   rw[List.lookup_cons,hy] at h;show List.lookup y ((if (k==NameKind.free&&env.scope.kind==.function&&env.kindOf n==some .cell)=true then (n,NameKind.cell) else (n,k))::_)=_
   by_cases z:(k==NameKind.free&&env.scope.kind==.function&&env.kindOf n==some .cell)=true
   ·rw[if_pos z,List.lookup_cons,hy];exact ih h hk
   ·rw[if_neg z,List.lookup_cons,hy];exact ih h hk
structure ScB (N:List Str) (sc scope:Scope) (x:Str) (frees:List Str) (js:List Nat):Prop where
 kind:scope.kind=.function
 fk:sc.kind=.function
 cells:∀ y∈scope.names,y.2≠.cell
 locs:∀ y∈scope.names,y.2=.local->scope.names.lookup y.1=some .local
 own:scope.names.lookup x=some .local
 fr:∀ y∈scope.names,y.2=.free->sc.names.lookup y.1=some .cell
 nd:(x::frees).Nodup
 ln:frees.length=js.length
 zp:∀ p∈frees.zip js,N[p.2]?=some p.1/\sc.names.lookup p.1=some .cell/\scope.names.lookup p.1=some .free
def cxB (X:Cx) (N:List Str) (scope:Scope) (s:Shared) (H:Hp) (C:Addr) (fp:List Addr):Cx where
 prog:=X.prog
 w:=X.w
 K:=X.K
 mg:=X.mg
 base:=X.base
 A:=X.A
 N:=N
 s₀:=s
 H₀:=H
 env:=compEnvC scope (G_9 X.env.cells scope.names []) C X.env
 outer:=X.stack
 stack:=X.stack
 ex:=fp
 fn:=λ _=>false
 calm:=X.calm
 pn:=[]
 xe:=λ _ _=>False
def frv (σ:St) (js:List Nat):St:=js.map λ j=>(σ[j]?).join
def PTs (X:Cx) (ifs:List Expr) (t:TT):Prop :=
 ∀ (pins:List (Addr×Obj)) (s:Shared) (σ:St) (H:Hp) (Q:Bool->Hp->Prop),Inv X pins σ H s->t σ H Q ->
  wpAny (model X.prog X.w) X.A (forIn ifs true λ c r=>if r=true then do let ok <- isTrue c X.env (eval c X.env);pure (ForInStep.yield ok) else pure (ForInStep.yield r)) (TP X pins σ Q) X.xe s
def tYes:TT:=λ _ H Q=>Q true H
theorem aI3 {X:Cx}:PTs X [] tYes:=λ _ _ _ H _ I h=>wpAny_tests_nil ⟨H,I,h⟩
theorem aI2 {X:Cx}{c:Expr}{t:TT} (h:PT X c t):PTs X [c] t:=λ pins s σ H Q I q=>wpAny_tests_one (h pins s σ H Q I q)
def LcW (js:List Nat) (tt:TT) (te:TE) (σ:St) (Q:List V->Hp->Prop) (J:It) (H1:Hp):Prop :=
 ∃ W:Nat->Nat->List V->Hp->Prop,(∃ m,W 0 m [] H1)/\∀ i m ys H,W i m ys H ->
  (J.stop i H/\ys.length<=sizeLine/\Q ys H) \/
  (J.go i H/\ys.length<sizeLine/\∀ x H',J.yld i H x H'->tt (some x::frv σ js) H' λ b H2 =>
   if b=true then te (some x::frv σ js) H2 λ v H3=>∃ m',m'<m/\W (i+1) m' (ys++[v]) H3 else ∃ m',m'<m/\W (i+1) m' ys H2)
section
variable {X:Cx}{pins:List (Addr×Obj)}{σ:St}{H:Hp}{s:Shared}{x:Str}{scope sc:Scope}{frees:List Str}{js:List Nat}
theorem F_5 (I:Inv X pins σ H s) (hsc:X.env.scope=sc) (B:ScB X.N sc scope x frees js):∀ y∈scope.names,y.2=.free->∃ c,X.env.cells.lookup y.1=some c:=λ y hy hf =>
 I.ok.has y.1 (.inl (show X.env.scope.names.lookup y.1=some .cell by rw[hsc];exact B.fr y hy hf))
theorem Y_4 {α β:Type}:∀ {l:List α}{r:List β}{k:Nat}{a:α},l.length=r.length->l[k]?=some a->∃ b,r[k]?=some b/\(a,b)∈l.zip r
 |[],_,_,_,_,h=>by simp at h
 |_::_,[],_,_,hl,_=>by simp at hl
 |a'::l,b'::r,0,a,_,h=>by
  simp at h;subst h;exact⟨b',rfl,by simp⟩
 |a'::l,b'::r,k+1,a,hl,h=>by
  obtain⟨b,h1,h2⟩:=Y_4 (l:=l) (r:=r) (k:=k) (a:=a) (by simpa using hl) (by simpa using h)
  exact⟨b,by simpa using h1,by rw[List.zip_cons_cons];exact qh _ h2⟩
theorem ak3 {fp:List Addr}{h₁:Heap}{C D:Addr}{tk:Nat}{mC:Str->Option Value}{oD:Obj} (I:Inv X pins σ H s) (hsc:X.env.scope=sc) (B:ScB X.N sc scope x frees js) (hf:∀ b∈fp,FpOk X pins H b) (hfo:∀ b∈fp,b<s.heap.objs.size)
  (hC:s.heap.objs.size<=C) (hD:s.heap.objs.size<=D) (hDC:D≠C) (old:∀ b o,s.heap.get? b=some o->h₁.get? b=some o) (ns:h₁.Ns C mC) (gD:h₁.get? D=some oD) (nD:∀ v,oD.data≠.cell v) :
  Inv (cxB X (x::frees) scope s H C fp) (pins++[(D,oD)]) (none::frv σ js) H {s with heap:=h₁,toks:=tk}:=by
 have lc:=F_5 I hsc B
 have sub:∀ y c,(G_9 X.env.cells scope.names []).lookup y=some c->X.env.cells.lookup y=some c:=λ y c e=>by
  rcases C_2 scope.names [] lc e with q | q
  ·exact q
  ·cases q
 have cold:∀ y c,X.env.cells.lookup y=some c->c<s.heap.objs.size:=λ y c e=>by
  obtain⟨v,q⟩:=I.cell y c e;exact q.lt
 have fpC:∀ b∈fp,(b∈X.ex\/X.s₀.heap.objs.size<=b):=λ b hb=>(hf b hb).2.2.2.1
 obtain⟨m,hn,hl⟩:=I.loc;refine⟨⟨I.ok.mod,B.kind,I.ok.glob,I.ok.blt,hC,?_,?_,?_,I.ok.hd,I.ok.frames,.inl rfl,?_,?_,Nat.le_trans I.ok.bsz I.sz,?_,?_,I.stack,I.stkFree⟩,rfl,I.bare,Un.kept old,⟨mC,ns,?_⟩,?_,I.hok.fresh hC,?_,?_,I.hok.kept old,?_⟩
 ·exact λ y z c e1 e2=>I.ok.inj y z c (sub y c e1) (sub z c e2)
 ·intro y hy
  have hm:(y,NameKind.free)∈scope.names:=by
   rcases hy with q | q
   ·exact D_7 (env:=X.env) B.cells q (.inl rfl)
   ·exact D_7 (env:=X.env) B.cells q (.inr rfl)
  exact p_0 scope.names [] (.inl hm)
 ·exact λ y c z _=>absurd z qp
 ·intro b hb
  refine⟨λ z=>?_,λ y c e z=>(hf b hb).2.2.2.2.1 y c (sub y c e) z⟩
  have z':b=C:=z;exact absurd (qt (hfo b hb) hC) (by rw[z'];exact Nat.lt_irrefl _)
 ·exact λ b o e=>I.bs b o e
 ·intro b o e hb
  rcases fpC b hb with z | z
  ·exact I.ok.noex b o e z
  ·exact absurd (qt (qm (I.ok.bs b o e).1) z) (Nat.lt_irrefl _)
 ·intro b hb z
  rcases qw (I.stkSub b z) with e | e
  ·exact (hf b hb).2.1 e
  ·exact (hf b hb).2.2.1 e
 ·intro i y v e1 e2 e3
  cases i with
  |zero=>simp at e2
  |succ k =>
   have e1':frees[k]?=some y:=by
    have e0:(x::frees)[k+1]?=some y:=e1
    simpa using e0
   obtain⟨j,hj,hz⟩:=Y_4 B.ln e1';obtain⟨z1,z2,z3⟩:=B.zp _ hz;have e2':(frv σ js)[k]?=some (some v):=by simpa using e2
   have e4:σ[j]?=some (some v):=by
    unfold frv at e2';rw[List.getElem?_map,hj] at e2';have e5:(σ[j]?).join=some v:=qi e2';cases q:σ[j]? with
    |none=>rw[q] at e5;cases e5
    |some w'=>rw[q] at e5;cases w' with
     |none=>cases e5
     |some w2=>cases e5;rfl
   have kX:X.env.kindOf y=some .cell:=by show X.env.scope.names.lookup y=_;rw[hsc];exact z2
   obtain⟨u,r,q⟩:=hl j y v z1 e4 (.inr (.inl kX));refine⟨u,r,?_⟩
   rcases q with ⟨q,_⟩ | ⟨_,c,ec,ic⟩
   ·rw[kX] at q;cases q
   ·have kY:(compEnvC scope (G_9 X.env.cells scope.names []) C X.env).kindOf y=some .cell:=x_6 (env:=X.env) (by rw[hsc];exact B.fk) z3 kX
    refine .inr ⟨.inl kY,c,?_,?_⟩
    ·obtain⟨c',ec'⟩:=p_0 (cells:=X.env.cells) scope.names [] (.inl (PySem.mem_of_lookup z3))
     have:=sub y c' ec';rw[ec] at this;cases this;exact ec'
    ·obtain⟨o,ho,hd⟩:=ic
     exact⟨o,old c o ho,hd⟩
 ·intro y c e
  obtain⟨v,o,ho,hd⟩:=I.cell y c (sub y c e);exact⟨v,o,old c o ho,hd⟩
 ·exact λ y c e=>I.freeC y c (sub y c e)
 ·intro p hp
  have hp':p∈pins++[(D,oD)]:=by simpa [cxB] using hp
  rcases qx hp' with z | z
  ·obtain⟨a1,a2,a3,a4,a5⟩:=I.pin p (qo _ z)
   refine⟨old _ _ a1,a2,λ e=>?_,λ e=>?_,a5⟩
   ·exact absurd (qt (qm a1) hC) (by rw[show p.1=C from e];exact Nat.lt_irrefl _)
   ·rcases qw (I.stkSub p.1 e) with e | e
    ·exact a3 e
    ·exact a4 e
  ·have z':p=(D,oD):=by simpa using z
   subst z';refine⟨gD,I.hok.fresh hD,hDC,λ e=>?_,nD⟩
   rcases qw (I.stkSub D e) with e | e
   ·exact absurd (qt I.lt hD) (by rw[show D=X.env.locals from e];exact Nat.lt_irrefl _)
   ·exact I.nofs hD e
 ·show (none::frv σ js).length=(x::frees).length
  rw[List.length_cons,List.length_cons,B.ln,frv,List.length_map]
end
theorem W_8 {prog:Program}{w:World}{A:Around}{R:Result->Shared->Prop}{s:Shared}{elt target iter:Expr}{ifs:List Expr}{scope:Scope}{pos:Pos}{it acc:Value}{env:Env} (I:Nat->Shared->Prop)
  (turn:∀ n s,I n s->wpAny (model prog w) A (pyNext it) (λ r s1=>match r with
   |none=>R (.ok .next) s1
   |some v=>wpAny (model prog w) A (letOwnedTupleGo target it v) (λ _ s2=>wpAny (model prog w) A (assign target env v) (λ _ s3 =>
     wpAny (model prog w) A (forIn ifs true λ c r=>if r=true then do let ok <- isTrue c env (eval c env);pure (ForInStep.yield ok) else pure (ForInStep.yield r)) (λ ok s4 =>
      if ok=true then wpAny (model prog w) A (eval elt env) (λ y s5=>wpAny (model prog w) A (call (.builtin "list.append") [acc,y]) (λ _ s6=>∃ m,m<n ∧ I m s6) (λ _ _=>False) s5) (λ _ _=>False) s4
      else ∃ m,m<n/\I m s4) (λ _ _=>False) s3) (λ _ _=>False) s2) (λ _ _=>False) s1) (λ _ _=>False) s)
  (n:Nat) (h:I n s):codeAny (model prog w) A (.compLoop (.ListComp elt [⟨target,iter,ifs,0⟩] scope pos) 0 it acc env) R s:=by
 refine codeAny_loop rfl I (λ n s hI=>?_) n h
 show wpAny _ A ((compTurn (.ListComp elt [⟨target,iter,ifs,0⟩] scope pos) 0 it acc env).onRaise (λ x=>do noteFrame x env;theTreesLotGoes x)) _ _ s
 refine wpAny_noted ?_;rw[compTurn_list];refine qb (wpAny_standAt (qb (wpAny_mono (turn n s hI) (λ r s1 h1=>?_) λ _ _ z=>z.elim)))
 cases r with
 |none=>exact qc h1
 |some v =>
  refine qb (wpAny_mono h1 (λ _ s2 h2=>?_) λ _ _ z=>z.elim)
  refine qb (wpAny_mono h2 (λ _ s3 h3=>?_) λ _ _ z=>z.elim)
  refine qb (wpAny_mono h3 (λ ok s4 h4=>?_) λ _ _ z=>z.elim)
  cases ok with
  |false=>exact qc ⟨rfl,h4⟩
  |true =>
   refine qb (qb (wpAny_mono h4 (λ y s5 h5=>?_) λ _ _ z=>z.elim))
   exact qb (wpAny_mono h5 (λ _ s6 h6=>qc (qc ⟨rfl,h6⟩)) λ _ _ z=>z.elim)
section
variable {X:Cx}{pins:List (Addr×Obj)}{σ:St}{H:Hp}{s:Shared}{x:Str}{scope sc:Scope}{frees:List Str}{js:List Nat}{elt iter:Expr}{ifs:List Expr}{px pos:Pos}{tt:TT}{te:TE}{E:Value->Shared->Prop}
abbrev V_4 (its:List Value) (n:Nat):Obj:={cls:=.type "list",data:=.seq its.toArray n}
def LcG (tg:TG) (τ:St) (tt:TT) (te:TE) (Q:List V->Hp->Prop) (J:It) (H1:Hp):Prop :=
 ∃ W:Nat->Nat->List V->Hp->Prop,(∃ m,W 0 m [] H1)/\∀ i m ys H,W i m ys H ->
  (J.stop i H/\ys.length<=sizeLine/\Q ys H) \/
  (J.go i H/\ys.length<sizeLine/\∀ x H',J.yld i H x H'->tg x τ H' λ σ' H'=>(τ.length=σ'.length/\∀ (j:Nat) v,τ[j]?=some (some v)->σ'[j]?=some (some v))/\tt σ' H' λ b H2 =>
   if b=true then te σ' H2 λ v H3=>∃ m',m'<m/\W (i+1) m' (ys++[v]) H3 else ∃ m',m'<m/\W (i+1) m' ys H2)
theorem ae5 {tgt:Expr}{N':List Str}{τ:St}{tg:TG}{it:Addr}{fp:List Addr}{tn:Nat->Heap->Prop}{J:It}{Qe:List V->Hp->Prop}{RR:Value->Addr->Result->Shared->Prop} (I:Inv X pins σ H s) (hc:X.calm=true) (hsc:X.env.scope=sc) (B:ScB X.N sc scope x frees js)
  (T:Turn X.prog X.w X.K tgt J fp it tn) (st:tn 0 s.heap) (f:∀ b∈fp,FpOk X pins H b) (S0:∀ {C pl H' s'},Inv (cxB X (x::frees) scope s H C fp) pl (none::frv σ js) H' s'->Inv (cxB X N' scope s H C fp) pl τ H' s') (hg:∀ C,PG (cxB X N' scope s H C fp) tgt tg) (hW:LcG tg τ tt te Qe J H)
  (ht:∀ s H C fp,PTs (cxB X N' scope s H C fp) ifs tt) (he:∀ s H C fp,PE (cxB X N' scope s H C fp) elt te)
  (hR:∀ (D C:Addr) (s':Shared) (H':Hp) (ys:List V) (its:List Value) (n:Nat),s.heap.objs.size<=D->s.heap.objs.size<=C->D≠C->Inv (cxB X N' scope s H C fp) pins τ H' s'->H' D=none ->
   Vals ys its->s'.heap.get? D=some (V_4 its n)->ys.length<=sizeLine->Qe ys H'->RR (.ref D) C (.ok .next) s') :
  wpAny (model X.prog X.w) X.A (newList []) (λ acc s3=>wpAny (model X.prog X.w) X.A (newFunctionEnv scope X.env.globals (G_9 X.env.cells scope.names []) [] X.env.qual none .none (some X.env)) (λ cenv s4 =>
   codeAny (model X.prog X.w) X.A (.compStart (.ListComp elt [⟨tgt,iter,ifs,0⟩] scope pos) 0 (.ref it) acc {cenv with scope:=relabel scope X.env}) (RR acc cenv.locals) s4) E s3) E s:=by
 obtain⟨W,⟨m0,w0⟩,turn⟩:=hW;refine wpAny_newObj_type (wpAny_newFunctionEnv B.cells (by intro y hy;simp at hy) (λ h₁ hns₁ hsb₁=>?_) B.kind)
 dsimp only at hns₁ hsb₁ ⊢
 generalize hG:s.heap.push {cls:=.type "list",dict:=none,data:=.seq ([]:List Value).toArray}=G at hns₁ hsb₁ ⊢
 have hC0:G.objs.size=s.heap.objs.size+1:=by rw[<- hG,Heap.size_push]
 have hCs0:s.heap.objs.size<=G.objs.size:=by rw[hC0];exact Nat.le_succ _
 have hDC0:s.heap.objs.size≠G.objs.size:=by rw[hC0];exact qv (Nat.lt_succ_self _)
 obtain⟨C,hCe⟩:∃ C:Addr,C=G.objs.size:=⟨_,rfl⟩;obtain⟨D,hDe⟩:∃ D:Addr,D=s.heap.objs.size:=⟨_,rfl⟩;rw[<- hCe] at hns₁ hsb₁ hDC0 hCs0 ⊢;have hDs:s.heap.objs.size<=D:=by rw[hDe];exact qj _
 have hCs:s.heap.objs.size<=C:=hCs0;have hDC:D≠C:=by rw[hDe];exact hDC0
 have old:∀ b o,s.heap.get? b=some o->h₁.get? b=some o:=λ b o e=>by
  refine hsb₁.extBut b o (r_6 (qm e) hCs) (qf _ ?_);rw[<- hG];exact qf _ e
 have gD:h₁.get? D=some (V_4 [] 0):=by
  refine hsb₁.extBut D _ hDC (qf _ ?_);rw[<- hG,hDe];exact qk _ rfl
 have hfo:∀ b∈fp,b<s.heap.objs.size:=λ b hb=>by
  obtain⟨o,e,_⟩:=T.obj 0 _ st b hb;exact qm e
 show codeAny (model X.prog X.w) X.A (.compStart (.ListComp elt [⟨tgt,iter,ifs,0⟩] scope pos) 0 (.ref it) (.ref s.heap.objs.size) (compEnvC scope (G_9 X.env.cells scope.names []) C X.env)) (RR (.ref s.heap.objs.size) C) _;rw[<- hDe];have nDf:D∉fp:=λ z=>r_6 (hfo D z) hDs rfl
 have Y0:=S0 (ak3 (tk:=s.toks+([]:List (Str×Value)).length) (x:=x) I hsc B f hfo hCs hDs hDC old hns₁ gD (λ v z=>nomatch z))
 have tn0:tn 0 h₁:=T.keep 0 _ _ st λ b _ o e=>old b o e
 have sub:∀ y c,(G_9 X.env.cells scope.names []).lookup y=some c->X.env.cells.lookup y=some c:=λ y c e=>by
  rcases C_2 scope.names [] (F_5 I hsc B) e with q | q
  ·exact q
  ·cases q
 have pOld:∀ p∈pins,p.1<s.heap.objs.size:=λ p hp=>qm (I.pin p (qo _ hp)).1
 have stat:∀ {H':Hp}{o:Obj},(∀ b∈fp,H' b=none)->∀ b∈fp,FpOk (cxB X N' scope s H C fp) (pins++[(D,o)]) H' b:=λ {H' o} hn b hb=>by
  obtain⟨_,a2,a3,a4,a5,a6⟩:=f b hb;have lt:=hfo b hb;refine⟨hn b hb,?_,λ z=>?_,.inl hb,λ y c e=>a5 y c (sub y c e),λ p hp=>?_⟩
  ·exact r_6 lt hCs
  ·rcases qw (I.stkSub b z) with e | e
   ·exact a2 e
   ·exact a3 e
  ·have hp':p∈pins++[(D,o)]:=by simpa [cxB] using hp
   rcases qx hp' with z | z
   ·exact a6 p (qo _ z)
   ·have z':p=(D,o):=by simpa using z
    subst z';exact aA6 lt hDs
 have loop:∀ s3:Shared,s3={s with heap:=h₁,toks:=s.toks+([]:List (Str×Value)).length} ->
   codeAny (model X.prog X.w) X.A (.compLoop (.ListComp elt [⟨tgt,iter,ifs,0⟩] scope pos) 0 (.ref it) (.ref D) (compEnvC scope (G_9 X.env.cells scope.names []) C X.env)) (RR (.ref D) C) s3:=by
  rintro s3 rfl;refine W_8 (λ n s'=>∃ i ys its k H',Inv (cxB X N' scope s H C fp) (pins++[(D,V_4 its k)]) τ H' s'/\tn i s'.heap/\(∀ b∈fp,H' b=none)/\Vals ys its/\W i n ys H') ?_ m0
   ⟨0,[],[],0,H,Y0,tn0,λ b hb=>(f b hb).1,.nil,w0⟩
  rintro n s4 ⟨i,ys,its,k,H4,I4,tn4,fr4,rv,w4⟩
  have pD:∀ {pl:List (Addr×Obj)}{σ':St}{H':Hp}{s':Shared},Inv (cxB X N' scope s H C fp) (pins++[(D,V_4 its k)]++pl) σ' H' s'->s'.heap.get? D=some (V_4 its k)/\H' D=none:=λ I'=>by
   have q:=I'.pin (D,V_4 its k) (qo _ (List.mem_append_left _ (qo _ qg)));exact⟨q.1,q.2.1⟩
  have pins_only:∀ {pl:List (Addr×Obj)}{σ':St}{H':Hp}{s':Shared},Inv (cxB X N' scope s H C fp) (pins++pl) σ' H' s'->Inv (cxB X N' scope s H C fp) pins σ' H' s':=λ I'=>I'.unpinned
  rcases turn i n ys H4 w4 with ⟨stop,lz,qe⟩ | ⟨go,lz,step⟩
  ·refine thn (T.done (cxB X N' scope s H C fp) rfl rfl rfl hc i _ s4 _ H4 (λ _ _=>False) I4 (stat fr4) tn4 stop) λ r s5 hh0_=>?_
   obtain⟨hr,I5⟩:=hh0_;subst hr;have I5':Inv (cxB X N' scope s H C fp) (pins++[(D,V_4 its k)]++[]) τ H4 s5:=by simpa using I5
   exact hR D C s5 H4 ys its k hDs hCs hDC (pins_only I5) (pD I5').2 rv (pD I5').1 lz qe
  ·refine thn (T.item (cxB X N' scope s H C fp) rfl rfl rfl hc i _ s4 _ H4 (λ _ _=>False) I4 (stat fr4) tn4 go) λ r s5 hh0_=>?_
   obtain⟨u,hr,h5⟩:=hh0_;subst hr;refine thn h5 λ _ s6 hh0_=>?_
   obtain⟨y,H6,I6,r6,y6,tn6,fr6⟩:=hh0_;have I6':=I6.pinned (stat fr6) (T.obj _ _ tn6)
   have dfs:D∉(cxB X N' scope s H C fp).fs:=λ z=>by
    rcases qw (I.stkSub D z) with e | e
    ·exact r_6 I.lt hDs e.symm
    ·exact I.nofs hDs e
   refine thn (hg C _ s6 _ H6 y u _ I6' r6 (step y H6 y6)) λ _ s7 hh0_=>?_
   obtain⟨σ7,H7,I7,e7,q7⟩:=hh0_;have back:∀ {σ':St}{H':Hp}{s':Shared},Inv (cxB X N' scope s H C fp) (pins++[(D,V_4 its k)]++E_0 fp s6.heap) σ' H' s'->(∀ b∈fp,∀ o,s6.heap.get? b=some o->s'.heap.get? b=some o)/\∀ b∈fp,H' b=none:=λ {σ' H' s'} I' =>
    ⟨λ b hb o e=>(I'.pin (b,o) (qo _ (qo _ (m_7 hb e)))).1,λ b hb=>by
     obtain⟨o,e,_⟩:=T.obj _ _ tn6 b hb;exact (I'.pin (b,o) (qo _ (qo _ (m_7 hb e)))).2.1⟩
   have forget:∀ {pl:List (Addr×Obj)}{H':Hp}{s':Shared},Inv (cxB X N' scope s H C fp) pl σ7 H' s'->Inv (cxB X N' scope s H C fp) pl τ H' s':=λ I'=>I'.weak e7.1 e7.2
   refine thn (ht s H C fp _ s7 _ H7 _ I7 q7) λ ok s8 hh0_=>?_
   obtain⟨H8,I8,q8⟩:=hh0_;cases ok with
   |false =>
    rw[if_neg Bool.false_ne_true] at q8 ⊢;obtain⟨m',hm,w8⟩:=q8;obtain⟨b1,b2⟩:=back I8;exact⟨m',hm,i+1,ys,its,k,H8,forget I8.unpinned,T.keep _ _ _ tn6 b1,b2,rv,w8⟩
   |true =>
    rw[if_pos rfl] at q8 ⊢;refine thn (he s H C fp _ s8 _ H8 _ I8 q8) λ v s9 hh0_=>?_
    obtain⟨vv,H9,I9,r9,m',hm,w9⟩:=hh0_;obtain⟨gD9,nD9⟩:=pD I9;obtain⟨b1,b2⟩:=back I9;have hlen:=rv.length;refine call_meets F.slot_list_append ⟨_,gD9,rfl⟩ F.entry_list_append (F.args_list_append_2 _ _) (PySem.list_append D its.toArray k v (by rw[List.size_toArray];omega)) ⟨gD9,?_⟩
    have ea:its.toArray.push v=(its++[v]).toArray:=by simp
    obtain⟨k',q⟩:∃ k',(s9.heap.update D (Obj.mapSeq (·.push v))).get? D=some (V_4 (its++[v]) k'):=by
     have q0:=PySem.IsL.update gD9 (·.push v);rw[ea] at q0;exact⟨_,q0⟩
    have oth:∀ b o,b≠D->s9.heap.get? b=some o->(s9.heap.update D (Obj.mapSeq (·.push v))).get? b=some o:=λ b o hb e=>(Heap.get?_update_other s9.heap (Obj.mapSeq (·.push v)) (Ne.symm hb)).trans e
    have I10:Inv (cxB X N' scope s H C fp) pins σ7 H9 {s9 with heap:=s9.heap.update D (Obj.mapSeq (·.push v))} :=
     (pins_only I9.unpinned).turned (t':=s9.toks) (it:=D) oth nD9 hDC (.inr hDs) (λ y' c e z=>by
      obtain⟨w',q'⟩:=I.cell y' c (sub y' c e)
      exact r_6 q'.lt hDs z) (λ p hp z=>by
      have hp':p∈pins:=by simpa [cxB] using hp
      exact r_6 (pOld p hp') hDs z)
    refine⟨m',hm,i+1,ys++[vv],its++[v],k',H9,forget (I10.pins_of λ p hp=>?_),T.keep _ _ _ tn6 λ b hb o e=>oth b o (λ z=>nDf (z▸hb)) (b1 b hb o e),b2,rv.append (.cons r9 .nil),w9⟩
    rcases qx hp with z | z
    ·exact I10.pin p (qo _ z)
    ·have z':p=(D,V_4 (its++[v]) k'):=List.mem_singleton.mp z
     subst z';exact⟨q,nD9,hDC,dfs,λ w' z2=>nomatch z2⟩
 exact codeAny_compStart_list (loop _ rfl) (T.self _ 0 _ _ _ tn0 (loop _ rfl))
theorem aB2 {it:Addr}{fp:List Addr}{tn:Nat->Heap->Prop}{J:It}{Qe:List V->Hp->Prop}{RR:Value->Addr->Result->Shared->Prop} (I:Inv X pins σ H s) (hc:X.calm=true) (hsc:X.env.scope=sc) (B:ScB X.N sc scope x frees js)
  (T:Turn X.prog X.w X.K (.Name x px) J fp it tn) (st:tn 0 s.heap) (f:∀ b∈fp,FpOk X pins H b) (hW:LcW js tt te σ Qe J H)
  (ht:∀ s H C fp,PTs (cxB X (x::frees) scope s H C fp) ifs tt) (he:∀ s H C fp,PE (cxB X (x::frees) scope s H C fp) elt te)
  (hR:∀ (D C:Addr) (s':Shared) (H':Hp) (ys:List V) (its:List Value) (n:Nat),s.heap.objs.size<=D->s.heap.objs.size<=C->D≠C->Inv (cxB X (x::frees) scope s H C fp) pins (none::frv σ js) H' s'->H' D=none ->
   Vals ys its->s'.heap.get? D=some (V_4 its n)->ys.length<=sizeLine->Qe ys H'->RR (.ref D) C (.ok .next) s') :
  wpAny (model X.prog X.w) X.A (newList []) (λ acc s3=>wpAny (model X.prog X.w) X.A (newFunctionEnv scope X.env.globals (G_9 X.env.cells scope.names []) [] X.env.qual none .none (some X.env)) (λ cenv s4 =>
   codeAny (model X.prog X.w) X.A (.compStart (.ListComp elt [⟨.Name x px,iter,ifs,0⟩] scope pos) 0 (.ref it) acc {cenv with scope:=relabel scope X.env}) (RR acc cenv.locals) s4) E s3) E s:=by
 refine ae5 (N':=x::frees) (tg:=ag2 0) I hc hsc B T st f (λ h=>h) (λ C=>z_8 B.nd rfl (.inl (lookup_relabel_local B.own)) (.inr (lookup_relabel_local B.own))) ?_ ht he hR
 obtain⟨W,w0,turn⟩:=hW;refine⟨W,w0,λ i m ys H w=>?_⟩
 rcases turn i m ys H w with h | ⟨go,lz,step⟩
 ·exact .inl h
 ·exact .inr ⟨go,lz,λ y H' yl=>⟨⟨rfl,λ j v e=>by
   cases j with
   |zero=>simp at e
   |succ j=>simpa using e⟩,step y H' yl⟩⟩
theorem B_1 {fp:List Addr}{D C:Addr}{s':Shared}{H':Hp}{ys:List V}{its:List Value}{n:Nat} (I:Inv X pins σ H s) (f:∀ b∈fp,FpOk X pins H b) (hD:s.heap.objs.size<=D) (J:Inv (cxB X (x::frees) scope s H C fp) pins (none::frv σ js) H' s') (nD:H' D=none) (rv:Vals ys its)
  (gD:s'.heap.get? D=some (V_4 its n)) (hz:ys.length<=sizeLine):Inv X pins σ (upd H' D (.lst ys)) s':=by
 have u:Un (frs X.stack) fp H H' s.heap s'.heap:=J.base;have hk:HOk X.prog X.w H' s'.heap:=J.hok;refine I.call' (ch:=fp) J.os ⟨u.keep,u.slot,λ b o e n' hx=>?_,u.there,λ b xs e=>?_,λ b o v e=>?_,λ b ps e=>?_⟩ (λ b o e=>?_) J.bare λ b hb=>?_
 ·rw[a_6 (r_6 (Heap.lt_size e) hD)]
  exact u.free b o e n' hx
 ·have q:=u.tups b xs e
  rw[a_6 (b_1 q nD)];exact q
 ·have q:=u.frzs b o v e
  rw[a_6 (b_1 q nD)];exact q
 ·obtain⟨more,q⟩:=u.tbls b ps e
  exact⟨more,by rw[a_6 (b_1 q nD)];exact q⟩
 ·by_cases hb:b=D
  ·subst hb
   rw[a_3] at e;cases e;exact⟨hz,its,n,rv,gD⟩
  ·rw[a_6 hb] at e
   exact (hk b o e).stay (λ c v _ q=>q) (λ c q=>by rw[a_6 (b_1 q nD)];exact q) λ c xs q=>by rw[a_6 (b_1 q nD)];exact q
 ·obtain⟨_,a2,a3,a4,a5,a6⟩:=f b hb
  exact⟨a4,a2,a5,a6⟩
theorem aL9 {C:Addr}{s':Shared}{H':Hp}{σ':St}{h':Heap} (I:Inv X pins σ H s) (J:Inv X pins σ' H' s') (hC:s.heap.objs.size<=C) (nC:H' C=none) (hs:Heap.SameBut C s'.heap h'):Inv X pins σ' H' {s' with heap:=h'}:=by
 refine J.turned (t':=s'.toks) (it:=C) (λ b o hb e=>(hs.2 b hb).trans e) nC (λ z=>?_) (.inr (Nat.le_trans I.sz hC)) (λ y c e z=>?_) λ p hp z=>?_
 ·exact r_6 I.lt hC z.symm
 ·obtain⟨v,q⟩:=I.cell y c e
  exact r_6 q.lt hC z
 ·exact r_6 (qm (I.pin p hp).1) hC z
def tLC (wi:TI) (js:List Nat) (tt:TT) (te:TE):TE:=λ σ H Q=>wi σ H (LcW js tt te σ λ ys H'=>∀ D,H' D=none->Q (.ref D) (upd H' D (.lst ys)))
theorem bt9 {wi:TI} (hc:X.calm=true) (hsc:X.env.scope=sc) (B:ScB X.N sc scope x frees js) (hi:PI X (.Name x px) iter wi) (ht:∀ s H C fp,PTs (cxB X (x::frees) scope s H C fp) ifs tt) (he:∀ s H C fp,PE (cxB X (x::frees) scope s H C fp) elt te)
  (hs:∀ v,foldedSetIterable iter X.env v=pure v:=by intro _;rfl):PE X (.ListComp elt [⟨.Name x px,iter,ifs,0⟩] scope pos) (tLC wi js tt te):=by
 intro pins s σ H Q I h;rw[eval_ListComp];refine wpAny_comprehension_free (use:=none) rfl hs (q_2 (F_5 I hsc B)) B.kind B.locs (thn (hi pins s σ H _ I h) λ v s1 h1=>thn h1 λ itv s2 h2=>?_)
 obtain⟨it,fp,tn,J,H2,e,I2,T,st2,f2,hW⟩:=h2;subst e;refine aB2 (RR:=λ acc C=>compPost (model X.prog X.w) X.A X.xe none (EP X pins σ Q) acc C) I2 hc hsc B T st2 f2 hW ht he ?_
 intro D C s' H' ys its n hD hC hDC J' nD rv gD hz q;obtain⟨m,hn,_⟩:=J'.loc;refine⟨m,hn,λ h' hs'=>?_⟩
 have A1:=B_1 I2 f2 hD J' nD rv gD hz;have nC:(upd H' D (.lst ys)) C=none:=by rw[a_6 (Ne.symm hDC)];exact J'.free
 exact⟨.ref D,_,aL9 I2 A1 hC nC hs',rfl,q D nD⟩
def aV9 (i:Nat) (wi:TI) (js:List Nat) (tt:TT) (te:TE):TS:=λ D σ H=>wi σ H (LcW js tt te σ λ ys H'=>∀ a,H' a=none->D.nx (σ.set i (some (.ref a))) (upd H' a (.lst ys)))
theorem O_9 {wi:TI}{i:Nat}{y:Str}{py spos:Pos} (hN:X.N.Nodup) (hi':X.N[i]?=some y) (hy:X.env.scope.names.lookup y=some .local) (hc:X.calm=true) (hsc:X.env.scope=sc) (B:ScB X.N sc scope x frees js) (hi:PI X (.Name x px) iter wi)
  (ht:∀ s H C fp,PTs (cxB X (x::frees) scope s H C fp) ifs tt) (he:∀ s H C fp,PE (cxB X (x::frees) scope s H C fp) elt te)
  (hsw:swapsWith (.ListComp elt [⟨.Name x px,iter,ifs,0⟩] scope pos) (some (.Name y py)) spos.line X.env=pure true:=by rfl)
  (hs:∀ v,foldedSetIterable iter X.env v=pure v:=by intro _;rfl):PS X (.Assign [.Name y py] (.ListComp elt [⟨.Name x px,iter,ifs,0⟩] scope pos) spos) (aV9 i wi js tt te):=by
 intro pins s σ H D I h;rw[exec_Assign_Name_used _ _ _ _ hsw];refine qb (wpAny_standAt (qb ?_));show wpAny _ X.A (do let _ <- comprehension (.ListComp elt [⟨.Name x px,iter,ifs,0⟩] scope pos) scope X.env _ (newList []) false (eval iter X.env) (some (assign (.Name y py) X.env))) _ _ s;refine qb (wpAny_mono (wpAny_comprehension_free (use:=some (assign (.Name y py) X.env)) (Q:=λ _ s'=>SP X pins D .next s') rfl hs (q_2 (F_5 I hsc B)) B.kind B.locs
  (thn (hi pins s σ H _ I h) λ v s1 h1=>thn h1 λ itv s2 h2=>?_)) (λ _ s' q=>qc (qc q)) λ _ _ z=>z)
 obtain⟨it,fp,tn,J,H2,e,I2,T,st2,f2,hW⟩:=h2;subst e;refine aB2 (RR:=λ acc C=>compPost (model X.prog X.w) X.A X.xe (some (assign (.Name y py) X.env)) (λ _ s'=>SP X pins D .next s') acc C) I2 hc hsc B T st2 f2 hW ht he ?_
 intro a C s' H' ys its n hD hC hDC J' nD rv gD hz q;have A1:=B_1 I2 f2 hD J' nD rv gD hz;have nC:(upd H' a (.lst ys)) C=none:=by rw[a_6 (Ne.symm hDC)];exact J'.free
 obtain⟨m,hn,_⟩:=J'.loc;have hL:C≠X.env.locals:=aA6 I2.lt hC;show wpAny _ X.A (assign (.Name y py) X.env (.ref a)) _ _ s';refine wpAny_assign_Name (D_3 A1 hN hi' (.inl hy) (v:=.ref a) rfl (λ s3 I3 hh0_=>?_) (.inr hy))
 obtain⟨b,sb,hb⟩:=hh0_
 have nb:C≠b:=by
  rcases hb with z | z
  ·rw[z];exact hL
  ·intro e
   obtain⟨v,q'⟩:=I2.cell y b z;exact r_6 q'.lt hC e.symm
 obtain⟨o,es,ep,ho,r⟩:=hn;refine⟨m,⟨o,es,ep,(sb.2 C nb).trans ho,r⟩,λ h' hs'=>?_⟩
 exact⟨_,_,aL9 I2 I3 hC nC hs',q a nD⟩
end
end L2
namespace Fx
open PySem PySem.Spec PyProof.Rows L2
mutual
def Rep (K:Frag) (H:Hp):D->V->Prop
 |.non,v=>v=.non
 |.bl b,v=>v=.bl b
 |.int i,v=>v=.int i
 |.str x,v=>v=.str x
 |.tup ds,v=>∃ a vs,v=.ref a/\SqT K H a vs/\Reps K H ds vs
 |.lst ds,v=>∃ a vs,v=.ref a/\SqL K H a vs/\Reps K H ds vs
 |.dct ks ds,v=>∃ a o vs,v=.ref a/\H a=some (.frz o (.dK ((ks.map Sum.inr).zip vs)))/\Reps K H ds vs/\ks.length=ds.length
def Reps (K:Frag) (H:Hp):List D->List V->Prop
 |[],vs=>vs=[]
 |d::ds,vs=>∃ v r,vs=v::r/\Rep K H d v/\Reps K H ds r
end
theorem Same.rd {H H':Hp}{a:Addr}{u:HO} (e:Same H H') (h:Rd H a u):Rd H' a u:=by
 rcases h with h | ⟨o,h⟩
 ·exact .inl (e _ _ h)
 ·exact .inr ⟨o,e _ _ h⟩
theorem Same.seqT {K:Frag}{H H':Hp}{a:Addr}{xs:List V} (e:Same H H') (h:SqT K H a xs):SqT K H' a xs:=by
 rcases h with h | h
 ·exact .inl (Same.rd e h)
 ·exact .inr h
section
variable {K:Frag}{H H':Hp}
mutual
theorem Rep.mono (e:Same H H'):∀ (d:D) {v:V},Rep K H d v->Rep K H' d v
 |.non,_,h=>h
 |.bl _,_,h=>h
 |.int _,_,h=>h
 |.str _,_,h=>h
 |.tup ds,_,h=>by
  unfold Rep at h ⊢;obtain⟨a,vs,q,s,r⟩:=h;exact⟨a,vs,q,Same.seqT e s,Reps.mono e ds r⟩
 |.lst ds,_,h=>by
  unfold Rep at h ⊢;obtain⟨a,vs,q,s,r⟩:=h;exact⟨a,vs,q,Same.seq e s,Reps.mono e ds r⟩
 |.dct ks ds,_,h=>by
  unfold Rep at h ⊢;obtain⟨a,o,vs,q,s,r,l⟩:=h;exact⟨a,o,vs,q,e _ _ s,Reps.mono e ds r,l⟩
theorem Reps.mono (e:Same H H'):∀ (ds:List D) {vs:List V},Reps K H ds vs->Reps K H' ds vs
 |[],_,h=>h
 |d::ds,_,h=>by
  unfold Reps at h ⊢;obtain⟨v,r,q,s,t⟩:=h;exact⟨v,r,q,Rep.mono e d s,Reps.mono e ds t⟩
end
theorem Reps.length:∀ {ds:List D}{vs:List V},Reps K H ds vs->ds.length=vs.length
 |[],_,h=>by unfold Reps at h;rw[h];rfl
 |d::ds,_,h=>by
  unfold Reps at h;obtain⟨v,r,q,_,t⟩:=h;rw[q,List.length_cons,List.length_cons,Reps.length t]
theorem Reps.get:∀ {ds:List D}{vs:List V}{i:Nat}{d:D},Reps K H ds vs->ds[i]?=some d->∃ v,vs[i]?=some v/\Rep K H d v
 |[],_,_,_,_,e=>by simp at e
 |d::ds,_,0,_,h,e=>by
  unfold Reps at h;obtain⟨v,r,rfl,s,_⟩:=h;simp at e;subst e;exact⟨v,rfl,s⟩
 |d::ds,_,i+1,d',h,e=>by
  unfold Reps at h;obtain⟨v,r,rfl,_,t⟩:=h;obtain⟨w,a,b⟩:=Reps.get (i:=i) (d:=d') t (by simpa using e)
  exact⟨w,by simpa using a,b⟩
theorem Reps.app:∀ {ds es:List D}{vs ws:List V},Reps K H ds vs->Reps K H es ws->Reps K H (ds++es) (vs++ws)
 |[],_,_,_,h,h'=>by unfold Reps at h;rw[h];exact h'
 |d::ds,es,_,ws,h,h'=>by
  unfold Reps at h;obtain⟨v,r,rfl,s,t⟩:=h;show Reps K H (d::(ds++es)) (v::(r++ws));unfold Reps;exact⟨v,r++ws,rfl,s,Reps.app t h'⟩
theorem Reps.take:∀ {ds:List D}{vs:List V} (n:Nat),Reps K H ds vs->Reps K H (ds.take n) (vs.take n)
 |[],_,n,h=>by unfold Reps at h;rw[h];simp[Reps]
 |d::ds,vs,0,h=>by simp[Reps]
 |d::ds,_,n+1,h=>by
  unfold Reps at h;obtain⟨v,r,rfl,s,t⟩:=h;show Reps K H (d::ds.take n) (v::r.take n);unfold Reps;exact⟨v,r.take n,rfl,s,Reps.take n t⟩
theorem Reps.drop:∀ {ds:List D}{vs:List V} (n:Nat),Reps K H ds vs->Reps K H (ds.drop n) (vs.drop n)
 |[],_,n,h=>by unfold Reps at h;rw[h];simp[Reps]
 |d::ds,vs,0,h=>by simpa using h
 |d::ds,_,n+1,h=>by
  unfold Reps at h;obtain⟨v,r,rfl,s,t⟩:=h
  simpa using Reps.drop n t
theorem Reps.one {d:D}{v:V} (h:Rep K H d v):Reps K H [d] [v]:=by
 unfold Reps Reps;exact⟨v,[],rfl,h,rfl⟩
theorem Reps.cons {d:D}{ds:List D}{v:V}{vs:List V} (h:Rep K H d v) (t:Reps K H ds vs):Reps K H (d::ds) (v::vs):=by
 unfold Reps;exact⟨v,vs,rfl,h,t⟩
theorem Reps.nil_:Reps K H [] []:=by unfold Reps;rfl
end
structure FC where
 Hi:Hp
 He:Hp
 Ap:List Addr
def OwOk (K:Frag) (H0 H:Hp) (a:Addr):MO->Prop
 |.lst ds=>∃ vs,H a=some (.lst vs)/\Reps K H0 ds vs
 |.dic kds=>∃ ks vs,H a=some (.dK ((ks.map Sum.inr).zip vs))/\ks=kds.map (·.1)/\Reps K H0 (kds.map (·.2)) vs
structure RS (K:Frag) (c:FC) (H0 H:Hp) (ρ:En) (σ:L2.St):Prop where
 same:Same H0 H
 init:Same c.Hi H0
 fresh:∀ b o,H0 b=some o->c.Hi b=some o\/c.He b=none
 keep:∀ b o,c.He b=some o->b∉c.Ap->H b=some o
 apt:∀ a∈c.Ap,H a≠none
 len:ρ.length=σ.length
 im:∀ (i:Nat) (d:D),ρ[i]?=some (.im d)->∃ v,σ[i]?=some (some v)/\Rep K H0 d v
 ow:∀ (i:Nat) (b:Bool) (o:MO),ρ[i]?=some (.ow b o)->∃ a,σ[i]?=some (some (.ref a))/\H0 a=none/\(if b=true then a∈c.Ap else c.He a=none)/\OwOk K H0 H a o
 ne:∀ (i j:Nat) (b b':Bool) (o o':MO) (a:Addr),ρ[i]?=some (.ow b o)->ρ[j]?=some (.ow b' o')->σ[i]?=some (some (.ref a))->σ[j]?=some (some (.ref a))->i=j
section
variable {K:Frag}{c:FC}{H0 H H0' H':Hp}{ρ:En}{σ:L2.St}
theorem OwOk.some {a:Addr}{o:MO} (h:OwOk K H0 H a o):∃ u,H a=Option.some u:=by
 cases o with
 |lst ds=>obtain⟨vs,e,_⟩:=h;exact⟨_,e⟩
 |dic ds=>obtain⟨ks,vs,e,_⟩:=h;exact⟨_,e⟩
theorem OwOk.step {a:Addr}{o:MO} (h:OwOk K H0 H a o) (s0:Same H0 H0') (s:∀ u,H a=Option.some u->H' a=Option.some u):OwOk K H0' H' a o:=by
 cases o with
 |lst ds=>obtain⟨vs,e,r⟩:=h;exact⟨vs,s _ e,Reps.mono s0 ds r⟩
 |dic ds=>obtain⟨ks,vs,e,q,r⟩:=h;exact⟨ks,vs,s _ e,q,Reps.mono s0 _ r⟩
structure Step (H0 H H0' H':Hp):Prop where
 s0:Same H0 H0'
 s:Same H H'
 s':Same H0' H'
 fr:∀ b o,H0' b=some o->H0 b=some o\/H b=none
theorem RS.after (R:RS K c H0 H ρ σ) (S:Step H0 H H0' H'):RS K c H0' H' ρ σ:=by
 refine⟨S.s',R.init.trans S.s0,λ b o e=>?_,λ b o e n=>S.s _ _ (R.keep b o e n),λ a ha e=>?_,R.len,λ i d e=>?_,λ i b o e=>?_,R.ne⟩
 ·rcases S.fr b o e with h | h
  ·exact R.fresh b o h
  ·refine .inr ?_
   cases q:c.He b with
   |none=>rfl
   |some u =>
    by_cases hb:b∈c.Ap
    ·exact absurd h (R.apt b hb)
    ·rw[R.keep b u q hb] at h;cases h
 ·cases q:H a with
  |none=>exact R.apt a ha q
  |some u=>rw[S.s _ _ q] at e;cases e
 ·obtain⟨v,a,b⟩:=R.im i d e
  exact⟨v,a,Rep.mono S.s0 d b⟩
 ·obtain⟨a,x,y,z,w⟩:=R.ow i b o e
  refine⟨a,x,?_,z,w.step S.s0 λ u q=>S.s _ _ q⟩
  obtain⟨u,q⟩:=w.some;cases t:H0' a with
  |none=>rfl
  |some o' =>
   rcases S.fr a o' t with h | h
   ·rw[y] at h;cases h
   ·rw[q] at h;cases h
theorem Step.refl (s:Same H0 H):Step H0 H H0 H:=⟨Same.refl _,Same.refl _,s,λ _ _ e=>.inl e⟩
theorem Step.trans {A B:Hp} (x:Step H0 H H0' H') (y:Step H0' H' A B):Step H0 H A B:=by
 refine⟨x.s0.trans y.s0,x.s.trans y.s,y.s',λ b o e=>?_⟩
 rcases y.fr b o e with h | h
 ·exact x.fr b o h
 ·exact .inr (x.s.free h)
theorem Step.alloc {p:Addr}{o:HO} (s:Same H0 H) (hp:H p=none):Step H0 H (upd H0 p o) (upd H p o):=by
 have h0:H0 p=none:=s.free hp;refine⟨λ b u e=>by rw[a_6 (b_1 e h0)];exact e,λ b u e=>by rw[a_6 (b_1 e hp)];exact e,λ b u e=>?_,λ b u e=>?_⟩
 ·by_cases hb:b=p
  ·subst hb;rw[a_3] at e ⊢;exact e
  ·rw[a_6 hb] at e ⊢;exact s _ _ e
 ·by_cases hb:b=p
  ·subst hb;exact .inr hp
  ·rw[a_6 hb] at e;exact .inl e
end
def tE (K:Frag) (F:FE):TE:=λ σ H Q=>∃ c H0 ρ d ρ',RS K c H0 H ρ σ/\F ρ=some (d,ρ')/\∀ v H0' H',Same H0 H0'->RS K c H0' H' ρ' σ->Rep K H0' d v->Q v H'
def tTt (K:Frag) (F:FT):TT:=λ σ H Q=>∃ c H0 ρ b ρ',RS K c H0 H ρ σ/\F ρ=some (b,ρ')/\∀ H0' H',Same H0 H0'->RS K c H0' H' ρ' σ->Q b H'
def tAa (K:Frag) (F:FA):TA:=λ σ H Q=>∃ c H0 ρ ds ρ',RS K c H0 H ρ σ/\F ρ=some (ds,ρ')/\∀ vs H0' H',Same H0 H0'->RS K c H0' H' ρ' σ->Reps K H0' ds vs->Q vs H'
def tOo (K:Frag) (F:FO):TO:=λ σ H Q=>∃ c H0 ρ o ρ',RS K c H0 H ρ σ/\F ρ=some (o,ρ')/\∀ H0' H',Same H0 H0'->RS K c H0' H' ρ' σ->Q o H'
def XE (X:Cx) (e:Expr) (F:FE):Prop:=PE X e (tE X.K F)
def XT (X:Cx) (e:Expr) (F:FT):Prop:=PT X e (tTt X.K F)
def XW (X:Cx) (e:Expr) (F:FT):Prop:=PW X e (tTt X.K F)
def XA (X:Cx) (es:List Expr) (F:FA):Prop:=PA X es (tAa X.K F)
def XO (X:Cx) (e:Option Expr) (F:FO):Prop:=PO X e (tOo X.K F)
theorem a_0 {α β:Type}{x:Option α}{f:α->Option β}{b:β} (h:bnd x f=some b):∃ a,x=some a/\f a=some b:=by
 cases x with
 |none=>cases h
 |some a=>exact⟨a,rfl,h⟩
theorem PE.wk {X:Cx}{e:Expr}{t t':TE} (h:PE X e t) (w:∀ σ H Q,t' σ H Q->t σ H Q):PE X e t':=λ pins s σ H Q I q=>h pins s σ H Q I (w σ H Q q)
theorem PT.wk {X:Cx}{e:Expr}{t t':TT} (h:PT X e t) (w:∀ σ H Q,t' σ H Q->t σ H Q):PT X e t':=λ pins s σ H Q I q=>h pins s σ H Q I (w σ H Q q)
theorem PW.wk {X:Cx}{e:Expr}{t t':TT} (h:PW X e t) (w:∀ σ H Q,t' σ H Q->t σ H Q):PW X e t':=λ wh pins s σ H Q I q=>h wh pins s σ H Q I (w σ H Q q)
theorem PA.wk {X:Cx}{e:List Expr}{t t':TA} (h:PA X e t) (w:∀ σ H Q,t' σ H Q->t σ H Q):PA X e t':=λ pos pins s σ H Q I q=>h pos pins s σ H Q I (w σ H Q q)
theorem PS.wk {X:Cx}{e:Stmt}{t t':TS} (h:PS X e t) (w:∀ D σ H,t' D σ H->t D σ H):PS X e t':=λ pins s σ H D I q=>h pins s σ H D I (w D σ H q)
theorem PSs.wk {X:Cx}{e:List Stmt}{t t':TS} (h:PSs X e t) (w:∀ D σ H,t' D σ H->t D σ H):PSs X e t':=λ pins s σ H D I q=>h pins s σ H D I (w D σ H q)
section
variable {X:Cx}{pos:Pos}{a b e:Expr}{F G L:FE}{T U:FT}
theorem xv (i:Nat) {x:Str} (hN:X.N[i]?=some x:=by rfl) (hv:Vis X.env.scope x:=by first | exact Or.inl rfl | exact Or.inr (Or.inl rfl) | exact Or.inr (Or.inr rfl)) (hd:(x==("__debug__":Str))=false:=by decide)
  (hcd:(x==("__classdict__":Str))=false:=by decide):XE X (.Name x pos) (eV i) :=
 PE.wk (o_7 hN hv hd hcd) λ σ H Q hh0_=>by
  obtain⟨c,H0,ρ,d,ρ',R,f,q⟩:=hh0_;unfold eV at f;cases z:ρ[i]? with
  |none=>rw[z] at f;cases f
  |some sl =>
   rw[z] at f;cases sl with
   |no=>cases f
   |ow b o=>cases f
   |im d' =>
    have f':some (d',ρ)=some (d,ρ'):=f;cases f';obtain⟨v,e1,e2⟩:=R.im i _ z;exact⟨v,e1,q v H0 H (Same.refl _) R e2⟩
theorem u_9 {d d':D}{ρ ρ':En} (h:eC d ρ=some (d',ρ')):d'=d/\ρ'=ρ:=by
 have h':some (d,ρ)=some (d',ρ'):=h;cases h';exact⟨rfl,rfl⟩
theorem a_7 {i:Int}{j}:XE X (.Constant (.int i) j pos) (eC (.int i)):=PE.wk P_1 λ σ H Q hh0_=>by
 obtain⟨c,H0,ρ,d,ρ',R,f,q⟩:=hh0_;obtain⟨rfl,rfl⟩:=u_9 f;exact q _ H0 H (Same.refl _) R (by unfold Rep;rfl)
theorem xbl {i:Bool}{j}:XE X (.Constant (.bool i) j pos) (eC (.bl i)):=PE.wk bu1 λ σ H Q hh0_=>by
 obtain⟨c,H0,ρ,d,ρ',R,f,q⟩:=hh0_;obtain⟨rfl,rfl⟩:=u_9 f;exact q _ H0 H (Same.refl _) R (by unfold Rep;rfl)
theorem x_1 {j}:XE X (.Constant .none j pos) (eC .non):=PE.wk ba3 λ σ H Q hh0_=>by
 obtain⟨c,H0,ρ,d,ρ',R,f,q⟩:=hh0_;obtain⟨rfl,rfl⟩:=u_9 f;exact q _ H0 H (Same.refl _) R (by unfold Rep;rfl)
theorem d_4 {x:Str}{j}:XE X (.Constant (.str x) j pos) (eC (.str x)):=PE.wk aA0 λ σ H Q hh0_=>by
 obtain⟨c,H0,ρ,d,ρ',R,f,q⟩:=hh0_;obtain⟨rfl,rfl⟩:=u_9 f;exact q _ H0 H (Same.refl _) R (by unfold Rep;rfl)
abbrev Aft (K:Frag) (c:FC) (H0:Hp) (ρ:En) (σ:L2.St) (d:D) (Q:VK):Prop:=∀ v H0' H',Same H0 H0'->RS K c H0' H' ρ σ->Rep K H0' d v->Q v H'
def OpD (K:Frag) (r:R2) (op:D->D->Option D):Prop:=∀ (c:FC) (H0 H:Hp) (ρ:En) (σ:L2.St) (x y d:D) (vx vy:V) (Q:VK),RS K c H0 H ρ σ->Rep K H0 x vx->Rep K H0 y vy->op x y=some d->Aft K c H0 ρ σ d Q->r vx vy H Q
def C_7 (X:Cx) (op:Operator) (f:D->D->Option D):Prop:=∃ r,OpR X (binaryOp op) r/\OpD X.K r f
def l_2 (X:Cx) (op:CmpOp) (f:D->D->Option D):Prop:=∃ r,OpR X (compareOp op) r/\OpD X.K r f
theorem q_7 {op:D->D->Option D}{ρ ρ':En}{d:D} (h:e2 op F G ρ=some (d,ρ')):∃ x ρ1 y,F ρ=some (x,ρ1)/\G ρ1=some (y,ρ')/\op x y=some d:=by
 unfold e2 at h;obtain⟨⟨x,ρ1⟩,h1,h⟩:=a_0 h;obtain⟨⟨y,ρ2⟩,h2,h⟩:=a_0 h;obtain⟨z,h3,h⟩:=a_0 h;have h':some (z,ρ2)=some (d,ρ'):=h;cases h';exact⟨x,ρ1,y,h1,h2,h3⟩
theorem N_4 {K:Frag}{op:D->D->Option D}{r:R2} (o:OpD K r op) {σ:L2.St}{H:Hp}{Q:VK} (h:tE K (e2 op F G) σ H Q):tOp r (tE K F) (tE K G) σ H Q:=by
 obtain⟨c,H0,ρ,d,ρ',R,f,q⟩:=h;obtain⟨x,ρ1,y,h1,h2,h3⟩:=q_7 f;refine⟨c,H0,ρ,x,ρ1,R,h1,λ vx H1 Hh s1 R1 r1=>?_⟩
 refine⟨c,H1,ρ1,y,ρ',R1,h2,λ vy H2 Hh2 s2 R2 r2=>?_⟩
 exact o c H2 Hh2 ρ' σ x y d vx vy Q R2 (Rep.mono s2 x r1) r2 h3 λ v H3 Hh3 s3 R3 r3=>q v H3 Hh3 (s1.trans (s2.trans s3)) R3 r3
theorem xb {op:Operator}{f:D->D->Option D} (o:C_7 X op f) (ha:XE X a F) (hb:XE X b G):XE X (.BinOp a op b pos) (e2 f F G):=by
 obtain⟨r,h1,h2⟩:=o;exact PE.wk (ar5 h1 ha hb) λ σ H Q h=>N_4 h2 h
theorem m_1 {op:CmpOp}{f:D->D->Option D} (o:l_2 X op f) (ha:XE X a F) (hb:XE X b G) (hm:behindInMarks op b=false:=by first | exact ad1 _ | with_unfolding_all rfl):XE X (.Compare a [op] [b] pos) (e2 f F G):=by
 obtain⟨r,h1,h2⟩:=o;exact PE.wk (aJ1 h1 ha hb hm) λ σ H Q h=>N_4 h2 h
theorem aE9 {K:Frag}{t:TE}{σ:L2.St}{H:Hp}{Q:Bool->Hp->Prop} (w:∀ Q,tE K F σ H Q->t σ H Q) (h:tTt K (tB F) σ H Q):aE5 t σ H Q:=by
 obtain⟨c,H0,ρ,b,ρ',R,f,q⟩:=h;unfold tB at f;obtain⟨⟨d,ρ1⟩,h1,f⟩:=a_0 f;obtain⟨b',h2,f⟩:=a_0 f;have f':some (b',ρ1)=some (b,ρ'):=f;cases f';refine w _ ⟨c,H0,ρ,d,_,R,h1,λ v H1 Hh s1 R1 r1=>?_⟩
 cases d with
 |bl k =>
  have e:k=b:=qi h2;unfold Rep at r1;exact⟨k,r1,by rw[e];exact q H1 Hh s1 R1⟩
 |_=>cases h2
theorem xt {op:CmpOp}{f:D->D->Option D} (o:l_2 X op f) (ha:XE X a F) (hb:XE X b G) (hm:behindInMarks op b=false:=by first | exact ad1 _ | with_unfolding_all rfl):XT X (.Compare a [op] [b] pos) (tB (e2 f F G)):=by
 obtain⟨r,h1,h2⟩:=o;exact PT.wk (aI4 h1 ha hb hm) λ σ H Q h=>aE9 (λ Q h=>N_4 h2 h) h
theorem N_6 {K:Frag}{op op':D->D->Option D}{r r':R2} (o:OpD K r op) (o':OpD K r' op') {σ:L2.St}{H:Hp}{Q:VK} (h:tE K (e3 op op' F G L) σ H Q):Z_7 r r' (tE K F) (tE K G) (tE K L) σ H Q:=by
 obtain⟨c,H0,ρ,d,ρ',R,f,q⟩:=h;unfold e3 at f;obtain⟨⟨x,ρ1⟩,h1,f⟩:=a_0 f;obtain⟨⟨y,ρ2⟩,h2,f⟩:=a_0 f;obtain⟨z,h3,f⟩:=a_0 f;obtain⟨k,h4,f⟩:=a_0 f;dsimp only at h2 h3 h4 f;refine⟨c,H0,ρ,x,ρ1,R,h1,λ vx H1 Hh s1 R1 r1=>?_⟩
 refine⟨c,H1,ρ1,y,ρ2,R1,h2,λ vy H2 Hh2 s2 R2 r2=>?_⟩
 refine o c H2 Hh2 ρ2 σ x y z vx vy _ R2 (Rep.mono s2 x r1) r2 h3 λ v H3 Hh3 s3 R3 r3=>?_
 cases z with
 |bl k' =>
  have e:k'=k:=qi h4;subst e;unfold Rep at r3;refine⟨k',r3,?_⟩;cases k' with
  |false =>
   rw[if_neg Bool.false_ne_true] at f ⊢;have f':some (D.bl false,ρ2)=some (d,ρ'):=f;cases f';exact q _ H3 Hh3 (s1.trans (s2.trans s3)) R3 (by unfold Rep;rfl)
  |true =>
   rw[if_pos rfl] at f ⊢;obtain⟨⟨w,ρ3⟩,h5,f⟩:=a_0 f;obtain⟨d',h6,f⟩:=a_0 f;dsimp only at h6 f;have f':some (d',ρ3)=some (d,ρ'):=f;cases f';refine⟨c,H3,ρ2,w,_,R3,h5,λ vw H4 Hh4 s4 R4 r4=>?_⟩
   exact o' c H4 Hh4 _ σ y w d vy vw Q R4 (Rep.mono s4 y (Rep.mono s3 y r2)) r4 h6 λ v H5 Hh5 s5 R5 r5=>q v H5 Hh5 (s1.trans (s2.trans (s3.trans (s4.trans s5)))) R5 r5
 |_=>cases h4
theorem an7 {op op':CmpOp}{f f':D->D->Option D}{m:Expr} (o:l_2 X op f) (o':l_2 X op' f') (ha:XE X a F) (hb:XE X b G) (hc:XE X m L) (hm:lastMarks [op,op'] [b,m]=false:=by with_unfolding_all rfl):XE X (.Compare a [op,op'] [b,m] pos) (e3 f f' F G L):=by
 obtain⟨r,h1,h2⟩:=o;obtain⟨r',h1',h2'⟩:=o';exact PE.wk (ar8 h1 h1' ha hb hc hm) λ σ H Q h=>N_6 h2 h2' h
theorem xt3 {op op':CmpOp}{f f':D->D->Option D}{m:Expr} (o:l_2 X op f) (o':l_2 X op' f') (ha:XE X a F) (hb:XE X b G) (hc:XE X m L) (hm:lastMarks [op,op'] [b,m]=false:=by with_unfolding_all rfl):XT X (.Compare a [op,op'] [b,m] pos) (tB (e3 f f' F G L)):=by
 obtain⟨r,h1,h2⟩:=o;obtain⟨r',h1',h2'⟩:=o';exact PT.wk (ar0 h1 h1' ha hb hc hm) λ σ H Q h=>aE9 (λ Q h=>N_6 h2 h2' h) h
theorem xif {c:Expr} (hc:XT X c T) (ha:XE X a F) (hb:XE X b G):XE X (.IfExp c a b pos) (eIf T F G):=PE.wk (ar6 hc ha hb) λ σ H Q hh0_=>by
 obtain⟨c,H0,ρ,d,ρ',R,f,q⟩:=hh0_;unfold eIf at f;obtain⟨⟨k,ρ1⟩,h1,f⟩:=a_0 f;dsimp only at f;refine⟨c,H0,ρ,k,ρ1,R,h1,λ H1 Hh s1 R1=>?_⟩
 cases k with
 |true =>
  rw[if_pos rfl] at f ⊢;exact⟨c,H1,ρ1,d,ρ',R1,f,λ v H2 Hh2 s2 R2 r2=>q v H2 Hh2 (s1.trans s2) R2 r2⟩
 |false =>
  rw[if_neg Bool.false_ne_true] at f ⊢;exact⟨c,H1,ρ1,d,ρ',R1,f,λ v H2 Hh2 s2 R2 r2=>q v H2 Hh2 (s1.trans s2) R2 r2⟩
theorem C_9 {op} (h:XE X a F):XE X (.BoolOp op [a] pos) F:=ba2 h
variable {rest:List Expr}
theorem an8 (ha:XE X a F) (hb:XE X (.BoolOp .And (b::rest) pos) G):XE X (.BoolOp .And (a::b::rest) pos) (W_4 F G):=PE.wk (ba4 ha hb) λ σ H Q hh0_=>by
 obtain⟨c,H0,ρ,d,ρ',R,f,q⟩:=hh0_;unfold W_4 at f;obtain⟨⟨z,ρ1⟩,h1,f⟩:=a_0 f;obtain⟨k,h2,f⟩:=a_0 f;dsimp only at h2 f;refine⟨c,H0,ρ,z,ρ1,R,h1,λ v H1 Hh s1 R1 r1=>?_⟩
 cases z with
 |bl k' =>
  have e:k'=k:=qi h2;subst e;unfold Rep at r1;refine⟨k',r1,?_⟩;cases k' with
  |true =>
   rw[if_pos rfl] at f ⊢;exact⟨c,H1,ρ1,d,ρ',R1,f,λ v H2 Hh2 s2 R2 r2=>q v H2 Hh2 (s1.trans s2) R2 r2⟩
  |false =>
   rw[if_neg Bool.false_ne_true] at f ⊢;have f':some (D.bl false,ρ1)=some (d,ρ'):=f;cases f';exact q _ H1 Hh s1 R1 (by unfold Rep;rfl)
 |_=>cases h2
theorem xor (ha:XE X a F) (hb:XE X (.BoolOp .Or (b::rest) pos) G):XE X (.BoolOp .Or (a::b::rest) pos) (eOr F G):=PE.wk (bt8 ha hb) λ σ H Q hh0_=>by
 obtain⟨c,H0,ρ,d,ρ',R,f,q⟩:=hh0_;unfold eOr at f;obtain⟨⟨z,ρ1⟩,h1,f⟩:=a_0 f;obtain⟨k,h2,f⟩:=a_0 f;dsimp only at h2 f;refine⟨c,H0,ρ,z,ρ1,R,h1,λ v H1 Hh s1 R1 r1=>?_⟩
 cases z with
 |bl k' =>
  have e:k'=k:=qi h2;subst e;unfold Rep at r1;refine⟨k',r1,?_⟩;cases k' with
  |true =>
   rw[if_pos rfl] at f ⊢;have f':some (D.bl true,ρ1)=some (d,ρ'):=f;cases f';exact q _ H1 Hh s1 R1 (by unfold Rep;rfl)
  |false =>
   rw[if_neg Bool.false_ne_true] at f ⊢;exact⟨c,H1,ρ1,d,ρ',R1,f,λ v H2 Hh2 s2 R2 r2=>q v H2 Hh2 (s1.trans s2) R2 r2⟩
 |_=>cases h2
theorem xw (h:XW X a T):XT X a T:=PW.pt h
theorem N_0 (ha:XT X a T):XW X (.BoolOp .And [a] pos) T:=aH8 ha
theorem p_4 (ha:XT X a T):XW X (.BoolOp .Or [a] pos) T:=aY9 ha
theorem an4 (ha:XT X a T) (hb:XW X (.BoolOp .And (b::rest) pos) U):XW X (.BoolOp .And (a::b::rest) pos) (tAnd T U):=PW.wk (aZ0 ha hb) λ σ H Q hh0_=>by
 obtain⟨c,H0,ρ,k,ρ',R,f,q⟩:=hh0_;unfold tAnd at f;obtain⟨⟨k',ρ1⟩,h1,f⟩:=a_0 f;dsimp only at f;refine⟨c,H0,ρ,k',ρ1,R,h1,λ H1 Hh s1 R1=>?_⟩
 cases k' with
 |true =>
  rw[if_pos rfl] at f ⊢;exact⟨c,H1,ρ1,k,ρ',R1,f,λ H2 Hh2 s2 R2=>q H2 Hh2 (s1.trans s2) R2⟩
 |false =>
  rw[if_neg Bool.false_ne_true] at f ⊢;have f':some (false,ρ1)=some (k,ρ'):=f;cases f';exact q H1 Hh s1 R1
theorem C_8 (ha:XT X a T) (hb:XW X (.BoolOp .Or (b::rest) pos) U):XW X (.BoolOp .Or (a::b::rest) pos) (tOr T U):=PW.wk (bt4 ha hb) λ σ H Q hh0_=>by
 obtain⟨c,H0,ρ,k,ρ',R,f,q⟩:=hh0_;unfold tOr at f;obtain⟨⟨k',ρ1⟩,h1,f⟩:=a_0 f;dsimp only at f;refine⟨c,H0,ρ,k',ρ1,R,h1,λ H1 Hh s1 R1=>?_⟩
 cases k' with
 |true =>
  rw[if_pos rfl] at f ⊢;have f':some (true,ρ1)=some (k,ρ'):=f;cases f';exact q H1 Hh s1 R1
 |false =>
  rw[if_neg Bool.false_ne_true] at f ⊢;exact⟨c,H1,ρ1,k,ρ',R1,f,λ H2 Hh2 s2 R2=>q H2 Hh2 (s1.trans s2) R2⟩
theorem v_7 (ha:XT X a T):XT X (.UnaryOp .Not a pos) (tNot T):=PT.wk (aZ2 ha) λ σ H Q hh0_=>by
 obtain⟨c,H0,ρ,k,ρ',R,f,q⟩:=hh0_;unfold tNot at f;obtain⟨⟨k',ρ1⟩,h1,f⟩:=a_0 f;have f':some (!k',ρ1)=some (k,ρ'):=f;cases f';exact⟨c,H0,ρ,k',_,R,h1,λ H1 Hh s1 R1=>q H1 Hh s1 R1⟩
theorem az0 {K:Frag}{H0 H:Hp}{d:D}{v:V}{k:Bool} (s:Same H0 H) (r:Rep K H0 d v) (h:aC5 d=some k):bC1 K v H k:=by
 cases d with
 |non=>unfold Rep at r;subst r;cases h;rfl
 |bl b=>unfold Rep at r;subst r;cases h;rfl
 |int i=>unfold Rep at r;subst r;cases h;rfl
 |str x=>cases h
 |dct ks vs=>cases h
 |tup ds =>
  unfold Rep at r;obtain⟨p,vs,rfl,q,t⟩:=r;have e:(!ds.isEmpty)=k:=qi h;have e2:ds.isEmpty=vs.isEmpty:=by rw[Bool.eq_iff_iff,List.isEmpty_iff_length_eq_zero,List.isEmpty_iff_length_eq_zero,t.length]
  exact .inr (.inl ⟨vs,Same.seqT s q,by rw[<- e2];exact e.symm⟩)
 |lst ds =>
  unfold Rep at r;obtain⟨p,vs,rfl,q,t⟩:=r;have e:(!ds.isEmpty)=k:=qi h;have e2:ds.isEmpty=vs.isEmpty:=by rw[Bool.eq_iff_iff,List.isEmpty_iff_length_eq_zero,List.isEmpty_iff_length_eq_zero,t.length]
  exact .inl ⟨vs,Same.seq s q,by rw[<- e2];exact e.symm⟩
theorem xtv (ha:XE X a F) (he:∀ whole,isTrue a X.env whole=(do let v <- whole;standAt a.pos;holding [v] (truthy v))):XT X a (tV F):=PT.wk (aq9 ha he) λ σ H Q hh0_=>by
 obtain⟨c,H0,ρ,k,ρ',R,f,q⟩:=hh0_;unfold tV at f;obtain⟨⟨d,ρ1⟩,h1,f⟩:=a_0 f;obtain⟨k',h2,f⟩:=a_0 f;have f':some (k',ρ1)=some (k,ρ'):=f;cases f';exact⟨c,H0,ρ,d,_,R,h1,λ v H1 Hh s1 R1 r1=>⟨k,az0 R1.same r1 h2,q H1 Hh s1 R1⟩⟩
theorem xaN:XA X [] aN:=PA.wk o_8 λ σ H Q hh0_=>by
 obtain⟨c,H0,ρ,ds,ρ',R,f,q⟩:=hh0_;have f':some (([]:List D),ρ)=some (ds,ρ'):=f;cases f';exact q [] H0 H (Same.refl _) R Reps.nil_
theorem xaC {es:List Expr}{A:FA} (ha:XE X e F) (hr:XA X es A) (hs:starEach (e::es) X.env=(false,eval e X.env)::starEach es X.env:=by rfl):XA X (e::es) (aC F A):=PA.wk (i_3 ha hr hs) λ σ H Q hh0_=>by
 obtain⟨c,H0,ρ,ds,ρ',R,f,q⟩:=hh0_;unfold aC at f;obtain⟨⟨d,ρ1⟩,h1,f⟩:=a_0 f;obtain⟨⟨r,ρ2⟩,h2,f⟩:=a_0 f;have f':some (d::r,ρ2)=some (ds,ρ'):=f;cases f';refine⟨c,H0,ρ,d,ρ1,R,h1,λ v H1 Hh s1 R1 r1=>?_⟩
 refine⟨c,H1,ρ1,r,_,R1,h2,λ vs H2 Hh2 s2 R2 r2=>?_⟩
 exact q _ H2 Hh2 (s1.trans s2) R2 (Reps.cons (Rep.mono s2 d r1) r2)
theorem ao5 {n:Nat} (h:n<=1000):n<=sizeLine:=Nat.le_of_lt (t_3 h)
theorem v_6 {es:List Expr}{A:FA}{x1} (h:XA X es A):XE X (.Tuple es x1 pos) (g_8 A):=PE.wk (ba0 h) λ σ H Q hh0_=>by
 obtain⟨c,H0,ρ,d,ρ',R,f,q⟩:=hh0_;unfold g_8 at f;obtain⟨⟨ds,ρ1⟩,h1,f⟩:=a_0 f;dsimp only at f
 split at f
 ·rename_i hl
  cases f;refine⟨c,H0,ρ,ds,_,R,h1,λ vs H1 Hh s1 R1 r1=>⟨by rw[<- r1.length];exact ao5 hl,λ p hp=>?_⟩⟩
  have S:=Step.alloc (o:=.tup vs) R1.same hp;refine q _ _ _ (s1.trans S.s0) (R1.after S) ?_;unfold Rep;exact⟨p,vs,rfl,.inl (.inl a_3),Reps.mono S.s0 ds r1⟩
 ·cases f
theorem I_8 {es:List Expr}{A:FA} (h:XA X es A):XE X (.List es pos) (k_1 A):=PE.wk (ac2 h) λ σ H Q hh0_=>by
 obtain⟨c,H0,ρ,d,ρ',R,f,q⟩:=hh0_;unfold k_1 at f;obtain⟨⟨ds,ρ1⟩,h1,f⟩:=a_0 f;dsimp only at f
 split at f
 ·rename_i hl
  cases f;refine⟨c,H0,ρ,ds,_,R,h1,λ vs H1 Hh s1 R1 r1=>⟨by rw[<- r1.length];exact ao5 hl,λ p hp=>?_⟩⟩
  have S:=Step.alloc (o:=.lst vs) R1.same hp;refine q _ _ _ (s1.trans S.s0) (R1.after S) ?_;unfold Rep;exact⟨p,vs,rfl,.inl (.inl a_3),Reps.mono S.s0 ds r1⟩
 ·cases f
theorem bh3:@dPl=@ixN:=rfl
theorem bi3 {K:Frag}{H:Hp}{ds:List D}{vs:List V}{i:Int}{d:D} (r:Reps K H ds vs) (h:atD ds i=some d):∃ v,atI vs i=some v/\Rep K H d v:=by
 unfold atD at h;obtain⟨j,h1,h2⟩:=a_0 (x:=dPl ds.length i) (f:=λ j=>ds[j]?) h
 obtain⟨v,e1,e2⟩:=r.get h2;refine⟨v,?_,e2⟩;unfold atI;rw[<- r.length,<- bh3,h1];exact e1
theorem PO.wk {X:Cx}{e:Option Expr}{t t':TO} (h:PO X e t) (w:∀ σ H Q,t' σ H Q->t σ H Q):PO X e t':=λ pins s σ H Q I q=>h pins s σ H Q I (w σ H Q q)
theorem xoN:XO X none oN:=PO.wk ab9 λ σ H Q hh0_=>by
 obtain⟨c,H0,ρ,o,ρ',R,f,q⟩:=hh0_;have f':some ((none:Option Int),ρ)=some (o,ρ'):=f;cases f';exact q H0 H (Same.refl _) R
theorem xoS (h:XE X e F):XO X (some e) (oS F):=PO.wk (ab8 h) λ σ H Q hh0_=>by
 obtain⟨c,H0,ρ,o,ρ',R,f,q⟩:=hh0_;unfold oS at f;obtain⟨⟨d,ρ1⟩,h1,f⟩:=a_0 f;obtain⟨i,h2,f⟩:=a_0 f;dsimp only at h2 f;have f':some (some i,ρ1)=some (o,ρ'):=f;cases f';refine⟨c,H0,ρ,d,_,R,h1,λ v H1 Hh s1 R1 r1=>?_⟩
 cases d with
 |int j =>
  have e:j=i:=qi h2;subst e;unfold Rep at r1;exact⟨j,r1,q H1 Hh s1 R1⟩
 |_=>cases h2
theorem C_1 (n d:Nat) (o:Option Int):ai7 n d o=HT.sIx n d o:=by cases o <;> rfl
theorem aC8 {K:Frag}{H:Hp}{ds:List D}{vs:List V} (r:Reps K H ds vs) (lo hi:Option Int):Reps K H (Y_0 ds lo hi) (am5 vs lo hi):=by
 unfold Y_0 am5;rw[C_1,C_1,r.length];exact (r.drop _).take _
end
section
variable {X:Cx}{K:Frag}
theorem A_0 {C:Int->Int->Prop}{g:Int->Int->V}{f:D->D->Option D} (h:∀ x y d,f x y=some d->∃ i j,x=.int i/\y=.int j/\C i j/\∀ H,Rep K H d (g i j)):OpD K (rI C g) f:=λ c H0 H ρ σ x y d vx vy Q R r1 r2 e q=>by
 obtain⟨i,j,rfl,rfl,hc,hr⟩:=h x y d e;unfold Rep at r1 r2;exact⟨i,j,r1,r2,hc,q _ H0 H (Same.refl _) R (hr H0)⟩
theorem P_3 {g:Int->Int->V}{f:D->D->Option D} (h:∀ x y d,f x y=some d->∃ i j,x=.int i/\y=.int j/\∀ H,Rep K H d (g i j)):OpD K (rI0 g) f:=λ c H0 H ρ σ x y d vx vy Q R r1 r2 e q=>by
 obtain⟨i,j,rfl,rfl,hr⟩:=h x y d e;unfold Rep at r1 r2;exact⟨i,j,r1,r2,q _ H0 H (Same.refl _) R (hr H0)⟩
theorem c_8 (H:Hp) (i:Int):Rep K H (.int i) (.int i):=by unfold Rep;rfl
theorem n_2 (H:Hp) (i:Bool):Rep K H (.bl i) (.bl i):=by unfold Rep;rfl
theorem ifs {c:Prop} [Decidable c] {α:Type}{a d:α} (h:(if c then some a else none)=some d):c/\a=d:=by
 by_cases hc:c
 ·rw[if_pos hc] at h;exact⟨hc,qi h⟩
 ·rw[if_neg hc] at h;cases h
theorem aT1:C_7 X .Sub ai5:=⟨_,ba6,P_3 λ x y d e=>by
 obtain⟨i,j,rfl,rfl,e⟩:=x_7 e;cases e;exact⟨_,_,rfl,rfl,λ H=>c_8 H _⟩⟩
def CMulD (i j:Int):Prop:=l_5 i j=true
theorem q_6 {i:Int} (h:bB2 i=true):Builtin.Int.intBits i<=1000:=by
 have h:i.natAbs<2 ^ 1000:=of_decide_eq_true h;unfold Builtin.Int.intBits
 split
 ·exact Nat.zero_le _
 ·rename_i hz
  have hz:i≠0:=by simpa using hz
  have h0:i.natAbs≠0:=by omega
  have:=(Nat.log2_lt h0).mpr h;omega
theorem CMulD.ok {i j:Int} (h:CMulD i j):IntMulOk i j:=by
 unfold CMulD l_5 at h;simp only[Bool.or_eq_true,Bool.and_eq_true,decide_eq_true_eq] at h
 rcases h with (h | h) | ⟨h1,h2⟩
 ·exact IntMulOk.of_left (intBits_le_64 (by omega) (by omega))
 ·exact IntMulOk.of_right (intBits_le_64 (by omega) (by omega))
 ·unfold IntMulOk
  have b1:=q_6 h1;have b2:=q_6 h2
  have:Builtin.Int.intTooBig ((Builtin.Int.intBits i:Int)+(Builtin.Int.intBits j:Int))=false:=by
   unfold Builtin.Int.intTooBig;refine decide_eq_false ?_;have:(2000:Int)<=bitsLine:=by decide
   omega
  simp[this]
theorem as6:C_7 X .Mult X_9:=⟨rI CMulD λ i j=>.int (i*j),opI λ _ _ _ _ _ _ _ hc q=>mul_int q hc.ok,A_0 λ x y d e=>by
 obtain⟨i,j,rfl,rfl,e⟩:=x_7 e;obtain⟨h,rfl⟩:=ifs (c:=l_5 i j=true) e;exact⟨_,_,rfl,rfl,h,λ H=>c_8 H _⟩⟩
def bi8 (i j:Int):Prop:=i_5 j=true
theorem bb4:C_7 X .FloorDiv aw4:=⟨rI bi8 λ i j=>.int (i.fdiv j),opI λ i j _ _ _ _ _ hc q=>by
  unfold bi8 i_5 at hc;simp only[Bool.and_eq_true,decide_eq_true_eq] at hc;refine floordiv_int hc.1 q (.inl (PyProof.noPylong_of_log2 ?_));have h0:j.natAbs≠0:=by have:=hc.1;omega
  have:=(Nat.log2_lt h0).mpr hc.2
  omega,A_0 λ x y d e=>by
 obtain⟨i,j,rfl,rfl,e⟩:=x_7 e;obtain⟨h,rfl⟩:=ifs (c:=i_5 j=true) e;exact⟨_,_,rfl,rfl,h,λ H=>c_8 H _⟩⟩
theorem l_3:C_7 X .Mod g_6:=⟨_,aJ6,A_0 λ x y d e=>by
 obtain⟨i,j,rfl,rfl,e⟩:=x_7 e;obtain⟨h,rfl⟩:=ifs (c:=j≠0) e;exact⟨_,_,rfl,rfl,h,λ H=>c_8 H _⟩⟩
theorem aT2:C_7 X .Pow am3:=⟨_,ba8,A_0 λ x y d e=>by
 obtain⟨i,j,rfl,rfl,e⟩:=x_7 e;obtain⟨h,rfl⟩:=ifs (c:=0<=j/\j<=64/\i.natAbs<2 ^ 64) e;exact⟨_,_,rfl,rfl,⟨h.1,by omega,h.2.2⟩,λ H=>c_8 H _⟩⟩
def aY6 (K:Frag):R2:=λ x y H Q=>∃ l b xs zs,x=.ref l/\y=.ref b/\SqL K H l xs/\SqL K H b zs/\xs.length+zs.length<=sizeLine/\∀ p,H p=none->Q (.ref p) (upd H p (.lst (xs++zs)))
theorem K_2:OpR X (binaryOp .Add) (aY6 X.K):=by
 intro pins s σ H x y v u Q I rx ry h;obtain⟨l,b,xs,zs,rfl,rfl,hH,hB,hz,q⟩:=h;cases rx;cases ry;obtain⟨its,r,pl,_⟩:=I.list hH;obtain⟨its2,r2,pl2,_⟩:=I.list hB;have hl:=r.length;have hl2:=r2.length;obtain⟨⟨cls,dd,data,sl⟩,ho,hc,n,hd⟩:=pl.isList;obtain⟨⟨cls2,dd2,data2,sl2⟩,ho2,hc2,n2,hd2⟩:=pl2.isList;simp only at hc hd hc2 hd2;subst hc hd hc2 hd2;have e:its.toArray++its2.toArray=(its++its2).toArray:=by simp
 refine concat_meets ⟨_,ho,rfl⟩ ⟨_,ho2,rfl⟩ noFill_list_add seq_list_add PySem.F.slot_list_add PySem.F.entry_list_add (PySem.F.args_list_add_2 _ _) (list_addW l b its.toArray its2.toArray n n2 dd dd2 sl sl2 (by rw[List.size_toArray,List.size_toArray];omega)) ⟨ho,ho2,?_⟩
 rw[e];exact⟨.ref _,_,I.lnew (t':=s.toks) (r.append r2) (by rw[List.length_append];omega),rfl,q _ I.fresh⟩
def bt3 (K:Frag):R2:=λ x y H Q=>rI0 (λ i j=>.int (i+j)) x y H Q\/((∃ i j,x=.str i/\y=.str j/\i.length+j.length<=sizeLine/\Q (.str (i++j)) H)\/aY6 K x y H Q)
theorem l_4:C_7 X .Add f_8:=⟨bt3 X.K,op_add.or (op_add_str.or K_2),λ c H0 H ρ σ x y d vx vy Q R r1 r2 e q=>by
 cases x with
 |int i =>
  cases y with
  |int j =>
   cases e;unfold Rep at r1 r2;exact .inl ⟨_,_,r1,r2,q _ H0 H (Same.refl _) R (c_8 H0 _)⟩
  |_=>cases e
 |str i =>
  cases y with
  |str j =>
   obtain⟨h,rfl⟩:=ifs (c:=i.length+j.length<=sizeLine) e;unfold Rep at r1 r2;exact .inr (.inl ⟨_,_,r1,r2,h,q _ H0 H (Same.refl _) R (by unfold Rep;rfl)⟩)
  |_=>cases e
 |lst ds =>
  cases y with
  |lst es =>
   obtain⟨h,rfl⟩:=ifs (c:=ds.length+es.length<=sizeLine) e;unfold Rep at r1 r2;obtain⟨p,vs,rfl,s,t⟩:=r1;obtain⟨p2,vs2,rfl,s2,t2⟩:=r2;refine .inr (.inr ⟨p,p2,vs,vs2,rfl,rfl,Same.seq R.same s,Same.seq R.same s2,by rw[<- t.length,<- t2.length];exact h,λ p' hp=>?_⟩)
   have S:=Step.alloc (o:=.lst (vs++vs2)) R.same hp;refine q _ _ _ S.s0 (R.after S) ?_;unfold Rep;exact⟨p',_,rfl,.inl (.inl a_3),Reps.mono S.s0 _ (t.app t2)⟩
  |_=>cases e
 |_=>cases y <;> cases e⟩
theorem aD8 {a:Expr}{F:FE}{pos:Pos} (ha:XE X a F):XE X (.UnaryOp .USub a pos) (e1 am4 F):=PE.wk (aZ9 ay6 ha) λ σ H Q hh0_=>by
 obtain⟨c,H0,ρ,d,ρ',R,f,q⟩:=hh0_;unfold e1 at f;obtain⟨⟨x,ρ1⟩,h1,f⟩:=a_0 f;obtain⟨d',h2,f⟩:=a_0 f;dsimp only at h2 f;have f':some (d',ρ1)=some (d,ρ'):=f;cases f';refine⟨c,H0,ρ,x,_,R,h1,λ v H1 Hh s1 R1 r1=>?_⟩
 cases x with
 |int i =>
  have e:D.int (-i)=d:=qi h2;subst e;unfold Rep at r1;exact⟨i,r1,q _ H1 Hh s1 R1 (c_8 _ _)⟩
 |_=>cases h2
theorem bn4 {p:Int->Int->Bool}:OpD K (rI0 λ i j=>.bl (p i j)) (bh7 p):=P_3 λ x y d e=>by
 obtain⟨i,j,rfl,rfl,e⟩:=x_7 e;cases e;exact⟨_,_,rfl,rfl,λ H=>n_2 H _⟩
theorem cLt:l_2 X .Lt dLt:=⟨_,bu2,bn4⟩
theorem cLe:l_2 X .LtE dLe:=⟨_,bu3,bn4⟩
theorem cGt:l_2 X .Gt dGt:=⟨_,bu4,bn4⟩
theorem cGe:l_2 X .GtE dGe:=⟨_,bu5,bn4⟩
theorem aB5 {H:Hp}{x:D}{v:V} (r:Rep K H x v):isN x=decide (v=.non):=by
 cases x with
 |non=>unfold Rep at r;subst r;rfl
 |bl b=>unfold Rep at r;subst r;rfl
 |int b=>unfold Rep at r;subst r;rfl
 |str b=>unfold Rep at r;subst r;rfl
 |tup ds=>unfold Rep at r;obtain⟨p,vs,rfl,_⟩:=r;rfl
 |dct ks vs=>unfold Rep at r;obtain⟨p,o,us,rfl,_⟩:=r;rfl
 |lst ds=>unfold Rep at r;obtain⟨p,vs,rfl,_⟩:=r;rfl
theorem cIs:l_2 X .Is dIs:=⟨_,bb0,λ c H0 H ρ σ x y d vx vy Q R r1 r2 e q=>by
 cases y with
 |non =>
  have e':D.bl (isN x)=d:=by cases x <;> exact qi e
  subst e';unfold Rep at r2;exact⟨r2,by rw[<- aB5 r1];exact q _ H0 H (Same.refl _) R (n_2 _ _)⟩
 |_=>cases x <;> cases e⟩
theorem ak1:l_2 X .IsNot l_8:=⟨_,aJ5,λ c H0 H ρ σ x y d vx vy Q R r1 r2 e q=>by
 cases y with
 |non =>
  have e':D.bl (!isN x)=d:=by cases x <;> exact qi e
  subst e';unfold Rep at r2;exact⟨r2,by rw[<- aB5 r1];exact q _ H0 H (Same.refl _) R (n_2 _ _)⟩
 |_=>cases x <;> cases e⟩
end
theorem n_1:∀ (ds es:List D),w_5 ds es=((List.range (min ds.length es.length)).all (λ j=>eqD (ds.getD j .non) (es.getD j .non))&&ds.length==es.length)
 |[],[]=>by simp[w_5]
 |[],e::es=>by simp[w_5]
 |d::ds,[]=>by simp[w_5]
 |d::ds,e::es=>by
  rw[w_5,n_1 ds es];have h:min (d::ds).length (e::es).length=min ds.length es.length+1:=by simp only[List.length_cons];omega
  rw[h,List.range_succ_eq_map,List.all_cons,List.all_map];have h2:((d::ds).length==(e::es).length)=(ds.length==es.length):=by simp
  rw[h2,Bool.and_assoc];rfl
theorem j_7:∀ {ds:List D}{n:Nat}{j:Nat}{d:D},w_6 ds<=n->ds[j]?=some d->dpD d<=n
 |[],_,_,_,_,e=>by simp at e
 |d::ds,n,0,_,h,e=>by
  rw[G_7] at h;simp at e;subst e;omega
 |d::ds,n,j+1,d',h,e=>by
  rw[G_7] at h;exact j_7 (ds:=ds) (n:=n) (j:=j) (by omega) (by simpa using e)
section
variable {X:Cx}{pins:List (Addr×Obj)}{σ:L2.St}{H:Hp}{s:Shared}
theorem ah3 {ds es:List D}{vs:List V} (hd:Reps X.K H ds vs) (he:Reps X.K H es vs) (h:∀ (j:Nat) (d e:D) (v:V),ds[j]?=some d->es[j]?=some e->Rep X.K H d v->Rep X.K H e v->eqD d e=true):w_5 ds es=true:=by
 rw[n_1];have l1:=hd.length;have l2:=he.length;rw[Bool.and_eq_true,List.all_eq_true];refine⟨λ j hj=>?_,by simp;omega⟩
 have hj':j<ds.length:=by have:=List.mem_range.mp hj;omega
 have hk':j<es.length:=by omega
 obtain⟨v,a1,a2⟩:=hd.get (i:=j) (d:=ds[j]) (by simp[hj'])
 obtain⟨v',b1,b2⟩:=he.get (i:=j) (d:=es[j]) (by simp[hk'])
 rw[a1] at b1;cases b1;have:=h j ds[j] es[j] v (by simp[hj']) (by simp[hk']) a2 b2
 simpa [List.getD,hj',hk'] using this
theorem bb9 (I:Inv X pins σ H s) {a:Addr}{xs ys:List V} (h:SqT X.K H a xs) (h':SqL X.K H a ys):False:=by
 obtain⟨_,_,⟨o,e,c,_⟩,_⟩:=I.tuple h;obtain⟨_,_,⟨o',n,e',c',_⟩,_⟩:=I.list h';rw[e] at e';cases e';have z:=c.symm.trans c';injection z with z
 exact absurd z (by decide)
theorem J_8 (I:Inv X pins σ H s):∀ (n:Nat) (d e:D) (v:V),dpD d<=n->dpD d<1000->dpD e<1000->Rep X.K H d v->Rep X.K H e v->eqD d e=true
 |n,d,e,v,hn,hz1,hz2,r1,r2=>by
  cases d with
  |dct ks0 vs0=>exact absurd hz1 (by rw[c_5];omega)
  |non =>
   unfold Rep at r1 r2;cases e with
   |dct ks0 vs0=>exact absurd hz2 (by rw[c_5];omega)
   |non=>rw[r1] at r2;first | (cases r2;simp[eqD]) | cases r2
   |bl b2=>rw[r1] at r2;first | (cases r2;simp[eqD]) | cases r2
   |int b2=>rw[r1] at r2;first | (cases r2;simp[eqD]) | cases r2
   |str b2=>rw[r1] at r2;first | (cases r2;simp[eqD]) | cases r2
   |tup es=>obtain⟨p,vs,z,_⟩:=r2;rw[r1] at z;cases z
   |lst es=>obtain⟨p,vs,z,_⟩:=r2;rw[r1] at z;cases z
  |bl b1 =>
   unfold Rep at r1 r2;cases e with
   |dct ks0 vs0=>exact absurd hz2 (by rw[c_5];omega)
   |non=>rw[r1] at r2;first | (cases r2;simp[eqD]) | cases r2
   |bl b2=>rw[r1] at r2;first | (cases r2;simp[eqD]) | cases r2
   |int b2=>rw[r1] at r2;first | (cases r2;simp[eqD]) | cases r2
   |str b2=>rw[r1] at r2;first | (cases r2;simp[eqD]) | cases r2
   |tup es=>obtain⟨p,vs,z,_⟩:=r2;rw[r1] at z;cases z
   |lst es=>obtain⟨p,vs,z,_⟩:=r2;rw[r1] at z;cases z
  |int b1 =>
   unfold Rep at r1 r2;cases e with
   |dct ks0 vs0=>exact absurd hz2 (by rw[c_5];omega)
   |non=>rw[r1] at r2;first | (cases r2;simp[eqD]) | cases r2
   |bl b2=>rw[r1] at r2;first | (cases r2;simp[eqD]) | cases r2
   |int b2=>rw[r1] at r2;first | (cases r2;simp[eqD]) | cases r2
   |str b2=>rw[r1] at r2;first | (cases r2;simp[eqD]) | cases r2
   |tup es=>obtain⟨p,vs,z,_⟩:=r2;rw[r1] at z;cases z
   |lst es=>obtain⟨p,vs,z,_⟩:=r2;rw[r1] at z;cases z
  |str b1 =>
   unfold Rep at r1 r2;cases e with
   |dct ks0 vs0=>exact absurd hz2 (by rw[c_5];omega)
   |non=>rw[r1] at r2;first | (cases r2;simp[eqD]) | cases r2
   |bl b2=>rw[r1] at r2;first | (cases r2;simp[eqD]) | cases r2
   |int b2=>rw[r1] at r2;first | (cases r2;simp[eqD]) | cases r2
   |str b2=>rw[r1] at r2;first | (cases r2;simp[eqD]) | cases r2
   |tup es=>obtain⟨p,vs,z,_⟩:=r2;rw[r1] at z;cases z
   |lst es=>obtain⟨p,vs,z,_⟩:=r2;rw[r1] at z;cases z
  |tup ds =>
   cases e with
   |dct ks0 vs0=>exact absurd hz2 (by rw[c_5];omega)
   |non=>unfold Rep at r1 r2;obtain⟨p,vs,z,_⟩:=r1;rw[r2] at z;cases z
   |bl b2=>unfold Rep at r1 r2;obtain⟨p,vs,z,_⟩:=r1;rw[r2] at z;cases z
   |int b2=>unfold Rep at r1 r2;obtain⟨p,vs,z,_⟩:=r1;rw[r2] at z;cases z
   |str b2=>unfold Rep at r1 r2;obtain⟨p,vs,z,_⟩:=r1;rw[r2] at z;cases z
   |tup es =>
    unfold Rep at r1 r2;obtain⟨p,vs,z,s1,q1⟩:=r1;obtain⟨p',vs',z',s2,q2⟩:=r2;rw[z] at z';cases z';have e:=I.tuple_inj s1 s2;subst e;cases n with
    |zero=>rw[f_6] at hn;omega
    |succ n =>
     rw[f_6] at hn;rw[eqD];exact ah3 q1 q2 λ j d e v h1 h2=>J_8 I n d e v (j_7 (by omega) h1) (by have z:=j_7 (n:=998) (by first | (rw[f_6] at hz1;omega) | (rw[f_7] at hz1;omega)) h1;omega) (by have z:=j_7 (n:=998) (by first | (rw[f_6] at hz2;omega) | (rw[f_7] at hz2;omega)) h2;omega)
   |lst es=>unfold Rep at r1 r2;obtain⟨p,vs,z,s1,_⟩:=r1;obtain⟨p',vs',z',s2,_⟩:=r2;rw[z] at z';cases z';exact (bb9 I s1 s2).elim
  |lst ds =>
   cases e with
   |dct ks0 vs0=>exact absurd hz2 (by rw[c_5];omega)
   |non=>unfold Rep at r1 r2;obtain⟨p,vs,z,_⟩:=r1;rw[r2] at z;cases z
   |bl b2=>unfold Rep at r1 r2;obtain⟨p,vs,z,_⟩:=r1;rw[r2] at z;cases z
   |int b2=>unfold Rep at r1 r2;obtain⟨p,vs,z,_⟩:=r1;rw[r2] at z;cases z
   |str b2=>unfold Rep at r1 r2;obtain⟨p,vs,z,_⟩:=r1;rw[r2] at z;cases z
   |tup es=>unfold Rep at r1 r2;obtain⟨p,vs,z,s1,_⟩:=r1;obtain⟨p',vs',z',s2,_⟩:=r2;rw[z] at z';cases z';exact (bb9 I s2 s1).elim
   |lst es =>
    unfold Rep at r1 r2;obtain⟨p,vs,z,s1,q1⟩:=r1;obtain⟨p',vs',z',s2,q2⟩:=r2;rw[z] at z';cases z';have e:=I.list_inj s1 s2;subst e;cases n with
    |zero=>rw[f_7] at hn;omega
    |succ n =>
     rw[f_7] at hn;rw[eqD];exact ah3 q1 q2 λ j d e v h1 h2=>J_8 I n d e v (j_7 (by omega) h1) (by have z:=j_7 (n:=998) (by first | (rw[f_6] at hz1;omega) | (rw[f_7] at hz1;omega)) h1;omega) (by have z:=j_7 (n:=998) (by first | (rw[f_6] at hz2;omega) | (rw[f_7] at hz2;omega)) h2;omega)
def RcN (X:Cx) (H:Hp) (s:Shared) (n:Nat):Prop:=∀ (A:Around) (d e:D) (x y:V) (u v:Value),dpD d<=n->dpD d<1000->dpD e<1000->A.units+n<cLine->Rep X.K H d x->RelV x u->Rep X.K H e y->RelV y v->SeqAt.RcAt A s u v (eqD d e)
def EqN (X:Cx) (H:Hp) (s:Shared) (n:Nat):Prop:=∀ (A:Around) (d e:D) (x y:V) (u v:Value),dpD d<=n->dpD d<1000->dpD e<1000->A.units+n<cLine->Rep X.K H d x->RelV x u->Rep X.K H e y->RelV y v->SeqAt.EqAt A s u v (eqD d e)
theorem bf9 (I:Inv X pins σ H s) {n:Nat} (rc:RcN X H s n):EqN X H s n:=by
 intro A d e x y u v hn hz1 hz2 hA r1 w1 r2 w2;have hu:A.units<cLine:=by omega
 have key:=rc A d e x y u v hn hz1 hz2 hA r1 w1 r2 w2;have one:x=y->eqD d e=true:=λ z=>J_8 I _ d e x (qj _) hz1 hz2 r1 (z▸r2)
 cases d with
 |dct ks0 vs0=>exact absurd hz1 (by rw[c_5];omega)
 |non =>
  unfold Rep at r1;subst r1;cases (show u=Value.none from w1);unfold Rep at r2;cases e with
  |dct ks0 vs0=>exact absurd hz2 (by rw[c_5];omega)
  |non=>subst r2;cases (show v=Value.none from w2);exact SeqAt.EqAt.same _
  |bl b2=>subst r2;cases (show v=Value.bool _ from w2);exact SeqAt.EqAt.none_bool _
  |int b2=>subst r2;obtain⟨t2,z2⟩:=w2;subst z2;exact SeqAt.EqAt.none_int _ _
  |str b2=>subst r2;obtain⟨t2,z2⟩:=w2;subst z2;exact SeqAt.EqAt.none_str _ _
  |tup es=>obtain⟨p2,vs2,y2,s2,q2⟩:=r2;subst y2;cases (show v=Value.ref _ from w2);obtain⟨its2,rv2,tp2,_⟩:=I.tuple s2;exact SeqAt.EqAt.none_tuple tp2 hu
  |lst es=>obtain⟨p2,vs2,y2,s2,q2⟩:=r2;subst y2;cases (show v=Value.ref _ from w2);obtain⟨its2,rv2,tp2,_⟩:=I.list s2;have tp2:=tp2.isList;exact SeqAt.EqAt.none_list tp2 hu
 |bl b1 =>
  unfold Rep at r1;subst r1;cases (show u=Value.bool _ from w1);unfold Rep at r2;cases e with
  |dct ks0 vs0=>exact absurd hz2 (by rw[c_5];omega)
  |non=>subst r2;cases (show v=Value.none from w2);exact SeqAt.EqAt.bool_none _
  |bl b2=>subst r2;cases (show v=Value.bool _ from w2);exact SeqAt.EqAt.bool_bool _ _
  |int b2=>subst r2;obtain⟨t2,z2⟩:=w2;subst z2;exact SeqAt.EqAt.bool_int _ _ _
  |str b2=>subst r2;obtain⟨t2,z2⟩:=w2;subst z2;exact SeqAt.EqAt.bool_str _ _ _
  |tup es=>obtain⟨p2,vs2,y2,s2,q2⟩:=r2;subst y2;cases (show v=Value.ref _ from w2);obtain⟨its2,rv2,tp2,_⟩:=I.tuple s2;exact SeqAt.EqAt.bool_tuple _ tp2 hu
  |lst es=>obtain⟨p2,vs2,y2,s2,q2⟩:=r2;subst y2;cases (show v=Value.ref _ from w2);obtain⟨its2,rv2,tp2,_⟩:=I.list s2;have tp2:=tp2.isList;exact SeqAt.EqAt.bool_list _ tp2 hu
 |int b1 =>
  unfold Rep at r1;subst r1;obtain⟨t1,z1⟩:=w1;subst z1;unfold Rep at r2;cases e with
  |dct ks0 vs0=>exact absurd hz2 (by rw[c_5];omega)
  |non=>subst r2;cases (show v=Value.none from w2);exact SeqAt.EqAt.int_none _ _
  |bl b2=>subst r2;cases (show v=Value.bool _ from w2);exact SeqAt.EqAt.int_bool _ _ _
  |int b2=>subst r2;obtain⟨t2,z2⟩:=w2;subst z2;exact SeqAt.EqAt.int_int _ _ _ _
  |str b2=>subst r2;obtain⟨t2,z2⟩:=w2;subst z2;exact SeqAt.EqAt.int_str _ _ _ _
  |tup es=>obtain⟨p2,vs2,y2,s2,q2⟩:=r2;subst y2;cases (show v=Value.ref _ from w2);obtain⟨its2,rv2,tp2,_⟩:=I.tuple s2;exact SeqAt.EqAt.int_tuple _ _ tp2 hu
  |lst es=>obtain⟨p2,vs2,y2,s2,q2⟩:=r2;subst y2;cases (show v=Value.ref _ from w2);obtain⟨its2,rv2,tp2,_⟩:=I.list s2;have tp2:=tp2.isList;exact SeqAt.EqAt.int_list _ _ tp2 hu
 |str b1 =>
  unfold Rep at r1;subst r1;obtain⟨t1,z1⟩:=w1;subst z1;unfold Rep at r2;cases e with
  |dct ks0 vs0=>exact absurd hz2 (by rw[c_5];omega)
  |non=>subst r2;cases (show v=Value.none from w2);exact SeqAt.EqAt.str_none _ _
  |bl b2=>subst r2;cases (show v=Value.bool _ from w2);exact SeqAt.EqAt.str_bool _ _ _
  |int b2=>subst r2;obtain⟨t2,z2⟩:=w2;subst z2;exact SeqAt.EqAt.str_int _ _ _ _
  |str b2=>subst r2;obtain⟨t2,z2⟩:=w2;subst z2;exact SeqAt.EqAt.str_str _ _ _ _
  |tup es=>obtain⟨p2,vs2,y2,s2,q2⟩:=r2;subst y2;cases (show v=Value.ref _ from w2);obtain⟨its2,rv2,tp2,_⟩:=I.tuple s2;exact SeqAt.EqAt.str_tuple _ _ tp2 hu
  |lst es=>obtain⟨p2,vs2,y2,s2,q2⟩:=r2;subst y2;cases (show v=Value.ref _ from w2);obtain⟨its2,rv2,tp2,_⟩:=I.list s2;have tp2:=tp2.isList;exact SeqAt.EqAt.str_list _ _ tp2 hu
 |tup ds =>
  cases e with
  |dct ks0 vs0=>exact absurd hz2 (by rw[c_5];omega)
  |non=>unfold Rep at r1;obtain⟨p1,vs1,y1,s1,q1⟩:=r1;subst y1;cases (show u=Value.ref _ from w1);obtain⟨its1,rv1,tp1,_⟩:=I.tuple s1;unfold Rep at r2;subst r2;cases (show v=Value.none from w2);exact SeqAt.EqAt.tuple_none tp1 hu
  |bl b2=>unfold Rep at r1;obtain⟨p1,vs1,y1,s1,q1⟩:=r1;subst y1;cases (show u=Value.ref _ from w1);obtain⟨its1,rv1,tp1,_⟩:=I.tuple s1;unfold Rep at r2;subst r2;cases (show v=Value.bool _ from w2);exact SeqAt.EqAt.tuple_bool _ tp1 hu
  |int b2=>unfold Rep at r1;obtain⟨p1,vs1,y1,s1,q1⟩:=r1;subst y1;cases (show u=Value.ref _ from w1);obtain⟨its1,rv1,tp1,_⟩:=I.tuple s1;unfold Rep at r2;subst r2;obtain⟨t2,z2⟩:=w2;subst z2;exact SeqAt.EqAt.tuple_int _ _ tp1 hu
  |str b2=>unfold Rep at r1;obtain⟨p1,vs1,y1,s1,q1⟩:=r1;subst y1;cases (show u=Value.ref _ from w1);obtain⟨its1,rv1,tp1,_⟩:=I.tuple s1;unfold Rep at r2;subst r2;obtain⟨t2,z2⟩:=w2;subst z2;exact SeqAt.EqAt.tuple_str _ _ tp1 hu
  |tup es =>
   unfold Rep at r1 r2;obtain⟨p1,vs1,y1,_⟩:=r1;obtain⟨p2,vs2,y2,_⟩:=r2;subst y1 y2;cases (show u=Value.ref _ from w1);cases (show v=Value.ref _ from w2)
   by_cases h:p1=p2
   ·rw[one (by rw[h]),h];exact SeqAt.EqAt.same _
   ·exact SeqAt.EqAt.of_refs h key
  |lst es=>unfold Rep at r1;obtain⟨p1,vs1,y1,s1,q1⟩:=r1;subst y1;cases (show u=Value.ref _ from w1);obtain⟨its1,rv1,tp1,_⟩:=I.tuple s1;unfold Rep at r2;obtain⟨p2,vs2,y2,s2,q2⟩:=r2;subst y2;cases (show v=Value.ref _ from w2);obtain⟨its2,rv2,tp2,_⟩:=I.list s2;have tp2:=tp2.isList;exact SeqAt.EqAt.tuple_list tp1 tp2 hu
 |lst ds =>
  cases e with
  |dct ks0 vs0=>exact absurd hz2 (by rw[c_5];omega)
  |non=>unfold Rep at r1;obtain⟨p1,vs1,y1,s1,q1⟩:=r1;subst y1;cases (show u=Value.ref _ from w1);obtain⟨its1,rv1,tp1,_⟩:=I.list s1;have tp1:=tp1.isList;unfold Rep at r2;subst r2;cases (show v=Value.none from w2);exact SeqAt.EqAt.list_none tp1 hu
  |bl b2=>unfold Rep at r1;obtain⟨p1,vs1,y1,s1,q1⟩:=r1;subst y1;cases (show u=Value.ref _ from w1);obtain⟨its1,rv1,tp1,_⟩:=I.list s1;have tp1:=tp1.isList;unfold Rep at r2;subst r2;cases (show v=Value.bool _ from w2);exact SeqAt.EqAt.list_bool _ tp1 hu
  |int b2=>unfold Rep at r1;obtain⟨p1,vs1,y1,s1,q1⟩:=r1;subst y1;cases (show u=Value.ref _ from w1);obtain⟨its1,rv1,tp1,_⟩:=I.list s1;have tp1:=tp1.isList;unfold Rep at r2;subst r2;obtain⟨t2,z2⟩:=w2;subst z2;exact SeqAt.EqAt.list_int _ _ tp1 hu
  |str b2=>unfold Rep at r1;obtain⟨p1,vs1,y1,s1,q1⟩:=r1;subst y1;cases (show u=Value.ref _ from w1);obtain⟨its1,rv1,tp1,_⟩:=I.list s1;have tp1:=tp1.isList;unfold Rep at r2;subst r2;obtain⟨t2,z2⟩:=w2;subst z2;exact SeqAt.EqAt.list_str _ _ tp1 hu
  |tup es=>unfold Rep at r1;obtain⟨p1,vs1,y1,s1,q1⟩:=r1;subst y1;cases (show u=Value.ref _ from w1);obtain⟨its1,rv1,tp1,_⟩:=I.list s1;have tp1:=tp1.isList;unfold Rep at r2;obtain⟨p2,vs2,y2,s2,q2⟩:=r2;subst y2;cases (show v=Value.ref _ from w2);obtain⟨its2,rv2,tp2,_⟩:=I.tuple s2;exact SeqAt.EqAt.list_tuple tp1 tp2 hu
  |lst es =>
   unfold Rep at r1 r2;obtain⟨p1,vs1,y1,_⟩:=r1;obtain⟨p2,vs2,y2,_⟩:=r2;subst y1 y2;cases (show u=Value.ref _ from w1);cases (show v=Value.ref _ from w2)
   by_cases h:p1=p2
   ·rw[one (by rw[h]),h];exact SeqAt.EqAt.same _
   ·exact SeqAt.EqAt.of_refs h key
theorem ak7 {its:List Value}{j:Nat} (h:j<its.toArray.size):its[j]?=some its.toArray[j]:=by
 have h':j<its.length:=by simpa using h
 simp[h']
theorem B_3 {A:Around}{n:Nat} (eqn:EqN X H s n) {ds es:List D}{vs vs':List V}{its its':List Value} (hn:w_6 ds<=n) (hz1:w_6 ds<1000) (hz2:w_6 es<1000) (hA:A.in1.units+n<cLine) (q1:Reps X.K H ds vs) (q2:Reps X.K H es vs') (rv:Vals vs its) (rv':Vals vs' its')
  (j:Nat) (h1:j<its.toArray.size) (h2:j<its'.toArray.size):SeqAt.EqAt A.in1 s its.toArray[j] its'.toArray[j] (eqD (ds.getD j .non) (es.getD j .non)):=by
 have l1:=q1.length;have l2:=q2.length;have m1:=rv.length;have m2:=rv'.length;have k1:j<ds.length:=by rw[List.size_toArray] at h1;omega
 have k2:j<es.length:=by rw[List.size_toArray] at h2;omega
 have e1:ds[j]?=some ds[j]:=by simp[k1]
 have e2:es[j]?=some es[j]:=by simp[k2]
 obtain⟨v,a1,a2⟩:=q1.get e1;obtain⟨v',b1,b2⟩:=q2.get e2;obtain⟨u,c1,c2⟩:=rv.get a1;obtain⟨u',d1,d2⟩:=rv'.get b1;rw[ak7 h1] at c1;rw[ak7 h2] at d1;have g1:ds.getD j .non=ds[j]:=by simp[List.getD,k1]
 have g2:es.getD j .non=es[j]:=by simp[List.getD,k2]
 rw[g1,g2,Option.some.inj c1,Option.some.inj d1];exact eqn A.in1 ds[j] es[j] v v' u u' (j_7 hn e1) (by have z:=j_7 (n:=999) (by omega) e1;omega) (by have z:=j_7 (n:=999) (by omega) e2;omega) hA a2 c2 b2 d2
theorem rcS (I:Inv X pins σ H s) (n:Nat) (ih:∀ m,m<n->EqN X H s m):RcN X H s n:=by
  intro A d e x y u v hn hz1 hz2 hA r1 w1 r2 w2;have hu:A.units<cLine:=by omega
  cases d with
  |dct ks0 vs0=>exact absurd hz1 (by rw[c_5];omega)
  |non =>
   unfold Rep at r1;subst r1;cases (show u=Value.none from w1);unfold Rep at r2;cases e with
   |dct ks0 vs0=>exact absurd hz2 (by rw[c_5];omega)
   |non=>subst r2;cases (show v=Value.none from w2);exact SeqAt.RcAt.none_none
   |bl b2=>subst r2;cases (show v=Value.bool _ from w2);exact SeqAt.RcAt.none_bool _
   |int b2=>subst r2;obtain⟨t2,z2⟩:=w2;subst z2;exact SeqAt.RcAt.none_int _ _
   |str b2=>subst r2;obtain⟨t2,z2⟩:=w2;subst z2;exact SeqAt.RcAt.none_str _ _
   |tup es=>obtain⟨p2,vs2,y2,s2,q2⟩:=r2;subst y2;cases (show v=Value.ref _ from w2);obtain⟨its2,rv2,tp2,_⟩:=I.tuple s2;exact SeqAt.RcAt.none_tuple tp2 hu
   |lst es=>obtain⟨p2,vs2,y2,s2,q2⟩:=r2;subst y2;cases (show v=Value.ref _ from w2);obtain⟨its2,rv2,tp2,_⟩:=I.list s2;have tp2:=tp2.isList;exact SeqAt.RcAt.none_list tp2 hu
  |bl b1 =>
   unfold Rep at r1;subst r1;cases (show u=Value.bool _ from w1);unfold Rep at r2;cases e with
   |dct ks0 vs0=>exact absurd hz2 (by rw[c_5];omega)
   |non=>subst r2;cases (show v=Value.none from w2);exact SeqAt.RcAt.bool_none _
   |bl b2=>subst r2;cases (show v=Value.bool _ from w2);exact SeqAt.RcAt.bool_bool _ _
   |int b2=>subst r2;obtain⟨t2,z2⟩:=w2;subst z2;exact SeqAt.RcAt.bool_int _ _ _
   |str b2=>subst r2;obtain⟨t2,z2⟩:=w2;subst z2;exact SeqAt.RcAt.bool_str _ _ _
   |tup es=>obtain⟨p2,vs2,y2,s2,q2⟩:=r2;subst y2;cases (show v=Value.ref _ from w2);obtain⟨its2,rv2,tp2,_⟩:=I.tuple s2;exact SeqAt.RcAt.bool_tuple _ tp2 hu
   |lst es=>obtain⟨p2,vs2,y2,s2,q2⟩:=r2;subst y2;cases (show v=Value.ref _ from w2);obtain⟨its2,rv2,tp2,_⟩:=I.list s2;have tp2:=tp2.isList;exact SeqAt.RcAt.bool_list _ tp2 hu
  |int b1 =>
   unfold Rep at r1;subst r1;obtain⟨t1,z1⟩:=w1;subst z1;unfold Rep at r2;cases e with
   |dct ks0 vs0=>exact absurd hz2 (by rw[c_5];omega)
   |non=>subst r2;cases (show v=Value.none from w2);exact SeqAt.RcAt.int_none _ _
   |bl b2=>subst r2;cases (show v=Value.bool _ from w2);exact SeqAt.RcAt.int_bool _ _ _
   |int b2=>subst r2;obtain⟨t2,z2⟩:=w2;subst z2;exact SeqAt.RcAt.int_int _ _ _ _
   |str b2=>subst r2;obtain⟨t2,z2⟩:=w2;subst z2;exact SeqAt.RcAt.int_str _ _ _ _
   |tup es=>obtain⟨p2,vs2,y2,s2,q2⟩:=r2;subst y2;cases (show v=Value.ref _ from w2);obtain⟨its2,rv2,tp2,_⟩:=I.tuple s2;exact SeqAt.RcAt.int_tuple _ _ tp2 hu
   |lst es=>obtain⟨p2,vs2,y2,s2,q2⟩:=r2;subst y2;cases (show v=Value.ref _ from w2);obtain⟨its2,rv2,tp2,_⟩:=I.list s2;have tp2:=tp2.isList;exact SeqAt.RcAt.int_list _ _ tp2 hu
  |str b1 =>
   unfold Rep at r1;subst r1;obtain⟨t1,z1⟩:=w1;subst z1;unfold Rep at r2;cases e with
   |dct ks0 vs0=>exact absurd hz2 (by rw[c_5];omega)
   |non=>subst r2;cases (show v=Value.none from w2);exact SeqAt.RcAt.str_none _ _
   |bl b2=>subst r2;cases (show v=Value.bool _ from w2);exact SeqAt.RcAt.str_bool _ _ _
   |int b2=>subst r2;obtain⟨t2,z2⟩:=w2;subst z2;exact SeqAt.RcAt.str_int _ _ _ _
   |str b2=>subst r2;obtain⟨t2,z2⟩:=w2;subst z2;exact SeqAt.RcAt.str_str _ _ _ _
   |tup es=>obtain⟨p2,vs2,y2,s2,q2⟩:=r2;subst y2;cases (show v=Value.ref _ from w2);obtain⟨its2,rv2,tp2,_⟩:=I.tuple s2;exact SeqAt.RcAt.str_tuple _ _ tp2 hu
   |lst es=>obtain⟨p2,vs2,y2,s2,q2⟩:=r2;subst y2;cases (show v=Value.ref _ from w2);obtain⟨its2,rv2,tp2,_⟩:=I.list s2;have tp2:=tp2.isList;exact SeqAt.RcAt.str_list _ _ tp2 hu
  |tup ds =>
   cases e with
   |dct ks0 vs0=>exact absurd hz2 (by rw[c_5];omega)
   |non=>unfold Rep at r1;obtain⟨p1,vs1,y1,s1,q1⟩:=r1;subst y1;cases (show u=Value.ref _ from w1);obtain⟨its1,rv1,tp1,_⟩:=I.tuple s1;unfold Rep at r2;subst r2;cases (show v=Value.none from w2);exact SeqAt.RcAt.tuple_none tp1 hu
   |bl b2=>unfold Rep at r1;obtain⟨p1,vs1,y1,s1,q1⟩:=r1;subst y1;cases (show u=Value.ref _ from w1);obtain⟨its1,rv1,tp1,_⟩:=I.tuple s1;unfold Rep at r2;subst r2;cases (show v=Value.bool _ from w2);exact SeqAt.RcAt.tuple_bool _ tp1 hu
   |int b2=>unfold Rep at r1;obtain⟨p1,vs1,y1,s1,q1⟩:=r1;subst y1;cases (show u=Value.ref _ from w1);obtain⟨its1,rv1,tp1,_⟩:=I.tuple s1;unfold Rep at r2;subst r2;obtain⟨t2,z2⟩:=w2;subst z2;exact SeqAt.RcAt.tuple_int _ _ tp1 hu
   |str b2=>unfold Rep at r1;obtain⟨p1,vs1,y1,s1,q1⟩:=r1;subst y1;cases (show u=Value.ref _ from w1);obtain⟨its1,rv1,tp1,_⟩:=I.tuple s1;unfold Rep at r2;subst r2;obtain⟨t2,z2⟩:=w2;subst z2;exact SeqAt.RcAt.tuple_str _ _ tp1 hu
   |tup es =>
     rw[f_6] at hn;unfold Rep at r1;obtain⟨p1,vs1,y1,s1,q1⟩:=r1;subst y1;cases (show u=Value.ref _ from w1);obtain⟨its1,rv1,tp1,_⟩:=I.tuple s1;unfold Rep at r2;obtain⟨p2,vs2,y2,s2,q2⟩:=r2;subst y2;cases (show v=Value.ref _ from w2);obtain⟨its2,rv2,tp2,_⟩:=I.tuple s2;have hi:A.in1.units+(n-1)<cLine:=by show A.units+1+(n-1)<cLine;omega
     have z:=SeqAt.RcAt.tuples (e:=λ j=>eqD (ds.getD j .non) (es.getD j .non)) tp1 tp2 hu (B_3 (A:=A) (ih (n-1) (by omega)) (by omega) (by first | (rw[f_6] at hz1;omega) | (rw[f_7] at hz1;omega)) (by first | (rw[f_6] at hz2;omega) | (rw[f_7] at hz2;omega)) hi q1 q2 rv1 rv2)
     rw[List.size_toArray,List.size_toArray,<- rv1.length,<- rv2.length,<- q1.length,<- q2.length] at z;rw[eqD,n_1];exact z
   |lst es=>unfold Rep at r1;obtain⟨p1,vs1,y1,s1,q1⟩:=r1;subst y1;cases (show u=Value.ref _ from w1);obtain⟨its1,rv1,tp1,_⟩:=I.tuple s1;unfold Rep at r2;obtain⟨p2,vs2,y2,s2,q2⟩:=r2;subst y2;cases (show v=Value.ref _ from w2);obtain⟨its2,rv2,tp2,_⟩:=I.list s2;have tp2:=tp2.isList;exact SeqAt.RcAt.tuple_list tp1 tp2 hu
  |lst ds =>
   cases e with
   |dct ks0 vs0=>exact absurd hz2 (by rw[c_5];omega)
   |non=>unfold Rep at r1;obtain⟨p1,vs1,y1,s1,q1⟩:=r1;subst y1;cases (show u=Value.ref _ from w1);obtain⟨its1,rv1,tp1,_⟩:=I.list s1;have tp1:=tp1.isList;unfold Rep at r2;subst r2;cases (show v=Value.none from w2);exact SeqAt.RcAt.list_none tp1 hu
   |bl b2=>unfold Rep at r1;obtain⟨p1,vs1,y1,s1,q1⟩:=r1;subst y1;cases (show u=Value.ref _ from w1);obtain⟨its1,rv1,tp1,_⟩:=I.list s1;have tp1:=tp1.isList;unfold Rep at r2;subst r2;cases (show v=Value.bool _ from w2);exact SeqAt.RcAt.list_bool _ tp1 hu
   |int b2=>unfold Rep at r1;obtain⟨p1,vs1,y1,s1,q1⟩:=r1;subst y1;cases (show u=Value.ref _ from w1);obtain⟨its1,rv1,tp1,_⟩:=I.list s1;have tp1:=tp1.isList;unfold Rep at r2;subst r2;obtain⟨t2,z2⟩:=w2;subst z2;exact SeqAt.RcAt.list_int _ _ tp1 hu
   |str b2=>unfold Rep at r1;obtain⟨p1,vs1,y1,s1,q1⟩:=r1;subst y1;cases (show u=Value.ref _ from w1);obtain⟨its1,rv1,tp1,_⟩:=I.list s1;have tp1:=tp1.isList;unfold Rep at r2;subst r2;obtain⟨t2,z2⟩:=w2;subst z2;exact SeqAt.RcAt.list_str _ _ tp1 hu
   |tup es=>unfold Rep at r1;obtain⟨p1,vs1,y1,s1,q1⟩:=r1;subst y1;cases (show u=Value.ref _ from w1);obtain⟨its1,rv1,tp1,_⟩:=I.list s1;have tp1:=tp1.isList;unfold Rep at r2;obtain⟨p2,vs2,y2,s2,q2⟩:=r2;subst y2;cases (show v=Value.ref _ from w2);obtain⟨its2,rv2,tp2,_⟩:=I.tuple s2;exact SeqAt.RcAt.list_tuple tp1 tp2 hu
   |lst es =>
     rw[f_7] at hn;unfold Rep at r1;obtain⟨p1,vs1,y1,s1,q1⟩:=r1;subst y1;cases (show u=Value.ref _ from w1);obtain⟨its1,rv1,tp1,_⟩:=I.list s1;have tp1:=tp1.isList;unfold Rep at r2;obtain⟨p2,vs2,y2,s2,q2⟩:=r2;subst y2;cases (show v=Value.ref _ from w2);obtain⟨its2,rv2,tp2,_⟩:=I.list s2;have tp2:=tp2.isList;have hi:A.in1.units+(n-1)<cLine:=by show A.units+1+(n-1)<cLine;omega
     have l1:its1.toArray.size=ds.length:=by rw[List.size_toArray,<- rv1.length,<- q1.length]
     have l2:its2.toArray.size=es.length:=by rw[List.size_toArray,<- rv2.length,<- q2.length]
     rw[eqD,n_1]
     by_cases hl:ds.length=es.length
     ·have z:=SeqAt.RcAt.lists (e:=λ j=>eqD (ds.getD j .non) (es.getD j .non)) tp1 tp2 (by rw[l1,l2];exact hl) hu (B_3 (A:=A) (ih (n-1) (by omega)) (by omega) (by first | (rw[f_6] at hz1;omega) | (rw[f_7] at hz1;omega)) (by first | (rw[f_6] at hz2;omega) | (rw[f_7] at hz2;omega)) hi q1 q2 rv1 rv2)
      rw[l1] at z;rw[show min ds.length es.length=ds.length by omega,show (ds.length==es.length)=true by simp[hl],Bool.and_true]
      exact z
     ·rw[show (ds.length==es.length)=false by simp[hl],Bool.and_false]
      exact SeqAt.RcAt.lists_lengths tp1 tp2 (by rw[l1,l2];simp[hl]) hu
theorem ah2 (I:Inv X pins σ H s) (n:Nat):EqN X H s n:=by
 induction n using Nat.strongRecOn with
 |ind n ih=>exact bf9 I (rcS I n ih)
theorem rcN (I:Inv X pins σ H s) (n:Nat):RcN X H s n:=rcS I n λ m _=>ah2 I m
def bF0 (K:Frag):R2:=λ x y H Q=>∃ d e,Rep K H d x/\Rep K H e y/\dpD d<=30/\dpD e<=30/\Q (.bl (eqD d e)) H
theorem bb1 (hu:X.A.units+64<cLine):OpR X (compareOp .Eq) (bF0 X.K):=by
 intro pins s σ H x y v u Q I rx ry h;obtain⟨d,e,r1,r2,hd,hd2,q⟩:=h;exact rcN I 30 X.A d e x y v u hd (by omega) (by omega) (by omega) r1 rx r2 ry X.prog X.w X.xe _ ⟨.bl _,H,I,rfl,q⟩
theorem by2 {K:Frag}:OpD K (bF0 K) dEq:=λ c H0 H ρ σ x y d vx vy Q R r1 r2 e q=>by
 unfold dEq at e
 split at e
 ·rename_i hd
  cases e;exact⟨x,y,Rep.mono R.same x r1,Rep.mono R.same y r2,hd.1,hd.2,q _ H0 H (Same.refl _) R (n_2 _ _)⟩
 ·cases e
theorem cEq (hu:X.A.units+64<cLine):l_2 X .Eq dEq:=⟨_,bb1 hu,by2⟩
theorem neN (I:Inv X pins σ H s) (n:Nat) (A:Around) (d e:D) (x y:V) (u v:Value) (hn:dpD d<=n) (hz1:dpD d<1000) (hz2:dpD e<1000) (hA:A.units+n<cLine) (r1:Rep X.K H d x) (w1:RelV x u) (r2:Rep X.K H e y) (w2:RelV y v):SeqAt.RcNeAt A s u v (!eqD d e):=by
  have hu:A.units<cLine:=by omega
  cases d with
  |dct ks0 vs0=>exact absurd hz1 (by rw[c_5];omega)
  |non =>
   unfold Rep at r1;subst r1;cases (show u=Value.none from w1);unfold Rep at r2;cases e with
   |dct ks0 vs0=>exact absurd hz2 (by rw[c_5];omega)
   |non=>subst r2;cases (show v=Value.none from w2);exact SeqAt.RcNeAt.none_none
   |bl b2=>subst r2;cases (show v=Value.bool _ from w2);exact SeqAt.RcNeAt.none_bool _
   |int b2=>subst r2;obtain⟨t2,z2⟩:=w2;subst z2;exact SeqAt.RcNeAt.none_int _ _
   |str b2=>subst r2;obtain⟨t2,z2⟩:=w2;subst z2;exact SeqAt.RcNeAt.none_str _ _
   |tup es=>obtain⟨p2,vs2,y2,s2,q2⟩:=r2;subst y2;cases (show v=Value.ref _ from w2);obtain⟨its2,rv2,tp2,_⟩:=I.tuple s2;exact SeqAt.RcNeAt.none_tuple tp2 hu
   |lst es=>obtain⟨p2,vs2,y2,s2,q2⟩:=r2;subst y2;cases (show v=Value.ref _ from w2);obtain⟨its2,rv2,tp2,_⟩:=I.list s2;have tp2:=tp2.isList;exact SeqAt.RcNeAt.none_list tp2 hu
  |bl b1 =>
   unfold Rep at r1;subst r1;cases (show u=Value.bool _ from w1);unfold Rep at r2;cases e with
   |dct ks0 vs0=>exact absurd hz2 (by rw[c_5];omega)
   |non=>subst r2;cases (show v=Value.none from w2);exact SeqAt.RcNeAt.bool_none _
   |bl b2=>subst r2;cases (show v=Value.bool _ from w2);exact SeqAt.RcNeAt.bool_bool _ _
   |int b2=>subst r2;obtain⟨t2,z2⟩:=w2;subst z2;exact SeqAt.RcNeAt.bool_int _ _ _
   |str b2=>subst r2;obtain⟨t2,z2⟩:=w2;subst z2;exact SeqAt.RcNeAt.bool_str _ _ _
   |tup es=>obtain⟨p2,vs2,y2,s2,q2⟩:=r2;subst y2;cases (show v=Value.ref _ from w2);obtain⟨its2,rv2,tp2,_⟩:=I.tuple s2;exact SeqAt.RcNeAt.bool_tuple _ tp2 hu
   |lst es=>obtain⟨p2,vs2,y2,s2,q2⟩:=r2;subst y2;cases (show v=Value.ref _ from w2);obtain⟨its2,rv2,tp2,_⟩:=I.list s2;have tp2:=tp2.isList;exact SeqAt.RcNeAt.bool_list _ tp2 hu
  |int b1 =>
   unfold Rep at r1;subst r1;obtain⟨t1,z1⟩:=w1;subst z1;unfold Rep at r2;cases e with
   |dct ks0 vs0=>exact absurd hz2 (by rw[c_5];omega)
   |non=>subst r2;cases (show v=Value.none from w2);exact SeqAt.RcNeAt.int_none _ _
   |bl b2=>subst r2;cases (show v=Value.bool _ from w2);exact SeqAt.RcNeAt.int_bool _ _ _
   |int b2=>subst r2;obtain⟨t2,z2⟩:=w2;subst z2;exact SeqAt.RcNeAt.int_int _ _ _ _
   |str b2=>subst r2;obtain⟨t2,z2⟩:=w2;subst z2;exact SeqAt.RcNeAt.int_str _ _ _ _
   |tup es=>obtain⟨p2,vs2,y2,s2,q2⟩:=r2;subst y2;cases (show v=Value.ref _ from w2);obtain⟨its2,rv2,tp2,_⟩:=I.tuple s2;exact SeqAt.RcNeAt.int_tuple _ _ tp2 hu
   |lst es=>obtain⟨p2,vs2,y2,s2,q2⟩:=r2;subst y2;cases (show v=Value.ref _ from w2);obtain⟨its2,rv2,tp2,_⟩:=I.list s2;have tp2:=tp2.isList;exact SeqAt.RcNeAt.int_list _ _ tp2 hu
  |str b1 =>
   unfold Rep at r1;subst r1;obtain⟨t1,z1⟩:=w1;subst z1;unfold Rep at r2;cases e with
   |dct ks0 vs0=>exact absurd hz2 (by rw[c_5];omega)
   |non=>subst r2;cases (show v=Value.none from w2);exact SeqAt.RcNeAt.str_none _ _
   |bl b2=>subst r2;cases (show v=Value.bool _ from w2);exact SeqAt.RcNeAt.str_bool _ _ _
   |int b2=>subst r2;obtain⟨t2,z2⟩:=w2;subst z2;exact SeqAt.RcNeAt.str_int _ _ _ _
   |str b2=>subst r2;obtain⟨t2,z2⟩:=w2;subst z2;exact SeqAt.RcNeAt.str_str _ _ _ _
   |tup es=>obtain⟨p2,vs2,y2,s2,q2⟩:=r2;subst y2;cases (show v=Value.ref _ from w2);obtain⟨its2,rv2,tp2,_⟩:=I.tuple s2;exact SeqAt.RcNeAt.str_tuple _ _ tp2 hu
   |lst es=>obtain⟨p2,vs2,y2,s2,q2⟩:=r2;subst y2;cases (show v=Value.ref _ from w2);obtain⟨its2,rv2,tp2,_⟩:=I.list s2;have tp2:=tp2.isList;exact SeqAt.RcNeAt.str_list _ _ tp2 hu
  |tup ds =>
   cases e with
   |dct ks0 vs0=>exact absurd hz2 (by rw[c_5];omega)
   |non=>unfold Rep at r1;obtain⟨p1,vs1,y1,s1,q1⟩:=r1;subst y1;cases (show u=Value.ref _ from w1);obtain⟨its1,rv1,tp1,_⟩:=I.tuple s1;unfold Rep at r2;subst r2;cases (show v=Value.none from w2);exact SeqAt.RcNeAt.tuple_none tp1 hu
   |bl b2=>unfold Rep at r1;obtain⟨p1,vs1,y1,s1,q1⟩:=r1;subst y1;cases (show u=Value.ref _ from w1);obtain⟨its1,rv1,tp1,_⟩:=I.tuple s1;unfold Rep at r2;subst r2;cases (show v=Value.bool _ from w2);exact SeqAt.RcNeAt.tuple_bool _ tp1 hu
   |int b2=>unfold Rep at r1;obtain⟨p1,vs1,y1,s1,q1⟩:=r1;subst y1;cases (show u=Value.ref _ from w1);obtain⟨its1,rv1,tp1,_⟩:=I.tuple s1;unfold Rep at r2;subst r2;obtain⟨t2,z2⟩:=w2;subst z2;exact SeqAt.RcNeAt.tuple_int _ _ tp1 hu
   |str b2=>unfold Rep at r1;obtain⟨p1,vs1,y1,s1,q1⟩:=r1;subst y1;cases (show u=Value.ref _ from w1);obtain⟨its1,rv1,tp1,_⟩:=I.tuple s1;unfold Rep at r2;subst r2;obtain⟨t2,z2⟩:=w2;subst z2;exact SeqAt.RcNeAt.tuple_str _ _ tp1 hu
   |tup es =>
     rw[f_6] at hn;unfold Rep at r1;obtain⟨p1,vs1,y1,s1,q1⟩:=r1;subst y1;cases (show u=Value.ref _ from w1);obtain⟨its1,rv1,tp1,_⟩:=I.tuple s1;unfold Rep at r2;obtain⟨p2,vs2,y2,s2,q2⟩:=r2;subst y2;cases (show v=Value.ref _ from w2);obtain⟨its2,rv2,tp2,_⟩:=I.tuple s2;have hi:A.in1.units+(n-1)<cLine:=by show A.units+1+(n-1)<cLine;omega
     have z:=SeqAt.RcNeAt.tuples (e:=λ j=>eqD (ds.getD j .non) (es.getD j .non)) tp1 tp2 hu (B_3 (A:=A) (ah2 I (n-1)) (by omega) (by first | (rw[f_6] at hz1;omega) | (rw[f_7] at hz1;omega)) (by first | (rw[f_6] at hz2;omega) | (rw[f_7] at hz2;omega)) hi q1 q2 rv1 rv2)
     rw[List.size_toArray,List.size_toArray,<- rv1.length,<- rv2.length,<- q1.length,<- q2.length] at z;rw[eqD,n_1];exact z
   |lst es=>unfold Rep at r1;obtain⟨p1,vs1,y1,s1,q1⟩:=r1;subst y1;cases (show u=Value.ref _ from w1);obtain⟨its1,rv1,tp1,_⟩:=I.tuple s1;unfold Rep at r2;obtain⟨p2,vs2,y2,s2,q2⟩:=r2;subst y2;cases (show v=Value.ref _ from w2);obtain⟨its2,rv2,tp2,_⟩:=I.list s2;have tp2:=tp2.isList;exact SeqAt.RcNeAt.tuple_list tp1 tp2 hu
  |lst ds =>
   cases e with
   |dct ks0 vs0=>exact absurd hz2 (by rw[c_5];omega)
   |non=>unfold Rep at r1;obtain⟨p1,vs1,y1,s1,q1⟩:=r1;subst y1;cases (show u=Value.ref _ from w1);obtain⟨its1,rv1,tp1,_⟩:=I.list s1;have tp1:=tp1.isList;unfold Rep at r2;subst r2;cases (show v=Value.none from w2);exact SeqAt.RcNeAt.list_none tp1 hu
   |bl b2=>unfold Rep at r1;obtain⟨p1,vs1,y1,s1,q1⟩:=r1;subst y1;cases (show u=Value.ref _ from w1);obtain⟨its1,rv1,tp1,_⟩:=I.list s1;have tp1:=tp1.isList;unfold Rep at r2;subst r2;cases (show v=Value.bool _ from w2);exact SeqAt.RcNeAt.list_bool _ tp1 hu
   |int b2=>unfold Rep at r1;obtain⟨p1,vs1,y1,s1,q1⟩:=r1;subst y1;cases (show u=Value.ref _ from w1);obtain⟨its1,rv1,tp1,_⟩:=I.list s1;have tp1:=tp1.isList;unfold Rep at r2;subst r2;obtain⟨t2,z2⟩:=w2;subst z2;exact SeqAt.RcNeAt.list_int _ _ tp1 hu
   |str b2=>unfold Rep at r1;obtain⟨p1,vs1,y1,s1,q1⟩:=r1;subst y1;cases (show u=Value.ref _ from w1);obtain⟨its1,rv1,tp1,_⟩:=I.list s1;have tp1:=tp1.isList;unfold Rep at r2;subst r2;obtain⟨t2,z2⟩:=w2;subst z2;exact SeqAt.RcNeAt.list_str _ _ tp1 hu
   |tup es=>unfold Rep at r1;obtain⟨p1,vs1,y1,s1,q1⟩:=r1;subst y1;cases (show u=Value.ref _ from w1);obtain⟨its1,rv1,tp1,_⟩:=I.list s1;have tp1:=tp1.isList;unfold Rep at r2;obtain⟨p2,vs2,y2,s2,q2⟩:=r2;subst y2;cases (show v=Value.ref _ from w2);obtain⟨its2,rv2,tp2,_⟩:=I.tuple s2;exact SeqAt.RcNeAt.list_tuple tp1 tp2 hu
   |lst es =>
     rw[f_7] at hn;unfold Rep at r1;obtain⟨p1,vs1,y1,s1,q1⟩:=r1;subst y1;cases (show u=Value.ref _ from w1);obtain⟨its1,rv1,tp1,_⟩:=I.list s1;have tp1:=tp1.isList;unfold Rep at r2;obtain⟨p2,vs2,y2,s2,q2⟩:=r2;subst y2;cases (show v=Value.ref _ from w2);obtain⟨its2,rv2,tp2,_⟩:=I.list s2;have tp2:=tp2.isList;have hi:A.in1.units+(n-1)<cLine:=by show A.units+1+(n-1)<cLine;omega
     have l1:its1.toArray.size=ds.length:=by rw[List.size_toArray,<- rv1.length,<- q1.length]
     have l2:its2.toArray.size=es.length:=by rw[List.size_toArray,<- rv2.length,<- q2.length]
     rw[eqD,n_1]
     by_cases hl:ds.length=es.length
     ·have z:=SeqAt.RcNeAt.lists (e:=λ j=>eqD (ds.getD j .non) (es.getD j .non)) tp1 tp2 (by rw[l1,l2];exact hl) hu (B_3 (A:=A) (ah2 I (n-1)) (by omega) (by first | (rw[f_6] at hz1;omega) | (rw[f_7] at hz1;omega)) (by first | (rw[f_6] at hz2;omega) | (rw[f_7] at hz2;omega)) hi q1 q2 rv1 rv2)
      rw[l1] at z;rw[show min ds.length es.length=ds.length by omega,show (ds.length==es.length)=true by simp[hl],Bool.and_true]
      exact z
     ·rw[show (ds.length==es.length)=false by simp[hl],Bool.and_false]
      exact SeqAt.RcNeAt.lists_lengths tp1 tp2 (by rw[l1,l2];simp[hl]) hu
def bE6 (K:Frag):R2:=λ x y H Q=>∃ d e,Rep K H d x/\Rep K H e y/\dpD d<=30/\dpD e<=30/\Q (.bl (!eqD d e)) H
theorem ba9 (hu:X.A.units+64<cLine):OpR X (compareOp .NotEq) (bE6 X.K):=by
 intro pins s σ H x y v u Q I rx ry h;obtain⟨d,e,r1,r2,hd,hd2,q⟩:=h;exact neN I 30 X.A d e x y v u hd (by omega) (by omega) (by omega) r1 rx r2 ry X.prog X.w X.xe _ ⟨.bl _,H,I,rfl,q⟩
theorem bv2 {K:Frag}:OpD K (bE6 K) dNe:=λ c H0 H ρ σ x y d vx vy Q R r1 r2 e q=>by
 unfold dNe at e
 split at e
 ·rename_i hd
  cases e;exact⟨x,y,Rep.mono R.same x r1,Rep.mono R.same y r2,hd.1,hd.2,q _ H0 H (Same.refl _) R (n_2 _ _)⟩
 ·cases e
theorem cNe (hu:X.A.units+64<cLine):l_2 X .NotEq dNe:=⟨_,ba9 hu,bv2⟩
end
section
variable {X:Cx}
def BOk (X:Cx) (f:Value) (g:List D->Option D):Prop:=∃ r,CallR X f r/\∀ (c:FC) (H0 H:Hp) (ρ:En) (σ:L2.St) (ds:List D) (d:D) (vs:List V) (Q:VK),RS X.K c H0 H ρ σ->Reps X.K H0 ds vs->g ds=some d->Aft X.K c H0 ρ σ d Q->r vs H Q
theorem bg5 {g:List D->Option D}{A:FA}{r:List V->Hp->VK->Prop} (o:∀ (c:FC) (H0 H:Hp) (ρ:En) (σ:L2.St) (ds:List D) (d:D) (vs:List V) (Q:VK),RS X.K c H0 H ρ σ->Reps X.K H0 ds vs->g ds=some d->Aft X.K c H0 ρ σ d Q->r vs H Q)
  {σ:L2.St}{H:Hp}{Q:VK} (h:tE X.K (eF g A) σ H Q):tCB r (tAa X.K A) σ H Q:=by
 obtain⟨c,H0,ρ,d,ρ',R,f,q⟩:=h;unfold eF at f;obtain⟨⟨ds,ρ1⟩,h1,f⟩:=a_0 f;obtain⟨d',h2,f⟩:=a_0 f;have f':some (d',ρ1)=some (d,ρ'):=f;cases f';exact⟨c,H0,ρ,ds,_,R,h1,λ vs H1 Hh s1 R1 r1=>o c H1 Hh _ σ ds d vs Q R1 r1 h2 λ v H2 Hh2 s2 R2 r2=>q v H2 Hh2 (s1.trans s2) R2 r2⟩
theorem xB {id:String}{g:List D → Option D}{A:FA}{x:Str}{p pos:Pos}{e:Expr}{es:List Expr} (o:BOk X (.builtin id) g) (hg:Gl X x) (hm:X.mg x=none) (hv:bootBuiltins x=some (.builtin id)) (ha:XA X (e::es) A) (hn:x≠"__name__":=by decide) (hdb:(x==("__debug__":Str))=false:=by decide)
  (he:starEach (e::es) X.env=(false,eval e X.env)::starEach es X.env:=by rfl) (hpl:(backTo pos (starEach es X.env)).any (·.1)=false:=by rfl):XE X (.Call (.Name x p) (e::es) [] pos) (eF g A):=by
 obtain⟨r,h1,h2⟩:=o;exact PE.wk (z_9 h1 hg hm hv ha hn hdb he hpl) λ σ H Q h=>bg5 h2 h
theorem Reps.v1 {K:Frag}{H:Hp}{d:D}{vs:List V} (h:Reps K H [d] vs):∃ v,vs=[v]/\Rep K H d v:=by
 unfold Reps at h;obtain⟨v,r,e,a,b⟩:=h;unfold Reps at b;exact⟨v,by rw[e,b],a⟩
theorem Reps.v2 {K:Frag}{H:Hp}{d d':D}{vs:List V} (h:Reps K H [d,d'] vs):∃ v v',vs=[v,v']/\Rep K H d v/\Rep K H d' v':=by
 unfold Reps at h;obtain⟨v,r,e,a,b⟩:=h;obtain⟨v',e',b'⟩:=Reps.v1 b;exact⟨v,v',by rw[e,e'],a,b'⟩
theorem ax5 {ds:List D}{d:D} (h:Y_1 ds=some d):∃ i,ds=[.int i]/\d=.int (if i<0 then -i else i):=by
 unfold Y_1 at h
 split at h
 ·cases h;exact⟨_,rfl,rfl⟩
 ·cases h
theorem n_9:BOk X (.builtin "abs") Y_1:=⟨_,ax0,λ c H0 H ρ σ ds d vs Q R r e q=>by
 obtain⟨i,rfl,rfl⟩:=ax5 e;obtain⟨v,rfl,rv⟩:=Reps.v1 r;unfold Rep at rv;subst rv;exact⟨i,rfl,q _ H0 H (Same.refl _) R (c_8 _ _)⟩⟩
theorem B_4 {K:Frag}{H:Hp}:∀ {ds:List D}{is:List Int}{vs:List V},y_1 ds=some is->Reps K H ds vs->vs=is.map V.int
 |[],_,_,e,r=>by
  have e':([]:List Int)=_:=qi e;unfold Reps at r;rw[r,<- e'];rfl
 |d::ds,_,_,e,r=>by
  cases d with
  |int i =>
   rw[L_4] at e;obtain⟨is,e1,e2⟩:=a_0 e;cases e2;unfold Reps at r;obtain⟨v,r',rfl,a,t⟩:=r;unfold Rep at a;rw[a,B_4 e1 t];rfl
  |_=>cases e
theorem intsAre_of:∀ {is:List Int}{us:List Value},Vals (is.map V.int) us->IntsAre us is:=by
 intro is
 induction is with
 |nil=>intro us h;cases h;exact .nil
 |cons b r ih =>
  intro us h;cases h with
  |cons a t=>obtain⟨tk,rfl⟩:=(show ∃ t,_=Value.int b t from a);exact .cons b tk (ih t)
theorem F_3:∀ (r:List Int) (m:Int),(V_1 m r=m\/V_1 m r∈r)/\V_1 m r<=m/\∀ a∈r,V_1 m r<=a
 |[],m=>⟨.inl rfl,Int.le_refl _,λ a h=>by cases h⟩
 |x::r,m=>by
  obtain⟨h1,h2,h3⟩:=F_3 r (if x<m then x else m);rw[show V_1 m (x::r)=V_1 (if x<m then x else m) r from rfl]
  by_cases h:x<m
  ·rw[if_pos h] at h1 h2 h3 ⊢
   refine⟨.inr ?_,by omega,λ a ha=>?_⟩
   ·rcases h1 with e | e
    ·rw[e];exact qg
    ·exact qh _ e
   ·rcases qw ha with rfl | ha
    ·exact h2
    ·exact h3 a ha
  ·rw[if_neg h] at h1 h2 h3 ⊢
   refine⟨?_,h2,λ a ha=>?_⟩
   ·rcases h1 with e | e
    ·exact .inl e
    ·exact .inr (qh _ e)
   ·rcases qw ha with rfl | ha
    ·omega
    ·exact h3 a ha
theorem F_4:∀ (r:List Int) (m:Int),(V_2 m r=m\/V_2 m r∈r)/\m<=V_2 m r/\∀ a∈r,a<=V_2 m r
 |[],m=>⟨.inl rfl,Int.le_refl _,λ a h=>by cases h⟩
 |x::r,m=>by
  obtain⟨h1,h2,h3⟩:=F_4 r (if m<x then x else m);rw[show V_2 m (x::r)=V_2 (if m<x then x else m) r from rfl]
  by_cases h:m<x
  ·rw[if_pos h] at h1 h2 h3 ⊢
   refine⟨.inr ?_,by omega,λ a ha=>?_⟩
   ·rcases h1 with e | e
    ·rw[e];exact qg
    ·exact qh _ e
   ·rcases qw ha with rfl | ha
    ·exact h2
    ·exact h3 a ha
  ·rw[if_neg h] at h1 h2 h3 ⊢
   refine⟨?_,h2,λ a ha=>?_⟩
   ·rcases h1 with e | e
    ·exact .inl e
    ·exact .inr (qh _ e)
   ·rcases qw ha with rfl | ha
    ·omega
    ·exact h3 a ha
theorem ae0 {i M:Int}{r:List Int} (h:M∈i::r) (h':∀ a∈i::r,M<=a):M=V_1 i r:=by
 obtain⟨h1,h2,h3⟩:=F_3 r i
 have a1:V_1 i r<=M:=by
  rcases qw h with rfl | h
  ·exact h2
  ·exact h3 _ h
 have a2:M<=V_1 i r:=by
  rcases h1 with e | e
  ·rw[e];exact h' _ qg
  ·exact h' _ (qh _ e)
 omega
theorem ae1 {i M:Int}{r:List Int} (h:M∈i::r) (h':∀ a∈i::r,a<=M):M=V_2 i r:=by
 obtain⟨h1,h2,h3⟩:=F_4 r i
 have a1:M<=V_2 i r:=by
  rcases qw h with rfl | h
  ·exact h2
  ·exact h3 _ h
 have a2:V_2 i r<=M:=by
  rcases h1 with e | e
  ·rw[e];exact h' _ qg
  ·exact h' _ (qh _ e)
 omega
theorem aj2 (hc:X.calm=true):CallR X (.builtin "min") (λ xs H Q=>∃ (p:Addr) (i:Int) (r:List Int),xs=[.ref p] ∧ SqL X.K H p ((i::r).map V.int) ∧ Q (.int (V_1 i r)) H):=by
 intro pins s σ H xs us Q I r h;obtain⟨l,i,is,rfl,hl,q⟩:=h;obtain⟨u,rfl,ru⟩:=j_6 r;cases ru;obtain⟨its,rv,pl,hz⟩:=I.list hl;have hi:=intsAre_of rv;have hL:=pl.isList;obtain⟨ys,e⟩:=hi.allInts.items;have hns:i::is=ys.toList.map (·.1):=by rw[<- hi.numsOf,<- nums_intItems,<- e]
 have hsz:0<ys.size:=by
  have h3:0<(i::is).length:=Nat.succ_pos _;rw[hns,List.length_map,Array.length_toList] at h3;exact h3
 rw[e] at hL;refine min_intList (I.ok.hd hc) hL hsz λ v h' tk hv hk=>?_
 obtain⟨t,rfl⟩:=intItems_at hv;obtain⟨h1,h2⟩:=argBest_lt (numAt ys) (ys.size-1);refine⟨_,H,I.kept hk,?_,q⟩
 have:numAt ys (argBest (λ i j=>decide (numAt ys i<numAt ys j)) (ys.size-1))=V_1 i is:=ae0 (by rw[hns,numAt_eq];exact getD_mem (by rw[List.length_map,Array.length_toList];omega)) λ a ha=>by
  rw[hns] at ha;obtain⟨j,hj,rfl⟩:=mem_getD ha;rw[List.length_map,Array.length_toList] at hj;rw[<- numAt_eq];exact h2 j (by omega)
 rw[this];exact⟨_,rfl⟩
theorem aj4 (hc:X.calm=true):CallR X (.builtin "max") (λ xs H Q=>∃ (p:Addr) (i:Int) (r:List Int),xs=[.ref p] ∧ SqL X.K H p ((i::r).map V.int) ∧ Q (.int (V_2 i r)) H):=by
 intro pins s σ H xs us Q I r h;obtain⟨l,i,is,rfl,hl,q⟩:=h;obtain⟨u,rfl,ru⟩:=j_6 r;cases ru;obtain⟨its,rv,pl,hz⟩:=I.list hl;have hi:=intsAre_of rv;have hL:=pl.isList;obtain⟨ys,e⟩:=hi.allInts.items;have hns:i::is=ys.toList.map (·.1):=by rw[<- hi.numsOf,<- nums_intItems,<- e]
 have hsz:0<ys.size:=by
  have h3:0<(i::is).length:=Nat.succ_pos _;rw[hns,List.length_map,Array.length_toList] at h3;exact h3
 rw[e] at hL;refine max_intList (I.ok.hd hc) hL hsz λ v h' tk hv hk=>?_
 obtain⟨t,rfl⟩:=intItems_at hv;obtain⟨h1,h2⟩:=argBest_gt (numAt ys) (ys.size-1);refine⟨_,H,I.kept hk,?_,q⟩
 have:numAt ys (argBest (λ i j=>decide (numAt ys i > numAt ys j)) (ys.size-1))=V_2 i is:=ae1 (by rw[hns,numAt_eq];exact getD_mem (by rw[List.length_map,Array.length_toList];omega)) λ a ha=>by
  rw[hns] at ha;obtain⟨j,hj,rfl⟩:=mem_getD ha;rw[List.length_map,Array.length_toList] at hj;rw[<- numAt_eq];exact h2 j (by omega)
 rw[this];exact⟨_,rfl⟩
theorem CallR.or {X:Cx}{f:Value}{r r':List V->Hp->VK->Prop} (h:CallR X f r) (h':CallR X f r'):CallR X f (λ xs H Q=>r xs H Q\/r' xs H Q) :=
 λ pins s σ H xs us Q I v z=>z.elim (λ a=>h pins s σ H xs us Q I v a) (λ a=>h' pins s σ H xs us Q I v a)
theorem I_0 {f:Int->List Int->Int}{is:List Int}{d:D} (h:aS1 f is=some d):∃ i r,is=i::r/\d=.int (f i r):=by
 cases is with
 |nil=>cases h
 |cons i r=>cases h;exact⟨i,r,rfl,rfl⟩
theorem aR5 (hc:X.calm=true):BOk X (.builtin "max") aS2:=⟨_,(aj5 hc).or (aj4 hc),λ c H0 H ρ σ ds d vs Q R r e q=>by
 unfold aS2 at e
 split at e
 ·cases e
  obtain⟨v,v',rfl,r1,r2⟩:=Reps.v2 r;unfold Rep at r1 r2;subst r1 r2;exact .inl ⟨_,_,rfl,q _ H0 H (Same.refl _) R (c_8 _ _)⟩
 ·obtain⟨is,e1,e2⟩:=a_0 e
  obtain⟨i,is,rfl,rfl⟩:=I_0 e2;obtain⟨v,rfl,rv⟩:=Reps.v1 r;unfold Rep at rv;obtain⟨p,ws,rfl,s,t⟩:=rv;have:=B_4 e1 t;subst this;exact .inr ⟨p,i,is,rfl,Same.seq R.same s,q _ H0 H (Same.refl _) R (c_8 _ _)⟩
 ·cases e⟩
theorem aR4 (hc:X.calm=true):BOk X (.builtin "min") bi0:=⟨_,(aj3 hc).or (aj2 hc),λ c H0 H ρ σ ds d vs Q R r e q=>by
 unfold bi0 at e
 split at e
 ·cases e
  obtain⟨v,v',rfl,r1,r2⟩:=Reps.v2 r;unfold Rep at r1 r2;subst r1 r2;exact .inl ⟨_,_,rfl,q _ H0 H (Same.refl _) R (c_8 _ _)⟩
 ·obtain⟨is,e1,e2⟩:=a_0 e
  obtain⟨i,is,rfl,rfl⟩:=I_0 e2;obtain⟨v,rfl,rv⟩:=Reps.v1 r;unfold Rep at rv;obtain⟨p,ws,rfl,s,t⟩:=rv;have:=B_4 e1 t;subst this;exact .inr ⟨p,i,is,rfl,Same.seq R.same s,q _ H0 H (Same.refl _) R (c_8 _ _)⟩
 ·cases e⟩
theorem H_5 {K:Frag}{H:Hp}:∀ {ds:List D}{bs:List Bool}{vs:List V},w_7 ds=some bs->Reps K H ds vs->vs=bs.map V.bl
 |[],_,_,e,r=>by
  have e':([]:List Bool)=_:=qi e;unfold Reps at r;rw[r,<- e'];rfl
 |d::ds,_,_,e,r=>by
  cases d with
  |bl b =>
   rw[X_3] at e;obtain⟨bs,e1,e2⟩:=a_0 e;cases e2;unfold Reps at r;obtain⟨v,r',rfl,a,t⟩:=r;unfold Rep at a;rw[a,H_5 e1 t];rfl
  |_=>cases e
theorem M_5:∀ {bs:List Bool}{us:List Value},Vals (bs.map V.bl) us->LSm.BoolsAre us bs:=by
 intro bs
 induction bs with
 |nil=>intro us h;cases h;exact .nil
 |cons b r ih =>
  intro us h;cases h with
  |cons a t=>cases (show _=Value.bool b from a);exact .cons b (ih t)
theorem aj8 (hc:X.calm=true):CallR X (.builtin "all") (λ xs H Q=>∃ (p:Addr) (bs:List Bool),xs=[.ref p] ∧ SqL X.K H p (bs.map V.bl) ∧ Q (.bl (bs.all id)) H):=by
 intro pins s σ H xs us Q I r h;obtain⟨l,bs,rfl,hl,q⟩:=h;obtain⟨u,rfl,ru⟩:=j_6 r;cases ru;obtain⟨its,rv,pl,hz⟩:=I.list hl;have hb:=M_5 rv;have hl:=pl.isList;have hlt:l<s.heap.objs.size:=by obtain⟨_,e,_⟩:=hl;exact qm e
 refine call_all_walk (wpAny_pyIter_list hl ?_);refine⟨s.heap.objs.size,[s.heap.objs.size,l],[s.heap.objs.size],its.toArray.size,_,_,λ i=>(bs[i]?).getD true,rfl,Walks.list (A:=X.A.in1) (I.ok.hd hc) _ l (qv hlt) its.toArray,
  ⟨⟨_,qk _ rfl,rfl,rfl⟩,hl.push _⟩,λ i v s' Q' E' hP hQ=>?_,λ h' tk hk=>?_⟩
 ·obtain⟨b,e,rfl⟩:=hb.get i v (by simpa using hP)
  simp only[e,Option.getD_some] at hQ;exact wpAny_truthy_bool hQ
 ·have e:((List.range its.toArray.size).all λ i=>(bs[i]?).getD true)=bs.all id:=by
   rw[List.size_toArray,hb.length];exact LSm.range_all bs
  rw[e];exact⟨.bl _,H,I.kept (t':=tk) (LSm.kept_iter hk),rfl,q⟩
theorem v_3 (hc:X.calm=true):BOk X (.builtin "all") I_4:=⟨_,aj8 hc,λ c H0 H ρ σ ds d vs Q R r e q=>by
 unfold I_4 at e
 split at e
 ·obtain⟨bs,e1,e2⟩:=a_0 e
  cases e2;obtain⟨v,rfl,rv⟩:=Reps.v1 r;unfold Rep at rv;obtain⟨p,ws,rfl,s,t⟩:=rv;have:=H_5 e1 t;subst this;exact⟨p,bs,rfl,Same.seq R.same s,q _ H0 H (Same.refl _) R (n_2 _ _)⟩
 ·cases e⟩
def tyN:Ty->String
 |.int=>"int" | .bool=>"bool" | .str=>"str" | .tuple=>"tuple" | .list=>"list"
def tyV (d:D):Value:=match d with
 |.non=>.type "NoneType" | .bl _=>.type "bool" | .int _=>.type "int" | .str _=>.type "str" | .tup _=>.type "tuple" | .lst _=>.type "list" | .dct _ _=>.type "dict"
theorem bd1 (K:Frag) (t:Ty) (d:D):PySem.W.kitOne K (tyV d) (.type (tyN t))=some (I_9 t d):=by
 cases t <;> cases d <;> rfl
theorem aw9 (t:Ty):CallR X (.builtin "isinstance") (λ xs H Q=>∃ d x,xs=[x,.ty (tyN t)] ∧ Rep X.K H d x ∧ Q (.bl (I_9 t d)) H):=by
 intro pins s σ H xs us Q I r h;obtain⟨d,x,rfl,rx,q⟩:=h;obtain⟨u,w,rfl,ru,rw'⟩:=aE2 r;cases (show w=Value.type _ from rw');have k:=bd1 X.K t d;have fin:∀ tk,EP X pins σ Q (.bool (I_9 t d)) {s with toks:=tk}:=λ tk=>⟨.bl _,H,I.tok tk,rfl,q⟩
 cases d with
 |non=>unfold Rep at rx;subst rx;cases (show u=Value.none from ru);exact PySem.W.kia_one PySem.W.kitx_none I.kIn True.intro k (λ z=>nomatch z) fin
 |bl y=>unfold Rep at rx;subst rx;cases (show u=Value.bool y from ru);exact PySem.W.kia_one PySem.W.kitx_bool I.kIn True.intro k (λ z=>nomatch z) fin
 |int i=>unfold Rep at rx;subst rx;obtain⟨t,z⟩:=(show ∃ t,u=Value.int i t from ru);cases z;exact PySem.W.kia_one PySem.W.kitx_int I.kIn True.intro k (λ z=>nomatch z) fin
 |str y=>unfold Rep at rx;subst rx;obtain⟨t,z⟩:=(show ∃ t,u=Value.str y t from ru);cases z;exact PySem.W.kia_one PySem.W.kitx_str I.kIn True.intro k (λ z=>nomatch z) fin
 |tup ds =>
  unfold Rep at rx;obtain⟨a,vs,rfl,s1,_⟩:=rx;cases (show u=Value.ref a from ru);obtain⟨_,_,⟨o,h1,h2,_⟩,_⟩:=I.tuple s1;exact PySem.W.kia_one PySem.W.kitx_tuple I.kIn ⟨o,h1,h2⟩ k (λ z=>nomatch z) fin
 |dct ks ds =>
  unfold Rep at rx;obtain⟨a,ob,us,rfl,ea,_⟩:=rx;cases (show u=Value.ref a from ru);obtain⟨_,_,_,vs,_,pp⟩:=(show ObjOk X.prog X.w H s.heap a (.frz ob (.dK _)) from I.hok a _ ea);obtain⟨o,es,ep,h1,h2,_⟩:=pp;exact PySem.W.kia_one PySem.W.kitx_dict I.kIn ⟨o,h1,h2.1⟩ k (λ z=>nomatch z) fin
 |lst ds =>
  unfold Rep at rx;obtain⟨a,vs,rfl,s1,_⟩:=rx;cases (show u=Value.ref a from ru);obtain⟨_,_,⟨o,n,h1,h2,_⟩,_⟩:=I.list s1;exact PySem.W.kia_one PySem.W.kitx_list I.kIn ⟨o,h1,h2⟩ k (λ z=>nomatch z) fin
theorem xty {t:Ty}{T:Str}{p p' pos:Pos}{e:Expr}{F:FE} (hi:X.mg "isinstance"=none) (hm:X.mg T=none) (hT:bootBuiltins T=some (.type (tyN t))) (ha:XE X e F) (hg:Gl X "isinstance":=by rfl) (hg':Gl X T:=by rfl)
  (hn:T≠"__name__":=by decide) (hd:(T==("__debug__":Str))=false:=by decide) (hs:starEach [e,.Name T p'] X.env=(false,eval e X.env)::starEach [.Name T p'] X.env:=by rfl) (hs':starEach [.Name T p'] X.env=[(false,eval (.Name T p') X.env)]:=by rfl)
  (hpl:(backTo pos (starEach [.Name T p'] X.env)).any (·.1)=false:=by rfl):XE X (.Call (.Name "isinstance" p) [e,.Name T p'] [] pos) (eTy t F) :=
 PE.wk (z_9 (aw9 t) hg hi PyProof.Rows.boot_isinstance (i_3 ha (i_3 (aJ2 (v:=.ty (tyN t)) hg' hm hT rfl hn hd) o_8 hs') hs) (by decide) (by decide) hs hpl) λ σ H Q hh0_=>by
  obtain⟨c,H0,ρ,d,ρ',R,f,q⟩:=hh0_;unfold eTy at f;obtain⟨⟨x,ρ1⟩,h1,f⟩:=a_0 f;have f':some (D.bl (I_9 t x),ρ1)=some (d,ρ'):=f;cases f';exact⟨c,H0,ρ,x,_,R,h1,λ v H1 Hh s1 R1 r1=>⟨x,v,rfl,Rep.mono R1.same x r1,q _ H1 Hh s1 R1 (n_2 _ _)⟩⟩
def spP (K:Frag) (g:List D->Option D):Sp:=λ vs H Q _=>∃ Hi ds d,Same Hi H/\Reps K Hi ds vs/\g ds=some d/\∀ v Hi' H',Step Hi H Hi' H'->Rep K Hi' d v->Q v H'
structure DefOk (P:Program) (w:World) (K:Frag) (mg:Str->Option Value) (base:Heap) (k:Nat) (x:Str) (g:List D->Option D):Prop where
 ex:∃ f fd ps,FnOk P w K mg base CX0 k f fd ps (spP K g)/\Binds K fd ps []/\keepIn K (.ref f)=true/\mg x=some (.ref f)
theorem xF {k:Nat}{x:Str}{g:List D → Option D}{A:FA}{p pos:Pos}{e:Expr}{es:List Expr} (G:DefOk X.prog X.w X.K X.mg X.base k x g) (hr:Room k X.A) (ha:XA X (e::es) A) (hg:Gl X x:=by rfl) (hdb:(x==("__debug__":Str))=false:=by decide)
  (he:starEach (e::es) X.env=(false,eval e X.env)::starEach es X.env:=by rfl) (hpl:(backTo pos (starEach es X.env)).any (·.1)=false:=by rfl):XE X (.Call (.Name x p) (e::es) [] pos) (eF g A):=by
 obtain⟨f,fd,ps,F,hb,hk,hm⟩:=G.ex;refine PE.wk (K_0 F hr hg hm hk hb .nil aJ4 ha hdb he hpl) λ σ H Q hh0_=>?_
 obtain⟨c,H0,ρ,d,ρ',R,z,q⟩:=hh0_;unfold eF at z;obtain⟨⟨ds,ρ1⟩,h1,z⟩:=a_0 z;obtain⟨d',h2,z⟩:=a_0 z;have z':some (d',ρ1)=some (d,ρ'):=z;cases z';exact⟨c,H0,ρ,ds,_,R,h1,λ vs H1 Hh s1 R1 r1=>⟨H1,ds,d,R1.same,by rw[List.append_nil];exact r1,h2,λ v Hi' H' S rv=>q v Hi' H' (s1.trans S.s0) (R1.after S) rv⟩⟩
end
def r_3 (K:Frag) (J:It) (H1:Hp) (xs:List D):Prop:=∀ (H0 H:Hp) (i:Nat),Same H1 H0->Same H0 H ->
 (∀ d,xs[i]?=some d->J.go i H/\∀ x H',J.yld i H x H'->H'=H/\Rep K H0 d x)/\(xs.length<=i->J.stop i H)
theorem J_1 {K:Frag}{H1:Hp}{a:Addr}{vs:List V}{xs:List D} (rd:SqL K H1 a vs) (r:Reps K H1 xs vs):r_3 K (Itl K a) H1 xs:=λ H0 H i s s'=>by
 have sq:SqL K H a vs:=Same.seq (s.trans s') rd;refine⟨λ d e=>?_,λ h=>⟨vs,sq,by rw[<- r.length];exact h⟩⟩
 obtain⟨v,e1,e2⟩:=r.get e;refine⟨⟨vs,v,sq,e1⟩,λ x H' ⟨h1,h2⟩=>⟨h1,?_⟩⟩
 have:=h2 vs sq;rw[e1] at this;cases this;exact Rep.mono s d e2
theorem T_2 {K:Frag}{H1:Hp}{a:Addr}{vs:List V}{xs:List D} (rd:SqT K H1 a vs) (r:Reps K H1 xs vs):r_3 K (Itt K a) H1 xs:=λ H0 H i s s'=>by
 have sq:SqT K H a vs:=Same.seqT (s.trans s') rd;refine⟨λ d e=>?_,λ h=>⟨vs,sq,by rw[<- r.length];exact h⟩⟩
 obtain⟨v,e1,e2⟩:=r.get e;refine⟨⟨vs,v,sq,e1⟩,λ x H' ⟨h1,h2⟩=>⟨h1,?_⟩⟩
 have:=h2 vs sq;rw[e1] at this;cases this;exact Rep.mono s d e2
theorem t_5:∀ (n:Nat) (lo:Int),(r_5 lo n).length=n
 |0,_=>rfl
 |n+1,lo=>by show (r_5 (lo+1) n).length+1=n+1;rw[t_5 n]
theorem O_3:∀ (n:Nat) (lo:Int) (i:Nat) (d:D),(r_5 lo n)[i]?=some d->d=.int (lo+i)/\i<n
 |0,lo,i,d,h=>by simp[r_5] at h
 |n+1,lo,0,d,h=>by
  simp[r_5] at h;exact⟨by rw[<- h];simp,by omega⟩
 |n+1,lo,i+1,d,h=>by
  have h':(r_5 (lo+1) n)[i]?=some d:=by simpa [r_5] using h
  obtain⟨a,b⟩:=O_3 n (lo+1) i d h';refine⟨by rw[a];congr 1;push_cast;omega,by omega⟩
theorem p_3 {K:Frag}{H1:Hp} (lo:Int) (n:Nat):r_3 K (Itr lo n) H1 (r_5 lo n):=λ H0 H i s s'=>by
 refine⟨λ d e=>?_,λ h=>by rw[t_5] at h;exact h⟩
 obtain⟨rfl,hi⟩:=O_3 n lo i d e;refine⟨hi,λ x H' ⟨h1,h2⟩=>⟨h1,?_⟩⟩
 unfold Rep;exact h2
def Its (z:Str):It:=⟨λ i _=>i<z.cps.size,λ i H x H'=>H'=H/\∃ c,z.cps[i]?=some c/\x=.str (chS c),λ i _=>z.cps.size<=i⟩
theorem N_5 {P:Program}{w:World}{K:Frag}{tg:Expr}{n:String} (z:Str) (t:Tok) (it:Addr) (hn:["enumerate","zip","dict_itemiterator","dict_reverseitemiterator","odict_iterator","itertools.zip_longest","itertools.pairwise"].contains n=false)
  (W:∀ A:Around,A.handled=none->Walks P w A it [it] [it] z.cps.size (SignAt z) (λ i h=>h.IsStrIter it n z t i)) (fin:∀ (A:Around) (s:Shared) (i:Nat) (Q:Option Value->Shared->Prop) (E:Value->Shared->Prop),A.handled=none->s.heap.IsStrIter it n z t i->z.cps[i]?=none->(∀ h',Heap.ExtBut it s.heap h'->Q none {s with heap:=h'})->wpAny (model P w) A (pyNext (.ref it)) Q E s)
  (slf:∀ (A:Around) (i:Nat) (s:Shared) (Q:Value->Shared->Prop) (E:Value->Shared->Prop),s.heap.IsStrIter it n z t i->Q (.ref it) s->wpAny (model P w) A (pyIter (.ref it)) Q E s) :
  Turn P w K tg (Its z) [it] it (λ i h=>h.IsStrIter it n z t i) where
 mem:=by simp
 obj:=λ i h st b hb=>by
  have e:b=it:=by simpa using hb
  subst e;obtain⟨o,e,c,d⟩:=st;exact⟨o,e,λ v z=>by rw[d] at z;cases z⟩
 keep:=λ i h h' st k=>let ⟨o,e,r⟩:=st;⟨o,k it (by simp) o e,r⟩
 item:=by
  intro X hP hw hK hc i pins s σ H E I hf st hg;subst hP hw hK;obtain⟨f0,f1,f2,f3,f4,f5⟩:=hf it (by simp)
  refine (W X.A (I.ok.hd hc)).item i s _ _ hg st λ v h' tk hv st' kk=>?_
  obtain⟨ch,u,e1,rfl⟩:=hv;have I1:Inv X pins σ H {s with heap:=h',toks:=tk}:=I.turned (λ b o hb e=>kk b o (by simpa using hb) e) f0 f1 f3 f4 f5
  obtain⟨o,e,c,d⟩:=id st';exact⟨_,rfl,au9 (s:={s with heap:=h',toks:=tk}) e c d hn ⟨.str (chS ch),H,I1,⟨u,rfl⟩,⟨rfl,ch,e1,rfl⟩,st',λ b hb=>(hf b hb).1⟩⟩
 done:=by
  intro X hP hw hK hc i pins s σ H E I hf st hg;subst hP hw hK;obtain⟨f0,f1,f2,f3,f4,f5⟩:=hf it (by simp)
  have hg:z.cps.size<=i:=hg;exact fin X.A s i _ _ (I.ok.hd hc) st (by simp[hg]) λ h' eb=>⟨rfl,I.turned (t':=s.toks) (λ b o hb e=>eb b o hb e) f0 f1 f3 f4 f5⟩
 self:=λ A i s Q E st h=>slf A i s Q E st h
def bG9 (t:TE):TI:=λ σ H R=>t σ H λ x H1=>∃ z,x=.str z/\R (Its z) H1
def iSq (K:Frag) (t:TE):TI:=λ σ H R=>be7 K t σ H R\/bG8 K t σ H R\/bG9 t σ H R
theorem aZ7 {X:Cx}{tg l:Expr}{tl:TE} (hl:PE X l tl):PI X tg l (bG9 tl):=by
 intro pins s σ H R I h;refine thn (hl pins s σ H _ I h) λ v s1=>ex5 λ x H1 I1 r1 q1=>?_
 obtain⟨z,e,q⟩:=q1;subst e;obtain⟨t,rfl⟩:=r1
 have fp:∀ (o:Obj),∀ b∈[s1.heap.objs.size],FpOk X pins H1 b:=λ o b hb=>by
  have e:b=s1.heap.objs.size:=by simpa using hb
  subst e;exact I1.fpOk (qj _) (I1.hok.fresh (qj _))
 cases ha:z.cps.all (·<128)
 ·refine wpAny_pyIter_wide ha ?_
  exact⟨s1.heap.objs.size,[s1.heap.objs.size],_,_,H1,rfl,I1.kept (t':=s1.toks) λ b o e=>qf _ e,N_5 (n:="str_iterator") z t _ (by decide) (λ A hA=>Walks.strWide hA _ z t) (λ A s i Q E hA st hx hQ=>wpAny_pyNext_wide_end hA st hx hQ) (λ _ _ _ _ _ st h=>wpAny_pyIter_striter_wide st h),⟨_,qk _ rfl,rfl,rfl⟩,fp {cls:=.none,data:=.fields #[]},q⟩
 ·refine wpAny_pyIter_ascii ha ?_
  exact⟨s1.heap.objs.size,[s1.heap.objs.size],_,_,H1,rfl,I1.kept (t':=s1.toks) λ b o e=>qf _ e,N_5 (n:="str_ascii_iterator") z t _ (by decide) (λ A hA=>Walks.strAscii hA _ z t) (λ A s i Q E hA st hx hQ=>wpAny_pyNext_ascii_end hA st hx hQ) (λ _ _ _ _ _ st h=>wpAny_pyIter_striter_ascii st h),⟨_,qk _ rfl,rfl,rfl⟩,fp {cls:=.none,data:=.fields #[]},q⟩
theorem T_3 {K:Frag}{H1:Hp} (z:Str):r_3 K (Its z) H1 (chs z):=λ H0 H i s s'=>by
 have hl:(chs z).length=z.cps.size:=by unfold chs;rw[List.length_map,Array.length_toList]
 refine⟨λ d e=>?_,λ h=>by rw[hl] at h;exact h⟩
 have hi:i<z.cps.size:=by rw[<- hl];exact (List.getElem?_eq_some_iff.mp e).1
 refine⟨hi,λ x H' ⟨h1,ch,h2,h3⟩=>⟨h1,?_⟩⟩
 unfold chs at e;rw[List.getElem?_map,Array.getElem?_toList,h2] at e;have e':D.str (chS ch)=d:=qi e;subst e';unfold Rep;exact h3
theorem ar3 {X:Cx}{tg l:Expr}{tl:TE} (hl:PE X l tl):PI X tg l (iSq X.K tl):=λ pins s σ H R I h=>by
 rcases h with h | h | h
 ·exact aI7 hl pins s σ H R I h
 ·exact aZ6 hl pins s σ H R I h
 ·exact aZ7 hl pins s σ H R I h
theorem i_8 {K:Frag}{F:FE}{σ:L2.St}{H:Hp}{R:It->Hp->Prop}{c:FC}{H0:Hp}{ρ ρ':En}{d:D}{xs:List D} (rs:RS K c H0 H ρ σ) (f:F ρ=some (d,ρ')) (hx:items d=some xs)
  (h:∀ J H1 Hh,Same H0 H1->RS K c H1 Hh ρ' σ->r_3 K J H1 xs->R J Hh):iSq K (tE K F) σ H R:=by
 cases d with
 |lst ds =>
  have e:ds=xs:=qi hx;subst e;refine .inl ⟨c,H0,ρ,_,ρ',rs,f,λ v H1 Hh s1 R1 r1=>?_⟩
  unfold Rep at r1;obtain⟨a,vs,rfl,rd,r⟩:=r1;exact⟨a,rfl,⟨vs,Same.seq R1.same rd⟩,h _ H1 Hh s1 R1 (J_1 rd r)⟩
 |tup ds =>
  have e:ds=xs:=qi hx;subst e;refine .inr (.inl ⟨c,H0,ρ,_,ρ',rs,f,λ v H1 Hh s1 R1 r1=>?_⟩)
  unfold Rep at r1;obtain⟨a,vs,rfl,rd,r⟩:=r1;exact⟨a,rfl,⟨vs,Same.seqT R1.same rd⟩,h _ H1 Hh s1 R1 (T_2 rd r)⟩
 |str z =>
  have e:chs z=xs:=qi hx;subst e;refine .inr (.inr ⟨c,H0,ρ,_,ρ',rs,f,λ v H1 Hh s1 R1 r1=>?_⟩)
  unfold Rep at r1;exact⟨z,r1,h _ H1 Hh s1 R1 (T_3 z)⟩
 |_=>cases hx
theorem Q_9 {ρ:En}:∀ {js:List Nat}{fr:En},r_7 ρ js=some fr->fr.length=js.length/\∀ (k:Nat) (s:Sl),fr[k]?=some s->∃ j d,js[k]?=some j/\ρ[j]?=some (.im d)/\s=.im d
 |[],_,h=>by
  have h':([]:En)=_:=qi h;subst h';exact⟨rfl,λ k s e=>by simp at e⟩
 |j::js,_,h=>by
  rw[af7] at h;obtain⟨s,h1,h⟩:=a_0 h;obtain⟨r,h2,h⟩:=a_0 h;cases h;obtain⟨a,b⟩:=Q_9 h2;refine⟨by rw[List.length_cons,List.length_cons,a],λ k s' e=>?_⟩
  cases k with
  |zero =>
   simp at e;subst e;cases z:ρ[j]? with
   |none=>rw[z] at h1;cases h1
   |some sl =>
    rw[z] at h1;cases sl with
    |im d=>exact⟨j,d,rfl,z,(qi h1).symm⟩
    |_=>cases h1
  |succ k =>
   obtain⟨j',d,x1,x2,x3⟩:=b k s' (by simpa using e)
   exact⟨j',d,by simpa using x1,x2,x3⟩
theorem RS.block {K:Frag}{c:FC}{H0 H:Hp}{ρ:En}{σ:L2.St}{js:List Nat}{fr:En}{d:D}{x:V} (R:RS K c H0 H ρ σ) (hf:r_7 ρ js=some fr) (rx:Rep K H0 d x):RS K ⟨H0,H,[]⟩ H0 H (.im d::fr) (some x::frv σ js):=by
 obtain⟨l,g⟩:=Q_9 hf;refine⟨R.same,Same.refl _,λ b o e=>.inl e,λ b o e _=>e,λ a h=>(by cases h),?_,λ i d' e=>?_,λ i b o e=>?_,λ i j b b' o o' a e=>?_⟩
 ·rw[List.length_cons,List.length_cons,l,frv,List.length_map]
 ·cases i with
  |zero=>simp at e;subst e;exact⟨x,rfl,rx⟩
  |succ k =>
   obtain⟨j,d2,x1,x2,x3⟩:=g k _ (by simpa using e)
   cases x3;obtain⟨v,y1,y2⟩:=R.im j d' x2;refine⟨v,?_,y2⟩;show (frv σ js)[k]?=some (some v);unfold frv;rw[List.getElem?_map,x1];show some (σ[j]?).join=some (some v);rw[y1];rfl
 ·cases i with
  |zero=>simp at e
  |succ k =>
   obtain⟨j,d2,_,_,x3⟩:=g k _ (by simpa using e)
   cases x3
 ·cases i with
  |zero=>simp at e
  |succ k =>
   obtain⟨j,d2,_,_,x3⟩:=g k _ (by simpa using e)
   cases x3
theorem RS.step {K:Frag}{Hi He H0 H:Hp}{ρ:En}{σ:L2.St} (R:RS K ⟨Hi,He,[]⟩ H0 H ρ σ):Step Hi He H0 H :=
 ⟨R.init,λ b o e=>R.keep b o e (by simp),R.same,R.fresh⟩
theorem v_0 {α:Type}{xs:List α}{i:Nat}{d:α} (h:xs[i]?=some d):xs.drop i=d::xs.drop (i+1):=by
 obtain⟨hi,e⟩:=List.getElem?_eq_some_iff.mp h;rw[<- e];exact List.drop_eq_getElem_cons hi
theorem aL8 {K:Frag}{c:FC}{H1 Hh:Hp}{ρ:En}{σ:L2.St}{js:List Nat}{fr:En}{T:FT}{F:FE}{xs out:List D}{J:It}{Qf:List V->Hp->Prop} (R:RS K c H1 Hh ρ σ) (hf:r_7 ρ js=some fr) (hc:cGo T F fr xs=some out) (hz:xs.length<=sizeLine) (hy:r_3 K J H1 xs)
  (q:∀ ys H0 H,Same H1 H0->RS K c H0 H ρ σ->Reps K H0 out ys->Qf ys H):LcW js (tTt K T) (tE K F) σ Qf J Hh:=by
 refine⟨λ i m ys H=>m=xs.length-i/\i<=xs.length/\∃ H0,Same H1 H0/\RS K c H0 H ρ σ/\∃ pre rest,Reps K H0 pre ys/\pre.length<=i/\cGo T F fr (xs.drop i)=some rest/\pre++rest=out,⟨xs.length,by simp,Nat.zero_le _,H1,Same.refl _,R,[],out,Reps.nil_,Nat.zero_le _,by simpa using hc,rfl⟩,?_⟩
 rintro i m ys H ⟨rfl,hi,H0,s0,R0,pre,rest,rp,lp,hg,e⟩;obtain⟨y1,y2⟩:=hy H0 H i s0 R0.same
 by_cases hlt:i<xs.length
 ·have hd:xs[i]?=some xs[i]:=by simp[hlt]
  obtain⟨go,yl⟩:=y1 _ hd;refine .inr ⟨go,by rw[<- rp.length];omega,λ x H' hx=>?_⟩
  obtain⟨rfl,rx⟩:=yl x H' hx;rw[v_0 hd,ax2] at hg;obtain⟨⟨b,ρb⟩,g1,hg⟩:=a_0 hg;dsimp only at hg;refine⟨⟨H0,H',[]⟩,H0,_,b,ρb,R0.block hf rx,g1,λ H2 Hh2 s2 R2=>?_⟩
  cases b with
  |false =>
   rw[if_neg Bool.false_ne_true] at hg ⊢;have S:=R2.step;exact⟨xs.length-(i+1),by omega,rfl,hlt,H2,s0.trans S.s0,R0.after S,pre,rest,Reps.mono S.s0 _ rp,by omega,hg,e⟩
  |true =>
   rw[if_pos rfl] at hg ⊢;obtain⟨⟨z,ρz⟩,g2,hg⟩:=a_0 hg;obtain⟨t,g3,hg⟩:=a_0 hg;dsimp only at hg;have hg':some (z::t)=some rest:=hg;cases hg';refine⟨⟨H0,H',[]⟩,H2,ρb,z,ρz,R2,g2,λ v H3 Hh3 s3 R3 r3=>?_⟩
   have S:=R3.step;refine⟨xs.length-(i+1),by omega,rfl,hlt,H3,s0.trans S.s0,R0.after S,pre++[z],t,(Reps.mono S.s0 _ rp).app (Reps.one r3),?_,g3,?_⟩
   ·rw[List.length_append,List.length_singleton];omega
   ·rw[List.append_assoc];exact e
 ·have ei:i=xs.length:=by omega
  have hn:xs.drop i=[]:=List.drop_eq_nil_of_le (by omega)
  rw[hn,aR6] at hg;have hg':([]:List D)=rest:=qi hg;subst hg';rw[List.append_nil] at e;subst e;exact .inl ⟨y2 (by omega),by rw[<- rp.length];omega,q ys H0 H s0 R0 rp⟩
def XTs (X:Cx) (ifs:List Expr) (T:FT):Prop:=PTs X ifs (tTt X.K T)
theorem PTs.wk {X:Cx}{e:List Expr}{t t':TT} (h:PTs X e t) (w:∀ σ H Q,t' σ H Q->t σ H Q):PTs X e t':=λ pins s σ H Q I q=>h pins s σ H Q I (w σ H Q q)
theorem i_2 {X:Cx}:XTs X [] Fx.tYes:=PTs.wk aI3 λ σ H Q hh0_=>by
 obtain⟨c,H0,ρ,b,ρ',R,f,q⟩:=hh0_;have f':some (true,ρ)=some (b,ρ'):=f;cases f';exact q H0 H (Same.refl _) R
theorem t_0 {X:Cx}{c:Expr}{T:FT} (h:XT X c T):XTs X [c] T:=aI2 h
section
variable {X:Cx}{scope sc:Scope}{x:Str}{frees:List Str}{js:List Nat}{px pos:Pos}{elt iter:Expr}{ifs:List Expr}{I F:FE}{T:FT}
theorem ah6 {ρ ρ':En}{d:D} (h:eLC js I T F ρ=some (d,ρ')):∃ z xs fr ys,I ρ=some (z,ρ')/\items z=some xs/\r_7 ρ' js=some fr/\cGo T F fr xs=some ys/\xs.length<=sizeLine/\d=.lst ys:=by
 unfold eLC at h;obtain⟨⟨z,ρ1⟩,h1,h⟩:=a_0 h;obtain⟨xs,h2,h⟩:=a_0 h;obtain⟨fr,h3,h⟩:=a_0 h;obtain⟨ys,h4,h⟩:=a_0 h;dsimp only at h2 h3 h4 h
 split at h
 ·rename_i hz
  cases h;exact⟨z,xs,fr,ys,h1,h2,h3,h4,hz,rfl⟩
 ·cases h
theorem xlc (hc:X.calm=true) (hsc:X.env.scope=sc) (B:ScB X.N sc scope x frees js) (hi:XE X iter I) (ht:∀ s H C fp,XTs (cxB X (x::frees) scope s H C fp) ifs T) (he:∀ s H C fp,XE (cxB X (x::frees) scope s H C fp) elt F)
  (hs:∀ v,foldedSetIterable iter X.env v=pure v:=by intro _;rfl):XE X (.ListComp elt [⟨.Name x px,iter,ifs,0⟩] scope pos) (eLC js I T F) :=
 PE.wk (bt9 (tt:=tTt X.K T) (te:=tE X.K F) hc hsc B (ar3 hi) ht he hs) λ σ H Q hh0_=>by
  obtain⟨c,H0,ρ,d,ρ',R,f,q⟩:=hh0_;obtain⟨z,xs,fr,ys,h1,h2,h3,h4,hz,rfl⟩:=ah6 f;refine i_8 R h1 h2 λ J H1 Hh s1 R1 hy=>?_
  refine aL8 R1 h3 h4 hz hy λ vs H2 Hh2 s2 R2 r2=>λ p hp=>?_
  have S:=Step.alloc (o:=.lst vs) R2.same hp;refine q _ _ _ (s1.trans (s2.trans S.s0)) (R2.after S) ?_;unfold Rep;exact⟨p,vs,rfl,.inl (.inl a_3),Reps.mono S.s0 _ r2⟩
end
def Post (K:Frag) (c:FC) (Dn:Ends) (H0:Hp):Res->Prop
 |.nx ρ'=>∀ σ' H0' H',Same H0 H0'->RS K c H0' H' ρ' σ'->Dn.nx σ' H'
 |.rt d ρ'=>∀ v σ' H0' H',Same H0 H0'->RS K c H0' H' ρ' σ'->Rep K H0' d v->Dn.rt v H'
 |.bk ρ'=>∀ σ' H0' H',Same H0 H0'->RS K c H0' H' ρ' σ'->Dn.bk σ' H'
 |.ct ρ'=>∀ σ' H0' H',Same H0 H0'->RS K c H0' H' ρ' σ'->Dn.ct σ' H'
def tS (K:Frag) (F:FS):TS:=λ Dn σ H=>∃ c H0 ρ r,RS K c H0 H ρ σ/\F ρ=some r/\Post K c Dn H0 r
def XS (X:Cx) (st:Stmt) (F:FS):Prop:=PS X st (tS X.K F)
def XSs (X:Cx) (sts:List Stmt) (F:FS):Prop:=PSs X sts (tS X.K F)
theorem Post.mono {K:Frag}{c:FC}{Dn:Ends}{H0 H1:Hp} (s:Same H0 H1):∀ {r:Res},Post K c Dn H0 r->Post K c Dn H1 r
 |.nx _,h=>λ σ' H0' H' z=>h σ' H0' H' (s.trans z)
 |.rt _ _,h=>λ v σ' H0' H' z=>h v σ' H0' H' (s.trans z)
 |.bk _,h=>λ σ' H0' H' z=>h σ' H0' H' (s.trans z)
 |.ct _,h=>λ σ' H0' H' z=>h σ' H0' H' (s.trans z)
theorem RS.set {K:Frag}{c:FC}{H0 H:Hp}{ρ:En}{σ:L2.St}{d:D}{v:V} (R:RS K c H0 H ρ σ) (i:Nat) (r:Rep K H0 d v):RS K c H0 H (ρ.set i (.im d)) (σ.set i (some v)):=by
 have hl:=R.len;have other:∀ (j:Nat) (sl:Sl),j≠i->(ρ.set i (.im d))[j]?=some sl->ρ[j]?=some sl:=λ j sl hj e=>by rwa [List.getElem?_set_ne (Ne.symm hj)] at e
 have otherS:∀ (j:Nat),j≠i->(σ.set i (some v))[j]?=σ[j]?:=λ j hj=>List.getElem?_set_ne (Ne.symm hj)
 have same:∀ (sl:Sl),(ρ.set i (.im d))[i]?=some sl->sl=.im d/\i<ρ.length:=λ sl e=>by
  by_cases hi:i<ρ.length
  ·rw[List.getElem?_set_self hi] at e;exact⟨(qi e).symm,hi⟩
  ·rw[List.getElem?_eq_none (by rw[List.length_set];omega)] at e;cases e
 refine⟨R.same,R.init,R.fresh,R.keep,R.apt,by rw[List.length_set,List.length_set,hl],λ j d' e=>?_,λ j bb o e=>?_,λ j k b1 b2 o o' a e1 e2 e3 e4=>?_⟩
 ·by_cases hj:j=i
  ·subst hj
   obtain⟨e',hi⟩:=same _ e;cases e';exact⟨v,by rw[List.getElem?_set_self (by omega)],r⟩
  ·rw[otherS j hj];exact R.im j d' (other j _ hj e)
 ·by_cases hj:j=i
  ·subst hj;obtain⟨e',_⟩:=same _ e;cases e'
  ·rw[otherS j hj];exact R.ow j bb o (other j _ hj e)
 ·by_cases hj:j=i
  ·subst hj;obtain⟨e',_⟩:=same _ e1;cases e'
  ·by_cases hk:k=i
   ·subst hk;obtain⟨e',_⟩:=same _ e2;cases e'
   ·rw[otherS j hj] at e3;rw[otherS k hk] at e4
    exact R.ne j k b1 b2 o o' a (other j _ hj e1) (other k _ hk e2) e3 e4
section
variable {X:Cx}{pos:Pos}{e:Expr}{F:FE}{T:FT}{A B:FS}
theorem xsN:XSs X [] sN:=PSs.wk aI5 λ Dn σ H hh0_=>by
 obtain⟨c,H0,ρ,r,R,f,q⟩:=hh0_;have f':some (Res.nx ρ)=some r:=f;cases f';exact q σ H0 H (Same.refl _) R
theorem xs1 {st:Stmt} (h:XS X st A):XSs X [st] A:=ab6 h
theorem xsC {st:Stmt}{rest:List Stmt} (h1:XS X st A) (h2:XSs X rest B):XSs X (st::rest) (b_4 A B):=PSs.wk (O_8 h1 h2) λ Dn σ H hh0_=>by
 obtain⟨c,H0,ρ,r,R,f,q⟩:=hh0_;unfold b_4 at f;obtain⟨z,h,f⟩:=a_0 f;refine⟨c,H0,ρ,z,R,h,?_⟩;cases z with
 |nx ρ1=>exact λ σ' H0' H' s R'=>⟨c,H0',ρ1,r,R',f,q.mono s⟩
 |rt d ρ1=>have f':some (Res.rt d ρ1)=some r:=f;cases f';exact q
 |bk ρ1=>have f':some (Res.bk ρ1)=some r:=f;cases f';exact q
 |ct ρ1=>have f':some (Res.ct ρ1)=some r:=f;cases f';exact q
theorem k_0 (i:Nat) {x:Str}{pos':Pos} (hN:X.N.Nodup) (he:XE X e F) (hi:X.N[i]?=some x:=by rfl) (hx:Loc X.env.scope x:=by first | exact Or.inl rfl | exact Or.inr rfl) (hs:swapsWith e (some (.Name x pos')) pos.line X.env=pure false:=by rfl)
  (hf:X.fn x=true\/X.env.scope.names.lookup x=some .local:=by first | exact .inl rfl | exact .inr rfl):XS X (.Assign [.Name x pos'] e pos) (e_6 i F):=PS.wk (D_9 hN hi hx he hs hf) λ Dn σ H hh0_=>by
 obtain⟨c,H0,ρ,r,R,f,q⟩:=hh0_;unfold e_6 at f;obtain⟨⟨d,ρ1⟩,h1,f⟩:=a_0 f;have f':some (Res.nx (ρ1.set i (.im d)))=some r:=f;cases f';exact⟨c,H0,ρ,d,ρ1,R,h1,λ v H1 Hh s1 R1 r1=>q _ H1 Hh s1 (R1.set i r1)⟩
theorem Y_6 (i:Nat) {y x:Str}{py px spos:Pos}{scope sc:Scope}{frees:List Str}{js:List Nat}{elt iter:Expr}{ifs:List Expr}{I:FE} (hN:X.N.Nodup) (hc:X.calm=true) (hsc:X.env.scope=sc) (Bk:ScB X.N sc scope x frees js) (hi:XE X iter I)
  (ht:∀ s H C fp,XTs (cxB X (x::frees) scope s H C fp) ifs T) (he:∀ s H C fp,XE (cxB X (x::frees) scope s H C fp) elt F) (hi':X.N[i]?=some y:=by rfl) (hy:X.env.scope.names.lookup y=some .local:=by rfl)
  (hsw:swapsWith (.ListComp elt [⟨.Name x px,iter,ifs,0⟩] scope pos) (some (.Name y py)) spos.line X.env=pure true:=by rfl)
  (hs:∀ v,foldedSetIterable iter X.env v=pure v:=by intro _;rfl):XS X (.Assign [.Name y py] (.ListComp elt [⟨.Name x px,iter,ifs,0⟩] scope pos) spos) (e_6 i (eLC js I T F)) :=
 PS.wk (O_9 (tt:=tTt X.K T) (te:=tE X.K F) hN hi' hy hc hsc Bk (ar3 hi) ht he hsw hs) λ Dn σ H hh0_=>by
  obtain⟨c,H0,ρ,r,R,f,q⟩:=hh0_;unfold e_6 at f;obtain⟨⟨d,ρ1⟩,h1,f⟩:=a_0 f;have f':some (Res.nx (ρ1.set i (.im d)))=some r:=f;cases f';obtain⟨z,xs,fr,ys,h0,h2,h3,h4,hz,rfl⟩:=ah6 h1;refine i_8 R h0 h2 λ J H1 Hh s1 R1 hy=>?_
  refine aL8 R1 h3 h4 hz hy λ vs H2 Hh2 s2 R2 r2=>λ p hp=>?_
  have S:=Step.alloc (o:=.lst vs) R2.same hp;refine q _ _ _ (s1.trans (s2.trans S.s0)) ((R2.after S).set i ?_);unfold Rep;exact⟨p,vs,rfl,.inl (.inl a_3),Reps.mono S.s0 _ r2⟩
theorem h_8 {c:Expr}{a b:List Stmt} (hc:XT X c T) (ha:XSs X a A) (hb:XSs X b B):XS X (.If c a b pos) (sIf T A B):=PS.wk (bt6 hc ha hb) λ Dn σ H hh0_=>by
 obtain⟨c,H0,ρ,r,R,f,q⟩:=hh0_;unfold sIf at f;obtain⟨⟨k,ρ1⟩,h1,f⟩:=a_0 f;dsimp only at f;refine⟨c,H0,ρ,k,ρ1,R,h1,λ H1 Hh s1 R1=>?_⟩
 cases k with
 |true =>
  rw[if_pos rfl] at f ⊢;exact⟨c,H1,ρ1,r,R1,f,q.mono s1⟩
 |false =>
  rw[if_neg Bool.false_ne_true] at f ⊢;exact⟨c,H1,ρ1,r,R1,f,q.mono s1⟩
theorem f_9 (he:XE X e F):XS X (.Return (some e) pos) (c_9 F):=PS.wk (az7 he) λ Dn σ H hh0_=>by
 obtain⟨c,H0,ρ,r,R,f,q⟩:=hh0_;unfold c_9 at f;obtain⟨⟨d,ρ1⟩,h1,f⟩:=a_0 f;have f':some (Res.rt d ρ1)=some r:=f;cases f';exact⟨c,H0,ρ,d,ρ1,R,h1,λ v H1 Hh s1 R1 r1=>q v σ H1 Hh s1 R1 r1⟩
abbrev GD:=D->En->Option En
def tG (K:Frag) (g:GD):TG:=λ v σ H Q=>∃ c H0 ρ d ρ',RS K c H0 H ρ σ/\Rep K H0 d v/\g d ρ=some ρ'/\∀ σ' H0' H',Same H0 H0'->RS K c H0' H' ρ' σ'->Q σ' H'
def tGs (K:Frag) (is:List Nat):TGs:=λ vs σ H Q=>∃ c H0 ρ ds,RS K c H0 H ρ σ/\Reps K H0 ds vs/\ds.length=is.length/\∀ σ' H0' H',Same H0 H0'->RS K c H0' H' (l_7 is ds ρ) σ'->Q σ' H'
def XG (X:Cx) (tg:Expr) (g:GD):Prop:=PG X tg (tG X.K g)
def XGs (X:Cx) (tgs:List Expr) (is:List Nat):Prop:=PGs X tgs (tGs X.K is)
theorem xgN (i:Nat) {x:Str} (hN:X.N.Nodup) (hi:X.N[i]?=some x:=by rfl) (hx:Loc X.env.scope x:=by first | exact Or.inl rfl | exact Or.inr rfl) (hf:X.fn x=true\/X.env.scope.names.lookup x=some .local:=by first | exact .inl rfl | exact .inr rfl):XG X (.Name x pos) (gN i) :=
 λ pins s σ H v u Q I rv hh0_=>by obtain⟨c,H0,ρ,d,ρ',R,r,f,q⟩:=hh0_;exact z_8 hN hi hx hf pins s σ H v u Q I rv (by
  have f':some (ρ.set i (.im d))=some ρ':=f;cases f';exact q _ H0 H (Same.refl _) (R.set i r))
theorem bC6:XGs X [] []:=λ pins s σ H vs us Q I rv hh0_=>by obtain⟨c,H0,ρ,ds,R,r,l,q⟩:=hh0_;exact ac1 pins s σ H vs us Q I rv (by
 have e:ds=[]:=List.length_eq_zero_iff.mp l;subst e;unfold Reps at r;exact⟨r,q σ H0 H (Same.refl _) (by simpa [U_1] using R)⟩)
theorem bj1 {e:Expr}{es:List Expr}{i:Nat}{is:List Nat} (h1:XG X e (gN i)) (h2:XGs X es is) (hs:(assignEach (e::es) X.env).map (·.2)=assign e X.env::(assignEach es X.env).map (·.2):=by rfl):XGs X (e::es) (i::is) :=
 λ pins s σ H vs us Q I rv hh0_=>by obtain⟨c,H0,ρ,ds,R,r,l,q⟩:=hh0_;exact z_7 h1 h2 hs pins s σ H vs us Q I rv (by
  cases ds with
  |nil=>simp at l
  |cons d ds =>
   unfold Reps at r;obtain⟨v,vr,rfl,r1,r2⟩:=r;refine⟨v,vr,rfl,c,H0,ρ,d,_,R,r1,rfl,λ σ1 H1 Hh s1 R1=>?_⟩
   exact⟨c,H1,_,ds,R1,Reps.mono s1 _ r2,by simpa using l,λ σ2 H2 Hh2 s2 R2=>q σ2 H2 Hh2 (s1.trans s2) (by simpa [J_6] using R2)⟩)
theorem q_4 {X:Cx}{s:Shared}{E:Value->Shared->Prop}{elts:List Expr}{k:Nat}{l:Addr}{items:Array Value}{Q:Unit->Shared->Prop} (hh:X.A.handled=none) (hl:s.heap.IsList l items)
  (hn:(assignEach elts X.env).length=items.size) (hstar:(assignEach elts X.env).findIdx? (·.1)=none)
  (h:∀ h',Heap.ExtBut s.heap.objs.size s.heap h'->wpAny (model X.prog X.w) X.A (assignInOrder ((assignEach elts X.env).map (·.2)) items.toList) Q E {s with heap:=h'}) :
  wpAny (model X.prog X.w) X.A (assign (.Tuple elts k pos) X.env (.ref l)) Q E s:=by
 rw[assign_Tuple];refine qb (wpAny_standAt ?_);unfold unpack;rw[hn,hstar];exact qb (wpAny_holding (PySem.W.kun_itemsOf hh hl h))
def bU0 (K:Frag) (n:Nat) (t:TGs):TG:=λ v σ H Q=>∃ a xs,v=.ref a/\SqL K H a xs/\xs.length=n/\t xs σ H Q
theorem aZ8 {es:List Expr}{k:Nat}{t:TGs}{n:Nat} (hc:X.calm=true) (h:PGs X es t)
  (hn:(assignEach es X.env).length=n:=by rfl) (hst:(assignEach es X.env).findIdx? (·.1)=none:=by rfl):PG X (.Tuple es k pos) (bU0 X.K n t):=by
 intro pins s σ H v u Q I r hw;obtain⟨a,xs,e1,hq,hl,hw⟩:=hw;subst e1;cases r;obtain⟨its,rv,pl,hz⟩:=I.list hq;refine q_4 (I.ok.hd hc) pl.isList (by simp[hn,<- hl,rv.length]) hst λ h' hx=>?_
 have I1:Inv X pins σ H {s with heap:=h'}:=I.kept (t':=s.toks) λ b o e=>hx b o (qv (qm e)) e
 exact h pins _ σ H xs _ Q I1 (by simpa using rv) hw
theorem xgT {es:List Expr}{k:Nat}{is:List Nat} (h:XGs X es is) (hc:X.calm=true:=by rfl) (hn:(assignEach es X.env).length=is.length:=by rfl) (hst:(assignEach es X.env).findIdx? (·.1)=none:=by rfl):XG X (.Tuple es k pos) (gT is) :=
 λ pins s σ H v u Q I rv hh0_=>by
  obtain⟨c,H0,ρ,d,ρ',R,r,f,q⟩:=hh0_;unfold gT at f;obtain⟨xs,h1,f⟩:=a_0 f
  split at f
  ·rename_i hl
   cases f;cases d with
   |tup ds =>
    refine az8 hc h hn hst pins s σ H v u Q I rv ?_;have e:ds=xs:=qi h1;subst e;unfold Rep at r;obtain⟨a,vs,rfl,sq,r⟩:=r;exact⟨a,vs,rfl,Same.seqT R.same sq,by rw[<- r.length];exact hl,c,H0,ρ,ds,R,r,hl,q⟩
   |lst ds =>
    refine aZ8 hc h hn hst pins s σ H v u Q I rv ?_;have e:ds=xs:=qi h1;subst e;unfold Rep at r;obtain⟨a,vs,rfl,sq,r⟩:=r;exact⟨a,vs,rfl,Same.seq R.same sq,by rw[<- r.length];exact hl,c,H0,ρ,ds,R,r,hl,q⟩
   |_=>cases h1
  ·cases f
theorem aD3 {tg:Expr}{is:List Nat} (hg:XG X tg (gT is)) (he:XE X e F) (hs:swapsWithSole [tg] e pos.line X.env=pure false:=by rfl) (hw:swappedStores [tg] e X.env=pure none:=by rfl)
  (h1:(assignEach [tg] X.env).map (·.2)=[assign tg X.env]:=by rfl):XS X (.Assign [tg] e pos) (bj6 is F):=PS.wk (aZ4 he hg hs hw h1) λ Dn σ H hh0_=>by
 obtain⟨c,H0,ρ,r,R,f,q⟩:=hh0_;unfold bj6 at f;obtain⟨⟨d,ρ1⟩,h1,f⟩:=a_0 f;obtain⟨ρ2,h2,f⟩:=a_0 f;have f':some (Res.nx ρ2)=some r:=f;cases f';exact⟨c,H0,ρ,d,ρ1,R,h1,λ v H1 Hh s1 R1 r1=>⟨c,H1,ρ1,d,ρ2,R1,r1,h2,λ σ' H2 Hh2 s2 R2=>q σ' H2 Hh2 (s1.trans s2) R2⟩⟩
theorem ag4 {K:Frag}{c:FC}{H1 Hh:Hp}{ρ:En}{σ:L2.St}{g:GD}{B:FS}{xs:List D}{J:It}{Dn:Ends}{r:Res} (R:RS K c H1 Hh ρ σ) (hf:fGo g B xs ρ=some r) (hy:r_3 K J H1 xs) (q:Post K c Dn H1 r) :
  ∃ W:Nat->Nat->L2.St->Hp->Prop,(∃ m,W 0 m σ Hh)/\∀ i m σ H,W i m σ H ->
   (J.stop i H/\Dn.nx σ H)\/(J.go i H/\∃ N:L2.St->Hp->Prop,(∀ σ' H',N σ' H'->∃ m',m'<m/\W (i+1) m' σ' H')/\∀ x H',J.yld i H x H'->tG K g x σ H' λ σ2 H2=>tS K B {Dn with nx:=N,ct:=N,bk:=Dn.nx} σ2 H2):=by
 refine⟨λ i m σ H=>m=xs.length-i/\i<=xs.length/\∃ H0 ρ,Same H1 H0/\RS K c H0 H ρ σ/\fGo g B (xs.drop i) ρ=some r,⟨xs.length,by simp,Nat.zero_le _,H1,ρ,Same.refl _,R,by simpa using hf⟩,?_⟩
 rintro i m σ H ⟨rfl,hi,H0,ρ,s0,R0,hg⟩;obtain⟨y1,y2⟩:=hy H0 H i s0 R0.same
 by_cases hlt:i<xs.length
 ·have hd:xs[i]?=some xs[i]:=by simp[hlt]
  obtain⟨go,yl⟩:=y1 _ hd;refine .inr ⟨go,λ σ' H'=>∃ m',m'<xs.length-i/\m'=xs.length-(i+1)/\i+1<=xs.length/\∃ H0 ρ,Same H1 H0/\RS K c H0 H' ρ σ'/\fGo g B (xs.drop (i+1)) ρ=some r,λ σ' H' ⟨m',a,b⟩=>⟨m',a,b⟩,λ x H' hx=>?_⟩
  obtain⟨rfl,rx⟩:=yl x H' hx;rw[v_0 hd,R_2] at hg;obtain⟨ρ1,g1,hg⟩:=a_0 hg;obtain⟨z,g2,hg⟩:=a_0 hg;refine⟨c,H0,ρ,_,ρ1,R0,rx,g1,λ σ1 H2 Hh2 s2 R2=>⟨c,H2,ρ1,z,R2,g2,?_⟩⟩
  cases z with
  |nx ρ2=>exact λ σ' H3 Hh3 s3 R3=>⟨_,by omega,rfl,hlt,H3,ρ2,s0.trans (s2.trans s3),R3,hg⟩
  |ct ρ2=>exact λ σ' H3 Hh3 s3 R3=>⟨_,by omega,rfl,hlt,H3,ρ2,s0.trans (s2.trans s3),R3,hg⟩
  |bk ρ2 =>
   have hg':some (Res.nx ρ2)=some r:=hg;cases hg';exact λ σ' H3 Hh3 s3 R3=>q σ' H3 Hh3 (s0.trans (s2.trans s3)) R3
  |rt d ρ2 =>
   have hg':some (Res.rt d ρ2)=some r:=hg;cases hg';exact λ v σ' H3 Hh3 s3 R3 r3=>q v σ' H3 Hh3 (s0.trans (s2.trans s3)) R3 r3
 ·have hn:xs.drop i=[]:=List.drop_eq_nil_of_le (by omega)
  rw[hn,ah0] at hg;have hg':some (Res.nx ρ)=some r:=hg;cases hg';exact .inl ⟨y2 (by omega),q σ H0 H s0 R0⟩
theorem bj3 {tg iter:Expr}{body:List Stmt}{g:GD} (hg:XG X tg g) (hi:XE X iter F) (hb:XSs X body B) (hp:PassesOwn (model X.prog X.w) X.A X.env X.xe:=by exact PassesOwn.never) (hc:X.calm=true:=by rfl) (hs:∀ x,foldedSetIterable iter X.env x=pure x:=by intro _;rfl) :
  XS X (.For tg iter body [] pos) (al0 g F B):=PS.wk (P_0 hp hc (ar3 hi) hg hb hs) λ Dn σ H hh0_=>by
 obtain⟨c,H0,ρ,r,R,f,q⟩:=hh0_;unfold al0 at f;obtain⟨⟨d,ρ1⟩,h1,f⟩:=a_0 f;obtain⟨xs,h2,f⟩:=a_0 f;exact i_8 R h1 h2 λ J H1 Hh s1 R1 hy=>ag4 R1 f hy (q.mono s1)
theorem Y_7 {tg a:Expr}{body:List Stmt}{g:GD}{p pos':Pos} (hm:X.mg "range"=none) (hg:XG X tg g) (ha:XE X a F) (hb:XSs X body B) (hgl:Gl X "range":=by rfl) (hp:PassesOwn (model X.prog X.w) X.A X.env X.xe:=by exact PassesOwn.never) (hc:X.calm=true:=by rfl)
  (hst:starEach [a] X.env=[(false,eval a X.env)]:=by rfl) (hs:∀ x,foldedSetIterable (.Call (.Name "range" p) [a] [] pos') X.env x=pure x:=by intro _;rfl) :
  XS X (.For tg (.Call (.Name "range" p) [a] [] pos') body [] pos) (w_0 g (rng1 F) B):=PS.wk (P_0 hp hc (E_1 hgl hm (i_3 ha o_8 hst) hst) hg hb hs) λ Dn σ H hh0_=>by
 obtain⟨c,H0,ρ,r,R,f,q⟩:=hh0_;unfold w_0 rng1 at f;obtain⟨⟨xs,ρ1⟩,h1,f⟩:=a_0 f;obtain⟨⟨d,ρ2⟩,h2,h1⟩:=a_0 h1;obtain⟨j,h3,h1⟩:=a_0 h1;dsimp only at h1 h3 f
 split at h1
 ·rename_i hj
  cases h1;refine⟨c,H0,ρ,d,_,R,h2,λ v H1 Hh s1 R1 r1=>?_⟩
  cases d with
  |int k =>
   have e:k=j:=qi h3;subst e;unfold Rep at r1;subst r1;exact⟨k,rfl,hj.1,hj.2,ag4 R1 f (p_3 0 k.toNat) (q.mono s1)⟩
  |_=>cases h3
 ·cases h1
theorem aV4 {tg a b:Expr}{body:List Stmt}{g:GD}{G:FE}{p pos':Pos} (hm:X.mg "range"=none) (hg:XG X tg g) (ha:XE X a F) (hb':XE X b G) (hb:XSs X body B) (hgl:Gl X "range":=by rfl) (hp:PassesOwn (model X.prog X.w) X.A X.env X.xe:=by exact PassesOwn.never) (hc:X.calm=true:=by rfl)
  (hst:starEach [a,b] X.env=[(false,eval a X.env),(false,eval b X.env)]:=by rfl) (hst':starEach [b] X.env=[(false,eval b X.env)]:=by rfl) (hs:∀ x,foldedSetIterable (.Call (.Name "range" p) [a,b] [] pos') X.env x=pure x:=by intro _;rfl) :
  XS X (.For tg (.Call (.Name "range" p) [a,b] [] pos') body [] pos) (w_0 g (bk7 F G) B):=PS.wk (P_0 hp hc (ac0 hgl hm (i_3 ha (i_3 hb' o_8 hst') (by rw[hst,hst'])) hst hst') hg hb hs) λ Dn σ H hh0_=>by
 obtain⟨c,H0,ρ,r,R,f,q⟩:=hh0_;unfold w_0 bk7 at f;obtain⟨⟨xs,ρ1⟩,h1,f⟩:=a_0 f;obtain⟨⟨d,ρ2⟩,h2,h1⟩:=a_0 h1;obtain⟨⟨d',ρ3⟩,h3,h1⟩:=a_0 h1;obtain⟨i,h4,h1⟩:=a_0 h1;obtain⟨j,h5,h1⟩:=a_0 h1;dsimp only at h1 h3 h4 h5 f
 split at h1
 ·rename_i hj
  cases h1;refine⟨c,H0,ρ,d,ρ2,R,h2,λ v H1 Hh s1 R1 r1=>?_⟩
  refine⟨c,H1,ρ2,d',_,R1,h3,λ v' H2 Hh2 s2 R2 r2=>?_⟩
  cases d with
  |int k =>
   cases d' with
   |int k' =>
    have e:k=i:=qi h4;have e':k'=j:=qi h5;subst e e';unfold Rep at r1 r2;subst r1 r2;exact⟨k,k',rfl,hj,ag4 R2 f (p_3 k (k'-k).toNat) (q.mono (s1.trans s2))⟩
   |_=>cases h5
  |_=>cases h4
 ·cases h1
end
theorem RS.start {K:Frag}{Hi H:Hp}{ds:List D}{vs:List V}{m n:Nat} (s:Same Hi H) (r:Reps K Hi ds vs) (hn:n-vs.length=m):RS K ⟨Hi,H,[]⟩ Hi H (ds.map .im++List.replicate m .no) (vs.map some++List.replicate (n-vs.length) none):=by
 have hl:=r.length;refine⟨s,Same.refl _,λ b o e=>.inl e,λ b o e _=>e,λ a h=>(by cases h),?_,λ i d e=>?_,λ i b o e=>?_,λ i j b b' o o' a e=>?_⟩
 ·rw[List.length_append,List.length_append,List.length_map,List.length_map,List.length_replicate,List.length_replicate,hl,hn]
 ·by_cases hi:i<ds.length
  ·rw[List.getElem?_append_left (by simpa using hi),List.getElem?_map] at e
   cases z:ds[i]? with
   |none=>rw[z] at e;cases e
   |some d' =>
    rw[z] at e;have e':d'=d:=by have:=qi e;injection this
    subst e';obtain⟨v,a,b⟩:=r.get z;exact⟨v,by rw[List.getElem?_append_left (by simp;omega),List.getElem?_map,a];rfl,b⟩
  ·rw[List.getElem?_append_right (by simpa using Nat.le_of_not_lt hi),List.getElem?_replicate] at e
   split at e <;> cases e
 ·by_cases hi:i<ds.length
  ·rw[List.getElem?_append_left (by simpa using hi),List.getElem?_map] at e
   cases z:ds[i]? with
   |none=>rw[z] at e;cases e
   |some d'=>rw[z] at e;cases e
  ·rw[List.getElem?_append_right (by simpa using Nat.le_of_not_lt hi),List.getElem?_replicate] at e
   split at e <;> cases e
 ·by_cases hi:i<ds.length
  ·rw[List.getElem?_append_left (by simpa using hi),List.getElem?_map] at e
   cases z:ds[i]? with
   |none=>rw[z] at e;cases e
   |some d'=>rw[z] at e;cases e
  ·rw[List.getElem?_append_right (by simpa using Nat.le_of_not_lt hi),List.getElem?_replicate] at e
   split at e <;> cases e
theorem h_9 {P:Program}{w:World}{K:Frag}{mg:Str->Option Value}{base:Heap}{x qual:Str}{st:Stmt}{f:Addr}{fd:FuncData}{N ps:List Str}{k n m:Nat}{B:FS} (F:Fun K x qual st f fd) (S:FnScope N ps (a_1 st)) (hn:ps.length=n) (hN:N.length=n+m)
  (hb:∀ (cdv:Value) (A:Around) (outer:List Env) (s:Shared) (H:Hp) (E:XK),Room k (A.deeper (envOfC qual (a_1 st) s.heap.objs.size f cdv))->XSs (aC7 CX0 P w K mg base N qual (a_1 st) f cdv A outer s H E).nox (k_7 st) B) :
  FnOk P w K mg base CX0 (k+1) f fd ps (spP K (fnD n m B)):=by
 have inv:∀ {ds:List D}{d:D},fnD n m B ds=some d->ds.length=n/\∃ r,B (ds.map .im++List.replicate m .no)=some r/\bs9 r=some d:=λ {ds d} h=>by
  unfold fnD at h
  split at h
  ·rename_i hl
   obtain⟨r,h1,h2⟩:=a_0 h;exact⟨hl,r,h1,h2⟩
  ·cases h
 refine F.ok S (λ vs H Q E h=>?_) (λ cdv A outer s H vs Q E hr h=>?_)
 ·obtain⟨Hi,ds,d,_,r,e,_⟩:=h
  rw[hn,<- r.length];exact (inv e).1
 ·obtain⟨Hi,ds,d,hs,r,e,q⟩:=h
  obtain⟨hl,res,h1,h2⟩:=inv e;refine⟨_,hb cdv A outer s H E hr,⟨Hi,H,[]⟩,Hi,_,res,RS.start (n:=N.length) (m:=m) hs r (by rw[<- r.length];omega),h1,?_⟩
  cases res with
  |nx ρ' =>
   have e':D.non=d:=qi h2;subst e';exact λ σ' H0' H' s0 R=>q .non H0' H' R.step (by unfold Rep;rfl)
  |rt d' ρ' =>
   have e':d'=d:=qi h2;subst e';exact λ v σ' H0' H' s0 R rv=>q v H0' H' R.step rv
  |bk ρ'=>cases h2
  |ct ρ'=>cases h2
theorem RS.heNone {K:Frag}{c:FC}{H0 H:Hp}{ρ:En}{σ:L2.St} (R:RS K c H0 H ρ σ) {p:Addr} (hp:H p=none):c.He p=none:=by
 cases q:c.He p with
 |none=>rfl
 |some u =>
  by_cases hb:p∈c.Ap
  ·exact absurd hp (R.apt p hb)
  ·rw[R.keep p u q hb] at hp;cases hp
theorem RS.setOwn {K:Frag}{c:FC}{H0 H:Hp}{ρ:En}{σ:L2.St}{p:Addr}{u:HO}{o:MO} (R:RS K c H0 H ρ σ) (i:Nat) (hp:H p=none) (r:OwOk K H0 (upd H p u) p o) :
  RS K c H0 (upd H p u) (ρ.set i (.ow false o)) (σ.set i (some (.ref p))):=by
 have hl:=R.len;have h0:H0 p=none:=R.same.free hp;have he:=R.heNone hp;have up:∀ b v,H b=some v->(upd H p u) b=some v:=λ b v e=>by rw[a_6 (b_1 e hp)];exact e
 have other:∀ (j:Nat) (sl:Sl),j≠i->(ρ.set i (.ow false o))[j]?=some sl->ρ[j]?=some sl:=λ j sl hj e=>by rwa [List.getElem?_set_ne (Ne.symm hj)] at e
 have otherS:∀ (j:Nat),j≠i->(σ.set i (some (V.ref p)))[j]?=σ[j]?:=λ j hj=>List.getElem?_set_ne (Ne.symm hj)
 have same:∀ (sl:Sl),(ρ.set i (.ow false o))[i]?=some sl->sl=.ow false o/\i<ρ.length:=λ sl e=>by
  by_cases hi:i<ρ.length
  ·rw[List.getElem?_set_self hi] at e;exact⟨(qi e).symm,hi⟩
  ·rw[List.getElem?_eq_none (by rw[List.length_set];omega)] at e;cases e
 have ownNe:∀ (j:Nat) (b:Bool) (o:MO) (a:Addr),ρ[j]?=some (.ow b o)->σ[j]?=some (some (.ref a))->a≠p:=λ j b o a e1 e2=>by
  obtain⟨a',x,_,_,w⟩:=R.ow j b o e1;rw[x] at e2;cases e2;obtain⟨u,q⟩:=w.some;exact b_1 q hp
 refine⟨λ b u e=>up b u (R.same b u e),R.init,R.fresh,λ b o e n=>up b o (R.keep b o e n),λ a ha e=>?_,by rw[List.length_set,List.length_set,hl],λ j d' e=>?_,λ j bb o' e=>?_,λ j k b1 b2 o1 o2 a e1 e2 e3 e4=>?_⟩
 ·cases q:H a with
  |none=>exact R.apt a ha q
  |some v=>rw[up a v q] at e;cases e
 ·by_cases hj:j=i
  ·subst hj;obtain⟨e',_⟩:=same _ e;cases e'
  ·rw[otherS j hj];exact R.im j d' (other j _ hj e)
 ·by_cases hj:j=i
  ·subst hj
   obtain⟨e',hi⟩:=same _ e;cases e';exact⟨p,by rw[List.getElem?_set_self (by omega)],h0,he,r⟩
  ·rw[otherS j hj]
   obtain⟨a,x,y,z,w⟩:=R.ow j bb o' (other j _ hj e);exact⟨a,x,y,z,w.step (Same.refl _) λ v q=>up a v q⟩
 ·by_cases hj:j=i
  ·by_cases hk:k=i
   ·omega
   ·subst hj
    obtain⟨_,hi⟩:=same _ e1;rw[List.getElem?_set_self (by omega)] at e3
    cases e3;rw[otherS k hk] at e4;exact absurd rfl (ownNe k b2 o2 _ (other k _ hk e2) e4)
  ·by_cases hk:k=i
   ·subst hk
    obtain⟨_,hi⟩:=same _ e2;rw[List.getElem?_set_self (by omega)] at e4
    cases e4;rw[otherS j hj] at e3;exact absurd rfl (ownNe j b1 o1 _ (other j _ hj e1) e3)
   ·rw[otherS j hj] at e3;rw[otherS k hk] at e4
    exact R.ne j k b1 b2 o1 o2 a (other j _ hj e1) (other k _ hk e2) e3 e4
theorem RS.lent {K:Frag}{c:FC}{H0 H H0' H':Hp}{ρ:En}{σ:L2.St}{a:Addr}{b:Bool}{o o':MO} (R:RS K c H0 H ρ σ) {i:Nat} (hi:ρ[i]?=some (.ow b o)) (ha:σ[i]?=some (some (.ref a)))
  (s0:Same H0 H0') (s':Same H0' H') (kp:∀ x u,H x=some u->x≠a->H' x=some u) (fr:∀ x u,H0' x=some u->H0 x=some u\/H x=none) (r:OwOk K H0' H' a o') :
  RS K c H0' H' (ρ.set i (.ow b o')) σ:=by
 obtain⟨a',x,y,z,w⟩:=R.ow i b o hi;rw[ha] at x;cases x;obtain⟨ua,qa⟩:=w.some;have il:i<ρ.length:=(List.getElem?_eq_some_iff.mp hi).1
 have n0:∀ x,H0 x=none->H x≠none->H0' x=none:=λ x h1 h2=>by
  cases q:H0' x with
  |none=>rfl
  |some u =>
   rcases fr x u q with h | h
   ·rw[h1] at h;cases h
   ·exact absurd h h2
 have other:∀ (j:Nat) (sl:Sl),j≠i->(ρ.set i (.ow b o'))[j]?=some sl->ρ[j]?=some sl:=λ j sl hj e=>by rwa [List.getElem?_set_ne (Ne.symm hj)] at e
 have same:∀ (sl:Sl),(ρ.set i (.ow b o'))[i]?=some sl->sl=.ow b o':=λ sl e=>by
  rw[List.getElem?_set_self il] at e;exact (qi e).symm
 have was:∀ (j:Nat) (bb:Bool) (oo:MO),(ρ.set i (.ow b o'))[j]?=some (.ow bb oo)->∃ bb o'',ρ[j]?=some (.ow bb o''):=λ j bb oo e=>by
  by_cases hj:j=i
  ·exact⟨b,o,by rw[hj];exact hi⟩
  ·exact⟨bb,oo,other j _ hj e⟩
 refine⟨s',R.init.trans s0,λ x u e=>?_,λ x u e n=>?_,λ x hx e=>?_,by rw[List.length_set];exact R.len,λ j d' e=>?_,λ j bb oo e=>?_,λ j k b1 b2 o1 o2 x e1 e2 e3 e4=>?_⟩
 ·rcases fr x u e with h | h
  ·exact R.fresh x u h
  ·exact .inr (R.heNone h)
 ·have:x≠a:=λ h=>by
   cases b with
   |true=>exact n (h▸z)
   |false =>
    have z':c.He a=none:=z;rw[h,z'] at e;cases e
  exact kp x u (R.keep x u e n) this
 ·by_cases h:x=a
  ·obtain⟨u,q⟩:=r.some
   rw[h,q] at e;cases e
  ·cases q:H x with
   |none=>exact R.apt x hx q
   |some u=>rw[kp x u q h] at e;cases e
 ·by_cases hj:j=i
  ·subst hj;cases same _ e
  ·obtain⟨v,a1,a2⟩:=R.im j d' (other j _ hj e)
   exact⟨v,a1,Rep.mono s0 _ a2⟩
 ·by_cases hj:j=i
  ·subst hj
   cases same _ e;exact⟨a,ha,n0 a y (by rw[qa];intro h;cases h),z,r⟩
  ·have q':=other j _ hj e
   obtain⟨x,x1,y1,z1,w1⟩:=R.ow j bb oo q';have nx:x≠a:=λ h=>hj (R.ne j i bb b oo o x q' hi x1 (by rw[h];exact ha))
   obtain⟨u,qu⟩:=w1.some;exact⟨x,x1,n0 x y1 (by rw[qu];intro h;cases h),z1,w1.step s0 λ v q=>kp x v q nx⟩
 ·obtain⟨_,p,e1⟩:=was j b1 o1 e1
  obtain⟨_,q,e2⟩:=was k b2 o2 e2;exact R.ne j k _ _ p q x e1 e2 e3 e4
theorem RS.mutOwn {K:Frag}{c:FC}{H0 H:Hp}{ρ:En}{σ:L2.St}{a:Addr}{b:Bool}{o o':MO}{u:HO} (R:RS K c H0 H ρ σ) {i:Nat} (hi:ρ[i]?=some (.ow b o)) (ha:σ[i]?=some (some (.ref a))) (r:OwOk K H0 (upd H a u) a o') :
  RS K c H0 (upd H a u) (ρ.set i (.ow b o')) σ:=by
 obtain⟨a',x,y,z,w⟩:=R.ow i b o hi;rw[ha] at x;cases x;refine R.lent hi ha (Same.refl _) (λ x v e=>?_) (λ x v e n=>by rw[a_6 n];exact e) (λ x v e=>.inl e) r
 have:x≠a:=λ h=>by rw[h,y] at e;cases e
 rw[a_6 this];exact R.same x v e
theorem RS.freeze {K:Frag}{c:FC}{H0 H:Hp}{ρ:En}{σ:L2.St}{ds:List D} (R:RS K c H0 H ρ σ) {i:Nat} (hi:ρ[i]?=some (.ow false (.lst ds))) :
  ∃ H0',Same H0 H0'/\RS K c H0' H (ρ.set i (.im (.lst ds))) σ:=by
 obtain⟨a,x,y,z,vs,e,r⟩:=R.ow i _ _ hi;have he:c.He a=none:=z;have il:i<ρ.length:=(List.getElem?_eq_some_iff.mp hi).1;have s0:Same H0 (upd H0 a (.lst vs)):=λ b u q=>by rw[a_6 (b_1 q y)];exact q
 have other:∀ (j:Nat) (sl:Sl),j≠i->(ρ.set i (.im (.lst ds)))[j]?=some sl->ρ[j]?=some sl:=λ j sl hj e=>by rwa [List.getElem?_set_ne (Ne.symm hj)] at e
 have same:∀ (sl:Sl),(ρ.set i (.im (.lst ds)))[i]?=some sl->sl=.im (.lst ds):=λ sl e=>by
  rw[List.getElem?_set_self il] at e;exact (qi e).symm
 refine⟨upd H0 a (.lst vs),s0,λ b u q=>?_,R.init.trans s0,λ b u q=>?_,R.keep,R.apt,by rw[List.length_set];exact R.len,λ j d' q=>?_,λ j bb o' q=>?_,λ j k b1 b2 o' o'' b e1 e2 e3 e4=>?_⟩
 ·by_cases h:b=a
  ·subst h;rw[a_3] at q;cases q;exact e
  ·rw[a_6 h] at q;exact R.same b u q
 ·by_cases h:b=a
  ·subst h;exact .inr he
  ·rw[a_6 h] at q;exact R.fresh b u q
 ·by_cases hj:j=i
  ·subst hj
   cases same _ q;refine⟨.ref a,x,?_⟩;unfold Rep;exact⟨a,vs,rfl,.inl (.inl a_3),Reps.mono s0 _ r⟩
  ·obtain⟨v,a1,a2⟩:=R.im j d' (other j _ hj q)
   exact⟨v,a1,Rep.mono s0 _ a2⟩
 ·by_cases hj:j=i
  ·subst hj;cases same _ q
  ·have q':=other j _ hj q
   obtain⟨b,x1,y1,z1,w1⟩:=R.ow j bb o' q';have nb:b≠a:=λ h=>hj (R.ne j i bb false o' _ b q' hi x1 (by rw[h];exact x))
   exact⟨b,x1,by rw[a_6 nb];exact y1,z1,w1.step s0 λ u q=>q⟩
 ·by_cases hj:j=i
  ·subst hj;cases same _ e1
  ·by_cases hk:k=i
   ·subst hk;cases same _ e2
   ·exact R.ne j k b1 b2 o' o'' b (other j _ hj e1) (other k _ hk e2) e3 e4
def tEo (K:Frag) (A:FA):TE:=λ σ H Q=>∃ c H0 ρ ds ρ',RS K c H0 H ρ σ/\A ρ=some (ds,ρ')/\∀ p vs H0' H',Same H0 H0'->RS K c H0' H' ρ' σ->H' p=none->Reps K H0' ds vs->Q (.ref p) (upd H' p (.lst vs))
def XO' (X:Cx) (e:Expr) (A:FA):Prop:=PE X e (tEo X.K A)
theorem i_4 {o:Option Sl}{ds:List D} (h:owL o=some ds):o=some (.ow false (.lst ds)):=by
 unfold owL at h
 split at h
 ·cases h;rfl
 ·cases h
section
variable {X:Cx}{pos:Pos}{e:Expr}{F:FE}{T:FT}{A B:FA}
theorem aD7 {es:List Expr} (h:XA X es A):XO' X (.List es pos) (aK0 A):=PE.wk (ac2 h) λ σ H Q hh0_=>by
 obtain⟨c,H0,ρ,ds,ρ',R,f,q⟩:=hh0_;unfold aK0 at f;obtain⟨⟨ds',ρ1⟩,h1,f⟩:=a_0 f;obtain⟨hl,f'⟩:=ifs f;cases f';exact⟨c,H0,ρ,ds,_,R,h1,λ vs H1 Hh s1 R1 r1=>⟨by rw[<- r1.length];exact ao5 hl,λ p hp=>q p vs H1 Hh s1 R1 hp r1⟩⟩
theorem aS9 (i:Nat) {x:Str}{pos':Pos} (hN:X.N.Nodup) (he:XO' X e A) (hi:X.N[i]?=some x:=by rfl) (hx:Loc X.env.scope x:=by first | exact Or.inl rfl | exact Or.inr rfl) (hs:swapsWith e (some (.Name x pos')) pos.line X.env=pure false:=by rfl)
  (hf:X.fn x=true\/X.env.scope.names.lookup x=some .local:=by first | exact .inl rfl | exact .inr rfl):XS X (.Assign [.Name x pos'] e pos) (aa7 i A):=PS.wk (D_9 hN hi hx he hs hf) λ Dn σ H hh0_=>by
 obtain⟨c,H0,ρ,r,R,f,q⟩:=hh0_;unfold aa7 at f;obtain⟨⟨ds,ρ1⟩,h1,f⟩:=a_0 f;have f':some (Res.nx (ρ1.set i (.ow false (.lst ds))))=some r:=f;cases f';exact⟨c,H0,ρ,ds,ρ1,R,h1,λ p vs H1 Hh s1 R1 hp r1=>q _ H1 _ s1 (R1.setOwn (o:=.lst ds) (u:=.lst vs) i hp ⟨vs,a_3,r1⟩)⟩
theorem aV5 (i:Nat) {x:Str}{p1 p2 p3:Pos} (ha:XA X [e] (aC F aN)) (hN:X.N[i]?=some x:=by rfl) (hv:Vis X.env.scope x:=by first | exact Or.inl rfl | exact Or.inr (Or.inl rfl) | exact Or.inr (Or.inr rfl)) (hd:(x==("__debug__":Str))=false:=by decide)
  (hcd:(x==("__classdict__":Str))=false:=by decide) (hbase:attributeBase (.Name x p1) "append" X.env (eval (.Name x p1) X.env)=eval (.Name x p1) X.env:=by rfl)
  (hfew:((backTo p3 (starEach [e] X.env)).all (λ x=>!x.1)&&(backToKw p3 (keywordEach [] X.env)).all (λ x=>x.1.isSome)&&decide ([e].length+([]:List Keyword).length+(if ([]:List Keyword).isEmpty then 0 else 1)<30))=true:=by rfl)
  (hline:(p2.endLine==p3.line)=true:=by rfl) (hst:starEach [e] X.env=(false,eval e X.env)::starEach [] X.env:=by rfl) (hpl:(backTo p3 (starEach [] X.env)).any (·.1)=false:=by rfl)
  (hs:swapsWith (.Call (.Attribute (.Name x p1) "append" p2) [e] [] p3) none pos.line X.env=pure false:=by rfl) :
  XS X (.Expr (.Call (.Attribute (.Name x p1) "append" p2) [e] [] p3) pos) (aq0 i F) :=
 PS.wk (t_7 (K_1 PySem.F.plainAttrs_list PySem.F.slot_list_append PySem.F.type_list_append ad9 (o_7 hN hv hd hcd) ha hbase hfew hline hst hpl) hs) λ Dn σ H hh0_=>by
  obtain⟨c,H0,ρ,r,R,f,q⟩:=hh0_;unfold aq0 at f;obtain⟨ds0,h0,f⟩:=a_0 f;obtain⟨⟨d,ρ1⟩,h1,f⟩:=a_0 f;obtain⟨ds,h2,f⟩:=a_0 f;dsimp only at h2 f;obtain⟨hl,f'⟩:=ifs f;cases f';obtain⟨a,x1,_,_,vs0,y1,_⟩:=R.ow i _ _ (i_4 h0);refine⟨.ref a,x1,.inl ⟨rfl,vs0,SqL.of y1⟩,c,H0,ρ,[d],ρ1,R,by unfold aC aN;rw[h1];rfl,λ vs H1 Hh s1 R1 r1=>?_⟩
  obtain⟨v,rfl,rv⟩:=Reps.v1 r1;obtain⟨a',x2,_,_,ws,y2,z2⟩:=R1.ow i _ _ (i_4 h2);rw[x1] at x2;cases x2;refine⟨a,ws,v,rfl,rfl,y2,?_,?_⟩
  ·rw[<- z2.length]
   exact qt hl (by rw[sizeLine_eq];decide)
  ·exact q σ H1 _ s1 (R1.mutOwn (o':=.lst (ds++[d])) (u:=.lst (ws++[v])) (i_4 h2) x1 ⟨_,a_3,z2.app (Reps.one rv)⟩)
theorem aT0 (i:Nat) {st:Stmt}{G:FS} (h:XS X st G):XS X st (O_0 i G):=PS.wk h λ Dn σ H hh0_=>by
 obtain⟨c,H0,ρ,r,R,f,q⟩:=hh0_;unfold O_0 frz at f;cases z:ρ[i]? with
 |none=>rw[z] at f;exact⟨c,H0,ρ,r,R,f,q⟩
 |some sl =>
  rw[z] at f;cases sl with
  |no=>exact⟨c,H0,ρ,r,R,f,q⟩
  |im d=>exact⟨c,H0,ρ,r,R,f,q⟩
  |ow b o =>
   cases b with
   |true=>exact⟨c,H0,ρ,r,R,f,q⟩
   |false =>
   cases o with
   |dic kds=>exact⟨c,H0,ρ,r,R,f,q⟩
   |lst ds =>
    obtain⟨H0',s0,R'⟩:=R.freeze z;exact⟨c,H0',_,r,R',f,q.mono s0⟩
end
section
variable {X:Cx}{scope sc:Scope}{x:Str}{frees:List Str}{js:List Nat}{px pos p pos':Pos}{elt a b:Expr}{ifs:List Expr}{F G I:FE}{T:FT}
theorem aQ5 {R:FA}{ρ ρ':En}{d:D} (h:eLR js R T F ρ=some (d,ρ')):∃ xs fr ys,R ρ=some (xs,ρ')/\r_7 ρ' js=some fr/\cGo T F fr xs=some ys/\xs.length<=sizeLine/\d=.lst ys:=by
 unfold eLR at h;obtain⟨⟨xs,ρ1⟩,h1,h⟩:=a_0 h;obtain⟨fr,h3,h⟩:=a_0 h;obtain⟨ys,h4,h⟩:=a_0 h;dsimp only at h3 h4 h;obtain⟨hz,h⟩:=Fx.ifs h;cases h;exact⟨xs,fr,ys,h1,h3,h4,hz,rfl⟩
end
section
variable {X:Cx}{K:Frag}
theorem p_6 (H:Hp) (x:Str):Rep K H (.str x) (.str x):=by unfold Rep;rfl
theorem bT5:OpD K (rIx K) a_8:=λ c H0 H ρ σ x y d vx vy Q R r1 r2 e q=>by
 cases y with
 |int i =>
  unfold Rep at r2;subst r2;cases x with
  |tup ds =>
   unfold Rep at r1;obtain⟨p,vs,rfl,s,t⟩:=r1;obtain⟨v,e1,e2⟩:=bi3 t e;exact .inr (.inl ⟨p,vs,i,v,rfl,rfl,Same.seqT R.same s,e1,q v H0 H (Same.refl _) R e2⟩)
  |lst ds =>
   unfold Rep at r1;obtain⟨p,vs,rfl,s,t⟩:=r1;obtain⟨v,e1,e2⟩:=bi3 t e;exact .inl ⟨p,vs,i,v,rfl,rfl,Same.seq R.same s,e1,q v H0 H (Same.refl _) R e2⟩
  |str z =>
   unfold Rep at r1;subst r1;have e:atS z i=some d:=e;unfold atS at e
   by_cases hz:z.length<=sizeLine
   ·rw[if_pos hz] at e
    obtain⟨ch,e1,e2⟩:=a_0 e;have e2:some (D.str (chS ch))=some d:=e2;cases e2;exact .inr (.inr ⟨z,i,ch,rfl,rfl,hz,e1,q _ H0 H (Same.refl _) R (p_6 H0 (chS ch))⟩)
   ·rw[if_neg hz] at e;cases e
  |_=>cases e
 |_=>cases x <;> cases e
variable {a b:Expr}{F G:FE}{pos:Pos}
theorem c_6 (ha:XE X a F) (hb:XE X b G) (hs:M_9 b:=by intro _ _;rfl):XE X (.Subscript a b pos) (e2 a_8 F G):=PE.wk (bu0 be0 ha hb hs) λ σ H Q h=>N_4 bT5 h
theorem d_2:BOk X (.builtin "len") f_3:=⟨_,call_len_seq.or H_3,λ c H0 H ρ σ ds d vs Q R r e q=>by
 unfold f_3 at e
 split at e
 ·cases e
  obtain⟨v,rfl,rv⟩:=Reps.v1 r;unfold Rep at rv;obtain⟨p,ws,rfl,s,t⟩:=rv;exact .inl ⟨p,ws,rfl,.inl (Same.seq R.same s),by rw[<- t.length];exact q _ H0 H (Same.refl _) R (c_8 _ _)⟩
 ·cases e
  obtain⟨v,rfl,rv⟩:=Reps.v1 r;unfold Rep at rv;obtain⟨p,ws,rfl,s,t⟩:=rv;exact .inl ⟨p,ws,rfl,.inr (Same.seqT R.same s),by rw[<- t.length];exact q _ H0 H (Same.refl _) R (c_8 _ _)⟩
 ·rename_i z
  obtain⟨hz,rfl⟩:=ifs e;obtain⟨v,rfl,rv⟩:=Reps.v1 r;unfold Rep at rv;subst rv;exact .inr ⟨z,rfl,hz,q _ H0 H (Same.refl _) R (c_8 _ _)⟩
 ·cases e⟩
theorem xTy {T:String}{g:List D → Option D}{A:FA}{x:Str}{p:Pos}{e:Expr}{es:List Expr} (o:BOk X (.type T) g) (hg:Gl X x) (hm:X.mg x=none) (hv:bootBuiltins x=some (.type T)) (ha:XA X (e::es) A) (hn:x≠"__name__":=by decide) (hdb:(x==("__debug__":Str))=false:=by decide)
  (he:starEach (e::es) X.env=(false,eval e X.env)::starEach es X.env:=by rfl) (hpl:(backTo pos (starEach es X.env)).any (·.1)=false:=by rfl):XE X (.Call (.Name x p) (e::es) [] pos) (eF g A):=by
 obtain⟨r,h1,h2⟩:=o;exact PE.wk (E_2 h1 hg hm hv ha hn hdb he hpl) λ σ H Q h=>bg5 h2 h
theorem C_4:BOk X (.type "int") am7:=⟨_,aj7,λ c H0 H ρ σ ds d vs Q R r e q=>by
 unfold am7 at e
 split at e
 ·cases e
  obtain⟨v,rfl,rv⟩:=Reps.v1 r;unfold Rep at rv;subst rv;exact .inl ⟨_,rfl,q _ H0 H (Same.refl _) R (c_8 _ _)⟩
 ·cases e
  obtain⟨v,rfl,rv⟩:=Reps.v1 r;unfold Rep at rv;subst rv;exact .inr ⟨_,rfl,q _ H0 H (Same.refl _) R (c_8 _ _)⟩
 ·cases e⟩
theorem s_8:BOk X (.type "list") s_0:=⟨_,H_2,λ c H0 H ρ σ ds d vs Q R r e q=>by
 unfold s_0 at e
 split at e
 ·cases e
  obtain⟨v,rfl,rv⟩:=Reps.v1 r;unfold Rep at rv;obtain⟨p,ws,rfl,s,t⟩:=rv;refine⟨p,ws,rfl,.inl (Same.seq R.same s),λ l hl=>?_⟩
  have S:=Step.alloc (o:=.lst ws) R.same hl;refine q _ _ _ S.s0 (R.after S) ?_;unfold Rep;exact⟨l,_,rfl,.inl (.inl a_3),Reps.mono S.s0 _ t⟩
 ·cases e
  obtain⟨v,rfl,rv⟩:=Reps.v1 r;unfold Rep at rv;obtain⟨p,ws,rfl,s,t⟩:=rv;refine⟨p,ws,rfl,.inr (Same.seqT R.same s),λ l hl=>?_⟩
  have S:=Step.alloc (o:=.lst ws) R.same hl;refine q _ _ _ S.s0 (R.after S) ?_;unfold Rep;exact⟨l,_,rfl,.inl (.inl a_3),Reps.mono S.s0 _ t⟩
 ·cases e⟩
theorem j_9:BOk X (.type "tuple") m_0:=⟨_,C_3,λ c H0 H ρ σ ds d vs Q R r e q=>by
 unfold m_0 at e
 split at e
 ·cases e
  obtain⟨v,rfl,rv⟩:=Reps.v1 r;unfold Rep at rv;obtain⟨p,ws,rfl,s,t⟩:=rv;refine⟨p,ws,rfl,.inl ⟨Same.seq R.same s,λ l hl=>?_⟩⟩
  have S:=Step.alloc (o:=.tup ws) R.same hl;refine q _ _ _ S.s0 (R.after S) ?_;unfold Rep;exact⟨l,_,rfl,.inl (.inl a_3),Reps.mono S.s0 _ t⟩
 ·cases e
  obtain⟨v,rfl,rv⟩:=Reps.v1 r;have rv':=rv;unfold Rep at rv;obtain⟨p,ws,rfl,s,t⟩:=rv;exact⟨p,ws,rfl,.inr ⟨Same.seqT R.same s,q _ H0 H (Same.refl _) R rv'⟩⟩
 ·cases e⟩
theorem B_6 {H:Hp}{d:D}{v:V} (h:W_0 d=true) (r:Rep K H d v):w_4 v=true/\∀ d' v',W_0 d'=true->Rep K H d' v'->eqV v v'=eqD d d':=by
 cases d with
 |tup xs=>cases h
 |lst xs=>cases h
 |dct ks vs=>cases h
 |_ =>
  unfold Rep at r;subst r;refine⟨rfl,λ d' v' h' r'=>?_⟩
  cases d' with
  |tup xs=>cases h'
  |lst xs=>cases h'
  |dct ks vs=>cases h'
  |_ =>
   unfold Rep at r';subst r'
   first
    |(simp[eqV];done)
    |(simp[eqV,eqD];done)
    |(simp[eqV,eqD,Bool.beq_eq_decide_eq];done)
    |(unfold eqV;simp)
theorem af5 {H:Hp}{x:D}{v:V} (hx:W_0 x=true) (r:Rep K H x v):∀ {ds:List D}{vs:List V},ds.all W_0=true->Reps K H ds vs->vs.all w_4=true/\inV v vs=inD x ds
 |[],vs,_,t=>by
  unfold Reps at t;subst t;exact⟨rfl,rfl⟩
 |d::ds,vs,h,t=>by
  unfold Reps at t;obtain⟨u,us,rfl,t1,t2⟩:=t;rw[List.all_cons,Bool.and_eq_true] at h;obtain⟨i1,i2⟩:=af5 hx r h.2 t2;obtain⟨f1,f2⟩:=B_6 h.1 t1;refine⟨by rw[List.all_cons,f1,i1];rfl,?_⟩
  unfold inV inD at *;rw[List.any_cons,List.any_cons,f2 x v hx r,i2]
theorem be6 {neg:Bool}{f:D->D->Option D} (hf:∀ x y d,f x y=some d->∃ xs,(y=.tup xs\/y=.lst xs)/\P_4 x xs=true/\d=.bl (if neg then !inD x xs else inD x xs)):OpD K (rIn K neg) f:=λ c H0 H ρ σ x y d vx vy Q R r1 r2 e q=>by
 obtain⟨xs,hy,ok,rfl⟩:=hf x y d e;unfold P_4 at ok;rw[Bool.and_eq_true] at ok
 rcases hy with rfl | rfl
 ·unfold Rep at r2
  obtain⟨p,ws,rfl,s,t⟩:=r2;obtain⟨i1,i2⟩:=af5 ok.1 r1 ok.2 t;exact⟨p,ws,rfl,.inr (Same.seqT R.same s),(B_6 ok.1 r1).1,i1,by rw[i2];exact q _ H0 H (Same.refl _) R (n_2 _ _)⟩
 ·unfold Rep at r2
  obtain⟨p,ws,rfl,s,t⟩:=r2;obtain⟨i1,i2⟩:=af5 ok.1 r1 ok.2 t;exact⟨p,ws,rfl,.inl (Same.seq R.same s),(B_6 ok.1 r1).1,i1,by rw[i2];exact q _ H0 H (Same.refl _) R (n_2 _ _)⟩
end
def p_2 (ks:List Str) (vs:List V):List (Key×V):=(ks.map Sum.inr).zip vs
theorem o_4 (k:Str) (ks:List Str) (v:V) (vs:List V):p_2 (k::ks) (v::vs)=(Sum.inr k,v)::p_2 ks vs:=rfl
section
variable {K:Frag}{H:Hp}
theorem N_2 {k:Str}{d:D}:∀ {kds:List (Str×D)}{vs:List V},Reps K H (kds.map (·.2)) vs->l_6 k kds=some d->∃ v,D_0 (p_2 (kds.map (·.1)) vs) (.inr k)=some v/\Rep K H d v
 |[],_,_,e=>by cases e
 |q::r,vs,t,e=>by
  rw[List.map_cons] at t;unfold Reps at t;obtain⟨v,vr,rfl,t1,t2⟩:=t;rw[List.map_cons,o_4];unfold l_6 at e
  by_cases hk:q.1=k
  ·rw[if_pos hk] at e
   cases e;exact⟨v,s_1 (by rw[hk]),t1⟩
  ·rw[if_neg hk] at e
   obtain⟨u,e1,e2⟩:=N_2 t2 e;exact⟨u,by rw[m_2 λ z=>hk (Sum.inr.inj z)];exact e1,e2⟩
theorem aA8 {k:Str}{d:D}{v:V} (rv:Rep K H d v):∀ {kds:List (Str×D)}{vs:List V},Reps K H (kds.map (·.2)) vs->∃ vs',(p_2 (kds.map (·.1)) vs).map (λ kv=>if kv.1=Sum.inr k then (kv.1,v) else kv)=p_2 ((aF3 k d kds).map (·.1)) vs'/\Reps K H ((aF3 k d kds).map (·.2)) vs'
 |[],vs,t=>⟨[],rfl,Reps.nil_⟩
 |q::r,vs,t=>by
  rw[List.map_cons] at t;unfold Reps at t;obtain⟨u,ur,rfl,t1,t2⟩:=t;obtain⟨vs',e1,e2⟩:=aA8 rv t2;unfold aF3;rw[List.map_cons,o_4,List.map_cons,e1]
  by_cases hk:q.1=k
  ·refine⟨v::vs',?_,?_⟩
   ·rw[if_pos (show (Sum.inr q.1:Key)=Sum.inr k by rw[hk]),if_pos hk];rfl
   ·rw[if_pos hk];exact Reps.cons rv e2
  ·refine⟨u::vs',?_,?_⟩
   ·rw[if_neg (show ¬ (Sum.inr q.1:Key)=Sum.inr k from λ z=>hk (Sum.inr.inj z)),if_neg hk];rfl
   ·rw[if_neg hk];exact Reps.cons t1 e2
theorem aZ1 {k:Str}{d d0:D}{v:V}{kds:List (Str×D)}{vs:List V} (rv:Rep K H d v) (t:Reps K H (kds.map (·.2)) vs) (h:l_6 k kds=some d0) :
  ∃ vs',D_8 (p_2 (kds.map (·.1)) vs) (.inr k) v=p_2 ((aF3 k d kds).map (·.1)) vs'/\Reps K H ((aF3 k d kds).map (·.2)) vs':=by
 obtain⟨u,e,_⟩:=N_2 t h;obtain⟨vs',e1,e2⟩:=aA8 (k:=k) rv t;refine⟨vs',?_,e2⟩;unfold D_8;rw[s_2,e,if_pos (show (some u).isSome=true from rfl)];exact e1
end
theorem P_2 {o:Option Sl}{q:Bool×List (Str×D)} (h:owD o=some q):o=some (.ow q.1 (.dic q.2)):=by
 unfold owD at h
 split at h
 ·cases h;rfl
 ·cases h
section
variable {X:Cx}{pos:Pos}{e:Expr}{F:FE}{A:FA}
theorem bv6 {n:Nat} (h:n<100):n<sizeLine:=t_3 (by omega)
theorem an2 {K:Frag}{H:Hp}{kds:List (Str×D)}{vs:List V} (t:Reps K H (kds.map (·.2)) vs):(p_2 (kds.map (·.1)) vs).length=kds.length:=by
 have hl:=t.length;rw[List.length_map] at hl;unfold p_2;rw[List.length_zip,List.length_map,List.length_map,<- hl,Nat.min_self]
def spB (K:Frag) (g:MO->List D->Option (D×MO)):Sp:=λ vs H Q _=>∃ Hi a o vr ds d o',vs=.ref a::vr/\Same Hi H/\Hi a=none/\OwOk K Hi H a o/\Reps K Hi ds vr/\g o ds=some (d,o') /\
 ∀ v Hi' H',Same Hi Hi'->Same Hi' H'->(∀ b u,H b=some u->b≠a->H' b=some u)->(∀ b u,Hi' b=some u->Hi b=some u\/H b=none)->OwOk K Hi' H' a o'->Rep K Hi' d v->Q v H'
structure DefB (P:Program) (w:World) (K:Frag) (mg:Str->Option Value) (base:Heap) (k:Nat) (x:Str) (g:MO->List D->Option (D×MO)):Prop where
 ex:∃ f fd ps,FnOk P w K mg base CX0 k f fd ps (spB K g)/\Binds K fd ps []/\keepIn K (.ref f)=true/\mg x=some (.ref f)
end
def aS6 (K:Frag) (Hi H:Hp) (o:MO) (a:Addr) (Hi' H':Hp):Prop :=
 Same Hi Hi'/\Same Hi' H'/\Same H H'/\(∀ b u,Hi' b=some u->Hi b=some u\/H b=none)/\Hi' a=none/\H a=none/\OwOk K Hi' H' a o
def spN (K:Frag) (g:List D->Option MO):Sp:=λ vs H Q _=>∃ Hi ds o,Same Hi H/\Reps K Hi ds vs/\g ds=some o/\∀ a Hi' H',aS6 K Hi H o a Hi' H'->Q (.ref a) H'
structure DefN (P:Program) (w:World) (K:Frag) (mg:Str->Option Value) (base:Heap) (k:Nat) (x:Str) (g:List D->Option MO):Prop where
 ex:∃ f fd ps,FnOk P w K mg base CX0 k f fd ps (spN K g)/\Binds K fd ps []/\keepIn K (.ref f)=true/\mg x=some (.ref f)
theorem RS.got {K:Frag}{c:FC}{H0 H H0' H':Hp}{ρ:En}{σ:L2.St}{a:Addr}{o:MO} (R:RS K c H0 H ρ σ) (i:Nat) (h:aS6 K H0 H o a H0' H'):RS K c H0' H' (ρ.set i (.ow false o)) (σ.set i (some (.ref a))):=by
 obtain⟨s0,s',s,fr,a0,aH,ok⟩:=h;obtain⟨u,hu⟩:=ok.some
 have R2:RS K c H0' (λ b=>if b=a then none else H' b) ρ σ:=R.after ⟨s0,λ b v e=>by
  have:b≠a:=λ z=>by rw[z,aH] at e;cases e
  show (if b=a then none else H' b)=some v
  rw[if_neg this];exact s b v e,λ b v e=>by
  have:b≠a:=λ z=>by rw[z,a0] at e;cases e
  show (if b=a then none else H' b)=some v;rw[if_neg this];exact s' b v e,fr⟩
 have hup:upd (λ b=>if b=a then none else H' b) a u=H':=by
  funext b
  by_cases hb:b=a
  ·rw[hb,a_3,hu]
  ·rw[a_6 hb];exact if_neg hb
 have:=R2.setOwn (u:=u) (o:=o) (p:=a) i (if_pos rfl) (by rw[hup];exact ok)
 rw[hup] at this;exact this
section
variable {X:Cx}{pos:Pos}{e:Expr}{F:FE}{A:FA}
theorem bM6 (i:Nat) {k:Nat}{x y:Str}{g:List D->Option MO}{p pos' cpos:Pos}{es:List Expr} (hN:X.N.Nodup) (G:DefN X.prog X.w X.K X.mg X.base k x g) (hr:Room k X.A) (ha:XA X (e::es) A) (hi:X.N[i]?=some y:=by rfl) (hx:Loc X.env.scope y:=by first | exact Or.inl rfl | exact Or.inr rfl)
  (hs:swapsWith (.Call (.Name x p) (e::es) [] cpos) (some (.Name y pos')) pos.line X.env=pure false:=by rfl) (hf:X.fn y=true\/X.env.scope.names.lookup y=some .local:=by first | exact .inl rfl | exact .inr rfl)
  (hg:Gl X x:=by rfl) (hdb:(x==("__debug__":Str))=false:=by decide) (he:starEach (e::es) X.env=(false,eval e X.env)::starEach es X.env:=by rfl) (hpl:(backTo cpos (starEach es X.env)).any (·.1)=false:=by rfl) :
  XS X (.Assign [.Name y pos'] (.Call (.Name x p) (e::es) [] cpos) pos) (aX4 i g A):=by
 obtain⟨f,fd,ps,F,hb,hk,hm⟩:=G.ex;refine PS.wk (D_9 hN hi hx (K_0 F hr hg hm hk hb .nil aJ4 ha hdb he hpl) hs hf) λ Dn σ H hh0_=>?_
 obtain⟨c,H0,ρ,r,R,f,q⟩:=hh0_;unfold aX4 at f;obtain⟨⟨ds,ρ1⟩,h1,f⟩:=a_0 f;obtain⟨o,h2,f⟩:=a_0 f;have f':some (Res.nx (ρ1.set i (.ow false o)))=some r:=f;cases f';exact⟨c,H0,ρ,ds,ρ1,R,h1,λ vs H1 Hh s1 R1 r1=>⟨H1,ds,o,R1.same,by rw[List.append_nil];exact r1,h2,λ a Hi' H' nw=>q _ Hi' H' (s1.trans nw.1) (R1.got i nw)⟩⟩
def tN (K:Frag) (F:En->Option MO):TS:=λ Dn σ H=>∃ Hi He H0 ρ o,RS K ⟨Hi,He,[]⟩ H0 H ρ σ/\F ρ=some o/\∀ a H0' H',aS6 K Hi He o a H0' H'->Dn.rt (.ref a) H'
def XN (X:Cx) (sts:List Stmt) (F:En->Option MO):Prop:=PSs X sts (tN X.K F)
theorem xnC {st:Stmt}{rest:List Stmt}{B:FS}{N:En->Option MO} (h1:PS X st (λ Dn σ H=>∃ Hi He H0 ρ r,RS X.K ⟨Hi,He,[]⟩ H0 H ρ σ/\B ρ=some r/\Post X.K ⟨Hi,He,[]⟩ Dn H0 r)) (h2:XN X rest N):XN X (st::rest) (aT3 B N) :=
 PSs.wk (O_8 h1 h2) λ Dn σ H hh0_=>by
  obtain⟨Hi,He,H0,ρ,o,R,f,q⟩:=hh0_;unfold aT3 at f;obtain⟨z,h,f⟩:=a_0 f;refine⟨Hi,He,H0,ρ,z,R,h,?_⟩;cases z with
  |nx ρ1=>exact λ σ' H0' H' s R'=>⟨Hi,He,H0',ρ1,o,R',f,q⟩
  |rt d ρ1=>cases f
  |bk ρ1=>cases f
  |ct ρ1=>cases f
theorem xnS {st:Stmt}{B:FS} (h:XS X st B):PS X st (λ Dn σ H=>∃ Hi He H0 ρ r,RS X.K ⟨Hi,He,[]⟩ H0 H ρ σ/\B ρ=some r/\Post X.K ⟨Hi,He,[]⟩ Dn H0 r) :=
 PS.wk h λ Dn σ H ⟨Hi,He,H0,ρ,r,R,f,q⟩=>⟨⟨Hi,He,[]⟩,H0,ρ,r,R,f,q⟩
end
theorem bf2 {P:Program}{w:World}{K:Frag}{mg:Str->Option Value}{base:Heap}{x qual:Str}{st:Stmt}{f:Addr}{fd:FuncData}{N ps:List Str}{k n m:Nat}{B:En->Option MO} (F:Fun K x qual st f fd) (S:FnScope N ps (a_1 st)) (hn:ps.length=n) (hN:N.length=n+m)
  (hb:∀ (cdv:Value) (A:Around) (outer:List Env) (s:Shared) (H:Hp) (E:XK),Room k (A.deeper (envOfC qual (a_1 st) s.heap.objs.size f cdv))->XN (aC7 CX0 P w K mg base N qual (a_1 st) f cdv A outer s H E).nox (k_7 st) B) :
  FnOk P w K mg base CX0 (k+1) f fd ps (spN K (fnN n m B)):=by
 refine F.ok S (λ vs H Q E h=>?_) (λ cdv A outer s H vs Q E hr h=>?_)
 ·obtain⟨Hi,ds,o,_,r,e,_⟩:=h
  unfold fnN at e
  split at e
  ·rename_i hl;rw[hn,<- r.length];exact hl
  ·cases e
 ·obtain⟨Hi,ds,o,hs,r,e,q⟩:=h
  unfold fnN at e
  split at e
  ·rename_i hl
   exact⟨_,hb cdv A outer s H E hr,Hi,H,Hi,_,o,RS.start (n:=N.length) (m:=m) hs r (by rw[<- r.length];omega),e,q⟩
  ·cases e
section
variable {X:Cx}{K:Frag}{pos:Pos}{e:Expr}{F:FE}
def bQ9:V->Option Int->Option Int->Hp->VK->Prop:=λ x lo hi H Q=>∃ z,x=.str z/\z.length<=sizeLine/\Q (.str (Txt.slice z lo hi)) H
theorem ba5 {v:Value}{o:Option Int} (p:IsPart v o):∃ l:Option (Int×Tok),v=partValue l/\l.map (·.1)=o:=by
 cases p with
 |none=>exact⟨none,rfl,rfl⟩
 |int i t=>exact⟨some (i,t),rfl,rfl⟩
theorem aW7:SlR X bQ9:=by
 intro pins s σ H x v vl vu lo hi sl Q I rx hs pl pu h;obtain⟨z,rfl,hz,q⟩:=h;obtain⟨t,rfl⟩:=rx;obtain⟨l,rfl,rfl⟩:=ba5 pl;obtain⟨u,rfl,rfl⟩:=ba5 pu;refine⟨"str",_,slot_str_getitem.lookup,typeIs_str _ _ _,wpAny_getItem_str_slice (l:=l) (u:=u) (st:=none) hs rfl ?_⟩;exact post_val_or_str ⟨Nat.le_trans (Txt.slice_le z _ _) hz,λ t' k=>⟨.str (Txt.slice z (l.map (·.1)) (u.map (·.1))),H,I.tok _,⟨_,rfl⟩,q⟩⟩
theorem ay3 {lo hi:Option Expr}{A B:FO}{p2:Pos} (he:XE X e F) (hl:XO X lo A) (hh:XO X hi B):XE X (.Subscript e (.Slice lo hi none p2) pos) (G_5 F A B):=PE.wk (ar4 ((sl_list.or aW6).or aW7) he hl hh) λ σ H Q hh0_=>by
 obtain⟨c,H0,ρ,d,ρ',R,f,q⟩:=hh0_;unfold G_5 at f;obtain⟨⟨x,ρ1⟩,h1,f⟩:=a_0 f;obtain⟨⟨l,ρ2⟩,h2,f⟩:=a_0 f;obtain⟨⟨u,ρ3⟩,h3,f⟩:=a_0 f;obtain⟨d',h4,f⟩:=a_0 f;dsimp only at h2 h3 h4 f;have f':some (d',ρ3)=some (d,ρ'):=f;cases f';refine⟨c,H0,ρ,x,ρ1,R,h1,λ v H1 Hh s1 R1 r1=>?_⟩
 refine⟨c,H1,ρ1,l,ρ2,R1,h2,λ H2 Hh2 s2 R2=>?_⟩
 refine⟨c,H2,ρ2,u,_,R2,h3,λ H3 Hh3 s3 R3=>?_⟩
 have r3:=Rep.mono s3 x (Rep.mono s2 x r1);cases x with
 |lst ds =>
  have e:D.lst (Y_0 ds l u)=d:=qi h4;subst e;unfold Rep at r3;obtain⟨p,vs,rfl,s,t⟩:=r3;refine .inl (.inl ⟨p,vs,rfl,Same.seq R3.same s,λ p' hp=>?_⟩)
  have S:=Step.alloc (o:=.lst (am5 vs l u)) R3.same hp;refine q _ _ _ (s1.trans (s2.trans (s3.trans S.s0))) (R3.after S) ?_;unfold Rep;exact⟨p',_,rfl,.inl (.inl a_3),Reps.mono S.s0 _ (aC8 t l u)⟩
 |tup ds =>
  have h5:(if ai7 ds.length 0 l=0/\ai7 ds.length ds.length u=ds.length then none else some (D.tup (Y_0 ds l u)))=some d:=h4
  by_cases hn:ai7 ds.length 0 l=0/\ai7 ds.length ds.length u=ds.length
  ·rw[if_pos hn] at h5;cases h5
  ·rw[if_neg hn] at h5
   cases h5;unfold Rep at r3;obtain⟨p,vs,rfl,s,t⟩:=r3;refine .inl (.inr ⟨p,vs,rfl,Same.seqT R3.same s,?_,λ p' hp=>?_⟩)
   ·rw[<- C_1,<- C_1,<- t.length];exact hn
   have S:=Step.alloc (o:=.tup (am5 vs l u)) R3.same hp;refine q _ _ _ (s1.trans (s2.trans (s3.trans S.s0))) (R3.after S) ?_;unfold Rep;exact⟨p',_,rfl,.inl (.inl a_3),Reps.mono S.s0 _ (aC8 t l u)⟩
 |str z =>
  obtain⟨hz,rfl⟩:=ifs (c:=z.length<=sizeLine) h4;unfold Rep at r3;exact .inr ⟨z,r3,hz,q _ H3 Hh3 (s1.trans (s2.trans s3)) R3 (p_6 H3 _)⟩
 |_=>cases h4
theorem OpR.or {f:Value->Value->Sem Value}{r r':R2} (h:OpR X f r) (h':OpR X f r'):OpR X f (λ x y H Q=>r x y H Q\/r' x y H Q):=by
 intro pins s σ H x y v u Q I rx ry q
 rcases q with q | q
 ·exact h pins s σ H x y v u Q I rx ry q
 ·exact h' pins s σ H x y v u Q I rx ry q
theorem be5:OpD K (rIn K false) dIn:=be6 λ x y d e=>by
 cases y with
 |tup xs=>obtain⟨h,rfl⟩:=ifs (c:=P_4 x xs=true) e;exact⟨xs,.inl rfl,h,rfl⟩
 |lst xs=>obtain⟨h,rfl⟩:=ifs (c:=P_4 x xs=true) e;exact⟨xs,.inr rfl,h,rfl⟩
 |_=>cases e
theorem H_4:l_2 X .In d_5:=⟨_,OpR.or ac7 ac6,λ c H0 H ρ σ x y d vx vy Q R r1 r2 e q=>by
 cases y with
 |tup xs=>rw[j_4] at e;exact .inl (be5 c H0 H ρ σ x (.tup xs) d vx vy Q R r1 r2 e q)
 |lst xs=>rw[aC6] at e;exact .inl (be5 c H0 H ρ σ x (.lst xs) d vx vy Q R r1 r2 e q)
 |str b =>
  cases x with
  |str a =>
   have e':some (D.bl (inS a b))=some d:=e;cases e';unfold Rep at r1 r2;subst r1 r2;exact .inr ⟨a,b,rfl,rfl,q _ H0 H (Same.refl _) R (n_2 _ _)⟩
  |_=>cases e
 |_=>cases x <;> cases e⟩
end
section
variable {X:Cx}{pos:Pos}
theorem bj2 {x:Str}{i:Int} (h:∃ t,X.mg x=some (.int i t)) (hg:Gl X x:=by rfl) (hd:(x==("__debug__":Str))=false:=by decide):XE X (.Name x pos) (eC (.int i)):=by
 obtain⟨t,h⟩:=h
 exact PE.wk (J_9 hg h (v:=.int i) ⟨t,rfl⟩ hd) λ σ H Q hh0_=>by
  obtain⟨c,H0,ρ,d,ρ',R,f,q⟩:=hh0_;obtain⟨rfl,rfl⟩:=u_9 f;exact q _ H0 H (Same.refl _) R (c_8 _ _)
theorem bC7 {x z:Str} (h:∃ t,X.mg x=some (.str z t)) (hg:Gl X x:=by rfl) (hd:(x==("__debug__":Str))=false:=by decide):XE X (.Name x pos) (eC (.str z)):=by
 obtain⟨t,h⟩:=h
 exact PE.wk (J_9 hg h (v:=.str z) ⟨t,rfl⟩ hd) λ σ H Q hh0_=>by
  obtain⟨c,H0,ρ,d,ρ',R,f,q⟩:=hh0_;obtain⟨rfl,rfl⟩:=u_9 f;exact q _ H0 H (Same.refl _) R (p_6 _ _)
end
end Fx
namespace Fx
open PySem PySem.Spec PyProof.Rows
end Fx
namespace Fx
open PySem
section
variable {prog:Program}{w:World}{K:Type} [DecidableEq K] {knd:KeyKind prog w K}{A:Around}{E:Value->Shared->Prop}{s:Shared}
inductive PairsAt (knd:KeyKind prog w K) (h:Heap):List Value->List (K×Value)->Prop
 |nil:PairsAt knd h [] []
 |cons {p:Addr}{u v:Value}{k:K}{us:List Value}{kvs:List (K×Value)} (a:h.IsTuple p #[u,v]) (b:knd.is k u=true) (r:PairsAt knd h us kvs):PairsAt knd h (.ref p::us) ((k,v)::kvs)
end
end Fx
namespace Fx
open PySem PySem.Spec PyProof.Rows L2
def KV1 (K:Frag) (d:D) (u:Value):Prop:=∃ v,RelV v u/\∀ H,Rep K H d v
def KVs (K:Frag) (ds:List D) (us:List Value):Prop:=∃ vs,Vals vs us/\∀ H,Reps K H ds vs
section
variable {K:Frag}
theorem b_7 {x:Str}{t:Tok}:KV1 K (.str x) (.str x t):=⟨.str x,⟨t,rfl⟩,λ H=>p_6 H x⟩
theorem n_8:KVs K [] []:=⟨[],.nil,λ H=>Reps.nil_⟩
theorem b_2 {d:D}{ds:List D}{u:Value}{us:List Value} (a:KV1 K d u) (b:KVs K ds us):KVs K (d::ds) (u::us):=by
 obtain⟨v,r,p⟩:=a;obtain⟨vs,rs,ps⟩:=b;exact⟨v::vs,.cons r rs,λ H=>Reps.cons (p H) (ps H)⟩
theorem u_4 {a:Addr}{us:List Value}{n:Nat}{sl:Array (Option Value)}{ds:List D} (l:K.lookup a=some ⟨.type "tuple",none,.seq us.toArray n,sl⟩) (hz:us.length ≤ 1000) (h:KVs K ds us):KV1 K (.tup ds) (.ref a):=by
 obtain⟨vs,rs,ps⟩:=h;refine⟨.ref a,rfl,λ H=>?_⟩
 unfold Rep;refine⟨a,vs,rfl,.inr ⟨_,us.toArray,n,l,rfl,rfl,rfl,?_,?_⟩,ps H⟩
 ·rw[List.size_toArray];exact Nat.le_of_lt (t_3 hz)
 ·exact rs
end
theorem strs_inv:∀ {xs:List D}{ss:List Str},aE4 xs=some ss->xs=ss.map .str
 |[],ss,h=>by cases h;rfl
 |.str x::r,ss,h=>by
  rw[D_2] at h;obtain⟨t,e,f⟩:=a_0 h;cases f;rw[strs_inv e];rfl
 |.non::_,_,h=>by cases h
 |.bl _::_,_,h=>by cases h
 |.int _::_,_,h=>by cases h
 |.tup _::_,_,h=>by cases h
 |.lst _::_,_,h=>by cases h
theorem t_6 {K:Frag}{H:Hp}:∀ ss:List Str,Reps K H (ss.map D.str) (ss.map V.str)
 |[]=>Reps.nil_
 |x::r=>Reps.cons (p_6 H x) (t_6 r)
theorem i_1 {K:Frag}{H:Hp}:∀ {ss:List Str}{vs:List V},Reps K H (ss.map D.str) vs->vs=ss.map V.str
 |[],vs,h=>by rw[List.map_nil] at h;unfold Reps at h;exact h
 |x::r,vs,h=>by
  rw[List.map_cons] at h;unfold Reps at h;obtain⟨v,t,rfl,a,b⟩:=h;unfold Rep at a;rw[a,i_1 b];rfl
theorem x_3:∀ {ss:List Str}{us:List Value},Vals (ss.map V.str) us->StrsAre us ss
 |[],us,h=>by rw[List.map_nil] at h;cases h;exact .nil
 |x::r,us,h=>by
  rw[List.map_cons] at h;cases h with
  |cons a b=>obtain⟨t,rfl⟩:=a;exact .cons x t (x_3 b)
theorem q_5:∀ {us:List Value}{ss:List Str},StrsAre us ss->Vals (ss.map V.str) us
 |_,_,.nil=>.nil
 |_,_,.cons x t h=>.cons ⟨t,rfl⟩ (q_5 h)
section
variable {X:Cx}
theorem x_4:∀ {ss:List Str}{us:List Value},Vals (ss.map V.str) us->∃ l:List (Str×Tok),us=strValues l/\l.map (·.1)=ss
 |[],us,h=>by rw[List.map_nil] at h;cases h;exact⟨[],rfl,rfl⟩
 |x::r,us,h=>by
  rw[List.map_cons] at h;cases h with
  |cons a b =>
   obtain⟨t,rfl⟩:=a;obtain⟨l,rfl,e⟩:=x_4 b;exact⟨(x,t)::l,rfl,by rw[List.map_cons,e]⟩
theorem Q_5 (sep:Str):∀ ss:List Str,(Str.join sep ss).length<=(ss.map (·.length)).sum+ss.length*sep.length
 |[]=>by show (Str.empty).length<=_;exact Nat.zero_le _
 |[x]=>by simp[Str.join]
 |x::y::r=>by
  have ih:=Q_5 sep (y::r)
  have ap:∀ a b:Str,(a++b).length=a.length+b.length:=λ a b=>by
   show (a.cps++b.cps).size=_;rw[Array.size_append];rfl
  show (x++sep++Str.join sep (y::r)).length<=_;rw[ap,ap,List.map_cons,List.sum_cons,List.length_cons,Nat.succ_mul];omega
theorem aK8:MtR X "str.join" (λ x xs H Q=>∃ sep p ss,x=.str sep ∧ xs=[.ref p] ∧ SqL X.K H p (ss.map V.str) ∧ (ss.map (·.length)).sum+ss.length*sep.length ≤ 1000000 ∧ Q (.str (Str.join sep ss)) H):=by
 intro pins s σ H x xs v us Q I rx rs h;obtain⟨sep,p,ss,rfl,rfl,hq,hz,q⟩:=h;obtain⟨t,rfl⟩:=rx;obtain⟨u,rfl,ru⟩:=j_6 rs;cases ru;obtain⟨its,rv,pl,_⟩:=I.list hq;obtain⟨l,rfl,el⟩:=x_4 rv;have jl:=Q_5 sep ss;have hs:(Str.join sep ss).length<=sizeLine:=Nat.le_trans (Nat.le_trans jl hz) (by decide)
 have hok:Builtin.Str.tooLong ((l.map (·.1)).toArray.foldl (λ a p=>a+p.length+sep.length) 0)=false:=by
  rw[StrLaws.joinTotal,el];unfold Builtin.Str.tooLong;exact decide_eq_false (by have:=(show (1000000:Nat)<=sizeLine by decide);omega)
 refine call_meets PySem.F.slot_str_join (typeIs_str _ _ _) PySem.F.entry_str_join (PySem.F.args_str_join_2 _ _) (meets_str_join_list sep t p l hok) ⟨pl.isList,?_⟩;have eg:Builtin.Str.glued sep (l.map (·.1))=Str.join sep ss:=by rw[StrLaws.glued_eq_join,el]
 match l,el,eg with
 |[a],el,_ =>
  have e1:Str.join sep ss=a.1:=by rw[<- el];rfl
  exact⟨.str (Str.join sep ss),H,I,⟨a.2,by rw[e1]⟩,q⟩
 |[],_,eg=>exact⟨by rw[eg];exact hs,.str (Str.join sep ss),H,I.tok _,⟨s.toks,by rw[eg]⟩,q⟩
 |a::b::r,_,eg=>exact⟨by rw[eg];exact hs,.str (Str.join sep ss),H,I.tok _,⟨s.toks,by rw[eg]⟩,q⟩
theorem an6 {e:Expr}{F:FE}{sep:Str}{j:Nat}{p apos cpos:Pos} (h:XE X e F)
  (hbase:attributeBase (.Constant (.str sep) j p) "join" X.env (eval (.Constant (.str sep) j p) X.env)=eval (.Constant (.str sep) j p) X.env:=by rfl)
  (hfew:((backTo cpos (starEach [e] X.env)).all (λ x=>!x.1)&&(backToKw cpos (keywordEach [] X.env)).all (λ x=>x.1.isSome)
   && decide (([e]:List Expr).length+([]:List Keyword).length+(if ([]:List Keyword).isEmpty then 0 else 1)<30))=true:=by rfl)
  (hline:(apos.endLine==cpos.line)=true:=by rfl) (hs:starEach [e] X.env=[(false,eval e X.env)]:=by rfl):XE X (.Call (.Attribute (.Constant (.str sep) j p) "join" apos) [e] [] cpos) (r_9 sep F) :=
 PE.wk (K_1 PySem.F.plainAttrs_str PySem.F.slot_str_join PySem.F.type_str_join aK8 aA0 (xaC h xaN hs) hbase hfew hline hs rfl) λ σ H Q hh0_=>by
  obtain⟨c,H0,ρ,d,ρ',R,f,q⟩:=hh0_;unfold r_9 at f;obtain⟨⟨d1,ρ1⟩,h1,f⟩:=a_0 f;obtain⟨xs,h2,f⟩:=a_0 f;obtain⟨d',h3,f⟩:=a_0 f;have f':some (d',ρ1)=some (d,ρ'):=f;cases f'
  have e1:d1=.lst xs:=by
   cases d1 with
   |lst ys=>cases h2;rfl
   |_=>cases h2
  subst e1;unfold L_3 at h3;obtain⟨ss,h4,h3⟩:=a_0 h3;obtain⟨hz,rfl⟩:=ifs h3;cases strs_inv h4;refine⟨rfl,c,H0,ρ,[.lst (ss.map .str)],ρ',R,?_,λ vs H1 Hh s1 R1 r1=>?_⟩
  ·unfold aC
   rw[h1];rfl
  ·obtain⟨v,rfl,rv⟩:=Reps.v1 r1
   unfold Rep at rv;obtain⟨p,ws,rfl,sq,t⟩:=rv;rw[i_1 t] at sq;exact⟨sep,p,ss,rfl,rfl,Same.seq R1.same sq,hz,q _ H1 Hh s1 R1 (p_6 _ _)⟩
end
inductive PV (K:Frag) (H:Hp):List V->List (Key×V)->Prop
 |nil:PV K H [] []
 |cons {a:Addr}{k:Str}{v:V}{vs:List V}{kvs:List (Key×V)} (p:SqT K H a [.str k,v]) (r:PV K H vs kvs):PV K H (.ref a::vs) ((.inr k,v)::kvs)
theorem N_3 {k:Str}:∀ {kds:List (Str×D)}{vs:List V},kds.length=vs.length->l_6 k kds=none->D_0 (p_2 (kds.map (·.1)) vs) (.inr k)=none
 |[],vs,_,_=>rfl
 |q::r,[],l,_=>by cases l
 |q::r,v::vs,l,h=>by
  unfold l_6 at h
  by_cases hk:q.1=k
  ·rw[if_pos hk] at h;cases h
  ·rw[if_neg hk] at h
   rw[List.map_cons,o_4,m_2 λ z=>hk (Sum.inr.inj z)]
   exact N_3 (Nat.succ.inj l) h
section
variable {X:Cx}
theorem aE0 {x:Str}{d:D}{pos:Pos} (h:∃ a,X.mg x=some (.ref a) ∧ KV1 X.K d (.ref a)) (hg:Gl X x:=by rfl) (hd:(x==("__debug__":Str))=false:=by decide):XE X (.Name x pos) (eC d):=by
 obtain⟨a,h,v,rv,rp⟩:=h
 exact PE.wk (J_9 hg h (v:=v) rv hd) λ σ H Q hh0_=>by
  obtain⟨c,H0,ρ,d,ρ',R,f,q⟩:=hh0_;obtain⟨rfl,rfl⟩:=u_9 f;exact q _ H0 H (Same.refl _) R (rp H0)
end
section
variable {X:Cx}{scope sc:Scope}{x y:Str}{frees:List Str}{js:List Nat}{px py spos pos p pos':Pos}{elt a:Expr}{ifs:List Expr}{F I:FE}{T:FT}
theorem aD5 (n:Nat) (hN:X.N.Nodup) (hm:X.mg "range"=none) (hc:X.calm=true) (hsc:X.env.scope=sc) (B:ScB X.N sc scope x frees js) (ha:XE X a F) (ht:∀ s H C fp,XTs (cxB X (x::frees) scope s H C fp) ifs T) (he:∀ s H C fp,XE (cxB X (x::frees) scope s H C fp) elt I)
  (hi':X.N[n]?=some y:=by rfl) (hy:X.env.scope.names.lookup y=some .local:=by rfl) (hgl:Gl X "range":=by rfl) (hst:starEach [a] X.env=[(false,eval a X.env)]:=by rfl)
  (hsw:swapsWith (.ListComp elt [⟨.Name x px,.Call (.Name "range" p) [a] [] pos',ifs,0⟩] scope pos) (some (.Name y py)) spos.line X.env=pure true:=by rfl)
  (hs:∀ v,foldedSetIterable (.Call (.Name "range" p) [a] [] pos') X.env v=pure v:=by intro _;rfl):XS X (.Assign [.Name y py] (.ListComp elt [⟨.Name x px,.Call (.Name "range" p) [a] [] pos',ifs,0⟩] scope pos) spos) (e_6 n (eLR js (rng1 F) T I)) :=
 PS.wk (O_9 (tt:=tTt X.K T) (te:=tE X.K I) hN hi' hy hc hsc B (E_1 hgl hm (i_3 ha o_8 hst) hst) ht he hsw hs) λ Dn σ H hh0_=>by
  obtain⟨c,H0,ρ,r,R,f,q⟩:=hh0_;unfold e_6 at f;obtain⟨⟨d,ρ0⟩,h0,f⟩:=a_0 f;have f':some (Res.nx (ρ0.set n (.im d)))=some r:=f;cases f';obtain⟨xs,fr,ys,h1,h3,h4,hz,rfl⟩:=aQ5 h0;unfold rng1 at h1;obtain⟨⟨d1,ρ1⟩,g1,h1⟩:=a_0 h1;obtain⟨i,g3,h1⟩:=a_0 h1;dsimp only at g3 h1;obtain⟨hj,h1⟩:=Fx.ifs h1;cases h1;refine⟨c,H0,ρ,d1,_,R,g1,λ v H1 Hh s1 R1 r1=>?_⟩
  cases d1 with
  |int k =>
   have e:k=i:=qi g3;subst e;unfold Rep at r1;subst r1;refine⟨k,rfl,hj.1,hj.2,aL8 R1 h3 h4 hz (p_3 0 k.toNat) λ vs H3 Hh3 s3 R3 r3=>λ p hp=>?_⟩
   have S:=Step.alloc (o:=.lst vs) R3.same hp;refine q _ _ _ (s1.trans (s3.trans S.s0)) ((R3.after S).set n ?_);unfold Rep;exact⟨p,vs,rfl,.inl (.inl a_3),Reps.mono S.s0 _ r3⟩
  |_=>cases g3
end
end Fx
namespace Fx
open PySem
def aw2:D->D->Option D
 |.str x,.int n=>if 0<=n/\n<=1000/\x.length<=1000 then some (.str (Txt.mul x n)) else none
 |_,_=>none
@[simp] theorem bA2 (x:Str) (n:Int):aw2 (.str x) (.int n)=if 0<=n/\n<=1000/\x.length<=1000 then some (.str (Txt.mul x n)) else none:=Eq.trans rfl rfl
def q_8:D->D->Option D
 |.str x,.str y=>if y.length≠0/\x.length<=100000 then some (.lst ((Txt.split x y).map .str)) else none
 |_,_=>none
@[simp] theorem bn3 (x y:Str):q_8 (.str x) (.str y)=if y.length≠0/\x.length<=100000 then some (.lst ((Txt.split x y).map .str)) else none:=Eq.trans rfl rfl
def S_1:D->D->Option D
 |.str x,.str y=>some (.bl (Txt.startswith x y))
 |_,_=>none
@[simp] theorem bn2 (x y:Str):S_1 (.str x) (.str y)=some (.bl (Txt.startswith x y)):=Eq.trans rfl rfl
def bw9:Option Int->Option D
 |some n=>some (.int n)
 |none=>none
@[simp] theorem bG5 (n:Int):bw9 (some n)=some (.int n):=Eq.trans rfl rfl
def ax4:List D->Option D
 |[.str x]=>if x.length<=640 then bw9 (intText? x) else none
 |_=>none
@[simp] theorem bB8 (x:Str):ax4 [.str x]=if x.length<=640 then bw9 (intText? x) else none:=Eq.trans rfl rfl
def am6:List D->Option D
 |[.int n]=>if n.natAbs<10 ^ 100 then some (.str (Str.ofString (toString n))) else none
 |[.str x]=>some (.str x)
 |[.non]=>some (.str "None")
 |_=>none
@[simp] theorem bM1 (n:Int):am6 [.int n]=if n.natAbs<10 ^ 100 then some (.str (Str.ofString (toString n))) else none:=Eq.trans rfl rfl
@[simp] theorem bL9 (x:Str):am6 [.str x]=some (.str x):=Eq.trans rfl rfl
@[simp] theorem bM0:am6 [.non]=some (.str "None"):=Eq.trans rfl rfl
mutual
def nl:D->Bool
 |.lst _=>false
 |.dct _ _=>false
 |.tup xs=>nls xs
 |_=>true
def nls:List D->Bool
 |[]=>true
 |d::r=>nl d&&nls r
end
def u_8 (ρ ρh:En) (o:Option (D×En)):Option (D×En):=bnd o λ p=>@ite _ (nl p.1=true/\p.2=ρh) (Classical.propDecidable _) (some (p.1,ρ)) none
def C_0 (i:Nat) (F:FE) (ρ:En) (o:Option (List D)):Option (D×En):=bnd o λ ds=>if o_9 i ρ=true then u_8 ρ (ρ.set i (.im (.lst ds))) (F (ρ.set i (.im (.lst ds)))) else none
def eHoldL (i:Nat) (F:FE) (ρ:En):Option (D×En):=C_0 i F ρ (ar9 ρ[i]?)
@[simp] theorem aQ6 (i:Nat) (F:FE) (ρ:En):eHoldL i F ρ=C_0 i F ρ (ar9 ρ[i]?):=Eq.trans rfl rfl
@[simp] theorem ah8 (i:Nat) (F:FE) (ρ:En) (ds:List D):C_0 i F ρ (some ds)=if o_9 i ρ=true then u_8 ρ (ρ.set i (.im (.lst ds))) (F (ρ.set i (.im (.lst ds)))) else none:=Eq.trans rfl rfl
theorem G_6 (ρ ρh:En) (d:D) (h:nl d=true):u_8 ρ ρh (some (d,ρh))=some (d,ρ):=by
 unfold u_8 bnd;exact if_pos ⟨h,rfl⟩
def lsA (o:Option (D×En)):Option (List D×En):=bnd o λ p=>match p.1 with
 |.lst ds=>some (ds,p.2)
 |_=>none
def oFr (F:FE) (ρ:En):Option (List D×En):=lsA (F ρ)
@[simp] theorem bX8 (F:FE) (ρ:En):oFr F ρ=lsA (F ρ):=Eq.trans rfl rfl
@[simp] theorem bT0 (ds:List D) (ρ:En):lsA (some (.lst ds,ρ))=some (ds,ρ):=Eq.trans rfl rfl
def bl1 (o:Option (List D×En)):Option MO:=bnd o λ p=>some (.lst p.1)
def nFr (A:FA) (ρ:En):Option MO:=bl1 (A ρ)
@[simp] theorem bX9 (A:FA) (ρ:En):nFr A ρ=bl1 (A ρ):=Eq.trans rfl rfl
@[simp] theorem bF5 (ds:List D) (ρ:En):bl1 (some (ds,ρ))=some (.lst ds):=Eq.trans rfl rfl
def ap4 (i:Nat) (ρ:En) (o:Option (List D)):Option Res:=bnd o λ ds=>if ds.length=0 then none else some (.nx (ρ.set i (.ow false (.lst ds.dropLast))))
def bj7 (i:Nat) (ρ:En):Option Res:=ap4 i ρ (owL ρ[i]?)
@[simp] theorem bP5 (i:Nat) (ρ:En):bj7 i ρ=ap4 i ρ (owL ρ[i]?):=Eq.trans rfl rfl
@[simp] theorem bq5 (i:Nat) (ρ:En) (ds:List D):ap4 i ρ (some ds)=if ds.length=0 then none else some (.nx (ρ.set i (.ow false (.lst ds.dropLast)))):=Eq.trans rfl rfl
def ap6 (i:Nat) (ρ:En) (xs:List D) (o:Option (List D)):Option Res:=bnd o λ ds=>if ds.length+xs.length<1000 then some (.nx (ρ.set i (.ow false (.lst (ds++xs))))) else none
def ap7 (i:Nat) (o:Option (List D×En)):Option Res:=bnd o λ p=>ap6 i p.2 p.1 (owL p.2[i]?)
def ap8 (i:Nat) (A:FA) (ρ:En) (o:Option (List D)):Option Res:=bnd o λ _=>ap7 i (A ρ)
def bk1 (i:Nat) (A:FA) (ρ:En):Option Res:=ap8 i A ρ (owL ρ[i]?)
@[simp] theorem bP9 (i:Nat) (A:FA) (ρ:En):bk1 i A ρ=ap8 i A ρ (owL ρ[i]?):=Eq.trans rfl rfl
@[simp] theorem br5 (i:Nat) (A:FA) (ρ:En) (ds:List D):ap8 i A ρ (some ds)=ap7 i (A ρ):=Eq.trans rfl rfl
@[simp] theorem br4 (i:Nat) (xs:List D) (ρ:En):ap7 i (some (xs,ρ))=ap6 i ρ xs (owL ρ[i]?):=Eq.trans rfl rfl
@[simp] theorem br3 (i:Nat) (ρ:En) (xs ds:List D):ap6 i ρ xs (some ds)=if ds.length+xs.length<1000 then some (.nx (ρ.set i (.ow false (.lst (ds++xs))))) else none:=Eq.trans rfl rfl
def bl7:D->Option Int
 |.int k=>some k
 |_=>none
@[simp] theorem bG4 (k:Int):bl7 (.int k)=some k:=Eq.trans rfl rfl
def as3 (xs:List D) (ρ:En) (o:Option Int):Option (List D×En):=bnd o λ k=>if k<=1000/\-1000<=k/\xs.length<=1000 then some ((List.replicate k.toNat xs).flatten,ρ) else none
def as4 (xs:List D) (o:Option (D×En)):Option (List D×En):=bnd o λ p=>as3 xs p.2 (bl7 p.1)
def as5 (G:FE) (o:Option (List D×En)):Option (List D×En):=bnd o λ p=>as4 p.1 (G p.2)
def aJ9 (A:FA) (G:FE) (ρ:En):Option (List D×En):=as5 G (A ρ)
@[simp] theorem bR6 (A:FA) (G:FE) (ρ:En):aJ9 A G ρ=as5 G (A ρ):=Eq.trans rfl rfl
@[simp] theorem bu8 (G:FE) (xs:List D) (ρ:En):as5 G (some (xs,ρ))=as4 xs (G ρ):=Eq.trans rfl rfl
@[simp] theorem bu7 (xs:List D) (d:D) (ρ:En):as4 xs (some (d,ρ))=as3 xs ρ (bl7 d):=Eq.trans rfl rfl
@[simp] theorem bu6 (xs:List D) (ρ:En) (k:Int):as3 xs ρ (some k)=if k<=1000/\-1000<=k/\xs.length<=1000 then some ((List.replicate k.toNat xs).flatten,ρ) else none:=Eq.trans rfl rfl
def bn0 (o:Option (List D×En)):Option (D×En):=bnd o λ p=>some (.lst p.1,p.2)
def eFr (A:FA) (ρ:En):Option (D×En):=bn0 (A ρ)
@[simp] theorem bZ0 (A:FA) (ρ:En):eFr A ρ=bn0 (A ρ):=Eq.trans rfl rfl
@[simp] theorem bJ4 (ds:List D) (ρ:En):bn0 (some (ds,ρ))=some (.lst ds,ρ):=Eq.trans rfl rfl
def lsX:D->Option (List D)
 |.lst xs=>some xs
 |_=>none
@[simp] theorem bS9 (xs:List D):lsX (.lst xs)=some xs:=Eq.trans rfl rfl
def aa8 (i:Nat) (ρ:En) (xs:List D) (o:Option (List D)):Option Res:=bnd o λ ds=>if ds.length+xs.length<1000 then some (.nx (ρ.set i (.ow false (.lst (ds++xs))))) else none
def aa9 (i:Nat) (ρ:En) (o:Option (List D)):Option Res:=bnd o λ xs=>aa8 i ρ xs (owL ρ[i]?)
def ab0 (i:Nat) (o:Option (D×En)):Option Res:=bnd o λ p=>aa9 i p.2 (lsX p.1)
def ab1 (i:Nat) (F:FE) (ρ:En) (o:Option (List D)):Option Res:=bnd o λ _=>ab0 i (F ρ)
def aF8 (i:Nat) (F:FE) (ρ:En):Option Res:=ab1 i F ρ (owL ρ[i]?)
@[simp] theorem bQ1 (i:Nat) (F:FE) (ρ:En):aF8 i F ρ=ab1 i F ρ (owL ρ[i]?):=Eq.trans rfl rfl
@[simp] theorem bs1 (i:Nat) (F:FE) (ρ:En) (ds:List D):ab1 i F ρ (some ds)=ab0 i (F ρ):=Eq.trans rfl rfl
@[simp] theorem bs0 (i:Nat) (d:D) (ρ:En):ab0 i (some (d,ρ))=aa9 i ρ (lsX d):=Eq.trans rfl rfl
@[simp] theorem br9 (i:Nat) (ρ:En) (xs:List D):aa9 i ρ (some xs)=aa8 i ρ xs (owL ρ[i]?):=Eq.trans rfl rfl
@[simp] theorem br8 (i:Nat) (ρ:En) (xs ds:List D):aa8 i ρ xs (some ds)=if ds.length+xs.length<1000 then some (.nx (ρ.set i (.ow false (.lst (ds++xs))))) else none:=Eq.trans rfl rfl
def ah5:Nat->List D->List D
 |_,[]=>[]
 |k,d::r=>.tup [.int (k:Int),d]::ah5 (k+1) r
def O_1 (g:D->En->Option En) (B:FS) (ρ:En) (o:Option (List D)):Option Res:=bnd o λ xs=>fGo g B (ah5 0 xs) ρ
def O_2 (g:D->En->Option En) (B:FS) (o:Option (D×En)):Option Res:=bnd o λ p=>O_1 g B p.2 (lsX p.1)
def ap5 (g:D->En->Option En) (F:FE) (B:FS) (ρ:En):Option Res:=O_2 g B (F ρ)
@[simp] theorem bE0 (g:D->En->Option En) (F:FE) (B:FS) (ρ:En):ap5 g F B ρ=O_2 g B (F ρ):=Eq.trans rfl rfl
@[simp] theorem bk0 (g:D->En->Option En) (B:FS) (d:D) (ρ:En):O_2 g B (some (d,ρ))=O_1 g B ρ (lsX d):=Eq.trans rfl rfl
@[simp] theorem bj9 (g:D->En->Option En) (B:FS) (ρ:En) (xs:List D):O_1 g B ρ (some xs)=fGo g B (ah5 0 xs) ρ:=Eq.trans rfl rfl
def evn {α:Type}:List α->List α
 |[]=>[]
 |[a]=>[a]
 |a::_::r=>a::evn r
def X_8 (i:Nat):D->Option D
 |.tup xs=>some (.tup (evn (xs.drop i)))
 |_=>none
@[simp] theorem bK1 (i:Nat) (xs:List D):X_8 i (.tup xs)=some (.tup (evn (xs.drop i))):=Eq.trans rfl rfl
def n_7 (xs:List D):Option D:=bnd (aE4 xs) λ ss=>if ss.length<1000 then some (.int ((i_7 [] ss).length:Int)) else none
def v_5:List D->Option D
 |[.lst xs]=>n_7 xs
 |[.tup xs]=>n_7 xs
 |_=>none
@[simp] theorem bi1 (xs:List D):v_5 [.tup xs]=n_7 xs:=Eq.trans rfl rfl
def zpT (xs ys:List D):List D:=(xs.zip ys).map λ p=>.tup [p.1,p.2]
def aw0:D->D->Option D
 |.lst xs,.lst ys=>if xs.length<=1000 then some (.lst (zpT xs ys)) else none
 |_,_=>none
def W_6:D->D->Option D
 |.tup xs,.tup ys=>if xs.length<=1000 then some (.tup (zpT xs ys)) else none
 |_,_=>none
@[simp] theorem bA1 (xs ys:List D):aw0 (.lst xs) (.lst ys)=if xs.length<=1000 then some (.lst (zpT xs ys)) else none:=Eq.trans rfl rfl
@[simp] theorem bA0 (xs ys:List D):W_6 (.tup xs) (.tup ys)=if xs.length<=1000 then some (.tup (zpT xs ys)) else none:=Eq.trans rfl rfl
def bm5 (ρ:En) (n:Nat) (o:Option (List D)):Option (D×En):=bnd o λ ys=>if n<=sizeLine then some (.lst ys,ρ) else none
def bm6 (T:FT) (F:FE) (xs ys:List D) (ρ:En) (o:Option En):Option (D×En):=bnd o λ fr=>bm5 ρ xs.length (cGo2 T F fr (zpT xs ys))
def bm7 (js:List Nat) (T:FT) (F:FE) (xs:List D) (ρ:En) (o:Option (List D)):Option (D×En):=bnd o λ ys=>bm6 T F xs ys ρ (r_7 ρ js)
def bm2 (js:List Nat) (T:FT) (F:FE) (xs:List D) (o:Option (D×En)):Option (D×En):=bnd o λ p=>bm7 js T F xs p.2 (lsX p.1)
def bm3 (js:List Nat) (B:FE) (T:FT) (F:FE) (ρ:En) (o:Option (List D)):Option (D×En):=bnd o λ xs=>bm2 js T F xs (B ρ)
def bm4 (js:List Nat) (B:FE) (T:FT) (F:FE) (o:Option (D×En)):Option (D×En):=bnd o λ p=>bm3 js B T F p.2 (lsX p.1)
def eLZ (js:List Nat) (A B:FE) (T:FT) (F:FE) (ρ:En):Option (D×En):=bm4 js B T F (A ρ)
@[simp] theorem bY7 (js:List Nat) (A B:FE) (T:FT) (F:FE) (ρ:En):eLZ js A B T F ρ=bm4 js B T F (A ρ):=Eq.trans rfl rfl
@[simp] theorem bI2 (js:List Nat) (B:FE) (T:FT) (F:FE) (d:D) (ρ:En):bm4 js B T F (some (d,ρ))=bm3 js B T F ρ (lsX d):=Eq.trans rfl rfl
@[simp] theorem bI1 (js:List Nat) (B:FE) (T:FT) (F:FE) (ρ:En) (xs:List D):bm3 js B T F ρ (some xs)=bm2 js T F xs (B ρ):=Eq.trans rfl rfl
@[simp] theorem bI0 (js:List Nat) (T:FT) (F:FE) (xs:List D) (d:D) (ρ:En):bm2 js T F xs (some (d,ρ))=bm7 js T F xs ρ (lsX d):=Eq.trans rfl rfl
@[simp] theorem bI5 (js:List Nat) (T:FT) (F:FE) (xs ys:List D) (ρ:En):bm7 js T F xs ρ (some ys)=bm6 T F xs ys ρ (r_7 ρ js):=Eq.trans rfl rfl
@[simp] theorem bI4 (T:FT) (F:FE) (xs ys:List D) (ρ fr:En):bm6 T F xs ys ρ (some fr)=bm5 ρ xs.length (cGo2 T F fr (zpT xs ys)):=Eq.trans rfl rfl
@[simp] theorem bI3 (ρ:En) (n:Nat) (ys:List D):bm5 ρ n (some ys)=if n<=sizeLine then some (.lst ys,ρ) else none:=Eq.trans rfl rfl
def W_7 (kds:List (Str×D)):D->Option D
 |.str k=>some (.bl (!(l_6 k kds).isSome))
 |_=>none
@[simp] theorem aQ8 (kds:List (Str×D)) (k:Str):W_7 kds (.str k)=some (.bl (!(l_6 k kds).isSome)):=Eq.trans rfl rfl
def P_5 (ρ:En) (o:Option (Bool×List (Str×D))):Option (List D×En):=bnd o λ q=>if q.2.length<=1000 then some (q.2.map (·.2),ρ) else none
def as2 (i:Nat) (ρ:En):Option (List D×En):=P_5 ρ (owD ρ[i]?)
@[simp] theorem bF3 (i:Nat) (ρ:En):as2 i ρ=P_5 ρ (owD ρ[i]?):=Eq.trans rfl rfl
@[simp] theorem bk9 (ρ:En) (b:Bool) (kds:List (Str×D)):P_5 ρ (some (b,kds))=if kds.length<=1000 then some (kds.map (·.2),ρ) else none:=Eq.trans rfl rfl
def I_3:List D->Option D
 |[.lst [.int a,.int b]]=>some (.lst (if a<=b then [.int a,.int b] else [.int b,.int a]))
 |_=>none
@[simp] theorem S_9 (a b:Int):I_3 [.lst [.int a,.int b]]=some (.lst (if a<=b then [.int a,.int b] else [.int b,.int a])):=Eq.trans rfl rfl
def ap9 (i:Nat) (ρ:En) (o:Option (List D)):Option Res:=bnd o λ _=>some (.nx (ρ.set i (.ow false (.lst []))))
def aX6 (i:Nat) (ρ:En):Option Res:=ap9 i ρ (owL ρ[i]?)
@[simp] theorem bQ0 (i:Nat) (ρ:En):aX6 i ρ=ap9 i ρ (owL ρ[i]?):=Eq.trans rfl rfl
@[simp] theorem br7 (i:Nat) (ρ:En) (ds:List D):ap9 i ρ (some ds)=some (.nx (ρ.set i (.ow false (.lst [])))):=Eq.trans rfl rfl
def R_8 (ρ:En) (o:Option Bool):Option (D×En):=bnd o λ b=>some (.bl (!b),ρ)
def R_9 (o:Option (D×En)):Option (D×En):=bnd o λ p=>R_8 p.2 (aC5 p.1)
def W_3 (F:FE) (ρ:En):Option (D×En):=R_9 (F ρ)
@[simp] theorem bH7 (F:FE) (ρ:En):W_3 F ρ=R_9 (F ρ):=Eq.trans rfl rfl
@[simp] theorem bl9 (d:D) (ρ:En):R_9 (some (d,ρ))=R_8 ρ (aC5 d):=Eq.trans rfl rfl
@[simp] theorem bl8 (ρ:En) (b:Bool):R_8 ρ (some b)=some (.bl (!b),ρ):=Eq.trans rfl rfl
def lk1 (op:D->D->Option D) (x:D) (o:Option (D×En)):Option (D×En):=bnd o λ r=>mkP (op x r.1) r.2
def bl5 (op:D->D->Option D) (M:FE) (y:D) (ρ:En) (o:Option Bool):Option (D×En):=bnd o λ b=>if b=true then lk1 op y (M ρ) else some (.bl false,ρ)
def bl6 (op:D->D->Option D) (M:FE) (y:D) (ρ:En) (o:Option D):Option (D×En):=bnd o λ z=>bl5 op M y ρ (blB z)
def lk2 (op op':D->D->Option D) (M:FE) (x:D) (o:Option (D×En)):Option (D×En):=bnd o λ r=>bl6 op' M r.1 r.2 (op x r.1)
def bl3 (op op':D->D->Option D) (L M:FE) (y:D) (ρ:En) (o:Option Bool):Option (D×En):=bnd o λ b=>if b=true then lk2 op op' M y (L ρ) else some (.bl false,ρ)
def bl4 (op op':D->D->Option D) (L M:FE) (y:D) (ρ:En) (o:Option D):Option (D×En):=bnd o λ z=>bl3 op op' L M y ρ (blB z)
def lk3 (op op' op'':D->D->Option D) (L M:FE) (x:D) (o:Option (D×En)):Option (D×En):=bnd o λ r=>bl4 op' op'' L M r.1 r.2 (op x r.1)
def e4a (op op' op'':D->D->Option D) (G L M:FE) (o:Option (D×En)):Option (D×En):=bnd o λ p=>lk3 op op' op'' L M p.1 (G p.2)
def e4 (op op' op'':D->D->Option D) (F G L M:FE) (ρ:En):Option (D×En):=e4a op op' op'' G L M (F ρ)
@[simp] theorem bT3 (op:D->D->Option D) (x d:D) (ρ:En):lk1 op x (some (d,ρ))=mkP (op x d) ρ:=Eq.trans rfl rfl
@[simp] theorem bG1 (op:D->D->Option D) (M:FE) (y:D) (ρ:En) (b:Bool):bl5 op M y ρ (some b)=if b=true then lk1 op y (M ρ) else some (.bl false,ρ):=Eq.trans rfl rfl
@[simp] theorem bG2 (op:D->D->Option D) (M:FE) (y z:D) (ρ:En):bl6 op M y ρ (some z)=bl5 op M y ρ (blB z):=Eq.trans rfl rfl
@[simp] theorem bT2 (op op':D->D->Option D) (M:FE) (x d:D) (ρ:En):lk2 op op' M x (some (d,ρ))=bl6 op' M d ρ (op x d):=Eq.trans rfl rfl
@[simp] theorem bF9 (op op':D->D->Option D) (L M:FE) (y:D) (ρ:En) (b:Bool):bl3 op op' L M y ρ (some b)=if b=true then lk2 op op' M y (L ρ) else some (.bl false,ρ):=Eq.trans rfl rfl
@[simp] theorem bG0 (op op':D->D->Option D) (L M:FE) (y z:D) (ρ:En):bl4 op op' L M y ρ (some z)=bl3 op op' L M y ρ (blB z):=Eq.trans rfl rfl
@[simp] theorem bT1 (op op' op'':D->D->Option D) (L M:FE) (x d:D) (ρ:En):lk3 op op' op'' L M x (some (d,ρ))=bl4 op' op'' L M d ρ (op x d):=Eq.trans rfl rfl
@[simp] theorem bU7 (op op' op'':D->D->Option D) (G L M:FE) (d:D) (ρ:En):e4a op op' op'' G L M (some (d,ρ))=lk3 op op' op'' L M d (G ρ):=Eq.trans rfl rfl
@[simp] theorem e4_ (op op' op'':D->D->Option D) (F G L M:FE) (ρ:En):e4 op op' op'' F G L M ρ=e4a op op' op'' G L M (F ρ):=Eq.trans rfl rfl
end Fx
namespace Fx
open PySem PySem.W PySem.Spec PyProof.Rows L2
theorem ac4 {x y:Str} (h:x.length<=100000):(Builtin.Str.partsBetween x (Builtin.Str.occurrences x y 0 x.length (x.length+1)) y.length).length<=sizeLine:=by
 have e:=StrLaws.occ_length_le x y 0 x.length (x.length+1);have b:(100002:Nat)<=sizeLine:=by decide
 rw[length_partsBetween];omega
theorem U_0 {prog:Program}{w:World}{A:Around}{Er:Value->Shared->Prop}{s:Shared}{x y:Str}{t u:Tok}{Q:Value->Shared->Prop} (ny:(y.length==0)=false) (hx:x.length<=100000)
  (fin:∀ l k,l.map (·.1)=Txt.split x y → Q (.ref s.heap.objs.size) {s with heap:=s.heap.push {cls:=.type "list",data:=.seq (strValues l).toArray},toks:=k}) :
  wpAny (model prog w) A (call (.builtin "str.split") [.str x t,.str y u]) Q Er s:=by
 have b:(100000:Nat)<=sizeLine:=by decide
 have few:=ac4 (y:=y) hx
 by_cases c1:(decide (x.length<y.length)||decide (Builtin.Str.strKind x<Builtin.Str.strKind y))=true
 ·have alone:Txt.split x y=[x]:=if_pos c1
  exact call_meets PySem.F.slot_str_split (typeIs_str s x t) PySem.F.entry_str_split (PySem.F.args_str_split_2 (.str x t) (.str y u)) (meets_str_split_cannot_occur x y t u c1) (fin [(x,t)] s.toks alone.symm)
 ·have c1':=Bool.eq_false_iff.mpr c1
  by_cases c2:(Builtin.Str.occurrences x y 0 x.length (x.length+1)).isEmpty=true
  ·have alone:Txt.split x y=[x]:=(if_neg c1).trans (if_pos c2)
   exact call_meets PySem.F.slot_str_split (typeIs_str s x t) PySem.F.entry_str_split (PySem.F.args_str_split_2 (.str x t) (.str y u)) (meets_str_split_not_found x y t u c1' ny c2) (fin [(x,t)] s.toks alone.symm)
  ·have parts:Txt.split x y=Builtin.Str.partsBetween x (Builtin.Str.occurrences x y 0 x.length (x.length+1)) y.length:=(if_neg c1).trans (if_neg c2)
   have m:=meets_str_split_sep x y t u c1' ny (Bool.eq_false_iff.mpr c2) (Nat.le_trans hx b) few;rw[<- parts] at m;refine call_meets PySem.F.slot_str_split (typeIs_str s x t) PySem.F.entry_str_split (PySem.F.args_str_split_2 (.str x t) (.str y u)) m ?_;have go:=fin (numbered s.toks (Txt.split x y)) (s.toks+(Txt.split x y).length) (numbered_texts _ _);rw[<- strsFrom_eq] at go;exact go
section
variable {X:Cx}{pos:Pos}{o e:Expr}{F G:FE}
theorem Q_0:MtR X "str.split" (λ x vs H Q=>∃ a b,x=.str a ∧ vs=[.str b] ∧ (b.length==0)=false ∧ a.length ≤ 100000 ∧ ∀ l,H l=none → Q (.ref l) (upd H l (.lst ((Txt.split a b).map V.str)))):=by
 intro pins s σ H x vs v us Q I rx rv h;obtain⟨a,b,rfl,rfl,hb,hz,q⟩:=h;obtain⟨t,rfl⟩:=rx;obtain⟨u,rfl,t2,rfl⟩:=j_6 rv;refine U_0 hb hz λ l k hl=>?_
 have big:(100002:Nat)<=sizeLine:=by decide
 have ln:(Txt.split a b).length<=sizeLine:=Nat.le_trans (split_le a b) (by omega)
 have vs':Vals ((Txt.split a b).map V.str) (strValues l):=by rw[<- hl];exact q_5 (strsAre_of_values l)
 refine⟨.ref s.heap.objs.size,_,I.laid (t':=k) (o:=.lst ((Txt.split a b).map V.str)) (λ p z hp=>qf _ hp) (qj _) ⟨by rw[List.length_map];exact ln,strValues l,0,vs',qk _ rfl⟩,rfl,q _ (I.hok.fresh (qj _))⟩
theorem ay2 {apos cpos:Pos} (ho:XE X o F) (he:XE X e G) (hbase:attributeBase o "split" X.env (eval o X.env)=eval o X.env:=by rfl)
  (hfew:((backTo cpos (starEach [e] X.env)).all (λ x=>!x.1)&&(backToKw cpos (keywordEach [] X.env)).all (λ x=>x.1.isSome)&&decide (([e]:List Expr).length+([]:List Keyword).length+(if ([]:List Keyword).isEmpty then 0 else 1)<30))=true:=by rfl)
  (hline:(apos.endLine==cpos.line)=true:=by rfl) (hs:starEach [e] X.env=[(false,eval e X.env)]:=by rfl):XE X (.Call (.Attribute o "split" apos) [e] [] cpos) (e2 q_8 F G) :=
 PE.wk (K_1 PySem.F.plainAttrs_str PySem.F.slot_str_split PySem.F.type_str_split Q_0 ho (xaC he xaN hs) hbase hfew hline hs rfl) λ σ H Q hh0_=>by
  obtain⟨c,H0,ρ,d,ρ',R,f,q⟩:=hh0_;obtain⟨x,ρ1,y,h1,h2,h3⟩:=q_7 f;unfold q_8 at h3
  split at h3
  ·rename_i a b
   obtain⟨hz,rfl⟩:=ifs h3;refine⟨c,H0,ρ,_,ρ1,R,h1,λ v H1 Hh s1 R1 r1=>?_⟩
   unfold Rep at r1;subst r1;refine⟨rfl,c,H1,ρ1,[_],ρ',R1,by unfold aC aN;rw[h2];rfl,λ vs H2 Hh2 s2 R2 r2=>?_⟩
   obtain⟨u,rfl,ru⟩:=Reps.v1 r2;unfold Rep at ru;subst ru;refine⟨_,_,rfl,rfl,by simpa using hz.1,hz.2,λ l hl=>?_⟩
   have S:=Step.alloc (o:=.lst ((Txt.split a b).map V.str)) R2.same hl;refine q _ _ _ ((s1.trans s2).trans S.s0) (R2.after S) ?_;unfold Rep;exact⟨l,_,rfl,.inl (.inl a_3),t_6 _⟩
  ·cases h3
theorem ad7:MtR X "str.startswith" (λ x vs H Q=>∃ a b,x=.str a ∧ vs=[.str b] ∧ Q (.bl (Txt.startswith a b)) H):=by
 intro pins s σ H x vs v us Q I rx rv h;obtain⟨a,b,rfl,rfl,q⟩:=h;obtain⟨t,rfl⟩:=rx;obtain⟨u,rfl,t2,rfl⟩:=j_6 rv;exact PySem.SC.startswith ⟨.bl _,H,I,rfl,q⟩
theorem aD4 {apos cpos:Pos} (ho:XE X o F) (he:XE X e G) (hbase:attributeBase o "startswith" X.env (eval o X.env)=eval o X.env:=by rfl)
  (hfew:((backTo cpos (starEach [e] X.env)).all (λ x=>!x.1)&&(backToKw cpos (keywordEach [] X.env)).all (λ x=>x.1.isSome)&&decide (([e]:List Expr).length+([]:List Keyword).length+(if ([]:List Keyword).isEmpty then 0 else 1)<30))=true:=by rfl)
  (hline:(apos.endLine==cpos.line)=true:=by rfl) (hs:starEach [e] X.env=[(false,eval e X.env)]:=by rfl):XE X (.Call (.Attribute o "startswith" apos) [e] [] cpos) (e2 S_1 F G) :=
 PE.wk (K_1 PySem.F.plainAttrs_str PySem.F.slot_str_startswith PySem.F.type_str_startswith ad7 ho (xaC he xaN hs) hbase hfew hline hs rfl) λ σ H Q hh0_=>by
  obtain⟨c,H0,ρ,d,ρ',R,f,q⟩:=hh0_;obtain⟨x,ρ1,y,h1,h2,h3⟩:=q_7 f;unfold S_1 at h3
  split at h3
  ·cases h3
   refine⟨c,H0,ρ,_,ρ1,R,h1,λ v H1 Hh s1 R1 r1=>?_⟩
   unfold Rep at r1;subst r1;refine⟨rfl,c,H1,ρ1,[_],ρ',R1,by unfold aC aN;rw[h2];rfl,λ vs H2 Hh2 s2 R2 r2=>?_⟩
   obtain⟨u,rfl,ru⟩:=Reps.v1 r2;unfold Rep at ru;subst ru;exact⟨_,_,rfl,rfl,q _ H2 Hh2 (s1.trans s2) R2 (by unfold Rep;rfl)⟩
  ·cases h3
theorem aj6:CallR X (.type "int") (λ xs H Q=>∃ x n,xs=[.str x] ∧ x.length ≤ 640 ∧ PySem.intText? x=some n ∧ Q (.int n) H):=by
 intro pins s σ H xs us Q I r h;obtain⟨x,n,rfl,hz,hn,q⟩:=h;obtain⟨u,rfl,t,rfl⟩:=j_6 r;exact PySem.W.KIN.call_text hn hz ⟨.int n,H,I.tok _,⟨_,rfl⟩,q⟩
theorem ax1:BOk X (.type "int") ax4:=⟨_,aj6,λ c H0 H ρ σ ds d vs Q R r e q=>by
 unfold ax4 at e
 split at e
 ·rename_i x
  by_cases hz:x.length<=640
  rotate_left
  ·rw[if_neg hz] at e;cases e
  rw[if_pos hz] at e;obtain⟨v,rfl,rv⟩:=Reps.v1 r;unfold Rep at rv;subst rv;cases hn:PySem.intText? x with
  |none=>rw[hn] at e;cases e
  |some n =>
   rw[hn] at e;cases e;exact⟨_,n,rfl,hz,hn,q _ H0 H (Same.refl _) R (c_8 _ _)⟩
 ·cases e⟩
theorem aj0:CallR X (.type "str") (λ xs H Q=>(∃ x,xs=[.str x] ∧ Q (.str x) H) ∨ (∃ n:Int,xs=[.int n] ∧ n.natAbs.log2<1920 ∧ Q (.str (Str.ofString (toString n))) H) ∨ (xs=[.non] ∧ Q (.str "None") H)):=by
 intro pins s σ H xs us Q I r h
 rcases h with ⟨x,rfl,q⟩ | ⟨n,rfl,hz,q⟩ | ⟨rfl,q⟩
 ·obtain⟨u,rfl,t,rfl⟩:=j_6 r
  exact PySem.P.str_of_str ⟨.str x,H,I,⟨t,rfl⟩,q⟩
 ·obtain⟨u,rfl,t,rfl⟩:=j_6 r
  exact PySem.P.str_of_int hz ⟨.str _,H,I.tok _,⟨_,rfl⟩,q⟩
 ·obtain⟨u,rfl,e⟩:=j_6 r
  cases e;exact PySem.P.str_of_none ⟨.str _,H,I.tok _,⟨_,rfl⟩,q⟩
theorem aj9:BOk X (.type "str") am6:=⟨_,aj0,λ c H0 H ρ σ ds d vs Q R r e q=>by
 unfold am6 at e
 split at e
 ·rename_i n
  obtain⟨hz,rfl⟩:=ifs e;obtain⟨v,rfl,rv⟩:=Reps.v1 r;unfold Rep at rv;subst rv;refine .inr (.inl ⟨_,rfl,?_,q _ H0 H (Same.refl _) R (by unfold Rep;rfl)⟩)
  by_cases z:n.natAbs=0
  ·rw[z];decide
  ·exact (Nat.log2_lt z).mpr (qt hz (by decide +kernel))
 ·cases e
  obtain⟨v,rfl,rv⟩:=Reps.v1 r;unfold Rep at rv;subst rv;exact .inl ⟨_,rfl,q _ H0 H (Same.refl _) R (by unfold Rep;rfl)⟩
 ·cases e
  obtain⟨v,rfl,rv⟩:=Reps.v1 r;unfold Rep at rv;subst rv;exact .inr (.inr ⟨rfl,q _ H0 H (Same.refl _) R (by unfold Rep;rfl)⟩)
 ·cases e⟩
end
end Fx
namespace Fx
open PySem PySem.Spec PyProof.Rows L2
def lss (H:Hp) (a:Addr):Hp:=λ b=>if b=a then none else H b
theorem aB1 {H:Hp}{a:Addr}:lss H a a=none:=if_pos rfl
theorem Q_1 {H:Hp}{a b:Addr} (h:b≠a):lss H a b=H b:=if_neg h
theorem aB0 {H:Hp}{a b:Addr}{u:HO} (h:lss H a b=some u):b≠a/\H b=some u:=by
 by_cases e:b=a
 ·rw[e,aB1] at h;cases h
 ·exact⟨e,by rw[Q_1 e] at h;exact h⟩
theorem ac5 {o:Option Sl}{ds:List D} (h:ar9 o=some ds):o=some (.ow false (.lst ds)):=by
 unfold ar9 at h
 split at h
 ·cases h;rfl
 ·cases h
section
variable {K:Frag}{H:Hp}{a:Addr}{us:List V}
theorem SqT.lss {b:Addr}{vs:List V} (ha:H a=some (.lst us)) (h:SqT K H b vs):SqT K (lss H a) b vs:=by
 rcases h with h | h
 ·refine .inl ?_
  have ne:b≠a:=λ e=>by
   rw[e] at h
   rcases h with h | ⟨o,h⟩ <;> rw[ha] at h <;> cases h
  rcases h with h | ⟨o,h⟩
  ·exact .inl (by rw[Q_1 ne];exact h)
  ·exact .inr ⟨o,by rw[Q_1 ne];exact h⟩
 ·exact .inr h
mutual
theorem Rep.lss (ha:H a=some (.lst us)):∀ (d:D) {v:V},nl d=true->Rep K H d v->Rep K (lss H a) d v
 |.non,_,_,h=>by unfold Rep at h ⊢;exact h
 |.bl _,_,_,h=>by unfold Rep at h ⊢;exact h
 |.int _,_,_,h=>by unfold Rep at h ⊢;exact h
 |.str _,_,_,h=>by unfold Rep at h ⊢;exact h
 |.tup ds,_,n,h=>by
  unfold Rep at h ⊢;obtain⟨b,vs,e,s,r⟩:=h;exact⟨b,vs,e,SqT.lss ha s,Reps.lss ha ds n r⟩
 |.lst _,_,n,_=>by cases n
 |.dct _ _,_,n,_=>by cases n
theorem Reps.lss (ha:H a=some (.lst us)):∀ (ds:List D) {vs:List V},nls ds=true->Reps K H ds vs->Reps K (lss H a) ds vs
 |[],_,_,h=>by unfold Reps at h ⊢;exact h
 |d::r,_,n,h=>by
  unfold nls at n;rw[Bool.and_eq_true] at n;unfold Reps at h ⊢;obtain⟨v,vr,e,h1,h2⟩:=h;exact⟨v,vr,e,Rep.lss ha d n.1 h1,Reps.lss ha r n.2 h2⟩
end
end
section
variable {K:Frag}{c:FC}{H0 H:Hp}{ρ:En}{σ:L2.St}{i:Nat}{ds:List D}
theorem RS.asList (R:RS K c H0 H ρ σ) (hi:ρ[i]?=some (.ow false (.lst ds))) :
  ∃ a vs,σ[i]?=some (some (.ref a))/\H0 a=none/\c.He a=none/\H a=some (.lst vs)/\Reps K H0 ds vs/\Same H0 (upd H0 a (.lst vs))/\RS K c (upd H0 a (.lst vs)) H (ρ.set i (.im (.lst ds))) σ:=by
 obtain⟨a,x,y,z,vs,e,r⟩:=R.ow i _ _ hi;have he:c.He a=none:=z;have il:i<ρ.length:=(List.getElem?_eq_some_iff.mp hi).1;have s0:Same H0 (upd H0 a (.lst vs)):=λ b u q=>by rw[a_6 (b_1 q y)];exact q
 have off:∀ {j:Nat}{sl:Sl},j≠i->(ρ.set i (.im (.lst ds)))[j]?=some sl->ρ[j]?=some sl:=λ hj e=>by rwa [List.getElem?_set_ne (Ne.symm hj)] at e
 have on:∀ {sl:Sl},(ρ.set i (.im (.lst ds)))[i]?=some sl->sl=.im (.lst ds):=λ e=>by
  rw[List.getElem?_set_self il] at e;exact (qi e).symm
 refine⟨a,vs,x,y,he,e,r,s0,λ b u q=>?_,R.init.trans s0,λ b u q=>?_,R.keep,R.apt,by rw[List.length_set];exact R.len,λ j d' q=>?_,λ j bb o' q=>?_,λ j k b1 b2 o' o'' b e1 e2 e3 e4=>?_⟩
 ·by_cases h:b=a
  ·subst h;rw[a_3] at q;cases q;exact e
  ·rw[a_6 h] at q;exact R.same b u q
 ·by_cases h:b=a
  ·subst h;exact .inr he
  ·rw[a_6 h] at q;exact R.fresh b u q
 ·by_cases hj:j=i
  ·subst hj
   cases on q;refine⟨.ref a,x,?_⟩;unfold Rep;exact⟨a,vs,rfl,.inl (.inl a_3),Reps.mono s0 _ r⟩
  ·obtain⟨v,a1,a2⟩:=R.im j d' (off hj q)
   exact⟨v,a1,Rep.mono s0 _ a2⟩
 ·by_cases hj:j=i
  ·subst hj;cases on q
  ·have q':=off hj q
   obtain⟨b,x1,y1,z1,w1⟩:=R.ow j bb o' q';have nb:b≠a:=λ h=>hj (R.ne j i bb false o' _ b q' hi x1 (by rw[h];exact x))
   exact⟨b,x1,by rw[a_6 nb];exact y1,z1,w1.step s0 λ u q=>q⟩
 ·by_cases hj:j=i
  ·subst hj;cases on e1
  ·by_cases hk:k=i
   ·subst hk;cases on e2
   ·exact R.ne j k b1 b2 o' o'' b (off hj e1) (off hk e2) e3 e4
theorem RS.backL {H0' H':Hp}{a:Addr}{vs:List V} (R:RS K c H0 H ρ σ) (hi:ρ[i]?=some (.ow false (.lst ds))) (one:o_9 i ρ=true) (x:σ[i]?=some (some (.ref a))) (y:H0 a=none) (he:c.He a=none) (r:Reps K H0 ds vs)
  (sm:Same (upd H0 a (.lst vs)) H0') (R':RS K c H0' H' (ρ.set i (.im (.lst ds))) σ):Same H0 (lss H0' a)/\RS K c (lss H0' a) H' ρ σ:=by
 have s0:Same H0 (lss H0' a):=λ b u q=>by
  have nb:b≠a:=λ h=>by rw[h,y] at q;cases q
  rw[Q_1 nb];exact sm b u (by rw[a_6 nb];exact q)
 refine⟨s0,λ b u q=>R'.same b u (aB0 q).2,λ b u q=>s0 b u (R.init b u q),λ b u q=>R'.fresh b u (aB0 q).2,R'.keep,R'.apt,R.len,λ j d q=>?_,λ j b o q=>?_,R.ne⟩
 ·obtain⟨v,a1,a2⟩:=R.im j d q
  exact⟨v,a1,Rep.mono s0 _ a2⟩
 ·by_cases hj:j=i
  ·subst hj
   rw[hi] at q;cases q;exact⟨a,x,aB1,he,vs,R'.same a _ (sm a _ a_3),Reps.mono s0 _ r⟩
  ·unfold o_9 at one
   have:=List.all_eq_true.mp one (.ow b o) (List.mem_of_getElem? (i:=j) (by rw[List.getElem?_set_ne (Ne.symm hj)];exact q))
   cases this
end
section
variable {X:Cx}{pos:Pos}{e:Expr}{F:FE}{A:FA}{T:FT}
theorem bj0 (i:Nat) (he:XT X e T):XT X e (tHoldL i T):=PT.wk he λ σ H Q hh0_=>by
 obtain⟨c,H0,ρ,d,ρ',R,f,q⟩:=hh0_;unfold tHoldL z_1 at f;obtain⟨ds,h1,f⟩:=a_0 f
 by_cases hc:o_9 i ρ=true
 ·rw[if_pos hc] at f
  unfold t_2 at f;obtain⟨⟨d1,ρ1⟩,h2,f2⟩:=a_0 f
  by_cases hd:ρ1=ρ.set i (.im (.lst ds))
  ·have f4:some (d1,ρ)=some (d,ρ'):=(if_pos hd).symm.trans f2
   cases f4;subst hd;have z:=ac5 h1;obtain⟨a,vs,x,y,hE,_,r,_,R1⟩:=R.asList z;refine⟨c,_,_,d,_,R1,h2,λ H0' H' sm R'=>?_⟩
   obtain⟨s1,R2⟩:=R.backL z hc x y hE r sm R';exact q _ _ s1 R2
  ·have f4:=(if_neg hd).symm.trans f2
   cases f4
 ·rw[if_neg hc] at f
  cases f
theorem xhl (i:Nat) (he:XE X e F):XE X e (eHoldL i F):=PE.wk he λ σ H Q hh0_=>by
 obtain⟨c,H0,ρ,d,ρ',R,f,q⟩:=hh0_;unfold eHoldL C_0 at f;obtain⟨ds,h1,f⟩:=a_0 f
 by_cases hc:o_9 i ρ=true
 ·rw[if_pos hc] at f
  unfold u_8 at f;obtain⟨⟨d1,ρ1⟩,h2,f2⟩:=a_0 f
  by_cases hd:nl d1=true/\ρ1=ρ.set i (.im (.lst ds))
  ·have f4:some (d1,ρ)=some (d,ρ'):=(if_pos hd).symm.trans f2
   obtain⟨hn,hd⟩:=hd;cases f4;subst hd;have z:=ac5 h1;obtain⟨a,vs,x,y,hE,_,r,_,R1⟩:=R.asList z;refine⟨c,_,_,d,_,R1,h2,λ v H0' H' sm R' rv=>?_⟩
   obtain⟨s1,R2⟩:=R.backL z hc x y hE r sm R';exact q v _ _ s1 R2 (Rep.lss (sm a _ a_3) d hn rv)
  ·have f4:=(if_neg hd).symm.trans f2
   cases f4
 ·rw[if_neg hc] at f
  cases f
end
section
variable {K:Frag}{H:Hp}
theorem ay4 {k:Str}:∀ {kds:List (Str×D)}{vs:List V},Reps K H (kds.map (·.2)) vs->l_6 k kds=none->D_0 (p_2 (kds.map (·.1)) vs) (.inr k)=none
 |[],_,_,_=>rfl
 |q::r,vs,t,e=>by
  rw[List.map_cons] at t;unfold Reps at t;obtain⟨v,vr,rfl,_,t2⟩:=t;rw[List.map_cons,o_4];unfold l_6 at e
  by_cases hk:q.1=k
  ·rw[if_pos hk] at e;cases e
  ·rw[if_neg hk] at e
   rw[m_2 λ z=>hk (Sum.inr.inj z)]
   exact ay4 t2 e
theorem an3 {ks:List Str}{vs:List V}{k:Str}{v:V} (h:ks.length=vs.length):p_2 ks vs++[(Sum.inr k,v)]=p_2 (ks++[k]) (vs++[v]):=by
 unfold p_2;rw[List.map_append,List.zip_append (by rw[List.length_map];exact h)]
 rfl
theorem aI0 {k:Str}{d:D}{v:V}{kds:List (Str×D)}{vs:List V} (rv:Rep K H d v) (t:Reps K H (kds.map (·.2)) vs) :
  ∃ vs',D_8 (p_2 (kds.map (·.1)) vs) (.inr k) v=p_2 ((aI1 k d kds).map (·.1)) vs'/\Reps K H ((aI1 k d kds).map (·.2)) vs':=by
 unfold aI1;cases q:l_6 k kds with
 |some d0=>rw[if_pos (show (some d0).isSome=true from rfl)];exact aZ1 rv t q
 |none =>
  rw[if_neg (by simp)]
  have hl:=t.length;rw[List.length_map] at hl;refine⟨vs++[v],?_,?_⟩
  ·rw[aq8 v (ay4 t q),an3 (by rw[List.length_map];exact hl),List.map_append]
   rfl
  ·rw[List.map_append]
   exact t.app (Reps.one rv)
end
section
variable {X:Cx}{pos:Pos}{e:Expr}{F G:FE}{A:FA}
theorem xdn (i:Nat) {x:Str}{p p2:Pos} (hN:X.N.Nodup) (hi:X.N[i]?=some x:=by rfl) (hx:Loc X.env.scope x:=by first | exact Or.inl rfl | exact Or.inr rfl) (hs:swapsWith (.Dict [] [] p2) (some (.Name x p)) pos.line X.env=pure false:=by rfl)
  (hf:X.fn x=true\/X.env.scope.names.lookup x=some .local:=by first | exact .inl rfl | exact .inr rfl):XS X (.Assign [.Name x p] (.Dict [] [] p2) pos) (sDN i) :=
 PS.wk (D_9 hN hi hx ar7 hs hf) λ Dn σ H hh0_=>by
  obtain⟨c,H0,ρ,r,R,f,q⟩:=hh0_;have f':some (Res.nx (ρ.set i (.ow false (.dic []))))=some r:=f;cases f';exact λ a ha=>q _ H0 _ (Same.refl _) (R.setOwn (o:=.dic []) (u:=.dK []) i ha ⟨[],[],by rw[a_3];rfl,rfl,Reps.nil_⟩)
theorem xdk (i:Nat) {x:Str}{k:Expr}{p p3:Pos} (hu:X.A.units+1<cLine) (hk:XE X k G) (he:XE X e F) (hN:X.N[i]?=some x:=by rfl) (hv:Vis X.env.scope x:=by first | exact Or.inl rfl | exact Or.inr (Or.inl rfl) | exact Or.inr (Or.inr rfl)) (hd:(x==("__debug__":Str))=false:=by decide)
  (hcd:(x==("__classdict__":Str))=false:=by decide) (hs:swapsWith e (some (.Subscript (.Name x p) k p3)) pos.line X.env=pure false:=by rfl):XS X (.Assign [.Subscript (.Name x p) k p3] e pos) (sDK i G F) :=
 PS.wk (aI6 hu (o_7 hN hv hd hcd) hk he hs) λ Dn σ H hh0_=>by
  obtain⟨c,H0,ρ,r,R,f,q⟩:=hh0_;unfold sDK bk6 at f;obtain⟨⟨d,ρ1⟩,h1,f⟩:=a_0 f;unfold bk5 at f;obtain⟨⟨b0,kds0⟩,h2,f⟩:=a_0 f;unfold bk4 at f;obtain⟨⟨x2,ρ2⟩,h3,f⟩:=a_0 f;unfold bk3 at f;obtain⟨k2,h4,f⟩:=a_0 f;unfold bk2 at f;obtain⟨⟨b,kds⟩,h5,f⟩:=a_0 f;obtain⟨h6,rfl⟩:=ifs f
  have hx2:x2=.str k2:=by
   cases x2 with
   |str z=>cases h4;rfl
   |_=>cases h4
  subst hx2;refine⟨c,H0,ρ,d,ρ1,R,h1,λ v H1 Hh s1 R1 r1=>?_⟩
  obtain⟨a,e1,_⟩:=R1.ow i b0 _ (P_2 h2);refine⟨_,e1,c,H1,ρ1,_,ρ2,R1,h3,λ y H2 Hh2 s2 R2 r2=>?_⟩
  unfold Rep at r2;subst r2;have z:=P_2 h5;obtain⟨a2,e2,_,_,ks,vs,e4,rfl,t⟩:=R2.ow i b _ z;rw[e1] at e2;cases e2;obtain⟨vs',w1,w2⟩:=aI0 (k:=k2) (Rep.mono s2 d r1) t;refine⟨a,_,rfl,DPut.k (k:=.inr k2) e4 (by have:=an2 t;unfold p_2 at this;rw[this];exact bv6 h6),?_⟩
  exact q σ H2 _ (s1.trans s2) (R2.mutOwn z e1 ⟨_,vs',by rw[a_3];exact congrArg (λ y=>some (HO.dK y)) w1,rfl,w2⟩)
end
theorem Reps.dropLast {K:Frag}{H:Hp}:∀ {ds:List D}{vs:List V},Reps K H ds vs->Reps K H ds.dropLast vs.dropLast
 |[],vs,h=>by unfold Reps at h;subst h;exact Reps.nil_
 |[d],vs,h=>by
  unfold Reps at h;obtain⟨v,r,rfl,_,h2⟩:=h;unfold Reps at h2;subst h2;exact Reps.nil_
 |d::e::ds,vs,h=>by
  unfold Reps at h;obtain⟨v,r,rfl,h1,h2⟩:=h;have ih:=Reps.dropLast h2;unfold Reps at h2;obtain⟨v',r',rfl,_,_⟩:=h2;exact Reps.cons h1 ih
theorem O_5 {K:Frag}{H:Hp}{ds:List D}{vs:List V} (h:Reps K H ds vs):∀ k:Nat,Reps K H (List.replicate k ds).flatten (List.replicate k vs).flatten
 |0=>Reps.nil_
 |k+1=>by
  rw[List.replicate_succ,List.replicate_succ,List.flatten_cons,List.flatten_cons];exact h.app (O_5 h k)
section
variable {X:Cx}{pos:Pos}{o e:Expr}{F G:FE}{A:FA}{T:FT}
theorem bM5 (i:Nat) {x:Str}{p1 p2 p3:Pos} (hN:X.N[i]?=some x:=by rfl) (hv:Vis X.env.scope x:=by first | exact Or.inl rfl | exact Or.inr (Or.inl rfl) | exact Or.inr (Or.inr rfl)) (hd:(x==("__debug__":Str))=false:=by decide)
  (hcd:(x==("__classdict__":Str))=false:=by decide) (hbase:attributeBase (.Name x p1) "pop" X.env (eval (.Name x p1) X.env)=eval (.Name x p1) X.env:=by rfl)
  (hline:(p2.endLine==p3.line)=true:=by rfl) (hs:swapsWith (.Call (.Attribute (.Name x p1) "pop" p2) [] [] p3) none pos.line X.env=pure false:=by rfl) :
  XS X (.Expr (.Call (.Attribute (.Name x p1) "pop" p2) [] [] p3) pos) (bj7 i) :=
 PS.wk (t_7 (aA2 PySem.F.plainAttrs_list PySem.F.slot_list_pop PySem.F.type_list_pop bc6 (o_7 hN hv hd hcd) hbase hline) hs) λ Dn σ H hh0_=>by
  obtain⟨c,H0,ρ,r,R,f,q⟩:=hh0_;unfold bj7 ap4 at f;obtain⟨ds,h0,f⟩:=a_0 f
  by_cases hz:ds.length=0
  ·rw[if_pos hz] at f;cases f
  ·rw[if_neg hz] at f
   cases f;obtain⟨a,x1,_,_,vs,y1,z1⟩:=R.ow i _ _ (i_4 h0);have hl:=z1.length;have hy:∃ y,vs[vs.length-1]?=some y:=⟨vs[vs.length-1]'(by omega),List.getElem?_eq_getElem _⟩
   obtain⟨y,hy⟩:=hy;refine⟨.ref a,x1,.inl ⟨rfl,vs,SqL.of y1⟩,a,vs,y,rfl,rfl,y1,hy,?_⟩;exact q σ H0 _ (Same.refl _) (R.mutOwn (o':=.lst ds.dropLast) (u:=.lst vs.dropLast) (i_4 h0) x1 ⟨_,a_3,Reps.dropLast z1⟩)
theorem bM9 (i:Nat) {x:Str}{p1 p2 p3:Pos} (he:XO' X e A) (hN:X.N[i]?=some x:=by rfl) (hv:Vis X.env.scope x:=by first | exact Or.inl rfl | exact Or.inr (Or.inl rfl) | exact Or.inr (Or.inr rfl)) (hd:(x==("__debug__":Str))=false:=by decide)
  (hcd:(x==("__classdict__":Str))=false:=by decide) (hbase:attributeBase (.Name x p1) "extend" X.env (eval (.Name x p1) X.env)=eval (.Name x p1) X.env:=by rfl)
  (hfew:((backTo p3 (starEach [e] X.env)).all (λ x=>!x.1)&&(backToKw p3 (keywordEach [] X.env)).all (λ x=>x.1.isSome)&&decide ([e].length+([]:List Keyword).length+(if ([]:List Keyword).isEmpty then 0 else 1)<30))=true:=by rfl)
  (hline:(p2.endLine==p3.line)=true:=by rfl) (hst:starEach [e] X.env=(false,eval e X.env)::starEach [] X.env:=by rfl) (hpl:(backTo p3 (starEach [] X.env)).any (·.1)=false:=by rfl)
  (hs:swapsWith (.Call (.Attribute (.Name x p1) "extend" p2) [e] [] p3) none pos.line X.env=pure false:=by rfl) :
  XS X (.Expr (.Call (.Attribute (.Name x p1) "extend" p2) [e] [] p3) pos) (bk1 i A) :=
 PS.wk (t_7 (K_1 PySem.F.plainAttrs_list PySem.F.slot_list_extend PySem.F.type_list_extend ad8 (o_7 hN hv hd hcd) (i_3 he o_8 hst) hbase hfew hline hst hpl) hs) λ Dn σ H hh0_=>by
  obtain⟨c,H0,ρ,r,R,f,q⟩:=hh0_;unfold bk1 ap8 at f;obtain⟨ds0,h0,f⟩:=a_0 f;unfold ap7 at f;obtain⟨⟨xs,ρ1⟩,h1,f⟩:=a_0 f;unfold ap6 at f;obtain⟨ds,h2,f⟩:=a_0 f;dsimp only at h2 f;obtain⟨hl,f'⟩:=ifs f;cases f';obtain⟨a,x1,_,_,vs0,y1,_⟩:=R.ow i _ _ (i_4 h0);refine⟨.ref a,x1,.inl ⟨rfl,vs0,SqL.of y1⟩,c,H0,ρ,xs,ρ1,R,h1,λ p vs H1 Hh s1 R1 hp r1=>?_⟩
  have S:=Step.alloc (o:=.lst vs) R1.same hp;have R2:=R1.after S;obtain⟨a',x2,_,_,ws,y2,z2⟩:=R2.ow i _ _ (i_4 h2);rw[x1] at x2;cases x2;have l1:=z2.length;have l2:=r1.length;refine⟨a,p,ws,vs,rfl,rfl,y2,a_3,?_,?_⟩
  ·have:(1000:Nat)<=sizeLine:=by decide
   omega
  ·exact q σ _ _ (s1.trans S.s0) (R2.mutOwn (o':=.lst (ds++xs)) (u:=.lst (ws++vs)) (i_4 h2) x1 ⟨_,a_3,z2.app (Reps.mono S.s0 _ r1)⟩)
theorem bN1 (i:Nat) {x:Str}{p1 pos' bpos:Pos} (hX:X.N.Nodup) (he:XE X e F) (hN:X.N[i]?=some x:=by rfl) (hx:Loc X.env.scope x:=by first | exact Or.inl rfl | exact Or.inr rfl) (hv:Vis X.env.scope x:=by first | exact Or.inl rfl | exact Or.inr (Or.inl rfl) | exact Or.inr (Or.inr rfl)) (hd:(x==("__debug__":Str))=false:=by decide)
  (hcd:(x==("__classdict__":Str))=false:=by decide) (hs:swapsWith (.BinOp (.Name x p1) .Add e bpos) (some (.Name x pos')) pos.line X.env=pure false:=by rfl)
  (hf:X.fn x=true\/X.env.scope.names.lookup x=some .local:=by first | exact .inl rfl | exact .inr rfl) :
  XS X (.Assign [.Name x pos'] (.BinOp (.Name x p1) .Add e bpos) pos) (aF8 i F) :=
 PS.wk (D_9 hX hN hx (ar5 K_2 (o_7 hN hv hd hcd) he) hs hf) λ Dn σ H hh0_=>by
  obtain⟨c,H0,ρ,r,R,f,q⟩:=hh0_;unfold aF8 ab1 at f;obtain⟨ds0,h0,f⟩:=a_0 f;unfold ab0 at f;obtain⟨⟨d,ρ1⟩,h1,f⟩:=a_0 f;unfold aa9 at f;obtain⟨xs,h2,f⟩:=a_0 f;unfold aa8 at f;obtain⟨ds,h3,f⟩:=a_0 f;dsimp only at h2 h3 f;obtain⟨hl,f'⟩:=ifs f;cases f';obtain⟨a,x1,_,_,vs0,y1,_⟩:=R.ow i _ _ (i_4 h0);refine⟨.ref a,x1,c,H0,ρ,d,ρ1,R,h1,λ v H1 Hh s1 R1 rv=>?_⟩
  unfold lsX at h2
  split at h2
  rotate_left
  ·cases h2
  cases h2;unfold Rep at rv;obtain⟨b,zs,rfl,sb,rz⟩:=rv;obtain⟨a',x2,_,_,ws,y2,z2⟩:=R1.ow i _ _ (i_4 h3);rw[x1] at x2;cases x2;have l1:=z2.length;have l2:=rz.length;refine⟨a,b,ws,zs,rfl,rfl,SqL.of y2,Same.seq R1.same sb,?_,λ p hp=>?_⟩
  ·have:(1000:Nat)<=sizeLine:=by decide
   omega
  ·exact q _ H1 _ s1 (R1.setOwn (o:=.lst (ds++xs)) (u:=.lst (ws++zs)) i hp ⟨_,a_3,z2.app rz⟩)
theorem aD6 {apos cpos:Pos} (ho:XE X o F) (he:XE X e G) (hbase:attributeBase o "split" X.env (eval o X.env)=eval o X.env:=by rfl)
  (hfew:((backTo cpos (starEach [e] X.env)).all (λ x=>!x.1)&&(backToKw cpos (keywordEach [] X.env)).all (λ x=>x.1.isSome)&&decide (([e]:List Expr).length+([]:List Keyword).length+(if ([]:List Keyword).isEmpty then 0 else 1)<30))=true:=by rfl)
  (hline:(apos.endLine==cpos.line)=true:=by rfl) (hs:starEach [e] X.env=[(false,eval e X.env)]:=by rfl):XO' X (.Call (.Attribute o "split" apos) [e] [] cpos) (oFr (e2 q_8 F G)) :=
 PE.wk (K_1 PySem.F.plainAttrs_str PySem.F.slot_str_split PySem.F.type_str_split Q_0 ho (xaC he xaN hs) hbase hfew hline hs rfl) λ σ H Q hh0_=>by
  obtain⟨c,H0,ρ,ds,ρ',R,f,q⟩:=hh0_;unfold oFr lsA at f;obtain⟨⟨d,ρ2⟩,f,f2⟩:=a_0 f;obtain⟨x,ρ1,y,h1,h2,h3⟩:=q_7 f;unfold q_8 at h3
  split at h3
  ·rename_i a b
   obtain⟨hz,rfl⟩:=ifs h3;cases f2;refine⟨c,H0,ρ,_,ρ1,R,h1,λ v H1 Hh s1 R1 r1=>?_⟩
   unfold Rep at r1;subst r1;refine⟨rfl,c,H1,ρ1,[_],ρ2,R1,by unfold aC aN;rw[h2];rfl,λ vs H2 Hh2 s2 R2 r2=>?_⟩
   obtain⟨u,rfl,ru⟩:=Reps.v1 r2;unfold Rep at ru;subst ru;exact⟨_,_,rfl,rfl,by simpa using hz.1,hz.2,λ l hl=>q l _ H2 Hh2 (s1.trans s2) R2 hl (t_6 _)⟩
  ·cases h3
theorem aV1 {es:List Expr}{lp:Pos} (h:XA X es A) (hn:XE X e G):XO' X (.BinOp (.List es lp) .Mult e pos) (aJ9 A G) :=
 PE.wk (ar5 ba7 (ac2 h) hn) λ σ H Q hh0_=>by
  obtain⟨c,H0,ρ,ds,ρ',R,f,q⟩:=hh0_;unfold aJ9 as5 at f;obtain⟨⟨xs,ρ1⟩,h1,f⟩:=a_0 f;unfold as4 at f;obtain⟨⟨d,ρ2⟩,h2,f⟩:=a_0 f;unfold as3 at f;obtain⟨k,h3,f⟩:=a_0 f;dsimp only at h2 h3 f;obtain⟨⟨k1,k2,hl⟩,f'⟩:=ifs f;cases f';refine⟨c,H0,ρ,xs,ρ1,R,h1,λ vs H1 Hh s1 R1 r1=>⟨by rw[<- r1.length];exact ao5 hl,λ p hp=>?_⟩⟩
  have S:=Step.alloc (o:=.lst vs) R1.same hp;have R2:=R1.after S;refine⟨c,_,ρ1,d,ρ',R2,h2,λ v H3 Hh3 s3 R3 rv=>?_⟩
  unfold bl7 at h3
  split at h3
  rotate_left
  ·cases h3
  cases h3;unfold Rep at rv;subst rv;have lv:=r1.length;refine⟨p,k,vs,rfl,rfl,R3.same _ _ (s3 _ _ a_3),by omega,by omega,?_,λ l hl'=>?_⟩
  ·have:vs.length*k.toNat<=1000*1000:=Nat.mul_le_mul (by omega) (by omega)
   have:(1000*1000:Nat)<=sizeLine:=by decide
   omega
  ·exact q l _ H3 Hh3 (s1.trans (S.s0.trans s3)) R3 hl' (O_5 (Reps.mono (S.s0.trans s3) _ r1) _)
theorem aV2 {a b:Expr} (ha:XE X a F) (hb:XE X b G):XO' X (.BinOp a .Add b pos) (oFr (e2 f_8 F G)) :=
 PE.wk (ar5 K_2 ha hb) λ σ H Q hh0_=>by
  obtain⟨c,H0,ρ,ds,ρ',R,f,q⟩:=hh0_;unfold oFr lsA at f;obtain⟨⟨d,ρ2⟩,f,f2⟩:=a_0 f;obtain⟨x,ρ1,y,h1,h2,h3⟩:=q_7 f;unfold f_8 at h3
  split at h3
  ·cases h3;cases f2
  ·obtain⟨_,rfl⟩:=ifs h3;cases f2
  ·rename_i xs ys
   obtain⟨hz,rfl⟩:=ifs h3;cases f2;refine⟨c,H0,ρ,_,ρ1,R,h1,λ v H1 Hh s1 R1 r1=>⟨c,H1,ρ1,_,ρ2,R1,h2,λ u H2 Hh2 s2 R2 r2=>?_⟩⟩
   have r1':=Rep.mono s2 _ r1;unfold Rep at r1' r2;obtain⟨p,vs,rfl,sp,rp⟩:=r1';obtain⟨p2,ws,rfl,sp2,rp2⟩:=r2;have l1:=rp.length;have l2:=rp2.length;exact⟨p,p2,vs,ws,rfl,rfl,Same.seq R2.same sp,Same.seq R2.same sp2,by omega,λ l hl=>q l _ H2 Hh2 (s1.trans s2) R2 hl (rp.app rp2)⟩
  ·cases h3
theorem xfr (h:XO' X e A):XE X e (eFr A):=PE.wk h λ σ H Q hh0_=>by
 obtain⟨c,H0,ρ,d,ρ',R,f,q⟩:=hh0_;unfold eFr bn0 at f;obtain⟨⟨ds,ρ1⟩,h1,f⟩:=a_0 f;cases f;refine⟨c,H0,ρ,ds,ρ1,R,h1,λ p vs H1 Hh s1 R1 hp r1=>?_⟩
 have S:=Step.alloc (o:=.lst vs) R1.same hp;refine q _ _ _ (s1.trans S.s0) (R1.after S) ?_;unfold Rep;exact⟨p,vs,rfl,.inl (.inl a_3),Reps.mono S.s0 _ r1⟩
end
end Fx
namespace L2
open PySem PySem.Spec PyProof.Rows
theorem Inv.turnedL {X:Cx}{pins:List (Addr×Obj)}{σ:St}{H:Hp}{s:Shared}{h':Heap}{t':Nat}{fs:List Addr} (I:Inv X pins σ H s) (k:∀ b o,b∉fs->s.heap.get? b=some o->h'.get? b=some o) (hf:∀ b∈fs,FpOk X pins H b) :
  Inv X pins σ H {s with heap:=h',toks:=t'}:=by
 have out:∀ b u,H b=some u->b∉fs:=λ b u e z=>by rw[(hf b z).1] at e;cases e
 refine I.step (g':=s.gens) (d':=s.drawn) (ch:=fs) (λ b hb=>?_) (λ b o _ _ hc e _=>k b o hc e) (λ b o _ _ hc e _=>⟨o.slots,k b o hc e⟩) (λ _ _ _ _ n=>n)
  (λ b o hc e=>⟨o,k b o hc e⟩) (λ _ _ e=>e) (λ _ _ _ e=>e) (λ b ps e=>⟨#[],by rw[e];simp⟩) (λ m hm=>?_) (λ b u e=>?_) I.bare
 ·obtain⟨_,z1,_,z3,z4,z5⟩:=hf b hb
  exact⟨z3,z1,z4,z5⟩
 ·obtain⟨o,es,ep,ho,r⟩:=hm
  exact⟨o,es,ep,k _ o (λ z=>(hf _ z).2.1 rfl) ho,r⟩
 ·refine (I.hok b u e).stay (λ c v hc q=>k c v ?_ q) (λ _ q=>q) λ _ _ q=>q
  rcases hc with z | z
  ·rw[z];exact out b u e
  ·exact out _ _ z
theorem FpOk.upd {X:Cx}{pins:List (Addr×Obj)}{H:Hp}{b p:Addr}{u:HO} (h:FpOk X pins H b) (n:b≠p):FpOk X pins (upd H p u) b:=⟨by rw[a_6 n];exact h.1,h.2⟩
end L2
namespace Fx
open PySem PySem.Spec PyProof.Rows L2
def C_6 (K:Frag) (J:It) (H1:Hp) (xs:List D):Prop:=∀ (H0 H:Hp) (i:Nat),Same H1 H0->Same H0 H ->
 (∀ d,xs[i]?=some d->J.go i H/\∀ x H',J.yld i H x H'->∃ H0',Step H0 H H0' H'/\Rep K H0' d x)/\(xs.length<=i->J.stop i H)
theorem aO0 {K:Frag}{c:FC}{H1 Hh:Hp}{ρ:En}{σ:L2.St}{g:GD}{B:FS}{xs:List D}{J:It}{Dn:Ends}{r:Res} (R:RS K c H1 Hh ρ σ) (hf:fGo g B xs ρ=some r) (hy:C_6 K J H1 xs) (q:Post K c Dn H1 r) :
  ∃ W:Nat->Nat->L2.St->Hp->Prop,(∃ m,W 0 m σ Hh)/\∀ i m σ H,W i m σ H ->
   (J.stop i H/\Dn.nx σ H)\/(J.go i H/\∃ N:L2.St->Hp->Prop,(∀ σ' H',N σ' H'->∃ m',m'<m/\W (i+1) m' σ' H')/\∀ x H',J.yld i H x H'->tG K g x σ H' λ σ2 H2=>tS K B {Dn with nx:=N,ct:=N,bk:=Dn.nx} σ2 H2):=by
 refine⟨λ i m σ H=>m=xs.length-i/\i<=xs.length/\∃ H0 ρ,Same H1 H0/\RS K c H0 H ρ σ/\fGo g B (xs.drop i) ρ=some r,⟨xs.length,by simp,Nat.zero_le _,H1,ρ,Same.refl _,R,by simpa using hf⟩,?_⟩
 rintro i m σ H ⟨rfl,hi,H0,ρ,s0,R0,hg⟩;obtain⟨y1,y2⟩:=hy H0 H i s0 R0.same
 by_cases hlt:i<xs.length
 ·have hd:xs[i]?=some xs[i]:=by simp[hlt]
  obtain⟨go,yl⟩:=y1 _ hd;refine .inr ⟨go,λ σ' H'=>∃ m',m'<xs.length-i/\m'=xs.length-(i+1)/\i+1<=xs.length/\∃ H0 ρ,Same H1 H0/\RS K c H0 H' ρ σ'/\fGo g B (xs.drop (i+1)) ρ=some r,λ σ' H' ⟨m',a,b⟩=>⟨m',a,b⟩,λ x H' hx=>?_⟩
  obtain⟨H0',S,rx⟩:=yl x H' hx;rw[v_0 hd,R_2] at hg;obtain⟨ρ1,g1,hg⟩:=a_0 hg;obtain⟨z,g2,hg⟩:=a_0 hg;refine⟨c,H0',ρ,_,ρ1,R0.after S,rx,g1,λ σ1 H2 Hh2 s2 R2=>⟨c,H2,ρ1,z,R2,g2,?_⟩⟩
  have s01:=s0.trans S.s0;cases z with
  |nx ρ2=>exact λ σ' H3 Hh3 s3 R3=>⟨_,by omega,rfl,hlt,H3,ρ2,s01.trans (s2.trans s3),R3,hg⟩
  |ct ρ2=>exact λ σ' H3 Hh3 s3 R3=>⟨_,by omega,rfl,hlt,H3,ρ2,s01.trans (s2.trans s3),R3,hg⟩
  |bk ρ2 =>
   have hg':some (Res.nx ρ2)=some r:=hg;cases hg';exact λ σ' H3 Hh3 s3 R3=>q σ' H3 Hh3 (s01.trans (s2.trans s3)) R3
  |rt d ρ2 =>
   have hg':some (Res.rt d ρ2)=some r:=hg;cases hg';exact λ v σ' H3 Hh3 s3 R3 r3=>q v σ' H3 Hh3 (s01.trans (s2.trans s3)) R3 r3
 ·have hn:xs.drop i=[]:=List.drop_eq_nil_of_le (by omega)
  rw[hn,ah0] at hg;have hg':some (Res.nx ρ)=some r:=hg;cases hg';exact .inl ⟨y2 (by omega),q σ H0 H s0 R0⟩
def Ite (K:Frag) (l:Addr):It :=
 ⟨λ i H=>∃ xs x,SqL K H l xs/\xs[i]?=some x,λ i H x H'=>∃ v p,(∀ xs,SqL K H l xs->xs[i]?=some v)/\x=.ref p/\H p=none/\H'=upd H p (.tup [.int i,v]),λ i H=>∃ xs,SqL K H l xs/\xs.length<=i⟩
theorem Z_4 {P:Program}{w:World}{K:Frag}{elts:List Expr}{x1:Nat}{pt:Pos} (l e it:Addr) (ne:e≠it):Turn P w K (.Tuple elts x1 pt) (Ite K l) [e,it] e (λ i h=>∃ old,IsEnum h e it i old/\h.IsListIter it l i) where
 mem:=qg
 obj:=λ i h hh0_ b hb=>by
  obtain⟨old,st,li⟩:=hh0_
  rcases qw hb with rfl | hb
  ·exact⟨_,st,λ v z=>by cases z⟩
  ·obtain⟨o,a,c,d⟩:=li
   rw[List.mem_singleton.mp hb];exact⟨o,a,λ v z=>by rw[d] at z;cases z⟩
 keep:=λ i h h' ⟨old,st,li⟩ k=>⟨old,k e (by simp) _ st,li.at λ o q=>k it (by simp) o q⟩
 item:=λ X hP hw hK hc i pins s σ H E I hf hh0_ hh1_=>by
  obtain⟨old,st,li⟩:=hh0_;obtain⟨xs,x,sq,hx⟩:=hh1_;subst hP hw hK;obtain⟨its,rv,pl,hz⟩:=I.list sq;obtain⟨u,hu,ru⟩:=rv.get hx;have lte:e<s.heap.objs.size:=qm st;have lti:it<s.heap.objs.size:=by obtain⟨_,q,_⟩:=id li;exact qm q
  have hp:H s.heap.objs.size=none:=I.hok.fresh (qj _);refine wpAny_pyNext_enum_item st li pl.isList (x:=u) (by simpa using hu) ne λ h1 k1 k2 k3 k4 k5=>⟨_,rfl,?_⟩
  refine wpAny_letOwnedTupleGo_enum (s:={s with heap:=h1,toks:=s.toks+1}) k1 λ h2 e2 sb=>?_
  have I0:Inv X pins σ (upd H s.heap.objs.size (.tup [.int i,x])) {s with heap:=s.heap.push {cls:=.type "tuple",data:=.seq #[.int i s.toks,u]},toks:=s.toks+1} :=
   I.laid (t':=s.toks+1) (λ b o q=>qf _ q) (qj _) (show ObjOk X.prog X.w _ _ _ (.tup [.int i,x]) from ⟨by show (2:Nat)<=sizeLine;decide,[.int i s.toks,u],.cons ⟨_,rfl⟩ (.cons ru .nil),IsTuN.new _ _⟩)
  have fp:∀ b∈[e,it],FpOk X pins (upd H s.heap.objs.size (.tup [.int i,x])) b:=λ b hb=>(hf b hb).upd (by
   rcases qw hb with rfl | hb
   ·exact qv lte
   ·rw[List.mem_singleton.mp hb];exact qv lti)
  have I2:Inv X pins σ (upd H s.heap.objs.size (.tup [.int i,x])) {s with heap:=h2,toks:=s.toks+1}:=Inv.turnedL (s:={s with heap:=s.heap.push {cls:=.type "tuple",data:=.seq #[.int i s.toks,u]},toks:=s.toks+1}) (t':=s.toks+1) (fs:=[e,it]) I0 (λ b q hb z=>by
   have b1:b≠e:=λ y=>hb (by simp[y])
   have b2:b≠it:=λ y=>hb (by simp[y])
   refine (sb.2 b b1).trans ?_
   rcases Heap.get?_push_cases z with ⟨z1,z2⟩ | z
   ·rw[z1,z2];exact k3
   ·exact k5 b q b1 b2 z) fp
  refine⟨.ref s.heap.objs.size,_,I2,rfl,⟨x,_,λ ys hy=>by rw[I.list_inj hy sq];exact hx,rfl,hp,rfl⟩,⟨_,by rw[show ((i+1:Nat):Int)=(i:Int)+1 by omega];exact e2,k2.at λ o q=>(sb.2 it (Ne.symm ne)).trans q⟩,λ b hb=>(fp b hb).1⟩
 done:=λ X hP hw hK hc i pins s σ H E I hf hh0_ hh1_=>by
  obtain⟨old,st,li⟩:=hh0_;obtain⟨xs,sq,hx⟩:=hh1_;subst hP hw hK;obtain⟨its,rv,pl,hz⟩:=I.list sq;have hl:=rv.length;exact wpAny_pyNext_enum_end (I.ok.hd hc) st li pl.isList (by simp;omega) λ h' eb=>⟨rfl,I.turnedL (t':=s.toks) (fs:=[e,it]) (λ b o hb q=>eb b o (λ y=>hb (by simp[y])) q) hf⟩
 self:=λ _ _ _ _ _ ⟨_,st,_⟩ h=>wpAny_pyIter_enum st h
def bT8 (K:Frag) (t:TE):TI:=λ σ H R=>t σ H λ x H1=>∃ a xs,x=.ref a/\SqL K H1 a xs/\R (Ite K a) H1
theorem aI8 {X:Cx}{elts:List Expr}{x1:Nat}{pt:Pos}{l:Expr}{tl:TE}{p pos:Pos} (hg:Gl X "enumerate") (hm:X.mg "enumerate"=none) (hl:PE X l tl) (hs:starEach [l] X.env=[(false,eval l X.env)]:=by rfl):PI X (.Tuple elts x1 pt) (.Call (.Name "enumerate" p) [l] [] pos) (bT8 X.K tl):=by
 intro pins s σ H R I h;refine Call_ (n_3 I hg hm (u:=.type "enumerate") (by decide +kernel) (PyProof.Rows.callWith_type1 (thn (i_3 hl o_8 hs pos pins s σ H (λ vs H1=>match vs with | [x]=>(∃ a xs,x=.ref a ∧ SqL X.K H1 a xs ∧ R (Ite X.K a) H1) | _=>False) I h) λ us s1=>ex5 λ vs H1 I1 r1 q1=>?_) hs rfl))
 match vs,q1,r1 with
 |[x],q1,r1 =>
  obtain⟨a,xs,rfl,sq,q⟩:=q1;obtain⟨u,rfl,ru⟩:=j_6 r1;cases ru;obtain⟨its,rv,pl,hz⟩:=I1.list sq;refine call_enumerate_list pl.isList λ h' st li sz k=>?_
  refine wpAny_pyIter_enum st ⟨s1.heap.objs.size+1,[s1.heap.objs.size+1,s1.heap.objs.size],_,_,H1,rfl,I1.kept (t':=s1.toks) k,Z_4 a (s1.heap.objs.size+1) s1.heap.objs.size (Nat.succ_ne_self _),⟨_,st,li⟩,λ b hb=>?_,q⟩
  rcases qw hb with rfl | hb
  ·exact I1.fpOk (Nat.le_succ _) (I1.hok.fresh (Nat.le_succ _))
  ·rw[List.mem_singleton.mp hb];exact I1.fpOk (qj _) (I1.hok.fresh (qj _))
theorem R_5:∀ (xs:List D) (k:Nat),(ah5 k xs).length=xs.length
 |[],_=>rfl
 |_::r,k=>by show (ah5 (k+1) r).length+1=r.length+1;rw[R_5 r]
theorem R_6:∀ (xs:List D) (k i:Nat) {d:D},(ah5 k xs)[i]?=some d->∃ y,xs[i]?=some y/\d=.tup [.int ((k+i:Nat):Int),y]
 |[],_,_,_,h=>by cases h
 |x::r,k,0,d,h=>by cases h;exact⟨x,rfl,rfl⟩
 |x::r,k,i+1,d,h=>by
  obtain⟨y,a,b⟩:=R_6 r (k+1) i (show (ah5 (k+1) r)[i]?=some d from h);exact⟨y,a,by rw[b,show k+1+i=k+(i+1) by omega]⟩
theorem J_2 {K:Frag}{H1:Hp}{a:Addr}{vs:List V}{xs:List D} (rd:SqL K H1 a vs) (r:Reps K H1 xs vs):C_6 K (Ite K a) H1 (ah5 0 xs):=λ H0 H i s s'=>by
 have sq:SqL K H a vs:=Same.seq (s.trans s') rd;refine⟨λ d e=>?_,λ h=>⟨vs,sq,by rw[<- r.length,<- R_5 xs 0];exact h⟩⟩
 obtain⟨y,e1,rfl⟩:=R_6 xs 0 i e;obtain⟨v,e2,rv⟩:=r.get e1;refine⟨⟨vs,v,sq,e2⟩,λ x H' hh0_=>?_⟩
 obtain⟨v',p,ez,ex,hp,eH⟩:=hh0_;have ez:=ez vs sq;subst ex eH;rw[e2] at ez;cases ez;have S:=Step.alloc (o:=.tup [.int i,v]) s' hp;refine⟨_,S,?_⟩;rw[Nat.zero_add];unfold Rep;exact⟨p,_,rfl,.inl (.inl a_3),Reps.cons (c_8 _ _) (Reps.one (Rep.mono (s.trans S.s0) _ rv))⟩
section
variable {X:Cx}{pos:Pos}{F:FE}{B:FS}
theorem bo0 {elts:List Expr}{x1:Nat}{pt:Pos}{a:Expr}{body:List Stmt}{g:GD}{p pos':Pos} (hm:X.mg "enumerate"=none) (hg:XG X (.Tuple elts x1 pt) g) (ha:XE X a F) (hb:XSs X body B) (hgl:Gl X "enumerate":=by rfl)
  (hp:PassesOwn (model X.prog X.w) X.A X.env X.xe:=by exact PassesOwn.never) (hc:X.calm=true:=by rfl) (hst:starEach [a] X.env=[(false,eval a X.env)]:=by rfl)
  (hs:∀ x,foldedSetIterable (.Call (.Name "enumerate" p) [a] [] pos') X.env x=pure x:=by intro _;rfl) :
  XS X (.For (.Tuple elts x1 pt) (.Call (.Name "enumerate" p) [a] [] pos') body [] pos) (ap5 g F B):=PS.wk (P_0 hp hc (aI8 hgl hm ha hst) hg hb hs) λ Dn σ H hh0_=>by
 obtain⟨c,H0,ρ,r,R,f,q⟩:=hh0_;unfold ap5 O_2 at f;obtain⟨⟨d,ρ1⟩,h1,f⟩:=a_0 f;unfold O_1 at f;obtain⟨xs,h2,f⟩:=a_0 f;dsimp only at h2 f;unfold lsX at h2
 split at h2
 rotate_left
 ·cases h2
 cases h2;refine⟨c,H0,ρ,_,ρ1,R,h1,λ v H1 Hh s1 R1 r1=>?_⟩
 unfold Rep at r1;obtain⟨a,vs,rfl,sq,rs⟩:=r1;exact⟨a,vs,rfl,Same.seq R1.same sq,aO0 R1 f (J_2 sq rs) (q.mono s1)⟩
end
end Fx
namespace Fx
open PySem PySem.W PyProof.Rows
section
variable {n:Nat}{r:Nat->Nat}
abbrev ltR (r:Nat->Nat) (i j:Nat):Bool:=decide (r i<r j)
structure OkP (n:Nat) (p:Array Nat):Prop where
 size:p.size=n
 perm:p.toList.Perm (List.range n)
end
end Fx
namespace Fx
open PySem PySem.Spec PyProof.Rows L2
def bX1:D->Value->Prop
 |.int i,v=>∃ t,v=.int i t
 |.str a,v=>∃ t,v=.str a t
 |_,_=>False
inductive Flats:List D->List Value->Prop
 |nil:Flats [] []
 |cons {d:D}{u:Value}{ds:List D}{us:List Value} (h:bX1 d u) (r:Flats ds us):Flats (d::ds) (u::us)
theorem Flats.length {ds:List D}{us:List Value} (h:Flats ds us):ds.length=us.length:=by
 induction h with
 |nil=>rfl
 |cons _ _ ih=>simp[ih]
end Fx
namespace Fx
open PySem PySem.W PySem.Spec PyProof.Rows
section
variable {prog:Program}{w:World}{A:Around}{E:Value->Shared->Prop}{s:Shared}
structure Asks (prog:Program) (w:World) (A:Around) (s:Shared) (a:Addr) (vs:List Value) (κ:SortKind) (r:Nat->Nat):Prop where
 kind:2<=vs.length->∀ h',(∀ b o,b≠a->s.heap.get? b=some o->h'.get? b=some o)->∀ Q:SortKind->Shared->Prop,Q κ {s with heap:=h'}->wpAny (model prog w) A (keyKind' vs.toArray) Q (λ _ _=>False) {s with heap:=h'}
 ask:∀ h',(∀ b o,b≠a->s.heap.get? b=some o->h'.get? b=some o)->∀ i j,i<vs.length->j<vs.length->∀ C:Bool->Shared->Prop,C (ltR r i j) {s with heap:=h'}->kas_ask prog w A κ vs i j C {s with heap:=h'}
end
end Fx
namespace Fx
open PySem PySem.W PySem.Spec PyProof.Rows L2
end Fx
namespace Fx
open PySem PySem.W PyProof.Rows
structure Cmp (prog:Program) (w:World) (A:Around) (s:Shared) (κ:SortKind) (rk:Keyed->Nat) (M:Keyed->Prop):Prop where
 ask:∀ x y,M x->M y->∀ Q:Bool->Shared->Prop,Q (decide (rk x<rk y)) s->wpAny (model prog w) A (keyLt' κ x.1 y.1) Q (λ _ _=>False) s
structure Gm (le:Keyed->Keyed->Prop) (T out P Q:List Keyed):Prop where
 perm:(out++P++Q).Perm T
 so:out.Pairwise le
 bp:∀ x∈out,∀ y∈P,le x y
 bq:∀ x∈out,∀ y∈Q,le x y
 sp:P.Pairwise le
 sq:Q.Pairwise le
section
variable {le:Keyed->Keyed->Prop}{T out P Q P1 Q1:List Keyed}
theorem Gm.swap (h:Gm le T out P Q):Gm le T out Q P:=by
 refine⟨List.Perm.trans ?_ h.perm,h.so,h.bq,h.bp,h.sq,h.sp⟩;rw[List.append_assoc,List.append_assoc];exact List.perm_append_comm.append_left out
end
def leR (rk:Keyed->Nat) (x y:Keyed):Prop:=rk x<=rk y
def Rk (rk:Keyed->Nat) (xs:Array Keyed) (i:Nat):Nat:=match xs[i]? with
 |some x=>rk x
 |none=>0
theorem bn6 {rk:Keyed->Nat}{xs ys:Array Keyed}{i j:Nat} (h:xs[i]?=ys[j]?):Rk rk xs i=Rk rk ys j:=by unfold Rk;rw[h]
def Kp (lo:Nat) (a xs:Array Keyed):Prop:=xs.Perm a/\∀ i,i<lo->xs[i]?=a[i]?
theorem Kp.size {lo:Nat}{a xs:Array Keyed} (h:Kp lo a xs):xs.size=a.size:=h.1.size_eq
def UpO (rk:Keyed->Nat) (xs:Array Keyed) (lo m:Nat):Prop:=∀ i j,i<=j->j<m->Rk rk xs (lo+i)<=Rk rk xs (lo+j)
section
variable {prog:Program}{w:World}{A:Around}{E:Value->Shared->Prop}{s:Shared}{κ:SortKind}{rk:Keyed->Nat}{M:Keyed->Prop}
structure Gap (rk:Keyed->Nat) (xs:Array Keyed) (lo k l r:Nat):Prop where
 ord:l<=r/\r<=k
 below:∀ i<l,Rk rk xs (lo+i)<=Rk rk xs (lo+k)
 above:∀ i<k,r<=i->Rk rk xs (lo+k)<Rk rk xs (lo+i)
theorem Gap.all {xs:Array Keyed}{lo k:Nat}:Gap rk xs lo k 0 k:=⟨⟨Nat.zero_le _,qj _⟩,λ i z=>absurd z (Nat.not_lt_zero i),λ i z y=>absurd (qt z y) (Nat.lt_irrefl _)⟩
end
def az4:List (List Keyed×Nat)->Nat->List (Nat×Nat×Nat)
 |[],_=>[]
 |r::t,o=>(o,r.1.length,r.2)::az4 t (o+r.1.length)
def B_7 (rs:List (List Keyed×Nat)):List Keyed:=(rs.map (·.1)).flatten
theorem bf3 (a b:List (List Keyed×Nat)):B_7 (a++b)=B_7 a++B_7 b:=by unfold B_7;rw[List.map_append,List.flatten_append]
theorem V_9 (r:List Keyed×Nat) (b:List (List Keyed×Nat)):B_7 (r::b)=r.1++B_7 b:=by unfold B_7;rw[List.map_cons,List.flatten_cons]
theorem aq1:∀ (a b:List (List Keyed×Nat)) (o:Nat),az4 (a++b) o=az4 a o++az4 b (o+(B_7 a).length)
 |[],b,o=>rfl
 |r::a,b,o=>by
  rw[List.cons_append];show (o,r.1.length,r.2)::az4 (a++b) (o+r.1.length)=(o,r.1.length,r.2)::(az4 a (o+r.1.length)++az4 b _);rw[aq1 a b,V_9,List.length_append,Nat.add_assoc]
structure RunsOk (rk:Keyed->Nat) (κ:SortKind) (T:List Keyed) (post:List Keyed) (rs:List (List Keyed×Nat)) (st:SortSt):Prop where
 kind:kindOf st=κ
 fail:failedOf st=none
 pend:(pendingOf st).toList=az4 rs 0
 arr:(arrOf st).toList=B_7 rs++post
 perm:(arrOf st).toList.Perm T
 ne:∀ r∈rs,r.1≠[]
 so:∀ r∈rs,r.1.Pairwise (leR rk)
end Fx
namespace Fx
open PySem PySem.W PySem.Spec PyProof.Rows
end Fx
namespace Fx
open PySem PySem.W PySem.Spec PyProof.Rows L2
section
variable {X:Cx}{pos:Pos}{o e:Expr}{F G:FE}
theorem aK7 {x:Str}{n:Int} (h1:0<=n) (h2:n<=1000) (h3:x.length<=1000):MulOk x n:=by
 refine⟨?_,λ _ _=>?_,λ _ _=>?_⟩
 ·rw[decide_eq_false (by omega),decide_eq_false (by omega)];rfl
 ·have:(x.length:Int)*n<=1000*1000:=Int.mul_le_mul (by omega) h2 (by omega) (by decide)
  have:=Int.le_ediv_of_mul_le (show 0<n by omega) (show (x.length:Int)*n<=2 ^ 63-1 by omega)
  omega
 ·have:x.length*n.toNat<=1000*1000:=Nat.mul_le_mul h3 (by omega)
  unfold Builtin.Str.tooLong;have big:1000*1000<=sizeLine:=by decide
  simp;omega
theorem bu9:C_7 X .Mult aw2:=⟨λ x y H Q=>∃ a n,x=.str a/\y=.int n/\MulOk a n/\Q (.str (Txt.mul a n)) H,λ pins s σ H x y u v Q I rx ry hh0_=>by
 obtain⟨a,n,ex,ey,ok,q⟩:=hh0_;subst ex ey;obtain⟨t,rfl⟩:=rx;obtain⟨w,rfl⟩:=ry
 exact SB.mul ok λ t' k=>⟨.str _,H,I.tok k,⟨t',rfl⟩,q⟩,λ c H0 H ρ σ x y d vx vy Q R r1 r2 e q=>by
  unfold aw2 at e
  split at e
  ·obtain⟨⟨h1,h2,h3⟩,rfl⟩:=ifs e
   unfold Rep at r1 r2;subst r1 r2;exact⟨_,_,rfl,rfl,aK7 h1 h2 h3,q _ H0 H (Same.refl _) R (by unfold Rep;rfl)⟩
  ·cases e⟩
end
end Fx
namespace Fx
open PySem PySem.Spec PyProof.Rows L2
theorem G_4 {α:Type}:∀ l:List α,((List.range ((l.length+1) / 2)).filterMap λ m=>l[2*m]?)=evn l
 |[]=>by simp[evn]
 |[a]=>by simp[evn]
 |a::b::r=>by
  have ih:=G_4 r;have e:((a::b::r).length+1) / 2=(r.length+1) / 2+1:=by simp only[List.length_cons];omega
  rw[e,List.range_succ_eq_map,List.filterMap_cons];show a::_=a::evn r;rw[List.filterMap_map,<- ih]
  congr 1
theorem L_9 {α:Type}:∀ l:List α,(evn l).length<=l.length
 |[]=>qj _
 |[a]=>qj _
 |a::b::r=>by
  have:=L_9 r;show (evn r).length+1<=r.length+1+1;omega
theorem R_4:∀ {xs:List V}{us:List Value},Vals xs us->Vals (evn xs) (evn us)
 |[],_,h=>by cases h;exact .nil
 |[_],_,h=>by
  cases h with
  |cons a t=>cases t;exact .cons a .nil
 |_::_::_,_,h=>by
  cases h with
  |cons a t =>
   cases t with
   |cons b c=>exact .cons a (R_4 c)
theorem B_8 {K:Frag}{H:Hp}:∀ {ds:List D}{vs:List V},Reps K H ds vs->Reps K H (evn ds) (evn vs)
 |[],vs,h=>by unfold Reps at h;subst h;exact Reps.nil_
 |[d],vs,h=>by
  unfold Reps at h;obtain⟨v,r,rfl,a,h2⟩:=h;unfold Reps at h2;subst h2;exact Reps.one a
 |d::e::ds,vs,h=>by
  unfold Reps at h;obtain⟨v,r,rfl,a,h2⟩:=h;unfold Reps at h2;obtain⟨v',r',rfl,_,h3⟩:=h2;exact Reps.cons a (B_8 h3)
theorem aa0 (xs:Array Value) (i:Nat) (hi:i<=xs.size):((List.range (Builtin.Slice.slicePlaces (i:Int) (xs.size:Int) 2)).filterMap λ (m:Nat)=>xs[((i:Int)+(m:Int)*2).toNat]?).toArray=(evn (xs.toList.drop i)).toArray:=by
 have k:Builtin.Slice.slicePlaces (i:Int) (xs.size:Int) 2=((xs.toList.drop i).length+1) / 2:=by
  unfold Builtin.Slice.slicePlaces;rw[List.length_drop,Array.length_toList,if_pos (by decide)]
  by_cases h:(i:Int)<(xs.size:Int)
  ·rw[if_pos h];omega
  ·rw[if_neg h];omega
 rw[k,<- G_4]
 congr 2
 funext m
 rw[List.getElem?_drop,Array.getElem?_toList,show ((i:Int)+(m:Int)*2).toNat=i+2*m by omega]
section
variable {prog:Program}{w:World}{A:Around}{E:Value->Shared->Prop}{s:Shared}
theorem aa3 {sl:Addr}{vl:Value}{lo:Option Int}{t:Tok}{n:Nat}{Q:Int×Int×Nat->Shared->Prop} (hs:s.heap.IsSliceOf sl vl .none (.int 2 t)) (pl:IsPart vl lo)
  (h:Q (((HT.sIx n 0 lo:Nat):Int),2,Builtin.Slice.slicePlaces ((HT.sIx n 0 lo:Nat):Int) (n:Int) 2) s):wpAny (model prog w) A (Builtin.Slice.sliceApplied (.ref sl) (pure (n:Int))) Q E s:=by
 obtain⟨os,hos,hcs,hds⟩:=id hs;unfold Builtin.Slice.sliceApplied Builtin.Slice.sliceFields;refine qb (qb (wpAny_field hos hds (x:=vl) rfl (qb (wpAny_field hos hds (x:=.none) rfl (qb (wpAny_field hos hds (x:=.int 2 t) rfl (qc ?_)))))));refine qb (HT.slicePart_ (.int 2 t) ?_);show wpAny _ _ (if ((2:Int)==0)=true then _ else _) _ _ s;rw[if_neg (by decide)]
 refine qb (HT.slicePart_ pl (qb (HT.slicePart_ .none (qb (qc ?_)))))
 have adj:Builtin.Slice.sliceAdjust lo none 2 (n:Int)=(((HT.sIx n 0 lo:Nat):Int),(n:Int)):=by
  have neg:¬ ((2:Int)<0):=by omega
  unfold Builtin.Slice.sliceAdjust;simp only[neg,if_false];refine Prod.ext ?_ rfl;cases lo with
  |none=>rfl
  |some v=>exact HT.clip_eq v n 0
 show wpAny _ _ (match Builtin.Slice.sliceAdjust lo none 2 (n:Int) with | (lo,hi)=>pure (lo,(2:Int),Builtin.Slice.slicePlaces lo hi 2)) _ _ s
 rw[adj];exact qc h
theorem au0 {t sl:Addr}{items:Array Value}{vl:Value}{lo:Option Int}{tk:Tok}{Q:Value->Shared->Prop} (ht:IsTup s.heap t items) (hs:s.heap.IsSliceOf sl vl .none (.int 2 tk)) (pl:IsPart vl lo)
  (h:Q (.ref s.heap.objs.size) {s with heap:=s.heap.push {cls:=.type "tuple",data:=.seq (evn (items.toList.drop (HT.sIx items.size 0 lo))).toArray}})
  (hsz:items.size<=sizeLine):wpAny (model prog w) A (getItem (.ref t) (.ref sl)) Q E s:=by
 have ok:sizeOk (.seq (evn (items.toList.drop (HT.sIx items.size 0 lo))).toArray):=by
  show (evn (items.toList.drop (HT.sIx items.size 0 lo))).toArray.size<=sizeLine;have l1:=L_9 (items.toList.drop (HT.sIx items.size 0 lo));have l2:=List.length_drop (i:=HT.sIx items.size 0 lo) (l:=items.toList);have l3:items.toList.length=items.size:=Array.length_toList;rw[List.size_toArray];omega
 obtain⟨os,hos,hcs,hds⟩:=id hs;have hTs:s.TypeIs (.ref sl) "slice":=⟨os,hos,hcs⟩;unfold getItem
 try with_reducible refine wpAny_holding ?_
 first | refine qb (qc ?_) | skip
 refine qb (wpAny_sequenceKey ht.typeIs (by decide) ?_)
 refine qb (wpAny_callSpecial?_slot (name:=Str.ofString "__getitem__") ht.typeIs PyProof.Rows.slot_tuple_getitem
  (wpAny_call_entry PyProof.Rows.slot_tuple_getitem ht.typeIs entry_tuple_getitem ?_ (args_tuple_getitem _ _)))
 show wpAny _ _ (Builtin.Tuple.tupleItemsOf (.ref t) >>= _) _ _ s;refine qb (tupleItemsOf_ ht ?_);refine qb (wpAny_typeOf hTs ?_);rw[if_pos (by decide)]
 refine qb (aa3 hs pl ?_)
 have no:¬ ((((HT.sIx items.size 0 lo:Nat):Int)==0&&(2:Int)==1&&Builtin.Slice.slicePlaces ((HT.sIx items.size 0 lo:Nat):Int) (items.size:Int) 2==items.size)=true):=by
  rw[show ((2:Int)==1)=false by decide,Bool.and_false,Bool.false_and]
  exact qp
 show wpAny _ _ (if (((HT.sIx items.size 0 lo:Nat):Int)==0&&(2:Int)==1&&Builtin.Slice.slicePlaces ((HT.sIx items.size 0 lo:Nat):Int) (items.size:Int) 2==items.size)=true then _ else _) _ _ s;rw[if_neg no,aa0 items _ (HT.sIx_le _ _ (Nat.zero_le _) lo)]
 first
  |exact qb (m:=Builtin.Tuple.tupleExact _) (wpAny_newObj_type (qc ⟨_,rfl,qc h⟩) ok)
  |exact qb (m:=Builtin.Tuple.tupleExact _) (wpAny_newObj_type (qb (qc (qc ⟨_,rfl,qc h⟩))) ok)
  |exact qb (qb (m:=Builtin.Tuple.tupleExact _) (wpAny_newObj_type (qc (qc ⟨_,rfl,qc h⟩)) ok))
  |exact qb (qb (m:=Builtin.Tuple.tupleExact _) (wpAny_newObj_type (qc ⟨_,rfl,qc h⟩) ok))
end
section
variable {X:Cx}{pos:Pos}{F:FE}{e:Expr}
theorem az9 {te:TE}{lo:Option Expr}{tl:TO}{p2 p3:Pos}{k:Nat} (he:PE X e te) (hl:PO X lo tl):PE X (.Subscript e (.Slice lo none (some (.Constant (.int 2) k p3)) p2) pos)
  (λ σ H Q=>te σ H λ x H1=>tl σ H1 λ o H2=>∃ a xs,x=.ref a/\SqT X.K H2 a xs/\∀ p,H2 p=none->Q (.ref p) (upd H2 p (.tup (evn (xs.drop (HT.sIx xs.length 0 o)))))):=by
 intro pins s σ H Q I h;refine Subscript_ (thn (he pins s σ H _ I h) λ v s1=>ex5 λ x H1 I1 r1 q1=>?_)
 refine wpAny_Slice (thn (hl pins s1 σ H1 _ I1 q1) λ vl s2 hh0_=>?_)
 obtain⟨o,H2,I2,pl,a,xs,ex,sq,q⟩:=hh0_;subst ex;cases r1;rw[evalPart_none];refine qc ?_;rw[evalPart_some];refine thn (P_1 (X:=X) (i:=2) (j:=k) (pos:=p3) pins s2 σ H2 (λ y H'=>y=.int 2/\H'=H2) I2 ⟨rfl,rfl⟩) λ st s3 hh0_=>?_
 obtain⟨y,H3,I3,ry,ey,eH⟩:=hh0_;subst ey eH;obtain⟨t,rfl⟩:=ry;have I4:Inv X pins σ H3 {s3 with heap:=s3.heap.push {cls:=.type "slice",data:=.fields #[vl,.none,.int 2 t]}}:=I3.kept (t':=s3.toks) λ b ob q=>qf _ q
 obtain⟨its,rv,ht,hz⟩:=I4.tuple sq;have hlen:its.toArray.size=xs.length:=by rw[List.size_toArray];exact rv.length.symm
 show wpAny (model X.prog X.w) X.A (subscriptTail e (.Slice lo none (some (.Constant (.int 2) k p3)) p2) (.ref a) (.ref s3.heap.objs.size)) (EP X pins σ Q) X.xe {s3 with heap:=s3.heap.push {cls:=.type "slice",data:=.fields #[vl,.none,.int 2 t]}}
 refine tail_any (ops:=[.ref a,.ref s3.heap.objs.size]) ht.typeIs PyProof.Rows.slot_tuple_getitem.lookup ?_ (by with_unfolding_all rfl)
 refine au0 ht (Heap.IsSliceOf.new ..) pl ?_ (by rw[hlen];exact hz)
 rw[hlen];refine⟨.ref _,_,I4.laid (t':=s3.toks) (o:=.tup (evn (xs.drop (HT.sIx xs.length 0 o)))) (λ b ob q=>qf _ q) (qj _) ?_,rfl,q _ (I4.hok.fresh (qj _))⟩
 refine⟨Nat.le_trans (L_9 _) (by rw[List.length_drop];omega),_,R_4 (rv.drop _),IsTuN.new _ _⟩
theorem Z_9 {i:Nat}{ρ ρ':En}{d:D} (h:e1 (X_8 i) F ρ=some (d,ρ')):∃ xs,F ρ=some (.tup xs,ρ')/\d=.tup (evn (xs.drop i)):=by
 unfold e1 at h;obtain⟨⟨x,ρ1⟩,h1,f⟩:=a_0 h;obtain⟨d',h2,f⟩:=a_0 f;have f':some (d',ρ1)=some (d,ρ'):=f;cases f';dsimp only at h2;unfold X_8 at h2
 split at h2
 ·cases h2;exact⟨_,h1,rfl⟩
 ·cases h2
theorem bC8 {p2 p3:Pos}{k:Nat} (he:XE X e F):XE X (.Subscript e (.Slice none none (some (.Constant (.int 2) k p3)) p2) pos) (e1 (X_8 0) F):=PE.wk (az9 he ab9) λ σ H Q hh0_=>by
 obtain⟨c,H0,ρ,d,ρ',R,f,q⟩:=hh0_;obtain⟨xs,h1,rfl⟩:=Z_9 f;refine⟨c,H0,ρ,_,_,R,h1,λ v H1 Hh s1 R1 r1=>?_⟩
 unfold Rep at r1;obtain⟨a,ws,rfl,sq,t⟩:=r1;refine⟨a,ws,rfl,Same.seqT R1.same sq,λ p hp=>?_⟩
 have S:=Step.alloc (o:=.tup (evn (ws.drop 0))) R1.same hp;refine q _ _ _ (s1.trans S.s0) (R1.after S) ?_;unfold Rep;exact⟨p,_,rfl,.inl (.inl a_3),Reps.mono S.s0 _ (B_8 t)⟩
theorem bN0 {p2 p3 p4:Pos}{k k1:Nat} (he:XE X e F):XE X (.Subscript e (.Slice (some (.Constant (.int 1) k1 p4)) none (some (.Constant (.int 2) k p3)) p2) pos) (e1 (X_8 1) F):=PE.wk (az9 he (ab8 P_1)) λ σ H Q hh0_=>by
 obtain⟨c,H0,ρ,d,ρ',R,f,q⟩:=hh0_;obtain⟨xs,h1,rfl⟩:=Z_9 f;refine⟨c,H0,ρ,_,_,R,h1,λ v H1 Hh s1 R1 r1=>?_⟩
 unfold Rep at r1;obtain⟨a,ws,rfl,sq,t⟩:=r1;refine⟨1,rfl,a,ws,rfl,Same.seqT R1.same sq,λ p hp=>?_⟩
 have e:ws.drop (HT.sIx ws.length 0 (some 1))=ws.drop 1:=by
  rw[show (some (1:Int))=some ((1:Nat):Int) from rfl,HT.sIx_nat];cases ws with
  |nil=>rfl
  |cons a r=>rw[show min 1 (a::r).length=1 by simp]
 rw[e];have S:=Step.alloc (o:=.tup (evn (ws.drop 1))) R1.same hp;refine q _ _ _ (s1.trans S.s0) (R1.after S) ?_;unfold Rep;exact⟨p,_,rfl,.inl (.inl a_3),Reps.mono S.s0 _ (B_8 (Reps.drop 1 t))⟩
end
end Fx
namespace Fx
open PySem PySem.Spec
theorem F_6 (t:SetTable) (es:Array (Int×Value)) (h:Int) (x:Value):(layNew t es h x).2.1.led=t.led/\((layNew t es h x).2.1.plain=true->t.plain=true):=by
 have st:∀ (u:SetTable) (n:Nat),(u.standIn n).led=u.led/\(u.standIn n).plain=false:=λ u n=>⟨rfl,rfl⟩
 unfold layNew
 split
 ·rename_i slot wd _
  have pu:(t.put slot).1.led=t.led/\(t.put slot).1.plain=t.plain:=⟨rfl,rfl⟩;dsimp only;unfold SetTable.orStandIn
  split
  ·exact⟨pu.1,λ q=>by rw[<- pu.2];exact q⟩
  ·exact⟨pu.1,λ q=>by cases q⟩
 ·exact⟨rfl,λ q=>by cases q⟩
theorem w_1 (t:SetTable) (es:Array (Int×Value)) (n:Nat):(relayAll t es n).2.1.led=t.led/\((relayAll t es n).2.1.plain=true->t.plain=true):=by
 unfold relayAll
 split
 ·rename_i t' order e
  have m:t'.led=t.led/\t'.plain=t.plain:=by
   unfold SetTable.relaid SetTable.laid at e;cases z:SetTable.layClean (SetTable.sizeAbove n-1) (es.map (·.1)) with
   |none=>rw[z] at e;cases e
   |some ow=>rw[z] at e;cases e;exact⟨rfl,rfl⟩
  dsimp only
  split
  ·exact⟨m.1,λ q=>by rw[<- m.2];exact q⟩
  ·exact⟨rfl,λ q=>by cases q⟩
 ·exact⟨rfl,λ q=>by cases q⟩
def SetS (P:Program) (w:World) (bt:Bool) (h:Heap) (a:Addr) (ss:List Str):Prop :=
 ∃ o es ep t,h.get? a=some o/\o.ExactSet/\o.data=.set es ep t/\ElemsOf (PySem.strKind P w) es.toList/\(es.toList.map λ e=>PyProof.Rows.strOf e.2).Perm ss/\ss.Nodup/\es.size<scanBound/\t.fits es.size=true /\
  (t.plain=true->es.size=0)/\(bt=false->t.led=true)
section
variable {P:Program}{w:World}{bt:Bool}{A:Around}{E:Value->Shared->Prop}{s:Shared}{a:Addr}{ss:List Str}
theorem R_7 {es:List (Int×Value)} (h:ElemsOf (PySem.strKind P w) es):∀ e∈es,∃ x t,e.2=.str x t/\e.1=(PySem.strKind P w).hash x:=λ e he=>by
 obtain⟨⟨k,hk,hh⟩,_⟩:=h e he;obtain⟨t,ht⟩:=Value.isStrOf_shape hk;exact⟨k,t,ht,hh⟩
theorem n_0 {x:Str}{v:Value}{y:Str}{t:Tok} (e:v=.str y t):(PySem.strKind P w).is x v=decide (x=y):=by
 subst e;have h:(PySem.strKind P w).is y (.str y t)=true:=by show Value.isStrOf y (.str y t)=true;simp[Value.isStrOf]
 exact KeyKind.is_eq_decide h x
theorem T_4 {x:Str}{tk:Tok}{Q:Bool->Shared->Prop} (hS:SetS P w bt s.heap a ss) (hroom:ss.length+1<scanBound)
  (h:∀ h',Heap.SameBut a s.heap h'->SetS P w bt h' a (if x∈ss then ss else ss++[x])->Q (!decide (x∈ss)) {s with heap:=h'}) :
  wpAny (model P w) A (setAddHashed a (.str x tk) ((PySem.strKind P w).hash x)) Q E s:=by
 obtain⟨o,es,ep,t,ho,hex,hd,hel,hp,hnd,hb,hf,hpl,hled⟩:=hS;have hkey:(PySem.strKind P w).is x (.str x tk)=true:=by rw[n_0 rfl];simp
 have hsc:(Value.str x tk).scannable=true:=rfl
 have hn:es.size=ss.length:=by
  have:=hp.length_eq;rw[List.length_map,Array.length_toList] at this;exact this
 have mem:(∃ e∈es.toList,(PySem.strKind P w).is x e.2=true)↔x∈ss:=by
  rw[<- hp.mem_iff,List.mem_map];constructor
  ·rintro ⟨e,he,q⟩
   obtain⟨y,t,ey,_⟩:=R_7 hel e he;rw[n_0 ey,decide_eq_true_iff] at q;exact⟨e,he,by rw[ey,q];rfl⟩
  ·rintro ⟨e,he,q⟩
   obtain⟨y,t,ey,_⟩:=R_7 hel e he;rw[ey] at q;exact⟨e,he,by rw[n_0 ey,decide_eq_true_iff,<- q];rfl⟩
 unfold setAddHashed setAddHashedIn;refine wpAny_holding (qb (wpAny_setState_of ho hd hf ?_));dsimp only;rw[byScan_of hsc hb hel];simp only[↓reduceIte];unfold setAddByScan;refine qb (qb (wpAny_rule (qb (wpAny_setScan_of hkey ho hd hf hel ?_))));cases hr:List.findIdx? (λ e=>(PySem.strKind P w).is x e.2) es.toList with
 |some j =>
  obtain⟨hj,hpj,_⟩:=List.findIdx?_eq_some_iff_getElem.mp hr;have hx:x∈ss:=mem.mp ⟨es.toList[j],List.getElem_mem hj,hpj⟩;dsimp only;refine qc (qc ?_);have:=h s.heap (Heap.SameBut.refl a s.heap) (by rw[if_pos hx];exact⟨o,es,ep,t,ho,hex,hd,hel,hp,hnd,hb,hf,hpl,hled⟩)
  rw[decide_eq_true hx] at this;exact this
 |none =>
  have hx:¬ x∈ss:=λ q=>by
   obtain⟨e,he,q⟩:=mem.mpr q;have:=List.findIdx?_eq_none_iff.mp hr e he;rw[q] at this;cases this
  dsimp only;have lp:=layNew_perm t es ((PySem.strKind P w).hash x) (.str x tk);have lf:=layNew_fits t es ((PySem.strKind P w).hash x) (.str x tk);have lm:=F_6 t es ((PySem.strKind P w).hash x) (.str x tk)
  generalize layNew t es ((PySem.strKind P w).hash x) (.str x tk)=L at lp lf lm ⊢
  obtain⟨es1,t1,wd,gave⟩:=L;dsimp only at lp lf lm ⊢;rw[Array.toList_push] at lp;have hel1:ElemsOf (PySem.strKind P w) es1.toList:=(hel.push hkey hsc).perm lp
  have hp1:(es1.toList.map λ e=>PyProof.Rows.strOf e.2).Perm (ss++[x]):=by
   refine (lp.map _).trans ?_;rw[List.map_append];exact hp.append (List.Perm.refl _)
  have nd1:(ss++[x]).Nodup:=by
   rw[List.nodup_append];exact⟨hnd,by simp,λ u hu v hv e=>by rw[List.mem_singleton] at hv;subst hv;subst e;exact hx hu⟩
  have sz1:es1.size=es.size+1:=by
   have:=lp.length_eq;rw[List.length_append,Array.length_toList,Array.length_toList] at this;exact this
  have gw:∀ (b:Bool) (s₁:Shared) (Q':Unit → Shared → Prop),Q' () s₁ → wpAny (model P w) A (match b with | true=>rule "set.scan.the-table-gave-way" | false=>pure ()) Q' E s₁ :=
   λ b s₁ Q' q=>by cases b <;> first | exact qc q | exact wpAny_rule q
  refine qb (gw _ _ _ ?_);have fin:∀ (g:Bool->Sem Unit),(∀ (b:Bool) (s₁:Shared) (Q':Unit->Shared->Prop),Q' () s₁->wpAny (model P w) A (g b) Q' E s₁)->∀ (R:Option Bool->Shared->Prop) (t2:SetTable),t2.fits es1.size=true->t2.led=t.led->t2.plain=false ->
    (∀ h',Heap.SameBut a s.heap h'->SetS P w bt h' a (ss++[x])->R (some true) {s with heap:=h'}) ->
    wpAny (model P w) A (do
     storeSet a es1 t2
     if (!wd&&t2.tooFull)=true then do
       g (relayAll t2 es1 (SetTable.grown es1.size)).2.2
       storeSet a (relayAll t2 es1 (SetTable.grown es1.size)).1 (relayAll t2 es1 (SetTable.grown es1.size)).2.1
       pure (some true)
      else pure (some true)) R E s:=λ g hg R t2 f2 l2 p2 k=>by
   have b1:es1.size<scanBound:=by rw[sz1,hn];exact hroom
   refine qb (wpAny_storeSet_of ho hd ?_ (fits_of_scanBound b1))
   have at1:(s.heap.update a (Obj.putSet es1 t2)).get? a=some {o with data:=.set es1 (ep+1) t2}:=by
    have z:=Heap.get?_update_self (Obj.putSet es1 t2) ho (by rw[putSet_of es1 t2 hd];rfl)
    rw[putSet_of es1 t2 hd] at z;exact z
   have sb1:=Heap.SameBut.update s.heap a (Obj.putSet es1 t2)
   split
   ·have rp:=relayAll_perm t2 es1 (SetTable.grown es1.size)
    have rf:=relayAll_fits t2 es1 (SetTable.grown es1.size);have rm:=w_1 t2 es1 (SetTable.grown es1.size)
    generalize relayAll t2 es1 (SetTable.grown es1.size)=Rl at rp rf rm ⊢
    obtain⟨es2,t3,g2⟩:=Rl;dsimp only at rp rf rm ⊢;have sz2:es2.size=es1.size:=by rw[<- Array.length_toList,rp.length_eq,Array.length_toList]
    have b2:es2.size<scanBound:=by rw[sz2];exact b1
    refine qb (hg _ _ _ (qb (wpAny_storeSet_of at1 rfl (qc (k _ (sb1.trans (Heap.SameBut.update _ a _)) ?_)) (fits_of_scanBound b2))))
    have at2:((s.heap.update a (Obj.putSet es1 t2)).update a (Obj.putSet es2 t3)).get? a=some {o with data:=.set es2 (ep+1+1) t3}:=by
     have z:=Heap.get?_update_self (Obj.putSet es2 t3) at1 (by rw[putSet_of (es:=es1) (ep:=ep+1) (t:=t2) es2 t3 rfl];rfl)
     rw[putSet_of (es:=es1) (ep:=ep+1) (t:=t2) es2 t3 rfl] at z;exact z
    exact⟨_,es2,ep+1+1,t3,at2,hex,rfl,hel1.perm rp,(rp.map _).trans hp1,nd1,b2,rf,λ q=>(by rw[p2] at rm;exact absurd (rm.2 q) (by simp)),λ q=>by rw[rm.1,l2];exact hled q⟩
   ·exact qc (k _ sb1 ⟨_,es1,ep+1,t2,at1,hex,rfl,hel1,hp1,nd1,b1,f2,λ q=>(by rw[p2] at q;cases q),λ q=>by rw[l2];exact hled q⟩)
  have done:∀ h',Heap.SameBut a s.heap h'->SetS P w bt h' a (ss++[x])->Q true {s with heap:=h'}:=λ h' c1 c2=>by
   have:=h h' c1 (by rw[if_neg hx];exact c2)
   rw[decide_eq_false hx] at this;exact this
  split
  ·refine qb ?_
   rw[hashByValue_scannable 8 hsc];refine qc (fin _ gw _ _ ?_ ?_ ?_ λ h' c1 c2=>?_)
   ·exact SetTable.fits_plain_off lf
   ·exact lm.1
   ·rfl
   ·dsimp only;exact qc (done h' c1 c2)
  ·rename_i np
   refine qb (qc ?_);simp only[↓reduceIte];refine fin _ gw _ _ lf lm.1 (by simpa using np) λ h' c1 c2=>?_
   dsimp only;exact qc (done h' c1 c2)
end
def ItAt:Bool->Heap->Addr->Addr->Nat->Prop
 |true,h,it,c,i=>h.IsTupleIter it c i
 |false,h,it,c,i=>h.IsListIter it c i
def SqAt:Bool->Heap->Addr->Array Value->Prop
 |true,h,c,us=>h.IsTuple c us
 |false,h,c,us=>h.IsList c us
section
variable {P:Program}{w:World}{A:Around}{E:Value->Shared->Prop}{s:Shared}{it c:Addr}{i:Nat}{us:Array Value}
theorem SqAt.keep {T:Bool}{h h':Heap} (q:SqAt T h c us) (k:∀ b o,h.get? b=some o->h'.get? b=some o):SqAt T h' c us:=by
 cases T with
 |true=>obtain⟨o,ho,r⟩:=q;exact⟨o,k _ _ ho,r⟩
 |false=>obtain⟨o,ho,r⟩:=q;exact⟨o,k _ _ ho,r⟩
theorem ad3 {T:Bool}{x:Value}{Q:Option Value->Shared->Prop} (a:ItAt T s.heap it c i) (b:SqAt T s.heap c us) (hx:us[i]?=some x)
  (k:∀ h',ItAt T h' it c (i+1)->Heap.SameBut it s.heap h'->Q (some x) {s with heap:=h'}):wpAny (model P w) A (pyNext (.ref it)) Q E s:=by
 cases T with
 |true=>exact wpAny_pyNext_tuple_item a b hx k
 |false=>exact wpAny_pyNext_list_item a b hx k
theorem as9 {T:Bool}{Q:Option Value->Shared->Prop} (hh:A.handled=none) (a:ItAt T s.heap it c i) (b:SqAt T s.heap c us) (hx:us[i]?=none)
  (k:∀ h',Heap.ExtBut it s.heap h'->Q none {s with heap:=h'}):wpAny (model P w) A (pyNext (.ref it)) Q E s:=by
 cases T with
 |true=>exact wpAny_pyNext_tuple_end hh a b hx k
 |false=>exact wpAny_pyNext_list_end hh a b hx k
theorem V_7 {T:Bool}{Q:Value->Shared->Prop} (b:SqAt T s.heap c us)
  (k:∀ oI:Obj,ItAt T (s.heap.push oI) s.heap.objs.size c 0->Q (.ref s.heap.objs.size) {s with heap:=s.heap.push oI}):wpAny (model P w) A (pyIter (.ref c)) Q E s:=by
 cases T with
 |true=>exact wpAny_pyIter_tuple b (k _ ⟨_,qk _ rfl,rfl,rfl⟩)
 |false=>exact wpAny_pyIter_list b (k _ ⟨_,qk _ rfl,rfl,rfl⟩)
theorem ItAt.same {T:Bool}{h h':Heap}{b:Addr} (q:ItAt T h it c i) (sb:Heap.SameBut b h h') (ne:it≠b):ItAt T h' it c i:=by
 cases T with
 |true=>obtain⟨o,ho,r⟩:=q;exact⟨o,(sb.2 it ne).trans ho,r⟩
 |false=>obtain⟨o,ho,r⟩:=q;exact⟨o,(sb.2 it ne).trans ho,r⟩
theorem SetS.same {bt:Bool}{h h':Heap}{a b:Addr}{ss:List Str} (q:SetS P w bt h a ss) (sb:Heap.SameBut b h h') (ne:a≠b):SetS P w bt h' a ss:=by
 obtain⟨o,es,ep,t,ho,r⟩:=q;exact⟨o,es,ep,t,(sb.2 a ne).trans ho,r⟩
theorem SetS.ext {bt:Bool}{h h':Heap}{a b:Addr}{ss:List Str} (q:SetS P w bt h a ss) (eb:Heap.ExtBut b h h') (ne:a≠b):SetS P w bt h' a ss:=by
 obtain⟨o,es,ep,t,ho,r⟩:=q;exact⟨o,es,ep,t,eb a _ ne ho,r⟩
theorem SetS.keep {bt:Bool}{h h':Heap}{a:Addr}{ss:List Str} (q:SetS P w bt h a ss) (k:∀ b o,h.get? b=some o->h'.get? b=some o):SetS P w bt h' a ss:=by
 obtain⟨o,es,ep,t,ho,r⟩:=q;exact⟨o,es,ep,t,k _ _ ho,r⟩
theorem aF1 {all:List Value}{xs:List Str} (h:PyProof.Rows.StrsAre all xs) {i:Nat}{x:Str}{r:List Str} (e:xs.drop i=x::r):∃ tk,all[i]?=some (.str x tk):=by
 induction h generalizing i with
 |nil=>simp at e
 |cons y t h ih =>
  cases i with
  |zero =>
   rw[List.drop_zero] at e;injection e with e1 e2
   subst e1;exact⟨t,rfl⟩
  |succ i =>
   rw[List.drop_succ_cons] at e;obtain⟨tk,q⟩:=ih e;exact⟨tk,by simpa using q⟩
theorem ap1 {bt T:Bool}{hI:Heap}{a:Addr}{all:List Value}{xs0:List Str}{R:Result->Shared->Prop} (ha0:hI.get? a=none) (hi0:hI.get? it=none) (hne:a≠it) (sq:SqAt T hI c all.toArray) (sa:PyProof.Rows.StrsAre all xs0) (hh:A.handled=none) :
  ∀ (xs:List Str) (acc:List Str) (s:Shared) (i:Nat),xs0.drop i=xs->(∀ b o,hI.get? b=some o->s.heap.get? b=some o)->ItAt T s.heap it c i->SetS P w bt s.heap a acc->acc.length+xs.length+1<scanBound ->
   (∀ h' tk',(∀ b o,hI.get? b=some o->h'.get? b=some o)->SetS P w bt h' a (i_7 acc xs)->R (.ok (.ret .none)) {s with heap:=h',toks:=tk'}) ->
   codeAny (model P w) A (.builtin "set.update.loop" ⟨[.ref a,.ref it],[]⟩) R s:=by
 intro xs
 induction xs with
 |nil =>
  intro acc s i e kp hit hS hz q;refine codeAny_builtin PyProof.Rows.F.entry_set_update_loop ?_;rw[Around.under_plainId PyProof.Rows.F.plain_set_update_loop _];show wpAny _ A.in1 (pyNext (.ref it) >>= _) _ _ s
  have hl:all.length=xs0.length:=by
   have:=sa.strs;rw[<- this,List.length_map]
  have hx:all.toArray[i]?=none:=by
   have:all[i]?=none:=List.getElem?_eq_none (by rw[hl];simpa using e)
   simpa using this
  refine qb (as9 hh hit (sq.keep kp) hx λ h' eb=>qc ?_)
  exact q h' s.toks (λ b o hb=>eb b o (λ z=>by rw[z,hi0] at hb;cases hb) (kp _ _ hb)) (hS.ext eb hne)
 |cons x xs ih =>
  intro acc s i e kp hit hS hz q;refine codeAny_builtin PyProof.Rows.F.entry_set_update_loop ?_;rw[Around.under_plainId PyProof.Rows.F.plain_set_update_loop _];show wpAny _ A.in1 (pyNext (.ref it) >>= _) _ _ s;obtain⟨tk,hx0⟩:=aF1 sa e;have hx:all.toArray[i]?=some (.str x tk):=by simpa using hx0
  refine qb (ad3 hit (sq.keep kp) hx λ h1 hit1 sb1=>?_)
  have kp1:∀ b o,hI.get? b=some o->h1.get? b=some o:=λ b o hb=>(sb1.2 b (λ z=>by rw[z,hi0] at hb;cases hb)).trans (kp _ _ hb)
  show wpAny _ A.in1 (holding [Value.str x tk] (setAdd a (.str x tk)) >>= _) _ _ _;refine qb (wpAny_holding ?_);unfold setAdd;have hkey:(PySem.strKind P w).is x (.str x tk)=true:=by rw[n_0 rfl];simp
  refine wpAny_holding (qb ((PySem.strKind P w).pyHash hkey ?_));simp only[List.length_cons] at hz;refine T_4 (s:={s with heap:=h1,toks:=s.toks+1}) (hS.same sb1 hne) (by omega) λ h2 sb2 hS2=>?_
  have kp2:∀ b o,hI.get? b=some o->h2.get? b=some o:=λ b o hb=>(sb2.2 b (λ z=>by rw[z,ha0] at hb;cases hb)).trans (kp1 _ _ hb)
  have l2:(aU5 acc x).length<=acc.length+1:=by
   unfold aU5;split
   ·omega
   ·rw[List.length_append];exact qj _
  refine qc ⟨plainId_quiet PyProof.Rows.F.plain_set_update_loop _,?_⟩;exact ih (aU5 acc x) {s with heap:=h2,toks:=s.toks+1} (i+1) (by rw[<- List.drop_drop,e];rfl) kp2 (hit1.same sb2 (Ne.symm hne)) hS2 (by omega) λ h' tk' c1 c2=>q h' tk' c1 c2
end
abbrev byT (w:World):Bool:=w.params.followText "set-order"
abbrev V_0 (w:World):Obj:={cls:=.type "set",dict:=none,data:=.set #[] 0 (.fresh 0 0 (!byT w))}
theorem z_2:isSubtype (.type "tuple") (.type "set")=pure false:=by rw[isSubtype_type];kernel_rfl
theorem n_5:isSubtype (.type "tuple") (.type "frozenset")=pure false:=by rw[isSubtype_type];kernel_rfl
section
variable {P:Program}{w:World}{A:Around}{E:Value->Shared->Prop}{s:Shared}
theorem ap2 (h:Heap):SetS P w (byT w) (h.push (V_0 w)) h.objs.size [] :=
 ⟨_,#[],0,_,qk _ rfl,⟨rfl,rfl,rfl⟩,rfl,λ e he=>(by simp at he),List.Perm.refl _,List.nodup_nil,by decide,by rfl,λ _=>rfl,λ e=>by show (!byT w)=true;rw[e];rfl⟩
theorem W_9 (v:Value) {Q₁:Value->Shared->Prop} (h:Q₁ (.ref s.heap.objs.size) {s with heap:=s.heap.push (V_0 w)}) :
  codeAny (model P w) A (.call (.builtin "set.__new__") ⟨[.type "set",v],[]⟩) (wants Q₁ E) s:=by
 refine codeAny_of_tree ?_;show wpAny _ A.in1 (checkBuiltinCall "set.__new__" ⟨[.type "set",v],[]⟩ >>= λ _=>again (.builtin "set.__new__" ⟨[.type "set",v],[]⟩)) _ _ s
 refine qb (wpAny_of_eq (F.newCall_set_1 v) (qc ⟨plainId_quiet F.plain_set_new _,codeAny_builtin F.entry_set_new ?_⟩));rw[Around.under_plainId F.plain_set_new _];unfold Builtin.«set.__new__» Builtin.Frozenset.newClass;have sb:=sub_set_self;obtain⟨h0,g0,d0,k0,o0⟩:=s;dsimp only
 wp_walk
 refine wpAny_askSetting (qc ?_);dsimp only;simp only[newObj];exact qb (wpAny_alloc (qc (qc h)))
set_option maxHeartbeats 3200000 in
theorem aj1 {T:Bool}{c:Addr}{all:List Value}{xs:List Str}{Q:Value->Shared->Prop} (hh:A.handled=none) (sq:SqAt T s.heap c all.toArray) (sa:PyProof.Rows.StrsAre all xs) (hz:xs.length+1<scanBound)
  (k:∀ (h':Heap) (tk:Nat),(∀ b o,s.heap.get? b=some o->h'.get? b=some o)->SetS P w (byT w) h' s.heap.objs.size (i_7 [] xs)->Q (.ref s.heap.objs.size) {s with heap:=h',toks:=tk}) :
  wpAny (model P w) A (call (.type "set") [.ref c]) Q E s:=by
 obtain⟨mc,mt,mr⟩:=F.called_set.mro;have md:=F.called_set.made;have su:=F.called_set.sub;refine wpAny_call (codeAny_of_tree ?_);show wpAny _ _ (callAny (.type "set") _) _ _ _;refine qc ⟨Code.quiet_builtin _ (by decide +kernel),codeAny_builtin F.entry_type_call ?_⟩
 rw[Around.under_plain (weight_type_call_type "set" [.ref c] []) rfl];have f1:=F.called_set.notType;have f2:=F.called_set.canCreate;have f3:=F.typeCall_set_1 (.ref c)
 repeat (any_goals (first | assumption | wp_step))
 refine codeAny_mono (W_9 (.ref c) (E:=E) (Q₁:=λ z s1=>z=.ref s.heap.objs.size/\s1={s with heap:=s.heap.push (V_0 w)}) ⟨rfl,rfl⟩) λ r s1 hr=>?_
 cases r with
 |error e=>exact hr
 |ok fl =>
  cases fl with
  |ret z =>
   obtain⟨rfl,rfl⟩:=hr;have at0:(s.heap.push (V_0 w)).get? s.heap.objs.size=some (V_0 w):=qk _ rfl;have ty0:Shared.TypeIs {s with heap:=s.heap.push (V_0 w)} (.ref s.heap.objs.size) "set":=⟨_,at0,rfl⟩
   have li:=F.called_set.init.lookup;have bi:=F.called_set.init.bind (.ref s.heap.objs.size)
   repeat (any_goals (first | assumption | wp_step))
   refine codeAny_mono (codeAny_call_builtin (R:=wants (λ r s2=>r=.none/\∃ h' tk,s2={s with heap:=h',toks:=tk}/\(∀ b o,s.heap.get? b=some o->h'.get? b=some o)/\SetS P w (byT w) h' s.heap.objs.size (i_7 [] xs)) E) F.called_set.init.plain F.entry_set_init (check_set_init_1 ty0 ?_)) λ r2 s2 hr2=>?_
   ·have sq1:SqAt T (s.heap.push (V_0 w)) c all.toArray:=sq.keep λ b o e=>qf _ e
    have e1:∃ TT:String,Shared.TypeIs {s with heap:=s.heap.push (V_0 w)} (.ref c) TT ∧ (isSubtype (.type TT) (.type "set")=pure false) ∧ (isSubtype (.type TT) (.type "frozenset")=pure false) ∧ (Value.type TT==Value.type "dict")=false:=by
     cases T with
     |true=>obtain⟨o,ho,hc,_⟩:=sq1;exact⟨"tuple",⟨o,ho,hc⟩,z_2,n_5,by decide⟩
     |false=>obtain⟨o,ho,hc,_⟩:=sq1;exact⟨"list",⟨o,ho,hc⟩,F.sub_list_set,F.sub_list_frozenset,by decide⟩
    obtain⟨TT,tyc,n1,n2,n3⟩:=e1;unfold Builtin.«set.__init__» noKeywords Builtin.Frozenset.updateFrom
    generalize hPI:pyIter=PI
    wp_walk
    subst hPI;refine V_7 (s:={s with heap:=s.heap.push (V_0 w)}) sq1 λ oI hI0=>?_
    have sz:(s.heap.push (V_0 w)).objs.size=s.heap.objs.size+1:=by rw[Heap.size_push]
    have none_of:∀ n,s.heap.objs.size<=n->s.heap.get? n=none:=λ n hn=>by
     cases z:s.heap.get? n with
     |none=>rfl
     |some o=>exact absurd (qm z) (Nat.not_lt.mpr hn)
    refine qb (wpAny_runValue ?_);refine ap1 (A:=A.in1.in1) (bt:=byT w) (hI:=s.heap) (none_of _ (qj _)) (none_of _ (by show s.heap.objs.size<=(s.heap.push (V_0 w)).objs.size;rw[sz];exact Nat.le_succ _)) (by show s.heap.objs.size≠(s.heap.push (V_0 w)).objs.size;rw[sz];exact qv (Nat.lt_succ_self _)) sq sa hh
     xs [] {s with heap:=(s.heap.push (V_0 w)).push oI} 0 rfl (λ b o e=>qf _ (qf _ e)) hI0 ((ap2 s.heap).keep λ b o e=>qf _ e) (by rw[List.length_nil];omega) λ h' tk c1 c2=>?_
    refine qc (qc ?_);exact⟨rfl,h',tk,rfl,c1,c2⟩
   ·cases r2 with
    |error e=>exact hr2
    |ok fl2 =>
     cases fl2 with
     |ret r =>
      obtain⟨rfl,h',tk,rfl,c1,c2⟩:=hr2
      repeat (any_goals (first | assumption | wp_step))
      exact k _ _ c1 c2
     |_=>exact hr2.elim
  |_=>exact hr.elim
end
section
variable {P:Program}{w:World}{A:Around}{E:Value->Shared->Prop}{s:Shared}{it a:Addr}
structure SObj (h:Heap) (a:Addr) (es:Array (Int×Value)) (ep:Nat) (t:SetTable):Prop where
 at_:∃ o,h.get? a=some o/\o.ExactSet/\o.data=.set es ep t
 fits:t.fits es.size=true
theorem SObj.keep {h h':Heap}{es:Array (Int×Value)}{ep:Nat}{t:SetTable} (q:SObj h a es ep t) (k:∀ o,h.get? a=some o->h'.get? a=some o):SObj h' a es ep t:=by
 obtain⟨⟨o,h1,h2⟩,f⟩:=q;exact⟨⟨o,k o h1,h2⟩,f⟩
end
end Fx
namespace Fx
open PySem PySem.Spec PyProof.Rows
end Fx
namespace Fx
open PySem PySem.Spec PyProof.Rows L2
def ap3 (P:Program) (w:World) (a:Addr) (ss:List Str):HO:=.ext λ h=>SetS P w (byT w) h a ss
theorem aF2 {P:Program}{w:World}{H:Hp}{h:Heap}{a:Addr}{ss:List Str} (q:SetS P w (byT w) h a ss):ObjOk P w H h a (ap3 P w a ss):=by
 refine⟨q,?_,λ h1 h2 q1 k=>?_⟩
 ·obtain⟨o,es,ep,t,ho,_⟩:=q
  exact⟨o,ho⟩
 ·obtain⟨o,es,ep,t,ho,r⟩:=q1
  exact⟨o,es,ep,t,k _ ho,r⟩
theorem Step.side {H0 H:Hp}{p:Addr}{o:HO} (s:Same H0 H) (hp:H p=none):Step H0 H H0 (upd H p o):=by
 refine⟨Same.refl _,λ b u e=>by rw[a_6 (b_1 e hp)];exact e,λ b u e=>?_,λ b u e=>.inl e⟩
 have e':=s _ _ e;rw[a_6 (b_1 e' hp)];exact e'
section
variable {X:Cx}
theorem bp8 {pins:List (Addr×Obj)}{σ:L2.St}{H:Hp}{s:Shared}{p:Addr}{xs:List V} (I:Inv X pins σ H s) (hq:SqL X.K H p xs\/SqT X.K H p xs):∃ (T:Bool) (its:List Value),Vals xs its/\SqAt T s.heap p its.toArray:=by
 rcases hq with hq | hq
 ·obtain⟨its,rv,pl,_⟩:=I.list hq
  exact⟨false,its,rv,pl.isList⟩
 ·obtain⟨its,rv,tp,_⟩:=I.tuple hq
  exact⟨true,its,rv,tp⟩
theorem X_1 (hc:X.calm=true):CallR X (.type "set") (λ xs H Q=>∃ p ss,xs=[.ref p] ∧ (SqL X.K H p (ss.map V.str) ∨ SqT X.K H p (ss.map V.str)) ∧ ss.length<1000 ∧ ∀ l,H l=none → Q (.ref l) (upd H l (ap3 X.prog X.w l (i_7 [] ss)))):=by
 intro pins s σ H xs us Q I r h;obtain⟨p,ss,rfl,hq,hz,q⟩:=h;obtain⟨u,rfl,ru⟩:=j_6 r;cases ru;obtain⟨T,its,rv,sq⟩:=bp8 I hq;refine aj1 (I.ok.hd hc) sq (x_3 rv) (by unfold scanBound;omega) λ h' tk kp hS=>?_
 exact⟨.ref s.heap.objs.size,_,I.laid (o:=ap3 X.prog X.w s.heap.objs.size (i_7 [] ss)) kp (qj _) (aF2 hS),rfl,q _ (I.hok.fresh (qj _))⟩
end
section
variable {X:Cx}
theorem X_2:CallR X (.builtin "len") (λ xs H Q=>∃ p ss,xs=[.ref p] ∧ H p=some (ap3 X.prog X.w p ss) ∧ Q (.int ss.length) H):=by
 intro pins s σ H xs us Q I r h;obtain⟨p,ss,rfl,hq,q⟩:=h;obtain⟨u,rfl,ru⟩:=j_6 r;cases ru;obtain⟨o,es,ep,t,ho,ex,hd,hel,pm,nd,sb,ft,_⟩:=(show ObjOk X.prog X.w H s.heap p (ap3 X.prog X.w p ss) from I.hok p _ hq).1;have hn:es.size=ss.length:=by rw[<- pm.length_eq,List.length_map,Array.length_toList]
 have lt:(es.size:Int)<2 ^ 63:=by
  have:scanBound<=2 ^ 62:=by decide
  omega
 exact call_len_set ho ex hd ft lt ⟨.int ss.length,H,I.tok _,⟨_,by rw[hn]⟩,q⟩
theorem x_9 {xs:List D}{d:D} (h:n_7 xs=some d):∃ ss:List Str,xs=ss.map .str/\ss.length<1000/\d=.int ((i_7 [] ss).length:Int):=by
 unfold n_7 at h;obtain⟨ss,e,f⟩:=a_0 h;obtain⟨l,rfl⟩:=ifs f;exact⟨ss,strs_inv e,l,rfl⟩
theorem aD9 {a:Expr}{F:FE}{p p2 dpos pos:Pos} (hm:X.mg "set"=none) (hm2:X.mg "len"=none) (he:XE X a F) (hc:X.calm=true:=by rfl) (hg:Gl X "set":=by rfl) (hg2:Gl X "len":=by rfl)
  (h1:starEach [a] X.env=[(false,eval a X.env)]:=by rfl) (h2:starEach [.Call (.Name "set" p) [a] [] dpos] X.env=[(false,eval (.Call (.Name "set" p) [a] [] dpos) X.env)]:=by rfl) :
  XE X (.Call (.Name "len" p2) [.Call (.Name "set" p) [a] [] dpos] [] pos) (eF v_5 (aC F aN)) :=
 PE.wk (z_9 X_2 hg2 hm2 PySem.boot_len (i_3 (E_2 (X_1 hc) hg hm PyProof.Rows.boot_set (xaC he xaN h1) (by decide) (by decide) h1 rfl) o_8 h2) (by decide) (by decide) h2 rfl) λ σ H Q hh0_=>by
  obtain⟨c,H0,ρ,d,ρ',R,f,q⟩:=hh0_;unfold eF at f;obtain⟨⟨ds,ρ1⟩,g1,f⟩:=a_0 f;obtain⟨d',g2,f⟩:=a_0 f;have f':some (d',ρ1)=some (d,ρ'):=f;cases f';refine⟨c,H0,ρ,ds,_,R,g1,λ vs H1 Hh s1 R1 r1=>?_⟩
  have main:∀ (ad:Addr) (ss:List Str),vs=[.ref ad]->ss.length<1000->d=.int ((i_7 [] ss).length:Int)->(SqL X.K Hh ad (ss.map V.str)\/SqT X.K Hh ad (ss.map V.str)) ->
    ∃ p ss,vs=[.ref p]/\(SqL X.K Hh p (ss.map V.str)\/SqT X.K Hh p (ss.map V.str))/\ss.length<1000/\∀ l,Hh l=none->∃ p ss',[V.ref l]=[.ref p]/\upd Hh l (ap3 X.prog X.w l (i_7 [] ss)) p=some (ap3 X.prog X.w p ss') /\
     Q (.int ss'.length) (upd Hh l (ap3 X.prog X.w l (i_7 [] ss))):=λ ad ss ev l64 ed sq=>by
   refine⟨ad,ss,ev,sq,l64,λ l hl=>⟨l,i_7 [] ss,rfl,a_3,?_⟩⟩
   have S1:=Step.side (o:=ap3 X.prog X.w l (i_7 [] ss)) R1.same hl;refine q _ _ _ (s1.trans S1.s0) (R1.after S1) ?_;rw[ed];exact c_8 _ _
  have g2:v_5 ds=some d:=g2;unfold v_5 at g2
  split at g2
  ·obtain⟨ss,rfl,l64,ed⟩:=x_9 g2
   obtain⟨v,rfl,rv⟩:=Reps.v1 r1;unfold Rep at rv;obtain⟨p,ws,rfl,s,t⟩:=rv;rw[i_1 t] at s;exact main p ss rfl l64 ed (.inl (Same.seq R1.same s))
  ·obtain⟨ss,rfl,l64,ed⟩:=x_9 g2
   obtain⟨v,rfl,rv⟩:=Reps.v1 r1;unfold Rep at rv;obtain⟨p,ws,rfl,s,t⟩:=rv;rw[i_1 t] at s;exact main p ss rfl l64 ed (.inr (Same.seqT R1.same s))
  ·cases g2
end
open Sem (wp)
section
variable {prog:Program}{w:World}{A:Around}{E:Value->Shared->Prop}{s:Shared}
theorem bi6 {a:Addr}{Q:Option Obj->Shared->Prop} (h:Q (s.heap.get? a) s):wpAny (model prog w) A (loadIfAlive a) Q E s:=λ Γ p hΓ=>by
 unfold loadIfAlive;rw[Sem.wp_loadIfAlive];exact (qc (M:=model prog w) (A:=A) (E:=E) h) Γ p hΓ
theorem av6 {it t:Addr}{k:Nat}{items:Array Value}{x:Value}{Q:Value->Shared->Prop} (st:IsTupIter s.heap it t k) (ht:IsTup s.heap t items) (hx:items[k]?=some x)
  (fin:∀ h',IsTupIter h' it t (k+1)->Heap.SameBut it s.heap h'->Q x {s with heap:=h'}):wpAny (model prog w) A (Builtin.SmallTypes.nextOf (.ref it)) Q E s:=by
 obtain⟨o,g1,g2,g3⟩:=id st;obtain⟨ot,t1,_,tn,t3⟩:=ht;unfold Builtin.SmallTypes.nextOf;refine qb (wpAny_callSpecial?_slot (name:=Str.ofString "__next__") st.typeIs slot_tupleiter_next (wpAny_call_entry slot_tupleiter_next st.typeIs entry_tupleiter_next ?_ (args_tupleiter_next _)));show wpAny _ _ (field (.ref it) 0 >>= _) _ _ s;refine qb (wpAny_field g1 g3 (x:=.ref t) rfl ?_);show wpAny _ _ (if (Value.ref t==Value.none)=true then _ else _) _ _ s;rw[if_neg (by exact Bool.false_ne_true)]
 refine qb (wpAny_field g1 g3 (x:=.int k 0) rfl ?_);refine qb (wpAny_seqItems t1 t3 ?_);simp only[Int.toNat_natCast,hx];refine qb (wpAny_setField g1 g3 (by simp) (qc ⟨x,rfl,qc (fin _ ?_ (Heap.SameBut.update ..))⟩))
 refine⟨_,Heap.get?_update_self _ g1 (Obj.isFreed_of_fields (Obj.data_mapFields g3 _)),(Obj.cls_mapFields ..).trans g2,?_⟩;rw[Obj.data_mapFields g3];simp[rawInt]
theorem as1 {it t:Addr}{k:Nat}{items:Array Value}{Q:Value->Shared->Prop} (hh:A.handled=none) (st:IsTupIter s.heap it t k) (ht:IsTup s.heap t items) (hx:items[k]?=none)
  (fin:∀ h' e,Heap.ExtBut it s.heap h' → (∃ o,h'.get? e=some o ∧ o.cls=.type "StopIteration") → E (.ref e) {s with heap:=h'}):wpAny (model prog w) A (Builtin.SmallTypes.nextOf (.ref it)) Q E s:=by
 obtain⟨o,g1,g2,g3⟩:=id st;obtain⟨ot,t1,_,tn,t3⟩:=ht;unfold Builtin.SmallTypes.nextOf;refine qb (wpAny_callSpecial?_slot (name:=Str.ofString "__next__") st.typeIs slot_tupleiter_next (wpAny_call_entry slot_tupleiter_next st.typeIs entry_tupleiter_next ?_ (args_tupleiter_next _)));show wpAny _ _ (field (.ref it) 0 >>= _) _ _ s;refine qb (wpAny_field g1 g3 (x:=.ref t) rfl ?_);show wpAny _ _ (if (Value.ref t==Value.none)=true then _ else _) _ _ s;rw[if_neg (by exact Bool.false_ne_true)]
 refine qb (wpAny_field g1 g3 (x:=.int k 0) rfl ?_);refine qb (wpAny_seqItems t1 t3 ?_);simp only[Int.toNat_natCast,hx];refine qb (wpAny_rule (qb (wpAny_setField g1 g3 (by simp) (qb ?_))))
 simp only[newExc,newTuple];refine qb (wpAny_newObj_type ?_ (by size_fits))
 refine qb (m:=firstArgMember _ _) (wpAny_of_eq (a:=Value.none) (by first | rfl | (simp only[firstArgMember];rfl)) ?_)
 refine wpAny_newObj_type ?_ (by size_fits)
 simp only[raiseNew];refine qb (wpAny_handled ?_)
 first | rw[show A.in1.handled=none from hh] | rw[hh]
 exact qb (qc (wpAny_throw (fin _ _ (((Heap.SameBut.update ..).extBut.push _).push _) ⟨_,qk _ rfl,rfl⟩)))
structure Nx (prog:Program) (w:World) (i:Addr) (fp:List Addr) (get:Nat->Option Value) (P:Nat->Heap->Prop):Prop where
 mem:i∈fp
 keep:∀ k h h',P k h->(∀ b∈fp,∀ o,h.get? b=some o->h'.get? b=some o)->P k h'
 there:∀ k h,P k h->∃ o vs,h.get? i=some o/\o.data=.fields vs
 draw:∀ (A:Around) (E:Value->Shared->Prop) (s:Shared) (Q:Value->Shared->Prop) (k:Nat) (x:Value),P k s.heap->get k=some x->(∀ h',P (k+1) h'->Heap.SameBut i s.heap h'->Q x {s with heap:=h'}) ->
  wpAny (model prog w) A (Builtin.SmallTypes.nextOf (.ref i)) Q E s
 over:∀ (A:Around) (E:Value->Shared->Prop) (s:Shared) (Q:Value->Shared->Prop) (k:Nat),A.handled=none->P k s.heap->get k=none ->
  (∀ h' e,Heap.ExtBut i s.heap h' → (∃ o,h'.get? e=some o ∧ o.cls=.type "StopIteration") → E (.ref e) {s with heap:=h'}) → wpAny (model prog w) A (Builtin.SmallTypes.nextOf (.ref i)) Q E s
theorem aK1 (i l:Addr) (ne:l≠i) (items:Array Value):Nx prog w i [i,l] (λ k=>items[k]?) (λ k h=>h.IsListIter i l k/\h.IsList l items) where
 mem:=qg
 keep:=λ k h h' ⟨a,b⟩ q=>⟨a.at λ o e=>q i (by simp) o e,b.at λ o e=>q l (by simp) o e⟩
 there:=λ k h ⟨⟨o,a,_,d⟩,_⟩=>⟨o,_,a,d⟩
 draw:=λ A E s Q k x ⟨a,b⟩ hx fin=>wpAny_nextOf_list_item a b hx λ h' a' sb=>fin h' ⟨a',b.extBut sb.extBut ne⟩ sb
 over:=λ A E s Q k hh ⟨a,b⟩ hx fin=>wpAny_nextOf_list_end hh a b hx fin
theorem bb5 (i t:Addr) (ne:t≠i) (items:Array Value):Nx prog w i [i,t] (λ k=>items[k]?) (λ k h=>IsTupIter h i t k/\IsTup h t items) where
 mem:=qg
 keep:=λ k h h' ⟨⟨o,a,b⟩,⟨o2,a2,b2⟩⟩ q=>⟨⟨o,q i (by simp) o a,b⟩,⟨o2,q t (by simp) o2 a2,b2⟩⟩
 there:=λ k h ⟨⟨o,a,_,d⟩,_⟩=>⟨o,_,a,d⟩
 draw:=λ A E s Q k x ⟨a,b⟩ hx fin=>av6 a b hx λ h' a' sb=>fin h' ⟨a',let ⟨o,q,r⟩:=b;⟨o,sb.extBut _ _ ne q,r⟩⟩ sb
 over:=λ A E s Q k hh ⟨a,b⟩ hx fin=>as1 hh a b hx fin
end
abbrev zO (f0:Value) (f1:Bool) (TI TO:Addr):Obj:={cls:=.type "zip",dict:=none,data:=.fields #[f0,.bool f1,.bool false,.ref TI,.ref TO],slots:=#[]}
structure Zs (z TI TO i1 i2:Addr) (P1 P2:Nat->Heap->Prop) (k1 k2:Nat) (f0:Value) (f1:Bool) (h:Heap):Prop where
 hz:h.get? z=some (zO f0 f1 TI TO)
 ti:IsPair h TI (.ref i1) (.ref i2)
 to:∃ a b,IsPair h TO a b
 p1:P1 k1 h
 p2:P2 k2 h
structure Za (z TI TO i1 i2:Addr) (fp1 fp2:List Addr):Prop where
 TIz:TI≠z
 TOz:TO≠z
 TITO:TI≠TO
 TI1:TI≠i1
 TI2:TI≠i2
 f1:∀ b∈fp1,b≠z/\b≠TO/\b≠i2
 f2:∀ b∈fp2,b≠z/\b≠TO/\b≠i1
section
variable {prog:Program}{w:World}{A:Around}{E:Value->Shared->Prop}{s:Shared}{z TI TO i1 i2:Addr}{fp1 fp2:List Addr}{g1 g2:Nat->Option Value}{P1 P2:Nat->Heap->Prop}{k1 k2:Nat}{f0:Value}{f1:Bool}
theorem an1 (N1:Nx prog w i1 fp1 g1 P1) (N2:Nx prog w i2 fp2 g2 P2) (D:Za z TI TO i1 i2 fp1 fp2) (Z:Zs z TI TO i1 i2 P1 P2 k1 k2 .none f1 s.heap) {x y:Value} (hx:g1 k1=some x) (hy:g2 k2=some y) {Q:Value->Shared->Prop}
  (fin:∀ h',Zs z TI TO i1 i2 P1 P2 (k1+1) (k2+1) (rawInt s.heap.objs.size) false h'->IsPair h' s.heap.objs.size x y->h'.objs.size=s.heap.objs.size+1->(∀ c o,c∉[z,TO,i1,i2]->s.heap.get? c=some o->h'.get? c=some o)->Q (.ref s.heap.objs.size) {s with heap:=h'}) :
  wpAny (model prog w) A (Builtin.«zip.__next__» ⟨[.ref z],[]⟩) (λ f s'=>∃ v,f=.done (.ret v)/\Q v s') E s:=by
 have m1:=D.f1 i1 N1.mem;have m2:=D.f2 i2 N2.mem;obtain⟨a,b,hab⟩:=Z.to;show wpAny _ _ (field (.ref z) 2 >>= _) _ _ _;refine qb (wpAny_field Z.hz rfl (x:=.bool false) rfl (qb (wpAny_field Z.hz rfl (x:=.ref TI) rfl (qb (wpAny_seqItems Z.ti rfl ?_)))));refine qb (m:=Builtin.SmallTypes.ownedTupleIsFree (.ref z)) (qb (wpAny_field Z.hz rfl (x:=.none) rfl (qc ?_)));simp only[if_true];refine qb (wpAny_rule (qb (wpAny_field Z.hz rfl (x:=.ref TO) rfl (qb (wpAny_setField_rec Z.hz (by simp) λ ha za sa=>?_)))))
 have za:ha.get? z=some (zO .ellipsis f1 TI TO):=za;have pa1:P1 k1 ha:=N1.keep _ _ _ Z.p1 λ q hq o e=>(sa.2 q (D.f1 q hq).1).trans e
 have pa2:P2 k2 ha:=N2.keep _ _ _ Z.p2 λ q hq o e=>(sa.2 q (D.f2 q hq).1).trans e
 have ta:IsPair ha TO a b:=(sa.2 TO D.TOz).trans hab;refine qb ?_;simp only[List.zipIdx_cons,List.zipIdx_nil,List.forIn_cons,List.forIn_nil];refine qb (qb (wpAny_onRaise (qb (N1.draw _ _ {s with heap:=ha} _ k1 x pa1 hx λ hb pb1 sb=>qc ?_))))
 have tb:IsPair hb TO a b:=(sb.2 TO (Ne.symm m1.2.1)).trans ta;refine qb (wpAny_seqItems tb rfl (qb (wpAny_updateSeq_pair tb λ hc tc sc=>qb (wpAny_letGo (qc ?_)))))
 have pc2:P2 k2 hc:=N2.keep _ _ _ pa2 λ q hq o e=>(sc.2 q (D.f2 q hq).2.1).trans ((sb.2 q (D.f2 q hq).2.2).trans e)
 refine qb (qb (wpAny_onRaise (qb (N2.draw _ _ {s with heap:=hc} _ k2 y pc2 hy λ hd pd2 sd=>qc ?_))))
 have td:hd.get? TO=some {cls:=.type "tuple",data:=.seq #[x,b]}:=(sd.2 TO (Ne.symm m2.2.1)).trans tc;refine qb (wpAny_seqItems td rfl (qb (wpAny_updateSeq_pair td λ he te se=>qb (wpAny_letGo (qc (qc ?_))))))
 have te:IsPair he TO x y:=te;have pe1:P1 (k1+1) he:=N1.keep _ _ _ pb1 λ q hq o e=>(se.2 q (D.f1 q hq).2.1).trans ((sd.2 q (D.f1 q hq).2.2).trans ((sc.2 q (D.f1 q hq).2.1).trans e))
 have pe2:P2 (k2+1) he:=N2.keep _ _ _ pd2 λ q hq o e=>(se.2 q (D.f2 q hq).2.1).trans e
 have ze:he.get? z=some (zO .ellipsis f1 TI TO):=(se.2 z D.TOz.symm).trans ((sd.2 z (Ne.symm m2.1)).trans ((sc.2 z D.TOz.symm).trans ((sb.2 z (Ne.symm m1.1)).trans za)));have tie:IsPair he TI (.ref i1) (.ref i2):=(se.2 TI D.TITO).trans ((sd.2 TI D.TI2).trans ((sc.2 TI D.TITO).trans ((sb.2 TI D.TI1).trans ((sa.2 TI D.TIz).trans Z.ti))));have size:he.objs.size=s.heap.objs.size:=by rw[se.1,sd.1,sc.1,sb.1,sa.1]
 refine qb (wpAny_seqItems te rfl (qb (wpAny_newTuple ?_)));refine qb (m:=Builtin.SmallTypes.ownedTupleHandOut (.ref z) (.ref he.objs.size)) ?_;have zf:(he.push {cls:=.type "tuple",data:=.seq #[x,y]}).get? z=some (zO .ellipsis f1 TI TO):=qf _ ze;unfold Builtin.SmallTypes.ownedTupleHandOut;refine qb (wpAny_setField_rec zf (by simp) λ hg zg sg=>?_)
 have zg:hg.get? z=some (zO (rawInt he.objs.size) f1 TI TO):=zg;refine wpAny_setField_rec zg (by simp) λ hi zi si=>qc ⟨_,rfl,?_⟩
 have up:∀ c o,c≠z->he.get? c=some o->hi.get? c=some o:=λ c o c1 e=>(si.2 c c1).trans ((sg.2 c c1).trans (qf _ e))
 have nz:he.objs.size≠z:=Nat.ne_of_gt (qm ze);have pr:IsPair hi he.objs.size x y:=(si.2 _ nz).trans ((sg.2 _ nz).trans (qk _ rfl));have sz:hi.objs.size=he.objs.size+1:=by rw[si.1,sg.1,Heap.size_push]
 rw[size] at pr sz;show Q (.ref he.objs.size) _;rw[size];refine fin hi ⟨by rw[<- size];exact zi,up _ _ D.TIz tie,⟨x,y,up _ _ D.TOz te⟩,N1.keep _ _ _ pe1 λ q hq o e=>up q o (D.f1 q hq).1 e,N2.keep _ _ _ pe2 λ q hq o e=>up q o (D.f2 q hq).1 e⟩ pr sz λ c o hc e=>?_
 simp only[List.mem_cons,List.not_mem_nil,or_false,not_or] at hc;obtain⟨c1,c2,c3,c4⟩:=hc;exact up c o c1 ((se.2 c c2).trans ((sd.2 c c4).trans ((sc.2 c c2).trans ((sb.2 c c3).trans ((sa.2 c c1).trans e)))))
end
section
variable {prog:Program}{w:World}{A:Around}{E:Value->Shared->Prop}{s:Shared}{z TI TO i1 i2 T0:Addr}{fp1 fp2:List Addr}{g1 g2:Nat->Option Value}{P1 P2:Nat->Heap->Prop}{k1 k2:Nat}{f1:Bool}
theorem R_0 {Q:Bool->Shared->Prop} (hz:s.heap.get? z=some (zO (rawInt T0) f1 TI TO)) {ot:Obj} (hT:s.heap.get? T0=some ot) (fin:∀ h',h'.get? z=some (zO (rawInt T0) true TI TO)->Heap.SameBut z s.heap h'->Q false {s with heap:=h'}) :
  wpAny (model prog w) A (Builtin.SmallTypes.ownedTupleIsFree (.ref z)) Q E s:=by
 unfold Builtin.SmallTypes.ownedTupleIsFree;refine qb (wpAny_field hz rfl (x:=rawInt T0) rfl ?_);show wpAny _ _ (loadIfAlive (Int.toNat (T0:Int)) >>= _) _ _ s;rw[Int.toNat_natCast];refine qb (bi6 ?_);rw[hT];show wpAny _ _ (field (.ref z) 1 >>= _) _ _ s;refine qb (wpAny_field hz rfl (x:=.bool f1) rfl ?_);cases f1 with
 |false =>
  refine qb (wpAny_setField_rec hz (by simp) λ h' z' sb=>qc (fin h' z' sb))
 |true=>exact qc (fin s.heap hz ⟨rfl,λ _ _=>rfl⟩)
theorem am9 (N1:Nx prog w i1 fp1 g1 P1) (N2:Nx prog w i2 fp2 g2 P2) (D:Za z TI TO i1 i2 fp1 fp2) (Z:Zs z TI TO i1 i2 P1 P2 k1 k2 (rawInt T0) f1 s.heap) {ot:Obj} (hT:s.heap.get? T0=some ot) {x y:Value} (hx:g1 k1=some x) (hy:g2 k2=some y) {Q:Value->Shared->Prop}
  (fin:∀ h',Zs z TI TO i1 i2 P1 P2 (k1+1) (k2+1) (rawInt T0) true h'->IsPair h' s.heap.objs.size x y->h'.objs.size=s.heap.objs.size+1->(∀ c o,c∉[z,TO,i1,i2]->s.heap.get? c=some o->h'.get? c=some o)->Q (.ref s.heap.objs.size) {s with heap:=h'}) :
  wpAny (model prog w) A (Builtin.«zip.__next__» ⟨[.ref z],[]⟩) (λ f s'=>∃ v,f=.done (.ret v)/\Q v s') E s:=by
 have m1:=D.f1 i1 N1.mem;have m2:=D.f2 i2 N2.mem;show wpAny _ _ (field (.ref z) 2 >>= _) _ _ _;refine qb (wpAny_field Z.hz rfl (x:=.bool false) rfl (qb (wpAny_field Z.hz rfl (x:=.ref TI) rfl (qb (wpAny_seqItems Z.ti rfl ?_)))));refine qb (m:=Builtin.SmallTypes.ownedTupleIsFree (.ref z)) (R_0 Z.hz hT λ ha za sa=>?_)
 obtain⟨a,b,hab⟩:=Z.to;have pa1:P1 k1 ha:=N1.keep _ _ _ Z.p1 λ q hq o e=>(sa.2 q (D.f1 q hq).1).trans e
 have pa2:P2 k2 ha:=N2.keep _ _ _ Z.p2 λ q hq o e=>(sa.2 q (D.f2 q hq).1).trans e
 rw[if_neg (by exact Bool.false_ne_true)]
 refine qb ?_;simp only[<- Array.forIn_toList,List.forIn_cons,List.forIn_nil];refine qb (qb (wpAny_holding (qb (N1.draw _ _ {s with heap:=ha} _ k1 x pa1 hx λ hb pb1 sb=>qc (qc ?_)))))
 have pb2:P2 k2 hb:=N2.keep _ _ _ pa2 λ q hq o e=>(sb.2 q (D.f2 q hq).2.2).trans e
 refine qb (qb (wpAny_holding (qb (N2.draw _ _ {s with heap:=hb} _ k2 y pb2 hy λ hc pc2 sc=>qc (qc (qc ?_))))))
 have size:hc.objs.size=s.heap.objs.size:=by rw[sc.1,sb.1,sa.1]
 refine qb (wpAny_newTuple (qc ⟨_,rfl,?_⟩) (by show (2:Nat)<=sizeLine;decide))
 have up:∀ c o,c≠z → c≠i1 → c≠i2 → s.heap.get? c=some o → (hc.push {cls:=.type "tuple",data:=.seq #[x,y]}).get? c=some o:=λ c o c1 c2 c3 e=>qf _ ((sc.2 c c3).trans ((sb.2 c c2).trans ((sa.2 c c1).trans e)))
 have pr:IsPair (hc.push {cls:=.type "tuple",data:=.seq #[x,y]}) hc.objs.size x y:=qk _ rfl;rw[size] at pr;show Q (.ref hc.objs.size) _;rw[size];refine fin _ ⟨qf _ ((sc.2 z (Ne.symm m2.1)).trans ((sb.2 z (Ne.symm m1.1)).trans za)),up _ _ D.TIz D.TI1 D.TI2 Z.ti,⟨a,b,up _ _ D.TOz (Ne.symm m1.2.1) (Ne.symm m2.2.1) hab⟩,N1.keep _ _ _ pb1 λ q hq o e=>qf _ ((sc.2 q (D.f1 q hq).2.2).trans e),N2.keep _ _ _ pc2 λ q hq o e=>qf _ e⟩ pr (by rw[Heap.size_push,size]) λ c o hc' e=>?_
 simp only[List.mem_cons,List.not_mem_nil,or_false,not_or] at hc';exact up c o hc'.1 hc'.2.2.1 hc'.2.2.2 e
theorem bb8 {h:Heap}{e:Addr}{f0:Value}{f:Bool} (hz:h.get? z=some (zO f0 f TI TO)) (he:∃ o,h.get? e=some o ∧ o.cls=.type "StopIteration"):e≠z:=λ q=>by
 obtain⟨o,a,b⟩:=he;rw[q,hz] at a;cases a;simp at b
theorem an0 {f0:Value} (hh:A.handled=none) (N1:Nx prog w i1 fp1 g1 P1) (N2:Nx prog w i2 fp2 g2 P2) (D:Za z TI TO i1 i2 fp1 fp2) (Z:Zs z TI TO i1 i2 P1 P2 k1 k2 f0 f1 s.heap) (hf:f0=.none\/∃ (T0:Addr) (ot:Obj),f0=rawInt T0/\s.heap.get? T0=some ot)
  (hend:g1 k1=none ∨ g2 k2=none) {Q:Fin → Shared → Prop} (fin:∀ h' e,(∀ c o,c∉[z,TO,i1,i2] → s.heap.get? c=some o → h'.get? c=some o) → (∃ o,h'.get? e=some o ∧ o.cls=.type "StopIteration") → E (.ref e) {s with heap:=h'}) :
  wpAny (model prog w) A (Builtin.«zip.__next__» ⟨[.ref z],[]⟩) Q E s:=by
 have m1:=D.f1 i1 N1.mem;have m2:=D.f2 i2 N2.mem;obtain⟨a,b,hab⟩:=Z.to
 have four:∀ {c:Addr},c∉[z,TO,i1,i2]->c≠z/\c≠TO/\c≠i1/\c≠i2:=λ hc=>by
  simp only[List.mem_cons,List.not_mem_nil,or_false,not_or] at hc;exact hc
 show wpAny _ _ (field (.ref z) 2 >>= _) _ _ _;refine qb (wpAny_field Z.hz rfl (x:=.bool false) rfl (qb (wpAny_field Z.hz rfl (x:=.ref TI) rfl (qb (wpAny_seqItems Z.ti rfl ?_)))))
 rcases hf with rfl | ⟨T0,ot,rfl,hT⟩
 ·refine qb (m:=Builtin.SmallTypes.ownedTupleIsFree (.ref z)) (qb (wpAny_field Z.hz rfl (x:=.none) rfl (qc ?_)))
  simp only[if_true];refine qb (wpAny_rule (qb (wpAny_field Z.hz rfl (x:=.ref TO) rfl (qb (wpAny_setField_rec Z.hz (by simp) λ ha za sa=>?_)))))
  have za:ha.get? z=some (zO .ellipsis f1 TI TO):=za;have pa1:P1 k1 ha:=N1.keep _ _ _ Z.p1 λ q hq o e=>(sa.2 q (D.f1 q hq).1).trans e
  have pa2:P2 k2 ha:=N2.keep _ _ _ Z.p2 λ q hq o e=>(sa.2 q (D.f2 q hq).1).trans e
  have ta:IsPair ha TO a b:=(sa.2 TO D.TOz).trans hab;refine qb ?_;simp only[List.zipIdx_cons,List.zipIdx_nil,List.forIn_cons,List.forIn_nil];cases hx:g1 k1 with
  |none =>
   refine qb (qb (wpAny_onRaise (qb (N1.over _ _ {s with heap:=ha} _ k1 hh pa1 hx λ hb e xb he=>?_))))
   have zb:hb.get? z=some (zO .ellipsis f1 TI TO):=xb z _ (Ne.symm m1.1) za;have ez:=bb8 zb he;obtain⟨oe,e1,e2⟩:=he;refine wpAny_setField_rec zb (by simp) λ hc _ sc=>fin hc e (λ c o hc' q=>?_) ⟨oe,(sc.2 e ez).trans e1,e2⟩
   obtain⟨c1,c2,c3,c4⟩:=four hc';exact (sc.2 c c1).trans (xb c o c3 ((sa.2 c c1).trans q))
  |some x =>
   have hy:g2 k2=none:=by
    rcases hend with h | h
    ·rw[hx] at h;cases h
    ·exact h
   refine qb (qb (wpAny_onRaise (qb (N1.draw _ _ {s with heap:=ha} _ k1 x pa1 hx λ hb pb1 sb=>qc ?_))))
   have tb:IsPair hb TO a b:=(sb.2 TO (Ne.symm m1.2.1)).trans ta;refine qb (wpAny_seqItems tb rfl (qb (wpAny_updateSeq_pair tb λ hc tc sc=>qb (wpAny_letGo (qc ?_)))))
   have pc2:P2 k2 hc:=N2.keep _ _ _ pa2 λ q hq o e=>(sc.2 q (D.f2 q hq).2.1).trans ((sb.2 q (D.f2 q hq).2.2).trans e)
   refine qb (qb (wpAny_onRaise (qb (N2.over _ _ {s with heap:=hc} _ k2 hh pc2 hy λ hd e xd he=>?_))))
   have zd:hd.get? z=some (zO .ellipsis f1 TI TO):=xd z _ (Ne.symm m2.1) ((sc.2 z D.TOz.symm).trans ((sb.2 z (Ne.symm m1.1)).trans za));have ez:=bb8 zd he;obtain⟨oe,e1,e2⟩:=he;refine wpAny_setField_rec zd (by simp) λ hg _ sg=>fin hg e (λ c o hc' q=>?_) ⟨oe,(sg.2 e ez).trans e1,e2⟩
   obtain⟨c1,c2,c3,c4⟩:=four hc';exact (sg.2 c c1).trans (xd c o c4 ((sc.2 c c2).trans ((sb.2 c c3).trans ((sa.2 c c1).trans q))))
 ·refine qb (m:=Builtin.SmallTypes.ownedTupleIsFree (.ref z)) (R_0 Z.hz hT λ ha za sa=>?_)
  have pa1:P1 k1 ha:=N1.keep _ _ _ Z.p1 λ q hq o e=>(sa.2 q (D.f1 q hq).1).trans e
  have pa2:P2 k2 ha:=N2.keep _ _ _ Z.p2 λ q hq o e=>(sa.2 q (D.f2 q hq).1).trans e
  rw[if_neg (by exact Bool.false_ne_true)]
  refine qb ?_;simp only[<- Array.forIn_toList,List.forIn_cons,List.forIn_nil];cases hx:g1 k1 with
  |none =>
   refine qb (qb (wpAny_holding (qb (N1.over _ _ {s with heap:=ha} _ k1 hh pa1 hx λ hb e xb he=>?_))))
   refine fin hb e (λ c o hc' q=>?_) he
   obtain⟨c1,c2,c3,c4⟩:=four hc';exact xb c o c3 ((sa.2 c c1).trans q)
  |some x =>
   have hy:g2 k2=none:=by
    rcases hend with h | h
    ·rw[hx] at h;cases h
    ·exact h
   refine qb (qb (wpAny_holding (qb (N1.draw _ _ {s with heap:=ha} _ k1 x pa1 hx λ hb pb1 sb=>qc (qc ?_)))))
   have pb2:P2 k2 hb:=N2.keep _ _ _ pa2 λ q hq o e=>(sb.2 q (D.f2 q hq).2.2).trans e
   refine qb (qb (wpAny_holding (qb (N2.over _ _ {s with heap:=hb} _ k2 hh pb2 hy λ hc e xc he=>?_))))
   refine fin hc e (λ c o hc' q=>?_) he
   obtain⟨c1,c2,c3,c4⟩:=four hc';exact xc c o c4 ((sb.2 c c3).trans ((sa.2 c c1).trans q))
theorem F_2 (N1:Nx prog w i1 fp1 g1 P1) (N2:Nx prog w i2 fp2 g2 P2) (D:Za z TI TO i1 i2 fp1 fp2) (Z:Zs z TI TO i1 i2 P1 P2 k1 k2 .none f1 s.heap) {x y:Value} (hx:g1 k1=some x) (hy:g2 k2=some y) {Q:Option Value->Shared->Prop}
  (fin:∀ h',Zs z TI TO i1 i2 P1 P2 (k1+1) (k2+1) (rawInt s.heap.objs.size) false h'->IsPair h' s.heap.objs.size x y->h'.objs.size=s.heap.objs.size+1->(∀ c o,c∉[z,TO,i1,i2]->s.heap.get? c=some o->h'.get? c=some o)->Q (some (.ref s.heap.objs.size)) {s with heap:=h'}) :
  wpAny (model prog w) A (pyNext (.ref z)) Q E s:=by
 have ty:s.TypeIs (.ref z) "zip":=⟨_,Z.hz,rfl⟩;unfold pyNext;exact qb (wpAny_attempt (wpAny_callSpecial?_slot (name:=Str.ofString "__next__") ty PySem.F.slot_zip_next (wpAny_call_entry PySem.F.slot_zip_next ty PySem.F.entry_zip_next (an1 N1 N2 D Z hx hy λ h' a b c d=>qc (fin h' a b c d)) (PySem.F.args_zip_next_1 _))))
theorem ad2 (N1:Nx prog w i1 fp1 g1 P1) (N2:Nx prog w i2 fp2 g2 P2) (D:Za z TI TO i1 i2 fp1 fp2) (Z:Zs z TI TO i1 i2 P1 P2 k1 k2 (rawInt T0) f1 s.heap) {ot:Obj} (hT:s.heap.get? T0=some ot) {x y:Value} (hx:g1 k1=some x) (hy:g2 k2=some y) {Q:Option Value->Shared->Prop}
  (fin:∀ h',Zs z TI TO i1 i2 P1 P2 (k1+1) (k2+1) (rawInt T0) true h'->IsPair h' s.heap.objs.size x y->h'.objs.size=s.heap.objs.size+1->(∀ c o,c∉[z,TO,i1,i2]->s.heap.get? c=some o->h'.get? c=some o)->Q (some (.ref s.heap.objs.size)) {s with heap:=h'}) :
  wpAny (model prog w) A (pyNext (.ref z)) Q E s:=by
 have ty:s.TypeIs (.ref z) "zip":=⟨_,Z.hz,rfl⟩;unfold pyNext;exact qb (wpAny_attempt (wpAny_callSpecial?_slot (name:=Str.ofString "__next__") ty PySem.F.slot_zip_next (wpAny_call_entry PySem.F.slot_zip_next ty PySem.F.entry_zip_next (am9 N1 N2 D Z hT hx hy λ h' a b c d=>qc (fin h' a b c d)) (PySem.F.args_zip_next_1 _))))
theorem F_1 {f0:Value} (hh:A.handled=none) (N1:Nx prog w i1 fp1 g1 P1) (N2:Nx prog w i2 fp2 g2 P2) (D:Za z TI TO i1 i2 fp1 fp2) (Z:Zs z TI TO i1 i2 P1 P2 k1 k2 f0 f1 s.heap) (hf:f0=.none\/∃ (T0:Addr) (ot:Obj),f0=rawInt T0/\s.heap.get? T0=some ot)
  (hend:g1 k1=none\/g2 k2=none) {Q:Option Value->Shared->Prop} (fin:∀ h',(∀ c o,c∉[z,TO,i1,i2]->s.heap.get? c=some o->h'.get? c=some o)->Q none {s with heap:=h'}) :
  wpAny (model prog w) A (pyNext (.ref z)) Q E s:=by
 have ty:s.TypeIs (.ref z) "zip":=⟨_,Z.hz,rfl⟩;unfold pyNext;refine qb (wpAny_attempt (wpAny_callSpecial?_slot (name:=Str.ofString "__next__") ty PySem.F.slot_zip_next (wpAny_call_entry PySem.F.slot_zip_next ty PySem.F.entry_zip_next (an0 (A:=A.in1) hh N1 N2 D Z hf hend λ h' e k he=>?_) (PySem.F.args_zip_next_1 _))))
 obtain⟨o,a,b⟩:=he;exact qb (wpAny_isInstance (T:="StopIteration") (b:=true) ⟨o,a,b⟩ isSubtype_stop (qc (fin h' k)))
end
def zq (h:Heap) (a b:Addr):Heap :=
 ((((h.push {cls:=.type "tuple_iterator",data:=.fields #[.ref a,.int 0 0]}).push {cls:=.type "tuple_iterator",data:=.fields #[.ref b,.int 0 0]}).push {cls:=.type "tuple",data:=.seq #[.ref h.objs.size,.ref (h.objs.size+1)]}).push
  {cls:=.type "tuple",data:=.seq #[.none,.none]}).push (zO .none false (h.objs.size+2) (h.objs.size+3))
theorem M_6 {h:Heap}{n:Nat}{o:Obj} (e:h.objs.size=n) (hf:o.isFreed=false):(h.push o).get? n=some o:=by subst e;exact qk _ hf
theorem IsTup.pushed {h:Heap}{t:Addr}{xs:Array Value} (x:IsTup h t xs) (o:Obj):IsTup (h.push o) t xs:=let ⟨p,e,r⟩:=x;⟨p,qf _ e,r⟩
theorem at4 (t1 t2:Addr) (xs ys:Array Value):Meets (Builtin.«zip.__new__» ⟨[.type "zip",.ref t1,.ref t2],[]⟩) (λ _ R s=>IsTup s.heap t1 xs ∧ IsTup s.heap t2 ys ∧ R (.ok (.ret (.ref (s.heap.objs.size+4)))) {s with heap:=zq s.heap t1 t2}) :=
 .of_wp λ prog w A R s h=>by
  obtain⟨hp,g,d,tk,os⟩:=s;obtain⟨h1,h2,h⟩:=h;have hsub:=PySem.sub_zip;have a1:IsTup (Shared.heap ⟨hp,g,d,tk,os⟩) t1 xs:=h1;have a2:IsTup (Shared.heap ⟨hp.push {cls:=.type "tuple_iterator",data:=.fields #[.ref t1,.int 0 0]},g,d,tk,os⟩) t2 ys:=IsTup.pushed h2 _
  wp_walk using iter_tuple a1,iter_tuple a2
  refine⟨_,rfl,?_⟩;have z:∀ (u v w x y:Obj),((((hp.push u).push v).push w).push x).objs.size=hp.objs.size+4:=λ u v w x y=>by rw[Heap.size_push,Heap.size_push,Heap.size_push,Heap.size_push]
  have e1:∀ u:Obj,(hp.push u).objs.size=hp.objs.size+1:=λ u=>Heap.size_push ..
  have e2:∀ u v:Obj,((hp.push u).push v).objs.size=hp.objs.size+2:=λ u v=>by rw[Heap.size_push,Heap.size_push]
  have e3:∀ u v w:Obj,(((hp.push u).push v).push w).objs.size=hp.objs.size+3:=λ u v w=>by rw[Heap.size_push,Heap.size_push,Heap.size_push]
  have e4:∀ u v w x:Obj,((((hp.push u).push v).push w).push x).objs.size=hp.objs.size+4:=λ u v w x=>by rw[Heap.size_push,Heap.size_push,Heap.size_push,Heap.size_push]
  simp only[e1,e2,e3,e4];exact h
section
variable {prog:Program}{w:World}{A:Around}{E:Value->Shared->Prop}{s:Shared}
theorem H_1 {t1 t2:Addr}{xs ys:Array Value}{Q:Value->Shared->Prop} (h1:IsTup s.heap t1 xs) (h2:IsTup s.heap t2 ys)
  (fin:∀ h',h'.get? (s.heap.objs.size+4)=some (zO .none false (s.heap.objs.size+2) (s.heap.objs.size+3))->IsPair h' (s.heap.objs.size+2) (.ref s.heap.objs.size) (.ref (s.heap.objs.size+1))->IsPair h' (s.heap.objs.size+3) .none .none ->
   IsTupIter h' s.heap.objs.size t1 0->IsTupIter h' (s.heap.objs.size+1) t2 0->(∀ c o,s.heap.get? c=some o->h'.get? c=some o)->Q (.ref (s.heap.objs.size+4)) {s with heap:=h'}) :
  wpAny (model prog w) A (call (.type "zip") [.ref t1,.ref t2]) Q E s:=by
 refine callType_new F.called_zip (by decide) (F.typeCall_zip_2 _ _) (F.newCall_zip_2 _ _) (λ obj=>F.args_object_init_3 obj _ _) F.entry_zip_new (at4 t1 t2 xs ys) ⟨h1,h2,?_⟩
 have z1:∀ u:Obj,(s.heap.push u).objs.size=s.heap.objs.size+1:=λ u=>Heap.size_push ..
 have z2:∀ u v:Obj,((s.heap.push u).push v).objs.size=s.heap.objs.size+2:=λ u v=>by rw[Heap.size_push,z1]
 have z3:∀ u v w:Obj,(((s.heap.push u).push v).push w).objs.size=s.heap.objs.size+3:=λ u v w=>by rw[Heap.size_push,z2]
 have z4:∀ u v w x:Obj,((((s.heap.push u).push v).push w).push x).objs.size=s.heap.objs.size+4:=λ u v w x=>by rw[Heap.size_push,z3]
 have p0:(zq s.heap t1 t2).get? s.heap.objs.size=some _:=qf _ (qf _ (qf _ (qf _ (qk _ rfl))))
 have p1:(zq s.heap t1 t2).get? (s.heap.objs.size+1)=some {cls:=.type "tuple_iterator",data:=.fields #[.ref t2,.int 0 0]}:=by
  rw[← z1 {cls:=.type "tuple_iterator",data:=.fields #[.ref t1,.int 0 0]}];unfold zq;exact qf _ (qf _ (qf _ (qk _ rfl)))
 have p2:(zq s.heap t1 t2).get? (s.heap.objs.size+2)=some {cls:=.type "tuple",data:=.seq #[.ref s.heap.objs.size,.ref (s.heap.objs.size+1)]}:=by
  unfold zq;exact qf _ (qf _ (M_6 (z2 _ _) rfl))
 have p3:(zq s.heap t1 t2).get? (s.heap.objs.size+3)=some {cls:=.type "tuple",data:=.seq #[.none,.none]}:=by
  unfold zq;exact qf _ (M_6 (z3 _ _ _) rfl)
 have p4:(zq s.heap t1 t2).get? (s.heap.objs.size+4)=some (zO .none false (s.heap.objs.size+2) (s.heap.objs.size+3)):=by
  unfold zq;exact M_6 (z4 _ _ _ _) rfl
 exact⟨⟨_,p4,rfl⟩,fin _ p4 p2 p3 ⟨_,p0,rfl,rfl⟩ ⟨_,p1,rfl,rfl⟩ λ c o e=>qf _ (qf _ (qf _ (qf _ (qf _ e))))⟩
end
structure Coll (X:Cx) (J:It) (fp:List Addr) (it:Addr) (tn:Nat->Heap->Prop):Prop where
 obj:∀ i h,tn i h->∀ b∈fp,b<h.objs.size
 keep:∀ i h h' (S:Addr),tn i h → S∉fp → (∀ o,h.get? S=some o → o.cls=.type "list") → (∀ b o,b≠S → h.get? b=some o → h'.get? b=some o) → tn i h'
 item:∀ (A:Around) (i:Nat) (pins:List (Addr×Obj)) (s:Shared) (σ:L2.St) (H:Hp) (E:Value->Shared->Prop),A.handled=none->Inv X pins σ H s->(∀ b∈fp,FpOk X pins H b)->tn i s.heap->J.go i H ->
  wpAny (model X.prog X.w) A (pyNext (.ref it)) (λ r s1=>∃ u x H',r=some u/\Inv X pins σ H' s1/\RelV x u/\J.yld i H x H'/\tn (i+1) s1.heap/\(∀ b,s.heap.objs.size<=b\/H b≠none\/H' b=none)/\∀ b o,b∉fp->s.heap.get? b=some o->s1.heap.get? b=some o) E s
 done:∀ (A:Around) (i:Nat) (pins:List (Addr×Obj)) (s:Shared) (σ:L2.St) (H:Hp) (E:Value->Shared->Prop),A.handled=none->Inv X pins σ H s->(∀ b∈fp,FpOk X pins H b)->tn i s.heap->J.stop i H ->
  wpAny (model X.prog X.w) A (pyNext (.ref it)) (λ r s1=>r=none/\Inv X pins σ H s1/\∀ b o,b∉fp->s.heap.get? b=some o->s1.heap.get? b=some o) E s
theorem ag3 {X:Cx}{pins:List (Addr×Obj)}{H H':Hp}{b:Addr} (h:FpOk X pins H b) (n:H' b=none):FpOk X pins H' b:=⟨n,h.2⟩
abbrev lO (acc:List Value) (c:Nat):Obj:={cls:=.type "list",dict:=none,data:=.seq acc.toArray c,slots:=#[]}
section
variable {X:Cx}{J:It}{fp:List Addr}{it S:Addr}{tn:Nat->Heap->Prop}{pins:List (Addr×Obj)}{σ:L2.St}{A:Around}{R:Result->Shared->Prop}{n:Nat}{W:Nat->Hp->List V->Prop}
theorem av4 (C:Coll X J fp it tn) (hA:A.handled=none) (hS:S∉fp) (res:Value) (hn:n<=1000) (go:∀ i H vs,i<n->W i H vs->J.go i H/\∀ x H',J.yld i H x H'->W (i+1) H' (vs++[x])) (stop:∀ H vs,W n H vs->J.stop n H)
  (fin:∀ s' H' vs' acc' c',Inv X pins σ H' s'->H' S=none->s'.heap.get? S=some (lO acc' c')->Vals vs' acc'->vs'.length=n->W n H' vs'->R (.ok (.ret res)) s') :
  ∀ (m i:Nat) (s:Shared) (H:Hp) (vs:List V) (acc:List Value) (c:Nat),n-i=m->i<=n->Inv X pins σ H s->(∀ b∈S::fp,FpOk X pins H b)->tn i s.heap->s.heap.get? S=some (lO acc c)->Vals vs acc->vs.length=i->W i H vs ->
   codeAny (model X.prog X.w) A (.builtin "list.extend.loop" ⟨[.ref S,.ref it,res],[]⟩) R s:=by
 intro m
 induction m with
 |zero =>
  intro i s H vs acc c hm hi I hf ht hL rv hl hw;have e:i=n:=by omega
  subst e;refine codeAny_builtin PySem.F.entry_extend_loop ?_;rw[Around.under_plainId PySem.F.plain_extend_loop _];refine qb (m:=pyNext (.ref it)) (wpAny_mono (C.done A.in1 i pins s σ H _ hA I (λ b hb=>hf b (qh _ hb)) ht (stop H vs hw)) (λ r s1 hh0_=>?_) λ _ _ z=>z)
  obtain⟨q1,I1,k⟩:=hh0_;subst q1;exact qc (fin s1 H vs acc c I1 (hf S qg).1 (k S _ hS hL) rv hl hw)
 |succ m ih =>
  intro i s H vs acc c hm hi I hf ht hL rv hl hw;have lt:i<n:=by omega
  obtain⟨g1,g2⟩:=go i H vs lt hw;refine codeAny_builtin PySem.F.entry_extend_loop ?_;rw[Around.under_plainId PySem.F.plain_extend_loop _];refine qb (m:=pyNext (.ref it)) (wpAny_mono (C.item A.in1 i pins s σ H _ hA I (λ b hb=>hf b (qh _ hb)) ht g1) (λ r s1 hh0_=>?_) λ _ _ z=>z)
  obtain⟨u,x,H1,q1,I1,ru,hy,ht1,nw,k⟩:=hh0_;subst q1;have hL1:=k S _ hS hL
  have free:∀ b∈S::fp,FpOk X pins H1 b:=λ b hb=>ag3 (hf b hb) (by
   rcases nw b with z | z | z
   ·have lt:b<s.heap.objs.size:=by
     rcases qw hb with rfl | hb
     ·exact qm hL
     ·exact C.obj _ _ ht b hb
    exact absurd lt (Nat.not_lt.mpr z)
   ·exact absurd (hf b hb).1 z
   ·exact z)
  have len:acc.length=i:=by rw[<- rv.length];exact hl
  have big:(1001:Nat)<=sizeLine:=by decide
  refine qb (m:=updateSeq S (·.push u)) (wpAny_updateSeq hL1 rfl (qc ⟨plainId_quiet PySem.F.plain_extend_loop _,ih (i+1) _ H1 (vs++[x]) (acc++[u]) (c+1) (by omega) lt ?_ free ?_ ?_ (rv.append (.cons ru .nil)) (by rw[List.length_append,hl];rfl) (g2 x H1 hy)⟩) (by rw[List.size_toArray];omega) (by show (acc.toArray.push u).size<=_;rw[Array.size_push,List.size_toArray];omega))
  ·exact Inv.turnedL (t':=s1.toks) (fs:=[S]) I1 (λ b o hb q=>(Heap.get?_update_other _ _ (λ e=>hb (by simp[e]))).trans q) λ b hb=>by rw[List.mem_singleton.mp hb];exact free S qg
  ·exact C.keep _ _ _ S ht1 hS (λ o q=>by rw[hL1] at q;cases q;rfl) λ b o hb q=>(Heap.get?_update_other _ _ (Ne.symm hb)).trans q
  ·rw[Heap.get?_update_self _ hL1 rfl]
   simp[Obj.mapSeq]
end
theorem Y_3:typeLookup (.type "zip") "__len__"=pure none:=by rw[typeLookup_type,builtinLookup_eq_fast];kernel_rfl
theorem T_0:typeLookup (.type "zip") "__length_hint__"=pure none:=by rw[typeLookup_type,builtinLookup_eq_fast];kernel_rfl
section
variable {prog:Program}{w:World}{A:Around}{E:Value->Shared->Prop}{s:Shared}{r:Addr}
theorem au6 {Q:Bool → Shared → Prop} (hT:s.TypeIs (.ref r) "zip") (h:Q true s):wpAny (model prog w) A (Builtin.List.listLengthHint (.ref r)) Q E s:=by
 unfold Builtin.List.listLengthHint;refine qb (wpAny_specialOf hT Y_3 ?_);show wpAny _ _ (specialOf (.ref r) (Str.ofString "__length_hint__") >>= _) _ _ _;refine qb (wpAny_specialOf hT T_0 ?_);exact qc h
end
section
variable {X:Cx}{J:It}{fp:List Addr}{it S:Addr}{tn:Nat->Heap->Prop}{pins:List (Addr×Obj)}{σ:L2.St}{A:Around}{R:Result->Shared->Prop}{n:Nat}{W:Nat->Hp->List V->Prop}{s:Shared}{H:Hp}
theorem R_3 (C:Coll X J fp it tn) (hA:A.handled=none) (hS:S∉fp) (res:Value) (hn:n<=1000) (go:∀ i H vs,i<n->W i H vs->J.go i H/\∀ x H',J.yld i H x H'->W (i+1) H' (vs++[x])) (stop:∀ H vs,W n H vs->J.stop n H)
  (fin:∀ s' H' vs' acc' c',Inv X pins σ H' s'->H' S=none->s'.heap.get? S=some (lO acc' c')->Vals vs' acc'->vs'.length=n->W n H' vs'->R (.ok (.ret res)) s')
  {f0:Value}{f1:Bool}{TI TO:Addr} (hz:s.heap.get? it=some (zO f0 f1 TI TO)) (ne:S≠it) (I:Inv X pins σ H s) (hf:∀ b∈S::fp,FpOk X pins H b) (ht:tn 0 s.heap) {c:Nat} (hL:s.heap.get? S=some (lO [] c)) (hw:W 0 H []) :
  wpAny (model X.prog X.w) A.in1 (Builtin.List.listExtendWith (.ref S) (.ref it) res) (λ f s'=>match f with | .done f=>R (.ok f) s' | .again c'=>c'.quiet=true/\codeAny (model X.prog X.w) A c' R s') (λ e s'=>R (.error e) s') s:=by
 have ty:s.TypeIs (.ref it) "zip":=⟨_,hz,rfl⟩;have big:(1001:Nat)<=sizeLine:=by decide
 unfold Builtin.List.listExtendWith;refine qb (wpAny_typeOf ty ?_);have n1:Builtin.List.listSameRef (.ref S) (.ref it)=false:=beq_eq_false_iff_ne.mpr ne;rw[n1];refine wpAny_ite_split (λ z=>absurd z (by decide)) λ _=>?_
 have self:∀ {Q:Value->Shared->Prop}{E:Value->Shared->Prop},Q (.ref it) s->wpAny (model X.prog X.w) A.in1 (pyIter (.ref it)) Q E s:=λ {Q E} q=>by
  refine wpAny_pyIter_slot ty PySem.F.slot_zip_iter (wpAny_call_entry PySem.F.slot_zip_iter ty PySem.F.entry_zip_iter ?_ (PySem.F.args_zip_iter_1 _));exact qc ⟨_,rfl,"zip",_,ty,PySem.F.slot_zip_next.lookup,q⟩
 refine qb (self ?_);refine qb (wpAny_holding (au6 ty ?_));refine wpAny_ite_split (λ _=>?_) λ z=>absurd rfl z
 refine qb (wpAny_rule ?_);unfold Builtin.List.listTouch
 have u1:(s.heap.update S (Obj.mapSeq (·.push Value.none))).get? S=some (lO [.none] (c+1)):=by
  rw[Heap.get?_update_self _ hL rfl];simp[Obj.mapSeq]
 have u2:((s.heap.update S (Obj.mapSeq (·.push Value.none))).update S (Obj.mapSeq (·.pop))).get? S=some (lO [] (c+1+1)):=by
  rw[Heap.get?_update_self _ u1 rfl];simp[Obj.mapSeq]
 have far:∀ b o,b≠S->s.heap.get? b=some o->((s.heap.update S (Obj.mapSeq (·.push Value.none))).update S (Obj.mapSeq (·.pop))).get? b=some o:=λ b o hb q =>
  (Heap.get?_update_other _ _ (Ne.symm hb)).trans ((Heap.get?_update_other _ _ (Ne.symm hb)).trans q)
 refine qb (qb (m:=updateSeq S (·.push .none)) (wpAny_updateSeq hL rfl (wpAny_updateSeq u1 rfl ?_ (by show (1:Nat)<=sizeLine;decide) (by show (0:Nat)<=sizeLine+1;exact Nat.zero_le _)) (by show (0:Nat)<=sizeLine;exact Nat.zero_le _) (by show (1:Nat)<=sizeLine+1;decide)))
 refine qc ⟨plainId_quiet PySem.F.plain_extend_loop _,av4 C hA hS res hn go stop fin n 0 _ H [] [] (c+1+1) rfl (Nat.zero_le _) (Inv.turnedL (s:=s) (t':=s.toks) (fs:=[S]) I (λ b o hb q=>far b o (λ e=>hb (by simp[e])) q) λ b hb=>by rw[List.mem_singleton.mp hb];exact hf S qg) hf
  (C.keep _ _ _ S ht hS (λ o q=>by rw[hL] at q;cases q;rfl) λ b o hb q=>far b o hb q) u2 .nil rfl hw⟩
end
end Fx
namespace L2
open PySem PySem.Spec PyProof.Rows
theorem Inv.track {X:Cx}{pins:List (Addr×Obj)}{σ:St}{H:Hp}{s:Shared}{a:Addr}{o:HO} (I:Inv X pins σ H s) (hf:FpOk X pins H a) (old:X.s₀.heap.objs.size<=a) (new:ObjOk X.prog X.w (upd H a o) s.heap a o):Inv X pins σ (upd H a o) s:=by
 obtain⟨hn,hl,_,_,hc,hp⟩:=hf;have ne:∀ {b:Addr}{u:HO},H b=some u->b≠a:=λ q=>b_1 q hn
 have lt:∀ {b:Addr}{u:Obj},X.s₀.heap.get? b=some u->b≠a:=λ q=>qv (qt (qm q) old)
 refine⟨I.ok,I.os,I.bare,⟨I.base.keep,I.base.slot,λ b u q n hx=>by rw[a_6 (lt q)];exact I.base.free b u q n hx,I.base.there,λ b xs q=>?_,λ b u v q=>?_,λ b ps q=>?_⟩,I.loc,I.cell,by rw[a_6 (Ne.symm hl)];exact I.free,
  λ x c q=>by rw[a_6 (hc x c q)];exact I.freeC x c q,λ p hq=>?_,λ b u e=>?_,I.len⟩
 ·have z:=I.base.tups b xs q
  rw[a_6 (ne z)];exact z
 ·have z:=I.base.frzs b u v q
  rw[a_6 (ne z)];exact z
 ·obtain⟨more,z⟩:=I.base.tbls b ps q
  exact⟨more,by rw[a_6 (ne z)];exact z⟩
 ·obtain⟨p1,p2,p3⟩:=I.pin p hq
  exact⟨p1,by rw[a_6 (hp p hq)];exact p2,p3⟩
 ·by_cases hb:b=a
  ·subst hb;rw[a_3] at e;cases e;exact new
  ·rw[a_6 hb] at e
   exact (I.hok b u e).stay (λ c v _ q=>q) (λ c q=>by rw[a_6 (ne q)];exact q) λ c xs q=>by rw[a_6 (ne q)];exact q
end L2
namespace Fx
open PySem PySem.Spec PyProof.Rows L2
section
variable {X:Cx}{J:It}{fp:List Addr}{it:Addr}{tn:Nat->Heap->Prop}{pins:List (Addr×Obj)}{σ:L2.St}{n:Nat}{W:Nat->Hp->List V->Prop}{s:Shared}{H:Hp}{f0:Value}{f1:Bool}{TI TO:Addr}
theorem at5 (hc:X.calm=true) (C:Coll X J fp it tn) (hn:n<=1000) (go:∀ i H vs,i<n->W i H vs->J.go i H/\∀ x H',J.yld i H x H'->W (i+1) H' (vs++[x])) (stop:∀ H vs,W n H vs->J.stop n H)
  (hz:s.heap.get? it=some (zO f0 f1 TI TO)) (I:Inv X pins σ H s) (hf:∀ b∈fp,FpOk X pins H b) (ht:tn 0 s.heap) (hw:W 0 H []) {Q:VK}
  (fin:∀ H' vs' p,H' p=none->vs'.length=n->W n H' vs'->Q (.ref p) (upd H' p (.lst vs'))) :
  wpAny (model X.prog X.w) X.A (call (.type "list") [.ref it]) (EP X pins σ Q) X.xe s:=by
 have hh:X.A.handled=none:=I.ok.hd hc;have big:(1001:Nat)<=sizeLine:=by decide
 refine callType_codes (Q₁:=λ o s1=>o=.ref s.heap.objs.size ∧ s1={s with heap:=s.heap.push {cls:=.type "list",data:=.seq #[]}}) PySem.F.called_list (PySem.F.typeCall_list_1 _) PySem.F.entry_list_init (code_list_new _ ⟨rfl,rfl⟩) λ o s1 h1=>?_
 obtain⟨rfl,rfl⟩:=h1;have new:(s.heap.push {cls:=.type "list",data:=.seq #[]}).get? s.heap.objs.size=some {cls:=.type "list",data:=.seq #[]}:=qk _ rfl
 have e2:((s.heap.push {cls:=.type "list",data:=.seq #[]}).update s.heap.objs.size (Obj.mapSeq (λ _=>(#[]:Array Value)))).get? s.heap.objs.size=some (lO [] 0):=by
  rw[Heap.get?_update_self (Obj.mapSeq (λ _=>(#[]:Array Value))) new rfl]
  simp[Obj.mapSeq]
 have up:∀ b o,s.heap.get? b=some o → ((s.heap.push {cls:=.type "list",data:=.seq #[]}).update s.heap.objs.size (Obj.mapSeq (λ _=>(#[]:Array Value)))).get? b=some o:=λ b o e =>
  (Heap.get?_update_other _ _ (Nat.ne_of_gt (qm e))).trans (qf _ e)
 have out:s.heap.objs.size∉fp:=λ z=>Nat.lt_irrefl _ (C.obj _ _ ht _ z)
 have fS:FpOk X pins H s.heap.objs.size:=I.fpOk (qj _) (I.hok.fresh (qj _));refine⟨⟨_,new,rfl⟩,PySem.F.args_list_init_2 _ _,?_⟩;show wpAny _ _ (do let old <- Builtin.List.listItems (.ref s.heap.objs.size);Builtin.List.listUpdate (.ref s.heap.objs.size) (λ _=>#[]);letGo old.toList.reverse;Builtin.List.listExtendWith (.ref s.heap.objs.size) (.ref it) .none) _ _ _
 refine qb (qb (wpAny_seqItems new rfl (qc ?_)));refine qb (wpAny_updateSeq new rfl ?_);refine qb (wpAny_letGo ?_);refine R_3 (A:=X.A.in1) (H:=H) C hh out .none hn go stop (λ s' H' vs' acc' c' I' hS' hL' rv hl hw'=>?_) (up _ _ hz) (λ e=>Nat.lt_irrefl _ (by rw[<- e] at hz;exact qm hz)) (I.kept (t':=s.toks) up) (λ b hb=>?_) (C.keep _ _ _ s.heap.objs.size ht out (λ o q=>absurd (qm q) (Nat.lt_irrefl _)) λ b o _ q=>up b o q) e2 hw
 ·refine⟨rfl,.ref s.heap.objs.size,_,I'.track (o:=.lst vs') (ag3 fS hS') I.sz ⟨by omega,acc',c',rv,hL'⟩,rfl,fin H' vs' _ hS' hl hw'⟩
 ·rcases qw hb with rfl | hb
  ·exact fS
  ·exact hf b hb
theorem M_4 {A:Around}{E:Value->Shared->Prop}{Qc:List Value->Shared->Prop} (hA:A.handled=none) (C:Coll X J fp it tn) (hn:n<=1000) (go:∀ i H vs,i<n->W i H vs->J.go i H/\∀ x H',J.yld i H x H'->W (i+1) H' (vs++[x])) (stop:∀ H vs,W n H vs->J.stop n H)
  (hz:s.heap.get? it=some (zO f0 f1 TI TO)) (I:Inv X pins σ H s) (hf:∀ b∈fp,FpOk X pins H b) (ht:tn 0 s.heap) (hw:W 0 H [])
  (fin:∀ s' H' vs' acc',Inv X pins σ H' s'->Vals vs' acc'->vs'.length=n->W n H' vs'->Qc acc' s'):wpAny (model X.prog X.w) A (collect (.ref it)) Qc E s:=by
 unfold collect;refine qb (wpAny_runValue (codeAny_builtin PySem.F.entry_proto_collect ?_));rw[Around.under_plainId PySem.F.plain_proto_collect _];show wpAny _ A.in1 (newList [] >>= λ z=>again (.builtin "list.__iadd__" ⟨[z,.ref it],[]⟩)) _ _ s
 refine qb (wpAny_newObj_type (qc ⟨plainId_quiet PySem.F.plain_list_iadd _,codeAny_builtin PySem.F.entry_list_iadd ?_⟩));rw[Around.under_plainId PySem.F.plain_list_iadd _];have l0:(s.heap.push {cls:=.type "list",data:=.seq ([]:List Value).toArray}).get? s.heap.objs.size=some (lO [] 0):=qk _ rfl;have up:∀ b o,s.heap.get? b=some o → (s.heap.push {cls:=.type "list",data:=.seq ([]:List Value).toArray}).get? b=some o:=λ b o e=>qf _ e
 have out:s.heap.objs.size∉fp:=λ z=>Nat.lt_irrefl _ (C.obj _ _ ht _ z)
 have fS:FpOk X pins H s.heap.objs.size:=I.fpOk (qj _) (I.hok.fresh (qj _));show wpAny _ A.in1 (Builtin.List.listExtendWith (.ref s.heap.objs.size) (.ref it) (.ref s.heap.objs.size)) _ _ _;have key:=R_3 (A:=A) (H:=H) (s:={s with heap:=s.heap.push {cls:=.type "list",data:=.seq ([]:List Value).toArray}}) (R:=λ (q:Result) (s':Shared)=>q=.ok (.ret (.ref s.heap.objs.size)) ∧ ∃ H' vs' acc' c',Inv X pins σ H' s' ∧ s'.heap.get? s.heap.objs.size=some (lO acc' c') ∧ Vals vs' acc' ∧ vs'.length=n ∧ W n H' vs')
  C hA out (.ref s.heap.objs.size) hn go stop (λ s' H' vs' acc' c' I' hS' hL' rv hl hw'=>⟨rfl,H',vs',acc',c',I',hL',rv,hl,hw'⟩) (up _ _ hz) (λ e=>Nat.lt_irrefl _ (by rw[<- e] at hz;exact qm hz)) (I.kept (t':=s.toks) up) (λ b hb=>by
   rcases qw hb with rfl | hb
   ·exact fS
   ·exact hf b hb) (C.keep _ _ _ s.heap.objs.size ht out (λ o q=>absurd (qm q) (Nat.lt_irrefl _)) λ b o _ q=>up b o q) l0 hw
 refine wpAny_mono key (λ f s' x=>?_) λ e s' x=>?_
 ·cases f with
  |done f =>
   obtain⟨e,H',vs',acc',c',I',hL',rv,hl,hw'⟩:=x;cases e;show wpAny _ A (load s.heap.objs.size >>= _) _ _ _;exact qb (wpAny_load hL' (qc (fin s' H' vs' acc' I' rv hl hw')))
  |again c₁ =>
   refine⟨x.1,codeAny_mono x.2 λ q s₂ y=>?_⟩
   obtain⟨rfl,H',vs',acc',c',I',hL',rv,hl,hw'⟩:=y;show wpAny _ A (load s.heap.objs.size >>= _) _ _ _;exact qb (wpAny_load hL' (qc (fin s₂ H' vs' acc' I' rv hl hw')))
 ·cases x.1
end
section
variable {X:Cx}{J:It}{fp:List Addr}{it:Addr}{tn:Nat->Heap->Prop}{pins:List (Addr×Obj)}{σ:L2.St}{n:Nat}{W:Nat->Hp->List V->Prop}{s:Shared}{H:Hp}{f0:Value}{f1:Bool}{TI TO:Addr}
theorem Z_5 (hc:X.calm=true) (C:Coll X J fp it tn) (hn:n<=1000) (go:∀ i H vs,i<n->W i H vs->J.go i H/\∀ x H',J.yld i H x H'->W (i+1) H' (vs++[x])) (stop:∀ H vs,W n H vs->J.stop n H)
  (hz:s.heap.get? it=some (zO f0 f1 TI TO)) (I:Inv X pins σ H s) (hf:∀ b∈fp,FpOk X pins H b) (ht:tn 0 s.heap) (hw:W 0 H []) {Q:VK}
  (fin:∀ H' vs' p,H' p=none->vs'.length=n->W n H' vs'->Q (.ref p) (upd H' p (.tup vs'))) :
  wpAny (model X.prog X.w) X.A (call (.type "tuple") [.ref it]) (EP X pins σ Q) X.xe s:=by
 have hh:X.A.handled=none:=I.ok.hd hc;have big:(1001:Nat)<=sizeLine:=by decide
 have ty:s.TypeIs (.ref it) "zip":=⟨_,hz,rfl⟩;refine callType_codes (Q₁:=λ o s1=>s1.TypeIs o "tuple" ∧ EP X pins σ Q o s1) PySem.F.called_tuple (PySem.F.typeCall_tuple_1 _) PySem.F.entry_object_init (codeAny_of_tree ?_) λ o s1 h1=>⟨h1.1,PySem.F.args_object_init_2 o _,object_init_meets PySem.F.called_tuple.init.lookup PySem.F.called_tuple.made (by decide) X.prog X.w X.A.in1 _ s1 ⟨h1.1,rfl,h1.2⟩⟩
 show wpAny _ X.A.in1.in1 (do checkBuiltinCall "tuple.__new__" ⟨[.type "tuple",.ref it],[]⟩;again (.builtin "tuple.__new__" ⟨[.type "tuple",.ref it],[]⟩)) _ _ s;refine qb (wpAny_of_eq (PySem.F.newCall_tuple_1 _) (qc ⟨plainId_quiet PySem.F.plain_tuple_new _,codeAny_builtin PySem.F.entry_tuple_new ?_⟩));rw[Around.under_plainId PySem.F.plain_tuple_new _];have q1:=sub_tuple_self;have q2:=init_tuple_lookup;have q3:=madeHere_tuple
 wp_walk using wpAny_typeOf ty,M_4 (A:=X.A.in1.in1) hh C hn go stop hz I hf ht hw
 intro s' H' vs' acc' I' rv hl hw';have len:acc'.length=n:=by rw[<- rv.length];exact hl
 show wpAny _ _ (Builtin.Tuple.tupleExact acc'.toArray >>= λ v=>ret v) _ _ _
 unfold Builtin.Tuple.tupleExact;refine qb (wpAny_newObj_type (qc ?_) (by show acc'.toArray.size<=sizeLine;rw[List.size_toArray];omega))
 refine⟨⟨_,qk _ rfl,rfl⟩,.ref s'.heap.objs.size,_,I'.laid (t':=s'.toks) (o:=.tup vs') (λ b o q=>qf _ q) (qj _) ⟨by omega,acc',rv,IsTuN.new _ _⟩,rfl,fin H' vs' _ (I'.hok.fresh (qj _)) hl hw'⟩
end
def SqB (T:Bool) (K:Frag) (H:Hp) (a:Addr) (xs:List V):Prop:=if T=true then SqT K H a xs else SqL K H a xs
def bi7 (T:Bool) (h:Heap) (a:Addr) (its:Array Value):Prop:=if T=true then IsTup h a its else h.IsList a its
def IterB (T:Bool) (h:Heap) (i a:Addr) (k:Nat):Prop:=if T=true then IsTupIter h i a k else h.IsListIter i a k
theorem SqB.inv {T:Bool}{X:Cx}{pins:List (Addr×Obj)}{σ:L2.St}{H:Hp}{s:Shared}{a:Addr}{xs:List V} (I:Inv X pins σ H s) (h:SqB T X.K H a xs):∃ its:List Value,Vals xs its/\bi7 T s.heap a its.toArray/\xs.length<=sizeLine:=by
 cases T with
 |true =>
  obtain⟨its,r,p,z⟩:=I.tuple h;exact⟨its,r,p,z⟩
 |false =>
  obtain⟨its,r,p,z⟩:=I.list h;exact⟨its,r,p.isList,z⟩
theorem SqB.inj {T:Bool}{X:Cx}{pins:List (Addr×Obj)}{σ:L2.St}{H:Hp}{s:Shared}{a:Addr}{xs ys:List V} (I:Inv X pins σ H s) (h:SqB T X.K H a xs) (h':SqB T X.K H a ys):xs=ys:=by
 cases T with
 |true=>exact I.tuple_inj h h'
 |false=>exact I.list_inj h h'
theorem SqB.same {T:Bool}{K:Frag}{H H':Hp}{a:Addr}{xs:List V} (s:Same H H') (h:SqB T K H a xs):SqB T K H' a xs:=by
 cases T with
 |true=>exact Same.seqT s h
 |false=>exact Same.seq s h
def PB (T:Bool) (i a:Addr) (its:Array Value) (k:Nat) (h:Heap):Prop:=IterB T h i a k/\bi7 T h a its
theorem al2 {prog:Program}{w:World} (T:Bool) (i a:Addr) (ne:a≠i) (its:Array Value):Nx prog w i [i,a] (λ k=>its[k]?) (PB T i a its):=by
 cases T with
 |true=>exact bb5 i a ne its
 |false=>exact aK1 i a ne its
theorem IterB.at {T:Bool}{h h':Heap}{i a:Addr}{k:Nat} (x:IterB T h i a k) (q:∀ o,h.get? i=some o->h'.get? i=some o):IterB T h' i a k:=by
 cases T with
 |true=>obtain⟨o,e,r⟩:=x;exact⟨o,q o e,r⟩
 |false=>exact Heap.IsListIter.at x q
theorem IterB.there {T:Bool}{h:Heap}{i a:Addr}{k:Nat} (x:IterB T h i a k):∃ o vs,h.get? i=some o/\o.data=.fields vs:=by
 cases T with
 |true=>obtain⟨o,e,_,d⟩:=x;exact⟨o,_,e,d⟩
 |false=>obtain⟨o,e,_,d⟩:=x;exact⟨o,_,e,d⟩
def Itz (T:Bool) (K:Frag) (a b:Addr):It :=
  ⟨λ i H=>∃ xs ys,SqB T K H a xs/\SqB T K H b ys/\i<xs.length/\i<ys.length,
   λ i H x H'=>∃ v w p,(∀ xs,SqB T K H a xs->xs[i]?=some v)/\(∀ ys,SqB T K H b ys->ys[i]?=some w)/\x=.ref p/\H p=none/\H'=upd H p (.tup [v,w]),
   λ i H=>∃ xs ys,SqB T K H a xs/\SqB T K H b ys/\(xs.length<=i\/ys.length<=i)⟩
structure Zp (z TI TO i1 i2 a b:Addr):Prop where
 ap:Za z TI TO i1 i2 [i1,a] [i2,b]
 n1:a≠i1
 n2:b≠i2
def tZ (T:Bool) (z TI TO i1 i2 a b:Addr) (i:Nat) (f0:Value) (f1:Bool) (h:Heap):Prop :=
 h.get? z=some (zO f0 f1 TI TO)/\IsPair h TI (.ref i1) (.ref i2)/\(∃ u v,IsPair h TO u v)/\IterB T h i1 a i/\IterB T h i2 b i
theorem tZ.keep {T:Bool}{z TI TO i1 i2 a b:Addr}{i:Nat}{f0:Value}{f1:Bool}{h h':Heap} (x:tZ T z TI TO i1 i2 a b i f0 f1 h) (k:∀ c∈[z,TI,TO,i1,i2],∀ o,h.get? c=some o->h'.get? c=some o):tZ T z TI TO i1 i2 a b i f0 f1 h':=by
 obtain⟨x1,x2,⟨u,v,x3⟩,x4,x5⟩:=x;exact⟨k z (by simp) _ x1,k TI (by simp) _ x2,⟨u,v,k TO (by simp) _ x3⟩,x4.at λ o e=>k i1 (by simp) o e,x5.at λ o e=>k i2 (by simp) o e⟩
theorem tZ.obj {T:Bool}{z TI TO i1 i2 a b:Addr}{i:Nat}{f0:Value}{f1:Bool}{h:Heap} (x:tZ T z TI TO i1 i2 a b i f0 f1 h):∀ c∈[z,TI,TO,i1,i2],∃ o,h.get? c=some o ∧ (∀ v,o.data≠.cell v) ∧ o.cls≠.type "list":=by
 obtain⟨x1,x2,⟨u,v,x3⟩,x4,x5⟩:=x;intro c hc
 have it:∀ {i a:Addr}{k:Nat},IterB T h i a k → ∃ o,h.get? i=some o ∧ (∀ v,o.data≠.cell v) ∧ o.cls≠.type "list":=λ {i a k} y=>by
  cases T with
  |true=>obtain⟨o,e,q,d⟩:=y;exact⟨o,e,(λ v z=>by rw[d] at z;cases z),by rw[q];decide⟩
  |false=>obtain⟨o,e,q,d⟩:=y;exact⟨o,e,(λ v z=>by rw[d] at z;cases z),by rw[q];decide⟩
 simp only[List.mem_cons,List.not_mem_nil,or_false] at hc
 rcases hc with rfl | rfl | rfl | rfl | rfl
 ·exact⟨_,x1,(λ v z=>by cases z),show (Value.type "zip")≠Value.type "list" by decide⟩
 ·exact⟨_,x2,(λ v z=>by cases z),show (Value.type "tuple")≠Value.type "list" by decide⟩
 ·exact⟨_,x3,(λ v z=>by cases z),show (Value.type "tuple")≠Value.type "list" by decide⟩
 ·exact it x4
 ·exact it x5
section
variable {X:Cx}{z TI TO i1 i2 a b:Addr}{T:Bool}
theorem tZ.zs {i:Nat}{f0:Value}{f1:Bool}{h:Heap}{u v:Array Value} (x:tZ T z TI TO i1 i2 a b i f0 f1 h) (h1:bi7 T h a u) (h2:bi7 T h b v):Zs z TI TO i1 i2 (PB T i1 a u) (PB T i2 b v) i i f0 f1 h :=
 ⟨x.1,x.2.1,x.2.2.1,⟨x.2.2.2.1,h1⟩,⟨x.2.2.2.2,h2⟩⟩
theorem Zs.tz {i:Nat}{f0:Value}{f1:Bool}{h:Heap}{u v:Array Value} (x:Zs z TI TO i1 i2 (PB T i1 a u) (PB T i2 b v) i i f0 f1 h):tZ T z TI TO i1 i2 a b i f0 f1 h:=⟨x.hz,x.ti,x.to,x.p1.1,x.p2.1⟩
theorem az1 {pins:List (Addr×Obj)}{s:Shared}{σ:L2.St}{H:Hp}{i:Nat}{f0:Value}{f1:Bool}{h1:Heap}{x y:Value}{v w:V} (I:Inv X pins σ H s) (hf:∀ c∈[z,TI,TO,i1,i2],FpOk X pins H c) (st:tZ T z TI TO i1 i2 a b i f0 f1 s.heap) (rx:RelV v x) (ry:RelV w y)
  (pr:IsPair h1 s.heap.objs.size x y) (k:∀ c o,c∉[z,TO,i1,i2]->s.heap.get? c=some o->h1.get? c=some o):Inv X pins σ (upd H s.heap.objs.size (.tup [v,w])) {s with heap:=h1}/\∀ c∈[z,TI,TO,i1,i2],FpOk X pins (upd H s.heap.objs.size (.tup [v,w])) c:=by
 have lt:∀ c∈[z,TI,TO,i1,i2],c<s.heap.objs.size:=λ c hc=>let ⟨_,e,_⟩:=st.obj c hc;qm e
 have fp:∀ c∈[z,TI,TO,i1,i2],FpOk X pins (upd H s.heap.objs.size (.tup [v,w])) c:=λ c hc=>(hf c hc).upd (qv (lt c hc))
 have I0:Inv X pins σ (upd H s.heap.objs.size (.tup [v,w])) {s with heap:=s.heap.push {cls:=.type "tuple",data:=.seq #[x,y]}} :=
  I.laid (t':=s.toks) (λ c o q=>qf _ q) (qj _) (show ObjOk X.prog X.w _ _ _ (.tup [v,w]) from ⟨by show (2:Nat)<=sizeLine;decide,[x,y],.cons rx (.cons ry .nil),IsTuN.new _ _⟩)
 refine⟨Inv.turnedL (s:={s with heap:=s.heap.push {cls:=.type "tuple",data:=.seq #[x,y]}}) (t':=s.toks) (fs:=[z,TO,i1,i2]) I0 (λ c q hc e=>?_) λ c hc=>fp c (by
  simp only[List.mem_cons,List.not_mem_nil,or_false] at hc ⊢
  rcases hc with e | e | e | e
  ·exact .inl e
  ·exact .inr (.inr (.inl e))
  ·exact .inr (.inr (.inr (.inl e)))
  ·exact .inr (.inr (.inr (.inr e)))),fp⟩
 rcases Heap.get?_push_cases e with ⟨z1,z2⟩ | e
 ·rw[z1,z2];exact pr
 ·exact k c q hc e
def tC (T:Bool) (z TI TO i1 i2 a b:Addr) (i:Nat) (h:Heap):Prop:=∃ f0 f1,tZ T z TI TO i1 i2 a b i f0 f1 h/\(f0=.none\/∃ (T0:Addr) (u v:Value),f0=rawInt T0/\IsPair h T0 u v)
theorem S_4 (D:Zp z TI TO i1 i2 a b):Coll X (Itz T X.K a b) [z,TI,TO,i1,i2] z (tC T z TI TO i1 i2 a b) where
 obj:=λ i h ⟨f0,f1,st,_⟩ c hc=>let ⟨_,e,_⟩:=st.obj c hc;qm e
 keep:=λ i h h' S hh0_ hS hl k=>by
  obtain⟨f0,f1,st,fr⟩:=hh0_;refine⟨f0,f1,st.keep λ c hc o e=>k c o (λ q=>hS (q▸hc)) e,?_⟩
  rcases fr with e | ⟨T0,u,v,e,p⟩
  ·exact .inl e
  ·refine .inr ⟨T0,u,v,e,k T0 _ (λ q=>?_) p⟩
   exact absurd (hl _ (q▸p)) (show ¬ (Value.type "tuple"=Value.type "list") by decide)
 item:=λ A i pins s σ H E hh I hf hh0_ hh1_=>by
  obtain⟨f0,f1,st,fr⟩:=hh0_;obtain⟨xs,ys,q1,q2,l1,l2⟩:=hh1_;obtain⟨us,r1,p1,_⟩:=q1.inv I;obtain⟨vs,r2,p2,_⟩:=q2.inv I;have e1:xs[i]?=some xs[i]:=List.getElem?_eq_getElem l1;have e2:ys[i]?=some ys[i]:=List.getElem?_eq_getElem l2;obtain⟨x,hx,rx⟩:=r1.get e1;obtain⟨y,hy,ry⟩:=r2.get e2;have hp:H s.heap.objs.size=none:=I.hok.fresh (qj _);have done:∀ (h1:Heap) (g0:Value) (g1:Bool),tZ T z TI TO i1 i2 a b (i+1) g0 g1 h1->(∃ (T0:Addr) (u v:Value),g0=rawInt T0/\IsPair h1 T0 u v)->IsPair h1 s.heap.objs.size x y->(∀ c o,c∉[z,TO,i1,i2]->s.heap.get? c=some o->h1.get? c=some o) ->
    ∃ u x' H',some (Value.ref s.heap.objs.size)=some u/\Inv X pins σ H' {s with heap:=h1}/\RelV x' u/\(Itz T X.K a b).yld i H x' H'/\tC T z TI TO i1 i2 a b (i+1) h1/\(∀ c,s.heap.objs.size<=c\/H c≠none\/H' c=none)/\∀ c o,c∉[z,TI,TO,i1,i2]->s.heap.get? c=some o->h1.get? c=some o:=λ h1 g0 g1 t1 al pr k=>by
   obtain⟨I1,_⟩:=az1 I hf st rx ry pr k
   refine⟨_,.ref s.heap.objs.size,_,rfl,I1,rfl,⟨xs[i],ys[i],_,λ zs hz=>by rw[SqB.inj I hz q1];exact e1,λ zs hz=>by rw[SqB.inj I hz q2];exact e2,rfl,hp,rfl⟩,⟨g0,g1,t1,.inr al⟩,λ c=>?_,λ c o hc e=>k c o (λ m=>hc (by
    simp only[List.mem_cons,List.not_mem_nil,or_false] at m ⊢
    rcases m with e | e | e | e
    ·exact .inl e
    ·exact .inr (.inr (.inl e))
    ·exact .inr (.inr (.inr (.inl e)))
    ·exact .inr (.inr (.inr (.inr e))))) e⟩
   by_cases hc:c=s.heap.objs.size
   ·exact .inl (Nat.le_of_eq hc.symm)
   ·cases hH:H c with
    |none=>exact .inr (.inr (by rw[a_6 hc];exact hH))
    |some u=>exact .inr (.inl (by simp))
  rcases fr with e | ⟨T0,u,v,e,p⟩
  ·subst e
   exact F_2 (al2 T i1 a D.n1 us.toArray) (al2 T i2 b D.n2 vs.toArray) D.ap (st.zs p1 p2) (by simpa using hx) (by simpa using hy) λ h1 Z pr _ k=>done h1 _ _ Z.tz ⟨_,x,y,rfl,pr⟩ pr k
  ·subst e
   have far:T0∉[z,TO,i1,i2]\/T0=TO:=by
    by_cases h:T0=TO
    ·exact .inr h
    ·refine .inl λ m=>?_
     simp only[List.mem_cons,List.not_mem_nil,or_false] at m;obtain⟨o1,ts,it1,d1⟩:=st.2.2.2.1.there;obtain⟨o2,ts2,it2,d2⟩:=st.2.2.2.2.there;have p':s.heap.get? T0=some {cls:=.type "tuple",data:=.seq #[u,v]}:=p
     rcases m with q | q | q | q
     ·rw[q,st.1] at p'
      exact absurd (congrArg Obj.cls (qi p')) (show ¬ (Value.type "zip"=Value.type "tuple") by decide)
     ·exact h q
     ·rw[q,it1] at p';cases p';cases d1
     ·rw[q,it2] at p';cases p';cases d2
   refine ad2 (al2 T i1 a D.n1 us.toArray) (al2 T i2 b D.n2 vs.toArray) D.ap (st.zs p1 p2) p (by simpa using hx) (by simpa using hy) λ h1 Z pr _ k=>done h1 _ _ Z.tz ?_ pr k
   rcases far with h | h
   ·exact⟨T0,u,v,rfl,k T0 _ h p⟩
   ·subst h
    obtain⟨u',v',q⟩:=Z.to;exact⟨_,u',v',rfl,q⟩
 done:=λ A i pins s σ H E hh I hf hh0_ hh1_=>by
  obtain⟨f0,f1,st,fr⟩:=hh0_;obtain⟨xs,ys,q1,q2,l⟩:=hh1_;obtain⟨us,r1,p1,_⟩:=q1.inv I;obtain⟨vs,r2,p2,_⟩:=q2.inv I;have n1:=r1.length;have n2:=r2.length
  have five:∀ {c:Addr},c∈[z,TO,i1,i2]->c∈[z,TI,TO,i1,i2]:=λ {c} m=>by
   simp only[List.mem_cons,List.not_mem_nil,or_false] at m ⊢
   rcases m with e | e | e | e
   ·exact .inl e
   ·exact .inr (.inr (.inl e))
   ·exact .inr (.inr (.inr (.inl e)))
   ·exact .inr (.inr (.inr (.inr e)))
  refine F_1 hh (al2 T i1 a D.n1 us.toArray) (al2 T i2 b D.n2 vs.toArray) D.ap (st.zs p1 p2) ?_ ?_ λ h1 k=>⟨rfl,Inv.turnedL (t':=s.toks) (fs:=[z,TO,i1,i2]) I k λ c hc=>hf c (five hc),λ c o hc e=>k c o (λ m=>hc (five m)) e⟩
  ·rcases fr with e | ⟨T0,u,v,e,p⟩
   ·exact .inl e
   ·exact .inr ⟨T0,_,e,p⟩
  ·rcases l with l | l
   ·exact .inl (by simp;omega)
   ·exact .inr (by simp;omega)
end
theorem aU6 {n l r:Addr} (h1:l<n) (h2:r<n):Zp (n+4) (n+2) (n+3) n (n+1) l r:=by
 have lt:∀ {c:Addr} (k:Nat),c<n->c≠n+k:=λ {c} k h e=>by
  have:=qt h (Nat.le_add_right n k);rw[<- e] at this;exact Nat.lt_irrefl _ this
 refine⟨⟨?_,?_,?_,?_,?_,λ c hc=>?_,λ c hc=>?_⟩,λ e=>?_,lt 1 h2⟩
 ·exact qv (Nat.add_lt_add_left (by decide) n)
 ·exact qv (Nat.add_lt_add_left (by decide) n)
 ·exact qv (Nat.add_lt_add_left (by decide) n)
 ·exact Nat.ne_of_gt (Nat.lt_add_of_pos_right (by decide))
 ·exact Nat.ne_of_gt (Nat.add_lt_add_left (by decide) n)
 ·rcases qw hc with rfl | hc
  ·exact⟨qv (Nat.lt_add_of_pos_right (by decide)),qv (Nat.lt_add_of_pos_right (by decide)),qv (Nat.lt_add_of_pos_right (by decide))⟩
  ·rw[List.mem_singleton.mp hc]
   exact⟨lt 4 h1,lt 3 h1,lt 1 h1⟩
 ·rcases qw hc with rfl | hc
  ·exact⟨qv (Nat.add_lt_add_left (by decide) n),qv (Nat.add_lt_add_left (by decide) n),Nat.ne_of_gt (Nat.lt_add_of_pos_right (by decide))⟩
  ·rw[List.mem_singleton.mp hc]
   exact⟨lt 4 h2,lt 3 h2,lt 0 h2⟩
 ·exact lt 0 h1 e
section
variable {X:Cx}{pins:List (Addr×Obj)}{σ:L2.St}{H:Hp}{s:Shared}{a b:Expr}{ta:TA}{p pos:Pos}
theorem B_9 (T:Bool) {QQ:Addr → Addr → List V → List V → Hp → Prop}{Φ:Value → Shared → Prop} (hg:Gl X "zip") (hm:X.mg "zip"=none) (I:Inv X pins σ H s) (ha:PA X [a,b] ta)
  (h:ta σ H λ vs H1=>∃ l r xs ys,vs=[.ref l,.ref r]/\SqB T X.K H1 l xs/\SqB T X.K H1 r ys/\QQ l r xs ys H1)
  (fin:∀ s1 H1 z TI TO i1 i2 l r xs ys,Inv X pins σ H1 s1->Zp z TI TO i1 i2 l r->tZ T z TI TO i1 i2 l r 0 .none false s1.heap->(∀ c∈[z,TI,TO,i1,i2],FpOk X pins H1 c)->SqB T X.K H1 l xs->SqB T X.K H1 r ys->QQ l r xs ys H1->Φ (.ref z) s1)
  (hs:starEach [a,b] X.env=[(false,eval a X.env),(false,eval b X.env)]:=by rfl) (hs2:starEach [b] X.env=[(false,eval b X.env)]:=by rfl) :
  wpAny (model X.prog X.w) X.A (eval (.Call (.Name "zip" p) [a,b] [] pos) X.env) Φ X.xe s:=by
 refine wpAny_Call_Name_kw (n_3 I hg hm (u:=.type "zip") (by decide +kernel) (PyProof.Rows.callWith_type1 (thn (ha pos pins s σ H _ I h) λ us s1=>ex5 λ vs H1 I1 r1 q1=>?_) (by rw[hs,hs2]) (by rw[hs2];rfl)))
 obtain⟨l,r,xs,ys,rfl,q1,q2,qq⟩:=q1;cases r1 with
 |cons r1 rr =>
  cases rr with
  |cons r2 rr =>
   cases rr;cases r1;cases r2;obtain⟨us,v1,p1,_⟩:=q1.inv I1;obtain⟨vs,v2,p2,_⟩:=q2.inv I1
   have lt:∀ {c:Addr}{u:Array Value},bi7 T s1.heap c u->c<s1.heap.objs.size:=λ {c u} q=>by
    cases T with
    |true=>obtain⟨o,e,_⟩:=q;exact qm e
    |false=>obtain⟨o,e,_⟩:=q;exact qm e
   have D:=aU6 (lt p1) (lt p2)
   have fp:∀ c∈[s1.heap.objs.size+4,s1.heap.objs.size+2,s1.heap.objs.size+3,s1.heap.objs.size,s1.heap.objs.size+1],FpOk X pins H1 c:=λ c hc=>by
    have le:s1.heap.objs.size<=c:=by
     simp only[List.mem_cons,List.not_mem_nil,or_false] at hc
     rcases hc with rfl | rfl | rfl | rfl | rfl
     ·exact Nat.le_add_right _ _
     ·exact Nat.le_add_right _ _
     ·exact Nat.le_add_right _ _
     ·exact qj _
     ·exact Nat.le_add_right _ _
    exact I1.fpOk le (I1.hok.fresh le)
   cases T with
   |true=>exact H_1 p1 p2 λ h' z1 z2 z3 z4 z5 k=>fin {s1 with heap:=h'} H1 _ _ _ _ _ l r xs ys (I1.kept (t':=s1.toks) k) D ⟨z1,z2,⟨_,_,z3⟩,z4,z5⟩ fp q1 q2 qq
   |false=>exact call_zip_2 p1 p2 λ h' z1 z2 z3 z4 z5 _ k=>fin {s1 with heap:=h'} H1 _ _ _ _ _ l r xs ys (I1.kept (t':=s1.toks) k) D ⟨z1,z2,⟨_,_,z3⟩,z4,z5⟩ fp q1 q2 qq
end
theorem y_8 (xs ys:List D):(zpT xs ys).length=min xs.length ys.length:=by unfold zpT;rw[List.length_map,List.length_zip]
theorem Y_2 {xs ys:List D}{i:Nat}{d e:D} (h1:xs[i]?=some d) (h2:ys[i]?=some e):(zpT xs ys)[i]?=some (.tup [d,e]):=by
 unfold zpT;have:=List.getElem?_zip_eq_some (l₁:=xs) (l₂:=ys) (z:=(d,e)) (i:=i);rw[List.getElem?_map,this.mpr ⟨h1,h2⟩];rfl
def Wz (K:Frag) (H0 H:Hp) (xs ys:List D) (i:Nat) (H':Hp) (vs:List V):Prop:=∃ H0',Step H0 H H0' H'/\Reps K H0' ((zpT xs ys).take i) vs
theorem aV6 {K:Frag}{T:Bool}{H0 H:Hp}{xs ys:List D}{us vs:List V}{l r:Addr} (sm:Same H0 H) (q1:SqB T K H l us) (q2:SqB T K H r vs) (r1:Reps K H0 xs us) (r2:Reps K H0 ys vs) (i:Nat) (H':Hp) (ws:List V) (hi:i<min xs.length ys.length) (hw:Wz K H0 H xs ys i H' ws) :
  (Itz T K l r).go i H'/\∀ x H'',(Itz T K l r).yld i H' x H''->Wz K H0 H xs ys (i+1) H'' (ws++[x]):=by
 obtain⟨H0',S,rp⟩:=hw;have g1:=q1.same S.s;have g2:=q2.same S.s;have n1:=r1.length;have n2:=r2.length;refine⟨⟨us,vs,g1,g2,by omega,by omega⟩,λ x H'' hh0_=>?_⟩
 obtain⟨v,w,p,e1,e2,ex,hp,eH⟩:=hh0_;subst ex eH;have S2:=Step.alloc (o:=.tup [v,w]) S.s' hp;have d1:xs[i]?=some xs[i]:=List.getElem?_eq_getElem (by omega)
 have d2:ys[i]?=some ys[i]:=List.getElem?_eq_getElem (by omega)
 obtain⟨v',e3,rv⟩:=r1.get d1;obtain⟨w',e4,rw'⟩:=r2.get d2;have e1:=e1 us g1;have e2:=e2 vs g2;rw[e3] at e1;cases e1;rw[e4] at e2;cases e2;refine⟨_,S.trans S2,?_⟩;rw[List.take_succ,Y_2 d1 d2];refine (Reps.mono S2.s0 _ rp).app (Reps.one ?_);unfold Rep;exact⟨p,_,rfl,.inl (.inl a_3),Reps.cons (Rep.mono (S.s0.trans S2.s0) _ rv) (Reps.one (Rep.mono (S.s0.trans S2.s0) _ rw'))⟩
theorem Y_8 {K:Frag}{T:Bool}{H0 H:Hp}{xs ys:List D}{us vs:List V}{l r:Addr} (q1:SqB T K H l us) (q2:SqB T K H r vs) (r1:Reps K H0 xs us) (r2:Reps K H0 ys vs) (H':Hp) (ws:List V) (hw:Wz K H0 H xs ys (min xs.length ys.length) H' ws):(Itz T K l r).stop (min xs.length ys.length) H':=by
 obtain⟨H0',S,_⟩:=hw;have n1:=r1.length;have n2:=r2.length;exact⟨us,vs,q1.same S.s,q2.same S.s,by omega⟩
section
variable {X:Cx}{a b:Expr}{F G:FE}{p p2 pos pos2:Pos}
theorem y_9 {K:Frag}{T:Bool}{c:FC}{H0 H:Hp}{ρ ρ1 ρ':En}{σ:L2.St}{xs ys:List D} (R:RS K c H0 H ρ σ) (h1:F ρ=some ((if T=true then .tup xs else .lst xs),ρ1)) (h2:G ρ1=some ((if T=true then .tup ys else .lst ys),ρ')) :
  tAa K (aC F (aC G aN)) σ H λ vs H1=>∃ l r us ws,vs=[.ref l,.ref r]/\SqB T K H1 l us/\SqB T K H1 r ws/\∃ Hd,Same H0 Hd/\RS K c Hd H1 ρ' σ/\Reps K Hd xs us/\Reps K Hd ys ws/\SqB T K Hd l us/\SqB T K Hd r ws:=by
 refine⟨c,H0,ρ,[if T=true then .tup xs else .lst xs,if T=true then .tup ys else .lst ys],ρ',R,by unfold aC;rw[h1];show bnd (bnd (G ρ1) _) _=_;rw[h2];rfl,λ vs H1 Hh s1 R1 r1=>?_⟩
 unfold Reps at r1;obtain⟨v,r,rfl,rv,r1⟩:=r1;obtain⟨u,rfl,ru⟩:=Reps.v1 r1;cases T with
 |true =>
  unfold Rep at rv ru;obtain⟨l,us,rfl,q1,t1⟩:=rv;obtain⟨m,ws,rfl,q2,t2⟩:=ru;exact⟨l,m,us,ws,rfl,Same.seqT R1.same q1,Same.seqT R1.same q2,H1,s1,R1,t1,t2,q1,q2⟩
 |false =>
  unfold Rep at rv ru;obtain⟨l,us,rfl,q1,t1⟩:=rv;obtain⟨m,ws,rfl,q2,t2⟩:=ru;exact⟨l,m,us,ws,rfl,Same.seq R1.same q1,Same.seq R1.same q2,H1,s1,R1,t1,t2,q1,q2⟩
theorem ay1 (xs ys:List D):(zpT xs ys).take (min xs.length ys.length)=zpT xs ys:=List.take_of_length_le (by rw[y_8];exact qj _)
theorem an5 (hm:X.mg "list"=none) (hz:X.mg "zip"=none) (hc:X.calm=true) (ha:XE X a F) (hb:XE X b G) (hg:Gl X "list":=by rfl) (hgz:Gl X "zip":=by rfl) (hs:starEach [a,b] X.env=[(false,eval a X.env),(false,eval b X.env)]:=by rfl) (hs1:starEach [b] X.env=[(false,eval b X.env)]:=by rfl)
  (hs2:starEach [.Call (.Name "zip" p2) [a,b] [] pos2] X.env=[(false,eval (.Call (.Name "zip" p2) [a,b] [] pos2) X.env)]:=by rfl):XE X (.Call (.Name "list" p) [.Call (.Name "zip" p2) [a,b] [] pos2] [] pos) (e2 aw0 F G):=by
 intro pins s σ H Q J ⟨c,H0,ρ,d,ρ',R,f,q⟩;obtain⟨x,ρ1,y,h1,h2,h3⟩:=q_7 f;unfold aw0 at h3
 split at h3
 ·rename_i xs ys
  obtain⟨hl,rfl⟩:=ifs h3;refine wpAny_Call_Name_kw (n_3 J hg hm (u:=.type "list") PyProof.Rows.boot_list (PyProof.Rows.callWith_type1 ?_ hs2 rfl));rw[hs2];refine Calls.spliced_cons (B_9 false hgz hz J (xaC ha (xaC hb xaN hs1) (by rw[hs,hs1])) (y_9 R h1 h2) (λ s1 H1 z TI TO i1 i2 l r us ws I1 D tz fp q1 q2 qq=>Calls.spliced_nil ?_) hs hs1)
  obtain⟨Hd,sd,Rd',r1,r2,_,_⟩:=qq;refine at5 hc (S_4 D) (n:=min xs.length ys.length) (W:=Wz X.K Hd H1 xs ys) (by omega) (aV6 Rd'.same q1 q2 r1 r2) (Y_8 q1 q2 r1 r2) tz.1 I1 fp ⟨.none,false,tz,.inl rfl⟩ ⟨Hd,Step.refl Rd'.same,by rw[List.take_zero];exact Reps.nil_⟩ λ H' vs' pp hp hl' hw=>?_
  obtain⟨H0',S,rp⟩:=hw;rw[ay1] at rp;have S2:=Step.alloc (o:=.lst vs') S.s' hp;refine q _ _ _ (sd.trans (S.trans S2).s0) (Rd'.after (S.trans S2)) ?_;unfold Rep;exact⟨pp,_,rfl,.inl (.inl a_3),Reps.mono S2.s0 _ rp⟩
 ·cases h3
theorem aD2 (hm:X.mg "tuple"=none) (hz:X.mg "zip"=none) (hc:X.calm=true) (ha:XE X a F) (hb:XE X b G) (hg:Gl X "tuple":=by rfl) (hgz:Gl X "zip":=by rfl) (hs:starEach [a,b] X.env=[(false,eval a X.env),(false,eval b X.env)]:=by rfl) (hs1:starEach [b] X.env=[(false,eval b X.env)]:=by rfl)
  (hs2:starEach [.Call (.Name "zip" p2) [a,b] [] pos2] X.env=[(false,eval (.Call (.Name "zip" p2) [a,b] [] pos2) X.env)]:=by rfl):XE X (.Call (.Name "tuple" p) [.Call (.Name "zip" p2) [a,b] [] pos2] [] pos) (e2 W_6 F G):=by
 intro pins s σ H Q J ⟨c,H0,ρ,d,ρ',R,f,q⟩;obtain⟨x,ρ1,y,h1,h2,h3⟩:=q_7 f;unfold W_6 at h3
 split at h3
 ·rename_i xs ys
  obtain⟨hl,rfl⟩:=ifs h3;refine wpAny_Call_Name_kw (n_3 J hg hm (u:=.type "tuple") PyProof.Rows.boot_tuple (PyProof.Rows.callWith_type1 ?_ hs2 rfl));rw[hs2];refine Calls.spliced_cons (B_9 true hgz hz J (xaC ha (xaC hb xaN hs1) (by rw[hs,hs1])) (y_9 R h1 h2) (λ s1 H1 z TI TO i1 i2 l r us ws I1 D tz fp q1 q2 qq=>Calls.spliced_nil ?_) hs hs1)
  obtain⟨Hd,sd,Rd',r1,r2,_,_⟩:=qq;refine Z_5 hc (S_4 D) (n:=min xs.length ys.length) (W:=Wz X.K Hd H1 xs ys) (by omega) (aV6 Rd'.same q1 q2 r1 r2) (Y_8 q1 q2 r1 r2) tz.1 I1 fp ⟨.none,false,tz,.inl rfl⟩ ⟨Hd,Step.refl Rd'.same,by rw[List.take_zero];exact Reps.nil_⟩ λ H' vs' pp hp hl' hw=>?_
  obtain⟨H0',S,rp⟩:=hw;rw[ay1] at rp;have S2:=Step.alloc (o:=.tup vs') S.s' hp;refine q _ _ _ (sd.trans (S.trans S2).s0) (Rd'.after (S.trans S2)) ?_;unfold Rep;exact⟨pp,_,rfl,.inl (.inl a_3),Reps.mono S2.s0 _ rp⟩
 ·cases h3
end
section
variable {X:Cx}{pos:Pos}{e:Expr}{F:FE}
theorem aB9 {α β:Type}{f:α->Option β}{g:α->β}:∀ l:List α,(∀ k∈l,f k=some (g k))->l.filterMap f=l.map g
 |[],_=>rfl
 |k::r,h=>by rw[List.filterMap_cons,h k List.mem_cons_self,List.map_cons,aB9 r λ x hx=>h x (List.mem_cons_of_mem _ hx)]
theorem ar1 (its:List Value):slicePick its.toArray none none (some (-1))=its.reverse.toArray:=by
 unfold slicePick
 have b:sliceBounds none none (some (-1)) its.toArray.size=((its.length:Int)-1,-1,-1):=by
  unfold sliceBounds;simp
 rw[b]
 have r:sliceRange ((its.length:Int)-1) (-1) (-1)=(List.range its.length).map λ k=>its.length-1-k:=by
  unfold sliceRange
  have c:(if (-1:Int) > 0 then (if (its.length:Int)-1 < -1 then (-1-((its.length:Int)-1)+-1-1) / -1 else 0) else (if (its.length:Int)-1 > -1 then ((its.length:Int)-1 - -1 - -1-1) / (- -1) else 0)).toNat=its.length:=by
   rw[if_neg (by decide)]
   by_cases h:(its.length:Int)-1 > -1
   ·rw[if_pos h,show (- -1:Int)=1 by decide,Int.ediv_one];omega
   ·rw[if_neg h];omega
  simp only[c];refine List.map_congr_left λ k hk=>?_
  have:=List.mem_range.mp hk;omega
 show ((sliceRange ((its.length:Int)-1) (-1) (-1)).filterMap (its.toArray[·]?)).toArray=_;rw[r,List.filterMap_map]
 congr 1
 have e:((List.range its.length).filterMap λ k=>its.toArray[its.length-1-k]?)=(List.range its.length).map λ k=>its.getD (its.length-1-k) Value.none:=by
  refine aB9 _ λ k hk=>?_
  have:=List.mem_range.mp hk;rw[List.getElem?_toArray,List.getElem?_eq_getElem (by omega)]
  simp[show its.length-1-k<its.length by omega]
 refine Eq.trans ?_ (e.trans ?_)
 ·rfl
 ·refine List.ext_getElem (by simp) λ i h1 h2=>?_
  have hi:i<its.length:=by simpa using h1
  rw[List.getElem_map,List.getElem_range,List.getElem_reverse];simp[show its.length-1-i<its.length by omega]
theorem ba1 {te:TE}{p2 p3 p4:Pos}{k:Nat} (he:PE X e te):PE X (.Subscript e (.Slice none none (some (.UnaryOp .USub (.Constant (.int 1) k p3) p4)) p2) pos) (λ σ H Q=>te σ H λ x H1=>∃ a xs,x=.ref a/\SqL X.K H1 a xs/\∀ p,H1 p=none->Q (.ref p) (upd H1 p (.lst xs.reverse))):=by
 intro pins s σ H Q I h;refine Subscript_ (thn (he pins s σ H _ I h) λ v s1 hh0_=>?_)
 obtain⟨x,H1,I1,r1,a,xs,ex,sq,q⟩:=hh0_;subst ex;cases r1;refine wpAny_Slice ?_;rw[evalPart_none];refine qc (qc ?_);rw[evalPart_some];refine thn (aZ9 (X:=X) ay6 (P_1 (i:=1) (j:=k) (pos:=p3)) (pos:=p4) pins s1 σ H1 (λ y H'=>y=.int (-1)/\H'=H1) I1 ⟨1,rfl,rfl,rfl⟩) λ st s2 hh0_=>?_
 obtain⟨y,H2,I2,ry,ey,eH⟩:=hh0_;subst ey eH;obtain⟨t,rfl⟩:=ry;have I4:Inv X pins σ H2 {s2 with heap:=s2.heap.push {cls:=.type "slice",data:=.fields #[.none,.none,.int (-1) t]}}:=I2.kept (t':=s2.toks) λ b ob q=>qf _ q
 obtain⟨its,rv,ht,hz⟩:=I4.list sq;have hlen:=rv.length;show wpAny (model X.prog X.w) X.A (subscriptTail e (.Slice none none (some (.UnaryOp .USub (.Constant (.int 1) k p3) p4)) p2) (.ref a) (.ref s2.heap.objs.size)) (EP X pins σ Q) X.xe {s2 with heap:=s2.heap.push {cls:=.type "slice",data:=.fields #[.none,.none,.int (-1) t]}}
 refine tail_any (ops:=[.ref a,.ref s2.heap.objs.size]) ht.isList.typeIs slot_list_getitem.lookup ?_ (by with_unfolding_all rfl)
 refine wpAny_getItem_list_slice ht.isList (Heap.IsSliceOf.new ..) .none .none (.int (-1) t) (by simp) ?_ (by rw[List.size_toArray] <;> omega)
 rw[ar1];refine⟨.ref _,_,I4.laid (t':=s2.toks) (o:=.lst xs.reverse) (λ b ob q=>qf _ q) (qj _) ?_,rfl,q _ (I4.hok.fresh (qj _))⟩
 exact⟨by rw[List.length_reverse];exact hz,_,0,Vals.reverse rv,qk _ rfl⟩
theorem O_4 {K:Frag}{H:Hp}:∀ {ds:List D}{vs:List V},Reps K H ds vs->Reps K H ds.reverse vs.reverse
 |[],vs,r=>by unfold Reps at r;subst r;exact Reps.nil_
 |d::ds,vs,r=>by
  unfold Reps at r;obtain⟨v,vr,rfl,r1,r2⟩:=r;rw[List.reverse_cons,List.reverse_cons];exact (O_4 r2).app (Reps.one r1)
theorem bC4 {p2 p3 p4:Pos}{k:Nat} (he:XE X e F):XE X (.Subscript e (.Slice none none (some (.UnaryOp .USub (.Constant (.int 1) k p3) p4)) p2) pos) (e1 bh2 F):=PE.wk (ba1 he) λ σ H Q hh0_=>by
 obtain⟨c,H0,ρ,d,ρ',R,f,q⟩:=hh0_;unfold e1 at f;obtain⟨⟨x,ρ1⟩,h1,f⟩:=a_0 f;obtain⟨d',h2,f⟩:=a_0 f;have f':some (d',ρ1)=some (d,ρ'):=f;cases f';cases x with
 |lst xs =>
  cases h2;refine⟨c,H0,ρ,_,_,R,h1,λ v H1 Hh s1 R1 r1=>?_⟩
  unfold Rep at r1;obtain⟨a,ws,rfl,sq,t⟩:=r1;refine⟨a,ws,rfl,Same.seq R1.same sq,λ p hp=>?_⟩
  have S:=Step.alloc (o:=.lst ws.reverse) R1.same hp;refine q _ _ _ (s1.trans S.s0) (R1.after S) ?_;unfold Rep;exact⟨p,_,rfl,.inl (.inl a_3),Reps.mono S.s0 _ (O_4 t)⟩
 |_=>cases h2
end
end Fx
namespace L2
open PySem PySem.Spec PyProof.Rows
def bn8 (K:Frag) (js:List Nat) (tt:TT) (te:TE) (σ:St) (Q:List V->Hp->Prop) (J:It) (H1:Hp):Prop :=
 ∃ W:Nat->Nat->List V->Hp->Prop,(∃ m,W 0 m [] H1)/\∀ i m ys H,W i m ys H ->
  (J.stop i H/\ys.length<=sizeLine/\Q ys H) \/
  (J.go i H/\ys.length<sizeLine/\∀ x H',J.yld i H x H'->∃ ta v1 v2,x=.ref ta/\SqT K H' ta [v1,v2]/\tt (some v1::some v2::frv σ js) H' λ b H2 =>
   if b=true then te (some v1::some v2::frv σ js) H2 λ v H3=>∃ m',m'<m/\W (i+1) m' (ys++[v]) H3 else ∃ m',m'<m/\W (i+1) m' ys H2)
section
variable {X:Cx}{scope:Scope}{s:Shared}{H:Hp}{C:Addr}{fp:List Addr}{pins:List (Addr×Obj)}{H':Hp}{s':Shared}
theorem G_0 {N N':List Str}{σ σ':St} (I:Inv (cxB X N scope s H C fp) pins σ H' s') (hl:σ'.length=N'.length) (h:∀ (i:Nat) (x:Str) (v:V),N'[i]?=some x->σ'[i]?=some (some v)->∃ j:Nat,N[j]?=some x/\σ[j]?=some (some v)):Inv (cxB X N' scope s H C fp) pins σ' H' s' :=
 let k:=I.ok
 ⟨⟨k.mod,k.kind,k.glob,k.blt,k.above,k.inj,k.has,k.cab,k.hd,k.frames,k.stk,k.exf,k.bs,k.bsz,k.noex,k.exfs,k.funs,k.frf⟩,I.os,I.bare,I.base,by
  obtain⟨m,hn,hv⟩:=I.loc;refine⟨m,hn,λ i x v e1 e2 e3=>?_⟩
  obtain⟨j,a1,a2⟩:=h i x v e1 e2;exact hv j x v a1 a2 e3,I.cell,I.free,I.freeC,I.pin,I.hok,hl⟩
theorem aN2 {x x2:Str}{frees:List Str}{τ:St} (I:Inv (cxB X (x::frees) scope s H C fp) pins (none::τ) H' s'):Inv (cxB X (x::x2::frees) scope s H C fp) pins (none::none::τ) H' s' :=
 G_0 I (by have:(none::τ).length=(x::frees).length:=I.len;simp at this;simp[this]) λ i y v e1 e2=>by
  match i,e1,e2 with
  |0,_,e2=>simp at e2
  |1,_,e2=>simp at e2
  |i+2,e1,e2=>exact⟨i+1,by simpa using e1,by simpa using e2⟩
theorem aN3 {x x2:Str}{frees:List Str}{τ:St} (I:Inv (cxB X (x::x2::frees) scope s H C fp) pins (none::none::τ) H' s'):Inv (cxB X (x::frees) scope s H C fp) pins (none::τ) H' s' :=
 G_0 I (by have:(none::none::τ).length=(x::x2::frees).length:=I.len;simp at this;simp[this]) λ i y v e1 e2=>by
  match i,e1,e2 with
  |0,_,e2=>simp at e2
  |i+1,e1,e2=>exact⟨i+2,by simpa using e1,by simpa using e2⟩
end
section
variable {X:Cx}{pins:List (Addr×Obj)}{σ:St}{H:Hp}{s:Shared}{x x2:Str}{scope sc:Scope}{frees:List Str}{js:List Nat}{elt iter:Expr}{ifs:List Expr}{px py pt pos:Pos}{kt:Nat}{tt:TT}{te:TE}{E:Value->Shared->Prop}
theorem aL5 {it:Addr}{fp:List Addr}{tn:Nat->Heap->Prop}{J:It}{Qe:List V->Hp->Prop}{RR:Value->Addr->Result->Shared->Prop} (I:Inv X pins σ H s) (hc:X.calm=true) (hsc:X.env.scope=sc) (B:ScB X.N sc scope x frees js) (own2:scope.names.lookup x2=some .local) (nd2:(x::x2::frees).Nodup)
  (T:Turn X.prog X.w X.K (.Tuple [.Name x px,.Name x2 py] kt pt) J fp it tn) (st:tn 0 s.heap) (f:∀ b∈fp,FpOk X pins H b) (hW:bn8 X.K js tt te σ Qe J H)
  (ht:∀ s H C fp,PTs (cxB X (x::x2::frees) scope s H C fp) ifs tt) (he:∀ s H C fp,PE (cxB X (x::x2::frees) scope s H C fp) elt te)
  (hR:∀ (D C:Addr) (s':Shared) (H':Hp) (ys:List V) (its:List Value) (n:Nat),s.heap.objs.size<=D->s.heap.objs.size<=C->D≠C->Inv (cxB X (x::x2::frees) scope s H C fp) pins (none::none::frv σ js) H' s'->H' D=none ->
   Vals ys its->s'.heap.get? D=some (V_4 its n)->ys.length<=sizeLine->Qe ys H'->RR (.ref D) C (.ok .next) s') :
  wpAny (model X.prog X.w) X.A (newList []) (λ acc s3=>wpAny (model X.prog X.w) X.A (newFunctionEnv scope X.env.globals (G_9 X.env.cells scope.names []) [] X.env.qual none .none (some X.env)) (λ cenv s4 =>
   codeAny (model X.prog X.w) X.A (.compStart (.ListComp elt [⟨.Tuple [.Name x px,.Name x2 py] kt pt,iter,ifs,0⟩] scope pos) 0 (.ref it) acc {cenv with scope:=relabel scope X.env}) (RR acc cenv.locals) s4) E s3) E s:=by
 refine ae5 (N':=x::x2::frees) (tg:=bH0 X.K 2 (aN8 (ag2 0) (aN8 (ag2 1) bH1))) I hc hsc B T st f aN2 (λ C=>az8 hc (z_7 (z_8 (i:=0) nd2 rfl (.inl (lookup_relabel_local B.own)) (.inr (lookup_relabel_local B.own))) (z_7 (z_8 (i:=1) nd2 rfl (.inl (lookup_relabel_local own2)) (.inr (lookup_relabel_local own2))) ac1)) rfl rfl) ?_ ht he hR
 obtain⟨W,w0,turn⟩:=hW;refine⟨W,w0,λ i m ys H w=>?_⟩
 rcases turn i m ys H w with h | ⟨go,lz,step⟩
 ·exact .inl h
 ·refine .inr ⟨go,lz,λ y H' yl=>?_⟩
  obtain⟨ta,v1,v2,ey,sq,stp⟩:=step y H' yl
  exact⟨ta,[v1,v2],ey,sq,rfl,v1,[v2],rfl,v2,[],rfl,rfl,⟨rfl,λ j v e=>by
   match j,e with
   |0,e=>simp at e
   |1,e=>simp at e
   |j+2,e=>simpa using e⟩,stp⟩
def bO4 (K:Frag) (wi:TI) (js:List Nat) (tt:TT) (te:TE):TE:=λ σ H Q=>wi σ H (bn8 K js tt te σ λ ys H'=>∀ D,H' D=none->Q (.ref D) (upd H' D (.lst ys)))
theorem aA1 {wi:TI} (hc:X.calm=true) (hsc:X.env.scope=sc) (B:ScB X.N sc scope x frees js) (own2:scope.names.lookup x2=some .local) (nd2:(x::x2::frees).Nodup) (hi:PI X (.Tuple [.Name x px,.Name x2 py] kt pt) iter wi) (ht:∀ s H C fp,PTs (cxB X (x::x2::frees) scope s H C fp) ifs tt) (he:∀ s H C fp,PE (cxB X (x::x2::frees) scope s H C fp) elt te)
  (hs:∀ v,foldedSetIterable iter X.env v=pure v:=by intro _;rfl):PE X (.ListComp elt [⟨.Tuple [.Name x px,.Name x2 py] kt pt,iter,ifs,0⟩] scope pos) (bO4 X.K wi js tt te):=by
 intro pins s σ H Q I h;rw[eval_ListComp];refine wpAny_comprehension_free (use:=none) rfl hs (q_2 (F_5 I hsc B)) B.kind B.locs (thn (hi pins s σ H _ I h) λ v s1 h1=>thn h1 λ itv s2 h2=>?_)
 obtain⟨it,fp,tn,J,H2,e,I2,T,st2,f2,hW⟩:=h2;subst e;refine aL5 (RR:=λ acc C=>compPost (model X.prog X.w) X.A X.xe none (EP X pins σ Q) acc C) I2 hc hsc B own2 nd2 T st2 f2 hW ht he ?_
 intro D C s' H' ys its n hD hC hDC J' nD rv gD hz q;obtain⟨m,hn,_⟩:=J'.loc;refine⟨m,hn,λ h' hs'=>?_⟩
 have A1:=B_1 I2 f2 hD (aN3 J') nD rv gD hz;have nC:(upd H' D (.lst ys)) C=none:=by rw[a_6 (Ne.symm hDC)];exact J'.free
 exact⟨.ref D,_,aL9 I2 A1 hC nC hs',rfl,q D nD⟩
end
end L2
namespace Fx
open PySem PySem.Spec PyProof.Rows L2
theorem RS.block2 {K:Frag}{c:FC}{H0 H:Hp}{ρ:En}{σ:L2.St}{js:List Nat}{fr:En}{d e:D}{x y:V} (R:RS K c H0 H ρ σ) (hf:r_7 ρ js=some fr) (rx:Rep K H0 d x) (ry:Rep K H0 e y):RS K ⟨H0,H,[]⟩ H0 H (.im d::.im e::fr) (some x::some y::frv σ js):=by
 have B:=R.block hf ry
 have noO:∀ (i:Nat) (b:Bool) (o:MO),(Sl.im e::fr)[i]?≠some (.ow b o):=λ i b o z=>by
  obtain⟨a,_,y1,z1,w1⟩:=B.ow i b o z;cases b with
  |true=>exact absurd z1 (by simp)
  |false =>
   have z2:H a=none:=z1;obtain⟨u,hu⟩:=w1.some;rw[z2] at hu;cases hu
 refine⟨B.same,B.init,B.fresh,B.keep,B.apt,by have:=B.len;simp at this;simp[this],λ i d' q=>?_,λ i b o q=>?_,λ i j b b' o o' a q=>?_⟩
 ·match i,q with
  |0,q=>cases q;exact⟨x,rfl,rx⟩
  |i+1,q=>exact B.im i d' (by simpa using q)
 ·match i,q with
  |0,q=>cases q
  |i+1,q=>exact absurd (by simpa using q) (noO i b o)
 ·match i,q with
  |0,q=>cases q
  |i+1,q=>exact absurd (by simpa using q) (noO i b o)
theorem Z_1 {d:D}{q:D×D} (h:two d=some q):d=.tup [q.1,q.2]:=by
 unfold two at h
 split at h
 ·cases h;rfl
 ·cases h
theorem aL6 {K:Frag}{c:FC}{H1 Hh:Hp}{ρ:En}{σ:L2.St}{js:List Nat}{fr:En}{T:FT}{F:FE}{xs out:List D}{J:It}{Qf:List V->Hp->Prop} (R:RS K c H1 Hh ρ σ) (hf:r_7 ρ js=some fr) (hc:cGo2 T F fr xs=some out) (hz:xs.length<=sizeLine) (hy:r_3 K J H1 xs)
  (q:∀ ys H0 H,Same H1 H0->RS K c H0 H ρ σ->Reps K H0 out ys->Qf ys H):bn8 K js (tTt K T) (tE K F) σ Qf J Hh:=by
 refine⟨λ i m ys H=>m=xs.length-i/\i<=xs.length/\∃ H0,Same H1 H0/\RS K c H0 H ρ σ/\∃ pre rest,Reps K H0 pre ys/\pre.length<=i/\cGo2 T F fr (xs.drop i)=some rest/\pre++rest=out,⟨xs.length,by simp,Nat.zero_le _,H1,Same.refl _,R,[],out,Reps.nil_,Nat.zero_le _,by simpa using hc,rfl⟩,?_⟩
 rintro i m ys H ⟨rfl,hi,H0,s0,R0,pre,rest,rp,lp,hg,e⟩;obtain⟨y1,y2⟩:=hy H0 H i s0 R0.same
 by_cases hlt:i<xs.length
 ·have hd:xs[i]?=some xs[i]:=by simp[hlt]
  obtain⟨go,yl⟩:=y1 _ hd;refine .inr ⟨go,by rw[<- rp.length];omega,λ x H' hx=>?_⟩
  obtain⟨rfl,rx⟩:=yl x H' hx;rw[v_0 hd,l_9] at hg;obtain⟨⟨d1,d2⟩,g0,hg⟩:=a_0 hg;rw[Z_1 g0] at rx;unfold Rep at rx;obtain⟨ta,ws,rfl,sq,rr⟩:=rx;unfold Reps at rr;obtain⟨v1,w1,rfl,q1,rr⟩:=rr;unfold Reps at rr;obtain⟨v2,w2,rfl,q2,rr⟩:=rr;unfold Reps at rr;subst rr;refine⟨ta,v1,v2,rfl,Same.seqT R0.same sq,?_⟩;obtain⟨⟨b,ρb⟩,g1,hg⟩:=a_0 hg;dsimp only at hg;refine⟨⟨H0,H',[]⟩,H0,_,b,ρb,R0.block2 hf q1 q2,g1,λ H2 Hh2 s2 R2=>?_⟩
  cases b with
  |false =>
   rw[if_neg Bool.false_ne_true] at hg ⊢;have S:=R2.step;exact⟨xs.length-(i+1),by omega,rfl,hlt,H2,s0.trans S.s0,R0.after S,pre,rest,Reps.mono S.s0 _ rp,by omega,hg,e⟩
  |true =>
   rw[if_pos rfl] at hg ⊢;obtain⟨⟨z,ρz⟩,g2,hg⟩:=a_0 hg;obtain⟨t,g3,hg⟩:=a_0 hg;dsimp only at hg;have hg':some (z::t)=some rest:=hg;cases hg';refine⟨⟨H0,H',[]⟩,H2,ρb,z,ρz,R2,g2,λ v H3 Hh3 s3 R3 r3=>?_⟩
   have S:=R3.step;refine⟨xs.length-(i+1),by omega,rfl,hlt,H3,s0.trans S.s0,R0.after S,pre++[z],t,(Reps.mono S.s0 _ rp).app (Reps.one r3),?_,g3,?_⟩
   ·rw[List.length_append,List.length_singleton];omega
   ·rw[List.append_assoc];exact e
 ·have hn:xs.drop i=[]:=List.drop_eq_nil_of_le (by omega)
  rw[hn,S_6] at hg;cases hg;rw[List.append_nil] at e;subst e;exact .inl ⟨y2 (by omega),by rw[<- rp.length];omega,q ys H0 H s0 R0 rp⟩
structure ScB2 (N:List Str) (sc scope:Scope) (x x2:Str) (frees:List Str) (js:List Nat):Prop where
 B:ScB N sc scope x frees js
 own2:scope.names.lookup x2=some .local
 nd2:(x::x2::frees).Nodup
section
variable {X:Cx}{x x2:Str}{scope sc:Scope}{frees:List Str}{js:List Nat}{elt iter:Expr}{ifs:List Expr}{px py pt pos:Pos}{kt:Nat}{I F:FE}{T:FT}
theorem bC5 (hc:X.calm=true) (hsc:X.env.scope=sc) (B:ScB2 X.N sc scope x x2 frees js) (hi:XE X iter I) (ht:∀ s H C fp,XTs (cxB X (x::x2::frees) scope s H C fp) ifs T) (he:∀ s H C fp,XE (cxB X (x::x2::frees) scope s H C fp) elt F)
  (hs:∀ v,foldedSetIterable iter X.env v=pure v:=by intro _;rfl):XE X (.ListComp elt [⟨.Tuple [.Name x px,.Name x2 py] kt pt,iter,ifs,0⟩] scope pos) (am2 js I T F) :=
 PE.wk (aA1 (tt:=tTt X.K T) (te:=tE X.K F) hc hsc B.B B.own2 B.nd2 (ar3 hi) ht he hs) λ σ H Q hh0_=>by
  obtain⟨c,H0,ρ,d,ρ',R,f,q⟩:=hh0_;unfold am2 at f;obtain⟨⟨z,ρ1⟩,h1,f⟩:=a_0 f;obtain⟨xs,h2,f⟩:=a_0 f;obtain⟨fr,h3,f⟩:=a_0 f;obtain⟨ys,h4,f⟩:=a_0 f;obtain⟨hz,f⟩:=Fx.ifs f;cases f;refine i_8 R h1 h2 λ J H1 Hh s1 R1 hy=>?_
  refine aL6 R1 h3 h4 hz hy λ vs H2 Hh2 s2 R2 r2=>λ p hp=>?_
  have S:=Step.alloc (o:=.lst vs) R2.same hp;refine q _ _ _ (s1.trans (s2.trans S.s0)) (R2.after S) ?_;unfold Rep;exact⟨p,vs,rfl,.inl (.inl a_3),Reps.mono S.s0 _ r2⟩
end
theorem aL7 {K:Frag}{c:FC}{H1 Hh:Hp}{ρ:En}{σ:L2.St}{js:List Nat}{fr:En}{T:FT}{F:FE}{xs out:List D}{J:It}{Qf:List V->Hp->Prop} (R:RS K c H1 Hh ρ σ) (hf:r_7 ρ js=some fr) (hc:cGo2 T F fr xs=some out) (hz:xs.length<=sizeLine) (hy:C_6 K J H1 xs)
  (q:∀ ys H0 H,Same H1 H0->RS K c H0 H ρ σ->Reps K H0 out ys->Qf ys H):bn8 K js (tTt K T) (tE K F) σ Qf J Hh:=by
 refine⟨λ i m ys H=>m=xs.length-i/\i<=xs.length/\∃ H0,Same H1 H0/\RS K c H0 H ρ σ/\∃ pre rest,Reps K H0 pre ys/\pre.length<=i/\cGo2 T F fr (xs.drop i)=some rest/\pre++rest=out,⟨xs.length,by simp,Nat.zero_le _,H1,Same.refl _,R,[],out,Reps.nil_,Nat.zero_le _,by simpa using hc,rfl⟩,?_⟩
 rintro i m ys H ⟨rfl,hi,H0,s0,R0,pre,rest,rp,lp,hg,e⟩;obtain⟨y1,y2⟩:=hy H0 H i s0 R0.same
 by_cases hlt:i<xs.length
 ·have hd:xs[i]?=some xs[i]:=by simp[hlt]
  obtain⟨go,yl⟩:=y1 _ hd;refine .inr ⟨go,by rw[<- rp.length];omega,λ x H' hx=>?_⟩
  obtain⟨H0',S0,rx⟩:=yl x H' hx;have R1:=R0.after S0;rw[v_0 hd,l_9] at hg;obtain⟨⟨d1,d2⟩,g0,hg⟩:=a_0 hg;rw[Z_1 g0] at rx;unfold Rep at rx;obtain⟨ta,ws,rfl,sq,rr⟩:=rx;unfold Reps at rr;obtain⟨v1,w1,rfl,q1,rr⟩:=rr;unfold Reps at rr;obtain⟨v2,w2,rfl,q2,rr⟩:=rr;unfold Reps at rr;subst rr;refine⟨ta,v1,v2,rfl,Same.seqT R1.same sq,?_⟩;obtain⟨⟨b,ρb⟩,g1,hg⟩:=a_0 hg;dsimp only at hg;refine⟨⟨H0',H',[]⟩,H0',_,b,ρb,R1.block2 hf q1 q2,g1,λ H2 Hh2 s2 R2=>?_⟩
  cases b with
  |false =>
   rw[if_neg Bool.false_ne_true] at hg ⊢;have S:=R2.step;exact⟨xs.length-(i+1),by omega,rfl,hlt,H2,s0.trans (S0.s0.trans S.s0),R1.after S,pre,rest,Reps.mono (S0.s0.trans S.s0) _ rp,by omega,hg,e⟩
  |true =>
   rw[if_pos rfl] at hg ⊢;obtain⟨⟨z,ρz⟩,g2,hg⟩:=a_0 hg;obtain⟨t,g3,hg⟩:=a_0 hg;dsimp only at hg;have hg':some (z::t)=some rest:=hg;cases hg';refine⟨⟨H0',H',[]⟩,H2,ρb,z,ρz,R2,g2,λ v H3 Hh3 s3 R3 r3=>?_⟩
   have S:=R3.step;refine⟨xs.length-(i+1),by omega,rfl,hlt,H3,s0.trans (S0.s0.trans S.s0),R1.after S,pre++[z],t,(Reps.mono (S0.s0.trans S.s0) _ rp).app (Reps.one r3),?_,g3,?_⟩
   ·rw[List.length_append,List.length_singleton];omega
   ·rw[List.append_assoc];exact e
 ·have hn:xs.drop i=[]:=List.drop_eq_nil_of_le (by omega)
  rw[hn,S_6] at hg;cases hg;rw[List.append_nil] at e;subst e;exact .inl ⟨y2 (by omega),by rw[<- rp.length];omega,q ys H0 H s0 R0 rp⟩
theorem ae2 {d:D}{xs:List D} (h:lsX d=some xs):d=.lst xs:=by
 unfold lsX at h
 split at h
 ·cases h;rfl
 ·cases h
theorem aO2 {z TI TO i1 i2 c:Addr} (m:c∈[z,TO,i1,i2]):c∈[z,TI,TO,i1,i2]:=by
 simp only[List.mem_cons,List.not_mem_nil,or_false] at m ⊢
 rcases m with e | e | e | e
 ·exact .inl e
 ·exact .inr (.inr (.inl e))
 ·exact .inr (.inr (.inr (.inl e)))
 ·exact .inr (.inr (.inr (.inr e)))
theorem ao2 {P:Program}{w:World}{K:Frag}{T:Bool}{elts:List Expr}{x1:Nat}{pt:Pos}{z TI TO i1 i2 a b:Addr} (D:Zp z TI TO i1 i2 a b):Turn P w K (.Tuple elts x1 pt) (Itz T K a b) [z,TI,TO,i1,i2] z (λ i h=>tZ T z TI TO i1 i2 a b i .none false h) where
 mem:=qg
 obj:=λ i h st c hc=>let ⟨o,e,d,_⟩:=st.obj c hc;⟨o,e,d⟩
 keep:=λ i h h' st k=>st.keep k
 item:=λ X hP hw hK hc i pins s σ H E I hf st hh0_=>by
  obtain⟨xs,ys,q1,q2,l1,l2⟩:=hh0_;subst hP hw hK;obtain⟨us,r1,p1,_⟩:=q1.inv I;obtain⟨vs,r2,p2,_⟩:=q2.inv I;have e1:xs[i]?=some xs[i]:=List.getElem?_eq_getElem l1;have e2:ys[i]?=some ys[i]:=List.getElem?_eq_getElem l2;obtain⟨x,hx,rx⟩:=r1.get e1;obtain⟨y,hy,ry⟩:=r2.get e2;have hp:H s.heap.objs.size=none:=I.hok.fresh (qj _);refine F_2 (al2 T i1 a D.n1 us.toArray) (al2 T i2 b D.n2 vs.toArray) D.ap (st.zs p1 p2) (by simpa using hx) (by simpa using hy) λ h1 Z pr _ k=>⟨_,rfl,?_⟩
  obtain⟨I1,fp⟩:=az1 I hf st rx ry pr k;have t1:=Z.tz;refine wpAny_letOwnedTupleGo_zip (s:={s with heap:=h1}) t1.1 λ h2 z2 sb=>?_
  have m1:=D.ap.f1 i1 qg;have m2:=D.ap.f2 i2 qg;obtain⟨_,t2,⟨u,v,t3⟩,t4,t5⟩:=t1;have I2:Inv X pins σ (upd H s.heap.objs.size (.tup [xs[i],ys[i]])) {s with heap:=h2}:=Inv.turnedL (s:={s with heap:=h1}) (t':=s.toks) (fs:=[z]) I1 (λ c o hc' e=>(sb.2 c (λ q=>hc' (by simp[q]))).trans e) λ c hc'=>by rw[List.mem_singleton.mp hc'];exact fp z qg
  exact⟨.ref s.heap.objs.size,_,I2,rfl,⟨xs[i],ys[i],_,λ zs hz=>by rw[SqB.inj I hz q1];exact e1,λ zs hz=>by rw[SqB.inj I hz q2];exact e2,rfl,hp,rfl⟩,
   ⟨z2,(sb.2 TI D.ap.TIz).trans t2,⟨u,v,(sb.2 TO D.ap.TOz).trans t3⟩,t4.at λ o e=>(sb.2 i1 m1.1).trans e,t5.at λ o e=>(sb.2 i2 m2.1).trans e⟩,λ c hc'=>(fp c hc').1⟩
 done:=λ X hP hw hK hc i pins s σ H E I hf st hh0_=>by
  obtain⟨xs,ys,q1,q2,l⟩:=hh0_;subst hP hw hK;obtain⟨us,r1,p1,_⟩:=q1.inv I;obtain⟨vs,r2,p2,_⟩:=q2.inv I;have n1:=r1.length;have n2:=r2.length;refine F_1 (I.ok.hd hc) (al2 T i1 a D.n1 us.toArray) (al2 T i2 b D.n2 vs.toArray) D.ap (st.zs p1 p2) (.inl rfl) ?_ λ h1 k=>⟨rfl,Inv.turnedL (t':=s.toks) (fs:=[z,TO,i1,i2]) I k λ c hc'=>hf c (aO2 hc')⟩
  rcases l with l | l
  ·exact .inl (by simp;omega)
  ·exact .inr (by simp;omega)
 self:=λ A i s Q E st h=>wpAny_pyIter_zip st.1 h
def bT7 (T:Bool) (K:Frag) (t:TA):TI:=λ σ H R=>t σ H λ vs H1=>∃ l r xs ys,vs=[.ref l,.ref r]/\SqB T K H1 l xs/\SqB T K H1 r ys/\R (Itz T K l r) H1
theorem aZ5 {X:Cx}{T:Bool}{elts:List Expr}{x1:Nat}{pt:Pos}{a b:Expr}{ta:TA}{p pos:Pos} (hg:Gl X "zip") (hm:X.mg "zip"=none) (ha:PA X [a,b] ta) (hs:starEach [a,b] X.env=[(false,eval a X.env),(false,eval b X.env)]:=by rfl) (hs2:starEach [b] X.env=[(false,eval b X.env)]:=by rfl) :
  PI X (.Tuple elts x1 pt) (.Call (.Name "zip" p) [a,b] [] pos) (bT7 T X.K ta):=λ pins s σ H R I h =>
 B_9 T (QQ:=λ l r xs ys H1=>R (Itz T X.K l r) H1) hg hm I ha h (λ s1 H1 z TI TO i1 i2 l r xs ys I1 D tz fp q1 q2 qq=>wpAny_pyIter_zip tz.1 ⟨z,_,_,_,H1,rfl,I1,ao2 D,tz,fp,qq⟩) hs hs2
theorem T_1 {K:Frag}{T:Bool}{H1:Hp}{l r:Addr}{us vs:List V}{xs ys:List D} (q1:SqB T K H1 l us) (q2:SqB T K H1 r vs) (r1:Reps K H1 xs us) (r2:Reps K H1 ys vs):C_6 K (Itz T K l r) H1 (zpT xs ys):=λ H0 H i s s'=>by
 have g1:=q1.same (s.trans s');have g2:=q2.same (s.trans s');have n1:=r1.length;have n2:=r2.length;refine⟨λ d e=>?_,λ h=>⟨us,vs,g1,g2,by rw[y_8] at h;omega⟩⟩
 have hi:i<(zpT xs ys).length:=(List.getElem?_eq_some_iff.mp e).1;rw[y_8] at hi;have d1:xs[i]?=some xs[i]:=List.getElem?_eq_getElem (by omega)
 have d2:ys[i]?=some ys[i]:=List.getElem?_eq_getElem (by omega)
 rw[Y_2 d1 d2] at e;cases e;obtain⟨v',e3,rv⟩:=r1.get d1;obtain⟨w',e4,rw'⟩:=r2.get d2;refine⟨⟨us,vs,g1,g2,by omega,by omega⟩,λ x H' hh0_=>?_⟩
 obtain⟨v,w,p,e1,e2,ex,hp,eH⟩:=hh0_;subst ex eH;have e1:=e1 us g1;have e2:=e2 vs g2;rw[e3] at e1;cases e1;rw[e4] at e2;cases e2;have S:=Step.alloc (o:=.tup [v',w']) s' hp;refine⟨_,S,?_⟩;unfold Rep;exact⟨p,_,rfl,.inl (.inl a_3),Reps.cons (Rep.mono (s.trans S.s0) _ rv) (Reps.one (Rep.mono (s.trans S.s0) _ rw'))⟩
section
variable {X:Cx}{x x2:Str}{scope sc:Scope}{frees:List Str}{js:List Nat}{elt a b:Expr}{ifs:List Expr}{px py pt pos p p2:Pos}{kt:Nat}{A B F:FE}{T:FT}
theorem bM8 (hm:X.mg "zip"=none) (hc:X.calm=true) (hsc:X.env.scope=sc) (Bk:ScB2 X.N sc scope x x2 frees js) (ha:XE X a A) (hb:XE X b B) (ht:∀ s H C fp,XTs (cxB X (x::x2::frees) scope s H C fp) ifs T) (he:∀ s H C fp,XE (cxB X (x::x2::frees) scope s H C fp) elt F)
  (hg:Gl X "zip":=by rfl) (hst:starEach [a,b] X.env=[(false,eval a X.env),(false,eval b X.env)]:=by rfl) (hst2:starEach [b] X.env=[(false,eval b X.env)]:=by rfl)
  (hs:∀ v,foldedSetIterable (.Call (.Name "zip" p) [a,b] [] p2) X.env v=pure v:=by intro _;rfl):XE X (.ListComp elt [⟨.Tuple [.Name x px,.Name x2 py] kt pt,.Call (.Name "zip" p) [a,b] [] p2,ifs,0⟩] scope pos) (eLZ js A B T F) :=
 PE.wk (aA1 (tt:=tTt X.K T) (te:=tE X.K F) hc hsc Bk.B Bk.own2 Bk.nd2 (aZ5 (T:=false) hg hm (xaC ha (xaC hb xaN hst2) (by rw[hst,hst2])) hst hst2) ht he hs) λ σ H Q hh0_=>by
  obtain⟨c,H0,ρ,d,ρ',R,f,q⟩:=hh0_;unfold eLZ bm4 at f;obtain⟨⟨d1,ρ1⟩,h1,f⟩:=a_0 f;unfold bm3 at f;obtain⟨xs,g1,f⟩:=a_0 f;unfold bm2 at f;obtain⟨⟨d2,ρ2⟩,h2,f⟩:=a_0 f;unfold bm7 at f;obtain⟨ys,g2,f⟩:=a_0 f;unfold bm6 at f;obtain⟨fr,h3,f⟩:=a_0 f;unfold bm5 at f;obtain⟨out,h4,f⟩:=a_0 f;obtain⟨hz,f⟩:=Fx.ifs f;cases f;have l1:=ae2 g1;have l2:=ae2 g2;dsimp only at l1 l2 h2 h3;subst l1 l2;obtain⟨c',H0',ρ0,ds,ρ3,R',fa,qa⟩:=y_9 (K:=X.K) (T:=false) (c:=c) (xs:=xs) (ys:=ys) R h1 h2;refine⟨c',H0',ρ0,ds,ρ3,R',fa,λ vs H1 Hh s1 R1 r1=>?_⟩
  obtain⟨l,r,us,ws,ev,q1,q2,Hd,sd,Rz,t1,t2,e1,e2⟩:=qa vs H1 Hh s1 R1 r1;refine⟨l,r,us,ws,ev,q1,q2,aL7 Rz h3 h4 (by rw[y_8];omega) (T_1 e1 e2 t1 t2) λ vs H2 Hh2 s2 R2 r2=>λ pp hp=>?_⟩
  have S:=Step.alloc (o:=.lst vs) R2.same hp;refine q _ _ _ (sd.trans (s2.trans S.s0)) (R2.after S) ?_;unfold Rep;exact⟨pp,vs,rfl,.inl (.inl a_3),Reps.mono S.s0 _ r2⟩
end
inductive KEnt (w:World) (K:Frag):List DictEntry->List (Str×D)->Prop
 |nil:KEnt w K [] []
 |cons {k:Str}{d:D}{t:Tok}{v:Value}{es:List DictEntry}{kds:List (Str×D)}:KV1 K d v->KEnt w K es kds->KEnt w K (⟨hashStr w k,.str k t,v⟩::es) ((k,d)::kds)
def bn9 (w:World) (K:Frag) (a:Addr) (kds:List (Str×D)):Prop:=∃ es n,K.lookup a=some {cls:=.type "dict",data:=.dict es n} ∧ (a==sysModules)=false ∧ KEnt w K es.toList kds ∧ (kds.map (·.1)).Nodup
theorem KEnt.all {w:World}{K:Frag}:∀ {es:List DictEntry}{kds:List (Str×D)},KEnt w K es kds->∃ vs:List (Key×Value),vs.map (·.1)=kds.map (λ q=>Sum.inr q.1) /\
  (∀ (P:Program),PySem.Pairs (d_9 P w) es vs)/\(∀ (P:Program),∀ e∈es,∃ k,(d_9 P w).is k e.key=true/\e.hash=(d_9 P w).hash k) /\
  ∀ k d,l_6 k kds=some d->∃ u,valueAt vs (.inr k)=some u/\KV1 K d u
 |_,_,.nil=>⟨[],rfl,λ _=>.nil,λ _ e h=>(by cases h),λ k d h=>(by cases h)⟩
 |_,_,.cons (k:=k) (d:=d) (t:=t) (v:=v) (es:=es) (kds:=kds) h r=>by
  obtain⟨vs,e1,e2,e3,e4⟩:=r.all;refine⟨(.inr k,v)::vs,by rw[List.map_cons,List.map_cons,e1],λ P=>.cons (n_6 P w k t) rfl (e2 P),λ P e he=>?_,λ k' d' hk=>?_⟩
  ·rcases qw he with rfl | he
   ·exact⟨.inr k,n_6 P w k t,rfl⟩
   ·exact e3 P e he
  ·unfold l_6 at hk
   unfold valueAt;rw[List.find?_cons]
   by_cases z:k=k'
   ·subst z
    rw[if_pos rfl] at hk;cases hk;exact⟨v,by simp,h⟩
   ·rw[if_neg z] at hk
    obtain⟨u,e5,e6⟩:=e4 k' d' hk;refine⟨u,?_,e6⟩;rw[decide_eq_false (λ y=>z (Sum.inr.inj y))]
    exact e5
section
variable {X:Cx}{pos:Pos}{e k:Expr}{F G:FE}{A:FA}
theorem xkd {x:Str}{kds:List (Str×D)}{p:Pos} (h:∃ a,X.mg x=some (.ref a) ∧ bn9 X.w X.K a kds) (hk:XE X k G) (hg:Gl X x:=by rfl) (hd:(x==("__debug__":Str))=false:=by decide) (hs:bn7 k:=by exact λ _ _=>rfl) :
  XE X (.Subscript (.Name x p) k pos) (e1 (dKx kds) G):=by
 obtain⟨a,hm,es,n,hl,lo,ke,nd⟩:=h;obtain⟨vs,e1',e2',e3',e4'⟩:=ke.all;intro pins s σ H Q I ⟨c,H0,ρ,d,ρ',R,f,q⟩;unfold e1 at f;obtain⟨⟨y,ρ1⟩,h1,f⟩:=a_0 f;obtain⟨d',h2,f⟩:=a_0 f;have f':some (d',ρ1)=some (d,ρ'):=f;cases f';refine Z_8 PySem.F.slot_dict_getitem.lookup hs (B_0 I hg hm (thn (hk pins s σ H (λ v Hh=>∃ H1,Same H0 H1/\RS X.K c H1 Hh ρ' σ/\Rep X.K H1 y v) I ⟨c,H0,ρ,y,_,R,h1,λ v H1 Hh s1 R1 r1=>⟨H1,s1,R1,r1⟩⟩) λ iv s2 hh0_=>?_) hd)
 obtain⟨v,Hh,I2,rv,H1,s1,R1,r1⟩:=hh0_;cases y with
 |str kk =>
  unfold Rep at r1;subst r1;obtain⟨u,e5,w,rw,rp⟩:=e4' kk d h2
  have dd:s2.heap.DictOf (d_9 X.prog X.w) a vs:=⟨_,es,n,I2.kIn a _ hl,⟨rfl,rfl,rfl⟩,rfl,λ e he=>e3' X.prog e (by simpa using he),e2' X.prog,by
   rw[e1'];exact List.pairwise_map.mpr ((List.pairwise_map.mp nd).imp λ hab z=>hab (Sum.inr.inj z))⟩
  exact⟨dd.typeIs,wpAny_getItem_of (V_6 (k:=.inr kk) rv) dd.mapOf e5 ⟨w,Hh,I2.tok _,rw,q w H1 Hh s1 R1 (rp H1)⟩⟩
 |_=>cases h2
end
theorem ag1 {k:Str}:∀ {kds:List (Str×D)},(l_6 k kds).isSome=true↔k∈kds.map (·.1)
 |[]=>by simp[l_6]
 |q::r=>by
  unfold l_6
  by_cases h:q.1=k
  ·simp[h]
  ·rw[if_neg h,ag1,List.map_cons,List.mem_cons]
   exact⟨.inr,λ z=>z.resolve_left (λ y=>h y.symm)⟩
theorem T_5 {k:Str}{vs:List (Key×Value)}:(valueAt vs (.inr k)).isSome=true↔(Sum.inr k:Key)∈vs.map (·.1):=by
 unfold valueAt;rw[Option.isSome_map,List.find?_isSome];constructor
 ·rintro ⟨x,hx,e⟩
  exact List.mem_map.mpr ⟨x,hx,by simpa using e⟩
 ·intro h
  obtain⟨x,hx,e⟩:=List.mem_map.mp h;exact⟨x,hx,by simpa using e⟩
section
variable {X:Cx}{pos:Pos}{e k:Expr}{F G:FE}{A:FA}
theorem aJ3 {x:Str}{kds:List (Str×D)}{p:Pos} (h:∃ a,X.mg x=some (.ref a) ∧ bn9 X.w X.K a kds) (hk:XE X k G) (hg:Gl X x) (hd:(x==("__debug__":Str))=false):PC X .NotIn k (.Name x p) (tE X.K (e1 (W_7 kds) G)):=by
 obtain⟨a,hx,es,n,hl,lo,ke,nd⟩:=h;obtain⟨vs,e1',e2',e3',e4'⟩:=ke.all;intro pins s σ H Q I ⟨c,H0,ρ,d,ρ',R,f,q⟩;unfold e1 at f;obtain⟨⟨y,ρ1⟩,h1,f⟩:=a_0 f;obtain⟨d',h2,f⟩:=a_0 f;have f':some (d',ρ1)=some (d,ρ'):=f;cases f';refine thn (hk pins s σ H (λ v Hh=>∃ H1,Same H0 H1/\RS X.K c H1 Hh ρ' σ/\Rep X.K H1 y v) I ⟨c,H0,ρ,y,_,R,h1,λ v H1 Hh s1 R1 r1=>⟨H1,s1,R1,r1⟩⟩) λ iv s2 hh0_=>?_
 obtain⟨v,Hh,I2,rv,H1,s1,R1,r1⟩:=hh0_;refine B_0 I2 hg hx ?_ hd;cases y with
 |str kk =>
  unfold Rep at r1;subst r1
  have dd:s2.heap.DictOf (d_9 X.prog X.w) a vs:=⟨_,es,n,I2.kIn a _ hl,⟨rfl,rfl,rfl⟩,rfl,λ e he=>e3' X.prog e (by simpa using he),e2' X.prog,by
   rw[e1'];exact List.pairwise_map.mpr ((List.pairwise_map.mp nd).imp λ hab z=>hab (Sum.inr.inj z))⟩
  have same:(valueAt vs (.inr kk)).isSome=(l_6 kk kds).isSome:=by
   rw[Bool.eq_iff_iff,T_5,ag1,e1'];constructor
   ·intro z
    obtain⟨q,hq,e⟩:=List.mem_map.mp z;exact List.mem_map.mpr ⟨q,hq,Sum.inr.inj e⟩
   ·intro z
    obtain⟨q,hq,e⟩:=List.mem_map.mp z;exact List.mem_map.mpr ⟨q,hq,by rw[e]⟩
  cases h2;refine wpAny_notIn_of (V_6 (k:=.inr kk) rv) lo dd.mapOf ?_;rw[same];exact⟨.bl _,Hh,I2.tok _,rfl,q _ H1 Hh s1 R1 (by unfold Rep;rfl)⟩
 |_=>cases h2
theorem aU8 {x:Str}{kds:List (Str×D)}{p:Pos} (h:∃ a,X.mg x=some (.ref a) ∧ bn9 X.w X.K a kds) (hk:XE X k G) (hg:Gl X x:=by rfl) (hd:(x==("__debug__":Str))=false:=by decide) (hm:behindInMarks .NotIn (.Name x p)=false:=by first | exact ad1 _ | with_unfolding_all rfl) :
  XT X (.Compare k [.NotIn] [.Name x p] pos) (Fx.tB (e1 (W_7 kds) G)):=PT.wk (aZ3 (aJ3 h hk hg hd) hm) λ σ H Q h=>aE9 (λ Q h=>h) h
theorem Q_7 {kvs:List (Key×V)}{vs:List (Key×Value)} (h:KV kvs vs):Vals (kvs.map (·.2)) (vs.map (·.2)):=by
 induction h with
 |nil=>exact .nil
 |cons r _ ih=>exact .cons r.2 ih
theorem ao0 {vs:List (Key×Value)}{acc:Array Value} (h:ItemsOf (λ i v=>∃ k,vs[i]?=some (k,v)) acc vs.length):acc=(vs.map (·.2)).toArray:=by
 refine Array.ext (by rw[h.1];simp) λ i h1 h2=>?_
 obtain⟨k,e⟩:=h.2 i acc[i] (Array.getElem?_eq_getElem h1);have:=(List.getElem?_eq_some_iff.mp e).2;simp[this]
theorem aI9 {o:Expr}{to:TE}{p ap cp:Pos} (hc:X.calm=true) (hm:X.mg "list"=none) (ho:PE X o to) (hg:Gl X "list") (hbase:attributeBase o "values" X.env (eval o X.env)=eval o X.env) (hline:(ap.endLine==cp.line)=true)
  (hs:starEach [.Call (.Attribute o "values" ap) [] [] cp] X.env=[(false,eval (.Call (.Attribute o "values" ap) [] [] cp) X.env)]) :
  PE X (.Call (.Name "list" p) [.Call (.Attribute o "values" ap) [] [] cp] [] pos) (λ σ H Q=>to σ H λ x H1=>∃ a kvs,x=.ref a ∧ H1 a=some (.dK kvs) ∧ ∀ l,H1 l=none → Q (.ref l) (upd H1 l (.lst (kvs.map (·.2))))):=by
 intro pins s σ H Q I h;refine wpAny_Call_Name_kw (n_3 I hg hm (u:=.type "list") PyProof.Rows.boot_list (PyProof.Rows.callWith_type1 ?_ hs rfl));rw[hs];refine Calls.spliced_cons (wpAny_Call_method0_late hbase hline (thn (ho pins s σ H _ I h) λ v s1 hh0_=>?_))
 obtain⟨x,H1,I1,r1,a,kvs,ex,ea,q⟩:=hh0_;subst ex;cases r1;obtain⟨z,hd,vs,rel,dd⟩:=bg8 I1.hok ea;have ty:s1.TypeIs (.ref a) "dict":=dd.typeIs;obtain⟨ob,es,ep,ho',hex,hdt,hks,hpr,hnd⟩:=dd;refine⟨"dict","dict.values",PySem.F.plainAttrs_dict,PySem.F.slot_dict_values,PySem.F.type_dict_values,ty,λ b q=>by cases q;exact⟨ob,ho',hex.2.1⟩,Calls.callWith_builtin rfl (PySem.evalArgs_none ?_)⟩
 refine call_meetsIn PySem.F.slot_dict_values ty PySem.F.entry_dict_values (PySem.F.args_dict_values_1 _) (meets_dict_values (d_9 X.prog X.w) a hd) ⟨⟨vs,ob,es,ep,ho',hex,hdt,hks,hpr,hnd⟩,Calls.spliced_nil ?_⟩;have I2:Inv X pins σ H1 {s1 with heap:=s1.heap.push {cls:=.type "dict_values",data:=.fields #[.ref a]}}:=I1.kept (t':=s1.toks) λ b o e=>qf _ e
 have len:vs.length=kvs.length:=by have:=(Q_7 rel).length;simpa using this.symm
 refine PySem.W.kdl_call (PySem.W.kdl_values (prog:=X.prog) (w:=X.w) (knd:=d_9 X.prog X.w) (r:=s1.heap.objs.size) (d:=a) (kvs:=vs) (ep:=ep)) (I.ok.hd hc) ⟨⟨_,qk _ rfl,rfl,rfl⟩,ob,es,qf _ ho',hex,hdt,hks,hpr,hnd⟩ (by rw[len];exact z) λ h' tk acc c k new it=>?_
 rw[ao0 it] at new;refine⟨.ref _,_,I2.laid (t':=tk) (o:=.lst (kvs.map (·.2))) k (qj _) ⟨by rw[List.length_map];exact z,vs.map (·.2),c,Q_7 rel,new⟩,rfl,q _ (I2.hok.fresh (qj _))⟩
theorem aV0 (i:Nat) {x:Str}{p1 p ap cp:Pos} (hc:X.calm=true) (hm:X.mg "list"=none) (hN:X.N[i]?=some x:=by rfl) (hv:Vis X.env.scope x:=by first | exact Or.inl rfl | exact Or.inr (Or.inl rfl) | exact Or.inr (Or.inr rfl)) (hd:(x==("__debug__":Str))=false:=by decide)
  (hcd:(x==("__classdict__":Str))=false:=by decide) (hg:Gl X "list":=by rfl) (hbase:attributeBase (.Name x p1) "values" X.env (eval (.Name x p1) X.env)=eval (.Name x p1) X.env:=by rfl) (hline:(ap.endLine==cp.line)=true:=by rfl)
  (hs:starEach [.Call (.Attribute (.Name x p1) "values" ap) [] [] cp] X.env=[(false,eval (.Call (.Attribute (.Name x p1) "values" ap) [] [] cp) X.env)]:=by rfl) :
  XO' X (.Call (.Name "list" p) [.Call (.Attribute (.Name x p1) "values" ap) [] [] cp] [] pos) (as2 i) :=
 PE.wk (aI9 hc hm (o_7 hN hv hd hcd) hg hbase hline hs) λ σ H Q hh0_=>by
  obtain⟨c,H0,ρ,ds,ρ',R,f,q⟩:=hh0_;unfold as2 P_5 at f;obtain⟨⟨b,kds⟩,h1,f⟩:=a_0 f;obtain⟨hl,f'⟩:=ifs f;cases f';obtain⟨a,e1,_,_,ks,vs,e4,ek,t⟩:=R.ow i b _ (P_2 h1);refine⟨_,e1,a,_,rfl,e4,λ l hl'=>?_⟩
  have len:=t.length;have lk:ks.length=vs.length:=by rw[ek,List.length_map,<- len,List.length_map]
  have e5:((ks.map (Sum.inr:Str->Key)).zip vs).map (·.2)=vs:=List.map_snd_zip (by rw[List.length_map];omega)
  rw[e5];exact q l vs H0 H (Same.refl _) R hl' t
end
theorem T_6 {a b:Int}{ns:List Int} (p:ns.Perm [a,b]) (h:ns.Pairwise (·<=·)):ns=if a<=b then [a,b] else [b,a]:=by
 by_cases z:a<=b
 ·rw[if_pos z]
  exact List.Perm.eq_of_pairwise (le:=(·<=·)) (λ x y _ _ p q=>Int.le_antisymm p q) h (by simp[z]) p
 ·rw[if_neg z]
  exact List.Perm.eq_of_pairwise (le:=(·<=·)) (λ x y _ _ p q=>Int.le_antisymm p q) h (by simp;omega) (p.trans (List.Perm.swap b a []))
theorem vals_ints:∀ {us:List Value}{ns:List Int},IntsAre us ns->Vals (ns.map V.int) us
 |_,_,.nil=>.nil
 |_,_,.cons n t h=>.cons ⟨t,rfl⟩ (vals_ints h)
theorem ab2 {K:Frag}{H:Hp}{a b:Int}{vs:List V} (h:Reps K H [.int a,.int b] vs):vs=[V.int a,V.int b]:=by
 unfold Reps at h;obtain⟨v,r,rfl,h1,h2⟩:=h;obtain⟨u,rfl,h3⟩:=Reps.v1 h2;unfold Rep at h1 h3;rw[h1,h3]
section
variable {X:Cx}
theorem X_0:CallR X (.builtin "sorted") (λ xs H Q=>∃ p a b,xs=[.ref p] ∧ SqL X.K H p [V.int a,V.int b] ∧ ∀ l,H l=none → Q (.ref l) (upd H l (.lst ((if a ≤ b then [a,b] else [b,a]).map V.int)))):=by
 intro pins s σ H xs us Q I r h;obtain⟨p,a,b,rfl,sq,q⟩:=h;obtain⟨u,rfl,ru⟩:=j_6 r;cases ru;obtain⟨its,rv,pl,hz⟩:=I.list sq;have ia:IntsAre its [a,b]:=intsAre_of (is:=[a,b]) rv;have len:its.length=2:=by rw[<- rv.length];rfl
 refine sorted_ints pl.isList ia (by omega) λ out ns' a1 a2 a3=>?_
 obtain⟨e,he⟩:=sortedAll_at s.heap its out;have en:=T_6 a2 a3;subst en
 have lz:((if a<=b then [a,b] else [b,a]).map V.int).length<=sizeLine:=by
  rw[List.length_map]
  split
  ·show (2:Nat)<=sizeLine;decide
  ·show (2:Nat)<=sizeLine;decide
 refine⟨.ref (s.heap.objs.size+1),_,I.laid (t':=s.toks) (o:=.lst ((if a<=b then [a,b] else [b,a]).map V.int)) (λ _ _=>sortedAll_old) (Nat.le_succ _) ⟨lz,out.toList,e,vals_ints a1,he⟩,rfl,q _ (I.hok.fresh (Nat.le_succ _))⟩
theorem ak0:BOk X (.builtin "sorted") I_3:=⟨_,X_0,λ c H0 H ρ σ ds d vs Q R r e q=>by
 unfold I_3 at e
 split at e
 ·rename_i a b
  cases e;obtain⟨v,rfl,rv⟩:=Reps.v1 r;unfold Rep at rv;obtain⟨p,ws,rfl,s,t⟩:=rv;rw[ab2 t] at s;refine⟨p,a,b,rfl,Same.seq R.same s,λ l hl=>?_⟩
  have S:=Step.alloc (o:=.lst ((if a<=b then [a,b] else [b,a]).map V.int)) R.same hl;refine q _ _ _ S.s0 (R.after S) ?_;unfold Rep;refine⟨l,_,rfl,.inl (.inl a_3),?_⟩
  split
  ·exact Reps.cons (c_8 _ _) (Reps.one (c_8 _ _))
  ·exact Reps.cons (c_8 _ _) (Reps.one (c_8 _ _))
 ·cases e⟩
end
section
variable {X:Cx}{pos:Pos}{e:Expr}{F:FE}{A:FA}{T:FT}
theorem aS4 {m:MO}{d:D} (h:asL m=some d):∃ ds,m=.lst ds/\d=.lst ds:=by
 cases m with
 |lst ds=>cases h;exact⟨ds,rfl,rfl⟩
 |dic kds=>cases h
theorem xNL {k:Nat}{x:Str}{g:List D → Option MO}{p:Pos}{es:List Expr} (N:DefN X.prog X.w X.K X.mg X.base k x g) (hr:Room k X.A) (ha:XA X (e::es) A) (hg:Gl X x:=by rfl) (hdb:(x==("__debug__":Str))=false:=by decide)
  (he:starEach (e::es) X.env=(false,eval e X.env)::starEach es X.env:=by rfl) (hpl:(backTo pos (starEach es X.env)).any (·.1)=false:=by rfl):XE X (.Call (.Name x p) (e::es) [] pos) (eNL g A):=by
 obtain⟨f,fd,ps,Fn,hb,hk,hm⟩:=N.ex;refine PE.wk (K_0 Fn hr hg hm hk hb .nil aJ4 ha hdb he hpl) λ σ H Q hh0_=>?_
 obtain⟨c,H0,ρ,d,ρ',R,z,q⟩:=hh0_;unfold eNL bm1 at z;obtain⟨⟨ds,ρ1⟩,h1,z⟩:=a_0 z;unfold bm0 at z;obtain⟨m,h2,z⟩:=a_0 z;unfold mkP at z;obtain⟨d1,h3,z⟩:=a_0 z;have z':some (d1,ρ1)=some (d,ρ'):=z;cases z';obtain⟨es,rfl,rfl⟩:=aS4 h3;refine⟨c,H0,ρ,ds,_,R,h1,λ vs H1 Hh s1 R1 r1=>⟨H1,ds,_,R1.same,by rw[List.append_nil];exact r1,h2,λ a Hi' H' nw=>?_⟩⟩
 obtain⟨s0,s',s,fr,a0,aH,ws,ea,r⟩:=nw;have m0:Same Hi' (upd Hi' a (.lst ws)):=λ b u q=>by rw[a_6 (b_1 q a0)];exact q
 refine q _ (upd Hi' a (.lst ws)) H' (s1.trans (s0.trans m0)) (R1.after ⟨s0.trans m0,s,λ b u q=>?_,λ b u q=>?_⟩) ?_
 ·by_cases h:b=a
  ·subst h;rw[a_3] at q;cases q;exact ea
  ·rw[a_6 h] at q;exact s' b u q
 ·by_cases h:b=a
  ·subst h;exact .inr aH
  ·rw[a_6 h] at q;exact fr b u q
 ·unfold Rep
  exact⟨a,ws,rfl,.inl (.inl a_3),Reps.mono m0 _ r⟩
theorem bo3 (i:Nat) {x:Str}{p ap cp:Pos} (hN:X.N[i]?=some x:=by rfl) (hv:Vis X.env.scope x:=by first | exact Or.inl rfl | exact Or.inr (Or.inl rfl) | exact Or.inr (Or.inr rfl)) (hd:(x==("__debug__":Str))=false:=by decide)
  (hcd:(x==("__classdict__":Str))=false:=by decide) (hbase:attributeBase (.Name x p) "clear" X.env (eval (.Name x p) X.env)=eval (.Name x p) X.env:=by rfl) (hline:(ap.endLine==cp.line)=true:=by rfl)
  (hs:swapsWith (.Call (.Attribute (.Name x p) "clear" ap) [] [] cp) none pos.line X.env=pure false:=by rfl):XS X (.Expr (.Call (.Attribute (.Name x p) "clear" ap) [] [] cp) pos) (aX6 i) :=
 PS.wk (t_7 (aA2 PySem.F.plainAttrs_list PySem.F.slot_list_clear PySem.F.type_list_clear at3 (o_7 hN hv hd hcd) hbase hline) hs) λ Dn σ H hh0_=>by
  obtain⟨c,H0,ρ,r,R,f,q⟩:=hh0_;unfold aX6 ap9 at f;obtain⟨ds,h1,f⟩:=a_0 f;have f':some (Res.nx (ρ.set i (.ow false (.lst []))))=some r:=f;cases f';obtain⟨a,x1,_,_,vs,y1,_⟩:=R.ow i _ _ (i_4 h1);exact⟨.ref a,x1,.inl ⟨rfl,vs,SqL.of y1⟩,a,vs,rfl,rfl,y1,q σ H0 _ (Same.refl _) (R.mutOwn (o':=.lst []) (u:=.lst []) (i_4 h1) x1 ⟨_,a_3,Reps.nil_⟩)⟩
end
section
variable {X:Cx}{pins:List (Addr×Obj)}{σ:L2.St}{H:Hp}{s:Shared}{a:Addr}{kvs:List (Key×V)}
theorem be1 (I:Inv X pins σ H s) (e:H a=some (.dK kvs)):∃ ob,Inv X pins σ (upd H a (.frz ob (.dK kvs))) s:=by
 obtain⟨z,n,vs,rel,o,es,ep,ho,r⟩:=(show ObjOk X.prog X.w H s.heap a (.dK kvs) from I.hok a _ e);exact⟨o,I.write (t':=s.toks) (h':=s.heap) (x:=a) (e:=a) (by rw[e];trivial) (.inl rfl) (λ _ _ _ q=>q) ⟨o,ho⟩ ⟨ho,z,n,vs,rel,o,es,ep,ho,r⟩⟩
def bM4 (X:Cx) (a:Addr):Prop:=(∀ xs,X.H₀ a≠some (.tup xs))/\(∀ o u,X.H₀ a≠some (.frz o u))/\∀ ps,X.H₀ a≠some (.tbl ps)
theorem au4 (I:Inv X pins σ H s) (e:H a=some (.dK kvs)):bM4 X a:=by
 refine⟨λ xs z=>?_,λ o u z=>?_,λ ps z=>?_⟩
 ·have q:=I.base.tups a xs z
  rw[e] at q;cases q
 ·have q:=I.base.frzs a o u z
  rw[e] at q;cases q
 ·obtain⟨m,q⟩:=I.base.tbls a ps z
  rw[e] at q;cases q
theorem au3 {ob:Obj} (I:Inv X pins σ H s) (e:H a=some (.frz ob (.dK kvs))) (sf:bM4 X a):Inv X pins σ (upd H a (.dK kvs)) s:=by
 have ne:∀ {b:Addr},H b=none->b≠a:=λ z h=>by rw[h,e] at z;cases z
 have un:=I.base;refine⟨I.ok,I.os,I.bare,⟨un.keep,un.slot,λ b o q n hx=>?_,un.there,λ b xs q=>?_,λ b o u q=>?_,λ b ps q=>?_⟩,I.loc,I.cell,?_,λ x c q=>?_,λ p hp=>?_,λ b u q=>?_,I.len⟩
 ·have z:=un.free b o q n hx
  rw[a_6 (ne z)];exact z
 ·rw[a_6 λ h=>sf.1 xs (by rw[<- h];exact q)];exact un.tups b xs q
 ·rw[a_6 λ h=>sf.2.1 o u (by rw[<- h];exact q)];exact un.frzs b o u q
 ·rw[a_6 λ h=>sf.2.2 ps (by rw[<- h];exact q)];exact un.tbls b ps q
 ·rw[a_6 (ne I.free)];exact I.free
 ·have z:=I.freeC x c q
  rw[a_6 (ne z)];exact z
 ·obtain⟨h1,h2,h3⟩:=I.pin p hp
  exact⟨h1,by rw[a_6 (ne h2)];exact h2,h3⟩
 ·by_cases hb:b=a
  ·subst hb
   rw[a_3] at q;cases q;obtain⟨_,w⟩:=(show ObjOk X.prog X.w H s.heap b (.frz ob (.dK kvs)) from I.hok b _ e);exact w
  ·rw[a_6 hb] at q
   refine (I.hok b u q).stay (λ _ _ _ r=>r) (λ c r=>?_) λ c xs r=>?_
   ·rw[a_6 λ h=>by rw[h,e] at r;cases r];exact r
   ·rw[a_6 λ h=>by rw[h,e] at r;cases r];exact r
end
section
variable {X:Cx}{e:Expr}{st:Stmt}{t:TE}
def bN3 (i:Nat) (t:TT):TT:=λ σ H Q=>∃ a kvs,σ[i]?=some (some (.ref a))/\H a=some (.dK kvs)/\∀ ob,t σ (upd H a (.frz ob (.dK kvs))) λ v H2=>H2 a=some (.frz ob (.dK kvs))/\Q v (upd H2 a (.dK kvs))
theorem bt5 (i:Nat) {t:TT} (h:PT X e t):PT X e (bN3 i t):=λ pins s σ H Q I hh0_=>by
 obtain⟨a,kvs,_,ea,q⟩:=hh0_;obtain⟨ob,I1⟩:=be1 I ea;exact thn (h pins s σ _ _ I1 (q ob)) λ u s2 ⟨H2,I2,e2,q2⟩=>⟨_,au3 I2 e2 (au4 I ea),q2⟩
end
def less (H:Hp) (a:Addr):Hp:=λ b=>if b=a then none else H b
theorem ae4 {H:Hp}{a:Addr}:less H a a=none:=if_pos rfl
theorem u_2 {H:Hp}{a b:Addr} (h:b≠a):less H a b=H b:=if_neg h
theorem L_1 {H:Hp}{a b:Addr}{u:HO} (h:less H a b=some u):b≠a/\H b=some u:=by
 by_cases e:b=a
 ·rw[e,ae4] at h;cases h
 ·exact⟨e,by rw[u_2 e] at h;exact h⟩
section
variable {K:Frag}{H:Hp}{a:Addr}{ob:Obj}{kvs:List (Key×V)}
theorem Rd.less {b:Addr}{u:HO} (ha:H a=some (.frz ob (.dK kvs))) (h:Rd H b u) (n:∀ kvs,u≠.dK kvs) (n2:∀ o v,u≠.frz o v):Rd (less H a) b u:=by
 have ne:b≠a:=λ e=>by
  rw[e] at h
  rcases h with h | ⟨o,h⟩
  ·rw[ha] at h;exact n2 _ _ (qi h).symm
  ·rw[ha] at h;cases h;exact n kvs rfl
 rcases h with h | ⟨o,h⟩
 ·exact .inl (by rw[u_2 ne];exact h)
 ·exact .inr ⟨o,by rw[u_2 ne];exact h⟩
mutual
theorem Rep.less (ha:H a=some (.frz ob (.dK kvs))):∀ (d:D) {v:V},nd d=true->Rep K H d v->Rep K (less H a) d v
 |.non,_,_,h=>by unfold Rep at h ⊢;exact h
 |.bl _,_,_,h=>by unfold Rep at h ⊢;exact h
 |.int _,_,_,h=>by unfold Rep at h ⊢;exact h
 |.str _,_,_,h=>by unfold Rep at h ⊢;exact h
 |.tup ds,_,n,h=>by
  unfold Rep at h ⊢;obtain⟨b,vs,e,s,r⟩:=h;refine⟨b,vs,e,?_,Reps.less ha ds n r⟩
  rcases s with s | s
  ·exact .inl (Rd.less ha s (λ _ z=>nomatch z) λ _ _ z=>nomatch z)
  ·exact .inr s
 |.lst ds,_,n,h=>by
  unfold Rep at h ⊢;obtain⟨b,vs,e,s,r⟩:=h;refine⟨b,vs,e,?_,Reps.less ha ds n r⟩
  rcases s with s | s
  ·exact .inl (Rd.less ha s (λ _ z=>nomatch z) λ _ _ z=>nomatch z)
  ·exact .inr s
 |.dct _ _,_,n,_=>by cases n
theorem Reps.less (ha:H a=some (.frz ob (.dK kvs))):∀ (ds:List D) {vs:List V},nds ds=true->Reps K H ds vs->Reps K (less H a) ds vs
 |[],_,_,h=>by unfold Reps at h ⊢;exact h
 |d::r,_,n,h=>by
  unfold nds at n;rw[Bool.and_eq_true] at n;unfold Reps at h ⊢;obtain⟨v,vr,e,h1,h2⟩:=h;exact⟨v,vr,e,Rep.less ha d n.1 h1,Reps.less ha r n.2 h2⟩
end
end
section
variable {K:Frag}{c:FC}{H0 H:Hp}{ρ:En}{σ:L2.St}{i:Nat}{kds:List (Str×D)}
theorem RS.asData (R:RS K c H0 H ρ σ) (hi:ρ[i]?=some (.ow false (.dic kds))) :
  ∃ a vs,σ[i]?=some (some (.ref a))/\H0 a=none/\c.He a=none/\H a=some (.dK (p_2 (kds.map (·.1)) vs))/\Reps K H0 (kds.map (·.2)) vs/\∀ ob,Same H0 (upd H0 a (.frz ob (.dK (p_2 (kds.map (·.1)) vs))))/\RS K c (upd H0 a (.frz ob (.dK (p_2 (kds.map (·.1)) vs)))) (upd H a (.frz ob (.dK (p_2 (kds.map (·.1)) vs)))) (ρ.set i (hld kds)) σ:=by
 obtain⟨a,x,y,z,ks,vs,e,rfl,r⟩:=R.ow i _ _ hi;have he:c.He a=none:=z;have il:i<ρ.length:=(List.getElem?_eq_some_iff.mp hi).1;refine⟨a,vs,x,y,he,e,r,λ ob=>?_⟩
 have s0:Same H0 (upd H0 a (.frz ob (.dK (p_2 (kds.map (·.1)) vs)))):=λ b u q=>by rw[a_6 (b_1 q y)];exact q
 have off:∀ {j:Nat}{sl:Sl},j≠i->(ρ.set i (hld kds))[j]?=some sl->ρ[j]?=some sl:=λ hj q=>by rwa [List.getElem?_set_ne (Ne.symm hj)] at q
 have on:∀ {sl:Sl},(ρ.set i (hld kds))[i]?=some sl->sl=hld kds:=λ q=>by rw[List.getElem?_set_self il] at q;exact (qi q).symm
 refine⟨s0,λ b u q=>?_,R.init.trans s0,λ b u q=>?_,λ b u q m=>?_,λ b m=>?_,by rw[List.length_set];exact R.len,λ j d q=>?_,λ j b o q=>?_,λ j k b1 b2 o1 o2 b q1 q2 q3 q4=>?_⟩
 ·by_cases h:b=a
  ·subst h;rw[a_3] at q ⊢;exact q
  ·rw[a_6 h] at q ⊢;exact R.same b u q
 ·by_cases h:b=a
  ·subst h;exact .inr he
  ·rw[a_6 h] at q;exact R.fresh b u q
 ·rw[a_6 (b_1 q he)];exact R.keep b u q m
 ·by_cases h:b=a
  ·subst h;rw[a_3];exact Option.some_ne_none _
  ·rw[a_6 h];exact R.apt b m
 ·by_cases hj:j=i
  ·subst hj
   have q2:=on q;unfold hld at q2;cases q2;refine⟨.ref a,x,?_⟩;unfold Rep;exact⟨a,ob,vs,rfl,a_3,Reps.mono s0 _ r,by rw[List.length_map,List.length_map]⟩
  ·obtain⟨v,a1,a2⟩:=R.im j d (off hj q)
   exact⟨v,a1,Rep.mono s0 _ a2⟩
 ·by_cases hj:j=i
  ·subst hj
   have q2:=on q;unfold hld at q2;cases q2
  ·have q':=off hj q
   obtain⟨b',x1,y1,z1,w1⟩:=R.ow j b o q';have nb:b'≠a:=λ h=>hj (R.ne j i b false o _ b' q' hi x1 (by rw[h];exact x))
   exact⟨b',x1,by rw[a_6 nb];exact y1,z1,w1.step s0 λ u q=>by rw[a_6 nb];exact q⟩
 ·have n1:j≠i:=λ h=>by subst h;have q5:=on q1;unfold hld at q5;cases q5
  have n2:k≠i:=λ h=>by subst h;have q5:=on q2;unfold hld at q5;cases q5
  exact R.ne j k b1 b2 o1 o2 b (off n1 q1) (off n2 q2) q3 q4
theorem RS.back {H0' H':Hp}{a:Addr}{vs:List V}{ob:Obj} (R:RS K c H0 H ρ σ) (hi:ρ[i]?=some (.ow false (.dic kds))) (x:σ[i]?=some (some (.ref a))) (y:H0 a=none) (he:c.He a=none) (r:Reps K H0 (kds.map (·.2)) vs)
  (sm:Same (upd H0 a (.frz ob (.dK (p_2 (kds.map (·.1)) vs)))) H0') (R':RS K c H0' H' (ρ.set i (hld kds)) σ) (hn:ρ.all ndS=true):Same H0 (less H0' a)/\H' a=some (.frz ob (.dK (p_2 (kds.map (·.1)) vs)))/\RS K c (less H0' a) (upd H' a (.dK (p_2 (kds.map (·.1)) vs))) ρ σ:=by
 have ha:H0' a=some (.frz ob (.dK (p_2 (kds.map (·.1)) vs))):=sm a _ a_3
 have s0:Same H0 (less H0' a):=λ b u q=>by
  have nb:b≠a:=λ h=>by rw[h,y] at q;cases q
  rw[u_2 nb];exact sm b u (by rw[a_6 nb];exact q)
 have off:∀ {j:Nat}{sl:Sl},j≠i->ρ[j]?=some sl->(ρ.set i (hld kds))[j]?=some sl:=λ hj q=>by rw[List.getElem?_set_ne (Ne.symm hj)];exact q
 have ok_at:OwOk K (less H0' a) (upd H' a (.dK (p_2 (kds.map (·.1)) vs))) a (.dic kds):=⟨_,vs,a_3,rfl,Reps.mono s0 _ r⟩;have mine:∀ {b:Bool}{o:MO},ρ[i]?=some (.ow b o)->b=false/\o=.dic kds:=λ q=>by rw[hi] at q;cases q;exact⟨rfl,rfl⟩
 refine⟨s0,R'.same a _ ha,λ b u q=>by rw[a_6 (L_1 q).1];exact R'.same b u (L_1 q).2,λ b u q=>?_,λ b u q=>R'.fresh b u (L_1 q).2,λ b u q m=>?_,λ b m=>?_,R.len,λ j d q=>?_,λ j b o q=>?_,R.ne⟩
 ·exact s0 b u (R.init b u q)
 ·rw[a_6 (b_1 q he)];exact R'.keep b u q m
 ·by_cases h:b=a
  ·subst h;rw[a_3];exact Option.some_ne_none _
  ·rw[a_6 h];exact R'.apt b m
 ·obtain⟨v,a1,a2⟩:=R.im j d q
  exact⟨v,a1,Rep.mono s0 _ a2⟩
 ·by_cases hj:j=i
  ·subst hj
   obtain⟨rfl,rfl⟩:=mine q;exact⟨a,x,ae4,he,ok_at⟩
  ·obtain⟨b',x1,y1,z1,w1⟩:=R'.ow j b o (off hj q)
   have nb:b'≠a:=λ h=>by rw[h,ha] at y1;cases y1
   refine⟨b',x1,by rw[u_2 nb];exact y1,z1,?_⟩
   have hq:ndS (.ow b o)=true:=List.all_eq_true.mp hn _ (List.mem_of_getElem? q);cases o with
   |lst ds=>obtain⟨ws,w2,w3⟩:=w1;exact⟨ws,by rw[a_6 nb];exact w2,Reps.less ha ds hq w3⟩
   |dic kds2=>obtain⟨ks2,ws,w2,w3,w4⟩:=w1;exact⟨ks2,ws,by rw[a_6 nb];exact w2,w3,Reps.less ha _ hq w4⟩
end
section
variable {X:Cx}{pos:Pos}{e:Expr}{F G:FE}{A:FA}
theorem xdx {o k:Expr} (hu:X.A.units+1<cLine) (ho:XE X o F) (hk:XE X k G) (hs:bn7 k:=by exact λ _ _=>rfl):XE X (.Subscript o k pos) (e2 dDx F G) :=
 PE.wk (aJ0 hu ho hk hs) λ σ H Q hh0_=>by
  obtain⟨c,H0,ρ,d,ρ',R,f,q⟩:=hh0_;obtain⟨x,ρ1,y,h1,h2,h3⟩:=q_7 f;unfold dDx at h3
  split at h3
  ·rename_i ks ds k
   refine⟨c,H0,ρ,_,ρ1,R,h1,λ v1 H1 Hh s1 R1 r1=>⟨c,H1,ρ1,_,ρ',R1,h2,λ v2 H2 Hh2 s2 R2 r2=>?_⟩⟩
   have r1':=Rep.mono s2 _ r1;unfold Rep at r1' r2;obtain⟨a,o,ws,rfl,rd0,t,l⟩:=r1';have rd:Rd H2 a (.dK ((ks.map Sum.inr).zip ws)):=.inr ⟨o,rd0⟩;subst r2;have f1:(ks.zip ds).map (·.1)=ks:=List.map_fst_zip (by omega)
   have f2:(ks.zip ds).map (·.2)=ds:=List.map_snd_zip (by omega)
   obtain⟨v,w1,w2⟩:=N_2 (kds:=ks.zip ds) (vs:=ws) (by rw[f2];exact t) h3
   rw[f1] at w1;exact⟨a,v,rfl,.inl ⟨_,.inr k,Same.rd R2.same rd,rfl,w1.symm⟩,q v H2 Hh2 (s1.trans s2) R2 w2⟩
  ·cases h3
end
section
variable {X:Cx}{pos:Pos}{e:Expr}{T:FT}
theorem aU9 (i:Nat) (he:XT X e T):XT X e (tHold i T):=PT.wk (bt5 i he) λ σ H Q hh0_=>by
 obtain⟨c,H0,ρ,d,ρ',R,f,q⟩:=hh0_;unfold tHold N_7 at f;obtain⟨⟨b,kds⟩,h1,f⟩:=a_0 f;have f3:(if b=false/\ρ.all ndS=true then x_2 ρ (ρ.set i (hld kds)) (T (ρ.set i (hld kds))) else none)=some (d,ρ'):=f
 by_cases hc:b=false/\ρ.all ndS=true
 ·rw[if_pos hc] at f3
  obtain⟨rfl,hn⟩:=hc;unfold x_2 at f3;obtain⟨⟨d1,ρ1⟩,h2,f2⟩:=a_0 f3
  by_cases hd:ρ1=ρ.set i (hld kds)
  ·have f4:some (d1,ρ)=some (d,ρ'):=(if_pos hd).symm.trans f2
   cases f4;subst hd;have z:=P_2 h1;obtain⟨a,vs,x,y,hE,e4,r,RR⟩:=R.asData z;refine⟨a,_,x,e4,λ ob=>⟨c,_,_,d,_,(RR ob).2,h2,λ H0' H' sm R'=>?_⟩⟩
   obtain⟨s1,e5,R2⟩:=R.back z x y hE r sm R' hn;exact⟨e5,q _ _ s1 R2⟩
  ·have f4:=(if_neg hd).symm.trans f2
   cases f4
 ·rw[if_neg hc] at f3
  cases f3
theorem bC3 {st:Stmt}:XS X st sNo:=λ _ _ _ _ _ _ ⟨_,_,_,_,_,f,_⟩=>nomatch f
end
section
variable {X:Cx}
theorem aQ7 {K:Frag}{H0 H:Hp}{ks:List Str}{ds:List D}{a:Addr}{o:Obj}{vs:List V}{k:Str} (s:Same H0 H) (ea:H0 a=some (.frz o (.dK ((ks.map Sum.inr).zip vs)))) (t:Reps K H0 ds vs) (l:ks.length=ds.length) :
  ∃ u,DGet H a (.str k) u/\(l_6 k (ks.zip ds)=none->u=none)/\∀ d,l_6 k (ks.zip ds)=some d->∃ v,u=some v/\Rep K H0 d v:=by
 have f1:(ks.zip ds).map (·.1)=ks:=List.map_fst_zip (by omega)
 have f2:(ks.zip ds).map (·.2)=ds:=List.map_snd_zip (by omega)
 have ln:=t.length;refine⟨D_0 (p_2 ks vs) (.inr k),.inl ⟨_,.inr k,.inr ⟨o,s _ _ ea⟩,rfl,rfl⟩,λ h=>?_,λ d h=>?_⟩
 ·have:=N_3 (vs:=vs) (by rw[List.length_zip];omega) h
  rw[f1] at this;exact this
 ·obtain⟨v,w1,w2⟩:=N_2 (by rw[f2];exact t) h
  rw[f1] at w1;exact⟨v,w1,w2⟩
theorem dctX_inv {d:D}{q:List Str×List D} (h:bJ7 d=some q):d=.dct q.1 q.2:=by
 cases d with
 |dct ks vs=>cases h;rfl
 |_=>cases h
theorem strX_inv {d:D}{k:Str} (h:bD6 d=some k):d=.str k:=by
 cases d with
 |str z=>cases h;rfl
 |_=>cases h
theorem bb2 (hu:X.A.units+1<cLine):OpR X (compareOp .In) (λ y x H Q=>∃ a o,x=.ref a/\DGet H a y o/\Q (.bl o.isSome) H):=by
 intro pins s σ H x y v u Q I rx ry h;obtain⟨a,o,rfl,g,q⟩:=h;cases ry;exact bV5 hu I g rx λ s' I'=>⟨.bl o.isSome,H,I',rfl,q⟩
theorem bh0 {K:Frag}{H0 H:Hp}{ks:List Str}{ds:List D}{vx vy:V}{k:Str} (s:Same H0 H) (r1:Rep K H0 (.str k) vx) (r2:Rep K H0 (.dct ks ds) vy):∃ a o,vy=.ref a/\DGet H a vx o/\o.isSome=(l_6 k (ks.zip ds)).isSome:=by
 unfold Rep at r1 r2;subst r1;obtain⟨a,ob,vs,rfl,ea,t,l⟩:=r2;obtain⟨u,dg,hn,hs⟩:=aQ7 (k:=k) s ea t l;refine⟨a,u,rfl,dg,?_⟩;cases z:l_6 k (ks.zip ds) with
 |none=>rw[hn z];rfl
 |some d=>obtain⟨v,e,_⟩:=hs d z;rw[e];rfl
theorem bL8 (hu:X.A.units+1<cLine):l_2 X .In aw5:=⟨_,bb2 hu,λ c H0 H ρ σ x y d vx vy Q R r1 r2 e q=>by
 unfold aw5 at e;obtain⟨⟨ks,ds⟩,g1,e⟩:=a_0 e;obtain⟨k,g2,e⟩:=a_0 e;cases dctX_inv g1;cases strX_inv g2;cases e;obtain⟨a,o,rfl,dg,z⟩:=bh0 R.same r1 r2;exact⟨a,o,rfl,dg,by rw[z];exact q _ H0 H (Same.refl _) R (by unfold Rep;rfl)⟩⟩
end
structure YE (X:Cx) (e:Expr) (F:FE):Prop where
 go:XE X e F
structure YA (X:Cx) (es:List Expr) (F:FA):Prop where
 go:XA X es F
structure YS (X:Cx) (st:Stmt) (F:FS):Prop where
 go:XS X st F
structure YSs (X:Cx) (st:List Stmt) (F:FS):Prop where
 go:XSs X st F
section
variable {X:Cx}{a b e:Expr}{es:List Expr}{F G:FE}{A:FA}{pos:Pos}{st:Stmt}{ss body:List Stmt}{B C:FS}{T:FT}
theorem ye (h:XE X e F):YE X e F:=⟨h⟩
theorem yb {op:Operator}{f:D->D->Option D} (o:C_7 X op f) (ha:YE X a F) (hb:YE X b G):YE X (.BinOp a op b pos) (e2 f F G):=⟨xb o ha.go hb.go⟩
theorem yix (ha:YE X a F) (hb:YE X b G) (hs:M_9 b:=by intro _ _;rfl):YE X (.Subscript a b pos) (e2 a_8 F G):=⟨c_6 ha.go hb.go hs⟩
theorem bi9 (h:YA X es A):YE X (.List es pos) (k_1 A):=⟨I_8 h.go⟩
theorem X_6 {x1} (h:YA X es A):YE X (.Tuple es x1 pos) (g_8 A):=⟨v_6 h.go⟩
theorem yaN:YA X [] aN:=⟨xaN⟩
theorem yaC (ha:YE X e F) (hr:YA X es A) (hs:starEach (e::es) X.env=(false,eval e X.env)::starEach es X.env:=by rfl):YA X (e::es) (aC F A):=⟨xaC ha.go hr.go hs⟩
theorem yx (h:XS X st B):YS X st B:=⟨h⟩
theorem ysN:YSs X [] sN:=⟨xsN⟩
theorem ys1 (h:YS X st B):YSs X [st] B:=⟨xs1 h.go⟩
theorem ysC (h:YS X st B) (k:YSs X ss C):YSs X (st::ss) (b_4 B C):=⟨xsC h.go k.go⟩
theorem Y_5 (i:Nat) {x:Str}{pos':Pos} (hN:X.N.Nodup) (he:YE X e F) (hi:X.N[i]?=some x:=by rfl) (hx:Loc X.env.scope x:=by first | exact Or.inl rfl | exact Or.inr rfl) (hs:swapsWith e (some (.Name x pos')) pos.line X.env=pure false:=by rfl)
  (hf:X.fn x=true\/X.env.scope.names.lookup x=some .local:=by first | exact .inl rfl | exact .inr rfl):YS X (.Assign [.Name x pos'] e pos) (e_6 i F):=⟨k_0 i hN he.go hi hx hs hf⟩
theorem aS8 (he:YE X e F):YS X (.Return (some e) pos) (c_9 F):=⟨f_9 he.go⟩
theorem yif (hc:XT X e T) (ha:YSs X ss B) (hb:YSs X body C):YS X (.If e ss body pos) (sIf T B C):=⟨h_8 hc ha.go hb.go⟩
end
section
variable {X:Cx}{pos:Pos}{a e:Expr}{F:FE}{A:FA}
theorem aV3 (ha:XE X a F):XE X (.UnaryOp .Not a pos) (W_3 F):=λ pins s σ H Q I hh0_=>by
 obtain⟨c,H0,ρ,d,ρ',R,f,q⟩:=hh0_;unfold W_3 R_9 at f;obtain⟨⟨z,ρ1⟩,h1,f⟩:=a_0 f;unfold R_8 at f;obtain⟨k,h2,f⟩:=a_0 f;cases f;refine UnaryOp_ (thn (ha pins s σ H (λ v Hh=>∃ H1,Same H0 H1/\RS X.K c H1 Hh ρ1 σ/\Rep X.K H1 z v) I ⟨c,H0,ρ,z,_,R,h1,λ v H1 Hh s1 R1 r1=>⟨H1,s1,R1,r1⟩⟩) λ v s1 ⟨x,Hh,I1,rx,H1,sm,R1,r1⟩=>not_of ?_)
 exact wpAny_mono (ay9 pins s1 σ Hh x v (λ b H'=>b=k/\H'=Hh) I1 rx ⟨k,az0 R1.same r1 h2,rfl,rfl⟩) (λ b s2 hh0_=>by obtain⟨H',I2,eb,eH⟩:=hh0_;subst eb eH;exact⟨.bl (!b),H',I2,rfl,q _ H1 H' sm R1 (by unfold Rep;rfl)⟩) λ _ _ z=>z
theorem bM7 {rpos:Pos} (h:XO' X e A):PS X (.Return (some e) rpos) (tN X.K (nFr A)) :=
 PS.wk (az7 h) λ Dn σ H hh0_=>by
  obtain⟨Hi,He,H0,ρ,o,R,f,q⟩:=hh0_;unfold nFr bl1 at f;obtain⟨⟨ds,ρ1⟩,h1,f⟩:=a_0 f;cases f;refine⟨⟨Hi,He,[]⟩,H0,ρ,ds,ρ1,R,h1,λ p vs H1 Hh s1 R1 hp r1=>?_⟩
  have pn:H1 p=none:=R1.same.free hp;refine q p H1 _ ⟨R1.init,λ b u hb=>?_,λ b u hb=>?_,R1.fresh,pn,?_,vs,a_3,r1⟩
  ·rw[a_6 (b_1 hb pn)];exact R1.same b u hb
  ·have hb':=R1.keep b u hb (by simp)
   rw[a_6 (b_1 hb' hp)];exact hb'
  ·cases hz:He p with
   |none=>rfl
   |some u=>have:=R1.keep p u hz (by simp);rw[hp] at this;cases this
theorem xnL {st:Stmt}{N:En->Option MO} (h:PS X st (tN X.K N)):XN X [st] N:=ab6 h
end
def aE8 (r r' r'':R2) (ta tb tc td:TE):TE:=λ σ H Q=>ta σ H λ x H1=>tb σ H1 λ y H2=>r x y H2 λ z H3=>∃ k,z=.bl k /\
 (if k=true then tc σ H3 λ u H4=>r' y u H4 λ z' H5=>∃ k',z'=.bl k'/\(if k'=true then td σ H5 λ w' H6=>r'' u w' H6 Q else Q (.bl false) H5) else Q (.bl false) H3)
section
variable {X:Cx}{pos:Pos}{a b c d:Expr}{ta tb tc td:TE}{F G L M:FE}
theorem ac3 {op op' op'':CmpOp}{r r' r'':R2} (ho:OpR X (compareOp op) r) (ho':OpR X (compareOp op') r') (ho'':OpR X (compareOp op'') r'') (ha:PE X a ta) (hb:PE X b tb) (hc:PE X c tc) (hd:PE X d td)
  (hm:lastMarks [op,op',op''] [b,c,d]=false):PE X (.Compare a [op,op',op''] [b,c,d] pos) (aE8 r r' r'' ta tb tc td):=by
 intro pins s σ H Q I h;refine Compare_chain (thn (ha pins s σ H _ I h) λ v s1=>ex5 λ x H1 I1 r1 q1=>chain_link (thn (hb pins s1 σ H1 _ I1 q1) λ u s2=>ex5 λ y H2 I2 r2 q2 =>
  thn (ho pins s2 σ H2 x y v u _ I2 r1 r2 q2) λ dd s3 ⟨z,H3,I3,r3,k,e,q3⟩=>?_)) hm
 subst e;cases r3;refine wpAny_truthy_bool ?_;cases k with
 |false=>exact ite_ff ⟨.bl false,H3,I3,rfl,q3⟩
 |true =>
  refine ite_tt (chain_link (thn (hc pins s3 σ H3 _ I3 q3) λ w' s4=>ex5 λ z' H4 I4 r4 q4=>thn (ho' pins s4 σ H4 y z' u w' _ I4 r2 r4 q4) λ ee s5 hh0_=>?_))
  obtain⟨z5,H5,I5,r5,k5,e5,q5⟩:=hh0_;subst e5;cases r5;refine wpAny_truthy_bool ?_;cases k5 with
  |false=>exact ite_ff ⟨.bl false,H5,I5,rfl,q5⟩
  |true=>exact ite_tt (chain_last (thn (hd pins s5 σ H5 _ I5 q5) λ w6 s6=>ex5 λ z6 H6 I6 r6 q6=>ho'' pins s6 σ H6 z' z6 w' w6 Q I6 r4 r6 q6))
theorem ak5 {z:D}{b:Bool} (h:blB z=some b):z=.bl b:=by
 cases z with
 |bl k=>cases h;rfl
 |_=>cases h
theorem bo2 {op op' op'':CmpOp}{f f' f'':D->D->Option D} (o:l_2 X op f) (o':l_2 X op' f') (o'':l_2 X op'' f'') (ha:XE X a F) (hb:XE X b G) (hc:XE X c L) (hd:XE X d M) (hm:lastMarks [op,op',op''] [b,c,d]=false:=by with_unfolding_all rfl) :
  XE X (.Compare a [op,op',op''] [b,c,d] pos) (e4 f f' f'' F G L M):=by
 obtain⟨r,h1,h2⟩:=o;obtain⟨r',h1',h2'⟩:=o';obtain⟨r'',h1'',h2''⟩:=o'';refine PE.wk (ac3 h1 h1' h1'' ha hb hc hd hm) λ σ H Q hh0_=>?_
 obtain⟨c,H0,ρ,w,ρ',R,g,q⟩:=hh0_;unfold e4 e4a at g;obtain⟨⟨x,ρ1⟩,g1,t1⟩:=a_0 g;unfold lk3 at t1;obtain⟨⟨y,ρ2⟩,g2,t2⟩:=a_0 t1;unfold bl4 at t2;obtain⟨z,g3,t3⟩:=a_0 t2;unfold bl3 at t3;obtain⟨k,g4,t4⟩:=a_0 t3
 clear g t1 t2 t3
 dsimp only at g2 g3 g4 t4;have ez:=ak5 g4;subst ez;refine⟨c,H0,ρ,x,ρ1,R,g1,λ vx H1 Hh s1 R1 r1=>⟨c,H1,ρ1,y,ρ2,R1,g2,λ vy H2 Hh2 s2 R2 r2=>?_⟩⟩
 refine h2 c H2 Hh2 ρ2 σ x y _ vx vy _ R2 (Rep.mono s2 x r1) r2 g3 λ v H3 Hh3 s3 R3 r3=>?_
 unfold Rep at r3;refine⟨k,r3,?_⟩;cases k with
 |false =>
  rw[if_neg Bool.false_ne_true] at t4 ⊢;cases t4;exact q _ H3 Hh3 (s1.trans (s2.trans s3)) R3 (by unfold Rep;rfl)
 |true =>
  rw[if_pos rfl] at t4 ⊢;unfold lk2 at t4;obtain⟨⟨u,ρ3⟩,g5,t5⟩:=a_0 t4;unfold bl6 at t5;obtain⟨z',g6,t6⟩:=a_0 t5;unfold bl5 at t6;obtain⟨k',g7,t7⟩:=a_0 t6
  clear t4 t5 t6
  dsimp only at g6 g7 t7;have ez:=ak5 g7;subst ez;refine⟨c,H3,ρ2,u,ρ3,R3,g5,λ vu H4 Hh4 s4 R4 r4=>?_⟩
  refine h2' c H4 Hh4 ρ3 σ y u _ vy vu _ R4 (Rep.mono s4 y (Rep.mono s3 y r2)) r4 g6 λ v' H5 Hh5 s5 R5 r5=>?_
  unfold Rep at r5;refine⟨k',r5,?_⟩;cases k' with
  |false =>
   rw[if_neg Bool.false_ne_true] at t7 ⊢;cases t7;exact q _ H5 Hh5 (s1.trans (s2.trans (s3.trans (s4.trans s5)))) R5 (by unfold Rep;rfl)
  |true =>
   rw[if_pos rfl] at t7 ⊢;unfold lk1 mkP at t7;obtain⟨⟨t,ρ4⟩,g8,t8⟩:=a_0 t7;obtain⟨w',g9,t9⟩:=a_0 t8;dsimp only at g9 t9;cases t9;refine⟨c,H5,ρ3,t,ρ',R5,g8,λ vt H6 Hh6 s6 R6 r6=>?_⟩
   exact h2'' c H6 Hh6 ρ' σ u t w vu vt Q R6 (Rep.mono s6 u (Rep.mono s5 u r4)) r6 g9 λ v7 H7 Hh7 s7 R7 r7=>q v7 H7 Hh7 (s1.trans (s2.trans (s3.trans (s4.trans (s5.trans (s6.trans s7)))))) R7 r7
end
end Fx
namespace L2
open PySem PySem.Spec PyProof.Rows
set_option maxRecDepth 8000 in
theorem av3 (l:Addr) (xs:Array Value) (n:Nat) (b:Addr) (ys:Array Value) (m:Nat) (dd:Option Addr) (sl:Array (Option Value))
  (h0:¬(!xs.isEmpty&&Builtin.List.listTooLong (xs.size+ys.size))=true) (h1:xs.size<=sizeLine) (h2:xs.size+ys.size<=sizeLine+1) :
  Meets (Builtin.«list.extend» ⟨[.ref l,.ref b],[]⟩) (λ _ R s=>s.heap.get? l=some {cls:=.type "list",data:=.seq xs n} ∧ s.heap.get? b=some {cls:=.type "tuple",dict:=dd,data:=.seq ys m,slots:=sl} ∧
   R (.ok (.ret Value.none)) {s with heap:=s.heap.update l (Obj.mapSeq λ x=>x++ys),toks:=s.toks}) :=
 .of_wp λ prog w A R s h=>by
  obtain⟨hp,g,d,tk,os⟩:=s;obtain⟨hl,hb,h⟩:=h;have t1:=AutoSeq1.sub_tuple_tuple;have t2:=AutoSeq1.sub_list_list;have t3:=AutoSeq1.sub_tuple_list;have hz:(xs++ys).size<=sizeLine+1:=Array.size_append▸h2
  wp_walk using (wpAny_updateSeq hl rfl (hz:=h1) (_hz':=hz)),wpAny_loadPart' hl,wpAny_loadPart' hb
  exact⟨_,rfl,h⟩
section
variable {X:Cx}
def bt2 (K:Frag):V->List V->Hp->VK->Prop:=λ x vs H Q=>∃ l b xs zs,x=.ref l/\vs=[.ref b]/\H l=some (.lst xs)/\SqT K H b zs/\xs.length+zs.length<=sizeLine/\Q .non (upd H l (.lst (xs++zs)))
theorem aK9:MtM X "list.extend" (bt2 X.K):=by
 intro pins s σ H x vs v us Q I rx rv h;obtain⟨l,b,xs,zs,rfl,rfl,hH,hB,hz,q⟩:=h;cases rx;obtain⟨u,rfl,ru⟩:=rv.one;cases ru;obtain⟨_,its,n,r,hl,e⟩:=I.lstM hH;obtain⟨ys,r2,⟨⟨cl,dd,da,sl⟩,e2,hc,m,hd⟩,_⟩:=I.tuple hB;cases hc;cases hd;have hl2:=r2.length;have big:its.toArray.size+ys.toArray.size<=sizeLine:=by rw[List.size_toArray,List.size_toArray];omega
 refine call_meets F.slot_list_extend ⟨_,e,rfl⟩ F.entry_list_extend (F.args_list_extend_2 _ _)
  (av3 l its.toArray n b ys.toArray m dd sl (by rw[A_7 big,Bool.and_false];exact qp) (by rw[List.size_toArray];omega) (by omega)) ⟨e,e2,?_⟩
 refine⟨.non,_,I.lset (its':=its++ys) hH e (by simp) (r.append r2) ?_,rfl,q⟩
 rw[List.length_append];omega
end
end L2
namespace Fx
open PySem PySem.Spec PyProof.Rows L2
def dTL:D->Option D
 |.tup xs=>some (.lst xs)
 |_=>none
@[simp] theorem bV6 (xs:List D):dTL (.tup xs)=some (.lst xs):=Eq.trans rfl rfl
section
variable {X:Cx}{pos:Pos}{e:Expr}{F:FE}
theorem bo1 (i:Nat) {x:Str}{p1 p2 p3:Pos} (he:XE X e F) (hN:X.N[i]?=some x:=by rfl) (hv:Vis X.env.scope x:=by first | exact Or.inl rfl | exact Or.inr (Or.inl rfl) | exact Or.inr (Or.inr rfl)) (hd:(x==("__debug__":Str))=false:=by decide)
  (hcd:(x==("__classdict__":Str))=false:=by decide) (hbase:attributeBase (.Name x p1) "extend" X.env (eval (.Name x p1) X.env)=eval (.Name x p1) X.env:=by rfl)
  (hfew:((backTo p3 (starEach [e] X.env)).all (λ x=>!x.1)&&(backToKw p3 (keywordEach [] X.env)).all (λ x=>x.1.isSome)&&decide ([e].length+([]:List Keyword).length+(if ([]:List Keyword).isEmpty then 0 else 1)<30))=true:=by rfl)
  (hline:(p2.endLine==p3.line)=true:=by rfl) (hst:starEach [e] X.env=(false,eval e X.env)::starEach [] X.env:=by rfl) (hpl:(backTo p3 (starEach [] X.env)).any (·.1)=false:=by rfl)
  (hs:swapsWith (.Call (.Attribute (.Name x p1) "extend" p2) [e] [] p3) none pos.line X.env=pure false:=by rfl) :
  XS X (.Expr (.Call (.Attribute (.Name x p1) "extend" p2) [e] [] p3) pos) (aF8 i (e1 dTL F)) :=
 PS.wk (t_7 (K_1 PySem.F.plainAttrs_list PySem.F.slot_list_extend PySem.F.type_list_extend aK9 (o_7 hN hv hd hcd) (i_3 he o_8 hst) hbase hfew hline hst hpl) hs) λ Dn σ H hh0_=>by
  obtain⟨c,H0,ρ,r,R,f,q⟩:=hh0_;unfold aF8 ab1 at f;obtain⟨ds0,h0,f⟩:=a_0 f;unfold ab0 at f;obtain⟨⟨d,ρ1⟩,h1,f⟩:=a_0 f;unfold aa9 at f;obtain⟨xs,h2,f⟩:=a_0 f;unfold aa8 at f;obtain⟨ds,h3,f⟩:=a_0 f;dsimp only at h2 h3 f;obtain⟨hl,f'⟩:=ifs f;cases f';unfold e1 at h1;obtain⟨⟨d0,ρ0⟩,h5,g⟩:=a_0 h1;obtain⟨d1,h4,g⟩:=a_0 g;cases g;obtain⟨a,x1,_,_,vs0,y1,_⟩:=R.ow i _ _ (i_4 h0);refine⟨.ref a,x1,.inl ⟨rfl,vs0,SqL.of y1⟩,c,H0,ρ,d0,ρ0,R,h5,λ v H1 Hh s1 R1 rv=>?_⟩
  cases d0 with
  |tup zs =>
   cases h4;cases h2;unfold Rep at rv;obtain⟨b,ws,rfl,sb,rz⟩:=rv;obtain⟨a',x2,_,_,vs,y2,z2⟩:=R1.ow i _ _ (i_4 h3);rw[x1] at x2;cases x2;have l1:=z2.length;have l2:=rz.length;refine⟨a,b,vs,ws,rfl,rfl,y2,Same.seqT R1.same sb,?_,?_⟩
   ·have:(1000:Nat)<=sizeLine:=by decide
    omega
   ·exact q σ _ _ s1 (R1.mutOwn (o':=.lst (ds++xs)) (u:=.lst (vs++ws)) (i_4 h3) x1 ⟨_,a_3,z2.app rz⟩)
  |_=>cases h4
end
end Fx
namespace Fx
open PySem
noncomputable section
def S_8:FS :=
 (b_4 (sIf (tOr (tNot (tV (eTy .str (eV 0)))) (tNot (tB (e3 dLe dLe (eC (.int 1)) (eF f_3 (aC (eV 0) aN)) (eC (.int 8))))))
 (c_9 (eC (.bl false)))
 sN)
 (c_9 (eF I_4 (aC (eLC [] (eV 0) tYes (e2 d_5 (eV 0) (eC (.str "abcdefghijklmnopqrstuvwxyz")))) aN))))
def m_8:List D->Option D:=fnD 1 0 S_8
def i_6:FS :=
 (b_4 (e_6 1 (eIf (tV (e2 S_1 (eV 0) (eC (.str "-")))) (G_5 (eV 0) (oS (eC (.int 1))) oN) (eV 0)))
 (b_4 (sIf (tOr (tNot (tB (e3 dLe dLe (eC (.int 1)) (eF f_3 (aC (eV 1) aN)) (eC (.int 12))))) (tNot (tV (eF I_4 (aC (eLC [] (eV 1) tYes (e2 d_5 (eV 0) (eC (.str "0123456789")))) aN)))))
 (c_9 (eC (.bl false)))
 sN)
 (c_9 (eOr (e2 dEq (eV 0) (eC (.str "0"))) (e2 dNe (e2 a_8 (eV 1) (eC (.int 0))) (eC (.str "0")))))))
def c_4:List D->Option D:=fnD 1 1 i_6
def k_9:FS :=
 (b_4 (e_6 2 (eIf (tAnd (tB (e2 dEq (eV 0) (eC (.str "ask")))) (tB (e2 dGt (eV 1) (eC (.int 2))))) (e2 f_8 (e1 (dKx [((Str.ofString "in"),(.str "NAME LOW HIGH")),((Str.ofString "time"),(.str "NAME FROM BEGIN END")),((Str.ofString "only"),(.str "NAME FROM KEY ..")),((Str.ofString "but"),(.str "NAME FROM KEY ..")),((Str.ofString "span"),(.str "NAME FROM LOW HIGH")),((Str.ofString "rest"),(.str "NAME FROM M R")),((Str.ofString "turn"),(.str "NAME FROM A B")),((Str.ofString "later"),(.str "NAME FROM C")),((Str.ofString "put"),(.str "NAME FROM KEY OTHER ..")),((Str.ofString "pour"),(.str "NAME FROM FROM ..")),((Str.ofString "pair"),(.str "NAME LEFT RIGHT REACH HOW")),((Str.ofString "fixed"),(.str "NAME FROM WIDTH FOLD")),((Str.ofString "slide"),(.str "NAME FROM WIDTH STEP FOLD")),((Str.ofString "gaps"),(.str "NAME FROM GAP FOLD")),((Str.ofString "ever"),(.str "NAME FROM FOLD")),((Str.ofString "ask"),(.str "NAME FROM"))]) (eV 0)) (eC (.str " LOW HIGH"))) (e1 (dKx [((Str.ofString "in"),(.str "NAME LOW HIGH")),((Str.ofString "time"),(.str "NAME FROM BEGIN END")),((Str.ofString "only"),(.str "NAME FROM KEY ..")),((Str.ofString "but"),(.str "NAME FROM KEY ..")),((Str.ofString "span"),(.str "NAME FROM LOW HIGH")),((Str.ofString "rest"),(.str "NAME FROM M R")),((Str.ofString "turn"),(.str "NAME FROM A B")),((Str.ofString "later"),(.str "NAME FROM C")),((Str.ofString "put"),(.str "NAME FROM KEY OTHER ..")),((Str.ofString "pour"),(.str "NAME FROM FROM ..")),((Str.ofString "pair"),(.str "NAME LEFT RIGHT REACH HOW")),((Str.ofString "fixed"),(.str "NAME FROM WIDTH FOLD")),((Str.ofString "slide"),(.str "NAME FROM WIDTH STEP FOLD")),((Str.ofString "gaps"),(.str "NAME FROM GAP FOLD")),((Str.ofString "ever"),(.str "NAME FROM FOLD")),((Str.ofString "ask"),(.str "NAME FROM"))]) (eV 0))))
 (b_4 (aa7 3 (oFr (e2 q_8 (eV 2) (eC (.str " ")))))
 (b_4 (sIf (tHoldL 3 (tB (e2 dEq (e2 a_8 (eV 3) (e1 am4 (eC (.int 1)))) (eC (.str "..")))))
 (b_4 (bj7 3)
 (bk1 3 (aJ9 (aC (eHoldL 3 (e2 a_8 (eV 3) (e1 am4 (eC (.int 1))))) aN) (e2 ai5 (eV 1) (eHoldL 3 (eF f_3 (aC (eV 3) aN)))))))
 sN)
 (O_0 3 (c_9 (eV 3))))))
def c_7:List D->Option D:=fnD 2 2 k_9
def y_7:FS :=
 (b_4 (sIf (tB (e2 d_5 (eV 0) (eC (.tup [(.str "NAME"),(.str "FROM"),(.str "LEFT"),(.str "RIGHT"),(.str "KEY"),(.str "OTHER")]))))
 (c_9 (eF m_8 (aC (eV 1) aN)))
 sN)
 (b_4 (sIf (tB (e2 dEq (eV 0) (eC (.str "HOW"))))
 (c_9 (e2 d_5 (eV 1) (eC (.tup [(.str "sum"),(.str "less"),(.str "left"),(.str "right")]))))
 sN)
 (b_4 (sIf (tB (e2 dEq (eV 0) (eC (.str "FOLD"))))
 (c_9 (e2 d_5 (eV 1) (eC (.tup [(.str "count"),(.str "sum"),(.str "most"),(.str "least")]))))
 sN)
 (c_9 (eOr (eF c_4 (aC (eV 1) aN)) (W_4 (e2 dEq (eV 1) (eC (.str "*"))) (e2 d_5 (eV 0) (eC (.tup [(.str "LOW"),(.str "HIGH"),(.str "END")])))))))))
def g_1:List D->Option D:=fnD 2 0 y_7
def j_5:FS :=
 (b_4 (sIf (tB (e2 dEq (eV 0) (eC (.str "*"))))
 (c_9 (eC .non))
 sN)
 (c_9 (eIf (tV (eF c_4 (aC (eV 0) aN))) (eF ax4 (aC (eV 0) aN)) (eV 0))))
def c_2:List D->Option D:=fnD 1 0 j_5
def X_4:FS :=
 (c_9 (eOr (e2 dIs (eV 0) (eC .non)) (eOr (e2 dIs (eV 1) (eC .non)) (e2 dLe (eV 0) (eV 1)))))
def m_9:List D->Option D:=fnD 2 0 X_4
def r_2:FS :=
 (c_9 (e2 dEq (eF v_5 (aC (eV 0) aN)) (eF f_3 (aC (eV 0) aN))))
def e_1:List D->Option D:=fnD 1 0 r_2
def n_4:FS :=
 (b_4 (sIf (tB (e2 d_5 (eV 0) (g_8 (aC (eC (.str "in")) (aC (eC (.str "span")) (aC (eC (.str "ask")) aN))))))
 (c_9 (eOr (W_3 (eV 2)) (eF m_9 (aC (e2 a_8 (eV 2) (eC (.int 0))) (aC (e2 a_8 (eV 2) (eC (.int 1))) aN)))))
 sN)
 (b_4 (sIf (tB (e2 dEq (eV 0) (eC (.str "time"))))
 (c_9 (W_4 (e2 dGe (e2 a_8 (eV 2) (eC (.int 0))) (eC (.int 0))) (eOr (e2 dIs (e2 a_8 (eV 2) (eC (.int 1))) (eC .non)) (e2 dLt (e2 a_8 (eV 2) (eC (.int 0))) (e2 a_8 (eV 2) (eC (.int 1)))))))
 sN)
 (b_4 (sIf (tB (e2 d_5 (eV 0) (g_8 (aC (eC (.str "only")) (aC (eC (.str "but")) aN)))))
 (c_9 (W_4 (e2 dLe (eF f_3 (aC (eV 2) aN)) (eC (.int 8))) (eF e_1 (aC (eV 2) aN))))
 sN)
 (b_4 (sIf (tB (e2 dEq (eV 0) (eC (.str "rest"))))
 (c_9 (W_4 (e3 dLe dLe (eC (.int 2)) (e2 a_8 (eV 2) (eC (.int 0))) (eC (.int 1000))) (e3 dLe dLt (eC (.int 0)) (e2 a_8 (eV 2) (eC (.int 1))) (e2 a_8 (eV 2) (eC (.int 0))))))
 sN)
 (b_4 (sIf (tB (e2 dEq (eV 0) (eC (.str "turn"))))
 (c_9 (W_4 (e3 dLe dLe (e1 am4 (eC (.int 1000))) (e2 a_8 (eV 2) (eC (.int 0))) (eC (.int 1000))) (e2 dNe (e2 a_8 (eV 2) (eC (.int 0))) (eC (.int 0)))))
 sN)
 (b_4 (sIf (tB (e2 dEq (eV 0) (eC (.str "put"))))
 (c_9 (W_4 (e2 d_5 (eF f_3 (aC (eV 2) aN)) (g_8 (aC (eC (.int 2)) (aC (eC (.int 4)) (aC (eC (.int 6)) (aC (eC (.int 8)) aN)))))) (eF e_1 (aC (e1 (X_8 0) (eV 2)) aN))))
 sN)
 (b_4 (sIf (tB (e2 dEq (eV 0) (eC (.str "pour"))))
 (c_9 (W_4 (e2 dLe (eF f_3 (aC (eV 1) aN)) (eC (.int 8))) (eF e_1 (aC (eV 1) aN))))
 sN)
 (b_4 (sIf (tB (e2 d_5 (eV 0) (g_8 (aC (eC (.str "later")) (aC (eC (.str "pair")) aN)))))
 (c_9 (e2 dGe (e2 a_8 (eV 2) (eC (.int 0))) (eC (.int 0))))
 sN)
 (b_4 (sIf (tB (e2 dEq (eV 0) (eC (.str "slide"))))
 (c_9 (e4 dLe dLt dLe (eC (.int 1)) (e2 a_8 (eV 2) (eC (.int 1))) (e2 a_8 (eV 2) (eC (.int 0))) (e2 X_9 (eC (.int 20)) (e2 a_8 (eV 2) (eC (.int 1))))))
 sN)
 (c_9 (eOr (e2 dEq (eV 0) (eC (.str "ever"))) (e2 dGe (e2 a_8 (eV 2) (eC (.int 0))) (eC (.int 1))))))))))))))
def a_2:List D->Option D:=fnD 3 0 n_4
def y_4:FS :=
 (b_4 (e_6 1 (e2 q_8 (eV 0) (eC (.str " "))))
 (b_4 (e_6 2 (e2 a_8 (eV 1) (eC (.int 0))))
 (b_4 (sIf (tB (e1 (W_7 [((Str.ofString "in"),(.str "NAME LOW HIGH")),((Str.ofString "time"),(.str "NAME FROM BEGIN END")),((Str.ofString "only"),(.str "NAME FROM KEY ..")),((Str.ofString "but"),(.str "NAME FROM KEY ..")),((Str.ofString "span"),(.str "NAME FROM LOW HIGH")),((Str.ofString "rest"),(.str "NAME FROM M R")),((Str.ofString "turn"),(.str "NAME FROM A B")),((Str.ofString "later"),(.str "NAME FROM C")),((Str.ofString "put"),(.str "NAME FROM KEY OTHER ..")),((Str.ofString "pour"),(.str "NAME FROM FROM ..")),((Str.ofString "pair"),(.str "NAME LEFT RIGHT REACH HOW")),((Str.ofString "fixed"),(.str "NAME FROM WIDTH FOLD")),((Str.ofString "slide"),(.str "NAME FROM WIDTH STEP FOLD")),((Str.ofString "gaps"),(.str "NAME FROM GAP FOLD")),((Str.ofString "ever"),(.str "NAME FROM FOLD")),((Str.ofString "ask"),(.str "NAME FROM"))]) (eV 2)))
 (c_9 (eC .non))
 sN)
 (b_4 (e_6 3 (eF c_7 (aC (eV 2) (aC (e2 ai5 (eF f_3 (aC (eV 1) aN)) (eC (.int 1))) aN))))
 (b_4 (e_6 4 (e2 aw0 (eV 3) (G_5 (eV 1) (oS (eC (.int 1))) oN)))
 (b_4 (sIf (tOr (tB (e2 dNe (eF f_3 (aC (eV 3) aN)) (e2 ai5 (eF f_3 (aC (eV 1) aN)) (eC (.int 1))))) (tNot (tV (eF I_4 (aC (am2 [] (eV 4) tYes (eF g_1 (aC (eV 0) (aC (eV 1) aN)))) aN)))))
 (c_9 (eC .non))
 sN)
 (b_4 (e_6 5 (eF m_0 (aC (am2 [] (eV 4) (tB (e2 d_5 (eV 0) (eC (.tup [(.str "FROM"),(.str "LEFT"),(.str "RIGHT")])))) (eV 1)) aN)))
 (b_4 (e_6 6 (eF m_0 (aC (eLC [] (G_5 (eV 1) (oS (e2 f_8 (eC (.int 2)) (eF f_3 (aC (eV 5) aN)))) oN) tYes (eF c_2 (aC (eV 0) aN))) aN)))
 (b_4 (sIf (tNot (tV (eF a_2 (aC (eV 2) (aC (eV 5) (aC (eV 6) aN))))))
 (c_9 (eC .non))
 sN)
 (b_4 (sIf (tB (e2 dEq (eV 2) (eC (.str "put"))))
 (e_6 6 (e2 W_6 (e1 (X_8 0) (eV 6)) (e1 (X_8 1) (eV 6))))
 sN)
 (c_9 (g_8 (aC (eV 2) (aC (e2 a_8 (eV 1) (eC (.int 1))) (aC (eV 5) (aC (eV 6) aN))))))))))))))))
def f_2:List D->Option D:=fnD 1 6 y_4
def w_9:FS :=
 (b_4 (e_6 3 (e2 a_8 (e2 a_8 (eV 0) (eC (.int 3))) (e1 am4 (eC (.int 1)))))
 (b_4 (sIf (tOr (tB (e2 dEq (e2 a_8 (eV 0) (eC (.int 0))) (eC (.str "gaps")))) (tOr (tB (e2 dEq (eV 3) (eC (.str "sum")))) (tB (e2 dEq (e2 a_8 (e2 dDx (eV 1) (e2 a_8 (e2 a_8 (eV 0) (eC (.int 2))) (eC (.int 0)))) (eC (.int 0))) (eC (.str "pair"))))))
 (c_9 (eC (.bl false)))
 sN)
 (c_9 (eOr (e2 dNe (eV 3) (eC (.str "count"))) (W_4 (e2 l_8 (eV 2) (eC .non)) (e3 dLe dLe (eC (.int 1)) (eV 2) (eC (.int 50))))))))
def e_0:List D->Option D:=fnD 3 1 w_9
def w_8:FS :=
 (b_4 (sIf (tOr (tB (e2 aw5 (e2 a_8 (eV 0) (eC (.int 1))) (eV 1))) (tNot (tV (eF I_4 (aC (eLC [1] (e2 a_8 (eV 0) (eC (.int 2))) tYes (e2 aw5 (eV 0) (eV 1))) aN)))))
 (c_9 (eC (.bl false)))
 sN)
 (b_4 (e_6 2 (eLC [1] (e2 a_8 (eV 0) (eC (.int 2))) tYes (e2 dDx (eV 1) (eV 0))))
 (b_4 (sIf (tB (e2 dEq (e2 a_8 (eV 0) (eC (.int 0))) (eC (.str "ask"))))
 (c_9 (W_4 (e2 d_5 (e2 a_8 (e2 a_8 (eV 2) (eC (.int 0))) (eC (.int 0))) (eC (.tup [(.str "fixed"),(.str "slide"),(.str "gaps"),(.str "ever")]))) (eOr (W_3 (e2 a_8 (eV 0) (eC (.int 3)))) (eF e_0 (aC (e2 a_8 (eV 2) (eC (.int 0))) (aC (eV 1) (aC (e2 a_8 (e2 a_8 (eV 0) (eC (.int 3))) (eC (.int 0))) aN)))))))
 sN)
 (b_4 (sIf (tAnd (tB (e2 d_5 (e2 a_8 (eV 0) (eC (.int 0))) (g_8 (aC (eC (.str "fixed")) (aC (eC (.str "slide")) (aC (eC (.str "ever")) aN)))))) (tB (e2 dEq (e2 a_8 (e2 a_8 (eV 2) (eC (.int 0))) (eC (.int 0))) (eC (.str "pair")))))
 (c_9 (e2 dNe (e2 a_8 (e2 a_8 (eV 0) (eC (.int 3))) (e1 am4 (eC (.int 1)))) (eC (.str "sum"))))
 sN)
 (c_9 (eF I_4 (aC (eLC [] (eV 2) tYes (e2 d_5 (e2 a_8 (eV 0) (eC (.int 0))) (eC (.tup [(.str "in"),(.str "time"),(.str "only"),(.str "but"),(.str "span"),(.str "rest"),(.str "turn"),(.str "later"),(.str "put"),(.str "pour")])))) aN)))))))
def b_6:List D->Option D:=fnD 2 1 w_8
abbrev g_2:FS :=
 (b_4 (e_6 4 (eF f_2 (aC (eV 3) aN)))
 (b_4 (sIf (tHold 1 (tOr (tB (e2 dGe (eV 2) (eC (.int 24)))) (tOr (tB (e2 dIs (eV 4) (eC .non))) (tNot (tV (eF b_6 (aC (eV 4) (aC (eV 1) aN))))))))
 sNo
 sN)
 (sDK 1 (e2 a_8 (eV 4) (eC (.int 1))) (eV 4))))
def q_9:En->Option MO :=
 (aT3 (sIf (tNot (tV (eTy .str (eV 0))))
 sNo
 sN)
 (aT3 (sDN 1)
 (aT3 (ap5 (gT [2,3]) (e2 q_8 (eV 0) (eC (.str "\n")))
 g_2)
 (nFr (as2 1)))))
def d_7:List D->Option MO:=fnN 1 4 q_9
abbrev d_8:FS :=
 (sIf (tV (eTy .tuple (eV 2)))
 (aF8 1 (e1 dTL (eV 2)))
 (aq0 1 (eIf (tB (e2 dIs (eV 2) (eC .non))) (eC (.str "*")) (eF am6 (aC (eV 2) aN)))))
def o_0:FS :=
 (b_4 (aa7 1 (oFr (e2 f_8 (k_1 (aC (e2 a_8 (eV 0) (eC (.int 0))) (aC (e2 a_8 (eV 0) (eC (.int 1))) aN))) (eF s_0 (aC (e2 a_8 (eV 0) (eC (.int 2))) aN)))))
 (b_4 (al0 (gN 2) (e2 a_8 (eV 0) (eC (.int 3)))
 d_8)
 (O_0 1 (c_9 (r_9 (Str.ofString " ") (eV 1))))))
def h_2:List D->Option D:=fnD 1 2 o_0
def p_1:FS :=
 (c_9 (r_9 (Str.ofString "\n") (eLC [] (eV 0) tYes (eF h_2 (aC (eV 0) aN)))))
def d_1:List D->Option D:=fnD 1 0 p_1
abbrev e_3:FS :=
 (sIf (tB (e2 dEq (e2 a_8 (eV 2) (eC (.int 1))) (eV 1)))
 (c_9 (eV 2))
 sN)
def k_8:FS :=
 (b_4 (al0 (gN 2) (eV 0)
 e_3)
 (c_9 (eC .non)))
def b_5:List D->Option D:=fnD 2 1 k_8
def l_1:FS :=
 (b_4 (sIf (tB (e2 dLt (eV 1) (eF f_3 (aC (eV 0) aN))))
 (c_9 (e2 a_8 (eV 0) (eV 1)))
 sN)
 (c_9 (eC (.int 0))))
def b_8:List D->Option D:=fnD 2 0 l_1
abbrev e_8:FS :=
 (b_4 (e_6 5 (eV 3))
 (b_4 (sIf (tOr (tB (e2 dLt (eV 0) (e2 am3 (eC (.int 10)) (eC (.int 40))))) (tB (e2 dEq (eV 3) (eC (.int 0)))))
 (b_4 (e_6 5 (e2 g_6 (e2 X_9 (e2 f_8 (e2 f_8 (e2 g_6 (eV 0) (eC (.int 2147483647))) (e2 X_9 (eC (.int 7919)) (eV 4))) (eC (.int 1))) (eC (.int 48271))) (eC (.int 2147483647))))
 (b_4 (e_6 5 (e2 g_6 (e2 X_9 (eV 5) (e2 f_8 (e2 aw4 (eV 5) (eC (.int 1009))) (eC (.int 69621)))) (eC (.int 2147483647))))
 (b_4 (e_6 5 (e2 g_6 (e2 X_9 (e2 f_8 (eV 5) (e2 X_9 (eC (.int 7)) (eV 4))) (e2 f_8 (e2 aw4 (eV 5) (eC (.int 677))) (eC (.int 40692)))) (eC (.int 2147483399))))
 (e_6 5 (e2 aw4 (eV 5) (eC (.int 3)))))))
 sN)
 (b_4 (aq0 2 (e2 g_6 (eV 5) (eC (.int 64))))
 (e_6 3 (e2 aw4 (eV 3) (eC (.int 64)))))))
def r_1:FS :=
 (b_4 (aa7 2 (aK0 aN))
 (b_4 (e_6 3 (eV 0))
 (b_4 (w_0 (gN 4) (rng1 (eV 1)) e_8)
 (O_0 2 (c_9 (eV 2))))))
def d_3:List D->Option D:=fnD 2 4 r_1
abbrev h_6:FS :=
 (e_6 2 (e2 f_8 (e2 X_9 (eV 2) (eC (.int 64))) (e2 a_8 (eV 0) (e2 f_8 (eV 1) (eV 3)))))
def r_0:FS :=
 (b_4 (e_6 2 (e2 g_6 (e2 a_8 (eV 0) (eV 1)) (eC (.int 16))))
 (b_4 (sIf (tB (e2 dGt (e2 a_8 (eV 0) (eV 1)) (eC (.int 31))))
 (b_4 (w_0 (gN 3) (bk7 (eC (.int 1)) (eC (.int 8))) h_6)
 (e_6 2 (e2 g_6 (eV 2) (e2 a_8 (k_1 (aC (eC (.int 100)) (aC (eC (.int 1000)) (aC (e2 am3 (eC (.int 10)) (eC (.int 6))) (aC (e2 am3 (eC (.int 10)) (eC (.int 12))) aN))))) (e2 g_6 (e2 a_8 (eV 0) (eV 1)) (eC (.int 4)))))))
 sN)
 (b_4 (sIf (tB (e2 dEq (e2 g_6 (e2 aw4 (e2 a_8 (eV 0) (eV 1)) (eC (.int 16))) (eC (.int 2))) (eC (.int 1))))
 (c_9 (e2 ai5 (eC (.int 0)) (eV 2)))
 sN)
 (c_9 (eV 2)))))
def a_4:List D->Option D:=fnD 2 2 r_0
def I_1:FS :=
 (b_4 (e_6 2 (eF I_3 (aC (k_1 (aC (eF a_4 (aC (eV 0) (aC (eV 1) aN))) (aC (eF a_4 (aC (eV 0) (aC (e2 f_8 (eV 1) (eC (.int 8))) aN))) aN))) aN)))
 (b_4 (e_6 3 (e2 a_8 (eV 2) (eC (.int 0))))
 (b_4 (e_6 4 (e2 a_8 (eV 2) (eC (.int 1))))
 (b_4 (sIf (tB (e2 dEq (e2 g_6 (e2 a_8 (eV 0) (e2 f_8 (eV 1) (eC (.int 16)))) (eC (.int 4))) (eC (.int 1))))
 (c_9 (g_8 (aC (eC .non) (aC (eV 4) aN))))
 sN)
 (b_4 (sIf (tB (e2 dEq (e2 g_6 (e2 a_8 (eV 0) (e2 f_8 (eV 1) (eC (.int 16)))) (eC (.int 4))) (eC (.int 2))))
 (c_9 (g_8 (aC (eV 3) (aC (eC .non) aN))))
 sN)
 (b_4 (sIf (tB (e2 dEq (e2 g_6 (e2 a_8 (eV 0) (e2 f_8 (eV 1) (eC (.int 16)))) (eC (.int 8))) (eC (.int 3))))
 (c_9 (g_8 (aC (eC .non) (aC (eC .non) aN))))
 sN)
 (c_9 (g_8 (aC (eV 3) (aC (eV 4) aN))))))))))
def g_7:List D->Option D:=fnD 2 3 I_1
abbrev h_7:FS :=
 (b_4 (e_6 6 (e2 a_8 (eV 3) (e2 g_6 (e2 f_8 (e2 a_8 (eV 0) (eV 1)) (e2 X_9 (eC (.int 7)) (eV 5))) (eC (.int 26)))))
 (b_4 (e_6 7 (e2 a_8 (eV 3) (e2 g_6 (e2 a_8 (eV 0) (e2 f_8 (e2 f_8 (eV 1) (eC (.int 1))) (eV 5))) (eC (.int 26)))))
 (aq0 4 (e2 f_8 (eV 6) (e2 aw2 (eV 7) (e2 g_6 (e2 a_8 (eV 0) (e2 f_8 (e2 f_8 (eV 1) (eC (.int 2))) (eV 5))) (eC (.int 8))))))))
def y_5:FS :=
 (b_4 (e_6 3 (eC (.str "abcdefghijklmnopqrstuvwxyz")))
 (b_4 (aa7 4 (aK0 aN))
 (b_4 (w_0 (gN 5) (rng1 (eV 2)) h_7)
 (O_0 4 (c_9 (eV 4))))))
def c_1:List D->Option D:=fnD 3 5 y_5
def o_1:FS :=
 (b_4 (sIf (tOr (tB (e2 dEq (eV 0) (eC (.str "in")))) (tB (e2 dEq (eV 0) (eC (.str "span")))))
 (c_9 (eF g_7 (aC (eV 1) (aC (eC (.int 20)) aN))))
 sN)
 (b_4 (sIf (tB (e2 dEq (eV 0) (eC (.str "time"))))
 (b_4 (e_6 4 (e2 g_6 (eF Y_1 (aC (eF a_4 (aC (eV 1) (aC (eC (.int 20)) aN))) aN)) (e2 am3 (eC (.int 10)) (eC (.int 11)))))
 (b_4 (e_6 5 (e2 g_6 (eF Y_1 (aC (eF a_4 (aC (eV 1) (aC (eC (.int 28)) aN))) aN)) (e2 am3 (eC (.int 10)) (eC (.int 11)))))
 (c_9 (g_8 (aC (eV 4) (aC (e2 a_8 (k_1 (aC (eC .non) (aC (e2 f_8 (e2 f_8 (eV 4) (eC (.int 1))) (eV 5)) aN))) (e2 g_6 (e2 a_8 (eV 1) (eC (.int 37))) (eC (.int 2)))) aN))))))
 sN)
 (b_4 (sIf (tOr (tB (e2 dEq (eV 0) (eC (.str "only")))) (tB (e2 dEq (eV 0) (eC (.str "but")))))
 (c_9 (eF m_0 (aC (eF c_1 (aC (eV 1) (aC (eC (.int 20)) (aC (e2 f_8 (eC (.int 1)) (e2 g_6 (e2 a_8 (eV 1) (eC (.int 31))) (eC (.int 8)))) aN)))) aN)))
 sN)
 (b_4 (sIf (tB (e2 dEq (eV 0) (eC (.str "rest"))))
 (b_4 (e_6 6 (e2 f_8 (eC (.int 2)) (e2 g_6 (eF Y_1 (aC (eF a_4 (aC (eV 1) (aC (eC (.int 20)) aN))) aN)) (eC (.int 999)))))
 (c_9 (g_8 (aC (eV 6) (aC (e2 g_6 (eF Y_1 (aC (eF a_4 (aC (eV 1) (aC (eC (.int 28)) aN))) aN)) (eV 6)) aN)))))
 sN)
 (b_4 (sIf (tB (e2 dEq (eV 0) (eC (.str "turn"))))
 (b_4 (e_6 6 (e2 ai5 (e2 g_6 (eF a_4 (aC (eV 1) (aC (eC (.int 20)) aN))) (eC (.int 2001))) (eC (.int 1000))))
 (c_9 (g_8 (aC (e2 a_8 (k_1 (aC (eV 6) (aC (eC (.int 1)) aN))) (eF am7 (aC (e2 dEq (eV 6) (eC (.int 0))) aN))) (aC (eF a_4 (aC (eV 1) (aC (eC (.int 28)) aN))) aN)))))
 sN)
 (b_4 (sIf (tB (e2 dEq (eV 0) (eC (.str "later"))))
 (c_9 (g_8 (aC (eF Y_1 (aC (eF a_4 (aC (eV 1) (aC (eC (.int 20)) aN))) aN)) aN)))
 sN)
 (b_4 (e_6 2 (eF c_1 (aC (eV 1) (aC (eC (.int 20)) (aC (e2 f_8 (eC (.int 1)) (e2 g_6 (e2 a_8 (eV 1) (eC (.int 31))) (eC (.int 4)))) aN)))))
 (b_4 (e_6 3 (e1 bh2 (eV 2)))
 (b_4 (sIf (tB (e2 dGt (e2 g_6 (e2 a_8 (eV 1) (eC (.int 32))) (eC (.int 3))) (eC (.int 0))))
 (e_6 3 (eFr (aJ9 (aC (e2 a_8 (k_1 (aC (e2 a_8 (eF c_1 (aC (eV 1) (aC (eC (.int 33)) (aC (eC (.int 1)) aN)))) (eC (.int 0))) (aC (eC (.str "z")) aN))) (e2 g_6 (e2 a_8 (eV 1) (eC (.int 32))) (eC (.int 2)))) aN) (eF f_3 (aC (eV 2) aN)))))
 sN)
 (c_9 (eF m_0 (aC (eLZ [] (eV 2) (eV 3) tYes (g_8 (aC (eV 0) (aC (eV 1) aN)))) aN))))))))))))
def b_9:List D->Option D:=fnD 2 5 o_1
def y_6:FS :=
 (b_4 (e_6 3 (e2 a_8 (k_1 (aC (eC (.str "count")) (aC (eC (.str "most")) (aC (eC (.str "least")) (aC (eC (.str "sum")) aN))))) (e2 g_6 (e2 a_8 (eV 1) (eC (.int 40))) (e2 f_8 (eC (.int 3)) (eF am7 (aC (eV 2) aN))))))
 (b_4 (e_6 4 (e2 f_8 (eC (.int 1)) (e2 g_6 (eF Y_1 (aC (eF a_4 (aC (eV 1) (aC (eC (.int 20)) aN))) aN)) (e2 am3 (eC (.int 10)) (eC (.int 10))))))
 (b_4 (sIf (tB (e2 dEq (eV 0) (eC (.str "ever"))))
 (c_9 (g_8 (aC (eV 3) aN)))
 sN)
 (b_4 (sIf (tB (e2 dEq (eV 0) (eC (.str "slide"))))
 (c_9 (g_8 (aC (e2 f_8 (e2 f_8 (eV 4) (eC (.int 1))) (e2 X_9 (e2 g_6 (e2 a_8 (eV 1) (eC (.int 41))) (eC (.int 19))) (eV 4))) (aC (eV 4) (aC (eV 3) aN)))))
 sN)
 (c_9 (g_8 (aC (eV 4) (aC (eV 3) aN))))))))
def g_5:List D->Option D:=fnD 3 2 y_6
def o_2:FS :=
 (b_4 (sIf (tOr (tB (e2 dEq (e2 g_6 (e2 a_8 (eV 2) (eC (.int 42))) (eC (.int 2))) (eC (.int 0)))) (tOr (tB (e2 dEq (e2 a_8 (eV 0) (eC (.int 0))) (eC (.str "gaps")))) (tB (e2 dEq (e2 a_8 (e2 a_8 (eV 0) (eC (.int 3))) (e1 am4 (eC (.int 1)))) (eC (.str "sum"))))))
 (c_9 (g_8 aN))
 sN)
 (b_4 (sIf (tB (e2 dEq (e2 a_8 (e2 a_8 (eLC [0] (eV 1) (tB (e2 dEq (e2 a_8 (eV 0) (eC (.int 1))) (e2 a_8 (e2 a_8 (eV 1) (eC (.int 2))) (eC (.int 0))))) (eV 0)) (eC (.int 0))) (eC (.int 0))) (eC (.str "pair"))))
 (c_9 (g_8 aN))
 sN)
 (b_4 (bj6 [3,4] (eF g_7 (aC (eV 2) (aC (eC (.int 20)) aN))))
 (b_4 (sIf (tB (e2 dEq (e2 a_8 (e2 a_8 (eV 0) (eC (.int 3))) (e1 am4 (eC (.int 1)))) (eC (.str "count"))))
 (b_4 (e_6 3 (e2 f_8 (eC (.int 1)) (e2 g_6 (e2 a_8 (eV 2) (eC (.int 43))) (eC (.int 50)))))
 (e_6 4 (e2 a_8 (k_1 (aC (eC .non) (aC (e2 f_8 (eV 3) (e2 a_8 (eV 2) (eC (.int 44)))) aN))) (e2 g_6 (e2 a_8 (eV 2) (eC (.int 45))) (eC (.int 2))))))
 sN)
 (c_9 (g_8 (aC (eV 3) (aC (eV 4) aN))))))))
def g_4:List D->Option D:=fnD 3 2 o_2
def I_2:FS :=
 (b_4 (e_6 2 (k_1 (aC (eC (.str "in")) (aC (eC (.str "time")) (aC (eC (.str "only")) (aC (eC (.str "but")) (aC (eC (.str "span")) (aC (eC (.str "rest")) (aC (eC (.str "turn")) (aC (eC (.str "later")) (aC (eC (.str "put")) (aC (eC (.str "pour")) (aC (eC (.str "pair")) aN)))))))))))))
 (b_4 (e_6 2 (e2 f_8 (eV 2) (k_1 (aC (eC (.str "fixed")) (aC (eC (.str "slide")) (aC (eC (.str "gaps")) (aC (eC (.str "ever")) (aC (eC (.str "ask")) (aC (eC (.str "ask")) (aC (eC (.str "fixed")) aN))))))))))
 (b_4 (e_6 3 (e2 a_8 (eV 2) (e2 g_6 (e2 a_8 (eV 1) (eC (.int 0))) (eF f_3 (aC (eV 2) aN)))))
 (b_4 (e_6 4 (eLC [2] (eV 0) (tB (e2 d_5 (e2 a_8 (eV 0) (eC (.int 0))) (G_5 (eV 1) oN (oS (eC (.int 10)))))) (e2 a_8 (eV 0) (eC (.int 1)))))
 (b_4 (e_6 5 (eLC [2] (eV 0) (tB (e2 d_5 (e2 a_8 (eV 0) (eC (.int 0))) (G_5 (eV 1) (oS (eC (.int 11))) (oS (eC (.int 15)))))) (eV 0)))
 (b_4 (e_6 6 (eLC [] (eV 0) (tB (e2 dEq (e2 a_8 (eV 0) (eC (.int 0))) (eC (.str "pair")))) (e2 a_8 (eV 0) (eC (.int 1)))))
 (b_4 (e_6 7 (e2 f_8 (e2 a_8 (eC (.str "qhbxdmaztgkpcwrvfnyjuesl")) (eF f_3 (aC (eV 0) aN))) (G_5 (e2 a_8 (eF c_1 (aC (eV 1) (aC (eC (.int 46)) (aC (eC (.int 1)) aN)))) (eC (.int 0))) oN (oS (eC (.int 7))))))
 (b_4 (e_6 8 (eLR [4,1] (rng1 (eC (.int 2))) tYes (e2 a_8 (e2 f_8 (eV 1) (k_1 (aC (eC (.str "a")) aN))) (e2 g_6 (e2 a_8 (eV 2) (e2 f_8 (eC (.int 1)) (eV 0))) (eF aS2 (aC (eC (.int 1)) (aC (eF f_3 (aC (eV 1) aN)) aN)))))))
 (b_4 (sIf (tOr (tB (e2 dEq (eV 4) (k_1 aN))) (tOr (tAnd (tB (e2 dEq (eV 3) (eC (.str "ask")))) (tB (e2 dEq (eV 5) (k_1 aN)))) (tAnd (tB (e2 dEq (eV 3) (eC (.str "pour")))) (tB (e2 dLt (eF f_3 (aC (eV 4) aN)) (eC (.int 2)))))))
 (e_6 3 (eC (.str "in")))
 sN)
 (b_4 (sIf (tB (e2 dEq (eV 3) (eC (.str "in"))))
 (c_9 (g_8 (aC (eC (.str "in")) (aC (eV 7) (aC (g_8 aN) (aC (eF b_9 (aC (eC (.str "in")) (aC (eV 1) aN))) aN))))))
 sN)
 (b_4 (sIf (tB (e2 dEq (eV 3) (eC (.str "pour"))))
 (b_4 (e_6 9 (e2 f_8 (eC (.int 2)) (e2 g_6 (e2 a_8 (eV 1) (eC (.int 3))) (eF bi0 (aC (eC (.int 7)) (aC (e2 ai5 (eF f_3 (aC (eV 4) aN)) (eC (.int 1))) aN))))))
 (c_9 (g_8 (aC (eV 3) (aC (eV 7) (aC (eF m_0 (aC (G_5 (e1 bh2 (eV 4)) oN (oS (eV 9))) aN)) (aC (g_8 aN) aN)))))))
 sN)
 (b_4 (sIf (tB (e2 dEq (eV 3) (eC (.str "pair"))))
 (b_4 (e_6 10 (e2 a_8 (k_1 (aC (eC (.str "sum")) (aC (eC (.str "less")) (aC (eC (.str "left")) (aC (eC (.str "right")) aN))))) (e2 g_6 (e2 a_8 (eV 1) (eC (.int 5))) (eC (.int 4)))))
 (c_9 (g_8 (aC (eV 3) (aC (eV 7) (aC (eF m_0 (aC (eV 8) aN)) (aC (g_8 (aC (eF Y_1 (aC (eF a_4 (aC (eV 1) (aC (eC (.int 20)) aN))) aN)) (aC (eV 10) aN))) aN)))))))
 sN)
 (b_4 (sIf (tB (e2 dEq (eV 3) (eC (.str "ask"))))
 (b_4 (e_6 11 (e2 a_8 (eV 5) (e2 g_6 (e2 a_8 (eV 1) (eC (.int 1))) (eF f_3 (aC (eV 5) aN)))))
 (c_9 (g_8 (aC (eV 3) (aC (eV 7) (aC (g_8 (aC (e2 a_8 (eV 11) (eC (.int 1))) aN)) (aC (eF g_4 (aC (eV 11) (aC (eV 0) (aC (eV 1) aN)))) aN)))))))
 sN)
 (b_4 (sIf (tB (e2 d_5 (eV 3) (G_5 (eV 2) (oS (eC (.int 11))) (oS (eC (.int 15))))))
 (b_4 (e_6 12 (eOr (e2 dEq (eV 3) (eC (.str "gaps"))) (eOr (e2 dEq (eV 6) (k_1 aN)) (e2 dEq (e2 g_6 (e2 a_8 (eV 1) (eC (.int 4))) (eC (.int 2))) (eC (.int 0))))))
 (b_4 (e_6 13 (e2 a_8 (e2 a_8 (k_1 (aC (e2 f_8 (eV 6) (eV 8)) (aC (eV 8) aN))) (eF am7 (aC (eV 12) aN))) (eC (.int 0))))
 (c_9 (g_8 (aC (eV 3) (aC (eV 7) (aC (g_8 (aC (eV 13) aN)) (aC (eF g_5 (aC (eV 3) (aC (eV 1) (aC (eV 12) aN)))) aN))))))))
 sN)
 (c_9 (g_8 (aC (eV 3) (aC (eV 7) (aC (g_8 (aC (e2 a_8 (eV 8) (eC (.int 0))) aN)) (aC (eF b_9 (aC (eV 3) (aC (eV 1) aN))) aN))))))))))))))))))))
def g_0:List D->Option D:=fnD 2 12 I_2
abbrev a_9:FS :=
 (sIf (tV (eTy .tuple (eV 2)))
 (aF8 1 (eF s_0 (aC (eV 2) aN)))
 (aq0 1 (e2 a_8 (k_1 (aC (eF am6 (aC (eV 2) aN)) (aC (eC (.str "*")) aN))) (eF am7 (aC (e2 dIs (eV 2) (eC .non)) aN)))))
def l_0:FS :=
 (b_4 (aa7 1 (oFr (e2 f_8 (k_1 (aC (e2 a_8 (eV 0) (eC (.int 0))) (aC (e2 a_8 (eV 0) (eC (.int 1))) aN))) (eF s_0 (aC (e2 a_8 (eV 0) (eC (.int 2))) aN)))))
 (b_4 (al0 (gN 2) (e2 a_8 (eV 0) (eC (.int 3)))
 a_9)
 (O_0 1 (c_9 (r_9 (Str.ofString " ") (eV 1))))))
def d_0:List D->Option D:=fnD 1 2 l_0
abbrev p_8:FS :=
 (aq0 1 (eHoldL 1 (eF g_0 (aC (eV 1) (aC (eF d_3 (aC (eF b_8 (aC (eV 0) (aC (e2 f_8 (eC (.int 1)) (eV 2)) aN))) (aC (eC (.int 60)) aN))) aN)))))
abbrev p_7:FS :=
 (sIf (tHoldL 4 (tB (e2 dNe (eF b_5 (aC (eV 4) (aC (e2 a_8 (eV 5) (eC (.int 1))) aN))) (eV 5))))
 (c_9 (eC (.bl false)))
 sN)
def bh9:FS :=
 (b_4 (aa7 1 (aK0 aN))
 (b_4 (w_0 (gN 2) (rng1 (e2 f_8 (eC (.int 1)) (e2 g_6 (eF b_8 (aC (eV 0) (aC (eC (.int 0)) aN))) (eC (.int 24))))) p_8)
 (b_4 (O_0 1 (e_6 3 (r_9 (Str.ofString "\n") (eLC [] (eV 1) tYes (eF d_0 (aC (eV 0) aN))))))
 (b_4 (aX4 4 d_7 (aC (eV 3) aN))
 (b_4 (sIf (tHoldL 4 (tOr (tNot (tV (eTy .list (eV 4)))) (tOr (tB (e2 dNe (eV 4) (eV 1))) (tB (e2 dNe (eF d_1 (aC (eF s_0 (aC (eV 1) aN)) aN)) (eV 3))))))
 (c_9 (eC (.bl false)))
 sN)
 (b_4 (al0 (gN 5) (eV 1)
 p_7)
 (b_4 (sIf (tHoldL 4 (tOr (tB (e2 l_8 (eF b_5 (aC (eV 4) (aC (eC (.str "iii")) aN))) (eC .non))) (tB (e2 l_8 (eF b_5 (aC (k_1 aN) (aC (e2 a_8 (e2 a_8 (eV 1) (eC (.int 0))) (eC (.int 1))) aN))) (eC .non)))))
 (c_9 (eC (.bl false)))
 sN)
 (b_4 (aX6 4)
 (c_9 (e2 dEq (eNL d_7 (aC (eV 3) aN)) (eV 1)))))))))))
def V_3:List D->Option D:=fnD 1 5 bh9
end
end Fx
namespace Fx
open PySem PySem.Spec PyProof.Rows L2
def top (i:Nat):Stmt:=PySem.Challenge.pw_latewell_k21_works_read_and_shown.main.body.getD i (.Pass ⟨0,0,0,0⟩)
structure Blt (w:World) (K:Frag) (mg:Str->Option Value):Prop where
 z_abs:mg "abs"=none
 z_len:mg "len"=none
 z_max:mg "max"=none
 z_min:mg "min"=none
 z_any:mg "any"=none
 z_all:mg "all"=none
 z_range:mg "range"=none
 z_isinstance:mg "isinstance"=none
 z_int:mg "int"=none
 z_bool:mg "bool"=none
 z_str:mg "str"=none
 z_tuple:mg "tuple"=none
 z_list:mg "list"=none
 z_sorted:mg "sorted"=none
 z_dict:mg "dict"=none
 z_set:mg "set"=none
 z_sum:mg "sum"=none
 z_zip:mg "zip"=none
 z_enumerate:mg "enumerate"=none
 z_reversed:mg "reversed"=none
 c_LETTERS:∃ t,mg "LETTERS"=some (.str "abcdefghijklmnopqrstuvwxyz" t)
 c_LONGEST:∃ t,mg "LONGEST"=some (.int 8 t)
 c_CHAINS:∃ a,mg "CHAINS"=some (.ref a) ∧ KV1 K (.tup [(.str "in"),(.str "time"),(.str "only"),(.str "but"),(.str "span"),(.str "rest"),(.str "turn"),(.str "later"),(.str "put"),(.str "pour")]) (.ref a)
 c_FOLDS:∃ a,mg "FOLDS"=some (.ref a) ∧ KV1 K (.tup [(.str "fixed"),(.str "slide"),(.str "gaps"),(.str "ever")]) (.ref a)
 c_FROM_PLACES:∃ a,mg "FROM_PLACES"=some (.ref a) ∧ KV1 K (.tup [(.str "FROM"),(.str "LEFT"),(.str "RIGHT")]) (.ref a)
 c_KEY_PLACES:∃ a,mg "KEY_PLACES"=some (.ref a) ∧ KV1 K (.tup [(.str "NAME"),(.str "FROM"),(.str "LEFT"),(.str "RIGHT"),(.str "KEY"),(.str "OTHER")]) (.ref a)
 c_BOUND_PLACES:∃ a,mg "BOUND_PLACES"=some (.ref a) ∧ KV1 K (.tup [(.str "LOW"),(.str "HIGH"),(.str "END")]) (.ref a)
 c_HOWS:∃ a,mg "HOWS"=some (.ref a) ∧ KV1 K (.tup [(.str "sum"),(.str "less"),(.str "left"),(.str "right")]) (.ref a)
 c_FOLD_WORDS:∃ a,mg "FOLD_WORDS"=some (.ref a) ∧ KV1 K (.tup [(.str "count"),(.str "sum"),(.str "most"),(.str "least")]) (.ref a)
 c_FIGURES:∃ t,mg "FIGURES"=some (.str "0123456789" t)
 c_MOST_FIGURES:∃ t,mg "MOST_FIGURES"=some (.int 12 t)
 c_MOST_ROWS:∃ t,mg "MOST_ROWS"=some (.int 24 t)
 c_MOST_COUNTED:∃ t,mg "MOST_COUNTED"=some (.int 50 t)
 c_FORMS:∃ a,mg "FORMS"=some (.ref a) ∧ bn9 w K a [((Str.ofString "in"),(.str "NAME LOW HIGH")),((Str.ofString "time"),(.str "NAME FROM BEGIN END")),((Str.ofString "only"),(.str "NAME FROM KEY ..")),((Str.ofString "but"),(.str "NAME FROM KEY ..")),((Str.ofString "span"),(.str "NAME FROM LOW HIGH")),((Str.ofString "rest"),(.str "NAME FROM M R")),((Str.ofString "turn"),(.str "NAME FROM A B")),((Str.ofString "later"),(.str "NAME FROM C")),((Str.ofString "put"),(.str "NAME FROM KEY OTHER ..")),((Str.ofString "pour"),(.str "NAME FROM FROM ..")),((Str.ofString "pair"),(.str "NAME LEFT RIGHT REACH HOW")),((Str.ofString "fixed"),(.str "NAME FROM WIDTH FOLD")),((Str.ofString "slide"),(.str "NAME FROM WIDTH STEP FOLD")),((Str.ofString "gaps"),(.str "NAME FROM GAP FOLD")),((Str.ofString "ever"),(.str "NAME FROM FOLD")),((Str.ofString "ask"),(.str "NAME FROM"))]
section
variable {P:Program}{w:World}{K:Frag}{mg:Str->Option Value}{base:Heap}
abbrev m_5:Stmt:=top 6
theorem aa5:FnScope ["x"] ["x"] (a_1 m_5):=⟨rfl,rfl,rfl,by decide +kernel,rfl,by decide +kernel,by decide +kernel⟩
theorem ac8 {f:Addr}{fd:FuncData} (F:Fun K "is_key" "is_key" m_5 f fd) (bF:Binds K fd ["x"] []) (mF:mg "is_key"=some (.ref f)) (T:Blt w K mg) :DefOk P w K mg base 1 "is_key" m_8 :=
 ⟨f,fd,["x"],h_9 F aa5 rfl rfl (λ cdv A outer s H E hr =>
 (xsC (h_8 (xw (C_8 (v_7 (xtv (xty (t:=.str) T.z_isinstance T.z_str PyProof.Rows.boot_str (xv 0)) (λ _=>rfl))) (p_4 (v_7 (xt3 cLe cLe a_7 (xB d_2 rfl T.z_len PySem.boot_len (xaC (xv 0) xaN)) (bj2 T.c_LONGEST))))))
 (xs1 (f_9 xbl))
 xsN)
 (xs1 (f_9 (xB (v_3 rfl) rfl T.z_all PyProof.Rows.boot_all (xaC (xlc (sc:=a_1 m_5) rfl rfl (by show ScB ["x"] (a_1 m_5) _ "sign" [] [];exact⟨rfl,rfl,by decide +kernel,by decide +kernel,rfl,by decide +kernel,by decide +kernel,rfl,by decide +kernel⟩) (xv 0) (λ _ _ _ _=>i_2) (λ _ _ _ _=>(m_1 H_4 (xv 0) (bC7 T.c_LETTERS)))) xaN)))))),bF,F.kp,mF⟩
abbrev h_1:Stmt:=top 20
theorem sc_is_number:FnScope ["word","figures"] ["word"] (a_1 h_1):=⟨rfl,rfl,rfl,by decide +kernel,rfl,by decide +kernel,by decide +kernel⟩
theorem E_9 {f:Addr}{fd:FuncData} (F:Fun K "is_number" "is_number" h_1 f fd) (bF:Binds K fd ["word"] []) (mF:mg "is_number"=some (.ref f)) (T:Blt w K mg) :DefOk P w K mg base 1 "is_number" c_4 :=
 ⟨f,fd,["word"],h_9 F sc_is_number rfl rfl (λ cdv A outer s H E hr =>
 (xsC (k_0 1 sc_is_number.nd (xif (xtv (aD4 (xv 0) d_4) (λ _=>rfl)) (ay3 (xv 0) (xoS a_7) xoN) (xv 0)))
 (xsC (h_8 (xw (C_8 (v_7 (xt3 cLe cLe a_7 (xB d_2 rfl T.z_len PySem.boot_len (xaC (xv 1) xaN)) (bj2 T.c_MOST_FIGURES))) (p_4 (v_7 (xtv (xB (v_3 rfl) rfl T.z_all PyProof.Rows.boot_all (xaC (xlc (sc:=a_1 h_1) rfl rfl (by show ScB ["word","figures"] (a_1 h_1) _ "sign" [] [];exact⟨rfl,rfl,by decide +kernel,by decide +kernel,rfl,by decide +kernel,by decide +kernel,rfl,by decide +kernel⟩) (xv 1) (λ _ _ _ _=>i_2) (λ _ _ _ _=>(m_1 H_4 (xv 0) (bC7 T.c_FIGURES)))) xaN)) (λ _=>rfl))))))
 (xs1 (f_9 xbl))
 xsN)
 (xs1 (f_9 (xor (m_1 (cEq hr.units) (xv 0) d_4) (C_9 (m_1 (cNe hr.units) (c_6 (xv 1) a_7) d_4)))))))),bF,F.kp,mF⟩
abbrev k_4:Stmt:=top 21
theorem sc_places_of:FnScope ["word","count","form","places"] ["word","count"] (a_1 k_4):=⟨rfl,rfl,rfl,by decide +kernel,rfl,by decide +kernel,by decide +kernel⟩
theorem E_5 {f:Addr}{fd:FuncData} (F:Fun K "places_of" "places_of" k_4 f fd) (bF:Binds K fd ["word","count"] []) (mF:mg "places_of"=some (.ref f)) (T:Blt w K mg) :DefOk P w K mg base 1 "places_of" c_7 :=
 ⟨f,fd,["word","count"],h_9 F sc_places_of rfl rfl (λ cdv A outer s H E hr =>
 (xsC (k_0 2 sc_places_of.nd (xif (xw (an4 (xt (cEq hr.units) (xv 0) d_4) (N_0 (xt cGt (xv 1) a_7)))) (xb l_4 (xkd T.c_FORMS (xv 0)) d_4) (xkd T.c_FORMS (xv 0))))
 (xsC (aS9 3 sc_places_of.nd (aD6 (xv 2) d_4))
 (xsC (h_8 (bj0 3 (xt (cEq hr.units) (c_6 (xv 3) (aD8 a_7)) d_4))
 (xsC (bM5 3)
 (xs1 (bM9 3 (aV1 (xaC (xhl 3 (c_6 (xv 3) (aD8 a_7))) xaN) (xb aT1 (xv 1) (xhl 3 (xB d_2 rfl T.z_len PySem.boot_len (xaC (xv 3) xaN))))))))
 xsN)
 (xs1 (aT0 3 (f_9 (xv 3)))))))),bF,F.kp,mF⟩
abbrev N_9:Stmt:=top 22
theorem aF4:FnScope ["place","word"] ["place","word"] (a_1 N_9):=⟨rfl,rfl,rfl,by decide +kernel,rfl,by decide +kernel,by decide +kernel⟩
theorem aJ7 {f:Addr}{fd:FuncData} (F:Fun K "fits" "fits" N_9 f fd) (bF:Binds K fd ["place","word"] []) (mF:mg "fits"=some (.ref f)) (T:Blt w K mg) (G_is_key:DefOk P w K mg base 1 "is_key" m_8) (G_is_number:DefOk P w K mg base 1 "is_number" c_4):DefOk P w K mg base 2 "fits" g_1 :=
 ⟨f,fd,["place","word"],h_9 F aF4 rfl rfl (λ cdv A outer s H E hr =>
 (xsC (h_8 (xt H_4 (xv 0) (aE0 T.c_KEY_PLACES))
 (xs1 (f_9 (xF G_is_key (hr.mono (by decide)) (xaC (xv 1) xaN))))
 xsN)
 (xsC (h_8 (xt (cEq hr.units) (xv 0) d_4)
 (xs1 (f_9 (m_1 H_4 (xv 1) (aE0 T.c_HOWS))))
 xsN)
 (xsC (h_8 (xt (cEq hr.units) (xv 0) d_4)
 (xs1 (f_9 (m_1 H_4 (xv 1) (aE0 T.c_FOLD_WORDS))))
 xsN)
 (xs1 (f_9 (xor (xF G_is_number (hr.mono (by decide)) (xaC (xv 1) xaN)) (C_9 (an8 (m_1 (cEq hr.units) (xv 1) d_4) (C_9 (m_1 H_4 (xv 0) (aE0 T.c_BOUND_PLACES)))))))))))),bF,F.kp,mF⟩
abbrev i_9:Stmt:=top 23
theorem z_4:FnScope ["word"] ["word"] (a_1 i_9):=⟨rfl,rfl,rfl,by decide +kernel,rfl,by decide +kernel,by decide +kernel⟩
theorem A_1 {f:Addr}{fd:FuncData} (F:Fun K "word_value" "word_value" i_9 f fd) (bF:Binds K fd ["word"] []) (mF:mg "word_value"=some (.ref f)) (T:Blt w K mg) (G_is_number:DefOk P w K mg base 1 "is_number" c_4):DefOk P w K mg base 2 "word_value" c_2 :=
 ⟨f,fd,["word"],h_9 F z_4 rfl rfl (λ cdv A outer s H E hr =>
 (xsC (h_8 (xt (cEq hr.units) (xv 0) d_4)
 (xs1 (f_9 x_1))
 xsN)
 (xs1 (f_9 (xif (xtv (xF G_is_number (hr.mono (by decide)) (xaC (xv 0) xaN)) (λ _=>rfl)) (xTy ax1 rfl T.z_int PyProof.Rows.boot_int (xaC (xv 0) xaN)) (xv 0)))))),bF,F.kp,mF⟩
abbrev m_6:Stmt:=top 24
theorem J_7:FnScope ["low","high"] ["low","high"] (a_1 m_6):=⟨rfl,rfl,rfl,by decide +kernel,rfl,by decide +kernel,by decide +kernel⟩
theorem K_6 {f:Addr}{fd:FuncData} (F:Fun K "in_order" "in_order" m_6 f fd) (bF:Binds K fd ["low","high"] []) (mF:mg "in_order"=some (.ref f)) (T:Blt w K mg) :DefOk P w K mg base 1 "in_order" m_9 :=
 ⟨f,fd,["low","high"],h_9 F J_7 rfl rfl (λ cdv A outer s H E hr =>
 (xs1 (f_9 (xor (m_1 cIs (xv 0) x_1) (xor (m_1 cIs (xv 1) x_1) (C_9 (m_1 cLe (xv 0) (xv 1)))))))),bF,F.kp,mF⟩
abbrev j_3:Stmt:=top 25
theorem z_5:FnScope ["names"] ["names"] (a_1 j_3):=⟨rfl,rfl,rfl,by decide +kernel,rfl,by decide +kernel,by decide +kernel⟩
theorem A_5 {f:Addr}{fd:FuncData} (F:Fun K "are_unlike" "are_unlike" j_3 f fd) (bF:Binds K fd ["names"] []) (mF:mg "are_unlike"=some (.ref f)) (T:Blt w K mg) :DefOk P w K mg base 1 "are_unlike" e_1 :=
 ⟨f,fd,["names"],h_9 F z_5 rfl rfl (λ cdv A outer s H E hr =>
 (xs1 (f_9 (m_1 (cEq hr.units) (aD9 T.z_set T.z_len (xv 0)) (xB d_2 rfl T.z_len PySem.boot_len (xaC (xv 0) xaN)))))),bF,F.kp,mF⟩
abbrev h_4:Stmt:=top 26
theorem t_4:FnScope ["word","froms","rest"] ["word","froms","rest"] (a_1 h_4):=⟨rfl,rfl,rfl,by decide +kernel,rfl,by decide +kernel,by decide +kernel⟩
theorem t_9 {f:Addr}{fd:FuncData} (F:Fun K "keeps_bounds" "keeps_bounds" h_4 f fd) (bF:Binds K fd ["word","froms","rest"] []) (mF:mg "keeps_bounds"=some (.ref f)) (T:Blt w K mg) (G_are_unlike:DefOk P w K mg base 1 "are_unlike" e_1) (G_in_order:DefOk P w K mg base 1 "in_order" m_9):DefOk P w K mg base 2 "keeps_bounds" a_2 :=
 ⟨f,fd,["word","froms","rest"],h_9 F t_4 rfl rfl (λ cdv A outer s H E hr =>
 (xsC (h_8 (xt H_4 (xv 0) (v_6 (xaC d_4 (xaC d_4 (xaC d_4 xaN)))))
 (xs1 (f_9 (xor (aV3 (xv 2)) (C_9 (xF G_in_order (hr.mono (by decide)) (xaC (c_6 (xv 2) a_7) (xaC (c_6 (xv 2) a_7) xaN)))))))
 xsN)
 (xsC (h_8 (xt (cEq hr.units) (xv 0) d_4)
 (xs1 (f_9 (an8 (m_1 cGe (c_6 (xv 2) a_7) a_7) (C_9 (xor (m_1 cIs (c_6 (xv 2) a_7) x_1) (C_9 (m_1 cLt (c_6 (xv 2) a_7) (c_6 (xv 2) a_7))))))))
 xsN)
 (xsC (h_8 (xt H_4 (xv 0) (v_6 (xaC d_4 (xaC d_4 xaN))))
 (xs1 (f_9 (an8 (m_1 cLe (xB d_2 rfl T.z_len PySem.boot_len (xaC (xv 2) xaN)) a_7) (C_9 (xF G_are_unlike (hr.mono (by decide)) (xaC (xv 2) xaN))))))
 xsN)
 (xsC (h_8 (xt (cEq hr.units) (xv 0) d_4)
 (xs1 (f_9 (an8 (an7 cLe cLe a_7 (c_6 (xv 2) a_7) a_7) (C_9 (an7 cLe cLt a_7 (c_6 (xv 2) a_7) (c_6 (xv 2) a_7))))))
 xsN)
 (xsC (h_8 (xt (cEq hr.units) (xv 0) d_4)
 (xs1 (f_9 (an8 (an7 cLe cLe (aD8 a_7) (c_6 (xv 2) a_7) a_7) (C_9 (m_1 (cNe hr.units) (c_6 (xv 2) a_7) a_7)))))
 xsN)
 (xsC (h_8 (xt (cEq hr.units) (xv 0) d_4)
 (xs1 (f_9 (an8 (m_1 H_4 (xB d_2 rfl T.z_len PySem.boot_len (xaC (xv 2) xaN)) (v_6 (xaC a_7 (xaC a_7 (xaC a_7 (xaC a_7 xaN)))))) (C_9 (xF G_are_unlike (hr.mono (by decide)) (xaC (bC8 (xv 2)) xaN))))))
 xsN)
 (xsC (h_8 (xt (cEq hr.units) (xv 0) d_4)
 (xs1 (f_9 (an8 (m_1 cLe (xB d_2 rfl T.z_len PySem.boot_len (xaC (xv 1) xaN)) a_7) (C_9 (xF G_are_unlike (hr.mono (by decide)) (xaC (xv 1) xaN))))))
 xsN)
 (xsC (h_8 (xt H_4 (xv 0) (v_6 (xaC d_4 (xaC d_4 xaN))))
 (xs1 (f_9 (m_1 cGe (c_6 (xv 2) a_7) a_7)))
 xsN)
 (xsC (h_8 (xt (cEq hr.units) (xv 0) d_4)
 (xs1 (f_9 (bo2 cLe cLt cLe a_7 (c_6 (xv 2) a_7) (c_6 (xv 2) a_7) (xb as6 a_7 (c_6 (xv 2) a_7)))))
 xsN)
 (xs1 (f_9 (xor (m_1 (cEq hr.units) (xv 0) d_4) (C_9 (m_1 cGe (c_6 (xv 2) a_7) a_7))))))))))))))),bF,F.kp,mF⟩
abbrev e_7:Stmt:=top 27
theorem sc_read_row:FnScope ["text","words","word","places","told","froms","rest"] ["text"] (a_1 e_7):=⟨rfl,rfl,rfl,by decide +kernel,rfl,by decide +kernel,by decide +kernel⟩
theorem K_3 {f:Addr}{fd:FuncData} (F:Fun K "read_row" "read_row" e_7 f fd) (bF:Binds K fd ["text"] []) (mF:mg "read_row"=some (.ref f)) (T:Blt w K mg) (G_fits:DefOk P w K mg base 2 "fits" g_1) (G_keeps_bounds:DefOk P w K mg base 2 "keeps_bounds" a_2) (G_places_of:DefOk P w K mg base 1 "places_of" c_7) (G_word_value:DefOk P w K mg base 2 "word_value" c_2):DefOk P w K mg base 3 "read_row" f_2 :=
 ⟨f,fd,["text"],h_9 F sc_read_row rfl rfl (λ cdv A outer s H E hr =>
 (xsC (k_0 1 sc_read_row.nd (ay2 (xv 0) d_4))
 (xsC (k_0 2 sc_read_row.nd (c_6 (xv 1) a_7))
 (xsC (h_8 (aU8 T.c_FORMS (xv 2))
 (xs1 (f_9 x_1))
 xsN)
 (xsC (k_0 3 sc_read_row.nd (xF G_places_of (hr.mono (by decide)) (xaC (xv 2) (xaC (xb aT1 (xB d_2 rfl T.z_len PySem.boot_len (xaC (xv 1) xaN)) a_7) xaN))))
 (xsC (k_0 4 sc_read_row.nd (an5 T.z_list T.z_zip rfl (xv 3) (ay3 (xv 1) (xoS a_7) xoN)))
 (xsC (h_8 (xw (C_8 (xt (cNe hr.units) (xB d_2 rfl T.z_len PySem.boot_len (xaC (xv 3) xaN)) (xb aT1 (xB d_2 rfl T.z_len PySem.boot_len (xaC (xv 1) xaN)) a_7)) (p_4 (v_7 (xtv (xB (v_3 rfl) rfl T.z_all PyProof.Rows.boot_all (xaC (bC5 (sc:=a_1 e_7) rfl rfl (by show ScB2 ["text","words","word","places","told","froms","rest"] (a_1 e_7) _ "place" "told_word" [] [];exact⟨⟨rfl,rfl,by decide +kernel,by decide +kernel,rfl,by decide +kernel,by decide +kernel,rfl,by decide +kernel⟩,rfl,by decide +kernel⟩) (xv 4) (λ _ _ _ _=>i_2) (λ _ _ _ _=>(xF G_fits (hr.mono (by decide)) (xaC (xv 0) (xaC (xv 1) xaN))))) xaN)) (λ _=>rfl))))))
 (xs1 (f_9 x_1))
 xsN)
 (xsC (k_0 5 sc_read_row.nd (xTy j_9 rfl T.z_tuple PyProof.Rows.boot_tuple (xaC (bC5 (sc:=a_1 e_7) rfl rfl (by show ScB2 ["text","words","word","places","told","froms","rest"] (a_1 e_7) _ "place" "told_word" [] [];exact⟨⟨rfl,rfl,by decide +kernel,by decide +kernel,rfl,by decide +kernel,by decide +kernel,rfl,by decide +kernel⟩,rfl,by decide +kernel⟩) (xv 4) (λ _ _ _ _=>(t_0 (xt H_4 (xv 0) (aE0 T.c_FROM_PLACES)))) (λ _ _ _ _=>(xv 1))) xaN)))
 (xsC (k_0 6 sc_read_row.nd (xTy j_9 rfl T.z_tuple PyProof.Rows.boot_tuple (xaC (xlc (sc:=a_1 e_7) rfl rfl (by show ScB ["text","words","word","places","told","froms","rest"] (a_1 e_7) _ "told_word" [] [];exact⟨rfl,rfl,by decide +kernel,by decide +kernel,rfl,by decide +kernel,by decide +kernel,rfl,by decide +kernel⟩) (ay3 (xv 1) (xoS (xb l_4 a_7 (xB d_2 rfl T.z_len PySem.boot_len (xaC (xv 5) xaN)))) xoN) (λ _ _ _ _=>i_2) (λ _ _ _ _=>(xF G_word_value (hr.mono (by decide)) (xaC (xv 0) xaN)))) xaN)))
 (xsC (h_8 (v_7 (xtv (xF G_keeps_bounds (hr.mono (by decide)) (xaC (xv 2) (xaC (xv 5) (xaC (xv 6) xaN)))) (λ _=>rfl)))
 (xs1 (f_9 x_1))
 xsN)
 (xsC (h_8 (xt (cEq hr.units) (xv 2) d_4)
 (xs1 (k_0 6 sc_read_row.nd (aD2 T.z_tuple T.z_zip rfl (bC8 (xv 6)) (bN0 (xv 6)))))
 xsN)
 (xs1 (f_9 (v_6 (xaC (xv 2) (xaC (c_6 (xv 1) a_7) (xaC (xv 5) (xaC (xv 6) xaN)))))))))))))))))),bF,F.kp,mF⟩
abbrev h_5:Stmt:=top 28
theorem sc_bears_bounds:FnScope ["fold","above","low","fold_word"] ["fold","above","low"] (a_1 h_5):=⟨rfl,rfl,rfl,by decide +kernel,rfl,by decide +kernel,by decide +kernel⟩
theorem u_0 {f:Addr}{fd:FuncData} (F:Fun K "bears_bounds" "bears_bounds" h_5 f fd) (bF:Binds K fd ["fold","above","low"] []) (mF:mg "bears_bounds"=some (.ref f)) (T:Blt w K mg) :DefOk P w K mg base 1 "bears_bounds" e_0 :=
 ⟨f,fd,["fold","above","low"],h_9 F sc_bears_bounds rfl rfl (λ cdv A outer s H E hr =>
 (xsC (k_0 3 sc_bears_bounds.nd (c_6 (c_6 (xv 0) a_7) (aD8 a_7)))
 (xsC (h_8 (xw (C_8 (xt (cEq hr.units) (c_6 (xv 0) a_7) d_4) (C_8 (xt (cEq hr.units) (xv 3) d_4) (p_4 (xt (cEq hr.units) (c_6 (xdx (af8 hr) (xv 1) (c_6 (c_6 (xv 0) a_7) a_7)) a_7) d_4)))))
 (xs1 (f_9 xbl))
 xsN)
 (xs1 (f_9 (xor (m_1 (cNe hr.units) (xv 3) d_4) (C_9 (an8 (m_1 ak1 (xv 2) x_1) (C_9 (an7 cLe cLe a_7 (xv 2) (bj2 T.c_MOST_COUNTED))))))))))),bF,F.kp,mF⟩
abbrev c_3:Stmt:=top 29
theorem sc_stands_right:FnScope ["row","above","from_rows"] ["row","above"] (a_1 c_3):=⟨rfl,rfl,rfl,by decide +kernel,rfl,by decide +kernel,by decide +kernel⟩
theorem t_8 {f:Addr}{fd:FuncData} (F:Fun K "stands_right" "stands_right" c_3 f fd) (bF:Binds K fd ["row","above"] []) (mF:mg "stands_right"=some (.ref f)) (T:Blt w K mg) (G_bears_bounds:DefOk P w K mg base 1 "bears_bounds" e_0):DefOk P w K mg base 2 "stands_right" b_6 :=
 ⟨f,fd,["row","above"],h_9 F sc_stands_right rfl rfl (λ cdv A outer s H E hr =>
 (xsC (h_8 (xw (C_8 (xt (bL8 (af8 hr)) (c_6 (xv 0) a_7) (xv 1)) (p_4 (v_7 (xtv (xB (v_3 rfl) rfl T.z_all PyProof.Rows.boot_all (xaC (xlc (sc:=a_1 c_3) rfl rfl (by show ScB ["row","above","from_rows"] (a_1 c_3) _ "name" ["above"] [1];exact⟨rfl,rfl,by decide +kernel,by decide +kernel,rfl,by decide +kernel,by decide +kernel,rfl,by decide +kernel⟩) (c_6 (xv 0) a_7) (λ _ _ _ _=>i_2) (λ _ _ _ _=>(m_1 (bL8 (af8 hr)) (xv 0) (xv 1)))) xaN)) (λ _=>rfl))))))
 (xs1 (f_9 xbl))
 xsN)
 (xsC (Y_6 2 sc_stands_right.nd (sc:=a_1 c_3) rfl rfl (by show ScB ["row","above","from_rows"] (a_1 c_3) _ "name" ["above"] [1];exact⟨rfl,rfl,by decide +kernel,by decide +kernel,rfl,by decide +kernel,by decide +kernel,rfl,by decide +kernel⟩) (c_6 (xv 0) a_7) (λ _ _ _ _=>i_2) (λ _ _ _ _=>(xdx (af8 hr) (xv 1) (xv 0))))
 (xsC (h_8 (xt (cEq hr.units) (c_6 (xv 0) a_7) d_4)
 (xs1 (f_9 (an8 (m_1 H_4 (c_6 (c_6 (xv 2) a_7) a_7) (aE0 T.c_FOLDS)) (C_9 (xor (aV3 (c_6 (xv 0) a_7)) (C_9 (xF G_bears_bounds (hr.mono (by decide)) (xaC (c_6 (xv 2) a_7) (xaC (xv 1) (xaC (c_6 (c_6 (xv 0) a_7) a_7) xaN))))))))))
 xsN)
 (xsC (h_8 (xw (an4 (xt H_4 (c_6 (xv 0) a_7) (v_6 (xaC d_4 (xaC d_4 (xaC d_4 xaN))))) (N_0 (xt (cEq hr.units) (c_6 (c_6 (xv 2) a_7) a_7) d_4))))
 (xs1 (f_9 (m_1 (cNe hr.units) (c_6 (c_6 (xv 0) a_7) (aD8 a_7)) d_4)))
 xsN)
 (xs1 (f_9 (xB (v_3 rfl) rfl T.z_all PyProof.Rows.boot_all (xaC (xlc (sc:=a_1 c_3) rfl rfl (by show ScB ["row","above","from_rows"] (a_1 c_3) _ "from_row" [] [];exact⟨rfl,rfl,by decide +kernel,by decide +kernel,rfl,by decide +kernel,by decide +kernel,rfl,by decide +kernel⟩) (xv 2) (λ _ _ _ _=>i_2) (λ _ _ _ _=>(m_1 H_4 (c_6 (xv 0) a_7) (aE0 T.c_CHAINS)))) xaN))))))))),bF,F.kp,mF⟩
abbrev j_0:Stmt:=top 30
theorem sc_read_works:FnScope ["text","above","number","row_text","row"] ["text"] (a_1 j_0):=⟨rfl,rfl,rfl,by decide +kernel,rfl,by decide +kernel,by decide +kernel⟩
theorem A_2 {f:Addr}{fd:FuncData} (F:Fun K "read_works" "read_works" j_0 f fd) (bF:Binds K fd ["text"] []) (mF:mg "read_works"=some (.ref f)) (T:Blt w K mg) (G_read_row:DefOk P w K mg base 3 "read_row" f_2) (G_stands_right:DefOk P w K mg base 2 "stands_right" b_6):DefN P w K mg base 4 "read_works" d_7 :=
 ⟨f,fd,["text"],bf2 F sc_read_works rfl rfl (λ cdv A outer s H E hr =>
 (xnC (xnS (h_8 (v_7 (xtv (xty (t:=.str) T.z_isinstance T.z_str PyProof.Rows.boot_str (xv 0)) (λ _=>rfl)))
 (xs1 bC3)
 xsN))
 (xnC (xnS (xdn 1 sc_read_works.nd))
 (xnC (xnS (bo0 T.z_enumerate (xgT (bj1 (xgN 2 sc_read_works.nd) (bj1 (xgN 3 sc_read_works.nd) bC6))) (ay2 (xv 0) d_4)
 (xsC (k_0 4 sc_read_works.nd (xF G_read_row (hr.mono (by decide)) (xaC (xv 3) xaN)))
 (xsC (h_8 (aU9 1 (xw (C_8 (xt cGe (xv 2) (bj2 T.c_MOST_ROWS)) (C_8 (xt cIs (xv 4) x_1) (p_4 (v_7 (xtv (xF G_stands_right (hr.mono (by decide)) (xaC (xv 4) (xaC (xv 1) xaN))) (λ _=>rfl))))))))
 (xs1 bC3)
 xsN)
 (xs1 (xdk 1 (af8 hr) (c_6 (xv 4) a_7) (xv 4)))))))
 (xnL (bM7 (aV0 1 rfl T.z_list))))))),bF,F.kp,mF⟩
abbrev k_2:Stmt:=top 31
theorem sc_shown_row:FnScope ["row","words","value"] ["row"] (a_1 k_2):=⟨rfl,rfl,rfl,by decide +kernel,rfl,by decide +kernel,by decide +kernel⟩
theorem E_3 {f:Addr}{fd:FuncData} (F:Fun K "shown_row" "shown_row" k_2 f fd) (bF:Binds K fd ["row"] []) (mF:mg "shown_row"=some (.ref f)) (T:Blt w K mg) :DefOk P w K mg base 1 "shown_row" h_2 :=
 ⟨f,fd,["row"],h_9 F sc_shown_row rfl rfl (λ cdv A outer s H E hr =>
 (xsC (aS9 1 sc_shown_row.nd (aV2 (I_8 (xaC (c_6 (xv 0) a_7) (xaC (c_6 (xv 0) a_7) xaN))) (xTy s_8 rfl T.z_list PyProof.Rows.boot_list (xaC (c_6 (xv 0) a_7) xaN))))
 (xsC (bj3 (xgN 2 sc_shown_row.nd) (c_6 (xv 0) a_7)
 (xs1 (h_8 (xtv (xty (t:=.tuple) T.z_isinstance T.z_tuple PyProof.Rows.boot_tuple (xv 2)) (λ _=>rfl))
 (xs1 (bo1 1 (xv 2)))
 (xs1 (aV5 1 (xaC (xif (xt cIs (xv 2) x_1) d_4 (xTy aj9 rfl T.z_str PyProof.Rows.boot_str (xaC (xv 2) xaN))) xaN))))))
 (xs1 (aT0 1 (f_9 (an6 (xv 1)))))))),bF,F.kp,mF⟩
abbrev f_1:Stmt:=top 32
theorem v_8:FnScope ["works"] ["works"] (a_1 f_1):=⟨rfl,rfl,rfl,by decide +kernel,rfl,by decide +kernel,by decide +kernel⟩
theorem w_2 {f:Addr}{fd:FuncData} (F:Fun K "shown_works" "shown_works" f_1 f fd) (bF:Binds K fd ["works"] []) (mF:mg "shown_works"=some (.ref f)) (T:Blt w K mg) (G_shown_row:DefOk P w K mg base 1 "shown_row" h_2):DefOk P w K mg base 2 "shown_works" d_1 :=
 ⟨f,fd,["works"],h_9 F v_8 rfl rfl (λ cdv A outer s H E hr =>
 (xs1 (f_9 (an6 (xlc (sc:=a_1 f_1) rfl rfl (by show ScB ["works"] (a_1 f_1) _ "row" [] [];exact⟨rfl,rfl,by decide +kernel,by decide +kernel,rfl,by decide +kernel,by decide +kernel,rfl,by decide +kernel⟩) (xv 0) (λ _ _ _ _=>i_2) (λ _ _ _ _=>(xF G_shown_row (hr.mono (by decide)) (xaC (xv 0) xaN)))))))),bF,F.kp,mF⟩
abbrev k_3:Stmt:=top 33
theorem sc_row_named:FnScope ["works","name","row"] ["works","name"] (a_1 k_3):=⟨rfl,rfl,rfl,by decide +kernel,rfl,by decide +kernel,by decide +kernel⟩
theorem E_4 {f:Addr}{fd:FuncData} (F:Fun K "row_named" "row_named" k_3 f fd) (bF:Binds K fd ["works","name"] []) (mF:mg "row_named"=some (.ref f)) (T:Blt w K mg) :DefOk P w K mg base 1 "row_named" b_5 :=
 ⟨f,fd,["works","name"],h_9 F sc_row_named rfl rfl (λ cdv A outer s H E hr =>
 (xsC (bj3 (xgN 2 sc_row_named.nd) (xv 0)
 (xs1 (h_8 (xt (cEq hr.units) (c_6 (xv 2) a_7) (xv 1))
 (xs1 (f_9 (xv 2)))
 xsN)))
 (xs1 (f_9 x_1)))),bF,F.kp,mF⟩
abbrev i_0:Stmt:=top 35
theorem v_9:FnScope ["_law_script","_law_k"] ["_law_script","_law_k"] (a_1 i_0):=⟨rfl,rfl,rfl,by decide +kernel,rfl,by decide +kernel,by decide +kernel⟩
theorem w_3 {f:Addr}{fd:FuncData} (F:Fun K "_law_cell_at" "_law_cell_at" i_0 f fd) (bF:Binds K fd ["_law_script","_law_k"] []) (mF:mg "_law_cell_at"=some (.ref f)) (T:Blt w K mg) :DefOk P w K mg base 1 "_law_cell_at" b_8 :=
 ⟨f,fd,["_law_script","_law_k"],h_9 F v_9 rfl rfl (λ cdv A outer s H E hr =>
 (xsC (h_8 (xt cLt (xv 1) (xB d_2 rfl T.z_len PySem.boot_len (xaC (xv 0) xaN)))
 (xs1 (f_9 (c_6 (xv 0) (xv 1))))
 xsN)
 (xs1 (f_9 a_7)))),bF,F.kp,mF⟩
abbrev j_2:Stmt:=top 36
theorem sc_law_digits:FnScope ["_law_cell","_law_many","_law_found","_law_rest","_law_k","_law_number_here"] ["_law_cell","_law_many"] (a_1 j_2):=⟨rfl,rfl,rfl,by decide +kernel,rfl,by decide +kernel,by decide +kernel⟩
theorem A_4 {f:Addr}{fd:FuncData} (F:Fun K "_law_digits" "_law_digits" j_2 f fd) (bF:Binds K fd ["_law_cell","_law_many"] []) (mF:mg "_law_digits"=some (.ref f)) (T:Blt w K mg) :DefOk P w K mg base 1 "_law_digits" d_3 :=
 ⟨f,fd,["_law_cell","_law_many"],h_9 F sc_law_digits rfl rfl (λ cdv A outer s H E hr =>
 (xsC (aS9 2 sc_law_digits.nd (aD7 xaN))
 (xsC (k_0 3 sc_law_digits.nd (xv 0))
 (xsC (Y_7 T.z_range (xgN 4 sc_law_digits.nd) (xv 1) (xsC (k_0 5 sc_law_digits.nd (xv 3))
 (xsC (h_8 (xw (C_8 (xt cLt (xv 0) (xb aT2 a_7 a_7)) (p_4 (xt (cEq hr.units) (xv 3) a_7))))
 (xsC (k_0 5 sc_law_digits.nd (xb l_3 (xb as6 (xb l_4 (xb l_4 (xb l_3 (xv 0) a_7) (xb as6 a_7 (xv 4))) a_7) a_7) a_7))
 (xsC (k_0 5 sc_law_digits.nd (xb l_3 (xb as6 (xv 5) (xb l_4 (xb bb4 (xv 5) a_7) a_7)) a_7))
 (xsC (k_0 5 sc_law_digits.nd (xb l_3 (xb as6 (xb l_4 (xv 5) (xb as6 a_7 (xv 4))) (xb l_4 (xb bb4 (xv 5) a_7) a_7)) a_7))
 (xs1 (k_0 5 sc_law_digits.nd (xb bb4 (xv 5) a_7))))))
 xsN)
 (xsC (aV5 2 (xaC (xb l_3 (xv 5) a_7) xaN))
 (xs1 (k_0 3 sc_law_digits.nd (xb bb4 (xv 3) a_7)))))))
 (xs1 (aT0 2 (f_9 (xv 2)))))))),bF,F.kp,mF⟩
abbrev j_1:Stmt:=top 37
theorem sc_law_number:FnScope ["_law_digits_here","_law_at","_law_number_here","_law_k"] ["_law_digits_here","_law_at"] (a_1 j_1):=⟨rfl,rfl,rfl,by decide +kernel,rfl,by decide +kernel,by decide +kernel⟩
theorem A_3 {f:Addr}{fd:FuncData} (F:Fun K "_law_number" "_law_number" j_1 f fd) (bF:Binds K fd ["_law_digits_here","_law_at"] []) (mF:mg "_law_number"=some (.ref f)) (T:Blt w K mg) :DefOk P w K mg base 1 "_law_number" a_4 :=
 ⟨f,fd,["_law_digits_here","_law_at"],h_9 F sc_law_number rfl rfl (λ cdv A outer s H E hr =>
 (xsC (k_0 2 sc_law_number.nd (xb l_3 (c_6 (xv 0) (xv 1)) a_7))
 (xsC (h_8 (xt cGt (c_6 (xv 0) (xv 1)) a_7)
 (xsC (aV4 T.z_range (xgN 3 sc_law_number.nd) a_7 a_7 (xs1 (k_0 2 sc_law_number.nd (xb l_4 (xb as6 (xv 2) a_7) (c_6 (xv 0) (xb l_4 (xv 1) (xv 3)))))))
 (xs1 (k_0 2 sc_law_number.nd (xb l_3 (xv 2) (c_6 (I_8 (xaC a_7 (xaC a_7 (xaC (xb aT2 a_7 a_7) (xaC (xb aT2 a_7 a_7) xaN))))) (xb l_3 (c_6 (xv 0) (xv 1)) a_7))))))
 xsN)
 (xsC (h_8 (xt (cEq hr.units) (xb l_3 (xb bb4 (c_6 (xv 0) (xv 1)) a_7) a_7) a_7)
 (xs1 (f_9 (xb aT1 a_7 (xv 2))))
 xsN)
 (xs1 (f_9 (xv 2))))))),bF,F.kp,mF⟩
abbrev o_6:Stmt:=top 38
theorem sc_law_two:FnScope ["_law_digits_here","_law_at","_law_some","_law_low","_law_high"] ["_law_digits_here","_law_at"] (a_1 o_6):=⟨rfl,rfl,rfl,by decide +kernel,rfl,by decide +kernel,by decide +kernel⟩
theorem U_7 {f:Addr}{fd:FuncData} (F:Fun K "_law_two" "_law_two" o_6 f fd) (bF:Binds K fd ["_law_digits_here","_law_at"] []) (mF:mg "_law_two"=some (.ref f)) (T:Blt w K mg) (G_law_number:DefOk P w K mg base 1 "_law_number" a_4):DefOk P w K mg base 2 "_law_two" g_7 :=
 ⟨f,fd,["_law_digits_here","_law_at"],h_9 F sc_law_two rfl rfl (λ cdv A outer s H E hr =>
 (xsC (k_0 2 sc_law_two.nd (xB ak0 rfl T.z_sorted PyProof.Rows.boot_sorted (xaC (I_8 (xaC (xF G_law_number (hr.mono (by decide)) (xaC (xv 0) (xaC (xv 1) xaN))) (xaC (xF G_law_number (hr.mono (by decide)) (xaC (xv 0) (xaC (xb l_4 (xv 1) a_7) xaN))) xaN))) xaN)))
 (xsC (k_0 3 sc_law_two.nd (c_6 (xv 2) a_7))
 (xsC (k_0 4 sc_law_two.nd (c_6 (xv 2) a_7))
 (xsC (h_8 (xt (cEq hr.units) (xb l_3 (c_6 (xv 0) (xb l_4 (xv 1) a_7)) a_7) a_7)
 (xs1 (f_9 (v_6 (xaC x_1 (xaC (xv 4) xaN)))))
 xsN)
 (xsC (h_8 (xt (cEq hr.units) (xb l_3 (c_6 (xv 0) (xb l_4 (xv 1) a_7)) a_7) a_7)
 (xs1 (f_9 (v_6 (xaC (xv 3) (xaC x_1 xaN)))))
 xsN)
 (xsC (h_8 (xt (cEq hr.units) (xb l_3 (c_6 (xv 0) (xb l_4 (xv 1) a_7)) a_7) a_7)
 (xs1 (f_9 (v_6 (xaC x_1 (xaC x_1 xaN)))))
 xsN)
 (xs1 (f_9 (v_6 (xaC (xv 3) (xaC (xv 4) xaN)))))))))))),bF,F.kp,mF⟩
abbrev m_3:Stmt:=top 39
theorem sc_law_keys:FnScope ["_law_digits_here","_law_at","_law_many","_law_some","_law_found","_law_k","_law_first","_law_sign"] ["_law_digits_here","_law_at","_law_many"] (a_1 m_3):=⟨rfl,rfl,rfl,by decide +kernel,rfl,by decide +kernel,by decide +kernel⟩
theorem K_4 {f:Addr}{fd:FuncData} (F:Fun K "_law_keys" "_law_keys" m_3 f fd) (bF:Binds K fd ["_law_digits_here","_law_at","_law_many"] []) (mF:mg "_law_keys"=some (.ref f)) (T:Blt w K mg) :DefOk P w K mg base 1 "_law_keys" c_1 :=
 ⟨f,fd,["_law_digits_here","_law_at","_law_many"],h_9 F sc_law_keys rfl rfl (λ cdv A outer s H E hr =>
 (xsC (k_0 3 sc_law_keys.nd d_4)
 (xsC (aS9 4 sc_law_keys.nd (aD7 xaN))
 (xsC (Y_7 T.z_range (xgN 5 sc_law_keys.nd) (xv 2) (xsC (k_0 6 sc_law_keys.nd (c_6 (xv 3) (xb l_3 (xb l_4 (c_6 (xv 0) (xv 1)) (xb as6 a_7 (xv 5))) a_7)))
 (xsC (k_0 7 sc_law_keys.nd (c_6 (xv 3) (xb l_3 (c_6 (xv 0) (xb l_4 (xb l_4 (xv 1) a_7) (xv 5))) a_7)))
 (xs1 (aV5 4 (xaC (xb l_4 (xv 6) (xb bu9 (xv 7) (xb l_3 (c_6 (xv 0) (xb l_4 (xb l_4 (xv 1) a_7) (xv 5))) a_7))) xaN))))))
 (xs1 (aT0 4 (f_9 (xv 4)))))))),bF,F.kp,mF⟩
abbrev g_9:Stmt:=top 40
theorem sc_law_chain:FnScope ["_law_word","_law_digits_here","_law_keys_here","_law_others","_law_begin","_law_far","_law_low"] ["_law_word","_law_digits_here"] (a_1 g_9):=⟨rfl,rfl,rfl,by decide +kernel,rfl,by decide +kernel,by decide +kernel⟩
theorem E_7 {f:Addr}{fd:FuncData} (F:Fun K "_law_chain" "_law_chain" g_9 f fd) (bF:Binds K fd ["_law_word","_law_digits_here"] []) (mF:mg "_law_chain"=some (.ref f)) (T:Blt w K mg) (G_law_keys:DefOk P w K mg base 1 "_law_keys" c_1) (G_law_number:DefOk P w K mg base 1 "_law_number" a_4) (G_law_two:DefOk P w K mg base 2 "_law_two" g_7):DefOk P w K mg base 3 "_law_chain" b_9 :=
 ⟨f,fd,["_law_word","_law_digits_here"],h_9 F sc_law_chain rfl rfl (λ cdv A outer s H E hr =>
 (xsC (h_8 (xw (C_8 (xt (cEq hr.units) (xv 0) d_4) (p_4 (xt (cEq hr.units) (xv 0) d_4))))
 (xs1 (f_9 (xF G_law_two (hr.mono (by decide)) (xaC (xv 1) (xaC a_7 xaN)))))
 xsN)
 (xsC (h_8 (xt (cEq hr.units) (xv 0) d_4)
 (xsC (k_0 4 sc_law_chain.nd (xb l_3 (xB n_9 rfl T.z_abs PyProof.Rows.boot_abs (xaC (xF G_law_number (hr.mono (by decide)) (xaC (xv 1) (xaC a_7 xaN))) xaN)) (xb aT2 a_7 a_7)))
 (xsC (k_0 5 sc_law_chain.nd (xb l_3 (xB n_9 rfl T.z_abs PyProof.Rows.boot_abs (xaC (xF G_law_number (hr.mono (by decide)) (xaC (xv 1) (xaC a_7 xaN))) xaN)) (xb aT2 a_7 a_7)))
 (xs1 (f_9 (v_6 (xaC (xv 4) (xaC (c_6 (I_8 (xaC x_1 (xaC (xb l_4 (xb l_4 (xv 4) a_7) (xv 5)) xaN))) (xb l_3 (c_6 (xv 1) a_7) a_7)) xaN)))))))
 xsN)
 (xsC (h_8 (xw (C_8 (xt (cEq hr.units) (xv 0) d_4) (p_4 (xt (cEq hr.units) (xv 0) d_4))))
 (xs1 (f_9 (xTy j_9 rfl T.z_tuple PyProof.Rows.boot_tuple (xaC (xF G_law_keys (hr.mono (by decide)) (xaC (xv 1) (xaC a_7 (xaC (xb l_4 a_7 (xb l_3 (c_6 (xv 1) a_7) a_7)) xaN)))) xaN))))
 xsN)
 (xsC (h_8 (xt (cEq hr.units) (xv 0) d_4)
 (xsC (k_0 6 sc_law_chain.nd (xb l_4 a_7 (xb l_3 (xB n_9 rfl T.z_abs PyProof.Rows.boot_abs (xaC (xF G_law_number (hr.mono (by decide)) (xaC (xv 1) (xaC a_7 xaN))) xaN)) a_7)))
 (xs1 (f_9 (v_6 (xaC (xv 6) (xaC (xb l_3 (xB n_9 rfl T.z_abs PyProof.Rows.boot_abs (xaC (xF G_law_number (hr.mono (by decide)) (xaC (xv 1) (xaC a_7 xaN))) xaN)) (xv 6)) xaN))))))
 xsN)
 (xsC (h_8 (xt (cEq hr.units) (xv 0) d_4)
 (xsC (k_0 6 sc_law_chain.nd (xb aT1 (xb l_3 (xF G_law_number (hr.mono (by decide)) (xaC (xv 1) (xaC a_7 xaN))) a_7) a_7))
 (xs1 (f_9 (v_6 (xaC (c_6 (I_8 (xaC (xv 6) (xaC a_7 xaN))) (xTy C_4 rfl T.z_int PyProof.Rows.boot_int (xaC (m_1 (cEq hr.units) (xv 6) a_7) xaN))) (xaC (xF G_law_number (hr.mono (by decide)) (xaC (xv 1) (xaC a_7 xaN))) xaN))))))
 xsN)
 (xsC (h_8 (xt (cEq hr.units) (xv 0) d_4)
 (xs1 (f_9 (v_6 (xaC (xB n_9 rfl T.z_abs PyProof.Rows.boot_abs (xaC (xF G_law_number (hr.mono (by decide)) (xaC (xv 1) (xaC a_7 xaN))) xaN)) xaN))))
 xsN)
 (xsC (k_0 2 sc_law_chain.nd (xF G_law_keys (hr.mono (by decide)) (xaC (xv 1) (xaC a_7 (xaC (xb l_4 a_7 (xb l_3 (c_6 (xv 1) a_7) a_7)) xaN)))))
 (xsC (k_0 3 sc_law_chain.nd (bC4 (xv 2)))
 (xsC (h_8 (xt cGt (xb l_3 (c_6 (xv 1) a_7) a_7) a_7)
 (xs1 (k_0 3 sc_law_chain.nd (xfr (aV1 (xaC (c_6 (I_8 (xaC (c_6 (xF G_law_keys (hr.mono (by decide)) (xaC (xv 1) (xaC a_7 (xaC a_7 xaN)))) a_7) (xaC d_4 xaN))) (xb l_3 (c_6 (xv 1) a_7) a_7)) xaN) (xB d_2 rfl T.z_len PySem.boot_len (xaC (xv 2) xaN))))))
 xsN)
 (xs1 (f_9 (xTy j_9 rfl T.z_tuple PyProof.Rows.boot_tuple (xaC (bM8 T.z_zip (sc:=a_1 g_9) rfl rfl (by show ScB2 ["_law_word","_law_digits_here","_law_keys_here","_law_others","_law_begin","_law_far","_law_low"] (a_1 g_9) _ "_law_key" "_law_other" [] [];exact⟨⟨rfl,rfl,by decide +kernel,by decide +kernel,rfl,by decide +kernel,by decide +kernel,rfl,by decide +kernel⟩,rfl,by decide +kernel⟩) (xv 2) (xv 3) (λ _ _ _ _=>i_2) (λ _ _ _ _=>(v_6 (xaC (xv 0) (xaC (xv 1) xaN))))) xaN)))))))))))))),bF,F.kp,mF⟩
abbrev m_4:Stmt:=top 41
theorem sc_law_fold:FnScope ["_law_word","_law_digits_here","_law_summed","_law_fold_here","_law_wide"] ["_law_word","_law_digits_here","_law_summed"] (a_1 m_4):=⟨rfl,rfl,rfl,by decide +kernel,rfl,by decide +kernel,by decide +kernel⟩
theorem K_5 {f:Addr}{fd:FuncData} (F:Fun K "_law_fold" "_law_fold" m_4 f fd) (bF:Binds K fd ["_law_word","_law_digits_here","_law_summed"] []) (mF:mg "_law_fold"=some (.ref f)) (T:Blt w K mg) (G_law_number:DefOk P w K mg base 1 "_law_number" a_4):DefOk P w K mg base 2 "_law_fold" g_5 :=
 ⟨f,fd,["_law_word","_law_digits_here","_law_summed"],h_9 F sc_law_fold rfl rfl (λ cdv A outer s H E hr =>
 (xsC (k_0 3 sc_law_fold.nd (c_6 (I_8 (xaC d_4 (xaC d_4 (xaC d_4 (xaC d_4 xaN))))) (xb l_3 (c_6 (xv 1) a_7) (xb l_4 a_7 (xTy C_4 rfl T.z_int PyProof.Rows.boot_int (xaC (xv 2) xaN))))))
 (xsC (k_0 4 sc_law_fold.nd (xb l_4 a_7 (xb l_3 (xB n_9 rfl T.z_abs PyProof.Rows.boot_abs (xaC (xF G_law_number (hr.mono (by decide)) (xaC (xv 1) (xaC a_7 xaN))) xaN)) (xb aT2 a_7 a_7))))
 (xsC (h_8 (xt (cEq hr.units) (xv 0) d_4)
 (xs1 (f_9 (v_6 (xaC (xv 3) xaN))))
 xsN)
 (xsC (h_8 (xt (cEq hr.units) (xv 0) d_4)
 (xs1 (f_9 (v_6 (xaC (xb l_4 (xb l_4 (xv 4) a_7) (xb as6 (xb l_3 (c_6 (xv 1) a_7) a_7) (xv 4))) (xaC (xv 4) (xaC (xv 3) xaN))))))
 xsN)
 (xs1 (f_9 (v_6 (xaC (xv 4) (xaC (xv 3) xaN)))))))))),bF,F.kp,mF⟩
abbrev h_0:Stmt:=top 42
theorem sc_law_asked:FnScope ["_law_fold_here","_law_above","_law_digits_here","_law_low","_law_high"] ["_law_fold_here","_law_above","_law_digits_here"] (a_1 h_0):=⟨rfl,rfl,rfl,by decide +kernel,rfl,by decide +kernel,by decide +kernel⟩
theorem E_8 {f:Addr}{fd:FuncData} (F:Fun K "_law_asked" "_law_asked" h_0 f fd) (bF:Binds K fd ["_law_fold_here","_law_above","_law_digits_here"] []) (mF:mg "_law_asked"=some (.ref f)) (T:Blt w K mg) (G_law_two:DefOk P w K mg base 2 "_law_two" g_7):DefOk P w K mg base 3 "_law_asked" g_4 :=
 ⟨f,fd,["_law_fold_here","_law_above","_law_digits_here"],h_9 F sc_law_asked rfl rfl (λ cdv A outer s H E hr =>
 (xsC (h_8 (xw (C_8 (xt (cEq hr.units) (xb l_3 (c_6 (xv 2) a_7) a_7) a_7) (C_8 (xt (cEq hr.units) (c_6 (xv 0) a_7) d_4) (p_4 (xt (cEq hr.units) (c_6 (c_6 (xv 0) a_7) (aD8 a_7)) d_4)))))
 (xs1 (f_9 (v_6 xaN)))
 xsN)
 (xsC (h_8 (xt (cEq hr.units) (c_6 (c_6 (xlc (sc:=a_1 h_0) rfl rfl (by show ScB ["_law_fold_here","_law_above","_law_digits_here","_law_low","_law_high"] (a_1 h_0) _ "_law_row_here" ["_law_fold_here"] [0];exact⟨rfl,rfl,by decide +kernel,by decide +kernel,rfl,by decide +kernel,by decide +kernel,rfl,by decide +kernel⟩) (xv 1) (λ _ _ _ _=>(t_0 (xt (cEq hr.units) (c_6 (xv 0) a_7) (c_6 (c_6 (xv 1) a_7) a_7)))) (λ _ _ _ _=>(xv 0))) a_7) a_7) d_4)
 (xs1 (f_9 (v_6 xaN)))
 xsN)
 (xsC (aD3 (xgT (bj1 (xgN 3 sc_law_asked.nd) (bj1 (xgN 4 sc_law_asked.nd) bC6))) (xF G_law_two (hr.mono (by decide)) (xaC (xv 2) (xaC a_7 xaN))))
 (xsC (h_8 (xt (cEq hr.units) (c_6 (c_6 (xv 0) a_7) (aD8 a_7)) d_4)
 (xsC (k_0 3 sc_law_asked.nd (xb l_4 a_7 (xb l_3 (c_6 (xv 2) a_7) a_7)))
 (xs1 (k_0 4 sc_law_asked.nd (c_6 (I_8 (xaC x_1 (xaC (xb l_4 (xv 3) (c_6 (xv 2) a_7)) xaN))) (xb l_3 (c_6 (xv 2) a_7) a_7)))))
 xsN)
 (xs1 (f_9 (v_6 (xaC (xv 3) (xaC (xv 4) xaN)))))))))),bF,F.kp,mF⟩
abbrev e_5:Stmt:=top 43
theorem sc_law_row:FnScope ["_law_above","_law_digits_here","_law_words_here","_law_word","_law_chains","_law_folds","_law_pairs","_law_name","_law_froms","_law_many","_law_how","_law_fold_here","_law_summed","_law_one"] ["_law_above","_law_digits_here"] (a_1 e_5):=⟨rfl,rfl,rfl,by decide +kernel,rfl,by decide +kernel,by decide +kernel⟩
theorem U_8 {f:Addr}{fd:FuncData} (F:Fun K "_law_row" "_law_row" e_5 f fd) (bF:Binds K fd ["_law_above","_law_digits_here"] []) (mF:mg "_law_row"=some (.ref f)) (T:Blt w K mg) (G_law_asked:DefOk P w K mg base 3 "_law_asked" g_4) (G_law_chain:DefOk P w K mg base 3 "_law_chain" b_9) (G_law_fold:DefOk P w K mg base 2 "_law_fold" g_5) (G_law_keys:DefOk P w K mg base 1 "_law_keys" c_1) (G_law_number:DefOk P w K mg base 1 "_law_number" a_4):DefOk P w K mg base 4 "_law_row" g_0 :=
 ⟨f,fd,["_law_above","_law_digits_here"],h_9 F sc_law_row rfl rfl (λ cdv A outer s H E hr =>
 (@YSs.go _ _ _ (ysC (Y_5 2 sc_law_row.nd (bi9 (yaC (ye d_4) (yaC (ye d_4) (yaC (ye d_4) (yaC (ye d_4) (yaC (ye d_4) (yaC (ye d_4) (yaC (ye d_4) (yaC (ye d_4) (yaC (ye d_4) (yaC (ye d_4) (yaC (ye d_4) yaN))))))))))))) (ysC (Y_5 2 sc_law_row.nd (yb l_4 (ye (xv 2)) (bi9 (yaC (ye d_4) (yaC (ye d_4) (yaC (ye d_4) (yaC (ye d_4) (yaC (ye d_4) (yaC (ye d_4) (yaC (ye d_4) yaN)))))))))) (ysC (Y_5 3 sc_law_row.nd (yix (ye (xv 2)) (yb l_3 (yix (ye (xv 1)) (ye a_7)) (ye (xB d_2 rfl T.z_len PySem.boot_len (xaC (xv 2) xaN)))))) (ysC (Y_5 4 sc_law_row.nd (ye (xlc (sc:=a_1 e_5) rfl rfl (by show ScB ["_law_above","_law_digits_here","_law_words_here","_law_word","_law_chains","_law_folds","_law_pairs","_law_name","_law_froms","_law_many","_law_how","_law_fold_here","_law_summed","_law_one"] (a_1 e_5) _ "_law_row_here" ["_law_words_here"] [2];exact⟨rfl,rfl,by decide +kernel,by decide +kernel,rfl,by decide +kernel,by decide +kernel,rfl,by decide +kernel⟩) (xv 0) (λ _ _ _ _=>(t_0 (xt H_4 (c_6 (xv 0) a_7) (ay3 (xv 1) xoN (xoS a_7))))) (λ _ _ _ _=>(c_6 (xv 0) a_7))))) (ysC (yx (Y_6 5 sc_law_row.nd (sc:=a_1 e_5) rfl rfl (by show ScB ["_law_above","_law_digits_here","_law_words_here","_law_word","_law_chains","_law_folds","_law_pairs","_law_name","_law_froms","_law_many","_law_how","_law_fold_here","_law_summed","_law_one"] (a_1 e_5) _ "_law_row_here" ["_law_words_here"] [2];exact⟨rfl,rfl,by decide +kernel,by decide +kernel,rfl,by decide +kernel,by decide +kernel,rfl,by decide +kernel⟩) (xv 0) (λ _ _ _ _=>(t_0 (xt H_4 (c_6 (xv 0) a_7) (ay3 (xv 1) (xoS a_7) (xoS a_7))))) (λ _ _ _ _=>(xv 0)))) (ysC (yx (Y_6 6 sc_law_row.nd (sc:=a_1 e_5) rfl rfl (by show ScB ["_law_above","_law_digits_here","_law_words_here","_law_word","_law_chains","_law_folds","_law_pairs","_law_name","_law_froms","_law_many","_law_how","_law_fold_here","_law_summed","_law_one"] (a_1 e_5) _ "_law_row_here" [] [];exact⟨rfl,rfl,by decide +kernel,by decide +kernel,rfl,by decide +kernel,by decide +kernel,rfl,by decide +kernel⟩) (xv 0) (λ _ _ _ _=>(t_0 (xt (cEq hr.units) (c_6 (xv 0) a_7) d_4))) (λ _ _ _ _=>(c_6 (xv 0) a_7)))) (ysC (Y_5 7 sc_law_row.nd (yb l_4 (yix (ye d_4) (ye (xB d_2 rfl T.z_len PySem.boot_len (xaC (xv 0) xaN)))) (ye (ay3 (c_6 (xF G_law_keys (hr.mono (by decide)) (xaC (xv 1) (xaC a_7 (xaC a_7 xaN)))) a_7) xoN (xoS a_7))))) (ysC (yx (aD5 8 sc_law_row.nd T.z_range (sc:=a_1 e_5) rfl rfl (by show ScB ["_law_above","_law_digits_here","_law_words_here","_law_word","_law_chains","_law_folds","_law_pairs","_law_name","_law_froms","_law_many","_law_how","_law_fold_here","_law_summed","_law_one"] (a_1 e_5) _ "_law_k" ["_law_chains","_law_digits_here"] [4,1];exact⟨rfl,rfl,by decide +kernel,by decide +kernel,rfl,by decide +kernel,by decide +kernel,rfl,by decide +kernel⟩) a_7 (λ _ _ _ _=>i_2) (λ _ _ _ _=>(c_6 (xb l_4 (xv 1) (I_8 (xaC d_4 xaN))) (xb l_3 (c_6 (xv 2) (xb l_4 a_7 (xv 0))) (xB (aR5 rfl) rfl T.z_max PyProof.Rows.boot_max (xaC a_7 (xaC (xB d_2 rfl T.z_len PySem.boot_len (xaC (xv 1) xaN)) xaN)))))))) (ysC (yif (xw (C_8 (xt (cEq hr.units) (xv 4) (I_8 xaN)) (C_8 (xw (an4 (xt (cEq hr.units) (xv 3) d_4) (N_0 (xt (cEq hr.units) (xv 5) (I_8 xaN))))) (p_4 (xw (an4 (xt (cEq hr.units) (xv 3) d_4) (N_0 (xt cLt (xB d_2 rfl T.z_len PySem.boot_len (xaC (xv 4) xaN)) a_7))))))))
 (ys1 (Y_5 3 sc_law_row.nd (ye d_4)))
 ysN) (ysC (yif (xt (cEq hr.units) (xv 3) d_4)
 (ys1 (aS8 (X_6 (yaC (ye d_4) (yaC (ye (xv 7)) (yaC (X_6 yaN) (yaC (ye (xF G_law_chain (hr.mono (by decide)) (xaC d_4 (xaC (xv 1) xaN)))) yaN)))))))
 ysN) (ysC (yif (xt (cEq hr.units) (xv 3) d_4)
 (ysC (Y_5 9 sc_law_row.nd (yb l_4 (ye a_7) (yb l_3 (yix (ye (xv 1)) (ye a_7)) (ye (xB (aR4 rfl) rfl T.z_min PyProof.Rows.boot_min (xaC a_7 (xaC (xb aT1 (xB d_2 rfl T.z_len PySem.boot_len (xaC (xv 4) xaN)) a_7) xaN))))))) (ys1 (aS8 (X_6 (yaC (ye (xv 3)) (yaC (ye (xv 7)) (yaC (ye (xTy j_9 rfl T.z_tuple PyProof.Rows.boot_tuple (xaC (ay3 (bC4 (xv 4)) xoN (xoS (xv 9))) xaN))) (yaC (X_6 yaN) yaN))))))))
 ysN) (ysC (yif (xt (cEq hr.units) (xv 3) d_4)
 (ysC (Y_5 10 sc_law_row.nd (yix (bi9 (yaC (ye d_4) (yaC (ye d_4) (yaC (ye d_4) (yaC (ye d_4) yaN))))) (yb l_3 (yix (ye (xv 1)) (ye a_7)) (ye a_7)))) (ys1 (aS8 (X_6 (yaC (ye (xv 3)) (yaC (ye (xv 7)) (yaC (ye (xTy j_9 rfl T.z_tuple PyProof.Rows.boot_tuple (xaC (xv 8) xaN))) (yaC (X_6 (yaC (ye (xB n_9 rfl T.z_abs PyProof.Rows.boot_abs (xaC (xF G_law_number (hr.mono (by decide)) (xaC (xv 1) (xaC a_7 xaN))) xaN))) (yaC (ye (xv 10)) yaN))) yaN))))))))
 ysN) (ysC (yif (xt (cEq hr.units) (xv 3) d_4)
 (ysC (Y_5 11 sc_law_row.nd (yix (ye (xv 5)) (yb l_3 (yix (ye (xv 1)) (ye a_7)) (ye (xB d_2 rfl T.z_len PySem.boot_len (xaC (xv 5) xaN)))))) (ys1 (aS8 (X_6 (yaC (ye (xv 3)) (yaC (ye (xv 7)) (yaC (X_6 (yaC (yix (ye (xv 11)) (ye a_7)) yaN)) (yaC (ye (xF G_law_asked (hr.mono (by decide)) (xaC (xv 11) (xaC (xv 0) (xaC (xv 1) xaN))))) yaN))))))))
 ysN) (ysC (yif (xt H_4 (xv 3) (ay3 (xv 2) (xoS a_7) (xoS a_7)))
 (ysC (Y_5 12 sc_law_row.nd (ye (xor (m_1 (cEq hr.units) (xv 3) d_4) (xor (m_1 (cEq hr.units) (xv 6) (I_8 xaN)) (C_9 (m_1 (cEq hr.units) (xb l_3 (c_6 (xv 1) a_7) a_7) a_7)))))) (ysC (Y_5 13 sc_law_row.nd (yix (yix (bi9 (yaC (yb l_4 (ye (xv 6)) (ye (xv 8))) (yaC (ye (xv 8)) yaN))) (ye (xTy C_4 rfl T.z_int PyProof.Rows.boot_int (xaC (xv 12) xaN)))) (ye a_7))) (ys1 (aS8 (X_6 (yaC (ye (xv 3)) (yaC (ye (xv 7)) (yaC (X_6 (yaC (ye (xv 13)) yaN)) (yaC (ye (xF G_law_fold (hr.mono (by decide)) (xaC (xv 3) (xaC (xv 1) (xaC (xv 12) xaN))))) yaN)))))))))
 ysN) (ys1 (aS8 (X_6 (yaC (ye (xv 3)) (yaC (ye (xv 7)) (yaC (X_6 (yaC (yix (ye (xv 8)) (ye a_7)) yaN)) (yaC (ye (xF G_law_chain (hr.mono (by decide)) (xaC (xv 3) (xaC (xv 1) xaN)))) yaN))))))))))))))))))))))),bF,F.kp,mF⟩
abbrev k_5:Stmt:=top 44
theorem sc_law_words:FnScope ["_law_row_here","_law_words_here","_law_one"] ["_law_row_here"] (a_1 k_5):=⟨rfl,rfl,rfl,by decide +kernel,rfl,by decide +kernel,by decide +kernel⟩
theorem E_6 {f:Addr}{fd:FuncData} (F:Fun K "_law_words" "_law_words" k_5 f fd) (bF:Binds K fd ["_law_row_here"] []) (mF:mg "_law_words"=some (.ref f)) (T:Blt w K mg) :DefOk P w K mg base 1 "_law_words" d_0 :=
 ⟨f,fd,["_law_row_here"],h_9 F sc_law_words rfl rfl (λ cdv A outer s H E hr =>
 (xsC (aS9 1 sc_law_words.nd (aV2 (I_8 (xaC (c_6 (xv 0) a_7) (xaC (c_6 (xv 0) a_7) xaN))) (xTy s_8 rfl T.z_list PyProof.Rows.boot_list (xaC (c_6 (xv 0) a_7) xaN))))
 (xsC (bj3 (xgN 2 sc_law_words.nd) (c_6 (xv 0) a_7)
 (xs1 (h_8 (xtv (xty (t:=.tuple) T.z_isinstance T.z_tuple PyProof.Rows.boot_tuple (xv 2)) (λ _=>rfl))
 (xs1 (bN1 1 sc_law_words.nd (xTy s_8 rfl T.z_list PyProof.Rows.boot_list (xaC (xv 2) xaN))))
 (xs1 (aV5 1 (xaC (c_6 (I_8 (xaC (xTy aj9 rfl T.z_str PyProof.Rows.boot_str (xaC (xv 2) xaN)) (xaC d_4 xaN))) (xTy C_4 rfl T.z_int PyProof.Rows.boot_int (xaC (m_1 cIs (xv 2) x_1) xaN))) xaN))))))
 (xs1 (aT0 1 (f_9 (an6 (xv 1)))))))),bF,F.kp,mF⟩
abbrev z_6:Stmt:=top 45
theorem sc_law:FnScope ["_law_script","_law_works","_law_k","_law_text","_law_found","_law_row_here"] ["_law_script"] (a_1 z_6):=⟨rfl,rfl,rfl,by decide +kernel,rfl,by decide +kernel,by decide +kernel⟩
theorem bf1 {f:Addr}{fd:FuncData} (F:Fun K "law" "law" z_6 f fd) (T:Blt w K mg) (G_law_cell_at:DefOk P w K mg base 1 "_law_cell_at" b_8) (G_law_digits:DefOk P w K mg base 1 "_law_digits" d_3) (G_law_row:DefOk P w K mg base 4 "_law_row" g_0) (G_law_words:DefOk P w K mg base 1 "_law_words" d_0) (G_read_works:DefN P w K mg base 4 "read_works" d_7) (G_row_named:DefOk P w K mg base 1 "row_named" b_5) (G_shown_works:DefOk P w K mg base 2 "shown_works" d_1):FnOk P w K mg base CX0 5 f fd ["_law_script"] (spP K V_3) :=
 h_9 F sc_law rfl rfl (λ cdv A outer s H E hr =>
 (xsC (aS9 1 sc_law.nd (aD7 xaN))
 (xsC (Y_7 T.z_range (xgN 2 sc_law.nd) (xb l_4 a_7 (xb l_3 (xF G_law_cell_at (hr.mono (by decide)) (xaC (xv 0) (xaC a_7 xaN))) a_7)) (xs1 (aV5 1 (xaC (xhl 1 (xF G_law_row (hr.mono (by decide)) (xaC (xv 1) (xaC (xF G_law_digits (hr.mono (by decide)) (xaC (xF G_law_cell_at (hr.mono (by decide)) (xaC (xv 0) (xaC (xb l_4 a_7 (xv 2)) xaN))) (xaC a_7 xaN))) xaN)))) xaN))))
 (xsC (aT0 1 (k_0 3 sc_law.nd (an6 (xlc (sc:=a_1 z_6) rfl rfl (by show ScB ["_law_script","_law_works","_law_k","_law_text","_law_found","_law_row_here"] (a_1 z_6) _ "_law_row_here" [] [];exact⟨rfl,rfl,by decide +kernel,by decide +kernel,rfl,by decide +kernel,by decide +kernel,rfl,by decide +kernel⟩) (xv 1) (λ _ _ _ _=>i_2) (λ _ _ _ _=>(xF G_law_words (hr.mono (by decide)) (xaC (xv 0) xaN)))))))
 (xsC (bM6 4 sc_law.nd G_read_works (hr.mono (by decide)) (xaC (xv 3) xaN))
 (xsC (h_8 (bj0 4 (xw (C_8 (v_7 (xtv (xty (t:=.list) T.z_isinstance T.z_list PyProof.Rows.boot_list (xv 4)) (λ _=>rfl))) (C_8 (xt (cNe hr.units) (xv 4) (xv 1)) (p_4 (xt (cNe hr.units) (xF G_shown_works (hr.mono (by decide)) (xaC (xTy s_8 rfl T.z_list PyProof.Rows.boot_list (xaC (xv 1) xaN)) xaN)) (xv 3)))))))
 (xs1 (f_9 xbl))
 xsN)
 (xsC (bj3 (xgN 5 sc_law.nd) (xv 1)
 (xs1 (h_8 (bj0 4 (xt (cNe hr.units) (xF G_row_named (hr.mono (by decide)) (xaC (xv 4) (xaC (c_6 (xv 5) a_7) xaN))) (xv 5)))
 (xs1 (f_9 xbl))
 xsN)))
 (xsC (h_8 (bj0 4 (xw (C_8 (xt ak1 (xF G_row_named (hr.mono (by decide)) (xaC (xv 4) (xaC d_4 xaN))) x_1) (p_4 (xt ak1 (xF G_row_named (hr.mono (by decide)) (xaC (I_8 xaN) (xaC (c_6 (c_6 (xv 1) a_7) a_7) xaN))) x_1)))))
 (xs1 (f_9 xbl))
 xsN)
 (xsC (bo3 4)
 (xs1 (f_9 (m_1 (cEq hr.units) (xNL G_read_works (hr.mono (by decide)) (xaC (xv 3) xaN)) (xv 1)))))))))))))
end
end Fx
namespace Fx
open PySem
theorem ag9 {g:D->En->Option En}{B:FS} (P:En->Prop):∀ (n:Nat) (lo:Int) (ρ:En),(∀ (i:Nat) ρ,i<n->P ρ->∃ ρ1 ρ2,g (.int (lo+i)) ρ=some ρ1/\B ρ1=some (.nx ρ2)/\P ρ2)->P ρ->∃ ρ',fGo g B (r_5 lo n) ρ=some (.nx ρ')/\P ρ'
 |0,lo,ρ,_,p=>⟨ρ,rfl,p⟩
 |n+1,lo,ρ,h,p=>by
  obtain⟨ρ1,ρ2,h1,h2,p2⟩:=h 0 ρ (by omega) p
  have h1':g (.int lo) ρ=some ρ1:=by simpa using h1
  obtain⟨ρ',e,p'⟩:=ag9 P n (lo+1) ρ2 (λ i ρ hi q=>by
   obtain⟨a,b,c,d,e⟩:=h (i+1) ρ (by omega) q
   refine⟨a,b,?_,d,e⟩;rw[show lo+1+(i:Int)=lo+((i+1:Nat):Int) by push_cast;omega];exact c) p2
  refine⟨ρ',?_,p'⟩;rw[show r_5 lo (n+1)=.int lo::r_5 (lo+1) n from rfl,L_7,h1',W_1,h2,G_3];exact e
theorem u_1 {i j:Int} (h:j.natAbs<2 ^ 64):l_5 i j=true:=by
 unfold l_5;rw[decide_eq_true h];simp
theorem A_6 {i j:Int} (h:i.natAbs<2 ^ 64):l_5 i j=true:=by
 unfold l_5;rw[decide_eq_true h];simp
theorem f_5 {j:Int} (h0:j≠0) (h:j.natAbs<2 ^ 64):i_5 j=true:=by
 unfold i_5;rw[decide_eq_true h0,decide_eq_true (Nat.lt_trans h (Nat.pow_lt_pow_right (by decide) (by decide)))];rfl
@[simp] theorem bY2 (n k:Nat) (F:En->Option MO) (ds:List D):fnN n k F ds=if ds.length=n then F (ds.map .im++List.replicate k .no) else none:=Eq.trans rfl rfl
def bc5 (F:En->Option MO) (o:Option Res):Option MO:=bnd o λ r=>match r with
 |.nx ρ'=>F ρ'
 |_=>none
@[simp] theorem bS5 (A:FS) (F:En->Option MO) (ρ:En):aT3 A F ρ=bc5 F (A ρ):=Eq.trans rfl rfl
@[simp] theorem bv3 (F:En->Option MO) (ρ:En):bc5 F (some (.nx ρ))=F ρ:=Eq.trans rfl rfl
abbrev alpha:Str:=Str.ofString "abcdefghijklmnopqrstuvwxyz"
theorem I_6:alpha.length=26:=by decide +kernel
theorem ax8:∀ j:Nat,j<26->alpha.cps.toList[j]?=some (97+j):=by
 have e:alpha.cps.toList=List.range' 97 26:=by decide +kernel
 intro j hj;rw[e,List.getElem?_range' hj];simp
theorem a_5 {n:Nat} (h:n<=1000):n<=sizeLine:=Nat.le_trans h (by decide)
theorem ae3 {i:Int} (h0:0<=i) (h1:i<26):atS alpha i=some (.str (chS (97+i.toNat))):=by
 unfold atS;rw[if_pos (by rw[I_6];exact a_5 (by decide))]
 have l:alpha.cps.toList.length=26:=by decide +kernel
 unfold dPl;rw[l,if_pos h0,if_pos (by exact_mod_cast h1),b_0,ax8 _ (by omega),b_0]
theorem aT4 (x:Int):0<=x.fmod 26/\x.fmod 26<26:=⟨Int.fmod_nonneg_of_pos _ (by decide),Int.fmod_lt_of_pos _ (by decide)⟩
def ltr (x:Int):Str:=chS (97+(x.fmod 26).toNat)
theorem aA9 (x:Int):atS alpha (x.fmod 26)=some (.str (ltr x)):=ae3 (aT4 x).1 (aT4 x).2
theorem aL3 (x:Int):(ltr x).length=1:=rfl
theorem ak8 (a b:Str):(a++b).length=a.length+b.length:=by
 show (a.cps++b.cps).size=_;rw[Array.size_append];rfl
theorem I_5 {α:Type} (f:α->D) (xs:List α) {i:Int} (h0:0<=i) (h1:i<xs.length):∃ x,x∈xs/\atD (xs.map f) i=some (f x):=by
 have hi:i.toNat<xs.length:=by omega
 refine⟨xs[i.toNat],List.getElem_mem hi,?_⟩;unfold atD dPl;rw[List.length_map,if_pos h0,if_pos h1];show (xs.map f)[i.toNat]?=_;rw[List.getElem?_map,List.getElem?_eq_getElem hi];rfl
theorem bi4 {c:Nat}:∀ {X Y A B:List Nat},c∉X->c∉Y->X++c::A=Y++c::B->X=Y/\A=B
 |[],[],A,B,_,_,h=>⟨rfl,(List.cons.inj h).2⟩
 |[],y::Y,A,B,_,hy,h=>absurd (by rw[(List.cons.inj h).1];exact qg) hy
 |x::X,[],A,B,hx,_,h=>absurd (by rw[<- (List.cons.inj h).1];exact qg) hx
 |x::X,y::Y,A,B,hx,hy,h=>by
  obtain⟨e1,e2⟩:=List.cons.inj h;obtain⟨e3,e4⟩:=bi4 (λ z=>hx (qh _ z)) (λ z=>hy (qh _ z)) e2
  exact⟨by rw[e1,e3],e4⟩
theorem J_4 {a b:Str} (h:a.cps.toList=b.cps.toList):a=b:=by
 obtain⟨⟨x⟩⟩:=a;obtain⟨⟨y⟩⟩:=b;cases h;rfl
theorem s_9 (a b:Str):(a++b).cps.toList=a.cps.toList++b.cps.toList:=by
 show (a.cps++b.cps).toList=_;rw[Array.toList_append]
theorem j_8 (c:Nat) (x y:Str) (r:List Str):(Str.join ⟨#[c]⟩ (x::y::r)).cps.toList=x.cps.toList++c::(Str.join ⟨#[c]⟩ (y::r)).cps.toList:=by
 show (x++⟨#[c]⟩++Str.join ⟨#[c]⟩ (y::r)).cps.toList=_;rw[s_9,s_9];simp
theorem F_7 {c:Nat}:∀ {ss ts:List Str},ss≠[]->ts≠[]->(∀ s∈ss,c∉s.cps.toList)->(∀ s∈ts,c∉s.cps.toList)->Str.join ⟨#[c]⟩ ss=Str.join ⟨#[c]⟩ ts->ss=ts
 |[],_,h,_,_,_,_=>absurd rfl h
 |_,[],_,h,_,_,_=>absurd rfl h
 |[x],[y],_,_,_,_,h=>by
  have h:x=y:=h;rw[h]
 |[x],y::y2::r,_,_,h1,_,h=>by
  have h:x=Str.join ⟨#[c]⟩ (y::y2::r):=h;have e:=congrArg (λ z:Str=>z.cps.toList) h
  rw[j_8] at e;exact absurd (by rw[e];simp) (h1 x qg)
 |x::x2::r,[y],_,_,_,h2,h=>by
  have h:Str.join ⟨#[c]⟩ (x::x2::r)=y:=h;have e:=congrArg (λ z:Str=>z.cps.toList) h
  rw[j_8] at e;exact absurd (by rw[<- e];simp) (h2 y qg)
 |x::x2::r,y::y2::q,_,_,h1,h2,h=>by
  have e:=congrArg (λ z:Str=>z.cps.toList) h
  rw[j_8,j_8] at e;obtain⟨e1,e2⟩:=bi4 (h1 x qg) (h2 y qg) e;have ih:=F_7 (c:=c) (ss:=x2::r) (ts:=y2::q) (by simp) (by simp) (λ s hs=>h1 s (qh _ hs)) (λ s hs=>h2 s (qh _ hs)) (J_4 e2)
  rw[J_4 e1,ih]
theorem x_5 {c:Nat}{ss:List Str} (h0:ss≠[]) (h:∀ s∈ss,c∉s.cps.toList):Txt.split (Str.join ⟨#[c]⟩ ss) ⟨#[c]⟩=ss:=by
 have ne:Txt.split (Str.join ⟨#[c]⟩ ss) ⟨#[c]⟩≠[]:=λ z=>by
  have:=PyProof.Rows.split_pos (Str.join ⟨#[c]⟩ ss) ⟨#[c]⟩;rw[z] at this;simp at this
 refine F_7 ne h0 ?_ h ?_
 ·first | exact StrLaws.split_free _ c | exact split_free _ c
 ·first | exact StrLaws.join_split _ _ | exact join_split _ _
abbrev blk:Str:=Str.ofString " "
abbrev lf:Str:=Str.ofString "\n"
theorem ak4:blk=(⟨#[32]⟩:Str):=by decide +kernel
theorem bd0:lf=(⟨#[10]⟩:Str):=by decide +kernel
theorem aa2 {ss:List Str} (h0:ss≠[]) (h:∀ s∈ss,32∉s.cps.toList):Txt.split (Str.join blk ss) blk=ss:=by rw[ak4];exact x_5 h0 h
theorem ao7 {ss:List Str} (h0:ss≠[]) (h:∀ s∈ss,10∉s.cps.toList):Txt.split (Str.join lf ss) lf=ss:=by rw[bd0];exact x_5 h0 h
theorem be3 (L:Str):∀ cs:List Nat,cGo tYes (e2 d_5 (eV 0) (eC (.str L))) [] (cs.map λ c=>.str (chS c))=some (cs.map λ c=>.bl (inS (chS c) L))
 |[]=>rfl
 |c::r=>by
  have f:e2 d_5 (eV 0) (eC (.str L)) [.im (.str (chS c))]=some (.bl (inS (chS c) L),[.im (.str (chS c))]):=by simp
  rw[List.map_cons,aR7];show cGa _ _ _ _ (some (true,_))=_;rw[aR9,f,aR8,be3 L r,G_8];rfl
theorem S_7 (L:Str):∀ cs:List Nat,w_7 (cs.map λ c=>.bl (inS (chS c) L))=some (cs.map λ c=>inS (chS c) L)
 |[]=>rfl
 |c::r=>by rw[List.map_cons,ak2,S_7 L r,G_8];rfl
theorem aQ9 (w:Str):(chs w).length=w.length:=by
 unfold chs;rw[List.length_map,Array.length_toList];rfl
abbrev ag8:Str:=Str.ofString "0123456789"
theorem au5:∀ c:Nat,c<123->inS (chS c) alpha=decide (97<=c):=by decide +kernel
theorem af6:∀ c:Nat,c<123->inS (chS c) ag8=(decide (48<=c)&&decide (c<=57)):=by decide +kernel
def Key (w:Str):Prop:=1<=w.length/\w.length<=8/\∀ c∈w.cps.toList,97<=c/\c<123
theorem bi5 (L:Str) (cs:List Nat):I_4 [.lst (cs.map λ c=>.bl (inS (chS c) L))]=some (.bl (cs.all λ c=>inS (chS c) L)):=by
 rw[bi2,S_7,aD0,List.all_map];rfl
theorem s_3 (L w:Str) (h:w.length<=1000) {ρ:En}{i:Nat} (hi:ρ[i]?=some (.im (.str w))):eF I_4 (aC (eLC [] (eV i) tYes (e2 d_5 (eV 0) (eC (.str L)))) aN) ρ=some (.bl (w.cps.toList.all λ c=>inS (chS c) L),ρ):=by
 have cz:(chs w).length<=sizeLine:=by rw[aQ9];exact a_5 h
 have g:cGo tYes (e2 d_5 (eV 0) (eC (.str L))) [] (chs w)=some (w.cps.toList.map λ c=>.bl (inS (chS c) L)):=be3 L _
 have a:=bi5 L w.cps.toList
 generalize (w.cps.toList.map λ c=>D.bl (inS (chS c) L))=C at g a
 have v:eV i ρ=some (.str w,ρ):=by simp[hi]
 have e:eLC [] (eV i) tYes (e2 d_5 (eV 0) (eC (.str L))) ρ=some (.lst C,ρ):=by
  unfold eLC;rw[v,b_0];show bnd (some (chs w)) _=_;rw[b_0,Q_8,b_0,g,b_0,if_pos cz]
 generalize eLC [] (eV i) tYes (e2 d_5 (eV 0) (eC (.str L)))=F at e
 simp[e,a]
theorem bd6 {w:Str} (h:Key w):m_8 [.str w]=some (.bl true):=by
 obtain⟨h1,h2,h3⟩:=h;have wz:w.length<=sizeLine:=a_5 (by omega)
 have g:=s_3 alpha w (by omega) (ρ:=[.im (.str w)]) (i:=0) rfl
 have al:(w.cps.toList.all λ c=>inS (chS c) alpha)=true:=by
  rw[List.all_eq_true];intro c hc;obtain⟨c1,c2⟩:=h3 c hc;rw[au5 c c2];simpa using c1
 rw[al] at g;have e1:(1:Int)<=(w.length:Int):=by omega
 have e2':(w.length:Int)<=8:=by omega
 generalize hG:eF I_4 (aC (eLC [] (eV 0) tYes (e2 d_5 (eV 0) (eC (.str alpha)))) aN)=GG at g
 unfold m_8 S_8;rw[hG];simp[wz,g,e1,e2']
def dg (m:Nat):List Nat:=(Nat.toDigits 10 m).map Char.toNat
theorem k_6 {m:Nat} (h:m<10):dg m=[48+m]:=by
 unfold dg;rw[Nat.toDigits_of_lt_base h];have:∀ d:Nat,d<10->(Nat.digitChar d).toNat=48+d:=by decide
 rw[List.map_cons,List.map_nil,this m h]
theorem S_0 {m:Nat} (h:¬ m<10):dg m=dg (m / 10)++[48+m % 10]:=by
 have hm:m % 10<10:=Nat.mod_lt m (by decide)
 have t:Nat.toDigits 10 (m / 10)++Nat.toDigits 10 (m % 10)=Nat.toDigits 10 (10*(m / 10)+m % 10):=Nat.toDigits_append_toDigits (by decide) (by omega) hm
 rw[Nat.div_add_mod] at t;have e:=k_6 hm;unfold dg at e ⊢;rw[<- t,List.map_append,e]
theorem y_3 (m:Nat):∀ c∈dg m,48<=c/\c<=57:=by
 induction m using Nat.strongRecOn with
 |_ m ih =>
  intro c hc
  by_cases h:m<10
  ·rw[k_6 h] at hc
   have:=List.mem_singleton.mp hc;omega
  ·rw[S_0 h] at hc
   rcases qx hc with z | z
   ·exact ih (m / 10) (by omega) c z
   ·have:=List.mem_singleton.mp z
    omega
theorem av9 (m:Nat):dg m≠[]:=by
 by_cases h:m<10
 ·rw[k_6 h];simp
 ·rw[S_0 h];simp
theorem ai0:∀ (k m:Nat),m<10 ^ (k+1)->(dg m).length<=k+1
 |0,m,h=>by rw[k_6 (by simpa using h)];simp
 |k+1,m,h=>by
  by_cases hm:m<10
  ·rw[k_6 hm];simp
  ·rw[S_0 hm,List.length_append]
   have:=ai0 k (m / 10) (by rw[Nat.pow_succ] at h;omega)
   simp;omega
theorem ai1 (m:Nat) (h0:m≠0):∃ c r,dg m=c::r/\c≠48:=by
 induction m using Nat.strongRecOn with
 |_ m ih =>
  by_cases h:m<10
  ·exact⟨48+m,[],k_6 h,by omega⟩
  ·obtain⟨c,r,e,n⟩:=ih (m / 10) (by omega) (by omega)
   exact⟨c,r++[48+m % 10],by rw[S_0 h,e];rfl,n⟩
def nT (n:Int):Str:=Str.ofString (toString n)
theorem P_8 (m:Nat):(nT (m:Int)).cps.toList=dg m:=PySem.W.KIN.signs_num m
theorem P_9 (m:Nat) (h:m≠0):(nT (-(m:Int))).cps.toList=45::dg m:=by
 obtain⟨k,rfl⟩:=Nat.exists_eq_succ_of_ne_zero h;have e:-((k.succ:Nat):Int)=Int.negSucc k:=rfl;unfold nT;rw[e,PyProof.Rows.signs_ofString];show ("-"++Nat.repr (k+1)).toList.map Char.toNat=_;rw[String.toList_append,List.map_append,Nat.toList_repr];rfl
theorem e_9 (w:Str):w.length=w.cps.toList.length:=Array.length_toList.symm
abbrev mns:Str:=Str.ofString "-"
theorem bc7:mns=(⟨#[45]⟩:Str):=by decide +kernel
theorem p_5 {w:Str}{c:Nat}{r:List Nat} (h:w.cps.toList=c::r):Txt.startswith w mns=decide (c=45):=by
 obtain⟨⟨l⟩⟩:=w;have h:l=c::r:=h;subst h;rw[bc7];unfold Txt.startswith Builtin.Str.subAt;show (decide (0+1<=(c::r).length)&&(List.toArray (c::r)).extract 0 (0+1)==#[45])=_;have e:(List.toArray (c::r)).extract 0 (0+1)=#[c]:=by simp
 rw[e]
 by_cases z:c=45
 ·subst z;simp
 ·simp[z]
theorem aW5 {w:Str}{c:Nat}{r:List Nat} (h:w.cps.toList=c::r):Txt.slice w (some 1) none=⟨r.toArray⟩:=by
 have l:w.length=r.length+1:=by rw[e_9,h];rfl
 rw[PyProof.Rows.slice_from_eq (i:=1) (b:=w.length) (by decide) (by omega) rfl,h]
 have e:((c::r).drop (1:Int).toNat).take ((w.length:Int)-1).toNat=r:=by
  show r.take _=r;exact List.take_of_length_le (by omega)
 rw[e]
theorem aC4 {w:Str}{m:Nat} (hm:m<10 ^ 12) (h:w.cps.toList=dg m\/(w.cps.toList=45::dg m/\m≠0)):c_4 [.str w]=some (.bl true):=by
 have l12:=ai0 11 m hm;have l1:1<=(dg m).length:=List.length_pos_iff.mpr (av9 m)
 have al:((dg m).all λ c=>inS (chS c) ag8)=true:=by
  rw[List.all_eq_true];intro c hc;obtain⟨c1,c2⟩:=y_3 m c hc;rw[af6 c (by omega)]
  simp[c1,c2]
 have z1:(1:Int)<=((dg m).length:Int):=by omega
 have z2:((dg m).length:Int)<=12:=by omega
 have hF:∀ (F:Str) (ρ:En),F.cps.toList=dg m->ρ[1]?=some (.im (.str F))->eF I_4 (aC (eLC [] (eV 1) tYes (e2 d_5 (eV 0) (eC (.str ag8)))) aN) ρ=some (.bl true,ρ):=λ F ρ hf hi=>by
  have g:=s_3 ag8 F (by rw[e_9,hf];omega) hi
  rw[hf,al] at g;exact g
 obtain⟨c,r,ec⟩:=List.exists_cons_of_ne_nil (av9 m);have cd:=y_3 m c (by rw[ec];exact qg)
 generalize hG:eF I_4 (aC (eLC [] (eV 1) tYes (e2 d_5 (eV 0) (eC (.str ag8)))) aN)=GG at hF
 rcases h with h | ⟨h,h0⟩
 ·have wl:w.length=(dg m).length:=by rw[e_9,h]
  have wz:w.length<=sizeLine:=a_5 (by omega)
  have st:Txt.startswith w (Str.ofString "-")=false:=by
   rw[p_5 (by rw[h,ec])]
   simp;omega
  have g:=hF w [.im (.str w),.im (.str w)] h rfl
  have at0:atS w 0=some (.str (chS c)):=by
   unfold atS dPl;rw[if_pos wz,h,if_pos (by omega),if_pos (by omega),b_0,ec]
   rfl
  have fin:(w=Str.ofString "0") ∨ ¬ (chS c=Str.ofString "0"):=by
   by_cases z:m=0
   ·subst z
    refine .inl (J_4 ?_);rw[h,k_6 (by decide)]
    decide +kernel
   ·obtain⟨c',r',e',n'⟩:=ai1 m z
    rw[ec] at e';cases e';refine .inr λ q=>n' ?_
    have:=congrArg (λ x:Str=>x.cps.toList) q
    have e0:(Str.ofString "0").cps.toList=[48]:=by decide +kernel
    rw[e0] at this;have this:[c]=[48]:=this;exact (List.cons.inj this).1
  unfold c_4 i_6;rw[hG];rw[<- wl] at z1 z2
  by_cases z:w=Str.ofString "0"
  ·have zz:=eq_true z
   clear z
   simp[List.replicate,st,wz,g,z1,z2,at0,zz]
  ·have zz:=eq_false z
   have yy:=eq_false (fin.resolve_left z)
   clear z
   simp[List.replicate,st,wz,g,z1,z2,at0,zz,yy]
 ·have wl:w.length=(dg m).length+1:=by rw[e_9,h];rfl
  have wz:w.length<=sizeLine:=a_5 (by omega)
  have st:Txt.startswith w (Str.ofString "-")=true:=by
   rw[p_5 h];simp
  have sl:=aW5 h
  generalize hf:(⟨(dg m).toArray⟩:Str)=f at sl
  have fl:f.cps.toList=dg m:=by rw[<- hf]
  have fn:f.length=(dg m).length:=by rw[e_9,fl]
  have fz:f.length<=sizeLine:=a_5 (by omega)
  have g:=hF f [.im (.str w),.im (.str f)] fl rfl
  have at0:atS f 0=some (.str (chS c)):=by
   unfold atS dPl;rw[if_pos fz,fl,if_pos (by omega),if_pos (by omega),b_0,ec]
   rfl
  have z:¬ (chS c=Str.ofString "0"):=by
   obtain⟨c',r',e',n'⟩:=ai1 m h0;rw[ec] at e';cases e';intro q;have:=congrArg (λ x:Str=>x.cps.toList) q
   have e0:(Str.ofString "0").cps.toList=[48]:=by decide +kernel
   rw[e0] at this;have this:[c]=[48]:=this;exact n' (List.cons.inj this).1
  have w0:¬ (w=Str.ofString "0"):=λ q=>by
   have:=congrArg (λ x:Str=>x.cps.toList) q
   have e0:(Str.ofString "0").cps.toList=[48]:=by decide +kernel
   rw[e0,h] at this;cases this
  unfold c_4 i_6;rw[hG];rw[<- fn] at z1 z2;simp[List.replicate,st,wz,fz,sl,g,z1,z2,at0,z,w0]
theorem aA4 {n:Int} (h:n.natAbs<10 ^ 12):c_4 [.str (nT n)]=some (.bl true):=by
 rcases (show n<0\/0<=n by omega) with z | z
 ·have e:n=-((n.natAbs:Nat):Int):=by omega
  rw[e];exact aC4 h (.inr ⟨P_9 _ (by omega),by omega⟩)
 ·have e:n=((n.natAbs:Nat):Int):=by omega
  rw[e];exact aC4 h (.inl (P_8 _))
theorem ad6 {n:Int} (h:n.natAbs<10 ^ 12):(nT n).length<=13:=by
 have l12:=ai0 11 n.natAbs h
 rcases (show n<0\/0<=n by omega) with z | z
 ·have e:n=-((n.natAbs:Nat):Int):=by omega
  rw[e_9,e,P_9 _ (by omega)]
  simp;omega
 ·have e:n=((n.natAbs:Nat):Int):=by omega
  rw[e_9,e,P_8];omega
theorem A_8 {n:Int}:∀ c∈(nT n).cps.toList,c=45\/(48<=c/\c<=57):=by
 intro c hc
 rcases (show n<0\/0<=n by omega) with z | z
 ·have e:n=-((n.natAbs:Nat):Int):=by omega
  rw[e,P_9 _ (by omega)] at hc
  rcases qw hc with q | q
  ·exact .inl q
  ·exact .inr (y_3 _ c q)
 ·have e:n=((n.natAbs:Nat):Int):=by omega
  rw[e,P_8] at hc;exact .inr (y_3 _ c hc)
theorem aC3 (m:Nat):PySem.NumText.digitsVal (dg m)=m:=PySem.W.KIN.val_back m
theorem be2 {n:Int} (h:n.natAbs<10 ^ 12):PySem.intText? (nT n)=some n:=by
 have l:=ad6 h
 rcases (show n<0\/0<=n by omega) with z | z
 ·have e:n=-((n.natAbs:Nat):Int):=by omega
  have q:=PySem.intText_neg (x:=nT n) (cs:=dg n.natAbs) (by rw[<- P_9 _ (by omega),<- e]) (y_3 _) (av9 _) (by omega)
  rw[q,aC3,<- e]
 ·have e:n=((n.natAbs:Nat):Int):=by omega
  have c:(nT n).cps.toList=dg n.natAbs:=by rw[<- P_8,<- e]
  have q:=PySem.intText_digits (x:=nT n) (by rw[c];exact y_3 _) (by rw[c];exact av9 _) (by omega)
  rw[q,c,aC3,<- e]
abbrev star:Str:=Str.ofString "*"
theorem aK6 {n:Int}:¬ (nT n=star):=λ q=>by
 have e:star.cps.toList=[42]:=by decide +kernel
 have:=A_8 (n:=n) 42 (by rw[q,e];exact qg)
 omega
theorem aE3 {n:Int} (h:n.natAbs<10 ^ 12):c_2 [.str (nT n)]=some (.int n):=by
 have a:=aA4 h;have b:=be2 h;have c:=ad6 h;have d:(nT n).length<=640:=by omega
 have e:=eq_false (aK6 (n:=n));simp[c_2,j_5,a,b,d,e]
theorem ao1:c_2 [.str star]=some .non:=by simp[c_2,j_5]
theorem ae7 {w:Str} (h:Key w):c_4 [.str w]=some (.bl false):=by
 obtain⟨h1,h2,h3⟩:=h;have wz:w.length<=sizeLine:=a_5 (by omega)
 obtain⟨c,r,ec⟩:=List.exists_cons_of_ne_nil (l:=w.cps.toList) (λ z=>by rw[e_9,z] at h1;simp at h1)
 have hc:=h3 c (by rw[ec];exact qg)
 have st:Txt.startswith w (Str.ofString "-")=false:=by
  rw[p_5 ec];simp;omega
 have g:=s_3 ag8 w (by omega) (ρ:=[.im (.str w),.im (.str w)]) (i:=1) rfl
 have al:(w.cps.toList.all λ c=>inS (chS c) ag8)=false:=by
  rw[List.all_eq_false];refine⟨c,by rw[ec];exact qg,?_⟩
  rw[af6 c hc.2];simp;omega
 rw[al] at g
 generalize hG:eF I_4 (aC (eLC [] (eV 1) tYes (e2 d_5 (eV 0) (eC (.str ag8)))) aN)=GG at g
 have z1:(1:Int)<=(w.length:Int):=by omega
 have z2:(w.length:Int)<=12:=by omega
 unfold c_4 i_6;rw[hG];simp[List.replicate,st,wz,g,z1,z2]
theorem at7 {w:Str} (h:Key w):¬ (w=star):=λ q=>by
 have e:star.cps.toList=[42]:=by decide +kernel
 have:=h.2.2 42 (by rw[q,e];exact qg)
 omega
theorem J_3 {w:Str} (h:Key w):c_2 [.str w]=some (.str w):=by
 have a:=ae7 h;have e:=eq_false (at7 h);simp[c_2,j_5,a,e]
abbrev KPd:D:=.tup [(.str "NAME"),(.str "FROM"),(.str "LEFT"),(.str "RIGHT"),(.str "KEY"),(.str "OTHER")]
abbrev BP:D:=.tup [(.str "LOW"),(.str "HIGH"),(.str "END")]
abbrev HP:D:=.tup [(.str "sum"),(.str "less"),(.str "left"),(.str "right")]
abbrev FP:D:=.tup [(.str "count"),(.str "sum"),(.str "most"),(.str "least")]
theorem ag5 {p w:Str} (hp:d_5 (.str p) KPd=some (.bl true)) (h:Key w):g_1 [.str p,.str w]=some (.bl true):=by
 have k:=bd6 h;simp[-j_4,g_1,y_7,hp,k]
structure NumPl (p:Str):Prop where
 kp:d_5 (.str p) KPd=some (.bl false)
 nh:¬ (p=Str.ofString "HOW")
 nf:¬ (p=Str.ofString "FOLD")
theorem bf6 {p:Str} (hp:NumPl p) {n:Int} (h:n.natAbs<10 ^ 12):g_1 [.str p,.str (nT n)]=some (.bl true):=by
 have k:=aA4 h;have a:=hp.kp;have b:=eq_false hp.nh;have c:=eq_false hp.nf;simp[-j_4,g_1,y_7,a,b,c,k]
theorem T_9:c_4 [.str star]=some (.bl false):=by
 have st:Txt.startswith star (Str.ofString "-")=false:=by decide +kernel
 have g:=s_3 ag8 star (by decide +kernel) (ρ:=[.im (.str star),.im (.str star)]) (i:=1) rfl
 have al:(star.cps.toList.all λ c=>inS (chS c) ag8)=false:=by decide +kernel
 rw[al] at g
 generalize hG:eF I_4 (aC (eLC [] (eV 1) tYes (e2 d_5 (eV 0) (eC (.str ag8)))) aN)=GG at g
 have wz:star.length<=sizeLine:=by decide +kernel
 have z1:(1:Int)<=(star.length:Int):=by decide +kernel
 have z2:(star.length:Int)<=12:=by decide +kernel
 unfold c_4 i_6;rw[hG];simp[List.replicate,st,wz,g,z1,z2]
theorem bf5 {p:Str} (hp:NumPl p) (hb:d_5 (.str p) BP=some (.bl true)):g_1 [.str p,.str star]=some (.bl true):=by
 have a:=hp.kp;have b:=eq_false hp.nh;have c:=eq_false hp.nf;have k:=T_9;simp[-j_4,g_1,y_7,a,b,c,k,hb]
theorem bf7 {w:Str} (h:d_5 (.str w) HP=some (.bl true)):g_1 [.str "HOW",.str w]=some (.bl true):=by
 have a:d_5 (.str "HOW") KPd=some (.bl false):=by kernel_rfl
 simp[-j_4,g_1,y_7,a,h]
theorem bf8 {w:Str} (h:d_5 (.str w) FP=some (.bl true)):g_1 [.str "FOLD",.str w]=some (.bl true):=by
 have a:d_5 (.str "FOLD") KPd=some (.bl false):=by kernel_rfl
 have b:=eq_false (show ¬ (Str.ofString "FOLD"=Str.ofString "HOW") by decide +kernel)
 simp[-j_4,g_1,y_7,a,b,h]
theorem ad0:NumPl (Str.ofString "LOW"):=⟨by kernel_rfl,by decide +kernel,by decide +kernel⟩
theorem K_7:NumPl (Str.ofString "HIGH"):=⟨by kernel_rfl,by decide +kernel,by decide +kernel⟩
theorem as8:NumPl (Str.ofString "BEGIN"):=⟨by kernel_rfl,by decide +kernel,by decide +kernel⟩
theorem bb7:NumPl (Str.ofString "END"):=⟨by kernel_rfl,by decide +kernel,by decide +kernel⟩
theorem bR9:NumPl (Str.ofString "M"):=⟨by kernel_rfl,by decide +kernel,by decide +kernel⟩
theorem bR8:NumPl (Str.ofString "R"):=⟨by kernel_rfl,by decide +kernel,by decide +kernel⟩
theorem bS2:NumPl (Str.ofString "A"):=⟨by kernel_rfl,by decide +kernel,by decide +kernel⟩
theorem bS1:NumPl (Str.ofString "B"):=⟨by kernel_rfl,by decide +kernel,by decide +kernel⟩
theorem bS0:NumPl (Str.ofString "C"):=⟨by kernel_rfl,by decide +kernel,by decide +kernel⟩
theorem as7:NumPl (Str.ofString "REACH"):=⟨by kernel_rfl,by decide +kernel,by decide +kernel⟩
theorem P_6:NumPl (Str.ofString "WIDTH"):=⟨by kernel_rfl,by decide +kernel,by decide +kernel⟩
theorem aK2:NumPl (Str.ofString "STEP"):=⟨by kernel_rfl,by decide +kernel,by decide +kernel⟩
theorem bb6:NumPl (Str.ofString "GAP"):=⟨by kernel_rfl,by decide +kernel,by decide +kernel⟩
abbrev r_8:List (Str×D):=[((Str.ofString "in"),(.str "NAME LOW HIGH")),((Str.ofString "time"),(.str "NAME FROM BEGIN END")),((Str.ofString "only"),(.str "NAME FROM KEY ..")),((Str.ofString "but"),(.str "NAME FROM KEY ..")),((Str.ofString "span"),(.str "NAME FROM LOW HIGH")),((Str.ofString "rest"),(.str "NAME FROM M R")),((Str.ofString "turn"),(.str "NAME FROM A B")),((Str.ofString "later"),(.str "NAME FROM C")),((Str.ofString "put"),(.str "NAME FROM KEY OTHER ..")),((Str.ofString "pour"),(.str "NAME FROM FROM ..")),((Str.ofString "pair"),(.str "NAME LEFT RIGHT REACH HOW")),((Str.ofString "fixed"),(.str "NAME FROM WIDTH FOLD")),((Str.ofString "slide"),(.str "NAME FROM WIDTH STEP FOLD")),((Str.ofString "gaps"),(.str "NAME FROM GAP FOLD")),((Str.ofString "ever"),(.str "NAME FROM FOLD")),((Str.ofString "ask"),(.str "NAME FROM"))]
theorem U_5 {wd form:Str}{ws:List Str}{l:Str}{n:Int} (hk:dKx r_8 (.str wd)=some (.str form)) (hl:form.length ≤ 100000) (hs:Txt.split form blk=ws++[l]) (hd:¬ (l=Str.ofString "..")) (ha:¬ (wd=Str.ofString "ask" ∧ 2<n)) :
  c_7 [.str wd,.int n]=some (.lst ((ws++[l]).map .str)):=by
 have la:atD ((ws++[l]).map D.str) (-1)=some (.str l):=by
  unfold atD dPl;rw[if_neg (by decide),if_pos (by simp;omega)]
  simp;have:((-1:Int)+(((ws.length:Nat):Int)+1)).toNat=ws.length:=by omega
  rw[this];simp
 have d0:=eq_false hd;have bl:blk.length≠0:=by decide +kernel
 have bl':¬ (blk.length=0):=bl
 have cnd:tAnd (tB (e2 dEq (eV 0) (eC (.str "ask")))) (tB (e2 dGt (eV 1) (eC (.int 2)))) [.im (.str wd),.im (.int n),.no,.no]=some (false,[.im (.str wd),.im (.int n),.no,.no]):=by
  by_cases z:wd=Str.ofString "ask"
  ·have z2:¬ (2<n):=λ q=>ha ⟨z,q⟩
   have zz:=eq_true z
   clear z
   simp[zz,z2]
  ·have zz:=eq_false z
   simp[zz]
 generalize hC:tAnd (tB (e2 dEq (eV 0) (eC (.str "ask")))) (tB (e2 dGt (eV 1) (eC (.int 2))))=CC at cnd
 unfold c_7 k_9;rw[hC]
 generalize hw:(ws++[l]).map D.str=LL at *
 simp[List.replicate,cnd,hk,hl,hs,bl,bl',hw,la,d0,o_9,U_9,o_5]
theorem L_2 {ws:List Str}{l:Str}:atD ((ws++[l]).map D.str) (-1)=some (.str l):=by
 unfold atD dPl;rw[if_neg (by decide),if_pos (by simp;omega)]
 simp;have:((-1:Int)+(((ws.length:Nat):Int)+1)).toNat=ws.length:=by omega
 rw[this];simp
theorem aS0:¬ (blk.length=0):=by decide +kernel
theorem U_3 {wd form:Str}{ws:List Str}{l:Str}{k:Nat} (hk:dKx r_8 (.str wd)=some (.str form)) (hl:form.length ≤ 100000) (hs:Txt.split form blk=(ws++[l])++[Str.ofString ".."]) (ha:¬ (wd=Str.ofString "ask")) (h1:ws.length ≤ 10) (h2:k ≤ 10) :
  c_7 [.str wd,.int ((ws.length+1+k:Nat):Int)]=some (.lst ((ws++[l]).map .str++List.replicate k (.str l))):=by
 have la:=L_2 (ws:=ws++[l]) (l:=Str.ofString "..");have lb:=L_2 (ws:=ws) (l:=l);have bl:=aS0;have zz:=eq_false ha;have dl:(((ws++[l])++[Str.ofString ".."]).map D.str).dropLast=(ws++[l]).map D.str:=by simp
 have ne:¬ ((((ws++[l])++[Str.ofString ".."]).map D.str).length=0):=by simp
 have ln:((ws++[l]).map D.str).length=ws.length+1:=by simp
 have fl:(List.replicate k [D.str l]).flatten=List.replicate k (.str l):=by
  clear la lb
  induction k with
  |zero=>rfl
  |succ k ih=>rw[List.replicate_succ,List.flatten_cons,ih (by omega),List.replicate_succ];rfl
 have i1:(((ws.length+1+k:Nat):Int)-((ws.length+1:Nat):Int))=(k:Int):=by omega
 have i2:(k:Int)<=1000:=by omega
 have i3:(-1000:Int)<=(k:Int):=by omega
 have i4:ws.length+1+k<1000:=by omega
 have i5:nl (.str l)=true:=rfl;have i6:∀ n:Int,nl (.int n)=true:=λ _=>rfl
 generalize hW:(ws++[l])++[Str.ofString ".."]=W1 at *
 generalize hw1:W1.map D.str=L1 at *
 generalize hw2:(ws++[l]).map D.str=L2 at *
 generalize hn:((ws.length+1+k:Nat):Int)=N at *
 generalize hn1:ws.length+1=N1 at *
 have lz:L2.length<=sizeLine:=a_5 (by omega)
 simp[c_7,k_9,List.replicate,zz,hk,hl,hs,bl,hw1,la,lb,dl,ne,o_9,U_9,o_5,G_6,i1,i2,i3,i4,i5,i6,ln,fl,lz]
theorem U_6:c_7 [.str "ask",.int 4]=some (.lst ((["NAME","FROM","LOW","HIGH"].map Str.ofString).map .str)):=by
 have hk:dKx r_8 (.str "ask")=some (.str "NAME FROM"):=by kernel_rfl
 have hs:Txt.split (Str.ofString "NAME FROM"++Str.ofString " LOW HIGH") blk=(["NAME","FROM","LOW"].map Str.ofString)++[Str.ofString "HIGH"]:=by decide +kernel
 have la:=L_2 (ws:=["NAME","FROM","LOW"].map Str.ofString) (l:=Str.ofString "HIGH");have d0:=eq_false (show ¬ (Str.ofString "HIGH"=Str.ofString "..") by decide +kernel)
 have bl:=aS0;have hl:(Str.ofString "NAME FROM"++Str.ofString " LOW HIGH").length ≤ 100000:=by decide +kernel
 have hz:(Str.ofString "NAME FROM").length+(Str.ofString " LOW HIGH").length ≤ sizeLine:=by decide +kernel
 have hw:(["NAME","FROM","LOW"].map Str.ofString)++[Str.ofString "HIGH"]=["NAME","FROM","LOW","HIGH"].map Str.ofString:=rfl;rw[hw] at la hs
 generalize ["NAME","FROM","LOW","HIGH"].map Str.ofString=WW at *
 generalize hw1:WW.map D.str=L1 at *
 generalize hF:Str.ofString "NAME FROM"++Str.ofString " LOW HIGH"=FF at *
 simp[c_7,k_9,List.replicate,hk,hs,bl,hw1,la,d0,o_9,U_9,o_5,hl,hz,hF]
theorem o_3 (a b:D):atD [a,b] 0=some a:=rfl
theorem x_0 (a b:D):atD [a,b] 1=some b:=rfl
abbrev FR:D:=.tup [(.str "FROM"),(.str "LEFT"),(.str "RIGHT")]
inductive Item:Str->Str->D->Prop
 |num {p:Str}{n:Int} (hp:NumPl p) (hf:d_5 (.str p) FR=some (.bl false)) (h:n.natAbs<10 ^ 12):Item p (nT n) (.int n)
 |star {p:Str} (hp:NumPl p) (hf:d_5 (.str p) FR=some (.bl false)) (h:d_5 (.str p) BP=some (.bl true)):Item p star .non
 |key {p s:Str} (hp:d_5 (.str p) KPd=some (.bl true)) (hf:d_5 (.str p) FR=some (.bl false)) (h:Key s):Item p s (.str s)
 |how {s:Str} (h:d_5 (.str s) HP=some (.bl true)) (k:Key s):Item (Str.ofString "HOW") s (.str s)
 |fold {s:Str} (h:d_5 (.str s) FP=some (.bl true)) (k:Key s):Item (Str.ofString "FOLD") s (.str s)
theorem g_3 {s:Str} (k:Key s):32∉s.cps.toList/\10∉s.cps.toList/\s.length<=13 :=
 ⟨λ h=>by have:=k.2.2 _ h;omega,λ h=>by have:=k.2.2 _ h;omega,by have:=k.2.1;omega⟩
structure ItemF (p x:Str) (v:D):Prop where
 fits:g_1 [.str p,.str x]=some (.bl true)
 fr:d_5 (.str p) FR=some (.bl false)
 val:c_2 [.str x]=some v
 free:32∉x.cps.toList/\10∉x.cps.toList/\x.length<=13
 shw:∀ (R:D) (L:List D),L.length+1<1000->a_9 [.im R,.ow false (.lst L),.im v]=some (.nx [.im R,.ow false (.lst (L++[.str x])),.im v])
theorem ao8 (x:Str) (R:D) (L:List D) (hl:L.length+1<1000):a_9 [.im R,.ow false (.lst L),.im (.str x)]=some (.nx [.im R,.ow false (.lst (L++[.str x])),.im (.str x)]):=by
 simp only[a_9];simp[o_3];omega
theorem u_5 {p x:Str}{v:D} (h:Item p x v):ItemF p x v:=by
 cases h with
 |@num p n hp hf h =>
  refine⟨bf6 hp h,hf,aE3 h,⟨λ q=>?_,λ q=>?_,ad6 h⟩,λ R L hl=>?_⟩
  ·have:=A_8 _ q;omega
  ·have:=A_8 _ q;omega
  ·have z:n.natAbs<10 ^ 100:=Nat.lt_trans h (by decide)
   have e:Str.ofString n.repr=nT n:=rfl;simp only[a_9];simp[z,e,o_3];omega
 |star hp hf h =>
  refine⟨bf5 hp h,hf,ao1,⟨by decide +kernel,by decide +kernel,by decide +kernel⟩,λ R L hl=>?_⟩
  simp only[a_9];simp[x_0];omega
 |key hp hf k=>exact⟨ag5 hp k,hf,J_3 k,g_3 k,ao8 _⟩
 |how h k=>exact⟨bf7 h,by kernel_rfl,J_3 k,g_3 k,ao8 _⟩
 |fold h k=>exact⟨bf8 h,by kernel_rfl,J_3 k,g_3 k,ao8 _⟩
theorem ao9 (a b:Str) (R:D) (L:List D) (hl:L.length+2<1000):a_9 [.im R,.ow false (.lst L),.im (.tup [.str a,.str b])]=some (.nx [.im R,.ow false (.lst (L++[.str a,.str b])),.im (.tup [.str a,.str b])]):=by
 simp only[a_9];simp[hl]
def Shw (v:D) (xs:List Str):Prop:=∀ (R:D) (L:List D),L.length+xs.length<1000->a_9 [.im R,.ow false (.lst L),.im v]=some (.nx [.im R,.ow false (.lst (L++xs.map .str)),.im v])
theorem az2 (R:D):∀ (qs:List (D×List Str)) (L:List D) (sl:Sl),(∀ q∈qs,Shw q.1 q.2)->L.length+(qs.flatMap (·.2)).length<1000->∃ sl',fGo (gN 2) a_9 (qs.map (·.1)) [.im R,.ow false (.lst L),sl]=some (.nx [.im R,.ow false (.lst (L++(qs.flatMap (·.2)).map .str)),sl'])
 |[],L,sl,_,_=>⟨sl,by rw[List.map_nil,bx9];simp⟩
 |(v,xs)::r,L,sl,h,hl=>by
  rw[List.flatMap_cons,List.length_append] at hl;obtain⟨sl',e⟩:=az2 R r (L++xs.map .str) (.im v) (λ q hq=>h q (qh _ hq)) (by simp at hl ⊢;omega)
  refine⟨sl',?_⟩;have g:gN 2 v [.im R,.ow false (.lst L),sl]=some [.im R,.ow false (.lst L),.im v]:=by simp
  have h1:=h _ qg R L (by simp at hl ⊢;omega)
  rw[List.map_cons,L_7,g,W_1,h1,G_3,e];simp
theorem z_0:∀ ss:List Str,aE4 (ss.map D.str)=some ss
 |[]=>rfl
 |s::r=>by rw[List.map_cons,D_2,z_0 r,b_0]
theorem Q_4 (sep:Str) (ss:List Str) (h:(ss.map (·.length)).sum+ss.length*sep.length<=1000000):L_3 sep (ss.map D.str)=some (.str (Str.join sep ss)):=by
 unfold L_3;rw[z_0,b_0,if_pos h]
abbrev aG4 (w nm:Str) (froms:List Str) (rest:List D):D:=.tup [.str w,.str nm,.tup (froms.map .str),.tup rest]
theorem Y_9 {w nm:Str}{froms:List Str}{qs:List (D×List Str)} (hq:∀ q∈qs,Shw q.1 q.2) {ws:List Str} (hw:ws=[w,nm]++froms++qs.flatMap (·.2)) (hl:ws.length<1000) (hs:∀ s∈ws,s.length<=13):d_0 [aG4 w nm froms (qs.map (·.1))]=some (.str (Str.join blk ws)):=by
 have e0:D.str w::D.str nm::froms.map D.str=([w,nm]++froms).map D.str:=by simp
 obtain⟨sl',e⟩:=az2 (aG4 w nm froms (qs.map (·.1))) qs (([w,nm]++froms).map .str) .no hq (by rw[hw] at hl;simp at hl ⊢;omega)
 rw[<- List.map_append,<- hw] at e
 have sm:∀ l:List Str,(∀ s∈l,s.length<=13)->(l.map (·.length)).sum<=13*l.length:=λ l=>by
  induction l with
  |nil=>intro _;simp
  |cons a r ih =>
   intro h;have:=ih λ s hs=>h s (qh _ hs)
   have:=h a qg;simp;omega
 have j:=Q_4 blk ws (by
  have:=sm ws hs;have:blk.length=1:=by decide +kernel
  rw[this];omega)
 have fl:froms.length+2<1000:=by rw[hw] at hl;simp at hl;omega
 have fz:2+(froms.map D.str).length<=sizeLine:=a_5 (by simp;omega)
 generalize hR:aG4 w nm froms (qs.map (·.1))=R at *
 have r0:a_8 R (.int 0)=some (.str w):=by rw[<- hR];rfl
 have r1:a_8 R (.int 1)=some (.str nm):=by rw[<- hR];rfl
 have r2:a_8 R (.int 2)=some (.tup (froms.map .str)):=by rw[<- hR];rfl
 have r3:a_8 R (.int 3)=some (.tup (qs.map (·.1))):=by rw[<- hR];rfl
 generalize ws.map D.str=W at *
 generalize hC:([w,nm]++froms).map D.str=C at *
 generalize qs.map (·.1)=Q at *
 generalize froms.map D.str=FF at *
 clear hR
 simp[d_0,l_0,List.replicate,r0,r1,r2,r3,e0,e,j,o_9,U_9,fz]
theorem S_3 (A B:List D):Y_0 (A++B) (some (A.length:Int)) none=B:=by
 unfold Y_0;rw[S_2,List.length_append,Nat.min_eq_left (Nat.le_add_right ..),List.drop_left];exact List.take_of_length_le (Nat.le_of_eq (Nat.add_sub_cancel_left ..).symm)
theorem ax6 (a:D) (r:List D):atD (a::r) 0=some a:=by
 unfold atD dPl;rw[if_pos (by decide),if_pos (by simp)]
 rfl
theorem bB9 (a b:D) (r:List D):atD (a::b::r) 1=some b:=by
 unfold atD dPl;rw[if_pos (by decide),if_pos (by simp;omega)]
 rfl
theorem aB3 {T:FT}{F:FE}{zs ys:List D}{ρ:En}{i:Nat} (h:cGo2 T F [] zs=some ys) (hi:ρ[i]?=some (.im (.lst zs))) (hl:zs.length<=1000):am2 [] (eV i) T F ρ=some (.lst ys,ρ):=by
 have v:eV i ρ=some (.lst zs,ρ):=by simp[hi]
 unfold am2;rw[v,b_0];show bnd (some zs) _=_;rw[b_0,Q_8,b_0,h,b_0,if_pos (a_5 hl)]
abbrev tld (P:List (Str×Str)):List D:=P.map λ p=>.tup [.str p.1,.str p.2]
theorem ax9:∀ P:List (Str×Str),zpT (P.map λ p=>.str p.1) (P.map λ p=>.str p.2)=tld P
 |[]=>rfl
 |p::r=>by
  have:=ax9 r;unfold zpT at this ⊢;rw[List.map_cons,List.map_cons,List.zip_cons_cons,List.map_cons,this];rfl
theorem ag6:∀ P:List (Str×Str),(∀ p∈P,g_1 [.str p.1,.str p.2]=some (.bl true))->cGo2 tYes (eF g_1 (aC (eV 0) (aC (eV 1) aN))) [] (tld P)=some (P.map λ _=>.bl true)
 |[],_=>rfl
 |(a,b)::r,h=>by
  have h1:=h _ qg;have e:eF g_1 (aC (eV 0) (aC (eV 1) aN)) [.im (.str a),.im (.str b)]=some (.bl true,[.im (.str a),.im (.str b)]):=by simp[h1]
  rw[tld,List.map_cons,l_9];show bnd (some (D.str a,D.str b)) _=_;rw[b_0];show bnd (some (true,_)) _=_;rw[b_0,if_pos rfl,e,b_0,ag6 r λ p hp=>h p (List.mem_cons_of_mem _ hp),b_0]
  rfl
theorem C_5 {α:Type} (P:List α):I_4 [.lst (P.map λ _=>.bl true)]=some (.bl true):=by
 have e:w_7 (P.map λ _=>D.bl true)=some (P.map λ _=>true):=by
  induction P with
  |nil=>rfl
  |cons p r ih=>rw[List.map_cons,ak2,ih,G_8];rfl
 rw[bi2,e,aD0];simp
theorem B_5 {b:Bool}:∀ P R:List (Str×Str),(∀ p∈P,d_5 (.str p.1) FR=some (.bl b))->cGo2 (tB (e2 d_5 (eV 0) (eC FR))) (eV 1) [] (tld (P++R))=bnd (cGo2 (tB (e2 d_5 (eV 0) (eC FR))) (eV 1) [] (tld R)) λ t=>some ((if b=true then P.map (λ p=>.str p.2) else [])++t)
 |[],R,_=>by
  rw[List.nil_append];cases cGo2 (tB (e2 d_5 (eV 0) (eC FR))) (eV 1) [] (tld R) with
  |none=>rfl
  |some t=>rw[b_0];cases b <;> rfl
 |(x,y)::r,R,h=>by
  have h1:=h _ qg;have e:tB (e2 d_5 (eV 0) (eC FR)) [.im (.str x),.im (.str y)]=some (b,[.im (.str x),.im (.str y)]):=by simp[-j_4,h1]
  rw[List.cons_append,tld,List.map_cons,l_9];show bnd (some (D.str x,D.str y)) _=_;rw[b_0,e,b_0,B_5 r R λ p hp=>h p (List.mem_cons_of_mem _ hp)]
  cases b with
  |false=>exact if_neg (show ¬ (false=true) by decide)
  |true =>
   rw[if_pos rfl];show bnd (some (D.str y,_)) _=_;rw[b_0];cases cGo2 (tB (e2 d_5 (eV 0) (eC FR))) (eV 1) [] (tld R) with
   |none=>rfl
   |some t=>rfl
theorem ay5:∀ ts:List (Str×Str×D),(∀ t∈ts,Item t.1 t.2.1 t.2.2)->cGo tYes (eF c_2 (aC (eV 0) aN)) [] (ts.map λ t=>.str t.2.1)=some (ts.map (·.2.2))
 |[],_=>rfl
 |(p,x,v)::r,h=>by
  have h1:=(u_5 (h _ qg)).val;have e:eF c_2 (aC (eV 0) aN) [.im (.str x)]=some (v,[.im (.str x)]):=by simp[h1]
  rw[List.map_cons,aR7];show cGa _ _ _ _ (some (true,_))=_;rw[aR9,e,aR8,ay5 r λ t ht=>h t (List.mem_cons_of_mem _ ht),G_8]
  rfl
theorem aC0 {α:Type}:∀ xs:List α,(evn xs).length<=xs.length
 |[]=>qj _
 |[_]=>qj _
 |_::_::r=>by
  have:=aC0 r;unfold evn;simp;omega
abbrev prs (nm:Str) (fts:List (Str×Str)) (ts:List (Str×Str×D)):List (Str×Str):=(Str.ofString "NAME",nm)::(fts++ts.map λ t=>(t.1,t.2.1))
theorem af2 {c m:Nat} (ss:List Str) (h:∀ s∈ss,s.length<=m):(Str.join ⟨#[c]⟩ ss).length<=(m+1)*ss.length:=by
 induction ss with
 |nil=>exact qr rfl
 |cons a r ih =>
  have h1:=h a qg;have h2:=ih λ s hs=>h s (qh _ hs)
  rw[List.length_cons,Nat.mul_succ];cases r with
  |nil=>show a.length<=_;omega
  |cons b q =>
   have e:(Str.join ⟨#[c]⟩ (a::b::q)).length=a.length+1+(Str.join ⟨#[c]⟩ (b::q)).length:=by
    rw[e_9,e_9 a,e_9 (Str.join ⟨#[c]⟩ (b::q)),j_8];simp;omega
   rw[e];omega
theorem Q_6 (ss:List Str) (h:∀ s∈ss,s.length<=13):(Str.join blk ss).length<=14*ss.length:=by
 rw[ak4];exact af2 ss h
theorem aq3 {w nm:Str}{fts:List (Str×Str)}{ts:List (Str×Str×D)}{rest:List D}{form:Str} (hw:l_6 w r_8=some (.str form)) (kw:w.length<=13/\32∉w.cps.toList) (kn:Key nm)
  (hf:∀ p∈fts,d_5 (.str p.1) FR=some (.bl true)/\d_5 (.str p.1) KPd=some (.bl true)/\Key p.2) (ht:∀ t∈ts,Item t.1 t.2.1 t.2.2) (hn:(prs nm fts ts).length<=20)
  (hp:c_7 [.str w,.int ((prs nm fts ts).length:Int)]=some (.lst ((prs nm fts ts).map λ p=>.str p.1)))
  (hb:a_2 [.str w,.tup ((fts.map (·.2)).map .str),.tup (ts.map (·.2.2))]=some (.bl true))
  (hr:(w=Str.ofString "put" ∧ rest=zpT (evn (ts.map (·.2.2))) (evn ((ts.map (·.2.2)).drop 1))) ∨ (¬ (w=Str.ofString "put") ∧ rest=ts.map (·.2.2))) :
  f_2 [.str (Str.join blk (w::(prs nm fts ts).map (·.2)))]=some (aG4 w nm (fts.map (·.2)) rest):=by
 have ft:∀ p∈prs nm fts ts,g_1 [.str p.1,.str p.2]=some (.bl true)/\32∉p.2.cps.toList/\p.2.length<=13:=λ p hp=>by
  rcases qw hp with q | q
  ·subst q;exact⟨ag5 (by kernel_rfl) kn,(g_3 kn).1,(g_3 kn).2.2⟩
  ·rcases qx q with q | q
   ·exact⟨ag5 (hf p q).2.1 (hf p q).2.2,(g_3 (hf p q).2.2).1,(g_3 (hf p q).2.2).2.2⟩
   ·obtain⟨t,h1,rfl⟩:=List.mem_map.mp q
    exact⟨(u_5 (ht t h1)).fits,(u_5 (ht t h1)).free.1,(u_5 (ht t h1)).free.2.2⟩
 have ws1:∀ s∈w::(prs nm fts ts).map (·.2),32∉s.cps.toList/\s.length<=13:=λ s hs=>by
  rcases qw hs with q | q
  ·subst q;exact⟨kw.2,kw.1⟩
  ·obtain⟨p,h1,rfl⟩:=List.mem_map.mp q
   exact (ft p h1).2
 have sp:=aa2 (ss:=w::(prs nm fts ts).map (·.2)) (by simp) λ s hs=>(ws1 s hs).1
 have sq:(Txt.split (Str.join blk (w::(prs nm fts ts).map (·.2))) blk).map D.str=(w::(prs nm fts ts).map (·.2)).map D.str:=by rw[sp]
 have jl:=Q_6 (w::(prs nm fts ts).map (·.2)) λ s hs=>(ws1 s hs).2
 generalize hJ:Str.join blk (w::(prs nm fts ts).map (·.2))=J at sq jl ⊢
 have jz:J.length<=100000:=by simp at jl hn;omega
 have lF:(fts.map (·.2)).length=fts.length:=by simp
 have c2:=S_3 (.str w::.str nm::(fts.map (·.2)).map .str) (ts.map λ t=>.str t.2.1)
 have zp:=ax9 (prs nm fts ts);have f1:=ag6 (prs nm fts ts) λ p hp=>(ft p hp).1
 have f2:=C_5 (prs nm fts ts)
 have f3:cGo2 (tB (e2 d_5 (eV 0) (eC FR))) (eV 1) [] (tld (prs nm fts ts))=some ((fts.map (·.2)).map .str):=by
  have e1:=B_5 (b:=false) [(Str.ofString "NAME",nm)] (fts++ts.map λ t=>(t.1,t.2.1)) (by intro p hp;rw[List.mem_singleton.mp hp];kernel_rfl)
  have e2:=B_5 (b:=true) fts (ts.map λ t=>(t.1,t.2.1)) λ p hp=>(hf p hp).1
  have e3:=B_5 (b:=false) (ts.map λ t=>(t.1,t.2.1)) [] (by intro p hp;obtain⟨t,h1,rfl⟩:=List.mem_map.mp hp;exact (u_5 (ht t h1)).fr)
  rw[List.append_nil] at e3;rw[e3] at e2;rw[e2] at e1;rw[List.singleton_append] at e1;rw[e1];show some _=some _;simp
 have f4:=ay5 ts ht;have ix:atD ((w::(prs nm fts ts).map (·.2)).map .str) 1=some (.str nm):=bB9 _ _ _;have i0:atD ((w::(prs nm fts ts).map (·.2)).map .str) 0=some (.str w):=ax6 _ _;have w1:(w::(prs nm fts ts).map (·.2)).map D.str=[.str w]++(prs nm fts ts).map λ p=>.str p.2:=by simp[Function.comp_def]
 have w2:(w::(prs nm fts ts).map (·.2)).map D.str=(.str w::.str nm::(fts.map (·.2)).map .str)++ts.map λ t=>.str t.2.1:=by simp[Function.comp_def]
 have ln:((w::(prs nm fts ts).map (·.2)).map D.str).length=(prs nm fts ts).length+1:=by simp
 have lp:((prs nm fts ts).map λ p=>D.str p.1).length=(prs nm fts ts).length:=by simp
 have lt:(tld (prs nm fts ts)).length<=1000:=by simp at hn ⊢;omega
 have l2:(ts.map λ t=>D.str t.2.1).length<=sizeLine:=a_5 (by simp at hn ⊢;omega)
 have c1:Y_0 ((w::(prs nm fts ts).map (·.2)).map D.str) (some 1) none=(prs nm fts ts).map λ p=>.str p.2:=by rw[w1];exact S_3 [.str w] _
 rw[<- w2] at c2;have lf:((D.str w::D.str nm::(fts.map (·.2)).map .str).length:Int)=2+(fts.length:Int):=by simp;omega
 rw[lf] at c2;have lz:(prs nm fts ts).length+1<=sizeLine:=a_5 (by omega)
 have ly:(prs nm fts ts).length<=sizeLine:=a_5 (by omega)
 have lx:fts.length<=sizeLine:=a_5 (by simp at hn;omega)
 have lr:(prs nm fts ts).length<=1000:=by omega
 have lb:((fts.map (·.2)).map D.str).length=fts.length:=by simp
 have bl:=aS0
 have le:(evn (ts.map (·.2.2))).length<=1000:=by
  have:=aC0 (ts.map (·.2.2));simp at hn this;omega
 have g1:∀ a b c d e f:Sl,am2 [] (eV 4) tYes (eF g_1 (aC (eV 0) (aC (eV 1) aN))) [a,b,c,d,.im (.lst (tld (prs nm fts ts))),e,f]=some (.lst ((prs nm fts ts).map λ _=>.bl true),[a,b,c,d,.im (.lst (tld (prs nm fts ts))),e,f]):=λ _ _ _ _ _ _=>aB3 f1 rfl lt
 have g2:∀ a b c d e f:Sl,am2 [] (eV 4) (tB (e2 d_5 (eV 0) (eC FR))) (eV 1) [a,b,c,d,.im (.lst (tld (prs nm fts ts))),e,f]=some (.lst ((fts.map (·.2)).map .str),[a,b,c,d,.im (.lst (tld (prs nm fts ts))),e,f]):=λ _ _ _ _ _ _=>aB3 f3 rfl lt
 have kk:W_7 r_8 (.str w)=some (.bl false):=by rw[aQ8,hw];rfl
 clear f1 f3 ft ws1 hf ht w1 w2 hn jl lf lt hw kn kw sp
 generalize hG1:am2 [] (eV 4) tYes (eF g_1 (aC (eV 0) (aC (eV 1) aN)))=G1 at g1
 generalize hG2:am2 [] (eV 4) (tB (e2 d_5 (eV 0) (eC FR))) (eV 1)=G2 at g2
 generalize hK:W_7 r_8=KK at kk
 generalize (w::(prs nm fts ts).map (·.2)).map D.str=W at *
 generalize hn1:(prs nm fts ts).length=N at *
 generalize hp1:((prs nm fts ts).map λ p=>D.str p.1)=P1 at *
 generalize hp2:((prs nm fts ts).map λ p=>D.str p.2)=P2 at *
 generalize hB:((prs nm fts ts).map λ _=>D.bl true)=BB at *
 generalize hT:tld (prs nm fts ts)=TL at *
 generalize hFF:(fts.map (·.2)).map D.str=FF at *
 generalize hVV:ts.map (·.2.2)=VV at *
 generalize hXX:(ts.map λ t=>D.str t.2.1)=XX at *
 have S:sIf (tB (e2 dEq (eV 2) (eC (.str "put")))) (e_6 6 (e2 W_6 (e1 (X_8 0) (eV 6)) (e1 (X_8 1) (eV 6)))) sN [.im (.str J),.im (.lst W),.im (.str w),.im (.lst P1),.im (.lst TL),.im (.tup FF),.im (.tup VV)]=some (.nx [.im (.str J),.im (.lst W),.im (.str w),.im (.lst P1),.im (.lst TL),.im (.tup FF),.im (.tup rest)]):=by
  rcases hr with ⟨e,hr⟩ | ⟨e,hr⟩
  ·subst hr
   have ee:=eq_true e
   clear e
   simp[le,ee]
  ·subst hr
   have ee:=eq_false e
   clear e
   simp[ee]
 generalize hS:sIf (tB (e2 dEq (eV 2) (eC (.str "put")))) (e_6 6 (e2 W_6 (e1 (X_8 0) (eV 6)) (e1 (X_8 1) (eV 6)))) sN=SS at S
 unfold f_2 y_4;rw[hG1,hG2,hK,hS]
 clear hr
 simp[List.replicate,bl,jz,sq,i0,ix,kk,ln,hp,c1,c2,zp,lp,g1,f2,g2,lb,f4,l2,hb,lz,ly,lx,lr,S,hFF]
theorem I_7:∀ (xs acc:List Str),(acc++xs).Nodup->i_7 acc xs=acc++xs
 |[],acc,_=>by simp[i_7]
 |x::r,acc,h=>by
  have h':((acc++[x])++r).Nodup:=by simpa using h
  have nx:¬ (x∈acc):=by
   have:=List.nodup_append.mp h;exact λ q=>this.2.2 x q x qg rfl
  have e:aU5 acc x=acc++[x]:=by
   unfold aU5
   first | exact if_neg nx | simp[nx]
  have:=I_7 r (acc++[x]) h';unfold i_7 at this ⊢;rw[List.foldl_cons,e,this];simp
theorem t_1 {ss:List Str} (h:ss.Nodup) (hl:ss.length<1000):e_1 [.tup (ss.map .str)]=some (.bl true):=by
 have e:n_7 (ss.map .str)=some (.int (ss.length:Int)):=by
  unfold n_7;rw[z_0,b_0,if_pos hl,I_7 ss [] (by simpa using h)]
  rfl
 have lz:(ss.map D.str).length<=sizeLine:=a_5 (by simp;omega)
 have ln:(ss.map D.str).length=ss.length:=by simp
 generalize ss.map D.str=S at *
 simp[e_1,r_2,e,lz,ln]
theorem F_8 {c:Nat} (hc:c≠32):∀ ss:List Str,(∀ s∈ss,c∉s.cps.toList)->c∉(Str.join blk ss).cps.toList
 |[],_=>by rw[show (Str.join blk []).cps.toList=[] by decide +kernel];simp
 |[x],h=>h x qg
 |x::y::r,h=>by
  have ih:=F_8 hc (y::r) λ s hs=>h s (qh _ hs)
  have hx:=h x qg;rw[ak4] at ih ⊢;rw[j_8];intro q
  rcases qx q with q | q
  ·exact hx q
  ·rcases qw q with q | q
   ·exact hc q
   ·exact ih q
def Pl (m:Nat) (d:D):Prop:=nl d=true/\nd d=true/\dpD d<=m
structure Rd (w nm:Str) (froms:List Str) (rest:List D):Prop where
 txt:∃ t:Str,d_0 [aG4 w nm froms rest]=some (.str t)/\f_2 [.str t]=some (aG4 w nm froms rest)/\10∉t.cps.toList/\t.length<=400
 pl:∀ d∈rest,Pl 1 d
theorem aN1 {p x:Str}{v:D} (h:Item p x v):Pl 0 v:=by cases h <;> exact⟨rfl,rfl,qj _⟩
theorem L_8 {d:D}:∀ {xs:List D},d∈evn xs->d∈xs
 |[],h=>h
 |[_],h=>h
 |a::_::r,h=>by
  rcases qw h with q | q
  ·rw[q];exact qg
  ·exact qh _ (qh _ (L_8 q))
theorem aU7 {xs ys:List D} (hx:∀ d∈xs,Pl 0 d) (hy:∀ d∈ys,Pl 0 d):∀ d∈zpT xs ys,Pl 1 d:=λ d hd=>by
 obtain⟨⟨a,b⟩,hp,rfl⟩:=List.mem_map.mp hd;have m:=List.of_mem_zip hp;obtain⟨p1,p2,p3⟩:=hx a m.1;obtain⟨q1,q2,q3⟩:=hy b m.2;show (nl a&&(nl b&&true))=true/\(nd a&&(nd b&&true))=true/\max (dpD a) (max (dpD b) 0)+1<=1;rw[p1,p2,q1,q2];exact⟨rfl,rfl,Nat.succ_le_succ (Nat.max_le.mpr ⟨p3,Nat.max_le.mpr ⟨q3,qj _⟩⟩)⟩
theorem az5 {w nm:Str}{fts:List (Str×Str)}{ts:List (Str×Str×D)}{form:Str}{rest:List D}{qs:List (D×List Str)} (hw:l_6 w r_8=some (.str form)) (kw:Key w) (kn:Key nm)
  (hf:∀ p∈fts,d_5 (.str p.1) FR=some (.bl true)/\d_5 (.str p.1) KPd=some (.bl true)/\Key p.2) (ht:∀ t∈ts,Item t.1 t.2.1 t.2.2) (hn:(prs nm fts ts).length<=20)
  (hp:c_7 [.str w,.int ((prs nm fts ts).length:Int)]=some (.lst ((prs nm fts ts).map λ p=>.str p.1)))
  (hb:a_2 [.str w,.tup ((fts.map (·.2)).map .str),.tup (ts.map (·.2.2))]=some (.bl true))
  (hr:(w=Str.ofString "put" ∧ rest=zpT (evn (ts.map (·.2.2))) (evn ((ts.map (·.2.2)).drop 1))) ∨ (¬ (w=Str.ofString "put") ∧ rest=ts.map (·.2.2)))
  (hq:rest=qs.map (·.1)) (hq1:∀ q∈qs,Shw q.1 q.2) (hq2:qs.flatMap (·.2)=ts.map (·.2.1)):Rd w nm (fts.map (·.2)) rest:=by
 have r:=aq3 hw ⟨(g_3 kw).2.2,(g_3 kw).1⟩ kn hf ht hn hp hb hr
 have fr:∀ s∈w::(prs nm fts ts).map (·.2),10∉s.cps.toList/\s.length<=13:=λ s hs=>by
  rcases qw hs with q | q
  ·subst q;exact (g_3 kw).2
  ·obtain⟨p,h1,rfl⟩:=List.mem_map.mp q
   rcases qw h1 with q | q
   ·subst q;exact (g_3 kn).2
   ·rcases qx q with q | q
    ·exact (g_3 (hf p q).2.2).2
    ·obtain⟨t,h2,rfl⟩:=List.mem_map.mp q
     exact (u_5 (ht t h2)).free.2
 have wd:=Y_9 (w:=w) (nm:=nm) (froms:=fts.map (·.2)) hq1 (ws:=w::(prs nm fts ts).map (·.2)) (by rw[hq2];simp[Function.comp_def]) (by simp at hn ⊢;omega) λ s hs=>(fr s hs).2
 rw[<- hq] at wd;refine⟨⟨_,wd,r,F_8 (by decide) _ λ s hs=>(fr s hs).1,?_⟩,?_⟩
 ·have:=Q_6 _ λ s hs=>(fr s hs).2
  simp at this hn ⊢;omega
 ·have tv:∀ d∈ts.map (·.2.2),Pl 0 d:=λ d hd=>by
   obtain⟨t,h1,rfl⟩:=List.mem_map.mp hd;exact aN1 (ht t h1)
  rcases hr with ⟨_,e⟩ | ⟨_,e⟩ <;> rw[e]
  ·exact aU7 (λ d hd=>tv d (L_8 hd)) λ d hd=>tv d (List.mem_of_mem_drop (L_8 hd))
  ·exact λ d hd=>⟨(tv d hd).1,(tv d hd).2.1,Nat.le_succ_of_le (tv d hd).2.2⟩
theorem az6 {w nm:Str}{fts:List (Str×Str)}{ts:List (Str×Str×D)}{form:Str} (hw:l_6 w r_8=some (.str form)) (kw:Key w) (np:¬ (w=Str.ofString "put")) (kn:Key nm)
  (hf:∀ p∈fts,d_5 (.str p.1) FR=some (.bl true)/\d_5 (.str p.1) KPd=some (.bl true)/\Key p.2) (ht:∀ t∈ts,Item t.1 t.2.1 t.2.2) (hn:(prs nm fts ts).length<=20)
  (hp:c_7 [.str w,.int ((prs nm fts ts).length:Int)]=some (.lst ((prs nm fts ts).map λ p=>.str p.1)))
  (hb:a_2 [.str w,.tup ((fts.map (·.2)).map .str),.tup (ts.map (·.2.2))]=some (.bl true)):Rd w nm (fts.map (·.2)) (ts.map (·.2.2)) :=
 az5 (qs:=ts.map λ t=>(t.2.2,[t.2.1])) hw kw kn hf ht hn hp hb (.inr ⟨np,rfl⟩) (by simp[Function.comp_def]) (by
  intro q hq;obtain⟨t,h1,rfl⟩:=List.mem_map.mp hq
  exact (u_5 (ht t h1)).shw) (by
  clear hb hp hn ht
  induction ts with
  |nil=>rfl
  |cons t r ih=>rw[List.map_cons,List.flatMap_cons,ih];rfl)
abbrev sS (x:String):Str:=Str.ofString x
theorem b_3 {T:FT}{A R:FS}{ρ:En}{d:Option D} (h:T ρ=some (false,ρ)) (k:fnA (R ρ)=d):fnA (b_4 (sIf T A sN) R ρ)=d:=by
 simp[h,k]
theorem L_6 {T:FT}{E:FE}{R:FS}{ρ ρ':En}{d:D} (h:T ρ=some (true,ρ)) (k:E ρ=some (d,ρ')):fnA (b_4 (sIf T (c_9 E) sN) R ρ)=some d:=by
 simp[h,k]
theorem kb0 (a b c:D):a_2 [a,b,c]=fnA (n_4 [.im a,.im b,.im c]):=by kernel_rfl
theorem bv9 (w:Str) (hw:w=sS "in" ∨ w=sS "span" ∨ w=sS "ask") (F:List D) (a b:Int) (h:a ≤ b):a_2 [.str w,.tup F,.tup [.int a,.int b]]=some (.bl true):=by
 have e:a_2 [.str w,.tup F,.tup [.int a,.int b]]=some (.bl (decide (a<=b))):=by
  rcases hw with rfl | rfl | rfl <;> kernel_rfl
 rw[e,decide_eq_true h]
theorem bv8 (w:Str) (hw:w=sS "in" ∨ w=sS "span" ∨ w=sS "ask") (F:List D) (x:D):a_2 [.str w,.tup F,.tup [.non,x]]=some (.bl true):=by
 rcases hw with rfl | rfl | rfl <;> kernel_rfl
theorem bv7 (w:Str) (hw:w=sS "in" ∨ w=sS "span" ∨ w=sS "ask") (F:List D) (a:Int):a_2 [.str w,.tup F,.tup [.int a,.non]]=some (.bl true):=by
 rcases hw with rfl | rfl | rfl <;> kernel_rfl
theorem aM8 (F:List D):a_2 [.str (sS "ask"),.tup F,.tup []]=some (.bl true):=by kernel_rfl
theorem aM2 (F:List D) (a:Int) (x:D) (h:0 ≤ a) (hx:x=.non ∨ ∃ b,x=.int b ∧ a<b):a_2 [.str (sS "time"),.tup F,.tup [.int a,x]]=some (.bl true):=by
 rw[kb0];refine b_3 (by kernel_rfl) (L_6 (ρ':=[.im (.str (sS "time")),.im (.tup F),.im (.tup [.int a,x])]) (by kernel_rfl) ?_)
 rcases hx with rfl | ⟨b,rfl,hb⟩
 ·simp[h,o_3,x_0]
 ·simp[h,hb,o_3,x_0]
theorem aM6 (w:Str) (hw:w=sS "only" ∨ w=sS "but") (F:List D) (ks:List Str) (hl:ks.length ≤ 8) (hd:ks.Nodup):a_2 [.str w,.tup F,.tup (ks.map .str)]=some (.bl true):=by
 have u:=t_1 hd (by omega)
 have ln:(ks.map D.str).length=ks.length:=by simp
 have l8:(ks.length:Int)<=8:=by omega
 have lz:ks.length<=sizeLine:=a_5 (by omega)
 generalize ks.map D.str=K at *
 rw[kb0];refine b_3 (by rcases hw with rfl | rfl <;> kernel_rfl) (b_3 (by rcases hw with rfl | rfl <;> kernel_rfl) (L_6 (ρ':=[.im (.str w),.im (.tup F),.im (.tup K)]) (by rcases hw with rfl | rfl <;> kernel_rfl) ?_))
 simp[ln,lz,l8,u]
theorem aM3 (F:List D) (a b:Int) (h1:2 ≤ a) (h2:a ≤ 1000) (h3:0 ≤ b) (h4:b<a):a_2 [.str (sS "rest"),.tup F,.tup [.int a,.int b]]=some (.bl true):=by
 rw[kb0];refine b_3 (by kernel_rfl) (b_3 (by kernel_rfl) (b_3 (by kernel_rfl) (L_6 (ρ':=[.im (.str (sS "rest")),.im (.tup F),.im (.tup [.int a,.int b])]) (by kernel_rfl) ?_)))
 simp[h1,h2,h3,h4,o_3,x_0]
theorem aM1 (F:List D) (a b:Int) (h1:-1000 ≤ a) (h2:a ≤ 1000) (h3:¬ (a=0)):a_2 [.str (sS "turn"),.tup F,.tup [.int a,.int b]]=some (.bl true):=by
 rw[kb0];refine b_3 (by kernel_rfl) (b_3 (by kernel_rfl) (b_3 (by kernel_rfl) (b_3 (by kernel_rfl) (L_6 (ρ':=[.im (.str (sS "turn")),.im (.tup F),.im (.tup [.int a,.int b])]) (by kernel_rfl) ?_))))
 simp[h1,h2,h3,o_3,x_0]
theorem bd7 (F R:List D) (ks:List Str) (hl:R.length=2 ∨ R.length=4 ∨ R.length=6 ∨ R.length=8) (he:evn R=ks.map .str) (h8:ks.length ≤ 8) (hd:ks.Nodup):a_2 [.str (sS "put"),.tup F,.tup R]=some (.bl true):=by
 have u:=t_1 hd (by omega)
 have lz:R.length<=sizeLine:=a_5 (by omega)
 have i:d_5 (.int (R.length:Int)) (.tup [.int 2,.int 4,.int 6,.int 8])=some (.bl true):=by
  rcases hl with h | h | h | h <;> rw[h] <;> kernel_rfl
 rw[kb0];refine b_3 (by kernel_rfl) (b_3 (by kernel_rfl) (b_3 (by kernel_rfl) (b_3 (by kernel_rfl) (b_3 (by kernel_rfl) (L_6 (ρ':=[.im (.str (sS "put")),.im (.tup F),.im (.tup R)]) (by kernel_rfl) ?_)))))
 simp[-j_4,lz,i,he,u]
theorem aM4 (R:List D) (ks:List Str) (h8:ks.length ≤ 8) (hd:ks.Nodup):a_2 [.str (sS "pour"),.tup (ks.map .str),.tup R]=some (.bl true):=by
 have u:=t_1 hd (by omega)
 have ln:(ks.map D.str).length=ks.length:=by simp
 have l8:(ks.length:Int)<=8:=by omega
 have lz:ks.length<=sizeLine:=a_5 (by omega)
 generalize ks.map D.str=K at *
 rw[kb0];refine b_3 (by kernel_rfl) (b_3 (by kernel_rfl) (b_3 (by kernel_rfl) (b_3 (by kernel_rfl) (b_3 (by kernel_rfl) (b_3 (by kernel_rfl) (L_6 (ρ':=[.im (.str (sS "pour")),.im (.tup K),.im (.tup R)]) (by kernel_rfl) ?_))))))
 simp[ln,lz,l8,u]
theorem at9 (F:List D) (a:Int) (h:0 ≤ a):a_2 [.str (sS "later"),.tup F,.tup [.int a]]=some (.bl true):=by
 have e:a_2 [.str (sS "later"),.tup F,.tup [.int a]]=some (.bl (decide (a≥0))):=by kernel_rfl
 rw[e,decide_eq_true h]
theorem aM5 (F:List D) (a:Int) (x:D) (h:0 ≤ a):a_2 [.str (sS "pair"),.tup F,.tup [.int a,x]]=some (.bl true):=by
 have e:a_2 [.str (sS "pair"),.tup F,.tup [.int a,x]]=some (.bl (decide (a≥0))):=by kernel_rfl
 rw[e,decide_eq_true h]
theorem bB0 (b:Bool):blB (.bl b)=some b:=rfl
theorem at8 (F:List D) (a b:Int) (x:D) (h1:1 ≤ b) (h2:b<a) (h3:a ≤ 20*b) (hb:b.natAbs<2 ^ 64):a_2 [.str (sS "slide"),.tup F,.tup [.int a,.int b,x]]=some (.bl true):=by
 have a0:atD [D.int a,.int b,x] 0=some (.int a):=rfl;have a1:atD [D.int a,.int b,x] 1=some (.int b):=rfl;have m:l_5 20 b=true:=u_1 hb;rw[kb0];refine b_3 (by kernel_rfl) (b_3 (by kernel_rfl) (b_3 (by kernel_rfl) (b_3 (by kernel_rfl) (b_3 (by kernel_rfl) (b_3 (by kernel_rfl) (b_3 (by kernel_rfl) (b_3 (by kernel_rfl) (L_6 (ρ':=[.im (.str (sS "slide")),.im (.tup F),.im (.tup [.int a,.int b,x])]) (by kernel_rfl) ?_))))))))
 simp[h1,h2,h3,a0,a1,m,bB0]
theorem af0 (w:Str) (hw:w=sS "fixed" ∨ w=sS "gaps") (F:List D) (a:Int) (x:D) (h:1 ≤ a):a_2 [.str w,.tup F,.tup [.int a,x]]=some (.bl true):=by
 have e:a_2 [.str w,.tup F,.tup [.int a,x]]=some (.bl (decide (a>=1))):=by
  rcases hw with rfl | rfl <;> kernel_rfl
 rw[e,decide_eq_true h]
theorem aM7 (F:List D) (x:D):a_2 [.str (sS "ever"),.tup F,.tup [x]]=some (.bl true):=by kernel_rfl
def BV (v:D):Prop:=v=.non\/∃ n:Int,v=.int n/\n.natAbs<10 ^ 12
theorem u_6 {p:Str} (hp:NumPl p) (hf:d_5 (.str p) FR=some (.bl false)) (hb:d_5 (.str p) BP=some (.bl true)) {v:D} (h:BV v):∃ x,Item p x v:=by
 rcases h with rfl | ⟨n,rfl,hn⟩
 ·exact⟨_,.star hp hf hb⟩
 ·exact⟨_,.num hp hf hn⟩
def Two (l h:D):Prop:=BV l/\BV h/\(l=.non\/h=.non\/∃ a b:Int,l=.int a/\h=.int b/\a<=b)
theorem af1 (w:Str) (hw:w=sS "in" ∨ w=sS "span" ∨ w=sS "ask") (F:List D) {l h:D} (t:Two l h):a_2 [.str w,.tup F,.tup [l,h]]=some (.bl true):=by
 obtain⟨b1,b2,o⟩:=t
 rcases b1 with rfl | ⟨a,rfl,_⟩
 ·exact bv8 w hw F h
 ·rcases b2 with rfl | ⟨b,rfl,_⟩
  ·exact bv7 w hw F a
  ·rcases o with e | e | ⟨a',b',e1,e2,o⟩
   ·cases e
   ·cases e
   ·cases e1;cases e2;exact bv9 w hw F a b o
abbrev FrK (f:Str):Prop:=d_5 (.str (sS "FROM")) FR=some (.bl true) ∧ d_5 (.str (sS "FROM")) KPd=some (.bl true) ∧ Key f
theorem frK {f:Str} (h:Key f):FrK f:=⟨by kernel_rfl,by kernel_rfl,h⟩
theorem fr1 {f:Str} (h:Key f):∀ p∈[(sS "FROM",f)],d_5 (.str p.1) FR=some (.bl true) ∧ d_5 (.str p.1) KPd=some (.bl true) ∧ Key p.2:=λ p hp=>by
 rw[List.mem_singleton.mp hp];exact frK h
theorem bC0 {P:(Str×Str×D)->Prop}{a:Str×Str×D} (h:P a):∀ t∈[a],P t:=λ t ht=>by rw[List.mem_singleton.mp ht];exact h
theorem am8 {P:(Str×Str×D)->Prop}{a b:Str×Str×D} (h:P a) (k:P b):∀ t∈[a,b],P t:=λ t ht=>by
 rcases qw ht with q | q
 ·rw[q];exact h
 ·exact bC0 k t q
theorem X_7 {w nm:Str}{fts:List (Str×Str)}{ts:List (Str×Str×D)} (form:Str) (ws:List Str) (l:Str) (kw:Key w) (np:¬ (w=sS "put")) (kn:Key nm)
  (hf:∀ p∈fts,d_5 (.str p.1) FR=some (.bl true)/\d_5 (.str p.1) KPd=some (.bl true)/\Key p.2) (ht:∀ t∈ts,Item t.1 t.2.1 t.2.2)
  (hb:a_2 [.str w,.tup ((fts.map (·.2)).map .str),.tup (ts.map (·.2.2))]=some (.bl true))
  (hw:l_6 w r_8=some (.str form)) (hl:form.length ≤ 100000) (hs:Txt.split form blk=ws++[l]) (hd:¬ (l=Str.ofString "..")) (ha:¬ (w=Str.ofString "ask") ∨ (prs nm fts ts).length ≤ 2)
  (hq:ws++[l]=(prs nm fts ts).map (·.1)) (hn:(prs nm fts ts).length<=20):Rd w nm (fts.map (·.2)) (ts.map (·.2.2)):=by
 have hk:dKx r_8 (.str w)=some (.str form):=by
  first | exact hw | (unfold dKx;exact hw)
 have p:=U_5 (n:=((prs nm fts ts).length:Int)) hk hl hs hd (by rintro ⟨a,b⟩;rcases ha with q | q;exact q a;omega)
 rw[hq,List.map_map] at p;exact az6 hw kw np kn hf ht hn p hb
theorem d_6 {s:Str} (h:(1<=s.length&&decide (s.length<=8)&&s.cps.toList.all λ c=>decide (97<=c)&&decide (c<123))=true):Key s:=by
 simp only[Bool.and_eq_true,decide_eq_true_eq,List.all_eq_true] at h;exact⟨h.1.1,h.1.2,h.2⟩
theorem bt1 {nm:Str}{l h:D} (kn:Key nm) (t:Two l h):Rd (sS "in") nm [] [l,h]:=by
 obtain⟨x,hx⟩:=u_6 ad0 (by kernel_rfl) (by kernel_rfl) t.1
 obtain⟨y,hy⟩:=u_6 K_7 (by kernel_rfl) (by kernel_rfl) t.2.1
 exact X_7 (fts:=[]) (ts:=[(sS "LOW",x,l),(sS "HIGH",y,h)]) (sS "NAME LOW HIGH") [sS "NAME",sS "LOW"] (sS "HIGH") (d_6 (by decide +kernel)) (by decide +kernel) kn (by simp) (am8 hx hy) (af1 _ (.inl rfl) _ t) (by kernel_rfl) (by decide +kernel) (by decide +kernel) (by decide +kernel) (.inl (by decide +kernel)) rfl (qr rfl)
theorem aG7 {nm f:Str}{l h:D} (kn:Key nm) (kf:Key f) (t:Two l h):Rd (sS "span") nm [f] [l,h]:=by
 obtain⟨x,hx⟩:=u_6 ad0 (by kernel_rfl) (by kernel_rfl) t.1
 obtain⟨y,hy⟩:=u_6 K_7 (by kernel_rfl) (by kernel_rfl) t.2.1
 exact X_7 (fts:=[(sS "FROM",f)]) (ts:=[(sS "LOW",x,l),(sS "HIGH",y,h)]) (sS "NAME FROM LOW HIGH") [sS "NAME",sS "FROM",sS "LOW"] (sS "HIGH") (d_6 (by decide +kernel)) (by decide +kernel) kn (fr1 kf) (am8 hx hy) (af1 _ (.inr (.inl rfl)) _ t) (by kernel_rfl) (by decide +kernel) (by decide +kernel) (by decide +kernel) (.inl (by decide +kernel)) rfl (qr rfl)
theorem ab5 {nm f:Str}{a:Int}{x:D} (kn:Key nm) (kf:Key f) (h:0 ≤ a) (ha:a.natAbs<10 ^ 12) (bx:BV x) (hx:x=.non ∨ ∃ b,x=.int b ∧ a<b):Rd (sS "time") nm [f] [.int a,x]:=by
 obtain⟨y,hy⟩:=u_6 bb7 (by kernel_rfl) (by kernel_rfl) bx
 exact X_7 (fts:=[(sS "FROM",f)]) (ts:=[(sS "BEGIN",nT a,.int a),(sS "END",y,x)]) (sS "NAME FROM BEGIN END") [sS "NAME",sS "FROM",sS "BEGIN"] (sS "END") (d_6 (by decide +kernel)) (by decide +kernel) kn (fr1 kf) (am8 (.num as8 (by kernel_rfl) ha) hy) (aM2 _ a x h hx) (by kernel_rfl) (by decide +kernel) (by decide +kernel) (by decide +kernel) (.inl (by decide +kernel)) rfl (qr rfl)
theorem aG8 {nm f:Str}{a b:Int} (kn:Key nm) (kf:Key f) (h1:2 ≤ a) (h2:a ≤ 1000) (h3:0 ≤ b) (h4:b<a):Rd (sS "rest") nm [f] [.int a,.int b] :=
 X_7 (fts:=[(sS "FROM",f)]) (ts:=[(sS "M",nT a,.int a),(sS "R",nT b,.int b)]) (sS "NAME FROM M R") [sS "NAME",sS "FROM",sS "M"] (sS "R") (d_6 (by decide +kernel)) (by decide +kernel) kn (fr1 kf) (am8 (.num bR9 (by kernel_rfl) (by omega)) (.num bR8 (by kernel_rfl) (by omega))) (aM3 _ a b h1 h2 h3 h4) (by kernel_rfl) (by decide +kernel) (by decide +kernel) (by decide +kernel) (.inl (by decide +kernel)) rfl (qr rfl)
theorem ab4 {nm f:Str}{a b:Int} (kn:Key nm) (kf:Key f) (h1:-1000 ≤ a) (h2:a ≤ 1000) (h3:¬ (a=0)) (hb:b.natAbs<10 ^ 12):Rd (sS "turn") nm [f] [.int a,.int b] :=
 X_7 (fts:=[(sS "FROM",f)]) (ts:=[(sS "A",nT a,.int a),(sS "B",nT b,.int b)]) (sS "NAME FROM A B") [sS "NAME",sS "FROM",sS "A"] (sS "B") (d_6 (by decide +kernel)) (by decide +kernel) kn (fr1 kf) (am8 (.num bS2 (by kernel_rfl) (by omega)) (.num bS1 (by kernel_rfl) hb)) (aM1 _ a b h1 h2 h3) (by kernel_rfl) (by decide +kernel) (by decide +kernel) (by decide +kernel) (.inl (by decide +kernel)) rfl (qr rfl)
theorem aq5 {nm f:Str}{a:Int} (kn:Key nm) (kf:Key f) (h:0 ≤ a) (ha:a.natAbs<10 ^ 12):Rd (sS "later") nm [f] [.int a] :=
 X_7 (fts:=[(sS "FROM",f)]) (ts:=[(sS "C",nT a,.int a)]) (sS "NAME FROM C") [sS "NAME",sS "FROM"] (sS "C") (d_6 (by decide +kernel)) (by decide +kernel) kn (fr1 kf) (bC0 (.num bS0 (by kernel_rfl) ha)) (at9 _ a h) (by kernel_rfl) (by decide +kernel) (by decide +kernel) (by decide +kernel) (.inl (by decide +kernel)) rfl (qr rfl)
theorem aH0 {nm f g w:Str}{a:Int} (kn:Key nm) (kf:Key f) (kg:Key g) (h:0 ≤ a) (ha:a.natAbs<10 ^ 12) (hw:d_5 (.str w) HP=some (.bl true)) (kw:Key w):Rd (sS "pair") nm [f,g] [.int a,.str w] :=
 X_7 (fts:=[(sS "LEFT",f),(sS "RIGHT",g)]) (ts:=[(sS "REACH",nT a,.int a),(sS "HOW",w,.str w)]) (sS "NAME LEFT RIGHT REACH HOW") [sS "NAME",sS "LEFT",sS "RIGHT",sS "REACH"] (sS "HOW") (d_6 (by decide +kernel)) (by decide +kernel) kn (λ p hp=>by
  rcases qw hp with q | q
  ·rw[q];exact⟨by kernel_rfl,by kernel_rfl,kf⟩
  ·rw[List.mem_singleton.mp q];exact⟨by kernel_rfl,by kernel_rfl,kg⟩) (am8 (.num as7 (by kernel_rfl) ha) (.how hw kw)) (aM5 _ a _ h) (by kernel_rfl) (by decide +kernel) (by decide +kernel) (by decide +kernel) (.inl (by decide +kernel)) rfl (qr rfl)
theorem aq6 {nm f w:Str}{a:Int} (kn:Key nm) (kf:Key f) (h:1 ≤ a) (ha:a.natAbs<10 ^ 12) (hw:d_5 (.str w) FP=some (.bl true)) (kw:Key w):Rd (sS "fixed") nm [f] [.int a,.str w] :=
 X_7 (fts:=[(sS "FROM",f)]) (ts:=[(sS "WIDTH",nT a,.int a),(sS "FOLD",w,.str w)]) (sS "NAME FROM WIDTH FOLD") [sS "NAME",sS "FROM",sS "WIDTH"] (sS "FOLD") (d_6 (by decide +kernel)) (by decide +kernel) kn (fr1 kf) (am8 (.num P_6 (by kernel_rfl) ha) (.fold hw kw)) (af0 _ (.inl rfl) _ a _ h) (by kernel_rfl) (by decide +kernel) (by decide +kernel) (by decide +kernel) (.inl (by decide +kernel)) rfl (qr rfl)
theorem aH2 {nm f w:Str}{a:Int} (kn:Key nm) (kf:Key f) (h:1 ≤ a) (ha:a.natAbs<10 ^ 12) (hw:d_5 (.str w) FP=some (.bl true)) (kw:Key w):Rd (sS "gaps") nm [f] [.int a,.str w] :=
 X_7 (fts:=[(sS "FROM",f)]) (ts:=[(sS "GAP",nT a,.int a),(sS "FOLD",w,.str w)]) (sS "NAME FROM GAP FOLD") [sS "NAME",sS "FROM",sS "GAP"] (sS "FOLD") (d_6 (by decide +kernel)) (by decide +kernel) kn (fr1 kf) (am8 (.num bb6 (by kernel_rfl) ha) (.fold hw kw)) (af0 _ (.inr rfl) _ a _ h) (by kernel_rfl) (by decide +kernel) (by decide +kernel) (by decide +kernel) (.inl (by decide +kernel)) rfl (qr rfl)
theorem aq4 {nm f w:Str}{a b:Int} (kn:Key nm) (kf:Key f) (h1:1 ≤ b) (h2:b<a) (h3:a ≤ 20*b) (ha:a.natAbs<10 ^ 12) (hw:d_5 (.str w) FP=some (.bl true)) (kw:Key w):Rd (sS "slide") nm [f] [.int a,.int b,.str w] :=
 X_7 (fts:=[(sS "FROM",f)]) (ts:=[(sS "WIDTH",nT a,.int a),(sS "STEP",nT b,.int b),(sS "FOLD",w,.str w)]) (sS "NAME FROM WIDTH STEP FOLD") [sS "NAME",sS "FROM",sS "WIDTH",sS "STEP"] (sS "FOLD") (d_6 (by decide +kernel)) (by decide +kernel) kn (fr1 kf) (λ t ht=>by
  rcases qw ht with q | q
  ·rw[q];exact .num P_6 (by kernel_rfl) ha
  ·exact am8 (P:=λ t=>Item t.1 t.2.1 t.2.2) (.num aK2 (by kernel_rfl) (by omega)) (.fold hw kw) t q) (at8 _ a b _ h1 h2 h3 (by omega)) (by kernel_rfl) (by decide +kernel) (by decide +kernel) (by decide +kernel) (.inl (by decide +kernel)) rfl (qr rfl)
theorem aH3 {nm f w:Str} (kn:Key nm) (kf:Key f) (hw:d_5 (.str w) FP=some (.bl true)) (kw:Key w):Rd (sS "ever") nm [f] [.str w] :=
 X_7 (fts:=[(sS "FROM",f)]) (ts:=[(sS "FOLD",w,.str w)]) (sS "NAME FROM FOLD") [sS "NAME",sS "FROM"] (sS "FOLD") (d_6 (by decide +kernel)) (by decide +kernel) kn (fr1 kf) (bC0 (.fold hw kw)) (aM7 _ _) (by kernel_rfl) (by decide +kernel) (by decide +kernel) (by decide +kernel) (.inl (by decide +kernel)) rfl (qr rfl)
theorem aH5 {nm f:Str} (kn:Key nm) (kf:Key f):Rd (sS "ask") nm [f] [] :=
 X_7 (fts:=[(sS "FROM",f)]) (ts:=[]) (sS "NAME FROM") [sS "NAME"] (sS "FROM") (d_6 (by decide +kernel)) (by decide +kernel) kn (fr1 kf) (by simp) (aM8 _) (by kernel_rfl) (by decide +kernel) (by decide +kernel) (by decide +kernel) (.inr (qj 2)) rfl (qr rfl)
theorem aH4 {nm f:Str}{l h:D} (kn:Key nm) (kf:Key f) (t:Two l h):Rd (sS "ask") nm [f] [l,h]:=by
 obtain⟨x,hx⟩:=u_6 ad0 (by kernel_rfl) (by kernel_rfl) t.1
 obtain⟨y,hy⟩:=u_6 K_7 (by kernel_rfl) (by kernel_rfl) t.2.1
 exact az6 (fts:=[(sS "FROM",f)]) (ts:=[(sS "LOW",x,l),(sS "HIGH",y,h)]) (form:=sS "NAME FROM") (by kernel_rfl) (d_6 (by decide +kernel)) (by decide +kernel) kn (fr1 kf) (am8 hx hy) (qr rfl) U_6 (af1 _ (.inr (.inr rfl)) _ t)
theorem bt0 {w nm:Str}{fts:List (Str×Str)}{ts:List (Str×Str×D)}{rest:List D}{qs:List (D×List Str)} (form:Str) (ws:List Str) (l:Str) (k:Nat) (kw:Key w) (kn:Key nm)
  (hf:∀ p∈fts,d_5 (.str p.1) FR=some (.bl true)/\d_5 (.str p.1) KPd=some (.bl true)/\Key p.2) (ht:∀ t∈ts,Item t.1 t.2.1 t.2.2)
  (hb:a_2 [.str w,.tup ((fts.map (·.2)).map .str),.tup (ts.map (·.2.2))]=some (.bl true))
  (hw:l_6 w r_8=some (.str form)) (hl:form.length ≤ 100000) (hs:Txt.split form blk=(ws++[l])++[Str.ofString ".."]) (ha:¬ (w=Str.ofString "ask"))
  (hq:(ws++[l])++List.replicate k l=(prs nm fts ts).map (·.1)) (h1:ws.length<=5) (h2:k<=10)
  (hr:(w=Str.ofString "put" ∧ rest=zpT (evn (ts.map (·.2.2))) (evn ((ts.map (·.2.2)).drop 1))) ∨ (¬ (w=Str.ofString "put") ∧ rest=ts.map (·.2.2)))
  (hq':rest=qs.map (·.1)) (hq1:∀ q∈qs,Shw q.1 q.2) (hq2:qs.flatMap (·.2)=ts.map (·.2.1)):Rd w nm (fts.map (·.2)) rest:=by
 have hk:dKx r_8 (.str w)=some (.str form):=by
  first | exact hw | (unfold dKx;exact hw)
 have p:=U_3 (k:=k) hk hl hs ha (by omega) h2
 have ln:(prs nm fts ts).length=ws.length+1+k:=by
  have:=congrArg List.length hq;rw[List.length_map,List.length_append,List.length_append,List.length_replicate] at this;exact this.symm
 rw[<- List.map_replicate (f:=D.str),<- List.map_append,hq,List.map_map,<- ln] at p;exact az5 hw kw kn hf ht (by omega) p hb hr hq' hq1 hq2
theorem s_4 {α β:Type} (b:β):∀ l:List α,l.map (λ _=>b)=List.replicate l.length b
 |[]=>rfl
 |_::r=>by rw[List.map_cons,s_4 b r];rfl
theorem bf4:∀ ks:List Str,(ks.map λ x=>(D.str x,[x])).flatMap (·.2)=ks
 |[]=>rfl
 |_::r=>by rw[List.map_cons,List.flatMap_cons,bf4 r];rfl
theorem aH1 {w nm f k0:Str}{ks:List Str} (hw:w=sS "only" ∨ w=sS "but") (kn:Key nm) (kf:Key f) (kk:∀ k∈k0::ks,Key k) (hl:ks.length ≤ 7) (hd:(k0::ks).Nodup):Rd w nm [f] ((k0::ks).map .str):=by
 have e3:((k0::ks).map λ k=>(sS "KEY",k,D.str k)).map (·.2.2)=(k0::ks).map D.str:=by rw[List.map_map];rfl
 have e4:((k0::ks).map λ k=>(sS "KEY",k,D.str k)).map (·.2.1)=k0::ks:=by rw[List.map_map];exact List.map_id _
 have e5:([sS "NAME",sS "FROM"]++[sS "KEY"])++List.replicate ks.length (sS "KEY")=(prs nm [(sS "FROM",f)] ((k0::ks).map λ k=>(sS "KEY",k,D.str k))).map (·.1):=by
  have:=s_4 (sS "KEY") ks;simp only[prs,List.map_cons,List.map_map,List.map_append,List.cons_append,List.nil_append,List.map_nil];rw[<- this];rfl
 have kb:=aM6 w hw ([f].map .str) (k0::ks) (by simp;omega) hd
 rw[<- e3] at kb;refine bt0 (fts:=[(sS "FROM",f)]) (ts:=(k0::ks).map λ k=>(sS "KEY",k,.str k)) (qs:=(k0::ks).map λ x=>(D.str x,[x])) (sS "NAME FROM KEY ..") [sS "NAME",sS "FROM"] (sS "KEY") ks.length ?_ kn (fr1 kf) (λ t ht=>?_) kb ?_ (by decide +kernel) (by decide +kernel) ?_ e5 (by decide) (by omega) (.inr ⟨?_,e3.symm⟩) ?_ (λ q hq=>?_) (by rw[bf4,e4])
 ·rcases hw with rfl | rfl <;> exact d_6 (by decide +kernel)
 ·obtain⟨k,h1,rfl⟩:=List.mem_map.mp ht
  exact .key (by kernel_rfl) (by kernel_rfl) (kk k h1)
 ·rcases hw with rfl | rfl <;> kernel_rfl
 ·rcases hw with rfl | rfl <;> decide +kernel
 ·rcases hw with rfl | rfl <;> decide +kernel
 ·rw[List.map_map];rfl
 ·obtain⟨k,h1,rfl⟩:=List.mem_map.mp hq
  exact ao8 k
theorem aG9 {nm a b:Str}{fs:List Str} (kn:Key nm) (kk:∀ k∈a::b::fs,Key k) (hl:fs.length ≤ 6) (hd:(a::b::fs).Nodup):Rd (sS "pour") nm (a::b::fs) []:=by
 have e4:((a::b::fs).map λ k=>(sS "FROM",k)).map (·.2)=a::b::fs:=by rw[List.map_map];exact List.map_id _
 have e5:([sS "NAME",sS "FROM"]++[sS "FROM"])++List.replicate fs.length (sS "FROM")=(prs nm ((a::b::fs).map λ k=>(sS "FROM",k)) []).map (·.1):=by
  have:=s_4 (sS "FROM") fs;simp only[prs,List.map_cons,List.map_map,List.map_append,List.cons_append,List.nil_append,List.map_nil,List.append_nil];rw[<- this];rfl
 have kb:=aM4 [] (a::b::fs) (by simp;omega) hd
 rw[<- e4] at kb
 have r:=bt0 (nm:=nm) (fts:=(a::b::fs).map λ k=>(sS "FROM",k)) (ts:=[]) (qs:=[]) (rest:=[]) (sS "NAME FROM FROM ..") [sS "NAME",sS "FROM"] (sS "FROM") fs.length (d_6 (by decide +kernel)) kn (λ p hp=>by
  obtain⟨k,h1,rfl⟩:=List.mem_map.mp hp;exact frK (kk k h1)) (λ t ht=>by cases ht) kb (by kernel_rfl) (by decide +kernel) (by decide +kernel) (by decide +kernel) e5 (by decide) (by omega) (.inr ⟨by decide +kernel,rfl⟩) rfl (λ q hq=>by cases hq) rfl
 rw[e4] at r;exact r
def pws (ps:List (Str×Str)):List Str:=ps.flatMap λ p=>[p.1,p.2]
theorem aq7 (a b:Str) (r:List (Str×Str)):pws ((a,b)::r)=a::b::pws r:=rfl
theorem aY8:∀ ps:List (Str×Str),evn ((pws ps).map D.str)=(ps.map (·.1)).map .str
 |[]=>rfl
 |(a,b)::r=>by
  have:=aY8 r;rw[aq7,List.map_cons,List.map_cons];unfold evn;rw[this];rfl
theorem aY7:∀ ps:List (Str×Str),zpT (evn ((pws ps).map D.str)) (evn (((pws ps).map D.str).drop 1))=ps.map λ p=>.tup [.str p.1,.str p.2]
 |[]=>rfl
 |[(a,b)]=>rfl
 |(a,b)::(c,d)::r=>by
  have ih:=aY7 ((c,d)::r);rw[aq7 a b,List.map_cons,List.map_cons,List.map_cons,<- ih];rfl
theorem aY3 {nm f a b:Str}{ps:List (Str×Str)} (kn:Key nm) (kf:Key f) (kk:∀ p∈(a,b)::ps,Key p.1 ∧ Key p.2) (hl:ps.length ≤ 3) (hd:(((a,b)::ps).map (·.1)).Nodup):Rd (sS "put") nm [f] (((a,b)::ps).map λ p=>.tup [.str p.1,.str p.2]):=by
 have kw:∀ x∈pws ((a,b)::ps),Key x:=λ x hx=>by
  obtain⟨p,h1,h2⟩:=List.mem_flatMap.mp hx
  rcases qw h2 with q | q
  ·rw[q];exact (kk p h1).1
  ·rw[List.mem_singleton.mp q];exact (kk p h1).2
 have ll:(pws ps).length=2*ps.length:=by
  clear kw kk hd hl
  induction ps with
  |nil=>rfl
  |cons p r ih=>rw[aq7,List.length_cons,List.length_cons,ih,List.length_cons];omega
 have e3:((sS "KEY",a,D.str a)::(b::pws ps).map λ k=>(sS "OTHER",k,D.str k)).map (·.2.2)=(pws ((a,b)::ps)).map D.str:=by rw[List.map_cons,List.map_map];rfl
 have e4:((sS "KEY",a,D.str a)::(b::pws ps).map λ k=>(sS "OTHER",k,D.str k)).map (·.2.1)=pws ((a,b)::ps):=by rw[List.map_cons,List.map_map];exact congrArg (a::·) (List.map_id _)
 have e5:([sS "NAME",sS "FROM",sS "KEY"]++[sS "OTHER"])++List.replicate (pws ps).length (sS "OTHER")=(prs nm [(sS "FROM",f)] ((sS "KEY",a,D.str a)::(b::pws ps).map λ k=>(sS "OTHER",k,D.str k))).map (·.1):=by
  have:=s_4 (sS "OTHER") (pws ps);simp only[prs,List.map_cons,List.map_map,List.map_append,List.cons_append,List.nil_append,List.map_nil];rw[<- this];rfl
 have kb:=bd7 ([f].map .str) ((pws ((a,b)::ps)).map D.str) _ (by rw[List.length_map,aq7,List.length_cons,List.length_cons,ll];omega) (aY8 _) (by simp;omega) hd
 rw[<- e3] at kb;refine bt0 (fts:=[(sS "FROM",f)]) (qs:=((a,b)::ps).map λ p=>(D.tup [.str p.1,.str p.2],[p.1,p.2])) (sS "NAME FROM KEY OTHER ..") [sS "NAME",sS "FROM",sS "KEY"] (sS "OTHER") (pws ps).length (d_6 (by decide +kernel)) kn (fr1 kf) (λ t ht=>?_) kb (by kernel_rfl) (by decide +kernel) (by decide +kernel) (by decide +kernel) e5 (by decide) (by omega) (.inl ⟨rfl,by rw[e3,aY7]⟩) (by rw[List.map_map];rfl) (λ q hq=>?_) (by rw[e4,List.flatMap_map];rfl)
 ·rcases qw ht with q | q
  ·rw[q];exact .key (by kernel_rfl) (by kernel_rfl) (kw a qg)
  ·obtain⟨k,h1,rfl⟩:=List.mem_map.mp q
   exact .key (by kernel_rfl) (by kernel_rfl) (kw k (qh _ h1))
 ·obtain⟨p,h1,rfl⟩:=List.mem_map.mp hq
  exact ao9 p.1 p.2
theorem c_0 {a b:Int} (h:0<b):a.fmod b=a % b:=Int.fmod_eq_emod_of_nonneg a (by omega)
theorem s_6 {a b:Int} (h:0<b):a.fdiv b=a / b:=Int.fdiv_eq_ediv_of_nonneg a (by omega)
theorem s_7 {g:D->En->Option En}{B:FS} (P:Nat->En->Prop):∀ (n k:Nat) (ρ:En),(∀ (i:Nat) ρ,k<=i->i<k+n->P i ρ->∃ ρ1 ρ2,g (.int i) ρ=some ρ1/\B ρ1=some (.nx ρ2)/\P (i+1) ρ2)->P k ρ->∃ ρ',fGo g B (r_5 k n) ρ=some (.nx ρ')/\P (k+n) ρ'
 |0,k,ρ,_,p=>⟨ρ,rfl,p⟩
 |n+1,k,ρ,h,p=>by
  obtain⟨ρ1,ρ2,h1,h2,p2⟩:=h k ρ (qj _) (by omega) p
  obtain⟨ρ',e,p'⟩:=s_7 P n (k+1) ρ2 (λ i ρ a b q=>h i ρ (by omega) (by omega) q) p2
  refine⟨ρ',?_,by rw[show k+(n+1)=k+1+n by omega];exact p'⟩
  rw[show r_5 (k:Int) (n+1)=.int k::r_5 ((k:Int)+1) n from rfl,L_7,h1,W_1,h2,G_3];exact e
theorem ak6 (xs:List Int) {i:Nat} (h:i<xs.length):atD (xs.map D.int) i=some (.int xs[i]):=by
 unfold atD dPl;rw[List.length_map,if_pos (by omega),if_pos (by omega)]
 show (xs.map D.int)[((i:Int)).toNat]?=_;rw[show ((i:Int)).toNat=i by omega,List.getElem?_map,List.getElem?_eq_getElem h]
 rfl
def Dig (xs:List Int):Prop:=∀ x∈xs,0<=x/\x<64
def dn1 (c:Int) (k:Nat):Int:=(c % 2147483647+7919*k+1)*48271 % 2147483647
def dn2 (c:Int) (k:Nat):Int:=dn1 c k*(dn1 c k / 1009+69621) % 2147483647
def dn3 (c:Int) (k:Nat):Int:=(dn2 c k+7*k)*(dn2 c k / 677+40692) % 2147483399 / 3
def PD (c n:Int) (k:Nat) (ρ:En):Prop:=∃ (xs:List Int) (r:Int) (x4 x5:Sl),ρ=[.im (.int c),.im (.int n),.ow false (.lst (xs.map .int)),.im (.int r),x4,x5]/\xs.length=k/\Dig xs
theorem W_5 {c n:Int} (k:Nat) (hk:k<1000) (ρ:En) (p:PD c n k ρ):∃ ρ1 ρ2,gN 4 (.int k) ρ=some ρ1/\e_8 ρ1=some (.nx ρ2)/\PD c n (k+1) ρ2:=by
 obtain⟨xs,r,x4,x5,rfl,hl,hd⟩:=p
 have app:∀ y:Int,Dig (xs++[y % 64]):=λ y x hx=>by
  rcases qx hx with h | h
  ·exact hd x h
  ·rw[List.mem_singleton.mp h]
   exact⟨Int.emod_nonneg _ (by decide),Int.emod_lt_of_pos _ (by decide)⟩
 have len:∀ y:Int,(xs++[y % 64]).length=k+1:=λ y=>by rw[List.length_append,hl];rfl
 have l6:xs.length<1000000:=by omega
 have f64:∀ x:Int,x.fmod 64=x % 64:=λ x=>c_0 (by decide)
 have g64:∀ x:Int,x.fdiv 64=x / 64:=λ x=>s_6 (by decide)
 have d64:i_5 64=true:=f_5 (by decide) (by decide)
 by_cases hc:c<10000000000000000000000000000000000000000\/r=0
 ·have m1:∀ x:Int,l_5 7919 x=true:=λ x=>A_6 (by decide)
  have m2:∀ x:Int,l_5 x 48271=true:=λ x=>u_1 (by decide)
  have m3:∀ x:Int,l_5 7 x=true:=λ x=>A_6 (by decide)
  have f1:∀ x:Int,x.fmod 2147483647=x % 2147483647:=λ x=>c_0 (by decide)
  have f2:∀ x:Int,x.fmod 2147483399=x % 2147483399:=λ x=>c_0 (by decide)
  have g1:∀ x:Int,x.fdiv 1009=x / 1009:=λ x=>s_6 (by decide)
  have g2:∀ x:Int,x.fdiv 677=x / 677:=λ x=>s_6 (by decide)
  have g3:∀ x:Int,x.fdiv 3=x / 3:=λ x=>s_6 (by decide)
  have d1:i_5 1009=true:=f_5 (by decide) (by decide)
  have d2:i_5 677=true:=f_5 (by decide) (by decide)
  have d3:i_5 3=true:=f_5 (by decide) (by decide)
  have b1:0<=dn1 c k/\dn1 c k<2147483647:=⟨Int.emod_nonneg _ (by decide),Int.emod_lt_of_pos _ (by decide)⟩
  have b2:0<=dn2 c k/\dn2 c k<2147483647:=⟨Int.emod_nonneg _ (by decide),Int.emod_lt_of_pos _ (by decide)⟩
  have m4:l_5 (dn1 c k) (dn1 c k / 1009+69621)=true:=A_6 (by omega)
  have m5:l_5 (dn2 c k+7*k) (dn2 c k / 677+40692)=true:=u_1 (by omega)
  have q1:(c % 2147483647+7919*k+1)*48271 % 2147483647=dn1 c k:=rfl;have q2:dn1 c k*(dn1 c k / 1009+69621) % 2147483647=dn2 c k:=rfl;have q3:(dn2 c k+7*k)*(dn2 c k / 677+40692) % 2147483399 / 3=dn3 c k:=rfl;refine⟨_,[.im (.int c),.im (.int n),.ow false (.lst ((xs++[dn3 c k % 64]).map .int)),.im (.int (r / 64)),.im (.int k),.im (.int (dn3 c k))],rfl,?_,_,_,_,_,rfl,len _,app _⟩
  have tt:tOr (tB (e2 dLt (eV 0) (e2 am3 (eC (.int 10)) (eC (.int 40))))) (tB (e2 dEq (eV 3) (eC (.int 0)))) [.im (.int c),.im (.int n),.ow false (.lst (xs.map .int)),.im (.int r),.im (.int k),.im (.int r)]=some (true,[.im (.int c),.im (.int n),.ow false (.lst (xs.map .int)),.im (.int r),.im (.int k),.im (.int r)]):=by
   by_cases h:c<10000000000000000000000000000000000000000
   ·simp[h]
   ·simp[h,hc.resolve_left h]
  simp only[e_8]
  generalize tOr (tB (e2 dLt (eV 0) (e2 am3 (eC (.int 10)) (eC (.int 40))))) (tB (e2 dEq (eV 3) (eC (.int 0))))=TT at tt ⊢
  simp[tt,m1,m2,m3,m4,m5,f1,f2,g1,g2,g3,d1,d2,d3,f64,g64,d64,l6,q1,q2,q3]
 ·have h1:¬ c<10000000000000000000000000000000000000000:=λ h=>hc (.inl h)
  have h2:¬ r=0:=λ h=>hc (.inr h)
  refine⟨_,[.im (.int c),.im (.int n),.ow false (.lst ((xs++[r % 64]).map .int)),.im (.int (r / 64)),.im (.int k),.im (.int r)],rfl,?_,_,_,_,_,rfl,len _,app _⟩;simp[e_8,h1,h2,f64,g64,d64,l6]
theorem ah9 (c:Int) (n:Nat) (hn:n<=1000):∃ xs:List Int,d_3 [.int c,.int n]=some (.lst (xs.map .int))/\xs.length=n/\Dig xs:=by
 obtain⟨ρ',e,xs,r,x4,x5,rfl,hl,hd⟩:=s_7 (g:=gN 4) (B:=e_8) (PD c n) n 0 [.im (.int c),.im (.int n),.ow false (.lst []),.im (.int c),.no,.no] (λ i ρ _ h p=>W_5 i (by omega) ρ p) ⟨[],c,_,_,rfl,rfl,λ x h=>by cases h⟩
 refine⟨xs,?_,by omega,hd⟩
 have b1:-4611686018427387904<=(n:Int):=by omega
 have b2:(n:Int)<4611686018427387904:=by omega
 have e':fGo (gN 4) e_8 (r_5 0 n) [.im (.int c),.im (.int n),.ow false (.lst []),.im (.int c),.no,.no]=_:=e;simp[d_3,r_1,b1,b2,e',List.replicate]
theorem aS3 {xs:List Int} (hd:Dig xs) {i:Int} (h0:0<=i) (h1:i<xs.length):∃ v:Int,atD (xs.map D.int) i=some (.int v)/\0<=v/\v<64:=by
 obtain⟨n,rfl⟩:=Int.eq_ofNat_of_zero_le h0;have h:n<xs.length:=by omega
 exact⟨xs[n],ak6 xs h,hd _ (List.getElem_mem h)⟩
theorem ai9 (ns:List Int) (i:Nat) (hl:ns.length<=63):∃ v:Int,b_8 [.lst (ns.map .int),.int i]=some (.int v):=by
 have lz:ns.length<=sizeLine:=a_5 (by omega)
 by_cases h:i<ns.length
 ·have e:=ak6 ns h
  have h':(i:Int)<(ns.length:Int):=by omega
  exact⟨ns[i],by simp[b_8,l_1,lz,h',h,e]⟩
 ·have h':¬ ((i:Int)<(ns.length:Int)):=by omega
  exact⟨0,by simp[b_8,l_1,lz,h',h]⟩
theorem ad4 {r M:Int} (h0:0<=r) (h:r<M) (hM:M<=1000000000000):r.natAbs<10 ^ 12:=by omega
theorem bS6 (v:Int):v % 4=0\/v % 4=1\/v % 4=2\/v % 4=3:=by omega
theorem f_0 {xs:List Int} (hl:xs.length=60) (hd:Dig xs) (a:Nat) (ha:a<=52):∃ r:Int,a_4 [.lst (xs.map .int),.int a]=some (.int r)/\r.natAbs<10 ^ 12:=by
 obtain⟨v,e,v0,v1⟩:=aS3 hd (i:=(a:Int)) (by omega) (by omega)
 have lp:∀ y:Int,∃ (z:Int) (sl:Sl),fGo (gN 3) h_6 (r_5 1 7) [.im (.lst (xs.map .int)),.im (.int a),.im (.int y),.no]=some (.nx [.im (.lst (xs.map .int)),.im (.int a),.im (.int z),sl]):=λ y=>by
  obtain⟨ρ',e,z,sl,rfl⟩:=ag9 (g:=gN 3) (B:=h_6) (λ ρ=>∃ (z:Int) (sl:Sl),ρ=[.im (.lst (xs.map .int)),.im (.int a),.im (.int z),sl]) 7 1 [.im (.lst (xs.map .int)),.im (.int a),.im (.int y),.no] (λ i ρ hi p=>by
   obtain⟨z,sl,rfl⟩:=p;obtain⟨u,e,_,_⟩:=aS3 hd (i:=(a:Int)+(1+(i:Int))) (by omega) (by omega)
   have m:l_5 z 64=true:=u_1 (by decide)
   generalize xs.map D.int=X at *
   exact⟨_,[.im (.lst X),.im (.int a),.im (.int (z*64+u)),.im (.int (1+(i:Int)))],rfl,by simp only[h_6];simp[m,e],_,_,rfl⟩) ⟨y,.no,rfl⟩
  exact⟨z,sl,e⟩
 obtain⟨z,sl,el⟩:=lp (v % 16);have f16:v.fmod 16=v % 16:=c_0 (by decide)
 have f4:v.fmod 4=v % 4:=c_0 (by decide)
 have d16:i_5 16=true:=f_5 (by decide) (by decide)
 have M:∃ m:Int,atD [.int 100,.int 1000,.int 1000000,.int 1000000000000] (v % 4)=some (.int m)/\0<m/\m<=1000000000000:=by
  have:=bS6 v
  rcases this with h | h | h | h <;> rw[h]
  ·exact⟨100,rfl,by decide,by decide⟩
  ·exact⟨1000,rfl,by decide,by decide⟩
  ·exact⟨1000000,rfl,by decide,by decide⟩
  ·exact⟨1000000000000,rfl,by decide,by decide⟩
 obtain⟨m,em,m0,m1⟩:=M;have fm:z.fmod m=z % m:=c_0 m0;have zb:(z % m).natAbs<10 ^ 12:=ad4 (Int.emod_nonneg _ (by omega)) (Int.emod_lt_of_pos _ m0) m1
 have om:i_5 m=true:=f_5 (by omega) (by omega)
 have mz:¬ (m=0):=by omega
 generalize xs.map D.int=X at *
 have tl:∀ (y:Int) (sl:Sl),y.natAbs<10 ^ 12->∃ r:Int,fnA (b_4 (sIf (tB (e2 dEq (e2 g_6 (e2 aw4 (e2 a_8 (eV 0) (eV 1)) (eC (.int 16))) (eC (.int 2))) (eC (.int 1)))) (c_9 (e2 ai5 (eC (.int 0)) (eV 2))) sN) (c_9 (eV 2)) [.im (.lst X),.im (.int a),.im (.int y),sl])=some (.int r)/\r.natAbs<10 ^ 12:=λ y sl hy=>by
  by_cases c:(v.fdiv 16).fmod 2=1
  ·exact⟨-y,by simp[e,d16,c],by omega⟩
  ·exact⟨y,by simp[e,d16,c],hy⟩
 generalize hT:b_4 (sIf (tB (e2 dEq (e2 g_6 (e2 aw4 (e2 a_8 (eV 0) (eV 1)) (eC (.int 16))) (eC (.int 2))) (eC (.int 1)))) (c_9 (e2 ai5 (eC (.int 0)) (eV 2))) sN) (c_9 (eV 2))=T at tl
 unfold a_4 r_0;rw[hT]
 by_cases c:v > 31
 ·obtain⟨r,er,hr⟩:=tl (z % m) sl zb
  exact⟨r,by simp[List.replicate,e,f16,f4,c,el,em,fm,om,mz,er],hr⟩
 ·obtain⟨r,er,hr⟩:=tl (v % 16) .no (by omega)
  exact⟨r,by simp[List.replicate,e,f16,c,er],hr⟩
structure Dgs (xs:List Int):Prop where
 len:xs.length=60
 dig:Dig xs
theorem Dgs.at {xs:List Int} (h:Dgs xs) (i:Int) (h0:0<=i) (h1:i<60):∃ v:Int,atD (xs.map D.int) i=some (.int v)/\0<=v/\v<64:=aS3 h.dig h0 (by rw[h.len];omega)
theorem Z_2 {xs:List Int} (g:Dgs xs):∃ l h:D,g_7 [.lst (xs.map .int),.int 20]=some (.tup [l,h])/\Two l h:=by
 obtain⟨x,ex,hx⟩:=f_0 g.len g.dig 20 (by decide)
 obtain⟨y,ey,hy⟩:=f_0 g.len g.dig 28 (by decide)
 obtain⟨v,ev,_,_⟩:=g.at 36 (by decide) (by decide)
 have ex:a_4 [.lst (xs.map .int),.int 20]=some (.int x):=ex;have ey:a_4 [.lst (xs.map .int),.int 28]=some (.int y):=ey
 have S:∃ a b:Int,I_3 [.lst [.int x,.int y]]=some (.lst [.int a,.int b])/\a<=b/\a.natAbs<10 ^ 12/\b.natAbs<10 ^ 12:=by
  rw[S_9]
  by_cases c:x<=y
  ·rw[if_pos c];exact⟨x,y,rfl,c,hx,hy⟩
  ·rw[if_neg c];exact⟨y,x,rfl,by omega,hy,hx⟩
 obtain⟨a,b,es,ab,ha,hb⟩:=S
 generalize xs.map D.int=X at *
 have st:g_7 [.lst X,.int 20]=fnA (b_4 (sIf (tB (e2 dEq (e2 g_6 (e2 a_8 (eV 0) (e2 f_8 (eV 1) (eC (.int 16)))) (eC (.int 4))) (eC (.int 1)))) (c_9 (g_8 (aC (eC .non) (aC (eV 4) aN)))) sN) (b_4 (sIf (tB (e2 dEq (e2 g_6 (e2 a_8 (eV 0) (e2 f_8 (eV 1) (eC (.int 16)))) (eC (.int 4))) (eC (.int 2)))) (c_9 (g_8 (aC (eV 3) (aC (eC .non) aN)))) sN) (b_4 (sIf (tB (e2 dEq (e2 g_6 (e2 a_8 (eV 0) (e2 f_8 (eV 1) (eC (.int 16)))) (eC (.int 8))) (eC (.int 3)))) (c_9 (g_8 (aC (eC .non) (aC (eC .non) aN)))) sN) (c_9 (g_8 (aC (eV 3) (aC (eV 4) aN)))))) [.im (.lst X),.im (.int 20),.im (.lst [.int a,.int b]),.im (.int a),.im (.int b)]):=by
  simp[-S_9,g_7,I_1,List.replicate,ex,ey,es,o_3,x_0]
 rw[st]
 clear st
 by_cases c1:v.fmod 4=1
 ·exact⟨.non,.int b,by simp[ev,c1],.inl rfl,.inr ⟨b,rfl,hb⟩,.inl rfl⟩
 ·by_cases c2:v.fmod 4=2
  ·exact⟨.int a,.non,by simp[ev,c2],.inr ⟨a,rfl,ha⟩,.inl rfl,.inr (.inl rfl)⟩
  ·by_cases c3:v.fmod 8=3
   ·exact⟨.non,.non,by simp[ev,c1,c2,c3],.inl rfl,.inl rfl,.inl rfl⟩
   ·exact⟨.int a,.int b,by simp[ev,c1,c2,c3],.inr ⟨a,rfl,ha⟩,.inr ⟨b,rfl,hb⟩,.inr (.inr ⟨a,b,rfl,rfl,ab⟩)⟩
def kTx (u v w:Int):Str:=ltr u++Txt.mul (ltr v) (w.fmod 8)
theorem Q_3 (u v w:Int):(kTx u v w).cps.toList=(97+(u.fmod 26).toNat)::List.replicate (w.fmod 8).toNat (97+(v.fmod 26).toNat):=by
 unfold kTx;rw[s_9];show _++(Txt.mul ⟨#[97+(v.fmod 26).toNat]⟩ (w.fmod 8)).cps.toList=_;rw[PyProof.Rows.mul_one_list];rfl
theorem fm8 (x:Int):0<=x.fmod 8/\x.fmod 8<8:=⟨Int.fmod_nonneg_of_pos _ (by decide),Int.fmod_lt_of_pos _ (by decide)⟩
theorem aM9 (u v w:Int):Key (kTx u v w):=by
 have h:=Q_3 u v w;have a:=aT4 u;have b:=aT4 v;have c:=fm8 w;have l:(kTx u v w).length=(w.fmod 8).toNat+1:=by rw[e_9,h,List.length_cons,List.length_replicate]
 refine⟨by omega,by omega,λ x hx=>?_⟩
 rw[h] at hx
 rcases qw hx with q | q
 ·omega
 ·have:=List.eq_of_mem_replicate q
  omega
def hd1 (s:Str):Nat:=s.cps.toList.headD 0
theorem bd8 (u v w:Int):hd1 (kTx u v w)=97+(u.fmod 26).toNat:=by unfold hd1;rw[Q_3];rfl
def PK (X:D) (a n d:Int) (k:Nat) (ρ:En):Prop:=∃ (ks:List Str) (s5 s6 s7:Sl),ρ=[.im X,.im (.int a),.im (.int n),.im (.str alpha),.ow false (.lst (ks.map .str)),s5,s6,s7]/\ks.length=k/\(∀ x∈ks,Key x)/\ks.map hd1=(List.range k).map λ (i:Nat)=>97+((d+7*(i:Int)).fmod 26).toNat
theorem B_2 {xs:List Int} (g:Dgs xs) (a n:Nat) (h:a+n<=56):∃ (ks:List Str) (d:Int),c_1 [.lst (xs.map .int),.int a,.int n]=some (.lst (ks.map .str))/\ks.length=n/\(∀ x∈ks,Key x)/\ks.map hd1=(List.range n).map λ (i:Nat)=>97+((d+7*(i:Int)).fmod 26).toNat:=by
 obtain⟨d,ed,_,_⟩:=g.at a (by omega) (by omega)
 have m7:∀ x:Int,l_5 7 x=true:=λ x=>A_6 (by decide)
 have turn:∀ (i:Nat) (ρ:En),i<n->PK (.lst (xs.map .int)) a n d i ρ->∃ ρ1 ρ2,gN 5 (.int i) ρ=some ρ1/\h_7 ρ1=some (.nx ρ2)/\PK (.lst (xs.map .int)) a n d (i+1) ρ2:=λ i ρ hi p=>by
  obtain⟨ks,s5,s6,s7,rfl,hl,hk,hh⟩:=p;obtain⟨v,ev,_,_⟩:=g.at ((a:Int)+1+(i:Int)) (by omega) (by omega)
  obtain⟨w,ew,_,_⟩:=g.at ((a:Int)+2+(i:Int)) (by omega) (by omega)
  have a1:=aA9 (d+7*(i:Int));have a2:=aA9 v;have k:=aM9 (d+7*(i:Int)) v w;have c:=fm8 w;have c1:w.fmod 8<=1000:=by omega
  have lk:(ltr (d+7*(i:Int))).length+(Txt.mul (ltr v) (w.fmod 8)).length<=sizeLine:=by
   have:=k.2.1;unfold kTx at this;rw[ak8] at this;exact a_5 (by omega)
  have e:ltr (d+7*(i:Int))++Txt.mul (ltr v) (w.fmod 8)=kTx (d+7*(i:Int)) v w:=rfl;have lv:(ltr v).length<=1000:=by rw[aL3];decide
  have l6:(ks.map D.str).length<1000000:=by simp;omega
  have az:alpha.length<=sizeLine:=by rw[I_6];exact a_5 (by decide)
  refine⟨_,[.im (.lst (xs.map .int)),.im (.int a),.im (.int n),.im (.str alpha),.ow false (.lst ((ks++[kTx (d+7*(i:Int)) v w]).map .str)),.im (.int i),.im (.str (ltr (d+7*(i:Int)))),.im (.str (ltr v))],rfl,?_,ks++[kTx (d+7*(i:Int)) v w],_,_,_,rfl,by simp[hl],λ x hx=>?_,?_⟩
  ·have mp:(ks++[kTx (d+7*(i:Int)) v w]).map D.str=ks.map D.str++[.str (kTx (d+7*(i:Int)) v w)]:=by simp
   rw[mp]
   generalize ks.map D.str=KS at *
   generalize xs.map D.int=X at *
   generalize kTx (d+7*(i:Int)) v w=KT at *
   simp only[h_7];simp[ed,ev,ew,a1,a2,m7,c.1,c1,lv,lk,e,l6]
  ·rcases qx hx with q | q
   ·exact hk x q
   ·rw[List.mem_singleton.mp q];exact k
  ·rw[List.map_append,hh,List.range_succ,List.map_append]
   show _++[hd1 _]=_++[_];rw[bd8]
 obtain⟨ρ',e,ks,s5,s6,s7,rfl,hl,hk,hh⟩:=s_7 (g:=gN 5) (B:=h_7) (PK (.lst (xs.map .int)) a n d) n 0 [.im (.lst (xs.map .int)),.im (.int a),.im (.int n),.im (.str alpha),.ow false (.lst []),.no,.no,.no] (λ i ρ _ hi p=>turn i ρ (by omega) p) ⟨[],_,_,_,rfl,rfl,λ x hx=>(by cases hx),rfl⟩
 rw[Nat.zero_add] at hl hh;refine⟨ks,d,?_,hl,hk,hh⟩;have b1:-4611686018427387904<=(n:Int):=by omega
 have b2:(n:Int)<4611686018427387904:=by omega
 have e':fGo (gN 5) h_7 (r_5 0 n) [.im (.lst (xs.map .int)),.im (.int a),.im (.int n),.im (.str alpha),.ow false (.lst []),.no,.no,.no]=_:=e
 generalize xs.map D.int=X at *
 generalize ks.map D.str=KS at *
 simp[c_1,y_5,b1,b2,e',List.replicate]
theorem m26 {d:Int}{i j:Nat} (hij:i<j) (hj:j<8) (q:(d+7*(i:Int)) % 26=(d+7*(j:Int)) % 26):False:=by
 obtain⟨k,rfl⟩:=Nat.exists_eq_add_of_lt hij;have h:=Int.emod_eq_emod_iff_emod_sub_eq_zero.mp q.symm;have e:d+7*((i+k+1:Nat):Int)-(d+7*(i:Int))=7*(k:Int)+7:=by omega
 rw[e] at h;have z:∀ k:Nat,k<7->(7*(k:Int)+7) % 26≠0:=by decide
 exact z k (by omega) h
theorem bc3 {ks:List Str}{d:Int}{n:Nat} (h:ks.map hd1=(List.range n).map λ (i:Nat)=>97+((d+7*(i:Int)).fmod 26).toNat) (hn:n<=8):ks.Nodup:=by
 have nd:(ks.map hd1).Nodup:=by
  rw[h];show List.Pairwise _ _;rw[List.pairwise_map];refine List.Pairwise.imp_of_mem ?_ List.pairwise_lt_range;intro i j hi hj hij q;rw[List.mem_range] at hi hj;have a:=aT4 (d+7*(i:Int));have b:=aT4 (d+7*(j:Int));refine m26 (d:=d) hij (qt hj hn) ?_;rw[<- c_0 (by decide),<- c_0 (by decide)]
  generalize (d+7*(i:Int)).fmod 26=u at *
  generalize (d+7*(j:Int)).fmod 26=v at *
  clear h hi hj hij hn
  omega
 exact List.Pairwise.of_map hd1 (λ a b h q=>h (congrArg hd1 q)) nd
def rtD:Option Res->Option D
 |some (.rt d _)=>some d
 |_=>none
@[simp] theorem bQ3 (d:D) (ρ:En):rtD (some (.rt d ρ))=some d:=Eq.trans rfl rfl
theorem aY0 {o:Option Res}{d:D} (h:rtD o=some d):∃ ρ,o=some (.rt d ρ):=by
 unfold rtD at h
 split at h
 ·cases h;exact⟨_,rfl⟩
 ·cases h
theorem f_4 {T:FT}{A R:FS}{ρ:En}{d:D} (h:T ρ=some (true,ρ)) (k:rtD (A ρ)=some d):fnA (b_4 (sIf T A sN) R ρ)=some d:=by
 obtain⟨ρ',e⟩:=aY0 k;simp[h,e]
theorem ch0 (a b:D):b_9 [a,b]=fnA (o_1 [.im a,.im b,.no,.no,.no,.no,.no]):=by kernel_rfl
theorem aw7 {xs:List Int} (g:Dgs xs):∃ l h:D,b_9 [.str (sS "in"),.lst (xs.map .int)]=some (.tup [l,h]) ∧ Two l h:=by
 obtain⟨l,h,e,t⟩:=Z_2 g;refine⟨l,h,?_,t⟩
 generalize xs.map D.int=X at *
 rw[ch0];exact f_4 (by kernel_rfl) (by simp[e])
theorem aR2 {xs:List Int} (g:Dgs xs):∃ rest,b_9 [.str (sS "span"),.lst (xs.map .int)]=some (.tup rest) ∧ ∀ nm f,Key nm → Key f → Rd (sS "span") nm [f] rest:=by
 obtain⟨l,h,e,t⟩:=Z_2 g;refine⟨[l,h],?_,λ nm f a b=>aG7 a b t⟩
 generalize xs.map D.int=X at *
 rw[ch0];exact f_4 (by kernel_rfl) (by simp[e])
theorem aR1 {xs:List Int} (g:Dgs xs):∃ rest,b_9 [.str (sS "time"),.lst (xs.map .int)]=some (.tup rest) ∧ ∀ nm f,Key nm → Key f → Rd (sS "time") nm [f] rest:=by
 obtain⟨x,ex,hx⟩:=f_0 g.len g.dig 20 (by decide)
 obtain⟨y,ey,hy⟩:=f_0 g.len g.dig 28 (by decide)
 obtain⟨v,ev,_,_⟩:=g.at 37 (by decide) (by decide)
 have ex:a_4 [.lst (xs.map .int),.int 20]=some (.int x):=ex;have ey:a_4 [.lst (xs.map .int),.int 28]=some (.int y):=ey;have d11:i_5 100000000000=true:=f_5 (by decide) (by decide)
 have fx:((x.natAbs:Int)).fmod 100000000000=(x.natAbs:Int) % 100000000000:=c_0 (by decide)
 have fy:((y.natAbs:Int)).fmod 100000000000=(y.natAbs:Int) % 100000000000:=c_0 (by decide)
 generalize hB:(x.natAbs:Int) % 100000000000=B at *
 generalize hC:(y.natAbs:Int) % 100000000000=C at *
 have hB:0<=B/\B<100000000000:=by omega
 have hC:0<=C/\C<100000000000:=by omega
 have f2:v.fmod 2=v % 2:=c_0 (by decide)
 have z:v % 2=0\/v % 2=1:=by omega
 rcases z with z | z
 ·refine⟨[.int B,.non],?_,λ nm f a b=>ab5 a b hB.1 (by omega) (.inl rfl) (.inl rfl)⟩
  generalize xs.map D.int=X at *
  rw[ch0];exact b_3 (by kernel_rfl) (f_4 (by kernel_rfl) (by simp[ex,ey,ev,d11,fx,fy,f2,z,o_3]))
 ·refine⟨[.int B,.int (B+1+C)],?_,λ nm f a b=>ab5 a b hB.1 (by omega) (.inr ⟨_,rfl,by omega⟩) (.inr ⟨_,rfl,by omega⟩)⟩
  generalize xs.map D.int=X at *
  rw[ch0];exact b_3 (by kernel_rfl) (f_4 (by kernel_rfl) (by simp[ex,ey,ev,d11,fx,fy,f2,z,x_0]))
theorem ai8 {xs:List Int} (g:Dgs xs) {w:Str} (hw:w=sS "only" ∨ w=sS "but"):∃ rest,b_9 [.str w,.lst (xs.map .int)]=some (.tup rest) ∧ ∀ nm f,Key nm → Key f → Rd w nm [f] rest:=by
 obtain⟨v,ev,v0,_⟩:=g.at 31 (by decide) (by decide)
 have f8:=fm8 v;obtain⟨n,hn⟩:∃ n:Nat,1+v.fmod 8=(n:Int):=⟨(1+v.fmod 8).toNat,by omega⟩
 obtain⟨ks,d,ek,kl,kk,kh⟩:=B_2 g 20 n (by omega)
 have nd:=bc3 kh (by omega)
 have ek:c_1 [.lst (xs.map .int),.int 20,.int n]=some (.lst (ks.map .str)):=ek;cases ks with
 |nil=>simp at kl;omega
 |cons k0 r =>
  refine⟨(k0::r).map .str,?_,λ nm f a b=>aH1 hw a b kk (by simp at kl;omega) nd⟩
  generalize (k0::r).map D.str=KS at *
  generalize xs.map D.int=X at *
  rw[ch0];exact b_3 (by rcases hw with rfl | rfl <;> kernel_rfl) (b_3 (by rcases hw with rfl | rfl <;> kernel_rfl) (f_4 (by rcases hw with rfl | rfl <;> kernel_rfl) (by simp[ev,hn,ek])))
theorem aR3 {xs:List Int} (g:Dgs xs):∃ rest,b_9 [.str (sS "rest"),.lst (xs.map .int)]=some (.tup rest) ∧ ∀ nm f,Key nm → Key f → Rd (sS "rest") nm [f] rest:=by
 obtain⟨x,ex,hx⟩:=f_0 g.len g.dig 20 (by decide)
 obtain⟨y,ey,hy⟩:=f_0 g.len g.dig 28 (by decide)
 have ex:a_4 [.lst (xs.map .int),.int 20]=some (.int x):=ex;have ey:a_4 [.lst (xs.map .int),.int 28]=some (.int y):=ey;have f9:((x.natAbs:Int)).fmod 999=(x.natAbs:Int) % 999:=c_0 (by decide)
 have d9:i_5 999=true:=f_5 (by decide) (by decide)
 generalize hB:2+(x.natAbs:Int) % 999=B at *
 have hB2:2<=B/\B<=1000:=by omega
 have fB:((y.natAbs:Int)).fmod B=(y.natAbs:Int) % B:=c_0 (by omega)
 have dB:i_5 B=true:=f_5 (by omega) (by omega)
 have nB:¬ (B=0):=by omega
 have c1:=Int.emod_nonneg (y.natAbs:Int) nB;have c2:=Int.emod_lt_of_pos (y.natAbs:Int) (show 0<B by omega)
 refine⟨[.int B,.int ((y.natAbs:Int) % B)],?_,λ nm f a b=>aG8 a b hB2.1 hB2.2 c1 c2⟩
 generalize xs.map D.int=X at *
 rw[ch0];exact b_3 (by kernel_rfl) (b_3 (by kernel_rfl) (b_3 (by kernel_rfl) (f_4 (by kernel_rfl) (by simp[ex,ey,f9,d9,hB,fB,dB,nB]))))
theorem aR0 {xs:List Int} (g:Dgs xs):∃ rest,b_9 [.str (sS "turn"),.lst (xs.map .int)]=some (.tup rest) ∧ ∀ nm f,Key nm → Key f → Rd (sS "turn") nm [f] rest:=by
 obtain⟨x,ex,hx⟩:=f_0 g.len g.dig 20 (by decide)
 obtain⟨y,ey,hy⟩:=f_0 g.len g.dig 28 (by decide)
 have ex:a_4 [.lst (xs.map .int),.int 20]=some (.int x):=ex;have ey:a_4 [.lst (xs.map .int),.int 28]=some (.int y):=ey;have f1:x.fmod 2001=x % 2001:=c_0 (by decide)
 have d1:i_5 2001=true:=f_5 (by decide) (by decide)
 by_cases z:x % 2001-1000=0
 ·refine⟨[.int 1,.int y],?_,λ nm f a b=>ab4 a b (by decide) (by decide) (by decide) hy⟩
  generalize xs.map D.int=X at *
  rw[ch0];exact b_3 (by kernel_rfl) (b_3 (by kernel_rfl) (b_3 (by kernel_rfl) (b_3 (by kernel_rfl) (f_4 (by kernel_rfl) (by simp[ex,ey,f1,d1,z,x_0])))))
 ·refine⟨[.int (x % 2001-1000),.int y],?_,λ nm f a b=>ab4 a b (by omega) (by omega) z hy⟩
  generalize hq:x % 2001-1000=q at *
  generalize xs.map D.int=X at *
  rw[ch0];exact b_3 (by kernel_rfl) (b_3 (by kernel_rfl) (b_3 (by kernel_rfl) (b_3 (by kernel_rfl) (f_4 (by kernel_rfl) (by simp[ex,ey,f1,d1,hq,z,o_3])))))
theorem aw8 {xs:List Int} (g:Dgs xs):∃ rest,b_9 [.str (sS "later"),.lst (xs.map .int)]=some (.tup rest) ∧ ∀ nm f,Key nm → Key f → Rd (sS "later") nm [f] rest:=by
 obtain⟨x,ex,hx⟩:=f_0 g.len g.dig 20 (by decide)
 have ex:a_4 [.lst (xs.map .int),.int 20]=some (.int x):=ex;refine⟨[.int (x.natAbs:Int)],?_,λ nm f a b=>aq5 a b (by omega) (by omega)⟩
 generalize xs.map D.int=X at *
 rw[ch0];exact b_3 (by kernel_rfl) (b_3 (by kernel_rfl) (b_3 (by kernel_rfl) (b_3 (by kernel_rfl) (b_3 (by kernel_rfl) (f_4 (by kernel_rfl) (by simp[ex]))))))
theorem bc9:∀ A B:List D,cGo2 tYes (g_8 (aC (eV 0) (aC (eV 1) aN))) [] (zpT A B)=some (zpT A B)
 |[],_=>rfl
 |_::_,[]=>rfl
 |a::r,b::q=>by
  have ih:=bc9 r q;have e:g_8 (aC (eV 0) (aC (eV 1) aN)) [.im a,.im b]=some (.tup [a,b],[.im a,.im b]):=by simp
  unfold zpT at ih ⊢;rw[List.zip_cons_cons,List.map_cons,l_9];show bnd (some (a,b)) _=_;rw[b_0];show bnd (some (true,_)) _=_;rw[b_0,if_pos rfl,e,b_0,ih,b_0]
theorem ay0:∀ A B:List Str,zpT (A.map D.str) (B.map D.str)=(A.zip B).map λ p=>.tup [.str p.1,.str p.2]
 |[],_=>rfl
 |_::_,[]=>rfl
 |a::r,b::q=>by
  have ih:=ay0 r q;unfold zpT at ih ⊢;rw[List.map_cons,List.map_cons,List.zip_cons_cons,List.map_cons,ih];rfl
theorem R_1 (x:D):∀ k:Nat,(List.replicate k [x]).flatten=List.replicate k x
 |0=>rfl
 |k+1=>by rw[List.replicate_succ,List.flatten_cons,R_1 x k];rfl
theorem bh8 {xs:List Int} (g:Dgs xs):∃ rest,b_9 [.str (sS "put"),.lst (xs.map .int)]=some (.tup rest) ∧ ∀ nm f,Key nm → Key f → Rd (sS "put") nm [f] rest:=by
 obtain⟨v,ev,v0,_⟩:=g.at 31 (by decide) (by decide)
 obtain⟨u,eu,u0,_⟩:=g.at 32 (by decide) (by decide)
 have f4:v.fmod 4=v % 4:=c_0 (by decide)
 have f3:u.fmod 3=u % 3:=c_0 (by decide)
 have f2:u.fmod 2=u % 2:=c_0 (by decide)
 obtain⟨n,hn⟩:∃ n:Nat,1+v % 4=(n:Int):=⟨(1+v % 4).toNat,by omega⟩
 obtain⟨ks,d,ek,kl,kk,kh⟩:=B_2 g 20 n (by omega)
 have nd:=bc3 kh (by omega)
 have ek:c_1 [.lst (xs.map .int),.int 20,.int n]=some (.lst (ks.map .str)):=ek;obtain⟨js,_,ej,jl,jk,_⟩:=B_2 g 33 1 (by decide)
 have ej:c_1 [.lst (xs.map .int),.int 33,.int 1]=some (.lst (js.map .str)):=ej
 obtain⟨j,rfl⟩:∃ j,js=[j]:=by
  cases js with
  |nil=>cases jl
  |cons a r=>cases r with
   |nil=>exact⟨a,rfl⟩
   |cons=>cases jl
 have kj:=jk j qg;have kz:Key (sS "z"):=d_6 (by decide +kernel)
 have j0:atD ([j].map D.str) 0=some (.str j):=rfl
 have O:∃ os:List Str,os.length=ks.length ∧ (∀ x∈os,Key x) ∧ sIf (tB (e2 dGt (e2 g_6 (e2 a_8 (eV 1) (eC (.int 32))) (eC (.int 3))) (eC (.int 0)))) (e_6 3 (eFr (aJ9 (aC (e2 a_8 (k_1 (aC (e2 a_8 (eF c_1 (aC (eV 1) (aC (eC (.int 33)) (aC (eC (.int 1)) aN)))) (eC (.int 0))) (aC (eC (.str "z")) aN))) (e2 g_6 (e2 a_8 (eV 1) (eC (.int 32))) (eC (.int 2)))) aN) (eF f_3 (aC (eV 2) aN))))) sN [.im (.str (sS "put")),.im (.lst (xs.map .int)),.im (.lst (ks.map .str)),.im (.lst (ks.map .str).reverse),.no,.no,.no]=some (.nx [.im (.str (sS "put")),.im (.lst (xs.map .int)),.im (.lst (ks.map .str)),.im (.lst (os.map .str)),.no,.no,.no]):=by
  by_cases c:0<u % 3
  ·have R:∃ o:Str,Key o ∧ atD [.str j,.str "z"] (u % 2)=some (.str o):=by
    have z:u % 2=0\/u % 2=1:=by omega
    rcases z with z | z <;> rw[z]
    ·exact⟨j,kj,rfl⟩
    ·exact⟨_,kz,rfl⟩
   obtain⟨o,ko,eo⟩:=R;refine⟨List.replicate ks.length o,by simp,λ x hx=>by rw[List.eq_of_mem_replicate hx];exact ko,?_⟩
   have fr:=R_1 (.str o) ks.length;have lz:ks.length<=sizeLine:=a_5 (by omega)
   have ln:(ks.map D.str).length=ks.length:=by simp
   have i1:(ks.length:Int)<=1000:=by omega
   have i2:(-1000:Int)<=(ks.length:Int):=by omega
   have mr:(List.replicate ks.length o).map D.str=List.replicate ks.length (.str o):=by simp
   rw[mr]
   generalize xs.map D.int=X at *
   generalize [j].map D.str=J at *
   generalize ks.map D.str=KS at *
   simp[eu,f3,f2,c,ej,j0,eo,ln,lz,i1,i2,fr]
  ·refine⟨ks.reverse,by simp,λ x hx=>kk x (List.mem_reverse.mp hx),?_⟩
   rw[List.map_reverse]
   generalize xs.map D.int=X at *
   generalize ks.map D.str=KS at *
   simp[eu,f3,c]
 obtain⟨os,ol,ok,eo⟩:=O;have kz:=bc9 (ks.map .str) (os.map .str);have lz:ks.length<=sizeLine:=a_5 (by omega)
 refine⟨zpT (ks.map .str) (os.map .str),?_,λ nm f a b=>?_⟩
 ·have ln:(ks.map D.str).length=ks.length:=by simp
  generalize hF:sIf (tB (e2 dGt (e2 g_6 (e2 a_8 (eV 1) (eC (.int 32))) (eC (.int 3))) (eC (.int 0)))) (e_6 3 (eFr (aJ9 (aC (e2 a_8 (k_1 (aC (e2 a_8 (eF c_1 (aC (eV 1) (aC (eC (.int 33)) (aC (eC (.int 1)) aN)))) (eC (.int 0))) (aC (eC (.str "z")) aN))) (e2 g_6 (e2 a_8 (eV 1) (eC (.int 32))) (eC (.int 2)))) aN) (eF f_3 (aC (eV 2) aN))))) sN=FI at eo
  generalize xs.map D.int=X at *
  generalize ks.map D.str=KS at *
  generalize os.map D.str=OS at *
  rw[ch0];unfold o_1;rw[hF];refine b_3 (by kernel_rfl) (b_3 (by kernel_rfl) (b_3 (by kernel_rfl) (b_3 (by kernel_rfl) (b_3 (by kernel_rfl) (b_3 (by kernel_rfl) ?_)))))
  simp[ev,f4,hn,ek,eo,kz,ln,lz]
 ·rw[ay0]
  cases ks with
  |nil=>simp at kl;omega
  |cons k0 r =>
   cases os with
   |nil=>cases ol
   |cons o0 q =>
    have ql:q.length=r.length:=by simpa using ol
    refine aY3 (ps:=r.zip q) a b (λ p hp=>?_) ?_ ?_
    ·have:=List.of_mem_zip (l₁:=k0::r) (l₂:=o0::q) hp
     exact⟨kk _ this.1,ok _ this.2⟩
    ·rw[List.length_zip];simp at kl;omega
    ·have e:((k0,o0)::r.zip q).map (·.1)=k0::r:=by rw[List.map_cons,List.map_fst_zip (by omega)]
     rw[e];exact nd
structure FW (w:Str):Prop where
 fp:d_5 (.str w) FP=some (.bl true)
 key:Key w
theorem av1:FW (sS "count"):=⟨by kernel_rfl,d_6 (by decide +kernel)⟩
theorem aN9:FW (sS "most"):=⟨by kernel_rfl,d_6 (by decide +kernel)⟩
theorem av0:FW (sS "least"):=⟨by kernel_rfl,d_6 (by decide +kernel)⟩
theorem bf0:FW (sS "sum"):=⟨by kernel_rfl,d_6 (by decide +kernel)⟩
theorem aV8 {x:Nat}{W:Int} (h:1+(x:Int) % 10000000000=W):1<=W/\W<=10000000000:=by omega
theorem aV7 {W:Int} (h:1<=W/\W<=10000000000):W.natAbs<10 ^ 12:=by omega
theorem J_5 {W A:Int} (h:1<=W/\W<=10000000000) (k:0<=A/\A<=18*W):W<W+1+A/\W+1+A<=20*W/\(W+1+A).natAbs<10 ^ 12:=by omega
theorem aO1 {xs:List Int} (g:Dgs xs) (sm:Bool) {w:Str} (hw:w=sS "fixed" ∨ w=sS "slide" ∨ w=sS "gaps" ∨ w=sS "ever"):∃ (pre:List D) (fw:Str),g_5 [.str w,.lst (xs.map .int),.bl sm]=some (.tup (pre++[.str fw])) ∧ (∀ nm f,Key nm → Key f → Rd w nm [f] (pre++[.str fw])) ∧ FW fw ∧ (sm=false → ¬ (fw=sS "sum")):=by
 obtain⟨x,ex,hx⟩:=f_0 g.len g.dig 20 (by decide)
 have ex:a_4 [.lst (xs.map .int),.int 20]=some (.int x):=ex;obtain⟨v,ev,v0,_⟩:=g.at 40 (by decide) (by decide)
 obtain⟨c,ec,c0,_⟩:=g.at 41 (by decide) (by decide)
 have fx:((x.natAbs:Int)).fmod 10000000000=(x.natAbs:Int) % 10000000000:=c_0 (by decide)
 have fc:c.fmod 19=c % 19:=c_0 (by decide)
 have d10:i_5 10000000000=true:=f_5 (by decide) (by decide)
 generalize hW:1+(x.natAbs:Int) % 10000000000=W at *
 have hW':=aV8 hW;have nW:=aV7 hW';have cW:0<=c % 19*W/\c % 19*W<=18*W:=⟨Int.mul_nonneg (Int.emod_nonneg _ (by decide)) (Int.le_trans (by decide) hW'.1),Int.mul_le_mul_of_nonneg_right (Int.le_of_lt_add_one (Int.emod_lt_of_pos c (by decide))) (Int.le_trans (by decide) hW'.1)⟩
 have mW:l_5 (c % 19) W=true:=u_1 (Nat.lt_trans nW (by decide))
 generalize hA:c % 19*W=A at *
 have F:∃ fw:Str,FW fw ∧ (sm=false → ¬ (fw=sS "sum")) ∧ e2 a_8 (k_1 (aC (eC (.str "count")) (aC (eC (.str "most")) (aC (eC (.str "least")) (aC (eC (.str "sum")) aN))))) (e2 g_6 (e2 a_8 (eV 1) (eC (.int 40))) (e2 f_8 (eC (.int 3)) (eF am7 (aC (eV 2) aN)))) [.im (.str w),.im (.lst (xs.map .int)),.im (.bl sm),.no,.no]=some (.str fw,[.im (.str w),.im (.lst (xs.map .int)),.im (.bl sm),.no,.no]):=by
  have I:∃ m:Int,3+(if sm=true then 1 else 0:Int)=m/\(m=3\/m=4)/\(sm=false->m=3):=by cases sm <;> exact⟨_,rfl,by decide,by decide⟩
  obtain⟨m,em,m1,m2⟩:=I;have fm:v.fmod m=v % m:=c_0 (by omega)
  have dm:i_5 m=true:=f_5 (by omega) (by omega)
  have nm:¬ (m=0):=by omega
  have z:v % m=0\/v % m=1\/v % m=2\/(v % m=3/\m=4):=by
   rcases m1 with h | h <;> subst h <;> omega
  have R:∃ fw:Str,FW fw ∧ (sm=false → ¬ (fw=sS "sum")) ∧ atD [.str "count",.str "most",.str "least",.str "sum"] (v % m)=some (.str fw):=by
   rcases z with z | z | z | ⟨z,z4⟩ <;> rw[z]
   ·exact⟨_,av1,λ _=>by decide +kernel,rfl⟩
   ·exact⟨_,aN9,λ _=>by decide +kernel,rfl⟩
   ·exact⟨_,av0,λ _=>by decide +kernel,rfl⟩
   ·exact⟨_,bf0,λ h=>absurd (m2 h) (by omega),rfl⟩
  obtain⟨fw,r1,r2,r3⟩:=R;refine⟨fw,r1,r2,?_⟩
  generalize xs.map D.int=X at *
  simp[ev,em,fm,dm,nm,r3]
 obtain⟨fw,f1,f2,ef⟩:=F
 generalize hE:e2 a_8 (k_1 (aC (eC (.str "count")) (aC (eC (.str "most")) (aC (eC (.str "least")) (aC (eC (.str "sum")) aN))))) (e2 g_6 (e2 a_8 (eV 1) (eC (.int 40))) (e2 f_8 (eC (.int 3)) (eF am7 (aC (eV 2) aN))))=EE at ef
 have st:g_5 [.str w,.lst (xs.map .int),.bl sm]=fnA (b_4 (sIf (tB (e2 dEq (eV 0) (eC (.str "ever")))) (c_9 (g_8 (aC (eV 3) aN))) sN) (b_4 (sIf (tB (e2 dEq (eV 0) (eC (.str "slide")))) (c_9 (g_8 (aC (e2 f_8 (e2 f_8 (eV 4) (eC (.int 1))) (e2 X_9 (e2 g_6 (e2 a_8 (eV 1) (eC (.int 41))) (eC (.int 19))) (eV 4))) (aC (eV 4) (aC (eV 3) aN))))) sN) (c_9 (g_8 (aC (eV 4) (aC (eV 3) aN))))) [.im (.str w),.im (.lst (xs.map .int)),.im (.bl sm),.im (.str fw),.im (.int W)]):=by
  generalize xs.map D.int=X at *
  unfold g_5 y_6;rw[hE];simp[List.replicate,ef,ex,fx,d10,hW]
 generalize xs.map D.int=X at *
 rw[st]
 rcases hw with rfl | rfl | rfl | rfl
 ·exact⟨[.int W],fw,b_3 (by kernel_rfl) (b_3 (by kernel_rfl) (by kernel_rfl)),λ nm f a b=>aq6 a b hW'.1 nW f1.fp f1.key,f1,f2⟩
 ·refine⟨[.int (W+1+A),.int W],fw,b_3 (by kernel_rfl) (f_4 (by kernel_rfl) ?_),λ nm f a b=>aq4 a b hW'.1 (J_5 hW' cW).1 (J_5 hW' cW).2.1 (J_5 hW' cW).2.2 f1.fp f1.key,f1,f2⟩
  simp[ec,fc,hA,mW]
 ·exact⟨[.int W],fw,b_3 (by kernel_rfl) (b_3 (by kernel_rfl) (by kernel_rfl)),λ nm f a b=>aH2 a b hW'.1 nW f1.fp f1.key,f1,f2⟩
 ·exact⟨[],fw,f_4 (by kernel_rfl) (by kernel_rfl),λ nm f a b=>aH3 a b f1.fp f1.key,f1,f2⟩
structure Rw where
 w:Str
 nm:Str
 fr:List Str
 rs:List D
abbrev Rw.d (r:Rw):D:=aG4 r.w r.nm r.fr r.rs
abbrev rds (A:List Rw):List D:=A.map Rw.d
abbrev nms (A:List Rw):List Str:=A.map Rw.nm
abbrev kds (A:List Rw):List (Str×D):=A.map λ r=>(r.nm,r.d)
abbrev dcA (A:List Rw):D:=.dct ((kds A).map (·.1)) ((kds A).map (·.2))
theorem bS3 (x:Str):[x].Nodup:=List.nodup_cons.mpr ⟨List.not_mem_nil,List.nodup_nil⟩
theorem K_8 (A B:List Rw):nms (A++B)=nms A++nms B:=List.map_append
theorem O_6 (r:Rw) (A:List Rw):rds (r::A)=r.d::rds A:=rfl
theorem aG6 (A B:List Rw):rds (A++B)=rds A++rds B:=List.map_append
theorem aK3 (A:List Rw):nms A.reverse=(nms A).reverse:=List.map_reverse
theorem ab3 (A:List Rw):(rds A).length=A.length:=List.length_map ..
theorem J_0:∀ l:List (Str×D),(l.map (·.1)).zip (l.map (·.2))=l
 |[]=>rfl
 |a::r=>by rw[List.map_cons,List.map_cons,List.zip_cons_cons,J_0 r]
theorem bh1 (A:List Rw) (k:Str):aw5 (.str k) (dcA A)=some (.bl (l_6 k (kds A)).isSome):=by
 rw[bA5,J_0]
theorem bJ5 (A:List Rw) (k:Str):dDx (dcA A) (.str k)=l_6 k (kds A):=by
 rw[bA4,J_0]
theorem L_5 {k:Str}:∀ {A:List Rw},k∉nms A->l_6 k (kds A)=none
 |[],_=>rfl
 |r::q,h=>(if_neg λ e:r.nm=k=>h (by rw[<- e];exact qg)).trans (L_5 (A:=q) λ z=>h (qh _ z))
theorem p_9 {r:Rw}:∀ {A:List Rw},(nms A).Nodup->r∈A->l_6 r.nm (kds A)=some r.d
 |a::q,nd,h=>by
  have n1:=List.nodup_cons.mp nd
  rcases qw h with e | e
  ·subst e;exact if_pos rfl
  ·exact (if_neg λ z:a.nm=r.nm=>n1.1 (by rw[z];exact List.mem_map_of_mem e)).trans (p_9 n1.2 e)
abbrev CHs:List Str:=[sS "in",sS "time",sS "only",sS "but",sS "span",sS "rest",sS "turn",sS "later",sS "put",sS "pour"]
abbrev FOs:List Str:=[sS "fixed",sS "slide",sS "gaps",sS "ever"]
def aB6 (w:Str):Bool:=inD (.str w) (CHs.map .str)
def af3 (w:Str):Bool:=inD (.str w) (FOs.map .str)
def al9 (w:Str):Bool:=inD (.str w) [.str (sS "fixed"),.str (sS "slide"),.str (sS "ever")]
abbrev CHt:List D:=[.str "in",.str "time",.str "only",.str "but",.str "span",.str "rest",.str "turn",.str "later",.str "put",.str "pour"]
abbrev FOt:List D:=[.str "fixed",.str "slide",.str "gaps",.str "ever"]
abbrev FEt:List D:=[.str "fixed",.str "slide",.str "ever"]
theorem bx8 {w u:Str} (h:al9 w=true) (hu:al9 u=false):¬ (w=u):=λ e=>by rw[e,hu] at h;cases h
theorem bl0 {w:Str} (h:af3 w=false) {P:Prop}:af3 w=true->P:=λ k=>by rw[h] at k;cases k
theorem bA7 {w u:Str} (h:aB6 w=true) (hu:aB6 u=false):¬ (w=u):=λ e=>by rw[e,hu] at h;cases h
theorem am1 {F:FE}{R:FS}{i:Nat}{ρ:En}{d:D}{x:Option D} (h:F ρ=some (d,ρ)) (k:fnA (R (ρ.set i (.im d)))=x):fnA (b_4 (e_6 i F) R ρ)=x:=by
 simp[h,k]
theorem q_3 {T:FT}{F:FE}{fr:En}{α:Type}{g:α->D}{p:α->Bool}{v:α->D}:∀ A:List α,(∀ r∈A,T (.im (g r)::fr)=some (p r,.im (g r)::fr))->(∀ r∈A,p r=true->F (.im (g r)::fr)=some (v r,.im (g r)::fr))->cGo T F fr (A.map g)=some ((A.filter p).map v)
 |[],_,_=>rfl
 |r::q,hT,hF=>by
  have ih:=q_3 q (λ x hx=>hT x (qh _ hx)) λ x hx=>hF x (qh _ hx)
  rw[List.map_cons,aR7,hT r List.mem_cons_self];cases e:p r with
  |false=>rw[bA8,ih,List.filter_cons_of_neg (by rw[e];decide)]
  |true=>rw[aR9,hF r List.mem_cons_self e,aR8,ih,G_8,List.filter_cons_of_pos e];rfl
theorem v_4 {F:FE}{fr:En}{α:Type}{g:α->D}{v:α->D} (A:List α) (hF:∀ r∈A,F (.im (g r)::fr)=some (v r,.im (g r)::fr)):cGo tYes F fr (A.map g)=some (A.map v):=by
 have e:=q_3 (T:=tYes) (p:=λ _=>true) A (λ r _=>rfl) λ r hr _=>hF r hr
 rw[e,List.filter_eq_self.mpr λ _ _=>rfl]
def bD2:FS:=(b_4 (sIf (tB (e2 dEq (e2 a_8 (eV 0) (eC (.int 0))) (eC (.str "ask"))))
 (c_9 (W_4 (e2 d_5 (e2 a_8 (e2 a_8 (eV 2) (eC (.int 0))) (eC (.int 0))) (eC (.tup [(.str "fixed"),(.str "slide"),(.str "gaps"),(.str "ever")]))) (eOr (W_3 (e2 a_8 (eV 0) (eC (.int 3)))) (eF e_0 (aC (e2 a_8 (eV 2) (eC (.int 0))) (aC (eV 1) (aC (e2 a_8 (e2 a_8 (eV 0) (eC (.int 3))) (eC (.int 0))) aN)))))))
 sN)
 (b_4 (sIf (tAnd (tB (e2 d_5 (e2 a_8 (eV 0) (eC (.int 0))) (g_8 (aC (eC (.str "fixed")) (aC (eC (.str "slide")) (aC (eC (.str "ever")) aN)))))) (tB (e2 dEq (e2 a_8 (e2 a_8 (eV 2) (eC (.int 0))) (eC (.int 0))) (eC (.str "pair")))))
 (c_9 (e2 dNe (e2 a_8 (e2 a_8 (eV 0) (eC (.int 3))) (e1 am4 (eC (.int 1)))) (eC (.str "sum"))))
 sN)
 (c_9 (eF I_4 (aC (eLC [] (eV 2) tYes (e2 d_5 (e2 a_8 (eV 0) (eC (.int 0))) (eC (.tup [(.str "in"),(.str "time"),(.str "only"),(.str "but"),(.str "span"),(.str "rest"),(.str "turn"),(.str "later"),(.str "put"),(.str "pour")])))) aN)))))
theorem aa1 {A Rs:List Rw}{r:Rw} (nd:(nms A).Nodup) (hn:r.nm∉nms A) (hr:∀ q∈Rs,q∈A) (hf:r.fr=nms Rs) (hl:Rs.length<=1000):b_6 [r.d,dcA A]=fnA (bD2 [.im r.d,.im (dcA A),.im (.lst (rds Rs))]):=by
 have d0:aw5 (.str r.nm) (dcA A)=some (.bl false):=by rw[bh1,L_5 hn];rfl
 have c1:cGo tYes (e2 aw5 (eV 0) (eV 1)) [.im (dcA A)] (Rs.map λ q=>.str q.nm)=some (Rs.map λ _=>.bl true):=v_4 Rs λ q hq=>by
  have e:aw5 (.str q.nm) (dcA A)=some (.bl true):=by rw[bh1,p_9 nd (hr q hq)];rfl
  simp[e]
 have c2:cGo tYes (e2 dDx (eV 1) (eV 0)) [.im (dcA A)] (Rs.map λ q=>.str q.nm)=some (rds Rs):=v_4 Rs λ q hq=>by
  have e:dDx (dcA A) (.str q.nm)=some q.d:=by rw[bJ5,p_9 nd (hr q hq)]
  simp[e]
 have al:=C_5 Rs;have lz:(Rs.map λ q=>D.str q.nm).length<=sizeLine:=a_5 (by simpa using hl)
 have i2:a_8 r.d (.int 2)=some (.tup (Rs.map λ q=>.str q.nm)):=by
  show some (D.tup (r.fr.map .str))=_;rw[hf,List.map_map];rfl
 have i1:a_8 r.d (.int 1)=some (.str r.nm):=rfl
 generalize hB:(Rs.map λ _=>D.bl true)=B at *
 generalize (Rs.map λ q=>D.str q.nm)=F at *
 generalize hR:rds Rs=R at *
 generalize r.d=rd at *
 generalize dcA A=dA at *
 show fnA (b_4 _ (b_4 (e_6 2 _) bD2) [.im rd,.im dA,.no])=_;refine b_3 ?_ (am1 ?_ rfl)
 ·simp[i1,i2,d0,c1,al,lz]
 ·simp[i2,c2,lz]
theorem al1 (r:Rw):a_8 r.d (.int 0)=some (.str r.w):=rfl
theorem aG2 (r:Rw):a_8 r.d (.int 1)=some (.str r.nm):=rfl
theorem bs5 (r:Rw):a_8 r.d (.int 2)=some (.tup (r.fr.map .str)):=rfl
theorem aX8 (r:Rw):a_8 r.d (.int 3)=some (.tup r.rs):=rfl
theorem ae6 (pre:List D) (x:D):atD (pre++[x]) (-1)=some x:=by
 have l:(pre++[x]).length=pre.length+1:=by simp
 unfold atD dPl;rw[if_neg (by decide),l,if_pos (by omega)]
 show (pre++[x])[(-1+((pre.length+1:Nat):Int)).toNat]?=_;rw[show (-1+((pre.length+1:Nat):Int)).toNat=pre.length by omega]
 simp
theorem bx1 (w:Str):d_5 (.str w) (.tup CHt)=some (.bl (aB6 w)):=by kernel_rfl
theorem bx0 (w:Str):d_5 (.str w) (.tup FOt)=some (.bl (af3 w)):=by kernel_rfl
theorem be4 (w:Str):d_5 (.str w) (.tup FEt)=some (.bl (al9 w)):=by kernel_rfl
theorem ao6 {A Rs:List Rw}{r:Rw} (nd:(nms A).Nodup) (hn:r.nm∉nms A) (hr:∀ q∈Rs,q∈A) (hf:r.fr=nms Rs) (hl:Rs.length ≤ 1000) (hc:∀ q∈Rs,aB6 q.w=true) (ha:¬ (r.w=sS "ask")) (hw:al9 r.w=false ∨ ∃ q l,Rs=q::l):b_6 [r.d,dcA A]=some (.bl true):=by
 rw[aa1 nd hn hr hf hl]
 have c:cGo tYes (e2 d_5 (e2 a_8 (eV 0) (eC (.int 0))) (eC (.tup CHt))) [] (rds Rs)=some (Rs.map λ _=>.bl true):=v_4 Rs λ q hq=>by
  have i:=bx1 q.w;rw[hc q hq] at i;have j:=al1 q
  generalize q.d=qd at *
  simp[-j_4,i,j]
 have al:=C_5 Rs;have lz:(rds Rs).length<=sizeLine:=a_5 (by simpa using hl)
 have i0:=al1 r;have f:=be4 r.w
 have T:al9 r.w=false ∨ (al9 r.w=true ∧ ∃ (qd:D) (u:Str),atD (rds Rs) 0=some qd ∧ a_8 qd (.int 0)=some (.str u) ∧ ¬ (u=sS "pair")):=by
  rcases hw with h | ⟨q,l,rfl⟩
  ·exact .inl h
  ·cases h:al9 r.w with
   |false=>exact .inl rfl
   |true=>exact .inr ⟨rfl,q.d,q.w,ax6 _ _,al1 q,bA7 (hc q qg) (by kernel_rfl)⟩
 generalize (Rs.map λ _=>D.bl true)=B at *
 generalize rds Rs=R at *
 generalize r.d=rd at *
 generalize dcA A=dA at *
 refine b_3 (by simp[i0,ha]) (b_3 ?_ (by simp[c,al,lz]))
 rcases T with h | ⟨h,qd,u,e1,e2,e3⟩
 ·rw[h] at f
  simp[-j_4,i0,f]
 ·rw[h] at f
  simp[-j_4,i0,f,e1,e2,e3]
theorem bp7 {A:List Rw}{r p:Rw}{pre:List D}{fw:Str} (nd:(nms A).Nodup) (hn:r.nm∉nms A) (hp:p∈A) (hf:r.fr=[p.nm]) (hw:al9 r.w=true) (h2:p.w=sS "pair") (h3:r.rs=pre++[.str fw]) (h4:¬ (fw=sS "sum")):b_6 [r.d,dcA A]=some (.bl true):=by
 have ha:¬ (r.w=sS "ask"):=bx8 hw (by kernel_rfl)
 rw[aa1 (Rs:=[p]) nd hn (by simpa using hp) hf (qr rfl)]
 have i0:=al1 r;have i3:=aX8 r;rw[h3] at i3;have l:=ae6 pre (.str fw);have f:=be4 r.w;rw[hw] at f;have j0:=al1 p;rw[h2] at j0;have a0:atD (rds [p]) 0=some p.d:=rfl
 generalize pre++[.str fw]=P at *
 generalize rds [p]=R at *
 generalize p.d=pd at *
 generalize r.d=rd at *
 generalize dcA A=dA at *
 refine b_3 (by simp[i0,ha]) (f_4 (by simp[-j_4,i0,f,a0,j0]) (by simp[i3,l,h4]))
theorem ax3 {A:List Rw}{f g:Rw}{pre:List D}{fw:Str}{l:D} (nd:(nms A).Nodup) (hg:g∈A) (h1:¬ (f.w=sS "gaps")) (h2:f.fr=[g.nm]) (h3:f.rs=pre++[.str fw]) (h4:¬ (fw=sS "sum")) (h5:¬ (g.w=sS "pair")) (h6:fw=sS "count" → ∃ n:Int,l=.int n ∧ 1 ≤ n ∧ n ≤ 50):e_0 [f.d,dcA A,l]=some (.bl true):=by
 have i0:=al1 f;have i2:=bs5 f;rw[h2] at i2;have i3:=aX8 f;rw[h3] at i3;have la:=ae6 pre (.str fw);have j0:=al1 g;have a0:atD ([g.nm].map D.str) 0=some (.str g.nm):=rfl;have dx:dDx (dcA A) (.str g.nm)=some g.d:=by rw[bJ5,p_9 nd hg]
 generalize pre++[.str fw]=P at *
 generalize [g.nm].map D.str=G at *
 generalize g.d=gd at *
 generalize f.d=fd at *
 generalize dcA A=dA at *
 show fnA (b_4 (e_6 3 _) (b_4 (sIf _ _ _) _) [.im fd,.im dA,.im l,.no])=_;refine am1 (d:=.str fw) (by simp[i3,la]) (b_3 (by simp[i0,h1,h4,i2,a0,dx,j0,h5]) ?_)
 by_cases c:fw=sS "count"
 ·obtain⟨n,rfl,n1,n2⟩:=h6 c
  simp[c,n1,n2]
 ·simp[c]
theorem aW4 {A:List Rw}{r f:Rw} (nd:(nms A).Nodup) (hn:r.nm∉nms A) (hp:f∈A) (hf:r.fr=[f.nm]) (hw:r.w=sS "ask") (h2:af3 f.w=true) (h3:r.rs=[] ∨ ∃ l h:D,r.rs=[l,h] ∧ e_0 [f.d,dcA A,l]=some (.bl true)):b_6 [r.d,dcA A]=some (.bl true):=by
 rw[aa1 (Rs:=[f]) nd hn (by simpa using hp) hf (qr rfl)]
 have i0:=al1 r;rw[hw] at i0;have i3:=aX8 r;have fo:=bx0 f.w;rw[h2] at fo;have j0:=al1 f;have a0:atD (rds [f]) 0=some f.d:=rfl
 generalize rds [f]=R at *
 generalize f.d=fd at *
 generalize r.d=rd at *
 generalize dcA A=dA at *
 refine f_4 (by simp[i0]) ?_
 rcases h3 with h | ⟨l,h,e,b⟩
 ·rw[h] at i3
  simp[-j_4,a0,j0,fo,i3]
 ·rw[e] at i3
  simp[-j_4,a0,j0,fo,i3,b,o_3]
structure RowOk (P:List Rw) (r:Rw):Prop where
 rd:Rd r.w r.nm r.fr r.rs
 key:Key r.nm
 nn:r.nm∉nms P
 fo:af3 r.w=true->∃ (f:Str) (pre:List D) (fw:Str),r.fr=[f]/\r.rs=pre++[.str fw]
 fr:∀ f∈r.fr,f∈nms P
 frl:r.fr.length<=8
 st:b_6 [r.d,dcA P]=some (.bl true)
def aD1:List Rw->List Rw->Prop
 |_,[]=>True
 |P,r::q=>RowOk P r/\aD1 (P++[r]) q
theorem pas (P:List Rw) (a:Rw) (q:List Rw):P++[a]++q=P++a::q:=by rw[List.append_assoc];rfl
theorem G_1:∀ {A P:List Rw}{r:Rw},aD1 P A->RowOk (P++A) r->aD1 P (A++[r])
 |[],P,r,_,h=>⟨by rw[List.append_nil] at h;exact h,trivial⟩
 |a::q,P,r,g,h=>⟨g.1,G_1 g.2 (by rw[pas];exact h)⟩
theorem s_5:∀ {A P:List Rw}{r:Rw},aD1 P A->r∈A->∃ Q,RowOk Q r/\∀ x∈nms Q,x∈nms (P++A)
 |a::q,P,r,g,h=>by
  rcases qw h with e | e
  ·subst e
   exact⟨P,g.1,λ x hx=>by rw[K_8];exact List.mem_append_left _ hx⟩
  ·have:=s_5 g.2 e
   rw[pas] at this;exact this
theorem ag0:∀ {A P:List Rw},(nms P).Nodup->aD1 P A->(nms (P++A)).Nodup
 |[],P,n,_=>by rw[List.append_nil];exact n
 |a::q,P,n,g=>by
  have h:(nms (P++[a])).Nodup:=by
   rw[K_8];refine List.nodup_append.mpr ⟨n,bS3 _,λ x hx y hy e=>?_⟩
   rw[List.mem_singleton.mp hy] at e;exact g.1.nn (by rw[<- e];exact hx)
  have:=ag0 h g.2;rw[pas] at this;exact this
theorem K_9:∀ {l:List D},(∀ d∈l,nl d=true/\nd d=true)->nls l=true/\nds l=true
 |[],_=>⟨rfl,rfl⟩
 |a::r,h=>by
  have h1:=h a qg;have h2:=K_9 λ d hd=>h d (qh _ hd)
  show (nl a&&nls r)=true/\(nd a&&nds r)=true;rw[h1.1,h1.2,h2.1,h2.2];exact⟨rfl,rfl⟩
theorem aA5:∀ {l:List D},(∀ d∈l,nd d=true)->nds l=true
 |[],_=>rfl
 |a::r,h=>by
  show (nd a&&nds r)=true;rw[h a List.mem_cons_self,aA5 λ d hd=>h d (List.mem_cons_of_mem _ hd)];rfl
theorem y_2 {m:Nat}:∀ {l:List D},(∀ d∈l,dpD d<=m)->w_6 l<=m
 |[],_=>Nat.zero_le _
 |a::r,h=>Nat.max_le.mpr ⟨h a qg,y_2 λ d hd=>h d (qh _ hd)⟩
theorem D_5 {r:Rw} (h:∀ d∈r.rs,Pl 1 d):Pl 3 r.d:=by
 have a:=K_9 λ d hd=>⟨(h d hd).1,(h d hd).2.1⟩
 have s:∀ d∈r.fr.map D.str,Pl 0 d:=λ d hd=>by
  obtain⟨x,_,rfl⟩:=List.mem_map.mp hd;exact⟨rfl,rfl,qj _⟩
 have b:=K_9 λ d hd=>⟨(s d hd).1,(s d hd).2.1⟩
 have c:=y_2 λ d hd=>(h d hd).2.2
 have e:=y_2 λ d hd=>(s d hd).2.2
 show (nls (r.fr.map .str)&&(nls r.rs&&true))=true/\(nds (r.fr.map .str)&&(nds r.rs&&true))=true/\max 0 (max 0 (max (w_6 (r.fr.map .str)+1) (max (w_6 r.rs+1) 0)))+1<=3;rw[a.1,a.2,b.1,b.2];exact⟨rfl,rfl,Nat.succ_le_succ (Nat.max_le.mpr ⟨Nat.zero_le _,Nat.max_le.mpr ⟨Nat.zero_le _,Nat.max_le.mpr ⟨Nat.succ_le_succ (Nat.le_trans e (Nat.zero_le 1)),Nat.max_le.mpr ⟨Nat.succ_le_succ c,Nat.zero_le _⟩⟩⟩⟩)⟩
theorem bg7 (A:List Str):dpD (.lst (A.map .str))<=30:=by
 have:=y_2 (m:=0) (l:=A.map D.str) λ d hd=>by
  obtain⟨x,_,rfl⟩:=List.mem_map.mp hd;exact qj _
 show w_6 _+1<=30;omega
theorem F_0 {A:List Rw}{f:Str} (h:f∈nms A):∃ r∈A,r.nm=f:=by
 obtain⟨r,h1,h2⟩:=List.mem_map.mp h;exact⟨r,h1,h2⟩
theorem as0 (a b c:D):g_4 [a,b,c]=fnA (o_2 [.im a,.im b,.im c,.no,.no]):=by kernel_rfl
theorem ax7 {xs:List Int} (g:Dgs xs) {A:List Rw} (nd:(nms A).Nodup) {f rg:Rw}{pre:List D}{fw:Str} (hg:rg∈A) (h2:f.fr=[rg.nm]) (h3:f.rs=pre++[.str fw]) (hl:A.length ≤ 1000):∃ rest,g_4 [f.d,.lst (rds A),.lst (xs.map .int)]=some (.tup rest) ∧ (rest=[] ∨ ∃ l h:D,rest=[l,h] ∧ Two l h ∧ ¬ (f.w=sS "gaps") ∧ ¬ (fw=sS "sum") ∧ ¬ (rg.w=sS "pair") ∧ (fw=sS "count" → ∃ n:Int,l=.int n ∧ 1 ≤ n ∧ n ≤ 50)):=by
 obtain⟨v,ev,_,_⟩:=g.at 42 (by decide) (by decide)
 obtain⟨a,ea,a0,_⟩:=g.at 43 (by decide) (by decide)
 obtain⟨b,eb,b0,b1⟩:=g.at 44 (by decide) (by decide)
 obtain⟨c,ec,c0,_⟩:=g.at 45 (by decide) (by decide)
 obtain⟨l,h,et,t⟩:=Z_2 g;have i0:=al1 f;have i2:=bs5 f;rw[h2] at i2;have i3:=aX8 f;rw[h3] at i3;have la:=ae6 pre (.str fw);have j0:atD ([rg.nm].map D.str) 0=some (.str rg.nm):=rfl
 have lc:cGo (tB (e2 dEq (e2 a_8 (eV 0) (eC (.int 1))) (e2 a_8 (e2 a_8 (eV 1) (eC (.int 2))) (eC (.int 0))))) (eV 0) [.im f.d] (rds A)=some ((A.filter λ r=>decide (r.nm=rg.nm)).map Rw.d):=q_3 A (λ r _=>by
  have k1:=aG2 r
  generalize [rg.nm].map D.str=G at *
  generalize r.d=rd at *
  generalize f.d=fd at *
  simp[k1,i2,j0]) λ r _ _=>rfl
 have lz:(rds A).length<=sizeLine:=a_5 (by simpa using hl)
 have Q:∃ (qs:List D) (qd:D),(A.filter λ r=>decide (r.nm=rg.nm)).map Rw.d=qs/\atD qs 0=some qd/\a_8 qd (.int 0)=some (.str rg.w):=by
  have m:rg∈A.filter λ r=>decide (r.nm=rg.nm):=List.mem_filter.mpr ⟨hg,by simp⟩
  generalize hF:(A.filter λ r=>decide (r.nm=rg.nm))=F at m
  cases F with
  |nil=>cases m
  |cons q r =>
   have hq:=List.mem_filter.mp (hF▸qg:q∈A.filter λ r=>decide (r.nm=rg.nm))
   have e:q.nm=rg.nm:=by simpa using hq.2
   have k:=p_9 nd hq.1;rw[e,p_9 nd hg] at k;exact⟨_,q.d,rfl,ax6 _ _,by rw[<- Option.some.inj k];rfl⟩
 obtain⟨qs,qd,eq,q0,q1⟩:=Q;rw[eq] at lc
 generalize pre++[.str fw]=P at *
 generalize [rg.nm].map D.str=G at *
 generalize rds A=R at *
 generalize xs.map D.int=X at *
 generalize f.d=fd at *
 rw[as0]
 by_cases y1:v.fmod 2=0
 ·exact⟨[],f_4 (by simp[ev,y1]) (by kernel_rfl),.inl rfl⟩
 by_cases y2:f.w=sS "gaps"
 ·exact⟨[],f_4 (by simp[ev,y1,i0,y2]) (by kernel_rfl),.inl rfl⟩
 by_cases y3:fw=sS "sum"
 ·exact⟨[],f_4 (by simp[ev,y1,i0,y2,i3,la,y3]) (by kernel_rfl),.inl rfl⟩
 have K1:=λ (d:Option D) k=>(b_3 (by simp[ev,y1,i0,y2,i3,la,y3]) k:fnA (o_2 [.im fd,.im (.lst R),.im (.lst X),.no,.no])=d)
 by_cases y4:rg.w=sS "pair"
 ·exact⟨[],K1 _ (f_4 (by simp[lc,lz,q0,q1,y4]) (by kernel_rfl)),.inl rfl⟩
 have K2:=λ (d:Option D) k=>K1 d (b_3 (by simp[lc,lz,q0,q1,y4]) k)
 by_cases y5:fw=sS "count"
 ·have fa:a.fmod 50=a % 50:=c_0 (by decide)
  have fc:c.fmod 2=c % 2:=c_0 (by decide)
  have H:∃ h:D,atD [.non,.int (1+a % 50+b)] (c % 2)=some h/\(h=.non\/h=.int (1+a % 50+b)):=by
   have z:c % 2=0\/c % 2=1:=by omega
   rcases z with z | z <;> rw[z]
   ·exact⟨_,rfl,.inl rfl⟩
   ·exact⟨_,rfl,.inr rfl⟩
  obtain⟨h,eh,hh⟩:=H;refine⟨[.int (1+a % 50),h],K2 _ (by simp[et,i3,la,y5,ea,eb,ec,fa,fc,eh]),.inr ⟨_,_,rfl,⟨.inr ⟨_,rfl,by omega⟩,?_,?_⟩,y2,y3,y4,λ _=>⟨_,rfl,by omega,by omega⟩⟩⟩
  ·rcases hh with rfl | rfl
   ·exact .inl rfl
   ·exact .inr ⟨_,rfl,by omega⟩
  ·rcases hh with rfl | rfl
   ·exact .inr (.inl rfl)
   ·exact .inr (.inr ⟨_,_,rfl,rfl,by omega⟩)
 ·exact⟨[l,h],K2 _ (by simp[et,i3,la,y5]),.inr ⟨l,h,rfl,t,y2,y3,y4,λ z=>absurd z y5⟩⟩
abbrev Wds:List Str:=CHs++(sS "pair"::FOs++[sS "ask",sS "ask",sS "fixed"])
abbrev W18:List D:=Wds.map .str
def bw2 (w:Str):Bool:=eqD (.str w) (.str (sS "pair"))
abbrev chn (A:List Rw):List Rw:=A.filter λ r=>aB6 r.w
abbrev fol (A:List Rw):List Rw:=A.filter λ r=>af3 r.w
abbrev prr (A:List Rw):List Rw:=A.filter λ r=>bw2 r.w
abbrev sNm (A:List Rw):List D:=A.map λ r=>.str r.nm
def D_1:FS:=(b_4 (sIf (tB (e2 dEq (eV 3) (eC (.str "in"))))
 (c_9 (g_8 (aC (eC (.str "in")) (aC (eV 7) (aC (g_8 aN) (aC (eF b_9 (aC (eC (.str "in")) (aC (eV 1) aN))) aN))))))
 sN)
 (b_4 (sIf (tB (e2 dEq (eV 3) (eC (.str "pour"))))
 (b_4 (e_6 9 (e2 f_8 (eC (.int 2)) (e2 g_6 (e2 a_8 (eV 1) (eC (.int 3))) (eF bi0 (aC (eC (.int 7)) (aC (e2 ai5 (eF f_3 (aC (eV 4) aN)) (eC (.int 1))) aN))))))
 (c_9 (g_8 (aC (eV 3) (aC (eV 7) (aC (eF m_0 (aC (G_5 (e1 bh2 (eV 4)) oN (oS (eV 9))) aN)) (aC (g_8 aN) aN)))))))
 sN)
 (b_4 (sIf (tB (e2 dEq (eV 3) (eC (.str "pair"))))
 (b_4 (e_6 10 (e2 a_8 (k_1 (aC (eC (.str "sum")) (aC (eC (.str "less")) (aC (eC (.str "left")) (aC (eC (.str "right")) aN))))) (e2 g_6 (e2 a_8 (eV 1) (eC (.int 5))) (eC (.int 4)))))
 (c_9 (g_8 (aC (eV 3) (aC (eV 7) (aC (eF m_0 (aC (eV 8) aN)) (aC (g_8 (aC (eF Y_1 (aC (eF a_4 (aC (eV 1) (aC (eC (.int 20)) aN))) aN)) (aC (eV 10) aN))) aN)))))))
 sN)
 (b_4 (sIf (tB (e2 dEq (eV 3) (eC (.str "ask"))))
 (b_4 (e_6 11 (e2 a_8 (eV 5) (e2 g_6 (e2 a_8 (eV 1) (eC (.int 1))) (eF f_3 (aC (eV 5) aN)))))
 (c_9 (g_8 (aC (eV 3) (aC (eV 7) (aC (g_8 (aC (e2 a_8 (eV 11) (eC (.int 1))) aN)) (aC (eF g_4 (aC (eV 11) (aC (eV 0) (aC (eV 1) aN)))) aN)))))))
 sN)
 (b_4 (sIf (tB (e2 d_5 (eV 3) (G_5 (eV 2) (oS (eC (.int 11))) (oS (eC (.int 15))))))
 (b_4 (e_6 12 (eOr (e2 dEq (eV 3) (eC (.str "gaps"))) (eOr (e2 dEq (eV 6) (k_1 aN)) (e2 dEq (e2 g_6 (e2 a_8 (eV 1) (eC (.int 4))) (eC (.int 2))) (eC (.int 0))))))
 (b_4 (e_6 13 (e2 a_8 (e2 a_8 (k_1 (aC (e2 f_8 (eV 6) (eV 8)) (aC (eV 8) aN))) (eF am7 (aC (eV 12) aN))) (eC (.int 0))))
 (c_9 (g_8 (aC (eV 3) (aC (eV 7) (aC (g_8 (aC (eV 13) aN)) (aC (eF g_5 (aC (eV 3) (aC (eV 1) (aC (eV 12) aN)))) aN))))))))
 sN)
 (c_9 (g_8 (aC (eV 3) (aC (eV 7) (aC (g_8 (aC (e2 a_8 (eV 8) (eC (.int 0))) aN)) (aC (eF b_9 (aC (eV 3) (aC (eV 1) aN))) aN)))))))))))
def hds:List Nat:=(Str.ofString "qhbxdmaztgkpcwrvfnyjuesl").cps.toList
theorem aN7:(List.range 24).all (λ n=>(match hds[n]? with | some c=>decide (97<=c)&&decide (c<123)&&(hds.take n).all (λ x=>decide (x≠c)) | none=>false))=true:=by decide +kernel
theorem aB7 {n:Nat} (h:n<24):∃ c:Nat,hds[n]?=some c/\97<=c/\c<123/\c∉hds.take n:=by
 have e:=List.all_eq_true.mp aN7 n (List.mem_range.mpr h);cases hc:hds[n]? with
 |none=>rw[hc] at e;cases e
 |some c =>
  rw[hc] at e;simp only[Bool.and_eq_true,decide_eq_true_eq,List.all_eq_true] at e;exact⟨c,rfl,e.1.1,e.1.2,λ q=>e.2 c q rfl⟩
theorem be9 {n c:Nat} (h:hds[n]?=some c):atS (Str.ofString "qhbxdmaztgkpcwrvfnyjuesl") (n:Int)=some (.str (chS c)):=by
 obtain⟨hn,e⟩:=List.getElem?_eq_some_iff.mp h;unfold atS;rw[if_pos (by decide +kernel)]
 unfold dPl;rw[if_pos (by omega),if_pos (by exact_mod_cast hn),b_0]
 show bnd hds[(n:Int).toNat]? _=_;rw[Int.toNat_natCast,h,b_0]
theorem bW1 (k:Str):∃ n,n<=7/\(Txt.slice k none (some 7)).cps.toList=k.cps.toList.take n:=by
 have e:=beq_iff_eq.mp (PyProof.Rows.slice_to_min_closes (x:=k) (n:=7) (by decide) rfl)
 refine⟨_,?_,by rw[e];rfl⟩
 split <;> omega
theorem bc1 {c:Nat}{k:Str} (h1:97<=c) (h2:c<123) (hk:Key k):Key (chS c++Txt.slice k none (some 7))/\hd1 (chS c++Txt.slice k none (some 7))=c:=by
 obtain⟨n,hn,e⟩:=bW1 k
 have l:(chS c++Txt.slice k none (some 7)).cps.toList=c::k.cps.toList.take n:=by
  rw[s_9,e];rfl
 have ln:(k.cps.toList.take n).length<=7:=Nat.le_trans (List.length_take_le ..) hn;refine⟨⟨?_,?_,λ x hx=>?_⟩,by unfold hd1;rw[l];rfl⟩
 ·rw[e_9,l,List.length_cons];omega
 ·rw[e_9,l,List.length_cons];omega
 ·rw[l] at hx
  rcases qw hx with q | q
  ·omega
  ·exact hk.2.2 x (List.mem_of_mem_take q)
theorem aM0 {T:FT}{F:FE}{zs ys:List D}{ρ fr:En}{js:List Nat}{i:Nat} (h:cGo T F fr zs=some ys) (hi:ρ[i]?=some (.im (.lst zs))) (hj:r_7 ρ js=some fr) (hl:zs.length<=1000):eLC js (eV i) T F ρ=some (.lst ys,ρ):=by
 have v:eV i ρ=some (.lst zs,ρ):=by simp[hi]
 unfold eLC;rw[v,b_0];show bnd (some zs) _=_;rw[b_0,hj,b_0,h,b_0,if_pos (a_5 hl)]
theorem bQ5 (a b:D):g_0 [a,b]=fnA (I_2 [.im a,.im b,.no,.no,.no,.no,.no,.no,.no,.no,.no,.no,.no,.no]):=by kernel_rfl
structure Pre (A:List Rw) (wd nm:Str) (f0 f1:Str):Prop where
 mem:wd∈Wds
 key:Key nm
 hd:hds[A.length]?=some (hd1 nm)
 ch:¬ (wd=sS "in") → chn A≠[] ∧ f0∈nms (chn A) ∧ f1∈nms (chn A)
 ask:wd=sS "ask" → fol A≠[]
 pour:wd=sS "pour" → 2 ≤ (chn A).length
theorem av2 {xs:List Int} (g:Dgs xs) (A:List Rw) (hl:A.length ≤ 24) {ρ:En} (h1:ρ[1]?=some (.im (.lst (xs.map .int)))) (h4:ρ[4]?=some (.im (.lst (sNm (chn A))))):∃ f0 f1:Str,eLR [4,1] (rng1 (eC (.int 2))) tYes (e2 a_8 (e2 f_8 (eV 1) (k_1 (aC (eC (.str "a")) aN))) (e2 g_6 (e2 a_8 (eV 2) (e2 f_8 (eC (.int 1)) (eV 0))) (eF aS2 (aC (eC (.int 1)) (aC (eF f_3 (aC (eV 1) aN)) aN))))) ρ=some (.lst [.str f0,.str f1],ρ) ∧ (chn A≠[] → f0∈nms (chn A) ∧ f1∈nms (chn A)):=by
 have lc:(chn A).length<=24:=Nat.le_trans (List.length_filter_le ..) hl
 have E:∀ k:Int,0 ≤ k → k<2 → ∃ f:Str,e2 a_8 (e2 f_8 (eV 1) (k_1 (aC (eC (.str "a")) aN))) (e2 g_6 (e2 a_8 (eV 2) (e2 f_8 (eC (.int 1)) (eV 0))) (eF aS2 (aC (eC (.int 1)) (aC (eF f_3 (aC (eV 1) aN)) aN)))) [.im (.int k),.im (.lst (sNm (chn A))),.im (.lst (xs.map .int))]=some (.str f,[.im (.int k),.im (.lst (sNm (chn A))),.im (.lst (xs.map .int))]) ∧ (chn A≠[] → f∈nms (chn A)):=λ k k0 k1=>by
  obtain⟨v,ev,v0,_⟩:=g.at (1+k) (by omega) (by omega)
  generalize chn A=C at *
  have ln:(sNm C).length=C.length:=List.length_map ..;have lz:C.length<=sizeLine:=a_5 (by omega)
  have l1:C.length+1<=sizeLine:=a_5 (by omega)
  obtain⟨m,hm,m0,m1⟩:∃ m:Int,(if (C.length:Int) > 1 then (C.length:Int) else 1)=m/\0<m/\(m=C.length\/(m=1/\C.length<=1)):=⟨_,rfl,by split <;> omega,by split <;> omega⟩
  have fm:v.fmod m=v % m:=c_0 m0;have c0:=Int.emod_nonneg v (show m≠0 by omega)
  have c1:=Int.emod_lt_of_pos v m0;have dm:i_5 m=true:=f_5 (by omega) (by omega)
  have mz:¬ (m=0):=by omega
  have P:∃ f:Str,atD (sNm C++[.str "a"]) (v % m)=some (.str f) ∧ (C≠[] → f∈nms C):=by
   obtain⟨f,hf,ef⟩:=I_5 D.str (nms C++[Str.ofString "a"]) (i:=v % m) c0 (by simp;omega)
   have e:(nms C++[Str.ofString "a"]).map D.str=sNm C++[.str "a"]:=by simp[Function.comp_def]
   rw[e] at ef;refine⟨f,ef,λ hC=>?_⟩
   have hc:0<C.length:=List.length_pos_iff.mpr hC;have c2:v % m<C.length:=by omega
   obtain⟨f',hf',ef'⟩:=I_5 D.str (nms C) (i:=v % m) c0 (by simp;omega)
   have:atD (sNm C++[.str "a"]) (v % m)=atD ((nms C).map .str) (v % m):=by
    have e2:sNm C=(nms C).map .str:=by simp[Function.comp_def]
    unfold atD dPl;rw[e2,if_pos c0,if_pos (by simp;omega),if_pos c0,if_pos (by simp;omega)]
    show (_++_)[(v % m).toNat]?=((nms C).map D.str)[(v % m).toNat]?;rw[List.getElem?_append_left (by simp;omega)]
   rw[this,ef'] at ef;cases ef;exact hf'
  obtain⟨f,ef,hf⟩:=P;refine⟨f,?_,hf⟩
  generalize xs.map D.int=X at *
  generalize sNm C=S at *
  simp[ev,ln,lz,l1,hm,fm,dm,mz,ef]
 obtain⟨f0,e0,p0⟩:=E 0 (by decide) (by decide)
 obtain⟨f1,e1,p1⟩:=E 1 (by decide) (by decide)
 refine⟨f0,f1,?_,λ h=>⟨p0 h,p1 h⟩⟩
 generalize hE:e2 a_8 (e2 f_8 (eV 1) (k_1 (aC (eC (.str "a")) aN))) (e2 g_6 (e2 a_8 (eV 2) (e2 f_8 (eC (.int 1)) (eV 0))) (eF aS2 (aC (eC (.int 1)) (aC (eF f_3 (aC (eV 1) aN)) aN))))=EE at *
 generalize xs.map D.int=X at *
 generalize sNm (chn A)=S at *
 have i:r_7 ρ [4,1]=some [.im (.lst S),.im (.lst X)]:=by simp[h1,h4]
 have z:(2:Nat)<=sizeLine:=a_5 (by decide)
 have c:cGo tYes EE [.im (.lst S),.im (.lst X)] [.int 0,.int 1]=some [.str f0,.str f1]:=by
  simp[e0,e1]
 have r:rng1 (eC (.int 2)) ρ=some ([.int 0,.int 1],ρ):=by kernel_rfl
 generalize rng1 (eC (.int 2))=RR at *
 unfold eLR;rw[r,b_0];show bnd (r_7 ρ [4,1]) _=_;rw[i,b_0,c,b_0];exact if_pos z
theorem ah1 {l:List D} (h:dpD (.lst l)<=30):dEq (.lst l) (.lst [])=some (.bl l.isEmpty):=by
 unfold dEq;rw[if_pos ⟨h,by decide⟩]
 cases l <;> rfl
theorem v_1 (a b:Str):dEq (.str a) (.str b)=some (.bl (decide (a=b))):=by simp
theorem bx4 {S R:FS}{ρ ρ':En}{x:Option D} (h:S ρ=some (.nx ρ')) (k:fnA (R ρ')=x):fnA (b_4 S R ρ)=x:=by
 simp[h,k]
theorem aE1 {ρ:En}{WW X:List D}{v:Int}{wd:Str} (h1:ρ[1]?=some (.im (.lst X))) (h2:ρ[2]?=some (.im (.lst WW))) (ev:atD X 0=some (.int v)) (ew:atD WW (v.fmod 18)=some (.str wd)) (l:WW.length=18):e2 a_8 (eV 2) (e2 g_6 (e2 a_8 (eV 1) (eC (.int 0))) (eF f_3 (aC (eV 2) aN))) ρ=some (.str wd,ρ):=by
 have z:18<=sizeLine:=a_5 (by decide)
 simp[h1,h2,ev,ew,l,z]
theorem aK5 {ρ:En}{R X K:List D}{n c:Nat}{k nm:Str} (h0:ρ[0]?=some (.im (.lst R))) (h1:ρ[1]?=some (.im (.lst X))) (ln:R.length=n) (lz:n ≤ sizeLine) (ix:atS (Str.ofString "qhbxdmaztgkpcwrvfnyjuesl") (n:Int)=some (.str (chS c))) (ek:c_1 [.lst X,.int 46,.int 1]=some (.lst K)) (k0:atD K 0=some (.str k)) (kz:k.length ≤ sizeLine) (nz:(chS c).length+(Txt.slice k none (some 7)).length ≤ sizeLine) (hn:chS c++Txt.slice k none (some 7)=nm):e2 f_8 (e2 a_8 (eC (.str "qhbxdmaztgkpcwrvfnyjuesl")) (eF f_3 (aC (eV 0) aN))) (G_5 (e2 a_8 (eF c_1 (aC (eV 1) (aC (eC (.int 46)) (aC (eC (.int 1)) aN)))) (eC (.int 0))) oN (oS (eC (.int 7)))) ρ=some (.str nm,ρ):=by
 have s:aw1 (.str k) none (some 7)=some (.str (Txt.slice k none (some 7))):=if_pos kz
 generalize hL:Str.ofString "qhbxdmaztgkpcwrvfnyjuesl"=L at *
 simp[h0,h1,ln,lz,ix,ek,k0,s,nz,hn]
theorem aG3 {xs:List Int} (g:Dgs xs) {A:List Rw} (hl:A.length<24) (hd5:dpD (.lst (rds (fol A)))<=30):∃ wd nm f0 f1:Str,Pre A wd nm f0 f1/\g_0 [.lst (rds A),.lst (xs.map .int)]=fnA (D_1 [.im (.lst (rds A)),.im (.lst (xs.map .int)),.im (.lst W18),.im (.str wd),.im (.lst (sNm (chn A))),.im (.lst (rds (fol A))),.im (.lst (sNm (prr A))),.im (.str nm),.im (.lst [.str f0,.str f1]),.no,.no,.no,.no,.no]):=by
 obtain⟨v,ev,v0,_⟩:=g.at 0 (by decide) (by decide)
 obtain⟨wd,hw,ew⟩:=I_5 D.str Wds (i:=v.fmod 18) (Int.fmod_nonneg_of_pos _ (by decide)) (Int.fmod_lt_of_pos _ (by decide))
 obtain⟨ks,_,ek,kl,kk,_⟩:=B_2 g 46 1 (by decide)
 have ek:c_1 [.lst (xs.map .int),.int 46,.int 1]=some (.lst (ks.map .str)):=ek
 obtain⟨k,rfl⟩:∃ k,ks=[k]:=by
  cases ks with
  |nil=>cases kl
  |cons a r=>cases r with
   |nil=>exact⟨a,rfl⟩
   |cons=>cases kl
 have kk:=kk k qg;obtain⟨c,hc,c1,c2,_⟩:=aB7 hl;obtain⟨kn,hn⟩:=bc1 c1 c2 kk;have ix:=be9 hc;have lA:(rds A).length=A.length:=List.length_map ..;have lz:A.length<=sizeLine:=a_5 (by omega)
 have k0:atD ([k].map D.str) 0=some (.str k):=rfl;have kz:k.length<=sizeLine:=a_5 (by have:=kk.2.1;omega)
 have nz:(chS c).length+(Txt.slice k none (some 7)).length<=sizeLine:=by
  have:=kn.2.1;rw[ak8] at this;exact a_5 (by omega)
 generalize hN:chS c++Txt.slice k none (some 7)=nm at *
 obtain⟨f0,f1,ef,hf⟩:=av2 g A (by omega) (ρ:=[.im (.lst (rds A)),.im (.lst (xs.map .int)),.im (.lst W18),.im (.str wd),.im (.lst (sNm (chn A))),.im (.lst (rds (fol A))),.im (.lst (sNm (prr A))),.im (.str nm),.no,.no,.no,.no,.no,.no]) rfl rfl
 have g4:cGo (tB (e2 d_5 (e2 a_8 (eV 0) (eC (.int 0))) (G_5 (eV 1) oN (oS (eC (.int 10)))))) (e2 a_8 (eV 0) (eC (.int 1))) [.im (.lst W18)] (rds A)=some (sNm (chn A)):=q_3 A (λ r _=>by kernel_rfl) λ r _ _=>rfl
 have g5:cGo (tB (e2 d_5 (e2 a_8 (eV 0) (eC (.int 0))) (G_5 (eV 1) (oS (eC (.int 11))) (oS (eC (.int 15)))))) (eV 0) [.im (.lst W18)] (rds A)=some (rds (fol A)):=q_3 A (λ r _=>by kernel_rfl) λ r _ _=>rfl
 have g6:cGo (tB (e2 dEq (e2 a_8 (eV 0) (eC (.int 0))) (eC (.str "pair")))) (e2 a_8 (eV 0) (eC (.int 1))) [] (rds A)=some (sNm (prr A)):=q_3 A (λ r _=>by kernel_rfl) λ r _ _=>rfl
 have l1:(rds A).length<=1000:=by omega
 have pr:∀ wd':Str,(wd'=sS "in" ∨ (wd'=wd ∧ chn A≠[] ∧ (wd=sS "ask" → fol A≠[]) ∧ (wd=sS "pour" → 2 ≤ (chn A).length))) → Pre A wd' nm f0 f1:=λ wd' h=>by
  have hd:hds[A.length]?=some (hd1 nm):=by rw[hn];exact hc
  rcases h with rfl | ⟨rfl,q1,q2,q3⟩
  ·exact⟨by simp,kn,hd,λ z=>absurd rfl z,λ z=>absurd z (by decide +kernel),λ z=>absurd z (by decide +kernel)⟩
  ·exact⟨hw,kn,hd,λ _=>⟨q1,hf q1⟩,q2,q3⟩
 have T:∃ wd':Str,Pre A wd' nm f0 f1 ∧ sIf (tOr (tB (e2 dEq (eV 4) (k_1 aN))) (tOr (tAnd (tB (e2 dEq (eV 3) (eC (.str "ask")))) (tB (e2 dEq (eV 5) (k_1 aN)))) (tAnd (tB (e2 dEq (eV 3) (eC (.str "pour")))) (tB (e2 dLt (eF f_3 (aC (eV 4) aN)) (eC (.int 2))))))) (e_6 3 (eC (.str "in"))) sN [.im (.lst (rds A)),.im (.lst (xs.map .int)),.im (.lst W18),.im (.str wd),.im (.lst (sNm (chn A))),.im (.lst (rds (fol A))),.im (.lst (sNm (prr A))),.im (.str nm),.im (.lst [.str f0,.str f1]),.no,.no,.no,.no,.no]=some (.nx [.im (.lst (rds A)),.im (.lst (xs.map .int)),.im (.lst W18),.im (.str wd'),.im (.lst (sNm (chn A))),.im (.lst (rds (fol A))),.im (.lst (sNm (prr A))),.im (.str nm),.im (.lst [.str f0,.str f1]),.no,.no,.no,.no,.no]):=by
  have s4:(sNm (chn A)).isEmpty=(chn A).isEmpty:=by cases chn A <;> rfl
  have s5:(rds (fol A)).isEmpty=(fol A).isEmpty:=by cases fol A <;> rfl
  have e4:=ah1 (l:=sNm (chn A)) (by
   have:=bg7 (nms (chn A));rw[List.map_map] at this;exact this)
  have e5:=ah1 (l:=rds (fol A)) hd5;rw[s4] at e4;rw[s5] at e5;have l4:(sNm (chn A)).length=(chn A).length:=List.length_map ..;have z4:(chn A).length<=sizeLine:=a_5 (Nat.le_trans (List.length_filter_le ..) (by omega))
  clear g4 g5 g6 ef hf ev ew ek ix lA lz k0 kz nz l1
  generalize sNm (chn A)=S4 at *
  generalize rds (fol A)=S5 at *
  generalize sNm (prr A)=S6 at *
  generalize hW:W18=WW at *
  generalize xs.map D.int=X at *
  generalize rds A=R at *
  by_cases a:chn A=[]
  ·rw[a] at e4
   exact⟨_,pr _ (.inl rfl),by simp[-aw3,e4]⟩
  ·rw[List.isEmpty_eq_false_iff.mpr a] at e4
   by_cases b:wd=sS "ask" ∧ fol A=[]
   ·rw[b.2] at e5
    have dA:decide (wd=Str.ofString "ask")=true:=decide_eq_true b.1;exact⟨_,pr _ (.inl rfl),by simp only[sS];simp[-aw3,-decide_eq_true_eq,e4,e5,v_1,dA]⟩
   ·have hb:wd=sS "ask" → dEq (.lst S5) (.lst [])=some (.bl false) ∧ fol A≠[]:=λ q=>by
     have:fol A≠[]:=λ z=>b ⟨q,z⟩
     rw[List.isEmpty_eq_false_iff.mpr this] at e5;exact⟨e5,this⟩
    by_cases c:wd=sS "pour" ∧ (chn A).length<2
    ·have cl:((chn A).length:Int)<2:=by omega
     have dA:decide (wd=Str.ofString "ask")=false:=decide_eq_false (by rw[c.1];decide +kernel)
     have dP:decide (wd=Str.ofString "pour")=true:=decide_eq_true c.1;exact⟨_,pr _ (.inl rfl),by simp[-aw3,e4,v_1,dA,dP,l4,z4,cl]⟩
    ·refine⟨wd,pr _ (.inr ⟨rfl,a,λ q=>(hb q).2,λ q=>Nat.le_of_not_lt λ z=>c ⟨q,z⟩⟩),?_⟩
     by_cases q1:wd=sS "ask"
     ·have e5:=(hb q1).1
      have dA:decide (wd=Str.ofString "ask")=true:=decide_eq_true q1;have dP:decide (wd=Str.ofString "pour")=false:=decide_eq_false (by rw[q1];decide +kernel)
      simp[-aw3,e4,v_1,dA,e5,dP]
     ·have dA:decide (wd=Str.ofString "ask")=false:=decide_eq_false q1
      by_cases q2:wd=sS "pour"
      ·have cl:¬ (((chn A).length:Int)<2):=λ z=>c ⟨q2,by omega⟩
       have dP:decide (wd=Str.ofString "pour")=true:=decide_eq_true q2;simp[-aw3,e4,v_1,dA,dP,l4,z4,cl]
      ·have dP:decide (wd=Str.ofString "pour")=false:=decide_eq_false q2
       simp[-aw3,e4,v_1,dA,dP]
 obtain⟨wd',p,eT⟩:=T;refine⟨wd',nm,f0,f1,p,?_⟩;rw[bQ5];exact am1 (d:=.lst ((CHs++[sS "pair"]).map .str)) (by kernel_rfl) (am1 (d:=.lst W18) (by kernel_rfl) (am1 (aE1 rfl rfl ev ew rfl) (am1 (aM0 g4 rfl rfl l1) (am1 (aM0 g5 rfl rfl l1) (am1 (aM0 g6 rfl rfl l1) (am1 (aK5 rfl rfl lA lz ix ek k0 kz nz hN) (am1 ef (bx4 eT rfl))))))))
abbrev C8:List Str:=[sS "time",sS "only",sS "but",sS "span",sS "rest",sS "turn",sS "later",sS "put"]
theorem ay8 {ρ:En}{w u:Str} (h:ρ[3]?=some (.im (.str w))) (n:¬ (w=u)):tB (e2 dEq (eV 3) (eC (.str u))) ρ=some (false,ρ):=by simp[h,n]
theorem bN2 {ρ:En}{w u:Str} (h:ρ[3]?=some (.im (.str w))) (n:w=u):tB (e2 dEq (eV 3) (eC (.str u))) ρ=some (true,ρ):=by simp[h,n]
theorem tfo {ρ:En}{w:Str}{b:Bool} (h3:ρ[3]?=some (.im (.str w))) (h2:ρ[2]?=some (.im (.lst W18))) (hb:af3 w=b):tB (e2 d_5 (eV 3) (G_5 (eV 2) (oS (eC (.int 11))) (oS (eC (.int 15))))) ρ=some (b,ρ):=by
 have s:aw1 (.lst W18) (some 11) (some 15)=some (.lst (FOs.map .str)):=by kernel_rfl
 have i:d_5 (.str w) (.lst (FOs.map .str))=some (.bl (af3 w)):=by kernel_rfl
 rw[hb] at i
 generalize FOs.map D.str=FF at *
 generalize W18=WW at *
 simp[-aC6,h2,h3,s,i]
structure Upto (A:List Rw):Prop where
 good:aD1 [] A
 hd:(nms A).map hd1=hds.take A.length
 len:A.length<=24
theorem Upto.nd {A:List Rw} (u:Upto A):(nms A).Nodup:=by
 have:=ag0 (P:=[]) List.nodup_nil u.good;exact this
theorem Upto.row {A:List Rw} (u:Upto A) {r:Rw} (h:r∈A):∃ Q,RowOk Q r/\∀ x∈nms Q,x∈nms A:=by
 have:=s_5 u.good h;exact this
theorem Upto.key {A:List Rw} (u:Upto A) {f:Str} (h:f∈nms A):Key f:=by
 obtain⟨r,hr,rfl⟩:=F_0 h;obtain⟨Q,k,_⟩:=u.row hr;exact k.key
theorem bc2 {A:List Rw} (u:Upto A) (hl:A.length<24) {nm:Str} (h:hds[A.length]?=some (hd1 nm)):nm∉nms A:=λ q=>by
 obtain⟨c,hc,_,_,n⟩:=aB7 hl;rw[h] at hc;cases hc;exact n (by rw[<- u.hd];exact List.mem_map_of_mem q)
theorem H_0 {A:List Rw}{f:Str} (h:f∈nms (chn A)):∃ r∈A,r.nm=f/\aB6 r.w=true:=by
 obtain⟨r,hr,e⟩:=F_0 h;have:=List.mem_filter.mp hr;exact⟨r,this.1,e,this.2⟩
theorem aA3 {A:List Rw} (u:Upto A) {w nm f:Str}{rest:List D} (kn:Key nm) (nn:nm∉nms A) (hf:f∈nms (chn A)) (rd:Rd w nm [f] rest) (ha:¬ (w=sS "ask")) (fo:af3 w=true → ∃ (pre:List D) (fw:Str),rest=pre++[.str fw]):RowOk A ⟨w,nm,[f],rest⟩:=by
 obtain⟨q,hq,rfl,hc⟩:=H_0 hf;have fm:∀ x∈[q.nm],x∈nms A:=λ x hx=>by rw[List.mem_singleton.mp hx];exact List.mem_map_of_mem hq
 refine⟨rd,kn,nn,λ h=>?_,fm,qr rfl,ao6 (Rs:=[q]) u.nd nn (λ x hx=>by rw[List.mem_singleton.mp hx];exact hq) rfl (qr rfl) (λ x hx=>by rw[List.mem_singleton.mp hx];exact hc) ha (.inr ⟨_,_,rfl⟩)⟩
 obtain⟨pre,fw,e⟩:=fo h;exact⟨_,pre,fw,rfl,e⟩
abbrev aS7 (A:List Rw) (nm:Str) (o:Option D):Prop:=∃ r:Rw,o=some r.d/\r.nm=nm/\RowOk A r
abbrev EV (A:List Rw) (X:List D) (wd nm f0 f1:Str):En:=[.im (.lst (rds A)),.im (.lst X),.im (.lst W18),.im (.str wd),.im (.lst (sNm (chn A))),.im (.lst (rds (fol A))),.im (.lst (sNm (prr A))),.im (.str nm),.im (.lst [.str f0,.str f1]),.no,.no,.no,.no,.no]
theorem bv4 {xs:List Int} (g:Dgs xs) {A:List Rw} (u:Upto A) {nm f0 f1:Str} (kn:Key nm) (nn:nm∉nms A):aS7 A nm (fnA (D_1 (EV A (xs.map .int) (sS "in") nm f0 f1))):=by
 obtain⟨l,h,e,t⟩:=aw7 g;refine⟨⟨sS "in",nm,[],[l,h]⟩,?_,rfl,bt1 kn t,kn,nn,bl0 (by kernel_rfl),λ f hf=>(by cases hf),Nat.zero_le _,ao6 (Rs:=[]) u.nd nn (λ x hx=>by cases hx) rfl (by decide) (λ x hx=>by cases hx) (show ¬ (sS "in"=sS "ask") by decide +kernel) (.inl (by kernel_rfl))⟩
 generalize xs.map D.int=X at *
 exact f_4 (bN2 rfl rfl) (by simp[e])
theorem aC9:C8.all (λ w=>aB6 w&&!(af3 w)&&!(eqD (.str w) (.str (sS "in")))&&!(eqD (.str w) (.str (sS "pour")))&&!(eqD (.str w) (.str (sS "pair")))&&!(eqD (.str w) (.str (sS "ask"))))=true:=by decide +kernel
theorem bA9 {xs:List Int} (g:Dgs xs) {w:Str} (h:w∈C8):∃ rest,b_9 [.str w,.lst (xs.map .int)]=some (.tup rest)/\∀ nm f,Key nm->Key f->Rd w nm [f] rest:=by
 simp only[List.mem_cons,List.not_mem_nil,or_false] at h
 rcases h with rfl | rfl | rfl | rfl | rfl | rfl | rfl | rfl
 ·exact aR1 g
 ·exact ai8 g (.inl rfl)
 ·exact ai8 g (.inr rfl)
 ·exact aR2 g
 ·exact aR3 g
 ·exact aR0 g
 ·exact aw8 g
 ·exact bh8 g
theorem bv5 {xs:List Int} (g:Dgs xs) {A:List Rw} (u:Upto A) {w nm f0 f1:Str} (kn:Key nm) (nn:nm∉nms A) (hw:w∈C8) (hf:f0∈nms (chn A)):aS7 A nm (fnA (D_1 (EV A (xs.map .int) w nm f0 f1))):=by
 obtain⟨rest,e,rd⟩:=bA9 g hw;have t:=List.all_eq_true.mp aC9 w hw;simp only[Bool.and_eq_true,Bool.not_eq_true',h_3,decide_eq_false_iff_not] at t;obtain⟨⟨⟨⟨⟨t1,t2⟩,t3⟩,t4⟩,t5⟩,t6⟩:=t
 have kf:Key f0:=by
  obtain⟨q,hq,rfl,_⟩:=H_0 hf;exact u.key (List.mem_map_of_mem hq)
 refine⟨⟨w,nm,[f0],rest⟩,?_,rfl,aA3 u kn nn hf (rd nm f0 kn kf) t6 λ h=>by rw[t2] at h;cases h⟩
 generalize xs.map D.int=X at *
 refine b_3 (ay8 rfl t3) (b_3 (ay8 rfl t4) (b_3 (ay8 rfl t5) (b_3 (ay8 rfl t6) (b_3 (tfo rfl rfl t2) ?_))));simp[e,o_3]
theorem aL1 {xs:List Int} (g:Dgs xs) {A:List Rw} (u:Upto A) {nm f0 f1:Str} (kn:Key nm) (nn:nm∉nms A) (h0:f0∈nms (chn A)) (h1:f1∈nms (chn A)):aS7 A nm (fnA (D_1 (EV A (xs.map .int) (sS "pair") nm f0 f1))):=by
 obtain⟨x,ex,hx⟩:=f_0 g.len g.dig 20 (by decide)
 have ex:a_4 [.lst (xs.map .int),.int 20]=some (.int x):=ex;obtain⟨v,ev,v0,_⟩:=g.at 5 (by decide) (by decide)
 obtain⟨how,hh,eh⟩:=I_5 D.str [sS "sum",sS "less",sS "left",sS "right"] (i:=v.fmod 4) (Int.fmod_nonneg_of_pos _ (by decide)) (Int.fmod_lt_of_pos _ (by decide))
 have H:=List.all_eq_true.mp (show [sS "sum",sS "less",sS "left",sS "right"].all (λ w=>inD (.str w) [.str (sS "sum"),.str (sS "less"),.str (sS "left"),.str (sS "right")]&&(1 ≤ w.length&&decide (w.length ≤ 8)&&w.cps.toList.all λ c=>decide (97 ≤ c)&&decide (c<123)))=true by decide +kernel) how hh
 rw[Bool.and_eq_true] at H
 have hp:d_5 (.str how) HP=some (.bl true):=by
  have:d_5 (.str how) HP=some (.bl (inD (.str how) [.str (sS "sum"),.str (sS "less"),.str (sS "left"),.str (sS "right")])):=by kernel_rfl
  rw[this,H.1]
 obtain⟨q0,a0,rfl,c0⟩:=H_0 h0;obtain⟨q1,a1,rfl,c1⟩:=H_0 h1;have k0:=u.key (List.mem_map_of_mem a0);have k1:=u.key (List.mem_map_of_mem a1)
 have two:∀ {P:Rw->Prop},P q0->P q1->∀ q∈[q0,q1],P q:=λ p0 p1 q hq=>by
  rcases qw hq with z | z
  ·rw[z];exact p0
  ·rw[List.mem_singleton.mp z];exact p1
 refine⟨⟨sS "pair",nm,[q0.nm,q1.nm],[.int (x.natAbs:Int),.str how]⟩,?_,rfl,aH0 kn k0 k1 (by omega) (by omega) hp (d_6 H.2),kn,nn,bl0 (by kernel_rfl),λ f hf=>?_,qr rfl,ao6 (Rs:=[q0,q1]) u.nd nn (two a0 a1) rfl (qr rfl) (two c0 c1) (show ¬ (sS "pair"=sS "ask") by decide +kernel) (.inl (by kernel_rfl))⟩
 ·generalize xs.map D.int=X at *
  refine b_3 (by kernel_rfl) (b_3 (by kernel_rfl) (f_4 (by kernel_rfl) ?_))
  have eh:atD [.str "sum",.str "less",.str "left",.str "right"] (v.fmod 4)=some (.str how):=eh;simp[ev,eh,ex]
 ·rcases qw hf with z | z
  ·rw[z];exact List.mem_map_of_mem a0
  ·rw[List.mem_singleton.mp z];exact List.mem_map_of_mem a1
theorem bc8 {xs:List Int} (g:Dgs xs) {A:List Rw} (u:Upto A) {nm f0 f1:Str} (kn:Key nm) (nn:nm∉nms A) (hf:fol A≠[]):aS7 A nm (fnA (D_1 (EV A (xs.map .int) (sS "ask") nm f0 f1))):=by
 obtain⟨v,ev,v0,_⟩:=g.at 1 (by decide) (by decide)
 have lp:0<(fol A).length:=List.length_pos_iff.mpr hf;have l24:(fol A).length<=24:=Nat.le_trans (List.length_filter_le ..) u.len;have fm:v.fmod ((fol A).length:Int)=v % ((fol A).length:Int):=c_0 (by omega)
 obtain⟨f,hm,ef⟩:=I_5 Rw.d (fol A) (i:=v % ((fol A).length:Int)) (Int.emod_nonneg _ (by omega)) (Int.emod_lt_of_pos _ (by omega))
 have hm:=List.mem_filter.mp hm;have kf:=u.key (List.mem_map_of_mem hm.1);obtain⟨Q,ok,sub⟩:=u.row hm.1;obtain⟨gn,pre,fw,e1,e2⟩:=ok.fo hm.2;obtain⟨rg,hg,rfl⟩:=F_0 (sub gn (ok.fr gn (by rw[e1];exact qg)))
 obtain⟨rest,er,hr⟩:=ax7 g u.nd hg e1 e2 (Nat.le_trans u.len (by decide))
 have rd:Rd (sS "ask") nm [f.nm] rest:=by
  rcases hr with rfl | ⟨l,h,rfl,t,_⟩
  ·exact aH5 kn kf
  ·exact aH4 kn kf t
 refine⟨⟨sS "ask",nm,[f.nm],rest⟩,?_,rfl,rd,kn,nn,bl0 (by kernel_rfl),λ x hx=>by rw[List.mem_singleton.mp hx];exact List.mem_map_of_mem hm.1,qr rfl,aW4 u.nd nn hm.1 rfl rfl hm.2 ?_⟩
 ·have i1:=aG2 f
  have ln:(rds (fol A)).length=(fol A).length:=List.length_map ..;have lz:(fol A).length<=sizeLine:=a_5 (by omega)
  have dm:i_5 ((fol A).length:Int)=true:=f_5 (by omega) (by omega)
  have nz:¬ (fol A=[]):=hf;refine b_3 (by kernel_rfl) (b_3 (by kernel_rfl) (b_3 (by kernel_rfl) (f_4 (by kernel_rfl) ?_)))
  have ef:atD (rds (fol A)) (v % ((fol A).length:Int))=some f.d:=ef;show _=some (D.tup [.str (sS "ask"),.str nm,.tup [.str f.nm],.tup rest]);simp only[EV]
  generalize rds (fol A)=S at *
  generalize rds A=R at *
  generalize sNm (chn A)=S4 at *
  generalize sNm (prr A)=S6 at *
  generalize hW:W18=WW at *
  generalize xs.map D.int=X at *
  generalize f.d=fd at *
  simp[ev,ln,lz,dm,fm,nz,ef,i1,er]
 ·rcases hr with h | ⟨l,h,e,_,y2,y3,y4,y5⟩
  ·exact .inl h
  ·exact .inr ⟨l,h,e,ax3 u.nd hg y2 e1 e2 y3 y4 y5⟩
theorem aw6 (xs:List D) (n:Nat):Y_0 xs none (some (n:Int))=xs.take n:=by
 unfold Y_0;rw[S_2];show (xs.drop 0).take (min n xs.length-0)=_;rw[List.drop_zero,Nat.sub_zero];exact List.take_eq_take_min.symm
theorem bQ4 {F:FE}{R:FS}{i:Nat}{ρ:En}{d:D}{x:Option D} (h:F ρ=some (d,ρ)) (k:rtD (R (ρ.set i (.im d)))=x):rtD (b_4 (e_6 i F) R ρ)=x:=by
 simp[h,k]
theorem aL0 {xs:List Int} (g:Dgs xs) {A:List Rw} (u:Upto A) {nm f0 f1:Str} (kn:Key nm) (nn:nm∉nms A) (h2:2 ≤ (chn A).length):aS7 A nm (fnA (D_1 (EV A (xs.map .int) (sS "pour") nm f0 f1))):=by
 obtain⟨v,ev,v0,_⟩:=g.at 3 (by decide) (by decide)
 have l24:(chn A).length<=24:=Nat.le_trans (List.length_filter_le ..) u.len;obtain⟨m,hm,m0,m7,mc⟩:∃ m:Int,(if ((chn A).length:Int)-1<7 then ((chn A).length:Int)-1 else 7)=m/\0<m/\m<=7/\m<=(chn A).length-1:=⟨_,rfl,by split <;> omega,by split <;> omega,by split <;> omega⟩
 have fm:v.fmod m=v % m:=c_0 m0;have c0:=Int.emod_nonneg v (show m≠0 by omega)
 have c1:=Int.emod_lt_of_pos v m0;have dm:i_5 m=true:=f_5 (by omega) (by omega)
 have mz:¬ (m=0):=by omega
 obtain⟨n,hn⟩:∃ n:Nat,2+v % m=(n:Int):=⟨(2+v % m).toNat,by omega⟩
 have sub:∀ q∈(chn A).reverse.take n,q∈A/\aB6 q.w=true:=λ q hq=>List.mem_filter.mp (List.mem_reverse.mp (List.mem_of_mem_take hq))
 have ln:((chn A).reverse.take n).length=n:=by rw[List.length_take,List.length_reverse];omega
 have ndR:(nms ((chn A).reverse.take n)).Nodup:=by
  have s1:(nms ((chn A).reverse.take n)).Sublist (nms (chn A).reverse):=(List.take_sublist ..).map _;have s2:(nms (chn A)).Sublist (nms A):=List.filter_sublist.map _;refine List.Nodup.sublist s1 ?_;rw[aK3];exact List.pairwise_reverse.mpr ((List.Nodup.sublist s2 u.nd).imp λ h=>Ne.symm h)
 have ct:=aw6 (sNm (chn A)).reverse n;have ce:(sNm (chn A)).reverse.take n=(nms ((chn A).reverse.take n)).map .str:=by rw[<- List.map_reverse,<- List.map_take,List.map_map];rfl
 rw[ce] at ct;have lS:(sNm (chn A)).length=(chn A).length:=List.length_map ..;have lz:(chn A).length<=sizeLine:=a_5 (by omega)
 generalize hR:(chn A).reverse.take n=Rs at *
 have rd:Rd (sS "pour") nm (nms Rs) []:=by
  have kk:∀ k∈nms Rs,Key k:=λ k hk=>by
   obtain⟨r,hr,rfl⟩:=F_0 hk;exact u.key (List.mem_map_of_mem (sub r hr).1)
  have ll:(nms Rs).length=n:=by rw[List.length_map];exact ln
  generalize nms Rs=N at *
  match N,kk,ll,ndR with
  |[],_,ll,_=>simp at ll;omega
  |[a],_,ll,_=>simp at ll;omega
  |a::b::fs,kk,ll,ndR=>exact aG9 kn kk (by simp at ll;omega) ndR
 refine⟨⟨sS "pour",nm,nms Rs,[]⟩,?_,rfl,rd,kn,nn,bl0 (by kernel_rfl),λ f hf=>?_,by rw[List.length_map];omega,ao6 (Rs:=Rs) u.nd nn (λ q hq=>(sub q hq).1) rfl (by omega) (λ q hq=>(sub q hq).2) (show ¬ (sS "pour"=sS "ask") by decide +kernel) (.inl (by kernel_rfl))⟩
 ·refine b_3 (by kernel_rfl) (f_4 (by kernel_rfl) ?_)
  show _=some (D.tup [.str (sS "pour"),.str nm,.tup ((nms Rs).map .str),.tup []]);simp only[EV]
  generalize (nms Rs).map D.str=NR at *
  generalize sNm (chn A)=S4 at *
  generalize rds (fol A)=S5 at *
  generalize rds A=R at *
  generalize sNm (prr A)=S6 at *
  generalize hW:W18=WW at *
  generalize xs.map D.int=X at *
  simp[ev,lS,lz,hm,fm,dm,mz,hn,ct]
 ·obtain⟨r,hr,rfl⟩:=F_0 hf
  exact List.mem_map_of_mem (sub r hr).1
theorem bx7 {w:Str} (h:w∈FOs) (n:¬ (w=sS "gaps")):al9 w=true:=by
 have t:=List.all_eq_true.mp (show FOs.all (λ w=>al9 w||eqD (.str w) (.str (sS "gaps")))=true by decide +kernel) w h
 rw[Bool.or_eq_true,h_3,decide_eq_true_eq] at t;exact t.resolve_right n
theorem bt7 {w:Str} (h:bw2 w=true):w=sS "pair":=by
 unfold bw2 at h;rw[h_3,decide_eq_true_eq] at h;exact h
theorem aB8:FOs.all (λ w=>af3 w&&!(eqD (.str w) (.str (sS "in")))&&!(eqD (.str w) (.str (sS "pour")))&&!(eqD (.str w) (.str (sS "pair")))&&!(eqD (.str w) (.str (sS "ask"))))=true:=by decide +kernel
def e12:FE:=(eOr (e2 dEq (eV 3) (eC (.str "gaps"))) (eOr (e2 dEq (eV 6) (k_1 aN)) (e2 dEq (e2 g_6 (e2 a_8 (eV 1) (eC (.int 4))) (eC (.int 2))) (eC (.int 0)))))
theorem bh6 (a b:Int):dEq (.int a) (.int b)=some (.bl (decide (a=b))):=by simp
theorem aL2 {xs:List Int} (g:Dgs xs) {A:List Rw} (u:Upto A) {w nm f0 f1:Str} (kn:Key nm) (nn:nm∉nms A) (hw:w∈FOs) (hf:f0∈nms (chn A)):aS7 A nm (fnA (D_1 (EV A (xs.map .int) w nm f0 f1))):=by
 have t:=List.all_eq_true.mp aB8 w hw;simp only[Bool.and_eq_true,Bool.not_eq_true',h_3,decide_eq_false_iff_not] at t;obtain⟨⟨⟨⟨t2,t3⟩,t4⟩,t5⟩,t6⟩:=t;obtain⟨v,ev,v0,_⟩:=g.at 4 (by decide) (by decide)
 have e6:=ah1 (l:=sNm (prr A)) (by
  have:=bg7 (nms (prr A));rw[List.map_map] at this;exact this)
 have l6:(sNm (prr A)).length+2<=sizeLine:=a_5 (by
  have a:(prr A).length<=A.length:=List.length_filter_le ..;have:=u.len;rw[List.length_map];omega)
 have S:∃ (sm:Bool) (f:Str),e12 (EV A (xs.map .int) w nm f0 f1)=some (.bl sm,EV A (xs.map .int) w nm f0 f1) ∧ (sm=true → f=f0) ∧ (sm=false → ¬ (w=sS "gaps") ∧ ∃ p∈A,p.nm=f ∧ p.w=sS "pair") ∧ atD (if sm=true then [.str f0,.str f1] else sNm (prr A)++[.str f0,.str f1]) 0=some (.str f):=by
  have E:∃ sm:Bool,e12 (EV A (xs.map .int) w nm f0 f1)=some (.bl sm,EV A (xs.map .int) w nm f0 f1) ∧ (sm=false → ¬ (w=sS "gaps") ∧ (sNm (prr A)).isEmpty=false):=by
   unfold e12;simp only[EV]
   generalize sNm (prr A)=S6 at *
   generalize sNm (chn A)=S4 at *
   generalize rds (fol A)=S5 at *
   generalize rds A=R at *
   generalize hW:W18=WW at *
   generalize xs.map D.int=X at *
   by_cases q1:w=sS "gaps"
   ·exact⟨true,by simp[q1],λ h=>by cases h⟩
   ·cases q2:S6.isEmpty with
    |true =>
     rw[q2] at e6;exact⟨true,by simp[-aw3,v_1,q1,e6],λ h=>by cases h⟩
    |false =>
     rw[q2] at e6;refine⟨decide (v.fmod 2=0),?_,λ _=>⟨q1,rfl⟩⟩
     simp[-aw3,v_1,bh6,q1,e6,ev]
  obtain⟨sm,e,h⟩:=E;cases sm with
  |true=>exact⟨true,f0,e,λ _=>rfl,(λ z=>by cases z),rfl⟩
  |false =>
   obtain⟨n,q⟩:=h rfl
   generalize hP:prr A=P at *
   cases P with
   |nil=>cases q
   |cons p r =>
    have m:=List.mem_filter.mp (hP▸qg:p∈prr A);exact⟨false,p.nm,e,(λ z=>by cases z),λ _=>⟨n,p,m.1,rfl,bt7 m.2⟩,ax6 _ _⟩
 obtain⟨sm,f,e,s1,s2,ef⟩:=S
 have FK:f∈nms A:=by
  cases sm with
  |true =>
   rw[s1 rfl];obtain⟨q,hq,rfl,_⟩:=H_0 hf;exact List.mem_map_of_mem hq
  |false =>
   obtain⟨p,hp,rfl,_⟩:=(s2 rfl).2;exact List.mem_map_of_mem hp
 have kf:=u.key FK
 obtain⟨pre,fw,el,rd,_,ns⟩:=aO1 g sm (w:=w) (by
  simp only[List.mem_cons,List.not_mem_nil,or_false] at hw;exact hw)
 refine⟨⟨w,nm,[f],pre++[.str fw]⟩,?_,rfl,?_⟩
 ·refine b_3 (ay8 rfl t3) (b_3 (ay8 rfl t4) (b_3 (ay8 rfl t5) (b_3 (ay8 rfl t6) (f_4 (tfo rfl rfl t2) (bQ4 e ?_)))))
  show _=some (D.tup [.str w,.str nm,.tup [.str f],.tup (pre++[.str fw])]);simp only[EV]
  generalize pre++[D.str fw]=PP at *
  generalize sNm (prr A)=S6 at *
  generalize sNm (chn A)=S4 at *
  generalize rds (fol A)=S5 at *
  generalize rds A=R at *
  generalize hW:W18=WW at *
  generalize xs.map D.int=X at *
  have a0:∀ a b:D,atD [a,b] 0=some a:=λ _ _=>rfl
  have a1:∀ a b:D,atD [a,b] 1=some b:=λ _ _=>rfl
  cases sm with
  |true =>
   have ef:atD [.str f0,.str f1] 0=some (.str f):=ef;simp[l6,a1,ef,el]
  |false =>
   have ef:atD (S6++[.str f0,.str f1]) 0=some (.str f):=ef
   generalize hL:S6++[D.str f0,.str f1]=LL at *
   simp[l6,hL,a0,ef,el]
 ·cases sm with
  |true =>
   rw[s1 rfl] at kf ⊢;exact aA3 u kn nn hf (rd nm f0 kn kf) t6 λ _=>⟨pre,fw,rfl⟩
  |false =>
   obtain⟨n,p,hp,rfl,pw⟩:=s2 rfl;exact⟨rd nm p.nm kn kf,kn,nn,λ _=>⟨_,pre,fw,rfl,rfl⟩,λ x hx=>by rw[List.mem_singleton.mp hx];exact FK,qr rfl,bp7 u.nd nn hp rfl (bx7 hw n) pw rfl (ns rfl)⟩
theorem Z_0:∀ w∈Wds,w=sS "in" ∨ w=sS "pour" ∨ w=sS "pair" ∨ w=sS "ask" ∨ w∈FOs ∨ w∈C8:=by decide +kernel
theorem aq2 {xs:List Int} (g:Dgs xs) {A:List Rw} (u:Upto A) (hl:A.length<24):∃ r:Rw,g_0 [.lst (rds A),.lst (xs.map .int)]=some r.d/\Upto (A++[r]):=by
 obtain⟨wd,nm,f0,f1,p,e⟩:=aG3 g hl (by
  have:=y_2 (m:=3) (l:=rds (fol A)) λ d hd=>by
   obtain⟨r,hr,rfl⟩:=List.mem_map.mp hd;obtain⟨Q,ok,_⟩:=u.row (List.mem_filter.mp hr).1;exact (D_5 ok.rd.pl).2.2
  show w_6 _+1<=30;omega)
 have nn:=bc2 u hl p.hd
 have M:aS7 A nm (fnA (D_1 (EV A (xs.map .int) wd nm f0 f1))):=by
  rcases Z_0 wd p.mem with rfl | rfl | rfl | rfl | h | h
  ·exact bv4 g u p.key nn
  ·exact aL0 g u p.key nn (p.pour rfl)
  ·have:=p.ch (by decide +kernel)
   exact aL1 g u p.key nn this.2.1 this.2.2
  ·exact bc8 g u p.key nn (p.ask rfl)
  ·have t:=List.all_eq_true.mp aB8 wd h
   simp only[Bool.and_eq_true,Bool.not_eq_true',h_3,decide_eq_false_iff_not] at t;exact aL2 g u p.key nn h (p.ch t.1.1.1.2).2.1
  ·have t:=List.all_eq_true.mp aC9 wd h
   simp only[Bool.and_eq_true,Bool.not_eq_true',h_3,decide_eq_false_iff_not] at t;exact bv5 g u p.key nn h (p.ch t.1.1.1.2).2.1
 obtain⟨r,er,rfl,ok⟩:=M;refine⟨r,e.trans er,G_1 u.good ok,?_,by rw[List.length_append];show A.length+1<=24;omega⟩
 rw[K_8,List.map_append,u.hd,List.length_append];show _++[hd1 r.nm]=hds.take (A.length+1);rw[List.take_add_one,p.hd];rfl
def txR (r:Rw):Str:=match d_0 [r.d] with
 |some (.str t)=>t
 |_=>⟨#[]⟩
theorem U_2 {r:Rw} (h:Rd r.w r.nm r.fr r.rs):d_0 [r.d]=some (.str (txR r))/\f_2 [.str (txR r)]=some r.d/\10∉(txR r).cps.toList/\(txR r).length<=400:=by
 obtain⟨t,e,h2⟩:=h.txt;have:txR r=t:=by unfold txR;rw[e]
 rw[this];exact⟨e,h2⟩
theorem aH9 {P:List Rw}{r:Rw} (nn:r.nm∉nms P):aI1 r.nm r.d (kds P)=kds (P++[r]):=by
 unfold aI1;rw[L_5 nn];exact (List.map_append (f:=λ r:Rw=>(r.nm,r.d)) (l₁:=P) (l₂:=[r])).symm
theorem be8 {i:Nat}{T:FT}{ρ ρh:En}{K:List (Str×D)}{b:Bool} (h1:owD ρ[i]?=some (false,K)) (h2:ρ.all ndS=true) (h3:ρ.set i (hld K)=ρh) (h4:T ρh=some (b,ρh)):tHold i T ρ=some (b,ρ):=by
 rw[aW1,h1,ao4,if_pos ⟨rfl,h2⟩,h3,h4];exact ao3 _ _ _
theorem aN4 {i:Nat}{T:FT}{ρ ρh:En}{ds:List D}{b:Bool} (h1:ar9 ρ[i]?=some ds) (h2:o_9 i ρ=true) (h3:ρ.set i (.im (.lst ds))=ρh) (h4:T ρh=some (b,ρh)):tHoldL i T ρ=some (b,ρ):=by
 rw[aE7,h1,Z_6,if_pos h2,h3,h4];exact o_5 _ _ _
theorem aN5 {i:Nat}{F:FE}{ρ ρh:En}{ds:List D}{d:D} (h1:ar9 ρ[i]?=some ds) (h2:o_9 i ρ=true) (h3:ρ.set i (.im (.lst ds))=ρh) (h4:F ρh=some (d,ρh)) (h5:nl d=true):eHoldL i F ρ=some (d,ρ):=by
 rw[aQ6,h1,ah8,if_pos h2,h3,h4];exact G_6 _ _ _ h5
theorem aG1 {P:List Rw}{r:Rw} (T:D) {k:Int} (hk:k<24) {t:Str} (s4:Sl) (er:f_2 [.str t]=some r.d) (st:b_6 [r.d,dcA P]=some (.bl true)) (nn:r.nm∉nms P) (hd:nds ((kds P).map (·.2))=true) (hl:P.length<100):g_2 [.im T,.ow false (.dic (kds P)),.im (.int k),.im (.str t),s4]=some (.nx [.im T,.ow false (.dic (kds (P++[r]))),.im (.int k),.im (.str t),.im r.d]):=by
 have pk:=aH9 nn;have hh:hld (kds P)=.im (dcA P):=rfl;have lk:(kds P).length<100:=by rw[List.length_map];exact hl
 have k24:¬ (k>=24):=by omega
 have i1:=aG2 r;have ni:dIs r.d .non=some (.bl false):=rfl
 have A:∀ d:Sl,ndS d=true->(ndS (.im T)&&(ndS (.ow false (.dic (kds P)))&&(ndS (.im (.int k))&&(ndS (.im (.str t))&&(ndS d&&true)))))=true:=λ d h=>by
  show (true&&(nds ((kds P).map (·.2))&&(true&&(true&&(ndS d&&true)))))=true;rw[hd,h];rfl
 have al:[Sl.im T,.ow false (.dic (kds P)),.im (.int k),.im (.str t),.im r.d].all ndS=true:=A _ rfl
 generalize kds (P++[r])=KN at *
 generalize dcA P=DA at *
 generalize kds P=KPd at *
 generalize r.d=rd at *
 simp only[g_2]
 have z:tHold 1 (tOr (tB (e2 dGe (eV 2) (eC (.int 24)))) (tOr (tB (e2 dIs (eV 4) (eC .non))) (tNot (tV (eF b_6 (aC (eV 4) (aC (eV 1) aN))))))) [.im T,.ow false (.dic KPd),.im (.int k),.im (.str t),.im rd]=some (false,[.im T,.ow false (.dic KPd),.im (.int k),.im (.str t),.im rd]):=by
  have q:tOr (tB (e2 dGe (eV 2) (eC (.int 24)))) (tOr (tB (e2 dIs (eV 4) (eC .non))) (tNot (tV (eF b_6 (aC (eV 4) (aC (eV 1) aN)))))) [.im T,.im DA,.im (.int k),.im (.str t),.im rd]=some (false,[.im T,.im DA,.im (.int k),.im (.str t),.im rd]):=by
   simp[k24,ni,st]
  exact be8 rfl al (by rw[hh];rfl) q
 generalize tHold 1 (tOr (tB (e2 dGe (eV 2) (eC (.int 24)))) (tOr (tB (e2 dIs (eV 4) (eC .non))) (tNot (tV (eF b_6 (aC (eV 4) (aC (eV 1) aN)))))))=TT at *
 simp[er,z,i1,lk,pk]
theorem N_1 (T:D):∀ (A P:List Rw) (s2 s3 s4:Sl),aD1 P A->P.length+A.length<=24->(∀ r∈P,nd r.d=true)->∃ s2' s3' s4',fGo (gT [2,3]) g_2 (ah5 P.length (A.map λ r=>.str (txR r))) [.im T,.ow false (.dic (kds P)),s2,s3,s4]=some (.nx [.im T,.ow false (.dic (kds (P++A))),s2',s3',s4'])
 |[],P,s2,s3,s4,_,_,_=>⟨s2,s3,s4,by rw[List.append_nil];rfl⟩
 |r::q,P,s2,s3,s4,g,hl,hp=>by
  have hl':P.length+(q.length+1)<=24:=hl;have x:=U_2 g.1.rd
  have hn:nds ((kds P).map (·.2))=true:=(aA5 λ d hd=>by
   rw[List.map_map] at hd;obtain⟨p,h,rfl⟩:=List.mem_map.mp hd;exact hp p h)
  have t:=aG1 T (k:=(P.length:Int)) (by omega) s4 x.2.1 g.1.st g.1.nn hn (by omega)
  obtain⟨a,b,c,e⟩:=N_1 T q (P++[r]) (.im (.int P.length)) (.im (.str (txR r))) (.im r.d) g.2 (by rw[List.length_append];show P.length+1+_<=24;omega) (λ p h=>by
   rcases qx h with h | h
   ·exact hp p h
   ·rw[List.mem_singleton.mp h];exact (D_5 g.1.rd.pl).2.1)
  rw[pas] at e;refine⟨a,b,c,?_⟩;show fGo _ _ (.tup [.int (P.length:Int),.str (txR r)]::ah5 (P.length+1) (q.map _)) _=_;rw[L_7];show fGa _ _ _ (some [.im T,.ow false (.dic (kds P)),.im (.int (P.length:Int)),.im (.str (txR r)),s4])=_;rw[W_1,t,G_3];rw[List.length_append] at e;exact e
theorem an9 {A:List Rw} (g:aD1 [] A) (h0:A≠[]) (hl:A.length<=24):d_7 [.str (Str.join lf (A.map txR))]=some (.lst (rds A)):=by
 have sp:=ao7 (ss:=A.map txR) (by simpa using h0) λ s hs=>by
  obtain⟨r,hr,rfl⟩:=List.mem_map.mp hs;obtain⟨Q,ok,_⟩:=s_5 g hr;exact (U_2 ok.rd).2.2.1
 have sq:(Txt.split (Str.join lf (A.map txR)) lf).map D.str=A.map λ r=>.str (txR r):=by rw[sp,List.map_map];rfl
 have jl:(Str.join lf (A.map txR)).length<=100000:=by
  have:=af2 (c:=10) (m:=400) (A.map txR) λ s hs=>by
   obtain⟨r,hr,rfl⟩:=List.mem_map.mp hs;obtain⟨Q,ok,_⟩:=s_5 g hr;exact (U_2 ok.rd).2.2.2
  rw[bd0];rw[List.length_map] at this;omega
 have ln:¬ (lf.length=0):=by decide +kernel
 generalize Str.join lf (A.map txR)=J at *
 obtain⟨a,b,c,e⟩:=N_1 (.str J) A [] .no .no .no g (by simpa using hl) (λ r h=>by cases h)
 have e:fGo (gT [2,3]) g_2 (ah5 0 (A.map λ r=>.str (txR r))) [.im (.str J),.ow false (.dic []),.no,.no,.no]=some (.nx [.im (.str J),.ow false (.dic (kds A)),a,b,c]):=e
 have kv:(kds A).map (·.2)=rds A:=by rw[List.map_map];rfl
 have lk:(kds A).length<=1000:=by rw[List.length_map];omega
 generalize (A.map λ r=>D.str (txR r))=TS at *
 generalize rds A=R at *
 generalize kds A=K at *
 simp[d_7,q_9,List.replicate,ln,jl,sq,e,lk,kv]
mutual
theorem ah4:∀ d:D,dpD d<=30->eqD d d=true
 |.non,_=>by simp
 |.bl _,_=>by simp
 |.int _,_=>by simp
 |.str _,_=>by simp
 |.tup l,h=>(M_1 l l).trans (M_0 l (Nat.le_of_succ_le h))
 |.lst l,h=>(M_2 l l).trans (M_0 l (Nat.le_of_succ_le h))
 |.dct _ _,h=>absurd h (by show ¬ 1000<=30;decide)
theorem M_0:∀ l:List D,w_6 l<=30->w_5 l l=true
 |[],_=>by simp
 |d::r,h=>by
  have h:max (dpD d) (w_6 r)<=30:=h;have a:=ah4 d (by omega)
  have b:=M_0 r (by omega)
  simp[a,b]
end
theorem aK4 {d:D} (h:dpD d<=30):dNe d d=some (.bl false):=by
 unfold dNe;rw[if_pos ⟨h,h⟩,ah4 d h];rfl
theorem by1 {d:D} (h:dpD d<=30):dEq d d=some (.bl true):=by
 unfold dEq;rw[if_pos ⟨h,h⟩,ah4 d h]
theorem Upto.dr {A:List Rw} (u:Upto A) {r:Rw} (h:r∈A):dpD r.d<=30:=by
 obtain⟨Q,k,_⟩:=u.row h;have:=(D_5 k.rd.pl).2.2;omega
theorem Upto.dp {A:List Rw} (u:Upto A):dpD (.lst (rds A))<=30:=by
 have:w_6 (rds A)<=3:=y_2 λ d hd=>by
  obtain⟨r,hr,rfl⟩:=List.mem_map.mp hd;obtain⟨Q,k,_⟩:=u.row hr;exact (D_5 k.rd.pl).2.2
 show w_6 (rds A)+1<=30;omega
theorem bS4 (T:D) (x:Str) (r:Rw):e_3 [.im T,.im (.str x),.im r.d]=if r.nm=x then some (.rt r.d [.im T,.im (.str x),.im r.d]) else some (.nx [.im T,.im (.str x),.im r.d]):=by
 have i1:=aG2 r;simp only[e_3]
 generalize r.d=rd at *
 by_cases h:r.nm=x <;> simp[i1,h]
theorem ad5 (T:D) (x:Str):∀ (L:List Rw) (sl:Sl),(x∉nms L->∃ sl',fGo (gN 2) e_3 (rds L) [.im T,.im (.str x),sl]=some (.nx [.im T,.im (.str x),sl'])) /\
  ((nms L).Nodup->∀ r∈L,r.nm=x->∃ ρ,fGo (gN 2) e_3 (rds L) [.im T,.im (.str x),sl]=some (.rt r.d ρ))
 |[],sl=>⟨λ _=>⟨sl,rfl⟩,λ _ _ h=>nomatch h⟩
 |a::q,sl=>by
  obtain⟨i1,i2⟩:=ad5 T x q (.im a.d);rw[O_6,L_7];show (_->∃ sl',fGa _ _ _ (some [.im T,.im (.str x),.im a.d])=_)/\(_->∀ r∈a::q,_->∃ ρ,fGa _ _ _ (some [.im T,.im (.str x),.im a.d])=_);rw[W_1,bS4]
  by_cases h:a.nm=x
  ·rw[if_pos h,by0]
   refine⟨λ n=>absurd (h▸qg) n,λ n r hr e=>⟨[.im T,.im (.str x),.im a.d],?_⟩⟩
   rcases qw hr with z | z
   ·rw[z]
   ·exact absurd (List.mem_map.mpr ⟨r,z,e.trans h.symm⟩) (List.nodup_cons.mp n).1
  ·rw[if_neg h,G_3]
   refine⟨λ n=>i1 λ z=>n (qh _ z),λ n r hr e=>?_⟩
   rcases qw hr with z | z
   ·exact absurd (z▸e) h
   ·exact i2 (List.nodup_cons.mp n).2 r z e
theorem bF4 (T:D) (x:Str):b_5 [T,.str x]=fnA (k_8 [.im T,.im (.str x),.no]):=by kernel_rfl
theorem bc4 {A:List Rw} (nd:(nms A).Nodup) {r:Rw} (h:r∈A):b_5 [.lst (rds A),.str r.nm]=some r.d:=by
 obtain⟨ρ,e⟩:=(ad5 (.lst (rds A)) r.nm A .no).2 nd r h rfl;rw[bF4]
 generalize r.d=rd at *
 generalize rds A=R at *
 generalize hg:fGo (gN 2) e_3=G at *
 simp[k_8,hg,e]
theorem aA7 {A:List Rw}{x:Str} (h:x∉nms A):b_5 [.lst (rds A),.str x]=some .non:=by
 obtain⟨s,e⟩:=(ad5 (.lst (rds A)) x A .no).1 h;rw[bF4]
 generalize rds A=R at *
 generalize hg:fGo (gN 2) e_3=G at *
 simp[k_8,hg,e]
theorem bc0 {A:List Rw} (u:Upto A):sS "iii"∉nms A:=λ q=>by
 have h:hd1 (sS "iii")∈hds.take A.length:=by
  rw[<- u.hd];exact List.mem_map_of_mem q
 exact absurd (List.mem_of_mem_take h) (by decide +kernel)
theorem sw1 (R v:D) (L:List D) {z:Res} (h:a_9 [.im R,.ow false (.lst L),.im v]=some z):d_8 [.im R,.ow false (.lst L),.im v]=some z/\∃ L',z=.nx [.im R,.ow false (.lst L'),.im v]:=by
 simp only[a_9] at h;simp only[d_8];cases v with
 |tup xs =>
  by_cases c:L.length+xs.length<1000
  ·simp[c] at h;subst h;simp[c]
  ·simp[c] at h
 |non =>
  by_cases c:L.length<1000000
  ·simp[c,x_0] at h;subst h;simp[c]
  ·simp[c,x_0] at h
 |int n =>
  by_cases b:n.natAbs<10 ^ 100
  ·by_cases c:L.length<1000000
   ·simp[b,c,o_3] at h;subst h;simp[b,c]
   ·simp[b,c,o_3] at h
  ·simp[b] at h;exact nomatch (show none=some z from h)
 |str x =>
  by_cases c:L.length<1000000
  ·simp[c,o_3] at h;subst h;simp[c]
  ·simp[c,o_3] at h
 |bl b=>simp[am6] at h;exact nomatch (show none=some z from h)
 |lst l=>simp[am6] at h;exact nomatch (show none=some z from h)
 |dct k l=>simp[am6] at h;exact nomatch (show none=some z from h)
theorem aW3 (R:D):∀ (xs L:List D) (sl:Sl) {z:Res},fGo (gN 2) a_9 xs [.im R,.ow false (.lst L),sl]=some z->fGo (gN 2) d_8 xs [.im R,.ow false (.lst L),sl]=some z
 |[],_,_,_,h=>h
 |v::r,L,sl,z,h=>by
  rw[L_7] at h ⊢;have h:fGb (gN 2) a_9 r (a_9 [.im R,.ow false (.lst L),.im v])=some z:=h;show fGb (gN 2) d_8 r (d_8 [.im R,.ow false (.lst L),.im v])=some z;cases e:a_9 [.im R,.ow false (.lst L),.im v] with
  |none=>rw[e] at h;cases h
  |some y =>
   obtain⟨e2,L',rfl⟩:=sw1 R v L e;rw[e,G_3] at h;rw[e2,G_3];exact aW3 R r L' (.im v) h
theorem ap0 {r:Rw} (hf:r.fr.length<=8) {x:D} (h:d_0 [r.d]=some x):h_2 [r.d]=some x:=by
 have i0:a_8 r.d (.int 0)=some (.str r.w):=rfl;have i1:=aG2 r;have i2:=bs5 r;have i3:=aX8 r;have hl:(r.fr.map D.str).length<=8:=by rw[List.length_map];exact hf
 generalize r.fr.map D.str=FF at *
 generalize r.rs=RS at *
 generalize r.d=rd at *
 have p1:aa7 1 (oFr (e2 f_8 (k_1 (aC (e2 a_8 (eV 0) (eC (.int 0))) (aC (e2 a_8 (eV 0) (eC (.int 1))) aN))) (eF s_0 (aC (e2 a_8 (eV 0) (eC (.int 2))) aN)))) [.im rd,.no,.no]=some (.nx [.im rd,.ow false (.lst ([.str r.w,.str r.nm]++FF)),.no]):=by
  have fz:2+FF.length<=sizeLine:=a_5 (by omega)
  simp[i0,i1,i2,fz]
 have p2:e2 a_8 (eV 0) (eC (.int 3)) [.im rd,.ow false (.lst ([.str r.w,.str r.nm]++FF)),.no]=some (.tup RS,[.im rd,.ow false (.lst ([.str r.w,.str r.nm]++FF)),.no]):=by simp[i3]
 have h:fnA (l_0 [.im rd,.no,.no])=some x:=h;show fnA (o_0 [.im rd,.no,.no])=some x;unfold l_0 at h;unfold o_0;rw[aX0,p1] at h ⊢;have h:fnA (b_4 (al0 (gN 2) (e2 a_8 (eV 0) (eC (.int 3))) a_9) (O_0 1 (c_9 (r_9 (Str.ofString " ") (eV 1)))) [.im rd,.ow false (.lst ([.str r.w,.str r.nm]++FF)),.no])=some x:=h;show fnA (b_4 (al0 (gN 2) (e2 a_8 (eV 0) (eC (.int 3))) d_8) (O_0 1 (c_9 (r_9 (Str.ofString " ") (eV 1)))) [.im rd,.ow false (.lst ([.str r.w,.str r.nm]++FF)),.no])=some x;rw[aX0,br2,p2] at h ⊢;have h:fnA (aa6 (O_0 1 (c_9 (r_9 (Str.ofString " ") (eV 1)))) (fGo (gN 2) a_9 RS [.im rd,.ow false (.lst ([.str r.w,.str r.nm]++FF)),.no]))=some x:=h;show fnA (aa6 (O_0 1 (c_9 (r_9 (Str.ofString " ") (eV 1)))) (fGo (gN 2) d_8 RS [.im rd,.ow false (.lst ([.str r.w,.str r.nm]++FF)),.no]))=some x;cases e:fGo (gN 2) a_9 RS [.im rd,.ow false (.lst ([.str r.w,.str r.nm]++FF)),.no] with
 |none=>rw[e] at h;cases h
 |some z=>rw[aW3 _ _ _ _ e];rw[e] at h;exact h
def PW (X:D) (k:Nat) (ρ:En):Prop:=∃ (A:List Rw) (s2:Sl),ρ=[.im X,.ow false (.lst (rds A)),s2,.no,.no,.no]/\A.length=k/\Upto A/\U_9 s2=true
theorem aN6 {X R:List D}{J:Str}{s2 s5:Sl} (h2:U_9 s2=true) (h5:U_9 s5=true) {T:FT}{b:Bool} (h:T [.im (.lst X),.im (.lst R),s2,.im (.str J),.im (.lst R),s5]=some (b,[.im (.lst X),.im (.lst R),s2,.im (.str J),.im (.lst R),s5])) :
  tHoldL 4 T [.im (.lst X),.im (.lst R),s2,.im (.str J),.ow false (.lst R),s5]=some (b,[.im (.lst X),.im (.lst R),s2,.im (.str J),.ow false (.lst R),s5]) :=
 aN4 rfl (by
  show (true&&(true&&(U_9 s2&&(true&&(true&&(U_9 s5&&true))))))=true;rw[h2,h5];rfl) rfl h
theorem bo4 {A:List Rw} (u:Upto A) {r:Rw} (hr:r∈A) (X:List D) (J:Str) (s2:Sl) (h2:U_9 s2=true):p_7 [.im (.lst X),.im (.lst (rds A)),s2,.im (.str J),.ow false (.lst (rds A)),.im r.d]=some (.nx [.im (.lst X),.im (.lst (rds A)),s2,.im (.str J),.ow false (.lst (rds A)),.im r.d]):=by
 have n:=bc4 u.nd hr;have q:=aK4 (u.dr hr);have i1:=aG2 r
 generalize rds A=R at *
 generalize r.d=rd at *
 have t:=aN6 (X:=X) (R:=R) (J:=J) (s5:=.im rd) h2 rfl (T:=tB (e2 dNe (eF b_5 (aC (eV 4) (aC (e2 a_8 (eV 5) (eC (.int 1))) aN))) (eV 5))) (b:=false) (by simp[-bK7,i1,n,q])
 simp only[p_7]
 generalize tHoldL 4 (tB (e2 dNe (eF b_5 (aC (eV 4) (aC (e2 a_8 (eV 5) (eC (.int 1))) aN))) (eV 5)))=T1 at *
 simp[t]
theorem law_true (ns:List Int) (hl:ns.length<=63):V_3 [.lst (ns.map .int)]=some (.bl true):=by
 obtain⟨c0,e0⟩:=ai9 ns 0 hl;have e0:b_8 [.lst (ns.map .int),.int 0]=some (.int c0):=e0;have f24:c0.fmod 24=c0 % 24:=c_0 (by decide)
 obtain⟨n,hn⟩:∃ n:Nat,1+c0 % 24=(n:Int):=⟨(1+c0 % 24).toNat,by omega⟩
 have turn:∀ (i:Nat) (ρ:En),i<n->PW (.lst (ns.map .int)) i ρ->∃ ρ1 ρ2,gN 2 (.int i) ρ=some ρ1/\p_8 ρ1=some (.nx ρ2)/\PW (.lst (ns.map .int)) (i+1) ρ2:=λ i ρ hi p=>by
  obtain⟨A,s2,rfl,la,u,h2⟩:=p;obtain⟨c,ec⟩:=ai9 ns (1+i) hl
  have ec:b_8 [.lst (ns.map .int),.int (1+(i:Int))]=some (.int c):=by
   rw[show (1+(i:Int))=((1+i:Nat):Int) by omega];exact ec
  obtain⟨xs,ex,xl,xd⟩:=ah9 c 60 (by decide)
  have ex:d_3 [.int c,.int 60]=some (.lst (xs.map .int)):=ex;obtain⟨r,er,u'⟩:=aq2 ⟨xl,xd⟩ u (by omega)
  have lr:=ab3 A;have l6:(rds A).length<1000000:=by omega
  have pl:nl r.d=true:=by
   obtain⟨Q,ok,_⟩:=u'.row (r:=r) (by simp)
   exact (D_5 ok.rd.pl).1
  refine⟨_,[.im (.lst (ns.map .int)),.ow false (.lst (rds (A++[r]))),.im (.int i),.no,.no,.no],rfl,?_,A++[r],_,rfl,by rw[List.length_append,la];rfl,u',rfl⟩
  rw[show rds (A++[r])=rds A++[r.d] from aG6 A [r]]
  generalize xs.map D.int=XS at *
  generalize ns.map D.int=X at *
  generalize rds A=R at *
  generalize r.d=rd at *
  have q:eF g_0 (aC (eV 1) (aC (eF d_3 (aC (eF b_8 (aC (eV 0) (aC (e2 f_8 (eC (.int 1)) (eV 2)) aN))) (aC (eC (.int 60)) aN))) aN)) [.im (.lst X),.im (.lst R),.im (.int i),.no,.no,.no]=some (rd,[.im (.lst X),.im (.lst R),.im (.int i),.no,.no,.no]):=by simp[ec,ex,er]
  have h:eHoldL 1 (eF g_0 (aC (eV 1) (aC (eF d_3 (aC (eF b_8 (aC (eV 0) (aC (e2 f_8 (eC (.int 1)) (eV 2)) aN))) (aC (eC (.int 60)) aN))) aN))) [.im (.lst X),.ow false (.lst R),.im (.int i),.no,.no,.no]=some (rd,[.im (.lst X),.ow false (.lst R),.im (.int i),.no,.no,.no]):=by
   exact aN5 rfl rfl rfl q pl
  show aq0 1 (eHoldL 1 _) _=_
  generalize eHoldL 1 (eF g_0 (aC (eV 1) (aC (eF d_3 (aC (eF b_8 (aC (eV 0) (aC (e2 f_8 (eC (.int 1)) (eV 2)) aN))) (aC (eC (.int 60)) aN))) aN)))=EE at *
  simp[h,l6]
 obtain⟨ρ',e,A,s2,rfl,la,u,h2⟩:=s_7 (g:=gN 2) (B:=p_8) (PW (.lst (ns.map .int))) n 0 [.im (.lst (ns.map .int)),.ow false (.lst []),.no,.no,.no,.no] (λ i ρ _ hi p=>turn i ρ (by omega) p) ⟨[],_,rfl,rfl,⟨trivial,rfl,by decide⟩,rfl⟩
 have e:fGo (gN 2) p_8 (r_5 0 n) [.im (.lst (ns.map .int)),.ow false (.lst []),.no,.no,.no,.no]=_:=e;have h0:A≠[]:=λ z=>by rw[z] at la;simp at la;omega
 have ul:=u.len;have wk:=an9 u.good h0 ul
 have cw:cGo tYes (eF d_0 (aC (eV 0) aN)) [] (rds A)=some (A.map λ r=>.str (txR r)):=v_4 A λ r hr=>by
  obtain⟨Q,ok,_⟩:=u.row hr;have x:=(U_2 ok.rd).1
  generalize r.d=rd at *
  simp[x]
 have lz:(rds A).length<=sizeLine:=a_5 (by rw[ab3];omega)
 have jn:L_3 (Str.ofString "\n") (A.map λ r=>.str (txR r))=some (.str (Str.join lf (A.map txR))):=by
  have sm:∀ l:List Rw,(∀ r∈l,(txR r).length<=400)->((l.map txR).map (·.length)).sum<=400*l.length:=λ l=>by
   induction l with
   |nil=>intro _;exact qj _
   |cons a r ih =>
    intro h;have:=ih λ s hs=>h s (qh _ hs)
    have:=h a qg;simp only[List.map_cons,List.sum_cons,List.length_cons];omega
  have:=Q_4 lf (A.map txR) (by
   have:=sm A λ r hr=>by
    obtain⟨Q,ok,_⟩:=u.row hr;exact (U_2 ok.rd).2.2.2
   have:lf.length=1:=by decide +kernel
   rw[this,List.length_map];omega)
  rw[List.map_map] at this;exact this
 have cs:cGo tYes (eF h_2 (aC (eV 0) aN)) [] (rds A)=some (A.map λ r=>.str (txR r)):=v_4 A λ r hr=>by
  obtain⟨Q,ok,_⟩:=u.row hr;have x:=ap0 ok.frl (U_2 ok.rd).1
  generalize r.d=rd at *
  simp[x]
 have tr:∀ (L:List Rw) (s5:Sl),U_9 s5=true->(∀ r∈L,r∈A)->∃ s5',U_9 s5'=true/\fGo (gN 5) p_7 (rds L) [.im (.lst (ns.map .int)),.im (.lst (rds A)),s2,.im (.str (Str.join lf (A.map txR))),.ow false (.lst (rds A)),s5]=some (.nx [.im (.lst (ns.map .int)),.im (.lst (rds A)),s2,.im (.str (Str.join lf (A.map txR))),.ow false (.lst (rds A)),s5']):=λ L=>by
  induction L with
  |nil=>intro s5 h5 _;exact⟨s5,h5,rfl⟩
  |cons r q ih =>
   intro s5 h5 h;obtain⟨b,hb,e⟩:=ih (.im r.d) rfl λ x hx=>h x (qh _ hx)
   refine⟨b,hb,?_⟩;rw[O_6,L_7];show fGa _ _ _ (some [.im (.lst (ns.map .int)),.im (.lst (rds A)),s2,.im (.str (Str.join lf (A.map txR))),.ow false (.lst (rds A)),.im r.d])=_;rw[W_1,bo4 u (h r List.mem_cons_self) _ _ s2 h2,G_3,e]
 obtain⟨b,hb,et⟩:=tr A .no rfl λ _ h=>h
 have b1:-4611686018427387904<=(n:Int):=by omega
 have b2:(n:Int)<4611686018427387904:=by omega
 have d24:i_5 24=true:=f_5 (by decide) (by decide)
 have qn:=aK4 u.dp;have qe:=by1 u.dp;have ni:=aA7 (bc0 u)
 have hfst:∃ (rd:D) (nm:Str),a_8 (.lst (rds A)) (.int 0)=some rd/\a_8 rd (.int 1)=some (.str nm):=by
  cases A with
  |nil=>exact absurd rfl h0
  |cons a q=>exact⟨a.d,a.nm,by show atD (a.d::rds q) 0=_;unfold atD dPl;rw[if_pos (by decide),if_pos (by rw[List.length_cons];omega)];rfl,aG2 a⟩
 obtain⟨rd,nm,f0,f1⟩:=hfst;have n0:b_5 [.lst [],.str nm]=some .non:=aA7 (A:=[]) (by simp)
 generalize (A.map λ r=>D.str (txR r))=TS at *
 generalize rds A=R at *
 generalize Str.join lf (A.map txR)=J at *
 generalize ns.map D.int=X at *
 have sw:d_1 [.lst R]=some (.str J):=by
  simp[d_1,p_1,cs,jn,lz]
 have t1:=aN6 (X:=X) (R:=R) (J:=J) (s5:=.no) h2 rfl (T:=tOr (tNot (tV (eTy .list (eV 4)))) (tOr (tB (e2 dNe (eV 4) (eV 1))) (tB (e2 dNe (eF d_1 (aC (eF s_0 (aC (eV 1) aN)) aN)) (eV 3))))) (b:=false) (by
  have:dNe (.str J) (.str J)=some (.bl false):=aK4 (Nat.zero_le _);simp[-bK7,qn,sw,this])
 have t2:=aN6 (X:=X) (R:=R) (J:=J) (s5:=b) h2 hb (T:=tOr (tB (e2 l_8 (eF b_5 (aC (eV 4) (aC (eC (.str "iii")) aN))) (eC .non))) (tB (e2 l_8 (eF b_5 (aC (k_1 aN) (aC (e2 a_8 (e2 a_8 (eV 1) (eC (.int 0))) (eC (.int 1))) aN))) (eC .non)))) (b:=false) (by
  have ni:b_5 [.lst R,.str "iii"]=some .non:=ni;simp[ni,n0,f0,f1])
 unfold V_3;have hb_:bh9=b_4 (aa7 1 (aK0 aN)) (b_4 (w_0 (gN 2) (rng1 (e2 f_8 (eC (.int 1)) (e2 g_6 (eF b_8 (aC (eV 0) (aC (eC (.int 0)) aN))) (eC (.int 24))))) p_8) (b_4 (O_0 1 (e_6 3 (r_9 (Str.ofString "\n") (eLC [] (eV 1) tYes (eF d_0 (aC (eV 0) aN)))))) (b_4 (aX4 4 d_7 (aC (eV 3) aN)) (b_4 (sIf (tHoldL 4 (tOr (tNot (tV (eTy .list (eV 4)))) (tOr (tB (e2 dNe (eV 4) (eV 1))) (tB (e2 dNe (eF d_1 (aC (eF s_0 (aC (eV 1) aN)) aN)) (eV 3)))))) (c_9 (eC (.bl false))) sN) (b_4 (al0 (gN 5) (eV 1) p_7) (b_4 (sIf (tHoldL 4 (tOr (tB (e2 l_8 (eF b_5 (aC (eV 4) (aC (eC (.str "iii")) aN))) (eC .non))) (tB (e2 l_8 (eF b_5 (aC (k_1 aN) (aC (e2 a_8 (e2 a_8 (eV 1) (eC (.int 0))) (eC (.int 1))) aN))) (eC .non))))) (c_9 (eC (.bl false))) sN) (b_4 (aX6 4) (c_9 (e2 dEq (eNL d_7 (aC (eV 3) aN)) (eV 1)))))))))):=rfl;rw[hb_]
 clear hb_
 generalize tHoldL 4 (tOr (tNot (tV (eTy .list (eV 4)))) (tOr (tB (e2 dNe (eV 4) (eV 1))) (tB (e2 dNe (eF d_1 (aC (eF s_0 (aC (eV 1) aN)) aN)) (eV 3)))))=T1 at *
 generalize tHoldL 4 (tOr (tB (e2 l_8 (eF b_5 (aC (eV 4) (aC (eC (.str "iii")) aN))) (eC .non))) (tB (e2 l_8 (eF b_5 (aC (k_1 aN) (aC (e2 a_8 (e2 a_8 (eV 1) (eC (.int 0))) (eC (.int 1))) aN))) (eC .non))))=T2 at *
 generalize hl1:fGo (gN 2) p_8=G1 at *
 generalize hl2:fGo (gN 5) p_7=G2 at *
 simp[-aw3,List.replicate,e0,f24,d24,hn,b1,b2,hl1,e,cw,lz,jn,wk,hl2,et,t1,t2,qe]
end Fx
namespace Fx
open PySem PySem.Spec PyProof.Rows L2
theorem D_6 {K:Frag}{H:Hp}:∀ ns:List Int,Reps K H (ns.map D.int) (ns.map V.int)
 |[]=>Reps.nil_
 |n::r=>Reps.cons (c_8 H n) (D_6 r)
inductive EntF (K:Frag) (x:Str) (st:Stmt) (f:Addr):Prop
 |mk {od an:Option Addr}{sl:Array (Option Value)}{oc kV dc pm cd ct:Value} (a:nsIn K mainGlobals x=some (some (.ref f))) (l:K.lookup f=some ⟨oc,od,.func (fnOf x x (q_0 st) (k_7 st) (a_1 st) .none kV dc pm an cd ct),sl⟩) (c:codeIn K cd x=true) (k:keepIn K (.ref f)=true):EntF K x st f
theorem us1 {P:List Value->Prop} (h:∀ a0,P [a0]):∀ us:List Value,us.length=1->P us:=λ us hl=>by
 cases us with
 |nil=>exact absurd hl (by simp)
 |cons a0 us =>
 cases us with
 |nil=>exact h _
 |cons b us=>exact absurd hl (by simp)
theorem us2 {P:List Value->Prop} (h:∀ a0 a1,P [a0,a1]):∀ us:List Value,us.length=2->P us:=λ us hl=>by
 cases us with
 |nil=>exact absurd hl (by simp)
 |cons a0 us =>
 cases us with
 |nil=>exact absurd hl (by simp)
 |cons a1 us =>
 cases us with
 |nil=>exact h _ _
 |cons b us=>exact absurd hl (by simp)
theorem us3 {P:List Value->Prop} (h:∀ a0 a1 a2,P [a0,a1,a2]):∀ us:List Value,us.length=3->P us:=λ us hl=>by
 cases us with
 |nil=>exact absurd hl (by simp)
 |cons a0 us =>
 cases us with
 |nil=>exact absurd hl (by simp)
 |cons a1 us =>
 cases us with
 |nil=>exact absurd hl (by simp)
 |cons a2 us =>
 cases us with
 |nil=>exact h _ _ _
 |cons b us=>exact absurd hl (by simp)
theorem us4 {P:List Value->Prop} (h:∀ a0 a1 a2 a3,P [a0,a1,a2,a3]):∀ us:List Value,us.length=4->P us:=λ us hl=>by
 cases us with
 |nil=>exact absurd hl (by simp)
 |cons a0 us =>
 cases us with
 |nil=>exact absurd hl (by simp)
 |cons a1 us =>
 cases us with
 |nil=>exact absurd hl (by simp)
 |cons a2 us =>
 cases us with
 |nil=>exact absurd hl (by simp)
 |cons a3 us =>
 cases us with
 |nil=>exact h _ _ _ _
 |cons b us=>exact absurd hl (by simp)
theorem us5 {P:List Value->Prop} (h:∀ a0 a1 a2 a3 a4,P [a0,a1,a2,a3,a4]):∀ us:List Value,us.length=5->P us:=λ us hl=>by
 cases us with
 |nil=>exact absurd hl (by simp)
 |cons a0 us =>
 cases us with
 |nil=>exact absurd hl (by simp)
 |cons a1 us =>
 cases us with
 |nil=>exact absurd hl (by simp)
 |cons a2 us =>
 cases us with
 |nil=>exact absurd hl (by simp)
 |cons a3 us =>
 cases us with
 |nil=>exact absurd hl (by simp)
 |cons a4 us =>
 cases us with
 |nil=>exact h _ _ _ _ _
 |cons b us=>exact absurd hl (by simp)
theorem all_mk {l:OpenLaw}{w:World}{K:Frag}{h:Heap}{mg:Str → Option Value}{fa f1 f2 f3 f4 f5 f6 f7 f8 f9 f10 f11 f12 f13 f14 f15 f16 f17 f18 f19 f20 f21 f22 f23 f24 f25 f26:Addr} (X:K.In h) (G:h.Ns mainGlobals mg) (hfa:mg "law"=some (.ref fa))
  (e1:EntF K "is_key" m_5 f1)
  (e2:EntF K "is_number" h_1 f2)
  (e3:EntF K "places_of" k_4 f3)
  (e4:EntF K "fits" N_9 f4)
  (e5:EntF K "word_value" i_9 f5)
  (e6:EntF K "in_order" m_6 f6)
  (e7:EntF K "are_unlike" j_3 f7)
  (e8:EntF K "keeps_bounds" h_4 f8)
  (e9:EntF K "read_row" e_7 f9)
  (e10:EntF K "bears_bounds" h_5 f10)
  (e11:EntF K "stands_right" c_3 f11)
  (e12:EntF K "read_works" j_0 f12)
  (e13:EntF K "shown_row" k_2 f13)
  (e14:EntF K "shown_works" f_1 f14)
  (e15:EntF K "row_named" k_3 f15)
  (e16:EntF K "_law_cell_at" i_0 f16)
  (e17:EntF K "_law_digits" j_2 f17)
  (e18:EntF K "_law_number" j_1 f18)
  (e19:EntF K "_law_two" o_6 f19)
  (e20:EntF K "_law_keys" m_3 f20)
  (e21:EntF K "_law_chain" g_9 f21)
  (e22:EntF K "_law_fold" m_4 f22)
  (e23:EntF K "_law_asked" h_0 f23)
  (e24:EntF K "_law_row" e_5 f24)
  (e25:EntF K "_law_words" k_5 f25)
  (e26:EntF K "law" z_6 f26)
  {tc1:_} (y1:nsIn K mainGlobals "LETTERS"=some (some (.str "abcdefghijklmnopqrstuvwxyz" tc1))) {tc2:_} (y2:nsIn K mainGlobals "LONGEST"=some (some (.int 8 tc2))) {tec30:_}{tec31:_}{tec32:_}{tec33:_}{tec34:_}{tec35:_}{tec36:_}{tec37:_}{tec38:_}{tec39:_}{ec3:Addr}{nec3:Nat}{slec3:Array (Option Value)} (lec3:K.lookup ec3=some ⟨.type "tuple",none,.seq #[.str "in" tec30,.str "time" tec31,.str "only" tec32,.str "but" tec33,.str "span" tec34,.str "rest" tec35,.str "turn" tec36,.str "later" tec37,.str "put" tec38,.str "pour" tec39] nec3,slec3⟩) (y3:nsIn K mainGlobals "CHAINS"=some (some (.ref ec3))) {tec40:_}{tec41:_}{tec42:_}{tec43:_}{ec4:Addr}{nec4:Nat}{slec4:Array (Option Value)} (lec4:K.lookup ec4=some ⟨.type "tuple",none,.seq #[.str "fixed" tec40,.str "slide" tec41,.str "gaps" tec42,.str "ever" tec43] nec4,slec4⟩) (y4:nsIn K mainGlobals "FOLDS"=some (some (.ref ec4))) {tec50:_}{tec51:_}{tec52:_}{ec5:Addr}{nec5:Nat}{slec5:Array (Option Value)} (lec5:K.lookup ec5=some ⟨.type "tuple",none,.seq #[.str "FROM" tec50,.str "LEFT" tec51,.str "RIGHT" tec52] nec5,slec5⟩) (y5:nsIn K mainGlobals "FROM_PLACES"=some (some (.ref ec5))) {tec60:_}{tec61:_}{tec62:_}{tec63:_}{tec64:_}{tec65:_}{ec6:Addr}{nec6:Nat}{slec6:Array (Option Value)} (lec6:K.lookup ec6=some ⟨.type "tuple",none,.seq #[.str "NAME" tec60,.str "FROM" tec61,.str "LEFT" tec62,.str "RIGHT" tec63,.str "KEY" tec64,.str "OTHER" tec65] nec6,slec6⟩) (y6:nsIn K mainGlobals "KEY_PLACES"=some (some (.ref ec6))) {tec70:_}{tec71:_}{tec72:_}{ec7:Addr}{nec7:Nat}{slec7:Array (Option Value)} (lec7:K.lookup ec7=some ⟨.type "tuple",none,.seq #[.str "LOW" tec70,.str "HIGH" tec71,.str "END" tec72] nec7,slec7⟩) (y7:nsIn K mainGlobals "BOUND_PLACES"=some (some (.ref ec7))) {tec80:_}{tec81:_}{tec82:_}{tec83:_}{ec8:Addr}{nec8:Nat}{slec8:Array (Option Value)} (lec8:K.lookup ec8=some ⟨.type "tuple",none,.seq #[.str "sum" tec80,.str "less" tec81,.str "left" tec82,.str "right" tec83] nec8,slec8⟩) (y8:nsIn K mainGlobals "HOWS"=some (some (.ref ec8))) {tec90:_}{tec91:_}{tec92:_}{tec93:_}{ec9:Addr}{nec9:Nat}{slec9:Array (Option Value)} (lec9:K.lookup ec9=some ⟨.type "tuple",none,.seq #[.str "count" tec90,.str "sum" tec91,.str "most" tec92,.str "least" tec93] nec9,slec9⟩) (y9:nsIn K mainGlobals "FOLD_WORDS"=some (some (.ref ec9))) {tc10:_} (y10:nsIn K mainGlobals "FIGURES"=some (some (.str "0123456789" tc10))) {tc11:_} (y11:nsIn K mainGlobals "MOST_FIGURES"=some (some (.int 12 tc11))) {tc12:_} (y12:nsIn K mainGlobals "MOST_ROWS"=some (some (.int 24 tc12))) {tc13:_} (y13:nsIn K mainGlobals "MOST_COUNTED"=some (some (.int 50 tc13)))
  {ted0_0:Tok}{tk0_0:Tok}{ted0_1:Tok}{tk0_1:Tok}{ted0_2:Tok}{tk0_2:Tok}{ted0_3:Tok}{tk0_3:Tok}{ted0_4:Tok}{tk0_4:Tok}{ted0_5:Tok}{tk0_5:Tok}{ted0_6:Tok}{tk0_6:Tok}{ted0_7:Tok}{tk0_7:Tok}{ted0_8:Tok}{tk0_8:Tok}{ted0_9:Tok}{tk0_9:Tok}{ted0_10:Tok}{tk0_10:Tok}{ted0_11:Tok}{tk0_11:Tok}{ted0_12:Tok}{tk0_12:Tok}{ted0_13:Tok}{tk0_13:Tok}{ted0_14:Tok}{tk0_14:Tok}{ted0_15:Tok}{tk0_15:Tok}{ed0:Addr}{ned0:Nat} (led0:K.lookup ed0=some {cls:=.type "dict",data:=.dict #[⟨PyData.keyHash w.params (Str.ofString "in"),.str "in" tk0_0,.str "NAME LOW HIGH" ted0_0⟩,⟨PyData.keyHash w.params (Str.ofString "time"),.str "time" tk0_1,.str "NAME FROM BEGIN END" ted0_1⟩,⟨PyData.keyHash w.params (Str.ofString "only"),.str "only" tk0_2,.str "NAME FROM KEY .." ted0_2⟩,⟨PyData.keyHash w.params (Str.ofString "but"),.str "but" tk0_3,.str "NAME FROM KEY .." ted0_3⟩,⟨PyData.keyHash w.params (Str.ofString "span"),.str "span" tk0_4,.str "NAME FROM LOW HIGH" ted0_4⟩,⟨PyData.keyHash w.params (Str.ofString "rest"),.str "rest" tk0_5,.str "NAME FROM M R" ted0_5⟩,⟨PyData.keyHash w.params (Str.ofString "turn"),.str "turn" tk0_6,.str "NAME FROM A B" ted0_6⟩,⟨PyData.keyHash w.params (Str.ofString "later"),.str "later" tk0_7,.str "NAME FROM C" ted0_7⟩,⟨PyData.keyHash w.params (Str.ofString "put"),.str "put" tk0_8,.str "NAME FROM KEY OTHER .." ted0_8⟩,⟨PyData.keyHash w.params (Str.ofString "pour"),.str "pour" tk0_9,.str "NAME FROM FROM .." ted0_9⟩,⟨PyData.keyHash w.params (Str.ofString "pair"),.str "pair" tk0_10,.str "NAME LEFT RIGHT REACH HOW" ted0_10⟩,⟨PyData.keyHash w.params (Str.ofString "fixed"),.str "fixed" tk0_11,.str "NAME FROM WIDTH FOLD" ted0_11⟩,⟨PyData.keyHash w.params (Str.ofString "slide"),.str "slide" tk0_12,.str "NAME FROM WIDTH STEP FOLD" ted0_12⟩,⟨PyData.keyHash w.params (Str.ofString "gaps"),.str "gaps" tk0_13,.str "NAME FROM GAP FOLD" ted0_13⟩,⟨PyData.keyHash w.params (Str.ofString "ever"),.str "ever" tk0_14,.str "NAME FROM FOLD" ted0_14⟩,⟨PyData.keyHash w.params (Str.ofString "ask"),.str "ask" tk0_15,.str "NAME FROM" ted0_15⟩] ned0}) (ysd0:(ed0==sysModules)=false) (yd0:nsIn K mainGlobals "FORMS"=some (some (.ref ed0)))
  (z1:nsIn K mainGlobals "abs"=some none) (z2:nsIn K mainGlobals "len"=some none) (z3:nsIn K mainGlobals "max"=some none) (z4:nsIn K mainGlobals "min"=some none) (z5:nsIn K mainGlobals "any"=some none) (z6:nsIn K mainGlobals "all"=some none) (z7:nsIn K mainGlobals "range"=some none) (z8:nsIn K mainGlobals "isinstance"=some none) (z9:nsIn K mainGlobals "int"=some none) (z10:nsIn K mainGlobals "bool"=some none) (z11:nsIn K mainGlobals "str"=some none) (z12:nsIn K mainGlobals "tuple"=some none) (z13:nsIn K mainGlobals "list"=some none) (z14:nsIn K mainGlobals "sorted"=some none) (z15:nsIn K mainGlobals "dict"=some none) (z16:nsIn K mainGlobals "set"=some none) (z17:nsIn K mainGlobals "sum"=some none) (z18:nsIn K mainGlobals "zip"=some none) (z19:nsIn K mainGlobals "enumerate"=some none) (z20:nsIn K mainGlobals "reversed"=some none) :
  ∃ fd:FuncData,(∀ (s:Shared) (v:Value),BindsTo s fd ⟨[v],[]⟩ [("_law_script",v)]) ∧ ∀ base:Heap,K.In base → base.Ns mainGlobals mg → FnOk l.prog w K mg base CX0 5 fa fd ["_law_script"] (spP K V_3):=by
 obtain⟨a1,l1,c1,k1⟩:=e1;obtain⟨a2,l2,c2,k2⟩:=e2;obtain⟨a3,l3,c3,k3⟩:=e3;obtain⟨a4,l4,c4,k4⟩:=e4;obtain⟨a5,l5,c5,k5⟩:=e5;obtain⟨a6,l6,c6,k6⟩:=e6;obtain⟨a7,l7,c7,k7⟩:=e7;obtain⟨a8,l8,c8,k8⟩:=e8;obtain⟨a9,l9,c9,k9⟩:=e9;obtain⟨a10,l10,c10,k10⟩:=e10;obtain⟨a11,l11,c11,k11⟩:=e11;obtain⟨a12,l12,c12,k12⟩:=e12;obtain⟨a13,l13,c13,k13⟩:=e13;obtain⟨a14,l14,c14,k14⟩:=e14;obtain⟨a15,l15,c15,k15⟩:=e15;obtain⟨a16,l16,c16,k16⟩:=e16;obtain⟨a17,l17,c17,k17⟩:=e17;obtain⟨a18,l18,c18,k18⟩:=e18;obtain⟨a19,l19,c19,k19⟩:=e19;obtain⟨a20,l20,c20,k20⟩:=e20;obtain⟨a21,l21,c21,k21⟩:=e21;obtain⟨a22,l22,c22,k22⟩:=e22;obtain⟨a23,l23,c23,k23⟩:=e23;obtain⟨a24,l24,c24,k24⟩:=e24;obtain⟨a25,l25,c25,k25⟩:=e25;obtain @⟨od26,an26,sl26,oc26,kV26,dc26,pm26,cd26,ct26,a26,l26,c26,k26⟩:=e26;have e:=hfa.symm.trans (mg_of X G a26);cases e;have T:Blt w K mg:=⟨mg_none_of X G z1,mg_none_of X G z2,mg_none_of X G z3,mg_none_of X G z4,mg_none_of X G z5,mg_none_of X G z6,mg_none_of X G z7,mg_none_of X G z8,mg_none_of X G z9,mg_none_of X G z10,mg_none_of X G z11,mg_none_of X G z12,mg_none_of X G z13,mg_none_of X G z14,mg_none_of X G z15,mg_none_of X G z16,mg_none_of X G z17,mg_none_of X G z18,mg_none_of X G z19,mg_none_of X G z20,⟨_,mg_of X G y1⟩,⟨_,mg_of X G y2⟩,⟨_,mg_of X G y3,(u_4 lec3 (by simp) (b_2 b_7 (b_2 b_7 (b_2 b_7 (b_2 b_7 (b_2 b_7 (b_2 b_7 (b_2 b_7 (b_2 b_7 (b_2 b_7 (b_2 b_7 n_8)))))))))))⟩,⟨_,mg_of X G y4,(u_4 lec4 (by simp) (b_2 b_7 (b_2 b_7 (b_2 b_7 (b_2 b_7 n_8)))))⟩,⟨_,mg_of X G y5,(u_4 lec5 (by simp) (b_2 b_7 (b_2 b_7 (b_2 b_7 n_8))))⟩,⟨_,mg_of X G y6,(u_4 lec6 (by simp) (b_2 b_7 (b_2 b_7 (b_2 b_7 (b_2 b_7 (b_2 b_7 (b_2 b_7 n_8)))))))⟩,⟨_,mg_of X G y7,(u_4 lec7 (by simp) (b_2 b_7 (b_2 b_7 (b_2 b_7 n_8))))⟩,⟨_,mg_of X G y8,(u_4 lec8 (by simp) (b_2 b_7 (b_2 b_7 (b_2 b_7 (b_2 b_7 n_8)))))⟩,⟨_,mg_of X G y9,(u_4 lec9 (by simp) (b_2 b_7 (b_2 b_7 (b_2 b_7 (b_2 b_7 n_8)))))⟩,⟨_,mg_of X G y10⟩,⟨_,mg_of X G y11⟩,⟨_,mg_of X G y12⟩,⟨_,mg_of X G y13⟩,⟨_,mg_of X G yd0,_,_,led0,ysd0,(.cons b_7 (.cons b_7 (.cons b_7 (.cons b_7 (.cons b_7 (.cons b_7 (.cons b_7 (.cons b_7 (.cons b_7 (.cons b_7 (.cons b_7 (.cons b_7 (.cons b_7 (.cons b_7 (.cons b_7 (.cons b_7 .nil)))))))))))))))),by decide⟩⟩
 have F1:=e_2 (st:=m_5) l1 c1 k1;have b1:=F1.binds (ps:=["x"]) λ _ _ _ _ _ _=>us1 λ _=>rfl
 have F2:=e_2 (st:=h_1) l2 c2 k2;have b2:=F2.binds (ps:=["word"]) λ _ _ _ _ _ _=>us1 λ _=>rfl
 have F3:=e_2 (st:=k_4) l3 c3 k3;have b3:=F3.binds (ps:=["word","count"]) λ _ _ _ _ _ _=>us2 λ _ _=>rfl
 have F4:=e_2 (st:=N_9) l4 c4 k4;have b4:=F4.binds (ps:=["place","word"]) λ _ _ _ _ _ _=>us2 λ _ _=>rfl
 have F5:=e_2 (st:=i_9) l5 c5 k5;have b5:=F5.binds (ps:=["word"]) λ _ _ _ _ _ _=>us1 λ _=>rfl
 have F6:=e_2 (st:=m_6) l6 c6 k6;have b6:=F6.binds (ps:=["low","high"]) λ _ _ _ _ _ _=>us2 λ _ _=>rfl
 have F7:=e_2 (st:=j_3) l7 c7 k7;have b7:=F7.binds (ps:=["names"]) λ _ _ _ _ _ _=>us1 λ _=>rfl
 have F8:=e_2 (st:=h_4) l8 c8 k8;have b8:=F8.binds (ps:=["word","froms","rest"]) λ _ _ _ _ _ _=>us3 λ _ _ _=>rfl
 have F9:=e_2 (st:=e_7) l9 c9 k9;have b9:=F9.binds (ps:=["text"]) λ _ _ _ _ _ _=>us1 λ _=>rfl
 have F10:=e_2 (st:=h_5) l10 c10 k10;have b10:=F10.binds (ps:=["fold","above","low"]) λ _ _ _ _ _ _=>us3 λ _ _ _=>rfl
 have F11:=e_2 (st:=c_3) l11 c11 k11;have b11:=F11.binds (ps:=["row","above"]) λ _ _ _ _ _ _=>us2 λ _ _=>rfl
 have F12:=e_2 (st:=j_0) l12 c12 k12;have b12:=F12.binds (ps:=["text"]) λ _ _ _ _ _ _=>us1 λ _=>rfl
 have F13:=e_2 (st:=k_2) l13 c13 k13;have b13:=F13.binds (ps:=["row"]) λ _ _ _ _ _ _=>us1 λ _=>rfl
 have F14:=e_2 (st:=f_1) l14 c14 k14;have b14:=F14.binds (ps:=["works"]) λ _ _ _ _ _ _=>us1 λ _=>rfl
 have F15:=e_2 (st:=k_3) l15 c15 k15;have b15:=F15.binds (ps:=["works","name"]) λ _ _ _ _ _ _=>us2 λ _ _=>rfl
 have F16:=e_2 (st:=i_0) l16 c16 k16;have b16:=F16.binds (ps:=["_law_script","_law_k"]) λ _ _ _ _ _ _=>us2 λ _ _=>rfl
 have F17:=e_2 (st:=j_2) l17 c17 k17;have b17:=F17.binds (ps:=["_law_cell","_law_many"]) λ _ _ _ _ _ _=>us2 λ _ _=>rfl
 have F18:=e_2 (st:=j_1) l18 c18 k18;have b18:=F18.binds (ps:=["_law_digits_here","_law_at"]) λ _ _ _ _ _ _=>us2 λ _ _=>rfl
 have F19:=e_2 (st:=o_6) l19 c19 k19;have b19:=F19.binds (ps:=["_law_digits_here","_law_at"]) λ _ _ _ _ _ _=>us2 λ _ _=>rfl
 have F20:=e_2 (st:=m_3) l20 c20 k20;have b20:=F20.binds (ps:=["_law_digits_here","_law_at","_law_many"]) λ _ _ _ _ _ _=>us3 λ _ _ _=>rfl
 have F21:=e_2 (st:=g_9) l21 c21 k21;have b21:=F21.binds (ps:=["_law_word","_law_digits_here"]) λ _ _ _ _ _ _=>us2 λ _ _=>rfl
 have F22:=e_2 (st:=m_4) l22 c22 k22;have b22:=F22.binds (ps:=["_law_word","_law_digits_here","_law_summed"]) λ _ _ _ _ _ _=>us3 λ _ _ _=>rfl
 have F23:=e_2 (st:=h_0) l23 c23 k23;have b23:=F23.binds (ps:=["_law_fold_here","_law_above","_law_digits_here"]) λ _ _ _ _ _ _=>us3 λ _ _ _=>rfl
 have F24:=e_2 (st:=e_5) l24 c24 k24;have b24:=F24.binds (ps:=["_law_above","_law_digits_here"]) λ _ _ _ _ _ _=>us2 λ _ _=>rfl
 have F25:=e_2 (st:=k_5) l25 c25 k25;have b25:=F25.binds (ps:=["_law_row_here"]) λ _ _ _ _ _ _=>us1 λ _=>rfl
 have F26:=e_2 (st:=z_6) l26 c26 k26;have b26:=F26.binds (ps:=["_law_script"]) λ _ _ _ _ _ _=>us1 λ _=>rfl
 refine⟨fnOf "law" "law" (q_0 z_6) (k_7 z_6) (a_1 z_6) .none kV26 dc26 pm26 an26 cd26 ct26,λ s v=>.of_eq rfl,λ base _ _=>?_⟩
 have G1:DefOk l.prog w K mg base 1 "is_key" m_8:=ac8 F1 b1 (mg_of X G a1) T;have G2:DefOk l.prog w K mg base 1 "is_number" c_4:=E_9 F2 b2 (mg_of X G a2) T;have G3:DefOk l.prog w K mg base 1 "places_of" c_7:=E_5 F3 b3 (mg_of X G a3) T;have G6:DefOk l.prog w K mg base 1 "in_order" m_9:=K_6 F6 b6 (mg_of X G a6) T;have G7:DefOk l.prog w K mg base 1 "are_unlike" e_1:=A_5 F7 b7 (mg_of X G a7) T;have G10:DefOk l.prog w K mg base 1 "bears_bounds" e_0:=u_0 F10 b10 (mg_of X G a10) T;have G13:DefOk l.prog w K mg base 1 "shown_row" h_2:=E_3 F13 b13 (mg_of X G a13) T;have G15:DefOk l.prog w K mg base 1 "row_named" b_5:=E_4 F15 b15 (mg_of X G a15) T;have G16:DefOk l.prog w K mg base 1 "_law_cell_at" b_8:=w_3 F16 b16 (mg_of X G a16) T;have G17:DefOk l.prog w K mg base 1 "_law_digits" d_3:=A_4 F17 b17 (mg_of X G a17) T;have G18:DefOk l.prog w K mg base 1 "_law_number" a_4:=A_3 F18 b18 (mg_of X G a18) T;have G20:DefOk l.prog w K mg base 1 "_law_keys" c_1:=K_4 F20 b20 (mg_of X G a20) T;have G25:DefOk l.prog w K mg base 1 "_law_words" d_0:=E_6 F25 b25 (mg_of X G a25) T;have G4:DefOk l.prog w K mg base 2 "fits" g_1:=aJ7 F4 b4 (mg_of X G a4) T G1 G2;have G5:DefOk l.prog w K mg base 2 "word_value" c_2:=A_1 F5 b5 (mg_of X G a5) T G2;have G8:DefOk l.prog w K mg base 2 "keeps_bounds" a_2:=t_9 F8 b8 (mg_of X G a8) T G7 G6;have G11:DefOk l.prog w K mg base 2 "stands_right" b_6:=t_8 F11 b11 (mg_of X G a11) T G10;have G14:DefOk l.prog w K mg base 2 "shown_works" d_1:=w_2 F14 b14 (mg_of X G a14) T G13;have G19:DefOk l.prog w K mg base 2 "_law_two" g_7:=U_7 F19 b19 (mg_of X G a19) T G18;have G22:DefOk l.prog w K mg base 2 "_law_fold" g_5:=K_5 F22 b22 (mg_of X G a22) T G18;have G9:DefOk l.prog w K mg base 3 "read_row" f_2:=K_3 F9 b9 (mg_of X G a9) T G4 G8 G3 G5;have G21:DefOk l.prog w K mg base 3 "_law_chain" b_9:=E_7 F21 b21 (mg_of X G a21) T G20 G18 G19;have G23:DefOk l.prog w K mg base 3 "_law_asked" g_4:=E_8 F23 b23 (mg_of X G a23) T G19;have G12:DefN l.prog w K mg base 4 "read_works" d_7:=A_2 F12 b12 (mg_of X G a12) T G9 G11;have G24:DefOk l.prog w K mg base 4 "_law_row" g_0:=U_8 F24 b24 (mg_of X G a24) T G23 G21 G22 G20 G18;exact bf1 F26 T G16 G17 G24 G25 G12 G15 G14
theorem walk {l:OpenLaw}{q:Program}{loose:List Str}{XP:(Str->Option Value)->Heap->Prop}{YP:World->Heap->Prop}{d:DefRec}{K:Params->Frag} (hn:l.most=some 63) (hdf:d.params.defaults=[])
  (hY:∀ (w:World) (h:Heap),YP w h->(K w.params).In h)
  (F:∀ (w:World) (mg:Str->Option Value) (fa:Addr) (h:Heap),(K w.params).In h->h.Ns mainGlobals mg->mg d.name=some (.ref fa) ->
   ∃ fd:FuncData,(∀ (s:Shared) (u:Value),BindsTo s fd ⟨[u],[]⟩ [("_law_script",u)]) ∧ ∀ base:Heap,(K w.params).In base → base.Ns mainGlobals mg → FnOk l.prog w (K w.params) mg base CX0 5 fa fd ["_law_script"] (spP (K w.params) V_3)) :
  PySem.W.WalkO q loose XP YP l.row.toRowW d [] (λ f vs=>PySem.call f vs) :=
 L2.walk_of (n:=63) (k:=5) (x:="_law_script") (CX:=λ _=>CX0) (sp:=λ w=>spP (K w.params) V_3) hn (by decide) hdf ⟨rfl,by decide,by decide⟩ hY F
  (λ w H a ns hl _ hS=>⟨H,[.lst (ns.map .int)],.bl true,Same.refl _,Reps.one (by unfold Rep;exact⟨a,_,rfl,hS,D_6 ns⟩),law_true ns hl,λ v Hi' H' S r=>by unfold Rep at r;exact r⟩) λ _ _ _ _ _ z=>z
end Fx
open PySem PySem.W PyProof.Rows
def PySem.W.Fast.tw7845418013229590258:=0
def PySem.W.Fast.tw1579708008485492279:=0
def PySem.W.Fast.tw1511971070977759455:=0
def PySem.W.Fast.tw12544902981086025190:=0
def PySem.W.Fast.tw14458068843505596409:=0
def PySem.W.Fast.tw5357261383994107405:=0
def PySem.W.Fast.tw10467449993520039592:=0
def PySem.W.Fast.tw17868493332661132709:=0
def PySem.W.Fast.tw13564284687491276484:=0
def PySem.W.Fast.tw838143716918341924:=0
def PySem.W.Fast.tw13657491195083452187:=0
def PySem.W.Fast.tw2079303846630232494:=0
def PySem.W.Fast.tw3479409590609134462:=0
def PySem.W.Fast.tw2061325516174379469:=0
def PySem.W.Fast.tw17665292925991228013:=0
def PySem.W.Fast.tw3577884636245073052:=0
def PySem.W.Fast.tw16945498796820452767:=0
def PySem.W.Fast.tw10551669633928490926:=0
def PySem.W.Fast.tw11507740301360127064:=0
def PySem.W.Fast.tw7389233359569481828:=0
def PySem.W.Fast.tw17101094851633420638:=0
def PySem.W.Fast.tw9010386267361125118:=0
def PySem.W.Fast.tw17844160742068395303:=0
def PySem.W.Fast.tw16304037232729451836:=0
def PySem.W.Fast.tw13452751961020927982:=0
def PySem.W.Fast.tw1938325022728759113:=0
def PySem.W.Fast.tw15659610292917673080:=0
def PySem.W.Fast.tw15936204049098900077:=0
def PySem.W.Fast.tw2473379890362965620:=0
def PySem.W.Fast.tw5603266867389726864:=0
set_option maxRecDepth 100000 in
set_option maxHeartbeats 0 in
theorem PySem.Challenge.cw_latewell_k21_works_read_and_shown_holds : PySem.Challenge.rw_latewell_k21_works_read_and_shown.Holds := by
 w_on;o_law;k_head;(case hw=>w_witness2)
 k_fill
 refine Fx.walk (l:=PySem.Challenge.rw_latewell_k21_works_read_and_shown) rfl rfl (λ w h Y=>PySem.W.kIn_of Y) ?F
 case F =>
  intro w mg fa h KX G hmg;refine' Fx.all_mk KX G hmg ?e1 ?e2 ?e3 ?e4 ?e5 ?e6 ?e7 ?e8 ?e9 ?e10 ?e11 ?e12 ?e13 ?e14 ?e15 ?e16 ?e17 ?e18 ?e19 ?e20 ?e21 ?e22 ?e23 ?e24 ?e25 ?e26 ?y1 ?y2 ?lec3 ?y3 ?lec4 ?y4 ?lec5 ?y5 ?lec6 ?y6 ?lec7 ?y7 ?lec8 ?y8 ?lec9 ?y9 ?y10 ?y11 ?y12 ?y13 ?led0 ?ysd0 ?yd0 ?z1 ?z2 ?z3 ?z4 ?z5 ?z6 ?z7 ?z8 ?z9 ?z10 ?z11 ?z12 ?z13 ?z14 ?z15 ?z16 ?z17 ?z18 ?z19 ?z20
  all_goals try (refine' Fx.EntF.mk ?a ?l ?c ?k;(case a=>k_is);(case l=>k_is);(case c=>k_is);(case k=>k_is))
  (case y1=>k_is)
  (case y2=>k_is)
  (case y3=>k_is)
  (case y4=>k_is)
  (case y5=>k_is)
  (case y6=>k_is)
  (case y7=>k_is)
  (case y8=>k_is)
  (case y9=>k_is)
  (case y10=>k_is)
  (case y11=>k_is)
  (case y12=>k_is)
  (case y13=>k_is)
  (case lec3=>k_is)
  (case lec4=>k_is)
  (case lec5=>k_is)
  (case lec6=>k_is)
  (case lec7=>k_is)
  (case lec8=>k_is)
  (case lec9=>k_is)
  (case yd0=>k_is)
  (case ysd0=>rfl)
  (case led0=>k_is)
  (case z1=>k_is)
  (case z2=>k_is)
  (case z3=>k_is)
  (case z4=>k_is)
  (case z5=>k_is)
  (case z6=>k_is)
  (case z7=>k_is)
  (case z8=>k_is)
  (case z9=>k_is)
  (case z10=>k_is)
  (case z11=>k_is)
  (case z12=>k_is)
  (case z13=>k_is)
  (case z14=>k_is)
  (case z15=>k_is)
  (case z16=>k_is)
  (case z17=>k_is)
  (case z18=>k_is)
  (case z19=>k_is)
  (case z20=>k_is)
