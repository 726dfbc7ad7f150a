import PyProof.Rows.All
import Wide.All
import OpenK.AllK
import Wide.FinOn
import Lean
import PyProof.EqAt
import PyProof.EqKinds
import PyProof.TupleCall
import PySem.Sem
import PySem.Builtin.Int.W1All
import PyProof.StrBlockI
import PyProof.StrBlock2
import KE.KEqDict
import KE.KDictOf
import PyProof.Rows.SortStr
import PyProof.TupleOfSeq
import PyProof.AttrMissHeap
import PyProof.TupleIter
import PyProof.DictUpdate
import PyProof.ListNew
import PyProof.InstStoreFacts
import PyProof.LayNew
import PyProof.ExcInit
import PyProof.ExcClass3
import KE.KSortTup
import KE.KIntText
import PyProof.Rows.StrNews
import PyProof.Rows.StrItems
import PyProof.EnumMake
import PyProof.EnumFor
import PyProof.EnumStmt
import PyProof.EnumIter
import KE.KRevIter
import KE.KDictList
import PyProof.SetKind
import PyProof.DictKinds
import PyProof.SeqWrite
import PyProof.CollectWalk
import PyProof.FactsAll.set_1
import PyProof.FactsAll.set_2
import PyProof.FactsAll.set_3
import PyProof.Rows.SetFrom
import PyProof.Walks
import PyProof.WalksS
import PyProof.FactsAll.tuple_iterator
import PyProof.SetRoads
import PyProof.ZipIter
import PyProof.Rows.TupIter
import PyProof.TupleOfGen
import PyProof.Rows.SumAny
import KE.KDictLaws
import PyProof.Rows.SortWalk
import PyProof.AutoSeq1
import PyProof.StrLawsChain
import PyProof.StrLawsTight
import PySem.Challenge.RW_latewell_k23_rows_at_their_bounds
set_option Elab.async false
set_option linter.all false
set_option maxRecDepth 100000
set_option maxHeartbeats 4000000
noncomputable section
open PySem.W (Frag nsIn mg_of mg_none_of fnOf codeIn keepIn OpenLaw)
section
open PySem PyProof.Rows
abbrev qb:=@wpAny_bind
abbrev qc:=@wpAny_pure
abbrev qd:=@Heap.get?_push_of_some
abbrev qf:=@List.mem_cons_self
abbrev qg:=@List.mem_cons_of_mem
abbrev qh:=@Option.some.inj
abbrev qi:=@Nat.le_refl
abbrev qj:=@Heap.get?_push_size
abbrev qk:=@Heap.lt_size
abbrev ql:=@List.mem_append_right
abbrev qm:=@Bool.false_ne_true
abbrev qo:=@Nat.lt_of_lt_of_le
abbrev qp:=@Nat.ne_of_lt
theorem qr{α:Type _}{a b:α}{l:List α}(h:a∈b::l):a=b\/a∈l:=List.mem_cons.mp h
theorem qt{α:Type _}{a:α}{l k:List α}(h:a∈l++k):a∈l\/a∈k:=List.mem_append.mp h
end
namespace L2
open PySem PySem.Spec PyProof.Rows
abbrev Key:=Sum Int Str
def L_9:Key->Value->Bool
 |.inl k,v=>Value.isInt k v
 |.inr x,v=>Value.isStrOf x v
def bl6 (w:World):Key->Int
 |.inl k=>hashInt k
 |.inr x=>hashStr w x
theorem c_6:∀ {k:Key}{v:Value},L_9 k v=true->(∃ i t,k=Sum.inl i/\v=Value.int i t)\/(∃ x t,k=Sum.inr x/\v=Value.str x t)
 |.inl i,v,h=>by
  obtain⟨t,e⟩:=Value.isInt_shape (k:=i) (v:=v) h;exact .inl ⟨i,t,rfl,e⟩
 |.inr x,v,h=>by
  obtain⟨t,e⟩:=Value.isStrOf_shape (x:=x) (v:=v) h;exact .inr ⟨x,t,rfl,e⟩
theorem T_5 (i:Int) (t:Tok):L_9 (.inl i) (.int i t)=true:=by simp[L_9,Value.isInt]
theorem T_4 (x:Str) (t:Tok):L_9 (.inr x) (.str x t)=true:=by simp[L_9,Value.isStrOf]
theorem aG2 (a b:Int):decide ((Sum.inl a:Key)=Sum.inl b)=(a==b):=by
 by_cases e:a=b
 ·subst e;simp
 ·have h:¬ (Sum.inl a:Key)=Sum.inl b:=λ q=>e (Sum.inl.inj q)
  rw[decide_eq_false h];exact (beq_eq_false_iff_ne.mpr e).symm
theorem aF9 (a b:Str):decide ((Sum.inr a:Key)=Sum.inr b)=decide (a=b):=by
 by_cases e:a=b
 ·subst e;simp
 ·have h:¬ (Sum.inr a:Key)=Sum.inr b:=λ q=>e (Sum.inr.inj q)
  rw[decide_eq_false h,decide_eq_false e]
theorem aG1 (a:Int) (b:Str):decide ((Sum.inl a:Key)=Sum.inr b)=false:=decide_eq_false (λ q=>nomatch q)
theorem aG0 (a:Str) (b:Int):decide ((Sum.inr a:Key)=Sum.inl b)=false:=decide_eq_false (λ q=>nomatch q)
def c_1 (prog:Program) (w:World):PySem.KeyKind prog w Key where
 is:=L_9
 hash:=bl6 w
 inj:=λ v a b ha hb=>by
  rcases c_6 ha with ⟨i,t,rfl,rfl⟩ | ⟨x,t,rfl,rfl⟩
  ·rcases c_6 hb with ⟨j,u,rfl,e⟩ | ⟨y,u,rfl,e⟩
   ·injection e with e1 _;rw[e1]
   ·exact nomatch e
  ·rcases c_6 hb with ⟨j,u,rfl,e⟩ | ⟨y,u,rfl,e⟩
   ·exact nomatch e
   ·injection e with e1 _;rw[e1]
 byValue:=λ k v h=>by
  rcases c_6 h with ⟨i,t,rfl,rfl⟩ | ⟨x,t,rfl,rfl⟩ <;> rfl
 pyHash:=λ hv h=>by
  rcases c_6 hv with ⟨i,t,rfl,rfl⟩ | ⟨x,t,rfl,rfl⟩
  ·exact wpAny_pyHash_int h
  ·exact wpAny_pyHash_str h
 eqBool:=λ hu hv h=>by
  rcases c_6 hu with ⟨i,t,rfl,rfl⟩ | ⟨x,t,rfl,rfl⟩
  ·rcases c_6 hv with ⟨j,u,rfl,rfl⟩ | ⟨y,u,rfl,rfl⟩
   ·rw[aG2] at h;exact wpAny_eqBool_int h
   ·rw[aG1] at h;exact SeqAt.EqAt.int_str i t y u _ _ _ _ h
  ·rcases c_6 hv with ⟨j,u,rfl,rfl⟩ | ⟨y,u,rfl,rfl⟩
   ·rw[aG0] at h;exact SeqAt.EqAt.str_int x t j u _ _ _ _ h
   ·rw[aF9] at h;exact wpAny_eqBool_str h
 «strs»:=λ k x t v h=>by
  rcases c_6 h with ⟨i,u,rfl,e⟩ | ⟨y,u,rfl,e⟩
  ·exact nomatch e
  ·injection e with e1 _
   subst e1;cases v <;> rfl
theorem C_8 (prog:Program) (w:World) (i:Int) (t:Tok):(c_1 prog w).is (.inl i) (.int i t)=true:=T_5 i t
theorem k_2 (prog:Program) (w:World) (x:Str) (t:Tok):(c_1 prog w).is (.inr x) (.str x t)=true:=T_4 x t
inductive V where
 |non | bl (b:Bool) | int (i:Int) | str (x:Str) | byt (b:Array UInt8) | flt (b:UInt64) | ref (a:Addr) | ty (n:String)
 deriving DecidableEq
def RelV:V->Value->Prop
 |.non,u=>u=Value.none
 |.bl b,u=>u=Value.bool b
 |.int i,u=>∃ t,u=Value.int i t
 |.str x,u=>∃ t,u=Value.str x t
 |.byt b,u=>∃ t,u=Value.bytes b t
 |.flt b,u=>∃ t,u=Value.float b t
 |.ref a,u=>u=Value.ref a
 |.ty n,u=>u=Value.type n
abbrev Vals:List V->List Value->Prop:=Paired RelV
theorem Vals.length {xs:List V}{us:List Value} (r:Vals xs us):xs.length=us.length:=Paired.length r
theorem Vals.get:∀ {xs:List V}{us:List Value}{i:Nat}{x:V},Vals xs us->xs[i]?=some x->∃ u,us[i]?=some u/\RelV x u
 |_,_,_,_,.nil,e=>by simp at e
 |_,_,0,_,.cons r _,e=>by simp at e;subst e;exact⟨_,rfl,r⟩
 |_,_,i+1,x,.cons _ t,e=>by
  obtain⟨u,h1,h2⟩:=Vals.get (i:=i) (x:=x) t (by simpa using e)
  exact⟨u,by simpa using h1,h2⟩
theorem Vals.set {x:V}{u:Value} (r:RelV x u):∀ {xs:List V}{us:List Value} (i:Nat),Vals xs us->Vals (xs.set i x) (us.set i u)
 |_,_,_,.nil=>.nil
 |_,_,0,.cons _ t=>.cons r t
 |_,_,i+1,.cons q t=>.cons q (Vals.set r i t)
theorem Vals.append:∀ {xs ys:List V}{us ws:List Value},Vals xs us->Vals ys ws->Vals (xs++ys) (us++ws)
 |_,_,_,_,.nil,s=>s
 |_,_,_,_,.cons r t,s=>.cons r (Vals.append t s)
theorem Vals.take:∀ {xs:List V}{us:List Value} (n:Nat),Vals xs us->Vals (xs.take n) (us.take n)
 |_,_,0,_=>.nil
 |_,_,_+1,.nil=>.nil
 |_,_,n+1,.cons r t=>.cons r (Vals.take n t)
theorem Vals.drop:∀ {xs:List V}{us:List Value} (n:Nat),Vals xs us->Vals (xs.drop n) (us.drop n)
 |_,_,0,r=>r
 |_,_,_+1,.nil=>.nil
 |_,_,n+1,.cons _ t=>Vals.drop n t
theorem Vals.none_of:∀ {xs:List V}{us:List Value}{i:Nat},Vals xs us->xs[i]?=none->us[i]?=none:=λ {xs us i} r e=>by
 have h1:=r.length;have h2:xs.length<=i:=List.getElem?_eq_none_iff.mp e;exact List.getElem?_eq_none_iff.mpr (by omega)
def RelO:Option V->Option Value->Prop
 |some v,some u=>RelV v u
 |none,none=>True
 |_,_=>False
def KV {κ:Type}:List (κ×V)->List (κ×Value)->Prop:=Paired λ (p:κ×V) (q:κ×Value)=>p.1=q.1/\RelV p.2 q.2
def kV:Key->V
 |.inl i=>.int i
 |.inr x=>.str x
inductive HO where
 |lst (xs:List V)
 |tup (xs:List V)
 |dK (kvs:List (Key×V)) | dT (kvs:List (List Key×V))
 |set (S:Int->Bool) (n:Nat)
 |ins (C dx:Addr) (fs:List (Str×V))
 |own (x:Addr)
 |xd (fs:List (Str×V))
 |met (f x:Addr)
 |rng (lo hi:Int)
 |frz (o:Obj) (u:HO)
 |tbl (ps:Array Value)
 |ext (φ:Heap->Prop)
abbrev Hp:=Addr->Option HO
def upd (H:Hp) (a:Addr) (o:HO):Hp:=λ b=>if b=a then some o else H b
theorem a_2 {H:Hp}{a:Addr}{o:HO}:upd H a o a=some o:=by unfold upd;rw[if_pos rfl]
theorem a_3 {H:Hp}{a b:Addr}{o:HO} (h:b≠a):upd H a o b=H b:=by unfold upd;rw[if_neg h]
theorem aU9 {H:Hp}{a b:Addr}{o u:HO} (h:H a=some o) (h':H b=some u) (d:o≠u):a≠b:=by
 intro e;subst e;rw[h] at h';exact d (qh h')
theorem a_5 {H:Hp}{a b:Addr}{o:HO} (h:H a=some o) (h':H b=none):a≠b:=by
 intro e;subst e;rw[h] at h';cases h'
def IsTuN (h:Heap) (a:Addr) (items:Array Value):Prop:=∃ o,h.get? a=some o ∧ o.cls=.type "tuple" ∧ (∃ n,o.data=.seq items n) ∧ o.dict=none
theorem IsTuN.tup {h:Heap}{a:Addr}{items:Array Value} (x:IsTuN h a items):IsTup h a items:=let ⟨o,p,q,⟨n,r⟩,_⟩:=x;⟨o,p,q,n,r⟩
theorem IsTuN.new (h:Heap) (items:Array Value):IsTuN (h.push {cls:=.type "tuple",data:=.seq items}) h.objs.size items:=⟨_,qj _ rfl,rfl,⟨0,rfl⟩,rfl⟩
section
variable (P:Program) (w:World)
def ObjOk (H:Hp) (h:Heap) (a:Addr):HO->Prop
 |.lst xs=>xs.length ≤ sizeLine ∧ ∃ (its:List Value) (n:Nat),Vals xs its ∧ h.get? a=some {cls:=.type "list",data:=.seq its.toArray n}
 |.tup xs=>xs.length<=sizeLine/\∃ its:List Value,Vals xs its/\IsTuN h a its.toArray
 |.dK kvs=>kvs.length<=sizeLine/\(a==sysModules)=false/\∃ vs,KV kvs vs/\h.DictOf (c_1 P w) a vs
 |.dT kvs=>kvs.length<=sizeLine/\(a==sysModules)=false/\∃ xs:List (List Key×Addr×Value),
   Paired (λ (p:List Key×V) (q:List Key×Addr×Value)=>p.1=q.1/\H q.2.1=some (.tup (p.1.map kV))/\RelV p.2 q.2.2) kvs xs /\
   ∃ o es ep,h.get? a=some o/\o.ExactDict/\o.data=.dict es ep/\es.toList=xs.map (entryOfKey (tupleKind (c_1 P w)))/\(xs.map (·.1)).Nodup
 |.set S n=>h.SetOf (intKind P w) a S n
 |.ins C dx fs=>H dx=some (.own a)/\fs.length<=1000/\dx≠a/\h.get? a=some (PySem.W.instObj C dx) /\
   ∃ mA,h.Ns1 dx mA/\(∀ f,RelO (fs.lookup f) (mA f))/\PySem.Within mA (fs.map (·.1))
 |.own _=>∃ o,h.get? a=some o
 |.xd fs=>∃ mA,h.Ns1 a mA/\∀ f,RelO (fs.lookup f) (mA f)
 |.rng lo hi=>∃ t u v,h.get? a=some {cls:=.type "range",data:=.fields #[.int lo t,.int hi u,.int 1 v]}
 |.frz o u=>h.get? a=some o/\ObjOk H h a u
 |.tbl ps=>h.get? a=some {cls:=.none,data:=.fields ps}
 |.met f x=>h.get? a=some (PySem.W.methodObj (.ref f) (.ref x))
 |.ext φ=>φ h/\(∃ o,h.get? a=some o)/\∀ h1 h2:Heap,φ h1->(∀ o,h1.get? a=some o->h2.get? a=some o)->φ h2
def HOk (H:Hp) (h:Heap):Prop:=∀ a o,H a=some o->ObjOk P w H h a o
end
section
variable {P:Program}{w:World}{H H':Hp}{h h':Heap}{a:Addr}{o:HO}
theorem ObjOk.lt (x:ObjOk P w H h a o):a<h.objs.size:=by
 cases o with
 |lst xs=>obtain⟨_,_,_,_,e⟩:=x;exact qk e
 |tup xs=>obtain⟨_,_,_,p⟩:=x;exact p.tup.lt
 |dK kvs=>obtain⟨_,_,_,_,o,_,_,e,_⟩:=x;exact qk e
 |dT kvs=>obtain⟨_,_,_,_,o,_,_,e,_⟩:=x;exact qk e
 |set S n=>obtain⟨o,_,_,_,e,_⟩:=x;exact qk e
 |ins C dx fs=>obtain⟨_,_,_,e,_⟩:=x;exact qk e
 |own y=>obtain⟨_,e⟩:=x;exact qk e
 |xd fs=>obtain⟨_,⟨_,_,_,e,_⟩,_⟩:=x;exact qk e
 |rng lo hi=>obtain⟨_,_,_,e⟩:=x;exact qk e
 |frz ob u=>obtain⟨e,_⟩:=x;exact qk e
 |tbl ps=>exact qk (show h.get? a=some _ from x)
 |met f y=>exact qk (show h.get? a=some _ from x)
 |ext φ=>obtain⟨_,⟨_,e⟩,_⟩:=x;exact qk e
theorem Paired.mapP {α β:Type}{F G:α->β->Prop}:∀ {l₁:List α}{l₂:List β},Paired F l₁ l₂->(∀ a b,F a b->G a b)->Paired G l₁ l₂
 |[],_,h,_=>by cases h;exact .nil
 |x::l,_,h,f=>by
  cases h with
  |cons r t=>exact .cons (f _ _ r) (Paired.mapP t f)
theorem ObjOk.stay (x:ObjOk P w H h a o) (k:∀ b u,(b=a\/H b=some (.own a))->h.get? b=some u->h'.get? b=some u)
  (ho:∀ b,H b=some (.own a)->H' b=some (.own a)) (ht:∀ b xs,H b=some (.tup xs)->H' b=some (.tup xs)):ObjOk P w H' h' a o:=by
 induction o with
 |lst xs=>obtain⟨z,its,n,r,e⟩:=x;exact⟨z,its,n,r,k _ _ (.inl rfl) e⟩
 |tup xs=>obtain⟨z,its,r,ob,e,c⟩:=x;exact⟨z,its,r,ob,k _ _ (.inl rfl) e,c⟩
 |dK kvs=>obtain⟨z,y,vs,r,ob,es,ep,e,c⟩:=x;exact⟨z,y,vs,r,ob,es,ep,k _ _ (.inl rfl) e,c⟩
 |dT kvs =>
  obtain⟨z,y,xs,r,ob,es,ep,e,c⟩:=x;exact⟨z,y,xs,Paired.mapP r λ p q z=>⟨z.1,ht _ _ z.2.1,z.2.2⟩,ob,es,ep,k _ _ (.inl rfl) e,c⟩
 |set S n=>obtain⟨ob,es,ep,t,e,c⟩:=x;exact⟨ob,es,ep,t,k _ _ (.inl rfl) e,c⟩
 |ins C dx fs =>
  obtain⟨d,z,ne,e,mA,⟨od,es,ep,e2,c⟩,r⟩:=x;exact⟨ho _ d,z,ne,k _ _ (.inl rfl) e,mA,⟨od,es,ep,k _ _ (.inr d) e2,c⟩,r⟩
 |own y=>obtain⟨ob,e⟩:=x;exact⟨ob,k _ _ (.inl rfl) e⟩
 |xd fs=>obtain⟨mA,⟨od,es,ep,e,c⟩,r⟩:=x;exact⟨mA,⟨od,es,ep,k _ _ (.inl rfl) e,c⟩,r⟩
 |rng lo hi=>obtain⟨t,u,v,e⟩:=x;exact⟨t,u,v,k _ _ (.inl rfl) e⟩
 |frz ob u ih=>obtain⟨e,q⟩:=x;exact⟨k _ _ (.inl rfl) e,ih q⟩
 |tbl ps =>
  have e:h.get? a=some {cls:=.none,data:=.fields ps}:=x;show h'.get? a=some {cls:=.none,data:=.fields ps};exact k a _ (.inl rfl) e
 |met f y =>
  have e:h.get? a=some (PySem.W.methodObj (.ref f) (.ref y)):=x;show h'.get? a=some (PySem.W.methodObj (.ref f) (.ref y));exact k a _ (.inl rfl) e
 |ext φ=>obtain⟨p,⟨o,e⟩,st⟩:=x;exact⟨st _ _ p λ o q=>k _ _ (.inl rfl) q,⟨o,k _ _ (.inl rfl) e⟩,st⟩
theorem HOk.lt (x:HOk P w H h) (e:H a=some o):a<h.objs.size:=(x a o e).lt
theorem HOk.fresh (x:HOk P w H h) (e:h.objs.size<=a):H a=none:=by
 cases q:H a with
 |none=>rfl
 |some u=>exact absurd (qo (x.lt q) e) (Nat.lt_irrefl _)
theorem HOk.kept (x:HOk P w H h) (k:∀ b u,h.get? b=some u->h'.get? b=some u):HOk P w H h':=λ a o e =>
 (x a o e).stay (λ b u _ q=>k b u q) (λ _ q=>q) λ _ _ q=>q
theorem HOk.laid (x:HOk P w H h) (k:∀ b u,h.get? b=some u->h'.get? b=some u) (hp:h.objs.size<=a) (new:ObjOk P w (upd H a o) h' a o):HOk P w (upd H a o) h':=λ b u e=>by
 have hn:=x.fresh hp
 by_cases hb:b=a
 ·subst hb;rw[a_2] at e;cases e;exact new
 ·rw[a_3 hb] at e
  exact (x b u e).stay (λ c v _ q=>k c v q) (λ c q=>by rw[a_3 (a_5 q hn)];exact q) λ c xs q=>by rw[a_3 (a_5 q hn)];exact q
end
def Rd (H:Hp) (a:Addr) (u:HO):Prop:=H a=some u\/∃ o,H a=some (.frz o u)
theorem Rd.of {H:Hp}{a:Addr}{u:HO} (h:H a=some u):Rd H a u:=.inl h
theorem Rd.ok {P:Program}{w:World}{H:Hp}{h:Heap}{a:Addr}{u:HO} (r:Rd H a u) (x:HOk P w H h):ObjOk P w H h a u:=by
 rcases r with r | ⟨o,r⟩
 ·exact x a u r
 ·obtain⟨_,q⟩:=x a _ r
  exact q
def Mut:Option HO->Prop
 |some (.lst _)=>True
 |some (.dK _)=>True
 |some (.dT _)=>True
 |some (.set _ _)=>True
 |some (.ins _ _ _)=>True
 |some (.ext _)=>True
 |_=>False
section
variable {P:Program}{w:World}{H:Hp}{h h':Heap}{x e:Addr}{o':HO}
theorem HOk.write (ok:HOk P w H h) (mu:Mut (H x)) (he:e=x\/H e=some (.own x)) (k:∀ b u,b≠e->h.get? b=some u->h'.get? b=some u) (heo:∃ u,h'.get? e=some u)
  (new:ObjOk P w (upd H x o') h' x o'):HOk P w (upd H x o') h':=λ b u q=>by
 have nown:∀ c y,H c=some (.own y)->c≠x:=λ c y r z=>by subst z;rw[r] at mu;exact mu
 have ntup:∀ c xs,H c=some (.tup xs)->c≠x:=λ c xs r z=>by subst z;rw[r] at mu;exact mu
 by_cases hb:b=x
 ·subst hb;rw[a_2] at q;cases q;exact new
 ·rw[a_3 hb] at q
  by_cases hbe:b=e
  ·have q':H b=some (.own x):=by
    rcases he with z | z
    ·exact absurd (hbe.trans z) hb
    ·rw[hbe];exact z
   rw[q] at q';cases q';obtain⟨v,hv⟩:=heo;exact⟨v,by rw[hbe];exact hv⟩
  ·refine (ok b u q).stay (λ c v hc r=>k c v ?_ r) (λ c r=>by rw[a_3 (nown c b r)];exact r) λ c xs r=>by rw[a_3 (ntup c xs r)];exact r
   rcases hc with rfl | hc
   ·exact hbe
   ·rintro rfl
    rcases he with z | z
    ·exact nown c b hc z
    ·rw[hc] at z;cases z;exact hb rfl
end
structure Un (fs ex:List Addr) (H H':Hp) (h h':Heap):Prop where
 keep:∀ b o,h.get? b=some o->H b=none->b∉fs->b∉ex->h'.get? b=some o
 slot:∀ b o,h.get? b=some o->H b=none->b∈fs->b∉ex->∃ sl,h'.get? b=some {o with slots:=sl}
 free:∀ b o,h.get? b=some o->H b=none->b∉ex->H' b=none
 there:∀ b o,h.get? b=some o->b∉ex->∃ o',h'.get? b=some o'
 tups:∀ b xs,H b=some (.tup xs)->H' b=some (.tup xs)
 frzs:∀ b o u,H b=some (.frz o u)->H' b=some (.frz o u)
 tbls:∀ b ps,H b=some (.tbl ps)->∃ more,H' b=some (.tbl (ps++more))
section
variable {fs fs' ex ex':List Addr}{H H1 H2:Hp}{h h1 h2 h':Heap}{a x e:Addr}{o:HO}
theorem Un.any (u:Un fs ex H H1 h h1) {b:Addr}{ob:Obj} (q:h.get? b=some ob) (n:H b=none) (hx:b∉ex):∃ sl,h1.get? b=some {ob with slots:=sl}:=by
 by_cases hb:b∈fs
 ·exact u.slot b ob q n hb hx
 ·exact⟨ob.slots,u.keep b ob q n hb hx⟩
theorem Un.trans (a:Un fs ex H H1 h h1) (b:Un fs ex H1 H2 h1 h2):Un fs ex H H2 h h2 where
 keep:=λ c ob q n hc hx=>b.keep c ob (a.keep c ob q n hc hx) (a.free c ob q n hx) hc hx
 slot:=λ c ob q n hc hx=>by
  obtain⟨sl,e1⟩:=a.slot c ob q n hc hx;obtain⟨sl',e2⟩:=b.slot c _ e1 (a.free c ob q n hx) hc hx;exact⟨sl',e2⟩
 free:=λ c ob q n hx=>by
  obtain⟨o',e1⟩:=a.there c ob q hx;exact b.free c o' e1 (a.free c ob q n hx) hx
 there:=λ c ob q hx=>by
  obtain⟨o',e1⟩:=a.there c ob q hx;exact b.there c o' e1 hx
 tups:=λ c xs q=>b.tups c xs (a.tups c xs q)
 frzs:=λ c ob xs q=>b.frzs c ob xs (a.frzs c ob xs q)
 tbls:=λ c ps q=>by
  obtain⟨m1,e1⟩:=a.tbls c ps q;obtain⟨m2,e2⟩:=b.tbls c _ e1;exact⟨m1++m2,by rw[e2,Array.append_assoc]⟩
theorem Un.kept (k:∀ b u,h.get? b=some u->h'.get? b=some u):Un fs ex H H h h' :=
 ⟨λ b ob q _ _ _=>k b ob q,λ b ob q _ _ _=>⟨ob.slots,k b ob q⟩,λ _ _ _ n _=>n,λ b ob q _=>⟨ob,k b ob q⟩,λ _ _ q=>q,λ _ _ _ q=>q,λ _ ps q=>⟨#[],by rw[q];simp⟩⟩
theorem Un.refl:Un fs ex H H h h:=Un.kept λ _ _ q=>q
theorem Un.laid (k:∀ b u,h.get? b=some u->h'.get? b=some u) (hp:h.objs.size<=a) (hn:H a=none):Un fs ex H (upd H a o) h h' where
 keep:=λ b u q _ _ _=>k b u q
 slot:=λ b u q _ _ _=>⟨u.slots,k b u q⟩
 free:=λ b u q n _=>by rw[a_3 (Nat.ne_of_lt (Nat.lt_of_lt_of_le (Heap.lt_size q) hp))];exact n
 there:=λ b u q _=>⟨u,k b u q⟩
 tups:=λ b xs q=>by rw[a_3 (a_5 q hn)];exact q
 frzs:=λ b u xs q=>by rw[a_3 (a_5 q hn)];exact q
 tbls:=λ b ps q=>⟨#[],by rw[a_3 (a_5 q hn),q];simp⟩
theorem Un.write (mu:Mut (H x)) (he:e=x\/H e=some (.own x)) (k:∀ b u,b≠e->h.get? b=some u->h'.get? b=some u) (heo:∃ u,h'.get? e=some u):Un fs ex H (upd H x o) h h':=by
 have hx:∀ b,H b=none->b≠x:=λ b n z=>by subst z;rw[n] at mu;exact mu
 have hb:∀ b,H b=none->b≠e:=λ b n z=>by
  subst z
  rcases he with r | r
  ·exact hx b n r
  ·rw[n] at r;cases r
 have hm:∀ b u,H b=some u->¬ Mut (some u)->b≠x:=λ b u q nm z=>by subst z;rw[q] at mu;exact nm mu
 refine⟨λ b u q n _ _=>k b u (hb b n) q,λ b u q n _ _=>⟨u.slots,k b u (hb b n) q⟩,λ b u q n _=>by rw[a_3 (hx b n)];exact n,λ b u q _=>?_,
  λ b xs q=>by rw[a_3 (hm b _ q λ z=>z)];exact q,λ b u xs q=>by rw[a_3 (hm b _ q λ z=>z)];exact q,λ b ps q=>⟨#[],by rw[a_3 (hm b _ q λ z=>z),q];simp⟩⟩
 by_cases hbe:b=e
 ·subst hbe;exact heo
 ·exact⟨u,k b u hbe q⟩
theorem Un.mono (u:Un fs ex H H1 h h1) (hs:∀ b∈fs,b∈fs') (hx:∀ b∈ex,b∈ex'):Un fs' ex' H H1 h h1 :=
 ⟨λ b ob q n hb he=>u.keep b ob q n (λ z=>hb (hs b z)) λ z=>he (hx b z),λ _ _ q n _ he=>u.any q n λ z=>he (hx _ z),λ b ob q n he=>u.free b ob q n λ z=>he (hx b z),λ b ob q he=>u.there b ob q λ z=>he (hx b z),u.tups,u.frzs,u.tbls⟩
end
def trk (h:Heap) (H:Hp):List Addr:=(List.range h.objs.size).filter λ a=>(H a).isSome
def ad1 (h:Heap) (H:Hp):Heap:=PySem.W.hideAll h (trk h H)
theorem T_9 (h:Heap) (H:Hp):(ad1 h H).objs.size=h.objs.size:=PySem.W.hideAll_size _ _
theorem ad0 {h:Heap}{H:Hp}{b:Addr}{o:Obj} (e:h.get? b=some o) (n:H b=none):(ad1 h H).get? b=some o :=
 PySem.W.hideAll_get _ e λ hm=>by
  have q:(H b).isSome=true:=(List.mem_filter.mp hm).2;rw[n] at q;simp at q
theorem ao8 {h:Heap}{H:Hp}{b:Addr}{o:Obj} (e:(ad1 h H).get? b=some o):h.get? b=some o/\H b=none:=by
 have e':h.get? b=some o:=PySem.W.of_hideAll (trk h H) e;refine⟨e',?_⟩;cases q:H b with
 |none=>rfl
 |some x =>
  have hm:b∈trk h H:=List.mem_filter.mpr ⟨List.mem_range.mpr (qk e'),by simp[q]⟩
  have z:(ad1 h H).get? b=none:=PySem.W.hideAll_none (trk h H) hm;rw[z] at e;cases e
def av8 (g h:Heap) (L:Addr):List (Addr×Obj):=(List.range h.objs.size).filterMap λ a=>if a=L\/(g.get? a).isSome=true then none else (h.get? a).map λ o=>(a,o)
def rest (g h:Heap) (L d:Addr):List (Addr×Obj):=(av8 g h L).filter λ p=>decide (p.1≠d)
structure Mod (K:Frag) (mg:Str->Option Value) (base:Heap):Prop where
 kin:K.In base
 glob:base.Ns mainGlobals mg
 blt:∃ mb,base.Ns builtinsNs mb ∧ ∀ x:Str,x≠"__name__" → mb x=bootBuiltins x
 nolimit:base.NoLimit
structure Cx where
 prog:Program
 w:World
 K:Frag
 mg:Str->Option Value
 base:Heap
 A:Around
 N:List Str
 s₀:Shared
 H₀:Hp
 env:Env
 outer:List Env
 stack:List Env
 ex:List Addr
 fn:Str->Bool
 calm:Bool
 pn:List (Addr×Obj)
 xe:Value->Shared->Prop
def frs (l:List Env):List Addr:=l.filterMap (·.frame)
abbrev Cx.fs (X:Cx):List Addr:=frs X.outer
def Vis (sc:Scope) (x:Str):Prop:=sc.names.lookup x=some .local\/sc.names.lookup x=some .cell\/sc.names.lookup x=some .free
def Loc (sc:Scope) (x:Str):Prop:=sc.names.lookup x=some .local\/sc.names.lookup x=some .cell
def bo4 (env:Env) (h:Heap) (m:Str->Option Value) (x:Str) (u:Value):Prop :=
 (env.kindOf x=some .local/\m x=some u)\/((env.kindOf x=some .cell\/env.kindOf x=some .free)/\∃ c,env.cells.lookup x=some c/\h.IsCell c (some u))
structure Cx.Ok (X:Cx):Prop where
 mod:Mod X.K X.mg X.base
 kind:X.env.scope.kind=.function
 glob:X.env.globals=mainGlobals
 blt:X.env.builtins=builtinsNs
 above:X.s₀.heap.objs.size<=X.env.locals
 inj:∀ x y c,X.env.cells.lookup x=some c->X.env.cells.lookup y=some c->x=y
 has:∀ x,(X.env.kindOf x=some .cell\/X.env.kindOf x=some .free)->∃ c,X.env.cells.lookup x=some c
 cab:∀ x c,X.fn x=true->X.env.cells.lookup x=some c->X.s₀.heap.objs.size<=c
 hd:X.calm=true->X.A.handled=none
 frames:X.A.frames=some X.stack
 stk:X.stack=X.outer\/(X.stack=X.env::X.outer/\X.env.frame=some X.env.locals)
 exf:∀ b∈X.ex,b≠X.env.locals/\∀ x c,X.env.cells.lookup x=some c->c≠b
 bs:∀ b o,X.base.get? b=some o->X.s₀.heap.get? b=some o/\X.H₀ b=none
 bsz:X.base.objs.size<=X.s₀.heap.objs.size
 noex:∀ b o,X.base.get? b=some o->b∉X.ex
 exfs:∀ b∈X.ex,b∉X.fs
 funs:X.s₀.heap.FunFrames X.base X.outer
 frf:∀ b∈X.fs,X.H₀ b=none
structure Inv (X:Cx) (pins:List (Addr×Obj)) (σ:List (Option V)) (H:Hp) (s:Shared):Prop where
 ok:X.Ok
 os:s.os=X.s₀.os
 bare:AllBare s.gens
 base:Un X.fs X.ex X.H₀ H X.s₀.heap s.heap
 loc:∃ m,s.heap.Ns X.env.locals m/\∀ (i:Nat) (x:Str) (v:V),X.N[i]?=some x->σ[i]?=some (some v)->Vis X.env.scope x->∃ u,RelV v u/\bo4 X.env s.heap m x u
 cell:∀ x c,X.env.cells.lookup x=some c->∃ v,s.heap.IsCell c v
 free:H X.env.locals=none
 freeC:∀ x c,X.env.cells.lookup x=some c->H c=none
 pin:∀ p∈X.pn++pins,s.heap.get? p.1=some p.2/\H p.1=none/\p.1≠X.env.locals/\p.1∉X.fs/\∀ v,p.2.data≠.cell v
 hok:HOk X.prog X.w H s.heap
 len:σ.length=X.N.length
section
variable {X:Cx}{pins:List (Addr×Obj)}{σ:List (Option V)}{H H':Hp}{s:Shared}{h':Heap}
theorem Cx.Ok.nofr (ok:X.Ok) {b:Addr}{o:Obj} (e:X.base.get? b=some o):b∉X.fs:=λ hb=>by
 have:=(ok.funs.mem hb).1;rw[e] at this;cases this
theorem Inv.bs (I:Inv X pins σ H s):∀ b o,X.base.get? b=some o->s.heap.get? b=some o/\H b=none:=λ b o e =>
 ⟨I.base.keep b o (I.ok.bs b o e).1 (I.ok.bs b o e).2 (I.ok.nofr e) (I.ok.noex b o e),I.base.free b o (I.ok.bs b o e).1 (I.ok.bs b o e).2 (I.ok.noex b o e)⟩
theorem Inv.bk (I:Inv X pins σ H s):∀ b o,X.base.get? b=some o->s.heap.get? b=some o:=λ b o e=>(I.bs b o e).1
theorem Inv.mod (I:Inv X pins σ H s):Mod X.K X.mg X.base:=I.ok.mod
theorem Inv.kIn (I:Inv X pins σ H s):X.K.In s.heap:=I.ok.mod.kin.keeps I.bk
theorem Inv.nolimit (I:Inv X pins σ H s):s.heap.NoLimit:=I.ok.mod.nolimit.keeps I.bk
theorem Inv.fr (I:Inv X pins σ H s):∃ m,Fr X.base X.env.locals s.heap m :=
 let ⟨m,hn,_⟩:=I.loc
 ⟨m,hn,I.bk,Nat.le_trans I.ok.bsz I.ok.above⟩
theorem Inv.lt (I:Inv X pins σ H s):X.env.locals<s.heap.objs.size:=let ⟨_,hn,_⟩:=I.loc;hn.lt
theorem Inv.sz (I:Inv X pins σ H s):X.s₀.heap.objs.size<=s.heap.objs.size:=Nat.le_trans I.ok.above (Nat.le_of_lt I.lt)
theorem Inv.nofs (I:Inv X pins σ H s) {a:Addr} (h:s.heap.objs.size<=a):a∉X.fs:=λ hb=>by
 obtain⟨_,o,ho,_⟩:=I.ok.funs.mem hb;exact absurd (qo (qk ho) (Nat.le_trans I.sz h)) (Nat.lt_irrefl _)
theorem Inv.cne (I:Inv X pins σ H s):∀ x c,X.env.cells.lookup x=some c->c≠X.env.locals:=λ x c e z=>by
 obtain⟨v,o,ho,hd⟩:=I.cell x c e;obtain⟨m,⟨o',es,ep,ho',hd',_⟩,_⟩:=I.loc;rw[z,ho'] at ho;cases ho;rw[hd'] at hd;cases hd
theorem Inv.funs (I:Inv X pins σ H s):s.heap.FunFrames X.base X.outer:=by
 have all:∀ (l:List Env),(∀ b∈frs l,b∈X.fs)->X.s₀.heap.FunFrames X.base l->s.heap.FunFrames X.base l:=by
  intro l
  induction l with
  |nil=>intro _ _;trivial
  |cons env r ih =>
   intro hs hl;obtain⟨hk,⟨L,o,hf,hn,ho,hd⟩,hr⟩:=hl;have hL:L∈X.fs:=hs L (by unfold frs;rw[List.filterMap_cons,hf];exact qf)
   obtain⟨sl,e⟩:=I.base.slot L o ho (I.ok.frf L hL) hL λ z=>I.ok.exfs L z hL
   exact⟨hk,⟨L,_,hf,hn,e,hd⟩,ih (λ b hb=>hs b (by unfold frs;rw[List.filterMap_cons,hf];exact qg _ hb)) hr⟩
 exact all X.outer (λ _ hb=>hb) I.ok.funs
theorem Inv.stack (I:Inv X pins σ H s):s.heap.FunFrames X.base X.stack:=by
 rcases I.ok.stk with e | ⟨e,hf⟩
 ·rw[e];exact I.funs
 ·rw[e]
  obtain⟨m,hn,_⟩:=I.loc;refine .cons (by rw[I.ok.kind];decide) hf hn ?_ I.funs
  exact Heap.get?_none_of_le (Nat.le_trans I.ok.bsz I.ok.above)
theorem Inv.stkSub (I:Inv X pins σ H s):∀ b∈frs X.stack,b∈X.env.locals::X.fs:=λ b hb=>by
 rcases I.ok.stk with e | ⟨e,hf⟩
 ·rw[e] at hb;exact qg _ hb
 ·rw[e] at hb
  unfold frs at hb;rw[List.filterMap_cons,hf] at hb;exact hb
theorem Inv.stkFree (I:Inv X pins σ H s):∀ b∈frs X.stack,H b=none:=λ b hb=>by
 rcases qr (I.stkSub b hb) with e | hb
 ·rw[e];exact I.free
 ·obtain⟨_,o,ho,_⟩:=I.ok.funs.mem hb
  exact I.base.free b o ho (I.ok.frf b hb) λ z=>I.ok.exfs b z hb
theorem Inv.step {g':Array GenState}{t':Nat}{d':Drawn}{ch:List Addr} (I:Inv X pins σ H s)
  (hch:∀ b∈ch,(b∈X.ex\/X.s₀.heap.objs.size<=b)/\b≠X.env.locals/\(∀ x c,X.env.cells.lookup x=some c->c≠b)/\∀ p∈X.pn++pins,p.1≠b)
  (keep:∀ b o,b≠X.env.locals->b∉X.fs->b∉ch->s.heap.get? b=some o->H b=none->h'.get? b=some o)
  (slot:∀ b o,b≠X.env.locals->b∈X.fs->b∉ch->s.heap.get? b=some o->H b=none->∃ sl,h'.get? b=some {o with slots:=sl}) (free:∀ b o,b∉ch->s.heap.get? b=some o->H b=none->H' b=none)
  (there:∀ b o,b∉ch->s.heap.get? b=some o->∃ o',h'.get? b=some o')
  (tups:∀ b xs,H b=some (.tup xs)->H' b=some (.tup xs)) (frzs:∀ b o u,H b=some (.frz o u)->H' b=some (.frz o u)) (tbls:∀ b ps,H b=some (.tbl ps)->∃ more,H' b=some (.tbl (ps++more)))
  (ns:∀ m,s.heap.Ns X.env.locals m->h'.Ns X.env.locals m) (hok:HOk X.prog X.w H' h') (hg:AllBare g') :
  Inv X pins σ H' {s with heap:=h',gens:=g',drawn:=d',toks:=t'}:=by
 have neL:∀ b o,X.s₀.heap.get? b=some o->b≠X.env.locals:=λ b o e=>qp (qo (qk e) I.ok.above)
 have neC:∀ b o,X.s₀.heap.get? b=some o->b∉X.ex->b∉ch:=λ b o e hx hb=>by
  rcases (hch b hb).1 with z | z
  ·exact hx z
  ·exact absurd (qo (qk e) z) (Nat.lt_irrefl _)
 have cellK:∀ x c,X.env.cells.lookup x=some c->∀ v,s.heap.IsCell c v->h'.IsCell c v:=λ x c e v hh0_=>by
  obtain⟨o,ho,hd⟩:=hh0_;have nch:c∉ch:=λ z=>(hch c z).2.2.1 x c e rfl
  by_cases hc:c∈X.fs
  ·obtain⟨sl,q⟩:=slot c o (I.cne x c e) hc nch ho (I.freeC x c e)
   exact⟨_,q,hd⟩
  ·exact⟨o,keep c o (I.cne x c e) hc nch ho (I.freeC x c e),hd⟩
 refine⟨I.ok,I.os,hg,⟨λ b o e n hb hx=>?_,λ b o e n hb hx=>?_,λ b o e n hx=>?_,λ b o e hx=>?_,λ b xs e=>tups b xs (I.base.tups b xs e),λ b o xs e=>frzs b o xs (I.base.frzs b o xs e),λ b ps e=>?_⟩,?_,λ x c e=>?_,?_,λ x c e=>?_,λ p hp=>?_,hok,I.len⟩
 ·exact keep b o (neL b o e) hb (neC b o e hx) (I.base.keep b o e n hb hx) (I.base.free b o e n hx)
 ·obtain⟨sl,e1⟩:=I.base.slot b o e n hb hx
  obtain⟨sl',e2⟩:=slot b _ (neL b o e) hb (neC b o e hx) e1 (I.base.free b o e n hx);exact⟨sl',e2⟩
 ·obtain⟨o',e1⟩:=I.base.there b o e hx
  exact free b o' (neC b o e hx) e1 (I.base.free b o e n hx)
 ·obtain⟨o',e1⟩:=I.base.there b o e hx
  exact there b o' (neC b o e hx) e1
 ·obtain⟨m1,e1⟩:=I.base.tbls b ps e
  obtain⟨m2,e2⟩:=tbls b _ e1;exact⟨m1++m2,by rw[e2,Array.append_assoc]⟩
 ·obtain⟨m,hn,hl⟩:=I.loc
  refine⟨m,ns m hn,λ i x v e1 e2 e3=>?_⟩
  obtain⟨u,r,l⟩:=hl i x v e1 e2 e3;refine⟨u,r,?_⟩
  rcases l with l | ⟨k,c,e,z⟩
  ·exact .inl l
  ·exact .inr ⟨k,c,e,cellK x c e _ z⟩
 ·obtain⟨v,z⟩:=I.cell x c e
  exact⟨v,cellK x c e v z⟩
 ·obtain⟨m,⟨o,_,_,ho,_⟩,_⟩:=I.loc
  exact free _ o (λ z=>(hch _ z).2.1 rfl) ho I.free
 ·obtain⟨v,o,ho,hd⟩:=I.cell x c e
  exact free c o (λ z=>(hch c z).2.2.1 x c e rfl) ho (I.freeC x c e)
 ·obtain⟨e,n,ne,nf,d⟩:=I.pin p hp
  have nch:p.1∉ch:=λ z=>(hch p.1 z).2.2.2 p hp rfl
  exact⟨keep p.1 p.2 ne nf nch e n,free p.1 p.2 nch e n,ne,nf,d⟩
theorem Inv.un {t':Nat} (I:Inv X pins σ H s) (u:Un X.fs [] H H' s.heap h') (hok:HOk X.prog X.w H' h'):Inv X pins σ H' {s with heap:=h',toks:=t'}:=by
 obtain⟨m,⟨o,es,ep,ho,r⟩,_⟩:=id I.loc;obtain⟨sl,hL⟩:=u.any ho I.free (by simp)
 exact I.step (g':=s.gens) (d':=s.drawn) (ch:=[]) (λ _ z=>nomatch z) (λ b o _ hb _ e n=>u.keep b o e n hb (by simp)) (λ b o _ hb _ e n=>u.slot b o e n hb (by simp)) (λ b o _ e n=>u.free b o e n (by simp)) (λ b o _ e=>u.there b o e (by simp)) u.tups u.frzs u.tbls (λ m' hm=>by
  obtain⟨o',es',ep',ho',r'⟩:=hm;rw[ho] at ho';cases ho';exact⟨_,es',ep',hL,r'⟩) hok I.bare
theorem Inv.call {g':Array GenState}{t':Nat}{d':Drawn}{ch:List Addr} (I:Inv X pins σ H s) (u:Un (frs X.stack) ch H H' s.heap h') (hok:HOk X.prog X.w H' h') (hg:AllBare g')
  (hch:∀ b∈ch,(b∈X.ex\/X.s₀.heap.objs.size<=b)/\b≠X.env.locals/\(∀ x c,X.env.cells.lookup x=some c->c≠b)/\∀ p∈X.pn++pins,p.1≠b) :
  Inv X pins σ H' {s with heap:=h',gens:=g',drawn:=d',toks:=t'}:=by
 obtain⟨m,⟨o,es,ep,ho,r⟩,_⟩:=id I.loc;obtain⟨sl,hL⟩:=u.any ho I.free λ z=>(hch _ z).2.1 rfl
 exact I.step (ch:=ch) hch (λ b o hL hb hc e n=>u.keep b o e n (λ z=>(qr (I.stkSub b z)).elim hL hb) hc) (λ b o _ _ hc e n=>u.any e n hc) (λ b o hc e n=>u.free b o e n hc) (λ b o hc e=>u.there b o e hc) u.tups u.frzs u.tbls (λ m' hm=>by
  obtain⟨o',es',ep',ho',r'⟩:=hm;rw[ho] at ho';cases ho';exact⟨_,es',ep',hL,r'⟩) hok hg
theorem Inv.turned {t':Nat}{it:Addr} (I:Inv X pins σ H s) (k:∀ b o,b≠it->s.heap.get? b=some o->h'.get? b=some o) (hn:H it=none) (hL:it≠X.env.locals)
  (h1:it∈X.ex\/X.s₀.heap.objs.size<=it) (h2:∀ x c,X.env.cells.lookup x=some c->c≠it) (h3:∀ p∈X.pn++pins,p.1≠it):Inv X pins σ H {s with heap:=h',toks:=t'}:=by
 have nit:∀ b u,H b=some u->b≠it:=λ b u e z=>by rw[z,hn] at e;cases e
 refine I.step (g':=s.gens) (d':=s.drawn) (ch:=[it]) (λ b hb=>?_) (λ b o _ _ hc e _=>k b o (λ z=>hc (by simp[z])) e) (λ b o _ _ hc e _=>⟨o.slots,k b o (λ z=>hc (by simp[z])) e⟩) (λ _ _ _ _ n=>n)
  (λ b o hc e=>⟨o,k b o (λ z=>hc (by simp[z])) e⟩) (λ _ _ e=>e) (λ _ _ _ e=>e) (λ b ps e=>⟨#[],by rw[e];simp⟩) (λ m hm=>?_) (λ b u e=>?_) I.bare
 ·have e:b=it:=by simpa using hb
  subst e;exact⟨h1,hL,h2,h3⟩
 ·obtain⟨o,es,ep,ho,r⟩:=hm
  exact⟨o,es,ep,k _ o (Ne.symm hL) ho,r⟩
 ·refine (I.hok b u e).stay (λ c v hc q=>k c v ?_ q) (λ _ q=>q) λ _ _ q=>q
  rcases hc with z | z
  ·rw[z];exact nit b u e
  ·exact nit c _ z
theorem Inv.tok (I:Inv X pins σ H s) (t:Nat):Inv X pins σ H {s with toks:=t}:=I.un (h':=s.heap) (t':=t) Un.refl I.hok
theorem Inv.kept {t':Nat} (I:Inv X pins σ H s) (k:∀ b u,s.heap.get? b=some u->h'.get? b=some u):Inv X pins σ H {s with heap:=h',toks:=t'}:=I.un (Un.kept k) (I.hok.kept k)
theorem Inv.laid {a:Addr}{o:HO}{t':Nat} (I:Inv X pins σ H s) (k:∀ b u,s.heap.get? b=some u->h'.get? b=some u) (hp:s.heap.objs.size<=a) (new:ObjOk X.prog X.w (upd H a o) h' a o) :
  Inv X pins σ (upd H a o) {s with heap:=h',toks:=t'}:=I.un (Un.laid k hp (I.hok.fresh hp)) (I.hok.laid k hp new)
theorem Inv.write {x e:Addr}{o:HO}{t':Nat} (I:Inv X pins σ H s) (mu:Mut (H x)) (he:e=x\/H e=some (.own x)) (k:∀ b u,b≠e->s.heap.get? b=some u->h'.get? b=some u) (heo:∃ u,h'.get? e=some u)
  (new:ObjOk X.prog X.w (upd H x o) h' x o):Inv X pins σ (upd H x o) {s with heap:=h',toks:=t'}:=I.un (Un.write mu he k heo) (I.hok.write mu he k heo new)
theorem Inv.weak {σ':List (Option V)} (I:Inv X pins σ H s) (hl:σ'.length=σ.length) (w:∀ (i:Nat) v,σ'[i]?=some (some v)->σ[i]?=some (some v)):Inv X pins σ' H s :=
 ⟨I.ok,I.os,I.bare,I.base,let ⟨m,hn,hl'⟩:=I.loc;⟨m,hn,λ i x v e1 e2 e3=>hl' i x v e1 (w i v e2) e3⟩,I.cell,I.free,I.freeC,I.pin,I.hok,hl.trans I.len⟩
theorem Inv.pins_of {pins':List (Addr×Obj)} (I:Inv X pins σ H s) (h:∀ p∈pins',s.heap.get? p.1=some p.2/\H p.1=none/\p.1≠X.env.locals/\p.1∉X.fs/\∀ v,p.2.data≠.cell v):Inv X pins' σ H s :=
 ⟨I.ok,I.os,I.bare,I.base,I.loc,I.cell,I.free,I.freeC,λ p hp=>(qt hp).elim (λ z=>I.pin p (List.mem_append_left _ z)) (h p),I.hok,I.len⟩
theorem u_5 {N:List Str} (hN:N.Nodup) {i j:Nat}{x:Str} (a:N[i]?=some x) (b:N[j]?=some x):i=j:=by
 obtain⟨h1,e1⟩:=List.getElem?_eq_some_iff.mp a;obtain⟨h2,e2⟩:=List.getElem?_eq_some_iff.mp b;exact (List.getElem_inj hN).mp (e1.trans e2.symm)
theorem w_5 {M:Model}{A:Around}{E:Value->Shared->Prop}{i:Nat}{x:Str}{v:V}{u:Value}{Q:Unit->Shared->Prop} (I:Inv X pins σ H s) (hN:X.N.Nodup) (hi:X.N[i]?=some x) (hx:Loc X.env.scope x) (r:RelV v u)
  (h:∀ s',Inv X pins (σ.set i (some v)) H s'->(∃ a,Heap.SameBut a s.heap s'.heap/\(a=X.env.locals\/X.env.cells.lookup x=some a))->Q () s') (hf:X.fn x=true\/X.env.scope.names.lookup x=some .local:=by first | exact .inl rfl | exact .inr rfl | assumption):wpAny M A (storeName X.env x u) Q E s:=by
 obtain⟨m,hn,hl⟩:=id I.loc;have hcls:(X.env.scope.kind==.class||(X.env.scope.kind==.module&&X.env.locals != X.env.globals))=false:=by rw[I.ok.kind];rfl
 have hiσ:i<σ.length:=by rw[I.len];exact (List.getElem?_eq_some_iff.mp hi).1
 have cne:=I.cne
 have tracked:∀ {a:Addr}{h':Heap},(∃ o,s.heap.get? a=some o/\H a=none)->Heap.SameBut a s.heap h'->HOk X.prog X.w H h':=λ {a h'} ha hs b ob e=>by
  obtain⟨_,_,hfree⟩:=ha;refine (I.hok b ob e).stay (λ c w' hc q=>(hs.2 c ?_).trans q) (λ _ q=>q) λ _ _ q=>q
  rintro rfl
  rcases hc with rfl | hc
  ·rw[hfree] at e;cases e
  ·rw[hfree] at hc;cases hc
 rcases hx with hk | hk
 ·refine wpAny_storeName_local hk hn (λ h' hn' hs=>?_) hcls
  obtain⟨oL,_,_,hoL,_⟩:=id hn;refine h _ ⟨I.ok,I.os,I.bare,⟨λ b o e n hb hx=>?_,λ b o e n hb hx=>?_,I.base.free,λ b o e hx=>?_,I.base.tups,I.base.frzs,I.base.tbls⟩,⟨_,hn',λ j y v' e1 e2 e3=>?_⟩,λ y c e=>?_,I.free,I.freeC,λ p hp=>?_,tracked ⟨oL,hoL,I.free⟩ hs,by simpa using I.len⟩ ⟨_,hs,.inl rfl⟩
  ·exact (hs.2 b (qp (qo (qk e) I.ok.above))).trans (I.base.keep b o e n hb hx)
  ·obtain⟨sl,e1⟩:=I.base.slot b o e n hb hx
   exact⟨sl,(hs.2 b (qp (qo (qk e) I.ok.above))).trans e1⟩
  ·obtain⟨o',e1⟩:=I.base.there b o e hx
   exact⟨o',(hs.2 b (qp (qo (qk e) I.ok.above))).trans e1⟩
  ·by_cases hj:j=i
   ·subst hj
    rw[hi] at e1;cases e1;rw[List.getElem?_set_self hiσ] at e2;cases e2;exact⟨u,r,.inl ⟨hk,by simp⟩⟩
   ·rw[List.getElem?_set_ne (Ne.symm hj)] at e2
    obtain⟨u',r',q⟩:=hl j y v' e1 e2 e3;refine⟨u',r',?_⟩
    rcases q with ⟨k,e⟩ | ⟨k,c,e,z⟩
    ·refine .inl ⟨k,?_⟩
     have:y≠x:=λ e=>hj (u_5 hN e1 (e▸hi))
     simp[this,e]
    ·exact .inr ⟨k,c,e,z.sameBut hs (cne y c e)⟩
  ·obtain⟨w',z⟩:=I.cell y c e
   exact⟨w',z.sameBut hs (cne y c e)⟩
  ·obtain⟨e,n,ne,nf,d⟩:=I.pin p hp
   exact⟨(hs.2 p.1 ne).trans e,n,ne,nf,d⟩
 ·have hfn:X.fn x=true:=by
   rcases hf with z | z
   ·exact z
   ·rw[z] at hk;cases hk
  obtain⟨c,hc⟩:=I.ok.has x (.inl hk);obtain⟨w',z⟩:=I.cell x c hc;refine wpAny_storeName_cell I.ok.kind hk hc z (λ h' hc' hs=>?_)
  obtain⟨oc,hoc,hocd⟩:=id z;refine h {s with heap:=h'} ⟨I.ok,I.os,I.bare,⟨λ b o e n hb hx=>?_,λ b o e n hb hx=>?_,I.base.free,λ b o e hx=>?_,I.base.tups,I.base.frzs,I.base.tbls⟩,⟨m,hn.sameBut hs (Ne.symm (cne x c hc)),λ j y v' e1 e2 e3=>?_⟩,λ y c' e=>?_,I.free,I.freeC,λ p hp=>?_,tracked ⟨oc,hoc,I.freeC x c hc⟩ hs,by simpa using I.len⟩ ⟨c,hs,.inr hc⟩
  ·exact (hs.2 b (qp (qo (qk e) (I.ok.cab x c hfn hc)))).trans (I.base.keep b o e n hb hx)
  ·obtain⟨sl,e1⟩:=I.base.slot b o e n hb hx
   exact⟨sl,(hs.2 b (qp (qo (qk e) (I.ok.cab x c hfn hc)))).trans e1⟩
  ·obtain⟨o',e1⟩:=I.base.there b o e hx
   exact⟨o',(hs.2 b (qp (qo (qk e) (I.ok.cab x c hfn hc)))).trans e1⟩
  ·by_cases hj:j=i
   ·subst hj
    rw[hi] at e1;cases e1;rw[List.getElem?_set_self hiσ] at e2;cases e2;exact⟨u,r,.inr ⟨.inl hk,c,hc,hc'⟩⟩
   ·rw[List.getElem?_set_ne (Ne.symm hj)] at e2
    obtain⟨u',r',q⟩:=hl j y v' e1 e2 e3;refine⟨u',r',?_⟩
    rcases q with q | ⟨k,c',e,z'⟩
    ·exact .inl q
    ·refine .inr ⟨k,c',e,z'.sameBut hs ?_⟩
     rintro rfl;exact hj (u_5 hN e1 (I.ok.inj _ _ _ e hc▸hi))
  ·by_cases hcc:c'=c
   ·subst hcc;exact⟨_,hc'⟩
   ·obtain⟨w2,z2⟩:=I.cell y c' e
    exact⟨w2,z2.sameBut hs hcc⟩
  ·obtain⟨e,n,ne,nf,d⟩:=I.pin p hp
   refine⟨(hs.2 p.1 ?_).trans e,n,ne,nf,d⟩;intro q;rw[q,hoc] at e;have q':oc=p.2:=qh e;exact d w' (by rw[<- q'];exact hocd)
theorem t_2 {M:Model}{A:Around}{E:Value->Shared->Prop}{i:Nat}{x:Str}{v:V}{u:Value}{Q:Unit->Shared->Prop} (I:Inv X pins σ H s) (hN:X.N.Nodup) (hi:X.N[i]?=some x) (hx:Loc X.env.scope x) (r:RelV v u)
  (h:∀ s',Inv X pins (σ.set i (some v)) H s'->Q () s') (hf:X.fn x=true\/X.env.scope.names.lookup x=some .local:=by first | exact .inl rfl | exact .inr rfl | assumption):wpAny M A (storeName X.env x u) Q E s :=
 w_5 I hN hi hx r (λ s' I' _=>h s' I') hf
theorem Inv.call' {s':Shared}{ch:List Addr} (I:Inv X pins σ H s) (ho:s'.os=s.os) (u:Un (frs X.stack) ch H H' s.heap s'.heap) (hok:HOk X.prog X.w H' s'.heap) (hg:AllBare s'.gens)
  (hch:∀ b∈ch,(b∈X.ex\/X.s₀.heap.objs.size<=b)/\b≠X.env.locals/\(∀ x c,X.env.cells.lookup x=some c->c≠b)/\∀ p∈X.pn++pins,p.1≠b):Inv X pins σ H' s':=by
 obtain⟨h',g',d',t',o'⟩:=s';have e:o'=s.os:=ho;subst e;exact I.call (g':=g') (t':=t') (d':=d') u hok hg hch
end
abbrev XK:=Value->Option Addr->Hp->Prop
abbrev St:=List (Option V)
abbrev VK:=V->Hp->Prop
abbrev TE:=St->Hp->VK->Prop
abbrev TT:=St->Hp->(Bool->Hp->Prop)->Prop
abbrev TA:=St->Hp->(List V->Hp->Prop)->Prop
structure Ends where
 nx:St->Hp->Prop
 rt:VK
 bk:St->Hp->Prop:=λ _ _=>False
 ct:St->Hp->Prop:=λ _ _=>False
abbrev TS:=Ends->St->Hp->Prop
def EP (X:Cx) (pins:List (Addr×Obj)) (σ:St) (Q:VK) (u:Value) (s':Shared):Prop:=∃ v H',Inv X pins σ H' s'/\RelV v u/\Q v H'
def TP (X:Cx) (pins:List (Addr×Obj)) (σ:St) (Q:Bool->Hp->Prop) (b:Bool) (s':Shared):Prop:=∃ H',Inv X pins σ H' s'/\Q b H'
def AP (X:Cx) (pins:List (Addr×Obj)) (σ:St) (Q:List V->Hp->Prop) (us:List Value) (s':Shared):Prop:=∃ vs H',Inv X pins σ H' s'/\Vals vs us/\Q vs H'
def SP (X:Cx) (pins:List (Addr×Obj)) (D:Ends) (f:Flow) (s':Shared):Prop :=
 match f with
 |.next=>∃ σ' H',Inv X pins σ' H' s'/\D.nx σ' H'
 |.brk=>∃ σ' H',Inv X pins σ' H' s'/\D.bk σ' H'
 |.cont=>∃ σ' H',Inv X pins σ' H' s'/\D.ct σ' H'
 |.ret u=>∃ v σ' H',Inv X pins σ' H' s'/\RelV v u/\D.rt v H'
def PE (X:Cx) (e:Expr) (t:TE):Prop :=
 ∀ (pins:List (Addr×Obj)) (s:Shared) (σ:St) (H:Hp) (Q:VK),Inv X pins σ H s->t σ H Q->wpAny (model X.prog X.w) X.A (eval e X.env) (EP X pins σ Q) X.xe s
def PT (X:Cx) (e:Expr) (t:TT):Prop :=
 ∀ (pins:List (Addr×Obj)) (s:Shared) (σ:St) (H:Hp) (Q:Bool->Hp->Prop),Inv X pins σ H s->t σ H Q->wpAny (model X.prog X.w) X.A (isTrue e X.env (eval e X.env)) (TP X pins σ Q) X.xe s
def PW (X:Cx) (e:Expr) (t:TT):Prop :=
 ∀ (whole:Sem Value) (pins:List (Addr×Obj)) (s:Shared) (σ:St) (H:Hp) (Q:Bool->Hp->Prop),Inv X pins σ H s->t σ H Q->wpAny (model X.prog X.w) X.A (isTrue e X.env whole) (TP X pins σ Q) X.xe s
theorem PW.pt {X:Cx}{e:Expr}{t:TT} (h:PW X e t):PT X e t:=h _
def PA (X:Cx) (es:List Expr) (t:TA):Prop :=
 ∀ (pos:Pos) (pins:List (Addr×Obj)) (s:Shared) (σ:St) (H:Hp) (Q:List V->Hp->Prop),Inv X pins σ H s->t σ H Q->wpAny (model X.prog X.w) X.A (spliced (backTo pos (starEach es X.env))) (AP X pins σ Q) X.xe s
def PS (X:Cx) (st:Stmt) (t:TS):Prop :=
 ∀ (pins:List (Addr×Obj)) (s:Shared) (σ:St) (H:Hp) (D:Ends),Inv X pins σ H s->t D σ H->wpAny (model X.prog X.w) X.A (exec st X.env) (SP X pins D) X.xe s
def PSs (X:Cx) (st:List Stmt) (t:TS):Prop :=
 ∀ (pins:List (Addr×Obj)) (s:Shared) (σ:St) (H:Hp) (D:Ends),Inv X pins σ H s->t D σ H->wpAny (model X.prog X.w) X.A (execs st X.env) (SP X pins D) X.xe s
theorem ex5 {α β:Sort _}{A B C:α->β->Prop}{P:Prop} (h:∀ x y,A x y->B x y->C x y->P) (e:∃ x y,A x y/\B x y/\C x y):P:=by
 obtain⟨x,y,a,b,c⟩:=e;exact h x y a b c
theorem thn {α:Type}{t:Sem α}{Q Q':α->Shared->Prop}{M:Model}{A:Around}{E:Value->Shared->Prop}{s:Shared} (h:wpAny M A t Q E s) (hQ:∀ a s,Q a s->Q' a s):wpAny M A t Q' E s:=wpAny_mono h hQ λ _ _ x=>x
section
variable {X:Cx}
def ba4 (i:Nat):TE:=λ σ H Q=>∃ v,σ[i]?=some (some v)/\Q v H
def tC (v:V):TE:=λ _ H Q=>Q v H
theorem j_9 {i:Nat}{x:Str}{pos:Pos} (hN:X.N[i]?=some x) (hv:Vis X.env.scope x) (hd:(x==("__debug__":Str))=false:=by decide) (hcd:(x==("__classdict__":Str))=false:=by decide):PE X (.Name x pos) (ba4 i):=by
 intro pins s σ H Q I h;obtain⟨v,e,h⟩:=h;obtain⟨m,hn,hl⟩:=I.loc;obtain⟨u,r,l⟩:=hl i x v hN e hv;have fin:EP X pins σ Q u s:=⟨v,H,I,r,h⟩
 rcases l with ⟨hk,hm⟩ | ⟨hk,c,hc,hcell⟩
 ·exact wpAny_Name (wpAny_loadName_local I.ok.kind hk hn hm fin) hd
 ·rcases hk with hk | hk
  ·exact wpAny_Name (wpAny_loadName_cell I.ok.kind hk hc hcell fin) hd
  ·exact wpAny_Name (wpAny_loadName_free I.ok.kind hk hc hcell fin hcd) hd
theorem R_0 {i j pos}:PE X (.Constant (.int i) j pos) (tC (.int i)):=λ _ _ _ H _ I h=>wpAny_Constant_int ⟨.int i,H,I.tok _,⟨_,rfl⟩,h⟩
theorem aT2 {b j pos}:PE X (.Constant (.bool b) j pos) (tC (.bl b)):=λ _ _ _ H _ I h=>Constant_bool ⟨.bl b,H,I,rfl,h⟩
theorem ah4 {j pos}:PE X (.Constant .none j pos) (tC .non):=λ _ _ _ H _ I h=>Constant_none ⟨.non,H,I,rfl,h⟩
theorem ah3 {x j pos}:PE X (.Constant (.str x) j pos) (tC (.str x)):=λ _ _ _ H _ I h=>Calls.Constant_str ⟨.str x,H,I.tok _,⟨_,rfl⟩,h⟩
def Gl (X:Cx) (x:Str):Prop:=X.env.kindOf x=some .globalImplicit
theorem h_4 {E:Value->Shared->Prop}{pins:List (Addr×Obj)}{s:Shared}{σ:St}{H:Hp}{x:Str}{u:Value}{pos:Pos}{Q:Value->Shared->Prop} (I:Inv X pins σ H s) (hg:Gl X x) (hm:X.mg x=some u) (h:Q u s)
  (hd:(x==("__debug__":Str))=false:=by decide):wpAny (model X.prog X.w) X.A (eval (.Name x pos) X.env) Q E s :=
 Calls.Name_function_global I.ok.kind hg (Calls.loadGlobal_global (by rw[I.ok.glob];exact I.mod.glob.keeps I.bk) hm h) hd
theorem l_0 {E:Value->Shared->Prop}{pins:List (Addr×Obj)}{s:Shared}{σ:St}{H:Hp}{x:Str}{u:Value}{pos:Pos}{Q:Value->Shared->Prop} (I:Inv X pins σ H s) (hg:Gl X x) (hm:X.mg x=none) (hv:bootBuiltins x=some u) (h:Q u s)
  (hn:x≠"__name__":=by decide) (hd:(x==("__debug__":Str))=false:=by decide):wpAny (model X.prog X.w) X.A (eval (.Name x pos) X.env) Q E s:=by
 obtain⟨mb,h1,h2⟩:=I.mod.blt;exact Calls.Name_function_global I.ok.kind hg (Calls.loadGlobal_builtin (by rw[I.ok.glob];exact I.mod.glob.keeps I.bk) hm (by rw[I.ok.blt];exact h1.keeps I.bk) ((h2 x hn).trans hv) h) hd
theorem B_9 {x:Str}{v:V}{u:Value}{pos:Pos} (hg:Gl X x) (hm:X.mg x=some u) (r:RelV v u) (hd:(x==("__debug__":Str))=false:=by decide):PE X (.Name x pos) (tC v) :=
 λ _ _ _ H _ I h=>h_4 I hg hm ⟨v,H,I,r,h⟩ hd
theorem an9 {x:Str}{v:V}{u:Value}{pos:Pos} (hg:Gl X x) (hm:X.mg x=none) (hv:bootBuiltins x=some u) (r:RelV v u) (hn:x≠"__name__":=by decide) (hd:(x==("__debug__":Str))=false:=by decide):PE X (.Name x pos) (tC v) :=
 λ _ _ _ H _ I h=>l_0 I hg hm hv ⟨v,H,I,r,h⟩ hn hd
variable {a b:Expr}{ta tb:TE}{pos:Pos}
def PC (X:Cx) (op:CmpOp) (a b:Expr) (t:TE):Prop :=
 ∀ (pins:List (Addr×Obj)) (s:Shared) (σ:St) (H:Hp) (Q:VK),Inv X pins σ H s->t σ H Q ->
  wpAny (model X.prog X.w) X.A (eval a X.env) (λ v s₁=>wpAny (model X.prog X.w) X.A (eval b X.env) (λ u s₂=>wpAny (model X.prog X.w) X.A (compareOp op v u) (EP X pins σ Q) X.xe s₂) X.xe s₁) X.xe s
theorem ab6 (b:Expr) {op:CmpOp} (h:op≠.In) (h2:op≠.NotIn):behindInMarks op b=false:=by
 have e1:(op==CmpOp.In)=false:=by cases op <;> first | rfl | exact absurd rfl h
 have e2:(op==CmpOp.NotIn)=false:=by cases op <;> first | rfl | exact absurd rfl h2
 cases b <;> simp[behindInMarks,e1,e2]
def tB (t:TE):TT:=λ σ H Q=>t σ H λ x H1=>∃ c,x=.bl c/\Q c H1
theorem aC7 {op:CmpOp}{t:TE} (h:PC X op a b t) (h1:behindInMarks op b=false:=by first | exact ab6 _ (by decide) (by decide) | rfl):PT X (.Compare a [op] [b] pos) (tB t):=by
 intro pins s σ H Q I hw;refine wpAny_isTrue_Compare1 (thn (h pins s σ H _ I hw) λ v s1 h1=>thn h1 λ u s2 h2=>thn h2 λ c s3=>ex5 λ x H1 I1 r1 q1=>?_) h1
 obtain⟨d,rfl,q⟩:=q1;cases r1;exact wpAny_truthy_bool ⟨H1,I1,q⟩
theorem ah0 {e:Expr}{t:TE} (h:PE X e t) (he:∀ whole,isTrue e X.env whole=(do let v <- whole;standAt e.pos;holding [v] (truthy v)):=by intro _;rfl):PT X e (tB t):=by
 intro pins s σ H Q I hw;refine isTrue_plain (thn (h pins s σ H _ I hw) λ v s1=>ex5 λ x H1 I1 r1 q1=>?_) (he _)
 obtain⟨d,rfl,q⟩:=q1;cases r1;exact wpAny_truthy_bool ⟨H1,I1,q⟩
variable {tA tB':TT}{rest:List Expr}
def tAnd (t u:TT):TT:=λ σ H Q=>t σ H λ c H1=>if c=true then u σ H1 Q else Q false H1
def tOr (t u:TT):TT:=λ σ H Q=>t σ H λ c H1=>if c=true then Q true H1 else u σ H1 Q
def tNot (t:TT):TT:=λ σ H Q=>t σ H λ c H1=>Q (!c) H1
theorem am6 (ha:PT X a tA):PW X (.BoolOp .And [a] pos) tA:=by
 intro wh pins s σ H Q I h;refine isTrue_and (thn (ha pins s σ H Q I h) λ c s1 e=>?_)
 cases c with
 |true=>exact isTrue_and_nil e
 |false=>exact e
theorem aC3 (ha:PT X a tA):PW X (.BoolOp .Or [a] pos) tA:=by
 intro wh pins s σ H Q I h;refine isTrue_or (thn (ha pins s σ H Q I h) λ c s1 e=>?_)
 cases c with
 |false=>exact isTrue_or_nil e
 |true=>exact e
theorem aC4 (ha:PT X a tA) (hb:PW X (.BoolOp .And (b::rest) pos) tB'):PW X (.BoolOp .And (a::b::rest) pos) (tAnd tA tB'):=by
 intro wh pins s σ H Q I h;refine isTrue_and (thn (ha pins s σ H _ I h) λ c s1 hh0_=>?_)
 obtain⟨H1,I1,q1⟩:=hh0_;cases c with
 |true=>exact hb wh pins s1 σ H1 Q I1 q1
 |false=>exact⟨H1,I1,q1⟩
theorem aS7 (ha:PT X a tA) (hb:PW X (.BoolOp .Or (b::rest) pos) tB'):PW X (.BoolOp .Or (a::b::rest) pos) (tOr tA tB'):=by
 intro wh pins s σ H Q I h;refine isTrue_or (thn (ha pins s σ H _ I h) λ c s1 hh0_=>?_)
 obtain⟨H1,I1,q1⟩:=hh0_;cases c with
 |true=>exact⟨H1,I1,q1⟩
 |false=>exact hb wh pins s1 σ H1 Q I1 q1
theorem aC6 (ha:PT X a tA):PT X (.UnaryOp .Not a pos) (tNot tA):=by
 intro pins s σ H Q I h;exact isTrue_not (ha pins s σ H (λ c H1=>Q (!c) H1) I h)
def aQ2 (ta tb:TE):TE:=λ σ H Q=>ta σ H λ x H1=>∃ c,x=.bl c/\if c=true then tb σ H1 Q else Q (.bl false) H1
def bi5 (ta tb:TE):TE:=λ σ H Q=>ta σ H λ x H1=>∃ c,x=.bl c/\if c=true then Q (.bl true) H1 else tb σ H1 Q
theorem aD2 {op}{t:TE} (h:PE X a t):PE X (.BoolOp op [a] pos) t:=λ pins s σ H Q I hw=>BoolOp_one (h pins s σ H Q I hw)
theorem aD6 (ha:PE X a ta) (hb:PE X (.BoolOp .And (b::rest) pos) tb):PE X (.BoolOp .And (a::b::rest) pos) (aQ2 ta tb):=by
 intro pins s σ H Q I h;refine BoolOp_and (thn (ha pins s σ H _ I h) λ v s1=>ex5 λ x H1 I1 r1 q1=>?_)
 obtain⟨c,rfl,q1⟩:=q1;cases r1;refine wpAny_truthy_bool ?_;cases c with
 |true=>exact hb pins s1 σ H1 Q I1 q1
 |false=>exact⟨.bl false,H1,I1,rfl,q1⟩
theorem aT0 (ha:PE X a ta) (hb:PE X (.BoolOp .Or (b::rest) pos) tb):PE X (.BoolOp .Or (a::b::rest) pos) (bi5 ta tb):=by
 intro pins s σ H Q I h;refine BoolOp_or (thn (ha pins s σ H _ I h) λ v s1=>ex5 λ x H1 I1 r1 q1=>?_)
 obtain⟨c,rfl,q1⟩:=q1;cases r1;refine wpAny_truthy_bool ?_;cases c with
 |false=>exact hb pins s1 σ H1 Q I1 q1
 |true=>exact⟨.bl true,H1,I1,rfl,q1⟩
def tIf (t:TT) (ta tb:TE):TE:=λ σ H Q=>t σ H λ c H1=>if c=true then ta σ H1 Q else tb σ H1 Q
theorem ab0 {c:Expr} (hc:PT X c tA) (ha:PE X a ta) (hb:PE X b tb):PE X (.IfExp c a b pos) (tIf tA ta tb):=by
 intro pins s σ H Q I h;refine wpAny_IfExp (thn (hc pins s σ H _ I h) λ d s1 hh0_=>?_)
 obtain⟨H1,I1,q1⟩:=hh0_;cases d with
 |true=>exact ha pins s1 σ H1 Q I1 q1
 |false=>exact hb pins s1 σ H1 Q I1 q1
end
def SqL (K:Frag) (H:Hp) (a:Addr) (xs:List V):Prop :=
 Rd H a (.lst xs) \/
  ∃ (o:Obj) (its:Array Value) (n:Nat),K.lookup a=some o ∧ o.cls=.type "list" ∧ o.dict=none ∧ o.data=.seq its n ∧ its.size ≤ sizeLine ∧ Vals xs its.toList
def SqT (K:Frag) (H:Hp) (a:Addr) (xs:List V):Prop :=
 Rd H a (.tup xs) \/
  ∃ (o:Obj) (its:Array Value) (n:Nat),K.lookup a=some o ∧ o.cls=.type "tuple" ∧ o.dict=none ∧ o.data=.seq its n ∧ its.size ≤ sizeLine ∧ Vals xs its.toList
def bn9:Value->Option V
 |.none=>some .non
 |.bool b=>some (.bl b)
 |.int i _=>some (.int i)
 |.str x _=>some (.str x)
 |.bytes b _=>some (.byt b)
 |.float b _=>some (.flt b)
 |.ref a=>some (.ref a)
 |.type n=>some (.ty n)
 |_=>none
theorem RelV.abs {x:V}{u:Value} (r:RelV x u):bn9 u=some x:=by
 cases x with
 |non=>cases r;rfl
 |bl _=>cases r;rfl
 |int _=>obtain⟨t,rfl⟩:=r;rfl
 |str _=>obtain⟨t,rfl⟩:=r;rfl
 |byt _=>obtain⟨t,rfl⟩:=r;rfl
 |flt _=>obtain⟨t,rfl⟩:=r;rfl
 |ref _=>cases r;rfl
 |ty _=>cases r;rfl
theorem RelV.inj {x y:V}{u:Value} (r:RelV x u) (q:RelV y u):x=y:=qh (r.abs.symm.trans q.abs)
theorem Vals.inj:∀ {xs ys:List V}{us:List Value},Vals xs us->Vals ys us->xs=ys
 |[],ys,us,h,k=>by cases h;cases k;rfl
 |x::xs,ys,us,h,k=>by
  cases h with
  |cons r t =>
   cases k with
   |cons r' t'=>rw[r.inj r',Vals.inj t t']
section
variable {X:Cx}{pins:List (Addr×Obj)}{σ:St}{H:Hp}{s:Shared}{a:Addr}{xs ys:List V}
theorem SqL.of {K:Frag} (h:H a=some (.lst xs)):SqL K H a xs:=.inl (.inl h)
theorem SqT.of {K:Frag} (h:H a=some (.tup xs)):SqT K H a xs:=.inl (.inl h)
theorem Inv.list (I:Inv X pins σ H s) (h:SqL X.K H a xs):∃ its:List Value,Vals xs its/\PlainL s.heap a its.toArray/\xs.length<=sizeLine:=by
 rcases h with h | ⟨o,its,n,hk,hc,hd,hs,hz,r⟩
 ·obtain⟨z,its,n,r,e⟩:=h.ok I.hok
  exact⟨its,r,⟨_,n,e,rfl,rfl,rfl⟩,z⟩
 ·refine⟨its.toList,r,⟨o,n,I.kIn a o hk,hc,hd,by simpa using hs⟩,?_⟩
  have e:=r.length;simp only[Array.length_toList] at e;omega
theorem Inv.tuple (I:Inv X pins σ H s) (h:SqT X.K H a xs):∃ its:List Value,Vals xs its/\IsTup s.heap a its.toArray/\xs.length<=sizeLine:=by
 rcases h with h | ⟨o,its,n,hk,hc,_,hs,hz,r⟩
 ·obtain⟨z,its,r,p⟩:=h.ok I.hok
  exact⟨its,r,p.tup,z⟩
 ·refine⟨its.toList,r,⟨o,I.kIn a o hk,hc,n,by simpa using hs⟩,?_⟩
  have e:=r.length;simp only[Array.length_toList] at e;omega
theorem Inv.list_inj (I:Inv X pins σ H s) (h:SqL X.K H a xs) (h':SqL X.K H a ys):xs=ys:=by
 obtain⟨its,r,⟨o,n,e,_,_,d⟩,_⟩:=I.list h;obtain⟨its',r',⟨o',n',e',_,_,d'⟩,_⟩:=I.list h';rw[e] at e';cases e';rw[d] at d';injection d' with d1 _
 have:its=its':=by simpa using congrArg Array.toList d1
 subst this;exact r.inj r'
theorem Inv.tuple_inj (I:Inv X pins σ H s) (h:SqT X.K H a xs) (h':SqT X.K H a ys):xs=ys:=by
 obtain⟨its,r,⟨o,e,_,n,d⟩,_⟩:=I.tuple h;obtain⟨its',r',⟨o',e',_,n',d'⟩,_⟩:=I.tuple h';rw[e] at e';cases e';rw[d] at d';injection d' with d1 _
 have:its=its':=by simpa using congrArg Array.toList d1
 subst this;exact r.inj r'
end
abbrev Cx.wish (X:Cx) (E:Value->Shared->Prop):Cx:={X with xe:=E}
abbrev Cx.nox (X:Cx):Cx:=X.wish λ _ _=>False
theorem Cx.Ok.wish {X:Cx} (ok:X.Ok) (E:Value->Shared->Prop):(X.wish E).Ok :=
 ⟨ok.mod,ok.kind,ok.glob,ok.blt,ok.above,ok.inj,ok.has,ok.cab,ok.hd,ok.frames,ok.stk,ok.exf,ok.bs,ok.bsz,ok.noex,ok.exfs,ok.funs,ok.frf⟩
theorem Cx.Ok.unwish {X:Cx}{E:Value->Shared->Prop} (ok:(X.wish E).Ok):X.Ok :=
 ⟨ok.mod,ok.kind,ok.glob,ok.blt,ok.above,ok.inj,ok.has,ok.cab,ok.hd,ok.frames,ok.stk,ok.exf,ok.bs,ok.bsz,ok.noex,ok.exfs,ok.funs,ok.frf⟩
section
variable {X:Cx}{pins:List (Addr×Obj)}{σ:St}{H:Hp}{s:Shared}{E:Value->Shared->Prop}
theorem Inv.wish (I:Inv X pins σ H s) (E:Value->Shared->Prop):Inv (X.wish E) pins σ H s:=⟨I.ok.wish E,I.os,I.bare,I.base,I.loc,I.cell,I.free,I.freeC,I.pin,I.hok,I.len⟩
theorem Inv.unwish (I:Inv (X.wish E) pins σ H s):Inv X pins σ H s:=⟨I.ok.unwish,I.os,I.bare,I.base,I.loc,I.cell,I.free,I.freeC,I.pin,I.hok,I.len⟩
theorem SP.unwish {D:Ends}{f:Flow}{s':Shared} (h:SP (X.wish E) pins D f s'):SP X pins D f s':=by
 cases f with
 |next=>obtain⟨σ',H',I,q⟩:=h;exact⟨σ',H',I.unwish,q⟩
 |brk=>obtain⟨σ',H',I,q⟩:=h;exact⟨σ',H',I.unwish,q⟩
 |cont=>obtain⟨σ',H',I,q⟩:=h;exact⟨σ',H',I.unwish,q⟩
 |ret u=>obtain⟨v,σ',H',I,r,q⟩:=h;exact⟨v,σ',H',I.unwish,r,q⟩
theorem PE.nox {e:Expr}{t:TE} (h:PE X.nox e t):PE X e t:=λ pins s σ H Q I hw =>
 wpAny_mono (h pins s σ H Q (I.wish _) hw) (λ _ _ ⟨v,H',I',r,q⟩=>⟨v,H',I'.unwish,r,q⟩) λ _ _ z=>False.elim z
theorem PT.nox {e:Expr}{t:TT} (h:PT X.nox e t):PT X e t:=λ pins s σ H Q I hw =>
 wpAny_mono (h pins s σ H Q (I.wish _) hw) (λ _ _ ⟨H',I',q⟩=>⟨H',I'.unwish,q⟩) λ _ _ z=>False.elim z
theorem PSs.nox {st:List Stmt}{t:TS} (h:PSs X.nox st t):PSs X st t:=λ pins s σ H D I hw =>
 wpAny_mono (h pins s σ H D (I.wish _) hw) (λ _ _ q=>q.unwish) λ _ _ z=>False.elim z
end
section
variable {X:Cx}{st:Stmt}{rest:List Stmt}{t u:TS}{e:Expr}{te:TE}{pos:Pos}
def aP8:TS:=λ D σ H=>D.nx σ H
def bi3 (t u:TS):TS:=λ D σ H=>t {D with nx:=u D} σ H
theorem B_8:PSs X [] aP8:=λ _ _ σ H _ I h=>wpAny_execs_nil ⟨σ,H,I,h⟩
theorem j_3 (h1:PS X st t) (h2:PSs X rest u):PSs X (st::rest) (bi3 t u):=by
 intro pins s σ H D I h;refine wpAny_execs_cons (thn (h1 pins s σ H {D with nx:=u D} I h) λ f s1 q=>?_)
 cases f with
 |next =>
  obtain⟨σ',H',I',q⟩:=q;exact h2 pins s1 σ' H' D I' q
 |ret v=>exact q
 |brk=>exact q
 |cont=>exact q
theorem m_0 (h1:PS X st t):PSs X [st] t:=by
 intro pins s σ H D I h;refine wpAny_execs_cons (thn (h1 pins s σ H D I h) λ f s1 q=>?_)
 cases f with
 |next=>exact wpAny_execs_nil q
 |ret v=>exact q
 |brk=>exact q
 |cont=>exact q
theorem Inv.quiet {pins:List (Addr×Obj)}{σ:St}{H:Hp}{s:Shared} (I:Inv X pins σ H s):interactive X.env=false:=by simp[interactive,I.ok.kind]
def aP9 (te:TE):TS:=λ D σ H=>te σ H λ _ H1=>D.nx σ H1
theorem t_8 (he:PE X e te) (hs:swapsWith e none pos.line X.env=pure false:=by rfl):PS X (.Expr e pos) (aP9 te):=by
 intro pins s σ H D I h;exact wpAny_Expr_any (thn (he pins s σ H _ I h) λ v s1=>ex5 λ x H1 I1 r1 q1=>⟨σ,H1,I1,q1⟩) I.quiet hs
def bi4 (te:TE):TS:=λ D σ H=>te σ H D.rt
theorem Q_3 (he:PE X e te):PS X (.Return (some e) pos) (bi4 te):=by
 intro pins s σ H D I h;exact wpAny_Return_some (thn (he pins s σ H _ I h) λ v s1=>ex5 λ x H1 I1 r1 q1=>⟨x,σ,H1,I1,r1,q1⟩)
def bi9 (c:TT) (t u:TS):TS:=λ D σ H=>c σ H λ b H1=>if b=true then t D σ H1 else u D σ H1
theorem aa6 {c:Expr}{a b:List Stmt}{tc:TT} (hc:PT X c tc) (ha:PSs X a t) (hb:PSs X b u):PS X (.If c a b pos) (bi9 tc t u):=by
 intro pins s σ H D I h;refine wpAny_If (thn (hc pins s σ H _ I h) λ d s1 hh0_=>?_)
 obtain⟨H1,I1,q1⟩:=hh0_;cases d with
 |true=>exact ha pins s1 σ H1 D I1 q1
 |false=>exact hb pins s1 σ H1 D I1 q1
def az2:TS:=λ _ _ _=>False
theorem x_1 {sts:List Stmt}:PSs X sts az2:=λ _ _ _ _ _ _ h=>h.elim
end
abbrev TG:=V->St->Hp->(St->Hp->Prop)->Prop
abbrev TGs:=List V->St->Hp->(St->Hp->Prop)->Prop
def PG (X:Cx) (target:Expr) (t:TG):Prop :=
 ∀ (pins:List (Addr×Obj)) (s:Shared) (σ:St) (H:Hp) (v:V) (u:Value) (Q:St->Hp->Prop),Inv X pins σ H s->RelV v u->t v σ H Q ->
  wpAny (model X.prog X.w) X.A (assign target X.env u) (λ _ s'=>∃ σ' H',Inv X pins σ' H' s'/\Q σ' H') X.xe s
def PGs (X:Cx) (ts:List Expr) (t:TGs):Prop :=
 ∀ (pins:List (Addr×Obj)) (s:Shared) (σ:St) (H:Hp) (vs:List V) (us:List Value) (Q:St->Hp->Prop),Inv X pins σ H s->Vals vs us->t vs σ H Q ->
  wpAny (model X.prog X.w) X.A (assignInOrder ((assignEach ts X.env).map (·.2)) us) (λ _ s'=>∃ σ' H',Inv X pins σ' H' s'/\Q σ' H') X.xe s
section
variable {X:Cx}{pos:Pos}
def U_1 (i:Nat):TG:=λ v σ H Q=>Q (σ.set i (some v)) H
theorem u_0 {i:Nat}{x:Str} (hN:X.N.Nodup) (hi:X.N[i]?=some x) (hx:Loc X.env.scope x) (hf:X.fn x=true\/X.env.scope.names.lookup x=some .local:=by first | exact .inl rfl | exact .inr rfl | assumption):PG X (.Name x pos) (U_1 i):=by
 intro pins s σ H v u Q I r h;exact wpAny_assign_Name (t_2 I hN hi hx r (λ s' I'=>⟨_,H,I',h⟩) hf)
def be3:TGs:=λ vs σ H Q=>vs=[]/\Q σ H
def aq9 (t:TG) (u:TGs):TGs:=λ vs σ H Q=>∃ v r,vs=v::r/\t v σ H λ σ' H'=>u r σ' H' Q
theorem Q_9:PGs X [] be3:=by
 intro pins s σ H vs us Q I r h;obtain⟨e,h⟩:=h;subst e;cases r;exact assignInOrder_nil ⟨σ,H,I,h⟩
theorem t_9 {e:Expr}{es:List Expr}{t:TG}{u:TGs} (h1:PG X e t) (h2:PGs X es u)
  (hs:(assignEach (e::es) X.env).map (·.2)=assign e X.env::(assignEach es X.env).map (·.2):=by rfl):PGs X (e::es) (aq9 t u):=by
 intro pins s σ H vs us Q I r h;obtain⟨v,vr,e1,h⟩:=h;subst e1;cases r with
 |cons r rr =>
  rw[hs];refine assignInOrder_cons (thn (h1 pins s σ H _ _ _ I r h) λ _ s1 hh0_=>?_)
  obtain⟨σ1,H1,I1,q1⟩:=hh0_;exact h2 pins s1 σ1 H1 _ _ Q I1 rr q1
def be2 (K:Frag) (n:Nat) (t:TGs):TG:=λ v σ H Q=>∃ a xs,v=.ref a/\SqT K H a xs/\xs.length=n/\t xs σ H Q
theorem ah1 {es:List Expr}{k:Nat}{t:TGs}{n:Nat} (hc:X.calm=true) (h:PGs X es t)
  (hn:(assignEach es X.env).length=n:=by rfl) (hst:(assignEach es X.env).findIdx? (·.1)=none:=by rfl):PG X (.Tuple es k pos) (be2 X.K n t):=by
 intro pins s σ H v u Q I r hw;obtain⟨a,xs,e1,hq,hl,hw⟩:=hw;subst e1;cases r;obtain⟨its,rv,ht,hz⟩:=I.tuple hq;refine assign_Tuple_tuple (I.ok.hd hc) ht (by simp[hn,<- hl,rv.length]) hst λ h' hx=>?_
 have I1:Inv X pins σ H {s with heap:=h'}:=I.kept (t':=s.toks) λ b o e=>hx b o (qp (qk e)) e
 exact h pins _ σ H xs _ Q I1 (by simpa using rv) hw
def bj3 (te:TE) (g:TG):TS:=λ D σ H=>te σ H λ x H1=>g x σ H1 D.nx
theorem x_2 {i:Nat}{x:Str}{e:Expr}{te:TE}{pos':Pos} (hN:X.N.Nodup) (hi:X.N[i]?=some x) (hx:Loc X.env.scope x) (he:PE X e te) (hs:swapsWith e (some (.Name x pos')) pos.line X.env=pure false:=by rfl) (hf:X.fn x=true\/X.env.scope.names.lookup x=some .local:=by first | exact .inl rfl | exact .inr rfl | assumption) :
  PS X (.Assign [.Name x pos'] e pos) (bj3 te (U_1 i)):=by
 intro pins s σ H D I h;refine wpAny_Assign_Name (thn (he pins s σ H _ I h) λ v s1=>ex5 λ y H1 I1 r1 q1=>?_) hs
 exact t_2 I1 hN hi hx r1 (λ s2 I2=>⟨_,H1,I2,q1⟩) hf
end
structure It where
 go:Nat->Hp->Prop
 yld:Nat->Hp->V->Hp->Prop
 stop:Nat->Hp->Prop
def FpOk (X:Cx) (pins:List (Addr×Obj)) (H:Hp) (b:Addr):Prop :=
 H b=none/\b≠X.env.locals/\b∉X.fs/\(b∈X.ex\/X.s₀.heap.objs.size<=b)/\(∀ x c,X.env.cells.lookup x=some c->c≠b)/\∀ p∈X.pn++pins,p.1≠b
theorem Inv.fpOk {X:Cx}{pins:List (Addr×Obj)}{σ:St}{H H':Hp}{s:Shared}{b:Addr} (I:Inv X pins σ H s) (hb:s.heap.objs.size<=b) (hn:H' b=none):FpOk X pins H' b:=by
 refine⟨hn,Nat.ne_of_gt (qo I.lt hb),I.nofs hb,.inr (Nat.le_trans I.sz hb),λ x c e z=>?_,λ p hp z=>?_⟩
 ·obtain⟨v,q⟩:=I.cell x c e
  exact absurd (qo q.lt (by rw[z];exact hb)) (Nat.lt_irrefl _)
 ·exact absurd (qo (qk (I.pin p hp).1) (by rw[z];exact hb)) (Nat.lt_irrefl _)
structure Turn (P:Program) (w:World) (K:Frag) (tg:Expr) (J:It) (fp:List Addr) (it:Addr) (tn:Nat->Heap->Prop):Prop where
 mem:it∈fp
 obj:∀ i h,tn i h->∀ b∈fp,∃ o,h.get? b=some o/\∀ v,o.data≠.cell v
 keep:∀ i h h',tn i h->(∀ b∈fp,∀ o,h.get? b=some o->h'.get? b=some o)->tn i h'
 item:∀ (X:Cx),X.prog=P->X.w=w->X.K=K->X.calm=true->∀ (i:Nat) (pins:List (Addr×Obj)) (s:Shared) (σ:St) (H:Hp) (E:Value->Shared->Prop),Inv X pins σ H s->(∀ b∈fp,FpOk X pins H b)->tn i s.heap->J.go i H ->
  wpAny (model P w) X.A (pyNext (.ref it)) (λ r s1=>∃ u,r=some u /\
   wpAny (model P w) X.A (letOwnedTupleGo tg (.ref it) u) (λ _ s2=>∃ x H',Inv X pins σ H' s2/\RelV x u/\J.yld i H x H'/\tn (i+1) s2.heap/\∀ b∈fp,H' b=none) E s1) E s
 done:∀ (X:Cx),X.prog=P->X.w=w->X.K=K->X.calm=true->∀ (i:Nat) (pins:List (Addr×Obj)) (s:Shared) (σ:St) (H:Hp) (E:Value->Shared->Prop),Inv X pins σ H s->(∀ b∈fp,FpOk X pins H b)->tn i s.heap->J.stop i H ->
  wpAny (model P w) X.A (pyNext (.ref it)) (λ r s1=>r=none/\Inv X pins σ H s1) E s
 self:∀ (A:Around) (i:Nat) (s:Shared) (Q:Value->Shared->Prop) (E:Value->Shared->Prop),tn i s.heap->Q (.ref it) s->wpAny (model P w) A (pyIter (.ref it)) Q E s
abbrev TI:=St->Hp->(It->Hp->Prop)->Prop
def PIE (X:Cx) (pins:List (Addr×Obj)) (σ:St) (tg:Expr) (R:It->Hp->Prop) (itv:Value) (s2:Shared):Prop :=
 ∃ (it:Addr) (fp:List Addr) (tn:Nat->Heap->Prop) (J:It) (H':Hp),itv=.ref it/\Inv X pins σ H' s2/\Turn X.prog X.w X.K tg J fp it tn/\tn 0 s2.heap/\(∀ b∈fp,FpOk X pins H' b)/\R J H'
def PI (X:Cx) (tg iter:Expr) (wi:TI):Prop :=
 ∀ (pins:List (Addr×Obj)) (s:Shared) (σ:St) (H:Hp) (R:It->Hp->Prop),Inv X pins σ H s->wi σ H R ->
  wpAny (model X.prog X.w) X.A (eval iter X.env) (λ v s1=>wpAny (model X.prog X.w) X.A (pyIter v) (PIE X pins σ tg R) X.xe s1) X.xe s
theorem ad2 {M:Model}{A:Around}{E:Value->Shared->Prop}{s:Shared}{tg:Expr}{it:Addr}{u:Value}{o:Obj}{n:String}{vs:Array Value}{Q:Unit->Shared->Prop} (ho:s.heap.get? it=some o) (hc:o.cls=.type n) (hd:o.data=.fields vs)
  (hn:["enumerate","zip","dict_itemiterator","dict_reverseitemiterator","odict_iterator","itertools.zip_longest","itertools.pairwise"].contains n=false) (hQ:Q () s):wpAny M A (letOwnedTupleGo tg (.ref it) u) Q E s:=by
 unfold letOwnedTupleGo;cases tg <;> first
  |exact qc hQ
  |(cases u <;> first
    |exact qc hQ
    |(refine qb (wpAny_load ho ?_);rw[hc,hd];show wpAny M A (if (["enumerate","zip","dict_itemiterator","dict_reverseitemiterator","odict_iterator","itertools.zip_longest","itertools.pairwise"].contains n&&vs[0]?==some (rawInt _))=true then _ else _) Q E s;rw[if_neg (by intro h;rw[hn,Bool.false_and] at h;cases h)];exact qc hQ))
def Itl (K:Frag) (a:Addr):It :=
 ⟨λ i H=>∃ xs x,SqL K H a xs/\xs[i]?=some x,λ i H x H'=>H'=H/\∀ xs,SqL K H a xs->xs[i]?=some x,λ i H=>∃ xs,SqL K H a xs/\xs.length<=i⟩
def Itt (K:Frag) (a:Addr):It :=
 ⟨λ i H=>∃ xs x,SqT K H a xs/\xs[i]?=some x,λ i H x H'=>H'=H/\∀ xs,SqT K H a xs->xs[i]?=some x,λ i H=>∃ xs,SqT K H a xs/\xs.length<=i⟩
def Itr (lo:Int) (n:Nat):It:=⟨λ i _=>i<n,λ i H x H'=>H'=H/\x=.int (lo+i),λ i _=>n<=i⟩
theorem O_6 {P:Program}{w:World}{K:Frag}{tg:Expr} (a it:Addr):Turn P w K tg (Itl K a) [it] it (λ i h=>h.IsListIter it a i) where
 mem:=by simp
 obj:=λ i h st b hb=>by
  have e:b=it:=by simpa using hb
  subst e;obtain⟨o,e,c,d⟩:=st;exact⟨o,e,λ v z=>by rw[d] at z;cases z⟩
 keep:=λ i h h' st k=>st.at λ o e=>k it (by simp) o e
 item:=by
  intro X hP hw hK hc i pins s σ H E I hf st hg;subst hP hw hK;obtain⟨xs,x,hq,hx⟩:=hg;obtain⟨its,rv,p,hz⟩:=I.list hq;obtain⟨u,hu,ru⟩:=rv.get hx;obtain⟨f0,f1,f2,f3,f4,f5⟩:=hf it (by simp)
  refine wpAny_pyNext_list_item st p.isList (x:=u) (by simpa using hu) λ h' st' sb=>?_
  have I1:Inv X pins σ H {s with heap:=h'}:=I.turned (t':=s.toks) (λ b o hb e=>(sb.2 b hb).trans e) f0 f1 f3 f4 f5
  obtain⟨o,e,c,d⟩:=id st';exact⟨u,rfl,ad2 (s:={s with heap:=h'}) e c d (by decide) ⟨x,H,I1,ru,⟨rfl,λ ys hy=>by rw[I.list_inj hy hq];exact hx⟩,st',λ b hb=>(hf b hb).1⟩⟩
 done:=by
  intro X hP hw hK hc i pins s σ H E I hf st hg;subst hP hw hK;obtain⟨xs,hq,hx⟩:=hg;obtain⟨its,rv,p,hz⟩:=I.list hq;obtain⟨f0,f1,f2,f3,f4,f5⟩:=hf it (by simp)
  have hl:=rv.length;exact wpAny_pyNext_list_end (I.ok.hd hc) st p.isList (by simp;omega) λ h' eb=>⟨rfl,I.turned (t':=s.toks) (λ b o hb e=>eb b o hb e) f0 f1 f3 f4 f5⟩
 self:=λ _ _ _ _ _ st h=>wpAny_pyIter_listiter st h
theorem K_6 {P:Program}{w:World}{K:Frag}{tg:Expr} (a it:Addr):Turn P w K tg (Itt K a) [it] it (λ i h=>h.IsTupleIter it a i) where
 mem:=by simp
 obj:=λ i h st b hb=>by
  have e:b=it:=by simpa using hb
  subst e;obtain⟨o,e,c,d⟩:=st;exact⟨o,e,λ v z=>by rw[d] at z;cases z⟩
 keep:=λ i h h' st k=>st.at λ o e=>k it (by simp) o e
 item:=by
  intro X hP hw hK hc i pins s σ H E I hf st hg;subst hP hw hK;obtain⟨xs,x,hq,hx⟩:=hg;obtain⟨its,rv,p,hz⟩:=I.tuple hq;obtain⟨u,hu,ru⟩:=rv.get hx;obtain⟨f0,f1,f2,f3,f4,f5⟩:=hf it (by simp)
  refine wpAny_pyNext_tuple_item st (show s.heap.IsTuple a its.toArray from p) (x:=u) (by simpa using hu) λ h' st' sb=>?_
  have I1:Inv X pins σ H {s with heap:=h'}:=I.turned (t':=s.toks) (λ b o hb e=>(sb.2 b hb).trans e) f0 f1 f3 f4 f5
  obtain⟨o,e,c,d⟩:=id st';exact⟨u,rfl,ad2 (s:={s with heap:=h'}) e c d (by decide) ⟨x,H,I1,ru,⟨rfl,λ ys hy=>by rw[I.tuple_inj hy hq];exact hx⟩,st',λ b hb=>(hf b hb).1⟩⟩
 done:=by
  intro X hP hw hK hc i pins s σ H E I hf st hg;subst hP hw hK;obtain⟨xs,hq,hx⟩:=hg;obtain⟨its,rv,p,hz⟩:=I.tuple hq;obtain⟨f0,f1,f2,f3,f4,f5⟩:=hf it (by simp)
  have hl:=rv.length;exact wpAny_pyNext_tuple_end (I.ok.hd hc) st (show s.heap.IsTuple a its.toArray from p) (by simp;omega) λ h' eb=>⟨rfl,I.turned (t':=s.toks) (λ b o hb e=>eb b o hb e) f0 f1 f3 f4 f5⟩
 self:=λ _ _ _ _ _ st h=>wpAny_pyIter_tupleiter st h
theorem K_7 {P:Program}{w:World}{K:Frag}{tg:Expr} (it:Addr) (lo:Int) (n:Nat):Turn P w K tg (Itr lo n) [it] it (λ i h=>IsRangeIter h it (lo+(i:Nat)*1) ((n:Int)-(i:Nat)) 1) where
 mem:=by simp
 obj:=λ i h st b hb=>by
  have e:b=it:=by simpa using hb
  subst e
  exact⟨_,st,λ v z=>by
   have z':Data.fields _=Data.cell v:=z;cases z'⟩
 keep:=λ i h h' st k=>k it (by simp) _ st
 item:=by
  intro X hP hw hK hc i pins s σ H E I hf st hg;subst hP hw hK;obtain⟨f0,f1,f2,f3,f4,f5⟩:=hf it (by simp)
  have W:=Walks.range (prog:=X.prog) (w:=X.w) (I.ok.hd hc) it lo 1 n;refine W.item i s _ _ hg st λ v h' tk hv st' kk=>?_
  obtain⟨t,rfl⟩:=hv;have I1:Inv X pins σ H {s with heap:=h',toks:=tk}:=I.turned (λ b o hb e=>kk b o (by simpa using hb) e) f0 f1 f3 f4 f5
  refine⟨_,rfl,ad2 (s:={s with heap:=h',toks:=tk}) (n:="range_iterator") st' rfl rfl (by decide) ⟨.int (lo+i),H,I1,⟨t,?_⟩,⟨rfl,rfl⟩,st',λ b hb=>(hf b hb).1⟩⟩
  rw[Int.mul_one]
 done:=by
  intro X hP hw hK hc i pins s σ H E I hf st hg;subst hP hw hK;obtain⟨f0,f1,f2,f3,f4,f5⟩:=hf it (by simp)
  exact wpAny_pyNext_range_end (I.ok.hd hc) st (by have:n<=i:=hg;omega) λ h' eb=>⟨rfl,I.turned (t':=s.toks) (λ b o hb e=>eb b o hb e) f0 f1 f3 f4 f5⟩
 self:=λ _ _ _ _ _ st h=>wpAny_pyIter_rangeiter st h
section
variable {X:Cx}{tg:Expr}
def aG8 (K:Frag) (tl:TE):TI:=λ σ H R=>tl σ H λ x H1=>∃ a,x=.ref a/\(∃ xs,SqL K H1 a xs)/\R (Itl K a) H1
def be0 (K:Frag) (tl:TE):TI:=λ σ H R=>tl σ H λ x H1=>∃ a,x=.ref a/\(∃ xs,SqT K H1 a xs)/\R (Itt K a) H1
theorem an4 {l:Expr}{tl:TE} (hl:PE X l tl):PI X tg l (aG8 X.K tl):=by
 intro pins s σ H R I h;refine thn (hl pins s σ H _ I h) λ v s1=>ex5 λ x H1 I1 r1 q1=>?_
 obtain⟨a,e,⟨xs,hq⟩,q⟩:=q1;subst e;cases r1;obtain⟨its,rv,p,hz⟩:=I1.list hq;refine wpAny_pyIter_list p.isList ?_;refine⟨s1.heap.objs.size,[s1.heap.objs.size],_,_,H1,rfl,I1.kept (t':=s1.toks) λ b o e=>qd _ e,O_6 a _,⟨_,qj _ rfl,rfl,rfl⟩,λ b hb=>?_,q⟩
 have e:b=s1.heap.objs.size:=by simpa using hb
 subst e;exact I1.fpOk (qi _) (I1.hok.fresh (qi _))
theorem aC8 {l:Expr}{tl:TE} (hl:PE X l tl):PI X tg l (be0 X.K tl):=by
 intro pins s σ H R I h;refine thn (hl pins s σ H _ I h) λ v s1=>ex5 λ x H1 I1 r1 q1=>?_
 obtain⟨a,e,⟨xs,hq⟩,q⟩:=q1;subst e;cases r1;obtain⟨its,rv,p,hz⟩:=I1.tuple hq;refine wpAny_pyIter_tuple (show s1.heap.IsTuple a its.toArray from p) ?_;refine⟨s1.heap.objs.size,[s1.heap.objs.size],_,_,H1,rfl,I1.kept (t':=s1.toks) λ b o e=>qd _ e,K_6 a _,⟨_,qj _ rfl,rfl,rfl⟩,λ b hb=>?_,q⟩
 have e:b=s1.heap.objs.size:=by simpa using hb
 subst e;exact I1.fpOk (qi _) (I1.hok.fresh (qi _))
theorem aa0 {pins:List (Addr×Obj)}{σ:St}{H:Hp}{s:Shared}{R:It->Hp->Prop}{E:Value->Shared->Prop}{lo hi:Int}{t u v:Tok}{tk:Nat} (I:Inv X pins σ H s) (h1:-(2 ^ 62)<=lo) (h2:lo<2 ^ 62) (h3:-(2 ^ 62)<=hi) (h4:hi<2 ^ 62)
  (q:R (Itr lo (hi-lo).toNat) H):wpAny (model X.prog X.w) X.A (pyIter (.ref s.heap.objs.size)) (PIE X pins σ tg R) E {s with heap:=s.heap.push {cls:=.type "range",data:=.fields #[.int lo t,.int hi u,.int 1 v]},toks:=tk}:=by
 refine wpAny_pyIter_range (IsRange.new ..) (small_one h1 h2 h3 h4) ?_;have I1:Inv X pins σ H {s with heap:=s.heap.push {cls:=.type "range",data:=.fields #[.int lo t,.int hi u,.int 1 v]},toks:=tk}:=I.kept λ b o e=>qd _ e
 refine⟨(s.heap.push {cls:=.type "range",data:=.fields #[.int lo t,.int hi u,.int 1 v]}).objs.size,[(s.heap.push {cls:=.type "range",data:=.fields #[.int lo t,.int hi u,.int 1 v]}).objs.size],_,_,H,rfl,
  I1.kept (t':=tk) λ b o e=>qd _ e,K_7 _ lo (hi-lo).toNat,?_,λ b hb=>?_,q⟩
 ·have e1:lo+((0:Nat):Int)*1=lo:=by simp
  have e2:(((hi-lo).toNat:Nat):Int)-((0:Nat):Int)=Builtin.Range.rangeSize lo hi 1:=by rw[rangeSize_one];split <;> omega
  show IsRangeIter _ _ (lo+((0:Nat):Int)*1) ((((hi-lo).toNat:Nat):Int)-((0:Nat):Int)) 1;rw[e1,e2];exact qj _ rfl
 ·have e:b=(s.heap.push {cls:=.type "range",data:=.fields #[.int lo t,.int hi u,.int 1 v]}).objs.size:=by simpa using hb
  subst e;exact I1.fpOk (qi _) (I1.hok.fresh (qi _))
def aW3 (ta:TA):TI:=λ σ H R=>ta σ H λ vs H1=>∃ j:Int,vs=[.int j]/\-(2 ^ 62)<=j/\j<2 ^ 62/\R (Itr 0 j.toNat) H1
theorem x_4 {a:Expr}{ta:TA}{p pos:Pos} (hg:Gl X "range") (hm:X.mg "range"=none) (ha:PA X [a] ta) (hs:starEach [a] X.env=[(false,eval a X.env)]:=by rfl):PI X tg (.Call (.Name "range" p) [a] [] pos) (aW3 ta):=by
 intro pins s σ H R I h;refine Call_ (l_0 I hg hm boot_range (PyProof.Rows.callWith_type1 (thn (ha pos pins s σ H _ I h) λ us s1=>ex5 λ vs H1 I1 r1 q1=>?_) hs rfl))
 obtain⟨j,e,q1,q2,q⟩:=q1;subst e;cases r1 with
 |cons r rr =>
  cases rr;obtain⟨t,rfl⟩:=r;exact call_range_1 (aa0 I1 (by omega) (by omega) q1 q2 (by simpa using q))
def bj0 (wi:TI) (g:TG) (tb:TS):TS:=λ D σ H=>wi σ H λ J H1=>∃ W:Nat->Nat->St->Hp->Prop,(∃ m,W 0 m σ H1)/\∀ i m σ H,W i m σ H ->
 (J.stop i H/\D.nx σ H)\/(J.go i H/\∃ N:St->Hp->Prop,(∀ σ' H',N σ' H'->∃ m',m'<m/\W (i+1) m' σ' H')/\∀ x H',J.yld i H x H'->g x σ H' λ σ2 H2=>tb {D with nx:=N,ct:=N,bk:=D.nx} σ2 H2)
def x_3 (fp:List Addr) (h:Heap):List (Addr×Obj):=fp.filterMap λ b=>(h.get? b).map λ o=>(b,o)
theorem j_4 {fp:List Addr}{h:Heap}{b:Addr}{o:Obj} (hb:b∈fp) (e:h.get? b=some o):(b,o)∈x_3 fp h:=List.mem_filterMap.mpr ⟨b,hb,by rw[e];rfl⟩
theorem S_1 {fp:List Addr}{h:Heap}{p:Addr×Obj} (hp:p∈x_3 fp h):p.1∈fp/\h.get? p.1=some p.2:=by
 obtain⟨b,hb,e⟩:=List.mem_filterMap.mp hp;cases q:h.get? b with
 |none=>rw[q] at e;cases e
 |some o =>
  rw[q] at e;have e':(b,o)=p:=qh e;subst e';exact⟨hb,q⟩
theorem Inv.pinned {pins:List (Addr×Obj)}{σ:St}{H:Hp}{s:Shared}{fp:List Addr} (I:Inv X pins σ H s) (hf:∀ b∈fp,FpOk X pins H b) (ho:∀ b∈fp,∃ o,s.heap.get? b=some o/\∀ v,o.data≠.cell v):Inv X (pins++x_3 fp s.heap) σ H s :=
 I.pins_of λ p hp=>(qt hp).elim (λ z=>I.pin p (ql _ z)) λ z=>by
  obtain⟨hb,e⟩:=S_1 z;obtain⟨f0,f1,f2,_⟩:=hf p.1 hb;obtain⟨o,e',d⟩:=ho p.1 hb;rw[e] at e';cases e';exact⟨e,f0,f1,f2,d⟩
theorem Inv.unpinned {pins pl:List (Addr×Obj)}{σ:St}{H:Hp}{s:Shared} (I:Inv X (pins++pl) σ H s):Inv X pins σ H s:=I.pins_of λ p hp=>I.pin p (ql _ (List.mem_append_left _ hp))
theorem G_4 {iter:Expr}{body:List Stmt}{wi:TI}{g:TG}{tb:TS}{pos:Pos} (hp:PassesOwn (model X.prog X.w) X.A X.env X.xe) (hc:X.calm=true) (hi:PI X tg iter wi) (hg:PG X tg g) (hb:PSs X body tb)
  (hs:∀ x,foldedSetIterable iter X.env x=pure x:=by intro _;rfl):PS X (.For tg iter body [] pos) (bj0 wi g tb):=by
 intro pins s σ H D I h;refine wpAny_For (thn (hi pins s σ H _ I h) λ v s1 h1=>thn h1 λ itv s2 h2=>?_) hs
 obtain⟨it,fp,tn,J,H2,e,I2,T,st2,f2,W,⟨m0,w0⟩,turn⟩:=h2;subst e;have stat:∀ {H':Hp},(∀ b∈fp,H' b=none)->∀ b∈fp,FpOk X pins H' b:=λ hn b hb=>⟨hn b hb,(f2 b hb).2⟩
 refine codeAny_forLoop_any (λ n s'=>∃ i σ' H',Inv X pins σ' H' s'/\tn i s'.heap/\(∀ b∈fp,H' b=none)/\W i n σ' H') ?_ m0 ⟨0,σ,H2,I2,st2,λ b hb=>(f2 b hb).1,w0⟩
 rintro n s3 ⟨i,σ3,H3,I3,st3,fr3,w3⟩
 rcases turn i n σ3 H3 w3 with ⟨stop,qn⟩ | ⟨go,N,hN,step⟩
 ·refine wpAny_passesOwn hp (thn (T.done X rfl rfl rfl hc i pins s3 σ3 H3 X.xe I3 (stat fr3) st3 stop) λ r s4 hh0_=>?_)
  obtain⟨hr,I4⟩:=hh0_;subst hr;exact wpAny_execs_nil ⟨σ3,H3,I4,qn⟩
 ·refine wpAny_passesOwn hp (thn (T.item X rfl rfl rfl hc i pins s3 σ3 H3 X.xe I3 (stat fr3) st3 go) λ r s4 hh0_=>?_)
  obtain⟨u,hr,h4⟩:=hh0_;subst hr;refine wpAny_passesOwn hp (thn h4 λ _ s5 hh0_=>?_)
  obtain⟨x,H5,I5,r5,y5,st5,fr5⟩:=hh0_;have I5':=I5.pinned (stat fr5) (T.obj _ _ st5);refine wpAny_passesOwn hp (thn (hg _ s5 σ3 H5 x u _ I5' r5 (step x H5 y5)) λ _ s6 hh0_=>?_)
  obtain⟨σ6,H6,I6,q6⟩:=hh0_;refine wpAny_passesOwn hp (thn (hb _ s6 σ6 H6 _ I6 q6) λ f s7 q7=>?_)
  have again:∀ {σ7:St}{H7:Hp},Inv X (pins++x_3 fp s5.heap) σ7 H7 s7->N σ7 H7->∃ m,m<n/\∃ i σ' H',Inv X pins σ' H' s7/\tn i s7.heap/\(∀ b∈fp,H' b=none)/\W i m σ' H':=λ {σ7 H7} I7 n7=>by
   obtain⟨m',hm,w7⟩:=hN σ7 H7 n7;refine⟨m',hm,i+1,σ7,H7,I7.unpinned,T.keep _ _ _ st5 λ b hb o e=>(I7.pin (b,o) (ql _ (ql _ (j_4 hb e)))).1,λ b hb=>?_,w7⟩
   obtain⟨o,e,d⟩:=T.obj _ _ st5 b hb;exact (I7.pin (b,o) (ql _ (ql _ (j_4 hb e)))).2.1
  cases f with
  |next=>obtain⟨σ7,H7,I7,n7⟩:=q7;exact again I7 n7
  |cont=>obtain⟨σ7,H7,I7,n7⟩:=q7;exact again I7 n7
  |brk=>obtain⟨σ7,H7,I7,q7⟩:=q7;exact⟨σ7,H7,I7.unpinned,q7⟩
  |ret v=>obtain⟨x7,σ7,H7,I7,r7,q7⟩:=q7;exact⟨x7,σ7,H7,I7.unpinned,r7,q7⟩
end
abbrev R2:=V->V->Hp->VK->Prop
def OpR (X:Cx) (f:Value->Value->Sem Value) (r:R2):Prop :=
 ∀ (pins:List (Addr×Obj)) (s:Shared) (σ:St) (H:Hp) (x y:V) (v u:Value) (Q:VK),Inv X pins σ H s->RelV x v->RelV y u->r x y H Q ->
  wpAny (model X.prog X.w) X.A (f v u) (EP X pins σ Q) X.xe s
def UnR (X:Cx) (f:Value->Sem Value) (r:V->Hp->VK->Prop):Prop :=
 ∀ (pins:List (Addr×Obj)) (s:Shared) (σ:St) (H:Hp) (x:V) (v:Value) (Q:VK),Inv X pins σ H s->RelV x v->r x H Q ->
  wpAny (model X.prog X.w) X.A (f v) (EP X pins σ Q) X.xe s
def CallR (X:Cx) (f:Value) (r:List V->Hp->VK->Prop):Prop :=
 ∀ (pins:List (Addr×Obj)) (s:Shared) (σ:St) (H:Hp) (xs:List V) (us:List Value) (Q:VK),Inv X pins σ H s->Vals xs us->r xs H Q ->
  wpAny (model X.prog X.w) X.A (call f us) (EP X pins σ Q) X.xe s
def bo2 (X:Cx) (r:V->Hp->(Bool->Hp->Prop)->Prop):Prop :=
 ∀ (pins:List (Addr×Obj)) (s:Shared) (σ:St) (H:Hp) (x:V) (v:Value) (Q:Bool->Hp->Prop),Inv X pins σ H s->RelV x v->r x H Q ->
  wpAny (model X.prog X.w) X.A (truthy v) (TP X pins σ Q) X.xe s
def tOp (r:R2) (ta tb:TE):TE:=λ σ H Q=>ta σ H λ x H1=>tb σ H1 λ y H2=>r x y H2 Q
def tUn (r:V->Hp->VK->Prop) (ta:TE):TE:=λ σ H Q=>ta σ H λ x H1=>r x H1 Q
def rI (C:Int->Int->Prop) (g:Int->Int->V):R2:=λ x y H Q=>∃ i j,x=.int i/\y=.int j/\C i j/\Q (g i j) H
def rI0 (g:Int->Int->V):R2:=λ x y H Q=>∃ i j,x=.int i/\y=.int j/\Q (g i j) H
def rU (g:Int->V):V->Hp->VK->Prop:=λ x H Q=>∃ i,x=.int i/\Q (g i) H
section
variable {X:Cx}{a b c:Expr}{ta tb tc:TE}{pos:Pos}
theorem aY7 (ha:PE X a ta) (hb:PE X b tb) {pins:List (Addr×Obj)}{s:Shared}{σ:St}{H:Hp}{R:V->V->Hp->Prop} (I:Inv X pins σ H s)
  (h:ta σ H λ x H1=>tb σ H1 λ y H2=>R x y H2) {Q:Value->Shared->Prop}{f:Value->Value->Sem Value}
  (hf:∀ v u s2 x y H2,Inv X pins σ H2 s2->RelV x v->RelV y u->R x y H2->wpAny (model X.prog X.w) X.A (f v u) Q X.xe s2) :
  wpAny (model X.prog X.w) X.A (eval a X.env) (λ v s₁=>wpAny (model X.prog X.w) X.A (eval b X.env) (λ u s₂=>wpAny (model X.prog X.w) X.A (f v u) Q X.xe s₂) X.xe s₁) X.xe s:=by
 refine thn (ha pins s σ H _ I h) λ v s1=>ex5 λ x H1 I1 r1 q1=>?_
 refine thn (hb pins s1 σ H1 _ I1 q1) λ u s2=>ex5 λ y H2 I2 r2 q2=>?_
 exact hf v u s2 x y H2 I2 r1 r2 q2
theorem an6 {op:Operator}{r:R2} (ho:OpR X (binaryOp op) r) (ha:PE X a ta) (hb:PE X b tb):PE X (.BinOp a op b pos) (tOp r ta tb):=by
 intro pins s σ H Q I h;exact wpAny_BinOp (aY7 ha hb I h λ v u s2 x y H2 I2 rx ry q=>ho pins s2 σ H2 x y v u Q I2 rx ry q)
theorem aS9 {op:UnaryOp}{r:V->Hp->VK->Prop} (ho:UnR X (unaryOp op) r) (ha:PE X a ta):PE X (.UnaryOp op a pos) (tUn r ta):=by
 intro pins s σ H Q I h;exact UnaryOp_ (thn (ha pins s σ H _ I h) λ v s1=>ex5 λ x H1 I1 r1 q1=>ho pins s1 σ H1 x v Q I1 r1 q1)
theorem opI {f:Value->Value->Sem Value}{C:Int->Int->Prop}{g:Int->Int->Int}
  (rule:∀ (i j:Int) (t u:Tok) (s:Shared) (Q:Value->Shared->Prop) (E:Value->Shared->Prop),C i j->Q (.int (g i j) s.toks) {s with toks:=s.toks+1}->wpAny (model X.prog X.w) X.A (f (.int i t) (.int j u)) Q E s) :
  OpR X f (rI C λ i j=>.int (g i j)):=by
 intro pins s σ H x y v u Q I rx ry h;obtain⟨i,j,rfl,rfl,hc,q⟩:=h;obtain⟨t,rfl⟩:=rx;obtain⟨t',rfl⟩:=ry;exact rule i j t t' s _ _ hc ⟨.int (g i j),H,I.tok _,⟨_,rfl⟩,q⟩
theorem bc5 {f:Value->Value->Sem Value}{g:Int->Int->Int}
  (rule:∀ (i j:Int) (t u:Tok) (s:Shared) (Q:Value->Shared->Prop) (E:Value->Shared->Prop),Q (.int (g i j) s.toks) {s with toks:=s.toks+1}->wpAny (model X.prog X.w) X.A (f (.int i t) (.int j u)) Q E s) :
  OpR X f (rI0 λ i j=>.int (g i j)):=by
 intro pins s σ H x y v u Q I rx ry h;obtain⟨i,j,rfl,rfl,q⟩:=h;obtain⟨t,rfl⟩:=rx;obtain⟨t',rfl⟩:=ry;exact rule i j t t' s _ _ ⟨.int (g i j),H,I.tok _,⟨_,rfl⟩,q⟩
theorem aM7 {f:Value->Value->Sem Value}{g:Int->Int->Bool}
  (rule:∀ (i j:Int) (t u:Tok) (s:Shared) (Q:Value->Shared->Prop) (E:Value->Shared->Prop),Q (.bool (g i j)) s->wpAny (model X.prog X.w) X.A (f (.int i t) (.int j u)) Q E s) :
  OpR X f (rI0 λ i j=>.bl (g i j)):=by
 intro pins s σ H x y v u Q I rx ry h;obtain⟨i,j,rfl,rfl,q⟩:=h;obtain⟨t,rfl⟩:=rx;obtain⟨t',rfl⟩:=ry;exact rule i j t t' s _ _ ⟨.bl (g i j),H,I,rfl,q⟩
def CMul (i j:Int):Prop:=(-(2 ^ 64)<i/\i<2 ^ 64)\/(-(2 ^ 64)<j/\j<2 ^ 64)
theorem CMul.ok {i j:Int} (h:CMul i j):IntMulOk i j:=by
 rcases h with ⟨h1,h2⟩ | ⟨h1,h2⟩
 ·exact .of_left (intBits_le_64 h1 h2)
 ·exact .of_right (intBits_le_64 h1 h2)
theorem op_add:OpR X (binaryOp .Add) (rI0 λ i j=>.int (i+j)):=bc5 λ _ _ _ _ _ _ _ q=>add_int q
theorem aD8:OpR X (binaryOp .Sub) (rI0 λ i j=>.int (i-j)):=bc5 λ _ _ _ _ _ _ _ q=>sub_int q
theorem ao4:OpR X (binaryOp .Mod) (rI (λ _ j=>j≠0) λ i j=>.int (i.fmod j)):=opI λ _ _ _ _ _ _ _ hc q=>mod_int' hc q
theorem unI {f:Value->Sem Value}{g:Int->Int}
  (rule:∀ (i:Int) (t:Tok) (s:Shared) (Q:Value->Shared->Prop) (E:Value->Shared->Prop),Q (.int (g i) s.toks) {s with toks:=s.toks+1}->wpAny (model X.prog X.w) X.A (f (.int i t)) Q E s) :
  UnR X f (rU λ i=>.int (g i)):=by
 intro pins s σ H x v Q I rx h;obtain⟨i,rfl,q⟩:=h;obtain⟨t,rfl⟩:=rx;exact rule i t s _ _ ⟨.int (g i),H,I.tok _,⟨_,rfl⟩,q⟩
theorem ay8:UnR X (unaryOp .USub) (rU λ i=>.int (-i)):=unI λ _ _ _ _ _ q=>neg_int q
end
section
variable {X:Cx}{a b c:Expr}{ta tb tc:TE}{pos:Pos}
theorem U_4 {pins:List (Addr×Obj)}{σ:St}{H:Hp}{s:Shared}{Q:VK}{k k':Bool} (I:Inv X pins σ H s) (q:Q (.bl k) H) (e:k=k'):EP X pins σ Q (.bool k') s:=by
 subst e;exact⟨.bl k,H,I,rfl,q⟩
theorem aT5:OpR X (compareOp .Lt) (rI0 λ i j=>.bl (decide (i<j))):=aM7 λ _ _ _ _ _ _ _ q=>lt_int q
theorem aT6:OpR X (compareOp .LtE) (rI0 λ i j=>.bl (decide (i<=j))):=aM7 λ _ _ _ _ _ _ _ q=>le_int q
theorem aT7:OpR X (compareOp .Gt) (rI0 λ i j=>.bl (decide (j<i))):=aM7 λ _ _ _ _ _ _ _ q=>gt_int q
theorem aT8:OpR X (compareOp .GtE) (rI0 λ i j=>.bl (decide (j<=i))):=aM7 λ _ _ _ _ _ _ _ q=>ge_int q
theorem R_5:OpR X (compareOp .In) (λ x y H Q=>∃ i j,x=.str i/\y=.str j/\Q (.bl (!(Builtin.Str.occurrences j i 0 j.length 1).isEmpty)) H):=by
 intro pins s σ H x y v u Q I rx ry h;obtain⟨i,j,rfl,rfl,q⟩:=h;obtain⟨t,rfl⟩:=rx;obtain⟨t',rfl⟩:=ry;exact in_str (U_4 I q rfl)
theorem aE1:OpR X (compareOp .Is) (λ x y H Q=>y=.non/\Q (.bl (decide (x=.non))) H):=by
 intro pins s σ H x y v u Q I rx ry h;obtain⟨rfl,q⟩:=h;cases ry;refine is_none_gen (U_4 I q ?_);cases x <;> first
  |(cases rx;rfl)
  |(obtain⟨t,rfl⟩:=rx;rfl)
theorem ao3:OpR X (compareOp .IsNot) (λ x y H Q=>y=.non/\Q (.bl (!decide (x=.non))) H):=by
 intro pins s σ H x y v u Q I rx ry h;obtain⟨rfl,q⟩:=h;cases ry;refine isnot_none_gen (U_4 I q ?_);cases x <;> first
  |(cases rx;rfl)
  |(obtain⟨t,rfl⟩:=rx;rfl)
theorem OpR.or {f:Value->Value->Sem Value}{r r':R2} (h:OpR X f r) (h':OpR X f r'):OpR X f (λ x y H Q=>r x y H Q\/r' x y H Q):=by
 intro pins s σ H x y v u Q I rx ry q
 rcases q with q | q
 ·exact h pins s σ H x y v u Q I rx ry q
 ·exact h' pins s σ H x y v u Q I rx ry q
theorem S_2 (b:Expr) {op:CmpOp} (h:op≠.In:=by decide) (h2:op≠.NotIn:=by decide):behindInMarks op b=false:=by
 have e1:(op==CmpOp.In)=false:=by cases op <;> first | rfl | exact absurd rfl h
 have e2:(op==CmpOp.NotIn)=false:=by cases op <;> first | rfl | exact absurd rfl h2
 cases b <;> simp[behindInMarks,e1,e2]
theorem an8 {op:CmpOp}{r:R2} (ho:OpR X (compareOp op) r) (ha:PE X a ta) (hb:PE X b tb) (hm:behindInMarks op b=false):PE X (.Compare a [op] [b] pos) (tOp r ta tb):=by
 intro pins s σ H Q I h;exact wpAny_Compare1 (aY7 ha hb I h λ v u s2 x y H2 I2 rx ry q=>ho pins s2 σ H2 x y v u Q I2 rx ry q) hm
def al2 (t:TE):TT:=λ σ H Q=>t σ H λ x H'=>∃ k,x=.bl k/\Q k H'
theorem an0 {op:CmpOp}{r:R2} (ho:OpR X (compareOp op) r) (ha:PE X a ta) (hb:PE X b tb) (hm:behindInMarks op b=false):PT X (.Compare a [op] [b] pos) (al2 (tOp r ta tb)):=by
 intro pins s σ H Q I h;refine wpAny_isTrue_Compare1 (thn (ha pins s σ H _ I h) λ v s1=>ex5 λ x H1 I1 r1 q1=>thn (hb pins s1 σ H1 _ I1 q1) λ u s2=>ex5 λ y H2 I2 r2 q2 =>
  thn (ho pins s2 σ H2 x y v u _ I2 r1 r2 q2) λ c s3 ⟨z,H3,I3,r3,k,e,q3⟩=>?_) hm
 subst e;cases r3;exact wpAny_truthy_bool ⟨H3,I3,q3⟩
def P_2 (r r':R2) (ta tb tc:TE):TE:=λ σ H Q=>ta σ H λ x H1=>tb σ H1 λ y H2=>r x y H2 λ z H3=>∃ k,z=.bl k /\
 (if k=true then tc σ H3 λ w' H4=>r' y w' H4 Q else Q (.bl false) H3)
theorem ab2 {op op':CmpOp}{r r':R2} (ho:OpR X (compareOp op) r) (ho':OpR X (compareOp op') r') (ha:PE X a ta) (hb:PE X b tb) (hc:PE X c tc)
  (hm:lastMarks [op,op'] [b,c]=false:=by with_unfolding_all rfl):PE X (.Compare a [op,op'] [b,c] pos) (P_2 r r' ta tb tc):=by
 intro pins s σ H Q I h;refine Compare_chain (thn (ha pins s σ H _ I h) λ v s1=>ex5 λ x H1 I1 r1 q1=>chain_link (thn (hb pins s1 σ H1 _ I1 q1) λ u s2=>ex5 λ y H2 I2 r2 q2 =>
  thn (ho pins s2 σ H2 x y v u _ I2 r1 r2 q2) λ d s3 ⟨z,H3,I3,r3,k,e,q3⟩=>?_)) hm
 subst e;cases r3;refine wpAny_truthy_bool ?_;cases k with
 |false=>exact ite_ff ⟨.bl false,H3,I3,rfl,q3⟩
 |true=>exact ite_tt (chain_last (thn (hc pins s3 σ H3 _ I3 q3) λ w' s4=>ex5 λ z' H4 I4 r4 q4=>ho' pins s4 σ H4 y z' u w' Q I4 r2 r4 q4))
theorem aa4 {op op':CmpOp}{r r':R2} (ho:OpR X (compareOp op) r) (ho':OpR X (compareOp op') r') (ha:PE X a ta) (hb:PE X b tb) (hc:PE X c tc)
  (hm:lastMarks [op,op'] [b,c]=false:=by with_unfolding_all rfl):PT X (.Compare a [op,op'] [b,c] pos) (al2 (P_2 r r' ta tb tc)):=by
 intro pins s σ H Q I h;refine isTrue_chain (thn (ha pins s σ H _ I h) λ v s1=>ex5 λ x H1 I1 r1 q1=>test_link (thn (hb pins s1 σ H1 _ I1 q1) λ u s2=>ex5 λ y H2 I2 r2 q2 =>
  thn (ho pins s2 σ H2 x y v u _ I2 r1 r2 q2) λ d s3 ⟨z,H3,I3,r3,k,e,q3⟩=>?_)) hm
 subst e;cases r3;refine wpAny_truthy_bool ?_;cases k with
 |false =>
  obtain⟨k',e',q'⟩:=q3;cases e';exact ite_ff ⟨H3,I3,q'⟩
 |true =>
  refine ite_tt (test_last (thn (hc pins s3 σ H3 _ I3 q3) λ w' s4=>ex5 λ z' H4 I4 r4 q4=>thn (ho' pins s4 σ H4 y z' u w' _ I4 r2 r4 q4) λ d' s5 hh0_=>?_))
  obtain⟨z2,H5,I5,r5,k2,e2,q5⟩:=hh0_;subst e2;cases r5;exact wpAny_truthy_bool ⟨H5,I5,q5⟩
def aZ1 (K:Frag) (x:V) (H:Hp) (k:Bool):Prop :=
 match x with
 |.non=>k=false
 |.bl b=>k=b
 |.int i=>k=(i != 0)
 |.str y=>y.length<=sizeLine/\k=((y.length:Int) != 0)
 |.byt y=>y.size<=sizeLine/\k=((y.size:Int) != 0)
 |.ref p=>(∃ xs,SqL K H p xs/\k=!xs.isEmpty)\/(∃ xs,SqT K H p xs/\k=!xs.isEmpty)\/∃ kvs,H p=some (.dK kvs)/\k=!kvs.isEmpty
 |_=>False
theorem M_2 {κ:Type}{kvs:List (κ×V)}{vs:List (κ×Value)} (r:KV kvs vs):(!vs.isEmpty)=!kvs.isEmpty:=by
 cases r <;> rfl
theorem s_6 {xs:List V}{its:List Value} (r:Vals xs its):(!its.toArray.isEmpty)=!xs.isEmpty:=by
 cases r <;> simp
theorem s_3:(sizeLine:Nat)<2 ^ 63:=by rw[sizeLine_eq];decide
theorem ag2:bo2 X (λ x H Q=>∃ k,aZ1 X.K x H k/\Q k H):=by
 intro pins s σ H x v Q I rx h;obtain⟨k,e,q⟩:=h;have hl:=s_3;have hs:sizeLine=16777216:=sizeLine_eq;cases x with
 |non =>
  cases rx;have e':k=false:=e;subst e';exact truthy_none ⟨H,I,q⟩
 |bl b =>
  cases rx;have e':k=b:=e;subst e';exact wpAny_truthy_bool ⟨H,I,q⟩
 |int i =>
  obtain⟨t,rfl⟩:=rx;have e':k=(i != 0):=e;subst e';exact PySem.P.truthy_int ⟨H,I,q⟩
 |str y =>
  obtain⟨t,rfl⟩:=rx;obtain⟨hy,e'⟩:y.length<=sizeLine/\k=((y.length:Int) != 0):=e;subst e';exact PySem.P.truthy_str (by omega) ⟨H,I.tok _,q⟩
 |byt y =>
  obtain⟨t,rfl⟩:=rx;obtain⟨hy,e'⟩:y.size<=sizeLine/\k=((y.size:Int) != 0):=e;subst e';exact PySem.W.truthy_bytes (by omega) ⟨H,I.tok _,q⟩
 |ref p =>
  cases rx;have e':(∃ xs,SqL X.K H p xs/\k=!xs.isEmpty)\/(∃ xs,SqT X.K H p xs/\k=!xs.isEmpty)\/∃ kvs,H p=some (.dK kvs)/\k=!kvs.isEmpty:=e
  rcases e' with ⟨xs,hx,e'⟩ | ⟨xs,hx,e'⟩ | ⟨kvs,hx,e'⟩
  ·subst e'
   obtain⟨its,r,pl,hz⟩:=I.list hx;have hlen:=r.length;exact wpAny_truthy_list pl.isList (by simp only[List.size_toArray];omega) ⟨H,I.tok _,by rw[s_6 r];exact q⟩
  ·subst e'
   obtain⟨its,r,pl,hz⟩:=I.tuple hx;have hlen:=r.length;exact truthy_tuple pl (by simp only[List.size_toArray];omega) ⟨H,I.tok _,by rw[s_6 r];exact q⟩
  ·subst e'
   obtain⟨hz,hS,vs,r,m⟩:kvs.length<=sizeLine/\(p==sysModules)=false/\∃ vs,KV kvs vs/\s.heap.DictOf (c_1 X.prog X.w) p vs:=I.hok p _ hx;have hlen:kvs.length=vs.length:=Paired.length r;exact wpAny_truthy_dict hS m (by omega) ⟨H,I.tok _,by rw[M_2 r];exact q⟩
 |_=>exact (show False from e).elim
theorem aa3 (ha:PE X a ta) (he:∀ whole,isTrue a X.env whole=(do let v <- whole;standAt a.pos;holding [v] (truthy v))) :
  PT X a (λ σ H Q=>ta σ H λ x H'=>∃ k,aZ1 X.K x H' k/\Q k H'):=by
 intro pins s σ H Q I h;exact isTrue_plain (thn (ha pins s σ H _ I h) λ v s1=>ex5 λ x H1 I1 r1 q1=>ag2 pins s1 σ H1 x v Q I1 r1 q1) (he _)
theorem op_add_str:OpR X (binaryOp .Add) (λ x y H Q=>∃ i j,x=.str i/\y=.str j/\i.length+j.length<=sizeLine/\Q (.str (i++j)) H):=by
 intro pins s σ H x y v u Q I rx ry h;obtain⟨i,j,rfl,rfl,hz,q⟩:=h;obtain⟨t,rfl⟩:=rx;obtain⟨t',rfl⟩:=ry;exact add_str (λ t' tk=>⟨.str (i++j),H,I.tok _,⟨_,rfl⟩,q⟩) hz
theorem h_9 {x:V}{us:List Value} (r:Vals [x] us):∃ u,us=[u]/\RelV x u:=by
 cases r with
 |cons r1 r2=>cases r2;exact⟨_,rfl,r1⟩
theorem ak8 {x y:V}{us:List Value} (r:Vals [x,y] us):∃ u w',us=[u,w']/\RelV x u/\RelV y w':=by
 cases r with
 |cons r1 r2 =>
  cases r2 with
  |cons r3 r4=>cases r4;exact⟨_,_,rfl,r1,r3⟩
theorem W_5:CallR X (.type "int") (λ xs H Q=>(∃ i,xs=[.int i] ∧ Q (.int i) H) ∨ ∃ k,xs=[.bl k] ∧ Q (.int (if k then 1 else 0)) H):=by
 intro pins s σ H xs us Q I r h
 rcases h with ⟨i,rfl,q⟩ | ⟨k,rfl,q⟩
 ·obtain⟨u,rfl,t,rfl⟩:=h_9 r
  exact call_int_int ⟨.int i,H,I,⟨_,rfl⟩,q⟩
 ·obtain⟨u,rfl,r1⟩:=h_9 r
  cases r1;exact call_int_bool ⟨.int (if k then 1 else 0),H,I.tok _,⟨_,rfl⟩,q⟩
end
structure ObjM (h:Heap) (x dx C:Addr) (mA:Str->Option Value):Prop where
 obj:h.get? x=some (PySem.W.instObj C dx)
 ns:h.Ns1 dx mA
 ne:dx≠x
theorem RelO.some_of {v:V}{o:Option Value} (r:RelO (some v) o):∃ u,o=some u/\RelV v u:=by
 cases o with
 |none=>exact (show False from r).elim
 |some u=>exact⟨u,rfl,r⟩
theorem RelO.none_of {o:Option Value} (r:RelO none o):o=none:=by
 cases o with
 |none=>rfl
 |some u=>exact (show False from r).elim
structure Cls (K:Frag) (C:Addr):Prop where
 pg:PySem.W.plainGet K C Str.empty=true
 hd:PySem.W.hasDictIn K C=true
 po:PySem.W.plainOver K C=true
 sa:PySem.W.findIn K (.ref C) "__setattr__"=some (some (.builtin "object.__setattr__"))
theorem Cls.get {K:Frag}{C:Addr} (c:Cls K C) (f:Str):PySem.W.plainGet K C f=true:=c.pg
structure Con (K:Frag) (C:Addr) (f:Str) (v:V) (u:Value):Prop where
 at_:PySem.W.findIn K (.ref C) f=some (some u)
 rel:RelV v u
 get:PySem.W.specialIn K u "__get__"=some none
 cp:PySem.W.copiedNames.contains f=false
structure Meth (K:Frag) (C:Addr) (m:Str) (f:Addr):Prop where
 at_:PySem.W.findIn K (.ref C) m=some (some (.ref f))
 fn:PySem.W.isFn K (.ref f)=true
 kp:keepIn K (.ref f)=true
section
variable {X:Cx}{pins:List (Addr×Obj)}{σ:St}{H:Hp}{s:Shared}{a C dx:Addr}{fs:List (Str×V)}{f:Str}{v:V}{A:Around}{E:Value->Shared->Prop}
theorem Inv.made (I:Inv X pins σ H s):Inv X pins σ (upd (upd H s.heap.objs.size (.own (s.heap.objs.size+1))) (s.heap.objs.size+1) (.ins C s.heap.objs.size []))
  {s with heap:=(s.heap.push PySem.W.emptyDict).push (PySem.W.instObj C s.heap.objs.size)}:=by
 have e1:(s.heap.push PySem.W.emptyDict).get? s.heap.objs.size=some PySem.W.emptyDict:=qj s.heap rfl
 have e2:((s.heap.push PySem.W.emptyDict).push (PySem.W.instObj C s.heap.objs.size)).get? (s.heap.objs.size+1)=some (PySem.W.instObj C s.heap.objs.size):=by
  have:=qj (s.heap.push PySem.W.emptyDict) (o:=PySem.W.instObj C s.heap.objs.size) rfl
  rwa [Heap.size_push] at this
 have e3:(s.heap.push PySem.W.emptyDict).Ns s.heap.objs.size (λ _=>none):=⟨PySem.W.emptyDict,#[],_,e1,rfl,(λ e he=>absurd he (by simp)),λ _=>rfl⟩
 have I1:=I.laid (a:=s.heap.objs.size) (o:=.own (s.heap.objs.size+1)) (h':=s.heap.push PySem.W.emptyDict) (t':=s.toks) (λ b u q=>qd _ q) (qi _) ⟨_,e1⟩
 refine I1.laid (a:=s.heap.objs.size+1) (o:=.ins C s.heap.objs.size []) (t':=s.toks) (λ b u q=>qd _ q) (Nat.le_of_eq (Heap.size_push _ _)) ?_
 have ne:s.heap.objs.size≠s.heap.objs.size+1:=qp (Nat.lt_succ_self _);refine⟨by rw[a_3 ne,a_2],Nat.zero_le _,ne,e2,λ _=>none,(Heap.Ns1.of_empty e3).at λ o q=>qd _ q,λ _=>True.intro,λ y hy=>absurd rfl hy⟩
theorem av4 {prog:Program}{w:World}{env:Env}{e:Expr}{f:Str}{pos:Pos}{s:Shared}{Q:Value->Shared->Prop} (hb:attributeBase e f env (eval e env)=eval e env)
  (h:wpAny (model prog w) A (eval e env) (λ o s₁=>wpAny (model prog w) A (getAttr o f true) Q E s₁) E s):wpAny (model prog w) A (eval (.Attribute e f pos) env) Q E s :=
 Attribute_any_ h (by rw[arm_eval_Attribute,hb])
end
section
variable {X:Cx}{pins:List (Addr×Obj)}{σ:St}{H:Hp}{s:Shared}{A:Around}{E:Value->Shared->Prop}{Q:Value->Shared->Prop}{c:Value}{b:Bool}
inductive TyOf (K:Frag) (H:Hp):V->Value->Prop where
 |non:TyOf K H .non (.type "NoneType")
 |bl (x:Bool):TyOf K H (.bl x) (.type "bool")
 |int (i:Int):TyOf K H (.int i) (.type "int")
 |str (x:Str):TyOf K H (.str x) (.type "str")
 |flt (x:UInt64):TyOf K H (.flt x) (.type "float")
 |lst {a:Addr}{xs:List V} (e:H a=some (.lst xs)):TyOf K H (.ref a) (.type "list")
 |frz {a:Addr}{o:Obj}{xs:List V} (e:H a=some (.frz o (.lst xs))):TyOf K H (.ref a) (.type "list")
 |tup {a:Addr}{xs:List V} (e:H a=some (.tup xs)):TyOf K H (.ref a) (.type "tuple")
 |dK {a:Addr}{kvs:List (Key×V)} (e:H a=some (.dK kvs)):TyOf K H (.ref a) (.type "dict")
 |dT {a:Addr}{kvs:List (List Key×V)} (e:H a=some (.dT kvs)):TyOf K H (.ref a) (.type "dict")
 |ins {a C dx:Addr}{fs:List (Str×V)} (e:H a=some (.ins C dx fs)) (cl:Cls K C) (ha:PySem.W.findIn K (.ref C) "__class__"=some (some (.builtin "object.__class__")))
   (hn:PySem.W.specialIn K (.builtin "object.__class__") "__get__"=some (some (.builtin "getset_descriptor.__get__"))) (htk:PySem.W.takesIn K (.builtin "object.__class__")=some true)
   (hm:PySem.W.mroIn K C (.type "object")=some true):TyOf K H (.ref a) (.ref C)
end
structure Room (k:Nat) (A:Around):Prop where
 hd:A.handled=none
 dp:A.depth+3*k+5<recursionLimit
 un:A.units+16*k+200<cLine
theorem Room.mono {j k:Nat}{A:Around} (r:Room k A) (h:j<=k):Room j A:=⟨r.hd,by have:=r.dp;omega,by have:=r.un;omega⟩
theorem Room.deeper {k:Nat}{A:Around} (r:Room (k+1) A) (env:Env):Room k (A.deeper env) :=
 ⟨r.hd,by have:=r.dp;show A.depth+1+3*k+5<_;omega,by have:=r.un;show A.units+3+16*k+200<_;omega⟩
theorem Room.in1 {k:Nat}{A:Around} (r:Room (k+1) A):Room k A.in1 :=
 ⟨r.hd,by have:=r.dp;show A.depth+3*k+5<_;omega,by have:=r.un;show A.units+1+16*k+200<_;omega⟩
theorem L_7 {A:Around}{C:Addr}{us:List Value}{kw:List (Str×Value)}:(A.under (.builtin "type.__call__" ⟨.ref C::us,kw⟩)).depth=A.depth+1:=by
 first | rfl | simp[Around.under,Code.weight,Code.isCreation,Code.isGuard,Code.isCaller,Code.frames,Code.isFrame,guardIds]
theorem L_6 {A:Around}{C:Addr}{us:List Value}{kw:List (Str×Value)}:(A.under (.builtin "type.__call__" ⟨.ref C::us,kw⟩)).units=A.units+1:=by
 first | rfl | simp[Around.under,Code.cUnits,Code.frames,Code.isFrame]
theorem Room.make {k:Nat}{A:Around} (r:Room (k+1) A) (C:Addr) (us:List Value) (kw:List (Str×Value)):Room k (A.under (.builtin "type.__call__" ⟨.ref C::us,kw⟩)) :=
 ⟨r.hd,by have:=r.dp;rw[L_7];omega,by have:=r.un;rw[L_6];omega⟩
theorem Room.depth {k:Nat}{A:Around} (r:Room k A):A.depth<recursionLimit:=by have:=r.dp;omega
theorem Room.units {k:Nat}{A:Around} (r:Room k A):A.units+64<cLine:=by have:=r.un;omega
def ba7:TA:=λ _ H Q=>Q [] H
def aQ1 (ta:TE) (tr:TA):TA:=λ σ H Q=>ta σ H λ x H1=>tr σ H1 λ xs H2=>Q (x::xs) H2
section
variable {X:Cx}{e:Expr}{es:List Expr}{te:TE}{t:TA}{pos:Pos}
theorem i_1:PA X [] ba7:=λ _ _ _ _ H Q I h=>Calls.spliced_nil ⟨[],H,I,.nil,h⟩
theorem e_2 (ha:PE X e te) (hr:PA X es t) (hs:starEach (e::es) X.env=(false,eval e X.env)::starEach es X.env:=by rfl):PA X (e::es) (aQ1 te t):=by
 intro pos pins s σ H Q I h;rw[hs];show wpAny _ _ (spliced ((false,eval e X.env)::backTo pos (starEach es X.env))) _ _ s;refine Calls.spliced_cons (thn (ha pins s σ H _ I h) λ u s1=>ex5 λ x H1 I1 r1 q1=>?_)
 exact thn (hr pos pins s1 σ H1 _ I1 q1) λ us s2=>ex5 λ xs H2 I2 r2 q2=>⟨x::xs,H2,I2,.cons r1 r2,q2⟩
def bi2 (t:TA):TE:=λ σ H Q=>t σ H λ xs H1=>xs.length<=sizeLine/\∀ p,H1 p=none->Q (.ref p) (upd H1 p (.tup xs))
def bi7 (t:TA):TE:=λ σ H Q=>t σ H λ xs H1=>xs.length<=sizeLine/\∀ p,H1 p=none->Q (.ref p) (upd H1 p (.lst xs))
theorem aD1 {x1} (h:PA X es t):PE X (.Tuple es x1 pos) (bi2 t):=by
 intro pins s σ H Q I hq;refine wpAny_Tuple_spliced (thn (h pos pins s σ H _ I hq) λ us s1 ⟨xs,H1,I1,r,z,q⟩=>⟨by rw[<- r.length];exact z,?_⟩)
 have hf:H1 s1.heap.objs.size=none:=I1.hok.fresh (qi _);refine⟨.ref s1.heap.objs.size,upd H1 s1.heap.objs.size (.tup xs),I1.laid (t':=s1.toks) (λ b u e=>qd _ e) (qi _) ?_,rfl,q _ hf⟩
 exact⟨z,us,r,⟨_,qj _ rfl,rfl,⟨_,rfl⟩,rfl⟩⟩
theorem ah5 (h:PA X es t):PE X (.List es pos) (bi7 t):=by
 intro pins s σ H Q I hq;refine wpAny_List_spliced (thn (h pos pins s σ H _ I hq) λ us s1 ⟨xs,H1,I1,r,z,q⟩=>⟨by rw[<- r.length];exact z,?_⟩)
 have hf:H1 s1.heap.objs.size=none:=I1.hok.fresh (qi _);refine⟨.ref s1.heap.objs.size,upd H1 s1.heap.objs.size (.lst xs),I1.laid (t':=s1.toks) (λ b u e=>qd _ e) (qi _) ?_,rfl,q _ hf⟩
 exact⟨z,us,0,r,qj _ rfl⟩
end
abbrev Sp:=List V->Hp->VK->XK->Prop
abbrev CXT:=List Env->Hp->Shared->XK->Value->Shared->Prop
structure Env0 (P:Program) (w:World) (K:Frag) (mg:Str->Option Value) (base:Heap) (A:Around) (outer:List Env) (s:Shared) (H:Hp):Prop where
 frames:A.frames=some outer
 mod:Mod K mg base
 bs:∀ b o,base.get? b=some o->s.heap.get? b=some o/\H b=none
 bsz:base.objs.size<=s.heap.objs.size
 funs:s.heap.FunFrames base outer
 frf:∀ b∈frs outer,H b=none
 hok:HOk P w H s.heap
 bare:AllBare s.gens
def CE (outer:List Env) (P:Program) (w:World) (H:Hp) (s:Shared) (Q:VK) (u:Value) (s':Shared):Prop :=
 ∃ v H',s'.os=s.os/\AllBare s'.gens/\Un (frs outer) [] H H' s.heap s'.heap/\HOk P w H' s'.heap/\RelV v u/\Q v H'
def CR (CX:CXT) (outer:List Env) (P:Program) (w:World) (H:Hp) (s:Shared) (Q:VK) (E:XK) (r:Result) (s':Shared):Prop :=
 match r with
 |.ok (.ret u)=>CE outer P w H s Q u s'
 |.ok _=>False
 |.error e=>CX outer H s E e s'
structure FnOk (P:Program) (w:World) (K:Frag) (mg:Str->Option Value) (base:Heap) (CX:CXT) (k:Nat) (f:Addr) (fd:FuncData) (ps:List Str) (sp:Sp):Prop where
 len:∀ vs H Q E,sp vs H Q E->vs.length=ps.length
 run:∀ (A:Around) (outer:List Env) (s:Shared) (H:Hp) (args:Args) (us:List Value) (vs:List V) (Q:VK) (E:XK),Room k A->Env0 P w K mg base A outer s H->BindsTo s fd args (ps.zip us)->Vals vs us->sp vs H Q E ->
  codeAny (model P w) A (.call (.ref f) args) (CR CX outer P w H s Q E) s
theorem FnOk.mono {P:Program}{w:World}{K:Frag}{mg:Str->Option Value}{base:Heap}{CX:CXT}{j k:Nat}{f:Addr}{fd:FuncData}{ps:List Str}{sp:Sp} (F:FnOk P w K mg base CX j f fd ps sp) (h:j<=k) :
  FnOk P w K mg base CX k f fd ps sp:=⟨F.len,λ A outer s H args us vs Q E hr=>F.run A outer s H args us vs Q E (hr.mono h)⟩
theorem FnOk.imp {P:Program}{w:World}{K:Frag}{mg:Str->Option Value}{base:Heap}{CX:CXT}{k:Nat}{f:Addr}{fd:FuncData}{ps:List Str}{sp sp':Sp} (F:FnOk P w K mg base CX k f fd ps sp)
  (h:∀ vs H Q E,sp' vs H Q E->sp vs H Q E):FnOk P w K mg base CX k f fd ps sp' :=
 ⟨λ vs H Q E q=>F.len vs H Q E (h _ _ _ _ q),λ A outer s H args us vs Q E hr he hb hv hs=>F.run A outer s H args us vs Q E hr he hb hv (h _ _ _ _ hs)⟩
theorem Env0.make {P:Program}{w:World}{K:Frag}{mg:Str->Option Value}{base:Heap}{A:Around}{outer:List Env}{s:Shared}{H:Hp} (e:Env0 P w K mg base A outer s H) (C:Addr) (us:List Value) (kw:List (Str×Value)) :
  Env0 P w K mg base (A.under (.builtin "type.__call__" ⟨.ref C::us,kw⟩)) outer s H:=⟨by first | exact e.frames | (simpa [Around.under,Code.envs,Code.isFrame,pushEnvs] using e.frames),e.mod,e.bs,e.bsz,e.funs,e.frf,e.hok,e.bare⟩
theorem Env0.in1 {P:Program}{w:World}{K:Frag}{mg:Str->Option Value}{base:Heap}{A:Around}{outer:List Env}{s:Shared}{H:Hp} (e:Env0 P w K mg base A outer s H) :
  Env0 P w K mg base A.in1 outer s H:=⟨e.frames,e.mod,e.bs,e.bsz,e.funs,e.frf,e.hok,e.bare⟩
section
variable {X:Cx}{pins:List (Addr×Obj)}{σ:St}{H:Hp}{s s':Shared}
theorem Inv.env0 (I:Inv X pins σ H s):Env0 X.prog X.w X.K X.mg X.base X.A X.stack s H :=
 ⟨I.ok.frames,I.ok.mod,I.bs,Nat.le_trans I.ok.bsz I.sz,I.stack,I.stkFree,I.hok,I.bare⟩
theorem Inv.after {Q:VK}{u:Value} (I:Inv X pins σ H s) (h:CE X.stack X.prog X.w H s Q u s'):EP X pins σ Q u s':=by
 obtain⟨v,H',os,bare,un,hok,r,q⟩:=h;obtain⟨hh,g,d,t,os'⟩:=s';obtain rfl:os'=s.os:=os;exact⟨v,H',I.call (h':=hh) (g':=g) (d':=d) (t':=t) (ch:=[]) un hok bare (λ b z=>absurd z (by simp)),r,q⟩
end
def az5 (sp:Sp) (dvs:List V) (E:XK) (t:TA):TE:=λ σ H Q=>t σ H λ vs H1=>sp (vs++dvs) H1 Q E
def Binds (K:Frag) (fd:FuncData) (ps:List Str) (ds:List Value):Prop :=
 ∀ (s:Shared) (us:List Value),K.In s.heap->(us++ds).length=ps.length->BindsTo s fd ⟨us,[]⟩ (ps.zip (us++ds))
theorem Binds.all {K:Frag}{fd:FuncData}{ps:List Str} (h:∀ us:List Value,us.length=ps.length->bindArgs fd ⟨us,[]⟩=pure (ps.zip us)):Binds K fd ps []:=λ s us _ hl=>by
 rw[List.append_nil] at hl ⊢;exact .of_eq (h us hl)
def A_5 (CX:CXT) (X:Cx) (E:XK):Prop:=∀ (pins:List (Addr×Obj)) (σ:St) (H:Hp) (s:Shared) (e:Value) (s':Shared),Inv X pins σ H s->CX X.stack H s E e s'->X.xe e s'
section
variable {X:Cx}{CX:CXT}{k:Nat}{f C:Addr}{fd:FuncData}{ps:List Str}{sp:Sp}{dvs:List V}{ds:List Value}{E:XK}{x m:Str}{p pos apos:Pos}{e o:Expr}{es:List Expr}{ta:TE}{t:TA}
theorem ag5 {pins:List (Addr×Obj)}{σ:St}{H:Hp}{s:Shared}{Q:VK}{us:List Value}{vs:List V} (F:FnOk X.prog X.w X.K X.mg X.base CX k f fd ps sp) (hr:Room k X.A) (hb:Binds X.K fd ps ds) (hd:Vals dvs ds) (hx:A_5 CX X E)
  (I:Inv X pins σ H s) (r:Vals vs us) (h:sp (vs++dvs) H Q E):wpAny (model X.prog X.w) X.A (call (.ref f) us) (EP X pins σ Q) X.xe s:=by
 have r2:Vals (vs++dvs) (us++ds):=r.append hd;have hl:(us++ds).length=ps.length:=by rw[<- r2.length];exact F.len _ _ _ _ h
 refine wpAny_call (codeAny_mono (F.run X.A X.stack s H ⟨us,[]⟩ (us++ds) (vs++dvs) Q E hr I.env0 (hb s us I.kIn hl) r2 h) λ r s' hq=>?_)
 cases r with
 |error e=>exact hx pins σ H s e s' I hq
 |ok fl =>
  cases fl with
  |ret u=>exact I.after hq
  |next=>exact False.elim hq
  |brk=>exact False.elim hq
  |cont=>exact False.elim hq
theorem R_2 (F:FnOk X.prog X.w X.K X.mg X.base CX k f fd ps sp) (hr:Room k X.A) (hg:Gl X x) (hm:X.mg x=some (.ref f)) (hk:keepIn X.K (.ref f)=true) (hb:Binds X.K fd ps ds) (hd:Vals dvs ds) (hx:A_5 CX X E)
  (ha:PA X (e::es) t) (hdb:(x==("__debug__":Str))=false:=by decide) (he:starEach (e::es) X.env=(false,eval e X.env)::starEach es X.env:=by rfl) (hpl:(backTo pos (starEach es X.env)).any (·.1)=false:=by rfl) :
  PE X (.Call (.Name x p) (e::es) [] pos) (az5 sp dvs E t):=by
 intro pins s σ H Q I h;refine wpAny_Call_Name_kw (h_4 I hg hm ?_ hdb);refine PySem.W.callWith_K (h₀:=X.base) I.ok.mod.kin hk (thn (ha pos pins s σ H _ I h) λ us s1=>ex5 λ vs H1 I1 r q=>⟨I1.kIn,?_⟩) he hpl
 exact ag5 F hr hb hd hx I1 r q
theorem ab3 (F:FnOk X.prog X.w X.K X.mg X.base CX k f fd ps sp) (hr:Room k X.A) (hg:Gl X x) (hm:X.mg x=some (.ref f)) (hk:keepIn X.K (.ref f)=true) (hb:Binds X.K fd ps ds) (hd:Vals dvs ds) (hx:A_5 CX X E)
  (hdb:(x==("__debug__":Str))=false:=by decide):PE X (.Call (.Name x p) [] [] pos) (az5 sp dvs E ba7):=by
 intro pins s σ H Q I h;refine wpAny_Call_Name_kw (h_4 I hg hm ?_ hdb);exact PySem.W.callWith_K0 I.kIn hk (ag5 (us:=[]) F hr hb hd hx I .nil h)
structure Mk (K:Frag) (C f:Addr):Prop where
 makes:PySem.W.makesIn K C=true
 init:PySem.W.findIn K (.ref C) "__init__"=some (some (.ref f))
 fn:PySem.W.isFn K (.ref f)=true
 kp:keepIn K (.ref C)=true
end
section
variable {X:Cx}{CX:CXT}{k:Nat}{f C:Addr}{fd:FuncData}{ps ks:List Str}{sp:Sp}{E:XK}{x m:Str}{p pos apos kpos:Pos}{e o:Expr}{es:List Expr}{kws:List Keyword}{te ta:TE}{t tk:TA}{nm:Option Str}
structure KBinds (K:Frag) (fd:FuncData) (ps ks:List Str) (g:List Value->List Value->List Value) (gV:List V->List V->List V):Prop where
 to:∀ (s:Shared) (us ws:List Value),K.In s.heap->(g us ws).length=ps.length->BindsTo s fd ⟨us,ks.zip ws⟩ (ps.zip (g us ws))
 rel:∀ {vs:List V}{us:List Value}{zs:List V}{ws:List Value},Vals vs us->Vals zs ws->Vals (gV vs zs) (g us ws)
variable {g:List Value->List Value->List Value}{gV:List V->List V->List V}
end
structure FnScope (N P:List Str) (sc:Scope):Prop where
 kind:sc.kind=.function
 co:sc.isCoroutine=false
 gen:sc.isGenerator=false
 nd:N.Nodup
 pre:N.take P.length=P
 par:∀ x∈P,sc.names.lookup x=some .local\/sc.names.lookup x=some .cell
 nofree:∀ y∈sc.names,y.2≠.free
theorem z_8 {kindOf:Str->Option NameKind}{x:Str}:∀ {binds:List (Str×Value)}{m:Str->Option Value},(∀ v,(x,v)∉binds)->bindL kindOf binds m x=m x
 |[],_,_=>rfl
 |(n,v)::r,m,h=>by
  unfold bindL;rw[z_8 λ w hw=>h w (List.mem_cons_of_mem _ hw)]
  split
  ·have:x≠n:=by rintro rfl;exact h v qf
   simp[this]
  ·rfl
theorem A_0 {kindOf:Str->Option NameKind}{x:Str}:∀ {binds:List (Str×Value)}{m:Str->Option Value},(∀ v,(x,v)∉binds)->bindC kindOf binds m x=m x
 |[],_,_=>rfl
 |(n,v)::r,m,h=>by
  unfold bindC;rw[A_0 λ w hw=>h w (List.mem_cons_of_mem _ hw)]
  split
  ·rfl
  ·have:x≠n:=by rintro rfl;exact h v qf
   simp[this]
theorem z_9 {kindOf:Str->Option NameKind}{x:Str}{v:Value}:∀ {P:List Str}{vs:List Value}{i:Nat}{m:Str->Option Value},P.Nodup->P[i]?=some x->vs[i]?=some v->kindOf x=some .local ->
  bindL kindOf (P.zip vs) m x=some v
 |[],_,_,_,_,h,_,_=>by simp at h
 |_::_,[],_,_,_,_,h,_=>by simp at h
 |p::P,w::vs,0,m,nd,h1,h2,hk=>by
  simp at h1 h2;subst h1;subst h2;show bindL kindOf ((p,w)::P.zip vs) m p=_;unfold bindL;rw[z_8 λ v hv=>(List.nodup_cons.mp nd).1 (List.of_mem_zip hv).1,if_pos hk]
  simp
 |p::P,w::vs,i+1,m,nd,h1,h2,hk=>by
  show bindL kindOf ((p,w)::P.zip vs) m x=_;unfold bindL;exact z_9 (i:=i) (List.nodup_cons.mp nd).2 (by simpa using h1) (by simpa using h2) hk
theorem A_1 {kindOf:Str->Option NameKind}{x:Str}{v:Value}:∀ {P:List Str}{vs:List Value}{i:Nat}{m:Str->Option Value},P.Nodup->P[i]?=some x->vs[i]?=some v->kindOf x≠some .local ->
  bindC kindOf (P.zip vs) m x=some v
 |[],_,_,_,_,h,_,_=>by simp at h
 |_::_,[],_,_,_,_,h,_=>by simp at h
 |p::P,w::vs,0,m,nd,h1,h2,hk=>by
  simp at h1 h2;subst h1;subst h2;show bindC kindOf ((p,w)::P.zip vs) m p=_;unfold bindC;rw[A_0 λ v hv=>(List.nodup_cons.mp nd).1 (List.of_mem_zip hv).1,if_neg hk]
  simp
 |p::P,w::vs,i+1,m,nd,h1,h2,hk=>by
  show bindC kindOf ((p,w)::P.zip vs) m x=_;unfold bindC;exact A_1 (i:=i) (List.nodup_cons.mp nd).2 (by simpa using h1) (by simpa using h2) hk
def start (N:List Str) (vs:List V):St:=vs.map some++List.replicate (N.length-vs.length) none
def w_0 (CX:CXT) (P:Program) (w:World) (K:Frag) (mg:Str->Option Value) (base:Heap) (N:List Str) (qual:Str) (scope:Scope) (f:Addr) (cd:Value) (A:Around) (outer:List Env) (s:Shared) (H:Hp) (E:XK):Cx where
 prog:=P
 w:=w
 K:=K
 mg:=mg
 base:=base
 A:=A.deeper (envOfC qual scope s.heap.objs.size f cd)
 N:=N
 s₀:=s
 H₀:=H
 env:=envOfC qual scope s.heap.objs.size f cd
 outer:=outer
 stack:=envOfC qual scope s.heap.objs.size f cd::outer
 ex:=[]
 calm:=true
 fn:=λ _=>true
 pn:=[]
 xe:=λ e s'=>wpAny (model P w) (A.deeper (envOfC qual scope s.heap.objs.size f cd)) (leaving (envOfC qual scope s.heap.objs.size f cd) e) (λ _ s''=>CX outer H s E e s'') (λ e' s''=>CX outer H s E e' s'') s'
theorem J_5 {sc:Scope}{n:Nat}{x:Str} (h:sc.names.lookup x=some .cell):∃ c,(cellsFrom n sc.names []).lookup x=some c:=by
 have q:=PySem.W.cellsFrom_some sc.names n [] (.inl h);exact Option.isSome_iff_exists.mp q
theorem T_6 {CX:CXT}{P:Program}{w:World}{K:Frag}{mg:Str->Option Value}{base:Heap}{N ps:List Str}{qual:Str}{scope:Scope}{f:Addr}{cd:Value}{A:Around}{outer:List Env}{s s1:Shared}{H:Hp}{E:XK}{us:List Value}{vs:List V}
  (S:FnScope N ps scope) (hd:A.handled=none) (e0:Env0 P w K mg base A outer s H) (hl:vs.length=ps.length) (r:Vals vs us)
  (x:InCallC s s.heap.objs.size (bindL (envOfC qual scope s.heap.objs.size f cd).kindOf (ps.zip us) λ _=>none) (cellsFrom (s.heap.objs.size+1) scope.names []) (bindC (envOfC qual scope s.heap.objs.size f cd).kindOf (ps.zip us) λ _=>none) s1) :
  Inv (w_0 CX P w K mg base N qual scope f cd A outer s H E) [] (start N vs) H s1:=by
 have hpl:ps.length<=N.length:=by have:=congrArg List.length S.pre;rw[List.length_take] at this;omega
 obtain⟨h1,tk,rfl,hk⟩:=x.done;have noA:∀ b:Addr,b∉(w_0 CX P w K mg base N qual scope f cd A outer s H E).ex:=λ b z=>absurd (show b∈([]:List Addr) from z) (by simp)
 refine⟨⟨e0.mod,S.kind,rfl,rfl,qi _,λ y z c h1 h2=>?_,λ y hy=>?_,λ y c _ h=>?_,λ _=>hd,Around.frames_deeper e0.frames,.inr ⟨rfl,rfl⟩,λ b z=>absurd z (noA b),e0.bs,e0.bsz,λ b _ _=>noA b,λ b z=>absurd z (noA b),e0.funs,e0.frf⟩,
  rfl,e0.bare,Un.kept hk,⟨_,x.toInCall.ns,λ i y v h1 h2 h3=>?_⟩,λ y c h=>⟨_,x.cell y c h⟩,e0.hok.fresh (qi _),λ y c h=>?_,λ p hp=>absurd (show p∈([]:List (Addr×Obj)) from hp) (by simp),e0.hok.kept hk,?_⟩
 ·exact name_of_addr x.apart (PySem.mem_of_lookup h1) (PySem.mem_of_lookup h2)
 ·have hy:scope.names.lookup y=some .cell\/scope.names.lookup y=some .free:=hy
  rcases hy with hy | hy
  ·exact J_5 hy
  ·exact absurd rfl (S.nofree _ (PySem.mem_of_lookup hy))
 ·exact Nat.le_of_lt (x.above y c (PySem.mem_of_lookup h))
 ·have hi:i<vs.length:=by
   unfold start at h2
   by_cases hi:i<vs.length
   ·exact hi
   ·rw[List.getElem?_append_right (by simpa using hi)] at h2
    rw[List.getElem?_replicate] at h2
    split at h2 <;> cases h2
  have ha:vs[i]?=some v:=by
   unfold start at h2;rw[List.getElem?_append_left (by simpa using hi),List.getElem?_map] at h2
   cases e:vs[i]? with
   |none=>rw[e] at h2;cases h2
   |some a=>rw[e] at h2;cases h2;rfl
  obtain⟨u,hu,rv⟩:=r.get ha
  have hp:ps[i]?=some y:=by
   rw[<- S.pre,List.getElem?_take_of_lt (by omega)];exact h1
  have ndP:ps.Nodup:=by rw[<- S.pre];exact S.nd.sublist (List.take_sublist _ _)
  refine⟨u,rv,?_⟩
  rcases S.par y (List.mem_of_getElem? hp) with k | k
  ·exact .inl ⟨k,z_9 ndP hp hu k⟩
  ·obtain⟨c,e⟩:=J_5 (n:=s.heap.objs.size+1) k
   refine .inr ⟨.inl k,c,e,?_⟩;have q:=x.cell y c e;rw[A_1 ndP hp hu (by show scope.names.lookup y≠_;rw[k];decide)] at q
   exact q
 ·exact e0.hok.fresh (Nat.le_of_lt (x.above y c (PySem.mem_of_lookup h)))
 ·unfold start
  show _=N.length;rw[List.length_append,List.length_map,List.length_replicate];omega
theorem ar1 {CX:CXT}{P:Program}{w:World}{K:Frag}{mg:Str->Option Value}{base:Heap}{k:Nat}{f:Addr}{name qual:Str}{params:Arguments}{body:List Stmt}{scope:Scope}{dV kV doc pm cdv ct oc:Value}{an od:Option Addr}
  {osl:Array (Option Value)}{N ps:List Str}{sp:Sp} (lk:K.lookup f=some ⟨oc,od,.func (fnOf name qual params body scope dV kV doc pm an cdv ct),osl⟩) (hcd:codeIn K cdv qual=true) (S:FnScope N ps scope)
  (len:∀ vs H Q E,sp vs H Q E->vs.length=ps.length)
  (hbody:∀ (A:Around) (outer:List Env) (s:Shared) (H:Hp) (vs:List V) (Q:VK) (E:XK),Room k (A.deeper (envOfC qual scope s.heap.objs.size f cdv))->sp vs H Q E ->
   ∃ t,PSs (w_0 CX P w K mg base N qual scope f cdv A outer s H E) body t/\t {nx:=λ _ H'=>Q .non H',rt:=Q} (start N vs) H) :
  FnOk P w K mg base CX (k+1) f (fnOf name qual params body scope dV kV doc pm an cdv ct) ps sp:=by
 refine⟨len,λ A outer s H args us vs Q E hr e0 hb r hsp=>?_⟩
 have hl:=len _ _ _ _ hsp;have KX:K.In s.heap:=e0.mod.kin.keeps λ b o e=>(e0.bs b o e).1
 have lim:s.heap.NoLimit:=e0.mod.nolimit.keeps λ b o e=>(e0.bs b o e).1
 have hkind:∀ y∈ps.zip us,scope.names.lookup y.1=some .local\/(scope.names.lookup y.1=some .cell/\((cellsFrom (s.heap.objs.size+1) scope.names []).lookup y.1).isSome=true):=λ hh0_ hy=>by
  obtain⟨n,v⟩:=hh0_
  rcases S.par n (List.of_mem_zip hy).1 with q | q
  ·exact .inl q
  ·exact .inr ⟨q,PySem.W.cellsFrom_some _ _ _ (.inl q)⟩
 refine codeAny_call_function hr.depth (KX _ _ lk) rfl S.co S.gen rfl (PySem.W.codeRec_of KX hcd) (hb _ _ _ _ ?_);refine wpAny_newFunctionEnv_cells S.kind hkind λ env he s1 x=>?_
 subst he;refine⟨lim.keeps x.toInCall.keep,codeAny_func ?_⟩;obtain⟨t,ht,hq⟩:=hbody A outer s H vs Q E (hr.deeper _) hsp;have I:Inv (w_0 CX P w K mg base N qual scope f cdv A outer s H E) [] (start N vs) H s1:=T_6 S hr.hd e0 hl r x;refine wpAny_mono (ht [] s1 (start N vs) H _ I hq) (λ fl s' hs=>?_) λ e s' hs=>hs
 have fin:∀ {σ':St}{H':Hp}{v:V}{u:Value},Inv (w_0 CX P w K mg base N qual scope f cdv A outer s H E) [] σ' H' s'->RelV v u->Q v H'->CE outer P w H s Q u s' :=
  λ {σ' H' v u} J rv q=>⟨v,H',J.os,J.bare,J.base,J.hok,rv,q⟩
 cases fl with
 |ret u =>
  obtain⟨v,σ',H',J,rv,q⟩:=hs;exact fin J rv q
 |next =>
  obtain⟨σ',H',J,q⟩:=hs;exact fin (v:=V.non) (u:=Value.none) J rfl q
 |brk =>
  obtain⟨_,_,_,q⟩:=hs;exact False.elim q
 |cont =>
  obtain⟨_,_,_,q⟩:=hs;exact False.elim q
section
variable {X:Cx}{x:Str}{p pos:Pos}{e:Expr}{es:List Expr}{t:TA}{id T:String}{r:List V->Hp->VK->Prop}
def tCB (r:List V->Hp->VK->Prop) (t:TA):TE:=λ σ H Q=>t σ H λ vs H1=>r vs H1 Q
theorem k_9 (hc:CallR X (.builtin id) r) (hg:Gl X x) (hm:X.mg x=none) (hv:bootBuiltins x=some (.builtin id)) (ha:PA X (e::es) t) (hn:x≠"__name__":=by decide) (hdb:(x==("__debug__":Str))=false:=by decide)
  (he:starEach (e::es) X.env=(false,eval e X.env)::starEach es X.env:=by rfl) (hpl:(backTo pos (starEach es X.env)).any (·.1)=false:=by rfl):PE X (.Call (.Name x p) (e::es) [] pos) (tCB r t):=by
 intro pins s σ H Q I h;refine wpAny_Call_Name_kw (l_0 I hg hm hv ?_ hn hdb);exact PyProof.Rows.callWith_builtin1 (thn (ha pos pins s σ H _ I h) λ us s1=>ex5 λ vs H1 I1 r1 q1=>hc pins s1 σ H1 vs us Q I1 r1 q1) he hpl
theorem x_5 (hc:CallR X (.type T) r) (hg:Gl X x) (hm:X.mg x=none) (hv:bootBuiltins x=some (.type T)) (ha:PA X (e::es) t) (hn:x≠"__name__":=by decide) (hdb:(x==("__debug__":Str))=false:=by decide)
  (he:starEach (e::es) X.env=(false,eval e X.env)::starEach es X.env:=by rfl) (hpl:(backTo pos (starEach es X.env)).any (·.1)=false:=by rfl):PE X (.Call (.Name x p) (e::es) [] pos) (tCB r t):=by
 intro pins s σ H Q I h;refine wpAny_Call_Name_kw (l_0 I hg hm hv ?_ hn hdb);exact PyProof.Rows.callWith_type1 (thn (ha pos pins s σ H _ I h) λ us s1=>ex5 λ vs H1 I1 r1 q1=>hc pins s1 σ H1 vs us Q I1 r1 q1) he hpl
end
end L2
namespace HT
open PySem PyProof.Rows
section
variable {prog:Program}{w:World}{A:Around}{E:Value->Shared->Prop}{s:Shared}
def sIx (n d:Nat):Option Int->Nat
 |none=>d
 |some v=>if v<0 then (v+(n:Int)).toNat else min v.toNat n
theorem sIx_nat (n d k:Nat):sIx n d (some (k:Int))=min k n:=by
 show (if (k:Int)<0 then ((k:Int)+(n:Int)).toNat else min (k:Int).toNat n)=min k n;rw[if_neg (by omega),Int.toNat_natCast]
theorem sIx_le (n d:Nat) (hd:d<=n) (o:Option Int):sIx n d o<=n:=by
 cases o with
 |none=>exact hd
 |some v =>
  show (if v<0 then (v+(n:Int)).toNat else min v.toNat n)<=n
  by_cases hv:v<0
  ·rw[if_pos hv];omega
  ·rw[if_neg hv];exact Nat.min_le_right _ _
theorem clip_eq (v:Int) (n d:Nat):(if v<0 then max (v+(n:Int)) 0 else min v (n:Int))=((sIx n d (some v):Nat):Int):=by
 show (if v<0 then max (v+(n:Int)) 0 else min v (n:Int))=(((if v<0 then (v+(n:Int)).toNat else min v.toNat n):Nat):Int)
 by_cases hv:v<0
 ·simp only[if_pos hv];omega
 ·simp only[if_neg hv];omega
theorem N_6 (lo hi:Option Int) (n:Nat):Builtin.Slice.sliceAdjust lo hi 1 (n:Int)=(((sIx n 0 lo:Nat):Int),((sIx n n hi:Nat):Int)):=by
 have h1:¬ ((1:Int)<0):=by omega
 unfold Builtin.Slice.sliceAdjust;simp only[h1,if_false];refine Prod.ext ?_ ?_
 ·cases lo with
  |none=>rfl
  |some v=>exact clip_eq v n 0
 ·cases hi with
  |none=>rfl
  |some v=>exact clip_eq v n n
theorem L_1 (i j:Nat):Builtin.Slice.slicePlaces (i:Int) (j:Int) 1=j-i:=by
 unfold Builtin.Slice.slicePlaces;have h1:(1:Int) > 0:=by omega
 simp only[h1,if_true,Int.ediv_one]
 split <;> omega
theorem slicePart_ {v:Value}{o:Option Int}{Q:Option Int->Shared->Prop} (p:IsPart v o) (h:Q o s):wpAny (model prog w) A (Builtin.Slice.slicePartIndex v) Q E s:=by
 cases p with
 |none=>exact slicePart_none h
 |int i t=>exact slicePart_int h
theorem n_3 {sl:Addr}{vl vu:Value}{lo hi:Option Int}{n:Nat}{Q:Int×Int×Nat->Shared->Prop} (hs:s.heap.IsSliceOf sl vl vu .none) (pl:IsPart vl lo) (pu:IsPart vu hi)
  (h:Q (((sIx n 0 lo:Nat):Int),1,sIx n n hi-sIx n 0 lo) s):wpAny (model prog w) A (Builtin.Slice.sliceApplied (.ref sl) (pure (n:Int))) Q E s:=by
 obtain⟨os,hos,hcs,hds⟩:=id hs;unfold Builtin.Slice.sliceApplied Builtin.Slice.sliceFields;refine qb (qb (wpAny_field hos hds (x:=vl) rfl (qb (wpAny_field hos hds (x:=vu) rfl (qb (wpAny_field hos hds (x:=.none) rfl (qc ?_)))))));refine qb (slicePart_none ?_);show wpAny _ _ (if ((1:Int)==0)=true then _ else _) _ _ s;rw[if_neg (by decide)]
 refine qb (slicePart_ pl (qb (slicePart_ pu (qb (qc ?_)))));show wpAny _ _ (match Builtin.Slice.sliceAdjust lo hi 1 (n:Int) with | (lo,hi)=>pure (lo,(1:Int),Builtin.Slice.slicePlaces lo hi 1)) _ _ s
 rw[N_6 lo hi n];show wpAny _ _ (pure (((sIx n 0 lo:Nat):Int),(1:Int),Builtin.Slice.slicePlaces ((sIx n 0 lo:Nat):Int) ((sIx n n hi:Nat):Int) 1)) _ _ s;rw[L_1];exact qc h
theorem aa7 (xs:Array Value) (i k:Nat):((List.range k).filterMap λ (m:Nat)=>xs[((i:Int)+(m:Int)*1).toNat]?).toArray=((xs.toList.drop i).take k).toArray:=by
 have e:(λ (m:Nat)=>xs[((i:Int)+(m:Int)*1).toNat]?)=λ m=>xs[i+m]?:=by
  funext m
  have:((i:Int)+(m:Int)*1).toNat=i+m:=by omega
  rw[this]
 rw[e];have:=pick_run xs i k;rw[List.filterMap_map] at this;have e2:((λ x=>xs[x]?) ∘ λ x=>i+x)=λ m=>xs[i+m]?:=rfl
 rw[e2] at this;rw[this]
theorem getItem_tuple_cut {t sl:Addr}{items:Array Value}{vl vu:Value}{lo hi:Option Int}{Q:Value->Shared->Prop} (ht:IsTup s.heap t items) (hs:s.heap.IsSliceOf sl vl vu .none) (pl:IsPart vl lo) (pu:IsPart vu hi)
  (hw:¬ (sIx items.size 0 lo=0/\sIx items.size items.size hi=items.size))
  (h:Q (.ref s.heap.objs.size) {s with heap:=s.heap.push {cls:=.type "tuple",data:=.seq ((items.toList.drop (sIx items.size 0 lo)).take (sIx items.size items.size hi-sIx items.size 0 lo)).toArray}})
  (hsz:items.size<=sizeLine):wpAny (model prog w) A (getItem (.ref t) (.ref sl)) Q E s:=by
 have htake:sizeOk (.seq ((items.toList.drop (sIx items.size 0 lo)).take (sIx items.size items.size hi-sIx items.size 0 lo)).toArray):=by
  show ((items.toList.drop (sIx items.size 0 lo)).take (sIx items.size items.size hi-sIx items.size 0 lo)).toArray.size<=sizeLine;rw[List.size_toArray,List.length_take,List.length_drop,Array.length_toList];omega
 have hj:sIx items.size items.size hi<=items.size:=sIx_le _ _ (qi _) hi;obtain⟨os,hos,hcs,hds⟩:=id hs;have hTs:s.TypeIs (.ref sl) "slice":=⟨os,hos,hcs⟩;unfold getItem
 try with_reducible refine wpAny_holding ?_
 first | refine qb (qc ?_) | skip
 refine qb (wpAny_sequenceKey ht.typeIs (by decide) ?_)
 refine qb (wpAny_callSpecial?_slot (name:=Str.ofString "__getitem__") ht.typeIs PyProof.Rows.slot_tuple_getitem
  (wpAny_call_entry PyProof.Rows.slot_tuple_getitem ht.typeIs entry_tuple_getitem ?_ (args_tuple_getitem _ _)))
 show wpAny _ _ (Builtin.Tuple.tupleItemsOf (.ref t) >>= _) _ _ s;refine qb (tupleItemsOf_ ht ?_);refine qb (wpAny_typeOf hTs ?_);rw[if_pos (by decide)]
 refine qb (n_3 hs pl pu ?_)
 have hno:¬ ((((sIx items.size 0 lo:Nat):Int)==0&&(1:Int)==1&&(sIx items.size items.size hi-sIx items.size 0 lo)==items.size)=true):=by
  intro q;rw[Bool.and_eq_true,Bool.and_eq_true] at q;have q1:((sIx items.size 0 lo:Nat):Int)=0:=eq_of_beq q.1.1;have q2:sIx items.size items.size hi-sIx items.size 0 lo=items.size:=eq_of_beq q.2;exact hw ⟨by omega,by omega⟩
 show wpAny _ _ (if (((sIx items.size 0 lo:Nat):Int)==0&&(1:Int)==1&&(sIx items.size items.size hi-sIx items.size 0 lo)==items.size)=true then _ else _) _ _ s;rw[if_neg hno,aa7]
 first
  |exact qb (m:=Builtin.Tuple.tupleExact _) (wpAny_newObj_type (qc ⟨_,rfl,qc h⟩) htake)
  |exact qb (m:=Builtin.Tuple.tupleExact _) (wpAny_newObj_type (qb (qc (qc ⟨_,rfl,qc h⟩))) htake)
  |exact qb (qb (m:=Builtin.Tuple.tupleExact _) (wpAny_newObj_type (qc (qc ⟨_,rfl,qc h⟩)) htake))
  |exact qb (qb (m:=Builtin.Tuple.tupleExact _) (wpAny_newObj_type (qc ⟨_,rfl,qc h⟩) htake))
end
end HT
namespace L2
open PySem PySem.Spec PyProof.Rows
abbrev TO:=St->Hp->(Option Int->Hp->Prop)->Prop
def PO (X:Cx) (e:Option Expr) (t:TO):Prop :=
 ∀ (pins:List (Addr×Obj)) (s:Shared) (σ:St) (H:Hp) (Q:Option Int->Hp->Prop),Inv X pins σ H s->t σ H Q ->
  wpAny (model X.prog X.w) X.A (evalPart e X.env) (λ u s'=>∃ o H',Inv X pins σ H' s'/\IsPart u o/\Q o H') X.xe s
def al3:TO:=λ _ H Q=>Q none H
def aP5 (t:TE):TO:=λ σ H Q=>t σ H λ x H1=>∃ i,x=.int i/\Q (some i) H1
section
variable {X:Cx}{e:Expr}{te:TE}{lo hi:Option Expr}{tl th:TO}{pos p2:Pos}
theorem Q_7:PO X none al3:=by
 intro pins s σ H Q I h;rw[evalPart_none];exact qc ⟨none,H,I,.none,h⟩
theorem Q_6 (h:PE X e te):PO X (some e) (aP5 te):=by
 intro pins s σ H Q I hw;rw[evalPart_some];refine thn (h pins s σ H _ I hw) λ u s1=>ex5 λ x H1 I1 r1 q1=>?_
 obtain⟨i,rfl,q⟩:=q1;obtain⟨t,rfl⟩:=r1;exact⟨some i,H1,I1,.int i t,q⟩
def SlR (X:Cx) (r:V->Option Int->Option Int->Hp->VK->Prop):Prop :=
 ∀ (pins:List (Addr×Obj)) (s:Shared) (σ:St) (H:Hp) (x:V) (v vl vu:Value) (lo hi:Option Int) (sl:Addr) (Q:VK),Inv X pins σ H s->RelV x v->s.heap.IsSliceOf sl vl vu .none->IsPart vl lo->IsPart vu hi->r x lo hi H Q ->
  ∃ T id,typeLookup (.type T) "__getitem__"=pure (some (.builtin id)) ∧ s.TypeIs v T ∧ wpAny (model X.prog X.w) X.A (getItem v (.ref sl)) (EP X pins σ Q) X.xe s
theorem SlR.or {r r':V->Option Int->Option Int->Hp->VK->Prop} (h:SlR X r) (h':SlR X r'):SlR X (λ x lo hi H Q=>r x lo hi H Q\/r' x lo hi H Q):=by
 intro pins s σ H x v vl vu lo hi sl Q I rx hs pl pu q
 rcases q with q | q
 ·exact h pins s σ H x v vl vu lo hi sl Q I rx hs pl pu q
 ·exact h' pins s σ H x v vl vu lo hi sl Q I rx hs pl pu q
def tSl (r:V->Option Int->Option Int->Hp->VK->Prop) (te:TE) (tl th:TO):TE:=λ σ H Q=>te σ H λ x H1=>tl σ H1 λ l H2=>th σ H2 λ u H3=>r x l u H3 Q
theorem aa9 {r:V->Option Int->Option Int->Hp->VK->Prop} (hr:SlR X r) (he:PE X e te) (hl:PO X lo tl) (hu:PO X hi th):PE X (.Subscript e (.Slice lo hi none p2) pos) (tSl r te tl th):=by
 intro pins s σ H Q I h;refine Subscript_ (thn (he pins s σ H _ I h) λ v s1=>ex5 λ x H1 I1 r1 q1=>?_)
 refine wpAny_Slice (thn (hl pins s1 σ H1 _ I1 q1) λ vl s2=>ex5 λ l H2 I2 pl q2=>thn (hu pins s2 σ H2 _ I2 q2) λ vu s3=>ex5 λ u H3 I3 pu q3=>?_)
 rw[evalPart_none];refine qc ?_;have I4:Inv X pins σ H3 {s3 with heap:=s3.heap.push {cls:=.type "slice",data:=.fields #[vl,vu,.none]}}:=I3.kept (t':=s3.toks) λ b ob q=>qd _ q
 obtain⟨T,id,hT,ht,hg⟩:=hr pins {s3 with heap:=s3.heap.push {cls:=.type "slice",data:=.fields #[vl,vu,.none]}} σ H3 x v vl vu l u s3.heap.objs.size Q I4 r1 (Heap.IsSliceOf.new ..) pl pu q3
 show wpAny (model X.prog X.w) X.A (subscriptTail e (.Slice lo hi none p2) v (.ref s3.heap.objs.size)) (EP X pins σ Q) X.xe {s3 with heap:=s3.heap.push {cls:=.type "slice",data:=.fields #[vl,vu,.none]}}
 exact tail_any (ops:=[.ref s3.heap.objs.size,v]) ht hT hg (by with_unfolding_all rfl)
def X_8 (xs:List V) (lo hi:Option Int):List V:=(xs.drop (HT.sIx xs.length 0 lo)).take (HT.sIx xs.length xs.length hi-HT.sIx xs.length 0 lo)
theorem p_9 (xs:List V) (lo hi:Option Int):(X_8 xs lo hi).length<=xs.length:=by
 unfold X_8;rw[List.length_take,List.length_drop];omega
def bj9 (K:Frag):V->Option Int->Option Int->Hp->VK->Prop:=λ x lo hi H Q=>∃ a xs,x=.ref a/\SqT K H a xs /\
 ¬ (HT.sIx xs.length 0 lo=0/\HT.sIx xs.length xs.length hi=xs.length)/\∀ p,H p=none->Q (.ref p) (upd H p (.tup (X_8 xs lo hi)))
theorem az9:SlR X (bj9 X.K):=by
 intro pins s σ H x v vl vu lo hi sl Q I rx hs pl pu h;obtain⟨a,xs,rfl,hx,hw,q⟩:=h;cases rx;obtain⟨its,r,ht,hz⟩:=I.tuple hx;have hlen:its.toArray.size=xs.length:=by rw[List.size_toArray];exact r.length.symm
 refine⟨"tuple",_,PyProof.Rows.slot_tuple_getitem.lookup,ht.typeIs,?_⟩;refine HT.getItem_tuple_cut ht hs pl pu (by rw[hlen];exact hw) ?_ (by rw[hlen];exact hz)
 rw[hlen];refine⟨.ref s.heap.objs.size,_,I.laid (t':=s.toks) (o:=.tup (X_8 xs lo hi)) (λ b ob q=>qd _ q) (qi _) ?_,rfl,q _ (I.hok.fresh (qi _))⟩
 exact⟨Nat.le_trans (p_9 xs lo hi) hz,_,(r.drop (HT.sIx xs.length 0 lo)).take (HT.sIx xs.length xs.length hi-HT.sIx xs.length 0 lo),IsTuN.new _ _⟩
end
def ixN (n:Nat) (i:Int):Option Nat:=if 0<=i then (if i<n then some i.toNat else none) else if -(n:Int)<=i then some (i+n).toNat else none
def atI {α:Type} (xs:List α) (i:Int):Option α:=(ixN xs.length i).bind λ j=>xs[j]?
theorem aq3 {n:Nat}{i:Int}{j:Nat} (h:ixN n i=some j):seqIndex? i n=some j/\j<n/\-(n:Int)<=i/\i<n:=by
 unfold ixN at h
 by_cases h0:0<=i
 ·rw[if_pos h0] at h
  by_cases h1:i<n
  ·rw[if_pos h1] at h
   have e:i.toNat=j:=qh h;exact⟨by rw[seqIndex_of h0 h1,e],by omega,by omega,h1⟩
  ·rw[if_neg h1] at h;cases h
 ·rw[if_neg h0] at h
  by_cases h1:-(n:Int)<=i
  ·rw[if_pos h1] at h
   have e:(i+n).toNat=j:=qh h;exact⟨by rw[seqIndex_neg (by omega) h1,e],by omega,h1,by omega⟩
  ·rw[if_neg h1] at h;cases h
theorem E_1 {α:Type}{xs:List α}{i:Int}{v:α} (h:atI xs i=some v):∃ j,seqIndex? i xs.length=some j/\xs[j]?=some v/\j<xs.length/\-(xs.length:Int)<=i/\i<xs.length:=by
 unfold atI at h;cases e:ixN xs.length i with
 |none=>rw[e] at h;cases h
 |some j =>
  rw[e] at h;obtain⟨h1,h2,h3,h4⟩:=aq3 e;exact⟨j,h1,h,h2,h3,h4⟩
def X_5 (b:Expr):Prop:=∀ o i,subscripted b false o i=operate [o,i] (getItem o i)
def IxR (X:Cx) (r:R2):Prop :=
 ∀ (value slice:Expr) (pins:List (Addr×Obj)) (s:Shared) (σ:St) (H:Hp) (x y:V) (v u:Value) (Q:VK),Inv X pins σ H s->RelV x v->RelV y u->r x y H Q ->
  subscripted slice false v u=operate [v,u] (getItem v u)->wpAny (model X.prog X.w) X.A (subscriptTail value slice v u) (EP X pins σ Q) X.xe s
def MtR (X:Cx) (id:String) (r:V->List V->Hp->VK->Prop):Prop :=
 ∀ (pins:List (Addr×Obj)) (s:Shared) (σ:St) (H:Hp) (x:V) (xs:List V) (v:Value) (us:List Value) (Q:VK),Inv X pins σ H s->RelV x v->Vals xs us->r x xs H Q ->
  wpAny (model X.prog X.w) X.A (call (.builtin id) (v::us)) (EP X pins σ Q) X.xe s
section
variable {X:Cx}{a b:Expr}{ta tb:TE}{pos:Pos}
theorem IxR.or {r r':R2} (h:IxR X r) (h':IxR X r'):IxR X (λ x y H Q=>r x y H Q\/r' x y H Q):=by
 intro value slice pins s σ H x y v u Q I rx ry q hs
 rcases q with q | q
 ·exact h value slice pins s σ H x y v u Q I rx ry q hs
 ·exact h' value slice pins s σ H x y v u Q I rx ry q hs
theorem MtR.or {id:String}{r r':V->List V->Hp->VK->Prop} (h:MtR X id r) (h':MtR X id r'):MtR X id (λ x xs H Q=>r x xs H Q\/r' x xs H Q):=by
 intro pins s σ H x xs v us Q I rx rs q
 rcases q with q | q
 ·exact h pins s σ H x xs v us Q I rx rs q
 ·exact h' pins s σ H x xs v us Q I rx rs q
theorem aT1 {r:R2} (hr:IxR X r) (ha:PE X a ta) (hb:PE X b tb) (hs:X_5 b):PE X (.Subscript a b pos) (tOp r ta tb):=by
 intro pins s σ H Q I h;exact Subscript_ (aY7 ha hb I h λ v u s2 x y H2 I2 rx ry q=>hr a b pins s2 σ H2 x y v u Q I2 rx ry q (hs _ _))
def bc2 (K:Frag):R2:=λ x y H Q=>∃ p xs i v,x=.ref p/\y=.int i/\SqL K H p xs/\atI xs i=some v/\Q v H
def bc0 (K:Frag):R2:=λ x y H Q=>∃ p xs i v,x=.ref p/\y=.int i/\SqT K H p xs/\atI xs i=some v/\Q v H
def bc1:R2:=λ x y H Q=>∃ z i c,x=.str z/\y=.int i/\z.length<=sizeLine/\atI z.cps.toList i=some c/\Q (.str ⟨#[c]⟩) H
theorem ix_list:IxR X (bc2 X.K):=by
 intro value slice pins s σ H x y v u Q I rx ry h hs;obtain⟨p,xs,i,z,rfl,rfl,hq,he,q⟩:=h;cases rx;obtain⟨t,rfl⟩:=ry;obtain⟨its,r,pl,hz⟩:=I.list hq;obtain⟨j,h1,h2,h3,h4,h5⟩:=E_1 he;obtain⟨w,ew,rw'⟩:=r.get h2;have hl:=r.length;have hn:=s_3;have fin:EP X pins σ Q w s:=⟨z,H,I,rw',q⟩
 by_cases h0:0<=i
 ·have hj:i.toNat=j:=by
   rw[seqIndex_of h0 h5] at h1;exact qh h1
  exact item_listR pl.isList h0 (by omega) (by rw[hj];simpa using ew) fin hs
 ·have hj:(i+(its.toArray.size:Int)).toNat=j:=by
   rw[seqIndex_neg (by omega) h4] at h1
   rw[List.size_toArray,<- hl];exact qh h1
  exact subscriptTail_builtinR (x:=w) pl.isList.typeIs slot_list_getitem.lookup
   (wpAny_getItem_list_neg (Q:=λ r s'=>r=w/\EP X pins σ Q r s') pl.isList (by omega) (by rw[List.size_toArray] <;> omega) (by omega) (by rw[hj];simpa using ew) ⟨rfl,fin⟩) hs
theorem ix_tup:IxR X (bc0 X.K):=by
 intro value slice pins s σ H x y v u Q I rx ry h hs;obtain⟨p,xs,i,z,rfl,rfl,hq,he,q⟩:=h;cases rx;obtain⟨t,rfl⟩:=ry;obtain⟨its,r,pl,hz⟩:=I.tuple hq;obtain⟨j,h1,h2,h3,h4,h5⟩:=E_1 he;obtain⟨w,ew,rw'⟩:=r.get h2;have hl:=r.length;have hn:=s_3;have fin:EP X pins σ Q w s:=⟨z,H,I,rw',q⟩;exact subscriptTail_builtinR (x:=w) pl.typeIs slot_tuple_getitem.lookup
  (getItem_tuple (j:=j) (Q:=λ r s'=>r=w/\EP X pins σ Q r s') pl (by omega) (by omega) (by rw[List.size_toArray,<- hl];exact h1) (by simpa using ew) ⟨rfl,fin⟩) hs
theorem aG3:IxR X bc1:=by
 intro value slice pins s σ H x y v u Q I rx ry h hs;obtain⟨z,i,c,rfl,rfl,hz,he,q⟩:=h;obtain⟨t,rfl⟩:=rx;obtain⟨t',rfl⟩:=ry;obtain⟨j,h1,h2,h3,h4,h5⟩:=E_1 he;have hl:z.cps.toList.length=z.length:=by simp[Str.length]
 rw[hl] at h1 h4 h5;have hn:=s_3
 exact tail_any (typeIs_str s z t) slot_str_getitem.lookup (getItem_str (c:=c) (by
  have e1:decide (i < -(2 ^ 63:Int))=false:=decide_eq_false (by omega)
  have e2:decide (i>=2 ^ 63)=false:=decide_eq_false (by omega)
  rw[e1,e2,Bool.or_false]) (by rw[h1];simpa using h2) ⟨.str ⟨#[c]⟩,H,I.tok _,⟨_,rfl⟩,q⟩) hs
def rIx (K:Frag):R2:=λ x y H Q=>bc2 K x y H Q\/bc0 K x y H Q\/bc1 x y H Q
theorem aG4:IxR X (rIx X.K):=ix_list.or (ix_tup.or aG3)
theorem Inv.lst {pins:List (Addr×Obj)}{σ:St}{H:Hp}{s:Shared}{p:Addr}{xs:List V} (I:Inv X pins σ H s) (h:H p=some (.lst xs)) :
  ∃ (its:List Value) (n:Nat),Vals xs its ∧ s.heap.get? p=some {cls:=.type "list",data:=.seq its.toArray n} ∧ xs.length ≤ sizeLine:=by
 obtain⟨z,its,n,r,e⟩:=I.hok p _ h;exact⟨its,n,r,e,z⟩
theorem w_6 (lo hi:Option Int) (n:Nat):(sliceBounds lo hi none n).1=((HT.sIx n 0 lo:Nat):Int)/\(sliceBounds lo hi none n).2.1=((HT.sIx n n hi:Nat):Int)/\(sliceBounds lo hi none n).2.2=1:=by
 refine⟨?_,?_,rfl⟩
 ·cases lo with
  |none=>simp[sliceBounds,HT.sIx]
  |some i =>
   simp only[sliceBounds,HT.sIx,Option.getD_none,show (1:Int) > 0 by decide,if_true]
   by_cases h:i<0
   ·simp only[h,if_true] <;> omega
   ·simp only[h,if_false] <;> omega
 ·cases hi with
  |none=>simp[sliceBounds,HT.sIx]
  |some i =>
   simp only[sliceBounds,HT.sIx,Option.getD_none,show (1:Int) > 0 by decide,if_true]
   by_cases h:i<0
   ·simp only[h,if_true] <;> omega
   ·simp only[h,if_false] <;> omega
theorem t_3 (its:List Value) (lo hi:Option Int):slicePick its.toArray lo hi none=((its.drop (HT.sIx its.length 0 lo)).take (HT.sIx its.length its.length hi-HT.sIx its.length 0 lo)).toArray:=by
 obtain⟨h1,h2,h3⟩:=w_6 lo hi its.toArray.size;unfold slicePick;rw[h1,h2,h3];simp only[sliceRange_one,pick_run,List.size_toArray] <;> rfl
def bk1 (K:Frag):V->Option Int->Option Int->Hp->VK->Prop:=λ x lo hi H Q=>∃ a xs,x=.ref a/\SqL K H a xs/\∀ p,H p=none->Q (.ref p) (upd H p (.lst (X_8 xs lo hi)))
theorem sl_list:SlR X (bk1 X.K):=by
 intro pins s σ H x v vl vu lo hi sl Q I rx hs pl pu h;obtain⟨a,xs,rfl,hx,q⟩:=h;cases rx;obtain⟨its,r,ht,hz⟩:=I.list hx;have hlen:=r.length;refine⟨"list",_,slot_list_getitem.lookup,ht.isList.typeIs,?_⟩;refine wpAny_getItem_list_slice ht.isList hs pl pu .none (by simp) ?_ (by rw[List.size_toArray] <;> omega)
 rw[t_3,<- hlen];refine⟨.ref s.heap.objs.size,_,I.laid (t':=s.toks) (o:=.lst (X_8 xs lo hi)) (λ b ob q=>qd _ q) (qi _) ?_,rfl,q _ (I.hok.fresh (qi _))⟩
 exact⟨Nat.le_trans (p_9 xs lo hi) hz,_,0,(r.drop (HT.sIx xs.length 0 lo)).take (HT.sIx xs.length xs.length hi-HT.sIx xs.length 0 lo),qj _ rfl⟩
def r_0:V->Bool
 |.non=>true
 |.bl _=>true
 |.int _=>true
 |.str _=>true
 |_=>false
def eqV:V->V->Bool
 |.non,.non=>true
 |.bl a,.bl b=>a==b
 |.bl a,.int b=>(if a then 1 else 0)==b
 |.int a,.bl b=>a==(if b then 1 else 0)
 |.int a,.int b=>a==b
 |.str a,.str b=>a==b
 |_,_=>false
theorem aI1 {A:Around}{s:Shared}{y x:V}{u v:Value} (ry:RelV y u) (rx:RelV x v) (fy:r_0 y=true) (fx:r_0 x=true):SeqAt.EqAt A s u v (eqV y x):=by
 cases y with
 |non =>
  cases ry;cases x with
  |non=>cases rx;exact SeqAt.EqAt.same _
  |bl b=>cases rx;exact SeqAt.EqAt.none_bool b
  |int b=>obtain⟨t,rfl⟩:=rx;exact SeqAt.EqAt.none_int b t
  |str b=>obtain⟨t,rfl⟩:=rx;exact SeqAt.EqAt.none_str b t
  |_=>exact absurd (show false=true from fx) qm
 |bl a =>
  cases ry;cases x with
  |non=>cases rx;exact SeqAt.EqAt.bool_none a
  |bl b=>cases rx;exact SeqAt.EqAt.bool_bool a b
  |int b=>obtain⟨t,rfl⟩:=rx;exact SeqAt.EqAt.bool_int a b t
  |str b=>obtain⟨t,rfl⟩:=rx;exact SeqAt.EqAt.bool_str a b t
  |_=>exact absurd (show false=true from fx) qm
 |int a =>
  obtain⟨t',rfl⟩:=ry;cases x with
  |non=>cases rx;exact SeqAt.EqAt.int_none a t'
  |bl b=>cases rx;exact SeqAt.EqAt.int_bool a t' b
  |int b=>obtain⟨t,rfl⟩:=rx;exact SeqAt.EqAt.int_int a t' b t
  |str b=>obtain⟨t,rfl⟩:=rx;exact SeqAt.EqAt.int_str a t' b t
  |_=>exact absurd (show false=true from fx) qm
 |str a =>
  obtain⟨t',rfl⟩:=ry;cases x with
  |non=>cases rx;exact SeqAt.EqAt.str_none a t'
  |bl b=>cases rx;exact SeqAt.EqAt.str_bool a t' b
  |int b=>obtain⟨t,rfl⟩:=rx;exact SeqAt.EqAt.str_int a t' b t
  |str b=>obtain⟨t,rfl⟩:=rx;exact SeqAt.EqAt.str_str a t' b t
  |_=>exact absurd (show false=true from fx) qm
 |_=>exact absurd (show false=true from fy) qm
def eqU (x:V) (u:Value):Bool:=match u with
 |.none=>eqV .non x
 |.bool b=>eqV (.bl b) x
 |.int i _=>eqV (.int i) x
 |.str z _=>eqV (.str z) x
 |_=>false
theorem ai9 {x y:V}{u:Value} (r:RelV y u) (f:r_0 y=true):eqU x u=eqV y x:=by
 cases y with
 |non=>cases r;rfl
 |bl b=>cases r;rfl
 |int i=>obtain⟨t,rfl⟩:=r;rfl
 |str z=>obtain⟨t,rfl⟩:=r;rfl
 |_=>exact absurd (show false=true from f) qm
theorem E_2 {x:V}:∀ {xs:List V}{us:List Value},Vals xs us->xs.all r_0=true->us.any (eqU x)=xs.any λ y=>eqV y x
 |_,_,.nil,_=>rfl
 |y::xs,u::us,.cons r t,f=>by
  rw[List.all_cons,Bool.and_eq_true] at f;rw[List.any_cons,List.any_cons,ai9 r f.1,E_2 t f.2]
theorem u_6 {A:Around}{s:Shared}{x:V}{v:Value} (rx:RelV x v) (fx:r_0 x=true):∀ {xs:List V}{us:List Value},Vals xs us->xs.all r_0=true->∀ u∈us,SeqAt.EqAt A s u v (eqU x u)
 |_,_,.nil,_=>λ u hu=>by cases hu
 |y::xs,u::us,.cons r t,f=>λ u' hu=>by
  rw[List.all_cons,Bool.and_eq_true] at f
  rcases qr hu with rfl | hu
  ·rw[ai9 r f.1];exact aI1 r rx f.1 fx
  ·exact u_6 rx fx t f.2 u' hu
def inV (x:V) (xs:List V):Bool:=xs.any λ y=>eqV y x
def rIn (K:Frag) (neg:Bool):R2:=λ x y H Q=>∃ p xs,y=.ref p/\(SqL K H p xs\/SqT K H p xs)/\r_0 x=true/\xs.all r_0=true/\Q (.bl (if neg then !inV x xs else inV x xs)) H
theorem R_6:OpR X (compareOp .In) (rIn X.K false):=by
 intro pins s σ H x y v u Q I rx ry h;obtain⟨p,xs,rfl,hq,fx,fs,q⟩:=h;cases ry
 rcases hq with hq | hq
 ·obtain⟨its,r,pl,hz⟩:=I.list hq
  refine SeqAt.in_listAt (eqU x) pl.isList (λ w hw=>u_6 rx fx r fs w (by simpa using hw)) ⟨.bl _,H,I,rfl,?_⟩
  rw[show its.toArray.any (eqU x)=its.any (eqU x) by simp,E_2 r fs]
  exact q
 ·obtain⟨its,r,pl,hz⟩:=I.tuple hq
  refine SeqAt.in_tupleAt (eqU x) pl (λ w hw=>u_6 rx fx r fs w (by simpa using hw)) ⟨.bl _,H,I,rfl,?_⟩
  rw[show its.toArray.any (eqU x)=its.any (eqU x) by simp,E_2 r fs]
  exact q
theorem call_len_seq:CallR X (.builtin "len") (λ xs H Q=>∃ p ys,xs=[.ref p] ∧ (SqL X.K H p ys ∨ SqT X.K H p ys) ∧ Q (.int ys.length) H):=by
 intro pins s σ H xs us Q I r h;obtain⟨p,ys,rfl,hq,q⟩:=h;obtain⟨u,rfl,rx⟩:=h_9 r;cases rx;have hn:=s_3
 rcases hq with hq | hq
 ·obtain⟨its,r',pl,hz⟩:=I.list hq
  have hlen:=r'.length;exact Calls.call_len_list pl.isList (by simp only[List.size_toArray] <;> omega) ⟨.int ys.length,H,I.tok _,⟨s.toks+1,by rw[List.size_toArray,hlen]⟩,q⟩
 ·obtain⟨its,r',pl,hz⟩:=I.tuple hq
  have hlen:=r'.length;exact len_tuple pl (by simp only[List.size_toArray] <;> omega) ⟨.int ys.length,H,I.tok _,⟨s.toks+1,by rw[List.size_toArray,hlen]⟩,q⟩
theorem z_5:CallR X (.builtin "len") (λ xs H Q=>∃ z,xs=[.str z] ∧ z.length ≤ sizeLine ∧ Q (.int z.length) H):=by
 intro pins s σ H xs us Q I r h;obtain⟨z,rfl,hz,q⟩:=h;obtain⟨u,rfl,t,rfl⟩:=h_9 r;have hn:=s_3;exact len_str (by omega) ⟨.int z.length,H,I.tok _,⟨_,rfl⟩,q⟩
theorem CallR.or {f:Value}{r r':List V->Hp->VK->Prop} (h:CallR X f r) (h':CallR X f r'):CallR X f (λ xs H Q=>r xs H Q\/r' xs H Q):=by
 intro pins s σ H xs us Q I rs q
 rcases q with q | q
 ·exact h pins s σ H xs us Q I rs q
 ·exact h' pins s σ H xs us Q I rs q
theorem z_4:CallR X (.type "list") (λ xs H Q=>∃ p ys,xs=[.ref p] ∧ (SqL X.K H p ys ∨ SqT X.K H p ys) ∧ ∀ l,H l=none → Q (.ref l) (upd H l (.lst ys))):=by
 intro pins s σ H xs us Q I r h;obtain⟨p,ys,rfl,hq,q⟩:=h;obtain⟨u,rfl,rx⟩:=h_9 r;cases rx;have fin:∀ (its:List Value),Vals ys its->ys.length<=sizeLine->∀ (h':Heap) (c':Nat),(∀ b o',s.heap.get? b=some o'->h'.get? b=some o') ->
   h'.get? s.heap.objs.size=some {cls:=.type "list",dict:=none,data:=.seq its.toArray c',slots:=#[]} → EP X pins σ Q (.ref s.heap.objs.size) {s with heap:=h'}:=λ its r' hz h' c' kp e =>
  ⟨.ref s.heap.objs.size,_,I.laid (t':=s.toks) kp (qi _) (show ObjOk X.prog X.w _ h' _ (.lst ys) from ⟨hz,its,c',r',e⟩),rfl,q _ (I.hok.fresh (qi _))⟩
 rcases hq with hq | hq
 ·obtain⟨its,r',pl,hz⟩:=I.list hq
  have hlen:=r'.length;obtain⟨o,ho,hc,n,hd⟩:=pl.isList;exact call_list_seq p (.inl rfl) ho hc hd (λ h' c' kp e=>fin its r' hz h' c' kp e) (by simp only[List.size_toArray] <;> omega)
 ·obtain⟨its,r',pl,hz⟩:=I.tuple hq
  have hlen:=r'.length;obtain⟨o,ho,hc,n,hd⟩:=pl;exact call_list_seq p (.inr rfl) ho hc hd (λ h' c' kp e=>fin its r' hz h' c' kp e) (by simp only[List.size_toArray] <;> omega)
theorem v_7:CallR X (.type "tuple") (λ xs H Q=>∃ p ys,xs=[.ref p] ∧ ((SqL X.K H p ys ∧ ∀ l,H l=none → Q (.ref l) (upd H l (.tup ys))) ∨ (SqT X.K H p ys ∧ Q (.ref p) H))):=by
 intro pins s σ H xs us Q I r h;obtain⟨p,ys,rfl,h⟩:=h;obtain⟨u,rfl,rx⟩:=h_9 r;cases rx
 rcases h with ⟨hq,q⟩ | ⟨hq,q⟩
 ·obtain⟨its,r',pl,hz⟩:=I.list hq
  have hlen:=r'.length;refine call_tuple_list pl.isList (λ h' kp=>?_) (by simp only[List.size_toArray] <;> omega)
  have I1:Inv X pins σ H {s with heap:=h'}:=I.kept (t':=s.toks) kp
  have I2:Inv X pins σ (upd H h'.objs.size (.tup ys)) {s with heap:=h'.push {cls:=.type "tuple",data:=.seq its.toArray}} :=
   I1.laid (t':=s.toks) (λ b o e=>qd _ e) (qi _) (show ObjOk X.prog X.w _ _ _ (.tup ys) from ⟨hz,its,r',IsTuN.new _ _⟩)
  exact⟨.ref h'.objs.size,_,I2,rfl,q _ (I1.hok.fresh (qi _))⟩
 ·obtain⟨its,r',pl,hz⟩:=I.tuple hq
  exact call_tuple_same pl ⟨.ref p,H,I,rfl,q⟩
def tyV (K:Frag) (T:String) (x:V) (H:Hp):Prop:=match x with
 |.str _=>T="str"
 |.int _=>T="int"
 |.ref p=>(T="list" ∧ ∃ xs,SqL K H p xs) ∨ (T="tuple" ∧ ∃ o,K.lookup p=some o ∧ o.cls=.type "tuple" ∧ o.dict=none) ∨
   (T="dict" ∧ ((∃ kvs,H p=some (.dK kvs)) ∨ ∃ kvs,H p=some (.dT kvs))) ∨ (T="set" ∧ ∃ S n,H p=some (.set S n))
 |_=>False
theorem ag0 {pins:List (Addr×Obj)}{σ:St}{H:Hp}{s:Shared}{T:String}{x:V}{v:Value} (I:Inv X pins σ H s) (r:RelV x v) (ty:tyV X.K T x H) :
  s.TypeIs v T/\∀ a,v=.ref a->∃ ob,s.heap.get? a=some ob/\ob.dict=none:=by
 cases x with
 |str z =>
  obtain⟨t,rfl⟩:=r;cases (show T="str" from ty);exact⟨typeIs_str s z t,λ _ e=>nomatch e⟩
 |int i =>
  obtain⟨t,rfl⟩:=r;cases (show T="int" from ty);exact⟨typeIs_int s i t,λ _ e=>nomatch e⟩
 |ref p =>
  cases r
  rcases ty with ⟨rfl,xs,hq⟩ | ⟨rfl,o,hk,hc,hd⟩ | ⟨rfl,hk⟩ | ⟨rfl,S,n,hk⟩
  ·obtain⟨its,_,pl,_⟩:=I.list hq
   refine⟨pl.isList.typeIs,λ a e=>?_⟩
   cases e;obtain⟨o,n,e,c,hd,_⟩:=pl;exact⟨o,e,hd⟩
  ·refine⟨⟨o,I.kIn p o hk,hc⟩,λ a e=>?_⟩
   cases e;exact⟨o,I.kIn _ o hk,hd⟩
  ·have z:∃ o,s.heap.get? p=some o/\o.ExactDict:=by
    rcases hk with ⟨kvs,hk⟩ | ⟨kvs,hk⟩
    ·obtain⟨_,_,_,_,o,_,_,e,ex,_⟩:=I.hok p _ hk
     exact⟨o,e,ex⟩
    ·obtain⟨_,_,_,_,o,_,_,e,ex,_⟩:=I.hok p _ hk
     exact⟨o,e,ex⟩
   obtain⟨o,e,ex⟩:=z;refine⟨⟨o,e,ex.1⟩,λ a e2=>?_⟩
   cases e2;exact⟨o,e,ex.2.1⟩
  ·obtain⟨o,_,_,_,e,ex,_⟩:=I.hok p _ hk
   refine⟨⟨o,e,ex.1⟩,λ a e2=>?_⟩
   cases e2;exact⟨o,e,ex.2.1⟩
 |_=>exact False.elim ty
def bj2 (K:Frag) (T:String) (r:V->List V->Hp->VK->Prop) (to:TE):TE:=λ σ H Q=>to σ H λ x H1=>tyV K T x H1/\r x [] H1 Q
def tBM (K:Frag) (T:String) (r:V->List V->Hp->VK->Prop) (to:TE) (t:TA):TE:=λ σ H Q=>to σ H λ x H1=>tyV K T x H1/\t σ H1 λ xs H2=>r x xs H2 Q
variable {o e:Expr}{es:List Expr}{to:TE}{t:TA}{name:Str}{apos cpos:Pos}{T id:String}{r:V->List V->Hp->VK->Prop}
theorem aD5 (pa:PlainAttrs T) (slot:Slot T name id) (hty:typeOf (.builtin id)=pure (.type "method_descriptor")) (hm:MtR X id r) (ho:PE X o to)
  (hbase:attributeBase o name X.env (eval o X.env)=eval o X.env:=by rfl) (hline:(apos.endLine==cpos.line)=true:=by rfl):PE X (.Call (.Attribute o name apos) [] [] cpos) (bj2 X.K T r to):=by
 intro pins s σ H Q I h;refine wpAny_Call_method0_late hbase hline (thn (ho pins s σ H _ I h) λ v s1 hh0_=>?_)
 obtain⟨x,H1,I1,r1,ty,q1⟩:=hh0_;obtain⟨h1,h2⟩:=ag0 I1 r1 ty;exact⟨T,id,pa,slot,hty,h1,h2,Calls.callWith_builtin rfl (PySem.evalArgs_none (hm pins s1 σ H1 x [] v [] Q I1 r1 .nil q1))⟩
theorem C_0 (pa:PlainAttrs T) (slot:Slot T name id) (hty:typeOf (.builtin id)=pure (.type "method_descriptor")) (hm:MtR X id r) (ho:PE X o to) (ha:PA X (e::es) t)
  (hbase:attributeBase o name X.env (eval o X.env)=eval o X.env:=by rfl)
  (hfew:((backTo cpos (starEach (e::es) X.env)).all (λ x=>!x.1)&&(backToKw cpos (keywordEach [] X.env)).all (λ x=>x.1.isSome)
   && decide ((e::es).length+([]:List Keyword).length+(if ([]:List Keyword).isEmpty then 0 else 1)<30))=true:=by rfl)
  (hline:(apos.endLine==cpos.line)=true:=by rfl) (hs:starEach (e::es) X.env=(false,eval e X.env)::starEach es X.env:=by rfl) (hplain:(backTo cpos (starEach es X.env)).any (·.1)=false:=by rfl) :
  PE X (.Call (.Attribute o name apos) (e::es) [] cpos) (tBM X.K T r to t):=by
 intro pins s σ H Q I h;refine wpAny_Call_method_late hbase hfew hline rfl (thn (ho pins s σ H _ I h) λ v s1 hh0_=>?_)
 obtain⟨x,H1,I1,r1,ty,q1⟩:=hh0_;obtain⟨h1,h2⟩:=ag0 I1 r1 ty;refine⟨T,id,pa,slot,hty,h1,h2,?_⟩;have hA:=ha cpos pins s1 σ H1 _ I1 q1;rw[hs] at hA ⊢;refine Calls.callWith_builtin (by show (false||(backTo cpos (starEach es X.env)).any (·.1))=false;rw[hplain] <;> rfl) (Calls.evalArgs_plain ?_)
 exact thn hA λ us s2=>ex5 λ vs H2 I2 r2 q2=>hm pins s2 σ H2 x vs v us Q I2 r1 r2 q2
end
def MtM (X:Cx) (id:String) (r:V->List V->Hp->VK->Prop):Prop :=
 ∀ (pins:List (Addr×Obj)) (s:Shared) (σ:St) (H:Hp) (x:V) (xs:List V) (v:Value) (us:List Value) (Q:VK),Inv X pins σ H s->RelV x v->Vals xs us->r x xs H Q ->
  wpAny (model X.prog X.w) X.A (call (.builtin id) (v::us)) (EP X pins σ Q) X.xe s
theorem Vals.one:∀ {x:V}{us:List Value},Vals [x] us->∃ u,us=[u]/\RelV x u
 |_,_,h=>by
  cases h with
  |cons r t=>cases t;exact⟨_,rfl,r⟩
theorem Vals.two:∀ {x y:V}{us:List Value},Vals [x,y] us->∃ u v,us=[u,v]/\RelV x u/\RelV y v
 |_,_,_,h=>by
  cases h with
  |cons r t =>
   cases t with
   |cons q z=>cases z;exact⟨_,_,rfl,r,q⟩
theorem Vals.zero:∀ {us:List Value},Vals [] us->us=[]
 |_,.nil=>rfl
theorem Vals.dropLast {xs:List V}{us:List Value} (h:Vals xs us):Vals xs.dropLast us.dropLast:=by
 induction h with
 |nil=>exact .nil
 |cons r t ih =>
  cases t with
  |nil=>exact .nil
  |cons q t'=>exact .cons r ih
theorem Vals.eraseIdx:∀ {xs:List V}{us:List Value} (i:Nat),Vals xs us->Vals (xs.eraseIdx i) (us.eraseIdx i)
 |_,_,_,.nil=>.nil
 |_,_,0,.cons _ t=>t
 |_,_,i+1,.cons r t=>.cons r (Vals.eraseIdx i t)
theorem Vals.reverse {xs:List V}{us:List Value} (h:Vals xs us):Vals xs.reverse us.reverse:=by
 induction h with
 |nil=>exact .nil
 |cons r t ih=>rw[List.reverse_cons,List.reverse_cons];exact Vals.append ih (.cons r .nil)
theorem Vals.rep {xs:List V}{us:List Value} (h:Vals xs us):∀ k:Nat,Vals (List.replicate k xs).flatten (List.replicate k us).flatten
 |0=>.nil
 |k+1=>by
  rw[List.replicate_succ,List.replicate_succ,List.flatten_cons,List.flatten_cons];exact Vals.append h (Vals.rep h k)
theorem M_6 {α:Type} (l:List α):l.eraseIdx (l.length-1)=l.dropLast:=by
 induction l with
 |nil=>rfl
 |cons a r ih =>
  cases r with
  |nil=>rfl
  |cons b r =>
   have e:(a::b::r).length-1=((b::r).length-1)+1:=by
    have h1:(a::b::r).length=r.length+2:=rfl;have h2:(b::r).length=r.length+1:=rfl;omega
   rw[e,List.eraseIdx_cons_succ,ih]
   all_goals rfl
theorem y_7 (its:List Value):∀ (k:Nat) (acc:List Value),
  List.foldl (λ x1 x2=>x1++x2) acc.toArray (List.replicate k its.toArray)=(acc++(List.replicate k its).flatten).toArray
 |0,acc=>by simp
 |k+1,acc=>by
  have e:acc.toArray++its.toArray=(acc++its).toArray:=by simp
  have e2:(acc++its)++(List.replicate k its).flatten=acc++(List.replicate (k+1) its).flatten:=by
   rw[List.replicate_succ,List.flatten_cons,List.append_assoc]
  rw[<- e2,<- y_7 its k (acc++its),<- e,List.replicate_succ,List.foldl_cons]
section
variable {X:Cx}{pins:List (Addr×Obj)}{σ:St}{H:Hp}{s:Shared}{l b:Addr}{xs ys zs:List V}
theorem Inv.lset {its its':List Value}{n:Nat}{f:Array Value->Array Value}{t':Nat} (I:Inv X pins σ H s) (hH:H l=some (.lst xs))
  (e:s.heap.get? l=some {cls:=.type "list",data:=.seq its.toArray n}) (hf:f its.toArray=its'.toArray) (hv:Vals ys its') (hz:ys.length ≤ sizeLine) :
  Inv X pins σ (upd H l (.lst ys)) {s with heap:=s.heap.update l (Obj.mapSeq f),toks:=t'}:=by
 have q:=PySem.IsL.update e f;rw[hf] at q;refine I.write (x:=l) (e:=l) (by rw[hH];exact trivial) (.inl rfl) (λ b' u hb hu=>(Heap.get?_update_other s.heap (Obj.mapSeq f) (Ne.symm hb)).trans hu) ⟨_,q⟩ ?_
 exact⟨hz,its',_,hv,q⟩
theorem Inv.lnew {its:List Value}{t':Nat} (I:Inv X pins σ H s) (hv:Vals ys its) (hz:ys.length<=sizeLine) :
  Inv X pins σ (upd H s.heap.objs.size (.lst ys)) {s with heap:=s.heap.push {cls:=.type "list",data:=.seq its.toArray},toks:=t'} :=
 I.laid (λ _ _ q=>qd _ q) (qi _) ⟨hz,its,0,hv,qj _ rfl⟩
theorem Inv.fresh (I:Inv X pins σ H s):H s.heap.objs.size=none:=I.hok.fresh (qi _)
theorem Inv.lstM (I:Inv X pins σ H s) (hH:H l=some (.lst xs)):xs.length ≤ sizeLine ∧ ∃ (its:List Value) (n:Nat),Vals xs its ∧ xs.length=its.length ∧ s.heap.get? l=some {cls:=.type "list",data:=.seq its.toArray n}:=by
 obtain⟨z,its,n,r,e⟩:=I.hok l _ hH;exact⟨z,its,n,r,r.length,e⟩
theorem u_4 {n:Nat} (h:n<=sizeLine):Builtin.List.listTooLong n=false:=by
 unfold Builtin.List.listTooLong;exact decide_eq_false (by omega)
end
section
variable {X:Cx}
def am5:V->List V->Hp->VK->Prop:=λ x vs H Q=>∃ l xs y,x=.ref l/\vs=[y]/\H l=some (.lst xs)/\xs.length<sizeLine/\Q .non (upd H l (.lst (xs++[y])))
theorem T_0:MtM X "list.append" am5:=by
 intro pins s σ H x vs v us Q I rx rv h;obtain⟨l,xs,y,rfl,rfl,hH,hz,q⟩:=h;cases rx;obtain⟨u,rfl,ru⟩:=rv.one;obtain⟨z,its,n,r,hl,e⟩:=I.lstM hH;refine call_meets F.slot_list_append ⟨_,e,rfl⟩ F.entry_list_append (F.args_list_append_2 _ _) (PySem.list_append l its.toArray n u (by rw[List.size_toArray];omega)) ⟨e,?_⟩
 refine⟨.non,_,I.lset (its':=its++[u]) hH e (by simp) (r.append (.cons ru .nil)) ?_,rfl,q⟩
 rw[List.length_append,List.length_singleton];omega
def am4:V->List V->Hp->VK->Prop:=λ x vs H Q=>∃ l b xs zs,x=.ref l/\vs=[.ref b]/\H l=some (.lst xs)/\H b=some (.lst zs)/\xs.length+zs.length<=sizeLine/\Q .non (upd H l (.lst (xs++zs)))
theorem S_9:MtM X "list.extend" am4:=by
 intro pins s σ H x vs v us Q I rx rv h;obtain⟨l,b,xs,zs,rfl,rfl,hH,hB,hz,q⟩:=h;cases rx;obtain⟨u,rfl,ru⟩:=rv.one;cases ru;obtain⟨z,its,n,r,hl,e⟩:=I.lstM hH;obtain⟨z2,its2,n2,r2,hl2,e2⟩:=I.lstM hB;have hsz:its.toArray.size+its2.toArray.size<=sizeLine:=by rw[List.size_toArray,List.size_toArray];omega
 have hlong:¬ (!its.toArray.isEmpty&&Builtin.List.listTooLong (its.toArray.size+its2.toArray.size))=true:=by
  rw[u_4 hsz,Bool.and_false];exact qm
 refine call_meets F.slot_list_extend ⟨_,e,rfl⟩ F.entry_list_extend (F.args_list_extend_2 _ _)
  (AutoSeq1.list_extend_list_list_0 l its.toArray n b its2.toArray n2 hlong (by rw[List.size_toArray];omega) (by omega)) ⟨e,e2,?_⟩
 refine⟨.non,_,I.lset (its':=its++its2) hH e (by simp) (r.append r2) ?_,rfl,q⟩
 rw[List.length_append];omega
def bk4:V->List V->Hp->VK->Prop:=λ x vs H Q=>∃ l xs y,x=.ref l/\vs=[]/\H l=some (.lst xs)/\xs[xs.length-1]?=some y/\Q y (upd H l (.lst xs.dropLast))
theorem aF5:MtM X "list.pop" bk4:=by
 intro pins s σ H x vs v us Q I rx rv h;obtain⟨l,xs,y,rfl,rfl,hH,hy,q⟩:=h;cases rx;have hus:=rv.zero;subst hus;obtain⟨z,its,n,r,hl,e⟩:=I.lstM hH;obtain⟨u,hu,ru⟩:=r.get hy
 have hy':its.toArray[its.toArray.size-1]?=some u:=by
  show its.toArray[its.length-1]?=some u;rw[<- Array.getElem?_toList,<- hl];exact hu
 refine call_meets F.slot_list_pop ⟨_,e,rfl⟩ F.entry_list_pop (F.args_list_pop_1 _) (MeetsSeq.list_pop_last l its.toArray n u hy' (by rw[List.size_toArray];omega)) ⟨e,?_⟩
 refine⟨y,_,I.lset (its':=its.dropLast) hH e ?_ r.dropLast ?_,ru,q⟩
 ·show its.toArray.eraseIdxIfInBounds (its.toArray.size-1)=its.dropLast.toArray
  rw[List.size_toArray,List.eraseIdxIfInBounds_toArray,M_6]
 ·rw[List.length_dropLast]
  omega
def bk3:R2:=λ x y H Q=>∃ l k xs,x=.ref l/\y=.int k/\H l=some (.lst xs)/\-(2 ^ 63)<=k/\k<2 ^ 63/\xs.length*k.toNat<=sizeLine /\
 ∀ p,H p=none->Q (.ref p) (upd H p (.lst (List.replicate k.toNat xs).flatten))
theorem ap6 {α:Type} (xs:List α) (k:Nat):(List.replicate k xs).flatten.length=k*xs.length:=by
 induction k with
 |zero=>simp
 |succ k ih=>rw[List.replicate_succ,List.flatten_cons,List.length_append,ih,Nat.succ_mul,Nat.add_comm]
theorem aD9:OpR X (binaryOp .Mult) bk3:=by
 intro pins s σ H x y v u Q I rx ry h;obtain⟨l,k,xs,rfl,rfl,hH,h1,h2,hz,q⟩:=h;cases rx;obtain⟨t,rfl⟩:=ry;obtain⟨z,its,n,r,hl,e⟩:=I.lstM hH;have hlen:its.toArray.size*k.toNat<=sizeLine:=by rw[List.size_toArray,<- hl];exact hz
 have hcap:¬ its.toArray.size*k.toNat > (2 ^ 63-1) / 8:=by
  have:(sizeLine:Nat)<=(2 ^ 63-1) / 8:=by decide
  omega
 have hfit:¬ (!Builtin.List.listFitsIndex k)=true:=by
  rw[fitsIndex_both h1 h2];exact qm
 have hlong:¬ Builtin.List.listTooLong (its.toArray.size*k.toNat)=true:=by
  rw[u_4 hlen];exact qm
 have hnew:List.foldl (λ x1 x2=>x1++x2) #[] (List.replicate (if its.toArray.isEmpty=true then 0 else k.toNat) its.toArray)=(List.replicate k.toNat its).flatten.toArray:=by
  have f0:∀ m:Nat,List.foldl (λ x1 x2=>x1++x2) #[] (List.replicate m its.toArray)=(List.replicate m its).flatten.toArray:=λ m=>by
   have:=y_7 its m [];rw[List.nil_append] at this;exact this
  rw[f0];cases its with
  |nil=>simp
  |cons a r'=>rw[if_neg (by simp)]
 refine wpAny_binaryOp_repeat_ref (T:="list") (U:="int") (by decide) ⟨_,e,rfl⟩ (λ s'=>typeIs_int s' k t) noFill_list_mul F.fills_int_mul F.slot_int_rmul repeat_list F.slot_int_index.lookup
  (call_meets F.slot_int_rmul (typeIs_int s k t) F.entry_int_rmul (F.args_int_rmul_2 _ _) (int___rmul___int_list k t l its.toArray n)
   ⟨e,rfl,⟨_,e,rfl⟩,call_meets F.slot_list_mul ⟨_,e,rfl⟩ F.entry_list_mul (F.args_list_mul_2 _ _) (AutoListH.list___mul___list_int_3 l its.toArray n k t hfit hcap hlong) ⟨e,?_⟩⟩)
 rw[hnew];exact⟨.ref _,_,I.lnew (t':=s.toks) (r.rep k.toNat) (by rw[ap6,Nat.mul_comm];exact hz),rfl,q _ I.fresh⟩
end
end L2
namespace Att
open PySem PySem.W PySem.Calls PyProof.Rows
theorem p_5 {P:Params}{h:Heap}:∀ (ns:List Int) (vs:List Value),WellAll P h vs (ns.map WData.int)->IntsAre vs ns:=by
 intro ns
 induction ns with
 |nil =>
  intro vs w;rw[List.map_nil] at w;cases w;exact .nil
 |cons n ns ih =>
  intro vs w;rw[List.map_cons] at w;cases w with
  |cons a b =>
   cases a;exact .cons _ _ (ih _ b)
theorem P_8 {l:OpenLaw}{n:Nat} (hn:l.most=some n) {P:Params}{h:Heap}{args:List WData}{vals:List Value}
  (hpre:l.row.toRowW.claim.pre args=true) (hwl:WellAll P h vals args) :
  ∃ a vs ns,vals=[Value.ref a] ∧ args=[WData.list (ns.map WData.int)] ∧ h.get? a=some {cls:=.type "list",data:=.seq vs.toArray} ∧ IntsAre vs ns ∧ ns.length ≤ n:=by
 have hsh:WShape.hasAll [] args [.list .int]=true:=(pre_splitW hpre).1;have hc:l.pre.holds [] {args:=args}=true:=(pre_splitW hpre).2;obtain⟨d,r,rfl,h1,h2⟩:=hasAllW_cons hsh;obtain rfl:=hasAllW_nil h2;obtain⟨xs,rfl,h3⟩:=hasW_list h1;obtain⟨ns,rfl⟩:=items_int h3
 have hlen:ns.length<=n:=by
  unfold OpenLaw.pre at hc
  have h4:(WTm.not (.lt (.lit (.int (n:Int))) (.len (.arg 0)))).holds [] {args:=[.list (ns.map .int)]}=true:=by
   have h4:=(holds_andW hc).1;rw[hn] at h4;exact h4
  have h5:=condW_of h4 (w_not (w_lt w_lit (w_len_list (w_arg rfl))));rw[List.length_map] at h5;refine Nat.le_of_not_lt λ q=>?_
  have q':(n:Int)<((ns.length:Nat):Int):=by omega
  first
   |(rw[decide_eq_true q'] at h5;exact absurd h5 (by decide))
   |(simp at h5;omega)
 cases hwl with
 |cons w1 w2 =>
  cases w2;cases w1 with
  |list ho hall=>exact⟨_,_,ns,rfl,rfl,ho,p_5 ns _ hall,hlen⟩
theorem Q_5 (l:OpenLaw) (args:List WData):l.row.toRowW.claim.post args (.bool true) args=true :=
 postW_of (r:=l.row.toRowW) (X:=(true==true))
  (show WShape.has [] (.bool true) .bool=true by first | rfl | decide | simp[WShape.has,WShape.arms,WShape.armsAll])
  (show (WTm.eq .res (.lit (.bool true))).value [] {args:=args,res:=some (.bool true),after:=args}=some (.bool (true==true)) from w_eq_bool (w_res rfl) w_lit) rfl
theorem attach_call {l:OpenLaw}{n:Nat}{q:Program}{loose:List Str}{XP:(Str->Option Value)->Heap->Prop}{YP:World->Heap->Prop}{d:DefRec}
  (hn:l.most=some n) (hdf:d.params.defaults=[])
  (call:∀ (w:World) (s₀ s₁:Shared) (mg mb:Str->Option Value) (fa:Addr) (o:Obj) (pm cd doc:Value) (a:Addr) (vs:List Value) (ns:List Int),
   Ground q loose [] XP w s₀ mg mb s₁.heap->YP w s₁.heap ->
   s₁.heap.get? fa=some o->o.data=.func (docDef d.name d.params d.body d.scope pm cd doc)->s₁.heap.CodeRec cd d.name->mg d.name=some (.ref fa) ->
   s₁.heap.get? a=some {cls:=.type "list",data:=.seq vs.toArray} → IntsAre vs ns → ns.length ≤ n → s₁.gens=#[] →
   codeAny (model l.prog w) callerA (.call (.ref fa) ⟨[.ref a],[]⟩) (λ r s'=>r=.ok (.ret (.bool true))/\OldK s₁.heap s'.heap/\s'.os=s₁.os/\AllBare s'.gens) s₁) :
  WalkO q loose XP YP l.row.toRowW d [] (λ f vs=>PySem.call f vs):=by
 intro w s₀ s₁ mg mb G Y fa o pm cd doc dV kV ho hd hcd hD hmg hg args vals as hpre hlay hrd hwl hlo;obtain rfl:dV=.none:=Dflts.none hD hdf;obtain rfl:kV=.none:=Dflts.noKw hD;obtain⟨a,vs,ns,rfl,rfl,hobj,hints,hlen⟩:=P_8 hn hpre hwl;refine enter_call (codeAny_mono (call w s₀ s₁ mg mb fa o pm cd doc a vs ns G Y ho (fd_plain hd) hcd hmg hobj hints hlen hg) λ r s' hq=>?_)
 obtain⟨rfl,h2,h3,h4⟩:=hq;exact⟨.inl ⟨.bool true,.bool true,[],rfl,λ _=>rfl,.bool true,Q_5 l _,λ _=>⟨List.Pairwise.nil,λ _ hm=>(nomatch hm)⟩⟩,h2,h3,h4⟩
end Att
namespace L2
open PySem PySem.Spec PyProof.Rows
theorem vals_ints:∀ {vs:List Value}{ns:List Int},IntsAre vs ns->Vals (ns.map V.int) vs
 |_,_,.nil=>.nil
 |_,_,.cons n t h=>.cons ⟨t,rfl⟩ (vals_ints h)
def aZ3 (H:Hp):Prop:=∀ b,H b=none\/∃ o xs,H b=some (.frz o (.lst xs))
theorem ac3 {P:Program}{w:World}{K:Frag}{mg mb:Str->Option Value}{CX:CXT}{k:Nat}{fa a:Addr}{fd:FuncData}{x:Str}{sp:Sp}{s₁:Shared}{vs:List Value}{ns:List Int}
  (KX:K.In s₁.heap) (hns:s₁.heap.Ns mainGlobals mg) (hb:s₁.heap.Ns builtinsNs mb) (hbb:∀ x:Str,x≠"__name__" → mb x=bootBuiltins x) (hlim:s₁.heap.NoLimit) (hg:s₁.gens=#[])
  (ha:s₁.heap.get? a=some {cls:=.type "list",data:=.seq vs.toArray}) (hi:IntsAre vs ns) (hl:ns.length ≤ sizeLine) (hr:Room k callerA)
  (F:∀ base:Heap,K.In base->base.Ns mainGlobals mg->FnOk P w K mg base CX k fa fd [x] sp) (hbind:∀ (s:Shared) (u:Value),BindsTo s fd ⟨[u],[]⟩ [(x,u)])
  (hsp:∀ H:Hp,aZ3 H->SqL K H a (ns.map V.int)->sp [.ref a] H (λ v _=>v=.bl true) λ _ _ _=>False)
  (hCX:∀ H e s',CX [] H s₁ (λ _ _ _=>False) e s'->False) :
  codeAny (model P w) callerA (.call (.ref fa) ⟨[.ref a],[]⟩) (λ r s'=>r=.ok (.ret (.bool true))/\OldK s₁.heap s'.heap/\s'.os=s₁.os/\AllBare s'.gens) s₁:=by
 have rv:=vals_ints hi;have lenV:=hi.length;have core:∀ H:Hp,aZ3 H->SqL K H a (ns.map V.int)->HOk P w H s₁.heap->(∀ b,H b≠none->b=a)->(H a≠none->K.lookup a=none) ->
   codeAny (model P w) callerA (.call (.ref fa) ⟨[.ref a],[]⟩) (λ r s'=>r=.ok (.ret (.bool true))/\OldK s₁.heap s'.heap/\s'.os=s₁.os/\AllBare s'.gens) s₁:=by
  intro H hO hS hok hA hK;have base_of:∀ {b:Addr}{o:Obj},s₁.heap.get? b=some o->H b=none->(ad1 s₁.heap H).get? b=some o:=λ e n=>ad0 e n
  have noA:∀ {b:Addr}{o:Obj}{es:Array DictEntry}{ep:Nat},s₁.heap.get? b=some o->o.data=.dict es ep->H b=none:=λ {b o es ep} e d=>by
   cases q:H b with
   |none=>rfl
   |some u =>
    have e':b=a:=hA b (by rw[q];simp)
    subst e';rw[ha] at e;cases e;have d':Data.seq vs.toArray _=Data.dict es ep:=d;cases d'
  have nsK:∀ {b:Addr}{m:Str->Option Value},s₁.heap.Ns b m->(ad1 s₁.heap H).Ns b m:=λ {b m} ⟨o,es,ep,e,d,r⟩=>⟨o,es,ep,base_of e (noA e d),d,r⟩
  have hKb:K.In (ad1 s₁.heap H):=λ b o e=>base_of (KX b o e) (by
   cases q:H b with
   |none=>rfl
   |some u =>
    have e':b=a:=hA b (by rw[q];simp)
    subst e';rw[hK (by rw[q];simp)] at e;cases e)
  have hM:Mod K mg (ad1 s₁.heap H):=⟨hKb,nsK hns,⟨mb,nsK hb,hbb⟩,let ⟨mc,h1,h2⟩:=hlim;⟨mc,nsK h1,h2⟩⟩;have e0:Env0 P w K mg (ad1 s₁.heap H) callerA [] s₁ H:=⟨rfl,hM,λ b o e=>ao8 e,Nat.le_of_eq (T_9 _ _),trivial,λ b hb=>absurd (show b∈([]:List Addr) from hb) (by simp),hok,.of_eq hg⟩
  refine codeAny_mono ((F _ hKb (nsK hns)).run callerA [] s₁ H ⟨[.ref a],[]⟩ [.ref a] [.ref a] _ _ hr e0 (hbind s₁ (.ref a)) (.cons rfl .nil) (hsp H hO hS)) λ r s' h=>?_
  cases r with
  |error e=>exact (hCX H e s' h).elim
  |ok fl =>
   cases fl with
   |next=>exact False.elim h
   |brk=>exact False.elim h
   |cont=>exact False.elim h
   |ret u =>
    obtain⟨v,H',os,bare,un,hok',r',q⟩:=h;have q':v=.bl true:=q;subst q';obtain rfl:u=Value.bool true:=r';refine⟨rfl,OldK.of_keep λ b o e=>?_,os,bare⟩
    cases q:H b with
    |none=>exact un.keep b o e q (by intro z;exact absurd (show b∈([]:List Addr) from z) (by simp)) (by simp)
    |some u =>
     rcases hO b with z | ⟨ob,xs,z⟩
     ·rw[q] at z;cases z
     ·have z2:=un.frzs b ob _ z
      obtain⟨e1,_⟩:=hok b _ z;obtain⟨e2,_⟩:=hok' b _ z2;rw[e] at e1;cases e1;exact e2
 cases hk:K.lookup a with
 |some o =>
  have e:=KX a o hk;rw[ha] at e;cases e;refine core (λ _=>none) (λ _=>.inl rfl) (.inr ⟨_,vs.toArray,_,hk,rfl,rfl,rfl,by rw[List.size_toArray,lenV];exact hl,by simpa using rv⟩) (λ b u z=>by have z':(none:Option HO)=some u:=z;cases z') (λ b z=>absurd rfl z) λ z=>absurd rfl z
 |none =>
  refine core (λ b=>if b=a then some (.frz {cls:=.type "list",data:=.seq vs.toArray} (.lst (ns.map V.int))) else none) (λ b=>?_) (.inl (.inr ⟨{cls:=.type "list",data:=.seq vs.toArray},if_pos rfl⟩)) (λ b u z=>?_) (λ b z=>?_) λ _=>hk
  ·by_cases hb:b=a
   ·exact .inr ⟨_,_,if_pos hb⟩
   ·exact .inl (if_neg hb)
  ·by_cases hb:b=a
   ·have z':=(if_pos hb).symm.trans z
    cases z';subst hb;exact⟨ha,by rw[List.length_map];exact hl,vs,_,rv,ha⟩
   ·have z':=(if_neg hb).symm.trans z
    cases z'
  ·by_cases hb:b=a
   ·exact hb
   ·exact absurd (if_neg hb) z
theorem walk_of {l:OpenLaw}{n k:Nat}{q:Program}{loose:List Str}{XP:(Str->Option Value)->Heap->Prop}{YP:World->Heap->Prop}{d:DefRec}{K:Params->Frag}{CX:World->CXT}{sp:World->Sp}{x:Str}
  (hn:l.most=some n) (hn2:n<=sizeLine) (hdf:d.params.defaults=[]) (hr:Room k callerA)
  (hY:∀ (w:World) (h:Heap),YP w h->(K w.params).In h)
  (F:∀ (w:World) (mg:Str->Option Value) (fa:Addr) (h:Heap),(K w.params).In h->h.Ns mainGlobals mg->mg d.name=some (.ref fa) ->
   ∃ fd:FuncData,(∀ (s:Shared) (u:Value),BindsTo s fd ⟨[u],[]⟩ [(x,u)]) /\
    ∀ base:Heap,(K w.params).In base->base.Ns mainGlobals mg->FnOk l.prog w (K w.params) mg base (CX w) k fa fd [x] (sp w))
  (hsp:∀ (w:World) (H:Hp) (a:Addr) (ns:List Int),ns.length<=n->aZ3 H->SqL (K w.params) H a (ns.map V.int)->sp w [.ref a] H (λ v _=>v=.bl true) λ _ _ _=>False)
  (hCX:∀ (w:World) (H:Hp) (s:Shared) (e:Value) (s':Shared),CX w [] H s (λ _ _ _=>False) e s'->False) :
  PySem.W.WalkO q loose XP YP l.row.toRowW d [] (λ f vs=>PySem.call f vs):=by
 refine Att.attach_call hn hdf λ w s₀ s₁ mg mb fa o pm cd doc a vs ns G Y ho hd hcd hmg hobj hints hlen hg=>?_
 have KX:=hY w _ Y;obtain⟨fd,hb,hF⟩:=F w mg fa _ KX G.T.g hmg;exact ac3 KX G.T.g G.T.b G.T.builtins G.T.nolimit hg hobj hints (Nat.le_trans hlen hn2) hr hF hb (λ H hO hS=>hsp w H a ns hlen hO hS) λ H e s'=>hCX w H s₁ e s'
def k_4 (s:Stmt):Arguments:=match s with
 |.FunctionDef _ a _ _ _ _ _ _ _ _=>a
 |_=>{posonlyargs:=[],args:=[],vararg:=none,kwonlyargs:=[],kw_defaults:=[],kwarg:=none,defaults:=[]}
def e_3 (s:Stmt):List Stmt:=match s with
 |.FunctionDef _ _ b _ _ _ _ _ _ _=>b
 |_=>[]
def a_1 (s:Stmt):Scope:=match s with
 |.FunctionDef _ _ _ _ _ _ sc _ _ _=>sc
 |_=>{kind:=.function,names:=[],isGenerator:=false,isCoroutine:=false}
abbrev CX0:CXT:=λ _ _ _ _ _ _=>False
abbrev E0:XK:=λ _ _ _=>False
theorem ao2 {X:Cx}:A_5 CX0 X E0:=λ _ _ _ _ _ _ _ h=>h.elim
structure Fun (K:Frag) (x qual:Str) (st:Stmt) (f:Addr) (fd:FuncData):Prop where
 ex:∃ (oc:Value) (od:Option Addr) (kV doc pm:Value) (an:Option Addr) (cdv ct:Value) (osl:Array (Option Value)),
  fd=fnOf x qual (k_4 st) (e_3 st) (a_1 st) .none kV doc pm an cdv ct/\K.lookup f=some ⟨oc,od,.func fd,osl⟩/\codeIn K cdv qual=true
 kp:keepIn K (.ref f)=true
section
variable {P:Program}{w:World}{K:Frag}{mg:Str->Option Value}{base:Heap}
theorem Fun.ok {x qual:Str}{st:Stmt}{f:Addr}{fd:FuncData}{N ps:List Str}{k:Nat}{sp:Sp} (F:Fun K x qual st f fd) (S:FnScope N ps (a_1 st)) (len:∀ vs H Q E,sp vs H Q E->vs.length=ps.length)
  (hbody:∀ (cdv:Value) (A:Around) (outer:List Env) (s:Shared) (H:Hp) (vs:List V) (Q:VK) (E:XK),Room k (A.deeper (envOfC qual (a_1 st) s.heap.objs.size f cdv))->sp vs H Q E ->
   ∃ t,PSs (w_0 CX0 P w K mg base N qual (a_1 st) f cdv A outer s H E).nox (e_3 st) t/\t {nx:=λ _ H'=>Q .non H',rt:=Q} (start N vs) H):FnOk P w K mg base CX0 (k+1) f fd ps sp:=by
 obtain⟨oc,od,kV,doc,pm,an,cdv,ct,osl,rfl,lk,hcd⟩:=F.ex;refine ar1 lk hcd S len λ A outer s H vs Q E hr hsp=>?_
 obtain⟨t,h,q⟩:=hbody cdv A outer s H vs Q E hr hsp;exact⟨t,h.nox,q⟩
theorem Fun.binds {x qual:Str}{st:Stmt}{f:Addr}{fd:FuncData}{ps:List Str} (F:Fun K x qual st f fd)
  (h:∀ (kV doc pm:Value) (an:Option Addr) (cdv ct:Value) (us:List Value),us.length=ps.length->bindArgs (fnOf x qual (k_4 st) (e_3 st) (a_1 st) .none kV doc pm an cdv ct) ⟨us,[]⟩=pure (ps.zip us)):Binds K fd ps []:=by
 obtain⟨oc,od,kV,doc,pm,an,cdv,ct,osl,rfl,lk,hcd⟩:=F.ex;exact .all (h kV doc pm an cdv ct)
theorem d_1 {x qual:Str}{st:Stmt}{f:Addr}{oc:Value}{od an:Option Addr}{osl:Array (Option Value)}{kV doc pm cdv ct:Value} (l:K.lookup f=some ⟨oc,od,.func (fnOf x qual (k_4 st) (e_3 st) (a_1 st) .none kV doc pm an cdv ct),osl⟩)
  (c:codeIn K cdv qual=true) (k:keepIn K (.ref f)=true):Fun K x qual st f (fnOf x qual (k_4 st) (e_3 st) (a_1 st) .none kV doc pm an cdv ct):=⟨⟨oc,od,kV,doc,pm,an,cdv,ct,osl,rfl,l,c⟩,k⟩
end
theorem M_3 {A:Around}{k:Nat} (hr:Room k A):A.units+1<cLine:=Nat.lt_of_le_of_lt (Nat.add_le_add_left (by decide:1<=64) _) hr.units
theorem o_2 {n:Nat} (h:n<=1000):n<sizeLine:=Nat.lt_of_le_of_lt h (by decide)
section
variable {X:Cx}
theorem pv (i:Nat) {x:Str}{pos:Pos} (hN:X.N[i]?=some x:=by rfl) (hv:Vis X.env.scope x:=by first | exact Or.inl rfl | exact Or.inr (Or.inl rfl) | exact Or.inr (Or.inr rfl)) (hd:(x==("__debug__":Str))=false:=by decide)
  (hcd:(x==("__classdict__":Str))=false:=by decide):PE X (.Name x pos) (ba4 i):=j_9 hN hv hd hcd
end
theorem bl9 {A B:Prop} (h:B):if false=true then A else B:=by
 rw[if_neg Bool.false_ne_true];exact h
theorem bl8 {A B:Prop} (h:A):if true=true then A else B:=by
 rw[if_pos rfl];exact h
def Same (H H':Hp):Prop:=∀ b o,H b=some o->H' b=some o
theorem Same.refl (H:Hp):Same H H:=λ _ _ h=>h
theorem Same.trans {H H1 H2:Hp} (a:Same H H1) (b:Same H1 H2):Same H H2:=λ c o h=>b c o (a c o h)
theorem Same.free {H H':Hp} (e:Same H H') {l:Addr} (h:H' l=Option.none):H l=Option.none:=by
 cases q:H l with
 |none=>rfl
 |some o =>
  rw[e l o q] at h;cases h
theorem Same.seq {K:Frag}{H H':Hp}{a:Addr}{xs:List V} (e:Same H H') (h:SqL K H a xs):SqL K H' a xs:=by
 rcases h with (h | ⟨o,h⟩) | h
 ·exact .inl (.inl (e _ _ h))
 ·exact .inl (.inr ⟨o,e _ _ h⟩)
 ·exact .inr h
section
variable {κ:Type} [DecidableEq κ]
def w_3 (kvs:List (κ×V)) (k:κ):Option V:=(kvs.find? λ kv=>decide (kv.1=k)).map (·.2)
def x_0 (kvs:List (κ×V)) (k:κ) (v:V):List (κ×V) :=
 if (kvs.any λ kv=>decide (kv.1=k))=true then kvs.map (λ kv=>if kv.1=k then (kv.1,v) else kv) else kvs++[(k,v)]
def aI7 (kvs:List (κ×V)) (k:κ):List (κ×V):=kvs.filter λ kv=>decide (kv.1≠k)
theorem n_6 {p:κ×V}{r:List (κ×V)}{k:κ} (e:p.1=k):w_3 (p::r) k=some p.2:=by simp[w_3,List.find?_cons,e]
theorem i_7 {p:κ×V}{r:List (κ×V)}{k:κ} (e:¬ p.1=k):w_3 (p::r) k=w_3 r k:=by simp[w_3,List.find?_cons,e]
theorem n_7 (k:κ):∀ kvs:List (κ×V),(kvs.any λ kv=>decide (kv.1=k))=(w_3 kvs k).isSome
 |[]=>rfl
 |p::r=>by
  rw[List.any_cons]
  by_cases e:p.1=k
  ·simp only[n_6 e,decide_eq_true e,Bool.true_or,Option.isSome_some]
  ·rw[i_7 e,decide_eq_false e,Bool.false_or];exact n_7 k r
theorem p_2 (kvs:List (κ×V)) (k:κ) (v:V):(x_0 kvs k v).length<=kvs.length+1:=by
 unfold x_0
 split
 ·rw[List.length_map];omega
 ·rw[List.length_append,List.length_cons,List.length_nil];omega
theorem aa2 {kvs:List (κ×V)}{k:κ} (v:V) (h:w_3 kvs k=none):x_0 kvs k v=kvs++[(k,v)]:=by
 unfold x_0;rw[n_7,h];exact if_neg (by decide)
theorem RelO.isSome_eq {o:Option V}{u:Option Value} (r:RelO o u):o.isSome=u.isSome:=by
 cases o with
 |none=>cases u with
  |none=>rfl
  |some _=>exact (show False from r).elim
 |some _=>cases u with
  |none=>exact (show False from r).elim
  |some _=>rfl
theorem RelO.getD {o:Option V}{u:Option Value}{d:V}{d':Value} (r:RelO o u) (rd:RelV d d'):RelV (o.getD d) (u.getD d'):=by
 cases o with
 |none=>cases u with
  |none=>exact rd
  |some _=>exact (show False from r).elim
 |some _=>cases u with
  |none=>exact (show False from r).elim
  |some _=>exact r
theorem KV.val {kvs:List (κ×V)}{vs:List (κ×Value)} (r:KV kvs vs) (k:κ):RelO (w_3 kvs k) (valueAt vs k):=by
 unfold KV at r
 induction r with
 |nil=>exact True.intro
 |@cons p q ps qs h t ih =>
  obtain⟨h1,h2⟩:=h
  by_cases e:p.1=k
  ·have e':q.1=k:=h1.symm.trans e
   have b:valueAt (q::qs) k=some q.2:=by simp[valueAt,List.find?_cons,e']
   rw[n_6 e,b];exact h2
  ·have e':¬ q.1=k:=λ z=>e (h1.trans z)
   have b:valueAt (q::qs) k=valueAt qs k:=by simp[valueAt,List.find?_cons,e']
   rw[i_7 e,b];exact ih
theorem KV.any {kvs:List (κ×V)}{vs:List (κ×Value)} (r:KV kvs vs) (k:κ):(kvs.any λ kv=>decide (kv.1=k))=vs.any λ kv=>decide (kv.1=k):=by
 unfold KV at r
 induction r with
 |nil=>rfl
 |cons h t ih=>rw[List.any_cons,List.any_cons,ih,h.1]
theorem KV.repl {kvs:List (κ×V)}{vs:List (κ×Value)} (r:KV kvs vs) (k:κ) {y:V}{u:Value} (ry:RelV y u) :
  KV (kvs.map λ kv=>if kv.1=k then (kv.1,y) else kv) (vs.map λ kv=>if kv.1=k then (kv.1,u) else kv):=by
 unfold KV at r ⊢
 induction r with
 |nil=>exact .nil
 |@cons p q ps qs h t ih =>
  rw[List.map_cons,List.map_cons];refine .cons ?_ ih;obtain⟨h1,h2⟩:=h
  by_cases e:p.1=k
  ·rw[if_pos e,if_pos (h1.symm.trans e)];exact⟨h1,ry⟩
  ·rw[if_neg e,if_neg (λ z=>e (h1.trans z))];exact⟨h1,h2⟩
theorem KV.put {kvs:List (κ×V)}{vs:List (κ×Value)} (r:KV kvs vs) (k:κ) {y:V}{u:Value} (ry:RelV y u):KV (x_0 kvs k y) (stored vs k u):=by
 unfold x_0 stored;rw[r.any k]
 by_cases e:(vs.any λ kv=>decide (kv.1=k))=true
 ·rw[if_pos e,if_pos e];exact r.repl k ry
 ·rw[if_neg e,if_neg e];exact Paired.snoc r ⟨rfl,ry⟩
theorem KV.drop {kvs:List (κ×V)}{vs:List (κ×Value)} (r:KV kvs vs) (k:κ):KV (aI7 kvs k) (without vs k):=by
 unfold KV at r ⊢;unfold aI7 without
 induction r with
 |nil=>exact .nil
 |@cons p q ps qs h t ih =>
  obtain⟨h1,h2⟩:=h;rw[List.filter_cons,List.filter_cons]
  by_cases e:p.1=k
  ·have a:¬ decide (p.1≠k)=true:=by simp[e]
   have b:¬ decide (q.1≠k)=true:=by simp[h1.symm.trans e]
   rw[if_neg a,if_neg b];exact ih
  ·have e':¬ q.1=k:=λ z=>e (h1.trans z)
   have a:decide (p.1≠k)=true:=by simp[e]
   have b:decide (q.1≠k)=true:=by simp[e']
   rw[if_pos a,if_pos b];exact .cons ⟨h1,h2⟩ ih
theorem KV.length {kvs:List (κ×V)}{vs:List (κ×Value)} (r:KV kvs vs):kvs.length=vs.length:=Paired.length r
end
theorem M_0 {P:Program}{w:World}{k:Key}{u:Value} (r:RelV (kV k) u):(c_1 P w).is k u=true:=by
 cases k with
 |inl i=>obtain⟨t,e⟩:=(show ∃ t,u=Value.int i t from r);subst e;exact C_8 P w i t
 |inr x=>obtain⟨t,e⟩:=(show ∃ t,u=Value.str x t from r);subst e;exact k_2 P w x t
theorem y_5 {P:Program}{w:World}:∀ {ks:List Key}{us:List Value},Vals (ks.map kV) us->ItemsAre (c_1 P w) ks us
 |[],_,r=>by rw[List.map_nil] at r;cases r;exact .nil
 |k::ks,_,r=>by
  rw[List.map_cons] at r;cases r with
  |cons h t=>exact .cons (M_0 h) (y_5 t)
abbrev KT (H:Hp):List (List Key×V)->List (List Key×Addr×Value)->Prop:=Paired λ p q=>p.1=q.1/\H q.2.1=some (.tup (p.1.map kV))/\RelV p.2 q.2.2
theorem KT.val {H:Hp}{kvs:List (List Key×V)}{xs:List (List Key×Addr×Value)} (r:KT H kvs xs) (k:List Key):RelO (w_3 kvs k) ((atKey xs k).map (·.2)):=by
 induction r with
 |nil=>exact True.intro
 |@cons p q ps qs h t ih =>
  obtain⟨h1,_,h2⟩:=h
  by_cases e:p.1=k
  ·have e':q.1=k:=h1.symm.trans e
   have b:atKey (q::qs) k=some q.2:=by simp[atKey,List.find?_cons,e']
   rw[n_6 e,b];exact h2
  ·have e':¬ q.1=k:=λ z=>e (h1.trans z)
   have b:atKey (q::qs) k=atKey qs k:=by simp[atKey,List.find?_cons,e']
   rw[i_7 e,b];exact ih
theorem KT.repl {H:Hp}{kvs:List (List Key×V)}{xs:List (List Key×Addr×Value)} (r:KT H kvs xs) (k:List Key) {y:V}{u:Value} (ry:RelV y u) :
  KT H (kvs.map λ kv=>if kv.1=k then (kv.1,y) else kv) (xs.map (putAt k u)):=by
 induction r with
 |nil=>exact .nil
 |@cons p q ps qs h t ih =>
  rw[List.map_cons,List.map_cons];refine .cons ?_ ih;obtain⟨h1,h2,h3⟩:=h;unfold putAt
  by_cases e:p.1=k
  ·rw[if_pos e,if_pos (h1.symm.trans e)];exact⟨h1,h2,ry⟩
  ·rw[if_neg e,if_neg (λ z=>e (h1.trans z))];exact⟨h1,h2,h3⟩
theorem KT.put {H:Hp}{kvs:List (List Key×V)}{xs:List (List Key×Addr×Value)} (r:KT H kvs xs) (k:List Key) {b:Addr}{y:V}{u:Value} (hb:H b=some (.tup (k.map kV))) (ry:RelV y u) :
  KT H (x_0 kvs k y) (storedH xs k b u):=by
 have e:(kvs.any λ kv=>decide (kv.1=k))=(atKey xs k).isSome:=by
  rw[n_7,(r.val k).isSome_eq,Option.isSome_map]
 unfold x_0 storedH;rw[e]
 by_cases q:(atKey xs k).isSome=true
 ·rw[if_pos q,if_pos q];exact r.repl k ry
 ·rw[if_neg q,if_neg q];exact Paired.snoc r ⟨rfl,hb,ry⟩
theorem KT.keeps {H H':Hp}{kvs:List (List Key×V)}{xs:List (List Key×Addr×Value)} (r:KT H kvs xs) (ht:∀ b ys,H b=some (.tup ys)->H' b=some (.tup ys)):KT H' kvs xs :=
 Paired.mapP r λ _ _ z=>⟨z.1,ht _ _ z.2.1,z.2.2⟩
section
variable {P:Program}{w:World}{H:Hp}{h:Heap}{a:Addr}
theorem aB5 {u:HO} (ok:HOk P w H h) (e:Rd H a u):ObjOk P w H h a u:=e.ok ok
theorem ae1 {kvs:List (Key×V)} (ok:HOk P w H h) (e:Rd H a (.dK kvs)):kvs.length<=sizeLine/\(a==sysModules)=false/\∃ vs,KV kvs vs/\h.DictOf (c_1 P w) a vs :=
 show ObjOk P w H h a (.dK kvs) from aB5 ok e
theorem aI8 {kvs:List (Key×V)} (ok:HOk P w H h) (e:H a=some (.dK kvs)):kvs.length<=sizeLine/\(a==sysModules)=false/\∃ vs,KV kvs vs/\h.DictOf (c_1 P w) a vs:=ae1 ok (.inl e)
theorem H_6 {ks:List Key} (ok:HOk P w H h) (e:H a=some (.tup (ks.map kV))):(tupleKind (c_1 P w)).is h ks a:=by
 obtain⟨_,its,r,o,h1,h2,⟨n,h3⟩,_⟩:=(show ObjOk P w H h a (.tup (ks.map kV)) from ok a _ e);exact⟨o,its.toArray,n,h1,h2,h3,by simpa using y_5 r⟩
theorem ad9 {kvs:List (List Key×V)} (ok:HOk P w H h) (e:Rd H a (.dT kvs)):kvs.length<=sizeLine/\(a==sysModules)=false /\
  ∃ xs,KT H kvs xs/\h.DictOfH (tupleKind (c_1 P w)) a xs:=by
 obtain⟨z,y,xs,r,o,es,ep,h1,h2,h3,h4,h5⟩:=(show ObjOk P w H h a (.dT kvs) from aB5 ok e);refine⟨z,y,xs,r,o,es,ep,h1,h2,h3,h4,λ x hx=>?_,h5⟩
 have all:∀ {l:List (List Key×V)}{m:List (List Key×Addr×Value)},KT H l m->∀ x∈m,(tupleKind (c_1 P w)).is h x.1 x.2.1:=by
  intro l m q
  induction q with
  |nil=>intro x hx;exact nomatch hx
  |@cons p q ps qs hq t ih =>
   intro x hx
   rcases qr hx with e | hx
   ·subst e
    exact H_6 ok (by rw[<- hq.1];exact hq.2.1)
   ·exact ih x hx
 exact all r x hx
theorem aX6 {kvs:List (List Key×V)} (ok:HOk P w H h) (e:H a=some (.dT kvs)):kvs.length<=sizeLine/\(a==sysModules)=false /\
  ∃ xs,KT H kvs xs/\h.DictOfH (tupleKind (c_1 P w)) a xs:=ad9 ok (.inl e)
end
def DGet (H:Hp) (a:Addr) (y:V) (r:Option V):Prop :=
 (∃ kvs k,Rd H a (.dK kvs)/\y=kV k/\r=w_3 kvs k)\/∃ kvs k b,Rd H a (.dT kvs)/\y=.ref b/\H b=some (.tup (k.map kV))/\r=w_3 kvs k
def DPut (H:Hp) (a:Addr) (y v:V) (H':Hp):Prop :=
 (∃ kvs k,H a=some (.dK kvs)/\y=kV k/\kvs.length<sizeLine/\H'=upd H a (.dK (x_0 kvs k v))) \/
 ∃ kvs k b,H a=some (.dT kvs)/\y=.ref b/\H b=some (.tup (k.map kV))/\kvs.length<sizeLine/\H'=upd H a (.dT (x_0 kvs k v))
theorem DGet.k {H:Hp}{a:Addr}{kvs:List (Key×V)}{k:Key} (e:H a=some (.dK kvs)):DGet H a (kV k) (w_3 kvs k):=.inl ⟨kvs,k,.inl e,rfl,rfl⟩
theorem DGet.t {H:Hp}{a b:Addr}{kvs:List (List Key×V)}{k:List Key} (e:H a=some (.dT kvs)) (eb:H b=some (.tup (k.map kV))):DGet H a (.ref b) (w_3 kvs k):=.inr ⟨kvs,k,b,.inl e,rfl,eb,rfl⟩
theorem DPut.k {H:Hp}{a:Addr}{kvs:List (Key×V)}{k:Key}{v:V} (e:H a=some (.dK kvs)) (hl:kvs.length<sizeLine):DPut H a (kV k) v (upd H a (.dK (x_0 kvs k v))):=.inl ⟨kvs,k,e,rfl,hl,rfl⟩
theorem DPut.t {H:Hp}{a b:Addr}{kvs:List (List Key×V)}{k:List Key}{v:V} (e:H a=some (.dT kvs)) (eb:H b=some (.tup (k.map kV))) (hl:kvs.length<sizeLine) :
  DPut H a (.ref b) v (upd H a (.dT (x_0 kvs k v))):=.inr ⟨kvs,k,b,e,rfl,eb,hl,rfl⟩
section
variable {X:Cx}{pins:List (Addr×Obj)}{σ:St}{H:Hp}{s:Shared}{a:Addr}{y v:V}{u r:Value}{o:Option V}{A:Around}{E:Value->Shared->Prop}
theorem Inv.big (I:Inv X pins σ H s):sysModules<s.heap.objs.size:=by
 have h:mainGlobals<s.heap.objs.size:=(I.mod.glob.keeps I.bk).lt;exact Nat.lt_trans (by decide) h
theorem V_8 {Q:Value->Shared->Prop} (hu:A.units+1<cLine) (I:Inv X pins σ H s) (g:DGet H a y (some v)) (ry:RelV y u) (h:∀ w' s',Inv X pins σ H s'->RelV v w'->Q w' s') :
  wpAny (model X.prog X.w) A (getItem (.ref a) u) Q E s:=by
 rcases g with ⟨kvs,k,e,ey,l⟩ | ⟨kvs,k,b,e,ey,eb,l⟩
 ·subst ey
  obtain⟨z,hd,vs,rel,dd⟩:=ae1 I.hok e;obtain⟨w',hw,rw'⟩:=RelO.some_of (v:=v) (o:=valueAt vs k) (by rw[l];exact rel.val k)
  exact wpAny_getItem_of (M_0 ry) dd.mapOf hw (h w' _ (I.tok _) rw')
 ·subst ey
  cases (show u=Value.ref b from ry);obtain⟨z,hd,xs,rel,dd⟩:=ad9 I.hok e;obtain⟨w',hw,rw'⟩:=RelO.some_of (v:=v) (o:=(atKey xs k).map (·.2)) (by rw[l];exact rel.val k)
  obtain⟨p,hp,hp2⟩:=Option.map_eq_some_iff.mp hw;refine wpAny_getItem_heap (tupleKind_room_in1 hu) (H_6 I.hok eb) dd hp ?_;rw[hp2];exact h w' _ (I.tok _) rw'
theorem bn2 {Q:Value->Shared->Prop} (hu:A.units+1<cLine) (I:Inv X pins σ H s) (g:DGet H a y o) (ry:RelV y u) (h:∀ s',Inv X pins σ H s'->Q (.bool o.isSome) s') :
  wpAny (model X.prog X.w) A (compareOp .In u (.ref a)) Q E s:=by
 rcases g with ⟨kvs,k,e,ey,l⟩ | ⟨kvs,k,b,e,ey,eb,l⟩
 ·subst ey
  obtain⟨z,hd,vs,rel,dd⟩:=ae1 I.hok e;refine wpAny_in_of (M_0 ry) hd dd.mapOf ?_;rw[<- (rel.val k).isSome_eq,<- l];exact h _ (I.tok _)
 ·subst ey
  cases (show u=Value.ref b from ry);obtain⟨z,hd,xs,rel,dd⟩:=ad9 I.hok e;refine wpAny_in_heap (tupleKind_room_in1 hu) (H_6 I.hok eb) hd dd ?_;have q:=(rel.val k).isSome_eq;rw[Option.isSome_map] at q;rw[<- q,<- l];exact h _ (I.tok _)
theorem V_6 {h':Heap}{t':Nat}{ob:HO} (I:Inv X pins σ H s) (mu:Mut (H a)) (hs:Heap.SameBut a s.heap h') (he:∃ q,h'.get? a=some q) (new:ObjOk X.prog X.w (upd H a ob) h' a ob) :
  Inv X pins σ (upd H a ob) {s with heap:=h',toks:=t'} :=
 I.write (x:=a) (e:=a) mu (.inl rfl) (λ b q hb z=>(hs.2 b hb).trans z) he new
theorem aI9 {P:Program}{w:World}{H':Hp}{h':Heap}{kvs:List (Key×V)}{vs:List (Key×Value)} (z:kvs.length<=sizeLine) (hd:(a==sysModules)=false) (rel:KV kvs vs) (dd:h'.DictOf (c_1 P w) a vs) :
  ObjOk P w H' h' a (.dK kvs):=⟨z,hd,vs,rel,dd⟩
theorem V_7 {H':Hp}{Q:Unit->Shared->Prop} (hu:A.units+1<cLine) (I:Inv X pins σ H s) (g:DPut H a y v H') (ry:RelV y u) (rv:RelV v r) (h:∀ s',Inv X pins σ H' s'->Q () s') :
  wpAny (model X.prog X.w) A (setItem (.ref a) u r) Q E s:=by
 rcases g with ⟨kvs,k,e,ey,l,eH⟩ | ⟨kvs,k,b,e,ey,eb,l,eH⟩
 ·subst ey eH
  obtain⟨z,hd,vs,rel,dd⟩:=aI8 I.hok e;have hz:vs.length<=sizeLine:=by rw[<- rel.length];exact z
  have hl:(x_0 kvs k v).length<=sizeLine:=by have:=p_2 kvs k v;omega
  refine wpAny_setItem_pairs (hsz:=hz) (M_0 ry) dd λ h' dd' hs=>h _ ?_
  have he:∃ q,h'.get? a=some q:=let ⟨q,_,_,hq,_⟩:=dd';⟨q,hq⟩;exact V_6 I (by rw[e];exact True.intro) hs he (aI9 hl hd (rel.put k rv) dd')
 ·subst ey eH
  cases (show u=Value.ref b from ry);obtain⟨z,hd,xs,rel,dd⟩:=aX6 I.hok e;have hz:xs.length<=sizeLine:=by rw[<- Paired.length rel];exact z
  have hl:(x_0 kvs k v).length<=sizeLine:=by have:=p_2 kvs k v;omega
  refine wpAny_setItem_heap (hsz:=hz) (tupleKind_room_in1 hu) (H_6 I.hok eb) dd λ h' dd' hs=>h _ ?_
  obtain⟨q,es,ep,hq,h2,h3,h4,_,h5⟩:=dd';refine V_6 I (by rw[e];exact True.intro) hs ⟨q,hq⟩ ⟨hl,hd,_,(rel.put k eb rv).keeps λ c ys ec=>?_,q,es,ep,hq,h2,h3,h4,h5⟩
  rw[a_3 (aU9 ec e (λ z=>nomatch z))]
  exact ec
end
def aO5 (i:Expr):Prop:=∀ ov iv,subscripted i false ov iv=operate [ov,iv] (getItem ov iv)
theorem P_3 {prog:Program}{w:World}{A:Around}{E:Value->Shared->Prop}{s:Shared}{env:Env}{value slice:Expr}{pos:Pos}{T id:String}{Q:Value->Shared->Prop}
  (hl:typeLookup (.type T) "__getitem__"=pure (some (.builtin id))) (hs:aO5 slice)
  (h:wpAny (model prog w) A (eval value env) (λ o s₁=>wpAny (model prog w) A (eval slice env) (λ i s₂=>s₂.TypeIs o T/\wpAny (model prog w) A (getItem o i) Q E s₂) E s₁) E s) :
  wpAny (model prog w) A (eval (.Subscript value slice pos) env) Q E s:=by
 refine Subscript_ (wpAny_mono h (λ o s₁ h₁=>wpAny_mono h₁ (λ i s₂ h₂=>?_) λ _ _ x=>x) λ _ _ x=>x)
 obtain⟨hT,h₂⟩:=h₂;unfold subscriptTail;refine qb ?_;rw[getitemInPython_of_ne hT.not_modules];refine qb (wpAny_specialOf hT hl ?_)
 have fin:wpAny (model prog w) A (subscripted slice false o i) (λ r s₃=>wpAny (model prog w) A (letTemporaryGo value o r >>= λ _=>pure r) Q E s₃) E s₂:=by
  rw[hs o i];exact wpAny_operating (wpAny_mono h₂ (λ r s₃ h₃=>qb (wpAny_letTemporaryGo (qc h₃))) λ _ _ x=>x)
 first
  |exact qc (qb fin)
  |exact qb (qc (qb fin))
  |exact qb fin
theorem D_3 {X:Cx}{pins:List (Addr×Obj)}{σ:St}{H:Hp}{s:Shared}{a:Addr}{y:V}{o:Option V} (I:Inv X pins σ H s) (g:DGet H a y o):s.TypeIs (.ref a) "dict":=by
 rcases g with ⟨kvs,k,e,_,_⟩ | ⟨kvs,k,b,e,_,_,_⟩
 ·obtain⟨_,_,vs,_,dd⟩:=ae1 I.hok e
  exact dd.typeIs
 ·obtain⟨_,_,xs,_,dd⟩:=ad9 I.hok e
  exact dd.typeIs
def aQ0 (td ty:TE):TE:=λ σ H Q=>td σ H λ x H1=>ty σ H1 λ y H2=>∃ a v,x=.ref a/\DGet H2 a y (some v)/\Q v H2
def aR8 (td ty tv:TE):TS:=λ D σ H=>tv σ H λ v H1=>td σ H1 λ x H2=>ty σ H2 λ y H3=>∃ a H4,x=.ref a/\DPut H3 a y v H4/\D.nx σ H4
section
variable {X:Cx}{o i e value:Expr}{pos pos' tpos:Pos}{td ty tv:TE}
theorem an7 (hu:X.A.units+1<cLine) (ho:PE X o td) (hi:PE X i ty) (hs:aO5 i):PE X (.Subscript o i pos) (aQ0 td ty):=by
 intro pins s σ H Q I h;refine P_3 PySem.F.slot_dict_getitem.lookup hs (thn (ho pins s σ H _ I h) λ u s1 ⟨x,H1,I1,rx,q1⟩=>thn (hi pins s1 σ H1 _ I1 q1) λ iv s2 hh0_=>?_)
 obtain⟨y,H2,I2,ry,a,v,ex,g,q2⟩:=hh0_;subst ex;obtain rfl:u=Value.ref a:=rx;exact⟨D_3 I2 g,V_8 hu I2 g ry λ w' s3 I3 rw'=>⟨v,H2,I3,rw',q2⟩⟩
theorem an3 (hu:X.A.units+1<cLine) (ho:PE X o td) (hi:PE X i ty) (hv:PE X value tv) (hs:swapsWith value (some (.Subscript o i pos')) pos.line X.env=pure false) :
  PS X (.Assign [.Subscript o i pos'] value pos) (aR8 td ty tv):=by
 intro pins s σ H D I h;refine wpAny_Assign_Subscript (thn (hv pins s σ H _ I h) λ r s1 ⟨v,H1,I1,rv,q1⟩=>thn (ho pins s1 σ H1 _ I1 q1) λ u s2 ⟨x,H2,I2,rx,q2⟩=>thn (hi pins s2 σ H2 _ I2 q2) λ iv s3 hh0_=>?_) hs
 obtain⟨y,H3,I3,ry,a,H4,ex,g,q3⟩:=hh0_;subst ex;obtain rfl:u=Value.ref a:=rx;exact V_7 hu I3 g ry rv λ s4 I4=>⟨σ,H4,I4,q3⟩
end
theorem ae2 {P:Program}{w:World}{H:Hp} (h:Heap) (hb:sysModules<h.objs.size):ObjOk P w H (h.push {cls:=.type "dict",data:=.dict #[]}) h.objs.size (.dK []) :=
 ⟨Nat.zero_le _,beq_eq_false_iff_ne.mpr (Ne.symm (qp hb)),[],.nil,Heap.DictOf.new h⟩
def az4:TE:=λ _ H Q=>∀ p,H p=none->Q (.ref p) (upd H p (.dK []))
section
variable {X:Cx}{pos:Pos}
theorem ab1:PE X (.Dict [] [] pos) az4:=λ pins s σ H Q I h =>
 wpAny_Dict_empty ⟨.ref s.heap.objs.size,_,I.laid (a:=s.heap.objs.size) (o:=.dK []) (t':=s.toks) (λ _ _ q=>qd _ q) (qi _) (ae2 s.heap I.big),rfl,h _ (I.hok.fresh (qi _))⟩
end
structure M1 (X:Cx) (o:Expr) (m:Str) (apos:Pos) (e:Expr) (cpos:Pos):Prop where
 base:attributeBase o m X.env (eval o X.env)=eval o X.env
 few:((backTo cpos (starEach [e] X.env)).all (λ x=>!x.1)&&(backToKw cpos (keywordEach [] X.env)).all (λ x=>x.1.isSome)
  && decide (([e]:List Expr).length+([]:List Keyword).length+(if ([]:List Keyword).isEmpty then 0 else 1)<30))=true
 line:(apos.endLine==cpos.line)=true
 trees:backTo cpos (starEach [e] X.env)=[(false,eval e X.env)]
structure M2 (X:Cx) (o:Expr) (m:Str) (apos:Pos) (e f:Expr) (cpos:Pos):Prop where
 base:attributeBase o m X.env (eval o X.env)=eval o X.env
 few:((backTo cpos (starEach [e,f] X.env)).all (λ x=>!x.1)&&(backToKw cpos (keywordEach [] X.env)).all (λ x=>x.1.isSome)
  && decide (([e,f]:List Expr).length+([]:List Keyword).length+(if ([]:List Keyword).isEmpty then 0 else 1)<30))=true
 line:(apos.endLine==cpos.line)=true
 trees:backTo cpos (starEach [e,f] X.env)=[(false,eval e X.env),(false,eval f X.env)]
end L2
namespace Att
open PySem PySem.W PySem.Calls PyProof.Rows
end Att
namespace L2
open PySem PySem.Spec PyProof.Rows
theorem n_4 {a b:Addr}{n:Nat} (h:a<n) (h':n<=b):a≠b:=qp (qo h h')
theorem ah8 {a b:Addr}{n:Nat} (h:a<n) (h':n<=b):b≠a:=(n_4 h h').symm
def z_2 (cells:List (Str×Addr)):List (Str×NameKind)->List (Str×Addr)->List (Str×Addr)
 |[],acc=>acc
 |(n,k)::r,acc=>z_2 cells r (if (k==NameKind.free)=true then (n,(cells.lookup n).getD 0)::acc else acc)
theorem m_2 {env:Env}:∀ (l:List (Str×NameKind)) (acc:List (Str×Addr)),(∀ y∈l,y.2=.free->∃ c,env.cells.lookup y.1=some c) ->
  (forIn l acc λ (y:Str×NameKind) (cs:List (Str×Addr))=>(match y with
   |(name,kind)=>if (kind==NameKind.free)=true then do let c <- cellOf env name;pure (ForInStep.yield ((name,c)::cs)) else pure (ForInStep.yield cs):Sem _))=pure (z_2 env.cells l acc)
 |[],acc,_=>rfl
 |(n,k)::r,acc,h=>by
  rw[List.forIn_cons];unfold z_2
  by_cases e:(k==NameKind.free)=true
  ·have e':k=NameKind.free:=by simpa using e
   obtain⟨c,hc⟩:=h (n,k) qf e';simp only[e,if_true,cellOf,hc,pure_bind,Option.getD_some];exact m_2 r _ λ y hy=>h y (qg _ hy)
  ·simp only[e,if_false,pure_bind]
   exact m_2 r _ λ y hy=>h y (qg _ hy)
theorem m_3 {sc:Scope}{env:Env} (h:∀ y∈sc.names,y.2=.free->∃ c,env.cells.lookup y.1=some c):closureFor sc env=pure (z_2 env.cells sc.names []):=by
 have e:=m_2 (env:=env) sc.names [] h;simp only[closureFor];exact (bind_pure _).trans e
theorem v_6 {cells:List (Str×Addr)}{y:Str}{c:Addr}:∀ (l:List (Str×NameKind)) (acc:List (Str×Addr)),(∀ y∈l,y.2=.free->∃ c,cells.lookup y.1=some c) ->
  (z_2 cells l acc).lookup y=some c->cells.lookup y=some c\/acc.lookup y=some c
 |[],acc,_,e=>.inr e
 |(n,k)::r,acc,h,e=>by
  unfold z_2 at e;have hr:∀ y∈r,y.2=.free->∃ c,cells.lookup y.1=some c:=λ y hy=>h y (qg _ hy)
  rcases v_6 r _ hr e with q | q
  ·exact .inl q
  ·by_cases z:(k==NameKind.free)=true
   ·rw[if_pos z] at q
    rw[List.lookup_cons] at q;cases hb:y==n with
    |true =>
     rw[hb] at q;obtain⟨c',hc'⟩:=h (n,k) qf (by simpa using z)
     have hc'':cells.lookup n=some c':=hc';rw[hc''] at q;have e1:y=n:=by simpa using hb
     have q':c'=c:=qh q;exact .inl (by rw[e1,hc'',q'])
    |false =>
     rw[hb] at q;exact .inr q
   ·rw[if_neg z] at q
    exact .inr q
theorem l_4 {cells:List (Str×Addr)}{y:Str}:∀ (l:List (Str×NameKind)) (acc:List (Str×Addr)),((y,NameKind.free)∈l\/∃ c,acc.lookup y=some c)->∃ c,(z_2 cells l acc).lookup y=some c
 |[],acc,h=>by
  rcases h with h | h
  ·cases h
  ·exact h
 |(n,k)::r,acc,h=>by
  unfold z_2
  have grow:∀ v:Addr,(∃ c,acc.lookup y=some c)->∃ c,((n,v)::acc).lookup y=some c:=λ v hh0_=>by
   obtain⟨c,hc⟩:=hh0_;rw[List.lookup_cons];cases y==n with
   |true=>exact⟨v,rfl⟩
   |false=>exact⟨c,hc⟩
  rcases h with h | h
  ·rcases qr h with e | h
   ·have e1:y=n:=congrArg Prod.fst e
    have e2:NameKind.free=k:=congrArg Prod.snd e;subst e1 e2;refine l_4 r _ (.inr ?_);rw[if_pos (by rfl)]
    refine⟨(cells.lookup y).getD 0,?_⟩;rw[List.lookup_cons];simp
   ·exact l_4 r _ (.inl h)
  ·refine l_4 r _ (.inr ?_)
   split
   ·exact grow _ h
   ·exact h
theorem w_8 {scope:Scope}{env:Env}{y:Str}{k:NameKind} (hc:∀ z∈scope.names,z.2≠.cell) (h:(relabel scope env).names.lookup y=some k) (hk:k=.cell\/k=.free):(y,NameKind.free)∈scope.names:=by
 have m:=PySem.mem_of_lookup h;unfold relabel at m;obtain⟨⟨n,k'⟩,hm,e⟩:=List.mem_map.mp m;dsimp only at e
 split at e
 ·rename_i z
  have e1:n=y:=congrArg Prod.fst e
  have z1:k'=NameKind.free:=by
   simp only[Bool.and_eq_true] at z
   simpa using z.1.1
  subst e1 z1;exact hm
 ·have e1:n=y:=congrArg Prod.fst e
  have e2:k'=k:=congrArg Prod.snd e;subst e1 e2
  rcases hk with z | z
  ·exact absurd z (hc _ hm)
  ·rw[z] at hm;exact hm
theorem s_0 {env:Env} (hf:env.scope.kind=.function):∀ {names:List (Str×NameKind)}{y:Str},names.lookup y=some .free->env.kindOf y=some .cell ->
  (names.map λ (n,k)=>if (k==NameKind.free&&env.scope.kind==.function&&env.kindOf n==some .cell) then (n,NameKind.cell) else (n,k)).lookup y=some .cell
 |[],_,h,_=>by simp at h
 |(n,k)::r,y,h,hk=>by
  have ih:=@s_0 env hf r y;rw[List.map_cons];cases hy:y==n with
  |true =>
   have e:y=n:=by simpa using hy
   subst e;rw[List.lookup_cons,hy] at h;have h':k=NameKind.free:=qh h;subst h';simp[hf,hk,List.lookup_cons]
  |false =>
   rw[List.lookup_cons,hy] at h;show List.lookup y ((if (k==NameKind.free&&env.scope.kind==.function&&env.kindOf n==some .cell)=true then (n,NameKind.cell) else (n,k))::_)=_
   by_cases z:(k==NameKind.free&&env.scope.kind==.function&&env.kindOf n==some .cell)=true
   ·rw[if_pos z,List.lookup_cons,hy];exact ih h hk
   ·rw[if_neg z,List.lookup_cons,hy];exact ih h hk
structure ScB (N:List Str) (sc scope:Scope) (x:Str) (frees:List Str) (js:List Nat):Prop where
 kind:scope.kind=.function
 fk:sc.kind=.function
 cells:∀ y∈scope.names,y.2≠.cell
 locs:∀ y∈scope.names,y.2=.local->scope.names.lookup y.1=some .local
 own:scope.names.lookup x=some .local
 fr:∀ y∈scope.names,y.2=.free->sc.names.lookup y.1=some .cell
 nd:(x::frees).Nodup
 ln:frees.length=js.length
 zp:∀ p∈frees.zip js,N[p.2]?=some p.1/\sc.names.lookup p.1=some .cell/\scope.names.lookup p.1=some .free
def cxB (X:Cx) (N:List Str) (scope:Scope) (s:Shared) (H:Hp) (C:Addr) (fp:List Addr):Cx where
 prog:=X.prog
 w:=X.w
 K:=X.K
 mg:=X.mg
 base:=X.base
 A:=X.A
 N:=N
 s₀:=s
 H₀:=H
 env:=compEnvC scope (z_2 X.env.cells scope.names []) C X.env
 outer:=X.stack
 stack:=X.stack
 ex:=fp
 fn:=λ _=>false
 calm:=X.calm
 pn:=[]
 xe:=λ _ _=>False
def frv (σ:St) (js:List Nat):St:=js.map λ j=>(σ[j]?).join
def PTs (X:Cx) (ifs:List Expr) (t:TT):Prop :=
 ∀ (pins:List (Addr×Obj)) (s:Shared) (σ:St) (H:Hp) (Q:Bool->Hp->Prop),Inv X pins σ H s->t σ H Q ->
  wpAny (model X.prog X.w) X.A (forIn ifs true λ c r=>if r=true then do let ok <- isTrue c X.env (eval c X.env);pure (ForInStep.yield ok) else pure (ForInStep.yield r)) (TP X pins σ Q) X.xe s
def tYes:TT:=λ _ H Q=>Q true H
theorem am9 {X:Cx}:PTs X [] tYes:=λ _ _ _ H _ I h=>wpAny_tests_nil ⟨H,I,h⟩
theorem am8 {X:Cx}{c:Expr}{t:TT} (h:PT X c t):PTs X [c] t:=λ pins s σ H Q I q=>wpAny_tests_one (h pins s σ H Q I q)
def LcW (js:List Nat) (tt:TT) (te:TE) (σ:St) (Q:List V->Hp->Prop) (J:It) (H1:Hp):Prop :=
 ∃ W:Nat->Nat->List V->Hp->Prop,(∃ m,W 0 m [] H1)/\∀ i m ys H,W i m ys H ->
  (J.stop i H/\ys.length<=sizeLine/\Q ys H) \/
  (J.go i H/\ys.length<sizeLine/\∀ x H',J.yld i H x H'->tt (some x::frv σ js) H' λ b H2 =>
   if b=true then te (some x::frv σ js) H2 λ v H3=>∃ m',m'<m/\W (i+1) m' (ys++[v]) H3 else ∃ m',m'<m/\W (i+1) m' ys H2)
section
variable {X:Cx}{pins:List (Addr×Obj)}{σ:St}{H:Hp}{s:Shared}{x:Str}{scope sc:Scope}{frees:List Str}{js:List Nat}
theorem y_1 (I:Inv X pins σ H s) (hsc:X.env.scope=sc) (B:ScB X.N sc scope x frees js):∀ y∈scope.names,y.2=.free->∃ c,X.env.cells.lookup y.1=some c:=λ y hy hf =>
 I.ok.has y.1 (.inl (show X.env.scope.names.lookup y.1=some .cell by rw[hsc];exact B.fr y hy hf))
theorem O_0 {α β:Type}:∀ {l:List α}{r:List β}{k:Nat}{a:α},l.length=r.length->l[k]?=some a->∃ b,r[k]?=some b/\(a,b)∈l.zip r
 |[],_,_,_,_,h=>by simp at h
 |_::_,[],_,_,hl,_=>by simp at hl
 |a'::l,b'::r,0,a,_,h=>by
  simp at h;subst h;exact⟨b',rfl,by simp⟩
 |a'::l,b'::r,k+1,a,hl,h=>by
  obtain⟨b,h1,h2⟩:=O_0 (l:=l) (r:=r) (k:=k) (a:=a) (by simpa using hl) (by simpa using h)
  exact⟨b,by simpa using h1,by rw[List.zip_cons_cons];exact qg _ h2⟩
theorem W_9 {fp:List Addr}{h₁:Heap}{C D:Addr}{tk:Nat}{mC:Str->Option Value}{oD:Obj} (I:Inv X pins σ H s) (hsc:X.env.scope=sc) (B:ScB X.N sc scope x frees js) (hf:∀ b∈fp,FpOk X pins H b) (hfo:∀ b∈fp,b<s.heap.objs.size)
  (hC:s.heap.objs.size<=C) (hD:s.heap.objs.size<=D) (hDC:D≠C) (old:∀ b o,s.heap.get? b=some o->h₁.get? b=some o) (ns:h₁.Ns C mC) (gD:h₁.get? D=some oD) (nD:∀ v,oD.data≠.cell v) :
  Inv (cxB X (x::frees) scope s H C fp) (pins++[(D,oD)]) (none::frv σ js) H {s with heap:=h₁,toks:=tk}:=by
 have lc:=y_1 I hsc B
 have sub:∀ y c,(z_2 X.env.cells scope.names []).lookup y=some c->X.env.cells.lookup y=some c:=λ y c e=>by
  rcases v_6 scope.names [] lc e with q | q
  ·exact q
  ·cases q
 have cold:∀ y c,X.env.cells.lookup y=some c->c<s.heap.objs.size:=λ y c e=>by
  obtain⟨v,q⟩:=I.cell y c e;exact q.lt
 have fpC:∀ b∈fp,(b∈X.ex\/X.s₀.heap.objs.size<=b):=λ b hb=>(hf b hb).2.2.2.1
 obtain⟨m,hn,hl⟩:=I.loc;refine⟨⟨I.ok.mod,B.kind,I.ok.glob,I.ok.blt,hC,?_,?_,?_,I.ok.hd,I.ok.frames,.inl rfl,?_,?_,Nat.le_trans I.ok.bsz I.sz,?_,?_,I.stack,I.stkFree⟩,rfl,I.bare,Un.kept old,⟨mC,ns,?_⟩,?_,I.hok.fresh hC,?_,?_,I.hok.kept old,?_⟩
 ·exact λ y z c e1 e2=>I.ok.inj y z c (sub y c e1) (sub z c e2)
 ·intro y hy
  have hm:(y,NameKind.free)∈scope.names:=by
   rcases hy with q | q
   ·exact w_8 (env:=X.env) B.cells q (.inl rfl)
   ·exact w_8 (env:=X.env) B.cells q (.inr rfl)
  exact l_4 scope.names [] (.inl hm)
 ·exact λ y c z _=>absurd z qm
 ·intro b hb
  refine⟨λ z=>?_,λ y c e z=>(hf b hb).2.2.2.2.1 y c (sub y c e) z⟩
  have z':b=C:=z;exact absurd (qo (hfo b hb) hC) (by rw[z'];exact Nat.lt_irrefl _)
 ·exact λ b o e=>I.bs b o e
 ·intro b o e hb
  rcases fpC b hb with z | z
  ·exact I.ok.noex b o e z
  ·exact absurd (qo (qk (I.ok.bs b o e).1) z) (Nat.lt_irrefl _)
 ·intro b hb z
  rcases qr (I.stkSub b z) with e | e
  ·exact (hf b hb).2.1 e
  ·exact (hf b hb).2.2.1 e
 ·intro i y v e1 e2 e3
  cases i with
  |zero=>simp at e2
  |succ k =>
   have e1':frees[k]?=some y:=by
    have e0:(x::frees)[k+1]?=some y:=e1
    simpa using e0
   obtain⟨j,hj,hz⟩:=O_0 B.ln e1';obtain⟨z1,z2,z3⟩:=B.zp _ hz;have e2':(frv σ js)[k]?=some (some v):=by simpa using e2
   have e4:σ[j]?=some (some v):=by
    unfold frv at e2';rw[List.getElem?_map,hj] at e2';have e5:(σ[j]?).join=some v:=qh e2';cases q:σ[j]? with
    |none=>rw[q] at e5;cases e5
    |some w'=>rw[q] at e5;cases w' with
     |none=>cases e5
     |some w2=>cases e5;rfl
   have kX:X.env.kindOf y=some .cell:=by show X.env.scope.names.lookup y=_;rw[hsc];exact z2
   obtain⟨u,r,q⟩:=hl j y v z1 e4 (.inr (.inl kX));refine⟨u,r,?_⟩
   rcases q with ⟨q,_⟩ | ⟨_,c,ec,ic⟩
   ·rw[kX] at q;cases q
   ·have kY:(compEnvC scope (z_2 X.env.cells scope.names []) C X.env).kindOf y=some .cell:=s_0 (env:=X.env) (by rw[hsc];exact B.fk) z3 kX
    refine .inr ⟨.inl kY,c,?_,?_⟩
    ·obtain⟨c',ec'⟩:=l_4 (cells:=X.env.cells) scope.names [] (.inl (PySem.mem_of_lookup z3))
     have:=sub y c' ec';rw[ec] at this;cases this;exact ec'
    ·obtain⟨o,ho,hd⟩:=ic
     exact⟨o,old c o ho,hd⟩
 ·intro y c e
  obtain⟨v,o,ho,hd⟩:=I.cell y c (sub y c e);exact⟨v,o,old c o ho,hd⟩
 ·exact λ y c e=>I.freeC y c (sub y c e)
 ·intro p hp
  have hp':p∈pins++[(D,oD)]:=by simpa [cxB] using hp
  rcases qt hp' with z | z
  ·obtain⟨a1,a2,a3,a4,a5⟩:=I.pin p (ql _ z)
   refine⟨old _ _ a1,a2,λ e=>?_,λ e=>?_,a5⟩
   ·exact absurd (qo (qk a1) hC) (by rw[show p.1=C from e];exact Nat.lt_irrefl _)
   ·rcases qr (I.stkSub p.1 e) with e | e
    ·exact a3 e
    ·exact a4 e
  ·have z':p=(D,oD):=by simpa using z
   subst z';refine⟨gD,I.hok.fresh hD,hDC,λ e=>?_,nD⟩
   rcases qr (I.stkSub D e) with e | e
   ·exact absurd (qo I.lt hD) (by rw[show D=X.env.locals from e];exact Nat.lt_irrefl _)
   ·exact I.nofs hD e
 ·show (none::frv σ js).length=(x::frees).length
  rw[List.length_cons,List.length_cons,B.ln,frv,List.length_map]
end
theorem M_7 {prog:Program}{w:World}{A:Around}{R:Result->Shared->Prop}{s:Shared}{elt target iter:Expr}{ifs:List Expr}{scope:Scope}{pos:Pos}{it acc:Value}{env:Env} (I:Nat->Shared->Prop)
  (turn:∀ n s,I n s->wpAny (model prog w) A (pyNext it) (λ r s1=>match r with
   |none=>R (.ok .next) s1
   |some v=>wpAny (model prog w) A (letOwnedTupleGo target it v) (λ _ s2=>wpAny (model prog w) A (assign target env v) (λ _ s3 =>
     wpAny (model prog w) A (forIn ifs true λ c r=>if r=true then do let ok <- isTrue c env (eval c env);pure (ForInStep.yield ok) else pure (ForInStep.yield r)) (λ ok s4 =>
      if ok=true then wpAny (model prog w) A (eval elt env) (λ y s5=>wpAny (model prog w) A (call (.builtin "list.append") [acc,y]) (λ _ s6=>∃ m,m<n ∧ I m s6) (λ _ _=>False) s5) (λ _ _=>False) s4
      else ∃ m,m<n/\I m s4) (λ _ _=>False) s3) (λ _ _=>False) s2) (λ _ _=>False) s1) (λ _ _=>False) s)
  (n:Nat) (h:I n s):codeAny (model prog w) A (.compLoop (.ListComp elt [⟨target,iter,ifs,0⟩] scope pos) 0 it acc env) R s:=by
 refine codeAny_loop rfl I (λ n s hI=>?_) n h
 show wpAny _ A ((compTurn (.ListComp elt [⟨target,iter,ifs,0⟩] scope pos) 0 it acc env).onRaise (λ x=>do noteFrame x env;theTreesLotGoes x)) _ _ s
 refine wpAny_noted ?_;rw[compTurn_list];refine qb (wpAny_standAt (qb (wpAny_mono (turn n s hI) (λ r s1 h1=>?_) λ _ _ z=>z.elim)))
 cases r with
 |none=>exact qc h1
 |some v =>
  refine qb (wpAny_mono h1 (λ _ s2 h2=>?_) λ _ _ z=>z.elim)
  refine qb (wpAny_mono h2 (λ _ s3 h3=>?_) λ _ _ z=>z.elim)
  refine qb (wpAny_mono h3 (λ ok s4 h4=>?_) λ _ _ z=>z.elim)
  cases ok with
  |false=>exact qc ⟨rfl,h4⟩
  |true =>
   refine qb (qb (wpAny_mono h4 (λ y s5 h5=>?_) λ _ _ z=>z.elim))
   exact qb (wpAny_mono h5 (λ _ s6 h6=>qc (qc ⟨rfl,h6⟩)) λ _ _ z=>z.elim)
section
variable {X:Cx}{pins:List (Addr×Obj)}{σ:St}{H:Hp}{s:Shared}{x:Str}{scope sc:Scope}{frees:List Str}{js:List Nat}{elt iter:Expr}{ifs:List Expr}{px pos:Pos}{tt:TT}{te:TE}{E:Value->Shared->Prop}
abbrev L_8 (its:List Value) (n:Nat):Obj:={cls:=.type "list",data:=.seq its.toArray n}
def LcG (tg:TG) (τ:St) (tt:TT) (te:TE) (Q:List V->Hp->Prop) (J:It) (H1:Hp):Prop :=
 ∃ W:Nat->Nat->List V->Hp->Prop,(∃ m,W 0 m [] H1)/\∀ i m ys H,W i m ys H ->
  (J.stop i H/\ys.length<=sizeLine/\Q ys H) \/
  (J.go i H/\ys.length<sizeLine/\∀ x H',J.yld i H x H'->tg x τ H' λ σ' H'=>(τ.length=σ'.length/\∀ (j:Nat) v,τ[j]?=some (some v)->σ'[j]?=some (some v))/\tt σ' H' λ b H2 =>
   if b=true then te σ' H2 λ v H3=>∃ m',m'<m/\W (i+1) m' (ys++[v]) H3 else ∃ m',m'<m/\W (i+1) m' ys H2)
theorem T_3 {tgt:Expr}{N':List Str}{τ:St}{tg:TG}{it:Addr}{fp:List Addr}{tn:Nat->Heap->Prop}{J:It}{Qe:List V->Hp->Prop}{RR:Value->Addr->Result->Shared->Prop} (I:Inv X pins σ H s) (hc:X.calm=true) (hsc:X.env.scope=sc) (B:ScB X.N sc scope x frees js)
  (T:Turn X.prog X.w X.K tgt J fp it tn) (st:tn 0 s.heap) (f:∀ b∈fp,FpOk X pins H b) (S0:∀ {C pl H' s'},Inv (cxB X (x::frees) scope s H C fp) pl (none::frv σ js) H' s'->Inv (cxB X N' scope s H C fp) pl τ H' s') (hg:∀ C,PG (cxB X N' scope s H C fp) tgt tg) (hW:LcG tg τ tt te Qe J H)
  (ht:∀ s H C fp,PTs (cxB X N' scope s H C fp) ifs tt) (he:∀ s H C fp,PE (cxB X N' scope s H C fp) elt te)
  (hR:∀ (D C:Addr) (s':Shared) (H':Hp) (ys:List V) (its:List Value) (n:Nat),s.heap.objs.size<=D->s.heap.objs.size<=C->D≠C->Inv (cxB X N' scope s H C fp) pins τ H' s'->H' D=none ->
   Vals ys its->s'.heap.get? D=some (L_8 its n)->ys.length<=sizeLine->Qe ys H'->RR (.ref D) C (.ok .next) s') :
  wpAny (model X.prog X.w) X.A (newList []) (λ acc s3=>wpAny (model X.prog X.w) X.A (newFunctionEnv scope X.env.globals (z_2 X.env.cells scope.names []) [] X.env.qual none .none (some X.env)) (λ cenv s4 =>
   codeAny (model X.prog X.w) X.A (.compStart (.ListComp elt [⟨tgt,iter,ifs,0⟩] scope pos) 0 (.ref it) acc {cenv with scope:=relabel scope X.env}) (RR acc cenv.locals) s4) E s3) E s:=by
 obtain⟨W,⟨m0,w0⟩,turn⟩:=hW;refine wpAny_newObj_type (wpAny_newFunctionEnv B.cells (by intro y hy;simp at hy) (λ h₁ hns₁ hsb₁=>?_) B.kind)
 dsimp only at hns₁ hsb₁ ⊢
 generalize hG:s.heap.push {cls:=.type "list",dict:=none,data:=.seq ([]:List Value).toArray}=G at hns₁ hsb₁ ⊢
 have hC0:G.objs.size=s.heap.objs.size+1:=by rw[<- hG,Heap.size_push]
 have hCs0:s.heap.objs.size<=G.objs.size:=by rw[hC0];exact Nat.le_succ _
 have hDC0:s.heap.objs.size≠G.objs.size:=by rw[hC0];exact qp (Nat.lt_succ_self _)
 obtain⟨C,hCe⟩:∃ C:Addr,C=G.objs.size:=⟨_,rfl⟩;obtain⟨D,hDe⟩:∃ D:Addr,D=s.heap.objs.size:=⟨_,rfl⟩;rw[<- hCe] at hns₁ hsb₁ hDC0 hCs0 ⊢;have hDs:s.heap.objs.size<=D:=by rw[hDe];exact qi _
 have hCs:s.heap.objs.size<=C:=hCs0;have hDC:D≠C:=by rw[hDe];exact hDC0
 have old:∀ b o,s.heap.get? b=some o->h₁.get? b=some o:=λ b o e=>by
  refine hsb₁.extBut b o (n_4 (qk e) hCs) (qd _ ?_);rw[<- hG];exact qd _ e
 have gD:h₁.get? D=some (L_8 [] 0):=by
  refine hsb₁.extBut D _ hDC (qd _ ?_);rw[<- hG,hDe];exact qj _ rfl
 have hfo:∀ b∈fp,b<s.heap.objs.size:=λ b hb=>by
  obtain⟨o,e,_⟩:=T.obj 0 _ st b hb;exact qk e
 show codeAny (model X.prog X.w) X.A (.compStart (.ListComp elt [⟨tgt,iter,ifs,0⟩] scope pos) 0 (.ref it) (.ref s.heap.objs.size) (compEnvC scope (z_2 X.env.cells scope.names []) C X.env)) (RR (.ref s.heap.objs.size) C) _;rw[<- hDe];have nDf:D∉fp:=λ z=>n_4 (hfo D z) hDs rfl
 have Y0:=S0 (W_9 (tk:=s.toks+([]:List (Str×Value)).length) (x:=x) I hsc B f hfo hCs hDs hDC old hns₁ gD (λ v z=>nomatch z))
 have tn0:tn 0 h₁:=T.keep 0 _ _ st λ b _ o e=>old b o e
 have sub:∀ y c,(z_2 X.env.cells scope.names []).lookup y=some c->X.env.cells.lookup y=some c:=λ y c e=>by
  rcases v_6 scope.names [] (y_1 I hsc B) e with q | q
  ·exact q
  ·cases q
 have pOld:∀ p∈pins,p.1<s.heap.objs.size:=λ p hp=>qk (I.pin p (ql _ hp)).1
 have stat:∀ {H':Hp}{o:Obj},(∀ b∈fp,H' b=none)->∀ b∈fp,FpOk (cxB X N' scope s H C fp) (pins++[(D,o)]) H' b:=λ {H' o} hn b hb=>by
  obtain⟨_,a2,a3,a4,a5,a6⟩:=f b hb;have lt:=hfo b hb;refine⟨hn b hb,?_,λ z=>?_,.inl hb,λ y c e=>a5 y c (sub y c e),λ p hp=>?_⟩
  ·exact n_4 lt hCs
  ·rcases qr (I.stkSub b z) with e | e
   ·exact a2 e
   ·exact a3 e
  ·have hp':p∈pins++[(D,o)]:=by simpa [cxB] using hp
   rcases qt hp' with z | z
   ·exact a6 p (ql _ z)
   ·have z':p=(D,o):=by simpa using z
    subst z';exact ah8 lt hDs
 have loop:∀ s3:Shared,s3={s with heap:=h₁,toks:=s.toks+([]:List (Str×Value)).length} ->
   codeAny (model X.prog X.w) X.A (.compLoop (.ListComp elt [⟨tgt,iter,ifs,0⟩] scope pos) 0 (.ref it) (.ref D) (compEnvC scope (z_2 X.env.cells scope.names []) C X.env)) (RR (.ref D) C) s3:=by
  rintro s3 rfl;refine M_7 (λ n s'=>∃ i ys its k H',Inv (cxB X N' scope s H C fp) (pins++[(D,L_8 its k)]) τ H' s'/\tn i s'.heap/\(∀ b∈fp,H' b=none)/\Vals ys its/\W i n ys H') ?_ m0
   ⟨0,[],[],0,H,Y0,tn0,λ b hb=>(f b hb).1,.nil,w0⟩
  rintro n s4 ⟨i,ys,its,k,H4,I4,tn4,fr4,rv,w4⟩
  have pD:∀ {pl:List (Addr×Obj)}{σ':St}{H':Hp}{s':Shared},Inv (cxB X N' scope s H C fp) (pins++[(D,L_8 its k)]++pl) σ' H' s'->s'.heap.get? D=some (L_8 its k)/\H' D=none:=λ I'=>by
   have q:=I'.pin (D,L_8 its k) (ql _ (List.mem_append_left _ (ql _ qf)));exact⟨q.1,q.2.1⟩
  have pins_only:∀ {pl:List (Addr×Obj)}{σ':St}{H':Hp}{s':Shared},Inv (cxB X N' scope s H C fp) (pins++pl) σ' H' s'->Inv (cxB X N' scope s H C fp) pins σ' H' s':=λ I'=>I'.unpinned
  rcases turn i n ys H4 w4 with ⟨stop,lz,qe⟩ | ⟨go,lz,step⟩
  ·refine thn (T.done (cxB X N' scope s H C fp) rfl rfl rfl hc i _ s4 _ H4 (λ _ _=>False) I4 (stat fr4) tn4 stop) λ r s5 hh0_=>?_
   obtain⟨hr,I5⟩:=hh0_;subst hr;have I5':Inv (cxB X N' scope s H C fp) (pins++[(D,L_8 its k)]++[]) τ H4 s5:=by simpa using I5
   exact hR D C s5 H4 ys its k hDs hCs hDC (pins_only I5) (pD I5').2 rv (pD I5').1 lz qe
  ·refine thn (T.item (cxB X N' scope s H C fp) rfl rfl rfl hc i _ s4 _ H4 (λ _ _=>False) I4 (stat fr4) tn4 go) λ r s5 hh0_=>?_
   obtain⟨u,hr,h5⟩:=hh0_;subst hr;refine thn h5 λ _ s6 hh0_=>?_
   obtain⟨y,H6,I6,r6,y6,tn6,fr6⟩:=hh0_;have I6':=I6.pinned (stat fr6) (T.obj _ _ tn6)
   have dfs:D∉(cxB X N' scope s H C fp).fs:=λ z=>by
    rcases qr (I.stkSub D z) with e | e
    ·exact n_4 I.lt hDs e.symm
    ·exact I.nofs hDs e
   refine thn (hg C _ s6 _ H6 y u _ I6' r6 (step y H6 y6)) λ _ s7 hh0_=>?_
   obtain⟨σ7,H7,I7,e7,q7⟩:=hh0_;have back:∀ {σ':St}{H':Hp}{s':Shared},Inv (cxB X N' scope s H C fp) (pins++[(D,L_8 its k)]++x_3 fp s6.heap) σ' H' s'->(∀ b∈fp,∀ o,s6.heap.get? b=some o->s'.heap.get? b=some o)/\∀ b∈fp,H' b=none:=λ {σ' H' s'} I' =>
    ⟨λ b hb o e=>(I'.pin (b,o) (ql _ (ql _ (j_4 hb e)))).1,λ b hb=>by
     obtain⟨o,e,_⟩:=T.obj _ _ tn6 b hb;exact (I'.pin (b,o) (ql _ (ql _ (j_4 hb e)))).2.1⟩
   have forget:∀ {pl:List (Addr×Obj)}{H':Hp}{s':Shared},Inv (cxB X N' scope s H C fp) pl σ7 H' s'->Inv (cxB X N' scope s H C fp) pl τ H' s':=λ I'=>I'.weak e7.1 e7.2
   refine thn (ht s H C fp _ s7 _ H7 _ I7 q7) λ ok s8 hh0_=>?_
   obtain⟨H8,I8,q8⟩:=hh0_;cases ok with
   |false =>
    rw[if_neg Bool.false_ne_true] at q8 ⊢;obtain⟨m',hm,w8⟩:=q8;obtain⟨b1,b2⟩:=back I8;exact⟨m',hm,i+1,ys,its,k,H8,forget I8.unpinned,T.keep _ _ _ tn6 b1,b2,rv,w8⟩
   |true =>
    rw[if_pos rfl] at q8 ⊢;refine thn (he s H C fp _ s8 _ H8 _ I8 q8) λ v s9 hh0_=>?_
    obtain⟨vv,H9,I9,r9,m',hm,w9⟩:=hh0_;obtain⟨gD9,nD9⟩:=pD I9;obtain⟨b1,b2⟩:=back I9;have hlen:=rv.length;refine call_meets F.slot_list_append ⟨_,gD9,rfl⟩ F.entry_list_append (F.args_list_append_2 _ _) (PySem.list_append D its.toArray k v (by rw[List.size_toArray];omega)) ⟨gD9,?_⟩
    have ea:its.toArray.push v=(its++[v]).toArray:=by simp
    obtain⟨k',q⟩:∃ k',(s9.heap.update D (Obj.mapSeq (·.push v))).get? D=some (L_8 (its++[v]) k'):=by
     have q0:=PySem.IsL.update gD9 (·.push v);rw[ea] at q0;exact⟨_,q0⟩
    have oth:∀ b o,b≠D->s9.heap.get? b=some o->(s9.heap.update D (Obj.mapSeq (·.push v))).get? b=some o:=λ b o hb e=>(Heap.get?_update_other s9.heap (Obj.mapSeq (·.push v)) (Ne.symm hb)).trans e
    have I10:Inv (cxB X N' scope s H C fp) pins σ7 H9 {s9 with heap:=s9.heap.update D (Obj.mapSeq (·.push v))} :=
     (pins_only I9.unpinned).turned (t':=s9.toks) (it:=D) oth nD9 hDC (.inr hDs) (λ y' c e z=>by
      obtain⟨w',q'⟩:=I.cell y' c (sub y' c e)
      exact n_4 q'.lt hDs z) (λ p hp z=>by
      have hp':p∈pins:=by simpa [cxB] using hp
      exact n_4 (pOld p hp') hDs z)
    refine⟨m',hm,i+1,ys++[vv],its++[v],k',H9,forget (I10.pins_of λ p hp=>?_),T.keep _ _ _ tn6 λ b hb o e=>oth b o (λ z=>nDf (z▸hb)) (b1 b hb o e),b2,rv.append (.cons r9 .nil),w9⟩
    rcases qt hp with z | z
    ·exact I10.pin p (ql _ z)
    ·have z':p=(D,L_8 (its++[v]) k'):=List.mem_singleton.mp z
     subst z';exact⟨q,nD9,hDC,dfs,λ w' z2=>nomatch z2⟩
 exact codeAny_compStart_list (loop _ rfl) (T.self _ 0 _ _ _ tn0 (loop _ rfl))
theorem ai2 {it:Addr}{fp:List Addr}{tn:Nat->Heap->Prop}{J:It}{Qe:List V->Hp->Prop}{RR:Value->Addr->Result->Shared->Prop} (I:Inv X pins σ H s) (hc:X.calm=true) (hsc:X.env.scope=sc) (B:ScB X.N sc scope x frees js)
  (T:Turn X.prog X.w X.K (.Name x px) J fp it tn) (st:tn 0 s.heap) (f:∀ b∈fp,FpOk X pins H b) (hW:LcW js tt te σ Qe J H)
  (ht:∀ s H C fp,PTs (cxB X (x::frees) scope s H C fp) ifs tt) (he:∀ s H C fp,PE (cxB X (x::frees) scope s H C fp) elt te)
  (hR:∀ (D C:Addr) (s':Shared) (H':Hp) (ys:List V) (its:List Value) (n:Nat),s.heap.objs.size<=D->s.heap.objs.size<=C->D≠C->Inv (cxB X (x::frees) scope s H C fp) pins (none::frv σ js) H' s'->H' D=none ->
   Vals ys its->s'.heap.get? D=some (L_8 its n)->ys.length<=sizeLine->Qe ys H'->RR (.ref D) C (.ok .next) s') :
  wpAny (model X.prog X.w) X.A (newList []) (λ acc s3=>wpAny (model X.prog X.w) X.A (newFunctionEnv scope X.env.globals (z_2 X.env.cells scope.names []) [] X.env.qual none .none (some X.env)) (λ cenv s4 =>
   codeAny (model X.prog X.w) X.A (.compStart (.ListComp elt [⟨.Name x px,iter,ifs,0⟩] scope pos) 0 (.ref it) acc {cenv with scope:=relabel scope X.env}) (RR acc cenv.locals) s4) E s3) E s:=by
 refine T_3 (N':=x::frees) (tg:=U_1 0) I hc hsc B T st f (λ h=>h) (λ C=>u_0 B.nd rfl (.inl (lookup_relabel_local B.own)) (.inr (lookup_relabel_local B.own))) ?_ ht he hR
 obtain⟨W,w0,turn⟩:=hW;refine⟨W,w0,λ i m ys H w=>?_⟩
 rcases turn i m ys H w with h | ⟨go,lz,step⟩
 ·exact .inl h
 ·exact .inr ⟨go,lz,λ y H' yl=>⟨⟨rfl,λ j v e=>by
   cases j with
   |zero=>simp at e
   |succ j=>simpa using e⟩,step y H' yl⟩⟩
theorem u_9 {fp:List Addr}{D C:Addr}{s':Shared}{H':Hp}{ys:List V}{its:List Value}{n:Nat} (I:Inv X pins σ H s) (f:∀ b∈fp,FpOk X pins H b) (hD:s.heap.objs.size<=D) (J:Inv (cxB X (x::frees) scope s H C fp) pins (none::frv σ js) H' s') (nD:H' D=none) (rv:Vals ys its)
  (gD:s'.heap.get? D=some (L_8 its n)) (hz:ys.length<=sizeLine):Inv X pins σ (upd H' D (.lst ys)) s':=by
 have u:Un (frs X.stack) fp H H' s.heap s'.heap:=J.base;have hk:HOk X.prog X.w H' s'.heap:=J.hok;refine I.call' (ch:=fp) J.os ⟨u.keep,u.slot,λ b o e n' hx=>?_,u.there,λ b xs e=>?_,λ b o v e=>?_,λ b ps e=>?_⟩ (λ b o e=>?_) J.bare λ b hb=>?_
 ·rw[a_3 (n_4 (Heap.lt_size e) hD)]
  exact u.free b o e n' hx
 ·have q:=u.tups b xs e
  rw[a_3 (a_5 q nD)];exact q
 ·have q:=u.frzs b o v e
  rw[a_3 (a_5 q nD)];exact q
 ·obtain⟨more,q⟩:=u.tbls b ps e
  exact⟨more,by rw[a_3 (a_5 q nD)];exact q⟩
 ·by_cases hb:b=D
  ·subst hb
   rw[a_2] at e;cases e;exact⟨hz,its,n,rv,gD⟩
  ·rw[a_3 hb] at e
   exact (hk b o e).stay (λ c v _ q=>q) (λ c q=>by rw[a_3 (a_5 q nD)];exact q) λ c xs q=>by rw[a_3 (a_5 q nD)];exact q
 ·obtain⟨_,a2,a3,a4,a5,a6⟩:=f b hb
  exact⟨a4,a2,a5,a6⟩
theorem aq1 {C:Addr}{s':Shared}{H':Hp}{σ':St}{h':Heap} (I:Inv X pins σ H s) (J:Inv X pins σ' H' s') (hC:s.heap.objs.size<=C) (nC:H' C=none) (hs:Heap.SameBut C s'.heap h'):Inv X pins σ' H' {s' with heap:=h'}:=by
 refine J.turned (t':=s'.toks) (it:=C) (λ b o hb e=>(hs.2 b hb).trans e) nC (λ z=>?_) (.inr (Nat.le_trans I.sz hC)) (λ y c e z=>?_) λ p hp z=>?_
 ·exact n_4 I.lt hC z.symm
 ·obtain⟨v,q⟩:=I.cell y c e
  exact n_4 q.lt hC z
 ·exact n_4 (qk (I.pin p hp).1) hC z
def tLC (wi:TI) (js:List Nat) (tt:TT) (te:TE):TE:=λ σ H Q=>wi σ H (LcW js tt te σ λ ys H'=>∀ D,H' D=none->Q (.ref D) (upd H' D (.lst ys)))
theorem aD4 {wi:TI} (hc:X.calm=true) (hsc:X.env.scope=sc) (B:ScB X.N sc scope x frees js) (hi:PI X (.Name x px) iter wi) (ht:∀ s H C fp,PTs (cxB X (x::frees) scope s H C fp) ifs tt) (he:∀ s H C fp,PE (cxB X (x::frees) scope s H C fp) elt te)
  (hs:∀ v,foldedSetIterable iter X.env v=pure v:=by intro _;rfl):PE X (.ListComp elt [⟨.Name x px,iter,ifs,0⟩] scope pos) (tLC wi js tt te):=by
 intro pins s σ H Q I h;rw[eval_ListComp];refine wpAny_comprehension_free (use:=none) rfl hs (m_3 (y_1 I hsc B)) B.kind B.locs (thn (hi pins s σ H _ I h) λ v s1 h1=>thn h1 λ itv s2 h2=>?_)
 obtain⟨it,fp,tn,J,H2,e,I2,T,st2,f2,hW⟩:=h2;subst e;refine ai2 (RR:=λ acc C=>compPost (model X.prog X.w) X.A X.xe none (EP X pins σ Q) acc C) I2 hc hsc B T st2 f2 hW ht he ?_
 intro D C s' H' ys its n hD hC hDC J' nD rv gD hz q;obtain⟨m,hn,_⟩:=J'.loc;refine⟨m,hn,λ h' hs'=>?_⟩
 have A1:=u_9 I2 f2 hD J' nD rv gD hz;have nC:(upd H' D (.lst ys)) C=none:=by rw[a_3 (Ne.symm hDC)];exact J'.free
 exact⟨.ref D,_,aq1 I2 A1 hC nC hs',rfl,q D nD⟩
def az0 (i:Nat) (wi:TI) (js:List Nat) (tt:TT) (te:TE):TS:=λ D σ H=>wi σ H (LcW js tt te σ λ ys H'=>∀ a,H' a=none->D.nx (σ.set i (some (.ref a))) (upd H' a (.lst ys)))
theorem aa5 {wi:TI}{i:Nat}{y:Str}{py spos:Pos} (hN:X.N.Nodup) (hi':X.N[i]?=some y) (hy:X.env.scope.names.lookup y=some .local) (hc:X.calm=true) (hsc:X.env.scope=sc) (B:ScB X.N sc scope x frees js) (hi:PI X (.Name x px) iter wi)
  (ht:∀ s H C fp,PTs (cxB X (x::frees) scope s H C fp) ifs tt) (he:∀ s H C fp,PE (cxB X (x::frees) scope s H C fp) elt te)
  (hsw:swapsWith (.ListComp elt [⟨.Name x px,iter,ifs,0⟩] scope pos) (some (.Name y py)) spos.line X.env=pure true:=by rfl)
  (hs:∀ v,foldedSetIterable iter X.env v=pure v:=by intro _;rfl):PS X (.Assign [.Name y py] (.ListComp elt [⟨.Name x px,iter,ifs,0⟩] scope pos) spos) (az0 i wi js tt te):=by
 intro pins s σ H D I h;rw[exec_Assign_Name_used _ _ _ _ hsw];refine qb (wpAny_standAt (qb ?_));show wpAny _ X.A (do let _ <- comprehension (.ListComp elt [⟨.Name x px,iter,ifs,0⟩] scope pos) scope X.env _ (newList []) false (eval iter X.env) (some (assign (.Name y py) X.env))) _ _ s;refine qb (wpAny_mono (wpAny_comprehension_free (use:=some (assign (.Name y py) X.env)) (Q:=λ _ s'=>SP X pins D .next s') rfl hs (m_3 (y_1 I hsc B)) B.kind B.locs
  (thn (hi pins s σ H _ I h) λ v s1 h1=>thn h1 λ itv s2 h2=>?_)) (λ _ s' q=>qc (qc q)) λ _ _ z=>z)
 obtain⟨it,fp,tn,J,H2,e,I2,T,st2,f2,hW⟩:=h2;subst e;refine ai2 (RR:=λ acc C=>compPost (model X.prog X.w) X.A X.xe (some (assign (.Name y py) X.env)) (λ _ s'=>SP X pins D .next s') acc C) I2 hc hsc B T st2 f2 hW ht he ?_
 intro a C s' H' ys its n hD hC hDC J' nD rv gD hz q;have A1:=u_9 I2 f2 hD J' nD rv gD hz;have nC:(upd H' a (.lst ys)) C=none:=by rw[a_3 (Ne.symm hDC)];exact J'.free
 obtain⟨m,hn,_⟩:=J'.loc;have hL:C≠X.env.locals:=ah8 I2.lt hC;show wpAny _ X.A (assign (.Name y py) X.env (.ref a)) _ _ s';refine wpAny_assign_Name (w_5 A1 hN hi' (.inl hy) (v:=.ref a) rfl (λ s3 I3 hh0_=>?_) (.inr hy))
 obtain⟨b,sb,hb⟩:=hh0_
 have nb:C≠b:=by
  rcases hb with z | z
  ·rw[z];exact hL
  ·intro e
   obtain⟨v,q'⟩:=I2.cell y b z;exact n_4 q'.lt hC e.symm
 obtain⟨o,es,ep,ho,r⟩:=hn;refine⟨m,⟨o,es,ep,(sb.2 C nb).trans ho,r⟩,λ h' hs'=>?_⟩
 exact⟨_,_,aq1 I2 I3 hC nC hs',q a nD⟩
end
end L2
namespace Fx
open PySem
inductive D where
 |non | bl (b:Bool) | int (i:Int) | str (x:Str) | tup (xs:List D) | lst (xs:List D)
 |opq
 |dct (ks:List Str) (vs:List D)
inductive MO where
 |lst (xs:List D) | dic (kvs:List (Str×D))
inductive Sl where
 |no | im (d:D) | ow (b:Bool) (o:MO)
abbrev En:=List Sl
inductive Res where
 |nx (ρ:En) | rt (d:D) (ρ:En) | bk (ρ:En) | ct (ρ:En)
abbrev FE:=En->Option (D×En)
abbrev FT:=En->Option (Bool×En)
abbrev FA:=En->Option (List D×En)
abbrev FS:=En->Option Res
def bnd {α β:Type} (x:Option α) (f:α->Option β):Option β:=x.bind f
theorem f_1 {α β:Type} (a:α) (f:α->Option β):bnd (some a) f=f a:=rfl
mutual
def eqD:D->D->Bool
 |.non,.non=>true
 |.bl a,.bl b=>a==b
 |.bl a,.int b=>(if a then 1 else 0)==b
 |.int a,.bl b=>a==(if b then 1 else 0)
 |.int a,.int b=>a==b
 |.str a,.str b=>a==b
 |.tup a,.tup b=>s_9 a b
 |.lst a,.lst b=>s_9 a b
 |_,_=>false
def s_9:List D->List D->Bool
 |[],[]=>true
 |a::r,b::t=>eqD a b&&s_9 r t
 |_,_=>false
end
@[simp] theorem as5 :eqD .non .non=true:=by rw[eqD]
@[simp] theorem aw7 (y:Bool):eqD .non (.bl y)=false:=by simp[eqD]
@[simp] theorem as7 (y:Int):eqD .non (.int y)=false:=by simp[eqD]
@[simp] theorem as4 (y:Str):eqD .non (.str y)=false:=by simp[eqD]
@[simp] theorem as3 (y:List D):eqD .non (.tup y)=false:=by simp[eqD]
@[simp] theorem as6 (y:List D):eqD .non (.lst y)=false:=by simp[eqD]
@[simp] theorem ax2 (x:Bool):eqD (.bl x) .non=false:=by simp[eqD]
@[simp] theorem aI0 (x:Bool) (y:Bool):eqD (.bl x) (.bl y)=decide (x=y):=by rw[eqD];exact Bool.beq_eq_decide_eq _ _
@[simp] theorem ax4 (x:Bool) (y:Int):eqD (.bl x) (.int y)=((if x then 1 else 0)==y):=by rw[eqD]
@[simp] theorem ax1 (x:Bool) (y:Str):eqD (.bl x) (.str y)=false:=by simp[eqD]
@[simp] theorem ax0 (x:Bool) (y:List D):eqD (.bl x) (.tup y)=false:=by simp[eqD]
@[simp] theorem ax3 (x:Bool) (y:List D):eqD (.bl x) (.lst y)=false:=by simp[eqD]
@[simp] theorem at8 (x:Int):eqD (.int x) .non=false:=by simp[eqD]
@[simp] theorem aw9 (x:Int) (y:Bool):eqD (.int x) (.bl y)=(x==(if y then 1 else 0)):=by rw[eqD]
@[simp] theorem au0 (x:Int) (y:Int):eqD (.int x) (.int y)=decide (x=y):=by rw[eqD];exact Bool.beq_eq_decide_eq _ _
@[simp] theorem at7 (x:Int) (y:Str):eqD (.int x) (.str y)=false:=by simp[eqD]
@[simp] theorem at6 (x:Int) (y:List D):eqD (.int x) (.tup y)=false:=by simp[eqD]
@[simp] theorem at9 (x:Int) (y:List D):eqD (.int x) (.lst y)=false:=by simp[eqD]
@[simp] theorem as0 (x:Str):eqD (.str x) .non=false:=by simp[eqD]
@[simp] theorem aw6 (x:Str) (y:Bool):eqD (.str x) (.bl y)=false:=by simp[eqD]
@[simp] theorem as2 (x:Str) (y:Int):eqD (.str x) (.int y)=false:=by simp[eqD]
@[simp] theorem ar9 (x:Str) (y:Str):eqD (.str x) (.str y)=decide (x=y):=by rw[eqD];exact Bool.beq_eq_decide_eq _ _
@[simp] theorem ar8 (x:Str) (y:List D):eqD (.str x) (.tup y)=false:=by simp[eqD]
@[simp] theorem as1 (x:Str) (y:List D):eqD (.str x) (.lst y)=false:=by simp[eqD]
@[simp] theorem ar5 (x:List D):eqD (.tup x) .non=false:=by simp[eqD]
@[simp] theorem aw5 (x:List D) (y:Bool):eqD (.tup x) (.bl y)=false:=by simp[eqD]
@[simp] theorem ar7 (x:List D) (y:Int):eqD (.tup x) (.int y)=false:=by simp[eqD]
@[simp] theorem ar4 (x:List D) (y:Str):eqD (.tup x) (.str y)=false:=by simp[eqD]
@[simp] theorem ar3 (x:List D) (y:List D):eqD (.tup x) (.tup y)=s_9 x y:=by rw[eqD]
@[simp] theorem ar6 (x:List D) (y:List D):eqD (.tup x) (.lst y)=false:=by simp[eqD]
@[simp] theorem at3 (x:List D):eqD (.lst x) .non=false:=by simp[eqD]
@[simp] theorem aw8 (x:List D) (y:Bool):eqD (.lst x) (.bl y)=false:=by simp[eqD]
@[simp] theorem at5 (x:List D) (y:Int):eqD (.lst x) (.int y)=false:=by simp[eqD]
@[simp] theorem as9 (x:List D) (y:Str):eqD (.lst x) (.str y)=false:=by simp[eqD]
@[simp] theorem as8 (x:List D) (y:List D):eqD (.lst x) (.tup y)=false:=by simp[eqD]
@[simp] theorem at4 (x:List D) (y:List D):eqD (.lst x) (.lst y)=s_9 x y:=by rw[eqD]
@[simp] theorem aW5:s_9 [] []=true:=by rw[s_9]
@[simp] theorem aW8 (a b:D) (r t:List D):s_9 (a::r) (b::t)=(eqD a b&&s_9 r t):=by rw[s_9]
@[simp] theorem aW6 (b:D) (t:List D):s_9 [] (b::t)=false:=by simp[s_9]
@[simp] theorem aW7 (b:D) (t:List D):s_9 (b::t) []=false:=by simp[s_9]
mutual
def dpD:D->Nat
 |.tup xs=>N_8 xs+1
 |.lst xs=>N_8 xs+1
 |.opq=>1000
 |.dct _ _=>1000
 |_=>0
def N_8:List D->Nat
 |[]=>0
 |d::r=>max (dpD d) (N_8 r)
end
@[simp] theorem b_3:dpD .opq=1000:=rfl
@[simp] theorem b_4 (ks:List Str) (vs:List D):dpD (.dct ks vs)=1000:=rfl
@[simp] theorem aX8:dpD .non=0:=rfl
@[simp] theorem bf6 (b:Bool):dpD (.bl b)=0:=rfl
@[simp] theorem aX9 (i:Int):dpD (.int i)=0:=rfl
@[simp] theorem aX7 (x:Str):dpD (.str x)=0:=rfl
@[simp] theorem d_3 (xs:List D):dpD (.tup xs)=N_8 xs+1:=rfl
@[simp] theorem d_4 (xs:List D):dpD (.lst xs)=N_8 xs+1:=rfl
@[simp] theorem aN8:N_8 []=0:=rfl
@[simp] theorem y_9 (d:D) (r:List D):N_8 (d::r)=max (dpD d) (N_8 r):=rfl
def aY8 (i:Int):Bool:=decide (i.natAbs<2 ^ 1000)
def ab5 (i j:Int):Bool:=decide (i.natAbs<2 ^ 64)||decide (j.natAbs<2 ^ 64)||(aY8 i&&aY8 j)
def k_1 (j:Int):Bool:=decide (j≠0)&&decide (j.natAbs<2 ^ 1000)
def aw4:D->Option Int
 |.int i=>some i
 |_=>none
def onI (g:Int->Int->Option D) (x y:D):Option D:=bnd (aw4 x) λ i=>bnd (aw4 y) (g i)
theorem x_6 {g:Int->Int->Option D}{x y d:D} (e:onI g x y=some d):∃ i j,x=.int i/\y=.int j/\g i j=some d:=by
 cases x with
 |int i =>
  cases y with
  |int j=>exact⟨i,j,rfl,rfl,e⟩
  |_=>cases e
 |_=>cases e
def b_7:D->D->Option D
 |.int i,.int j=>some (.int (i+j))
 |.str a,.str b=>if a.length+b.length<=sizeLine then some (.str (a++b)) else none
 |.lst a,.lst b=>if a.length+b.length<=sizeLine then some (.lst (a++b)) else none
 |_,_=>none
def aN9:D->D->Option D:=onI λ i j=>some (.int (i-j))
def bf8:D->D->Option D:=onI λ i j=>if ab5 i j=true then some (.int (i*j)) else none
def ae4:D->D->Option D:=onI λ i j=>if k_1 j=true then some (.int (i.fdiv j)) else none
def z_0:D->D->Option D:=onI λ i j=>if j≠0 then some (.int (i.fmod j)) else none
def ax6:D->Option D
 |.int i=>some (.int (-i))
 |_=>none
def aJ6 (p:Int->Int->Bool):D->D->Option D:=onI λ i j=>some (.bl (p i j))
def dLt:D->D->Option D:=aJ6 λ i j=>decide (i<j)
def dLe:D->D->Option D:=aJ6 λ i j=>decide (i<=j)
def dGt:D->D->Option D:=aJ6 λ i j=>decide (j<i)
def dGe:D->D->Option D:=aJ6 λ i j=>decide (j<=i)
def dEq (x y:D):Option D:=if dpD x<=30/\dpD y<=30 then some (.bl (eqD x y)) else none
def dNe (x y:D):Option D:=if dpD x<=30/\dpD y<=30 then some (.bl (!eqD x y)) else none
def isN:D->Bool
 |.non=>true
 |_=>false
@[simp] theorem aV8:isN .opq=false:=rfl
@[simp] theorem aW2 (ks:List Str) (vs:List D):isN (.dct ks vs)=false:=rfl
@[simp] theorem aV9:isN .non=true:=rfl
@[simp] theorem bd7 (b:Bool):isN (.bl b)=false:=rfl
@[simp] theorem aW1 (b:Int):isN (.int b)=false:=rfl
@[simp] theorem aV7 (b:Str):isN (.str b)=false:=rfl
@[simp] theorem aV6 (b:List D):isN (.tup b)=false:=rfl
@[simp] theorem aW0 (b:List D):isN (.lst b)=false:=rfl
def dIs (x y:D):Option D:=match y with
 |.non=>some (.bl (isN x))
 |_=>none
def p_8 (x y:D):Option D:=match y with
 |.non=>some (.bl (!isN x))
 |_=>none
def ax5:D->Option Bool
 |.non=>some false
 |.bl b=>some b
 |.int i=>some (i != 0)
 |.lst xs=>some (!xs.isEmpty)
 |.tup xs=>some (!xs.isEmpty)
 |_=>none
def dPl (n:Nat) (i:Int):Option Nat:=if 0<=i then (if i<n then some i.toNat else none) else if -(n:Int)<=i then some (i+n).toNat else none
def atD (xs:List D) (i:Int):Option D:=(dPl xs.length i).bind λ j=>xs[j]?
def X_7 (n d:Nat):Option Int->Nat
 |none=>d
 |some v=>if v<0 then (v+(n:Int)).toNat else min v.toNat n
def ax7 (xs:List D) (lo hi:Option Int):List D:=(xs.drop (X_7 xs.length 0 lo)).take (X_7 xs.length xs.length hi-X_7 xs.length 0 lo)
def bn7:List D->Option D
 |[.int i]=>some (.int (if i<0 then -i else i))
 |_=>none
def W_8:List D->Option (List Bool)
 |[]=>some []
 |.bl b::r=>bnd (W_8 r) λ bs=>some (b::bs)
 |_=>none
theorem N_1 (b:Bool) (r:List D):W_8 (.bl b::r)=bnd (W_8 r) λ bs=>some (b::bs):=rfl
def av3:List D->Option D
 |[.lst xs]=>bnd (W_8 xs) λ bs=>some (.bl (bs.all id))
 |_=>none
inductive Ty where
 |int | bool | str | tuple | list
def ai4:Ty->D->Bool
 |.int,.int _=>true
 |.int,.bl _=>true
 |.bool,.bl _=>true
 |.str,.str _=>true
 |.tuple,.tup _=>true
 |.list,.lst _=>true
 |_,_=>false
def slV (ρ:En):Option Sl->Option (D×En)
 |some (.im d)=>some (d,ρ)
 |_=>none
def eV (i:Nat) (ρ:En):Option (D×En):=slV ρ ρ[i]?
def eC (d:D) (ρ:En):Option (D×En):=some (d,ρ)
def e1 (op:D->Option D) (F:FE) (ρ:En):Option (D×En):=bnd (F ρ) λ p=>bnd (op p.1) λ d=>some (d,p.2)
def e2 (op:D->D->Option D) (F G:FE) (ρ:En):Option (D×En):=bnd (F ρ) λ p=>bnd (G p.2) λ q=>bnd (op p.1 q.1) λ d=>some (d,q.2)
def blB:D->Option Bool
 |.bl b=>some b
 |_=>none
def e3 (op op':D->D->Option D) (F G L:FE) (ρ:En):Option (D×En):=bnd (F ρ) λ p=>bnd (G p.2) λ q=>bnd (op p.1 q.1) λ z=>bnd (blB z) λ b =>
 if b=true then bnd (L q.2) λ r=>bnd (op' q.1 r.1) λ d=>some (d,r.2) else some (.bl false,q.2)
def aN (ρ:En):Option (List D×En):=some ([],ρ)
def aC (F:FE) (A:FA) (ρ:En):Option (List D×En):=bnd (F ρ) λ p=>bnd (A p.2) λ q=>some (p.1::q.1,q.2)
def aj0 (A:FA) (ρ:En):Option (D×En):=bnd (A ρ) λ p=>if p.1.length<=1000 then some (.tup p.1,p.2) else none
def d_7 (A:FA) (ρ:En):Option (D×En):=bnd (A ρ) λ p=>if p.1.length<=1000 then some (.lst p.1,p.2) else none
def eF (g:List D->Option D) (A:FA) (ρ:En):Option (D×En):=bnd (A ρ) λ p=>bnd (g p.1) λ d=>some (d,p.2)
def eTy (t:Ty) (F:FE) (ρ:En):Option (D×En):=bnd (F ρ) λ p=>some (.bl (ai4 t p.1),p.2)
abbrev FO:=En->Option (Option Int×En)
def oN (ρ:En):Option (Option Int×En):=some (none,ρ)
def oS (F:FE) (ρ:En):Option (Option Int×En):=bnd (F ρ) λ p=>bnd (aw4 p.1) λ i=>some (some i,p.2)
def tB (F:FE) (ρ:En):Option (Bool×En):=bnd (F ρ) λ p=>bnd (blB p.1) λ b=>some (b,p.2)
def tV (F:FE) (ρ:En):Option (Bool×En):=bnd (F ρ) λ p=>bnd (ax5 p.1) λ b=>some (b,p.2)
def tAnd (T U:FT) (ρ:En):Option (Bool×En):=bnd (T ρ) λ p=>if p.1=true then U p.2 else some (false,p.2)
def tOr (T U:FT) (ρ:En):Option (Bool×En):=bnd (T ρ) λ p=>if p.1=true then some (true,p.2) else U p.2
def tNot (T:FT) (ρ:En):Option (Bool×En):=bnd (T ρ) λ p=>some (!p.1,p.2)
def tYes (ρ:En):Option (Bool×En):=some (true,ρ)
def eIf (T:FT) (F G:FE) (ρ:En):Option (D×En):=bnd (T ρ) λ p=>if p.1=true then F p.2 else G p.2
def V_4 (F G:FE) (ρ:En):Option (D×En):=bnd (F ρ) λ p=>bnd (blB p.1) λ b=>if b=true then G p.2 else some (.bl false,p.2)
def eOr (F G:FE) (ρ:En):Option (D×En):=bnd (F ρ) λ p=>bnd (blB p.1) λ b=>if b=true then some (.bl true,p.2) else G p.2
def slI:Option Sl->Option Sl
 |some (.im d)=>some (.im d)
 |_=>none
def A_8 (ρ:En):List Nat->Option En
 |[]=>some []
 |j::js=>bnd (slI ρ[j]?) λ s=>bnd (A_8 ρ js) λ r=>some (s::r)
theorem T_8 (ρ:En) (j:Nat) (js:List Nat):A_8 ρ (j::js)=bnd (slI ρ[j]?) λ s=>bnd (A_8 ρ js) λ r=>some (s::r):=rfl
def cGo (T:FT) (F:FE) (fr:En):List D->Option (List D)
 |[]=>some []
 |d::r=>bnd (T (.im d::fr)) λ p=>if p.1=true then bnd (F p.2) λ q=>bnd (cGo T F fr r) λ t=>some (q.1::t) else cGo T F fr r
theorem au9 (T:FT) (F:FE) (fr:En):cGo T F fr []=some []:=rfl
theorem af0 (T:FT) (F:FE) (fr:En) (d:D) (r:List D):cGo T F fr (d::r)=bnd (T (.im d::fr)) λ p=>if p.1=true then bnd (F p.2) λ q=>bnd (cGo T F fr r) λ t=>some (q.1::t) else cGo T F fr r:=rfl
def chS (c:Nat):Str:=⟨#[c]⟩
def chs (z:Str):List D:=z.cps.toList.map λ c=>.str (chS c)
def items:D->Option (List D)
 |.lst xs=>some xs
 |.tup xs=>some xs
 |.str z=>some (chs z)
 |_=>none
def eLC (js:List Nat) (I:FE) (T:FT) (F:FE) (ρ:En):Option (D×En):=bnd (I ρ) λ p=>bnd (items p.1) λ xs=>bnd (A_8 p.2 js) λ fr=>bnd (cGo T F fr xs) λ ys=>if xs.length<=sizeLine then some (.lst ys,p.2) else none
def sN (ρ:En):Option Res:=some (.nx ρ)
def nxR (G:FS):Res->Option Res
 |.nx ρ'=>G ρ'
 |.rt d ρ=>some (.rt d ρ)
 |.bk ρ=>some (.bk ρ)
 |.ct ρ=>some (.ct ρ)
def b_6 (F G:FS) (ρ:En):Option Res:=bnd (F ρ) λ r=>nxR G r
def c_7 (i:Nat) (F:FE) (ρ:En):Option Res:=bnd (F ρ) λ p=>some (.nx (p.2.set i (.im p.1)))
def r_9:List Nat->List D->En->En
 |i::is,d::ds,ρ=>r_9 is ds (ρ.set i (.im d))
 |_,_,ρ=>ρ
theorem B_1 (i:Nat) (is:List Nat) (d:D) (ds:List D) (ρ:En):r_9 (i::is) (d::ds) ρ=r_9 is ds (ρ.set i (.im d)):=rfl
theorem L_0 (ds:List D) (ρ:En):r_9 [] ds ρ=ρ:=by cases ds <;> rfl
def bh9:D->Option (List D)
 |.tup xs=>some xs
 |.lst xs=>some xs
 |_=>none
def gN (i:Nat) (d:D) (ρ:En):Option En:=some (ρ.set i (.im d))
def gT (is:List Nat) (d:D) (ρ:En):Option En:=bnd (bh9 d) λ xs=>if xs.length=is.length then some (r_9 is xs ρ) else none
def sIf (T:FT) (F G:FS) (ρ:En):Option Res:=bnd (T ρ) λ p=>if p.1=true then F p.2 else G p.2
def e_1 (F:FE) (ρ:En):Option Res:=bnd (F ρ) λ p=>some (.rt p.1 p.2)
def goR (G:FS):Res->Option Res
 |.nx ρ=>G ρ
 |.ct ρ=>G ρ
 |.bk ρ=>some (.nx ρ)
 |.rt d ρ=>some (.rt d ρ)
def fGo (g:D->En->Option En) (B:FS):List D->FS
 |[],ρ=>some (.nx ρ)
 |d::r,ρ=>bnd (g d ρ) λ ρ1=>bnd (B ρ1) λ z=>goR (fGo g B r) z
theorem U_5 (g:D->En->Option En) (B:FS) (ρ:En):fGo g B [] ρ=some (.nx ρ):=rfl
theorem I_4 (g:D->En->Option En) (B:FS) (d:D) (r:List D) (ρ:En):fGo g B (d::r) ρ=bnd (g d ρ) λ ρ1=>bnd (B ρ1) λ z=>goR (fGo g B r) z:=rfl
def aR5 (g:D->En->Option En) (F:FE) (B:FS) (ρ:En):Option Res:=bnd (F ρ) λ p=>bnd (items p.1) λ xs=>fGo g B xs p.2
def A_7 (lo:Int):Nat->List D
 |0=>[]
 |n+1=>.int lo::A_7 (lo+1) n
def ag6 (F:FE) (ρ:En):Option (List D×En):=bnd (F ρ) λ p=>bnd (aw4 p.1) λ j=>if -(2 ^ 62)<=j/\j<2 ^ 62 then some (A_7 0 j.toNat,p.2) else none
def Z_7 (g:D->En->Option En) (R:FA) (B:FS) (ρ:En):Option Res:=bnd (R ρ) λ p=>fGo g B p.1 p.2
def aL3 (i:Nat) (A:FA) (ρ:En):Option Res:=bnd (A ρ) λ p=>some (.nx (p.2.set i (.ow false (.lst p.1))))
def owL:Option Sl->Option (List D)
 |some (.ow false (.lst ds))=>some ds
 |_=>none
def aS0 (i:Nat) (F:FE) (ρ:En):Option Res:=bnd (owL ρ[i]?) λ _=>bnd (F ρ) λ p=>bnd (owL p.2[i]?) λ ds=>if ds.length<1000000 then some (.nx (p.2.set i (.ow false (.lst (ds++[p.1]))))) else none
def frz (i:Nat) (ρ:En):En:=match ρ[i]? with
 |some (.ow false (.lst ds))=>ρ.set i (.im (.lst ds))
 |_=>ρ
def aL4 (i:Nat) (F:FS) (ρ:En):Option Res:=F (frz i ρ)
def eLR (js:List Nat) (R:FA) (T:FT) (F:FE) (ρ:En):Option (D×En):=bnd (R ρ) λ p=>bnd (A_8 p.2 js) λ fr=>bnd (cGo T F fr p.1) λ ys=>if p.1.length<=sizeLine then some (.lst ys,p.2) else none
def aM4:Res->Option D
 |.rt d _=>some d
 |.nx _=>some .non
 |_=>none
def fnD (n k:Nat) (B:FS) (ds:List D):Option D:=if ds.length=n then bnd (B (ds.map .im++List.replicate k .no)) λ r=>aM4 r else none
end Fx
namespace Fx
open PySem PySem.Spec PyProof.Rows L2
mutual
def Rep (K:Frag) (H:Hp):D->V->Prop
 |.non,v=>v=.non
 |.bl b,v=>v=.bl b
 |.int i,v=>v=.int i
 |.str x,v=>v=.str x
 |.tup ds,v=>∃ a vs,v=.ref a/\SqT K H a vs/\Reps K H ds vs
 |.lst ds,v=>∃ a vs,v=.ref a/\SqL K H a vs/\Reps K H ds vs
 |.opq,v=>∃ a kvs,v=.ref a/\H a=some (.dK kvs)
 |.dct ks ds,v=>∃ a o vs,v=.ref a/\H a=some (.frz o (.dK ((ks.map Sum.inr).zip vs)))/\Reps K H ds vs/\ks.length=ds.length
def Reps (K:Frag) (H:Hp):List D->List V->Prop
 |[],vs=>vs=[]
 |d::ds,vs=>∃ v r,vs=v::r/\Rep K H d v/\Reps K H ds r
end
theorem Same.rd {H H':Hp}{a:Addr}{u:HO} (e:Same H H') (h:Rd H a u):Rd H' a u:=by
 rcases h with h | ⟨o,h⟩
 ·exact .inl (e _ _ h)
 ·exact .inr ⟨o,e _ _ h⟩
theorem Same.seqT {K:Frag}{H H':Hp}{a:Addr}{xs:List V} (e:Same H H') (h:SqT K H a xs):SqT K H' a xs:=by
 rcases h with h | h
 ·exact .inl (Same.rd e h)
 ·exact .inr h
section
variable {K:Frag}{H H':Hp}
mutual
theorem Rep.mono (e:Same H H'):∀ (d:D) {v:V},Rep K H d v->Rep K H' d v
 |.non,_,h=>h
 |.bl _,_,h=>h
 |.int _,_,h=>h
 |.str _,_,h=>h
 |.tup ds,_,h=>by
  unfold Rep at h ⊢;obtain⟨a,vs,q,s,r⟩:=h;exact⟨a,vs,q,Same.seqT e s,Reps.mono e ds r⟩
 |.lst ds,_,h=>by
  unfold Rep at h ⊢;obtain⟨a,vs,q,s,r⟩:=h;exact⟨a,vs,q,Same.seq e s,Reps.mono e ds r⟩
 |.opq,_,h=>by
  unfold Rep at h ⊢;obtain⟨a,kvs,q,s⟩:=h;exact⟨a,kvs,q,e _ _ s⟩
 |.dct ks ds,_,h=>by
  unfold Rep at h ⊢;obtain⟨a,o,vs,q,s,r,l⟩:=h;exact⟨a,o,vs,q,e _ _ s,Reps.mono e ds r,l⟩
theorem Reps.mono (e:Same H H'):∀ (ds:List D) {vs:List V},Reps K H ds vs->Reps K H' ds vs
 |[],_,h=>h
 |d::ds,_,h=>by
  unfold Reps at h ⊢;obtain⟨v,r,q,s,t⟩:=h;exact⟨v,r,q,Rep.mono e d s,Reps.mono e ds t⟩
end
theorem Reps.length:∀ {ds:List D}{vs:List V},Reps K H ds vs->ds.length=vs.length
 |[],_,h=>by unfold Reps at h;rw[h];rfl
 |d::ds,_,h=>by
  unfold Reps at h;obtain⟨v,r,q,_,t⟩:=h;rw[q,List.length_cons,List.length_cons,Reps.length t]
theorem Reps.get:∀ {ds:List D}{vs:List V}{i:Nat}{d:D},Reps K H ds vs->ds[i]?=some d->∃ v,vs[i]?=some v/\Rep K H d v
 |[],_,_,_,_,e=>by simp at e
 |d::ds,_,0,_,h,e=>by
  unfold Reps at h;obtain⟨v,r,rfl,s,_⟩:=h;simp at e;subst e;exact⟨v,rfl,s⟩
 |d::ds,_,i+1,d',h,e=>by
  unfold Reps at h;obtain⟨v,r,rfl,_,t⟩:=h;obtain⟨w,a,b⟩:=Reps.get (i:=i) (d:=d') t (by simpa using e)
  exact⟨w,by simpa using a,b⟩
theorem Reps.app:∀ {ds es:List D}{vs ws:List V},Reps K H ds vs->Reps K H es ws->Reps K H (ds++es) (vs++ws)
 |[],_,_,_,h,h'=>by unfold Reps at h;rw[h];exact h'
 |d::ds,es,_,ws,h,h'=>by
  unfold Reps at h;obtain⟨v,r,rfl,s,t⟩:=h;show Reps K H (d::(ds++es)) (v::(r++ws));unfold Reps;exact⟨v,r++ws,rfl,s,Reps.app t h'⟩
theorem Reps.take:∀ {ds:List D}{vs:List V} (n:Nat),Reps K H ds vs->Reps K H (ds.take n) (vs.take n)
 |[],_,n,h=>by unfold Reps at h;rw[h];simp[Reps]
 |d::ds,vs,0,h=>by simp[Reps]
 |d::ds,_,n+1,h=>by
  unfold Reps at h;obtain⟨v,r,rfl,s,t⟩:=h;show Reps K H (d::ds.take n) (v::r.take n);unfold Reps;exact⟨v,r.take n,rfl,s,Reps.take n t⟩
theorem Reps.drop:∀ {ds:List D}{vs:List V} (n:Nat),Reps K H ds vs->Reps K H (ds.drop n) (vs.drop n)
 |[],_,n,h=>by unfold Reps at h;rw[h];simp[Reps]
 |d::ds,vs,0,h=>by simpa using h
 |d::ds,_,n+1,h=>by
  unfold Reps at h;obtain⟨v,r,rfl,s,t⟩:=h
  simpa using Reps.drop n t
theorem Reps.one {d:D}{v:V} (h:Rep K H d v):Reps K H [d] [v]:=by
 unfold Reps Reps;exact⟨v,[],rfl,h,rfl⟩
theorem Reps.cons {d:D}{ds:List D}{v:V}{vs:List V} (h:Rep K H d v) (t:Reps K H ds vs):Reps K H (d::ds) (v::vs):=by
 unfold Reps;exact⟨v,vs,rfl,h,t⟩
theorem Reps.nil_:Reps K H [] []:=by unfold Reps;rfl
end
structure FC where
 Hi:Hp
 He:Hp
 Ap:List Addr
def OwOk (K:Frag) (H0 H:Hp) (a:Addr):MO->Prop
 |.lst ds=>∃ vs,H a=some (.lst vs)/\Reps K H0 ds vs
 |.dic kds=>∃ ks vs,H a=some (.dK ((ks.map Sum.inr).zip vs))/\ks=kds.map (·.1)/\Reps K H0 (kds.map (·.2)) vs
structure RS (K:Frag) (c:FC) (H0 H:Hp) (ρ:En) (σ:L2.St):Prop where
 same:Same H0 H
 init:Same c.Hi H0
 fresh:∀ b o,H0 b=some o->c.Hi b=some o\/c.He b=none
 keep:∀ b o,c.He b=some o->b∉c.Ap->H b=some o
 apt:∀ a∈c.Ap,H a≠none
 len:ρ.length=σ.length
 im:∀ (i:Nat) (d:D),ρ[i]?=some (.im d)->∃ v,σ[i]?=some (some v)/\Rep K H0 d v
 ow:∀ (i:Nat) (b:Bool) (o:MO),ρ[i]?=some (.ow b o)->∃ a,σ[i]?=some (some (.ref a))/\H0 a=none/\(if b=true then a∈c.Ap else c.He a=none)/\OwOk K H0 H a o
 ne:∀ (i j:Nat) (b b':Bool) (o o':MO) (a:Addr),ρ[i]?=some (.ow b o)->ρ[j]?=some (.ow b' o')->σ[i]?=some (some (.ref a))->σ[j]?=some (some (.ref a))->i=j
section
variable {K:Frag}{c:FC}{H0 H H0' H':Hp}{ρ:En}{σ:L2.St}
theorem OwOk.some {a:Addr}{o:MO} (h:OwOk K H0 H a o):∃ u,H a=Option.some u:=by
 cases o with
 |lst ds=>obtain⟨vs,e,_⟩:=h;exact⟨_,e⟩
 |dic ds=>obtain⟨ks,vs,e,_⟩:=h;exact⟨_,e⟩
theorem OwOk.step {a:Addr}{o:MO} (h:OwOk K H0 H a o) (s0:Same H0 H0') (s:∀ u,H a=Option.some u->H' a=Option.some u):OwOk K H0' H' a o:=by
 cases o with
 |lst ds=>obtain⟨vs,e,r⟩:=h;exact⟨vs,s _ e,Reps.mono s0 ds r⟩
 |dic ds=>obtain⟨ks,vs,e,q,r⟩:=h;exact⟨ks,vs,s _ e,q,Reps.mono s0 _ r⟩
structure Step (H0 H H0' H':Hp):Prop where
 s0:Same H0 H0'
 s:Same H H'
 s':Same H0' H'
 fr:∀ b o,H0' b=some o->H0 b=some o\/H b=none
theorem RS.after (R:RS K c H0 H ρ σ) (S:Step H0 H H0' H'):RS K c H0' H' ρ σ:=by
 refine⟨S.s',R.init.trans S.s0,λ b o e=>?_,λ b o e n=>S.s _ _ (R.keep b o e n),λ a ha e=>?_,R.len,λ i d e=>?_,λ i b o e=>?_,R.ne⟩
 ·rcases S.fr b o e with h | h
  ·exact R.fresh b o h
  ·refine .inr ?_
   cases q:c.He b with
   |none=>rfl
   |some u =>
    by_cases hb:b∈c.Ap
    ·exact absurd h (R.apt b hb)
    ·rw[R.keep b u q hb] at h;cases h
 ·cases q:H a with
  |none=>exact R.apt a ha q
  |some u=>rw[S.s _ _ q] at e;cases e
 ·obtain⟨v,a,b⟩:=R.im i d e
  exact⟨v,a,Rep.mono S.s0 d b⟩
 ·obtain⟨a,x,y,z,w⟩:=R.ow i b o e
  refine⟨a,x,?_,z,w.step S.s0 λ u q=>S.s _ _ q⟩
  obtain⟨u,q⟩:=w.some;cases t:H0' a with
  |none=>rfl
  |some o' =>
   rcases S.fr a o' t with h | h
   ·rw[y] at h;cases h
   ·rw[q] at h;cases h
theorem Step.refl (s:Same H0 H):Step H0 H H0 H:=⟨Same.refl _,Same.refl _,s,λ _ _ e=>.inl e⟩
theorem Step.trans {A B:Hp} (x:Step H0 H H0' H') (y:Step H0' H' A B):Step H0 H A B:=by
 refine⟨x.s0.trans y.s0,x.s.trans y.s,y.s',λ b o e=>?_⟩
 rcases y.fr b o e with h | h
 ·exact x.fr b o h
 ·exact .inr (x.s.free h)
theorem Step.alloc {p:Addr}{o:HO} (s:Same H0 H) (hp:H p=none):Step H0 H (upd H0 p o) (upd H p o):=by
 have h0:H0 p=none:=s.free hp;refine⟨λ b u e=>by rw[a_3 (a_5 e h0)];exact e,λ b u e=>by rw[a_3 (a_5 e hp)];exact e,λ b u e=>?_,λ b u e=>?_⟩
 ·by_cases hb:b=p
  ·subst hb;rw[a_2] at e ⊢;exact e
  ·rw[a_3 hb] at e ⊢;exact s _ _ e
 ·by_cases hb:b=p
  ·subst hb;exact .inr hp
  ·rw[a_3 hb] at e;exact .inl e
end
def tE (K:Frag) (F:FE):TE:=λ σ H Q=>∃ c H0 ρ d ρ',RS K c H0 H ρ σ/\F ρ=some (d,ρ')/\∀ v H0' H',Same H0 H0'->RS K c H0' H' ρ' σ->Rep K H0' d v->Q v H'
def tTt (K:Frag) (F:FT):TT:=λ σ H Q=>∃ c H0 ρ b ρ',RS K c H0 H ρ σ/\F ρ=some (b,ρ')/\∀ H0' H',Same H0 H0'->RS K c H0' H' ρ' σ->Q b H'
def tAa (K:Frag) (F:FA):TA:=λ σ H Q=>∃ c H0 ρ ds ρ',RS K c H0 H ρ σ/\F ρ=some (ds,ρ')/\∀ vs H0' H',Same H0 H0'->RS K c H0' H' ρ' σ->Reps K H0' ds vs->Q vs H'
def tOo (K:Frag) (F:FO):TO:=λ σ H Q=>∃ c H0 ρ o ρ',RS K c H0 H ρ σ/\F ρ=some (o,ρ')/\∀ H0' H',Same H0 H0'->RS K c H0' H' ρ' σ->Q o H'
def XE (X:Cx) (e:Expr) (F:FE):Prop:=PE X e (tE X.K F)
def XT (X:Cx) (e:Expr) (F:FT):Prop:=PT X e (tTt X.K F)
def XW (X:Cx) (e:Expr) (F:FT):Prop:=PW X e (tTt X.K F)
def XA (X:Cx) (es:List Expr) (F:FA):Prop:=PA X es (tAa X.K F)
def XO (X:Cx) (e:Option Expr) (F:FO):Prop:=PO X e (tOo X.K F)
theorem a_0 {α β:Type}{x:Option α}{f:α->Option β}{b:β} (h:bnd x f=some b):∃ a,x=some a/\f a=some b:=by
 cases x with
 |none=>cases h
 |some a=>exact⟨a,rfl,h⟩
theorem PE.wk {X:Cx}{e:Expr}{t t':TE} (h:PE X e t) (w:∀ σ H Q,t' σ H Q->t σ H Q):PE X e t':=λ pins s σ H Q I q=>h pins s σ H Q I (w σ H Q q)
theorem PT.wk {X:Cx}{e:Expr}{t t':TT} (h:PT X e t) (w:∀ σ H Q,t' σ H Q->t σ H Q):PT X e t':=λ pins s σ H Q I q=>h pins s σ H Q I (w σ H Q q)
theorem PW.wk {X:Cx}{e:Expr}{t t':TT} (h:PW X e t) (w:∀ σ H Q,t' σ H Q->t σ H Q):PW X e t':=λ wh pins s σ H Q I q=>h wh pins s σ H Q I (w σ H Q q)
theorem PA.wk {X:Cx}{e:List Expr}{t t':TA} (h:PA X e t) (w:∀ σ H Q,t' σ H Q->t σ H Q):PA X e t':=λ pos pins s σ H Q I q=>h pos pins s σ H Q I (w σ H Q q)
theorem PS.wk {X:Cx}{e:Stmt}{t t':TS} (h:PS X e t) (w:∀ D σ H,t' D σ H->t D σ H):PS X e t':=λ pins s σ H D I q=>h pins s σ H D I (w D σ H q)
theorem PSs.wk {X:Cx}{e:List Stmt}{t t':TS} (h:PSs X e t) (w:∀ D σ H,t' D σ H->t D σ H):PSs X e t':=λ pins s σ H D I q=>h pins s σ H D I (w D σ H q)
section
variable {X:Cx}{pos:Pos}{a b e:Expr}{F G L:FE}{T U:FT}
theorem xv (i:Nat) {x:Str} (hN:X.N[i]?=some x:=by rfl) (hv:Vis X.env.scope x:=by first | exact Or.inl rfl | exact Or.inr (Or.inl rfl) | exact Or.inr (Or.inr rfl)) (hd:(x==("__debug__":Str))=false:=by decide)
  (hcd:(x==("__classdict__":Str))=false:=by decide):XE X (.Name x pos) (eV i) :=
 PE.wk (j_9 hN hv hd hcd) λ σ H Q hh0_=>by
  obtain⟨c,H0,ρ,d,ρ',R,f,q⟩:=hh0_;unfold eV at f;cases z:ρ[i]? with
  |none=>rw[z] at f;cases f
  |some sl =>
   rw[z] at f;cases sl with
   |no=>cases f
   |ow b o=>cases f
   |im d' =>
    have f':some (d',ρ)=some (d,ρ'):=f;cases f';obtain⟨v,e1,e2⟩:=R.im i _ z;exact⟨v,e1,q v H0 H (Same.refl _) R e2⟩
theorem p_6 {d d':D}{ρ ρ':En} (h:eC d ρ=some (d',ρ')):d'=d/\ρ'=ρ:=by
 have h':some (d,ρ)=some (d',ρ'):=h;cases h';exact⟨rfl,rfl⟩
theorem b_8 {i:Int}{j}:XE X (.Constant (.int i) j pos) (eC (.int i)):=PE.wk R_0 λ σ H Q hh0_=>by
 obtain⟨c,H0,ρ,d,ρ',R,f,q⟩:=hh0_;obtain⟨rfl,rfl⟩:=p_6 f;exact q _ H0 H (Same.refl _) R (by unfold Rep;rfl)
theorem xbl {i:Bool}{j}:XE X (.Constant (.bool i) j pos) (eC (.bl i)):=PE.wk aT2 λ σ H Q hh0_=>by
 obtain⟨c,H0,ρ,d,ρ',R,f,q⟩:=hh0_;obtain⟨rfl,rfl⟩:=p_6 f;exact q _ H0 H (Same.refl _) R (by unfold Rep;rfl)
theorem B_0 {j}:XE X (.Constant .none j pos) (eC .non):=PE.wk ah4 λ σ H Q hh0_=>by
 obtain⟨c,H0,ρ,d,ρ',R,f,q⟩:=hh0_;obtain⟨rfl,rfl⟩:=p_6 f;exact q _ H0 H (Same.refl _) R (by unfold Rep;rfl)
theorem a_4 {x:Str}{j}:XE X (.Constant (.str x) j pos) (eC (.str x)):=PE.wk ah3 λ σ H Q hh0_=>by
 obtain⟨c,H0,ρ,d,ρ',R,f,q⟩:=hh0_;obtain⟨rfl,rfl⟩:=p_6 f;exact q _ H0 H (Same.refl _) R (by unfold Rep;rfl)
abbrev Aft (K:Frag) (c:FC) (H0:Hp) (ρ:En) (σ:L2.St) (d:D) (Q:VK):Prop:=∀ v H0' H',Same H0 H0'->RS K c H0' H' ρ σ->Rep K H0' d v->Q v H'
def OpD (K:Frag) (r:R2) (op:D->D->Option D):Prop:=∀ (c:FC) (H0 H:Hp) (ρ:En) (σ:L2.St) (x y d:D) (vx vy:V) (Q:VK),RS K c H0 H ρ σ->Rep K H0 x vx->Rep K H0 y vy->op x y=some d->Aft K c H0 ρ σ d Q->r vx vy H Q
def E_5 (X:Cx) (op:Operator) (f:D->D->Option D):Prop:=∃ r,OpR X (binaryOp op) r/\OpD X.K r f
def h_7 (X:Cx) (op:CmpOp) (f:D->D->Option D):Prop:=∃ r,OpR X (compareOp op) r/\OpD X.K r f
theorem n_0 {op:D->D->Option D}{ρ ρ':En}{d:D} (h:e2 op F G ρ=some (d,ρ')):∃ x ρ1 y,F ρ=some (x,ρ1)/\G ρ1=some (y,ρ')/\op x y=some d:=by
 unfold e2 at h;obtain⟨⟨x,ρ1⟩,h1,h⟩:=a_0 h;obtain⟨⟨y,ρ2⟩,h2,h⟩:=a_0 h;obtain⟨z,h3,h⟩:=a_0 h;have h':some (z,ρ2)=some (d,ρ'):=h;cases h';exact⟨x,ρ1,y,h1,h2,h3⟩
theorem F_2 {K:Frag}{op:D->D->Option D}{r:R2} (o:OpD K r op) {σ:L2.St}{H:Hp}{Q:VK} (h:tE K (e2 op F G) σ H Q):tOp r (tE K F) (tE K G) σ H Q:=by
 obtain⟨c,H0,ρ,d,ρ',R,f,q⟩:=h;obtain⟨x,ρ1,y,h1,h2,h3⟩:=n_0 f;refine⟨c,H0,ρ,x,ρ1,R,h1,λ vx H1 Hh s1 R1 r1=>?_⟩
 refine⟨c,H1,ρ1,y,ρ',R1,h2,λ vy H2 Hh2 s2 R2 r2=>?_⟩
 exact o c H2 Hh2 ρ' σ x y d vx vy Q R2 (Rep.mono s2 x r1) r2 h3 λ v H3 Hh3 s3 R3 r3=>q v H3 Hh3 (s1.trans (s2.trans s3)) R3 r3
theorem xb {op:Operator}{f:D->D->Option D} (o:E_5 X op f) (ha:XE X a F) (hb:XE X b G):XE X (.BinOp a op b pos) (e2 f F G):=by
 obtain⟨r,h1,h2⟩:=o;exact PE.wk (an6 h1 ha hb) λ σ H Q h=>F_2 h2 h
theorem k_5 {op:CmpOp}{f:D->D->Option D} (o:h_7 X op f) (ha:XE X a F) (hb:XE X b G) (hm:behindInMarks op b=false:=by first | exact S_2 _ | with_unfolding_all rfl):XE X (.Compare a [op] [b] pos) (e2 f F G):=by
 obtain⟨r,h1,h2⟩:=o;exact PE.wk (an8 h1 ha hb hm) λ σ H Q h=>F_2 h2 h
theorem al5 {K:Frag}{t:TE}{σ:L2.St}{H:Hp}{Q:Bool->Hp->Prop} (w:∀ Q,tE K F σ H Q->t σ H Q) (h:tTt K (tB F) σ H Q):al2 t σ H Q:=by
 obtain⟨c,H0,ρ,b,ρ',R,f,q⟩:=h;unfold tB at f;obtain⟨⟨d,ρ1⟩,h1,f⟩:=a_0 f;obtain⟨b',h2,f⟩:=a_0 f;have f':some (b',ρ1)=some (b,ρ'):=f;cases f';refine w _ ⟨c,H0,ρ,d,_,R,h1,λ v H1 Hh s1 R1 r1=>?_⟩
 cases d with
 |bl k =>
  have e:k=b:=qh h2;unfold Rep at r1;exact⟨k,r1,by rw[e];exact q H1 Hh s1 R1⟩
 |_=>cases h2
theorem xt {op:CmpOp}{f:D->D->Option D} (o:h_7 X op f) (ha:XE X a F) (hb:XE X b G) (hm:behindInMarks op b=false:=by first | exact S_2 _ | with_unfolding_all rfl):XT X (.Compare a [op] [b] pos) (tB (e2 f F G)):=by
 obtain⟨r,h1,h2⟩:=o;exact PT.wk (an0 h1 ha hb hm) λ σ H Q h=>al5 (λ Q h=>F_2 h2 h) h
theorem F_4 {K:Frag}{op op':D->D->Option D}{r r':R2} (o:OpD K r op) (o':OpD K r' op') {σ:L2.St}{H:Hp}{Q:VK} (h:tE K (e3 op op' F G L) σ H Q):P_2 r r' (tE K F) (tE K G) (tE K L) σ H Q:=by
 obtain⟨c,H0,ρ,d,ρ',R,f,q⟩:=h;unfold e3 at f;obtain⟨⟨x,ρ1⟩,h1,f⟩:=a_0 f;obtain⟨⟨y,ρ2⟩,h2,f⟩:=a_0 f;obtain⟨z,h3,f⟩:=a_0 f;obtain⟨k,h4,f⟩:=a_0 f;dsimp only at h2 h3 h4 f;refine⟨c,H0,ρ,x,ρ1,R,h1,λ vx H1 Hh s1 R1 r1=>?_⟩
 refine⟨c,H1,ρ1,y,ρ2,R1,h2,λ vy H2 Hh2 s2 R2 r2=>?_⟩
 refine o c H2 Hh2 ρ2 σ x y z vx vy _ R2 (Rep.mono s2 x r1) r2 h3 λ v H3 Hh3 s3 R3 r3=>?_
 cases z with
 |bl k' =>
  have e:k'=k:=qh h4;subst e;unfold Rep at r3;refine⟨k',r3,?_⟩;cases k' with
  |false =>
   rw[if_neg Bool.false_ne_true] at f ⊢;have f':some (D.bl false,ρ2)=some (d,ρ'):=f;cases f';exact q _ H3 Hh3 (s1.trans (s2.trans s3)) R3 (by unfold Rep;rfl)
  |true =>
   rw[if_pos rfl] at f ⊢;obtain⟨⟨w,ρ3⟩,h5,f⟩:=a_0 f;obtain⟨d',h6,f⟩:=a_0 f;dsimp only at h6 f;have f':some (d',ρ3)=some (d,ρ'):=f;cases f';refine⟨c,H3,ρ2,w,_,R3,h5,λ vw H4 Hh4 s4 R4 r4=>?_⟩
   exact o' c H4 Hh4 _ σ y w d vy vw Q R4 (Rep.mono s4 y (Rep.mono s3 y r2)) r4 h6 λ v H5 Hh5 s5 R5 r5=>q v H5 Hh5 (s1.trans (s2.trans (s3.trans (s4.trans s5)))) R5 r5
 |_=>cases h4
theorem Y_6 {op op':CmpOp}{f f':D->D->Option D}{m:Expr} (o:h_7 X op f) (o':h_7 X op' f') (ha:XE X a F) (hb:XE X b G) (hc:XE X m L) (hm:lastMarks [op,op'] [b,m]=false:=by with_unfolding_all rfl):XE X (.Compare a [op,op'] [b,m] pos) (e3 f f' F G L):=by
 obtain⟨r,h1,h2⟩:=o;obtain⟨r',h1',h2'⟩:=o';exact PE.wk (ab2 h1 h1' ha hb hc hm) λ σ H Q h=>F_4 h2 h2' h
theorem xt3 {op op':CmpOp}{f f':D->D->Option D}{m:Expr} (o:h_7 X op f) (o':h_7 X op' f') (ha:XE X a F) (hb:XE X b G) (hc:XE X m L) (hm:lastMarks [op,op'] [b,m]=false:=by with_unfolding_all rfl):XT X (.Compare a [op,op'] [b,m] pos) (tB (e3 f f' F G L)):=by
 obtain⟨r,h1,h2⟩:=o;obtain⟨r',h1',h2'⟩:=o';exact PT.wk (aa4 h1 h1' ha hb hc hm) λ σ H Q h=>al5 (λ Q h=>F_4 h2 h2' h) h
theorem xif {c:Expr} (hc:XT X c T) (ha:XE X a F) (hb:XE X b G):XE X (.IfExp c a b pos) (eIf T F G):=PE.wk (ab0 hc ha hb) λ σ H Q hh0_=>by
 obtain⟨c,H0,ρ,d,ρ',R,f,q⟩:=hh0_;unfold eIf at f;obtain⟨⟨k,ρ1⟩,h1,f⟩:=a_0 f;dsimp only at f;refine⟨c,H0,ρ,k,ρ1,R,h1,λ H1 Hh s1 R1=>?_⟩
 cases k with
 |true =>
  rw[if_pos rfl] at f ⊢;exact⟨c,H1,ρ1,d,ρ',R1,f,λ v H2 Hh2 s2 R2 r2=>q v H2 Hh2 (s1.trans s2) R2 r2⟩
 |false =>
  rw[if_neg Bool.false_ne_true] at f ⊢;exact⟨c,H1,ρ1,d,ρ',R1,f,λ v H2 Hh2 s2 R2 r2=>q v H2 Hh2 (s1.trans s2) R2 r2⟩
theorem w_2 {op} (h:XE X a F):XE X (.BoolOp op [a] pos) F:=aD2 h
variable {rest:List Expr}
theorem Y_7 (ha:XE X a F) (hb:XE X (.BoolOp .And (b::rest) pos) G):XE X (.BoolOp .And (a::b::rest) pos) (V_4 F G):=PE.wk (aD6 ha hb) λ σ H Q hh0_=>by
 obtain⟨c,H0,ρ,d,ρ',R,f,q⟩:=hh0_;unfold V_4 at f;obtain⟨⟨z,ρ1⟩,h1,f⟩:=a_0 f;obtain⟨k,h2,f⟩:=a_0 f;dsimp only at h2 f;refine⟨c,H0,ρ,z,ρ1,R,h1,λ v H1 Hh s1 R1 r1=>?_⟩
 cases z with
 |bl k' =>
  have e:k'=k:=qh h2;subst e;unfold Rep at r1;refine⟨k',r1,?_⟩;cases k' with
  |true =>
   rw[if_pos rfl] at f ⊢;exact⟨c,H1,ρ1,d,ρ',R1,f,λ v H2 Hh2 s2 R2 r2=>q v H2 Hh2 (s1.trans s2) R2 r2⟩
  |false =>
   rw[if_neg Bool.false_ne_true] at f ⊢;have f':some (D.bl false,ρ1)=some (d,ρ'):=f;cases f';exact q _ H1 Hh s1 R1 (by unfold Rep;rfl)
 |_=>cases h2
theorem xor (ha:XE X a F) (hb:XE X (.BoolOp .Or (b::rest) pos) G):XE X (.BoolOp .Or (a::b::rest) pos) (eOr F G):=PE.wk (aT0 ha hb) λ σ H Q hh0_=>by
 obtain⟨c,H0,ρ,d,ρ',R,f,q⟩:=hh0_;unfold eOr at f;obtain⟨⟨z,ρ1⟩,h1,f⟩:=a_0 f;obtain⟨k,h2,f⟩:=a_0 f;dsimp only at h2 f;refine⟨c,H0,ρ,z,ρ1,R,h1,λ v H1 Hh s1 R1 r1=>?_⟩
 cases z with
 |bl k' =>
  have e:k'=k:=qh h2;subst e;unfold Rep at r1;refine⟨k',r1,?_⟩;cases k' with
  |true =>
   rw[if_pos rfl] at f ⊢;have f':some (D.bl true,ρ1)=some (d,ρ'):=f;cases f';exact q _ H1 Hh s1 R1 (by unfold Rep;rfl)
  |false =>
   rw[if_neg Bool.false_ne_true] at f ⊢;exact⟨c,H1,ρ1,d,ρ',R1,f,λ v H2 Hh2 s2 R2 r2=>q v H2 Hh2 (s1.trans s2) R2 r2⟩
 |_=>cases h2
theorem xw (h:XW X a T):XT X a T:=PW.pt h
theorem af5 (ha:XT X a T):XW X (.BoolOp .And [a] pos) T:=am6 ha
theorem w_1 (ha:XT X a T):XW X (.BoolOp .Or [a] pos) T:=aC3 ha
theorem ay1 (ha:XT X a T) (hb:XW X (.BoolOp .And (b::rest) pos) U):XW X (.BoolOp .And (a::b::rest) pos) (tAnd T U):=PW.wk (aC4 ha hb) λ σ H Q hh0_=>by
 obtain⟨c,H0,ρ,k,ρ',R,f,q⟩:=hh0_;unfold tAnd at f;obtain⟨⟨k',ρ1⟩,h1,f⟩:=a_0 f;dsimp only at f;refine⟨c,H0,ρ,k',ρ1,R,h1,λ H1 Hh s1 R1=>?_⟩
 cases k' with
 |true =>
  rw[if_pos rfl] at f ⊢;exact⟨c,H1,ρ1,k,ρ',R1,f,λ H2 Hh2 s2 R2=>q H2 Hh2 (s1.trans s2) R2⟩
 |false =>
  rw[if_neg Bool.false_ne_true] at f ⊢;have f':some (false,ρ1)=some (k,ρ'):=f;cases f';exact q H1 Hh s1 R1
theorem O_2 (ha:XT X a T) (hb:XW X (.BoolOp .Or (b::rest) pos) U):XW X (.BoolOp .Or (a::b::rest) pos) (tOr T U):=PW.wk (aS7 ha hb) λ σ H Q hh0_=>by
 obtain⟨c,H0,ρ,k,ρ',R,f,q⟩:=hh0_;unfold tOr at f;obtain⟨⟨k',ρ1⟩,h1,f⟩:=a_0 f;dsimp only at f;refine⟨c,H0,ρ,k',ρ1,R,h1,λ H1 Hh s1 R1=>?_⟩
 cases k' with
 |true =>
  rw[if_pos rfl] at f ⊢;have f':some (true,ρ1)=some (k,ρ'):=f;cases f';exact q H1 Hh s1 R1
 |false =>
  rw[if_neg Bool.false_ne_true] at f ⊢;exact⟨c,H1,ρ1,k,ρ',R1,f,λ H2 Hh2 s2 R2=>q H2 Hh2 (s1.trans s2) R2⟩
theorem o_1 (ha:XT X a T):XT X (.UnaryOp .Not a pos) (tNot T):=PT.wk (aC6 ha) λ σ H Q hh0_=>by
 obtain⟨c,H0,ρ,k,ρ',R,f,q⟩:=hh0_;unfold tNot at f;obtain⟨⟨k',ρ1⟩,h1,f⟩:=a_0 f;have f':some (!k',ρ1)=some (k,ρ'):=f;cases f';exact⟨c,H0,ρ,k',_,R,h1,λ H1 Hh s1 R1=>q H1 Hh s1 R1⟩
theorem ag3 {K:Frag}{H0 H:Hp}{d:D}{v:V}{k:Bool} (s:Same H0 H) (r:Rep K H0 d v) (h:ax5 d=some k):aZ1 K v H k:=by
 cases d with
 |non=>unfold Rep at r;subst r;cases h;rfl
 |bl b=>unfold Rep at r;subst r;cases h;rfl
 |int i=>unfold Rep at r;subst r;cases h;rfl
 |str x=>cases h
 |opq=>cases h
 |dct ks vs=>cases h
 |tup ds =>
  unfold Rep at r;obtain⟨p,vs,rfl,q,t⟩:=r;have e:(!ds.isEmpty)=k:=qh h;have e2:ds.isEmpty=vs.isEmpty:=by rw[Bool.eq_iff_iff,List.isEmpty_iff_length_eq_zero,List.isEmpty_iff_length_eq_zero,t.length]
  exact .inr (.inl ⟨vs,Same.seqT s q,by rw[<- e2];exact e.symm⟩)
 |lst ds =>
  unfold Rep at r;obtain⟨p,vs,rfl,q,t⟩:=r;have e:(!ds.isEmpty)=k:=qh h;have e2:ds.isEmpty=vs.isEmpty:=by rw[Bool.eq_iff_iff,List.isEmpty_iff_length_eq_zero,List.isEmpty_iff_length_eq_zero,t.length]
  exact .inl ⟨vs,Same.seq s q,by rw[<- e2];exact e.symm⟩
theorem xtv (ha:XE X a F) (he:∀ whole,isTrue a X.env whole=(do let v <- whole;standAt a.pos;holding [v] (truthy v))):XT X a (tV F):=PT.wk (aa3 ha he) λ σ H Q hh0_=>by
 obtain⟨c,H0,ρ,k,ρ',R,f,q⟩:=hh0_;unfold tV at f;obtain⟨⟨d,ρ1⟩,h1,f⟩:=a_0 f;obtain⟨k',h2,f⟩:=a_0 f;have f':some (k',ρ1)=some (k,ρ'):=f;cases f';exact⟨c,H0,ρ,d,_,R,h1,λ v H1 Hh s1 R1 r1=>⟨k,ag3 R1.same r1 h2,q H1 Hh s1 R1⟩⟩
theorem xaN:XA X [] aN:=PA.wk i_1 λ σ H Q hh0_=>by
 obtain⟨c,H0,ρ,ds,ρ',R,f,q⟩:=hh0_;have f':some (([]:List D),ρ)=some (ds,ρ'):=f;cases f';exact q [] H0 H (Same.refl _) R Reps.nil_
theorem xaC {es:List Expr}{A:FA} (ha:XE X e F) (hr:XA X es A) (hs:starEach (e::es) X.env=(false,eval e X.env)::starEach es X.env:=by rfl):XA X (e::es) (aC F A):=PA.wk (e_2 ha hr hs) λ σ H Q hh0_=>by
 obtain⟨c,H0,ρ,ds,ρ',R,f,q⟩:=hh0_;unfold aC at f;obtain⟨⟨d,ρ1⟩,h1,f⟩:=a_0 f;obtain⟨⟨r,ρ2⟩,h2,f⟩:=a_0 f;have f':some (d::r,ρ2)=some (ds,ρ'):=f;cases f';refine⟨c,H0,ρ,d,ρ1,R,h1,λ v H1 Hh s1 R1 r1=>?_⟩
 refine⟨c,H1,ρ1,r,_,R1,h2,λ vs H2 Hh2 s2 R2 r2=>?_⟩
 exact q _ H2 Hh2 (s1.trans s2) R2 (Reps.cons (Rep.mono s2 d r1) r2)
theorem al6 {n:Nat} (h:n<=1000):n<=sizeLine:=Nat.le_of_lt (o_2 h)
theorem aw0 {es:List Expr}{A:FA}{x1} (h:XA X es A):XE X (.Tuple es x1 pos) (aj0 A):=PE.wk (aD1 h) λ σ H Q hh0_=>by
 obtain⟨c,H0,ρ,d,ρ',R,f,q⟩:=hh0_;unfold aj0 at f;obtain⟨⟨ds,ρ1⟩,h1,f⟩:=a_0 f;dsimp only at f
 split at f
 ·rename_i hl
  cases f;refine⟨c,H0,ρ,ds,_,R,h1,λ vs H1 Hh s1 R1 r1=>⟨by rw[<- r1.length];exact al6 hl,λ p hp=>?_⟩⟩
  have S:=Step.alloc (o:=.tup vs) R1.same hp;refine q _ _ _ (s1.trans S.s0) (R1.after S) ?_;unfold Rep;exact⟨p,vs,rfl,.inl (.inl a_2),Reps.mono S.s0 ds r1⟩
 ·cases f
theorem f_2 {es:List Expr}{A:FA} (h:XA X es A):XE X (.List es pos) (d_7 A):=PE.wk (ah5 h) λ σ H Q hh0_=>by
 obtain⟨c,H0,ρ,d,ρ',R,f,q⟩:=hh0_;unfold d_7 at f;obtain⟨⟨ds,ρ1⟩,h1,f⟩:=a_0 f;dsimp only at f
 split at f
 ·rename_i hl
  cases f;refine⟨c,H0,ρ,ds,_,R,h1,λ vs H1 Hh s1 R1 r1=>⟨by rw[<- r1.length];exact al6 hl,λ p hp=>?_⟩⟩
  have S:=Step.alloc (o:=.lst vs) R1.same hp;refine q _ _ _ (s1.trans S.s0) (R1.after S) ?_;unfold Rep;exact⟨p,vs,rfl,.inl (.inl a_2),Reps.mono S.s0 ds r1⟩
 ·cases f
theorem aJ1:@dPl=@ixN:=rfl
theorem aK3 {K:Frag}{H:Hp}{ds:List D}{vs:List V}{i:Int}{d:D} (r:Reps K H ds vs) (h:atD ds i=some d):∃ v,atI vs i=some v/\Rep K H d v:=by
 unfold atD at h;obtain⟨j,h1,h2⟩:=a_0 (x:=dPl ds.length i) (f:=λ j=>ds[j]?) h
 obtain⟨v,e1,e2⟩:=r.get h2;refine⟨v,?_,e2⟩;unfold atI;rw[<- r.length,<- aJ1,h1];exact e1
theorem PO.wk {X:Cx}{e:Option Expr}{t t':TO} (h:PO X e t) (w:∀ σ H Q,t' σ H Q->t σ H Q):PO X e t':=λ pins s σ H Q I q=>h pins s σ H Q I (w σ H Q q)
theorem xoN:XO X none oN:=PO.wk Q_7 λ σ H Q hh0_=>by
 obtain⟨c,H0,ρ,o,ρ',R,f,q⟩:=hh0_;have f':some ((none:Option Int),ρ)=some (o,ρ'):=f;cases f';exact q H0 H (Same.refl _) R
theorem xoS (h:XE X e F):XO X (some e) (oS F):=PO.wk (Q_6 h) λ σ H Q hh0_=>by
 obtain⟨c,H0,ρ,o,ρ',R,f,q⟩:=hh0_;unfold oS at f;obtain⟨⟨d,ρ1⟩,h1,f⟩:=a_0 f;obtain⟨i,h2,f⟩:=a_0 f;dsimp only at h2 f;have f':some (some i,ρ1)=some (o,ρ'):=f;cases f';refine⟨c,H0,ρ,d,_,R,h1,λ v H1 Hh s1 R1 r1=>?_⟩
 cases d with
 |int j =>
  have e:j=i:=qh h2;subst e;unfold Rep at r1;exact⟨j,r1,q H1 Hh s1 R1⟩
 |_=>cases h2
theorem v_5 (n d:Nat) (o:Option Int):X_7 n d o=HT.sIx n d o:=by cases o <;> rfl
theorem aj4 {K:Frag}{H:Hp}{ds:List D}{vs:List V} (r:Reps K H ds vs) (lo hi:Option Int):Reps K H (ax7 ds lo hi) (X_8 vs lo hi):=by
 unfold ax7 X_8;rw[v_5,v_5,r.length];exact (r.drop _).take _
end
section
variable {X:Cx}{K:Frag}
theorem C_1 {C:Int->Int->Prop}{g:Int->Int->V}{f:D->D->Option D} (h:∀ x y d,f x y=some d->∃ i j,x=.int i/\y=.int j/\C i j/\∀ H,Rep K H d (g i j)):OpD K (rI C g) f:=λ c H0 H ρ σ x y d vx vy Q R r1 r2 e q=>by
 obtain⟨i,j,rfl,rfl,hc,hr⟩:=h x y d e;unfold Rep at r1 r2;exact⟨i,j,r1,r2,hc,q _ H0 H (Same.refl _) R (hr H0)⟩
theorem G_6 {g:Int->Int->V}{f:D->D->Option D} (h:∀ x y d,f x y=some d->∃ i j,x=.int i/\y=.int j/\∀ H,Rep K H d (g i j)):OpD K (rI0 g) f:=λ c H0 H ρ σ x y d vx vy Q R r1 r2 e q=>by
 obtain⟨i,j,rfl,rfl,hr⟩:=h x y d e;unfold Rep at r1 r2;exact⟨i,j,r1,r2,q _ H0 H (Same.refl _) R (hr H0)⟩
theorem d_2 (H:Hp) (i:Int):Rep K H (.int i) (.int i):=by unfold Rep;rfl
theorem j_8 (H:Hp) (i:Bool):Rep K H (.bl i) (.bl i):=by unfold Rep;rfl
theorem ifs {c:Prop} [Decidable c] {α:Type}{a d:α} (h:(if c then some a else none)=some d):c/\a=d:=by
 by_cases hc:c
 ·rw[if_pos hc] at h;exact⟨hc,qh h⟩
 ·rw[if_neg hc] at h;cases h
theorem aU3:E_5 X .Sub aN9:=⟨_,aD8,G_6 λ x y d e=>by
 obtain⟨i,j,rfl,rfl,e⟩:=x_6 e;cases e;exact⟨_,_,rfl,rfl,λ H=>d_2 H _⟩⟩
def CMulD (i j:Int):Prop:=ab5 i j=true
theorem m_9 {i:Int} (h:aY8 i=true):Builtin.Int.intBits i<=1000:=by
 have h:i.natAbs<2 ^ 1000:=of_decide_eq_true h;unfold Builtin.Int.intBits
 split
 ·exact Nat.zero_le _
 ·rename_i hz
  have hz:i≠0:=by simpa using hz
  have h0:i.natAbs≠0:=by omega
  have:=(Nat.log2_lt h0).mpr h;omega
theorem CMulD.ok {i j:Int} (h:CMulD i j):IntMulOk i j:=by
 unfold CMulD ab5 at h;simp only[Bool.or_eq_true,Bool.and_eq_true,decide_eq_true_eq] at h
 rcases h with (h | h) | ⟨h1,h2⟩
 ·exact IntMulOk.of_left (intBits_le_64 (by omega) (by omega))
 ·exact IntMulOk.of_right (intBits_le_64 (by omega) (by omega))
 ·unfold IntMulOk
  have b1:=m_9 h1;have b2:=m_9 h2
  have:Builtin.Int.intTooBig ((Builtin.Int.intBits i:Int)+(Builtin.Int.intBits j:Int))=false:=by
   unfold Builtin.Int.intTooBig;refine decide_eq_false ?_;have:(2000:Int)<=bitsLine:=by decide
   omega
  simp[this]
theorem bk7:E_5 X .Mult bf8:=⟨rI CMulD λ i j=>.int (i*j),opI λ _ _ _ _ _ _ _ hc q=>mul_int q hc.ok,C_1 λ x y d e=>by
 obtain⟨i,j,rfl,rfl,e⟩:=x_6 e;obtain⟨h,rfl⟩:=ifs (c:=ab5 i j=true) e;exact⟨_,_,rfl,rfl,h,λ H=>d_2 H _⟩⟩
def aL0 (i j:Int):Prop:=k_1 j=true
theorem aM9:E_5 X .FloorDiv ae4:=⟨rI aL0 λ i j=>.int (i.fdiv j),opI λ i j _ _ _ _ _ hc q=>by
  unfold aL0 k_1 at hc;simp only[Bool.and_eq_true,decide_eq_true_eq] at hc;refine floordiv_int hc.1 q (.inl (PyProof.noPylong_of_log2 ?_));have h0:j.natAbs≠0:=by have:=hc.1;omega
  have:=(Nat.log2_lt h0).mpr hc.2
  omega,C_1 λ x y d e=>by
 obtain⟨i,j,rfl,rfl,e⟩:=x_6 e;obtain⟨h,rfl⟩:=ifs (c:=k_1 j=true) e;exact⟨_,_,rfl,rfl,h,λ H=>d_2 H _⟩⟩
theorem ao9:E_5 X .Mod z_0:=⟨_,ao4,C_1 λ x y d e=>by
 obtain⟨i,j,rfl,rfl,e⟩:=x_6 e;obtain⟨h,rfl⟩:=ifs (c:=j≠0) e;exact⟨_,_,rfl,rfl,h,λ H=>d_2 H _⟩⟩
def aC2 (K:Frag):R2:=λ x y H Q=>∃ l b xs zs,x=.ref l/\y=.ref b/\SqL K H l xs/\SqL K H b zs/\xs.length+zs.length<=sizeLine/\∀ p,H p=none->Q (.ref p) (upd H p (.lst (xs++zs)))
theorem R_7:OpR X (binaryOp .Add) (aC2 X.K):=by
 intro pins s σ H x y v u Q I rx ry h;obtain⟨l,b,xs,zs,rfl,rfl,hH,hB,hz,q⟩:=h;cases rx;cases ry;obtain⟨its,r,pl,_⟩:=I.list hH;obtain⟨its2,r2,pl2,_⟩:=I.list hB;have hl:=r.length;have hl2:=r2.length;obtain⟨⟨cls,dd,data,sl⟩,ho,hc,n,hd⟩:=pl.isList;obtain⟨⟨cls2,dd2,data2,sl2⟩,ho2,hc2,n2,hd2⟩:=pl2.isList;simp only at hc hd hc2 hd2;subst hc hd hc2 hd2;have e:its.toArray++its2.toArray=(its++its2).toArray:=by simp
 refine concat_meets ⟨_,ho,rfl⟩ ⟨_,ho2,rfl⟩ noFill_list_add seq_list_add PySem.F.slot_list_add PySem.F.entry_list_add (PySem.F.args_list_add_2 _ _) (list_addW l b its.toArray its2.toArray n n2 dd dd2 sl sl2 (by rw[List.size_toArray,List.size_toArray];omega)) ⟨ho,ho2,?_⟩
 rw[e];exact⟨.ref _,_,I.lnew (t':=s.toks) (r.append r2) (by rw[List.length_append];omega),rfl,q _ I.fresh⟩
def aS6 (K:Frag):R2:=λ x y H Q=>rI0 (λ i j=>.int (i+j)) x y H Q\/((∃ i j,x=.str i/\y=.str j/\i.length+j.length<=sizeLine/\Q (.str (i++j)) H)\/aC2 K x y H Q)
theorem c_9:E_5 X .Add b_7:=⟨aS6 X.K,op_add.or (op_add_str.or R_7),λ c H0 H ρ σ x y d vx vy Q R r1 r2 e q=>by
 cases x with
 |int i =>
  cases y with
  |int j =>
   cases e;unfold Rep at r1 r2;exact .inl ⟨_,_,r1,r2,q _ H0 H (Same.refl _) R (d_2 H0 _)⟩
  |_=>cases e
 |str i =>
  cases y with
  |str j =>
   obtain⟨h,rfl⟩:=ifs (c:=i.length+j.length<=sizeLine) e;unfold Rep at r1 r2;exact .inr (.inl ⟨_,_,r1,r2,h,q _ H0 H (Same.refl _) R (by unfold Rep;rfl)⟩)
  |_=>cases e
 |lst ds =>
  cases y with
  |lst es =>
   obtain⟨h,rfl⟩:=ifs (c:=ds.length+es.length<=sizeLine) e;unfold Rep at r1 r2;obtain⟨p,vs,rfl,s,t⟩:=r1;obtain⟨p2,vs2,rfl,s2,t2⟩:=r2;refine .inr (.inr ⟨p,p2,vs,vs2,rfl,rfl,Same.seq R.same s,Same.seq R.same s2,by rw[<- t.length,<- t2.length];exact h,λ p' hp=>?_⟩)
   have S:=Step.alloc (o:=.lst (vs++vs2)) R.same hp;refine q _ _ _ S.s0 (R.after S) ?_;unfold Rep;exact⟨p',_,rfl,.inl (.inl a_2),Reps.mono S.s0 _ (t.app t2)⟩
  |_=>cases e
 |_=>cases y <;> cases e⟩
theorem ay4 {a:Expr}{F:FE}{pos:Pos} (ha:XE X a F):XE X (.UnaryOp .USub a pos) (e1 ax6 F):=PE.wk (aS9 ay8 ha) λ σ H Q hh0_=>by
 obtain⟨c,H0,ρ,d,ρ',R,f,q⟩:=hh0_;unfold e1 at f;obtain⟨⟨x,ρ1⟩,h1,f⟩:=a_0 f;obtain⟨d',h2,f⟩:=a_0 f;dsimp only at h2 f;have f':some (d',ρ1)=some (d,ρ'):=f;cases f';refine⟨c,H0,ρ,x,_,R,h1,λ v H1 Hh s1 R1 r1=>?_⟩
 cases x with
 |int i =>
  have e:D.int (-i)=d:=qh h2;subst e;unfold Rep at r1;exact⟨i,r1,q _ H1 Hh s1 R1 (d_2 _ _)⟩
 |_=>cases h2
theorem aO3 {p:Int->Int->Bool}:OpD K (rI0 λ i j=>.bl (p i j)) (aJ6 p):=G_6 λ x y d e=>by
 obtain⟨i,j,rfl,rfl,e⟩:=x_6 e;cases e;exact⟨_,_,rfl,rfl,λ H=>j_8 H _⟩
theorem cLt:h_7 X .Lt dLt:=⟨_,aT5,aO3⟩
theorem cLe:h_7 X .LtE dLe:=⟨_,aT6,aO3⟩
theorem cGt:h_7 X .Gt dGt:=⟨_,aT7,aO3⟩
theorem cGe:h_7 X .GtE dGe:=⟨_,aT8,aO3⟩
theorem ai5 {H:Hp}{x:D}{v:V} (r:Rep K H x v):isN x=decide (v=.non):=by
 cases x with
 |non=>unfold Rep at r;subst r;rfl
 |bl b=>unfold Rep at r;subst r;rfl
 |int b=>unfold Rep at r;subst r;rfl
 |str b=>unfold Rep at r;subst r;rfl
 |tup ds=>unfold Rep at r;obtain⟨p,vs,rfl,_⟩:=r;rfl
 |opq=>unfold Rep at r;obtain⟨p,kvs,rfl,_⟩:=r;rfl
 |dct ks vs=>unfold Rep at r;obtain⟨p,o,us,rfl,_⟩:=r;rfl
 |lst ds=>unfold Rep at r;obtain⟨p,vs,rfl,_⟩:=r;rfl
theorem cIs:h_7 X .Is dIs:=⟨_,aE1,λ c H0 H ρ σ x y d vx vy Q R r1 r2 e q=>by
 cases y with
 |non =>
  have e':D.bl (isN x)=d:=by cases x <;> exact qh e
  subst e';unfold Rep at r2;exact⟨r2,by rw[<- ai5 r1];exact q _ H0 H (Same.refl _) R (j_8 _ _)⟩
 |_=>cases x <;> cases e⟩
theorem J_6:h_7 X .IsNot p_8:=⟨_,ao3,λ c H0 H ρ σ x y d vx vy Q R r1 r2 e q=>by
 cases y with
 |non =>
  have e':D.bl (!isN x)=d:=by cases x <;> exact qh e
  subst e';unfold Rep at r2;exact⟨r2,by rw[<- ai5 r1];exact q _ H0 H (Same.refl _) R (j_8 _ _)⟩
 |_=>cases x <;> cases e⟩
end
theorem j_7:∀ (ds es:List D),s_9 ds es=((List.range (min ds.length es.length)).all (λ j=>eqD (ds.getD j .non) (es.getD j .non))&&ds.length==es.length)
 |[],[]=>by simp[s_9]
 |[],e::es=>by simp[s_9]
 |d::ds,[]=>by simp[s_9]
 |d::ds,e::es=>by
  rw[s_9,j_7 ds es];have h:min (d::ds).length (e::es).length=min ds.length es.length+1:=by simp only[List.length_cons];omega
  rw[h,List.range_succ_eq_map,List.all_cons,List.all_map];have h2:((d::ds).length==(e::es).length)=(ds.length==es.length):=by simp
  rw[h2,Bool.and_assoc];rfl
theorem g_5:∀ {ds:List D}{n:Nat}{j:Nat}{d:D},N_8 ds<=n->ds[j]?=some d->dpD d<=n
 |[],_,_,_,_,e=>by simp at e
 |d::ds,n,0,_,h,e=>by
  rw[y_9] at h;simp at e;subst e;omega
 |d::ds,n,j+1,d',h,e=>by
  rw[y_9] at h;exact g_5 (ds:=ds) (n:=n) (j:=j) (by omega) (by simpa using e)
section
variable {X:Cx}{pins:List (Addr×Obj)}{σ:L2.St}{H:Hp}{s:Shared}
theorem U_8 {ds es:List D}{vs:List V} (hd:Reps X.K H ds vs) (he:Reps X.K H es vs) (h:∀ (j:Nat) (d e:D) (v:V),ds[j]?=some d->es[j]?=some e->Rep X.K H d v->Rep X.K H e v->eqD d e=true):s_9 ds es=true:=by
 rw[j_7];have l1:=hd.length;have l2:=he.length;rw[Bool.and_eq_true,List.all_eq_true];refine⟨λ j hj=>?_,by simp;omega⟩
 have hj':j<ds.length:=by have:=List.mem_range.mp hj;omega
 have hk':j<es.length:=by omega
 obtain⟨v,a1,a2⟩:=hd.get (i:=j) (d:=ds[j]) (by simp[hj'])
 obtain⟨v',b1,b2⟩:=he.get (i:=j) (d:=es[j]) (by simp[hk'])
 rw[a1] at b1;cases b1;have:=h j ds[j] es[j] v (by simp[hj']) (by simp[hk']) a2 b2
 simpa [List.getD,hj',hk'] using this
theorem aF2 (I:Inv X pins σ H s) {a:Addr}{xs ys:List V} (h:SqT X.K H a xs) (h':SqL X.K H a ys):False:=by
 obtain⟨_,_,⟨o,e,c,_⟩,_⟩:=I.tuple h;obtain⟨_,_,⟨o',n,e',c',_⟩,_⟩:=I.list h';rw[e] at e';cases e';have z:=c.symm.trans c';injection z with z
 exact absurd z (by decide)
theorem B_5 (I:Inv X pins σ H s):∀ (n:Nat) (d e:D) (v:V),dpD d<=n->dpD d<1000->dpD e<1000->Rep X.K H d v->Rep X.K H e v->eqD d e=true
 |n,d,e,v,hn,hz1,hz2,r1,r2=>by
  cases d with
  |opq=>exact absurd hz1 (by rw[b_3];omega)
  |dct ks0 vs0=>exact absurd hz1 (by rw[b_4];omega)
  |non =>
   unfold Rep at r1 r2;cases e with
   |opq=>exact absurd hz2 (by rw[b_3];omega)
   |dct ks0 vs0=>exact absurd hz2 (by rw[b_4];omega)
   |non=>rw[r1] at r2;first | (cases r2;simp[eqD]) | cases r2
   |bl b2=>rw[r1] at r2;first | (cases r2;simp[eqD]) | cases r2
   |int b2=>rw[r1] at r2;first | (cases r2;simp[eqD]) | cases r2
   |str b2=>rw[r1] at r2;first | (cases r2;simp[eqD]) | cases r2
   |tup es=>obtain⟨p,vs,z,_⟩:=r2;rw[r1] at z;cases z
   |lst es=>obtain⟨p,vs,z,_⟩:=r2;rw[r1] at z;cases z
  |bl b1 =>
   unfold Rep at r1 r2;cases e with
   |opq=>exact absurd hz2 (by rw[b_3];omega)
   |dct ks0 vs0=>exact absurd hz2 (by rw[b_4];omega)
   |non=>rw[r1] at r2;first | (cases r2;simp[eqD]) | cases r2
   |bl b2=>rw[r1] at r2;first | (cases r2;simp[eqD]) | cases r2
   |int b2=>rw[r1] at r2;first | (cases r2;simp[eqD]) | cases r2
   |str b2=>rw[r1] at r2;first | (cases r2;simp[eqD]) | cases r2
   |tup es=>obtain⟨p,vs,z,_⟩:=r2;rw[r1] at z;cases z
   |lst es=>obtain⟨p,vs,z,_⟩:=r2;rw[r1] at z;cases z
  |int b1 =>
   unfold Rep at r1 r2;cases e with
   |opq=>exact absurd hz2 (by rw[b_3];omega)
   |dct ks0 vs0=>exact absurd hz2 (by rw[b_4];omega)
   |non=>rw[r1] at r2;first | (cases r2;simp[eqD]) | cases r2
   |bl b2=>rw[r1] at r2;first | (cases r2;simp[eqD]) | cases r2
   |int b2=>rw[r1] at r2;first | (cases r2;simp[eqD]) | cases r2
   |str b2=>rw[r1] at r2;first | (cases r2;simp[eqD]) | cases r2
   |tup es=>obtain⟨p,vs,z,_⟩:=r2;rw[r1] at z;cases z
   |lst es=>obtain⟨p,vs,z,_⟩:=r2;rw[r1] at z;cases z
  |str b1 =>
   unfold Rep at r1 r2;cases e with
   |opq=>exact absurd hz2 (by rw[b_3];omega)
   |dct ks0 vs0=>exact absurd hz2 (by rw[b_4];omega)
   |non=>rw[r1] at r2;first | (cases r2;simp[eqD]) | cases r2
   |bl b2=>rw[r1] at r2;first | (cases r2;simp[eqD]) | cases r2
   |int b2=>rw[r1] at r2;first | (cases r2;simp[eqD]) | cases r2
   |str b2=>rw[r1] at r2;first | (cases r2;simp[eqD]) | cases r2
   |tup es=>obtain⟨p,vs,z,_⟩:=r2;rw[r1] at z;cases z
   |lst es=>obtain⟨p,vs,z,_⟩:=r2;rw[r1] at z;cases z
  |tup ds =>
   cases e with
   |opq=>exact absurd hz2 (by rw[b_3];omega)
   |dct ks0 vs0=>exact absurd hz2 (by rw[b_4];omega)
   |non=>unfold Rep at r1 r2;obtain⟨p,vs,z,_⟩:=r1;rw[r2] at z;cases z
   |bl b2=>unfold Rep at r1 r2;obtain⟨p,vs,z,_⟩:=r1;rw[r2] at z;cases z
   |int b2=>unfold Rep at r1 r2;obtain⟨p,vs,z,_⟩:=r1;rw[r2] at z;cases z
   |str b2=>unfold Rep at r1 r2;obtain⟨p,vs,z,_⟩:=r1;rw[r2] at z;cases z
   |tup es =>
    unfold Rep at r1 r2;obtain⟨p,vs,z,s1,q1⟩:=r1;obtain⟨p',vs',z',s2,q2⟩:=r2;rw[z] at z';cases z';have e:=I.tuple_inj s1 s2;subst e;cases n with
    |zero=>rw[d_3] at hn;omega
    |succ n =>
     rw[d_3] at hn;rw[eqD];exact U_8 q1 q2 λ j d e v h1 h2=>B_5 I n d e v (g_5 (by omega) h1) (by have z:=g_5 (n:=998) (by first | (rw[d_3] at hz1;omega) | (rw[d_4] at hz1;omega)) h1;omega) (by have z:=g_5 (n:=998) (by first | (rw[d_3] at hz2;omega) | (rw[d_4] at hz2;omega)) h2;omega)
   |lst es=>unfold Rep at r1 r2;obtain⟨p,vs,z,s1,_⟩:=r1;obtain⟨p',vs',z',s2,_⟩:=r2;rw[z] at z';cases z';exact (aF2 I s1 s2).elim
  |lst ds =>
   cases e with
   |opq=>exact absurd hz2 (by rw[b_3];omega)
   |dct ks0 vs0=>exact absurd hz2 (by rw[b_4];omega)
   |non=>unfold Rep at r1 r2;obtain⟨p,vs,z,_⟩:=r1;rw[r2] at z;cases z
   |bl b2=>unfold Rep at r1 r2;obtain⟨p,vs,z,_⟩:=r1;rw[r2] at z;cases z
   |int b2=>unfold Rep at r1 r2;obtain⟨p,vs,z,_⟩:=r1;rw[r2] at z;cases z
   |str b2=>unfold Rep at r1 r2;obtain⟨p,vs,z,_⟩:=r1;rw[r2] at z;cases z
   |tup es=>unfold Rep at r1 r2;obtain⟨p,vs,z,s1,_⟩:=r1;obtain⟨p',vs',z',s2,_⟩:=r2;rw[z] at z';cases z';exact (aF2 I s2 s1).elim
   |lst es =>
    unfold Rep at r1 r2;obtain⟨p,vs,z,s1,q1⟩:=r1;obtain⟨p',vs',z',s2,q2⟩:=r2;rw[z] at z';cases z';have e:=I.list_inj s1 s2;subst e;cases n with
    |zero=>rw[d_4] at hn;omega
    |succ n =>
     rw[d_4] at hn;rw[eqD];exact U_8 q1 q2 λ j d e v h1 h2=>B_5 I n d e v (g_5 (by omega) h1) (by have z:=g_5 (n:=998) (by first | (rw[d_3] at hz1;omega) | (rw[d_4] at hz1;omega)) h1;omega) (by have z:=g_5 (n:=998) (by first | (rw[d_3] at hz2;omega) | (rw[d_4] at hz2;omega)) h2;omega)
def RcN (X:Cx) (H:Hp) (s:Shared) (n:Nat):Prop:=∀ (A:Around) (d e:D) (x y:V) (u v:Value),dpD d<=n->dpD d<1000->dpD e<1000->A.units+n<cLine->Rep X.K H d x->RelV x u->Rep X.K H e y->RelV y v->SeqAt.RcAt A s u v (eqD d e)
def EqN (X:Cx) (H:Hp) (s:Shared) (n:Nat):Prop:=∀ (A:Around) (d e:D) (x y:V) (u v:Value),dpD d<=n->dpD d<1000->dpD e<1000->A.units+n<cLine->Rep X.K H d x->RelV x u->Rep X.K H e y->RelV y v->SeqAt.EqAt A s u v (eqD d e)
theorem aH9 (I:Inv X pins σ H s) {n:Nat} (rc:RcN X H s n):EqN X H s n:=by
 intro A d e x y u v hn hz1 hz2 hA r1 w1 r2 w2;have hu:A.units<cLine:=by omega
 have key:=rc A d e x y u v hn hz1 hz2 hA r1 w1 r2 w2;have one:x=y->eqD d e=true:=λ z=>B_5 I _ d e x (qi _) hz1 hz2 r1 (z▸r2)
 cases d with
 |opq=>exact absurd hz1 (by rw[b_3];omega)
 |dct ks0 vs0=>exact absurd hz1 (by rw[b_4];omega)
 |non =>
  unfold Rep at r1;subst r1;cases (show u=Value.none from w1);unfold Rep at r2;cases e with
  |opq=>exact absurd hz2 (by rw[b_3];omega)
  |dct ks0 vs0=>exact absurd hz2 (by rw[b_4];omega)
  |non=>subst r2;cases (show v=Value.none from w2);exact SeqAt.EqAt.same _
  |bl b2=>subst r2;cases (show v=Value.bool _ from w2);exact SeqAt.EqAt.none_bool _
  |int b2=>subst r2;obtain⟨t2,z2⟩:=w2;subst z2;exact SeqAt.EqAt.none_int _ _
  |str b2=>subst r2;obtain⟨t2,z2⟩:=w2;subst z2;exact SeqAt.EqAt.none_str _ _
  |tup es=>obtain⟨p2,vs2,y2,s2,q2⟩:=r2;subst y2;cases (show v=Value.ref _ from w2);obtain⟨its2,rv2,tp2,_⟩:=I.tuple s2;exact SeqAt.EqAt.none_tuple tp2 hu
  |lst es=>obtain⟨p2,vs2,y2,s2,q2⟩:=r2;subst y2;cases (show v=Value.ref _ from w2);obtain⟨its2,rv2,tp2,_⟩:=I.list s2;have tp2:=tp2.isList;exact SeqAt.EqAt.none_list tp2 hu
 |bl b1 =>
  unfold Rep at r1;subst r1;cases (show u=Value.bool _ from w1);unfold Rep at r2;cases e with
  |opq=>exact absurd hz2 (by rw[b_3];omega)
  |dct ks0 vs0=>exact absurd hz2 (by rw[b_4];omega)
  |non=>subst r2;cases (show v=Value.none from w2);exact SeqAt.EqAt.bool_none _
  |bl b2=>subst r2;cases (show v=Value.bool _ from w2);exact SeqAt.EqAt.bool_bool _ _
  |int b2=>subst r2;obtain⟨t2,z2⟩:=w2;subst z2;exact SeqAt.EqAt.bool_int _ _ _
  |str b2=>subst r2;obtain⟨t2,z2⟩:=w2;subst z2;exact SeqAt.EqAt.bool_str _ _ _
  |tup es=>obtain⟨p2,vs2,y2,s2,q2⟩:=r2;subst y2;cases (show v=Value.ref _ from w2);obtain⟨its2,rv2,tp2,_⟩:=I.tuple s2;exact SeqAt.EqAt.bool_tuple _ tp2 hu
  |lst es=>obtain⟨p2,vs2,y2,s2,q2⟩:=r2;subst y2;cases (show v=Value.ref _ from w2);obtain⟨its2,rv2,tp2,_⟩:=I.list s2;have tp2:=tp2.isList;exact SeqAt.EqAt.bool_list _ tp2 hu
 |int b1 =>
  unfold Rep at r1;subst r1;obtain⟨t1,z1⟩:=w1;subst z1;unfold Rep at r2;cases e with
  |opq=>exact absurd hz2 (by rw[b_3];omega)
  |dct ks0 vs0=>exact absurd hz2 (by rw[b_4];omega)
  |non=>subst r2;cases (show v=Value.none from w2);exact SeqAt.EqAt.int_none _ _
  |bl b2=>subst r2;cases (show v=Value.bool _ from w2);exact SeqAt.EqAt.int_bool _ _ _
  |int b2=>subst r2;obtain⟨t2,z2⟩:=w2;subst z2;exact SeqAt.EqAt.int_int _ _ _ _
  |str b2=>subst r2;obtain⟨t2,z2⟩:=w2;subst z2;exact SeqAt.EqAt.int_str _ _ _ _
  |tup es=>obtain⟨p2,vs2,y2,s2,q2⟩:=r2;subst y2;cases (show v=Value.ref _ from w2);obtain⟨its2,rv2,tp2,_⟩:=I.tuple s2;exact SeqAt.EqAt.int_tuple _ _ tp2 hu
  |lst es=>obtain⟨p2,vs2,y2,s2,q2⟩:=r2;subst y2;cases (show v=Value.ref _ from w2);obtain⟨its2,rv2,tp2,_⟩:=I.list s2;have tp2:=tp2.isList;exact SeqAt.EqAt.int_list _ _ tp2 hu
 |str b1 =>
  unfold Rep at r1;subst r1;obtain⟨t1,z1⟩:=w1;subst z1;unfold Rep at r2;cases e with
  |opq=>exact absurd hz2 (by rw[b_3];omega)
  |dct ks0 vs0=>exact absurd hz2 (by rw[b_4];omega)
  |non=>subst r2;cases (show v=Value.none from w2);exact SeqAt.EqAt.str_none _ _
  |bl b2=>subst r2;cases (show v=Value.bool _ from w2);exact SeqAt.EqAt.str_bool _ _ _
  |int b2=>subst r2;obtain⟨t2,z2⟩:=w2;subst z2;exact SeqAt.EqAt.str_int _ _ _ _
  |str b2=>subst r2;obtain⟨t2,z2⟩:=w2;subst z2;exact SeqAt.EqAt.str_str _ _ _ _
  |tup es=>obtain⟨p2,vs2,y2,s2,q2⟩:=r2;subst y2;cases (show v=Value.ref _ from w2);obtain⟨its2,rv2,tp2,_⟩:=I.tuple s2;exact SeqAt.EqAt.str_tuple _ _ tp2 hu
  |lst es=>obtain⟨p2,vs2,y2,s2,q2⟩:=r2;subst y2;cases (show v=Value.ref _ from w2);obtain⟨its2,rv2,tp2,_⟩:=I.list s2;have tp2:=tp2.isList;exact SeqAt.EqAt.str_list _ _ tp2 hu
 |tup ds =>
  cases e with
  |opq=>exact absurd hz2 (by rw[b_3];omega)
  |dct ks0 vs0=>exact absurd hz2 (by rw[b_4];omega)
  |non=>unfold Rep at r1;obtain⟨p1,vs1,y1,s1,q1⟩:=r1;subst y1;cases (show u=Value.ref _ from w1);obtain⟨its1,rv1,tp1,_⟩:=I.tuple s1;unfold Rep at r2;subst r2;cases (show v=Value.none from w2);exact SeqAt.EqAt.tuple_none tp1 hu
  |bl b2=>unfold Rep at r1;obtain⟨p1,vs1,y1,s1,q1⟩:=r1;subst y1;cases (show u=Value.ref _ from w1);obtain⟨its1,rv1,tp1,_⟩:=I.tuple s1;unfold Rep at r2;subst r2;cases (show v=Value.bool _ from w2);exact SeqAt.EqAt.tuple_bool _ tp1 hu
  |int b2=>unfold Rep at r1;obtain⟨p1,vs1,y1,s1,q1⟩:=r1;subst y1;cases (show u=Value.ref _ from w1);obtain⟨its1,rv1,tp1,_⟩:=I.tuple s1;unfold Rep at r2;subst r2;obtain⟨t2,z2⟩:=w2;subst z2;exact SeqAt.EqAt.tuple_int _ _ tp1 hu
  |str b2=>unfold Rep at r1;obtain⟨p1,vs1,y1,s1,q1⟩:=r1;subst y1;cases (show u=Value.ref _ from w1);obtain⟨its1,rv1,tp1,_⟩:=I.tuple s1;unfold Rep at r2;subst r2;obtain⟨t2,z2⟩:=w2;subst z2;exact SeqAt.EqAt.tuple_str _ _ tp1 hu
  |tup es =>
   unfold Rep at r1 r2;obtain⟨p1,vs1,y1,_⟩:=r1;obtain⟨p2,vs2,y2,_⟩:=r2;subst y1 y2;cases (show u=Value.ref _ from w1);cases (show v=Value.ref _ from w2)
   by_cases h:p1=p2
   ·rw[one (by rw[h]),h];exact SeqAt.EqAt.same _
   ·exact SeqAt.EqAt.of_refs h key
  |lst es=>unfold Rep at r1;obtain⟨p1,vs1,y1,s1,q1⟩:=r1;subst y1;cases (show u=Value.ref _ from w1);obtain⟨its1,rv1,tp1,_⟩:=I.tuple s1;unfold Rep at r2;obtain⟨p2,vs2,y2,s2,q2⟩:=r2;subst y2;cases (show v=Value.ref _ from w2);obtain⟨its2,rv2,tp2,_⟩:=I.list s2;have tp2:=tp2.isList;exact SeqAt.EqAt.tuple_list tp1 tp2 hu
 |lst ds =>
  cases e with
  |opq=>exact absurd hz2 (by rw[b_3];omega)
  |dct ks0 vs0=>exact absurd hz2 (by rw[b_4];omega)
  |non=>unfold Rep at r1;obtain⟨p1,vs1,y1,s1,q1⟩:=r1;subst y1;cases (show u=Value.ref _ from w1);obtain⟨its1,rv1,tp1,_⟩:=I.list s1;have tp1:=tp1.isList;unfold Rep at r2;subst r2;cases (show v=Value.none from w2);exact SeqAt.EqAt.list_none tp1 hu
  |bl b2=>unfold Rep at r1;obtain⟨p1,vs1,y1,s1,q1⟩:=r1;subst y1;cases (show u=Value.ref _ from w1);obtain⟨its1,rv1,tp1,_⟩:=I.list s1;have tp1:=tp1.isList;unfold Rep at r2;subst r2;cases (show v=Value.bool _ from w2);exact SeqAt.EqAt.list_bool _ tp1 hu
  |int b2=>unfold Rep at r1;obtain⟨p1,vs1,y1,s1,q1⟩:=r1;subst y1;cases (show u=Value.ref _ from w1);obtain⟨its1,rv1,tp1,_⟩:=I.list s1;have tp1:=tp1.isList;unfold Rep at r2;subst r2;obtain⟨t2,z2⟩:=w2;subst z2;exact SeqAt.EqAt.list_int _ _ tp1 hu
  |str b2=>unfold Rep at r1;obtain⟨p1,vs1,y1,s1,q1⟩:=r1;subst y1;cases (show u=Value.ref _ from w1);obtain⟨its1,rv1,tp1,_⟩:=I.list s1;have tp1:=tp1.isList;unfold Rep at r2;subst r2;obtain⟨t2,z2⟩:=w2;subst z2;exact SeqAt.EqAt.list_str _ _ tp1 hu
  |tup es=>unfold Rep at r1;obtain⟨p1,vs1,y1,s1,q1⟩:=r1;subst y1;cases (show u=Value.ref _ from w1);obtain⟨its1,rv1,tp1,_⟩:=I.list s1;have tp1:=tp1.isList;unfold Rep at r2;obtain⟨p2,vs2,y2,s2,q2⟩:=r2;subst y2;cases (show v=Value.ref _ from w2);obtain⟨its2,rv2,tp2,_⟩:=I.tuple s2;exact SeqAt.EqAt.list_tuple tp1 tp2 hu
  |lst es =>
   unfold Rep at r1 r2;obtain⟨p1,vs1,y1,_⟩:=r1;obtain⟨p2,vs2,y2,_⟩:=r2;subst y1 y2;cases (show u=Value.ref _ from w1);cases (show v=Value.ref _ from w2)
   by_cases h:p1=p2
   ·rw[one (by rw[h]),h];exact SeqAt.EqAt.same _
   ·exact SeqAt.EqAt.of_refs h key
theorem X_4 {its:List Value}{j:Nat} (h:j<its.toArray.size):its[j]?=some its.toArray[j]:=by
 have h':j<its.length:=by simpa using h
 simp[h']
theorem v_2 {A:Around}{n:Nat} (eqn:EqN X H s n) {ds es:List D}{vs vs':List V}{its its':List Value} (hn:N_8 ds<=n) (hz1:N_8 ds<1000) (hz2:N_8 es<1000) (hA:A.in1.units+n<cLine) (q1:Reps X.K H ds vs) (q2:Reps X.K H es vs') (rv:Vals vs its) (rv':Vals vs' its')
  (j:Nat) (h1:j<its.toArray.size) (h2:j<its'.toArray.size):SeqAt.EqAt A.in1 s its.toArray[j] its'.toArray[j] (eqD (ds.getD j .non) (es.getD j .non)):=by
 have l1:=q1.length;have l2:=q2.length;have m1:=rv.length;have m2:=rv'.length;have k1:j<ds.length:=by rw[List.size_toArray] at h1;omega
 have k2:j<es.length:=by rw[List.size_toArray] at h2;omega
 have e1:ds[j]?=some ds[j]:=by simp[k1]
 have e2:es[j]?=some es[j]:=by simp[k2]
 obtain⟨v,a1,a2⟩:=q1.get e1;obtain⟨v',b1,b2⟩:=q2.get e2;obtain⟨u,c1,c2⟩:=rv.get a1;obtain⟨u',d1,d2⟩:=rv'.get b1;rw[X_4 h1] at c1;rw[X_4 h2] at d1;have g1:ds.getD j .non=ds[j]:=by simp[List.getD,k1]
 have g2:es.getD j .non=es[j]:=by simp[List.getD,k2]
 rw[g1,g2,Option.some.inj c1,Option.some.inj d1];exact eqn A.in1 ds[j] es[j] v v' u u' (g_5 hn e1) (by have z:=g_5 (n:=999) (by omega) e1;omega) (by have z:=g_5 (n:=999) (by omega) e2;omega) hA a2 c2 b2 d2
theorem rcS (I:Inv X pins σ H s) (n:Nat) (ih:∀ m,m<n->EqN X H s m):RcN X H s n:=by
  intro A d e x y u v hn hz1 hz2 hA r1 w1 r2 w2;have hu:A.units<cLine:=by omega
  cases d with
  |opq=>exact absurd hz1 (by rw[b_3];omega)
  |dct ks0 vs0=>exact absurd hz1 (by rw[b_4];omega)
  |non =>
   unfold Rep at r1;subst r1;cases (show u=Value.none from w1);unfold Rep at r2;cases e with
   |opq=>exact absurd hz2 (by rw[b_3];omega)
   |dct ks0 vs0=>exact absurd hz2 (by rw[b_4];omega)
   |non=>subst r2;cases (show v=Value.none from w2);exact SeqAt.RcAt.none_none
   |bl b2=>subst r2;cases (show v=Value.bool _ from w2);exact SeqAt.RcAt.none_bool _
   |int b2=>subst r2;obtain⟨t2,z2⟩:=w2;subst z2;exact SeqAt.RcAt.none_int _ _
   |str b2=>subst r2;obtain⟨t2,z2⟩:=w2;subst z2;exact SeqAt.RcAt.none_str _ _
   |tup es=>obtain⟨p2,vs2,y2,s2,q2⟩:=r2;subst y2;cases (show v=Value.ref _ from w2);obtain⟨its2,rv2,tp2,_⟩:=I.tuple s2;exact SeqAt.RcAt.none_tuple tp2 hu
   |lst es=>obtain⟨p2,vs2,y2,s2,q2⟩:=r2;subst y2;cases (show v=Value.ref _ from w2);obtain⟨its2,rv2,tp2,_⟩:=I.list s2;have tp2:=tp2.isList;exact SeqAt.RcAt.none_list tp2 hu
  |bl b1 =>
   unfold Rep at r1;subst r1;cases (show u=Value.bool _ from w1);unfold Rep at r2;cases e with
   |opq=>exact absurd hz2 (by rw[b_3];omega)
   |dct ks0 vs0=>exact absurd hz2 (by rw[b_4];omega)
   |non=>subst r2;cases (show v=Value.none from w2);exact SeqAt.RcAt.bool_none _
   |bl b2=>subst r2;cases (show v=Value.bool _ from w2);exact SeqAt.RcAt.bool_bool _ _
   |int b2=>subst r2;obtain⟨t2,z2⟩:=w2;subst z2;exact SeqAt.RcAt.bool_int _ _ _
   |str b2=>subst r2;obtain⟨t2,z2⟩:=w2;subst z2;exact SeqAt.RcAt.bool_str _ _ _
   |tup es=>obtain⟨p2,vs2,y2,s2,q2⟩:=r2;subst y2;cases (show v=Value.ref _ from w2);obtain⟨its2,rv2,tp2,_⟩:=I.tuple s2;exact SeqAt.RcAt.bool_tuple _ tp2 hu
   |lst es=>obtain⟨p2,vs2,y2,s2,q2⟩:=r2;subst y2;cases (show v=Value.ref _ from w2);obtain⟨its2,rv2,tp2,_⟩:=I.list s2;have tp2:=tp2.isList;exact SeqAt.RcAt.bool_list _ tp2 hu
  |int b1 =>
   unfold Rep at r1;subst r1;obtain⟨t1,z1⟩:=w1;subst z1;unfold Rep at r2;cases e with
   |opq=>exact absurd hz2 (by rw[b_3];omega)
   |dct ks0 vs0=>exact absurd hz2 (by rw[b_4];omega)
   |non=>subst r2;cases (show v=Value.none from w2);exact SeqAt.RcAt.int_none _ _
   |bl b2=>subst r2;cases (show v=Value.bool _ from w2);exact SeqAt.RcAt.int_bool _ _ _
   |int b2=>subst r2;obtain⟨t2,z2⟩:=w2;subst z2;exact SeqAt.RcAt.int_int _ _ _ _
   |str b2=>subst r2;obtain⟨t2,z2⟩:=w2;subst z2;exact SeqAt.RcAt.int_str _ _ _ _
   |tup es=>obtain⟨p2,vs2,y2,s2,q2⟩:=r2;subst y2;cases (show v=Value.ref _ from w2);obtain⟨its2,rv2,tp2,_⟩:=I.tuple s2;exact SeqAt.RcAt.int_tuple _ _ tp2 hu
   |lst es=>obtain⟨p2,vs2,y2,s2,q2⟩:=r2;subst y2;cases (show v=Value.ref _ from w2);obtain⟨its2,rv2,tp2,_⟩:=I.list s2;have tp2:=tp2.isList;exact SeqAt.RcAt.int_list _ _ tp2 hu
  |str b1 =>
   unfold Rep at r1;subst r1;obtain⟨t1,z1⟩:=w1;subst z1;unfold Rep at r2;cases e with
   |opq=>exact absurd hz2 (by rw[b_3];omega)
   |dct ks0 vs0=>exact absurd hz2 (by rw[b_4];omega)
   |non=>subst r2;cases (show v=Value.none from w2);exact SeqAt.RcAt.str_none _ _
   |bl b2=>subst r2;cases (show v=Value.bool _ from w2);exact SeqAt.RcAt.str_bool _ _ _
   |int b2=>subst r2;obtain⟨t2,z2⟩:=w2;subst z2;exact SeqAt.RcAt.str_int _ _ _ _
   |str b2=>subst r2;obtain⟨t2,z2⟩:=w2;subst z2;exact SeqAt.RcAt.str_str _ _ _ _
   |tup es=>obtain⟨p2,vs2,y2,s2,q2⟩:=r2;subst y2;cases (show v=Value.ref _ from w2);obtain⟨its2,rv2,tp2,_⟩:=I.tuple s2;exact SeqAt.RcAt.str_tuple _ _ tp2 hu
   |lst es=>obtain⟨p2,vs2,y2,s2,q2⟩:=r2;subst y2;cases (show v=Value.ref _ from w2);obtain⟨its2,rv2,tp2,_⟩:=I.list s2;have tp2:=tp2.isList;exact SeqAt.RcAt.str_list _ _ tp2 hu
  |tup ds =>
   cases e with
   |opq=>exact absurd hz2 (by rw[b_3];omega)
   |dct ks0 vs0=>exact absurd hz2 (by rw[b_4];omega)
   |non=>unfold Rep at r1;obtain⟨p1,vs1,y1,s1,q1⟩:=r1;subst y1;cases (show u=Value.ref _ from w1);obtain⟨its1,rv1,tp1,_⟩:=I.tuple s1;unfold Rep at r2;subst r2;cases (show v=Value.none from w2);exact SeqAt.RcAt.tuple_none tp1 hu
   |bl b2=>unfold Rep at r1;obtain⟨p1,vs1,y1,s1,q1⟩:=r1;subst y1;cases (show u=Value.ref _ from w1);obtain⟨its1,rv1,tp1,_⟩:=I.tuple s1;unfold Rep at r2;subst r2;cases (show v=Value.bool _ from w2);exact SeqAt.RcAt.tuple_bool _ tp1 hu
   |int b2=>unfold Rep at r1;obtain⟨p1,vs1,y1,s1,q1⟩:=r1;subst y1;cases (show u=Value.ref _ from w1);obtain⟨its1,rv1,tp1,_⟩:=I.tuple s1;unfold Rep at r2;subst r2;obtain⟨t2,z2⟩:=w2;subst z2;exact SeqAt.RcAt.tuple_int _ _ tp1 hu
   |str b2=>unfold Rep at r1;obtain⟨p1,vs1,y1,s1,q1⟩:=r1;subst y1;cases (show u=Value.ref _ from w1);obtain⟨its1,rv1,tp1,_⟩:=I.tuple s1;unfold Rep at r2;subst r2;obtain⟨t2,z2⟩:=w2;subst z2;exact SeqAt.RcAt.tuple_str _ _ tp1 hu
   |tup es =>
     rw[d_3] at hn;unfold Rep at r1;obtain⟨p1,vs1,y1,s1,q1⟩:=r1;subst y1;cases (show u=Value.ref _ from w1);obtain⟨its1,rv1,tp1,_⟩:=I.tuple s1;unfold Rep at r2;obtain⟨p2,vs2,y2,s2,q2⟩:=r2;subst y2;cases (show v=Value.ref _ from w2);obtain⟨its2,rv2,tp2,_⟩:=I.tuple s2;have hi:A.in1.units+(n-1)<cLine:=by show A.units+1+(n-1)<cLine;omega
     have z:=SeqAt.RcAt.tuples (e:=λ j=>eqD (ds.getD j .non) (es.getD j .non)) tp1 tp2 hu (v_2 (A:=A) (ih (n-1) (by omega)) (by omega) (by first | (rw[d_3] at hz1;omega) | (rw[d_4] at hz1;omega)) (by first | (rw[d_3] at hz2;omega) | (rw[d_4] at hz2;omega)) hi q1 q2 rv1 rv2)
     rw[List.size_toArray,List.size_toArray,<- rv1.length,<- rv2.length,<- q1.length,<- q2.length] at z;rw[eqD,j_7];exact z
   |lst es=>unfold Rep at r1;obtain⟨p1,vs1,y1,s1,q1⟩:=r1;subst y1;cases (show u=Value.ref _ from w1);obtain⟨its1,rv1,tp1,_⟩:=I.tuple s1;unfold Rep at r2;obtain⟨p2,vs2,y2,s2,q2⟩:=r2;subst y2;cases (show v=Value.ref _ from w2);obtain⟨its2,rv2,tp2,_⟩:=I.list s2;have tp2:=tp2.isList;exact SeqAt.RcAt.tuple_list tp1 tp2 hu
  |lst ds =>
   cases e with
   |opq=>exact absurd hz2 (by rw[b_3];omega)
   |dct ks0 vs0=>exact absurd hz2 (by rw[b_4];omega)
   |non=>unfold Rep at r1;obtain⟨p1,vs1,y1,s1,q1⟩:=r1;subst y1;cases (show u=Value.ref _ from w1);obtain⟨its1,rv1,tp1,_⟩:=I.list s1;have tp1:=tp1.isList;unfold Rep at r2;subst r2;cases (show v=Value.none from w2);exact SeqAt.RcAt.list_none tp1 hu
   |bl b2=>unfold Rep at r1;obtain⟨p1,vs1,y1,s1,q1⟩:=r1;subst y1;cases (show u=Value.ref _ from w1);obtain⟨its1,rv1,tp1,_⟩:=I.list s1;have tp1:=tp1.isList;unfold Rep at r2;subst r2;cases (show v=Value.bool _ from w2);exact SeqAt.RcAt.list_bool _ tp1 hu
   |int b2=>unfold Rep at r1;obtain⟨p1,vs1,y1,s1,q1⟩:=r1;subst y1;cases (show u=Value.ref _ from w1);obtain⟨its1,rv1,tp1,_⟩:=I.list s1;have tp1:=tp1.isList;unfold Rep at r2;subst r2;obtain⟨t2,z2⟩:=w2;subst z2;exact SeqAt.RcAt.list_int _ _ tp1 hu
   |str b2=>unfold Rep at r1;obtain⟨p1,vs1,y1,s1,q1⟩:=r1;subst y1;cases (show u=Value.ref _ from w1);obtain⟨its1,rv1,tp1,_⟩:=I.list s1;have tp1:=tp1.isList;unfold Rep at r2;subst r2;obtain⟨t2,z2⟩:=w2;subst z2;exact SeqAt.RcAt.list_str _ _ tp1 hu
   |tup es=>unfold Rep at r1;obtain⟨p1,vs1,y1,s1,q1⟩:=r1;subst y1;cases (show u=Value.ref _ from w1);obtain⟨its1,rv1,tp1,_⟩:=I.list s1;have tp1:=tp1.isList;unfold Rep at r2;obtain⟨p2,vs2,y2,s2,q2⟩:=r2;subst y2;cases (show v=Value.ref _ from w2);obtain⟨its2,rv2,tp2,_⟩:=I.tuple s2;exact SeqAt.RcAt.list_tuple tp1 tp2 hu
   |lst es =>
     rw[d_4] at hn;unfold Rep at r1;obtain⟨p1,vs1,y1,s1,q1⟩:=r1;subst y1;cases (show u=Value.ref _ from w1);obtain⟨its1,rv1,tp1,_⟩:=I.list s1;have tp1:=tp1.isList;unfold Rep at r2;obtain⟨p2,vs2,y2,s2,q2⟩:=r2;subst y2;cases (show v=Value.ref _ from w2);obtain⟨its2,rv2,tp2,_⟩:=I.list s2;have tp2:=tp2.isList;have hi:A.in1.units+(n-1)<cLine:=by show A.units+1+(n-1)<cLine;omega
     have l1:its1.toArray.size=ds.length:=by rw[List.size_toArray,<- rv1.length,<- q1.length]
     have l2:its2.toArray.size=es.length:=by rw[List.size_toArray,<- rv2.length,<- q2.length]
     rw[eqD,j_7]
     by_cases hl:ds.length=es.length
     ·have z:=SeqAt.RcAt.lists (e:=λ j=>eqD (ds.getD j .non) (es.getD j .non)) tp1 tp2 (by rw[l1,l2];exact hl) hu (v_2 (A:=A) (ih (n-1) (by omega)) (by omega) (by first | (rw[d_3] at hz1;omega) | (rw[d_4] at hz1;omega)) (by first | (rw[d_3] at hz2;omega) | (rw[d_4] at hz2;omega)) hi q1 q2 rv1 rv2)
      rw[l1] at z;rw[show min ds.length es.length=ds.length by omega,show (ds.length==es.length)=true by simp[hl],Bool.and_true]
      exact z
     ·rw[show (ds.length==es.length)=false by simp[hl],Bool.and_false]
      exact SeqAt.RcAt.lists_lengths tp1 tp2 (by rw[l1,l2];simp[hl]) hu
theorem U_7 (I:Inv X pins σ H s) (n:Nat):EqN X H s n:=by
 induction n using Nat.strongRecOn with
 |ind n ih=>exact aH9 I (rcS I n ih)
theorem rcN (I:Inv X pins σ H s) (n:Nat):RcN X H s n:=rcS I n λ m _=>U_7 I m
def bc3 (K:Frag):R2:=λ x y H Q=>∃ d e,Rep K H d x/\Rep K H e y/\dpD d<=30/\dpD e<=30/\Q (.bl (eqD d e)) H
theorem aE2 (hu:X.A.units+64<cLine):OpR X (compareOp .Eq) (bc3 X.K):=by
 intro pins s σ H x y v u Q I rx ry h;obtain⟨d,e,r1,r2,hd,hd2,q⟩:=h;exact rcN I 30 X.A d e x y v u hd (by omega) (by omega) (by omega) r1 rx r2 ry X.prog X.w X.xe _ ⟨.bl _,H,I,rfl,q⟩
theorem aW4 {K:Frag}:OpD K (bc3 K) dEq:=λ c H0 H ρ σ x y d vx vy Q R r1 r2 e q=>by
 unfold dEq at e
 split at e
 ·rename_i hd
  cases e;exact⟨x,y,Rep.mono R.same x r1,Rep.mono R.same y r2,hd.1,hd.2,q _ H0 H (Same.refl _) R (j_8 _ _)⟩
 ·cases e
theorem cEq (hu:X.A.units+64<cLine):h_7 X .Eq dEq:=⟨_,aE2 hu,aW4⟩
theorem neN (I:Inv X pins σ H s) (n:Nat) (A:Around) (d e:D) (x y:V) (u v:Value) (hn:dpD d<=n) (hz1:dpD d<1000) (hz2:dpD e<1000) (hA:A.units+n<cLine) (r1:Rep X.K H d x) (w1:RelV x u) (r2:Rep X.K H e y) (w2:RelV y v):SeqAt.RcNeAt A s u v (!eqD d e):=by
  have hu:A.units<cLine:=by omega
  cases d with
  |opq=>exact absurd hz1 (by rw[b_3];omega)
  |dct ks0 vs0=>exact absurd hz1 (by rw[b_4];omega)
  |non =>
   unfold Rep at r1;subst r1;cases (show u=Value.none from w1);unfold Rep at r2;cases e with
   |opq=>exact absurd hz2 (by rw[b_3];omega)
   |dct ks0 vs0=>exact absurd hz2 (by rw[b_4];omega)
   |non=>subst r2;cases (show v=Value.none from w2);exact SeqAt.RcNeAt.none_none
   |bl b2=>subst r2;cases (show v=Value.bool _ from w2);exact SeqAt.RcNeAt.none_bool _
   |int b2=>subst r2;obtain⟨t2,z2⟩:=w2;subst z2;exact SeqAt.RcNeAt.none_int _ _
   |str b2=>subst r2;obtain⟨t2,z2⟩:=w2;subst z2;exact SeqAt.RcNeAt.none_str _ _
   |tup es=>obtain⟨p2,vs2,y2,s2,q2⟩:=r2;subst y2;cases (show v=Value.ref _ from w2);obtain⟨its2,rv2,tp2,_⟩:=I.tuple s2;exact SeqAt.RcNeAt.none_tuple tp2 hu
   |lst es=>obtain⟨p2,vs2,y2,s2,q2⟩:=r2;subst y2;cases (show v=Value.ref _ from w2);obtain⟨its2,rv2,tp2,_⟩:=I.list s2;have tp2:=tp2.isList;exact SeqAt.RcNeAt.none_list tp2 hu
  |bl b1 =>
   unfold Rep at r1;subst r1;cases (show u=Value.bool _ from w1);unfold Rep at r2;cases e with
   |opq=>exact absurd hz2 (by rw[b_3];omega)
   |dct ks0 vs0=>exact absurd hz2 (by rw[b_4];omega)
   |non=>subst r2;cases (show v=Value.none from w2);exact SeqAt.RcNeAt.bool_none _
   |bl b2=>subst r2;cases (show v=Value.bool _ from w2);exact SeqAt.RcNeAt.bool_bool _ _
   |int b2=>subst r2;obtain⟨t2,z2⟩:=w2;subst z2;exact SeqAt.RcNeAt.bool_int _ _ _
   |str b2=>subst r2;obtain⟨t2,z2⟩:=w2;subst z2;exact SeqAt.RcNeAt.bool_str _ _ _
   |tup es=>obtain⟨p2,vs2,y2,s2,q2⟩:=r2;subst y2;cases (show v=Value.ref _ from w2);obtain⟨its2,rv2,tp2,_⟩:=I.tuple s2;exact SeqAt.RcNeAt.bool_tuple _ tp2 hu
   |lst es=>obtain⟨p2,vs2,y2,s2,q2⟩:=r2;subst y2;cases (show v=Value.ref _ from w2);obtain⟨its2,rv2,tp2,_⟩:=I.list s2;have tp2:=tp2.isList;exact SeqAt.RcNeAt.bool_list _ tp2 hu
  |int b1 =>
   unfold Rep at r1;subst r1;obtain⟨t1,z1⟩:=w1;subst z1;unfold Rep at r2;cases e with
   |opq=>exact absurd hz2 (by rw[b_3];omega)
   |dct ks0 vs0=>exact absurd hz2 (by rw[b_4];omega)
   |non=>subst r2;cases (show v=Value.none from w2);exact SeqAt.RcNeAt.int_none _ _
   |bl b2=>subst r2;cases (show v=Value.bool _ from w2);exact SeqAt.RcNeAt.int_bool _ _ _
   |int b2=>subst r2;obtain⟨t2,z2⟩:=w2;subst z2;exact SeqAt.RcNeAt.int_int _ _ _ _
   |str b2=>subst r2;obtain⟨t2,z2⟩:=w2;subst z2;exact SeqAt.RcNeAt.int_str _ _ _ _
   |tup es=>obtain⟨p2,vs2,y2,s2,q2⟩:=r2;subst y2;cases (show v=Value.ref _ from w2);obtain⟨its2,rv2,tp2,_⟩:=I.tuple s2;exact SeqAt.RcNeAt.int_tuple _ _ tp2 hu
   |lst es=>obtain⟨p2,vs2,y2,s2,q2⟩:=r2;subst y2;cases (show v=Value.ref _ from w2);obtain⟨its2,rv2,tp2,_⟩:=I.list s2;have tp2:=tp2.isList;exact SeqAt.RcNeAt.int_list _ _ tp2 hu
  |str b1 =>
   unfold Rep at r1;subst r1;obtain⟨t1,z1⟩:=w1;subst z1;unfold Rep at r2;cases e with
   |opq=>exact absurd hz2 (by rw[b_3];omega)
   |dct ks0 vs0=>exact absurd hz2 (by rw[b_4];omega)
   |non=>subst r2;cases (show v=Value.none from w2);exact SeqAt.RcNeAt.str_none _ _
   |bl b2=>subst r2;cases (show v=Value.bool _ from w2);exact SeqAt.RcNeAt.str_bool _ _ _
   |int b2=>subst r2;obtain⟨t2,z2⟩:=w2;subst z2;exact SeqAt.RcNeAt.str_int _ _ _ _
   |str b2=>subst r2;obtain⟨t2,z2⟩:=w2;subst z2;exact SeqAt.RcNeAt.str_str _ _ _ _
   |tup es=>obtain⟨p2,vs2,y2,s2,q2⟩:=r2;subst y2;cases (show v=Value.ref _ from w2);obtain⟨its2,rv2,tp2,_⟩:=I.tuple s2;exact SeqAt.RcNeAt.str_tuple _ _ tp2 hu
   |lst es=>obtain⟨p2,vs2,y2,s2,q2⟩:=r2;subst y2;cases (show v=Value.ref _ from w2);obtain⟨its2,rv2,tp2,_⟩:=I.list s2;have tp2:=tp2.isList;exact SeqAt.RcNeAt.str_list _ _ tp2 hu
  |tup ds =>
   cases e with
   |opq=>exact absurd hz2 (by rw[b_3];omega)
   |dct ks0 vs0=>exact absurd hz2 (by rw[b_4];omega)
   |non=>unfold Rep at r1;obtain⟨p1,vs1,y1,s1,q1⟩:=r1;subst y1;cases (show u=Value.ref _ from w1);obtain⟨its1,rv1,tp1,_⟩:=I.tuple s1;unfold Rep at r2;subst r2;cases (show v=Value.none from w2);exact SeqAt.RcNeAt.tuple_none tp1 hu
   |bl b2=>unfold Rep at r1;obtain⟨p1,vs1,y1,s1,q1⟩:=r1;subst y1;cases (show u=Value.ref _ from w1);obtain⟨its1,rv1,tp1,_⟩:=I.tuple s1;unfold Rep at r2;subst r2;cases (show v=Value.bool _ from w2);exact SeqAt.RcNeAt.tuple_bool _ tp1 hu
   |int b2=>unfold Rep at r1;obtain⟨p1,vs1,y1,s1,q1⟩:=r1;subst y1;cases (show u=Value.ref _ from w1);obtain⟨its1,rv1,tp1,_⟩:=I.tuple s1;unfold Rep at r2;subst r2;obtain⟨t2,z2⟩:=w2;subst z2;exact SeqAt.RcNeAt.tuple_int _ _ tp1 hu
   |str b2=>unfold Rep at r1;obtain⟨p1,vs1,y1,s1,q1⟩:=r1;subst y1;cases (show u=Value.ref _ from w1);obtain⟨its1,rv1,tp1,_⟩:=I.tuple s1;unfold Rep at r2;subst r2;obtain⟨t2,z2⟩:=w2;subst z2;exact SeqAt.RcNeAt.tuple_str _ _ tp1 hu
   |tup es =>
     rw[d_3] at hn;unfold Rep at r1;obtain⟨p1,vs1,y1,s1,q1⟩:=r1;subst y1;cases (show u=Value.ref _ from w1);obtain⟨its1,rv1,tp1,_⟩:=I.tuple s1;unfold Rep at r2;obtain⟨p2,vs2,y2,s2,q2⟩:=r2;subst y2;cases (show v=Value.ref _ from w2);obtain⟨its2,rv2,tp2,_⟩:=I.tuple s2;have hi:A.in1.units+(n-1)<cLine:=by show A.units+1+(n-1)<cLine;omega
     have z:=SeqAt.RcNeAt.tuples (e:=λ j=>eqD (ds.getD j .non) (es.getD j .non)) tp1 tp2 hu (v_2 (A:=A) (U_7 I (n-1)) (by omega) (by first | (rw[d_3] at hz1;omega) | (rw[d_4] at hz1;omega)) (by first | (rw[d_3] at hz2;omega) | (rw[d_4] at hz2;omega)) hi q1 q2 rv1 rv2)
     rw[List.size_toArray,List.size_toArray,<- rv1.length,<- rv2.length,<- q1.length,<- q2.length] at z;rw[eqD,j_7];exact z
   |lst es=>unfold Rep at r1;obtain⟨p1,vs1,y1,s1,q1⟩:=r1;subst y1;cases (show u=Value.ref _ from w1);obtain⟨its1,rv1,tp1,_⟩:=I.tuple s1;unfold Rep at r2;obtain⟨p2,vs2,y2,s2,q2⟩:=r2;subst y2;cases (show v=Value.ref _ from w2);obtain⟨its2,rv2,tp2,_⟩:=I.list s2;have tp2:=tp2.isList;exact SeqAt.RcNeAt.tuple_list tp1 tp2 hu
  |lst ds =>
   cases e with
   |opq=>exact absurd hz2 (by rw[b_3];omega)
   |dct ks0 vs0=>exact absurd hz2 (by rw[b_4];omega)
   |non=>unfold Rep at r1;obtain⟨p1,vs1,y1,s1,q1⟩:=r1;subst y1;cases (show u=Value.ref _ from w1);obtain⟨its1,rv1,tp1,_⟩:=I.list s1;have tp1:=tp1.isList;unfold Rep at r2;subst r2;cases (show v=Value.none from w2);exact SeqAt.RcNeAt.list_none tp1 hu
   |bl b2=>unfold Rep at r1;obtain⟨p1,vs1,y1,s1,q1⟩:=r1;subst y1;cases (show u=Value.ref _ from w1);obtain⟨its1,rv1,tp1,_⟩:=I.list s1;have tp1:=tp1.isList;unfold Rep at r2;subst r2;cases (show v=Value.bool _ from w2);exact SeqAt.RcNeAt.list_bool _ tp1 hu
   |int b2=>unfold Rep at r1;obtain⟨p1,vs1,y1,s1,q1⟩:=r1;subst y1;cases (show u=Value.ref _ from w1);obtain⟨its1,rv1,tp1,_⟩:=I.list s1;have tp1:=tp1.isList;unfold Rep at r2;subst r2;obtain⟨t2,z2⟩:=w2;subst z2;exact SeqAt.RcNeAt.list_int _ _ tp1 hu
   |str b2=>unfold Rep at r1;obtain⟨p1,vs1,y1,s1,q1⟩:=r1;subst y1;cases (show u=Value.ref _ from w1);obtain⟨its1,rv1,tp1,_⟩:=I.list s1;have tp1:=tp1.isList;unfold Rep at r2;subst r2;obtain⟨t2,z2⟩:=w2;subst z2;exact SeqAt.RcNeAt.list_str _ _ tp1 hu
   |tup es=>unfold Rep at r1;obtain⟨p1,vs1,y1,s1,q1⟩:=r1;subst y1;cases (show u=Value.ref _ from w1);obtain⟨its1,rv1,tp1,_⟩:=I.list s1;have tp1:=tp1.isList;unfold Rep at r2;obtain⟨p2,vs2,y2,s2,q2⟩:=r2;subst y2;cases (show v=Value.ref _ from w2);obtain⟨its2,rv2,tp2,_⟩:=I.tuple s2;exact SeqAt.RcNeAt.list_tuple tp1 tp2 hu
   |lst es =>
     rw[d_4] at hn;unfold Rep at r1;obtain⟨p1,vs1,y1,s1,q1⟩:=r1;subst y1;cases (show u=Value.ref _ from w1);obtain⟨its1,rv1,tp1,_⟩:=I.list s1;have tp1:=tp1.isList;unfold Rep at r2;obtain⟨p2,vs2,y2,s2,q2⟩:=r2;subst y2;cases (show v=Value.ref _ from w2);obtain⟨its2,rv2,tp2,_⟩:=I.list s2;have tp2:=tp2.isList;have hi:A.in1.units+(n-1)<cLine:=by show A.units+1+(n-1)<cLine;omega
     have l1:its1.toArray.size=ds.length:=by rw[List.size_toArray,<- rv1.length,<- q1.length]
     have l2:its2.toArray.size=es.length:=by rw[List.size_toArray,<- rv2.length,<- q2.length]
     rw[eqD,j_7]
     by_cases hl:ds.length=es.length
     ·have z:=SeqAt.RcNeAt.lists (e:=λ j=>eqD (ds.getD j .non) (es.getD j .non)) tp1 tp2 (by rw[l1,l2];exact hl) hu (v_2 (A:=A) (U_7 I (n-1)) (by omega) (by first | (rw[d_3] at hz1;omega) | (rw[d_4] at hz1;omega)) (by first | (rw[d_3] at hz2;omega) | (rw[d_4] at hz2;omega)) hi q1 q2 rv1 rv2)
      rw[l1] at z;rw[show min ds.length es.length=ds.length by omega,show (ds.length==es.length)=true by simp[hl],Bool.and_true]
      exact z
     ·rw[show (ds.length==es.length)=false by simp[hl],Bool.and_false]
      exact SeqAt.RcNeAt.lists_lengths tp1 tp2 (by rw[l1,l2];simp[hl]) hu
def bb9 (K:Frag):R2:=λ x y H Q=>∃ d e,Rep K H d x/\Rep K H e y/\dpD d<=30/\dpD e<=30/\Q (.bl (!eqD d e)) H
theorem aE0 (hu:X.A.units+64<cLine):OpR X (compareOp .NotEq) (bb9 X.K):=by
 intro pins s σ H x y v u Q I rx ry h;obtain⟨d,e,r1,r2,hd,hd2,q⟩:=h;exact neN I 30 X.A d e x y v u hd (by omega) (by omega) (by omega) r1 rx r2 ry X.prog X.w X.xe _ ⟨.bl _,H,I,rfl,q⟩
theorem aV0 {K:Frag}:OpD K (bb9 K) dNe:=λ c H0 H ρ σ x y d vx vy Q R r1 r2 e q=>by
 unfold dNe at e
 split at e
 ·rename_i hd
  cases e;exact⟨x,y,Rep.mono R.same x r1,Rep.mono R.same y r2,hd.1,hd.2,q _ H0 H (Same.refl _) R (j_8 _ _)⟩
 ·cases e
theorem cNe (hu:X.A.units+64<cLine):h_7 X .NotEq dNe:=⟨_,aE0 hu,aV0⟩
end
section
variable {X:Cx}
def BOk (X:Cx) (f:Value) (g:List D->Option D):Prop:=∃ r,CallR X f r/\∀ (c:FC) (H0 H:Hp) (ρ:En) (σ:L2.St) (ds:List D) (d:D) (vs:List V) (Q:VK),RS X.K c H0 H ρ σ->Reps X.K H0 ds vs->g ds=some d->Aft X.K c H0 ρ σ d Q->r vs H Q
theorem aI6 {g:List D->Option D}{A:FA}{r:List V->Hp->VK->Prop} (o:∀ (c:FC) (H0 H:Hp) (ρ:En) (σ:L2.St) (ds:List D) (d:D) (vs:List V) (Q:VK),RS X.K c H0 H ρ σ->Reps X.K H0 ds vs->g ds=some d->Aft X.K c H0 ρ σ d Q->r vs H Q)
  {σ:L2.St}{H:Hp}{Q:VK} (h:tE X.K (eF g A) σ H Q):tCB r (tAa X.K A) σ H Q:=by
 obtain⟨c,H0,ρ,d,ρ',R,f,q⟩:=h;unfold eF at f;obtain⟨⟨ds,ρ1⟩,h1,f⟩:=a_0 f;obtain⟨d',h2,f⟩:=a_0 f;have f':some (d',ρ1)=some (d,ρ'):=f;cases f';exact⟨c,H0,ρ,ds,_,R,h1,λ vs H1 Hh s1 R1 r1=>o c H1 Hh _ σ ds d vs Q R1 r1 h2 λ v H2 Hh2 s2 R2 r2=>q v H2 Hh2 (s1.trans s2) R2 r2⟩
theorem xB {id:String}{g:List D → Option D}{A:FA}{x:Str}{p pos:Pos}{e:Expr}{es:List Expr} (o:BOk X (.builtin id) g) (hg:Gl X x) (hm:X.mg x=none) (hv:bootBuiltins x=some (.builtin id)) (ha:XA X (e::es) A) (hn:x≠"__name__":=by decide) (hdb:(x==("__debug__":Str))=false:=by decide)
  (he:starEach (e::es) X.env=(false,eval e X.env)::starEach es X.env:=by rfl) (hpl:(backTo pos (starEach es X.env)).any (·.1)=false:=by rfl):XE X (.Call (.Name x p) (e::es) [] pos) (eF g A):=by
 obtain⟨r,h1,h2⟩:=o;exact PE.wk (k_9 h1 hg hm hv ha hn hdb he hpl) λ σ H Q h=>aI6 h2 h
theorem Reps.v1 {K:Frag}{H:Hp}{d:D}{vs:List V} (h:Reps K H [d] vs):∃ v,vs=[v]/\Rep K H d v:=by
 unfold Reps at h;obtain⟨v,r,e,a,b⟩:=h;unfold Reps at b;exact⟨v,by rw[e,b],a⟩
theorem CallR.or {X:Cx}{f:Value}{r r':List V->Hp->VK->Prop} (h:CallR X f r) (h':CallR X f r'):CallR X f (λ xs H Q=>r xs H Q\/r' xs H Q) :=
 λ pins s σ H xs us Q I v z=>z.elim (λ a=>h pins s σ H xs us Q I v a) (λ a=>h' pins s σ H xs us Q I v a)
theorem z_7 {K:Frag}{H:Hp}:∀ {ds:List D}{bs:List Bool}{vs:List V},W_8 ds=some bs->Reps K H ds vs->vs=bs.map V.bl
 |[],_,_,e,r=>by
  have e':([]:List Bool)=_:=qh e;unfold Reps at r;rw[r,<- e'];rfl
 |d::ds,_,_,e,r=>by
  cases d with
  |bl b =>
   rw[N_1] at e;obtain⟨bs,e1,e2⟩:=a_0 e;cases e2;unfold Reps at r;obtain⟨v,r',rfl,a,t⟩:=r;unfold Rep at a;rw[a,z_7 e1 t];rfl
  |_=>cases e
theorem D_6:∀ {bs:List Bool}{us:List Value},Vals (bs.map V.bl) us->LSm.BoolsAre us bs:=by
 intro bs
 induction bs with
 |nil=>intro us h;cases h;exact .nil
 |cons b r ih =>
  intro us h;cases h with
  |cons a t=>cases (show _=Value.bool b from a);exact .cons b (ih t)
theorem W_6 (hc:X.calm=true):CallR X (.builtin "all") (λ xs H Q=>∃ (p:Addr) (bs:List Bool),xs=[.ref p] ∧ SqL X.K H p (bs.map V.bl) ∧ Q (.bl (bs.all id)) H):=by
 intro pins s σ H xs us Q I r h;obtain⟨l,bs,rfl,hl,q⟩:=h;obtain⟨u,rfl,ru⟩:=h_9 r;cases ru;obtain⟨its,rv,pl,hz⟩:=I.list hl;have hb:=D_6 rv;have hl:=pl.isList;have hlt:l<s.heap.objs.size:=by obtain⟨_,e,_⟩:=hl;exact qk e
 refine call_all_walk (wpAny_pyIter_list hl ?_);refine⟨s.heap.objs.size,[s.heap.objs.size,l],[s.heap.objs.size],its.toArray.size,_,_,λ i=>(bs[i]?).getD true,rfl,Walks.list (A:=X.A.in1) (I.ok.hd hc) _ l (qp hlt) its.toArray,
  ⟨⟨_,qj _ rfl,rfl,rfl⟩,hl.push _⟩,λ i v s' Q' E' hP hQ=>?_,λ h' tk hk=>?_⟩
 ·obtain⟨b,e,rfl⟩:=hb.get i v (by simpa using hP)
  simp only[e,Option.getD_some] at hQ;exact wpAny_truthy_bool hQ
 ·have e:((List.range its.toArray.size).all λ i=>(bs[i]?).getD true)=bs.all id:=by
   rw[List.size_toArray,hb.length];exact LSm.range_all bs
  rw[e];exact⟨.bl _,H,I.kept (t':=tk) (LSm.kept_iter hk),rfl,q⟩
theorem q_0 (hc:X.calm=true):BOk X (.builtin "all") av3:=⟨_,W_6 hc,λ c H0 H ρ σ ds d vs Q R r e q=>by
 unfold av3 at e
 split at e
 ·obtain⟨bs,e1,e2⟩:=a_0 e
  cases e2;obtain⟨v,rfl,rv⟩:=Reps.v1 r;unfold Rep at rv;obtain⟨p,ws,rfl,s,t⟩:=rv;have:=z_7 e1 t;subst this;exact⟨p,bs,rfl,Same.seq R.same s,q _ H0 H (Same.refl _) R (j_8 _ _)⟩
 ·cases e⟩
def tyN:Ty->String
 |.int=>"int" | .bool=>"bool" | .str=>"str" | .tuple=>"tuple" | .list=>"list"
def tyV (d:D):Value:=match d with
 |.non=>.type "NoneType" | .bl _=>.type "bool" | .int _=>.type "int" | .str _=>.type "str" | .tup _=>.type "tuple" | .lst _=>.type "list" | .opq=>.type "dict" | .dct _ _=>.type "dict"
theorem aF8 (K:Frag) (t:Ty) (d:D):PySem.W.kitOne K (tyV d) (.type (tyN t))=some (ai4 t d):=by
 cases t <;> cases d <;> rfl
theorem ae7 (t:Ty):CallR X (.builtin "isinstance") (λ xs H Q=>∃ d x,xs=[x,.ty (tyN t)] ∧ Rep X.K H d x ∧ Q (.bl (ai4 t d)) H):=by
 intro pins s σ H xs us Q I r h;obtain⟨d,x,rfl,rx,q⟩:=h;obtain⟨u,w,rfl,ru,rw'⟩:=ak8 r;cases (show w=Value.type _ from rw');have k:=aF8 X.K t d;have fin:∀ tk,EP X pins σ Q (.bool (ai4 t d)) {s with toks:=tk}:=λ tk=>⟨.bl _,H,I.tok tk,rfl,q⟩
 cases d with
 |non=>unfold Rep at rx;subst rx;cases (show u=Value.none from ru);exact PySem.W.kia_one PySem.W.kitx_none I.kIn True.intro k (λ z=>nomatch z) fin
 |bl y=>unfold Rep at rx;subst rx;cases (show u=Value.bool y from ru);exact PySem.W.kia_one PySem.W.kitx_bool I.kIn True.intro k (λ z=>nomatch z) fin
 |int i=>unfold Rep at rx;subst rx;obtain⟨t,z⟩:=(show ∃ t,u=Value.int i t from ru);cases z;exact PySem.W.kia_one PySem.W.kitx_int I.kIn True.intro k (λ z=>nomatch z) fin
 |str y=>unfold Rep at rx;subst rx;obtain⟨t,z⟩:=(show ∃ t,u=Value.str y t from ru);cases z;exact PySem.W.kia_one PySem.W.kitx_str I.kIn True.intro k (λ z=>nomatch z) fin
 |tup ds =>
  unfold Rep at rx;obtain⟨a,vs,rfl,s1,_⟩:=rx;cases (show u=Value.ref a from ru);obtain⟨_,_,⟨o,h1,h2,_⟩,_⟩:=I.tuple s1;exact PySem.W.kia_one PySem.W.kitx_tuple I.kIn ⟨o,h1,h2⟩ k (λ z=>nomatch z) fin
 |dct ks ds =>
  unfold Rep at rx;obtain⟨a,ob,us,rfl,ea,_⟩:=rx;cases (show u=Value.ref a from ru);obtain⟨_,_,_,vs,_,pp⟩:=(show ObjOk X.prog X.w H s.heap a (.frz ob (.dK _)) from I.hok a _ ea);obtain⟨o,es,ep,h1,h2,_⟩:=pp;exact PySem.W.kia_one PySem.W.kitx_dict I.kIn ⟨o,h1,h2.1⟩ k (λ z=>nomatch z) fin
 |opq =>
  unfold Rep at rx;obtain⟨a,kvs,rfl,ea⟩:=rx;cases (show u=Value.ref a from ru);obtain⟨_,_,vs,_,pp⟩:=(show ObjOk X.prog X.w H s.heap a (.dK kvs) from I.hok a _ ea);obtain⟨o,es,ep,h1,h2,_⟩:=pp;exact PySem.W.kia_one PySem.W.kitx_dict I.kIn ⟨o,h1,h2.1⟩ k (λ z=>nomatch z) fin
 |lst ds =>
  unfold Rep at rx;obtain⟨a,vs,rfl,s1,_⟩:=rx;cases (show u=Value.ref a from ru);obtain⟨_,_,⟨o,n,h1,h2,_⟩,_⟩:=I.list s1;exact PySem.W.kia_one PySem.W.kitx_list I.kIn ⟨o,h1,h2⟩ k (λ z=>nomatch z) fin
theorem xty {t:Ty}{T:Str}{p p' pos:Pos}{e:Expr}{F:FE} (hi:X.mg "isinstance"=none) (hm:X.mg T=none) (hT:bootBuiltins T=some (.type (tyN t))) (ha:XE X e F) (hg:Gl X "isinstance":=by rfl) (hg':Gl X T:=by rfl)
  (hn:T≠"__name__":=by decide) (hd:(T==("__debug__":Str))=false:=by decide) (hs:starEach [e,.Name T p'] X.env=(false,eval e X.env)::starEach [.Name T p'] X.env:=by rfl) (hs':starEach [.Name T p'] X.env=[(false,eval (.Name T p') X.env)]:=by rfl)
  (hpl:(backTo pos (starEach [.Name T p'] X.env)).any (·.1)=false:=by rfl):XE X (.Call (.Name "isinstance" p) [e,.Name T p'] [] pos) (eTy t F) :=
 PE.wk (k_9 (ae7 t) hg hi PyProof.Rows.boot_isinstance (e_2 ha (e_2 (an9 (v:=.ty (tyN t)) hg' hm hT rfl hn hd) i_1 hs') hs) (by decide) (by decide) hs hpl) λ σ H Q hh0_=>by
  obtain⟨c,H0,ρ,d,ρ',R,f,q⟩:=hh0_;unfold eTy at f;obtain⟨⟨x,ρ1⟩,h1,f⟩:=a_0 f;have f':some (D.bl (ai4 t x),ρ1)=some (d,ρ'):=f;cases f';exact⟨c,H0,ρ,x,_,R,h1,λ v H1 Hh s1 R1 r1=>⟨x,v,rfl,Rep.mono R1.same x r1,q _ H1 Hh s1 R1 (j_8 _ _)⟩⟩
def spP (K:Frag) (g:List D->Option D):Sp:=λ vs H Q _=>∃ Hi ds d,Same Hi H/\Reps K Hi ds vs/\g ds=some d/\∀ v Hi' H',Step Hi H Hi' H'->Rep K Hi' d v->Q v H'
structure DefOk (P:Program) (w:World) (K:Frag) (mg:Str->Option Value) (base:Heap) (k:Nat) (x:Str) (g:List D->Option D):Prop where
 ex:∃ f fd ps,FnOk P w K mg base CX0 k f fd ps (spP K g)/\Binds K fd ps []/\keepIn K (.ref f)=true/\mg x=some (.ref f)
theorem xF {k:Nat}{x:Str}{g:List D → Option D}{A:FA}{p pos:Pos}{e:Expr}{es:List Expr} (G:DefOk X.prog X.w X.K X.mg X.base k x g) (hr:Room k X.A) (ha:XA X (e::es) A) (hg:Gl X x:=by rfl) (hdb:(x==("__debug__":Str))=false:=by decide)
  (he:starEach (e::es) X.env=(false,eval e X.env)::starEach es X.env:=by rfl) (hpl:(backTo pos (starEach es X.env)).any (·.1)=false:=by rfl):XE X (.Call (.Name x p) (e::es) [] pos) (eF g A):=by
 obtain⟨f,fd,ps,F,hb,hk,hm⟩:=G.ex;refine PE.wk (R_2 F hr hg hm hk hb .nil ao2 ha hdb he hpl) λ σ H Q hh0_=>?_
 obtain⟨c,H0,ρ,d,ρ',R,z,q⟩:=hh0_;unfold eF at z;obtain⟨⟨ds,ρ1⟩,h1,z⟩:=a_0 z;obtain⟨d',h2,z⟩:=a_0 z;have z':some (d',ρ1)=some (d,ρ'):=z;cases z';exact⟨c,H0,ρ,ds,_,R,h1,λ vs H1 Hh s1 R1 r1=>⟨H1,ds,d,R1.same,by rw[List.append_nil];exact r1,h2,λ v Hi' H' S rv=>q v Hi' H' (s1.trans S.s0) (R1.after S) rv⟩⟩
end
def n_2 (K:Frag) (J:It) (H1:Hp) (xs:List D):Prop:=∀ (H0 H:Hp) (i:Nat),Same H1 H0->Same H0 H ->
 (∀ d,xs[i]?=some d->J.go i H/\∀ x H',J.yld i H x H'->H'=H/\Rep K H0 d x)/\(xs.length<=i->J.stop i H)
theorem A_9 {K:Frag}{H1:Hp}{a:Addr}{vs:List V}{xs:List D} (rd:SqL K H1 a vs) (r:Reps K H1 xs vs):n_2 K (Itl K a) H1 xs:=λ H0 H i s s'=>by
 have sq:SqL K H a vs:=Same.seq (s.trans s') rd;refine⟨λ d e=>?_,λ h=>⟨vs,sq,by rw[<- r.length];exact h⟩⟩
 obtain⟨v,e1,e2⟩:=r.get e;refine⟨⟨vs,v,sq,e1⟩,λ x H' ⟨h1,h2⟩=>⟨h1,?_⟩⟩
 have:=h2 vs sq;rw[e1] at this;cases this;exact Rep.mono s d e2
theorem K_2 {K:Frag}{H1:Hp}{a:Addr}{vs:List V}{xs:List D} (rd:SqT K H1 a vs) (r:Reps K H1 xs vs):n_2 K (Itt K a) H1 xs:=λ H0 H i s s'=>by
 have sq:SqT K H a vs:=Same.seqT (s.trans s') rd;refine⟨λ d e=>?_,λ h=>⟨vs,sq,by rw[<- r.length];exact h⟩⟩
 obtain⟨v,e1,e2⟩:=r.get e;refine⟨⟨vs,v,sq,e1⟩,λ x H' ⟨h1,h2⟩=>⟨h1,?_⟩⟩
 have:=h2 vs sq;rw[e1] at this;cases this;exact Rep.mono s d e2
theorem o_4:∀ (n:Nat) (lo:Int),(A_7 lo n).length=n
 |0,_=>rfl
 |n+1,lo=>by show (A_7 (lo+1) n).length+1=n+1;rw[o_4 n]
theorem G_1:∀ (n:Nat) (lo:Int) (i:Nat) (d:D),(A_7 lo n)[i]?=some d->d=.int (lo+i)/\i<n
 |0,lo,i,d,h=>by simp[A_7] at h
 |n+1,lo,0,d,h=>by
  simp[A_7] at h;exact⟨by rw[<- h];simp,by omega⟩
 |n+1,lo,i+1,d,h=>by
  have h':(A_7 (lo+1) n)[i]?=some d:=by simpa [A_7] using h
  obtain⟨a,b⟩:=G_1 n (lo+1) i d h';refine⟨by rw[a];congr 1;push_cast;omega,by omega⟩
theorem r_5 {K:Frag}{H1:Hp} (lo:Int) (n:Nat):n_2 K (Itr lo n) H1 (A_7 lo n):=λ H0 H i s s'=>by
 refine⟨λ d e=>?_,λ h=>by rw[o_4] at h;exact h⟩
 obtain⟨rfl,hi⟩:=G_1 n lo i d e;refine⟨hi,λ x H' ⟨h1,h2⟩=>⟨h1,?_⟩⟩
 unfold Rep;exact h2
def Its (z:Str):It:=⟨λ i _=>i<z.cps.size,λ i H x H'=>H'=H/\∃ c,z.cps[i]?=some c/\x=.str (chS c),λ i _=>z.cps.size<=i⟩
theorem F_3 {P:Program}{w:World}{K:Frag}{tg:Expr}{n:String} (z:Str) (t:Tok) (it:Addr) (hn:["enumerate","zip","dict_itemiterator","dict_reverseitemiterator","odict_iterator","itertools.zip_longest","itertools.pairwise"].contains n=false)
  (W:∀ A:Around,A.handled=none->Walks P w A it [it] [it] z.cps.size (SignAt z) (λ i h=>h.IsStrIter it n z t i)) (fin:∀ (A:Around) (s:Shared) (i:Nat) (Q:Option Value->Shared->Prop) (E:Value->Shared->Prop),A.handled=none->s.heap.IsStrIter it n z t i->z.cps[i]?=none->(∀ h',Heap.ExtBut it s.heap h'->Q none {s with heap:=h'})->wpAny (model P w) A (pyNext (.ref it)) Q E s)
  (slf:∀ (A:Around) (i:Nat) (s:Shared) (Q:Value->Shared->Prop) (E:Value->Shared->Prop),s.heap.IsStrIter it n z t i->Q (.ref it) s->wpAny (model P w) A (pyIter (.ref it)) Q E s) :
  Turn P w K tg (Its z) [it] it (λ i h=>h.IsStrIter it n z t i) where
 mem:=by simp
 obj:=λ i h st b hb=>by
  have e:b=it:=by simpa using hb
  subst e;obtain⟨o,e,c,d⟩:=st;exact⟨o,e,λ v z=>by rw[d] at z;cases z⟩
 keep:=λ i h h' st k=>let ⟨o,e,r⟩:=st;⟨o,k it (by simp) o e,r⟩
 item:=by
  intro X hP hw hK hc i pins s σ H E I hf st hg;subst hP hw hK;obtain⟨f0,f1,f2,f3,f4,f5⟩:=hf it (by simp)
  refine (W X.A (I.ok.hd hc)).item i s _ _ hg st λ v h' tk hv st' kk=>?_
  obtain⟨ch,u,e1,rfl⟩:=hv;have I1:Inv X pins σ H {s with heap:=h',toks:=tk}:=I.turned (λ b o hb e=>kk b o (by simpa using hb) e) f0 f1 f3 f4 f5
  obtain⟨o,e,c,d⟩:=id st';exact⟨_,rfl,ad2 (s:={s with heap:=h',toks:=tk}) e c d hn ⟨.str (chS ch),H,I1,⟨u,rfl⟩,⟨rfl,ch,e1,rfl⟩,st',λ b hb=>(hf b hb).1⟩⟩
 done:=by
  intro X hP hw hK hc i pins s σ H E I hf st hg;subst hP hw hK;obtain⟨f0,f1,f2,f3,f4,f5⟩:=hf it (by simp)
  have hg:z.cps.size<=i:=hg;exact fin X.A s i _ _ (I.ok.hd hc) st (by simp[hg]) λ h' eb=>⟨rfl,I.turned (t':=s.toks) (λ b o hb e=>eb b o hb e) f0 f1 f3 f4 f5⟩
 self:=λ A i s Q E st h=>slf A i s Q E st h
def be1 (t:TE):TI:=λ σ H R=>t σ H λ x H1=>∃ z,x=.str z/\R (Its z) H1
def iSq (K:Frag) (t:TE):TI:=λ σ H R=>aG8 K t σ H R\/be0 K t σ H R\/be1 t σ H R
theorem aC9 {X:Cx}{tg l:Expr}{tl:TE} (hl:PE X l tl):PI X tg l (be1 tl):=by
 intro pins s σ H R I h;refine thn (hl pins s σ H _ I h) λ v s1=>ex5 λ x H1 I1 r1 q1=>?_
 obtain⟨z,e,q⟩:=q1;subst e;obtain⟨t,rfl⟩:=r1
 have fp:∀ (o:Obj),∀ b∈[s1.heap.objs.size],FpOk X pins H1 b:=λ o b hb=>by
  have e:b=s1.heap.objs.size:=by simpa using hb
  subst e;exact I1.fpOk (qi _) (I1.hok.fresh (qi _))
 cases ha:z.cps.all (·<128)
 ·refine wpAny_pyIter_wide ha ?_
  exact⟨s1.heap.objs.size,[s1.heap.objs.size],_,_,H1,rfl,I1.kept (t':=s1.toks) λ b o e=>qd _ e,F_3 (n:="str_iterator") z t _ (by decide) (λ A hA=>Walks.strWide hA _ z t) (λ A s i Q E hA st hx hQ=>wpAny_pyNext_wide_end hA st hx hQ) (λ _ _ _ _ _ st h=>wpAny_pyIter_striter_wide st h),⟨_,qj _ rfl,rfl,rfl⟩,fp {cls:=.none,data:=.fields #[]},q⟩
 ·refine wpAny_pyIter_ascii ha ?_
  exact⟨s1.heap.objs.size,[s1.heap.objs.size],_,_,H1,rfl,I1.kept (t':=s1.toks) λ b o e=>qd _ e,F_3 (n:="str_ascii_iterator") z t _ (by decide) (λ A hA=>Walks.strAscii hA _ z t) (λ A s i Q E hA st hx hQ=>wpAny_pyNext_ascii_end hA st hx hQ) (λ _ _ _ _ _ st h=>wpAny_pyIter_striter_ascii st h),⟨_,qj _ rfl,rfl,rfl⟩,fp {cls:=.none,data:=.fields #[]},q⟩
theorem K_3 {K:Frag}{H1:Hp} (z:Str):n_2 K (Its z) H1 (chs z):=λ H0 H i s s'=>by
 have hl:(chs z).length=z.cps.size:=by unfold chs;rw[List.length_map,Array.length_toList]
 refine⟨λ d e=>?_,λ h=>by rw[hl] at h;exact h⟩
 have hi:i<z.cps.size:=by rw[<- hl];exact (List.getElem?_eq_some_iff.mp e).1
 refine⟨hi,λ x H' ⟨h1,ch,h2,h3⟩=>⟨h1,?_⟩⟩
 unfold chs at e;rw[List.getElem?_map,Array.getElem?_toList,h2] at e;have e':D.str (chS ch)=d:=qh e;subst e';unfold Rep;exact h3
theorem aa8 {X:Cx}{tg l:Expr}{tl:TE} (hl:PE X l tl):PI X tg l (iSq X.K tl):=λ pins s σ H R I h=>by
 rcases h with h | h | h
 ·exact an4 hl pins s σ H R I h
 ·exact aC8 hl pins s σ H R I h
 ·exact aC9 hl pins s σ H R I h
theorem f_8 {K:Frag}{F:FE}{σ:L2.St}{H:Hp}{R:It->Hp->Prop}{c:FC}{H0:Hp}{ρ ρ':En}{d:D}{xs:List D} (rs:RS K c H0 H ρ σ) (f:F ρ=some (d,ρ')) (hx:items d=some xs)
  (h:∀ J H1 Hh,Same H0 H1->RS K c H1 Hh ρ' σ->n_2 K J H1 xs->R J Hh):iSq K (tE K F) σ H R:=by
 cases d with
 |lst ds =>
  have e:ds=xs:=qh hx;subst e;refine .inl ⟨c,H0,ρ,_,ρ',rs,f,λ v H1 Hh s1 R1 r1=>?_⟩
  unfold Rep at r1;obtain⟨a,vs,rfl,rd,r⟩:=r1;exact⟨a,rfl,⟨vs,Same.seq R1.same rd⟩,h _ H1 Hh s1 R1 (A_9 rd r)⟩
 |tup ds =>
  have e:ds=xs:=qh hx;subst e;refine .inr (.inl ⟨c,H0,ρ,_,ρ',rs,f,λ v H1 Hh s1 R1 r1=>?_⟩)
  unfold Rep at r1;obtain⟨a,vs,rfl,rd,r⟩:=r1;exact⟨a,rfl,⟨vs,Same.seqT R1.same rd⟩,h _ H1 Hh s1 R1 (K_2 rd r)⟩
 |str z =>
  have e:chs z=xs:=qh hx;subst e;refine .inr (.inr ⟨c,H0,ρ,_,ρ',rs,f,λ v H1 Hh s1 R1 r1=>?_⟩)
  unfold Rep at r1;exact⟨z,r1,h _ H1 Hh s1 R1 (K_3 z)⟩
 |_=>cases hx
theorem I_0 {ρ:En}:∀ {js:List Nat}{fr:En},A_8 ρ js=some fr->fr.length=js.length/\∀ (k:Nat) (s:Sl),fr[k]?=some s->∃ j d,js[k]?=some j/\ρ[j]?=some (.im d)/\s=.im d
 |[],_,h=>by
  have h':([]:En)=_:=qh h;subst h';exact⟨rfl,λ k s e=>by simp at e⟩
 |j::js,_,h=>by
  rw[T_8] at h;obtain⟨s,h1,h⟩:=a_0 h;obtain⟨r,h2,h⟩:=a_0 h;cases h;obtain⟨a,b⟩:=I_0 h2;refine⟨by rw[List.length_cons,List.length_cons,a],λ k s' e=>?_⟩
  cases k with
  |zero =>
   simp at e;subst e;cases z:ρ[j]? with
   |none=>rw[z] at h1;cases h1
   |some sl =>
    rw[z] at h1;cases sl with
    |im d=>exact⟨j,d,rfl,z,(qh h1).symm⟩
    |_=>cases h1
  |succ k =>
   obtain⟨j',d,x1,x2,x3⟩:=b k s' (by simpa using e)
   exact⟨j',d,by simpa using x1,x2,x3⟩
theorem RS.block {K:Frag}{c:FC}{H0 H:Hp}{ρ:En}{σ:L2.St}{js:List Nat}{fr:En}{d:D}{x:V} (R:RS K c H0 H ρ σ) (hf:A_8 ρ js=some fr) (rx:Rep K H0 d x):RS K ⟨H0,H,[]⟩ H0 H (.im d::fr) (some x::frv σ js):=by
 obtain⟨l,g⟩:=I_0 hf;refine⟨R.same,Same.refl _,λ b o e=>.inl e,λ b o e _=>e,λ a h=>(by cases h),?_,λ i d' e=>?_,λ i b o e=>?_,λ i j b b' o o' a e=>?_⟩
 ·rw[List.length_cons,List.length_cons,l,frv,List.length_map]
 ·cases i with
  |zero=>simp at e;subst e;exact⟨x,rfl,rx⟩
  |succ k =>
   obtain⟨j,d2,x1,x2,x3⟩:=g k _ (by simpa using e)
   cases x3;obtain⟨v,y1,y2⟩:=R.im j d' x2;refine⟨v,?_,y2⟩;show (frv σ js)[k]?=some (some v);unfold frv;rw[List.getElem?_map,x1];show some (σ[j]?).join=some (some v);rw[y1];rfl
 ·cases i with
  |zero=>simp at e
  |succ k =>
   obtain⟨j,d2,_,_,x3⟩:=g k _ (by simpa using e)
   cases x3
 ·cases i with
  |zero=>simp at e
  |succ k =>
   obtain⟨j,d2,_,_,x3⟩:=g k _ (by simpa using e)
   cases x3
theorem RS.step {K:Frag}{Hi He H0 H:Hp}{ρ:En}{σ:L2.St} (R:RS K ⟨Hi,He,[]⟩ H0 H ρ σ):Step Hi He H0 H :=
 ⟨R.init,λ b o e=>R.keep b o e (by simp),R.same,R.fresh⟩
theorem p_7 {α:Type}{xs:List α}{i:Nat}{d:α} (h:xs[i]?=some d):xs.drop i=d::xs.drop (i+1):=by
 obtain⟨hi,e⟩:=List.getElem?_eq_some_iff.mp h;rw[<- e];exact List.drop_eq_getElem_cons hi
theorem aq0 {K:Frag}{c:FC}{H1 Hh:Hp}{ρ:En}{σ:L2.St}{js:List Nat}{fr:En}{T:FT}{F:FE}{xs out:List D}{J:It}{Qf:List V->Hp->Prop} (R:RS K c H1 Hh ρ σ) (hf:A_8 ρ js=some fr) (hc:cGo T F fr xs=some out) (hz:xs.length<=sizeLine) (hy:n_2 K J H1 xs)
  (q:∀ ys H0 H,Same H1 H0->RS K c H0 H ρ σ->Reps K H0 out ys->Qf ys H):LcW js (tTt K T) (tE K F) σ Qf J Hh:=by
 refine⟨λ i m ys H=>m=xs.length-i/\i<=xs.length/\∃ H0,Same H1 H0/\RS K c H0 H ρ σ/\∃ pre rest,Reps K H0 pre ys/\pre.length<=i/\cGo T F fr (xs.drop i)=some rest/\pre++rest=out,⟨xs.length,by simp,Nat.zero_le _,H1,Same.refl _,R,[],out,Reps.nil_,Nat.zero_le _,by simpa using hc,rfl⟩,?_⟩
 rintro i m ys H ⟨rfl,hi,H0,s0,R0,pre,rest,rp,lp,hg,e⟩;obtain⟨y1,y2⟩:=hy H0 H i s0 R0.same
 by_cases hlt:i<xs.length
 ·have hd:xs[i]?=some xs[i]:=by simp[hlt]
  obtain⟨go,yl⟩:=y1 _ hd;refine .inr ⟨go,by rw[<- rp.length];omega,λ x H' hx=>?_⟩
  obtain⟨rfl,rx⟩:=yl x H' hx;rw[p_7 hd,af0] at hg;obtain⟨⟨b,ρb⟩,g1,hg⟩:=a_0 hg;dsimp only at hg;refine⟨⟨H0,H',[]⟩,H0,_,b,ρb,R0.block hf rx,g1,λ H2 Hh2 s2 R2=>?_⟩
  cases b with
  |false =>
   rw[if_neg Bool.false_ne_true] at hg ⊢;have S:=R2.step;exact⟨xs.length-(i+1),by omega,rfl,hlt,H2,s0.trans S.s0,R0.after S,pre,rest,Reps.mono S.s0 _ rp,by omega,hg,e⟩
  |true =>
   rw[if_pos rfl] at hg ⊢;obtain⟨⟨z,ρz⟩,g2,hg⟩:=a_0 hg;obtain⟨t,g3,hg⟩:=a_0 hg;dsimp only at hg;have hg':some (z::t)=some rest:=hg;cases hg';refine⟨⟨H0,H',[]⟩,H2,ρb,z,ρz,R2,g2,λ v H3 Hh3 s3 R3 r3=>?_⟩
   have S:=R3.step;refine⟨xs.length-(i+1),by omega,rfl,hlt,H3,s0.trans S.s0,R0.after S,pre++[z],t,(Reps.mono S.s0 _ rp).app (Reps.one r3),?_,g3,?_⟩
   ·rw[List.length_append,List.length_singleton];omega
   ·rw[List.append_assoc];exact e
 ·have ei:i=xs.length:=by omega
  have hn:xs.drop i=[]:=List.drop_eq_nil_of_le (by omega)
  rw[hn,au9] at hg;have hg':([]:List D)=rest:=qh hg;subst hg';rw[List.append_nil] at e;subst e;exact .inl ⟨y2 (by omega),by rw[<- rp.length];omega,q ys H0 H s0 R0 rp⟩
def XTs (X:Cx) (ifs:List Expr) (T:FT):Prop:=PTs X ifs (tTt X.K T)
theorem PTs.wk {X:Cx}{e:List Expr}{t t':TT} (h:PTs X e t) (w:∀ σ H Q,t' σ H Q->t σ H Q):PTs X e t':=λ pins s σ H Q I q=>h pins s σ H Q I (w σ H Q q)
theorem g_2 {X:Cx}:XTs X [] Fx.tYes:=PTs.wk am9 λ σ H Q hh0_=>by
 obtain⟨c,H0,ρ,b,ρ',R,f,q⟩:=hh0_;have f':some (true,ρ)=some (b,ρ'):=f;cases f';exact q H0 H (Same.refl _) R
theorem ak3 {X:Cx}{c:Expr}{T:FT} (h:XT X c T):XTs X [c] T:=am8 h
section
variable {X:Cx}{scope sc:Scope}{x:Str}{frees:List Str}{js:List Nat}{px pos:Pos}{elt iter:Expr}{ifs:List Expr}{I F:FE}{T:FT}
theorem V_0 {ρ ρ':En}{d:D} (h:eLC js I T F ρ=some (d,ρ')):∃ z xs fr ys,I ρ=some (z,ρ')/\items z=some xs/\A_8 ρ' js=some fr/\cGo T F fr xs=some ys/\xs.length<=sizeLine/\d=.lst ys:=by
 unfold eLC at h;obtain⟨⟨z,ρ1⟩,h1,h⟩:=a_0 h;obtain⟨xs,h2,h⟩:=a_0 h;obtain⟨fr,h3,h⟩:=a_0 h;obtain⟨ys,h4,h⟩:=a_0 h;dsimp only at h2 h3 h4 h
 split at h
 ·rename_i hz
  cases h;exact⟨z,xs,fr,ys,h1,h2,h3,h4,hz,rfl⟩
 ·cases h
theorem xlc (hc:X.calm=true) (hsc:X.env.scope=sc) (B:ScB X.N sc scope x frees js) (hi:XE X iter I) (ht:∀ s H C fp,XTs (cxB X (x::frees) scope s H C fp) ifs T) (he:∀ s H C fp,XE (cxB X (x::frees) scope s H C fp) elt F)
  (hs:∀ v,foldedSetIterable iter X.env v=pure v:=by intro _;rfl):XE X (.ListComp elt [⟨.Name x px,iter,ifs,0⟩] scope pos) (eLC js I T F) :=
 PE.wk (aD4 (tt:=tTt X.K T) (te:=tE X.K F) hc hsc B (aa8 hi) ht he hs) λ σ H Q hh0_=>by
  obtain⟨c,H0,ρ,d,ρ',R,f,q⟩:=hh0_;obtain⟨z,xs,fr,ys,h1,h2,h3,h4,hz,rfl⟩:=V_0 f;refine f_8 R h1 h2 λ J H1 Hh s1 R1 hy=>?_
  refine aq0 R1 h3 h4 hz hy λ vs H2 Hh2 s2 R2 r2=>λ p hp=>?_
  have S:=Step.alloc (o:=.lst vs) R2.same hp;refine q _ _ _ (s1.trans (s2.trans S.s0)) (R2.after S) ?_;unfold Rep;exact⟨p,vs,rfl,.inl (.inl a_2),Reps.mono S.s0 _ r2⟩
end
def Post (K:Frag) (c:FC) (Dn:Ends) (H0:Hp):Res->Prop
 |.nx ρ'=>∀ σ' H0' H',Same H0 H0'->RS K c H0' H' ρ' σ'->Dn.nx σ' H'
 |.rt d ρ'=>∀ v σ' H0' H',Same H0 H0'->RS K c H0' H' ρ' σ'->Rep K H0' d v->Dn.rt v H'
 |.bk ρ'=>∀ σ' H0' H',Same H0 H0'->RS K c H0' H' ρ' σ'->Dn.bk σ' H'
 |.ct ρ'=>∀ σ' H0' H',Same H0 H0'->RS K c H0' H' ρ' σ'->Dn.ct σ' H'
def tS (K:Frag) (F:FS):TS:=λ Dn σ H=>∃ c H0 ρ r,RS K c H0 H ρ σ/\F ρ=some r/\Post K c Dn H0 r
def XS (X:Cx) (st:Stmt) (F:FS):Prop:=PS X st (tS X.K F)
def XSs (X:Cx) (sts:List Stmt) (F:FS):Prop:=PSs X sts (tS X.K F)
theorem Post.mono {K:Frag}{c:FC}{Dn:Ends}{H0 H1:Hp} (s:Same H0 H1):∀ {r:Res},Post K c Dn H0 r->Post K c Dn H1 r
 |.nx _,h=>λ σ' H0' H' z=>h σ' H0' H' (s.trans z)
 |.rt _ _,h=>λ v σ' H0' H' z=>h v σ' H0' H' (s.trans z)
 |.bk _,h=>λ σ' H0' H' z=>h σ' H0' H' (s.trans z)
 |.ct _,h=>λ σ' H0' H' z=>h σ' H0' H' (s.trans z)
theorem RS.set {K:Frag}{c:FC}{H0 H:Hp}{ρ:En}{σ:L2.St}{d:D}{v:V} (R:RS K c H0 H ρ σ) (i:Nat) (r:Rep K H0 d v):RS K c H0 H (ρ.set i (.im d)) (σ.set i (some v)):=by
 have hl:=R.len;have other:∀ (j:Nat) (sl:Sl),j≠i->(ρ.set i (.im d))[j]?=some sl->ρ[j]?=some sl:=λ j sl hj e=>by rwa [List.getElem?_set_ne (Ne.symm hj)] at e
 have otherS:∀ (j:Nat),j≠i->(σ.set i (some v))[j]?=σ[j]?:=λ j hj=>List.getElem?_set_ne (Ne.symm hj)
 have same:∀ (sl:Sl),(ρ.set i (.im d))[i]?=some sl->sl=.im d/\i<ρ.length:=λ sl e=>by
  by_cases hi:i<ρ.length
  ·rw[List.getElem?_set_self hi] at e;exact⟨(qh e).symm,hi⟩
  ·rw[List.getElem?_eq_none (by rw[List.length_set];omega)] at e;cases e
 refine⟨R.same,R.init,R.fresh,R.keep,R.apt,by rw[List.length_set,List.length_set,hl],λ j d' e=>?_,λ j bb o e=>?_,λ j k b1 b2 o o' a e1 e2 e3 e4=>?_⟩
 ·by_cases hj:j=i
  ·subst hj
   obtain⟨e',hi⟩:=same _ e;cases e';exact⟨v,by rw[List.getElem?_set_self (by omega)],r⟩
  ·rw[otherS j hj];exact R.im j d' (other j _ hj e)
 ·by_cases hj:j=i
  ·subst hj;obtain⟨e',_⟩:=same _ e;cases e'
  ·rw[otherS j hj];exact R.ow j bb o (other j _ hj e)
 ·by_cases hj:j=i
  ·subst hj;obtain⟨e',_⟩:=same _ e1;cases e'
  ·by_cases hk:k=i
   ·subst hk;obtain⟨e',_⟩:=same _ e2;cases e'
   ·rw[otherS j hj] at e3;rw[otherS k hk] at e4
    exact R.ne j k b1 b2 o o' a (other j _ hj e1) (other k _ hk e2) e3 e4
section
variable {X:Cx}{pos:Pos}{e:Expr}{F:FE}{T:FT}{A B:FS}
theorem xsN:XSs X [] sN:=PSs.wk B_8 λ Dn σ H hh0_=>by
 obtain⟨c,H0,ρ,r,R,f,q⟩:=hh0_;have f':some (Res.nx ρ)=some r:=f;cases f';exact q σ H0 H (Same.refl _) R
theorem xs1 {st:Stmt} (h:XS X st A):XSs X [st] A:=m_0 h
theorem xsC {st:Stmt}{rest:List Stmt} (h1:XS X st A) (h2:XSs X rest B):XSs X (st::rest) (b_6 A B):=PSs.wk (j_3 h1 h2) λ Dn σ H hh0_=>by
 obtain⟨c,H0,ρ,r,R,f,q⟩:=hh0_;unfold b_6 at f;obtain⟨z,h,f⟩:=a_0 f;refine⟨c,H0,ρ,z,R,h,?_⟩;cases z with
 |nx ρ1=>exact λ σ' H0' H' s R'=>⟨c,H0',ρ1,r,R',f,q.mono s⟩
 |rt d ρ1=>have f':some (Res.rt d ρ1)=some r:=f;cases f';exact q
 |bk ρ1=>have f':some (Res.bk ρ1)=some r:=f;cases f';exact q
 |ct ρ1=>have f':some (Res.ct ρ1)=some r:=f;cases f';exact q
theorem d_5 (i:Nat) {x:Str}{pos':Pos} (hN:X.N.Nodup) (he:XE X e F) (hi:X.N[i]?=some x:=by rfl) (hx:Loc X.env.scope x:=by first | exact Or.inl rfl | exact Or.inr rfl) (hs:swapsWith e (some (.Name x pos')) pos.line X.env=pure false:=by rfl)
  (hf:X.fn x=true\/X.env.scope.names.lookup x=some .local:=by first | exact .inl rfl | exact .inr rfl):XS X (.Assign [.Name x pos'] e pos) (c_7 i F):=PS.wk (x_2 hN hi hx he hs hf) λ Dn σ H hh0_=>by
 obtain⟨c,H0,ρ,r,R,f,q⟩:=hh0_;unfold c_7 at f;obtain⟨⟨d,ρ1⟩,h1,f⟩:=a_0 f;have f':some (Res.nx (ρ1.set i (.im d)))=some r:=f;cases f';exact⟨c,H0,ρ,d,ρ1,R,h1,λ v H1 Hh s1 R1 r1=>q _ H1 Hh s1 (R1.set i r1)⟩
theorem af7 (i:Nat) {y x:Str}{py px spos:Pos}{scope sc:Scope}{frees:List Str}{js:List Nat}{elt iter:Expr}{ifs:List Expr}{I:FE} (hN:X.N.Nodup) (hc:X.calm=true) (hsc:X.env.scope=sc) (Bk:ScB X.N sc scope x frees js) (hi:XE X iter I)
  (ht:∀ s H C fp,XTs (cxB X (x::frees) scope s H C fp) ifs T) (he:∀ s H C fp,XE (cxB X (x::frees) scope s H C fp) elt F) (hi':X.N[i]?=some y:=by rfl) (hy:X.env.scope.names.lookup y=some .local:=by rfl)
  (hsw:swapsWith (.ListComp elt [⟨.Name x px,iter,ifs,0⟩] scope pos) (some (.Name y py)) spos.line X.env=pure true:=by rfl)
  (hs:∀ v,foldedSetIterable iter X.env v=pure v:=by intro _;rfl):XS X (.Assign [.Name y py] (.ListComp elt [⟨.Name x px,iter,ifs,0⟩] scope pos) spos) (c_7 i (eLC js I T F)) :=
 PS.wk (aa5 (tt:=tTt X.K T) (te:=tE X.K F) hN hi' hy hc hsc Bk (aa8 hi) ht he hsw hs) λ Dn σ H hh0_=>by
  obtain⟨c,H0,ρ,r,R,f,q⟩:=hh0_;unfold c_7 at f;obtain⟨⟨d,ρ1⟩,h1,f⟩:=a_0 f;have f':some (Res.nx (ρ1.set i (.im d)))=some r:=f;cases f';obtain⟨z,xs,fr,ys,h0,h2,h3,h4,hz,rfl⟩:=V_0 h1;refine f_8 R h0 h2 λ J H1 Hh s1 R1 hy=>?_
  refine aq0 R1 h3 h4 hz hy λ vs H2 Hh2 s2 R2 r2=>λ p hp=>?_
  have S:=Step.alloc (o:=.lst vs) R2.same hp;refine q _ _ _ (s1.trans (s2.trans S.s0)) ((R2.after S).set i ?_);unfold Rep;exact⟨p,vs,rfl,.inl (.inl a_2),Reps.mono S.s0 _ r2⟩
theorem i_0 {c:Expr}{a b:List Stmt} (hc:XT X c T) (ha:XSs X a A) (hb:XSs X b B):XS X (.If c a b pos) (sIf T A B):=PS.wk (aa6 hc ha hb) λ Dn σ H hh0_=>by
 obtain⟨c,H0,ρ,r,R,f,q⟩:=hh0_;unfold sIf at f;obtain⟨⟨k,ρ1⟩,h1,f⟩:=a_0 f;dsimp only at f;refine⟨c,H0,ρ,k,ρ1,R,h1,λ H1 Hh s1 R1=>?_⟩
 cases k with
 |true =>
  rw[if_pos rfl] at f ⊢;exact⟨c,H1,ρ1,r,R1,f,q.mono s1⟩
 |false =>
  rw[if_neg Bool.false_ne_true] at f ⊢;exact⟨c,H1,ρ1,r,R1,f,q.mono s1⟩
theorem f_4 (he:XE X e F):XS X (.Return (some e) pos) (e_1 F):=PS.wk (Q_3 he) λ Dn σ H hh0_=>by
 obtain⟨c,H0,ρ,r,R,f,q⟩:=hh0_;unfold e_1 at f;obtain⟨⟨d,ρ1⟩,h1,f⟩:=a_0 f;have f':some (Res.rt d ρ1)=some r:=f;cases f';exact⟨c,H0,ρ,d,ρ1,R,h1,λ v H1 Hh s1 R1 r1=>q v σ H1 Hh s1 R1 r1⟩
abbrev GD:=D->En->Option En
def tG (K:Frag) (g:GD):TG:=λ v σ H Q=>∃ c H0 ρ d ρ',RS K c H0 H ρ σ/\Rep K H0 d v/\g d ρ=some ρ'/\∀ σ' H0' H',Same H0 H0'->RS K c H0' H' ρ' σ'->Q σ' H'
def tGs (K:Frag) (is:List Nat):TGs:=λ vs σ H Q=>∃ c H0 ρ ds,RS K c H0 H ρ σ/\Reps K H0 ds vs/\ds.length=is.length/\∀ σ' H0' H',Same H0 H0'->RS K c H0' H' (r_9 is ds ρ) σ'->Q σ' H'
def XG (X:Cx) (tg:Expr) (g:GD):Prop:=PG X tg (tG X.K g)
def XGs (X:Cx) (tgs:List Expr) (is:List Nat):Prop:=PGs X tgs (tGs X.K is)
theorem xgN (i:Nat) {x:Str} (hN:X.N.Nodup) (hi:X.N[i]?=some x:=by rfl) (hx:Loc X.env.scope x:=by first | exact Or.inl rfl | exact Or.inr rfl) (hf:X.fn x=true\/X.env.scope.names.lookup x=some .local:=by first | exact .inl rfl | exact .inr rfl):XG X (.Name x pos) (gN i) :=
 λ pins s σ H v u Q I rv hh0_=>by obtain⟨c,H0,ρ,d,ρ',R,r,f,q⟩:=hh0_;exact u_0 hN hi hx hf pins s σ H v u Q I rv (by
  have f':some (ρ.set i (.im d))=some ρ':=f;cases f';exact q _ H0 H (Same.refl _) (R.set i r))
theorem ba0:XGs X [] []:=λ pins s σ H vs us Q I rv hh0_=>by obtain⟨c,H0,ρ,ds,R,r,l,q⟩:=hh0_;exact Q_9 pins s σ H vs us Q I rv (by
 have e:ds=[]:=List.length_eq_zero_iff.mp l;subst e;unfold Reps at r;exact⟨r,q σ H0 H (Same.refl _) (by simpa [L_0] using R)⟩)
theorem aL1 {e:Expr}{es:List Expr}{i:Nat}{is:List Nat} (h1:XG X e (gN i)) (h2:XGs X es is) (hs:(assignEach (e::es) X.env).map (·.2)=assign e X.env::(assignEach es X.env).map (·.2):=by rfl):XGs X (e::es) (i::is) :=
 λ pins s σ H vs us Q I rv hh0_=>by obtain⟨c,H0,ρ,ds,R,r,l,q⟩:=hh0_;exact t_9 h1 h2 hs pins s σ H vs us Q I rv (by
  cases ds with
  |nil=>simp at l
  |cons d ds =>
   unfold Reps at r;obtain⟨v,vr,rfl,r1,r2⟩:=r;refine⟨v,vr,rfl,c,H0,ρ,d,_,R,r1,rfl,λ σ1 H1 Hh s1 R1=>?_⟩
   exact⟨c,H1,_,ds,R1,Reps.mono s1 _ r2,by simpa using l,λ σ2 H2 Hh2 s2 R2=>q σ2 H2 Hh2 (s1.trans s2) (by simpa [B_1] using R2)⟩)
theorem m_6 {X:Cx}{s:Shared}{E:Value->Shared->Prop}{elts:List Expr}{k:Nat}{l:Addr}{items:Array Value}{Q:Unit->Shared->Prop} (hh:X.A.handled=none) (hl:s.heap.IsList l items)
  (hn:(assignEach elts X.env).length=items.size) (hstar:(assignEach elts X.env).findIdx? (·.1)=none)
  (h:∀ h',Heap.ExtBut s.heap.objs.size s.heap h'->wpAny (model X.prog X.w) X.A (assignInOrder ((assignEach elts X.env).map (·.2)) items.toList) Q E {s with heap:=h'}) :
  wpAny (model X.prog X.w) X.A (assign (.Tuple elts k pos) X.env (.ref l)) Q E s:=by
 rw[assign_Tuple];refine qb (wpAny_standAt ?_);unfold unpack;rw[hn,hstar];exact qb (wpAny_holding (PySem.W.kun_itemsOf hh hl h))
def bm4 (K:Frag) (n:Nat) (t:TGs):TG:=λ v σ H Q=>∃ a xs,v=.ref a/\SqL K H a xs/\xs.length=n/\t xs σ H Q
theorem aD0 {es:List Expr}{k:Nat}{t:TGs}{n:Nat} (hc:X.calm=true) (h:PGs X es t)
  (hn:(assignEach es X.env).length=n:=by rfl) (hst:(assignEach es X.env).findIdx? (·.1)=none:=by rfl):PG X (.Tuple es k pos) (bm4 X.K n t):=by
 intro pins s σ H v u Q I r hw;obtain⟨a,xs,e1,hq,hl,hw⟩:=hw;subst e1;cases r;obtain⟨its,rv,pl,hz⟩:=I.list hq;refine m_6 (I.ok.hd hc) pl.isList (by simp[hn,<- hl,rv.length]) hst λ h' hx=>?_
 have I1:Inv X pins σ H {s with heap:=h'}:=I.kept (t':=s.toks) λ b o e=>hx b o (qp (qk e)) e
 exact h pins _ σ H xs _ Q I1 (by simpa using rv) hw
theorem xgT {es:List Expr}{k:Nat}{is:List Nat} (h:XGs X es is) (hc:X.calm=true:=by rfl) (hn:(assignEach es X.env).length=is.length:=by rfl) (hst:(assignEach es X.env).findIdx? (·.1)=none:=by rfl):XG X (.Tuple es k pos) (gT is) :=
 λ pins s σ H v u Q I rv hh0_=>by
  obtain⟨c,H0,ρ,d,ρ',R,r,f,q⟩:=hh0_;unfold gT at f;obtain⟨xs,h1,f⟩:=a_0 f
  split at f
  ·rename_i hl
   cases f;cases d with
   |tup ds =>
    refine ah1 hc h hn hst pins s σ H v u Q I rv ?_;have e:ds=xs:=qh h1;subst e;unfold Rep at r;obtain⟨a,vs,rfl,sq,r⟩:=r;exact⟨a,vs,rfl,Same.seqT R.same sq,by rw[<- r.length];exact hl,c,H0,ρ,ds,R,r,hl,q⟩
   |lst ds =>
    refine aD0 hc h hn hst pins s σ H v u Q I rv ?_;have e:ds=xs:=qh h1;subst e;unfold Rep at r;obtain⟨a,vs,rfl,sq,r⟩:=r;exact⟨a,vs,rfl,Same.seq R.same sq,by rw[<- r.length];exact hl,c,H0,ρ,ds,R,r,hl,q⟩
   |_=>cases h1
  ·cases f
theorem ai8 {K:Frag}{c:FC}{H1 Hh:Hp}{ρ:En}{σ:L2.St}{g:GD}{B:FS}{xs:List D}{J:It}{Dn:Ends}{r:Res} (R:RS K c H1 Hh ρ σ) (hf:fGo g B xs ρ=some r) (hy:n_2 K J H1 xs) (q:Post K c Dn H1 r) :
  ∃ W:Nat->Nat->L2.St->Hp->Prop,(∃ m,W 0 m σ Hh)/\∀ i m σ H,W i m σ H ->
   (J.stop i H/\Dn.nx σ H)\/(J.go i H/\∃ N:L2.St->Hp->Prop,(∀ σ' H',N σ' H'->∃ m',m'<m/\W (i+1) m' σ' H')/\∀ x H',J.yld i H x H'->tG K g x σ H' λ σ2 H2=>tS K B {Dn with nx:=N,ct:=N,bk:=Dn.nx} σ2 H2):=by
 refine⟨λ i m σ H=>m=xs.length-i/\i<=xs.length/\∃ H0 ρ,Same H1 H0/\RS K c H0 H ρ σ/\fGo g B (xs.drop i) ρ=some r,⟨xs.length,by simp,Nat.zero_le _,H1,ρ,Same.refl _,R,by simpa using hf⟩,?_⟩
 rintro i m σ H ⟨rfl,hi,H0,ρ,s0,R0,hg⟩;obtain⟨y1,y2⟩:=hy H0 H i s0 R0.same
 by_cases hlt:i<xs.length
 ·have hd:xs[i]?=some xs[i]:=by simp[hlt]
  obtain⟨go,yl⟩:=y1 _ hd;refine .inr ⟨go,λ σ' H'=>∃ m',m'<xs.length-i/\m'=xs.length-(i+1)/\i+1<=xs.length/\∃ H0 ρ,Same H1 H0/\RS K c H0 H' ρ σ'/\fGo g B (xs.drop (i+1)) ρ=some r,λ σ' H' ⟨m',a,b⟩=>⟨m',a,b⟩,λ x H' hx=>?_⟩
  obtain⟨rfl,rx⟩:=yl x H' hx;rw[p_7 hd,I_4] at hg;obtain⟨ρ1,g1,hg⟩:=a_0 hg;obtain⟨z,g2,hg⟩:=a_0 hg;refine⟨c,H0,ρ,_,ρ1,R0,rx,g1,λ σ1 H2 Hh2 s2 R2=>⟨c,H2,ρ1,z,R2,g2,?_⟩⟩
  cases z with
  |nx ρ2=>exact λ σ' H3 Hh3 s3 R3=>⟨_,by omega,rfl,hlt,H3,ρ2,s0.trans (s2.trans s3),R3,hg⟩
  |ct ρ2=>exact λ σ' H3 Hh3 s3 R3=>⟨_,by omega,rfl,hlt,H3,ρ2,s0.trans (s2.trans s3),R3,hg⟩
  |bk ρ2 =>
   have hg':some (Res.nx ρ2)=some r:=hg;cases hg';exact λ σ' H3 Hh3 s3 R3=>q σ' H3 Hh3 (s0.trans (s2.trans s3)) R3
  |rt d ρ2 =>
   have hg':some (Res.rt d ρ2)=some r:=hg;cases hg';exact λ v σ' H3 Hh3 s3 R3 r3=>q v σ' H3 Hh3 (s0.trans (s2.trans s3)) R3 r3
 ·have hn:xs.drop i=[]:=List.drop_eq_nil_of_le (by omega)
  rw[hn,U_5] at hg;have hg':some (Res.nx ρ)=some r:=hg;cases hg';exact .inl ⟨y2 (by omega),q σ H0 H s0 R0⟩
theorem bh5 {tg iter:Expr}{body:List Stmt}{g:GD} (hg:XG X tg g) (hi:XE X iter F) (hb:XSs X body B) (hp:PassesOwn (model X.prog X.w) X.A X.env X.xe:=by exact PassesOwn.never) (hc:X.calm=true:=by rfl) (hs:∀ x,foldedSetIterable iter X.env x=pure x:=by intro _;rfl) :
  XS X (.For tg iter body [] pos) (aR5 g F B):=PS.wk (G_4 hp hc (aa8 hi) hg hb hs) λ Dn σ H hh0_=>by
 obtain⟨c,H0,ρ,r,R,f,q⟩:=hh0_;unfold aR5 at f;obtain⟨⟨d,ρ1⟩,h1,f⟩:=a_0 f;obtain⟨xs,h2,f⟩:=a_0 f;exact f_8 R h1 h2 λ J H1 Hh s1 R1 hy=>ai8 R1 f hy (q.mono s1)
theorem ay6 {tg a:Expr}{body:List Stmt}{g:GD}{p pos':Pos} (hm:X.mg "range"=none) (hg:XG X tg g) (ha:XE X a F) (hb:XSs X body B) (hgl:Gl X "range":=by rfl) (hp:PassesOwn (model X.prog X.w) X.A X.env X.xe:=by exact PassesOwn.never) (hc:X.calm=true:=by rfl)
  (hst:starEach [a] X.env=[(false,eval a X.env)]:=by rfl) (hs:∀ x,foldedSetIterable (.Call (.Name "range" p) [a] [] pos') X.env x=pure x:=by intro _;rfl) :
  XS X (.For tg (.Call (.Name "range" p) [a] [] pos') body [] pos) (Z_7 g (ag6 F) B):=PS.wk (G_4 hp hc (x_4 hgl hm (e_2 ha i_1 hst) hst) hg hb hs) λ Dn σ H hh0_=>by
 obtain⟨c,H0,ρ,r,R,f,q⟩:=hh0_;unfold Z_7 ag6 at f;obtain⟨⟨xs,ρ1⟩,h1,f⟩:=a_0 f;obtain⟨⟨d,ρ2⟩,h2,h1⟩:=a_0 h1;obtain⟨j,h3,h1⟩:=a_0 h1;dsimp only at h1 h3 f
 split at h1
 ·rename_i hj
  cases h1;refine⟨c,H0,ρ,d,_,R,h2,λ v H1 Hh s1 R1 r1=>?_⟩
  cases d with
  |int k =>
   have e:k=j:=qh h3;subst e;unfold Rep at r1;subst r1;exact⟨k,rfl,hj.1,hj.2,ai8 R1 f (r_5 0 k.toNat) (q.mono s1)⟩
  |_=>cases h3
 ·cases h1
end
theorem RS.start {K:Frag}{Hi H:Hp}{ds:List D}{vs:List V}{m n:Nat} (s:Same Hi H) (r:Reps K Hi ds vs) (hn:n-vs.length=m):RS K ⟨Hi,H,[]⟩ Hi H (ds.map .im++List.replicate m .no) (vs.map some++List.replicate (n-vs.length) none):=by
 have hl:=r.length;refine⟨s,Same.refl _,λ b o e=>.inl e,λ b o e _=>e,λ a h=>(by cases h),?_,λ i d e=>?_,λ i b o e=>?_,λ i j b b' o o' a e=>?_⟩
 ·rw[List.length_append,List.length_append,List.length_map,List.length_map,List.length_replicate,List.length_replicate,hl,hn]
 ·by_cases hi:i<ds.length
  ·rw[List.getElem?_append_left (by simpa using hi),List.getElem?_map] at e
   cases z:ds[i]? with
   |none=>rw[z] at e;cases e
   |some d' =>
    rw[z] at e;have e':d'=d:=by have:=qh e;injection this
    subst e';obtain⟨v,a,b⟩:=r.get z;exact⟨v,by rw[List.getElem?_append_left (by simp;omega),List.getElem?_map,a];rfl,b⟩
  ·rw[List.getElem?_append_right (by simpa using Nat.le_of_not_lt hi),List.getElem?_replicate] at e
   split at e <;> cases e
 ·by_cases hi:i<ds.length
  ·rw[List.getElem?_append_left (by simpa using hi),List.getElem?_map] at e
   cases z:ds[i]? with
   |none=>rw[z] at e;cases e
   |some d'=>rw[z] at e;cases e
  ·rw[List.getElem?_append_right (by simpa using Nat.le_of_not_lt hi),List.getElem?_replicate] at e
   split at e <;> cases e
 ·by_cases hi:i<ds.length
  ·rw[List.getElem?_append_left (by simpa using hi),List.getElem?_map] at e
   cases z:ds[i]? with
   |none=>rw[z] at e;cases e
   |some d'=>rw[z] at e;cases e
  ·rw[List.getElem?_append_right (by simpa using Nat.le_of_not_lt hi),List.getElem?_replicate] at e
   split at e <;> cases e
theorem h_5 {P:Program}{w:World}{K:Frag}{mg:Str->Option Value}{base:Heap}{x qual:Str}{st:Stmt}{f:Addr}{fd:FuncData}{N ps:List Str}{k n m:Nat}{B:FS} (F:Fun K x qual st f fd) (S:FnScope N ps (a_1 st)) (hn:ps.length=n) (hN:N.length=n+m)
  (hb:∀ (cdv:Value) (A:Around) (outer:List Env) (s:Shared) (H:Hp) (E:XK),Room k (A.deeper (envOfC qual (a_1 st) s.heap.objs.size f cdv))->XSs (w_0 CX0 P w K mg base N qual (a_1 st) f cdv A outer s H E).nox (e_3 st) B) :
  FnOk P w K mg base CX0 (k+1) f fd ps (spP K (fnD n m B)):=by
 have inv:∀ {ds:List D}{d:D},fnD n m B ds=some d->ds.length=n/\∃ r,B (ds.map .im++List.replicate m .no)=some r/\aM4 r=some d:=λ {ds d} h=>by
  unfold fnD at h
  split at h
  ·rename_i hl
   obtain⟨r,h1,h2⟩:=a_0 h;exact⟨hl,r,h1,h2⟩
  ·cases h
 refine F.ok S (λ vs H Q E h=>?_) (λ cdv A outer s H vs Q E hr h=>?_)
 ·obtain⟨Hi,ds,d,_,r,e,_⟩:=h
  rw[hn,<- r.length];exact (inv e).1
 ·obtain⟨Hi,ds,d,hs,r,e,q⟩:=h
  obtain⟨hl,res,h1,h2⟩:=inv e;refine⟨_,hb cdv A outer s H E hr,⟨Hi,H,[]⟩,Hi,_,res,RS.start (n:=N.length) (m:=m) hs r (by rw[<- r.length];omega),h1,?_⟩
  cases res with
  |nx ρ' =>
   have e':D.non=d:=qh h2;subst e';exact λ σ' H0' H' s0 R=>q .non H0' H' R.step (by unfold Rep;rfl)
  |rt d' ρ' =>
   have e':d'=d:=qh h2;subst e';exact λ v σ' H0' H' s0 R rv=>q v H0' H' R.step rv
  |bk ρ'=>cases h2
  |ct ρ'=>cases h2
end Fx
namespace Fx
open PySem
@[simp] theorem bg3 (i j:Int):b_7 (.int i) (.int j)=some (.int (i+j)):=Eq.trans rfl rfl
@[simp] theorem bg2 (a b:List D):b_7 (.lst a) (.lst b)=if a.length+b.length<=sizeLine then some (.lst (a++b)) else none:=Eq.trans rfl rfl
@[simp] theorem bg1 (i j:Int):ae4 (.int i) (.int j)=if k_1 j=true then some (.int (i.fdiv j)) else none:=Eq.trans rfl rfl
@[simp] theorem bf9 (i j:Int):z_0 (.int i) (.int j)=if j≠0 then some (.int (i.fmod j)) else none:=Eq.trans rfl rfl
@[simp] theorem bn4 (i j:Int):dLt (.int i) (.int j)=some (.bl (decide (i<j))):=Eq.trans rfl rfl
@[simp] theorem bn5 (i j:Int):dGe (.int i) (.int j)=some (.bl (decide (j<=i))):=Eq.trans rfl rfl
@[simp] theorem bq1 (x y:D):dEq x y=if dpD x<=30/\dpD y<=30 then some (.bl (eqD x y)) else none:=Eq.trans rfl rfl
@[simp] theorem bn3 (x y:D):dNe x y=if dpD x<=30/\dpD y<=30 then some (.bl (!eqD x y)) else none:=Eq.trans rfl rfl
@[simp] theorem bq0 (x:D):dIs x .non=some (.bl (isN x)):=Eq.trans rfl rfl
@[simp] theorem aY2 (x:D):p_8 x .non=some (.bl (!isN x)):=Eq.trans rfl rfl
@[simp] theorem bf7 (b:Bool):ax5 (.bl b)=some b:=Eq.trans rfl rfl
@[simp] theorem bn6 (i:Int):bn7 [.int i]=some (.int (i.natAbs:Int)):=congrArg (λ z=>some (D.int z)) (show (if i<0 then -i else i)=(i.natAbs:Int) by split <;> omega)
def bg4 {α:Type} (x:α) (o:Option (List α)):Option (List α):=bnd o λ t=>some (x::t)
@[simp] theorem aJ7 {α:Type} (x:α) (t:List α):bg4 x (some t)=some (x::t):=Eq.trans rfl rfl
@[simp] theorem ai3 (b:Str):ai4 .str (.str b)=true:=Eq.trans rfl rfl
def mkP (o:Option D) (ρ:En):Option (D×En):=bnd o λ d=>some (d,ρ)
@[simp] theorem bl2 (d:D) (ρ:En):mkP (some d) ρ=some (d,ρ):=Eq.trans rfl rfl
@[simp] theorem bj4 (ρ:En) (d:D):slV ρ (some (.im d))=some (d,ρ):=Eq.trans rfl rfl
@[simp] theorem eV_ (i:Nat) (ρ:En):eV i ρ=slV ρ ρ[i]?:=Eq.trans rfl rfl
@[simp] theorem eC_ (d:D) (ρ:En):eC d ρ=some (d,ρ):=Eq.trans rfl rfl
def e2b (op:D->D->Option D) (x:D) (o:Option (D×En)):Option (D×En):=bnd o λ q=>bnd (op x q.1) λ d=>some (d,q.2)
def e2a (op:D->D->Option D) (G:FE) (o:Option (D×En)):Option (D×En):=bnd o λ p=>bnd (G p.2) λ q=>bnd (op p.1 q.1) λ d=>some (d,q.2)
@[simp] theorem e2_ (op:D->D->Option D) (F G:FE) (ρ:En):e2 op F G ρ=e2a op G (F ρ):=Eq.trans rfl rfl
@[simp] theorem bn1 (op:D->D->Option D) (G:FE) (x:D) (ρ:En):e2a op G (some (x,ρ))=e2b op x (G ρ):=Eq.trans rfl rfl
@[simp] theorem bn0 (op:D->D->Option D) (x y:D) (ρ:En):e2b op x (some (y,ρ))=mkP (op x y) ρ:=Eq.trans rfl rfl
@[simp] theorem aN_ (ρ:En):aN ρ=some ([],ρ):=Eq.trans rfl rfl
def aCb (x:D) (o:Option (List D×En)):Option (List D×En):=bnd o λ q=>some (x::q.1,q.2)
def aCa (A:FA) (o:Option (D×En)):Option (List D×En):=bnd o λ p=>bnd (A p.2) λ q=>some (p.1::q.1,q.2)
@[simp] theorem aC_ (F:FE) (A:FA) (ρ:En):aC F A ρ=aCa A (F ρ):=Eq.trans rfl rfl
@[simp] theorem bo1 (A:FA) (x:D) (ρ:En):aCa A (some (x,ρ))=aCb x (A ρ):=Eq.trans rfl rfl
@[simp] theorem bo0 (x:D) (xs:List D) (ρ:En):aCb x (some (xs,ρ))=some (x::xs,ρ):=Eq.trans rfl rfl
def bd1 (o:Option (List D×En)):Option (D×En):=bnd o λ p=>if p.1.length<=1000 then some (.lst p.1,p.2) else none
@[simp] theorem bm8 (A:FA) (ρ:En):d_7 A ρ=bd1 (A ρ):=Eq.trans rfl rfl
@[simp] theorem bd0 (xs:List D) (ρ:En):bd1 (some (xs,ρ))=if xs.length<=1000 then some (.lst xs,ρ) else none:=Eq.trans rfl rfl
def eFa (g:List D->Option D) (o:Option (List D×En)):Option (D×En):=bnd o λ p=>bnd (g p.1) λ d=>some (d,p.2)
@[simp] theorem eF_ (g:List D->Option D) (A:FA) (ρ:En):eF g A ρ=eFa g (A ρ):=Eq.trans rfl rfl
@[simp] theorem bm9 (g:List D->Option D) (xs:List D) (ρ:En):eFa g (some (xs,ρ))=mkP (g xs) ρ:=Eq.trans rfl rfl
def be6 (t:Ty) (o:Option (D×En)):Option (D×En):=bnd o λ p=>some (.bl (ai4 t p.1),p.2)
@[simp] theorem bp6 (t:Ty) (F:FE) (ρ:En):eTy t F ρ=be6 t (F ρ):=Eq.trans rfl rfl
@[simp] theorem be5 (t:Ty) (x:D) (ρ:En):be6 t (some (x,ρ))=some (.bl (ai4 t x),ρ):=Eq.trans rfl rfl
@[simp] theorem oN_ (ρ:En):oN ρ=some (none,ρ):=Eq.trans rfl rfl
def oSa (o:Option (D×En)):Option (Option Int×En):=bnd o λ p=>bnd (aw4 p.1) λ i=>some (some i,p.2)
@[simp] theorem oS_ (F:FE) (ρ:En):oS F ρ=oSa (F ρ):=Eq.trans rfl rfl
@[simp] theorem bk6 (i:Int) (ρ:En):oSa (some (.int i,ρ))=some (some i,ρ):=Eq.trans rfl rfl
def mkB (o:Option Bool) (ρ:En):Option (Bool×En):=bnd o λ b=>some (b,ρ)
@[simp] theorem bl3 (b:Bool) (ρ:En):mkB (some b) ρ=some (b,ρ):=Eq.trans rfl rfl
def tBa (o:Option (D×En)):Option (Bool×En):=bnd o λ p=>bnd (blB p.1) λ b=>some (b,p.2)
@[simp] theorem tB_ (F:FE) (ρ:En):tB F ρ=tBa (F ρ):=Eq.trans rfl rfl
@[simp] theorem bj1 (b:Bool) (ρ:En):tBa (some (.bl b,ρ))=some (b,ρ):=Eq.trans rfl rfl
def tVa (o:Option (D×En)):Option (Bool×En):=bnd o λ p=>bnd (ax5 p.1) λ b=>some (b,p.2)
@[simp] theorem tV_ (F:FE) (ρ:En):tV F ρ=tVa (F ρ):=Eq.trans rfl rfl
@[simp] theorem bi1 (x:D) (ρ:En):tVa (some (x,ρ))=mkB (ax5 x) ρ:=Eq.trans rfl rfl
def aP6 (U:FT) (o:Option (Bool×En)):Option (Bool×En):=bnd o λ p=>if p.1=true then some (true,p.2) else U p.2
def az1 (o:Option (Bool×En)):Option (Bool×En):=bnd o λ p=>some (!p.1,p.2)
@[simp] theorem bo5 (T U:FT) (ρ:En):tOr T U ρ=aP6 U (T ρ):=Eq.trans rfl rfl
@[simp] theorem ba5 (U:FT) (ρ:En):aP6 U (some (true,ρ))=some (true,ρ):=Eq.trans rfl rfl
@[simp] theorem ba6 (U:FT) (ρ:En):aP6 U (some (false,ρ))=U ρ:=Eq.trans rfl rfl
@[simp] theorem bi6 (T:FT) (ρ:En):tNot T ρ=az1 (T ρ):=Eq.trans rfl rfl
@[simp] theorem aP7 (b:Bool) (ρ:En):az1 (some (b,ρ))=some (!b,ρ):=Eq.trans rfl rfl
@[simp] theorem bd9 (ρ:En):A_8 ρ []=some []:=Eq.trans rfl rfl
def cGb (T:FT) (F:FE) (fr:En) (r:List D) (o:Option (D×En)):Option (List D):=bnd o λ q=>bnd (cGo T F fr r) λ t=>some (q.1::t)
def cGa (T:FT) (F:FE) (fr:En) (r:List D) (o:Option (Bool×En)):Option (List D):=bnd o λ p=>if p.1=true then bnd (F p.2) λ q=>bnd (cGo T F fr r) λ t=>some (q.1::t) else cGo T F fr r
@[simp] theorem aY4 (T:FT) (F:FE) (fr:En) (d:D) (r:List D):cGo T F fr (d::r)=cGa T F fr r (T (.im d::fr)):=Eq.trans rfl rfl
@[simp] theorem aY6 (T:FT) (F:FE) (fr:En) (r:List D) (ρ:En):cGa T F fr r (some (true,ρ))=cGb T F fr r (F ρ):=Eq.trans rfl rfl
@[simp] theorem aY5 (T:FT) (F:FE) (fr:En) (r:List D) (x:D) (ρ:En):cGb T F fr r (some (x,ρ))=bg4 x (cGo T F fr r):=Eq.trans rfl rfl
@[simp] theorem aV5 (xs:List D):items (.lst xs)=some xs:=Eq.trans rfl rfl
def aX3 (ρ:En) (xs:List D) (o:Option (List D)):Option (D×En):=bnd o λ ys=>if xs.length<=sizeLine then some (.lst ys,ρ) else none
def aX4 (T:FT) (F:FE) (ρ:En) (xs:List D) (o:Option En):Option (D×En):=bnd o λ fr=>aX3 ρ xs (cGo T F fr xs)
def aX5 (js:List Nat) (T:FT) (F:FE) (ρ:En) (o:Option (List D)):Option (D×En):=bnd o λ xs=>aX4 T F ρ xs (A_8 ρ js)
def bf3 (js:List Nat) (T:FT) (F:FE) (o:Option (D×En)):Option (D×En):=bnd o λ p=>aX5 js T F p.2 (items p.1)
@[simp] theorem bp8 (js:List Nat) (I:FE) (T:FT) (F:FE) (ρ:En):eLC js I T F ρ=bf3 js T F (I ρ):=Eq.trans rfl rfl
@[simp] theorem bf2 (js:List Nat) (T:FT) (F:FE) (x:D) (ρ:En):bf3 js T F (some (x,ρ))=aX5 js T F ρ (items x):=Eq.trans rfl rfl
@[simp] theorem bf1 (js:List Nat) (T:FT) (F:FE) (ρ:En) (xs:List D):aX5 js T F ρ (some xs)=aX4 T F ρ xs (A_8 ρ js):=Eq.trans rfl rfl
@[simp] theorem bf0 (T:FT) (F:FE) (ρ:En) (xs:List D) (fr:En):aX4 T F ρ xs (some fr)=aX3 ρ xs (cGo T F fr xs):=Eq.trans rfl rfl
@[simp] theorem be9 (ρ:En) (xs ys:List D):aX3 ρ xs (some ys)=if xs.length<=sizeLine then some (.lst ys,ρ) else none:=Eq.trans rfl rfl
@[simp] theorem sN_ (ρ:En):sN ρ=some (.nx ρ):=Eq.trans rfl rfl
def am2 (G:FS) (o:Option Res):Option Res:=bnd o λ r=>nxR G r
@[simp] theorem aR1 (F G:FS) (ρ:En):b_6 F G ρ=am2 G (F ρ):=Eq.trans rfl rfl
@[simp] theorem aR0 (G:FS) (ρ:En):am2 G (some (.nx ρ))=G ρ:=Eq.trans rfl rfl
@[simp] theorem aQ9 (G:FS) (d:D) (ρ:En):am2 G (some (.rt d ρ))=some (.rt d ρ):=Eq.trans rfl rfl
def aA2 (i:Nat) (o:Option (D×En)):Option Res:=bnd o λ p=>some (.nx (p.2.set i (.im p.1)))
@[simp] theorem bj5 (i:Nat) (F:FE) (ρ:En):c_7 i F ρ=aA2 i (F ρ):=Eq.trans rfl rfl
@[simp] theorem aQ8 (i:Nat) (x:D) (ρ:En):aA2 i (some (x,ρ))=some (.nx (ρ.set i (.im x))):=Eq.trans rfl rfl
def aR4 (F G:FS) (o:Option (Bool×En)):Option Res:=bnd o λ p=>if p.1=true then F p.2 else G p.2
@[simp] theorem bo6 (T:FT) (F G:FS) (ρ:En):sIf T F G ρ=aR4 F G (T ρ):=Eq.trans rfl rfl
@[simp] theorem ba9 (F G:FS) (ρ:En):aR4 F G (some (true,ρ))=F ρ:=Eq.trans rfl rfl
@[simp] theorem bb0 (F G:FS) (ρ:En):aR4 F G (some (false,ρ))=G ρ:=Eq.trans rfl rfl
def aA3 (o:Option (D×En)):Option Res:=bnd o λ p=>some (.rt p.1 p.2)
@[simp] theorem bj6 (F:FE) (ρ:En):e_1 F ρ=aA3 (F ρ):=Eq.trans rfl rfl
@[simp] theorem aR2 (x:D) (ρ:En):aA3 (some (x,ρ))=some (.rt x ρ):=Eq.trans rfl rfl
def fGb (g:D->En->Option En) (B:FS) (r:List D) (o:Option Res):Option Res:=bnd o λ z=>goR (fGo g B r) z
def fGa (g:D->En->Option En) (B:FS) (r:List D) (o:Option En):Option Res:=bnd o λ ρ1=>fGb g B r (B ρ1)
theorem aH5 (g:D->En->Option En) (B:FS) (d:D) (r:List D) (ρ:En):fGo g B (d::r) ρ=fGa g B r (g d ρ):=Eq.trans rfl rfl
@[simp] theorem aH7 (g:D->En->Option En) (B:FS) (r:List D) (ρ:En):fGa g B r (some ρ)=fGb g B r (B ρ):=Eq.trans rfl rfl
@[simp] theorem aH6 (g:D->En->Option En) (B:FS) (r:List D) (ρ:En):fGb g B r (some (.nx ρ))=fGo g B r ρ:=Eq.trans rfl rfl
def aB4 (o:Option (D×En)):Option (List D×En):=bnd o λ p=>bnd (aw4 p.1) λ j=>if -(2 ^ 62)<=j/\j<2 ^ 62 then some (A_7 0 j.toNat,p.2) else none
@[simp] theorem bj8 (F:FE) (ρ:En):ag6 F ρ=aB4 (F ρ):=Eq.trans rfl rfl
@[simp] theorem aS1 (j:Int) (ρ:En):aB4 (some (.int j,ρ))=if -(2 ^ 62)<=j/\j<2 ^ 62 then some (A_7 0 j.toNat,ρ) else none:=Eq.trans rfl rfl
def ag4 (g:D->En->Option En) (B:FS) (o:Option (List D×En)):Option Res:=bnd o λ p=>fGo g B p.1 p.2
@[simp] theorem bb1 (g:D->En->Option En) (X:FA) (B:FS) (ρ:En):Z_7 g X B ρ=ag4 g B (X ρ):=Eq.trans rfl rfl
@[simp] theorem aL5 (g:D->En->Option En) (B:FS) (xs:List D) (ρ:En):ag4 g B (some (xs,ρ))=fGo g B xs ρ:=Eq.trans rfl rfl
def fnA (o:Option Res):Option D:=bnd o λ r=>aM4 r
@[simp] theorem bm5 (d:D) (ρ:En):fnA (some (.rt d ρ))=some d:=Eq.trans rfl rfl
@[simp] theorem bp5 (n k:Nat) (B:FS) (ds:List D):fnD n k B ds=if ds.length=n then fnA (B (ds.map .im++List.replicate k .no)) else none:=Eq.trans rfl rfl
def be4 (i:Nat) (ρ:En):Option Sl->En
 |some (.ow false (.lst ds))=>ρ.set i (.im (.lst ds))
 |_=>ρ
@[simp] theorem bp3 (i:Nat) (ρ:En):frz i ρ=be4 i ρ ρ[i]?:=by unfold frz be4;split <;> simp_all
end Fx
namespace Fx
open PySem PySem.Spec PyProof.Rows L2
theorem RS.heNone {K:Frag}{c:FC}{H0 H:Hp}{ρ:En}{σ:L2.St} (R:RS K c H0 H ρ σ) {p:Addr} (hp:H p=none):c.He p=none:=by
 cases q:c.He p with
 |none=>rfl
 |some u =>
  by_cases hb:p∈c.Ap
  ·exact absurd hp (R.apt p hb)
  ·rw[R.keep p u q hb] at hp;cases hp
theorem RS.setOwn {K:Frag}{c:FC}{H0 H:Hp}{ρ:En}{σ:L2.St}{p:Addr}{u:HO}{o:MO} (R:RS K c H0 H ρ σ) (i:Nat) (hp:H p=none) (r:OwOk K H0 (upd H p u) p o) :
  RS K c H0 (upd H p u) (ρ.set i (.ow false o)) (σ.set i (some (.ref p))):=by
 have hl:=R.len;have h0:H0 p=none:=R.same.free hp;have he:=R.heNone hp;have up:∀ b v,H b=some v->(upd H p u) b=some v:=λ b v e=>by rw[a_3 (a_5 e hp)];exact e
 have other:∀ (j:Nat) (sl:Sl),j≠i->(ρ.set i (.ow false o))[j]?=some sl->ρ[j]?=some sl:=λ j sl hj e=>by rwa [List.getElem?_set_ne (Ne.symm hj)] at e
 have otherS:∀ (j:Nat),j≠i->(σ.set i (some (V.ref p)))[j]?=σ[j]?:=λ j hj=>List.getElem?_set_ne (Ne.symm hj)
 have same:∀ (sl:Sl),(ρ.set i (.ow false o))[i]?=some sl->sl=.ow false o/\i<ρ.length:=λ sl e=>by
  by_cases hi:i<ρ.length
  ·rw[List.getElem?_set_self hi] at e;exact⟨(qh e).symm,hi⟩
  ·rw[List.getElem?_eq_none (by rw[List.length_set];omega)] at e;cases e
 have ownNe:∀ (j:Nat) (b:Bool) (o:MO) (a:Addr),ρ[j]?=some (.ow b o)->σ[j]?=some (some (.ref a))->a≠p:=λ j b o a e1 e2=>by
  obtain⟨a',x,_,_,w⟩:=R.ow j b o e1;rw[x] at e2;cases e2;obtain⟨u,q⟩:=w.some;exact a_5 q hp
 refine⟨λ b u e=>up b u (R.same b u e),R.init,R.fresh,λ b o e n=>up b o (R.keep b o e n),λ a ha e=>?_,by rw[List.length_set,List.length_set,hl],λ j d' e=>?_,λ j bb o' e=>?_,λ j k b1 b2 o1 o2 a e1 e2 e3 e4=>?_⟩
 ·cases q:H a with
  |none=>exact R.apt a ha q
  |some v=>rw[up a v q] at e;cases e
 ·by_cases hj:j=i
  ·subst hj;obtain⟨e',_⟩:=same _ e;cases e'
  ·rw[otherS j hj];exact R.im j d' (other j _ hj e)
 ·by_cases hj:j=i
  ·subst hj
   obtain⟨e',hi⟩:=same _ e;cases e';exact⟨p,by rw[List.getElem?_set_self (by omega)],h0,he,r⟩
  ·rw[otherS j hj]
   obtain⟨a,x,y,z,w⟩:=R.ow j bb o' (other j _ hj e);exact⟨a,x,y,z,w.step (Same.refl _) λ v q=>up a v q⟩
 ·by_cases hj:j=i
  ·by_cases hk:k=i
   ·omega
   ·subst hj
    obtain⟨_,hi⟩:=same _ e1;rw[List.getElem?_set_self (by omega)] at e3
    cases e3;rw[otherS k hk] at e4;exact absurd rfl (ownNe k b2 o2 _ (other k _ hk e2) e4)
  ·by_cases hk:k=i
   ·subst hk
    obtain⟨_,hi⟩:=same _ e2;rw[List.getElem?_set_self (by omega)] at e4
    cases e4;rw[otherS j hj] at e3;exact absurd rfl (ownNe j b1 o1 _ (other j _ hj e1) e3)
   ·rw[otherS j hj] at e3;rw[otherS k hk] at e4
    exact R.ne j k b1 b2 o1 o2 a (other j _ hj e1) (other k _ hk e2) e3 e4
theorem RS.lent {K:Frag}{c:FC}{H0 H H0' H':Hp}{ρ:En}{σ:L2.St}{a:Addr}{b:Bool}{o o':MO} (R:RS K c H0 H ρ σ) {i:Nat} (hi:ρ[i]?=some (.ow b o)) (ha:σ[i]?=some (some (.ref a)))
  (s0:Same H0 H0') (s':Same H0' H') (kp:∀ x u,H x=some u->x≠a->H' x=some u) (fr:∀ x u,H0' x=some u->H0 x=some u\/H x=none) (r:OwOk K H0' H' a o') :
  RS K c H0' H' (ρ.set i (.ow b o')) σ:=by
 obtain⟨a',x,y,z,w⟩:=R.ow i b o hi;rw[ha] at x;cases x;obtain⟨ua,qa⟩:=w.some;have il:i<ρ.length:=(List.getElem?_eq_some_iff.mp hi).1
 have n0:∀ x,H0 x=none->H x≠none->H0' x=none:=λ x h1 h2=>by
  cases q:H0' x with
  |none=>rfl
  |some u =>
   rcases fr x u q with h | h
   ·rw[h1] at h;cases h
   ·exact absurd h h2
 have other:∀ (j:Nat) (sl:Sl),j≠i->(ρ.set i (.ow b o'))[j]?=some sl->ρ[j]?=some sl:=λ j sl hj e=>by rwa [List.getElem?_set_ne (Ne.symm hj)] at e
 have same:∀ (sl:Sl),(ρ.set i (.ow b o'))[i]?=some sl->sl=.ow b o':=λ sl e=>by
  rw[List.getElem?_set_self il] at e;exact (qh e).symm
 have was:∀ (j:Nat) (bb:Bool) (oo:MO),(ρ.set i (.ow b o'))[j]?=some (.ow bb oo)->∃ bb o'',ρ[j]?=some (.ow bb o''):=λ j bb oo e=>by
  by_cases hj:j=i
  ·exact⟨b,o,by rw[hj];exact hi⟩
  ·exact⟨bb,oo,other j _ hj e⟩
 refine⟨s',R.init.trans s0,λ x u e=>?_,λ x u e n=>?_,λ x hx e=>?_,by rw[List.length_set];exact R.len,λ j d' e=>?_,λ j bb oo e=>?_,λ j k b1 b2 o1 o2 x e1 e2 e3 e4=>?_⟩
 ·rcases fr x u e with h | h
  ·exact R.fresh x u h
  ·exact .inr (R.heNone h)
 ·have:x≠a:=λ h=>by
   cases b with
   |true=>exact n (h▸z)
   |false =>
    have z':c.He a=none:=z;rw[h,z'] at e;cases e
  exact kp x u (R.keep x u e n) this
 ·by_cases h:x=a
  ·obtain⟨u,q⟩:=r.some
   rw[h,q] at e;cases e
  ·cases q:H x with
   |none=>exact R.apt x hx q
   |some u=>rw[kp x u q h] at e;cases e
 ·by_cases hj:j=i
  ·subst hj;cases same _ e
  ·obtain⟨v,a1,a2⟩:=R.im j d' (other j _ hj e)
   exact⟨v,a1,Rep.mono s0 _ a2⟩
 ·by_cases hj:j=i
  ·subst hj
   cases same _ e;exact⟨a,ha,n0 a y (by rw[qa];intro h;cases h),z,r⟩
  ·have q':=other j _ hj e
   obtain⟨x,x1,y1,z1,w1⟩:=R.ow j bb oo q';have nx:x≠a:=λ h=>hj (R.ne j i bb b oo o x q' hi x1 (by rw[h];exact ha))
   obtain⟨u,qu⟩:=w1.some;exact⟨x,x1,n0 x y1 (by rw[qu];intro h;cases h),z1,w1.step s0 λ v q=>kp x v q nx⟩
 ·obtain⟨_,p,e1⟩:=was j b1 o1 e1
  obtain⟨_,q,e2⟩:=was k b2 o2 e2;exact R.ne j k _ _ p q x e1 e2 e3 e4
theorem RS.mutOwn {K:Frag}{c:FC}{H0 H:Hp}{ρ:En}{σ:L2.St}{a:Addr}{b:Bool}{o o':MO}{u:HO} (R:RS K c H0 H ρ σ) {i:Nat} (hi:ρ[i]?=some (.ow b o)) (ha:σ[i]?=some (some (.ref a))) (r:OwOk K H0 (upd H a u) a o') :
  RS K c H0 (upd H a u) (ρ.set i (.ow b o')) σ:=by
 obtain⟨a',x,y,z,w⟩:=R.ow i b o hi;rw[ha] at x;cases x;refine R.lent hi ha (Same.refl _) (λ x v e=>?_) (λ x v e n=>by rw[a_3 n];exact e) (λ x v e=>.inl e) r
 have:x≠a:=λ h=>by rw[h,y] at e;cases e
 rw[a_3 this];exact R.same x v e
theorem RS.freeze {K:Frag}{c:FC}{H0 H:Hp}{ρ:En}{σ:L2.St}{ds:List D} (R:RS K c H0 H ρ σ) {i:Nat} (hi:ρ[i]?=some (.ow false (.lst ds))) :
  ∃ H0',Same H0 H0'/\RS K c H0' H (ρ.set i (.im (.lst ds))) σ:=by
 obtain⟨a,x,y,z,vs,e,r⟩:=R.ow i _ _ hi;have he:c.He a=none:=z;have il:i<ρ.length:=(List.getElem?_eq_some_iff.mp hi).1;have s0:Same H0 (upd H0 a (.lst vs)):=λ b u q=>by rw[a_3 (a_5 q y)];exact q
 have other:∀ (j:Nat) (sl:Sl),j≠i->(ρ.set i (.im (.lst ds)))[j]?=some sl->ρ[j]?=some sl:=λ j sl hj e=>by rwa [List.getElem?_set_ne (Ne.symm hj)] at e
 have same:∀ (sl:Sl),(ρ.set i (.im (.lst ds)))[i]?=some sl->sl=.im (.lst ds):=λ sl e=>by
  rw[List.getElem?_set_self il] at e;exact (qh e).symm
 refine⟨upd H0 a (.lst vs),s0,λ b u q=>?_,R.init.trans s0,λ b u q=>?_,R.keep,R.apt,by rw[List.length_set];exact R.len,λ j d' q=>?_,λ j bb o' q=>?_,λ j k b1 b2 o' o'' b e1 e2 e3 e4=>?_⟩
 ·by_cases h:b=a
  ·subst h;rw[a_2] at q;cases q;exact e
  ·rw[a_3 h] at q;exact R.same b u q
 ·by_cases h:b=a
  ·subst h;exact .inr he
  ·rw[a_3 h] at q;exact R.fresh b u q
 ·by_cases hj:j=i
  ·subst hj
   cases same _ q;refine⟨.ref a,x,?_⟩;unfold Rep;exact⟨a,vs,rfl,.inl (.inl a_2),Reps.mono s0 _ r⟩
  ·obtain⟨v,a1,a2⟩:=R.im j d' (other j _ hj q)
   exact⟨v,a1,Rep.mono s0 _ a2⟩
 ·by_cases hj:j=i
  ·subst hj;cases same _ q
  ·have q':=other j _ hj q
   obtain⟨b,x1,y1,z1,w1⟩:=R.ow j bb o' q';have nb:b≠a:=λ h=>hj (R.ne j i bb false o' _ b q' hi x1 (by rw[h];exact x))
   exact⟨b,x1,by rw[a_3 nb];exact y1,z1,w1.step s0 λ u q=>q⟩
 ·by_cases hj:j=i
  ·subst hj;cases same _ e1
  ·by_cases hk:k=i
   ·subst hk;cases same _ e2
   ·exact R.ne j k b1 b2 o' o'' b (other j _ hj e1) (other k _ hk e2) e3 e4
def tEo (K:Frag) (A:FA):TE:=λ σ H Q=>∃ c H0 ρ ds ρ',RS K c H0 H ρ σ/\A ρ=some (ds,ρ')/\∀ p vs H0' H',Same H0 H0'->RS K c H0' H' ρ' σ->H' p=none->Reps K H0' ds vs->Q (.ref p) (upd H' p (.lst vs))
def XO' (X:Cx) (e:Expr) (A:FA):Prop:=PE X e (tEo X.K A)
theorem i_2 {o:Option Sl}{ds:List D} (h:owL o=some ds):o=some (.ow false (.lst ds)):=by
 unfold owL at h
 split at h
 ·cases h;rfl
 ·cases h
section
variable {X:Cx}{pos:Pos}{e:Expr}{F:FE}{T:FT}{A B:FA}
theorem aZ8 (i:Nat) {x:Str}{pos':Pos} (hN:X.N.Nodup) (he:XO' X e A) (hi:X.N[i]?=some x:=by rfl) (hx:Loc X.env.scope x:=by first | exact Or.inl rfl | exact Or.inr rfl) (hs:swapsWith e (some (.Name x pos')) pos.line X.env=pure false:=by rfl)
  (hf:X.fn x=true\/X.env.scope.names.lookup x=some .local:=by first | exact .inl rfl | exact .inr rfl):XS X (.Assign [.Name x pos'] e pos) (aL3 i A):=PS.wk (x_2 hN hi hx he hs hf) λ Dn σ H hh0_=>by
 obtain⟨c,H0,ρ,r,R,f,q⟩:=hh0_;unfold aL3 at f;obtain⟨⟨ds,ρ1⟩,h1,f⟩:=a_0 f;have f':some (Res.nx (ρ1.set i (.ow false (.lst ds))))=some r:=f;cases f';exact⟨c,H0,ρ,ds,ρ1,R,h1,λ p vs H1 Hh s1 R1 hp r1=>q _ H1 _ s1 (R1.setOwn (o:=.lst ds) (u:=.lst vs) i hp ⟨vs,a_2,r1⟩)⟩
theorem bh8 (i:Nat) {x:Str}{p1 p2 p3:Pos} (ha:XA X [e] (aC F aN)) (hN:X.N[i]?=some x:=by rfl) (hv:Vis X.env.scope x:=by first | exact Or.inl rfl | exact Or.inr (Or.inl rfl) | exact Or.inr (Or.inr rfl)) (hd:(x==("__debug__":Str))=false:=by decide)
  (hcd:(x==("__classdict__":Str))=false:=by decide) (hbase:attributeBase (.Name x p1) "append" X.env (eval (.Name x p1) X.env)=eval (.Name x p1) X.env:=by rfl)
  (hfew:((backTo p3 (starEach [e] X.env)).all (λ x=>!x.1)&&(backToKw p3 (keywordEach [] X.env)).all (λ x=>x.1.isSome)&&decide ([e].length+([]:List Keyword).length+(if ([]:List Keyword).isEmpty then 0 else 1)<30))=true:=by rfl)
  (hline:(p2.endLine==p3.line)=true:=by rfl) (hst:starEach [e] X.env=(false,eval e X.env)::starEach [] X.env:=by rfl) (hpl:(backTo p3 (starEach [] X.env)).any (·.1)=false:=by rfl)
  (hs:swapsWith (.Call (.Attribute (.Name x p1) "append" p2) [e] [] p3) none pos.line X.env=pure false:=by rfl) :
  XS X (.Expr (.Call (.Attribute (.Name x p1) "append" p2) [e] [] p3) pos) (aS0 i F) :=
 PS.wk (t_8 (C_0 PySem.F.plainAttrs_list PySem.F.slot_list_append PySem.F.type_list_append T_0 (j_9 hN hv hd hcd) ha hbase hfew hline hst hpl) hs) λ Dn σ H hh0_=>by
  obtain⟨c,H0,ρ,r,R,f,q⟩:=hh0_;unfold aS0 at f;obtain⟨ds0,h0,f⟩:=a_0 f;obtain⟨⟨d,ρ1⟩,h1,f⟩:=a_0 f;obtain⟨ds,h2,f⟩:=a_0 f;dsimp only at h2 f;obtain⟨hl,f'⟩:=ifs f;cases f';obtain⟨a,x1,_,_,vs0,y1,_⟩:=R.ow i _ _ (i_2 h0);refine⟨.ref a,x1,.inl ⟨rfl,vs0,SqL.of y1⟩,c,H0,ρ,[d],ρ1,R,by unfold aC aN;rw[h1];rfl,λ vs H1 Hh s1 R1 r1=>?_⟩
  obtain⟨v,rfl,rv⟩:=Reps.v1 r1;obtain⟨a',x2,_,_,ws,y2,z2⟩:=R1.ow i _ _ (i_2 h2);rw[x1] at x2;cases x2;refine⟨a,ws,v,rfl,rfl,y2,?_,?_⟩
  ·rw[<- z2.length]
   exact qo hl (by rw[sizeLine_eq];decide)
  ·exact q σ H1 _ s1 (R1.mutOwn (o':=.lst (ds++[d])) (u:=.lst (ws++[v])) (i_2 h2) x1 ⟨_,a_2,z2.app (Reps.one rv)⟩)
theorem ba2 (i:Nat) {st:Stmt}{G:FS} (h:XS X st G):XS X st (aL4 i G):=PS.wk h λ Dn σ H hh0_=>by
 obtain⟨c,H0,ρ,r,R,f,q⟩:=hh0_;unfold aL4 frz at f;cases z:ρ[i]? with
 |none=>rw[z] at f;exact⟨c,H0,ρ,r,R,f,q⟩
 |some sl =>
  rw[z] at f;cases sl with
  |no=>exact⟨c,H0,ρ,r,R,f,q⟩
  |im d=>exact⟨c,H0,ρ,r,R,f,q⟩
  |ow b o =>
   cases b with
   |true=>exact⟨c,H0,ρ,r,R,f,q⟩
   |false =>
   cases o with
   |dic kds=>exact⟨c,H0,ρ,r,R,f,q⟩
   |lst ds =>
    obtain⟨H0',s0,R'⟩:=R.freeze z;exact⟨c,H0',_,r,R',f,q.mono s0⟩
end
section
variable {X:Cx}{scope sc:Scope}{x:Str}{frees:List Str}{js:List Nat}{px pos p pos':Pos}{elt a b:Expr}{ifs:List Expr}{F G I:FE}{T:FT}
theorem au1 {R:FA}{ρ ρ':En}{d:D} (h:eLR js R T F ρ=some (d,ρ')):∃ xs fr ys,R ρ=some (xs,ρ')/\A_8 ρ' js=some fr/\cGo T F fr xs=some ys/\xs.length<=sizeLine/\d=.lst ys:=by
 unfold eLR at h;obtain⟨⟨xs,ρ1⟩,h1,h⟩:=a_0 h;obtain⟨fr,h3,h⟩:=a_0 h;obtain⟨ys,h4,h⟩:=a_0 h;dsimp only at h3 h4 h;obtain⟨hz,h⟩:=Fx.ifs h;cases h;exact⟨xs,fr,ys,h1,h3,h4,hz,rfl⟩
theorem bh4 (hm:X.mg "range"=none) (hc:X.calm=true) (hsc:X.env.scope=sc) (B:ScB X.N sc scope x frees js) (ha:XE X a F) (ht:∀ s H C fp,XTs (cxB X (x::frees) scope s H C fp) ifs T) (he:∀ s H C fp,XE (cxB X (x::frees) scope s H C fp) elt I)
  (hgl:Gl X "range":=by rfl) (hst:starEach [a] X.env=[(false,eval a X.env)]:=by rfl)
  (hs:∀ v,foldedSetIterable (.Call (.Name "range" p) [a] [] pos') X.env v=pure v:=by intro _;rfl):XE X (.ListComp elt [⟨.Name x px,.Call (.Name "range" p) [a] [] pos',ifs,0⟩] scope pos) (eLR js (ag6 F) T I) :=
 PE.wk (aD4 (tt:=tTt X.K T) (te:=tE X.K I) hc hsc B (x_4 hgl hm (e_2 ha i_1 hst) hst) ht he hs) λ σ H Q hh0_=>by
  obtain⟨c,H0,ρ,d,ρ',R,f,q⟩:=hh0_;obtain⟨xs,fr,ys,h1,h3,h4,hz,rfl⟩:=au1 f;unfold ag6 at h1;obtain⟨⟨d1,ρ1⟩,g1,h1⟩:=a_0 h1;obtain⟨i,g3,h1⟩:=a_0 h1;dsimp only at g3 h1;obtain⟨hj,h1⟩:=Fx.ifs h1;cases h1;refine⟨c,H0,ρ,d1,_,R,g1,λ v H1 Hh s1 R1 r1=>?_⟩
  cases d1 with
  |int k =>
   have e:k=i:=qh g3;subst e;unfold Rep at r1;subst r1;refine⟨k,rfl,hj.1,hj.2,aq0 R1 h3 h4 hz (r_5 0 k.toNat) λ vs H3 Hh3 s3 R3 r3=>λ p hp=>?_⟩
   have S:=Step.alloc (o:=.lst vs) R3.same hp;refine q _ _ _ (s1.trans (s3.trans S.s0)) (R3.after S) ?_;unfold Rep;exact⟨p,vs,rfl,.inl (.inl a_2),Reps.mono S.s0 _ r3⟩
  |_=>cases g3
end
end Fx
namespace Fx
open PySem
def atS (z:Str) (i:Int):Option D:=if z.length<=sizeLine then bnd (bnd (dPl z.cps.toList.length i) λ j=>z.cps.toList[j]?) λ c=>some (.str (chS c)) else none
def e_0:D->D->Option D
 |.tup xs,.int i=>atD xs i
 |.lst xs,.int i=>atD xs i
 |.str z,.int i=>atS z i
 |_,_=>none
def g_6:List D->Option D
 |[.lst xs]=>some (.int xs.length)
 |[.tup xs]=>some (.int xs.length)
 |[.str z]=>if z.length<=sizeLine then some (.int z.length) else none
 |_=>none
def M_4:D->Bool
 |.opq=>false
 |.dct _ _=>false
 |.tup _=>false
 |.lst _=>false
 |_=>true
def inD (x:D) (xs:List D):Bool:=xs.any λ y=>eqD y x
def G_7 (x:D) (xs:List D):Bool:=M_4 x&&xs.all M_4
def dIn:D->D->Option D
 |x,.tup xs=>if G_7 x xs=true then some (.bl (inD x xs)) else none
 |x,.lst xs=>if G_7 x xs=true then some (.bl (inD x xs)) else none
 |_,_=>none
def bg6:List D->Option D
 |[.int i]=>some (.int i)
 |[.bl b]=>some (.int (if b then 1 else 0))
 |_=>none
def J_9:List D->Option D
 |[.lst xs]=>some (.tup xs)
 |[.tup xs]=>some (.tup xs)
 |_=>none
def av1:List D->Option D
 |[.lst xs]=>some (.lst xs)
 |[.tup xs]=>some (.lst xs)
 |_=>none
@[simp] theorem bg0 (xs:List D) (i:Int):e_0 (.lst xs) (.int i)=atD xs i:=Eq.trans rfl rfl
@[simp] theorem aZ0 (xs:List D):g_6 [.lst xs]=some (.int xs.length):=Eq.trans rfl rfl
end Fx
namespace Fx
open PySem PySem.Spec PyProof.Rows L2
section
variable {X:Cx}{K:Frag}
theorem l_8 (H:Hp) (x:Str):Rep K H (.str x) (.str x):=by unfold Rep;rfl
theorem bl7:OpD K (rIx K) e_0:=λ c H0 H ρ σ x y d vx vy Q R r1 r2 e q=>by
 cases y with
 |int i =>
  unfold Rep at r2;subst r2;cases x with
  |tup ds =>
   unfold Rep at r1;obtain⟨p,vs,rfl,s,t⟩:=r1;obtain⟨v,e1,e2⟩:=aK3 t e;exact .inr (.inl ⟨p,vs,i,v,rfl,rfl,Same.seqT R.same s,e1,q v H0 H (Same.refl _) R e2⟩)
  |lst ds =>
   unfold Rep at r1;obtain⟨p,vs,rfl,s,t⟩:=r1;obtain⟨v,e1,e2⟩:=aK3 t e;exact .inl ⟨p,vs,i,v,rfl,rfl,Same.seq R.same s,e1,q v H0 H (Same.refl _) R e2⟩
  |str z =>
   unfold Rep at r1;subst r1;have e:atS z i=some d:=e;unfold atS at e
   by_cases hz:z.length<=sizeLine
   ·rw[if_pos hz] at e
    obtain⟨ch,e1,e2⟩:=a_0 e;have e2:some (D.str (chS ch))=some d:=e2;cases e2;exact .inr (.inr ⟨z,i,ch,rfl,rfl,hz,e1,q _ H0 H (Same.refl _) R (l_8 H0 (chS ch))⟩)
   ·rw[if_neg hz] at e;cases e
  |_=>cases e
 |_=>cases x <;> cases e
variable {a b:Expr}{F G:FE}{pos:Pos}
theorem e_4 (ha:XE X a F) (hb:XE X b G) (hs:X_5 b:=by intro _ _;rfl):XE X (.Subscript a b pos) (e2 e_0 F G):=PE.wk (aT1 aG4 ha hb hs) λ σ H Q h=>F_2 bl7 h
theorem c_0:BOk X (.builtin "len") g_6:=⟨_,call_len_seq.or z_5,λ c H0 H ρ σ ds d vs Q R r e q=>by
 unfold g_6 at e
 split at e
 ·cases e
  obtain⟨v,rfl,rv⟩:=Reps.v1 r;unfold Rep at rv;obtain⟨p,ws,rfl,s,t⟩:=rv;exact .inl ⟨p,ws,rfl,.inl (Same.seq R.same s),by rw[<- t.length];exact q _ H0 H (Same.refl _) R (d_2 _ _)⟩
 ·cases e
  obtain⟨v,rfl,rv⟩:=Reps.v1 r;unfold Rep at rv;obtain⟨p,ws,rfl,s,t⟩:=rv;exact .inl ⟨p,ws,rfl,.inr (Same.seqT R.same s),by rw[<- t.length];exact q _ H0 H (Same.refl _) R (d_2 _ _)⟩
 ·rename_i z
  obtain⟨hz,rfl⟩:=ifs e;obtain⟨v,rfl,rv⟩:=Reps.v1 r;unfold Rep at rv;subst rv;exact .inr ⟨z,rfl,hz,q _ H0 H (Same.refl _) R (d_2 _ _)⟩
 ·cases e⟩
theorem xTy {T:String}{g:List D → Option D}{A:FA}{x:Str}{p:Pos}{e:Expr}{es:List Expr} (o:BOk X (.type T) g) (hg:Gl X x) (hm:X.mg x=none) (hv:bootBuiltins x=some (.type T)) (ha:XA X (e::es) A) (hn:x≠"__name__":=by decide) (hdb:(x==("__debug__":Str))=false:=by decide)
  (he:starEach (e::es) X.env=(false,eval e X.env)::starEach es X.env:=by rfl) (hpl:(backTo pos (starEach es X.env)).any (·.1)=false:=by rfl):XE X (.Call (.Name x p) (e::es) [] pos) (eF g A):=by
 obtain⟨r,h1,h2⟩:=o;exact PE.wk (x_5 h1 hg hm hv ha hn hdb he hpl) λ σ H Q h=>aI6 h2 h
theorem au8:BOk X (.type "int") bg6:=⟨_,W_5,λ c H0 H ρ σ ds d vs Q R r e q=>by
 unfold bg6 at e
 split at e
 ·cases e
  obtain⟨v,rfl,rv⟩:=Reps.v1 r;unfold Rep at rv;subst rv;exact .inl ⟨_,rfl,q _ H0 H (Same.refl _) R (d_2 _ _)⟩
 ·cases e
  obtain⟨v,rfl,rv⟩:=Reps.v1 r;unfold Rep at rv;subst rv;exact .inr ⟨_,rfl,q _ H0 H (Same.refl _) R (d_2 _ _)⟩
 ·cases e⟩
theorem ae8:BOk X (.type "list") av1:=⟨_,z_4,λ c H0 H ρ σ ds d vs Q R r e q=>by
 unfold av1 at e
 split at e
 ·cases e
  obtain⟨v,rfl,rv⟩:=Reps.v1 r;unfold Rep at rv;obtain⟨p,ws,rfl,s,t⟩:=rv;refine⟨p,ws,rfl,.inl (Same.seq R.same s),λ l hl=>?_⟩
  have S:=Step.alloc (o:=.lst ws) R.same hl;refine q _ _ _ S.s0 (R.after S) ?_;unfold Rep;exact⟨l,_,rfl,.inl (.inl a_2),Reps.mono S.s0 _ t⟩
 ·cases e
  obtain⟨v,rfl,rv⟩:=Reps.v1 r;unfold Rep at rv;obtain⟨p,ws,rfl,s,t⟩:=rv;refine⟨p,ws,rfl,.inr (Same.seqT R.same s),λ l hl=>?_⟩
  have S:=Step.alloc (o:=.lst ws) R.same hl;refine q _ _ _ S.s0 (R.after S) ?_;unfold Rep;exact⟨l,_,rfl,.inl (.inl a_2),Reps.mono S.s0 _ t⟩
 ·cases e⟩
theorem z_6:BOk X (.type "tuple") J_9:=⟨_,v_7,λ c H0 H ρ σ ds d vs Q R r e q=>by
 unfold J_9 at e
 split at e
 ·cases e
  obtain⟨v,rfl,rv⟩:=Reps.v1 r;unfold Rep at rv;obtain⟨p,ws,rfl,s,t⟩:=rv;refine⟨p,ws,rfl,.inl ⟨Same.seq R.same s,λ l hl=>?_⟩⟩
  have S:=Step.alloc (o:=.tup ws) R.same hl;refine q _ _ _ S.s0 (R.after S) ?_;unfold Rep;exact⟨l,_,rfl,.inl (.inl a_2),Reps.mono S.s0 _ t⟩
 ·cases e
  obtain⟨v,rfl,rv⟩:=Reps.v1 r;have rv':=rv;unfold Rep at rv;obtain⟨p,ws,rfl,s,t⟩:=rv;exact⟨p,ws,rfl,.inr ⟨Same.seqT R.same s,q _ H0 H (Same.refl _) R rv'⟩⟩
 ·cases e⟩
theorem v_3 {H:Hp}{d:D}{v:V} (h:M_4 d=true) (r:Rep K H d v):r_0 v=true/\∀ d' v',M_4 d'=true->Rep K H d' v'->eqV v v'=eqD d d':=by
 cases d with
 |tup xs=>cases h
 |lst xs=>cases h
 |opq=>cases h
 |dct ks vs=>cases h
 |_ =>
  unfold Rep at r;subst r;refine⟨rfl,λ d' v' h' r'=>?_⟩
  cases d' with
  |tup xs=>cases h'
  |lst xs=>cases h'
  |opq=>cases h'
  |dct ks vs=>cases h'
  |_ =>
   unfold Rep at r';subst r'
   first
    |(simp[eqV];done)
    |(simp[eqV,eqD];done)
    |(simp[eqV,eqD,Bool.beq_eq_decide_eq];done)
    |(unfold eqV;simp)
theorem T_7 {H:Hp}{x:D}{v:V} (hx:M_4 x=true) (r:Rep K H x v):∀ {ds:List D}{vs:List V},ds.all M_4=true->Reps K H ds vs->vs.all r_0=true/\inV v vs=inD x ds
 |[],vs,_,t=>by
  unfold Reps at t;subst t;exact⟨rfl,rfl⟩
 |d::ds,vs,h,t=>by
  unfold Reps at t;obtain⟨u,us,rfl,t1,t2⟩:=t;rw[List.all_cons,Bool.and_eq_true] at h;obtain⟨i1,i2⟩:=T_7 hx r h.2 t2;obtain⟨f1,f2⟩:=v_3 h.1 t1;refine⟨by rw[List.all_cons,f1,i1];rfl,?_⟩
  unfold inV inD at *;rw[List.any_cons,List.any_cons,f2 x v hx r,i2]
theorem aG7 {neg:Bool}{f:D->D->Option D} (hf:∀ x y d,f x y=some d->∃ xs,(y=.tup xs\/y=.lst xs)/\G_7 x xs=true/\d=.bl (if neg then !inD x xs else inD x xs)):OpD K (rIn K neg) f:=λ c H0 H ρ σ x y d vx vy Q R r1 r2 e q=>by
 obtain⟨xs,hy,ok,rfl⟩:=hf x y d e;unfold G_7 at ok;rw[Bool.and_eq_true] at ok
 rcases hy with rfl | rfl
 ·unfold Rep at r2
  obtain⟨p,ws,rfl,s,t⟩:=r2;obtain⟨i1,i2⟩:=T_7 ok.1 r1 ok.2 t;exact⟨p,ws,rfl,.inr (Same.seqT R.same s),(v_3 ok.1 r1).1,i1,by rw[i2];exact q _ H0 H (Same.refl _) R (j_8 _ _)⟩
 ·unfold Rep at r2
  obtain⟨p,ws,rfl,s,t⟩:=r2;obtain⟨i1,i2⟩:=T_7 ok.1 r1 ok.2 t;exact⟨p,ws,rfl,.inl (Same.seq R.same s),(v_3 ok.1 r1).1,i1,by rw[i2];exact q _ H0 H (Same.refl _) R (j_8 _ _)⟩
end
end Fx
namespace Fx
open PySem
def n_9 (k:Str):List (Str×D)->Option D
 |[]=>none
 |q::r=>if q.1=k then some q.2 else n_9 k r
def al9 (k:Str) (d:D):List (Str×D)->List (Str×D)
 |[]=>[]
 |q::r=>(if q.1=k then (q.1,d) else q)::al9 k d r
def owD:Option Sl->Option (Bool×List (Str×D))
 |some (.ow b (.dic kds))=>some (b,kds)
 |_=>none
def bl0:Sl->Bool
 |.ow _ _=>false
 |_=>true
def aw3 (A:FS) (F:En->Option MO) (ρ:En):Option MO:=bnd (A ρ) λ r=>match r with
 |.nx ρ'=>F ρ'
 |_=>none
def fnN (n k:Nat) (F:En->Option MO) (ds:List D):Option MO:=if ds.length=n then F (ds.map .im++List.replicate k .no) else none
@[simp] theorem bk5 (b:Bool) (o:List (Str×D)):owD (some (.ow b (.dic o)))=some (b,o):=Eq.trans rfl rfl
end Fx
namespace Fx
open PySem PySem.Spec PyProof.Rows L2
def l_7 (ks:List Str) (vs:List V):List (Key×V):=(ks.map Sum.inr).zip vs
theorem k_6 (k:Str) (ks:List Str) (v:V) (vs:List V):l_7 (k::ks) (v::vs)=(Sum.inr k,v)::l_7 ks vs:=rfl
section
variable {K:Frag}{H:Hp}
theorem E_9 {k:Str}{d:D}:∀ {kds:List (Str×D)}{vs:List V},Reps K H (kds.map (·.2)) vs->n_9 k kds=some d->∃ v,w_3 (l_7 (kds.map (·.1)) vs) (.inr k)=some v/\Rep K H d v
 |[],_,_,e=>by cases e
 |q::r,vs,t,e=>by
  rw[List.map_cons] at t;unfold Reps at t;obtain⟨v,vr,rfl,t1,t2⟩:=t;rw[List.map_cons,k_6];unfold n_9 at e
  by_cases hk:q.1=k
  ·rw[if_pos hk] at e
   cases e;exact⟨v,n_6 (by rw[hk]),t1⟩
  ·rw[if_neg hk] at e
   obtain⟨u,e1,e2⟩:=E_9 t2 e;exact⟨u,by rw[i_7 λ z=>hk (Sum.inr.inj z)];exact e1,e2⟩
theorem ah9 {k:Str}{d:D}{v:V} (rv:Rep K H d v):∀ {kds:List (Str×D)}{vs:List V},Reps K H (kds.map (·.2)) vs->∃ vs',(l_7 (kds.map (·.1)) vs).map (λ kv=>if kv.1=Sum.inr k then (kv.1,v) else kv)=l_7 ((al9 k d kds).map (·.1)) vs'/\Reps K H ((al9 k d kds).map (·.2)) vs'
 |[],vs,t=>⟨[],rfl,Reps.nil_⟩
 |q::r,vs,t=>by
  rw[List.map_cons] at t;unfold Reps at t;obtain⟨u,ur,rfl,t1,t2⟩:=t;obtain⟨vs',e1,e2⟩:=ah9 rv t2;unfold al9;rw[List.map_cons,k_6,List.map_cons,e1]
  by_cases hk:q.1=k
  ·refine⟨v::vs',?_,?_⟩
   ·rw[if_pos (show (Sum.inr q.1:Key)=Sum.inr k by rw[hk]),if_pos hk];rfl
   ·rw[if_pos hk];exact Reps.cons rv e2
  ·refine⟨u::vs',?_,?_⟩
   ·rw[if_neg (show ¬ (Sum.inr q.1:Key)=Sum.inr k from λ z=>hk (Sum.inr.inj z)),if_neg hk];rfl
   ·rw[if_neg hk];exact Reps.cons t1 e2
theorem aC5 {k:Str}{d d0:D}{v:V}{kds:List (Str×D)}{vs:List V} (rv:Rep K H d v) (t:Reps K H (kds.map (·.2)) vs) (h:n_9 k kds=some d0) :
  ∃ vs',x_0 (l_7 (kds.map (·.1)) vs) (.inr k) v=l_7 ((al9 k d kds).map (·.1)) vs'/\Reps K H ((al9 k d kds).map (·.2)) vs':=by
 obtain⟨u,e,_⟩:=E_9 t h;obtain⟨vs',e1,e2⟩:=ah9 (k:=k) rv t;refine⟨vs',?_,e2⟩;unfold x_0;rw[n_7,e,if_pos (show (some u).isSome=true from rfl)];exact e1
end
theorem G_5 {o:Option Sl}{q:Bool×List (Str×D)} (h:owD o=some q):o=some (.ow q.1 (.dic q.2)):=by
 unfold owD at h
 split at h
 ·cases h;rfl
 ·cases h
section
variable {X:Cx}{pos:Pos}{e:Expr}{F:FE}{A:FA}
theorem aV4 {n:Nat} (h:n<100):n<sizeLine:=o_2 (by omega)
theorem Y_3 {K:Frag}{H:Hp}{kds:List (Str×D)}{vs:List V} (t:Reps K H (kds.map (·.2)) vs):(l_7 (kds.map (·.1)) vs).length=kds.length:=by
 have hl:=t.length;rw[List.length_map] at hl;unfold l_7;rw[List.length_zip,List.length_map,List.length_map,<- hl,Nat.min_self]
def spB (K:Frag) (g:MO->List D->Option (D×MO)):Sp:=λ vs H Q _=>∃ Hi a o vr ds d o',vs=.ref a::vr/\Same Hi H/\Hi a=none/\OwOk K Hi H a o/\Reps K Hi ds vr/\g o ds=some (d,o') /\
 ∀ v Hi' H',Same Hi Hi'->Same Hi' H'->(∀ b u,H b=some u->b≠a->H' b=some u)->(∀ b u,Hi' b=some u->Hi b=some u\/H b=none)->OwOk K Hi' H' a o'->Rep K Hi' d v->Q v H'
structure DefB (P:Program) (w:World) (K:Frag) (mg:Str->Option Value) (base:Heap) (k:Nat) (x:Str) (g:MO->List D->Option (D×MO)):Prop where
 ex:∃ f fd ps,FnOk P w K mg base CX0 k f fd ps (spB K g)/\Binds K fd ps []/\keepIn K (.ref f)=true/\mg x=some (.ref f)
end
def aK9 (K:Frag) (Hi H:Hp) (o:MO) (a:Addr) (Hi' H':Hp):Prop :=
 Same Hi Hi'/\Same Hi' H'/\Same H H'/\(∀ b u,Hi' b=some u->Hi b=some u\/H b=none)/\Hi' a=none/\H a=none/\OwOk K Hi' H' a o
def spN (K:Frag) (g:List D->Option MO):Sp:=λ vs H Q _=>∃ Hi ds o,Same Hi H/\Reps K Hi ds vs/\g ds=some o/\∀ a Hi' H',aK9 K Hi H o a Hi' H'->Q (.ref a) H'
structure DefN (P:Program) (w:World) (K:Frag) (mg:Str->Option Value) (base:Heap) (k:Nat) (x:Str) (g:List D->Option MO):Prop where
 ex:∃ f fd ps,FnOk P w K mg base CX0 k f fd ps (spN K g)/\Binds K fd ps []/\keepIn K (.ref f)=true/\mg x=some (.ref f)
section
variable {X:Cx}{pos:Pos}{e:Expr}{F:FE}{A:FA}
def tN (K:Frag) (F:En->Option MO):TS:=λ Dn σ H=>∃ Hi He H0 ρ o,RS K ⟨Hi,He,[]⟩ H0 H ρ σ/\F ρ=some o/\∀ a H0' H',aK9 K Hi He o a H0' H'->Dn.rt (.ref a) H'
def XN (X:Cx) (sts:List Stmt) (F:En->Option MO):Prop:=PSs X sts (tN X.K F)
theorem xnC {st:Stmt}{rest:List Stmt}{B:FS}{N:En->Option MO} (h1:PS X st (λ Dn σ H=>∃ Hi He H0 ρ r,RS X.K ⟨Hi,He,[]⟩ H0 H ρ σ/\B ρ=some r/\Post X.K ⟨Hi,He,[]⟩ Dn H0 r)) (h2:XN X rest N):XN X (st::rest) (aw3 B N) :=
 PSs.wk (j_3 h1 h2) λ Dn σ H hh0_=>by
  obtain⟨Hi,He,H0,ρ,o,R,f,q⟩:=hh0_;unfold aw3 at f;obtain⟨z,h,f⟩:=a_0 f;refine⟨Hi,He,H0,ρ,z,R,h,?_⟩;cases z with
  |nx ρ1=>exact λ σ' H0' H' s R'=>⟨Hi,He,H0',ρ1,o,R',f,q⟩
  |rt d ρ1=>cases f
  |bk ρ1=>cases f
  |ct ρ1=>cases f
theorem xnS {st:Stmt}{B:FS} (h:XS X st B):PS X st (λ Dn σ H=>∃ Hi He H0 ρ r,RS X.K ⟨Hi,He,[]⟩ H0 H ρ σ/\B ρ=some r/\Post X.K ⟨Hi,He,[]⟩ Dn H0 r) :=
 PS.wk h λ Dn σ H ⟨Hi,He,H0,ρ,r,R,f,q⟩=>⟨⟨Hi,He,[]⟩,H0,ρ,r,R,f,q⟩
end
theorem aH3 {P:Program}{w:World}{K:Frag}{mg:Str->Option Value}{base:Heap}{x qual:Str}{st:Stmt}{f:Addr}{fd:FuncData}{N ps:List Str}{k n m:Nat}{B:En->Option MO} (F:Fun K x qual st f fd) (S:FnScope N ps (a_1 st)) (hn:ps.length=n) (hN:N.length=n+m)
  (hb:∀ (cdv:Value) (A:Around) (outer:List Env) (s:Shared) (H:Hp) (E:XK),Room k (A.deeper (envOfC qual (a_1 st) s.heap.objs.size f cdv))->XN (w_0 CX0 P w K mg base N qual (a_1 st) f cdv A outer s H E).nox (e_3 st) B) :
  FnOk P w K mg base CX0 (k+1) f fd ps (spN K (fnN n m B)):=by
 refine F.ok S (λ vs H Q E h=>?_) (λ cdv A outer s H vs Q E hr h=>?_)
 ·obtain⟨Hi,ds,o,_,r,e,_⟩:=h
  unfold fnN at e
  split at e
  ·rename_i hl;rw[hn,<- r.length];exact hl
  ·cases e
 ·obtain⟨Hi,ds,o,hs,r,e,q⟩:=h
  unfold fnN at e
  split at e
  ·rename_i hl
   exact⟨_,hb cdv A outer s H E hr,Hi,H,Hi,_,o,RS.start (n:=N.length) (m:=m) hs r (by rw[<- r.length];omega),e,q⟩
  ·cases e
end Fx
namespace Fx
open PySem
def aO1:D->Option Int->Option Int->Option D
 |.lst xs,lo,hi=>some (.lst (ax7 xs lo hi))
 |.tup xs,lo,hi=>if X_7 xs.length 0 lo=0/\X_7 xs.length xs.length hi=xs.length then none else some (.tup (ax7 xs lo hi))
 |.str z,lo,hi=>if z.length<=sizeLine then some (.str (Txt.slice z lo hi)) else none
 |_,_,_=>none
def l_2 (F:FE) (lo hi:FO) (ρ:En):Option (D×En):=bnd (F ρ) λ p=>bnd (lo p.2) λ l=>bnd (hi l.2) λ h=>bnd (aO1 p.1 l.1 h.1) λ d=>some (d,h.2)
def inS (x z:Str):Bool:=!(Builtin.Str.occurrences z x 0 z.length 1).isEmpty
def z_1:D->D->Option D
 |x,.tup xs=>if G_7 x xs=true then some (.bl (inD x xs)) else none
 |x,.lst xs=>if G_7 x xs=true then some (.bl (inD x xs)) else none
 |.str x,.str z=>some (.bl (inS x z))
 |_,_=>none
def W_0:D->D->Option D
 |x,.tup xs=>if G_7 x xs=true then some (.bl (!inD x xs)) else none
 |x,.lst xs=>if G_7 x xs=true then some (.bl (!inD x xs)) else none
 |.str x,.str z=>some (.bl (!inS x z))
 |_,_=>none
def aX0 (x:D) (l:Option Int) (o:Option (Option Int×En)):Option (D×En):=bnd o λ h=>bnd (aO1 x l h.1) λ d=>some (d,h.2)
def aI4 (hi:FO) (x:D) (o:Option (Option Int×En)):Option (D×En):=bnd o λ l=>bnd (hi l.2) λ h=>bnd (aO1 x l.1 h.1) λ d=>some (d,h.2)
def aI5 (lo hi:FO) (o:Option (D×En)):Option (D×En):=bnd o λ p=>bnd (lo p.2) λ l=>bnd (hi l.2) λ h=>bnd (aO1 p.1 l.1 h.1) λ d=>some (d,h.2)
@[simp] theorem bm7 (F:FE) (lo hi:FO) (ρ:En):l_2 F lo hi ρ=aI5 lo hi (F ρ):=Eq.trans rfl rfl
@[simp] theorem aX2 (lo hi:FO) (x:D) (ρ:En):aI5 lo hi (some (x,ρ))=aI4 hi x (lo ρ):=Eq.trans rfl rfl
@[simp] theorem aX1 (hi:FO) (x:D) (l:Option Int) (ρ:En):aI4 hi x (some (l,ρ))=aX0 x l (hi ρ):=Eq.trans rfl rfl
@[simp] theorem aJ4 (x:D) (xs:List D):z_1 x (.tup xs)=if G_7 x xs=true then some (.bl (inD x xs)) else none:=by cases x <;> rfl
@[simp] theorem aJ5 (x:D) (xs:List D):z_1 x (.lst xs)=if G_7 x xs=true then some (.bl (inD x xs)) else none:=by cases x <;> rfl
@[simp] theorem aJ2 (x:D) (xs:List D):W_0 x (.tup xs)=if G_7 x xs=true then some (.bl (!inD x xs)) else none:=by cases x <;> rfl
@[simp] theorem aJ3 (x:D) (xs:List D):W_0 x (.lst xs)=if G_7 x xs=true then some (.bl (!inD x xs)) else none:=by cases x <;> rfl
end Fx
namespace Fx
open PySem PySem.Spec PyProof.Rows L2
section
variable {X:Cx}{K:Frag}{pos:Pos}{e:Expr}{F:FE}
def bk0:V->Option Int->Option Int->Hp->VK->Prop:=λ x lo hi H Q=>∃ z,x=.str z/\z.length<=sizeLine/\Q (.str (Txt.slice z lo hi)) H
theorem aD7 {v:Value}{o:Option Int} (p:IsPart v o):∃ l:Option (Int×Tok),v=partValue l/\l.map (·.1)=o:=by
 cases p with
 |none=>exact⟨none,rfl,rfl⟩
 |int i t=>exact⟨some (i,t),rfl,rfl⟩
theorem aA0:SlR X bk0:=by
 intro pins s σ H x v vl vu lo hi sl Q I rx hs pl pu h;obtain⟨z,rfl,hz,q⟩:=h;obtain⟨t,rfl⟩:=rx;obtain⟨l,rfl,rfl⟩:=aD7 pl;obtain⟨u,rfl,rfl⟩:=aD7 pu;refine⟨"str",_,slot_str_getitem.lookup,typeIs_str _ _ _,wpAny_getItem_str_slice (l:=l) (u:=u) (st:=none) hs rfl ?_⟩;exact post_val_or_str ⟨Nat.le_trans (Txt.slice_le z _ _) hz,λ t' k=>⟨.str (Txt.slice z (l.map (·.1)) (u.map (·.1))),H,I.tok _,⟨_,rfl⟩,q⟩⟩
theorem O_3 {lo hi:Option Expr}{A B:FO}{p2:Pos} (he:XE X e F) (hl:XO X lo A) (hh:XO X hi B):XE X (.Subscript e (.Slice lo hi none p2) pos) (l_2 F A B):=PE.wk (aa9 ((sl_list.or az9).or aA0) he hl hh) λ σ H Q hh0_=>by
 obtain⟨c,H0,ρ,d,ρ',R,f,q⟩:=hh0_;unfold l_2 at f;obtain⟨⟨x,ρ1⟩,h1,f⟩:=a_0 f;obtain⟨⟨l,ρ2⟩,h2,f⟩:=a_0 f;obtain⟨⟨u,ρ3⟩,h3,f⟩:=a_0 f;obtain⟨d',h4,f⟩:=a_0 f;dsimp only at h2 h3 h4 f;have f':some (d',ρ3)=some (d,ρ'):=f;cases f';refine⟨c,H0,ρ,x,ρ1,R,h1,λ v H1 Hh s1 R1 r1=>?_⟩
 refine⟨c,H1,ρ1,l,ρ2,R1,h2,λ H2 Hh2 s2 R2=>?_⟩
 refine⟨c,H2,ρ2,u,_,R2,h3,λ H3 Hh3 s3 R3=>?_⟩
 have r3:=Rep.mono s3 x (Rep.mono s2 x r1);cases x with
 |lst ds =>
  have e:D.lst (ax7 ds l u)=d:=qh h4;subst e;unfold Rep at r3;obtain⟨p,vs,rfl,s,t⟩:=r3;refine .inl (.inl ⟨p,vs,rfl,Same.seq R3.same s,λ p' hp=>?_⟩)
  have S:=Step.alloc (o:=.lst (X_8 vs l u)) R3.same hp;refine q _ _ _ (s1.trans (s2.trans (s3.trans S.s0))) (R3.after S) ?_;unfold Rep;exact⟨p',_,rfl,.inl (.inl a_2),Reps.mono S.s0 _ (aj4 t l u)⟩
 |tup ds =>
  have h5:(if X_7 ds.length 0 l=0/\X_7 ds.length ds.length u=ds.length then none else some (D.tup (ax7 ds l u)))=some d:=h4
  by_cases hn:X_7 ds.length 0 l=0/\X_7 ds.length ds.length u=ds.length
  ·rw[if_pos hn] at h5;cases h5
  ·rw[if_neg hn] at h5
   cases h5;unfold Rep at r3;obtain⟨p,vs,rfl,s,t⟩:=r3;refine .inl (.inr ⟨p,vs,rfl,Same.seqT R3.same s,?_,λ p' hp=>?_⟩)
   ·rw[<- v_5,<- v_5,<- t.length];exact hn
   have S:=Step.alloc (o:=.tup (X_8 vs l u)) R3.same hp;refine q _ _ _ (s1.trans (s2.trans (s3.trans S.s0))) (R3.after S) ?_;unfold Rep;exact⟨p',_,rfl,.inl (.inl a_2),Reps.mono S.s0 _ (aj4 t l u)⟩
 |str z =>
  obtain⟨hz,rfl⟩:=ifs (c:=z.length<=sizeLine) h4;unfold Rep at r3;exact .inr ⟨z,r3,hz,q _ H3 Hh3 (s1.trans (s2.trans s3)) R3 (l_8 H3 _)⟩
 |_=>cases h4
theorem OpR.or {f:Value->Value->Sem Value}{r r':R2} (h:OpR X f r) (h':OpR X f r'):OpR X f (λ x y H Q=>r x y H Q\/r' x y H Q):=by
 intro pins s σ H x y v u Q I rx ry q
 rcases q with q | q
 ·exact h pins s σ H x y v u Q I rx ry q
 ·exact h' pins s σ H x y v u Q I rx ry q
theorem aG6:OpD K (rIn K false) dIn:=aG7 λ x y d e=>by
 cases y with
 |tup xs=>obtain⟨h,rfl⟩:=ifs (c:=G_7 x xs=true) e;exact⟨xs,.inl rfl,h,rfl⟩
 |lst xs=>obtain⟨h,rfl⟩:=ifs (c:=G_7 x xs=true) e;exact⟨xs,.inr rfl,h,rfl⟩
 |_=>cases e
theorem J_7:h_7 X .In z_1:=⟨_,OpR.or R_6 R_5,λ c H0 H ρ σ x y d vx vy Q R r1 r2 e q=>by
 cases y with
 |tup xs=>rw[aJ4] at e;exact .inl (aG6 c H0 H ρ σ x (.tup xs) d vx vy Q R r1 r2 e q)
 |lst xs=>rw[aJ5] at e;exact .inl (aG6 c H0 H ρ σ x (.lst xs) d vx vy Q R r1 r2 e q)
 |str b =>
  cases x with
  |str a =>
   have e':some (D.bl (inS a b))=some d:=e;cases e';unfold Rep at r1 r2;subst r1 r2;exact .inr ⟨a,b,rfl,rfl,q _ H0 H (Same.refl _) R (j_8 _ _)⟩
  |_=>cases e
 |_=>cases x <;> cases e⟩
end
end Fx
namespace Fx
open PySem
end Fx
namespace Fx
open PySem PySem.Spec PyProof.Rows L2
section
variable {X:Cx}{pos:Pos}
theorem ay5 {x:Str}{i:Int} (h:∃ t,X.mg x=some (.int i t)) (hg:Gl X x:=by rfl) (hd:(x==("__debug__":Str))=false:=by decide):XE X (.Name x pos) (eC (.int i)):=by
 obtain⟨t,h⟩:=h
 exact PE.wk (B_9 hg h (v:=.int i) ⟨t,rfl⟩ hd) λ σ H Q hh0_=>by
  obtain⟨c,H0,ρ,d,ρ',R,f,q⟩:=hh0_;obtain⟨rfl,rfl⟩:=p_6 f;exact q _ H0 H (Same.refl _) R (d_2 _ _)
theorem ba1 {x z:Str} (h:∃ t,X.mg x=some (.str z t)) (hg:Gl X x:=by rfl) (hd:(x==("__debug__":Str))=false:=by decide):XE X (.Name x pos) (eC (.str z)):=by
 obtain⟨t,h⟩:=h
 exact PE.wk (B_9 hg h (v:=.str z) ⟨t,rfl⟩ hd) λ σ H Q hh0_=>by
  obtain⟨c,H0,ρ,d,ρ',R,f,q⟩:=hh0_;obtain⟨rfl,rfl⟩:=p_6 f;exact q _ H0 H (Same.refl _) R (l_8 _ _)
end
end Fx
namespace Fx
open PySem
mutual
def beD:D->D->Bool
 |.non,.non=>true
 |.bl a,.bl b=>a==b
 |.int a,.int b=>a==b
 |.str a,.str b=>decide (a=b)
 |.tup a,.tup b=>X_9 a b
 |.lst a,.lst b=>X_9 a b
 |.opq,.opq=>true
 |.dct k a,.dct l b=>decide (k=l)&&X_9 a b
 |_,_=>false
def X_9:List D->List D->Bool
 |[],[]=>true
 |a::r,b::t=>beD a b&&X_9 r t
 |_,_=>false
end
mutual
theorem J_8:∀ a b:D,beD a b=true->a=b
 |.non,b,h=>by cases b <;> first | rfl | cases h
 |.bl a,b,h=>by cases b <;> first | cases h;done | (rw[beD] at h;rw[beq_iff_eq.mp h])
 |.int a,b,h=>by cases b <;> first | cases h;done | (rw[beD] at h;rw[beq_iff_eq.mp h])
 |.str a,b,h=>by cases b <;> first | cases h;done | (rw[beD] at h;rw[of_decide_eq_true h])
 |.tup a,b,h=>by cases b <;> first | cases h;done | (rw[beD] at h;rw[m_4 _ _ h])
 |.lst a,b,h=>by cases b <;> first | cases h;done | (rw[beD] at h;rw[m_4 _ _ h])
 |.opq,b,h=>by cases b <;> first | rfl | cases h
 |.dct k a,b,h=>by
  cases b <;> first | cases h;done | skip
  rw[beD,Bool.and_eq_true] at h;rw[of_decide_eq_true h.1,m_4 _ _ h.2]
theorem m_4:∀ a b:List D,X_9 a b=true->a=b
 |[],b,h=>by cases b <;> first | rfl | cases h
 |x::r,b,h=>by
  cases b with
  |nil=>cases h
  |cons y t =>
   rw[X_9,Bool.and_eq_true] at h;rw[J_8 _ _ h.1,m_4 _ _ h.2]
end
mutual
theorem X_1:∀ a:D,beD a a=true
 |.non=>rfl
 |.bl a=>by rw[beD];exact beq_self_eq_true a
 |.int a=>by rw[beD];exact beq_self_eq_true a
 |.str a=>by rw[beD];exact decide_eq_true rfl
 |.tup a=>by rw[beD];exact q_1 a
 |.lst a=>by rw[beD];exact q_1 a
 |.opq=>rfl
 |.dct k a=>by rw[beD,q_1 a,Bool.and_true];exact decide_eq_true rfl
theorem q_1:∀ a:List D,X_9 a a=true
 |[]=>rfl
 |x::r=>by rw[X_9,X_1 x,q_1 r];rfl
end
def beK:List (Str×D)->List (Str×D)->Bool
 |[],[]=>true
 |(k,a)::r,(l,b)::t=>decide (k=l)&&(beD a b&&beK r t)
 |_,_=>false
theorem aj6:∀ a b:List (Str×D),beK a b=true->a=b
 |[],[],_=>rfl
 |[],_::_,h=>nomatch h
 |_::_,[],h=>nomatch h
 |(k,a)::r,(l,b)::t,h=>by
  rw[beK,Bool.and_eq_true,Bool.and_eq_true] at h;rw[of_decide_eq_true h.1,J_8 _ _ h.2.1,aj6 _ _ h.2.2]
theorem aj5:∀ a:List (Str×D),beK a a=true
 |[]=>rfl
 |(k,a)::r=>by rw[beK,X_1,aj5 r,decide_eq_true rfl];rfl
def beS:Sl->Sl->Bool
 |.no,.no=>true
 |.im a,.im b=>beD a b
 |.ow c (.lst a),.ow d (.lst b)=>c==d&&X_9 a b
 |.ow c (.dic a),.ow d (.dic b)=>c==d&&beK a b
 |_,_=>false
theorem aK1:∀ a b:Sl,beS a b=true->a=b
 |.no,.no,_=>rfl
 |.im a,.im b,h=>by rw[beS] at h;rw[J_8 _ _ h]
 |.ow c (.lst a),.ow d (.lst b),h=>by rw[beS,Bool.and_eq_true] at h;rw[beq_iff_eq.mp h.1,m_4 _ _ h.2]
 |.ow c (.dic a),.ow d (.dic b),h=>by rw[beS,Bool.and_eq_true] at h;rw[beq_iff_eq.mp h.1,aj6 _ _ h.2]
 |.no,.im _,h=>nomatch h
 |.no,.ow _ _,h=>nomatch h
 |.im _,.no,h=>nomatch h
 |.im _,.ow _ _,h=>nomatch h
 |.ow _ (.lst _),.no,h=>by cases h
 |.ow _ (.dic _),.no,h=>by cases h
 |.ow _ (.lst _),.im _,h=>by cases h
 |.ow _ (.dic _),.im _,h=>by cases h
 |.ow _ (.lst _),.ow _ (.dic _),h=>by cases h
 |.ow _ (.dic _),.ow _ (.lst _),h=>by cases h
theorem aK0:∀ a:Sl,beS a a=true
 |.no=>rfl
 |.im a=>X_1 a
 |.ow c (.lst a)=>by rw[beS,q_1,beq_self_eq_true];rfl
 |.ow c (.dic a)=>by rw[beS,aj5,beq_self_eq_true];rfl
def beE:En->En->Bool
 |[],[]=>true
 |a::r,b::t=>beS a b&&beE r t
 |_,_=>false
theorem aj8:∀ a b:En,beE a b=true->a=b
 |[],[],_=>rfl
 |[],_::_,h=>nomatch h
 |_::_,[],h=>nomatch h
 |a::r,b::t,h=>by rw[beE,Bool.and_eq_true] at h;rw[aK1 _ _ h.1,aj8 _ _ h.2]
theorem aj7:∀ a:En,beE a a=true
 |[]=>rfl
 |a::r=>by rw[beE,aK0,aj7 r];rfl
def aY0 (a b:En):Decidable (a=b):=if h:beE a b=true then .isTrue (aj8 a b h) else .isFalse λ e=>h (e▸aj7 a)
def ak9:List D->Option (List Str)
 |[]=>some []
 |.str x::r=>bnd (ak9 r) λ t=>some (x::t)
 |_=>none
theorem w_4 (x:Str) (r:List D):ak9 (.str x::r)=bnd (ak9 r) λ t=>some (x::t):=rfl
def aN1:D->Option (List D)
 |.lst xs=>some xs
 |_=>none
def ba8:D->Option Str
 |.str x=>some x
 |_=>none
def q_8 (sep:Str) (xs:List D):Option D:=bnd (ak9 xs) λ ss=>if (ss.map (·.length)).sum+ss.length*sep.length<=1000000 then some (.str (Str.join sep ss)) else none
def g_4 (sep:Str) (F:FE) (ρ:En):Option (D×En):=bnd (F ρ) λ p=>bnd (aN1 p.1) λ xs=>bnd (q_8 sep xs) λ d=>some (d,p.2)
@[simp] theorem bc9 (xs:List D):aN1 (.lst xs)=some xs:=Eq.trans rfl rfl
def V_1 (sep:Str) (ρ:En) (o:Option (List D)):Option (D×En):=bnd o λ xs=>bnd (q_8 sep xs) λ d=>some (d,ρ)
def aj3 (sep:Str) (o:Option (D×En)):Option (D×En):=bnd o λ p=>V_1 sep p.2 (aN1 p.1)
@[simp] theorem bf4 (sep:Str) (F:FE) (ρ:En):g_4 sep F ρ=aj3 sep (F ρ):=Eq.trans rfl rfl
@[simp] theorem aN6 (sep:Str) (x:D) (ρ:En):aj3 sep (some (x,ρ))=V_1 sep ρ (aN1 x):=Eq.trans rfl rfl
@[simp] theorem aN5 (sep:Str) (ρ:En) (xs:List D):V_1 sep ρ (some xs)=mkP (q_8 sep xs) ρ:=Eq.trans rfl rfl
def aO4 (acc:List Str) (x:Str):List Str:=if x∈acc then acc else acc++[x]
def h_8 (acc:List Str) (xs:List Str):List Str:=xs.foldl aO4 acc
def kS:D->Option Str
 |.str k=>some k
 |_=>none
@[simp] theorem bp2 (k:Str):kS (.str k)=some k:=Eq.trans rfl rfl
def X_6 (k:Str) (d:D) (kds:List (Str×D)):List (Str×D):=if (n_9 k kds).isSome=true then al9 k d kds else kds++[(k,d)]
def sDN (i:Nat) (ρ:En):Option Res:=some (.nx (ρ.set i (.ow false (.dic []))))
@[simp] theorem bo7 (i:Nat) (ρ:En):sDN i ρ=some (.nx (ρ.set i (.ow false (.dic [])))):=Eq.trans rfl rfl
def aL8 (i:Nat) (d:D) (ρ:En) (k:Str) (o:Option (Bool×List (Str×D))):Option Res:=bnd o λ q=>if q.2.length<100 then some (.nx (ρ.set i (.ow q.1 (.dic (X_6 k d q.2))))) else none
def aL9 (i:Nat) (d:D) (ρ:En) (o:Option Str):Option Res:=bnd o λ k=>aL8 i d ρ k (owD ρ[i]?)
def aM0 (i:Nat) (d:D) (o:Option (D×En)):Option Res:=bnd o λ p=>aL9 i d p.2 (kS p.1)
def aM1 (i:Nat) (G:FE) (d:D) (ρ:En) (o:Option (Bool×List (Str×D))):Option Res:=bnd o λ _=>aM0 i d (G ρ)
def aM2 (i:Nat) (G:FE) (o:Option (D×En)):Option Res:=bnd o λ p=>aM1 i G p.1 p.2 (owD p.2[i]?)
def sDK (i:Nat) (G F:FE) (ρ:En):Option Res:=aM2 i G (F ρ)
@[simp] theorem bo8 (i:Nat) (G F:FE) (ρ:En):sDK i G F ρ=aM2 i G (F ρ):=Eq.trans rfl rfl
@[simp] theorem bb7 (i:Nat) (G:FE) (d:D) (ρ:En):aM2 i G (some (d,ρ))=aM1 i G d ρ (owD ρ[i]?):=Eq.trans rfl rfl
@[simp] theorem bb6 (i:Nat) (G:FE) (d:D) (ρ:En) (q:Bool×List (Str×D)):aM1 i G d ρ (some q)=aM0 i d (G ρ):=Eq.trans rfl rfl
@[simp] theorem bb5 (i:Nat) (d x:D) (ρ:En):aM0 i d (some (x,ρ))=aL9 i d ρ (kS x):=Eq.trans rfl rfl
@[simp] theorem bb4 (i:Nat) (d:D) (ρ:En) (k:Str):aL9 i d ρ (some k)=aL8 i d ρ k (owD ρ[i]?):=Eq.trans rfl rfl
@[simp] theorem bb3 (i:Nat) (d:D) (ρ:En) (k:Str) (b:Bool) (kds:List (Str×D)):aL8 i d ρ k (some (b,kds))=if kds.length<100 then some (.nx (ρ.set i (.ow b (.dic (X_6 k d kds))))) else none:=Eq.trans rfl rfl
mutual
def nd:D->Bool
 |.opq=>false
 |.dct _ _=>false
 |.tup xs=>nds xs
 |.lst xs=>nds xs
 |_=>true
def nds:List D->Bool
 |[]=>true
 |d::r=>nd d&&nds r
end
def ndS:Sl->Bool
 |.ow _ (.lst ds)=>nds ds
 |.ow _ (.dic kds)=>nds (kds.map (·.2))
 |_=>true
def hld (kds:List (Str×D)):Sl:=.im (.dct (kds.map (·.1)) (kds.map (·.2)))
def dDx:D->D->Option D
 |.dct ks ds,.str k=>n_9 k (ks.zip ds)
 |_,_=>none
def r_6 (ρ ρh:En) (o:Option (Bool×En)):Option (Bool×En):=bnd o λ p=>@ite _ (p.2=ρh) (aY0 _ _) (some (p.1,ρ)) none
def F_5 (i:Nat) (T:FT) (ρ:En) (o:Option (Bool×List (Str×D))):Option (Bool×En):=bnd o λ q=>if q.1=false/\ρ.all ndS=true then r_6 ρ (ρ.set i (hld q.2)) (T (ρ.set i (hld q.2))) else none
def tHold (i:Nat) (T:FT) (ρ:En):Option (Bool×En):=F_5 i T ρ (owD ρ[i]?)
@[simp] theorem az3 (i:Nat) (T:FT) (ρ:En):tHold i T ρ=F_5 i T ρ (owD ρ[i]?):=Eq.trans rfl rfl
@[simp] theorem Z_1 (i:Nat) (T:FT) (ρ:En) (b:Bool) (kds:List (Str×D)):F_5 i T ρ (some (b,kds))=if b=false/\ρ.all ndS=true then r_6 ρ (ρ.set i (hld kds)) (T (ρ.set i (hld kds))) else none:=Eq.trans rfl rfl
theorem Z_0 (ρ ρh:En) (b:Bool):r_6 ρ ρh (some (b,ρh))=some (b,ρ):=by
 unfold r_6 bnd;exact if_pos rfl
def sNo:FS:=λ _=>none
end Fx
namespace Fx
open PySem PySem.Spec PyProof.Rows L2
section
variable {K:Frag}{H:Hp}
theorem af9 {k:Str}:∀ {kds:List (Str×D)}{vs:List V},Reps K H (kds.map (·.2)) vs->n_9 k kds=none->w_3 (l_7 (kds.map (·.1)) vs) (.inr k)=none
 |[],_,_,_=>rfl
 |q::r,vs,t,e=>by
  rw[List.map_cons] at t;unfold Reps at t;obtain⟨v,vr,rfl,_,t2⟩:=t;rw[List.map_cons,k_6];unfold n_9 at e
  by_cases hk:q.1=k
  ·rw[if_pos hk] at e;cases e
  ·rw[if_neg hk] at e
   rw[i_7 λ z=>hk (Sum.inr.inj z)]
   exact af9 t2 e
theorem Y_4 {ks:List Str}{vs:List V}{k:Str}{v:V} (h:ks.length=vs.length):l_7 ks vs++[(Sum.inr k,v)]=l_7 (ks++[k]) (vs++[v]):=by
 unfold l_7;rw[List.map_append,List.zip_append (by rw[List.length_map];exact h)]
 rfl
theorem am7 {k:Str}{d:D}{v:V}{kds:List (Str×D)}{vs:List V} (rv:Rep K H d v) (t:Reps K H (kds.map (·.2)) vs) :
  ∃ vs',x_0 (l_7 (kds.map (·.1)) vs) (.inr k) v=l_7 ((X_6 k d kds).map (·.1)) vs'/\Reps K H ((X_6 k d kds).map (·.2)) vs':=by
 unfold X_6;cases q:n_9 k kds with
 |some d0=>rw[if_pos (show (some d0).isSome=true from rfl)];exact aC5 rv t q
 |none =>
  rw[if_neg (by simp)]
  have hl:=t.length;rw[List.length_map] at hl;refine⟨vs++[v],?_,?_⟩
  ·rw[aa2 v (af9 t q),Y_4 (by rw[List.length_map];exact hl),List.map_append]
   rfl
  ·rw[List.map_append]
   exact t.app (Reps.one rv)
end
section
variable {X:Cx}{pos:Pos}{e:Expr}{F G:FE}{A:FA}
theorem xdn (i:Nat) {x:Str}{p p2:Pos} (hN:X.N.Nodup) (hi:X.N[i]?=some x:=by rfl) (hx:Loc X.env.scope x:=by first | exact Or.inl rfl | exact Or.inr rfl) (hs:swapsWith (.Dict [] [] p2) (some (.Name x p)) pos.line X.env=pure false:=by rfl)
  (hf:X.fn x=true\/X.env.scope.names.lookup x=some .local:=by first | exact .inl rfl | exact .inr rfl):XS X (.Assign [.Name x p] (.Dict [] [] p2) pos) (sDN i) :=
 PS.wk (x_2 hN hi hx ab1 hs hf) λ Dn σ H hh0_=>by
  obtain⟨c,H0,ρ,r,R,f,q⟩:=hh0_;have f':some (Res.nx (ρ.set i (.ow false (.dic []))))=some r:=f;cases f';exact λ a ha=>q _ H0 _ (Same.refl _) (R.setOwn (o:=.dic []) (u:=.dK []) i ha ⟨[],[],by rw[a_2];rfl,rfl,Reps.nil_⟩)
theorem xdk (i:Nat) {x:Str}{k:Expr}{p p3:Pos} (hu:X.A.units+1<cLine) (hk:XE X k G) (he:XE X e F) (hN:X.N[i]?=some x:=by rfl) (hv:Vis X.env.scope x:=by first | exact Or.inl rfl | exact Or.inr (Or.inl rfl) | exact Or.inr (Or.inr rfl)) (hd:(x==("__debug__":Str))=false:=by decide)
  (hcd:(x==("__classdict__":Str))=false:=by decide) (hs:swapsWith e (some (.Subscript (.Name x p) k p3)) pos.line X.env=pure false:=by rfl):XS X (.Assign [.Subscript (.Name x p) k p3] e pos) (sDK i G F) :=
 PS.wk (an3 hu (j_9 hN hv hd hcd) hk he hs) λ Dn σ H hh0_=>by
  obtain⟨c,H0,ρ,r,R,f,q⟩:=hh0_;unfold sDK aM2 at f;obtain⟨⟨d,ρ1⟩,h1,f⟩:=a_0 f;unfold aM1 at f;obtain⟨⟨b0,kds0⟩,h2,f⟩:=a_0 f;unfold aM0 at f;obtain⟨⟨x2,ρ2⟩,h3,f⟩:=a_0 f;unfold aL9 at f;obtain⟨k2,h4,f⟩:=a_0 f;unfold aL8 at f;obtain⟨⟨b,kds⟩,h5,f⟩:=a_0 f;obtain⟨h6,rfl⟩:=ifs f
  have hx2:x2=.str k2:=by
   cases x2 with
   |str z=>cases h4;rfl
   |_=>cases h4
  subst hx2;refine⟨c,H0,ρ,d,ρ1,R,h1,λ v H1 Hh s1 R1 r1=>?_⟩
  obtain⟨a,e1,_⟩:=R1.ow i b0 _ (G_5 h2);refine⟨_,e1,c,H1,ρ1,_,ρ2,R1,h3,λ y H2 Hh2 s2 R2 r2=>?_⟩
  unfold Rep at r2;subst r2;have z:=G_5 h5;obtain⟨a2,e2,_,_,ks,vs,e4,rfl,t⟩:=R2.ow i b _ z;rw[e1] at e2;cases e2;obtain⟨vs',w1,w2⟩:=am7 (k:=k2) (Rep.mono s2 d r1) t;refine⟨a,_,rfl,DPut.k (k:=.inr k2) e4 (by have:=Y_3 t;unfold l_7 at this;rw[this];exact aV4 h6),?_⟩
  exact q σ H2 _ (s1.trans s2) (R2.mutOwn z e1 ⟨_,vs',by rw[a_2];exact congrArg (λ y=>some (HO.dK y)) w1,rfl,w2⟩)
end
section
variable {X:Cx}{pins:List (Addr×Obj)}{σ:L2.St}{H:Hp}{s:Shared}{a:Addr}{kvs:List (Key×V)}
theorem aG5 (I:Inv X pins σ H s) (e:H a=some (.dK kvs)):∃ ob,Inv X pins σ (upd H a (.frz ob (.dK kvs))) s:=by
 obtain⟨z,n,vs,rel,o,es,ep,ho,r⟩:=(show ObjOk X.prog X.w H s.heap a (.dK kvs) from I.hok a _ e);exact⟨o,I.write (t':=s.toks) (h':=s.heap) (x:=a) (e:=a) (by rw[e];trivial) (.inl rfl) (λ _ _ _ q=>q) ⟨o,ho⟩ ⟨ho,z,n,vs,rel,o,es,ep,ho,r⟩⟩
def bg9 (X:Cx) (a:Addr):Prop:=(∀ xs,X.H₀ a≠some (.tup xs))/\(∀ o u,X.H₀ a≠some (.frz o u))/\∀ ps,X.H₀ a≠some (.tbl ps)
theorem ac7 (I:Inv X pins σ H s) (e:H a=some (.dK kvs)):bg9 X a:=by
 refine⟨λ xs z=>?_,λ o u z=>?_,λ ps z=>?_⟩
 ·have q:=I.base.tups a xs z
  rw[e] at q;cases q
 ·have q:=I.base.frzs a o u z
  rw[e] at q;cases q
 ·obtain⟨m,q⟩:=I.base.tbls a ps z
  rw[e] at q;cases q
theorem ac6 {ob:Obj} (I:Inv X pins σ H s) (e:H a=some (.frz ob (.dK kvs))) (sf:bg9 X a):Inv X pins σ (upd H a (.dK kvs)) s:=by
 have ne:∀ {b:Addr},H b=none->b≠a:=λ z h=>by rw[h,e] at z;cases z
 have un:=I.base;refine⟨I.ok,I.os,I.bare,⟨un.keep,un.slot,λ b o q n hx=>?_,un.there,λ b xs q=>?_,λ b o u q=>?_,λ b ps q=>?_⟩,I.loc,I.cell,?_,λ x c q=>?_,λ p hp=>?_,λ b u q=>?_,I.len⟩
 ·have z:=un.free b o q n hx
  rw[a_3 (ne z)];exact z
 ·rw[a_3 λ h=>sf.1 xs (by rw[<- h];exact q)];exact un.tups b xs q
 ·rw[a_3 λ h=>sf.2.1 o u (by rw[<- h];exact q)];exact un.frzs b o u q
 ·rw[a_3 λ h=>sf.2.2 ps (by rw[<- h];exact q)];exact un.tbls b ps q
 ·rw[a_3 (ne I.free)];exact I.free
 ·have z:=I.freeC x c q
  rw[a_3 (ne z)];exact z
 ·obtain⟨h1,h2,h3⟩:=I.pin p hp
  exact⟨h1,by rw[a_3 (ne h2)];exact h2,h3⟩
 ·by_cases hb:b=a
  ·subst hb
   rw[a_2] at q;cases q;obtain⟨_,w⟩:=(show ObjOk X.prog X.w H s.heap b (.frz ob (.dK kvs)) from I.hok b _ e);exact w
  ·rw[a_3 hb] at q
   refine (I.hok b u q).stay (λ _ _ _ r=>r) (λ c r=>?_) λ c xs r=>?_
   ·rw[a_3 λ h=>by rw[h,e] at r;cases r];exact r
   ·rw[a_3 λ h=>by rw[h,e] at r;cases r];exact r
end
section
variable {X:Cx}{e:Expr}{st:Stmt}{t:TE}
def bi0 (i:Nat) (t:TT):TT:=λ σ H Q=>∃ a kvs,σ[i]?=some (some (.ref a))/\H a=some (.dK kvs)/\∀ ob,t σ (upd H a (.frz ob (.dK kvs))) λ v H2=>H2 a=some (.frz ob (.dK kvs))/\Q v (upd H2 a (.dK kvs))
theorem aS8 (i:Nat) {t:TT} (h:PT X e t):PT X e (bi0 i t):=λ pins s σ H Q I hh0_=>by
 obtain⟨a,kvs,_,ea,q⟩:=hh0_;obtain⟨ob,I1⟩:=aG5 I ea;exact thn (h pins s σ _ _ I1 (q ob)) λ u s2 ⟨H2,I2,e2,q2⟩=>⟨_,ac6 I2 e2 (ac7 I ea),q2⟩
end
def less (H:Hp) (a:Addr):Hp:=λ b=>if b=a then none else H b
theorem T_2 {H:Hp}{a:Addr}:less H a a=none:=if_pos rfl
theorem p_1 {H:Hp}{a b:Addr} (h:b≠a):less H a b=H b:=if_neg h
theorem D_0 {H:Hp}{a b:Addr}{u:HO} (h:less H a b=some u):b≠a/\H b=some u:=by
 by_cases e:b=a
 ·rw[e,T_2] at h;cases h
 ·exact⟨e,by rw[p_1 e] at h;exact h⟩
section
variable {K:Frag}{H:Hp}{a:Addr}{ob:Obj}{kvs:List (Key×V)}
theorem Rd.less {b:Addr}{u:HO} (ha:H a=some (.frz ob (.dK kvs))) (h:Rd H b u) (n:∀ kvs,u≠.dK kvs) (n2:∀ o v,u≠.frz o v):Rd (less H a) b u:=by
 have ne:b≠a:=λ e=>by
  rw[e] at h
  rcases h with h | ⟨o,h⟩
  ·rw[ha] at h;exact n2 _ _ (qh h).symm
  ·rw[ha] at h;cases h;exact n kvs rfl
 rcases h with h | ⟨o,h⟩
 ·exact .inl (by rw[p_1 ne];exact h)
 ·exact .inr ⟨o,by rw[p_1 ne];exact h⟩
mutual
theorem Rep.less (ha:H a=some (.frz ob (.dK kvs))):∀ (d:D) {v:V},nd d=true->Rep K H d v->Rep K (less H a) d v
 |.non,_,_,h=>by unfold Rep at h ⊢;exact h
 |.bl _,_,_,h=>by unfold Rep at h ⊢;exact h
 |.int _,_,_,h=>by unfold Rep at h ⊢;exact h
 |.str _,_,_,h=>by unfold Rep at h ⊢;exact h
 |.tup ds,_,n,h=>by
  unfold Rep at h ⊢;obtain⟨b,vs,e,s,r⟩:=h;refine⟨b,vs,e,?_,Reps.less ha ds n r⟩
  rcases s with s | s
  ·exact .inl (Rd.less ha s (λ _ z=>nomatch z) λ _ _ z=>nomatch z)
  ·exact .inr s
 |.lst ds,_,n,h=>by
  unfold Rep at h ⊢;obtain⟨b,vs,e,s,r⟩:=h;refine⟨b,vs,e,?_,Reps.less ha ds n r⟩
  rcases s with s | s
  ·exact .inl (Rd.less ha s (λ _ z=>nomatch z) λ _ _ z=>nomatch z)
  ·exact .inr s
 |.opq,_,n,_=>by cases n
 |.dct _ _,_,n,_=>by cases n
theorem Reps.less (ha:H a=some (.frz ob (.dK kvs))):∀ (ds:List D) {vs:List V},nds ds=true->Reps K H ds vs->Reps K (less H a) ds vs
 |[],_,_,h=>by unfold Reps at h ⊢;exact h
 |d::r,_,n,h=>by
  unfold nds at n;rw[Bool.and_eq_true] at n;unfold Reps at h ⊢;obtain⟨v,vr,e,h1,h2⟩:=h;exact⟨v,vr,e,Rep.less ha d n.1 h1,Reps.less ha r n.2 h2⟩
end
end
section
variable {K:Frag}{c:FC}{H0 H:Hp}{ρ:En}{σ:L2.St}{i:Nat}{kds:List (Str×D)}
theorem RS.asData (R:RS K c H0 H ρ σ) (hi:ρ[i]?=some (.ow false (.dic kds))) :
  ∃ a vs,σ[i]?=some (some (.ref a))/\H0 a=none/\c.He a=none/\H a=some (.dK (l_7 (kds.map (·.1)) vs))/\Reps K H0 (kds.map (·.2)) vs/\∀ ob,Same H0 (upd H0 a (.frz ob (.dK (l_7 (kds.map (·.1)) vs))))/\RS K c (upd H0 a (.frz ob (.dK (l_7 (kds.map (·.1)) vs)))) (upd H a (.frz ob (.dK (l_7 (kds.map (·.1)) vs)))) (ρ.set i (hld kds)) σ:=by
 obtain⟨a,x,y,z,ks,vs,e,rfl,r⟩:=R.ow i _ _ hi;have he:c.He a=none:=z;have il:i<ρ.length:=(List.getElem?_eq_some_iff.mp hi).1;refine⟨a,vs,x,y,he,e,r,λ ob=>?_⟩
 have s0:Same H0 (upd H0 a (.frz ob (.dK (l_7 (kds.map (·.1)) vs)))):=λ b u q=>by rw[a_3 (a_5 q y)];exact q
 have off:∀ {j:Nat}{sl:Sl},j≠i->(ρ.set i (hld kds))[j]?=some sl->ρ[j]?=some sl:=λ hj q=>by rwa [List.getElem?_set_ne (Ne.symm hj)] at q
 have on:∀ {sl:Sl},(ρ.set i (hld kds))[i]?=some sl->sl=hld kds:=λ q=>by rw[List.getElem?_set_self il] at q;exact (qh q).symm
 refine⟨s0,λ b u q=>?_,R.init.trans s0,λ b u q=>?_,λ b u q m=>?_,λ b m=>?_,by rw[List.length_set];exact R.len,λ j d q=>?_,λ j b o q=>?_,λ j k b1 b2 o1 o2 b q1 q2 q3 q4=>?_⟩
 ·by_cases h:b=a
  ·subst h;rw[a_2] at q ⊢;exact q
  ·rw[a_3 h] at q ⊢;exact R.same b u q
 ·by_cases h:b=a
  ·subst h;exact .inr he
  ·rw[a_3 h] at q;exact R.fresh b u q
 ·rw[a_3 (a_5 q he)];exact R.keep b u q m
 ·by_cases h:b=a
  ·subst h;rw[a_2];exact Option.some_ne_none _
  ·rw[a_3 h];exact R.apt b m
 ·by_cases hj:j=i
  ·subst hj
   have q2:=on q;unfold hld at q2;cases q2;refine⟨.ref a,x,?_⟩;unfold Rep;exact⟨a,ob,vs,rfl,a_2,Reps.mono s0 _ r,by rw[List.length_map,List.length_map]⟩
  ·obtain⟨v,a1,a2⟩:=R.im j d (off hj q)
   exact⟨v,a1,Rep.mono s0 _ a2⟩
 ·by_cases hj:j=i
  ·subst hj
   have q2:=on q;unfold hld at q2;cases q2
  ·have q':=off hj q
   obtain⟨b',x1,y1,z1,w1⟩:=R.ow j b o q';have nb:b'≠a:=λ h=>hj (R.ne j i b false o _ b' q' hi x1 (by rw[h];exact x))
   exact⟨b',x1,by rw[a_3 nb];exact y1,z1,w1.step s0 λ u q=>by rw[a_3 nb];exact q⟩
 ·have n1:j≠i:=λ h=>by subst h;have q5:=on q1;unfold hld at q5;cases q5
  have n2:k≠i:=λ h=>by subst h;have q5:=on q2;unfold hld at q5;cases q5
  exact R.ne j k b1 b2 o1 o2 b (off n1 q1) (off n2 q2) q3 q4
theorem RS.back {H0' H':Hp}{a:Addr}{vs:List V}{ob:Obj} (R:RS K c H0 H ρ σ) (hi:ρ[i]?=some (.ow false (.dic kds))) (x:σ[i]?=some (some (.ref a))) (y:H0 a=none) (he:c.He a=none) (r:Reps K H0 (kds.map (·.2)) vs)
  (sm:Same (upd H0 a (.frz ob (.dK (l_7 (kds.map (·.1)) vs)))) H0') (R':RS K c H0' H' (ρ.set i (hld kds)) σ) (hn:ρ.all ndS=true):Same H0 (less H0' a)/\H' a=some (.frz ob (.dK (l_7 (kds.map (·.1)) vs)))/\RS K c (less H0' a) (upd H' a (.dK (l_7 (kds.map (·.1)) vs))) ρ σ:=by
 have ha:H0' a=some (.frz ob (.dK (l_7 (kds.map (·.1)) vs))):=sm a _ a_2
 have s0:Same H0 (less H0' a):=λ b u q=>by
  have nb:b≠a:=λ h=>by rw[h,y] at q;cases q
  rw[p_1 nb];exact sm b u (by rw[a_3 nb];exact q)
 have off:∀ {j:Nat}{sl:Sl},j≠i->ρ[j]?=some sl->(ρ.set i (hld kds))[j]?=some sl:=λ hj q=>by rw[List.getElem?_set_ne (Ne.symm hj)];exact q
 have ok_at:OwOk K (less H0' a) (upd H' a (.dK (l_7 (kds.map (·.1)) vs))) a (.dic kds):=⟨_,vs,a_2,rfl,Reps.mono s0 _ r⟩;have mine:∀ {b:Bool}{o:MO},ρ[i]?=some (.ow b o)->b=false/\o=.dic kds:=λ q=>by rw[hi] at q;cases q;exact⟨rfl,rfl⟩
 refine⟨s0,R'.same a _ ha,λ b u q=>by rw[a_3 (D_0 q).1];exact R'.same b u (D_0 q).2,λ b u q=>?_,λ b u q=>R'.fresh b u (D_0 q).2,λ b u q m=>?_,λ b m=>?_,R.len,λ j d q=>?_,λ j b o q=>?_,R.ne⟩
 ·exact s0 b u (R.init b u q)
 ·rw[a_3 (a_5 q he)];exact R'.keep b u q m
 ·by_cases h:b=a
  ·subst h;rw[a_2];exact Option.some_ne_none _
  ·rw[a_3 h];exact R'.apt b m
 ·obtain⟨v,a1,a2⟩:=R.im j d q
  exact⟨v,a1,Rep.mono s0 _ a2⟩
 ·by_cases hj:j=i
  ·subst hj
   obtain⟨rfl,rfl⟩:=mine q;exact⟨a,x,T_2,he,ok_at⟩
  ·obtain⟨b',x1,y1,z1,w1⟩:=R'.ow j b o (off hj q)
   have nb:b'≠a:=λ h=>by rw[h,ha] at y1;cases y1
   refine⟨b',x1,by rw[p_1 nb];exact y1,z1,?_⟩
   have hq:ndS (.ow b o)=true:=List.all_eq_true.mp hn _ (List.mem_of_getElem? q);cases o with
   |lst ds=>obtain⟨ws,w2,w3⟩:=w1;exact⟨ws,by rw[a_3 nb];exact w2,Reps.less ha ds hq w3⟩
   |dic kds2=>obtain⟨ks2,ws,w2,w3,w4⟩:=w1;exact⟨ks2,ws,by rw[a_3 nb];exact w2,w3,Reps.less ha _ hq w4⟩
end
section
variable {X:Cx}{pos:Pos}{e:Expr}{F G:FE}{A:FA}
theorem xdx {o k:Expr} (hu:X.A.units+1<cLine) (ho:XE X o F) (hk:XE X k G) (hs:aO5 k:=by exact λ _ _=>rfl):XE X (.Subscript o k pos) (e2 dDx F G) :=
 PE.wk (an7 hu ho hk hs) λ σ H Q hh0_=>by
  obtain⟨c,H0,ρ,d,ρ',R,f,q⟩:=hh0_;obtain⟨x,ρ1,y,h1,h2,h3⟩:=n_0 f;unfold dDx at h3
  split at h3
  ·rename_i ks ds k
   refine⟨c,H0,ρ,_,ρ1,R,h1,λ v1 H1 Hh s1 R1 r1=>⟨c,H1,ρ1,_,ρ',R1,h2,λ v2 H2 Hh2 s2 R2 r2=>?_⟩⟩
   have r1':=Rep.mono s2 _ r1;unfold Rep at r1' r2;obtain⟨a,o,ws,rfl,rd0,t,l⟩:=r1';have rd:Rd H2 a (.dK ((ks.map Sum.inr).zip ws)):=.inr ⟨o,rd0⟩;subst r2;have f1:(ks.zip ds).map (·.1)=ks:=List.map_fst_zip (by omega)
   have f2:(ks.zip ds).map (·.2)=ds:=List.map_snd_zip (by omega)
   obtain⟨v,w1,w2⟩:=E_9 (kds:=ks.zip ds) (vs:=ws) (by rw[f2];exact t) h3
   rw[f1] at w1;exact⟨a,v,rfl,.inl ⟨_,.inr k,Same.rd R2.same rd,rfl,w1.symm⟩,q v H2 Hh2 (s1.trans s2) R2 w2⟩
  ·cases h3
end
section
variable {X:Cx}{pos:Pos}{e:Expr}{T:FT}
theorem af6 (i:Nat) (he:XT X e T):XT X e (tHold i T):=PT.wk (aS8 i he) λ σ H Q hh0_=>by
 obtain⟨c,H0,ρ,d,ρ',R,f,q⟩:=hh0_;unfold tHold F_5 at f;obtain⟨⟨b,kds⟩,h1,f⟩:=a_0 f;have f3:(if b=false/\ρ.all ndS=true then r_6 ρ (ρ.set i (hld kds)) (T (ρ.set i (hld kds))) else none)=some (d,ρ'):=f
 by_cases hc:b=false/\ρ.all ndS=true
 ·rw[if_pos hc] at f3
  obtain⟨rfl,hn⟩:=hc;unfold r_6 at f3;obtain⟨⟨d1,ρ1⟩,h2,f2⟩:=a_0 f3
  by_cases hd:ρ1=ρ.set i (hld kds)
  ·have f4:some (d1,ρ)=some (d,ρ'):=(if_pos hd).symm.trans f2
   cases f4;subst hd;have z:=G_5 h1;obtain⟨a,vs,x,y,hE,e4,r,RR⟩:=R.asData z;refine⟨a,_,x,e4,λ ob=>⟨c,_,_,d,_,(RR ob).2,h2,λ H0' H' sm R'=>?_⟩⟩
   obtain⟨s1,e5,R2⟩:=R.back z x y hE r sm R' hn;exact⟨e5,q _ _ s1 R2⟩
  ·have f4:=(if_neg hd).symm.trans f2
   cases f4
 ·rw[if_neg hc] at f3
  cases f3
theorem aZ7 {st:Stmt}:XS X st sNo:=λ _ _ _ _ _ _ ⟨_,_,_,_,_,f,_⟩=>nomatch f
end
end Fx
namespace Fx
open PySem PySem.Spec PyProof.Rows
end Fx
namespace Fx
open PySem
section
variable {prog:Program}{w:World}{K:Type} [DecidableEq K] {knd:KeyKind prog w K}{A:Around}{E:Value->Shared->Prop}{s:Shared}
inductive PairsAt (knd:KeyKind prog w K) (h:Heap):List Value->List (K×Value)->Prop
 |nil:PairsAt knd h [] []
 |cons {p:Addr}{u v:Value}{k:K}{us:List Value}{kvs:List (K×Value)} (a:h.IsTuple p #[u,v]) (b:knd.is k u=true) (r:PairsAt knd h us kvs):PairsAt knd h (.ref p::us) ((k,v)::kvs)
end
end Fx
namespace Fx
open PySem PySem.Spec PyProof.Rows L2
def KV1 (K:Frag) (d:D) (u:Value):Prop:=∃ v,RelV v u/\∀ H,Rep K H d v
def KVs (K:Frag) (ds:List D) (us:List Value):Prop:=∃ vs,Vals vs us/\∀ H,Reps K H ds vs
section
variable {K:Frag}
theorem a_7 {x:Str}{t:Tok}:KV1 K (.str x) (.str x t):=⟨.str x,⟨t,rfl⟩,λ H=>l_8 H x⟩
theorem k_3:KVs K [] []:=⟨[],.nil,λ H=>Reps.nil_⟩
theorem a_6 {d:D}{ds:List D}{u:Value}{us:List Value} (a:KV1 K d u) (b:KVs K ds us):KVs K (d::ds) (u::us):=by
 obtain⟨v,r,p⟩:=a;obtain⟨vs,rs,ps⟩:=b;exact⟨v::vs,.cons r rs,λ H=>Reps.cons (p H) (ps H)⟩
theorem p_4 {a:Addr}{us:List Value}{n:Nat}{sl:Array (Option Value)}{ds:List D} (l:K.lookup a=some ⟨.type "tuple",none,.seq us.toArray n,sl⟩) (hz:us.length ≤ 1000) (h:KVs K ds us):KV1 K (.tup ds) (.ref a):=by
 obtain⟨vs,rs,ps⟩:=h;refine⟨.ref a,rfl,λ H=>?_⟩
 unfold Rep;refine⟨a,vs,rfl,.inr ⟨_,us.toArray,n,l,rfl,rfl,rfl,?_,?_⟩,ps H⟩
 ·rw[List.size_toArray];exact Nat.le_of_lt (o_2 hz)
 ·exact rs
end
theorem strs_inv:∀ {xs:List D}{ss:List Str},ak9 xs=some ss->xs=ss.map .str
 |[],ss,h=>by cases h;rfl
 |.str x::r,ss,h=>by
  rw[w_4] at h;obtain⟨t,e,f⟩:=a_0 h;cases f;rw[strs_inv e];rfl
 |.non::_,_,h=>by cases h
 |.bl _::_,_,h=>by cases h
 |.int _::_,_,h=>by cases h
 |.tup _::_,_,h=>by cases h
 |.lst _::_,_,h=>by cases h
theorem o_5 {K:Frag}{H:Hp}:∀ ss:List Str,Reps K H (ss.map D.str) (ss.map V.str)
 |[]=>Reps.nil_
 |x::r=>Reps.cons (l_8 H x) (o_5 r)
theorem f_6 {K:Frag}{H:Hp}:∀ {ss:List Str}{vs:List V},Reps K H (ss.map D.str) vs->vs=ss.map V.str
 |[],vs,h=>by rw[List.map_nil] at h;unfold Reps at h;exact h
 |x::r,vs,h=>by
  rw[List.map_cons] at h;unfold Reps at h;obtain⟨v,t,rfl,a,b⟩:=h;unfold Rep at a;rw[a,f_6 b];rfl
theorem r_7:∀ {ss:List Str}{us:List Value},Vals (ss.map V.str) us->StrsAre us ss
 |[],us,h=>by rw[List.map_nil] at h;cases h;exact .nil
 |x::r,us,h=>by
  rw[List.map_cons] at h;cases h with
  |cons a b=>obtain⟨t,rfl⟩:=a;exact .cons x t (r_7 b)
theorem m_7:∀ {us:List Value}{ss:List Str},StrsAre us ss->Vals (ss.map V.str) us
 |_,_,.nil=>.nil
 |_,_,.cons x t h=>.cons ⟨t,rfl⟩ (m_7 h)
section
variable {X:Cx}
theorem r_8:∀ {ss:List Str}{us:List Value},Vals (ss.map V.str) us->∃ l:List (Str×Tok),us=strValues l/\l.map (·.1)=ss
 |[],us,h=>by rw[List.map_nil] at h;cases h;exact⟨[],rfl,rfl⟩
 |x::r,us,h=>by
  rw[List.map_cons] at h;cases h with
  |cons a b =>
   obtain⟨t,rfl⟩:=a;obtain⟨l,rfl,e⟩:=r_8 b;exact⟨(x,t)::l,rfl,by rw[List.map_cons,e]⟩
theorem H_7 (sep:Str):∀ ss:List Str,(Str.join sep ss).length<=(ss.map (·.length)).sum+ss.length*sep.length
 |[]=>by show (Str.empty).length<=_;exact Nat.zero_le _
 |[x]=>by simp[Str.join]
 |x::y::r=>by
  have ih:=H_7 sep (y::r)
  have ap:∀ a b:Str,(a++b).length=a.length+b.length:=λ a b=>by
   show (a.cps++b.cps).size=_;rw[Array.size_append];rfl
  show (x++sep++Str.join sep (y::r)).length<=_;rw[ap,ap,List.map_cons,List.sum_cons,List.length_cons,Nat.succ_mul];omega
theorem ap2:MtR X "str.join" (λ x xs H Q=>∃ sep p ss,x=.str sep ∧ xs=[.ref p] ∧ SqL X.K H p (ss.map V.str) ∧ (ss.map (·.length)).sum+ss.length*sep.length ≤ 1000000 ∧ Q (.str (Str.join sep ss)) H):=by
 intro pins s σ H x xs v us Q I rx rs h;obtain⟨sep,p,ss,rfl,rfl,hq,hz,q⟩:=h;obtain⟨t,rfl⟩:=rx;obtain⟨u,rfl,ru⟩:=h_9 rs;cases ru;obtain⟨its,rv,pl,_⟩:=I.list hq;obtain⟨l,rfl,el⟩:=r_8 rv;have jl:=H_7 sep ss;have hs:(Str.join sep ss).length<=sizeLine:=Nat.le_trans (Nat.le_trans jl hz) (by decide)
 have hok:Builtin.Str.tooLong ((l.map (·.1)).toArray.foldl (λ a p=>a+p.length+sep.length) 0)=false:=by
  rw[StrLaws.joinTotal,el];unfold Builtin.Str.tooLong;exact decide_eq_false (by have:=(show (1000000:Nat)<=sizeLine by decide);omega)
 refine call_meets PySem.F.slot_str_join (typeIs_str _ _ _) PySem.F.entry_str_join (PySem.F.args_str_join_2 _ _) (meets_str_join_list sep t p l hok) ⟨pl.isList,?_⟩;have eg:Builtin.Str.glued sep (l.map (·.1))=Str.join sep ss:=by rw[StrLaws.glued_eq_join,el]
 match l,el,eg with
 |[a],el,_ =>
  have e1:Str.join sep ss=a.1:=by rw[<- el];rfl
  exact⟨.str (Str.join sep ss),H,I,⟨a.2,by rw[e1]⟩,q⟩
 |[],_,eg=>exact⟨by rw[eg];exact hs,.str (Str.join sep ss),H,I.tok _,⟨s.toks,by rw[eg]⟩,q⟩
 |a::b::r,_,eg=>exact⟨by rw[eg];exact hs,.str (Str.join sep ss),H,I.tok _,⟨s.toks,by rw[eg]⟩,q⟩
theorem k_7 {e:Expr}{F:FE}{sep:Str}{j:Nat}{p apos cpos:Pos} (h:XE X e F)
  (hbase:attributeBase (.Constant (.str sep) j p) "join" X.env (eval (.Constant (.str sep) j p) X.env)=eval (.Constant (.str sep) j p) X.env:=by rfl)
  (hfew:((backTo cpos (starEach [e] X.env)).all (λ x=>!x.1)&&(backToKw cpos (keywordEach [] X.env)).all (λ x=>x.1.isSome)
   && decide (([e]:List Expr).length+([]:List Keyword).length+(if ([]:List Keyword).isEmpty then 0 else 1)<30))=true:=by rfl)
  (hline:(apos.endLine==cpos.line)=true:=by rfl) (hs:starEach [e] X.env=[(false,eval e X.env)]:=by rfl):XE X (.Call (.Attribute (.Constant (.str sep) j p) "join" apos) [e] [] cpos) (g_4 sep F) :=
 PE.wk (C_0 PySem.F.plainAttrs_str PySem.F.slot_str_join PySem.F.type_str_join ap2 ah3 (xaC h xaN hs) hbase hfew hline hs rfl) λ σ H Q hh0_=>by
  obtain⟨c,H0,ρ,d,ρ',R,f,q⟩:=hh0_;unfold g_4 at f;obtain⟨⟨d1,ρ1⟩,h1,f⟩:=a_0 f;obtain⟨xs,h2,f⟩:=a_0 f;obtain⟨d',h3,f⟩:=a_0 f;have f':some (d',ρ1)=some (d,ρ'):=f;cases f'
  have e1:d1=.lst xs:=by
   cases d1 with
   |lst ys=>cases h2;rfl
   |_=>cases h2
  subst e1;unfold q_8 at h3;obtain⟨ss,h4,h3⟩:=a_0 h3;obtain⟨hz,rfl⟩:=ifs h3;cases strs_inv h4;refine⟨rfl,c,H0,ρ,[.lst (ss.map .str)],ρ',R,?_,λ vs H1 Hh s1 R1 r1=>?_⟩
  ·unfold aC
   rw[h1];rfl
  ·obtain⟨v,rfl,rv⟩:=Reps.v1 r1
   unfold Rep at rv;obtain⟨p,ws,rfl,sq,t⟩:=rv;rw[f_6 t] at sq;exact⟨sep,p,ss,rfl,rfl,Same.seq R1.same sq,hz,q _ H1 Hh s1 R1 (l_8 _ _)⟩
end
inductive PV (K:Frag) (H:Hp):List V->List (Key×V)->Prop
 |nil:PV K H [] []
 |cons {a:Addr}{k:Str}{v:V}{vs:List V}{kvs:List (Key×V)} (p:SqT K H a [.str k,v]) (r:PV K H vs kvs):PV K H (.ref a::vs) ((.inr k,v)::kvs)
theorem F_0 {k:Str}:∀ {kds:List (Str×D)}{vs:List V},kds.length=vs.length->n_9 k kds=none->w_3 (l_7 (kds.map (·.1)) vs) (.inr k)=none
 |[],vs,_,_=>rfl
 |q::r,[],l,_=>by cases l
 |q::r,v::vs,l,h=>by
  unfold n_9 at h
  by_cases hk:q.1=k
  ·rw[if_pos hk] at h;cases h
  ·rw[if_neg hk] at h
   rw[List.map_cons,k_6,i_7 λ z=>hk (Sum.inr.inj z)]
   exact F_0 (Nat.succ.inj l) h
section
variable {X:Cx}
theorem ak7 {x:Str}{d:D}{pos:Pos} (h:∃ a,X.mg x=some (.ref a) ∧ KV1 X.K d (.ref a)) (hg:Gl X x:=by rfl) (hd:(x==("__debug__":Str))=false:=by decide):XE X (.Name x pos) (eC d):=by
 obtain⟨a,h,v,rv,rp⟩:=h
 exact PE.wk (B_9 hg h (v:=v) rv hd) λ σ H Q hh0_=>by
  obtain⟨c,H0,ρ,d,ρ',R,f,q⟩:=hh0_;obtain⟨rfl,rfl⟩:=p_6 f;exact q _ H0 H (Same.refl _) R (rp H0)
end
end Fx
namespace Fx
open PySem
def aY1:D->Option (List Str×List D)
 |.dct ks vs=>some (ks,vs)
 |_=>none
def aO2 (k d:D):Option D:=bnd (aY1 d) λ q=>bnd (ba8 k) λ s=>some (.bl (n_9 s (q.1.zip q.2)).isSome)
end Fx
namespace Fx
open PySem PySem.Spec PyProof.Rows L2
theorem dctX_inv {d:D}{q:List Str×List D} (h:aY1 d=some q):d=.dct q.1 q.2:=by
 cases d with
 |dct ks vs=>cases h;rfl
 |_=>cases h
end Fx
namespace Fx
open PySem PySem.W L2
structure XC (K:Frag) (C:Addr):Prop where
 is:(clsIn K C).isSome=true
 ga:findIn K (.ref C) "__getattribute__"=some (some (.builtin "BaseException.__getattribute__"))
 gh:findIn K (.ref C) "__getattr__"=some none
 cl:findIn K (.ref C) "__class__"=some (some (.builtin "object.__class__"))
 ge:specialIn K (.builtin "object.__class__") "__get__"=some (some (.builtin "getset_descriptor.__get__"))
 tk:takesIn K (.builtin "object.__class__")=some true
 mo:mroIn K C (.type "object")=some true
 mb:mroIn K C (.type "BaseException")=some true
section
variable {prog:Program}{w:World}{A:Around}{E:Value->Shared->Prop}{s:Shared}{K:Frag}{C x:Addr}{ox:Obj}{od:Option Obj}
theorem XC.ty {M:Model}{h:Heap} (f:XC K C) (X:K.In h):Looks M h (isType (.ref C)) true:=by
 obtain⟨cd,hc⟩:=Option.isSome_iff_exists.mp f.is
 revert hc
 unfold clsIn;intro hc
 split at hc
 ·rename_i o1 o2 o3 o4 hl
  exact λ A Q E s k q=>qb (wpAny_loadPart (k C _ (X C _ hl)) (qc q))
 ·exact nomatch hc
theorem XC.ck {tk:Tok}{n:Str}{Q:Unit->Shared->Prop} (f:XC K C) (X:K.In s.heap) (I:InstAt s.heap x ox C od) (h:Q () s) :
  wpAny (model prog w) A (checkBuiltinCall "BaseException.__getattribute__" ⟨[.ref x,.str n tk],[]⟩) Q E s:=by
 have e1:builtinKind "BaseException.__getattribute__"=some .slot:=by decide +kernel
 have e2:splitId "BaseException.__getattribute__"=some ("BaseException","__getattribute__"):=by decide +kernel
 have e3:=F.args_bexc_ga (.ref x) (.str n tk);obtain⟨hh,g,d,t,os⟩:=s;have L1:Looks (model prog w) hh (isInstance (.ref x) (.type "BaseException")) true:=(I.type (M:=model prog w)).andThen (looks_mroIn X f.mb);simp only[checkBuiltinCall,e1,e2];refine qb (L1.at ?_);rw[if_neg (by decide)]
 exact wpAny_of_eq e3 h
theorem XC.ca {Q:Option Value->Shared->Prop} (f:XC K C) (X:K.In s.heap) (I:InstAt s.heap x ox C od) (h:Q (some (.ref C)) {s with toks:=s.toks+1}) :
  wpAny (model prog w) A (getAttr? (.ref x) "__class__") Q E s:=by
 have fo:findObj K C od "__class__"=some (.bind (.builtin "getset_descriptor.__get__") (.builtin "object.__class__")):=by
  obtain⟨cd,hc⟩:=Option.isSome_iff_exists.mp f.is;simp[findObj,hc,f.cl,f.ge,f.tk]
 obtain⟨hh,g,d,t,os⟩:=s;have L0:=I.type (M:=model prog w);have L1:=looks_findIn (M:=model prog w) X f.ga;have L2:=looks_findIn (M:=model prog w) X f.gh;have L3:=looks_find (M:=model prog w) X I fo
 have bn:(onTheHeap (.ref C)&&Value.builtin "BaseException.__getattribute__"==Value.builtin "object.__getattribute__")=false:=by
  rw[show (Value.builtin "BaseException.__getattribute__"==Value.builtin "object.__getattribute__")=false by decide +kernel];rfl
 unfold getAttr? getAttrBy?;refine qb (wpAny_mkText (qb (wpAny_attempt ?_)));unfold getAttrBy;refine wpAny_holding (qb (L0.at (qb (L1.at ?_))));dsimp only;rw[bn,if_neg (by decide)]
 unfold getAttrByItsOwn hookBefore;refine qb ?_;rw[show onTheHeap (.ref C)=true from rfl,if_pos rfl];refine L2.at (qb (wpAny_attempt (wpAny_holding ?_)));unfold callGetattribute;rw[show (false&&onTheHeap (Value.builtin "BaseException.__getattribute__"))=false from rfl,if_neg (by decide)]
 unfold boundAndCalled;refine qb (wpAny_of_eq (F.attr_ValueError.ga.bind (.ref x)) ?_);refine wpAny_call (codeAny_call_builtin F.attr_ValueError.ga.plain F.entry_bexc_ga (f.ck X I ?_));unfold Builtin.«object.__getattribute__»;refine qb (qc (a:=(Value.ref x,[Value.str "__class__" t])) (qb (qc (qb (L0.at (qb (L3.at ?_)))))));dsimp only;unfold Builtin.ObjectAttr.bindTo;refine qb (wpAny_holding (wpAny_call (class_get (ox:=ox) (od:=od) X I f.mo (qc ?_))));exact handed_on rfl (qc h)
theorem XC.kitx (f:XC K C):KitX K (.ref x) (.ref C) (λ h=>InstAt h x ox C od) where
 ty:=λ _ _ _ I=>I.type
 it:=λ _ _ X _=>f.ty X
 ne:=λ h tp dd its n sl X e=>by
  obtain⟨cd,hc⟩:=Option.isSome_iff_exists.mp f.is;cases hq:(Value.ref C==Value.ref tp) with
  |false=>rfl
  |true =>
   obtain rfl:C=tp:=Value.ref.inj (beq_iff_eq.mp hq)
   revert hc
   unfold clsIn;intro hc
   split at hc
   ·rename_i o1 o2 o3 o4 hl
    exact nomatch (X C _ hl).symm.trans e
   ·exact nomatch hc
 ca:=λ X I k=>f.ca X I k
end
def rcd (c:Value) (vs:Array Value) (dd:Option Addr:=none):Obj:={cls:=c,dict:=dd,data:=.fields vs,slots:=#[]}
theorem aL2 {prog:Program}{w:World}{A:Around}{E:Value->Shared->Prop}{s:Shared}{a:Addr}{c:Value}{dd:Option Addr}{vs:Array Value}{k:Nat}{x:Value}{Q:Unit->Shared->Prop} (ho:s.heap.get? a=some (rcd c vs dd)) (hk:k<vs.size)
  (h:∀ h',h'.get? a=some (rcd c (vs.setIfInBounds k x) dd)->Heap.SameBut a s.heap h'->Q () {s with heap:=h'}):wpAny (model prog w) A (setField (.ref a) k x) Q E s :=
 wpAny_setField ho rfl hk (h _ (Heap.get?_update_self _ ho rfl) (Heap.SameBut.update s.heap a _))
def Aw (fs es:List Addr) (h h':Heap):Prop:=∀ b o,h.get? b=some o->b∉es->(b∉fs->h'.get? b=some o)/\∃ sl,h'.get? b=some {o with slots:=sl}
theorem Aw.of {fs es:List Addr}{h h':Heap} (k:∀ b o,b∉es->h.get? b=some o->h'.get? b=some o):Aw fs es h h':=λ b o e n=>⟨λ _=>k b o n e,o.slots,k b o n e⟩
theorem Aw.trans {fs es:List Addr}{h h1 h2:Heap} (a:Aw fs es h h1) (b:Aw fs es h1 h2):Aw fs es h h2:=λ c o e n=>by
 obtain⟨p,sl,q⟩:=a c o e n;obtain⟨_,sl',q'⟩:=b c _ q n;exact⟨λ m=>(b c o (p m) n).1 m,sl',q'⟩
theorem Aw.mono {fs es fs' es':List Addr}{h h':Heap} (a:Aw fs es h h') (f:∀ b∈fs,b∈fs') (g:∀ b∈es,b∈es'\/h.get? b=none):Aw fs' es' h h':=λ b o e n=>by
 have n':b∉es:=λ z=>(g b z).elim n λ q=>by rw[e] at q;cases q
 exact⟨λ m=>(a b o e n').1 λ z=>m (f b z),(a b o e n').2⟩
def Fly (h:Heap) (e T C:Addr) (dd:Option Addr) (fl:Value):Prop:=T≠e ∧ (∃ vs,h.get? e=some (rcd (.ref C) vs dd) ∧ vs[1]?=some (.ref T)) ∧ ∃ ts,h.get? T=some (rcd (.type "traceback") ts) ∧ ts[3]?=some fl
section
variable {prog:Program}{w:World}{A:Around}{E:Value->Shared->Prop}{s:Shared}{base:Heap}{env:Env}{outer:List Env}{L e C T:Addr}{dd:Option Addr}{Q:Unit->Shared->Prop}
theorem H_1 {l:List Env}{c:Value}{vs:Array Value} (hl:s.heap.FunFrames base l) (he:s.heap.get? e=some (rcd c vs dd)):e∉frs l:=λ z=>by
 obtain⟨_,o,ho,hn⟩:=hl.mem z;rw[he] at ho;cases ho;exact hn vs rfl
theorem J_0 {head:Value}{nx:Bool}{vs:Array Value} (hfr:A.frames=some (env::outer)) (hl:s.heap.FunFrames base (env::outer)) (hf:env.frame=some L)
  (he:s.heap.get? e=some (rcd (.ref C) vs dd)) (h1:1<vs.size) (k:∀ h' T,Aw (frs (env::outer)) [e] s.heap h'->s.heap.objs.size<=T->Fly h' e T C dd (rawInt L)->Q () {s with heap:=h'}) :
  wpAny (model prog w) A (do setField (.ref e) 1 (<- EntryCells.newEntry head (<- frameOf env) .none (rawInt L) .none (<- entryPlaceOf L nx))) Q E s:=by
 refine qb (wpAny_frameOf_fun hfr hl hf λ g hg=>qb (wpAny_entryPlaceOf λ pl hp=>qb ?_))
 refine wpAny_newObj_type ?_ (hp.sizeOk5 head (.ref L) .none (rawInt L) .none);have hz:([head,.ref L,.none,rawInt L,.none]++(if pl.isEmpty then List.replicate 6 Value.none else pl)).toArray[3]?=some (rawInt L):=rfl
 generalize ([head,.ref L,.none,rawInt L,.none]++(if pl.isEmpty then List.replicate 6 Value.none else pl)).toArray=ts at hz ⊢
 have eg:g.get? e=some (rcd (.ref C) vs dd):=(hg.2.1 e (H_1 hl he)).trans he;refine aL2 (qd _ eg) h1 λ h' e1 sb=>?_
 have te:g.objs.size≠e:=Nat.ne_of_gt (qk eg);refine k h' g.objs.size (λ b o q n=>?_) (Nat.le_of_eq hg.1.symm) ⟨te,⟨_,e1,by simp[h1]⟩,ts,?_,hz⟩
 ·have be:b≠e:=λ z=>n (by simp[z])
  have up:∀ o',g.get? b=some o'->h'.get? b=some o':=λ o' z=>(sb.2 b be).trans (qd _ z)
  obtain⟨sl,z⟩:=hg.2.2 b o q;exact⟨λ m=>up o ((hg.2.1 b m).trans q),sl,up _ z⟩
 ·exact (sb.2 _ te).trans (qj _ rfl)
theorem s_2 {vs:Array Value} (hfr:A.frames=some (env::outer)) (hl:s.heap.FunFrames base (env::outer)) (hf:env.frame=some L)
  (he:s.heap.get? e=some (rcd (.ref C) vs dd)) (h1:vs[1]?=some .none) (k:∀ h' T,Aw (frs (env::outer)) [e] s.heap h'->s.heap.objs.size<=T->Fly h' e T C dd (rawInt L)->Q () {s with heap:=h'}) :
  wpAny (model prog w) A (noteFrame (.ref e) env) Q E s:=by
 simp only[noteFrame,hf];refine qb (wpAny_field he rfl h1 ?_);rw[show (Value.none != Value.none)=false from rfl,if_neg (by decide)]
 exact J_0 hfr hl hf he (Array.getElem?_eq_some_iff.mp h1).1 k
theorem p_0 (hfr:A.frames=some (env::outer)) (hl:s.heap.FunFrames base (env::outer)) (hf:env.frame=some L) (x:Fly s.heap e T C dd .none)
  (k:∀ h' T',Aw (frs (env::outer)) [e,T] s.heap h'->s.heap.objs.size<=T'->Fly h' e T' C dd (rawInt L)->Q () {s with heap:=h'}):wpAny (model prog w) A (noteFrame (.ref e) env) Q E s:=by
 obtain⟨te,⟨vs,he,h1⟩,ts,ht,h3⟩:=x;simp only[noteFrame,hf];refine qb (wpAny_field he rfl h1 ?_);rw[show (Value.ref T != Value.none)=true from rfl,if_pos rfl];refine qb (wpAny_field ht rfl h3 ?_);rw[show (Value.none==rawInt L)=false from rfl,if_neg (by decide)]
 refine qb (aL2 ht (Array.getElem?_eq_some_iff.mp h3).1 λ h1' e1 sb=>?_)
 have hl':h1'.FunFrames base (env::outer):=hl.of_keeps λ b o q n=>by
  have bt:b≠T:=λ z=>by subst z;rw[ht] at q;cases q;exact n ts rfl
  exact⟨o,(sb.2 b bt).trans q,rfl⟩
 refine J_0 (s:={s with heap:=h1'}) hfr hl' hf ((sb.2 e te.symm).trans he) (Array.getElem?_eq_some_iff.mp h1).1 λ h' T' a z f=>k h' T' (λ b o q n=>?_) (Nat.le_trans (Nat.le_of_eq sb.1.symm) z) f
 simp only[List.mem_cons,List.not_mem_nil,or_false,not_or] at n;exact a b o ((sb.2 b n.2).trans q) (by simp[n.1])
theorem v_0 {fl:Value} (x:Fly s.heap e T C dd fl) (k:∀ h',Heap.SameBut T s.heap h'->Fly h' e T C dd .none->Q () {s with heap:=h'}):wpAny (model prog w) A (setFlight (.ref e) none) Q E s:=by
 obtain⟨te,⟨vs,he,h1⟩,ts,ht,h3⟩:=x;have z3:3<ts.size:=(Array.getElem?_eq_some_iff.mp h3).1;unfold setFlight;refine qb (wpAny_field he rfl h1 ?_);rw[show (Value.ref T != Value.none)=true from rfl,if_pos rfl];exact aL2 ht z3 λ h' e1 sb=>k h' sb ⟨te,⟨vs,(sb.2 e te.symm).trans he,h1⟩,_,e1,by simp[z3]⟩
theorem y_0 (hf:env.frame=some L) (x:Fly s.heap e T C dd (rawInt L)) (k:Q () s):wpAny (model prog w) A (noteFrame (.ref e) env) Q E s:=by
 obtain⟨te,⟨vs,he,h1⟩,ts,ht,h3⟩:=x;simp only[noteFrame,hf];refine qb (wpAny_field he rfl h1 ?_);rw[show (Value.ref T != Value.none)=true from rfl,if_pos rfl];refine qb (wpAny_field ht rfl h3 ?_);rw[if_pos (beq_self_eq_true _)];exact qc k
theorem aH4 {fl:Value} (x:Fly s.heap e T C dd fl) (k:∀ h',Heap.SameBut T s.heap h'->Fly h' e T C dd (rawInt L)->Q () {s with heap:=h'}) :
    wpAny (model prog w) A (do if (← field (.ref e) 1)==.none then unsupported "frame.own-activation:exception-without-traceback"
                               setFlight (.ref e) (some L)) Q E s:=by
  obtain⟨te,⟨vs,he,h1⟩,ts,ht,h3⟩:=x;have z3:3<ts.size:=(Array.getElem?_eq_some_iff.mp h3).1;refine qb (wpAny_field he rfl h1 ?_);rw[show (Value.ref T==Value.none)=false from rfl,if_neg (by decide)]
  unfold setFlight;refine qb (wpAny_field he rfl h1 ?_);rw[show (Value.ref T != Value.none)=true from rfl,if_pos rfl];exact aL2 ht z3 λ h' e1 sb=>k h' sb ⟨te,⟨vs,(sb.2 e te.symm).trans he,h1⟩,_,e1,by simp[z3]⟩
end
end Fx
namespace Fx
open PySem PySem.W PySem.Spec PyProof.Rows L2
def CXE (P:Program) (w:World):CXT:=λ outer H s E e s'=>∃ a T C dd H',e=.ref a/\s'.os=s.os/\AllBare s'.gens/\Un (frs outer) [] H H' s.heap s'.heap/\HOk P w H' s'.heap /\
 s.heap.get? a=none/\s.heap.get? T=none/\H' a=none/\H' T=none/\Fly s'.heap a T C dd .none/\E (.ref C) dd H'
theorem ap5 {P:Program}{w:World}{H:Hp}{h:Heap}{a:Addr}:∀ {o:HO},ObjOk P w H h a o->∃ u,h.get? a=some u
 |.lst _,⟨_,_,_,_,e⟩=>⟨_,e⟩
 |.tup _,⟨_,_,_,o,e,_⟩=>⟨_,e⟩
 |.dK _,⟨_,_,_,_,o,_,_,e,_⟩=>⟨_,e⟩
 |.dT _,⟨_,_,_,_,o,_,_,e,_⟩=>⟨_,e⟩
 |.set _ _,⟨_,_,_,_,e,_⟩=>⟨_,e⟩
 |.ins _ _ _,⟨_,_,_,e,_⟩=>⟨_,e⟩
 |.own _,e=>e
 |.xd _,⟨_,x,_⟩=>by obtain⟨o,_,_,e,_⟩:=x;exact⟨_,e⟩
 |.rng _ _,⟨_,_,_,e⟩=>⟨_,e⟩
 |.frz _ _,⟨e,_⟩=>⟨_,e⟩
 |.tbl _,e=>⟨_,e⟩
 |.met _ _,e=>⟨_,e⟩
 |.ext _,⟨_,e,_⟩=>e
theorem l_3 {P:Program}{w:World}{H:Hp}{h:Heap}{a:Addr} (ok:HOk P w H h) (n:h.get? a=none):H a=none:=by
 cases e:H a with
 |none=>rfl
 |some o =>
  obtain⟨u,q⟩:=ap5 (ok a o e);rw[n] at q;cases q
section
variable {X:Cx}{pins:List (Addr×Obj)}{σ:L2.St}{H:Hp}{s:Shared}{h':Heap}{es:List Addr}
theorem ai7 {P:Program}{w:World}{H:Hp}{h h':Heap}{fs es:List Addr} (ok:HOk P w H h) (a:Aw fs es h h') (hf:∀ b∈fs,H b=none) (he:∀ b∈es,H b=none):HOk P w H h':=λ b o e=>by
 have out:∀ c,H c≠none->c∉fs/\c∉es:=λ c n=>⟨λ z=>n (hf c z),λ z=>n (he c z)⟩
 refine (ok b o e).stay (λ c u hc q=>?_) (λ _ z=>z) (λ _ _ z=>z)
 have n:H c≠none:=by
  rcases hc with rfl | hc
  ·rw[e];exact Option.some_ne_none _
  ·rw[hc];exact Option.some_ne_none _
 exact (a c u q (out c n).2).1 (out c n).1
def N_7 (X:Cx) (pins:List (Addr×Obj)) (H:Hp) (b:Addr):Prop :=
 H b=none/\b≠X.env.locals/\(b∈X.ex\/X.s₀.heap.get? b=none)/\(∀ x c,X.env.cells.lookup x=some c->c≠b)/\∀ p∈X.pn++pins,p.1≠b
theorem S_3 {H':Hp}{b:Addr} (I:Inv X pins σ H s) (n:s.heap.get? b=none) (hn:H' b=none):N_7 X pins H' b:=by
 refine⟨hn,λ z=>?_,?_,λ x c e z=>?_,λ p hp z=>?_⟩
 ·obtain⟨m,⟨o,_,_,q,_⟩,_⟩:=I.loc
  rw[<- z,n] at q;cases q
 ·by_cases hx:b∈X.ex
  ·exact .inl hx
  ·refine .inr ?_
   cases e:X.s₀.heap.get? b with
   |none=>rfl
   |some o =>
    obtain⟨o',q⟩:=I.base.there b o e hx;rw[n] at q;cases q
 ·obtain⟨v,o,q,_⟩:=I.cell x c e
  rw[z,n] at q;cases q
 ·have q:=(I.pin p hp).1
  rw[z,n] at q;cases q
theorem s_7 {t':Nat} (I:Inv X pins σ H s) (a:Aw (frs X.stack) es s.heap h') (he:∀ b∈es,N_7 X pins H b):Inv X pins σ H {s with heap:=h',toks:=t'}:=by
 have old:∀ b o,X.s₀.heap.get? b=some o->b∉X.ex->b≠X.env.locals/\b∉es:=λ b o q hx=>by
  refine⟨qp (qo (qk q) I.ok.above),λ z=>?_⟩
  rcases (he b z).2.2.1 with y | y
  ·exact hx y
  ·rw[q] at y;cases y
 have fr:∀ b,b≠X.env.locals->b∉X.fs->b∉frs X.stack:=λ b n m z=>(qr (I.stkSub b z)).elim n m
 have un:=I.base
 have cel:∀ x c v,X.env.cells.lookup x=some c->s.heap.IsCell c v->h'.IsCell c v:=λ x c v e hh0_=>by
  obtain⟨o,q,d⟩:=hh0_;obtain⟨_,sl,q'⟩:=a c o q λ z=>(he c z).2.2.2.1 x c e rfl
  exact⟨_,q',d⟩
 refine⟨I.ok,I.os,I.bare,⟨λ b o q n hb hx=>?_,λ b o q n hb hx=>?_,un.free,λ b o q hx=>?_,un.tups,un.frzs,un.tbls⟩,?_,λ x c e=>?_,I.free,I.freeC,λ p hp=>?_,ai7 I.hok a I.stkFree λ b z=>(he b z).1,I.len⟩
 ·exact (a b o (un.keep b o q n hb hx) (old b o q hx).2).1 (fr b (old b o q hx).1 hb)
 ·obtain⟨sl,q1⟩:=un.slot b o q n hb hx
  obtain⟨_,sl',q2⟩:=a b _ q1 (old b o q hx).2;exact⟨sl',q2⟩
 ·obtain⟨o',q1⟩:=un.there b o q hx
  obtain⟨_,sl',q2⟩:=a b _ q1 (old b o q hx).2;exact⟨_,q2⟩
 ·obtain⟨m,⟨o,es',ep,q,r⟩,hl⟩:=I.loc
  obtain⟨_,sl,q'⟩:=a _ o q λ z=>(he _ z).2.1 rfl
  refine⟨m,⟨_,es',ep,q',r⟩,λ i x v e1 e2 e3=>?_⟩
  obtain⟨u,rv,l⟩:=hl i x v e1 e2 e3;refine⟨u,rv,l.imp id ?_⟩;rintro ⟨k,c,e,z⟩;exact⟨k,c,e,cel x c _ e z⟩
 ·obtain⟨v,z⟩:=I.cell x c e
  exact⟨v,cel x c v e z⟩
 ·obtain⟨q,n,ne,nf,d⟩:=I.pin p hp
  exact⟨(a p.1 p.2 q λ z=>(he _ z).2.2.2.2 p hp rfl).1 (fr p.1 ne nf),n,ne,nf,d⟩
end
section
variable {P:Program}{w:World}{K:Frag}{mg:Str->Option Value}{base:Heap}{N:List Str}{qual:Str}{scope:Scope}{f:Addr}{cd:Value}{A:Around}{outer:List Env}{s:Shared}{H:Hp}{E:XK}
theorem ac2 {pins:List (Addr×Obj)}{σ:L2.St}{H1:Hp}{s2:Shared}{a C:Addr}{dd:Option Addr} (I:Inv (w_0 (CXE P w) P w K mg base N qual scope f cd A outer s H E) pins σ H1 s2)
  (fa:H1 a=none) (na:s.heap.get? a=none) (there:(∃ vs,s2.heap.get? a=some (rcd (.ref C) vs dd)/\vs[1]?=some .none)\/∃ T fl,(fl=.none\/fl=rawInt s.heap.objs.size)/\H1 T=none/\s.heap.get? T=none/\Fly s2.heap a T C dd fl) (e:E (.ref C) dd H1) :
  (w_0 (CXE P w) P w K mg base N qual scope f cd A outer s H E).xe (.ref a) s2:=by
 have fs2:s2.heap.FunFrames base (envOfC qual scope s.heap.objs.size f cd::outer):=I.stack;have hfr:(A.deeper (envOfC qual scope s.heap.objs.size f cd)).frames=some (envOfC qual scope s.heap.objs.size f cd::outer):=I.ok.frames;have un:=I.base
 have new0:∀ b,s2.heap.get? b=none->s.heap.get? b=none:=λ b z=>by
  cases q:s.heap.get? b with
  |none=>rfl
  |some o =>
   obtain⟨o',q'⟩:=un.there b o q (by intro y;cases y)
   rw[z] at q';cases q'
 have hL:∀ b o,s.heap.get? b=some o->b≠s.heap.objs.size:=λ b o q=>qp (qk q)
 have fin:∀ (h':Heap) (T:Addr) (es:List Addr),Aw (frs (envOfC qual scope s.heap.objs.size f cd::outer)) es s2.heap h'->(∀ b∈es,H1 b=none/\s.heap.get? b=none)->T∈es->Fly h' a T C dd .none->CXE P w outer H s E (.ref a) {s2 with heap:=h'}:=by
  intro h' T es aw hes hT fl;have off:∀ b o,s.heap.get? b=some o->b∉es:=λ b o q z=>by rw[(hes b z).2] at q;cases q
  refine⟨a,T,C,dd,H1,rfl,I.os,I.bare,⟨λ b o q n hb _=>?_,λ b o q n hb _=>?_,λ b o q n hx=>un.free b o q n hx,λ b o q hx=>?_,un.tups,un.frzs,un.tbls⟩,ai7 I.hok aw (λ b z=>I.stkFree b z) (λ b z=>(hes b z).1),
   na,(hes T hT).2,fa,(hes T hT).1,fl,e⟩
  ·have q1:s2.heap.get? b=some o:=un.keep b o q n hb (by intro z;cases z)
   refine (aw b o q1 (off b o q)).1 λ z=>?_
   rcases qr (show b∈s.heap.objs.size::frs outer from z) with z | z
   ·exact hL b o q z
   ·exact hb z
  ·obtain⟨sl,q1⟩:=un.slot b o q n hb (by intro z;cases z)
   obtain⟨_,sl',q2⟩:=aw b _ q1 (off b o q);exact⟨sl',q2⟩
  ·obtain⟨o',q1⟩:=un.there b o q hx
   obtain⟨_,sl',q2⟩:=aw b _ q1 (off b o q);exact⟨_,q2⟩
 have land:∀ (h':Heap) (T:Addr) (es:List Addr),Aw (frs (envOfC qual scope s.heap.objs.size f cd::outer)) es s2.heap h'->s2.heap.objs.size<=T->(∀ b∈es,H1 b=none/\s.heap.get? b=none)->Fly h' a T C dd (rawInt s.heap.objs.size) ->
   wpAny (model P w) (A.deeper (envOfC qual scope s.heap.objs.size f cd)) (setFlight (.ref a) none) (λ _ s''=>CXE P w outer H s E (.ref a) s'') (λ e' s''=>CXE P w outer H s E e' s'') {s2 with heap:=h'}:=by
  intro h' T es aw zT hes fl;have dT:s2.heap.get? T=none:=Heap.get?_none_of_le zT;refine v_0 fl λ h2 sb fl2=>fin h2 T (T::es) (λ b o q n=>?_) (λ b z=>?_) (by simp) fl2
  ·simp only[List.mem_cons,not_or] at n
   obtain⟨p1,sl,q1⟩:=aw b o q n.2;exact⟨λ m=>(sb.2 b n.1).trans (p1 m),sl,(sb.2 b n.1).trans q1⟩
  ·rcases qr z with rfl | z
   ·exact⟨l_3 I.hok dT,new0 _ dT⟩
   ·exact hes b z
 show wpAny _ _ (leaving _ _) _ _ _;unfold leaving
 rcases there with ⟨vs,ea,h1⟩ | ⟨T,_,rfl | rfl,fT,nT,fl⟩
 ·exact qb (s_2 hfr fs2 rfl ea h1 λ h' T a1 z fl=>land h' T [a] a1 z (by simpa using ⟨fa,na⟩) fl)
 ·exact qb (p_0 hfr fs2 rfl fl λ h' T' a1 z fl'=>land h' T' [a,T] a1 z (by simpa using ⟨⟨fa,na⟩,fT,nT⟩) fl')
 ·exact qb (y_0 rfl fl (v_0 fl λ h2 sb fl2=>fin h2 T [T] (Aw.of λ b o n z=>(sb.2 b (by simpa using n)).trans z) (by simpa using ⟨fT,nT⟩) (by simp) fl2))
def E_4 (X:Cx) (E:XK):Prop:=∀ (pins:List (Addr×Obj)) (σ:L2.St) (H:Hp) (s:Shared) (e C:Addr) (dd:Option Addr) (vs:Array Value),Inv X pins σ H s->H e=none->X.s₀.heap.get? e=none->s.heap.get? e=some (rcd (.ref C) vs dd)->vs[1]?=some .none->E (.ref C) dd H->X.xe (.ref e) s
end
abbrev bmV:List Value:=[.type "ValueError",.type "Exception",.type "BaseException",.type "object"]
end Fx
namespace Fx
open PySem
abbrev XV:=Str×Option (Str×D)
inductive RX where
 |ok (r:Res) | ex (x:XV)
abbrev FX:=En->Option RX
def okX (r:Res):Option RX:=some (.ok r)
def rS (A:FS) (ρ:En):Option RX:=bnd (A ρ) okX
def nxX (B:FX):RX->Option RX
 |.ok (.nx ρ)=>B ρ
 |r=>some r
def am3 (A B:FX) (ρ:En):Option RX:=bnd (A ρ) (nxX B)
def ifX (A B:FX) (p:Bool×En):Option RX:=if p.1=true then A p.2 else B p.2
def rIf (T:FT) (A B:FX) (ρ:En):Option RX:=bnd (T ρ) (ifX A B)
def t_7 (x f:Str) (o:Option (D×En)):Option RX:=bnd o λ p=>some (.ex (x,some (f,p.1)))
def o_6 (x f:Str) (F:FE) (ρ:En):Option RX:=t_7 x f (F ρ)
@[simp] theorem aM5 (x f:Str) (F:FE) (ρ:En):o_6 x f F ρ=t_7 x f (F ρ):=Eq.trans rfl rfl
@[simp] theorem aC1 (x f:Str) (d:D) (ρ:En):t_7 x f (some (d,ρ))=some (.ex (x,some (f,d))):=Eq.trans rfl rfl
def aM3:RX->Option (D ⊕ XV)
 |.ok r=>bnd (aM4 r) λ d=>some (.inl d)
 |.ex x=>some (.inr x)
def fnX (n k:Nat) (B:FX) (ds:List D):Option (D ⊕ XV):=if ds.length=n then bnd (B (ds.map .im++List.replicate k .no)) aM3 else none
@[simp] theorem rS_ (A:FS) (ρ:En):rS A ρ=bnd (A ρ) okX:=Eq.trans rfl rfl
@[simp] theorem bp0 (r:Res):okX r=some (.ok r):=Eq.trans rfl rfl
@[simp] theorem bk9 (B:FX) (ρ:En):nxX B (.ok (.nx ρ))=B ρ:=Eq.trans rfl rfl
@[simp] theorem bk8 (B:FX) (x:XV):nxX B (.ex x)=some (.ex x):=Eq.trans rfl rfl
@[simp] theorem bk2 (A B:FX) (ρ:En):am3 A B ρ=bnd (A ρ) (nxX B):=Eq.trans rfl rfl
@[simp] theorem bm1 (A B:FX) (ρ:En):ifX A B (true,ρ)=A ρ:=Eq.trans rfl rfl
@[simp] theorem bm2 (A B:FX) (ρ:En):ifX A B (false,ρ)=B ρ:=Eq.trans rfl rfl
@[simp] theorem bo9 (T:FT) (A B:FX) (ρ:En):rIf T A B ρ=bnd (T ρ) (ifX A B):=Eq.trans rfl rfl
@[simp] theorem bb8 (d:D) (ρ:En):aM3 (.ok (.rt d ρ))=some (.inl d):=Eq.trans rfl rfl
end Fx
namespace Fx
open PySem PySem.W PySem.Spec PyProof.Rows L2
def XD (K:Frag) (H0 H:Hp):Option (Str×D)->Option Addr->Prop
 |none,none=>True
 |some p,some dx=>∃ v,Rep K H0 p.2 v/\H dx=some (.xd [(p.1,v)])
 |_,_=>False
def PostX (K:Frag) (mg:Str->Option Value) (E:XK) (c:FC) (Dn:Ends) (H0:Hp):RX->Prop
 |.ok r=>Post K c Dn H0 r
 |.ex x=>∀ C dd ρ' σ' H0' H',mg x.1=some (.ref C)->Same H0 H0'->RS K c H0' H' ρ' σ'->XD K H0' H' x.2 dd->E (.ref C) dd H'
theorem PostX.mono {K:Frag}{mg:Str->Option Value}{E:XK}{c:FC}{Dn:Ends}{H0 H1:Hp} (s:Same H0 H1):∀ {r:RX},PostX K mg E c Dn H0 r->PostX K mg E c Dn H1 r
 |.ok _,h=>Post.mono s h
 |.ex _,h=>λ C dd ρ' σ' H0' H' m z=>h C dd ρ' σ' H0' H' m (s.trans z)
def tX (K:Frag) (mg:Str->Option Value) (E:XK) (F:FX):TS:=λ Dn σ H=>∃ c H0 ρ r,RS K c H0 H ρ σ/\F ρ=some r/\PostX K mg E c Dn H0 r
def XX1 (X:Cx) (E:XK) (st:Stmt) (F:FX):Prop:=PS X st (tX X.K X.mg E F)
def XX (X:Cx) (E:XK) (sts:List Stmt) (F:FX):Prop:=PSs X sts (tX X.K X.mg E F)
section
variable {X:Cx}{E:XK}{st:Stmt}{sts:List Stmt}{A B:FX}{S:FS}{T:FT}
theorem ag9 {S:FS}{ρ:En}{r:RX} (h:rS S ρ=some r):∃ z,S ρ=some z/\r=.ok z:=by
 obtain⟨z,h1,h2⟩:=a_0 h;exact⟨z,h1,(qh h2).symm⟩
theorem xxs (h:XS X st S):XX1 X E st (rS S):=PS.wk h λ Dn σ H hh0_=>by
 obtain⟨c,H0,ρ,r,R,f,q⟩:=hh0_;obtain⟨z,h1,rfl⟩:=ag9 f;exact⟨c,H0,ρ,z,R,h1,q⟩
theorem aZ5 (h:XSs X sts S):XX X E sts (rS S):=PSs.wk h λ Dn σ H hh0_=>by
 obtain⟨c,H0,ρ,r,R,f,q⟩:=hh0_;obtain⟨z,h1,rfl⟩:=ag9 f;exact⟨c,H0,ρ,z,R,h1,q⟩
theorem xx1 (h:XX1 X E st A):XX X E [st] A:=m_0 h
theorem xxC (h1:XX1 X E st A) (h2:XX X E sts B):XX X E (st::sts) (am3 A B):=PSs.wk (j_3 h1 h2) λ Dn σ H hh0_=>by
 obtain⟨c,H0,ρ,r,R,f,q⟩:=hh0_;obtain⟨z,h,f⟩:=a_0 f;refine⟨c,H0,ρ,z,R,h,?_⟩
 match z,f with
 |.ok (.nx ρ1),f=>exact λ σ' H0' H' s R'=>⟨c,H0',ρ1,r,R',f,q.mono s⟩
 |.ok (.rt _ _),f=>cases f;exact q
 |.ok (.bk _),f=>cases f;exact q
 |.ok (.ct _),f=>cases f;exact q
 |.ex _,f=>cases f;exact q
theorem aZ6 {c:Expr}{a b:List Stmt}{pos:Pos} (hc:XT X c T) (ha:XX X E a A) (hb:XX X E b B):XX1 X E (.If c a b pos) (rIf T A B):=PS.wk (aa6 hc ha hb) λ Dn σ H hh0_=>by
 obtain⟨c,H0,ρ,r,R,f,q⟩:=hh0_;obtain⟨⟨k,ρ1⟩,h1,f⟩:=a_0 f;refine⟨c,H0,ρ,k,ρ1,R,h1,λ H1 Hh s1 R1=>?_⟩
 cases k with
 |true=>rw[if_pos rfl];exact⟨c,H1,ρ1,r,R1,f,q.mono s1⟩
 |false=>rw[if_neg Bool.false_ne_true];exact⟨c,H1,ρ1,r,R1,f,q.mono s1⟩
end
def bm6 (K:Frag) (mg:Str->Option Value) (Hi H:Hp) (Q:VK) (E:XK):D ⊕ XV->Prop
 |.inl d=>∀ v Hi' H',Step Hi H Hi' H'->Rep K Hi' d v->Q v H'
 |.inr x=>∀ C dd Hi' H',mg x.1=some (.ref C)->Step Hi H Hi' H'->XD K Hi' H' x.2 dd->E (.ref C) dd H'
def spX (K:Frag) (mg:Str->Option Value) (g:List D->Option (D ⊕ XV)):Sp:=λ vs H Q E=>∃ Hi ds r,Same Hi H/\Reps K Hi ds vs/\g ds=some r/\bm6 K mg Hi H Q E r
structure DefX (P:Program) (w:World) (K:Frag) (mg:Str->Option Value) (base:Heap) (k:Nat) (x:Str) (g:List D->Option (D ⊕ XV)):Prop where
 ex:∃ f fd ps,FnOk P w K mg base (CXE P w) k f fd ps (spX K mg g)/\Binds K fd ps []/\keepIn K (.ref f)=true/\mg x=some (.ref f)
theorem aH2 {P:Program}{w:World}{K:Frag}{mg:Str->Option Value}{base:Heap}{x qual:Str}{st:Stmt}{f:Addr}{fd:FuncData}{N ps:List Str}{k n m:Nat}{B:FX} (F:Fun K x qual st f fd) (S:FnScope N ps (a_1 st)) (hn:ps.length=n) (hN:N.length=n+m)
  (hb:∀ (cdv:Value) (A:Around) (outer:List Env) (s:Shared) (H:Hp) (E:XK),Room k (A.deeper (envOfC qual (a_1 st) s.heap.objs.size f cdv))->XX (w_0 (CXE P w) P w K mg base N qual (a_1 st) f cdv A outer s H E) E (e_3 st) B) :
  FnOk P w K mg base (CXE P w) (k+1) f fd ps (spX K mg (fnX n m B)):=by
 have inv:∀ {ds:List D}{r:D ⊕ XV},fnX n m B ds=some r->ds.length=n/\∃ z,B (ds.map .im++List.replicate m .no)=some z/\aM3 z=some r:=λ {ds r} h=>by
  unfold fnX at h
  split at h
  ·rename_i hl
   obtain⟨z,h1,h2⟩:=a_0 h;exact⟨hl,z,h1,h2⟩
  ·cases h
 obtain⟨oc,od,kV,doc,pm,an,cdv,ct,osl,rfl,lk,hcd⟩:=F.ex;refine ar1 lk hcd S (λ vs H Q E h=>?_) λ A outer s H vs Q E hr h=>?_
 ·obtain⟨Hi,ds,d,_,r,e,_⟩:=h
  rw[hn,<- r.length];exact (inv e).1
 ·obtain⟨Hi,ds,d,hs,r,e,q⟩:=h
  obtain⟨hl,z,h1,h2⟩:=inv e;refine⟨_,hb cdv A outer s H E hr,⟨Hi,H,[]⟩,Hi,_,z,RS.start (n:=N.length) (m:=m) hs r (by rw[<- r.length];omega),h1,?_⟩
  match z,h2 with
  |.ok (.nx _),h2=>cases h2;exact λ σ' H0' H' s0 R=>q .non H0' H' R.step (by unfold Rep;rfl)
  |.ok (.rt _ _),h2=>cases h2;exact λ v σ' H0' H' s0 R rv=>q v H0' H' R.step rv
  |.ok (.bk _),h2=>cases h2
  |.ok (.ct _),h2=>cases h2
  |.ex _,h2=>cases h2;exact λ C dd ρ' σ' H0' H' m s0 R xd=>q C dd H0' H' m R.step xd
section
variable {X:Cx}{pins:List (Addr×Obj)}{σ:L2.St}{H:Hp}{s:Shared}{a:Addr}{o:Obj}
abbrev g_3 (X:Cx) (a:Addr) (o:Obj):Cx:={X with pn:=(a,o)::X.pn}
theorem aU2 (k:X.Ok):(g_3 X a o).Ok:=⟨k.mod,k.kind,k.glob,k.blt,k.above,k.inj,k.has,k.cab,k.hd,k.frames,k.stk,k.exf,k.bs,k.bsz,k.noex,k.exfs,k.funs,k.frf⟩
theorem aP2 (k:(g_3 X a o).Ok):X.Ok:=⟨k.mod,k.kind,k.glob,k.blt,k.above,k.inj,k.has,k.cab,k.hd,k.frames,k.stk,k.exf,k.bs,k.bsz,k.noex,k.exfs,k.funs,k.frf⟩
theorem av9 (I:Inv X pins σ H s) (q:s.heap.get? a=some o) (n:H a=none) (nL:a≠X.env.locals) (nf:a∉X.fs) (d:∀ v,o.data≠.cell v):Inv X ((a,o)::pins) σ H s :=
 ⟨I.ok,I.os,I.bare,I.base,I.loc,I.cell,I.free,I.freeC,λ p hp=>by
  rcases qt hp with z | z
  ·exact I.pin p (List.mem_append.mpr (.inl z))
  ·rcases qr z with rfl | z
   ·exact⟨q,n,nL,nf,d⟩
   ·exact I.pin p (List.mem_append.mpr (.inr z)),I.hok,I.len⟩
theorem aP4 (I:Inv X ((a,o)::pins) σ H s):Inv (g_3 X a o) pins σ H s :=
 ⟨aU2 I.ok,I.os,I.bare,I.base,I.loc,I.cell,I.free,I.freeC,λ p hp=>I.pin p (by simp at hp ⊢;rcases hp with rfl | z | z <;> simp[*]),I.hok,I.len⟩
theorem G_8 (I:Inv (g_3 X a o) pins σ H s):Inv X pins σ H s :=
 ⟨aP2 I.ok,I.os,I.bare,I.base,I.loc,I.cell,I.free,I.freeC,λ p hp=>I.pin p (qg _ hp),I.hok,I.len⟩
theorem az8 {D:Ends}{f:Flow}{s':Shared} (h:SP (g_3 X a o) pins D f s'):SP X pins D f s':=by
 cases f with
 |next=>obtain⟨σ',H',I,q⟩:=h;exact⟨σ',H',G_8 I,q⟩
 |brk=>obtain⟨σ',H',I,q⟩:=h;exact⟨σ',H',G_8 I,q⟩
 |cont=>obtain⟨σ',H',I,q⟩:=h;exact⟨σ',H',G_8 I,q⟩
 |ret u=>obtain⟨v,σ',H',I,r,q⟩:=h;exact⟨v,σ',H',G_8 I,r,q⟩
abbrev D_1 (X:Cx) (a:Addr) (E:Value->Shared->Prop):Cx:={X with A:=X.A.mark (some (.ref a)),calm:=false,xe:=E}
theorem H_9 {E:Value->Shared->Prop} (I:Inv X pins σ H s) (b:Addr):Inv (D_1 X b E) pins σ H s :=
 let k:=I.ok
 ⟨⟨k.mod,k.kind,k.glob,k.blt,k.above,k.inj,k.has,k.cab,(λ z=>nomatch z),k.frames,k.stk,k.exf,k.bs,k.bsz,k.noex,k.exfs,k.funs,k.frf⟩,I.os,I.bare,I.base,I.loc,I.cell,I.free,I.freeC,I.pin,I.hok,I.len⟩
theorem Y_9 {E:Value->Shared->Prop}{b:Addr} (ok:X.Ok) (I:Inv (D_1 X b E) pins σ H s):Inv X pins σ H s :=
 ⟨ok,I.os,I.bare,I.base,I.loc,I.cell,I.free,I.freeC,I.pin,I.hok,I.len⟩
theorem ac8 {i:Nat}{x:Str}{h':Heap}{v:Option Value}{t':Nat}{m:Str->Option Value} (I:Inv X pins σ H s) (hN:X.N.Nodup) (hi:X.N[i]?=some x) (hm:s.heap.Ns X.env.locals m) (hn:h'.Ns X.env.locals (λ y=>if y=x then v else m y)) (sb:Heap.SameBut X.env.locals s.heap h') :
  Inv X pins (σ.set i none) H {s with heap:=h',toks:=t'}:=by
 have alt:∀ b o,X.s₀.heap.get? b=some o->b≠X.env.locals:=λ b o q=>qp (qo (qk q) I.ok.above)
 refine⟨I.ok,I.os,I.bare,⟨λ b o e n hb hx=>(sb.2 b (alt b o e)).trans (I.base.keep b o e n hb hx),λ b o e n hb hx=>?_,I.base.free,λ b o e hx=>?_,I.base.tups,I.base.frzs,I.base.tbls⟩,?_,λ y c e=>?_,I.free,I.freeC,λ p hp=>?_,λ b u e=>?_,by simpa using I.len⟩
 ·obtain⟨sl,q⟩:=I.base.slot b o e n hb hx
  exact⟨sl,(sb.2 b (alt b o e)).trans q⟩
 ·obtain⟨o',q⟩:=I.base.there b o e hx
  exact⟨o',(sb.2 b (alt b o e)).trans q⟩
 ·obtain⟨m1,hm1,hl⟩:=I.loc
  obtain⟨oL,es1,ep1,q1,d1,k1,f1⟩:=hm1;obtain⟨oL',es2,ep2,q2,d2,k2,f2⟩:=hm;rw[q1] at q2;cases q2;rw[d1] at d2;cases d2;have mm:m=m1:=funext λ y=>(f2 y).symm.trans (f1 y)
  subst mm;refine⟨_,hn,λ j y u e1 e2 e3=>?_⟩
  by_cases hj:j=i
  ·subst hj
   rw[List.getElem?_set_self (by rw[I.len];exact (List.getElem?_eq_some_iff.mp hi).1)] at e2
   cases e2
  ·rw[List.getElem?_set_ne (Ne.symm hj)] at e2
   obtain⟨w,r,l⟩:=hl j y u e1 e2 e3;have ne:y≠x:=λ z=>hj (u_5 hN e1 (z▸hi))
   refine⟨w,r,?_⟩
   rcases l with ⟨k,e⟩ | ⟨k,c,e,z⟩
   ·exact .inl ⟨k,by simp[ne,e]⟩
   ·exact .inr ⟨k,c,e,z.sameBut sb (I.cne y c e)⟩
 ·obtain⟨w,z⟩:=I.cell y c e
  exact⟨w,z.sameBut sb (I.cne y c e)⟩
 ·obtain⟨q,n,ne,nf,d⟩:=I.pin p hp
  exact⟨(sb.2 p.1 ne).trans q,n,ne,nf,d⟩
 ·refine (I.hok b u e).stay (λ c w hc q=>(sb.2 c λ z=>?_).trans q) (λ _ q=>q) λ _ _ q=>q
  subst z;have hfree:=I.free
  rcases hc with rfl | hc
  ·rw[hfree] at e;cases e
  ·rw[hfree] at hc;cases hc
end
section
variable {X:Cx}{k:Nat}{x:Str}{g:List D->Option (D ⊕ XV)}{e0:Expr}{es:List Expr}{A:FA}{p pos:Pos}
def bh0 (X:Cx) (pins:List (Addr×Obj)) (σ:L2.St) (c:FC) (H0:Hp) (ρ':En) (y:XV) (e:Value) (s':Shared):Prop :=
 ∃ C a T dd H0' H',X.mg y.1=some (.ref C)/\e=.ref a/\Inv X pins σ H' s'/\Same H0 H0'/\RS X.K c H0' H' ρ' σ/\N_7 X pins H' a/\N_7 X pins H' T/\Fly s'.heap a T C dd .none/\XD X.K H0' H' y.2 dd
theorem aH8 (hf:∀ e s,X.xe e s → False) (G:DefX X.prog X.w X.K X.mg X.base k x g) (hr:Room k X.A) (ha:XA X (e0::es) A) (hg:Gl X x) (hdb:(x==("__debug__":Str))=false)
  (he:starEach (e0::es) X.env=(false,eval e0 X.env)::starEach es X.env) (hpl:(backTo pos (starEach es X.env)).any (·.1)=false)
  {pins:List (Addr×Obj)}{s:Shared}{σ:L2.St}{H H0:Hp}{c:FC}{ρ ρ':En}{ds:List D}{r:D ⊕ XV} (I:Inv X pins σ H s) (R:RS X.K c H0 H ρ σ) (h1:A ρ=some (ds,ρ')) (h2:g ds=some r) :
  wpAny (model X.prog X.w) X.A (eval (.Call (.Name x p) (e0::es) [] pos) X.env) (λ _ s'=>(∃ d,r=.inl d)/\∃ H0' H',Inv X pins σ H' s'/\Same H0 H0'/\RS X.K c H0' H' ρ' σ) (λ e s'=>∃ y,r=.inr y/\bh0 X pins σ c H0 ρ' y e s') s:=by
 obtain⟨f,fd,ps,Fk,hb,hk,hm⟩:=G.ex;refine wpAny_Call_Name_kw (h_4 I hg hm ?_ hdb);refine callWith_K (h₀:=X.base) I.ok.mod.kin hk (wpAny_mono (ha pos pins s σ H (λ vs H'=>∃ H0',Same H0 H0'/\RS X.K c H0' H' ρ' σ/\Reps X.K H0' ds vs) I ⟨c,H0,ρ,ds,ρ',R,h1,λ vs H0' H' a b d=>⟨H0',a,b,d⟩⟩) (λ us s1 h=>?_) λ e s1 z=>(hf e s1 z).elim) he hpl
 obtain⟨vs,H1,I1,rv,H0',sm,R1,rp⟩:=h;refine⟨I1.kIn,?_⟩
 have sp:spX X.K X.mg g vs H1 (λ _ H'=>(∃ d,r=.inl d)/\∃ H0'',Same H0 H0''/\RS X.K c H0'' H' ρ' σ) (λ cl dd H'=>∃ y C H0'',r=.inr y/\X.mg y.1=some (.ref C)/\cl=.ref C/\Same H0 H0''/\RS X.K c H0'' H' ρ' σ/\XD X.K H0'' H' y.2 dd):=by
  refine⟨H0',ds,r,R1.same,rp,h2,?_⟩;cases r with
  |inl d=>exact λ v Hi' H' S _=>⟨⟨d,rfl⟩,Hi',sm.trans S.s0,R1.after S⟩
  |inr y=>exact λ C dd Hi' H' m S xd=>⟨y,C,Hi',rfl,m,rfl,sm.trans S.s0,R1.after S,xd⟩
 have hl:us.length=ps.length:=by rw[<- rv.length];exact Fk.len _ _ _ _ sp
 have hbi:=hb s1 us I1.kIn (by rw[List.append_nil];exact hl)
 rw[List.append_nil] at hbi;refine wpAny_call (codeAny_mono (Fk.run X.A X.stack s1 H1 ⟨us,[]⟩ us vs _ _ hr I1.env0 hbi rv sp) λ z s' hq=>?_)
 cases z with
 |error e =>
  obtain⟨a,T,C,dd,H',rfl,os,gs,un,ok,na,nT,fa,fT,fl,y,C',H0'',hy,m,z,sm',R',xd⟩:=hq;cases z;obtain⟨hh,gg,d,t,os'⟩:=s';obtain rfl:os'=s1.os:=os;have I2:=I1.call (h':=hh) (g':=gg) (d':=d) (t':=t) (ch:=[]) un ok gs (λ b z=>absurd z (by simp))
  exact⟨y,hy,C,a,T,dd,H0'',H',m,rfl,I2,sm',R',S_3 I1 na fa,S_3 I1 nT fT,fl,xd⟩
 |ok fl =>
  cases fl with
  |ret u =>
   obtain⟨v,H',I2,_,hd,H0'',sm',R'⟩:=I1.after hq;exact⟨hd,H0'',H',I2,sm',R'⟩
  |next=>exact False.elim hq
  |brk=>exact False.elim hq
  |cont=>exact False.elim hq
def aZ2 (X:Cx) (ie ik:Nat) (rest:List Stmt) (Dn:Ends) (σ:L2.St) (C:Addr) (dd:Option Addr) (H:Hp):Prop :=
 ∀ a vs,∃ t,PSs (g_3 X a (rcd (.ref C) vs dd)) rest t/\t Dn (((σ.set ik (some (.ref a))).set ie (some (.ref a))).set ik none) H
theorem W_1 {pins:List (Addr×Obj)}{s:Shared}{σ:L2.St}{c:FC}{H0:Hp}{ρ':En}{y:XV}{wn xe xk:Str}{W:Addr}{ie ik:Nat}{Dn:Ends}{rest:List Stmt}{e:Value}{p1 p2 p3 p4 p5:Pos}
  (hst:X.stack=X.env::X.outer) (hfr:X.env.frame=some X.env.locals) (hN:X.N.Nodup) (hie:X.N[ie]?=some xe) (hik:X.N[ik]?=some xk) (le:X.env.scope.names.lookup xe=some .local) (lk:X.env.scope.names.lookup xk=some .local)
  (hg:Gl X wn) (hW:X.mg wn=some (.ref W)) (hwd:(wn==("__debug__":Str))=false) (hkd:(xk==("__debug__":Str))=false) (hkc:(xk==("__classdict__":Str))=false) (hex:∀ C,X.mg y.1=some (.ref C) → exmOne X.K (.ref C) (.ref W)=some true)
  (hsw:swapsWith (.Name xk p3) (some (.Name xe p2)) p4.line X.env=pure false)
  (q:∀ C dd H0' H',X.mg y.1=some (.ref C)->Same H0 H0'->RS X.K c H0' H' ρ' σ->XD X.K H0' H' y.2 dd->aZ2 X ie ik rest Dn σ C dd H') (h:bh0 X pins σ c H0 ρ' y e s) :
  wpAny (model X.prog X.w) X.A (noteFrame e X.env) (λ _ s₂=>wpAny (model X.prog X.w) X.A (setFlight e none) (λ _ s₃ =>
   wpAny (model X.prog X.w) X.A (handleBy e X.env [.ExceptHandler (some (.Name wn p1)) (some xk) [.Assign [.Name xe p2] (.Name xk p3) p4] p5]) (λ f s4=>match f with | .next=>wpAny (model X.prog X.w) X.A (execs rest X.env) (SP X pins Dn) X.xe s4 | f=>SP X pins Dn f s4) X.xe s₃) X.xe s₂) X.xe s:=by
 obtain⟨C,a,T,dd,H0',H',m,rfl,I1,sm,R,ya,yT,fl,xd⟩:=h;have fr:=I1.ok.frames;rw[hst] at fr;have st:=I1.stack;rw[hst] at st;refine p_0 fr st hfr fl λ h2 T2 aw2 z2 fl2=>?_
 rw[<- hst] at aw2;have I2:=s_7 (t':=s.toks) I1 aw2 (by simpa using ⟨ya,yT⟩)
 have d2:s.heap.get? T2=none:=Heap.get?_none_of_le z2;have y2:N_7 X pins H' T2:=S_3 I1 d2 (l_3 I1.hok d2);refine v_0 fl2 λ h3 sb3 fl3=>?_
 have I3:=s_7 (t':=s.toks) (es:=[T2]) (h':=h3) I2 (Aw.of λ b o n z=>(sb3.2 b (by simpa using n)).trans z) (by simpa using y2)
 refine wpAny_handleBy_cons (codeAny_handlers_test (h_4 (H_9 (E:=X.xe) I3 a) hg hW ?_ hwd)) (by intro z;cases z)
 have L0:Looks (model X.prog X.w) h3 (typeOf (.ref a)) (.ref C):=by
  obtain⟨_,⟨vs,q1,_⟩,_⟩:=fl3;exact (Looks.ld q1).andThen .now
 refine (exm_one I3.kIn L0 (hex C m)).at ?_;refine codeAny_handlers_suite_as (v_0 fl3 λ h4 sb4 fl4=>?_)
 have I4:=s_7 (t':=s.toks) (es:=[T2]) (h':=h4) I3 (Aw.of λ b o n z=>(sb4.2 b (by simpa using n)).trans z) (by simpa using y2)
 obtain⟨_,⟨vs,q4,_⟩,_⟩:=id fl4;have nf:a∉X.fs:=λ z=>H_1 (s:={s with heap:=h4}) I4.funs q4 z
 have I5:=av9 (a:=a) (o:=rcd (.ref C) vs dd) I4 q4 ya.1 ya.2.1 nf (λ v z=>nomatch z)
 refine t_2 (v:=.ref a) I5 hN hik (.inl lk) rfl (λ s5 I6=>?_) (.inr lk)
 have go:=m_0 (X:=D_1 X a λ _ _=>False) (x_2 (i:=ie) (pos:=p4) (pos':=p2) hN hie (.inl le) (pv ik (pos:=p3) hik (Or.inl lk) hkd hkc) hsw (.inr le))
 have hlen:ik<σ.length:=by rw[I1.len];exact (List.getElem?_eq_some_iff.mp hik).1
 refine wpAny_mono (go _ s5 _ H' {nx:=λ σ' H''=>H''=H'/\σ'=(σ.set ik (some (.ref a))).set ie (some (.ref a)),rt:=λ _ _=>False} (H_9 I6 a) ⟨.ref a,List.getElem?_set_self hlen,rfl,rfl⟩) (λ f s6 h6=>?_) λ _ _ z=>z.elim
 cases f with
 |brk=>obtain⟨_,_,_,z⟩:=h6;exact z.elim
 |cont=>obtain⟨_,_,_,z⟩:=h6;exact z.elim
 |ret u=>obtain⟨_,_,_,_,_,z⟩:=h6;exact z.elim
 |next =>
  obtain⟨σ6,H6,I7,rfl,rfl⟩:=h6;have I8:=Y_9 I1.ok I7;obtain⟨m8,hm8,_⟩:=id I8.loc;refine wpAny_nameGoes_keeps lk hm8 (by rw[I8.ok.kind];rfl) λ h9 v hn9 sb9=>?_
  have I9:=aP4 (ac8 (t':=s6.toks+1) I8 hN hik hm8 hn9 sb9);obtain⟨t,ht,hq⟩:=q C dd H0' H6 m sm R xd a vs;exact wpAny_mono (ht pins _ _ H6 Dn I9 hq) (λ f s' z=>az8 z) λ _ _ z=>z
theorem an1 {OK:Str->Prop}{wn xe xk:Str}{W:Addr}{ie ik:Nat}{rest:List Stmt}{tN:TS}{p1 p2 p3 p4 p5 p6 p7:Pos} (hf:∀ e s,X.xe e s->False) (G:DefX X.prog X.w X.K X.mg X.base k x g) (hr:Room k X.A) (ha:XA X (e0::es) A)
  (hst:X.stack=X.env::X.outer) (hfr:X.env.frame=some X.env.locals) (hN:X.N.Nodup) (hie:X.N[ie]?=some xe) (hik:X.N[ik]?=some xk) (le:X.env.scope.names.lookup xe=some .local) (lk:X.env.scope.names.lookup xk=some .local)
  (hg':Gl X wn) (hW:X.mg wn=some (.ref W)) (hex:∀ y C,X.mg y=some (.ref C)->OK y->exmOne X.K (.ref C) (.ref W)=some true) (hs:PSs X rest tN)
  (hsw:swapsWith (.Name xk p3) (some (.Name xe p2)) p4.line X.env=pure false:=by rfl) (hse:swapsWith (.Call (.Name x p) (e0::es) [] pos) none p6.line X.env=pure false:=by rfl)
  (hwd:(wn==("__debug__":Str))=false:=by decide) (hkd:(xk==("__debug__":Str))=false:=by decide) (hkc:(xk==("__classdict__":Str))=false:=by decide) (hg:Gl X x:=by rfl) (hdb:(x==("__debug__":Str))=false:=by decide)
  (he:starEach (e0::es) X.env=(false,eval e0 X.env)::starEach es X.env:=by rfl) (hpl:(backTo pos (starEach es X.env)).any (·.1)=false:=by rfl) :
  PSs X (.Try [.Expr (.Call (.Name x p) (e0::es) [] pos) p6] [.ExceptHandler (some (.Name wn p1)) (some xk) [.Assign [.Name xe p2] (.Name xk p3) p4] p5] [] [] p7::rest)
   (λ Dn σ H=>∃ c H0 ρ ds ρ' r,RS X.K c H0 H ρ σ/\A ρ=some (ds,ρ')/\g ds=some r/\match r with
    |.inl _=>∀ H0' H',Same H0 H0'->RS X.K c H0' H' ρ' σ->tN Dn σ H'
    |.inr y=>OK y.1/\∀ C dd H0' H',X.mg y.1=some (.ref C)->Same H0 H0'->RS X.K c H0' H' ρ' σ->XD X.K H0' H' y.2 dd->aZ2 X ie ik rest Dn σ C dd H'):=by
 intro pins s σ H Dn I ⟨c,H0,ρ,ds,ρ',r,R,h1,h2,q⟩;refine wpAny_execs_cons (wpAny_Try_except (wpAny_execs_cons (wpAny_Expr_any (wpAny_mono (aH8 hf G hr ha hg hdb he hpl I R h1 h2) (λ v s1 z=>?_) λ e s1 z=>?_) I.quiet hse)))
 ·obtain⟨⟨d,rfl⟩,H0',H',I1,sm,R1⟩:=z
  exact wpAny_execs_nil (wpAny_execs_nil (hs pins s1 σ H' Dn I1 (q H0' H' sm R1)))
 ·obtain⟨y,rfl,z⟩:=z
  exact W_1 hst hfr hN hie hik le lk hg' hW hwd hkd hkc (λ C m=>hex y.1 C m q.1) hsw q.2 z
end
theorem aJ8 {K:Frag}{c:Addr}{v:Value}{b:Bool} (h:mroIn K c v=some b):(clsIn K c).isSome=true:=by
 unfold mroIn at h;cases e:clsIn K c with
 |none=>rw[e] at h;cases h
 |some d=>rfl
def XTr (H:Hp):Option Addr->Prop
 |none=>True
 |some dx=>∃ fs,H dx=some (.xd fs)
section
variable {X:Cx}{a C:Addr}{vs:Array Value}{dd:Option Addr}{x:Str}{p pos:Pos}
theorem aq7 {pins:List (Addr×Obj)}{σ:L2.St}{H:Hp}{s:Shared} (I:Inv (g_3 X a (rcd (.ref C) vs dd)) pins σ H s) (t:XTr H dd):∃ od,InstAt s.heap a (rcd (.ref C) vs dd) C od:=by
 have q:=(I.pin (a,rcd (.ref C) vs dd) (qf)).1;cases dd with
 |none=>exact⟨none,q,rfl,rfl,trivial⟩
 |some dx =>
  obtain⟨fs,e⟩:=t;obtain⟨mA,⟨o,_,_,q2,_⟩,_⟩:=(show ObjOk _ _ H s.heap dx (.xd fs) from I.hok dx _ e);exact⟨some o,q,rfl,rfl,q2⟩
theorem ae5 {b:Bool}{u:Value}{v:V} (f:XC X.K C) (ru:∀ w,RelV v w → w=u) (hk:kitOne X.K (.ref C) u=some b):CallR (g_3 X a (rcd (.ref C) vs dd)) (.builtin "isinstance") (λ xs H Q=>xs=[.ref a,v] ∧ XTr H dd ∧ Q (.bl b) H):=by
 intro pins s σ H xs us Q I r h;obtain⟨rfl,xt,q⟩:=h;obtain⟨u1,u2,rfl,r1,r2⟩:=ak8 r;obtain rfl:u1=.ref a:=r1;obtain rfl:=ru u2 r2;obtain⟨od,ia⟩:=aq7 I xt;exact kia_one f.kitx I.kIn ia hk (λ z=>nomatch z) λ tk=>⟨.bl b,H,I.tok tk,rfl,q⟩
theorem ah6 {Y:Cx}{D:Addr} (hm:Y.mg x=some (.ref D)) (hg:Gl Y x:=by rfl) (hd:(x==("__debug__":Str))=false:=by decide):PE Y (.Name x p) (tC (.ref D)):=λ pins s σ H Q I h=>h_4 I hg hm ⟨.ref D,H,I,rfl,h⟩ hd
end
end Fx
namespace Fx
open PySem
def goX (G:FX):RX->Option RX
 |.ok (.nx ρ)=>G ρ
 |.ok (.ct ρ)=>G ρ
 |.ok (.bk ρ)=>some (.ok (.nx ρ))
 |z=>some z
def xGo (g:D->En->Option En) (B:FX):List D->FX
 |[],ρ=>some (.ok (.nx ρ))
 |d::r,ρ=>bnd (g d ρ) λ ρ1=>bnd (B ρ1) λ z=>goX (xGo g B r) z
theorem O_4 (g:D->En->Option En) (B:FX) (ρ:En):xGo g B [] ρ=some (.ok (.nx ρ)):=rfl
theorem t_0 (g:D->En->Option En) (B:FX) (d:D) (r:List D) (ρ:En):xGo g B (d::r) ρ=bnd (g d ρ) λ ρ1=>bnd (B ρ1) λ z=>goX (xGo g B r) z:=rfl
end Fx
namespace Fx
open PySem PySem.W PySem.Spec PyProof.Rows L2
def Flt (X:Cx) (E:XK) (e:Value) (s':Shared):Prop:=∃ σ H1 a C dd,e=.ref a/\Inv X [] σ H1 s'/\H1 a=none/\X.s₀.heap.get? a=none /\
 ((∃ vs,s'.heap.get? a=some (rcd (.ref C) vs dd)/\vs[1]?=some .none)\/∃ T fl,(fl=.none\/fl=rawInt X.env.locals)/\H1 T=none/\X.s₀.heap.get? T=none/\Fly s'.heap a T C dd fl)/\E (.ref C) dd H1
section
variable {X:Cx}{E:XK}
theorem H_0 {σ:L2.St}{H:Hp}{s:Shared}{a:Addr}{c:Value}{vs:Array Value}{dd:Option Addr} (hp:X.pn=[]) (I:Inv X [] σ H s) (q:s.heap.get? a=some (rcd c vs dd)) (h:H a=none) (n:X.s₀.heap.get? a=none):N_7 X [] H a:=by
 refine⟨h,λ z=>?_,.inr n,λ x c' e z=>?_,λ p m=>?_⟩
 ·obtain⟨m,⟨o,es,ep,q2,d,_⟩,_⟩:=I.loc
  rw[<- z,q] at q2;cases q2;cases d
 ·obtain⟨v,o,q2,d⟩:=I.cell x c' e
  rw[z,q] at q2;cases q2;cases d
 ·rw[hp] at m
  cases m
theorem ar2 (hst:X.stack=X.env::X.outer) (hfr:X.env.frame=some X.env.locals) (hx:X.ex=[]) (hp:X.pn=[]):PassesOwn (model X.prog X.w) X.A X.env (Flt X E):=by
 rintro e s' ⟨σ,H1,a,C,dd,rfl,I,fa,na,th,q⟩;have fr:=I.ok.frames;rw[hst] at fr;have st:=I.stack;rw[hst] at st
 have new0:∀ b,s'.heap.get? b=none->X.s₀.heap.get? b=none:=λ b z=>by
  cases w:X.s₀.heap.get? b with
  |none=>rfl
  |some o =>
   obtain⟨o',w'⟩:=I.base.there b o w (by rw[hx];intro y;cases y)
   rw[z] at w';cases w'
 have on:∀ (h':Heap) (T:Addr),Inv X [] σ H1 {s' with heap:=h'}->H1 T=none->X.s₀.heap.get? T=none->Fly h' a T C dd (rawInt X.env.locals)->cameBackBy (model X.prog X.w) X.A X.env (Flt X E) (.ref a) {s' with heap:=h'}:=λ h' T I' fT nT fl=>by
  unfold cameBackBy;rw[hfr];refine aH4 fl λ h2 sb fl2=>⟨σ,H1,a,C,dd,rfl,?_,fa,na,.inr ⟨T,_,.inr rfl,fT,nT,fl2⟩,q⟩
  obtain⟨_,_,ts,ht,_⟩:=id fl;exact s_7 (t':=s'.toks) (es:=[T]) (h':=h2) I' (Aw.of λ b o n z=>(sb.2 b (by simpa using n)).trans z) (by simpa using H_0 (s:={s' with heap:=h'}) hp I' ht fT nT)
 unfold notedBy
 rcases th with ⟨vs,ea,h1⟩ | ⟨T,_,rfl | rfl,fT,nT,fl⟩
 ·refine s_2 fr st hfr ea h1 λ h' T aw z fl=>?_
  have dT:s'.heap.get? T=none:=Heap.get?_none_of_le z;rw[<- hst] at aw;exact on h' T (s_7 (t':=s'.toks) I aw (by simpa using H_0 hp I ea fa na)) (l_3 I.hok dT) (new0 T dT) fl
 ·obtain⟨_,⟨vs,ea,_⟩,ts,ht,_⟩:=id fl
  refine p_0 fr st hfr fl λ h' T' aw z fl'=>?_
  have dT:s'.heap.get? T'=none:=Heap.get?_none_of_le z;rw[<- hst] at aw;exact on h' T' (s_7 (t':=s'.toks) I aw (by simpa using ⟨H_0 hp I ea fa na,H_0 hp I ht fT nT⟩)) (l_3 I.hok dT) (new0 T' dT) fl'
 ·exact y_0 hfr fl (on s'.heap T I fT nT fl)
end
section
variable {P:Program}{w:World}{K:Frag}{mg:Str->Option Value}{base:Heap}{N:List Str}{qual:Str}{scope:Scope}{f:Addr}{cd:Value}{A:Around}{outer:List Env}{s:Shared}{H:Hp}{E:XK}
abbrev cxY (P:Program) (w:World) (K:Frag) (mg:Str->Option Value) (base:Heap) (N:List Str) (qual:Str) (scope:Scope) (f:Addr) (cd:Value) (A:Around) (outer:List Env) (s:Shared) (H:Hp) (E:XK):Cx :=
 (w_0 (CXE P w) P w K mg base N qual scope f cd A outer s H E).wish (Flt (w_0 (CXE P w) P w K mg base N qual scope f cd A outer s H E) E)
theorem aT4:PassesOwn (model P w) (cxY P w K mg base N qual scope f cd A outer s H E).A (cxY P w K mg base N qual scope f cd A outer s H E).env (cxY P w K mg base N qual scope f cd A outer s H E).xe :=
 ar2 (X:=w_0 (CXE P w) P w K mg base N qual scope f cd A outer s H E) rfl rfl rfl rfl
theorem w_9:E_4 (cxY P w K mg base N qual scope f cd A outer s H E) E:=λ pins σ H1 s1 e C dd vs I fe ne he h1 q=>⟨σ,H1,e,C,dd,rfl,(I.pins_of (pins':=[]) λ p z=>nomatch z).unwish,fe,ne,.inl ⟨vs,he,h1⟩,q⟩
theorem ap7 {sts:List Stmt}{t:TS} (h:PSs (cxY P w K mg base N qual scope f cd A outer s H E) sts t):PSs (w_0 (CXE P w) P w K mg base N qual scope f cd A outer s H E) sts t:=λ pins s1 σ H1 D I hw =>
 wpAny_mono (h pins s1 σ H1 D (I.wish _) hw) (λ _ _ q=>q.unwish) λ e s' hh0_=>by
  obtain⟨σ,H1,a,C,dd,ea,I,fa,na,th,q⟩:=hh0_;subst ea;exact ac2 I fa na th q
end
theorem aH1 {P:Program}{w:World}{K:Frag}{mg:Str->Option Value}{base:Heap}{x qual:Str}{st:Stmt}{f:Addr}{fd:FuncData}{N ps:List Str}{k n m:Nat}{B:FX} (F:Fun K x qual st f fd) (S:FnScope N ps (a_1 st)) (hn:ps.length=n) (hN:N.length=n+m)
  (hb:∀ (cdv:Value) (A:Around) (outer:List Env) (s:Shared) (H:Hp) (E:XK),Room k (A.deeper (envOfC qual (a_1 st) s.heap.objs.size f cdv))->XX (cxY P w K mg base N qual (a_1 st) f cdv A outer s H E) E (e_3 st) B) :
  FnOk P w K mg base (CXE P w) (k+1) f fd ps (spX K mg (fnX n m B)):=aH2 F S hn hN λ cdv A outer s H E hr=>ap7 (hb cdv A outer s H E hr)
section
variable {X:Cx}{E:XK}{A:FA}{B:FX}{F:FE}{k:Nat}{x:Str}{g:List D->Option (D ⊕ XV)}{e0:Expr}{es:List Expr}{p pos p6:Pos}
theorem ao1:A_5 (CXE X.prog X.w) X E0:=λ _ _ _ _ _ _ _ ⟨_,_,_,_,_,_,_,_,_,_,_,_,_,_,_,q⟩=>q.elim
end
end Fx
namespace Fx
open PySem PySem.W PySem.Spec PyProof.Rows L2 Builtin.ObjectAttr
def C_2:List Value->Bool
 |[]=>false
 |v::r=>v::r==bmV||match v with
  |.ref _=>C_2 r
  |_=>false
theorem aE4 {v:Value}{r:List Value} (h:C_2 (v::r)=true):v::r=bmV\/∃ c,v=.ref c/\C_2 r=true:=by
 rcases Bool.or_eq_true_iff.mp h with h | h
 ·exact .inl (beq_iff_eq.mp h)
 ·cases v with
  |ref c=>exact .inr ⟨c,rfl,h⟩
  |_=>cases h
theorem ah7 (self:Value):∀ {l:List Value},C_2 l=true → refuseLoop self "__setattr__" l=pure () ∧ l.contains (.type "object")=true
 |[],e=>nomatch e
 |v::r,e=>by
  rcases aE4 e with h | ⟨c,rfl,h⟩
  ·rw[h];exact⟨PySem.F.store_ValueError.passes self,by decide⟩
  ·obtain⟨a,b⟩:=ah7 self h
   exact⟨(refuseLoop_ref ..).trans a,by rw[List.contains_cons,b,Bool.or_true]⟩
section
variable {prog:Program}{w:World}{A:Around}{E:Value->Shared->Prop}{s:Shared}{K:Frag}{C e:Addr}{vs:Array Value}{name:Str}{v:Value}{cd:ClassData}
structure XS1 (K:Frag) (C:Addr) (name:Str):Prop where
 sa:findIn K (.ref C) "__setattr__"=some (some (.builtin "object.__setattr__"))
 na:findIn K (.ref C) name=some none
 cl:∃ cd,clsIn K C=some cd/\C_2 cd.mro=true/\cd.hasDict=true
theorem U_6 {Q:Unit->Shared->Prop} (X:K.In s.heap) (f:XS1 K C name) (he:s.heap.get? e=some (rcd (.ref C) vs))
  (h:∀ h' dx tk,dx=s.heap.objs.size->h'.get? e=some (rcd (.ref C) vs (some dx))->h'.Ns1 dx (λ y=>if y=name then some v else none)->(∀ b o,b≠e->s.heap.get? b=some o->h'.get? b=some o)->dx≠e->Q () {s with heap:=h',toks:=tk}) :
  wpAny (model prog w) A (setAttr (.ref e) name v) Q E s:=by
 obtain⟨hh,g,d,t,os⟩:=s;have I:InstAt hh e (rcd (.ref C) vs) C none:=⟨he,rfl,rfl,trivial⟩;obtain⟨cd,hc,ho,hd⟩:=f.cl;obtain⟨p1,p2⟩:=ah7 (.ref e) ho
 have ne:cd.mro.isEmpty=false:=by
  cases z:cd.mro with
  |nil=>rw[z] at ho;cases ho
  |cons _ _=>rfl
 have SF:=PySem.F.store_object;have L0:=I.type (M:=model prog w);have Lc:=looks_clsIn (M:=model prog w) X hc;have sub:Looks (model prog w) hh (isInstance (.ref e) (.type "object")) true:=L0.andThen (looks_mroIn X (by unfold mroIn;rw[hc,Option.bind_some,ne,p2];rfl))
 have hm:Looks (model prog w) hh (mroOf (.ref C)) cd.mro:=Lc.andThen .now;have La:=looks_findIn (M:=model prog w) X f.na;refine set_plain X I f.sa ?_;refine codeAny_call_builtin SF.slot.plain SF.entry (@check_slot (model prog w) _ _ ⟨hh,g,d,t+1,os⟩ "object.__setattr__" "object" "__setattr__" (.ref e) [.str name t,v] [] _ SF.kind SF.split sub (SF.args (.ref e) (.str name t) v) ?_);rw[osa_eq,refuse_eq];refine qb (qb (L0.at (qb (hm.at ?_))));rw[p1];refine qc (qb (L0.at (qb (La.at (qb (qc ?_))))));show wpAny _ _ (storeInOwnDict (.ref e) (.ref C) (.str name t) name v false) _ _ _;refine qb (qc (qb (qb (wpAny_loadPart he (qb (Lc.at ?_))))));rw[hd];have big:e≠hh.objs.size:=qp (qk he);have at1:=qd {cls:=.type "dict",data:=.dict #[]} he;show wpAny _ _ (do let d ← alloc {cls:=.type "dict",data:=.dict #[]};update e λ o=>{o with dict:=some d};dictMade (.ref C) e d) _ _ _
 refine qb (wpAny_alloc' (qb (wpAny_update' at1 (qc ?_))))
 generalize hU:(hh.push {cls:=.type "dict",data:=.dict #[]}).update e (λ o=>{o with dict:=some hh.objs.size})=U
 have gd:U.get? hh.objs.size=some {cls:=.type "dict",data:=.dict #[]}:=by
  rw[<- hU];exact (Heap.get?_update_ne _ _ _ _ big.symm).trans (Heap.get?_push_at rfl rfl)
 have ge:U.get? e=some (rcd (.ref C) vs (some hh.objs.size)):=by
  rw[<- hU];exact Heap.get?_update_self _ at1 rfl
 have go:∀ b o,b≠e->hh.get? b=some o->U.get? b=some o:=λ b o n q=>by
  rw[<- hU];exact (Heap.get?_update_ne _ _ _ _ n).trans (qd _ q)
 have nd:U.Ns hh.objs.size (λ _=>none):=⟨_,#[],_,gd,rfl,λ _ z=>absurd z (by simp),λ _=>rfl⟩
 show wpAny _ _ (storeInDict hh.objs.size (.str name t) name v) _ _ _;unfold storeInDict newKeyGuard;refine qb (qc (qb (wpAny_nsSet1 (Heap.Ns1.of_empty nd) λ h' n1 sb=>?_)))
 obtain⟨oD,es,ep,q1,q2,q3⟩:=n1.count (Within.cons name v Within.nil);refine qb (wpAny_lookBehind q1 ?_ (qc ?_))
 ·rw[q2]
  exact pastItsLine_dict (Nat.le_trans q3 (show 1<=sizeLine+1 by decide))
 ·exact h h' hh.objs.size _ rfl ((sb.2 e big).trans ge) n1 (λ b o n q=>(sb.2 b (qp (qk q))).trans (go b o n q)) big.symm
end
abbrev G_3 (e:Addr) (o:Obj):HO:=.ext λ h=>h.get? e=some o
theorem ag8 {P:Program}{w:World}{H:Hp}{h:Heap}{e:Addr}{o:Obj} (q:h.get? e=some o):ObjOk P w H h e (G_3 e o):=⟨q,⟨o,q⟩,λ _ _ a k=>k o a⟩
section
variable {X:Cx}{o value:Expr}{ta tv:TE}{pos pos':Pos}{f:Str}
def aR6 (K:Frag) (ta tv:TE) (f:Str):TS:=λ Dn σ H=>tv σ H λ y H1=>ta σ H1 λ x H2=>∃ e C vs,x=.ref e/\XS1 K C f/\H2 e=some (G_3 e (rcd (.ref C) vs))/\∀ dx,H2 dx=none->dx≠e->Dn.nx σ (upd (upd H2 dx (.xd [(f,y)])) e (G_3 e (rcd (.ref C) vs (some dx))))
theorem an2 (ha:PE X o ta) (hv:PE X value tv) (hs:swapsWith value (some (.Attribute o f pos')) pos.line X.env=pure false:=by rfl):PS X (.Assign [.Attribute o f pos'] value pos) (aR6 X.K ta tv f):=by
 intro pins s σ H D I h;refine plainObj_wpAny_Assign_Attribute (thn (hv pins s σ H _ I h) λ u s1=>ex5 λ y H1 I1 ry q=>thn (ha pins s1 σ H1 _ I1 q) λ ov s2=>ex5 λ x H2 I2 rx q2=>?_) hs
 obtain⟨e,C,vs,rfl,c,he,q3⟩:=q2;obtain rfl:ov=.ref e:=rx;obtain⟨q,_,_⟩:=(show ObjOk _ _ H2 s2.heap e (G_3 e (rcd (.ref C) vs)) from I2.hok e _ he);refine U_6 I2.kIn c q λ h' dx tk ed g1 g2 g3 ne=>?_
 subst ed;have fr:=I2.fresh;obtain⟨oD,es,ep,k1,k2⟩:=id g2
 have J1:Inv X pins σ (upd H2 s2.heap.objs.size (.xd [(f,y)])) {s2 with heap:=s2.heap.push oD}:=by
  refine I2.laid (t':=s2.toks) (λ b u z=>qd _ z) (qi _) ⟨_,⟨oD,es,ep,qj _ ?_,k2⟩,λ n=>?_⟩
  ·exact (Heap.get?_some_iff.mp k1).2
  ·by_cases z:n=f
   ·subst z;simpa [List.lookup,RelO] using ry
   ·simp[List.lookup,beq_false_of_ne z,z,RelO]
 have J2:=J1.write (t':=tk) (x:=e) (e:=e) (o:=G_3 e (rcd (.ref C) vs (some s2.heap.objs.size))) (h':=h') (by rw[a_3 ne.symm,he];trivial) (.inl rfl) (λ b u n z=>?_) ⟨_,g1⟩ (ag8 g1)
 ·exact⟨σ,_,J2,q3 _ fr ne⟩
 ·rcases Heap.get?_push_cases z with ⟨rfl,rfl⟩ | z
  ·exact k1
  ·exact g3 b u n z
end
end Fx
namespace Fx
open PySem PySem.W PySem.Spec PyProof.Rows L2
section
variable {prog:Program}{w:World}{A:Around}{E:Value->Shared->Prop}{h:Heap}{g:Array GenState}{d:Drawn}{t:Nat}{os:OsState}
variable {nm qn:Str}{C N fI:Addr}{bs bm:List Value}{hd:Bool}{sn:List Str}{sub:List Value}{ab:Bool}{col:Option Bool}{dd:Option Addr}{k0 k1 k2 k3 k5:Option Value}{mN:Str->Option Value}{oI:Obj}{us:List Value}
abbrev clX (nm qn:Str) (C N:Addr) (bs bm:List Value) (hd:Bool) (sn:List Str) (sub:List Value) (ab:Bool) (col:Option Bool) (dd:Option Addr) (k0 k1 k2 k3 k5:Option Value):Obj:=excClassObj nm qn C N bs bm hd sn sub ab col dd k0 k1 k2 k3 k5 "ValueError.__new__"
theorem ay9 {Q:Fin → Shared → Prop} (T:OwnTail h bmV bm) (cC:h.get? C=some (clX nm qn C N bs bm hd sn sub ab col dd k0 k1 k2 k3 k5)) (nN:h.Ns N mN) (hi:mN "__init__"=some (.ref fI)) (gI:h.get? fI=some oI) (cI:oI.cls=.type "function") (hz:us.length ≤ sizeLine)
  (go:∀ h' e,h.objs.size<=e->Heap.MadeExcOf h h' e (.ref C) us->wpAny (model prog w) A (call (.ref fI) (.ref e::us)) (λ r s'=>r=.none/\Q (.done (.ret (.ref e))) s') E ⟨h',g,d,t,os⟩) :
  wpAny (model prog w) A (Builtin.«type.__call__» ⟨.ref C::us,[]⟩) Q E ⟨h,g,d,t,os⟩:=by
 have B:=F.excBase_ValueError;have has:bmV.contains (.type "ValueError")=true:=by decide
 repeat (first
  |with_reducible refine wpAny_loadPart_at cC ?_
  |with_reducible refine wpAny_madeBy_exc cC ?_
  |wp_step)
 refine codeAny_call_builtin_code (Code.quiet_builtin _ B.quiet) (wpAny_check_new_subU B has T cC ?_);refine codeAny_exc_new_subU B has B T cC ?_ hz;show wpAny _ _ _ _ _ _;have up:∀ b o,h.get? b=some o → ((h.push {cls:=.type "tuple",data:=.seq us.toArray}).push {cls:=.ref C,data:=.fields #[.ref h.objs.size,.none,.none,.none,.bool false,.none]}).get? b=some o:=λ b o q=>qd _ (qd _ q)
 have ge:((h.push {cls:=.type "tuple",data:=.seq us.toArray}).push {cls:=.ref C,data:=.fields #[.ref h.objs.size,.none,.none,.none,.bool false,.none]}).get? (h.objs.size+1)=some {cls:=.ref C,data:=.fields #[.ref h.objs.size,.none,.none,.none,.bool false,.none]}:=Heap.get?_push_at (by rw[Heap.size_push]) rfl
 have gt:((h.push {cls:=.type "tuple",data:=.seq us.toArray}).push {cls:=.ref C,data:=.fields #[.ref h.objs.size,.none,.none,.none,.bool false,.none]}).get? h.objs.size=some {cls:=.type "tuple",data:=.seq us.toArray}:=qd _ (qj _ rfl)
 generalize (h.push {cls:=.type "tuple",data:=.seq us.toArray}).push {cls:=.ref C,data:=.fields #[.ref h.objs.size,.none,.none,.none,.bool false,.none]}=U at *
 have cU:=up _ _ cC;have nU:U.Ns N mN:=let ⟨o,es,ep,q,r⟩:=nN;⟨o,es,ep,up _ _ q,r⟩;have TU:=T.keeps (h':=U) up;have self:(Value.ref C::bm).contains (.ref C)=true:=by simp
 unfold isInstance
 repeat (first
  |with_reducible refine wpAny_loadPart_at ge ?_
  |(with_reducible refine wpAny_isSubtype_exc cU ?_;rw[self])
  |wp_step)
 show wpAny _ _ (typeLookup (.ref C) _) _ _ _;refine wpAny_typeLookup_tail cU nU TU B.mroIs B.init.lookup ?_;rw[hi];refine wpAny_holding (qb ?_);unfold bindSpecial;refine qb (wpAny_typeOf (T:="function") ⟨_,up _ _ gI,cI⟩ ?_);rw[if_pos (by decide)]
 refine qc (qb (wpAny_mono (go U (h.objs.size+1) (Nat.le_succ _) ⟨up,Heap.get?_none_of_le (Nat.le_succ _),h.objs.size,ge,Heap.get?_none_of_le (qi _),gt⟩) (λ r s' z=>?_) λ _ _ z=>z))
 obtain⟨rfl,z⟩:=z
 wp_walk
 exact z
theorem aY3 {Q:Value → Shared → Prop} (T:OwnTail h bmV bm) (cC:h.get? C=some (clX nm qn C N bs bm hd sn sub ab col dd k0 k1 k2 k3 k5)) (nN:h.Ns N mN) (hi:mN "__init__"=some (.ref fI)) (gI:h.get? fI=some oI) (cI:oI.cls=.type "function") (hz:us.length ≤ sizeLine)
  (go:∀ h' e,h.objs.size ≤ e → Heap.MadeExcOf h h' e (.ref C) us → wpAny (model prog w) (A.under (.builtin "type.__call__" ⟨.ref C::us,[]⟩)) (call (.ref fI) (.ref e::us)) (λ r s'=>r=.none ∧ Q (.ref e) s') E ⟨h',g,d,t,os⟩) :
  wpAny (model prog w) A (call (.ref C) us) Q E ⟨h,g,d,t,os⟩:=by
 have l1:=tc_lookup;have l2:=tc_bind (.ref C);have ty:(⟨h,g,d,t,os⟩:Shared).TypeIs (.ref C) "type":=⟨_,cC,rfl⟩;refine wpAny_call (codeAny_of_tree ?_);show wpAny _ _ (PySem.callAny (.ref C) _) _ _ _
 repeat (any_goals (first
  |assumption
  |with_reducible refine wpAny_loadPart_at cC ?_
  |wp_step))
 refine⟨rfl,codeAny_call_builtin_at (Code.quiet_builtin _ (by decide +kernel)) entry_typeCall (wpAny_check_type_call_sub cC (ay9 T cC nN hi gI cI hz λ h' e z m=>?_))⟩
 exact go h' e z m
end
section
variable {prog:Program}{w:World}{A:Around}{E:Value->Shared->Prop}{s:Shared}{env:Env}
variable {nm qn:Str}{C N fI:Addr}{bs bm:List Value}{hd:Bool}{sn:List Str}{sub:List Value}{ab:Bool}{col:Option Bool}{dd:Option Addr}{k0 k1 k2 k3 k5:Option Value}{mN:Str->Option Value}{oI:Obj}
theorem bj7 {x:Sem Value}{Q:Flow → Shared → Prop} (hb:bm.contains (.type "BaseException")=true) (hh:A.handled=none)
  (h:wpAny (model prog w) A x (λ v s1=>∃ e t od,v=.ref e/\s1.heap.get? C=some (clX nm qn C N bs bm hd sn sub ab col dd k0 k1 k2 k3 k5)/\s1.heap.get? e=some (rcd (.ref C) #[.ref t,.none,.none,.none,.bool false,.none] od)/\E (.ref e) s1) E s) :
  wpAny (model prog w) A (raiseStmt env (some x) none) Q E s:=by
 have hB:(Value.ref C::bm).contains (.type "BaseException")=true:=by rw[List.contains_cons,hb,Bool.or_true]
 unfold raiseStmt;refine qb (wpAny_mono h (λ v s1 z=>?_) λ _ _ z=>z)
 obtain⟨e,t,od,rfl,cC,ge,q⟩:=z;obtain⟨hp,g,d,tk,os⟩:=s1;have ge:hp.get? e=some {cls:=.ref C,dict:=od,data:=.fields #[.ref t,.none,.none,.none,.bool false,.none],slots:=#[]}:=ge
 repeat (first
  |with_reducible refine wpAny_loadPart_at ge ?_
  |with_reducible refine wpAny_loadPart_at cC ?_
  |(with_reducible refine wpAny_isSubtype_exc cC ?_;rw[hB])
  |wp_step)
 exact wpAny_raiseNew_none hh q
theorem aC0 {x:Str}{np cpos pos:Pos}{args:List Expr}{Q:Flow → Shared → Prop} (hb:bm.contains (.type "BaseException")=true) (hh:A.handled=none) (hpl:(backTo cpos (starEach args env)).any (·.1)=false)
  (h:wpAny (model prog w) A (eval (.Name x np) env) (λ f s1=>f=.ref C/\wpAny (model prog w) A (evalArgs (.ref C) true (backTo cpos (starEach args env)) [])
   (λ a s2=>a.kw=[] ∧ a.pos.length ≤ sizeLine ∧ s2.heap.get? C=some (clX nm qn C N bs bm hd sn sub ab col dd k0 k1 k2 k3 k5) ∧ s2.heap.Ns N mN ∧ mN "__init__"=some (.ref fI) ∧ s2.heap.get? fI=some oI ∧ oI.cls=.type "function" ∧ OwnTail s2.heap bmV bm ∧
    ∀ h' e,s2.heap.objs.size ≤ e → Heap.MadeExcOf s2.heap h' e (.ref C) a.pos → wpAny (model prog w) (A.under (.builtin "type.__call__" ⟨.ref C::a.pos,[]⟩)) (call (.ref fI) (.ref e::a.pos)) (λ r s3=>r=.none ∧ s3.heap.get? C=some (clX nm qn C N bs bm hd sn sub ab col dd k0 k1 k2 k3 k5) ∧
     (∃ t od,s3.heap.get? e=some (rcd (.ref C) #[.ref t,.none,.none,.none,.bool false,.none] od))/\E (.ref e) s3) E {s2 with heap:=h'}) E s1) E s) :
  wpAny (model prog w) A (exec (.Raise (some (.Call (.Name x np) args [] cpos)) none pos) env) Q E s:=by
 rw[arm_exec_Raise];refine qb (wpAny_standAt (bj7 hb hh (C:=C) (nm:=nm) (qn:=qn) (N:=N) (bs:=bs) (hd:=hd) (sn:=sn) (sub:=sub) (ab:=ab) (col:=col) (dd:=dd) (k0:=k0) (k1:=k1) (k2:=k2) (k3:=k3) (k5:=k5) ?_));refine qb (wpAny_mono (wpAny_Call_ofName (wpAny_mono h (λ f s1 z=>?_) λ _ _ z=>z)) (λ v s3 z=>qb (wpAny_standAt (qc z))) λ _ _ z=>z)
 obtain⟨rfl,z⟩:=z;unfold callWith;refine qb (wpAny_holding (wpAny_mono z (λ a s2 y=>qb (wpAny_standAt ?_)) λ _ _ z=>z))
 obtain⟨us,kw⟩:=a;obtain⟨rfl,hz,cC,nN,hi,gI,cI,T,go⟩:=y;obtain⟨hp,g,d,tk,os⟩:=s2;simp only[hpl];refine qb (wpAny_keeperOf_exc cC (qb (aY3 T cC nN hi gI cI hz λ h' e y m=>wpAny_mono (go h' e y m) (λ r s3 y=>⟨y.1,?_⟩) λ _ _ z=>z)))
 obtain⟨_,c3,⟨t,od,ge⟩,q⟩:=y;exact qb (wpAny_holding (wpAny_point (qc ⟨e,t,od,rfl,c3,ge,q⟩)))
end
def M_5 (K:Frag) (C fI:Addr):Bool :=
 match K.lookup C with
 |some ⟨.type "type",_,.cls c,sl⟩ =>
  (match c.mro,sl.toList with
  |.ref C'::bm,[_,_,_,_,some (.builtin n),_]=>C'==C&&n=="ValueError.__new__"&&!c.hasDel&&tailIn K bmV bm&&nsOkIn K c.ns&&nsIn K c.ns "__init__"==some (some (.ref fI))&&(K.lookup fI).any λ o=>o.cls==.type "function"
  |_,_=>false)
 |_=>false
theorem aU5 {K:Frag}{h:Heap}{N:Addr}{m:Str->Option Value}{x:Str}{v:Value} (X:K.In h) (G:h.Ns N m) (e:nsIn K N x=some (some v)):m x=some v:=by
 obtain⟨o,es,ep,ho,hd,_,hf⟩:=G;unfold nsIn at e
 split at e
 case h_2=>cases e
 case h_1 q =>
  have z:=X _ _ q;rw[ho] at z;cases z;cases hd
  split at e
  ·rename_i he
   cases e;rw[<- hf];unfold nsFind findBy;rw[<- Array.find?_toList,he];rfl
  ·split at e <;> cases e
theorem ad6 {K:Frag}{h:Heap}{C fI:Addr} (X:K.In h) (x:M_5 K C fI=true):∃ bm N nm q bs hd sn sub ab col dd k0 k1 k2 k3 k5 m oI,h.get? C=some (clX nm q C N bs bm hd sn sub ab col dd k0 k1 k2 k3 k5) ∧ h.Ns N m ∧ m "__init__"=some (.ref fI) ∧ OwnTail h bmV bm ∧ h.get? fI=some oI ∧ oI.cls=.type "function":=by
 revert x
 unfold M_5;intro x
 split at x
 case h_2=>cases x
 case h_1 dd c sl l =>
  split at x
  case h_2=>cases x
  case h_1 C' bm k0 k1 k2 k3 n k5 e1 e2 =>
   simp only[Bool.and_eq_true,beq_iff_eq,Bool.not_eq_true'] at x;obtain⟨⟨⟨⟨⟨⟨x1,x2⟩,x3⟩,x4⟩,x5⟩,x6⟩,x7⟩:=x;have at_:=X C _ l;obtain⟨c1,c2,c3,c4,c5,c6,c7,c8,c9,c10,c11⟩:=c;obtain⟨sl⟩:=sl;cases e1;cases x1;cases x2;cases x3;cases (show sl=_ from e2)
   have f1:∃ oI,h.get? fI=some oI ∧ oI.cls=.type "function":=by
    obtain⟨o,o1,o2⟩:=any_some x7;exact⟨o,X fI o o1,beq_iff_eq.mp o2⟩
   obtain⟨oI,f1,f2⟩:=f1;exact⟨bm,c4,c1,c5,c2,c6,c7,c8,c9,c10,dd,k0,k1,k2,k3,k5,h.nsMap c4,oI,at_,.of_isNs (isNs_of_in X x5),aU5 X (.of_isNs (isNs_of_in X x5)) x6,tail_of_in X x4,f1,f2⟩
def drp (H:Hp) (e:Addr):Hp:=λ b=>if b=e then none else H b
theorem V_5 {H:Hp}{e b:Addr} (h:b≠e):drp H e b=H b:=if_neg h
theorem J_3 {H:Hp}{e:Addr}:drp H e e=none:=if_pos rfl
section
variable {X:Cx}{pins:List (Addr×Obj)}{σ:L2.St}{H:Hp}{s:Shared}
theorem aq6 {e:Addr}{φ:Heap->Prop} (I:Inv X pins σ H s) (he:H e=some (.ext φ)):Inv X pins σ (drp H e) s:=by
 have un:=I.base;have no:∀ b,H b=none->drp H e b=none:=λ b z=>by unfold drp;split <;> first | rfl | exact z
 have is:∀ b u,H b=some u->(∀ ψ,u≠.ext ψ)->drp H e b=some u:=λ b u z n=>by
  rw[V_5 λ y=>by subst y;rw[he] at z;exact n φ (qh z).symm];exact z
 refine⟨I.ok,I.os,I.bare,⟨un.keep,un.slot,λ b o q n x=>no b (un.free b o q n x),un.there,λ b xs q=>is b _ (un.tups b xs q) (λ _ z=>nomatch z),λ b o u q=>is b _ (un.frzs b o u q) (λ _ z=>nomatch z),λ b ps q=>?_⟩,I.loc,I.cell,no _ I.free,λ x c q=>no c (I.freeC x c q),λ p hp=>?_,λ b u q=>?_,I.len⟩
 ·obtain⟨more,q'⟩:=un.tbls b ps q
  exact⟨more,is b _ q' λ _ z=>nomatch z⟩
 ·obtain⟨q,n,z⟩:=I.pin p hp
  exact⟨q,no _ n,z⟩
 ·have ne:b≠e:=λ y=>by subst y;rw[J_3] at q;cases q
  rw[V_5 ne] at q;exact (I.hok b u q).stay (λ _ _ _ z=>z) (λ c z=>is c _ z λ _ y=>nomatch y) λ c xs z=>is c _ z λ _ y=>nomatch y
end
def spI (K:Frag) (f:Str):Sp:=λ vs H Q _=>∃ e v C us,vs=[.ref e,v]/\XS1 K C f/\H e=some (G_3 e (rcd (.ref C) us))/\∀ dx,H dx=none->dx≠e->Q .non (upd (upd H dx (.xd [(f,v)])) e (G_3 e (rcd (.ref C) us (some dx))))
theorem aq8 {CX:CXT}{P:Program}{w:World}{K:Frag}{mg:Str → Option Value}{base:Heap}{x qual f:Str}{st:Stmt}{fI:Addr}{fd:FuncData}{p1 p2 p3 pos:Pos} (Fu:Fun K x qual st fI fd) (S:FnScope ["self",f] ["self",f] (a_1 st)) (hn:("self":Str)≠f)
  (hb:e_3 st=[.Assign [.Attribute (.Name "self" p1) f p2] (.Name f p3) pos])
  (hs:∀ (cdv:Value) (A:Around) (outer:List Env) (s:Shared) (H:Hp) (E:XK),swapsWith (.Name f p3) (some (.Attribute (.Name "self" p1) f p2)) pos.line (w_0 CX P w K mg base ["self",f] qual (a_1 st) fI cdv A outer s H E).env=pure false)
  (h1:(f==("__debug__":Str))=false) (h2:(f==("__classdict__":Str))=false):FnOk P w K mg base CX 1 fI fd ["self",f] (spI K f):=by
 obtain⟨oc,od,kV,doc,pm,an,cdv,ct,osl,rfl,lk,hcd⟩:=Fu.ex;refine ar1 lk hcd S (λ vs H Q E h=>?_) λ A outer s H vs Q E hr h=>?_
 ·obtain⟨e,v,C,us,rfl,_⟩:=h;rfl
 ·obtain⟨e,v,C,us,rfl,c,he,q⟩:=h
  rw[hb];have vis:∀ y∈(["self",f]:List Str),Vis (w_0 CX P w K mg base ["self",f] qual (a_1 st) fI cdv A outer s H E).env.scope y:=λ y hy=>(S.par y hy).imp id .inl
  refine⟨_,m_0 (an2 (j_9 (i:=0) rfl (vis _ (by simp)) (by decide) (by decide)) (j_9 (i:=1) rfl (vis _ (by simp)) h1 h2) (hs ..)),?_⟩
  exact⟨v,rfl,.ref e,rfl,e,C,us,rfl,c,he,λ dx n m=>q dx n m⟩
def bc6 (P:V->Hp->Prop):List V->Hp->Prop
 |[v],H=>P v H
 |_,_=>False
theorem ao5 {P:V->Hp->Prop}{H:Hp}:∀ {vs:List V},bc6 P vs H->∃ v,vs=[v]/\P v H
 |[v],h=>⟨v,rfl,h⟩
 |[],h=>h.elim
 |_::_::_,h=>h.elim
section
variable {X:Cx}{E:XK}{x f:Str}{C fI:Addr}{k:Nat}{fd:FuncData}{a:Expr}{ta:TE}{np cpos pos:Pos}
theorem Q_4 (hR:E_4 X E) (hc:X.calm=true) (hxx:X.ex=[]) (hm:X.mg x=some (.ref C)) (hx:M_5 X.K C fI=true) (h1:XS1 X.K C f) (Fk:FnOk X.prog X.w X.K X.mg X.base (CXE X.prog X.w) k fI fd ["self",f] (spI X.K f)) (hr:Room (k+1) X.A) (hb:Binds X.K fd ["self",f] [])
  (ha:PE X a ta) (hg:Gl X x) (hd:(x==("__debug__":Str))=false) (hs:starEach [a] X.env=[(false,eval a X.env)]) :
  PS X (.Raise (some (.Call (.Name x np) [a] [] cpos)) none pos) (λ _ σ H=>ta σ H λ v H1=>∀ dx,H1 dx=none->E (.ref C) (some dx) (upd H1 dx (.xd [(f,v)]))):=by
 intro pins s σ H D I q;obtain⟨bm,N,nm,qn,bs,h6,sn,sub,ab,col,dd,k0,k1,k2,k3,k5,m,oI,c1,c2,c3,c4,c5,c6⟩:=ad6 I.mod.kin hx;have ad:=hs▸e_2 (X:=X) ha i_1 hs cpos pins s σ H (bc6 λ v H'=>∀ dx,H' dx=none->E (.ref C) (some dx) (upd H' dx (.xd [(f,v)]))) I q
 refine aC0 (nm:=nm) (qn:=qn) (N:=N) (bs:=bs) (bm:=bm) (hd:=h6) (sn:=sn) (sub:=sub) (ab:=ab) (col:=col) (dd:=dd) (k0:=k0) (k1:=k1) (k2:=k2) (k3:=k3) (k5:=k5) (fI:=fI) (oI:=oI) (mN:=m) (c4.hasType (by decide)) (I.ok.hd hc) (by rw[hs];rfl) (h_4 I hg hm ⟨rfl,hs▸Calls.evalArgs_plain (thn ad λ us s2 z=>?_)⟩ hd)
 obtain⟨vs,H2,I2,r,z⟩:=z;obtain⟨v,rfl,q2⟩:=ao5 z;obtain⟨u,rfl,ru⟩:=h_9 r;refine⟨rfl,(show 1<=sizeLine by decide),I2.bk C _ c1,c2.keeps I2.bk,c3,I2.bk fI _ c5,c6,c4.keeps I2.bk,λ h' e z mk=>?_⟩
 obtain⟨tp,ge,_,_⟩:=mk.there;have J:=I2.laid (t':=s2.toks) (o:=G_3 e (rcd (.ref C) #[.ref tp,.none,.none,.none,.bool false,.none])) mk.keeps z (ag8 ge);have e0:H2 e=none:=I2.hok.fresh z;have r2:Vals [V.ref e,v] [Value.ref e,u]:=.cons rfl (.cons ru .nil);have sp:spI X.K f [.ref e,v] (upd H2 e (G_3 e (rcd (.ref C) #[.ref tp,.none,.none,.none,.bool false,.none]))) (λ y H'=>y=.non/\∃ dx,H2 dx=none/\dx≠e/\H'=upd (upd (upd H2 e (G_3 e (rcd (.ref C) #[.ref tp,.none,.none,.none,.bool false,.none]))) dx (.xd [(f,v)])) e (G_3 e (rcd (.ref C) #[.ref tp,.none,.none,.none,.bool false,.none] (some dx)))) E0 :=
  ⟨e,v,C,_,rfl,h1,a_2,λ dx n ne=>⟨rfl,dx,by rwa [a_3 ne] at n,ne,rfl⟩⟩
 refine wpAny_call (codeAny_mono (Fk.run _ X.stack _ _ ⟨[.ref e,u],[]⟩ [.ref e,u] _ _ E0 (hr.make C [u] []) (J.env0.make C [u] []) (hb _ [.ref e,u] J.kIn rfl) r2 sp) λ rr s' hq=>?_)
 cases rr with
 |error er=>exact ao1 (X:=X) pins σ _ _ er s' J hq
 |ok fl =>
  cases fl with
  |ret y =>
   obtain⟨y',H',I3,rv,ey,dx,ndx,ne,eH⟩:=J.after hq;subst ey eH;obtain rfl:y=.none:=rv;have ge3:s'.heap.get? e=some (rcd (.ref C) #[.ref tp,.none,.none,.none,.bool false,.none] (some dx)):=(show ObjOk _ _ _ s'.heap e (G_3 e _) from I3.hok e _ a_2).1;have I4:=aq6 I3 a_2
   have eH:drp (upd (upd (upd H2 e (G_3 e (rcd (.ref C) #[.ref tp,.none,.none,.none,.bool false,.none]))) dx (.xd [(f,v)])) e (G_3 e (rcd (.ref C) #[.ref tp,.none,.none,.none,.bool false,.none] (some dx)))) e=upd H2 dx (.xd [(f,v)]):=by
    funext b
    by_cases hb:b=e
    ·subst hb;rw[J_3,a_3 ne.symm,e0]
    ·rw[V_5 hb,a_3 hb]
     by_cases hd:b=dx
     ·subst hd;rw[a_2,a_2]
     ·rw[a_3 hd,a_3 hd,a_3 hb]
   rw[eH] at I4;refine⟨rfl,I4.bk C _ c1,⟨tp,some dx,ge3⟩,hR pins σ _ s' e C (some dx) _ I4 (by rw[a_3 ne.symm];exact e0) ?_ ge3 rfl (q2 dx ndx)⟩
   cases w0:X.s₀.heap.get? e with
   |none=>rfl
   |some o =>
    obtain⟨o',w1⟩:=I2.base.there e o w0 (by rw[hxx];intro z;cases z)
    rw[Heap.get?_none_of_le z] at w1;cases w1
  |next=>exact False.elim hq
  |brk=>exact False.elim hq
  |cont=>exact False.elim hq
end
end Fx
namespace Fx
open PySem
abbrev Ky:=List (List Int)
mutual
def fK:D->Ky
 |.int i=>[[i]]
 |.str s=>[s.cps.toList.map Int.ofNat]
 |.tup xs=>fKs xs
 |_=>[]
def fKs:List D->Ky
 |[]=>[]
 |d::r=>fK d++fKs r
end
def r3:D->Bool
 |.tup [.int _,.str _,.int _]=>true
 |_=>false
def two:D->Option (D×D)
 |.tup [a,b]=>some (a,b)
 |_=>none
def af2 (T:FT) (F:FE) (fr:En):List D->Option (List D)
 |[]=>some []
 |d::r=>bnd (two d) λ q=>bnd (T (.im q.1::.im q.2::fr)) λ p=>if p.1=true then bnd (F p.2) λ z=>bnd (af2 T F fr r) λ t=>some (z.1::t) else af2 T F fr r
theorem af1 (T:FT) (F:FE) (fr:En):af2 T F fr []=some []:=rfl
theorem W_7 (T:FT) (F:FE) (fr:En) (d:D) (r:List D):af2 T F fr (d::r)=bnd (two d) λ q=>bnd (T (.im q.1::.im q.2::fr)) λ p=>if p.1=true then bnd (F p.2) λ z=>bnd (af2 T F fr r) λ t=>some (z.1::t) else af2 T F fr r:=rfl
def aN4 (js:List Nat) (I:FE) (T:FT) (F:FE) (ρ:En):Option (D×En):=bnd (I ρ) λ p=>bnd (items p.1) λ xs=>bnd (A_8 p.2 js) λ fr=>bnd (af2 T F fr xs) λ ys=>if xs.length<=sizeLine then some (.lst ys,p.2) else none
def dKx (kds:List (Str×D)):D->Option D
 |.str k=>n_9 k kds
 |_=>none
def aM6:Option Sl->Option (List D)
 |some (.ow false (.lst ds))=>some ds
 |_=>none
def L_2 (i:Nat) (ρ:En):Bool:=(ρ.set i .no).all bl0
def O_9 (ρ ρh:En) (o:Option (Bool×En)):Option (Bool×En):=bnd o λ p=>@ite _ (p.2=ρh) (aY0 _ _) (some (p.1,ρ)) none
def P_0 (i:Nat) (T:FT) (ρ:En) (o:Option (List D)):Option (Bool×En):=bnd o λ ds=>if L_2 i ρ=true then O_9 ρ (ρ.set i (.im (.lst ds))) (T (ρ.set i (.im (.lst ds)))) else none
def P_1 (i:Nat) (T:FT) (ρ:En):Option (Bool×En):=P_0 i T ρ (aM6 ρ[i]?)
def asL:MO->Option D
 |.lst ds=>some (.lst ds)
 |_=>none
@[simp] theorem bn8 (ds:List D):asL (.lst ds)=some (.lst ds):=Eq.trans rfl rfl
def aN2 (ρ:En) (o:Option MO):Option (D×En):=bnd o λ m=>mkP (asL m) ρ
def aN3 (g:List D->Option MO) (o:Option (List D×En)):Option (D×En):=bnd o λ p=>aN2 p.2 (g p.1)
def eNL (g:List D->Option MO) (A:FA) (ρ:En):Option (D×En):=aN3 g (A ρ)
@[simp] theorem bp7 (g:List D->Option MO) (A:FA) (ρ:En):eNL g A ρ=aN3 g (A ρ):=Eq.trans rfl rfl
@[simp] theorem be8 (g:List D->Option MO) (ds:List D) (ρ:En):aN3 g (some (ds,ρ))=aN2 ρ (g ds):=Eq.trans rfl rfl
@[simp] theorem be7 (ρ:En) (m:MO):aN2 ρ (some m)=mkP (asL m) ρ:=Eq.trans rfl rfl
end Fx
namespace Fx
open PySem PySem.Spec PyProof.Rows L2
end Fx
namespace Fx
open PySem
def ae3:D->D->Option D
 |.str x,.int n=>if 0<=n/\n<=1000/\x.length<=1000 then some (.str (Txt.mul x n)) else none
 |_,_=>none
def i_6:D->D->Option D
 |.str x,.str y=>if y.length≠0/\x.length<=100000 then some (.lst ((Txt.split x y).map .str)) else none
 |_,_=>none
@[simp] theorem aO0 (x y:Str):i_6 (.str x) (.str y)=if y.length≠0/\x.length<=100000 then some (.lst ((Txt.split x y).map .str)) else none:=Eq.trans rfl rfl
def V_9:D->D->Option D
 |.str x,.str y=>some (.bl (Txt.startswith x y))
 |_,_=>none
def bm0:Option Int->Option D
 |some n=>some (.int n)
 |none=>none
def av2:List D->Option D
 |[.str x]=>if x.length<=640 then bm0 (intText? x) else none
 |_=>none
def aY9:List D->Option D
 |[.int n]=>if n.natAbs<10 ^ 100 then some (.str (Str.ofString (toString n))) else none
 |[.str x]=>some (.str x)
 |[.non]=>some (.str "None")
 |_=>none
mutual
def nl:D->Bool
 |.lst _=>false
 |.dct _ _=>false
 |.opq=>false
 |.tup xs=>nls xs
 |_=>true
def nls:List D->Bool
 |[]=>true
 |d::r=>nl d&&nls r
end
def V_2 (ρ ρh:En) (o:Option (D×En)):Option (D×En):=bnd o λ p=>@ite _ (nl p.1=true/\p.2=ρh) (@instDecidableAnd _ _ _ (aY0 _ _)) (some (p.1,ρ)) none
def V_3 (i:Nat) (F:FE) (ρ:En) (o:Option (List D)):Option (D×En):=bnd o λ ds=>if L_2 i ρ=true then V_2 ρ (ρ.set i (.im (.lst ds))) (F (ρ.set i (.im (.lst ds)))) else none
def J_2 (i:Nat) (F:FE) (ρ:En):Option (D×En):=V_3 i F ρ (aM6 ρ[i]?)
def lsA (o:Option (D×En)):Option (List D×En):=bnd o λ p=>match p.1 with
 |.lst ds=>some (ds,p.2)
 |_=>none
def oFr (F:FE) (ρ:En):Option (List D×En):=lsA (F ρ)
def aN0 (o:Option (List D×En)):Option MO:=bnd o λ p=>some (.lst p.1)
def nFr (A:FA) (ρ:En):Option MO:=aN0 (A ρ)
@[simp] theorem bp1 (A:FA) (ρ:En):nFr A ρ=aN0 (A ρ):=Eq.trans rfl rfl
@[simp] theorem bc8 (ds:List D) (ρ:En):aN0 (some (ds,ρ))=some (.lst ds):=Eq.trans rfl rfl
def aA4 (i:Nat) (ρ:En) (o:Option (List D)):Option Res:=bnd o λ ds=>if ds.length=0 then none else some (.nx (ρ.set i (.ow false (.lst ds.dropLast))))
def aR3 (i:Nat) (ρ:En):Option Res:=aA4 i ρ (owL ρ[i]?)
def aA5 (i:Nat) (ρ:En) (xs:List D) (o:Option (List D)):Option Res:=bnd o λ ds=>if ds.length+xs.length<1000 then some (.nx (ρ.set i (.ow false (.lst (ds++xs))))) else none
def aA6 (i:Nat) (o:Option (List D×En)):Option Res:=bnd o λ p=>aA5 i p.2 p.1 (owL p.2[i]?)
def aA7 (i:Nat) (A:FA) (ρ:En) (o:Option (List D)):Option Res:=bnd o λ _=>aA6 i (A ρ)
def aR7 (i:Nat) (A:FA) (ρ:En):Option Res:=aA7 i A ρ (owL ρ[i]?)
def bd8:D->Option Int
 |.int k=>some k
 |_=>none
def aE6 (xs:List D) (ρ:En) (o:Option Int):Option (List D×En):=bnd o λ k=>if k<=1000/\-1000<=k/\xs.length<=1000 then some ((List.replicate k.toNat xs).flatten,ρ) else none
def aE7 (xs:List D) (o:Option (D×En)):Option (List D×En):=bnd o λ p=>aE6 xs p.2 (bd8 p.1)
def aE8 (G:FE) (o:Option (List D×En)):Option (List D×En):=bnd o λ p=>aE7 p.1 (G p.2)
def aU4 (A:FA) (G:FE) (ρ:En):Option (List D×En):=aE8 G (A ρ)
def aN7 (o:Option (List D×En)):Option (D×En):=bnd o λ p=>some (.lst p.1,p.2)
def eFr (A:FA) (ρ:En):Option (D×En):=aN7 (A ρ)
@[simp] theorem bp9 (A:FA) (ρ:En):eFr A ρ=aN7 (A ρ):=Eq.trans rfl rfl
@[simp] theorem bf5 (ds:List D) (ρ:En):aN7 (some (ds,ρ))=some (.lst ds,ρ):=Eq.trans rfl rfl
def lsX:D->Option (List D)
 |.lst xs=>some xs
 |_=>none
@[simp] theorem bl4 (xs:List D):lsX (.lst xs)=some xs:=Eq.trans rfl rfl
def aA8 (i:Nat) (ρ:En) (xs:List D) (o:Option (List D)):Option Res:=bnd o λ ds=>if ds.length+xs.length<1000 then some (.nx (ρ.set i (.ow false (.lst (ds++xs))))) else none
def aA9 (i:Nat) (ρ:En) (o:Option (List D)):Option Res:=bnd o λ xs=>aA8 i ρ xs (owL ρ[i]?)
def aB0 (i:Nat) (o:Option (D×En)):Option Res:=bnd o λ p=>aA9 i p.2 (lsX p.1)
def aB1 (i:Nat) (F:FE) (ρ:En) (o:Option (List D)):Option Res:=bnd o λ _=>aB0 i (F ρ)
def aR9 (i:Nat) (F:FE) (ρ:En):Option Res:=aB1 i F ρ (owL ρ[i]?)
def r_1:Nat->List D->List D
 |_,[]=>[]
 |k,d::r=>.tup [.int (k:Int),d]::r_1 (k+1) r
def F_8 (g:D->En->Option En) (B:FS) (ρ:En) (o:Option (List D)):Option Res:=bnd o λ xs=>fGo g B (r_1 0 xs) ρ
def F_9 (g:D->En->Option En) (B:FS) (o:Option (D×En)):Option Res:=bnd o λ p=>F_8 g B p.2 (lsX p.1)
def Z_8 (g:D->En->Option En) (F:FE) (B:FS) (ρ:En):Option Res:=F_9 g B (F ρ)
@[simp] theorem bb2 (g:D->En->Option En) (F:FE) (B:FS) (ρ:En):Z_8 g F B ρ=F_9 g B (F ρ):=Eq.trans rfl rfl
@[simp] theorem aL7 (g:D->En->Option En) (B:FS) (d:D) (ρ:En):F_9 g B (some (d,ρ))=F_8 g B ρ (lsX d):=Eq.trans rfl rfl
@[simp] theorem aL6 (g:D->En->Option En) (B:FS) (ρ:En) (xs:List D):F_8 g B ρ (some xs)=fGo g B (r_1 0 xs) ρ:=Eq.trans rfl rfl
def evn {α:Type}:List α->List α
 |[]=>[]
 |[a]=>[a]
 |a::_::r=>a::evn r
def au5 (i:Nat):D->Option D
 |.tup xs=>some (.tup (evn (xs.drop i)))
 |_=>none
def u_8 (xs:List D):Option D:=bnd (ak9 xs) λ ss=>if ss.length<1000 then some (.int ((h_8 [] ss).length:Int)) else none
def v_8:List D->Option D
 |[.lst xs]=>u_8 xs
 |[.tup xs]=>u_8 xs
 |_=>none
def zpT (xs ys:List D):List D:=(xs.zip ys).map λ p=>.tup [p.1,p.2]
def au4:D->D->Option D
 |.lst xs,.lst ys=>if xs.length<=1000 then some (.lst (zpT xs ys)) else none
 |_,_=>none
def au3:D->D->Option D
 |.tup xs,.tup ys=>if xs.length<=1000 then some (.tup (zpT xs ys)) else none
 |_,_=>none
def au6 (kds:List (Str×D)):D->Option D
 |.str k=>some (.bl (!(n_9 k kds).isSome))
 |_=>none
def G_9 (ρ:En) (o:Option (Bool×List (Str×D))):Option (List D×En):=bnd o λ q=>if q.2.length<=1000 then some (q.2.map (·.2),ρ) else none
def L_4 (i:Nat) (ρ:En):Option (List D×En):=G_9 ρ (owD ρ[i]?)
@[simp] theorem bc7 (i:Nat) (ρ:En):L_4 i ρ=G_9 ρ (owD ρ[i]?):=Eq.trans rfl rfl
@[simp] theorem aM8 (ρ:En) (b:Bool) (kds:List (Str×D)):G_9 ρ (some (b,kds))=if kds.length<=1000 then some (kds.map (·.2),ρ) else none:=Eq.trans rfl rfl
def aj1 (ρ:En) (o:Option Bool):Option (D×En):=bnd o λ b=>some (.bl (!b),ρ)
def aj2 (o:Option (D×En)):Option (D×En):=bnd o λ p=>aj1 p.2 (ax5 p.1)
def ad8 (F:FE) (ρ:En):Option (D×En):=aj2 (F ρ)
def lk1 (op:D->D->Option D) (x:D) (o:Option (D×En)):Option (D×En):=bnd o λ r=>mkP (op x r.1) r.2
def bd4 (op:D->D->Option D) (M:FE) (y:D) (ρ:En) (o:Option Bool):Option (D×En):=bnd o λ b=>if b=true then lk1 op y (M ρ) else some (.bl false,ρ)
def bd5 (op:D->D->Option D) (M:FE) (y:D) (ρ:En) (o:Option D):Option (D×En):=bnd o λ z=>bd4 op M y ρ (blB z)
def lk2 (op op':D->D->Option D) (M:FE) (x:D) (o:Option (D×En)):Option (D×En):=bnd o λ r=>bd5 op' M r.1 r.2 (op x r.1)
def bd2 (op op':D->D->Option D) (L M:FE) (y:D) (ρ:En) (o:Option Bool):Option (D×En):=bnd o λ b=>if b=true then lk2 op op' M y (L ρ) else some (.bl false,ρ)
def bd3 (op op':D->D->Option D) (L M:FE) (y:D) (ρ:En) (o:Option D):Option (D×En):=bnd o λ z=>bd2 op op' L M y ρ (blB z)
def lk3 (op op' op'':D->D->Option D) (L M:FE) (x:D) (o:Option (D×En)):Option (D×En):=bnd o λ r=>bd3 op' op'' L M r.1 r.2 (op x r.1)
def e4a (op op' op'':D->D->Option D) (G L M:FE) (o:Option (D×En)):Option (D×En):=bnd o λ p=>lk3 op op' op'' L M p.1 (G p.2)
def e4 (op op' op'':D->D->Option D) (F G L M:FE) (ρ:En):Option (D×En):=e4a op op' op'' G L M (F ρ)
end Fx
namespace Fx
open PySem PySem.W PySem.Spec PyProof.Rows L2
theorem R_3 {x y:Str} (h:x.length<=100000):(Builtin.Str.partsBetween x (Builtin.Str.occurrences x y 0 x.length (x.length+1)) y.length).length<=sizeLine:=by
 have e:=StrLaws.occ_length_le x y 0 x.length (x.length+1);have b:(100002:Nat)<=sizeLine:=by decide
 rw[length_partsBetween];omega
theorem K_8 {prog:Program}{w:World}{A:Around}{Er:Value->Shared->Prop}{s:Shared}{x y:Str}{t u:Tok}{Q:Value->Shared->Prop} (ny:(y.length==0)=false) (hx:x.length<=100000)
  (fin:∀ l k,l.map (·.1)=Txt.split x y → Q (.ref s.heap.objs.size) {s with heap:=s.heap.push {cls:=.type "list",data:=.seq (strValues l).toArray},toks:=k}) :
  wpAny (model prog w) A (call (.builtin "str.split") [.str x t,.str y u]) Q Er s:=by
 have b:(100000:Nat)<=sizeLine:=by decide
 have few:=R_3 (y:=y) hx
 by_cases c1:(decide (x.length<y.length)||decide (Builtin.Str.strKind x<Builtin.Str.strKind y))=true
 ·have alone:Txt.split x y=[x]:=if_pos c1
  exact call_meets PySem.F.slot_str_split (typeIs_str s x t) PySem.F.entry_str_split (PySem.F.args_str_split_2 (.str x t) (.str y u)) (meets_str_split_cannot_occur x y t u c1) (fin [(x,t)] s.toks alone.symm)
 ·have c1':=Bool.eq_false_iff.mpr c1
  by_cases c2:(Builtin.Str.occurrences x y 0 x.length (x.length+1)).isEmpty=true
  ·have alone:Txt.split x y=[x]:=(if_neg c1).trans (if_pos c2)
   exact call_meets PySem.F.slot_str_split (typeIs_str s x t) PySem.F.entry_str_split (PySem.F.args_str_split_2 (.str x t) (.str y u)) (meets_str_split_not_found x y t u c1' ny c2) (fin [(x,t)] s.toks alone.symm)
  ·have parts:Txt.split x y=Builtin.Str.partsBetween x (Builtin.Str.occurrences x y 0 x.length (x.length+1)) y.length:=(if_neg c1).trans (if_neg c2)
   have m:=meets_str_split_sep x y t u c1' ny (Bool.eq_false_iff.mpr c2) (Nat.le_trans hx b) few;rw[<- parts] at m;refine call_meets PySem.F.slot_str_split (typeIs_str s x t) PySem.F.entry_str_split (PySem.F.args_str_split_2 (.str x t) (.str y u)) m ?_;have go:=fin (numbered s.toks (Txt.split x y)) (s.toks+(Txt.split x y).length) (numbered_texts _ _);rw[<- strsFrom_eq] at go;exact go
section
variable {X:Cx}{pos:Pos}{o e:Expr}{F G:FE}
theorem H_2:MtR X "str.split" (λ x vs H Q=>∃ a b,x=.str a ∧ vs=[.str b] ∧ (b.length==0)=false ∧ a.length ≤ 100000 ∧ ∀ l,H l=none → Q (.ref l) (upd H l (.lst ((Txt.split a b).map V.str)))):=by
 intro pins s σ H x vs v us Q I rx rv h;obtain⟨a,b,rfl,rfl,hb,hz,q⟩:=h;obtain⟨t,rfl⟩:=rx;obtain⟨u,rfl,t2,rfl⟩:=h_9 rv;refine K_8 hb hz λ l k hl=>?_
 have big:(100002:Nat)<=sizeLine:=by decide
 have ln:(Txt.split a b).length<=sizeLine:=Nat.le_trans (split_le a b) (by omega)
 have vs':Vals ((Txt.split a b).map V.str) (strValues l):=by rw[<- hl];exact m_7 (strsAre_of_values l)
 refine⟨.ref s.heap.objs.size,_,I.laid (t':=k) (o:=.lst ((Txt.split a b).map V.str)) (λ p z hp=>qd _ hp) (qi _) ⟨by rw[List.length_map];exact ln,strValues l,0,vs',qj _ rfl⟩,rfl,q _ (I.hok.fresh (qi _))⟩
theorem E_8 {apos cpos:Pos} (ho:XE X o F) (he:XE X e G) (hbase:attributeBase o "split" X.env (eval o X.env)=eval o X.env:=by rfl)
  (hfew:((backTo cpos (starEach [e] X.env)).all (λ x=>!x.1)&&(backToKw cpos (keywordEach [] X.env)).all (λ x=>x.1.isSome)&&decide (([e]:List Expr).length+([]:List Keyword).length+(if ([]:List Keyword).isEmpty then 0 else 1)<30))=true:=by rfl)
  (hline:(apos.endLine==cpos.line)=true:=by rfl) (hs:starEach [e] X.env=[(false,eval e X.env)]:=by rfl):XE X (.Call (.Attribute o "split" apos) [e] [] cpos) (e2 i_6 F G) :=
 PE.wk (C_0 PySem.F.plainAttrs_str PySem.F.slot_str_split PySem.F.type_str_split H_2 ho (xaC he xaN hs) hbase hfew hline hs rfl) λ σ H Q hh0_=>by
  obtain⟨c,H0,ρ,d,ρ',R,f,q⟩:=hh0_;obtain⟨x,ρ1,y,h1,h2,h3⟩:=n_0 f;unfold i_6 at h3
  split at h3
  ·rename_i a b
   obtain⟨hz,rfl⟩:=ifs h3;refine⟨c,H0,ρ,_,ρ1,R,h1,λ v H1 Hh s1 R1 r1=>?_⟩
   unfold Rep at r1;subst r1;refine⟨rfl,c,H1,ρ1,[_],ρ',R1,by unfold aC aN;rw[h2];rfl,λ vs H2 Hh2 s2 R2 r2=>?_⟩
   obtain⟨u,rfl,ru⟩:=Reps.v1 r2;unfold Rep at ru;subst ru;refine⟨_,_,rfl,rfl,by simpa using hz.1,hz.2,λ l hl=>?_⟩
   have S:=Step.alloc (o:=.lst ((Txt.split a b).map V.str)) R2.same hl;refine q _ _ _ ((s1.trans s2).trans S.s0) (R2.after S) ?_;unfold Rep;exact⟨l,_,rfl,.inl (.inl a_2),o_5 _⟩
  ·cases h3
theorem S_8:MtR X "str.startswith" (λ x vs H Q=>∃ a b,x=.str a ∧ vs=[.str b] ∧ Q (.bl (Txt.startswith a b)) H):=by
 intro pins s σ H x vs v us Q I rx rv h;obtain⟨a,b,rfl,rfl,q⟩:=h;obtain⟨t,rfl⟩:=rx;obtain⟨u,rfl,t2,rfl⟩:=h_9 rv;exact PySem.SC.startswith ⟨.bl _,H,I,rfl,q⟩
theorem ak4 {apos cpos:Pos} (ho:XE X o F) (he:XE X e G) (hbase:attributeBase o "startswith" X.env (eval o X.env)=eval o X.env:=by rfl)
  (hfew:((backTo cpos (starEach [e] X.env)).all (λ x=>!x.1)&&(backToKw cpos (keywordEach [] X.env)).all (λ x=>x.1.isSome)&&decide (([e]:List Expr).length+([]:List Keyword).length+(if ([]:List Keyword).isEmpty then 0 else 1)<30))=true:=by rfl)
  (hline:(apos.endLine==cpos.line)=true:=by rfl) (hs:starEach [e] X.env=[(false,eval e X.env)]:=by rfl):XE X (.Call (.Attribute o "startswith" apos) [e] [] cpos) (e2 V_9 F G) :=
 PE.wk (C_0 PySem.F.plainAttrs_str PySem.F.slot_str_startswith PySem.F.type_str_startswith S_8 ho (xaC he xaN hs) hbase hfew hline hs rfl) λ σ H Q hh0_=>by
  obtain⟨c,H0,ρ,d,ρ',R,f,q⟩:=hh0_;obtain⟨x,ρ1,y,h1,h2,h3⟩:=n_0 f;unfold V_9 at h3
  split at h3
  ·cases h3
   refine⟨c,H0,ρ,_,ρ1,R,h1,λ v H1 Hh s1 R1 r1=>?_⟩
   unfold Rep at r1;subst r1;refine⟨rfl,c,H1,ρ1,[_],ρ',R1,by unfold aC aN;rw[h2];rfl,λ vs H2 Hh2 s2 R2 r2=>?_⟩
   obtain⟨u,rfl,ru⟩:=Reps.v1 r2;unfold Rep at ru;subst ru;exact⟨_,_,rfl,rfl,q _ H2 Hh2 (s1.trans s2) R2 (by unfold Rep;rfl)⟩
  ·cases h3
theorem W_4:CallR X (.type "int") (λ xs H Q=>∃ x n,xs=[.str x] ∧ x.length ≤ 640 ∧ PySem.intText? x=some n ∧ Q (.int n) H):=by
 intro pins s σ H xs us Q I r h;obtain⟨x,n,rfl,hz,hn,q⟩:=h;obtain⟨u,rfl,t,rfl⟩:=h_9 r;exact PySem.W.KIN.call_text hn hz ⟨.int n,H,I.tok _,⟨_,rfl⟩,q⟩
theorem ae9:BOk X (.type "int") av2:=⟨_,W_4,λ c H0 H ρ σ ds d vs Q R r e q=>by
 unfold av2 at e
 split at e
 ·rename_i x
  by_cases hz:x.length<=640
  rotate_left
  ·rw[if_neg hz] at e;cases e
  rw[if_pos hz] at e;obtain⟨v,rfl,rv⟩:=Reps.v1 r;unfold Rep at rv;subst rv;cases hn:PySem.intText? x with
  |none=>rw[hn] at e;cases e
  |some n =>
   rw[hn] at e;cases e;exact⟨_,n,rfl,hz,hn,q _ H0 H (Same.refl _) R (d_2 _ _)⟩
 ·cases e⟩
theorem W_2:CallR X (.type "str") (λ xs H Q=>(∃ x,xs=[.str x] ∧ Q (.str x) H) ∨ (∃ n:Int,xs=[.int n] ∧ n.natAbs.log2<1920 ∧ Q (.str (Str.ofString (toString n))) H) ∨ (xs=[.non] ∧ Q (.str "None") H)):=by
 intro pins s σ H xs us Q I r h
 rcases h with ⟨x,rfl,q⟩ | ⟨n,rfl,hz,q⟩ | ⟨rfl,q⟩
 ·obtain⟨u,rfl,t,rfl⟩:=h_9 r
  exact PySem.P.str_of_str ⟨.str x,H,I,⟨t,rfl⟩,q⟩
 ·obtain⟨u,rfl,t,rfl⟩:=h_9 r
  exact PySem.P.str_of_int hz ⟨.str _,H,I.tok _,⟨_,rfl⟩,q⟩
 ·obtain⟨u,rfl,e⟩:=h_9 r
  cases e;exact PySem.P.str_of_none ⟨.str _,H,I.tok _,⟨_,rfl⟩,q⟩
theorem au7:BOk X (.type "str") aY9:=⟨_,W_2,λ c H0 H ρ σ ds d vs Q R r e q=>by
 unfold aY9 at e
 split at e
 ·rename_i n
  obtain⟨hz,rfl⟩:=ifs e;obtain⟨v,rfl,rv⟩:=Reps.v1 r;unfold Rep at rv;subst rv;refine .inr (.inl ⟨_,rfl,?_,q _ H0 H (Same.refl _) R (by unfold Rep;rfl)⟩)
  by_cases z:n.natAbs=0
  ·rw[z];decide
  ·exact (Nat.log2_lt z).mpr (qo hz (by decide +kernel))
 ·cases e
  obtain⟨v,rfl,rv⟩:=Reps.v1 r;unfold Rep at rv;subst rv;exact .inl ⟨_,rfl,q _ H0 H (Same.refl _) R (by unfold Rep;rfl)⟩
 ·cases e
  obtain⟨v,rfl,rv⟩:=Reps.v1 r;unfold Rep at rv;subst rv;exact .inr (.inr ⟨rfl,q _ H0 H (Same.refl _) R (by unfold Rep;rfl)⟩)
 ·cases e⟩
end
end Fx
namespace Fx
open PySem PySem.Spec PyProof.Rows L2
def lss (H:Hp) (a:Addr):Hp:=λ b=>if b=a then none else H b
theorem ai1 {H:Hp}{a:Addr}:lss H a a=none:=if_pos rfl
theorem H_5 {H:Hp}{a b:Addr} (h:b≠a):lss H a b=H b:=if_neg h
theorem ai0 {H:Hp}{a b:Addr}{u:HO} (h:lss H a b=some u):b≠a/\H b=some u:=by
 by_cases e:b=a
 ·rw[e,ai1] at h;cases h
 ·exact⟨e,by rw[H_5 e] at h;exact h⟩
theorem R_4 {o:Option Sl}{ds:List D} (h:aM6 o=some ds):o=some (.ow false (.lst ds)):=by
 unfold aM6 at h
 split at h
 ·cases h;rfl
 ·cases h
section
variable {K:Frag}{H:Hp}{a:Addr}{us:List V}
theorem SqT.lss {b:Addr}{vs:List V} (ha:H a=some (.lst us)) (h:SqT K H b vs):SqT K (lss H a) b vs:=by
 rcases h with h | h
 ·refine .inl ?_
  have ne:b≠a:=λ e=>by
   rw[e] at h
   rcases h with h | ⟨o,h⟩ <;> rw[ha] at h <;> cases h
  rcases h with h | ⟨o,h⟩
  ·exact .inl (by rw[H_5 ne];exact h)
  ·exact .inr ⟨o,by rw[H_5 ne];exact h⟩
 ·exact .inr h
mutual
theorem Rep.lss (ha:H a=some (.lst us)):∀ (d:D) {v:V},nl d=true->Rep K H d v->Rep K (lss H a) d v
 |.non,_,_,h=>by unfold Rep at h ⊢;exact h
 |.bl _,_,_,h=>by unfold Rep at h ⊢;exact h
 |.int _,_,_,h=>by unfold Rep at h ⊢;exact h
 |.str _,_,_,h=>by unfold Rep at h ⊢;exact h
 |.tup ds,_,n,h=>by
  unfold Rep at h ⊢;obtain⟨b,vs,e,s,r⟩:=h;exact⟨b,vs,e,SqT.lss ha s,Reps.lss ha ds n r⟩
 |.lst _,_,n,_=>by cases n
 |.opq,_,n,_=>by cases n
 |.dct _ _,_,n,_=>by cases n
theorem Reps.lss (ha:H a=some (.lst us)):∀ (ds:List D) {vs:List V},nls ds=true->Reps K H ds vs->Reps K (lss H a) ds vs
 |[],_,_,h=>by unfold Reps at h ⊢;exact h
 |d::r,_,n,h=>by
  unfold nls at n;rw[Bool.and_eq_true] at n;unfold Reps at h ⊢;obtain⟨v,vr,e,h1,h2⟩:=h;exact⟨v,vr,e,Rep.lss ha d n.1 h1,Reps.lss ha r n.2 h2⟩
end
end
section
variable {K:Frag}{c:FC}{H0 H:Hp}{ρ:En}{σ:L2.St}{i:Nat}{ds:List D}
theorem RS.asList (R:RS K c H0 H ρ σ) (hi:ρ[i]?=some (.ow false (.lst ds))) :
  ∃ a vs,σ[i]?=some (some (.ref a))/\H0 a=none/\c.He a=none/\H a=some (.lst vs)/\Reps K H0 ds vs/\Same H0 (upd H0 a (.lst vs))/\RS K c (upd H0 a (.lst vs)) H (ρ.set i (.im (.lst ds))) σ:=by
 obtain⟨a,x,y,z,vs,e,r⟩:=R.ow i _ _ hi;have he:c.He a=none:=z;have il:i<ρ.length:=(List.getElem?_eq_some_iff.mp hi).1;have s0:Same H0 (upd H0 a (.lst vs)):=λ b u q=>by rw[a_3 (a_5 q y)];exact q
 have off:∀ {j:Nat}{sl:Sl},j≠i->(ρ.set i (.im (.lst ds)))[j]?=some sl->ρ[j]?=some sl:=λ hj e=>by rwa [List.getElem?_set_ne (Ne.symm hj)] at e
 have on:∀ {sl:Sl},(ρ.set i (.im (.lst ds)))[i]?=some sl->sl=.im (.lst ds):=λ e=>by
  rw[List.getElem?_set_self il] at e;exact (qh e).symm
 refine⟨a,vs,x,y,he,e,r,s0,λ b u q=>?_,R.init.trans s0,λ b u q=>?_,R.keep,R.apt,by rw[List.length_set];exact R.len,λ j d' q=>?_,λ j bb o' q=>?_,λ j k b1 b2 o' o'' b e1 e2 e3 e4=>?_⟩
 ·by_cases h:b=a
  ·subst h;rw[a_2] at q;cases q;exact e
  ·rw[a_3 h] at q;exact R.same b u q
 ·by_cases h:b=a
  ·subst h;exact .inr he
  ·rw[a_3 h] at q;exact R.fresh b u q
 ·by_cases hj:j=i
  ·subst hj
   cases on q;refine⟨.ref a,x,?_⟩;unfold Rep;exact⟨a,vs,rfl,.inl (.inl a_2),Reps.mono s0 _ r⟩
  ·obtain⟨v,a1,a2⟩:=R.im j d' (off hj q)
   exact⟨v,a1,Rep.mono s0 _ a2⟩
 ·by_cases hj:j=i
  ·subst hj;cases on q
  ·have q':=off hj q
   obtain⟨b,x1,y1,z1,w1⟩:=R.ow j bb o' q';have nb:b≠a:=λ h=>hj (R.ne j i bb false o' _ b q' hi x1 (by rw[h];exact x))
   exact⟨b,x1,by rw[a_3 nb];exact y1,z1,w1.step s0 λ u q=>q⟩
 ·by_cases hj:j=i
  ·subst hj;cases on e1
  ·by_cases hk:k=i
   ·subst hk;cases on e2
   ·exact R.ne j k b1 b2 o' o'' b (off hj e1) (off hk e2) e3 e4
theorem RS.backL {H0' H':Hp}{a:Addr}{vs:List V} (R:RS K c H0 H ρ σ) (hi:ρ[i]?=some (.ow false (.lst ds))) (one:L_2 i ρ=true) (x:σ[i]?=some (some (.ref a))) (y:H0 a=none) (he:c.He a=none) (r:Reps K H0 ds vs)
  (sm:Same (upd H0 a (.lst vs)) H0') (R':RS K c H0' H' (ρ.set i (.im (.lst ds))) σ):Same H0 (lss H0' a)/\RS K c (lss H0' a) H' ρ σ:=by
 have s0:Same H0 (lss H0' a):=λ b u q=>by
  have nb:b≠a:=λ h=>by rw[h,y] at q;cases q
  rw[H_5 nb];exact sm b u (by rw[a_3 nb];exact q)
 refine⟨s0,λ b u q=>R'.same b u (ai0 q).2,λ b u q=>s0 b u (R.init b u q),λ b u q=>R'.fresh b u (ai0 q).2,R'.keep,R'.apt,R.len,λ j d q=>?_,λ j b o q=>?_,R.ne⟩
 ·obtain⟨v,a1,a2⟩:=R.im j d q
  exact⟨v,a1,Rep.mono s0 _ a2⟩
 ·by_cases hj:j=i
  ·subst hj
   rw[hi] at q;cases q;exact⟨a,x,ai1,he,vs,R'.same a _ (sm a _ a_2),Reps.mono s0 _ r⟩
  ·unfold L_2 at one
   have:=List.all_eq_true.mp one (.ow b o) (List.mem_of_getElem? (i:=j) (by rw[List.getElem?_set_ne (Ne.symm hj)];exact q))
   cases this
end
section
variable {X:Cx}{pos:Pos}{e:Expr}{F:FE}{A:FA}{T:FT}
theorem bh1 (i:Nat) (he:XT X e T):XT X e (P_1 i T):=PT.wk he λ σ H Q hh0_=>by
 obtain⟨c,H0,ρ,d,ρ',R,f,q⟩:=hh0_;unfold P_1 P_0 at f;obtain⟨ds,h1,f⟩:=a_0 f
 by_cases hc:L_2 i ρ=true
 ·rw[if_pos hc] at f
  unfold O_9 at f;obtain⟨⟨d1,ρ1⟩,h2,f2⟩:=a_0 f
  by_cases hd:ρ1=ρ.set i (.im (.lst ds))
  ·have f4:some (d1,ρ)=some (d,ρ'):=(if_pos hd).symm.trans f2
   cases f4;subst hd;have z:=R_4 h1;obtain⟨a,vs,x,y,hE,_,r,_,R1⟩:=R.asList z;refine⟨c,_,_,d,_,R1,h2,λ H0' H' sm R'=>?_⟩
   obtain⟨s1,R2⟩:=R.backL z hc x y hE r sm R';exact q _ _ s1 R2
  ·have f4:=(if_neg hd).symm.trans f2
   cases f4
 ·rw[if_neg hc] at f
  cases f
theorem xhl (i:Nat) (he:XE X e F):XE X e (J_2 i F):=PE.wk he λ σ H Q hh0_=>by
 obtain⟨c,H0,ρ,d,ρ',R,f,q⟩:=hh0_;unfold J_2 V_3 at f;obtain⟨ds,h1,f⟩:=a_0 f
 by_cases hc:L_2 i ρ=true
 ·rw[if_pos hc] at f
  unfold V_2 at f;obtain⟨⟨d1,ρ1⟩,h2,f2⟩:=a_0 f
  by_cases hd:nl d1=true/\ρ1=ρ.set i (.im (.lst ds))
  ·have f4:some (d1,ρ)=some (d,ρ'):=(if_pos hd).symm.trans f2
   obtain⟨hn,hd⟩:=hd;cases f4;subst hd;have z:=R_4 h1;obtain⟨a,vs,x,y,hE,_,r,_,R1⟩:=R.asList z;refine⟨c,_,_,d,_,R1,h2,λ v H0' H' sm R' rv=>?_⟩
   obtain⟨s1,R2⟩:=R.backL z hc x y hE r sm R';exact q v _ _ s1 R2 (Rep.lss (sm a _ a_2) d hn rv)
  ·have f4:=(if_neg hd).symm.trans f2
   cases f4
 ·rw[if_neg hc] at f
  cases f
end
theorem Reps.dropLast {K:Frag}{H:Hp}:∀ {ds:List D}{vs:List V},Reps K H ds vs->Reps K H ds.dropLast vs.dropLast
 |[],vs,h=>by unfold Reps at h;subst h;exact Reps.nil_
 |[d],vs,h=>by
  unfold Reps at h;obtain⟨v,r,rfl,_,h2⟩:=h;unfold Reps at h2;subst h2;exact Reps.nil_
 |d::e::ds,vs,h=>by
  unfold Reps at h;obtain⟨v,r,rfl,h1,h2⟩:=h;have ih:=Reps.dropLast h2;unfold Reps at h2;obtain⟨v',r',rfl,_,_⟩:=h2;exact Reps.cons h1 ih
theorem G_2 {K:Frag}{H:Hp}{ds:List D}{vs:List V} (h:Reps K H ds vs):∀ k:Nat,Reps K H (List.replicate k ds).flatten (List.replicate k vs).flatten
 |0=>Reps.nil_
 |k+1=>by
  rw[List.replicate_succ,List.replicate_succ,List.flatten_cons,List.flatten_cons];exact h.app (G_2 h k)
section
variable {X:Cx}{pos:Pos}{o e:Expr}{F G:FE}{A:FA}{T:FT}
theorem bh2 (i:Nat) {x:Str}{p1 p2 p3:Pos} (hN:X.N[i]?=some x:=by rfl) (hv:Vis X.env.scope x:=by first | exact Or.inl rfl | exact Or.inr (Or.inl rfl) | exact Or.inr (Or.inr rfl)) (hd:(x==("__debug__":Str))=false:=by decide)
  (hcd:(x==("__classdict__":Str))=false:=by decide) (hbase:attributeBase (.Name x p1) "pop" X.env (eval (.Name x p1) X.env)=eval (.Name x p1) X.env:=by rfl)
  (hline:(p2.endLine==p3.line)=true:=by rfl) (hs:swapsWith (.Call (.Attribute (.Name x p1) "pop" p2) [] [] p3) none pos.line X.env=pure false:=by rfl) :
  XS X (.Expr (.Call (.Attribute (.Name x p1) "pop" p2) [] [] p3) pos) (aR3 i) :=
 PS.wk (t_8 (aD5 PySem.F.plainAttrs_list PySem.F.slot_list_pop PySem.F.type_list_pop aF5 (j_9 hN hv hd hcd) hbase hline) hs) λ Dn σ H hh0_=>by
  obtain⟨c,H0,ρ,r,R,f,q⟩:=hh0_;unfold aR3 aA4 at f;obtain⟨ds,h0,f⟩:=a_0 f
  by_cases hz:ds.length=0
  ·rw[if_pos hz] at f;cases f
  ·rw[if_neg hz] at f
   cases f;obtain⟨a,x1,_,_,vs,y1,z1⟩:=R.ow i _ _ (i_2 h0);have hl:=z1.length;have hy:∃ y,vs[vs.length-1]?=some y:=⟨vs[vs.length-1]'(by omega),List.getElem?_eq_getElem _⟩
   obtain⟨y,hy⟩:=hy;refine⟨.ref a,x1,.inl ⟨rfl,vs,SqL.of y1⟩,a,vs,y,rfl,rfl,y1,hy,?_⟩;exact q σ H0 _ (Same.refl _) (R.mutOwn (o':=.lst ds.dropLast) (u:=.lst vs.dropLast) (i_2 h0) x1 ⟨_,a_2,Reps.dropLast z1⟩)
theorem bh6 (i:Nat) {x:Str}{p1 p2 p3:Pos} (he:XO' X e A) (hN:X.N[i]?=some x:=by rfl) (hv:Vis X.env.scope x:=by first | exact Or.inl rfl | exact Or.inr (Or.inl rfl) | exact Or.inr (Or.inr rfl)) (hd:(x==("__debug__":Str))=false:=by decide)
  (hcd:(x==("__classdict__":Str))=false:=by decide) (hbase:attributeBase (.Name x p1) "extend" X.env (eval (.Name x p1) X.env)=eval (.Name x p1) X.env:=by rfl)
  (hfew:((backTo p3 (starEach [e] X.env)).all (λ x=>!x.1)&&(backToKw p3 (keywordEach [] X.env)).all (λ x=>x.1.isSome)&&decide ([e].length+([]:List Keyword).length+(if ([]:List Keyword).isEmpty then 0 else 1)<30))=true:=by rfl)
  (hline:(p2.endLine==p3.line)=true:=by rfl) (hst:starEach [e] X.env=(false,eval e X.env)::starEach [] X.env:=by rfl) (hpl:(backTo p3 (starEach [] X.env)).any (·.1)=false:=by rfl)
  (hs:swapsWith (.Call (.Attribute (.Name x p1) "extend" p2) [e] [] p3) none pos.line X.env=pure false:=by rfl) :
  XS X (.Expr (.Call (.Attribute (.Name x p1) "extend" p2) [e] [] p3) pos) (aR7 i A) :=
 PS.wk (t_8 (C_0 PySem.F.plainAttrs_list PySem.F.slot_list_extend PySem.F.type_list_extend S_9 (j_9 hN hv hd hcd) (e_2 he i_1 hst) hbase hfew hline hst hpl) hs) λ Dn σ H hh0_=>by
  obtain⟨c,H0,ρ,r,R,f,q⟩:=hh0_;unfold aR7 aA7 at f;obtain⟨ds0,h0,f⟩:=a_0 f;unfold aA6 at f;obtain⟨⟨xs,ρ1⟩,h1,f⟩:=a_0 f;unfold aA5 at f;obtain⟨ds,h2,f⟩:=a_0 f;dsimp only at h2 f;obtain⟨hl,f'⟩:=ifs f;cases f';obtain⟨a,x1,_,_,vs0,y1,_⟩:=R.ow i _ _ (i_2 h0);refine⟨.ref a,x1,.inl ⟨rfl,vs0,SqL.of y1⟩,c,H0,ρ,xs,ρ1,R,h1,λ p vs H1 Hh s1 R1 hp r1=>?_⟩
  have S:=Step.alloc (o:=.lst vs) R1.same hp;have R2:=R1.after S;obtain⟨a',x2,_,_,ws,y2,z2⟩:=R2.ow i _ _ (i_2 h2);rw[x1] at x2;cases x2;have l1:=z2.length;have l2:=r1.length;refine⟨a,p,ws,vs,rfl,rfl,y2,a_2,?_,?_⟩
  ·have:(1000:Nat)<=sizeLine:=by decide
   omega
  ·exact q σ _ _ (s1.trans S.s0) (R2.mutOwn (o':=.lst (ds++xs)) (u:=.lst (ws++vs)) (i_2 h2) x1 ⟨_,a_2,z2.app (Reps.mono S.s0 _ r1)⟩)
theorem ak5 {apos cpos:Pos} (ho:XE X o F) (he:XE X e G) (hbase:attributeBase o "split" X.env (eval o X.env)=eval o X.env:=by rfl)
  (hfew:((backTo cpos (starEach [e] X.env)).all (λ x=>!x.1)&&(backToKw cpos (keywordEach [] X.env)).all (λ x=>x.1.isSome)&&decide (([e]:List Expr).length+([]:List Keyword).length+(if ([]:List Keyword).isEmpty then 0 else 1)<30))=true:=by rfl)
  (hline:(apos.endLine==cpos.line)=true:=by rfl) (hs:starEach [e] X.env=[(false,eval e X.env)]:=by rfl):XO' X (.Call (.Attribute o "split" apos) [e] [] cpos) (oFr (e2 i_6 F G)) :=
 PE.wk (C_0 PySem.F.plainAttrs_str PySem.F.slot_str_split PySem.F.type_str_split H_2 ho (xaC he xaN hs) hbase hfew hline hs rfl) λ σ H Q hh0_=>by
  obtain⟨c,H0,ρ,ds,ρ',R,f,q⟩:=hh0_;unfold oFr lsA at f;obtain⟨⟨d,ρ2⟩,f,f2⟩:=a_0 f;obtain⟨x,ρ1,y,h1,h2,h3⟩:=n_0 f;unfold i_6 at h3
  split at h3
  ·rename_i a b
   obtain⟨hz,rfl⟩:=ifs h3;cases f2;refine⟨c,H0,ρ,_,ρ1,R,h1,λ v H1 Hh s1 R1 r1=>?_⟩
   unfold Rep at r1;subst r1;refine⟨rfl,c,H1,ρ1,[_],ρ2,R1,by unfold aC aN;rw[h2];rfl,λ vs H2 Hh2 s2 R2 r2=>?_⟩
   obtain⟨u,rfl,ru⟩:=Reps.v1 r2;unfold Rep at ru;subst ru;exact⟨_,_,rfl,rfl,by simpa using hz.1,hz.2,λ l hl=>q l _ H2 Hh2 (s1.trans s2) R2 hl (o_5 _)⟩
  ·cases h3
theorem aO7 {es:List Expr}{lp:Pos} (h:XA X es A) (hn:XE X e G):XO' X (.BinOp (.List es lp) .Mult e pos) (aU4 A G) :=
 PE.wk (an6 aD9 (ah5 h) hn) λ σ H Q hh0_=>by
  obtain⟨c,H0,ρ,ds,ρ',R,f,q⟩:=hh0_;unfold aU4 aE8 at f;obtain⟨⟨xs,ρ1⟩,h1,f⟩:=a_0 f;unfold aE7 at f;obtain⟨⟨d,ρ2⟩,h2,f⟩:=a_0 f;unfold aE6 at f;obtain⟨k,h3,f⟩:=a_0 f;dsimp only at h2 h3 f;obtain⟨⟨k1,k2,hl⟩,f'⟩:=ifs f;cases f';refine⟨c,H0,ρ,xs,ρ1,R,h1,λ vs H1 Hh s1 R1 r1=>⟨by rw[<- r1.length];exact al6 hl,λ p hp=>?_⟩⟩
  have S:=Step.alloc (o:=.lst vs) R1.same hp;have R2:=R1.after S;refine⟨c,_,ρ1,d,ρ',R2,h2,λ v H3 Hh3 s3 R3 rv=>?_⟩
  unfold bd8 at h3
  split at h3
  rotate_left
  ·cases h3
  cases h3;unfold Rep at rv;subst rv;have lv:=r1.length;refine⟨p,k,vs,rfl,rfl,R3.same _ _ (s3 _ _ a_2),by omega,by omega,?_,λ l hl'=>?_⟩
  ·have:vs.length*k.toNat<=1000*1000:=Nat.mul_le_mul (by omega) (by omega)
   have:(1000*1000:Nat)<=sizeLine:=by decide
   omega
  ·exact q l _ H3 Hh3 (s1.trans (S.s0.trans s3)) R3 hl' (G_2 (Reps.mono (S.s0.trans s3) _ r1) _)
theorem aO8 {a b:Expr} (ha:XE X a F) (hb:XE X b G):XO' X (.BinOp a .Add b pos) (oFr (e2 b_7 F G)) :=
 PE.wk (an6 R_7 ha hb) λ σ H Q hh0_=>by
  obtain⟨c,H0,ρ,ds,ρ',R,f,q⟩:=hh0_;unfold oFr lsA at f;obtain⟨⟨d,ρ2⟩,f,f2⟩:=a_0 f;obtain⟨x,ρ1,y,h1,h2,h3⟩:=n_0 f;unfold b_7 at h3
  split at h3
  ·cases h3;cases f2
  ·obtain⟨_,rfl⟩:=ifs h3;cases f2
  ·rename_i xs ys
   obtain⟨hz,rfl⟩:=ifs h3;cases f2;refine⟨c,H0,ρ,_,ρ1,R,h1,λ v H1 Hh s1 R1 r1=>⟨c,H1,ρ1,_,ρ2,R1,h2,λ u H2 Hh2 s2 R2 r2=>?_⟩⟩
   have r1':=Rep.mono s2 _ r1;unfold Rep at r1' r2;obtain⟨p,vs,rfl,sp,rp⟩:=r1';obtain⟨p2,ws,rfl,sp2,rp2⟩:=r2;have l1:=rp.length;have l2:=rp2.length;exact⟨p,p2,vs,ws,rfl,rfl,Same.seq R2.same sp,Same.seq R2.same sp2,by omega,λ l hl=>q l _ H2 Hh2 (s1.trans s2) R2 hl (rp.app rp2)⟩
  ·cases h3
theorem xfr (h:XO' X e A):XE X e (eFr A):=PE.wk h λ σ H Q hh0_=>by
 obtain⟨c,H0,ρ,d,ρ',R,f,q⟩:=hh0_;unfold eFr aN7 at f;obtain⟨⟨ds,ρ1⟩,h1,f⟩:=a_0 f;cases f;refine⟨c,H0,ρ,ds,ρ1,R,h1,λ p vs H1 Hh s1 R1 hp r1=>?_⟩
 have S:=Step.alloc (o:=.lst vs) R1.same hp;refine q _ _ _ (s1.trans S.s0) (R1.after S) ?_;unfold Rep;exact⟨p,vs,rfl,.inl (.inl a_2),Reps.mono S.s0 _ r1⟩
end
end Fx
namespace L2
open PySem PySem.Spec PyProof.Rows
theorem Inv.turnedL {X:Cx}{pins:List (Addr×Obj)}{σ:St}{H:Hp}{s:Shared}{h':Heap}{t':Nat}{fs:List Addr} (I:Inv X pins σ H s) (k:∀ b o,b∉fs->s.heap.get? b=some o->h'.get? b=some o) (hf:∀ b∈fs,FpOk X pins H b) :
  Inv X pins σ H {s with heap:=h',toks:=t'}:=by
 have out:∀ b u,H b=some u->b∉fs:=λ b u e z=>by rw[(hf b z).1] at e;cases e
 refine I.step (g':=s.gens) (d':=s.drawn) (ch:=fs) (λ b hb=>?_) (λ b o _ _ hc e _=>k b o hc e) (λ b o _ _ hc e _=>⟨o.slots,k b o hc e⟩) (λ _ _ _ _ n=>n)
  (λ b o hc e=>⟨o,k b o hc e⟩) (λ _ _ e=>e) (λ _ _ _ e=>e) (λ b ps e=>⟨#[],by rw[e];simp⟩) (λ m hm=>?_) (λ b u e=>?_) I.bare
 ·obtain⟨_,z1,_,z3,z4,z5⟩:=hf b hb
  exact⟨z3,z1,z4,z5⟩
 ·obtain⟨o,es,ep,ho,r⟩:=hm
  exact⟨o,es,ep,k _ o (λ z=>(hf _ z).2.1 rfl) ho,r⟩
 ·refine (I.hok b u e).stay (λ c v hc q=>k c v ?_ q) (λ _ q=>q) λ _ _ q=>q
  rcases hc with z | z
  ·rw[z];exact out b u e
  ·exact out _ _ z
theorem FpOk.upd {X:Cx}{pins:List (Addr×Obj)}{H:Hp}{b p:Addr}{u:HO} (h:FpOk X pins H b) (n:b≠p):FpOk X pins (upd H p u) b:=⟨by rw[a_3 n];exact h.1,h.2⟩
end L2
namespace Fx
open PySem PySem.Spec PyProof.Rows L2
def E_3 (K:Frag) (J:It) (H1:Hp) (xs:List D):Prop:=∀ (H0 H:Hp) (i:Nat),Same H1 H0->Same H0 H ->
 (∀ d,xs[i]?=some d->J.go i H/\∀ x H',J.yld i H x H'->∃ H0',Step H0 H H0' H'/\Rep K H0' d x)/\(xs.length<=i->J.stop i H)
theorem ar0 {K:Frag}{c:FC}{H1 Hh:Hp}{ρ:En}{σ:L2.St}{g:GD}{B:FS}{xs:List D}{J:It}{Dn:Ends}{r:Res} (R:RS K c H1 Hh ρ σ) (hf:fGo g B xs ρ=some r) (hy:E_3 K J H1 xs) (q:Post K c Dn H1 r) :
  ∃ W:Nat->Nat->L2.St->Hp->Prop,(∃ m,W 0 m σ Hh)/\∀ i m σ H,W i m σ H ->
   (J.stop i H/\Dn.nx σ H)\/(J.go i H/\∃ N:L2.St->Hp->Prop,(∀ σ' H',N σ' H'->∃ m',m'<m/\W (i+1) m' σ' H')/\∀ x H',J.yld i H x H'->tG K g x σ H' λ σ2 H2=>tS K B {Dn with nx:=N,ct:=N,bk:=Dn.nx} σ2 H2):=by
 refine⟨λ i m σ H=>m=xs.length-i/\i<=xs.length/\∃ H0 ρ,Same H1 H0/\RS K c H0 H ρ σ/\fGo g B (xs.drop i) ρ=some r,⟨xs.length,by simp,Nat.zero_le _,H1,ρ,Same.refl _,R,by simpa using hf⟩,?_⟩
 rintro i m σ H ⟨rfl,hi,H0,ρ,s0,R0,hg⟩;obtain⟨y1,y2⟩:=hy H0 H i s0 R0.same
 by_cases hlt:i<xs.length
 ·have hd:xs[i]?=some xs[i]:=by simp[hlt]
  obtain⟨go,yl⟩:=y1 _ hd;refine .inr ⟨go,λ σ' H'=>∃ m',m'<xs.length-i/\m'=xs.length-(i+1)/\i+1<=xs.length/\∃ H0 ρ,Same H1 H0/\RS K c H0 H' ρ σ'/\fGo g B (xs.drop (i+1)) ρ=some r,λ σ' H' ⟨m',a,b⟩=>⟨m',a,b⟩,λ x H' hx=>?_⟩
  obtain⟨H0',S,rx⟩:=yl x H' hx;rw[p_7 hd,I_4] at hg;obtain⟨ρ1,g1,hg⟩:=a_0 hg;obtain⟨z,g2,hg⟩:=a_0 hg;refine⟨c,H0',ρ,_,ρ1,R0.after S,rx,g1,λ σ1 H2 Hh2 s2 R2=>⟨c,H2,ρ1,z,R2,g2,?_⟩⟩
  have s01:=s0.trans S.s0;cases z with
  |nx ρ2=>exact λ σ' H3 Hh3 s3 R3=>⟨_,by omega,rfl,hlt,H3,ρ2,s01.trans (s2.trans s3),R3,hg⟩
  |ct ρ2=>exact λ σ' H3 Hh3 s3 R3=>⟨_,by omega,rfl,hlt,H3,ρ2,s01.trans (s2.trans s3),R3,hg⟩
  |bk ρ2 =>
   have hg':some (Res.nx ρ2)=some r:=hg;cases hg';exact λ σ' H3 Hh3 s3 R3=>q σ' H3 Hh3 (s01.trans (s2.trans s3)) R3
  |rt d ρ2 =>
   have hg':some (Res.rt d ρ2)=some r:=hg;cases hg';exact λ v σ' H3 Hh3 s3 R3 r3=>q v σ' H3 Hh3 (s01.trans (s2.trans s3)) R3 r3
 ·have hn:xs.drop i=[]:=List.drop_eq_nil_of_le (by omega)
  rw[hn,U_5] at hg;have hg':some (Res.nx ρ)=some r:=hg;cases hg';exact .inl ⟨y2 (by omega),q σ H0 H s0 R0⟩
def Ite (K:Frag) (l:Addr):It :=
 ⟨λ i H=>∃ xs x,SqL K H l xs/\xs[i]?=some x,λ i H x H'=>∃ v p,(∀ xs,SqL K H l xs->xs[i]?=some v)/\x=.ref p/\H p=none/\H'=upd H p (.tup [.int i,v]),λ i H=>∃ xs,SqL K H l xs/\xs.length<=i⟩
theorem O_7 {P:Program}{w:World}{K:Frag}{elts:List Expr}{x1:Nat}{pt:Pos} (l e it:Addr) (ne:e≠it):Turn P w K (.Tuple elts x1 pt) (Ite K l) [e,it] e (λ i h=>∃ old,IsEnum h e it i old/\h.IsListIter it l i) where
 mem:=qf
 obj:=λ i h hh0_ b hb=>by
  obtain⟨old,st,li⟩:=hh0_
  rcases qr hb with rfl | hb
  ·exact⟨_,st,λ v z=>by cases z⟩
  ·obtain⟨o,a,c,d⟩:=li
   rw[List.mem_singleton.mp hb];exact⟨o,a,λ v z=>by rw[d] at z;cases z⟩
 keep:=λ i h h' ⟨old,st,li⟩ k=>⟨old,k e (by simp) _ st,li.at λ o q=>k it (by simp) o q⟩
 item:=λ X hP hw hK hc i pins s σ H E I hf hh0_ hh1_=>by
  obtain⟨old,st,li⟩:=hh0_;obtain⟨xs,x,sq,hx⟩:=hh1_;subst hP hw hK;obtain⟨its,rv,pl,hz⟩:=I.list sq;obtain⟨u,hu,ru⟩:=rv.get hx;have lte:e<s.heap.objs.size:=qk st;have lti:it<s.heap.objs.size:=by obtain⟨_,q,_⟩:=id li;exact qk q
  have hp:H s.heap.objs.size=none:=I.hok.fresh (qi _);refine wpAny_pyNext_enum_item st li pl.isList (x:=u) (by simpa using hu) ne λ h1 k1 k2 k3 k4 k5=>⟨_,rfl,?_⟩
  refine wpAny_letOwnedTupleGo_enum (s:={s with heap:=h1,toks:=s.toks+1}) k1 λ h2 e2 sb=>?_
  have I0:Inv X pins σ (upd H s.heap.objs.size (.tup [.int i,x])) {s with heap:=s.heap.push {cls:=.type "tuple",data:=.seq #[.int i s.toks,u]},toks:=s.toks+1} :=
   I.laid (t':=s.toks+1) (λ b o q=>qd _ q) (qi _) (show ObjOk X.prog X.w _ _ _ (.tup [.int i,x]) from ⟨by show (2:Nat)<=sizeLine;decide,[.int i s.toks,u],.cons ⟨_,rfl⟩ (.cons ru .nil),IsTuN.new _ _⟩)
  have fp:∀ b∈[e,it],FpOk X pins (upd H s.heap.objs.size (.tup [.int i,x])) b:=λ b hb=>(hf b hb).upd (by
   rcases qr hb with rfl | hb
   ·exact qp lte
   ·rw[List.mem_singleton.mp hb];exact qp lti)
  have I2:Inv X pins σ (upd H s.heap.objs.size (.tup [.int i,x])) {s with heap:=h2,toks:=s.toks+1}:=Inv.turnedL (s:={s with heap:=s.heap.push {cls:=.type "tuple",data:=.seq #[.int i s.toks,u]},toks:=s.toks+1}) (t':=s.toks+1) (fs:=[e,it]) I0 (λ b q hb z=>by
   have b1:b≠e:=λ y=>hb (by simp[y])
   have b2:b≠it:=λ y=>hb (by simp[y])
   refine (sb.2 b b1).trans ?_
   rcases Heap.get?_push_cases z with ⟨z1,z2⟩ | z
   ·rw[z1,z2];exact k3
   ·exact k5 b q b1 b2 z) fp
  refine⟨.ref s.heap.objs.size,_,I2,rfl,⟨x,_,λ ys hy=>by rw[I.list_inj hy sq];exact hx,rfl,hp,rfl⟩,⟨_,by rw[show ((i+1:Nat):Int)=(i:Int)+1 by omega];exact e2,k2.at λ o q=>(sb.2 it (Ne.symm ne)).trans q⟩,λ b hb=>(fp b hb).1⟩
 done:=λ X hP hw hK hc i pins s σ H E I hf hh0_ hh1_=>by
  obtain⟨old,st,li⟩:=hh0_;obtain⟨xs,sq,hx⟩:=hh1_;subst hP hw hK;obtain⟨its,rv,pl,hz⟩:=I.list sq;have hl:=rv.length;exact wpAny_pyNext_enum_end (I.ok.hd hc) st li pl.isList (by simp;omega) λ h' eb=>⟨rfl,I.turnedL (t':=s.toks) (fs:=[e,it]) (λ b o hb q=>eb b o (λ y=>hb (by simp[y])) q) hf⟩
 self:=λ _ _ _ _ _ ⟨_,st,_⟩ h=>wpAny_pyIter_enum st h
def bm3 (K:Frag) (t:TE):TI:=λ σ H R=>t σ H λ x H1=>∃ a xs,x=.ref a/\SqL K H1 a xs/\R (Ite K a) H1
theorem Q_8 {X:Cx}{elts:List Expr}{x1:Nat}{pt:Pos}{l:Expr}{tl:TE}{p pos:Pos} (hg:Gl X "enumerate") (hm:X.mg "enumerate"=none) (hl:PE X l tl) (hs:starEach [l] X.env=[(false,eval l X.env)]:=by rfl):PI X (.Tuple elts x1 pt) (.Call (.Name "enumerate" p) [l] [] pos) (bm3 X.K tl):=by
 intro pins s σ H R I h;refine Call_ (l_0 I hg hm (u:=.type "enumerate") (by decide +kernel) (PyProof.Rows.callWith_type1 (thn (e_2 hl i_1 hs pos pins s σ H (λ vs H1=>match vs with | [x]=>(∃ a xs,x=.ref a ∧ SqL X.K H1 a xs ∧ R (Ite X.K a) H1) | _=>False) I h) λ us s1=>ex5 λ vs H1 I1 r1 q1=>?_) hs rfl))
 match vs,q1,r1 with
 |[x],q1,r1 =>
  obtain⟨a,xs,rfl,sq,q⟩:=q1;obtain⟨u,rfl,ru⟩:=h_9 r1;cases ru;obtain⟨its,rv,pl,hz⟩:=I1.list sq;refine call_enumerate_list pl.isList λ h' st li sz k=>?_
  refine wpAny_pyIter_enum st ⟨s1.heap.objs.size+1,[s1.heap.objs.size+1,s1.heap.objs.size],_,_,H1,rfl,I1.kept (t':=s1.toks) k,O_7 a (s1.heap.objs.size+1) s1.heap.objs.size (Nat.succ_ne_self _),⟨_,st,li⟩,λ b hb=>?_,q⟩
  rcases qr hb with rfl | hb
  ·exact I1.fpOk (Nat.le_succ _) (I1.hok.fresh (Nat.le_succ _))
  ·rw[List.mem_singleton.mp hb];exact I1.fpOk (qi _) (I1.hok.fresh (qi _))
theorem I_8:∀ (xs:List D) (k:Nat),(r_1 k xs).length=xs.length
 |[],_=>rfl
 |_::r,k=>by show (r_1 (k+1) r).length+1=r.length+1;rw[I_8 r]
theorem I_9:∀ (xs:List D) (k i:Nat) {d:D},(r_1 k xs)[i]?=some d->∃ y,xs[i]?=some y/\d=.tup [.int ((k+i:Nat):Int),y]
 |[],_,_,_,h=>by cases h
 |x::r,k,0,d,h=>by cases h;exact⟨x,rfl,rfl⟩
 |x::r,k,i+1,d,h=>by
  obtain⟨y,a,b⟩:=I_9 r (k+1) i (show (r_1 (k+1) r)[i]?=some d from h);exact⟨y,a,by rw[b,show k+1+i=k+(i+1) by omega]⟩
theorem o_0 {K:Frag}{H1:Hp}{a:Addr}{vs:List V}{xs:List D} (rd:SqL K H1 a vs) (r:Reps K H1 xs vs):E_3 K (Ite K a) H1 (r_1 0 xs):=λ H0 H i s s'=>by
 have sq:SqL K H a vs:=Same.seq (s.trans s') rd;refine⟨λ d e=>?_,λ h=>⟨vs,sq,by rw[<- r.length,<- I_8 xs 0];exact h⟩⟩
 obtain⟨y,e1,rfl⟩:=I_9 xs 0 i e;obtain⟨v,e2,rv⟩:=r.get e1;refine⟨⟨vs,v,sq,e2⟩,λ x H' hh0_=>?_⟩
 obtain⟨v',p,ez,ex,hp,eH⟩:=hh0_;have ez:=ez vs sq;subst ex eH;rw[e2] at ez;cases ez;have S:=Step.alloc (o:=.tup [.int i,v]) s' hp;refine⟨_,S,?_⟩;rw[Nat.zero_add];unfold Rep;exact⟨p,_,rfl,.inl (.inl a_2),Reps.cons (d_2 _ _) (Reps.one (Rep.mono (s.trans S.s0) _ rv))⟩
section
variable {X:Cx}{pos:Pos}{F:FE}{B:FS}
theorem aO9 {elts:List Expr}{x1:Nat}{pt:Pos}{a:Expr}{body:List Stmt}{g:GD}{p pos':Pos} (hm:X.mg "enumerate"=none) (hg:XG X (.Tuple elts x1 pt) g) (ha:XE X a F) (hb:XSs X body B) (hgl:Gl X "enumerate":=by rfl)
  (hp:PassesOwn (model X.prog X.w) X.A X.env X.xe:=by exact PassesOwn.never) (hc:X.calm=true:=by rfl) (hst:starEach [a] X.env=[(false,eval a X.env)]:=by rfl)
  (hs:∀ x,foldedSetIterable (.Call (.Name "enumerate" p) [a] [] pos') X.env x=pure x:=by intro _;rfl) :
  XS X (.For (.Tuple elts x1 pt) (.Call (.Name "enumerate" p) [a] [] pos') body [] pos) (Z_8 g F B):=PS.wk (G_4 hp hc (Q_8 hgl hm ha hst) hg hb hs) λ Dn σ H hh0_=>by
 obtain⟨c,H0,ρ,r,R,f,q⟩:=hh0_;unfold Z_8 F_9 at f;obtain⟨⟨d,ρ1⟩,h1,f⟩:=a_0 f;unfold F_8 at f;obtain⟨xs,h2,f⟩:=a_0 f;dsimp only at h2 f;unfold lsX at h2
 split at h2
 rotate_left
 ·cases h2
 cases h2;refine⟨c,H0,ρ,_,ρ1,R,h1,λ v H1 Hh s1 R1 r1=>?_⟩
 unfold Rep at r1;obtain⟨a,vs,rfl,sq,rs⟩:=r1;exact⟨a,vs,rfl,Same.seq R1.same sq,ar0 R1 f (o_0 sq rs) (q.mono s1)⟩
end
end Fx
namespace Fx
open PySem PySem.W PyProof.Rows
section
variable {n:Nat}{r:Nat->Nat}
abbrev ltR (r:Nat->Nat) (i j:Nat):Bool:=decide (r i<r j)
structure OkP (n:Nat) (p:Array Nat):Prop where
 size:p.size=n
 perm:p.toList.Perm (List.range n)
end
end Fx
namespace Fx
open PySem PySem.Spec PyProof.Rows L2
def bo3:D->Value->Prop
 |.int i,v=>∃ t,v=.int i t
 |.str a,v=>∃ t,v=.str a t
 |_,_=>False
inductive Flats:List D->List Value->Prop
 |nil:Flats [] []
 |cons {d:D}{u:Value}{ds:List D}{us:List Value} (h:bo3 d u) (r:Flats ds us):Flats (d::ds) (u::us)
theorem Flats.length {ds:List D}{us:List Value} (h:Flats ds us):ds.length=us.length:=by
 induction h with
 |nil=>rfl
 |cons _ _ ih=>simp[ih]
end Fx
namespace Fx
open PySem PySem.W PySem.Spec PyProof.Rows
section
variable {prog:Program}{w:World}{A:Around}{E:Value->Shared->Prop}{s:Shared}
structure Asks (prog:Program) (w:World) (A:Around) (s:Shared) (a:Addr) (vs:List Value) (κ:SortKind) (r:Nat->Nat):Prop where
 kind:2<=vs.length->∀ h',(∀ b o,b≠a->s.heap.get? b=some o->h'.get? b=some o)->∀ Q:SortKind->Shared->Prop,Q κ {s with heap:=h'}->wpAny (model prog w) A (keyKind' vs.toArray) Q (λ _ _=>False) {s with heap:=h'}
 ask:∀ h',(∀ b o,b≠a->s.heap.get? b=some o->h'.get? b=some o)->∀ i j,i<vs.length->j<vs.length->∀ C:Bool->Shared->Prop,C (ltR r i j) {s with heap:=h'}->kas_ask prog w A κ vs i j C {s with heap:=h'}
end
end Fx
namespace Fx
open PySem PySem.W PySem.Spec PyProof.Rows L2
end Fx
namespace Fx
open PySem PySem.W PyProof.Rows
structure Cmp (prog:Program) (w:World) (A:Around) (s:Shared) (κ:SortKind) (rk:Keyed->Nat) (M:Keyed->Prop):Prop where
 ask:∀ x y,M x->M y->∀ Q:Bool->Shared->Prop,Q (decide (rk x<rk y)) s->wpAny (model prog w) A (keyLt' κ x.1 y.1) Q (λ _ _=>False) s
structure Gm (le:Keyed->Keyed->Prop) (T out P Q:List Keyed):Prop where
 perm:(out++P++Q).Perm T
 so:out.Pairwise le
 bp:∀ x∈out,∀ y∈P,le x y
 bq:∀ x∈out,∀ y∈Q,le x y
 sp:P.Pairwise le
 sq:Q.Pairwise le
def leR (rk:Keyed->Nat) (x y:Keyed):Prop:=rk x<=rk y
section
variable {prog:Program}{w:World}{A:Around}{E:Value->Shared->Prop}{s:Shared}{κ:SortKind}{rk:Keyed->Nat}{M:Keyed->Prop}
variable {a b:Array Keyed}{T:List Keyed}{out:Array Keyed}{ia ib:Nat}{x y z:Keyed}
abbrev LG (rk:Keyed->Nat) (a b:Array Keyed) (out:Array Keyed) (ia ib:Nat):Prop:=Gm (leR rk) (a.toList++b.toList) out.toList (a.toList.drop ia) (b.toList.drop ib)
end
def Rk (rk:Keyed->Nat) (xs:Array Keyed) (i:Nat):Nat:=match xs[i]? with
 |some x=>rk x
 |none=>0
theorem v_9 {rk:Keyed->Nat}{xs ys:Array Keyed}{i j:Nat} (h:xs[i]?=ys[j]?):Rk rk xs i=Rk rk ys j:=by unfold Rk;rw[h]
def Kp (lo:Nat) (a xs:Array Keyed):Prop:=xs.Perm a/\∀ i,i<lo->xs[i]?=a[i]?
theorem Kp.size {lo:Nat}{a xs:Array Keyed} (h:Kp lo a xs):xs.size=a.size:=h.1.size_eq
def UpO (rk:Keyed->Nat) (xs:Array Keyed) (lo m:Nat):Prop:=∀ i j,i<=j->j<m->Rk rk xs (lo+i)<=Rk rk xs (lo+j)
section
variable {prog:Program}{w:World}{A:Around}{E:Value->Shared->Prop}{s:Shared}{κ:SortKind}{rk:Keyed->Nat}{M:Keyed->Prop}
theorem aK8 {xs:Array Keyed}{k d:Nat} (hs:k<xs.size) (hd:d<=k) (i:Nat):Rk rk (bubble xs k d) i=if i=k-d then Rk rk xs k else if k-d<i/\i<=k then Rk rk xs (i-1) else Rk rk xs i:=by
 have e:=getElem?_bubble hs d hd i
 by_cases h1:i=k-d
 ·rw[if_pos h1] at e ⊢;exact v_9 e
 ·rw[if_neg h1] at e ⊢
  by_cases h2:k-d<i/\i<=k
  ·rw[if_pos h2] at e ⊢;exact v_9 e
  ·rw[if_neg h2] at e ⊢;exact v_9 e
structure Gap (rk:Keyed->Nat) (xs:Array Keyed) (lo k l r:Nat):Prop where
 ord:l<=r/\r<=k
 below:∀ i<l,Rk rk xs (lo+i)<=Rk rk xs (lo+k)
 above:∀ i<k,r<=i->Rk rk xs (lo+k)<Rk rk xs (lo+i)
theorem Gap.all {xs:Array Keyed}{lo k:Nat}:Gap rk xs lo k 0 k:=⟨⟨Nat.zero_le _,qi _⟩,λ i z=>absurd z (Nat.not_lt_zero i),λ i z y=>absurd (qo z y) (Nat.lt_irrefl _)⟩
theorem Gap.put {xs:Array Keyed}{lo k l:Nat} (g:Gap rk xs lo k l l) (up:UpO rk xs lo k) (hk:lo+k<xs.size):UpO rk (bubble xs (lo+k) (k-l)) lo (k+1):=by
 have o:=g.ord.2
 have at':∀ i,i<=k->Rk rk (bubble xs (lo+k) (k-l)) (lo+i)=if i=l then Rk rk xs (lo+k) else if l<i then Rk rk xs (lo+(i-1)) else Rk rk xs (lo+i):=λ i ik=>by
  rw[aK8 hk (by omega)]
  by_cases c1:i=l
  ·rw[if_pos c1,if_pos (by omega)]
  ·rw[if_neg c1,if_neg (by omega)]
   by_cases c2:l<i
   ·rw[if_pos c2,if_pos ⟨by omega,by omega⟩]
    congr 1
    omega
   ·rw[if_neg c2,if_neg (by omega)]
 intro i j ij jk;rw[at' i (by omega),at' j (by omega)]
 rcases Nat.lt_trichotomy i l with ci | ci | ci
 ·rw[if_neg (by omega),if_neg (by omega)]
  rcases Nat.lt_trichotomy j l with cj | cj | cj
  ·rw[if_neg (by omega),if_neg (by omega)];exact up i j ij (by omega)
  ·rw[if_pos cj];exact g.below i ci
  ·rw[if_neg (by omega),if_pos cj];exact up i (j-1) (by omega) (by omega)
 ·rw[if_pos ci]
  by_cases cj:j=l
  ·rw[if_pos cj];exact qi _
  ·rw[if_neg cj,if_pos (by omega)];exact Nat.le_of_lt (g.above (j-1) (by omega) (by omega))
 ·rw[if_neg (by omega),if_pos ci,if_neg (by omega),if_pos (by omega)]
  exact up (i-1) (j-1) (by omega) (by omega)
end
def rows:List (List Keyed×Nat)->Nat->List (Nat×Nat×Nat)
 |[],_=>[]
 |r::t,o=>(o,r.1.length,r.2)::rows t (o+r.1.length)
def n_5 (rs:List (List Keyed×Nat)):List Keyed:=(rs.map (·.1)).flatten
theorem U_3 (a b:List (List Keyed×Nat)):n_5 (a++b)=n_5 a++n_5 b:=by unfold n_5;rw[List.map_append,List.flatten_append]
theorem s_8 (r:List Keyed×Nat) (b:List (List Keyed×Nat)):n_5 (r::b)=r.1++n_5 b:=by unfold n_5;rw[List.map_cons,List.flatten_cons]
theorem G_0:∀ (a b:List (List Keyed×Nat)) (o:Nat),rows (a++b) o=rows a o++rows b (o+(n_5 a).length)
 |[],b,o=>rfl
 |r::a,b,o=>by
  rw[List.cons_append];show (o,r.1.length,r.2)::rows (a++b) (o+r.1.length)=(o,r.1.length,r.2)::(rows a (o+r.1.length)++rows b _);rw[G_0 a b,s_8,List.length_append,Nat.add_assoc]
structure RunsOk (rk:Keyed->Nat) (κ:SortKind) (T:List Keyed) (post:List Keyed) (rs:List (List Keyed×Nat)) (st:SortSt):Prop where
 kind:kindOf st=κ
 fail:failedOf st=none
 pend:(pendingOf st).toList=rows rs 0
 arr:(arrOf st).toList=n_5 rs++post
 perm:(arrOf st).toList.Perm T
 ne:∀ r∈rs,r.1≠[]
 so:∀ r∈rs,r.1.Pairwise (leR rk)
section
variable {prog:Program}{w:World}{A:Around}{E:Value->Shared->Prop}{s:Shared}{κ:SortKind}{rk:Keyed->Nat}{T:List Keyed}
theorem RunsOk.push {post rest N:List Keyed}{rs:List (List Keyed×Nat)}{st:SortSt} (h:RunsOk rk κ T post rs st) (e:post=N++rest) (nN:N≠[]) (sN:N.Pairwise (leR rk)):RunsOk rk κ T rest (rs++[(N,0)]) (setPending st ((pendingOf st).push ((n_5 rs).length,N.length,0))):=by
 refine⟨h.kind,h.fail,?_,?_,h.perm,λ r hr=>?_,λ r hr=>?_⟩
 ·show ((pendingOf st).push ((n_5 rs).length,N.length,0)).toList=_
  rw[Array.toList_push,h.pend,G_0,Nat.zero_add];rfl
 ·show (arrOf st).toList=_
  rw[h.arr,U_3,e];rw[s_8,show n_5 ([]:List (List Keyed×Nat))=[] from rfl,List.append_nil,List.append_assoc]
 ·rcases qt hr with hr | hr
  ·exact h.ne r hr
  ·rw[List.mem_singleton.mp hr];exact nN
 ·rcases qt hr with hr | hr
  ·exact h.so r hr
  ·rw[List.mem_singleton.mp hr];exact sN
end
end Fx
namespace Fx
open PySem PySem.W PySem.Spec PyProof.Rows
end Fx
namespace Fx
open PySem PySem.W PySem.Spec PyProof.Rows L2
section
variable {X:Cx}{pos:Pos}{o e:Expr}{F G:FE}
theorem ap1 {x:Str}{n:Int} (h1:0<=n) (h2:n<=1000) (h3:x.length<=1000):MulOk x n:=by
 refine⟨?_,λ _ _=>?_,λ _ _=>?_⟩
 ·rw[decide_eq_false (by omega),decide_eq_false (by omega)];rfl
 ·have:(x.length:Int)*n<=1000*1000:=Int.mul_le_mul (by omega) h2 (by omega) (by decide)
  have:=Int.le_ediv_of_mul_le (show 0<n by omega) (show (x.length:Int)*n<=2 ^ 63-1 by omega)
  omega
 ·have:x.length*n.toNat<=1000*1000:=Nat.mul_le_mul h3 (by omega)
  unfold Builtin.Str.tooLong;have big:1000*1000<=sizeLine:=by decide
  simp;omega
theorem aE9:E_5 X .Mult ae3:=⟨λ x y H Q=>∃ a n,x=.str a/\y=.int n/\MulOk a n/\Q (.str (Txt.mul a n)) H,λ pins s σ H x y u v Q I rx ry hh0_=>by
 obtain⟨a,n,ex,ey,ok,q⟩:=hh0_;subst ex ey;obtain⟨t,rfl⟩:=rx;obtain⟨w,rfl⟩:=ry
 exact SB.mul ok λ t' k=>⟨.str _,H,I.tok k,⟨t',rfl⟩,q⟩,λ c H0 H ρ σ x y d vx vy Q R r1 r2 e q=>by
  unfold ae3 at e
  split at e
  ·obtain⟨⟨h1,h2,h3⟩,rfl⟩:=ifs e
   unfold Rep at r1 r2;subst r1 r2;exact⟨_,_,rfl,rfl,ap1 h1 h2 h3,q _ H0 H (Same.refl _) R (by unfold Rep;rfl)⟩
  ·cases e⟩
end
end Fx
namespace Fx
open PySem PySem.Spec PyProof.Rows L2
theorem y_8 {α:Type}:∀ l:List α,((List.range ((l.length+1) / 2)).filterMap λ m=>l[2*m]?)=evn l
 |[]=>by simp[evn]
 |[a]=>by simp[evn]
 |a::b::r=>by
  have ih:=y_8 r;have e:((a::b::r).length+1) / 2=(r.length+1) / 2+1:=by simp only[List.length_cons];omega
  rw[e,List.range_succ_eq_map,List.filterMap_cons];show a::_=a::evn r;rw[List.filterMap_map,<- ih]
  congr 1
theorem D_2 {α:Type}:∀ l:List α,(evn l).length<=l.length
 |[]=>qi _
 |[a]=>qi _
 |a::b::r=>by
  have:=D_2 r;show (evn r).length+1<=r.length+1+1;omega
theorem I_6:∀ {xs:List V}{us:List Value},Vals xs us->Vals (evn xs) (evn us)
 |[],_,h=>by cases h;exact .nil
 |[_],_,h=>by
  cases h with
  |cons a t=>cases t;exact .cons a .nil
 |_::_::_,_,h=>by
  cases h with
  |cons a t =>
   cases t with
   |cons b c=>exact .cons a (I_6 c)
theorem v_4 {K:Frag}{H:Hp}:∀ {ds:List D}{vs:List V},Reps K H ds vs->Reps K H (evn ds) (evn vs)
 |[],vs,h=>by unfold Reps at h;subst h;exact Reps.nil_
 |[d],vs,h=>by
  unfold Reps at h;obtain⟨v,r,rfl,a,h2⟩:=h;unfold Reps at h2;subst h2;exact Reps.one a
 |d::e::ds,vs,h=>by
  unfold Reps at h;obtain⟨v,r,rfl,a,h2⟩:=h;unfold Reps at h2;obtain⟨v',r',rfl,_,h3⟩:=h2;exact Reps.cons a (v_4 h3)
theorem P_6 (xs:Array Value) (i:Nat) (hi:i<=xs.size):((List.range (Builtin.Slice.slicePlaces (i:Int) (xs.size:Int) 2)).filterMap λ (m:Nat)=>xs[((i:Int)+(m:Int)*2).toNat]?).toArray=(evn (xs.toList.drop i)).toArray:=by
 have k:Builtin.Slice.slicePlaces (i:Int) (xs.size:Int) 2=((xs.toList.drop i).length+1) / 2:=by
  unfold Builtin.Slice.slicePlaces;rw[List.length_drop,Array.length_toList,if_pos (by decide)]
  by_cases h:(i:Int)<(xs.size:Int)
  ·rw[if_pos h];omega
  ·rw[if_neg h];omega
 rw[k,<- y_8]
 congr 2
 funext m
 rw[List.getElem?_drop,Array.getElem?_toList,show ((i:Int)+(m:Int)*2).toNat=i+2*m by omega]
section
variable {prog:Program}{w:World}{A:Around}{E:Value->Shared->Prop}{s:Shared}
theorem P_7 {sl:Addr}{vl:Value}{lo:Option Int}{t:Tok}{n:Nat}{Q:Int×Int×Nat->Shared->Prop} (hs:s.heap.IsSliceOf sl vl .none (.int 2 t)) (pl:IsPart vl lo)
  (h:Q (((HT.sIx n 0 lo:Nat):Int),2,Builtin.Slice.slicePlaces ((HT.sIx n 0 lo:Nat):Int) (n:Int) 2) s):wpAny (model prog w) A (Builtin.Slice.sliceApplied (.ref sl) (pure (n:Int))) Q E s:=by
 obtain⟨os,hos,hcs,hds⟩:=id hs;unfold Builtin.Slice.sliceApplied Builtin.Slice.sliceFields;refine qb (qb (wpAny_field hos hds (x:=vl) rfl (qb (wpAny_field hos hds (x:=.none) rfl (qb (wpAny_field hos hds (x:=.int 2 t) rfl (qc ?_)))))));refine qb (HT.slicePart_ (.int 2 t) ?_);show wpAny _ _ (if ((2:Int)==0)=true then _ else _) _ _ s;rw[if_neg (by decide)]
 refine qb (HT.slicePart_ pl (qb (HT.slicePart_ .none (qb (qc ?_)))))
 have adj:Builtin.Slice.sliceAdjust lo none 2 (n:Int)=(((HT.sIx n 0 lo:Nat):Int),(n:Int)):=by
  have neg:¬ ((2:Int)<0):=by omega
  unfold Builtin.Slice.sliceAdjust;simp only[neg,if_false];refine Prod.ext ?_ rfl;cases lo with
  |none=>rfl
  |some v=>exact HT.clip_eq v n 0
 show wpAny _ _ (match Builtin.Slice.sliceAdjust lo none 2 (n:Int) with | (lo,hi)=>pure (lo,(2:Int),Builtin.Slice.slicePlaces lo hi 2)) _ _ s
 rw[adj];exact qc h
theorem ac5 {t sl:Addr}{items:Array Value}{vl:Value}{lo:Option Int}{tk:Tok}{Q:Value->Shared->Prop} (ht:IsTup s.heap t items) (hs:s.heap.IsSliceOf sl vl .none (.int 2 tk)) (pl:IsPart vl lo)
  (h:Q (.ref s.heap.objs.size) {s with heap:=s.heap.push {cls:=.type "tuple",data:=.seq (evn (items.toList.drop (HT.sIx items.size 0 lo))).toArray}})
  (hsz:items.size<=sizeLine):wpAny (model prog w) A (getItem (.ref t) (.ref sl)) Q E s:=by
 have ok:sizeOk (.seq (evn (items.toList.drop (HT.sIx items.size 0 lo))).toArray):=by
  show (evn (items.toList.drop (HT.sIx items.size 0 lo))).toArray.size<=sizeLine;have l1:=D_2 (items.toList.drop (HT.sIx items.size 0 lo));have l2:=List.length_drop (i:=HT.sIx items.size 0 lo) (l:=items.toList);have l3:items.toList.length=items.size:=Array.length_toList;rw[List.size_toArray];omega
 obtain⟨os,hos,hcs,hds⟩:=id hs;have hTs:s.TypeIs (.ref sl) "slice":=⟨os,hos,hcs⟩;unfold getItem
 try with_reducible refine wpAny_holding ?_
 first | refine qb (qc ?_) | skip
 refine qb (wpAny_sequenceKey ht.typeIs (by decide) ?_)
 refine qb (wpAny_callSpecial?_slot (name:=Str.ofString "__getitem__") ht.typeIs PyProof.Rows.slot_tuple_getitem
  (wpAny_call_entry PyProof.Rows.slot_tuple_getitem ht.typeIs entry_tuple_getitem ?_ (args_tuple_getitem _ _)))
 show wpAny _ _ (Builtin.Tuple.tupleItemsOf (.ref t) >>= _) _ _ s;refine qb (tupleItemsOf_ ht ?_);refine qb (wpAny_typeOf hTs ?_);rw[if_pos (by decide)]
 refine qb (P_7 hs pl ?_)
 have no:¬ ((((HT.sIx items.size 0 lo:Nat):Int)==0&&(2:Int)==1&&Builtin.Slice.slicePlaces ((HT.sIx items.size 0 lo:Nat):Int) (items.size:Int) 2==items.size)=true):=by
  rw[show ((2:Int)==1)=false by decide,Bool.and_false,Bool.false_and]
  exact qm
 show wpAny _ _ (if (((HT.sIx items.size 0 lo:Nat):Int)==0&&(2:Int)==1&&Builtin.Slice.slicePlaces ((HT.sIx items.size 0 lo:Nat):Int) (items.size:Int) 2==items.size)=true then _ else _) _ _ s;rw[if_neg no,P_6 items _ (HT.sIx_le _ _ (Nat.zero_le _) lo)]
 first
  |exact qb (m:=Builtin.Tuple.tupleExact _) (wpAny_newObj_type (qc ⟨_,rfl,qc h⟩) ok)
  |exact qb (m:=Builtin.Tuple.tupleExact _) (wpAny_newObj_type (qb (qc (qc ⟨_,rfl,qc h⟩))) ok)
  |exact qb (qb (m:=Builtin.Tuple.tupleExact _) (wpAny_newObj_type (qc (qc ⟨_,rfl,qc h⟩)) ok))
  |exact qb (qb (m:=Builtin.Tuple.tupleExact _) (wpAny_newObj_type (qc ⟨_,rfl,qc h⟩) ok))
end
section
variable {X:Cx}{pos:Pos}{F:FE}{e:Expr}
theorem ah2 {te:TE}{lo:Option Expr}{tl:TO}{p2 p3:Pos}{k:Nat} (he:PE X e te) (hl:PO X lo tl):PE X (.Subscript e (.Slice lo none (some (.Constant (.int 2) k p3)) p2) pos)
  (λ σ H Q=>te σ H λ x H1=>tl σ H1 λ o H2=>∃ a xs,x=.ref a/\SqT X.K H2 a xs/\∀ p,H2 p=none->Q (.ref p) (upd H2 p (.tup (evn (xs.drop (HT.sIx xs.length 0 o)))))):=by
 intro pins s σ H Q I h;refine Subscript_ (thn (he pins s σ H _ I h) λ v s1=>ex5 λ x H1 I1 r1 q1=>?_)
 refine wpAny_Slice (thn (hl pins s1 σ H1 _ I1 q1) λ vl s2 hh0_=>?_)
 obtain⟨o,H2,I2,pl,a,xs,ex,sq,q⟩:=hh0_;subst ex;cases r1;rw[evalPart_none];refine qc ?_;rw[evalPart_some];refine thn (R_0 (X:=X) (i:=2) (j:=k) (pos:=p3) pins s2 σ H2 (λ y H'=>y=.int 2/\H'=H2) I2 ⟨rfl,rfl⟩) λ st s3 hh0_=>?_
 obtain⟨y,H3,I3,ry,ey,eH⟩:=hh0_;subst ey eH;obtain⟨t,rfl⟩:=ry;have I4:Inv X pins σ H3 {s3 with heap:=s3.heap.push {cls:=.type "slice",data:=.fields #[vl,.none,.int 2 t]}}:=I3.kept (t':=s3.toks) λ b ob q=>qd _ q
 obtain⟨its,rv,ht,hz⟩:=I4.tuple sq;have hlen:its.toArray.size=xs.length:=by rw[List.size_toArray];exact rv.length.symm
 show wpAny (model X.prog X.w) X.A (subscriptTail e (.Slice lo none (some (.Constant (.int 2) k p3)) p2) (.ref a) (.ref s3.heap.objs.size)) (EP X pins σ Q) X.xe {s3 with heap:=s3.heap.push {cls:=.type "slice",data:=.fields #[vl,.none,.int 2 t]}}
 refine tail_any (ops:=[.ref a,.ref s3.heap.objs.size]) ht.typeIs PyProof.Rows.slot_tuple_getitem.lookup ?_ (by with_unfolding_all rfl)
 refine ac5 ht (Heap.IsSliceOf.new ..) pl ?_ (by rw[hlen];exact hz)
 rw[hlen];refine⟨.ref _,_,I4.laid (t':=s3.toks) (o:=.tup (evn (xs.drop (HT.sIx xs.length 0 o)))) (λ b ob q=>qd _ q) (qi _) ?_,rfl,q _ (I4.hok.fresh (qi _))⟩
 refine⟨Nat.le_trans (D_2 _) (by rw[List.length_drop];omega),_,I_6 (rv.drop _),IsTuN.new _ _⟩
theorem P_5 {i:Nat}{ρ ρ':En}{d:D} (h:e1 (au5 i) F ρ=some (d,ρ')):∃ xs,F ρ=some (.tup xs,ρ')/\d=.tup (evn (xs.drop i)):=by
 unfold e1 at h;obtain⟨⟨x,ρ1⟩,h1,f⟩:=a_0 h;obtain⟨d',h2,f⟩:=a_0 f;have f':some (d',ρ1)=some (d,ρ'):=f;cases f';dsimp only at h2;unfold au5 at h2
 split at h2
 ·cases h2;exact⟨_,h1,rfl⟩
 ·cases h2
theorem ba3 {p2 p3:Pos}{k:Nat} (he:XE X e F):XE X (.Subscript e (.Slice none none (some (.Constant (.int 2) k p3)) p2) pos) (e1 (au5 0) F):=PE.wk (ah2 he Q_7) λ σ H Q hh0_=>by
 obtain⟨c,H0,ρ,d,ρ',R,f,q⟩:=hh0_;obtain⟨xs,h1,rfl⟩:=P_5 f;refine⟨c,H0,ρ,_,_,R,h1,λ v H1 Hh s1 R1 r1=>?_⟩
 unfold Rep at r1;obtain⟨a,ws,rfl,sq,t⟩:=r1;refine⟨a,ws,rfl,Same.seqT R1.same sq,λ p hp=>?_⟩
 have S:=Step.alloc (o:=.tup (evn (ws.drop 0))) R1.same hp;refine q _ _ _ (s1.trans S.s0) (R1.after S) ?_;unfold Rep;exact⟨p,_,rfl,.inl (.inl a_2),Reps.mono S.s0 _ (v_4 t)⟩
theorem bh7 {p2 p3 p4:Pos}{k k1:Nat} (he:XE X e F):XE X (.Subscript e (.Slice (some (.Constant (.int 1) k1 p4)) none (some (.Constant (.int 2) k p3)) p2) pos) (e1 (au5 1) F):=PE.wk (ah2 he (Q_6 R_0)) λ σ H Q hh0_=>by
 obtain⟨c,H0,ρ,d,ρ',R,f,q⟩:=hh0_;obtain⟨xs,h1,rfl⟩:=P_5 f;refine⟨c,H0,ρ,_,_,R,h1,λ v H1 Hh s1 R1 r1=>?_⟩
 unfold Rep at r1;obtain⟨a,ws,rfl,sq,t⟩:=r1;refine⟨1,rfl,a,ws,rfl,Same.seqT R1.same sq,λ p hp=>?_⟩
 have e:ws.drop (HT.sIx ws.length 0 (some 1))=ws.drop 1:=by
  rw[show (some (1:Int))=some ((1:Nat):Int) from rfl,HT.sIx_nat];cases ws with
  |nil=>rfl
  |cons a r=>rw[show min 1 (a::r).length=1 by simp]
 rw[e];have S:=Step.alloc (o:=.tup (evn (ws.drop 1))) R1.same hp;refine q _ _ _ (s1.trans S.s0) (R1.after S) ?_;unfold Rep;exact⟨p,_,rfl,.inl (.inl a_2),Reps.mono S.s0 _ (v_4 (Reps.drop 1 t))⟩
end
end Fx
namespace Fx
open PySem PySem.Spec
theorem y_2 (t:SetTable) (es:Array (Int×Value)) (h:Int) (x:Value):(layNew t es h x).2.1.led=t.led/\((layNew t es h x).2.1.plain=true->t.plain=true):=by
 have st:∀ (u:SetTable) (n:Nat),(u.standIn n).led=u.led/\(u.standIn n).plain=false:=λ u n=>⟨rfl,rfl⟩
 unfold layNew
 split
 ·rename_i slot wd _
  have pu:(t.put slot).1.led=t.led/\(t.put slot).1.plain=t.plain:=⟨rfl,rfl⟩;dsimp only;unfold SetTable.orStandIn
  split
  ·exact⟨pu.1,λ q=>by rw[<- pu.2];exact q⟩
  ·exact⟨pu.1,λ q=>by cases q⟩
 ·exact⟨rfl,λ q=>by cases q⟩
theorem q_4 (t:SetTable) (es:Array (Int×Value)) (n:Nat):(relayAll t es n).2.1.led=t.led/\((relayAll t es n).2.1.plain=true->t.plain=true):=by
 unfold relayAll
 split
 ·rename_i t' order e
  have m:t'.led=t.led/\t'.plain=t.plain:=by
   unfold SetTable.relaid SetTable.laid at e;cases z:SetTable.layClean (SetTable.sizeAbove n-1) (es.map (·.1)) with
   |none=>rw[z] at e;cases e
   |some ow=>rw[z] at e;cases e;exact⟨rfl,rfl⟩
  dsimp only
  split
  ·exact⟨m.1,λ q=>by rw[<- m.2];exact q⟩
  ·exact⟨rfl,λ q=>by cases q⟩
 ·exact⟨rfl,λ q=>by cases q⟩
def SetS (P:Program) (w:World) (bt:Bool) (h:Heap) (a:Addr) (ss:List Str):Prop :=
 ∃ o es ep t,h.get? a=some o/\o.ExactSet/\o.data=.set es ep t/\ElemsOf (PySem.strKind P w) es.toList/\(es.toList.map λ e=>PyProof.Rows.strOf e.2).Perm ss/\ss.Nodup/\es.size<scanBound/\t.fits es.size=true /\
  (t.plain=true->es.size=0)/\(bt=false->t.led=true)
section
variable {P:Program}{w:World}{bt:Bool}{A:Around}{E:Value->Shared->Prop}{s:Shared}{a:Addr}{ss:List Str}
theorem J_1 {es:List (Int×Value)} (h:ElemsOf (PySem.strKind P w) es):∀ e∈es,∃ x t,e.2=.str x t/\e.1=(PySem.strKind P w).hash x:=λ e he=>by
 obtain⟨⟨k,hk,hh⟩,_⟩:=h e he;obtain⟨t,ht⟩:=Value.isStrOf_shape hk;exact⟨k,t,ht,hh⟩
theorem j_6 {x:Str}{v:Value}{y:Str}{t:Tok} (e:v=.str y t):(PySem.strKind P w).is x v=decide (x=y):=by
 subst e;have h:(PySem.strKind P w).is y (.str y t)=true:=by show Value.isStrOf y (.str y t)=true;simp[Value.isStrOf]
 exact KeyKind.is_eq_decide h x
theorem K_4 {x:Str}{tk:Tok}{Q:Bool->Shared->Prop} (hS:SetS P w bt s.heap a ss) (hroom:ss.length+1<scanBound)
  (h:∀ h',Heap.SameBut a s.heap h'->SetS P w bt h' a (if x∈ss then ss else ss++[x])->Q (!decide (x∈ss)) {s with heap:=h'}) :
  wpAny (model P w) A (setAddHashed a (.str x tk) ((PySem.strKind P w).hash x)) Q E s:=by
 obtain⟨o,es,ep,t,ho,hex,hd,hel,hp,hnd,hb,hf,hpl,hled⟩:=hS;have hkey:(PySem.strKind P w).is x (.str x tk)=true:=by rw[j_6 rfl];simp
 have hsc:(Value.str x tk).scannable=true:=rfl
 have hn:es.size=ss.length:=by
  have:=hp.length_eq;rw[List.length_map,Array.length_toList] at this;exact this
 have mem:(∃ e∈es.toList,(PySem.strKind P w).is x e.2=true)↔x∈ss:=by
  rw[<- hp.mem_iff,List.mem_map];constructor
  ·rintro ⟨e,he,q⟩
   obtain⟨y,t,ey,_⟩:=J_1 hel e he;rw[j_6 ey,decide_eq_true_iff] at q;exact⟨e,he,by rw[ey,q];rfl⟩
  ·rintro ⟨e,he,q⟩
   obtain⟨y,t,ey,_⟩:=J_1 hel e he;rw[ey] at q;exact⟨e,he,by rw[j_6 ey,decide_eq_true_iff,<- q];rfl⟩
 unfold setAddHashed setAddHashedIn;refine wpAny_holding (qb (wpAny_setState_of ho hd hf ?_));dsimp only;rw[byScan_of hsc hb hel];simp only[↓reduceIte];unfold setAddByScan;refine qb (qb (wpAny_rule (qb (wpAny_setScan_of hkey ho hd hf hel ?_))));cases hr:List.findIdx? (λ e=>(PySem.strKind P w).is x e.2) es.toList with
 |some j =>
  obtain⟨hj,hpj,_⟩:=List.findIdx?_eq_some_iff_getElem.mp hr;have hx:x∈ss:=mem.mp ⟨es.toList[j],List.getElem_mem hj,hpj⟩;dsimp only;refine qc (qc ?_);have:=h s.heap (Heap.SameBut.refl a s.heap) (by rw[if_pos hx];exact⟨o,es,ep,t,ho,hex,hd,hel,hp,hnd,hb,hf,hpl,hled⟩)
  rw[decide_eq_true hx] at this;exact this
 |none =>
  have hx:¬ x∈ss:=λ q=>by
   obtain⟨e,he,q⟩:=mem.mpr q;have:=List.findIdx?_eq_none_iff.mp hr e he;rw[q] at this;cases this
  dsimp only;have lp:=layNew_perm t es ((PySem.strKind P w).hash x) (.str x tk);have lf:=layNew_fits t es ((PySem.strKind P w).hash x) (.str x tk);have lm:=y_2 t es ((PySem.strKind P w).hash x) (.str x tk)
  generalize layNew t es ((PySem.strKind P w).hash x) (.str x tk)=L at lp lf lm ⊢
  obtain⟨es1,t1,wd,gave⟩:=L;dsimp only at lp lf lm ⊢;rw[Array.toList_push] at lp;have hel1:ElemsOf (PySem.strKind P w) es1.toList:=(hel.push hkey hsc).perm lp
  have hp1:(es1.toList.map λ e=>PyProof.Rows.strOf e.2).Perm (ss++[x]):=by
   refine (lp.map _).trans ?_;rw[List.map_append];exact hp.append (List.Perm.refl _)
  have nd1:(ss++[x]).Nodup:=by
   rw[List.nodup_append];exact⟨hnd,by simp,λ u hu v hv e=>by rw[List.mem_singleton] at hv;subst hv;subst e;exact hx hu⟩
  have sz1:es1.size=es.size+1:=by
   have:=lp.length_eq;rw[List.length_append,Array.length_toList,Array.length_toList] at this;exact this
  have gw:∀ (b:Bool) (s₁:Shared) (Q':Unit → Shared → Prop),Q' () s₁ → wpAny (model P w) A (match b with | true=>rule "set.scan.the-table-gave-way" | false=>pure ()) Q' E s₁ :=
   λ b s₁ Q' q=>by cases b <;> first | exact qc q | exact wpAny_rule q
  refine qb (gw _ _ _ ?_);have fin:∀ (g:Bool->Sem Unit),(∀ (b:Bool) (s₁:Shared) (Q':Unit->Shared->Prop),Q' () s₁->wpAny (model P w) A (g b) Q' E s₁)->∀ (R:Option Bool->Shared->Prop) (t2:SetTable),t2.fits es1.size=true->t2.led=t.led->t2.plain=false ->
    (∀ h',Heap.SameBut a s.heap h'->SetS P w bt h' a (ss++[x])->R (some true) {s with heap:=h'}) ->
    wpAny (model P w) A (do
     storeSet a es1 t2
     if (!wd&&t2.tooFull)=true then do
       g (relayAll t2 es1 (SetTable.grown es1.size)).2.2
       storeSet a (relayAll t2 es1 (SetTable.grown es1.size)).1 (relayAll t2 es1 (SetTable.grown es1.size)).2.1
       pure (some true)
      else pure (some true)) R E s:=λ g hg R t2 f2 l2 p2 k=>by
   have b1:es1.size<scanBound:=by rw[sz1,hn];exact hroom
   refine qb (wpAny_storeSet_of ho hd ?_ (fits_of_scanBound b1))
   have at1:(s.heap.update a (Obj.putSet es1 t2)).get? a=some {o with data:=.set es1 (ep+1) t2}:=by
    have z:=Heap.get?_update_self (Obj.putSet es1 t2) ho (by rw[putSet_of es1 t2 hd];rfl)
    rw[putSet_of es1 t2 hd] at z;exact z
   have sb1:=Heap.SameBut.update s.heap a (Obj.putSet es1 t2)
   split
   ·have rp:=relayAll_perm t2 es1 (SetTable.grown es1.size)
    have rf:=relayAll_fits t2 es1 (SetTable.grown es1.size);have rm:=q_4 t2 es1 (SetTable.grown es1.size)
    generalize relayAll t2 es1 (SetTable.grown es1.size)=Rl at rp rf rm ⊢
    obtain⟨es2,t3,g2⟩:=Rl;dsimp only at rp rf rm ⊢;have sz2:es2.size=es1.size:=by rw[<- Array.length_toList,rp.length_eq,Array.length_toList]
    have b2:es2.size<scanBound:=by rw[sz2];exact b1
    refine qb (hg _ _ _ (qb (wpAny_storeSet_of at1 rfl (qc (k _ (sb1.trans (Heap.SameBut.update _ a _)) ?_)) (fits_of_scanBound b2))))
    have at2:((s.heap.update a (Obj.putSet es1 t2)).update a (Obj.putSet es2 t3)).get? a=some {o with data:=.set es2 (ep+1+1) t3}:=by
     have z:=Heap.get?_update_self (Obj.putSet es2 t3) at1 (by rw[putSet_of (es:=es1) (ep:=ep+1) (t:=t2) es2 t3 rfl];rfl)
     rw[putSet_of (es:=es1) (ep:=ep+1) (t:=t2) es2 t3 rfl] at z;exact z
    exact⟨_,es2,ep+1+1,t3,at2,hex,rfl,hel1.perm rp,(rp.map _).trans hp1,nd1,b2,rf,λ q=>(by rw[p2] at rm;exact absurd (rm.2 q) (by simp)),λ q=>by rw[rm.1,l2];exact hled q⟩
   ·exact qc (k _ sb1 ⟨_,es1,ep+1,t2,at1,hex,rfl,hel1,hp1,nd1,b1,f2,λ q=>(by rw[p2] at q;cases q),λ q=>by rw[l2];exact hled q⟩)
  have done:∀ h',Heap.SameBut a s.heap h'->SetS P w bt h' a (ss++[x])->Q true {s with heap:=h'}:=λ h' c1 c2=>by
   have:=h h' c1 (by rw[if_neg hx];exact c2)
   rw[decide_eq_false hx] at this;exact this
  split
  ·refine qb ?_
   rw[hashByValue_scannable 8 hsc];refine qc (fin _ gw _ _ ?_ ?_ ?_ λ h' c1 c2=>?_)
   ·exact SetTable.fits_plain_off lf
   ·exact lm.1
   ·rfl
   ·dsimp only;exact qc (done h' c1 c2)
  ·rename_i np
   refine qb (qc ?_);simp only[↓reduceIte];refine fin _ gw _ _ lf lm.1 (by simpa using np) λ h' c1 c2=>?_
   dsimp only;exact qc (done h' c1 c2)
end
def ItAt:Bool->Heap->Addr->Addr->Nat->Prop
 |true,h,it,c,i=>h.IsTupleIter it c i
 |false,h,it,c,i=>h.IsListIter it c i
def SqAt:Bool->Heap->Addr->Array Value->Prop
 |true,h,c,us=>h.IsTuple c us
 |false,h,c,us=>h.IsList c us
section
variable {P:Program}{w:World}{A:Around}{E:Value->Shared->Prop}{s:Shared}{it c:Addr}{i:Nat}{us:Array Value}
theorem SqAt.keep {T:Bool}{h h':Heap} (q:SqAt T h c us) (k:∀ b o,h.get? b=some o->h'.get? b=some o):SqAt T h' c us:=by
 cases T with
 |true=>obtain⟨o,ho,r⟩:=q;exact⟨o,k _ _ ho,r⟩
 |false=>obtain⟨o,ho,r⟩:=q;exact⟨o,k _ _ ho,r⟩
theorem S_6 {T:Bool}{x:Value}{Q:Option Value->Shared->Prop} (a:ItAt T s.heap it c i) (b:SqAt T s.heap c us) (hx:us[i]?=some x)
  (k:∀ h',ItAt T h' it c (i+1)->Heap.SameBut it s.heap h'->Q (some x) {s with heap:=h'}):wpAny (model P w) A (pyNext (.ref it)) Q E s:=by
 cases T with
 |true=>exact wpAny_pyNext_tuple_item a b hx k
 |false=>exact wpAny_pyNext_list_item a b hx k
theorem ab7 {T:Bool}{Q:Option Value->Shared->Prop} (hh:A.handled=none) (a:ItAt T s.heap it c i) (b:SqAt T s.heap c us) (hx:us[i]?=none)
  (k:∀ h',Heap.ExtBut it s.heap h'->Q none {s with heap:=h'}):wpAny (model P w) A (pyNext (.ref it)) Q E s:=by
 cases T with
 |true=>exact wpAny_pyNext_tuple_end hh a b hx k
 |false=>exact wpAny_pyNext_list_end hh a b hx k
theorem M_1 {T:Bool}{Q:Value->Shared->Prop} (b:SqAt T s.heap c us)
  (k:∀ oI:Obj,ItAt T (s.heap.push oI) s.heap.objs.size c 0->Q (.ref s.heap.objs.size) {s with heap:=s.heap.push oI}):wpAny (model P w) A (pyIter (.ref c)) Q E s:=by
 cases T with
 |true=>exact wpAny_pyIter_tuple b (k _ ⟨_,qj _ rfl,rfl,rfl⟩)
 |false=>exact wpAny_pyIter_list b (k _ ⟨_,qj _ rfl,rfl,rfl⟩)
theorem ItAt.same {T:Bool}{h h':Heap}{b:Addr} (q:ItAt T h it c i) (sb:Heap.SameBut b h h') (ne:it≠b):ItAt T h' it c i:=by
 cases T with
 |true=>obtain⟨o,ho,r⟩:=q;exact⟨o,(sb.2 it ne).trans ho,r⟩
 |false=>obtain⟨o,ho,r⟩:=q;exact⟨o,(sb.2 it ne).trans ho,r⟩
theorem SetS.same {bt:Bool}{h h':Heap}{a b:Addr}{ss:List Str} (q:SetS P w bt h a ss) (sb:Heap.SameBut b h h') (ne:a≠b):SetS P w bt h' a ss:=by
 obtain⟨o,es,ep,t,ho,r⟩:=q;exact⟨o,es,ep,t,(sb.2 a ne).trans ho,r⟩
theorem SetS.ext {bt:Bool}{h h':Heap}{a b:Addr}{ss:List Str} (q:SetS P w bt h a ss) (eb:Heap.ExtBut b h h') (ne:a≠b):SetS P w bt h' a ss:=by
 obtain⟨o,es,ep,t,ho,r⟩:=q;exact⟨o,es,ep,t,eb a _ ne ho,r⟩
theorem SetS.keep {bt:Bool}{h h':Heap}{a:Addr}{ss:List Str} (q:SetS P w bt h a ss) (k:∀ b o,h.get? b=some o->h'.get? b=some o):SetS P w bt h' a ss:=by
 obtain⟨o,es,ep,t,ho,r⟩:=q;exact⟨o,es,ep,t,k _ _ ho,r⟩
theorem al7 {all:List Value}{xs:List Str} (h:PyProof.Rows.StrsAre all xs) {i:Nat}{x:Str}{r:List Str} (e:xs.drop i=x::r):∃ tk,all[i]?=some (.str x tk):=by
 induction h generalizing i with
 |nil=>simp at e
 |cons y t h ih =>
  cases i with
  |zero =>
   rw[List.drop_zero] at e;injection e with e1 e2
   subst e1;exact⟨t,rfl⟩
  |succ i =>
   rw[List.drop_succ_cons] at e;obtain⟨tk,q⟩:=ih e;exact⟨tk,by simpa using q⟩
theorem Z_4 {bt T:Bool}{hI:Heap}{a:Addr}{all:List Value}{xs0:List Str}{R:Result->Shared->Prop} (ha0:hI.get? a=none) (hi0:hI.get? it=none) (hne:a≠it) (sq:SqAt T hI c all.toArray) (sa:PyProof.Rows.StrsAre all xs0) (hh:A.handled=none) :
  ∀ (xs:List Str) (acc:List Str) (s:Shared) (i:Nat),xs0.drop i=xs->(∀ b o,hI.get? b=some o->s.heap.get? b=some o)->ItAt T s.heap it c i->SetS P w bt s.heap a acc->acc.length+xs.length+1<scanBound ->
   (∀ h' tk',(∀ b o,hI.get? b=some o->h'.get? b=some o)->SetS P w bt h' a (h_8 acc xs)->R (.ok (.ret .none)) {s with heap:=h',toks:=tk'}) ->
   codeAny (model P w) A (.builtin "set.update.loop" ⟨[.ref a,.ref it],[]⟩) R s:=by
 intro xs
 induction xs with
 |nil =>
  intro acc s i e kp hit hS hz q;refine codeAny_builtin PyProof.Rows.F.entry_set_update_loop ?_;rw[Around.under_plainId PyProof.Rows.F.plain_set_update_loop _];show wpAny _ A.in1 (pyNext (.ref it) >>= _) _ _ s
  have hl:all.length=xs0.length:=by
   have:=sa.strs;rw[<- this,List.length_map]
  have hx:all.toArray[i]?=none:=by
   have:all[i]?=none:=List.getElem?_eq_none (by rw[hl];simpa using e)
   simpa using this
  refine qb (ab7 hh hit (sq.keep kp) hx λ h' eb=>qc ?_)
  exact q h' s.toks (λ b o hb=>eb b o (λ z=>by rw[z,hi0] at hb;cases hb) (kp _ _ hb)) (hS.ext eb hne)
 |cons x xs ih =>
  intro acc s i e kp hit hS hz q;refine codeAny_builtin PyProof.Rows.F.entry_set_update_loop ?_;rw[Around.under_plainId PyProof.Rows.F.plain_set_update_loop _];show wpAny _ A.in1 (pyNext (.ref it) >>= _) _ _ s;obtain⟨tk,hx0⟩:=al7 sa e;have hx:all.toArray[i]?=some (.str x tk):=by simpa using hx0
  refine qb (S_6 hit (sq.keep kp) hx λ h1 hit1 sb1=>?_)
  have kp1:∀ b o,hI.get? b=some o->h1.get? b=some o:=λ b o hb=>(sb1.2 b (λ z=>by rw[z,hi0] at hb;cases hb)).trans (kp _ _ hb)
  show wpAny _ A.in1 (holding [Value.str x tk] (setAdd a (.str x tk)) >>= _) _ _ _;refine qb (wpAny_holding ?_);unfold setAdd;have hkey:(PySem.strKind P w).is x (.str x tk)=true:=by rw[j_6 rfl];simp
  refine wpAny_holding (qb ((PySem.strKind P w).pyHash hkey ?_));simp only[List.length_cons] at hz;refine K_4 (s:={s with heap:=h1,toks:=s.toks+1}) (hS.same sb1 hne) (by omega) λ h2 sb2 hS2=>?_
  have kp2:∀ b o,hI.get? b=some o->h2.get? b=some o:=λ b o hb=>(sb2.2 b (λ z=>by rw[z,ha0] at hb;cases hb)).trans (kp1 _ _ hb)
  have l2:(aO4 acc x).length<=acc.length+1:=by
   unfold aO4;split
   ·omega
   ·rw[List.length_append];exact qi _
  refine qc ⟨plainId_quiet PyProof.Rows.F.plain_set_update_loop _,?_⟩;exact ih (aO4 acc x) {s with heap:=h2,toks:=s.toks+1} (i+1) (by rw[<- List.drop_drop,e];rfl) kp2 (hit1.same sb2 (Ne.symm hne)) hS2 (by omega) λ h' tk' c1 c2=>q h' tk' c1 c2
end
abbrev byT (w:World):Bool:=w.params.followText "set-order"
abbrev L_5 (w:World):Obj:={cls:=.type "set",dict:=none,data:=.set #[] 0 (.fresh 0 0 (!byT w))}
theorem t_1:isSubtype (.type "tuple") (.type "set")=pure false:=by rw[isSubtype_type];kernel_rfl
theorem k_0:isSubtype (.type "tuple") (.type "frozenset")=pure false:=by rw[isSubtype_type];kernel_rfl
section
variable {P:Program}{w:World}{A:Around}{E:Value->Shared->Prop}{s:Shared}
theorem Z_5 (h:Heap):SetS P w (byT w) (h.push (L_5 w)) h.objs.size [] :=
 ⟨_,#[],0,_,qj _ rfl,⟨rfl,rfl,rfl⟩,rfl,λ e he=>(by simp at he),List.Perm.refl _,List.nodup_nil,by decide,by rfl,λ _=>rfl,λ e=>by show (!byT w)=true;rw[e];rfl⟩
theorem M_8 (v:Value) {Q₁:Value->Shared->Prop} (h:Q₁ (.ref s.heap.objs.size) {s with heap:=s.heap.push (L_5 w)}) :
  codeAny (model P w) A (.call (.builtin "set.__new__") ⟨[.type "set",v],[]⟩) (wants Q₁ E) s:=by
 refine codeAny_of_tree ?_;show wpAny _ A.in1 (checkBuiltinCall "set.__new__" ⟨[.type "set",v],[]⟩ >>= λ _=>again (.builtin "set.__new__" ⟨[.type "set",v],[]⟩)) _ _ s
 refine qb (wpAny_of_eq (F.newCall_set_1 v) (qc ⟨plainId_quiet F.plain_set_new _,codeAny_builtin F.entry_set_new ?_⟩));rw[Around.under_plainId F.plain_set_new _];unfold Builtin.«set.__new__» Builtin.Frozenset.newClass;have sb:=sub_set_self;obtain⟨h0,g0,d0,k0,o0⟩:=s;dsimp only
 wp_walk
 refine wpAny_askSetting (qc ?_);dsimp only;simp only[newObj];exact qb (wpAny_alloc (qc (qc h)))
set_option maxHeartbeats 3200000 in
theorem W_3 {T:Bool}{c:Addr}{all:List Value}{xs:List Str}{Q:Value->Shared->Prop} (hh:A.handled=none) (sq:SqAt T s.heap c all.toArray) (sa:PyProof.Rows.StrsAre all xs) (hz:xs.length+1<scanBound)
  (k:∀ (h':Heap) (tk:Nat),(∀ b o,s.heap.get? b=some o->h'.get? b=some o)->SetS P w (byT w) h' s.heap.objs.size (h_8 [] xs)->Q (.ref s.heap.objs.size) {s with heap:=h',toks:=tk}) :
  wpAny (model P w) A (call (.type "set") [.ref c]) Q E s:=by
 obtain⟨mc,mt,mr⟩:=F.called_set.mro;have md:=F.called_set.made;have su:=F.called_set.sub;refine wpAny_call (codeAny_of_tree ?_);show wpAny _ _ (callAny (.type "set") _) _ _ _;refine qc ⟨Code.quiet_builtin _ (by decide +kernel),codeAny_builtin F.entry_type_call ?_⟩
 rw[Around.under_plain (weight_type_call_type "set" [.ref c] []) rfl];have f1:=F.called_set.notType;have f2:=F.called_set.canCreate;have f3:=F.typeCall_set_1 (.ref c)
 repeat (any_goals (first | assumption | wp_step))
 refine codeAny_mono (M_8 (.ref c) (E:=E) (Q₁:=λ z s1=>z=.ref s.heap.objs.size/\s1={s with heap:=s.heap.push (L_5 w)}) ⟨rfl,rfl⟩) λ r s1 hr=>?_
 cases r with
 |error e=>exact hr
 |ok fl =>
  cases fl with
  |ret z =>
   obtain⟨rfl,rfl⟩:=hr;have at0:(s.heap.push (L_5 w)).get? s.heap.objs.size=some (L_5 w):=qj _ rfl;have ty0:Shared.TypeIs {s with heap:=s.heap.push (L_5 w)} (.ref s.heap.objs.size) "set":=⟨_,at0,rfl⟩
   have li:=F.called_set.init.lookup;have bi:=F.called_set.init.bind (.ref s.heap.objs.size)
   repeat (any_goals (first | assumption | wp_step))
   refine codeAny_mono (codeAny_call_builtin (R:=wants (λ r s2=>r=.none/\∃ h' tk,s2={s with heap:=h',toks:=tk}/\(∀ b o,s.heap.get? b=some o->h'.get? b=some o)/\SetS P w (byT w) h' s.heap.objs.size (h_8 [] xs)) E) F.called_set.init.plain F.entry_set_init (check_set_init_1 ty0 ?_)) λ r2 s2 hr2=>?_
   ·have sq1:SqAt T (s.heap.push (L_5 w)) c all.toArray:=sq.keep λ b o e=>qd _ e
    have e1:∃ TT:String,Shared.TypeIs {s with heap:=s.heap.push (L_5 w)} (.ref c) TT ∧ (isSubtype (.type TT) (.type "set")=pure false) ∧ (isSubtype (.type TT) (.type "frozenset")=pure false) ∧ (Value.type TT==Value.type "dict")=false:=by
     cases T with
     |true=>obtain⟨o,ho,hc,_⟩:=sq1;exact⟨"tuple",⟨o,ho,hc⟩,t_1,k_0,by decide⟩
     |false=>obtain⟨o,ho,hc,_⟩:=sq1;exact⟨"list",⟨o,ho,hc⟩,F.sub_list_set,F.sub_list_frozenset,by decide⟩
    obtain⟨TT,tyc,n1,n2,n3⟩:=e1;unfold Builtin.«set.__init__» noKeywords Builtin.Frozenset.updateFrom
    generalize hPI:pyIter=PI
    wp_walk
    subst hPI;refine M_1 (s:={s with heap:=s.heap.push (L_5 w)}) sq1 λ oI hI0=>?_
    have sz:(s.heap.push (L_5 w)).objs.size=s.heap.objs.size+1:=by rw[Heap.size_push]
    have none_of:∀ n,s.heap.objs.size<=n->s.heap.get? n=none:=λ n hn=>by
     cases z:s.heap.get? n with
     |none=>rfl
     |some o=>exact absurd (qk z) (Nat.not_lt.mpr hn)
    refine qb (wpAny_runValue ?_);refine Z_4 (A:=A.in1.in1) (bt:=byT w) (hI:=s.heap) (none_of _ (qi _)) (none_of _ (by show s.heap.objs.size<=(s.heap.push (L_5 w)).objs.size;rw[sz];exact Nat.le_succ _)) (by show s.heap.objs.size≠(s.heap.push (L_5 w)).objs.size;rw[sz];exact qp (Nat.lt_succ_self _)) sq sa hh
     xs [] {s with heap:=(s.heap.push (L_5 w)).push oI} 0 rfl (λ b o e=>qd _ (qd _ e)) hI0 ((Z_5 s.heap).keep λ b o e=>qd _ e) (by rw[List.length_nil];omega) λ h' tk c1 c2=>?_
    refine qc (qc ?_);exact⟨rfl,h',tk,rfl,c1,c2⟩
   ·cases r2 with
    |error e=>exact hr2
    |ok fl2 =>
     cases fl2 with
     |ret r =>
      obtain⟨rfl,h',tk,rfl,c1,c2⟩:=hr2
      repeat (any_goals (first | assumption | wp_step))
      exact k _ _ c1 c2
     |_=>exact hr2.elim
  |_=>exact hr.elim
end
section
variable {P:Program}{w:World}{A:Around}{E:Value->Shared->Prop}{s:Shared}{it a:Addr}
structure SObj (h:Heap) (a:Addr) (es:Array (Int×Value)) (ep:Nat) (t:SetTable):Prop where
 at_:∃ o,h.get? a=some o/\o.ExactSet/\o.data=.set es ep t
 fits:t.fits es.size=true
theorem SObj.keep {h h':Heap}{es:Array (Int×Value)}{ep:Nat}{t:SetTable} (q:SObj h a es ep t) (k:∀ o,h.get? a=some o->h'.get? a=some o):SObj h' a es ep t:=by
 obtain⟨⟨o,h1,h2⟩,f⟩:=q;exact⟨⟨o,k o h1,h2⟩,f⟩
end
end Fx
namespace Fx
open PySem PySem.Spec PyProof.Rows
end Fx
namespace Fx
open PySem PySem.Spec PyProof.Rows L2
def Z_6 (P:Program) (w:World) (a:Addr) (ss:List Str):HO:=.ext λ h=>SetS P w (byT w) h a ss
theorem al8 {P:Program}{w:World}{H:Hp}{h:Heap}{a:Addr}{ss:List Str} (q:SetS P w (byT w) h a ss):ObjOk P w H h a (Z_6 P w a ss):=by
 refine⟨q,?_,λ h1 h2 q1 k=>?_⟩
 ·obtain⟨o,es,ep,t,ho,_⟩:=q
  exact⟨o,ho⟩
 ·obtain⟨o,es,ep,t,ho,r⟩:=q1
  exact⟨o,es,ep,t,k _ ho,r⟩
theorem Step.side {H0 H:Hp}{p:Addr}{o:HO} (s:Same H0 H) (hp:H p=none):Step H0 H H0 (upd H p o):=by
 refine⟨Same.refl _,λ b u e=>by rw[a_3 (a_5 e hp)];exact e,λ b u e=>?_,λ b u e=>.inl e⟩
 have e':=s _ _ e;rw[a_3 (a_5 e' hp)];exact e'
section
variable {X:Cx}
theorem aQ5 {pins:List (Addr×Obj)}{σ:L2.St}{H:Hp}{s:Shared}{p:Addr}{xs:List V} (I:Inv X pins σ H s) (hq:SqL X.K H p xs\/SqT X.K H p xs):∃ (T:Bool) (its:List Value),Vals xs its/\SqAt T s.heap p its.toArray:=by
 rcases hq with hq | hq
 ·obtain⟨its,rv,pl,_⟩:=I.list hq
  exact⟨false,its,rv,pl.isList⟩
 ·obtain⟨its,rv,tp,_⟩:=I.tuple hq
  exact⟨true,its,rv,tp⟩
theorem M_9 (hc:X.calm=true):CallR X (.type "set") (λ xs H Q=>∃ p ss,xs=[.ref p] ∧ (SqL X.K H p (ss.map V.str) ∨ SqT X.K H p (ss.map V.str)) ∧ ss.length<1000 ∧ ∀ l,H l=none → Q (.ref l) (upd H l (Z_6 X.prog X.w l (h_8 [] ss)))):=by
 intro pins s σ H xs us Q I r h;obtain⟨p,ss,rfl,hq,hz,q⟩:=h;obtain⟨u,rfl,ru⟩:=h_9 r;cases ru;obtain⟨T,its,rv,sq⟩:=aQ5 I hq;refine W_3 (I.ok.hd hc) sq (r_7 rv) (by unfold scanBound;omega) λ h' tk kp hS=>?_
 exact⟨.ref s.heap.objs.size,_,I.laid (o:=Z_6 X.prog X.w s.heap.objs.size (h_8 [] ss)) kp (qi _) (al8 hS),rfl,q _ (I.hok.fresh (qi _))⟩
end
section
variable {X:Cx}
theorem N_0:CallR X (.builtin "len") (λ xs H Q=>∃ p ss,xs=[.ref p] ∧ H p=some (Z_6 X.prog X.w p ss) ∧ Q (.int ss.length) H):=by
 intro pins s σ H xs us Q I r h;obtain⟨p,ss,rfl,hq,q⟩:=h;obtain⟨u,rfl,ru⟩:=h_9 r;cases ru;obtain⟨o,es,ep,t,ho,ex,hd,hel,pm,nd,sb,ft,_⟩:=(show ObjOk X.prog X.w H s.heap p (Z_6 X.prog X.w p ss) from I.hok p _ hq).1;have hn:es.size=ss.length:=by rw[<- pm.length_eq,List.length_map,Array.length_toList]
 have lt:(es.size:Int)<2 ^ 63:=by
  have:scanBound<=2 ^ 62:=by decide
  omega
 exact call_len_set ho ex hd ft lt ⟨.int ss.length,H,I.tok _,⟨_,by rw[hn]⟩,q⟩
theorem s_4 {xs:List D}{d:D} (h:u_8 xs=some d):∃ ss:List Str,xs=ss.map .str/\ss.length<1000/\d=.int ((h_8 [] ss).length:Int):=by
 unfold u_8 at h;obtain⟨ss,e,f⟩:=a_0 h;obtain⟨l,rfl⟩:=ifs f;exact⟨ss,strs_inv e,l,rfl⟩
theorem ak6 {a:Expr}{F:FE}{p p2 dpos pos:Pos} (hm:X.mg "set"=none) (hm2:X.mg "len"=none) (he:XE X a F) (hc:X.calm=true:=by rfl) (hg:Gl X "set":=by rfl) (hg2:Gl X "len":=by rfl)
  (h1:starEach [a] X.env=[(false,eval a X.env)]:=by rfl) (h2:starEach [.Call (.Name "set" p) [a] [] dpos] X.env=[(false,eval (.Call (.Name "set" p) [a] [] dpos) X.env)]:=by rfl) :
  XE X (.Call (.Name "len" p2) [.Call (.Name "set" p) [a] [] dpos] [] pos) (eF v_8 (aC F aN)) :=
 PE.wk (k_9 N_0 hg2 hm2 PySem.boot_len (e_2 (x_5 (M_9 hc) hg hm PyProof.Rows.boot_set (xaC he xaN h1) (by decide) (by decide) h1 rfl) i_1 h2) (by decide) (by decide) h2 rfl) λ σ H Q hh0_=>by
  obtain⟨c,H0,ρ,d,ρ',R,f,q⟩:=hh0_;unfold eF at f;obtain⟨⟨ds,ρ1⟩,g1,f⟩:=a_0 f;obtain⟨d',g2,f⟩:=a_0 f;have f':some (d',ρ1)=some (d,ρ'):=f;cases f';refine⟨c,H0,ρ,ds,_,R,g1,λ vs H1 Hh s1 R1 r1=>?_⟩
  have main:∀ (ad:Addr) (ss:List Str),vs=[.ref ad]->ss.length<1000->d=.int ((h_8 [] ss).length:Int)->(SqL X.K Hh ad (ss.map V.str)\/SqT X.K Hh ad (ss.map V.str)) ->
    ∃ p ss,vs=[.ref p]/\(SqL X.K Hh p (ss.map V.str)\/SqT X.K Hh p (ss.map V.str))/\ss.length<1000/\∀ l,Hh l=none->∃ p ss',[V.ref l]=[.ref p]/\upd Hh l (Z_6 X.prog X.w l (h_8 [] ss)) p=some (Z_6 X.prog X.w p ss') /\
     Q (.int ss'.length) (upd Hh l (Z_6 X.prog X.w l (h_8 [] ss))):=λ ad ss ev l64 ed sq=>by
   refine⟨ad,ss,ev,sq,l64,λ l hl=>⟨l,h_8 [] ss,rfl,a_2,?_⟩⟩
   have S1:=Step.side (o:=Z_6 X.prog X.w l (h_8 [] ss)) R1.same hl;refine q _ _ _ (s1.trans S1.s0) (R1.after S1) ?_;rw[ed];exact d_2 _ _
  have g2:v_8 ds=some d:=g2;unfold v_8 at g2
  split at g2
  ·obtain⟨ss,rfl,l64,ed⟩:=s_4 g2
   obtain⟨v,rfl,rv⟩:=Reps.v1 r1;unfold Rep at rv;obtain⟨p,ws,rfl,s,t⟩:=rv;rw[f_6 t] at s;exact main p ss rfl l64 ed (.inl (Same.seq R1.same s))
  ·obtain⟨ss,rfl,l64,ed⟩:=s_4 g2
   obtain⟨v,rfl,rv⟩:=Reps.v1 r1;unfold Rep at rv;obtain⟨p,ws,rfl,s,t⟩:=rv;rw[f_6 t] at s;exact main p ss rfl l64 ed (.inr (Same.seqT R1.same s))
  ·cases g2
end
open Sem (wp)
section
variable {prog:Program}{w:World}{A:Around}{E:Value->Shared->Prop}{s:Shared}
theorem aK6 {a:Addr}{Q:Option Obj->Shared->Prop} (h:Q (s.heap.get? a) s):wpAny (model prog w) A (loadIfAlive a) Q E s:=λ Γ p hΓ=>by
 unfold loadIfAlive;rw[Sem.wp_loadIfAlive];exact (qc (M:=model prog w) (A:=A) (E:=E) h) Γ p hΓ
theorem ae0 {it t:Addr}{k:Nat}{items:Array Value}{x:Value}{Q:Value->Shared->Prop} (st:IsTupIter s.heap it t k) (ht:IsTup s.heap t items) (hx:items[k]?=some x)
  (fin:∀ h',IsTupIter h' it t (k+1)->Heap.SameBut it s.heap h'->Q x {s with heap:=h'}):wpAny (model prog w) A (Builtin.SmallTypes.nextOf (.ref it)) Q E s:=by
 obtain⟨o,g1,g2,g3⟩:=id st;obtain⟨ot,t1,_,tn,t3⟩:=ht;unfold Builtin.SmallTypes.nextOf;refine qb (wpAny_callSpecial?_slot (name:=Str.ofString "__next__") st.typeIs slot_tupleiter_next (wpAny_call_entry slot_tupleiter_next st.typeIs entry_tupleiter_next ?_ (args_tupleiter_next _)));show wpAny _ _ (field (.ref it) 0 >>= _) _ _ s;refine qb (wpAny_field g1 g3 (x:=.ref t) rfl ?_);show wpAny _ _ (if (Value.ref t==Value.none)=true then _ else _) _ _ s;rw[if_neg (by exact Bool.false_ne_true)]
 refine qb (wpAny_field g1 g3 (x:=.int k 0) rfl ?_);refine qb (wpAny_seqItems t1 t3 ?_);simp only[Int.toNat_natCast,hx];refine qb (wpAny_setField g1 g3 (by simp) (qc ⟨x,rfl,qc (fin _ ?_ (Heap.SameBut.update ..))⟩))
 refine⟨_,Heap.get?_update_self _ g1 (Obj.isFreed_of_fields (Obj.data_mapFields g3 _)),(Obj.cls_mapFields ..).trans g2,?_⟩;rw[Obj.data_mapFields g3];simp[rawInt]
theorem ab4 {it t:Addr}{k:Nat}{items:Array Value}{Q:Value->Shared->Prop} (hh:A.handled=none) (st:IsTupIter s.heap it t k) (ht:IsTup s.heap t items) (hx:items[k]?=none)
  (fin:∀ h' e,Heap.ExtBut it s.heap h' → (∃ o,h'.get? e=some o ∧ o.cls=.type "StopIteration") → E (.ref e) {s with heap:=h'}):wpAny (model prog w) A (Builtin.SmallTypes.nextOf (.ref it)) Q E s:=by
 obtain⟨o,g1,g2,g3⟩:=id st;obtain⟨ot,t1,_,tn,t3⟩:=ht;unfold Builtin.SmallTypes.nextOf;refine qb (wpAny_callSpecial?_slot (name:=Str.ofString "__next__") st.typeIs slot_tupleiter_next (wpAny_call_entry slot_tupleiter_next st.typeIs entry_tupleiter_next ?_ (args_tupleiter_next _)));show wpAny _ _ (field (.ref it) 0 >>= _) _ _ s;refine qb (wpAny_field g1 g3 (x:=.ref t) rfl ?_);show wpAny _ _ (if (Value.ref t==Value.none)=true then _ else _) _ _ s;rw[if_neg (by exact Bool.false_ne_true)]
 refine qb (wpAny_field g1 g3 (x:=.int k 0) rfl ?_);refine qb (wpAny_seqItems t1 t3 ?_);simp only[Int.toNat_natCast,hx];refine qb (wpAny_rule (qb (wpAny_setField g1 g3 (by simp) (qb ?_))))
 simp only[newExc,newTuple];refine qb (wpAny_newObj_type ?_ (by size_fits))
 refine qb (m:=firstArgMember _ _) (wpAny_of_eq (a:=Value.none) (by first | rfl | (simp only[firstArgMember];rfl)) ?_)
 refine wpAny_newObj_type ?_ (by size_fits)
 simp only[raiseNew];refine qb (wpAny_handled ?_)
 first | rw[show A.in1.handled=none from hh] | rw[hh]
 exact qb (qc (wpAny_throw (fin _ _ (((Heap.SameBut.update ..).extBut.push _).push _) ⟨_,qj _ rfl,rfl⟩)))
structure Nx (prog:Program) (w:World) (i:Addr) (fp:List Addr) (get:Nat->Option Value) (P:Nat->Heap->Prop):Prop where
 mem:i∈fp
 keep:∀ k h h',P k h->(∀ b∈fp,∀ o,h.get? b=some o->h'.get? b=some o)->P k h'
 there:∀ k h,P k h->∃ o vs,h.get? i=some o/\o.data=.fields vs
 draw:∀ (A:Around) (E:Value->Shared->Prop) (s:Shared) (Q:Value->Shared->Prop) (k:Nat) (x:Value),P k s.heap->get k=some x->(∀ h',P (k+1) h'->Heap.SameBut i s.heap h'->Q x {s with heap:=h'}) ->
  wpAny (model prog w) A (Builtin.SmallTypes.nextOf (.ref i)) Q E s
 over:∀ (A:Around) (E:Value->Shared->Prop) (s:Shared) (Q:Value->Shared->Prop) (k:Nat),A.handled=none->P k s.heap->get k=none ->
  (∀ h' e,Heap.ExtBut i s.heap h' → (∃ o,h'.get? e=some o ∧ o.cls=.type "StopIteration") → E (.ref e) {s with heap:=h'}) → wpAny (model prog w) A (Builtin.SmallTypes.nextOf (.ref i)) Q E s
theorem ap0 (i l:Addr) (ne:l≠i) (items:Array Value):Nx prog w i [i,l] (λ k=>items[k]?) (λ k h=>h.IsListIter i l k/\h.IsList l items) where
 mem:=qf
 keep:=λ k h h' ⟨a,b⟩ q=>⟨a.at λ o e=>q i (by simp) o e,b.at λ o e=>q l (by simp) o e⟩
 there:=λ k h ⟨⟨o,a,_,d⟩,_⟩=>⟨o,_,a,d⟩
 draw:=λ A E s Q k x ⟨a,b⟩ hx fin=>wpAny_nextOf_list_item a b hx λ h' a' sb=>fin h' ⟨a',b.extBut sb.extBut ne⟩ sb
 over:=λ A E s Q k hh ⟨a,b⟩ hx fin=>wpAny_nextOf_list_end hh a b hx fin
theorem aF0 (i t:Addr) (ne:t≠i) (items:Array Value):Nx prog w i [i,t] (λ k=>items[k]?) (λ k h=>IsTupIter h i t k/\IsTup h t items) where
 mem:=qf
 keep:=λ k h h' ⟨⟨o,a,b⟩,⟨o2,a2,b2⟩⟩ q=>⟨⟨o,q i (by simp) o a,b⟩,⟨o2,q t (by simp) o2 a2,b2⟩⟩
 there:=λ k h ⟨⟨o,a,_,d⟩,_⟩=>⟨o,_,a,d⟩
 draw:=λ A E s Q k x ⟨a,b⟩ hx fin=>ae0 a b hx λ h' a' sb=>fin h' ⟨a',let ⟨o,q,r⟩:=b;⟨o,sb.extBut _ _ ne q,r⟩⟩ sb
 over:=λ A E s Q k hh ⟨a,b⟩ hx fin=>ab4 hh a b hx fin
end
abbrev zO (f0:Value) (f1:Bool) (TI TO:Addr):Obj:={cls:=.type "zip",dict:=none,data:=.fields #[f0,.bool f1,.bool false,.ref TI,.ref TO],slots:=#[]}
structure Zs (z TI TO i1 i2:Addr) (P1 P2:Nat->Heap->Prop) (k1 k2:Nat) (f0:Value) (f1:Bool) (h:Heap):Prop where
 hz:h.get? z=some (zO f0 f1 TI TO)
 ti:IsPair h TI (.ref i1) (.ref i2)
 to:∃ a b,IsPair h TO a b
 p1:P1 k1 h
 p2:P2 k2 h
structure Za (z TI TO i1 i2:Addr) (fp1 fp2:List Addr):Prop where
 TIz:TI≠z
 TOz:TO≠z
 TITO:TI≠TO
 TI1:TI≠i1
 TI2:TI≠i2
 f1:∀ b∈fp1,b≠z/\b≠TO/\b≠i2
 f2:∀ b∈fp2,b≠z/\b≠TO/\b≠i1
section
variable {prog:Program}{w:World}{A:Around}{E:Value->Shared->Prop}{s:Shared}{z TI TO i1 i2:Addr}{fp1 fp2:List Addr}{g1 g2:Nat->Option Value}{P1 P2:Nat->Heap->Prop}{k1 k2:Nat}{f0:Value}{f1:Bool}
theorem Y_2 (N1:Nx prog w i1 fp1 g1 P1) (N2:Nx prog w i2 fp2 g2 P2) (D:Za z TI TO i1 i2 fp1 fp2) (Z:Zs z TI TO i1 i2 P1 P2 k1 k2 .none f1 s.heap) {x y:Value} (hx:g1 k1=some x) (hy:g2 k2=some y) {Q:Value->Shared->Prop}
  (fin:∀ h',Zs z TI TO i1 i2 P1 P2 (k1+1) (k2+1) (rawInt s.heap.objs.size) false h'->IsPair h' s.heap.objs.size x y->h'.objs.size=s.heap.objs.size+1->(∀ c o,c∉[z,TO,i1,i2]->s.heap.get? c=some o->h'.get? c=some o)->Q (.ref s.heap.objs.size) {s with heap:=h'}) :
  wpAny (model prog w) A (Builtin.«zip.__next__» ⟨[.ref z],[]⟩) (λ f s'=>∃ v,f=.done (.ret v)/\Q v s') E s:=by
 have m1:=D.f1 i1 N1.mem;have m2:=D.f2 i2 N2.mem;obtain⟨a,b,hab⟩:=Z.to;show wpAny _ _ (field (.ref z) 2 >>= _) _ _ _;refine qb (wpAny_field Z.hz rfl (x:=.bool false) rfl (qb (wpAny_field Z.hz rfl (x:=.ref TI) rfl (qb (wpAny_seqItems Z.ti rfl ?_)))));refine qb (m:=Builtin.SmallTypes.ownedTupleIsFree (.ref z)) (qb (wpAny_field Z.hz rfl (x:=.none) rfl (qc ?_)));simp only[if_true];refine qb (wpAny_rule (qb (wpAny_field Z.hz rfl (x:=.ref TO) rfl (qb (wpAny_setField_rec Z.hz (by simp) λ ha za sa=>?_)))))
 have za:ha.get? z=some (zO .ellipsis f1 TI TO):=za;have pa1:P1 k1 ha:=N1.keep _ _ _ Z.p1 λ q hq o e=>(sa.2 q (D.f1 q hq).1).trans e
 have pa2:P2 k2 ha:=N2.keep _ _ _ Z.p2 λ q hq o e=>(sa.2 q (D.f2 q hq).1).trans e
 have ta:IsPair ha TO a b:=(sa.2 TO D.TOz).trans hab;refine qb ?_;simp only[List.zipIdx_cons,List.zipIdx_nil,List.forIn_cons,List.forIn_nil];refine qb (qb (wpAny_onRaise (qb (N1.draw _ _ {s with heap:=ha} _ k1 x pa1 hx λ hb pb1 sb=>qc ?_))))
 have tb:IsPair hb TO a b:=(sb.2 TO (Ne.symm m1.2.1)).trans ta;refine qb (wpAny_seqItems tb rfl (qb (wpAny_updateSeq_pair tb λ hc tc sc=>qb (wpAny_letGo (qc ?_)))))
 have pc2:P2 k2 hc:=N2.keep _ _ _ pa2 λ q hq o e=>(sc.2 q (D.f2 q hq).2.1).trans ((sb.2 q (D.f2 q hq).2.2).trans e)
 refine qb (qb (wpAny_onRaise (qb (N2.draw _ _ {s with heap:=hc} _ k2 y pc2 hy λ hd pd2 sd=>qc ?_))))
 have td:hd.get? TO=some {cls:=.type "tuple",data:=.seq #[x,b]}:=(sd.2 TO (Ne.symm m2.2.1)).trans tc;refine qb (wpAny_seqItems td rfl (qb (wpAny_updateSeq_pair td λ he te se=>qb (wpAny_letGo (qc (qc ?_))))))
 have te:IsPair he TO x y:=te;have pe1:P1 (k1+1) he:=N1.keep _ _ _ pb1 λ q hq o e=>(se.2 q (D.f1 q hq).2.1).trans ((sd.2 q (D.f1 q hq).2.2).trans ((sc.2 q (D.f1 q hq).2.1).trans e))
 have pe2:P2 (k2+1) he:=N2.keep _ _ _ pd2 λ q hq o e=>(se.2 q (D.f2 q hq).2.1).trans e
 have ze:he.get? z=some (zO .ellipsis f1 TI TO):=(se.2 z D.TOz.symm).trans ((sd.2 z (Ne.symm m2.1)).trans ((sc.2 z D.TOz.symm).trans ((sb.2 z (Ne.symm m1.1)).trans za)));have tie:IsPair he TI (.ref i1) (.ref i2):=(se.2 TI D.TITO).trans ((sd.2 TI D.TI2).trans ((sc.2 TI D.TITO).trans ((sb.2 TI D.TI1).trans ((sa.2 TI D.TIz).trans Z.ti))));have size:he.objs.size=s.heap.objs.size:=by rw[se.1,sd.1,sc.1,sb.1,sa.1]
 refine qb (wpAny_seqItems te rfl (qb (wpAny_newTuple ?_)));refine qb (m:=Builtin.SmallTypes.ownedTupleHandOut (.ref z) (.ref he.objs.size)) ?_;have zf:(he.push {cls:=.type "tuple",data:=.seq #[x,y]}).get? z=some (zO .ellipsis f1 TI TO):=qd _ ze;unfold Builtin.SmallTypes.ownedTupleHandOut;refine qb (wpAny_setField_rec zf (by simp) λ hg zg sg=>?_)
 have zg:hg.get? z=some (zO (rawInt he.objs.size) f1 TI TO):=zg;refine wpAny_setField_rec zg (by simp) λ hi zi si=>qc ⟨_,rfl,?_⟩
 have up:∀ c o,c≠z->he.get? c=some o->hi.get? c=some o:=λ c o c1 e=>(si.2 c c1).trans ((sg.2 c c1).trans (qd _ e))
 have nz:he.objs.size≠z:=Nat.ne_of_gt (qk ze);have pr:IsPair hi he.objs.size x y:=(si.2 _ nz).trans ((sg.2 _ nz).trans (qj _ rfl));have sz:hi.objs.size=he.objs.size+1:=by rw[si.1,sg.1,Heap.size_push]
 rw[size] at pr sz;show Q (.ref he.objs.size) _;rw[size];refine fin hi ⟨by rw[<- size];exact zi,up _ _ D.TIz tie,⟨x,y,up _ _ D.TOz te⟩,N1.keep _ _ _ pe1 λ q hq o e=>up q o (D.f1 q hq).1 e,N2.keep _ _ _ pe2 λ q hq o e=>up q o (D.f2 q hq).1 e⟩ pr sz λ c o hc e=>?_
 simp only[List.mem_cons,List.not_mem_nil,or_false,not_or] at hc;obtain⟨c1,c2,c3,c4⟩:=hc;exact up c o c1 ((se.2 c c2).trans ((sd.2 c c4).trans ((sc.2 c c2).trans ((sb.2 c c3).trans ((sa.2 c c1).trans e)))))
end
section
variable {prog:Program}{w:World}{A:Around}{E:Value->Shared->Prop}{s:Shared}{z TI TO i1 i2 T0:Addr}{fp1 fp2:List Addr}{g1 g2:Nat->Option Value}{P1 P2:Nat->Heap->Prop}{k1 k2:Nat}{f1:Bool}
theorem I_1 {Q:Bool->Shared->Prop} (hz:s.heap.get? z=some (zO (rawInt T0) f1 TI TO)) {ot:Obj} (hT:s.heap.get? T0=some ot) (fin:∀ h',h'.get? z=some (zO (rawInt T0) true TI TO)->Heap.SameBut z s.heap h'->Q false {s with heap:=h'}) :
  wpAny (model prog w) A (Builtin.SmallTypes.ownedTupleIsFree (.ref z)) Q E s:=by
 unfold Builtin.SmallTypes.ownedTupleIsFree;refine qb (wpAny_field hz rfl (x:=rawInt T0) rfl ?_);show wpAny _ _ (loadIfAlive (Int.toNat (T0:Int)) >>= _) _ _ s;rw[Int.toNat_natCast];refine qb (aK6 ?_);rw[hT];show wpAny _ _ (field (.ref z) 1 >>= _) _ _ s;refine qb (wpAny_field hz rfl (x:=.bool f1) rfl ?_);cases f1 with
 |false =>
  refine qb (wpAny_setField_rec hz (by simp) λ h' z' sb=>qc (fin h' z' sb))
 |true=>exact qc (fin s.heap hz ⟨rfl,λ _ _=>rfl⟩)
theorem Y_0 (N1:Nx prog w i1 fp1 g1 P1) (N2:Nx prog w i2 fp2 g2 P2) (D:Za z TI TO i1 i2 fp1 fp2) (Z:Zs z TI TO i1 i2 P1 P2 k1 k2 (rawInt T0) f1 s.heap) {ot:Obj} (hT:s.heap.get? T0=some ot) {x y:Value} (hx:g1 k1=some x) (hy:g2 k2=some y) {Q:Value->Shared->Prop}
  (fin:∀ h',Zs z TI TO i1 i2 P1 P2 (k1+1) (k2+1) (rawInt T0) true h'->IsPair h' s.heap.objs.size x y->h'.objs.size=s.heap.objs.size+1->(∀ c o,c∉[z,TO,i1,i2]->s.heap.get? c=some o->h'.get? c=some o)->Q (.ref s.heap.objs.size) {s with heap:=h'}) :
  wpAny (model prog w) A (Builtin.«zip.__next__» ⟨[.ref z],[]⟩) (λ f s'=>∃ v,f=.done (.ret v)/\Q v s') E s:=by
 have m1:=D.f1 i1 N1.mem;have m2:=D.f2 i2 N2.mem;show wpAny _ _ (field (.ref z) 2 >>= _) _ _ _;refine qb (wpAny_field Z.hz rfl (x:=.bool false) rfl (qb (wpAny_field Z.hz rfl (x:=.ref TI) rfl (qb (wpAny_seqItems Z.ti rfl ?_)))));refine qb (m:=Builtin.SmallTypes.ownedTupleIsFree (.ref z)) (I_1 Z.hz hT λ ha za sa=>?_)
 obtain⟨a,b,hab⟩:=Z.to;have pa1:P1 k1 ha:=N1.keep _ _ _ Z.p1 λ q hq o e=>(sa.2 q (D.f1 q hq).1).trans e
 have pa2:P2 k2 ha:=N2.keep _ _ _ Z.p2 λ q hq o e=>(sa.2 q (D.f2 q hq).1).trans e
 rw[if_neg (by exact Bool.false_ne_true)]
 refine qb ?_;simp only[<- Array.forIn_toList,List.forIn_cons,List.forIn_nil];refine qb (qb (wpAny_holding (qb (N1.draw _ _ {s with heap:=ha} _ k1 x pa1 hx λ hb pb1 sb=>qc (qc ?_)))))
 have pb2:P2 k2 hb:=N2.keep _ _ _ pa2 λ q hq o e=>(sb.2 q (D.f2 q hq).2.2).trans e
 refine qb (qb (wpAny_holding (qb (N2.draw _ _ {s with heap:=hb} _ k2 y pb2 hy λ hc pc2 sc=>qc (qc (qc ?_))))))
 have size:hc.objs.size=s.heap.objs.size:=by rw[sc.1,sb.1,sa.1]
 refine qb (wpAny_newTuple (qc ⟨_,rfl,?_⟩) (by show (2:Nat)<=sizeLine;decide))
 have up:∀ c o,c≠z → c≠i1 → c≠i2 → s.heap.get? c=some o → (hc.push {cls:=.type "tuple",data:=.seq #[x,y]}).get? c=some o:=λ c o c1 c2 c3 e=>qd _ ((sc.2 c c3).trans ((sb.2 c c2).trans ((sa.2 c c1).trans e)))
 have pr:IsPair (hc.push {cls:=.type "tuple",data:=.seq #[x,y]}) hc.objs.size x y:=qj _ rfl;rw[size] at pr;show Q (.ref hc.objs.size) _;rw[size];refine fin _ ⟨qd _ ((sc.2 z (Ne.symm m2.1)).trans ((sb.2 z (Ne.symm m1.1)).trans za)),up _ _ D.TIz D.TI1 D.TI2 Z.ti,⟨a,b,up _ _ D.TOz (Ne.symm m1.2.1) (Ne.symm m2.2.1) hab⟩,N1.keep _ _ _ pb1 λ q hq o e=>qd _ ((sc.2 q (D.f1 q hq).2.2).trans e),N2.keep _ _ _ pc2 λ q hq o e=>qd _ e⟩ pr (by rw[Heap.size_push,size]) λ c o hc' e=>?_
 simp only[List.mem_cons,List.not_mem_nil,or_false,not_or] at hc';exact up c o hc'.1 hc'.2.2.1 hc'.2.2.2 e
theorem aF1 {h:Heap}{e:Addr}{f0:Value}{f:Bool} (hz:h.get? z=some (zO f0 f TI TO)) (he:∃ o,h.get? e=some o ∧ o.cls=.type "StopIteration"):e≠z:=λ q=>by
 obtain⟨o,a,b⟩:=he;rw[q,hz] at a;cases a;simp at b
theorem Y_1 {f0:Value} (hh:A.handled=none) (N1:Nx prog w i1 fp1 g1 P1) (N2:Nx prog w i2 fp2 g2 P2) (D:Za z TI TO i1 i2 fp1 fp2) (Z:Zs z TI TO i1 i2 P1 P2 k1 k2 f0 f1 s.heap) (hf:f0=.none\/∃ (T0:Addr) (ot:Obj),f0=rawInt T0/\s.heap.get? T0=some ot)
  (hend:g1 k1=none ∨ g2 k2=none) {Q:Fin → Shared → Prop} (fin:∀ h' e,(∀ c o,c∉[z,TO,i1,i2] → s.heap.get? c=some o → h'.get? c=some o) → (∃ o,h'.get? e=some o ∧ o.cls=.type "StopIteration") → E (.ref e) {s with heap:=h'}) :
  wpAny (model prog w) A (Builtin.«zip.__next__» ⟨[.ref z],[]⟩) Q E s:=by
 have m1:=D.f1 i1 N1.mem;have m2:=D.f2 i2 N2.mem;obtain⟨a,b,hab⟩:=Z.to
 have four:∀ {c:Addr},c∉[z,TO,i1,i2]->c≠z/\c≠TO/\c≠i1/\c≠i2:=λ hc=>by
  simp only[List.mem_cons,List.not_mem_nil,or_false,not_or] at hc;exact hc
 show wpAny _ _ (field (.ref z) 2 >>= _) _ _ _;refine qb (wpAny_field Z.hz rfl (x:=.bool false) rfl (qb (wpAny_field Z.hz rfl (x:=.ref TI) rfl (qb (wpAny_seqItems Z.ti rfl ?_)))))
 rcases hf with rfl | ⟨T0,ot,rfl,hT⟩
 ·refine qb (m:=Builtin.SmallTypes.ownedTupleIsFree (.ref z)) (qb (wpAny_field Z.hz rfl (x:=.none) rfl (qc ?_)))
  simp only[if_true];refine qb (wpAny_rule (qb (wpAny_field Z.hz rfl (x:=.ref TO) rfl (qb (wpAny_setField_rec Z.hz (by simp) λ ha za sa=>?_)))))
  have za:ha.get? z=some (zO .ellipsis f1 TI TO):=za;have pa1:P1 k1 ha:=N1.keep _ _ _ Z.p1 λ q hq o e=>(sa.2 q (D.f1 q hq).1).trans e
  have pa2:P2 k2 ha:=N2.keep _ _ _ Z.p2 λ q hq o e=>(sa.2 q (D.f2 q hq).1).trans e
  have ta:IsPair ha TO a b:=(sa.2 TO D.TOz).trans hab;refine qb ?_;simp only[List.zipIdx_cons,List.zipIdx_nil,List.forIn_cons,List.forIn_nil];cases hx:g1 k1 with
  |none =>
   refine qb (qb (wpAny_onRaise (qb (N1.over _ _ {s with heap:=ha} _ k1 hh pa1 hx λ hb e xb he=>?_))))
   have zb:hb.get? z=some (zO .ellipsis f1 TI TO):=xb z _ (Ne.symm m1.1) za;have ez:=aF1 zb he;obtain⟨oe,e1,e2⟩:=he;refine wpAny_setField_rec zb (by simp) λ hc _ sc=>fin hc e (λ c o hc' q=>?_) ⟨oe,(sc.2 e ez).trans e1,e2⟩
   obtain⟨c1,c2,c3,c4⟩:=four hc';exact (sc.2 c c1).trans (xb c o c3 ((sa.2 c c1).trans q))
  |some x =>
   have hy:g2 k2=none:=by
    rcases hend with h | h
    ·rw[hx] at h;cases h
    ·exact h
   refine qb (qb (wpAny_onRaise (qb (N1.draw _ _ {s with heap:=ha} _ k1 x pa1 hx λ hb pb1 sb=>qc ?_))))
   have tb:IsPair hb TO a b:=(sb.2 TO (Ne.symm m1.2.1)).trans ta;refine qb (wpAny_seqItems tb rfl (qb (wpAny_updateSeq_pair tb λ hc tc sc=>qb (wpAny_letGo (qc ?_)))))
   have pc2:P2 k2 hc:=N2.keep _ _ _ pa2 λ q hq o e=>(sc.2 q (D.f2 q hq).2.1).trans ((sb.2 q (D.f2 q hq).2.2).trans e)
   refine qb (qb (wpAny_onRaise (qb (N2.over _ _ {s with heap:=hc} _ k2 hh pc2 hy λ hd e xd he=>?_))))
   have zd:hd.get? z=some (zO .ellipsis f1 TI TO):=xd z _ (Ne.symm m2.1) ((sc.2 z D.TOz.symm).trans ((sb.2 z (Ne.symm m1.1)).trans za));have ez:=aF1 zd he;obtain⟨oe,e1,e2⟩:=he;refine wpAny_setField_rec zd (by simp) λ hg _ sg=>fin hg e (λ c o hc' q=>?_) ⟨oe,(sg.2 e ez).trans e1,e2⟩
   obtain⟨c1,c2,c3,c4⟩:=four hc';exact (sg.2 c c1).trans (xd c o c4 ((sc.2 c c2).trans ((sb.2 c c3).trans ((sa.2 c c1).trans q))))
 ·refine qb (m:=Builtin.SmallTypes.ownedTupleIsFree (.ref z)) (I_1 Z.hz hT λ ha za sa=>?_)
  have pa1:P1 k1 ha:=N1.keep _ _ _ Z.p1 λ q hq o e=>(sa.2 q (D.f1 q hq).1).trans e
  have pa2:P2 k2 ha:=N2.keep _ _ _ Z.p2 λ q hq o e=>(sa.2 q (D.f2 q hq).1).trans e
  rw[if_neg (by exact Bool.false_ne_true)]
  refine qb ?_;simp only[<- Array.forIn_toList,List.forIn_cons,List.forIn_nil];cases hx:g1 k1 with
  |none =>
   refine qb (qb (wpAny_holding (qb (N1.over _ _ {s with heap:=ha} _ k1 hh pa1 hx λ hb e xb he=>?_))))
   refine fin hb e (λ c o hc' q=>?_) he
   obtain⟨c1,c2,c3,c4⟩:=four hc';exact xb c o c3 ((sa.2 c c1).trans q)
  |some x =>
   have hy:g2 k2=none:=by
    rcases hend with h | h
    ·rw[hx] at h;cases h
    ·exact h
   refine qb (qb (wpAny_holding (qb (N1.draw _ _ {s with heap:=ha} _ k1 x pa1 hx λ hb pb1 sb=>qc (qc ?_)))))
   have pb2:P2 k2 hb:=N2.keep _ _ _ pa2 λ q hq o e=>(sb.2 q (D.f2 q hq).2.2).trans e
   refine qb (qb (wpAny_holding (qb (N2.over _ _ {s with heap:=hb} _ k2 hh pb2 hy λ hc e xc he=>?_))))
   refine fin hc e (λ c o hc' q=>?_) he
   obtain⟨c1,c2,c3,c4⟩:=four hc';exact xc c o c4 ((sb.2 c c3).trans ((sa.2 c c1).trans q))
theorem S_7 (N1:Nx prog w i1 fp1 g1 P1) (N2:Nx prog w i2 fp2 g2 P2) (D:Za z TI TO i1 i2 fp1 fp2) (Z:Zs z TI TO i1 i2 P1 P2 k1 k2 .none f1 s.heap) {x y:Value} (hx:g1 k1=some x) (hy:g2 k2=some y) {Q:Option Value->Shared->Prop}
  (fin:∀ h',Zs z TI TO i1 i2 P1 P2 (k1+1) (k2+1) (rawInt s.heap.objs.size) false h'->IsPair h' s.heap.objs.size x y->h'.objs.size=s.heap.objs.size+1->(∀ c o,c∉[z,TO,i1,i2]->s.heap.get? c=some o->h'.get? c=some o)->Q (some (.ref s.heap.objs.size)) {s with heap:=h'}) :
  wpAny (model prog w) A (pyNext (.ref z)) Q E s:=by
 have ty:s.TypeIs (.ref z) "zip":=⟨_,Z.hz,rfl⟩;unfold pyNext;exact qb (wpAny_attempt (wpAny_callSpecial?_slot (name:=Str.ofString "__next__") ty PySem.F.slot_zip_next (wpAny_call_entry PySem.F.slot_zip_next ty PySem.F.entry_zip_next (Y_2 N1 N2 D Z hx hy λ h' a b c d=>qc (fin h' a b c d)) (PySem.F.args_zip_next_1 _))))
theorem S_4 (N1:Nx prog w i1 fp1 g1 P1) (N2:Nx prog w i2 fp2 g2 P2) (D:Za z TI TO i1 i2 fp1 fp2) (Z:Zs z TI TO i1 i2 P1 P2 k1 k2 (rawInt T0) f1 s.heap) {ot:Obj} (hT:s.heap.get? T0=some ot) {x y:Value} (hx:g1 k1=some x) (hy:g2 k2=some y) {Q:Option Value->Shared->Prop}
  (fin:∀ h',Zs z TI TO i1 i2 P1 P2 (k1+1) (k2+1) (rawInt T0) true h'->IsPair h' s.heap.objs.size x y->h'.objs.size=s.heap.objs.size+1->(∀ c o,c∉[z,TO,i1,i2]->s.heap.get? c=some o->h'.get? c=some o)->Q (some (.ref s.heap.objs.size)) {s with heap:=h'}) :
  wpAny (model prog w) A (pyNext (.ref z)) Q E s:=by
 have ty:s.TypeIs (.ref z) "zip":=⟨_,Z.hz,rfl⟩;unfold pyNext;exact qb (wpAny_attempt (wpAny_callSpecial?_slot (name:=Str.ofString "__next__") ty PySem.F.slot_zip_next (wpAny_call_entry PySem.F.slot_zip_next ty PySem.F.entry_zip_next (Y_0 N1 N2 D Z hT hx hy λ h' a b c d=>qc (fin h' a b c d)) (PySem.F.args_zip_next_1 _))))
theorem S_5 {f0:Value} (hh:A.handled=none) (N1:Nx prog w i1 fp1 g1 P1) (N2:Nx prog w i2 fp2 g2 P2) (D:Za z TI TO i1 i2 fp1 fp2) (Z:Zs z TI TO i1 i2 P1 P2 k1 k2 f0 f1 s.heap) (hf:f0=.none\/∃ (T0:Addr) (ot:Obj),f0=rawInt T0/\s.heap.get? T0=some ot)
  (hend:g1 k1=none\/g2 k2=none) {Q:Option Value->Shared->Prop} (fin:∀ h',(∀ c o,c∉[z,TO,i1,i2]->s.heap.get? c=some o->h'.get? c=some o)->Q none {s with heap:=h'}) :
  wpAny (model prog w) A (pyNext (.ref z)) Q E s:=by
 have ty:s.TypeIs (.ref z) "zip":=⟨_,Z.hz,rfl⟩;unfold pyNext;refine qb (wpAny_attempt (wpAny_callSpecial?_slot (name:=Str.ofString "__next__") ty PySem.F.slot_zip_next (wpAny_call_entry PySem.F.slot_zip_next ty PySem.F.entry_zip_next (Y_1 (A:=A.in1) hh N1 N2 D Z hf hend λ h' e k he=>?_) (PySem.F.args_zip_next_1 _))))
 obtain⟨o,a,b⟩:=he;exact qb (wpAny_isInstance (T:="StopIteration") (b:=true) ⟨o,a,b⟩ isSubtype_stop (qc (fin h' k)))
end
def zq (h:Heap) (a b:Addr):Heap :=
 ((((h.push {cls:=.type "tuple_iterator",data:=.fields #[.ref a,.int 0 0]}).push {cls:=.type "tuple_iterator",data:=.fields #[.ref b,.int 0 0]}).push {cls:=.type "tuple",data:=.seq #[.ref h.objs.size,.ref (h.objs.size+1)]}).push
  {cls:=.type "tuple",data:=.seq #[.none,.none]}).push (zO .none false (h.objs.size+2) (h.objs.size+3))
theorem E_0 {h:Heap}{n:Nat}{o:Obj} (e:h.objs.size=n) (hf:o.isFreed=false):(h.push o).get? n=some o:=by subst e;exact qj _ hf
theorem IsTup.pushed {h:Heap}{t:Addr}{xs:Array Value} (x:IsTup h t xs) (o:Obj):IsTup (h.push o) t xs:=let ⟨p,e,r⟩:=x;⟨p,qd _ e,r⟩
theorem ab8 (t1 t2:Addr) (xs ys:Array Value):Meets (Builtin.«zip.__new__» ⟨[.type "zip",.ref t1,.ref t2],[]⟩) (λ _ R s=>IsTup s.heap t1 xs ∧ IsTup s.heap t2 ys ∧ R (.ok (.ret (.ref (s.heap.objs.size+4)))) {s with heap:=zq s.heap t1 t2}) :=
 .of_wp λ prog w A R s h=>by
  obtain⟨hp,g,d,tk,os⟩:=s;obtain⟨h1,h2,h⟩:=h;have hsub:=PySem.sub_zip;have a1:IsTup (Shared.heap ⟨hp,g,d,tk,os⟩) t1 xs:=h1;have a2:IsTup (Shared.heap ⟨hp.push {cls:=.type "tuple_iterator",data:=.fields #[.ref t1,.int 0 0]},g,d,tk,os⟩) t2 ys:=IsTup.pushed h2 _
  wp_walk using iter_tuple a1,iter_tuple a2
  refine⟨_,rfl,?_⟩;have z:∀ (u v w x y:Obj),((((hp.push u).push v).push w).push x).objs.size=hp.objs.size+4:=λ u v w x y=>by rw[Heap.size_push,Heap.size_push,Heap.size_push,Heap.size_push]
  have e1:∀ u:Obj,(hp.push u).objs.size=hp.objs.size+1:=λ u=>Heap.size_push ..
  have e2:∀ u v:Obj,((hp.push u).push v).objs.size=hp.objs.size+2:=λ u v=>by rw[Heap.size_push,Heap.size_push]
  have e3:∀ u v w:Obj,(((hp.push u).push v).push w).objs.size=hp.objs.size+3:=λ u v w=>by rw[Heap.size_push,Heap.size_push,Heap.size_push]
  have e4:∀ u v w x:Obj,((((hp.push u).push v).push w).push x).objs.size=hp.objs.size+4:=λ u v w x=>by rw[Heap.size_push,Heap.size_push,Heap.size_push,Heap.size_push]
  simp only[e1,e2,e3,e4];exact h
section
variable {prog:Program}{w:World}{A:Around}{E:Value->Shared->Prop}{s:Shared}
theorem z_3 {t1 t2:Addr}{xs ys:Array Value}{Q:Value->Shared->Prop} (h1:IsTup s.heap t1 xs) (h2:IsTup s.heap t2 ys)
  (fin:∀ h',h'.get? (s.heap.objs.size+4)=some (zO .none false (s.heap.objs.size+2) (s.heap.objs.size+3))->IsPair h' (s.heap.objs.size+2) (.ref s.heap.objs.size) (.ref (s.heap.objs.size+1))->IsPair h' (s.heap.objs.size+3) .none .none ->
   IsTupIter h' s.heap.objs.size t1 0->IsTupIter h' (s.heap.objs.size+1) t2 0->(∀ c o,s.heap.get? c=some o->h'.get? c=some o)->Q (.ref (s.heap.objs.size+4)) {s with heap:=h'}) :
  wpAny (model prog w) A (call (.type "zip") [.ref t1,.ref t2]) Q E s:=by
 refine callType_new F.called_zip (by decide) (F.typeCall_zip_2 _ _) (F.newCall_zip_2 _ _) (λ obj=>F.args_object_init_3 obj _ _) F.entry_zip_new (ab8 t1 t2 xs ys) ⟨h1,h2,?_⟩
 have z1:∀ u:Obj,(s.heap.push u).objs.size=s.heap.objs.size+1:=λ u=>Heap.size_push ..
 have z2:∀ u v:Obj,((s.heap.push u).push v).objs.size=s.heap.objs.size+2:=λ u v=>by rw[Heap.size_push,z1]
 have z3:∀ u v w:Obj,(((s.heap.push u).push v).push w).objs.size=s.heap.objs.size+3:=λ u v w=>by rw[Heap.size_push,z2]
 have z4:∀ u v w x:Obj,((((s.heap.push u).push v).push w).push x).objs.size=s.heap.objs.size+4:=λ u v w x=>by rw[Heap.size_push,z3]
 have p0:(zq s.heap t1 t2).get? s.heap.objs.size=some _:=qd _ (qd _ (qd _ (qd _ (qj _ rfl))))
 have p1:(zq s.heap t1 t2).get? (s.heap.objs.size+1)=some {cls:=.type "tuple_iterator",data:=.fields #[.ref t2,.int 0 0]}:=by
  rw[← z1 {cls:=.type "tuple_iterator",data:=.fields #[.ref t1,.int 0 0]}];unfold zq;exact qd _ (qd _ (qd _ (qj _ rfl)))
 have p2:(zq s.heap t1 t2).get? (s.heap.objs.size+2)=some {cls:=.type "tuple",data:=.seq #[.ref s.heap.objs.size,.ref (s.heap.objs.size+1)]}:=by
  unfold zq;exact qd _ (qd _ (E_0 (z2 _ _) rfl))
 have p3:(zq s.heap t1 t2).get? (s.heap.objs.size+3)=some {cls:=.type "tuple",data:=.seq #[.none,.none]}:=by
  unfold zq;exact qd _ (E_0 (z3 _ _ _) rfl)
 have p4:(zq s.heap t1 t2).get? (s.heap.objs.size+4)=some (zO .none false (s.heap.objs.size+2) (s.heap.objs.size+3)):=by
  unfold zq;exact E_0 (z4 _ _ _ _) rfl
 exact⟨⟨_,p4,rfl⟩,fin _ p4 p2 p3 ⟨_,p0,rfl,rfl⟩ ⟨_,p1,rfl,rfl⟩ λ c o e=>qd _ (qd _ (qd _ (qd _ (qd _ e))))⟩
end
structure Coll (X:Cx) (J:It) (fp:List Addr) (it:Addr) (tn:Nat->Heap->Prop):Prop where
 obj:∀ i h,tn i h->∀ b∈fp,b<h.objs.size
 keep:∀ i h h' (S:Addr),tn i h → S∉fp → (∀ o,h.get? S=some o → o.cls=.type "list") → (∀ b o,b≠S → h.get? b=some o → h'.get? b=some o) → tn i h'
 item:∀ (A:Around) (i:Nat) (pins:List (Addr×Obj)) (s:Shared) (σ:L2.St) (H:Hp) (E:Value->Shared->Prop),A.handled=none->Inv X pins σ H s->(∀ b∈fp,FpOk X pins H b)->tn i s.heap->J.go i H ->
  wpAny (model X.prog X.w) A (pyNext (.ref it)) (λ r s1=>∃ u x H',r=some u/\Inv X pins σ H' s1/\RelV x u/\J.yld i H x H'/\tn (i+1) s1.heap/\(∀ b,s.heap.objs.size<=b\/H b≠none\/H' b=none)/\∀ b o,b∉fp->s.heap.get? b=some o->s1.heap.get? b=some o) E s
 done:∀ (A:Around) (i:Nat) (pins:List (Addr×Obj)) (s:Shared) (σ:L2.St) (H:Hp) (E:Value->Shared->Prop),A.handled=none->Inv X pins σ H s->(∀ b∈fp,FpOk X pins H b)->tn i s.heap->J.stop i H ->
  wpAny (model X.prog X.w) A (pyNext (.ref it)) (λ r s1=>r=none/\Inv X pins σ H s1/\∀ b o,b∉fp->s.heap.get? b=some o->s1.heap.get? b=some o) E s
theorem U_2 {X:Cx}{pins:List (Addr×Obj)}{H H':Hp}{b:Addr} (h:FpOk X pins H b) (n:H' b=none):FpOk X pins H' b:=⟨n,h.2⟩
abbrev lO (acc:List Value) (c:Nat):Obj:={cls:=.type "list",dict:=none,data:=.seq acc.toArray c,slots:=#[]}
section
variable {X:Cx}{J:It}{fp:List Addr}{it S:Addr}{tn:Nat->Heap->Prop}{pins:List (Addr×Obj)}{σ:L2.St}{A:Around}{R:Result->Shared->Prop}{n:Nat}{W:Nat->Hp->List V->Prop}
theorem ad5 (C:Coll X J fp it tn) (hA:A.handled=none) (hS:S∉fp) (res:Value) (hn:n<=1000) (go:∀ i H vs,i<n->W i H vs->J.go i H/\∀ x H',J.yld i H x H'->W (i+1) H' (vs++[x])) (stop:∀ H vs,W n H vs->J.stop n H)
  (fin:∀ s' H' vs' acc' c',Inv X pins σ H' s'->H' S=none->s'.heap.get? S=some (lO acc' c')->Vals vs' acc'->vs'.length=n->W n H' vs'->R (.ok (.ret res)) s') :
  ∀ (m i:Nat) (s:Shared) (H:Hp) (vs:List V) (acc:List Value) (c:Nat),n-i=m->i<=n->Inv X pins σ H s->(∀ b∈S::fp,FpOk X pins H b)->tn i s.heap->s.heap.get? S=some (lO acc c)->Vals vs acc->vs.length=i->W i H vs ->
   codeAny (model X.prog X.w) A (.builtin "list.extend.loop" ⟨[.ref S,.ref it,res],[]⟩) R s:=by
 intro m
 induction m with
 |zero =>
  intro i s H vs acc c hm hi I hf ht hL rv hl hw;have e:i=n:=by omega
  subst e;refine codeAny_builtin PySem.F.entry_extend_loop ?_;rw[Around.under_plainId PySem.F.plain_extend_loop _];refine qb (m:=pyNext (.ref it)) (wpAny_mono (C.done A.in1 i pins s σ H _ hA I (λ b hb=>hf b (qg _ hb)) ht (stop H vs hw)) (λ r s1 hh0_=>?_) λ _ _ z=>z)
  obtain⟨q1,I1,k⟩:=hh0_;subst q1;exact qc (fin s1 H vs acc c I1 (hf S qf).1 (k S _ hS hL) rv hl hw)
 |succ m ih =>
  intro i s H vs acc c hm hi I hf ht hL rv hl hw;have lt:i<n:=by omega
  obtain⟨g1,g2⟩:=go i H vs lt hw;refine codeAny_builtin PySem.F.entry_extend_loop ?_;rw[Around.under_plainId PySem.F.plain_extend_loop _];refine qb (m:=pyNext (.ref it)) (wpAny_mono (C.item A.in1 i pins s σ H _ hA I (λ b hb=>hf b (qg _ hb)) ht g1) (λ r s1 hh0_=>?_) λ _ _ z=>z)
  obtain⟨u,x,H1,q1,I1,ru,hy,ht1,nw,k⟩:=hh0_;subst q1;have hL1:=k S _ hS hL
  have free:∀ b∈S::fp,FpOk X pins H1 b:=λ b hb=>U_2 (hf b hb) (by
   rcases nw b with z | z | z
   ·have lt:b<s.heap.objs.size:=by
     rcases qr hb with rfl | hb
     ·exact qk hL
     ·exact C.obj _ _ ht b hb
    exact absurd lt (Nat.not_lt.mpr z)
   ·exact absurd (hf b hb).1 z
   ·exact z)
  have len:acc.length=i:=by rw[<- rv.length];exact hl
  have big:(1001:Nat)<=sizeLine:=by decide
  refine qb (m:=updateSeq S (·.push u)) (wpAny_updateSeq hL1 rfl (qc ⟨plainId_quiet PySem.F.plain_extend_loop _,ih (i+1) _ H1 (vs++[x]) (acc++[u]) (c+1) (by omega) lt ?_ free ?_ ?_ (rv.append (.cons ru .nil)) (by rw[List.length_append,hl];rfl) (g2 x H1 hy)⟩) (by rw[List.size_toArray];omega) (by show (acc.toArray.push u).size<=_;rw[Array.size_push,List.size_toArray];omega))
  ·exact Inv.turnedL (t':=s1.toks) (fs:=[S]) I1 (λ b o hb q=>(Heap.get?_update_other _ _ (λ e=>hb (by simp[e]))).trans q) λ b hb=>by rw[List.mem_singleton.mp hb];exact free S qf
  ·exact C.keep _ _ _ S ht1 hS (λ o q=>by rw[hL1] at q;cases q;rfl) λ b o hb q=>(Heap.get?_update_other _ _ (Ne.symm hb)).trans q
  ·rw[Heap.get?_update_self _ hL1 rfl]
   simp[Obj.mapSeq]
end
theorem N_9:typeLookup (.type "zip") "__len__"=pure none:=by rw[typeLookup_type,builtinLookup_eq_fast];kernel_rfl
theorem K_1:typeLookup (.type "zip") "__length_hint__"=pure none:=by rw[typeLookup_type,builtinLookup_eq_fast];kernel_rfl
section
variable {prog:Program}{w:World}{A:Around}{E:Value->Shared->Prop}{s:Shared}{r:Addr}
theorem ac9 {Q:Bool → Shared → Prop} (hT:s.TypeIs (.ref r) "zip") (h:Q true s):wpAny (model prog w) A (Builtin.List.listLengthHint (.ref r)) Q E s:=by
 unfold Builtin.List.listLengthHint;refine qb (wpAny_specialOf hT N_9 ?_);show wpAny _ _ (specialOf (.ref r) (Str.ofString "__length_hint__") >>= _) _ _ _;refine qb (wpAny_specialOf hT K_1 ?_);exact qc h
end
section
variable {X:Cx}{J:It}{fp:List Addr}{it S:Addr}{tn:Nat->Heap->Prop}{pins:List (Addr×Obj)}{σ:L2.St}{A:Around}{R:Result->Shared->Prop}{n:Nat}{W:Nat->Hp->List V->Prop}{s:Shared}{H:Hp}
theorem I_5 (C:Coll X J fp it tn) (hA:A.handled=none) (hS:S∉fp) (res:Value) (hn:n<=1000) (go:∀ i H vs,i<n->W i H vs->J.go i H/\∀ x H',J.yld i H x H'->W (i+1) H' (vs++[x])) (stop:∀ H vs,W n H vs->J.stop n H)
  (fin:∀ s' H' vs' acc' c',Inv X pins σ H' s'->H' S=none->s'.heap.get? S=some (lO acc' c')->Vals vs' acc'->vs'.length=n->W n H' vs'->R (.ok (.ret res)) s')
  {f0:Value}{f1:Bool}{TI TO:Addr} (hz:s.heap.get? it=some (zO f0 f1 TI TO)) (ne:S≠it) (I:Inv X pins σ H s) (hf:∀ b∈S::fp,FpOk X pins H b) (ht:tn 0 s.heap) {c:Nat} (hL:s.heap.get? S=some (lO [] c)) (hw:W 0 H []) :
  wpAny (model X.prog X.w) A.in1 (Builtin.List.listExtendWith (.ref S) (.ref it) res) (λ f s'=>match f with | .done f=>R (.ok f) s' | .again c'=>c'.quiet=true/\codeAny (model X.prog X.w) A c' R s') (λ e s'=>R (.error e) s') s:=by
 have ty:s.TypeIs (.ref it) "zip":=⟨_,hz,rfl⟩;have big:(1001:Nat)<=sizeLine:=by decide
 unfold Builtin.List.listExtendWith;refine qb (wpAny_typeOf ty ?_);have n1:Builtin.List.listSameRef (.ref S) (.ref it)=false:=beq_eq_false_iff_ne.mpr ne;rw[n1];refine wpAny_ite_split (λ z=>absurd z (by decide)) λ _=>?_
 have self:∀ {Q:Value->Shared->Prop}{E:Value->Shared->Prop},Q (.ref it) s->wpAny (model X.prog X.w) A.in1 (pyIter (.ref it)) Q E s:=λ {Q E} q=>by
  refine wpAny_pyIter_slot ty PySem.F.slot_zip_iter (wpAny_call_entry PySem.F.slot_zip_iter ty PySem.F.entry_zip_iter ?_ (PySem.F.args_zip_iter_1 _));exact qc ⟨_,rfl,"zip",_,ty,PySem.F.slot_zip_next.lookup,q⟩
 refine qb (self ?_);refine qb (wpAny_holding (ac9 ty ?_));refine wpAny_ite_split (λ _=>?_) λ z=>absurd rfl z
 refine qb (wpAny_rule ?_);unfold Builtin.List.listTouch
 have u1:(s.heap.update S (Obj.mapSeq (·.push Value.none))).get? S=some (lO [.none] (c+1)):=by
  rw[Heap.get?_update_self _ hL rfl];simp[Obj.mapSeq]
 have u2:((s.heap.update S (Obj.mapSeq (·.push Value.none))).update S (Obj.mapSeq (·.pop))).get? S=some (lO [] (c+1+1)):=by
  rw[Heap.get?_update_self _ u1 rfl];simp[Obj.mapSeq]
 have far:∀ b o,b≠S->s.heap.get? b=some o->((s.heap.update S (Obj.mapSeq (·.push Value.none))).update S (Obj.mapSeq (·.pop))).get? b=some o:=λ b o hb q =>
  (Heap.get?_update_other _ _ (Ne.symm hb)).trans ((Heap.get?_update_other _ _ (Ne.symm hb)).trans q)
 refine qb (qb (m:=updateSeq S (·.push .none)) (wpAny_updateSeq hL rfl (wpAny_updateSeq u1 rfl ?_ (by show (1:Nat)<=sizeLine;decide) (by show (0:Nat)<=sizeLine+1;exact Nat.zero_le _)) (by show (0:Nat)<=sizeLine;exact Nat.zero_le _) (by show (1:Nat)<=sizeLine+1;decide)))
 refine qc ⟨plainId_quiet PySem.F.plain_extend_loop _,ad5 C hA hS res hn go stop fin n 0 _ H [] [] (c+1+1) rfl (Nat.zero_le _) (Inv.turnedL (s:=s) (t':=s.toks) (fs:=[S]) I (λ b o hb q=>far b o (λ e=>hb (by simp[e])) q) λ b hb=>by rw[List.mem_singleton.mp hb];exact hf S qf) hf
  (C.keep _ _ _ S ht hS (λ o q=>by rw[hL] at q;cases q;rfl) λ b o hb q=>far b o hb q) u2 .nil rfl hw⟩
end
end Fx
namespace L2
open PySem PySem.Spec PyProof.Rows
theorem Inv.track {X:Cx}{pins:List (Addr×Obj)}{σ:St}{H:Hp}{s:Shared}{a:Addr}{o:HO} (I:Inv X pins σ H s) (hf:FpOk X pins H a) (old:X.s₀.heap.objs.size<=a) (new:ObjOk X.prog X.w (upd H a o) s.heap a o):Inv X pins σ (upd H a o) s:=by
 obtain⟨hn,hl,_,_,hc,hp⟩:=hf;have ne:∀ {b:Addr}{u:HO},H b=some u->b≠a:=λ q=>a_5 q hn
 have lt:∀ {b:Addr}{u:Obj},X.s₀.heap.get? b=some u->b≠a:=λ q=>qp (qo (qk q) old)
 refine⟨I.ok,I.os,I.bare,⟨I.base.keep,I.base.slot,λ b u q n hx=>by rw[a_3 (lt q)];exact I.base.free b u q n hx,I.base.there,λ b xs q=>?_,λ b u v q=>?_,λ b ps q=>?_⟩,I.loc,I.cell,by rw[a_3 (Ne.symm hl)];exact I.free,
  λ x c q=>by rw[a_3 (hc x c q)];exact I.freeC x c q,λ p hq=>?_,λ b u e=>?_,I.len⟩
 ·have z:=I.base.tups b xs q
  rw[a_3 (ne z)];exact z
 ·have z:=I.base.frzs b u v q
  rw[a_3 (ne z)];exact z
 ·obtain⟨more,z⟩:=I.base.tbls b ps q
  exact⟨more,by rw[a_3 (ne z)];exact z⟩
 ·obtain⟨p1,p2,p3⟩:=I.pin p hq
  exact⟨p1,by rw[a_3 (hp p hq)];exact p2,p3⟩
 ·by_cases hb:b=a
  ·subst hb;rw[a_2] at e;cases e;exact new
  ·rw[a_3 hb] at e
   exact (I.hok b u e).stay (λ c v _ q=>q) (λ c q=>by rw[a_3 (ne q)];exact q) λ c xs q=>by rw[a_3 (ne q)];exact q
end L2
namespace Fx
open PySem PySem.Spec PyProof.Rows L2
section
variable {X:Cx}{J:It}{fp:List Addr}{it:Addr}{tn:Nat->Heap->Prop}{pins:List (Addr×Obj)}{σ:L2.St}{n:Nat}{W:Nat->Hp->List V->Prop}{s:Shared}{H:Hp}{f0:Value}{f1:Bool}{TI TO:Addr}
theorem ab9 (hc:X.calm=true) (C:Coll X J fp it tn) (hn:n<=1000) (go:∀ i H vs,i<n->W i H vs->J.go i H/\∀ x H',J.yld i H x H'->W (i+1) H' (vs++[x])) (stop:∀ H vs,W n H vs->J.stop n H)
  (hz:s.heap.get? it=some (zO f0 f1 TI TO)) (I:Inv X pins σ H s) (hf:∀ b∈fp,FpOk X pins H b) (ht:tn 0 s.heap) (hw:W 0 H []) {Q:VK}
  (fin:∀ H' vs' p,H' p=none->vs'.length=n->W n H' vs'->Q (.ref p) (upd H' p (.lst vs'))) :
  wpAny (model X.prog X.w) X.A (call (.type "list") [.ref it]) (EP X pins σ Q) X.xe s:=by
 have hh:X.A.handled=none:=I.ok.hd hc;have big:(1001:Nat)<=sizeLine:=by decide
 refine callType_codes (Q₁:=λ o s1=>o=.ref s.heap.objs.size ∧ s1={s with heap:=s.heap.push {cls:=.type "list",data:=.seq #[]}}) PySem.F.called_list (PySem.F.typeCall_list_1 _) PySem.F.entry_list_init (code_list_new _ ⟨rfl,rfl⟩) λ o s1 h1=>?_
 obtain⟨rfl,rfl⟩:=h1;have new:(s.heap.push {cls:=.type "list",data:=.seq #[]}).get? s.heap.objs.size=some {cls:=.type "list",data:=.seq #[]}:=qj _ rfl
 have e2:((s.heap.push {cls:=.type "list",data:=.seq #[]}).update s.heap.objs.size (Obj.mapSeq (λ _=>(#[]:Array Value)))).get? s.heap.objs.size=some (lO [] 0):=by
  rw[Heap.get?_update_self (Obj.mapSeq (λ _=>(#[]:Array Value))) new rfl]
  simp[Obj.mapSeq]
 have up:∀ b o,s.heap.get? b=some o → ((s.heap.push {cls:=.type "list",data:=.seq #[]}).update s.heap.objs.size (Obj.mapSeq (λ _=>(#[]:Array Value)))).get? b=some o:=λ b o e =>
  (Heap.get?_update_other _ _ (Nat.ne_of_gt (qk e))).trans (qd _ e)
 have out:s.heap.objs.size∉fp:=λ z=>Nat.lt_irrefl _ (C.obj _ _ ht _ z)
 have fS:FpOk X pins H s.heap.objs.size:=I.fpOk (qi _) (I.hok.fresh (qi _));refine⟨⟨_,new,rfl⟩,PySem.F.args_list_init_2 _ _,?_⟩;show wpAny _ _ (do let old <- Builtin.List.listItems (.ref s.heap.objs.size);Builtin.List.listUpdate (.ref s.heap.objs.size) (λ _=>#[]);letGo old.toList.reverse;Builtin.List.listExtendWith (.ref s.heap.objs.size) (.ref it) .none) _ _ _
 refine qb (qb (wpAny_seqItems new rfl (qc ?_)));refine qb (wpAny_updateSeq new rfl ?_);refine qb (wpAny_letGo ?_);refine I_5 (A:=X.A.in1) (H:=H) C hh out .none hn go stop (λ s' H' vs' acc' c' I' hS' hL' rv hl hw'=>?_) (up _ _ hz) (λ e=>Nat.lt_irrefl _ (by rw[<- e] at hz;exact qk hz)) (I.kept (t':=s.toks) up) (λ b hb=>?_) (C.keep _ _ _ s.heap.objs.size ht out (λ o q=>absurd (qk q) (Nat.lt_irrefl _)) λ b o _ q=>up b o q) e2 hw
 ·refine⟨rfl,.ref s.heap.objs.size,_,I'.track (o:=.lst vs') (U_2 fS hS') I.sz ⟨by omega,acc',c',rv,hL'⟩,rfl,fin H' vs' _ hS' hl hw'⟩
 ·rcases qr hb with rfl | hb
  ·exact fS
  ·exact hf b hb
theorem D_4 {A:Around}{E:Value->Shared->Prop}{Qc:List Value->Shared->Prop} (hA:A.handled=none) (C:Coll X J fp it tn) (hn:n<=1000) (go:∀ i H vs,i<n->W i H vs->J.go i H/\∀ x H',J.yld i H x H'->W (i+1) H' (vs++[x])) (stop:∀ H vs,W n H vs->J.stop n H)
  (hz:s.heap.get? it=some (zO f0 f1 TI TO)) (I:Inv X pins σ H s) (hf:∀ b∈fp,FpOk X pins H b) (ht:tn 0 s.heap) (hw:W 0 H [])
  (fin:∀ s' H' vs' acc',Inv X pins σ H' s'->Vals vs' acc'->vs'.length=n->W n H' vs'->Qc acc' s'):wpAny (model X.prog X.w) A (collect (.ref it)) Qc E s:=by
 unfold collect;refine qb (wpAny_runValue (codeAny_builtin PySem.F.entry_proto_collect ?_));rw[Around.under_plainId PySem.F.plain_proto_collect _];show wpAny _ A.in1 (newList [] >>= λ z=>again (.builtin "list.__iadd__" ⟨[z,.ref it],[]⟩)) _ _ s
 refine qb (wpAny_newObj_type (qc ⟨plainId_quiet PySem.F.plain_list_iadd _,codeAny_builtin PySem.F.entry_list_iadd ?_⟩));rw[Around.under_plainId PySem.F.plain_list_iadd _];have l0:(s.heap.push {cls:=.type "list",data:=.seq ([]:List Value).toArray}).get? s.heap.objs.size=some (lO [] 0):=qj _ rfl;have up:∀ b o,s.heap.get? b=some o → (s.heap.push {cls:=.type "list",data:=.seq ([]:List Value).toArray}).get? b=some o:=λ b o e=>qd _ e
 have out:s.heap.objs.size∉fp:=λ z=>Nat.lt_irrefl _ (C.obj _ _ ht _ z)
 have fS:FpOk X pins H s.heap.objs.size:=I.fpOk (qi _) (I.hok.fresh (qi _));show wpAny _ A.in1 (Builtin.List.listExtendWith (.ref s.heap.objs.size) (.ref it) (.ref s.heap.objs.size)) _ _ _;have key:=I_5 (A:=A) (H:=H) (s:={s with heap:=s.heap.push {cls:=.type "list",data:=.seq ([]:List Value).toArray}}) (R:=λ (q:Result) (s':Shared)=>q=.ok (.ret (.ref s.heap.objs.size)) ∧ ∃ H' vs' acc' c',Inv X pins σ H' s' ∧ s'.heap.get? s.heap.objs.size=some (lO acc' c') ∧ Vals vs' acc' ∧ vs'.length=n ∧ W n H' vs')
  C hA out (.ref s.heap.objs.size) hn go stop (λ s' H' vs' acc' c' I' hS' hL' rv hl hw'=>⟨rfl,H',vs',acc',c',I',hL',rv,hl,hw'⟩) (up _ _ hz) (λ e=>Nat.lt_irrefl _ (by rw[<- e] at hz;exact qk hz)) (I.kept (t':=s.toks) up) (λ b hb=>by
   rcases qr hb with rfl | hb
   ·exact fS
   ·exact hf b hb) (C.keep _ _ _ s.heap.objs.size ht out (λ o q=>absurd (qk q) (Nat.lt_irrefl _)) λ b o _ q=>up b o q) l0 hw
 refine wpAny_mono key (λ f s' x=>?_) λ e s' x=>?_
 ·cases f with
  |done f =>
   obtain⟨e,H',vs',acc',c',I',hL',rv,hl,hw'⟩:=x;cases e;show wpAny _ A (load s.heap.objs.size >>= _) _ _ _;exact qb (wpAny_load hL' (qc (fin s' H' vs' acc' I' rv hl hw')))
  |again c₁ =>
   refine⟨x.1,codeAny_mono x.2 λ q s₂ y=>?_⟩
   obtain⟨rfl,H',vs',acc',c',I',hL',rv,hl,hw'⟩:=y;show wpAny _ A (load s.heap.objs.size >>= _) _ _ _;exact qb (wpAny_load hL' (qc (fin s₂ H' vs' acc' I' rv hl hw')))
 ·cases x.1
end
section
variable {X:Cx}{J:It}{fp:List Addr}{it:Addr}{tn:Nat->Heap->Prop}{pins:List (Addr×Obj)}{σ:L2.St}{n:Nat}{W:Nat->Hp->List V->Prop}{s:Shared}{H:Hp}{f0:Value}{f1:Bool}{TI TO:Addr}
theorem O_8 (hc:X.calm=true) (C:Coll X J fp it tn) (hn:n<=1000) (go:∀ i H vs,i<n->W i H vs->J.go i H/\∀ x H',J.yld i H x H'->W (i+1) H' (vs++[x])) (stop:∀ H vs,W n H vs->J.stop n H)
  (hz:s.heap.get? it=some (zO f0 f1 TI TO)) (I:Inv X pins σ H s) (hf:∀ b∈fp,FpOk X pins H b) (ht:tn 0 s.heap) (hw:W 0 H []) {Q:VK}
  (fin:∀ H' vs' p,H' p=none->vs'.length=n->W n H' vs'->Q (.ref p) (upd H' p (.tup vs'))) :
  wpAny (model X.prog X.w) X.A (call (.type "tuple") [.ref it]) (EP X pins σ Q) X.xe s:=by
 have hh:X.A.handled=none:=I.ok.hd hc;have big:(1001:Nat)<=sizeLine:=by decide
 have ty:s.TypeIs (.ref it) "zip":=⟨_,hz,rfl⟩;refine callType_codes (Q₁:=λ o s1=>s1.TypeIs o "tuple" ∧ EP X pins σ Q o s1) PySem.F.called_tuple (PySem.F.typeCall_tuple_1 _) PySem.F.entry_object_init (codeAny_of_tree ?_) λ o s1 h1=>⟨h1.1,PySem.F.args_object_init_2 o _,object_init_meets PySem.F.called_tuple.init.lookup PySem.F.called_tuple.made (by decide) X.prog X.w X.A.in1 _ s1 ⟨h1.1,rfl,h1.2⟩⟩
 show wpAny _ X.A.in1.in1 (do checkBuiltinCall "tuple.__new__" ⟨[.type "tuple",.ref it],[]⟩;again (.builtin "tuple.__new__" ⟨[.type "tuple",.ref it],[]⟩)) _ _ s;refine qb (wpAny_of_eq (PySem.F.newCall_tuple_1 _) (qc ⟨plainId_quiet PySem.F.plain_tuple_new _,codeAny_builtin PySem.F.entry_tuple_new ?_⟩));rw[Around.under_plainId PySem.F.plain_tuple_new _];have q1:=sub_tuple_self;have q2:=init_tuple_lookup;have q3:=madeHere_tuple
 wp_walk using wpAny_typeOf ty,D_4 (A:=X.A.in1.in1) hh C hn go stop hz I hf ht hw
 intro s' H' vs' acc' I' rv hl hw';have len:acc'.length=n:=by rw[<- rv.length];exact hl
 show wpAny _ _ (Builtin.Tuple.tupleExact acc'.toArray >>= λ v=>ret v) _ _ _
 unfold Builtin.Tuple.tupleExact;refine qb (wpAny_newObj_type (qc ?_) (by show acc'.toArray.size<=sizeLine;rw[List.size_toArray];omega))
 refine⟨⟨_,qj _ rfl,rfl⟩,.ref s'.heap.objs.size,_,I'.laid (t':=s'.toks) (o:=.tup vs') (λ b o q=>qd _ q) (qi _) ⟨by omega,acc',rv,IsTuN.new _ _⟩,rfl,fin H' vs' _ (I'.hok.fresh (qi _)) hl hw'⟩
end
def SqB (T:Bool) (K:Frag) (H:Hp) (a:Addr) (xs:List V):Prop:=if T=true then SqT K H a xs else SqL K H a xs
def aK7 (T:Bool) (h:Heap) (a:Addr) (its:Array Value):Prop:=if T=true then IsTup h a its else h.IsList a its
def IterB (T:Bool) (h:Heap) (i a:Addr) (k:Nat):Prop:=if T=true then IsTupIter h i a k else h.IsListIter i a k
theorem SqB.inv {T:Bool}{X:Cx}{pins:List (Addr×Obj)}{σ:L2.St}{H:Hp}{s:Shared}{a:Addr}{xs:List V} (I:Inv X pins σ H s) (h:SqB T X.K H a xs):∃ its:List Value,Vals xs its/\aK7 T s.heap a its.toArray/\xs.length<=sizeLine:=by
 cases T with
 |true =>
  obtain⟨its,r,p,z⟩:=I.tuple h;exact⟨its,r,p,z⟩
 |false =>
  obtain⟨its,r,p,z⟩:=I.list h;exact⟨its,r,p.isList,z⟩
theorem SqB.inj {T:Bool}{X:Cx}{pins:List (Addr×Obj)}{σ:L2.St}{H:Hp}{s:Shared}{a:Addr}{xs ys:List V} (I:Inv X pins σ H s) (h:SqB T X.K H a xs) (h':SqB T X.K H a ys):xs=ys:=by
 cases T with
 |true=>exact I.tuple_inj h h'
 |false=>exact I.list_inj h h'
theorem SqB.same {T:Bool}{K:Frag}{H H':Hp}{a:Addr}{xs:List V} (s:Same H H') (h:SqB T K H a xs):SqB T K H' a xs:=by
 cases T with
 |true=>exact Same.seqT s h
 |false=>exact Same.seq s h
def PB (T:Bool) (i a:Addr) (its:Array Value) (k:Nat) (h:Heap):Prop:=IterB T h i a k/\aK7 T h a its
theorem aw1 {prog:Program}{w:World} (T:Bool) (i a:Addr) (ne:a≠i) (its:Array Value):Nx prog w i [i,a] (λ k=>its[k]?) (PB T i a its):=by
 cases T with
 |true=>exact aF0 i a ne its
 |false=>exact ap0 i a ne its
theorem IterB.at {T:Bool}{h h':Heap}{i a:Addr}{k:Nat} (x:IterB T h i a k) (q:∀ o,h.get? i=some o->h'.get? i=some o):IterB T h' i a k:=by
 cases T with
 |true=>obtain⟨o,e,r⟩:=x;exact⟨o,q o e,r⟩
 |false=>exact Heap.IsListIter.at x q
theorem IterB.there {T:Bool}{h:Heap}{i a:Addr}{k:Nat} (x:IterB T h i a k):∃ o vs,h.get? i=some o/\o.data=.fields vs:=by
 cases T with
 |true=>obtain⟨o,e,_,d⟩:=x;exact⟨o,_,e,d⟩
 |false=>obtain⟨o,e,_,d⟩:=x;exact⟨o,_,e,d⟩
def Itz (T:Bool) (K:Frag) (a b:Addr):It :=
  ⟨λ i H=>∃ xs ys,SqB T K H a xs/\SqB T K H b ys/\i<xs.length/\i<ys.length,
   λ i H x H'=>∃ v w p,(∀ xs,SqB T K H a xs->xs[i]?=some v)/\(∀ ys,SqB T K H b ys->ys[i]?=some w)/\x=.ref p/\H p=none/\H'=upd H p (.tup [v,w]),
   λ i H=>∃ xs ys,SqB T K H a xs/\SqB T K H b ys/\(xs.length<=i\/ys.length<=i)⟩
structure Zp (z TI TO i1 i2 a b:Addr):Prop where
 ap:Za z TI TO i1 i2 [i1,a] [i2,b]
 n1:a≠i1
 n2:b≠i2
def tZ (T:Bool) (z TI TO i1 i2 a b:Addr) (i:Nat) (f0:Value) (f1:Bool) (h:Heap):Prop :=
 h.get? z=some (zO f0 f1 TI TO)/\IsPair h TI (.ref i1) (.ref i2)/\(∃ u v,IsPair h TO u v)/\IterB T h i1 a i/\IterB T h i2 b i
theorem tZ.keep {T:Bool}{z TI TO i1 i2 a b:Addr}{i:Nat}{f0:Value}{f1:Bool}{h h':Heap} (x:tZ T z TI TO i1 i2 a b i f0 f1 h) (k:∀ c∈[z,TI,TO,i1,i2],∀ o,h.get? c=some o->h'.get? c=some o):tZ T z TI TO i1 i2 a b i f0 f1 h':=by
 obtain⟨x1,x2,⟨u,v,x3⟩,x4,x5⟩:=x;exact⟨k z (by simp) _ x1,k TI (by simp) _ x2,⟨u,v,k TO (by simp) _ x3⟩,x4.at λ o e=>k i1 (by simp) o e,x5.at λ o e=>k i2 (by simp) o e⟩
theorem tZ.obj {T:Bool}{z TI TO i1 i2 a b:Addr}{i:Nat}{f0:Value}{f1:Bool}{h:Heap} (x:tZ T z TI TO i1 i2 a b i f0 f1 h):∀ c∈[z,TI,TO,i1,i2],∃ o,h.get? c=some o ∧ (∀ v,o.data≠.cell v) ∧ o.cls≠.type "list":=by
 obtain⟨x1,x2,⟨u,v,x3⟩,x4,x5⟩:=x;intro c hc
 have it:∀ {i a:Addr}{k:Nat},IterB T h i a k → ∃ o,h.get? i=some o ∧ (∀ v,o.data≠.cell v) ∧ o.cls≠.type "list":=λ {i a k} y=>by
  cases T with
  |true=>obtain⟨o,e,q,d⟩:=y;exact⟨o,e,(λ v z=>by rw[d] at z;cases z),by rw[q];decide⟩
  |false=>obtain⟨o,e,q,d⟩:=y;exact⟨o,e,(λ v z=>by rw[d] at z;cases z),by rw[q];decide⟩
 simp only[List.mem_cons,List.not_mem_nil,or_false] at hc
 rcases hc with rfl | rfl | rfl | rfl | rfl
 ·exact⟨_,x1,(λ v z=>by cases z),show (Value.type "zip")≠Value.type "list" by decide⟩
 ·exact⟨_,x2,(λ v z=>by cases z),show (Value.type "tuple")≠Value.type "list" by decide⟩
 ·exact⟨_,x3,(λ v z=>by cases z),show (Value.type "tuple")≠Value.type "list" by decide⟩
 ·exact it x4
 ·exact it x5
section
variable {X:Cx}{z TI TO i1 i2 a b:Addr}{T:Bool}
theorem tZ.zs {i:Nat}{f0:Value}{f1:Bool}{h:Heap}{u v:Array Value} (x:tZ T z TI TO i1 i2 a b i f0 f1 h) (h1:aK7 T h a u) (h2:aK7 T h b v):Zs z TI TO i1 i2 (PB T i1 a u) (PB T i2 b v) i i f0 f1 h :=
 ⟨x.1,x.2.1,x.2.2.1,⟨x.2.2.2.1,h1⟩,⟨x.2.2.2.2,h2⟩⟩
theorem Zs.tz {i:Nat}{f0:Value}{f1:Bool}{h:Heap}{u v:Array Value} (x:Zs z TI TO i1 i2 (PB T i1 a u) (PB T i2 b v) i i f0 f1 h):tZ T z TI TO i1 i2 a b i f0 f1 h:=⟨x.hz,x.ti,x.to,x.p1.1,x.p2.1⟩
theorem az7 {pins:List (Addr×Obj)}{s:Shared}{σ:L2.St}{H:Hp}{i:Nat}{f0:Value}{f1:Bool}{h1:Heap}{x y:Value}{v w:V} (I:Inv X pins σ H s) (hf:∀ c∈[z,TI,TO,i1,i2],FpOk X pins H c) (st:tZ T z TI TO i1 i2 a b i f0 f1 s.heap) (rx:RelV v x) (ry:RelV w y)
  (pr:IsPair h1 s.heap.objs.size x y) (k:∀ c o,c∉[z,TO,i1,i2]->s.heap.get? c=some o->h1.get? c=some o):Inv X pins σ (upd H s.heap.objs.size (.tup [v,w])) {s with heap:=h1}/\∀ c∈[z,TI,TO,i1,i2],FpOk X pins (upd H s.heap.objs.size (.tup [v,w])) c:=by
 have lt:∀ c∈[z,TI,TO,i1,i2],c<s.heap.objs.size:=λ c hc=>let ⟨_,e,_⟩:=st.obj c hc;qk e
 have fp:∀ c∈[z,TI,TO,i1,i2],FpOk X pins (upd H s.heap.objs.size (.tup [v,w])) c:=λ c hc=>(hf c hc).upd (qp (lt c hc))
 have I0:Inv X pins σ (upd H s.heap.objs.size (.tup [v,w])) {s with heap:=s.heap.push {cls:=.type "tuple",data:=.seq #[x,y]}} :=
  I.laid (t':=s.toks) (λ c o q=>qd _ q) (qi _) (show ObjOk X.prog X.w _ _ _ (.tup [v,w]) from ⟨by show (2:Nat)<=sizeLine;decide,[x,y],.cons rx (.cons ry .nil),IsTuN.new _ _⟩)
 refine⟨Inv.turnedL (s:={s with heap:=s.heap.push {cls:=.type "tuple",data:=.seq #[x,y]}}) (t':=s.toks) (fs:=[z,TO,i1,i2]) I0 (λ c q hc e=>?_) λ c hc=>fp c (by
  simp only[List.mem_cons,List.not_mem_nil,or_false] at hc ⊢
  rcases hc with e | e | e | e
  ·exact .inl e
  ·exact .inr (.inr (.inl e))
  ·exact .inr (.inr (.inr (.inl e)))
  ·exact .inr (.inr (.inr (.inr e)))),fp⟩
 rcases Heap.get?_push_cases e with ⟨z1,z2⟩ | e
 ·rw[z1,z2];exact pr
 ·exact k c q hc e
def tC (T:Bool) (z TI TO i1 i2 a b:Addr) (i:Nat) (h:Heap):Prop:=∃ f0 f1,tZ T z TI TO i1 i2 a b i f0 f1 h/\(f0=.none\/∃ (T0:Addr) (u v:Value),f0=rawInt T0/\IsPair h T0 u v)
theorem J_4 (D:Zp z TI TO i1 i2 a b):Coll X (Itz T X.K a b) [z,TI,TO,i1,i2] z (tC T z TI TO i1 i2 a b) where
 obj:=λ i h ⟨f0,f1,st,_⟩ c hc=>let ⟨_,e,_⟩:=st.obj c hc;qk e
 keep:=λ i h h' S hh0_ hS hl k=>by
  obtain⟨f0,f1,st,fr⟩:=hh0_;refine⟨f0,f1,st.keep λ c hc o e=>k c o (λ q=>hS (q▸hc)) e,?_⟩
  rcases fr with e | ⟨T0,u,v,e,p⟩
  ·exact .inl e
  ·refine .inr ⟨T0,u,v,e,k T0 _ (λ q=>?_) p⟩
   exact absurd (hl _ (q▸p)) (show ¬ (Value.type "tuple"=Value.type "list") by decide)
 item:=λ A i pins s σ H E hh I hf hh0_ hh1_=>by
  obtain⟨f0,f1,st,fr⟩:=hh0_;obtain⟨xs,ys,q1,q2,l1,l2⟩:=hh1_;obtain⟨us,r1,p1,_⟩:=q1.inv I;obtain⟨vs,r2,p2,_⟩:=q2.inv I;have e1:xs[i]?=some xs[i]:=List.getElem?_eq_getElem l1;have e2:ys[i]?=some ys[i]:=List.getElem?_eq_getElem l2;obtain⟨x,hx,rx⟩:=r1.get e1;obtain⟨y,hy,ry⟩:=r2.get e2;have hp:H s.heap.objs.size=none:=I.hok.fresh (qi _);have done:∀ (h1:Heap) (g0:Value) (g1:Bool),tZ T z TI TO i1 i2 a b (i+1) g0 g1 h1->(∃ (T0:Addr) (u v:Value),g0=rawInt T0/\IsPair h1 T0 u v)->IsPair h1 s.heap.objs.size x y->(∀ c o,c∉[z,TO,i1,i2]->s.heap.get? c=some o->h1.get? c=some o) ->
    ∃ u x' H',some (Value.ref s.heap.objs.size)=some u/\Inv X pins σ H' {s with heap:=h1}/\RelV x' u/\(Itz T X.K a b).yld i H x' H'/\tC T z TI TO i1 i2 a b (i+1) h1/\(∀ c,s.heap.objs.size<=c\/H c≠none\/H' c=none)/\∀ c o,c∉[z,TI,TO,i1,i2]->s.heap.get? c=some o->h1.get? c=some o:=λ h1 g0 g1 t1 al pr k=>by
   obtain⟨I1,_⟩:=az7 I hf st rx ry pr k
   refine⟨_,.ref s.heap.objs.size,_,rfl,I1,rfl,⟨xs[i],ys[i],_,λ zs hz=>by rw[SqB.inj I hz q1];exact e1,λ zs hz=>by rw[SqB.inj I hz q2];exact e2,rfl,hp,rfl⟩,⟨g0,g1,t1,.inr al⟩,λ c=>?_,λ c o hc e=>k c o (λ m=>hc (by
    simp only[List.mem_cons,List.not_mem_nil,or_false] at m ⊢
    rcases m with e | e | e | e
    ·exact .inl e
    ·exact .inr (.inr (.inl e))
    ·exact .inr (.inr (.inr (.inl e)))
    ·exact .inr (.inr (.inr (.inr e))))) e⟩
   by_cases hc:c=s.heap.objs.size
   ·exact .inl (Nat.le_of_eq hc.symm)
   ·cases hH:H c with
    |none=>exact .inr (.inr (by rw[a_3 hc];exact hH))
    |some u=>exact .inr (.inl (by simp))
  rcases fr with e | ⟨T0,u,v,e,p⟩
  ·subst e
   exact S_7 (aw1 T i1 a D.n1 us.toArray) (aw1 T i2 b D.n2 vs.toArray) D.ap (st.zs p1 p2) (by simpa using hx) (by simpa using hy) λ h1 Z pr _ k=>done h1 _ _ Z.tz ⟨_,x,y,rfl,pr⟩ pr k
  ·subst e
   have far:T0∉[z,TO,i1,i2]\/T0=TO:=by
    by_cases h:T0=TO
    ·exact .inr h
    ·refine .inl λ m=>?_
     simp only[List.mem_cons,List.not_mem_nil,or_false] at m;obtain⟨o1,ts,it1,d1⟩:=st.2.2.2.1.there;obtain⟨o2,ts2,it2,d2⟩:=st.2.2.2.2.there;have p':s.heap.get? T0=some {cls:=.type "tuple",data:=.seq #[u,v]}:=p
     rcases m with q | q | q | q
     ·rw[q,st.1] at p'
      exact absurd (congrArg Obj.cls (qh p')) (show ¬ (Value.type "zip"=Value.type "tuple") by decide)
     ·exact h q
     ·rw[q,it1] at p';cases p';cases d1
     ·rw[q,it2] at p';cases p';cases d2
   refine S_4 (aw1 T i1 a D.n1 us.toArray) (aw1 T i2 b D.n2 vs.toArray) D.ap (st.zs p1 p2) p (by simpa using hx) (by simpa using hy) λ h1 Z pr _ k=>done h1 _ _ Z.tz ?_ pr k
   rcases far with h | h
   ·exact⟨T0,u,v,rfl,k T0 _ h p⟩
   ·subst h
    obtain⟨u',v',q⟩:=Z.to;exact⟨_,u',v',rfl,q⟩
 done:=λ A i pins s σ H E hh I hf hh0_ hh1_=>by
  obtain⟨f0,f1,st,fr⟩:=hh0_;obtain⟨xs,ys,q1,q2,l⟩:=hh1_;obtain⟨us,r1,p1,_⟩:=q1.inv I;obtain⟨vs,r2,p2,_⟩:=q2.inv I;have n1:=r1.length;have n2:=r2.length
  have five:∀ {c:Addr},c∈[z,TO,i1,i2]->c∈[z,TI,TO,i1,i2]:=λ {c} m=>by
   simp only[List.mem_cons,List.not_mem_nil,or_false] at m ⊢
   rcases m with e | e | e | e
   ·exact .inl e
   ·exact .inr (.inr (.inl e))
   ·exact .inr (.inr (.inr (.inl e)))
   ·exact .inr (.inr (.inr (.inr e)))
  refine S_5 hh (aw1 T i1 a D.n1 us.toArray) (aw1 T i2 b D.n2 vs.toArray) D.ap (st.zs p1 p2) ?_ ?_ λ h1 k=>⟨rfl,Inv.turnedL (t':=s.toks) (fs:=[z,TO,i1,i2]) I k λ c hc=>hf c (five hc),λ c o hc e=>k c o (λ m=>hc (five m)) e⟩
  ·rcases fr with e | ⟨T0,u,v,e,p⟩
   ·exact .inl e
   ·exact .inr ⟨T0,_,e,p⟩
  ·rcases l with l | l
   ·exact .inl (by simp;omega)
   ·exact .inr (by simp;omega)
end
theorem ax8 {n l r:Addr} (h1:l<n) (h2:r<n):Zp (n+4) (n+2) (n+3) n (n+1) l r:=by
 have lt:∀ {c:Addr} (k:Nat),c<n->c≠n+k:=λ {c} k h e=>by
  have:=qo h (Nat.le_add_right n k);rw[<- e] at this;exact Nat.lt_irrefl _ this
 refine⟨⟨?_,?_,?_,?_,?_,λ c hc=>?_,λ c hc=>?_⟩,λ e=>?_,lt 1 h2⟩
 ·exact qp (Nat.add_lt_add_left (by decide) n)
 ·exact qp (Nat.add_lt_add_left (by decide) n)
 ·exact qp (Nat.add_lt_add_left (by decide) n)
 ·exact Nat.ne_of_gt (Nat.lt_add_of_pos_right (by decide))
 ·exact Nat.ne_of_gt (Nat.add_lt_add_left (by decide) n)
 ·rcases qr hc with rfl | hc
  ·exact⟨qp (Nat.lt_add_of_pos_right (by decide)),qp (Nat.lt_add_of_pos_right (by decide)),qp (Nat.lt_add_of_pos_right (by decide))⟩
  ·rw[List.mem_singleton.mp hc]
   exact⟨lt 4 h1,lt 3 h1,lt 1 h1⟩
 ·rcases qr hc with rfl | hc
  ·exact⟨qp (Nat.add_lt_add_left (by decide) n),qp (Nat.add_lt_add_left (by decide) n),Nat.ne_of_gt (Nat.lt_add_of_pos_right (by decide))⟩
  ·rw[List.mem_singleton.mp hc]
   exact⟨lt 4 h2,lt 3 h2,lt 0 h2⟩
 ·exact lt 0 h1 e
section
variable {X:Cx}{pins:List (Addr×Obj)}{σ:L2.St}{H:Hp}{s:Shared}{a b:Expr}{ta:TA}{p pos:Pos}
theorem I_7 (T:Bool) {QQ:Addr → Addr → List V → List V → Hp → Prop}{Φ:Value → Shared → Prop} (hg:Gl X "zip") (hm:X.mg "zip"=none) (I:Inv X pins σ H s) (ha:PA X [a,b] ta)
  (h:ta σ H λ vs H1=>∃ l r xs ys,vs=[.ref l,.ref r]/\SqB T X.K H1 l xs/\SqB T X.K H1 r ys/\QQ l r xs ys H1)
  (fin:∀ s1 H1 z TI TO i1 i2 l r xs ys,Inv X pins σ H1 s1->Zp z TI TO i1 i2 l r->tZ T z TI TO i1 i2 l r 0 .none false s1.heap->(∀ c∈[z,TI,TO,i1,i2],FpOk X pins H1 c)->SqB T X.K H1 l xs->SqB T X.K H1 r ys->QQ l r xs ys H1->Φ (.ref z) s1)
  (hs:starEach [a,b] X.env=[(false,eval a X.env),(false,eval b X.env)]:=by rfl) (hs2:starEach [b] X.env=[(false,eval b X.env)]:=by rfl) :
  wpAny (model X.prog X.w) X.A (eval (.Call (.Name "zip" p) [a,b] [] pos) X.env) Φ X.xe s:=by
 refine wpAny_Call_Name_kw (l_0 I hg hm (u:=.type "zip") (by decide +kernel) (PyProof.Rows.callWith_type1 (thn (ha pos pins s σ H _ I h) λ us s1=>ex5 λ vs H1 I1 r1 q1=>?_) (by rw[hs,hs2]) (by rw[hs2];rfl)))
 obtain⟨l,r,xs,ys,rfl,q1,q2,qq⟩:=q1;cases r1 with
 |cons r1 rr =>
  cases rr with
  |cons r2 rr =>
   cases rr;cases r1;cases r2;obtain⟨us,v1,p1,_⟩:=q1.inv I1;obtain⟨vs,v2,p2,_⟩:=q2.inv I1
   have lt:∀ {c:Addr}{u:Array Value},aK7 T s1.heap c u->c<s1.heap.objs.size:=λ {c u} q=>by
    cases T with
    |true=>obtain⟨o,e,_⟩:=q;exact qk e
    |false=>obtain⟨o,e,_⟩:=q;exact qk e
   have D:=ax8 (lt p1) (lt p2)
   have fp:∀ c∈[s1.heap.objs.size+4,s1.heap.objs.size+2,s1.heap.objs.size+3,s1.heap.objs.size,s1.heap.objs.size+1],FpOk X pins H1 c:=λ c hc=>by
    have le:s1.heap.objs.size<=c:=by
     simp only[List.mem_cons,List.not_mem_nil,or_false] at hc
     rcases hc with rfl | rfl | rfl | rfl | rfl
     ·exact Nat.le_add_right _ _
     ·exact Nat.le_add_right _ _
     ·exact Nat.le_add_right _ _
     ·exact qi _
     ·exact Nat.le_add_right _ _
    exact I1.fpOk le (I1.hok.fresh le)
   cases T with
   |true=>exact z_3 p1 p2 λ h' z1 z2 z3 z4 z5 k=>fin {s1 with heap:=h'} H1 _ _ _ _ _ l r xs ys (I1.kept (t':=s1.toks) k) D ⟨z1,z2,⟨_,_,z3⟩,z4,z5⟩ fp q1 q2 qq
   |false=>exact call_zip_2 p1 p2 λ h' z1 z2 z3 z4 z5 _ k=>fin {s1 with heap:=h'} H1 _ _ _ _ _ l r xs ys (I1.kept (t':=s1.toks) k) D ⟨z1,z2,⟨_,_,z3⟩,z4,z5⟩ fp q1 q2 qq
end
theorem aj9 (xs ys:List D):(zpT xs ys).length=min xs.length ys.length:=by unfold zpT;rw[List.length_map,List.length_zip]
theorem ak0 {xs ys:List D}{i:Nat}{d e:D} (h1:xs[i]?=some d) (h2:ys[i]?=some e):(zpT xs ys)[i]?=some (.tup [d,e]):=by
 unfold zpT;have:=List.getElem?_zip_eq_some (l₁:=xs) (l₂:=ys) (z:=(d,e)) (i:=i);rw[List.getElem?_map,this.mpr ⟨h1,h2⟩];rfl
def Wz (K:Frag) (H0 H:Hp) (xs ys:List D) (i:Nat) (H':Hp) (vs:List V):Prop:=∃ H0',Step H0 H H0' H'/\Reps K H0' ((zpT xs ys).take i) vs
theorem ay7 {K:Frag}{T:Bool}{H0 H:Hp}{xs ys:List D}{us vs:List V}{l r:Addr} (sm:Same H0 H) (q1:SqB T K H l us) (q2:SqB T K H r vs) (r1:Reps K H0 xs us) (r2:Reps K H0 ys vs) (i:Nat) (H':Hp) (ws:List V) (hi:i<min xs.length ys.length) (hw:Wz K H0 H xs ys i H' ws) :
  (Itz T K l r).go i H'/\∀ x H'',(Itz T K l r).yld i H' x H''->Wz K H0 H xs ys (i+1) H'' (ws++[x]):=by
 obtain⟨H0',S,rp⟩:=hw;have g1:=q1.same S.s;have g2:=q2.same S.s;have n1:=r1.length;have n2:=r2.length;refine⟨⟨us,vs,g1,g2,by omega,by omega⟩,λ x H'' hh0_=>?_⟩
 obtain⟨v,w,p,e1,e2,ex,hp,eH⟩:=hh0_;subst ex eH;have S2:=Step.alloc (o:=.tup [v,w]) S.s' hp;have d1:xs[i]?=some xs[i]:=List.getElem?_eq_getElem (by omega)
 have d2:ys[i]?=some ys[i]:=List.getElem?_eq_getElem (by omega)
 obtain⟨v',e3,rv⟩:=r1.get d1;obtain⟨w',e4,rw'⟩:=r2.get d2;have e1:=e1 us g1;have e2:=e2 vs g2;rw[e3] at e1;cases e1;rw[e4] at e2;cases e2;refine⟨_,S.trans S2,?_⟩;rw[List.take_succ,ak0 d1 d2];refine (Reps.mono S2.s0 _ rp).app (Reps.one ?_);unfold Rep;exact⟨p,_,rfl,.inl (.inl a_2),Reps.cons (Rep.mono (S.s0.trans S2.s0) _ rv) (Reps.one (Rep.mono (S.s0.trans S2.s0) _ rw'))⟩
theorem O_5 {K:Frag}{T:Bool}{H0 H:Hp}{xs ys:List D}{us vs:List V}{l r:Addr} (q1:SqB T K H l us) (q2:SqB T K H r vs) (r1:Reps K H0 xs us) (r2:Reps K H0 ys vs) (H':Hp) (ws:List V) (hw:Wz K H0 H xs ys (min xs.length ys.length) H' ws):(Itz T K l r).stop (min xs.length ys.length) H':=by
 obtain⟨H0',S,_⟩:=hw;have n1:=r1.length;have n2:=r2.length;exact⟨us,vs,q1.same S.s,q2.same S.s,by omega⟩
section
variable {X:Cx}{a b:Expr}{F G:FE}{p p2 pos pos2:Pos}
theorem E_6 {K:Frag}{T:Bool}{c:FC}{H0 H:Hp}{ρ ρ1 ρ':En}{σ:L2.St}{xs ys:List D} (R:RS K c H0 H ρ σ) (h1:F ρ=some ((if T=true then .tup xs else .lst xs),ρ1)) (h2:G ρ1=some ((if T=true then .tup ys else .lst ys),ρ')) :
  tAa K (aC F (aC G aN)) σ H λ vs H1=>∃ l r us ws,vs=[.ref l,.ref r]/\SqB T K H1 l us/\SqB T K H1 r ws/\∃ Hd,Same H0 Hd/\RS K c Hd H1 ρ' σ/\Reps K Hd xs us/\Reps K Hd ys ws/\SqB T K Hd l us/\SqB T K Hd r ws:=by
 refine⟨c,H0,ρ,[if T=true then .tup xs else .lst xs,if T=true then .tup ys else .lst ys],ρ',R,by unfold aC;rw[h1];show bnd (bnd (G ρ1) _) _=_;rw[h2];rfl,λ vs H1 Hh s1 R1 r1=>?_⟩
 unfold Reps at r1;obtain⟨v,r,rfl,rv,r1⟩:=r1;obtain⟨u,rfl,ru⟩:=Reps.v1 r1;cases T with
 |true =>
  unfold Rep at rv ru;obtain⟨l,us,rfl,q1,t1⟩:=rv;obtain⟨m,ws,rfl,q2,t2⟩:=ru;exact⟨l,m,us,ws,rfl,Same.seqT R1.same q1,Same.seqT R1.same q2,H1,s1,R1,t1,t2,q1,q2⟩
 |false =>
  unfold Rep at rv ru;obtain⟨l,us,rfl,q1,t1⟩:=rv;obtain⟨m,ws,rfl,q2,t2⟩:=ru;exact⟨l,m,us,ws,rfl,Same.seq R1.same q1,Same.seq R1.same q2,H1,s1,R1,t1,t2,q1,q2⟩
theorem af4 (xs ys:List D):(zpT xs ys).take (min xs.length ys.length)=zpT xs ys:=List.take_of_length_le (by rw[aj9];exact qi _)
theorem Y_5 (hm:X.mg "list"=none) (hz:X.mg "zip"=none) (hc:X.calm=true) (ha:XE X a F) (hb:XE X b G) (hg:Gl X "list":=by rfl) (hgz:Gl X "zip":=by rfl) (hs:starEach [a,b] X.env=[(false,eval a X.env),(false,eval b X.env)]:=by rfl) (hs1:starEach [b] X.env=[(false,eval b X.env)]:=by rfl)
  (hs2:starEach [.Call (.Name "zip" p2) [a,b] [] pos2] X.env=[(false,eval (.Call (.Name "zip" p2) [a,b] [] pos2) X.env)]:=by rfl):XE X (.Call (.Name "list" p) [.Call (.Name "zip" p2) [a,b] [] pos2] [] pos) (e2 au4 F G):=by
 intro pins s σ H Q J ⟨c,H0,ρ,d,ρ',R,f,q⟩;obtain⟨x,ρ1,y,h1,h2,h3⟩:=n_0 f;unfold au4 at h3
 split at h3
 ·rename_i xs ys
  obtain⟨hl,rfl⟩:=ifs h3;refine wpAny_Call_Name_kw (l_0 J hg hm (u:=.type "list") PyProof.Rows.boot_list (PyProof.Rows.callWith_type1 ?_ hs2 rfl));rw[hs2];refine Calls.spliced_cons (I_7 false hgz hz J (xaC ha (xaC hb xaN hs1) (by rw[hs,hs1])) (E_6 R h1 h2) (λ s1 H1 z TI TO i1 i2 l r us ws I1 D tz fp q1 q2 qq=>Calls.spliced_nil ?_) hs hs1)
  obtain⟨Hd,sd,Rd',r1,r2,_,_⟩:=qq;refine ab9 hc (J_4 D) (n:=min xs.length ys.length) (W:=Wz X.K Hd H1 xs ys) (by omega) (ay7 Rd'.same q1 q2 r1 r2) (O_5 q1 q2 r1 r2) tz.1 I1 fp ⟨.none,false,tz,.inl rfl⟩ ⟨Hd,Step.refl Rd'.same,by rw[List.take_zero];exact Reps.nil_⟩ λ H' vs' pp hp hl' hw=>?_
  obtain⟨H0',S,rp⟩:=hw;rw[af4] at rp;have S2:=Step.alloc (o:=.lst vs') S.s' hp;refine q _ _ _ (sd.trans (S.trans S2).s0) (Rd'.after (S.trans S2)) ?_;unfold Rep;exact⟨pp,_,rfl,.inl (.inl a_2),Reps.mono S2.s0 _ rp⟩
 ·cases h3
theorem ak2 (hm:X.mg "tuple"=none) (hz:X.mg "zip"=none) (hc:X.calm=true) (ha:XE X a F) (hb:XE X b G) (hg:Gl X "tuple":=by rfl) (hgz:Gl X "zip":=by rfl) (hs:starEach [a,b] X.env=[(false,eval a X.env),(false,eval b X.env)]:=by rfl) (hs1:starEach [b] X.env=[(false,eval b X.env)]:=by rfl)
  (hs2:starEach [.Call (.Name "zip" p2) [a,b] [] pos2] X.env=[(false,eval (.Call (.Name "zip" p2) [a,b] [] pos2) X.env)]:=by rfl):XE X (.Call (.Name "tuple" p) [.Call (.Name "zip" p2) [a,b] [] pos2] [] pos) (e2 au3 F G):=by
 intro pins s σ H Q J ⟨c,H0,ρ,d,ρ',R,f,q⟩;obtain⟨x,ρ1,y,h1,h2,h3⟩:=n_0 f;unfold au3 at h3
 split at h3
 ·rename_i xs ys
  obtain⟨hl,rfl⟩:=ifs h3;refine wpAny_Call_Name_kw (l_0 J hg hm (u:=.type "tuple") PyProof.Rows.boot_tuple (PyProof.Rows.callWith_type1 ?_ hs2 rfl));rw[hs2];refine Calls.spliced_cons (I_7 true hgz hz J (xaC ha (xaC hb xaN hs1) (by rw[hs,hs1])) (E_6 R h1 h2) (λ s1 H1 z TI TO i1 i2 l r us ws I1 D tz fp q1 q2 qq=>Calls.spliced_nil ?_) hs hs1)
  obtain⟨Hd,sd,Rd',r1,r2,_,_⟩:=qq;refine O_8 hc (J_4 D) (n:=min xs.length ys.length) (W:=Wz X.K Hd H1 xs ys) (by omega) (ay7 Rd'.same q1 q2 r1 r2) (O_5 q1 q2 r1 r2) tz.1 I1 fp ⟨.none,false,tz,.inl rfl⟩ ⟨Hd,Step.refl Rd'.same,by rw[List.take_zero];exact Reps.nil_⟩ λ H' vs' pp hp hl' hw=>?_
  obtain⟨H0',S,rp⟩:=hw;rw[af4] at rp;have S2:=Step.alloc (o:=.tup vs') S.s' hp;refine q _ _ _ (sd.trans (S.trans S2).s0) (Rd'.after (S.trans S2)) ?_;unfold Rep;exact⟨pp,_,rfl,.inl (.inl a_2),Reps.mono S2.s0 _ rp⟩
 ·cases h3
end
end Fx
namespace L2
open PySem PySem.Spec PyProof.Rows
def aZ4 (K:Frag) (js:List Nat) (tt:TT) (te:TE) (σ:St) (Q:List V->Hp->Prop) (J:It) (H1:Hp):Prop :=
 ∃ W:Nat->Nat->List V->Hp->Prop,(∃ m,W 0 m [] H1)/\∀ i m ys H,W i m ys H ->
  (J.stop i H/\ys.length<=sizeLine/\Q ys H) \/
  (J.go i H/\ys.length<sizeLine/\∀ x H',J.yld i H x H'->∃ ta v1 v2,x=.ref ta/\SqT K H' ta [v1,v2]/\tt (some v1::some v2::frv σ js) H' λ b H2 =>
   if b=true then te (some v1::some v2::frv σ js) H2 λ v H3=>∃ m',m'<m/\W (i+1) m' (ys++[v]) H3 else ∃ m',m'<m/\W (i+1) m' ys H2)
section
variable {X:Cx}{scope:Scope}{s:Shared}{H:Hp}{C:Addr}{fp:List Addr}{pins:List (Addr×Obj)}{H':Hp}{s':Shared}
theorem y_6 {N N':List Str}{σ σ':St} (I:Inv (cxB X N scope s H C fp) pins σ H' s') (hl:σ'.length=N'.length) (h:∀ (i:Nat) (x:Str) (v:V),N'[i]?=some x->σ'[i]?=some (some v)->∃ j:Nat,N[j]?=some x/\σ[j]?=some (some v)):Inv (cxB X N' scope s H C fp) pins σ' H' s' :=
 let k:=I.ok
 ⟨⟨k.mod,k.kind,k.glob,k.blt,k.above,k.inj,k.has,k.cab,k.hd,k.frames,k.stk,k.exf,k.bs,k.bsz,k.noex,k.exfs,k.funs,k.frf⟩,I.os,I.bare,I.base,by
  obtain⟨m,hn,hv⟩:=I.loc;refine⟨m,hn,λ i x v e1 e2 e3=>?_⟩
  obtain⟨j,a1,a2⟩:=h i x v e1 e2;exact hv j x v a1 a2 e3,I.cell,I.free,I.freeC,I.pin,I.hok,hl⟩
theorem aq4 {x x2:Str}{frees:List Str}{τ:St} (I:Inv (cxB X (x::frees) scope s H C fp) pins (none::τ) H' s'):Inv (cxB X (x::x2::frees) scope s H C fp) pins (none::none::τ) H' s' :=
 y_6 I (by have:(none::τ).length=(x::frees).length:=I.len;simp at this;simp[this]) λ i y v e1 e2=>by
  match i,e1,e2 with
  |0,_,e2=>simp at e2
  |1,_,e2=>simp at e2
  |i+2,e1,e2=>exact⟨i+1,by simpa using e1,by simpa using e2⟩
theorem aq5 {x x2:Str}{frees:List Str}{τ:St} (I:Inv (cxB X (x::x2::frees) scope s H C fp) pins (none::none::τ) H' s'):Inv (cxB X (x::frees) scope s H C fp) pins (none::τ) H' s' :=
 y_6 I (by have:(none::none::τ).length=(x::x2::frees).length:=I.len;simp at this;simp[this]) λ i y v e1 e2=>by
  match i,e1,e2 with
  |0,_,e2=>simp at e2
  |i+1,e1,e2=>exact⟨i+2,by simpa using e1,by simpa using e2⟩
end
section
variable {X:Cx}{pins:List (Addr×Obj)}{σ:St}{H:Hp}{s:Shared}{x x2:Str}{scope sc:Scope}{frees:List Str}{js:List Nat}{elt iter:Expr}{ifs:List Expr}{px py pt pos:Pos}{kt:Nat}{tt:TT}{te:TE}{E:Value->Shared->Prop}
theorem ap8 {it:Addr}{fp:List Addr}{tn:Nat->Heap->Prop}{J:It}{Qe:List V->Hp->Prop}{RR:Value->Addr->Result->Shared->Prop} (I:Inv X pins σ H s) (hc:X.calm=true) (hsc:X.env.scope=sc) (B:ScB X.N sc scope x frees js) (own2:scope.names.lookup x2=some .local) (nd2:(x::x2::frees).Nodup)
  (T:Turn X.prog X.w X.K (.Tuple [.Name x px,.Name x2 py] kt pt) J fp it tn) (st:tn 0 s.heap) (f:∀ b∈fp,FpOk X pins H b) (hW:aZ4 X.K js tt te σ Qe J H)
  (ht:∀ s H C fp,PTs (cxB X (x::x2::frees) scope s H C fp) ifs tt) (he:∀ s H C fp,PE (cxB X (x::x2::frees) scope s H C fp) elt te)
  (hR:∀ (D C:Addr) (s':Shared) (H':Hp) (ys:List V) (its:List Value) (n:Nat),s.heap.objs.size<=D->s.heap.objs.size<=C->D≠C->Inv (cxB X (x::x2::frees) scope s H C fp) pins (none::none::frv σ js) H' s'->H' D=none ->
   Vals ys its->s'.heap.get? D=some (L_8 its n)->ys.length<=sizeLine->Qe ys H'->RR (.ref D) C (.ok .next) s') :
  wpAny (model X.prog X.w) X.A (newList []) (λ acc s3=>wpAny (model X.prog X.w) X.A (newFunctionEnv scope X.env.globals (z_2 X.env.cells scope.names []) [] X.env.qual none .none (some X.env)) (λ cenv s4 =>
   codeAny (model X.prog X.w) X.A (.compStart (.ListComp elt [⟨.Tuple [.Name x px,.Name x2 py] kt pt,iter,ifs,0⟩] scope pos) 0 (.ref it) acc {cenv with scope:=relabel scope X.env}) (RR acc cenv.locals) s4) E s3) E s:=by
 refine T_3 (N':=x::x2::frees) (tg:=be2 X.K 2 (aq9 (U_1 0) (aq9 (U_1 1) be3))) I hc hsc B T st f aq4 (λ C=>ah1 hc (t_9 (u_0 (i:=0) nd2 rfl (.inl (lookup_relabel_local B.own)) (.inr (lookup_relabel_local B.own))) (t_9 (u_0 (i:=1) nd2 rfl (.inl (lookup_relabel_local own2)) (.inr (lookup_relabel_local own2))) Q_9)) rfl rfl) ?_ ht he hR
 obtain⟨W,w0,turn⟩:=hW;refine⟨W,w0,λ i m ys H w=>?_⟩
 rcases turn i m ys H w with h | ⟨go,lz,step⟩
 ·exact .inl h
 ·refine .inr ⟨go,lz,λ y H' yl=>?_⟩
  obtain⟨ta,v1,v2,ey,sq,stp⟩:=step y H' yl
  exact⟨ta,[v1,v2],ey,sq,rfl,v1,[v2],rfl,v2,[],rfl,rfl,⟨rfl,λ j v e=>by
   match j,e with
   |0,e=>simp at e
   |1,e=>simp at e
   |j+2,e=>simpa using e⟩,stp⟩
def bi8 (K:Frag) (wi:TI) (js:List Nat) (tt:TT) (te:TE):TE:=λ σ H Q=>wi σ H (aZ4 K js tt te σ λ ys H'=>∀ D,H' D=none->Q (.ref D) (upd H' D (.lst ys)))
theorem aD3 {wi:TI} (hc:X.calm=true) (hsc:X.env.scope=sc) (B:ScB X.N sc scope x frees js) (own2:scope.names.lookup x2=some .local) (nd2:(x::x2::frees).Nodup) (hi:PI X (.Tuple [.Name x px,.Name x2 py] kt pt) iter wi) (ht:∀ s H C fp,PTs (cxB X (x::x2::frees) scope s H C fp) ifs tt) (he:∀ s H C fp,PE (cxB X (x::x2::frees) scope s H C fp) elt te)
  (hs:∀ v,foldedSetIterable iter X.env v=pure v:=by intro _;rfl):PE X (.ListComp elt [⟨.Tuple [.Name x px,.Name x2 py] kt pt,iter,ifs,0⟩] scope pos) (bi8 X.K wi js tt te):=by
 intro pins s σ H Q I h;rw[eval_ListComp];refine wpAny_comprehension_free (use:=none) rfl hs (m_3 (y_1 I hsc B)) B.kind B.locs (thn (hi pins s σ H _ I h) λ v s1 h1=>thn h1 λ itv s2 h2=>?_)
 obtain⟨it,fp,tn,J,H2,e,I2,T,st2,f2,hW⟩:=h2;subst e;refine ap8 (RR:=λ acc C=>compPost (model X.prog X.w) X.A X.xe none (EP X pins σ Q) acc C) I2 hc hsc B own2 nd2 T st2 f2 hW ht he ?_
 intro D C s' H' ys its n hD hC hDC J' nD rv gD hz q;obtain⟨m,hn,_⟩:=J'.loc;refine⟨m,hn,λ h' hs'=>?_⟩
 have A1:=u_9 I2 f2 hD (aq5 J') nD rv gD hz;have nC:(upd H' D (.lst ys)) C=none:=by rw[a_3 (Ne.symm hDC)];exact J'.free
 exact⟨.ref D,_,aq1 I2 A1 hC nC hs',rfl,q D nD⟩
end
end L2
namespace Fx
open PySem PySem.Spec PyProof.Rows L2
theorem RS.block2 {K:Frag}{c:FC}{H0 H:Hp}{ρ:En}{σ:L2.St}{js:List Nat}{fr:En}{d e:D}{x y:V} (R:RS K c H0 H ρ σ) (hf:A_8 ρ js=some fr) (rx:Rep K H0 d x) (ry:Rep K H0 e y):RS K ⟨H0,H,[]⟩ H0 H (.im d::.im e::fr) (some x::some y::frv σ js):=by
 have B:=R.block hf ry
 have noO:∀ (i:Nat) (b:Bool) (o:MO),(Sl.im e::fr)[i]?≠some (.ow b o):=λ i b o z=>by
  obtain⟨a,_,y1,z1,w1⟩:=B.ow i b o z;cases b with
  |true=>exact absurd z1 (by simp)
  |false =>
   have z2:H a=none:=z1;obtain⟨u,hu⟩:=w1.some;rw[z2] at hu;cases hu
 refine⟨B.same,B.init,B.fresh,B.keep,B.apt,by have:=B.len;simp at this;simp[this],λ i d' q=>?_,λ i b o q=>?_,λ i j b b' o o' a q=>?_⟩
 ·match i,q with
  |0,q=>cases q;exact⟨x,rfl,rx⟩
  |i+1,q=>exact B.im i d' (by simpa using q)
 ·match i,q with
  |0,q=>cases q
  |i+1,q=>exact absurd (by simpa using q) (noO i b o)
 ·match i,q with
  |0,q=>cases q
  |i+1,q=>exact absurd (by simpa using q) (noO i b o)
theorem al1 {d:D}{q:D×D} (h:two d=some q):d=.tup [q.1,q.2]:=by
 unfold two at h
 split at h
 ·cases h;rfl
 ·cases h
theorem ap9 {K:Frag}{c:FC}{H1 Hh:Hp}{ρ:En}{σ:L2.St}{js:List Nat}{fr:En}{T:FT}{F:FE}{xs out:List D}{J:It}{Qf:List V->Hp->Prop} (R:RS K c H1 Hh ρ σ) (hf:A_8 ρ js=some fr) (hc:af2 T F fr xs=some out) (hz:xs.length<=sizeLine) (hy:n_2 K J H1 xs)
  (q:∀ ys H0 H,Same H1 H0->RS K c H0 H ρ σ->Reps K H0 out ys->Qf ys H):aZ4 K js (tTt K T) (tE K F) σ Qf J Hh:=by
 refine⟨λ i m ys H=>m=xs.length-i/\i<=xs.length/\∃ H0,Same H1 H0/\RS K c H0 H ρ σ/\∃ pre rest,Reps K H0 pre ys/\pre.length<=i/\af2 T F fr (xs.drop i)=some rest/\pre++rest=out,⟨xs.length,by simp,Nat.zero_le _,H1,Same.refl _,R,[],out,Reps.nil_,Nat.zero_le _,by simpa using hc,rfl⟩,?_⟩
 rintro i m ys H ⟨rfl,hi,H0,s0,R0,pre,rest,rp,lp,hg,e⟩;obtain⟨y1,y2⟩:=hy H0 H i s0 R0.same
 by_cases hlt:i<xs.length
 ·have hd:xs[i]?=some xs[i]:=by simp[hlt]
  obtain⟨go,yl⟩:=y1 _ hd;refine .inr ⟨go,by rw[<- rp.length];omega,λ x H' hx=>?_⟩
  obtain⟨rfl,rx⟩:=yl x H' hx;rw[p_7 hd,W_7] at hg;obtain⟨⟨d1,d2⟩,g0,hg⟩:=a_0 hg;rw[al1 g0] at rx;unfold Rep at rx;obtain⟨ta,ws,rfl,sq,rr⟩:=rx;unfold Reps at rr;obtain⟨v1,w1,rfl,q1,rr⟩:=rr;unfold Reps at rr;obtain⟨v2,w2,rfl,q2,rr⟩:=rr;unfold Reps at rr;subst rr;refine⟨ta,v1,v2,rfl,Same.seqT R0.same sq,?_⟩;obtain⟨⟨b,ρb⟩,g1,hg⟩:=a_0 hg;dsimp only at hg;refine⟨⟨H0,H',[]⟩,H0,_,b,ρb,R0.block2 hf q1 q2,g1,λ H2 Hh2 s2 R2=>?_⟩
  cases b with
  |false =>
   rw[if_neg Bool.false_ne_true] at hg ⊢;have S:=R2.step;exact⟨xs.length-(i+1),by omega,rfl,hlt,H2,s0.trans S.s0,R0.after S,pre,rest,Reps.mono S.s0 _ rp,by omega,hg,e⟩
  |true =>
   rw[if_pos rfl] at hg ⊢;obtain⟨⟨z,ρz⟩,g2,hg⟩:=a_0 hg;obtain⟨t,g3,hg⟩:=a_0 hg;dsimp only at hg;have hg':some (z::t)=some rest:=hg;cases hg';refine⟨⟨H0,H',[]⟩,H2,ρb,z,ρz,R2,g2,λ v H3 Hh3 s3 R3 r3=>?_⟩
   have S:=R3.step;refine⟨xs.length-(i+1),by omega,rfl,hlt,H3,s0.trans S.s0,R0.after S,pre++[z],t,(Reps.mono S.s0 _ rp).app (Reps.one r3),?_,g3,?_⟩
   ·rw[List.length_append,List.length_singleton];omega
   ·rw[List.append_assoc];exact e
 ·have hn:xs.drop i=[]:=List.drop_eq_nil_of_le (by omega)
  rw[hn,af1] at hg;cases hg;rw[List.append_nil] at e;subst e;exact .inl ⟨y2 (by omega),by rw[<- rp.length];omega,q ys H0 H s0 R0 rp⟩
structure ScB2 (N:List Str) (sc scope:Scope) (x x2:Str) (frees:List Str) (js:List Nat):Prop where
 B:ScB N sc scope x frees js
 own2:scope.names.lookup x2=some .local
 nd2:(x::x2::frees).Nodup
section
variable {X:Cx}{x x2:Str}{scope sc:Scope}{frees:List Str}{js:List Nat}{elt iter:Expr}{ifs:List Expr}{px py pt pos:Pos}{kt:Nat}{I F:FE}{T:FT}
theorem aZ9 (hc:X.calm=true) (hsc:X.env.scope=sc) (B:ScB2 X.N sc scope x x2 frees js) (hi:XE X iter I) (ht:∀ s H C fp,XTs (cxB X (x::x2::frees) scope s H C fp) ifs T) (he:∀ s H C fp,XE (cxB X (x::x2::frees) scope s H C fp) elt F)
  (hs:∀ v,foldedSetIterable iter X.env v=pure v:=by intro _;rfl):XE X (.ListComp elt [⟨.Tuple [.Name x px,.Name x2 py] kt pt,iter,ifs,0⟩] scope pos) (aN4 js I T F) :=
 PE.wk (aD3 (tt:=tTt X.K T) (te:=tE X.K F) hc hsc B.B B.own2 B.nd2 (aa8 hi) ht he hs) λ σ H Q hh0_=>by
  obtain⟨c,H0,ρ,d,ρ',R,f,q⟩:=hh0_;unfold aN4 at f;obtain⟨⟨z,ρ1⟩,h1,f⟩:=a_0 f;obtain⟨xs,h2,f⟩:=a_0 f;obtain⟨fr,h3,f⟩:=a_0 f;obtain⟨ys,h4,f⟩:=a_0 f;obtain⟨hz,f⟩:=Fx.ifs f;cases f;refine f_8 R h1 h2 λ J H1 Hh s1 R1 hy=>?_
  refine ap9 R1 h3 h4 hz hy λ vs H2 Hh2 s2 R2 r2=>λ p hp=>?_
  have S:=Step.alloc (o:=.lst vs) R2.same hp;refine q _ _ _ (s1.trans (s2.trans S.s0)) (R2.after S) ?_;unfold Rep;exact⟨p,vs,rfl,.inl (.inl a_2),Reps.mono S.s0 _ r2⟩
end
inductive KEnt (w:World) (K:Frag):List DictEntry->List (Str×D)->Prop
 |nil:KEnt w K [] []
 |cons {k:Str}{d:D}{t:Tok}{v:Value}{es:List DictEntry}{kds:List (Str×D)}:KV1 K d v->KEnt w K es kds->KEnt w K (⟨hashStr w k,.str k t,v⟩::es) ((k,d)::kds)
def aO6 (w:World) (K:Frag) (a:Addr) (kds:List (Str×D)):Prop:=∃ es n,K.lookup a=some {cls:=.type "dict",data:=.dict es n} ∧ (a==sysModules)=false ∧ KEnt w K es.toList kds ∧ (kds.map (·.1)).Nodup
theorem KEnt.all {w:World}{K:Frag}:∀ {es:List DictEntry}{kds:List (Str×D)},KEnt w K es kds->∃ vs:List (Key×Value),vs.map (·.1)=kds.map (λ q=>Sum.inr q.1) /\
  (∀ (P:Program),PySem.Pairs (c_1 P w) es vs)/\(∀ (P:Program),∀ e∈es,∃ k,(c_1 P w).is k e.key=true/\e.hash=(c_1 P w).hash k) /\
  ∀ k d,n_9 k kds=some d->∃ u,valueAt vs (.inr k)=some u/\KV1 K d u
 |_,_,.nil=>⟨[],rfl,λ _=>.nil,λ _ e h=>(by cases h),λ k d h=>(by cases h)⟩
 |_,_,.cons (k:=k) (d:=d) (t:=t) (v:=v) (es:=es) (kds:=kds) h r=>by
  obtain⟨vs,e1,e2,e3,e4⟩:=r.all;refine⟨(.inr k,v)::vs,by rw[List.map_cons,List.map_cons,e1],λ P=>.cons (k_2 P w k t) rfl (e2 P),λ P e he=>?_,λ k' d' hk=>?_⟩
  ·rcases qr he with rfl | he
   ·exact⟨.inr k,k_2 P w k t,rfl⟩
   ·exact e3 P e he
  ·unfold n_9 at hk
   unfold valueAt;rw[List.find?_cons]
   by_cases z:k=k'
   ·subst z
    rw[if_pos rfl] at hk;cases hk;exact⟨v,by simp,h⟩
   ·rw[if_neg z] at hk
    obtain⟨u,e5,e6⟩:=e4 k' d' hk;refine⟨u,?_,e6⟩;rw[decide_eq_false (λ y=>z (Sum.inr.inj y))]
    exact e5
section
variable {X:Cx}{pos:Pos}{e k:Expr}{F G:FE}{A:FA}
theorem xkd {x:Str}{kds:List (Str×D)}{p:Pos} (h:∃ a,X.mg x=some (.ref a) ∧ aO6 X.w X.K a kds) (hk:XE X k G) (hg:Gl X x:=by rfl) (hd:(x==("__debug__":Str))=false:=by decide) (hs:aO5 k:=by exact λ _ _=>rfl) :
  XE X (.Subscript (.Name x p) k pos) (e1 (dKx kds) G):=by
 obtain⟨a,hm,es,n,hl,lo,ke,nd⟩:=h;obtain⟨vs,e1',e2',e3',e4'⟩:=ke.all;intro pins s σ H Q I ⟨c,H0,ρ,d,ρ',R,f,q⟩;unfold e1 at f;obtain⟨⟨y,ρ1⟩,h1,f⟩:=a_0 f;obtain⟨d',h2,f⟩:=a_0 f;have f':some (d',ρ1)=some (d,ρ'):=f;cases f';refine P_3 PySem.F.slot_dict_getitem.lookup hs (h_4 I hg hm (thn (hk pins s σ H (λ v Hh=>∃ H1,Same H0 H1/\RS X.K c H1 Hh ρ' σ/\Rep X.K H1 y v) I ⟨c,H0,ρ,y,_,R,h1,λ v H1 Hh s1 R1 r1=>⟨H1,s1,R1,r1⟩⟩) λ iv s2 hh0_=>?_) hd)
 obtain⟨v,Hh,I2,rv,H1,s1,R1,r1⟩:=hh0_;cases y with
 |str kk =>
  unfold Rep at r1;subst r1;obtain⟨u,e5,w,rw,rp⟩:=e4' kk d h2
  have dd:s2.heap.DictOf (c_1 X.prog X.w) a vs:=⟨_,es,n,I2.kIn a _ hl,⟨rfl,rfl,rfl⟩,rfl,λ e he=>e3' X.prog e (by simpa using he),e2' X.prog,by
   rw[e1'];exact List.pairwise_map.mpr ((List.pairwise_map.mp nd).imp λ hab z=>hab (Sum.inr.inj z))⟩
  exact⟨dd.typeIs,wpAny_getItem_of (M_0 (k:=.inr kk) rv) dd.mapOf e5 ⟨w,Hh,I2.tok _,rw,q w H1 Hh s1 R1 (rp H1)⟩⟩
 |_=>cases h2
end
theorem U_0 {k:Str}:∀ {kds:List (Str×D)},(n_9 k kds).isSome=true↔k∈kds.map (·.1)
 |[]=>by simp[n_9]
 |q::r=>by
  unfold n_9
  by_cases h:q.1=k
  ·simp[h]
  ·rw[if_neg h,U_0,List.map_cons,List.mem_cons]
   exact⟨.inr,λ z=>z.resolve_left (λ y=>h y.symm)⟩
theorem K_5 {k:Str}{vs:List (Key×Value)}:(valueAt vs (.inr k)).isSome=true↔(Sum.inr k:Key)∈vs.map (·.1):=by
 unfold valueAt;rw[Option.isSome_map,List.find?_isSome];constructor
 ·rintro ⟨x,hx,e⟩
  exact List.mem_map.mpr ⟨x,hx,by simpa using e⟩
 ·intro h
  obtain⟨x,hx,e⟩:=List.mem_map.mp h;exact⟨x,hx,by simpa using e⟩
section
variable {X:Cx}{pos:Pos}{e k:Expr}{F G:FE}{A:FA}
theorem ao0 {x:Str}{kds:List (Str×D)}{p:Pos} (h:∃ a,X.mg x=some (.ref a) ∧ aO6 X.w X.K a kds) (hk:XE X k G) (hg:Gl X x) (hd:(x==("__debug__":Str))=false):PC X .NotIn k (.Name x p) (tE X.K (e1 (au6 kds) G)):=by
 obtain⟨a,hx,es,n,hl,lo,ke,nd⟩:=h;obtain⟨vs,e1',e2',e3',e4'⟩:=ke.all;intro pins s σ H Q I ⟨c,H0,ρ,d,ρ',R,f,q⟩;unfold e1 at f;obtain⟨⟨y,ρ1⟩,h1,f⟩:=a_0 f;obtain⟨d',h2,f⟩:=a_0 f;have f':some (d',ρ1)=some (d,ρ'):=f;cases f';refine thn (hk pins s σ H (λ v Hh=>∃ H1,Same H0 H1/\RS X.K c H1 Hh ρ' σ/\Rep X.K H1 y v) I ⟨c,H0,ρ,y,_,R,h1,λ v H1 Hh s1 R1 r1=>⟨H1,s1,R1,r1⟩⟩) λ iv s2 hh0_=>?_
 obtain⟨v,Hh,I2,rv,H1,s1,R1,r1⟩:=hh0_;refine h_4 I2 hg hx ?_ hd;cases y with
 |str kk =>
  unfold Rep at r1;subst r1
  have dd:s2.heap.DictOf (c_1 X.prog X.w) a vs:=⟨_,es,n,I2.kIn a _ hl,⟨rfl,rfl,rfl⟩,rfl,λ e he=>e3' X.prog e (by simpa using he),e2' X.prog,by
   rw[e1'];exact List.pairwise_map.mpr ((List.pairwise_map.mp nd).imp λ hab z=>hab (Sum.inr.inj z))⟩
  have same:(valueAt vs (.inr kk)).isSome=(n_9 kk kds).isSome:=by
   rw[Bool.eq_iff_iff,K_5,U_0,e1'];constructor
   ·intro z
    obtain⟨q,hq,e⟩:=List.mem_map.mp z;exact List.mem_map.mpr ⟨q,hq,Sum.inr.inj e⟩
   ·intro z
    obtain⟨q,hq,e⟩:=List.mem_map.mp z;exact List.mem_map.mpr ⟨q,hq,by rw[e]⟩
  cases h2;refine wpAny_notIn_of (M_0 (k:=.inr kk) rv) lo dd.mapOf ?_;rw[same];exact⟨.bl _,Hh,I2.tok _,rfl,q _ H1 Hh s1 R1 (by unfold Rep;rfl)⟩
 |_=>cases h2
theorem ay2 {x:Str}{kds:List (Str×D)}{p:Pos} (h:∃ a,X.mg x=some (.ref a) ∧ aO6 X.w X.K a kds) (hk:XE X k G) (hg:Gl X x:=by rfl) (hd:(x==("__debug__":Str))=false:=by decide) (hm:behindInMarks .NotIn (.Name x p)=false:=by first | exact S_2 _ | with_unfolding_all rfl) :
  XT X (.Compare k [.NotIn] [.Name x p] pos) (Fx.tB (e1 (au6 kds) G)):=PT.wk (aC7 (ao0 h hk hg hd) hm) λ σ H Q h=>al5 (λ Q h=>h) h
theorem H_8 {kvs:List (Key×V)}{vs:List (Key×Value)} (h:KV kvs vs):Vals (kvs.map (·.2)) (vs.map (·.2)):=by
 induction h with
 |nil=>exact .nil
 |cons r _ ih=>exact .cons r.2 ih
theorem Y_8 {vs:List (Key×Value)}{acc:Array Value} (h:ItemsOf (λ i v=>∃ k,vs[i]?=some (k,v)) acc vs.length):acc=(vs.map (·.2)).toArray:=by
 refine Array.ext (by rw[h.1];simp) λ i h1 h2=>?_
 obtain⟨k,e⟩:=h.2 i acc[i] (Array.getElem?_eq_getElem h1);have:=(List.getElem?_eq_some_iff.mp e).2;simp[this]
theorem an5 {o:Expr}{to:TE}{p ap cp:Pos} (hc:X.calm=true) (hm:X.mg "list"=none) (ho:PE X o to) (hg:Gl X "list") (hbase:attributeBase o "values" X.env (eval o X.env)=eval o X.env) (hline:(ap.endLine==cp.line)=true)
  (hs:starEach [.Call (.Attribute o "values" ap) [] [] cp] X.env=[(false,eval (.Call (.Attribute o "values" ap) [] [] cp) X.env)]) :
  PE X (.Call (.Name "list" p) [.Call (.Attribute o "values" ap) [] [] cp] [] pos) (λ σ H Q=>to σ H λ x H1=>∃ a kvs,x=.ref a ∧ H1 a=some (.dK kvs) ∧ ∀ l,H1 l=none → Q (.ref l) (upd H1 l (.lst (kvs.map (·.2))))):=by
 intro pins s σ H Q I h;refine wpAny_Call_Name_kw (l_0 I hg hm (u:=.type "list") PyProof.Rows.boot_list (PyProof.Rows.callWith_type1 ?_ hs rfl));rw[hs];refine Calls.spliced_cons (wpAny_Call_method0_late hbase hline (thn (ho pins s σ H _ I h) λ v s1 hh0_=>?_))
 obtain⟨x,H1,I1,r1,a,kvs,ex,ea,q⟩:=hh0_;subst ex;cases r1;obtain⟨z,hd,vs,rel,dd⟩:=aI8 I1.hok ea;have ty:s1.TypeIs (.ref a) "dict":=dd.typeIs;obtain⟨ob,es,ep,ho',hex,hdt,hks,hpr,hnd⟩:=dd;refine⟨"dict","dict.values",PySem.F.plainAttrs_dict,PySem.F.slot_dict_values,PySem.F.type_dict_values,ty,λ b q=>by cases q;exact⟨ob,ho',hex.2.1⟩,Calls.callWith_builtin rfl (PySem.evalArgs_none ?_)⟩
 refine call_meetsIn PySem.F.slot_dict_values ty PySem.F.entry_dict_values (PySem.F.args_dict_values_1 _) (meets_dict_values (c_1 X.prog X.w) a hd) ⟨⟨vs,ob,es,ep,ho',hex,hdt,hks,hpr,hnd⟩,Calls.spliced_nil ?_⟩;have I2:Inv X pins σ H1 {s1 with heap:=s1.heap.push {cls:=.type "dict_values",data:=.fields #[.ref a]}}:=I1.kept (t':=s1.toks) λ b o e=>qd _ e
 have len:vs.length=kvs.length:=by have:=(H_8 rel).length;simpa using this.symm
 refine PySem.W.kdl_call (PySem.W.kdl_values (prog:=X.prog) (w:=X.w) (knd:=c_1 X.prog X.w) (r:=s1.heap.objs.size) (d:=a) (kvs:=vs) (ep:=ep)) (I.ok.hd hc) ⟨⟨_,qj _ rfl,rfl,rfl⟩,ob,es,qd _ ho',hex,hdt,hks,hpr,hnd⟩ (by rw[len];exact z) λ h' tk acc c k new it=>?_
 rw[Y_8 it] at new;refine⟨.ref _,_,I2.laid (t':=tk) (o:=.lst (kvs.map (·.2))) k (qi _) ⟨by rw[List.length_map];exact z,vs.map (·.2),c,H_8 rel,new⟩,rfl,q _ (I2.hok.fresh (qi _))⟩
theorem af8 (i:Nat) {x:Str}{p1 p ap cp:Pos} (hc:X.calm=true) (hm:X.mg "list"=none) (hN:X.N[i]?=some x:=by rfl) (hv:Vis X.env.scope x:=by first | exact Or.inl rfl | exact Or.inr (Or.inl rfl) | exact Or.inr (Or.inr rfl)) (hd:(x==("__debug__":Str))=false:=by decide)
  (hcd:(x==("__classdict__":Str))=false:=by decide) (hg:Gl X "list":=by rfl) (hbase:attributeBase (.Name x p1) "values" X.env (eval (.Name x p1) X.env)=eval (.Name x p1) X.env:=by rfl) (hline:(ap.endLine==cp.line)=true:=by rfl)
  (hs:starEach [.Call (.Attribute (.Name x p1) "values" ap) [] [] cp] X.env=[(false,eval (.Call (.Attribute (.Name x p1) "values" ap) [] [] cp) X.env)]:=by rfl) :
  XO' X (.Call (.Name "list" p) [.Call (.Attribute (.Name x p1) "values" ap) [] [] cp] [] pos) (L_4 i) :=
 PE.wk (an5 hc hm (j_9 hN hv hd hcd) hg hbase hline hs) λ σ H Q hh0_=>by
  obtain⟨c,H0,ρ,ds,ρ',R,f,q⟩:=hh0_;unfold L_4 G_9 at f;obtain⟨⟨b,kds⟩,h1,f⟩:=a_0 f;obtain⟨hl,f'⟩:=ifs f;cases f';obtain⟨a,e1,_,_,ks,vs,e4,ek,t⟩:=R.ow i b _ (G_5 h1);refine⟨_,e1,a,_,rfl,e4,λ l hl'=>?_⟩
  have len:=t.length;have lk:ks.length=vs.length:=by rw[ek,List.length_map,<- len,List.length_map]
  have e5:((ks.map (Sum.inr:Str->Key)).zip vs).map (·.2)=vs:=List.map_snd_zip (by rw[List.length_map];omega)
  rw[e5];exact q l vs H0 H (Same.refl _) R hl' t
end
theorem vals_ints:∀ {us:List Value}{ns:List Int},IntsAre us ns->Vals (ns.map V.int) us
 |_,_,.nil=>.nil
 |_,_,.cons n t h=>.cons ⟨t,rfl⟩ (vals_ints h)
section
variable {X:Cx}{pos:Pos}{e:Expr}{F:FE}{A:FA}{T:FT}
theorem av7 {m:MO}{d:D} (h:asL m=some d):∃ ds,m=.lst ds/\d=.lst ds:=by
 cases m with
 |lst ds=>cases h;exact⟨ds,rfl,rfl⟩
 |dic kds=>cases h
theorem xNL {k:Nat}{x:Str}{g:List D → Option MO}{p:Pos}{es:List Expr} (N:DefN X.prog X.w X.K X.mg X.base k x g) (hr:Room k X.A) (ha:XA X (e::es) A) (hg:Gl X x:=by rfl) (hdb:(x==("__debug__":Str))=false:=by decide)
  (he:starEach (e::es) X.env=(false,eval e X.env)::starEach es X.env:=by rfl) (hpl:(backTo pos (starEach es X.env)).any (·.1)=false:=by rfl):XE X (.Call (.Name x p) (e::es) [] pos) (eNL g A):=by
 obtain⟨f,fd,ps,Fn,hb,hk,hm⟩:=N.ex;refine PE.wk (R_2 Fn hr hg hm hk hb .nil ao2 ha hdb he hpl) λ σ H Q hh0_=>?_
 obtain⟨c,H0,ρ,d,ρ',R,z,q⟩:=hh0_;unfold eNL aN3 at z;obtain⟨⟨ds,ρ1⟩,h1,z⟩:=a_0 z;unfold aN2 at z;obtain⟨m,h2,z⟩:=a_0 z;unfold mkP at z;obtain⟨d1,h3,z⟩:=a_0 z;have z':some (d1,ρ1)=some (d,ρ'):=z;cases z';obtain⟨es,rfl,rfl⟩:=av7 h3;refine⟨c,H0,ρ,ds,_,R,h1,λ vs H1 Hh s1 R1 r1=>⟨H1,ds,_,R1.same,by rw[List.append_nil];exact r1,h2,λ a Hi' H' nw=>?_⟩⟩
 obtain⟨s0,s',s,fr,a0,aH,ws,ea,r⟩:=nw;have m0:Same Hi' (upd Hi' a (.lst ws)):=λ b u q=>by rw[a_3 (a_5 q a0)];exact q
 refine q _ (upd Hi' a (.lst ws)) H' (s1.trans (s0.trans m0)) (R1.after ⟨s0.trans m0,s,λ b u q=>?_,λ b u q=>?_⟩) ?_
 ·by_cases h:b=a
  ·subst h;rw[a_2] at q;cases q;exact ea
  ·rw[a_3 h] at q;exact s' b u q
 ·by_cases h:b=a
  ·subst h;exact .inr aH
  ·rw[a_3 h] at q;exact fr b u q
 ·unfold Rep
  exact⟨a,ws,rfl,.inl (.inl a_2),Reps.mono m0 _ r⟩
end
section
variable {X:Cx}
theorem au2 {K:Frag}{H0 H:Hp}{ks:List Str}{ds:List D}{a:Addr}{o:Obj}{vs:List V}{k:Str} (s:Same H0 H) (ea:H0 a=some (.frz o (.dK ((ks.map Sum.inr).zip vs)))) (t:Reps K H0 ds vs) (l:ks.length=ds.length) :
  ∃ u,DGet H a (.str k) u/\(n_9 k (ks.zip ds)=none->u=none)/\∀ d,n_9 k (ks.zip ds)=some d->∃ v,u=some v/\Rep K H0 d v:=by
 have f1:(ks.zip ds).map (·.1)=ks:=List.map_fst_zip (by omega)
 have f2:(ks.zip ds).map (·.2)=ds:=List.map_snd_zip (by omega)
 have ln:=t.length;refine⟨w_3 (l_7 ks vs) (.inr k),.inl ⟨_,.inr k,.inr ⟨o,s _ _ ea⟩,rfl,rfl⟩,λ h=>?_,λ d h=>?_⟩
 ·have:=F_0 (vs:=vs) (by rw[List.length_zip];omega) h
  rw[f1] at this;exact this
 ·obtain⟨v,w1,w2⟩:=E_9 (by rw[f2];exact t) h
  rw[f1] at w1;exact⟨v,w1,w2⟩
theorem strX_inv {d:D}{k:Str} (h:ba8 d=some k):d=.str k:=by
 cases d with
 |str z=>cases h;rfl
 |_=>cases h
theorem aE3 (hu:X.A.units+1<cLine):OpR X (compareOp .In) (λ y x H Q=>∃ a o,x=.ref a/\DGet H a y o/\Q (.bl o.isSome) H):=by
 intro pins s σ H x y v u Q I rx ry h;obtain⟨a,o,rfl,g,q⟩:=h;cases ry;exact bn2 hu I g rx λ s' I'=>⟨.bl o.isSome,H,I',rfl,q⟩
theorem aJ0 {K:Frag}{H0 H:Hp}{ks:List Str}{ds:List D}{vx vy:V}{k:Str} (s:Same H0 H) (r1:Rep K H0 (.str k) vx) (r2:Rep K H0 (.dct ks ds) vy):∃ a o,vy=.ref a/\DGet H a vx o/\o.isSome=(n_9 k (ks.zip ds)).isSome:=by
 unfold Rep at r1 r2;subst r1;obtain⟨a,ob,vs,rfl,ea,t,l⟩:=r2;obtain⟨u,dg,hn,hs⟩:=au2 (k:=k) s ea t l;refine⟨a,u,rfl,dg,?_⟩;cases z:n_9 k (ks.zip ds) with
 |none=>rw[hn z];rfl
 |some d=>obtain⟨v,e,_⟩:=hs d z;rw[e];rfl
theorem bg5 (hu:X.A.units+1<cLine):h_7 X .In aO2:=⟨_,aE3 hu,λ c H0 H ρ σ x y d vx vy Q R r1 r2 e q=>by
 unfold aO2 at e;obtain⟨⟨ks,ds⟩,g1,e⟩:=a_0 e;obtain⟨k,g2,e⟩:=a_0 e;cases dctX_inv g1;cases strX_inv g2;cases e;obtain⟨a,o,rfl,dg,z⟩:=aJ0 R.same r1 r2;exact⟨a,o,rfl,dg,by rw[z];exact q _ H0 H (Same.refl _) R (by unfold Rep;rfl)⟩⟩
end
structure YE (X:Cx) (e:Expr) (F:FE):Prop where
 go:XE X e F
structure YA (X:Cx) (es:List Expr) (F:FA):Prop where
 go:XA X es F
structure YS (X:Cx) (st:Stmt) (F:FS):Prop where
 go:XS X st F
structure YSs (X:Cx) (st:List Stmt) (F:FS):Prop where
 go:XSs X st F
section
variable {X:Cx}{pos:Pos}{a e:Expr}{F:FE}{A:FA}
theorem ay3 (ha:XE X a F):XE X (.UnaryOp .Not a pos) (ad8 F):=λ pins s σ H Q I hh0_=>by
 obtain⟨c,H0,ρ,d,ρ',R,f,q⟩:=hh0_;unfold ad8 aj2 at f;obtain⟨⟨z,ρ1⟩,h1,f⟩:=a_0 f;unfold aj1 at f;obtain⟨k,h2,f⟩:=a_0 f;cases f;refine UnaryOp_ (thn (ha pins s σ H (λ v Hh=>∃ H1,Same H0 H1/\RS X.K c H1 Hh ρ1 σ/\Rep X.K H1 z v) I ⟨c,H0,ρ,z,_,R,h1,λ v H1 Hh s1 R1 r1=>⟨H1,s1,R1,r1⟩⟩) λ v s1 ⟨x,Hh,I1,rx,H1,sm,R1,r1⟩=>not_of ?_)
 exact wpAny_mono (ag2 pins s1 σ Hh x v (λ b H'=>b=k/\H'=Hh) I1 rx ⟨k,ag3 R1.same r1 h2,rfl,rfl⟩) (λ b s2 hh0_=>by obtain⟨H',I2,eb,eH⟩:=hh0_;subst eb eH;exact⟨.bl (!b),H',I2,rfl,q _ H1 H' sm R1 (by unfold Rep;rfl)⟩) λ _ _ z=>z
theorem bh3 {rpos:Pos} (h:XO' X e A):PS X (.Return (some e) rpos) (tN X.K (nFr A)) :=
 PS.wk (Q_3 h) λ Dn σ H hh0_=>by
  obtain⟨Hi,He,H0,ρ,o,R,f,q⟩:=hh0_;unfold nFr aN0 at f;obtain⟨⟨ds,ρ1⟩,h1,f⟩:=a_0 f;cases f;refine⟨⟨Hi,He,[]⟩,H0,ρ,ds,ρ1,R,h1,λ p vs H1 Hh s1 R1 hp r1=>?_⟩
  have pn:H1 p=none:=R1.same.free hp;refine q p H1 _ ⟨R1.init,λ b u hb=>?_,λ b u hb=>?_,R1.fresh,pn,?_,vs,a_2,r1⟩
  ·rw[a_3 (a_5 hb pn)];exact R1.same b u hb
  ·have hb':=R1.keep b u hb (by simp)
   rw[a_3 (a_5 hb' hp)];exact hb'
  ·cases hz:He p with
   |none=>rfl
   |some u=>have:=R1.keep p u hz (by simp);rw[hp] at this;cases this
theorem xnL {st:Stmt}{N:En->Option MO} (h:PS X st (tN X.K N)):XN X [st] N:=m_0 h
end
def al4 (r r' r'':R2) (ta tb tc td:TE):TE:=λ σ H Q=>ta σ H λ x H1=>tb σ H1 λ y H2=>r x y H2 λ z H3=>∃ k,z=.bl k /\
 (if k=true then tc σ H3 λ u H4=>r' y u H4 λ z' H5=>∃ k',z'=.bl k'/\(if k'=true then td σ H5 λ w' H6=>r'' u w' H6 Q else Q (.bl false) H5) else Q (.bl false) H3)
section
variable {X:Cx}{pos:Pos}{a b c d:Expr}{ta tb tc td:TE}{F G L M:FE}
theorem R_1 {op op' op'':CmpOp}{r r' r'':R2} (ho:OpR X (compareOp op) r) (ho':OpR X (compareOp op') r') (ho'':OpR X (compareOp op'') r'') (ha:PE X a ta) (hb:PE X b tb) (hc:PE X c tc) (hd:PE X d td)
  (hm:lastMarks [op,op',op''] [b,c,d]=false):PE X (.Compare a [op,op',op''] [b,c,d] pos) (al4 r r' r'' ta tb tc td):=by
 intro pins s σ H Q I h;refine Compare_chain (thn (ha pins s σ H _ I h) λ v s1=>ex5 λ x H1 I1 r1 q1=>chain_link (thn (hb pins s1 σ H1 _ I1 q1) λ u s2=>ex5 λ y H2 I2 r2 q2 =>
  thn (ho pins s2 σ H2 x y v u _ I2 r1 r2 q2) λ dd s3 ⟨z,H3,I3,r3,k,e,q3⟩=>?_)) hm
 subst e;cases r3;refine wpAny_truthy_bool ?_;cases k with
 |false=>exact ite_ff ⟨.bl false,H3,I3,rfl,q3⟩
 |true =>
  refine ite_tt (chain_link (thn (hc pins s3 σ H3 _ I3 q3) λ w' s4=>ex5 λ z' H4 I4 r4 q4=>thn (ho' pins s4 σ H4 y z' u w' _ I4 r2 r4 q4) λ ee s5 hh0_=>?_))
  obtain⟨z5,H5,I5,r5,k5,e5,q5⟩:=hh0_;subst e5;cases r5;refine wpAny_truthy_bool ?_;cases k5 with
  |false=>exact ite_ff ⟨.bl false,H5,I5,rfl,q5⟩
  |true=>exact ite_tt (chain_last (thn (hd pins s5 σ H5 _ I5 q5) λ w6 s6=>ex5 λ z6 H6 I6 r6 q6=>ho'' pins s6 σ H6 z' z6 w' w6 Q I6 r4 r6 q6))
theorem X_0 {z:D}{b:Bool} (h:blB z=some b):z=.bl b:=by
 cases z with
 |bl k=>cases h;rfl
 |_=>cases h
theorem aP1 {op op' op'':CmpOp}{f f' f'':D->D->Option D} (o:h_7 X op f) (o':h_7 X op' f') (o'':h_7 X op'' f'') (ha:XE X a F) (hb:XE X b G) (hc:XE X c L) (hd:XE X d M) (hm:lastMarks [op,op',op''] [b,c,d]=false:=by with_unfolding_all rfl) :
  XE X (.Compare a [op,op',op''] [b,c,d] pos) (e4 f f' f'' F G L M):=by
 obtain⟨r,h1,h2⟩:=o;obtain⟨r',h1',h2'⟩:=o';obtain⟨r'',h1'',h2''⟩:=o'';refine PE.wk (R_1 h1 h1' h1'' ha hb hc hd hm) λ σ H Q hh0_=>?_
 obtain⟨c,H0,ρ,w,ρ',R,g,q⟩:=hh0_;unfold e4 e4a at g;obtain⟨⟨x,ρ1⟩,g1,t1⟩:=a_0 g;unfold lk3 at t1;obtain⟨⟨y,ρ2⟩,g2,t2⟩:=a_0 t1;unfold bd3 at t2;obtain⟨z,g3,t3⟩:=a_0 t2;unfold bd2 at t3;obtain⟨k,g4,t4⟩:=a_0 t3
 clear g t1 t2 t3
 dsimp only at g2 g3 g4 t4;have ez:=X_0 g4;subst ez;refine⟨c,H0,ρ,x,ρ1,R,g1,λ vx H1 Hh s1 R1 r1=>⟨c,H1,ρ1,y,ρ2,R1,g2,λ vy H2 Hh2 s2 R2 r2=>?_⟩⟩
 refine h2 c H2 Hh2 ρ2 σ x y _ vx vy _ R2 (Rep.mono s2 x r1) r2 g3 λ v H3 Hh3 s3 R3 r3=>?_
 unfold Rep at r3;refine⟨k,r3,?_⟩;cases k with
 |false =>
  rw[if_neg Bool.false_ne_true] at t4 ⊢;cases t4;exact q _ H3 Hh3 (s1.trans (s2.trans s3)) R3 (by unfold Rep;rfl)
 |true =>
  rw[if_pos rfl] at t4 ⊢;unfold lk2 at t4;obtain⟨⟨u,ρ3⟩,g5,t5⟩:=a_0 t4;unfold bd5 at t5;obtain⟨z',g6,t6⟩:=a_0 t5;unfold bd4 at t6;obtain⟨k',g7,t7⟩:=a_0 t6
  clear t4 t5 t6
  dsimp only at g6 g7 t7;have ez:=X_0 g7;subst ez;refine⟨c,H3,ρ2,u,ρ3,R3,g5,λ vu H4 Hh4 s4 R4 r4=>?_⟩
  refine h2' c H4 Hh4 ρ3 σ y u _ vy vu _ R4 (Rep.mono s4 y (Rep.mono s3 y r2)) r4 g6 λ v' H5 Hh5 s5 R5 r5=>?_
  unfold Rep at r5;refine⟨k',r5,?_⟩;cases k' with
  |false =>
   rw[if_neg Bool.false_ne_true] at t7 ⊢;cases t7;exact q _ H5 Hh5 (s1.trans (s2.trans (s3.trans (s4.trans s5)))) R5 (by unfold Rep;rfl)
  |true =>
   rw[if_pos rfl] at t7 ⊢;unfold lk1 mkP at t7;obtain⟨⟨t,ρ4⟩,g8,t8⟩:=a_0 t7;obtain⟨w',g9,t9⟩:=a_0 t8;dsimp only at g9 t9;cases t9;refine⟨c,H5,ρ3,t,ρ',R5,g8,λ vt H6 Hh6 s6 R6 r6=>?_⟩
   exact h2'' c H6 Hh6 ρ' σ u t w vu vt Q R6 (Rep.mono s6 u (Rep.mono s5 u r4)) r6 g9 λ v7 H7 Hh7 s7 R7 r7=>q v7 H7 Hh7 (s1.trans (s2.trans (s3.trans (s4.trans (s5.trans (s6.trans s7)))))) R7 r7
end
end Fx
namespace L2
open PySem PySem.Spec PyProof.Rows
set_option maxRecDepth 8000 in
theorem ad4 (l:Addr) (xs:Array Value) (n:Nat) (b:Addr) (ys:Array Value) (m:Nat) (dd:Option Addr) (sl:Array (Option Value))
  (h0:¬(!xs.isEmpty&&Builtin.List.listTooLong (xs.size+ys.size))=true) (h1:xs.size<=sizeLine) (h2:xs.size+ys.size<=sizeLine+1) :
  Meets (Builtin.«list.extend» ⟨[.ref l,.ref b],[]⟩) (λ _ R s=>s.heap.get? l=some {cls:=.type "list",data:=.seq xs n} ∧ s.heap.get? b=some {cls:=.type "tuple",dict:=dd,data:=.seq ys m,slots:=sl} ∧
   R (.ok (.ret Value.none)) {s with heap:=s.heap.update l (Obj.mapSeq λ x=>x++ys),toks:=s.toks}) :=
 .of_wp λ prog w A R s h=>by
  obtain⟨hp,g,d,tk,os⟩:=s;obtain⟨hl,hb,h⟩:=h;have t1:=AutoSeq1.sub_tuple_tuple;have t2:=AutoSeq1.sub_list_list;have t3:=AutoSeq1.sub_tuple_list;have hz:(xs++ys).size<=sizeLine+1:=Array.size_append▸h2
  wp_walk using (wpAny_updateSeq hl rfl (hz:=h1) (_hz':=hz)),wpAny_loadPart' hl,wpAny_loadPart' hb
  exact⟨_,rfl,h⟩
section
variable {X:Cx}
def aS5 (K:Frag):V->List V->Hp->VK->Prop:=λ x vs H Q=>∃ l b xs zs,x=.ref l/\vs=[.ref b]/\H l=some (.lst xs)/\SqT K H b zs/\xs.length+zs.length<=sizeLine/\Q .non (upd H l (.lst (xs++zs)))
theorem ap3:MtM X "list.extend" (aS5 X.K):=by
 intro pins s σ H x vs v us Q I rx rv h;obtain⟨l,b,xs,zs,rfl,rfl,hH,hB,hz,q⟩:=h;cases rx;obtain⟨u,rfl,ru⟩:=rv.one;cases ru;obtain⟨_,its,n,r,hl,e⟩:=I.lstM hH;obtain⟨ys,r2,⟨⟨cl,dd,da,sl⟩,e2,hc,m,hd⟩,_⟩:=I.tuple hB;cases hc;cases hd;have hl2:=r2.length;have big:its.toArray.size+ys.toArray.size<=sizeLine:=by rw[List.size_toArray,List.size_toArray];omega
 refine call_meets F.slot_list_extend ⟨_,e,rfl⟩ F.entry_list_extend (F.args_list_extend_2 _ _)
  (ad4 l its.toArray n b ys.toArray m dd sl (by rw[u_4 big,Bool.and_false];exact qm) (by rw[List.size_toArray];omega) (by omega)) ⟨e,e2,?_⟩
 refine⟨.non,_,I.lset (its':=its++ys) hH e (by simp) (r.append r2) ?_,rfl,q⟩
 rw[List.length_append];omega
end
end L2
namespace Fx
open PySem PySem.Spec PyProof.Rows L2
def dTL:D->Option D
 |.tup xs=>some (.lst xs)
 |_=>none
section
variable {X:Cx}{pos:Pos}{e:Expr}{F:FE}
theorem aP0 (i:Nat) {x:Str}{p1 p2 p3:Pos} (he:XE X e F) (hN:X.N[i]?=some x:=by rfl) (hv:Vis X.env.scope x:=by first | exact Or.inl rfl | exact Or.inr (Or.inl rfl) | exact Or.inr (Or.inr rfl)) (hd:(x==("__debug__":Str))=false:=by decide)
  (hcd:(x==("__classdict__":Str))=false:=by decide) (hbase:attributeBase (.Name x p1) "extend" X.env (eval (.Name x p1) X.env)=eval (.Name x p1) X.env:=by rfl)
  (hfew:((backTo p3 (starEach [e] X.env)).all (λ x=>!x.1)&&(backToKw p3 (keywordEach [] X.env)).all (λ x=>x.1.isSome)&&decide ([e].length+([]:List Keyword).length+(if ([]:List Keyword).isEmpty then 0 else 1)<30))=true:=by rfl)
  (hline:(p2.endLine==p3.line)=true:=by rfl) (hst:starEach [e] X.env=(false,eval e X.env)::starEach [] X.env:=by rfl) (hpl:(backTo p3 (starEach [] X.env)).any (·.1)=false:=by rfl)
  (hs:swapsWith (.Call (.Attribute (.Name x p1) "extend" p2) [e] [] p3) none pos.line X.env=pure false:=by rfl) :
  XS X (.Expr (.Call (.Attribute (.Name x p1) "extend" p2) [e] [] p3) pos) (aR9 i (e1 dTL F)) :=
 PS.wk (t_8 (C_0 PySem.F.plainAttrs_list PySem.F.slot_list_extend PySem.F.type_list_extend ap3 (j_9 hN hv hd hcd) (e_2 he i_1 hst) hbase hfew hline hst hpl) hs) λ Dn σ H hh0_=>by
  obtain⟨c,H0,ρ,r,R,f,q⟩:=hh0_;unfold aR9 aB1 at f;obtain⟨ds0,h0,f⟩:=a_0 f;unfold aB0 at f;obtain⟨⟨d,ρ1⟩,h1,f⟩:=a_0 f;unfold aA9 at f;obtain⟨xs,h2,f⟩:=a_0 f;unfold aA8 at f;obtain⟨ds,h3,f⟩:=a_0 f;dsimp only at h2 h3 f;obtain⟨hl,f'⟩:=ifs f;cases f';unfold e1 at h1;obtain⟨⟨d0,ρ0⟩,h5,g⟩:=a_0 h1;obtain⟨d1,h4,g⟩:=a_0 g;cases g;obtain⟨a,x1,_,_,vs0,y1,_⟩:=R.ow i _ _ (i_2 h0);refine⟨.ref a,x1,.inl ⟨rfl,vs0,SqL.of y1⟩,c,H0,ρ,d0,ρ0,R,h5,λ v H1 Hh s1 R1 rv=>?_⟩
  cases d0 with
  |tup zs =>
   cases h4;cases h2;unfold Rep at rv;obtain⟨b,ws,rfl,sb,rz⟩:=rv;obtain⟨a',x2,_,_,vs,y2,z2⟩:=R1.ow i _ _ (i_2 h3);rw[x1] at x2;cases x2;have l1:=z2.length;have l2:=rz.length;refine⟨a,b,vs,ws,rfl,rfl,y2,Same.seqT R1.same sb,?_,?_⟩
   ·have:(1000:Nat)<=sizeLine:=by decide
    omega
   ·exact q σ _ _ s1 (R1.mutOwn (o':=.lst (ds++xs)) (u:=.lst (vs++ws)) (i_2 h3) x1 ⟨_,a_2,z2.app rz⟩)
  |_=>cases h4
end
end Fx
namespace Fx
open PySem PySem.W PySem.Spec PyProof.Rows L2
def Q_1 (g:D->En->Option En) (B:FX) (ρ:En) (o:Option (List D)):Option RX:=bnd o λ xs=>xGo g B (r_1 0 xs) ρ
def Q_2 (g:D->En->Option En) (B:FX) (o:Option (D×En)):Option RX:=bnd o λ p=>Q_1 g B p.2 (lsX p.1)
def aa1 (g:D->En->Option En) (F:FE) (B:FX) (ρ:En):Option RX:=Q_2 g B (F ρ)
theorem ad3 {E:XK}{K:Frag}{mg:Str->Option Value}{c:FC}{H1 Hh:Hp}{ρ:En}{σ:L2.St}{g:GD}{B:FX}{xs:List D}{J:It}{Dn:Ends}{r:RX} (R:RS K c H1 Hh ρ σ) (hf:xGo g B xs ρ=some r) (hy:E_3 K J H1 xs) (q:PostX K mg E c Dn H1 r) :
  ∃ W:Nat->Nat->L2.St->Hp->Prop,(∃ m,W 0 m σ Hh)/\∀ i m σ H,W i m σ H ->
   (J.stop i H/\Dn.nx σ H)\/(J.go i H/\∃ N:L2.St->Hp->Prop,(∀ σ' H',N σ' H'->∃ m',m'<m/\W (i+1) m' σ' H')/\∀ x H',J.yld i H x H'->tG K g x σ H' λ σ2 H2=>tX K mg E B {Dn with nx:=N,ct:=N,bk:=Dn.nx} σ2 H2):=by
 refine⟨λ i m σ H=>m=xs.length-i/\i<=xs.length/\∃ H0 ρ,Same H1 H0/\RS K c H0 H ρ σ/\xGo g B (xs.drop i) ρ=some r,⟨xs.length,by simp,Nat.zero_le _,H1,ρ,Same.refl _,R,by simpa using hf⟩,?_⟩
 rintro i m σ H ⟨rfl,hi,H0,ρ,s0,R0,hg⟩;obtain⟨y1,y2⟩:=hy H0 H i s0 R0.same
 by_cases hlt:i<xs.length
 ·have hd:xs[i]?=some xs[i]:=by simp[hlt]
  obtain⟨go,yl⟩:=y1 _ hd;refine .inr ⟨go,λ σ' H'=>∃ m',m'<xs.length-i/\m'=xs.length-(i+1)/\i+1<=xs.length/\∃ H0 ρ,Same H1 H0/\RS K c H0 H' ρ σ'/\xGo g B (xs.drop (i+1)) ρ=some r,λ σ' H' ⟨m',a,b⟩=>⟨m',a,b⟩,λ x H' hx=>?_⟩
  obtain⟨H0',S,rx⟩:=yl x H' hx;rw[p_7 hd,t_0] at hg;obtain⟨ρ1,g1,hg⟩:=a_0 hg;obtain⟨z,g2,hg⟩:=a_0 hg;have s0:=s0.trans S.s0;refine⟨c,H0',ρ,_,ρ1,R0.after S,rx,g1,λ σ1 H2 Hh2 s2 R2=>⟨c,H2,ρ1,z,R2,g2,?_⟩⟩
  match z,hg with
  |.ok (.nx ρ2),hg=>exact λ σ' H3 Hh3 s3 R3=>⟨_,by omega,rfl,hlt,H3,ρ2,s0.trans (s2.trans s3),R3,hg⟩
  |.ok (.ct ρ2),hg=>exact λ σ' H3 Hh3 s3 R3=>⟨_,by omega,rfl,hlt,H3,ρ2,s0.trans (s2.trans s3),R3,hg⟩
  |.ok (.bk ρ2),hg=>cases hg;exact λ σ' H3 Hh3 s3 R3=>q σ' H3 Hh3 (s0.trans (s2.trans s3)) R3
  |.ok (.rt d ρ2),hg=>cases hg;exact λ v σ' H3 Hh3 s3 R3 r3=>q v σ' H3 Hh3 (s0.trans (s2.trans s3)) R3 r3
  |.ex y,hg=>cases hg;exact λ C dd ρ' σ' H3 Hh3 m s3 R3 xd=>q C dd ρ' σ' H3 Hh3 m (s0.trans (s2.trans s3)) R3 xd
 ·have hn:xs.drop i=[]:=List.drop_eq_nil_of_le (by omega)
  rw[hn,O_4] at hg;cases hg;exact .inl ⟨y2 (by omega),q σ H0 H s0 R0⟩
section
variable {X:Cx}{E:XK}{x f:Str}{C fI:Addr}{k:Nat}{fd:FuncData}{a:Expr}{F:FE}{np cpos pos:Pos}
theorem E_7 (hR:E_4 X E) (hm:X.mg x=some (.ref C)) (hx:M_5 X.K C fI=true) (h1:XS1 X.K C f) (Fk:FnOk X.prog X.w X.K X.mg X.base (CXE X.prog X.w) k fI fd ["self",f] (spI X.K f)) (hr:Room (k+1) X.A) (hb:Binds X.K fd ["self",f] [])
  (ha:XE X a F) (hc:X.calm=true:=by rfl) (hxx:X.ex=[]:=by rfl) (hg:Gl X x:=by rfl) (hd:(x==("__debug__":Str))=false:=by decide) (hs:starEach [a] X.env=[(false,eval a X.env)]:=by rfl) :
  XX1 X E (.Raise (some (.Call (.Name x np) [a] [] cpos)) none pos) (o_6 x f F) :=
 PS.wk (Q_4 hR hc hxx hm hx h1 Fk hr hb ha hg hd hs) λ Dn σ H hh0_=>by
  obtain⟨c,H0,ρ,r,R,e,q⟩:=hh0_;unfold o_6 t_7 at e;obtain⟨⟨d,ρ1⟩,h2,e⟩:=a_0 e;cases e;refine⟨c,H0,ρ,d,ρ1,R,h2,λ v H1 Hh s1 R1 rv dx hx=>?_⟩
  have S:=Step.alloc (o:=.xd [(f,v)]) R1.same hx;exact q C (some dx) ρ1 σ _ _ hm (s1.trans S.s0) (R1.after S) ⟨v,Rep.mono S.s0 _ rv,a_2⟩
theorem ay0 {elts:List Expr}{x1:Nat}{pt p pos':Pos}{body:List Stmt}{g:GD}{B:FX} (hp:PassesOwn (model X.prog X.w) X.A X.env X.xe) (hm:X.mg "enumerate"=none) (hg:XG X (.Tuple elts x1 pt) g) (ha:XE X a F) (hb:XX X E body B) (hgl:Gl X "enumerate":=by rfl)
  (hc:X.calm=true:=by rfl) (hst:starEach [a] X.env=[(false,eval a X.env)]:=by rfl) (hs:∀ x,foldedSetIterable (.Call (.Name "enumerate" p) [a] [] pos') X.env x=pure x:=by intro _;rfl) :
  XX1 X E (.For (.Tuple elts x1 pt) (.Call (.Name "enumerate" p) [a] [] pos') body [] pos) (aa1 g F B):=PS.wk (G_4 hp hc (Q_8 hgl hm ha hst) hg hb hs) λ Dn σ H hh0_=>by
 obtain⟨c,H0,ρ,r,R,f,q⟩:=hh0_;unfold aa1 Q_2 at f;obtain⟨⟨d,ρ1⟩,h1,f⟩:=a_0 f;unfold Q_1 at f;obtain⟨xs,h2,f⟩:=a_0 f;dsimp only at h2 f;cases d with
 |lst ys =>
  cases h2;refine⟨c,H0,ρ,_,ρ1,R,h1,λ v H1 Hh s1 R1 r1=>?_⟩
  unfold Rep at r1;obtain⟨a,vs,rfl,sq,rs⟩:=r1;exact⟨a,vs,rfl,Same.seq R1.same sq,ad3 R1 f (o_0 sq rs) (q.mono s1)⟩
 |_=>cases h2
end
section
variable {prog:Program}{w:World}{A:Around}{E:Value->Shared->Prop}{s:Shared}{K:Frag}{C x:Addr}{ox od:Obj}{name:Str}{v:Value}
theorem XC.fld {Q:Value->Shared->Prop} (f:XC K C) (g:XS1 K C name) (X:K.In s.heap) (I:InstAt s.heap x ox C (some od)) (hl:lookIn name od=some (some v)) (hv:handedIn v=true) (h:Q v {s with toks:=s.toks+1}) :
  wpAny (model prog w) A (getAttr (.ref x) name true) Q E s:=by
 obtain⟨cd,hc,_,hd⟩:=g.cl;have fo:findObj K C (some od) name=some (.value v):=findObj_own (attr:=none) (by unfold hasDictIn;rw[hc];exact hd) g.na rfl hl
 obtain⟨hh,gs,d,t,os⟩:=s;have L0:=I.type (M:=model prog w);have L1:=looks_findIn (M:=model prog w) X f.ga;have L2:=looks_findIn (M:=model prog w) X f.gh;have L3:=looks_find (M:=model prog w) X I fo
 have bn:(onTheHeap (.ref C)&&Value.builtin "BaseException.__getattribute__"==Value.builtin "object.__getattribute__")=false:=by
  rw[show (Value.builtin "BaseException.__getattribute__"==Value.builtin "object.__getattribute__")=false by decide +kernel];rfl
 unfold getAttr;refine qb (wpAny_mkText ?_);unfold getAttrBy;refine wpAny_holding (qb (L0.at (qb (L1.at ?_))));dsimp only;rw[bn,if_neg (by decide)]
 unfold getAttrByItsOwn hookBefore;refine qb ?_;rw[show onTheHeap (.ref C)=true from rfl,if_pos rfl];refine L2.at (qb (wpAny_attempt (wpAny_holding ?_)));unfold callGetattribute;rw[show (true&&onTheHeap (Value.builtin "BaseException.__getattribute__"))=false from rfl,if_neg (by decide)]
 unfold boundAndCalled;refine qb (wpAny_of_eq (F.attr_ValueError.ga.bind (.ref x)) ?_);refine wpAny_call (codeAny_call_builtin F.attr_ValueError.ga.plain F.entry_bexc_ga (f.ck X I ?_));unfold Builtin.«object.__getattribute__»;refine qb (qc (a:=(Value.ref x,[Value.str name t])) (qb (qc (qb (L0.at (qb (L3.at ?_)))))));dsimp only;refine qc ?_;show wpAny _ _ (handedOut v) _ _ _;rw[handedOut_of hv];exact qc h
end
theorem ap4 {h:Heap}{dx:Addr}{m:Str->Option Value}{name:Str}{u:Value} (n:h.Ns1 dx m) (e:m name=some u):∃ o,h.get? dx=some o/\lookIn name o=some (some u):=by
 obtain⟨o,es,ep,q1,q2,q3,q4,q5⟩:=n;refine⟨o,q1,?_⟩;unfold lookIn;rw[q2];dsimp only;have z:=q5 name;rw[e] at z;unfold nsFind findBy at z;rw[<- Array.find?_toList] at z;cases w:es.toList.find? (λ e=>e.key.isStr name) with
 |none=>rw[w] at z;cases z
 |some k=>rw[w] at z;cases z;rfl
section
variable {X:Cx}{a C dx:Addr}{vs:Array Value}{e:Expr}{te:TE}{f:Str}{pos:Pos}
theorem aT3 (c:XC X.K C) (g:XS1 X.K C f) (he:PE (g_3 X a (rcd (.ref C) vs (some dx))) e te) (hb:attributeBase e f X.env (eval e X.env)=eval e X.env) :
  PE (g_3 X a (rcd (.ref C) vs (some dx))) (.Attribute e f pos) (λ σ H Q=>te σ H λ x H1=>x=.ref a/\∃ n,H1 dx=some (.xd [(f,.int n)])/\Q (.int n) H1):=by
 intro pins s σ H Q I h;refine av4 hb (thn (he pins s σ H _ I h) λ u s1=>ex5 λ x H1 I1 rx z=>?_)
 obtain⟨rfl,n,hx,q⟩:=z;obtain rfl:u=.ref a:=rx;obtain⟨m,ns,rl⟩:=(show ObjOk _ _ H1 s1.heap dx (.xd [(f,.int n)]) from I1.hok dx _ hx);have rf:=rl f;rw[show ([(f,V.int n)]:List (Str×V)).lookup f=some (.int n) by simp[List.lookup]] at rf
 cases mf:m f with
 |none=>rw[mf] at rf;exact rf.elim
 |some u =>
  rw[mf] at rf;obtain⟨tk,rfl⟩:∃ tk,u=.int n tk:=rf;obtain⟨o,q1,q2⟩:=ap4 ns mf;exact c.fld g I1.kIn ⟨(I1.pin (a,rcd (.ref C) vs (some dx)) (qf)).1,rfl,rfl,q1⟩ q2 rfl ⟨.int n,H1,I1.tok _,⟨tk,rfl⟩,q⟩
end
theorem ae6 {X:Cx}{c:Addr}{b:Bool} (hk:kitOne X.K (.type "NoneType") (.ref c)=some b):CallR X (.builtin "isinstance") (λ xs H Q=>xs=[.non,.ref c] ∧ Q (.bl b) H):=by
 intro pins s σ H xs us Q I r h;obtain⟨rfl,q⟩:=h;obtain⟨u1,u2,rfl,r1,r2⟩:=ak8 r;obtain rfl:u1=.none:=r1;obtain rfl:u2=.ref c:=r2;exact kia_one kitx_none I.kIn trivial hk (λ z=>nomatch z) λ tk=>⟨.bl b,H,I.tok tk,rfl,q⟩
def clV (K:Frag) (C:Addr):Bool:=(clsIn K C).any λ c=>C_2 c.mro&&c.hasDict
theorem aJ9 {K:Frag}{C:Addr} (h:clV K C=true):∃ cd,clsIn K C=some cd/\C_2 cd.mro=true/\cd.hasDict=true:=by
 obtain⟨cd,a,b⟩:=any_some h;obtain⟨b,c⟩:=(Bool.and_eq_true ..).mp b;exact⟨cd,a,b,c⟩
structure XIn (K:Frag) (mg:Str->Option Value) (x y f qual:Str) (st:Stmt) (c0 c2 fI:Addr) (fd:FuncData):Prop where
 m0:mg x=some (.ref c0)
 m2:mg y=some (.ref c2)
 x0:M_5 K c0 fI=true
 s1:XS1 K c0 f
 k0:XC K c0
 e0:exmOne K (.ref c0) (.ref c2)=some true
 t0:kitOne K (.ref c0) (.ref c0)=some true
 n0:kitOne K (.type "NoneType") (.ref c0)=some false
 fn:Fun K "__init__" qual st fI fd
 b0:Binds K fd ["self",f] []
def atX:D ⊕ XV->Option D
 |.inl _=>some .non
 |.inr (x,some (f,.int n))=>if x="NoText" ∧ f="at" then some (.int n) else none
 |_=>none
def atM (g:List D->Option (D ⊕ XV)) (ds:List D):Option D:=if ds.length=1 then bnd (g ds) atX else none
theorem X_3 {g:List D->Option (D ⊕ XV)}{ds:List D}{d:D} (h:atM g ds=some d):ds.length=1/\∃ z,g ds=some z/\atX z=some d:=by
 unfold atM at h
 split at h
 ·rename_i hl
  obtain⟨z,h1,h2⟩:=a_0 h;exact⟨hl,z,h1,h2⟩
 ·cases h
theorem av6 {y:XV}{d:D} (h:atX (.inr y)=some d):∃ n:Int,y=(Str.ofString "NoText",some (Str.ofString "at",D.int n)) ∧ d=.int n:=by
 obtain⟨x,_ | ⟨f,e⟩⟩:=y
 ·cases h
 ·cases e with
  |int n =>
   have h:(if x="NoText" ∧ f="at" then some (D.int n) else none)=some d:=h
   split at h
   ·rename_i hh
    cases h;exact⟨n,by rw[hh.1,hh.2],rfl⟩
   ·cases h
  |_=>cases h
theorem xF0 {X:Cx}{k:Nat}{x:Str}{g:List D → Option D}{p pos:Pos} (G:DefOk X.prog X.w X.K X.mg X.base k x g) (hr:Room k X.A) (hg:Gl X x:=by rfl) (hdb:(x==("__debug__":Str))=false:=by decide):XE X (.Call (.Name x p) [] [] pos) (eF g aN):=by
 obtain⟨f,fd,ps,F,hb,hk,hm⟩:=G.ex;refine PE.wk (ab3 F hr hg hm hk hb .nil ao2 hdb) λ σ H Q hh0_=>?_
 obtain⟨c,H0,ρ,d,ρ',R,z,q⟩:=hh0_;unfold eF at z;obtain⟨⟨ds,ρ1⟩,h1,z⟩:=a_0 z;obtain⟨d',h2,z⟩:=a_0 z;cases h1;have z':some (d',ρ)=some (d,ρ'):=z;cases z';exact⟨H0,[],d,R.same,Reps.nil_,h2,λ v Hi' H' S rv=>q v Hi' H' S.s0 (R.after S) rv⟩
end Fx
namespace Fx
open PySem
noncomputable section
def af3:FS :=
 (b_6 (sIf (tOr (tNot (tV (eTy .str (eV 0)))) (tNot (tB (e3 dLe dLe (eC (.int 1)) (eF g_6 (aC (eV 0) aN)) (eC (.int 8))))))
 (e_1 (eC (.bl false)))
 sN)
 (e_1 (eF av3 (aC (eLC [] (eV 0) tYes (e2 z_1 (eV 0) (eC (.str "abcdefghijklmnopqrstuvwxyz")))) aN))))
def n_8:List D->Option D:=fnD 1 0 af3
def D_9:FS :=
 (b_6 (c_7 1 (eIf (tV (e2 V_9 (eV 0) (eC (.str "-")))) (l_2 (eV 0) (oS (eC (.int 1))) oN) (eV 0)))
 (b_6 (sIf (tOr (tNot (tB (e3 dLe dLe (eC (.int 1)) (eF g_6 (aC (eV 1) aN)) (eC (.int 12))))) (tNot (tV (eF av3 (aC (eLC [] (eV 1) tYes (e2 z_1 (eV 0) (eC (.str "0123456789")))) aN)))))
 (e_1 (eC (.bl false)))
 sN)
 (e_1 (eOr (e2 dEq (eV 0) (eC (.str "0"))) (e2 dNe (e2 e_0 (eV 1) (eC (.int 0))) (eC (.str "0")))))))
def e_6:List D->Option D:=fnD 1 1 D_9
def D_8:FS :=
 (b_6 (c_7 2 (eIf (tAnd (tB (e2 dEq (eV 0) (eC (.str "ask")))) (tB (e2 dGt (eV 1) (eC (.int 2))))) (e2 b_7 (e1 (dKx [((Str.ofString "in"),(.str "NAME LOW HIGH")),((Str.ofString "time"),(.str "NAME FROM BEGIN END")),((Str.ofString "only"),(.str "NAME FROM KEY ..")),((Str.ofString "but"),(.str "NAME FROM KEY ..")),((Str.ofString "span"),(.str "NAME FROM LOW HIGH")),((Str.ofString "rest"),(.str "NAME FROM M R")),((Str.ofString "turn"),(.str "NAME FROM A B")),((Str.ofString "later"),(.str "NAME FROM C")),((Str.ofString "put"),(.str "NAME FROM KEY OTHER ..")),((Str.ofString "pour"),(.str "NAME FROM FROM ..")),((Str.ofString "pair"),(.str "NAME LEFT RIGHT REACH HOW")),((Str.ofString "fixed"),(.str "NAME FROM WIDTH FOLD")),((Str.ofString "slide"),(.str "NAME FROM WIDTH STEP FOLD")),((Str.ofString "gaps"),(.str "NAME FROM GAP FOLD")),((Str.ofString "ever"),(.str "NAME FROM FOLD")),((Str.ofString "ask"),(.str "NAME FROM"))]) (eV 0)) (eC (.str " LOW HIGH"))) (e1 (dKx [((Str.ofString "in"),(.str "NAME LOW HIGH")),((Str.ofString "time"),(.str "NAME FROM BEGIN END")),((Str.ofString "only"),(.str "NAME FROM KEY ..")),((Str.ofString "but"),(.str "NAME FROM KEY ..")),((Str.ofString "span"),(.str "NAME FROM LOW HIGH")),((Str.ofString "rest"),(.str "NAME FROM M R")),((Str.ofString "turn"),(.str "NAME FROM A B")),((Str.ofString "later"),(.str "NAME FROM C")),((Str.ofString "put"),(.str "NAME FROM KEY OTHER ..")),((Str.ofString "pour"),(.str "NAME FROM FROM ..")),((Str.ofString "pair"),(.str "NAME LEFT RIGHT REACH HOW")),((Str.ofString "fixed"),(.str "NAME FROM WIDTH FOLD")),((Str.ofString "slide"),(.str "NAME FROM WIDTH STEP FOLD")),((Str.ofString "gaps"),(.str "NAME FROM GAP FOLD")),((Str.ofString "ever"),(.str "NAME FROM FOLD")),((Str.ofString "ask"),(.str "NAME FROM"))]) (eV 0))))
 (b_6 (aL3 3 (oFr (e2 i_6 (eV 2) (eC (.str " ")))))
 (b_6 (sIf (P_1 3 (tB (e2 dEq (e2 e_0 (eV 3) (e1 ax6 (eC (.int 1)))) (eC (.str "..")))))
 (b_6 (aR3 3)
 (aR7 3 (aU4 (aC (J_2 3 (e2 e_0 (eV 3) (e1 ax6 (eC (.int 1))))) aN) (e2 aN9 (eV 1) (J_2 3 (eF g_6 (aC (eV 3) aN)))))))
 sN)
 (aL4 3 (e_1 (eV 3))))))
def h_3:List D->Option D:=fnD 2 2 D_8
def aK2:FS :=
 (b_6 (sIf (tB (e2 z_1 (eV 0) (eC (.tup [(.str "NAME"),(.str "FROM"),(.str "LEFT"),(.str "RIGHT"),(.str "KEY"),(.str "OTHER")]))))
 (e_1 (eF n_8 (aC (eV 1) aN)))
 sN)
 (b_6 (sIf (tB (e2 dEq (eV 0) (eC (.str "HOW"))))
 (e_1 (e2 z_1 (eV 1) (eC (.tup [(.str "sum"),(.str "less"),(.str "left"),(.str "right")]))))
 sN)
 (b_6 (sIf (tB (e2 dEq (eV 0) (eC (.str "FOLD"))))
 (e_1 (e2 z_1 (eV 1) (eC (.tup [(.str "count"),(.str "sum"),(.str "most"),(.str "least")]))))
 sN)
 (e_1 (eOr (eF e_6 (aC (eV 1) aN)) (V_4 (e2 dEq (eV 1) (eC (.str "*"))) (e2 z_1 (eV 0) (eC (.tup [(.str "LOW"),(.str "HIGH"),(.str "END")])))))))))
def H_4:List D->Option D:=fnD 2 0 aK2
def A_2:FS :=
 (b_6 (sIf (tB (e2 dEq (eV 0) (eC (.str "*"))))
 (e_1 (eC .non))
 sN)
 (e_1 (eIf (tV (eF e_6 (aC (eV 0) aN))) (eF av2 (aC (eV 0) aN)) (eV 0))))
def g_1:List D->Option D:=fnD 1 0 A_2
def N_5:FS :=
 (e_1 (eOr (e2 dIs (eV 0) (eC .non)) (eOr (e2 dIs (eV 1) (eC .non)) (e2 dLe (eV 0) (eV 1)))))
def j_5:List D->Option D:=fnD 2 0 N_5
def A_3:FS :=
 (e_1 (e2 dEq (eF v_8 (aC (eV 0) aN)) (eF g_6 (aC (eV 0) aN))))
def d_9:List D->Option D:=fnD 1 0 A_3
def r_3:FS :=
 (b_6 (sIf (tB (e2 z_1 (eV 0) (aj0 (aC (eC (.str "in")) (aC (eC (.str "span")) (aC (eC (.str "ask")) aN))))))
 (e_1 (eOr (ad8 (eV 2)) (eF j_5 (aC (e2 e_0 (eV 2) (eC (.int 0))) (aC (e2 e_0 (eV 2) (eC (.int 1))) aN)))))
 sN)
 (b_6 (sIf (tB (e2 dEq (eV 0) (eC (.str "time"))))
 (e_1 (V_4 (e2 dGe (e2 e_0 (eV 2) (eC (.int 0))) (eC (.int 0))) (eOr (e2 dIs (e2 e_0 (eV 2) (eC (.int 1))) (eC .non)) (e2 dLt (e2 e_0 (eV 2) (eC (.int 0))) (e2 e_0 (eV 2) (eC (.int 1)))))))
 sN)
 (b_6 (sIf (tB (e2 z_1 (eV 0) (aj0 (aC (eC (.str "only")) (aC (eC (.str "but")) aN)))))
 (e_1 (V_4 (e2 dLe (eF g_6 (aC (eV 2) aN)) (eC (.int 8))) (eF d_9 (aC (eV 2) aN))))
 sN)
 (b_6 (sIf (tB (e2 dEq (eV 0) (eC (.str "rest"))))
 (e_1 (V_4 (e3 dLe dLe (eC (.int 2)) (e2 e_0 (eV 2) (eC (.int 0))) (eC (.int 1000))) (e3 dLe dLt (eC (.int 0)) (e2 e_0 (eV 2) (eC (.int 1))) (e2 e_0 (eV 2) (eC (.int 0))))))
 sN)
 (b_6 (sIf (tB (e2 dEq (eV 0) (eC (.str "turn"))))
 (e_1 (V_4 (e3 dLe dLe (e1 ax6 (eC (.int 1000))) (e2 e_0 (eV 2) (eC (.int 0))) (eC (.int 1000))) (e2 dNe (e2 e_0 (eV 2) (eC (.int 0))) (eC (.int 0)))))
 sN)
 (b_6 (sIf (tB (e2 dEq (eV 0) (eC (.str "put"))))
 (e_1 (V_4 (e2 z_1 (eF g_6 (aC (eV 2) aN)) (aj0 (aC (eC (.int 2)) (aC (eC (.int 4)) (aC (eC (.int 6)) (aC (eC (.int 8)) aN)))))) (eF d_9 (aC (e1 (au5 0) (eV 2)) aN))))
 sN)
 (b_6 (sIf (tB (e2 dEq (eV 0) (eC (.str "pour"))))
 (e_1 (V_4 (e2 dLe (eF g_6 (aC (eV 1) aN)) (eC (.int 8))) (eF d_9 (aC (eV 1) aN))))
 sN)
 (b_6 (sIf (tB (e2 z_1 (eV 0) (aj0 (aC (eC (.str "later")) (aC (eC (.str "pair")) aN)))))
 (e_1 (e2 dGe (e2 e_0 (eV 2) (eC (.int 0))) (eC (.int 0))))
 sN)
 (b_6 (sIf (tB (e2 dEq (eV 0) (eC (.str "slide"))))
 (e_1 (e4 dLe dLt dLe (eC (.int 1)) (e2 e_0 (eV 2) (eC (.int 1))) (e2 e_0 (eV 2) (eC (.int 0))) (e2 bf8 (eC (.int 20)) (e2 e_0 (eV 2) (eC (.int 1))))))
 sN)
 (e_1 (eOr (e2 dEq (eV 0) (eC (.str "ever"))) (e2 dGe (e2 e_0 (eV 2) (eC (.int 0))) (eC (.int 1))))))))))))))
def e_9:List D->Option D:=fnD 3 0 r_3
def N_2:FS :=
 (b_6 (c_7 1 (e2 i_6 (eV 0) (eC (.str " "))))
 (b_6 (c_7 2 (e2 e_0 (eV 1) (eC (.int 0))))
 (b_6 (sIf (tB (e1 (au6 [((Str.ofString "in"),(.str "NAME LOW HIGH")),((Str.ofString "time"),(.str "NAME FROM BEGIN END")),((Str.ofString "only"),(.str "NAME FROM KEY ..")),((Str.ofString "but"),(.str "NAME FROM KEY ..")),((Str.ofString "span"),(.str "NAME FROM LOW HIGH")),((Str.ofString "rest"),(.str "NAME FROM M R")),((Str.ofString "turn"),(.str "NAME FROM A B")),((Str.ofString "later"),(.str "NAME FROM C")),((Str.ofString "put"),(.str "NAME FROM KEY OTHER ..")),((Str.ofString "pour"),(.str "NAME FROM FROM ..")),((Str.ofString "pair"),(.str "NAME LEFT RIGHT REACH HOW")),((Str.ofString "fixed"),(.str "NAME FROM WIDTH FOLD")),((Str.ofString "slide"),(.str "NAME FROM WIDTH STEP FOLD")),((Str.ofString "gaps"),(.str "NAME FROM GAP FOLD")),((Str.ofString "ever"),(.str "NAME FROM FOLD")),((Str.ofString "ask"),(.str "NAME FROM"))]) (eV 2)))
 (e_1 (eC .non))
 sN)
 (b_6 (c_7 3 (eF h_3 (aC (eV 2) (aC (e2 aN9 (eF g_6 (aC (eV 1) aN)) (eC (.int 1))) aN))))
 (b_6 (c_7 4 (e2 au4 (eV 3) (l_2 (eV 1) (oS (eC (.int 1))) oN)))
 (b_6 (sIf (tOr (tB (e2 dNe (eF g_6 (aC (eV 3) aN)) (e2 aN9 (eF g_6 (aC (eV 1) aN)) (eC (.int 1))))) (tNot (tV (eF av3 (aC (aN4 [] (eV 4) tYes (eF H_4 (aC (eV 0) (aC (eV 1) aN)))) aN)))))
 (e_1 (eC .non))
 sN)
 (b_6 (c_7 5 (eF J_9 (aC (aN4 [] (eV 4) (tB (e2 z_1 (eV 0) (eC (.tup [(.str "FROM"),(.str "LEFT"),(.str "RIGHT")])))) (eV 1)) aN)))
 (b_6 (c_7 6 (eF J_9 (aC (eLC [] (l_2 (eV 1) (oS (e2 b_7 (eC (.int 2)) (eF g_6 (aC (eV 5) aN)))) oN) tYes (eF g_1 (aC (eV 0) aN))) aN)))
 (b_6 (sIf (tNot (tV (eF e_9 (aC (eV 2) (aC (eV 5) (aC (eV 6) aN))))))
 (e_1 (eC .non))
 sN)
 (b_6 (sIf (tB (e2 dEq (eV 2) (eC (.str "put"))))
 (c_7 6 (e2 au3 (e1 (au5 0) (eV 6)) (e1 (au5 1) (eV 6))))
 sN)
 (e_1 (aj0 (aC (eV 2) (aC (e2 e_0 (eV 1) (eC (.int 1))) (aC (eV 5) (aC (eV 6) aN))))))))))))))))
def c_3:List D->Option D:=fnD 1 6 N_2
def r_4:FS :=
 (b_6 (c_7 3 (e2 e_0 (e2 e_0 (eV 0) (eC (.int 3))) (e1 ax6 (eC (.int 1)))))
 (b_6 (sIf (tOr (tB (e2 dEq (e2 e_0 (eV 0) (eC (.int 0))) (eC (.str "gaps")))) (tOr (tB (e2 dEq (eV 3) (eC (.str "sum")))) (tB (e2 dEq (e2 e_0 (e2 dDx (eV 1) (e2 e_0 (e2 e_0 (eV 0) (eC (.int 2))) (eC (.int 0)))) (eC (.int 0))) (eC (.str "pair"))))))
 (e_1 (eC (.bl false)))
 sN)
 (e_1 (eOr (e2 dNe (eV 3) (eC (.str "count"))) (V_4 (e2 p_8 (eV 2) (eC .non)) (e3 dLe dLe (eC (.int 1)) (eV 2) (eC (.int 50))))))))
def f_0:List D->Option D:=fnD 3 1 r_4
def r_2:FS :=
 (b_6 (sIf (tOr (tB (e2 aO2 (e2 e_0 (eV 0) (eC (.int 1))) (eV 1))) (tNot (tV (eF av3 (aC (eLC [1] (e2 e_0 (eV 0) (eC (.int 2))) tYes (e2 aO2 (eV 0) (eV 1))) aN)))))
 (e_1 (eC (.bl false)))
 sN)
 (b_6 (c_7 2 (eLC [1] (e2 e_0 (eV 0) (eC (.int 2))) tYes (e2 dDx (eV 1) (eV 0))))
 (b_6 (sIf (tB (e2 dEq (e2 e_0 (eV 0) (eC (.int 0))) (eC (.str "ask"))))
 (e_1 (V_4 (e2 z_1 (e2 e_0 (e2 e_0 (eV 2) (eC (.int 0))) (eC (.int 0))) (eC (.tup [(.str "fixed"),(.str "slide"),(.str "gaps"),(.str "ever")]))) (eOr (ad8 (e2 e_0 (eV 0) (eC (.int 3)))) (eF f_0 (aC (e2 e_0 (eV 2) (eC (.int 0))) (aC (eV 1) (aC (e2 e_0 (e2 e_0 (eV 0) (eC (.int 3))) (eC (.int 0))) aN)))))))
 sN)
 (b_6 (sIf (tAnd (tB (e2 z_1 (e2 e_0 (eV 0) (eC (.int 0))) (aj0 (aC (eC (.str "fixed")) (aC (eC (.str "slide")) (aC (eC (.str "ever")) aN)))))) (tB (e2 dEq (e2 e_0 (e2 e_0 (eV 2) (eC (.int 0))) (eC (.int 0))) (eC (.str "pair")))))
 (e_1 (e2 dNe (e2 e_0 (e2 e_0 (eV 0) (eC (.int 3))) (e1 ax6 (eC (.int 1)))) (eC (.str "sum"))))
 sN)
 (e_1 (eF av3 (aC (eLC [] (eV 2) tYes (e2 z_1 (e2 e_0 (eV 0) (eC (.int 0))) (eC (.tup [(.str "in"),(.str "time"),(.str "only"),(.str "but"),(.str "span"),(.str "rest"),(.str "turn"),(.str "later"),(.str "put"),(.str "pour")])))) aN)))))))
def b_5:List D->Option D:=fnD 2 1 r_2
abbrev d_6:FS :=
 (b_6 (c_7 4 (eF c_3 (aC (eV 3) aN)))
 (b_6 (sIf (tHold 1 (tOr (tB (e2 dGe (eV 2) (eC (.int 24)))) (tOr (tB (e2 dIs (eV 4) (eC .non))) (tNot (tV (eF b_5 (aC (eV 4) (aC (eV 1) aN))))))))
 sNo
 sN)
 (sDK 1 (e2 e_0 (eV 4) (eC (.int 1))) (eV 4))))
def n_1:En->Option MO :=
 (aw3 (sIf (tNot (tV (eTy .str (eV 0))))
 sNo
 sN)
 (aw3 (sDN 1)
 (aw3 (Z_8 (gT [2,3]) (e2 i_6 (eV 0) (eC (.str "\n")))
 d_6)
 (nFr (L_4 1)))))
def b_2:List D->Option MO:=fnN 1 4 n_1
abbrev a_8:FX :=
 (am3 (rS (c_7 4 (eF c_3 (aC (eV 3) aN))))
 (am3 (rIf (tHold 1 (tOr (tB (e2 dGe (eV 2) (eC (.int 24)))) (tOr (tB (e2 dIs (eV 4) (eC .non))) (tNot (tV (eF b_5 (aC (eV 4) (aC (eV 1) aN))))))))
 (o_6 (Str.ofString "NoText") (Str.ofString "at") (eV 2))
 (rS sN))
 (rS (sDK 1 (e2 e_0 (eV 4) (eC (.int 1))) (eV 4)))))
def l_5:FX :=
 (am3 (rIf (tNot (tV (eTy .str (eV 0))))
 (o_6 (Str.ofString "NoText") (Str.ofString "at") (eC (.int 0)))
 (rS sN))
 (am3 (rS (sDN 1))
 (am3 (aa1 (gT [2,3]) (e2 i_6 (eV 0) (eC (.str "\n")))
 a_8)
 (rS (e_1 (eFr (L_4 1)))))))
def b_9:List D->Option (D ⊕ XV):=fnX 1 4 l_5
abbrev v_1:FS :=
 (sIf (tV (eTy .tuple (eV 2)))
 (aR9 1 (e1 dTL (eV 2)))
 (aS0 1 (eIf (tB (e2 dIs (eV 2) (eC .non))) (eC (.str "*")) (eF aY9 (aC (eV 2) aN)))))
def D_7:FS :=
 (b_6 (aL3 1 (oFr (e2 b_7 (d_7 (aC (e2 e_0 (eV 0) (eC (.int 0))) (aC (e2 e_0 (eV 0) (eC (.int 1))) aN))) (eF av1 (aC (e2 e_0 (eV 0) (eC (.int 2))) aN)))))
 (b_6 (aR5 (gN 2) (e2 e_0 (eV 0) (eC (.int 3)))
 v_1)
 (aL4 1 (e_1 (g_4 (Str.ofString " ") (eV 1))))))
def c_5:List D->Option D:=fnD 1 2 D_7
def l_6:FS :=
 (e_1 (g_4 (Str.ofString "\n") (eLC [] (eV 0) tYes (eF c_5 (aC (eV 0) aN)))))
def c_4:List D->Option D:=fnD 1 0 l_6
def h_6:FS :=
 (b_6 (sIf (tB (e2 dLt (eV 1) (eF g_6 (aC (eV 0) aN))))
 (e_1 (e2 e_0 (eV 0) (eV 1)))
 sN)
 (e_1 (eC (.int 0))))
def a_9:List D->Option D:=fnD 2 0 h_6
def N_4:FS :=
 (b_6 (c_7 0 (d_7 (aC (eC (.str "in a 0 9")) (aC (eC (.str "in b * *")) (aC (eC (.str "pair p a b 3 sum")) (aC (eC (.str "fixed f a 10 count")) aN))))))
 (b_6 (c_7 0 (e2 b_7 (eV 0) (d_7 (aC (eC (.str "gaps g a 5 most")) (aC (eC (.str "slide s a 9 3 sum")) aN)))))
 (e_1 (e2 b_7 (eV 0) (d_7 (aC (eC (.str "ever e p least")) (aC (eC (.str "ask q f 1 50")) (aC (eC (.str "ever m b most")) (aC (eC (.str "ask r g")) aN)))))))))
def g_8:List D->Option D:=fnD 0 1 N_4
def N_3:FS :=
 (b_6 (c_7 0 (e2 ae3 (eC (.str "9")) (eC (.int 12))))
 (b_6 (c_7 1 (d_7 (aC (eC (.str "in z 0 0")) (aC (e2 b_7 (e2 b_7 (e2 b_7 (eC (.str "in z -")) (eV 0)) (eC (.str " "))) (eV 0)) (aC (eC (.str "in z * -1")) (aC (eC (.str "time z a 0 1")) aN))))))
 (b_6 (c_7 1 (e2 b_7 (eV 1) (d_7 (aC (eC (.str "time z a 5 *")) (aC (eC (.str "only z a a b c d e f g h")) aN)))))
 (b_6 (c_7 1 (e2 b_7 (eV 1) (d_7 (aC (eC (.str "but z a abcdefgh")) (aC (eC (.str "span z a 3 3")) (aC (eC (.str "span z b * *")) (aC (eC (.str "rest z a 2 1")) aN)))))))
 (b_6 (c_7 1 (e2 b_7 (eV 1) (d_7 (aC (eC (.str "rest z a 1000 999")) aN))))
 (b_6 (c_7 1 (e2 b_7 (eV 1) (d_7 (aC (eC (.str "turn z a -1000 0")) (aC (e2 b_7 (eC (.str "turn z a 1000 -")) (eV 0)) (aC (eC (.str "turn z a 1 0")) (aC (eC (.str "later z a 0")) aN)))))))
 (b_6 (c_7 1 (e2 b_7 (eV 1) (d_7 (aC (e2 b_7 (eC (.str "later z a ")) (eV 0)) aN))))
 (b_6 (c_7 1 (e2 b_7 (eV 1) (d_7 (aC (eC (.str "put z a x y")) (aC (eC (.str "put z a x x y x w x v x")) (aC (eC (.str "pour z a b")) (aC (eC (.str "pair z a a 0 left")) aN)))))))
 (b_6 (c_7 1 (e2 b_7 (eV 1) (d_7 (aC (e2 b_7 (e2 b_7 (eC (.str "pair z b a ")) (eV 0)) (eC (.str " less"))) aN))))
 (b_6 (c_7 1 (e2 b_7 (eV 1) (d_7 (aC (eC (.str "fixed z p 1 most")) (aC (eC (.str "fixed z a 1 sum")) (aC (eC (.str "slide z a 2 1 least")) aN))))))
 (b_6 (c_7 1 (e2 b_7 (eV 1) (d_7 (aC (eC (.str "slide z a 20 1 count")) (aC (eC (.str "slide z p 61 4 count")) aN)))))
 (b_6 (c_7 1 (e2 b_7 (eV 1) (d_7 (aC (eC (.str "gaps z b 1 sum")) (aC (eC (.str "ever z a sum")) (aC (eC (.str "ever z p count")) (aC (eC (.str "ask z f 1 1")) aN)))))))
 (b_6 (c_7 1 (e2 b_7 (eV 1) (d_7 (aC (eC (.str "ask z f 50 *")) (aC (e2 b_7 (eC (.str "ask z f 7 ")) (eV 0)) aN)))))
 (b_6 (c_7 1 (e2 b_7 (eV 1) (d_7 (aC (eC (.str "ask z m * *")) (aC (eC (.str "ask z m -5 -5")) (aC (eC (.str "ask z m * 0")) (aC (eC (.str "ask z e")) (aC (eC (.str "ask z s")) aN))))))))
 (e_1 (e2 b_7 (eV 1) (d_7 (aC (eC (.str "ask z g")) (aC (eC (.str "ask z f")) aN)))))))))))))))))))
def g_7:List D->Option D:=fnD 0 2 N_3
def X_2:FS :=
 (b_6 (c_7 0 (d_7 (aC (eC (.str "in z 1 0")) (aC (eC (.str "in z 0")) (aC (eC (.str "in z 0 1 2")) (aC (eC (.str "in z 00 1")) (aC (eC (.str "in z -0 1")) (aC (eC (.str "in z +1 2")) aN))))))))
 (b_6 (c_7 0 (e2 b_7 (eV 0) (d_7 (aC (eC (.str "in z 1_0 20")) (aC (e2 b_7 (eC (.str "in z 0 ")) (e2 ae3 (eC (.str "9")) (eC (.int 13)))) aN)))))
 (b_6 (c_7 0 (e2 b_7 (eV 0) (d_7 (aC (eC (.str "in a 0 9")) (aC (eC (.str "in q 0 9")) (aC (eC (.str "time z a * 5")) (aC (eC (.str "time z a -1 5")) (aC (eC (.str "time z a 5 5")) aN))))))))
 (b_6 (c_7 0 (e2 b_7 (eV 0) (d_7 (aC (eC (.str "time z a 5 4")) (aC (eC (.str "time z p 0 1")) aN)))))
 (b_6 (c_7 0 (e2 b_7 (eV 0) (d_7 (aC (eC (.str "only z a")) (aC (eC (.str "only z a a b c d e f g h i")) (aC (eC (.str "only z a x x")) (aC (eC (.str "but z a X")) aN)))))))
 (b_6 (c_7 0 (e2 b_7 (eV 0) (d_7 (aC (eC (.str "but z f x")) (aC (eC (.str "span z a 4 3")) aN)))))
 (b_6 (c_7 0 (e2 b_7 (eV 0) (d_7 (aC (eC (.str "rest z a 1 0")) (aC (eC (.str "rest z a 1001 0")) (aC (eC (.str "rest z a 5 5")) (aC (eC (.str "rest z a 5 -1")) aN)))))))
 (b_6 (c_7 0 (e2 b_7 (eV 0) (d_7 (aC (eC (.str "rest z a 5")) (aC (eC (.str "rest z a * 1")) aN)))))
 (b_6 (c_7 0 (e2 b_7 (eV 0) (d_7 (aC (eC (.str "turn z a 0 1")) (aC (eC (.str "turn z a 1001 0")) (aC (eC (.str "turn z a -1001 0")) (aC (eC (.str "turn z a 1")) aN)))))))
 (b_6 (c_7 0 (e2 b_7 (eV 0) (d_7 (aC (eC (.str "turn z a * 0")) (aC (eC (.str "later z a -1")) aN)))))
 (b_6 (c_7 0 (e2 b_7 (eV 0) (d_7 (aC (eC (.str "later z a")) (aC (eC (.str "later z a *")) (aC (eC (.str "put z a x")) (aC (eC (.str "put z a x y x w")) (aC (eC (.str "put z a")) aN))))))))
 (b_6 (c_7 0 (e2 b_7 (eV 0) (d_7 (aC (eC (.str "put z a x Y")) (aC (eC (.str "pour z a")) (aC (eC (.str "pour z a a")) aN))))))
 (b_6 (c_7 0 (e2 b_7 (eV 0) (d_7 (aC (eC (.str "put z a k l m n o p q r s t")) (aC (eC (.str "pour z a p")) (aC (eC (.str "pour z a b f")) aN))))))
 (b_6 (c_7 0 (e2 b_7 (eV 0) (d_7 (aC (eC (.str "pair z a 3 sum")) (aC (eC (.str "pair z a b -1 sum")) aN)))))
 (b_6 (c_7 0 (e2 b_7 (eV 0) (d_7 (aC (eC (.str "pair z a b 3 most")) (aC (eC (.str "pair z a p 3 sum")) (aC (eC (.str "pair z a b * sum")) (aC (eC (.str "pair z a b 3")) aN)))))))
 (b_6 (c_7 0 (e2 b_7 (eV 0) (d_7 (aC (eC (.str "fixed z a 0 count")) aN))))
 (b_6 (c_7 0 (e2 b_7 (eV 0) (d_7 (aC (eC (.str "fixed z p 5 sum")) (aC (eC (.str "fixed z f 5 count")) (aC (eC (.str "fixed z q 5 count")) (aC (eC (.str "fixed z a 5")) aN)))))))
 (b_6 (c_7 0 (e2 b_7 (eV 0) (d_7 (aC (eC (.str "fixed z a 5 max")) (aC (eC (.str "fixed z a * sum")) aN)))))
 (b_6 (c_7 0 (e2 b_7 (eV 0) (d_7 (aC (eC (.str "slide z a 3 3 count")) (aC (eC (.str "slide z a 2 3 count")) (aC (eC (.str "slide z a 21 1 count")) aN))))))
 (b_6 (c_7 0 (e2 b_7 (eV 0) (d_7 (aC (eC (.str "slide z a 5 0 count")) (aC (eC (.str "slide z p 4 2 sum")) aN)))))
 (b_6 (c_7 0 (e2 b_7 (eV 0) (d_7 (aC (eC (.str "gaps z p 5 count")) (aC (eC (.str "gaps z a 0 count")) (aC (eC (.str "ever z p sum")) (aC (eC (.str "ever z a")) aN)))))))
 (b_6 (c_7 0 (e2 b_7 (eV 0) (d_7 (aC (eC (.str "ever z a 1 sum")) (aC (eC (.str "ever z g count")) aN)))))
 (b_6 (c_7 0 (e2 b_7 (eV 0) (d_7 (aC (eC (.str "ask z a")) (aC (eC (.str "ask z p")) (aC (eC (.str "ask z q")) (aC (eC (.str "ask z z")) (aC (eC (.str "ask z nobody")) (aC (eC (.str "ask z f 0 5")) aN)))))))))
 (b_6 (c_7 0 (e2 b_7 (eV 0) (d_7 (aC (eC (.str "ask z f 51 60")) (aC (eC (.str "ask z f * 5")) aN)))))
 (b_6 (c_7 0 (e2 b_7 (eV 0) (d_7 (aC (eC (.str "ask z f 5 4")) (aC (eC (.str "ask z f 5")) (aC (eC (.str "ask z f 1 2 3")) (aC (eC (.str "ask z g 1 2")) (aC (eC (.str "ask z s 1 2")) aN))))))))
 (b_6 (c_7 0 (e2 b_7 (eV 0) (d_7 (aC (eC (.str "ask z e 1 2")) (aC (eC (.str "ask z m 3 2")) (aC (eC (.str "ask")) aN))))))
 (e_1 (eV 0))))))))))))))))))))))))))))
def i_4:List D->Option D:=fnD 0 1 X_2
def b_1:List D->Option D:=atM b_9
def m_5:FS :=
 (b_6 (c_7 2 (e2 b_7 (eV 0) (eLR [] (ag6 (eC (.int 14))) tYes (e2 b_7 (e2 b_7 (e2 b_7 (eC (.str "in ")) (e2 e_0 (eC (.str "vw")) (e2 ae4 (eV 0) (eC (.int 8))))) (e2 e_0 (eC (.str "abcdefgh")) (e2 z_0 (eV 0) (eC (.int 8))))) (eC (.str " 0 1"))))))
 (b_6 (c_7 3 (eLC [] (l_2 (eV 2) (oS (eC (.int 10))) oN) tYes (e2 e_0 (e2 i_6 (eV 0) (eC (.str " "))) (eC (.int 1)))))
 (b_6 (c_7 4 (e2 z_0 (e2 ae4 (eV 1) (eC (.int 48))) (eC (.int 5))))
 (b_6 (c_7 5 (e2 b_7 (l_2 (eV 2) oN (oS (eC (.int 23)))) (d_7 (aC (e2 b_7 (eC (.str "pour z ")) (g_4 (Str.ofString " ") (l_2 (eV 3) (oS (eV 4)) (oS (e2 b_7 (eV 4) (eC (.int 8))))))) aN))))
 (b_6 (sIf (tB (e2 p_8 (eF b_1 (aC (g_4 (Str.ofString "\n") (eV 5)) aN)) (eC .non)))
 (e_1 (eC (.bl false)))
 sN)
 (b_6 (sIf (tB (e2 dNe (eF b_1 (aC (g_4 (Str.ofString "\n") (e2 b_7 (l_2 (eV 2) oN (oS (eC (.int 23)))) (d_7 (aC (e2 b_7 (eC (.str "pour z ")) (g_4 (Str.ofString " ") (l_2 (eV 3) (oS (eV 4)) (oS (e2 b_7 (eV 4) (eC (.int 9))))))) aN)))) aN)) (eC (.int 23))))
 (e_1 (eC (.bl false)))
 sN)
 (b_6 (sIf (tOr (tB (e2 p_8 (eF b_1 (aC (g_4 (Str.ofString "\n") (eV 2)) aN)) (eC .non))) (tB (e2 dNe (eF g_6 (aC (eNL b_2 (aC (g_4 (Str.ofString "\n") (eV 2)) aN)) aN)) (eC (.int 24)))))
 (e_1 (eC (.bl false)))
 sN)
 (b_6 (c_7 6 (e2 b_7 (eV 2) (l_2 (d_7 (aC (eC (.str "in y 0 1")) (aC (eC (.str "in x 0 1")) aN))) oN (oS (e2 b_7 (eC (.int 1)) (e2 z_0 (eV 1) (eC (.int 2))))))))
 (b_6 (sIf (tB (e2 dNe (eF b_1 (aC (g_4 (Str.ofString "\n") (eV 6)) aN)) (eC (.int 24))))
 (e_1 (eC (.bl false)))
 sN)
 (b_6 (c_7 7 (e2 z_0 (e2 ae4 (eV 1) (eC (.int 2))) (eC (.int 24))))
 (e_1 (e2 dEq (eF b_1 (aC (g_4 (Str.ofString "\n") (e2 b_7 (e2 b_7 (l_2 (eV 6) oN (oS (eV 7))) (d_7 (aC (eC (.str "in Y 0 1")) aN))) (l_2 (eV 6) (oS (e2 b_7 (eV 7) (eC (.int 1)))) oN))) aN)) (eV 7)))))))))))))
def f_7:List D->Option D:=fnD 2 6 m_5
abbrev m_1:FS :=
 (b_6 (c_7 6 (e2 e_0 (eV 3) (e2 z_0 (eF a_9 (aC (eV 0) (aC (e2 b_7 (eC (.int 1)) (eV 5)) aN))) (eF g_6 (aC (eV 3) aN)))))
 (b_6 (c_7 7 (e2 e_0 (eV 4) (e2 z_0 (eF a_9 (aC (eV 0) (aC (e2 b_7 (eC (.int 5)) (eV 5)) aN))) (eF g_6 (aC (eV 4) aN)))))
 (b_6 (sIf (tB (e2 dNe (eF b_1 (aC (g_4 (Str.ofString "\n") (e2 b_7 (eV 1) (d_7 (aC (eV 6) aN)))) aN)) (eF g_6 (aC (eV 1) aN))))
 (e_1 (eC (.bl false)))
 sN)
 (b_6 (sIf (tB (e2 dNe (eF c_4 (aC (eNL b_2 (aC (g_4 (Str.ofString "\n") (e2 b_7 (eV 1) (d_7 (aC (eV 7) aN)))) aN)) aN)) (g_4 (Str.ofString "\n") (e2 b_7 (eV 1) (d_7 (aC (eV 7) aN))))))
 (e_1 (eC (.bl false)))
 sN)
 (sIf (tB (e2 dNe (eF b_1 (aC (g_4 (Str.ofString "\n") (e2 b_7 (eV 1) (d_7 (aC (eV 7) (aC (eV 6) aN))))) aN)) (e2 b_7 (eF g_6 (aC (eV 1) aN)) (eC (.int 1)))))
 (e_1 (eC (.bl false)))
 sN)))))
def av0:FS :=
 (b_6 (c_7 1 (eF g_8 aN))
 (b_6 (c_7 2 (eF a_9 (aC (eV 0) (aC (eC (.int 0)) aN))))
 (b_6 (sIf (tB (e2 dEq (e2 z_0 (eV 2) (eC (.int 8))) (eC (.int 7))))
 (e_1 (eF f_7 (aC (eV 1) (aC (e2 ae4 (eV 2) (eC (.int 8))) aN))))
 sN)
 (b_6 (c_7 3 (eF i_4 aN))
 (b_6 (c_7 4 (eF g_7 aN))
 (b_6 (Z_7 (gN 5) (ag6 (eC (.int 4))) m_1)
 (e_1 (eC (.bl true)))))))))
def C_9:List D->Option D:=fnD 1 7 av0
end
end Fx
namespace Fx
open PySem PySem.Spec PyProof.Rows L2
def top (i:Nat):Stmt:=PySem.Challenge.pw_latewell_k23_rows_at_their_bounds.main.body.getD i (.Pass ⟨0,0,0,0⟩)
abbrev F_6:Stmt:=match top 2 with
 |.ClassDef _ _ _ b ..=>b.getD 0 (.Pass ⟨0,0,0,0⟩)
 |s=>s
structure Blt (w:World) (K:Frag) (mg:Str->Option Value):Prop where
 z_abs:mg "abs"=none
 z_len:mg "len"=none
 z_max:mg "max"=none
 z_min:mg "min"=none
 z_any:mg "any"=none
 z_all:mg "all"=none
 z_range:mg "range"=none
 z_isinstance:mg "isinstance"=none
 z_int:mg "int"=none
 z_bool:mg "bool"=none
 z_str:mg "str"=none
 z_tuple:mg "tuple"=none
 z_list:mg "list"=none
 z_sorted:mg "sorted"=none
 z_dict:mg "dict"=none
 z_set:mg "set"=none
 z_sum:mg "sum"=none
 z_zip:mg "zip"=none
 z_enumerate:mg "enumerate"=none
 z_reversed:mg "reversed"=none
 c_LETTERS:∃ t,mg "LETTERS"=some (.str "abcdefghijklmnopqrstuvwxyz" t)
 c_LONGEST:∃ t,mg "LONGEST"=some (.int 8 t)
 c_CHAINS:∃ a,mg "CHAINS"=some (.ref a) ∧ KV1 K (.tup [(.str "in"),(.str "time"),(.str "only"),(.str "but"),(.str "span"),(.str "rest"),(.str "turn"),(.str "later"),(.str "put"),(.str "pour")]) (.ref a)
 c_FOLDS:∃ a,mg "FOLDS"=some (.ref a) ∧ KV1 K (.tup [(.str "fixed"),(.str "slide"),(.str "gaps"),(.str "ever")]) (.ref a)
 c_FROM_PLACES:∃ a,mg "FROM_PLACES"=some (.ref a) ∧ KV1 K (.tup [(.str "FROM"),(.str "LEFT"),(.str "RIGHT")]) (.ref a)
 c_KEY_PLACES:∃ a,mg "KEY_PLACES"=some (.ref a) ∧ KV1 K (.tup [(.str "NAME"),(.str "FROM"),(.str "LEFT"),(.str "RIGHT"),(.str "KEY"),(.str "OTHER")]) (.ref a)
 c_BOUND_PLACES:∃ a,mg "BOUND_PLACES"=some (.ref a) ∧ KV1 K (.tup [(.str "LOW"),(.str "HIGH"),(.str "END")]) (.ref a)
 c_HOWS:∃ a,mg "HOWS"=some (.ref a) ∧ KV1 K (.tup [(.str "sum"),(.str "less"),(.str "left"),(.str "right")]) (.ref a)
 c_FOLD_WORDS:∃ a,mg "FOLD_WORDS"=some (.ref a) ∧ KV1 K (.tup [(.str "count"),(.str "sum"),(.str "most"),(.str "least")]) (.ref a)
 c_FIGURES:∃ t,mg "FIGURES"=some (.str "0123456789" t)
 c_MOST_FIGURES:∃ t,mg "MOST_FIGURES"=some (.int 12 t)
 c_MOST_ROWS:∃ t,mg "MOST_ROWS"=some (.int 24 t)
 c_MOST_COUNTED:∃ t,mg "MOST_COUNTED"=some (.int 50 t)
 c_FORMS:∃ a,mg "FORMS"=some (.ref a) ∧ aO6 w K a [((Str.ofString "in"),(.str "NAME LOW HIGH")),((Str.ofString "time"),(.str "NAME FROM BEGIN END")),((Str.ofString "only"),(.str "NAME FROM KEY ..")),((Str.ofString "but"),(.str "NAME FROM KEY ..")),((Str.ofString "span"),(.str "NAME FROM LOW HIGH")),((Str.ofString "rest"),(.str "NAME FROM M R")),((Str.ofString "turn"),(.str "NAME FROM A B")),((Str.ofString "later"),(.str "NAME FROM C")),((Str.ofString "put"),(.str "NAME FROM KEY OTHER ..")),((Str.ofString "pour"),(.str "NAME FROM FROM ..")),((Str.ofString "pair"),(.str "NAME LEFT RIGHT REACH HOW")),((Str.ofString "fixed"),(.str "NAME FROM WIDTH FOLD")),((Str.ofString "slide"),(.str "NAME FROM WIDTH STEP FOLD")),((Str.ofString "gaps"),(.str "NAME FROM GAP FOLD")),((Str.ofString "ever"),(.str "NAME FROM FOLD")),((Str.ofString "ask"),(.str "NAME FROM"))]
 xn:∃ c0 c2 fI fd,XIn K mg "NoText" "WellError" "at" "NoText.__init__" F_6 c0 c2 fI fd
section
variable {P:Program}{w:World}{K:Frag}{mg:Str->Option Value}{base:Heap}
abbrev j_1:Stmt:=top 6
theorem P_9:FnScope ["x"] ["x"] (a_1 j_1):=⟨rfl,rfl,rfl,by decide +kernel,rfl,by decide +kernel,by decide +kernel⟩
theorem S_0 {f:Addr}{fd:FuncData} (F:Fun K "is_key" "is_key" j_1 f fd) (bF:Binds K fd ["x"] []) (mF:mg "is_key"=some (.ref f)) (T:Blt w K mg) :DefOk P w K mg base 1 "is_key" n_8 :=
 ⟨f,fd,["x"],h_5 F P_9 rfl rfl (λ cdv A outer s H E hr =>
 (xsC (i_0 (xw (O_2 (o_1 (xtv (xty (t:=.str) T.z_isinstance T.z_str PyProof.Rows.boot_str (xv 0)) (λ _=>rfl))) (w_1 (o_1 (xt3 cLe cLe b_8 (xB c_0 rfl T.z_len PySem.boot_len (xaC (xv 0) xaN)) (ay5 T.c_LONGEST))))))
 (xs1 (f_4 xbl))
 xsN)
 (xs1 (f_4 (xB (q_0 rfl) rfl T.z_all PyProof.Rows.boot_all (xaC (xlc (sc:=a_1 j_1) rfl rfl (by show ScB ["x"] (a_1 j_1) _ "sign" [] [];exact⟨rfl,rfl,by decide +kernel,by decide +kernel,rfl,by decide +kernel,by decide +kernel,rfl,by decide +kernel⟩) (xv 0) (λ _ _ _ _=>g_2) (λ _ _ _ _=>(k_5 J_7 (xv 0) (ba1 T.c_LETTERS)))) xaN)))))),bF,F.kp,mF⟩
abbrev e_5:Stmt:=top 20
theorem sc_is_number:FnScope ["word","figures"] ["word"] (a_1 e_5):=⟨rfl,rfl,rfl,by decide +kernel,rfl,by decide +kernel,by decide +kernel⟩
theorem x_9 {f:Addr}{fd:FuncData} (F:Fun K "is_number" "is_number" e_5 f fd) (bF:Binds K fd ["word"] []) (mF:mg "is_number"=some (.ref f)) (T:Blt w K mg) :DefOk P w K mg base 1 "is_number" e_6 :=
 ⟨f,fd,["word"],h_5 F sc_is_number rfl rfl (λ cdv A outer s H E hr =>
 (xsC (d_5 1 sc_is_number.nd (xif (xtv (ak4 (xv 0) a_4) (λ _=>rfl)) (O_3 (xv 0) (xoS b_8) xoN) (xv 0)))
 (xsC (i_0 (xw (O_2 (o_1 (xt3 cLe cLe b_8 (xB c_0 rfl T.z_len PySem.boot_len (xaC (xv 1) xaN)) (ay5 T.c_MOST_FIGURES))) (w_1 (o_1 (xtv (xB (q_0 rfl) rfl T.z_all PyProof.Rows.boot_all (xaC (xlc (sc:=a_1 e_5) rfl rfl (by show ScB ["word","figures"] (a_1 e_5) _ "sign" [] [];exact⟨rfl,rfl,by decide +kernel,by decide +kernel,rfl,by decide +kernel,by decide +kernel,rfl,by decide +kernel⟩) (xv 1) (λ _ _ _ _=>g_2) (λ _ _ _ _=>(k_5 J_7 (xv 0) (ba1 T.c_FIGURES)))) xaN)) (λ _=>rfl))))))
 (xs1 (f_4 xbl))
 xsN)
 (xs1 (f_4 (xor (k_5 (cEq hr.units) (xv 0) a_4) (w_2 (k_5 (cNe hr.units) (e_4 (xv 1) b_8) a_4)))))))),bF,F.kp,mF⟩
abbrev h_0:Stmt:=top 21
theorem sc_places_of:FnScope ["word","count","form","places"] ["word","count"] (a_1 h_0):=⟨rfl,rfl,rfl,by decide +kernel,rfl,by decide +kernel,by decide +kernel⟩
theorem x_8 {f:Addr}{fd:FuncData} (F:Fun K "places_of" "places_of" h_0 f fd) (bF:Binds K fd ["word","count"] []) (mF:mg "places_of"=some (.ref f)) (T:Blt w K mg) :DefOk P w K mg base 1 "places_of" h_3 :=
 ⟨f,fd,["word","count"],h_5 F sc_places_of rfl rfl (λ cdv A outer s H E hr =>
 (xsC (d_5 2 sc_places_of.nd (xif (xw (ay1 (xt (cEq hr.units) (xv 0) a_4) (af5 (xt cGt (xv 1) b_8)))) (xb c_9 (xkd T.c_FORMS (xv 0)) a_4) (xkd T.c_FORMS (xv 0))))
 (xsC (aZ8 3 sc_places_of.nd (ak5 (xv 2) a_4))
 (xsC (i_0 (bh1 3 (xt (cEq hr.units) (e_4 (xv 3) (ay4 b_8)) a_4))
 (xsC (bh2 3)
 (xs1 (bh6 3 (aO7 (xaC (xhl 3 (e_4 (xv 3) (ay4 b_8))) xaN) (xb aU3 (xv 1) (xhl 3 (xB c_0 rfl T.z_len PySem.boot_len (xaC (xv 3) xaN))))))))
 xsN)
 (xs1 (ba2 3 (f_4 (xv 3)))))))),bF,F.kp,mF⟩
abbrev F_7:Stmt:=top 22
theorem am1:FnScope ["place","word"] ["place","word"] (a_1 F_7):=⟨rfl,rfl,rfl,by decide +kernel,rfl,by decide +kernel,by decide +kernel⟩
theorem ao6 {f:Addr}{fd:FuncData} (F:Fun K "fits" "fits" F_7 f fd) (bF:Binds K fd ["place","word"] []) (mF:mg "fits"=some (.ref f)) (T:Blt w K mg) (G_is_key:DefOk P w K mg base 1 "is_key" n_8) (G_is_number:DefOk P w K mg base 1 "is_number" e_6):DefOk P w K mg base 2 "fits" H_4 :=
 ⟨f,fd,["place","word"],h_5 F am1 rfl rfl (λ cdv A outer s H E hr =>
 (xsC (i_0 (xt J_7 (xv 0) (ak7 T.c_KEY_PLACES))
 (xs1 (f_4 (xF G_is_key (hr.mono (by decide)) (xaC (xv 1) xaN))))
 xsN)
 (xsC (i_0 (xt (cEq hr.units) (xv 0) a_4)
 (xs1 (f_4 (k_5 J_7 (xv 1) (ak7 T.c_HOWS))))
 xsN)
 (xsC (i_0 (xt (cEq hr.units) (xv 0) a_4)
 (xs1 (f_4 (k_5 J_7 (xv 1) (ak7 T.c_FOLD_WORDS))))
 xsN)
 (xs1 (f_4 (xor (xF G_is_number (hr.mono (by decide)) (xaC (xv 1) xaN)) (w_2 (Y_7 (k_5 (cEq hr.units) (xv 1) a_4) (w_2 (k_5 J_7 (xv 0) (ak7 T.c_BOUND_PLACES)))))))))))),bF,F.kp,mF⟩
abbrev f_9:Stmt:=top 23
theorem t_4:FnScope ["word"] ["word"] (a_1 f_9):=⟨rfl,rfl,rfl,by decide +kernel,rfl,by decide +kernel,by decide +kernel⟩
theorem u_1 {f:Addr}{fd:FuncData} (F:Fun K "word_value" "word_value" f_9 f fd) (bF:Binds K fd ["word"] []) (mF:mg "word_value"=some (.ref f)) (T:Blt w K mg) (G_is_number:DefOk P w K mg base 1 "is_number" e_6):DefOk P w K mg base 2 "word_value" g_1 :=
 ⟨f,fd,["word"],h_5 F t_4 rfl rfl (λ cdv A outer s H E hr =>
 (xsC (i_0 (xt (cEq hr.units) (xv 0) a_4)
 (xs1 (f_4 B_0))
 xsN)
 (xs1 (f_4 (xif (xtv (xF G_is_number (hr.mono (by decide)) (xaC (xv 0) xaN)) (λ _=>rfl)) (xTy ae9 rfl T.z_int PyProof.Rows.boot_int (xaC (xv 0) xaN)) (xv 0)))))),bF,F.kp,mF⟩
abbrev j_2:Stmt:=top 24
theorem B_2:FnScope ["low","high"] ["low","high"] (a_1 j_2):=⟨rfl,rfl,rfl,by decide +kernel,rfl,by decide +kernel,by decide +kernel⟩
theorem C_7 {f:Addr}{fd:FuncData} (F:Fun K "in_order" "in_order" j_2 f fd) (bF:Binds K fd ["low","high"] []) (mF:mg "in_order"=some (.ref f)) (T:Blt w K mg) :DefOk P w K mg base 1 "in_order" j_5 :=
 ⟨f,fd,["low","high"],h_5 F B_2 rfl rfl (λ cdv A outer s H E hr =>
 (xs1 (f_4 (xor (k_5 cIs (xv 0) B_0) (xor (k_5 cIs (xv 1) B_0) (w_2 (k_5 cLe (xv 0) (xv 1)))))))),bF,F.kp,mF⟩
abbrev g_0:Stmt:=top 25
theorem t_5:FnScope ["names"] ["names"] (a_1 g_0):=⟨rfl,rfl,rfl,by decide +kernel,rfl,by decide +kernel,by decide +kernel⟩
theorem u_3 {f:Addr}{fd:FuncData} (F:Fun K "are_unlike" "are_unlike" g_0 f fd) (bF:Binds K fd ["names"] []) (mF:mg "are_unlike"=some (.ref f)) (T:Blt w K mg) :DefOk P w K mg base 1 "are_unlike" d_9 :=
 ⟨f,fd,["names"],h_5 F t_5 rfl rfl (λ cdv A outer s H E hr =>
 (xs1 (f_4 (k_5 (cEq hr.units) (ak6 T.z_set T.z_len (xv 0)) (xB c_0 rfl T.z_len PySem.boot_len (xaC (xv 0) xaN)))))),bF,F.kp,mF⟩
abbrev e_7:Stmt:=top 26
theorem o_3:FnScope ["word","froms","rest"] ["word","froms","rest"] (a_1 e_7):=⟨rfl,rfl,rfl,by decide +kernel,rfl,by decide +kernel,by decide +kernel⟩
theorem o_8 {f:Addr}{fd:FuncData} (F:Fun K "keeps_bounds" "keeps_bounds" e_7 f fd) (bF:Binds K fd ["word","froms","rest"] []) (mF:mg "keeps_bounds"=some (.ref f)) (T:Blt w K mg) (G_are_unlike:DefOk P w K mg base 1 "are_unlike" d_9) (G_in_order:DefOk P w K mg base 1 "in_order" j_5):DefOk P w K mg base 2 "keeps_bounds" e_9 :=
 ⟨f,fd,["word","froms","rest"],h_5 F o_3 rfl rfl (λ cdv A outer s H E hr =>
 (xsC (i_0 (xt J_7 (xv 0) (aw0 (xaC a_4 (xaC a_4 (xaC a_4 xaN)))))
 (xs1 (f_4 (xor (ay3 (xv 2)) (w_2 (xF G_in_order (hr.mono (by decide)) (xaC (e_4 (xv 2) b_8) (xaC (e_4 (xv 2) b_8) xaN)))))))
 xsN)
 (xsC (i_0 (xt (cEq hr.units) (xv 0) a_4)
 (xs1 (f_4 (Y_7 (k_5 cGe (e_4 (xv 2) b_8) b_8) (w_2 (xor (k_5 cIs (e_4 (xv 2) b_8) B_0) (w_2 (k_5 cLt (e_4 (xv 2) b_8) (e_4 (xv 2) b_8))))))))
 xsN)
 (xsC (i_0 (xt J_7 (xv 0) (aw0 (xaC a_4 (xaC a_4 xaN))))
 (xs1 (f_4 (Y_7 (k_5 cLe (xB c_0 rfl T.z_len PySem.boot_len (xaC (xv 2) xaN)) b_8) (w_2 (xF G_are_unlike (hr.mono (by decide)) (xaC (xv 2) xaN))))))
 xsN)
 (xsC (i_0 (xt (cEq hr.units) (xv 0) a_4)
 (xs1 (f_4 (Y_7 (Y_6 cLe cLe b_8 (e_4 (xv 2) b_8) b_8) (w_2 (Y_6 cLe cLt b_8 (e_4 (xv 2) b_8) (e_4 (xv 2) b_8))))))
 xsN)
 (xsC (i_0 (xt (cEq hr.units) (xv 0) a_4)
 (xs1 (f_4 (Y_7 (Y_6 cLe cLe (ay4 b_8) (e_4 (xv 2) b_8) b_8) (w_2 (k_5 (cNe hr.units) (e_4 (xv 2) b_8) b_8)))))
 xsN)
 (xsC (i_0 (xt (cEq hr.units) (xv 0) a_4)
 (xs1 (f_4 (Y_7 (k_5 J_7 (xB c_0 rfl T.z_len PySem.boot_len (xaC (xv 2) xaN)) (aw0 (xaC b_8 (xaC b_8 (xaC b_8 (xaC b_8 xaN)))))) (w_2 (xF G_are_unlike (hr.mono (by decide)) (xaC (ba3 (xv 2)) xaN))))))
 xsN)
 (xsC (i_0 (xt (cEq hr.units) (xv 0) a_4)
 (xs1 (f_4 (Y_7 (k_5 cLe (xB c_0 rfl T.z_len PySem.boot_len (xaC (xv 1) xaN)) b_8) (w_2 (xF G_are_unlike (hr.mono (by decide)) (xaC (xv 1) xaN))))))
 xsN)
 (xsC (i_0 (xt J_7 (xv 0) (aw0 (xaC a_4 (xaC a_4 xaN))))
 (xs1 (f_4 (k_5 cGe (e_4 (xv 2) b_8) b_8)))
 xsN)
 (xsC (i_0 (xt (cEq hr.units) (xv 0) a_4)
 (xs1 (f_4 (aP1 cLe cLt cLe b_8 (e_4 (xv 2) b_8) (e_4 (xv 2) b_8) (xb bk7 b_8 (e_4 (xv 2) b_8)))))
 xsN)
 (xs1 (f_4 (xor (k_5 (cEq hr.units) (xv 0) a_4) (w_2 (k_5 cGe (e_4 (xv 2) b_8) b_8))))))))))))))),bF,F.kp,mF⟩
abbrev c_8:Stmt:=top 27
theorem sc_read_row:FnScope ["text","words","word","places","told","froms","rest"] ["text"] (a_1 c_8):=⟨rfl,rfl,rfl,by decide +kernel,rfl,by decide +kernel,by decide +kernel⟩
theorem C_3 {f:Addr}{fd:FuncData} (F:Fun K "read_row" "read_row" c_8 f fd) (bF:Binds K fd ["text"] []) (mF:mg "read_row"=some (.ref f)) (T:Blt w K mg) (G_fits:DefOk P w K mg base 2 "fits" H_4) (G_keeps_bounds:DefOk P w K mg base 2 "keeps_bounds" e_9) (G_places_of:DefOk P w K mg base 1 "places_of" h_3) (G_word_value:DefOk P w K mg base 2 "word_value" g_1):DefOk P w K mg base 3 "read_row" c_3 :=
 ⟨f,fd,["text"],h_5 F sc_read_row rfl rfl (λ cdv A outer s H E hr =>
 (xsC (d_5 1 sc_read_row.nd (E_8 (xv 0) a_4))
 (xsC (d_5 2 sc_read_row.nd (e_4 (xv 1) b_8))
 (xsC (i_0 (ay2 T.c_FORMS (xv 2))
 (xs1 (f_4 B_0))
 xsN)
 (xsC (d_5 3 sc_read_row.nd (xF G_places_of (hr.mono (by decide)) (xaC (xv 2) (xaC (xb aU3 (xB c_0 rfl T.z_len PySem.boot_len (xaC (xv 1) xaN)) b_8) xaN))))
 (xsC (d_5 4 sc_read_row.nd (Y_5 T.z_list T.z_zip rfl (xv 3) (O_3 (xv 1) (xoS b_8) xoN)))
 (xsC (i_0 (xw (O_2 (xt (cNe hr.units) (xB c_0 rfl T.z_len PySem.boot_len (xaC (xv 3) xaN)) (xb aU3 (xB c_0 rfl T.z_len PySem.boot_len (xaC (xv 1) xaN)) b_8)) (w_1 (o_1 (xtv (xB (q_0 rfl) rfl T.z_all PyProof.Rows.boot_all (xaC (aZ9 (sc:=a_1 c_8) rfl rfl (by show ScB2 ["text","words","word","places","told","froms","rest"] (a_1 c_8) _ "place" "told_word" [] [];exact⟨⟨rfl,rfl,by decide +kernel,by decide +kernel,rfl,by decide +kernel,by decide +kernel,rfl,by decide +kernel⟩,rfl,by decide +kernel⟩) (xv 4) (λ _ _ _ _=>g_2) (λ _ _ _ _=>(xF G_fits (hr.mono (by decide)) (xaC (xv 0) (xaC (xv 1) xaN))))) xaN)) (λ _=>rfl))))))
 (xs1 (f_4 B_0))
 xsN)
 (xsC (d_5 5 sc_read_row.nd (xTy z_6 rfl T.z_tuple PyProof.Rows.boot_tuple (xaC (aZ9 (sc:=a_1 c_8) rfl rfl (by show ScB2 ["text","words","word","places","told","froms","rest"] (a_1 c_8) _ "place" "told_word" [] [];exact⟨⟨rfl,rfl,by decide +kernel,by decide +kernel,rfl,by decide +kernel,by decide +kernel,rfl,by decide +kernel⟩,rfl,by decide +kernel⟩) (xv 4) (λ _ _ _ _=>(ak3 (xt J_7 (xv 0) (ak7 T.c_FROM_PLACES)))) (λ _ _ _ _=>(xv 1))) xaN)))
 (xsC (d_5 6 sc_read_row.nd (xTy z_6 rfl T.z_tuple PyProof.Rows.boot_tuple (xaC (xlc (sc:=a_1 c_8) rfl rfl (by show ScB ["text","words","word","places","told","froms","rest"] (a_1 c_8) _ "told_word" [] [];exact⟨rfl,rfl,by decide +kernel,by decide +kernel,rfl,by decide +kernel,by decide +kernel,rfl,by decide +kernel⟩) (O_3 (xv 1) (xoS (xb c_9 b_8 (xB c_0 rfl T.z_len PySem.boot_len (xaC (xv 5) xaN)))) xoN) (λ _ _ _ _=>g_2) (λ _ _ _ _=>(xF G_word_value (hr.mono (by decide)) (xaC (xv 0) xaN)))) xaN)))
 (xsC (i_0 (o_1 (xtv (xF G_keeps_bounds (hr.mono (by decide)) (xaC (xv 2) (xaC (xv 5) (xaC (xv 6) xaN)))) (λ _=>rfl)))
 (xs1 (f_4 B_0))
 xsN)
 (xsC (i_0 (xt (cEq hr.units) (xv 2) a_4)
 (xs1 (d_5 6 sc_read_row.nd (ak2 T.z_tuple T.z_zip rfl (ba3 (xv 6)) (bh7 (xv 6)))))
 xsN)
 (xs1 (f_4 (aw0 (xaC (xv 2) (xaC (e_4 (xv 1) b_8) (xaC (xv 5) (xaC (xv 6) xaN)))))))))))))))))),bF,F.kp,mF⟩
abbrev e_8:Stmt:=top 28
theorem sc_bears_bounds:FnScope ["fold","above","low","fold_word"] ["fold","above","low"] (a_1 e_8):=⟨rfl,rfl,rfl,by decide +kernel,rfl,by decide +kernel,by decide +kernel⟩
theorem o_9 {f:Addr}{fd:FuncData} (F:Fun K "bears_bounds" "bears_bounds" e_8 f fd) (bF:Binds K fd ["fold","above","low"] []) (mF:mg "bears_bounds"=some (.ref f)) (T:Blt w K mg) :DefOk P w K mg base 1 "bears_bounds" f_0 :=
 ⟨f,fd,["fold","above","low"],h_5 F sc_bears_bounds rfl rfl (λ cdv A outer s H E hr =>
 (xsC (d_5 3 sc_bears_bounds.nd (e_4 (e_4 (xv 0) b_8) (ay4 b_8)))
 (xsC (i_0 (xw (O_2 (xt (cEq hr.units) (e_4 (xv 0) b_8) a_4) (O_2 (xt (cEq hr.units) (xv 3) a_4) (w_1 (xt (cEq hr.units) (e_4 (xdx (M_3 hr) (xv 1) (e_4 (e_4 (xv 0) b_8) b_8)) b_8) a_4)))))
 (xs1 (f_4 xbl))
 xsN)
 (xs1 (f_4 (xor (k_5 (cNe hr.units) (xv 3) a_4) (w_2 (Y_7 (k_5 J_6 (xv 2) B_0) (w_2 (Y_6 cLe cLe b_8 (xv 2) (ay5 T.c_MOST_COUNTED))))))))))),bF,F.kp,mF⟩
abbrev b_0:Stmt:=top 29
theorem sc_stands_right:FnScope ["row","above","from_rows"] ["row","above"] (a_1 b_0):=⟨rfl,rfl,rfl,by decide +kernel,rfl,by decide +kernel,by decide +kernel⟩
theorem o_7 {f:Addr}{fd:FuncData} (F:Fun K "stands_right" "stands_right" b_0 f fd) (bF:Binds K fd ["row","above"] []) (mF:mg "stands_right"=some (.ref f)) (T:Blt w K mg) (G_bears_bounds:DefOk P w K mg base 1 "bears_bounds" f_0):DefOk P w K mg base 2 "stands_right" b_5 :=
 ⟨f,fd,["row","above"],h_5 F sc_stands_right rfl rfl (λ cdv A outer s H E hr =>
 (xsC (i_0 (xw (O_2 (xt (bg5 (M_3 hr)) (e_4 (xv 0) b_8) (xv 1)) (w_1 (o_1 (xtv (xB (q_0 rfl) rfl T.z_all PyProof.Rows.boot_all (xaC (xlc (sc:=a_1 b_0) rfl rfl (by show ScB ["row","above","from_rows"] (a_1 b_0) _ "name" ["above"] [1];exact⟨rfl,rfl,by decide +kernel,by decide +kernel,rfl,by decide +kernel,by decide +kernel,rfl,by decide +kernel⟩) (e_4 (xv 0) b_8) (λ _ _ _ _=>g_2) (λ _ _ _ _=>(k_5 (bg5 (M_3 hr)) (xv 0) (xv 1)))) xaN)) (λ _=>rfl))))))
 (xs1 (f_4 xbl))
 xsN)
 (xsC (af7 2 sc_stands_right.nd (sc:=a_1 b_0) rfl rfl (by show ScB ["row","above","from_rows"] (a_1 b_0) _ "name" ["above"] [1];exact⟨rfl,rfl,by decide +kernel,by decide +kernel,rfl,by decide +kernel,by decide +kernel,rfl,by decide +kernel⟩) (e_4 (xv 0) b_8) (λ _ _ _ _=>g_2) (λ _ _ _ _=>(xdx (M_3 hr) (xv 1) (xv 0))))
 (xsC (i_0 (xt (cEq hr.units) (e_4 (xv 0) b_8) a_4)
 (xs1 (f_4 (Y_7 (k_5 J_7 (e_4 (e_4 (xv 2) b_8) b_8) (ak7 T.c_FOLDS)) (w_2 (xor (ay3 (e_4 (xv 0) b_8)) (w_2 (xF G_bears_bounds (hr.mono (by decide)) (xaC (e_4 (xv 2) b_8) (xaC (xv 1) (xaC (e_4 (e_4 (xv 0) b_8) b_8) xaN))))))))))
 xsN)
 (xsC (i_0 (xw (ay1 (xt J_7 (e_4 (xv 0) b_8) (aw0 (xaC a_4 (xaC a_4 (xaC a_4 xaN))))) (af5 (xt (cEq hr.units) (e_4 (e_4 (xv 2) b_8) b_8) a_4))))
 (xs1 (f_4 (k_5 (cNe hr.units) (e_4 (e_4 (xv 0) b_8) (ay4 b_8)) a_4)))
 xsN)
 (xs1 (f_4 (xB (q_0 rfl) rfl T.z_all PyProof.Rows.boot_all (xaC (xlc (sc:=a_1 b_0) rfl rfl (by show ScB ["row","above","from_rows"] (a_1 b_0) _ "from_row" [] [];exact⟨rfl,rfl,by decide +kernel,by decide +kernel,rfl,by decide +kernel,by decide +kernel,rfl,by decide +kernel⟩) (xv 2) (λ _ _ _ _=>g_2) (λ _ _ _ _=>(k_5 J_7 (e_4 (xv 0) b_8) (ak7 T.c_CHAINS)))) xaN))))))))),bF,F.kp,mF⟩
abbrev f_3:Stmt:=top 30
theorem sc_read_works:FnScope ["text","above","number","row_text","row"] ["text"] (a_1 f_3):=⟨rfl,rfl,rfl,by decide +kernel,rfl,by decide +kernel,by decide +kernel⟩
theorem u_2 {f:Addr}{fd:FuncData} (F:Fun K "read_works" "read_works" f_3 f fd) (bF:Binds K fd ["text"] []) (mF:mg "read_works"=some (.ref f)) (T:Blt w K mg) (G_read_row:DefOk P w K mg base 3 "read_row" c_3) (G_stands_right:DefOk P w K mg base 2 "stands_right" b_5):DefN P w K mg base 4 "read_works" b_2 :=
 ⟨f,fd,["text"],aH3 F sc_read_works rfl rfl (λ cdv A outer s H E hr =>
 (xnC (xnS (i_0 (o_1 (xtv (xty (t:=.str) T.z_isinstance T.z_str PyProof.Rows.boot_str (xv 0)) (λ _=>rfl)))
 (xs1 aZ7)
 xsN))
 (xnC (xnS (xdn 1 sc_read_works.nd))
 (xnC (xnS (aO9 T.z_enumerate (xgT (aL1 (xgN 2 sc_read_works.nd) (aL1 (xgN 3 sc_read_works.nd) ba0))) (E_8 (xv 0) a_4)
 (xsC (d_5 4 sc_read_works.nd (xF G_read_row (hr.mono (by decide)) (xaC (xv 3) xaN)))
 (xsC (i_0 (af6 1 (xw (O_2 (xt cGe (xv 2) (ay5 T.c_MOST_ROWS)) (O_2 (xt cIs (xv 4) B_0) (w_1 (o_1 (xtv (xF G_stands_right (hr.mono (by decide)) (xaC (xv 4) (xaC (xv 1) xaN))) (λ _=>rfl))))))))
 (xs1 aZ7)
 xsN)
 (xs1 (xdk 1 (M_3 hr) (e_4 (xv 4) b_8) (xv 4)))))))
 (xnL (bh3 (af8 1 rfl T.z_list))))))),bF,F.kp,mF⟩
theorem am0:FnScope ["self","at"] ["self","at"] (a_1 F_6):=⟨rfl,rfl,rfl,by decide +kernel,rfl,by decide +kernel,by decide +kernel⟩
theorem q_7 {f:Addr}{fd:FuncData} (F:Fun K "read_works" "read_works" f_3 f fd) (bF:Binds K fd ["text"] []) (mF:mg "read_works"=some (.ref f)) (T:Blt w K mg) (G_read_row:DefOk P w K mg base 3 "read_row" c_3) (G_stands_right:DefOk P w K mg base 2 "stands_right" b_5):DefX P w K mg base 4 "read_works" b_9:=by
 obtain⟨c0,c2,fI,fdI,Z⟩:=T.xn;have I:=aq8 (CX:=CXE P w) (P:=P) (w:=w) (mg:=mg) (base:=base) (f:="at") Z.fn am0 (by decide) rfl (λ _ _ _ _ _ _=>rfl) (by decide) (by decide)
 exact⟨f,fd,["text"],aH1 F sc_read_works rfl rfl (λ cdv A outer s H E hr =>
 (xxC (aZ6 (o_1 (xtv (xty (t:=.str) T.z_isinstance T.z_str PyProof.Rows.boot_str (xv 0)) (λ _=>rfl)))
 (xx1 (E_7 w_9 Z.m0 Z.x0 Z.s1 I (hr.mono (by decide)) Z.b0 b_8))
 (aZ5 xsN))
 (xxC (xxs (xdn 1 sc_read_works.nd))
 (xxC (ay0 aT4 T.z_enumerate (xgT (aL1 (xgN 2 sc_read_works.nd) (aL1 (xgN 3 sc_read_works.nd) ba0))) (E_8 (xv 0) a_4)
 (xxC (xxs (d_5 4 sc_read_works.nd (xF G_read_row (hr.mono (by decide)) (xaC (xv 3) xaN))))
 (xxC (aZ6 (af6 1 (xw (O_2 (xt cGe (xv 2) (ay5 T.c_MOST_ROWS)) (O_2 (xt cIs (xv 4) B_0) (w_1 (o_1 (xtv (xF G_stands_right (hr.mono (by decide)) (xaC (xv 4) (xaC (xv 1) xaN))) (λ _=>rfl))))))))
 (xx1 (E_7 w_9 Z.m0 Z.x0 Z.s1 I (hr.mono (by decide)) Z.b0 (xv 2)))
 (aZ5 xsN))
 (xx1 (xxs (xdk 1 (M_3 hr) (e_4 (xv 4) b_8) (xv 4)))))))
 (xx1 (xxs (f_4 (xfr (af8 1 rfl T.z_list))))))))),bF,F.kp,mF⟩
abbrev g_9:Stmt:=top 31
theorem sc_shown_row:FnScope ["row","words","value"] ["row"] (a_1 g_9):=⟨rfl,rfl,rfl,by decide +kernel,rfl,by decide +kernel,by decide +kernel⟩
theorem x_7 {f:Addr}{fd:FuncData} (F:Fun K "shown_row" "shown_row" g_9 f fd) (bF:Binds K fd ["row"] []) (mF:mg "shown_row"=some (.ref f)) (T:Blt w K mg) :DefOk P w K mg base 1 "shown_row" c_5 :=
 ⟨f,fd,["row"],h_5 F sc_shown_row rfl rfl (λ cdv A outer s H E hr =>
 (xsC (aZ8 1 sc_shown_row.nd (aO8 (f_2 (xaC (e_4 (xv 0) b_8) (xaC (e_4 (xv 0) b_8) xaN))) (xTy ae8 rfl T.z_list PyProof.Rows.boot_list (xaC (e_4 (xv 0) b_8) xaN))))
 (xsC (bh5 (xgN 2 sc_shown_row.nd) (e_4 (xv 0) b_8)
 (xs1 (i_0 (xtv (xty (t:=.tuple) T.z_isinstance T.z_tuple PyProof.Rows.boot_tuple (xv 2)) (λ _=>rfl))
 (xs1 (aP0 1 (xv 2)))
 (xs1 (bh8 1 (xaC (xif (xt cIs (xv 2) B_0) a_4 (xTy au7 rfl T.z_str PyProof.Rows.boot_str (xaC (xv 2) xaN))) xaN))))))
 (xs1 (ba2 1 (f_4 (k_7 (xv 1)))))))),bF,F.kp,mF⟩
abbrev d_0:Stmt:=top 32
theorem q_2:FnScope ["works"] ["works"] (a_1 d_0):=⟨rfl,rfl,rfl,by decide +kernel,rfl,by decide +kernel,by decide +kernel⟩
theorem q_5 {f:Addr}{fd:FuncData} (F:Fun K "shown_works" "shown_works" d_0 f fd) (bF:Binds K fd ["works"] []) (mF:mg "shown_works"=some (.ref f)) (T:Blt w K mg) (G_shown_row:DefOk P w K mg base 1 "shown_row" c_5):DefOk P w K mg base 2 "shown_works" c_4 :=
 ⟨f,fd,["works"],h_5 F q_2 rfl rfl (λ cdv A outer s H E hr =>
 (xs1 (f_4 (k_7 (xlc (sc:=a_1 d_0) rfl rfl (by show ScB ["works"] (a_1 d_0) _ "row" [] [];exact⟨rfl,rfl,by decide +kernel,by decide +kernel,rfl,by decide +kernel,by decide +kernel,rfl,by decide +kernel⟩) (xv 0) (λ _ _ _ _=>g_2) (λ _ _ _ _=>(xF G_shown_row (hr.mono (by decide)) (xaC (xv 0) xaN)))))))),bF,F.kp,mF⟩
abbrev f_5:Stmt:=top 34
theorem q_3:FnScope ["_law_script","_law_k"] ["_law_script","_law_k"] (a_1 f_5):=⟨rfl,rfl,rfl,by decide +kernel,rfl,by decide +kernel,by decide +kernel⟩
theorem q_6 {f:Addr}{fd:FuncData} (F:Fun K "_law_cell_at" "_law_cell_at" f_5 f fd) (bF:Binds K fd ["_law_script","_law_k"] []) (mF:mg "_law_cell_at"=some (.ref f)) (T:Blt w K mg) :DefOk P w K mg base 1 "_law_cell_at" a_9 :=
 ⟨f,fd,["_law_script","_law_k"],h_5 F q_3 rfl rfl (λ cdv A outer s H E hr =>
 (xsC (i_0 (xt cLt (xv 1) (xB c_0 rfl T.z_len PySem.boot_len (xaC (xv 0) xaN)))
 (xs1 (f_4 (e_4 (xv 0) (xv 1))))
 xsN)
 (xs1 (f_4 b_8)))),bF,F.kp,mF⟩
abbrev i_9:Stmt:=top 35
theorem sc_law_base:FnScope ["_law_rows"] [] (a_1 i_9):=⟨rfl,rfl,rfl,by decide +kernel,rfl,by decide +kernel,by decide +kernel⟩
theorem C_6 {f:Addr}{fd:FuncData} (F:Fun K "_law_base" "_law_base" i_9 f fd) (bF:Binds K fd [] []) (mF:mg "_law_base"=some (.ref f)) (T:Blt w K mg) :DefOk P w K mg base 1 "_law_base" g_8 :=
 ⟨f,fd,[],h_5 F sc_law_base rfl rfl (λ cdv A outer s H E hr =>
 (xsC (d_5 0 sc_law_base.nd (f_2 (xaC a_4 (xaC a_4 (xaC a_4 (xaC a_4 xaN))))))
 (xsC (d_5 0 sc_law_base.nd (xb c_9 (xv 0) (f_2 (xaC a_4 (xaC a_4 xaN)))))
 (xs1 (f_4 (xb c_9 (xv 0) (f_2 (xaC a_4 (xaC a_4 (xaC a_4 (xaC a_4 xaN))))))))))),bF,F.kp,mF⟩
abbrev i_8:Stmt:=top 36
theorem sc_law_good:FnScope ["_law_big","_law_some"] [] (a_1 i_8):=⟨rfl,rfl,rfl,by decide +kernel,rfl,by decide +kernel,by decide +kernel⟩
theorem C_5 {f:Addr}{fd:FuncData} (F:Fun K "_law_good" "_law_good" i_8 f fd) (bF:Binds K fd [] []) (mF:mg "_law_good"=some (.ref f)) (T:Blt w K mg) :DefOk P w K mg base 1 "_law_good" g_7 :=
 ⟨f,fd,[],h_5 F sc_law_good rfl rfl (λ cdv A outer s H E hr =>
 (xsC (d_5 0 sc_law_good.nd (xb aE9 a_4 b_8))
 (xsC (d_5 1 sc_law_good.nd (f_2 (xaC a_4 (xaC (xb c_9 (xb c_9 (xb c_9 a_4 (xv 0)) a_4) (xv 0)) (xaC a_4 (xaC a_4 xaN))))))
 (xsC (d_5 1 sc_law_good.nd (xb c_9 (xv 1) (f_2 (xaC a_4 (xaC a_4 xaN)))))
 (xsC (d_5 1 sc_law_good.nd (xb c_9 (xv 1) (f_2 (xaC a_4 (xaC a_4 (xaC a_4 (xaC a_4 xaN)))))))
 (xsC (d_5 1 sc_law_good.nd (xb c_9 (xv 1) (f_2 (xaC a_4 xaN))))
 (xsC (d_5 1 sc_law_good.nd (xb c_9 (xv 1) (f_2 (xaC a_4 (xaC (xb c_9 a_4 (xv 0)) (xaC a_4 (xaC a_4 xaN)))))))
 (xsC (d_5 1 sc_law_good.nd (xb c_9 (xv 1) (f_2 (xaC (xb c_9 a_4 (xv 0)) xaN))))
 (xsC (d_5 1 sc_law_good.nd (xb c_9 (xv 1) (f_2 (xaC a_4 (xaC a_4 (xaC a_4 (xaC a_4 xaN)))))))
 (xsC (d_5 1 sc_law_good.nd (xb c_9 (xv 1) (f_2 (xaC (xb c_9 (xb c_9 a_4 (xv 0)) a_4) xaN))))
 (xsC (d_5 1 sc_law_good.nd (xb c_9 (xv 1) (f_2 (xaC a_4 (xaC a_4 (xaC a_4 xaN))))))
 (xsC (d_5 1 sc_law_good.nd (xb c_9 (xv 1) (f_2 (xaC a_4 (xaC a_4 xaN)))))
 (xsC (d_5 1 sc_law_good.nd (xb c_9 (xv 1) (f_2 (xaC a_4 (xaC a_4 (xaC a_4 (xaC a_4 xaN)))))))
 (xsC (d_5 1 sc_law_good.nd (xb c_9 (xv 1) (f_2 (xaC a_4 (xaC (xb c_9 a_4 (xv 0)) xaN)))))
 (xsC (d_5 1 sc_law_good.nd (xb c_9 (xv 1) (f_2 (xaC a_4 (xaC a_4 (xaC a_4 (xaC a_4 (xaC a_4 xaN))))))))
 (xs1 (f_4 (xb c_9 (xv 1) (f_2 (xaC a_4 (xaC a_4 xaN))))))))))))))))))))),bF,F.kp,mF⟩
abbrev k_8:Stmt:=top 37
theorem sc_law_bad:FnScope ["_law_some"] [] (a_1 k_8):=⟨rfl,rfl,rfl,by decide +kernel,rfl,by decide +kernel,by decide +kernel⟩
theorem L_3 {f:Addr}{fd:FuncData} (F:Fun K "_law_bad" "_law_bad" k_8 f fd) (bF:Binds K fd [] []) (mF:mg "_law_bad"=some (.ref f)) (T:Blt w K mg) :DefOk P w K mg base 1 "_law_bad" i_4 :=
 ⟨f,fd,[],h_5 F sc_law_bad rfl rfl (λ cdv A outer s H E hr =>
 (xsC (d_5 0 sc_law_bad.nd (f_2 (xaC a_4 (xaC a_4 (xaC a_4 (xaC a_4 (xaC a_4 (xaC a_4 xaN))))))))
 (xsC (d_5 0 sc_law_bad.nd (xb c_9 (xv 0) (f_2 (xaC a_4 (xaC (xb c_9 a_4 (xb aE9 a_4 b_8)) xaN)))))
 (xsC (d_5 0 sc_law_bad.nd (xb c_9 (xv 0) (f_2 (xaC a_4 (xaC a_4 (xaC a_4 (xaC a_4 (xaC a_4 xaN))))))))
 (xsC (d_5 0 sc_law_bad.nd (xb c_9 (xv 0) (f_2 (xaC a_4 (xaC a_4 xaN)))))
 (xsC (d_5 0 sc_law_bad.nd (xb c_9 (xv 0) (f_2 (xaC a_4 (xaC a_4 (xaC a_4 (xaC a_4 xaN)))))))
 (xsC (d_5 0 sc_law_bad.nd (xb c_9 (xv 0) (f_2 (xaC a_4 (xaC a_4 xaN)))))
 (xsC (d_5 0 sc_law_bad.nd (xb c_9 (xv 0) (f_2 (xaC a_4 (xaC a_4 (xaC a_4 (xaC a_4 xaN)))))))
 (xsC (d_5 0 sc_law_bad.nd (xb c_9 (xv 0) (f_2 (xaC a_4 (xaC a_4 xaN)))))
 (xsC (d_5 0 sc_law_bad.nd (xb c_9 (xv 0) (f_2 (xaC a_4 (xaC a_4 (xaC a_4 (xaC a_4 xaN)))))))
 (xsC (d_5 0 sc_law_bad.nd (xb c_9 (xv 0) (f_2 (xaC a_4 (xaC a_4 xaN)))))
 (xsC (d_5 0 sc_law_bad.nd (xb c_9 (xv 0) (f_2 (xaC a_4 (xaC a_4 (xaC a_4 (xaC a_4 (xaC a_4 xaN))))))))
 (xsC (d_5 0 sc_law_bad.nd (xb c_9 (xv 0) (f_2 (xaC a_4 (xaC a_4 (xaC a_4 xaN))))))
 (xsC (d_5 0 sc_law_bad.nd (xb c_9 (xv 0) (f_2 (xaC a_4 (xaC a_4 (xaC a_4 xaN))))))
 (xsC (d_5 0 sc_law_bad.nd (xb c_9 (xv 0) (f_2 (xaC a_4 (xaC a_4 xaN)))))
 (xsC (d_5 0 sc_law_bad.nd (xb c_9 (xv 0) (f_2 (xaC a_4 (xaC a_4 (xaC a_4 (xaC a_4 xaN)))))))
 (xsC (d_5 0 sc_law_bad.nd (xb c_9 (xv 0) (f_2 (xaC a_4 xaN))))
 (xsC (d_5 0 sc_law_bad.nd (xb c_9 (xv 0) (f_2 (xaC a_4 (xaC a_4 (xaC a_4 (xaC a_4 xaN)))))))
 (xsC (d_5 0 sc_law_bad.nd (xb c_9 (xv 0) (f_2 (xaC a_4 (xaC a_4 xaN)))))
 (xsC (d_5 0 sc_law_bad.nd (xb c_9 (xv 0) (f_2 (xaC a_4 (xaC a_4 (xaC a_4 xaN))))))
 (xsC (d_5 0 sc_law_bad.nd (xb c_9 (xv 0) (f_2 (xaC a_4 (xaC a_4 xaN)))))
 (xsC (d_5 0 sc_law_bad.nd (xb c_9 (xv 0) (f_2 (xaC a_4 (xaC a_4 (xaC a_4 (xaC a_4 xaN)))))))
 (xsC (d_5 0 sc_law_bad.nd (xb c_9 (xv 0) (f_2 (xaC a_4 (xaC a_4 xaN)))))
 (xsC (d_5 0 sc_law_bad.nd (xb c_9 (xv 0) (f_2 (xaC a_4 (xaC a_4 (xaC a_4 (xaC a_4 (xaC a_4 (xaC a_4 xaN)))))))))
 (xsC (d_5 0 sc_law_bad.nd (xb c_9 (xv 0) (f_2 (xaC a_4 (xaC a_4 xaN)))))
 (xsC (d_5 0 sc_law_bad.nd (xb c_9 (xv 0) (f_2 (xaC a_4 (xaC a_4 (xaC a_4 (xaC a_4 (xaC a_4 xaN))))))))
 (xsC (d_5 0 sc_law_bad.nd (xb c_9 (xv 0) (f_2 (xaC a_4 (xaC a_4 (xaC a_4 xaN))))))
 (xs1 (f_4 (xv 0)))))))))))))))))))))))))))))),bF,F.kp,mF⟩
abbrev j_0:Stmt:=top 38
theorem sc_law_at:FnScope ["_law_text","_law_error","e"] ["_law_text"] (a_1 j_0):=⟨rfl,rfl,rfl,by decide +kernel,rfl,by decide +kernel,by decide +kernel⟩
theorem R_9 {f:Addr}{fd:FuncData} (F:Fun K "_law_at" "_law_at" j_0 f fd) (bF:Binds K fd ["_law_text"] []) (mF:mg "_law_at"=some (.ref f)) (T:Blt w K mg) (GX:DefX P w K mg base 4 "read_works" b_9):DefOk P w K mg base 5 "_law_at" b_1:=by
 obtain⟨c0,c2,fI,fdI,Z⟩:=T.xn;refine⟨f,fd,["_law_text"],F.ok sc_law_at (λ vs H Q E h=>?_) (λ cdv A outer s H vs Q E hr h=>?_),bF,F.kp,mF⟩
 ·obtain⟨Hi,ds,d,_,r,e,_⟩:=h
  rw[<- r.length];exact (X_3 e).1
 ·obtain⟨Hi,ds,d,hs,r,e,q⟩:=h
  obtain⟨hl,z,h1,h2⟩:=X_3 e;have tail:∀ (dx:Addr) (n:Int) (σ:L2.St) (H1:Hp) (Dn:Ends),σ.length=3 → H1 dx=some (.xd [("at",.int n)]) → Dn.rt (.int n) H1 →
    aZ2 (w_0 CX0 P w K mg base ["_law_text","_law_error","e"] "_law_at" (a_1 j_0) f cdv A outer s H E).nox 1 2 ((e_3 j_0).drop 2) Dn σ c0 (some dx) H1:=by
   intro dx n σ H1 Dn hσ hx fin a us
   have h3:(((σ.set 2 (some (V.ref a))).set 1 (some (.ref a))).set 2 none)[1]?=some (some (.ref a)):=by
    rw[List.getElem?_set_ne (by decide),List.getElem?_set_self (by rw[List.length_set,hσ];decide)]
   refine⟨_,j_3 (aa6 (ah0 (k_9 (ae5 (v:=.ref c0) Z.k0 (λ w r=>r) Z.t0) rfl T.z_isinstance rfl (e_2 (pv 1) (e_2 (ah6 Z.m0) i_1)))) (m_0 (Q_3 (aT3 Z.k0 Z.s1 (pv 1) rfl))) B_8) x_1,?_⟩
   exact⟨.ref a,h3,rfl,⟨_,hx⟩,true,rfl,bl8 ⟨.ref a,h3,rfl,n,hx,fin⟩⟩
  have R0:=(RS.start (n:=3) (m:=2) hs r (by rw[<- r.length,hl])).set 1 (d:=.non) (v:=.non) (by unfold Rep;rfl)
  obtain⟨d0,rfl⟩:∃ d0,ds=[d0]:=by
   match ds,hl with
   |[x],_=>exact⟨x,rfl⟩
  refine⟨_,j_3 (x_2 sc_law_at.nd (i:=1) rfl (.inl rfl) ah4) (an1 (OK:=λ y=>y="NoText") (ie:=1) (ik:=2) (λ _ _ z=>z) GX hr (xaC (xv 0) xaN) rfl rfl sc_law_at.nd rfl rfl rfl rfl rfl Z.m2 (λ y C m hy=>?_)
   (j_3 (aa6 (ah0 (k_9 (ae6 Z.n0) rfl T.z_isinstance rfl (e_2 (pv 1) (e_2 (ah6 Z.m0) i_1)))) x_1 B_8)
    (xs1 (f_4 (e_4 (f_2 (xaC B_0 (xaC a_4 xaN))) (xTy au8 rfl T.z_int PyProof.Rows.boot_int (xaC (k_5 J_6 (xv 1) B_0) xaN))))))),⟨Hi,H,[]⟩,Hi,_,[d0],_,z,R0,rfl,h1,?_⟩
  ·subst hy
   obtain rfl:c0=C:=Value.ref.inj (qh (Z.m0.symm.trans m));exact Z.e0
  ·cases z with
   |inl x =>
    obtain rfl:D.non=d:=qh h2;intro H0' H' _ R';obtain⟨v,hv,rv⟩:=R'.im 1 .non rfl;obtain rfl:v=.non:=by unfold Rep at rv;exact rv
    refine⟨.non,hv,rfl,false,rfl,bl9 ⟨_,H0',[.im d0,.im .non,.no],.rt .non [.im d0,.im .non,.no],R',by kernel_rfl,λ v σ2 H2 Hh2 s2 R2 rv=>q v H2 Hh2 R2.step rv⟩⟩
   |inr y =>
    obtain⟨n,rfl,rfl⟩:=av6 h2
    have len:((vs.map some++List.replicate (3-vs.length) none:L2.St).set 1 (some .non)).length=3:=by
     rw[List.length_set,List.length_append,List.length_map,List.length_replicate,<- r.length];rfl
    refine⟨rfl,λ C dd H0' H' m _ R' xd=>?_⟩
    obtain rfl:c0=C:=Value.ref.inj (qh (Z.m0.symm.trans m));cases dd with
    |none=>exact xd.elim
    |some dx =>
     obtain⟨v,rv,hx⟩:=xd;obtain rfl:v=.int n:=by unfold Rep at rv;exact rv
     exact tail dx n _ H' _ len hx (q _ H0' H' R'.step (by unfold Rep;rfl))
abbrev d_8:Stmt:=top 39
theorem sc_law_many:FnScope ["_law_rows","_law_cell","_law_whole","_law_names","_law_start","_law_poured","_law_more","_law_at_here"] ["_law_rows","_law_cell"] (a_1 d_8):=⟨rfl,rfl,rfl,by decide +kernel,rfl,by decide +kernel,by decide +kernel⟩
theorem C_4 {f:Addr}{fd:FuncData} (F:Fun K "_law_many" "_law_many" d_8 f fd) (bF:Binds K fd ["_law_rows","_law_cell"] []) (mF:mg "_law_many"=some (.ref f)) (T:Blt w K mg) (G_law_at:DefOk P w K mg base 5 "_law_at" b_1) (G_read_works:DefN P w K mg base 4 "read_works" b_2):DefOk P w K mg base 6 "_law_many" f_7 :=
 ⟨f,fd,["_law_rows","_law_cell"],h_5 F sc_law_many rfl rfl (λ cdv A outer s H E hr =>
 (xsC (d_5 2 sc_law_many.nd (xb c_9 (xv 0) (bh4 T.z_range (sc:=a_1 d_8) rfl rfl (by show ScB ["_law_rows","_law_cell","_law_whole","_law_names","_law_start","_law_poured","_law_more","_law_at_here"] (a_1 d_8) _ "_law_k" [] [];exact⟨rfl,rfl,by decide +kernel,by decide +kernel,rfl,by decide +kernel,by decide +kernel,rfl,by decide +kernel⟩) b_8 (λ _ _ _ _=>g_2) (λ _ _ _ _=>(xb c_9 (xb c_9 (xb c_9 a_4 (e_4 a_4 (xb aM9 (xv 0) b_8))) (e_4 a_4 (xb ao9 (xv 0) b_8))) a_4)))))
 (xsC (af7 3 sc_law_many.nd (sc:=a_1 d_8) rfl rfl (by show ScB ["_law_rows","_law_cell","_law_whole","_law_names","_law_start","_law_poured","_law_more","_law_at_here"] (a_1 d_8) _ "_law_row" [] [];exact⟨rfl,rfl,by decide +kernel,by decide +kernel,rfl,by decide +kernel,by decide +kernel,rfl,by decide +kernel⟩) (O_3 (xv 2) (xoS b_8) xoN) (λ _ _ _ _=>g_2) (λ _ _ _ _=>(e_4 (E_8 (xv 0) a_4) b_8)))
 (xsC (d_5 4 sc_law_many.nd (xb ao9 (xb aM9 (xv 1) b_8) b_8))
 (xsC (d_5 5 sc_law_many.nd (xb c_9 (O_3 (xv 2) xoN (xoS b_8)) (f_2 (xaC (xb c_9 a_4 (k_7 (O_3 (xv 3) (xoS (xv 4)) (xoS (xb c_9 (xv 4) b_8))))) xaN))))
 (xsC (i_0 (xt J_6 (xF G_law_at (hr.mono (by decide)) (xaC (k_7 (xv 5)) xaN)) B_0)
 (xs1 (f_4 xbl))
 xsN)
 (xsC (i_0 (xt (cNe hr.units) (xF G_law_at (hr.mono (by decide)) (xaC (k_7 (xb c_9 (O_3 (xv 2) xoN (xoS b_8)) (f_2 (xaC (xb c_9 a_4 (k_7 (O_3 (xv 3) (xoS (xv 4)) (xoS (xb c_9 (xv 4) b_8))))) xaN)))) xaN)) b_8)
 (xs1 (f_4 xbl))
 xsN)
 (xsC (i_0 (xw (O_2 (xt J_6 (xF G_law_at (hr.mono (by decide)) (xaC (k_7 (xv 2)) xaN)) B_0) (w_1 (xt (cNe hr.units) (xB c_0 rfl T.z_len PySem.boot_len (xaC (xNL G_read_works (hr.mono (by decide)) (xaC (k_7 (xv 2)) xaN)) xaN)) b_8))))
 (xs1 (f_4 xbl))
 xsN)
 (xsC (d_5 6 sc_law_many.nd (xb c_9 (xv 2) (O_3 (f_2 (xaC a_4 (xaC a_4 xaN))) xoN (xoS (xb c_9 b_8 (xb ao9 (xv 1) b_8))))))
 (xsC (i_0 (xt (cNe hr.units) (xF G_law_at (hr.mono (by decide)) (xaC (k_7 (xv 6)) xaN)) b_8)
 (xs1 (f_4 xbl))
 xsN)
 (xsC (d_5 7 sc_law_many.nd (xb ao9 (xb aM9 (xv 1) b_8) b_8))
 (xs1 (f_4 (k_5 (cEq hr.units) (xF G_law_at (hr.mono (by decide)) (xaC (k_7 (xb c_9 (xb c_9 (O_3 (xv 6) xoN (xoS (xv 7))) (f_2 (xaC a_4 xaN))) (O_3 (xv 6) (xoS (xb c_9 (xv 7) b_8)) xoN))) xaN)) (xv 7))))))))))))))),bF,F.kp,mF⟩
abbrev B_3:Stmt:=top 40
theorem sc_law:FnScope ["_law_script","_law_rows","_law_cell","_law_bad_here","_law_good_here","_law_k","_law_wrong","_law_right"] ["_law_script"] (a_1 B_3):=⟨rfl,rfl,rfl,by decide +kernel,rfl,by decide +kernel,by decide +kernel⟩
theorem aH0 {f:Addr}{fd:FuncData} (F:Fun K "law" "law" B_3 f fd) (T:Blt w K mg) (G_law_at:DefOk P w K mg base 5 "_law_at" b_1) (G_law_bad:DefOk P w K mg base 1 "_law_bad" i_4) (G_law_base:DefOk P w K mg base 1 "_law_base" g_8) (G_law_cell_at:DefOk P w K mg base 1 "_law_cell_at" a_9) (G_law_good:DefOk P w K mg base 1 "_law_good" g_7) (G_law_many:DefOk P w K mg base 6 "_law_many" f_7) (G_read_works:DefN P w K mg base 4 "read_works" b_2) (G_shown_works:DefOk P w K mg base 2 "shown_works" c_4):FnOk P w K mg base CX0 7 f fd ["_law_script"] (spP K C_9) :=
 h_5 F sc_law rfl rfl (λ cdv A outer s H E hr =>
 (xsC (d_5 1 sc_law.nd (xF0 G_law_base (hr.mono (by decide))))
 (xsC (d_5 2 sc_law.nd (xF G_law_cell_at (hr.mono (by decide)) (xaC (xv 0) (xaC b_8 xaN))))
 (xsC (i_0 (xt (cEq hr.units) (xb ao9 (xv 2) b_8) b_8)
 (xs1 (f_4 (xF G_law_many (hr.mono (by decide)) (xaC (xv 1) (xaC (xb aM9 (xv 2) b_8) xaN)))))
 xsN)
 (xsC (d_5 3 sc_law.nd (xF0 G_law_bad (hr.mono (by decide))))
 (xsC (d_5 4 sc_law.nd (xF0 G_law_good (hr.mono (by decide))))
 (xsC (ay6 T.z_range (xgN 5 sc_law.nd) b_8 (xsC (d_5 6 sc_law.nd (e_4 (xv 3) (xb ao9 (xF G_law_cell_at (hr.mono (by decide)) (xaC (xv 0) (xaC (xb c_9 b_8 (xv 5)) xaN))) (xB c_0 rfl T.z_len PySem.boot_len (xaC (xv 3) xaN)))))
 (xsC (d_5 7 sc_law.nd (e_4 (xv 4) (xb ao9 (xF G_law_cell_at (hr.mono (by decide)) (xaC (xv 0) (xaC (xb c_9 b_8 (xv 5)) xaN))) (xB c_0 rfl T.z_len PySem.boot_len (xaC (xv 4) xaN)))))
 (xsC (i_0 (xt (cNe hr.units) (xF G_law_at (hr.mono (by decide)) (xaC (k_7 (xb c_9 (xv 1) (f_2 (xaC (xv 6) xaN)))) xaN)) (xB c_0 rfl T.z_len PySem.boot_len (xaC (xv 1) xaN)))
 (xs1 (f_4 xbl))
 xsN)
 (xsC (i_0 (xt (cNe hr.units) (xF G_shown_works (hr.mono (by decide)) (xaC (xNL G_read_works (hr.mono (by decide)) (xaC (k_7 (xb c_9 (xv 1) (f_2 (xaC (xv 7) xaN)))) xaN)) xaN)) (k_7 (xb c_9 (xv 1) (f_2 (xaC (xv 7) xaN)))))
 (xs1 (f_4 xbl))
 xsN)
 (xs1 (i_0 (xt (cNe hr.units) (xF G_law_at (hr.mono (by decide)) (xaC (k_7 (xb c_9 (xv 1) (f_2 (xaC (xv 7) (xaC (xv 6) xaN))))) xaN)) (xb c_9 (xB c_0 rfl T.z_len PySem.boot_len (xaC (xv 1) xaN)) b_8))
 (xs1 (f_4 xbl))
 xsN)))))))
 (xs1 (f_4 xbl)))))))))
end
end Fx
namespace Fx
open PySem
theorem i_3 {j:Int} (h0:j≠0) (h:j.natAbs<2 ^ 64):k_1 j=true:=by
 unfold k_1;rw[decide_eq_true h0,decide_eq_true (Nat.lt_trans h (Nat.pow_lt_pow_right (by decide) (by decide)))];rfl
@[simp] theorem bp4 (n k:Nat) (F:En->Option MO) (ds:List D):fnN n k F ds=if ds.length=n then F (ds.map .im++List.replicate k .no) else none:=Eq.trans rfl rfl
def aF3 (F:En->Option MO) (o:Option Res):Option MO:=bnd o λ r=>match r with
 |.nx ρ'=>F ρ'
 |_=>none
@[simp] theorem bl1 (A:FS) (F:En->Option MO) (ρ:En):aw3 A F ρ=aF3 F (A ρ):=Eq.trans rfl rfl
@[simp] theorem aV1 (F:En->Option MO) (ρ:En):aF3 F (some (.nx ρ))=F ρ:=Eq.trans rfl rfl
theorem aK5 {c:Nat}:∀ {X Y A B:List Nat},c∉X->c∉Y->X++c::A=Y++c::B->X=Y/\A=B
 |[],[],A,B,_,_,h=>⟨rfl,(List.cons.inj h).2⟩
 |[],y::Y,A,B,_,hy,h=>absurd (by rw[(List.cons.inj h).1];exact qf) hy
 |x::X,[],A,B,hx,_,h=>absurd (by rw[<- (List.cons.inj h).1];exact qf) hx
 |x::X,y::Y,A,B,hx,hy,h=>by
  obtain⟨e1,e2⟩:=List.cons.inj h;obtain⟨e3,e4⟩:=aK5 (λ z=>hx (qg _ z)) (λ z=>hy (qg _ z)) e2
  exact⟨by rw[e1,e3],e4⟩
theorem P_4 {a b:Str} (h:a.cps.toList=b.cps.toList):a=b:=by
 obtain⟨⟨x⟩⟩:=a;obtain⟨⟨y⟩⟩:=b;cases h;rfl
theorem K_0 (a b:Str):(a++b).cps.toList=a.cps.toList++b.cps.toList:=by
 show (a.cps++b.cps).toList=_;rw[Array.toList_append]
theorem i_5 (c:Nat) (x y:Str) (r:List Str):(Str.join ⟨#[c]⟩ (x::y::r)).cps.toList=x.cps.toList++c::(Str.join ⟨#[c]⟩ (y::r)).cps.toList:=by
 show (x++⟨#[c]⟩++Str.join ⟨#[c]⟩ (y::r)).cps.toList=_;rw[K_0,K_0];simp
theorem y_3 {c:Nat}:∀ {ss ts:List Str},ss≠[]->ts≠[]->(∀ s∈ss,c∉s.cps.toList)->(∀ s∈ts,c∉s.cps.toList)->Str.join ⟨#[c]⟩ ss=Str.join ⟨#[c]⟩ ts->ss=ts
 |[],_,h,_,_,_,_=>absurd rfl h
 |_,[],_,h,_,_,_=>absurd rfl h
 |[x],[y],_,_,_,_,h=>by
  have h:x=y:=h;rw[h]
 |[x],y::y2::r,_,_,h1,_,h=>by
  have h:x=Str.join ⟨#[c]⟩ (y::y2::r):=h;have e:=congrArg (λ z:Str=>z.cps.toList) h
  rw[i_5] at e;exact absurd (by rw[e];simp) (h1 x qf)
 |x::x2::r,[y],_,_,_,h2,h=>by
  have h:Str.join ⟨#[c]⟩ (x::x2::r)=y:=h;have e:=congrArg (λ z:Str=>z.cps.toList) h
  rw[i_5] at e;exact absurd (by rw[<- e];simp) (h2 y qf)
 |x::x2::r,y::y2::q,_,_,h1,h2,h=>by
  have e:=congrArg (λ z:Str=>z.cps.toList) h
  rw[i_5,i_5] at e;obtain⟨e1,e2⟩:=aK5 (h1 x qf) (h2 y qf) e;have ih:=y_3 (c:=c) (ss:=x2::r) (ts:=y2::q) (by simp) (by simp) (λ s hs=>h1 s (qg _ hs)) (λ s hs=>h2 s (qg _ hs)) (P_4 e2)
  rw[P_4 e1,ih]
theorem K_9 {c:Nat}{ss:List Str} (h0:ss≠[]) (h:∀ s∈ss,c∉s.cps.toList):Txt.split (Str.join ⟨#[c]⟩ ss) ⟨#[c]⟩=ss:=by
 have ne:Txt.split (Str.join ⟨#[c]⟩ ss) ⟨#[c]⟩≠[]:=λ z=>by
  have:=PyProof.Rows.split_pos (Str.join ⟨#[c]⟩ ss) ⟨#[c]⟩;rw[z] at this;simp at this
 refine y_3 ne h0 ?_ h ?_
 ·first | exact StrLaws.split_free _ c | exact split_free _ c
 ·first | exact StrLaws.join_split _ _ | exact join_split _ _
abbrev lf:Str:=Str.ofString "\n"
theorem aF7:lf=(⟨#[10]⟩:Str):=by decide +kernel
theorem Z_2 {ss:List Str} (h0:ss≠[]) (h:∀ s∈ss,10∉s.cps.toList):Txt.split (Str.join lf ss) lf=ss:=by rw[aF7];exact K_9 h0 h
theorem F_1:∀ ss:List Str,ak9 (ss.map D.str)=some ss
 |[]=>rfl
 |s::r=>by rw[List.map_cons,w_4,F_1 r,f_1]
theorem ac4 (sep:Str) (ss:List Str) (h:(ss.map (·.length)).sum+ss.length*sep.length<=1000000):q_8 sep (ss.map D.str)=some (.str (Str.join sep ss)):=by
 unfold q_8;rw[F_1,f_1,if_pos h]
theorem u_7 (w:Str):w.length=w.cps.toList.length:=Array.length_toList.symm
theorem aq2 {c m:Nat} (ss:List Str) (h:∀ s∈ss,s.length<=m):(Str.join ⟨#[c]⟩ ss).length<=(m+1)*ss.length:=by
 induction ss with
 |nil=>exact Nat.le_of_ble_eq_true rfl
 |cons a r ih =>
  have h1:=h a qf;have h2:=ih λ s hs=>h s (qg _ hs)
  rw[List.length_cons,Nat.mul_succ];cases r with
  |nil=>show a.length<=_;omega
  |cons b q =>
   have e:(Str.join ⟨#[c]⟩ (a::b::q)).length=a.length+1+(Str.join ⟨#[c]⟩ (b::q)).length:=by
    rw[u_7,u_7 a,u_7 (Str.join ⟨#[c]⟩ (b::q)),i_5];simp;omega
   rw[e];omega
theorem aG9 {i:Nat}{T:FT}{ρ ρh:En}{K:List (Str×D)}{b:Bool} (h1:owD ρ[i]?=some (false,K)) (h2:ρ.all ndS=true) (h3:ρ.set i (hld K)=ρh) (h4:T ρh=some (b,ρh)):tHold i T ρ=some (b,ρ):=by
 rw[az3,h1,Z_1,if_pos ⟨rfl,h2⟩,h3,h4];exact Z_0 _ _ _
abbrev Kv:=List (Str×D)
abbrev dcK (k:Kv):D:=.dct (k.map (·.1)) (k.map (·.2))
abbrev tst:FT:=tOr (tB (e2 dGe (eV 2) (eC (.int 24)))) (tOr (tB (e2 dIs (eV 4) (eC .non))) (tNot (tV (eF b_5 (aC (eV 4) (aC (eV 1) aN))))))
def bd6:D->Bool
 |.tup _=>true
 |_=>false
def m_8 (d:D) (k:Kv):Option Bool:=if bd6 d then (match b_5 [d,dcK k] with
 |some (.bl b)=>some b
 |_=>none) else (match d with
 |.non=>some false
 |_=>none)
theorem Q_0 {d:D}{k:Kv}{b:Bool} (h:m_8 d k=some b):(d=.non/\b=false)\/((∃ l,d=.tup l)/\b_5 [d,dcK k]=some (.bl b)):=by
 unfold m_8 at h;cases d with
 |non=>cases h;exact .inl ⟨rfl,rfl⟩
 |tup l =>
  refine .inr ⟨⟨l,rfl⟩,?_⟩;rw[if_pos (show bd6 (.tup l)=true from rfl)] at h
  split at h
  ·rename_i e;cases h;exact e
  ·cases h
 |_=>cases h
theorem ag1 (T:D) {k:Kv} (hd:nds (k.map (·.2))=true) {n:Nat}{t:Str}{d:D}{b:Bool} (h:m_8 d k=some b) :
  tHold 1 tst [.im T,.ow false (.dic k),.im (.int n),.im (.str t),.im d]=some (decide (24<=n)||!b,[.im T,.ow false (.dic k),.im (.int n),.im (.str t),.im d]):=by
 have hh:hld k=.im (dcK k):=rfl
 have al:[Sl.im T,.ow false (.dic k),.im (.int n),.im (.str t),.im d].all ndS=true:=by
  show (true&&(nds (k.map (·.2))&&(true&&(true&&(true&&true)))))=true;rw[hd];rfl
 generalize hdc:dcK k=DA at *
 refine aG9 rfl al (by rw[hh,List.set_cons_succ,List.set_cons_zero]) ?_
 by_cases c:24<=n
 ·have c':((n:Int)>=24):=by omega
  simp[c,c']
 ·have c':¬ ((n:Int)>=24):=by omega
  rcases Q_0 h with ⟨rfl,rfl⟩ | ⟨⟨l,rfl⟩,st⟩
  ·simp[c,c']
  ·rw[hdc] at st
   have ni:dIs (.tup l) .non=some (.bl false):=rfl;simp[c,c',ni,st]
def nmR:D->Option Str
 |.tup [_,.str x,_,_]=>some x
 |_=>none
theorem aU8 {d:D}{x:Str} (h:nmR d=some x):e_0 d (.int 1)=some (.str x):=by
 unfold nmR at h
 split at h
 ·cases h;rfl
 ·cases h
section
variable (T:D) {k:Kv} (hd:nds (k.map (·.2))=true) (hl:k.length<100) {n:Nat}{t:Str} (s4:Sl) {d:D} (er:c_3 [.str t]=some d)
include hd hl er
theorem aV3 {b:Bool} (hr:m_8 d k=some b) (hb:(decide (24<=n)||!b)=true) :
  a_8 [.im T,.ow false (.dic k),.im (.int n),.im (.str t),s4]=some (.ex (Str.ofString "NoText",some (Str.ofString "at",.int n))):=by
 have z:=ag1 T hd (n:=n) (t:=t) hr;rw[hb] at z;simp only[a_8]
 generalize tHold 1 tst=TT at *
 simp[er,z,f_1]
theorem aF6 {x:Str} (hr:m_8 d k=some true) (h24:n<24) (hx:nmR d=some x) :
  a_8 [.im T,.ow false (.dic k),.im (.int n),.im (.str t),s4]=some (.ok (.nx [.im T,.ow false (.dic (X_6 x d k)),.im (.int n),.im (.str t),.im d])) /\
  d_6 [.im T,.ow false (.dic k),.im (.int n),.im (.str t),s4]=some (.nx [.im T,.ow false (.dic (X_6 x d k)),.im (.int n),.im (.str t),.im d]):=by
 have z:=ag1 T hd (n:=n) (t:=t) hr;rw[show (decide (24<=n)||!true)=false by simp;omega] at z
 have i1:=aU8 hx
 generalize hK:X_6 x d k=KN at *
 simp only[a_8,d_6]
 generalize tHold 1 tst=TT at *
 constructor
 ·simp[er,z,i1,hl,hK,f_1]
 ·simp[er,z,i1,hl,hK]
end
abbrev R (t:Str) (d:D):Str×D:=(t,d)
def BT:List (Str×D):=[
 R "in a 0 9" (.tup [(.str "in"),(.str "a"),(.tup []),(.tup [(.int 0),(.int 9)])]),
 R "in b * *" (.tup [(.str "in"),(.str "b"),(.tup []),(.tup [.non,.non])]),
 R "pair p a b 3 sum" (.tup [(.str "pair"),(.str "p"),(.tup [(.str "a"),(.str "b")]),(.tup [(.int 3),(.str "sum")])]),
 R "fixed f a 10 count" (.tup [(.str "fixed"),(.str "f"),(.tup [(.str "a")]),(.tup [(.int 10),(.str "count")])]),
 R "gaps g a 5 most" (.tup [(.str "gaps"),(.str "g"),(.tup [(.str "a")]),(.tup [(.int 5),(.str "most")])]),
 R "slide s a 9 3 sum" (.tup [(.str "slide"),(.str "s"),(.tup [(.str "a")]),(.tup [(.int 9),(.int 3),(.str "sum")])]),
 R "ever e p least" (.tup [(.str "ever"),(.str "e"),(.tup [(.str "p")]),(.tup [(.str "least")])]),
 R "ask q f 1 50" (.tup [(.str "ask"),(.str "q"),(.tup [(.str "f")]),(.tup [(.int 1),(.int 50)])]),
 R "ever m b most" (.tup [(.str "ever"),(.str "m"),(.tup [(.str "b")]),(.tup [(.str "most")])]),
 R "ask r g" (.tup [(.str "ask"),(.str "r"),(.tup [(.str "g")]),(.tup [])])]
def GT:List (Str×D):=[
 R "in z 0 0" (.tup [(.str "in"),(.str "z"),(.tup []),(.tup [(.int 0),(.int 0)])]),
 R "in z -999999999999 999999999999" (.tup [(.str "in"),(.str "z"),(.tup []),(.tup [(.int (-999999999999)),(.int 999999999999)])]),
 R "in z * -1" (.tup [(.str "in"),(.str "z"),(.tup []),(.tup [.non,(.int (-1))])]),
 R "time z a 0 1" (.tup [(.str "time"),(.str "z"),(.tup [(.str "a")]),(.tup [(.int 0),(.int 1)])]),
 R "time z a 5 *" (.tup [(.str "time"),(.str "z"),(.tup [(.str "a")]),(.tup [(.int 5),.non])]),
 R "only z a a b c d e f g h" (.tup [(.str "only"),(.str "z"),(.tup [(.str "a")]),(.tup [(.str "a"),(.str "b"),(.str "c"),(.str "d"),(.str "e"),(.str "f"),(.str "g"),(.str "h")])]),
 R "but z a abcdefgh" (.tup [(.str "but"),(.str "z"),(.tup [(.str "a")]),(.tup [(.str "abcdefgh")])]),
 R "span z a 3 3" (.tup [(.str "span"),(.str "z"),(.tup [(.str "a")]),(.tup [(.int 3),(.int 3)])]),
 R "span z b * *" (.tup [(.str "span"),(.str "z"),(.tup [(.str "b")]),(.tup [.non,.non])]),
 R "rest z a 2 1" (.tup [(.str "rest"),(.str "z"),(.tup [(.str "a")]),(.tup [(.int 2),(.int 1)])]),
 R "rest z a 1000 999" (.tup [(.str "rest"),(.str "z"),(.tup [(.str "a")]),(.tup [(.int 1000),(.int 999)])]),
 R "turn z a -1000 0" (.tup [(.str "turn"),(.str "z"),(.tup [(.str "a")]),(.tup [(.int (-1000)),(.int 0)])]),
 R "turn z a 1000 -999999999999" (.tup [(.str "turn"),(.str "z"),(.tup [(.str "a")]),(.tup [(.int 1000),(.int (-999999999999))])]),
 R "turn z a 1 0" (.tup [(.str "turn"),(.str "z"),(.tup [(.str "a")]),(.tup [(.int 1),(.int 0)])]),
 R "later z a 0" (.tup [(.str "later"),(.str "z"),(.tup [(.str "a")]),(.tup [(.int 0)])]),
 R "later z a 999999999999" (.tup [(.str "later"),(.str "z"),(.tup [(.str "a")]),(.tup [(.int 999999999999)])]),
 R "put z a x y" (.tup [(.str "put"),(.str "z"),(.tup [(.str "a")]),(.tup [(.tup [(.str "x"),(.str "y")])])]),
 R "put z a x x y x w x v x" (.tup [(.str "put"),(.str "z"),(.tup [(.str "a")]),(.tup [(.tup [(.str "x"),(.str "x")]),(.tup [(.str "y"),(.str "x")]),(.tup [(.str "w"),(.str "x")]),(.tup [(.str "v"),(.str "x")])])]),
 R "pour z a b" (.tup [(.str "pour"),(.str "z"),(.tup [(.str "a"),(.str "b")]),(.tup [])]),
 R "pair z a a 0 left" (.tup [(.str "pair"),(.str "z"),(.tup [(.str "a"),(.str "a")]),(.tup [(.int 0),(.str "left")])]),
 R "pair z b a 999999999999 less" (.tup [(.str "pair"),(.str "z"),(.tup [(.str "b"),(.str "a")]),(.tup [(.int 999999999999),(.str "less")])]),
 R "fixed z p 1 most" (.tup [(.str "fixed"),(.str "z"),(.tup [(.str "p")]),(.tup [(.int 1),(.str "most")])]),
 R "fixed z a 1 sum" (.tup [(.str "fixed"),(.str "z"),(.tup [(.str "a")]),(.tup [(.int 1),(.str "sum")])]),
 R "slide z a 2 1 least" (.tup [(.str "slide"),(.str "z"),(.tup [(.str "a")]),(.tup [(.int 2),(.int 1),(.str "least")])]),
 R "slide z a 20 1 count" (.tup [(.str "slide"),(.str "z"),(.tup [(.str "a")]),(.tup [(.int 20),(.int 1),(.str "count")])]),
 R "slide z p 61 4 count" (.tup [(.str "slide"),(.str "z"),(.tup [(.str "p")]),(.tup [(.int 61),(.int 4),(.str "count")])]),
 R "gaps z b 1 sum" (.tup [(.str "gaps"),(.str "z"),(.tup [(.str "b")]),(.tup [(.int 1),(.str "sum")])]),
 R "ever z a sum" (.tup [(.str "ever"),(.str "z"),(.tup [(.str "a")]),(.tup [(.str "sum")])]),
 R "ever z p count" (.tup [(.str "ever"),(.str "z"),(.tup [(.str "p")]),(.tup [(.str "count")])]),
 R "ask z f 1 1" (.tup [(.str "ask"),(.str "z"),(.tup [(.str "f")]),(.tup [(.int 1),(.int 1)])]),
 R "ask z f 50 *" (.tup [(.str "ask"),(.str "z"),(.tup [(.str "f")]),(.tup [(.int 50),.non])]),
 R "ask z f 7 999999999999" (.tup [(.str "ask"),(.str "z"),(.tup [(.str "f")]),(.tup [(.int 7),(.int 999999999999)])]),
 R "ask z m * *" (.tup [(.str "ask"),(.str "z"),(.tup [(.str "m")]),(.tup [.non,.non])]),
 R "ask z m -5 -5" (.tup [(.str "ask"),(.str "z"),(.tup [(.str "m")]),(.tup [(.int (-5)),(.int (-5))])]),
 R "ask z m * 0" (.tup [(.str "ask"),(.str "z"),(.tup [(.str "m")]),(.tup [.non,(.int 0)])]),
 R "ask z e" (.tup [(.str "ask"),(.str "z"),(.tup [(.str "e")]),(.tup [])]),
 R "ask z s" (.tup [(.str "ask"),(.str "z"),(.tup [(.str "s")]),(.tup [])]),
 R "ask z g" (.tup [(.str "ask"),(.str "z"),(.tup [(.str "g")]),(.tup [])]),
 R "ask z f" (.tup [(.str "ask"),(.str "z"),(.tup [(.str "f")]),(.tup [])])]
def BadT:List (Str×D):=[
 R "in z 1 0" .non,
 R "in z 0" .non,
 R "in z 0 1 2" .non,
 R "in z 00 1" .non,
 R "in z -0 1" .non,
 R "in z +1 2" .non,
 R "in z 1_0 20" .non,
 R "in z 0 9999999999999" .non,
 R "in a 0 9" (.tup [(.str "in"),(.str "a"),(.tup []),(.tup [(.int 0),(.int 9)])]),
 R "in q 0 9" (.tup [(.str "in"),(.str "q"),(.tup []),(.tup [(.int 0),(.int 9)])]),
 R "time z a * 5" .non,
 R "time z a -1 5" .non,
 R "time z a 5 5" .non,
 R "time z a 5 4" .non,
 R "time z p 0 1" (.tup [(.str "time"),(.str "z"),(.tup [(.str "p")]),(.tup [(.int 0),(.int 1)])]),
 R "only z a" .non,
 R "only z a a b c d e f g h i" .non,
 R "only z a x x" .non,
 R "but z a X" .non,
 R "but z f x" (.tup [(.str "but"),(.str "z"),(.tup [(.str "f")]),(.tup [(.str "x")])]),
 R "span z a 4 3" .non,
 R "rest z a 1 0" .non,
 R "rest z a 1001 0" .non,
 R "rest z a 5 5" .non,
 R "rest z a 5 -1" .non,
 R "rest z a 5" .non,
 R "rest z a * 1" .non,
 R "turn z a 0 1" .non,
 R "turn z a 1001 0" .non,
 R "turn z a -1001 0" .non,
 R "turn z a 1" .non,
 R "turn z a * 0" .non,
 R "later z a -1" .non,
 R "later z a" .non,
 R "later z a *" .non,
 R "put z a x" .non,
 R "put z a x y x w" .non,
 R "put z a" .non,
 R "put z a x Y" .non,
 R "pour z a" .non,
 R "pour z a a" .non,
 R "put z a k l m n o p q r s t" .non,
 R "pour z a p" (.tup [(.str "pour"),(.str "z"),(.tup [(.str "a"),(.str "p")]),(.tup [])]),
 R "pour z a b f" (.tup [(.str "pour"),(.str "z"),(.tup [(.str "a"),(.str "b"),(.str "f")]),(.tup [])]),
 R "pair z a 3 sum" .non,
 R "pair z a b -1 sum" .non,
 R "pair z a b 3 most" .non,
 R "pair z a p 3 sum" (.tup [(.str "pair"),(.str "z"),(.tup [(.str "a"),(.str "p")]),(.tup [(.int 3),(.str "sum")])]),
 R "pair z a b * sum" .non,
 R "pair z a b 3" .non,
 R "fixed z a 0 count" .non,
 R "fixed z p 5 sum" (.tup [(.str "fixed"),(.str "z"),(.tup [(.str "p")]),(.tup [(.int 5),(.str "sum")])]),
 R "fixed z f 5 count" (.tup [(.str "fixed"),(.str "z"),(.tup [(.str "f")]),(.tup [(.int 5),(.str "count")])]),
 R "fixed z q 5 count" (.tup [(.str "fixed"),(.str "z"),(.tup [(.str "q")]),(.tup [(.int 5),(.str "count")])]),
 R "fixed z a 5" .non,
 R "fixed z a 5 max" .non,
 R "fixed z a * sum" .non,
 R "slide z a 3 3 count" .non,
 R "slide z a 2 3 count" .non,
 R "slide z a 21 1 count" .non,
 R "slide z a 5 0 count" .non,
 R "slide z p 4 2 sum" (.tup [(.str "slide"),(.str "z"),(.tup [(.str "p")]),(.tup [(.int 4),(.int 2),(.str "sum")])]),
 R "gaps z p 5 count" (.tup [(.str "gaps"),(.str "z"),(.tup [(.str "p")]),(.tup [(.int 5),(.str "count")])]),
 R "gaps z a 0 count" .non,
 R "ever z p sum" (.tup [(.str "ever"),(.str "z"),(.tup [(.str "p")]),(.tup [(.str "sum")])]),
 R "ever z a" .non,
 R "ever z a 1 sum" .non,
 R "ever z g count" (.tup [(.str "ever"),(.str "z"),(.tup [(.str "g")]),(.tup [(.str "count")])]),
 R "ask z a" (.tup [(.str "ask"),(.str "z"),(.tup [(.str "a")]),(.tup [])]),
 R "ask z p" (.tup [(.str "ask"),(.str "z"),(.tup [(.str "p")]),(.tup [])]),
 R "ask z q" (.tup [(.str "ask"),(.str "z"),(.tup [(.str "q")]),(.tup [])]),
 R "ask z z" (.tup [(.str "ask"),(.str "z"),(.tup [(.str "z")]),(.tup [])]),
 R "ask z nobody" (.tup [(.str "ask"),(.str "z"),(.tup [(.str "nobody")]),(.tup [])]),
 R "ask z f 0 5" (.tup [(.str "ask"),(.str "z"),(.tup [(.str "f")]),(.tup [(.int 0),(.int 5)])]),
 R "ask z f 51 60" (.tup [(.str "ask"),(.str "z"),(.tup [(.str "f")]),(.tup [(.int 51),(.int 60)])]),
 R "ask z f * 5" (.tup [(.str "ask"),(.str "z"),(.tup [(.str "f")]),(.tup [.non,(.int 5)])]),
 R "ask z f 5 4" .non,
 R "ask z f 5" .non,
 R "ask z f 1 2 3" .non,
 R "ask z g 1 2" (.tup [(.str "ask"),(.str "z"),(.tup [(.str "g")]),(.tup [(.int 1),(.int 2)])]),
 R "ask z s 1 2" (.tup [(.str "ask"),(.str "z"),(.tup [(.str "s")]),(.tup [(.int 1),(.int 2)])]),
 R "ask z e 1 2" (.tup [(.str "ask"),(.str "z"),(.tup [(.str "e")]),(.tup [(.int 1),(.int 2)])]),
 R "ask z m 3 2" .non,
 R "ask" .non]
def WT:List (Str×D):=[
 R "in va 0 1" (.tup [(.str "in"),(.str "va"),(.tup []),(.tup [(.int 0),(.int 1)])]),
 R "in vb 0 1" (.tup [(.str "in"),(.str "vb"),(.tup []),(.tup [(.int 0),(.int 1)])]),
 R "in vc 0 1" (.tup [(.str "in"),(.str "vc"),(.tup []),(.tup [(.int 0),(.int 1)])]),
 R "in vd 0 1" (.tup [(.str "in"),(.str "vd"),(.tup []),(.tup [(.int 0),(.int 1)])]),
 R "in ve 0 1" (.tup [(.str "in"),(.str "ve"),(.tup []),(.tup [(.int 0),(.int 1)])]),
 R "in vf 0 1" (.tup [(.str "in"),(.str "vf"),(.tup []),(.tup [(.int 0),(.int 1)])]),
 R "in vg 0 1" (.tup [(.str "in"),(.str "vg"),(.tup []),(.tup [(.int 0),(.int 1)])]),
 R "in vh 0 1" (.tup [(.str "in"),(.str "vh"),(.tup []),(.tup [(.int 0),(.int 1)])]),
 R "in wa 0 1" (.tup [(.str "in"),(.str "wa"),(.tup []),(.tup [(.int 0),(.int 1)])]),
 R "in wb 0 1" (.tup [(.str "in"),(.str "wb"),(.tup []),(.tup [(.int 0),(.int 1)])]),
 R "in wc 0 1" (.tup [(.str "in"),(.str "wc"),(.tup []),(.tup [(.int 0),(.int 1)])]),
 R "in wd 0 1" (.tup [(.str "in"),(.str "wd"),(.tup []),(.tup [(.int 0),(.int 1)])]),
 R "in we 0 1" (.tup [(.str "in"),(.str "we"),(.tup []),(.tup [(.int 0),(.int 1)])]),
 R "in wf 0 1" (.tup [(.str "in"),(.str "wf"),(.tup []),(.tup [(.int 0),(.int 1)])])]
def PT:List (Str×D):=[
 R "pour z va vb vc vd ve vf vg vh" (.tup [(.str "pour"),(.str "z"),(.tup [(.str "va"),(.str "vb"),(.str "vc"),(.str "vd"),(.str "ve"),(.str "vf"),(.str "vg"),(.str "vh")]),(.tup [])]),
 R "pour z vb vc vd ve vf vg vh wa" (.tup [(.str "pour"),(.str "z"),(.tup [(.str "vb"),(.str "vc"),(.str "vd"),(.str "ve"),(.str "vf"),(.str "vg"),(.str "vh"),(.str "wa")]),(.tup [])]),
 R "pour z vc vd ve vf vg vh wa wb" (.tup [(.str "pour"),(.str "z"),(.tup [(.str "vc"),(.str "vd"),(.str "ve"),(.str "vf"),(.str "vg"),(.str "vh"),(.str "wa"),(.str "wb")]),(.tup [])]),
 R "pour z vd ve vf vg vh wa wb wc" (.tup [(.str "pour"),(.str "z"),(.tup [(.str "vd"),(.str "ve"),(.str "vf"),(.str "vg"),(.str "vh"),(.str "wa"),(.str "wb"),(.str "wc")]),(.tup [])]),
 R "pour z ve vf vg vh wa wb wc wd" (.tup [(.str "pour"),(.str "z"),(.tup [(.str "ve"),(.str "vf"),(.str "vg"),(.str "vh"),(.str "wa"),(.str "wb"),(.str "wc"),(.str "wd")]),(.tup [])])]
def P9:List (Str×D):=[
 R "pour z va vb vc vd ve vf vg vh wa" .non,
 R "pour z vb vc vd ve vf vg vh wa wb" .non,
 R "pour z vc vd ve vf vg vh wa wb wc" .non,
 R "pour z vd ve vf vg vh wa wb wc wd" .non,
 R "pour z ve vf vg vh wa wb wc wd we" .non]
def YT:List (Str×D):=[
 R "in y 0 1" (.tup [(.str "in"),(.str "y"),(.tup []),(.tup [(.int 0),(.int 1)])]),
 R "in x 0 1" (.tup [(.str "in"),(.str "x"),(.tup []),(.tup [(.int 0),(.int 1)])]),
 R "in Y 0 1" .non]
def isO (o:Option D) (d:D):Bool:=match o with
 |some e=>beD e d
 |none=>false
theorem s_5 {o:Option D}{d:D} (h:isO o d=true):o=some d:=by
 cases o with
 |none=>cases h
 |some e=>rw[J_8 _ _ h]
def rdB (T:List (Str×D)):Bool:=T.all λ p=>isO (c_3 [.str p.1]) p.2
theorem Z_9:rdB BT=true:=by kernel_rfl
theorem aB8:rdB GT=true:=by kernel_rfl
theorem aB7:rdB BadT=true:=by kernel_rfl
theorem aS2:rdB WT=true:=by kernel_rfl
theorem aS3:rdB PT=true:=by kernel_rfl
theorem aS4:rdB P9=true:=by kernel_rfl
theorem aB6:rdB YT=true:=by kernel_rfl
def l_9 (k:Kv) (d:D):Kv:=match nmR d with
 |some x=>X_6 x d k
 |none=>k
def KB:Kv:=(BT.map (·.2)).foldl l_9 []
def okK (k:Kv):Bool:=nds (k.map (·.2))&&decide (k.length<100)
def riB (b:Bool) (d:D) (k:Kv):Bool:=okK k&&(match m_8 d k with
 |some c=>b==c
 |none=>false)
def A_6:List D->Kv->Bool
 |[],_=>true
 |d::r,k=>riB true d k&&(nmR d).isSome&&A_6 r (l_9 k d)
theorem ak1:A_6 (BT.map (·.2)) []=true:=by kernel_rfl
theorem aU6:(BadT.all λ p=>riB false p.2 KB)=true:=by kernel_rfl
theorem ax9:(GT.all λ p=>A_6 [p.2] KB)=true:=by kernel_rfl
theorem aU7:(GT.all λ p=>BadT.all λ q=>riB false q.2 (l_9 KB p.2))=true:=by kernel_rfl
theorem ag7 {b:Bool}{d:D}{k:Kv} (h:riB b d k=true):nds (k.map (·.2))=true/\k.length<100/\m_8 d k=some b:=by
 unfold riB okK at h;rw[Bool.and_eq_true,Bool.and_eq_true] at h;obtain⟨⟨h1,h2⟩,h3⟩:=h;refine⟨h1,of_decide_eq_true h2,?_⟩;cases e:m_8 d k with
 |none=>rw[e] at h3;cases h3
 |some c=>rw[e] at h3;rw[beq_iff_eq.mp h3]
theorem s_1 {T:List (Str×D)} (h:rdB T=true) {p:Str×D} (hp:p∈T):c_3 [.str p.1]=some p.2:=s_5 (List.all_eq_true.mp h p hp)
abbrev tx (ps:List (Str×D)):List D:=ps.map λ p=>.str p.1
theorem B_4 (T:D):∀ (ps:List (Str×D)) (k:Kv) (n:Nat) (s2 s3 s4:Sl),rdB ps=true->A_6 (ps.map (·.2)) k=true->n+ps.length<=24->∃ s2' s3' s4',
  (∀ rest,xGo (gT [2,3]) a_8 (r_1 n (tx ps)++rest) [.im T,.ow false (.dic k),s2,s3,s4]=xGo (gT [2,3]) a_8 rest [.im T,.ow false (.dic ((ps.map (·.2)).foldl l_9 k)),s2',s3',s4']) /\
  fGo (gT [2,3]) d_6 (r_1 n (tx ps)) [.im T,.ow false (.dic k),s2,s3,s4]=some (.nx [.im T,.ow false (.dic ((ps.map (·.2)).foldl l_9 k)),s2',s3',s4'])
 |[],k,n,s2,s3,s4,_,_,_=>⟨s2,s3,s4,λ _=>rfl,rfl⟩
 |p::r,k,n,s2,s3,s4,hr,hy,hn=>by
  have h1:=s_1 hr (p:=p) qf;have hr':rdB r=true:=((Bool.and_eq_true ..).mp hr).2;have hy:(riB true p.2 k&&(nmR p.2).isSome&&A_6 (r.map (·.2)) (l_9 k p.2))=true:=hy;rw[Bool.and_eq_true,Bool.and_eq_true] at hy;obtain⟨⟨hy1,hy2⟩,hy3⟩:=hy;obtain⟨a,b,c⟩:=ag7 hy1;obtain⟨x,hx⟩:=Option.isSome_iff_exists.mp hy2;have hn:n+(r.length+1)<=24:=hn;have pk:l_9 k p.2=X_6 x p.2 k:=by unfold l_9;rw[hx]
  obtain⟨z1,z2⟩:=aF6 T a b (n:=n) (t:=p.1) s4 h1 c (by omega) hx
  obtain⟨a',b',c',e1,e2⟩:=B_4 T r (l_9 k p.2) (n+1) (.im (.int n)) (.im (.str p.1)) (.im p.2) hr' hy3 (by omega)
  rw[pk] at e1 e2;refine⟨a',b',c',λ rest=>?_,?_⟩
  ·show xGo _ _ (.tup [.int (n:Int),.str p.1]::(r_1 (n+1) (tx r)++rest)) _=_
   rw[t_0];show bnd (some [.im T,.ow false (.dic k),.im (.int (n:Int)),.im (.str p.1),s4]) _=_;rw[f_1,z1,f_1];show xGo _ _ _ _=xGo _ _ _ [.im T,.ow false (.dic ((r.map (·.2)).foldl l_9 (l_9 k p.2))),a',b',c'];rw[pk];exact e1 rest
  ·show fGo _ _ (.tup [.int (n:Int),.str p.1]::r_1 (n+1) (tx r)) _=some (.nx [.im T,.ow false (.dic ((r.map (·.2)).foldl l_9 (l_9 k p.2))),a',b',c'])
   rw[aH5,pk];show fGa _ _ _ (some [.im T,.ow false (.dic k),.im (.int (n:Int)),.im (.str p.1),s4])=_;rw[aH7,z2,aH6];exact e2
theorem aB2 (T:D) {p:Str×D}{k:Kv}{n:Nat}{b:Bool} (h1:c_3 [.str p.1]=some p.2) (h:riB b p.2 k=true) (hb:(decide (24<=n)||!b)=true) (rest:List D) (s2 s3 s4:Sl) :
  xGo (gT [2,3]) a_8 (.tup [.int (n:Int),.str p.1]::rest) [.im T,.ow false (.dic k),s2,s3,s4]=some (.ex (Str.ofString "NoText",some (Str.ofString "at",.int n))):=by
 obtain⟨a,b,c⟩:=ag7 h;have z:=aV3 T a b (n:=n) (t:=p.1) s4 h1 c hb;rw[t_0];show bnd (some [.im T,.ow false (.dic k),.im (.int (n:Int)),.im (.str p.1),s4]) _=_;rw[f_1,z,f_1];rfl
theorem U_9:∀ (xs ys:List D) (n:Nat),r_1 n (xs++ys)=r_1 n xs++r_1 (n+xs.length) ys
 |[],ys,n=>rfl
 |x::r,ys,n=>by
  show .tup [.int n,x]::r_1 (n+1) (r++ys)=.tup [.int n,x]::(r_1 (n+1) r++r_1 (n+(r.length+1)) ys);rw[U_9 r ys,show n+1+r.length=n+(r.length+1) by omega]
def okT (ts:List Str):Bool:=!ts.isEmpty&&decide (ts.length<=30)&&ts.all λ s=>!s.cps.toList.contains 10&&decide (s.length<=400)
theorem ao7 {ts:List Str} (h:okT ts=true):ts≠[]/\ts.length<=30/\∀ s∈ts,10∉s.cps.toList/\s.length<=400:=by
 unfold okT at h;rw[Bool.and_eq_true,Bool.and_eq_true] at h;obtain⟨⟨h1,h2⟩,h3⟩:=h;refine⟨λ z=>?_,of_decide_eq_true h2,λ s hs=>?_⟩
 ·rw[z] at h1;cases h1
 ·have q:=List.all_eq_true.mp h3 s hs
  rw[Bool.and_eq_true] at q;refine⟨λ z=>?_,of_decide_eq_true q.2⟩
  have:s.cps.toList.contains 10=true:=by simpa using z
  rw[this] at q;cases q.1
theorem y_4 {ts:List Str} (h:okT ts=true):q_8 (Str.ofString "\n") (ts.map D.str)=some (.str (Str.join lf ts)) ∧ (Str.join lf ts).length ≤ 100000 ∧ Txt.split (Str.join lf ts) lf=ts:=by
 obtain⟨h0,h1,h2⟩:=ao7 h
 have sm:∀ l:List Str,(∀ s∈l,s.length<=400)->(l.map (·.length)).sum<=400*l.length:=λ l=>by
  induction l with
  |nil=>intro _;exact qi _
  |cons a r ih =>
   intro h;have:=ih λ s hs=>h s (qg _ hs)
   have:=h a qf;simp only[List.map_cons,List.sum_cons,List.length_cons];omega
 refine⟨ac4 lf ts ?_,?_,Z_2 h0 λ s hs=>(h2 s hs).1⟩
 ·have:=sm ts λ s hs=>(h2 s hs).2
  have:lf.length=1:=by decide +kernel
  rw[this];omega
 ·have:=aq2 (c:=10) (m:=400) ts λ s hs=>(h2 s hs).2
  rw[aF7];omega
theorem aF4 {ts:List Str} (h:okT ts=true):b_9 [.str (Str.join lf ts)]=bnd (bnd (xGo (gT [2,3]) a_8 (r_1 0 (ts.map D.str)) [.im (.str (Str.join lf ts)),.ow false (.dic []),.no,.no,.no]) (nxX (rS (e_1 (eFr (L_4 1)))))) aM3:=by
 obtain⟨_,jl,sp⟩:=y_4 h;have sq:(Txt.split (Str.join lf ts) lf).map D.str=ts.map D.str:=by rw[sp]
 have ln:¬ (lf.length=0):=by decide +kernel
 generalize Str.join lf ts=J at *
 generalize ts.map D.str=TS at *
 generalize hx:xGo (gT [2,3]) a_8=GX at *
 simp[b_9,l_5,fnX,List.replicate,f_1,aa1,Q_2,Q_1,ln,jl,sq,hx]
theorem A_4 {ps:List (Str×D)}{p:Str×D}{us:List Str}{b:Bool} (ok:okT (ps.map (·.1)++p.1::us)=true) (hr:rdB ps=true) (hy:A_6 (ps.map (·.2)) []=true) (hl:ps.length<=24) (h1:c_3 [.str p.1]=some p.2)
  (h:riB b p.2 ((ps.map (·.2)).foldl l_9 [])=true) (hb:(decide (24<=ps.length)||!b)=true):b_1 [.str (Str.join lf (ps.map (·.1)++p.1::us))]=some (.int ps.length):=by
 show bnd (b_9 _) atX=_;rw[aF4 ok]
 generalize Str.join lf (ps.map (·.1)++p.1::us)=J at *
 obtain⟨a,b',c,e,_⟩:=B_4 (.str J) ps [] 0 .no .no .no hr hy (by omega)
 rw[List.map_append,U_9];have tm:(ps.map (·.1)).map D.str=tx ps:=by rw[List.map_map];rfl
 rw[tm,e,show 0+(tx ps).length=ps.length by rw[List.length_map];omega]
 show bnd (bnd (bnd (xGo _ _ (.tup [.int (ps.length:Int),.str p.1]::r_1 (ps.length+1) (us.map D.str)) _) _) _) _=_;rw[aB2 (.str J) h1 h hb];rfl
theorem av5 {ps:List (Str×D)} (ok:okT (ps.map (·.1))=true) (hr:rdB ps=true) (hy:A_6 (ps.map (·.2)) []=true) (hl:ps.length<=24) (hz:((ps.map (·.2)).foldl l_9 []).length<=1000) :
  b_1 [.str (Str.join lf (ps.map (·.1)))]=some .non/\b_2 [.str (Str.join lf (ps.map (·.1)))]=some (.lst (((ps.map (·.2)).foldl l_9 []).map (·.2))):=by
 have tm:(ps.map (·.1)).map D.str=tx ps:=by rw[List.map_map];rfl
 obtain⟨_,jl,sp⟩:=y_4 ok;have sq:(Txt.split (Str.join lf (ps.map (·.1))) lf).map D.str=tx ps:=by rw[sp,tm]
 have ln:¬ (lf.length=0):=by decide +kernel
 have mx:=aF4 ok;rw[tm] at mx
 generalize Str.join lf (ps.map (·.1))=J at *
 obtain⟨a,b,c,e1,e2⟩:=B_4 (.str J) ps [] 0 .no .no .no hr hy (by omega)
 have e1:=e1 [];rw[List.append_nil,O_4] at e1;rw[e1] at mx
 generalize (ps.map (·.2)).foldl l_9 []=K at *
 generalize tx ps=TS at *
 constructor
 ·show bnd (b_9 _) atX=_
  rw[mx];simp[f_1,hz,atX]
 ·generalize hx:fGo (gT [2,3]) d_6=GF at *
  simp[b_2,n_1,List.replicate,ln,jl,sq,hx,e2,hz]
theorem aI3:g_8 []=some (.lst (tx BT)):=s_5 (by kernel_rfl)
theorem aW9:i_4 []=some (.lst (tx BadT)):=s_5 (by kernel_rfl)
theorem aI2:g_7 []=some (.lst (tx GT)):=s_5 (by kernel_rfl)
def okR (s:Str):Bool:=!s.cps.toList.contains 10&&decide (s.length<=400)
theorem c_2 {n:Nat} (h:n<=1000):n<=sizeLine:=Nat.le_trans h (by decide)
theorem aE5 {ts:List Str} (h0:ts≠[]) (h1:ts.length<=30) (h:∀ s∈ts,okR s=true):okT ts=true:=by
 unfold okT;rw[decide_eq_true h1,show ts.all (λ s=>!s.cps.toList.contains 10&&decide (s.length<=400))=true from List.all_eq_true.mpr h]
 cases ts with
 |nil=>exact absurd rfl h0
 |cons _ _=>rfl
def okS (T:List (Str×D)):Bool:=T.all λ p=>okR p.1
theorem aU1:okS BT=true:=by kernel_rfl
theorem aU0:okS GT=true:=by kernel_rfl
theorem aT9:okS BadT=true:=by kernel_rfl
theorem R_8 {T:List (Str×D)} (h:okS T=true) {s:Str} (hs:s∈T.map (·.1)):okR s=true:=by
 obtain⟨p,hp,rfl⟩:=List.mem_map.mp hs;exact List.all_eq_true.mp h p hp
def shB (T:List (Str×D)):Bool:=T.all λ p=>isO (c_5 [p.2]) (.str p.1)
theorem aQ7:shB BT=true:=by kernel_rfl
theorem aQ6:shB GT=true:=by kernel_rfl
theorem aB3:(GT.all λ p=>X_9 ((((BT++[p]).map (·.2)).foldl l_9 []).map (·.2)) ((BT++[p]).map (·.2)))=true:=by kernel_rfl
theorem aA1:∀ ps:List (Str×D),(∀ p∈ps,c_5 [p.2]=some (.str p.1))->cGo tYes (eF c_5 (aC (eV 0) aN)) [] (ps.map (·.2))=some (tx ps)
 |[],_=>rfl
 |p::r,h=>by
  have x:=h p qf;have ih:=aA1 r λ q hq=>h q (qg _ hq)
  have f:eF c_5 (aC (eV 0) aN) [.im p.2]=some (.str p.1,[.im p.2]):=by
   generalize p.2=d at *
   simp[x]
  rw[List.map_cons,aY4];show cGa _ _ _ _ (some (true,_))=_;rw[aY6,f,aY5,ih,aJ7];rfl
theorem Z_3 {ps:List (Str×D)} (ok:okT (ps.map (·.1))=true) (h:∀ p∈ps,c_5 [p.2]=some (.str p.1)) (hl:ps.length<=30):c_4 [.lst (ps.map (·.2))]=some (.str (Str.join lf (ps.map (·.1)))):=by
 have c:=aA1 ps h;have j:=(y_4 ok).1;rw[show (ps.map (·.1)).map D.str=tx ps by rw[List.map_map];rfl] at j
 have lz:(ps.map (·.2)).length<=sizeLine:=c_2 (by rw[List.length_map];omega)
 generalize ps.map (·.2)=R at *
 generalize tx ps=TS at *
 generalize Str.join lf (ps.map (·.1))=J at *
 simp[c_4,l_6,c,j,lz]
abbrev fs (ps:List (Str×D)):List Str:=ps.map (·.1)
theorem al0 (ps:List (Str×D)):(fs ps).map D.str=tx ps:=by rw[List.map_map];rfl
theorem O_1 {k:Kv}:∀ {ps:List D}{d:D},A_6 ps k=true->A_6 [d] (ps.foldl l_9 k)=true->A_6 (ps++[d]) k=true:=by
 intro ps
 induction ps generalizing k with
 |nil=>intro d _ h;exact h
 |cons a r ih =>
  intro d h1 h2;have h1:(riB true a k&&(nmR a).isSome&&A_6 r (l_9 k a))=true:=h1;show (riB true a k&&(nmR a).isSome&&A_6 (r++[d]) (l_9 k a))=true;rw[Bool.and_eq_true] at h1 ⊢;exact⟨h1.1,ih h1.2 h2⟩
theorem t_6 {a b:List (Str×D)} (h1:rdB a=true) (h2:rdB b=true):rdB (a++b)=true:=by
 unfold rdB at *;rw[List.all_append,h1,h2];rfl
theorem B_7 {T:List (Str×D)} (h:rdB T=true) {p:Str×D} (hp:p∈T):rdB [p]=true:=by
 have:=List.all_eq_true.mp h p hp;unfold rdB;rw[List.all_cons,this];rfl
theorem ok3 {ts:List Str} (h0:ts≠[]) (h1:ts.length<=30) (h:∀ s∈ts,s∈fs BT\/s∈fs GT\/s∈fs BadT):okT ts=true:=aE5 h0 h1 λ s hs=>by
 rcases h s hs with z | z | z
 ·exact R_8 aU1 z
 ·exact R_8 aU0 z
 ·exact R_8 aT9 z
theorem p_3:BT.length=10:=rfl
section
variable {w g:Str×D} (hw:w∈BadT) (hg:g∈GT)
include hw
theorem A1:okT (fs BT++[w.1])=true/\b_1 [.str (Str.join lf (fs BT++[w.1]))]=some (.int 10):=by
 have ok:okT (fs BT++[w.1])=true:=ok3 (by simp) (by simp[p_3]) λ s hs=>by
  rcases qt hs with z | z
  ·exact .inl z
  ·rw[List.mem_singleton.mp z];exact .inr (.inr (List.mem_map_of_mem hw))
 exact⟨ok,A_4 (us:=[]) ok Z_9 ak1 (by decide) (s_1 aB7 hw) (List.all_eq_true.mp aU6 w hw) (by decide)⟩
include hg
theorem A3:okT (fs BT++[g.1,w.1])=true/\b_1 [.str (Str.join lf (fs BT++[g.1,w.1]))]=some (.int 11):=by
 have ok:okT (fs BT++[g.1,w.1])=true:=ok3 (by simp) (by simp[p_3]) λ s hs=>by
  rcases qt hs with z | z
  ·exact .inl z
  ·rcases qr z with z | z
   ·rw[z];exact .inr (.inl (List.mem_map_of_mem hg))
   ·rw[List.mem_singleton.mp z];exact .inr (.inr (List.mem_map_of_mem hw))
 refine⟨ok,?_⟩;have e:fs BT++[g.1,w.1]=fs (BT++[g])++w.1::[]:=by unfold fs;rw[List.map_append];simp
 rw[e] at ok ⊢;refine A_4 (us:=[]) ok (t_6 Z_9 (B_7 aB8 hg)) ?_ (by simp[p_3]) (s_1 aB7 hw) ?_ (b:=false) (by simp)
 ·rw[List.map_append];exact O_1 ak1 (List.all_eq_true.mp ax9 g hg)
 ·rw[List.map_append,List.foldl_append]
  exact List.all_eq_true.mp (List.all_eq_true.mp aU7 g hg) w hw
end
theorem A2 {g:Str×D} (hg:g∈GT):okT (fs BT++[g.1])=true/\∃ R,b_2 [.str (Str.join lf (fs BT++[g.1]))]=some (.lst R)/\c_4 [.lst R]=some (.str (Str.join lf (fs BT++[g.1]))):=by
 have ok:okT (fs BT++[g.1])=true:=ok3 (by simp) (by simp[p_3]) λ s hs=>by
  rcases qt hs with z | z
  ·exact .inl z
  ·rw[List.mem_singleton.mp z];exact .inr (.inl (List.mem_map_of_mem hg))
 refine⟨ok,(BT++[g]).map (·.2),?_,?_⟩
 rotate_right
 ·have e:fs BT++[g.1]=(BT++[g]).map (·.1):=by rw[List.map_append];rfl
  rw[e] at ok ⊢;refine Z_3 ok (λ p hp=>?_) (by simp[p_3])
  rcases qt hp with z | z
  ·exact s_5 (List.all_eq_true.mp aQ7 p z)
  ·rw[List.mem_singleton.mp z];exact s_5 (List.all_eq_true.mp aQ6 g hg)
 ·have e:fs BT++[g.1]=(BT++[g]).map (·.1):=by rw[List.map_append];rfl
  rw[e] at ok ⊢;have rows:=m_4 _ _ (List.all_eq_true.mp aB3 g hg)
  have z:=(av5 ok (t_6 Z_9 (B_7 aB8 hg)) (by rw[List.map_append];exact O_1 ak1 (List.all_eq_true.mp ax9 g hg)) (by simp[p_3]) (by
   have:=congrArg List.length rows;rw[List.length_map,List.length_map] at this;rw[this];simp[p_3])).2
  rw[rows] at z;exact z
theorem l_1 {a b:Int} (h:0<b):a.fmod b=a % b:=Int.fmod_eq_emod_of_nonneg a (by omega)
theorem I_2 {a b:Int} (h:0<b):a.fdiv b=a / b:=Int.fdiv_eq_ediv_of_nonneg a (by omega)
theorem I_3 {g:D->En->Option En}{B:FS} (P:Nat->En->Prop):∀ (n k:Nat) (ρ:En),(∀ (i:Nat) ρ,k<=i->i<k+n->P i ρ->∃ ρ1 ρ2,g (.int i) ρ=some ρ1/\B ρ1=some (.nx ρ2)/\P (i+1) ρ2)->P k ρ->∃ ρ',fGo g B (A_7 k n) ρ=some (.nx ρ')/\P (k+n) ρ'
 |0,k,ρ,_,p=>⟨ρ,rfl,p⟩
 |n+1,k,ρ,h,p=>by
  obtain⟨ρ1,ρ2,h1,h2,p2⟩:=h k ρ (qi _) (by omega) p
  obtain⟨ρ',e,p'⟩:=I_3 P n (k+1) ρ2 (λ i ρ a b q=>h i ρ (by omega) (by omega) q) p2
  refine⟨ρ',?_,by rw[show k+(n+1)=k+1+n by omega];exact p'⟩
  rw[show A_7 (k:Int) (n+1)=.int k::A_7 ((k:Int)+1) n from rfl,aH5,h1,aH7,h2,aH6];exact e
theorem aK4 (xs:List D) {i:Nat} (h:i<xs.length):atD xs i=some xs[i]:=by
 unfold atD dPl;rw[if_pos (by omega),if_pos (by omega)]
 show xs[((i:Int)).toNat]?=_;rw[show ((i:Int)).toNat=i by omega,List.getElem?_eq_getElem h]
theorem D_5 (ns:List Int) (i:Nat) (hl:ns.length<=63):∃ v:Int,a_9 [.lst (ns.map .int),.int i]=some (.int v):=by
 have lz:ns.length<=sizeLine:=c_2 (by omega)
 by_cases h:i<ns.length
 ·have e:=aK4 (ns.map D.int) (i:=i) (by simpa using h)
  rw[List.getElem_map] at e;have h':(i:Int)<(ns.length:Int):=by omega
  exact⟨ns[i],by simp[a_9,h_6,lz,h',h,e]⟩
 ·have h':¬ ((i:Int)<(ns.length:Int)):=by omega
  exact⟨0,by simp[a_9,h_6,lz,h',h]⟩
theorem bc4 (T:List (Str×D)) (h0:0<T.length) (c:Int):∃ p∈T,atD (tx T) (c.fmod (T.length:Int))=some (.str p.1):=by
 have hp:0<(T.length:Int):=by omega
 rw[l_1 hp];have a:=Int.emod_nonneg c (show (T.length:Int)≠0 by omega)
 have b:=Int.emod_lt_of_pos c hp;obtain⟨i,hi⟩:∃ i:Nat,c % (T.length:Int)=i:=⟨(c % (T.length:Int)).toNat,by omega⟩
 rw[hi];have hl:i<T.length:=by omega
 have e:=aK4 (tx T) (i:=i) (by simpa using hl)
 rw[List.getElem_map] at e;exact⟨T[i],List.getElem_mem hl,e⟩
theorem ai6 (n:Int):dNe (.int n) (.int n)=some (.bl false):=by simp
theorem az6 (n:Str):dNe (.str n) (.str n)=some (.bl false):=by simp
theorem aP3 {X:List D}{c0:Int}{k:Nat}{c1 c5:Int}{s6 s7:Sl} (e1:a_9 [.lst X,.int (1+(k:Int))]=some (.int c1)) (e5:a_9 [.lst X,.int (5+(k:Int))]=some (.int c5)) :
  ∃ s6' s7',m_1 [.im (.lst X),.im (.lst (tx BT)),.im (.int c0),.im (.lst (tx BadT)),.im (.lst (tx GT)),.im (.int k),s6,s7]=some (.nx [.im (.lst X),.im (.lst (tx BT)),.im (.int c0),.im (.lst (tx BadT)),.im (.lst (tx GT)),.im (.int k),s6',s7']):=by
 obtain⟨w,hw,pw⟩:=bc4 BadT (by decide) c1
 obtain⟨g,hg,pg⟩:=bc4 GT (by decide) c5
 obtain⟨o1,a1⟩:=A1 hw;obtain⟨o2,R,r2,a2⟩:=A2 hg;obtain⟨o3,a3⟩:=A3 hw hg;have j1:=(y_4 o1).1;have j2:=(y_4 o2).1;have j3:=(y_4 o3).1;rw[List.map_append,al0] at j1 j2 j3;have j1:q_8 (Str.ofString "\n") (tx BT++[.str w.1])=_:=j1;have j2:q_8 (Str.ofString "\n") (tx BT++[.str g.1])=_:=j2;have j3:q_8 (Str.ofString "\n") (tx BT++[.str g.1,.str w.1])=_:=j3;have lB:(tx BT).length=10:=rfl;have lX:((tx BadT).length:Int)=(BadT.length:Int):=by rw[List.length_map]
 have lG:((tx GT).length:Int)=(GT.length:Int):=by rw[List.length_map]
 have d1:k_1 (BadT.length:Int)=true:=i_3 (by decide) (by decide)
 have d2:k_1 (GT.length:Int)=true:=i_3 (by decide) (by decide)
 have q1:¬ ((BadT.length:Int)=0):=by decide
 have q2:¬ ((GT.length:Int)=0):=by decide
 have zB:(tx BT).length<=sizeLine:=by rw[lB];exact c_2 (by decide)
 have zB1:(tx BT).length+1<=sizeLine:=by rw[lB];exact c_2 (by decide)
 have zB2:(tx BT).length+2<=sizeLine:=by rw[lB];exact c_2 (by decide)
 have zX:(tx BadT).length<=sizeLine:=c_2 (by decide)
 have zG:(tx GT).length<=sizeLine:=c_2 (by decide)
 have l10:10<=sizeLine:=c_2 (by decide)
 have l11:11<=sizeLine:=c_2 (by decide)
 have l12:12<=sizeLine:=c_2 (by decide)
 have n10:=ai6 10;have n11:=ai6 11;have nS:=az6 (Str.join lf (fs BT++[g.1]))
 generalize Str.join lf (fs BT++[w.1])=J1 at *
 generalize Str.join lf (fs BT++[g.1])=J2 at *
 generalize Str.join lf (fs BT++[g.1,w.1])=J3 at *
 generalize (BadT.length:Int)=LX at *
 generalize (GT.length:Int)=LG at *
 generalize tx BT=B at *
 generalize tx BadT=XX at *
 generalize tx GT=GG at *
 refine⟨.im (.str w.1),.im (.str g.1),?_⟩;simp only[m_1];simp[-bn3,e1,e5,pw,pg,a1,a2,a3,r2,j1,j2,j3,lB,lX,lG,q1,q2,d1,d2,zB,zB1,zB2,zX,zG,l10,l11,l12,n10,n11,nS]
abbrev W24:List (Str×D):=BT++WT
def ND:List D:=[.str "va",.str "vb",.str "vc",.str "vd",.str "ve",.str "vf",.str "vg",.str "vh",.str "wa",.str "wb",.str "wc",.str "wd",.str "we",.str "wf"]
abbrev pR (T:List (Str×D)) (i:Nat):Str×D:=T.getD i (R "" .non)
abbrev M8 (i:Nat):List (Str×D):=W24.take 23++[pR PT i]
abbrev M9 (i:Nat):List (Str×D):=W24.take 23++[pR P9 i]
abbrev MY (p:Nat):List (Str×D):=W24++YT.take (1+p)
abbrev MA (p a:Nat):List (Str×D):=W24.take a++[pR YT 2]++(MY p).drop (a+1)
theorem st0 (c:Int):(c_7 2 (e2 b_7 (eV 0) (eLR [] (ag6 (eC (.int 14))) tYes (e2 b_7 (e2 b_7 (e2 b_7 (eC (.str "in ")) (e2 e_0 (eC (.str "vw")) (e2 ae4 (eV 0) (eC (.int 8))))) (e2 e_0 (eC (.str "abcdefgh")) (e2 z_0 (eV 0) (eC (.int 8))))) (eC (.str " 0 1")))))) [.im (.lst (tx BT)),.im (.int c),.no,.no,.no,.no,.no,.no]=some (.nx [.im (.lst (tx BT)),.im (.int c),.im (.lst (tx W24)),.no,.no,.no,.no,.no]):=by kernel_rfl
theorem st1 (c:Int):(c_7 3 (eLC [] (l_2 (eV 2) (oS (eC (.int 10))) oN) tYes (e2 e_0 (e2 i_6 (eV 0) (eC (.str " "))) (eC (.int 1))))) [.im (.lst (tx BT)),.im (.int c),.im (.lst (tx W24)),.no,.no,.no,.no,.no]=some (.nx [.im (.lst (tx BT)),.im (.int c),.im (.lst (tx W24)),.im (.lst ND),.no,.no,.no,.no]):=by kernel_rfl
theorem st2 (c:Int) {i:Nat} (h:(c / 48) % 5=i):(c_7 4 (e2 z_0 (e2 ae4 (eV 1) (eC (.int 48))) (eC (.int 5)))) [.im (.lst (tx BT)),.im (.int c),.im (.lst (tx W24)),.im (.lst ND),.no,.no,.no,.no]=some (.nx [.im (.lst (tx BT)),.im (.int c),.im (.lst (tx W24)),.im (.lst ND),.im (.int i),.no,.no,.no]):=by
 have a:(c.fdiv 48).fmod 5=i:=by rw[I_2 (by decide),l_1 (by decide)];exact h
 have d1:k_1 48=true:=i_3 (by decide) (by decide)
 have d2:k_1 5=true:=i_3 (by decide) (by decide)
 simp[a,d1,d2]
theorem st3 (c:Int):∀ i:Nat,i<5 → (c_7 5 (e2 b_7 (l_2 (eV 2) oN (oS (eC (.int 23)))) (d_7 (aC (e2 b_7 (eC (.str "pour z ")) (g_4 (Str.ofString " ") (l_2 (eV 3) (oS (eV 4)) (oS (e2 b_7 (eV 4) (eC (.int 8))))))) aN)))) [.im (.lst (tx BT)),.im (.int c),.im (.lst (tx W24)),.im (.lst ND),.im (.int i),.no,.no,.no]=some (.nx [.im (.lst (tx BT)),.im (.int c),.im (.lst (tx W24)),.im (.lst ND),.im (.int i),.im (.lst (tx (M8 i))),.no,.no])
 |0,_=>by kernel_rfl
 |1,_=>by kernel_rfl
 |2,_=>by kernel_rfl
 |3,_=>by kernel_rfl
 |4,_=>by kernel_rfl
 |i+5,h=>absurd h (by omega)
theorem t6 (s0 s1 s5 s6 s7:Sl):∀ i:Nat,i<5 → (e2 b_7 (l_2 (eV 2) oN (oS (eC (.int 23)))) (d_7 (aC (e2 b_7 (eC (.str "pour z ")) (g_4 (Str.ofString " ") (l_2 (eV 3) (oS (eV 4)) (oS (e2 b_7 (eV 4) (eC (.int 9))))))) aN))) [s0,s1,.im (.lst (tx W24)),.im (.lst ND),.im (.int i),s5,s6,s7]=some (.lst (tx (M9 i)),[s0,s1,.im (.lst (tx W24)),.im (.lst ND),.im (.int i),s5,s6,s7])
 |0,_=>by kernel_rfl
 |1,_=>by kernel_rfl
 |2,_=>by kernel_rfl
 |3,_=>by kernel_rfl
 |4,_=>by kernel_rfl
 |i+5,h=>absurd h (by omega)
theorem st7 {c:Int}{i p:Nat} (s5:Sl) (h:c % 2=p) (hp:p<2):(c_7 6 (e2 b_7 (eV 2) (l_2 (d_7 (aC (eC (.str "in y 0 1")) (aC (eC (.str "in x 0 1")) aN))) oN (oS (e2 b_7 (eC (.int 1)) (e2 z_0 (eV 1) (eC (.int 2)))))))) [.im (.lst (tx BT)),.im (.int c),.im (.lst (tx W24)),.im (.lst ND),.im (.int i),s5,.no,.no]=some (.nx [.im (.lst (tx BT)),.im (.int c),.im (.lst (tx W24)),.im (.lst ND),.im (.int i),s5,.im (.lst (tx (MY p))),.no]):=by
 have a:c.fmod 2=p:=by rw[l_1 (by decide)];exact h
 have d1:k_1 2=true:=i_3 (by decide) (by decide)
 have key:∀ (s0 s1 s3 s4:Sl) (q:Nat),q<2 → e2 b_7 (eV 2) (l_2 (d_7 (aC (eC (.str "in y 0 1")) (aC (eC (.str "in x 0 1")) aN))) oN (oS (eC (.int (1+(q:Int)))))) [s0,s1,.im (.lst (tx W24)),s3,s4,s5,.no,.no]=some (.lst (tx (MY q)),[s0,s1,.im (.lst (tx W24)),s3,s4,s5,.no,.no])
  |_,_,_,_,0,_=>by kernel_rfl
  |_,_,_,_,1,_=>by kernel_rfl
  |_,_,_,_,q+2,h=>absurd h (by omega)
 have k:=key (.im (.lst (tx BT))) (.im (.int c)) (.im (.lst ND)) (.im (.int i)) p hp
 have o:oS (e2 b_7 (eC (.int 1)) (e2 z_0 (eV 1) (eC (.int 2)))) [.im (.lst (tx BT)),.im (.int c),.im (.lst (tx W24)),.im (.lst ND),.im (.int i),s5,.no,.no]=oS (eC (.int (1+(p:Int)))) [.im (.lst (tx BT)),.im (.int c),.im (.lst (tx W24)),.im (.lst ND),.im (.int i),s5,.no,.no]:=by
  generalize tx W24=w at *
  simp[a,d1]
 have r:(e2 b_7 (eV 2) (l_2 (d_7 (aC (eC (.str "in y 0 1")) (aC (eC (.str "in x 0 1")) aN))) oN (oS (e2 b_7 (eC (.int 1)) (e2 z_0 (eV 1) (eC (.int 2))))))) [.im (.lst (tx BT)),.im (.int c),.im (.lst (tx W24)),.im (.lst ND),.im (.int i),s5,.no,.no]=some (.lst (tx (MY p)),[.im (.lst (tx BT)),.im (.int c),.im (.lst (tx W24)),.im (.lst ND),.im (.int i),s5,.no,.no]):=by
  refine Eq.trans ?_ k
  generalize oS (e2 b_7 (eC (.int 1)) (e2 z_0 (eV 1) (eC (.int 2))))=O1 at *
  generalize oS (eC (.int (1+(p:Int))))=O2 at *
  generalize tx W24=w at *
  simp[o]
 clear key k o
 generalize (e2 b_7 (eV 2) (l_2 (d_7 (aC (eC (.str "in y 0 1")) (aC (eC (.str "in x 0 1")) aN))) oN (oS (e2 b_7 (eC (.int 1)) (e2 z_0 (eV 1) (eC (.int 2)))))))=FF at *
 generalize tx (MY p)=y at *
 generalize tx W24=w at *
 simp[r]
theorem aQ4 (s0 s1 s2 s3 s4 s5:Sl):∀ a:Nat,a<24 → (e2 b_7 (e2 b_7 (l_2 (eV 6) oN (oS (eV 7))) (d_7 (aC (eC (.str "in Y 0 1")) aN))) (l_2 (eV 6) (oS (e2 b_7 (eV 7) (eC (.int 1)))) oN)) [s0,s1,s2,s3,s4,s5,.im (.lst (tx (MY 0))),.im (.int a)]=some (.lst (tx (MA 0 a)),[s0,s1,s2,s3,s4,s5,.im (.lst (tx (MY 0))),.im (.int a)])
 |0,_=>by kernel_rfl
 |1,_=>by kernel_rfl
 |2,_=>by kernel_rfl
 |3,_=>by kernel_rfl
 |4,_=>by kernel_rfl
 |5,_=>by kernel_rfl
 |6,_=>by kernel_rfl
 |7,_=>by kernel_rfl
 |8,_=>by kernel_rfl
 |9,_=>by kernel_rfl
 |10,_=>by kernel_rfl
 |11,_=>by kernel_rfl
 |12,_=>by kernel_rfl
 |13,_=>by kernel_rfl
 |14,_=>by kernel_rfl
 |15,_=>by kernel_rfl
 |16,_=>by kernel_rfl
 |17,_=>by kernel_rfl
 |18,_=>by kernel_rfl
 |19,_=>by kernel_rfl
 |20,_=>by kernel_rfl
 |21,_=>by kernel_rfl
 |22,_=>by kernel_rfl
 |23,_=>by kernel_rfl
 |a+24,h=>absurd h (by omega)
theorem aQ3 (s0 s1 s2 s3 s4 s5:Sl):∀ a:Nat,a<24 → (e2 b_7 (e2 b_7 (l_2 (eV 6) oN (oS (eV 7))) (d_7 (aC (eC (.str "in Y 0 1")) aN))) (l_2 (eV 6) (oS (e2 b_7 (eV 7) (eC (.int 1)))) oN)) [s0,s1,s2,s3,s4,s5,.im (.lst (tx (MY 1))),.im (.int a)]=some (.lst (tx (MA 1 a)),[s0,s1,s2,s3,s4,s5,.im (.lst (tx (MY 1))),.im (.int a)])
 |0,_=>by kernel_rfl
 |1,_=>by kernel_rfl
 |2,_=>by kernel_rfl
 |3,_=>by kernel_rfl
 |4,_=>by kernel_rfl
 |5,_=>by kernel_rfl
 |6,_=>by kernel_rfl
 |7,_=>by kernel_rfl
 |8,_=>by kernel_rfl
 |9,_=>by kernel_rfl
 |10,_=>by kernel_rfl
 |11,_=>by kernel_rfl
 |12,_=>by kernel_rfl
 |13,_=>by kernel_rfl
 |14,_=>by kernel_rfl
 |15,_=>by kernel_rfl
 |16,_=>by kernel_rfl
 |17,_=>by kernel_rfl
 |18,_=>by kernel_rfl
 |19,_=>by kernel_rfl
 |20,_=>by kernel_rfl
 |21,_=>by kernel_rfl
 |22,_=>by kernel_rfl
 |23,_=>by kernel_rfl
 |a+24,h=>absurd h (by omega)
theorem st9 (c:Int) {a:Nat} (h:(c / 2) % 24=a) (s0 s2 s3 s4 s5 s6:Sl):(c_7 7 (e2 z_0 (e2 ae4 (eV 1) (eC (.int 2))) (eC (.int 24)))) [s0,.im (.int c),s2,s3,s4,s5,s6,.no]=some (.nx [s0,.im (.int c),s2,s3,s4,s5,s6,.im (.int a)]):=by
 have a':(c.fdiv 2).fmod 24=a:=by rw[I_2 (by decide),l_1 (by decide)];exact h
 have d1:k_1 2=true:=i_3 (by decide) (by decide)
 have d2:k_1 24=true:=i_3 (by decide) (by decide)
 simp[a',d1,d2]
theorem q_9 {S R:FS}{ρ ρ':En}{x:Option D} (h:S ρ=some (.nx ρ')) (k:fnA (R ρ')=x):fnA (b_6 S R ρ)=x:=by
 rw[aR1,h];exact k
theorem y8:∀ i:Nat,i<5->A_6 ((M8 i).map (·.2)) []=true
 |0,_=>by kernel_rfl
 |1,_=>by kernel_rfl
 |2,_=>by kernel_rfl
 |3,_=>by kernel_rfl
 |4,_=>by kernel_rfl
 |i+5,h=>absurd h (by omega)
theorem y23:A_6 ((W24.take 23).map (·.2)) []=true:=by kernel_rfl
theorem n9:∀ i:Nat,i<5->riB false (pR P9 i).2 (((W24.take 23).map (·.2)).foldl l_9 [])=true
 |0,_=>by kernel_rfl
 |1,_=>by kernel_rfl
 |2,_=>by kernel_rfl
 |3,_=>by kernel_rfl
 |4,_=>by kernel_rfl
 |i+5,h=>absurd h (by omega)
theorem y24:A_6 (W24.map (·.2)) []=true:=by kernel_rfl
theorem l24:(((W24.map (·.2)).foldl l_9 []).map (·.2)).length=24:=by kernel_rfl
theorem nY:riB true (pR YT 0).2 ((W24.map (·.2)).foldl l_9 [])=true:=by kernel_rfl
theorem nA:((List.range 24).all λ a=>A_6 ((W24.take a).map (·.2)) []&&riB false (pR YT 2).2 (((W24.take a).map (·.2)).foldl l_9 []))=true:=by kernel_rfl
theorem l8:∀ i:Nat,i<5->Nat.ble (((M8 i).map (·.2)).foldl l_9 []).length 1000=true
 |0,_=>by kernel_rfl
 |1,_=>by kernel_rfl
 |2,_=>by kernel_rfl
 |3,_=>by kernel_rfl
 |4,_=>by kernel_rfl
 |i+5,h=>absurd h (by omega)
theorem k8:∀ i:Nat,i<5->okT (fs (M8 i))=true
 |0,_=>by kernel_rfl
 |1,_=>by kernel_rfl
 |2,_=>by kernel_rfl
 |3,_=>by kernel_rfl
 |4,_=>by kernel_rfl
 |i+5,h=>absurd h (by omega)
theorem k9:∀ i:Nat,i<5->okT (fs (M9 i))=true
 |0,_=>by kernel_rfl
 |1,_=>by kernel_rfl
 |2,_=>by kernel_rfl
 |3,_=>by kernel_rfl
 |4,_=>by kernel_rfl
 |i+5,h=>absurd h (by omega)
theorem k24:okT (fs W24)=true:=by kernel_rfl
theorem kY:(okT (fs (MY 0))&&okT (fs (MY 1)))=true:=by kernel_rfl
theorem kA:((List.range 24).all λ a=>okT (fs (MA 0 a))&&okT (fs (MA 1 a)))=true:=by kernel_rfl
theorem ifN {X:FE}{ρ:En} (h:X ρ=some (.non,ρ)):sIf (tB (e2 p_8 X (eC .non))) (e_1 (eC (.bl false))) sN ρ=some (.nx ρ):=by simp[h]
theorem ifE {X:FE}{ρ:En}{n:Int} (h:X ρ=some (.int n,ρ)):sIf (tB (e2 dNe X (eC (.int n)))) (e_1 (eC (.bl false))) sN ρ=some (.nx ρ):=by simp[h]
theorem if2 {X Y:FE}{ρ:En} (h1:X ρ=some (.non,ρ)) (h2:Y ρ=some (.int 24,ρ)):sIf (tOr (tB (e2 p_8 X (eC .non))) (tB (e2 dNe Y (eC (.int 24))))) (e_1 (eC (.bl false))) sN ρ=some (.nx ρ):=by simp[h1,h2]
theorem rtE {X:FE}{a:Int}{ρ:En} (h:X ρ=some (.int a,ρ)) (h7:ρ[7]?=some (.im (.int a))):fnA (e_1 (e2 dEq X (eV 7)) ρ)=some (.bl true):=by simp[h,h7]
theorem atJ {F:FE}{ρ:En}{ps:List (Str×D)}{d:D} (hF:F ρ=some (.lst (tx ps),ρ)) (ok:okT (fs ps)=true) (h:b_1 [.str (Str.join lf (fs ps))]=some d):eF b_1 (aC (g_4 (Str.ofString "\n") F) aN) ρ=some (d,ρ):=by
 have j:=(y_4 ok).1;rw[al0] at j
 generalize tx ps=T at *
 generalize Str.join lf (fs ps)=J at *
 simp[hF,j,h]
theorem bl5 {F:FE}{ρ:En}{ps:List (Str×D)}{R:List D} (hF:F ρ=some (.lst (tx ps),ρ)) (ok:okT (fs ps)=true) (h:b_2 [.str (Str.join lf (fs ps))]=some (.lst R)) (hl:R.length=24):eF g_6 (aC (eNL b_2 (aC (g_4 (Str.ofString "\n") F) aN)) aN) ρ=some (.int 24,ρ):=by
 have j:=(y_4 ok).1;rw[al0] at j;have lz:R.length<=sizeLine:=by rw[hl];exact c_2 (by decide)
 have hl':(R.length:Int)=24:=by omega
 generalize tx ps=T at *
 generalize Str.join lf (fs ps)=J at *
 simp[hF,j,h,lz,hl,hl']
theorem H_3 {T:List (Str×D)}{i:Nat} (h:i<T.length):pR T i∈T:=by
 have e:T.getD i (R "" .non)=T[i]:=by simp[List.getD,h]
 show T.getD i _∈T;rw[e];exact List.getElem_mem h
theorem B_6 {T:List (Str×D)} (h:rdB T=true) (n:Nat):rdB (T.take n)=true:=List.all_eq_true.mpr λ p hp=>List.all_eq_true.mp h p (List.mem_of_mem_take hp)
theorem aB9:rdB W24=true:=t_6 Z_9 aS2
theorem bg8 {f:Nat->Bool}{n i:Nat} (h:(List.range n).all f=true) (hi:i<n):f i=true:=List.all_eq_true.mp h i (List.mem_range.mpr hi)
theorem bg7:b_1 [.str (Str.join lf (fs W24))]=some .non/\b_2 [.str (Str.join lf (fs W24))]=some (.lst (((W24.map (·.2)).foldl l_9 []).map (·.2))) :=
 av5 (ps:=W24) k24 aB9 y24 (by decide) (by have:=l24;rw[List.length_map] at this;omega)
theorem aV2 (a b:D):f_7 [a,b]=fnA (m_5 [.im a,.im b,.no,.no,.no,.no,.no,.no]):=by kernel_rfl
theorem ac1:(W24.take 23).length=23:=rfl
theorem ac0:W24.length=24:=rfl
theorem w8 {i:Nat} (h:i<5):okT (fs (M8 i))=true/\b_1 [.str (Str.join lf (fs (M8 i)))]=some .non:=by
 have o:=k8 i h;have r:rdB (M8 i)=true:=t_6 (B_6 aB9 23) (B_7 aS3 (H_3 h));have y:=y8 i h;have z:=Nat.le_of_ble_eq_true (l8 i h)
 have l:(M8 i).length<=24:=by
  rw[List.length_append,ac1];exact qi 24
 generalize M8 i=M at *
 exact⟨o,(av5 o r y l z).1⟩
theorem w9 {i:Nat} (h:i<5):okT (fs (M9 i))=true/\b_1 [.str (Str.join lf (fs (M9 i)))]=some (.int 23):=by
 have o:=k9 i h;refine⟨o,?_⟩;have e:fs (M9 i)=fs (W24.take 23)++(pR P9 i).1::[]:=List.map_append;rw[e] at o ⊢;have z:=A_4 (ps:=W24.take 23) o (B_6 aB9 23) y23 (by rw[ac1];decide) (s_1 aS4 (H_3 h)) (n9 i h) (by rw[ac1];rfl)
 rw[ac1] at z;exact z
theorem wY:∀ {p:Nat},p<2->okT (fs (MY p))=true/\b_1 [.str (Str.join lf (fs (MY p)))]=some (.int 24):=by
 have key:∀ (us:List Str),okT (fs W24++(pR YT 0).1::us)=true->b_1 [.str (Str.join lf (fs W24++(pR YT 0).1::us))]=some (.int 24):=λ us o=>by
  have z:=A_4 (ps:=W24) o aB9 y24 (by rw[ac0];decide) (s_1 aB6 (H_3 (by decide))) nY (by rw[ac0];rfl)
  rw[ac0] at z;exact z
 have k:=(Bool.and_eq_true ..).mp kY;intro p h
 match p,h with
 |0,_=>exact⟨k.1,by
   have e:fs (MY 0)=fs W24++(pR YT 0).1::[]:=List.map_append;have o:=k.1;rw[e] at o ⊢;exact key _ o⟩
 |1,_=>exact⟨k.2,by
   have e:fs (MY 1)=fs W24++(pR YT 0).1::[(pR YT 1).1]:=List.map_append;have o:=k.2;rw[e] at o ⊢;exact key _ o⟩
theorem wA {p a:Nat} (h:p<2) (ha:a<24):okT (fs (MA p a))=true/\b_1 [.str (Str.join lf (fs (MA p a)))]=some (.int a):=by
 have oA:okT (fs (MA p a))=true:=by
  have:=(Bool.and_eq_true ..).mp (bg8 kA ha)
  match p,h with
  |0,_=>exact this.1
  |1,_=>exact this.2
 refine⟨oA,?_⟩
 have e:fs (MA p a)=fs (W24.take a)++(pR YT 2).1::fs ((MY p).drop (a+1)):=by
  show List.map _ (_++[_]++_)=_;rw[List.map_append,List.map_append,List.append_assoc];rfl
 have la:(W24.take a).length=a:=by
  rw[List.length_take,ac0];omega
 have q:=(Bool.and_eq_true ..).mp (bg8 nA ha);rw[e] at oA ⊢;have z:=A_4 (ps:=W24.take a) oA (B_6 aB9 a) q.1 (by omega) (s_1 aB6 (H_3 (by decide))) q.2 (by rw[la];simp)
 rw[la] at z;exact z
theorem t11:∀ {p a:Nat},p<2 → a<24 → ∀ (s0 s1 s2 s3 s4 s5:Sl),(e2 b_7 (e2 b_7 (l_2 (eV 6) oN (oS (eV 7))) (d_7 (aC (eC (.str "in Y 0 1")) aN))) (l_2 (eV 6) (oS (e2 b_7 (eV 7) (eC (.int 1)))) oN)) [s0,s1,s2,s3,s4,s5,.im (.lst (tx (MY p))),.im (.int a)]=some (.lst (tx (MA p a)),[s0,s1,s2,s3,s4,s5,.im (.lst (tx (MY p))),.im (.int a)])
 |0,a,_,h=>λ s0 s1 s2 s3 s4 s5=>aQ4 s0 s1 s2 s3 s4 s5 a h
 |1,a,_,h=>λ s0 s1 s2 s3 s4 s5=>aQ3 s0 s1 s2 s3 s4 s5 a h
 |p+2,a,h,_=>absurd h (by omega)
theorem ad7 {i:Nat}{ρ:En}{d:D} (h:ρ[i]?=some (.im d)):eV i ρ=some (d,ρ):=by simp[h]
theorem T_1 (c:Int):f_7 [.lst (tx BT),.int c]=some (.bl true):=by
 obtain⟨i,hi⟩:∃ i:Nat,(c / 48) % 5=i:=⟨((c / 48) % 5).toNat,by omega⟩
 obtain⟨p,hp⟩:∃ p:Nat,c % 2=p:=⟨(c % 2).toNat,by omega⟩
 obtain⟨a,ha⟩:∃ a:Nat,(c / 2) % 24=a:=⟨((c / 2) % 24).toNat,by omega⟩
 have i5:i<5:=by omega
 have p2:p<2:=by omega
 have a24:a<24:=by omega
 obtain⟨o8,q8⟩:=w8 i5;obtain⟨o9,q9⟩:=w9 i5;obtain⟨oY,qY⟩:=wY p2;obtain⟨oA,qA⟩:=wA p2 a24;rw[aV2];unfold m_5;refine q_9 (st0 c) (q_9 (st1 c) (q_9 (st2 c hi) (q_9 (st3 c i i5) (q_9 (ifN (atJ (ad7 rfl) o8 q8)) (q_9 (ifE (atJ (t6 _ _ _ _ _ i i5) o9 q9)) (q_9 (if2 (atJ (ad7 rfl) k24 bg7.1) (bl5 (ad7 rfl) k24 bg7.2 l24)) (q_9 (st7 _ hp p2) (q_9 (ifE (atJ (ad7 rfl) oY qY)) (q_9 (st9 c ha _ _ _ _ _ _) ?_)))))))));exact rtE (atJ (t11 p2 a24 _ _ _ _ _ _) oA qA) rfl
theorem law_true (ns:List Int) (hl:ns.length<=63):C_9 [.lst (ns.map .int)]=some (.bl true):=by
 obtain⟨c0,e0⟩:=D_5 ns 0 hl;have e0:a_9 [.lst (ns.map .int),.int 0]=some (.int c0):=e0;have f8:c0.fmod 8=c0 % 8:=l_1 (by decide)
 have d8:k_1 8=true:=i_3 (by decide) (by decide)
 have eb:=aI3;have ed:=aW9;have eg:=aI2;have em:=T_1 (c0.fdiv 8)
 obtain⟨ρ',e,s5,s6,s7,rfl⟩:=I_3 (g:=gN 5) (B:=m_1) (λ k ρ=>∃ s5 s6 s7,ρ=[.im (.lst (ns.map .int)),.im (.lst (tx BT)),.im (.int c0),.im (.lst (tx BadT)),.im (.lst (tx GT)),s5,s6,s7]) 4 0 [.im (.lst (ns.map .int)),.im (.lst (tx BT)),.im (.int c0),.im (.lst (tx BadT)),.im (.lst (tx GT)),.no,.no,.no] (λ k ρ _ _ p=>by
  obtain⟨s5,s6,s7,rfl⟩:=p;obtain⟨c1,e1⟩:=D_5 ns (1+k) hl;obtain⟨c5,e5⟩:=D_5 ns (5+k) hl;rw[show ((1+k:Nat):Int)=1+(k:Int) by omega] at e1
  rw[show ((5+k:Nat):Int)=5+(k:Int) by omega] at e5
  obtain⟨a,b,t⟩:=aP3 (c0:=c0) (s6:=s6) (s7:=s7) e1 e5;exact⟨_,_,rfl,t,_,a,b,rfl⟩) ⟨.no,.no,.no,rfl⟩
 have e:fGo (gN 5) m_1 (A_7 0 4) [.im (.lst (ns.map .int)),.im (.lst (tx BT)),.im (.int c0),.im (.lst (tx BadT)),.im (.lst (tx GT)),.no,.no,.no]=_:=e
 generalize tx BT=B at *
 generalize tx BadT=XX at *
 generalize tx GT=GG at *
 generalize ns.map D.int=X at *
 generalize hl1:fGo (gN 5) m_1=G1 at *
 by_cases h7:c0 % 8=7
 ·simp[C_9,av0,List.replicate,eb,e0,f8,d8,h7,em]
 ·simp[C_9,av0,List.replicate,eb,e0,f8,d8,h7,ed,eg,hl1,e]
end Fx
namespace Fx
open PySem PySem.Spec PyProof.Rows L2
theorem w_7 {K:Frag}{H:Hp}:∀ ns:List Int,Reps K H (ns.map D.int) (ns.map V.int)
 |[]=>Reps.nil_
 |n::r=>Reps.cons (d_2 H n) (w_7 r)
inductive EntF (K:Frag) (x:Str) (st:Stmt) (f:Addr):Prop
 |mk {od an:Option Addr}{sl:Array (Option Value)}{oc kV dc pm cd ct:Value} (a:nsIn K mainGlobals x=some (some (.ref f))) (l:K.lookup f=some ⟨oc,od,.func (fnOf x x (k_4 st) (e_3 st) (a_1 st) .none kV dc pm an cd ct),sl⟩) (c:codeIn K cd x=true) (k:keepIn K (.ref f)=true):EntF K x st f
inductive EntI (K:Frag) (st:Stmt) (f:Addr):Prop
 |mk {od an:Option Addr}{sl:Array (Option Value)}{oc kV dc pm cd ct:Value} (l:K.lookup f=some ⟨oc,od,.func (fnOf "__init__" "NoText.__init__" (k_4 st) (e_3 st) (a_1 st) .none kV dc pm an cd ct),sl⟩) (c:codeIn K cd "NoText.__init__"=true) (k:keepIn K (.ref f)=true):EntI K st f
theorem us1 {P:List Value->Prop} (h:∀ a0,P [a0]):∀ us:List Value,us.length=1->P us:=λ us hl=>by
 cases us with
 |nil=>exact absurd hl (by simp)
 |cons a0 us =>
 cases us with
 |nil=>exact h _
 |cons b us=>exact absurd hl (by simp)
theorem us2 {P:List Value->Prop} (h:∀ a0 a1,P [a0,a1]):∀ us:List Value,us.length=2->P us:=λ us hl=>by
 cases us with
 |nil=>exact absurd hl (by simp)
 |cons a0 us =>
 cases us with
 |nil=>exact absurd hl (by simp)
 |cons a1 us =>
 cases us with
 |nil=>exact h _ _
 |cons b us=>exact absurd hl (by simp)
theorem us3 {P:List Value->Prop} (h:∀ a0 a1 a2,P [a0,a1,a2]):∀ us:List Value,us.length=3->P us:=λ us hl=>by
 cases us with
 |nil=>exact absurd hl (by simp)
 |cons a0 us =>
 cases us with
 |nil=>exact absurd hl (by simp)
 |cons a1 us =>
 cases us with
 |nil=>exact absurd hl (by simp)
 |cons a2 us =>
 cases us with
 |nil=>exact h _ _ _
 |cons b us=>exact absurd hl (by simp)
theorem us4 {P:List Value->Prop} (h:∀ a0 a1 a2 a3,P [a0,a1,a2,a3]):∀ us:List Value,us.length=4->P us:=λ us hl=>by
 cases us with
 |nil=>exact absurd hl (by simp)
 |cons a0 us =>
 cases us with
 |nil=>exact absurd hl (by simp)
 |cons a1 us =>
 cases us with
 |nil=>exact absurd hl (by simp)
 |cons a2 us =>
 cases us with
 |nil=>exact absurd hl (by simp)
 |cons a3 us =>
 cases us with
 |nil=>exact h _ _ _ _
 |cons b us=>exact absurd hl (by simp)
theorem us5 {P:List Value->Prop} (h:∀ a0 a1 a2 a3 a4,P [a0,a1,a2,a3,a4]):∀ us:List Value,us.length=5->P us:=λ us hl=>by
 cases us with
 |nil=>exact absurd hl (by simp)
 |cons a0 us =>
 cases us with
 |nil=>exact absurd hl (by simp)
 |cons a1 us =>
 cases us with
 |nil=>exact absurd hl (by simp)
 |cons a2 us =>
 cases us with
 |nil=>exact absurd hl (by simp)
 |cons a3 us =>
 cases us with
 |nil=>exact absurd hl (by simp)
 |cons a4 us =>
 cases us with
 |nil=>exact h _ _ _ _ _
 |cons b us=>exact absurd hl (by simp)
theorem all_mk {l:OpenLaw}{w:World}{K:Frag}{h:Heap}{mg:Str → Option Value}{fa f1 f2 f3 f4 f5 f6 f7 f8 f9 f10 f11 f12 f13 f14 f15 f16 f17 f18 f19 f20 f21:Addr} (X:K.In h) (G:h.Ns mainGlobals mg) (hfa:mg "law"=some (.ref fa))
  (e1:EntF K "is_key" j_1 f1)
  (e2:EntF K "is_number" e_5 f2)
  (e3:EntF K "places_of" h_0 f3)
  (e4:EntF K "fits" F_7 f4)
  (e5:EntF K "word_value" f_9 f5)
  (e6:EntF K "in_order" j_2 f6)
  (e7:EntF K "are_unlike" g_0 f7)
  (e8:EntF K "keeps_bounds" e_7 f8)
  (e9:EntF K "read_row" c_8 f9)
  (e10:EntF K "bears_bounds" e_8 f10)
  (e11:EntF K "stands_right" b_0 f11)
  (e12:EntF K "read_works" f_3 f12)
  (e13:EntF K "shown_row" g_9 f13)
  (e14:EntF K "shown_works" d_0 f14)
  (e15:EntF K "_law_cell_at" f_5 f15)
  (e16:EntF K "_law_base" i_9 f16)
  (e17:EntF K "_law_good" i_8 f17)
  (e18:EntF K "_law_bad" k_8 f18)
  (e19:EntF K "_law_at" j_0 f19)
  (e20:EntF K "_law_many" d_8 f20)
  (e21:EntF K "law" B_3 f21)
  {tc1:_} (y1:nsIn K mainGlobals "LETTERS"=some (some (.str "abcdefghijklmnopqrstuvwxyz" tc1))) {tc2:_} (y2:nsIn K mainGlobals "LONGEST"=some (some (.int 8 tc2))) {tec30:_}{tec31:_}{tec32:_}{tec33:_}{tec34:_}{tec35:_}{tec36:_}{tec37:_}{tec38:_}{tec39:_}{ec3:Addr}{nec3:Nat}{slec3:Array (Option Value)} (lec3:K.lookup ec3=some ⟨.type "tuple",none,.seq #[.str "in" tec30,.str "time" tec31,.str "only" tec32,.str "but" tec33,.str "span" tec34,.str "rest" tec35,.str "turn" tec36,.str "later" tec37,.str "put" tec38,.str "pour" tec39] nec3,slec3⟩) (y3:nsIn K mainGlobals "CHAINS"=some (some (.ref ec3))) {tec40:_}{tec41:_}{tec42:_}{tec43:_}{ec4:Addr}{nec4:Nat}{slec4:Array (Option Value)} (lec4:K.lookup ec4=some ⟨.type "tuple",none,.seq #[.str "fixed" tec40,.str "slide" tec41,.str "gaps" tec42,.str "ever" tec43] nec4,slec4⟩) (y4:nsIn K mainGlobals "FOLDS"=some (some (.ref ec4))) {tec50:_}{tec51:_}{tec52:_}{ec5:Addr}{nec5:Nat}{slec5:Array (Option Value)} (lec5:K.lookup ec5=some ⟨.type "tuple",none,.seq #[.str "FROM" tec50,.str "LEFT" tec51,.str "RIGHT" tec52] nec5,slec5⟩) (y5:nsIn K mainGlobals "FROM_PLACES"=some (some (.ref ec5))) {tec60:_}{tec61:_}{tec62:_}{tec63:_}{tec64:_}{tec65:_}{ec6:Addr}{nec6:Nat}{slec6:Array (Option Value)} (lec6:K.lookup ec6=some ⟨.type "tuple",none,.seq #[.str "NAME" tec60,.str "FROM" tec61,.str "LEFT" tec62,.str "RIGHT" tec63,.str "KEY" tec64,.str "OTHER" tec65] nec6,slec6⟩) (y6:nsIn K mainGlobals "KEY_PLACES"=some (some (.ref ec6))) {tec70:_}{tec71:_}{tec72:_}{ec7:Addr}{nec7:Nat}{slec7:Array (Option Value)} (lec7:K.lookup ec7=some ⟨.type "tuple",none,.seq #[.str "LOW" tec70,.str "HIGH" tec71,.str "END" tec72] nec7,slec7⟩) (y7:nsIn K mainGlobals "BOUND_PLACES"=some (some (.ref ec7))) {tec80:_}{tec81:_}{tec82:_}{tec83:_}{ec8:Addr}{nec8:Nat}{slec8:Array (Option Value)} (lec8:K.lookup ec8=some ⟨.type "tuple",none,.seq #[.str "sum" tec80,.str "less" tec81,.str "left" tec82,.str "right" tec83] nec8,slec8⟩) (y8:nsIn K mainGlobals "HOWS"=some (some (.ref ec8))) {tec90:_}{tec91:_}{tec92:_}{tec93:_}{ec9:Addr}{nec9:Nat}{slec9:Array (Option Value)} (lec9:K.lookup ec9=some ⟨.type "tuple",none,.seq #[.str "count" tec90,.str "sum" tec91,.str "most" tec92,.str "least" tec93] nec9,slec9⟩) (y9:nsIn K mainGlobals "FOLD_WORDS"=some (some (.ref ec9))) {tc10:_} (y10:nsIn K mainGlobals "FIGURES"=some (some (.str "0123456789" tc10))) {tc11:_} (y11:nsIn K mainGlobals "MOST_FIGURES"=some (some (.int 12 tc11))) {tc12:_} (y12:nsIn K mainGlobals "MOST_ROWS"=some (some (.int 24 tc12))) {tc13:_} (y13:nsIn K mainGlobals "MOST_COUNTED"=some (some (.int 50 tc13)))
  {ted0_0:Tok}{tk0_0:Tok}{ted0_1:Tok}{tk0_1:Tok}{ted0_2:Tok}{tk0_2:Tok}{ted0_3:Tok}{tk0_3:Tok}{ted0_4:Tok}{tk0_4:Tok}{ted0_5:Tok}{tk0_5:Tok}{ted0_6:Tok}{tk0_6:Tok}{ted0_7:Tok}{tk0_7:Tok}{ted0_8:Tok}{tk0_8:Tok}{ted0_9:Tok}{tk0_9:Tok}{ted0_10:Tok}{tk0_10:Tok}{ted0_11:Tok}{tk0_11:Tok}{ted0_12:Tok}{tk0_12:Tok}{ted0_13:Tok}{tk0_13:Tok}{ted0_14:Tok}{tk0_14:Tok}{ted0_15:Tok}{tk0_15:Tok}{ed0:Addr}{ned0:Nat} (led0:K.lookup ed0=some {cls:=.type "dict",data:=.dict #[⟨PyData.keyHash w.params (Str.ofString "in"),.str "in" tk0_0,.str "NAME LOW HIGH" ted0_0⟩,⟨PyData.keyHash w.params (Str.ofString "time"),.str "time" tk0_1,.str "NAME FROM BEGIN END" ted0_1⟩,⟨PyData.keyHash w.params (Str.ofString "only"),.str "only" tk0_2,.str "NAME FROM KEY .." ted0_2⟩,⟨PyData.keyHash w.params (Str.ofString "but"),.str "but" tk0_3,.str "NAME FROM KEY .." ted0_3⟩,⟨PyData.keyHash w.params (Str.ofString "span"),.str "span" tk0_4,.str "NAME FROM LOW HIGH" ted0_4⟩,⟨PyData.keyHash w.params (Str.ofString "rest"),.str "rest" tk0_5,.str "NAME FROM M R" ted0_5⟩,⟨PyData.keyHash w.params (Str.ofString "turn"),.str "turn" tk0_6,.str "NAME FROM A B" ted0_6⟩,⟨PyData.keyHash w.params (Str.ofString "later"),.str "later" tk0_7,.str "NAME FROM C" ted0_7⟩,⟨PyData.keyHash w.params (Str.ofString "put"),.str "put" tk0_8,.str "NAME FROM KEY OTHER .." ted0_8⟩,⟨PyData.keyHash w.params (Str.ofString "pour"),.str "pour" tk0_9,.str "NAME FROM FROM .." ted0_9⟩,⟨PyData.keyHash w.params (Str.ofString "pair"),.str "pair" tk0_10,.str "NAME LEFT RIGHT REACH HOW" ted0_10⟩,⟨PyData.keyHash w.params (Str.ofString "fixed"),.str "fixed" tk0_11,.str "NAME FROM WIDTH FOLD" ted0_11⟩,⟨PyData.keyHash w.params (Str.ofString "slide"),.str "slide" tk0_12,.str "NAME FROM WIDTH STEP FOLD" ted0_12⟩,⟨PyData.keyHash w.params (Str.ofString "gaps"),.str "gaps" tk0_13,.str "NAME FROM GAP FOLD" ted0_13⟩,⟨PyData.keyHash w.params (Str.ofString "ever"),.str "ever" tk0_14,.str "NAME FROM FOLD" ted0_14⟩,⟨PyData.keyHash w.params (Str.ofString "ask"),.str "ask" tk0_15,.str "NAME FROM" ted0_15⟩] ned0}) (ysd0:(ed0==sysModules)=false) (yd0:nsIn K mainGlobals "FORMS"=some (some (.ref ed0)))
  {u0 u2 u3:Addr} (q0:nsIn K mainGlobals "NoText"=some (some (.ref u0)))
  (q2:nsIn K mainGlobals "WellError"=some (some (.ref u2)))
  (q3:PySem.W.findIn K (.ref u0) "__init__"=some (some (.ref u3)))
  (q4:EntI K F_6 u3)
  (q5:M_5 K u0 u3=true)
  (q6:clV K u0=true)
  (q7:PySem.W.findIn K (.ref u0) "__setattr__"=some (some (.builtin "object.__setattr__")))
  (q8:PySem.W.findIn K (.ref u0) "at"=some none)
  (q9:PySem.W.findIn K (.ref u0) "__getattribute__"=some (some (.builtin "BaseException.__getattribute__")))
  (q10:PySem.W.findIn K (.ref u0) "__getattr__"=some none)
  (q11:PySem.W.findIn K (.ref u0) "__class__"=some (some (.builtin "object.__class__")))
  (q12:PySem.W.specialIn K (.builtin "object.__class__") "__get__"=some (some (.builtin "getset_descriptor.__get__")))
  (q13:PySem.W.takesIn K (.builtin "object.__class__")=some true)
  (q14:PySem.W.mroIn K u0 (.type "object")=some true)
  (q15:PySem.W.mroIn K u0 (.type "BaseException")=some true)
  (q16:PySem.W.exmOne K (.ref u0) (.ref u2)=some true)
  (q17:PySem.W.kitOne K (.ref u0) (.ref u0)=some true)
  (q18:PySem.W.kitOne K (.type "NoneType") (.ref u0)=some false)
  (z1:nsIn K mainGlobals "abs"=some none) (z2:nsIn K mainGlobals "len"=some none) (z3:nsIn K mainGlobals "max"=some none) (z4:nsIn K mainGlobals "min"=some none) (z5:nsIn K mainGlobals "any"=some none) (z6:nsIn K mainGlobals "all"=some none) (z7:nsIn K mainGlobals "range"=some none) (z8:nsIn K mainGlobals "isinstance"=some none) (z9:nsIn K mainGlobals "int"=some none) (z10:nsIn K mainGlobals "bool"=some none) (z11:nsIn K mainGlobals "str"=some none) (z12:nsIn K mainGlobals "tuple"=some none) (z13:nsIn K mainGlobals "list"=some none) (z14:nsIn K mainGlobals "sorted"=some none) (z15:nsIn K mainGlobals "dict"=some none) (z16:nsIn K mainGlobals "set"=some none) (z17:nsIn K mainGlobals "sum"=some none) (z18:nsIn K mainGlobals "zip"=some none) (z19:nsIn K mainGlobals "enumerate"=some none) (z20:nsIn K mainGlobals "reversed"=some none) :
  ∃ fd:FuncData,(∀ (s:Shared) (v:Value),BindsTo s fd ⟨[v],[]⟩ [("_law_script",v)]) ∧ ∀ base:Heap,K.In base → base.Ns mainGlobals mg → FnOk l.prog w K mg base CX0 7 fa fd ["_law_script"] (spP K C_9):=by
 obtain⟨a1,l1,c1,k1⟩:=e1;obtain⟨a2,l2,c2,k2⟩:=e2;obtain⟨a3,l3,c3,k3⟩:=e3;obtain⟨a4,l4,c4,k4⟩:=e4;obtain⟨a5,l5,c5,k5⟩:=e5;obtain⟨a6,l6,c6,k6⟩:=e6;obtain⟨a7,l7,c7,k7⟩:=e7;obtain⟨a8,l8,c8,k8⟩:=e8;obtain⟨a9,l9,c9,k9⟩:=e9;obtain⟨a10,l10,c10,k10⟩:=e10;obtain⟨a11,l11,c11,k11⟩:=e11;obtain⟨a12,l12,c12,k12⟩:=e12;obtain⟨a13,l13,c13,k13⟩:=e13;obtain⟨a14,l14,c14,k14⟩:=e14;obtain⟨a15,l15,c15,k15⟩:=e15;obtain⟨a16,l16,c16,k16⟩:=e16;obtain⟨a17,l17,c17,k17⟩:=e17;obtain⟨a18,l18,c18,k18⟩:=e18;obtain⟨a19,l19,c19,k19⟩:=e19;obtain⟨a20,l20,c20,k20⟩:=e20;obtain @⟨od21,an21,sl21,oc21,kV21,dc21,pm21,cd21,ct21,a21,l21,c21,k21⟩:=e21;have e:=hfa.symm.trans (mg_of X G a21);cases e;obtain⟨li,ci,ki⟩:=q4;have FI:=d_1 (st:=F_6) li ci ki;have bI:=FI.binds (ps:=["self","at"]) λ _ _ _ _ _ _=>us2 λ _ _=>rfl
 have T:Blt w K mg:=⟨mg_none_of X G z1,mg_none_of X G z2,mg_none_of X G z3,mg_none_of X G z4,mg_none_of X G z5,mg_none_of X G z6,mg_none_of X G z7,mg_none_of X G z8,mg_none_of X G z9,mg_none_of X G z10,mg_none_of X G z11,mg_none_of X G z12,mg_none_of X G z13,mg_none_of X G z14,mg_none_of X G z15,mg_none_of X G z16,mg_none_of X G z17,mg_none_of X G z18,mg_none_of X G z19,mg_none_of X G z20,⟨_,mg_of X G y1⟩,⟨_,mg_of X G y2⟩,⟨_,mg_of X G y3,(p_4 lec3 (by simp) (a_6 a_7 (a_6 a_7 (a_6 a_7 (a_6 a_7 (a_6 a_7 (a_6 a_7 (a_6 a_7 (a_6 a_7 (a_6 a_7 (a_6 a_7 k_3)))))))))))⟩,⟨_,mg_of X G y4,(p_4 lec4 (by simp) (a_6 a_7 (a_6 a_7 (a_6 a_7 (a_6 a_7 k_3)))))⟩,⟨_,mg_of X G y5,(p_4 lec5 (by simp) (a_6 a_7 (a_6 a_7 (a_6 a_7 k_3))))⟩,⟨_,mg_of X G y6,(p_4 lec6 (by simp) (a_6 a_7 (a_6 a_7 (a_6 a_7 (a_6 a_7 (a_6 a_7 (a_6 a_7 k_3)))))))⟩,⟨_,mg_of X G y7,(p_4 lec7 (by simp) (a_6 a_7 (a_6 a_7 (a_6 a_7 k_3))))⟩,⟨_,mg_of X G y8,(p_4 lec8 (by simp) (a_6 a_7 (a_6 a_7 (a_6 a_7 (a_6 a_7 k_3)))))⟩,⟨_,mg_of X G y9,(p_4 lec9 (by simp) (a_6 a_7 (a_6 a_7 (a_6 a_7 (a_6 a_7 k_3)))))⟩,⟨_,mg_of X G y10⟩,⟨_,mg_of X G y11⟩,⟨_,mg_of X G y12⟩,⟨_,mg_of X G y13⟩,⟨_,mg_of X G yd0,_,_,led0,ysd0,(.cons a_7 (.cons a_7 (.cons a_7 (.cons a_7 (.cons a_7 (.cons a_7 (.cons a_7 (.cons a_7 (.cons a_7 (.cons a_7 (.cons a_7 (.cons a_7 (.cons a_7 (.cons a_7 (.cons a_7 (.cons a_7 .nil)))))))))))))))),by decide⟩,⟨u0,u2,u3,_,mg_of X G q0,mg_of X G q2,q5,⟨q7,q8,aJ9 q6⟩,⟨aJ8 q14,q9,q10,q11,q12,q13,q14,q15⟩,q16,q17,q18,FI,bI⟩⟩
 have F1:=d_1 (st:=j_1) l1 c1 k1;have b1:=F1.binds (ps:=["x"]) λ _ _ _ _ _ _=>us1 λ _=>rfl
 have F2:=d_1 (st:=e_5) l2 c2 k2;have b2:=F2.binds (ps:=["word"]) λ _ _ _ _ _ _=>us1 λ _=>rfl
 have F3:=d_1 (st:=h_0) l3 c3 k3;have b3:=F3.binds (ps:=["word","count"]) λ _ _ _ _ _ _=>us2 λ _ _=>rfl
 have F4:=d_1 (st:=F_7) l4 c4 k4;have b4:=F4.binds (ps:=["place","word"]) λ _ _ _ _ _ _=>us2 λ _ _=>rfl
 have F5:=d_1 (st:=f_9) l5 c5 k5;have b5:=F5.binds (ps:=["word"]) λ _ _ _ _ _ _=>us1 λ _=>rfl
 have F6:=d_1 (st:=j_2) l6 c6 k6;have b6:=F6.binds (ps:=["low","high"]) λ _ _ _ _ _ _=>us2 λ _ _=>rfl
 have F7:=d_1 (st:=g_0) l7 c7 k7;have b7:=F7.binds (ps:=["names"]) λ _ _ _ _ _ _=>us1 λ _=>rfl
 have F8:=d_1 (st:=e_7) l8 c8 k8;have b8:=F8.binds (ps:=["word","froms","rest"]) λ _ _ _ _ _ _=>us3 λ _ _ _=>rfl
 have F9:=d_1 (st:=c_8) l9 c9 k9;have b9:=F9.binds (ps:=["text"]) λ _ _ _ _ _ _=>us1 λ _=>rfl
 have F10:=d_1 (st:=e_8) l10 c10 k10;have b10:=F10.binds (ps:=["fold","above","low"]) λ _ _ _ _ _ _=>us3 λ _ _ _=>rfl
 have F11:=d_1 (st:=b_0) l11 c11 k11;have b11:=F11.binds (ps:=["row","above"]) λ _ _ _ _ _ _=>us2 λ _ _=>rfl
 have F12:=d_1 (st:=f_3) l12 c12 k12;have b12:=F12.binds (ps:=["text"]) λ _ _ _ _ _ _=>us1 λ _=>rfl
 have F13:=d_1 (st:=g_9) l13 c13 k13;have b13:=F13.binds (ps:=["row"]) λ _ _ _ _ _ _=>us1 λ _=>rfl
 have F14:=d_1 (st:=d_0) l14 c14 k14;have b14:=F14.binds (ps:=["works"]) λ _ _ _ _ _ _=>us1 λ _=>rfl
 have F15:=d_1 (st:=f_5) l15 c15 k15;have b15:=F15.binds (ps:=["_law_script","_law_k"]) λ _ _ _ _ _ _=>us2 λ _ _=>rfl
 have F16:=d_1 (st:=i_9) l16 c16 k16;have b16:=F16.binds (ps:=[]) λ _ _ _ _ _ _ us hl=>match us,hl with |[],_=>rfl
 have F17:=d_1 (st:=i_8) l17 c17 k17;have b17:=F17.binds (ps:=[]) λ _ _ _ _ _ _ us hl=>match us,hl with |[],_=>rfl
 have F18:=d_1 (st:=k_8) l18 c18 k18;have b18:=F18.binds (ps:=[]) λ _ _ _ _ _ _ us hl=>match us,hl with |[],_=>rfl
 have F19:=d_1 (st:=j_0) l19 c19 k19;have b19:=F19.binds (ps:=["_law_text"]) λ _ _ _ _ _ _=>us1 λ _=>rfl
 have F20:=d_1 (st:=d_8) l20 c20 k20;have b20:=F20.binds (ps:=["_law_rows","_law_cell"]) λ _ _ _ _ _ _=>us2 λ _ _=>rfl
 have F21:=d_1 (st:=B_3) l21 c21 k21;have b21:=F21.binds (ps:=["_law_script"]) λ _ _ _ _ _ _=>us1 λ _=>rfl
 refine⟨fnOf "law" "law" (k_4 B_3) (e_3 B_3) (a_1 B_3) .none kV21 dc21 pm21 an21 cd21 ct21,λ s v=>.of_eq rfl,λ base _ _=>?_⟩
 have G1:DefOk l.prog w K mg base 1 "is_key" n_8:=S_0 F1 b1 (mg_of X G a1) T;have G2:DefOk l.prog w K mg base 1 "is_number" e_6:=x_9 F2 b2 (mg_of X G a2) T;have G3:DefOk l.prog w K mg base 1 "places_of" h_3:=x_8 F3 b3 (mg_of X G a3) T;have G6:DefOk l.prog w K mg base 1 "in_order" j_5:=C_7 F6 b6 (mg_of X G a6) T;have G7:DefOk l.prog w K mg base 1 "are_unlike" d_9:=u_3 F7 b7 (mg_of X G a7) T;have G10:DefOk l.prog w K mg base 1 "bears_bounds" f_0:=o_9 F10 b10 (mg_of X G a10) T;have G13:DefOk l.prog w K mg base 1 "shown_row" c_5:=x_7 F13 b13 (mg_of X G a13) T;have G15:DefOk l.prog w K mg base 1 "_law_cell_at" a_9:=q_6 F15 b15 (mg_of X G a15) T;have G16:DefOk l.prog w K mg base 1 "_law_base" g_8:=C_6 F16 b16 (mg_of X G a16) T;have G17:DefOk l.prog w K mg base 1 "_law_good" g_7:=C_5 F17 b17 (mg_of X G a17) T;have G18:DefOk l.prog w K mg base 1 "_law_bad" i_4:=L_3 F18 b18 (mg_of X G a18) T;have G4:DefOk l.prog w K mg base 2 "fits" H_4:=ao6 F4 b4 (mg_of X G a4) T G1 G2;have G5:DefOk l.prog w K mg base 2 "word_value" g_1:=u_1 F5 b5 (mg_of X G a5) T G2;have G8:DefOk l.prog w K mg base 2 "keeps_bounds" e_9:=o_8 F8 b8 (mg_of X G a8) T G7 G6;have G11:DefOk l.prog w K mg base 2 "stands_right" b_5:=o_7 F11 b11 (mg_of X G a11) T G10;have G14:DefOk l.prog w K mg base 2 "shown_works" c_4:=q_5 F14 b14 (mg_of X G a14) T G13;have G9:DefOk l.prog w K mg base 3 "read_row" c_3:=C_3 F9 b9 (mg_of X G a9) T G4 G8 G3 G5;have G12:DefN l.prog w K mg base 4 "read_works" b_2:=u_2 F12 b12 (mg_of X G a12) T G9 G11;have GX:DefX l.prog w K mg base 4 "read_works" b_9:=q_7 F12 b12 (mg_of X G a12) T G9 G11;have G19:DefOk l.prog w K mg base 5 "_law_at" b_1:=R_9 F19 b19 (mg_of X G a19) T GX;have G20:DefOk l.prog w K mg base 6 "_law_many" f_7:=C_4 F20 b20 (mg_of X G a20) T G19 G12;exact aH0 F21 T G19 G18 G16 G15 G17 G20 G12 G14
theorem walk {l:OpenLaw}{q:Program}{loose:List Str}{XP:(Str->Option Value)->Heap->Prop}{YP:World->Heap->Prop}{d:DefRec}{K:Params->Frag} (hn:l.most=some 63) (hdf:d.params.defaults=[])
  (hY:∀ (w:World) (h:Heap),YP w h->(K w.params).In h)
  (F:∀ (w:World) (mg:Str->Option Value) (fa:Addr) (h:Heap),(K w.params).In h->h.Ns mainGlobals mg->mg d.name=some (.ref fa) ->
   ∃ fd:FuncData,(∀ (s:Shared) (u:Value),BindsTo s fd ⟨[u],[]⟩ [("_law_script",u)]) ∧ ∀ base:Heap,(K w.params).In base → base.Ns mainGlobals mg → FnOk l.prog w (K w.params) mg base CX0 7 fa fd ["_law_script"] (spP (K w.params) C_9)) :
  PySem.W.WalkO q loose XP YP l.row.toRowW d [] (λ f vs=>PySem.call f vs) :=
 L2.walk_of (n:=63) (k:=7) (x:="_law_script") (CX:=λ _=>CX0) (sp:=λ w=>spP (K w.params) C_9) hn (by decide) hdf ⟨rfl,by decide,by decide⟩ hY F
  (λ w H a ns hl _ hS=>⟨H,[.lst (ns.map .int)],.bl true,Same.refl _,Reps.one (by unfold Rep;exact⟨a,_,rfl,hS,w_7 ns⟩),law_true ns hl,λ v Hi' H' S r=>by unfold Rep at r;exact r⟩) λ _ _ _ _ _ z=>z
end Fx
open PySem PySem.W PyProof.Rows
def PySem.W.Fast.tw2448858259249871454:=0
def PySem.W.Fast.tw12133699682286922659:=0
def PySem.W.Fast.tw9099065260767231215:=0
def PySem.W.Fast.tw551035206961861987:=0
def PySem.W.Fast.tw16344827208578131321:=0
def PySem.W.Fast.tw4140583000671414415:=0
def PySem.W.Fast.tw11835600131927158548:=0
def PySem.W.Fast.tw12651833820692049377:=0
def PySem.W.Fast.tw6100375396066757236:=0
def PySem.W.Fast.tw765539376749951125:=0
def PySem.W.Fast.tw8329963452005044802:=0
def PySem.W.Fast.tw16736437193287013727:=0
def PySem.W.Fast.tw11689463690172035546:=0
def PySem.W.Fast.tw10189893073746822080:=0
def PySem.W.Fast.tw3069609648412670098:=0
def PySem.W.Fast.tw16123355458653870209:=0
def PySem.W.Fast.tw17294530827658207583:=0
def PySem.W.Fast.tw1479780517718658656:=0
def PySem.W.Fast.tw6326825864015335131:=0
def PySem.W.Fast.tw17738037224683029570:=0
def PySem.W.Fast.tw2711957448478003641:=0
def PySem.W.Fast.tw15984589729841290841:=0
def PySem.W.Fast.tw442529607149885426:=0
def PySem.W.Fast.tw6342413260125100306:=0
def PySem.W.Fast.tw15830638030492127763:=0
def PySem.W.Fast.tw8859563996312856704:=0
def PySem.W.Fast.tw10471487480772428802:=0
def PySem.W.Fast.tw10681778921192482525:=0
def PySem.W.Fast.tw12586816134691478500:=0
def PySem.W.Fast.tw311155153569648217:=0
set_option maxRecDepth 100000 in
set_option maxHeartbeats 0 in
theorem PySem.Challenge.cw_latewell_k23_rows_at_their_bounds_holds : PySem.Challenge.rw_latewell_k23_rows_at_their_bounds.Holds := by
 w_on;o_law;k_head;(case hw=>w_witness2)
 k_fill
 refine Fx.walk (l:=PySem.Challenge.rw_latewell_k23_rows_at_their_bounds) rfl rfl (λ w h Y=>PySem.W.kIn_of Y) ?F
 case F =>
  intro w mg fa h KX G hmg;refine' Fx.all_mk KX G hmg ?e1 ?e2 ?e3 ?e4 ?e5 ?e6 ?e7 ?e8 ?e9 ?e10 ?e11 ?e12 ?e13 ?e14 ?e15 ?e16 ?e17 ?e18 ?e19 ?e20 ?e21 ?y1 ?y2 ?lec3 ?y3 ?lec4 ?y4 ?lec5 ?y5 ?lec6 ?y6 ?lec7 ?y7 ?lec8 ?y8 ?lec9 ?y9 ?y10 ?y11 ?y12 ?y13 ?led0 ?ysd0 ?yd0 ?q0 ?q2 ?q3 ?q4 ?q5 ?q6 ?q7 ?q8 ?q9 ?q10 ?q11 ?q12 ?q13 ?q14 ?q15 ?q16 ?q17 ?q18 ?z1 ?z2 ?z3 ?z4 ?z5 ?z6 ?z7 ?z8 ?z9 ?z10 ?z11 ?z12 ?z13 ?z14 ?z15 ?z16 ?z17 ?z18 ?z19 ?z20
  all_goals try (refine' Fx.EntF.mk ?a ?l ?c ?k;(case a=>k_is);(case l=>k_is);(case c=>k_is);(case k=>k_is))
  (case y1=>k_is)
  (case y2=>k_is)
  (case y3=>k_is)
  (case y4=>k_is)
  (case y5=>k_is)
  (case y6=>k_is)
  (case y7=>k_is)
  (case y8=>k_is)
  (case y9=>k_is)
  (case y10=>k_is)
  (case y11=>k_is)
  (case y12=>k_is)
  (case y13=>k_is)
  (case lec3=>k_is)
  (case lec4=>k_is)
  (case lec5=>k_is)
  (case lec6=>k_is)
  (case lec7=>k_is)
  (case lec8=>k_is)
  (case lec9=>k_is)
  (case yd0=>k_is)
  (case ysd0=>rfl)
  (case led0=>k_is)
  (case q0=>k_is)
  (case q2=>k_is)
  (case q3=>k_is)
  (case q4=>refine' Fx.EntI.mk ?l ?c ?k;(case l=>k_is);(case c=>k_is);(case k=>k_is))
  (case q5=>kernel_rfl)
  (case q6=>kernel_rfl)
  (case q7=>k_is)
  (case q8=>k_is)
  (case q9=>k_is)
  (case q10=>k_is)
  (case q11=>k_is)
  (case q12=>k_is)
  (case q13=>k_is)
  (case q14=>k_is)
  (case q15=>k_is)
  (case q16=>kts_exm)
  (case q17=>kit_is)
  (case q18=>kit_is)
  (case z1=>k_is)
  (case z2=>k_is)
  (case z3=>k_is)
  (case z4=>k_is)
  (case z5=>k_is)
  (case z6=>k_is)
  (case z7=>k_is)
  (case z8=>k_is)
  (case z9=>k_is)
  (case z10=>k_is)
  (case z11=>k_is)
  (case z12=>k_is)
  (case z13=>k_is)
  (case z14=>k_is)
  (case z15=>k_is)
  (case z16=>k_is)
  (case z17=>k_is)
  (case z18=>k_is)
  (case z19=>k_is)
  (case z20=>k_is)
