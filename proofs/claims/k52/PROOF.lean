import PyProof.Rows.All
import Wide.All
import OpenK.AllK
import Wide.FinOn
import Lean
import PyProof.EqAt
import PyProof.EqKinds
import PyProof.TupleCall
import PySem.Sem
import PySem.Builtin.Int.W1All
import PyProof.StrBlockI
import PyProof.Rows.SortStr
import PyProof.TupleOfSeq
import PyProof.AttrMissHeap
import PyProof.TupleIter
import PyProof.DictUpdate
import PyProof.ListNew
import KE.KDictOf
import PyProof.SetKind
import PyProof.DictKinds
import PyProof.SeqWrite
import PyProof.CollectWalk
import PyProof.FactsAll.set_1
import PyProof.FactsAll.set_2
import PyProof.FactsAll.set_3
import PyProof.Rows.SetFrom
import PyProof.StrBlock2
import KE.KEqDict
import PyProof.InstStoreFacts
import PyProof.LayNew
import PyProof.ExcInit
import PyProof.ExcClass3
import KE.KSortTup
import KE.KIntText
import PyProof.Rows.StrNews
import PyProof.Rows.StrItems
import PyProof.EnumMake
import PyProof.EnumFor
import PyProof.EnumStmt
import PyProof.EnumIter
import KE.KRevIter
import KE.KDictList
import PyProof.SetRoads
import PyProof.ZipIter
import PyProof.Rows.TupIter
import PyProof.Walks
import PyProof.WalksS
import PyProof.FactsAll.tuple_iterator
import PyProof.TupleOfGen
import PyProof.Rows.SumAny
import KE.KDictLaws
import PyProof.Rows.SortWalk
import PyProof.AutoSeq1
import PyProof.DictRoadsH
import PySem.Challenge.RW_latewell_k52_gaps_turned_by_boxes
set_option Elab.async false
set_option linter.all false
set_option maxRecDepth 100000
set_option maxHeartbeats 4000000
noncomputable section
open PySem.W (Frag nsIn mg_of mg_none_of fnOf codeIn keepIn OpenLaw)
section
open PySem PyProof.Rows
abbrev qb:=@wpAny_bind
abbrev qc:=@wpAny_pure
abbrev qd:=@Heap.get?_push_of_some
abbrev qg:=@List.mem_cons_self
abbrev qh:=@List.mem_cons_of_mem
abbrev qi:=@Option.some.inj
abbrev qj:=@Nat.le_refl
abbrev qk:=@Heap.get?_push_size
abbrev qm:=@Heap.lt_size
abbrev qo:=@List.mem_append_right
abbrev qp:=@List.mem_append_left
abbrev qr:=@Nat.lt_of_lt_of_le
abbrev qt:=@Nat.ne_of_lt
theorem qv{α:Type _}{a b:α}{l:List α}(h:a∈b::l):a=b\/a∈l:=List.mem_cons.mp h
theorem qw{α:Type _}{a:α}{l k:List α}(h:a∈l++k):a∈l\/a∈k:=List.mem_append.mp h
end
namespace L2
open PySem PySem.Spec PyProof.Rows
abbrev Key:=Sum Int Str
noncomputable def aa0:Key->Value->Bool
 |.inl k,v=>Value.isInt k v
 |.inr x,v=>Value.isStrOf x v
noncomputable def keyH (w:World):Key->Int
 |.inl k=>hashInt k
 |.inr x=>hashStr w x
theorem g_3:∀ {k:Key}{v:Value},aa0 k v=true->(∃ i t,k=Sum.inl i/\v=Value.int i t)\/(∃ x t,k=Sum.inr x/\v=Value.str x t)
 |.inl i,v,h=>by
  obtain⟨t,e⟩:=Value.isInt_shape (k:=i) (v:=v) h;exact .inl ⟨i,t,rfl,e⟩
 |.inr x,v,h=>by
  obtain⟨t,e⟩:=Value.isStrOf_shape (x:=x) (v:=v) h;exact .inr ⟨x,t,rfl,e⟩
theorem ag3 (i:Int) (t:Tok):aa0 (.inl i) (.int i t)=true:=by simp[aa0,Value.isInt]
theorem ag2 (x:Str) (t:Tok):aa0 (.inr x) (.str x t)=true:=by simp[aa0,Value.isStrOf]
theorem aS2 (a b:Int):decide ((Sum.inl a:Key)=Sum.inl b)=(a==b):=by
 by_cases e:a=b
 ·subst e;simp
 ·have h:¬ (Sum.inl a:Key)=Sum.inl b:=λ q=>e (Sum.inl.inj q)
  rw[decide_eq_false h];exact (beq_eq_false_iff_ne.mpr e).symm
theorem aR9 (a b:Str):decide ((Sum.inr a:Key)=Sum.inr b)=decide (a=b):=by
 by_cases e:a=b
 ·subst e;simp
 ·have h:¬ (Sum.inr a:Key)=Sum.inr b:=λ q=>e (Sum.inr.inj q)
  rw[decide_eq_false h,decide_eq_false e]
theorem aS1 (a:Int) (b:Str):decide ((Sum.inl a:Key)=Sum.inr b)=false:=decide_eq_false (λ q=>nomatch q)
theorem aS0 (a:Str) (b:Int):decide ((Sum.inr a:Key)=Sum.inl b)=false:=decide_eq_false (λ q=>nomatch q)
noncomputable def c_2 (prog:Program) (w:World):PySem.KeyKind prog w Key where
 is:=aa0
 hash:=keyH w
 inj:=λ v a b Z R=>by
  rcases g_3 Z with ⟨i,t,rfl,rfl⟩ | ⟨x,t,rfl,rfl⟩
  ·rcases g_3 R with ⟨j,u,rfl,e⟩ | ⟨y,u,rfl,e⟩
   ·injection e with e1 _;rw[e1]
   ·exact nomatch e
  ·rcases g_3 R with ⟨j,u,rfl,e⟩ | ⟨y,u,rfl,e⟩
   ·exact nomatch e
   ·injection e with e1 _;rw[e1]
 byValue:=λ k v h=>by
  rcases g_3 h with ⟨i,t,rfl,rfl⟩ | ⟨x,t,rfl,rfl⟩ <;> rfl
 pyHash:=λ O h=>by
  rcases g_3 O with ⟨i,t,rfl,rfl⟩ | ⟨x,t,rfl,rfl⟩
  ·exact wpAny_pyHash_int h
  ·exact wpAny_pyHash_str h
 eqBool:=λ Y O h=>by
  rcases g_3 Y with ⟨i,t,rfl,rfl⟩ | ⟨x,t,rfl,rfl⟩
  ·rcases g_3 O with ⟨j,u,rfl,rfl⟩ | ⟨y,u,rfl,rfl⟩
   ·rw[aS2] at h;exact wpAny_eqBool_int h
   ·rw[aS1] at h;exact SeqAt.EqAt.int_str i t y u _ _ _ _ h
  ·rcases g_3 O with ⟨j,u,rfl,rfl⟩ | ⟨y,u,rfl,rfl⟩
   ·rw[aS0] at h;exact SeqAt.EqAt.str_int x t j u _ _ _ _ h
   ·rw[aR9] at h;exact wpAny_eqBool_str h
 «strs»:=λ k x t v h=>by
  rcases g_3 h with ⟨i,u,rfl,e⟩ | ⟨y,u,rfl,e⟩
  ·exact nomatch e
  ·injection e with e1 _
   subst e1;cases v <;> rfl
theorem R_8 (prog:Program) (w:World) (i:Int) (t:Tok):(c_2 prog w).is (.inl i) (.int i t)=true:=ag3 i t
theorem t_4 (prog:Program) (w:World) (x:Str) (t:Tok):(c_2 prog w).is (.inr x) (.str x t)=true:=ag2 x t
inductive V where
 |non | bl (b:Bool) | int (i:Int) | str (x:Str) | byt (b:Array UInt8) | flt (b:UInt64) | ref (a:Addr) | ty (n:String)
 deriving DecidableEq
noncomputable def RelV:V->Value->Prop
 |.non,u=>u=Value.none
 |.bl b,u=>u=Value.bool b
 |.int i,u=>∃ t,u=Value.int i t
 |.str x,u=>∃ t,u=Value.str x t
 |.byt b,u=>∃ t,u=Value.bytes b t
 |.flt b,u=>∃ t,u=Value.float b t
 |.ref a,u=>u=Value.ref a
 |.ty n,u=>u=Value.type n
abbrev Vals:List V->List Value->Prop:=Paired RelV
theorem Vals.length {xs:List V}{us:List Value} (r:Vals xs us):xs.length=us.length:=Paired.length r
theorem Vals.get:∀ {xs:List V}{us:List Value}{i:Nat}{x:V},Vals xs us->xs[i]?=some x->∃ u,us[i]?=some u/\RelV x u
 |_,_,_,_,.nil,e=>by simp at e
 |_,_,0,_,.cons r _,e=>by simp at e;subst e;exact⟨_,rfl,r⟩
 |_,_,i+1,x,.cons _ t,e=>by
  obtain⟨u,h1,h2⟩:=Vals.get (i:=i) (x:=x) t (by simpa using e)
  exact⟨u,by simpa using h1,h2⟩
theorem Vals.set {x:V}{u:Value} (r:RelV x u):∀ {xs:List V}{us:List Value} (i:Nat),Vals xs us->Vals (xs.set i x) (us.set i u)
 |_,_,_,.nil=>.nil
 |_,_,0,.cons _ t=>.cons r t
 |_,_,i+1,.cons q t=>.cons q (Vals.set r i t)
theorem Vals.append:∀ {xs ys:List V}{us O:List Value},Vals xs us->Vals ys O->Vals (xs++ys) (us++O)
 |_,_,_,_,.nil,s=>s
 |_,_,_,_,.cons r t,s=>.cons r (Vals.append t s)
theorem Vals.take:∀ {xs:List V}{us:List Value} (n:Nat),Vals xs us->Vals (xs.take n) (us.take n)
 |_,_,0,_=>.nil
 |_,_,_+1,.nil=>.nil
 |_,_,n+1,.cons r t=>.cons r (Vals.take n t)
theorem Vals.drop:∀ {xs:List V}{us:List Value} (n:Nat),Vals xs us->Vals (xs.drop n) (us.drop n)
 |_,_,0,r=>r
 |_,_,_+1,.nil=>.nil
 |_,_,n+1,.cons _ t=>Vals.drop n t
noncomputable def RelO:Option V->Option Value->Prop
 |some v,some u=>RelV v u
 |none,none=>True
 |_,_=>False
noncomputable def KV {κ:Type}:List (κ×V)->List (κ×Value)->Prop:=Paired λ (p:κ×V) (q:κ×Value)=>p.1=q.1/\RelV p.2 q.2
noncomputable def kV:Key->V
 |.inl i=>.int i
 |.inr x=>.str x
inductive HO where
 |lst (xs:List V)
 |tup (xs:List V)
 |dK (kvs:List (Key×V)) | dT (kvs:List (List Key×V))
 |set (S:Int->Bool) (n:Nat)
 |ins (C dx:Addr) (fs:List (Str×V))
 |own (x:Addr)
 |xd (fs:List (Str×V))
 |met (f x:Addr)
 |rng (lo hi:Int)
 |frz (o:Obj) (u:HO)
 |tbl (ps:Array Value)
 |ext (φ:Heap->Prop)
abbrev Hp:=Addr->Option HO
noncomputable def upd (H:Hp) (a:Addr) (o:HO):Hp:=λ b=>if b=a then some o else H b
theorem a_9 {H:Hp}{a:Addr}{o:HO}:upd H a o a=some o:=by unfold upd;rw[if_pos rfl]
theorem a_8 {H:Hp}{a b:Addr}{o:HO} (h:b≠a):upd H a o b=H b:=by unfold upd;rw[if_neg h]
theorem Z_5 {H:Hp}{a b:Addr}{o u:HO} (h:H a=some o) (h':H b=some u) (d:o≠u):a≠b:=by
 intro e;subst e;rw[h] at h';exact d (qi h')
theorem a_2 {H:Hp}{a b:Addr}{o:HO} (h:H a=some o) (h':H b=none):a≠b:=by
 intro e;subst e;rw[h] at h';cases h'
noncomputable def IsTuN (h:Heap) (a:Addr) (items:Array Value):Prop:=∃ o,h.get? a=some o ∧ o.cls=.type "tuple" ∧ (∃ n,o.data=.seq items n) ∧ o.dict=none
theorem IsTuN.tup {h:Heap}{a:Addr}{items:Array Value} (x:IsTuN h a items):IsTup h a items:=let ⟨o,p,q,⟨n,r⟩,_⟩:=x;⟨o,p,q,n,r⟩
theorem IsTuN.new (h:Heap) (items:Array Value):IsTuN (h.push {cls:=.type "tuple",data:=.seq items}) h.objs.size items:=⟨_,qk _ rfl,rfl,⟨0,rfl⟩,rfl⟩
section
variable (P:Program) (w:World)
noncomputable def ObjOk (H:Hp) (h:Heap) (a:Addr):HO->Prop
 |.lst xs=>xs.length ≤ sizeLine ∧ ∃ (O:List Value) (n:Nat),Vals xs O ∧ h.get? a=some {cls:=.type "list",data:=.seq O.toArray n}
 |.tup xs=>xs.length<=sizeLine/\∃ O:List Value,Vals xs O/\IsTuN h a O.toArray
 |.dK kvs=>kvs.length<=sizeLine/\(a==sysModules)=false/\∃ vs,KV kvs vs/\h.DictOf (c_2 P w) a vs
 |.dT kvs=>kvs.length<=sizeLine/\(a==sysModules)=false/\∃ xs:List (List Key×Addr×Value),
   Paired (λ (p:List Key×V) (q:List Key×Addr×Value)=>p.1=q.1/\H q.2.1=some (.tup (p.1.map kV))/\RelV p.2 q.2.2) kvs xs /\
   ∃ o es ep,h.get? a=some o/\o.ExactDict/\o.data=.dict es ep/\es.toList=xs.map (entryOfKey (tupleKind (c_2 P w)))/\(xs.map (·.1)).Nodup
 |.set S n=>h.SetOf (intKind P w) a S n
 |.ins C Y fs=>H Y=some (.own a)/\fs.length<=1000/\Y≠a/\h.get? a=some (PySem.W.instObj C Y) /\
   ∃ R,h.Ns1 Y R/\(∀ f,RelO (fs.lookup f) (R f))/\PySem.Within R (fs.map (·.1))
 |.own _=>∃ o,h.get? a=some o
 |.xd fs=>∃ R,h.Ns1 a R/\∀ f,RelO (fs.lookup f) (R f)
 |.rng lo hi=>∃ t u v,h.get? a=some {cls:=.type "range",data:=.fields #[.int lo t,.int hi u,.int 1 v]}
 |.frz o u=>h.get? a=some o/\ObjOk H h a u
 |.tbl ps=>h.get? a=some {cls:=.none,data:=.fields ps}
 |.met f x=>h.get? a=some (PySem.W.methodObj (.ref f) (.ref x))
 |.ext Z=>Z h/\(∃ o,h.get? a=some o)/\∀ h1 h2:Heap,Z h1->(∀ o,h1.get? a=some o->h2.get? a=some o)->Z h2
noncomputable def HOk (H:Hp) (h:Heap):Prop:=∀ a o,H a=some o->ObjOk P w H h a o
end
section
variable {P:Program}{w:World}{H H':Hp}{h h':Heap}{a:Addr}{o:HO}
theorem ObjOk.lt (x:ObjOk P w H h a o):a<h.objs.size:=by
 cases o with
 |lst xs=>obtain⟨_,_,_,_,e⟩:=x;exact qm e
 |tup xs=>obtain⟨_,_,_,p⟩:=x;exact p.tup.lt
 |dK kvs=>obtain⟨_,_,_,_,o,_,_,e,_⟩:=x;exact qm e
 |dT kvs=>obtain⟨_,_,_,_,o,_,_,e,_⟩:=x;exact qm e
 |set S n=>obtain⟨o,_,_,_,e,_⟩:=x;exact qm e
 |ins C R fs=>obtain⟨_,_,_,e,_⟩:=x;exact qm e
 |own y=>obtain⟨_,e⟩:=x;exact qm e
 |xd fs=>obtain⟨_,⟨_,_,_,e,_⟩,_⟩:=x;exact qm e
 |rng lo hi=>obtain⟨_,_,_,e⟩:=x;exact qm e
 |frz ob u=>obtain⟨e,_⟩:=x;exact qm e
 |tbl ps=>exact qm (show h.get? a=some _ from x)
 |met f y=>exact qm (show h.get? a=some _ from x)
 |ext O=>obtain⟨_,⟨_,e⟩,_⟩:=x;exact qm e
theorem Paired.mapP {α Y:Type}{F G:α->Y->Prop}:∀ {R:List α}{O:List Y},Paired F R O->(∀ a b,F a b->G a b)->Paired G R O
 |[],_,h,_=>by cases h;exact .nil
 |x::l,_,h,f=>by
  cases h with
  |cons r t=>exact .cons (f _ _ r) (Paired.mapP t f)
theorem ObjOk.stay (x:ObjOk P w H h a o) (k:∀ b u,(b=a\/H b=some (.own a))->h.get? b=some u->h'.get? b=some u)
  (ho:∀ b,H b=some (.own a)->H' b=some (.own a)) (ht:∀ b xs,H b=some (.tup xs)->H' b=some (.tup xs)):ObjOk P w H' h' a o:=by
 induction o with
 |lst xs=>obtain⟨z,R,n,r,e⟩:=x;exact⟨z,R,n,r,k _ _ (.inl rfl) e⟩
 |tup xs=>obtain⟨z,R,r,ob,e,c⟩:=x;exact⟨z,R,r,ob,k _ _ (.inl rfl) e,c⟩
 |dK kvs=>obtain⟨z,y,vs,r,ob,es,O,e,c⟩:=x;exact⟨z,y,vs,r,ob,es,O,k _ _ (.inl rfl) e,c⟩
 |dT kvs =>
  obtain⟨z,y,xs,r,ob,es,O,e,c⟩:=x;exact⟨z,y,xs,Paired.mapP r λ p q z=>⟨z.1,ht _ _ z.2.1,z.2.2⟩,ob,es,O,k _ _ (.inl rfl) e,c⟩
 |set S n=>obtain⟨ob,es,O,t,e,c⟩:=x;exact⟨ob,es,O,t,k _ _ (.inl rfl) e,c⟩
 |ins C dx fs =>
  obtain⟨d,z,ne,e,Z,⟨Y,es,O,e2,c⟩,r⟩:=x;exact⟨ho _ d,z,ne,k _ _ (.inl rfl) e,Z,⟨Y,es,O,k _ _ (.inr d) e2,c⟩,r⟩
 |own y=>obtain⟨ob,e⟩:=x;exact⟨ob,k _ _ (.inl rfl) e⟩
 |xd fs=>obtain⟨Z,⟨Y,es,O,e,c⟩,r⟩:=x;exact⟨Z,⟨Y,es,O,k _ _ (.inl rfl) e,c⟩,r⟩
 |rng lo hi=>obtain⟨t,u,v,e⟩:=x;exact⟨t,u,v,k _ _ (.inl rfl) e⟩
 |frz ob u ih=>obtain⟨e,q⟩:=x;exact⟨k _ _ (.inl rfl) e,ih q⟩
 |tbl ps =>
  have e:h.get? a=some {cls:=.none,data:=.fields ps}:=x;show h'.get? a=some {cls:=.none,data:=.fields ps};exact k a _ (.inl rfl) e
 |met f y =>
  have e:h.get? a=some (PySem.W.methodObj (.ref f) (.ref y)):=x;show h'.get? a=some (PySem.W.methodObj (.ref f) (.ref y));exact k a _ (.inl rfl) e
 |ext φ=>obtain⟨p,⟨o,e⟩,st⟩:=x;exact⟨st _ _ p λ o q=>k _ _ (.inl rfl) q,⟨o,k _ _ (.inl rfl) e⟩,st⟩
theorem HOk.lt (x:HOk P w H h) (e:H a=some o):a<h.objs.size:=(x a o e).lt
theorem HOk.fresh (x:HOk P w H h) (e:h.objs.size<=a):H a=none:=by
 cases q:H a with
 |none=>rfl
 |some u=>exact absurd (qr (x.lt q) e) (Nat.lt_irrefl _)
theorem HOk.kept (x:HOk P w H h) (k:∀ b u,h.get? b=some u->h'.get? b=some u):HOk P w H h':=λ a o e =>
 (x a o e).stay (λ b u _ q=>k b u q) (λ _ q=>q) λ _ _ q=>q
theorem HOk.laid (x:HOk P w H h) (k:∀ b u,h.get? b=some u->h'.get? b=some u) (Y:h.objs.size<=a) (new:ObjOk P w (upd H a o) h' a o):HOk P w (upd H a o) h':=λ b u e=>by
 have R:=x.fresh Y
 by_cases O:b=a
 ·subst O;rw[a_9] at e;cases e;exact new
 ·rw[a_8 O] at e
  exact (x b u e).stay (λ c v _ q=>k c v q) (λ c q=>by rw[a_8 (a_2 q R)];exact q) λ c xs q=>by rw[a_8 (a_2 q R)];exact q
end
noncomputable def Rd (H:Hp) (a:Addr) (u:HO):Prop:=H a=some u\/∃ o,H a=some (.frz o u)
theorem Rd.of {H:Hp}{a:Addr}{u:HO} (h:H a=some u):Rd H a u:=.inl h
theorem Rd.ok {P:Program}{w:World}{H:Hp}{h:Heap}{a:Addr}{u:HO} (r:Rd H a u) (x:HOk P w H h):ObjOk P w H h a u:=by
 rcases r with r | ⟨o,r⟩
 ·exact x a u r
 ·obtain⟨_,q⟩:=x a _ r
  exact q
noncomputable def Mut:Option HO->Prop
 |some (.lst _)=>True
 |some (.dK _)=>True
 |some (.dT _)=>True
 |some (.set _ _)=>True
 |some (.ins _ _ _)=>True
 |some (.ext _)=>True
 |_=>False
section
variable {P:Program}{w:World}{H:Hp}{h h':Heap}{x e:Addr}{o':HO}
theorem HOk.write (ok:HOk P w H h) (mu:Mut (H x)) (he:e=x\/H e=some (.own x)) (k:∀ b u,b≠e->h.get? b=some u->h'.get? b=some u) (aa:∃ u,h'.get? e=some u)
  (new:ObjOk P w (upd H x o') h' x o'):HOk P w (upd H x o') h':=λ b u q=>by
 have R:∀ c y,H c=some (.own y)->c≠x:=λ c y r z=>by subst z;rw[r] at mu;exact mu
 have Y:∀ c xs,H c=some (.tup xs)->c≠x:=λ c xs r z=>by subst z;rw[r] at mu;exact mu
 by_cases hb:b=x
 ·subst hb;rw[a_9] at q;cases q;exact new
 ·rw[a_8 hb] at q
  by_cases O:b=e
  ·have q':H b=some (.own x):=by
    rcases he with z | z
    ·exact absurd (O.trans z) hb
    ·rw[O];exact z
   rw[q] at q';cases q';obtain⟨v,hv⟩:=aa;exact⟨v,by rw[O];exact hv⟩
  ·refine (ok b u q).stay (λ c v Z r=>k c v ?_ r) (λ c r=>by rw[a_8 (R c b r)];exact r) λ c xs r=>by rw[a_8 (Y c xs r)];exact r
   rcases Z with rfl | Z
   ·exact O
   ·rintro rfl
    rcases he with z | z
    ·exact R c b Z z
    ·rw[Z] at z;cases z;exact hb rfl
end
structure Un (fs ex:List Addr) (H H':Hp) (h h':Heap):Prop where
 keep:∀ b o,h.get? b=some o->H b=none->b∉fs->b∉ex->h'.get? b=some o
 slot:∀ b o,h.get? b=some o->H b=none->b∈fs->b∉ex->∃ sl,h'.get? b=some {o with slots:=sl}
 free:∀ b o,h.get? b=some o->H b=none->b∉ex->H' b=none
 there:∀ b o,h.get? b=some o->b∉ex->∃ o',h'.get? b=some o'
 tups:∀ b xs,H b=some (.tup xs)->H' b=some (.tup xs)
 frzs:∀ b o u,H b=some (.frz o u)->H' b=some (.frz o u)
 tbls:∀ b ps,H b=some (.tbl ps)->∃ more,H' b=some (.tbl (ps++more))
section
variable {fs fs' ex ex':List Addr}{H H1 H2:Hp}{h h1 h2 h':Heap}{a x e:Addr}{o:HO}
theorem Un.any (u:Un fs ex H H1 h h1) {b:Addr}{ob:Obj} (q:h.get? b=some ob) (n:H b=none) (R:b∉ex):∃ Y,h1.get? b=some {ob with slots:=Y}:=by
 by_cases O:b∈fs
 ·exact u.slot b ob q n O R
 ·exact⟨ob.slots,u.keep b ob q n O R⟩
theorem Un.kept (k:∀ b u,h.get? b=some u->h'.get? b=some u):Un fs ex H H h h' :=
 ⟨λ b ob q _ _ _=>k b ob q,λ b ob q _ _ _=>⟨ob.slots,k b ob q⟩,λ _ _ _ n _=>n,λ b ob q _=>⟨ob,k b ob q⟩,λ _ _ q=>q,λ _ _ _ q=>q,λ _ ps q=>⟨#[],by rw[q];simp⟩⟩
theorem Un.refl:Un fs ex H H h h:=Un.kept λ _ _ q=>q
theorem Un.laid (k:∀ b u,h.get? b=some u->h'.get? b=some u) (R:h.objs.size<=a) (O:H a=none):Un fs ex H (upd H a o) h h' where
 keep:=λ b u q _ _ _=>k b u q
 slot:=λ b u q _ _ _=>⟨u.slots,k b u q⟩
 free:=λ b u q n _=>by rw[a_8 (Nat.ne_of_lt (Nat.lt_of_lt_of_le (Heap.lt_size q) R))];exact n
 there:=λ b u q _=>⟨u,k b u q⟩
 tups:=λ b xs q=>by rw[a_8 (a_2 q O)];exact q
 frzs:=λ b u xs q=>by rw[a_8 (a_2 q O)];exact q
 tbls:=λ b ps q=>⟨#[],by rw[a_8 (a_2 q O),q];simp⟩
theorem Un.write (R:Mut (H x)) (he:e=x\/H e=some (.own x)) (k:∀ b u,b≠e->h.get? b=some u->h'.get? b=some u) (Y:∃ u,h'.get? e=some u):Un fs ex H (upd H x o) h h':=by
 have hx:∀ b,H b=none->b≠x:=λ b n z=>by subst z;rw[n] at R;exact R
 have hb:∀ b,H b=none->b≠e:=λ b n z=>by
  subst z
  rcases he with r | r
  ·exact hx b n r
  ·rw[n] at r;cases r
 have Z:∀ b u,H b=some u->¬ Mut (some u)->b≠x:=λ b u q nm z=>by subst z;rw[q] at R;exact nm R
 refine⟨λ b u q n _ _=>k b u (hb b n) q,λ b u q n _ _=>⟨u.slots,k b u (hb b n) q⟩,λ b u q n _=>by rw[a_8 (hx b n)];exact n,λ b u q _=>?_,
  λ b xs q=>by rw[a_8 (Z b _ q λ z=>z)];exact q,λ b u xs q=>by rw[a_8 (Z b _ q λ z=>z)];exact q,λ b ps q=>⟨#[],by rw[a_8 (Z b _ q λ z=>z),q];simp⟩⟩
 by_cases O:b=e
 ·subst O;exact Y
 ·exact⟨u,k b u O q⟩
theorem Un.mono (u:Un fs ex H H1 h h1) (Y:∀ b∈fs,b∈fs') (R:∀ b∈ex,b∈ex'):Un fs' ex' H H1 h h1 :=
 ⟨λ b ob q n Z O=>u.keep b ob q n (λ z=>Z (Y b z)) λ z=>O (R b z),λ _ _ q n _ O=>u.any q n λ z=>O (R _ z),λ b ob q n O=>u.free b ob q n λ z=>O (R b z),λ b ob q O=>u.there b ob q λ z=>O (R b z),u.tups,u.frzs,u.tbls⟩
end
noncomputable def trk (h:Heap) (H:Hp):List Addr:=(List.range h.objs.size).filter λ a=>(H a).isSome
noncomputable def aq1 (h:Heap) (H:Hp):Heap:=PySem.W.hideAll h (trk h H)
theorem ah2 (h:Heap) (H:Hp):(aq1 h H).objs.size=h.objs.size:=PySem.W.hideAll_size _ _
theorem aq0 {h:Heap}{H:Hp}{b:Addr}{o:Obj} (e:h.get? b=some o) (n:H b=none):(aq1 h H).get? b=some o :=
 PySem.W.hideAll_get _ e λ O=>by
  have q:(H b).isSome=true:=(List.mem_filter.mp O).2;rw[n] at q;simp at q
theorem aB7 {h:Heap}{H:Hp}{b:Addr}{o:Obj} (e:(aq1 h H).get? b=some o):h.get? b=some o/\H b=none:=by
 have O:h.get? b=some o:=PySem.W.of_hideAll (trk h H) e;refine⟨O,?_⟩;cases q:H b with
 |none=>rfl
 |some x =>
  have R:b∈trk h H:=List.mem_filter.mpr ⟨List.mem_range.mpr (qm O),by simp[q]⟩
  have z:(aq1 h H).get? b=none:=PySem.W.hideAll_none (trk h H) R;rw[z] at e;cases e
noncomputable def aI1 (g h:Heap) (L:Addr):List (Addr×Obj):=(List.range h.objs.size).filterMap λ a=>if a=L\/(g.get? a).isSome=true then none else (h.get? a).map λ o=>(a,o)
noncomputable def rest (g h:Heap) (L d:Addr):List (Addr×Obj):=(aI1 g h L).filter λ p=>decide (p.1≠d)
structure Mod (K:Frag) (mg:Str->Option Value) (base:Heap):Prop where
 kin:K.In base
 glob:base.Ns mainGlobals mg
 blt:∃ mb,base.Ns builtinsNs mb ∧ ∀ x:Str,x≠"__name__" → mb x=bootBuiltins x
 nolimit:base.NoLimit
structure Cx where
 prog:Program
 w:World
 K:Frag
 mg:Str->Option Value
 base:Heap
 A:Around
 N:List Str
 s₀:Shared
 H₀:Hp
 env:Env
 outer:List Env
 stack:List Env
 ex:List Addr
 fn:Str->Bool
 calm:Bool
 pn:List (Addr×Obj)
 xe:Value->Shared->Prop
noncomputable def frs (l:List Env):List Addr:=l.filterMap (·.frame)
abbrev Cx.fs (X:Cx):List Addr:=frs X.outer
noncomputable def Vis (sc:Scope) (x:Str):Prop:=sc.names.lookup x=some .local\/sc.names.lookup x=some .cell\/sc.names.lookup x=some .free
noncomputable def Loc (sc:Scope) (x:Str):Prop:=sc.names.lookup x=some .local\/sc.names.lookup x=some .cell
noncomputable def bx4 (env:Env) (h:Heap) (m:Str->Option Value) (x:Str) (u:Value):Prop :=
 (env.kindOf x=some .local/\m x=some u)\/((env.kindOf x=some .cell\/env.kindOf x=some .free)/\∃ c,env.cells.lookup x=some c/\h.IsCell c (some u))
structure Cx.Ok (X:Cx):Prop where
 mod:Mod X.K X.mg X.base
 kind:X.env.scope.kind=.function
 glob:X.env.globals=mainGlobals
 blt:X.env.builtins=builtinsNs
 above:X.s₀.heap.objs.size<=X.env.locals
 inj:∀ x y c,X.env.cells.lookup x=some c->X.env.cells.lookup y=some c->x=y
 has:∀ x,(X.env.kindOf x=some .cell\/X.env.kindOf x=some .free)->∃ c,X.env.cells.lookup x=some c
 cab:∀ x c,X.fn x=true->X.env.cells.lookup x=some c->X.s₀.heap.objs.size<=c
 hd:X.calm=true->X.A.handled=none
 frames:X.A.frames=some X.stack
 stk:X.stack=X.outer\/(X.stack=X.env::X.outer/\X.env.frame=some X.env.locals)
 exf:∀ b∈X.ex,b≠X.env.locals/\∀ x c,X.env.cells.lookup x=some c->c≠b
 bs:∀ b o,X.base.get? b=some o->X.s₀.heap.get? b=some o/\X.H₀ b=none
 bsz:X.base.objs.size<=X.s₀.heap.objs.size
 noex:∀ b o,X.base.get? b=some o->b∉X.ex
 exfs:∀ b∈X.ex,b∉X.fs
 funs:X.s₀.heap.FunFrames X.base X.outer
 frf:∀ b∈X.fs,X.H₀ b=none
structure Inv (X:Cx) (pins:List (Addr×Obj)) (σ:List (Option V)) (H:Hp) (s:Shared):Prop where
 ok:X.Ok
 os:s.os=X.s₀.os
 bare:AllBare s.gens
 base:Un X.fs X.ex X.H₀ H X.s₀.heap s.heap
 loc:∃ m,s.heap.Ns X.env.locals m/\∀ (i:Nat) (x:Str) (v:V),X.N[i]?=some x->σ[i]?=some (some v)->Vis X.env.scope x->∃ u,RelV v u/\bx4 X.env s.heap m x u
 cell:∀ x c,X.env.cells.lookup x=some c->∃ v,s.heap.IsCell c v
 free:H X.env.locals=none
 freeC:∀ x c,X.env.cells.lookup x=some c->H c=none
 pin:∀ p∈X.pn++pins,s.heap.get? p.1=some p.2/\H p.1=none/\p.1≠X.env.locals/\p.1∉X.fs/\∀ v,p.2.data≠.cell v
 hok:HOk X.prog X.w H s.heap
 len:σ.length=X.N.length
section
variable {X:Cx}{pins:List (Addr×Obj)}{σ:List (Option V)}{H H':Hp}{s:Shared}{h':Heap}
theorem Cx.Ok.nofr (ok:X.Ok) {b:Addr}{o:Obj} (e:X.base.get? b=some o):b∉X.fs:=λ O=>by
 have:=(ok.funs.mem O).1;rw[e] at this;cases this
theorem Inv.bs (I:Inv X pins σ H s):∀ b o,X.base.get? b=some o->s.heap.get? b=some o/\H b=none:=λ b o e =>
 ⟨I.base.keep b o (I.ok.bs b o e).1 (I.ok.bs b o e).2 (I.ok.nofr e) (I.ok.noex b o e),I.base.free b o (I.ok.bs b o e).1 (I.ok.bs b o e).2 (I.ok.noex b o e)⟩
theorem Inv.bk (I:Inv X pins σ H s):∀ b o,X.base.get? b=some o->s.heap.get? b=some o:=λ b o e=>(I.bs b o e).1
theorem Inv.mod (I:Inv X pins σ H s):Mod X.K X.mg X.base:=I.ok.mod
theorem Inv.kIn (I:Inv X pins σ H s):X.K.In s.heap:=I.ok.mod.kin.keeps I.bk
theorem Inv.nolimit (I:Inv X pins σ H s):s.heap.NoLimit:=I.ok.mod.nolimit.keeps I.bk
theorem Inv.fr (I:Inv X pins σ H s):∃ m,Fr X.base X.env.locals s.heap m :=
 let ⟨m,hn,_⟩:=I.loc
 ⟨m,hn,I.bk,Nat.le_trans I.ok.bsz I.ok.above⟩
theorem Inv.lt (I:Inv X pins σ H s):X.env.locals<s.heap.objs.size:=let ⟨_,hn,_⟩:=I.loc;hn.lt
theorem Inv.sz (I:Inv X pins σ H s):X.s₀.heap.objs.size<=s.heap.objs.size:=Nat.le_trans I.ok.above (Nat.le_of_lt I.lt)
theorem Inv.nofs (I:Inv X pins σ H s) {a:Addr} (h:s.heap.objs.size<=a):a∉X.fs:=λ R=>by
 obtain⟨_,o,O,_⟩:=I.ok.funs.mem R;exact absurd (qr (qm O) (Nat.le_trans I.sz h)) (Nat.lt_irrefl _)
theorem Inv.cne (I:Inv X pins σ H s):∀ x c,X.env.cells.lookup x=some c->c≠X.env.locals:=λ x c e z=>by
 obtain⟨v,o,Z,Y⟩:=I.cell x c e;obtain⟨m,⟨o',es,ep,O,R,_⟩,_⟩:=I.loc;rw[z,O] at Z;cases Z;rw[R] at Y;cases Y
theorem Inv.funs (I:Inv X pins σ H s):s.heap.FunFrames X.base X.outer:=by
 have all:∀ (l:List Env),(∀ b∈frs l,b∈X.fs)->X.s₀.heap.FunFrames X.base l->s.heap.FunFrames X.base l:=by
  intro l
  induction l with
  |nil=>intro _ _;trivial
  |cons env r ih =>
   intro Y hl;obtain⟨hk,⟨L,o,hf,hn,ho,Z⟩,hr⟩:=hl;have O:L∈X.fs:=Y L (by unfold frs;rw[List.filterMap_cons,hf];exact qg)
   obtain⟨sl,e⟩:=I.base.slot L o ho (I.ok.frf L O) O λ z=>I.ok.exfs L z O
   exact⟨hk,⟨L,_,hf,hn,e,Z⟩,ih (λ b R=>Y b (by unfold frs;rw[List.filterMap_cons,hf];exact qh _ R)) hr⟩
 exact all X.outer (λ _ R=>R) I.ok.funs
theorem Inv.stack (I:Inv X pins σ H s):s.heap.FunFrames X.base X.stack:=by
 rcases I.ok.stk with e | ⟨e,hf⟩
 ·rw[e];exact I.funs
 ·rw[e]
  obtain⟨m,O,_⟩:=I.loc;refine .cons (by rw[I.ok.kind];decide) hf O ?_ I.funs
  exact Heap.get?_none_of_le (Nat.le_trans I.ok.bsz I.ok.above)
theorem Inv.stkSub (I:Inv X pins σ H s):∀ b∈frs X.stack,b∈X.env.locals::X.fs:=λ b O=>by
 rcases I.ok.stk with e | ⟨e,hf⟩
 ·rw[e] at O;exact qh _ O
 ·rw[e] at O
  unfold frs at O;rw[List.filterMap_cons,hf] at O;exact O
theorem Inv.stkFree (I:Inv X pins σ H s):∀ b∈frs X.stack,H b=none:=λ b O=>by
 rcases qv (I.stkSub b O) with e | O
 ·rw[e];exact I.free
 ·obtain⟨_,o,R,_⟩:=I.ok.funs.mem O
  exact I.base.free b o R (I.ok.frf b O) λ z=>I.ok.exfs b z O
theorem Inv.step {g':Array GenState}{t':Nat}{d':Drawn}{ch:List Addr} (I:Inv X pins σ H s)
  (Z:∀ b∈ch,(b∈X.ex\/X.s₀.heap.objs.size<=b)/\b≠X.env.locals/\(∀ x c,X.env.cells.lookup x=some c->c≠b)/\∀ p∈X.pn++pins,p.1≠b)
  (keep:∀ b o,b≠X.env.locals->b∉X.fs->b∉ch->s.heap.get? b=some o->H b=none->h'.get? b=some o)
  (slot:∀ b o,b≠X.env.locals->b∈X.fs->b∉ch->s.heap.get? b=some o->H b=none->∃ sl,h'.get? b=some {o with slots:=sl}) (free:∀ b o,b∉ch->s.heap.get? b=some o->H b=none->H' b=none)
  (there:∀ b o,b∉ch->s.heap.get? b=some o->∃ o',h'.get? b=some o')
  (tups:∀ b xs,H b=some (.tup xs)->H' b=some (.tup xs)) (frzs:∀ b o u,H b=some (.frz o u)->H' b=some (.frz o u)) (tbls:∀ b ps,H b=some (.tbl ps)->∃ ab,H' b=some (.tbl (ps++ab)))
  (ns:∀ m,s.heap.Ns X.env.locals m->h'.Ns X.env.locals m) (af:HOk X.prog X.w H' h') (hg:AllBare g') :
  Inv X pins σ H' {s with heap:=h',gens:=g',drawn:=d',toks:=t'}:=by
 have ac:∀ b o,X.s₀.heap.get? b=some o->b≠X.env.locals:=λ b o e=>qt (qr (qm e) I.ok.above)
 have aa:∀ b o,X.s₀.heap.get? b=some o->b∉X.ex->b∉ch:=λ b o e O hb=>by
  rcases (Z b hb).1 with z | z
  ·exact O z
  ·exact absurd (qr (qm e) z) (Nat.lt_irrefl _)
 have Y:∀ x c,X.env.cells.lookup x=some c->∀ v,s.heap.IsCell c v->h'.IsCell c v:=λ x c e v ad=>by
  obtain⟨o,ho,hd⟩:=ad;have R:c∉ch:=λ z=>(Z c z).2.2.1 x c e rfl
  by_cases hc:c∈X.fs
  ·obtain⟨sl,q⟩:=slot c o (I.cne x c e) hc R ho (I.freeC x c e)
   exact⟨_,q,hd⟩
  ·exact⟨o,keep c o (I.cne x c e) hc R ho (I.freeC x c e),hd⟩
 refine⟨I.ok,I.os,hg,⟨λ b o e n hb O=>?_,λ b o e n hb O=>?_,λ b o e n O=>?_,λ b o e O=>?_,λ b xs e=>tups b xs (I.base.tups b xs e),λ b o xs e=>frzs b o xs (I.base.frzs b o xs e),λ b ps e=>?_⟩,?_,λ x c e=>?_,?_,λ x c e=>?_,λ p hp=>?_,af,I.len⟩
 ·exact keep b o (ac b o e) hb (aa b o e O) (I.base.keep b o e n hb O) (I.base.free b o e n O)
 ·obtain⟨sl,e1⟩:=I.base.slot b o e n hb O
  obtain⟨ae,e2⟩:=slot b _ (ac b o e) hb (aa b o e O) e1 (I.base.free b o e n O);exact⟨ae,e2⟩
 ·obtain⟨o',e1⟩:=I.base.there b o e O
  exact free b o' (aa b o e O) e1 (I.base.free b o e n O)
 ·obtain⟨o',e1⟩:=I.base.there b o e O
  exact there b o' (aa b o e O) e1
 ·obtain⟨m1,e1⟩:=I.base.tbls b ps e
  obtain⟨m2,e2⟩:=tbls b _ e1;exact⟨m1++m2,by rw[e2,Array.append_assoc]⟩
 ·obtain⟨m,hn,hl⟩:=I.loc
  refine⟨m,ns m hn,λ i x v e1 e2 e3=>?_⟩
  obtain⟨u,r,l⟩:=hl i x v e1 e2 e3;refine⟨u,r,?_⟩
  rcases l with l | ⟨k,c,e,z⟩
  ·exact .inl l
  ·exact .inr ⟨k,c,e,Y x c e _ z⟩
 ·obtain⟨v,z⟩:=I.cell x c e
  exact⟨v,Y x c e v z⟩
 ·obtain⟨m,⟨o,_,_,ho,_⟩,_⟩:=I.loc
  exact free _ o (λ z=>(Z _ z).2.1 rfl) ho I.free
 ·obtain⟨v,o,ho,hd⟩:=I.cell x c e
  exact free c o (λ z=>(Z c z).2.2.1 x c e rfl) ho (I.freeC x c e)
 ·obtain⟨e,n,ne,nf,d⟩:=I.pin p hp
  have R:p.1∉ch:=λ z=>(Z p.1 z).2.2.2 p hp rfl
  exact⟨keep p.1 p.2 ne nf R e n,free p.1 p.2 R e n,ne,nf,d⟩
theorem Inv.un {t':Nat} (I:Inv X pins σ H s) (u:Un X.fs [] H H' s.heap h') (R:HOk X.prog X.w H' h'):Inv X pins σ H' {s with heap:=h',toks:=t'}:=by
 obtain⟨m,⟨o,es,ep,ho,r⟩,_⟩:=id I.loc;obtain⟨sl,hL⟩:=u.any ho I.free (by simp)
 exact I.step (g':=s.gens) (d':=s.drawn) (ch:=[]) (λ _ z=>nomatch z) (λ b o _ Z _ e n=>u.keep b o e n Z (by simp)) (λ b o _ Z _ e n=>u.slot b o e n Z (by simp)) (λ b o _ e n=>u.free b o e n (by simp)) (λ b o _ e=>u.there b o e (by simp)) u.tups u.frzs u.tbls (λ m' hm=>by
  obtain⟨o',Y,aa,O,r'⟩:=hm;rw[ho] at O;cases O;exact⟨_,Y,aa,hL,r'⟩) R I.bare
theorem Inv.call {g':Array GenState}{t':Nat}{d':Drawn}{ch:List Addr} (I:Inv X pins σ H s) (u:Un (frs X.stack) ch H H' s.heap h') (aa:HOk X.prog X.w H' h') (hg:AllBare g')
  (Y:∀ b∈ch,(b∈X.ex\/X.s₀.heap.objs.size<=b)/\b≠X.env.locals/\(∀ x c,X.env.cells.lookup x=some c->c≠b)/\∀ p∈X.pn++pins,p.1≠b) :
  Inv X pins σ H' {s with heap:=h',gens:=g',drawn:=d',toks:=t'}:=by
 obtain⟨m,⟨o,es,ep,ho,r⟩,_⟩:=id I.loc;obtain⟨sl,Z⟩:=u.any ho I.free λ z=>(Y _ z).2.1 rfl
 exact I.step (ch:=ch) Y (λ b o Z hb O e n=>u.keep b o e n (λ z=>(qv (I.stkSub b z)).elim Z hb) O) (λ b o _ _ O e n=>u.any e n O) (λ b o O e n=>u.free b o e n O) (λ b o O e=>u.there b o e O) u.tups u.frzs u.tbls (λ m' hm=>by
  obtain⟨o',ac,ab,R,r'⟩:=hm;rw[ho] at R;cases R;exact⟨_,ac,ab,Z,r'⟩) aa hg
theorem Inv.turned {t':Nat}{it:Addr} (I:Inv X pins σ H s) (k:∀ b o,b≠it->s.heap.get? b=some o->h'.get? b=some o) (hn:H it=none) (Y:it≠X.env.locals)
  (h1:it∈X.ex\/X.s₀.heap.objs.size<=it) (h2:∀ x c,X.env.cells.lookup x=some c->c≠it) (h3:∀ p∈X.pn++pins,p.1≠it):Inv X pins σ H {s with heap:=h',toks:=t'}:=by
 have R:∀ b u,H b=some u->b≠it:=λ b u e z=>by rw[z,hn] at e;cases e
 refine I.step (g':=s.gens) (d':=s.drawn) (ch:=[it]) (λ b hb=>?_) (λ b o _ _ O e _=>k b o (λ z=>O (by simp[z])) e) (λ b o _ _ O e _=>⟨o.slots,k b o (λ z=>O (by simp[z])) e⟩) (λ _ _ _ _ n=>n)
  (λ b o O e=>⟨o,k b o (λ z=>O (by simp[z])) e⟩) (λ _ _ e=>e) (λ _ _ _ e=>e) (λ b ps e=>⟨#[],by rw[e];simp⟩) (λ m hm=>?_) (λ b u e=>?_) I.bare
 ·have e:b=it:=by simpa using hb
  subst e;exact⟨h1,Y,h2,h3⟩
 ·obtain⟨o,es,Z,ho,r⟩:=hm
  exact⟨o,es,Z,k _ o (Ne.symm Y) ho,r⟩
 ·refine (I.hok b u e).stay (λ c v O q=>k c v ?_ q) (λ _ q=>q) λ _ _ q=>q
  rcases O with z | z
  ·rw[z];exact R b u e
  ·exact R c _ z
theorem Inv.tok (I:Inv X pins σ H s) (t:Nat):Inv X pins σ H {s with toks:=t}:=I.un (h':=s.heap) (t':=t) Un.refl I.hok
theorem Inv.kept {t':Nat} (I:Inv X pins σ H s) (k:∀ b u,s.heap.get? b=some u->h'.get? b=some u):Inv X pins σ H {s with heap:=h',toks:=t'}:=I.un (Un.kept k) (I.hok.kept k)
theorem Inv.laid {a:Addr}{o:HO}{t':Nat} (I:Inv X pins σ H s) (k:∀ b u,s.heap.get? b=some u->h'.get? b=some u) (O:s.heap.objs.size<=a) (new:ObjOk X.prog X.w (upd H a o) h' a o) :
  Inv X pins σ (upd H a o) {s with heap:=h',toks:=t'}:=I.un (Un.laid k O (I.hok.fresh O)) (I.hok.laid k O new)
theorem Inv.write {x e:Addr}{o:HO}{t':Nat} (I:Inv X pins σ H s) (R:Mut (H x)) (Y:e=x\/H e=some (.own x)) (k:∀ b u,b≠e->s.heap.get? b=some u->h'.get? b=some u) (O:∃ u,h'.get? e=some u)
  (new:ObjOk X.prog X.w (upd H x o) h' x o):Inv X pins σ (upd H x o) {s with heap:=h',toks:=t'}:=I.un (Un.write R Y k O) (I.hok.write R Y k O new)
theorem Inv.weak {O:List (Option V)} (I:Inv X pins σ H s) (hl:O.length=σ.length) (w:∀ (i:Nat) v,O[i]?=some (some v)->σ[i]?=some (some v)):Inv X pins O H s :=
 ⟨I.ok,I.os,I.bare,I.base,let ⟨m,hn,hl'⟩:=I.loc;⟨m,hn,λ i x v e1 e2 e3=>hl' i x v e1 (w i v e2) e3⟩,I.cell,I.free,I.freeC,I.pin,I.hok,hl.trans I.len⟩
theorem Inv.pins_of {O:List (Addr×Obj)} (I:Inv X pins σ H s) (h:∀ p∈O,s.heap.get? p.1=some p.2/\H p.1=none/\p.1≠X.env.locals/\p.1∉X.fs/\∀ v,p.2.data≠.cell v):Inv X O σ H s :=
 ⟨I.ok,I.os,I.bare,I.base,I.loc,I.cell,I.free,I.freeC,λ p R=>(qw R).elim (λ z=>I.pin p (qp _ z)) (h p),I.hok,I.len⟩
theorem V_2 {N:List Str} (O:N.Nodup) {i j:Nat}{x:Str} (a:N[i]?=some x) (b:N[j]?=some x):i=j:=by
 obtain⟨h1,e1⟩:=List.getElem?_eq_some_iff.mp a;obtain⟨h2,e2⟩:=List.getElem?_eq_some_iff.mp b;exact (List.getElem_inj O).mp (e1.trans e2.symm)
theorem L_2 {M:Model}{A:Around}{E:Value->Shared->Prop}{i:Nat}{x:Str}{v:V}{u:Value}{Q:Unit->Shared->Prop} (I:Inv X pins σ H s) (hN:X.N.Nodup) (hi:X.N[i]?=some x) (Z:Loc X.env.scope x) (r:RelV v u)
  (h:∀ s',Inv X pins (σ.set i (some v)) H s'->(∃ a,Heap.SameBut a s.heap s'.heap/\(a=X.env.locals\/X.env.cells.lookup x=some a))->Q () s') (hf:X.fn x=true\/X.env.scope.names.lookup x=some .local:=by first | exact .inl rfl | exact .inr rfl | assumption):wpAny M A (storeName X.env x u) Q E s:=by
 obtain⟨m,hn,hl⟩:=id I.loc;have ag:(X.env.scope.kind==.class||(X.env.scope.kind==.module&&X.env.locals != X.env.globals))=false:=by rw[I.ok.kind];rfl
 have ab:i<σ.length:=by rw[I.len];exact (List.getElem?_eq_some_iff.mp hi).1
 have cne:=I.cne
 have R:∀ {a:Addr}{h':Heap},(∃ o,s.heap.get? a=some o/\H a=none)->Heap.SameBut a s.heap h'->HOk X.prog X.w H h':=λ {a h'} ha O b ob e=>by
  obtain⟨_,_,aa⟩:=ha;refine (I.hok b ob e).stay (λ c w' Y q=>(O.2 c ?_).trans q) (λ _ q=>q) λ _ _ q=>q
  rintro rfl
  rcases Y with rfl | Y
  ·rw[aa] at e;cases e
  ·rw[aa] at Y;cases Y
 rcases Z with hk | hk
 ·refine wpAny_storeName_local hk hn (λ h' aj O=>?_) ag
  obtain⟨oL,_,_,ai,_⟩:=id hn;refine h _ ⟨I.ok,I.os,I.bare,⟨λ b o e n hb Z=>?_,λ b o e n hb Z=>?_,I.base.free,λ b o e Z=>?_,I.base.tups,I.base.frzs,I.base.tbls⟩,⟨_,aj,λ j y v' e1 e2 e3=>?_⟩,λ y c e=>?_,I.free,I.freeC,λ p hp=>?_,R ⟨oL,ai,I.free⟩ O,by simpa using I.len⟩ ⟨_,O,.inl rfl⟩
  ·exact (O.2 b (qt (qr (qm e) I.ok.above))).trans (I.base.keep b o e n hb Z)
  ·obtain⟨sl,e1⟩:=I.base.slot b o e n hb Z
   exact⟨sl,(O.2 b (qt (qr (qm e) I.ok.above))).trans e1⟩
  ·obtain⟨o',e1⟩:=I.base.there b o e Z
   exact⟨o',(O.2 b (qt (qr (qm e) I.ok.above))).trans e1⟩
  ·by_cases hj:j=i
   ·subst hj
    rw[hi] at e1;cases e1;rw[List.getElem?_set_self ab] at e2;cases e2;exact⟨u,r,.inl ⟨hk,by simp⟩⟩
   ·rw[List.getElem?_set_ne (Ne.symm hj)] at e2
    obtain⟨u',r',q⟩:=hl j y v' e1 e2 e3;refine⟨u',r',?_⟩
    rcases q with ⟨k,e⟩ | ⟨k,c,e,z⟩
    ·refine .inl ⟨k,?_⟩
     have:y≠x:=λ e=>hj (V_2 hN e1 (e▸hi))
     simp[this,e]
    ·exact .inr ⟨k,c,e,z.sameBut O (cne y c e)⟩
  ·obtain⟨w',z⟩:=I.cell y c e
   exact⟨w',z.sameBut O (cne y c e)⟩
  ·obtain⟨e,n,ne,nf,d⟩:=I.pin p hp
   exact⟨(O.2 p.1 ne).trans e,n,ne,nf,d⟩
 ·have ac:X.fn x=true:=by
   rcases hf with z | z
   ·exact z
   ·rw[z] at hk;cases hk
  obtain⟨c,Y⟩:=I.ok.has x (.inl hk);obtain⟨w',z⟩:=I.cell x c Y;refine wpAny_storeName_cell I.ok.kind hk Y z (λ h' ah O=>?_)
  obtain⟨oc,ad,af⟩:=id z;refine h {s with heap:=h'} ⟨I.ok,I.os,I.bare,⟨λ b o e n hb Z=>?_,λ b o e n hb Z=>?_,I.base.free,λ b o e Z=>?_,I.base.tups,I.base.frzs,I.base.tbls⟩,⟨m,hn.sameBut O (Ne.symm (cne x c Y)),λ j y v' e1 e2 e3=>?_⟩,λ y c' e=>?_,I.free,I.freeC,λ p hp=>?_,R ⟨oc,ad,I.freeC x c Y⟩ O,by simpa using I.len⟩ ⟨c,O,.inr Y⟩
  ·exact (O.2 b (qt (qr (qm e) (I.ok.cab x c ac Y)))).trans (I.base.keep b o e n hb Z)
  ·obtain⟨sl,e1⟩:=I.base.slot b o e n hb Z
   exact⟨sl,(O.2 b (qt (qr (qm e) (I.ok.cab x c ac Y)))).trans e1⟩
  ·obtain⟨o',e1⟩:=I.base.there b o e Z
   exact⟨o',(O.2 b (qt (qr (qm e) (I.ok.cab x c ac Y)))).trans e1⟩
  ·by_cases hj:j=i
   ·subst hj
    rw[hi] at e1;cases e1;rw[List.getElem?_set_self ab] at e2;cases e2;exact⟨u,r,.inr ⟨.inl hk,c,Y,ah⟩⟩
   ·rw[List.getElem?_set_ne (Ne.symm hj)] at e2
    obtain⟨u',r',q⟩:=hl j y v' e1 e2 e3;refine⟨u',r',?_⟩
    rcases q with q | ⟨k,c',e,z'⟩
    ·exact .inl q
    ·refine .inr ⟨k,c',e,z'.sameBut O ?_⟩
     rintro rfl;exact hj (V_2 hN e1 (I.ok.inj _ _ _ e Y▸hi))
  ·by_cases ae:c'=c
   ·subst ae;exact⟨_,ah⟩
   ·obtain⟨w2,z2⟩:=I.cell y c' e
    exact⟨w2,z2.sameBut O ae⟩
  ·obtain⟨e,n,ne,nf,d⟩:=I.pin p hp
   refine⟨(O.2 p.1 ?_).trans e,n,ne,nf,d⟩;intro q;rw[q,ad] at e;have q':oc=p.2:=qi e;exact d w' (by rw[<- q'];exact af)
theorem U_0 {M:Model}{A:Around}{E:Value->Shared->Prop}{i:Nat}{x:Str}{v:V}{u:Value}{Q:Unit->Shared->Prop} (I:Inv X pins σ H s) (R:X.N.Nodup) (hi:X.N[i]?=some x) (Y:Loc X.env.scope x) (r:RelV v u)
  (h:∀ s',Inv X pins (σ.set i (some v)) H s'->Q () s') (hf:X.fn x=true\/X.env.scope.names.lookup x=some .local:=by first | exact .inl rfl | exact .inr rfl | assumption):wpAny M A (storeName X.env x u) Q E s :=
 L_2 I R hi Y r (λ s' O _=>h s' O) hf
theorem Inv.call' {s':Shared}{ch:List Addr} (I:Inv X pins σ H s) (Y:s'.os=s.os) (u:Un (frs X.stack) ch H H' s.heap s'.heap) (O:HOk X.prog X.w H' s'.heap) (Z:AllBare s'.gens)
  (R:∀ b∈ch,(b∈X.ex\/X.s₀.heap.objs.size<=b)/\b≠X.env.locals/\(∀ x c,X.env.cells.lookup x=some c->c≠b)/\∀ p∈X.pn++pins,p.1≠b):Inv X pins σ H' s':=by
 obtain⟨h',g',d',t',o'⟩:=s';have e:o'=s.os:=Y;subst e;exact I.call (g':=g') (t':=t') (d':=d') u O Z R
end
abbrev XK:=Value->Option Addr->Hp->Prop
abbrev St:=List (Option V)
abbrev VK:=V->Hp->Prop
abbrev TE:=St->Hp->VK->Prop
abbrev TT:=St->Hp->(Bool->Hp->Prop)->Prop
abbrev TA:=St->Hp->(List V->Hp->Prop)->Prop
structure Ends where
 nx:St->Hp->Prop
 rt:VK
 bk:St->Hp->Prop:=λ _ _=>False
 ct:St->Hp->Prop:=λ _ _=>False
abbrev TS:=Ends->St->Hp->Prop
noncomputable def EP (X:Cx) (pins:List (Addr×Obj)) (σ:St) (Q:VK) (u:Value) (s':Shared):Prop:=∃ v H',Inv X pins σ H' s'/\RelV v u/\Q v H'
noncomputable def TP (X:Cx) (pins:List (Addr×Obj)) (σ:St) (Q:Bool->Hp->Prop) (b:Bool) (s':Shared):Prop:=∃ H',Inv X pins σ H' s'/\Q b H'
noncomputable def AP (X:Cx) (pins:List (Addr×Obj)) (σ:St) (Q:List V->Hp->Prop) (us:List Value) (s':Shared):Prop:=∃ vs H',Inv X pins σ H' s'/\Vals vs us/\Q vs H'
noncomputable def SP (X:Cx) (pins:List (Addr×Obj)) (D:Ends) (f:Flow) (s':Shared):Prop :=
 match f with
 |.next=>∃ O H',Inv X pins O H' s'/\D.nx O H'
 |.brk=>∃ O H',Inv X pins O H' s'/\D.bk O H'
 |.cont=>∃ O H',Inv X pins O H' s'/\D.ct O H'
 |.ret u=>∃ v O H',Inv X pins O H' s'/\RelV v u/\D.rt v H'
noncomputable def PE (X:Cx) (e:Expr) (t:TE):Prop :=
 ∀ (pins:List (Addr×Obj)) (s:Shared) (σ:St) (H:Hp) (Q:VK),Inv X pins σ H s->t σ H Q->wpAny (model X.prog X.w) X.A (eval e X.env) (EP X pins σ Q) X.xe s
noncomputable def PT (X:Cx) (e:Expr) (t:TT):Prop :=
 ∀ (pins:List (Addr×Obj)) (s:Shared) (σ:St) (H:Hp) (Q:Bool->Hp->Prop),Inv X pins σ H s->t σ H Q->wpAny (model X.prog X.w) X.A (isTrue e X.env (eval e X.env)) (TP X pins σ Q) X.xe s
noncomputable def PW (X:Cx) (e:Expr) (t:TT):Prop :=
 ∀ (O:Sem Value) (pins:List (Addr×Obj)) (s:Shared) (σ:St) (H:Hp) (Q:Bool->Hp->Prop),Inv X pins σ H s->t σ H Q->wpAny (model X.prog X.w) X.A (isTrue e X.env O) (TP X pins σ Q) X.xe s
theorem PW.pt {X:Cx}{e:Expr}{t:TT} (h:PW X e t):PT X e t:=h _
noncomputable def PA (X:Cx) (es:List Expr) (t:TA):Prop :=
 ∀ (pos:Pos) (pins:List (Addr×Obj)) (s:Shared) (σ:St) (H:Hp) (Q:List V->Hp->Prop),Inv X pins σ H s->t σ H Q->wpAny (model X.prog X.w) X.A (spliced (backTo pos (starEach es X.env))) (AP X pins σ Q) X.xe s
noncomputable def PS (X:Cx) (st:Stmt) (t:TS):Prop :=
 ∀ (pins:List (Addr×Obj)) (s:Shared) (σ:St) (H:Hp) (D:Ends),Inv X pins σ H s->t D σ H->wpAny (model X.prog X.w) X.A (exec st X.env) (SP X pins D) X.xe s
noncomputable def PSs (X:Cx) (st:List Stmt) (t:TS):Prop :=
 ∀ (pins:List (Addr×Obj)) (s:Shared) (σ:St) (H:Hp) (D:Ends),Inv X pins σ H s->t D σ H->wpAny (model X.prog X.w) X.A (execs st X.env) (SP X pins D) X.xe s
theorem ex5 {α O:Sort _}{A B C:α->O->Prop}{P:Prop} (h:∀ x y,A x y->B x y->C x y->P) (e:∃ x y,A x y/\B x y/\C x y):P:=by
 obtain⟨x,y,a,b,c⟩:=e;exact h x y a b c
theorem thn {α:Type}{t:Sem α}{Q O:α->Shared->Prop}{M:Model}{A:Around}{E:Value->Shared->Prop}{s:Shared} (h:wpAny M A t Q E s) (R:∀ a s,Q a s->O a s):wpAny M A t O E s:=wpAny_mono h R λ _ _ x=>x
section
variable {X:Cx}
noncomputable def Q_2 (i:Nat):TE:=λ σ H Q=>∃ v,σ[i]?=some (some v)/\Q v H
noncomputable def tC (v:V):TE:=λ _ H Q=>Q v H
theorem u_3 {i:Nat}{x:Str}{pos:Pos} (Y:X.N[i]?=some x) (hv:Vis X.env.scope x) (O:(x==("__debug__":Str))=false:=by decide) (R:(x==("__classdict__":Str))=false:=by decide):PE X (.Name x pos) (Q_2 i):=by
 intro pins s σ H Q I h;obtain⟨v,e,h⟩:=h;obtain⟨m,Z,hl⟩:=I.loc;obtain⟨u,r,l⟩:=hl i x v Y e hv;have fin:EP X pins σ Q u s:=⟨v,H,I,r,h⟩
 rcases l with ⟨hk,hm⟩ | ⟨hk,c,hc,hcell⟩
 ·exact wpAny_Name (wpAny_loadName_local I.ok.kind hk Z hm fin) O
 ·rcases hk with hk | hk
  ·exact wpAny_Name (wpAny_loadName_cell I.ok.kind hk hc hcell fin) O
  ·exact wpAny_Name (wpAny_loadName_free I.ok.kind hk hc hcell fin R) O
theorem A_9 {i j pos}:PE X (.Constant (.int i) j pos) (tC (.int i)):=λ _ _ _ H _ I h=>wpAny_Constant_int ⟨.int i,H,I.tok _,⟨_,rfl⟩,h⟩
theorem bb6 {b j pos}:PE X (.Constant (.bool b) j pos) (tC (.bl b)):=λ _ _ _ H _ I h=>Constant_bool ⟨.bl b,H,I,rfl,h⟩
theorem au6 {j pos}:PE X (.Constant .none j pos) (tC .non):=λ _ _ _ H _ I h=>Constant_none ⟨.non,H,I,rfl,h⟩
theorem aO6 {x j pos}:PE X (.Constant (.str x) j pos) (tC (.str x)):=λ _ _ _ H _ I h=>Calls.Constant_str ⟨.str x,H,I.tok _,⟨_,rfl⟩,h⟩
noncomputable def Gl (X:Cx) (x:Str):Prop:=X.env.kindOf x=some .globalImplicit
theorem af6 {E:Value->Shared->Prop}{pins:List (Addr×Obj)}{s:Shared}{σ:St}{H:Hp}{x:Str}{u:Value}{pos:Pos}{Q:Value->Shared->Prop} (I:Inv X pins σ H s) (O:Gl X x) (Y:X.mg x=some u) (h:Q u s)
  (R:(x==("__debug__":Str))=false:=by decide):wpAny (model X.prog X.w) X.A (eval (.Name x pos) X.env) Q E s :=
 Calls.Name_function_global I.ok.kind O (Calls.loadGlobal_global (by rw[I.ok.glob];exact I.mod.glob.keeps I.bk) Y h) R
theorem O_0 {E:Value->Shared->Prop}{pins:List (Addr×Obj)}{s:Shared}{σ:St}{H:Hp}{x:Str}{u:Value}{pos:Pos}{Q:Value->Shared->Prop} (I:Inv X pins σ H s) (Y:Gl X x) (R:X.mg x=none) (hv:bootBuiltins x=some u) (h:Q u s)
  (Z:x≠"__name__":=by decide) (O:(x==("__debug__":Str))=false:=by decide):wpAny (model X.prog X.w) X.A (eval (.Name x pos) X.env) Q E s:=by
 obtain⟨mb,h1,h2⟩:=I.mod.blt;exact Calls.Name_function_global I.ok.kind Y (Calls.loadGlobal_builtin (by rw[I.ok.glob];exact I.mod.glob.keeps I.bk) R (by rw[I.ok.blt];exact h1.keeps I.bk) ((h2 x Z).trans hv) h) O
theorem R_1 {x:Str}{v:V}{u:Value}{pos:Pos} (O:Gl X x) (Y:X.mg x=some u) (r:RelV v u) (R:(x==("__debug__":Str))=false:=by decide):PE X (.Name x pos) (tC v) :=
 λ _ _ _ H _ I h=>af6 I O Y ⟨v,H,I,r,h⟩ R
theorem aB0 {x:Str}{v:V}{u:Value}{pos:Pos} (Y:Gl X x) (R:X.mg x=none) (hv:bootBuiltins x=some u) (r:RelV v u) (Z:x≠"__name__":=by decide) (O:(x==("__debug__":Str))=false:=by decide):PE X (.Name x pos) (tC v) :=
 λ _ _ _ H _ I h=>O_0 I Y R hv ⟨v,H,I,r,h⟩ Z O
variable {a b:Expr}{ta tb:TE}{pos:Pos}
noncomputable def tB (t:TE):TT:=λ σ H Q=>t σ H λ x H1=>∃ c,x=.bl c/\Q c H1
variable {tA tB':TT}{rest:List Expr}
noncomputable def tAnd (t u:TT):TT:=λ σ H Q=>t σ H λ c H1=>if c=true then u σ H1 Q else Q false H1
noncomputable def tOr (t u:TT):TT:=λ σ H Q=>t σ H λ c H1=>if c=true then Q true H1 else u σ H1 Q
noncomputable def tNot (t:TT):TT:=λ σ H Q=>t σ H λ c H1=>Q (!c) H1
theorem az9 (O:PT X a tA):PW X (.BoolOp .And [a] pos) tA:=by
 intro Y pins s σ H Q I h;refine isTrue_and (thn (O pins s σ H Q I h) λ c R e=>?_)
 cases c with
 |true=>exact isTrue_and_nil e
 |false=>exact e
theorem au3 (O:PT X a tA):PW X (.BoolOp .Or [a] pos) tA:=by
 intro Y pins s σ H Q I h;refine isTrue_or (thn (O pins s σ H Q I h) λ c R e=>?_)
 cases c with
 |false=>exact isTrue_or_nil e
 |true=>exact e
theorem aN9 (Z:PT X a tA) (hb:PW X (.BoolOp .And (b::rest) pos) tB'):PW X (.BoolOp .And (a::b::rest) pos) (tAnd tA tB'):=by
 intro wh pins s σ H Q I h;refine isTrue_and (thn (Z pins s σ H _ I h) λ c s1 O=>?_)
 obtain⟨H1,Y,R⟩:=O;cases c with
 |true=>exact hb wh pins s1 σ H1 Q Y R
 |false=>exact⟨H1,Y,R⟩
theorem aN8 (Z:PT X a tA) (hb:PW X (.BoolOp .Or (b::rest) pos) tB'):PW X (.BoolOp .Or (a::b::rest) pos) (tOr tA tB'):=by
 intro wh pins s σ H Q I h;refine isTrue_or (thn (Z pins s σ H _ I h) λ c s1 O=>?_)
 obtain⟨H1,Y,R⟩:=O;cases c with
 |true=>exact⟨H1,Y,R⟩
 |false=>exact hb wh pins s1 σ H1 Q Y R
theorem aO0 (O:PT X a tA):PT X (.UnaryOp .Not a pos) (tNot tA):=by
 intro pins s σ H Q I h;exact isTrue_not (O pins s σ H (λ c H1=>Q (!c) H1) I h)
noncomputable def aZ0 (ta tb:TE):TE:=λ σ H Q=>ta σ H λ x H1=>∃ c,x=.bl c/\if c=true then tb σ H1 Q else Q (.bl false) H1
noncomputable def bq0 (ta tb:TE):TE:=λ σ H Q=>ta σ H λ x H1=>∃ c,x=.bl c/\if c=true then Q (.bl true) H1 else tb σ H1 Q
noncomputable def aY5 (ta:TE):TE:=λ σ H Q=>ta σ H λ x H1=>∃ c,x=.bl c/\Q (.bl (!c)) H1
theorem aP0 {op}{t:TE} (h:PE X a t):PE X (.BoolOp op [a] pos) t:=λ pins s σ H Q I hw=>BoolOp_one (h pins s σ H Q I hw)
theorem aP4 (Y:PE X a ta) (hb:PE X (.BoolOp .And (b::rest) pos) tb):PE X (.BoolOp .And (a::b::rest) pos) (aZ0 ta tb):=by
 intro pins s σ H Q I h;refine BoolOp_and (thn (Y pins s σ H _ I h) λ v s1=>ex5 λ x H1 R Z O=>?_)
 obtain⟨c,rfl,O⟩:=O;cases Z;refine wpAny_truthy_bool ?_;cases c with
 |true=>exact hb pins s1 σ H1 Q R O
 |false=>exact⟨.bl false,H1,R,rfl,O⟩
theorem bb4 (Y:PE X a ta) (hb:PE X (.BoolOp .Or (b::rest) pos) tb):PE X (.BoolOp .Or (a::b::rest) pos) (bq0 ta tb):=by
 intro pins s σ H Q I h;refine BoolOp_or (thn (Y pins s σ H _ I h) λ v s1=>ex5 λ x H1 R Z O=>?_)
 obtain⟨c,rfl,O⟩:=O;cases Z;refine wpAny_truthy_bool ?_;cases c with
 |false=>exact hb pins s1 σ H1 Q R O
 |true=>exact⟨.bl true,H1,R,rfl,O⟩
theorem aP1 (R:PE X a ta):PE X (.UnaryOp .Not a pos) (aY5 ta):=by
 intro pins s σ H Q I h;refine UnaryOp_ (thn (R pins s σ H _ I h) λ v s1=>ex5 λ x H1 Y Z O=>?_)
 obtain⟨c,rfl,O⟩:=O;cases Z;exact not_of (wpAny_truthy_bool ⟨.bl (!c),H1,Y,rfl,O⟩)
noncomputable def tIf (t:TT) (ta tb:TE):TE:=λ σ H Q=>t σ H λ c H1=>if c=true then ta σ H1 Q else tb σ H1 Q
theorem ao5 {c:Expr} (hc:PT X c tA) (ha:PE X a ta) (hb:PE X b tb):PE X (.IfExp c a b pos) (tIf tA ta tb):=by
 intro pins s σ H Q I h;refine wpAny_IfExp (thn (hc pins s σ H _ I h) λ d Z O=>?_)
 obtain⟨H1,Y,R⟩:=O;cases d with
 |true=>exact ha pins Z σ H1 Q Y R
 |false=>exact hb pins Z σ H1 Q Y R
end
noncomputable def SqL (K:Frag) (H:Hp) (a:Addr) (xs:List V):Prop :=
 Rd H a (.lst xs) \/
  ∃ (o:Obj) (O:Array Value) (n:Nat),K.lookup a=some o ∧ o.cls=.type "list" ∧ o.dict=none ∧ o.data=.seq O n ∧ O.size ≤ sizeLine ∧ Vals xs O.toList
noncomputable def SqT (K:Frag) (H:Hp) (a:Addr) (xs:List V):Prop :=
 Rd H a (.tup xs) \/
  ∃ (o:Obj) (O:Array Value) (n:Nat),K.lookup a=some o ∧ o.cls=.type "tuple" ∧ o.dict=none ∧ o.data=.seq O n ∧ O.size ≤ sizeLine ∧ Vals xs O.toList
noncomputable def bx0:Value->Option V
 |.none=>some .non
 |.bool b=>some (.bl b)
 |.int i _=>some (.int i)
 |.str x _=>some (.str x)
 |.bytes b _=>some (.byt b)
 |.float b _=>some (.flt b)
 |.ref a=>some (.ref a)
 |.type n=>some (.ty n)
 |_=>none
theorem RelV.abs {x:V}{u:Value} (r:RelV x u):bx0 u=some x:=by
 cases x with
 |non=>cases r;rfl
 |bl _=>cases r;rfl
 |int _=>obtain⟨t,rfl⟩:=r;rfl
 |str _=>obtain⟨t,rfl⟩:=r;rfl
 |byt _=>obtain⟨t,rfl⟩:=r;rfl
 |flt _=>obtain⟨t,rfl⟩:=r;rfl
 |ref _=>cases r;rfl
 |ty _=>cases r;rfl
theorem RelV.inj {x y:V}{u:Value} (r:RelV x u) (q:RelV y u):x=y:=qi (r.abs.symm.trans q.abs)
theorem Vals.inj:∀ {xs ys:List V}{us:List Value},Vals xs us->Vals ys us->xs=ys
 |[],ys,us,h,k=>by cases h;cases k;rfl
 |x::xs,ys,us,h,k=>by
  cases h with
  |cons r t =>
   cases k with
   |cons O t'=>rw[r.inj O,Vals.inj t t']
section
variable {X:Cx}{pins:List (Addr×Obj)}{σ:St}{H:Hp}{s:Shared}{a:Addr}{xs ys:List V}
theorem SqL.of {K:Frag} (h:H a=some (.lst xs)):SqL K H a xs:=.inl (.inl h)
theorem SqT.of {K:Frag} (h:H a=some (.tup xs)):SqT K H a xs:=.inl (.inl h)
theorem Inv.list (I:Inv X pins σ H s) (h:SqL X.K H a xs):∃ O:List Value,Vals xs O/\PlainL s.heap a O.toArray/\xs.length<=sizeLine:=by
 rcases h with h | ⟨o,O,n,hk,hc,hd,hs,hz,r⟩
 ·obtain⟨z,O,n,r,e⟩:=h.ok I.hok
  exact⟨O,r,⟨_,n,e,rfl,rfl,rfl⟩,z⟩
 ·refine⟨O.toList,r,⟨o,n,I.kIn a o hk,hc,hd,by simpa using hs⟩,?_⟩
  have e:=r.length;simp only[Array.length_toList] at e;omega
theorem Inv.tuple (I:Inv X pins σ H s) (h:SqT X.K H a xs):∃ O:List Value,Vals xs O/\IsTup s.heap a O.toArray/\xs.length<=sizeLine:=by
 rcases h with h | ⟨o,O,n,hk,hc,_,hs,hz,r⟩
 ·obtain⟨z,O,r,p⟩:=h.ok I.hok
  exact⟨O,r,p.tup,z⟩
 ·refine⟨O.toList,r,⟨o,I.kIn a o hk,hc,n,by simpa using hs⟩,?_⟩
  have e:=r.length;simp only[Array.length_toList] at e;omega
theorem Inv.tupleN (I:Inv X pins σ H s) (h:SqT X.K H a xs):∃ O:List Value,Vals xs O/\IsTuN s.heap a O.toArray/\xs.length<=sizeLine:=by
 rcases h with h | ⟨o,O,n,hk,hc,hd,hs,hz,r⟩
 ·obtain⟨z,O,r,p⟩:=h.ok I.hok
  exact⟨O,r,p,z⟩
 ·refine⟨O.toList,r,⟨o,I.kIn a o hk,hc,⟨n,by simpa using hs⟩,hd⟩,?_⟩
  have e:=r.length;simp only[Array.length_toList] at e;omega
theorem Inv.list_inj (I:Inv X pins σ H s) (h:SqL X.K H a xs) (h':SqL X.K H a ys):xs=ys:=by
 obtain⟨O,r,⟨o,n,e,_,_,d⟩,_⟩:=I.list h;obtain⟨its',Y,⟨o',Z,R,_,_,d'⟩,_⟩:=I.list h';rw[e] at R;cases R;rw[d] at d';injection d' with d1 _
 have:O=its':=by simpa using congrArg Array.toList d1
 subst this;exact r.inj Y
theorem Inv.tuple_inj (I:Inv X pins σ H s) (h:SqT X.K H a xs) (h':SqT X.K H a ys):xs=ys:=by
 obtain⟨O,r,⟨o,e,_,n,d⟩,_⟩:=I.tuple h;obtain⟨its',Y,⟨o',R,_,Z,d'⟩,_⟩:=I.tuple h';rw[e] at R;cases R;rw[d] at d';injection d' with d1 _
 have:O=its':=by simpa using congrArg Array.toList d1
 subst this;exact r.inj Y
end
abbrev Cx.wish (X:Cx) (E:Value->Shared->Prop):Cx:={X with xe:=E}
abbrev Cx.nox (X:Cx):Cx:=X.wish λ _ _=>False
theorem Cx.Ok.wish {X:Cx} (ok:X.Ok) (E:Value->Shared->Prop):(X.wish E).Ok :=
 ⟨ok.mod,ok.kind,ok.glob,ok.blt,ok.above,ok.inj,ok.has,ok.cab,ok.hd,ok.frames,ok.stk,ok.exf,ok.bs,ok.bsz,ok.noex,ok.exfs,ok.funs,ok.frf⟩
theorem Cx.Ok.unwish {X:Cx}{E:Value->Shared->Prop} (ok:(X.wish E).Ok):X.Ok :=
 ⟨ok.mod,ok.kind,ok.glob,ok.blt,ok.above,ok.inj,ok.has,ok.cab,ok.hd,ok.frames,ok.stk,ok.exf,ok.bs,ok.bsz,ok.noex,ok.exfs,ok.funs,ok.frf⟩
section
variable {X:Cx}{pins:List (Addr×Obj)}{σ:St}{H:Hp}{s:Shared}{E:Value->Shared->Prop}
theorem Inv.wish (I:Inv X pins σ H s) (E:Value->Shared->Prop):Inv (X.wish E) pins σ H s:=⟨I.ok.wish E,I.os,I.bare,I.base,I.loc,I.cell,I.free,I.freeC,I.pin,I.hok,I.len⟩
theorem Inv.unwish (I:Inv (X.wish E) pins σ H s):Inv X pins σ H s:=⟨I.ok.unwish,I.os,I.bare,I.base,I.loc,I.cell,I.free,I.freeC,I.pin,I.hok,I.len⟩
theorem SP.unwish {D:Ends}{f:Flow}{s':Shared} (h:SP (X.wish E) pins D f s'):SP X pins D f s':=by
 cases f with
 |next=>obtain⟨O,H',I,q⟩:=h;exact⟨O,H',I.unwish,q⟩
 |brk=>obtain⟨O,H',I,q⟩:=h;exact⟨O,H',I.unwish,q⟩
 |cont=>obtain⟨O,H',I,q⟩:=h;exact⟨O,H',I.unwish,q⟩
 |ret u=>obtain⟨v,O,H',I,r,q⟩:=h;exact⟨v,O,H',I.unwish,r,q⟩
theorem PE.nox {e:Expr}{t:TE} (h:PE X.nox e t):PE X e t:=λ pins s σ H Q I hw =>
 wpAny_mono (h pins s σ H Q (I.wish _) hw) (λ _ _ ⟨v,H',O,r,q⟩=>⟨v,H',O.unwish,r,q⟩) λ _ _ z=>False.elim z
theorem PT.nox {e:Expr}{t:TT} (h:PT X.nox e t):PT X e t:=λ pins s σ H Q I hw =>
 wpAny_mono (h pins s σ H Q (I.wish _) hw) (λ _ _ ⟨H',O,q⟩=>⟨H',O.unwish,q⟩) λ _ _ z=>False.elim z
theorem PSs.nox {st:List Stmt}{t:TS} (h:PSs X.nox st t):PSs X st t:=λ pins s σ H D I hw =>
 wpAny_mono (h pins s σ H D (I.wish _) hw) (λ _ _ q=>q.unwish) λ _ _ z=>False.elim z
end
section
variable {X:Cx}{st:Stmt}{rest:List Stmt}{t u:TS}{e:Expr}{te:TE}{pos:Pos}
noncomputable def aL5:TS:=λ D σ H=>D.nx σ H
noncomputable def at5 (t u:TS):TS:=λ D σ H=>t {D with nx:=u D} σ H
theorem Q_8:PSs X [] aL5:=λ _ _ σ H _ I h=>wpAny_execs_nil ⟨σ,H,I,h⟩
theorem m_1 (h1:PS X st t) (h2:PSs X rest u):PSs X (st::rest) (at5 t u):=by
 intro pins s σ H D I h;refine wpAny_execs_cons (thn (h1 pins s σ H {D with nx:=u D} I h) λ f Y q=>?_)
 cases f with
 |next =>
  obtain⟨O,H',R,q⟩:=q;exact h2 pins Y O H' D R q
 |ret v=>exact q
 |brk=>exact q
 |cont=>exact q
theorem w_1 (h1:PS X st t):PSs X [st] t:=by
 intro pins s σ H D I h;refine wpAny_execs_cons (thn (h1 pins s σ H D I h) λ f O q=>?_)
 cases f with
 |next=>exact wpAny_execs_nil q
 |ret v=>exact q
 |brk=>exact q
 |cont=>exact q
theorem Inv.quiet {pins:List (Addr×Obj)}{σ:St}{H:Hp}{s:Shared} (I:Inv X pins σ H s):interactive X.env=false:=by simp[interactive,I.ok.kind]
noncomputable def ay1 (te:TE):TS:=λ D σ H=>te σ H λ _ H1=>D.nx σ H1
theorem Q_9 (Y:PE X e te) (R:swapsWith e none pos.line X.env=pure false:=by rfl):PS X (.Expr e pos) (ay1 te):=by
 intro pins s σ H D I h;exact wpAny_Expr_any (thn (Y pins s σ H _ I h) λ v s1=>ex5 λ x H1 Z r1 O=>⟨σ,H1,Z,O⟩) I.quiet R
noncomputable def bp8 (te:TE):TS:=λ D σ H=>te σ H D.rt
theorem U_8 (R:PE X e te):PS X (.Return (some e) pos) (bp8 te):=by
 intro pins s σ H D I h;exact wpAny_Return_some (thn (R pins s σ H _ I h) λ v s1=>ex5 λ x H1 Y Z O=>⟨x,σ,H1,Y,Z,O⟩)
noncomputable def bi5 (c:TT) (t u:TS):TS:=λ D σ H=>c σ H λ b H1=>if b=true then t D σ H1 else u D σ H1
theorem aA2 {c:Expr}{a b:List Stmt}{tc:TT} (hc:PT X c tc) (ha:PSs X a t) (hb:PSs X b u):PS X (.If c a b pos) (bi5 tc t u):=by
 intro pins s σ H D I h;refine wpAny_If (thn (hc pins s σ H _ I h) λ d Z O=>?_)
 obtain⟨H1,Y,R⟩:=O;cases d with
 |true=>exact ha pins Z σ H1 D Y R
 |false=>exact hb pins Z σ H1 D Y R
end
abbrev TG:=V->St->Hp->(St->Hp->Prop)->Prop
abbrev TGs:=List V->St->Hp->(St->Hp->Prop)->Prop
noncomputable def PG (X:Cx) (O:Expr) (t:TG):Prop :=
 ∀ (pins:List (Addr×Obj)) (s:Shared) (σ:St) (H:Hp) (v:V) (u:Value) (Q:St->Hp->Prop),Inv X pins σ H s->RelV v u->t v σ H Q ->
  wpAny (model X.prog X.w) X.A (assign O X.env u) (λ _ s'=>∃ R H',Inv X pins R H' s'/\Q R H') X.xe s
noncomputable def PGs (X:Cx) (R:List Expr) (t:TGs):Prop :=
 ∀ (pins:List (Addr×Obj)) (s:Shared) (σ:St) (H:Hp) (vs:List V) (us:List Value) (Q:St->Hp->Prop),Inv X pins σ H s->Vals vs us->t vs σ H Q ->
  wpAny (model X.prog X.w) X.A (assignInOrder ((assignEach R X.env).map (·.2)) us) (λ _ s'=>∃ O H',Inv X pins O H' s'/\Q O H') X.xe s
section
variable {X:Cx}{pos:Pos}
noncomputable def S_3 (i:Nat):TG:=λ v σ H Q=>Q (σ.set i (some v)) H
theorem R_0 {i:Nat}{x:Str} (R:X.N.Nodup) (hi:X.N[i]?=some x) (Y:Loc X.env.scope x) (hf:X.fn x=true\/X.env.scope.names.lookup x=some .local:=by first | exact .inl rfl | exact .inr rfl | assumption):PG X (.Name x pos) (S_3 i):=by
 intro pins s σ H v u Q I r h;exact wpAny_assign_Name (U_0 I R hi Y r (λ s' O=>⟨_,H,O,h⟩) hf)
noncomputable def bt8:TGs:=λ vs σ H Q=>vs=[]/\Q σ H
noncomputable def bd7 (t:TG) (u:TGs):TGs:=λ vs σ H Q=>∃ v r,vs=v::r/\t v σ H λ O H'=>u r O H' Q
theorem aA7:PGs X [] bt8:=by
 intro pins s σ H vs us Q I r h;obtain⟨e,h⟩:=h;subst e;cases r;exact assignInOrder_nil ⟨σ,H,I,h⟩
theorem ao2 {e:Expr}{es:List Expr}{t:TG}{u:TGs} (h1:PG X e t) (h2:PGs X es u)
  (Z:(assignEach (e::es) X.env).map (·.2)=assign e X.env::(assignEach es X.env).map (·.2):=by rfl):PGs X (e::es) (bd7 t u):=by
 intro pins s σ H vs us Q I r h;obtain⟨v,vr,e1,h⟩:=h;subst e1;cases r with
 |cons r rr =>
  rw[Z];refine assignInOrder_cons (thn (h1 pins s σ H _ _ _ I r h) λ _ s1 O=>?_)
  obtain⟨R,H1,I1,Y⟩:=O;exact h2 pins s1 R H1 _ _ Q I1 rr Y
noncomputable def bt7 (K:Frag) (n:Nat) (t:TGs):TG:=λ v σ H Q=>∃ a xs,v=.ref a/\SqT K H a xs/\xs.length=n/\t xs σ H Q
theorem aO3 {es:List Expr}{k:Nat}{t:TGs}{n:Nat} (hc:X.calm=true) (h:PGs X es t)
  (hn:(assignEach es X.env).length=n:=by rfl) (O:(assignEach es X.env).findIdx? (·.1)=none:=by rfl):PG X (.Tuple es k pos) (bt7 X.K n t):=by
 intro pins s σ H v u Q I r hw;obtain⟨a,xs,e1,hq,hl,hw⟩:=hw;subst e1;cases r;obtain⟨Y,R,ht,hz⟩:=I.tuple hq;refine assign_Tuple_tuple (I.ok.hd hc) ht (by simp[hn,<- hl,R.length]) O λ h' hx=>?_
 have Z:Inv X pins σ H {s with heap:=h'}:=I.kept (t':=s.toks) λ b o e=>hx b o (qt (qm e)) e
 exact h pins _ σ H xs _ Q Z (by simpa using R) hw
noncomputable def aW6 (te:TE) (g:TG):TS:=λ D σ H=>te σ H λ x H1=>g x σ H1 D.nx
theorem A_8 {i:Nat}{x:Str}{e:Expr}{te:TE}{pos':Pos} (hN:X.N.Nodup) (hi:X.N[i]?=some x) (hx:Loc X.env.scope x) (Z:PE X e te) (Y:swapsWith e (some (.Name x pos')) pos.line X.env=pure false:=by rfl) (hf:X.fn x=true\/X.env.scope.names.lookup x=some .local:=by first | exact .inl rfl | exact .inr rfl | assumption) :
  PS X (.Assign [.Name x pos'] e pos) (aW6 te (S_3 i)):=by
 intro pins s σ H D I h;refine wpAny_Assign_Name (thn (Z pins s σ H _ I h) λ v s1=>ex5 λ y H1 I1 r1 R=>?_) Y
 exact U_0 I1 hN hi hx r1 (λ s2 O=>⟨_,H1,O,R⟩) hf
end
section
variable {X:Cx}{pos:Pos}
noncomputable def aL0 (c:TT) (tb:TS):TS:=λ D σ H=>∃ W:Nat->St->Hp->Prop,(∃ m,W m σ H)/\∀ m σ H,W m σ H ->
 c σ H λ b H1=>if b=true then ∃ N:St->Hp->Prop,(∀ O H',N O H'->∃ R,R<m/\W R O H')/\tb {D with nx:=N,ct:=N,bk:=D.nx} σ H1 else D.nx σ H1
theorem an0 {c:Expr}{body:List Stmt}{tc:TT}{tb:TS} (hp:PassesOwn (model X.prog X.w) X.A X.env X.xe) (hc:PT X c tc) (hb:PSs X body tb):PS X (.While c body [] pos) (aL0 tc tb):=by
 intro pins s σ H D I h;obtain⟨W,⟨m0,w0⟩,ab⟩:=h;refine wpAny_While (codeAny_whileLoop (λ n s'=>∃ Z H',Inv X pins Z H' s'/\W n Z H') ?_ m0 ⟨σ,H,I,w0⟩)
 rintro n s1 ⟨R,H1,I1,w1⟩;refine wpAny_passesOwn hp (thn (hc pins s1 R H1 _ I1 (ab n R H1 w1)) λ b s2 aa=>?_)
 obtain⟨H2,I2,q2⟩:=aa;cases b with
 |true =>
  obtain⟨N,hN,q2⟩:=q2;rw[if_pos rfl];refine wpAny_passesOwn hp (thn (hb pins s2 R H2 _ I2 q2) λ f s3 q3=>?_)
  cases f with
  |next =>
   obtain⟨O,Y,I3,n3⟩:=q3;obtain⟨m',hm,w3⟩:=hN O Y n3;exact⟨m',hm,O,Y,I3,w3⟩
  |cont =>
   obtain⟨O,Y,I3,n3⟩:=q3;obtain⟨m',hm,w3⟩:=hN O Y n3;exact⟨m',hm,O,Y,I3,w3⟩
  |brk=>exact q3
  |ret v=>exact q3
 |false =>
  rw[if_neg Bool.false_ne_true];exact wpAny_execs_nil ⟨R,H2,I2,q2⟩
end
structure It where
 go:Nat->Hp->Prop
 yld:Nat->Hp->V->Hp->Prop
 stop:Nat->Hp->Prop
noncomputable def X_9 (X:Cx) (pins:List (Addr×Obj)) (H:Hp) (b:Addr):Prop :=
 H b=none/\b≠X.env.locals/\b∉X.fs/\(b∈X.ex\/X.s₀.heap.objs.size<=b)/\(∀ x c,X.env.cells.lookup x=some c->c≠b)/\∀ p∈X.pn++pins,p.1≠b
theorem Inv.fpOk {X:Cx}{pins:List (Addr×Obj)}{σ:St}{H H':Hp}{s:Shared}{b:Addr} (I:Inv X pins σ H s) (O:s.heap.objs.size<=b) (R:H' b=none):X_9 X pins H' b:=by
 refine⟨R,Nat.ne_of_gt (qr I.lt O),I.nofs O,.inr (Nat.le_trans I.sz O),λ x c e z=>?_,λ p Y z=>?_⟩
 ·obtain⟨v,q⟩:=I.cell x c e
  exact absurd (qr q.lt (by rw[z];exact O)) (Nat.lt_irrefl _)
 ·exact absurd (qr (qm (I.pin p Y).1) (by rw[z];exact O)) (Nat.lt_irrefl _)
structure Turn (P:Program) (w:World) (K:Frag) (tg:Expr) (J:It) (fp:List Addr) (it:Addr) (tn:Nat->Heap->Prop):Prop where
 mem:it∈fp
 obj:∀ i h,tn i h->∀ b∈fp,∃ o,h.get? b=some o/\∀ v,o.data≠.cell v
 keep:∀ i h h',tn i h->(∀ b∈fp,∀ o,h.get? b=some o->h'.get? b=some o)->tn i h'
 item:∀ (X:Cx),X.prog=P->X.w=w->X.K=K->X.calm=true->∀ (i:Nat) (pins:List (Addr×Obj)) (s:Shared) (σ:St) (H:Hp) (E:Value->Shared->Prop),Inv X pins σ H s->(∀ b∈fp,X_9 X pins H b)->tn i s.heap->J.go i H ->
  wpAny (model P w) X.A (pyNext (.ref it)) (λ r s1=>∃ u,r=some u /\
   wpAny (model P w) X.A (letOwnedTupleGo tg (.ref it) u) (λ _ s2=>∃ x H',Inv X pins σ H' s2/\RelV x u/\J.yld i H x H'/\tn (i+1) s2.heap/\∀ b∈fp,H' b=none) E s1) E s
 done:∀ (X:Cx),X.prog=P->X.w=w->X.K=K->X.calm=true->∀ (i:Nat) (pins:List (Addr×Obj)) (s:Shared) (σ:St) (H:Hp) (E:Value->Shared->Prop),Inv X pins σ H s->(∀ b∈fp,X_9 X pins H b)->tn i s.heap->J.stop i H ->
  wpAny (model P w) X.A (pyNext (.ref it)) (λ r s1=>r=none/\Inv X pins σ H s1) E s
 self:∀ (A:Around) (i:Nat) (s:Shared) (Q:Value->Shared->Prop) (E:Value->Shared->Prop),tn i s.heap->Q (.ref it) s->wpAny (model P w) A (pyIter (.ref it)) Q E s
abbrev TI:=St->Hp->(It->Hp->Prop)->Prop
noncomputable def PIE (X:Cx) (pins:List (Addr×Obj)) (σ:St) (tg:Expr) (R:It->Hp->Prop) (O:Value) (Y:Shared):Prop :=
 ∃ (it:Addr) (Z:List Addr) (tn:Nat->Heap->Prop) (J:It) (H':Hp),O=.ref it/\Inv X pins σ H' Y/\Turn X.prog X.w X.K tg J Z it tn/\tn 0 Y.heap/\(∀ b∈Z,X_9 X pins H' b)/\R J H'
noncomputable def PI (X:Cx) (tg iter:Expr) (O:TI):Prop :=
 ∀ (pins:List (Addr×Obj)) (s:Shared) (σ:St) (H:Hp) (R:It->Hp->Prop),Inv X pins σ H s->O σ H R ->
  wpAny (model X.prog X.w) X.A (eval iter X.env) (λ v Y=>wpAny (model X.prog X.w) X.A (pyIter v) (PIE X pins σ tg R) X.xe Y) X.xe s
theorem aq3 {M:Model}{A:Around}{E:Value->Shared->Prop}{s:Shared}{tg:Expr}{it:Addr}{u:Value}{o:Obj}{n:String}{vs:Array Value}{Q:Unit->Shared->Prop} (Z:s.heap.get? it=some o) (hc:o.cls=.type n) (R:o.data=.fields vs)
  (Y:["enumerate","zip","dict_itemiterator","dict_reverseitemiterator","odict_iterator","itertools.zip_longest","itertools.pairwise"].contains n=false) (O:Q () s):wpAny M A (letOwnedTupleGo tg (.ref it) u) Q E s:=by
 unfold letOwnedTupleGo;cases tg <;> first
  |exact qc O
  |(cases u <;> first
    |exact qc O
    |(refine qb (wpAny_load Z ?_);rw[hc,R];show wpAny M A (if (["enumerate","zip","dict_itemiterator","dict_reverseitemiterator","odict_iterator","itertools.zip_longest","itertools.pairwise"].contains n&&vs[0]?==some (rawInt _))=true then _ else _) Q E s;rw[if_neg (by intro h;rw[Y,Bool.false_and] at h;cases h)];exact qc O))
noncomputable def Itl (K:Frag) (a:Addr):It :=
 ⟨λ i H=>∃ xs x,SqL K H a xs/\xs[i]?=some x,λ i H x H'=>H'=H/\∀ xs,SqL K H a xs->xs[i]?=some x,λ i H=>∃ xs,SqL K H a xs/\xs.length<=i⟩
noncomputable def Itt (K:Frag) (a:Addr):It :=
 ⟨λ i H=>∃ xs x,SqT K H a xs/\xs[i]?=some x,λ i H x H'=>H'=H/\∀ xs,SqT K H a xs->xs[i]?=some x,λ i H=>∃ xs,SqT K H a xs/\xs.length<=i⟩
noncomputable def Itr (lo:Int) (n:Nat):It:=⟨λ i _=>i<n,λ i H x H'=>H'=H/\x=.int (lo+i),λ i _=>n<=i⟩
theorem ac5 {P:Program}{w:World}{K:Frag}{tg:Expr} (a it:Addr):Turn P w K tg (Itl K a) [it] it (λ i h=>h.IsListIter it a i) where
 mem:=by simp
 obj:=λ i h st b O=>by
  have e:b=it:=by simpa using O
  subst e;obtain⟨o,e,c,d⟩:=st;exact⟨o,e,λ v z=>by rw[d] at z;cases z⟩
 keep:=λ i h h' st k=>st.at λ o e=>k it (by simp) o e
 item:=by
  intro X hP hw hK hc i pins s σ H E I hf st hg;subst hP hw hK;obtain⟨xs,x,Y,hx⟩:=hg;obtain⟨aa,rv,p,hz⟩:=I.list Y;obtain⟨u,hu,ru⟩:=rv.get hx;obtain⟨f0,f1,f2,Z,f4,f5⟩:=hf it (by simp)
  refine wpAny_pyNext_list_item st p.isList (x:=u) (by simpa using hu) λ h' R sb=>?_
  have I1:Inv X pins σ H {s with heap:=h'}:=I.turned (t':=s.toks) (λ b o O e=>(sb.2 b O).trans e) f0 f1 Z f4 f5
  obtain⟨o,e,c,d⟩:=id R;exact⟨u,rfl,aq3 (s:={s with heap:=h'}) e c d (by decide) ⟨x,H,I1,ru,⟨rfl,λ ys hy=>by rw[I.list_inj hy Y];exact hx⟩,R,λ b O=>(hf b O).1⟩⟩
 done:=by
  intro X hP hw hK hc i pins s σ H E I hf st hg;subst hP hw hK;obtain⟨xs,Y,hx⟩:=hg;obtain⟨aa,rv,p,hz⟩:=I.list Y;obtain⟨f0,f1,f2,Z,f4,f5⟩:=hf it (by simp)
  have hl:=rv.length;exact wpAny_pyNext_list_end (I.ok.hd hc) st p.isList (by simp;omega) λ h' eb=>⟨rfl,I.turned (t':=s.toks) (λ b o O e=>eb b o O e) f0 f1 Z f4 f5⟩
 self:=λ _ _ _ _ _ st h=>wpAny_pyIter_listiter st h
theorem Y_3 {P:Program}{w:World}{K:Frag}{tg:Expr} (a it:Addr):Turn P w K tg (Itt K a) [it] it (λ i h=>h.IsTupleIter it a i) where
 mem:=by simp
 obj:=λ i h st b R=>by
  have e:b=it:=by simpa using R
  subst e;obtain⟨o,e,c,d⟩:=st;exact⟨o,e,λ v z=>by rw[d] at z;cases z⟩
 keep:=λ i h h' st k=>st.at λ o e=>k it (by simp) o e
 item:=by
  intro X hP hw hK hc i pins s σ H E I hf st hg;subst hP hw hK;obtain⟨xs,x,Z,hx⟩:=hg;obtain⟨O,rv,p,hz⟩:=I.tuple Z;obtain⟨u,hu,ru⟩:=rv.get hx;obtain⟨f0,f1,f2,f3,f4,f5⟩:=hf it (by simp)
  refine wpAny_pyNext_tuple_item st (show s.heap.IsTuple a O.toArray from p) (x:=u) (by simpa using hu) λ h' Y sb=>?_
  have I1:Inv X pins σ H {s with heap:=h'}:=I.turned (t':=s.toks) (λ b o R e=>(sb.2 b R).trans e) f0 f1 f3 f4 f5
  obtain⟨o,e,c,d⟩:=id Y;exact⟨u,rfl,aq3 (s:={s with heap:=h'}) e c d (by decide) ⟨x,H,I1,ru,⟨rfl,λ ys hy=>by rw[I.tuple_inj hy Z];exact hx⟩,Y,λ b R=>(hf b R).1⟩⟩
 done:=by
  intro X hP hw hK hc i pins s σ H E I hf st hg;subst hP hw hK;obtain⟨xs,Z,hx⟩:=hg;obtain⟨O,rv,p,hz⟩:=I.tuple Z;obtain⟨f0,f1,f2,f3,f4,f5⟩:=hf it (by simp)
  have hl:=rv.length;exact wpAny_pyNext_tuple_end (I.ok.hd hc) st (show s.heap.IsTuple a O.toArray from p) (by simp;omega) λ h' eb=>⟨rfl,I.turned (t':=s.toks) (λ b o R e=>eb b o R e) f0 f1 f3 f4 f5⟩
 self:=λ _ _ _ _ _ st h=>wpAny_pyIter_tupleiter st h
theorem Y_4 {P:Program}{w:World}{K:Frag}{tg:Expr} (it:Addr) (lo:Int) (n:Nat):Turn P w K tg (Itr lo n) [it] it (λ i h=>IsRangeIter h it (lo+(i:Nat)*1) ((n:Int)-(i:Nat)) 1) where
 mem:=by simp
 obj:=λ i h st b O=>by
  have e:b=it:=by simpa using O
  subst e
  exact⟨_,st,λ v z=>by
   have z':Data.fields _=Data.cell v:=z;cases z'⟩
 keep:=λ i h h' st k=>k it (by simp) _ st
 item:=by
  intro X hP hw hK hc i pins s σ H E I hf st hg;subst hP hw hK;obtain⟨Y,f1,f2,Z,f4,f5⟩:=hf it (by simp)
  have W:=Walks.range (prog:=X.prog) (w:=X.w) (I.ok.hd hc) it lo 1 n;refine W.item i s _ _ hg st λ v h' tk hv R kk=>?_
  obtain⟨t,rfl⟩:=hv;have I1:Inv X pins σ H {s with heap:=h',toks:=tk}:=I.turned (λ b o O e=>kk b o (by simpa using O) e) Y f1 Z f4 f5
  refine⟨_,rfl,aq3 (s:={s with heap:=h',toks:=tk}) (n:="range_iterator") R rfl rfl (by decide) ⟨.int (lo+i),H,I1,⟨t,?_⟩,⟨rfl,rfl⟩,R,λ b O=>(hf b O).1⟩⟩
  rw[Int.mul_one]
 done:=by
  intro X hP hw hK hc i pins s σ H E I hf st hg;subst hP hw hK;obtain⟨Y,f1,f2,Z,f4,f5⟩:=hf it (by simp)
  exact wpAny_pyNext_range_end (I.ok.hd hc) st (by have:n<=i:=hg;omega) λ h' eb=>⟨rfl,I.turned (t':=s.toks) (λ b o O e=>eb b o O e) Y f1 Z f4 f5⟩
 self:=λ _ _ _ _ _ st h=>wpAny_pyIter_rangeiter st h
section
variable {X:Cx}{tg:Expr}
noncomputable def aS9 (K:Frag) (tl:TE):TI:=λ σ H R=>tl σ H λ x H1=>∃ a,x=.ref a/\(∃ xs,SqL K H1 a xs)/\R (Itl K a) H1
noncomputable def bl0 (K:Frag) (tl:TE):TI:=λ σ H R=>tl σ H λ x H1=>∃ a,x=.ref a/\(∃ xs,SqT K H1 a xs)/\R (Itt K a) H1
theorem ad8 {l:Expr}{tl:TE} (hl:PE X l tl):PI X tg l (aS9 X.K tl):=by
 intro pins s σ H R I h;refine thn (hl pins s σ H _ I h) λ v Y=>ex5 λ x H1 O r1 Z=>?_
 obtain⟨a,e,⟨xs,hq⟩,q⟩:=Z;subst e;cases r1;obtain⟨aa,rv,p,hz⟩:=O.list hq;refine wpAny_pyIter_list p.isList ?_;refine⟨Y.heap.objs.size,[Y.heap.objs.size],_,_,H1,rfl,O.kept (t':=Y.toks) λ b o e=>qd _ e,ac5 a _,⟨_,qk _ rfl,rfl,rfl⟩,λ b hb=>?_,q⟩
 have e:b=Y.heap.objs.size:=by simpa using hb
 subst e;exact O.fpOk (qj _) (O.hok.fresh (qj _))
theorem aO1 {l:Expr}{tl:TE} (hl:PE X l tl):PI X tg l (bl0 X.K tl):=by
 intro pins s σ H R I h;refine thn (hl pins s σ H _ I h) λ v O=>ex5 λ x H1 Y r1 q1=>?_
 obtain⟨a,e,⟨xs,hq⟩,q⟩:=q1;subst e;cases r1;obtain⟨Z,rv,p,hz⟩:=Y.tuple hq;refine wpAny_pyIter_tuple (show O.heap.IsTuple a Z.toArray from p) ?_;refine⟨O.heap.objs.size,[O.heap.objs.size],_,_,H1,rfl,Y.kept (t':=O.toks) λ b o e=>qd _ e,Y_3 a _,⟨_,qk _ rfl,rfl,rfl⟩,λ b hb=>?_,q⟩
 have e:b=O.heap.objs.size:=by simpa using hb
 subst e;exact Y.fpOk (qj _) (Y.hok.fresh (qj _))
theorem U_5 {pins:List (Addr×Obj)}{σ:St}{H:Hp}{s:Shared}{R:It->Hp->Prop}{E:Value->Shared->Prop}{lo hi:Int}{t u v:Tok}{tk:Nat} (I:Inv X pins σ H s) (h1:-(2 ^ 62)<=lo) (h2:lo<2 ^ 62) (Z:-(2 ^ 62)<=hi) (h4:hi<2 ^ 62)
  (q:R (Itr lo (hi-lo).toNat) H):wpAny (model X.prog X.w) X.A (pyIter (.ref s.heap.objs.size)) (PIE X pins σ tg R) E {s with heap:=s.heap.push {cls:=.type "range",data:=.fields #[.int lo t,.int hi u,.int 1 v]},toks:=tk}:=by
 refine wpAny_pyIter_range (IsRange.new ..) (small_one h1 h2 Z h4) ?_;have O:Inv X pins σ H {s with heap:=s.heap.push {cls:=.type "range",data:=.fields #[.int lo t,.int hi u,.int 1 v]},toks:=tk}:=I.kept λ b o e=>qd _ e
 refine⟨(s.heap.push {cls:=.type "range",data:=.fields #[.int lo t,.int hi u,.int 1 v]}).objs.size,[(s.heap.push {cls:=.type "range",data:=.fields #[.int lo t,.int hi u,.int 1 v]}).objs.size],_,_,H,rfl,
  O.kept (t':=tk) λ b o e=>qd _ e,Y_4 _ lo (hi-lo).toNat,?_,λ b Y=>?_,q⟩
 ·have e1:lo+((0:Nat):Int)*1=lo:=by simp
  have e2:(((hi-lo).toNat:Nat):Int)-((0:Nat):Int)=Builtin.Range.rangeSize lo hi 1:=by rw[rangeSize_one];split <;> omega
  show IsRangeIter _ _ (lo+((0:Nat):Int)*1) ((((hi-lo).toNat:Nat):Int)-((0:Nat):Int)) 1;rw[e1,e2];exact qk _ rfl
 ·have e:b=(s.heap.push {cls:=.type "range",data:=.fields #[.int lo t,.int hi u,.int 1 v]}).objs.size:=by simpa using Y
  subst e;exact O.fpOk (qj _) (O.hok.fresh (qj _))
noncomputable def bd5 (ta:TA):TI:=λ σ H R=>ta σ H λ vs H1=>∃ j:Int,vs=[.int j]/\-(2 ^ 62)<=j/\j<2 ^ 62/\R (Itr 0 j.toNat) H1
noncomputable def bd4 (ta:TA):TI:=λ σ H R=>ta σ H λ vs H1=>∃ i j:Int,vs=[.int i,.int j]/\(-(2 ^ 62)<=i/\i<2 ^ 62/\-(2 ^ 62)<=j/\j<2 ^ 62)/\R (Itr i (j-i).toNat) H1
theorem M_3 {a:Expr}{ta:TA}{p pos:Pos} (hg:Gl X "range") (hm:X.mg "range"=none) (Z:PA X [a] ta) (Y:starEach [a] X.env=[(false,eval a X.env)]:=by rfl):PI X tg (.Call (.Name "range" p) [a] [] pos) (bd5 ta):=by
 intro pins s σ H R I h;refine Call_ (O_0 I hg hm boot_range (PyProof.Rows.callWith_type1 (thn (Z pos pins s σ H _ I h) λ us s1=>ex5 λ vs H1 I1 r1 O=>?_) Y rfl))
 obtain⟨j,e,O,q2,q⟩:=O;subst e;cases r1 with
 |cons r rr =>
  cases rr;obtain⟨t,rfl⟩:=r;exact call_range_1 (U_5 I1 (by omega) (by omega) O q2 (by simpa using q))
theorem ad7 {a b:Expr}{ta:TA}{p pos:Pos} (hg:Gl X "range") (hm:X.mg "range"=none) (ha:PA X [a,b] ta) (hs:starEach [a,b] X.env=[(false,eval a X.env),(false,eval b X.env)]:=by rfl) (O:starEach [b] X.env=[(false,eval b X.env)]:=by rfl) :
  PI X tg (.Call (.Name "range" p) [a,b] [] pos) (bd4 ta):=by
 intro pins s σ H R I h;refine Call_ (O_0 I hg hm boot_range (PyProof.Rows.callWith_type1 (thn (ha pos pins s σ H _ I h) λ us s1=>ex5 λ vs H1 I1 r1 Y=>?_) (by rw[hs,O]) (by rw[O];rfl)))
 obtain⟨i,j,e,⟨Y,q2,q3,q4⟩,q⟩:=Y;subst e;cases r1 with
 |cons r Z =>
  cases Z with
  |cons r' Z =>
   cases Z;obtain⟨t,rfl⟩:=r;obtain⟨t',rfl⟩:=r';exact call_range_2 (U_5 I1 Y q2 q3 q4 q)
noncomputable def bq2 (Z:TI) (g:TG) (tb:TS):TS:=λ D σ H=>Z σ H λ J H1=>∃ W:Nat->Nat->St->Hp->Prop,(∃ m,W 0 m σ H1)/\∀ i m σ H,W i m σ H ->
 (J.stop i H/\D.nx σ H)\/(J.go i H/\∃ N:St->Hp->Prop,(∀ O H',N O H'->∃ Y,Y<m/\W (i+1) Y O H')/\∀ x H',J.yld i H x H'->g x σ H' λ R H2=>tb {D with nx:=N,ct:=N,bk:=D.nx} R H2)
noncomputable def M_2 (O:List Addr) (h:Heap):List (Addr×Obj):=O.filterMap λ b=>(h.get? b).map λ o=>(b,o)
theorem r_4 {O:List Addr}{h:Heap}{b:Addr}{o:Obj} (R:b∈O) (e:h.get? b=some o):(b,o)∈M_2 O h:=List.mem_filterMap.mpr ⟨b,R,by rw[e];rfl⟩
theorem ae5 {O:List Addr}{h:Heap}{p:Addr×Obj} (Z:p∈M_2 O h):p.1∈O/\h.get? p.1=some p.2:=by
 obtain⟨b,Y,e⟩:=List.mem_filterMap.mp Z;cases q:h.get? b with
 |none=>rw[q] at e;cases e
 |some o =>
  rw[q] at e;have R:(b,o)=p:=qi e;subst R;exact⟨Y,q⟩
theorem Inv.pinned {pins:List (Addr×Obj)}{σ:St}{H:Hp}{s:Shared}{O:List Addr} (I:Inv X pins σ H s) (hf:∀ b∈O,X_9 X pins H b) (ho:∀ b∈O,∃ o,s.heap.get? b=some o/\∀ v,o.data≠.cell v):Inv X (pins++M_2 O s.heap) σ H s :=
 I.pins_of λ p hp=>(qw hp).elim (λ z=>I.pin p (qo _ z)) λ z=>by
  obtain⟨Y,e⟩:=ae5 z;obtain⟨Z,f1,f2,_⟩:=hf p.1 Y;obtain⟨o,R,d⟩:=ho p.1 Y;rw[e] at R;cases R;exact⟨e,Z,f1,f2,d⟩
theorem Inv.unpinned {pins O:List (Addr×Obj)}{σ:St}{H:Hp}{s:Shared} (I:Inv X (pins++O) σ H s):Inv X pins σ H s:=I.pins_of λ p R=>I.pin p (qo _ (qp _ R))
theorem U_9 {iter:Expr}{body:List Stmt}{wi:TI}{g:TG}{tb:TS}{pos:Pos} (hp:PassesOwn (model X.prog X.w) X.A X.env X.xe) (hc:X.calm=true) (hi:PI X tg iter wi) (hg:PG X tg g) (hb:PSs X body tb)
  (hs:∀ x,foldedSetIterable iter X.env x=pure x:=by intro _;rfl):PS X (.For tg iter body [] pos) (bq2 wi g tb):=by
 intro pins s σ H D I h;refine wpAny_For (thn (hi pins s σ H _ I h) λ v s1 h1=>thn h1 λ aj s2 h2=>?_) hs
 obtain⟨it,fp,tn,J,H2,e,I2,T,ah,f2,W,⟨m0,w0⟩,af⟩:=h2;subst e;have aa:∀ {H':Hp},(∀ b∈fp,H' b=none)->∀ b∈fp,X_9 X pins H' b:=λ hn b hb=>⟨hn b hb,(f2 b hb).2⟩
 refine codeAny_forLoop_any (λ n s'=>∃ i ab H',Inv X pins ab H' s'/\tn i s'.heap/\(∀ b∈fp,H' b=none)/\W i n ab H') ?_ m0 ⟨0,σ,H2,I2,ah,λ b hb=>(f2 b hb).1,w0⟩
 rintro n s3 ⟨i,Z,H3,I3,ae,ad,w3⟩
 rcases af i n Z H3 w3 with ⟨stop,qn⟩ | ⟨go,N,hN,step⟩
 ·refine wpAny_passesOwn hp (thn (T.done X rfl rfl rfl hc i pins s3 Z H3 X.xe I3 (aa ad) ae stop) λ r s4 O=>?_)
  obtain⟨hr,I4⟩:=O;subst hr;exact wpAny_execs_nil ⟨Z,H3,I4,qn⟩
 ·refine wpAny_passesOwn hp (thn (T.item X rfl rfl rfl hc i pins s3 Z H3 X.xe I3 (aa ad) ae go) λ r s4 O=>?_)
  obtain⟨u,hr,h4⟩:=O;subst hr;refine wpAny_passesOwn hp (thn h4 λ _ s5 O=>?_)
  obtain⟨x,H5,I5,r5,y5,ac,ag⟩:=O;have I5':=I5.pinned (aa ag) (T.obj _ _ ac);refine wpAny_passesOwn hp (thn (hg _ s5 Z H5 x u _ I5' r5 (step x H5 y5)) λ _ s6 O=>?_)
  obtain⟨ai,H6,I6,q6⟩:=O;refine wpAny_passesOwn hp (thn (hb _ s6 ai H6 _ I6 q6) λ f s7 q7=>?_)
  have Y:∀ {R:St}{H7:Hp},Inv X (pins++M_2 fp s5.heap) R H7 s7->N R H7->∃ m,m<n/\∃ i ab H',Inv X pins ab H' s7/\tn i s7.heap/\(∀ b∈fp,H' b=none)/\W i m ab H':=λ {R H7} I7 n7=>by
   obtain⟨m',hm,w7⟩:=hN R H7 n7;refine⟨m',hm,i+1,R,H7,I7.unpinned,T.keep _ _ _ ac λ b hb o e=>(I7.pin (b,o) (qo _ (qo _ (r_4 hb e)))).1,λ b hb=>?_,w7⟩
   obtain⟨o,e,d⟩:=T.obj _ _ ac b hb;exact (I7.pin (b,o) (qo _ (qo _ (r_4 hb e)))).2.1
  cases f with
  |next=>obtain⟨R,H7,I7,n7⟩:=q7;exact Y I7 n7
  |cont=>obtain⟨R,H7,I7,n7⟩:=q7;exact Y I7 n7
  |brk=>obtain⟨R,H7,I7,q7⟩:=q7;exact⟨R,H7,I7.unpinned,q7⟩
  |ret v=>obtain⟨x7,R,H7,I7,r7,q7⟩:=q7;exact⟨x7,R,H7,I7.unpinned,r7,q7⟩
end
abbrev R2:=V->V->Hp->VK->Prop
noncomputable def OpR (X:Cx) (f:Value->Value->Sem Value) (r:R2):Prop :=
 ∀ (pins:List (Addr×Obj)) (s:Shared) (σ:St) (H:Hp) (x y:V) (v u:Value) (Q:VK),Inv X pins σ H s->RelV x v->RelV y u->r x y H Q ->
  wpAny (model X.prog X.w) X.A (f v u) (EP X pins σ Q) X.xe s
noncomputable def UnR (X:Cx) (f:Value->Sem Value) (r:V->Hp->VK->Prop):Prop :=
 ∀ (pins:List (Addr×Obj)) (s:Shared) (σ:St) (H:Hp) (x:V) (v:Value) (Q:VK),Inv X pins σ H s->RelV x v->r x H Q ->
  wpAny (model X.prog X.w) X.A (f v) (EP X pins σ Q) X.xe s
noncomputable def CallR (X:Cx) (f:Value) (r:List V->Hp->VK->Prop):Prop :=
 ∀ (pins:List (Addr×Obj)) (s:Shared) (σ:St) (H:Hp) (xs:List V) (us:List Value) (Q:VK),Inv X pins σ H s->Vals xs us->r xs H Q ->
  wpAny (model X.prog X.w) X.A (call f us) (EP X pins σ Q) X.xe s
noncomputable def bx3 (X:Cx) (r:V->Hp->(Bool->Hp->Prop)->Prop):Prop :=
 ∀ (pins:List (Addr×Obj)) (s:Shared) (σ:St) (H:Hp) (x:V) (v:Value) (Q:Bool->Hp->Prop),Inv X pins σ H s->RelV x v->r x H Q ->
  wpAny (model X.prog X.w) X.A (truthy v) (TP X pins σ Q) X.xe s
noncomputable def tOp (r:R2) (ta tb:TE):TE:=λ σ H Q=>ta σ H λ x H1=>tb σ H1 λ y H2=>r x y H2 Q
noncomputable def tUn (r:V->Hp->VK->Prop) (ta:TE):TE:=λ σ H Q=>ta σ H λ x H1=>r x H1 Q
noncomputable def rI (C:Int->Int->Prop) (g:Int->Int->V):R2:=λ x y H Q=>∃ i j,x=.int i/\y=.int j/\C i j/\Q (g i j) H
noncomputable def rI0 (g:Int->Int->V):R2:=λ x y H Q=>∃ i j,x=.int i/\y=.int j/\Q (g i j) H
noncomputable def rU (g:Int->V):V->Hp->VK->Prop:=λ x H Q=>∃ i,x=.int i/\Q (g i) H
section
variable {X:Cx}{a b c:Expr}{ta tb tc:TE}{pos:Pos}
theorem bh3 (ha:PE X a ta) (hb:PE X b tb) {pins:List (Addr×Obj)}{s:Shared}{σ:St}{H:Hp}{R:V->V->Hp->Prop} (I:Inv X pins σ H s)
  (h:ta σ H λ x H1=>tb σ H1 λ y H2=>R x y H2) {Q:Value->Shared->Prop}{f:Value->Value->Sem Value}
  (hf:∀ v u Z x y H2,Inv X pins σ H2 Z->RelV x v->RelV y u->R x y H2->wpAny (model X.prog X.w) X.A (f v u) Q X.xe Z) :
  wpAny (model X.prog X.w) X.A (eval a X.env) (λ v O=>wpAny (model X.prog X.w) X.A (eval b X.env) (λ u Y=>wpAny (model X.prog X.w) X.A (f v u) Q X.xe Y) X.xe O) X.xe s:=by
 refine thn (ha pins s σ H _ I h) λ v s1=>ex5 λ x H1 I1 r1 q1=>?_
 refine thn (hb pins s1 σ H1 _ I1 q1) λ u Z=>ex5 λ y H2 I2 r2 q2=>?_
 exact hf v u Z x y H2 I2 r1 r2 q2
theorem aO9 {op:Operator}{r:R2} (ho:OpR X (binaryOp op) r) (R:PE X a ta) (hb:PE X b tb):PE X (.BinOp a op b pos) (tOp r ta tb):=by
 intro pins s σ H Q I h;exact wpAny_BinOp (bh3 R hb I h λ v u Y x y H2 O Z ry q=>ho pins Y σ H2 x y v u Q O Z ry q)
theorem aA8 {op:UnaryOp}{r:V->Hp->VK->Prop} (ho:UnR X (unaryOp op) r) (R:PE X a ta):PE X (.UnaryOp op a pos) (tUn r ta):=by
 intro pins s σ H Q I h;exact UnaryOp_ (thn (R pins s σ H _ I h) λ v s1=>ex5 λ x H1 Y Z O=>ho pins s1 σ H1 x v Q Y Z O)
theorem opI {f:Value->Value->Sem Value}{C:Int->Int->Prop}{g:Int->Int->Int}
  (O:∀ (i j:Int) (t u:Tok) (s:Shared) (Q:Value->Shared->Prop) (E:Value->Shared->Prop),C i j->Q (.int (g i j) s.toks) {s with toks:=s.toks+1}->wpAny (model X.prog X.w) X.A (f (.int i t) (.int j u)) Q E s) :
  OpR X f (rI C λ i j=>.int (g i j)):=by
 intro pins s σ H x y v u Q I Y Z h;obtain⟨i,j,rfl,rfl,R,q⟩:=h;obtain⟨t,rfl⟩:=Y;obtain⟨t',rfl⟩:=Z;exact O i j t t' s _ _ R ⟨.int (g i j),H,I.tok _,⟨_,rfl⟩,q⟩
theorem bj6 {f:Value->Value->Sem Value}{g:Int->Int->Int}
  (O:∀ (i j:Int) (t u:Tok) (s:Shared) (Q:Value->Shared->Prop) (E:Value->Shared->Prop),Q (.int (g i j) s.toks) {s with toks:=s.toks+1}->wpAny (model X.prog X.w) X.A (f (.int i t) (.int j u)) Q E s) :
  OpR X f (rI0 λ i j=>.int (g i j)):=by
 intro pins s σ H x y v u Q I Y R h;obtain⟨i,j,rfl,rfl,q⟩:=h;obtain⟨t,rfl⟩:=Y;obtain⟨t',rfl⟩:=R;exact O i j t t' s _ _ ⟨.int (g i j),H,I.tok _,⟨_,rfl⟩,q⟩
theorem aW9 {f:Value->Value->Sem Value}{g:Int->Int->Bool}
  (O:∀ (i j:Int) (t u:Tok) (s:Shared) (Q:Value->Shared->Prop) (E:Value->Shared->Prop),Q (.bool (g i j)) s->wpAny (model X.prog X.w) X.A (f (.int i t) (.int j u)) Q E s) :
  OpR X f (rI0 λ i j=>.bl (g i j)):=by
 intro pins s σ H x y v u Q I Y R h;obtain⟨i,j,rfl,rfl,q⟩:=h;obtain⟨t,rfl⟩:=Y;obtain⟨t',rfl⟩:=R;exact O i j t t' s _ _ ⟨.bl (g i j),H,I,rfl,q⟩
noncomputable def bx6 (i j:Int):Prop:=0<=j/\j<=1000000/\i.natAbs<2 ^ 64
noncomputable def CMul (i j:Int):Prop:=(-(2 ^ 64)<i/\i<2 ^ 64)\/(-(2 ^ 64)<j/\j<2 ^ 64)
theorem CMul.ok {i j:Int} (h:CMul i j):IntMulOk i j:=by
 rcases h with ⟨h1,h2⟩ | ⟨h1,h2⟩
 ·exact .of_left (intBits_le_64 h1 h2)
 ·exact .of_right (intBits_le_64 h1 h2)
theorem op_add:OpR X (binaryOp .Add) (rI0 λ i j=>.int (i+j)):=bj6 λ _ _ _ _ _ _ _ q=>add_int q
theorem au7:OpR X (binaryOp .Sub) (rI0 λ i j=>.int (i-j)):=bj6 λ _ _ _ _ _ _ _ q=>sub_int q
theorem aB4:OpR X (binaryOp .Mod) (rI (λ _ j=>j≠0) λ i j=>.int (i.fmod j)):=opI λ _ _ _ _ _ _ _ O q=>mod_int' O q
theorem aP9:OpR X (binaryOp .Pow) (rI bx6 λ i j=>.int (i ^ j.toNat)):=opI λ _ _ _ _ _ _ _ O q=>pow_int_small O.1 O.2.1 O.2.2 q
theorem unI {f:Value->Sem Value}{g:Int->Int}
  (O:∀ (i:Int) (t:Tok) (s:Shared) (Q:Value->Shared->Prop) (E:Value->Shared->Prop),Q (.int (g i) s.toks) {s with toks:=s.toks+1}->wpAny (model X.prog X.w) X.A (f (.int i t)) Q E s) :
  UnR X f (rU λ i=>.int (g i)):=by
 intro pins s σ H x v Q I R h;obtain⟨i,rfl,q⟩:=h;obtain⟨t,rfl⟩:=R;exact O i t s _ _ ⟨.int (g i),H,I.tok _,⟨_,rfl⟩,q⟩
theorem ac3:UnR X (unaryOp .USub) (rU λ i=>.int (-i)):=unI λ _ _ _ _ _ q=>neg_int q
end
section
variable {X:Cx}{a b c:Expr}{ta tb tc:TE}{pos:Pos}
theorem ah9 {pins:List (Addr×Obj)}{σ:St}{H:Hp}{s:Shared}{Q:VK}{k O:Bool} (I:Inv X pins σ H s) (q:Q (.bl k) H) (e:k=O):EP X pins σ Q (.bool O) s:=by
 subst e;exact⟨.bl k,H,I,rfl,q⟩
theorem bb7:OpR X (compareOp .Lt) (rI0 λ i j=>.bl (decide (i<j))):=aW9 λ _ _ _ _ _ _ _ q=>lt_int q
theorem bb8:OpR X (compareOp .LtE) (rI0 λ i j=>.bl (decide (i<=j))):=aW9 λ _ _ _ _ _ _ _ q=>le_int q
theorem bb9:OpR X (compareOp .Gt) (rI0 λ i j=>.bl (decide (j<i))):=aW9 λ _ _ _ _ _ _ _ q=>gt_int q
theorem aQ1:OpR X (compareOp .GtE) (rI0 λ i j=>.bl (decide (j<=i))):=aW9 λ _ _ _ _ _ _ _ q=>ge_int q
theorem ae1:OpR X (compareOp .In) (λ x y H Q=>∃ i j,x=.str i/\y=.str j/\Q (.bl (!(Builtin.Str.occurrences j i 0 j.length 1).isEmpty)) H):=by
 intro pins s σ H x y v u Q I R O h;obtain⟨i,j,rfl,rfl,q⟩:=h;obtain⟨t,rfl⟩:=R;obtain⟨t',rfl⟩:=O;exact in_str (ah9 I q rfl)
theorem au8:OpR X (compareOp .Is) (λ x y H Q=>y=.non/\Q (.bl (decide (x=.non))) H):=by
 intro pins s σ H x y v u Q I O R h;obtain⟨rfl,q⟩:=h;cases R;refine is_none_gen (ah9 I q ?_);cases x <;> first
  |(cases O;rfl)
  |(obtain⟨t,rfl⟩:=O;rfl)
theorem aB3:OpR X (compareOp .IsNot) (λ x y H Q=>y=.non/\Q (.bl (!decide (x=.non))) H):=by
 intro pins s σ H x y v u Q I O R h;obtain⟨rfl,q⟩:=h;cases R;refine isnot_none_gen (ah9 I q ?_);cases x <;> first
  |(cases O;rfl)
  |(obtain⟨t,rfl⟩:=O;rfl)
theorem OpR.or {f:Value->Value->Sem Value}{r Y:R2} (h:OpR X f r) (h':OpR X f Y):OpR X f (λ x y H Q=>r x y H Q\/Y x y H Q):=by
 intro pins s σ H x y v u Q I R O q
 rcases q with q | q
 ·exact h pins s σ H x y v u Q I R O q
 ·exact h' pins s σ H x y v u Q I R O q
theorem au9 (b:Expr) {op:CmpOp} (h:op≠.In:=by decide) (h2:op≠.NotIn:=by decide):behindInMarks op b=false:=by
 have e1:(op==CmpOp.In)=false:=by cases op <;> first | rfl | exact absurd rfl h
 have e2:(op==CmpOp.NotIn)=false:=by cases op <;> first | rfl | exact absurd rfl h2
 cases b <;> simp[behindInMarks,e1,e2]
theorem aA9 {op:CmpOp}{r:R2} (ho:OpR X (compareOp op) r) (R:PE X a ta) (hb:PE X b tb) (Y:behindInMarks op b=false):PE X (.Compare a [op] [b] pos) (tOp r ta tb):=by
 intro pins s σ H Q I h;exact wpAny_Compare1 (bh3 R hb I h λ v u Z x y H2 O rx ry q=>ho pins Z σ H2 x y v u Q O rx ry q) Y
noncomputable def ac9 (t:TE):TT:=λ σ H Q=>t σ H λ x H'=>∃ k,x=.bl k/\Q k H'
theorem Q_7 {op:CmpOp}{r:R2} (ho:OpR X (compareOp op) r) (Z:PE X a ta) (hb:PE X b tb) (hm:behindInMarks op b=false):PT X (.Compare a [op] [b] pos) (ac9 (tOp r ta tb)):=by
 intro pins s σ H Q I h;refine wpAny_isTrue_Compare1 (thn (Z pins s σ H _ I h) λ v s1=>ex5 λ x H1 I1 r1 R=>thn (hb pins s1 σ H1 _ I1 R) λ u s2=>ex5 λ y H2 O r2 q2 =>
  thn (ho pins s2 σ H2 x y v u _ O r1 r2 q2) λ c s3 ⟨z,Y,I3,r3,k,e,q3⟩=>?_) hm
 subst e;cases r3;exact wpAny_truthy_bool ⟨Y,I3,q3⟩
noncomputable def at7 (r Y:R2) (ta tb tc:TE):TE:=λ σ H Q=>ta σ H λ x H1=>tb σ H1 λ y H2=>r x y H2 λ z O=>∃ k,z=.bl k /\
 (if k=true then tc σ O λ R Z=>Y y R Z Q else Q (.bl false) O)
theorem am9 {op O:CmpOp}{r r':R2} (ho:OpR X (compareOp op) r) (Y:OpR X (compareOp O) r') (ha:PE X a ta) (hb:PE X b tb) (hc:PE X c tc)
  (hm:lastMarks [op,O] [b,c]=false:=by with_unfolding_all rfl):PT X (.Compare a [op,O] [b,c] pos) (ac9 (at7 r r' ta tb tc)):=by
 intro pins s σ H Q I h;refine isTrue_chain (thn (ha pins s σ H _ I h) λ v s1=>ex5 λ x H1 I1 r1 q1=>test_link (thn (hb pins s1 σ H1 _ I1 q1) λ u s2=>ex5 λ y H2 I2 r2 q2 =>
  thn (ho pins s2 σ H2 x y v u _ I2 r1 r2 q2) λ d s3 ⟨z,Z,I3,r3,k,e,q3⟩=>?_)) hm
 subst e;cases r3;refine wpAny_truthy_bool ?_;cases k with
 |false =>
  obtain⟨k',e',q'⟩:=q3;cases e';exact ite_ff ⟨Z,I3,q'⟩
 |true =>
  refine ite_tt (test_last (thn (hc pins s3 σ Z _ I3 q3) λ w' s4=>ex5 λ z' H4 I4 r4 q4=>thn (Y pins s4 σ H4 y z' u w' _ I4 r2 r4 q4) λ d' s5 R=>?_))
  obtain⟨z2,H5,I5,r5,k2,e2,q5⟩:=R;subst e2;cases r5;exact wpAny_truthy_bool ⟨H5,I5,q5⟩
noncomputable def aX5 (K:Frag) (x:V) (H:Hp) (k:Bool):Prop :=
 match x with
 |.non=>k=false
 |.bl b=>k=b
 |.int i=>k=(i != 0)
 |.str y=>y.length<=sizeLine/\k=((y.length:Int) != 0)
 |.byt y=>y.size<=sizeLine/\k=((y.size:Int) != 0)
 |.ref p=>(∃ xs,SqL K H p xs/\k=!xs.isEmpty)\/(∃ xs,SqT K H p xs/\k=!xs.isEmpty)\/∃ kvs,H p=some (.dK kvs)/\k=!kvs.isEmpty
 |_=>False
theorem aa3 {κ:Type}{kvs:List (κ×V)}{vs:List (κ×Value)} (r:KV kvs vs):(!vs.isEmpty)=!kvs.isEmpty:=by
 cases r <;> rfl
theorem F_6 {xs:List V}{O:List Value} (r:Vals xs O):(!O.toArray.isEmpty)=!xs.isEmpty:=by
 cases r <;> simp
theorem F_4:(sizeLine:Nat)<2 ^ 63:=by rw[sizeLine_eq];decide
theorem as7:bx3 X (λ x H Q=>∃ k,aX5 X.K x H k/\Q k H):=by
 intro pins s σ H x v Q I Y h;obtain⟨k,e,q⟩:=h;have hl:=F_4;have hs:sizeLine=16777216:=sizeLine_eq;cases x with
 |non =>
  cases Y;have O:k=false:=e;subst O;exact truthy_none ⟨H,I,q⟩
 |bl b =>
  cases Y;have O:k=b:=e;subst O;exact wpAny_truthy_bool ⟨H,I,q⟩
 |int i =>
  obtain⟨t,rfl⟩:=Y;have O:k=(i != 0):=e;subst O;exact PySem.P.truthy_int ⟨H,I,q⟩
 |str y =>
  obtain⟨t,rfl⟩:=Y;obtain⟨hy,O⟩:y.length<=sizeLine/\k=((y.length:Int) != 0):=e;subst O;exact PySem.P.truthy_str (by omega) ⟨H,I.tok _,q⟩
 |byt y =>
  obtain⟨t,rfl⟩:=Y;obtain⟨hy,O⟩:y.size<=sizeLine/\k=((y.size:Int) != 0):=e;subst O;exact PySem.W.truthy_bytes (by omega) ⟨H,I.tok _,q⟩
 |ref p =>
  cases Y;have O:(∃ xs,SqL X.K H p xs/\k=!xs.isEmpty)\/(∃ xs,SqT X.K H p xs/\k=!xs.isEmpty)\/∃ kvs,H p=some (.dK kvs)/\k=!kvs.isEmpty:=e
  rcases O with ⟨xs,hx,O⟩ | ⟨xs,hx,O⟩ | ⟨kvs,hx,O⟩
  ·subst O
   obtain⟨aa,r,Z,hz⟩:=I.list hx;have R:=r.length;exact wpAny_truthy_list Z.isList (by simp only[List.size_toArray];omega) ⟨H,I.tok _,by rw[F_6 r];exact q⟩
  ·subst O
   obtain⟨aa,r,Z,hz⟩:=I.tuple hx;have R:=r.length;exact truthy_tuple Z (by simp only[List.size_toArray];omega) ⟨H,I.tok _,by rw[F_6 r];exact q⟩
  ·subst O
   obtain⟨hz,hS,vs,r,m⟩:kvs.length<=sizeLine/\(p==sysModules)=false/\∃ vs,KV kvs vs/\s.heap.DictOf (c_2 X.prog X.w) p vs:=I.hok p _ hx;have R:kvs.length=vs.length:=Paired.length r;exact wpAny_truthy_dict hS m (by omega) ⟨H,I.tok _,by rw[aa3 r];exact q⟩
 |_=>exact (show False from e).elim
theorem am8 (Y:PE X a ta) (Z:∀ O,isTrue a X.env O=(do let v <- O;standAt a.pos;holding [v] (truthy v))) :
  PT X a (λ σ H Q=>ta σ H λ x H'=>∃ k,aX5 X.K x H' k/\Q k H'):=by
 intro pins s σ H Q I h;exact isTrue_plain (thn (Y pins s σ H _ I h) λ v s1=>ex5 λ x H1 I1 r1 R=>as7 pins s1 σ H1 x v Q I1 r1 R) (Z _)
theorem op_add_str:OpR X (binaryOp .Add) (λ x y H Q=>∃ i j,x=.str i/\y=.str j/\i.length+j.length<=sizeLine/\Q (.str (i++j)) H):=by
 intro pins s σ H x y v u Q I R O h;obtain⟨i,j,rfl,rfl,Y,q⟩:=h;obtain⟨t,rfl⟩:=R;obtain⟨t',rfl⟩:=O;exact add_str (λ t' tk=>⟨.str (i++j),H,I.tok _,⟨_,rfl⟩,q⟩) Y
theorem A_4 {x:V}{us:List Value} (r:Vals [x] us):∃ u,us=[u]/\RelV x u:=by
 cases r with
 |cons R O=>cases O;exact⟨_,rfl,R⟩
theorem al8 {x y:V}{us:List Value} (r:Vals [x,y] us):∃ u O,us=[u,O]/\RelV x u/\RelV y O:=by
 cases r with
 |cons Y R =>
  cases R with
  |cons r3 Z=>cases Z;exact⟨_,_,rfl,Y,r3⟩
theorem ar1:CallR X (.builtin "abs") (λ xs H Q=>∃ i,xs=[.int i] ∧ Q (.int (if i<0 then -i else i)) H):=by
 intro pins s σ H xs us Q I r h;obtain⟨i,rfl,q⟩:=h;obtain⟨u,rfl,t,rfl⟩:=A_4 r;exact call_abs_int λ u tk=>⟨.int (if i<0 then -i else i),H,I.tok _,⟨_,rfl⟩,q⟩
theorem aj4 (R:X.calm=true):CallR X (.builtin "max") (λ xs H Q=>∃ i j,xs=[.int i,.int j] ∧ Q (.int (if j > i then j else i)) H):=by
 intro pins s σ H xs us Q I r h;obtain⟨i,j,rfl,q⟩:=h;obtain⟨u,Y,rfl,⟨t,rfl⟩,⟨t',rfl⟩⟩:=al8 r;refine max_two_ints (I.ok.hd R) λ h' tk k=>⟨_,H,I.kept k,?_,q⟩
 by_cases O:j > i
 ·rw[if_pos O,if_pos O];exact⟨_,rfl⟩
 ·rw[if_neg O,if_neg O];exact⟨_,rfl⟩
theorem aj2 (R:X.calm=true):CallR X (.builtin "min") (λ xs H Q=>∃ i j,xs=[.int i,.int j] ∧ Q (.int (if j<i then j else i)) H):=by
 intro pins s σ H xs us Q I r h;obtain⟨i,j,rfl,q⟩:=h;obtain⟨u,Y,rfl,⟨t,rfl⟩,⟨t',rfl⟩⟩:=al8 r;refine min_two_ints (I.ok.hd R) λ h' tk k=>⟨_,H,I.kept k,?_,q⟩
 by_cases O:j<i
 ·rw[if_pos O,if_pos O];exact⟨_,rfl⟩
 ·rw[if_neg O,if_neg O];exact⟨_,rfl⟩
end
structure ObjM (h:Heap) (x dx C:Addr) (mA:Str->Option Value):Prop where
 obj:h.get? x=some (PySem.W.instObj C dx)
 ns:h.Ns1 dx mA
 ne:dx≠x
structure Cls (K:Frag) (C:Addr):Prop where
 pg:PySem.W.plainGet K C Str.empty=true
 hd:PySem.W.hasDictIn K C=true
 po:PySem.W.plainOver K C=true
 sa:PySem.W.findIn K (.ref C) "__setattr__"=some (some (.builtin "object.__setattr__"))
theorem Cls.get {K:Frag}{C:Addr} (c:Cls K C) (f:Str):PySem.W.plainGet K C f=true:=c.pg
structure Con (K:Frag) (C:Addr) (f:Str) (v:V) (u:Value):Prop where
 at_:PySem.W.findIn K (.ref C) f=some (some u)
 rel:RelV v u
 get:PySem.W.specialIn K u "__get__"=some none
 cp:PySem.W.copiedNames.contains f=false
structure Meth (K:Frag) (C:Addr) (m:Str) (f:Addr):Prop where
 at_:PySem.W.findIn K (.ref C) m=some (some (.ref f))
 fn:PySem.W.isFn K (.ref f)=true
 kp:keepIn K (.ref f)=true
section
variable {X:Cx}{pins:List (Addr×Obj)}{σ:St}{H:Hp}{s:Shared}{A:Around}{E:Value->Shared->Prop}{Q:Value->Shared->Prop}{c:Value}{b:Bool}
inductive TyOf (K:Frag) (H:Hp):V->Value->Prop where
 |non:TyOf K H .non (.type "NoneType")
 |bl (x:Bool):TyOf K H (.bl x) (.type "bool")
 |int (i:Int):TyOf K H (.int i) (.type "int")
 |str (x:Str):TyOf K H (.str x) (.type "str")
 |flt (x:UInt64):TyOf K H (.flt x) (.type "float")
 |lst {a:Addr}{xs:List V} (e:H a=some (.lst xs)):TyOf K H (.ref a) (.type "list")
 |frz {a:Addr}{o:Obj}{xs:List V} (e:H a=some (.frz o (.lst xs))):TyOf K H (.ref a) (.type "list")
 |tup {a:Addr}{xs:List V} (e:H a=some (.tup xs)):TyOf K H (.ref a) (.type "tuple")
 |dK {a:Addr}{kvs:List (Key×V)} (e:H a=some (.dK kvs)):TyOf K H (.ref a) (.type "dict")
 |dT {a:Addr}{kvs:List (List Key×V)} (e:H a=some (.dT kvs)):TyOf K H (.ref a) (.type "dict")
 |ins {a C dx:Addr}{fs:List (Str×V)} (e:H a=some (.ins C dx fs)) (cl:Cls K C) (ha:PySem.W.findIn K (.ref C) "__class__"=some (some (.builtin "object.__class__")))
   (hn:PySem.W.specialIn K (.builtin "object.__class__") "__get__"=some (some (.builtin "getset_descriptor.__get__"))) (htk:PySem.W.takesIn K (.builtin "object.__class__")=some true)
   (hm:PySem.W.mroIn K C (.type "object")=some true):TyOf K H (.ref a) (.ref C)
end
structure Room (k:Nat) (A:Around):Prop where
 hd:A.handled=none
 dp:A.depth+3*k+5<recursionLimit
 un:A.units+16*k+200<cLine
theorem Room.mono {j k:Nat}{A:Around} (r:Room k A) (h:j<=k):Room j A:=⟨r.hd,by have:=r.dp;omega,by have:=r.un;omega⟩
theorem Room.deeper {k:Nat}{A:Around} (r:Room (k+1) A) (env:Env):Room k (A.deeper env) :=
 ⟨r.hd,by have:=r.dp;show A.depth+1+3*k+5<_;omega,by have:=r.un;show A.units+3+16*k+200<_;omega⟩
theorem Room.in1 {k:Nat}{A:Around} (r:Room (k+1) A):Room k A.in1 :=
 ⟨r.hd,by have:=r.dp;show A.depth+3*k+5<_;omega,by have:=r.un;show A.units+1+16*k+200<_;omega⟩
theorem Room.depth {k:Nat}{A:Around} (r:Room k A):A.depth<recursionLimit:=by have:=r.dp;omega
theorem Room.units {k:Nat}{A:Around} (r:Room k A):A.units+64<cLine:=by have:=r.un;omega
noncomputable def aL4:TA:=λ _ H Q=>Q [] H
noncomputable def ay2 (ta:TE) (O:TA):TA:=λ σ H Q=>ta σ H λ x H1=>O σ H1 λ xs H2=>Q (x::xs) H2
section
variable {X:Cx}{e:Expr}{es:List Expr}{te:TE}{t:TA}{pos:Pos}
theorem u_4:PA X [] aL4:=λ _ _ _ _ H Q I h=>Calls.spliced_nil ⟨[],H,I,.nil,h⟩
theorem o_0 (Z:PE X e te) (hr:PA X es t) (Y:starEach (e::es) X.env=(false,eval e X.env)::starEach es X.env:=by rfl):PA X (e::es) (ay2 te t):=by
 intro pos pins s σ H Q I h;rw[Y];show wpAny _ _ (spliced ((false,eval e X.env)::backTo pos (starEach es X.env))) _ _ s;refine Calls.spliced_cons (thn (Z pins s σ H _ I h) λ u s1=>ex5 λ x H1 I1 r1 R=>?_)
 exact thn (hr pos pins s1 σ H1 _ I1 R) λ us s2=>ex5 λ xs H2 O r2 q2=>⟨x::xs,H2,O,.cons r1 r2,q2⟩
noncomputable def bp7 (t:TA):TE:=λ σ H Q=>t σ H λ xs H1=>xs.length<=sizeLine/\∀ p,H1 p=none->Q (.ref p) (upd H1 p (.tup xs))
noncomputable def aY6 (t:TA):TE:=λ σ H Q=>t σ H λ xs H1=>xs.length<=sizeLine/\∀ p,H1 p=none->Q (.ref p) (upd H1 p (.lst xs))
theorem aO5 {x1} (h:PA X es t):PE X (.Tuple es x1 pos) (bp7 t):=by
 intro pins s σ H Q I Y;refine wpAny_Tuple_spliced (thn (h pos pins s σ H _ I Y) λ us O ⟨xs,H1,R,r,z,q⟩=>⟨by rw[<- r.length];exact z,?_⟩)
 have hf:H1 O.heap.objs.size=none:=R.hok.fresh (qj _);refine⟨.ref O.heap.objs.size,upd H1 O.heap.objs.size (.tup xs),R.laid (t':=O.toks) (λ b u e=>qd _ e) (qj _) ?_,rfl,q _ hf⟩
 exact⟨z,us,r,⟨_,qk _ rfl,rfl,⟨_,rfl⟩,rfl⟩⟩
theorem V_0 (h:PA X es t):PE X (.List es pos) (aY6 t):=by
 intro pins s σ H Q I Y;refine wpAny_List_spliced (thn (h pos pins s σ H _ I Y) λ us O ⟨xs,H1,R,r,z,q⟩=>⟨by rw[<- r.length];exact z,?_⟩)
 have hf:H1 O.heap.objs.size=none:=R.hok.fresh (qj _);refine⟨.ref O.heap.objs.size,upd H1 O.heap.objs.size (.lst xs),R.laid (t':=O.toks) (λ b u e=>qd _ e) (qj _) ?_,rfl,q _ hf⟩
 exact⟨z,us,0,r,qk _ rfl⟩
end
abbrev Sp:=List V->Hp->VK->XK->Prop
abbrev CXT:=List Env->Hp->Shared->XK->Value->Shared->Prop
structure Env0 (P:Program) (w:World) (K:Frag) (mg:Str->Option Value) (base:Heap) (A:Around) (outer:List Env) (s:Shared) (H:Hp):Prop where
 frames:A.frames=some outer
 mod:Mod K mg base
 bs:∀ b o,base.get? b=some o->s.heap.get? b=some o/\H b=none
 bsz:base.objs.size<=s.heap.objs.size
 funs:s.heap.FunFrames base outer
 frf:∀ b∈frs outer,H b=none
 hok:HOk P w H s.heap
 bare:AllBare s.gens
noncomputable def CE (outer:List Env) (P:Program) (w:World) (H:Hp) (s:Shared) (Q:VK) (u:Value) (s':Shared):Prop :=
 ∃ v H',s'.os=s.os/\AllBare s'.gens/\Un (frs outer) [] H H' s.heap s'.heap/\HOk P w H' s'.heap/\RelV v u/\Q v H'
noncomputable def CR (CX:CXT) (outer:List Env) (P:Program) (w:World) (H:Hp) (s:Shared) (Q:VK) (E:XK) (r:Result) (s':Shared):Prop :=
 match r with
 |.ok (.ret u)=>CE outer P w H s Q u s'
 |.ok _=>False
 |.error e=>CX outer H s E e s'
structure FnOk (P:Program) (w:World) (K:Frag) (mg:Str->Option Value) (base:Heap) (CX:CXT) (k:Nat) (f:Addr) (fd:FuncData) (ps:List Str) (sp:Sp):Prop where
 len:∀ vs H Q E,sp vs H Q E->vs.length=ps.length
 run:∀ (A:Around) (outer:List Env) (s:Shared) (H:Hp) (args:Args) (us:List Value) (vs:List V) (Q:VK) (E:XK),Room k A->Env0 P w K mg base A outer s H->BindsTo s fd args (ps.zip us)->Vals vs us->sp vs H Q E ->
  codeAny (model P w) A (.call (.ref f) args) (CR CX outer P w H s Q E) s
theorem FnOk.mono {P:Program}{w:World}{K:Frag}{mg:Str->Option Value}{base:Heap}{CX:CXT}{j k:Nat}{f:Addr}{fd:FuncData}{ps:List Str}{sp:Sp} (F:FnOk P w K mg base CX j f fd ps sp) (h:j<=k) :
  FnOk P w K mg base CX k f fd ps sp:=⟨F.len,λ A outer s H args us vs Q E O=>F.run A outer s H args us vs Q E (O.mono h)⟩
theorem FnOk.imp {P:Program}{w:World}{K:Frag}{mg:Str->Option Value}{base:Heap}{CX:CXT}{k:Nat}{f:Addr}{fd:FuncData}{ps:List Str}{sp O:Sp} (F:FnOk P w K mg base CX k f fd ps sp)
  (h:∀ vs H Q E,O vs H Q E->sp vs H Q E):FnOk P w K mg base CX k f fd ps O :=
 ⟨λ vs H Q E q=>F.len vs H Q E (h _ _ _ _ q),λ A outer s H args us vs Q E hr Y hb Z R=>F.run A outer s H args us vs Q E hr Y hb Z (h _ _ _ _ R)⟩
theorem Env0.in1 {P:Program}{w:World}{K:Frag}{mg:Str->Option Value}{base:Heap}{A:Around}{outer:List Env}{s:Shared}{H:Hp} (e:Env0 P w K mg base A outer s H) :
  Env0 P w K mg base A.in1 outer s H:=⟨e.frames,e.mod,e.bs,e.bsz,e.funs,e.frf,e.hok,e.bare⟩
section
variable {X:Cx}{pins:List (Addr×Obj)}{σ:St}{H:Hp}{s s':Shared}
theorem Inv.env0 (I:Inv X pins σ H s):Env0 X.prog X.w X.K X.mg X.base X.A X.stack s H :=
 ⟨I.ok.frames,I.ok.mod,I.bs,Nat.le_trans I.ok.bsz I.sz,I.stack,I.stkFree,I.hok,I.bare⟩
theorem Inv.after {Q:VK}{u:Value} (I:Inv X pins σ H s) (h:CE X.stack X.prog X.w H s Q u s'):EP X pins σ Q u s':=by
 obtain⟨v,H',os,O,un,Y,r,q⟩:=h;obtain⟨Z,g,d,t,R⟩:=s';obtain rfl:R=s.os:=os;exact⟨v,H',I.call (h':=Z) (g':=g) (d':=d) (t':=t) (ch:=[]) un Y O (λ b z=>absurd z (by simp)),r,q⟩
end
noncomputable def aY7 (sp:Sp) (dvs:List V) (E:XK) (t:TA):TE:=λ σ H Q=>t σ H λ vs H1=>sp (vs++dvs) H1 Q E
noncomputable def Binds (K:Frag) (fd:FuncData) (ps:List Str) (ds:List Value):Prop :=
 ∀ (s:Shared) (us:List Value),K.In s.heap->(us++ds).length=ps.length->BindsTo s fd ⟨us,[]⟩ (ps.zip (us++ds))
theorem Binds.all {K:Frag}{fd:FuncData}{ps:List Str} (h:∀ us:List Value,us.length=ps.length->bindArgs fd ⟨us,[]⟩=pure (ps.zip us)):Binds K fd ps []:=λ s us _ hl=>by
 rw[List.append_nil] at hl ⊢;exact .of_eq (h us hl)
noncomputable def ak8 (CX:CXT) (X:Cx) (E:XK):Prop:=∀ (pins:List (Addr×Obj)) (σ:St) (H:Hp) (s:Shared) (e:Value) (s':Shared),Inv X pins σ H s->CX X.stack H s E e s'->X.xe e s'
section
variable {X:Cx}{CX:CXT}{k:Nat}{f C:Addr}{fd:FuncData}{ps:List Str}{sp:Sp}{dvs:List V}{ds:List Value}{E:XK}{x m:Str}{p pos apos:Pos}{e o:Expr}{es:List Expr}{ta:TE}{t:TA}
theorem aM9 {pins:List (Addr×Obj)}{σ:St}{H:Hp}{s:Shared}{Q:VK}{us:List Value}{vs:List V} (F:FnOk X.prog X.w X.K X.mg X.base CX k f fd ps sp) (hr:Room k X.A) (hb:Binds X.K fd ps ds) (Z:Vals dvs ds) (hx:ak8 CX X E)
  (I:Inv X pins σ H s) (r:Vals vs us) (h:sp (vs++dvs) H Q E):wpAny (model X.prog X.w) X.A (call (.ref f) us) (EP X pins σ Q) X.xe s:=by
 have R:Vals (vs++dvs) (us++ds):=r.append Z;have hl:(us++ds).length=ps.length:=by rw[<- R.length];exact F.len _ _ _ _ h
 refine wpAny_call (codeAny_mono (F.run X.A X.stack s H ⟨us,[]⟩ (us++ds) (vs++dvs) Q E hr I.env0 (hb s us I.kIn hl) R h) λ r s' O=>?_)
 cases r with
 |error e=>exact hx pins σ H s e s' I O
 |ok Y =>
  cases Y with
  |ret u=>exact I.after O
  |next=>exact False.elim O
  |brk=>exact False.elim O
  |cont=>exact False.elim O
theorem R_2 (F:FnOk X.prog X.w X.K X.mg X.base CX k f fd ps sp) (hr:Room k X.A) (hg:Gl X x) (hm:X.mg x=some (.ref f)) (hk:keepIn X.K (.ref f)=true) (hb:Binds X.K fd ps ds) (Z:Vals dvs ds) (hx:ak8 CX X E)
  (ha:PA X (e::es) t) (O:(x==("__debug__":Str))=false:=by decide) (he:starEach (e::es) X.env=(false,eval e X.env)::starEach es X.env:=by rfl) (R:(backTo pos (starEach es X.env)).any (·.1)=false:=by rfl) :
  PE X (.Call (.Name x p) (e::es) [] pos) (aY7 sp dvs E t):=by
 intro pins s σ H Q I h;refine wpAny_Call_Name_kw (af6 I hg hm ?_ O);refine PySem.W.callWith_K (h₀:=X.base) I.ok.mod.kin hk (thn (ha pos pins s σ H _ I h) λ us s1=>ex5 λ vs H1 Y r q=>⟨Y.kIn,?_⟩) he R
 exact aM9 F hr hb Z hx Y r q
structure Mk (K:Frag) (C f:Addr):Prop where
 makes:PySem.W.makesIn K C=true
 init:PySem.W.findIn K (.ref C) "__init__"=some (some (.ref f))
 fn:PySem.W.isFn K (.ref f)=true
 kp:keepIn K (.ref C)=true
end
section
variable {X:Cx}{CX:CXT}{k:Nat}{f C:Addr}{fd:FuncData}{ps ks:List Str}{sp:Sp}{E:XK}{x m:Str}{p pos apos kpos:Pos}{e o:Expr}{es:List Expr}{kws:List Keyword}{te ta:TE}{t tk:TA}{nm:Option Str}
structure KBinds (K:Frag) (fd:FuncData) (ps ks:List Str) (g:List Value->List Value->List Value) (gV:List V->List V->List V):Prop where
 to:∀ (s:Shared) (us ws:List Value),K.In s.heap->(g us ws).length=ps.length->BindsTo s fd ⟨us,ks.zip ws⟩ (ps.zip (g us ws))
 rel:∀ {vs:List V}{us:List Value}{zs:List V}{ws:List Value},Vals vs us->Vals zs ws->Vals (gV vs zs) (g us ws)
variable {g:List Value->List Value->List Value}{gV:List V->List V->List V}
end
structure FnScope (N P:List Str) (sc:Scope):Prop where
 kind:sc.kind=.function
 co:sc.isCoroutine=false
 gen:sc.isGenerator=false
 nd:N.Nodup
 pre:N.take P.length=P
 par:∀ x∈P,sc.names.lookup x=some .local\/sc.names.lookup x=some .cell
 nofree:∀ y∈sc.names,y.2≠.free
theorem P_0 {O:Str->Option NameKind}{x:Str}:∀ {binds:List (Str×Value)}{m:Str->Option Value},(∀ v,(x,v)∉binds)->bindL O binds m x=m x
 |[],_,_=>rfl
 |(n,v)::r,m,h=>by
  unfold bindL;rw[P_0 λ w hw=>h w (List.mem_cons_of_mem _ hw)]
  split
  ·have:x≠n:=by rintro rfl;exact h v qg
   simp[this]
  ·rfl
theorem P_2 {O:Str->Option NameKind}{x:Str}:∀ {binds:List (Str×Value)}{m:Str->Option Value},(∀ v,(x,v)∉binds)->bindC O binds m x=m x
 |[],_,_=>rfl
 |(n,v)::r,m,h=>by
  unfold bindC;rw[P_2 λ w hw=>h w (List.mem_cons_of_mem _ hw)]
  split
  ·rfl
  ·have:x≠n:=by rintro rfl;exact h v qg
   simp[this]
theorem P_1 {O:Str->Option NameKind}{x:Str}{v:Value}:∀ {P:List Str}{vs:List Value}{i:Nat}{m:Str->Option Value},P.Nodup->P[i]?=some x->vs[i]?=some v->O x=some .local ->
  bindL O (P.zip vs) m x=some v
 |[],_,_,_,_,h,_,_=>by simp at h
 |_::_,[],_,_,_,_,h,_=>by simp at h
 |p::P,w::vs,0,m,nd,h1,h2,hk=>by
  simp at h1 h2;subst h1;subst h2;show bindL O ((p,w)::P.zip vs) m p=_;unfold bindL;rw[P_0 λ v R=>(List.nodup_cons.mp nd).1 (List.of_mem_zip R).1,if_pos hk]
  simp
 |p::P,w::vs,i+1,m,nd,h1,h2,hk=>by
  show bindL O ((p,w)::P.zip vs) m x=_;unfold bindL;exact P_1 (i:=i) (List.nodup_cons.mp nd).2 (by simpa using h1) (by simpa using h2) hk
theorem P_3 {O:Str->Option NameKind}{x:Str}{v:Value}:∀ {P:List Str}{vs:List Value}{i:Nat}{m:Str->Option Value},P.Nodup->P[i]?=some x->vs[i]?=some v->O x≠some .local ->
  bindC O (P.zip vs) m x=some v
 |[],_,_,_,_,h,_,_=>by simp at h
 |_::_,[],_,_,_,_,h,_=>by simp at h
 |p::P,w::vs,0,m,nd,h1,h2,hk=>by
  simp at h1 h2;subst h1;subst h2;show bindC O ((p,w)::P.zip vs) m p=_;unfold bindC;rw[P_2 λ v R=>(List.nodup_cons.mp nd).1 (List.of_mem_zip R).1,if_neg hk]
  simp
 |p::P,w::vs,i+1,m,nd,h1,h2,hk=>by
  show bindC O ((p,w)::P.zip vs) m x=_;unfold bindC;exact P_3 (i:=i) (List.nodup_cons.mp nd).2 (by simpa using h1) (by simpa using h2) hk
noncomputable def start (N:List Str) (vs:List V):St:=vs.map some++List.replicate (N.length-vs.length) none
noncomputable def al4 (CX:CXT) (P:Program) (w:World) (K:Frag) (mg:Str->Option Value) (base:Heap) (N:List Str) (O:Str) (scope:Scope) (f:Addr) (cd:Value) (A:Around) (outer:List Env) (s:Shared) (H:Hp) (E:XK):Cx where
 prog:=P
 w:=w
 K:=K
 mg:=mg
 base:=base
 A:=A.deeper (envOfC O scope s.heap.objs.size f cd)
 N:=N
 s₀:=s
 H₀:=H
 env:=envOfC O scope s.heap.objs.size f cd
 outer:=outer
 stack:=envOfC O scope s.heap.objs.size f cd::outer
 ex:=[]
 calm:=true
 fn:=λ _=>true
 pn:=[]
 xe:=λ e s'=>wpAny (model P w) (A.deeper (envOfC O scope s.heap.objs.size f cd)) (leaving (envOfC O scope s.heap.objs.size f cd) e) (λ _ R=>CX outer H s E e R) (λ Y R=>CX outer H s E Y R) s'
theorem W_7 {sc:Scope}{n:Nat}{x:Str} (h:sc.names.lookup x=some .cell):∃ c,(cellsFrom n sc.names []).lookup x=some c:=by
 have q:=PySem.W.cellsFrom_some sc.names n [] (.inl h);exact Option.isSome_iff_exists.mp q
theorem ag8 {CX:CXT}{P:Program}{w:World}{K:Frag}{mg:Str->Option Value}{base:Heap}{N ps:List Str}{O:Str}{scope:Scope}{f:Addr}{cd:Value}{A:Around}{outer:List Env}{s s1:Shared}{H:Hp}{E:XK}{us:List Value}{vs:List V}
  (S:FnScope N ps scope) (hd:A.handled=none) (R:Env0 P w K mg base A outer s H) (hl:vs.length=ps.length) (r:Vals vs us)
  (x:InCallC s s.heap.objs.size (bindL (envOfC O scope s.heap.objs.size f cd).kindOf (ps.zip us) λ _=>none) (cellsFrom (s.heap.objs.size+1) scope.names []) (bindC (envOfC O scope s.heap.objs.size f cd).kindOf (ps.zip us) λ _=>none) s1) :
  Inv (al4 CX P w K mg base N O scope f cd A outer s H E) [] (start N vs) H s1:=by
 have ab:ps.length<=N.length:=by have:=congrArg List.length S.pre;rw[List.length_take] at this;omega
 obtain⟨h1,tk,rfl,hk⟩:=x.done;have Z:∀ b:Addr,b∉(al4 CX P w K mg base N O scope f cd A outer s H E).ex:=λ b z=>absurd (show b∈([]:List Addr) from z) (by simp)
 refine⟨⟨R.mod,S.kind,rfl,rfl,qj _,λ y z c h1 h2=>?_,λ y Y=>?_,λ y c _ h=>?_,λ _=>hd,Around.frames_deeper R.frames,.inr ⟨rfl,rfl⟩,λ b z=>absurd z (Z b),R.bs,R.bsz,λ b _ _=>Z b,λ b z=>absurd z (Z b),R.funs,R.frf⟩,
  rfl,R.bare,Un.kept hk,⟨_,x.toInCall.ns,λ i y v h1 h2 h3=>?_⟩,λ y c h=>⟨_,x.cell y c h⟩,R.hok.fresh (qj _),λ y c h=>?_,λ p hp=>absurd (show p∈([]:List (Addr×Obj)) from hp) (by simp),R.hok.kept hk,?_⟩
 ·exact name_of_addr x.apart (PySem.mem_of_lookup h1) (PySem.mem_of_lookup h2)
 ·have Y:scope.names.lookup y=some .cell\/scope.names.lookup y=some .free:=Y
  rcases Y with Y | Y
  ·exact W_7 Y
  ·exact absurd rfl (S.nofree _ (PySem.mem_of_lookup Y))
 ·exact Nat.le_of_lt (x.above y c (PySem.mem_of_lookup h))
 ·have hi:i<vs.length:=by
   unfold start at h2
   by_cases hi:i<vs.length
   ·exact hi
   ·rw[List.getElem?_append_right (by simpa using hi)] at h2
    rw[List.getElem?_replicate] at h2
    split at h2 <;> cases h2
  have ha:vs[i]?=some v:=by
   unfold start at h2;rw[List.getElem?_append_left (by simpa using hi),List.getElem?_map] at h2
   cases e:vs[i]? with
   |none=>rw[e] at h2;cases h2
   |some a=>rw[e] at h2;cases h2;rfl
  obtain⟨u,hu,rv⟩:=r.get ha
  have hp:ps[i]?=some y:=by
   rw[<- S.pre,List.getElem?_take_of_lt (by omega)];exact h1
  have aa:ps.Nodup:=by rw[<- S.pre];exact S.nd.sublist (List.take_sublist _ _)
  refine⟨u,rv,?_⟩
  rcases S.par y (List.mem_of_getElem? hp) with k | k
  ·exact .inl ⟨k,P_1 aa hp hu k⟩
  ·obtain⟨c,e⟩:=W_7 (n:=s.heap.objs.size+1) k
   refine .inr ⟨.inl k,c,e,?_⟩;have q:=x.cell y c e;rw[P_3 aa hp hu (by show scope.names.lookup y≠_;rw[k];decide)] at q
   exact q
 ·exact R.hok.fresh (Nat.le_of_lt (x.above y c (PySem.mem_of_lookup h)))
 ·unfold start
  show _=N.length;rw[List.length_append,List.length_map,List.length_replicate];omega
theorem bd9 {CX:CXT}{P:Program}{w:World}{K:Frag}{mg:Str->Option Value}{base:Heap}{k:Nat}{f:Addr}{name O:Str}{Y:Arguments}{body:List Stmt}{scope:Scope}{dV kV ad pm R ct oc:Value}{an od:Option Addr}
  {ag:Array (Option Value)}{N ps:List Str}{sp:Sp} (lk:K.lookup f=some ⟨oc,od,.func (fnOf name O Y body scope dV kV ad pm an R ct),ag⟩) (af:codeIn K R O=true) (S:FnScope N ps scope)
  (len:∀ vs H Q E,sp vs H Q E->vs.length=ps.length)
  (ab:∀ (A:Around) (outer:List Env) (s:Shared) (H:Hp) (vs:List V) (Q:VK) (E:XK),Room k (A.deeper (envOfC O scope s.heap.objs.size f R))->sp vs H Q E ->
   ∃ t,PSs (al4 CX P w K mg base N O scope f R A outer s H E) body t/\t {nx:=λ _ H'=>Q .non H',rt:=Q} (start N vs) H) :
  FnOk P w K mg base CX (k+1) f (fnOf name O Y body scope dV kV ad pm an R ct) ps sp:=by
 refine⟨len,λ A outer s H args us vs Q E hr e0 hb r ac=>?_⟩
 have hl:=len _ _ _ _ ac;have KX:K.In s.heap:=e0.mod.kin.keeps λ b o e=>(e0.bs b o e).1
 have ah:s.heap.NoLimit:=e0.mod.nolimit.keeps λ b o e=>(e0.bs b o e).1
 have aa:∀ y∈ps.zip us,scope.names.lookup y.1=some .local\/(scope.names.lookup y.1=some .cell/\((cellsFrom (s.heap.objs.size+1) scope.names []).lookup y.1).isSome=true):=λ ae hy=>by
  obtain⟨n,v⟩:=ae
  rcases S.par n (List.of_mem_zip hy).1 with q | q
  ·exact .inl q
  ·exact .inr ⟨q,PySem.W.cellsFrom_some _ _ _ (.inl q)⟩
 refine codeAny_call_function hr.depth (KX _ _ lk) rfl S.co S.gen rfl (PySem.W.codeRec_of KX af) (hb _ _ _ _ ?_);refine wpAny_newFunctionEnv_cells S.kind aa λ env he s1 x=>?_
 subst he;refine⟨ah.keeps x.toInCall.keep,codeAny_func ?_⟩;obtain⟨t,ht,hq⟩:=ab A outer s H vs Q E (hr.deeper _) ac;have I:Inv (al4 CX P w K mg base N O scope f R A outer s H E) [] (start N vs) H s1:=ag8 S hr.hd e0 hl r x;refine wpAny_mono (ht [] s1 (start N vs) H _ I hq) (λ fl s' hs=>?_) λ e s' hs=>hs
 have fin:∀ {Z:St}{H':Hp}{v:V}{u:Value},Inv (al4 CX P w K mg base N O scope f R A outer s H E) [] Z H' s'->RelV v u->Q v H'->CE outer P w H s Q u s' :=
  λ {Z H' v u} J rv q=>⟨v,H',J.os,J.bare,J.base,J.hok,rv,q⟩
 cases fl with
 |ret u =>
  obtain⟨v,Z,H',J,rv,q⟩:=hs;exact fin J rv q
 |next =>
  obtain⟨Z,H',J,q⟩:=hs;exact fin (v:=V.non) (u:=Value.none) J rfl q
 |brk =>
  obtain⟨_,_,_,q⟩:=hs;exact False.elim q
 |cont =>
  obtain⟨_,_,_,q⟩:=hs;exact False.elim q
section
variable {X:Cx}{x:Str}{p pos:Pos}{e:Expr}{es:List Expr}{t:TA}{id T:String}{r:List V->Hp->VK->Prop}
noncomputable def tCB (r:List V->Hp->VK->Prop) (t:TA):TE:=λ σ H Q=>t σ H λ vs H1=>r vs H1 Q
theorem G_8 (hc:CallR X (.builtin id) r) (hg:Gl X x) (hm:X.mg x=none) (hv:bootBuiltins x=some (.builtin id)) (Z:PA X (e::es) t) (hn:x≠"__name__":=by decide) (O:(x==("__debug__":Str))=false:=by decide)
  (he:starEach (e::es) X.env=(false,eval e X.env)::starEach es X.env:=by rfl) (R:(backTo pos (starEach es X.env)).any (·.1)=false:=by rfl):PE X (.Call (.Name x p) (e::es) [] pos) (tCB r t):=by
 intro pins s σ H Q I h;refine wpAny_Call_Name_kw (O_0 I hg hm hv ?_ hn O);exact PyProof.Rows.callWith_builtin1 (thn (Z pos pins s σ H _ I h) λ us s1=>ex5 λ vs H1 I1 r1 Y=>hc pins s1 σ H1 vs us Q I1 r1 Y) he R
theorem M_4 (hc:CallR X (.type T) r) (hg:Gl X x) (hm:X.mg x=none) (hv:bootBuiltins x=some (.type T)) (Z:PA X (e::es) t) (hn:x≠"__name__":=by decide) (O:(x==("__debug__":Str))=false:=by decide)
  (he:starEach (e::es) X.env=(false,eval e X.env)::starEach es X.env:=by rfl) (R:(backTo pos (starEach es X.env)).any (·.1)=false:=by rfl):PE X (.Call (.Name x p) (e::es) [] pos) (tCB r t):=by
 intro pins s σ H Q I h;refine wpAny_Call_Name_kw (O_0 I hg hm hv ?_ hn O);exact PyProof.Rows.callWith_type1 (thn (Z pos pins s σ H _ I h) λ us s1=>ex5 λ vs H1 I1 r1 Y=>hc pins s1 σ H1 vs us Q I1 r1 Y) he R
end
end L2
namespace HT
open PySem PyProof.Rows
section
variable {prog:Program}{w:World}{A:Around}{E:Value->Shared->Prop}{s:Shared}
noncomputable def sIx (n d:Nat):Option Int->Nat
 |none=>d
 |some v=>if v<0 then (v+(n:Int)).toNat else min v.toNat n
theorem aM6 (n d:Nat) (R:d<=n) (o:Option Int):sIx n d o<=n:=by
 cases o with
 |none=>exact R
 |some v =>
  show (if v<0 then (v+(n:Int)).toNat else min v.toNat n)<=n
  by_cases O:v<0
  ·rw[if_pos O];omega
  ·rw[if_neg O];exact Nat.min_le_right _ _
theorem ai8 (v:Int) (n d:Nat):(if v<0 then max (v+(n:Int)) 0 else min v (n:Int))=((sIx n d (some v):Nat):Int):=by
 show (if v<0 then max (v+(n:Int)) 0 else min v (n:Int))=(((if v<0 then (v+(n:Int)).toNat else min v.toNat n):Nat):Int)
 by_cases O:v<0
 ·simp only[if_pos O];omega
 ·simp only[if_neg O];omega
theorem ab2 (lo hi:Option Int) (n:Nat):Builtin.Slice.sliceAdjust lo hi 1 (n:Int)=(((sIx n 0 lo:Nat):Int),((sIx n n hi:Nat):Int)):=by
 have h1:¬ ((1:Int)<0):=by omega
 unfold Builtin.Slice.sliceAdjust;simp only[h1,if_false];refine Prod.ext ?_ ?_
 ·cases lo with
  |none=>rfl
  |some v=>exact ai8 v n 0
 ·cases hi with
  |none=>rfl
  |some v=>exact ai8 v n n
theorem Y_9 (i j:Nat):Builtin.Slice.slicePlaces (i:Int) (j:Int) 1=j-i:=by
 unfold Builtin.Slice.slicePlaces;have h1:(1:Int) > 0:=by omega
 simp only[h1,if_true,Int.ediv_one]
 split <;> omega
theorem F_0 {v:Value}{o:Option Int}{Q:Option Int->Shared->Prop} (p:IsPart v o) (h:Q o s):wpAny (model prog w) A (Builtin.Slice.slicePartIndex v) Q E s:=by
 cases p with
 |none=>exact slicePart_none h
 |int i t=>exact slicePart_int h
theorem y_3 {sl:Addr}{Z Y:Value}{lo hi:Option Int}{n:Nat}{Q:Int×Int×Nat->Shared->Prop} (hs:s.heap.IsSliceOf sl Z Y .none) (pl:IsPart Z lo) (pu:IsPart Y hi)
  (h:Q (((sIx n 0 lo:Nat):Int),1,sIx n n hi-sIx n 0 lo) s):wpAny (model prog w) A (Builtin.Slice.sliceApplied (.ref sl) (pure (n:Int))) Q E s:=by
 obtain⟨os,O,aa,R⟩:=id hs;unfold Builtin.Slice.sliceApplied Builtin.Slice.sliceFields;refine qb (qb (wpAny_field O R (x:=Z) rfl (qb (wpAny_field O R (x:=Y) rfl (qb (wpAny_field O R (x:=.none) rfl (qc ?_)))))));refine qb (slicePart_none ?_);show wpAny _ _ (if ((1:Int)==0)=true then _ else _) _ _ s;rw[if_neg (by decide)]
 refine qb (F_0 pl (qb (F_0 pu (qb (qc ?_)))));show wpAny _ _ (match Builtin.Slice.sliceAdjust lo hi 1 (n:Int) with | (lo,hi)=>pure (lo,(1:Int),Builtin.Slice.slicePlaces lo hi 1)) _ _ s
 rw[ab2 lo hi n];show wpAny _ _ (pure (((sIx n 0 lo:Nat):Int),(1:Int),Builtin.Slice.slicePlaces ((sIx n 0 lo:Nat):Int) ((sIx n n hi:Nat):Int) 1)) _ _ s;rw[Y_9];exact qc h
theorem ao1 (xs:Array Value) (i k:Nat):((List.range k).filterMap λ (m:Nat)=>xs[((i:Int)+(m:Int)*1).toNat]?).toArray=((xs.toList.drop i).take k).toArray:=by
 have e:(λ (m:Nat)=>xs[((i:Int)+(m:Int)*1).toNat]?)=λ m=>xs[i+m]?:=by
  funext m
  have:((i:Int)+(m:Int)*1).toNat=i+m:=by omega
  rw[this]
 rw[e];have:=pick_run xs i k;rw[List.filterMap_map] at this;have e2:((λ x=>xs[x]?) ∘ λ x=>i+x)=λ m=>xs[i+m]?:=rfl
 rw[e2] at this;rw[this]
theorem getItem_tuple_cut {t R:Addr}{items:Array Value}{vl vu:Value}{lo hi:Option Int}{Q:Value->Shared->Prop} (ht:IsTup s.heap t items) (hs:s.heap.IsSliceOf R vl vu .none) (pl:IsPart vl lo) (pu:IsPart vu hi)
  (hw:¬ (sIx items.size 0 lo=0/\sIx items.size items.size hi=items.size))
  (h:Q (.ref s.heap.objs.size) {s with heap:=s.heap.push {cls:=.type "tuple",data:=.seq ((items.toList.drop (sIx items.size 0 lo)).take (sIx items.size items.size hi-sIx items.size 0 lo)).toArray}})
  (hsz:items.size<=sizeLine):wpAny (model prog w) A (getItem (.ref t) (.ref R)) Q E s:=by
 have O:sizeOk (.seq ((items.toList.drop (sIx items.size 0 lo)).take (sIx items.size items.size hi-sIx items.size 0 lo)).toArray):=by
  show ((items.toList.drop (sIx items.size 0 lo)).take (sIx items.size items.size hi-sIx items.size 0 lo)).toArray.size<=sizeLine;rw[List.size_toArray,List.length_take,List.length_drop,Array.length_toList];omega
 have hj:sIx items.size items.size hi<=items.size:=aM6 _ _ (qj _) hi;obtain⟨os,aa,ab,ac⟩:=id hs;have Y:s.TypeIs (.ref R) "slice":=⟨os,aa,ab⟩;unfold getItem
 try with_reducible refine wpAny_holding ?_
 first | refine qb (qc ?_) | skip
 refine qb (wpAny_sequenceKey ht.typeIs (by decide) ?_)
 refine qb (wpAny_callSpecial?_slot (name:=Str.ofString "__getitem__") ht.typeIs PyProof.Rows.slot_tuple_getitem
  (wpAny_call_entry PyProof.Rows.slot_tuple_getitem ht.typeIs entry_tuple_getitem ?_ (args_tuple_getitem _ _)))
 show wpAny _ _ (Builtin.Tuple.tupleItemsOf (.ref t) >>= _) _ _ s;refine qb (tupleItemsOf_ ht ?_);refine qb (wpAny_typeOf Y ?_);rw[if_pos (by decide)]
 refine qb (y_3 hs pl pu ?_)
 have Z:¬ ((((sIx items.size 0 lo:Nat):Int)==0&&(1:Int)==1&&(sIx items.size items.size hi-sIx items.size 0 lo)==items.size)=true):=by
  intro q;rw[Bool.and_eq_true,Bool.and_eq_true] at q;have q1:((sIx items.size 0 lo:Nat):Int)=0:=eq_of_beq q.1.1;have q2:sIx items.size items.size hi-sIx items.size 0 lo=items.size:=eq_of_beq q.2;exact hw ⟨by omega,by omega⟩
 show wpAny _ _ (if (((sIx items.size 0 lo:Nat):Int)==0&&(1:Int)==1&&(sIx items.size items.size hi-sIx items.size 0 lo)==items.size)=true then _ else _) _ _ s;rw[if_neg Z,ao1]
 first
  |exact qb (m:=Builtin.Tuple.tupleExact _) (wpAny_newObj_type (qc ⟨_,rfl,qc h⟩) O)
  |exact qb (m:=Builtin.Tuple.tupleExact _) (wpAny_newObj_type (qb (qc (qc ⟨_,rfl,qc h⟩))) O)
  |exact qb (qb (m:=Builtin.Tuple.tupleExact _) (wpAny_newObj_type (qc (qc ⟨_,rfl,qc h⟩)) O))
  |exact qb (qb (m:=Builtin.Tuple.tupleExact _) (wpAny_newObj_type (qc ⟨_,rfl,qc h⟩) O))
end
end HT
namespace L2
open PySem PySem.Spec PyProof.Rows
abbrev TO:=St->Hp->(Option Int->Hp->Prop)->Prop
noncomputable def PO (X:Cx) (e:Option Expr) (t:TO):Prop :=
 ∀ (pins:List (Addr×Obj)) (s:Shared) (σ:St) (H:Hp) (Q:Option Int->Hp->Prop),Inv X pins σ H s->t σ H Q ->
  wpAny (model X.prog X.w) X.A (evalPart e X.env) (λ u s'=>∃ o H',Inv X pins σ H' s'/\IsPart u o/\Q o H') X.xe s
noncomputable def ay0:TO:=λ _ H Q=>Q none H
noncomputable def aY2 (t:TE):TO:=λ σ H Q=>t σ H λ x H1=>∃ i,x=.int i/\Q (some i) H1
theorem intsAre_of {O:List Int}:∀ {us:List Value},Vals (O.map V.int) us->IntsAre us O:=by
 induction O with
 |nil=>intro us r;rw[List.map_nil] at r;cases r;exact .nil
 |cons n O Y =>
  intro us r;rw[List.map_cons] at r;cases r with
  |cons R Z =>
   obtain⟨t,e⟩:=R;subst e;exact .cons n t (Y Z)
section
variable {X:Cx}{e:Expr}{te:TE}{lo hi:Option Expr}{tl th:TO}{pos p2:Pos}
theorem aA5:PO X none ay0:=by
 intro pins s σ H Q I h;rw[evalPart_none];exact qc ⟨none,H,I,.none,h⟩
theorem aA4 (h:PE X e te):PO X (some e) (aY2 te):=by
 intro pins s σ H Q I hw;rw[evalPart_some];refine thn (h pins s σ H _ I hw) λ u Z=>ex5 λ x H1 O R Y=>?_
 obtain⟨i,rfl,q⟩:=Y;obtain⟨t,rfl⟩:=R;exact⟨some i,H1,O,.int i t,q⟩
noncomputable def SlR (X:Cx) (r:V->Option Int->Option Int->Hp->VK->Prop):Prop :=
 ∀ (pins:List (Addr×Obj)) (s:Shared) (σ:St) (H:Hp) (x:V) (v O Y:Value) (lo hi:Option Int) (R:Addr) (Q:VK),Inv X pins σ H s->RelV x v->s.heap.IsSliceOf R O Y .none->IsPart O lo->IsPart Y hi->r x lo hi H Q ->
  ∃ T id,typeLookup (.type T) "__getitem__"=pure (some (.builtin id)) ∧ s.TypeIs v T ∧ wpAny (model X.prog X.w) X.A (getItem v (.ref R)) (EP X pins σ Q) X.xe s
theorem SlR.or {r Y:V->Option Int->Option Int->Hp->VK->Prop} (h:SlR X r) (h':SlR X Y):SlR X (λ x lo hi H Q=>r x lo hi H Q\/Y x lo hi H Q):=by
 intro pins s σ H x v vl vu lo hi sl Q I rx Z R O q
 rcases q with q | q
 ·exact h pins s σ H x v vl vu lo hi sl Q I rx Z R O q
 ·exact h' pins s σ H x v vl vu lo hi sl Q I rx Z R O q
noncomputable def tSl (r:V->Option Int->Option Int->Hp->VK->Prop) (te:TE) (tl th:TO):TE:=λ σ H Q=>te σ H λ x H1=>tl σ H1 λ l H2=>th σ H2 λ u O=>r x l u O Q
theorem ao4 {r:V->Option Int->Option Int->Hp->VK->Prop} (hr:SlR X r) (he:PE X e te) (hl:PO X lo tl) (hu:PO X hi th):PE X (.Subscript e (.Slice lo hi none p2) pos) (tSl r te tl th):=by
 intro pins s σ H Q I h;refine Subscript_ (thn (he pins s σ H _ I h) λ v s1=>ex5 λ x H1 I1 r1 q1=>?_)
 refine wpAny_Slice (thn (hl pins s1 σ H1 _ I1 q1) λ Y s2=>ex5 λ l H2 I2 pl q2=>thn (hu pins s2 σ H2 _ I2 q2) λ R O=>ex5 λ u Z I3 pu q3=>?_)
 rw[evalPart_none];refine qc ?_;have I4:Inv X pins σ Z {O with heap:=O.heap.push {cls:=.type "slice",data:=.fields #[Y,R,.none]}}:=I3.kept (t':=O.toks) λ b ob q=>qd _ q
 obtain⟨T,id,hT,ht,hg⟩:=hr pins {O with heap:=O.heap.push {cls:=.type "slice",data:=.fields #[Y,R,.none]}} σ Z x v Y R l u O.heap.objs.size Q I4 r1 (Heap.IsSliceOf.new ..) pl pu q3
 show wpAny (model X.prog X.w) X.A (subscriptTail e (.Slice lo hi none p2) v (.ref O.heap.objs.size)) (EP X pins σ Q) X.xe {O with heap:=O.heap.push {cls:=.type "slice",data:=.fields #[Y,R,.none]}}
 exact tail_any (ops:=[.ref O.heap.objs.size,v]) ht hT hg (by with_unfolding_all rfl)
noncomputable def al5 (xs:List V) (lo hi:Option Int):List V:=(xs.drop (HT.sIx xs.length 0 lo)).take (HT.sIx xs.length xs.length hi-HT.sIx xs.length 0 lo)
theorem C_9 (xs:List V) (lo hi:Option Int):(al5 xs lo hi).length<=xs.length:=by
 unfold al5;rw[List.length_take,List.length_drop];omega
noncomputable def br9 (K:Frag):V->Option Int->Option Int->Hp->VK->Prop:=λ x lo hi H Q=>∃ a xs,x=.ref a/\SqT K H a xs /\
 ¬ (HT.sIx xs.length 0 lo=0/\HT.sIx xs.length xs.length hi=xs.length)/\∀ p,H p=none->Q (.ref p) (upd H p (.tup (al5 xs lo hi)))
theorem aL9:SlR X (br9 X.K):=by
 intro pins s σ H x v vl vu lo hi sl Q I rx hs pl Z h;obtain⟨a,xs,rfl,hx,hw,q⟩:=h;cases rx;obtain⟨R,r,ht,Y⟩:=I.tuple hx;have O:R.toArray.size=xs.length:=by rw[List.size_toArray];exact r.length.symm
 refine⟨"tuple",_,PyProof.Rows.slot_tuple_getitem.lookup,ht.typeIs,?_⟩;refine HT.getItem_tuple_cut ht hs pl Z (by rw[O];exact hw) ?_ (by rw[O];exact Y)
 rw[O];refine⟨.ref s.heap.objs.size,_,I.laid (t':=s.toks) (o:=.tup (al5 xs lo hi)) (λ b ob q=>qd _ q) (qj _) ?_,rfl,q _ (I.hok.fresh (qj _))⟩
 exact⟨Nat.le_trans (C_9 xs lo hi) Y,_,(r.drop (HT.sIx xs.length 0 lo)).take (HT.sIx xs.length xs.length hi-HT.sIx xs.length 0 lo),IsTuN.new _ _⟩
end
noncomputable def ixN (n:Nat) (i:Int):Option Nat:=if 0<=i then (if i<n then some i.toNat else none) else if -(n:Int)<=i then some (i+n).toNat else none
noncomputable def atI {α:Type} (xs:List α) (i:Int):Option α:=(ixN xs.length i).bind λ j=>xs[j]?
theorem aD2 {n:Nat}{i:Int}{j:Nat} (h:ixN n i=some j):seqIndex? i n=some j/\j<n/\-(n:Int)<=i/\i<n:=by
 unfold ixN at h
 by_cases O:0<=i
 ·rw[if_pos O] at h
  by_cases h1:i<n
  ·rw[if_pos h1] at h
   have e:i.toNat=j:=qi h;exact⟨by rw[seqIndex_of O h1,e],by omega,by omega,h1⟩
  ·rw[if_neg h1] at h;cases h
 ·rw[if_neg O] at h
  by_cases h1:-(n:Int)<=i
  ·rw[if_pos h1] at h
   have e:(i+n).toNat=j:=qi h;exact⟨by rw[seqIndex_neg (by omega) h1,e],by omega,h1,by omega⟩
  ·rw[if_neg h1] at h;cases h
theorem T_0 {α:Type}{xs:List α}{i:Int}{v:α} (h:atI xs i=some v):∃ j,seqIndex? i xs.length=some j/\xs[j]?=some v/\j<xs.length/\-(xs.length:Int)<=i/\i<xs.length:=by
 unfold atI at h;cases e:ixN xs.length i with
 |none=>rw[e] at h;cases h
 |some j =>
  rw[e] at h;obtain⟨h1,h2,O,R⟩:=aD2 e;exact⟨j,h1,h,h2,O,R⟩
theorem as0 {α:Type} (xs:List α) (v:α):atI (xs++[v]) (-1)=some v:=by
 have hl:(xs++[v]).length=xs.length+1:=by simp
 have e:ixN (xs++[v]).length (-1)=some xs.length:=by
  unfold ixN;rw[hl,if_neg (by decide),if_pos (by omega)]
  congr 1
  omega
 unfold atI;rw[e];show (xs++[v])[xs.length]?=some v;simp
noncomputable def T_2 (b:Expr):Prop:=∀ o i,subscripted b false o i=operate [o,i] (getItem o i)
noncomputable def IxR (X:Cx) (r:R2):Prop :=
 ∀ (value O:Expr) (pins:List (Addr×Obj)) (s:Shared) (σ:St) (H:Hp) (x y:V) (v u:Value) (Q:VK),Inv X pins σ H s->RelV x v->RelV y u->r x y H Q ->
  subscripted O false v u=operate [v,u] (getItem v u)->wpAny (model X.prog X.w) X.A (subscriptTail value O v u) (EP X pins σ Q) X.xe s
noncomputable def MtR (X:Cx) (id:String) (r:V->List V->Hp->VK->Prop):Prop :=
 ∀ (pins:List (Addr×Obj)) (s:Shared) (σ:St) (H:Hp) (x:V) (xs:List V) (v:Value) (us:List Value) (Q:VK),Inv X pins σ H s->RelV x v->Vals xs us->r x xs H Q ->
  wpAny (model X.prog X.w) X.A (call (.builtin id) (v::us)) (EP X pins σ Q) X.xe s
section
variable {X:Cx}{a b:Expr}{ta tb:TE}{pos:Pos}
theorem IxR.or {r R:R2} (h:IxR X r) (h':IxR X R):IxR X (λ x y H Q=>r x y H Q\/R x y H Q):=by
 intro value O pins s σ H x y v u Q I Z ry q Y
 rcases q with q | q
 ·exact h value O pins s σ H x y v u Q I Z ry q Y
 ·exact h' value O pins s σ H x y v u Q I Z ry q Y
theorem MtR.or {id:String}{r Y:V->List V->Hp->VK->Prop} (h:MtR X id r) (h':MtR X id Y):MtR X id (λ x xs H Q=>r x xs H Q\/Y x xs H Q):=by
 intro pins s σ H x xs v us Q I O R q
 rcases q with q | q
 ·exact h pins s σ H x xs v us Q I O R q
 ·exact h' pins s σ H x xs v us Q I O R q
theorem Z_0 {r:R2} (hr:IxR X r) (Y:PE X a ta) (hb:PE X b tb) (R:T_2 b):PE X (.Subscript a b pos) (tOp r ta tb):=by
 intro pins s σ H Q I h;exact Subscript_ (bh3 Y hb I h λ v u Z x y H2 O rx ry q=>hr a b pins Z σ H2 x y v u Q O rx ry q (R _ _))
noncomputable def bb2 (K:Frag):R2:=λ x y H Q=>∃ p xs i v,x=.ref p/\y=.int i/\SqL K H p xs/\atI xs i=some v/\Q v H
noncomputable def aW8 (K:Frag):R2:=λ x y H Q=>∃ p xs i v,x=.ref p/\y=.int i/\SqT K H p xs/\atI xs i=some v/\Q v H
noncomputable def bj2:R2:=λ x y H Q=>∃ z i c,x=.str z/\y=.int i/\z.length<=sizeLine/\atI z.cps.toList i=some c/\Q (.str ⟨#[c]⟩) H
theorem ix_list:IxR X (bb2 X.K):=by
 intro value aa pins s σ H x y v u Q I rx ry h hs;obtain⟨p,xs,i,z,rfl,rfl,hq,he,q⟩:=h;cases rx;obtain⟨t,rfl⟩:=ry;obtain⟨Y,r,O,hz⟩:=I.list hq;obtain⟨j,h1,h2,h3,h4,h5⟩:=T_0 he;obtain⟨w,ew,R⟩:=r.get h2;have hl:=r.length;have hn:=F_4;have fin:EP X pins σ Q w s:=⟨z,H,I,R,q⟩
 by_cases h0:0<=i
 ·have Z:i.toNat=j:=by
   rw[seqIndex_of h0 h5] at h1;exact qi h1
  exact item_listR O.isList h0 (by omega) (by rw[Z];simpa using ew) fin hs
 ·have Z:(i+(Y.toArray.size:Int)).toNat=j:=by
   rw[seqIndex_neg (by omega) h4] at h1
   rw[List.size_toArray,<- hl];exact qi h1
  exact subscriptTail_builtinR (x:=w) O.isList.typeIs slot_list_getitem.lookup
   (wpAny_getItem_list_neg (Q:=λ r s'=>r=w/\EP X pins σ Q r s') O.isList (by omega) (by rw[List.size_toArray] <;> omega) (by omega) (by rw[Z];simpa using ew) ⟨rfl,fin⟩) hs
theorem ix_tup:IxR X (aW8 X.K):=by
 intro value R pins s σ H x y v u Q I rx ry h hs;obtain⟨p,xs,i,z,rfl,rfl,hq,he,q⟩:=h;cases rx;obtain⟨t,rfl⟩:=ry;obtain⟨Z,r,Y,hz⟩:=I.tuple hq;obtain⟨j,h1,h2,h3,h4,h5⟩:=T_0 he;obtain⟨w,ew,O⟩:=r.get h2;have hl:=r.length;have hn:=F_4;have fin:EP X pins σ Q w s:=⟨z,H,I,O,q⟩;exact subscriptTail_builtinR (x:=w) Y.typeIs slot_tuple_getitem.lookup
  (getItem_tuple (j:=j) (Q:=λ r s'=>r=w/\EP X pins σ Q r s') Y (by omega) (by omega) (by rw[List.size_toArray,<- hl];exact h1) (by simpa using ew) ⟨rfl,fin⟩) hs
theorem aS3:IxR X bj2:=by
 intro value O pins s σ H x y v u Q I Z ry h R;obtain⟨z,i,c,rfl,rfl,hz,Y,q⟩:=h;obtain⟨t,rfl⟩:=Z;obtain⟨t',rfl⟩:=ry;obtain⟨j,h1,h2,h3,h4,h5⟩:=T_0 Y;have hl:z.cps.toList.length=z.length:=by simp[Str.length]
 rw[hl] at h1 h4 h5;have hn:=F_4
 exact tail_any (typeIs_str s z t) slot_str_getitem.lookup (getItem_str (c:=c) (by
  have e1:decide (i < -(2 ^ 63:Int))=false:=decide_eq_false (by omega)
  have e2:decide (i>=2 ^ 63)=false:=decide_eq_false (by omega)
  rw[e1,e2,Bool.or_false]) (by rw[h1];simpa using h2) ⟨.str ⟨#[c]⟩,H,I.tok _,⟨_,rfl⟩,q⟩) R
noncomputable def rIx (K:Frag):R2:=λ x y H Q=>bb2 K x y H Q\/aW8 K x y H Q\/bj2 x y H Q
theorem aS4:IxR X (rIx X.K):=ix_list.or (ix_tup.or aS3)
theorem Inv.lst {pins:List (Addr×Obj)}{σ:St}{H:Hp}{s:Shared}{p:Addr}{xs:List V} (I:Inv X pins σ H s) (h:H p=some (.lst xs)) :
  ∃ (O:List Value) (n:Nat),Vals xs O ∧ s.heap.get? p=some {cls:=.type "list",data:=.seq O.toArray n} ∧ xs.length ≤ sizeLine:=by
 obtain⟨z,O,n,r,e⟩:=I.hok p _ h;exact⟨O,n,r,e,z⟩
theorem L_4 (lo hi:Option Int) (n:Nat):(sliceBounds lo hi none n).1=((HT.sIx n 0 lo:Nat):Int)/\(sliceBounds lo hi none n).2.1=((HT.sIx n n hi:Nat):Int)/\(sliceBounds lo hi none n).2.2=1:=by
 refine⟨?_,?_,rfl⟩
 ·cases lo with
  |none=>simp[sliceBounds,HT.sIx]
  |some i =>
   simp only[sliceBounds,HT.sIx,Option.getD_none,show (1:Int) > 0 by decide,if_true]
   by_cases h:i<0
   ·simp only[h,if_true] <;> omega
   ·simp only[h,if_false] <;> omega
 ·cases hi with
  |none=>simp[sliceBounds,HT.sIx]
  |some i =>
   simp only[sliceBounds,HT.sIx,Option.getD_none,show (1:Int) > 0 by decide,if_true]
   by_cases h:i<0
   ·simp only[h,if_true] <;> omega
   ·simp only[h,if_false] <;> omega
theorem G_4 (O:List Value) (lo hi:Option Int):slicePick O.toArray lo hi none=((O.drop (HT.sIx O.length 0 lo)).take (HT.sIx O.length O.length hi-HT.sIx O.length 0 lo)).toArray:=by
 obtain⟨h1,h2,R⟩:=L_4 lo hi O.toArray.size;unfold slicePick;rw[h1,h2,R];simp only[sliceRange_one,pick_run,List.size_toArray] <;> rfl
noncomputable def bs1 (K:Frag):V->Option Int->Option Int->Hp->VK->Prop:=λ x lo hi H Q=>∃ a xs,x=.ref a/\SqL K H a xs/\∀ p,H p=none->Q (.ref p) (upd H p (.lst (al5 xs lo hi)))
theorem sl_list:SlR X (bs1 X.K):=by
 intro pins s σ H x v vl vu lo hi sl Q I rx hs Y R h;obtain⟨a,xs,rfl,hx,q⟩:=h;cases rx;obtain⟨Z,r,ht,hz⟩:=I.list hx;have O:=r.length;refine⟨"list",_,slot_list_getitem.lookup,ht.isList.typeIs,?_⟩;refine wpAny_getItem_list_slice ht.isList hs Y R .none (by simp) ?_ (by rw[List.size_toArray] <;> omega)
 rw[G_4,<- O];refine⟨.ref s.heap.objs.size,_,I.laid (t':=s.toks) (o:=.lst (al5 xs lo hi)) (λ b ob q=>qd _ q) (qj _) ?_,rfl,q _ (I.hok.fresh (qj _))⟩
 exact⟨Nat.le_trans (C_9 xs lo hi) hz,_,0,(r.drop (HT.sIx xs.length 0 lo)).take (HT.sIx xs.length xs.length hi-HT.sIx xs.length 0 lo),qk _ rfl⟩
noncomputable def E_6:V->Bool
 |.non=>true
 |.bl _=>true
 |.int _=>true
 |.str _=>true
 |_=>false
noncomputable def eqV:V->V->Bool
 |.non,.non=>true
 |.bl a,.bl b=>a==b
 |.bl a,.int b=>(if a then 1 else 0)==b
 |.int a,.bl b=>a==(if b then 1 else 0)
 |.int a,.int b=>a==b
 |.str a,.str b=>a==b
 |_,_=>false
theorem aT6 {A:Around}{s:Shared}{y x:V}{u v:Value} (Y:RelV y u) (O:RelV x v) (Z:E_6 y=true) (R:E_6 x=true):SeqAt.EqAt A s u v (eqV y x):=by
 cases y with
 |non =>
  cases Y;cases x with
  |non=>cases O;exact SeqAt.EqAt.same _
  |bl b=>cases O;exact SeqAt.EqAt.none_bool b
  |int b=>obtain⟨t,rfl⟩:=O;exact SeqAt.EqAt.none_int b t
  |str b=>obtain⟨t,rfl⟩:=O;exact SeqAt.EqAt.none_str b t
  |_=>exact absurd (show false=true from R) Bool.false_ne_true
 |bl a =>
  cases Y;cases x with
  |non=>cases O;exact SeqAt.EqAt.bool_none a
  |bl b=>cases O;exact SeqAt.EqAt.bool_bool a b
  |int b=>obtain⟨t,rfl⟩:=O;exact SeqAt.EqAt.bool_int a b t
  |str b=>obtain⟨t,rfl⟩:=O;exact SeqAt.EqAt.bool_str a b t
  |_=>exact absurd (show false=true from R) Bool.false_ne_true
 |int a =>
  obtain⟨t',rfl⟩:=Y;cases x with
  |non=>cases O;exact SeqAt.EqAt.int_none a t'
  |bl b=>cases O;exact SeqAt.EqAt.int_bool a t' b
  |int b=>obtain⟨t,rfl⟩:=O;exact SeqAt.EqAt.int_int a t' b t
  |str b=>obtain⟨t,rfl⟩:=O;exact SeqAt.EqAt.int_str a t' b t
  |_=>exact absurd (show false=true from R) Bool.false_ne_true
 |str a =>
  obtain⟨t',rfl⟩:=Y;cases x with
  |non=>cases O;exact SeqAt.EqAt.str_none a t'
  |bl b=>cases O;exact SeqAt.EqAt.str_bool a t' b
  |int b=>obtain⟨t,rfl⟩:=O;exact SeqAt.EqAt.str_int a t' b t
  |str b=>obtain⟨t,rfl⟩:=O;exact SeqAt.EqAt.str_str a t' b t
  |_=>exact absurd (show false=true from R) Bool.false_ne_true
 |_=>exact absurd (show false=true from Z) Bool.false_ne_true
noncomputable def eqU (x:V) (u:Value):Bool:=match u with
 |.none=>eqV .non x
 |.bool b=>eqV (.bl b) x
 |.int i _=>eqV (.int i) x
 |.str z _=>eqV (.str z) x
 |_=>false
theorem aw6 {x y:V}{u:Value} (r:RelV y u) (f:E_6 y=true):eqU x u=eqV y x:=by
 cases y with
 |non=>cases r;rfl
 |bl b=>cases r;rfl
 |int i=>obtain⟨t,rfl⟩:=r;rfl
 |str z=>obtain⟨t,rfl⟩:=r;rfl
 |_=>exact absurd (show false=true from f) Bool.false_ne_true
theorem T_1 {x:V}:∀ {xs:List V}{us:List Value},Vals xs us->xs.all E_6=true->us.any (eqU x)=xs.any λ y=>eqV y x
 |_,_,.nil,_=>rfl
 |y::xs,u::us,.cons r t,f=>by
  rw[List.all_cons,Bool.and_eq_true] at f;rw[List.any_cons,List.any_cons,aw6 r f.1,T_1 t f.2]
theorem I_0 {A:Around}{s:Shared}{x:V}{v:Value} (Y:RelV x v) (R:E_6 x=true):∀ {xs:List V}{us:List Value},Vals xs us->xs.all E_6=true->∀ u∈us,SeqAt.EqAt A s u v (eqU x u)
 |_,_,.nil,_=>λ u O=>by cases O
 |y::xs,u::us,.cons r t,f=>λ Z O=>by
  rw[List.all_cons,Bool.and_eq_true] at f
  rcases qv O with rfl | O
  ·rw[aw6 r f.1];exact aT6 r Y f.1 R
  ·exact I_0 Y R t f.2 Z O
noncomputable def inV (x:V) (xs:List V):Bool:=xs.any λ y=>eqV y x
noncomputable def rIn (K:Frag) (O:Bool):R2:=λ x y H Q=>∃ p xs,y=.ref p/\(SqL K H p xs\/SqT K H p xs)/\E_6 x=true/\xs.all E_6=true/\Q (.bl (if O then !inV x xs else inV x xs)) H
theorem ae2:OpR X (compareOp .In) (rIn X.K false):=by
 intro pins s σ H x y v u Q I rx ry h;obtain⟨p,xs,rfl,R,Z,fs,q⟩:=h;cases ry
 rcases R with R | R
 ·obtain⟨O,r,Y,hz⟩:=I.list R
  refine SeqAt.in_listAt (eqU x) Y.isList (λ w hw=>I_0 rx Z r fs w (by simpa using hw)) ⟨.bl _,H,I,rfl,?_⟩
  rw[show O.toArray.any (eqU x)=O.any (eqU x) by simp,T_1 r fs]
  exact q
 ·obtain⟨O,r,Y,hz⟩:=I.tuple R
  refine SeqAt.in_tupleAt (eqU x) Y (λ w hw=>I_0 rx Z r fs w (by simpa using hw)) ⟨.bl _,H,I,rfl,?_⟩
  rw[show O.toArray.any (eqU x)=O.any (eqU x) by simp,T_1 r fs]
  exact q
theorem call_len_seq:CallR X (.builtin "len") (λ xs H Q=>∃ p ys,xs=[.ref p] ∧ (SqL X.K H p ys ∨ SqT X.K H p ys) ∧ Q (.int ys.length) H):=by
 intro pins s σ H xs us Q I r h;obtain⟨p,ys,rfl,R,q⟩:=h;obtain⟨u,rfl,rx⟩:=A_4 r;cases rx;have hn:=F_4
 rcases R with R | R
 ·obtain⟨Z,r',Y,hz⟩:=I.list R
  have O:=r'.length;exact Calls.call_len_list Y.isList (by simp only[List.size_toArray] <;> omega) ⟨.int ys.length,H,I.tok _,⟨s.toks+1,by rw[List.size_toArray,O]⟩,q⟩
 ·obtain⟨Z,r',Y,hz⟩:=I.tuple R
  have O:=r'.length;exact len_tuple Y (by simp only[List.size_toArray] <;> omega) ⟨.int ys.length,H,I.tok _,⟨s.toks+1,by rw[List.size_toArray,O]⟩,q⟩
theorem O_6:CallR X (.builtin "len") (λ xs H Q=>∃ z,xs=[.str z] ∧ z.length ≤ sizeLine ∧ Q (.int z.length) H):=by
 intro pins s σ H xs us Q I r h;obtain⟨z,rfl,R,q⟩:=h;obtain⟨u,rfl,t,rfl⟩:=A_4 r;have O:=F_4;exact len_str (by omega) ⟨.int z.length,H,I.tok _,⟨_,rfl⟩,q⟩
theorem CallR.or {f:Value}{r R:List V->Hp->VK->Prop} (h:CallR X f r) (h':CallR X f R):CallR X f (λ xs H Q=>r xs H Q\/R xs H Q):=by
 intro pins s σ H xs us Q I O q
 rcases q with q | q
 ·exact h pins s σ H xs us Q I O q
 ·exact h' pins s σ H xs us Q I O q
theorem O_5:CallR X (.type "list") (λ xs H Q=>∃ p ys,xs=[.ref p] ∧ (SqL X.K H p ys ∨ SqT X.K H p ys) ∧ ∀ l,H l=none → Q (.ref l) (upd H l (.lst ys))):=by
 intro pins s σ H xs us Q I r h;obtain⟨p,ys,rfl,hq,q⟩:=h;obtain⟨u,rfl,rx⟩:=A_4 r;cases rx;have fin:∀ (O:List Value),Vals ys O->ys.length<=sizeLine->∀ (h':Heap) (R:Nat),(∀ b o',s.heap.get? b=some o'->h'.get? b=some o') ->
   h'.get? s.heap.objs.size=some {cls:=.type "list",dict:=none,data:=.seq O.toArray R,slots:=#[]} → EP X pins σ Q (.ref s.heap.objs.size) {s with heap:=h'}:=λ O Y Z h' R kp e =>
  ⟨.ref s.heap.objs.size,_,I.laid (t':=s.toks) kp (qj _) (show ObjOk X.prog X.w _ h' _ (.lst ys) from ⟨Z,O,R,Y,e⟩),rfl,q _ (I.hok.fresh (qj _))⟩
 rcases hq with hq | hq
 ·obtain⟨O,Y,pl,Z⟩:=I.list hq
  have aa:=Y.length;obtain⟨o,ho,hc,n,hd⟩:=pl.isList;exact call_list_seq p (.inl rfl) ho hc hd (λ h' R kp e=>fin O Y Z h' R kp e) (by simp only[List.size_toArray] <;> omega)
 ·obtain⟨O,Y,pl,Z⟩:=I.tuple hq
  have aa:=Y.length;obtain⟨o,ho,hc,n,hd⟩:=pl;exact call_list_seq p (.inr rfl) ho hc hd (λ h' R kp e=>fin O Y Z h' R kp e) (by simp only[List.size_toArray] <;> omega)
theorem J_6:CallR X (.type "tuple") (λ xs H Q=>∃ p ys,xs=[.ref p] ∧ ((SqL X.K H p ys ∧ ∀ l,H l=none → Q (.ref l) (upd H l (.tup ys))) ∨ (SqT X.K H p ys ∧ Q (.ref p) H))):=by
 intro pins s σ H xs us Q I r h;obtain⟨p,ys,rfl,h⟩:=h;obtain⟨u,rfl,rx⟩:=A_4 r;cases rx
 rcases h with ⟨hq,q⟩ | ⟨hq,q⟩
 ·obtain⟨O,Y,R,Z⟩:=I.list hq
  have aa:=Y.length;refine call_tuple_list R.isList (λ h' kp=>?_) (by simp only[List.size_toArray] <;> omega)
  have I1:Inv X pins σ H {s with heap:=h'}:=I.kept (t':=s.toks) kp
  have I2:Inv X pins σ (upd H h'.objs.size (.tup ys)) {s with heap:=h'.push {cls:=.type "tuple",data:=.seq O.toArray}} :=
   I1.laid (t':=s.toks) (λ b o e=>qd _ e) (qj _) (show ObjOk X.prog X.w _ _ _ (.tup ys) from ⟨Z,O,Y,IsTuN.new _ _⟩)
  exact⟨.ref h'.objs.size,_,I2,rfl,q _ (I1.hok.fresh (qj _))⟩
 ·obtain⟨O,Y,R,Z⟩:=I.tuple hq
  exact call_tuple_same R ⟨.ref p,H,I,rfl,q⟩
noncomputable def tyV (K:Frag) (T:String) (x:V) (H:Hp):Prop:=match x with
 |.str _=>T="str"
 |.int _=>T="int"
 |.ref p=>(T="list" ∧ ∃ xs,SqL K H p xs) ∨ (T="tuple" ∧ ∃ o,K.lookup p=some o ∧ o.cls=.type "tuple" ∧ o.dict=none) ∨
   (T="dict" ∧ ((∃ kvs,H p=some (.dK kvs)) ∨ ∃ kvs,H p=some (.dT kvs))) ∨ (T="set" ∧ ∃ S n,H p=some (.set S n))
 |_=>False
theorem as6 {pins:List (Addr×Obj)}{σ:St}{H:Hp}{s:Shared}{T:String}{x:V}{v:Value} (I:Inv X pins σ H s) (r:RelV x v) (ty:tyV X.K T x H) :
  s.TypeIs v T/\∀ a,v=.ref a->∃ ob,s.heap.get? a=some ob/\ob.dict=none:=by
 cases x with
 |str z =>
  obtain⟨t,rfl⟩:=r;cases (show T="str" from ty);exact⟨typeIs_str s z t,λ _ e=>nomatch e⟩
 |int i =>
  obtain⟨t,rfl⟩:=r;cases (show T="int" from ty);exact⟨typeIs_int s i t,λ _ e=>nomatch e⟩
 |ref p =>
  cases r
  rcases ty with ⟨rfl,xs,hq⟩ | ⟨rfl,o,hk,hc,O⟩ | ⟨rfl,hk⟩ | ⟨rfl,S,n,hk⟩
  ·obtain⟨Y,_,R,_⟩:=I.list hq
   refine⟨R.isList.typeIs,λ a e=>?_⟩
   cases e;obtain⟨o,n,e,c,O,_⟩:=R;exact⟨o,e,O⟩
  ·refine⟨⟨o,I.kIn p o hk,hc⟩,λ a e=>?_⟩
   cases e;exact⟨o,I.kIn _ o hk,O⟩
  ·have z:∃ o,s.heap.get? p=some o/\o.ExactDict:=by
    rcases hk with ⟨kvs,hk⟩ | ⟨kvs,hk⟩
    ·obtain⟨_,_,_,_,o,_,_,e,ex,_⟩:=I.hok p _ hk
     exact⟨o,e,ex⟩
    ·obtain⟨_,_,_,_,o,_,_,e,ex,_⟩:=I.hok p _ hk
     exact⟨o,e,ex⟩
   obtain⟨o,e,ex⟩:=z;refine⟨⟨o,e,ex.1⟩,λ a e2=>?_⟩
   cases e2;exact⟨o,e,ex.2.1⟩
  ·obtain⟨o,_,_,_,e,ex,_⟩:=I.hok p _ hk
   refine⟨⟨o,e,ex.1⟩,λ a e2=>?_⟩
   cases e2;exact⟨o,e,ex.2.1⟩
 |_=>exact False.elim ty
noncomputable def bq4 (K:Frag) (T:String) (r:V->List V->Hp->VK->Prop) (to:TE):TE:=λ σ H Q=>to σ H λ x H1=>tyV K T x H1/\r x [] H1 Q
noncomputable def tBM (K:Frag) (T:String) (r:V->List V->Hp->VK->Prop) (to:TE) (t:TA):TE:=λ σ H Q=>to σ H λ x H1=>tyV K T x H1/\t σ H1 λ xs H2=>r x xs H2 Q
variable {o e:Expr}{es:List Expr}{to:TE}{t:TA}{name:Str}{apos cpos:Pos}{T id:String}{r:V->List V->Hp->VK->Prop}
theorem aP2 (pa:PlainAttrs T) (slot:Slot T name id) (Z:typeOf (.builtin id)=pure (.type "method_descriptor")) (hm:MtR X id r) (ho:PE X o to)
  (R:attributeBase o name X.env (eval o X.env)=eval o X.env:=by rfl) (O:(apos.endLine==cpos.line)=true:=by rfl):PE X (.Call (.Attribute o name apos) [] [] cpos) (bq4 X.K T r to):=by
 intro pins s σ H Q I h;refine wpAny_Call_method0_late R O (thn (ho pins s σ H _ I h) λ v s1 Y=>?_)
 obtain⟨x,H1,I1,r1,ty,q1⟩:=Y;obtain⟨h1,h2⟩:=as6 I1 r1 ty;exact⟨T,id,pa,slot,Z,h1,h2,Calls.callWith_builtin rfl (PySem.evalArgs_none (hm pins s1 σ H1 x [] v [] Q I1 r1 .nil q1))⟩
theorem aP3 (pa:PlainAttrs T) (slot:Slot T name id) (ab:typeOf (.builtin id)=pure (.type "method_descriptor")) (hm:MtR X id r) (ho:PE X o to) (ha:PA X (e::es) t)
  (Y:attributeBase o name X.env (eval o X.env)=eval o X.env:=by rfl)
  (Z:((backTo cpos (starEach (e::es) X.env)).all (λ x=>!x.1)&&(backToKw cpos (keywordEach [] X.env)).all (λ x=>x.1.isSome)
   && decide ((e::es).length+([]:List Keyword).length+(if ([]:List Keyword).isEmpty then 0 else 1)<30))=true:=by rfl)
  (R:(apos.endLine==cpos.line)=true:=by rfl) (hs:starEach (e::es) X.env=(false,eval e X.env)::starEach es X.env:=by rfl) (O:(backTo cpos (starEach es X.env)).any (·.1)=false:=by rfl) :
  PE X (.Call (.Attribute o name apos) (e::es) [] cpos) (tBM X.K T r to t):=by
 intro pins s σ H Q I h;refine wpAny_Call_method_late Y Z R rfl (thn (ho pins s σ H _ I h) λ v s1 aa=>?_)
 obtain⟨x,H1,I1,r1,ty,q1⟩:=aa;obtain⟨h1,h2⟩:=as6 I1 r1 ty;refine⟨T,id,pa,slot,ab,h1,h2,?_⟩;have hA:=ha cpos pins s1 σ H1 _ I1 q1;rw[hs] at hA ⊢;refine Calls.callWith_builtin (by show (false||(backTo cpos (starEach es X.env)).any (·.1))=false;rw[O] <;> rfl) (Calls.evalArgs_plain ?_)
 exact thn hA λ us s2=>ex5 λ vs H2 I2 r2 q2=>hm pins s2 σ H2 x vs v us Q I2 r1 r2 q2
end
noncomputable def MtM (X:Cx) (id:String) (r:V->List V->Hp->VK->Prop):Prop :=
 ∀ (pins:List (Addr×Obj)) (s:Shared) (σ:St) (H:Hp) (x:V) (xs:List V) (v:Value) (us:List Value) (Q:VK),Inv X pins σ H s->RelV x v->Vals xs us->r x xs H Q ->
  wpAny (model X.prog X.w) X.A (call (.builtin id) (v::us)) (EP X pins σ Q) X.xe s
theorem Vals.one:∀ {x:V}{us:List Value},Vals [x] us->∃ u,us=[u]/\RelV x u
 |_,_,h=>by
  cases h with
  |cons r t=>cases t;exact⟨_,rfl,r⟩
theorem Vals.zero:∀ {us:List Value},Vals [] us->us=[]
 |_,.nil=>rfl
theorem Vals.dropLast {xs:List V}{us:List Value} (h:Vals xs us):Vals xs.dropLast us.dropLast:=by
 induction h with
 |nil=>exact .nil
 |cons r t O =>
  cases t with
  |nil=>exact .nil
  |cons q t'=>exact .cons r O
theorem Vals.eraseIdx:∀ {xs:List V}{us:List Value} (i:Nat),Vals xs us->Vals (xs.eraseIdx i) (us.eraseIdx i)
 |_,_,_,.nil=>.nil
 |_,_,0,.cons _ t=>t
 |_,_,i+1,.cons r t=>.cons r (Vals.eraseIdx i t)
theorem Vals.reverse {xs:List V}{us:List Value} (h:Vals xs us):Vals xs.reverse us.reverse:=by
 induction h with
 |nil=>exact .nil
 |cons r t O=>rw[List.reverse_cons,List.reverse_cons];exact Vals.append O (.cons r .nil)
theorem aa6 {α:Type} (l:List α):l.eraseIdx (l.length-1)=l.dropLast:=by
 induction l with
 |nil=>rfl
 |cons a r O =>
  cases r with
  |nil=>rfl
  |cons b r =>
   have e:(a::b::r).length-1=((b::r).length-1)+1:=by
    have h1:(a::b::r).length=r.length+2:=rfl;have h2:(b::r).length=r.length+1:=rfl;omega
   rw[e,List.eraseIdx_cons_succ,O]
   all_goals rfl
section
variable {X:Cx}{pins:List (Addr×Obj)}{σ:St}{H:Hp}{s:Shared}{l b:Addr}{xs ys zs:List V}
theorem Inv.lset {O its':List Value}{n:Nat}{f:Array Value->Array Value}{t':Nat} (I:Inv X pins σ H s) (hH:H l=some (.lst xs))
  (e:s.heap.get? l=some {cls:=.type "list",data:=.seq O.toArray n}) (hf:f O.toArray=its'.toArray) (Z:Vals ys its') (R:ys.length ≤ sizeLine) :
  Inv X pins σ (upd H l (.lst ys)) {s with heap:=s.heap.update l (Obj.mapSeq f),toks:=t'}:=by
 have q:=PySem.IsL.update e f;rw[hf] at q;refine I.write (x:=l) (e:=l) (by rw[hH];exact trivial) (.inl rfl) (λ b' u hb Y=>(Heap.get?_update_other s.heap (Obj.mapSeq f) (Ne.symm hb)).trans Y) ⟨_,q⟩ ?_
 exact⟨R,its',_,Z,q⟩
theorem Inv.lnew {O:List Value}{t':Nat} (I:Inv X pins σ H s) (R:Vals ys O) (Y:ys.length<=sizeLine) :
  Inv X pins σ (upd H s.heap.objs.size (.lst ys)) {s with heap:=s.heap.push {cls:=.type "list",data:=.seq O.toArray},toks:=t'} :=
 I.laid (λ _ _ q=>qd _ q) (qj _) ⟨Y,O,0,R,qk _ rfl⟩
theorem Inv.fresh (I:Inv X pins σ H s):H s.heap.objs.size=none:=I.hok.fresh (qj _)
theorem Inv.lstM (I:Inv X pins σ H s) (R:H l=some (.lst xs)):xs.length ≤ sizeLine ∧ ∃ (O:List Value) (n:Nat),Vals xs O ∧ xs.length=O.length ∧ s.heap.get? l=some {cls:=.type "list",data:=.seq O.toArray n}:=by
 obtain⟨z,O,n,r,e⟩:=I.hok l _ R;exact⟨z,O,n,r,r.length,e⟩
end
section
variable {X:Cx}
noncomputable def Q_6:V->List V->Hp->VK->Prop:=λ x vs H Q=>∃ l xs y,x=.ref l/\vs=[y]/\H l=some (.lst xs)/\xs.length<sizeLine/\Q .non (upd H l (.lst (xs++[y])))
theorem N_6:MtM X "list.append" Q_6:=by
 intro pins s σ H x vs v us Q I rx Y h;obtain⟨l,xs,y,rfl,rfl,R,hz,q⟩:=h;cases rx;obtain⟨u,rfl,Z⟩:=Y.one;obtain⟨z,O,n,r,hl,e⟩:=I.lstM R;refine call_meets F.slot_list_append ⟨_,e,rfl⟩ F.entry_list_append (F.args_list_append_2 _ _) (PySem.list_append l O.toArray n u (by rw[List.size_toArray];omega)) ⟨e,?_⟩
 refine⟨.non,_,I.lset (its':=O++[u]) R e (by simp) (r.append (.cons Z .nil)) ?_,rfl,q⟩
 rw[List.length_append,List.length_singleton];omega
noncomputable def bs2:V->List V->Hp->VK->Prop:=λ x vs H Q=>∃ l xs y,x=.ref l/\vs=[]/\H l=some (.lst xs)/\xs[xs.length-1]?=some y/\Q y (upd H l (.lst xs.dropLast))
theorem aQ9:MtM X "list.pop" bs2:=by
 intro pins s σ H x vs v us Q I rx rv h;obtain⟨l,xs,y,rfl,rfl,Z,hy,q⟩:=h;cases rx;have Y:=rv.zero;subst Y;obtain⟨z,O,n,r,hl,e⟩:=I.lstM Z;obtain⟨u,hu,ru⟩:=r.get hy
 have R:O.toArray[O.toArray.size-1]?=some u:=by
  show O.toArray[O.length-1]?=some u;rw[<- Array.getElem?_toList,<- hl];exact hu
 refine call_meets F.slot_list_pop ⟨_,e,rfl⟩ F.entry_list_pop (F.args_list_pop_1 _) (MeetsSeq.list_pop_last l O.toArray n u R (by rw[List.size_toArray];omega)) ⟨e,?_⟩
 refine⟨y,_,I.lset (its':=O.dropLast) Z e ?_ r.dropLast ?_,ru,q⟩
 ·show O.toArray.eraseIdxIfInBounds (O.toArray.size-1)=O.dropLast.toArray
  rw[List.size_toArray,List.eraseIdxIfInBounds_toArray,aa6]
 ·rw[List.length_dropLast]
  omega
end
end L2
namespace Att
open PySem PySem.W PySem.Calls PyProof.Rows
theorem C_3 {P:Params}{h:Heap}:∀ (O:List Int) (vs:List Value),WellAll P h vs (O.map WData.int)->IntsAre vs O:=by
 intro O
 induction O with
 |nil =>
  intro vs w;rw[List.map_nil] at w;cases w;exact .nil
 |cons n O R =>
  intro vs w;rw[List.map_cons] at w;cases w with
  |cons a b =>
   cases a;exact .cons _ _ (R _ b)
theorem ad1 {l:OpenLaw}{n:Nat} (hn:l.most=some n) {P:Params}{h:Heap}{args:List WData}{vals:List Value}
  (R:l.row.toRowW.claim.pre args=true) (ab:WellAll P h vals args) :
  ∃ a vs O,vals=[Value.ref a] ∧ args=[WData.list (O.map WData.int)] ∧ h.get? a=some {cls:=.type "list",data:=.seq vs.toArray} ∧ IntsAre vs O ∧ O.length ≤ n:=by
 have aa:WShape.hasAll [] args [.list .int]=true:=(pre_splitW R).1;have hc:l.pre.holds [] {args:=args}=true:=(pre_splitW R).2;obtain⟨d,r,rfl,h1,h2⟩:=hasAllW_cons aa;obtain rfl:=hasAllW_nil h2;obtain⟨xs,rfl,h3⟩:=hasW_list h1;obtain⟨O,rfl⟩:=items_int h3
 have Y:O.length<=n:=by
  unfold OpenLaw.pre at hc
  have h4:(WTm.not (.lt (.lit (.int (n:Int))) (.len (.arg 0)))).holds [] {args:=[.list (O.map .int)]}=true:=by
   have h4:=(holds_andW hc).1;rw[hn] at h4;exact h4
  have h5:=condW_of h4 (w_not (w_lt w_lit (w_len_list (w_arg rfl))));rw[List.length_map] at h5;refine Nat.le_of_not_lt λ q=>?_
  have q':(n:Int)<((O.length:Nat):Int):=by omega
  first
   |(rw[decide_eq_true q'] at h5;exact absurd h5 (by decide))
   |(simp at h5;omega)
 cases ab with
 |cons w1 w2 =>
  cases w2;cases w1 with
  |list ho Z=>exact⟨_,_,O,rfl,rfl,ho,C_3 O _ Z,Y⟩
theorem ad6 (l:OpenLaw) (args:List WData):l.row.toRowW.claim.post args (.bool true) args=true :=
 postW_of (r:=l.row.toRowW) (X:=(true==true))
  (show WShape.has [] (.bool true) .bool=true by first | rfl | decide | simp[WShape.has,WShape.arms,WShape.armsAll])
  (show (WTm.eq .res (.lit (.bool true))).value [] {args:=args,res:=some (.bool true),after:=args}=some (.bool (true==true)) from w_eq_bool (w_res rfl) w_lit) rfl
theorem attach_call {l:OpenLaw}{n:Nat}{q:Program}{R:List Str}{XP:(Str->Option Value)->Heap->Prop}{YP:World->Heap->Prop}{d:DefRec}
  (hn:l.most=some n) (af:d.params.defaults=[])
  (call:∀ (w:World) (s₀ O:Shared) (mg mb:Str->Option Value) (fa:Addr) (o:Obj) (pm cd Z:Value) (a:Addr) (vs:List Value) (ns:List Int),
   Ground q R [] XP w s₀ mg mb O.heap->YP w O.heap ->
   O.heap.get? fa=some o->o.data=.func (docDef d.name d.params d.body d.scope pm cd Z)->O.heap.CodeRec cd d.name->mg d.name=some (.ref fa) ->
   O.heap.get? a=some {cls:=.type "list",data:=.seq vs.toArray} → IntsAre vs ns → ns.length ≤ n → O.gens=#[] →
   codeAny (model l.prog w) callerA (.call (.ref fa) ⟨[.ref a],[]⟩) (λ r s'=>r=.ok (.ret (.bool true))/\OldK O.heap s'.heap/\s'.os=O.os/\AllBare s'.gens) O) :
  WalkO q R XP YP l.row.toRowW d [] (λ f vs=>PySem.call f vs):=by
 intro w s₀ O mg mb G Y fa o pm cd Z dV kV ho hd ah hD ae hg args vals as ac ai aj ag ak;obtain rfl:dV=.none:=Dflts.none hD af;obtain rfl:kV=.none:=Dflts.noKw hD;obtain⟨a,vs,ns,rfl,rfl,ab,aa,ad⟩:=ad1 hn ac ag;refine enter_call (codeAny_mono (call w s₀ O mg mb fa o pm cd Z a vs ns G Y ho (fd_plain hd) ah ae ab aa ad hg) λ r s' hq=>?_)
 obtain⟨rfl,h2,h3,h4⟩:=hq;exact⟨.inl ⟨.bool true,.bool true,[],rfl,λ _=>rfl,.bool true,ad6 l _,λ _=>⟨List.Pairwise.nil,λ _ hm=>(nomatch hm)⟩⟩,h2,h3,h4⟩
end Att
namespace L2
open PySem PySem.Spec PyProof.Rows
theorem vals_ints:∀ {vs:List Value}{O:List Int},IntsAre vs O->Vals (O.map V.int) vs
 |_,_,.nil=>.nil
 |_,_,.cons n t h=>.cons ⟨t,rfl⟩ (vals_ints h)
noncomputable def bh9 (H:Hp):Prop:=∀ b,H b=none\/∃ o xs,H b=some (.frz o (.lst xs))
theorem ap5 {P:Program}{w:World}{K:Frag}{mg mb:Str->Option Value}{CX:CXT}{k:Nat}{fa a:Addr}{fd:FuncData}{x:Str}{sp:Sp}{O:Shared}{vs:List Value}{ns:List Int}
  (KX:K.In O.heap) (ag:O.heap.Ns mainGlobals mg) (Y:O.heap.Ns builtinsNs mb) (ak:∀ x:Str,x≠"__name__" → mb x=bootBuiltins x) (ah:O.heap.NoLimit) (hg:O.gens=#[])
  (ha:O.heap.get? a=some {cls:=.type "list",data:=.seq vs.toArray}) (hi:IntsAre vs ns) (hl:ns.length ≤ sizeLine) (hr:Room k callerA)
  (F:∀ base:Heap,K.In base->base.Ns mainGlobals mg->FnOk P w K mg base CX k fa fd [x] sp) (ab:∀ (s:Shared) (u:Value),BindsTo s fd ⟨[u],[]⟩ [(x,u)])
  (aj:∀ H:Hp,bh9 H->SqL K H a (ns.map V.int)->sp [.ref a] H (λ v _=>v=.bl true) λ _ _ _=>False)
  (al:∀ H e s',CX [] H O (λ _ _ _=>False) e s'->False) :
  codeAny (model P w) callerA (.call (.ref fa) ⟨[.ref a],[]⟩) (λ r s'=>r=.ok (.ret (.bool true))/\OldK O.heap s'.heap/\s'.os=O.os/\AllBare s'.gens) O:=by
 have rv:=vals_ints hi;have ae:=hi.length;have aa:∀ H:Hp,bh9 H->SqL K H a (ns.map V.int)->HOk P w H O.heap->(∀ b,H b≠none->b=a)->(H a≠none->K.lookup a=none) ->
   codeAny (model P w) callerA (.call (.ref fa) ⟨[.ref a],[]⟩) (λ r s'=>r=.ok (.ret (.bool true))/\OldK O.heap s'.heap/\s'.os=O.os/\AllBare s'.gens) O:=by
  intro H hO hS af hA hK;have R:∀ {b:Addr}{o:Obj},O.heap.get? b=some o->H b=none->(aq1 O.heap H).get? b=some o:=λ e n=>aq0 e n
  have am:∀ {b:Addr}{o:Obj}{es:Array DictEntry}{ep:Nat},O.heap.get? b=some o->o.data=.dict es ep->H b=none:=λ {b o es ep} e d=>by
   cases q:H b with
   |none=>rfl
   |some u =>
    have e':b=a:=hA b (by rw[q];simp)
    subst e';rw[ha] at e;cases e;have d':Data.seq vs.toArray _=Data.dict es ep:=d;cases d'
  have Z:∀ {b:Addr}{m:Str->Option Value},O.heap.Ns b m->(aq1 O.heap H).Ns b m:=λ {b m} ⟨o,es,ep,e,d,r⟩=>⟨o,es,ep,R e (am e d),d,r⟩
  have ai:K.In (aq1 O.heap H):=λ b o e=>R (KX b o e) (by
   cases q:H b with
   |none=>rfl
   |some u =>
    have e':b=a:=hA b (by rw[q];simp)
    subst e';rw[hK (by rw[q];simp)] at e;cases e)
  have hM:Mod K mg (aq1 O.heap H):=⟨ai,Z ag,⟨mb,Z Y,ak⟩,let ⟨mc,h1,h2⟩:=ah;⟨mc,Z h1,h2⟩⟩;have e0:Env0 P w K mg (aq1 O.heap H) callerA [] O H:=⟨rfl,hM,λ b o e=>aB7 e,Nat.le_of_eq (ah2 _ _),trivial,λ b Y=>absurd (show b∈([]:List Addr) from Y) (by simp),af,.of_eq hg⟩
  refine codeAny_mono ((F _ ai (Z ag)).run callerA [] O H ⟨[.ref a],[]⟩ [.ref a] [.ref a] _ _ hr e0 (ab O (.ref a)) (.cons rfl .nil) (aj H hO hS)) λ r s' h=>?_
  cases r with
  |error e=>exact (al H e s' h).elim
  |ok fl =>
   cases fl with
   |next=>exact False.elim h
   |brk=>exact False.elim h
   |cont=>exact False.elim h
   |ret u =>
    obtain⟨v,H',os,ad,un,ac,r',q⟩:=h;have q':v=.bl true:=q;subst q';obtain rfl:u=Value.bool true:=r';refine⟨rfl,OldK.of_keep λ b o e=>?_,os,ad⟩
    cases q:H b with
    |none=>exact un.keep b o e q (by intro z;exact absurd (show b∈([]:List Addr) from z) (by simp)) (by simp)
    |some u =>
     rcases hO b with z | ⟨ob,xs,z⟩
     ·rw[q] at z;cases z
     ·have z2:=un.frzs b ob _ z
      obtain⟨e1,_⟩:=af b _ z;obtain⟨e2,_⟩:=ac b _ z2;rw[e] at e1;cases e1;exact e2
 cases hk:K.lookup a with
 |some o =>
  have e:=KX a o hk;rw[ha] at e;cases e;refine aa (λ _=>none) (λ _=>.inl rfl) (.inr ⟨_,vs.toArray,_,hk,rfl,rfl,rfl,by rw[List.size_toArray,ae];exact hl,by simpa using rv⟩) (λ b u z=>by have z':(none:Option HO)=some u:=z;cases z') (λ b z=>absurd rfl z) λ z=>absurd rfl z
 |none =>
  refine aa (λ b=>if b=a then some (.frz {cls:=.type "list",data:=.seq vs.toArray} (.lst (ns.map V.int))) else none) (λ b=>?_) (.inl (.inr ⟨{cls:=.type "list",data:=.seq vs.toArray},if_pos rfl⟩)) (λ b u z=>?_) (λ b z=>?_) λ _=>hk
  ·by_cases Y:b=a
   ·exact .inr ⟨_,_,if_pos Y⟩
   ·exact .inl (if_neg Y)
  ·by_cases Y:b=a
   ·have z':=(if_pos Y).symm.trans z
    cases z';subst Y;exact⟨ha,by rw[List.length_map];exact hl,vs,_,rv,ha⟩
   ·have z':=(if_neg Y).symm.trans z
    cases z'
  ·by_cases Y:b=a
   ·exact Y
   ·exact absurd (if_neg Y) z
theorem walk_of {l:OpenLaw}{n k:Nat}{q:Program}{R:List Str}{XP:(Str->Option Value)->Heap->Prop}{YP:World->Heap->Prop}{d:DefRec}{K:Params->Frag}{CX:World->CXT}{sp:World->Sp}{x:Str}
  (hn:l.most=some n) (ad:n<=sizeLine) (ag:d.params.defaults=[]) (hr:Room k callerA)
  (hY:∀ (w:World) (h:Heap),YP w h->(K w.params).In h)
  (F:∀ (w:World) (mg:Str->Option Value) (fa:Addr) (h:Heap),(K w.params).In h->h.Ns mainGlobals mg->mg d.name=some (.ref fa) ->
   ∃ fd:FuncData,(∀ (s:Shared) (u:Value),BindsTo s fd ⟨[u],[]⟩ [(x,u)]) /\
    ∀ base:Heap,(K w.params).In base->base.Ns mainGlobals mg->FnOk l.prog w (K w.params) mg base (CX w) k fa fd [x] (sp w))
  (ac:∀ (w:World) (H:Hp) (a:Addr) (ns:List Int),ns.length<=n->bh9 H->SqL (K w.params) H a (ns.map V.int)->sp w [.ref a] H (λ v _=>v=.bl true) λ _ _ _=>False)
  (ae:∀ (w:World) (H:Hp) (s:Shared) (e:Value) (s':Shared),CX w [] H s (λ _ _ _=>False) e s'->False) :
  PySem.W.WalkO q R XP YP l.row.toRowW d [] (λ f vs=>PySem.call f vs):=by
 refine Att.attach_call hn ag λ w s₀ ab mg mb fa o pm cd ah a vs ns G Y ho hd ai af aa Z O hg=>?_
 have KX:=hY w _ Y;obtain⟨fd,hb,hF⟩:=F w mg fa _ KX G.T.g af;exact ap5 KX G.T.g G.T.b G.T.builtins G.T.nolimit hg aa Z (Nat.le_trans O ad) hr hF hb (λ H hO hS=>ac w H a ns O hO hS) λ H e s'=>ae w H ab e s'
noncomputable def a_5 (s:Stmt):Arguments:=match s with
 |.FunctionDef _ a _ _ _ _ _ _ _ _=>a
 |_=>{posonlyargs:=[],args:=[],vararg:=none,kwonlyargs:=[],kw_defaults:=[],kwarg:=none,defaults:=[]}
noncomputable def a_3 (s:Stmt):List Stmt:=match s with
 |.FunctionDef _ _ b _ _ _ _ _ _ _=>b
 |_=>[]
noncomputable def a_0 (s:Stmt):Scope:=match s with
 |.FunctionDef _ _ _ _ _ _ sc _ _ _=>sc
 |_=>{kind:=.function,names:=[],isGenerator:=false,isCoroutine:=false}
abbrev CX0:CXT:=λ _ _ _ _ _ _=>False
abbrev E0:XK:=λ _ _ _=>False
theorem aB1 {X:Cx}:ak8 CX0 X E0:=λ _ _ _ _ _ _ _ h=>h.elim
structure Fun (K:Frag) (x qual:Str) (st:Stmt) (f:Addr) (fd:FuncData):Prop where
 ex:∃ (oc:Value) (od:Option Addr) (kV doc pm:Value) (an:Option Addr) (cdv ct:Value) (osl:Array (Option Value)),
  fd=fnOf x qual (a_5 st) (a_3 st) (a_0 st) .none kV doc pm an cdv ct/\K.lookup f=some ⟨oc,od,.func fd,osl⟩/\codeIn K cdv qual=true
 kp:keepIn K (.ref f)=true
section
variable {P:Program}{w:World}{K:Frag}{mg:Str->Option Value}{base:Heap}
theorem Fun.ok {x O:Str}{st:Stmt}{f:Addr}{fd:FuncData}{N ps:List Str}{k:Nat}{sp:Sp} (F:Fun K x O st f fd) (S:FnScope N ps (a_0 st)) (len:∀ vs H Q E,sp vs H Q E->vs.length=ps.length)
  (Y:∀ (R:Value) (A:Around) (outer:List Env) (s:Shared) (H:Hp) (vs:List V) (Q:VK) (E:XK),Room k (A.deeper (envOfC O (a_0 st) s.heap.objs.size f R))->sp vs H Q E ->
   ∃ t,PSs (al4 CX0 P w K mg base N O (a_0 st) f R A outer s H E).nox (a_3 st) t/\t {nx:=λ _ H'=>Q .non H',rt:=Q} (start N vs) H):FnOk P w K mg base CX0 (k+1) f fd ps sp:=by
 obtain⟨oc,od,kV,ab,pm,an,R,ct,ac,rfl,lk,aa⟩:=F.ex;refine bd9 lk aa S len λ A outer s H vs Q E hr Z=>?_
 obtain⟨t,h,q⟩:=Y R A outer s H vs Q E hr Z;exact⟨t,h.nox,q⟩
theorem Fun.binds {x O:Str}{st:Stmt}{f:Addr}{fd:FuncData}{ps:List Str} (F:Fun K x O st f fd)
  (h:∀ (kV R Z:Value) (an:Option Addr) (Y ct:Value) (us:List Value),us.length=ps.length->bindArgs (fnOf x O (a_5 st) (a_3 st) (a_0 st) .none kV R Z an Y ct) ⟨us,[]⟩=pure (ps.zip us)):Binds K fd ps []:=by
 obtain⟨oc,od,kV,R,Z,an,Y,ct,aa,rfl,lk,ab⟩:=F.ex;exact .all (h kV R Z an Y ct)
theorem b_6 {x O:Str}{st:Stmt}{f:Addr}{oc:Value}{od an:Option Addr}{Z:Array (Option Value)}{kV Y pm R ct:Value} (l:K.lookup f=some ⟨oc,od,.func (fnOf x O (a_5 st) (a_3 st) (a_0 st) .none kV Y pm an R ct),Z⟩)
  (c:codeIn K R O=true) (k:keepIn K (.ref f)=true):Fun K x O st f (fnOf x O (a_5 st) (a_3 st) (a_0 st) .none kV Y pm an R ct):=⟨⟨oc,od,kV,Y,pm,an,R,ct,Z,rfl,l,c⟩,k⟩
end
theorem L_3 {n:Nat} (h:n<=1000):n<sizeLine:=Nat.lt_of_le_of_lt h (by decide)
section
variable {X:Cx}
theorem pv (i:Nat) {x:Str}{pos:Pos} (Z:X.N[i]?=some x:=by rfl) (R:Vis X.env.scope x:=by first | exact Or.inl rfl | exact Or.inr (Or.inl rfl) | exact Or.inr (Or.inr rfl)) (Y:(x==("__debug__":Str))=false:=by decide)
  (O:(x==("__classdict__":Str))=false:=by decide):PE X (.Name x pos) (Q_2 i):=u_3 Z R Y O
end
theorem bk6 {A B:Prop} (h:B):if false=true then A else B:=by
 rw[if_neg Bool.false_ne_true];exact h
theorem bc7 {A B:Prop} (h:A):if true=true then A else B:=by
 rw[if_pos rfl];exact h
noncomputable def Same (H H':Hp):Prop:=∀ b o,H b=some o->H' b=some o
theorem Same.refl (H:Hp):Same H H:=λ _ _ h=>h
theorem Same.trans {H H1 H2:Hp} (a:Same H H1) (b:Same H1 H2):Same H H2:=λ c o h=>b c o (a c o h)
theorem Same.free {H H':Hp} (e:Same H H') {l:Addr} (h:H' l=Option.none):H l=Option.none:=by
 cases q:H l with
 |none=>rfl
 |some o =>
  rw[e l o q] at h;cases h
theorem Same.seq {K:Frag}{H H':Hp}{a:Addr}{xs:List V} (e:Same H H') (h:SqL K H a xs):SqL K H' a xs:=by
 rcases h with (h | ⟨o,h⟩) | h
 ·exact .inl (.inl (e _ _ h))
 ·exact .inl (.inr ⟨o,e _ _ h⟩)
 ·exact .inr h
section
variable {κ:Type} [DecidableEq κ]
noncomputable def valV (kvs:List (κ×V)) (k:κ):Option V:=(kvs.find? λ O=>decide (O.1=k)).map (·.2)
noncomputable def G_6 (kvs:List (κ×V)) (k:κ) (v:V):List (κ×V) :=
 if (kvs.any λ O=>decide (O.1=k))=true then kvs.map (λ O=>if O.1=k then (O.1,v) else O) else kvs++[(k,v)]
noncomputable def bv6 (kvs:List (κ×V)) (k:κ):List (κ×V):=kvs.filter λ O=>decide (O.1≠k)
theorem k_6 {p:κ×V}{r:List (κ×V)}{k:κ} (e:p.1=k):valV (p::r) k=some p.2:=by simp[valV,List.find?_cons,e]
theorem k_7 {p:κ×V}{r:List (κ×V)}{k:κ} (e:¬ p.1=k):valV (p::r) k=valV r k:=by simp[valV,List.find?_cons,e]
theorem z_3 (k:κ):∀ kvs:List (κ×V),(kvs.any λ O=>decide (O.1=k))=(valV kvs k).isSome
 |[]=>rfl
 |p::r=>by
  rw[List.any_cons]
  by_cases e:p.1=k
  ·simp only[k_6 e,decide_eq_true e,Bool.true_or,Option.isSome_some]
  ·rw[k_7 e,decide_eq_false e,Bool.false_or];exact z_3 k r
theorem T_4 (k j:κ) (y:V):∀ kvs:List (κ×V),valV (kvs.map λ O=>if O.1=k then (O.1,y) else O) j=(valV kvs j).map λ x=>if j=k then y else x
 |[]=>rfl
 |p::r=>by
  have R:=T_4 k j y r;rw[List.map_cons]
  by_cases h:p.1=k
  ·rw[if_pos h]
   by_cases e:p.1=j
   ·rw[k_6 (p:=(p.1,y)) e,k_6 e,Option.map_some,if_pos (e.symm.trans h)]
   ·rw[k_7 (p:=(p.1,y)) e,k_7 e,R]
  ·rw[if_neg h]
   by_cases e:p.1=j
   ·rw[k_6 (p:=p) e,k_6 e,Option.map_some,if_neg (λ z=>h (e.trans z))]
   ·rw[k_7 (p:=p) e,k_7 e,R]
theorem K_9 (k j:κ) (y:V):∀ kvs:List (κ×V),valV kvs k=none->valV (kvs++[(k,y)]) j=if j=k then some y else valV kvs j
 |[],_=>by
  by_cases e:k=j
  ·rw[if_pos e.symm];exact k_6 (p:=(k,y)) e
  ·rw[if_neg (λ z=>e z.symm)];exact k_7 (p:=(k,y)) e
 |p::r,hn=>by
  rw[List.cons_append];have hk:¬ p.1=k:=λ z=>by rw[k_6 z] at hn;cases hn
  rw[k_7 hk] at hn;have O:=K_9 k j y r hn
  by_cases e:p.1=j
  ·rw[k_6 e,k_6 e,if_neg (λ z=>hk (e.trans z))]
  ·rw[k_7 e,k_7 e,O]
theorem al9 (kvs:List (κ×V)) (k j:κ) (y:V):valV (G_6 kvs k y) j=if j=k then some y else valV kvs j:=by
 unfold G_6
 by_cases a:(kvs.any λ O=>decide (O.1=k))=true
 ·rw[if_pos a,T_4]
  rw[z_3] at a
  by_cases e:j=k
  ·obtain⟨x,R⟩:=Option.isSome_iff_exists.mp a
   rw[if_pos e,e,R,Option.map_some,if_pos rfl]
  ·rw[if_neg e]
   cases valV kvs j with
   |none=>rfl
   |some x=>rw[Option.map_some,if_neg e]
 ·rw[if_neg a]
  refine K_9 k j y kvs ?_;rw[z_3] at a;cases q:valV kvs k with
  |none=>rfl
  |some x=>rw[q] at a;exact (a rfl).elim
theorem t_5 (kvs:List (κ×V)) (k:κ) (v:V):(G_6 kvs k v).length<=kvs.length+1:=by
 unfold G_6
 split
 ·rw[List.length_map];omega
 ·rw[List.length_append,List.length_cons,List.length_nil];omega
theorem RelO.isSome_eq {o:Option V}{u:Option Value} (r:RelO o u):o.isSome=u.isSome:=by
 cases o with
 |none=>cases u with
  |none=>rfl
  |some _=>exact (show False from r).elim
 |some _=>cases u with
  |none=>exact (show False from r).elim
  |some _=>rfl
theorem RelO.getD {o:Option V}{u:Option Value}{d:V}{d':Value} (r:RelO o u) (rd:RelV d d'):RelV (o.getD d) (u.getD d'):=by
 cases o with
 |none=>cases u with
  |none=>exact rd
  |some _=>exact (show False from r).elim
 |some _=>cases u with
  |none=>exact (show False from r).elim
  |some _=>exact r
theorem KV.val {kvs:List (κ×V)}{vs:List (κ×Value)} (r:KV kvs vs) (k:κ):RelO (valV kvs k) (valueAt vs k):=by
 unfold KV at r
 induction r with
 |nil=>exact True.intro
 |@cons p q ps qs h t R =>
  obtain⟨h1,h2⟩:=h
  by_cases e:p.1=k
  ·have O:q.1=k:=h1.symm.trans e
   have b:valueAt (q::qs) k=some q.2:=by simp[valueAt,List.find?_cons,O]
   rw[k_6 e,b];exact h2
  ·have O:¬ q.1=k:=λ z=>e (h1.trans z)
   have b:valueAt (q::qs) k=valueAt qs k:=by simp[valueAt,List.find?_cons,O]
   rw[k_7 e,b];exact R
theorem KV.any {kvs:List (κ×V)}{vs:List (κ×Value)} (r:KV kvs vs) (k:κ):(kvs.any λ O=>decide (O.1=k))=vs.any λ O=>decide (O.1=k):=by
 unfold KV at r
 induction r with
 |nil=>rfl
 |cons h t R=>rw[List.any_cons,List.any_cons,R,h.1]
theorem KV.repl {kvs:List (κ×V)}{vs:List (κ×Value)} (r:KV kvs vs) (k:κ) {y:V}{u:Value} (R:RelV y u) :
  KV (kvs.map λ O=>if O.1=k then (O.1,y) else O) (vs.map λ O=>if O.1=k then (O.1,u) else O):=by
 unfold KV at r ⊢
 induction r with
 |nil=>exact .nil
 |@cons p q ps qs h t Y =>
  rw[List.map_cons,List.map_cons];refine .cons ?_ Y;obtain⟨h1,h2⟩:=h
  by_cases e:p.1=k
  ·rw[if_pos e,if_pos (h1.symm.trans e)];exact⟨h1,R⟩
  ·rw[if_neg e,if_neg (λ z=>e (h1.trans z))];exact⟨h1,h2⟩
theorem KV.put {kvs:List (κ×V)}{vs:List (κ×Value)} (r:KV kvs vs) (k:κ) {y:V}{u:Value} (O:RelV y u):KV (G_6 kvs k y) (stored vs k u):=by
 unfold G_6 stored;rw[r.any k]
 by_cases e:(vs.any λ R=>decide (R.1=k))=true
 ·rw[if_pos e,if_pos e];exact r.repl k O
 ·rw[if_neg e,if_neg e];exact Paired.snoc r ⟨rfl,O⟩
theorem KV.keys {kvs:List (κ×V)}{vs:List (κ×Value)} (r:KV kvs vs):kvs.map (·.1)=vs.map (·.1):=by
 unfold KV at r
 induction r with
 |nil=>rfl
 |cons h t O=>rw[List.map_cons,List.map_cons,O,h.1]
theorem KV.length {kvs:List (κ×V)}{vs:List (κ×Value)} (r:KV kvs vs):kvs.length=vs.length:=Paired.length r
end
theorem aD1 {P:Program}{w:World}{k:Key}{u:Value} (r:RelV (kV k) u):(c_2 P w).is k u=true:=by
 cases k with
 |inl i=>obtain⟨t,e⟩:=(show ∃ t,u=Value.int i t from r);subst e;exact R_8 P w i t
 |inr x=>obtain⟨t,e⟩:=(show ∃ t,u=Value.str x t from r);subst e;exact t_4 P w x t
theorem C_2 {P:Program}{w:World}:∀ {ks:List Key}{us:List Value},Vals (ks.map kV) us->ItemsAre (c_2 P w) ks us
 |[],_,r=>by rw[List.map_nil] at r;cases r;exact .nil
 |k::ks,_,r=>by
  rw[List.map_cons] at r;cases r with
  |cons h t=>exact .cons (aD1 h) (C_2 t)
abbrev KT (H:Hp):List (List Key×V)->List (List Key×Addr×Value)->Prop:=Paired λ p q=>p.1=q.1/\H q.2.1=some (.tup (p.1.map kV))/\RelV p.2 q.2.2
theorem KT.val {H:Hp}{kvs:List (List Key×V)}{xs:List (List Key×Addr×Value)} (r:KT H kvs xs) (k:List Key):RelO (valV kvs k) ((atKey xs k).map (·.2)):=by
 induction r with
 |nil=>exact True.intro
 |@cons p q ps qs h t R =>
  obtain⟨h1,_,h2⟩:=h
  by_cases e:p.1=k
  ·have O:q.1=k:=h1.symm.trans e
   have b:atKey (q::qs) k=some q.2:=by simp[atKey,List.find?_cons,O]
   rw[k_6 e,b];exact h2
  ·have O:¬ q.1=k:=λ z=>e (h1.trans z)
   have b:atKey (q::qs) k=atKey qs k:=by simp[atKey,List.find?_cons,O]
   rw[k_7 e,b];exact R
theorem KT.repl {H:Hp}{kvs:List (List Key×V)}{xs:List (List Key×Addr×Value)} (r:KT H kvs xs) (k:List Key) {y:V}{u:Value} (R:RelV y u) :
  KT H (kvs.map λ O=>if O.1=k then (O.1,y) else O) (xs.map (putAt k u)):=by
 induction r with
 |nil=>exact .nil
 |@cons p q ps qs h t Z =>
  rw[List.map_cons,List.map_cons];refine .cons ?_ Z;obtain⟨h1,h2,Y⟩:=h;unfold putAt
  by_cases e:p.1=k
  ·rw[if_pos e,if_pos (h1.symm.trans e)];exact⟨h1,h2,R⟩
  ·rw[if_neg e,if_neg (λ z=>e (h1.trans z))];exact⟨h1,h2,Y⟩
theorem KT.put {H:Hp}{kvs:List (List Key×V)}{xs:List (List Key×Addr×Value)} (r:KT H kvs xs) (k:List Key) {b:Addr}{y:V}{u:Value} (Y:H b=some (.tup (k.map kV))) (O:RelV y u) :
  KT H (G_6 kvs k y) (storedH xs k b u):=by
 have e:(kvs.any λ R=>decide (R.1=k))=(atKey xs k).isSome:=by
  rw[z_3,(r.val k).isSome_eq,Option.isSome_map]
 unfold G_6 storedH;rw[e]
 by_cases q:(atKey xs k).isSome=true
 ·rw[if_pos q,if_pos q];exact r.repl k O
 ·rw[if_neg q,if_neg q];exact Paired.snoc r ⟨rfl,Y,O⟩
theorem KT.keeps {H H':Hp}{kvs:List (List Key×V)}{xs:List (List Key×Addr×Value)} (r:KT H kvs xs) (ht:∀ b ys,H b=some (.tup ys)->H' b=some (.tup ys)):KT H' kvs xs :=
 Paired.mapP r λ _ _ z=>⟨z.1,ht _ _ z.2.1,z.2.2⟩
section
variable {P:Program}{w:World}{H:Hp}{h:Heap}{a:Addr}
theorem aN4 {u:HO} (ok:HOk P w H h) (e:Rd H a u):ObjOk P w H h a u:=e.ok ok
theorem aG9 {kvs:List (Key×V)} (ok:HOk P w H h) (e:Rd H a (.dK kvs)):kvs.length<=sizeLine/\(a==sysModules)=false/\∃ vs,KV kvs vs/\h.DictOf (c_2 P w) a vs :=
 show ObjOk P w H h a (.dK kvs) from aN4 ok e
theorem bg7 {kvs:List (Key×V)} (ok:HOk P w H h) (e:H a=some (.dK kvs)):kvs.length<=sizeLine/\(a==sysModules)=false/\∃ vs,KV kvs vs/\h.DictOf (c_2 P w) a vs:=aG9 ok (.inl e)
theorem ag1 {ks:List Key} (ok:HOk P w H h) (e:H a=some (.tup (ks.map kV))):(tupleKind (c_2 P w)).is h ks a:=by
 obtain⟨_,O,r,o,h1,h2,⟨n,R⟩,_⟩:=(show ObjOk P w H h a (.tup (ks.map kV)) from ok a _ e);exact⟨o,O.toArray,n,h1,h2,R,by simpa using C_2 r⟩
theorem aG7 {kvs:List (List Key×V)} (ok:HOk P w H h) (e:Rd H a (.dT kvs)):kvs.length<=sizeLine/\(a==sysModules)=false /\
  ∃ xs,KT H kvs xs/\h.DictOfH (tupleKind (c_2 P w)) a xs:=by
 obtain⟨z,y,xs,r,o,es,Y,h1,h2,Z,h4,h5⟩:=(show ObjOk P w H h a (.dT kvs) from aN4 ok e);refine⟨z,y,xs,r,o,es,Y,h1,h2,Z,h4,λ x O=>?_,h5⟩
 have all:∀ {l:List (List Key×V)}{m:List (List Key×Addr×Value)},KT H l m->∀ x∈m,(tupleKind (c_2 P w)).is h x.1 x.2.1:=by
  intro l m q
  induction q with
  |nil=>intro x O;exact nomatch O
  |@cons p q ps qs R t ih =>
   intro x O
   rcases qv O with e | O
   ·subst e
    exact ag1 ok (by rw[<- R.1];exact R.2.1)
   ·exact ih x O
 exact all r x O
theorem bg3 {kvs:List (List Key×V)} (ok:HOk P w H h) (e:H a=some (.dT kvs)):kvs.length<=sizeLine/\(a==sysModules)=false /\
  ∃ xs,KT H kvs xs/\h.DictOfH (tupleKind (c_2 P w)) a xs:=aG7 ok (.inl e)
end
noncomputable def DGet (H:Hp) (a:Addr) (y:V) (r:Option V):Prop :=
 (∃ kvs k,Rd H a (.dK kvs)/\y=kV k/\r=valV kvs k)\/∃ kvs k b,Rd H a (.dT kvs)/\y=.ref b/\H b=some (.tup (k.map kV))/\r=valV kvs k
noncomputable def DPut (H:Hp) (a:Addr) (y v:V) (H':Hp):Prop :=
 (∃ kvs k,H a=some (.dK kvs)/\y=kV k/\kvs.length<sizeLine/\H'=upd H a (.dK (G_6 kvs k v))) \/
 ∃ kvs k b,H a=some (.dT kvs)/\y=.ref b/\H b=some (.tup (k.map kV))/\kvs.length<sizeLine/\H'=upd H a (.dT (G_6 kvs k v))
theorem DGet.k {H:Hp}{a:Addr}{kvs:List (Key×V)}{k:Key} (e:H a=some (.dK kvs)):DGet H a (kV k) (valV kvs k):=.inl ⟨kvs,k,.inl e,rfl,rfl⟩
theorem DGet.t {H:Hp}{a b:Addr}{kvs:List (List Key×V)}{k:List Key} (e:H a=some (.dT kvs)) (O:H b=some (.tup (k.map kV))):DGet H a (.ref b) (valV kvs k):=.inr ⟨kvs,k,b,.inl e,rfl,O,rfl⟩
theorem DPut.k {H:Hp}{a:Addr}{kvs:List (Key×V)}{k:Key}{v:V} (e:H a=some (.dK kvs)) (hl:kvs.length<sizeLine):DPut H a (kV k) v (upd H a (.dK (G_6 kvs k v))):=.inl ⟨kvs,k,e,rfl,hl,rfl⟩
theorem DPut.t {H:Hp}{a b:Addr}{kvs:List (List Key×V)}{k:List Key}{v:V} (e:H a=some (.dT kvs)) (O:H b=some (.tup (k.map kV))) (hl:kvs.length<sizeLine) :
  DPut H a (.ref b) v (upd H a (.dT (G_6 kvs k v))):=.inr ⟨kvs,k,b,e,rfl,O,hl,rfl⟩
section
variable {X:Cx}{pins:List (Addr×Obj)}{σ:St}{H:Hp}{s:Shared}{a:Addr}{y v:V}{u r:Value}{o:Option V}{A:Around}{E:Value->Shared->Prop}
theorem Inv.big (I:Inv X pins σ H s):sysModules<s.heap.objs.size:=by
 have h:mainGlobals<s.heap.objs.size:=(I.mod.glob.keeps I.bk).lt;exact Nat.lt_trans (by decide) h
theorem ai3 {h':Heap}{t':Nat}{ob:HO} (I:Inv X pins σ H s) (R:Mut (H a)) (O:Heap.SameBut a s.heap h') (Z:∃ q,h'.get? a=some q) (new:ObjOk X.prog X.w (upd H a ob) h' a ob) :
  Inv X pins σ (upd H a ob) {s with heap:=h',toks:=t'} :=
 I.write (x:=a) (e:=a) R (.inl rfl) (λ b q Y z=>(O.2 b Y).trans z) Z new
theorem aU2 {P:Program}{w:World}{H':Hp}{h':Heap}{kvs:List (Key×V)}{vs:List (Key×Value)} (z:kvs.length<=sizeLine) (R:(a==sysModules)=false) (O:KV kvs vs) (Y:h'.DictOf (c_2 P w) a vs) :
  ObjOk P w H' h' a (.dK kvs):=⟨z,R,vs,O,Y⟩
theorem ai4 {H':Hp}{Q:Unit->Shared->Prop} (hu:A.units+1<cLine) (I:Inv X pins σ H s) (g:DPut H a y v H') (ry:RelV y u) (rv:RelV v r) (h:∀ s',Inv X pins σ H' s'->Q () s') :
  wpAny (model X.prog X.w) A (setItem (.ref a) u r) Q E s:=by
 rcases g with ⟨kvs,k,e,ey,l,eH⟩ | ⟨kvs,k,b,e,ey,eb,l,eH⟩
 ·subst ey eH
  obtain⟨z,hd,vs,O,dd⟩:=bg7 I.hok e;have Z:vs.length<=sizeLine:=by rw[<- O.length];exact z
  have hl:(G_6 kvs k v).length<=sizeLine:=by have:=t_5 kvs k v;omega
  refine wpAny_setItem_pairs (hsz:=Z) (aD1 ry) dd λ h' R hs=>h _ ?_
  have he:∃ q,h'.get? a=some q:=let ⟨q,_,_,Y,_⟩:=R;⟨q,Y⟩;exact ai3 I (by rw[e];exact True.intro) hs he (aU2 hl hd (O.put k rv) R)
 ·subst ey eH
  cases (show u=Value.ref b from ry);obtain⟨z,hd,xs,O,dd⟩:=bg3 I.hok e;have Z:xs.length<=sizeLine:=by rw[<- Paired.length O];exact z
  have hl:(G_6 kvs k v).length<=sizeLine:=by have:=t_5 kvs k v;omega
  refine wpAny_setItem_heap (hsz:=Z) (tupleKind_room_in1 hu) (ag1 I.hok eb) dd λ h' R hs=>h _ ?_
  obtain⟨q,es,ep,Y,h2,h3,h4,_,h5⟩:=R;refine ai3 I (by rw[e];exact True.intro) hs ⟨q,Y⟩ ⟨hl,hd,_,(O.put k eb rv).keeps λ c ys ec=>?_,q,es,ep,Y,h2,h3,h4,h5⟩
  rw[a_8 (Z_5 ec e (λ z=>nomatch z))]
  exact ec
end
noncomputable def az3 (td ty tv:TE):TS:=λ D σ H=>tv σ H λ v H1=>td σ H1 λ x H2=>ty σ H2 λ y R=>∃ a O,x=.ref a/\DPut R a y v O/\D.nx σ O
section
variable {X:Cx}{o i e value:Expr}{pos pos' tpos:Pos}{td ty tv:TE}
theorem aA3 (hu:X.A.units+1<cLine) (ho:PE X o td) (hi:PE X i ty) (hv:PE X value tv) (hs:swapsWith value (some (.Subscript o i pos')) pos.line X.env=pure false) :
  PS X (.Assign [.Subscript o i pos'] value pos) (az3 td ty tv):=by
 intro pins s σ H D I h;refine wpAny_Assign_Subscript (thn (hv pins s σ H _ I h) λ r s1 ⟨v,H1,I1,rv,q1⟩=>thn (ho pins s1 σ H1 _ I1 q1) λ u R ⟨x,H2,Z,rx,Y⟩=>thn (hi pins R σ H2 _ Z Y) λ iv s3 O=>?_) hs
 obtain⟨y,H3,I3,ry,a,H4,ex,g,q3⟩:=O;subst ex;obtain rfl:u=Value.ref a:=rx;exact ai4 hu I3 g ry rv λ s4 I4=>⟨σ,H4,I4,q3⟩
end
theorem aq7 {P:Program}{w:World}{H:Hp} (h:Heap) (O:sysModules<h.objs.size):ObjOk P w H (h.push {cls:=.type "dict",data:=.dict #[]}) h.objs.size (.dK []) :=
 ⟨Nat.zero_le _,beq_eq_false_iff_ne.mpr (Ne.symm (qt O)),[],.nil,Heap.DictOf.new h⟩
noncomputable def aL6:TE:=λ _ H Q=>∀ p,H p=none->Q (.ref p) (upd H p (.dK []))
section
variable {X:Cx}{pos:Pos}
theorem ao6:PE X (.Dict [] [] pos) aL6:=λ pins s σ H Q I h =>
 wpAny_Dict_empty ⟨.ref s.heap.objs.size,_,I.laid (a:=s.heap.objs.size) (o:=.dK []) (t':=s.toks) (λ _ _ q=>qd _ q) (qj _) (aq7 s.heap I.big),rfl,h _ (I.hok.fresh (qj _))⟩
end
structure M1 (X:Cx) (o:Expr) (m:Str) (apos:Pos) (e:Expr) (cpos:Pos):Prop where
 base:attributeBase o m X.env (eval o X.env)=eval o X.env
 few:((backTo cpos (starEach [e] X.env)).all (λ x=>!x.1)&&(backToKw cpos (keywordEach [] X.env)).all (λ x=>x.1.isSome)
  && decide (([e]:List Expr).length+([]:List Keyword).length+(if ([]:List Keyword).isEmpty then 0 else 1)<30))=true
 line:(apos.endLine==cpos.line)=true
 trees:backTo cpos (starEach [e] X.env)=[(false,eval e X.env)]
structure M2 (X:Cx) (o:Expr) (m:Str) (apos:Pos) (e f:Expr) (cpos:Pos):Prop where
 base:attributeBase o m X.env (eval o X.env)=eval o X.env
 few:((backTo cpos (starEach [e,f] X.env)).all (λ x=>!x.1)&&(backToKw cpos (keywordEach [] X.env)).all (λ x=>x.1.isSome)
  && decide (([e,f]:List Expr).length+([]:List Keyword).length+(if ([]:List Keyword).isEmpty then 0 else 1)<30))=true
 line:(apos.endLine==cpos.line)=true
 trees:backTo cpos (starEach [e,f] X.env)=[(false,eval e X.env),(false,eval f X.env)]
noncomputable def IsD (H:Hp) (a:Addr):Prop:=(∃ kvs,Rd H a (.dK kvs))\/∃ kvs,Rd H a (.dT kvs)
theorem aS6 {X:Cx}{pins:List (Addr×Obj)}{σ:St}{H:Hp}{s:Shared}{a:Addr} (I:Inv X pins σ H s) (d:IsD H a) :
  s.TypeIs (.ref a) "dict" ∧ (∀ b,Value.ref a=.ref b → ∃ ob,s.heap.get? b=some ob ∧ ob.dict=none) ∧ (a==sysModules)=false:=by
 rcases d with ⟨kvs,e⟩ | ⟨kvs,e⟩
 ·obtain⟨_,R,vs,_,O⟩:=aG9 I.hok e
  refine⟨O.typeIs,λ b q=>?_,R⟩
  cases q;obtain⟨ob,_,_,h1,h2,_⟩:=O;exact⟨ob,h1,h2.2.1⟩
 ·obtain⟨_,R,xs,_,O⟩:=aG7 I.hok e
  refine⟨O.typeIs,λ b q=>?_,R⟩
  cases q;obtain⟨ob,_,_,h1,h2,_⟩:=O;exact⟨ob,h1,h2.2.1⟩
section
variable {X:Cx}{pins:List (Addr×Obj)}{σ:St}{H:Hp}{s:Shared}{a:Addr}{y d:V}{u r:Value}{o:Option V}{A:Around}{E:Value->Shared->Prop}
theorem aU3 {Q:Value->Shared->Prop} (hu:A.units+1<cLine) (I:Inv X pins σ H s) (g:DGet H a y o) (ry:RelV y u) (h:∀ Z s',Inv X pins σ H s'->RelV (o.getD .non) Z->Q Z s') :
  wpAny (model X.prog X.w) A (call (.builtin "dict.get") [.ref a,u]) Q E s:=by
 rcases g with ⟨kvs,k,e,ey,l⟩ | ⟨kvs,k,b,e,ey,eb,l⟩
 ·subst ey
  obtain⟨z,Y,vs,O,R⟩:=aG9 I.hok e;refine call_meetsIn PySem.F.slot_dict_get R.typeIs PySem.F.entry_dict_get (PySem.F.args_dict_get_2 _ _) (meets_dict_get (c_2 X.prog X.w) a (aD1 ry) Y) ⟨_,R.mapOf,h _ _ (I.tok _) ?_⟩;rw[l];exact (O.val k).getD rfl
 ·subst ey
  cases (show u=Value.ref b from ry);obtain⟨z,Y,xs,O,R⟩:=aG7 I.hok e;refine call_meetsIn PySem.F.slot_dict_get R.typeIs PySem.F.entry_dict_get (PySem.F.args_dict_get_2 _ _) (meetsH_dict_get (tupleKind (c_2 X.prog X.w)) a b Y) ⟨tupleKind_room_in1 hu,k,xs,ag1 I.hok eb,R,h _ _ (I.tok _) ?_⟩;rw[l];exact (O.val k).getD rfl
end
noncomputable def at6 (td ty:TE):TE:=λ σ H Q=>td σ H λ x H1=>∃ a,x=.ref a/\IsD H1 a/\ty σ H1 λ y H2=>∃ o,DGet H2 a y o/\Q (o.getD .non) H2
section
variable {X:Cx}{o e f:Expr}{apos cpos:Pos}{td ty tx:TE}
theorem ao7 (hu:X.A.units+1<cLine) (ho:PE X o td) (he:PE X e ty) (m:M1 X o "get" apos e cpos):PE X (.Call (.Attribute o "get" apos) [e] [] cpos) (at6 td ty):=by
 intro pins s σ H Q I h;refine wpAny_Call_method m.base m.few m.line PySem.F.plainAttrs_dict PySem.F.slot_dict_get PySem.F.type_dict_get (thn (ho pins s σ H _ I h) λ u s1 O=>?_)
 obtain⟨x,H1,Y,rx,a,ex,d,q1⟩:=O;subst ex;obtain rfl:u=Value.ref a:=rx;obtain⟨Z,t2,_⟩:=aS6 Y d;refine⟨Z,t2,?_⟩;rw[m.trees];refine Calls.callWith_builtin rfl (Calls.evalArgs_plain (Calls.spliced_cons (thn (he pins s1 σ H1 _ Y q1) λ iv s2 ⟨y,H2,I2,ry,ov,g,q2⟩=>Calls.spliced_nil ?_)))
 exact aU3 hu I2 g ry λ w' s3 I3 R=>⟨_,H2,I3,R,q2⟩
end
end L2
namespace Att
open PySem PySem.W PySem.Calls PyProof.Rows
end Att
namespace L2
open PySem PySem.Spec PyProof.Rows
theorem z_1 {a b:Addr}{n:Nat} (h:a<n) (h':n<=b):a≠b:=qt (qr h h')
theorem av0 {a b:Addr}{n:Nat} (h:a<n) (h':n<=b):b≠a:=(z_1 h h').symm
noncomputable def P_9 (cells:List (Str×Addr)):List (Str×NameKind)->List (Str×Addr)->List (Str×Addr)
 |[],acc=>acc
 |(n,k)::r,acc=>P_9 cells r (if (k==NameKind.free)=true then (n,(cells.lookup n).getD 0)::acc else acc)
theorem w_7 {env:Env}:∀ (l:List (Str×NameKind)) (O:List (Str×Addr)),(∀ y∈l,y.2=.free->∃ c,env.cells.lookup y.1=some c) ->
  (forIn l O λ (y:Str×NameKind) (Y:List (Str×Addr))=>(match y with
   |(name,kind)=>if (kind==NameKind.free)=true then do let c <- cellOf env name;pure (ForInStep.yield ((name,c)::Y)) else pure (ForInStep.yield Y):Sem _))=pure (P_9 env.cells l O)
 |[],O,_=>rfl
 |(n,k)::r,O,h=>by
  rw[List.forIn_cons];unfold P_9
  by_cases e:(k==NameKind.free)=true
  ·have Z:k=NameKind.free:=by simpa using e
   obtain⟨c,hc⟩:=h (n,k) qg Z;simp only[e,if_true,cellOf,hc,pure_bind,Option.getD_some];exact w_7 r _ λ y R=>h y (qh _ R)
  ·simp only[e,if_false,pure_bind]
   exact w_7 r _ λ y R=>h y (qh _ R)
theorem F_7 {sc:Scope}{env:Env} (h:∀ y∈sc.names,y.2=.free->∃ c,env.cells.lookup y.1=some c):closureFor sc env=pure (P_9 env.cells sc.names []):=by
 have e:=w_7 (env:=env) sc.names [] h;simp only[closureFor];exact (bind_pure _).trans e
theorem J_5 {cells:List (Str×Addr)}{y:Str}{c:Addr}:∀ (l:List (Str×NameKind)) (O:List (Str×Addr)),(∀ y∈l,y.2=.free->∃ c,cells.lookup y.1=some c) ->
  (P_9 cells l O).lookup y=some c->cells.lookup y=some c\/O.lookup y=some c
 |[],O,_,e=>.inr e
 |(n,k)::r,O,h,e=>by
  unfold P_9 at e;have hr:∀ y∈r,y.2=.free->∃ c,cells.lookup y.1=some c:=λ y hy=>h y (qh _ hy)
  rcases J_5 r _ hr e with q | q
  ·exact .inl q
  ·by_cases z:(k==NameKind.free)=true
   ·rw[if_pos z] at q
    rw[List.lookup_cons] at q;cases Y:y==n with
    |true =>
     rw[Y] at q;obtain⟨c',Z⟩:=h (n,k) qg (by simpa using z)
     have R:cells.lookup n=some c':=Z;rw[R] at q;have e1:y=n:=by simpa using Y
     have q':c'=c:=qi q;exact .inl (by rw[e1,R,q'])
    |false =>
     rw[Y] at q;exact .inr q
   ·rw[if_neg z] at q
    exact .inr q
theorem v_2 {cells:List (Str×Addr)}{y:Str}:∀ (l:List (Str×NameKind)) (O:List (Str×Addr)),((y,NameKind.free)∈l\/∃ c,O.lookup y=some c)->∃ c,(P_9 cells l O).lookup y=some c
 |[],O,h=>by
  rcases h with h | h
  ·cases h
  ·exact h
 |(n,k)::r,O,h=>by
  unfold P_9
  have R:∀ v:Addr,(∃ c,O.lookup y=some c)->∃ c,((n,v)::O).lookup y=some c:=λ v Y=>by
   obtain⟨c,Z⟩:=Y;rw[List.lookup_cons];cases y==n with
   |true=>exact⟨v,rfl⟩
   |false=>exact⟨c,Z⟩
  rcases h with h | h
  ·rcases qv h with e | h
   ·have e1:y=n:=congrArg Prod.fst e
    have e2:NameKind.free=k:=congrArg Prod.snd e;subst e1 e2;refine v_2 r _ (.inr ?_);rw[if_pos (by rfl)]
    refine⟨(cells.lookup y).getD 0,?_⟩;rw[List.lookup_cons];simp
   ·exact v_2 r _ (.inl h)
  ·refine v_2 r _ (.inr ?_)
   split
   ·exact R _ h
   ·exact h
theorem L_9 {scope:Scope}{env:Env}{y:Str}{k:NameKind} (Y:∀ z∈scope.names,z.2≠.cell) (h:(relabel scope env).names.lookup y=some k) (hk:k=.cell\/k=.free):(y,NameKind.free)∈scope.names:=by
 have m:=PySem.mem_of_lookup h;unfold relabel at m;obtain⟨⟨n,R⟩,O,e⟩:=List.mem_map.mp m;dsimp only at e
 split at e
 ·rename_i z
  have e1:n=y:=congrArg Prod.fst e
  have Z:R=NameKind.free:=by
   simp only[Bool.and_eq_true] at z
   simpa using z.1.1
  subst e1 Z;exact O
 ·have e1:n=y:=congrArg Prod.fst e
  have e2:R=k:=congrArg Prod.snd e;subst e1 e2
  rcases hk with z | z
  ·exact absurd z (Y _ O)
  ·rw[z] at O;exact O
theorem F_2 {env:Env} (hf:env.scope.kind=.function):∀ {names:List (Str×NameKind)}{y:Str},names.lookup y=some .free->env.kindOf y=some .cell ->
  (names.map λ (n,k)=>if (k==NameKind.free&&env.scope.kind==.function&&env.kindOf n==some .cell) then (n,NameKind.cell) else (n,k)).lookup y=some .cell
 |[],_,h,_=>by simp at h
 |(n,k)::r,y,h,hk=>by
  have R:=@F_2 env hf r y;rw[List.map_cons];cases O:y==n with
  |true =>
   have e:y=n:=by simpa using O
   subst e;rw[List.lookup_cons,O] at h;have h':k=NameKind.free:=qi h;subst h';simp[hf,hk,List.lookup_cons]
  |false =>
   rw[List.lookup_cons,O] at h;show List.lookup y ((if (k==NameKind.free&&env.scope.kind==.function&&env.kindOf n==some .cell)=true then (n,NameKind.cell) else (n,k))::_)=_
   by_cases z:(k==NameKind.free&&env.scope.kind==.function&&env.kindOf n==some .cell)=true
   ·rw[if_pos z,List.lookup_cons,O];exact R h hk
   ·rw[if_neg z,List.lookup_cons,O];exact R h hk
structure ScB (N:List Str) (sc scope:Scope) (x:Str) (frees:List Str) (js:List Nat):Prop where
 kind:scope.kind=.function
 fk:sc.kind=.function
 cells:∀ y∈scope.names,y.2≠.cell
 locs:∀ y∈scope.names,y.2=.local->scope.names.lookup y.1=some .local
 own:scope.names.lookup x=some .local
 fr:∀ y∈scope.names,y.2=.free->sc.names.lookup y.1=some .cell
 nd:(x::frees).Nodup
 ln:frees.length=js.length
 zp:∀ p∈frees.zip js,N[p.2]?=some p.1/\sc.names.lookup p.1=some .cell/\scope.names.lookup p.1=some .free
noncomputable def cxB (X:Cx) (N:List Str) (scope:Scope) (s:Shared) (H:Hp) (C:Addr) (O:List Addr):Cx where
 prog:=X.prog
 w:=X.w
 K:=X.K
 mg:=X.mg
 base:=X.base
 A:=X.A
 N:=N
 s₀:=s
 H₀:=H
 env:=compEnvC scope (P_9 X.env.cells scope.names []) C X.env
 outer:=X.stack
 stack:=X.stack
 ex:=O
 fn:=λ _=>false
 calm:=X.calm
 pn:=[]
 xe:=λ _ _=>False
noncomputable def frv (σ:St) (js:List Nat):St:=js.map λ j=>(σ[j]?).join
noncomputable def PTs (X:Cx) (ifs:List Expr) (t:TT):Prop :=
 ∀ (pins:List (Addr×Obj)) (s:Shared) (σ:St) (H:Hp) (Q:Bool->Hp->Prop),Inv X pins σ H s->t σ H Q ->
  wpAny (model X.prog X.w) X.A (forIn ifs true λ c r=>if r=true then do let ok <- isTrue c X.env (eval c X.env);pure (ForInStep.yield ok) else pure (ForInStep.yield r)) (TP X pins σ Q) X.xe s
noncomputable def tYes:TT:=λ _ H Q=>Q true H
theorem aA1 {X:Cx}:PTs X [] tYes:=λ _ _ _ H _ I h=>wpAny_tests_nil ⟨H,I,h⟩
theorem aA0 {X:Cx}{c:Expr}{t:TT} (h:PT X c t):PTs X [c] t:=λ pins s σ H Q I q=>wpAny_tests_one (h pins s σ H Q I q)
noncomputable def LcW (js:List Nat) (tt:TT) (te:TE) (σ:St) (Q:List V->Hp->Prop) (J:It) (H1:Hp):Prop :=
 ∃ W:Nat->Nat->List V->Hp->Prop,(∃ m,W 0 m [] H1)/\∀ i m ys H,W i m ys H ->
  (J.stop i H/\ys.length<=sizeLine/\Q ys H) \/
  (J.go i H/\ys.length<sizeLine/\∀ x H',J.yld i H x H'->tt (some x::frv σ js) H' λ b H2 =>
   if b=true then te (some x::frv σ js) H2 λ v R=>∃ O,O<m/\W (i+1) O (ys++[v]) R else ∃ O,O<m/\W (i+1) O ys H2)
section
variable {X:Cx}{pins:List (Addr×Obj)}{σ:St}{H:Hp}{s:Shared}{x:Str}{scope sc:Scope}{frees:List Str}{js:List Nat}
theorem V_7 (I:Inv X pins σ H s) (O:X.env.scope=sc) (B:ScB X.N sc scope x frees js):∀ y∈scope.names,y.2=.free->∃ c,X.env.cells.lookup y.1=some c:=λ y R hf =>
 I.ok.has y.1 (.inl (show X.env.scope.names.lookup y.1=some .cell by rw[O];exact B.fr y R hf))
theorem ab9 {α O:Type}:∀ {l:List α}{r:List O}{k:Nat}{a:α},l.length=r.length->l[k]?=some a->∃ b,r[k]?=some b/\(a,b)∈l.zip r
 |[],_,_,_,_,h=>by simp at h
 |_::_,[],_,_,hl,_=>by simp at hl
 |a'::l,b'::r,0,a,_,h=>by
  simp at h;subst h;exact⟨b',rfl,by simp⟩
 |a'::l,b'::r,k+1,a,hl,h=>by
  obtain⟨b,h1,h2⟩:=ab9 (l:=l) (r:=r) (k:=k) (a:=a) (by simpa using hl) (by simpa using h)
  exact⟨b,by simpa using h1,by rw[List.zip_cons_cons];exact qh _ h2⟩
theorem ak1 {fp:List Addr}{O:Heap}{C D:Addr}{tk:Nat}{mC:Str->Option Value}{oD:Obj} (I:Inv X pins σ H s) (Z:X.env.scope=sc) (B:ScB X.N sc scope x frees js) (hf:∀ b∈fp,X_9 X pins H b) (ae:∀ b∈fp,b<s.heap.objs.size)
  (hC:s.heap.objs.size<=C) (hD:s.heap.objs.size<=D) (af:D≠C) (R:∀ b o,s.heap.get? b=some o->O.get? b=some o) (ns:O.Ns C mC) (gD:O.get? D=some oD) (nD:∀ v,oD.data≠.cell v) :
  Inv (cxB X (x::frees) scope s H C fp) (pins++[(D,oD)]) (none::frv σ js) H {s with heap:=O,toks:=tk}:=by
 have lc:=V_7 I Z B
 have sub:∀ y c,(P_9 X.env.cells scope.names []).lookup y=some c->X.env.cells.lookup y=some c:=λ y c e=>by
  rcases J_5 scope.names [] lc e with q | q
  ·exact q
  ·cases q
 have ah:∀ y c,X.env.cells.lookup y=some c->c<s.heap.objs.size:=λ y c e=>by
  obtain⟨v,q⟩:=I.cell y c e;exact q.lt
 have ac:∀ b∈fp,(b∈X.ex\/X.s₀.heap.objs.size<=b):=λ b Y=>(hf b Y).2.2.2.1
 obtain⟨m,hn,hl⟩:=I.loc;refine⟨⟨I.ok.mod,B.kind,I.ok.glob,I.ok.blt,hC,?_,?_,?_,I.ok.hd,I.ok.frames,.inl rfl,?_,?_,Nat.le_trans I.ok.bsz I.sz,?_,?_,I.stack,I.stkFree⟩,rfl,I.bare,Un.kept R,⟨mC,ns,?_⟩,?_,I.hok.fresh hC,?_,?_,I.hok.kept R,?_⟩
 ·exact λ y z c e1 e2=>I.ok.inj y z c (sub y c e1) (sub z c e2)
 ·intro y hy
  have hm:(y,NameKind.free)∈scope.names:=by
   rcases hy with q | q
   ·exact L_9 (env:=X.env) B.cells q (.inl rfl)
   ·exact L_9 (env:=X.env) B.cells q (.inr rfl)
  exact v_2 scope.names [] (.inl hm)
 ·exact λ y c z _=>absurd z Bool.false_ne_true
 ·intro b Y
  refine⟨λ z=>?_,λ y c e z=>(hf b Y).2.2.2.2.1 y c (sub y c e) z⟩
  have z':b=C:=z;exact absurd (qr (ae b Y) hC) (by rw[z'];exact Nat.lt_irrefl _)
 ·exact λ b o e=>I.bs b o e
 ·intro b o e Y
  rcases ac b Y with z | z
  ·exact I.ok.noex b o e z
  ·exact absurd (qr (qm (I.ok.bs b o e).1) z) (Nat.lt_irrefl _)
 ·intro b Y z
  rcases qv (I.stkSub b z) with e | e
  ·exact (hf b Y).2.1 e
  ·exact (hf b Y).2.2.1 e
 ·intro i y v e1 e2 e3
  cases i with
  |zero=>simp at e2
  |succ k =>
   have ad:frees[k]?=some y:=by
    have e0:(x::frees)[k+1]?=some y:=e1
    simpa using e0
   obtain⟨j,hj,hz⟩:=ab9 B.ln ad;obtain⟨z1,z2,z3⟩:=B.zp _ hz;have aa:(frv σ js)[k]?=some (some v):=by simpa using e2
   have e4:σ[j]?=some (some v):=by
    unfold frv at aa;rw[List.getElem?_map,hj] at aa;have e5:(σ[j]?).join=some v:=qi aa;cases q:σ[j]? with
    |none=>rw[q] at e5;cases e5
    |some w'=>rw[q] at e5;cases w' with
     |none=>cases e5
     |some w2=>cases e5;rfl
   have kX:X.env.kindOf y=some .cell:=by show X.env.scope.names.lookup y=_;rw[Z];exact z2
   obtain⟨u,r,q⟩:=hl j y v z1 e4 (.inr (.inl kX));refine⟨u,r,?_⟩
   rcases q with ⟨q,_⟩ | ⟨_,c,ec,ic⟩
   ·rw[kX] at q;cases q
   ·have kY:(compEnvC scope (P_9 X.env.cells scope.names []) C X.env).kindOf y=some .cell:=F_2 (env:=X.env) (by rw[Z];exact B.fk) z3 kX
    refine .inr ⟨.inl kY,c,?_,?_⟩
    ·obtain⟨c',ab⟩:=v_2 (cells:=X.env.cells) scope.names [] (.inl (PySem.mem_of_lookup z3))
     have:=sub y c' ab;rw[ec] at this;cases this;exact ab
    ·obtain⟨o,ho,hd⟩:=ic
     exact⟨o,R c o ho,hd⟩
 ·intro y c e
  obtain⟨v,o,ho,hd⟩:=I.cell y c (sub y c e);exact⟨v,o,R c o ho,hd⟩
 ·exact λ y c e=>I.freeC y c (sub y c e)
 ·intro p hp
  have ag:p∈pins++[(D,oD)]:=by simpa [cxB] using hp
  rcases qw ag with z | z
  ·obtain⟨a1,a2,a3,a4,a5⟩:=I.pin p (qo _ z)
   refine⟨R _ _ a1,a2,λ e=>?_,λ e=>?_,a5⟩
   ·exact absurd (qr (qm a1) hC) (by rw[show p.1=C from e];exact Nat.lt_irrefl _)
   ·rcases qv (I.stkSub p.1 e) with e | e
    ·exact a3 e
    ·exact a4 e
  ·have z':p=(D,oD):=by simpa using z
   subst z';refine⟨gD,I.hok.fresh hD,af,λ e=>?_,nD⟩
   rcases qv (I.stkSub D e) with e | e
   ·exact absurd (qr I.lt hD) (by rw[show D=X.env.locals from e];exact Nat.lt_irrefl _)
   ·exact I.nofs hD e
 ·show (none::frv σ js).length=(x::frees).length
  rw[List.length_cons,List.length_cons,B.ln,frv,List.length_map]
end
theorem aa8 {prog:Program}{w:World}{A:Around}{R:Result->Shared->Prop}{s:Shared}{elt O iter:Expr}{ifs:List Expr}{scope:Scope}{pos:Pos}{it Y:Value}{env:Env} (I:Nat->Shared->Prop)
  (Z:∀ n s,I n s->wpAny (model prog w) A (pyNext it) (λ r s1=>match r with
   |none=>R (.ok .next) s1
   |some v=>wpAny (model prog w) A (letOwnedTupleGo O it v) (λ _ s2=>wpAny (model prog w) A (assign O env v) (λ _ s3 =>
     wpAny (model prog w) A (forIn ifs true λ c r=>if r=true then do let ok <- isTrue c env (eval c env);pure (ForInStep.yield ok) else pure (ForInStep.yield r)) (λ ok s4 =>
      if ok=true then wpAny (model prog w) A (eval elt env) (λ y s5=>wpAny (model prog w) A (call (.builtin "list.append") [Y,y]) (λ _ s6=>∃ m,m<n ∧ I m s6) (λ _ _=>False) s5) (λ _ _=>False) s4
      else ∃ m,m<n/\I m s4) (λ _ _=>False) s3) (λ _ _=>False) s2) (λ _ _=>False) s1) (λ _ _=>False) s)
  (n:Nat) (h:I n s):codeAny (model prog w) A (.compLoop (.ListComp elt [⟨O,iter,ifs,0⟩] scope pos) 0 it Y env) R s:=by
 refine codeAny_loop rfl I (λ n s hI=>?_) n h
 show wpAny _ A ((compTurn (.ListComp elt [⟨O,iter,ifs,0⟩] scope pos) 0 it Y env).onRaise (λ x=>do noteFrame x env;theTreesLotGoes x)) _ _ s
 refine wpAny_noted ?_;rw[compTurn_list];refine qb (wpAny_standAt (qb (wpAny_mono (Z n s hI) (λ r s1 h1=>?_) λ _ _ z=>z.elim)))
 cases r with
 |none=>exact qc h1
 |some v =>
  refine qb (wpAny_mono h1 (λ _ s2 h2=>?_) λ _ _ z=>z.elim)
  refine qb (wpAny_mono h2 (λ _ s3 h3=>?_) λ _ _ z=>z.elim)
  refine qb (wpAny_mono h3 (λ ok s4 h4=>?_) λ _ _ z=>z.elim)
  cases ok with
  |false=>exact qc ⟨rfl,h4⟩
  |true =>
   refine qb (qb (wpAny_mono h4 (λ y s5 h5=>?_) λ _ _ z=>z.elim))
   exact qb (wpAny_mono h5 (λ _ s6 h6=>qc (qc ⟨rfl,h6⟩)) λ _ _ z=>z.elim)
section
variable {X:Cx}{pins:List (Addr×Obj)}{σ:St}{H:Hp}{s:Shared}{x:Str}{scope sc:Scope}{frees:List Str}{js:List Nat}{elt iter:Expr}{ifs:List Expr}{px pos:Pos}{tt:TT}{te:TE}{E:Value->Shared->Prop}
abbrev ab7 (O:List Value) (n:Nat):Obj:={cls:=.type "list",data:=.seq O.toArray n}
noncomputable def LcG (tg:TG) (Y:St) (tt:TT) (te:TE) (Q:List V->Hp->Prop) (J:It) (H1:Hp):Prop :=
 ∃ W:Nat->Nat->List V->Hp->Prop,(∃ m,W 0 m [] H1)/\∀ i m ys H,W i m ys H ->
  (J.stop i H/\ys.length<=sizeLine/\Q ys H) \/
  (J.go i H/\ys.length<sizeLine/\∀ x H',J.yld i H x H'->tg x Y H' λ O H'=>(Y.length=O.length/\∀ (j:Nat) v,Y[j]?=some (some v)->O[j]?=some (some v))/\tt O H' λ b H2 =>
   if b=true then te O H2 λ v Z=>∃ R,R<m/\W (i+1) R (ys++[v]) Z else ∃ R,R<m/\W (i+1) R ys H2)
theorem aC8 {ah:Expr}{N':List Str}{τ:St}{tg:TG}{it:Addr}{Y:List Addr}{tn:Nat->Heap->Prop}{J:It}{Qe:List V->Hp->Prop}{RR:Value->Addr->Result->Shared->Prop} (I:Inv X pins σ H s) (hc:X.calm=true) (ba:X.env.scope=sc) (B:ScB X.N sc scope x frees js)
  (T:Turn X.prog X.w X.K ah J Y it tn) (st:tn 0 s.heap) (f:∀ b∈Y,X_9 X pins H b) (S0:∀ {C pl H' s'},Inv (cxB X (x::frees) scope s H C Y) pl (none::frv σ js) H' s'->Inv (cxB X N' scope s H C Y) pl τ H' s') (hg:∀ C,PG (cxB X N' scope s H C Y) ah tg) (hW:LcG tg τ tt te Qe J H)
  (ht:∀ s H C Y,PTs (cxB X N' scope s H C Y) ifs tt) (he:∀ s H C Y,PE (cxB X N' scope s H C Y) elt te)
  (hR:∀ (D C:Addr) (s':Shared) (H':Hp) (ys:List V) (O:List Value) (n:Nat),s.heap.objs.size<=D->s.heap.objs.size<=C->D≠C->Inv (cxB X N' scope s H C Y) pins τ H' s'->H' D=none ->
   Vals ys O->s'.heap.get? D=some (ab7 O n)->ys.length<=sizeLine->Qe ys H'->RR (.ref D) C (.ok .next) s') :
  wpAny (model X.prog X.w) X.A (newList []) (λ az s3=>wpAny (model X.prog X.w) X.A (newFunctionEnv scope X.env.globals (P_9 X.env.cells scope.names []) [] X.env.qual none .none (some X.env)) (λ aq s4 =>
   codeAny (model X.prog X.w) X.A (.compStart (.ListComp elt [⟨ah,iter,ifs,0⟩] scope pos) 0 (.ref it) az {aq with scope:=relabel scope X.env}) (RR az aq.locals) s4) E s3) E s:=by
 obtain⟨W,⟨m0,w0⟩,a8⟩:=hW;refine wpAny_newObj_type (wpAny_newFunctionEnv B.cells (by intro y hy;simp at hy) (λ af aa Z=>?_) B.kind)
 dsimp only at aa Z ⊢
 generalize hG:s.heap.push {cls:=.type "list",dict:=none,data:=.seq ([]:List Value).toArray}=G at aa Z ⊢
 have ay:G.objs.size=s.heap.objs.size+1:=by rw[<- hG,Heap.size_push]
 have ao:s.heap.objs.size<=G.objs.size:=by rw[ay];exact Nat.le_succ _
 have ap:s.heap.objs.size≠G.objs.size:=by rw[ay];exact qt (Nat.lt_succ_self _)
 obtain⟨C,bf⟩:∃ C:Addr,C=G.objs.size:=⟨_,rfl⟩;obtain⟨D,aj⟩:∃ D:Addr,D=s.heap.objs.size:=⟨_,rfl⟩;rw[<- bf] at aa Z ap ao ⊢;have ac:s.heap.objs.size<=D:=by rw[aj];exact qj _
 have al:s.heap.objs.size<=C:=ao;have ai:D≠C:=by rw[aj];exact ap
 have a7:∀ b o,s.heap.get? b=some o->af.get? b=some o:=λ b o e=>by
  refine Z.extBut b o (z_1 (qm e) al) (qd _ ?_);rw[<- hG];exact qd _ e
 have gD:af.get? D=some (ab7 [] 0):=by
  refine Z.extBut D _ ai (qd _ ?_);rw[<- hG,aj];exact qk _ rfl
 have ar:∀ b∈Y,b<s.heap.objs.size:=λ b hb=>by
  obtain⟨o,e,_⟩:=T.obj 0 _ st b hb;exact qm e
 show codeAny (model X.prog X.w) X.A (.compStart (.ListComp elt [⟨ah,iter,ifs,0⟩] scope pos) 0 (.ref it) (.ref s.heap.objs.size) (compEnvC scope (P_9 X.env.cells scope.names []) C X.env)) (RR (.ref s.heap.objs.size) C) _;rw[<- aj];have bg:D∉Y:=λ z=>z_1 (ar D z) ac rfl
 have Y0:=S0 (ak1 (tk:=s.toks+([]:List (Str×Value)).length) (x:=x) I ba B f ar al ac ai a7 aa gD (λ v z=>nomatch z))
 have a9:tn 0 af:=T.keep 0 _ _ st λ b _ o e=>a7 b o e
 have sub:∀ y c,(P_9 X.env.cells scope.names []).lookup y=some c->X.env.cells.lookup y=some c:=λ y c e=>by
  rcases J_5 scope.names [] (V_7 I ba B) e with q | q
  ·exact q
  ·cases q
 have aw:∀ p∈pins,p.1<s.heap.objs.size:=λ p hp=>qm (I.pin p (qo _ hp)).1
 have ag:∀ {H':Hp}{o:Obj},(∀ b∈Y,H' b=none)->∀ b∈Y,X_9 (cxB X N' scope s H C Y) (pins++[(D,o)]) H' b:=λ {H' o} hn b hb=>by
  obtain⟨_,a2,a3,a4,a5,a6⟩:=f b hb;have lt:=ar b hb;refine⟨hn b hb,?_,λ z=>?_,.inl hb,λ y c e=>a5 y c (sub y c e),λ p hp=>?_⟩
  ·exact z_1 lt al
  ·rcases qv (I.stkSub b z) with e | e
   ·exact a2 e
   ·exact a3 e
  ·have as:p∈pins++[(D,o)]:=by simpa [cxB] using hp
   rcases qw as with z | z
   ·exact a6 p (qo _ z)
   ·have z':p=(D,o):=by simpa using z
    subst z';exact av0 lt ac
 have am:∀ s3:Shared,s3={s with heap:=af,toks:=s.toks+([]:List (Str×Value)).length} ->
   codeAny (model X.prog X.w) X.A (.compLoop (.ListComp elt [⟨ah,iter,ifs,0⟩] scope pos) 0 (.ref it) (.ref D) (compEnvC scope (P_9 X.env.cells scope.names []) C X.env)) (RR (.ref D) C) s3:=by
  rintro s3 rfl;refine aa8 (λ n s'=>∃ i ys O k H',Inv (cxB X N' scope s H C Y) (pins++[(D,ab7 O k)]) τ H' s'/\tn i s'.heap/\(∀ b∈Y,H' b=none)/\Vals ys O/\W i n ys H') ?_ m0
   ⟨0,[],[],0,H,Y0,a9,λ b hb=>(f b hb).1,.nil,w0⟩
  rintro n s4 ⟨i,ys,O,k,H4,I4,bc,av,rv,w4⟩
  have pD:∀ {pl:List (Addr×Obj)}{ad:St}{H':Hp}{s':Shared},Inv (cxB X N' scope s H C Y) (pins++[(D,ab7 O k)]++pl) ad H' s'->s'.heap.get? D=some (ab7 O k)/\H' D=none:=λ I'=>by
   have q:=I'.pin (D,ab7 O k) (qo _ (qp _ (qo _ qg)));exact⟨q.1,q.2.1⟩
  have ab:∀ {pl:List (Addr×Obj)}{ad:St}{H':Hp}{s':Shared},Inv (cxB X N' scope s H C Y) (pins++pl) ad H' s'->Inv (cxB X N' scope s H C Y) pins ad H' s':=λ I'=>I'.unpinned
  rcases a8 i n ys H4 w4 with ⟨stop,lz,qe⟩ | ⟨go,lz,step⟩
  ·refine thn (T.done (cxB X N' scope s H C Y) rfl rfl rfl hc i _ s4 _ H4 (λ _ _=>False) I4 (ag av) bc stop) λ r s5 R=>?_
   obtain⟨hr,I5⟩:=R;subst hr;have I5':Inv (cxB X N' scope s H C Y) (pins++[(D,ab7 O k)]++[]) τ H4 s5:=by simpa using I5
   exact hR D C s5 H4 ys O k ac al ai (ab I5) (pD I5').2 rv (pD I5').1 lz qe
  ·refine thn (T.item (cxB X N' scope s H C Y) rfl rfl rfl hc i _ s4 _ H4 (λ _ _=>False) I4 (ag av) bc go) λ r s5 R=>?_
   obtain⟨u,hr,h5⟩:=R;subst hr;refine thn h5 λ _ s6 R=>?_
   obtain⟨y,H6,I6,r6,y6,ak,bd⟩:=R;have I6':=I6.pinned (ag bd) (T.obj _ _ ak)
   have be:D∉(cxB X N' scope s H C Y).fs:=λ z=>by
    rcases qv (I.stkSub D z) with e | e
    ·exact z_1 I.lt ac e.symm
    ·exact I.nofs ac e
   refine thn (hg C _ s6 _ H6 y u _ I6' r6 (step y H6 y6)) λ _ s7 R=>?_
   obtain⟨bb,H7,I7,e7,q7⟩:=R;have an:∀ {ad:St}{H':Hp}{s':Shared},Inv (cxB X N' scope s H C Y) (pins++[(D,ab7 O k)]++M_2 Y s6.heap) ad H' s'->(∀ b∈Y,∀ o,s6.heap.get? b=some o->s'.heap.get? b=some o)/\∀ b∈Y,H' b=none:=λ {ad H' s'} I' =>
    ⟨λ b hb o e=>(I'.pin (b,o) (qo _ (qo _ (r_4 hb e)))).1,λ b hb=>by
     obtain⟨o,e,_⟩:=T.obj _ _ ak b hb;exact (I'.pin (b,o) (qo _ (qo _ (r_4 hb e)))).2.1⟩
   have ae:∀ {pl:List (Addr×Obj)}{H':Hp}{s':Shared},Inv (cxB X N' scope s H C Y) pl bb H' s'->Inv (cxB X N' scope s H C Y) pl τ H' s':=λ I'=>I'.weak e7.1 e7.2
   refine thn (ht s H C Y _ s7 _ H7 _ I7 q7) λ ok s8 R=>?_
   obtain⟨H8,I8,q8⟩:=R;cases ok with
   |false =>
    rw[if_neg Bool.false_ne_true] at q8 ⊢;obtain⟨m',hm,w8⟩:=q8;obtain⟨b1,b2⟩:=an I8;exact⟨m',hm,i+1,ys,O,k,H8,ae I8.unpinned,T.keep _ _ _ ak b1,b2,rv,w8⟩
   |true =>
    rw[if_pos rfl] at q8 ⊢;refine thn (he s H C Y _ s8 _ H8 _ I8 q8) λ v s9 R=>?_
    obtain⟨vv,H9,I9,r9,m',hm,w9⟩:=R;obtain⟨au,a1⟩:=pD I9;obtain⟨b1,b2⟩:=an I9;have bh:=rv.length;refine call_meets F.slot_list_append ⟨_,au,rfl⟩ F.entry_list_append (F.args_list_append_2 _ _) (PySem.list_append D O.toArray k v (by rw[List.size_toArray];omega)) ⟨au,?_⟩
    have ea:O.toArray.push v=(O++[v]).toArray:=by simp
    obtain⟨k',q⟩:∃ k',(s9.heap.update D (Obj.mapSeq (·.push v))).get? D=some (ab7 (O++[v]) k'):=by
     have q0:=PySem.IsL.update au (·.push v);rw[ea] at q0;exact⟨_,q0⟩
    have ax:∀ b o,b≠D->s9.heap.get? b=some o->(s9.heap.update D (Obj.mapSeq (·.push v))).get? b=some o:=λ b o hb e=>(Heap.get?_update_other s9.heap (Obj.mapSeq (·.push v)) (Ne.symm hb)).trans e
    have I10:Inv (cxB X N' scope s H C Y) pins bb H9 {s9 with heap:=s9.heap.update D (Obj.mapSeq (·.push v))} :=
     (ab I9.unpinned).turned (t':=s9.toks) (it:=D) ax a1 ai (.inr ac) (λ y' c e z=>by
      obtain⟨w',q'⟩:=I.cell y' c (sub y' c e)
      exact z_1 q'.lt ac z) (λ p hp z=>by
      have as:p∈pins:=by simpa [cxB] using hp
      exact z_1 (aw p as) ac z)
    refine⟨m',hm,i+1,ys++[vv],O++[v],k',H9,ae (I10.pins_of λ p hp=>?_),T.keep _ _ _ ak λ b hb o e=>ax b o (λ z=>bg (z▸hb)) (b1 b hb o e),b2,rv.append (.cons r9 .nil),w9⟩
    rcases qw hp with z | z
    ·exact I10.pin p (qo _ z)
    ·have z':p=(D,ab7 (O++[v]) k'):=List.mem_singleton.mp z
     subst z';exact⟨q,a1,ai,be,λ w' z2=>nomatch z2⟩
 exact codeAny_compStart_list (am _ rfl) (T.self _ 0 _ _ _ a9 (am _ rfl))
theorem av4 {it:Addr}{R:List Addr}{tn:Nat->Heap->Prop}{J:It}{Qe:List V->Hp->Prop}{RR:Value->Addr->Result->Shared->Prop} (I:Inv X pins σ H s) (hc:X.calm=true) (ab:X.env.scope=sc) (B:ScB X.N sc scope x frees js)
  (T:Turn X.prog X.w X.K (.Name x px) J R it tn) (st:tn 0 s.heap) (f:∀ b∈R,X_9 X pins H b) (hW:LcW js tt te σ Qe J H)
  (ht:∀ s H C R,PTs (cxB X (x::frees) scope s H C R) ifs tt) (he:∀ s H C R,PE (cxB X (x::frees) scope s H C R) elt te)
  (hR:∀ (D C:Addr) (s':Shared) (H':Hp) (ys:List V) (Y:List Value) (n:Nat),s.heap.objs.size<=D->s.heap.objs.size<=C->D≠C->Inv (cxB X (x::frees) scope s H C R) pins (none::frv σ js) H' s'->H' D=none ->
   Vals ys Y->s'.heap.get? D=some (ab7 Y n)->ys.length<=sizeLine->Qe ys H'->RR (.ref D) C (.ok .next) s') :
  wpAny (model X.prog X.w) X.A (newList []) (λ aa s3=>wpAny (model X.prog X.w) X.A (newFunctionEnv scope X.env.globals (P_9 X.env.cells scope.names []) [] X.env.qual none .none (some X.env)) (λ O s4 =>
   codeAny (model X.prog X.w) X.A (.compStart (.ListComp elt [⟨.Name x px,iter,ifs,0⟩] scope pos) 0 (.ref it) aa {O with scope:=relabel scope X.env}) (RR aa O.locals) s4) E s3) E s:=by
 refine aC8 (N':=x::frees) (tg:=S_3 0) I hc ab B T st f (λ h=>h) (λ C=>R_0 B.nd rfl (.inl (lookup_relabel_local B.own)) (.inr (lookup_relabel_local B.own))) ?_ ht he hR
 obtain⟨W,w0,Z⟩:=hW;refine⟨W,w0,λ i m ys H w=>?_⟩
 rcases Z i m ys H w with h | ⟨go,lz,step⟩
 ·exact .inl h
 ·exact .inr ⟨go,lz,λ y H' yl=>⟨⟨rfl,λ j v e=>by
   cases j with
   |zero=>simp at e
   |succ j=>simpa using e⟩,step y H' yl⟩⟩
theorem V_8 {Z:List Addr}{D C:Addr}{s':Shared}{H':Hp}{ys:List V}{O:List Value}{n:Nat} (I:Inv X pins σ H s) (f:∀ b∈Z,X_9 X pins H b) (hD:s.heap.objs.size<=D) (J:Inv (cxB X (x::frees) scope s H C Z) pins (none::frv σ js) H' s') (R:H' D=none) (rv:Vals ys O)
  (gD:s'.heap.get? D=some (ab7 O n)) (hz:ys.length<=sizeLine):Inv X pins σ (upd H' D (.lst ys)) s':=by
 have u:Un (frs X.stack) Z H H' s.heap s'.heap:=J.base;have hk:HOk X.prog X.w H' s'.heap:=J.hok;refine I.call' (ch:=Z) J.os ⟨u.keep,u.slot,λ b o e n' hx=>?_,u.there,λ b xs e=>?_,λ b o v e=>?_,λ b ps e=>?_⟩ (λ b o e=>?_) J.bare λ b hb=>?_
 ·rw[a_8 (z_1 (Heap.lt_size e) hD)]
  exact u.free b o e n' hx
 ·have q:=u.tups b xs e
  rw[a_8 (a_2 q R)];exact q
 ·have q:=u.frzs b o v e
  rw[a_8 (a_2 q R)];exact q
 ·obtain⟨Y,q⟩:=u.tbls b ps e
  exact⟨Y,by rw[a_8 (a_2 q R)];exact q⟩
 ·by_cases hb:b=D
  ·subst hb
   rw[a_9] at e;cases e;exact⟨hz,O,n,rv,gD⟩
  ·rw[a_8 hb] at e
   exact (hk b o e).stay (λ c v _ q=>q) (λ c q=>by rw[a_8 (a_2 q R)];exact q) λ c xs q=>by rw[a_8 (a_2 q R)];exact q
 ·obtain⟨_,a2,a3,a4,a5,a6⟩:=f b hb
  exact⟨a4,a2,a5,a6⟩
theorem aR5 {C:Addr}{s':Shared}{H':Hp}{O:St}{h':Heap} (I:Inv X pins σ H s) (J:Inv X pins O H' s') (R:s.heap.objs.size<=C) (nC:H' C=none) (Z:Heap.SameBut C s'.heap h'):Inv X pins O H' {s' with heap:=h'}:=by
 refine J.turned (t':=s'.toks) (it:=C) (λ b o hb e=>(Z.2 b hb).trans e) nC (λ z=>?_) (.inr (Nat.le_trans I.sz R)) (λ y c e z=>?_) λ p Y z=>?_
 ·exact z_1 I.lt R z.symm
 ·obtain⟨v,q⟩:=I.cell y c e
  exact z_1 q.lt R z
 ·exact z_1 (qm (I.pin p Y).1) R z
noncomputable def tLC (O:TI) (js:List Nat) (tt:TT) (te:TE):TE:=λ σ H Q=>O σ H (LcW js tt te σ λ ys H'=>∀ D,H' D=none->Q (.ref D) (upd H' D (.lst ys)))
theorem bb5 {wi:TI} (hc:X.calm=true) (O:X.env.scope=sc) (B:ScB X.N sc scope x frees js) (hi:PI X (.Name x px) iter wi) (ht:∀ s H C R,PTs (cxB X (x::frees) scope s H C R) ifs tt) (he:∀ s H C R,PE (cxB X (x::frees) scope s H C R) elt te)
  (hs:∀ v,foldedSetIterable iter X.env v=pure v:=by intro _;rfl):PE X (.ListComp elt [⟨.Name x px,iter,ifs,0⟩] scope pos) (tLC wi js tt te):=by
 intro pins s σ H Q I h;rw[eval_ListComp];refine wpAny_comprehension_free (use:=none) rfl hs (F_7 (V_7 I O B)) B.kind B.locs (thn (hi pins s σ H _ I h) λ v s1 h1=>thn h1 λ ae s2 h2=>?_)
 obtain⟨it,R,tn,J,H2,e,Y,T,aa,f2,hW⟩:=h2;subst e;refine av4 (RR:=λ ab C=>compPost (model X.prog X.w) X.A X.xe none (EP X pins σ Q) ab C) Y hc O B T aa f2 hW ht he ?_
 intro D C s' H' ys ad n hD hC ac J' nD rv gD hz q;obtain⟨m,hn,_⟩:=J'.loc;refine⟨m,hn,λ h' Z=>?_⟩
 have A1:=V_8 Y f2 hD J' nD rv gD hz;have nC:(upd H' D (.lst ys)) C=none:=by rw[a_8 (Ne.symm ac)];exact J'.free
 exact⟨.ref D,_,aR5 Y A1 hC nC Z,rfl,q D nD⟩
noncomputable def aL2 (i:Nat) (O:TI) (js:List Nat) (tt:TT) (te:TE):TS:=λ D σ H=>O σ H (LcW js tt te σ λ ys H'=>∀ a,H' a=none->D.nx (σ.set i (some (.ref a))) (upd H' a (.lst ys)))
theorem U_7 {wi:TI}{i:Nat}{y:Str}{py spos:Pos} (hN:X.N.Nodup) (ab:X.N[i]?=some y) (hy:X.env.scope.names.lookup y=some .local) (hc:X.calm=true) (R:X.env.scope=sc) (B:ScB X.N sc scope x frees js) (hi:PI X (.Name x px) iter wi)
  (ht:∀ s H C Z,PTs (cxB X (x::frees) scope s H C Z) ifs tt) (he:∀ s H C Z,PE (cxB X (x::frees) scope s H C Z) elt te)
  (aa:swapsWith (.ListComp elt [⟨.Name x px,iter,ifs,0⟩] scope pos) (some (.Name y py)) spos.line X.env=pure true:=by rfl)
  (hs:∀ v,foldedSetIterable iter X.env v=pure v:=by intro _;rfl):PS X (.Assign [.Name y py] (.ListComp elt [⟨.Name x px,iter,ifs,0⟩] scope pos) spos) (aL2 i wi js tt te):=by
 intro pins s σ H D I h;rw[exec_Assign_Name_used _ _ _ _ aa];refine qb (wpAny_standAt (qb ?_));show wpAny _ X.A (do let _ <- comprehension (.ListComp elt [⟨.Name x px,iter,ifs,0⟩] scope pos) scope X.env _ (newList []) false (eval iter X.env) (some (assign (.Name y py) X.env))) _ _ s;refine qb (wpAny_mono (wpAny_comprehension_free (use:=some (assign (.Name y py) X.env)) (Q:=λ _ s'=>SP X pins D .next s') rfl hs (F_7 (V_7 I R B)) B.kind B.locs
  (thn (hi pins s σ H _ I h) λ v s1 h1=>thn h1 λ ah s2 h2=>?_)) (λ _ s' q=>qc (qc q)) λ _ _ z=>z)
 obtain⟨it,Z,tn,J,H2,e,O,T,ad,f2,hW⟩:=h2;subst e;refine av4 (RR:=λ ae C=>compPost (model X.prog X.w) X.A X.xe (some (assign (.Name y py) X.env)) (λ _ s'=>SP X pins D .next s') ae C) O hc R B T ad f2 hW ht he ?_
 intro a C s' H' ys ag n hD hC af J' nD rv gD hz q;have A1:=V_8 O f2 hD J' nD rv gD hz;have nC:(upd H' a (.lst ys)) C=none:=by rw[a_8 (Ne.symm af)];exact J'.free
 obtain⟨m,hn,_⟩:=J'.loc;have hL:C≠X.env.locals:=av0 O.lt hC;show wpAny _ X.A (assign (.Name y py) X.env (.ref a)) _ _ s';refine wpAny_assign_Name (L_2 A1 hN ab (.inl hy) (v:=.ref a) rfl (λ s3 I3 Y=>?_) (.inr hy))
 obtain⟨b,sb,hb⟩:=Y
 have nb:C≠b:=by
  rcases hb with z | z
  ·rw[z];exact hL
  ·intro e
   obtain⟨v,q'⟩:=O.cell y b z;exact z_1 q'.lt hC e.symm
 obtain⟨o,es,ep,ho,r⟩:=hn;refine⟨m,⟨o,es,ep,(sb.2 C nb).trans ho,r⟩,λ h' ac=>?_⟩
 exact⟨_,_,aR5 O I3 hC nC ac,q a nD⟩
end
end L2
namespace Fx
open PySem
inductive D where
 |non | bl (b:Bool) | int (i:Int) | str (x:Str) | tup (xs:List D) | lst (xs:List D)
 |dct (ks:List Str) (vs:List D)
inductive MO where
 |lst (xs:List D) | dic (kvs:List (Str×D))
inductive Sl where
 |no | im (d:D) | ow (b:Bool) (o:MO)
abbrev En:=List Sl
inductive Res where
 |nx (ρ:En) | rt (d:D) (ρ:En) | bk (ρ:En) | ct (ρ:En)
abbrev FE:=En->Option (D×En)
abbrev FT:=En->Option (Bool×En)
abbrev FA:=En->Option (List D×En)
abbrev FS:=En->Option Res
noncomputable def bnd {α O:Type} (x:Option α) (f:α->Option O):Option O:=x.bind f
theorem J_8 {α O:Type} (a:α) (f:α->Option O):bnd (some a) f=f a:=rfl
mutual
noncomputable def eqD:D->D->Bool
 |.non,.non=>true
 |.bl a,.bl b=>a==b
 |.bl a,.int b=>(if a then 1 else 0)==b
 |.int a,.bl b=>a==(if b then 1 else 0)
 |.int a,.int b=>a==b
 |.str a,.str b=>a==b
 |.tup a,.tup b=>v_7 a b
 |.lst a,.lst b=>v_7 a b
 |_,_=>false
noncomputable def v_7:List D->List D->Bool
 |[],[]=>true
 |a::r,b::t=>eqD a b&&v_7 r t
 |_,_=>false
end
@[simp] theorem aF2 :eqD .non .non=true:=by rw[eqD]
@[simp] theorem aJ2 (y:Bool):eqD .non (.bl y)=false:=by simp[eqD]
@[simp] theorem aF4 (y:Int):eqD .non (.int y)=false:=by simp[eqD]
@[simp] theorem aF1 (y:Str):eqD .non (.str y)=false:=by simp[eqD]
@[simp] theorem aF0 (y:List D):eqD .non (.tup y)=false:=by simp[eqD]
@[simp] theorem aF3 (y:List D):eqD .non (.lst y)=false:=by simp[eqD]
@[simp] theorem aJ7 (x:Bool):eqD (.bl x) .non=false:=by simp[eqD]
@[simp] theorem aT5 (x:Bool) (y:Bool):eqD (.bl x) (.bl y)=decide (x=y):=by rw[eqD];exact Bool.beq_eq_decide_eq _ _
@[simp] theorem aJ9 (x:Bool) (y:Int):eqD (.bl x) (.int y)=((if x then 1 else 0)==y):=by rw[eqD]
@[simp] theorem aJ6 (x:Bool) (y:Str):eqD (.bl x) (.str y)=false:=by simp[eqD]
@[simp] theorem aJ5 (x:Bool) (y:List D):eqD (.bl x) (.tup y)=false:=by simp[eqD]
@[simp] theorem aJ8 (x:Bool) (y:List D):eqD (.bl x) (.lst y)=false:=by simp[eqD]
@[simp] theorem aG2 (x:Int):eqD (.int x) .non=false:=by simp[eqD]
@[simp] theorem aJ4 (x:Int) (y:Bool):eqD (.int x) (.bl y)=(x==(if y then 1 else 0)):=by rw[eqD]
@[simp] theorem aG4 (x:Int) (y:Int):eqD (.int x) (.int y)=decide (x=y):=by rw[eqD];exact Bool.beq_eq_decide_eq _ _
@[simp] theorem aG1 (x:Int) (y:Str):eqD (.int x) (.str y)=false:=by simp[eqD]
@[simp] theorem aG0 (x:Int) (y:List D):eqD (.int x) (.tup y)=false:=by simp[eqD]
@[simp] theorem aG3 (x:Int) (y:List D):eqD (.int x) (.lst y)=false:=by simp[eqD]
@[simp] theorem aE7 (x:Str):eqD (.str x) .non=false:=by simp[eqD]
@[simp] theorem aJ1 (x:Str) (y:Bool):eqD (.str x) (.bl y)=false:=by simp[eqD]
@[simp] theorem aE9 (x:Str) (y:Int):eqD (.str x) (.int y)=false:=by simp[eqD]
@[simp] theorem aE6 (x:Str) (y:Str):eqD (.str x) (.str y)=decide (x=y):=by rw[eqD];exact Bool.beq_eq_decide_eq _ _
@[simp] theorem aE5 (x:Str) (y:List D):eqD (.str x) (.tup y)=false:=by simp[eqD]
@[simp] theorem aE8 (x:Str) (y:List D):eqD (.str x) (.lst y)=false:=by simp[eqD]
@[simp] theorem aE2 (x:List D):eqD (.tup x) .non=false:=by simp[eqD]
@[simp] theorem aJ0 (x:List D) (y:Bool):eqD (.tup x) (.bl y)=false:=by simp[eqD]
@[simp] theorem aE4 (x:List D) (y:Int):eqD (.tup x) (.int y)=false:=by simp[eqD]
@[simp] theorem aE1 (x:List D) (y:Str):eqD (.tup x) (.str y)=false:=by simp[eqD]
@[simp] theorem C_5 (x:List D) (y:List D):eqD (.tup x) (.tup y)=v_7 x y:=by rw[eqD]
@[simp] theorem aE3 (x:List D) (y:List D):eqD (.tup x) (.lst y)=false:=by simp[eqD]
@[simp] theorem aF7 (x:List D):eqD (.lst x) .non=false:=by simp[eqD]
@[simp] theorem aJ3 (x:List D) (y:Bool):eqD (.lst x) (.bl y)=false:=by simp[eqD]
@[simp] theorem aF9 (x:List D) (y:Int):eqD (.lst x) (.int y)=false:=by simp[eqD]
@[simp] theorem aF6 (x:List D) (y:Str):eqD (.lst x) (.str y)=false:=by simp[eqD]
@[simp] theorem aF5 (x:List D) (y:List D):eqD (.lst x) (.tup y)=false:=by simp[eqD]
@[simp] theorem aF8 (x:List D) (y:List D):eqD (.lst x) (.lst y)=v_7 x y:=by rw[eqD]
@[simp] theorem be4:v_7 [] []=true:=by rw[v_7]
@[simp] theorem be7 (a b:D) (r t:List D):v_7 (a::r) (b::t)=(eqD a b&&v_7 r t):=by rw[v_7]
@[simp] theorem be5 (b:D) (t:List D):v_7 [] (b::t)=false:=by simp[v_7]
@[simp] theorem be6 (b:D) (t:List D):v_7 (b::t) []=false:=by simp[v_7]
mutual
noncomputable def dpD:D->Nat
 |.tup xs=>A_0 xs+1
 |.lst xs=>A_0 xs+1
 |.dct _ _=>1000
 |_=>0
noncomputable def A_0:List D->Nat
 |[]=>0
 |d::r=>max (dpD d) (A_0 r)
end
@[simp] theorem aG8 (ks:List Str) (vs:List D):dpD (.dct ks vs)=1000:=rfl
@[simp] theorem bg5:dpD .non=0:=rfl
@[simp] theorem bn2 (b:Bool):dpD (.bl b)=0:=rfl
@[simp] theorem bg6 (i:Int):dpD (.int i)=0:=rfl
@[simp] theorem bg4 (x:Str):dpD (.str x)=0:=rfl
@[simp] theorem J_1 (xs:List D):dpD (.tup xs)=A_0 xs+1:=rfl
@[simp] theorem J_2 (xs:List D):dpD (.lst xs)=A_0 xs+1:=rfl
@[simp] theorem aX3:A_0 []=0:=rfl
@[simp] theorem C_7 (d:D) (r:List D):A_0 (d::r)=max (dpD d) (A_0 r):=rfl
noncomputable def bh4 (i:Int):Bool:=decide (i.natAbs<2 ^ 1000)
noncomputable def w_3 (i j:Int):Bool:=decide (i.natAbs<2 ^ 64)||decide (j.natAbs<2 ^ 64)||(bh4 i&&bh4 j)
noncomputable def B_4 (j:Int):Bool:=decide (j≠0)&&decide (j.natAbs<2 ^ 1000)
noncomputable def ap8:D->Option Int
 |.int i=>some i
 |_=>none
noncomputable def onI (g:Int->Int->Option D) (x y:D):Option D:=bnd (ap8 x) λ i=>bnd (ap8 y) (g i)
theorem F_3 {g:Int->Int->Option D}{x y d:D} (e:onI g x y=some d):∃ i j,x=.int i/\y=.int j/\g i j=some d:=by
 cases x with
 |int i =>
  cases y with
  |int j=>exact⟨i,j,rfl,rfl,e⟩
  |_=>cases e
 |_=>cases e
noncomputable def s_2:D->D->Option D
 |.int i,.int j=>some (.int (i+j))
 |.str a,.str b=>if a.length+b.length<=sizeLine then some (.str (a++b)) else none
 |.lst a,.lst b=>if a.length+b.length<=sizeLine then some (.lst (a++b)) else none
 |_,_=>none
noncomputable def W_5:D->D->Option D:=onI λ i j=>some (.int (i-j))
noncomputable def ab8:D->D->Option D:=onI λ i j=>if w_3 i j=true then some (.int (i*j)) else none
noncomputable def p_4:D->D->Option D:=onI λ i j=>if B_4 j=true then some (.int (i.fdiv j)) else none
noncomputable def n_6:D->D->Option D:=onI λ i j=>if j≠0 then some (.int (i.fmod j)) else none
noncomputable def bg8:D->D->Option D:=onI λ i j=>if 0<=j/\j<=64/\i.natAbs<2 ^ 64 then some (.int (i ^ j.toNat)) else none
noncomputable def aK0:D->Option D
 |.int i=>some (.int (-i))
 |_=>none
noncomputable def aU9 (p:Int->Int->Bool):D->D->Option D:=onI λ i j=>some (.bl (p i j))
noncomputable def dLt:D->D->Option D:=aU9 λ i j=>decide (i<j)
noncomputable def dLe:D->D->Option D:=aU9 λ i j=>decide (i<=j)
noncomputable def dGt:D->D->Option D:=aU9 λ i j=>decide (j<i)
noncomputable def dGe:D->D->Option D:=aU9 λ i j=>decide (j<=i)
noncomputable def dEq (x y:D):Option D:=if dpD x<=30/\dpD y<=30 then some (.bl (eqD x y)) else none
noncomputable def dNe (x y:D):Option D:=if dpD x<=30/\dpD y<=30 then some (.bl (!eqD x y)) else none
noncomputable def isN:D->Bool
 |.non=>true
 |_=>false
@[simp] theorem bd3 (ks:List Str) (vs:List D):isN (.dct ks vs)=false:=rfl
@[simp] theorem bd0:isN .non=true:=rfl
@[simp] theorem bk7 (b:Bool):isN (.bl b)=false:=rfl
@[simp] theorem bd2 (b:Int):isN (.int b)=false:=rfl
@[simp] theorem bc9 (b:Str):isN (.str b)=false:=rfl
@[simp] theorem bc8 (b:List D):isN (.tup b)=false:=rfl
@[simp] theorem bd1 (b:List D):isN (.lst b)=false:=rfl
noncomputable def dIs (x y:D):Option D:=match y with
 |.non=>some (.bl (isN x))
 |_=>none
noncomputable def n_8 (x y:D):Option D:=match y with
 |.non=>some (.bl (!isN x))
 |_=>none
noncomputable def aw7:D->Option Bool
 |.non=>some false
 |.bl b=>some b
 |.int i=>some (i != 0)
 |.lst xs=>some (!xs.isEmpty)
 |.tup xs=>some (!xs.isEmpty)
 |_=>none
noncomputable def dPl (n:Nat) (i:Int):Option Nat:=if 0<=i then (if i<n then some i.toNat else none) else if -(n:Int)<=i then some (i+n).toNat else none
noncomputable def atD (xs:List D) (i:Int):Option D:=(dPl xs.length i).bind λ j=>xs[j]?
noncomputable def al3 (n d:Nat):Option Int->Nat
 |none=>d
 |some v=>if v<0 then (v+(n:Int)).toNat else min v.toNat n
noncomputable def aK1 (xs:List D) (lo hi:Option Int):List D:=(xs.drop (al3 xs.length 0 lo)).take (al3 xs.length xs.length hi-al3 xs.length 0 lo)
noncomputable def aV8:List D->Option D
 |[.int i]=>some (.int (if i<0 then -i else i))
 |_=>none
noncomputable def q_3:List D->Option (List Int)
 |[]=>some []
 |.int i::r=>bnd (q_3 r) λ is=>some (i::is)
 |_=>none
theorem C_4 (i:Int) (r:List D):q_3 (.int i::r)=bnd (q_3 r) λ is=>some (i::is):=rfl
noncomputable def E_3:Int->List Int->Int
 |m,[]=>m
 |m,x::r=>E_3 (if x<m then x else m) r
noncomputable def E_4:Int->List Int->Int
 |m,[]=>m
 |m,x::r=>E_4 (if m<x then x else m) r
noncomputable def ak2 (f:Int->List Int->Int):List Int->Option D
 |[]=>none
 |i::r=>some (.int (f i r))
noncomputable def ar8:List D->Option D
 |[.int i,.int j]=>some (.int (if j > i then j else i))
 |[.lst xs]=>bnd (q_3 xs) λ is=>ak2 E_4 is
 |_=>none
noncomputable def aH8:List D->Option D
 |[.int i,.int j]=>some (.int (if j<i then j else i))
 |[.lst xs]=>bnd (q_3 xs) λ is=>ak2 E_3 is
 |_=>none
noncomputable def ak0:List D->Option (List Bool)
 |[]=>some []
 |.bl b::r=>bnd (ak0 r) λ bs=>some (b::bs)
 |_=>none
theorem ab1 (b:Bool) (r:List D):ak0 (.bl b::r)=bnd (ak0 r) λ bs=>some (b::bs):=rfl
noncomputable def bh6:List D->Option D
 |[.lst xs]=>bnd (ak0 xs) λ bs=>some (.bl (bs.all id))
 |_=>none
inductive Ty where
 |int | bool | str | tuple | list
noncomputable def al2:Ty->D->Bool
 |.int,.int _=>true
 |.int,.bl _=>true
 |.bool,.bl _=>true
 |.str,.str _=>true
 |.tuple,.tup _=>true
 |.list,.lst _=>true
 |_,_=>false
noncomputable def slV (ρ:En):Option Sl->Option (D×En)
 |some (.im d)=>some (d,ρ)
 |_=>none
noncomputable def eV (i:Nat) (ρ:En):Option (D×En):=slV ρ ρ[i]?
noncomputable def v_1:FE:=λ _=>none
noncomputable def eC (d:D) (ρ:En):Option (D×En):=some (d,ρ)
abbrev zI (n:Int):=eC (.int n)
abbrev zT (x:Str):=eC (.str x)
theorem zR{α:Sort _}{a b:α}(h:a=b):a=b:=h
noncomputable def e1 (op:D->Option D) (F:FE) (ρ:En):Option (D×En):=bnd (F ρ) λ p=>bnd (op p.1) λ d=>some (d,p.2)
noncomputable def e2 (op:D->D->Option D) (F G:FE) (ρ:En):Option (D×En):=bnd (F ρ) λ p=>bnd (G p.2) λ q=>bnd (op p.1 q.1) λ d=>some (d,q.2)
noncomputable def blB:D->Option Bool
 |.bl b=>some b
 |_=>none
noncomputable def e3 (op O:D->D->Option D) (F G L:FE) (ρ:En):Option (D×En):=bnd (F ρ) λ p=>bnd (G p.2) λ q=>bnd (op p.1 q.1) λ z=>bnd (blB z) λ b =>
 if b=true then bnd (L q.2) λ r=>bnd (O q.1 r.1) λ d=>some (d,r.2) else some (.bl false,q.2)
noncomputable def aN (ρ:En):Option (List D×En):=some ([],ρ)
noncomputable def aC (F:FE) (A:FA) (ρ:En):Option (List D×En):=bnd (F ρ) λ p=>bnd (A p.2) λ q=>some (p.1::q.1,q.2)
noncomputable def m_6 (A:FA) (ρ:En):Option (D×En):=bnd (A ρ) λ p=>if p.1.length<=1000 then some (.tup p.1,p.2) else none
noncomputable def r_7 (A:FA) (ρ:En):Option (D×En):=bnd (A ρ) λ p=>if p.1.length<=1000 then some (.lst p.1,p.2) else none
noncomputable def eF (g:List D->Option D) (A:FA) (ρ:En):Option (D×En):=bnd (A ρ) λ p=>bnd (g p.1) λ d=>some (d,p.2)
noncomputable def eTy (t:Ty) (F:FE) (ρ:En):Option (D×En):=bnd (F ρ) λ p=>some (.bl (al2 t p.1),p.2)
abbrev FO:=En->Option (Option Int×En)
noncomputable def oN (ρ:En):Option (Option Int×En):=some (none,ρ)
noncomputable def oS (F:FE) (ρ:En):Option (Option Int×En):=bnd (F ρ) λ p=>bnd (ap8 p.1) λ i=>some (some i,p.2)
noncomputable def tB (F:FE) (ρ:En):Option (Bool×En):=bnd (F ρ) λ p=>bnd (blB p.1) λ b=>some (b,p.2)
noncomputable def tV (F:FE) (ρ:En):Option (Bool×En):=bnd (F ρ) λ p=>bnd (aw7 p.1) λ b=>some (b,p.2)
noncomputable def tAnd (T U:FT) (ρ:En):Option (Bool×En):=bnd (T ρ) λ p=>if p.1=true then U p.2 else some (false,p.2)
noncomputable def tOr (T U:FT) (ρ:En):Option (Bool×En):=bnd (T ρ) λ p=>if p.1=true then some (true,p.2) else U p.2
noncomputable def tNot (T:FT) (ρ:En):Option (Bool×En):=bnd (T ρ) λ p=>some (!p.1,p.2)
noncomputable def tYes (ρ:En):Option (Bool×En):=some (true,ρ)
noncomputable def eIf (T:FT) (F G:FE) (ρ:En):Option (D×En):=bnd (T ρ) λ p=>if p.1=true then F p.2 else G p.2
noncomputable def aq6 (F G:FE) (ρ:En):Option (D×En):=bnd (F ρ) λ p=>bnd (blB p.1) λ b=>if b=true then G p.2 else some (.bl false,p.2)
noncomputable def eOr (F G:FE) (ρ:En):Option (D×En):=bnd (F ρ) λ p=>bnd (blB p.1) λ b=>if b=true then some (.bl true,p.2) else G p.2
noncomputable def aX0 (F:FE) (ρ:En):Option (D×En):=bnd (F ρ) λ p=>bnd (blB p.1) λ b=>some (.bl (!b),p.2)
noncomputable def slI:Option Sl->Option Sl
 |some (.im d)=>some (.im d)
 |_=>none
noncomputable def aa4 (ρ:En):List Nat->Option En
 |[]=>some []
 |j::js=>bnd (slI ρ[j]?) λ s=>bnd (aa4 ρ js) λ r=>some (s::r)
theorem ah1 (ρ:En) (j:Nat) (js:List Nat):aa4 ρ (j::js)=bnd (slI ρ[j]?) λ s=>bnd (aa4 ρ js) λ r=>some (s::r):=rfl
noncomputable def cGo (T:FT) (F:FE) (fr:En):List D->Option (List D)
 |[]=>some []
 |d::r=>bnd (T (.im d::fr)) λ p=>if p.1=true then bnd (F p.2) λ q=>bnd (cGo T F fr r) λ t=>some (q.1::t) else cGo T F fr r
theorem aH4 (T:FT) (F:FE) (fr:En):cGo T F fr []=some []:=rfl
theorem ar2 (T:FT) (F:FE) (fr:En) (d:D) (r:List D):cGo T F fr (d::r)=bnd (T (.im d::fr)) λ p=>if p.1=true then bnd (F p.2) λ q=>bnd (cGo T F fr r) λ t=>some (q.1::t) else cGo T F fr r:=rfl
noncomputable def chS (c:Nat):Str:=⟨#[c]⟩
noncomputable def chs (z:Str):List D:=z.cps.toList.map λ c=>.str (chS c)
noncomputable def items:D->Option (List D)
 |.lst xs=>some xs
 |.tup xs=>some xs
 |.str z=>some (chs z)
 |_=>none
noncomputable def eLC (js:List Nat) (I:FE) (T:FT) (F:FE) (ρ:En):Option (D×En):=bnd (I ρ) λ p=>bnd (items p.1) λ xs=>bnd (aa4 p.2 js) λ fr=>bnd (cGo T F fr xs) λ ys=>if xs.length<=sizeLine then some (.lst ys,p.2) else none
noncomputable def sN (ρ:En):Option Res:=some (.nx ρ)
noncomputable def nxR (G:FS):Res->Option Res
 |.nx O=>G O
 |.rt d ρ=>some (.rt d ρ)
 |.bk ρ=>some (.bk ρ)
 |.ct ρ=>some (.ct ρ)
noncomputable def b_4 (F G:FS) (ρ:En):Option Res:=bnd (F ρ) λ r=>nxR G r
noncomputable def d_5 (i:Nat) (F:FE) (ρ:En):Option Res:=bnd (F ρ) λ p=>some (.nx (p.2.set i (.im p.1)))
noncomputable def F_1:List Nat->List D->En->En
 |i::is,d::ds,ρ=>F_1 is ds (ρ.set i (.im d))
 |_,_,ρ=>ρ
theorem Q_4 (i:Nat) (is:List Nat) (d:D) (ds:List D) (ρ:En):F_1 (i::is) (d::ds) ρ=F_1 is ds (ρ.set i (.im d)):=rfl
theorem Y_5 (ds:List D) (ρ:En):F_1 [] ds ρ=ρ:=by cases ds <;> rfl
noncomputable def bp4:D->Option (List D)
 |.tup xs=>some xs
 |.lst xs=>some xs
 |_=>none
noncomputable def gN (i:Nat) (d:D) (ρ:En):Option En:=some (ρ.set i (.im d))
noncomputable def gT (is:List Nat) (d:D) (ρ:En):Option En:=bnd (bp4 d) λ xs=>if xs.length=is.length then some (F_1 is xs ρ) else none
noncomputable def sIf (T:FT) (F G:FS) (ρ:En):Option Res:=bnd (T ρ) λ p=>if p.1=true then F p.2 else G p.2
noncomputable def e_7 (F:FE) (ρ:En):Option Res:=bnd (F ρ) λ p=>some (.rt p.1 p.2)
noncomputable def goR (G:FS):Res->Option Res
 |.nx ρ=>G ρ
 |.ct ρ=>G ρ
 |.bk ρ=>some (.nx ρ)
 |.rt d ρ=>some (.rt d ρ)
noncomputable def fGo (g:D->En->Option En) (B:FS):List D->FS
 |[],ρ=>some (.nx ρ)
 |d::r,ρ=>bnd (g d ρ) λ O=>bnd (B O) λ z=>goR (fGo g B r) z
theorem aD9 (g:D->En->Option En) (B:FS) (ρ:En):fGo g B [] ρ=some (.nx ρ):=rfl
theorem aq5 (g:D->En->Option En) (B:FS) (d:D) (r:List D) (ρ:En):fGo g B (d::r) ρ=bnd (g d ρ) λ O=>bnd (B O) λ z=>goR (fGo g B r) z:=rfl
noncomputable def am6 (g:D->En->Option En) (F:FE) (B:FS) (ρ:En):Option Res:=bnd (F ρ) λ p=>bnd (items p.1) λ xs=>fGo g B xs p.2
noncomputable def m_7 (lo:Int):Nat->List D
 |0=>[]
 |n+1=>.int lo::m_7 (lo+1) n
noncomputable def Y_7 (F:FE) (ρ:En):Option (List D×En):=bnd (F ρ) λ p=>bnd (ap8 p.1) λ j=>if -(2 ^ 62)<=j/\j<2 ^ 62 then some (m_7 0 j.toNat,p.2) else none
noncomputable def aN1 (F G:FE) (ρ:En):Option (List D×En):=bnd (F ρ) λ p=>bnd (G p.2) λ q=>bnd (ap8 p.1) λ i=>bnd (ap8 q.1) λ j =>
 if -(2 ^ 62)<=i/\i<2 ^ 62/\-(2 ^ 62)<=j/\j<2 ^ 62 then some (m_7 i (j-i).toNat,q.2) else none
noncomputable def u_2 (g:D->En->Option En) (R:FA) (B:FS) (ρ:En):Option Res:=bnd (R ρ) λ p=>fGo g B p.1 p.2
noncomputable def wGo (T:FT) (B:FS):Nat->FS
 |0,_=>none
 |n+1,ρ=>bnd (T ρ) λ p=>if p.1=true then bnd (B p.2) λ z=>goR (wGo T B n) z else some (.nx p.2)
theorem al7 (T:FT) (B:FS) (n:Nat) (ρ:En):wGo T B (n+1) ρ=bnd (T ρ) λ p=>if p.1=true then bnd (B p.2) λ z=>goR (wGo T B n) z else some (.nx p.2):=rfl
noncomputable def at9 (O:En->Nat) (T:FT) (B:FS) (ρ:En):Option Res:=wGo T B (O ρ) ρ
noncomputable def ao9 (A:FA) (ρ:En):Option (List D×En):=bnd (A ρ) λ p=>if p.1.length<=1000 then some p else none
noncomputable def am5 (i:Nat) (A:FA) (ρ:En):Option Res:=bnd (A ρ) λ p=>some (.nx (p.2.set i (.ow false (.lst p.1))))
noncomputable def owL:Option Sl->Option (List D)
 |some (.ow false (.lst ds))=>some ds
 |_=>none
noncomputable def al0 (i:Nat) (F:FE) (ρ:En):Option Res:=bnd (owL ρ[i]?) λ _=>bnd (F ρ) λ p=>bnd (owL p.2[i]?) λ ds=>if ds.length<1000000 then some (.nx (p.2.set i (.ow false (.lst (ds++[p.1]))))) else none
noncomputable def frz (i:Nat) (ρ:En):En:=match ρ[i]? with
 |some (.ow false (.lst ds))=>ρ.set i (.im (.lst ds))
 |_=>ρ
noncomputable def au0 (i:Nat) (F:FS) (ρ:En):Option Res:=F (frz i ρ)
noncomputable def ba9:Res->Option D
 |.rt d _=>some d
 |.nx _=>some .non
 |_=>none
noncomputable def fnD (n k:Nat) (B:FS) (ds:List D):Option D:=if ds.length=n then bnd (B (ds.map .im++List.replicate k .no)) λ r=>ba9 r else none
end Fx
namespace Fx
open PySem PySem.Spec PyProof.Rows L2
mutual
noncomputable def Rep (K:Frag) (H:Hp):D->V->Prop
 |.non,v=>v=.non
 |.bl b,v=>v=.bl b
 |.int i,v=>v=.int i
 |.str x,v=>v=.str x
 |.tup ds,v=>∃ a vs,v=.ref a/\SqT K H a vs/\Reps K H ds vs
 |.lst ds,v=>∃ a vs,v=.ref a/\SqL K H a vs/\Reps K H ds vs
 |.dct ks ds,v=>∃ a o vs,v=.ref a/\H a=some (.frz o (.dK ((ks.map Sum.inr).zip vs)))/\Reps K H ds vs/\ks.length=ds.length
noncomputable def Reps (K:Frag) (H:Hp):List D->List V->Prop
 |[],vs=>vs=[]
 |d::ds,vs=>∃ v r,vs=v::r/\Rep K H d v/\Reps K H ds r
end
theorem Same.rd {H H':Hp}{a:Addr}{u:HO} (e:Same H H') (h:Rd H a u):Rd H' a u:=by
 rcases h with h | ⟨o,h⟩
 ·exact .inl (e _ _ h)
 ·exact .inr ⟨o,e _ _ h⟩
theorem Same.seqT {K:Frag}{H H':Hp}{a:Addr}{xs:List V} (e:Same H H') (h:SqT K H a xs):SqT K H' a xs:=by
 rcases h with h | h
 ·exact .inl (Same.rd e h)
 ·exact .inr h
section
variable {K:Frag}{H H':Hp}
mutual
theorem Rep.mono (e:Same H H'):∀ (d:D) {v:V},Rep K H d v->Rep K H' d v
 |.non,_,h=>h
 |.bl _,_,h=>h
 |.int _,_,h=>h
 |.str _,_,h=>h
 |.tup ds,_,h=>by
  unfold Rep at h ⊢;obtain⟨a,vs,q,s,r⟩:=h;exact⟨a,vs,q,Same.seqT e s,Reps.mono e ds r⟩
 |.lst ds,_,h=>by
  unfold Rep at h ⊢;obtain⟨a,vs,q,s,r⟩:=h;exact⟨a,vs,q,Same.seq e s,Reps.mono e ds r⟩
 |.dct ks ds,_,h=>by
  unfold Rep at h ⊢;obtain⟨a,o,vs,q,s,r,l⟩:=h;exact⟨a,o,vs,q,e _ _ s,Reps.mono e ds r,l⟩
theorem Reps.mono (e:Same H H'):∀ (ds:List D) {vs:List V},Reps K H ds vs->Reps K H' ds vs
 |[],_,h=>h
 |d::ds,_,h=>by
  unfold Reps at h ⊢;obtain⟨v,r,q,s,t⟩:=h;exact⟨v,r,q,Rep.mono e d s,Reps.mono e ds t⟩
end
theorem Reps.length:∀ {ds:List D}{vs:List V},Reps K H ds vs->ds.length=vs.length
 |[],_,h=>by unfold Reps at h;rw[h];rfl
 |d::ds,_,h=>by
  unfold Reps at h;obtain⟨v,r,q,_,t⟩:=h;rw[q,List.length_cons,List.length_cons,Reps.length t]
theorem Reps.get:∀ {ds:List D}{vs:List V}{i:Nat}{d:D},Reps K H ds vs->ds[i]?=some d->∃ v,vs[i]?=some v/\Rep K H d v
 |[],_,_,_,_,e=>by simp at e
 |d::ds,_,0,_,h,e=>by
  unfold Reps at h;obtain⟨v,r,rfl,s,_⟩:=h;simp at e;subst e;exact⟨v,rfl,s⟩
 |d::ds,_,i+1,d',h,e=>by
  unfold Reps at h;obtain⟨v,r,rfl,_,t⟩:=h;obtain⟨w,a,b⟩:=Reps.get (i:=i) (d:=d') t (by simpa using e)
  exact⟨w,by simpa using a,b⟩
theorem Reps.app:∀ {ds es:List D}{vs O:List V},Reps K H ds vs->Reps K H es O->Reps K H (ds++es) (vs++O)
 |[],_,_,_,h,h'=>by unfold Reps at h;rw[h];exact h'
 |d::ds,es,_,O,h,h'=>by
  unfold Reps at h;obtain⟨v,r,rfl,s,t⟩:=h;show Reps K H (d::(ds++es)) (v::(r++O));unfold Reps;exact⟨v,r++O,rfl,s,Reps.app t h'⟩
theorem Reps.take:∀ {ds:List D}{vs:List V} (n:Nat),Reps K H ds vs->Reps K H (ds.take n) (vs.take n)
 |[],_,n,h=>by unfold Reps at h;rw[h];simp[Reps]
 |d::ds,vs,0,h=>by simp[Reps]
 |d::ds,_,n+1,h=>by
  unfold Reps at h;obtain⟨v,r,rfl,s,t⟩:=h;show Reps K H (d::ds.take n) (v::r.take n);unfold Reps;exact⟨v,r.take n,rfl,s,Reps.take n t⟩
theorem Reps.drop:∀ {ds:List D}{vs:List V} (n:Nat),Reps K H ds vs->Reps K H (ds.drop n) (vs.drop n)
 |[],_,n,h=>by unfold Reps at h;rw[h];simp[Reps]
 |d::ds,vs,0,h=>by simpa using h
 |d::ds,_,n+1,h=>by
  unfold Reps at h;obtain⟨v,r,rfl,s,t⟩:=h
  simpa using Reps.drop n t
theorem Reps.one {d:D}{v:V} (h:Rep K H d v):Reps K H [d] [v]:=by
 unfold Reps Reps;exact⟨v,[],rfl,h,rfl⟩
theorem Reps.cons {d:D}{ds:List D}{v:V}{vs:List V} (h:Rep K H d v) (t:Reps K H ds vs):Reps K H (d::ds) (v::vs):=by
 unfold Reps;exact⟨v,vs,rfl,h,t⟩
theorem Reps.nil_:Reps K H [] []:=by unfold Reps;rfl
end
structure FC where
 Hi:Hp
 He:Hp
 Ap:List Addr
noncomputable def OwOk (K:Frag) (H0 H:Hp) (a:Addr):MO->Prop
 |.lst ds=>∃ vs,H a=some (.lst vs)/\Reps K H0 ds vs
 |.dic kds=>∃ ks vs,H a=some (.dK ((ks.map Sum.inr).zip vs))/\ks=kds.map (·.1)/\Reps K H0 (kds.map (·.2)) vs
structure RS (K:Frag) (c:FC) (H0 H:Hp) (ρ:En) (σ:L2.St):Prop where
 same:Same H0 H
 init:Same c.Hi H0
 fresh:∀ b o,H0 b=some o->c.Hi b=some o\/c.He b=none
 keep:∀ b o,c.He b=some o->b∉c.Ap->H b=some o
 apt:∀ a∈c.Ap,H a≠none
 len:ρ.length=σ.length
 im:∀ (i:Nat) (d:D),ρ[i]?=some (.im d)->∃ v,σ[i]?=some (some v)/\Rep K H0 d v
 ow:∀ (i:Nat) (b:Bool) (o:MO),ρ[i]?=some (.ow b o)->∃ a,σ[i]?=some (some (.ref a))/\H0 a=none/\(if b=true then a∈c.Ap else c.He a=none)/\OwOk K H0 H a o
 ne:∀ (i j:Nat) (b b':Bool) (o o':MO) (a:Addr),ρ[i]?=some (.ow b o)->ρ[j]?=some (.ow b' o')->σ[i]?=some (some (.ref a))->σ[j]?=some (some (.ref a))->i=j
section
variable {K:Frag}{c:FC}{H0 H H0' H':Hp}{ρ:En}{σ:L2.St}
theorem OwOk.some {a:Addr}{o:MO} (h:OwOk K H0 H a o):∃ u,H a=Option.some u:=by
 cases o with
 |lst ds=>obtain⟨vs,e,_⟩:=h;exact⟨_,e⟩
 |dic ds=>obtain⟨ks,vs,e,_⟩:=h;exact⟨_,e⟩
theorem OwOk.step {a:Addr}{o:MO} (h:OwOk K H0 H a o) (O:Same H0 H0') (s:∀ u,H a=Option.some u->H' a=Option.some u):OwOk K H0' H' a o:=by
 cases o with
 |lst ds=>obtain⟨vs,e,r⟩:=h;exact⟨vs,s _ e,Reps.mono O ds r⟩
 |dic ds=>obtain⟨ks,vs,e,q,r⟩:=h;exact⟨ks,vs,s _ e,q,Reps.mono O _ r⟩
structure Step (H0 H H0' H':Hp):Prop where
 s0:Same H0 H0'
 s:Same H H'
 s':Same H0' H'
 fr:∀ b o,H0' b=some o->H0 b=some o\/H b=none
theorem RS.after (R:RS K c H0 H ρ σ) (S:Step H0 H H0' H'):RS K c H0' H' ρ σ:=by
 refine⟨S.s',R.init.trans S.s0,λ b o e=>?_,λ b o e n=>S.s _ _ (R.keep b o e n),λ a Y e=>?_,R.len,λ i d e=>?_,λ i b o e=>?_,R.ne⟩
 ·rcases S.fr b o e with h | h
  ·exact R.fresh b o h
  ·refine .inr ?_
   cases q:c.He b with
   |none=>rfl
   |some u =>
    by_cases O:b∈c.Ap
    ·exact absurd h (R.apt b O)
    ·rw[R.keep b u q O] at h;cases h
 ·cases q:H a with
  |none=>exact R.apt a Y q
  |some u=>rw[S.s _ _ q] at e;cases e
 ·obtain⟨v,a,b⟩:=R.im i d e
  exact⟨v,a,Rep.mono S.s0 d b⟩
 ·obtain⟨a,x,y,z,w⟩:=R.ow i b o e
  refine⟨a,x,?_,z,w.step S.s0 λ u q=>S.s _ _ q⟩
  obtain⟨u,q⟩:=w.some;cases t:H0' a with
  |none=>rfl
  |some o' =>
   rcases S.fr a o' t with h | h
   ·rw[y] at h;cases h
   ·rw[q] at h;cases h
theorem Step.refl (s:Same H0 H):Step H0 H H0 H:=⟨Same.refl _,Same.refl _,s,λ _ _ e=>.inl e⟩
theorem Step.trans {A B:Hp} (x:Step H0 H H0' H') (y:Step H0' H' A B):Step H0 H A B:=by
 refine⟨x.s0.trans y.s0,x.s.trans y.s,y.s',λ b o e=>?_⟩
 rcases y.fr b o e with h | h
 ·exact x.fr b o h
 ·exact .inr (x.s.free h)
theorem Step.alloc {p:Addr}{o:HO} (s:Same H0 H) (R:H p=none):Step H0 H (upd H0 p o) (upd H p o):=by
 have Y:H0 p=none:=s.free R;refine⟨λ b u e=>by rw[a_8 (a_2 e Y)];exact e,λ b u e=>by rw[a_8 (a_2 e R)];exact e,λ b u e=>?_,λ b u e=>?_⟩
 ·by_cases O:b=p
  ·subst O;rw[a_9] at e ⊢;exact e
  ·rw[a_8 O] at e ⊢;exact s _ _ e
 ·by_cases O:b=p
  ·subst O;exact .inr R
  ·rw[a_8 O] at e;exact .inl e
end
noncomputable def tE (K:Frag) (F:FE):TE:=λ σ H Q=>∃ c H0 ρ d O,RS K c H0 H ρ σ/\F ρ=some (d,O)/\∀ v H0' H',Same H0 H0'->RS K c H0' H' O σ->Rep K H0' d v->Q v H'
noncomputable def tTt (K:Frag) (F:FT):TT:=λ σ H Q=>∃ c H0 ρ b O,RS K c H0 H ρ σ/\F ρ=some (b,O)/\∀ H0' H',Same H0 H0'->RS K c H0' H' O σ->Q b H'
noncomputable def tAa (K:Frag) (F:FA):TA:=λ σ H Q=>∃ c H0 ρ ds O,RS K c H0 H ρ σ/\F ρ=some (ds,O)/\∀ vs H0' H',Same H0 H0'->RS K c H0' H' O σ->Reps K H0' ds vs->Q vs H'
noncomputable def tOo (K:Frag) (F:FO):TO:=λ σ H Q=>∃ c H0 ρ o O,RS K c H0 H ρ σ/\F ρ=some (o,O)/\∀ H0' H',Same H0 H0'->RS K c H0' H' O σ->Q o H'
noncomputable def XE (X:Cx) (e:Expr) (F:FE):Prop:=PE X e (tE X.K F)
noncomputable def XT (X:Cx) (e:Expr) (F:FT):Prop:=PT X e (tTt X.K F)
noncomputable def XW (X:Cx) (e:Expr) (F:FT):Prop:=PW X e (tTt X.K F)
noncomputable def XA (X:Cx) (es:List Expr) (F:FA):Prop:=PA X es (tAa X.K F)
noncomputable def XO (X:Cx) (e:Option Expr) (F:FO):Prop:=PO X e (tOo X.K F)
theorem a_1 {α O:Type}{x:Option α}{f:α->Option O}{b:O} (h:bnd x f=some b):∃ a,x=some a/\f a=some b:=by
 cases x with
 |none=>cases h
 |some a=>exact⟨a,rfl,h⟩
theorem PE.wk {X:Cx}{e:Expr}{t t':TE} (h:PE X e t) (w:∀ σ H Q,t' σ H Q->t σ H Q):PE X e t':=λ pins s σ H Q I q=>h pins s σ H Q I (w σ H Q q)
theorem PT.wk {X:Cx}{e:Expr}{t t':TT} (h:PT X e t) (w:∀ σ H Q,t' σ H Q->t σ H Q):PT X e t':=λ pins s σ H Q I q=>h pins s σ H Q I (w σ H Q q)
theorem PW.wk {X:Cx}{e:Expr}{t t':TT} (h:PW X e t) (w:∀ σ H Q,t' σ H Q->t σ H Q):PW X e t':=λ O pins s σ H Q I q=>h O pins s σ H Q I (w σ H Q q)
theorem PA.wk {X:Cx}{e:List Expr}{t t':TA} (h:PA X e t) (w:∀ σ H Q,t' σ H Q->t σ H Q):PA X e t':=λ pos pins s σ H Q I q=>h pos pins s σ H Q I (w σ H Q q)
theorem PS.wk {X:Cx}{e:Stmt}{t t':TS} (h:PS X e t) (w:∀ D σ H,t' D σ H->t D σ H):PS X e t':=λ pins s σ H D I q=>h pins s σ H D I (w D σ H q)
theorem PSs.wk {X:Cx}{e:List Stmt}{t t':TS} (h:PSs X e t) (w:∀ D σ H,t' D σ H->t D σ H):PSs X e t':=λ pins s σ H D I q=>h pins s σ H D I (w D σ H q)
section
variable {X:Cx}{pos:Pos}{a b e:Expr}{F G L:FE}{T U:FT}
theorem xv (i:Nat) {x:Str} (hN:X.N[i]?=some x:=by rfl) (hv:Vis X.env.scope x:=by first | exact Or.inl rfl | exact Or.inr (Or.inl rfl) | exact Or.inr (Or.inr rfl)) (hd:(x==("__debug__":Str))=false:=by decide)
  (Z:(x==("__classdict__":Str))=false:=by decide):XE X (.Name x pos) (eV i) :=
 PE.wk (u_3 hN hv hd Z) λ σ H Q O=>by
  obtain⟨c,H0,ρ,d,Y,R,f,q⟩:=O;unfold eV at f;cases z:ρ[i]? with
  |none=>rw[z] at f;cases f
  |some sl =>
   rw[z] at f;cases sl with
   |no=>cases f
   |ow b o=>cases f
   |im d' =>
    have f':some (d',ρ)=some (d,Y):=f;cases f';obtain⟨v,e1,e2⟩:=R.im i _ z;exact⟨v,e1,q v H0 H (Same.refl _) R e2⟩
theorem x_2:XE X e v_1:=λ pins s σ H Q I O=>by obtain⟨c,H0,ρ,d,Y,R,f,q⟩:=O;cases f
theorem C_6 {d d':D}{ρ O:En} (h:eC d ρ=some (d',O)):d'=d/\O=ρ:=by
 have h':some (d,ρ)=some (d',O):=h;cases h';exact⟨rfl,rfl⟩
theorem a_4 {i:Int}{j}:XE X (.Constant (.int i) j pos) (zI i):=PE.wk A_9 λ σ H Q O=>by
 obtain⟨c,H0,ρ,d,Y,R,f,q⟩:=O;obtain⟨rfl,rfl⟩:=C_6 f;exact q _ H0 H (Same.refl _) R (by unfold Rep;rfl)
theorem xbl {i:Bool}{j}:XE X (.Constant (.bool i) j pos) (eC (.bl i)):=PE.wk bb6 λ σ H Q O=>by
 obtain⟨c,H0,ρ,d,Y,R,f,q⟩:=O;obtain⟨rfl,rfl⟩:=C_6 f;exact q _ H0 H (Same.refl _) R (by unfold Rep;rfl)
theorem l_1 {j}:XE X (.Constant .none j pos) (eC .non):=PE.wk au6 λ σ H Q O=>by
 obtain⟨c,H0,ρ,d,Y,R,f,q⟩:=O;obtain⟨rfl,rfl⟩:=C_6 f;exact q _ H0 H (Same.refl _) R (by unfold Rep;rfl)
theorem m_5 {x:Str}{j}:XE X (.Constant (.str x) j pos) (eC (.str x)):=PE.wk aO6 λ σ H Q O=>by
 obtain⟨c,H0,ρ,d,Y,R,f,q⟩:=O;obtain⟨rfl,rfl⟩:=C_6 f;exact q _ H0 H (Same.refl _) R (by unfold Rep;rfl)
abbrev Aft (K:Frag) (c:FC) (H0:Hp) (ρ:En) (σ:L2.St) (d:D) (Q:VK):Prop:=∀ v H0' H',Same H0 H0'->RS K c H0' H' ρ σ->Rep K H0' d v->Q v H'
noncomputable def OpD (K:Frag) (r:R2) (op:D->D->Option D):Prop:=∀ (c:FC) (H0 H:Hp) (ρ:En) (σ:L2.St) (x y d:D) (O R:V) (Q:VK),RS K c H0 H ρ σ->Rep K H0 x O->Rep K H0 y R->op x y=some d->Aft K c H0 ρ σ d Q->r O R H Q
noncomputable def P_7 (X:Cx) (op:Operator) (f:D->D->Option D):Prop:=∃ r,OpR X (binaryOp op) r/\OpD X.K r f
noncomputable def x_0 (X:Cx) (op:CmpOp) (f:D->D->Option D):Prop:=∃ r,OpR X (compareOp op) r/\OpD X.K r f
theorem aU1 {op:D->D->Option D}{ρ R:En}{d:D} (h:e2 op F G ρ=some (d,R)):∃ x O y,F ρ=some (x,O)/\G O=some (y,R)/\op x y=some d:=by
 unfold e2 at h;obtain⟨⟨x,O⟩,h1,h⟩:=a_1 h;obtain⟨⟨y,Y⟩,h2,h⟩:=a_1 h;obtain⟨z,Z,h⟩:=a_1 h;have h':some (z,Y)=some (d,R):=h;cases h';exact⟨x,O,y,h1,h2,Z⟩
theorem T_5 {K:Frag}{op:D->D->Option D}{r:R2} (o:OpD K r op) {σ:L2.St}{H:Hp}{Q:VK} (h:tE K (e2 op F G) σ H Q):tOp r (tE K F) (tE K G) σ H Q:=by
 obtain⟨c,H0,ρ,d,O,R,f,q⟩:=h;obtain⟨x,Y,y,h1,h2,h3⟩:=aU1 f;refine⟨c,H0,ρ,x,Y,R,h1,λ vx H1 Hh s1 R1 r1=>?_⟩
 refine⟨c,H1,Y,y,O,R1,h2,λ vy H2 Hh2 Z R2 r2=>?_⟩
 exact o c H2 Hh2 O σ x y d vx vy Q R2 (Rep.mono Z x r1) r2 h3 λ v H3 Hh3 s3 R3 r3=>q v H3 Hh3 (s1.trans (Z.trans s3)) R3 r3
theorem xb {op:Operator}{f:D->D->Option D} (o:P_7 X op f) (R:XE X a F) (O:XE X b G):XE X (.BinOp a op b pos) (e2 f F G):=by
 obtain⟨r,h1,h2⟩:=o;exact PE.wk (aO9 h1 R O) λ σ H Q h=>T_5 h2 h
theorem K_6 {op:CmpOp}{f:D->D->Option D} (o:x_0 X op f) (R:XE X a F) (O:XE X b G) (Y:behindInMarks op b=false:=by first | exact au9 _ | with_unfolding_all rfl):XE X (.Compare a [op] [b] pos) (e2 f F G):=by
 obtain⟨r,h1,h2⟩:=o;exact PE.wk (aA9 h1 R O Y) λ σ H Q h=>T_5 h2 h
theorem aL7 {K:Frag}{t:TE}{σ:L2.St}{H:Hp}{Q:Bool->Hp->Prop} (w:∀ Q,tE K F σ H Q->t σ H Q) (h:tTt K (tB F) σ H Q):ac9 t σ H Q:=by
 obtain⟨c,H0,ρ,b,O,R,f,q⟩:=h;unfold tB at f;obtain⟨⟨d,Y⟩,h1,f⟩:=a_1 f;obtain⟨b',h2,f⟩:=a_1 f;have f':some (b',Y)=some (b,O):=f;cases f';refine w _ ⟨c,H0,ρ,d,_,R,h1,λ v H1 Hh s1 R1 Z=>?_⟩
 cases d with
 |bl k =>
  have e:k=b:=qi h2;unfold Rep at Z;exact⟨k,Z,by rw[e];exact q H1 Hh s1 R1⟩
 |_=>cases h2
theorem xt {op:CmpOp}{f:D->D->Option D} (o:x_0 X op f) (R:XE X a F) (O:XE X b G) (Y:behindInMarks op b=false:=by first | exact au9 _ | with_unfolding_all rfl):XT X (.Compare a [op] [b] pos) (tB (e2 f F G)):=by
 obtain⟨r,h1,h2⟩:=o;exact PT.wk (Q_7 h1 R O Y) λ σ H Q h=>aL7 (λ Q h=>T_5 h2 h) h
theorem am0 {K:Frag}{op Y:D->D->Option D}{r r':R2} (o:OpD K r op) (o':OpD K r' Y) {σ:L2.St}{H:Hp}{Q:VK} (h:tE K (e3 op Y F G L) σ H Q):at7 r r' (tE K F) (tE K G) (tE K L) σ H Q:=by
 obtain⟨c,H0,ρ,d,Z,R,f,q⟩:=h;unfold e3 at f;obtain⟨⟨x,aa⟩,h1,f⟩:=a_1 f;obtain⟨⟨y,O⟩,h2,f⟩:=a_1 f;obtain⟨z,h3,f⟩:=a_1 f;obtain⟨k,h4,f⟩:=a_1 f;dsimp only at h2 h3 h4 f;refine⟨c,H0,ρ,x,aa,R,h1,λ vx H1 Hh s1 R1 r1=>?_⟩
 refine⟨c,H1,aa,y,O,R1,h2,λ vy H2 Hh2 s2 R2 r2=>?_⟩
 refine o c H2 Hh2 O σ x y z vx vy _ R2 (Rep.mono s2 x r1) r2 h3 λ v H3 Hh3 s3 R3 r3=>?_
 cases z with
 |bl k' =>
  have e:k'=k:=qi h4;subst e;unfold Rep at r3;refine⟨k',r3,?_⟩;cases k' with
  |false =>
   rw[if_neg Bool.false_ne_true] at f ⊢;have f':some (D.bl false,O)=some (d,Z):=f;cases f';exact q _ H3 Hh3 (s1.trans (s2.trans s3)) R3 (by unfold Rep;rfl)
  |true =>
   rw[if_pos rfl] at f ⊢;obtain⟨⟨w,ab⟩,h5,f⟩:=a_1 f;obtain⟨d',h6,f⟩:=a_1 f;dsimp only at h6 f;have f':some (d',ab)=some (d,Z):=f;cases f';refine⟨c,H3,O,w,_,R3,h5,λ vw H4 Hh4 s4 R4 r4=>?_⟩
   exact o' c H4 Hh4 _ σ y w d vy vw Q R4 (Rep.mono s4 y (Rep.mono s3 y r2)) r4 h6 λ v H5 Hh5 s5 R5 r5=>q v H5 Hh5 (s1.trans (s2.trans (s3.trans (s4.trans s5)))) R5 r5
 |_=>cases h4
theorem xt3 {op O:CmpOp}{f Z:D->D->Option D}{m:Expr} (o:x_0 X op f) (o':x_0 X O Z) (ha:XE X a F) (hb:XE X b G) (hc:XE X m L) (hm:lastMarks [op,O] [b,m]=false:=by with_unfolding_all rfl):XT X (.Compare a [op,O] [b,m] pos) (tB (e3 f Z F G L)):=by
 obtain⟨r,h1,h2⟩:=o;obtain⟨r',R,Y⟩:=o';exact PT.wk (am9 h1 R ha hb hc hm) λ σ H Q h=>aL7 (λ Q h=>am0 h2 Y h) h
theorem xif {c:Expr} (hc:XT X c T) (ha:XE X a F) (hb:XE X b G):XE X (.IfExp c a b pos) (eIf T F G):=PE.wk (ao5 hc ha hb) λ σ H Q Y=>by
 obtain⟨c,H0,ρ,d,Z,R,f,q⟩:=Y;unfold eIf at f;obtain⟨⟨k,O⟩,h1,f⟩:=a_1 f;dsimp only at f;refine⟨c,H0,ρ,k,O,R,h1,λ H1 Hh s1 R1=>?_⟩
 cases k with
 |true =>
  rw[if_pos rfl] at f ⊢;exact⟨c,H1,O,d,Z,R1,f,λ v H2 Hh2 s2 R2 r2=>q v H2 Hh2 (s1.trans s2) R2 r2⟩
 |false =>
  rw[if_neg Bool.false_ne_true] at f ⊢;exact⟨c,H1,O,d,Z,R1,f,λ v H2 Hh2 s2 R2 r2=>q v H2 Hh2 (s1.trans s2) R2 r2⟩
theorem as4 {op} (h:XE X a F):XE X (.BoolOp op [a] pos) F:=aP0 h
variable {rest:List Expr}
theorem aI9 (ha:XE X a F) (hb:XE X (.BoolOp .And (b::rest) pos) G):XE X (.BoolOp .And (a::b::rest) pos) (aq6 F G):=PE.wk (aP4 ha hb) λ σ H Q Y=>by
 obtain⟨c,H0,ρ,d,Z,R,f,q⟩:=Y;unfold aq6 at f;obtain⟨⟨z,O⟩,h1,f⟩:=a_1 f;obtain⟨k,h2,f⟩:=a_1 f;dsimp only at h2 f;refine⟨c,H0,ρ,z,O,R,h1,λ v H1 Hh s1 R1 r1=>?_⟩
 cases z with
 |bl k' =>
  have e:k'=k:=qi h2;subst e;unfold Rep at r1;refine⟨k',r1,?_⟩;cases k' with
  |true =>
   rw[if_pos rfl] at f ⊢;exact⟨c,H1,O,d,Z,R1,f,λ v H2 Hh2 s2 R2 r2=>q v H2 Hh2 (s1.trans s2) R2 r2⟩
  |false =>
   rw[if_neg Bool.false_ne_true] at f ⊢;have f':some (D.bl false,O)=some (d,Z):=f;cases f';exact q _ H1 Hh s1 R1 (by unfold Rep;rfl)
 |_=>cases h2
theorem xor (ha:XE X a F) (hb:XE X (.BoolOp .Or (b::rest) pos) G):XE X (.BoolOp .Or (a::b::rest) pos) (eOr F G):=PE.wk (bb4 ha hb) λ σ H Q Y=>by
 obtain⟨c,H0,ρ,d,Z,R,f,q⟩:=Y;unfold eOr at f;obtain⟨⟨z,O⟩,h1,f⟩:=a_1 f;obtain⟨k,h2,f⟩:=a_1 f;dsimp only at h2 f;refine⟨c,H0,ρ,z,O,R,h1,λ v H1 Hh s1 R1 r1=>?_⟩
 cases z with
 |bl k' =>
  have e:k'=k:=qi h2;subst e;unfold Rep at r1;refine⟨k',r1,?_⟩;cases k' with
  |true =>
   rw[if_pos rfl] at f ⊢;have f':some (D.bl true,O)=some (d,Z):=f;cases f';exact q _ H1 Hh s1 R1 (by unfold Rep;rfl)
  |false =>
   rw[if_neg Bool.false_ne_true] at f ⊢;exact⟨c,H1,O,d,Z,R1,f,λ v H2 Hh2 s2 R2 r2=>q v H2 Hh2 (s1.trans s2) R2 r2⟩
 |_=>cases h2
theorem bo8 (ha:XE X a F):XE X (.UnaryOp .Not a pos) (aX0 F):=PE.wk (aP1 ha) λ σ H Q O=>by
 obtain⟨c,H0,ρ,d,Y,R,f,q⟩:=O;unfold aX0 at f;obtain⟨⟨z,Z⟩,h1,f⟩:=a_1 f;obtain⟨k,h2,f⟩:=a_1 f;dsimp only at h2 f;have f':some (D.bl (!k),Z)=some (d,Y):=f;cases f';refine⟨c,H0,ρ,z,_,R,h1,λ v H1 Hh s1 R1 r1=>?_⟩
 cases z with
 |bl k' =>
  have e:k'=k:=qi h2;subst e;unfold Rep at r1;exact⟨k',r1,q _ H1 Hh s1 R1 (by unfold Rep;rfl)⟩
 |_=>cases h2
theorem xw (h:XW X a T):XT X a T:=PW.pt h
theorem x_1 (O:XT X a T):XW X (.BoolOp .And [a] pos) T:=az9 O
theorem D_4 (O:XT X a T):XW X (.BoolOp .Or [a] pos) T:=au3 O
theorem K_8 (ha:XT X a T) (hb:XW X (.BoolOp .And (b::rest) pos) U):XW X (.BoolOp .And (a::b::rest) pos) (tAnd T U):=PW.wk (aN9 ha hb) λ σ H Q Y=>by
 obtain⟨c,H0,ρ,k,Z,R,f,q⟩:=Y;unfold tAnd at f;obtain⟨⟨k',O⟩,h1,f⟩:=a_1 f;dsimp only at f;refine⟨c,H0,ρ,k',O,R,h1,λ H1 Hh s1 R1=>?_⟩
 cases k' with
 |true =>
  rw[if_pos rfl] at f ⊢;exact⟨c,H1,O,k,Z,R1,f,λ H2 Hh2 s2 R2=>q H2 Hh2 (s1.trans s2) R2⟩
 |false =>
  rw[if_neg Bool.false_ne_true] at f ⊢;have f':some (false,O)=some (k,Z):=f;cases f';exact q H1 Hh s1 R1
theorem ab3 (ha:XT X a T) (hb:XW X (.BoolOp .Or (b::rest) pos) U):XW X (.BoolOp .Or (a::b::rest) pos) (tOr T U):=PW.wk (aN8 ha hb) λ σ H Q Y=>by
 obtain⟨c,H0,ρ,k,Z,R,f,q⟩:=Y;unfold tOr at f;obtain⟨⟨k',O⟩,h1,f⟩:=a_1 f;dsimp only at f;refine⟨c,H0,ρ,k',O,R,h1,λ H1 Hh s1 R1=>?_⟩
 cases k' with
 |true =>
  rw[if_pos rfl] at f ⊢;have f':some (true,O)=some (k,Z):=f;cases f';exact q H1 Hh s1 R1
 |false =>
  rw[if_neg Bool.false_ne_true] at f ⊢;exact⟨c,H1,O,k,Z,R1,f,λ H2 Hh2 s2 R2=>q H2 Hh2 (s1.trans s2) R2⟩
theorem G_1 (ha:XT X a T):XT X (.UnaryOp .Not a pos) (tNot T):=PT.wk (aO0 ha) λ σ H Q O=>by
 obtain⟨c,H0,ρ,k,Y,R,f,q⟩:=O;unfold tNot at f;obtain⟨⟨k',Z⟩,h1,f⟩:=a_1 f;have f':some (!k',Z)=some (k,Y):=f;cases f';exact⟨c,H0,ρ,k',_,R,h1,λ H1 Hh s1 R1=>q H1 Hh s1 R1⟩
theorem as8 {K:Frag}{H0 H:Hp}{d:D}{v:V}{k:Bool} (s:Same H0 H) (r:Rep K H0 d v) (h:aw7 d=some k):aX5 K v H k:=by
 cases d with
 |non=>unfold Rep at r;subst r;cases h;rfl
 |bl b=>unfold Rep at r;subst r;cases h;rfl
 |int i=>unfold Rep at r;subst r;cases h;rfl
 |str x=>cases h
 |dct ks vs=>cases h
 |tup ds =>
  unfold Rep at r;obtain⟨p,vs,rfl,q,t⟩:=r;have e:(!ds.isEmpty)=k:=qi h;have e2:ds.isEmpty=vs.isEmpty:=by rw[Bool.eq_iff_iff,List.isEmpty_iff_length_eq_zero,List.isEmpty_iff_length_eq_zero,t.length]
  exact .inr (.inl ⟨vs,Same.seqT s q,by rw[<- e2];exact e.symm⟩)
 |lst ds =>
  unfold Rep at r;obtain⟨p,vs,rfl,q,t⟩:=r;have e:(!ds.isEmpty)=k:=qi h;have e2:ds.isEmpty=vs.isEmpty:=by rw[Bool.eq_iff_iff,List.isEmpty_iff_length_eq_zero,List.isEmpty_iff_length_eq_zero,t.length]
  exact .inl ⟨vs,Same.seq s q,by rw[<- e2];exact e.symm⟩
theorem xtv (ha:XE X a F) (he:∀ O,isTrue a X.env O=(do let v <- O;standAt a.pos;holding [v] (truthy v))):XT X a (tV F):=PT.wk (am8 ha he) λ σ H Q Y=>by
 obtain⟨c,H0,ρ,k,Z,R,f,q⟩:=Y;unfold tV at f;obtain⟨⟨d,aa⟩,h1,f⟩:=a_1 f;obtain⟨k',h2,f⟩:=a_1 f;have f':some (k',aa)=some (k,Z):=f;cases f';exact⟨c,H0,ρ,d,_,R,h1,λ v H1 Hh s1 R1 r1=>⟨k,as8 R1.same r1 h2,q H1 Hh s1 R1⟩⟩
theorem xaN:XA X [] aN:=PA.wk u_4 λ σ H Q O=>by
 obtain⟨c,H0,ρ,ds,Y,R,f,q⟩:=O;have Z:some (([]:List D),ρ)=some (ds,Y):=f;cases Z;exact q [] H0 H (Same.refl _) R Reps.nil_
theorem xaC {es:List Expr}{A:FA} (ha:XE X e F) (hr:XA X es A) (hs:starEach (e::es) X.env=(false,eval e X.env)::starEach es X.env:=by rfl):XA X (e::es) (aC F A):=PA.wk (o_0 ha hr hs) λ σ H Q O=>by
 obtain⟨c,H0,ρ,ds,aa,R,f,q⟩:=O;unfold aC at f;obtain⟨⟨d,Y⟩,h1,f⟩:=a_1 f;obtain⟨⟨r,Z⟩,h2,f⟩:=a_1 f;have f':some (d::r,Z)=some (ds,aa):=f;cases f';refine⟨c,H0,ρ,d,Y,R,h1,λ v H1 Hh s1 R1 r1=>?_⟩
 refine⟨c,H1,Y,r,_,R1,h2,λ vs H2 Hh2 s2 R2 r2=>?_⟩
 exact q _ H2 Hh2 (s1.trans s2) R2 (Reps.cons (Rep.mono s2 d r1) r2)
theorem ay4 {n:Nat} (h:n<=1000):n<=sizeLine:=Nat.le_of_lt (L_3 h)
theorem K_4 {es:List Expr}{A:FA}{x1} (h:XA X es A):XE X (.Tuple es x1 pos) (m_6 A):=PE.wk (aO5 h) λ σ H Q O=>by
 obtain⟨c,H0,ρ,d,aa,R,f,q⟩:=O;unfold m_6 at f;obtain⟨⟨ds,ab⟩,h1,f⟩:=a_1 f;dsimp only at f
 split at f
 ·rename_i hl
  cases f;refine⟨c,H0,ρ,ds,_,R,h1,λ vs H1 Hh s1 Y Z=>⟨by rw[<- Z.length];exact ay4 hl,λ p hp=>?_⟩⟩
  have S:=Step.alloc (o:=.tup vs) Y.same hp;refine q _ _ _ (s1.trans S.s0) (Y.after S) ?_;unfold Rep;exact⟨p,vs,rfl,.inl (.inl a_9),Reps.mono S.s0 ds Z⟩
 ·cases f
theorem K_5 {es:List Expr}{A:FA} (h:XA X es A):XE X (.List es pos) (r_7 A):=PE.wk (V_0 h) λ σ H Q O=>by
 obtain⟨c,H0,ρ,d,aa,R,f,q⟩:=O;unfold r_7 at f;obtain⟨⟨ds,ab⟩,h1,f⟩:=a_1 f;dsimp only at f
 split at f
 ·rename_i hl
  cases f;refine⟨c,H0,ρ,ds,_,R,h1,λ vs H1 Hh s1 Y Z=>⟨by rw[<- Z.length];exact ay4 hl,λ p hp=>?_⟩⟩
  have S:=Step.alloc (o:=.lst vs) Y.same hp;refine q _ _ _ (s1.trans S.s0) (Y.after S) ?_;unfold Rep;exact⟨p,vs,rfl,.inl (.inl a_9),Reps.mono S.s0 ds Z⟩
 ·cases f
theorem aU4:@dPl=@ixN:=rfl
theorem aV9 {K:Frag}{H:Hp}{ds:List D}{vs:List V}{i:Int}{d:D} (r:Reps K H ds vs) (h:atD ds i=some d):∃ v,atI vs i=some v/\Rep K H d v:=by
 unfold atD at h;obtain⟨j,h1,h2⟩:=a_1 (x:=dPl ds.length i) (f:=λ j=>ds[j]?) h
 obtain⟨v,e1,e2⟩:=r.get h2;refine⟨v,?_,e2⟩;unfold atI;rw[<- r.length,<- aU4,h1];exact e1
theorem PO.wk {X:Cx}{e:Option Expr}{t t':TO} (h:PO X e t) (w:∀ σ H Q,t' σ H Q->t σ H Q):PO X e t':=λ pins s σ H Q I q=>h pins s σ H Q I (w σ H Q q)
theorem xoN:XO X none oN:=PO.wk aA5 λ σ H Q O=>by
 obtain⟨c,H0,ρ,o,Y,R,f,q⟩:=O;have Z:some ((none:Option Int),ρ)=some (o,Y):=f;cases Z;exact q H0 H (Same.refl _) R
theorem xoS (h:XE X e F):XO X (some e) (oS F):=PO.wk (aA4 h) λ σ H Q O=>by
 obtain⟨c,H0,ρ,o,Y,R,f,q⟩:=O;unfold oS at f;obtain⟨⟨d,Z⟩,h1,f⟩:=a_1 f;obtain⟨i,h2,f⟩:=a_1 f;dsimp only at h2 f;have f':some (some i,Z)=some (o,Y):=f;cases f';refine⟨c,H0,ρ,d,_,R,h1,λ v H1 Hh s1 R1 r1=>?_⟩
 cases d with
 |int j =>
  have e:j=i:=qi h2;subst e;unfold Rep at r1;exact⟨j,r1,q H1 Hh s1 R1⟩
 |_=>cases h2
theorem J_4 (n d:Nat) (o:Option Int):al3 n d o=HT.sIx n d o:=by cases o <;> rfl
theorem aw8 {K:Frag}{H:Hp}{ds:List D}{vs:List V} (r:Reps K H ds vs) (lo hi:Option Int):Reps K H (aK1 ds lo hi) (al5 vs lo hi):=by
 unfold aK1 al5;rw[J_4,J_4,r.length];exact (r.drop _).take _
end
section
variable {X:Cx}{K:Frag}
theorem G_9 {C:Int->Int->Prop}{g:Int->Int->V}{f:D->D->Option D} (h:∀ x y d,f x y=some d->∃ i j,x=.int i/\y=.int j/\C i j/\∀ H,Rep K H d (g i j)):OpD K (rI C g) f:=λ c H0 H ρ σ x y d vx vy Q R O Y e q=>by
 obtain⟨i,j,rfl,rfl,Z,hr⟩:=h x y d e;unfold Rep at O Y;exact⟨i,j,O,Y,Z,q _ H0 H (Same.refl _) R (hr H0)⟩
theorem V_1 {g:Int->Int->V}{f:D->D->Option D} (h:∀ x y d,f x y=some d->∃ i j,x=.int i/\y=.int j/\∀ H,Rep K H d (g i j)):OpD K (rI0 g) f:=λ c H0 H ρ σ x y d vx vy Q R O Y e q=>by
 obtain⟨i,j,rfl,rfl,Z⟩:=h x y d e;unfold Rep at O Y;exact⟨i,j,O,Y,q _ H0 H (Same.refl _) R (Z H0)⟩
theorem g_2 (H:Hp) (i:Int):Rep K H (.int i) (.int i):=by unfold Rep;rfl
theorem s_4 (H:Hp) (i:Bool):Rep K H (.bl i) (.bl i):=by unfold Rep;rfl
theorem ifs {c:Prop} [Decidable c] {α:Type}{a d:α} (h:(if c then some a else none)=some d):c/\a=d:=by
 by_cases O:c
 ·rw[if_pos O] at h;exact⟨O,qi h⟩
 ·rw[if_neg O] at h;cases h
theorem ab6:P_7 X .Sub W_5:=⟨_,au7,V_1 λ x y d e=>by
 obtain⟨i,j,rfl,rfl,e⟩:=F_3 e;cases e;exact⟨_,_,rfl,rfl,λ H=>g_2 H _⟩⟩
noncomputable def CMulD (i j:Int):Prop:=w_3 i j=true
theorem x_5 {i:Int} (h:bh4 i=true):Builtin.Int.intBits i<=1000:=by
 have h:i.natAbs<2 ^ 1000:=of_decide_eq_true h;unfold Builtin.Int.intBits
 split
 ·exact Nat.zero_le _
 ·rename_i O
  have O:i≠0:=by simpa using O
  have R:i.natAbs≠0:=by omega
  have:=(Nat.log2_lt R).mpr h;omega
theorem CMulD.ok {i j:Int} (h:CMulD i j):IntMulOk i j:=by
 unfold CMulD w_3 at h;simp only[Bool.or_eq_true,Bool.and_eq_true,decide_eq_true_eq] at h
 rcases h with (h | h) | ⟨h1,h2⟩
 ·exact IntMulOk.of_left (intBits_le_64 (by omega) (by omega))
 ·exact IntMulOk.of_right (intBits_le_64 (by omega) (by omega))
 ·unfold IntMulOk
  have R:=x_5 h1;have O:=x_5 h2
  have:Builtin.Int.intTooBig ((Builtin.Int.intBits i:Int)+(Builtin.Int.intBits j:Int))=false:=by
   unfold Builtin.Int.intTooBig;refine decide_eq_false ?_;have:(2000:Int)<=bitsLine:=by decide
   omega
  simp[this]
theorem al1:P_7 X .Mult ab8:=⟨rI CMulD λ i j=>.int (i*j),opI λ _ _ _ _ _ _ _ O q=>mul_int q O.ok,G_9 λ x y d e=>by
 obtain⟨i,j,rfl,rfl,e⟩:=F_3 e;obtain⟨h,rfl⟩:=ifs (c:=w_3 i j=true) e;exact⟨_,_,rfl,rfl,h,λ H=>g_2 H _⟩⟩
noncomputable def aW1 (i j:Int):Prop:=B_4 j=true
theorem v_6:P_7 X .FloorDiv p_4:=⟨rI aW1 λ i j=>.int (i.fdiv j),opI λ i j _ _ _ _ _ O q=>by
  unfold aW1 B_4 at O;simp only[Bool.and_eq_true,decide_eq_true_eq] at O;refine floordiv_int O.1 q (.inl (PyProof.noPylong_of_log2 ?_));have R:j.natAbs≠0:=by have:=O.1;omega
  have:=(Nat.log2_lt R).mpr O.2
  omega,G_9 λ x y d e=>by
 obtain⟨i,j,rfl,rfl,e⟩:=F_3 e;obtain⟨h,rfl⟩:=ifs (c:=B_4 j=true) e;exact⟨_,_,rfl,rfl,h,λ H=>g_2 H _⟩⟩
theorem q_0:P_7 X .Mod n_6:=⟨_,aB4,G_9 λ x y d e=>by
 obtain⟨i,j,rfl,rfl,e⟩:=F_3 e;obtain⟨h,rfl⟩:=ifs (c:=j≠0) e;exact⟨_,_,rfl,rfl,h,λ H=>g_2 H _⟩⟩
theorem bs5:P_7 X .Pow bg8:=⟨_,aP9,G_9 λ x y d e=>by
 obtain⟨i,j,rfl,rfl,e⟩:=F_3 e;obtain⟨h,rfl⟩:=ifs (c:=0<=j/\j<=64/\i.natAbs<2 ^ 64) e;exact⟨_,_,rfl,rfl,⟨h.1,by omega,h.2.2⟩,λ H=>g_2 H _⟩⟩
noncomputable def aN6 (K:Frag):R2:=λ x y H Q=>∃ l b xs zs,x=.ref l/\y=.ref b/\SqL K H l xs/\SqL K H b zs/\xs.length+zs.length<=sizeLine/\∀ p,H p=none->Q (.ref p) (upd H p (.lst (xs++zs)))
theorem aB5:OpR X (binaryOp .Add) (aN6 X.K):=by
 intro pins s σ H x y v u Q I rx ry h;obtain⟨l,b,xs,zs,rfl,rfl,hH,hB,hz,q⟩:=h;cases rx;cases ry;obtain⟨R,r,pl,_⟩:=I.list hH;obtain⟨O,r2,ac,_⟩:=I.list hB;have hl:=r.length;have ag:=r2.length;obtain⟨⟨cls,dd,data,sl⟩,ho,hc,n,hd⟩:=pl.isList;obtain⟨⟨af,ab,ad,ae⟩,Z,Y,n2,aa⟩:=ac.isList;simp only at hc hd Y aa;subst hc hd Y aa;have e:R.toArray++O.toArray=(R++O).toArray:=by simp
 refine concat_meets ⟨_,ho,rfl⟩ ⟨_,Z,rfl⟩ noFill_list_add seq_list_add PySem.F.slot_list_add PySem.F.entry_list_add (PySem.F.args_list_add_2 _ _) (list_addW l b R.toArray O.toArray n n2 dd ab sl ae (by rw[List.size_toArray,List.size_toArray];omega)) ⟨ho,Z,?_⟩
 rw[e];exact⟨.ref _,_,I.lnew (t':=s.toks) (r.append r2) (by rw[List.length_append];omega),rfl,q _ I.fresh⟩
noncomputable def bb3 (K:Frag):R2:=λ x y H Q=>rI0 (λ i j=>.int (i+j)) x y H Q\/((∃ i j,x=.str i/\y=.str j/\i.length+j.length<=sizeLine/\Q (.str (i++j)) H)\/aN6 K x y H Q)
theorem x_4:P_7 X .Add s_2:=⟨bb3 X.K,op_add.or (op_add_str.or aB5),λ c H0 H ρ σ x y d vx vy Q R O Y e q=>by
 cases x with
 |int i =>
  cases y with
  |int j =>
   cases e;unfold Rep at O Y;exact .inl ⟨_,_,O,Y,q _ H0 H (Same.refl _) R (g_2 H0 _)⟩
  |_=>cases e
 |str i =>
  cases y with
  |str j =>
   obtain⟨h,rfl⟩:=ifs (c:=i.length+j.length<=sizeLine) e;unfold Rep at O Y;exact .inr (.inl ⟨_,_,O,Y,h,q _ H0 H (Same.refl _) R (by unfold Rep;rfl)⟩)
  |_=>cases e
 |lst ds =>
  cases y with
  |lst es =>
   obtain⟨h,rfl⟩:=ifs (c:=ds.length+es.length<=sizeLine) e;unfold Rep at O Y;obtain⟨p,vs,rfl,s,t⟩:=O;obtain⟨p2,Z,rfl,s2,t2⟩:=Y;refine .inr (.inr ⟨p,p2,vs,Z,rfl,rfl,Same.seq R.same s,Same.seq R.same s2,by rw[<- t.length,<- t2.length];exact h,λ p' hp=>?_⟩)
   have S:=Step.alloc (o:=.lst (vs++Z)) R.same hp;refine q _ _ _ S.s0 (R.after S) ?_;unfold Rep;exact⟨p',_,rfl,.inl (.inl a_9),Reps.mono S.s0 _ (t.app t2)⟩
  |_=>cases e
 |_=>cases y <;> cases e⟩
theorem aW4 {a:Expr}{F:FE}{pos:Pos} (ha:XE X a F):XE X (.UnaryOp .USub a pos) (e1 aK0 F):=PE.wk (aA8 ac3 ha) λ σ H Q O=>by
 obtain⟨c,H0,ρ,d,Y,R,f,q⟩:=O;unfold e1 at f;obtain⟨⟨x,Z⟩,h1,f⟩:=a_1 f;obtain⟨d',h2,f⟩:=a_1 f;dsimp only at h2 f;have f':some (d',Z)=some (d,Y):=f;cases f';refine⟨c,H0,ρ,x,_,R,h1,λ v H1 Hh s1 R1 r1=>?_⟩
 cases x with
 |int i =>
  have e:D.int (-i)=d:=qi h2;subst e;unfold Rep at r1;exact⟨i,r1,q _ H1 Hh s1 R1 (g_2 _ _)⟩
 |_=>cases h2
theorem aX4 {p:Int->Int->Bool}:OpD K (rI0 λ i j=>.bl (p i j)) (aU9 p):=V_1 λ x y d e=>by
 obtain⟨i,j,rfl,rfl,e⟩:=F_3 e;cases e;exact⟨_,_,rfl,rfl,λ H=>s_4 H _⟩
theorem cLt:x_0 X .Lt dLt:=⟨_,bb7,aX4⟩
theorem cLe:x_0 X .LtE dLe:=⟨_,bb8,aX4⟩
theorem cGt:x_0 X .Gt dGt:=⟨_,bb9,aX4⟩
theorem cGe:x_0 X .GtE dGe:=⟨_,aQ1,aX4⟩
theorem av9 {H:Hp}{x:D}{v:V} (r:Rep K H x v):isN x=decide (v=.non):=by
 cases x with
 |non=>unfold Rep at r;subst r;rfl
 |bl b=>unfold Rep at r;subst r;rfl
 |int b=>unfold Rep at r;subst r;rfl
 |str b=>unfold Rep at r;subst r;rfl
 |tup ds=>unfold Rep at r;obtain⟨p,vs,rfl,_⟩:=r;rfl
 |dct ks vs=>unfold Rep at r;obtain⟨p,o,us,rfl,_⟩:=r;rfl
 |lst ds=>unfold Rep at r;obtain⟨p,vs,rfl,_⟩:=r;rfl
theorem cIs:x_0 X .Is dIs:=⟨_,au8,λ c H0 H ρ σ x y d vx vy Q R Z O e q=>by
 cases y with
 |non =>
  have Y:D.bl (isN x)=d:=by cases x <;> exact qi e
  subst Y;unfold Rep at O;exact⟨O,by rw[<- av9 Z];exact q _ H0 H (Same.refl _) R (s_4 _ _)⟩
 |_=>cases x <;> cases e⟩
theorem x_6:x_0 X .IsNot n_8:=⟨_,aB3,λ c H0 H ρ σ x y d vx vy Q R Z O e q=>by
 cases y with
 |non =>
  have Y:D.bl (!isN x)=d:=by cases x <;> exact qi e
  subst Y;unfold Rep at O;exact⟨O,by rw[<- av9 Z];exact q _ H0 H (Same.refl _) R (s_4 _ _)⟩
 |_=>cases x <;> cases e⟩
end
theorem r_6:∀ (ds es:List D),v_7 ds es=((List.range (min ds.length es.length)).all (λ j=>eqD (ds.getD j .non) (es.getD j .non))&&ds.length==es.length)
 |[],[]=>by simp[v_7]
 |[],e::es=>by simp[v_7]
 |d::ds,[]=>by simp[v_7]
 |d::ds,e::es=>by
  rw[v_7,r_6 ds es];have h:min (d::ds).length (e::es).length=min ds.length es.length+1:=by simp only[List.length_cons];omega
  rw[h,List.range_succ_eq_map,List.all_cons,List.all_map];have h2:((d::ds).length==(e::es).length)=(ds.length==es.length):=by simp
  rw[h2,Bool.and_assoc];rfl
theorem w_6:∀ {ds:List D}{n:Nat}{j:Nat}{d:D},A_0 ds<=n->ds[j]?=some d->dpD d<=n
 |[],_,_,_,_,e=>by simp at e
 |d::ds,n,0,_,h,e=>by
  rw[C_7] at h;simp at e;subst e;omega
 |d::ds,n,j+1,d',h,e=>by
  rw[C_7] at h;exact w_6 (ds:=ds) (n:=n) (j:=j) (by omega) (by simpa using e)
section
variable {X:Cx}{pins:List (Addr×Obj)}{σ:L2.St}{H:Hp}{s:Shared}
theorem aE0 {ds es:List D}{vs:List V} (Z:Reps X.K H ds vs) (he:Reps X.K H es vs) (h:∀ (j:Nat) (d e:D) (v:V),vs[j]?=some v->ds[j]?=some d->es[j]?=some e->Rep X.K H d v->Rep X.K H e v->eqD d e=true):v_7 ds es=true:=by
 rw[r_6];have l1:=Z.length;have l2:=he.length;rw[Bool.and_eq_true,List.all_eq_true];refine⟨λ j hj=>?_,by simp;omega⟩
 have R:j<ds.length:=by have:=List.mem_range.mp hj;omega
 have O:j<es.length:=by omega
 obtain⟨v,Y,a2⟩:=Z.get (i:=j) (d:=ds[j]) (by simp[R])
 obtain⟨v',b1,b2⟩:=he.get (i:=j) (d:=es[j]) (by simp[O])
 rw[Y] at b1;cases b1;have:=h j ds[j] es[j] v Y (by simp[R]) (by simp[O]) a2 b2
 simpa [List.getD,R,O] using this
theorem aQ5 (I:Inv X pins σ H s) {a:Addr}{xs ys:List V} (h:SqT X.K H a xs) (h':SqL X.K H a ys):False:=by
 obtain⟨_,_,⟨o,e,c,_⟩,_⟩:=I.tuple h;obtain⟨_,_,⟨o',n,O,R,_⟩,_⟩:=I.list h';rw[e] at O;cases O;have z:=c.symm.trans R;injection z with z
 exact absurd z (by decide)
theorem bv7 {ds:List D} (h:dpD (.tup ds)<1000):A_0 ds<999:=by rw[J_1] at h;omega
theorem bv8 {ds:List D} (h:dpD (.lst ds)<1000):A_0 ds<999:=by rw[J_2] at h;omega
theorem bn1 {ds:List D} (h:A_0 ds<999) {j:Nat}{d:D} (e:ds[j]?=some d):dpD d<1000:=by
 have:=w_6 (n:=998) (by omega) e
 omega
inductive Sh (X:Cx) (H:Hp) (s:Shared):D->V->Value->Prop
 |non:Sh X H s .non .non .none
 |bl (b:Bool):Sh X H s (.bl b) (.bl b) (.bool b)
 |int (i:Int) (t:Tok):Sh X H s (.int i) (.int i) (.int i t)
 |str (x:Str) (t:Tok):Sh X H s (.str x) (.str x) (.str x t)
 |tup {ds:List D}{p:Addr}{vs:List V}{its:List Value} (s1:SqT X.K H p vs) (q:Reps X.K H ds vs) (rv:Vals vs its) (tp:IsTup s.heap p its.toArray) (z:A_0 ds<999):Sh X H s (.tup ds) (.ref p) (.ref p)
 |lst {ds:List D}{p:Addr}{vs:List V}{its:List Value} (s1:SqL X.K H p vs) (q:Reps X.K H ds vs) (rv:Vals vs its) (tp:s.heap.IsList p its.toArray) (z:A_0 ds<999):Sh X H s (.lst ds) (.ref p) (.ref p)
theorem L_5 (I:Inv X pins σ H s) {d:D}{x:V}{u:Value} (Z:dpD d<1000) (r:Rep X.K H d x) (w:RelV x u):Sh X H s d x u:=by
 cases d with
 |dct ks vs=>exact absurd Z (by rw[aG8];omega)
 |non=>unfold Rep at r;subst r;cases (show u=Value.none from w);exact .non
 |bl b=>unfold Rep at r;subst r;cases (show u=Value.bool _ from w);exact .bl b
 |int i=>unfold Rep at r;subst r;obtain⟨t,rfl⟩:=w;exact .int i t
 |str i=>unfold Rep at r;subst r;obtain⟨t,rfl⟩:=w;exact .str i t
 |tup ds =>
  unfold Rep at r;obtain⟨p,vs,rfl,O,q⟩:=r;cases (show u=Value.ref _ from w);obtain⟨R,Y,tp,_⟩:=I.tuple O;exact .tup O q Y tp (bv7 Z)
 |lst ds =>
  unfold Rep at r;obtain⟨p,vs,rfl,O,q⟩:=r;cases (show u=Value.ref _ from w);obtain⟨R,Y,tp,_⟩:=I.list O;exact .lst O q Y tp.isList (bv8 Z)
theorem ad3 (I:Inv X pins σ H s):∀ (n:Nat) (d e:D) (v:V) (u:Value),dpD d<=n->dpD d<1000->dpD e<1000->Rep X.K H d v->Rep X.K H e v->RelV v u->eqD d e=true
 |n,d,e,v,u,Z,hz1,hz2,r1,r2,w=>by
  have go:∀ {ds es:List D}{vs:List V}{R:List Value},A_0 ds+1<=n->A_0 ds<999->A_0 es<999->Reps X.K H ds vs->Reps X.K H es vs->Vals vs R->v_7 ds es=true:=by
   intro ds es vs R Z z1 z2 q1 q2 Y;cases n with
   |zero=>omega
   |succ n =>
    refine aE0 q1 q2 λ j d e v h0 h1 h2 a b=>?_
    obtain⟨u,_,w⟩:=Y.get h0;exact ad3 I n d e v u (w_6 (by omega) h1) (bn1 z1 h1) (bn1 z2 h2) a b w
  have k1:=L_5 I hz1 r1 w;have k2:=L_5 I hz2 r2 w
  clear r1 r2 w hz1 hz2
  cases k1 with
  |tup s1 q Y tp z=>cases k2 with
   |tup O q' aa ab z' =>
    cases I.tuple_inj s1 O;rw[J_1] at Z;rw[eqD];exact go Z z z' q q' Y
   |lst O=>exact (aQ5 I s1 O).elim
  |lst s1 q Y tp z=>cases k2 with
   |lst O q' aa ab z' =>
    cases I.list_inj s1 O;rw[J_2] at Z;rw[eqD];exact go Z z z' q q' Y
   |tup O=>exact (aQ5 I O s1).elim
  |_=>cases k2;simp[eqD]
noncomputable def RcN (X:Cx) (H:Hp) (s:Shared) (n:Nat):Prop:=∀ (A:Around) (d e:D) (x y:V) (u v:Value),dpD d<=n->dpD d<1000->dpD e<1000->A.units+n<cLine->Rep X.K H d x->RelV x u->Rep X.K H e y->RelV y v->SeqAt.RcAt A s u v (eqD d e)
noncomputable def EqN (X:Cx) (H:Hp) (s:Shared) (n:Nat):Prop:=∀ (A:Around) (d e:D) (x y:V) (u v:Value),dpD d<=n->dpD d<1000->dpD e<1000->A.units+n<cLine->Rep X.K H d x->RelV x u->Rep X.K H e y->RelV y v->SeqAt.EqAt A s u v (eqD d e)
theorem aT4 (I:Inv X pins σ H s) {n:Nat} (rc:RcN X H s n):EqN X H s n:=by
 intro A d e x y u v hn Z Y hA r1 w1 r2 w2;have R:A.units<cLine:=by omega
 have key:=rc A d e x y u v hn Z Y hA r1 w1 r2 w2;have one:x=y->eqD d e=true:=λ z=>ad3 I _ d e x u (qj _) Z Y r1 (z▸r2) w1
 have rf:∀ p1 p2,x=.ref p1->y=.ref p2->u=.ref p1->v=.ref p2->SeqAt.EqAt A s u v (eqD d e):=λ p1 p2 h1 h2 h3 h4=>by
  subst h1 h2 h3 h4
  by_cases h:p1=p2
  ·rw[one (by rw[h]),h];exact SeqAt.EqAt.same _
  ·exact SeqAt.EqAt.of_refs h key
 clear key one
 have k1:=L_5 I Z r1 w1;have k2:=L_5 I Y r2 w2;cases k1 with
 |non=>cases k2;exact SeqAt.EqAt.same _;exact SeqAt.EqAt.none_bool _;exact SeqAt.EqAt.none_int _ _;exact SeqAt.EqAt.none_str _ _;exact SeqAt.EqAt.none_tuple ‹_› R;exact SeqAt.EqAt.none_list ‹_› R
 |bl=>cases k2;exact SeqAt.EqAt.bool_none _;exact SeqAt.EqAt.bool_bool _ _;exact SeqAt.EqAt.bool_int _ _ _;exact SeqAt.EqAt.bool_str _ _ _;exact SeqAt.EqAt.bool_tuple _ ‹_› R;exact SeqAt.EqAt.bool_list _ ‹_› R
 |int=>cases k2;exact SeqAt.EqAt.int_none _ _;exact SeqAt.EqAt.int_bool _ _ _;exact SeqAt.EqAt.int_int _ _ _ _;exact SeqAt.EqAt.int_str _ _ _ _;exact SeqAt.EqAt.int_tuple _ _ ‹_› R;exact SeqAt.EqAt.int_list _ _ ‹_› R
 |str=>cases k2;exact SeqAt.EqAt.str_none _ _;exact SeqAt.EqAt.str_bool _ _ _;exact SeqAt.EqAt.str_int _ _ _ _;exact SeqAt.EqAt.str_str _ _ _ _;exact SeqAt.EqAt.str_tuple _ _ ‹_› R;exact SeqAt.EqAt.str_list _ _ ‹_› R
 |tup s1 q1 aa O=>cases k2;exact SeqAt.EqAt.tuple_none O R;exact SeqAt.EqAt.tuple_bool _ O R;exact SeqAt.EqAt.tuple_int _ _ O R;exact SeqAt.EqAt.tuple_str _ _ O R;exact rf _ _ rfl rfl rfl rfl;exact rf _ _ rfl rfl rfl rfl
 |lst s1 q1 aa O=>cases k2;exact SeqAt.EqAt.list_none O R;exact SeqAt.EqAt.list_bool _ O R;exact SeqAt.EqAt.list_int _ _ O R;exact SeqAt.EqAt.list_str _ _ O R;exact rf _ _ rfl rfl rfl rfl;exact rf _ _ rfl rfl rfl rfl
theorem ak5 {O:List Value}{j:Nat} (h:j<O.toArray.size):O[j]?=some O.toArray[j]:=by
 have h':j<O.length:=by simpa using h
 simp[h']
theorem I_6 {A:Around}{n:Nat} (Z:EqN X H s n) {ds es:List D}{vs R:List V}{O its':List Value} (hn:A_0 ds<=n) (ab:A_0 ds<1000) (aa:A_0 es<1000) (hA:A.in1.units+n<cLine) (q1:Reps X.K H ds vs) (q2:Reps X.K H es R) (rv:Vals vs O) (Y:Vals R its')
  (j:Nat) (h1:j<O.toArray.size) (h2:j<its'.toArray.size):SeqAt.EqAt A.in1 s O.toArray[j] its'.toArray[j] (eqD (ds.getD j .non) (es.getD j .non)):=by
 have l1:=q1.length;have l2:=q2.length;have m1:=rv.length;have m2:=Y.length;have k1:j<ds.length:=by rw[List.size_toArray] at h1;omega
 have k2:j<es.length:=by rw[List.size_toArray] at h2;omega
 have e1:ds[j]?=some ds[j]:=by simp[k1]
 have e2:es[j]?=some es[j]:=by simp[k2]
 obtain⟨v,a1,a2⟩:=q1.get e1;obtain⟨v',b1,b2⟩:=q2.get e2;obtain⟨u,c1,c2⟩:=rv.get a1;obtain⟨u',d1,d2⟩:=Y.get b1;rw[ak5 h1] at c1;rw[ak5 h2] at d1;have g1:ds.getD j .non=ds[j]:=by simp[List.getD,k1]
 have g2:es.getD j .non=es[j]:=by simp[List.getD,k2]
 rw[g1,g2,Option.some.inj c1,Option.some.inj d1];exact Z A.in1 ds[j] es[j] v v' u u' (w_6 hn e1) (by have z:=w_6 (n:=999) (by omega) e1;omega) (by have z:=w_6 (n:=999) (by omega) e2;omega) hA a2 c2 b2 d2
theorem rcS (I:Inv X pins σ H s) (n:Nat) (ih:∀ m,m<n->EqN X H s m):RcN X H s n:=by
 intro A d e x y u v hn ab aa hA r1 w1 r2 w2;have R:A.units<cLine:=by omega
 have hi:0<n->A.in1.units+(n-1)<cLine:=λ _=>by show A.units+1+(n-1)<cLine;omega
 have k1:=L_5 I ab r1 w1;have k2:=L_5 I aa r2 w2
 clear r1 r2 w1 w2
 cases k1 with
 |non=>cases k2;exact SeqAt.RcAt.none_none;exact SeqAt.RcAt.none_bool _;exact SeqAt.RcAt.none_int _ _;exact SeqAt.RcAt.none_str _ _;exact SeqAt.RcAt.none_tuple ‹_› R;exact SeqAt.RcAt.none_list ‹_› R
 |bl=>cases k2;exact SeqAt.RcAt.bool_none _;exact SeqAt.RcAt.bool_bool _ _;exact SeqAt.RcAt.bool_int _ _ _;exact SeqAt.RcAt.bool_str _ _ _;exact SeqAt.RcAt.bool_tuple _ ‹_› R;exact SeqAt.RcAt.bool_list _ ‹_› R
 |int=>cases k2;exact SeqAt.RcAt.int_none _ _;exact SeqAt.RcAt.int_bool _ _ _;exact SeqAt.RcAt.int_int _ _ _ _;exact SeqAt.RcAt.int_str _ _ _ _;exact SeqAt.RcAt.int_tuple _ _ ‹_› R;exact SeqAt.RcAt.int_list _ _ ‹_› R
 |str=>cases k2;exact SeqAt.RcAt.str_none _ _;exact SeqAt.RcAt.str_bool _ _ _;exact SeqAt.RcAt.str_int _ _ _ _;exact SeqAt.RcAt.str_str _ _ _ _;exact SeqAt.RcAt.str_tuple _ _ ‹_› R;exact SeqAt.RcAt.str_list _ _ ‹_› R
 |@tup ds p1 _ Z s1 q1 Y O z1 =>
  cases k2
  case tup es p2 _ its2 s2 q2 rv2 tp2 z2 =>
   rw[J_1] at hn;have z:=SeqAt.RcAt.tuples (e:=λ j=>eqD (ds.getD j .non) (es.getD j .non)) O tp2 R (I_6 (A:=A) (ih (n-1) (by omega)) (by omega) (by omega) (by omega) (hi (by omega)) q1 q2 Y rv2)
   rw[List.size_toArray,List.size_toArray,<- Y.length,<- rv2.length,<- q1.length,<- q2.length] at z;rw[eqD,r_6];exact z
  exact SeqAt.RcAt.tuple_none O R;exact SeqAt.RcAt.tuple_bool _ O R;exact SeqAt.RcAt.tuple_int _ _ O R;exact SeqAt.RcAt.tuple_str _ _ O R;exact SeqAt.RcAt.tuple_list O ‹_› R
 |@lst ds p1 _ Z s1 q1 Y O z1 =>
  cases k2
  case lst es p2 _ its2 s2 q2 rv2 tp2 z2 =>
   rw[J_2] at hn;have l1:Z.toArray.size=ds.length:=by rw[List.size_toArray,<- Y.length,<- q1.length]
   have l2:its2.toArray.size=es.length:=by rw[List.size_toArray,<- rv2.length,<- q2.length]
   rw[eqD,r_6]
   by_cases hl:ds.length=es.length
   ·have z:=SeqAt.RcAt.lists (e:=λ j=>eqD (ds.getD j .non) (es.getD j .non)) O tp2 (by rw[l1,l2];exact hl) R (I_6 (A:=A) (ih (n-1) (by omega)) (by omega) (by omega) (by omega) (hi (by omega)) q1 q2 Y rv2)
    rw[l1] at z;rw[show min ds.length es.length=ds.length by omega,show (ds.length==es.length)=true by simp[hl],Bool.and_true]
    exact z
   ·rw[show (ds.length==es.length)=false by simp[hl],Bool.and_false]
    exact SeqAt.RcAt.lists_lengths O tp2 (by rw[l1,l2];simp[hl]) R
  exact SeqAt.RcAt.list_none O R;exact SeqAt.RcAt.list_bool _ O R;exact SeqAt.RcAt.list_int _ _ O R;exact SeqAt.RcAt.list_str _ _ O R;exact SeqAt.RcAt.list_tuple O ‹_› R
theorem W_4 (I:Inv X pins σ H s) (n:Nat):EqN X H s n:=by
 induction n using Nat.strongRecOn with
 |ind n O=>exact aT4 I (rcS I n O)
theorem rcN (I:Inv X pins σ H s) (n:Nat):RcN X H s n:=rcS I n λ m _=>W_4 I m
noncomputable def bj3 (K:Frag):R2:=λ x y H Q=>∃ d e,Rep K H d x/\Rep K H e y/\dpD d<=30/\dpD e<=30/\Q (.bl (eqD d e)) H
theorem aQ2 (hu:X.A.units+64<cLine):OpR X (compareOp .Eq) (bj3 X.K):=by
 intro pins s σ H x y v u Q I Y ry h;obtain⟨d,e,R,r2,O,Z,q⟩:=h;exact rcN I 30 X.A d e x y v u O (by omega) (by omega) (by omega) R Y r2 ry X.prog X.w X.xe _ ⟨.bl _,H,I,rfl,q⟩
theorem be3 {K:Frag}:OpD K (bj3 K) dEq:=λ c H0 H ρ σ x y d vx vy Q R Y Z e q=>by
 unfold dEq at e
 split at e
 ·rename_i O
  cases e;exact⟨x,y,Rep.mono R.same x Y,Rep.mono R.same y Z,O.1,O.2,q _ H0 H (Same.refl _) R (s_4 _ _)⟩
 ·cases e
theorem cEq (O:X.A.units+64<cLine):x_0 X .Eq dEq:=⟨_,aQ2 O,be3⟩
theorem neN (I:Inv X pins σ H s) (n:Nat) (A:Around) (d e:D) (x y:V) (u v:Value) (hn:dpD d<=n) (ab:dpD d<1000) (aa:dpD e<1000) (hA:A.units+n<cLine) (r1:Rep X.K H d x) (w1:RelV x u) (r2:Rep X.K H e y) (w2:RelV y v):SeqAt.RcNeAt A s u v (!eqD d e):=by
 have R:A.units<cLine:=by omega
 have hi:0<n->A.in1.units+(n-1)<cLine:=λ _=>by show A.units+1+(n-1)<cLine;omega
 have k1:=L_5 I ab r1 w1;have k2:=L_5 I aa r2 w2
 clear r1 r2 w1 w2
 cases k1 with
 |non=>cases k2;exact SeqAt.RcNeAt.none_none;exact SeqAt.RcNeAt.none_bool _;exact SeqAt.RcNeAt.none_int _ _;exact SeqAt.RcNeAt.none_str _ _;exact SeqAt.RcNeAt.none_tuple ‹_› R;exact SeqAt.RcNeAt.none_list ‹_› R
 |bl=>cases k2;exact SeqAt.RcNeAt.bool_none _;exact SeqAt.RcNeAt.bool_bool _ _;exact SeqAt.RcNeAt.bool_int _ _ _;exact SeqAt.RcNeAt.bool_str _ _ _;exact SeqAt.RcNeAt.bool_tuple _ ‹_› R;exact SeqAt.RcNeAt.bool_list _ ‹_› R
 |int=>cases k2;exact SeqAt.RcNeAt.int_none _ _;exact SeqAt.RcNeAt.int_bool _ _ _;exact SeqAt.RcNeAt.int_int _ _ _ _;exact SeqAt.RcNeAt.int_str _ _ _ _;exact SeqAt.RcNeAt.int_tuple _ _ ‹_› R;exact SeqAt.RcNeAt.int_list _ _ ‹_› R
 |str=>cases k2;exact SeqAt.RcNeAt.str_none _ _;exact SeqAt.RcNeAt.str_bool _ _ _;exact SeqAt.RcNeAt.str_int _ _ _ _;exact SeqAt.RcNeAt.str_str _ _ _ _;exact SeqAt.RcNeAt.str_tuple _ _ ‹_› R;exact SeqAt.RcNeAt.str_list _ _ ‹_› R
 |@tup ds p1 _ Z s1 q1 Y O z1 =>
  cases k2
  case tup es p2 _ its2 s2 q2 rv2 tp2 z2 =>
   rw[J_1] at hn;have z:=SeqAt.RcNeAt.tuples (e:=λ j=>eqD (ds.getD j .non) (es.getD j .non)) O tp2 R (I_6 (A:=A) (W_4 I (n-1)) (by omega) (by omega) (by omega) (hi (by omega)) q1 q2 Y rv2)
   rw[List.size_toArray,List.size_toArray,<- Y.length,<- rv2.length,<- q1.length,<- q2.length] at z;rw[eqD,r_6];exact z
  exact SeqAt.RcNeAt.tuple_none O R;exact SeqAt.RcNeAt.tuple_bool _ O R;exact SeqAt.RcNeAt.tuple_int _ _ O R;exact SeqAt.RcNeAt.tuple_str _ _ O R;exact SeqAt.RcNeAt.tuple_list O ‹_› R
 |@lst ds p1 _ Z s1 q1 Y O z1 =>
  cases k2
  case lst es p2 _ its2 s2 q2 rv2 tp2 z2 =>
   rw[J_2] at hn;have l1:Z.toArray.size=ds.length:=by rw[List.size_toArray,<- Y.length,<- q1.length]
   have l2:its2.toArray.size=es.length:=by rw[List.size_toArray,<- rv2.length,<- q2.length]
   rw[eqD,r_6]
   by_cases hl:ds.length=es.length
   ·have z:=SeqAt.RcNeAt.lists (e:=λ j=>eqD (ds.getD j .non) (es.getD j .non)) O tp2 (by rw[l1,l2];exact hl) R (I_6 (A:=A) (W_4 I (n-1)) (by omega) (by omega) (by omega) (hi (by omega)) q1 q2 Y rv2)
    rw[l1] at z;rw[show min ds.length es.length=ds.length by omega,show (ds.length==es.length)=true by simp[hl],Bool.and_true]
    exact z
   ·rw[show (ds.length==es.length)=false by simp[hl],Bool.and_false]
    exact SeqAt.RcNeAt.lists_lengths O tp2 (by rw[l1,l2];simp[hl]) R
  exact SeqAt.RcNeAt.list_none O R;exact SeqAt.RcNeAt.list_bool _ O R;exact SeqAt.RcNeAt.list_int _ _ O R;exact SeqAt.RcNeAt.list_str _ _ O R;exact SeqAt.RcNeAt.list_tuple O ‹_› R
noncomputable def bj1 (K:Frag):R2:=λ x y H Q=>∃ d e,Rep K H d x/\Rep K H e y/\dpD d<=30/\dpD e<=30/\Q (.bl (!eqD d e)) H
theorem aQ0 (hu:X.A.units+64<cLine):OpR X (compareOp .NotEq) (bj1 X.K):=by
 intro pins s σ H x y v u Q I Y ry h;obtain⟨d,e,R,r2,O,Z,q⟩:=h;exact neN I 30 X.A d e x y v u O (by omega) (by omega) (by omega) R Y r2 ry X.prog X.w X.xe _ ⟨.bl _,H,I,rfl,q⟩
theorem bc1 {K:Frag}:OpD K (bj1 K) dNe:=λ c H0 H ρ σ x y d vx vy Q R Y Z e q=>by
 unfold dNe at e
 split at e
 ·rename_i O
  cases e;exact⟨x,y,Rep.mono R.same x Y,Rep.mono R.same y Z,O.1,O.2,q _ H0 H (Same.refl _) R (s_4 _ _)⟩
 ·cases e
theorem cNe (O:X.A.units+64<cLine):x_0 X .NotEq dNe:=⟨_,aQ0 O,bc1⟩
end
section
variable {X:Cx}
noncomputable def BOk (X:Cx) (f:Value) (g:List D->Option D):Prop:=∃ r,CallR X f r/\∀ (c:FC) (H0 H:Hp) (ρ:En) (σ:L2.St) (ds:List D) (d:D) (vs:List V) (Q:VK),RS X.K c H0 H ρ σ->Reps X.K H0 ds vs->g ds=some d->Aft X.K c H0 ρ σ d Q->r vs H Q
theorem aU0 {g:List D->Option D}{A:FA}{r:List V->Hp->VK->Prop} (o:∀ (c:FC) (H0 H:Hp) (ρ:En) (σ:L2.St) (ds:List D) (d:D) (vs:List V) (Q:VK),RS X.K c H0 H ρ σ->Reps X.K H0 ds vs->g ds=some d->Aft X.K c H0 ρ σ d Q->r vs H Q)
  {σ:L2.St}{H:Hp}{Q:VK} (h:tE X.K (eF g A) σ H Q):tCB r (tAa X.K A) σ H Q:=by
 obtain⟨c,H0,ρ,d,O,R,f,q⟩:=h;unfold eF at f;obtain⟨⟨ds,Y⟩,h1,f⟩:=a_1 f;obtain⟨d',h2,f⟩:=a_1 f;have f':some (d',Y)=some (d,O):=f;cases f';exact⟨c,H0,ρ,ds,_,R,h1,λ vs H1 Hh s1 Z r1=>o c H1 Hh _ σ ds d vs Q Z r1 h2 λ v H2 Hh2 s2 R2 r2=>q v H2 Hh2 (s1.trans s2) R2 r2⟩
theorem xB {id:String}{g:List D → Option D}{A:FA}{x:Str}{p pos:Pos}{e:Expr}{es:List Expr} (o:BOk X (.builtin id) g) (hg:Gl X x) (Z:X.mg x=none) (hv:bootBuiltins x=some (.builtin id)) (Y:XA X (e::es) A) (hn:x≠"__name__":=by decide) (O:(x==("__debug__":Str))=false:=by decide)
  (he:starEach (e::es) X.env=(false,eval e X.env)::starEach es X.env:=by rfl) (R:(backTo pos (starEach es X.env)).any (·.1)=false:=by rfl):XE X (.Call (.Name x p) (e::es) [] pos) (eF g A):=by
 obtain⟨r,h1,h2⟩:=o;exact PE.wk (G_8 h1 hg Z hv Y hn O he R) λ σ H Q h=>aU0 h2 h
theorem Reps.v1 {K:Frag}{H:Hp}{d:D}{vs:List V} (h:Reps K H [d] vs):∃ v,vs=[v]/\Rep K H d v:=by
 unfold Reps at h;obtain⟨v,r,e,a,b⟩:=h;unfold Reps at b;exact⟨v,by rw[e,b],a⟩
theorem Reps.v2 {K:Frag}{H:Hp}{d d':D}{vs:List V} (h:Reps K H [d,d'] vs):∃ v O,vs=[v,O]/\Rep K H d v/\Rep K H d' O:=by
 unfold Reps at h;obtain⟨v,r,e,a,b⟩:=h;obtain⟨O,R,Y⟩:=Reps.v1 b;exact⟨v,O,by rw[e,R],a,Y⟩
theorem ar9 {ds:List D}{d:D} (h:aV8 ds=some d):∃ i,ds=[.int i]/\d=.int (if i<0 then -i else i):=by
 unfold aV8 at h
 split at h
 ·cases h;exact⟨_,rfl,rfl⟩
 ·cases h
theorem aH3:BOk X (.builtin "abs") aV8:=⟨_,ar1,λ c H0 H ρ σ ds d vs Q R r e q=>by
 obtain⟨i,rfl,rfl⟩:=ar9 e;obtain⟨v,rfl,O⟩:=Reps.v1 r;unfold Rep at O;subst O;exact⟨i,rfl,q _ H0 H (Same.refl _) R (g_2 _ _)⟩⟩
theorem z_7 {K:Frag}{H:Hp}:∀ {ds:List D}{is:List Int}{vs:List V},q_3 ds=some is->Reps K H ds vs->vs=is.map V.int
 |[],_,_,e,r=>by
  have O:([]:List Int)=_:=qi e;unfold Reps at r;rw[r,<- O];rfl
 |d::ds,_,_,e,r=>by
  cases d with
  |int i =>
   rw[C_4] at e;obtain⟨is,e1,e2⟩:=a_1 e;cases e2;unfold Reps at r;obtain⟨v,R,rfl,a,t⟩:=r;unfold Rep at a;rw[a,z_7 e1 t];rfl
  |_=>cases e
theorem intsAre_of:∀ {is:List Int}{us:List Value},Vals (is.map V.int) us->IntsAre us is:=by
 intro is
 induction is with
 |nil=>intro us h;cases h;exact .nil
 |cons b r O =>
  intro us h;cases h with
  |cons a t=>obtain⟨tk,rfl⟩:=(show ∃ t,_=Value.int b t from a);exact .cons b tk (O t)
theorem N_7:∀ (r:List Int) (m:Int),(E_3 m r=m\/E_3 m r∈r)/\E_3 m r<=m/\∀ a∈r,E_3 m r<=a
 |[],m=>⟨.inl rfl,Int.le_refl _,λ a h=>by cases h⟩
 |x::r,m=>by
  obtain⟨h1,h2,R⟩:=N_7 r (if x<m then x else m);rw[show E_3 m (x::r)=E_3 (if x<m then x else m) r from rfl]
  by_cases h:x<m
  ·rw[if_pos h] at h1 h2 R ⊢
   refine⟨.inr ?_,by omega,λ a O=>?_⟩
   ·rcases h1 with e | e
    ·rw[e];exact qg
    ·exact qh _ e
   ·rcases qv O with rfl | O
    ·exact h2
    ·exact R a O
  ·rw[if_neg h] at h1 h2 R ⊢
   refine⟨?_,h2,λ a O=>?_⟩
   ·rcases h1 with e | e
    ·exact .inl e
    ·exact .inr (qh _ e)
   ·rcases qv O with rfl | O
    ·omega
    ·exact R a O
theorem N_8:∀ (r:List Int) (m:Int),(E_4 m r=m\/E_4 m r∈r)/\m<=E_4 m r/\∀ a∈r,a<=E_4 m r
 |[],m=>⟨.inl rfl,Int.le_refl _,λ a h=>by cases h⟩
 |x::r,m=>by
  obtain⟨h1,h2,R⟩:=N_8 r (if m<x then x else m);rw[show E_4 m (x::r)=E_4 (if m<x then x else m) r from rfl]
  by_cases h:m<x
  ·rw[if_pos h] at h1 h2 R ⊢
   refine⟨.inr ?_,by omega,λ a O=>?_⟩
   ·rcases h1 with e | e
    ·rw[e];exact qg
    ·exact qh _ e
   ·rcases qv O with rfl | O
    ·exact h2
    ·exact R a O
  ·rw[if_neg h] at h1 h2 R ⊢
   refine⟨?_,h2,λ a O=>?_⟩
   ·rcases h1 with e | e
    ·exact .inl e
    ·exact .inr (qh _ e)
   ·rcases qv O with rfl | O
    ·omega
    ·exact R a O
theorem ae6 {i M:Int}{r:List Int} (h:M∈i::r) (h':∀ a∈i::r,M<=a):M=E_3 i r:=by
 obtain⟨h1,h2,O⟩:=N_7 r i
 have Y:E_3 i r<=M:=by
  rcases qv h with rfl | h
  ·exact h2
  ·exact O _ h
 have R:M<=E_3 i r:=by
  rcases h1 with e | e
  ·rw[e];exact h' _ qg
  ·exact h' _ (qh _ e)
 omega
theorem ae8 {i M:Int}{r:List Int} (h:M∈i::r) (h':∀ a∈i::r,a<=M):M=E_4 i r:=by
 obtain⟨h1,h2,O⟩:=N_8 r i
 have Y:M<=E_4 i r:=by
  rcases qv h with rfl | h
  ·exact h2
  ·exact O _ h
 have R:E_4 i r<=M:=by
  rcases h1 with e | e
  ·rw[e];exact h' _ qg
  ·exact h' _ (qh _ e)
 omega
theorem aj1 (hc:X.calm=true):CallR X (.builtin "min") (λ xs H Q=>∃ (p:Addr) (i:Int) (r:List Int),xs=[.ref p] ∧ SqL X.K H p ((i::r).map V.int) ∧ Q (.int (E_3 i r)) H):=by
 intro pins s σ H xs us Q I r h;obtain⟨l,i,is,rfl,hl,q⟩:=h;obtain⟨u,rfl,ru⟩:=A_4 r;cases ru;obtain⟨aa,rv,pl,hz⟩:=I.list hl;have hi:=intsAre_of rv;have R:=pl.isList;obtain⟨ys,e⟩:=hi.allInts.items;have O:i::is=ys.toList.map (·.1):=by rw[<- hi.numsOf,<- nums_intItems,<- e]
 have hsz:0<ys.size:=by
  have Z:0<(i::is).length:=Nat.succ_pos _;rw[O,List.length_map,Array.length_toList] at Z;exact Z
 rw[e] at R;refine min_intList (I.ok.hd hc) R hsz λ v h' tk hv hk=>?_
 obtain⟨t,rfl⟩:=intItems_at hv;obtain⟨h1,h2⟩:=argBest_lt (numAt ys) (ys.size-1);refine⟨_,H,I.kept hk,?_,q⟩
 have:numAt ys (argBest (λ i j=>decide (numAt ys i<numAt ys j)) (ys.size-1))=E_3 i is:=ae6 (by rw[O,numAt_eq];exact getD_mem (by rw[List.length_map,Array.length_toList];omega)) λ a Y=>by
  rw[O] at Y;obtain⟨j,hj,rfl⟩:=mem_getD Y;rw[List.length_map,Array.length_toList] at hj;rw[<- numAt_eq];exact h2 j (by omega)
 rw[this];exact⟨_,rfl⟩
theorem aj3 (hc:X.calm=true):CallR X (.builtin "max") (λ xs H Q=>∃ (p:Addr) (i:Int) (r:List Int),xs=[.ref p] ∧ SqL X.K H p ((i::r).map V.int) ∧ Q (.int (E_4 i r)) H):=by
 intro pins s σ H xs us Q I r h;obtain⟨l,i,is,rfl,hl,q⟩:=h;obtain⟨u,rfl,ru⟩:=A_4 r;cases ru;obtain⟨aa,rv,pl,hz⟩:=I.list hl;have hi:=intsAre_of rv;have R:=pl.isList;obtain⟨ys,e⟩:=hi.allInts.items;have O:i::is=ys.toList.map (·.1):=by rw[<- hi.numsOf,<- nums_intItems,<- e]
 have hsz:0<ys.size:=by
  have Z:0<(i::is).length:=Nat.succ_pos _;rw[O,List.length_map,Array.length_toList] at Z;exact Z
 rw[e] at R;refine max_intList (I.ok.hd hc) R hsz λ v h' tk hv hk=>?_
 obtain⟨t,rfl⟩:=intItems_at hv;obtain⟨h1,h2⟩:=argBest_gt (numAt ys) (ys.size-1);refine⟨_,H,I.kept hk,?_,q⟩
 have:numAt ys (argBest (λ i j=>decide (numAt ys i > numAt ys j)) (ys.size-1))=E_4 i is:=ae8 (by rw[O,numAt_eq];exact getD_mem (by rw[List.length_map,Array.length_toList];omega)) λ a Y=>by
  rw[O] at Y;obtain⟨j,hj,rfl⟩:=mem_getD Y;rw[List.length_map,Array.length_toList] at hj;rw[<- numAt_eq];exact h2 j (by omega)
 rw[this];exact⟨_,rfl⟩
theorem CallR.or {X:Cx}{f:Value}{r O:List V->Hp->VK->Prop} (h:CallR X f r) (h':CallR X f O):CallR X f (λ xs H Q=>r xs H Q\/O xs H Q) :=
 λ pins s σ H xs us Q I v z=>z.elim (λ a=>h pins s σ H xs us Q I v a) (λ a=>h' pins s σ H xs us Q I v a)
theorem P_4 {f:Int->List Int->Int}{is:List Int}{d:D} (h:ak2 f is=some d):∃ i r,is=i::r/\d=.int (f i r):=by
 cases is with
 |nil=>cases h
 |cons i r=>cases h;exact⟨i,r,rfl,rfl⟩
theorem J_7 (hc:X.calm=true):BOk X (.builtin "max") ar8:=⟨_,(aj4 hc).or (aj3 hc),λ c H0 H ρ σ ds d vs Q R r e q=>by
 unfold ar8 at e
 split at e
 ·cases e
  obtain⟨v,v',rfl,Y,Z⟩:=Reps.v2 r;unfold Rep at Y Z;subst Y Z;exact .inl ⟨_,_,rfl,q _ H0 H (Same.refl _) R (g_2 _ _)⟩
 ·obtain⟨is,e1,e2⟩:=a_1 e
  obtain⟨i,is,rfl,rfl⟩:=P_4 e2;obtain⟨v,rfl,O⟩:=Reps.v1 r;unfold Rep at O;obtain⟨p,ws,rfl,s,t⟩:=O;have:=z_7 e1 t;subst this;exact .inr ⟨p,i,is,rfl,Same.seq R.same s,q _ H0 H (Same.refl _) R (g_2 _ _)⟩
 ·cases e⟩
theorem aj6 (hc:X.calm=true):BOk X (.builtin "min") aH8:=⟨_,(aj2 hc).or (aj1 hc),λ c H0 H ρ σ ds d vs Q R r e q=>by
 unfold aH8 at e
 split at e
 ·cases e
  obtain⟨v,v',rfl,Y,Z⟩:=Reps.v2 r;unfold Rep at Y Z;subst Y Z;exact .inl ⟨_,_,rfl,q _ H0 H (Same.refl _) R (g_2 _ _)⟩
 ·obtain⟨is,e1,e2⟩:=a_1 e
  obtain⟨i,is,rfl,rfl⟩:=P_4 e2;obtain⟨v,rfl,O⟩:=Reps.v1 r;unfold Rep at O;obtain⟨p,ws,rfl,s,t⟩:=O;have:=z_7 e1 t;subst this;exact .inr ⟨p,i,is,rfl,Same.seq R.same s,q _ H0 H (Same.refl _) R (g_2 _ _)⟩
 ·cases e⟩
theorem O_9 {K:Frag}{H:Hp}:∀ {ds:List D}{bs:List Bool}{vs:List V},ak0 ds=some bs->Reps K H ds vs->vs=bs.map V.bl
 |[],_,_,e,r=>by
  have O:([]:List Bool)=_:=qi e;unfold Reps at r;rw[r,<- O];rfl
 |d::ds,_,_,e,r=>by
  cases d with
  |bl b =>
   rw[ab1] at e;obtain⟨bs,e1,e2⟩:=a_1 e;cases e2;unfold Reps at r;obtain⟨v,R,rfl,a,t⟩:=r;unfold Rep at a;rw[a,O_9 e1 t];rfl
  |_=>cases e
theorem S_5:∀ {bs:List Bool}{us:List Value},Vals (bs.map V.bl) us->LSm.BoolsAre us bs:=by
 intro bs
 induction bs with
 |nil=>intro us h;cases h;exact .nil
 |cons b r O =>
  intro us h;cases h with
  |cons a t=>cases (show _=Value.bool b from a);exact .cons b (O t)
theorem aj5 (hc:X.calm=true):CallR X (.builtin "all") (λ xs H Q=>∃ (p:Addr) (bs:List Bool),xs=[.ref p] ∧ SqL X.K H p (bs.map V.bl) ∧ Q (.bl (bs.all id)) H):=by
 intro pins s σ H xs us Q I r h;obtain⟨l,bs,rfl,hl,q⟩:=h;obtain⟨u,rfl,ru⟩:=A_4 r;cases ru;obtain⟨O,rv,pl,hz⟩:=I.list hl;have Z:=S_5 rv;have hl:=pl.isList;have R:l<s.heap.objs.size:=by obtain⟨_,e,_⟩:=hl;exact qm e
 refine call_all_walk (wpAny_pyIter_list hl ?_);refine⟨s.heap.objs.size,[s.heap.objs.size,l],[s.heap.objs.size],O.toArray.size,_,_,λ i=>(bs[i]?).getD true,rfl,Walks.list (A:=X.A.in1) (I.ok.hd hc) _ l (qt R) O.toArray,
  ⟨⟨_,qk _ rfl,rfl,rfl⟩,hl.push _⟩,λ i v s' Q' E' hP Y=>?_,λ h' tk hk=>?_⟩
 ·obtain⟨b,e,rfl⟩:=Z.get i v (by simpa using hP)
  simp only[e,Option.getD_some] at Y;exact wpAny_truthy_bool Y
 ·have e:((List.range O.toArray.size).all λ i=>(bs[i]?).getD true)=bs.all id:=by
   rw[List.size_toArray,Z.length];exact LSm.range_all bs
  rw[e];exact⟨.bl _,H,I.kept (t':=tk) (LSm.kept_iter hk),rfl,q⟩
theorem aH2 (Y:X.calm=true):BOk X (.builtin "all") bh6:=⟨_,aj5 Y,λ c H0 H ρ σ ds d vs Q R r e q=>by
 unfold bh6 at e
 split at e
 ·obtain⟨bs,e1,e2⟩:=a_1 e
  cases e2;obtain⟨v,rfl,O⟩:=Reps.v1 r;unfold Rep at O;obtain⟨p,Z,rfl,s,t⟩:=O;have:=O_9 e1 t;subst this;exact⟨p,bs,rfl,Same.seq R.same s,q _ H0 H (Same.refl _) R (s_4 _ _)⟩
 ·cases e⟩
noncomputable def tyN:Ty->String
 |.int=>"int" | .bool=>"bool" | .str=>"str" | .tuple=>"tuple" | .list=>"list"
noncomputable def tyV (d:D):Value:=match d with
 |.non=>.type "NoneType" | .bl _=>.type "bool" | .int _=>.type "int" | .str _=>.type "str" | .tup _=>.type "tuple" | .lst _=>.type "list" | .dct _ _=>.type "dict"
theorem aR8 (K:Frag) (t:Ty) (d:D):PySem.W.kitOne K (tyV d) (.type (tyN t))=some (al2 t d):=by
 cases t <;> cases d <;> rfl
theorem ar0 (t:Ty):CallR X (.builtin "isinstance") (λ xs H Q=>∃ d x,xs=[x,.ty (tyN t)] ∧ Rep X.K H d x ∧ Q (.bl (al2 t d)) H):=by
 intro pins s σ H xs us Q I r h;obtain⟨d,x,rfl,O,q⟩:=h;obtain⟨u,w,rfl,R,Y⟩:=al8 r;cases (show w=Value.type _ from Y);have k:=aR8 X.K t d;have fin:∀ tk,EP X pins σ Q (.bool (al2 t d)) {s with toks:=tk}:=λ tk=>⟨.bl _,H,I.tok tk,rfl,q⟩
 cases d with
 |non=>unfold Rep at O;subst O;cases (show u=Value.none from R);exact PySem.W.kia_one PySem.W.kitx_none I.kIn True.intro k (λ z=>nomatch z) fin
 |bl y=>unfold Rep at O;subst O;cases (show u=Value.bool y from R);exact PySem.W.kia_one PySem.W.kitx_bool I.kIn True.intro k (λ z=>nomatch z) fin
 |int i=>unfold Rep at O;subst O;obtain⟨t,z⟩:=(show ∃ t,u=Value.int i t from R);cases z;exact PySem.W.kia_one PySem.W.kitx_int I.kIn True.intro k (λ z=>nomatch z) fin
 |str y=>unfold Rep at O;subst O;obtain⟨t,z⟩:=(show ∃ t,u=Value.str y t from R);cases z;exact PySem.W.kia_one PySem.W.kitx_str I.kIn True.intro k (λ z=>nomatch z) fin
 |tup ds =>
  unfold Rep at O;obtain⟨a,vs,rfl,Z,_⟩:=O;cases (show u=Value.ref a from R);obtain⟨_,_,⟨o,h1,h2,_⟩,_⟩:=I.tuple Z;exact PySem.W.kia_one PySem.W.kitx_tuple I.kIn ⟨o,h1,h2⟩ k (λ z=>nomatch z) fin
 |dct ks ds =>
  unfold Rep at O;obtain⟨a,ob,us,rfl,ea,_⟩:=O;cases (show u=Value.ref a from R);obtain⟨_,_,_,vs,_,pp⟩:=(show ObjOk X.prog X.w H s.heap a (.frz ob (.dK _)) from I.hok a _ ea);obtain⟨o,es,ep,h1,h2,_⟩:=pp;exact PySem.W.kia_one PySem.W.kitx_dict I.kIn ⟨o,h1,h2.1⟩ k (λ z=>nomatch z) fin
 |lst ds =>
  unfold Rep at O;obtain⟨a,vs,rfl,Z,_⟩:=O;cases (show u=Value.ref a from R);obtain⟨_,_,⟨o,n,h1,h2,_⟩,_⟩:=I.list Z;exact PySem.W.kia_one PySem.W.kitx_list I.kIn ⟨o,h1,h2⟩ k (λ z=>nomatch z) fin
theorem xty {t:Ty}{T:Str}{p O pos:Pos}{e:Expr}{F:FE} (hi:X.mg "isinstance"=none) (hm:X.mg T=none) (hT:bootBuiltins T=some (.type (tyN t))) (ha:XE X e F) (hg:Gl X "isinstance":=by rfl) (Z:Gl X T:=by rfl)
  (hn:T≠"__name__":=by decide) (hd:(T==("__debug__":Str))=false:=by decide) (hs:starEach [e,.Name T O] X.env=(false,eval e X.env)::starEach [.Name T O] X.env:=by rfl) (aa:starEach [.Name T O] X.env=[(false,eval (.Name T O) X.env)]:=by rfl)
  (ab:(backTo pos (starEach [.Name T O] X.env)).any (·.1)=false:=by rfl):XE X (.Call (.Name "isinstance" p) [e,.Name T O] [] pos) (eTy t F) :=
 PE.wk (G_8 (ar0 t) hg hi PyProof.Rows.boot_isinstance (o_0 ha (o_0 (aB0 (v:=.ty (tyN t)) Z hm hT rfl hn hd) u_4 aa) hs) (by decide) (by decide) hs ab) λ σ H Q Y=>by
  obtain⟨c,H0,ρ,d,ac,R,f,q⟩:=Y;unfold eTy at f;obtain⟨⟨x,ad⟩,h1,f⟩:=a_1 f;have f':some (D.bl (al2 t x),ad)=some (d,ac):=f;cases f';exact⟨c,H0,ρ,x,_,R,h1,λ v H1 Hh s1 R1 r1=>⟨x,v,rfl,Rep.mono R1.same x r1,q _ H1 Hh s1 R1 (s_4 _ _)⟩⟩
noncomputable def spP (K:Frag) (g:List D->Option D):Sp:=λ vs H Q _=>∃ Hi ds d,Same Hi H/\Reps K Hi ds vs/\g ds=some d/\∀ v Hi' H',Step Hi H Hi' H'->Rep K Hi' d v->Q v H'
structure DefOk (P:Program) (w:World) (K:Frag) (mg:Str->Option Value) (base:Heap) (k:Nat) (x:Str) (g:List D->Option D):Prop where
 ex:∃ f fd ps,FnOk P w K mg base CX0 k f fd ps (spP K g)/\Binds K fd ps []/\keepIn K (.ref f)=true/\mg x=some (.ref f)
theorem xF {k:Nat}{x:Str}{g:List D → Option D}{A:FA}{p pos:Pos}{e:Expr}{es:List Expr} (G:DefOk X.prog X.w X.K X.mg X.base k x g) (hr:Room k X.A) (ha:XA X (e::es) A) (hg:Gl X x:=by rfl) (Y:(x==("__debug__":Str))=false:=by decide)
  (he:starEach (e::es) X.env=(false,eval e X.env)::starEach es X.env:=by rfl) (aa:(backTo pos (starEach es X.env)).any (·.1)=false:=by rfl):XE X (.Call (.Name x p) (e::es) [] pos) (eF g A):=by
 obtain⟨f,fd,ps,F,hb,hk,hm⟩:=G.ex;refine PE.wk (R_2 F hr hg hm hk hb .nil aB1 ha Y he aa) λ σ H Q O=>?_
 obtain⟨c,H0,ρ,d,Z,R,z,q⟩:=O;unfold eF at z;obtain⟨⟨ds,ab⟩,h1,z⟩:=a_1 z;obtain⟨d',h2,z⟩:=a_1 z;have z':some (d',ab)=some (d,Z):=z;cases z';exact⟨c,H0,ρ,ds,_,R,h1,λ vs H1 Hh s1 R1 r1=>⟨H1,ds,d,R1.same,by rw[List.append_nil];exact r1,h2,λ v Hi' H' S rv=>q v Hi' H' (s1.trans S.s0) (R1.after S) rv⟩⟩
end
noncomputable def y_2 (K:Frag) (J:It) (H1:Hp) (xs:List D):Prop:=∀ (H0 H:Hp) (i:Nat),Same H1 H0->Same H0 H ->
 (∀ d,xs[i]?=some d->J.go i H/\∀ x H',J.yld i H x H'->H'=H/\Rep K H0 d x)/\(xs.length<=i->J.stop i H)
theorem Q_1 {K:Frag}{H1:Hp}{a:Addr}{vs:List V}{xs:List D} (rd:SqL K H1 a vs) (r:Reps K H1 xs vs):y_2 K (Itl K a) H1 xs:=λ H0 H i s s'=>by
 have O:SqL K H a vs:=Same.seq (s.trans s') rd;refine⟨λ d e=>?_,λ h=>⟨vs,O,by rw[<- r.length];exact h⟩⟩
 obtain⟨v,e1,e2⟩:=r.get e;refine⟨⟨vs,v,O,e1⟩,λ x H' ⟨h1,h2⟩=>⟨h1,?_⟩⟩
 have:=h2 vs O;rw[e1] at this;cases this;exact Rep.mono s d e2
theorem Y_0 {K:Frag}{H1:Hp}{a:Addr}{vs:List V}{xs:List D} (rd:SqT K H1 a vs) (r:Reps K H1 xs vs):y_2 K (Itt K a) H1 xs:=λ H0 H i s s'=>by
 have O:SqT K H a vs:=Same.seqT (s.trans s') rd;refine⟨λ d e=>?_,λ h=>⟨vs,O,by rw[<- r.length];exact h⟩⟩
 obtain⟨v,e1,e2⟩:=r.get e;refine⟨⟨vs,v,O,e1⟩,λ x H' ⟨h1,h2⟩=>⟨h1,?_⟩⟩
 have:=h2 vs O;rw[e1] at this;cases this;exact Rep.mono s d e2
theorem A_7:∀ (n:Nat) (lo:Int),(m_7 lo n).length=n
 |0,_=>rfl
 |n+1,lo=>by show (m_7 (lo+1) n).length+1=n+1;rw[A_7 n]
theorem U_2:∀ (n:Nat) (lo:Int) (i:Nat) (d:D),(m_7 lo n)[i]?=some d->d=.int (lo+i)/\i<n
 |0,lo,i,d,h=>by simp[m_7] at h
 |n+1,lo,0,d,h=>by
  simp[m_7] at h;exact⟨by rw[<- h];simp,by omega⟩
 |n+1,lo,i+1,d,h=>by
  have h':(m_7 (lo+1) n)[i]?=some d:=by simpa [m_7] using h
  obtain⟨a,b⟩:=U_2 n (lo+1) i d h';refine⟨by rw[a];congr 1;push_cast;omega,by omega⟩
theorem v_8 {K:Frag}{H1:Hp} (lo:Int) (n:Nat):y_2 K (Itr lo n) H1 (m_7 lo n):=λ H0 H i s s'=>by
 refine⟨λ d e=>?_,λ h=>by rw[A_7] at h;exact h⟩
 obtain⟨rfl,hi⟩:=U_2 n lo i d e;refine⟨hi,λ x H' ⟨h1,h2⟩=>⟨h1,?_⟩⟩
 unfold Rep;exact h2
noncomputable def Its (z:Str):It:=⟨λ i _=>i<z.cps.size,λ i H x H'=>H'=H/\∃ c,z.cps[i]?=some c/\x=.str (chS c),λ i _=>z.cps.size<=i⟩
theorem T_6 {P:Program}{w:World}{K:Frag}{tg:Expr}{n:String} (z:Str) (t:Tok) (it:Addr) (hn:["enumerate","zip","dict_itemiterator","dict_reverseitemiterator","odict_iterator","itertools.zip_longest","itertools.pairwise"].contains n=false)
  (W:∀ A:Around,A.handled=none->Walks P w A it [it] [it] z.cps.size (SignAt z) (λ i h=>h.IsStrIter it n z t i)) (fin:∀ (A:Around) (s:Shared) (i:Nat) (Q:Option Value->Shared->Prop) (E:Value->Shared->Prop),A.handled=none->s.heap.IsStrIter it n z t i->z.cps[i]?=none->(∀ h',Heap.ExtBut it s.heap h'->Q none {s with heap:=h'})->wpAny (model P w) A (pyNext (.ref it)) Q E s)
  (aa:∀ (A:Around) (i:Nat) (s:Shared) (Q:Value->Shared->Prop) (E:Value->Shared->Prop),s.heap.IsStrIter it n z t i->Q (.ref it) s->wpAny (model P w) A (pyIter (.ref it)) Q E s) :
  Turn P w K tg (Its z) [it] it (λ i h=>h.IsStrIter it n z t i) where
 mem:=by simp
 obj:=λ i h st b O=>by
  have e:b=it:=by simpa using O
  subst e;obtain⟨o,e,c,d⟩:=st;exact⟨o,e,λ v z=>by rw[d] at z;cases z⟩
 keep:=λ i h h' st k=>let ⟨o,e,r⟩:=st;⟨o,k it (by simp) o e,r⟩
 item:=by
  intro X hP hw hK hc i pins s σ H E I hf st Y;subst hP hw hK;obtain⟨Z,f1,f2,f3,f4,f5⟩:=hf it (by simp)
  refine (W X.A (I.ok.hd hc)).item i s _ _ Y st λ v h' tk hv R kk=>?_
  obtain⟨ch,u,e1,rfl⟩:=hv;have I1:Inv X pins σ H {s with heap:=h',toks:=tk}:=I.turned (λ b o O e=>kk b o (by simpa using O) e) Z f1 f3 f4 f5
  obtain⟨o,e,c,d⟩:=id R;exact⟨_,rfl,aq3 (s:={s with heap:=h',toks:=tk}) e c d hn ⟨.str (chS ch),H,I1,⟨u,rfl⟩,⟨rfl,ch,e1,rfl⟩,R,λ b O=>(hf b O).1⟩⟩
 done:=by
  intro X hP hw hK hc i pins s σ H E I hf st Y;subst hP hw hK;obtain⟨Z,f1,f2,f3,f4,f5⟩:=hf it (by simp)
  have Y:z.cps.size<=i:=Y;exact fin X.A s i _ _ (I.ok.hd hc) st (by simp[Y]) λ h' eb=>⟨rfl,I.turned (t':=s.toks) (λ b o O e=>eb b o O e) Z f1 f3 f4 f5⟩
 self:=λ A i s Q E st h=>aa A i s Q E st h
noncomputable def bl1 (t:TE):TI:=λ σ H R=>t σ H λ x H1=>∃ z,x=.str z/\R (Its z) H1
noncomputable def iSq (K:Frag) (t:TE):TI:=λ σ H R=>aS9 K t σ H R\/bl0 K t σ H R\/bl1 t σ H R
theorem aO2 {X:Cx}{tg l:Expr}{tl:TE} (hl:PE X l tl):PI X tg l (bl1 tl):=by
 intro pins s σ H R I h;refine thn (hl pins s σ H _ I h) λ v O=>ex5 λ x H1 Z r1 q1=>?_
 obtain⟨z,e,q⟩:=q1;subst e;obtain⟨t,rfl⟩:=r1
 have fp:∀ (o:Obj),∀ b∈[O.heap.objs.size],X_9 X pins H1 b:=λ o b hb=>by
  have e:b=O.heap.objs.size:=by simpa using hb
  subst e;exact Z.fpOk (qj _) (Z.hok.fresh (qj _))
 cases ha:z.cps.all (·<128)
 ·refine wpAny_pyIter_wide ha ?_
  exact⟨O.heap.objs.size,[O.heap.objs.size],_,_,H1,rfl,Z.kept (t':=O.toks) λ b o e=>qd _ e,T_6 (n:="str_iterator") z t _ (by decide) (λ A Y=>Walks.strWide Y _ z t) (λ A s i Q E Y st hx hQ=>wpAny_pyNext_wide_end Y st hx hQ) (λ _ _ _ _ _ st h=>wpAny_pyIter_striter_wide st h),⟨_,qk _ rfl,rfl,rfl⟩,fp {cls:=.none,data:=.fields #[]},q⟩
 ·refine wpAny_pyIter_ascii ha ?_
  exact⟨O.heap.objs.size,[O.heap.objs.size],_,_,H1,rfl,Z.kept (t':=O.toks) λ b o e=>qd _ e,T_6 (n:="str_ascii_iterator") z t _ (by decide) (λ A Y=>Walks.strAscii Y _ z t) (λ A s i Q E Y st hx hQ=>wpAny_pyNext_ascii_end Y st hx hQ) (λ _ _ _ _ _ st h=>wpAny_pyIter_striter_ascii st h),⟨_,qk _ rfl,rfl,rfl⟩,fp {cls:=.none,data:=.fields #[]},q⟩
theorem Y_1 {K:Frag}{H1:Hp} (z:Str):y_2 K (Its z) H1 (chs z):=λ H0 H i s s'=>by
 have hl:(chs z).length=z.cps.size:=by unfold chs;rw[List.length_map,Array.length_toList]
 refine⟨λ d e=>?_,λ h=>by rw[hl] at h;exact h⟩
 have hi:i<z.cps.size:=by rw[<- hl];exact (List.getElem?_eq_some_iff.mp e).1
 refine⟨hi,λ x H' ⟨h1,ch,h2,R⟩=>⟨h1,?_⟩⟩
 unfold chs at e;rw[List.getElem?_map,Array.getElem?_toList,h2] at e;have O:D.str (chS ch)=d:=qi e;subst O;unfold Rep;exact R
theorem aA6 {X:Cx}{tg l:Expr}{tl:TE} (hl:PE X l tl):PI X tg l (iSq X.K tl):=λ pins s σ H R I h=>by
 rcases h with h | h | h
 ·exact ad8 hl pins s σ H R I h
 ·exact aO1 hl pins s σ H R I h
 ·exact aO2 hl pins s σ H R I h
theorem p_8 {K:Frag}{F:FE}{σ:L2.St}{H:Hp}{R:It->Hp->Prop}{c:FC}{H0:Hp}{ρ O:En}{d:D}{xs:List D} (rs:RS K c H0 H ρ σ) (f:F ρ=some (d,O)) (hx:items d=some xs)
  (h:∀ J H1 Y,Same H0 H1->RS K c H1 Y O σ->y_2 K J H1 xs->R J Y):iSq K (tE K F) σ H R:=by
 cases d with
 |lst ds =>
  have e:ds=xs:=qi hx;subst e;refine .inl ⟨c,H0,ρ,_,O,rs,f,λ v H1 Y s1 R1 Z=>?_⟩
  unfold Rep at Z;obtain⟨a,vs,rfl,rd,r⟩:=Z;exact⟨a,rfl,⟨vs,Same.seq R1.same rd⟩,h _ H1 Y s1 R1 (Q_1 rd r)⟩
 |tup ds =>
  have e:ds=xs:=qi hx;subst e;refine .inr (.inl ⟨c,H0,ρ,_,O,rs,f,λ v H1 Y s1 R1 Z=>?_⟩)
  unfold Rep at Z;obtain⟨a,vs,rfl,rd,r⟩:=Z;exact⟨a,rfl,⟨vs,Same.seqT R1.same rd⟩,h _ H1 Y s1 R1 (Y_0 rd r)⟩
 |str z =>
  have e:chs z=xs:=qi hx;subst e;refine .inr (.inr ⟨c,H0,ρ,_,O,rs,f,λ v H1 Y s1 R1 Z=>?_⟩)
  unfold Rep at Z;exact⟨z,Z,h _ H1 Y s1 R1 (Y_1 z)⟩
 |_=>cases hx
theorem W_1 {ρ:En}:∀ {js:List Nat}{fr:En},aa4 ρ js=some fr->fr.length=js.length/\∀ (k:Nat) (s:Sl),fr[k]?=some s->∃ j d,js[k]?=some j/\ρ[j]?=some (.im d)/\s=.im d
 |[],_,h=>by
  have h':([]:En)=_:=qi h;subst h';exact⟨rfl,λ k s e=>by simp at e⟩
 |j::js,_,h=>by
  rw[ah1] at h;obtain⟨s,h1,h⟩:=a_1 h;obtain⟨r,h2,h⟩:=a_1 h;cases h;obtain⟨a,b⟩:=W_1 h2;refine⟨by rw[List.length_cons,List.length_cons,a],λ k s' e=>?_⟩
  cases k with
  |zero =>
   simp at e;subst e;cases z:ρ[j]? with
   |none=>rw[z] at h1;cases h1
   |some Z =>
    rw[z] at h1;cases Z with
    |im d=>exact⟨j,d,rfl,z,(qi h1).symm⟩
    |_=>cases h1
  |succ k =>
   obtain⟨Y,d,R,x2,O⟩:=b k s' (by simpa using e)
   exact⟨Y,d,by simpa using R,x2,O⟩
theorem RS.block {K:Frag}{c:FC}{H0 H:Hp}{ρ:En}{σ:L2.St}{js:List Nat}{fr:En}{d:D}{x:V} (R:RS K c H0 H ρ σ) (hf:aa4 ρ js=some fr) (rx:Rep K H0 d x):RS K ⟨H0,H,[]⟩ H0 H (.im d::fr) (some x::frv σ js):=by
 obtain⟨l,g⟩:=W_1 hf;refine⟨R.same,Same.refl _,λ b o e=>.inl e,λ b o e _=>e,λ a h=>(by cases h),?_,λ i d' e=>?_,λ i b o e=>?_,λ i j b b' o o' a e=>?_⟩
 ·rw[List.length_cons,List.length_cons,l,frv,List.length_map]
 ·cases i with
  |zero=>simp at e;subst e;exact⟨x,rfl,rx⟩
  |succ k =>
   obtain⟨j,Y,x1,x2,O⟩:=g k _ (by simpa using e)
   cases O;obtain⟨v,y1,Z⟩:=R.im j d' x2;refine⟨v,?_,Z⟩;show (frv σ js)[k]?=some (some v);unfold frv;rw[List.getElem?_map,x1];show some (σ[j]?).join=some (some v);rw[y1];rfl
 ·cases i with
  |zero=>simp at e
  |succ k =>
   obtain⟨j,Y,_,_,O⟩:=g k _ (by simpa using e)
   cases O
 ·cases i with
  |zero=>simp at e
  |succ k =>
   obtain⟨j,Y,_,_,O⟩:=g k _ (by simpa using e)
   cases O
theorem RS.step {K:Frag}{Hi O H0 H:Hp}{ρ:En}{σ:L2.St} (R:RS K ⟨Hi,O,[]⟩ H0 H ρ σ):Step Hi O H0 H :=
 ⟨R.init,λ b o e=>R.keep b o e (by simp),R.same,R.fresh⟩
theorem J_0 {α:Type}{xs:List α}{i:Nat}{d:α} (h:xs[i]?=some d):xs.drop i=d::xs.drop (i+1):=by
 obtain⟨hi,e⟩:=List.getElem?_eq_some_iff.mp h;rw[<- e];exact List.drop_eq_getElem_cons hi
theorem aR4 {K:Frag}{c:FC}{H1 Hh:Hp}{ρ:En}{σ:L2.St}{js:List Nat}{fr:En}{T:FT}{F:FE}{xs out:List D}{J:It}{Qf:List V->Hp->Prop} (R:RS K c H1 Hh ρ σ) (hf:aa4 ρ js=some fr) (hc:cGo T F fr xs=some out) (hz:xs.length<=sizeLine) (hy:y_2 K J H1 xs)
  (q:∀ ys H0 H,Same H1 H0->RS K c H0 H ρ σ->Reps K H0 out ys->Qf ys H):LcW js (tTt K T) (tE K F) σ Qf J Hh:=by
 refine⟨λ i m ys H=>m=xs.length-i/\i<=xs.length/\∃ H0,Same H1 H0/\RS K c H0 H ρ σ/\∃ Y rest,Reps K H0 Y ys/\Y.length<=i/\cGo T F fr (xs.drop i)=some rest/\Y++rest=out,⟨xs.length,by simp,Nat.zero_le _,H1,Same.refl _,R,[],out,Reps.nil_,Nat.zero_le _,by simpa using hc,rfl⟩,?_⟩
 rintro i m ys H ⟨rfl,hi,H0,s0,R0,Y,rest,rp,lp,O,e⟩;obtain⟨y1,y2⟩:=hy H0 H i s0 R0.same
 by_cases aa:i<xs.length
 ·have hd:xs[i]?=some xs[i]:=by simp[aa]
  obtain⟨go,yl⟩:=y1 _ hd;refine .inr ⟨go,by rw[<- rp.length];omega,λ x H' hx=>?_⟩
  obtain⟨rfl,rx⟩:=yl x H' hx;rw[J_0 hd,ar2] at O;obtain⟨⟨b,ab⟩,g1,O⟩:=a_1 O;dsimp only at O;refine⟨⟨H0,H',[]⟩,H0,_,b,ab,R0.block hf rx,g1,λ H2 Hh2 s2 R2=>?_⟩
  cases b with
  |false =>
   rw[if_neg Bool.false_ne_true] at O ⊢;have S:=R2.step;exact⟨xs.length-(i+1),by omega,rfl,aa,H2,s0.trans S.s0,R0.after S,Y,rest,Reps.mono S.s0 _ rp,by omega,O,e⟩
  |true =>
   rw[if_pos rfl] at O ⊢;obtain⟨⟨z,ac⟩,g2,O⟩:=a_1 O;obtain⟨t,g3,O⟩:=a_1 O;dsimp only at O;have Z:some (z::t)=some rest:=O;cases Z;refine⟨⟨H0,H',[]⟩,H2,ab,z,ac,R2,g2,λ v H3 Hh3 s3 R3 r3=>?_⟩
   have S:=R3.step;refine⟨xs.length-(i+1),by omega,rfl,aa,H3,s0.trans S.s0,R0.after S,Y++[z],t,(Reps.mono S.s0 _ rp).app (Reps.one r3),?_,g3,?_⟩
   ·rw[List.length_append,List.length_singleton];omega
   ·rw[List.append_assoc];exact e
 ·have ei:i=xs.length:=by omega
  have hn:xs.drop i=[]:=List.drop_eq_nil_of_le (by omega)
  rw[hn,aH4] at O;have Z:([]:List D)=rest:=qi O;subst Z;rw[List.append_nil] at e;subst e;exact .inl ⟨y2 (by omega),by rw[<- rp.length];omega,q ys H0 H s0 R0 rp⟩
noncomputable def XTs (X:Cx) (ifs:List Expr) (T:FT):Prop:=PTs X ifs (tTt X.K T)
theorem PTs.wk {X:Cx}{e:List Expr}{t t':TT} (h:PTs X e t) (w:∀ σ H Q,t' σ H Q->t σ H Q):PTs X e t':=λ pins s σ H Q I q=>h pins s σ H Q I (w σ H Q q)
theorem A_3 {X:Cx}:XTs X [] Fx.tYes:=PTs.wk aA1 λ σ H Q O=>by
 obtain⟨c,H0,ρ,b,Y,R,f,q⟩:=O;have Z:some (true,ρ)=some (b,Y):=f;cases Z;exact q H0 H (Same.refl _) R
theorem v_9 {X:Cx}{c:Expr}{T:FT} (h:XT X c T):XTs X [c] T:=aA0 h
section
variable {X:Cx}{scope sc:Scope}{x:Str}{frees:List Str}{js:List Nat}{px pos:Pos}{elt iter:Expr}{ifs:List Expr}{I F:FE}{T:FT}
theorem ai1 {ρ O:En}{d:D} (h:eLC js I T F ρ=some (d,O)):∃ z xs fr ys,I ρ=some (z,O)/\items z=some xs/\aa4 O js=some fr/\cGo T F fr xs=some ys/\xs.length<=sizeLine/\d=.lst ys:=by
 unfold eLC at h;obtain⟨⟨z,aa⟩,h1,h⟩:=a_1 h;obtain⟨xs,h2,h⟩:=a_1 h;obtain⟨fr,R,h⟩:=a_1 h;obtain⟨ys,Y,h⟩:=a_1 h;dsimp only at h2 R Y h
 split at h
 ·rename_i Z
  cases h;exact⟨z,xs,fr,ys,h1,h2,R,Y,Z,rfl⟩
 ·cases h
theorem xlc (hc:X.calm=true) (Z:X.env.scope=sc) (B:ScB X.N sc scope x frees js) (hi:XE X iter I) (ht:∀ s H C Y,XTs (cxB X (x::frees) scope s H C Y) ifs T) (he:∀ s H C Y,XE (cxB X (x::frees) scope s H C Y) elt F)
  (hs:∀ v,foldedSetIterable iter X.env v=pure v:=by intro _;rfl):XE X (.ListComp elt [⟨.Name x px,iter,ifs,0⟩] scope pos) (eLC js I T F) :=
 PE.wk (bb5 (tt:=tTt X.K T) (te:=tE X.K F) hc Z B (aA6 hi) ht he hs) λ σ H Q O=>by
  obtain⟨c,H0,ρ,d,aa,R,f,q⟩:=O;obtain⟨z,xs,fr,ys,h1,h2,h3,h4,hz,rfl⟩:=ai1 f;refine p_8 R h1 h2 λ J H1 Hh s1 R1 hy=>?_
  refine aR4 R1 h3 h4 hz hy λ vs H2 Hh2 s2 R2 r2=>λ p hp=>?_
  have S:=Step.alloc (o:=.lst vs) R2.same hp;refine q _ _ _ (s1.trans (s2.trans S.s0)) (R2.after S) ?_;unfold Rep;exact⟨p,vs,rfl,.inl (.inl a_9),Reps.mono S.s0 _ r2⟩
end
noncomputable def Post (K:Frag) (c:FC) (Y:Ends) (H0:Hp):Res->Prop
 |.nx R=>∀ O H0' H',Same H0 H0'->RS K c H0' H' R O->Y.nx O H'
 |.rt d R=>∀ v O H0' H',Same H0 H0'->RS K c H0' H' R O->Rep K H0' d v->Y.rt v H'
 |.bk R=>∀ O H0' H',Same H0 H0'->RS K c H0' H' R O->Y.bk O H'
 |.ct R=>∀ O H0' H',Same H0 H0'->RS K c H0' H' R O->Y.ct O H'
noncomputable def tS (K:Frag) (F:FS):TS:=λ O σ H=>∃ c H0 ρ r,RS K c H0 H ρ σ/\F ρ=some r/\Post K c O H0 r
noncomputable def XS (X:Cx) (st:Stmt) (F:FS):Prop:=PS X st (tS X.K F)
noncomputable def XSs (X:Cx) (O:List Stmt) (F:FS):Prop:=PSs X O (tS X.K F)
theorem Post.mono {K:Frag}{c:FC}{R:Ends}{H0 H1:Hp} (s:Same H0 H1):∀ {r:Res},Post K c R H0 r->Post K c R H1 r
 |.nx _,h=>λ O H0' H' z=>h O H0' H' (s.trans z)
 |.rt _ _,h=>λ v O H0' H' z=>h v O H0' H' (s.trans z)
 |.bk _,h=>λ O H0' H' z=>h O H0' H' (s.trans z)
 |.ct _,h=>λ O H0' H' z=>h O H0' H' (s.trans z)
theorem RS.set {K:Frag}{c:FC}{H0 H:Hp}{ρ:En}{σ:L2.St}{d:D}{v:V} (R:RS K c H0 H ρ σ) (i:Nat) (r:Rep K H0 d v):RS K c H0 H (ρ.set i (.im d)) (σ.set i (some v)):=by
 have hl:=R.len;have Y:∀ (j:Nat) (sl:Sl),j≠i->(ρ.set i (.im d))[j]?=some sl->ρ[j]?=some sl:=λ j sl Z e=>by rwa [List.getElem?_set_ne (Ne.symm Z)] at e
 have O:∀ (j:Nat),j≠i->(σ.set i (some v))[j]?=σ[j]?:=λ j Z=>List.getElem?_set_ne (Ne.symm Z)
 have same:∀ (sl:Sl),(ρ.set i (.im d))[i]?=some sl->sl=.im d/\i<ρ.length:=λ sl e=>by
  by_cases hi:i<ρ.length
  ·rw[List.getElem?_set_self hi] at e;exact⟨(qi e).symm,hi⟩
  ·rw[List.getElem?_eq_none (by rw[List.length_set];omega)] at e;cases e
 refine⟨R.same,R.init,R.fresh,R.keep,R.apt,by rw[List.length_set,List.length_set,hl],λ j d' e=>?_,λ j bb o e=>?_,λ j k b1 b2 o o' a e1 e2 e3 e4=>?_⟩
 ·by_cases Z:j=i
  ·subst Z
   obtain⟨e',hi⟩:=same _ e;cases e';exact⟨v,by rw[List.getElem?_set_self (by omega)],r⟩
  ·rw[O j Z];exact R.im j d' (Y j _ Z e)
 ·by_cases Z:j=i
  ·subst Z;obtain⟨e',_⟩:=same _ e;cases e'
  ·rw[O j Z];exact R.ow j bb o (Y j _ Z e)
 ·by_cases Z:j=i
  ·subst Z;obtain⟨e',_⟩:=same _ e1;cases e'
  ·by_cases hk:k=i
   ·subst hk;obtain⟨e',_⟩:=same _ e2;cases e'
   ·rw[O j Z] at e3;rw[O k hk] at e4
    exact R.ne j k b1 b2 o o' a (Y j _ Z e1) (Y k _ hk e2) e3 e4
section
variable {X:Cx}{pos:Pos}{e:Expr}{F:FE}{T:FT}{A B:FS}
theorem xsN:XSs X [] sN:=PSs.wk Q_8 λ Z σ H O=>by
 obtain⟨c,H0,ρ,r,R,f,q⟩:=O;have Y:some (Res.nx ρ)=some r:=f;cases Y;exact q σ H0 H (Same.refl _) R
theorem xs1 {st:Stmt} (h:XS X st A):XSs X [st] A:=w_1 h
theorem xsC {st:Stmt}{rest:List Stmt} (h1:XS X st A) (h2:XSs X rest B):XSs X (st::rest) (b_4 A B):=PSs.wk (m_1 h1 h2) λ Dn σ H Y=>by
 obtain⟨c,H0,ρ,r,R,f,q⟩:=Y;unfold b_4 at f;obtain⟨z,h,f⟩:=a_1 f;refine⟨c,H0,ρ,z,R,h,?_⟩;cases z with
 |nx O=>exact λ aa H0' H' s R'=>⟨c,H0',O,r,R',f,q.mono s⟩
 |rt d O=>have Z:some (Res.rt d O)=some r:=f;cases Z;exact q
 |bk O=>have Z:some (Res.bk O)=some r:=f;cases Z;exact q
 |ct O=>have Z:some (Res.ct O)=some r:=f;cases Z;exact q
theorem l_2 (i:Nat) {x:Str}{pos':Pos} (hN:X.N.Nodup) (he:XE X e F) (hi:X.N[i]?=some x:=by rfl) (hx:Loc X.env.scope x:=by first | exact Or.inl rfl | exact Or.inr rfl) (Z:swapsWith e (some (.Name x pos')) pos.line X.env=pure false:=by rfl)
  (hf:X.fn x=true\/X.env.scope.names.lookup x=some .local:=by first | exact .inl rfl | exact .inr rfl):XS X (.Assign [.Name x pos'] e pos) (d_5 i F):=PS.wk (A_8 hN hi hx he Z hf) λ Dn σ H O=>by
 obtain⟨c,H0,ρ,r,R,f,q⟩:=O;unfold d_5 at f;obtain⟨⟨d,Y⟩,h1,f⟩:=a_1 f;have f':some (Res.nx (Y.set i (.im d)))=some r:=f;cases f';exact⟨c,H0,ρ,d,Y,R,h1,λ v H1 Hh s1 R1 r1=>q _ H1 Hh s1 (R1.set i r1)⟩
theorem ac0 (i:Nat) {y x:Str}{py px spos:Pos}{scope sc:Scope}{frees:List Str}{js:List Nat}{elt iter:Expr}{ifs:List Expr}{I:FE} (hN:X.N.Nodup) (hc:X.calm=true) (ab:X.env.scope=sc) (Bk:ScB X.N sc scope x frees js) (hi:XE X iter I)
  (ht:∀ s H C Y,XTs (cxB X (x::frees) scope s H C Y) ifs T) (he:∀ s H C Y,XE (cxB X (x::frees) scope s H C Y) elt F) (aa:X.N[i]?=some y:=by rfl) (hy:X.env.scope.names.lookup y=some .local:=by rfl)
  (Z:swapsWith (.ListComp elt [⟨.Name x px,iter,ifs,0⟩] scope pos) (some (.Name y py)) spos.line X.env=pure true:=by rfl)
  (hs:∀ v,foldedSetIterable iter X.env v=pure v:=by intro _;rfl):XS X (.Assign [.Name y py] (.ListComp elt [⟨.Name x px,iter,ifs,0⟩] scope pos) spos) (d_5 i (eLC js I T F)) :=
 PS.wk (U_7 (tt:=tTt X.K T) (te:=tE X.K F) hN aa hy hc ab Bk (aA6 hi) ht he Z hs) λ Dn σ H O=>by
  obtain⟨c,H0,ρ,r,R,f,q⟩:=O;unfold d_5 at f;obtain⟨⟨d,ac⟩,h1,f⟩:=a_1 f;have f':some (Res.nx (ac.set i (.im d)))=some r:=f;cases f';obtain⟨z,xs,fr,ys,h0,h2,h3,h4,hz,rfl⟩:=ai1 h1;refine p_8 R h0 h2 λ J H1 Hh s1 R1 hy=>?_
  refine aR4 R1 h3 h4 hz hy λ vs H2 Hh2 s2 R2 r2=>λ p hp=>?_
  have S:=Step.alloc (o:=.lst vs) R2.same hp;refine q _ _ _ (s1.trans (s2.trans S.s0)) ((R2.after S).set i ?_);unfold Rep;exact⟨p,vs,rfl,.inl (.inl a_9),Reps.mono S.s0 _ r2⟩
theorem o_1 {c:Expr}{a b:List Stmt} (hc:XT X c T) (ha:XSs X a A) (hb:XSs X b B):XS X (.If c a b pos) (sIf T A B):=PS.wk (aA2 hc ha hb) λ Dn σ H Y=>by
 obtain⟨c,H0,ρ,r,R,f,q⟩:=Y;unfold sIf at f;obtain⟨⟨k,O⟩,h1,f⟩:=a_1 f;dsimp only at f;refine⟨c,H0,ρ,k,O,R,h1,λ H1 Hh s1 Z=>?_⟩
 cases k with
 |true =>
  rw[if_pos rfl] at f ⊢;exact⟨c,H1,O,r,Z,f,q.mono s1⟩
 |false =>
  rw[if_neg Bool.false_ne_true] at f ⊢;exact⟨c,H1,O,r,Z,f,q.mono s1⟩
theorem g_4 (he:XE X e F):XS X (.Return (some e) pos) (e_7 F):=PS.wk (U_8 he) λ Dn σ H O=>by
 obtain⟨c,H0,ρ,r,R,f,q⟩:=O;unfold e_7 at f;obtain⟨⟨d,Y⟩,h1,f⟩:=a_1 f;have Z:some (Res.rt d Y)=some r:=f;cases Z;exact⟨c,H0,ρ,d,Y,R,h1,λ v H1 Hh s1 R1 r1=>q v σ H1 Hh s1 R1 r1⟩
abbrev GD:=D->En->Option En
noncomputable def tG (K:Frag) (g:GD):TG:=λ v σ H Q=>∃ c H0 ρ d O,RS K c H0 H ρ σ/\Rep K H0 d v/\g d ρ=some O/\∀ R H0' H',Same H0 H0'->RS K c H0' H' O R->Q R H'
noncomputable def tGs (K:Frag) (is:List Nat):TGs:=λ vs σ H Q=>∃ c H0 ρ ds,RS K c H0 H ρ σ/\Reps K H0 ds vs/\ds.length=is.length/\∀ O H0' H',Same H0 H0'->RS K c H0' H' (F_1 is ds ρ) O->Q O H'
noncomputable def XG (X:Cx) (tg:Expr) (g:GD):Prop:=PG X tg (tG X.K g)
noncomputable def XGs (X:Cx) (O:List Expr) (is:List Nat):Prop:=PGs X O (tGs X.K is)
theorem xgN (i:Nat) {x:Str} (hN:X.N.Nodup) (hi:X.N[i]?=some x:=by rfl) (hx:Loc X.env.scope x:=by first | exact Or.inl rfl | exact Or.inr rfl) (hf:X.fn x=true\/X.env.scope.names.lookup x=some .local:=by first | exact .inl rfl | exact .inr rfl):XG X (.Name x pos) (gN i) :=
 λ pins s σ H v u Q I Z O=>by obtain⟨c,H0,ρ,d,Y,R,r,f,q⟩:=O;exact R_0 hN hi hx hf pins s σ H v u Q I Z (by
  have f':some (ρ.set i (.im d))=some Y:=f;cases f';exact q _ H0 H (Same.refl _) (R.set i r))
theorem bi0:XGs X [] []:=λ pins s σ H vs us Q I Y O=>by obtain⟨c,H0,ρ,ds,R,r,l,q⟩:=O;exact aA7 pins s σ H vs us Q I Y (by
 have e:ds=[]:=List.length_eq_zero_iff.mp l;subst e;unfold Reps at r;exact⟨r,q σ H0 H (Same.refl _) (by simpa [Y_5] using R)⟩)
theorem aI7 {e:Expr}{es:List Expr}{i:Nat}{is:List Nat} (h1:XG X e (gN i)) (h2:XGs X es is) (hs:(assignEach (e::es) X.env).map (·.2)=assign e X.env::(assignEach es X.env).map (·.2):=by rfl):XGs X (e::es) (i::is) :=
 λ pins s σ H vs us Q I rv O=>by obtain⟨c,H0,ρ,ds,R,r,l,q⟩:=O;exact ao2 h1 h2 hs pins s σ H vs us Q I rv (by
  cases ds with
  |nil=>simp at l
  |cons d ds =>
   unfold Reps at r;obtain⟨v,vr,rfl,r1,r2⟩:=r;refine⟨v,vr,rfl,c,H0,ρ,d,_,R,r1,rfl,λ aa H1 Hh Z R1=>?_⟩
   exact⟨c,H1,_,ds,R1,Reps.mono Z _ r2,by simpa using l,λ Y H2 Hh2 s2 R2=>q Y H2 Hh2 (Z.trans s2) (by simpa [Q_4] using R2)⟩)
theorem w_9 {X:Cx}{s:Shared}{E:Value->Shared->Prop}{O:List Expr}{k:Nat}{l:Addr}{items:Array Value}{Q:Unit->Shared->Prop} (Z:X.A.handled=none) (hl:s.heap.IsList l items)
  (Y:(assignEach O X.env).length=items.size) (R:(assignEach O X.env).findIdx? (·.1)=none)
  (h:∀ h',Heap.ExtBut s.heap.objs.size s.heap h'->wpAny (model X.prog X.w) X.A (assignInOrder ((assignEach O X.env).map (·.2)) items.toList) Q E {s with heap:=h'}) :
  wpAny (model X.prog X.w) X.A (assign (.Tuple O k pos) X.env (.ref l)) Q E s:=by
 rw[assign_Tuple];refine qb (wpAny_standAt ?_);unfold unpack;rw[Y,R];exact qb (wpAny_holding (PySem.W.kun_itemsOf Z hl h))
noncomputable def bt9 (K:Frag) (n:Nat) (t:TGs):TG:=λ v σ H Q=>∃ a xs,v=.ref a/\SqL K H a xs/\xs.length=n/\t xs σ H Q
theorem aO4 {es:List Expr}{k:Nat}{t:TGs}{n:Nat} (hc:X.calm=true) (h:PGs X es t)
  (hn:(assignEach es X.env).length=n:=by rfl) (O:(assignEach es X.env).findIdx? (·.1)=none:=by rfl):PG X (.Tuple es k pos) (bt9 X.K n t):=by
 intro pins s σ H v u Q I r hw;obtain⟨a,xs,e1,hq,hl,hw⟩:=hw;subst e1;cases r;obtain⟨Z,R,Y,hz⟩:=I.list hq;refine w_9 (I.ok.hd hc) Y.isList (by simp[hn,<- hl,R.length]) O λ h' hx=>?_
 have I1:Inv X pins σ H {s with heap:=h'}:=I.kept (t':=s.toks) λ b o e=>hx b o (qt (qm e)) e
 exact h pins _ σ H xs _ Q I1 (by simpa using R) hw
theorem xgT {es:List Expr}{k:Nat}{is:List Nat} (h:XGs X es is) (hc:X.calm=true:=by rfl) (hn:(assignEach es X.env).length=is.length:=by rfl) (Y:(assignEach es X.env).findIdx? (·.1)=none:=by rfl):XG X (.Tuple es k pos) (gT is) :=
 λ pins s σ H v u Q I rv O=>by
  obtain⟨c,H0,ρ,d,aa,R,r,f,q⟩:=O;unfold gT at f;obtain⟨xs,h1,f⟩:=a_1 f
  split at f
  ·rename_i hl
   cases f;cases d with
   |tup ds =>
    refine aO3 hc h hn Y pins s σ H v u Q I rv ?_;have e:ds=xs:=qi h1;subst e;unfold Rep at r;obtain⟨a,vs,rfl,Z,r⟩:=r;exact⟨a,vs,rfl,Same.seqT R.same Z,by rw[<- r.length];exact hl,c,H0,ρ,ds,R,r,hl,q⟩
   |lst ds =>
    refine aO4 hc h hn Y pins s σ H v u Q I rv ?_;have e:ds=xs:=qi h1;subst e;unfold Rep at r;obtain⟨a,vs,rfl,Z,r⟩:=r;exact⟨a,vs,rfl,Same.seq R.same Z,by rw[<- r.length];exact hl,c,H0,ρ,ds,R,r,hl,q⟩
   |_=>cases h1
  ·cases f
theorem ah5 {K:Frag}{c:FC}{H1 Hh:Hp}{ρ:En}{σ:L2.St}{g:GD}{B:FS}{xs:List D}{J:It}{Dn:Ends}{r:Res} (R:RS K c H1 Hh ρ σ) (hf:fGo g B xs ρ=some r) (hy:y_2 K J H1 xs) (q:Post K c Dn H1 r) :
  ∃ W:Nat->Nat->L2.St->Hp->Prop,(∃ m,W 0 m σ Hh)/\∀ i m σ H,W i m σ H ->
   (J.stop i H/\Dn.nx σ H)\/(J.go i H/\∃ N:L2.St->Hp->Prop,(∀ O H',N O H'->∃ m',m'<m/\W (i+1) m' O H')/\∀ x H',J.yld i H x H'->tG K g x σ H' λ ac H2=>tS K B {Dn with nx:=N,ct:=N,bk:=Dn.nx} ac H2):=by
 refine⟨λ i m σ H=>m=xs.length-i/\i<=xs.length/\∃ H0 ρ,Same H1 H0/\RS K c H0 H ρ σ/\fGo g B (xs.drop i) ρ=some r,⟨xs.length,by simp,Nat.zero_le _,H1,ρ,Same.refl _,R,by simpa using hf⟩,?_⟩
 rintro i m σ H ⟨rfl,hi,H0,ρ,s0,R0,hg⟩;obtain⟨y1,y2⟩:=hy H0 H i s0 R0.same
 by_cases aa:i<xs.length
 ·have hd:xs[i]?=some xs[i]:=by simp[aa]
  obtain⟨go,yl⟩:=y1 _ hd;refine .inr ⟨go,λ O H'=>∃ m',m'<xs.length-i/\m'=xs.length-(i+1)/\i+1<=xs.length/\∃ H0 ρ,Same H1 H0/\RS K c H0 H' ρ O/\fGo g B (xs.drop (i+1)) ρ=some r,λ O H' ⟨m',a,b⟩=>⟨m',a,b⟩,λ x H' hx=>?_⟩
  obtain⟨rfl,rx⟩:=yl x H' hx;rw[J_0 hd,aq5] at hg;obtain⟨ab,g1,hg⟩:=a_1 hg;obtain⟨z,g2,hg⟩:=a_1 hg;refine⟨c,H0,ρ,_,ab,R0,rx,g1,λ ad H2 Hh2 s2 R2=>⟨c,H2,ab,z,R2,g2,?_⟩⟩
  cases z with
  |nx Y=>exact λ O H3 Hh3 s3 R3=>⟨_,by omega,rfl,aa,H3,Y,s0.trans (s2.trans s3),R3,hg⟩
  |ct Y=>exact λ O H3 Hh3 s3 R3=>⟨_,by omega,rfl,aa,H3,Y,s0.trans (s2.trans s3),R3,hg⟩
  |bk Y =>
   have Z:some (Res.nx Y)=some r:=hg;cases Z;exact λ O H3 Hh3 s3 R3=>q O H3 Hh3 (s0.trans (s2.trans s3)) R3
  |rt d Y =>
   have Z:some (Res.rt d Y)=some r:=hg;cases Z;exact λ v O H3 Hh3 s3 R3 r3=>q v O H3 Hh3 (s0.trans (s2.trans s3)) R3 r3
 ·have hn:xs.drop i=[]:=List.drop_eq_nil_of_le (by omega)
  rw[hn,aD9] at hg;have Z:some (Res.nx ρ)=some r:=hg;cases Z;exact .inl ⟨y2 (by omega),q σ H0 H s0 R0⟩
theorem aI8 {tg iter:Expr}{body:List Stmt}{g:GD} (hg:XG X tg g) (hi:XE X iter F) (hb:XSs X body B) (Z:PassesOwn (model X.prog X.w) X.A X.env X.xe:=by exact PassesOwn.never) (hc:X.calm=true:=by rfl) (hs:∀ x,foldedSetIterable iter X.env x=pure x:=by intro _;rfl) :
  XS X (.For tg iter body [] pos) (am6 g F B):=PS.wk (U_9 Z hc (aA6 hi) hg hb hs) λ Dn σ H O=>by
 obtain⟨c,H0,ρ,r,R,f,q⟩:=O;unfold am6 at f;obtain⟨⟨d,aa⟩,h1,f⟩:=a_1 f;obtain⟨xs,h2,f⟩:=a_1 f;exact p_8 R h1 h2 λ J H1 Hh s1 R1 Y=>ah5 R1 f Y (q.mono s1)
theorem T_3 {tg a:Expr}{body:List Stmt}{g:GD}{p pos':Pos} (hm:X.mg "range"=none) (hg:XG X tg g) (ha:XE X a F) (hb:XSs X body B) (Z:Gl X "range":=by rfl) (hp:PassesOwn (model X.prog X.w) X.A X.env X.xe:=by exact PassesOwn.never) (hc:X.calm=true:=by rfl)
  (Y:starEach [a] X.env=[(false,eval a X.env)]:=by rfl) (hs:∀ x,foldedSetIterable (.Call (.Name "range" p) [a] [] pos') X.env x=pure x:=by intro _;rfl) :
  XS X (.For tg (.Call (.Name "range" p) [a] [] pos') body [] pos) (u_2 g (Y_7 F) B):=PS.wk (U_9 hp hc (M_3 Z hm (o_0 ha u_4 Y) Y) hg hb hs) λ Dn σ H O=>by
 obtain⟨c,H0,ρ,r,R,f,q⟩:=O;unfold u_2 Y_7 at f;obtain⟨⟨xs,ab⟩,h1,f⟩:=a_1 f;obtain⟨⟨d,aa⟩,h2,h1⟩:=a_1 h1;obtain⟨j,h3,h1⟩:=a_1 h1;dsimp only at h1 h3 f
 split at h1
 ·rename_i hj
  cases h1;refine⟨c,H0,ρ,d,_,R,h2,λ v H1 Hh s1 R1 r1=>?_⟩
  cases d with
  |int k =>
   have e:k=j:=qi h3;subst e;unfold Rep at r1;subst r1;exact⟨k,rfl,hj.1,hj.2,ah5 R1 f (v_8 0 k.toNat) (q.mono s1)⟩
  |_=>cases h3
 ·cases h1
theorem as5 {tg a b:Expr}{body:List Stmt}{g:GD}{G:FE}{p pos':Pos} (hm:X.mg "range"=none) (hg:XG X tg g) (ha:XE X a F) (ab:XE X b G) (hb:XSs X body B) (ac:Gl X "range":=by rfl) (hp:PassesOwn (model X.prog X.w) X.A X.env X.xe:=by exact PassesOwn.never) (hc:X.calm=true:=by rfl)
  (aa:starEach [a,b] X.env=[(false,eval a X.env),(false,eval b X.env)]:=by rfl) (O:starEach [b] X.env=[(false,eval b X.env)]:=by rfl) (hs:∀ x,foldedSetIterable (.Call (.Name "range" p) [a,b] [] pos') X.env x=pure x:=by intro _;rfl) :
  XS X (.For tg (.Call (.Name "range" p) [a,b] [] pos') body [] pos) (u_2 g (aN1 F G) B):=PS.wk (U_9 hp hc (ad7 ac hm (o_0 ha (o_0 ab u_4 O) (by rw[aa,O])) aa O) hg hb hs) λ Dn σ H Z=>by
 obtain⟨c,H0,ρ,r,R,f,q⟩:=Z;unfold u_2 aN1 at f;obtain⟨⟨xs,ae⟩,h1,f⟩:=a_1 f;obtain⟨⟨d,Y⟩,h2,h1⟩:=a_1 h1;obtain⟨⟨d',ad⟩,h3,h1⟩:=a_1 h1;obtain⟨i,h4,h1⟩:=a_1 h1;obtain⟨j,h5,h1⟩:=a_1 h1;dsimp only at h1 h3 h4 h5 f
 split at h1
 ·rename_i hj
  cases h1;refine⟨c,H0,ρ,d,Y,R,h2,λ v H1 Hh s1 R1 r1=>?_⟩
  refine⟨c,H1,Y,d',_,R1,h3,λ v' H2 Hh2 s2 R2 r2=>?_⟩
  cases d with
  |int k =>
   cases d' with
   |int k' =>
    have e:k=i:=qi h4;have e':k'=j:=qi h5;subst e e';unfold Rep at r1 r2;subst r1 r2;exact⟨k,k',rfl,hj,ah5 R2 f (v_8 k (k'-k).toNat) (q.mono (s1.trans s2))⟩
   |_=>cases h5
  |_=>cases h4
 ·cases h1
theorem aK2 {c:Expr}{body:List Stmt}{aa:En->Nat} (hc:XT X c T) (hb:XSs X body B) (hp:PassesOwn (model X.prog X.w) X.A X.env X.xe:=by exact PassesOwn.never):XS X (.While c body [] pos) (at9 aa T B):=PS.wk (an0 hp hc hb) λ Dn σ H ac=>by
 obtain⟨c,H0,ρ,r,R,f,q⟩:=ac;refine⟨λ m σ H=>∃ H1 ρ,Same H0 H1/\RS X.K c H1 H ρ σ/\wGo T B m ρ=some r,⟨aa ρ,H0,ρ,Same.refl _,R,f⟩,?_⟩
 rintro m ad Hh ⟨H1,ae,s1,R1,hw⟩;cases m with
 |zero=>cases hw
 |succ m =>
  rw[al7] at hw;obtain⟨⟨b,ab⟩,h1,hw⟩:=a_1 hw;dsimp only at hw;refine⟨c,H1,ae,b,ab,R1,h1,λ H2 Hh2 s2 R2=>?_⟩
  cases b with
  |false =>
   rw[if_neg Bool.false_ne_true] at hw ⊢;have Z:some (Res.nx ab)=some r:=hw;cases Z;exact q ad H2 Hh2 (s1.trans s2) R2
  |true =>
   rw[if_pos rfl] at hw ⊢;obtain⟨z,h2,hw⟩:=a_1 hw;refine⟨λ O H'=>∃ m',m'<m+1/\∃ H1 ρ,Same H0 H1/\RS X.K c H1 H' ρ O/\wGo T B m' ρ=some r,λ O H' h=>h,⟨c,H2,ab,z,R2,h2,?_⟩⟩
   cases z with
   |nx Y=>exact λ O H3 Hh3 s3 R3=>⟨m,by omega,H3,Y,s1.trans (s2.trans s3),R3,hw⟩
   |ct Y=>exact λ O H3 Hh3 s3 R3=>⟨m,by omega,H3,Y,s1.trans (s2.trans s3),R3,hw⟩
   |bk Y =>
    have Z:some (Res.nx Y)=some r:=hw;cases Z;exact λ O H3 Hh3 s3 R3=>q O H3 Hh3 (s1.trans (s2.trans s3)) R3
   |rt d Y =>
    have Z:some (Res.rt d Y)=some r:=hw;cases Z;exact λ v O H3 Hh3 s3 R3 r3=>q v O H3 Hh3 (s1.trans (s2.trans s3)) R3 r3
end
theorem RS.start {K:Frag}{Hi H:Hp}{ds:List D}{vs:List V}{m n:Nat} (s:Same Hi H) (r:Reps K Hi ds vs) (R:n-vs.length=m):RS K ⟨Hi,H,[]⟩ Hi H (ds.map .im++List.replicate m .no) (vs.map some++List.replicate (n-vs.length) none):=by
 have hl:=r.length;refine⟨s,Same.refl _,λ b o e=>.inl e,λ b o e _=>e,λ a h=>(by cases h),?_,λ i d e=>?_,λ i b o e=>?_,λ i j b Y o o' a e=>?_⟩
 ·rw[List.length_append,List.length_append,List.length_map,List.length_map,List.length_replicate,List.length_replicate,hl,R]
 ·by_cases hi:i<ds.length
  ·rw[List.getElem?_append_left (by simpa using hi),List.getElem?_map] at e
   cases z:ds[i]? with
   |none=>rw[z] at e;cases e
   |some d' =>
    rw[z] at e;have O:d'=d:=by have:=qi e;injection this
    subst O;obtain⟨v,a,b⟩:=r.get z;exact⟨v,by rw[List.getElem?_append_left (by simp;omega),List.getElem?_map,a];rfl,b⟩
  ·rw[List.getElem?_append_right (by simpa using Nat.le_of_not_lt hi),List.getElem?_replicate] at e
   split at e <;> cases e
 ·by_cases hi:i<ds.length
  ·rw[List.getElem?_append_left (by simpa using hi),List.getElem?_map] at e
   cases z:ds[i]? with
   |none=>rw[z] at e;cases e
   |some d'=>rw[z] at e;cases e
  ·rw[List.getElem?_append_right (by simpa using Nat.le_of_not_lt hi),List.getElem?_replicate] at e
   split at e <;> cases e
 ·by_cases hi:i<ds.length
  ·rw[List.getElem?_append_left (by simpa using hi),List.getElem?_map] at e
   cases z:ds[i]? with
   |none=>rw[z] at e;cases e
   |some d'=>rw[z] at e;cases e
  ·rw[List.getElem?_append_right (by simpa using Nat.le_of_not_lt hi),List.getElem?_replicate] at e
   split at e <;> cases e
theorem e_6 {P:Program}{w:World}{K:Frag}{mg:Str->Option Value}{base:Heap}{x O:Str}{st:Stmt}{f:Addr}{fd:FuncData}{N ps:List Str}{k n m:Nat}{B:FS} (F:Fun K x O st f fd) (S:FnScope N ps (a_0 st)) (hn:ps.length=n) (hN:N.length=n+m)
  (hb:∀ (Y:Value) (A:Around) (outer:List Env) (s:Shared) (H:Hp) (E:XK),Room k (A.deeper (envOfC O (a_0 st) s.heap.objs.size f Y))->XSs (al4 CX0 P w K mg base N O (a_0 st) f Y A outer s H E).nox (a_3 st) B) :
  FnOk P w K mg base CX0 (k+1) f fd ps (spP K (fnD n m B)):=by
 have aa:∀ {ds:List D}{d:D},fnD n m B ds=some d->ds.length=n/\∃ r,B (ds.map .im++List.replicate m .no)=some r/\ba9 r=some d:=λ {ds d} h=>by
  unfold fnD at h
  split at h
  ·rename_i hl
   obtain⟨r,h1,h2⟩:=a_1 h;exact⟨hl,r,h1,h2⟩
  ·cases h
 refine F.ok S (λ vs H Q E h=>?_) (λ Y A outer s H vs Q E hr h=>?_)
 ·obtain⟨Hi,ds,d,_,r,e,_⟩:=h
  rw[hn,<- r.length];exact (aa e).1
 ·obtain⟨Hi,ds,d,hs,r,e,q⟩:=h
  obtain⟨hl,res,h1,h2⟩:=aa e;refine⟨_,hb Y A outer s H E hr,⟨Hi,H,[]⟩,Hi,_,res,RS.start (n:=N.length) (m:=m) hs r (by rw[<- r.length];omega),h1,?_⟩
  cases res with
  |nx Z =>
   have e':D.non=d:=qi h2;subst e';exact λ ab H0' H' s0 R=>q .non H0' H' R.step (by unfold Rep;rfl)
  |rt d' Z =>
   have e':d'=d:=qi h2;subst e';exact λ v ab H0' H' s0 R rv=>q v H0' H' R.step rv
  |bk Z=>cases h2
  |ct Z=>cases h2
end Fx
namespace Fx
open PySem
@[simp] theorem bo3 (i j:Int):s_2 (.int i) (.int j)=some (.int (i+j)):=zR rfl
@[simp] theorem bo2 (a b:List D):s_2 (.lst a) (.lst b)=if a.length+b.length<=sizeLine then some (.lst (a++b)) else none:=zR rfl
@[simp] theorem bn5 (i j:Int):W_5 (.int i) (.int j)=some (.int (i-j)):=zR rfl
@[simp] theorem bn7 (i j:Int):ab8 (.int i) (.int j)=if w_3 i j=true then some (.int (i*j)) else none:=zR rfl
@[simp] theorem bo1 (i j:Int):p_4 (.int i) (.int j)=if B_4 j=true then some (.int (i.fdiv j)) else none:=zR rfl
@[simp] theorem bn8 (i j:Int):n_6 (.int i) (.int j)=if j≠0 then some (.int (i.fmod j)) else none:=zR rfl
@[simp] theorem bn6 (i:Int):aK0 (.int i)=some (.int (-i)):=zR rfl
@[simp] theorem bw0 (i j:Int):dLt (.int i) (.int j)=some (.bl (decide (i<j))):=zR rfl
@[simp] theorem bw1 (i j:Int):dLe (.int i) (.int j)=some (.bl (decide (i<=j))):=zR rfl
@[simp] theorem bw2 (i j:Int):dGt (.int i) (.int j)=some (.bl (decide (j<i))):=zR rfl
@[simp] theorem bw3 (i j:Int):dGe (.int i) (.int j)=some (.bl (decide (j<=i))):=zR rfl
@[simp] theorem bz0 (x y:D):dEq x y=if dpD x<=30/\dpD y<=30 then some (.bl (eqD x y)) else none:=zR rfl
@[simp] theorem by8 (x y:D):dNe x y=if dpD x<=30/\dpD y<=30 then some (.bl (!eqD x y)) else none:=zR rfl
@[simp] theorem by9 (x:D):dIs x .non=some (.bl (isN x)):=zR rfl
@[simp] theorem bg9 (x:D):n_8 x .non=some (.bl (!isN x)):=zR rfl
@[simp] theorem bn4 (b:Bool):aw7 (.bl b)=some b:=zR rfl
@[simp] theorem bn3 (xs:List D):aw7 (.lst xs)=some (!xs.isEmpty):=zR rfl
@[simp] theorem bw6 (i:Int):aV8 [.int i]=some (.int (i.natAbs:Int)):=congrArg (λ z=>some (D.int z)) (show (if i<0 then -i else i)=(i.natAbs:Int) by split <;> omega)
theorem aV7 (xs:List D):ar8 [.lst xs]=bnd (q_3 xs) λ is=>ak2 E_4 is:=rfl
theorem aV6 (xs:List D):aH8 [.lst xs]=bnd (q_3 xs) λ is=>ak2 E_3 is:=rfl
@[simp] theorem bw5 (i j:Int):ar8 [.int i,.int j]=some (.int (if j > i then j else i)):=zR rfl
@[simp] theorem bw4 (i j:Int):aH8 [.int i,.int j]=some (.int (if j<i then j else i)):=zR rfl
noncomputable def bo4 {α:Type} (x:α) (o:Option (List α)):Option (List α):=bnd o λ t=>some (x::t)
@[simp] theorem aV0 {α:Type} (x:α) (t:List α):bo4 x (some t)=some (x::t):=zR rfl
@[simp] theorem av7 (b:Int):al2 .int (.int b)=true:=zR rfl
@[simp] theorem av8 (b:Bool):al2 .bool (.bl b)=true:=zR rfl
@[simp] theorem ap7 (b:Int):al2 .bool (.int b)=false:=zR rfl
noncomputable def mkP (o:Option D) (ρ:En):Option (D×En):=bnd o λ d=>some (d,ρ)
@[simp] theorem bs9 (d:D) (ρ:En):mkP (some d) ρ=some (d,ρ):=zR rfl
@[simp] theorem bq6 (ρ:En) (d:D):slV ρ (some (.im d))=some (d,ρ):=zR rfl
@[simp] theorem eV_ (i:Nat) (ρ:En):eV i ρ=slV ρ ρ[i]?:=zR rfl
@[simp] theorem eC_ (d:D) (ρ:En):eC d ρ=some (d,ρ):=zR rfl
noncomputable def e1a (op:D->Option D) (o:Option (D×En)):Option (D×En):=bnd o λ p=>bnd (op p.1) λ d=>some (d,p.2)
@[simp] theorem e1_ (op:D->Option D) (F:FE) (ρ:En):e1 op F ρ=e1a op (F ρ):=zR rfl
@[simp] theorem bv5 (op:D->Option D) (x:D) (ρ:En):e1a op (some (x,ρ))=mkP (op x) ρ:=zR rfl
noncomputable def e2b (op:D->D->Option D) (x:D) (o:Option (D×En)):Option (D×En):=bnd o λ q=>bnd (op x q.1) λ d=>some (d,q.2)
noncomputable def e2a (op:D->D->Option D) (G:FE) (o:Option (D×En)):Option (D×En):=bnd o λ p=>bnd (G p.2) λ q=>bnd (op p.1 q.1) λ d=>some (d,q.2)
@[simp] theorem e2_ (op:D->D->Option D) (F G:FE) (ρ:En):e2 op F G ρ=e2a op G (F ρ):=zR rfl
@[simp] theorem bv4 (op:D->D->Option D) (G:FE) (x:D) (ρ:En):e2a op G (some (x,ρ))=e2b op x (G ρ):=zR rfl
@[simp] theorem bv3 (op:D->D->Option D) (x y:D) (ρ:En):e2b op x (some (y,ρ))=mkP (op x y) ρ:=zR rfl
noncomputable def e3c (O:D->D->Option D) (L:FE) (y:D) (ρ:En) (o:Option D):Option (D×En):=bnd o λ z=>bnd (blB z) λ b=>if b=true then bnd (L ρ) λ r=>bnd (O y r.1) λ d=>some (d,r.2) else some (.bl false,ρ)
noncomputable def e3b (op O:D->D->Option D) (L:FE) (x:D) (o:Option (D×En)):Option (D×En):=bnd o λ q=>bnd (op x q.1) λ z=>bnd (blB z) λ b=>if b=true then bnd (L q.2) λ r=>bnd (O q.1 r.1) λ d=>some (d,r.2) else some (.bl false,q.2)
noncomputable def e3a (op O:D->D->Option D) (G L:FE) (o:Option (D×En)):Option (D×En):=bnd o λ p=>bnd (G p.2) λ q=>bnd (op p.1 q.1) λ z=>bnd (blB z) λ b=>if b=true then bnd (L q.2) λ r=>bnd (O q.1 r.1) λ d=>some (d,r.2) else some (.bl false,q.2)
@[simp] theorem e3_ (op O:D->D->Option D) (F G L:FE) (ρ:En):e3 op O F G L ρ=e3a op O G L (F ρ):=zR rfl
@[simp] theorem bv2 (op O:D->D->Option D) (G L:FE) (x:D) (ρ:En):e3a op O G L (some (x,ρ))=e3b op O L x (G ρ):=zR rfl
@[simp] theorem bv1 (op O:D->D->Option D) (L:FE) (x y:D) (ρ:En):e3b op O L x (some (y,ρ))=e3c O L y ρ (op x y):=zR rfl
@[simp] theorem bv0 (O:D->D->Option D) (L:FE) (y:D) (ρ:En):e3c O L y ρ (some (.bl true))=e2b O y (L ρ):=zR rfl
@[simp] theorem aN_ (ρ:En):aN ρ=some ([],ρ):=zR rfl
noncomputable def aCb (x:D) (o:Option (List D×En)):Option (List D×En):=bnd o λ q=>some (x::q.1,q.2)
noncomputable def aCa (A:FA) (o:Option (D×En)):Option (List D×En):=bnd o λ p=>bnd (A p.2) λ q=>some (p.1::q.1,q.2)
@[simp] theorem aC_ (F:FE) (A:FA) (ρ:En):aC F A ρ=aCa A (F ρ):=zR rfl
@[simp] theorem bx2 (A:FA) (x:D) (ρ:En):aCa A (some (x,ρ))=aCb x (A ρ):=zR rfl
@[simp] theorem bx1 (x:D) (xs:List D) (ρ:En):aCb x (some (xs,ρ))=some (x::xs,ρ):=zR rfl
noncomputable def bi2 (o:Option (List D×En)):Option (D×En):=bnd o λ p=>if p.1.length<=1000 then some (.tup p.1,p.2) else none
@[simp] theorem bu3 (A:FA) (ρ:En):m_6 A ρ=bi2 (A ρ):=zR rfl
@[simp] theorem bi1 (xs:List D) (ρ:En):bi2 (some (xs,ρ))=if xs.length<=1000 then some (.tup xs,ρ) else none:=zR rfl
noncomputable def bk2 (o:Option (List D×En)):Option (D×En):=bnd o λ p=>if p.1.length<=1000 then some (.lst p.1,p.2) else none
@[simp] theorem bu6 (A:FA) (ρ:En):r_7 A ρ=bk2 (A ρ):=zR rfl
@[simp] theorem bk1 (xs:List D) (ρ:En):bk2 (some (xs,ρ))=if xs.length<=1000 then some (.lst xs,ρ) else none:=zR rfl
noncomputable def eFa (g:List D->Option D) (o:Option (List D×En)):Option (D×En):=bnd o λ p=>bnd (g p.1) λ d=>some (d,p.2)
@[simp] theorem eF_ (g:List D->Option D) (A:FA) (ρ:En):eF g A ρ=eFa g (A ρ):=zR rfl
@[simp] theorem bu8 (g:List D->Option D) (xs:List D) (ρ:En):eFa g (some (xs,ρ))=mkP (g xs) ρ:=zR rfl
noncomputable def bl6 (t:Ty) (o:Option (D×En)):Option (D×En):=bnd o λ p=>some (.bl (al2 t p.1),p.2)
@[simp] theorem by3 (t:Ty) (F:FE) (ρ:En):eTy t F ρ=bl6 t (F ρ):=zR rfl
@[simp] theorem bl5 (t:Ty) (x:D) (ρ:En):bl6 t (some (x,ρ))=some (.bl (al2 t x),ρ):=zR rfl
noncomputable def mkB (o:Option Bool) (ρ:En):Option (Bool×En):=bnd o λ b=>some (b,ρ)
@[simp] theorem bt0 (b:Bool) (ρ:En):mkB (some b) ρ=some (b,ρ):=zR rfl
noncomputable def tBa (o:Option (D×En)):Option (Bool×En):=bnd o λ p=>bnd (blB p.1) λ b=>some (b,p.2)
@[simp] theorem tB_ (F:FE) (ρ:En):tB F ρ=tBa (F ρ):=zR rfl
@[simp] theorem bq3 (b:Bool) (ρ:En):tBa (some (.bl b,ρ))=some (b,ρ):=zR rfl
noncomputable def tVa (o:Option (D×En)):Option (Bool×En):=bnd o λ p=>bnd (aw7 p.1) λ b=>some (b,p.2)
@[simp] theorem tV_ (F:FE) (ρ:En):tV F ρ=tVa (F ρ):=zR rfl
@[simp] theorem bp6 (x:D) (ρ:En):tVa (some (x,ρ))=mkB (aw7 x) ρ:=zR rfl
noncomputable def ay3 (U:FT) (o:Option (Bool×En)):Option (Bool×En):=bnd o λ p=>if p.1=true then U p.2 else some (false,p.2)
noncomputable def aY3 (U:FT) (o:Option (Bool×En)):Option (Bool×En):=bnd o λ p=>if p.1=true then some (true,p.2) else U p.2
noncomputable def aL3 (o:Option (Bool×En)):Option (Bool×En):=bnd o λ p=>some (!p.1,p.2)
@[simp] theorem bq5 (T U:FT) (ρ:En):tAnd T U ρ=ay3 U (T ρ):=zR rfl
@[simp] theorem aY8 (U:FT) (ρ:En):ay3 U (some (true,ρ))=U ρ:=zR rfl
@[simp] theorem aY9 (U:FT) (ρ:En):ay3 U (some (false,ρ))=some (false,ρ):=zR rfl
@[simp] theorem bp9 (T U:FT) (ρ:En):tOr T U ρ=aY3 U (T ρ):=zR rfl
@[simp] theorem bi3 (U:FT) (ρ:En):aY3 U (some (true,ρ))=some (true,ρ):=zR rfl
@[simp] theorem bi4 (U:FT) (ρ:En):aY3 U (some (false,ρ))=U ρ:=zR rfl
@[simp] theorem bq1 (T:FT) (ρ:En):tNot T ρ=aL3 (T ρ):=zR rfl
@[simp] theorem aY4 (b:Bool) (ρ:En):aL3 (some (b,ρ))=some (!b,ρ):=zR rfl
noncomputable def bf7 (F G:FE) (o:Option (Bool×En)):Option (D×En):=bnd o λ p=>if p.1=true then F p.2 else G p.2
@[simp] theorem by6 (T:FT) (F G:FE) (ρ:En):eIf T F G ρ=bf7 F G (T ρ):=zR rfl
@[simp] theorem bm4 (F G:FE) (ρ:En):bf7 F G (some (true,ρ))=F ρ:=zR rfl
@[simp] theorem bm5 (F G:FE) (ρ:En):bf7 F G (some (false,ρ))=G ρ:=zR rfl
noncomputable def aG6 (G:FE) (o:Option (D×En)):Option (D×En):=bnd o λ p=>bnd (blB p.1) λ b=>if b=true then G p.2 else some (.bl false,p.2)
noncomputable def bl8 (G:FE) (o:Option (D×En)):Option (D×En):=bnd o λ p=>bnd (blB p.1) λ b=>if b=true then some (.bl true,p.2) else G p.2
noncomputable def aT8 (o:Option (D×En)):Option (D×En):=bnd o λ p=>bnd (blB p.1) λ b=>some (.bl (!b),p.2)
@[simp] theorem bu9 (F G:FE) (ρ:En):aq6 F G ρ=aG6 G (F ρ):=zR rfl
@[simp] theorem bg1 (G:FE) (ρ:En):aG6 G (some (.bl true,ρ))=G ρ:=zR rfl
@[simp] theorem bg2 (G:FE) (ρ:En):aG6 G (some (.bl false,ρ))=some (.bl false,ρ):=zR rfl
@[simp] theorem by4 (F G:FE) (ρ:En):eOr F G ρ=bl8 G (F ρ):=zR rfl
@[simp] theorem bl7 (G:FE) (ρ:En):bl8 G (some (.bl true,ρ))=some (.bl true,ρ):=zR rfl
@[simp] theorem bu5 (F:FE) (ρ:En):aX0 F ρ=aT8 (F ρ):=zR rfl
@[simp] theorem bf2 (b:Bool) (ρ:En):aT8 (some (.bl b,ρ))=some (.bl (!b),ρ):=zR rfl
noncomputable def imA (o:Option Sl) (q:Option En):Option En:=bnd o λ s=>bnd q λ r=>some (s::r)
@[simp] theorem bt6 (s:Sl) (r:En):imA (some s) (some r)=some (s::r):=zR rfl
@[simp] theorem bq7 (d:D):slI (some (.im d))=some (.im d):=zR rfl
@[simp] theorem bk8 (ρ:En):aa4 ρ []=some []:=zR rfl
@[simp] theorem bk9 (ρ:En) (j:Nat) (js:List Nat):aa4 ρ (j::js)=imA (slI ρ[j]?) (aa4 ρ js):=zR rfl
noncomputable def cGb (T:FT) (F:FE) (fr:En) (r:List D) (o:Option (D×En)):Option (List D):=bnd o λ q=>bnd (cGo T F fr r) λ t=>some (q.1::t)
noncomputable def cGa (T:FT) (F:FE) (fr:En) (r:List D) (o:Option (Bool×En)):Option (List D):=bnd o λ p=>if p.1=true then bnd (F p.2) λ q=>bnd (cGo T F fr r) λ t=>some (q.1::t) else cGo T F fr r
@[simp] theorem aj7 (T:FT) (F:FE) (fr:En) (d:D) (r:List D):cGo T F fr (d::r)=cGa T F fr r (T (.im d::fr)):=zR rfl
@[simp] theorem aj9 (T:FT) (F:FE) (fr:En) (r:List D) (ρ:En):cGa T F fr r (some (true,ρ))=cGb T F fr r (F ρ):=zR rfl
@[simp] theorem aH5 (T:FT) (F:FE) (fr:En) (r:List D) (ρ:En):cGa T F fr r (some (false,ρ))=cGo T F fr r:=zR rfl
@[simp] theorem aj8 (T:FT) (F:FE) (fr:En) (r:List D) (x:D) (ρ:En):cGb T F fr r (some (x,ρ))=bo4 x (cGo T F fr r):=zR rfl
@[simp] theorem bc6 (xs:List D):items (.lst xs)=some xs:=zR rfl
noncomputable def bf4 (ρ:En) (xs:List D) (o:Option (List D)):Option (D×En):=bnd o λ ys=>if xs.length<=sizeLine then some (.lst ys,ρ) else none
noncomputable def bf5 (T:FT) (F:FE) (ρ:En) (xs:List D) (o:Option En):Option (D×En):=bnd o λ fr=>bf4 ρ xs (cGo T F fr xs)
noncomputable def bf6 (js:List Nat) (T:FT) (F:FE) (ρ:En) (o:Option (List D)):Option (D×En):=bnd o λ xs=>bf5 T F ρ xs (aa4 ρ js)
noncomputable def bm3 (js:List Nat) (T:FT) (F:FE) (o:Option (D×En)):Option (D×En):=bnd o λ p=>bf6 js T F p.2 (items p.1)
@[simp] theorem by5 (js:List Nat) (I:FE) (T:FT) (F:FE) (ρ:En):eLC js I T F ρ=bm3 js T F (I ρ):=zR rfl
@[simp] theorem bm2 (js:List Nat) (T:FT) (F:FE) (x:D) (ρ:En):bm3 js T F (some (x,ρ))=bf6 js T F ρ (items x):=zR rfl
@[simp] theorem bm1 (js:List Nat) (T:FT) (F:FE) (ρ:En) (xs:List D):bf6 js T F ρ (some xs)=bf5 T F ρ xs (aa4 ρ js):=zR rfl
@[simp] theorem bm0 (T:FT) (F:FE) (ρ:En) (xs:List D) (fr:En):bf5 T F ρ xs (some fr)=bf4 ρ xs (cGo T F fr xs):=zR rfl
@[simp] theorem bl9 (ρ:En) (xs ys:List D):bf4 ρ xs (some ys)=if xs.length<=sizeLine then some (.lst ys,ρ) else none:=zR rfl
@[simp] theorem sN_ (ρ:En):sN ρ=some (.nx ρ):=zR rfl
noncomputable def az0 (G:FS) (o:Option Res):Option Res:=bnd o λ r=>nxR G r
@[simp] theorem br0 (F G:FS) (ρ:En):b_4 F G ρ=az0 G (F ρ):=zR rfl
@[simp] theorem aZ5 (G:FS) (ρ:En):az0 G (some (.nx ρ))=G ρ:=zR rfl
@[simp] theorem aZ4 (G:FS) (d:D) (ρ:En):az0 G (some (.rt d ρ))=some (.rt d ρ):=zR rfl
noncomputable def aM1 (i:Nat) (o:Option (D×En)):Option Res:=bnd o λ p=>some (.nx (p.2.set i (.im p.1)))
@[simp] theorem bq9 (i:Nat) (F:FE) (ρ:En):d_5 i F ρ=aM1 i (F ρ):=zR rfl
@[simp] theorem aZ3 (i:Nat) (x:D) (ρ:En):aM1 i (some (x,ρ))=some (.nx (ρ.set i (.im x))):=zR rfl
noncomputable def ba0 (F G:FS) (o:Option (Bool×En)):Option Res:=bnd o λ p=>if p.1=true then F p.2 else G p.2
@[simp] theorem bi8 (T:FT) (F G:FS) (ρ:En):sIf T F G ρ=ba0 F G (T ρ):=zR rfl
@[simp] theorem bi6 (F G:FS) (ρ:En):ba0 F G (some (true,ρ))=F ρ:=zR rfl
@[simp] theorem bi7 (F G:FS) (ρ:En):ba0 F G (some (false,ρ))=G ρ:=zR rfl
noncomputable def aM2 (o:Option (D×En)):Option Res:=bnd o λ p=>some (.rt p.1 p.2)
@[simp] theorem br1 (F:FE) (ρ:En):e_7 F ρ=aM2 (F ρ):=zR rfl
@[simp] theorem aZ6 (x:D) (ρ:En):aM2 (some (x,ρ))=some (.rt x ρ):=zR rfl
noncomputable def fGb (g:D->En->Option En) (B:FS) (r:List D) (o:Option Res):Option Res:=bnd o λ z=>goR (fGo g B r) z
noncomputable def fGa (g:D->En->Option En) (B:FS) (r:List D) (o:Option En):Option Res:=bnd o λ O=>fGb g B r (B O)
theorem t_7 (g:D->En->Option En) (B:FS) (d:D) (r:List D) (ρ:En):fGo g B (d::r) ρ=fGa g B r (g d ρ):=zR rfl
@[simp] theorem t_8 (g:D->En->Option En) (B:FS) (r:List D) (ρ:En):fGa g B r (some ρ)=fGb g B r (B ρ):=zR rfl
@[simp] theorem v_0 (g:D->En->Option En) (B:FS) (r:List D) (ρ:En):fGb g B r (some (.nx ρ))=fGo g B r ρ:=zR rfl
@[simp] theorem be1 (g:D->En->Option En) (B:FS) (r:List D) (d:D) (ρ:En):fGb g B r (some (.rt d ρ))=some (.rt d ρ):=zR rfl
noncomputable def az2 (g:D->En->Option En) (B:FS) (ρ:En) (o:Option (List D)):Option Res:=bnd o λ xs=>fGo g B xs ρ
noncomputable def aM7 (g:D->En->Option En) (B:FS) (o:Option (D×En)):Option Res:=bnd o λ p=>az2 g B p.2 (items p.1)
@[simp] theorem br5 (g:D->En->Option En) (F:FE) (B:FS) (ρ:En):am6 g F B ρ=aM7 g B (F ρ):=zR rfl
@[simp] theorem ba2 (g:D->En->Option En) (B:FS) (x:D) (ρ:En):aM7 g B (some (x,ρ))=az2 g B ρ (items x):=zR rfl
@[simp] theorem ba1 (g:D->En->Option En) (B:FS) (ρ:En) (xs:List D):az2 g B ρ (some xs)=fGo g B xs ρ:=zR rfl
noncomputable def aN2 (o:Option (D×En)):Option (List D×En):=bnd o λ p=>bnd (ap8 p.1) λ j=>if -(2 ^ 62)<=j/\j<2 ^ 62 then some (m_7 0 j.toNat,p.2) else none
@[simp] theorem br8 (F:FE) (ρ:En):Y_7 F ρ=aN2 (F ρ):=zR rfl
@[simp] theorem ba8 (j:Int) (ρ:En):aN2 (some (.int j,ρ))=if -(2 ^ 62)<=j/\j<2 ^ 62 then some (m_7 0 j.toNat,ρ) else none:=zR rfl
noncomputable def az7 (x:D) (o:Option (D×En)):Option (List D×En):=bnd o λ q=>bnd (ap8 x) λ i=>bnd (ap8 q.1) λ j=>if -(2 ^ 62)<=i/\i<2 ^ 62/\-(2 ^ 62)<=j/\j<2 ^ 62 then some (m_7 i (j-i).toNat,q.2) else none
noncomputable def aN0 (G:FE) (o:Option (D×En)):Option (List D×En):=bnd o λ p=>az7 p.1 (G p.2)
@[simp] theorem br7 (F G:FE) (ρ:En):aN1 F G ρ=aN0 G (F ρ):=zR rfl
@[simp] theorem ba7 (G:FE) (x:D) (ρ:En):aN0 G (some (x,ρ))=az7 x (G ρ):=zR rfl
@[simp] theorem ba6 (i j:Int) (ρ:En):az7 (.int i) (some (.int j,ρ))=if -(2 ^ 62)<=i/\i<2 ^ 62/\-(2 ^ 62)<=j/\j<2 ^ 62 then some (m_7 i (j-i).toNat,ρ) else none:=zR rfl
noncomputable def au1 (g:D->En->Option En) (B:FS) (o:Option (List D×En)):Option Res:=bnd o λ p=>fGo g B p.1 p.2
@[simp] theorem bi9 (g:D->En->Option En) (X:FA) (B:FS) (ρ:En):u_2 g X B ρ=au1 g B (X ρ):=zR rfl
@[simp] theorem aW7 (g:D->En->Option En) (B:FS) (xs:List D) (ρ:En):au1 g B (some (xs,ρ))=fGo g B xs ρ:=zR rfl
noncomputable def fnA (o:Option Res):Option D:=bnd o λ r=>ba9 r
@[simp] theorem bu0 (d:D) (ρ:En):fnA (some (.rt d ρ))=some d:=zR rfl
@[simp] theorem bu1 (ρ:En):fnA (some (.nx ρ))=some .non:=zR rfl
@[simp] theorem by1 (n k:Nat) (B:FS) (ds:List D):fnD n k B ds=if ds.length=n then fnA (B (ds.map .im++List.replicate k .no)) else none:=zR rfl
noncomputable def aQ4 (o:Option (List D×En)):Option (List D×En):=bnd o λ p=>if p.1.length<=1000 then some p else none
@[simp] theorem bs6 (A:FA) (ρ:En):ao9 A ρ=aQ4 (A ρ):=zR rfl
@[simp] theorem bc0 (xs:List D) (ρ:En):aQ4 (some (xs,ρ))=if xs.length<=1000 then some (xs,ρ) else none:=zR rfl
noncomputable def aM3 (i:Nat) (o:Option (List D×En)):Option Res:=bnd o λ p=>some (.nx (p.2.set i (.ow false (.lst p.1))))
@[simp] theorem br2 (i:Nat) (A:FA) (ρ:En):am5 i A ρ=aM3 i (A ρ):=zR rfl
@[simp] theorem aZ7 (i:Nat) (xs:List D) (ρ:En):aM3 i (some (xs,ρ))=some (.nx (ρ.set i (.ow false (.lst xs)))):=zR rfl
@[simp] theorem bs4 (ds:List D):owL (some (.ow false (.lst ds)))=some ds:=zR rfl
noncomputable def az4 (i:Nat) (x:D) (ρ:En) (o:Option (List D)):Option Res:=bnd o λ ds=>if ds.length<1000000 then some (.nx (ρ.set i (.ow false (.lst (ds++[x]))))) else none
noncomputable def az5 (i:Nat) (o:Option (D×En)):Option Res:=bnd o λ p=>az4 i p.1 p.2 (owL p.2[i]?)
noncomputable def aM8 (i:Nat) (F:FE) (ρ:En) (o:Option (List D)):Option Res:=bnd o λ _=>az5 i (F ρ)
@[simp] theorem br6 (i:Nat) (F:FE) (ρ:En):al0 i F ρ=aM8 i F ρ (owL ρ[i]?):=zR rfl
@[simp] theorem ba5 (i:Nat) (F:FE) (ρ:En) (ds:List D):aM8 i F ρ (some ds)=az5 i (F ρ):=zR rfl
@[simp] theorem ba4 (i:Nat) (x:D) (ρ:En):az5 i (some (x,ρ))=az4 i x ρ (owL ρ[i]?):=zR rfl
@[simp] theorem ba3 (i:Nat) (x:D) (ρ:En) (ds:List D):az4 i x ρ (some ds)=if ds.length<1000000 then some (.nx (ρ.set i (.ow false (.lst (ds++[x]))))) else none:=zR rfl
noncomputable def bd8 (i:Nat) (ρ:En):Option Sl->En
 |some (.ow false (.lst ds))=>ρ.set i (.im (.lst ds))
 |_=>ρ
@[simp] theorem bx9 (i:Nat) (ρ:En):frz i ρ=bd8 i ρ ρ[i]?:=by unfold frz bd8;split <;> simp_all
@[simp] theorem bl2 (i:Nat) (ρ:En) (ds:List D):bd8 i ρ (some (.ow false (.lst ds)))=ρ.set i (.im (.lst ds)):=zR rfl
@[simp] theorem br4 (i:Nat) (F:FS) (ρ:En):au0 i F ρ=F (frz i ρ):=zR rfl
end Fx
namespace Fx
open PySem PySem.Spec PyProof.Rows L2
theorem RS.heNone {K:Frag}{c:FC}{H0 H:Hp}{ρ:En}{σ:L2.St} (R:RS K c H0 H ρ σ) {p:Addr} (O:H p=none):c.He p=none:=by
 cases q:c.He p with
 |none=>rfl
 |some u =>
  by_cases Y:p∈c.Ap
  ·exact absurd O (R.apt p Y)
  ·rw[R.keep p u q Y] at O;cases O
theorem RS.setOwn {K:Frag}{c:FC}{H0 H:Hp}{ρ:En}{σ:L2.St}{p:Addr}{u:HO}{o:MO} (R:RS K c H0 H ρ σ) (i:Nat) (hp:H p=none) (r:OwOk K H0 (upd H p u) p o) :
  RS K c H0 (upd H p u) (ρ.set i (.ow false o)) (σ.set i (some (.ref p))):=by
 have hl:=R.len;have h0:H0 p=none:=R.same.free hp;have he:=R.heNone hp;have up:∀ b v,H b=some v->(upd H p u) b=some v:=λ b v e=>by rw[a_8 (a_2 e hp)];exact e
 have Y:∀ (j:Nat) (sl:Sl),j≠i->(ρ.set i (.ow false o))[j]?=some sl->ρ[j]?=some sl:=λ j sl Z e=>by rwa [List.getElem?_set_ne (Ne.symm Z)] at e
 have O:∀ (j:Nat),j≠i->(σ.set i (some (V.ref p)))[j]?=σ[j]?:=λ j Z=>List.getElem?_set_ne (Ne.symm Z)
 have same:∀ (sl:Sl),(ρ.set i (.ow false o))[i]?=some sl->sl=.ow false o/\i<ρ.length:=λ sl e=>by
  by_cases hi:i<ρ.length
  ·rw[List.getElem?_set_self hi] at e;exact⟨(qi e).symm,hi⟩
  ·rw[List.getElem?_eq_none (by rw[List.length_set];omega)] at e;cases e
 have aa:∀ (j:Nat) (b:Bool) (o:MO) (a:Addr),ρ[j]?=some (.ow b o)->σ[j]?=some (some (.ref a))->a≠p:=λ j b o a e1 e2=>by
  obtain⟨a',x,_,_,w⟩:=R.ow j b o e1;rw[x] at e2;cases e2;obtain⟨u,q⟩:=w.some;exact a_2 q hp
 refine⟨λ b u e=>up b u (R.same b u e),R.init,R.fresh,λ b o e n=>up b o (R.keep b o e n),λ a ha e=>?_,by rw[List.length_set,List.length_set,hl],λ j d' e=>?_,λ j bb o' e=>?_,λ j k b1 b2 o1 o2 a e1 e2 e3 e4=>?_⟩
 ·cases q:H a with
  |none=>exact R.apt a ha q
  |some v=>rw[up a v q] at e;cases e
 ·by_cases Z:j=i
  ·subst Z;obtain⟨e',_⟩:=same _ e;cases e'
  ·rw[O j Z];exact R.im j d' (Y j _ Z e)
 ·by_cases Z:j=i
  ·subst Z
   obtain⟨e',hi⟩:=same _ e;cases e';exact⟨p,by rw[List.getElem?_set_self (by omega)],h0,he,r⟩
  ·rw[O j Z]
   obtain⟨a,x,y,z,w⟩:=R.ow j bb o' (Y j _ Z e);exact⟨a,x,y,z,w.step (Same.refl _) λ v q=>up a v q⟩
 ·by_cases Z:j=i
  ·by_cases hk:k=i
   ·omega
   ·subst Z
    obtain⟨_,hi⟩:=same _ e1;rw[List.getElem?_set_self (by omega)] at e3
    cases e3;rw[O k hk] at e4;exact absurd rfl (aa k b2 o2 _ (Y k _ hk e2) e4)
  ·by_cases hk:k=i
   ·subst hk
    obtain⟨_,hi⟩:=same _ e2;rw[List.getElem?_set_self (by omega)] at e4
    cases e4;rw[O j Z] at e3;exact absurd rfl (aa j b1 o1 _ (Y j _ Z e1) e3)
   ·rw[O j Z] at e3;rw[O k hk] at e4
    exact R.ne j k b1 b2 o1 o2 a (Y j _ Z e1) (Y k _ hk e2) e3 e4
theorem RS.lent {K:Frag}{c:FC}{H0 H H0' H':Hp}{ρ:En}{σ:L2.St}{a:Addr}{b:Bool}{o o':MO} (R:RS K c H0 H ρ σ) {i:Nat} (hi:ρ[i]?=some (.ow b o)) (ha:σ[i]?=some (some (.ref a)))
  (s0:Same H0 H0') (s':Same H0' H') (kp:∀ x u,H x=some u->x≠a->H' x=some u) (fr:∀ x u,H0' x=some u->H0 x=some u\/H x=none) (r:OwOk K H0' H' a o') :
  RS K c H0' H' (ρ.set i (.ow b o')) σ:=by
 obtain⟨a',x,y,z,w⟩:=R.ow i b o hi;rw[ha] at x;cases x;obtain⟨ua,qa⟩:=w.some;have il:i<ρ.length:=(List.getElem?_eq_some_iff.mp hi).1
 have n0:∀ x,H0 x=none->H x≠none->H0' x=none:=λ x h1 h2=>by
  cases q:H0' x with
  |none=>rfl
  |some u =>
   rcases fr x u q with h | h
   ·rw[h1] at h;cases h
   ·exact absurd h h2
 have O:∀ (j:Nat) (sl:Sl),j≠i->(ρ.set i (.ow b o'))[j]?=some sl->ρ[j]?=some sl:=λ j sl Y e=>by rwa [List.getElem?_set_ne (Ne.symm Y)] at e
 have same:∀ (sl:Sl),(ρ.set i (.ow b o'))[i]?=some sl->sl=.ow b o':=λ sl e=>by
  rw[List.getElem?_set_self il] at e;exact (qi e).symm
 have aa:∀ (j:Nat) (Z:Bool) (oo:MO),(ρ.set i (.ow b o'))[j]?=some (.ow Z oo)->∃ Z ab,ρ[j]?=some (.ow Z ab):=λ j Z oo e=>by
  by_cases Y:j=i
  ·exact⟨b,o,by rw[Y];exact hi⟩
  ·exact⟨Z,oo,O j _ Y e⟩
 refine⟨s',R.init.trans s0,λ x u e=>?_,λ x u e n=>?_,λ x hx e=>?_,by rw[List.length_set];exact R.len,λ j d' e=>?_,λ j Z oo e=>?_,λ j k b1 b2 o1 o2 x e1 e2 e3 e4=>?_⟩
 ·rcases fr x u e with h | h
  ·exact R.fresh x u h
  ·exact .inr (R.heNone h)
 ·have:x≠a:=λ h=>by
   cases b with
   |true=>exact n (h▸z)
   |false =>
    have z':c.He a=none:=z;rw[h,z'] at e;cases e
  exact kp x u (R.keep x u e n) this
 ·by_cases h:x=a
  ·obtain⟨u,q⟩:=r.some
   rw[h,q] at e;cases e
  ·cases q:H x with
   |none=>exact R.apt x hx q
   |some u=>rw[kp x u q h] at e;cases e
 ·by_cases Y:j=i
  ·subst Y;cases same _ e
  ·obtain⟨v,a1,a2⟩:=R.im j d' (O j _ Y e)
   exact⟨v,a1,Rep.mono s0 _ a2⟩
 ·by_cases Y:j=i
  ·subst Y
   cases same _ e;exact⟨a,ha,n0 a y (by rw[qa];intro h;cases h),z,r⟩
  ·have q':=O j _ Y e
   obtain⟨x,x1,y1,z1,w1⟩:=R.ow j Z oo q';have nx:x≠a:=λ h=>Y (R.ne j i Z b oo o x q' hi x1 (by rw[h];exact ha))
   obtain⟨u,qu⟩:=w1.some;exact⟨x,x1,n0 x y1 (by rw[qu];intro h;cases h),z1,w1.step s0 λ v q=>kp x v q nx⟩
 ·obtain⟨_,p,e1⟩:=aa j b1 o1 e1
  obtain⟨_,q,e2⟩:=aa k b2 o2 e2;exact R.ne j k _ _ p q x e1 e2 e3 e4
theorem RS.mutOwn {K:Frag}{c:FC}{H0 H:Hp}{ρ:En}{σ:L2.St}{a:Addr}{b:Bool}{o o':MO}{u:HO} (R:RS K c H0 H ρ σ) {i:Nat} (hi:ρ[i]?=some (.ow b o)) (O:σ[i]?=some (some (.ref a))) (r:OwOk K H0 (upd H a u) a o') :
  RS K c H0 (upd H a u) (ρ.set i (.ow b o')) σ:=by
 obtain⟨Y,x,y,z,w⟩:=R.ow i b o hi;rw[O] at x;cases x;refine R.lent hi O (Same.refl _) (λ x v e=>?_) (λ x v e n=>by rw[a_8 n];exact e) (λ x v e=>.inl e) r
 have:x≠a:=λ h=>by rw[h,y] at e;cases e
 rw[a_8 this];exact R.same x v e
theorem RS.freeze {K:Frag}{c:FC}{H0 H:Hp}{ρ:En}{σ:L2.St}{ds:List D} (R:RS K c H0 H ρ σ) {i:Nat} (hi:ρ[i]?=some (.ow false (.lst ds))) :
  ∃ H0',Same H0 H0'/\RS K c H0' H (ρ.set i (.im (.lst ds))) σ:=by
 obtain⟨a,x,y,z,vs,e,r⟩:=R.ow i _ _ hi;have he:c.He a=none:=z;have il:i<ρ.length:=(List.getElem?_eq_some_iff.mp hi).1;have s0:Same H0 (upd H0 a (.lst vs)):=λ b u q=>by rw[a_8 (a_2 q y)];exact q
 have O:∀ (j:Nat) (Z:Sl),j≠i->(ρ.set i (.im (.lst ds)))[j]?=some Z->ρ[j]?=some Z:=λ j Z Y e=>by rwa [List.getElem?_set_ne (Ne.symm Y)] at e
 have same:∀ (Z:Sl),(ρ.set i (.im (.lst ds)))[i]?=some Z->Z=.im (.lst ds):=λ Z e=>by
  rw[List.getElem?_set_self il] at e;exact (qi e).symm
 refine⟨upd H0 a (.lst vs),s0,λ b u q=>?_,R.init.trans s0,λ b u q=>?_,R.keep,R.apt,by rw[List.length_set];exact R.len,λ j d' q=>?_,λ j bb o' q=>?_,λ j k b1 b2 o' aa b e1 e2 e3 e4=>?_⟩
 ·by_cases h:b=a
  ·subst h;rw[a_9] at q;cases q;exact e
  ·rw[a_8 h] at q;exact R.same b u q
 ·by_cases h:b=a
  ·subst h;exact .inr he
  ·rw[a_8 h] at q;exact R.fresh b u q
 ·by_cases Y:j=i
  ·subst Y
   cases same _ q;refine⟨.ref a,x,?_⟩;unfold Rep;exact⟨a,vs,rfl,.inl (.inl a_9),Reps.mono s0 _ r⟩
  ·obtain⟨v,a1,a2⟩:=R.im j d' (O j _ Y q)
   exact⟨v,a1,Rep.mono s0 _ a2⟩
 ·by_cases Y:j=i
  ·subst Y;cases same _ q
  ·have q':=O j _ Y q
   obtain⟨b,x1,y1,z1,w1⟩:=R.ow j bb o' q';have nb:b≠a:=λ h=>Y (R.ne j i bb false o' _ b q' hi x1 (by rw[h];exact x))
   exact⟨b,x1,by rw[a_8 nb];exact y1,z1,w1.step s0 λ u q=>q⟩
 ·by_cases Y:j=i
  ·subst Y;cases same _ e1
  ·by_cases hk:k=i
   ·subst hk;cases same _ e2
   ·exact R.ne j k b1 b2 o' aa b (O j _ Y e1) (O k _ hk e2) e3 e4
noncomputable def tEo (K:Frag) (A:FA):TE:=λ σ H Q=>∃ c H0 ρ ds O,RS K c H0 H ρ σ/\A ρ=some (ds,O)/\∀ p vs H0' H',Same H0 H0'->RS K c H0' H' O σ->H' p=none->Reps K H0' ds vs->Q (.ref p) (upd H' p (.lst vs))
noncomputable def XO' (X:Cx) (e:Expr) (A:FA):Prop:=PE X e (tEo X.K A)
theorem ae0 {o:Option Sl}{ds:List D} (h:owL o=some ds):o=some (.ow false (.lst ds)):=by
 unfold owL at h
 split at h
 ·cases h;rfl
 ·cases h
section
variable {X:Cx}{pos:Pos}{e:Expr}{F:FE}{T:FT}{A B:FA}
theorem Y_2 {es:List Expr} (h:XA X es A):XO' X (.List es pos) (ao9 A):=PE.wk (V_0 h) λ σ H Q O=>by
 obtain⟨c,H0,ρ,ds,aa,R,f,q⟩:=O;unfold ao9 at f;obtain⟨⟨ab,ac⟩,h1,f⟩:=a_1 f;obtain⟨hl,f'⟩:=ifs f;cases f';exact⟨c,H0,ρ,ds,_,R,h1,λ vs H1 Hh s1 R1 Y=>⟨by rw[<- Y.length];exact ay4 hl,λ p Z=>q p vs H1 Hh s1 R1 Z Y⟩⟩
theorem aI6 (i:Nat) {x:Str}{pos':Pos} (hN:X.N.Nodup) (he:XO' X e A) (hi:X.N[i]?=some x:=by rfl) (hx:Loc X.env.scope x:=by first | exact Or.inl rfl | exact Or.inr rfl) (hs:swapsWith e (some (.Name x pos')) pos.line X.env=pure false:=by rfl)
  (hf:X.fn x=true\/X.env.scope.names.lookup x=some .local:=by first | exact .inl rfl | exact .inr rfl):XS X (.Assign [.Name x pos'] e pos) (am5 i A):=PS.wk (A_8 hN hi hx he hs hf) λ Dn σ H O=>by
 obtain⟨c,H0,ρ,r,R,f,q⟩:=O;unfold am5 at f;obtain⟨⟨ds,Y⟩,h1,f⟩:=a_1 f;have f':some (Res.nx (Y.set i (.ow false (.lst ds))))=some r:=f;cases f';exact⟨c,H0,ρ,ds,Y,R,h1,λ p vs H1 Hh s1 R1 Z r1=>q _ H1 _ s1 (R1.setOwn (o:=.lst ds) (u:=.lst vs) i Z ⟨vs,a_9,r1⟩)⟩
theorem ax6 (i:Nat) {x:Str}{p1 p2 Z:Pos} (ha:XA X [e] (aC F aN)) (hN:X.N[i]?=some x:=by rfl) (hv:Vis X.env.scope x:=by first | exact Or.inl rfl | exact Or.inr (Or.inl rfl) | exact Or.inr (Or.inr rfl)) (hd:(x==("__debug__":Str))=false:=by decide)
  (ad:(x==("__classdict__":Str))=false:=by decide) (Y:attributeBase (.Name x p1) "append" X.env (eval (.Name x p1) X.env)=eval (.Name x p1) X.env:=by rfl)
  (aa:((backTo Z (starEach [e] X.env)).all (λ x=>!x.1)&&(backToKw Z (keywordEach [] X.env)).all (λ x=>x.1.isSome)&&decide ([e].length+([]:List Keyword).length+(if ([]:List Keyword).isEmpty then 0 else 1)<30))=true:=by rfl)
  (O:(p2.endLine==Z.line)=true:=by rfl) (af:starEach [e] X.env=(false,eval e X.env)::starEach [] X.env:=by rfl) (ac:(backTo Z (starEach [] X.env)).any (·.1)=false:=by rfl)
  (hs:swapsWith (.Call (.Attribute (.Name x p1) "append" p2) [e] [] Z) none pos.line X.env=pure false:=by rfl) :
  XS X (.Expr (.Call (.Attribute (.Name x p1) "append" p2) [e] [] Z) pos) (al0 i F) :=
 PS.wk (Q_9 (aP3 PySem.F.plainAttrs_list PySem.F.slot_list_append PySem.F.type_list_append N_6 (u_3 hN hv hd ad) ha Y aa O af ac) hs) λ Dn σ H ab=>by
  obtain⟨c,H0,ρ,r,R,f,q⟩:=ab;unfold al0 at f;obtain⟨ah,h0,f⟩:=a_1 f;obtain⟨⟨d,ag⟩,h1,f⟩:=a_1 f;obtain⟨ds,h2,f⟩:=a_1 f;dsimp only at h2 f;obtain⟨hl,f'⟩:=ifs f;cases f';obtain⟨a,x1,_,_,ae,y1,_⟩:=R.ow i _ _ (ae0 h0);refine⟨.ref a,x1,.inl ⟨rfl,ae,SqL.of y1⟩,c,H0,ρ,[d],ag,R,by unfold aC aN;rw[h1];rfl,λ vs H1 Hh s1 R1 r1=>?_⟩
  obtain⟨v,rfl,rv⟩:=Reps.v1 r1;obtain⟨a',x2,_,_,ws,y2,z2⟩:=R1.ow i _ _ (ae0 h2);rw[x1] at x2;cases x2;refine⟨a,ws,v,rfl,rfl,y2,?_,?_⟩
  ·rw[<- z2.length]
   exact qr hl (by rw[sizeLine_eq];decide)
  ·exact q σ H1 _ s1 (R1.mutOwn (o':=.lst (ds++[d])) (u:=.lst (ws++[v])) (ae0 h2) x1 ⟨_,a_9,z2.app (Reps.one rv)⟩)
theorem aK3 (i:Nat) {st:Stmt}{G:FS} (h:XS X st G):XS X st (au0 i G):=PS.wk h λ Dn σ H O=>by
 obtain⟨c,H0,ρ,r,R,f,q⟩:=O;unfold au0 frz at f;cases z:ρ[i]? with
 |none=>rw[z] at f;exact⟨c,H0,ρ,r,R,f,q⟩
 |some sl =>
  rw[z] at f;cases sl with
  |no=>exact⟨c,H0,ρ,r,R,f,q⟩
  |im d=>exact⟨c,H0,ρ,r,R,f,q⟩
  |ow b o =>
   cases b with
   |true=>exact⟨c,H0,ρ,r,R,f,q⟩
   |false =>
   cases o with
   |dic kds=>exact⟨c,H0,ρ,r,R,f,q⟩
   |lst ds =>
    obtain⟨H0',Y,Z⟩:=R.freeze z;exact⟨c,H0',_,r,Z,f,q.mono Y⟩
end
end Fx
namespace Fx
open PySem
noncomputable def atS (z:Str) (i:Int):Option D:=if z.length<=sizeLine then bnd (bnd (dPl z.cps.toList.length i) λ j=>z.cps.toList[j]?) λ c=>some (.str (chS c)) else none
noncomputable def b_2:D->D->Option D
 |.tup xs,.int i=>atD xs i
 |.lst xs,.int i=>atD xs i
 |.str z,.int i=>atS z i
 |_,_=>none
noncomputable def w_8:List D->Option D
 |[.lst xs]=>some (.int xs.length)
 |[.tup xs]=>some (.int xs.length)
 |[.str z]=>if z.length<=sizeLine then some (.int z.length) else none
 |_=>none
noncomputable def O_3:D->Bool
 |.dct _ _=>false
 |.tup _=>false
 |.lst _=>false
 |_=>true
noncomputable def inD (x:D) (xs:List D):Bool:=xs.any λ y=>eqD y x
noncomputable def P_8 (x:D) (xs:List D):Bool:=O_3 x&&xs.all O_3
noncomputable def dIn:D->D->Option D
 |x,.tup xs=>if P_8 x xs=true then some (.bl (inD x xs)) else none
 |x,.lst xs=>if P_8 x xs=true then some (.bl (inD x xs)) else none
 |_,_=>none
noncomputable def X_2:List D->Option D
 |[.lst xs]=>some (.tup xs)
 |[.tup xs]=>some (.tup xs)
 |_=>none
noncomputable def S_9:List D->Option D
 |[.lst xs]=>some (.lst xs)
 |[.tup xs]=>some (.lst xs)
 |_=>none
@[simp] theorem bn9 (xs:List D) (i:Int):b_2 (.tup xs) (.int i)=atD xs i:=zR rfl
@[simp] theorem bo0 (xs:List D) (i:Int):b_2 (.lst xs) (.int i)=atD xs i:=zR rfl
@[simp] theorem aH9 (xs:List D):w_8 [.lst xs]=some (.int xs.length):=zR rfl
@[simp] theorem bh5 (xs:List D):S_9 [.lst xs]=some (.lst xs):=zR rfl
end Fx
namespace Fx
open PySem PySem.Spec PyProof.Rows L2
section
variable {X:Cx}{K:Frag}
theorem Q_5 (H:Hp) (x:Str):Rep K H (.str x) (.str x):=by unfold Rep;rfl
theorem bt5:OpD K (rIx K) b_2:=λ c H0 H ρ σ x y d vx vy Q R O Z e q=>by
 cases y with
 |int i =>
  unfold Rep at Z;subst Z;cases x with
  |tup ds =>
   unfold Rep at O;obtain⟨p,vs,rfl,s,t⟩:=O;obtain⟨v,e1,e2⟩:=aV9 t e;exact .inr (.inl ⟨p,vs,i,v,rfl,rfl,Same.seqT R.same s,e1,q v H0 H (Same.refl _) R e2⟩)
  |lst ds =>
   unfold Rep at O;obtain⟨p,vs,rfl,s,t⟩:=O;obtain⟨v,e1,e2⟩:=aV9 t e;exact .inl ⟨p,vs,i,v,rfl,rfl,Same.seq R.same s,e1,q v H0 H (Same.refl _) R e2⟩
  |str z =>
   unfold Rep at O;subst O;have e:atS z i=some d:=e;unfold atS at e
   by_cases Y:z.length<=sizeLine
   ·rw[if_pos Y] at e
    obtain⟨ch,e1,e2⟩:=a_1 e;have e2:some (D.str (chS ch))=some d:=e2;cases e2;exact .inr (.inr ⟨z,i,ch,rfl,rfl,Y,e1,q _ H0 H (Same.refl _) R (Q_5 H0 (chS ch))⟩)
   ·rw[if_neg Y] at e;cases e
  |_=>cases e
 |_=>cases x <;> cases e
variable {a b:Expr}{F G:FE}{pos:Pos}
theorem b_8 (Y:XE X a F) (R:XE X b G) (O:T_2 b:=by intro _ _;rfl):XE X (.Subscript a b pos) (e2 b_2 F G):=PE.wk (Z_0 aS4 Y R O) λ σ H Q h=>T_5 bt5 h
theorem r_9:BOk X (.builtin "len") w_8:=⟨_,call_len_seq.or O_6,λ c H0 H ρ σ ds d vs Q R r e q=>by
 unfold w_8 at e
 split at e
 ·cases e
  obtain⟨v,rfl,O⟩:=Reps.v1 r;unfold Rep at O;obtain⟨p,Y,rfl,s,t⟩:=O;exact .inl ⟨p,Y,rfl,.inl (Same.seq R.same s),by rw[<- t.length];exact q _ H0 H (Same.refl _) R (g_2 _ _)⟩
 ·cases e
  obtain⟨v,rfl,O⟩:=Reps.v1 r;unfold Rep at O;obtain⟨p,Y,rfl,s,t⟩:=O;exact .inl ⟨p,Y,rfl,.inr (Same.seqT R.same s),by rw[<- t.length];exact q _ H0 H (Same.refl _) R (g_2 _ _)⟩
 ·rename_i z
  obtain⟨Z,rfl⟩:=ifs e;obtain⟨v,rfl,O⟩:=Reps.v1 r;unfold Rep at O;subst O;exact .inr ⟨z,rfl,Z,q _ H0 H (Same.refl _) R (g_2 _ _)⟩
 ·cases e⟩
theorem xTy {T:String}{g:List D → Option D}{A:FA}{x:Str}{p:Pos}{e:Expr}{es:List Expr} (o:BOk X (.type T) g) (hg:Gl X x) (Z:X.mg x=none) (hv:bootBuiltins x=some (.type T)) (Y:XA X (e::es) A) (hn:x≠"__name__":=by decide) (O:(x==("__debug__":Str))=false:=by decide)
  (he:starEach (e::es) X.env=(false,eval e X.env)::starEach es X.env:=by rfl) (R:(backTo pos (starEach es X.env)).any (·.1)=false:=by rfl):XE X (.Call (.Name x p) (e::es) [] pos) (eF g A):=by
 obtain⟨r,h1,h2⟩:=o;exact PE.wk (M_4 h1 hg Z hv Y hn O he R) λ σ H Q h=>aU0 h2 h
theorem W_8:BOk X (.type "list") S_9:=⟨_,O_5,λ c H0 H ρ σ ds d vs Q R r e q=>by
 unfold S_9 at e
 split at e
 ·cases e
  obtain⟨v,rfl,Y⟩:=Reps.v1 r;unfold Rep at Y;obtain⟨p,O,rfl,s,t⟩:=Y;refine⟨p,O,rfl,.inl (Same.seq R.same s),λ l hl=>?_⟩
  have S:=Step.alloc (o:=.lst O) R.same hl;refine q _ _ _ S.s0 (R.after S) ?_;unfold Rep;exact⟨l,_,rfl,.inl (.inl a_9),Reps.mono S.s0 _ t⟩
 ·cases e
  obtain⟨v,rfl,Y⟩:=Reps.v1 r;unfold Rep at Y;obtain⟨p,O,rfl,s,t⟩:=Y;refine⟨p,O,rfl,.inr (Same.seqT R.same s),λ l hl=>?_⟩
  have S:=Step.alloc (o:=.lst O) R.same hl;refine q _ _ _ S.s0 (R.after S) ?_;unfold Rep;exact⟨l,_,rfl,.inl (.inl a_9),Reps.mono S.s0 _ t⟩
 ·cases e⟩
theorem O_7:BOk X (.type "tuple") X_2:=⟨_,J_6,λ c H0 H ρ σ ds d vs Q R r e q=>by
 unfold X_2 at e
 split at e
 ·cases e
  obtain⟨v,rfl,O⟩:=Reps.v1 r;unfold Rep at O;obtain⟨p,Y,rfl,s,t⟩:=O;refine⟨p,Y,rfl,.inl ⟨Same.seq R.same s,λ l hl=>?_⟩⟩
  have S:=Step.alloc (o:=.tup Y) R.same hl;refine q _ _ _ S.s0 (R.after S) ?_;unfold Rep;exact⟨l,_,rfl,.inl (.inl a_9),Reps.mono S.s0 _ t⟩
 ·cases e
  obtain⟨v,rfl,O⟩:=Reps.v1 r;have Z:=O;unfold Rep at O;obtain⟨p,Y,rfl,s,t⟩:=O;exact⟨p,Y,rfl,.inr ⟨Same.seqT R.same s,q _ H0 H (Same.refl _) R Z⟩⟩
 ·cases e⟩
theorem I_9 {H:Hp}{d:D}{v:V} (h:O_3 d=true) (r:Rep K H d v):E_6 v=true/\∀ d' O,O_3 d'=true->Rep K H d' O->eqV v O=eqD d d':=by
 cases d with
 |tup xs=>cases h
 |lst xs=>cases h
 |dct ks vs=>cases h
 |_ =>
  unfold Rep at r;subst r;refine⟨rfl,λ d' O h' R=>?_⟩
  cases d' with
  |tup xs=>cases h'
  |lst xs=>cases h'
  |dct ks vs=>cases h'
  |_ =>
   unfold Rep at R;subst R
   first
    |(simp[eqV];done)
    |(simp[eqV,eqD];done)
    |(simp[eqV,eqD,Bool.beq_eq_decide_eq];done)
    |(unfold eqV;simp)
theorem ah0 {H:Hp}{x:D}{v:V} (O:O_3 x=true) (r:Rep K H x v):∀ {ds:List D}{vs:List V},ds.all O_3=true->Reps K H ds vs->vs.all E_6=true/\inV v vs=inD x ds
 |[],vs,_,t=>by
  unfold Reps at t;subst t;exact⟨rfl,rfl⟩
 |d::ds,vs,h,t=>by
  unfold Reps at t;obtain⟨u,us,rfl,Z,R⟩:=t;rw[List.all_cons,Bool.and_eq_true] at h;obtain⟨i1,i2⟩:=ah0 O r h.2 R;obtain⟨f1,Y⟩:=I_9 h.1 Z;refine⟨by rw[List.all_cons,f1,i1];rfl,?_⟩
  unfold inV inD at *;rw[List.any_cons,List.any_cons,Y x v O r,i2]
theorem aS8 {O:Bool}{f:D->D->Option D} (hf:∀ x y d,f x y=some d->∃ xs,(y=.tup xs\/y=.lst xs)/\P_8 x xs=true/\d=.bl (if O then !inD x xs else inD x xs)):OpD K (rIn K O) f:=λ c H0 H ρ σ x y d vx vy Q R Y Z e q=>by
 obtain⟨xs,hy,ok,rfl⟩:=hf x y d e;unfold P_8 at ok;rw[Bool.and_eq_true] at ok
 rcases hy with rfl | rfl
 ·unfold Rep at Z
  obtain⟨p,ws,rfl,s,t⟩:=Z;obtain⟨i1,i2⟩:=ah0 ok.1 Y ok.2 t;exact⟨p,ws,rfl,.inr (Same.seqT R.same s),(I_9 ok.1 Y).1,i1,by rw[i2];exact q _ H0 H (Same.refl _) R (s_4 _ _)⟩
 ·unfold Rep at Z
  obtain⟨p,ws,rfl,s,t⟩:=Z;obtain⟨i1,i2⟩:=ah0 ok.1 Y ok.2 t;exact⟨p,ws,rfl,.inl (Same.seq R.same s),(I_9 ok.1 Y).1,i1,by rw[i2];exact q _ H0 H (Same.refl _) R (s_4 _ _)⟩
end
end Fx
namespace Fx
open PySem
noncomputable def bd6 (k:Str):List (Str×D)->Option D
 |[]=>none
 |q::r=>if q.1=k then some q.2 else bd6 k r
noncomputable def owO:Option Sl->Option (Bool×MO)
 |some (.ow b o)=>some (b,o)
 |_=>none
noncomputable def eFb (i:Nat) (g:MO->List D->Option (D×MO)) (A:FA) (ρ:En):Option (D×En):=bnd (owO ρ[i]?) λ _=>bnd (A ρ) λ p=>bnd (owO p.2[i]?) λ q=>bnd (g q.2 p.1) λ z=>some (z.1,p.2.set i (.ow q.1 z.2))
noncomputable def bb1:Res->Option (D×MO)
 |.rt d ρ=>bnd (owO ρ[0]?) λ q=>if q.1=true then some (d,q.2) else none
 |.nx ρ=>bnd (owO ρ[0]?) λ q=>if q.1=true then some (.non,q.2) else none
 |_=>none
noncomputable def fnB (n k:Nat) (B:FS) (o:MO) (ds:List D):Option (D×MO):=if ds.length=n then bnd (B (.ow true o::(ds.map .im++List.replicate k .no))) λ r=>bb1 r else none
noncomputable def ap1 (A:FS) (F:En->Option MO) (ρ:En):Option MO:=bnd (A ρ) λ r=>match r with
 |.nx O=>F O
 |_=>none
noncomputable def fnN (n k:Nat) (F:En->Option MO) (ds:List D):Option MO:=if ds.length=n then F (ds.map .im++List.replicate k .no) else none
noncomputable def aM5 (i:Nat) (g:List D->Option MO) (A:FA) (ρ:En):Option Res:=bnd (A ρ) λ p=>bnd (g p.1) λ o=>some (.nx (p.2.set i (.ow false o)))
@[simp] theorem bs3 (b:Bool) (o:MO):owO (some (.ow b o))=some (b,o):=zR rfl
noncomputable def bf8 (i:Nat) (ρ:En) (b:Bool) (o:Option (D×MO)):Option (D×En):=bnd o λ z=>some (z.1,ρ.set i (.ow b z.2))
noncomputable def bf9 (i:Nat) (g:MO->List D->Option (D×MO)) (ds:List D) (ρ:En) (o:Option (Bool×MO)):Option (D×En):=bnd o λ q=>bf8 i ρ q.1 (g q.2 ds)
noncomputable def bg0 (i:Nat) (g:MO->List D->Option (D×MO)) (o:Option (List D×En)):Option (D×En):=bnd o λ p=>bf9 i g p.1 p.2 (owO p.2[i]?)
noncomputable def bn0 (i:Nat) (g:MO->List D->Option (D×MO)) (A:FA) (ρ:En) (o:Option (Bool×MO)):Option (D×En):=bnd o λ _=>bg0 i g (A ρ)
@[simp] theorem by7 (i:Nat) (g:MO->List D->Option (D×MO)) (A:FA) (ρ:En):eFb i g A ρ=bn0 i g A ρ (owO ρ[i]?):=zR rfl
@[simp] theorem bm9 (i:Nat) (g:MO->List D->Option (D×MO)) (A:FA) (ρ:En) (q:Bool×MO):bn0 i g A ρ (some q)=bg0 i g (A ρ):=zR rfl
@[simp] theorem bm8 (i:Nat) (g:MO->List D->Option (D×MO)) (ds:List D) (ρ:En):bg0 i g (some (ds,ρ))=bf9 i g ds ρ (owO ρ[i]?):=zR rfl
@[simp] theorem bm7 (i:Nat) (g:MO->List D->Option (D×MO)) (ds:List D) (ρ:En) (b:Bool) (o:MO):bf9 i g ds ρ (some (b,o))=bf8 i ρ b (g o ds):=zR rfl
@[simp] theorem bm6 (i:Nat) (ρ:En) (b:Bool) (d:D) (o:MO):bf8 i ρ b (some (d,o))=some (d,ρ.set i (.ow b o)):=zR rfl
noncomputable def az1 (i:Nat) (ρ:En) (o:Option MO):Option Res:=bnd o λ o=>some (.nx (ρ.set i (.ow false o)))
noncomputable def aM4 (i:Nat) (g:List D->Option MO) (o:Option (List D×En)):Option Res:=bnd o λ p=>az1 i p.2 (g p.1)
@[simp] theorem br3 (i:Nat) (g:List D->Option MO) (A:FA) (ρ:En):aM5 i g A ρ=aM4 i g (A ρ):=zR rfl
@[simp] theorem aZ9 (i:Nat) (g:List D->Option MO) (ds:List D) (ρ:En):aM4 i g (some (ds,ρ))=az1 i ρ (g ds):=zR rfl
@[simp] theorem aZ8 (i:Nat) (ρ:En) (o:MO):az1 i ρ (some o)=some (.nx (ρ.set i (.ow false o))):=zR rfl
end Fx
namespace Fx
open PySem PySem.Spec PyProof.Rows L2
theorem M_6 {o:Option Sl}{q:Bool×MO} (h:owO o=some q):o=some (.ow q.1 q.2):=by
 unfold owO at h
 split at h
 ·cases h;rfl
 ·cases h
section
variable {X:Cx}{pos:Pos}{e:Expr}{F:FE}{A:FA}
noncomputable def spB (K:Frag) (g:MO->List D->Option (D×MO)):Sp:=λ vs H Q _=>∃ Hi a o O ds d o',vs=.ref a::O/\Same Hi H/\Hi a=none/\OwOk K Hi H a o/\Reps K Hi ds O/\g o ds=some (d,o') /\
 ∀ v Hi' H',Same Hi Hi'->Same Hi' H'->(∀ b u,H b=some u->b≠a->H' b=some u)->(∀ b u,Hi' b=some u->Hi b=some u\/H b=none)->OwOk K Hi' H' a o'->Rep K Hi' d v->Q v H'
structure DefB (P:Program) (w:World) (K:Frag) (mg:Str->Option Value) (base:Heap) (k:Nat) (x:Str) (g:MO->List D->Option (D×MO)):Prop where
 ex:∃ f fd ps,FnOk P w K mg base CX0 k f fd ps (spB K g)/\Binds K fd ps []/\keepIn K (.ref f)=true/\mg x=some (.ref f)
theorem xFb (i:Nat) {k:Nat}{x y:Str}{g:MO->List D->Option (D×MO)}{p py pos:Pos}{es:List Expr} (G:DefB X.prog X.w X.K X.mg X.base k x g) (hr:Room k X.A) (ha:XA X es A) (hN:X.N[i]?=some y:=by rfl) (hg:Gl X x:=by rfl)
  (hv:Vis X.env.scope y:=by first | exact Or.inl rfl | exact Or.inr (Or.inl rfl) | exact Or.inr (Or.inr rfl)) (ad:(x==("__debug__":Str))=false:=by decide) (hd:(y==("__debug__":Str))=false:=by decide) (ac:(y==("__classdict__":Str))=false:=by decide)
  (aa:(backTo pos (starEach es X.env)).any (·.1)=false:=by rfl):XE X (.Call (.Name x p) (.Name y py::es) [] pos) (eFb i g A):=by
 obtain⟨f,fd,ps,F,hb,hk,hm⟩:=G.ex;refine PE.wk (R_2 F hr hg hm hk hb .nil aB1 (o_0 (u_3 hN hv hd ac) ha rfl) ad rfl aa) λ σ H Q Y=>?_
 obtain⟨c,H0,ρ,d,ae,R,z,q⟩:=Y;unfold eFb at z;obtain⟨⟨b0,o0⟩,h0,z⟩:=a_1 z;obtain⟨⟨ds,Z⟩,h1,z⟩:=a_1 z;obtain⟨⟨b,o⟩,h2,z⟩:=a_1 z;obtain⟨⟨d',o'⟩,h3,z⟩:=a_1 z;have z':some (d',Z.set i (.ow b o'))=some (d,ae):=z;cases z';obtain⟨a,e1,_⟩:=R.ow i b0 o0 (M_6 h0);refine⟨_,e1,c,H0,ρ,ds,Z,R,h1,λ vs H1 Hh s1 R1 r1=>?_⟩
 have y2:=M_6 h2;obtain⟨a',O,ab,af,w'⟩:=R1.ow i b o y2;rw[e1] at O;cases O;refine⟨H1,a,o,vs,ds,d,o',by rw[List.append_nil],R1.same,ab,w',r1,h3,λ v Hi' H' s2 s3 kp fr ok rv=>?_⟩
 exact q v Hi' H' (s1.trans s2) (R1.lent y2 e1 s2 s3 kp fr ok) rv
end
theorem RS.startB {K:Frag}{Hi H:Hp}{ds:List D}{vs:List V}{a:Addr}{o:MO}{m n:Nat} (s:Same Hi H) (Z:Hi a=none) (ok:OwOk K Hi H a o) (r:Reps K Hi ds vs) (hn:n-(vs.length+1)=m) :
  RS K ⟨Hi,H,[a]⟩ Hi H (.ow true o::(ds.map .im++List.replicate m .no)) (some (.ref a)::(vs.map some++List.replicate (n-(vs.length+1)) none)):=by
 have R:=RS.start (n:=n-1) (m:=m) s r (by omega)
 have Y:n-1-vs.length=n-(vs.length+1):=by omega
 rw[Y] at R
 have O:∀ (i:Nat) (b:Bool) (o:MO),¬ (ds.map Sl.im++List.replicate m Sl.no)[i]?=some (.ow b o):=λ i b o e=>by
  by_cases hi:i<ds.length
  ·rw[List.getElem?_append_left (by simpa using hi),List.getElem?_map] at e
   cases z:ds[i]? with
   |none=>rw[z] at e;cases e
   |some d'=>rw[z] at e;cases e
  ·rw[List.getElem?_append_right (by simpa using Nat.le_of_not_lt hi),List.getElem?_replicate] at e
   split at e <;> cases e
 refine⟨s,Same.refl _,λ b o e=>.inl e,λ b o e _=>e,λ b hb e=>?_,?_,λ i d e=>?_,λ i b o' e=>?_,λ i j b b' o1 o2 x e1 e2 e3 e4=>?_⟩
 ·obtain⟨u,hu⟩:=ok.some
  have:b=a:=by simpa using hb
  have e:H b=none:=e;rw[this,hu] at e;cases e
 ·rw[List.length_cons,List.length_cons,R.len]
 ·cases i with
  |zero=>cases e
  |succ i=>exact R.im i d e
 ·cases i with
  |zero =>
   have e':Sl.ow true o=Sl.ow b o':=qi e;cases e';exact⟨a,rfl,Z,by rw[if_pos rfl];exact List.mem_singleton.mpr rfl,ok⟩
  |succ i=>exact absurd e (O i b o')
 ·cases i with
  |zero =>
   cases j with
   |zero=>rfl
   |succ j=>exact absurd e2 (O j _ _)
  |succ i=>exact absurd e1 (O i _ _)
theorem aw3 {P:Program}{w:World}{K:Frag}{mg:Str->Option Value}{base:Heap}{x Z:Str}{st:Stmt}{f:Addr}{fd:FuncData}{N ps:List Str}{k n m:Nat}{B:FS} (F:Fun K x Z st f fd) (S:FnScope N ps (a_0 st)) (hn:ps.length=n+1) (hN:N.length=n+1+m)
  (hb:∀ (ab:Value) (A:Around) (outer:List Env) (s:Shared) (H:Hp) (E:XK),Room k (A.deeper (envOfC Z (a_0 st) s.heap.objs.size f ab))->XSs (al4 CX0 P w K mg base N Z (a_0 st) f ab A outer s H E).nox (a_3 st) B) :
  FnOk P w K mg base CX0 (k+1) f fd ps (spB K (fnB n m B)):=by
 have ac:∀ {o:MO}{ds:List D}{z:D×MO},fnB n m B o ds=some z->ds.length=n/\∃ r,B (.ow true o::(ds.map .im++List.replicate m .no))=some r/\bb1 r=some z:=λ {o ds z} h=>by
  unfold fnB at h
  split at h
  ·rename_i hl
   obtain⟨r,h1,h2⟩:=a_1 h;exact⟨hl,r,h1,h2⟩
  ·cases h
 have fin:∀ {Hi H H0' H':Hp}{a:Addr}{o':MO}{O:En}{aa:L2.St},RS K ⟨Hi,H,[a]⟩ H0' H' O aa->O[0]?=some (.ow true o')->Same Hi H0'/\Same H0' H'/\(∀ b u,H b=some u->b≠a->H' b=some u)/\(∀ b u,H0' b=some u->Hi b=some u\/H b=none)/\OwOk K H0' H' a o' :=
  λ {Hi H H0' H' a o' O aa} R e=>by
   obtain⟨a',_,_,z,ok⟩:=R.ow 0 true o' e;rw[if_pos rfl] at z;have za:a'=a:=by simpa using z
   subst za;exact⟨R.init,R.same,λ b u h n=>R.keep b u h (by simpa using n),R.fresh,ok⟩
 refine F.ok S (λ vs H Q E h=>?_) (λ ab A outer s H vs Q E hr h=>?_)
 ·obtain⟨Hi,a,o,vr,ds,d,o',rfl,_,_,_,r,e,_⟩:=h
  rw[hn,List.length_cons,<- r.length,(ac e).1]
 ·obtain⟨Hi,a,o,vr,ds,d,o',rfl,hs,h0,ok,r,e,q⟩:=h
  obtain⟨hl,res,h1,h2⟩:=ac e;have ad:=r.length;have R:=RS.startB (n:=N.length) (m:=m) hs h0 ok r (by omega)
  refine⟨_,hb ab A outer s H E hr,⟨Hi,H,[a]⟩,Hi,_,res,R,h1,?_⟩;cases res with
  |nx O =>
   obtain⟨⟨b,oo⟩,z1,z2⟩:=a_1 (show bnd (owO O[0]?) (λ q=>if q.1=true then some (D.non,q.2) else none)=some (d,o') from h2)
   obtain⟨Y,z3⟩:=ifs z2;cases z3;have Y:b=true:=Y;subst Y;exact λ aa H0' H' s0 R=>let ⟨x1,x2,x3,x4,x5⟩:=fin R (M_6 z1);q .non H0' H' x1 x2 x3 x4 x5 (by unfold Rep;rfl)
  |rt d' O =>
   obtain⟨⟨b,oo⟩,z1,z2⟩:=a_1 (show bnd (owO O[0]?) (λ q=>if q.1=true then some (d',q.2) else none)=some (d,o') from h2)
   obtain⟨Y,z3⟩:=ifs z2;cases z3;have Y:b=true:=Y;subst Y;exact λ v aa H0' H' s0 R rv=>let ⟨x1,x2,x3,x4,x5⟩:=fin R (M_6 z1);q v H0' H' x1 x2 x3 x4 x5 rv
  |bk O=>cases h2
  |ct O=>cases h2
noncomputable def aI4 (K:Frag) (Hi H:Hp) (o:MO) (a:Addr) (Hi' H':Hp):Prop :=
 Same Hi Hi'/\Same Hi' H'/\Same H H'/\(∀ b u,Hi' b=some u->Hi b=some u\/H b=none)/\Hi' a=none/\H a=none/\OwOk K Hi' H' a o
noncomputable def spN (K:Frag) (g:List D->Option MO):Sp:=λ vs H Q _=>∃ Hi ds o,Same Hi H/\Reps K Hi ds vs/\g ds=some o/\∀ a Hi' H',aI4 K Hi H o a Hi' H'->Q (.ref a) H'
structure DefN (P:Program) (w:World) (K:Frag) (mg:Str->Option Value) (base:Heap) (k:Nat) (x:Str) (g:List D->Option MO):Prop where
 ex:∃ f fd ps,FnOk P w K mg base CX0 k f fd ps (spN K g)/\Binds K fd ps []/\keepIn K (.ref f)=true/\mg x=some (.ref f)
theorem RS.got {K:Frag}{c:FC}{H0 H H0' H':Hp}{ρ:En}{σ:L2.St}{a:Addr}{o:MO} (R:RS K c H0 H ρ σ) (i:Nat) (h:aI4 K H0 H o a H0' H'):RS K c H0' H' (ρ.set i (.ow false o)) (σ.set i (some (.ref a))):=by
 obtain⟨Z,s',s,fr,a0,aH,ok⟩:=h;obtain⟨u,hu⟩:=ok.some
 have R2:RS K c H0' (λ b=>if b=a then none else H' b) ρ σ:=R.after ⟨Z,λ b v e=>by
  have:b≠a:=λ z=>by rw[z,aH] at e;cases e
  show (if b=a then none else H' b)=some v
  rw[if_neg this];exact s b v e,λ b v e=>by
  have:b≠a:=λ z=>by rw[z,a0] at e;cases e
  show (if b=a then none else H' b)=some v;rw[if_neg this];exact s' b v e,fr⟩
 have O:upd (λ b=>if b=a then none else H' b) a u=H':=by
  funext b
  by_cases Y:b=a
  ·rw[Y,a_9,hu]
  ·rw[a_8 Y];exact if_neg Y
 have:=R2.setOwn (u:=u) (o:=o) (p:=a) i (if_pos rfl) (by rw[O];exact ok)
 rw[O] at this;exact this
section
variable {X:Cx}{pos:Pos}{e:Expr}{F:FE}{A:FA}
theorem bo9 (i:Nat) {k:Nat}{x y:Str}{g:List D->Option MO}{p pos' cpos:Pos}{es:List Expr} (hN:X.N.Nodup) (G:DefN X.prog X.w X.K X.mg X.base k x g) (hr:Room k X.A) (ha:XA X (e::es) A) (hi:X.N[i]?=some y:=by rfl) (hx:Loc X.env.scope y:=by first | exact Or.inl rfl | exact Or.inr rfl)
  (hs:swapsWith (.Call (.Name x p) (e::es) [] cpos) (some (.Name y pos')) pos.line X.env=pure false:=by rfl) (hf:X.fn y=true\/X.env.scope.names.lookup y=some .local:=by first | exact .inl rfl | exact .inr rfl)
  (hg:Gl X x:=by rfl) (aa:(x==("__debug__":Str))=false:=by decide) (he:starEach (e::es) X.env=(false,eval e X.env)::starEach es X.env:=by rfl) (Z:(backTo cpos (starEach es X.env)).any (·.1)=false:=by rfl) :
  XS X (.Assign [.Name y pos'] (.Call (.Name x p) (e::es) [] cpos) pos) (aM5 i g A):=by
 obtain⟨f,fd,ps,F,hb,hk,hm⟩:=G.ex;refine PS.wk (A_8 hN hi hx (R_2 F hr hg hm hk hb .nil aB1 ha aa he Z) hs hf) λ Dn σ H O=>?_
 obtain⟨c,H0,ρ,r,R,f,q⟩:=O;unfold aM5 at f;obtain⟨⟨ds,Y⟩,h1,f⟩:=a_1 f;obtain⟨o,h2,f⟩:=a_1 f;have f':some (Res.nx (Y.set i (.ow false o)))=some r:=f;cases f';exact⟨c,H0,ρ,ds,Y,R,h1,λ vs H1 Hh s1 R1 r1=>⟨H1,ds,o,R1.same,by rw[List.append_nil];exact r1,h2,λ a Hi' H' nw=>q _ Hi' H' (s1.trans nw.1) (R1.got i nw)⟩⟩
noncomputable def tN (K:Frag) (F:En->Option MO):TS:=λ R σ H=>∃ Hi O H0 ρ o,RS K ⟨Hi,O,[]⟩ H0 H ρ σ/\F ρ=some o/\∀ a H0' H',aI4 K Hi O o a H0' H'->R.rt (.ref a) H'
noncomputable def XN (X:Cx) (O:List Stmt) (F:En->Option MO):Prop:=PSs X O (tN X.K F)
theorem xnC {st:Stmt}{rest:List Stmt}{B:FS}{N:En->Option MO} (h1:PS X st (λ Dn σ H=>∃ Hi Z H0 ρ r,RS X.K ⟨Hi,Z,[]⟩ H0 H ρ σ/\B ρ=some r/\Post X.K ⟨Hi,Z,[]⟩ Dn H0 r)) (h2:XN X rest N):XN X (st::rest) (ap1 B N) :=
 PSs.wk (m_1 h1 h2) λ Dn σ H Y=>by
  obtain⟨Hi,Z,H0,ρ,o,R,f,q⟩:=Y;unfold ap1 at f;obtain⟨z,h,f⟩:=a_1 f;refine⟨Hi,Z,H0,ρ,z,R,h,?_⟩;cases z with
  |nx O=>exact λ aa H0' H' s R'=>⟨Hi,Z,H0',O,o,R',f,q⟩
  |rt d O=>cases f
  |bk O=>cases f
  |ct O=>cases f
theorem xnS {st:Stmt}{B:FS} (h:XS X st B):PS X st (λ Y σ H=>∃ Hi O H0 ρ r,RS X.K ⟨Hi,O,[]⟩ H0 H ρ σ/\B ρ=some r/\Post X.K ⟨Hi,O,[]⟩ Y H0 r) :=
 PS.wk h λ Y σ H ⟨Hi,O,H0,ρ,r,R,f,q⟩=>⟨⟨Hi,O,[]⟩,H0,ρ,r,R,f,q⟩
end
theorem aT1 {P:Program}{w:World}{K:Frag}{mg:Str->Option Value}{base:Heap}{x O:Str}{st:Stmt}{f:Addr}{fd:FuncData}{N ps:List Str}{k n m:Nat}{B:En->Option MO} (F:Fun K x O st f fd) (S:FnScope N ps (a_0 st)) (Z:ps.length=n) (hN:N.length=n+m)
  (hb:∀ (R:Value) (A:Around) (outer:List Env) (s:Shared) (H:Hp) (E:XK),Room k (A.deeper (envOfC O (a_0 st) s.heap.objs.size f R))->XN (al4 CX0 P w K mg base N O (a_0 st) f R A outer s H E).nox (a_3 st) B) :
  FnOk P w K mg base CX0 (k+1) f fd ps (spN K (fnN n m B)):=by
 refine F.ok S (λ vs H Q E h=>?_) (λ R A outer s H vs Q E hr h=>?_)
 ·obtain⟨Hi,ds,o,_,r,e,_⟩:=h
  unfold fnN at e
  split at e
  ·rename_i hl;rw[Z,<- r.length];exact hl
  ·cases e
 ·obtain⟨Hi,ds,o,Y,r,e,q⟩:=h
  unfold fnN at e
  split at e
  ·rename_i hl
   exact⟨_,hb R A outer s H E hr,Hi,H,Hi,_,o,RS.start (n:=N.length) (m:=m) Y r (by rw[<- r.length];omega),e,q⟩
  ·cases e
end Fx
namespace Fx
open PySem
noncomputable def bv9:D->Option Int->Option Int->Option D
 |.lst xs,lo,hi=>some (.lst (aK1 xs lo hi))
 |.tup xs,lo,hi=>if al3 xs.length 0 lo=0/\al3 xs.length xs.length hi=xs.length then none else some (.tup (aK1 xs lo hi))
 |.str z,lo,hi=>if z.length<=sizeLine then some (.str (Txt.slice z lo hi)) else none
 |_,_,_=>none
noncomputable def be8 (F:FE) (lo hi:FO) (ρ:En):Option (D×En):=bnd (F ρ) λ p=>bnd (lo p.2) λ l=>bnd (hi l.2) λ h=>bnd (bv9 p.1 l.1 h.1) λ d=>some (d,h.2)
noncomputable def inS (x z:Str):Bool:=!(Builtin.Str.occurrences z x 0 z.length 1).isEmpty
noncomputable def aH0:D->D->Option D
 |x,.tup xs=>if P_8 x xs=true then some (.bl (inD x xs)) else none
 |x,.lst xs=>if P_8 x xs=true then some (.bl (inD x xs)) else none
 |.str x,.str z=>some (.bl (inS x z))
 |_,_=>none
noncomputable def ai5:D->D->Option D
 |x,.tup xs=>if P_8 x xs=true then some (.bl (!inD x xs)) else none
 |x,.lst xs=>if P_8 x xs=true then some (.bl (!inD x xs)) else none
 |.str x,.str z=>some (.bl (!inS x z))
 |_,_=>none
@[simp] theorem aU7 (x:D) (xs:List D):aH0 x (.tup xs)=if P_8 x xs=true then some (.bl (inD x xs)) else none:=by cases x <;> rfl
@[simp] theorem aU8 (x:D) (xs:List D):aH0 x (.lst xs)=if P_8 x xs=true then some (.bl (inD x xs)) else none:=by cases x <;> rfl
@[simp] theorem aU5 (x:D) (xs:List D):ai5 x (.tup xs)=if P_8 x xs=true then some (.bl (!inD x xs)) else none:=by cases x <;> rfl
@[simp] theorem aU6 (x:D) (xs:List D):ai5 x (.lst xs)=if P_8 x xs=true then some (.bl (!inD x xs)) else none:=by cases x <;> rfl
end Fx
namespace Fx
open PySem PySem.Spec PyProof.Rows L2
section
variable {X:Cx}{K:Frag}{pos:Pos}{e:Expr}{F:FE}
noncomputable def bs0:V->Option Int->Option Int->Hp->VK->Prop:=λ x lo hi H Q=>∃ z,x=.str z/\z.length<=sizeLine/\Q (.str (Txt.slice z lo hi)) H
theorem aP5 {v:Value}{o:Option Int} (p:IsPart v o):∃ l:Option (Int×Tok),v=partValue l/\l.map (·.1)=o:=by
 cases p with
 |none=>exact⟨none,rfl,rfl⟩
 |int i t=>exact⟨some (i,t),rfl,rfl⟩
theorem aM0:SlR X bs0:=by
 intro pins s σ H x v vl vu lo hi sl Q I rx Z R O h;obtain⟨z,rfl,Y,q⟩:=h;obtain⟨t,rfl⟩:=rx;obtain⟨l,rfl,rfl⟩:=aP5 R;obtain⟨u,rfl,rfl⟩:=aP5 O;refine⟨"str",_,slot_str_getitem.lookup,typeIs_str _ _ _,wpAny_getItem_str_slice (l:=l) (u:=u) (st:=none) Z rfl ?_⟩;exact post_val_or_str ⟨Nat.le_trans (Txt.slice_le z _ _) Y,λ t' k=>⟨.str (Txt.slice z (l.map (·.1)) (u.map (·.1))),H,I.tok _,⟨_,rfl⟩,q⟩⟩
theorem bo6 {lo hi:Option Expr}{A B:FO}{p2:Pos} (he:XE X e F) (hl:XO X lo A) (hh:XO X hi B):XE X (.Subscript e (.Slice lo hi none p2) pos) (be8 F A B):=PE.wk (ao4 ((sl_list.or aL9).or aM0) he hl hh) λ σ H Q aa=>by
 obtain⟨c,H0,ρ,d,ad,R,f,q⟩:=aa;unfold be8 at f;obtain⟨⟨x,ab⟩,h1,f⟩:=a_1 f;obtain⟨⟨l,Z⟩,h2,f⟩:=a_1 f;obtain⟨⟨u,ac⟩,h3,f⟩:=a_1 f;obtain⟨d',Y,f⟩:=a_1 f;dsimp only at h2 h3 Y f;have f':some (d',ac)=some (d,ad):=f;cases f';refine⟨c,H0,ρ,x,ab,R,h1,λ v H1 Hh s1 R1 r1=>?_⟩
 refine⟨c,H1,ab,l,Z,R1,h2,λ H2 Hh2 s2 R2=>?_⟩
 refine⟨c,H2,Z,u,_,R2,h3,λ H3 Hh3 s3 O=>?_⟩
 have r3:=Rep.mono s3 x (Rep.mono s2 x r1);cases x with
 |lst ds =>
  have e:D.lst (aK1 ds l u)=d:=qi Y;subst e;unfold Rep at r3;obtain⟨p,vs,rfl,s,t⟩:=r3;refine .inl (.inl ⟨p,vs,rfl,Same.seq O.same s,λ p' hp=>?_⟩)
  have S:=Step.alloc (o:=.lst (al5 vs l u)) O.same hp;refine q _ _ _ (s1.trans (s2.trans (s3.trans S.s0))) (O.after S) ?_;unfold Rep;exact⟨p',_,rfl,.inl (.inl a_9),Reps.mono S.s0 _ (aw8 t l u)⟩
 |tup ds =>
  have h5:(if al3 ds.length 0 l=0/\al3 ds.length ds.length u=ds.length then none else some (D.tup (aK1 ds l u)))=some d:=Y
  by_cases hn:al3 ds.length 0 l=0/\al3 ds.length ds.length u=ds.length
  ·rw[if_pos hn] at h5;cases h5
  ·rw[if_neg hn] at h5
   cases h5;unfold Rep at r3;obtain⟨p,vs,rfl,s,t⟩:=r3;refine .inl (.inr ⟨p,vs,rfl,Same.seqT O.same s,?_,λ p' hp=>?_⟩)
   ·rw[<- J_4,<- J_4,<- t.length];exact hn
   have S:=Step.alloc (o:=.tup (al5 vs l u)) O.same hp;refine q _ _ _ (s1.trans (s2.trans (s3.trans S.s0))) (O.after S) ?_;unfold Rep;exact⟨p',_,rfl,.inl (.inl a_9),Reps.mono S.s0 _ (aw8 t l u)⟩
 |str z =>
  obtain⟨hz,rfl⟩:=ifs (c:=z.length<=sizeLine) Y;unfold Rep at r3;exact .inr ⟨z,r3,hz,q _ H3 Hh3 (s1.trans (s2.trans s3)) O (Q_5 H3 _)⟩
 |_=>cases Y
theorem OpR.or {f:Value->Value->Sem Value}{r Y:R2} (h:OpR X f r) (h':OpR X f Y):OpR X f (λ x y H Q=>r x y H Q\/Y x y H Q):=by
 intro pins s σ H x y v u Q I R O q
 rcases q with q | q
 ·exact h pins s σ H x y v u Q I R O q
 ·exact h' pins s σ H x y v u Q I R O q
theorem aS7:OpD K (rIn K false) dIn:=aS8 λ x y d e=>by
 cases y with
 |tup xs=>obtain⟨h,rfl⟩:=ifs (c:=P_8 x xs=true) e;exact⟨xs,.inl rfl,h,rfl⟩
 |lst xs=>obtain⟨h,rfl⟩:=ifs (c:=P_8 x xs=true) e;exact⟨xs,.inr rfl,h,rfl⟩
 |_=>cases e
theorem bh1:x_0 X .In aH0:=⟨_,OpR.or ae2 ae1,λ c H0 H ρ σ x y d Z vy Q R O Y e q=>by
 cases y with
 |tup xs=>rw[aU7] at e;exact .inl (aS7 c H0 H ρ σ x (.tup xs) d Z vy Q R O Y e q)
 |lst xs=>rw[aU8] at e;exact .inl (aS7 c H0 H ρ σ x (.lst xs) d Z vy Q R O Y e q)
 |str b =>
  cases x with
  |str a =>
   have e':some (D.bl (inS a b))=some d:=e;cases e';unfold Rep at O Y;subst O Y;exact .inr ⟨a,b,rfl,rfl,q _ H0 H (Same.refl _) R (s_4 _ _)⟩
  |_=>cases e
 |_=>cases x <;> cases e⟩
end
end Fx
namespace Fx
open PySem
noncomputable def owT:Option Sl->Option MO
 |some (.ow true o)=>some o
 |_=>none
noncomputable def ah4 (ρ:En) (i:Nat) (o:MO):List Nat->Option En
 |[]=>some []
 |j::js=>bnd (if j=i then some (.ow true o) else slI ρ[j]?) λ s=>bnd (ah4 ρ i o js) λ r=>some (s::r)
noncomputable def W_9 (T:FT) (F:FE) (ρ:En) (i:Nat) (js:List Nat) (q:Nat):MO->List D->Option (List D×MO)
 |o,[]=>some ([],o)
 |o,d::r=>bnd (ah4 ρ i o js) λ fr=>bnd (T (.im d::fr)) λ p=>if p.1=true then bnd (F p.2) λ z=>bnd (owT z.2[q+1]?) λ o'=>bnd (W_9 T F ρ i js q o' r) λ t=>some (z.1::t.1,t.2)
   else bnd (owT p.2[q+1]?) λ o'=>W_9 T F ρ i js q o' r
theorem ar3 (T:FT) (F:FE) (ρ:En) (i:Nat) (js:List Nat) (q:Nat) (o:MO):W_9 T F ρ i js q o []=some ([],o):=rfl
theorem O_8 (T:FT) (F:FE) (ρ:En) (i:Nat) (js:List Nat) (q:Nat) (o:MO) (d:D) (r:List D):W_9 T F ρ i js q o (d::r)=bnd (ah4 ρ i o js) λ fr=>bnd (T (.im d::fr)) λ p=>if p.1=true then bnd (F p.2) λ z=>bnd (owT z.2[q+1]?) λ o'=>bnd (W_9 T F ρ i js q o' r) λ t=>some (z.1::t.1,t.2)
   else bnd (owT p.2[q+1]?) λ o'=>W_9 T F ρ i js q o' r:=rfl
noncomputable def lcB (js:List Nat) (i q:Nat) (T:FT) (F:FE) (xs:List D) (ρ:En):Option (D×En):=bnd (owO ρ[i]?) λ w=>bnd (W_9 T F ρ i js q w.2 xs) λ t=>if xs.length<=sizeLine/\js[q]?=some i/\js.Nodup then some (.lst t.1,ρ.set i (.ow w.1 t.2)) else none
noncomputable def aX1 (js:List Nat) (i q:Nat) (R:FA) (T:FT) (F:FE) (ρ:En):Option (D×En):=bnd (R ρ) λ p=>lcB js i q T F p.1 p.2
end Fx
namespace Fx
open PySem PySem.Spec PyProof.Rows L2
theorem aP6 {s:Option Sl}{o:MO} (h:owT s=some o):s=some (.ow true o):=by
 unfold owT at h
 split at h
 ·cases h;rfl
 ·cases h
theorem W_3 {ρ:En}{i:Nat}{o:MO}:∀ {js:List Nat}{fr:En},ah4 ρ i o js=some fr->fr.length=js.length/\∀ (k:Nat) (s:Sl),fr[k]?=some s->∃ j,js[k]?=some j/\((j=i/\s=.ow true o)\/∃ d,ρ[j]?=some (.im d)/\s=.im d)
 |[],_,h=>by
  have h':([]:En)=_:=qi h;subst h';exact⟨rfl,λ k s e=>by simp at e⟩
 |j::js,_,h=>by
  unfold ah4 at h;obtain⟨s,h1,h⟩:=a_1 h;obtain⟨r,h2,h⟩:=a_1 h;cases h;obtain⟨a,b⟩:=W_3 h2;refine⟨by rw[List.length_cons,List.length_cons,a],λ k s' e=>?_⟩
  cases k with
  |zero =>
   simp at e;subst e;refine⟨j,rfl,?_⟩
   by_cases O:j=i
   ·rw[if_pos O] at h1;cases h1;exact .inl ⟨O,rfl⟩
   ·rw[if_neg O] at h1
    cases z:ρ[j]? with
    |none=>rw[z] at h1;cases h1
    |some Z =>
     rw[z] at h1;cases Z with
     |im d=>exact .inr ⟨d,rfl,(qi h1).symm⟩
     |_=>cases h1
  |succ k =>
   obtain⟨Y,R,x2⟩:=b k s' (by simpa using e)
   exact⟨Y,by simpa using R,x2⟩
theorem W_2 {ρ:En}{i:Nat}{o:MO}{s:Sl}:∀ js:List Nat,ah4 (ρ.set i s) i o js=ah4 ρ i o js
 |[]=>rfl
 |j::js=>by
  unfold ah4;rw[W_2 js]
  by_cases O:j=i
  ·rw[if_pos O,if_pos O]
  ·rw[if_neg O,if_neg O,List.getElem?_set_ne (Ne.symm O)]
theorem ap0 {js:List Nat} (h:js.Nodup) {k l i:Nat} (a:js[k]?=some i) (b:js[l]?=some i):k=l:=by
 obtain⟨hk,O⟩:=List.getElem?_eq_some_iff.mp a;obtain⟨hl,R⟩:=List.getElem?_eq_some_iff.mp b;exact (List.getElem_inj h).mp (O.trans R.symm)
theorem RS.blockB {K:Frag}{c:FC}{H0 H:Hp}{ρ:En}{σ:L2.St}{js:List Nat}{fr:En}{d:D}{x:V}{i:Nat}{b:Bool}{o:MO}{a:Addr} (R:RS K c H0 H ρ σ) (hi:ρ[i]?=some (.ow b o)) (ha:σ[i]?=some (some (.ref a))) (nd:js.Nodup) (hf:ah4 ρ i o js=some fr) (rx:Rep K H0 d x) :
  RS K ⟨H0,H,[a]⟩ H0 H (.im d::fr) (some x::frv σ js):=by
 obtain⟨l,g⟩:=W_3 hf;obtain⟨a',y1,y2,y3,y4⟩:=R.ow i b o hi;rw[ha] at y1;cases y1;refine⟨R.same,Same.refl _,λ b o e=>.inl e,λ b o e _=>e,λ z hz e=>?_,?_,λ k d' e=>?_,λ k b' o' e=>?_,λ k k' b1 b2 o1 o2 z e1 e2 e3 e4=>?_⟩
 ·obtain⟨u,hu⟩:=y4.some
  have ab:z=a:=by simpa using hz
  have e:H z=none:=e;rw[ab,hu] at e;cases e
 ·rw[List.length_cons,List.length_cons,l,frv,List.length_map]
 ·cases k with
  |zero=>simp at e;subst e;exact⟨x,rfl,rx⟩
  |succ k =>
   obtain⟨j,Y,O⟩:=g k _ (by simpa using e)
   rcases O with ⟨_,x3⟩ | ⟨d2,O,x3⟩
   ·cases x3
   ·cases x3
    obtain⟨v,w1,w2⟩:=R.im j d' O;refine⟨v,?_,w2⟩;show (frv σ js)[k]?=some (some v);unfold frv;rw[List.getElem?_map,Y];show some (σ[j]?).join=some (some v);rw[w1];rfl
 ·cases k with
  |zero=>simp at e
  |succ k =>
   obtain⟨j,Y,O⟩:=g k _ (by simpa using e)
   rcases O with ⟨hj,x3⟩ | ⟨d2,_,x3⟩
   ·cases x3
    subst hj;refine⟨a,?_,y2,by rw[if_pos rfl];exact List.mem_singleton.mpr rfl,y4⟩
    show (frv σ js)[k]?=some (some (.ref a));unfold frv;rw[List.getElem?_map,Y];show some (σ[j]?).join=some (some (.ref a));rw[ha];rfl
   ·cases x3
 ·cases k with
  |zero=>simp at e1
  |succ k =>
   cases k' with
   |zero=>simp at e2
   |succ k' =>
    obtain⟨j,Y,O⟩:=g k _ (by simpa using e1)
    obtain⟨j',Z,aa⟩:=g k' _ (by simpa using e2)
    rcases O with ⟨hj,_⟩ | ⟨_,_,x3⟩
    ·rcases aa with ⟨hj',_⟩ | ⟨_,_,x3'⟩
     ·rw[hj] at Y;rw[hj'] at Z
      rw[ap0 nd Y Z]
     ·cases x3'
    ·cases x3
theorem RS.unblock {K:Frag}{c:FC}{H0 H H2 Hh2:Hp}{ρ O:En}{σ:L2.St}{js:List Nat}{x:V}{i q:Nat}{b:Bool}{o o':MO}{a:Addr} (R:RS K c H0 H ρ σ) (hi:ρ[i]?=some (.ow b o)) (ha:σ[i]?=some (some (.ref a)))
  (R2:RS K ⟨H0,H,[a]⟩ H2 Hh2 O (some x::frv σ js)) (hq:owT O[q+1]?=some o'):RS K c H2 Hh2 (ρ.set i (.ow b o')) σ:=by
 obtain⟨Z,_,_,Y,z4⟩:=R2.ow (q+1) true o' (aP6 hq);rw[if_pos rfl] at Y;have e:Z=a:=by simpa using Y
 subst e;exact R.lent hi ha R2.init R2.same (λ y u e n=>R2.keep y u e (by simpa using n)) R2.fresh z4
theorem aR6 {K:Frag}{c:FC}{H1 Hh:Hp}{ρ:En}{σ:L2.St}{js:List Nat}{i q:Nat}{b:Bool}{o o':MO}{T:FT}{F:FE}{xs out:List D}{J:It}{Qf:List V->Hp->Prop} (R:RS K c H1 Hh ρ σ) (hi:ρ[i]?=some (.ow b o)) (nd:js.Nodup) (hc:W_9 T F ρ i js q o xs=some (out,o')) (hz:xs.length<=sizeLine) (hy:y_2 K J H1 xs)
  (qf:∀ ys H0 H,Same H1 H0->RS K c H0 H (ρ.set i (.ow b o')) σ->Reps K H0 out ys->Qf ys H):LcW js (tTt K T) (tE K F) σ Qf J Hh:=by
 have il:i<ρ.length:=(List.getElem?_eq_some_iff.mp hi).1;obtain⟨a,ha,_⟩:=R.ow i b o hi;have aa:∀ o,(ρ.set i (.ow b o))[i]?=some (.ow b o):=λ o=>List.getElem?_set_self il
 have e0:ρ.set i (.ow b o)=ρ:=by
  obtain⟨_,e⟩:=List.getElem?_eq_some_iff.mp hi;rw[<- e];exact List.set_getElem_self il
 refine⟨λ n m ys H=>m=xs.length-n/\n<=xs.length/\∃ H0 on,Same H1 H0/\RS K c H0 H (ρ.set i (.ow b on)) σ/\∃ Y rest,Reps K H0 Y ys/\Y.length<=n/\W_9 T F ρ i js q on (xs.drop n)=some (rest,o')/\Y++rest=out,
  ⟨xs.length,by simp,Nat.zero_le _,H1,o,Same.refl _,by rw[e0];exact R,[],out,Reps.nil_,Nat.zero_le _,by simpa using hc,rfl⟩,?_⟩
 rintro n m ys H ⟨rfl,hn,H0,on,s0,R0,Y,rest,rp,lp,O,e⟩;obtain⟨y1,y2⟩:=hy H0 H n s0 R0.same
 by_cases ab:n<xs.length
 ·have hd:xs[n]?=some xs[n]:=by simp[ab]
  obtain⟨go,yl⟩:=y1 _ hd;refine .inr ⟨go,by rw[<- rp.length];omega,λ x H' hx=>?_⟩
  obtain⟨rfl,rx⟩:=yl x H' hx;rw[J_0 hd,O_8] at O;obtain⟨fr,g0,O⟩:=a_1 O;obtain⟨⟨bb,ac⟩,g1,O⟩:=a_1 O;dsimp only at O;have Rb:=R0.blockB (aa on) ha nd (by rw[W_2];exact g0) rx
  refine⟨⟨H0,H',[a]⟩,H0,_,bb,ac,Rb,g1,λ H2 Hh2 s2 R2=>?_⟩
  cases bb with
  |false =>
   rw[if_neg Bool.false_ne_true] at O ⊢;obtain⟨o2,g4,O⟩:=a_1 O;have R3:=R0.unblock (aa on) ha R2 g4;rw[List.set_set] at R3;exact⟨xs.length-(n+1),by omega,rfl,ab,H2,o2,s0.trans s2,R3,Y,rest,Reps.mono s2 _ rp,by omega,O,e⟩
  |true =>
   rw[if_pos rfl] at O ⊢;obtain⟨⟨z,ad⟩,g2,O⟩:=a_1 O;obtain⟨o2,g4,O⟩:=a_1 O;obtain⟨⟨t,ot⟩,g3,O⟩:=a_1 O;dsimp only at O;have Z:some (z::t,ot)=some (rest,o'):=O;cases Z;refine⟨⟨H0,H',[a]⟩,H2,ac,z,ad,R2,g2,λ v H3 Hh3 s3 R3 r3=>?_⟩
   have R4:=R0.unblock (aa on) ha R3 g4;rw[List.set_set] at R4;refine⟨xs.length-(n+1),by omega,rfl,ab,H3,o2,s0.trans (s2.trans s3),R4,Y++[z],t,(Reps.mono (s2.trans s3) _ rp).app (Reps.one r3),?_,g3,?_⟩
   ·rw[List.length_append,List.length_singleton];omega
   ·rw[List.append_assoc];exact e
 ·have ei:n=xs.length:=by omega
  have hn:xs.drop n=[]:=List.drop_eq_nil_of_le (by omega)
  rw[hn,ar3] at O;have Z:some (([]:List D),on)=some (rest,o'):=O;cases Z;rw[List.append_nil] at e;subst e;exact .inl ⟨y2 (by omega),by rw[<- rp.length];omega,qf ys H0 H s0 R0 rp⟩
theorem aC9 {js:List Nat}{i q:Nat}{T:FT}{F:FE}{xs:List D}{ρ O:En}{d:D} (h:lcB js i q T F xs ρ=some (d,O)):∃ b o ys o',ρ[i]?=some (.ow b o)/\W_9 T F ρ i js q o xs=some (ys,o')/\xs.length<=sizeLine/\js.Nodup/\d=.lst ys/\O=ρ.set i (.ow b o'):=by
 unfold lcB at h;obtain⟨⟨b,o⟩,h1,h⟩:=a_1 h;obtain⟨⟨ys,o'⟩,h2,h⟩:=a_1 h;obtain⟨⟨R,Z,Y⟩,h⟩:=ifs h;cases h;exact⟨b,o,ys,o',M_6 h1,h2,R,Y,rfl,rfl⟩
section
variable {X:Cx}{pos:Pos}
theorem bp3 {x:Str}{i:Int} (h:∃ t,X.mg x=some (.int i t)) (Y:Gl X x:=by rfl) (Z:(x==("__debug__":Str))=false:=by decide):XE X (.Name x pos) (zI i):=by
 obtain⟨t,h⟩:=h
 exact PE.wk (R_1 Y h (v:=.int i) ⟨t,rfl⟩ Z) λ σ H Q O=>by
  obtain⟨c,H0,ρ,d,aa,R,f,q⟩:=O;obtain⟨rfl,rfl⟩:=C_6 f;exact q _ H0 H (Same.refl _) R (g_2 _ _)
theorem bp2 {x z:Str} (h:∃ t,X.mg x=some (.str z t)) (Y:Gl X x:=by rfl) (Z:(x==("__debug__":Str))=false:=by decide):XE X (.Name x pos) (eC (.str z)):=by
 obtain⟨t,h⟩:=h
 exact PE.wk (R_1 Y h (v:=.str z) ⟨t,rfl⟩ Z) λ σ H Q O=>by
  obtain⟨c,H0,ρ,d,aa,R,f,q⟩:=O;obtain⟨rfl,rfl⟩:=C_6 f;exact q _ H0 H (Same.refl _) R (Q_5 _ _)
end
end Fx
namespace Fx
open PySem
end Fx
namespace Fx
open PySem PySem.Spec PyProof.Rows
end Fx
namespace Fx
open PySem
theorem s_7:entryFor table "dict.update.loop"=some Builtin.«dict.update.loop»:=entryFor_of_tree (by kernel_rfl)
theorem m_2:plainId "dict.update.loop"=true:=by decide +kernel
section
variable {prog:Program}{w:World}{K:Type} [DecidableEq K] {knd:KeyKind prog w K}{A:Around}{E:Value->Shared->Prop}{s:Shared}
inductive PairsAt (knd:KeyKind prog w K) (h:Heap):List Value->List (K×Value)->Prop
 |nil:PairsAt knd h [] []
 |cons {p:Addr}{u v:Value}{k:K}{us:List Value}{kvs:List (K×Value)} (a:h.IsTuple p #[u,v]) (b:knd.is k u=true) (r:PairsAt knd h us kvs):PairsAt knd h (.ref p::us) ((k,v)::kvs)
end
end Fx
namespace Fx
open PySem PySem.Spec PyProof.Rows L2
noncomputable def KV1 (K:Frag) (d:D) (u:Value):Prop:=∃ v,RelV v u/\∀ H,Rep K H d v
noncomputable def KVs (K:Frag) (ds:List D) (us:List Value):Prop:=∃ vs,Vals vs us/\∀ H,Reps K H ds vs
section
variable {K:Frag}
theorem av6:KV1 K .non .none:=⟨.non,rfl,λ H=>by unfold Rep;rfl⟩
theorem s_5 {i:Int}{t:Tok}:KV1 K (.int i) (.int i t):=⟨.int i,⟨t,rfl⟩,λ H=>g_2 H i⟩
theorem C_0:KVs K [] []:=⟨[],.nil,λ H=>Reps.nil_⟩
theorem j_4 {d:D}{ds:List D}{u:Value}{us:List Value} (a:KV1 K d u) (b:KVs K ds us):KVs K (d::ds) (u::us):=by
 obtain⟨v,r,p⟩:=a;obtain⟨vs,O,ps⟩:=b;exact⟨v::vs,.cons r O,λ H=>Reps.cons (p H) (ps H)⟩
theorem O_1 {a:Addr}{us:List Value}{n:Nat}{O:Array (Option Value)}{ds:List D} (l:K.lookup a=some ⟨.type "tuple",none,.seq us.toArray n,O⟩) (R:us.length ≤ 1000) (h:KVs K ds us):KV1 K (.tup ds) (.ref a):=by
 obtain⟨vs,Y,ps⟩:=h;refine⟨.ref a,rfl,λ H=>?_⟩
 unfold Rep;refine⟨a,vs,rfl,.inr ⟨_,us.toArray,n,l,rfl,rfl,rfl,?_,?_⟩,ps H⟩
 ·rw[List.size_toArray];exact Nat.le_of_lt (L_3 R)
 ·exact Y
end
inductive PV (K:Frag) (H:Hp):List V->List (Key×V)->Prop
 |nil:PV K H [] []
 |cons {a:Addr}{k:Str}{v:V}{vs:List V}{kvs:List (Key×V)} (p:SqT K H a [.str k,v]) (r:PV K H vs kvs):PV K H (.ref a::vs) ((.inr k,v)::kvs)
section
variable {X:Cx}
theorem bp1 {x:Str}{d:D}{pos:Pos} (h:∃ a,X.mg x=some (.ref a) ∧ KV1 X.K d (.ref a)) (hg:Gl X x:=by rfl) (Z:(x==("__debug__":Str))=false:=by decide):XE X (.Name x pos) (eC d):=by
 obtain⟨a,h,v,Y,rp⟩:=h
 exact PE.wk (R_1 hg h (v:=v) Y Z) λ σ H Q O=>by
  obtain⟨c,H0,ρ,d,aa,R,f,q⟩:=O;obtain⟨rfl,rfl⟩:=C_6 f;exact q _ H0 H (Same.refl _) R (rp H0)
end
end Fx
namespace Fx
open PySem PySem.Spec
noncomputable def SetS (P:Program) (w:World) (O:Bool) (h:Heap) (a:Addr) (ss:List Str):Prop:=h.SetOf (PySem.strKind P w) a (λ k=>decide (k∈ss)) ss.length
end Fx
namespace Fx
open PySem
end Fx
namespace Fx
open PySem PySem.Spec
noncomputable def ItAt:Bool->Heap->Addr->Addr->Nat->Prop
 |true,h,it,c,i=>h.IsTupleIter it c i
 |false,h,it,c,i=>h.IsListIter it c i
noncomputable def SqAt:Bool->Heap->Addr->Array Value->Prop
 |true,h,c,us=>h.IsTuple c us
 |false,h,c,us=>h.IsList c us
section
variable {P:Program}{w:World}{A:Around}{E:Value->Shared->Prop}{s:Shared}{it c:Addr}{i:Nat}{us:Array Value}
theorem SqAt.keep {T:Bool}{h h':Heap} (q:SqAt T h c us) (k:∀ b o,h.get? b=some o->h'.get? b=some o):SqAt T h' c us:=by
 cases T with
 |true=>obtain⟨o,O,r⟩:=q;exact⟨o,k _ _ O,r⟩
 |false=>obtain⟨o,O,r⟩:=q;exact⟨o,k _ _ O,r⟩
theorem ItAt.same {T:Bool}{h h':Heap}{b:Addr} (q:ItAt T h it c i) (Y:Heap.SameBut b h h') (R:it≠b):ItAt T h' it c i:=by
 cases T with
 |true=>obtain⟨o,O,r⟩:=q;exact⟨o,(Y.2 it R).trans O,r⟩
 |false=>obtain⟨o,O,r⟩:=q;exact⟨o,(Y.2 it R).trans O,r⟩
theorem SetS.same {O:Bool}{h h':Heap}{a b:Addr}{ss:List Str} (q:SetS P w O h a ss) (Z:Heap.SameBut b h h') (Y:a≠b):SetS P w O h' a ss:=by
 obtain⟨o,es,R,t,ho,r⟩:=q;exact⟨o,es,R,t,(Z.2 a Y).trans ho,r⟩
theorem SetS.keep {O:Bool}{h h':Heap}{a:Addr}{ss:List Str} (q:SetS P w O h a ss) (k:∀ b o,h.get? b=some o->h'.get? b=some o):SetS P w O h' a ss:=by
 obtain⟨o,es,R,t,Y,r⟩:=q;exact⟨o,es,R,t,k _ _ Y,r⟩
end
end Fx
namespace Fx
open PySem PySem.Spec PyProof.Rows L2
structure YE (X:Cx) (e:Expr) (F:FE):Prop where
 go:XE X e F
structure YA (X:Cx) (es:List Expr) (F:FA):Prop where
 go:XA X es F
structure YS (X:Cx) (st:Stmt) (F:FS):Prop where
 go:XS X st F
structure YSs (X:Cx) (st:List Stmt) (F:FS):Prop where
 go:XSs X st F
section
variable {X:Cx}{a b e:Expr}{es:List Expr}{F G:FE}{A:FA}{pos:Pos}{st:Stmt}{ss body:List Stmt}{B C:FS}{T:FT}
theorem ye (h:XE X e F):YE X e F:=⟨h⟩
theorem yb {op:Operator}{f:D->D->Option D} (o:P_7 X op f) (R:YE X a F) (O:YE X b G):YE X (.BinOp a op b pos) (e2 f F G):=⟨xb o R.go O.go⟩
theorem yix (Y:YE X a F) (R:YE X b G) (O:T_2 b:=by intro _ _;rfl):YE X (.Subscript a b pos) (e2 b_2 F G):=⟨b_8 Y.go R.go O⟩
theorem aW3 (h:YA X es A):YE X (.List es pos) (r_7 A):=⟨K_5 h.go⟩
theorem E_8 {x1} (h:YA X es A):YE X (.Tuple es x1 pos) (m_6 A):=⟨K_4 h.go⟩
theorem yaN:YA X [] aN:=⟨xaN⟩
theorem yaC (R:YE X e F) (Y:YA X es A) (O:starEach (e::es) X.env=(false,eval e X.env)::starEach es X.env:=by rfl):YA X (e::es) (aC F A):=⟨xaC R.go Y.go O⟩
theorem yx (h:XS X st B):YS X st B:=⟨h⟩
theorem ysN:YSs X [] sN:=⟨xsN⟩
theorem ys1 (h:YS X st B):YSs X [st] B:=⟨xs1 h.go⟩
theorem ysC (h:YS X st B) (k:YSs X ss C):YSs X (st::ss) (b_4 B C):=⟨xsC h.go k.go⟩
theorem K_3 (i:Nat) {x:Str}{pos':Pos} (R:X.N.Nodup) (Z:YE X e F) (hi:X.N[i]?=some x:=by rfl) (Y:Loc X.env.scope x:=by first | exact Or.inl rfl | exact Or.inr rfl) (O:swapsWith e (some (.Name x pos')) pos.line X.env=pure false:=by rfl)
  (hf:X.fn x=true\/X.env.scope.names.lookup x=some .local:=by first | exact .inl rfl | exact .inr rfl):YS X (.Assign [.Name x pos'] e pos) (d_5 i F):=⟨l_2 i R Z.go hi Y O hf⟩
theorem aX7 (O:YE X e F):YS X (.Return (some e) pos) (e_7 F):=⟨g_4 O.go⟩
theorem yif (Y:XT X e T) (R:YSs X ss B) (O:YSs X body C):YS X (.If e ss body pos) (sIf T B C):=⟨o_1 Y R.go O.go⟩
theorem as3 {g:GD}{p pos':Pos} (hm:X.mg "range"=none) (hg:XG X b g) (ha:XE X a F) (hb:YSs X body B) (O:Gl X "range":=by rfl) (Z:PassesOwn (model X.prog X.w) X.A X.env X.xe:=by exact PassesOwn.never) (Y:X.calm=true:=by rfl)
  (R:starEach [a] X.env=[(false,eval a X.env)]:=by rfl) (hs:∀ x,foldedSetIterable (.Call (.Name "range" p) [a] [] pos') X.env x=pure x:=by intro _;rfl):YS X (.For b (.Call (.Name "range" p) [a] [] pos') body [] pos) (u_2 g (Y_7 F) B):=⟨T_3 hm hg ha hb.go O Z Y R hs⟩
end
end Fx
namespace Fx
open PySem
mutual
noncomputable def beD:D->D->Bool
 |.non,.non=>true
 |.bl a,.bl b=>a==b
 |.int a,.int b=>a==b
 |.str a,.str b=>decide (a=b)
 |.tup a,.tup b=>ax0 a b
 |.lst a,.lst b=>ax0 a b
 |.dct k a,.dct l b=>decide (k=l)&&ax0 a b
 |_,_=>false
noncomputable def ax0:List D->List D->Bool
 |[],[]=>true
 |a::r,b::t=>beD a b&&ax0 r t
 |_,_=>false
end
mutual
theorem aV3:∀ a b:D,beD a b=true->a=b
 |.non,b,h=>by cases b <;> first | rfl | cases h
 |.bl a,b,h=>by cases b <;> first | cases h;done | (rw[beD] at h;rw[beq_iff_eq.mp h])
 |.int a,b,h=>by cases b <;> first | cases h;done | (rw[beD] at h;rw[beq_iff_eq.mp h])
 |.str a,b,h=>by cases b <;> first | cases h;done | (rw[beD] at h;rw[of_decide_eq_true h])
 |.tup a,b,h=>by cases b <;> first | cases h;done | (rw[beD] at h;rw[K_0 _ _ h])
 |.lst a,b,h=>by cases b <;> first | cases h;done | (rw[beD] at h;rw[K_0 _ _ h])
 |.dct k a,b,h=>by
  cases b <;> first | cases h;done | skip
  rw[beD,Bool.and_eq_true] at h;rw[of_decide_eq_true h.1,K_0 _ _ h.2]
theorem K_0:∀ a b:List D,ax0 a b=true->a=b
 |[],b,h=>by cases b <;> first | rfl | cases h
 |x::r,b,h=>by
  cases b with
  |nil=>cases h
  |cons y t =>
   rw[ax0,Bool.and_eq_true] at h;rw[aV3 _ _ h.1,K_0 _ _ h.2]
end
mutual
theorem aV2:∀ a:D,beD a a=true
 |.non=>rfl
 |.bl a=>by rw[beD];exact beq_self_eq_true a
 |.int a=>by rw[beD];exact beq_self_eq_true a
 |.str a=>by rw[beD];exact decide_eq_true rfl
 |.tup a=>by rw[beD];exact J_9 a
 |.lst a=>by rw[beD];exact J_9 a
 |.dct k a=>by rw[beD,J_9 a,Bool.and_true];exact decide_eq_true rfl
theorem J_9:∀ a:List D,ax0 a a=true
 |[]=>rfl
 |x::r=>by rw[ax0,aV2 x,J_9 r];rfl
end
noncomputable def nOw:Option Sl->Option MO
 |some (.ow false o)=>some o
 |_=>none
@[simp] theorem bs8 (o:MO):nOw (some (.ow false o))=some o:=zR rfl
noncomputable def ap4 (i:Nat) (ρ:En):Option MO:=nOw ρ[i]?
@[simp] theorem bj8 (i:Nat) (ρ:En):ap4 i ρ=nOw ρ[i]?:=zR rfl
noncomputable def sXa (o:Option (D×En)):Option Res:=bnd o λ p=>some (.nx p.2)
noncomputable def sX (F:FE) (ρ:En):Option Res:=sXa (F ρ)
@[simp] theorem sX_ (F:FE) (ρ:En):sX F ρ=sXa (F ρ):=zR rfl
@[simp] theorem bq8 (d:D) (ρ:En):sXa (some (d,ρ))=some (.nx ρ):=zR rfl
mutual
noncomputable def nd:D->Bool
 |.dct _ _=>false
 |.tup xs=>nds xs
 |.lst xs=>nds xs
 |_=>true
noncomputable def nds:List D->Bool
 |[]=>true
 |d::r=>nd d&&nds r
end
noncomputable def sNo:FS:=λ _=>none
end Fx
namespace Fx
open PySem PySem.Spec PyProof.Rows L2
section
variable {X:Cx}{pos:Pos}{e:Expr}{F G:FE}{A:FA}
theorem xsx (he:XE X e F) (Z:swapsWith e none pos.line X.env=pure false:=by rfl):XS X (.Expr e pos) (sX F):=PS.wk (Q_9 he Z) λ Dn σ H O=>by
 obtain⟨c,H0,ρ,r,R,f,q⟩:=O;unfold sX sXa at f;obtain⟨⟨d,Y⟩,h1,f⟩:=a_1 f;have f':some (Res.nx Y)=some r:=f;cases f';exact⟨c,H0,ρ,d,Y,R,h1,λ v H1 Hh s1 R1 _=>q σ H1 Hh s1 R1⟩
theorem xnO (i:Nat) {x:Str}{p Y:Pos} (hN:X.N[i]?=some x:=by rfl) (hv:Vis X.env.scope x:=by first | exact Or.inl rfl | exact Or.inr (Or.inl rfl) | exact Or.inr (Or.inr rfl)) (hd:(x==("__debug__":Str))=false:=by decide) (Z:(x==("__classdict__":Str))=false:=by decide) :
  XN X [.Return (some (.Name x p)) Y] (ap4 i) :=
 PSs.wk (w_1 (U_8 (u_3 hN hv hd Z))) λ Dn σ H O=>by
  obtain⟨Hi,He,H0,ρ,o,R,f,q⟩:=O;unfold ap4 nOw at f
  split at f
  ·rename_i o' hz
   cases f;obtain⟨a,e1,e2,e3,ok⟩:=R.ow i false _ hz;exact⟨_,e1,q a H0 H ⟨R.init,R.same,λ b u h=>R.keep b u h (by simp),R.fresh,e2,e3,ok⟩⟩
  ·cases f
end
noncomputable def less (H:Hp) (a:Addr):Hp:=λ b=>if b=a then none else H b
theorem af4 {H:Hp}{a b:Addr} (h:b≠a):less H a b=H b:=if_neg h
section
variable {K:Frag}{H:Hp}{a:Addr}{ob:Obj}{kvs:List (Key×V)}
theorem Rd.less {b:Addr}{u:HO} (O:H a=some (.frz ob (.dK kvs))) (h:Rd H b u) (n:∀ kvs,u≠.dK kvs) (n2:∀ o v,u≠.frz o v):Rd (less H a) b u:=by
 have R:b≠a:=λ e=>by
  rw[e] at h
  rcases h with h | ⟨o,h⟩
  ·rw[O] at h;exact n2 _ _ (qi h).symm
  ·rw[O] at h;cases h;exact n kvs rfl
 rcases h with h | ⟨o,h⟩
 ·exact .inl (by rw[af4 R];exact h)
 ·exact .inr ⟨o,by rw[af4 R];exact h⟩
mutual
theorem Rep.less (O:H a=some (.frz ob (.dK kvs))):∀ (d:D) {v:V},nd d=true->Rep K H d v->Rep K (less H a) d v
 |.non,_,_,h=>by unfold Rep at h ⊢;exact h
 |.bl _,_,_,h=>by unfold Rep at h ⊢;exact h
 |.int _,_,_,h=>by unfold Rep at h ⊢;exact h
 |.str _,_,_,h=>by unfold Rep at h ⊢;exact h
 |.tup ds,_,n,h=>by
  unfold Rep at h ⊢;obtain⟨b,vs,e,s,r⟩:=h;refine⟨b,vs,e,?_,Reps.less O ds n r⟩
  rcases s with s | s
  ·exact .inl (Rd.less O s (λ _ z=>nomatch z) λ _ _ z=>nomatch z)
  ·exact .inr s
 |.lst ds,_,n,h=>by
  unfold Rep at h ⊢;obtain⟨b,vs,e,s,r⟩:=h;refine⟨b,vs,e,?_,Reps.less O ds n r⟩
  rcases s with s | s
  ·exact .inl (Rd.less O s (λ _ z=>nomatch z) λ _ _ z=>nomatch z)
  ·exact .inr s
 |.dct _ _,_,n,_=>by cases n
theorem Reps.less (O:H a=some (.frz ob (.dK kvs))):∀ (ds:List D) {vs:List V},nds ds=true->Reps K H ds vs->Reps K (less H a) ds vs
 |[],_,_,h=>by unfold Reps at h ⊢;exact h
 |d::r,_,n,h=>by
  unfold nds at n;rw[Bool.and_eq_true] at n;unfold Reps at h ⊢;obtain⟨v,R,e,h1,h2⟩:=h;exact⟨v,R,e,Rep.less O d n.1 h1,Reps.less O r n.2 h2⟩
end
end
section
variable {X:Cx}{pos:Pos}{e:Expr}{T:FT}
theorem bo5 {st:Stmt}:XS X st sNo:=λ _ _ _ _ _ _ ⟨_,_,_,_,_,f,_⟩=>nomatch f
end
end Fx
namespace Fx
open PySem
noncomputable def aT7 (F G:FE) (ρ:En):Option (D×En):=bnd (F ρ) λ p=>bnd (aw7 p.1) λ b=>if b=true then some p else G p.2
noncomputable def bf0 (x:D) (ρ:En) (G:FE) (o:Option Bool):Option (D×En):=bnd o λ b=>if b=true then some (x,ρ) else G ρ
noncomputable def bf1 (G:FE) (o:Option (D×En)):Option (D×En):=bnd o λ p=>bf0 p.1 p.2 G (aw7 p.1)
@[simp] theorem aa7 (F G:FE) (ρ:En):aT7 F G ρ=bf1 G (F ρ):=zR rfl
end Fx
namespace Fx
open PySem PySem.Spec PyProof.Rows L2
end Fx
namespace Fx
open PySem PySem.W L2
structure XC (K:Frag) (C:Addr):Prop where
 is:(clsIn K C).isSome=true
 ga:findIn K (.ref C) "__getattribute__"=some (some (.builtin "BaseException.__getattribute__"))
 gh:findIn K (.ref C) "__getattr__"=some none
 cl:findIn K (.ref C) "__class__"=some (some (.builtin "object.__class__"))
 ge:specialIn K (.builtin "object.__class__") "__get__"=some (some (.builtin "getset_descriptor.__get__"))
 tk:takesIn K (.builtin "object.__class__")=some true
 mo:mroIn K C (.type "object")=some true
 mb:mroIn K C (.type "BaseException")=some true
noncomputable def rcd (c:Value) (vs:Array Value) (O:Option Addr:=none):Obj:={cls:=c,dict:=O,data:=.fields vs,slots:=#[]}
noncomputable def Aw (fs es:List Addr) (h h':Heap):Prop:=∀ b o,h.get? b=some o->b∉es->(b∉fs->h'.get? b=some o)/\∃ O,h'.get? b=some {o with slots:=O}
theorem Aw.of {fs es:List Addr}{h h':Heap} (k:∀ b o,b∉es->h.get? b=some o->h'.get? b=some o):Aw fs es h h':=λ b o e n=>⟨λ _=>k b o n e,o.slots,k b o n e⟩
theorem Aw.trans {fs es:List Addr}{h h1 h2:Heap} (a:Aw fs es h h1) (b:Aw fs es h1 h2):Aw fs es h h2:=λ c o e n=>by
 obtain⟨p,Y,q⟩:=a c o e n;obtain⟨_,O,R⟩:=b c _ q n;exact⟨λ m=>(b c o (p m) n).1 m,O,R⟩
noncomputable def Fly (h:Heap) (e T C:Addr) (R:Option Addr) (Y:Value):Prop:=T≠e ∧ (∃ vs,h.get? e=some (rcd (.ref C) vs R) ∧ vs[1]?=some (.ref T)) ∧ ∃ O,h.get? T=some (rcd (.type "traceback") O) ∧ O[3]?=some Y
end Fx
namespace Fx
open PySem PySem.W PySem.Spec PyProof.Rows L2
noncomputable def CXE (P:Program) (w:World):CXT:=λ outer H s E e s'=>∃ a T C O H',e=.ref a/\s'.os=s.os/\AllBare s'.gens/\Un (frs outer) [] H H' s.heap s'.heap/\HOk P w H' s'.heap /\
 s.heap.get? a=none/\s.heap.get? T=none/\H' a=none/\H' T=none/\Fly s'.heap a T C O .none/\E (.ref C) O H'
abbrev bmV:List Value:=[.type "ValueError",.type "Exception",.type "BaseException",.type "object"]
end Fx
namespace Fx
open PySem
abbrev XV:=Str×Option (Str×D)
inductive RX where
 |ok (r:Res) | ex (x:XV)
abbrev FX:=En->Option RX
end Fx
namespace Fx
open PySem PySem.W PySem.Spec PyProof.Rows L2
noncomputable def XD (K:Frag) (H0 H:Hp):Option (Str×D)->Option Addr->Prop
 |none,none=>True
 |some p,some dx=>∃ v,Rep K H0 p.2 v/\H dx=some (.xd [(p.1,v)])
 |_,_=>False
noncomputable def bu2 (K:Frag) (mg:Str->Option Value) (Hi H:Hp) (Q:VK) (E:XK):D ⊕ XV->Prop
 |.inl d=>∀ v Hi' H',Step Hi H Hi' H'->Rep K Hi' d v->Q v H'
 |.inr x=>∀ C O Hi' H',mg x.1=some (.ref C)->Step Hi H Hi' H'->XD K Hi' H' x.2 O->E (.ref C) O H'
noncomputable def spX (K:Frag) (mg:Str->Option Value) (g:List D->Option (D ⊕ XV)):Sp:=λ vs H Q E=>∃ Hi ds r,Same Hi H/\Reps K Hi ds vs/\g ds=some r/\bu2 K mg Hi H Q E r
structure DefX (P:Program) (w:World) (K:Frag) (mg:Str->Option Value) (base:Heap) (k:Nat) (x:Str) (g:List D->Option (D ⊕ XV)):Prop where
 ex:∃ f fd ps,FnOk P w K mg base (CXE P w) k f fd ps (spX K mg g)/\Binds K fd ps []/\keepIn K (.ref f)=true/\mg x=some (.ref f)
end Fx
namespace Fx
open PySem
end Fx
namespace Fx
open PySem PySem.W PySem.Spec PyProof.Rows L2
end Fx
namespace Fx
open PySem PySem.W PySem.Spec PyProof.Rows L2 Builtin.ObjectAttr
noncomputable def aQ3:List Value->Bool
 |[]=>false
 |v::r=>v::r==bmV||match v with
  |.ref _=>aQ3 r
  |_=>false
section
variable {prog:Program}{w:World}{A:Around}{E:Value->Shared->Prop}{s:Shared}{K:Frag}{C e:Addr}{vs:Array Value}{name:Str}{v:Value}{cd:ClassData}
structure XS1 (K:Frag) (C:Addr) (name:Str):Prop where
 sa:findIn K (.ref C) "__setattr__"=some (some (.builtin "object.__setattr__"))
 na:findIn K (.ref C) name=some none
 cl:∃ cd,clsIn K C=some cd/\aQ3 cd.mro=true/\cd.hasDict=true
end
end Fx
namespace Fx
open PySem PySem.W PySem.Spec PyProof.Rows L2
noncomputable def be2 (K:Frag) (C O:Addr):Bool :=
 match K.lookup C with
 |some ⟨.type "type",_,.cls c,sl⟩ =>
  (match c.mro,sl.toList with
  |.ref C'::bm,[_,_,_,_,some (.builtin n),_]=>C'==C&&n=="ValueError.__new__"&&!c.hasDel&&tailIn K bmV bm&&nsOkIn K c.ns&&nsIn K c.ns "__init__"==some (some (.ref O))&&(K.lookup O).any λ o=>o.cls==.type "function"
  |_,_=>false)
 |_=>false
end Fx
namespace Fx
open PySem
abbrev Ky:=List (List Int)
mutual
noncomputable def fK:D->Ky
 |.int i=>[[i]]
 |.str s=>[s.cps.toList.map Int.ofNat]
 |.tup xs=>fKs xs
 |_=>[]
noncomputable def fKs:List D->Ky
 |[]=>[]
 |d::r=>fK d++fKs r
end
noncomputable def ltK (a b:D):Bool:=decide (fK a<fK b)
noncomputable def ap9 (x:D):List D->List D
 |[]=>[x]
 |y::r=>if ltK y x=true then y::ap9 x r else x::y::r
noncomputable def j_5:List D->List D
 |[]=>[]
 |x::r=>ap9 x (j_5 r)
theorem mem_insT {x y:D}:∀ {l:List D},y∈ap9 x l↔y=x\/y∈l
 |[]=>by simp[ap9]
 |z::r=>by
  unfold ap9
  split
  ·rw[List.mem_cons,mem_insT,List.mem_cons]
   exact⟨λ h=>by rcases h with h | h | h;exact .inr (.inl h);exact .inl h;exact .inr (.inr h),λ h=>by rcases h with h | h | h;exact .inr (.inl h);exact .inl h;exact .inr (.inr h)⟩
  ·rw[List.mem_cons]
theorem insT_perm {x:D}:∀ {l:List D},(ap9 x l).Perm (x::l)
 |[]=>List.Perm.refl _
 |y::r=>by
  unfold ap9
  split
  ·exact ((insT_perm (l:=r)).cons y).trans (List.Perm.swap x y r)
  ·exact List.Perm.refl _
theorem l_3:∀ l:List D,(j_5 l).Perm l
 |[]=>List.Perm.refl _
 |x::r=>by unfold j_5;exact insT_perm.trans ((l_3 r).cons x)
theorem af1 {a b c:Ky} (h1:¬ b<a) (h2:¬ c<b):¬ c<a:=List.not_lt.mpr (List.le_trans (List.not_lt.mp h1) (List.not_lt.mp h2))
theorem ag9 {x:D}:∀ {l:List D},(l.Pairwise λ a b=>ltK b a=false)->(ap9 x l).Pairwise λ a b=>ltK b a=false
 |[],_=>List.pairwise_singleton _ _
 |y::r,h=>by
  unfold ap9;obtain⟨h1,h2⟩:=List.pairwise_cons.mp h
  by_cases q:ltK y x=true
  ·rw[if_pos q]
   refine List.pairwise_cons.mpr ⟨λ z O=>?_,ag9 h2⟩
   rcases mem_insT.mp O with rfl | O
   ·unfold ltK at q ⊢
    rw[decide_eq_true_eq] at q;rw[decide_eq_false_iff_not];exact List.not_lt.mpr (List.le_of_lt q)
   ·exact h1 z O
  ·rw[if_neg q]
   have q:ltK y x=false:=by simpa using q
   refine List.pairwise_cons.mpr ⟨λ z O=>?_,h⟩
   rcases qv O with rfl | O
   ·exact q
   ·have R:=h1 z O
    unfold ltK at q R ⊢;rw[decide_eq_false_iff_not] at q R ⊢;exact af1 q R
theorem z_4:∀ l:List D,(j_5 l).Pairwise λ a b=>ltK b a=false
 |[]=>List.Pairwise.nil
 |x::r=>by unfold j_5;exact ag9 (z_4 r)
theorem E_9 {l t:List D} (inj:∀ a b,a∈l->b∈l->fK a=fK b->a=b) (O:t.Perm l) (R:t.Pairwise λ a b=>ltK b a=false):t=j_5 l:=by
 refine List.Perm.eq_of_pairwise (le:=λ a b=>ltK b a=false) (λ a b Z Y p q=>?_) R (z_4 l) (O.trans (l_3 l).symm)
 unfold ltK at p q;rw[decide_eq_false_iff_not] at p q;exact inj a b (O.mem_iff.mp Z) ((l_3 l).mem_iff.mp Y) (List.le_antisymm (List.not_lt.mp p) (List.not_lt.mp q))
theorem W_6 {p q:Nat->Bool}:∀ {l:List Nat},(∀ x,p x=true->q x=true)->(∃ x∈l,q x=true/\p x=false)->l.countP p<l.countP q
 |[],_,h=>by obtain⟨x,h,_⟩:=h;cases h
 |y::r,hi,h=>by
  have le:r.countP p<=r.countP q:=List.countP_mono_left λ x _=>hi x
  obtain⟨x,O,h1,h2⟩:=h
  rcases qv O with rfl | O
  ·rw[List.countP_cons_of_neg (by rw[h2];exact Bool.false_ne_true),List.countP_cons_of_pos h1];omega
  ·have Y:=W_6 hi ⟨x,O,h1,h2⟩
   cases R:p y with
   |true=>rw[List.countP_cons_of_pos R,List.countP_cons_of_pos (hi y R)];omega
   |false =>
    rw[List.countP_cons_of_neg (by rw[R];exact Bool.false_ne_true)]
    exact qr Y (by rw[List.countP_cons];omega)
noncomputable def ad4 (n:Nat) (key:Nat->Ky) (i:Nat):Nat:=(List.range n).countP λ k=>decide (key k<key i)
theorem U_4 {n:Nat}{key:Nat->Ky}{i j:Nat} (hi:i<n):ad4 n key i<ad4 n key j↔key i<key j:=by
 constructor
 ·intro h
  by_cases c:key i<key j
  ·exact c
  ·have le:ad4 n key j<=ad4 n key i:=List.countP_mono_left λ x _ O=>by
    rw[decide_eq_true_eq] at O ⊢;refine Decidable.byContradiction λ z=>c (List.lt_of_le_of_lt (List.not_lt.mp z) O)
   omega
 ·intro c
  refine W_6 (λ x O=>?_) ⟨i,List.mem_range.mpr hi,decide_eq_true c,decide_eq_false (List.lt_irrefl _)⟩
  rw[decide_eq_true_eq] at O ⊢;exact List.lt_trans O c
noncomputable def r3:D->Bool
 |.tup [.int _,.str _,.int _]=>true
 |_=>false
noncomputable def r22:D->Bool
 |.tup [.tup [.str _,.int _],.tup [.int _,.int _]]=>true
 |_=>false
noncomputable def n_9:List D->Option D
 |[.lst xs]=>if xs.length<64/\(xs.all r3=true\/xs.all r22=true) then some (.lst (j_5 xs)) else none
 |_=>none
@[simp] theorem X_4 (xs:List D):n_9 [.lst xs]=if xs.length<64/\(xs.all r3=true\/xs.all r22=true) then some (.lst (j_5 xs)) else none:=zR rfl
noncomputable def aV5:List D->Option D
 |[.lst xs]=>bnd (q_3 xs) λ is=>some (.int is.sum)
 |_=>none
theorem aV4 (xs:List D):aV5 [.lst xs]=bnd (q_3 xs) λ is=>some (.int is.sum):=rfl
noncomputable def Z_9:D->Option Str
 |.tup [.int _,.str k,.int _]=>some k
 |_=>none
noncomputable def bp5:D->Option Int
 |.tup [.int t,.str _,.int _]=>some t
 |_=>none
noncomputable def h_2 (k:Str):List (List D)->Option Nat
 |[]=>none
 |x::r=>match h_2 k r with
  |some i=>some (i+1)
  |none=>if (x.head?.bind Z_9)=some k then some 0 else none
noncomputable def O_2 (gap t:Int) (x:List D):Bool:=match x.getLast?.bind bp5 with
 |some u=>decide (t-u<gap)
 |none=>false
noncomputable def l_4 (gap:Int) (st:List (List D)) (k:Str) (t:Int) (d:D):List (List D):=match h_2 k st with
 |some i=>if O_2 gap t (st.getD i [])=true then st.set i (st.getD i []++[d]) else st++[[d]]
 |none=>st++[[d]]
noncomputable def t_1 (gap:Int):List D->List (List D)->Option (List (List D))
 |[],st=>some st
 |.tup [.int t,.str k,.int v]::r,st=>t_1 gap r (l_4 gap st k t (.tup [.int t,.str k,.int v]))
 |_,_=>none
noncomputable def ay9:List D->Option D
 |[.int gap,.lst xs]=>if xs.length<64/\xs.all r3=true then bnd (t_1 gap (j_5 xs) []) λ st=>some (.lst (st.map .lst)) else none
 |_=>none
noncomputable def aP8:Option Sl->Option (List D)
 |some (.ow false (.lst ds))=>some ds
 |_=>none
@[simp] theorem bj5 (ds:List D):aP8 (some (.ow false (.lst ds)))=some ds:=zR rfl
end Fx
namespace Fx
open PySem PySem.Spec PyProof.Rows L2
noncomputable def A_6:D->D->Bool
 |.int _,.int _=>true
 |.str _,.str _=>true
 |_,_=>false
noncomputable def i_9:List D->List D->Bool
 |[],[]=>true
 |d::r,e::t=>A_6 d e&&i_9 r t
 |_,_=>false
noncomputable def ltF:D->D->Bool
 |.int i,.int j=>decide (i<j)
 |.str a,.str b=>decide (a.cps.toList<b.cps.toList)
 |_,_=>false
noncomputable def K_7:List D->List D->Bool
 |d::r,e::t=>if eqD d e=true then K_7 r t else ltF d e
 |_,_=>false
theorem av2:∀ (l m:List Nat),(l.map Int.ofNat<m.map Int.ofNat)↔l<m
 |[],[]=>by simp
 |[],_::_=>by simp
 |_::_,[]=>by simp
 |a::l,b::m=>by
  rw[List.map_cons,List.map_cons,List.cons_lt_cons_iff,List.cons_lt_cons_iff,av2 l m];have h1:(Int.ofNat a<Int.ofNat b)↔a<b:=Int.ofNat_lt;have h2:(Int.ofNat a=Int.ofNat b)↔a=b:=Int.ofNat_inj;rw[h1,h2]
theorem ae3 (a b:List Int):([a]:Ky)<[b]↔a<b:=by
 rw[List.cons_lt_cons_iff];exact⟨λ h=>h.elim id λ z=>absurd z.2 (List.lt_irrefl _),.inl⟩
theorem z_5 {d e:D} (h:A_6 d e=true):(eqD d e=true↔d=e)/\(fK d=fK e↔d=e)/\(ltF d e=true↔fK d<fK e)/\(∃ k,fK d=[k])/\∃ k,fK e=[k]:=by
 cases d with
 |int i =>
  cases e with
  |int j =>
   have e1:fK (.int i)=[[i]]:=by unfold fK;rfl
   have e2:fK (.int j)=[[j]]:=by unfold fK;rfl
   rw[e1,e2];refine⟨by simp,by simp,?_,⟨_,rfl⟩,_,rfl⟩
   rw[ae3,List.cons_lt_cons_iff];show decide (i<j)=true↔_;rw[decide_eq_true_eq];exact⟨.inl,λ z=>z.elim id λ y=>absurd y.2 (List.lt_irrefl _)⟩
  |_=>cases h
 |str a =>
  cases e with
  |str b =>
   have e1:fK (.str a)=[a.cps.toList.map Int.ofNat]:=by unfold fK;rfl
   have e2:fK (.str b)=[b.cps.toList.map Int.ofNat]:=by unfold fK;rfl
   rw[e1,e2];refine⟨by simp,?_,?_,⟨_,rfl⟩,_,rfl⟩
   ·constructor
    ·intro z
     have R:a.cps.toList.map Int.ofNat=b.cps.toList.map Int.ofNat:=(List.cons.inj z).1;have O:a.cps.toList=b.cps.toList:=List.map_inj_right (λ x y q=>Int.ofNat.inj q) |>.mp R
     obtain⟨⟨Z⟩⟩:=a;obtain⟨⟨Y⟩⟩:=b;cases O;rfl
    ·intro z;cases z;rfl
   ·rw[ae3,av2]
    show decide (a.cps.toList<b.cps.toList)=true↔_;rw[decide_eq_true_eq]
  |_=>cases h
 |_=>cases h
theorem m_3 (d:D) (r:List D):fKs (d::r)=fK d++fKs r:=by rw[fKs]
theorem r_2:∀ {ds es:List D},i_9 ds es=true->ds.length=es.length/\(fKs ds).length=(fKs es).length
 |[],[],_=>⟨rfl,rfl⟩
 |[],_::_,h=>by cases h
 |_::_,[],h=>by cases h
 |d::r,e::t,h=>by
  unfold i_9 at h;rw[Bool.and_eq_true] at h;obtain⟨_,_,_,⟨k,e1⟩,O,e2⟩:=z_5 h.1;obtain⟨h1,h2⟩:=r_2 h.2;exact⟨by simp[h1],by rw[m_3,m_3,e1,e2];simp[h2]⟩
theorem o_2:∀ {ds es:List D},i_9 ds es=true->(fKs ds=fKs es↔ds=es)
 |[],[],_=>by simp
 |[],_::_,h=>by cases h
 |_::_,[],h=>by cases h
 |d::r,e::t,h=>by
  unfold i_9 at h;rw[Bool.and_eq_true] at h;obtain⟨_,q,_,⟨k,e1⟩,Y,e2⟩:=z_5 h.1;have R:=o_2 h.2;rw[m_3,m_3];constructor
  ·intro z
   rw[e1,e2] at z;have O:k::fKs r=Y::fKs t:=z;injection O with z1 z2
   rw[q.mp (by rw[e1,e2,z1]),R.mp z2]
  ·intro z;cases z;rfl
theorem I_4:∀ {ds es:List D},i_9 ds es=true->K_7 ds es=decide (fKs ds<fKs es)
 |[],[],_=>by
  have:fKs []=[]:=by rw[fKs]
  rw[this];exact (decide_eq_false (List.lt_irrefl _)).symm
 |[],_::_,h=>by cases h
 |_::_,[],h=>by cases h
 |d::r,e::t,h=>by
  unfold i_9 at h;rw[Bool.and_eq_true] at h;obtain⟨Y,q2,q3,⟨k,e1⟩,O,e2⟩:=z_5 h.1;have ih:=I_4 h.2;unfold K_7;rw[m_3,m_3,e1,e2];show _=decide (k::fKs r<O::fKs t)
  by_cases z:eqD d e=true
  ·have:k=O:=by
    have:=Y.mp z;subst this;rw[e1] at e2;exact (List.cons.inj e2).1
   subst this;rw[if_pos z,ih];refine decide_eq_decide.mpr ?_;rw[List.cons_lt_cons_iff];exact⟨λ y=>.inr ⟨rfl,y⟩,λ y=>y.elim (λ y=>absurd y (List.lt_irrefl _)) (·.2)⟩
  ·rw[if_neg z]
   have ne:k≠O:=λ y=>z (Y.mpr (q2.mp (by rw[e1,e2,y])))
   have e3:ltF d e=decide (k<O):=by
    have Z:ltF d e=true↔k<O:=by rw[q3,e1,e2,ae3]
    cases R:ltF d e with
    |true=>exact (decide_eq_true (Z.mp R)).symm
    |false=>exact (decide_eq_false λ y=>by rw[Z.mpr y] at R;cases R).symm
   rw[e3];refine decide_eq_decide.mpr ?_;rw[List.cons_lt_cons_iff];exact⟨.inl,λ y=>y.elim id λ y=>absurd y.1 ne⟩
end Fx
namespace Fx
open PySem
mutual
noncomputable def nl:D->Bool
 |.lst _=>false
 |.dct _ _=>false
 |.tup xs=>nls xs
 |_=>true
noncomputable def nls:List D->Bool
 |[]=>true
 |d::r=>nl d&&nls r
end
noncomputable def lk1 (op:D->D->Option D) (x:D) (o:Option (D×En)):Option (D×En):=bnd o λ r=>mkP (op x r.1) r.2
noncomputable def bt3 (op:D->D->Option D) (M:FE) (y:D) (ρ:En) (o:Option Bool):Option (D×En):=bnd o λ b=>if b=true then lk1 op y (M ρ) else some (.bl false,ρ)
noncomputable def bt4 (op:D->D->Option D) (M:FE) (y:D) (ρ:En) (o:Option D):Option (D×En):=bnd o λ z=>bt3 op M y ρ (blB z)
noncomputable def lk2 (op O:D->D->Option D) (M:FE) (x:D) (o:Option (D×En)):Option (D×En):=bnd o λ r=>bt4 O M r.1 r.2 (op x r.1)
noncomputable def bt1 (op O:D->D->Option D) (L M:FE) (y:D) (ρ:En) (o:Option Bool):Option (D×En):=bnd o λ b=>if b=true then lk2 op O M y (L ρ) else some (.bl false,ρ)
noncomputable def bt2 (op O:D->D->Option D) (L M:FE) (y:D) (ρ:En) (o:Option D):Option (D×En):=bnd o λ z=>bt1 op O L M y ρ (blB z)
noncomputable def lk3 (op R O:D->D->Option D) (L M:FE) (x:D) (o:Option (D×En)):Option (D×En):=bnd o λ r=>bt2 R O L M r.1 r.2 (op x r.1)
noncomputable def e4a (op R O:D->D->Option D) (G L M:FE) (o:Option (D×En)):Option (D×En):=bnd o λ p=>lk3 op R O L M p.1 (G p.2)
noncomputable def e4 (op R O:D->D->Option D) (F G L M:FE) (ρ:En):Option (D×En):=e4a op R O G L M (F ρ)
end Fx
namespace Fx
open PySem PySem.W PySem.Spec PyProof.Rows L2
end Fx
namespace Fx
open PySem PySem.Spec PyProof.Rows L2
noncomputable def lss (H:Hp) (a:Addr):Hp:=λ b=>if b=a then none else H b
theorem av3 {H:Hp}{a b:Addr} (h:b≠a):lss H a b=H b:=if_neg h
theorem aB2 {o:Option Sl}{ds:List D} (h:aP8 o=some ds):o=some (.ow false (.lst ds)):=by
 unfold aP8 at h
 split at h
 ·cases h;rfl
 ·cases h
section
variable {K:Frag}{H:Hp}{a:Addr}{us:List V}
theorem SqT.lss {b:Addr}{vs:List V} (R:H a=some (.lst us)) (h:SqT K H b vs):SqT K (lss H a) b vs:=by
 rcases h with h | h
 ·refine .inl ?_
  have O:b≠a:=λ e=>by
   rw[e] at h
   rcases h with h | ⟨o,h⟩ <;> rw[R] at h <;> cases h
  rcases h with h | ⟨o,h⟩
  ·exact .inl (by rw[av3 O];exact h)
  ·exact .inr ⟨o,by rw[av3 O];exact h⟩
 ·exact .inr h
mutual
theorem Rep.lss (O:H a=some (.lst us)):∀ (d:D) {v:V},nl d=true->Rep K H d v->Rep K (lss H a) d v
 |.non,_,_,h=>by unfold Rep at h ⊢;exact h
 |.bl _,_,_,h=>by unfold Rep at h ⊢;exact h
 |.int _,_,_,h=>by unfold Rep at h ⊢;exact h
 |.str _,_,_,h=>by unfold Rep at h ⊢;exact h
 |.tup ds,_,n,h=>by
  unfold Rep at h ⊢;obtain⟨b,vs,e,s,r⟩:=h;exact⟨b,vs,e,SqT.lss O s,Reps.lss O ds n r⟩
 |.lst _,_,n,_=>by cases n
 |.dct _ _,_,n,_=>by cases n
theorem Reps.lss (O:H a=some (.lst us)):∀ (ds:List D) {vs:List V},nls ds=true->Reps K H ds vs->Reps K (lss H a) ds vs
 |[],_,_,h=>by unfold Reps at h ⊢;exact h
 |d::r,_,n,h=>by
  unfold nls at n;rw[Bool.and_eq_true] at n;unfold Reps at h ⊢;obtain⟨v,R,e,h1,h2⟩:=h;exact⟨v,R,e,Rep.lss O d n.1 h1,Reps.lss O r n.2 h2⟩
end
end
theorem Reps.dropLast {K:Frag}{H:Hp}:∀ {ds:List D}{vs:List V},Reps K H ds vs->Reps K H ds.dropLast vs.dropLast
 |[],vs,h=>by unfold Reps at h;subst h;exact Reps.nil_
 |[d],vs,h=>by
  unfold Reps at h;obtain⟨v,r,rfl,_,h2⟩:=h;unfold Reps at h2;subst h2;exact Reps.nil_
 |d::e::ds,vs,h=>by
  unfold Reps at h;obtain⟨v,r,rfl,h1,h2⟩:=h;have O:=Reps.dropLast h2;unfold Reps at h2;obtain⟨R,Y,rfl,_,_⟩:=h2;exact Reps.cons h1 O
end Fx
namespace L2
open PySem PySem.Spec PyProof.Rows
end L2
namespace Fx
open PySem PySem.Spec PyProof.Rows L2
end Fx
namespace Fx
open PySem PySem.W PyProof.Rows
noncomputable def WpT {α:Type} (lt:Nat->Nat->Bool) (n:Nat) (P:α->Prop):KasT α->Prop
 |.ret a=>P a
 |.ask i j k=>i<n/\j<n/\WpT lt n P (k (lt i j))
theorem WpT.bind {α O:Type}{lt:Nat->Nat->Bool}{n:Nat}{P:α->Prop}{R:O->Prop}{f:α->KasT O} (h:∀ a,P a->WpT lt n R (f a)):∀ t:KasT α,WpT lt n P t->WpT lt n R (t.bind f)
 |.ret a,q=>h a q
 |.ask i j k,q=>⟨q.1,q.2.1,WpT.bind h (k (lt i j)) q.2.2⟩
theorem WpT.run {α:Type}{lt:Nat->Nat->Bool}{n:Nat}{P:α->Prop}{J:Shared->Prop}{O:Nat->Nat->(Bool->Shared->Prop)->Shared->Prop}{Q:α->Shared->Prop}
  (Z:∀ i j C s,i<n->j<n->J s->(∀ s',J s'->C (lt i j) s')->O i j C s) (Y:∀ a s,P a->J s->Q a s):∀ (t:KasT α) (s:Shared),WpT lt n P t->J s->t.kasWp O Q s
 |.ret a,s,h,j=>Y a s h j
 |.ask i j k,s,h,js=>Z i j _ s h.1 h.2.1 js λ s' R=>WpT.run Z Y (k (lt i j)) s' h.2.2 R
section
variable {n:Nat}{r:Nat->Nat}
abbrev ltR (r:Nat->Nat) (i j:Nat):Bool:=decide (r i<r j)
structure OkP (n:Nat) (p:Array Nat):Prop where
 size:p.size=n
 perm:p.toList.Perm (List.range n)
noncomputable def KP (r:Nat->Nat) (p:Array Nat) (k:Nat):Nat:=r (p.getD k 0)
theorem OkP.lt {p:Array Nat} (h:OkP n p) (O:0<n) (k:Nat):p.getD k 0<n:=by
 by_cases hk:k<p.size
 ·rw[Array.getD_eq_getD_getElem?,getElem?_pos p k hk]
  have:p[k]∈p.toList:=by simp
  exact List.mem_range.mp (h.perm.mem_iff.mp this)
 ·rw[Array.getD_eq_getD_getElem?,getElem?_neg p k hk];exact O
theorem v_5 {p q:Array Nat}{i j:Nat} (h:p[i]?=q[j]?):KP r p i=KP r q j:=by unfold KP;rw[Array.getD_eq_getD_getElem?,Array.getD_eq_getD_getElem?,h]
theorem OkP.rev {p:Array Nat} (h:OkP n p) (i j:Nat):OkP n (kas_rev p i j):=⟨(mirror_size _ _ _ _).trans h.size,(Array.perm_iff_toList_perm.mp (mirror_perm _ _ _ _)).trans h.perm⟩
theorem OkP.bub {p:Array Nat} (h:OkP n p) (k d:Nat):OkP n (bubble p k d):=⟨(bubble_size _ _ _).trans h.size,(Array.perm_iff_toList_perm.mp (bubble_perm _ _ _)).trans h.perm⟩
theorem ak9 {p:Array Nat}{i j:Nat} (O:j<=p.size) (k:Nat):KP r (kas_rev p i j) k=if i<=k/\k<j then KP r p (i+j-1-k) else KP r p k:=by
 have e:=getElem?_mirror_all (xs:=p) (i:=i) O k
 by_cases h1:i<=k/\k<j
 ·rw[if_pos h1] at e ⊢;exact v_5 e
 ·rw[if_neg h1] at e ⊢;exact v_5 e
theorem ax5 {p:Array Nat}{k d:Nat} (O:k<p.size) (R:d<=k) (i:Nat):KP r (bubble p k d) i=if i=k-d then KP r p k else if k-d<i/\i<=k then KP r p (i-1) else KP r p i:=by
 have e:=getElem?_bubble O d R i
 by_cases h1:i=k-d
 ·rw[if_pos h1] at e ⊢;exact v_5 e
 ·rw[if_neg h1] at e ⊢
  by_cases h2:k-d<i/\i<=k
  ·rw[if_pos h2] at e ⊢;exact v_5 e
  ·rw[if_neg h2] at e ⊢;exact v_5 e
noncomputable def Q_0 (r:Nat->Nat) (p:Array Nat) (m:Nat):Prop:=∀ i j,i<=j->j<m->KP r p i<=KP r p j
noncomputable def aW2 (r:Nat->Nat) (p:Array Nat) (m:Nat):Prop:=∀ i j,i<=j->j<m->KP r p j<=KP r p i
noncomputable def Eqs (r:Nat->Nat) (p:Array Nat) (a b:Nat):Prop:=∀ i,a<=i->i<b->KP r p i=KP r p (b-1)
theorem D_3 {p:Array Nat}{i j:Nat} (O:j<=p.size) (e:Eqs r p i j) (k:Nat):KP r (kas_rev p i j) k=KP r p k:=by
 rw[ak9 O]
 split
 ·rw[e _ (by omega) (by omega),e k (by omega) (by omega)]
 ·rfl
theorem ak4 {p:Array Nat} (Y:OkP n p):∀ f m,1<=m->m+f<=n->Q_0 r p m->WpT (ltR r) n (λ O=>m<=O/\O<=m+f/\Q_0 r p O/\(O<m+f->KP r p O<KP r p (O-1))) (kas_asc p f m)
 |0,m,h1,h2,h3=>⟨qj _,qj _,h3,λ z=>absurd z (Nat.lt_irrefl _)⟩
 |f+1,m,h1,h2,h3=>by
  refine⟨Y.lt (by omega) _,Y.lt (by omega) _,?_⟩
  by_cases c:KP r p m<KP r p (m-1)
  ·rw[show ltR r (p.getD m 0) (p.getD (m-1) 0)=true from decide_eq_true c];dsimp only;rw[if_pos rfl]
   exact⟨qj _,by omega,h3,λ _=>c⟩
  ·rw[show ltR r (p.getD m 0) (p.getD (m-1) 0)=false from decide_eq_false c];dsimp only;rw[if_neg Bool.false_ne_true]
   have h4:Q_0 r p (m+1):=λ i j Z hj=>by
    by_cases z:j<m
    ·exact h3 i j Z z
    ·have:j=m:=by omega
     subst this
     by_cases w:i=j
     ·subst w;exact qj _
     ·exact Nat.le_trans (h3 i (j-1) (by omega) (by omega)) (Nat.le_of_not_lt c)
   have R:=ak4 Y f (m+1) (by omega) (by omega) h4
   rw[show m+1+f=m+(f+1) by omega] at R
   have mono:∀ (t:KasT Nat),WpT (ltR r) n (λ O=>m+1<=O/\O<=m+(f+1)/\Q_0 r p O/\(O<m+(f+1)->KP r p O<KP r p (O-1))) t->WpT (ltR r) n (λ O=>m<=O/\O<=m+(f+1)/\Q_0 r p O/\(O<m+(f+1)->KP r p O<KP r p (O-1))) t:=by
    intro t
    induction t with
    |ret a=>exact λ h=>⟨by have:=h.1;omega,h.2⟩
    |ask i j k R=>exact λ h=>⟨h.1,h.2.1,R _ h.2.2⟩
   exact mono _ R
noncomputable def aW0 (n:Nat) (r:Nat->Nat) (z:Array Nat×Nat×Nat):Prop:=OkP n z.1/\1<=z.2.1/\z.2.1<=n/\z.2.2+1<=z.2.1/\aW2 r z.1 z.2.1/\Eqs r z.1 (z.2.1-(z.2.2+1)) z.2.1
theorem J_3:∀ f (p:Array Nat) m q,OkP n p->q+1<=m->m+f<=n->aW2 r p m->Eqs r p (m-(q+1)) m->WpT (ltR r) n (aW0 n r) (kas_desc f p m q)
 |0,p,m,q,hp,h1,h2,h3,h4=>⟨hp,(show 1<=m by omega),(show m<=n by omega),h1,h3,h4⟩
 |f+1,p,m,q,hp,h1,h2,h3,h4=>by
  have sz:=hp.size;have one:∀ R:Array Nat,Eqs r R (m+1-(0+1)) (m+1):=λ R i a b=>by rw[show i=m+1-1 by omega]
  have O:∀ R:Array Nat,(∀ k,KP r R k=KP r p k)->KP r p m<=KP r p (m-1)->aW2 r R (m+1):=λ R e c i j Y hj=>by
   rw[e,e]
   by_cases z:j<m
   ·exact h3 i j Y z
   ·have:j=m:=by omega
    subst this
    by_cases w:i=j
    ·subst w;exact qj _
    ·exact Nat.le_trans c (h3 i (j-1) (by omega) (by omega))
  refine⟨hp.lt (by omega) _,hp.lt (by omega) _,?_⟩
  by_cases c:KP r p m<KP r p (m-1)
  ·rw[show ltR r (p.getD m 0) (p.getD (m-1) 0)=true from decide_eq_true c];dsimp only;rw[if_pos rfl]
   split
   ·have e:=D_3 (r:=r) (p:=p) (i:=m-(q+1)) (j:=m) (by omega) h4
    exact J_3 f _ (m+1) 0 (hp.rev _ _) (by omega) (by omega) (O _ e (Nat.le_of_lt c)) (one _)
   ·exact J_3 f p (m+1) 0 hp (by omega) (by omega) (O p (λ _=>rfl) (Nat.le_of_lt c)) (one _)
  ·rw[show ltR r (p.getD m 0) (p.getD (m-1) 0)=false from decide_eq_false c];dsimp only;rw[if_neg Bool.false_ne_true]
   refine⟨hp.lt (by omega) _,hp.lt (by omega) _,?_⟩
   by_cases d:KP r p (m-1)<KP r p m
   ·rw[show ltR r (p.getD (m-1) 0) (p.getD m 0)=true from decide_eq_true d];dsimp only;rw[if_pos rfl]
    exact⟨hp,(show 1<=m by omega),(show m<=n by omega),h1,h3,h4⟩
   ·rw[show ltR r (p.getD (m-1) 0) (p.getD m 0)=false from decide_eq_false d];dsimp only;rw[if_neg Bool.false_ne_true]
    have Z:KP r p m=KP r p (m-1):=by omega
    refine J_3 f p (m+1) (q+1) hp (by omega) (by omega) (O p (λ _=>rfl) (by omega)) λ i a b=>?_
    rw[show m+1-1=m by omega]
    by_cases z:i<m
    ·rw[h4 i (by omega) z,Z]
    ·rw[show i=m by omega]
noncomputable def aI5 (n:Nat) (r:Nat->Nat) (z:Nat×Array Nat):Prop:=OkP n z.2/\1<=z.1/\z.1<=n/\Q_0 r z.2 z.1
theorem T_7 {p:Array Nat}{m:Nat} (O:OkP n p) (h1:1<=m) (h2:m<=n) (Z:aW2 r p m):WpT (ltR r) n (aI5 n r) (kas_tail3 m n p):=by
 have sz:=O.size
 have mo:Q_0 r (kas_rev p 0 m) m:=λ i j Y hj=>by
  rw[ak9 (by omega),ak9 (by omega),if_pos ⟨by omega,by omega⟩,if_pos ⟨by omega,by omega⟩]
  exact Z _ _ (by omega) (by omega)
 refine WpT.bind (λ a h=>?_) _ (ak4 (O.rev 0 m) (n-m) m h1 (by omega) mo)
 obtain⟨g1,g2,R,_⟩:=h;exact⟨O.rev _ _,(show 1<=a by omega),(show a<=n by omega),R⟩
theorem C_8 {p:Array Nat}{m:Nat} (hp:OkP n p) (h2:m+1<=n) (h3:aW2 r p (m+1)):WpT (ltR r) n (aI5 n r) (kas_descPart m n p):=by
 refine WpT.bind (λ z h=>?_) _ (J_3 (n-(m+1)) p (m+1) 0 hp (by omega) (by omega) h3 λ i a b=>by rw[show i=m+1-1 by omega])
 obtain⟨g1,R,Y,g4,Z,g6⟩:=h;have sz:=g1.size
 split
 ·have e:=D_3 (r:=r) (p:=z.1) (i:=z.2.1-(z.2.2+1)) (j:=z.2.1) (by omega) g6
  exact T_7 (g1.rev _ _) R Y λ i j O hj=>by rw[e,e];exact Z i j O hj
 ·exact T_7 g1 R Y Z
theorem aq8 {p:Array Nat} (hn:1<=n) (O:OkP n p):WpT (ltR r) n (aI5 n r) (kas_count n p):=by
 have sz:=O.size;refine WpT.bind (λ m h=>?_) _ (ak4 (r:=r) O (n-1) 1 (qj _) (by omega) λ i j R hj=>by rw[show i=j by omega];exact qj _)
 obtain⟨g1,g2,Y,g4⟩:=h
 by_cases e:m=n
 ·rw[if_pos (by rw[e];exact beq_self_eq_true _)]
  exact⟨O,g1,by omega,Y⟩
 ·rw[if_neg (by simpa using e)]
  have c:=g4 (by omega)
  split
  ·refine⟨O.lt (by omega) _,O.lt (by omega) _,?_⟩
   by_cases d:KP r p 0<KP r p (m-1)
   ·rw[show ltR r (p.getD 0 0) (p.getD (m-1) 0)=true from decide_eq_true d];dsimp only;rw[if_pos rfl]
    exact⟨O,g1,by omega,Y⟩
   ·rw[show ltR r (p.getD 0 0) (p.getD (m-1) 0)=false from decide_eq_false d];dsimp only;rw[if_neg Bool.false_ne_true]
    have all:Eqs r p 0 m:=λ i _ b=>by
     have a1:=Y 0 i (Nat.zero_le _) b;have a2:=Y i (m-1) (by omega) (by omega)
     omega
    have Z:=D_3 (r:=r) (p:=p) (i:=0) (j:=m) (by omega) all
    refine C_8 (O.rev _ _) (by omega) λ i j R hj=>?_
    rw[Z,Z]
    by_cases z:j<m
    ·rw[all i (Nat.zero_le _) (by omega),all j (Nat.zero_le _) z];exact qj _
    ·have:j=m:=by omega
     subst this
     by_cases w:i<j
     ·rw[all i (Nat.zero_le _) w];exact Nat.le_of_lt c
     ·rw[show i=j by omega];exact qj _
  ·have:m=1:=by omega
   subst this;refine C_8 O (by omega) λ i j R hj=>?_
   by_cases z:i=j
   ·rw[z];exact qj _
   ·rw[show i=0 by omega,show j=1 by omega];exact Nat.le_of_lt c
theorem G_7 {p:Array Nat}{k:Nat} (O:OkP n p) (hk:k<n) (h:Q_0 r p k):∀ f l q,l<=q->q<=k->q<=l+f->(∀ i,i<l->KP r p i<=KP r p k)->(∀ i,q<=i->i<k->KP r p k<KP r p i) ->
  WpT (ltR r) n (λ l=>l<=k/\(∀ i,i<l->KP r p i<=KP r p k)/\∀ i,l<=i->i<k->KP r p k<KP r p i) (kas_place p k f l q)
 |0,l,q,h1,h2,h3,h4,h5=>⟨by omega,h4,λ i a b=>h5 i (by omega) b⟩
 |f+1,l,q,h1,h2,h3,h4,h5=>by
  unfold kas_place
  split
  ·exact⟨by omega,h4,λ i a b=>h5 i (by omega) b⟩
  ·refine⟨O.lt (by omega) _,O.lt (by omega) _,?_⟩
   by_cases c:KP r p k<KP r p ((l+q) / 2)
   ·rw[show ltR r (p.getD k 0) (p.getD ((l+q) / 2) 0)=true from decide_eq_true c];dsimp only;rw[if_pos rfl]
    exact G_7 O hk h f l ((l+q) / 2) (by omega) (by omega) (by omega) h4 λ i a b=>qr c (h _ i a b)
   ·rw[show ltR r (p.getD k 0) (p.getD ((l+q) / 2) 0)=false from decide_eq_false c];dsimp only;rw[if_neg Bool.false_ne_true]
    exact G_7 O hk h f ((l+q) / 2+1) q (by omega) h2 (by omega) (λ i a=>Nat.le_trans (h i ((l+q) / 2) (by omega) (by omega)) (Nat.le_of_not_lt c)) h5
theorem aw9:∀ f (p:Array Nat) k,OkP n p->k+f=n->Q_0 r p k->WpT (ltR r) n (λ p=>OkP n p/\Q_0 r p n) (kas_bin f p k)
 |0,p,k,hp,h1,h2=>⟨hp,by rw[show n=k by omega];exact h2⟩
 |f+1,p,k,hp,h1,h2=>by
  have sz:=hp.size;refine WpT.bind (λ l h=>?_) _ (G_7 hp (by omega) h2 k 0 k (Nat.zero_le _) (qj _) (by omega) (λ i z=>absurd z (Nat.not_lt_zero _)) λ i a b=>absurd b (by omega))
  obtain⟨g1,g2,g3⟩:=h;refine aw9 f _ (k+1) (hp.bub _ _) (by omega) λ i j R hj=>?_
  have bi:=ax5 (r:=r) (p:=p) (k:=k) (d:=k-l) (by omega) (by omega) i
  have Y:=ax5 (r:=r) (p:=p) (k:=k) (d:=k-l) (by omega) (by omega) j
  rw[show k-(k-l)=l by omega] at bi Y
  rw[bi,Y]
  by_cases i1:i=l
  ·rw[if_pos i1]
   by_cases O:j=l
   ·rw[if_pos O];exact qj _
   ·rw[if_neg O,if_pos ⟨by omega,by omega⟩]
    exact Nat.le_of_lt (g3 (j-1) (by omega) (by omega))
  ·rw[if_neg i1]
   by_cases i2:l<i/\i<=k
   ·rw[if_pos i2,if_neg (by omega),if_pos ⟨by omega,by omega⟩]
    exact h2 _ _ (by omega) (by omega)
   ·rw[if_neg i2]
    by_cases O:j=l
    ·rw[if_pos O];exact g2 i (by omega)
    ·rw[if_neg O]
     by_cases Z:l<j/\j<=k
     ·rw[if_pos Z];exact h2 _ _ (by omega) (by omega)
     ·rw[if_neg Z];exact h2 _ _ R (by omega)
theorem N_5:OkP n (List.toArray (List.range n)):=⟨by simp,by simp⟩
theorem ay6 (h2:1<=n):WpT (ltR r) n (λ p=>OkP n p/\Q_0 r p n) (kas_sort n):=by
 refine WpT.bind (λ z h=>?_) _ (aq8 h2 N_5)
 obtain⟨g1,R,Y,O⟩:=h
 split
 ·rw[show max z.1 1=z.1 by omega]
  exact aw9 _ _ _ g1 (by omega) O
 ·exact⟨g1,by rw[show n=z.1 by omega];exact O⟩
end
end Fx
namespace Fx
open PySem PySem.Spec PyProof.Rows L2
noncomputable def aI3:D->Value->Prop
 |.int i,v=>∃ t,v=.int i t
 |.str a,v=>∃ t,v=.str a t
 |_,_=>False
inductive Flats:List D->List Value->Prop
 |nil:Flats [] []
 |cons {d:D}{u:Value}{ds:List D}{us:List Value} (h:aI3 d u) (r:Flats ds us):Flats (d::ds) (u::us)
theorem Flats.length {ds:List D}{us:List Value} (h:Flats ds us):ds.length=us.length:=by
 induction h with
 |nil=>rfl
 |cons _ _ O=>simp[O]
theorem O_4 (A:Around) (s:Shared) {d e:D}{u v:Value} (h:A_6 d e=true) (R:aI3 d u) (O:aI3 e v):SeqAt.EqAt A s u v (eqD d e):=by
 cases d with
 |int i =>
  cases e with
  |int j =>
   obtain⟨t,rfl⟩:=R;obtain⟨w,rfl⟩:=O;rw[show eqD (.int i) (.int j)=(i==j) by rw[eqD]]
   exact SeqAt.EqAt.int_int i t j w
  |_=>cases h
 |str a =>
  cases e with
  |str b =>
   obtain⟨t,rfl⟩:=R;obtain⟨w,rfl⟩:=O;rw[show eqD (.str a) (.str b)=(a==b) by rw[eqD]]
   exact SeqAt.EqAt.str_str a t b w
  |_=>cases h
 |_=>cases h
theorem M_0 (A:Around) (s:Shared) {d e:D}{u v:Value} (h:A_6 d e=true) (Y:aI3 d u) (R:aI3 e v) (prog:Program) (w:World) (E:Value->Shared->Prop) (Q:Value->Shared->Prop) (q:Q (.bool (ltF d e)) s) :
  wpAny (model prog w) A (richCompare .Lt u v) Q E s:=by
 cases d with
 |int i =>
  cases e with
  |int j =>
   obtain⟨t,rfl⟩:=Y;obtain⟨O,rfl⟩:=R;exact (PyProof.Rows.lt_int q:wpAny (model prog w) A (compareOp .Lt (.int i t) (.int j O)) Q E s)
  |_=>cases h
 |str a =>
  cases e with
  |str b =>
   obtain⟨t,rfl⟩:=Y;obtain⟨O,rfl⟩:=R;exact (PyProof.Rows.lt_str (by simpa [ltF] using q):wpAny (model prog w) A (compareOp .Lt (.str a t) (.str b O)) Q E s)
  |_=>cases h
 |_=>cases h
section
open PySem.SeqAt
open PySem.AutoSeq1 (wpAny_loadPart')
open PySem.MeetsSeq PySem.MeetsSeq2 PySem.MeetsSeq3
theorem G_3 (l b:Addr) (items O:Array Value) (n n2:Nat) (dd ai:Option Addr) (sl aj:Array (Option Value)) (ds es:List D) (hi:Flats ds items.toList) (hj:Flats es O.toList) (hs:i_9 ds es=true) :
  Meets (Builtin.«tuple.__lt__» ⟨[.ref l,.ref b],[]⟩)
   (λ _ R s=>s.heap.get? l=some {cls:=.type "tuple",dict:=dd,data:=.seq items n,slots:=sl} ∧ s.heap.get? b=some {cls:=.type "tuple",dict:=ai,data:=.seq O n2,slots:=aj} ∧
    R (.ok (.ret (.bool (K_7 ds es)))) s) :=
 .of_wp λ prog w A R s h=>by
  obtain⟨hp,g,d,tk,os⟩:=s;obtain⟨hl,hb,h⟩:=h;have f2:=AutoSeq1.sub_tuple_tuple;have z1:items.size=ds.length:=by rw[hi.length];simp
  have z2:O.size=es.length:=by rw[hj.length];simp
  have z3:=(r_2 hs).1
  wp_walk using wpAny_loadPart' hl,wpAny_loadPart' hb,wpAny_forIn_list _ (λ rest b s'=>b.1=none/\s'=⟨hp,g,d,tk,os⟩/\∃ (vs ws:List Value) (Z aa:List D),rest=vs.zip ws /\
   Flats Z vs/\Flats aa ws/\i_9 Z aa=true/\R (.ok (.ret (.bool (K_7 Z aa)))) ⟨hp,g,d,tk,os⟩) _
  case turn =>
   rintro ⟨y,x⟩ rest b s' ⟨ac,rfl,vs,ws,Z,aa,hz,ab,ad,Y,hR⟩;cases ab with
   |nil=>rw[List.zip_nil_left] at hz;cases hz
   |@cons dx ux ak am hd af =>
    cases ad with
    |nil=>rw[List.zip_nil_right] at hz;cases hz
    |@cons ex vx an al ae ag =>
     rw[List.zip_cons_cons] at hz;injection hz with hyx hrest
     injection hyx with hy hx
     subst hy hx;unfold i_9 at Y;rw[Bool.and_eq_true] at Y;unfold K_7 at hR;refine qb (O_4 A.in1 ⟨hp,g,d,tk,os⟩ Y.1 hd ae prog w _ _ ?_);cases hq:eqD dx ex with
     |true =>
      rw[hq,if_pos rfl] at hR
      wp_walk
      exact⟨rfl,rfl,_,_,_,_,hrest,af,ag,Y.2,hR⟩
     |false =>
      rw[hq,if_neg Bool.false_ne_true] at hR;have ah:=M_0 A.in1 ⟨hp,g,d,tk,os⟩ Y.1 hd ae prog w
      wp_walk using ah
      exact⟨_,rfl,by simpa using hR⟩
  case fin =>
   rintro ⟨b1,b2⟩ s' ⟨ac,rfl,vs,ws,Z,aa,hz,ab,ad,Y,hR⟩;simp only at ac;subst ac
   have hv:K_7 Z aa=decide (items.size<O.size):=by
    rw[decide_eq_false (by omega)]
    cases ab with
    |nil=>unfold K_7;rfl
    |cons a hv =>
     cases ad with
     |nil=>unfold K_7;rfl
     |cons c hw=>rw[List.zip_cons_cons] at hz;cases hz
   rw[hv] at hR
   wp_walk
   exact⟨_,rfl,by simpa [Builtin.Tuple.tupleCompareSizes] using hR⟩
  case h =>
   exact⟨rfl,rfl,items.toList,O.toList,ds,es,rfl,hi,hj,hs,h⟩
end
theorem Z_6 {prog:Program}{w:World}{A:Around}{E:Value->Shared->Prop}{s:Shared}{l b:Addr}{items O:Array Value}{ds es:List D}{Q:Value->Shared->Prop} (hl:IsTup s.heap l items) (hb:IsTup s.heap b O) (hi:Flats ds items.toList) (hj:Flats es O.toList) (hs:i_9 ds es=true)
  (hu:A.units<cLine) (h:Q (.bool (K_7 ds es)) s):wpAny (model prog w) A (compareOp .Lt (.ref l) (.ref b)) Q E s:=by
 obtain⟨⟨cls,dd,data,sl⟩,ho,hc,n,hd⟩:=id hl;obtain⟨⟨ad,ac,aa,ab⟩,Y,R,n2,Z⟩:=id hb;simp only at hc hd R Z;subst hc hd R Z;exact richCompare_meets_room (op:=.Lt) ⟨_,ho,rfl⟩ ⟨_,Y,rfl⟩ PySem.F.slot_tuple_lt PySem.F.entry_tuple_lt (PySem.F.args_tuple_lt_2 _ _) (G_3 l b items O n n2 dd ac sl ab ds es hi hj hs)
  ⟨ho,Y,show Value.bool (K_7 ds es)≠Value.notImplemented/\Q (.bool (K_7 ds es)) s from ⟨(λ x=>nomatch x),h⟩⟩ hu
end Fx
namespace Fx
open PySem PySem.W PySem.Spec PyProof.Rows
section
variable {prog:Program}{w:World}{A:Around}{E:Value->Shared->Prop}{s:Shared}
structure Asks (prog:Program) (w:World) (A:Around) (s:Shared) (a:Addr) (vs:List Value) (κ:SortKind) (r:Nat->Nat):Prop where
 kind:2<=vs.length->∀ h',(∀ b o,b≠a->s.heap.get? b=some o->h'.get? b=some o)->∀ Q:SortKind->Shared->Prop,Q κ {s with heap:=h'}->wpAny (model prog w) A (keyKind' vs.toArray) Q (λ _ _=>False) {s with heap:=h'}
 ask:∀ h',(∀ b o,b≠a->s.heap.get? b=some o->h'.get? b=some o)->∀ i j,i<vs.length->j<vs.length->∀ C:Bool->Shared->Prop,C (ltR r i j) {s with heap:=h'}->kas_ask prog w A κ vs i j C {s with heap:=h'}
theorem aa5 (vs:List Value):(List.range vs.length).map (λ i=>vs.getD i Value.none)=vs:=by
 refine List.ext_getElem (by simp) λ i h1 h2=>?_
 simp[h2]
theorem E_5 {a:Addr}{vs:List Value}{n:Nat}{κ:SortKind}{r:Nat → Nat}{P:PySem.Fin → Shared → Prop} (ho:s.heap.get? a=some (seqObj "list" vs.toArray n)) (ad:vs.length<64) (k:Asks prog w A s a vs κ r)
  (fin:∀ p:Array Nat,OkP vs.length p->Q_0 r p vs.length->P (.done (.ret .none)) {s with heap:=sortedHeap s.heap a vs (p.toList.map λ i=>vs.getD i Value.none).toArray}) :
  wpAny (model prog w) A (Builtin.«list.sort» ⟨[.ref a],[]⟩) P E s:=by
 rw[list_sort_plain];have ha:a<s.heap.objs.size:=qm ho;have big:(64:Nat)<=sizeLine:=by decide
 have hsz:vs.toArray.size=vs.length:=by simp
 refine qb (listItems_at ho rfl ?_);refine qb (listUpdate_at ho rfl ?_ (by omega) (Nat.zero_le _))
 obtain⟨e1,ab⟩:∃ e1,(s.heap.update a (Obj.mapSeq λ _=>#[])).get? a=some (seqObj "list" #[] e1):=⟨_,get?_update_seq ho (λ _=>#[])⟩
 refine qb (seqEpoch_at ab rfl ?_);refine qb (wpAny_newTuple ?_ (show vs.length<=_ by omega))
 refine qb (wpAny_newList ?_ (Nat.zero_le _));refine wpAny_holding ?_;have up:∀ b o,b<s.heap.objs.size → (s.heap.update a (Obj.mapSeq λ _=>#[])).get? b=some o → (((s.heap.update a (Obj.mapSeq λ _=>#[])).push (seqObj "tuple" vs.toArray 0)).push (seqObj "list" #[] 0)).get? b=some o:=λ b o hb q=>qd _ (qd _ q)
 have ac:=up a _ ha ab;have keep:∀ b o,b≠a → s.heap.get? b=some o → (((s.heap.update a (Obj.mapSeq λ _=>#[])).push (seqObj "tuple" vs.toArray 0)).push (seqObj "list" #[] 0)).get? b=some o:=λ b o hb q =>
  up b o (qm q) (by rw[Heap.get?_update_ne _ _ _ _ hb];exact q)
 show wpAny (model prog w) A _ P E {s with heap:=((s.heap.update a (Obj.mapSeq λ _=>#[])).push (seqObj "tuple" vs.toArray 0)).push (seqObj "list" #[] 0)}
 dsimp only;have Z:∀ (p:Array Nat) (st:SortSt),OkP vs.length p->Q_0 r p vs.length->(arrOf st).map (·.2)=(p.toList.map λ i=>vs.getD i Value.none).toArray->failedOf st=none->wpAny (model prog w) A (do
   let R:=(<- seqEpoch a) != e1
   Builtin.List.listUpdate (.ref a) λ _=>(arrOf st).map (·.2)
   if let some e:=failedOf st then rule "list.sort.comparison-raised";throw e
   if R then rule "list.sort.modified";raiseError "ValueError" "list modified during sort"
   ret .none) P E {s with heap:=((s.heap.update a (Obj.mapSeq λ _=>#[])).push (seqObj "tuple" vs.toArray 0)).push (seqObj "list" #[] 0)}:=λ p st op mo ar fa=>by
  refine qb (seqEpoch_at ac rfl ?_);rw[ar];have z:(p.toList.map λ i=>vs.getD i Value.none).toArray.size=vs.length:=by rw[List.size_toArray,List.length_map,Array.length_toList,op.size]
  refine qb (listUpdate_at ac rfl ?_ (Nat.zero_le _) (by rw[z];omega))
  rw[fa];simp only[bne_self_eq_false,Bool.false_eq_true,if_false];exact qc (fin p op mo)
 by_cases h2:vs.toArray.size<2
 ·rw[if_pos h2,if_pos h2]
  refine qb (qc ?_);rw[StateT.run_pure];refine qb (qc ?_);refine Z (List.toArray (List.range vs.length)) _ N_5 (λ i j ae hj=>by rw[show i=j by omega];exact qj _) ?_ rfl
  show ((vs.toArray.zip vs.toArray).map (·.2))=_;rw[show (List.toArray (List.range vs.length)).toList=List.range vs.length from rfl,aa5]
  apply Array.toList_inj.mp
  rw[Array.toList_map];simp[List.map_snd_zip]
 ·rw[if_neg h2,if_neg h2]
  refine qb (wpAny_mono (k.kind (by omega) _ keep (λ aa s'=>aa=κ ∧ s'={s with heap:=((s.heap.update a (Obj.mapSeq λ _=>#[])).push (seqObj "tuple" vs.toArray 0)).push (seqObj "list" #[] 0)}) ⟨rfl,rfl⟩) (λ aa s' hk=>?_) λ _ _ x=>x.elim)
  obtain⟨rfl,rfl⟩:=hk;refine qb (wpAny_mono (kat_run (Q:=λ Y s'=>s'={s with heap:=((s.heap.update a (Obj.mapSeq λ _=>#[])).push (seqObj "tuple" vs.toArray 0)).push (seqObj "list" #[] 0)} ∧ ∃ p:Array Nat,OkP vs.length p ∧ Q_0 r p vs.length ∧ arrOf Y=p.map (kas_item (vs.toArray.zip vs.toArray)) ∧ failedOf Y=none)
   (G:=λ p s'=>s'={s with heap:=((s.heap.update a (Obj.mapSeq λ _=>#[])).push (seqObj "tuple" vs.toArray 0)).push (seqObj "list" #[] 0)} ∧ OkP vs.length p ∧ Q_0 r p vs.length) rfl (by omega) ad (λ p Y s' _ a2 a3 a4=>⟨a4.1,p,a4.2.1,a4.2.2,a2,a3⟩)
   (WpT.run (lt:=ltR r) (n:=vs.length) (J:=λ s'=>s'={s with heap:=((s.heap.update a (Obj.mapSeq λ _=>#[])).push (seqObj "tuple" vs.toArray 0)).push (seqObj "list" #[] 0)}) (λ i j C s' hi hj O hC=>?_) (λ p s' hp O=>⟨O,hp.1,hp.2⟩) _ _ (ay6 (by omega)) rfl)) ?_ λ _ _ e=>e)
  ·subst O
   exact k.ask _ keep i j hi hj C (hC _ rfl)
  ·rintro ⟨⟨⟩,Y⟩ s' ⟨O,p,h1,h3,h4,h5⟩
   dsimp only at O h4 h5;subst O;exact Z p Y h1 h3 (kat_snds rfl h4) h5
theorem Q_3 {it:Addr}{ob:Obj}{n:Nat}{us:List Value}{κ:SortKind}{Q:Value → Shared → Prop}{r:Nat → Nat} (ho:s.heap.get? it=some ob) (hc:ob.cls=.type "list") (hd:ob.data=.seq us.toArray n) (R:us.length<64)
  (k:∀ (h1:Heap) (a:Addr),(∀ b o,s.heap.get? b=some o->h1.get? b=some o)->s.heap.get? a=none->Asks prog w A.in1.in1 {s with heap:=h1} a us κ r)
  (fin:∀ (h1 h2:Heap) (p:Array Nat) (e:Nat),OkP us.length p → Q_0 r p us.length → (∀ b o',s.heap.get? b=some o' → h1.get? b=some o') → (∀ b o',h1.get? b=some o' → h2.get? b=some o') → h2.get? h1.objs.size=some (seqObj "list" (p.toList.map λ i=>us.getD i Value.none).toArray e) → Q (.ref h1.objs.size) {s with heap:=h2}) :
  wpAny (model prog w) A (call (.builtin "sorted") [.ref it]) Q E s:=by
 refine Calls.call_function_entry kind_sorted plain_sorted entry_sorted (args_sorted1 _) ?_;unfold Builtin.«sorted»;refine qb (m:=checkCount "sorted" 1 1 _) (qc ?_);have hz:us.toArray.size<=sizeLine:=by rw[List.size_toArray,sizeLine_eq];omega
 refine qb (wpAny_collect_seq it (.inl rfl) ho hc hd (λ h1 Z=>?_) hz)
 refine qb (wpAny_newList ?_);have O:(h1.push (seqObj "list" us.toArray 0)).get? h1.objs.size=some (seqObj "list" us.toArray 0):=qk _ rfl;have Y:∀ b o,s.heap.get? b=some o → (h1.push (seqObj "list" us.toArray 0)).get? b=some o:=λ b o q=>qd _ (Z b o q)
 have new:s.heap.get? h1.objs.size=none:=by
  cases q:s.heap.get? h1.objs.size with
  |none=>rfl
  |some o=>exact absurd (qm (Z _ o q)) (Nat.lt_irrefl _)
 refine qb (wpAny_holding (wpAny_call_entry slot_list_sort ⟨_,O,rfl⟩ entry_list_sort (E_5 (s:={s with heap:=h1.push (seqObj "list" us.toArray 0)}) O R (k _ _ Y new) λ p op mo=>⟨_,rfl,?_⟩) (args_list_sort _)))
 obtain⟨e,he⟩:=sortedHeap_at (out:=(p.toList.map λ i=>us.getD i Value.none).toArray) O
 refine qc ⟨_,rfl,fin h1 _ p e op mo Z (λ b o' hb=>?_) he⟩
 have lt:b<h1.objs.size:=qm hb;show (sortedHeap (h1.push (seqObj "list" us.toArray 0)) h1.objs.size us (p.toList.map λ i=>us.getD i Value.none).toArray).get? b=some o'
 rw[sortedHeap_old (Nat.ne_of_lt lt) (by rw[size_push'];exact Nat.lt_succ_of_lt lt)]
 exact qd _ hb
end
end Fx
namespace Fx
open PySem PySem.W PySem.Spec PyProof.Rows L2
section
variable {prog:Program}{w:World}{A:Around}{E:Value->Shared->Prop}{s:Shared}{b:Bool}{Q:Bool->Shared->Prop}
theorem I_3 {p q:Value}{r:List (Value×Value)}{i:Nat}{e l:Bool}{fin:Bool} (Y:SeqAt.EqAt A s p q e) (R:∀ O:Bool->Shared->Prop,O l s->wpAny (model prog w) A (oneLt' (b&&i==0) p q) O (λ _ _=>False) s)
  (h1:e=true->KatLex prog w A b fin Q r (i+1) s) (h2:e=false->Q l s):KatLex prog w A b fin Q ((p,q)::r) i s :=
 kat_cons (Y prog w _ _ (kat_go (λ z=>kat_yes (h1 z)) λ z=>kat_no (R Q (h2 z))))
theorem Z_1 (c:Bool) {d e:D}{u v:Value} (h:A_6 d e=true) (R:aI3 d u) (O:aI3 e v) (Y:Bool->Shared->Prop) (q:Y (ltF d e) s):wpAny (model prog w) A (oneLt' c u v) Y E s:=by
 cases c with
 |false=>exact kat_one u v (M_0 A s h R O prog w E _ q)
 |true =>
  cases d with
  |int i =>
   cases e with
   |int j=>obtain⟨t,rfl⟩:=R;obtain⟨Z,rfl⟩:=O;exact oneLt_int q
   |_=>cases h
  |str a =>
   cases e with
   |str b=>obtain⟨t,rfl⟩:=R;obtain⟨Z,rfl⟩:=O;exact oneLt_str q
   |_=>cases h
  |_=>cases h
theorem C_1:∀ (ds es:List D) {us vs:List Value}{i:Nat},i_9 ds es=true->Flats ds us->Flats es vs->Q (K_7 ds es) s->KatLex prog w A b false Q (us.zip vs) i s
 |[],[],_,_,i,h,f1,f2,q=>by
  cases f1;cases f2;unfold K_7 at q;exact kat_nil q
 |[],_::_,_,_,i,h,_,_,q=>by cases h
 |_::_,[],_,_,i,h,_,_,q=>by cases h
 |d::ds,e::es,_,_,i,h,f1,f2,q=>by
  cases f1 with
  |cons a r =>
   cases f2 with
   |cons O Y =>
    unfold i_9 at h;rw[Bool.and_eq_true] at h;unfold K_7 at q;rw[List.zip_cons_cons];refine I_3 (O_4 A s h.1 a O) (λ R=>Z_1 _ h.1 a O R) (λ z=>?_) λ z=>?_
    ·rw[if_pos z] at q;exact C_1 ds es h.2 r Y q
    ·rw[if_neg (by rw[z];exact Bool.false_ne_true)] at q;exact q
end
theorem ax1:∀ {a c:Ky}{x y:Ky},a.length=c.length->(a++x<c++y↔a<c\/(a=c/\x<y))
 |[],[],x,y,_=>by simp
 |[],_::_,_,_,h=>by cases h
 |_::_,[],_,_,h=>by cases h
 |k::a,l::c,x,y,h=>by
  rw[List.cons_append,List.cons_append,List.cons_lt_cons_iff,List.cons_lt_cons_iff,ax1 (by simpa using h)]
  constructor
  ·rintro (z | ⟨rfl,z | ⟨rfl,z⟩⟩)
   ·exact .inl (.inl z)
   ·exact .inl (.inr ⟨rfl,z⟩)
   ·exact .inr ⟨rfl,z⟩
  ·rintro ((z | ⟨rfl,z⟩) | ⟨z,O⟩)
   ·exact .inl z
   ·exact .inr ⟨rfl,.inl z⟩
   ·injection z with z3 z4;subst z3 z4;exact .inr ⟨rfl,.inr ⟨rfl,O⟩⟩
theorem s_6 (xs:List D):fK (.tup xs)=fKs xs:=by rw[fK]
theorem ai0:fKs []=[]:=by rw[fKs]
theorem z_9:∀ {ds es:List D},i_9 ds es=true->(v_7 ds es=true↔ds=es)
 |[],[],_=>by simp
 |[],_::_,h=>by cases h
 |_::_,[],h=>by cases h
 |d::r,e::t,h=>by
  unfold i_9 at h;rw[Bool.and_eq_true] at h;have q:=(z_5 h.1).1;have O:=z_9 h.2;rw[show v_7 (d::r) (e::t)=(eqD d e&&v_7 r t) by simp[v_7],Bool.and_eq_true,q,O]
  simp
theorem aK6 {O R Z Y:List D} (h1:i_9 O Z=true) (h2:i_9 R Y=true):(if eqD (.tup O) (.tup Z)=true then (if eqD (.tup R) (.tup Y)=true then false else K_7 R Y) else K_7 O Z)=decide (fK (.tup [.tup O,.tup R])<fK (.tup [.tup Z,.tup Y])):=by
 have e:∀ x y:List D,fK (.tup [.tup x,.tup y])=fKs x++fKs y:=λ x y=>by rw[s_6,m_3,m_3,s_6,s_6,ai0,List.append_nil]
 rw[e,e,I_4 h1,I_4 h2,C_5,C_5];have l:=ax1 (a:=fKs O) (c:=fKs Z) (x:=fKs R) (y:=fKs Y) (r_2 h1).2
 by_cases z:v_7 O Z=true
 ·rw[if_pos z]
  have z':=(z_9 h1).mp z;subst z'
  have l2:(fKs O++fKs R<fKs O++fKs Y)↔fKs R<fKs Y:=by
   rw[l];exact⟨λ y=>y.elim (λ y=>absurd y (List.lt_irrefl _)) (·.2),λ y=>.inr ⟨rfl,y⟩⟩
  by_cases z2:v_7 R Y=true
  ·rw[if_pos z2]
   have aa:=(z_9 h2).mp z2;subst aa;exact (decide_eq_false (List.lt_irrefl _)).symm
  ·rw[if_neg z2]
   exact decide_eq_decide.mpr l2.symm
 ·rw[if_neg z]
  refine decide_eq_decide.mpr ?_;rw[l];exact⟨.inl,λ y=>y.elim id λ y=>absurd ((z_9 h1).mpr ((o_2 h1).mp y.1)) z⟩
theorem Y_8 {d:D} (h:r3 d=true):∃ i a j,d=.tup [.int i,.str a,.int j]:=by
 unfold r3 at h
 split at h
 ·exact⟨_,_,_,rfl⟩
 ·cases h
theorem M_1 {d:D} (h:r22 d=true):∃ a i j k,d=.tup [.tup [.str a,.int i],.tup [.int j,.int k]]:=by
 unfold r22 at h
 split at h
 ·exact⟨_,_,_,_,rfl⟩
 ·cases h
section
variable {X:Cx}{pins:List (Addr×Obj)}{σ:L2.St}{H:Hp}{s:Shared}
theorem u_9 {K:Frag}:∀ {ds:List D}{vs:List V}{us:List Value},(∀ d∈ds,∃ e,A_6 d e=true)->Reps K H ds vs->Vals vs us->Flats ds us
 |[],vs,us,_,r,v=>by unfold Reps at r;subst r;cases v;exact .nil
 |d::ds,vs,us,h,r,v=>by
  unfold Reps at r;obtain⟨x,vr,rfl,O,r2⟩:=r;cases v with
  |cons Y Z =>
   refine .cons ?_ (u_9 (λ e R=>h e (qh _ R)) r2 Z)
   obtain⟨e,R⟩:=h d qg;cases d with
   |int i=>unfold Rep at O;subst O;exact Y
   |str a=>unfold Rep at O;subst O;exact Y
   |_=>cases e <;> cases R
theorem x_3 (I:Inv X pins σ H s) {ds:List D}{v:V}{u:Value} (r:Rep X.K H (.tup ds) v) (ru:RelV v u):∃ a R O,u=.ref a/\IsTup s.heap a (List.toArray O)/\Reps X.K H ds R/\Vals R O:=by
 unfold Rep at r;obtain⟨a,R,rfl,Z,rr⟩:=r;obtain⟨O,Y,tp,_⟩:=I.tuple Z;exact⟨a,R,O,ru,tp,rr,Y⟩
theorem r_3 {K:Frag}:∀ {ds:List D}{vs:List V}{us:List Value}{i:Nat},Reps K H ds vs->Vals vs us->i<ds.length->∃ v,Rep K H (ds.getD i .non) v/\RelV v (us.getD i Value.none)
 |[],_,_,_,_,_,h=>by cases h
 |d::ds,vs,us,i,r,v,h=>by
  unfold Reps at r;obtain⟨x,vr,rfl,R,Z⟩:=r;cases v with
  |cons Y O =>
   cases i with
   |zero=>exact⟨x,R,Y⟩
   |succ i=>exact r_3 (i:=i) Z O (by simpa using h)
theorem L_7 {K:Frag}{ds:List D}{vs:List V}{us:List Value} (r:Reps K H ds vs) (v:Vals vs us):∀ {is:List Nat},(∀ i∈is,i<ds.length)->∃ O,Reps K H (is.map λ i=>ds.getD i .non) O/\Vals O (is.map λ i=>us.getD i Value.none)
 |[],_=>⟨[],by unfold Reps;rfl,.nil⟩
 |i::is,h=>by
  obtain⟨x,Z,r2⟩:=r_3 r v (h i qg);obtain⟨O,r3,R⟩:=L_7 r v (is:=is) λ j Y=>h j (qh _ Y)
  exact⟨x::O,Reps.cons Z r3,.cons r2 R⟩
end
section
variable {X:Cx}{pins:List (Addr×Obj)}{σ:L2.St}{H:Hp}{s:Shared}
theorem bw9 {A:Around}{b:Bool}{Q:Bool->Shared->Prop}{E:Value->Shared->Prop} (I:Inv X pins σ H s) {d e:D} (R:r3 d=true) (he:r3 e=true) {x y:V}{u v:Value} (r1:Rep X.K H d x) (v1:RelV x u) (r2:Rep X.K H e y) (v2:RelV y v)
  (q:Q (decide (fK d<fK e)) s):wpAny (model X.prog X.w) A (keyLt' (tuples' b) u v) Q E s:=by
 obtain⟨i,a,j,rfl⟩:=Y_8 R;obtain⟨i',a',j',rfl⟩:=Y_8 he;obtain⟨p1,ws,Y,rfl,⟨o,ho,hc,n,aa⟩,rr,rv⟩:=x_3 I r1 v1;obtain⟨p2,ad,its',rfl,⟨o',ab,ae,n',O⟩,Z,ac⟩:=x_3 I r2 v2;have sm:i_9 [.int i,.str a,.int j] [.int i',.str a',.int j']=true:=rfl
 have fl:∀ (i:Int) (a:Str) (j:Int),∀ d∈[D.int i,.str a,.int j],∃ e,A_6 d e=true:=λ i a j d R=>by
  simp only[List.mem_cons,List.not_mem_nil,or_false] at R
  rcases R with rfl | rfl | rfl
  ·exact⟨.int 0,rfl⟩
  ·exact⟨.str a,rfl⟩
  ·exact⟨.int 0,rfl⟩
 have f1:=u_9 (fl i a j) rr rv;have f2:=u_9 (fl i' a' j') Z ac;have l1:=f1.length;have l2:=f2.length;rw[s_6,s_6,<- I_4 sm] at q;refine kat_lt ho aa ab O ?_;rw[show decide ((List.toArray Y).size<(List.toArray its').size)=false from decide_eq_false (by rw[List.size_toArray,List.size_toArray,<- l1,<- l2];exact Nat.lt_irrefl _)]
 exact C_1 _ _ sm f1 f2 q
theorem bh7 {A:Around}{Q:Bool->Shared->Prop}{E:Value->Shared->Prop} (hA:A.units+8<cLine) (I:Inv X pins σ H s) {d e:D} (Z:r22 d=true) (he:r22 e=true) {x y:V}{u v:Value} (r1:Rep X.K H d x) (v1:RelV x u) (r2:Rep X.K H e y) (v2:RelV y v)
  (q:Q (decide (fK d<fK e)) s):wpAny (model X.prog X.w) A (keyLt' (tuples' false) u v) Q E s:=by
 obtain⟨a,i,j,k,rfl⟩:=M_1 Z;obtain⟨a',i',j',k',rfl⟩:=M_1 he;obtain⟨p1,ws,ah,rfl,⟨o,ho,hc,n,ac⟩,Y,rv⟩:=x_3 I r1 v1;obtain⟨p2,ag,its',rfl,⟨o',ad,ai,n',ab⟩,O,R⟩:=x_3 I r2 v2;have s1:i_9 [.str a,.int i] [.str a',.int i']=true:=rfl;have s2:i_9 [.int j,.int k] [.int j',.int k']=true:=rfl
 have fl:∀ (a:Str) (i:Int),∀ d∈[D.str a,.int i],∃ e,A_6 d e=true:=λ a i d Z=>by
  simp only[List.mem_cons,List.not_mem_nil,or_false] at Z
  rcases Z with rfl | rfl
  ·exact⟨.str a,rfl⟩
  ·exact⟨.int 0,rfl⟩
 have fm:∀ (j k:Int),∀ d∈[D.int j,.int k],∃ e,A_6 d e=true:=λ j k d Z=>by
  simp only[List.mem_cons,List.not_mem_nil,or_false] at Z
  rcases Z with rfl | rfl
  ·exact⟨.int 0,rfl⟩
  ·exact⟨.int 0,rfl⟩
 rw[<- aK6 s1 s2] at q;unfold Reps at Y O;obtain⟨x1,t1,rfl,q1,Y⟩:=Y;obtain⟨y1,t2,rfl,q2,O⟩:=O;unfold Reps at Y O;obtain⟨x2,t3,rfl,q3,Y⟩:=Y;obtain⟨y2,t4,rfl,q4,O⟩:=O;unfold Reps at Y O;subst Y O;cases rv with
 |cons c1 rv =>
  cases rv with
  |cons c2 rv =>
   cases rv;cases R with
   |cons c3 R =>
    cases R with
    |cons c4 R =>
     cases R
     rename_i u1 u2 w1 w2
     have aa:=W_4 I 3;have E1:SeqAt.EqAt A s u1 w1 (eqD (.tup [.str a,.int i]) (.tup [.str a',.int i'])):=aa A _ _ x1 y1 u1 w1 (by simp) (by simp) (by simp) (by omega) q1 c1 q2 c3
     have E2:SeqAt.EqAt A s u2 w2 (eqD (.tup [.int j,.int k]) (.tup [.int j',.int k'])):=aa A _ _ x2 y2 u2 w2 (by simp) (by simp) (by simp) (by omega) q3 c2 q4 c4
     have T:∀ {ds es:List D}{x y:V}{u v:Value},i_9 ds es=true->(∀ d∈ds,∃ e,A_6 d e=true)->(∀ d∈es,∃ e,A_6 d e=true)->Rep X.K H (.tup ds) x->RelV x u->Rep X.K H (.tup es) y->RelV y v->∀ Q':Bool->Shared->Prop,Q' (K_7 ds es) s->wpAny (model X.prog X.w) A (oneLt' false u v) Q' (λ _ _=>False) s:=λ {ds es x y u v} sm g1 g2 ra rb rc rd Q' q'=>by
      obtain⟨a1,_,i1,rfl,af,m1,m2⟩:=x_3 I ra rb;obtain⟨a2,_,i2,rfl,ae,m3,m4⟩:=x_3 I rc rd;exact kat_one _ _ (Z_6 af ae (u_9 g1 m1 m2) (u_9 g2 m3 m4) sm (by omega) q')
     refine kat_lt ho ac ad ab (I_3 E1 (λ Q'=>T s1 (fl a i) (fl a' i') q1 c1 q2 c3 Q') (λ z=>I_3 E2 (λ Q'=>T s2 (fm j k) (fm j' k') q3 c2 q4 c4 Q') (λ z2=>kat_nil ?_) λ z2=>?_) λ z=>?_)
     ·rw[if_pos z,if_pos z2] at q;exact q
     ·rw[if_pos z,if_neg (by rw[z2];exact Bool.false_ne_true)] at q;exact q
     ·rw[if_neg (by rw[z];exact Bool.false_ne_true)] at q;exact q
theorem ah8 {T:Value} (I:Inv X pins σ H s):∀ {ds:List D}{vs:List V}{us:List Value},(∀ d∈ds,∃ e r,d=.tup (e::r)/\∀ (x:V) (u:Value),Rep X.K H e x->RelV x u->Looks (model X.prog X.w) s.heap (typeOf u) T)->Reps X.K H ds vs->Vals vs us ->
  ∃ fs:List Value,KatTups s.heap us fs/\fs.length=ds.length/\∀ v∈fs,Looks (model X.prog X.w) s.heap (typeOf v) T
 |[],vs,us,_,r,v=>by unfold Reps at r;subst r;cases v;exact⟨[],.nil,rfl,λ _ h=>by cases h⟩
 |d::ds,vs,us,h,r,v=>by
  unfold Reps at r;obtain⟨x,vr,rfl,r1,r2⟩:=r;cases v with
  |cons rx Y =>
   obtain⟨fs,k1,k2,k3⟩:=ah8 I (λ e he=>h e (qh _ he)) r2 Y
   obtain⟨e,rr,rfl,hT⟩:=h d qg;obtain⟨a,ws,aa,rfl,⟨o,ho,hc,n,Z⟩,r3,v3⟩:=x_3 I r1 rx;unfold Reps at r3;obtain⟨x1,wr,rfl,r4,_⟩:=r3;cases v3 with
   |@cons _ u1 _ l1 R ab =>
    refine⟨u1::fs,.cons ho hc Z (by simp) k1,by simp[k2],λ z O=>?_⟩
    rcases qv O with rfl | O
    ·exact hT _ _ r4 R
    ·exact k3 z O
theorem af3 {M:Model}{h:Heap}{i:Int}{t:Tok}:Looks M h (typeOf (.int i t)) (.type "int"):=.now
theorem af2 {M:Model}{h:Heap}{a:Addr}{O:Array Value} (x:IsTup h a O):Looks M h (typeOf (.ref a)) (.type "tuple"):=by
 obtain⟨o,R,Y,_⟩:=x;rw[<- Y];exact (Looks.ld R).andThen .now
noncomputable def aN5 (K:Frag):List V->Hp->VK->Prop:=λ xs H Q=>∃ p ds vs H0,xs=[.ref p]/\SqL K H p vs/\Same H0 H/\Reps K H0 ds vs/\ds.length<64/\(ds.all r3=true\/ds.all r22=true)/\∀ l O,H l=none->Reps K H0 (j_5 ds) O->Q (.ref l) (upd H l (.lst O))
theorem aN7 {a b:D} (R:r3 a=true) (hb:r3 b=true) (h:fK a=fK b):a=b:=by
 obtain⟨i,x,j,rfl⟩:=Y_8 R;obtain⟨O,Y,Z,rfl⟩:=Y_8 hb;rw[s_6,s_6] at h;rw[(o_2 (ds:=[.int i,.str x,.int j]) (es:=[.int O,.str Y,.int Z]) rfl).mp h]
theorem az8 {a b:D} (Y:r22 a=true) (hb:r22 b=true) (h:fK a=fK b):a=b:=by
 obtain⟨x,i,j,k,rfl⟩:=M_1 Y;obtain⟨R,O,j',Z,rfl⟩:=M_1 hb;have e:∀ x y:List D,fK (.tup [.tup x,.tup y])=fKs x++fKs y:=λ x y=>by rw[s_6,m_3,m_3,s_6,s_6,ai0,List.append_nil]
 rw[e,e] at h;obtain⟨h1,h2⟩:=List.append_inj h (r_2 (ds:=[.str x,.int i]) (es:=[.str R,.int O]) rfl).2;rw[(o_2 (ds:=[.str x,.int i]) (es:=[.str R,.int O]) rfl).mp h1,(o_2 (ds:=[.int j,.int k]) (es:=[.int j',.int Z]) rfl).mp h2]
theorem F_9 (hu:X.A.units+64<cLine):CallR X (.builtin "sorted") (aN5 X.K):=by
 intro pins s σ H xs us Q I r h;obtain⟨p,ds,vs,H0,rfl,sq,sm,aa,af,O,q⟩:=h;have rp:Reps X.K H ds vs:=Reps.mono sm _ aa;obtain⟨u,rfl,ru⟩:=A_4 r;cases ru;obtain⟨Z,rv,⟨ob,n,h1,h2,h3,h4⟩,_⟩:=I.list sq;have len:Z.length=ds.length:=by rw[<- rv.length,<- rp.length]
 have ac:X.A.in1.in1.units+8<cLine:=by
  have e:X.A.in1.in1.units<=X.A.units+2:=by simp[Around.in1,Around.units]
  omega
 have inj:∀ a b,a∈ds->b∈ds->fK a=fK b->a=b:=λ a b ha hb e=>by
  rcases O with O | O
  ·exact aN7 (List.all_eq_true.mp O a ha) (List.all_eq_true.mp O b hb) e
  ·exact az8 (List.all_eq_true.mp O a ha) (List.all_eq_true.mp O b hb) e
 have mem:∀ i,i<ds.length->ds.getD i .non∈ds:=λ i hi=>by
  rw[List.getD_eq_getElem?_getD,List.getElem?_eq_getElem hi];exact List.getElem_mem hi
 obtain⟨κ,kd,ak⟩:∃ κ:SortKind,(∀ (pins:List (Addr×Obj)) (s:Shared),Inv X pins σ H s->2<=Z.length->∀ Q:SortKind->Shared->Prop,Q κ s->wpAny (model X.prog X.w) X.A.in1.in1 (keyKind' Z.toArray) Q (λ _ _=>False) s) /\
   ∀ (pins:List (Addr×Obj)) (s:Shared),Inv X pins σ H s->∀ i j,i<ds.length->j<ds.length->∀ Q:Bool->Shared->Prop,Q (decide (fK (ds.getD i .non)<fK (ds.getD j .non))) s->kas_ask X.prog X.w X.A.in1.in1 κ Z i j Q s:=by
  rcases O with O | O
  ·refine⟨tuples' (Value.type "int" != Value.type "tuple"),λ pins s I' l2 Q q=>?_,λ pins s I' i j hi hj Q q=>?_⟩
   ·obtain⟨fs,k1,k2,k3⟩:=ah8 (T:=.type "int") I' (λ d hd=>by
     obtain⟨i,a,j,rfl⟩:=Y_8 (List.all_eq_true.mp O d hd);refine⟨_,_,rfl,λ x u rx ru=>?_⟩
     unfold Rep at rx;subst rx;obtain⟨t,rfl⟩:=ru;exact af3) rp rv
    exact kat_kind k1 (by omega) k3 rfl q
   ·obtain⟨x,rx,ux⟩:=r_3 rp rv hi
    obtain⟨y,ry,uy⟩:=r_3 rp rv hj;exact bw9 I' (List.all_eq_true.mp O _ (mem i hi)) (List.all_eq_true.mp O _ (mem j hj)) rx ux ry uy q
  ·refine⟨tuples' (Value.type "tuple" != Value.type "tuple"),λ pins s I' l2 Q q=>?_,λ pins s I' i j hi hj Q q=>?_⟩
   ·obtain⟨fs,k1,k2,k3⟩:=ah8 (T:=.type "tuple") I' (λ d hd=>by
     obtain⟨a,i,j,k,rfl⟩:=M_1 (List.all_eq_true.mp O d hd);refine⟨_,_,rfl,λ x u rx ru=>?_⟩
     obtain⟨_,_,_,rfl,tp,_⟩:=x_3 I' rx ru;exact af2 tp) rp rv
    exact kat_kind k1 (by omega) k3 rfl q
   ·obtain⟨x,rx,ux⟩:=r_3 rp rv hi
    obtain⟨y,ry,uy⟩:=r_3 rp rv hj;exact bh7 ac I' (List.all_eq_true.mp O _ (mem i hi)) (List.all_eq_true.mp O _ (mem j hj)) rx ux ry uy q
 refine Q_3 (κ:=κ) (r:=ad4 ds.length λ i=>fK (ds.getD i .non)) h1 h2 h4 (by omega) (λ g a kp na=>?_) λ g1 g2 Y e op mo k1 k2 ab=>?_
 ·have up:∀ g':Heap,(∀ b o,b≠a->g.get? b=some o->g'.get? b=some o)->∀ b o,s.heap.get? b=some o->g'.get? b=some o:=λ g' k b o z=>k b o (λ y=>by rw[y,na] at z;cases z) (kp b o z)
  refine⟨λ l2 g' k Q q=>kd pins _ (I.kept (t':=s.toks) (up g' k)) l2 Q q,λ g' k i j hi hj C q=>ak pins _ (I.kept (t':=s.toks) (up g' k)) i j (by omega) (by omega) C ?_⟩
  have ri:=U_4 (n:=ds.length) (key:=λ i=>fK (ds.getD i .non)) (i:=i) (j:=j) (by omega)
  rw[<- decide_eq_decide.mpr ri];exact q
 ·have I1:Inv X pins σ H {s with heap:=g1}:=I.kept (t':=s.toks) k1
  rw[len] at op mo;have R:∀ i∈Y.toList,i<ds.length:=λ i hi=>List.mem_range.mp (op.perm.mem_iff.mp hi)
  obtain⟨ws,w1,w2⟩:=L_7 aa rv R
  have srt:(Y.toList.map λ i=>ds.getD i .non)=j_5 ds:=by
   refine E_9 inj ?_ ?_
   ·have e1:=op.perm.map λ i=>ds.getD i .non
    have e2:(List.range ds.length).map (λ i=>ds.getD i .non)=ds:=by
     refine List.ext_getElem (by simp) λ i h1 h2=>?_
     simp[h2]
    rw[e2] at e1;exact e1
   ·rw[List.pairwise_map,List.pairwise_iff_getElem]
    intro i j hi hj ad;have ae:Y.toList.length=ds.length:=by rw[Array.length_toList,op.size]
    have m1:=mo i j (Nat.le_of_lt ad) (by omega)
    have gi:Y.getD i 0=Y.toList[i]:=by
     rw[Array.getD_eq_getD_getElem?,<- Array.getElem?_toList,List.getElem?_eq_getElem hi];rfl
    have gj:Y.getD j 0=Y.toList[j]:=by
     rw[Array.getD_eq_getD_getElem?,<- Array.getElem?_toList,List.getElem?_eq_getElem hj];rfl
    unfold KP at m1;rw[gi,gj] at m1;refine decide_eq_false λ z=>?_
    have:=(U_4 (n:=ds.length) (key:=λ i=>fK (ds.getD i .non)) (i:=Y.toList[j]) (j:=Y.toList[i]) (R _ (List.getElem_mem hj))).mpr z
    omega
  rw[srt] at w1
  have hz:ws.length<=sizeLine:=by
   have:=w1.length;rw[(l_3 ds).length_eq] at this;have big:(64:Nat)<=sizeLine:=by decide
   omega
  exact⟨.ref g1.objs.size,_,I1.laid (t':=s.toks) (o:=.lst ws) k2 (qj _) ⟨hz,_,e,w2,ab⟩,rfl,q _ _ (I1.hok.fresh (qj _)) w1⟩
theorem v_3 (hu:X.A.units+64<cLine):BOk X (.builtin "sorted") n_9:=⟨_,F_9 hu,λ c H0 H ρ σ ds d vs Q R r e q=>by
 unfold n_9 at e
 split at e
 ·rename_i xs
  obtain⟨⟨Y,sh⟩,rfl⟩:=ifs e;obtain⟨v,rfl,Z⟩:=Reps.v1 r;unfold Rep at Z;obtain⟨p,ws,rfl,sq,t⟩:=Z;refine⟨p,xs,ws,H0,rfl,Same.seq R.same sq,R.same,t,Y,sh,λ l O hl r'=>?_⟩
  have S:=Step.alloc (o:=.lst O) R.same hl;refine q _ _ _ S.s0 (R.after S) ?_;unfold Rep;exact⟨l,O,rfl,.inl (.inl a_9),Reps.mono S.s0 _ r'⟩
 ·cases e⟩
end
end Fx
namespace Fx
open PySem PySem.W PyProof.Rows
structure Cmp (prog:Program) (w:World) (A:Around) (s:Shared) (κ:SortKind) (rk:Keyed->Nat) (M:Keyed->Prop):Prop where
 ask:∀ x y,M x->M y->∀ Q:Bool->Shared->Prop,Q (decide (rk x<rk y)) s->wpAny (model prog w) A (keyLt' κ x.1 y.1) Q (λ _ _=>False) s
structure Gm (le:Keyed->Keyed->Prop) (T out P Q:List Keyed):Prop where
 perm:(out++P++Q).Perm T
 so:out.Pairwise le
 bp:∀ x∈out,∀ y∈P,le x y
 bq:∀ x∈out,∀ y∈Q,le x y
 sp:P.Pairwise le
 sq:Q.Pairwise le
noncomputable def leR (rk:Keyed->Nat) (x y:Keyed):Prop:=rk x<=rk y
noncomputable def Rk (rk:Keyed->Nat) (xs:Array Keyed) (i:Nat):Nat:=match xs[i]? with
 |some x=>rk x
 |none=>0
theorem aX6 {rk:Keyed->Nat}{xs ys:Array Keyed}{i j:Nat} (h:xs[i]?=ys[j]?):Rk rk xs i=Rk rk ys j:=by unfold Rk;rw[h]
noncomputable def Kp (lo:Nat) (a xs:Array Keyed):Prop:=xs.Perm a/\∀ i,i<lo->xs[i]?=a[i]?
theorem Kp.size {lo:Nat}{a xs:Array Keyed} (h:Kp lo a xs):xs.size=a.size:=h.1.size_eq
noncomputable def UpO (rk:Keyed->Nat) (xs:Array Keyed) (lo m:Nat):Prop:=∀ i j,i<=j->j<m->Rk rk xs (lo+i)<=Rk rk xs (lo+j)
section
variable {prog:Program}{w:World}{A:Around}{E:Value->Shared->Prop}{s:Shared}{κ:SortKind}{rk:Keyed->Nat}{M:Keyed->Prop}
structure Gap (rk:Keyed->Nat) (xs:Array Keyed) (lo k l r:Nat):Prop where
 ord:l<=r/\r<=k
 below:∀ i<l,Rk rk xs (lo+i)<=Rk rk xs (lo+k)
 above:∀ i<k,r<=i->Rk rk xs (lo+k)<Rk rk xs (lo+i)
theorem Gap.all {xs:Array Keyed}{lo k:Nat}:Gap rk xs lo k 0 k:=⟨⟨Nat.zero_le _,qj _⟩,λ i z=>absurd z (Nat.not_lt_zero i),λ i z y=>absurd (qr z y) (Nat.lt_irrefl _)⟩
end
noncomputable def bj0:List (List Keyed×Nat)->Nat->List (Nat×Nat×Nat)
 |[],_=>[]
 |r::t,o=>(o,r.1.length,r.2)::bj0 t (o+r.1.length)
noncomputable def be0 (O:List (List Keyed×Nat)):List Keyed:=(O.map (·.1)).flatten
structure RunsOk (rk:Keyed->Nat) (κ:SortKind) (T:List Keyed) (post:List Keyed) (rs:List (List Keyed×Nat)) (st:SortSt):Prop where
 kind:kindOf st=κ
 fail:failedOf st=none
 pend:(pendingOf st).toList=bj0 rs 0
 arr:(arrOf st).toList=be0 rs++post
 perm:(arrOf st).toList.Perm T
 ne:∀ r∈rs,r.1≠[]
 so:∀ r∈rs,r.1.Pairwise (leR rk)
end Fx
namespace Fx
open PySem PySem.W PySem.Spec PyProof.Rows
end Fx
namespace Fx
open PySem PySem.W PySem.Spec PyProof.Rows L2
end Fx
namespace Fx
open PySem PySem.Spec PyProof.Rows L2
open Sem (wp)
section
variable {prog:Program}{w:World}{A:Around}{E:Value->Shared->Prop}{s:Shared}
structure Nx (prog:Program) (w:World) (i:Addr) (fp:List Addr) (get:Nat->Option Value) (P:Nat->Heap->Prop):Prop where
 mem:i∈fp
 keep:∀ k h h',P k h->(∀ b∈fp,∀ o,h.get? b=some o->h'.get? b=some o)->P k h'
 there:∀ k h,P k h->∃ o vs,h.get? i=some o/\o.data=.fields vs
 draw:∀ (A:Around) (E:Value->Shared->Prop) (s:Shared) (Q:Value->Shared->Prop) (k:Nat) (x:Value),P k s.heap->get k=some x->(∀ h',P (k+1) h'->Heap.SameBut i s.heap h'->Q x {s with heap:=h'}) ->
  wpAny (model prog w) A (Builtin.SmallTypes.nextOf (.ref i)) Q E s
 over:∀ (A:Around) (E:Value->Shared->Prop) (s:Shared) (Q:Value->Shared->Prop) (k:Nat),A.handled=none->P k s.heap->get k=none ->
  (∀ h' e,Heap.ExtBut i s.heap h' → (∃ o,h'.get? e=some o ∧ o.cls=.type "StopIteration") → E (.ref e) {s with heap:=h'}) → wpAny (model prog w) A (Builtin.SmallTypes.nextOf (.ref i)) Q E s
end
abbrev zO (O:Value) (R:Bool) (TI TO:Addr):Obj:={cls:=.type "zip",dict:=none,data:=.fields #[O,.bool R,.bool false,.ref TI,.ref TO],slots:=#[]}
structure Zs (z TI TO i1 i2:Addr) (P1 P2:Nat->Heap->Prop) (k1 k2:Nat) (f0:Value) (f1:Bool) (h:Heap):Prop where
 hz:h.get? z=some (zO f0 f1 TI TO)
 ti:IsPair h TI (.ref i1) (.ref i2)
 to:∃ a b,IsPair h TO a b
 p1:P1 k1 h
 p2:P2 k2 h
structure Za (z TI TO i1 i2:Addr) (fp1 fp2:List Addr):Prop where
 TIz:TI≠z
 TOz:TO≠z
 TITO:TI≠TO
 TI1:TI≠i1
 TI2:TI≠i2
 f1:∀ b∈fp1,b≠z/\b≠TO/\b≠i2
 f2:∀ b∈fp2,b≠z/\b≠TO/\b≠i1
end Fx
namespace Fx
open PySem PySem.Spec
section
variable {P:Program}{w:World}{A:Around}{E:Value->Shared->Prop}{s:Shared}{it a:Addr}
structure SObj (h:Heap) (a:Addr) (es:Array (Int×Value)) (ep:Nat) (t:SetTable):Prop where
 at_:∃ o,h.get? a=some o/\o.ExactSet/\o.data=.set es ep t
 fits:t.fits es.size=true
theorem SObj.keep {h h':Heap}{es:Array (Int×Value)}{O:Nat}{t:SetTable} (q:SObj h a es O t) (k:∀ o,h.get? a=some o->h'.get? a=some o):SObj h' a es O t:=by
 obtain⟨⟨o,h1,h2⟩,f⟩:=q;exact⟨⟨o,k o h1,h2⟩,f⟩
end
end Fx
namespace Fx
open PySem PySem.Spec PyProof.Rows L2
structure Coll (X:Cx) (J:It) (fp:List Addr) (it:Addr) (tn:Nat->Heap->Prop):Prop where
 obj:∀ i h,tn i h->∀ b∈fp,b<h.objs.size
 keep:∀ i h h' (S:Addr),tn i h → S∉fp → (∀ o,h.get? S=some o → o.cls=.type "list") → (∀ b o,b≠S → h.get? b=some o → h'.get? b=some o) → tn i h'
 item:∀ (A:Around) (i:Nat) (pins:List (Addr×Obj)) (s:Shared) (σ:L2.St) (H:Hp) (E:Value->Shared->Prop),A.handled=none->Inv X pins σ H s->(∀ b∈fp,X_9 X pins H b)->tn i s.heap->J.go i H ->
  wpAny (model X.prog X.w) A (pyNext (.ref it)) (λ r s1=>∃ u x H',r=some u/\Inv X pins σ H' s1/\RelV x u/\J.yld i H x H'/\tn (i+1) s1.heap/\(∀ b,s.heap.objs.size<=b\/H b≠none\/H' b=none)/\∀ b o,b∉fp->s.heap.get? b=some o->s1.heap.get? b=some o) E s
 done:∀ (A:Around) (i:Nat) (pins:List (Addr×Obj)) (s:Shared) (σ:L2.St) (H:Hp) (E:Value->Shared->Prop),A.handled=none->Inv X pins σ H s->(∀ b∈fp,X_9 X pins H b)->tn i s.heap->J.stop i H ->
  wpAny (model X.prog X.w) A (pyNext (.ref it)) (λ r s1=>r=none/\Inv X pins σ H s1/\∀ b o,b∉fp->s.heap.get? b=some o->s1.heap.get? b=some o) E s
end Fx
namespace L2
open PySem PySem.Spec PyProof.Rows
end L2
namespace Fx
open PySem PySem.Spec PyProof.Rows L2
noncomputable def SqB (T:Bool) (K:Frag) (H:Hp) (a:Addr) (xs:List V):Prop:=if T=true then SqT K H a xs else SqL K H a xs
noncomputable def IterB (T:Bool) (h:Heap) (i a:Addr) (k:Nat):Prop:=if T=true then IsTupIter h i a k else h.IsListIter i a k
theorem SqB.inj {T:Bool}{X:Cx}{pins:List (Addr×Obj)}{σ:L2.St}{H:Hp}{s:Shared}{a:Addr}{xs ys:List V} (I:Inv X pins σ H s) (h:SqB T X.K H a xs) (h':SqB T X.K H a ys):xs=ys:=by
 cases T with
 |true=>exact I.tuple_inj h h'
 |false=>exact I.list_inj h h'
theorem SqB.same {T:Bool}{K:Frag}{H H':Hp}{a:Addr}{xs:List V} (s:Same H H') (h:SqB T K H a xs):SqB T K H' a xs:=by
 cases T with
 |true=>exact Same.seqT s h
 |false=>exact Same.seq s h
theorem IterB.at {T:Bool}{h h':Heap}{i a:Addr}{k:Nat} (x:IterB T h i a k) (q:∀ o,h.get? i=some o->h'.get? i=some o):IterB T h' i a k:=by
 cases T with
 |true=>obtain⟨o,e,r⟩:=x;exact⟨o,q o e,r⟩
 |false=>exact Heap.IsListIter.at x q
theorem IterB.there {T:Bool}{h:Heap}{i a:Addr}{k:Nat} (x:IterB T h i a k):∃ o vs,h.get? i=some o/\o.data=.fields vs:=by
 cases T with
 |true=>obtain⟨o,e,_,d⟩:=x;exact⟨o,_,e,d⟩
 |false=>obtain⟨o,e,_,d⟩:=x;exact⟨o,_,e,d⟩
structure Zp (z TI TO i1 i2 a b:Addr):Prop where
 ap:Za z TI TO i1 i2 [i1,a] [i2,b]
 n1:a≠i1
 n2:b≠i2
noncomputable def tZ (T:Bool) (z TI TO i1 i2 a b:Addr) (i:Nat) (O:Value) (R:Bool) (h:Heap):Prop :=
 h.get? z=some (zO O R TI TO)/\IsPair h TI (.ref i1) (.ref i2)/\(∃ u v,IsPair h TO u v)/\IterB T h i1 a i/\IterB T h i2 b i
theorem tZ.keep {T:Bool}{z TI TO i1 i2 a b:Addr}{i:Nat}{O:Value}{R:Bool}{h h':Heap} (x:tZ T z TI TO i1 i2 a b i O R h) (k:∀ c∈[z,TI,TO,i1,i2],∀ o,h.get? c=some o->h'.get? c=some o):tZ T z TI TO i1 i2 a b i O R h':=by
 obtain⟨x1,x2,⟨u,v,Z⟩,Y,x5⟩:=x;exact⟨k z (by simp) _ x1,k TI (by simp) _ x2,⟨u,v,k TO (by simp) _ Z⟩,Y.at λ o e=>k i1 (by simp) o e,x5.at λ o e=>k i2 (by simp) o e⟩
section
variable {X:Cx}{z TI TO i1 i2 a b:Addr}{T:Bool}
noncomputable def tC (T:Bool) (z TI TO i1 i2 a b:Addr) (i:Nat) (h:Heap):Prop:=∃ O Y,tZ T z TI TO i1 i2 a b i O Y h/\(O=.none\/∃ (R:Addr) (u v:Value),O=rawInt R/\IsPair h R u v)
end
section
variable {X:Cx}{pos:Pos}{e:Expr}{F:FE}
theorem aj0 (hc:X.calm=true):CallR X (.builtin "sum") (λ xs H Q=>∃ (p:Addr) (is:List Int),xs=[.ref p] ∧ SqL X.K H p (is.map V.int) ∧ Q (.int is.sum) H):=by
 intro pins s σ H xs us Q I r h;obtain⟨l,is,rfl,hl,q⟩:=h;obtain⟨u,rfl,ru⟩:=A_4 r;cases ru;obtain⟨Z,rv,Y,hz⟩:=I.list hl;have hi:=intsAre_of rv;have R:=Y.isList;obtain⟨ys,e⟩:=hi.allInts.items;have O:is=ys.toList.map (·.1):=by rw[<- hi.numsOf,<- nums_intItems,<- e]
 rw[e] at R;refine PySem.sum_intListG (I.ok.hd hc) R λ h' tk t' hk=>⟨.int is.sum,H,I.kept (t':=tk) hk,?_,q⟩
 rw[preSum_eq,List.take_of_length_le (by simp),<- O]
 exact⟨t',rfl⟩
theorem aH1 (Y:X.calm=true):BOk X (.builtin "sum") aV5:=⟨_,aj0 Y,λ c H0 H ρ σ ds d vs Q R r e q=>by
 unfold aV5 at e
 split at e
 ·obtain⟨is,e1,e2⟩:=a_1 e
  cases e2;obtain⟨v,rfl,O⟩:=Reps.v1 r;unfold Rep at O;obtain⟨p,Z,rfl,s,t⟩:=O;have:=z_7 e1 t;subst this;exact⟨p,is,rfl,Same.seq R.same s,q _ H0 H (Same.refl _) R (g_2 _ _)⟩
 ·cases e⟩
theorem aw4 {α O:Type}{f:α->Option O}{g:α->O}:∀ l:List α,(∀ k∈l,f k=some (g k))->l.filterMap f=l.map g
 |[],_=>rfl
 |k::r,h=>by rw[List.filterMap_cons,h k List.mem_cons_self,List.map_cons,aw4 r λ x R=>h x (List.mem_cons_of_mem _ R)]
theorem ao0 (O:List Value):slicePick O.toArray none none (some (-1))=O.reverse.toArray:=by
 unfold slicePick
 have b:sliceBounds none none (some (-1)) O.toArray.size=((O.length:Int)-1,-1,-1):=by
  unfold sliceBounds;simp
 rw[b]
 have r:sliceRange ((O.length:Int)-1) (-1) (-1)=(List.range O.length).map λ k=>O.length-1-k:=by
  unfold sliceRange
  have c:(if (-1:Int) > 0 then (if (O.length:Int)-1 < -1 then (-1-((O.length:Int)-1)+-1-1) / -1 else 0) else (if (O.length:Int)-1 > -1 then ((O.length:Int)-1 - -1 - -1-1) / (- -1) else 0)).toNat=O.length:=by
   rw[if_neg (by decide)]
   by_cases h:(O.length:Int)-1 > -1
   ·rw[if_pos h,show (- -1:Int)=1 by decide,Int.ediv_one];omega
   ·rw[if_neg h];omega
  simp only[c];refine List.map_congr_left λ k hk=>?_
  have:=List.mem_range.mp hk;omega
 show ((sliceRange ((O.length:Int)-1) (-1) (-1)).filterMap (O.toArray[·]?)).toArray=_;rw[r,List.filterMap_map]
 congr 1
 have e:((List.range O.length).filterMap λ k=>O.toArray[O.length-1-k]?)=(List.range O.length).map λ k=>O.getD (O.length-1-k) Value.none:=by
  refine aw4 _ λ k hk=>?_
  have:=List.mem_range.mp hk;rw[List.getElem?_toArray,List.getElem?_eq_getElem (by omega)]
  simp[show O.length-1-k<O.length by omega]
 refine Eq.trans ?_ (e.trans ?_)
 ·rfl
 ·refine List.ext_getElem (by simp) λ i h1 h2=>?_
  have hi:i<O.length:=by simpa using h1
  rw[List.getElem_map,List.getElem_range,List.getElem_reverse];simp[show O.length-1-i<O.length by omega]
theorem aO7 {te:TE}{p2 p3 Z:Pos}{k:Nat} (he:PE X e te):PE X (.Subscript e (.Slice none none (some (.UnaryOp .USub (.Constant (.int 1) k p3) Z)) p2) pos) (λ σ H Q=>te σ H λ x H1=>∃ a xs,x=.ref a/\SqL X.K H1 a xs/\∀ p,H1 p=none->Q (.ref p) (upd H1 p (.lst xs.reverse))):=by
 intro pins s σ H Q I h;refine Subscript_ (thn (he pins s σ H _ I h) λ v s1 O=>?_)
 obtain⟨x,H1,I1,r1,a,xs,ex,sq,q⟩:=O;subst ex;cases r1;refine wpAny_Slice ?_;rw[evalPart_none];refine qc (qc ?_);rw[evalPart_some];refine thn (aA8 (X:=X) ac3 (A_9 (i:=1) (j:=k) (pos:=p3)) (pos:=Z) pins s1 σ H1 (λ y H'=>y=.int (-1)/\H'=H1) I1 ⟨1,rfl,rfl,rfl⟩) λ st R O=>?_
 obtain⟨y,H2,I2,ry,ey,eH⟩:=O;subst ey eH;obtain⟨t,rfl⟩:=ry;have Y:Inv X pins σ H2 {R with heap:=R.heap.push {cls:=.type "slice",data:=.fields #[.none,.none,.int (-1) t]}}:=I2.kept (t':=R.toks) λ b ob q=>qd _ q
 obtain⟨ab,rv,ht,hz⟩:=Y.list sq;have aa:=rv.length;show wpAny (model X.prog X.w) X.A (subscriptTail e (.Slice none none (some (.UnaryOp .USub (.Constant (.int 1) k p3) Z)) p2) (.ref a) (.ref R.heap.objs.size)) (EP X pins σ Q) X.xe {R with heap:=R.heap.push {cls:=.type "slice",data:=.fields #[.none,.none,.int (-1) t]}}
 refine tail_any (ops:=[.ref a,.ref R.heap.objs.size]) ht.isList.typeIs slot_list_getitem.lookup ?_ (by with_unfolding_all rfl)
 refine wpAny_getItem_list_slice ht.isList (Heap.IsSliceOf.new ..) .none .none (.int (-1) t) (by simp) ?_ (by rw[List.size_toArray] <;> omega)
 rw[ao0];refine⟨.ref _,_,Y.laid (t':=R.toks) (o:=.lst xs.reverse) (λ b ob q=>qd _ q) (qj _) ?_,rfl,q _ (Y.hok.fresh (qj _))⟩
 exact⟨by rw[List.length_reverse];exact hz,_,0,Vals.reverse rv,qk _ rfl⟩
theorem U_3 {K:Frag}{H:Hp}:∀ {ds:List D}{vs:List V},Reps K H ds vs->Reps K H ds.reverse vs.reverse
 |[],vs,r=>by unfold Reps at r;subst r;exact Reps.nil_
 |d::ds,vs,r=>by
  unfold Reps at r;obtain⟨v,Y,rfl,R,O⟩:=r;rw[List.reverse_cons,List.reverse_cons];exact (U_3 O).app (Reps.one R)
end
end Fx
namespace L2
open PySem PySem.Spec PyProof.Rows
end L2
namespace Fx
open PySem PySem.Spec PyProof.Rows L2
structure ScB2 (N:List Str) (sc scope:Scope) (x x2:Str) (frees:List Str) (js:List Nat):Prop where
 B:ScB N sc scope x frees js
 own2:scope.names.lookup x2=some .local
 nd2:(x::x2::frees).Nodup
inductive KEnt (w:World) (K:Frag):List DictEntry->List (Str×D)->Prop
 |nil:KEnt w K [] []
 |cons {k:Str}{d:D}{t:Tok}{v:Value}{es:List DictEntry}{kds:List (Str×D)}:KV1 K d v->KEnt w K es kds->KEnt w K (⟨hashStr w k,.str k t,v⟩::es) ((k,d)::kds)
noncomputable def bx5 (w:World) (K:Frag) (a:Addr) (kds:List (Str×D)):Prop:=∃ es n,K.lookup a=some {cls:=.type "dict",data:=.dict es n} ∧ (a==sysModules)=false ∧ KEnt w K es.toList kds ∧ (kds.map (·.1)).Nodup
theorem KEnt.all {w:World}{K:Frag}:∀ {es:List DictEntry}{kds:List (Str×D)},KEnt w K es kds->∃ vs:List (Key×Value),vs.map (·.1)=kds.map (λ q=>Sum.inr q.1) /\
  (∀ (P:Program),PySem.Pairs (c_2 P w) es vs)/\(∀ (P:Program),∀ e∈es,∃ k,(c_2 P w).is k e.key=true/\e.hash=(c_2 P w).hash k) /\
  ∀ k d,bd6 k kds=some d->∃ u,valueAt vs (.inr k)=some u/\KV1 K d u
 |_,_,.nil=>⟨[],rfl,λ _=>.nil,λ _ e h=>(by cases h),λ k d h=>(by cases h)⟩
 |_,_,.cons (k:=k) (d:=d) (t:=t) (v:=v) (es:=es) (kds:=kds) h r=>by
  obtain⟨vs,e1,e2,e3,e4⟩:=r.all;refine⟨(.inr k,v)::vs,by rw[List.map_cons,List.map_cons,e1],λ P=>.cons (t_4 P w k t) rfl (e2 P),λ P e O=>?_,λ R d' hk=>?_⟩
  ·rcases qv O with rfl | O
   ·exact⟨.inr k,t_4 P w k t,rfl⟩
   ·exact e3 P e O
  ·unfold bd6 at hk
   unfold valueAt;rw[List.find?_cons]
   by_cases z:k=R
   ·subst z
    rw[if_pos rfl] at hk;cases hk;exact⟨v,by simp,h⟩
   ·rw[if_neg z] at hk
    obtain⟨u,Y,Z⟩:=e4 R d' hk;refine⟨u,?_,Z⟩;rw[decide_eq_false (λ y=>z (Sum.inr.inj y))]
    exact Y
theorem vals_ints:∀ {us:List Value}{O:List Int},IntsAre us O->Vals (O.map V.int) us
 |_,_,.nil=>.nil
 |_,_,.cons n t h=>.cons ⟨t,rfl⟩ (vals_ints h)
end Fx
namespace L2
open PySem PySem.Spec PyProof.Rows
end L2
namespace Fx
open PySem PySem.Spec PyProof.Rows L2
end Fx
namespace Fx
open PySem PySem.W PySem.Spec PyProof.Rows L2
structure XIn (K:Frag) (mg:Str->Option Value) (x y f qual:Str) (st:Stmt) (c0 c2 fI:Addr) (fd:FuncData):Prop where
 m0:mg x=some (.ref c0)
 m2:mg y=some (.ref c2)
 x0:be2 K c0 fI=true
 s1:XS1 K c0 f
 k0:XC K c0
 e0:exmOne K (.ref c0) (.ref c2)=some true
 t0:kitOne K (.ref c0) (.ref c0)=some true
 n0:kitOne K (.type "NoneType") (.ref c0)=some false
 fn:Fun K "__init__" qual st fI fd
 b0:Binds K fd ["self",f] []
end Fx
namespace Fx
open PySem
noncomputable def aP7:Option Sl->Option (Bool×List D)
 |some (.ow b (.lst ds))=>some (b,ds)
 |_=>none
@[simp] theorem bj4 (b:Bool) (ds:List D):aP7 (some (.ow b (.lst ds)))=some (b,ds):=zR rfl
noncomputable def eQb (i:Nat) (ρ:En) (b:Bool) (ds:List D) (o:Option D):Option (D×En):=bnd o λ d=>some (d,ρ.set i (.ow b (.lst ds.dropLast)))
noncomputable def eQa (i:Nat) (ρ:En) (o:Option (Bool×List D)):Option (D×En):=bnd o λ p=>eQb i ρ p.1 p.2 p.2[p.2.length-1]?
noncomputable def eQ (i:Nat) (ρ:En):Option (D×En):=eQa i ρ (aP7 ρ[i]?)
@[simp] theorem eQ_ (i:Nat) (ρ:En):eQ i ρ=eQa i ρ (aP7 ρ[i]?):=zR rfl
theorem be9 (i:Nat) (ρ:En) (b:Bool) (ds:List D) (d:D):eQa i ρ (some (b,ds++[d]))=some (d,ρ.set i (.ow b (.lst ds))):=by
 show eQb i ρ b (ds++[d]) (ds++[d])[(ds++[d]).length-1]?=_;rw[List.length_append,List.length_singleton,Nat.add_sub_cancel,List.getElem?_concat_length];show some (d,ρ.set i (.ow b (.lst (ds++[d]).dropLast)))=_;rw[List.dropLast_concat]
noncomputable def aQ7 (A B:En->Option MO) (o:Option (Bool×En)):Option MO:=bnd o λ p=>if p.1=true then A p.2 else B p.2
noncomputable def nIf (T:FT) (A B:En->Option MO) (ρ:En):Option MO:=aQ7 A B (T ρ)
@[simp] theorem bx7 (T:FT) (A B:En->Option MO) (ρ:En):nIf T A B ρ=aQ7 A B (T ρ):=zR rfl
@[simp] theorem bj9 (A B:En->Option MO) (ρ:En):aQ7 A B (some (true,ρ))=A ρ:=zR rfl
@[simp] theorem bk0 (A B:En->Option MO) (ρ:En):aQ7 A B (some (false,ρ))=B ρ:=zR rfl
noncomputable def ap3 (ρ:En) (o:Option (List D)):Option MO:=bnd o λ ds=>some (.lst ds.reverse)
noncomputable def ap2 (i:Nat) (ρ:En):Option MO:=ap3 ρ (aP8 ρ[i]?)
@[simp] theorem bj7 (i:Nat) (ρ:En):ap2 i ρ=ap3 ρ (aP8 ρ[i]?):=zR rfl
@[simp] theorem bc3 (ρ:En) (ds:List D):ap3 ρ (some ds)=some (.lst ds.reverse):=zR rfl
noncomputable def o_6:List D->Option (List ((Str×Int)×D))
 |[]=>some []
 |.tup [.tup [.str a,.int b],v]::r=>bnd (o_6 r) λ l=>some (((a,b),v)::l)
 |_=>none
noncomputable def aw1 (k:Str×Int):List ((Str×Int)×D)->D
 |[]=>.non
 |q::r=>if q.1=k then q.2 else aw1 k r
noncomputable def s_8 (k:Str×Int) (o:Option (List ((Str×Int)×D))):Option D:=bnd o λ l=>if l.length<=1000/\(l.map (·.1)).Nodup then some (aw1 k l) else none
noncomputable def ai7:D->D->Option D
 |.lst ps,.tup [.str k,.int w]=>s_8 (k,w) (o_6 ps)
 |_,_=>none
@[simp] theorem bh0 (ps:List D) (k:Str) (w:Int):ai7 (.lst ps) (.tup [.str k,.int w])=s_8 (k,w) (o_6 ps):=zR rfl
@[simp] theorem A_1 (k:Str×Int) (l:List ((Str×Int)×D)):s_8 k (some l)=if l.length<=1000/\(l.map (·.1)).Nodup then some (aw1 k l) else none:=zR rfl
end Fx
namespace Fx
open PySem PySem.Spec PyProof.Rows L2
theorem ad9 {o:Option Sl}{q:Bool×List D} (h:aP7 o=some q):o=some (.ow q.1 (.lst q.2)):=by
 unfold aP7 at h
 split at h
 ·cases h;rfl
 ·cases h
section
variable {X:Cx}{pos:Pos}
theorem xq (i:Nat) {x:Str}{p1 p2:Pos} (hN:X.N[i]?=some x:=by rfl) (hv:Vis X.env.scope x:=by first | exact Or.inl rfl | exact Or.inr (Or.inl rfl) | exact Or.inr (Or.inr rfl)) (hd:(x==("__debug__":Str))=false:=by decide)
  (ab:(x==("__classdict__":Str))=false:=by decide) (Y:attributeBase (.Name x p1) "pop" X.env (eval (.Name x p1) X.env)=eval (.Name x p1) X.env:=by rfl)
  (O:(p2.endLine==pos.line)=true:=by rfl) :
  XE X (.Call (.Attribute (.Name x p1) "pop" p2) [] [] pos) (eQ i) :=
 PE.wk (aP2 PySem.F.plainAttrs_list PySem.F.slot_list_pop PySem.F.type_list_pop aQ9 (u_3 hN hv hd ab) Y O) λ σ H Q Z=>by
  obtain⟨c,H0,ρ,d,aa,R,f,q⟩:=Z;unfold eQ eQa at f;obtain⟨⟨b,ds⟩,h0,f⟩:=a_1 f;unfold eQb at f;obtain⟨d',h1,f⟩:=a_1 f;have f':some (d',ρ.set i (.ow b (.lst ds.dropLast)))=some (d,aa):=f;cases f';obtain⟨a,x1,_,_,vs,y1,z1⟩:=R.ow i _ _ (ad9 h0);have hl:=z1.length;obtain⟨y,e1,e2⟩:=z1.get h1;rw[hl] at e1;refine⟨.ref a,x1,.inl ⟨rfl,vs,SqL.of y1⟩,a,vs,y,rfl,rfl,y1,e1,?_⟩;exact q y H0 _ (Same.refl _) (R.mutOwn (o':=.lst ds.dropLast) (u:=.lst vs.dropLast) (ad9 h0) x1 ⟨_,a_9,Reps.dropLast z1⟩) e2
theorem bp0 {c:Expr}{a rest:List Stmt}{T:FT}{A B:En->Option MO} (hc:XT X c T) (ha:XN X a A) (hb:XN X rest B):XN X (.If c a [] pos::rest) (nIf T A B) :=
 PSs.wk (m_1 (aA2 hc ha Q_8) hb) λ Dn σ H Y=>by
  obtain⟨Hi,Z,H0,ρ,o,R,f,q⟩:=Y;unfold nIf aQ7 at f;obtain⟨⟨k,O⟩,h1,f⟩:=a_1 f;dsimp only at f;refine⟨⟨Hi,Z,[]⟩,H0,ρ,k,O,R,h1,λ H1 Hh s1 R1=>?_⟩
  cases k with
  |true =>
   rw[if_pos rfl] at f ⊢;exact⟨Hi,Z,H1,O,o,R1,f,q⟩
  |false =>
   rw[if_neg Bool.false_ne_true] at f ⊢;exact⟨Hi,Z,H1,O,o,R1,f,q⟩
theorem aX8 (i:Nat) {x:Str}{p p2 p3 p4 spos Y:Pos}{k:Nat} (hN:X.N[i]?=some x:=by rfl) (hv:Vis X.env.scope x:=by first | exact Or.inl rfl | exact Or.inr (Or.inl rfl) | exact Or.inr (Or.inr rfl)) (hd:(x==("__debug__":Str))=false:=by decide) (Z:(x==("__classdict__":Str))=false:=by decide) :
  XN X [.Return (some (.Subscript (.Name x p) (.Slice none none (some (.UnaryOp .USub (.Constant (.int 1) k p3) p4)) p2) spos)) Y] (ap2 i) :=
 PSs.wk (w_1 (U_8 (aO7 (u_3 hN hv hd Z)))) λ Dn σ H O=>by
  obtain⟨Hi,He,H0,ρ,o,R,f,q⟩:=O;unfold ap2 ap3 at f;obtain⟨ds,h0,f⟩:=a_1 f;have f':some (MO.lst ds.reverse)=some o:=f;cases f';obtain⟨a,x1,_,_,vs,y1,z1⟩:=R.ow i _ _ (aB2 h0);refine⟨.ref a,x1,a,vs,rfl,SqL.of y1,λ l hl=>?_⟩
  refine q l H0 _ ⟨R.init,λ b u e=>?_,λ b u e=>?_,R.fresh,R.same.free hl,R.heNone hl,vs.reverse,a_9,U_3 z1⟩
  ·have:=R.same b u e
   rw[a_8 (a_2 this hl)];exact this
  ·have:=R.keep b u e (by simp)
   rw[a_8 (a_2 this hl)];exact this
end
end Fx
namespace Fx
open PySem
theorem N_9:typeLookup (.type "list") "keys"=pure none:=by rw[typeLookup_type,builtinLookup_eq_fast];kernel_rfl
set_option maxHeartbeats 4000000 in
theorem Z_8 {prog:Program}{w:World}{A:Around}{E:Value->Shared->Prop}{s:Shared}{a:Addr}{ob:Obj}{us:Array Value}{n:Nat}{Q:Option Value->Shared->Prop}
  (ho:s.heap.get? a=some ob) (hc:ob.cls=.type "list") (R:ob.data=.seq us n) (O:ob.dict=none) (hh:A.handled=none)
  (k:∀ h' tk e,Heap.NewExcOf s.heap h' e "AttributeError" → Q none {s with heap:=h',toks:=tk}) :
  wpAny (model prog w) A (getAttr? (.ref a) "keys") Q E s:=by
 obtain⟨oc,od,ab,aa⟩:=ob;simp only at hc R O;subst hc R O;obtain⟨hp,gg,dd,tk,os⟩:=s;have ty:∀ Y,(⟨hp,gg,dd,Y,os⟩:Shared).TypeIs (.ref a) "list":=λ _=>⟨_,ho,rfl⟩
 have e1:=sub_AttributeError;have e3:=F.slot_list_getattribute.lookup;have e4:=F.slot_list_getattribute.bind (.ref a);have e5:=am_list_getattr_none;unfold getAttr? getAttrBy? getAttrBy
 repeat (any_goals (first | assumption | exact ty _ | ((with_reducible show wpAny _ _ (call (Value.builtin "list.__getattribute__") _ _) _ _ _);refine call_meets F.slot_list_getattribute (ty _) am_entry_list_getattribute (F.args_list_getattribute_2 _ _) (meets_getattribute_miss_list a us n aa "keys" _ N_9 (by decide) (by decide)) ⟨ho,hh,λ h' Y e hx=>?_⟩) | wp_step))
 obtain⟨t1,u1,he⟩:=hx.there;have tx:∀ Z,(⟨h',gg,dd,Z,os⟩:Shared).TypeIs (.ref e) "AttributeError":=λ _=>⟨_,he,rfl⟩
 show wpAny _ _ (getattributeRaised _ _ _ _ _ _ _) _ _ _;unfold getattributeRaised
 repeat (any_goals (first | assumption | exact tx _ | wp_step))
 all_goals exact k _ _ _ hx.of
section
variable {prog:Program}{w:World}{K:Type} [DecidableEq K] {knd:HeapKind prog w K}{A:Around}{E:Value->Shared->Prop}{s:Shared}
inductive PairsH (knd:HeapKind prog w K) (h:Heap):List Value->List (K×Addr×Value)->Prop
 |nil:PairsH knd h [] []
 |cons {p b:Addr}{v:Value}{k:K}{us:List Value}{xs:List (K×Addr×Value)} (a:h.IsTuple p #[.ref b,v]) (kb:∀ h':Heap,(∀ c o,h.get? c=some o->h'.get? c=some o)->knd.is h' k b) (r:PairsH knd h us xs):PairsH knd h (.ref p::us) ((k,b,v)::xs)
theorem r_8 {h h':Heap}{d:Addr}{xs:List (K×Addr×Value)} (R:h.DictOfH knd d xs) (e:∀ o,h.get? d=some o->h'.get? d=some o) (ka:∀ x∈xs,knd.is h' x.1 x.2.1):h'.DictOfH knd d xs:=by
 obtain⟨o,es,O,h1,h2,Y,Z,_,h6⟩:=R;exact⟨o,es,O,e _ h1,h2,Y,Z,ka,h6⟩
theorem ac2 {hI:Heap}{d it t:Addr}{all:List Value}{R:Result->Shared->Prop} (as:hI.get? d=none) (ah:hI.get? it=none) (ad:d≠it) (tu:hI.IsList t all.toArray) (hh:A.handled=none) (hu:knd.room A.in1) :
  ∀ (us:List Value) (O Y:List (K×Addr×Value)) (s:Shared) (i:Nat) (tk:Tok),all.drop i=us->PairsH knd hI us Y->(∀ x∈O,∀ h':Heap,(∀ c o,hI.get? c=some o->h'.get? c=some o)->knd.is h' x.1 x.2.1)->((O++Y).map (·.1)).Nodup->(∀ b o,hI.get? b=some o->s.heap.get? b=some o)->s.heap.IsListIter it t i->s.heap.DictOfH knd d O->O.length+Y.length<=sizeLine ->
   (∀ h' af,(∀ b o,hI.get? b=some o->h'.get? b=some o)->h'.DictOfH knd d (O++Y)->R (.ok (.ret .none)) {s with heap:=h',toks:=af}) ->
   codeAny (model prog w) A (.builtin "dict.update.loop" ⟨[.ref d,.ref it,.int i tk,.none],[]⟩) R s:=by
 intro us
 induction us with
 |nil =>
  intro O Y s i tk e ps ka nd kp ac ag hz q;cases ps;refine codeAny_builtin s_7 ?_;rw[Around.under_plainId m_2 _];show wpAny _ A.in1 (pyNext (.ref it) >>= _) _ _ s
  have ae:s.heap.IsList t all.toArray:=by
   obtain⟨o,ho,r⟩:=tu;exact⟨o,kp _ _ ho,r⟩
  have Z:all.toArray[i]?=none:=by
   have:all[i]?=none:=by
    have l:all.length<=i:=by simpa using e
    exact List.getElem?_eq_none l
   simpa using this
  refine qb (wpAny_pyNext_list_end hh ac ae Z λ h' eb=>?_)
  show wpAny _ _ (Builtin.Dict.addKeywords d [] >>= _) _ _ _;refine qb (qc (qc ?_));have aj:∀ b o,hI.get? b=some o->h'.get? b=some o:=λ b o hb=>eb b o (λ z=>by rw[z,ah] at hb;cases hb) (kp _ _ hb)
  rw[List.append_nil] at q;exact q h' s.toks aj (r_8 ag (λ o ho=>eb d o ad ho) λ x Z=>ka x Z h' aj)
 |cons u us ih =>
  intro O Y s i tk e ps ka nd kp ac ag hz q;cases ps with
  |@cons p b uv k _ kvs a kb r =>
   refine codeAny_builtin s_7 ?_;rw[Around.under_plainId m_2 _];show wpAny _ A.in1 (pyNext (.ref it) >>= _) _ _ s
   have ae:s.heap.IsList t all.toArray:=by
    obtain⟨o,ho,r⟩:=tu;exact⟨o,kp _ _ ho,r⟩
   have ap:all[i]?=some (.ref p):=by
    have:=congrArg (λ l=>l[0]?) e
    simpa using this
   have Z:all.toArray[i]?=some (.ref p):=by simpa using ap
   refine qb (wpAny_pyNext_list_item ac ae Z λ h1 al am=>?_)
   have aa:∀ b o,hI.get? b=some o->h1.get? b=some o:=λ b o hb=>(am.2 b (λ z=>by rw[z,ah] at hb;cases hb)).trans (kp _ _ hb)
   have aq:h1.DictOfH knd d O:=r_8 ag (λ o ho=>(am.2 d ad).trans ho) λ x Z=>ka x Z h1 aa
   obtain⟨op,av,ao,on,au⟩:=a;have ab:=aa _ _ av;refine qb (wpAny_holding (qb (wpAny_tryCatch ?_)));unfold Builtin.Dict.pairItems;refine qb (wpAny_typeOf (T:="tuple") ⟨op,ab,ao⟩ ?_);rw[if_pos (by decide)]
   refine qb (wpAny_seqItems ab au ?_);refine qc ?_;show wpAny _ _ (holding [.ref b,uv] (dictSet d (.ref b) uv)) _ _ _;refine wpAny_holding (wpAny_dictSet_heap hu (kb h1 aa) aq (λ h2 an ak=>?_) (by simp only[List.length_cons] at hz;omega))
   refine qc ⟨plainId_quiet m_2 _,?_⟩;have ar:∀ b o,hI.get? b=some o->h2.get? b=some o:=λ b o hb=>(ak.2 b (λ z=>by rw[z,as] at hb;cases hb)).trans (aa _ _ hb)
   have ai:h2.IsListIter it t (i+1):=by
    obtain⟨o,ho,rr⟩:=al;exact⟨o,(ak.2 it (Ne.symm ad)).trans ho,rr⟩
   have no:atKey O k=none:=atKey_none_of_get λ j q z=>by
    rw[List.map_append,List.map_cons] at nd;exact (List.nodup_append.mp nd).2.2 k (List.mem_map.mpr ⟨_,List.mem_of_getElem? z,rfl⟩) k (qg ..) rfl
   rw[storedH_new no] at an
   have:=ih (O++[(k,b,uv)]) kvs {s with heap:=h2,toks:=s.toks+knd.draws k} (i+1) 0 (by rw[<- List.drop_drop,e];rfl) r (λ x Z=>by
    rcases qw Z with Z | Z
    ·exact ka x Z
    ·cases List.mem_singleton.mp Z;exact kb) (by rw[List.append_assoc];exact nd) ar ai an (by simp only[List.length_cons,List.length_append,List.length_nil] at hz ⊢;omega) (λ h' af c1 c2=>q h' af c1 (by rw[List.append_assoc] at c2;exact c2))
   exact this
theorem S_4 {t:Addr}{ob:Obj}{n:Nat}{all:List Value}{kvs:List (K×Addr×Value)}{Q:Value → Shared → Prop} (Z:s.heap.get? t=some ob) (hc:ob.cls=.type "list") (Y:ob.data=.seq all.toArray n) (ac:ob.dict=none) (hh:A.handled=none) (hu:knd.room A.in1.in1)
  (ps:PairsH knd s.heap all kvs) (nd:(kvs.map (·.1)).Nodup) (hz:kvs.length<=sizeLine)
  (q:∀ h' tk,(∀ b o,s.heap.get? b=some o->h'.get? b=some o)->h'.DictOfH knd s.heap.objs.size kvs->Q (.ref s.heap.objs.size) {s with heap:=h',toks:=tk}) :
  wpAny (model prog w) A (call (.type "dict") [.ref t]) Q E s:=by
 refine callType_codes (Q₁:=λ z s1=>z=.ref s.heap.objs.size ∧ s1={s with heap:=s.heap.push {cls:=.type "dict",data:=.dict #[]}}) F.kt_called_dict (F.kt_typeCall_dict_1 _) F.entry_dict_init (kt_code_dict_new _ ⟨rfl,rfl⟩) ?_
 rintro z s1 ⟨rfl,rfl⟩;have dn:(s.heap.push {cls:=.type "dict",data:=.dict #[]}).DictOfH knd s.heap.objs.size []:=Heap.DictOfH.new s.heap;have R:(s.heap.push {cls:=.type "dict",data:=.dict #[]}).get? t=some ob:=qd _ Z;refine⟨dn.typeIs,F.args_dict_init_2 _ _,?_⟩;unfold Builtin.«dict.__init__»;refine qb ?_;unfold Builtin.Dict.selfAndRest;refine qb (wpAny_notOrdered_dict dn.typeIs (qc ?_));show wpAny _ _ (Builtin.Dict.updateFrom "dict.__init__" s.heap.objs.size (.ref t) [] .none) _ _ _;unfold Builtin.Dict.updateFrom;refine qb (wpAny_typeOf (T:="list") ⟨ob,R,hc⟩ ?_);rw[if_pos (by decide)]
 refine qb (Z_8 (A:=A.in1.in1) R hc Y ac hh λ h2 tk e O=>?_)
 rw[if_pos (show (none:Option Value).isNone=true from rfl)];have af:h2.get? t=some ob:=O.keeps _ _ R;have ab:h2.DictOfH knd s.heap.objs.size []:=r_8 dn (λ o Z=>O.keeps _ _ Z) λ x O=>(nomatch O)
 have aa:∀ b o,s.heap.get? b=some o->h2.get? b=some o:=λ b o hb=>O.keeps _ _ (qd _ hb)
 refine qb (wpAny_rule (qb (wpAny_pyIter_list (items:=all.toArray) ⟨ob,af,hc,n,Y⟩ ?_)));refine qc ⟨plainId_quiet m_2 _,?_⟩
 have d0:s.heap.get? s.heap.objs.size=none:=by
  cases z:s.heap.get? s.heap.objs.size with
  |none=>rfl
  |some o=>exact absurd (qm z) (Nat.lt_irrefl _)
 have ad:s.heap.objs.size<h2.objs.size:=by
  obtain⟨o,es,ep,h3,rr⟩:=ab;exact qm h3
 have i0:s.heap.get? h2.objs.size=none:=by
  cases z:s.heap.get? h2.objs.size with
  |none=>rfl
  |some o=>exact absurd (qm (aa _ _ z)) (Nat.lt_irrefl _)
 refine ac2 (A:=A.in1) (knd:=knd) (all:=all) (hI:=s.heap) (t:=t) d0 i0 (qt ad) ⟨ob,Z,hc,n,Y⟩ hh hu all [] kvs {s with heap:=h2.push {cls:=.type "list_iterator",data:=.fields #[.ref t,.int 0 0]},toks:=tk} 0 0 rfl ps (λ x O=>(nomatch O)) nd
  (λ b o hb=>qd _ (aa _ _ hb)) ⟨_,qk _ rfl,rfl,rfl⟩ (r_8 ab (λ o Z=>qd _ Z) λ x O=>(nomatch O)) (by rw[List.length_nil,Nat.zero_add];exact hz) λ h' ae c1 c2=>?_
 exact⟨rfl,q h' ae c1 c2⟩
end
end Fx
namespace Fx
open PySem PySem.Spec PyProof.Rows L2
abbrev Tab (α:Type):=List ((Str×Int)×Addr×α)
noncomputable def kTI (k:Str×Int):List Key:=[.inr k.1,.inl k.2]
noncomputable def ab5 (x:(Str×Int)×Addr×Value):List Key×Addr×Value:=(kTI x.1,x.2.1,x.2.2)
abbrev aI2:(Str×Int)×Addr×V->(Str×Int)×Addr×Value->Prop:=λ p q=>p.1=q.1/\p.2.1=q.2.1/\RelV p.2.2 q.2.2
noncomputable def Z_7 (tab:Tab V) (k:Str×Int):Option V:=(tab.find? λ x=>decide (x.1=k)).map (·.2.2)
theorem ag4 {a b:Str×Int} (h:kTI a=kTI b):a=b:=by
 unfold kTI at h;injection h with h1 h2
 injection h2 with h3 _
 injection h1 with h1
 injection h3 with h3
 exact Prod.ext h1 h3
theorem V_6 {k:Str×Int}:∀ {tab:Tab V}{xs:Tab Value},Paired aI2 tab xs->RelO (Z_7 tab k) ((atKey (xs.map ab5) (kTI k)).map (·.2))
 |_,_,.nil=>trivial
 |_,_,.cons (a:=x) (b:=y) r t=>by
  have O:=V_6 (k:=k) t;unfold Z_7 atKey at O ⊢;rw[List.map_cons,List.find?_cons,List.find?_cons]
  have e:decide ((ab5 y).1=kTI k)=decide (x.1=k):=by
   rw[r.1]
   by_cases z:y.1=k
   ·rw[decide_eq_true z];exact decide_eq_true (congrArg kTI z)
   ·rw[decide_eq_false z];exact decide_eq_false λ w=>z (ag4 w)
  rw[e];cases decide (x.1=k) with
  |true=>exact r.2.2
  |false=>exact O
theorem V_9:∀ {tab:Tab V}{xs:Tab Value},Paired aI2 tab xs->(xs.map ab5).map (·.1)=(tab.map (·.1)).map kTI
 |_,_,.nil=>rfl
 |_,_,.cons r t=>by rw[List.map_cons,List.map_cons,List.map_cons,List.map_cons,V_9 t,r.1];rfl
noncomputable def tdX (P:Program) (w:World) (a:Addr) (tab:Tab V):HO:=.ext λ h=>(a==sysModules)=false/\∃ o es O xs,h.get? a=some o/\o.ExactDict/\o.data=.dict es O/\es.toList=(xs.map ab5).map (entryOfKey (tupleKind (c_2 P w)))/\Paired aI2 tab xs/\((xs.map ab5).map (·.1)).Nodup
noncomputable def KsAt (K:Frag) (H:Hp) (tab:Tab V):Prop:=∀ x∈tab,SqT K H x.2.1 [.str x.1.1,.int x.1.2]
section
variable {X:Cx}{pins:List (Addr×Obj)}{σ:L2.St}{H:Hp}{s:Shared}{a b:Addr}{tab:Tab V}{k:Str×Int}{A:Around}{E:Value->Shared->Prop}
theorem ag0 (I:Inv X pins σ H s) (h:SqT X.K H b [.str k.1,.int k.2]):(tupleKind (c_2 X.prog X.w)).is s.heap (kTI k) b:=by
 obtain⟨O,r,⟨o,h1,h2,⟨n,R⟩,_⟩,_⟩:=I.tupleN h;exact⟨o,O.toArray,n,h1,h2,R,by simpa using C_2 (ks:=kTI k) r⟩
theorem af9 (I:Inv X pins σ H s):∀ {tab:Tab V}{xs:Tab Value},Paired aI2 tab xs->KsAt X.K H tab->∀ x∈xs.map ab5,(tupleKind (c_2 X.prog X.w)).is s.heap x.1 x.2.1
 |_,_,.nil,_,x,O=>nomatch O
 |_,_,.cons (a:=p) (b:=q) r t,ks,x,O=>by
  rw[List.map_cons] at O
  rcases qv O with e | O
  ·rw[e]
   have:=ag0 I (ks p qg);show (tupleKind (c_2 X.prog X.w)).is s.heap (kTI q.1) q.2.1;rw[<- r.1,<- r.2.1];exact this
  ·exact af9 I t (λ y R=>ks y (qh _ R)) x O
theorem at0 (I:Inv X pins σ H s) (e:H a=some (tdX X.prog X.w a tab)):(a==sysModules)=false/\∃ o es O xs,s.heap.get? a=some o/\o.ExactDict/\o.data=.dict es O/\es.toList=(xs.map ab5).map (entryOfKey (tupleKind (c_2 X.prog X.w)))/\Paired aI2 tab xs/\((xs.map ab5).map (·.1)).Nodup :=
 (show ObjOk X.prog X.w H s.heap a (tdX X.prog X.w a tab) from I.hok a _ e).1
theorem as9 (I:Inv X pins σ H s) (e:H a=some (tdX X.prog X.w a tab)):s.TypeIs (.ref a) "dict" ∧ (∀ b,Value.ref a=.ref b → ∃ ob,s.heap.get? b=some ob ∧ ob.dict=none):=by
 obtain⟨_,o,es,O,xs,h1,h2,_⟩:=at0 I e;exact⟨⟨o,h1,h2.1⟩,λ b q=>by cases q;exact⟨o,h1,h2.2.1⟩⟩
theorem aK9 {Q:Value->Shared->Prop} (hu:A.units+1<cLine) (I:Inv X pins σ H s) (e:H a=some (tdX X.prog X.w a tab)) (ks:KsAt X.K H tab) (kb:SqT X.K H b [.str k.1,.int k.2]) (h:∀ R s',Inv X pins σ H s'->RelV ((Z_7 tab k).getD .non) R->Q R s') :
  wpAny (model X.prog X.w) A (call (.builtin "dict.get") [.ref a,.ref b]) Q E s:=by
 obtain⟨hd,o,es,Z,xs,h1,h2,h3,h4,O,nd⟩:=at0 I e;have Y:s.heap.DictOfH (tupleKind (c_2 X.prog X.w)) a (xs.map ab5):=⟨o,es,Z,h1,h2,h3,h4,af9 I O ks,nd⟩;exact call_meetsIn PySem.F.slot_dict_get Y.typeIs PySem.F.entry_dict_get (PySem.F.args_dict_get_2 _ _) (meetsH_dict_get (tupleKind (c_2 X.prog X.w)) a b hd) ⟨tupleKind_room_in1 hu,kTI k,xs.map ab5,ag0 I kb,Y,h _ _ (I.tok _) ((V_6 O).getD rfl)⟩
end
section
variable {X:Cx}{o e:Expr}{apos cpos:Pos}{td ty:TE}
noncomputable def aL1 (X:Cx) (td ty:TE):TE:=λ σ H Q=>td σ H λ x H1=>∃ a,x=.ref a/\(∃ tab,H1 a=some (tdX X.prog X.w a tab))/\ty σ H1 λ y H2=>∃ tab k b,H2 a=some (tdX X.prog X.w a tab)/\KsAt X.K H2 tab/\y=.ref b/\SqT X.K H2 b [.str k.1,.int k.2]/\Q ((Z_7 tab k).getD .non) H2
theorem ao3 (hu:X.A.units+1<cLine) (ho:PE X o td) (he:PE X e ty) (m:M1 X o "get" apos e cpos):PE X (.Call (.Attribute o "get" apos) [e] [] cpos) (aL1 X td ty):=by
 intro pins s σ H Q I h;refine wpAny_Call_method m.base m.few m.line PySem.F.plainAttrs_dict PySem.F.slot_dict_get PySem.F.type_dict_get (thn (ho pins s σ H _ I h) λ u s1 O=>?_)
 obtain⟨x,H1,Y,rx,a,ex,⟨tab,d⟩,q1⟩:=O;subst ex;obtain rfl:u=Value.ref a:=rx;refine⟨(as9 Y d).1,(as9 Y d).2,?_⟩;rw[m.trees];refine Calls.callWith_builtin rfl (Calls.evalArgs_plain (Calls.spliced_cons (thn (he pins s1 σ H1 _ Y q1) λ iv s2 ⟨y,H2,I2,ry,Z,k,b,g,ks,ey,kb,q2⟩=>Calls.spliced_nil ?_)))
 subst ey;obtain rfl:iv=Value.ref b:=ry;exact aK9 hu I2 g ks kb λ w' s3 I3 R=>⟨_,H2,I3,R,q2⟩
end
inductive PTv (K:Frag) (H:Hp):List V->Tab V->Prop
 |nil:PTv K H [] []
 |cons {a b:Addr}{k:Str×Int}{v:V}{vs:List V}{tab:Tab V} (p:SqT K H a [.ref b,v]) (q:SqT K H b [.str k.1,.int k.2]) (r:PTv K H vs tab):PTv K H (.ref a::vs) ((k,b,v)::tab)
theorem U_6 {K:Frag}{H:Hp}:∀ {vs:List V}{tab:Tab V},PTv K H vs tab->KsAt K H tab
 |_,_,.nil,x,O=>nomatch O
 |_,_,.cons p q r,x,O=>by
  rcases qv O with e | O
  ·subst e;exact q
  ·exact U_6 r x O
theorem KsAt.mono {K:Frag}{H H':Hp}{tab:Tab V} (h:KsAt K H tab) (s:Same H H'):KsAt K H' tab:=λ x O=>Same.seqT s (h x O)
section
variable {X:Cx}
theorem M_5 {pins:List (Addr×Obj)}{σ:L2.St}{H:Hp}{s:Shared} (I:Inv X pins σ H s):∀ {vs:List V}{tab:Tab V}{us:List Value},PTv X.K H vs tab->Vals vs us->∃ xs:Tab Value,PairsH (tupleKind (c_2 X.prog X.w)) s.heap us (xs.map ab5)/\Paired aI2 tab xs
 |_,_,us,.nil,h=>by cases h;exact⟨[],.nil,.nil⟩
 |_,_,us,.cons (a:=a) (b:=b) (k:=k) (v:=v) p q r,h=>by
  cases h with
  |@cons x u xs aa h1 h2 =>
   cases h1;obtain⟨rs,R,q2⟩:=M_5 I r h2;obtain⟨Z,Y,tp,_⟩:=I.tuple p;obtain⟨u1,O,rfl,r1,r2⟩:=al8 Y;cases r1;obtain⟨o,items,n,e1,e2,e3,e4⟩:=ag0 I q;exact⟨(k,b,O)::rs,.cons (show s.heap.IsTuple a #[.ref b,O] from tp) (λ h' kp=>⟨o,items,n,kp _ _ e1,e2,e3,e4⟩) R,.cons ⟨rfl,rfl,r2⟩ q2⟩
theorem U_1:∀ {tab:Tab V}{xs:Tab Value},Paired aI2 tab xs->xs.length=tab.length
 |_,_,.nil=>rfl
 |_,_,.cons _ t=>by rw[List.length_cons,List.length_cons,U_1 t]
theorem ab0 (hc:X.calm=true) (hu:X.A.units+64<cLine):CallR X (.type "dict") (λ xs H Q=>∃ p Z tab,xs=[.ref p] ∧ SqL X.K H p Z ∧ PTv X.K H Z tab ∧ (tab.map (·.1)).Nodup ∧ tab.length ≤ 1000 ∧ ∀ l,H l=none → Q (.ref l) (upd H l (tdX X.prog X.w l tab))):=by
 intro pins s σ H xs us Q I r h;obtain⟨p,Z,tab,rfl,hq,pv,nd,hz,q⟩:=h;obtain⟨u,rfl,ru⟩:=A_4 r;cases ru;obtain⟨ad,rv,⟨ob,n,h1,h2,h3,h4⟩,_⟩:=I.list hq;obtain⟨rs,q1,R⟩:=M_5 I pv rv;have big:(1000:Nat)<=sizeLine:=by decide
 have Y:((rs.map ab5).map (·.1)).Nodup:=by
  rw[V_9 R];exact List.pairwise_map.mpr (nd.imp λ O z=>O (ag4 z))
 refine S_4 h1 h2 h4 h3 (I.ok.hd hc) (show X.A.in1.in1.units<cLine from by have:X.A.in1.in1.units=X.A.units+2:=rfl;omega) q1 Y (by rw[List.length_map,U_1 R];omega) λ h' tk kp dd=>?_
 obtain⟨o,es,ep,e1,e2,e3,e4,_,e6⟩:=dd;refine⟨.ref s.heap.objs.size,_,I.laid (o:=tdX X.prog X.w s.heap.objs.size tab) kp (qj _) ⟨⟨beq_eq_false_iff_ne.mpr (Ne.symm (qt I.big)),o,es,ep,rs,e1,e2,e3,e4,R,e6⟩,⟨o,e1⟩,λ g1 g2 ⟨a1,o',ac,aa,ab,b1,b2⟩ k=>⟨a1,o',ac,aa,ab,k _ b1,b2⟩⟩,rfl,q _ (I.hok.fresh (qj _))⟩
theorem pairsT_inv:∀ {ps:List D}{l:List ((Str×Int)×D)},o_6 ps=some l->ps=l.map λ q=>.tup [.tup [.str q.1.1,.int q.1.2],q.2]
 |[],l,h=>by cases h;rfl
 |x::r,l,h=>by
  unfold o_6 at h
  split at h
  ·rename_i O;cases O
  ·rename_i a b v R O
   cases O;obtain⟨t,e,f⟩:=a_1 h;cases f;rw[pairsT_inv e];rfl
  ·cases h
theorem au4 {K:Frag}{H0:Hp} (k:Str×Int):∀ {l:List ((Str×Int)×D)}{O:List V},Reps K H0 (l.map λ q=>.tup [.tup [.str q.1.1,.int q.1.2],q.2]) O->∃ tab,PTv K H0 O tab/\tab.map (·.1)=l.map (·.1)/\∀ v,v=(Z_7 tab k).getD .non->Rep K H0 (aw1 k l) v
 |[],O,h=>by
  rw[List.map_nil] at h;unfold Reps at h;subst h;exact⟨[],.nil,rfl,λ v e=>by subst e;unfold aw1 Rep;rfl⟩
 |q::r,O,h=>by
  rw[List.map_cons] at h;unfold Reps at h;obtain⟨v,t,rfl,a,b⟩:=h;obtain⟨tab,p1,p2,p3⟩:=au4 k b;unfold Rep at a;obtain⟨ad,us,rfl,sq,ru⟩:=a;obtain⟨v1,v2,rfl,r1,r2⟩:=Reps.v2 ru;unfold Rep at r1;obtain⟨Y,us1,rfl,R,Z⟩:=r1;obtain⟨w1,w2,rfl,s1,s2⟩:=Reps.v2 Z;unfold Rep at s1 s2;subst s1 s2;refine⟨(q.1,Y,v2)::tab,.cons sq R p1,by rw[List.map_cons,List.map_cons,p2],λ v e=>?_⟩
  subst e;unfold aw1 Z_7;rw[List.find?_cons]
  by_cases z:q.1=k
  ·rw[decide_eq_true (show (q.1,Y,v2).1=k from z),if_pos z];exact r2
  ·rw[decide_eq_false (show ¬ (q.1,Y,v2).1=k from z),if_neg z];exact p3 _ rfl
theorem PTv.mono {K:Frag}{H H':Hp} (s:Same H H'):∀ {vs:List V}{tab:Tab V},PTv K H vs tab->PTv K H' vs tab
 |_,_,.nil=>.nil
 |_,_,.cons p q r=>.cons (Same.seqT s p) (Same.seqT s q) (PTv.mono s r)
theorem ai6 {x y d:D} (h:ai7 x y=some d):∃ ps k w,x=.lst ps/\y=.tup [.str k,.int w]/\s_8 (k,w) (o_6 ps)=some d:=by
 unfold ai7 at h
 split at h
 ·exact⟨_,_,_,rfl,rfl,h⟩
 ·cases h
theorem aX9 {a b:Expr}{F G:FE}{p O apos cpos:Pos} (hm:X.mg "dict"=none) (hu:X.A.units+64<cLine) (he:XE X a F) (hk:XE X b G) (hc:X.calm=true:=by rfl) (hg:Gl X "dict":=by rfl)
  (h1:starEach [a] X.env=[(false,eval a X.env)]:=by rfl) (m:M1 X (.Call (.Name "dict" p) [a] [] O) "get" apos b cpos:=by exact⟨rfl,rfl,rfl,rfl⟩) :
  XE X (.Call (.Attribute (.Call (.Name "dict" p) [a] [] O) "get" apos) [b] [] cpos) (e2 ai7 F G) :=
 PE.wk (ao3 (by omega) (M_4 (ab0 hc hu) hg hm PyProof.Rows.boot_dict (xaC he xaN h1) (by decide) (by decide) h1 rfl) hk m) λ σ H Q Z=>by
  obtain⟨c,H0,ρ,d,ae,R,f,q⟩:=Z;unfold e2 at f;obtain⟨⟨x,aa⟩,g1,f⟩:=a_1 f;obtain⟨⟨y,ab⟩,g2,f⟩:=a_1 f;obtain⟨d',g3,f⟩:=a_1 f;have f':some (d',ab)=some (d,ae):=f;cases f';obtain⟨ps,kk,ww,ex,ey,Y⟩:=ai6 g3;dsimp only at ex ey g2;subst ex ey
  clear g3
  unfold s_8 at Y;obtain⟨l,g4,g3⟩:=a_1 Y;obtain⟨⟨hz,nd⟩,rfl⟩:=ifs g3;cases pairsT_inv g4;refine⟨c,H0,ρ,_,aa,R,by unfold aC;rw[g1];rfl,λ vs H1 Hh s1 R1 r1=>?_⟩
  obtain⟨v,rfl,rv⟩:=Reps.v1 r1;unfold Rep at rv;obtain⟨ad,ws,rfl,sq,t⟩:=rv;obtain⟨tab,p1,p2,p3⟩:=au4 (kk,ww) t;have af:=p3 _ rfl;refine⟨ad,ws,tab,rfl,Same.seq R1.same sq,PTv.mono R1.same p1,by rw[p2];exact nd,by have:=congrArg List.length p2;rw[List.length_map,List.length_map] at this;omega,λ a hl=>?_⟩
  have S:=Step.alloc (o:=tdX X.prog X.w a tab) R1.same hl;refine⟨a,rfl,⟨tab,a_9⟩,c,_,aa,_,_,R1.after S,g2,λ y H2 Hh2 s2 R2 r2=>?_⟩
  unfold Rep at r2;obtain⟨bd,us,rfl,ac,ru⟩:=r2;obtain⟨w1,w2,rfl,z1,z2⟩:=Reps.v2 ru;unfold Rep at z1 z2;subst z1 z2;have sm:Same H1 H2:=S.s0.trans s2;exact⟨tab,(kk,ww),bd,R2.same _ _ (s2 _ _ a_9),(U_6 p1).mono (sm.trans R2.same),rfl,Same.seqT R2.same ac,q _ H2 Hh2 (s1.trans sm) R2 (Rep.mono sm _ af)⟩
end
section
variable {X:Cx}{a b:Expr}{F G:FE}{y:Str}{py pos:Pos}{rest:List Expr}
theorem aO8 {ta tb:TE} (ha:PE X a ta) (hb:PE X (.BoolOp .Or (b::rest) pos) tb):PE X (.BoolOp .Or (a::b::rest) pos) (λ σ H Q=>ta σ H λ x H1=>∃ k,aX5 X.K x H1 k/\if k=true then Q x H1 else tb σ H1 Q):=by
 intro pins s σ H Q I h;refine BoolOp_or (thn (ha pins s σ H _ I h) λ v s1 O=>?_)
 obtain⟨x,H1,I1,Z,k,tr,q1⟩:=O;refine thn (as7 pins s1 σ H1 x v (λ k H=>if k=true then Q x H else tb σ H Q) I1 Z ⟨k,tr,q1⟩) λ k' s2 O=>?_
 obtain⟨H2,Y,R⟩:=O;cases k' with
 |false=>rw[if_neg Bool.false_ne_true] at R;exact hb pins s2 σ H2 Q Y R
 |true=>rw[if_pos rfl] at R;exact⟨x,H2,Y,Z,R⟩
theorem bo7 (ha:XE X a F) (hb:XE X (.BoolOp .Or (b::rest) pos) G):XE X (.BoolOp .Or (a::b::rest) pos) (aT7 F G):=PE.wk (aO8 ha hb) λ σ H Q O=>by
 obtain⟨c,H0,ρ,d,aa,R,f,q⟩:=O;unfold aT7 at f;obtain⟨⟨z,Y⟩,h1,f⟩:=a_1 f;obtain⟨k,h2,f⟩:=a_1 f;dsimp only at h2 f;refine⟨c,H0,ρ,z,Y,R,h1,λ v H1 Hh s1 Z r1=>⟨k,as8 Z.same r1 h2,?_⟩⟩
 cases k with
 |true =>
  rw[if_pos rfl] at f ⊢;cases f;exact q _ H1 Hh s1 Z r1
 |false =>
  rw[if_neg Bool.false_ne_true] at f ⊢;exact⟨c,H1,Y,d,aa,Z,f,λ v H2 Hh2 s2 R2 r2=>q v H2 Hh2 (s1.trans s2) R2 r2⟩
end
section
variable {X:Cx}{scope sc:Scope}{x y:Str}{frees:List Str}{js:List Nat}{px py spos pos p pos':Pos}{elt a:Expr}{ifs:List Expr}{F I:FE}{T:FT}
theorem al6 (n:Nat) (hN:X.N.Nodup) (i q:Nat) (hm:X.mg "range"=none) (hc:X.calm=true) (ad:X.env.scope=sc) (B:ScB X.N sc scope x frees js) (ha:XE X a F) (ht:∀ s H C Z,XTs (cxB X (x::frees) scope s H C Z) ifs T) (he:∀ s H C Z,XE (cxB X (x::frees) scope s H C Z) elt I)
  (ab:X.N[n]?=some y:=by rfl) (hy:X.env.scope.names.lookup y=some .local:=by rfl) (ae:Gl X "range":=by rfl) (Y:starEach [a] X.env=[(false,eval a X.env)]:=by rfl)
  (aa:swapsWith (.ListComp elt [⟨.Name x px,.Call (.Name "range" p) [a] [] pos',ifs,0⟩] scope pos) (some (.Name y py)) spos.line X.env=pure true:=by rfl)
  (hs:∀ v,foldedSetIterable (.Call (.Name "range" p) [a] [] pos') X.env v=pure v:=by intro _;rfl):XS X (.Assign [.Name y py] (.ListComp elt [⟨.Name x px,.Call (.Name "range" p) [a] [] pos',ifs,0⟩] scope pos) spos) (d_5 n (aX1 js i q (Y_7 F) T I)) :=
 PS.wk (U_7 (tt:=tTt X.K T) (te:=tE X.K I) hN ab hy hc ad B (M_3 ae hm (o_0 ha u_4 Y) Y) ht he aa hs) λ Dn σ H O=>by
  obtain⟨c,H0,ρ,r,R,f,qq⟩:=O;unfold d_5 at f;obtain⟨⟨d,ac⟩,h9,f⟩:=a_1 f;have f':some (Res.nx (ac.set n (.im d)))=some r:=f;cases f';unfold aX1 at h9;obtain⟨⟨xs,af⟩,h1,f⟩:=a_1 h9;obtain⟨b,o,ys,o',k1,k2,k3,k4,rfl,rfl⟩:=aC9 f;unfold Y_7 at h1;obtain⟨⟨d1,ag⟩,g1,h1⟩:=a_1 h1;obtain⟨j,g3,h1⟩:=a_1 h1;dsimp only at g3 h1;obtain⟨hj,h1⟩:=Fx.ifs h1;cases h1;refine⟨c,H0,ρ,d1,_,R,g1,λ v H1 Hh s1 R1 r1=>?_⟩
  cases d1 with
  |int k =>
   have e:k=j:=qi g3;subst e;unfold Rep at r1;subst r1;refine⟨k,rfl,hj.1,hj.2,aR6 R1 k1 k4 k2 k3 (v_8 0 k.toNat) λ vs H3 Hh3 s3 R3 r3=>λ p hp=>?_⟩
   have S:=Step.alloc (o:=.lst vs) R3.same hp;refine qq _ _ _ (s1.trans (s3.trans S.s0)) ((R3.after S).set n ?_);unfold Rep;exact⟨p,vs,rfl,.inl (.inl a_9),Reps.mono S.s0 _ r3⟩
  |_=>cases g3
end
theorem u_8 {k:Str}:∀ {st:List (List D)}{i:Nat},h_2 k st=some i->i<st.length
 |[],i,h=>by cases h
 |x::r,i,h=>by
  unfold h_2 at h
  split at h
  ·rename_i j O
   have:=u_8 O;cases h;rw[List.length_cons];omega
  ·split at h
   ·cases h;rw[List.length_cons];omega
   ·cases h
theorem B_8 (k:Str) (d:D):∀ st:List (List D),h_2 k (st++[[d]])=if Z_9 d=some k then some st.length else h_2 k st
 |[]=>by
  show (if ([d].head?.bind Z_9)=some k then some 0 else none)=_;rfl
 |x::r=>by
  have O:=B_8 k d r;rw[List.cons_append];unfold h_2;rw[O]
  by_cases h:Z_9 d=some k
  ·rw[if_pos h,if_pos h];rfl
  ·rw[if_neg h,if_neg h]
theorem F_5 (k:Str) (d:D):∀ (st:List (List D)) (i:Nat) (x:List D),st[i]?=some x->x≠[]->h_2 k (st.set i (x++[d]))=h_2 k st
 |[],i,x,h,_=>by cases h
 |y::r,0,x,h,hx=>by
  obtain rfl:y=x:=qi h;rw[List.set_cons_zero];unfold h_2
  have:(y++[d]).head?=y.head?:=by
   cases y with
   |nil=>exact absurd rfl hx
   |cons a b=>rfl
  rw[this]
 |y::r,i+1,x,h,hx=>by
  rw[List.set_cons_succ];unfold h_2;rw[F_5 k d r i x h hx]
structure SS (K:Frag) (Hi Hin H:Hp) (l S T:Addr) (vs:List V) (st:List (List D)) (refs:List Addr) (kvs:List (Key×V)):Prop where
 old:Same Hin H
 hl:H l=some (.lst vs)
 hS:H S=some (.lst (refs.map .ref))
 hT:H T=some (.dK kvs)
 nS:Hin S=none
 nT:Hin T=none
 lS:l≠S
 len:refs.length=st.length
 ats:∀ (i:Nat) (a:Addr) (x:List D),refs[i]?=some a->st[i]?=some x->Hin a=none/\a≠l/\a≠S/\∃ ws,H a=some (.lst ws)/\Reps K Hi x ws
 nd:refs.Nodup
 ne:∀ x∈st,x≠[]/\∀ d∈x,r3 d=true
 key:∀ k,valV kvs (.inr k)=(h_2 k st).bind λ i=>(refs[i]?).map V.ref
 kl:kvs.length<=st.length
section
variable {K:Frag}{Hi Hin H H':Hp}{l S T p:Addr}{vs:List V}{st:List (List D)}{refs:List Addr}{kvs:List (Key×V)}{d:D}{v:V}{k:Str}
theorem SS.refAt (h:SS K Hi Hin H l S T vs st refs kvs) {a:Addr} (O:a∈refs):∃ (i:Nat) (x:List D),refs[i]?=some a/\st[i]?=some x:=by
 obtain⟨i,hi⟩:=List.mem_iff_getElem?.mp O;have:=(List.getElem?_eq_some_iff.mp hi).1;have hl:=h.len;exact⟨i,st[i],hi,List.getElem?_eq_getElem (by omega)⟩
theorem SS.new (h:SS K Hi Hin H l S T vs st refs kvs) (Y:H p=none) (e1:H' p=some (.lst [v])) (e2:H' S=some (.lst (refs.map .ref++[.ref p]))) (e3:H' T=some (.dK (G_6 kvs (.inr k) (.ref p))))
  (e4:∀ x,x≠p->x≠S->x≠T->H' x=H x) (rv:Rep K Hi d v) (hk:Z_9 d=some k) (h3:r3 d=true):SS K Hi Hin H' l S T vs (st++[[d]]) (refs++[p]) (G_6 kvs (.inr k) (.ref p)):=by
 have aa:Hin p=none:=h.old.free Y;have lp:l≠p:=a_2 h.hl Y;have lT:l≠T:=Z_5 h.hl h.hT (λ z=>nomatch z)
 have ST:S≠T:=Z_5 h.hS h.hT (λ z=>nomatch z)
 have Sp:S≠p:=a_2 h.hS Y;have hl:=h.len;refine⟨λ b o e=>?_,by rw[e4 l lp h.lS lT];exact h.hl,by rw[List.map_append];exact e2,e3,h.nS,h.nT,h.lS,by simp[hl],λ i a x R O=>?_,?_,λ x O=>?_,λ j=>?_,?_⟩
 ·rw[e4 b (a_2 e aa) (a_2 e h.nS) (a_2 e h.nT)];exact h.old b o e
 ·by_cases hi:i<refs.length
  ·rw[List.getElem?_append_left hi] at R
   rw[List.getElem?_append_left (by omega)] at O
   obtain⟨a1,a2,a3,ws,Z,a5⟩:=h.ats i a x R O;refine⟨a1,a2,a3,ws,?_,a5⟩;rw[e4 a (a_2 Z Y) a3 (Z_5 Z h.hT (λ z=>nomatch z))];exact Z
  ·rw[List.getElem?_append_right (by omega)] at R O
   have i0:i-refs.length=0:=by
    have:=(List.getElem?_eq_some_iff.mp R).1;simp at this;omega
   rw[i0] at R;rw[show i-st.length=0 by omega] at O
   cases R;cases O;exact⟨aa,lp.symm,Sp.symm,[v],e1,Reps.one rv⟩
 ·rw[List.nodup_append]
  refine⟨h.nd,by simp,λ a R b hb=>?_⟩
  rw[List.mem_singleton.mp hb];obtain⟨i,x,hi,O⟩:=h.refAt R;obtain⟨_,_,_,ws,Z,_⟩:=h.ats i a x hi O;exact a_2 Z Y
 ·rcases qw O with O | O
  ·exact h.ne x O
  ·rw[List.mem_singleton.mp O]
   refine⟨by simp,λ e he=>?_⟩
   rw[List.mem_singleton.mp he];exact h3
 ·rw[al9,B_8,hk]
  by_cases e:(Sum.inr j:Key)=Sum.inr k
  ·have e':j=k:=Sum.inr.inj e
   subst e';rw[if_pos rfl,if_pos rfl];show _=((refs++[p])[st.length]?).map V.ref;rw[<- hl,List.getElem?_append_right (Nat.le_refl _),Nat.sub_self];rfl
  ·have e':¬ some k=some j:=λ z=>e (by rw[Option.some.inj z])
   rw[if_neg e,if_neg e',h.key j];cases q:h_2 j st with
   |none=>rfl
   |some i =>
    have:=u_8 q;show (refs[i]?).map V.ref=((refs++[p])[i]?).map V.ref;rw[List.getElem?_append_left (by omega)]
 ·have:=t_5 kvs (Sum.inr k) (V.ref p)
  have:=h.kl;rw[List.length_append,List.length_singleton];omega
theorem SS.app (h:SS K Hi Hin H l S T vs st refs kvs) {i:Nat}{a:Addr}{x:List D}{ws:List V} (Z:st[i]?=some x) (ha:refs[i]?=some a) (hw:H a=some (.lst ws)) (rv:Rep K Hi d v) (h3:r3 d=true) :
  SS K Hi Hin (upd H a (.lst (ws++[v]))) l S T vs (st.set i (x++[d])) refs kvs:=by
 obtain⟨a1,a2,a3,aa,a4,a5⟩:=h.ats i a x ha Z;rw[hw] at a4;cases a4;have aT:T≠a:=Z_5 h.hT hw (λ z=>nomatch z)
 have xm:x∈st:=List.mem_of_getElem? Z;refine⟨λ b o e=>by rw[a_8 (a_2 e a1)];exact h.old b o e,by rw[a_8 (Ne.symm a2)];exact h.hl,by rw[a_8 (Ne.symm a3)];exact h.hS,by rw[a_8 aT];exact h.hT,h.nS,h.nT,h.lS,by rw[List.length_set];exact h.len,λ j b y Y O=>?_,h.nd,λ y O=>?_,λ j=>?_,by rw[List.length_set];exact h.kl⟩
 ·by_cases e:j=i
  ·subst e
   rw[ha] at Y;cases Y;rw[List.getElem?_set_self (List.getElem?_eq_some_iff.mp Z).1] at O;cases O;exact⟨a1,a2,a3,_,a_9,a5.app (Reps.one rv)⟩
  ·rw[List.getElem?_set_ne (Ne.symm e)] at O
   obtain⟨b1,b2,b3,us,b4,b5⟩:=h.ats j b y Y O
   have nb:b≠a:=λ z=>by
    subst z;obtain⟨p1,q1⟩:=List.getElem?_eq_some_iff.mp Y;obtain⟨p2,q2⟩:=List.getElem?_eq_some_iff.mp ha;exact e ((List.getElem_inj h.nd).mp (q1.trans q2.symm))
   exact⟨b1,b2,b3,us,by rw[a_8 nb];exact b4,b5⟩
 ·rcases List.mem_or_eq_of_mem_set O with O | rfl
  ·exact h.ne y O
  ·refine⟨λ z=>by simp at z,λ e R=>?_⟩
   rcases qw R with R | R
   ·exact (h.ne x xm).2 e R
   ·rw[List.mem_singleton.mp R];exact h3
 ·rw[F_5 j d st i x Z (h.ne x xm).1];exact h.key j
theorem ad2 {H:Hp}:∀ (st:List (List D)) (refs:List Addr),refs.length=st.length->(∀ (i:Nat) (a:Addr) (x:List D),refs[i]?=some a->st[i]?=some x->Rep K H (.lst x) (.ref a))->Reps K H (st.map D.lst) (refs.map V.ref)
 |[],[],_,_=>Reps.nil_
 |[],_::_,e,_=>by cases e
 |_::_,[],e,_=>by cases e
 |x::st,a::refs,e,h=>by
  rw[List.map_cons,List.map_cons];refine Reps.cons (h 0 a x rfl rfl) (ad2 st refs (by simpa using e) λ i b y O R=>h (i+1) b y ?_ ?_)
  ·simpa using O
  ·simpa using R
theorem SS.fin (h:SS K Hi Hin H l S T vs st refs kvs) (Z:Same Hi Hin):∃ Hi',Step Hi Hin Hi' H/\Rep K Hi' (.lst (st.map D.lst)) (.ref S):=by
 have fr:∀ b,(b=S\/b∈refs)->Hin b=none:=λ b R=>by
  rcases R with rfl | R
  ·exact h.nS
  ·obtain⟨i,x,hi,Y⟩:=h.refAt R
   exact (h.ats i b x hi Y).1
 have s0:Same Hi (λ b=>if b=S\/b∈refs then H b else Hi b):=λ b o e=>by
  have:¬ (b=S\/b∈refs):=λ z=>by
   have:=fr b z;rw[Z b o e] at this;cases this
  show (if b=S\/b∈refs then H b else Hi b)=some o;rw[if_neg this];exact e
 refine⟨λ b=>if b=S\/b∈refs then H b else Hi b,⟨s0,h.old,λ b o e=>?_,λ b o e=>?_⟩,?_⟩
 ·have O:(if b=S\/b∈refs then H b else Hi b)=some o:=e
  by_cases z:b=S\/b∈refs
  ·rw[if_pos z] at O;exact O
  ·rw[if_neg z] at O;exact h.old b o (Z b o O)
 ·have O:(if b=S\/b∈refs then H b else Hi b)=some o:=e
  by_cases z:b=S\/b∈refs
  ·exact .inr (fr b z)
  ·rw[if_neg z] at O;exact .inl O
 ·unfold Rep
  refine⟨S,refs.map V.ref,rfl,.inl (.inl ?_),ad2 st refs h.len λ i a x ha Y=>?_⟩
  ·show (if S=S\/S∈refs then H S else Hi S)=_
   rw[if_pos (.inl rfl)];exact h.hS
  ·obtain⟨_,_,_,ws,a4,a5⟩:=h.ats i a x ha Y
   unfold Rep;refine⟨a,ws,rfl,.inl (.inl ?_),Reps.mono s0 _ a5⟩;show (if a=S\/a∈refs then H a else Hi a)=_;rw[if_pos (.inr (List.mem_of_getElem? ha))];exact a4
end
theorem L_6 {ds:List D}{d:D} (h:ay9 ds=some d):∃ gap xs st,ds=[.int gap,.lst xs]/\xs.length<64/\xs.all r3=true/\t_1 gap (j_5 xs) []=some st/\d=.lst (st.map .lst):=by
 unfold ay9 at h
 split at h
 ·rename_i gap xs
  split at h
  ·rename_i O
   obtain⟨st,R,Y⟩:=a_1 h;exact⟨gap,xs,st,rfl,O.1,O.2,R,(qi Y).symm⟩
  ·cases h
 ·cases h
noncomputable def Few (n:Nat) (st:List (List D)):Prop:=st.length<=n/\∀ x∈st,x.length<=n
theorem aq4 {n:Nat}{st:List (List D)} (h:Few n st) (gap:Int) (k:Str) (t:Int) (d:D):Few (n+1) (l_4 gap st k t d):=by
 have new:Few (n+1) (st++[[d]]):=⟨by rw[List.length_append,List.length_singleton];have:=h.1;omega,λ x O=>by
  rcases qw O with O | O
  ·have:=h.2 x O;omega
  ·rw[List.mem_singleton.mp O];simp⟩
 unfold l_4
 split
 ·rename_i i hi
  split
  ·refine⟨by rw[List.length_set];have:=h.1;omega,λ x O=>?_⟩
   rcases List.mem_or_eq_of_mem_set O with O | rfl
   ·have:=h.2 x O;omega
   ·have hl:=u_8 hi
    rw[List.getD_eq_getElem?_getD,List.getElem?_eq_getElem hl];have:=h.2 _ (List.getElem_mem hl);simp;omega
  ·exact new
 ·exact new
abbrev am1 (K:Frag) (i j:Nat):TS:=ay1 (tBM K "list" Q_6 (Q_2 i) (ay2 (Q_2 j) aL4))
abbrev aW5 (K:Frag) (i:Int):TE:=tOp (aW8 K) (Q_2 4) (L2.tC (.int i))
abbrev tbS (K:Frag):TS :=
 at5 (aW6 (at6 (Q_2 3) (aW5 K 1)) (S_3 5))
 (at5 (bi5 (L2.tOr (ac9 (tOp (λ x y H Q=>y=.non/\Q (.bl (decide (x=.non))) H) (Q_2 5) (L2.tC .non)))
   (ac9 (tOp (rI0 λ i j=>.bl (decide (j<=i))) (tOp (rI0 λ i j=>.int (i-j)) (aW5 K 0) (tOp (aW8 K) (tOp (bb2 K) (Q_2 5) (tUn (rU λ i=>.int (-i)) (L2.tC (.int 1)))) (L2.tC (.int 0)))) (Q_2 0))))
  (at5 (aW6 (aY6 aL4) (S_3 5)) (at5 (az3 (Q_2 3) (aW5 K 1) (Q_2 5)) (am1 K 2 5))) aL5)
 (am1 K 5 4))
theorem av5 {K:Frag}{Hi H:Hp}{t u:Int}{k:Str}{v:V} (O:Rep K Hi (.tup [.int t,.str k,.int u]) v) (s:Same Hi H):∃ a,v=.ref a/\SqT K H a [.int t,.str k,.int u]:=by
 unfold Rep at O;obtain⟨a,Y,rfl,R,r⟩:=O;unfold Reps at r;obtain⟨x,Z,rfl,e1,r⟩:=r;unfold Reps at r;obtain⟨y,r2,rfl,e2,r⟩:=r;unfold Reps at r;obtain⟨z,r3,rfl,e3,r⟩:=r;unfold Reps at r;subst r;unfold Rep at e1 e2 e3;subst e1 e2 e3;exact⟨a,rfl,Same.seqT s R⟩
theorem am4 {K:Frag}{Hi Hin H:Hp}{l S T:Addr}{vs:List V}{st:List (List D)}{refs:List Addr}{kvs:List (Key×V)}{n:Nat} (h:SS K Hi Hin H l S T vs st refs kvs) (hs:Same Hi Hin) (R:Few n st) (hn:n<64) {gap t u:Int}{k:Str}{v:V} (rv:Rep K Hi (.tup [.int t,.str k,.int u]) v)
  (x1 w:Option V) (Dn:Ends) (q:∀ H' w' Y aa,SS K Hi Hin H' l S T vs (l_4 gap st k t (.tup [.int t,.str k,.int u])) Y aa->Dn.nx [some (.int gap),x1,some (.ref S),some (.ref T),some v,w'] H') :
  tbS K Dn [some (.int gap),x1,some (.ref S),some (.ref T),some v,w] H:=by
 have big:(64:Nat)<=sizeLine:=by decide
 obtain⟨a,rfl,sq⟩:=av5 rv (hs.trans h.old);have ae:=h.len;refine⟨.ref T,rfl,T,rfl,.inl ⟨kvs,.inl h.hT⟩,.ref a,rfl,a,_,1,.str k,rfl,rfl,sq,rfl,valV kvs (.inr k),DGet.k (k:=.inr k) h.hT,?_⟩
 have new:l_4 gap st k t (.tup [.int t,.str k,.int u])=st++[[.tup [.int t,.str k,.int u]]]->∀ w',at5 (at5 (aW6 (aY6 aL4) (S_3 5)) (at5 (az3 (Q_2 3) (aW5 K 1) (Q_2 5)) (am1 K 2 5))) (am1 K 5 4) Dn [some (.int gap),x1,some (.ref S),some (.ref T),some (.ref a),w'] H:=λ es w'=>by
  refine⟨by decide,λ p hp=>?_⟩
  have Tp:T≠p:=a_2 h.hT hp;have Sp:S≠p:=a_2 h.hS hp;have ST:S≠T:=Z_5 h.hS h.hT (λ z=>nomatch z)
  have kl:kvs.length<sizeLine:=by have:=h.kl;have:=R.1;omega
  have s1:Same H (upd H p (.lst [])):=λ b o e=>by rw[a_8 (a_2 e hp)];exact e
  refine⟨.ref p,rfl,.ref T,rfl,.ref a,rfl,a,_,1,.str k,rfl,rfl,Same.seqT s1 sq,rfl,T,_,rfl,DPut.k (k:=.inr k) (by rw[a_8 Tp];exact h.hT) kl,?_⟩
  have eS:(upd (upd H p (.lst [])) T (.dK (G_6 kvs (Sum.inr k) (.ref p)))) S=some (.lst (refs.map .ref)):=by
   rw[a_8 ST,a_8 Sp];exact h.hS
  refine⟨.ref S,rfl,.inl ⟨rfl,_,SqL.of eS⟩,.ref p,rfl,S,_,.ref p,rfl,rfl,eS,?_,?_⟩
  ·rw[List.length_map];have:=R.1;omega
  ·have ep:(upd (upd (upd H p (.lst [])) T (.dK (G_6 kvs (Sum.inr k) (.ref p)))) S (.lst (refs.map .ref++[.ref p]))) p=some (.lst []):=by
    rw[a_8 (Ne.symm Sp),a_8 (Ne.symm Tp),a_9]
   refine⟨.ref p,rfl,.inl ⟨rfl,_,SqL.of ep⟩,.ref a,rfl,p,[],.ref a,rfl,rfl,ep,by show 0<sizeLine;omega,?_⟩
   refine q _ _ (refs++[p]) (G_6 kvs (.inr k) (.ref p)) ?_;rw[es];refine h.new hp a_9 ?_ ?_ (λ x n1 n2 n3=>?_) rv rfl rfl
   ·rw[a_8 Sp,a_9]
   ·rw[a_8 Tp,a_8 (Ne.symm ST),a_9]
   ·rw[a_8 n1,a_8 n2,a_8 n3,a_8 n1]
 cases e:h_2 k st with
 |none =>
  have hv:valV kvs (.inr k)=none:=by rw[h.key k,e];rfl
  rw[hv];exact⟨.non,rfl,rfl,true,rfl,bc7 (bc7 (new (by unfold l_4;rw[e]) _))⟩
 |some i =>
  have il:=u_8 e;have gi:st[i]?=some st[i]:=List.getElem?_eq_getElem il;have ga:refs[i]?=some refs[i]:=List.getElem?_eq_getElem (by omega)
  have hv:valV kvs (.inr k)=some (.ref refs[i]):=by rw[h.key k,e];show (refs[i]?).map V.ref=_;rw[ga];rfl
  rw[hv];obtain⟨b1,b2,b3,ws,b4,b5⟩:=h.ats i _ _ ga gi;obtain⟨ne,ab⟩:=h.ne _ (List.getElem_mem il)
  obtain⟨O,Z,hx⟩:∃ O Z,st[i]=O++[Z]:=by
   rcases List.eq_nil_or_concat st[i] with z | ⟨O,Z,z⟩
   ·exact absurd z ne
   ·exact⟨O,Z,by rw[z,List.concat_eq_append]⟩
  have ad:r3 Z=true:=ab Z (by rw[hx];simp)
  obtain⟨t',k',u',rfl⟩:=Y_8 ad;rw[hx] at b5
  obtain⟨wp,wl,rfl,r1,r2⟩:∃ wp wl,ws=wp++[wl]/\Reps K Hi O wp/\Rep K Hi (.tup [.int t',.str k',.int u']) wl:=by
   have hl:=b5.length;rw[List.length_append,List.length_singleton] at hl;have h1:=b5.take O.length;have h2:=b5.drop O.length;rw[List.take_left'] at h1;rw[List.drop_left'] at h2
   ·obtain⟨wl,hw,rl⟩:=Reps.v1 h2
    exact⟨ws.take O.length,wl,by rw[<- hw,List.take_append_drop],h1,rl⟩
   ·rfl
   ·rfl
  obtain⟨al,rfl,ac⟩:=av5 r2 (hs.trans h.old)
  have jn:O_2 gap t (st.getD i [])=decide (t-t'<gap):=by
   unfold O_2;rw[List.getD_eq_getElem?_getD,gi,Option.getD_some,hx,List.getLast?_append];rfl
  have gd:st.getD i []=st[i]:=by rw[List.getD_eq_getElem?_getD,gi];rfl
  refine⟨.ref refs[i],rfl,rfl,false,rfl,bk6 ⟨.ref a,rfl,a,_,0,.int t,rfl,rfl,sq,rfl,.ref refs[i],rfl,1,rfl,refs[i],_,-1,.ref al,rfl,rfl,SqL.of b4,as0 _ _,al,_,0,.int t',rfl,rfl,ac,rfl,t,t',rfl,rfl,.int gap,rfl,t-t',gap,rfl,rfl,decide (gap<=t-t'),rfl,?_⟩⟩
  by_cases c:gap<=t-t'
  ·rw[decide_eq_true c]
   exact bc7 <| new (by unfold l_4;rw[e];show (if O_2 gap t (st.getD i [])=true then _ else _)=_;rw[jn,if_neg (by simp;omega)]) _
  ·rw[decide_eq_false c]
   refine bk6 ⟨.ref refs[i],rfl,.inl ⟨rfl,_,SqL.of b4⟩,.ref a,rfl,refs[i],_,.ref a,rfl,rfl,b4,?_,?_⟩
   ·have:=R.2 _ (List.getElem_mem il)
    have hl:=b5.length;rw[<- hx] at hl;omega
   ·refine q _ _ refs kvs ?_
    have es:l_4 gap st k t (.tup [.int t,.str k,.int u])=st.set i (st[i]++[.tup [.int t,.str k,.int u]]):=by
     unfold l_4;rw[e];show (if O_2 gap t (st.getD i [])=true then _ else _)=_;rw[jn,if_pos (by simp;omega),gd]
    rw[es];exact h.app gi ga b4 rv rfl
theorem Y_6 {gap:Int}{d:D}{r:List D}{st fin:List (List D)} (h:t_1 gap (d::r) st=some fin):∃ t k u,d=.tup [.int t,.str k,.int u]/\t_1 gap r (l_4 gap st k t d)=some fin:=by
 unfold t_1 at h
 split at h
 ·rename_i z;cases z
 ·rename_i z
  cases z;exact⟨_,_,_,rfl,h⟩
 ·cases h
theorem am3 {K:Frag}{Hi Hin H:Hp}{l S T:Addr}{vs:List V}{ds:List D}{gap:Int}{fin:List (List D)} (h0:SS K Hi Hin H l S T vs [] [] []) (hs:Same Hi Hin) (rs:Reps K Hi ds vs) (ai:ds.length<64) (go:t_1 gap ds []=some fin) (x1 t0 w0:Option V) (Dn:Ends)
  (q:∀ H' t' R refs kvs,SS K Hi Hin H' l S T vs fin refs kvs->Dn.nx [some (.int gap),x1,some (.ref S),some (.ref T),t',R] H') :
  ∃ W:Nat->Nat->L2.St->Hp->Prop,(∃ m,W 0 m [some (.int gap),x1,some (.ref S),some (.ref T),t0,w0] H)/\∀ i m σ H,W i m σ H ->
   ((Itl K l).stop i H/\Dn.nx σ H)\/((Itl K l).go i H/\∃ N:L2.St->Hp->Prop,(∀ O H',N O H'->∃ Y,Y<m/\W (i+1) Y O H')/\∀ x H',(Itl K l).yld i H x H'->S_3 4 x σ H' λ ah H2=>tbS K {Dn with nx:=N,ct:=N,bk:=Dn.nx} ah H2):=by
 refine⟨λ i m σ H=>m=ds.length-i/\i<=ds.length/\∃ st refs kvs t' R,σ=[some (.int gap),x1,some (.ref S),some (.ref T),t',R]/\SS K Hi Hin H l S T vs st refs kvs/\Few i st/\t_1 gap (ds.drop i) st=some fin,
  ⟨ds.length,by simp,Nat.zero_le _,[],[],[],t0,w0,rfl,h0,⟨qj _,λ x hx=>by cases hx⟩,by simpa using go⟩,?_⟩
 rintro i m σ H1 ⟨rfl,hi,st,refs,kvs,t',R,rfl,h1,ac,Z⟩
 by_cases ad:i<ds.length
 ·have hd:ds[i]?=some ds[i]:=by simp[ad]
  obtain⟨v,hv,rv⟩:=rs.get hd;rw[J_0 hd] at Z;obtain⟨t,k,u,ed,Z⟩:=Y_6 Z;rw[ed] at rv Z;refine .inr ⟨⟨vs,v,SqL.of h1.hl,hv⟩,λ O H'=>∃ Y,Y<ds.length-i/\Y=ds.length-(i+1)/\i+1<=ds.length/\∃ st refs kvs t' R,O=[some (.int gap),x1,some (.ref S),some (.ref T),t',R]/\SS K Hi Hin H' l S T vs st refs kvs/\Few (i+1) st/\t_1 gap (ds.drop (i+1)) st=some fin,λ O H' ⟨Y,a,b⟩=>⟨Y,a,b⟩,λ x H' ae=>?_⟩
  obtain⟨e1,e2⟩:=ae;have:=e2 vs (SqL.of h1.hl);rw[hv] at this;cases this;subst e1;exact am4 h1 hs ac (by omega) rv x1 R _ λ H' af aa ab hh=>⟨_,by omega,rfl,ad,_,aa,ab,_,af,rfl,hh,aq4 ac gap k t _,Z⟩
 ·have hn:ds.drop i=[]:=List.drop_eq_nil_of_le (by omega)
  rw[hn] at Z;have ag:some st=some fin:=Z;cases ag;exact .inl ⟨⟨vs,SqL.of h1.hl,by rw[<- rs.length];omega⟩,q H1 t' R refs kvs h1⟩
section
variable {X:Cx}{pos:Pos}{e:Expr}{te:TE}
theorem pvr (i:Nat) {x:Str} (Z:X.N[i]?=some x:=by rfl) (R:Vis X.env.scope x:=by first | exact Or.inl rfl | exact Or.inr (Or.inl rfl) | exact Or.inr (Or.inr rfl)) (Y:(x==("__debug__":Str))=false:=by decide)
  (O:(x==("__classdict__":Str))=false:=by decide):PE X (.Name x pos) (Q_2 i):=u_3 Z R Y O
theorem au5 (i:Nat) {x:Str}{p1 p2 Y:Pos} (he:PE X e te) (hN:X.N[i]?=some x:=by rfl) (hv:Vis X.env.scope x:=by first | exact Or.inl rfl | exact Or.inr (Or.inl rfl) | exact Or.inr (Or.inr rfl)) (hd:(x==("__debug__":Str))=false:=by decide)
  (ab:(x==("__classdict__":Str))=false:=by decide) (R:attributeBase (.Name x p1) "append" X.env (eval (.Name x p1) X.env)=eval (.Name x p1) X.env:=by rfl)
  (Z:((backTo Y (starEach [e] X.env)).all (λ x=>!x.1)&&(backToKw Y (keywordEach [] X.env)).all (λ x=>x.1.isSome)&&decide ([e].length+([]:List Keyword).length+(if ([]:List Keyword).isEmpty then 0 else 1)<30))=true:=by rfl)
  (O:(p2.endLine==Y.line)=true:=by rfl) (aa:starEach [e] X.env=(false,eval e X.env)::starEach [] X.env:=by rfl) (ac:(backTo Y (starEach [] X.env)).any (·.1)=false:=by rfl)
  (hs:swapsWith (.Call (.Attribute (.Name x p1) "append" p2) [e] [] Y) none pos.line X.env=pure false:=by rfl) :
  PS X (.Expr (.Call (.Attribute (.Name x p1) "append" p2) [e] [] Y) pos) (ay1 (tBM X.K "list" Q_6 (Q_2 i) (ay2 te aL4))) :=
 Q_9 (aP3 PySem.F.plainAttrs_list PySem.F.slot_list_append PySem.F.type_list_append N_6 (u_3 hN hv hd ab) (o_0 he u_4 aa) R Z O aa ac) hs
end
end Fx
namespace Fx
open PySem
noncomputable section
noncomputable def ar6:FS :=
 (b_4 (sIf (tOr (tNot (tV (eTy .str (eV 0)))) (tNot (tB (e3 dLe dLe (zI 1) (eF w_8 (aC (eV 0) aN)) (zI 8)))))
 (e_7 (eC (.bl false)))
 sN)
 (e_7 (eF bh6 (aC (eLC [] (eV 0) tYes (e2 aH0 (eV 0) (zT "abcdefghijklmnopqrstuvwxyz"))) aN))))
noncomputable def u_7:List D->Option D:=fnD 1 0 ar6
noncomputable def u_0:FS :=
 (e_7 (e2 dEq (e2 aH0 (eV 1) (e2 b_2 (eV 0) (zI 1))) (e2 dEq (e2 b_2 (eV 0) (zI 0)) (zT "only"))))
noncomputable def c_9:List D->Option D:=fnD 2 0 u_0
noncomputable def p_0:List D->Option D:=fnD 2 1 λ _=>none
noncomputable def K_2:FS :=
 (b_4 (sIf (tAnd (tB (e2 dEq (e2 b_2 (eV 0) (zI 0)) (zT "but"))) (tB (e2 dEq (e2 b_2 (eV 1) (zI 0)) (zT "but"))))
 (e_7 v_1)
 sN)
 (b_4 (sIf (tB (e2 dEq (e2 b_2 (eV 0) (zI 0)) (zT "but")))
 (e_7 (eF p_0 (aC (eV 1) (aC (eV 0) aN))))
 sN)
 (b_4 (d_5 2 (eF X_2 (aC (eLC [1] (e2 b_2 (eV 0) (zI 1)) (tV (eF c_9 (aC (eV 1) (aC (eV 0) aN)))) (eV 0)) aN)))
 (e_7 (eIf (tV (eV 2)) (m_6 (aC (zT "only") (aC (eV 2) aN))) (eC .non))))))
noncomputable def o_9:List D->Option D:=fnD 2 1 K_2
noncomputable def S_7:FS :=
 (b_4 (sIf (tAnd (tB (e2 dEq (e2 b_2 (eV 0) (zI 0)) (zT "but"))) (tB (e2 dEq (e2 b_2 (eV 1) (zI 0)) (zT "but"))))
 (e_7 v_1)
 sN)
 (b_4 (sIf (tB (e2 dEq (e2 b_2 (eV 0) (zI 0)) (zT "but")))
 (e_7 (eF o_9 (aC (eV 1) (aC (eV 0) aN))))
 sN)
 (b_4 (d_5 2 (eF X_2 (aC (eLC [1] (e2 b_2 (eV 0) (zI 1)) (tV (eF c_9 (aC (eV 1) (aC (eV 0) aN)))) (eV 0)) aN)))
 (e_7 (eIf (tV (eV 2)) (m_6 (aC (zT "only") (aC (eV 2) aN))) (eC .non))))))
noncomputable def m_0:List D->Option D:=fnD 2 1 S_7
noncomputable def m_4:FS :=
 (b_4 (sIf (tNot (tB (e3 dLe dLt (zI 0) (eV 3) (eV 2))))
 (e_7 (eC .non))
 sN)
 (b_4 (d_5 4 (eIf (tB (e2 dIs (eV 0) (eC .non))) (eC .non) (e2 s_2 (eV 0) (e2 n_6 (e2 W_5 (eV 3) (eV 0)) (eV 2)))))
 (b_4 (d_5 5 (eIf (tB (e2 dIs (eV 1) (eC .non))) (eC .non) (e2 W_5 (eV 1) (e2 n_6 (e2 W_5 (eV 1) (eV 3)) (eV 2)))))
 (b_4 (sIf (tOr (tB (e2 dIs (eV 4) (eC .non))) (tB (e2 dIs (eV 5) (eC .non))))
 (e_7 (m_6 (aC (eV 4) (aC (eV 5) (aC (eV 2) (aC (eV 3) aN))))))
 sN)
 (b_4 (sIf (tB (e2 dGt (eV 4) (eV 5)))
 (e_7 (eC .non))
 sN)
 (b_4 (sIf (tB (e2 dEq (eV 4) (eV 5)))
 (e_7 (m_6 (aC (eV 4) (aC (eV 5) (aC (zI 1) (aC (zI 0) aN))))))
 sN)
 (e_7 (m_6 (aC (eV 4) (aC (eV 5) (aC (eV 2) (aC (eV 3) aN))))))))))))
noncomputable def a_6:List D->Option D:=fnD 4 2 m_4
noncomputable def x_8:FS :=
 (e_7 (aq6 (eOr (e2 dIs (eV 1) (eC .non)) (e2 dLe (eV 1) (eV 0))) (eOr (e2 dIs (eV 2) (eC .non)) (e2 dLe (eV 0) (eV 2)))))
noncomputable def h_4:List D->Option D:=fnD 3 0 x_8
noncomputable def v_4:FS :=
 (e_7 (aq6 (eF h_4 (aC (eV 1) (aC (e2 b_2 (eV 0) (zI 0)) (aC (e2 b_2 (eV 0) (zI 1)) aN)))) (e2 dEq (e2 n_6 (eV 1) (e2 b_2 (eV 0) (zI 2))) (e2 b_2 (eV 0) (zI 3)))))
noncomputable def k_9:List D->Option D:=fnD 2 0 v_4
noncomputable def m_9:FS :=
 (b_4 (sIf (tOr (tB (e2 dIs (eV 0) (eC .non))) (tB (e2 dIs (eV 1) (eC .non))))
 (e_7 (eIf (tB (e2 dIs (eV 0) (eC .non))) (eV 1) (eV 0)))
 sN)
 (e_7 (eF ar8 (aC (eV 0) (aC (eV 1) aN)))))
noncomputable def d_9:List D->Option D:=fnD 2 0 m_9
noncomputable def m_8:FS :=
 (b_4 (sIf (tOr (tB (e2 dIs (eV 0) (eC .non))) (tB (e2 dIs (eV 1) (eC .non))))
 (e_7 (eIf (tB (e2 dIs (eV 0) (eC .non))) (eV 1) (eV 0)))
 sN)
 (e_7 (eF aH8 (aC (eV 0) (aC (eV 1) aN)))))
noncomputable def c_3:List D->Option D:=fnD 2 0 m_8
noncomputable def i_6:FS :=
 (e_7 (eF a_6 (aC (eF d_9 (aC (e2 b_2 (eV 0) (zI 0)) (aC (eV 1) aN))) (aC (eF c_3 (aC (e2 b_2 (eV 0) (zI 1)) (aC (eV 2) aN))) (aC (e2 b_2 (eV 0) (zI 2)) (aC (e2 b_2 (eV 0) (zI 3)) aN))))))
noncomputable def a_7:List D->Option D:=fnD 3 0 i_6
noncomputable def q_6:FS :=
 (e_7 (eF a_7 (aC (eV 0) (aC (e2 s_2 (eV 1) (zI 1)) (aC (eC .non) aN)))))
noncomputable def c_8:List D->Option D:=fnD 2 0 q_6
noncomputable def q_5:FS :=
 (e_7 (eF a_7 (aC (eV 0) (aC (eC .non) (aC (e2 W_5 (eV 1) (zI 1)) aN)))))
noncomputable def c_7:List D->Option D:=fnD 2 0 q_5
noncomputable def D_0:FS :=
 (b_4 (d_5 3 (eLC [2,1] (be8 (eV 0) oN (oS (zI 2))) tYes (eIf (tB (e2 dIs (eV 0) (eC .non))) (eC .non) (e2 s_2 (e2 ab8 (eV 2) (eV 0)) (eV 1)))))
 (b_4 (sIf (tB (e2 dLt (eV 1) (zI 0)))
 (d_5 3 (r_7 (aC (e2 b_2 (eV 3) (zI 1)) (aC (e2 b_2 (eV 3) (zI 0)) aN))))
 sN)
 (b_4 (d_5 4 (e2 ab8 (eF aV8 (aC (eV 1) aN)) (e2 b_2 (eV 0) (zI 2))))
 (e_7 (eF a_6 (aC (e2 b_2 (eV 3) (zI 0)) (aC (e2 b_2 (eV 3) (zI 1)) (aC (eV 4) (aC (e2 n_6 (e2 s_2 (e2 ab8 (eV 1) (e2 b_2 (eV 0) (zI 3))) (eV 2)) (eV 4)) aN)))))))))
noncomputable def f_5:List D->Option D:=fnD 3 2 D_0
abbrev p_6:FS :=
 (b_4 (d_5 6 (e2 p_4 (eV 2) (eV 4)))
 (b_4 (d_5 7 (e2 W_5 (eV 2) (e2 ab8 (eV 6) (eV 4))))
 (b_4 (d_5 2 (eV 4))
 (b_4 (d_5 4 (eV 7))
 (b_4 (d_5 7 (e2 W_5 (eV 3) (e2 ab8 (eV 6) (eV 5))))
 (b_4 (d_5 3 (eV 5))
 (d_5 5 (eV 7))))))))
abbrev p_5:FT :=
 (tB (e2 dNe (eV 4) (zI 0)))
noncomputable def s_3:FS :=
 (b_4 (d_5 2 (e2 n_6 (eV 0) (eV 1)))
 (b_4 (d_5 3 (zI 1))
 (b_4 (d_5 4 (eV 1))
 (b_4 (d_5 5 (zI 0))
 (b_4 (at9 (λ ρ=>match ρ[1]? with | some (Sl.im (D.int m))=>m.toNat+2 | _=>0) p_5
 p_6)
 (e_7 (m_6 (aC (eV 2) (aC (eV 3) aN)))))))))
noncomputable def e_8:List D->Option D:=fnD 2 6 s_3
noncomputable def E_7:FS :=
 (b_4 (sIf (tB (e2 dEq (eV 1) (zI 0)))
 (e_7 v_1)
 sN)
 (b_4 (d_5 3 (eF e_8 (aC (eV 1) (aC (e2 b_2 (eV 0) (zI 2)) aN))))
 (b_4 (d_5 4 (e2 b_2 (eV 3) (zI 0)))
 (b_4 (d_5 5 (e2 W_5 (e2 b_2 (eV 0) (zI 3)) (eV 2)))
 (b_4 (sIf (tB (e2 dNe (e2 n_6 (eV 5) (eV 4)) (zI 0)))
 (e_7 (eC .non))
 sN)
 (b_4 (d_5 6 (e2 p_4 (e2 b_2 (eV 0) (zI 2)) (eV 4)))
 (b_4 (d_5 7 (eIf (tB (e2 dGt (eV 1) (zI 0))) (r_7 (aC (e2 b_2 (eV 0) (zI 0)) (aC (e2 b_2 (eV 0) (zI 1)) aN))) (r_7 (aC (e2 b_2 (eV 0) (zI 1)) (aC (e2 b_2 (eV 0) (zI 0)) aN)))))
 (b_4 (d_5 8 (eIf (tB (e2 dIs (e2 b_2 (eV 7) (zI 0)) (eC .non))) (eC .non) (e1 aK0 (e2 p_4 (e2 W_5 (eV 2) (e2 b_2 (eV 7) (zI 0))) (eV 1)))))
 (b_4 (d_5 9 (eIf (tB (e2 dIs (e2 b_2 (eV 7) (zI 1)) (eC .non))) (eC .non) (e2 p_4 (e2 W_5 (e2 b_2 (eV 7) (zI 1)) (eV 2)) (eV 1))))
 (e_7 (eF a_6 (aC (eV 8) (aC (eV 9) (aC (eV 6) (aC (e2 n_6 (e2 ab8 (e2 p_4 (eV 5) (eV 4)) (e2 b_2 (eV 3) (zI 1))) (eV 6)) aN)))))))))))))))
noncomputable def h_0:List D->Option D:=fnD 3 7 E_7
noncomputable def s_9:FS :=
 (b_4 (d_5 2 (eF h_0 (aC (eV 1) (aC (e2 b_2 (eV 0) (zI 2)) (aC (e2 b_2 (eV 0) (zI 3)) aN)))))
 (b_4 (sIf (tB (e2 dIs (eV 2) (eC .non)))
 (e_7 (eC .non))
 sN)
 (e_7 (eF a_7 (aC (eF f_5 (aC (eV 2) (aC (e2 b_2 (eV 0) (zI 2)) (aC (e2 b_2 (eV 0) (zI 3)) aN)))) (aC (e2 b_2 (eV 0) (zI 0)) (aC (e2 b_2 (eV 0) (zI 1)) aN)))))))
noncomputable def g_9:List D->Option D:=fnD 2 1 s_9
noncomputable def i_8:FS :=
 (b_4 (sIf (tOr (tB (e2 dIs (eV 0) (eC .non))) (tB (e2 dIs (eV 3) (eC .non))))
 (e_7 (eC .non))
 sN)
 (b_4 (d_5 1 (eF ar8 (aC (eV 1) (aC (zI 0) aN))))
 (b_4 (sIf (tAnd (tB (e2 n_8 (eV 2) (eC .non))) (tB (e2 dLe (eV 2) (eV 1))))
 (e_7 (eC .non))
 sN)
 (e_7 (m_6 (aC (eV 0) (aC (eV 1) (aC (eV 2) (aC (eV 3) aN)))))))))
noncomputable def b_1:List D->Option D:=fnD 4 0 i_8
noncomputable def r_1:FS :=
 (b_4 (d_5 2 (e2 b_2 (eV 1) (zI 0)))
 (b_4 (sIf (tOr (tB (e2 dLt (eV 2) (e2 b_2 (eV 0) (zI 1)))) (tAnd (tB (e2 n_8 (e2 b_2 (eV 0) (zI 2)) (eC .non))) (tB (e2 dGe (eV 2) (e2 b_2 (eV 0) (zI 2))))))
 (e_7 (eC (.bl false)))
 sN)
 (e_7 (aq6 (eF c_9 (aC (e2 b_2 (eV 0) (zI 0)) (aC (e2 b_2 (eV 1) (zI 1)) aN))) (eF k_9 (aC (e2 b_2 (eV 0) (zI 3)) (aC (e2 b_2 (eV 1) (zI 2)) aN)))))))
noncomputable def h_6:List D->Option D:=fnD 2 1 r_1
noncomputable def s_0:FS :=
 (b_4 (d_5 2 (eF m_0 (aC (e2 b_2 (eV 0) (zI 0)) (aC (e2 b_2 (eV 1) (zI 0)) aN))))
 (b_4 (d_5 3 (eF g_9 (aC (e2 b_2 (eV 0) (zI 3)) (aC (e2 b_2 (eV 1) (zI 3)) aN))))
 (e_7 (eF b_1 (aC (eV 2) (aC (eF ar8 (aC (e2 b_2 (eV 0) (zI 1)) (aC (e2 b_2 (eV 1) (zI 1)) aN))) (aC (eF c_3 (aC (e2 b_2 (eV 0) (zI 2)) (aC (e2 b_2 (eV 1) (zI 2)) aN))) (aC (eV 3) aN))))))))
noncomputable def h_1:List D->Option D:=fnD 2 2 s_0
noncomputable def u_1:FS :=
 (b_4 (sIf (tB (e2 dIs (eV 1) (eC .non)))
 (e_7 (r_7 aN))
 sN)
 (b_4 (d_5 2 (eLC [1] (eV 0) tYes (eF h_1 (aC (eV 0) (aC (eV 1) aN)))))
 (e_7 (eLC [] (eV 2) (tB (e2 n_8 (eV 0) (eC .non))) (eV 0)))))
noncomputable def e_3:List D->Option D:=fnD 2 1 u_1
abbrev I_5:FS :=
 (sIf (tB (e2 dEq (e2 b_2 (eV 2) (zI 1)) (eV 1)))
 (e_7 (eV 2))
 sN)
noncomputable def S_6:FS :=
 (b_4 (am6 (gN 2) (eV 0)
 I_5)
 (e_7 (eC .non)))
noncomputable def d_6:List D->Option D:=fnD 2 1 S_6
noncomputable def G_0:FS :=
 (e_7 (aq6 (eTy .int (eV 0)) (aX0 (eTy .bool (eV 0)))))
noncomputable def o_7:List D->Option D:=fnD 1 0 G_0
noncomputable def n_5:FS :=
 (b_4 (sIf (tB (e2 dEq (eV 0) (zT "count")))
 (e_7 (eF w_8 (aC (eV 1) aN)))
 sN)
 (b_4 (sIf (tB (e2 dEq (eV 0) (zT "sum")))
 (e_7 (eF aV5 (aC (eV 1) aN)))
 sN)
 (e_7 (eIf (tB (e2 dEq (eV 0) (zT "most"))) (eF ar8 (aC (eV 1) aN)) (eF aH8 (aC (eV 1) aN))))))
noncomputable def e_4:List D->Option D:=fnD 2 0 n_5
noncomputable def l_0:List D->Option D:=ay9
abbrev i_4:FS :=
 (b_4 (d_5 4 (eF e_4 (aC (e2 b_2 (e2 b_2 (eV 0) (zI 3)) (e1 aK0 (zI 1))) (aC (eLC [] (eV 3) tYes (e2 b_2 (eV 0) (zI 2))) aN))))
 (al0 2 (m_6 (aC (m_6 (aC (e2 b_2 (e2 b_2 (eV 3) (zI 0)) (zI 1)) (aC (e2 b_2 (e2 b_2 (eV 3) (zI 0)) (zI 0)) aN))) (aC (m_6 (aC (e2 b_2 (e2 b_2 (eV 3) (e1 aK0 (zI 1))) (zI 0)) (aC (eV 4) aN))) aN)))))
noncomputable def q_7:FS :=
 (b_4 (am5 2 (ao9 aN))
 (b_4 (am6 (gN 3) (eF l_0 (aC (e2 b_2 (e2 b_2 (eV 0) (zI 3)) (zI 0)) (aC (eV 1) aN)))
 i_4)
 (au0 2 (e_7 (eV 2)))))
noncomputable def f_6:List D->Option D:=fnD 2 3 q_7
noncomputable def x_9:FS :=
 (e_7 (eF n_9 (aC (eIf (tB (e2 dEq (e2 b_2 (eV 0) (zI 0)) (zT "gaps"))) (eF f_6 (aC (eV 0) (aC (eV 1) aN))) v_1) aN)))
noncomputable def b_3:List D->Option D:=fnD 2 0 x_9
noncomputable def K_1:FS :=
 (b_4 (sIf (tOr (tB (e2 dIs (eV 1) (eC .non))) (tOr (tNot (tV (e2 b_2 (eV 0) (zI 3)))) (tV (eF h_4 (aC (eV 1) (aC (e2 b_2 (e2 b_2 (eV 0) (zI 3)) (zI 0)) (aC (e2 b_2 (e2 b_2 (eV 0) (zI 3)) (zI 1)) aN)))))))
 (e_7 (eV 1))
 sN)
 (e_7 (eC .non)))
noncomputable def k_8:List D->Option D:=fnD 2 0 K_1
noncomputable def D_2:FS :=
 (e_7 (eF b_1 (aC (m_6 (aC (zT "only") (aC (m_6 (aC (eV 0) aN)) aN))) (aC (eV 1) (aC (eV 2) (aC (eC (.tup [.non,.non,(.int 1),(.int 0)])) aN))))))
noncomputable def d_2:List D->Option D:=fnD 3 0 D_2
noncomputable def P_5:FS :=
 (b_4 (sIf (tOr (tNot (tV (eF u_7 (aC (eV 1) aN)))) (tNot (tV (eF o_7 (aC (eV 2) aN)))))
 (e_7 (eC (.bl false)))
 sN)
 (b_4 (sIf (tB (e2 dEq (e2 b_2 (eV 0) (zI 0)) (zT "ever")))
 (e_7 (e2 dEq (eV 2) (zI 0)))
 sN)
 (b_4 (sIf (tB (e2 dEq (e2 b_2 (eV 0) (zI 0)) (zT "gaps")))
 (e_7 (e2 dGe (eV 2) (zI 0)))
 sN)
 (e_7 v_1))))
noncomputable def o_8:List D->Option D:=fnD 3 0 P_5
noncomputable def y_0:FS :=
 (b_4 (d_5 4 (eF d_6 (aC (eV 0) (aC (eV 1) aN))))
 (sIf (tOr (tB (e2 dIs (eV 4) (eC .non))) (tOr (tB (e2 dNe (e2 b_2 (eV 4) (zI 0)) (zT "ask"))) (tNot (tV (eF o_8 (aC (eF d_6 (aC (eV 0) (aC (e2 b_2 (e2 b_2 (eV 4) (zI 2)) (zI 0)) aN))) (aC (eV 2) (aC (eV 3) aN))))))))
 sNo
 sN))
noncomputable def k_5:List D->Option D:=fnD 4 1 y_0
noncomputable def t_9:FS :=
 (b_4 (sIf (tB (e2 dIs (eV 0) (eC .non)))
 (e_7 (r_7 aN))
 sN)
 (e_7 (eLC [0] (eV 1) (tV (eF h_6 (aC (eV 1) (aC (eV 0) aN)))) (eV 0))))
noncomputable def j_6:List D->Option D:=fnD 2 0 t_9
noncomputable def h_7:FS :=
 (b_4 (sIf (tB (e2 dIs (eV 1) (eC .non)))
 (e_7 (eV 2))
 sN)
 (e_7 (eIf (tB (e2 dEq (eV 0) (zT "most"))) (eF c_8 (aC (eV 2) (aC (eV 1) aN))) (eF c_7 (aC (eV 2) (aC (eV 1) aN))))))
noncomputable def c_6:List D->Option D:=fnD 3 0 h_7
noncomputable def d_1:FS :=
 (b_4 (d_5 4 (aT7 (e2 b_2 (eV 0) (zI 3)) (m_6 (aC (eC .non) (aC (eC .non) aN)))))
 (b_4 (sIf (tB (e2 dEq (eV 1) (zT "count")))
 (b_4 (d_5 6 (aq6 (e2 n_8 (eV 2) (eC .non)) (aq6 (e2 n_8 (e2 b_2 (eV 4) (zI 1)) (eC .non)) (e2 dGt (eV 2) (e2 b_2 (eV 4) (zI 1))))))
 (e_7 (eIf (tV (eV 6)) (r_7 aN) (r_7 (aC (eV 3) aN)))))
 sN)
 (b_4 (sIf (tAnd (tB (e2 dEq (eV 1) (zT "sum"))) (tB (e2 dIs (eV 2) (eC .non))))
 (e_7 (r_7 (aC (eV 3) aN)))
 sN)
 (b_4 (sIf (tB (e2 dEq (eV 1) (zT "sum")))
 (b_4 (d_5 7 (r_7 (aC (eF c_8 (aC (eV 3) (aC (zI 0) aN))) (aC (eF c_7 (aC (eV 3) (aC (zI 0) aN))) aN))))
 (e_7 (eLC [] (eV 7) (tB (e2 n_8 (eV 0) (eC .non))) (eV 0))))
 sN)
 (b_4 (d_5 5 (eF c_6 (aC (eV 1) (aC (eV 2) (aC (eV 3) aN)))))
 (b_4 (sIf (tAnd (tB (e2 n_8 (eV 5) (eC .non))) (tB (e2 dIs (eF k_8 (aC (eV 0) (aC (eV 2) aN))) (eC .non))))
 (d_5 5 (eF a_7 (aC (eV 5) (aC (e2 b_2 (eV 4) (zI 0)) (aC (e2 b_2 (eV 4) (zI 1)) aN)))))
 sN)
 (e_7 (eIf (tB (e2 dIs (eV 5) (eC .non))) (r_7 aN) (r_7 (aC (eV 5) aN))))))))))
noncomputable def b_0:List D->Option D:=fnD 4 4 d_1
abbrev i_3:FS :=
 (al0 4 (eF b_1 (aC (e2 b_2 (eV 5) (zI 0)) (aC (e2 b_2 (eV 5) (zI 1)) (aC (e2 b_2 (eV 5) (zI 2)) (aC (eV 6) aN))))))
abbrev f_8:FS :=
 (am6 (gN 6) (eF b_0 (aC (eV 0) (aC (eV 1) (aC (eV 2) (aC (e2 b_2 (eV 5) (zI 3)) aN)))))
 i_3)
noncomputable def q_4:FS :=
 (b_4 (am5 4 (ao9 aN))
 (b_4 (am6 (gN 5) (eV 3)
 f_8)
 (au0 4 (e_7 (eV 4)))))
noncomputable def f_4:List D->Option D:=fnD 4 3 q_4
noncomputable def i_7:FS :=
 (b_4 (d_5 6 (e2 b_2 (e2 b_2 (eV 1) (zI 3)) (zI 0)))
 (b_4 (d_5 7 (eF d_2 (aC (eV 2) (aC (e2 s_2 (e2 W_5 (eV 3) (eV 6)) (zI 1)) (aC (eV 3) aN)))))
 (b_4 (d_5 8 (e2 ai7 (eF b_3 (aC (eV 1) (aC (eV 4) aN))) (m_6 (aC (eV 2) (aC (eV 3) aN)))))
 (b_4 (sIf (tB (e2 dIs (eV 8) (eC .non)))
 (e_7 (eIf (tV (eF j_6 (aC (eV 7) (aC (eV 4) aN)))) (r_7 aN) (eF e_3 (aC (eV 5) (aC (eF d_2 (aC (eV 2) (aC (eV 3) (aC (e2 s_2 (eV 3) (zI 1)) aN)))) aN)))))
 sN)
 (b_4 (d_5 9 (e2 b_2 (eV 8) (zI 0)))
 (b_4 (d_5 10 (eF e_3 (aC (eV 5) (aC (eF d_2 (aC (eV 2) (aC (eV 3) (aC (e2 s_2 (eV 9) (zI 1)) aN)))) aN))))
 (b_4 (d_5 11 (eF f_4 (aC (eV 0) (aC (e2 b_2 (e2 b_2 (eV 1) (zI 3)) (e1 aK0 (zI 1))) (aC (e2 b_2 (eV 8) (zI 1)) (aC (eV 10) aN))))))
 (e_7 (e2 s_2 (e2 s_2 (eV 11) (eF e_3 (aC (eV 5) (aC (eV 7) aN)))) (eF e_3 (aC (eV 5) (aC (eF d_2 (aC (eV 2) (aC (e2 s_2 (eV 9) (zI 1)) (aC (e2 s_2 (eV 9) (eV 6)) aN)))) aN))))))))))))
noncomputable def b_7:List D->Option D:=fnD 6 6 i_7
noncomputable def r_0:FS :=
 (b_4 (sIf (tB (e2 dEq (e2 b_2 (eV 1) (zI 0)) (zT "gaps")))
 (e_7 (eF b_7 (aC (eV 0) (aC (eV 1) (aC (eV 2) (aC (eV 3) (aC (eV 4) (aC (eV 5) aN))))))))
 sN)
 (e_7 v_1))
noncomputable def f_7:List D->Option D:=fnD 6 0 r_0
noncomputable def S_8:FS :=
 (b_4 (d_5 2 (eF d_6 (aC (eV 0) (aC (eV 1) aN))))
 (b_4 (d_5 3 (eF d_6 (aC (eV 0) (aC (e2 b_2 (e2 b_2 (eV 2) (zI 2)) (zI 0)) aN))))
 (e_7 (m_6 (aC (eV 2) (aC (eV 3) (aC (eF d_6 (aC (eV 0) (aC (e2 b_2 (e2 b_2 (eV 3) (zI 2)) (zI 0)) aN))) aN)))))))
noncomputable def n_4:List D->Option D:=fnD 2 2 S_8
noncomputable def y_1:FS :=
 (b_4 (sX (eF k_5 (aC (eV 0) (aC (eV 1) (aC (eV 2) (aC (eV 3) aN))))))
 (b_4 (d_5 6 (eF n_4 (aC (eV 0) (aC (eV 1) aN))))
 (b_4 (sIf (tB (e2 dEq (e2 b_2 (e2 b_2 (eV 6) (zI 2)) (zI 0)) (zT "pair")))
 (b_4 (d_5 7 v_1)
 (d_5 8 v_1))
 (d_5 8 (eF f_7 (aC (e2 b_2 (eV 6) (zI 0)) (aC (e2 b_2 (eV 6) (zI 1)) (aC (eV 2) (aC (eV 3) (aC (eV 4) (aC (eV 5) aN)))))))))
 (e_7 (e2 dGt (eF w_8 (aC (eV 8) aN)) (zI 0))))))
noncomputable def h_5:List D->Option D:=fnD 6 3 y_1
noncomputable def p_2:FS :=
 (b_4 (sIf (tB (e2 dLt (eV 1) (eF w_8 (aC (eV 0) aN))))
 (e_7 (e2 b_2 (eV 0) (eV 1)))
 sN)
 (e_7 (zI 0)))
noncomputable def e_0:List D->Option D:=fnD 2 0 p_2
abbrev j_2:FS :=
 (b_4 (al0 2 (e2 n_6 (eV 6) (zI 10000019)))
 (d_5 6 (e2 p_4 (eV 6) (zI 10000019))))
abbrev j_1:FS :=
 (b_4 (d_5 3 (e2 s_2 (e2 s_2 (e2 n_6 (e2 ab8 (eV 3) (e2 s_2 (e2 p_4 (eV 3) (zI 1009)) (zI 69621))) (zI 2147483647)) (eV 5)) (zI 1)))
 (b_4 (d_5 4 (e2 n_6 (e2 ab8 (eV 4) (zI 48271)) (zI 2147483629)))
 (al0 2 (e2 s_2 (eV 3) (eV 4)))))
noncomputable def q_8:En->Option MO :=
 (ap1 (am5 2 (ao9 aN))
 (nIf (tB (e2 dGe (eV 0) (e2 bg8 (zI 10) (zI 40))))
 (ap1 (d_5 6 (e2 p_4 (eV 0) (zI 7)))
 (ap1 (u_2 (gN 5) (Y_7 (eV 1)) j_2)
 (ap2 2)))
 (ap1 (d_5 3 (e2 n_6 (e2 ab8 (e2 s_2 (e2 n_6 (eV 0) (zI 2147483647)) (zI 1)) (zI 48271)) (zI 2147483647)))
 (ap1 (d_5 4 (e2 n_6 (e2 ab8 (e2 s_2 (e2 n_6 (eV 0) (zI 1000003)) (zI 1)) (zI 69621)) (zI 2147483629)))
 (ap1 (u_2 (gN 5) (Y_7 (eV 1)) j_1)
 (ap4 2))))))
noncomputable def g_0:List D->Option MO:=fnN 2 5 q_8
abbrev j_0:FS :=
 (al0 2 (m_6 (aC (e2 n_6 (e2 p_4 (eQ 0) (zI 3)) (zI 8)) (aC (e2 b_2 (r_7 (aC (zT "a") (aC (zT "b") aN))) (e2 n_6 (e2 p_4 (eQ 0) (zI 3)) (zI 2))) (aC (e2 W_5 (e2 n_6 (e2 p_4 (eQ 0) (zI 3)) (zI 6)) (zI 2)) aN)))))
noncomputable def x_7:FS :=
 (b_4 (am5 2 (ao9 aN))
 (b_4 (u_2 (gN 3) (Y_7 (e2 n_6 (e2 p_4 (eQ 0) (zI 3)) (eV 1))) j_0)
 (au0 2 (e_7 (eF n_9 (aC (eV 2) aN))))))
noncomputable def f_9:MO->List D->Option (D×MO):=fnB 1 2 x_7
abbrev i_5:FS :=
 (b_4 (d_5 5 (r_7 (aC (m_6 (aC (zT "only") (aC (m_6 (aC (zT "a") aN)) aN))) (aC (m_6 (aC (zT "but") (aC (m_6 aN) aN))) (aC (m_6 (aC (zT "but") (aC (m_6 (aC (zT "a") aN)) aN))) (aC (m_6 (aC (zT "only") (aC (m_6 (aC (zT "a") (aC (zT "b") aN))) aN))) (aC (m_6 (aC (zT "but") (aC (m_6 (aC (zT "c") aN)) aN))) aN)))))))
 (b_4 (d_5 6 (e2 b_2 (eV 5) (e2 n_6 (e2 p_4 (eQ 0) (zI 3)) (zI 5))))
 (b_4 (d_5 7 (e2 n_6 (e2 p_4 (eQ 0) (zI 3)) (zI 9)))
 (b_4 (d_5 8 (e2 s_2 (e2 s_2 (eV 7) (zI 1)) (e2 n_6 (e2 p_4 (eQ 0) (zI 3)) (eV 2))))
 (b_4 (d_5 9 (e2 W_5 (e2 n_6 (e2 p_4 (eQ 0) (zI 3)) (zI 7)) (zI 3)))
 (b_4 (d_5 10 (e2 s_2 (zI 1) (e2 n_6 (e2 p_4 (eQ 0) (zI 3)) (zI 3))))
 (b_4 (d_5 11 (eF a_6 (aC (eV 9) (aC (e2 s_2 (eV 9) (e2 n_6 (e2 p_4 (eQ 0) (zI 3)) (eV 2))) (aC (eV 10) (aC (e2 n_6 (e2 p_4 (eQ 0) (zI 3)) (eV 10)) aN))))))
 (b_4 (d_5 12 (eF b_1 (aC (eV 6) (aC (eV 7) (aC (eV 8) (aC (eV 11) aN))))))
 (sIf (tB (e2 n_8 (eV 12) (eC .non)))
 (al0 3 (eV 12))
 sN)))))))))
noncomputable def D_1:FS :=
 (b_4 (am5 3 (ao9 aN))
 (b_4 (u_2 (gN 4) (Y_7 (e2 n_6 (e2 p_4 (eQ 0) (zI 3)) (eV 1))) i_5)
 (au0 3 (e_7 (eV 3)))))
noncomputable def j_7:MO->List D->Option (D×MO):=fnB 2 10 D_1
abbrev d_8:FS :=
 (sIf (tB (e2 dEq (e2 n_6 (eV 8) (e2 b_2 (eV 6) (zI 2))) (e2 b_2 (eV 6) (zI 3))))
 (al0 2 (m_6 (aC (eV 7) (aC (eV 1) (aC (eV 8) aN)))))
 sN)
abbrev j_3:FS :=
 (u_2 (gN 8) (aN1 (e2 b_2 (eV 6) (zI 0)) (e2 s_2 (e2 b_2 (eV 6) (zI 1)) (zI 1))) d_8)
abbrev d_0:FS :=
 (sIf (tB (e2 dEq (e2 aH0 (eV 1) (e2 b_2 (eV 3) (zI 1))) (e2 dEq (e2 b_2 (eV 3) (zI 0)) (zT "only"))))
 (u_2 (gN 7) (aN1 (eV 4) (eV 5)) j_3)
 sN)
noncomputable def t_0:FS :=
 (b_4 (am5 2 (ao9 aN))
 (b_4 (am6 (gT [3,4,5,6]) (eV 0)
 d_0)
 (au0 2 (e_7 (eV 2)))))
noncomputable def e_2:List D->Option D:=fnD 2 7 t_0
abbrev e_5:FS :=
 (sIf (tB (e2 dEq (eV 3) (eV 2)))
 (e_7 (eV 4))
 sN)
noncomputable def q_9:FS :=
 (b_4 (am6 (gT [3,4]) (eF b_3 (aC (eV 0) (aC (eV 1) aN)))
 e_5)
 (e_7 (eC .non)))
noncomputable def b_5:List D->Option D:=fnD 3 2 q_9
abbrev t_6:FS :=
 (sIf (tAnd (tNot (tV (eV 7))) (tB (e2 dNe (eV 9) (r_7 aN))))
 (b_4 (d_5 13 (aX1 [9,1] 1 1 (Y_7 (e2 s_2 (zI 1) (e2 n_6 (e2 p_4 (eQ 1) (zI 3)) (zI 9)))) tYes (e2 b_2 (eV 1) (e2 n_6 (e2 p_4 (eQ 2) (zI 3)) (eF w_8 (aC (eV 1) aN))))))
 (sIf (tB (e2 dNe (eF b_5 (aC (eV 2) (aC (eF n_9 (aC (e2 s_2 (eV 4) (eV 13)) aN)) (aC (eV 6) aN)))) (eV 8)))
 (e_7 (eC (.bl false)))
 sN))
 sN)
noncomputable def aH7:FS :=
 (b_4 (aM5 1 g_0 (aC (eF e_0 (aC (eV 0) (aC (zI 0) aN))) (aC (zI 120) aN)))
 (b_4 (d_5 2 (m_6 (aC (zT "gaps") (aC (zT "f") (aC (m_6 (aC (zT "x") aN)) (aC (m_6 (aC (e2 s_2 (zI 1) (e2 n_6 (e2 p_4 (eQ 1) (zI 3)) (zI 4))) (aC (e2 b_2 (r_7 (aC (zT "count") (aC (zT "sum") (aC (zT "most") (aC (zT "least") aN))))) (e2 n_6 (e2 p_4 (eQ 1) (zI 3)) (zI 4))) aN))) aN))))))
 (b_4 (d_5 3 (r_7 (aC (m_6 (aC (zT "in") (aC (zT "x") (aC (m_6 aN) (aC (m_6 (aC (eC .non) (aC (eC .non) aN))) aN))))) (aC (eV 2) (aC (m_6 (aC (zT "ask") (aC (zT "q") (aC (m_6 (aC (zT "f") aN)) (aC (m_6 aN) aN))))) aN)))))
 (b_4 (d_5 4 (eFb 1 f_9 (aC (zI 7) aN)))
 (b_4 (d_5 5 (eFb 1 j_7 (aC (zI 3) (aC (zI 6) aN))))
 (b_4 (d_5 6 (m_6 (aC (e2 b_2 (r_7 (aC (zT "a") (aC (zT "b") (aC (zT "zz") aN)))) (e2 n_6 (e2 p_4 (eQ 1) (zI 3)) (zI 3))) (aC (e2 n_6 (e2 p_4 (eQ 1) (zI 3)) (zI 10)) aN))))
 (b_4 (sIf (tAnd (tB (e2 dEq (e2 n_6 (e2 p_4 (eQ 1) (zI 3)) (zI 2)) (zI 1))) (tB (e2 dNe (eV 4) (r_7 aN))))
 (b_4 (d_5 12 (eF b_3 (aC (eV 2) (aC (eV 4) aN))))
 (d_5 6 (e2 b_2 (e2 b_2 (eV 12) (e2 n_6 (e2 p_4 (eQ 1) (zI 3)) (eF w_8 (aC (eV 12) aN)))) (zI 0))))
 sN)
 (b_4 (d_5 7 (eF h_5 (aC (eV 3) (aC (zT "q") (aC (e2 b_2 (eV 6) (zI 0)) (aC (e2 b_2 (eV 6) (zI 1)) (aC (eF S_9 (aC (eV 4) aN)) (aC (eF S_9 (aC (eV 5) aN)) aN))))))))
 (b_4 (d_5 8 (eF b_5 (aC (eV 2) (aC (eV 4) (aC (eV 6) aN)))))
 (b_4 (d_5 9 (eF e_2 (aC (eV 5) (aC (e2 b_2 (eV 6) (zI 0)) aN))))
 (b_4 (d_5 10 (eLC [8,2,6,4] (eV 9) (tB (e2 dNe (eF b_5 (aC (eV 2) (aC (eF n_9 (aC (e2 s_2 (eV 4) (r_7 (aC (eV 0) aN))) aN)) (aC (eV 3) aN)))) (eV 1))) (eV 0)))
 (b_4 (sIf (tOr (tNot (tV (eTy .bool (eV 7)))) (tB (e2 dNe (eV 7) (e2 dNe (eV 10) (r_7 aN)))))
 (e_7 (eC (.bl false)))
 sN)
 (b_4 (u_2 (gN 11) (Y_7 (zI 4)) t_6)
 (e_7 (eC (.bl true))))))))))))))))
noncomputable def af0:List D->Option D:=fnD 1 13 aH7
end
end Fx
namespace Fx
open PySem PySem.Spec PyProof.Rows L2
noncomputable def top (i:Nat):Stmt:=PySem.Challenge.pw_latewell_k52_gaps_turned_by_boxes.main.body.getD i (.Pass ⟨0,0,0,0⟩)
theorem xG {X:Cx}{k j:Nat}{x:Str}{g:List D → Option D}{A:FA}{p pos:Pos}{e:Expr}{es:List Expr} (G:DefOk X.prog X.w X.K X.mg X.base k x g) (hr:Room j X.A) (Y:XA X (e::es) A) (hk:k ≤ j:=by decide) (hg:Gl X x:=by rfl) (O:(x==("__debug__":Str))=false:=by decide)
  (Z:starEach (e::es) X.env=(false,eval e X.env)::starEach es X.env:=by rfl) (R:(backTo pos (starEach es X.env)).any (·.1)=false:=by rfl):XE X (.Call (.Name x p) (e::es) [] pos) (eF g A):=xF G (hr.mono hk) Y hg O Z R
structure Blt (w:World) (K:Frag) (mg:Str->Option Value):Prop where
 z_abs:mg "abs"=none
 z_len:mg "len"=none
 z_max:mg "max"=none
 z_min:mg "min"=none
 z_any:mg "any"=none
 z_all:mg "all"=none
 z_range:mg "range"=none
 z_isinstance:mg "isinstance"=none
 z_int:mg "int"=none
 z_bool:mg "bool"=none
 z_str:mg "str"=none
 z_tuple:mg "tuple"=none
 z_list:mg "list"=none
 z_sorted:mg "sorted"=none
 z_dict:mg "dict"=none
 z_set:mg "set"=none
 z_sum:mg "sum"=none
 z_zip:mg "zip"=none
 z_enumerate:mg "enumerate"=none
 z_reversed:mg "reversed"=none
 c_LETTERS:∃ t,mg "LETTERS"=some (.str "abcdefghijklmnopqrstuvwxyz" t)
 c_LONGEST:∃ t,mg "LONGEST"=some (.int 8 t)
 c_EVERY_VALUE:∃ a,mg "EVERY_VALUE"=some (.ref a) ∧ KV1 K (.tup [.non,.non,(.int 1),(.int 0)]) (.ref a)
 c_SHARES:∃ a,mg "SHARES"=some (.ref a) ∧ bx5 w K a [((Str.ofString "sum"),(.tup [(.int 1),(.int 1)])),((Str.ofString "less"),(.tup [(.int 1),(.int (-1))])),((Str.ofString "left"),(.tup [(.int 1),(.int 0)])),((Str.ofString "right"),(.tup [(.int 0),(.int 1)]))]
section
variable {P:Program}{w:World}{K:Frag}{mg:Str->Option Value}{base:Heap}
abbrev n_7:Stmt:=top 3
abbrev V_3:List Str:=["x"]
theorem S00:FnScope V_3 ["x"] (a_0 n_7):=⟨rfl,rfl,rfl,by decide +kernel,rfl,by decide +kernel,by decide +kernel⟩
theorem ae4 {f:Addr}{fd:FuncData} (F:Fun K "is_key" "is_key" n_7 f fd) (O:Binds K fd ["x"] []) (Y:mg "is_key"=some (.ref f)) (T:Blt w K mg) :DefOk P w K mg base 1 "is_key" u_7 :=
 ⟨f,fd,["x"],e_6 F S00 rfl rfl (λ R A outer s H E Z =>
 (xsC (o_1 (xw (ab3 (G_1 (xtv (xty (t:=.str) T.z_isinstance T.z_str PyProof.Rows.boot_str (xv 0)) (λ _=>rfl))) (D_4 (G_1 (xt3 cLe cLe a_4 (xB r_9 rfl T.z_len PySem.boot_len (xaC (xv 0) xaN)) (bp3 T.c_LONGEST))))))
 (xs1 (g_4 xbl))
 xsN)
 (xs1 (g_4 (xB (aH2 rfl) rfl T.z_all PyProof.Rows.boot_all (xaC (xlc (sc:=a_0 n_7) rfl rfl (by show ScB V_3 (a_0 n_7) _ "sign" [] [];exact⟨rfl,rfl,by decide +kernel,by decide +kernel,rfl,by decide +kernel,by decide +kernel,rfl,by decide +kernel⟩) (xv 0) (λ _ _ _ _=>A_3) (λ _ _ _ _=>(K_6 bh1 (xv 0) (bp2 T.c_LETTERS)))) xaN)))))),O,F.kp,Y⟩
abbrev l_7:Stmt:=top 4
theorem S01:FnScope ["keys","key"] ["keys","key"] (a_0 l_7):=⟨rfl,rfl,rfl,by decide +kernel,rfl,by decide +kernel,by decide +kernel⟩
theorem N_1 {f:Addr}{fd:FuncData} (F:Fun K "keys_hold" "keys_hold" l_7 f fd) (R:Binds K fd ["keys","key"] []) (Z:mg "keys_hold"=some (.ref f)) (T:Blt w K mg) :DefOk P w K mg base 1 "keys_hold" c_9 :=
 ⟨f,fd,["keys","key"],e_6 F S01 rfl rfl (λ Y A outer s H E O =>
 (xs1 (g_4 (K_6 (cEq O.units) (K_6 bh1 (xv 1) (b_8 (xv 0) a_4)) (K_6 (cEq O.units) (b_8 (xv 0) a_4) m_5))))),R,F.kp,Z⟩
abbrev c_1:Stmt:=top 5
abbrev t_2:List Str:=["one","other","names"]
theorem S02:FnScope t_2 ["one","other"] (a_0 c_1):=⟨rfl,rfl,rfl,by decide +kernel,rfl,by decide +kernel,by decide +kernel⟩
theorem E_2 {f:Addr}{fd:FuncData} (F:Fun K "keys_meet" "keys_meet" c_1 f fd) (R:Binds K fd ["one","other"] []) (Y:mg "keys_meet"=some (.ref f)) (T:Blt w K mg):DefOk P w K mg base 2 "keys_meet" p_0 :=
 ⟨f,fd,["one","other"],e_6 F S02 rfl rfl (λ Z A outer s H E hr=>λ _ _ _ _ _ _ O=>by obtain⟨_,_,_,_,_,e,_⟩:=O;exact nomatch e),R,F.kp,Y⟩
theorem E_1 {f:Addr}{fd:FuncData} (F:Fun K "keys_meet" "keys_meet" c_1 f fd) (Z:Binds K fd ["one","other"] []) (mF:mg "keys_meet"=some (.ref f)) (T:Blt w K mg) (O:DefOk P w K mg base 2 "keys_meet" p_0) (R:DefOk P w K mg base 1 "keys_hold" c_9):DefOk P w K mg base 3 "keys_meet" o_9 :=
 ⟨f,fd,["one","other"],e_6 F S02 rfl rfl (λ aa A outer s H E Y =>
 (xsC (o_1 (xw (K_8 (xt (cEq Y.units) (b_8 (xv 0) a_4) m_5) (x_1 (xt (cEq Y.units) (b_8 (xv 1) a_4) m_5))))
 (xs1 (g_4 x_2))
 xsN)
 (xsC (o_1 (xt (cEq Y.units) (b_8 (xv 0) a_4) m_5)
 (xs1 (g_4 (xG O Y (xaC (xv 1) (xaC (xv 0) xaN)))))
 xsN)
 (xsC (l_2 2 S02.nd (xTy O_7 rfl T.z_tuple PyProof.Rows.boot_tuple (xaC (xlc (sc:=a_0 c_1) rfl rfl (by show ScB t_2 (a_0 c_1) _ "name" ["other"] [1];exact⟨rfl,rfl,by decide +kernel,by decide +kernel,rfl,by decide +kernel,by decide +kernel,rfl,by decide +kernel⟩) (b_8 (xv 0) a_4) (λ _ _ _ _=>(v_9 (xtv (xG R Y (xaC (xv 1) (xaC (xv 0) xaN))) (λ _=>rfl)))) (λ _ _ _ _=>(xv 0))) xaN)))
 (xs1 (g_4 (xif (xtv (xv 2) (λ _=>rfl)) (K_4 (xaC m_5 (xaC (xv 2) xaN))) l_1))))))),Z,F.kp,mF⟩
theorem H_0 {f:Addr}{fd:FuncData} (F:Fun K "keys_meet" "keys_meet" c_1 f fd) (Z:Binds K fd ["one","other"] []) (mF:mg "keys_meet"=some (.ref f)) (T:Blt w K mg) (O:DefOk P w K mg base 3 "keys_meet" o_9) (R:DefOk P w K mg base 1 "keys_hold" c_9):DefOk P w K mg base 4 "keys_meet" m_0 :=
 ⟨f,fd,["one","other"],e_6 F S02 rfl rfl (λ aa A outer s H E Y =>
 (xsC (o_1 (xw (K_8 (xt (cEq Y.units) (b_8 (xv 0) a_4) m_5) (x_1 (xt (cEq Y.units) (b_8 (xv 1) a_4) m_5))))
 (xs1 (g_4 x_2))
 xsN)
 (xsC (o_1 (xt (cEq Y.units) (b_8 (xv 0) a_4) m_5)
 (xs1 (g_4 (xG O Y (xaC (xv 1) (xaC (xv 0) xaN)))))
 xsN)
 (xsC (l_2 2 S02.nd (xTy O_7 rfl T.z_tuple PyProof.Rows.boot_tuple (xaC (xlc (sc:=a_0 c_1) rfl rfl (by show ScB t_2 (a_0 c_1) _ "name" ["other"] [1];exact⟨rfl,rfl,by decide +kernel,by decide +kernel,rfl,by decide +kernel,by decide +kernel,rfl,by decide +kernel⟩) (b_8 (xv 0) a_4) (λ _ _ _ _=>(v_9 (xtv (xG R Y (xaC (xv 1) (xaC (xv 0) xaN))) (λ _=>rfl)))) (λ _ _ _ _=>(xv 0))) xaN)))
 (xs1 (g_4 (xif (xtv (xv 2) (λ _=>rfl)) (K_4 (xaC m_5 (xaC (xv 2) xaN))) l_1))))))),Z,F.kp,mF⟩
theorem N_0 {f:Addr}{fd:FuncData} (F:Fun K "keys_meet" "keys_meet" c_1 f fd) (R:Binds K fd ["one","other"] []) (Y:mg "keys_meet"=some (.ref f)) (T:Blt w K mg) (O:DefOk P w K mg base 1 "keys_hold" c_9):DefOk P w K mg base 4 "keys_meet" m_0:=H_0 F R Y T (E_1 F R Y T (E_2 F R Y T) O) O
abbrev g_6:Stmt:=top 8
theorem S03:FnScope ["low","high","step","rest","first","last"] ["low","high","step","rest"] (a_0 g_6):=⟨rfl,rfl,rfl,by decide +kernel,rfl,by decide +kernel,by decide +kernel⟩
theorem B_1 {f:Addr}{fd:FuncData} (F:Fun K "stretch_made" "stretch_made" g_6 f fd) (O:Binds K fd ["low","high","step","rest"] []) (Z:mg "stretch_made"=some (.ref f)) (T:Blt w K mg) :DefOk P w K mg base 1 "stretch_made" a_6 :=
 ⟨f,fd,["low","high","step","rest"],e_6 F S03 rfl rfl (λ Y A outer s H E R =>
 (xsC (o_1 (G_1 (xt3 cLe cLt a_4 (xv 3) (xv 2)))
 (xs1 (g_4 l_1))
 xsN)
 (xsC (l_2 4 S03.nd (xif (xt cIs (xv 0) l_1) l_1 (xb x_4 (xv 0) (xb q_0 (xb ab6 (xv 3) (xv 0)) (xv 2)))))
 (xsC (l_2 5 S03.nd (xif (xt cIs (xv 1) l_1) l_1 (xb ab6 (xv 1) (xb q_0 (xb ab6 (xv 1) (xv 3)) (xv 2)))))
 (xsC (o_1 (xw (ab3 (xt cIs (xv 4) l_1) (D_4 (xt cIs (xv 5) l_1))))
 (xs1 (g_4 (K_4 (xaC (xv 4) (xaC (xv 5) (xaC (xv 2) (xaC (xv 3) xaN)))))))
 xsN)
 (xsC (o_1 (xt cGt (xv 4) (xv 5))
 (xs1 (g_4 l_1))
 xsN)
 (xsC (o_1 (xt (cEq R.units) (xv 4) (xv 5))
 (xs1 (g_4 (K_4 (xaC (xv 4) (xaC (xv 5) (xaC a_4 (xaC a_4 xaN)))))))
 xsN)
 (xs1 (g_4 (K_4 (xaC (xv 4) (xaC (xv 5) (xaC (xv 2) (xaC (xv 3) xaN)))))))))))))),O,F.kp,Z⟩
abbrev k_1:Stmt:=top 9
theorem S04:FnScope ["v","low","high"] ["v","low","high"] (a_0 k_1):=⟨rfl,rfl,rfl,by decide +kernel,rfl,by decide +kernel,by decide +kernel⟩
theorem H_4 {f:Addr}{fd:FuncData} (F:Fun K "is_between" "is_between" k_1 f fd) (O:Binds K fd ["v","low","high"] []) (Y:mg "is_between"=some (.ref f)) (T:Blt w K mg) :DefOk P w K mg base 1 "is_between" h_4 :=
 ⟨f,fd,["v","low","high"],e_6 F S04 rfl rfl (λ R A outer s H E Z =>
 (xs1 (g_4 (aI9 (xor (K_6 cIs (xv 1) l_1) (as4 (K_6 cLe (xv 1) (xv 0)))) (as4 (xor (K_6 cIs (xv 2) l_1) (as4 (K_6 cLe (xv 0) (xv 2))))))))),O,F.kp,Y⟩
abbrev i_0:Stmt:=top 10
theorem S05:FnScope ["one","v"] ["one","v"] (a_0 i_0):=⟨rfl,rfl,rfl,by decide +kernel,rfl,by decide +kernel,by decide +kernel⟩
theorem D_7 {f:Addr}{fd:FuncData} (F:Fun K "stretch_has" "stretch_has" i_0 f fd) (Y:Binds K fd ["one","v"] []) (Z:mg "stretch_has"=some (.ref f)) (T:Blt w K mg) (O:DefOk P w K mg base 1 "is_between" h_4):DefOk P w K mg base 2 "stretch_has" k_9 :=
 ⟨f,fd,["one","v"],e_6 F S05 rfl rfl (λ aa A outer s H E R =>
 (xs1 (g_4 (aI9 (xG O R (xaC (xv 1) (xaC (b_8 (xv 0) a_4) (xaC (b_8 (xv 0) a_4) xaN)))) (as4 (K_6 (cEq R.units) (xb q_0 (xv 1) (b_8 (xv 0) a_4)) (b_8 (xv 0) a_4))))))),Y,F.kp,Z⟩
abbrev i_1:Stmt:=top 11
theorem S06:FnScope ["one","other"] ["one","other"] (a_0 i_1):=⟨rfl,rfl,rfl,by decide +kernel,rfl,by decide +kernel,by decide +kernel⟩
theorem D_9 {f:Addr}{fd:FuncData} (F:Fun K "lower_bound" "lower_bound" i_1 f fd) (O:Binds K fd ["one","other"] []) (Y:mg "lower_bound"=some (.ref f)) (T:Blt w K mg) :DefOk P w K mg base 1 "lower_bound" d_9 :=
 ⟨f,fd,["one","other"],e_6 F S06 rfl rfl (λ R A outer s H E Z =>
 (xsC (o_1 (xw (ab3 (xt cIs (xv 0) l_1) (D_4 (xt cIs (xv 1) l_1))))
 (xs1 (g_4 (xif (xt cIs (xv 0) l_1) (xv 1) (xv 0))))
 xsN)
 (xs1 (g_4 (xB (J_7 rfl) rfl T.z_max PyProof.Rows.boot_max (xaC (xv 0) (xaC (xv 1) xaN))))))),O,F.kp,Y⟩
abbrev h_8:Stmt:=top 12
theorem S07:FnScope ["one","other"] ["one","other"] (a_0 h_8):=⟨rfl,rfl,rfl,by decide +kernel,rfl,by decide +kernel,by decide +kernel⟩
theorem D_5 {f:Addr}{fd:FuncData} (F:Fun K "upper_bound" "upper_bound" h_8 f fd) (O:Binds K fd ["one","other"] []) (Y:mg "upper_bound"=some (.ref f)) (T:Blt w K mg) :DefOk P w K mg base 1 "upper_bound" c_3 :=
 ⟨f,fd,["one","other"],e_6 F S07 rfl rfl (λ R A outer s H E Z =>
 (xsC (o_1 (xw (ab3 (xt cIs (xv 0) l_1) (D_4 (xt cIs (xv 1) l_1))))
 (xs1 (g_4 (xif (xt cIs (xv 0) l_1) (xv 1) (xv 0))))
 xsN)
 (xs1 (g_4 (xB (aj6 rfl) rfl T.z_min PyProof.Rows.boot_min (xaC (xv 0) (xaC (xv 1) xaN))))))),O,F.kp,Y⟩
abbrev d_3:Stmt:=top 13
theorem S08:FnScope ["one","low","high"] ["one","low","high"] (a_0 d_3):=⟨rfl,rfl,rfl,by decide +kernel,rfl,by decide +kernel,by decide +kernel⟩
theorem u_5 {f:Addr}{fd:FuncData} (F:Fun K "stretch_between" "stretch_between" d_3 f fd) (bF:Binds K fd ["one","low","high"] []) (mF:mg "stretch_between"=some (.ref f)) (T:Blt w K mg) (R:DefOk P w K mg base 1 "lower_bound" d_9) (O:DefOk P w K mg base 1 "stretch_made" a_6) (Y:DefOk P w K mg base 1 "upper_bound" c_3):DefOk P w K mg base 2 "stretch_between" a_7 :=
 ⟨f,fd,["one","low","high"],e_6 F S08 rfl rfl (λ aa A outer s H E Z =>
 (xs1 (g_4 (xG O Z (xaC (xG R Z (xaC (b_8 (xv 0) a_4) (xaC (xv 1) xaN))) (xaC (xG Y Z (xaC (b_8 (xv 0) a_4) (xaC (xv 2) xaN))) (xaC (b_8 (xv 0) a_4) (xaC (b_8 (xv 0) a_4) xaN)))))))),bF,F.kp,mF⟩
abbrev f_2:Stmt:=top 14
theorem S09:FnScope ["one","c"] ["one","c"] (a_0 f_2):=⟨rfl,rfl,rfl,by decide +kernel,rfl,by decide +kernel,by decide +kernel⟩
theorem y_8 {f:Addr}{fd:FuncData} (F:Fun K "stretch_above" "stretch_above" f_2 f fd) (R:Binds K fd ["one","c"] []) (Y:mg "stretch_above"=some (.ref f)) (T:Blt w K mg) (O:DefOk P w K mg base 2 "stretch_between" a_7):DefOk P w K mg base 3 "stretch_above" c_8 :=
 ⟨f,fd,["one","c"],e_6 F S09 rfl rfl (λ aa A outer s H E Z =>
 (xs1 (g_4 (xG O Z (xaC (xv 0) (xaC (xb x_4 (xv 1) a_4) (xaC l_1 xaN))))))),R,F.kp,Y⟩
abbrev f_1:Stmt:=top 15
theorem S0a:FnScope ["one","c"] ["one","c"] (a_0 f_1):=⟨rfl,rfl,rfl,by decide +kernel,rfl,by decide +kernel,by decide +kernel⟩
theorem y_7 {f:Addr}{fd:FuncData} (F:Fun K "stretch_below" "stretch_below" f_1 f fd) (R:Binds K fd ["one","c"] []) (Y:mg "stretch_below"=some (.ref f)) (T:Blt w K mg) (O:DefOk P w K mg base 2 "stretch_between" a_7):DefOk P w K mg base 3 "stretch_below" c_7 :=
 ⟨f,fd,["one","c"],e_6 F S0a rfl rfl (λ aa A outer s H E Z =>
 (xs1 (g_4 (xG O Z (xaC (xv 0) (xaC l_1 (xaC (xb ab6 (xv 1) a_4) xaN))))))),R,F.kp,Y⟩
abbrev c_4:Stmt:=top 16
abbrev q_1:List Str:=["one","a","b","ends","step"]
theorem S0b:FnScope q_1 ["one","a","b"] (a_0 c_4):=⟨rfl,rfl,rfl,by decide +kernel,rfl,by decide +kernel,by decide +kernel⟩
theorem y_6 {f:Addr}{fd:FuncData} (F:Fun K "stretch_moved" "stretch_moved" c_4 f fd) (R:Binds K fd ["one","a","b"] []) (Y:mg "stretch_moved"=some (.ref f)) (T:Blt w K mg) (O:DefOk P w K mg base 1 "stretch_made" a_6):DefOk P w K mg base 2 "stretch_moved" f_5 :=
 ⟨f,fd,["one","a","b"],e_6 F S0b rfl rfl (λ aa A outer s H E Z =>
 (xsC (ac0 3 S0b.nd (sc:=a_0 c_4) rfl rfl (by show ScB q_1 (a_0 c_4) _ "end" ["b","a"] [2,1];exact⟨rfl,rfl,by decide +kernel,by decide +kernel,rfl,by decide +kernel,by decide +kernel,rfl,by decide +kernel⟩) (bo6 (xv 0) xoN (xoS a_4)) (λ _ _ _ _=>A_3) (λ _ _ _ _=>(xif (xt cIs (xv 0) l_1) l_1 (xb x_4 (xb al1 (xv 2) (xv 0)) (xv 1)))))
 (xsC (o_1 (xt cLt (xv 1) a_4)
 (xs1 (l_2 3 S0b.nd (K_5 (xaC (b_8 (xv 3) a_4) (xaC (b_8 (xv 3) a_4) xaN)))))
 xsN)
 (xsC (l_2 4 S0b.nd (xb al1 (xB aH3 rfl T.z_abs PyProof.Rows.boot_abs (xaC (xv 1) xaN)) (b_8 (xv 0) a_4)))
 (xs1 (g_4 (xG O Z (xaC (b_8 (xv 3) a_4) (xaC (b_8 (xv 3) a_4) (xaC (xv 4) (xaC (xb q_0 (xb x_4 (xb al1 (xv 1) (b_8 (xv 0) a_4)) (xv 2)) (xv 4)) xaN))))))))))),R,F.kp,Y⟩
abbrev b_9:Stmt:=top 17
theorem S0c:FnScope ["a","m","g","s","other","t","times","less"] ["a","m"] (a_0 b_9):=⟨rfl,rfl,rfl,by decide +kernel,rfl,by decide +kernel,by decide +kernel⟩
theorem p_9 {f:Addr}{fd:FuncData} (F:Fun K "divisor_and_factor" "divisor_and_factor" b_9 f fd) (O:Binds K fd ["a","m"] []) (Z:mg "divisor_and_factor"=some (.ref f)) (T:Blt w K mg) :DefOk P w K mg base 1 "divisor_and_factor" e_8 :=
 ⟨f,fd,["a","m"],e_6 F S0c rfl rfl (λ Y A outer s H E R =>
 (xsC (l_2 2 S0c.nd (xb q_0 (xv 0) (xv 1)))
 (xsC (l_2 3 S0c.nd a_4)
 (xsC (l_2 4 S0c.nd (xv 1))
 (xsC (l_2 5 S0c.nd a_4)
 (xsC (aK2 (xt (cNe R.units) (xv 4) a_4)
 (xsC (l_2 6 S0c.nd (xb v_6 (xv 2) (xv 4)))
 (xsC (l_2 7 S0c.nd (xb ab6 (xv 2) (xb al1 (xv 6) (xv 4))))
 (xsC (l_2 2 S0c.nd (xv 4))
 (xsC (l_2 4 S0c.nd (xv 7))
 (xsC (l_2 7 S0c.nd (xb ab6 (xv 3) (xb al1 (xv 6) (xv 5))))
 (xsC (l_2 3 S0c.nd (xv 5))
 (xs1 (l_2 5 S0c.nd (xv 7))))))))))
 (xs1 (g_4 (K_4 (xaC (xv 2) (xaC (xv 3) xaN))))))))))),O,F.kp,Z⟩
abbrev g_7:Stmt:=top 18
theorem S0d:FnScope ["one","a","b","found","divisor","away","step","ends","low","high"] ["one","a","b"] (a_0 g_7):=⟨rfl,rfl,rfl,by decide +kernel,rfl,by decide +kernel,by decide +kernel⟩
theorem B_2 {f:Addr}{fd:FuncData} (F:Fun K "stretch_back" "stretch_back" g_7 f fd) (Z:Binds K fd ["one","a","b"] []) (mF:mg "stretch_back"=some (.ref f)) (T:Blt w K mg) (O:DefOk P w K mg base 1 "divisor_and_factor" e_8) (R:DefOk P w K mg base 1 "stretch_made" a_6):DefOk P w K mg base 2 "stretch_back" h_0 :=
 ⟨f,fd,["one","a","b"],e_6 F S0d rfl rfl (λ aa A outer s H E Y =>
 (xsC (o_1 (xt (cEq Y.units) (xv 1) a_4)
 (xs1 (g_4 x_2))
 xsN)
 (xsC (l_2 3 S0d.nd (xG O Y (xaC (xv 1) (xaC (b_8 (xv 0) a_4) xaN))))
 (xsC (l_2 4 S0d.nd (b_8 (xv 3) a_4))
 (xsC (l_2 5 S0d.nd (xb ab6 (b_8 (xv 0) a_4) (xv 2)))
 (xsC (o_1 (xt (cNe Y.units) (xb q_0 (xv 5) (xv 4)) a_4)
 (xs1 (g_4 l_1))
 xsN)
 (xsC (l_2 6 S0d.nd (xb v_6 (b_8 (xv 0) a_4) (xv 4)))
 (xsC (l_2 7 S0d.nd (xif (xt cGt (xv 1) a_4) (K_5 (xaC (b_8 (xv 0) a_4) (xaC (b_8 (xv 0) a_4) xaN))) (K_5 (xaC (b_8 (xv 0) a_4) (xaC (b_8 (xv 0) a_4) xaN)))))
 (xsC (l_2 8 S0d.nd (xif (xt cIs (b_8 (xv 7) a_4) l_1) l_1 (aW4 (xb v_6 (xb ab6 (xv 2) (b_8 (xv 7) a_4)) (xv 1)))))
 (xsC (l_2 9 S0d.nd (xif (xt cIs (b_8 (xv 7) a_4) l_1) l_1 (xb v_6 (xb ab6 (b_8 (xv 7) a_4) (xv 2)) (xv 1))))
 (xs1 (g_4 (xG R Y (xaC (xv 8) (xaC (xv 9) (xaC (xv 6) (xaC (xb q_0 (xb al1 (xb v_6 (xv 5) (xv 4)) (b_8 (xv 3) a_4)) (xv 6)) xaN))))))))))))))))),Z,F.kp,mF⟩
abbrev g_5:Stmt:=top 19
theorem S0e:FnScope ["one","other","turns"] ["one","other"] (a_0 g_5):=⟨rfl,rfl,rfl,by decide +kernel,rfl,by decide +kernel,by decide +kernel⟩
theorem B_0 {f:Addr}{fd:FuncData} (F:Fun K "stretch_meet" "stretch_meet" g_5 f fd) (bF:Binds K fd ["one","other"] []) (mF:mg "stretch_meet"=some (.ref f)) (T:Blt w K mg) (Y:DefOk P w K mg base 2 "stretch_back" h_0) (O:DefOk P w K mg base 2 "stretch_between" a_7) (R:DefOk P w K mg base 2 "stretch_moved" f_5):DefOk P w K mg base 3 "stretch_meet" g_9 :=
 ⟨f,fd,["one","other"],e_6 F S0e rfl rfl (λ aa A outer s H E Z =>
 (xsC (l_2 2 S0e.nd (xG Y Z (xaC (xv 1) (xaC (b_8 (xv 0) a_4) (xaC (b_8 (xv 0) a_4) xaN)))))
 (xsC (o_1 (xt cIs (xv 2) l_1)
 (xs1 (g_4 l_1))
 xsN)
 (xs1 (g_4 (xG O Z (xaC (xG R Z (xaC (xv 2) (xaC (b_8 (xv 0) a_4) (xaC (b_8 (xv 0) a_4) xaN)))) (xaC (b_8 (xv 0) a_4) (xaC (b_8 (xv 0) a_4) xaN))))))))),bF,F.kp,mF⟩
abbrev n_2:Stmt:=top 23
theorem S0f:FnScope ["keys","begin","end","stretch"] ["keys","begin","end","stretch"] (a_0 n_2):=⟨rfl,rfl,rfl,by decide +kernel,rfl,by decide +kernel,by decide +kernel⟩
theorem R_5 {f:Addr}{fd:FuncData} (F:Fun K "box_made" "box_made" n_2 f fd) (O:Binds K fd ["keys","begin","end","stretch"] []) (Y:mg "box_made"=some (.ref f)) (T:Blt w K mg) :DefOk P w K mg base 1 "box_made" b_1 :=
 ⟨f,fd,["keys","begin","end","stretch"],e_6 F S0f rfl rfl (λ R A outer s H E Z =>
 (xsC (o_1 (xw (ab3 (xt cIs (xv 0) l_1) (D_4 (xt cIs (xv 3) l_1))))
 (xs1 (g_4 l_1))
 xsN)
 (xsC (l_2 1 S0f.nd (xB (J_7 rfl) rfl T.z_max PyProof.Rows.boot_max (xaC (xv 1) (xaC a_4 xaN))))
 (xsC (o_1 (xw (K_8 (xt x_6 (xv 2) l_1) (x_1 (xt cLe (xv 2) (xv 1)))))
 (xs1 (g_4 l_1))
 xsN)
 (xs1 (g_4 (K_4 (xaC (xv 0) (xaC (xv 1) (xaC (xv 2) (xaC (xv 3) xaN))))))))))),O,F.kp,Y⟩
abbrev o_5:Stmt:=top 24
theorem S0g:FnScope ["box","thing","time"] ["box","thing"] (a_0 o_5):=⟨rfl,rfl,rfl,by decide +kernel,rfl,by decide +kernel,by decide +kernel⟩
theorem Z_4 {f:Addr}{fd:FuncData} (F:Fun K "box_has" "box_has" o_5 f fd) (Z:Binds K fd ["box","thing"] []) (mF:mg "box_has"=some (.ref f)) (T:Blt w K mg) (R:DefOk P w K mg base 1 "keys_hold" c_9) (O:DefOk P w K mg base 2 "stretch_has" k_9):DefOk P w K mg base 3 "box_has" h_6 :=
 ⟨f,fd,["box","thing"],e_6 F S0g rfl rfl (λ aa A outer s H E Y =>
 (xsC (l_2 2 S0g.nd (b_8 (xv 1) a_4))
 (xsC (o_1 (xw (ab3 (xt cLt (xv 2) (b_8 (xv 0) a_4)) (D_4 (xw (K_8 (xt x_6 (b_8 (xv 0) a_4) l_1) (x_1 (xt cGe (xv 2) (b_8 (xv 0) a_4))))))))
 (xs1 (g_4 xbl))
 xsN)
 (xs1 (g_4 (aI9 (xG R Y (xaC (b_8 (xv 0) a_4) (xaC (b_8 (xv 1) a_4) xaN))) (as4 (xG O Y (xaC (b_8 (xv 0) a_4) (xaC (b_8 (xv 1) a_4) xaN)))))))))),Z,F.kp,mF⟩
abbrev n_1:Stmt:=top 25
theorem S0h:FnScope ["one","other","keys","stretch"] ["one","other"] (a_0 n_1):=⟨rfl,rfl,rfl,by decide +kernel,rfl,by decide +kernel,by decide +kernel⟩
theorem R_4 {f:Addr}{fd:FuncData} (F:Fun K "box_meet" "box_meet" n_1 f fd) (bF:Binds K fd ["one","other"] []) (mF:mg "box_meet"=some (.ref f)) (T:Blt w K mg) (Z:DefOk P w K mg base 1 "box_made" b_1) (Y:DefOk P w K mg base 4 "keys_meet" m_0) (O:DefOk P w K mg base 3 "stretch_meet" g_9) (R:DefOk P w K mg base 1 "upper_bound" c_3):DefOk P w K mg base 5 "box_meet" h_1 :=
 ⟨f,fd,["one","other"],e_6 F S0h rfl rfl (λ aa A outer s H E hr =>
 (xsC (l_2 2 S0h.nd (xG Y hr (xaC (b_8 (xv 0) a_4) (xaC (b_8 (xv 1) a_4) xaN))))
 (xsC (l_2 3 S0h.nd (xG O hr (xaC (b_8 (xv 0) a_4) (xaC (b_8 (xv 1) a_4) xaN))))
 (xs1 (g_4 (xG Z hr (xaC (xv 2) (xaC (xB (J_7 rfl) rfl T.z_max PyProof.Rows.boot_max (xaC (b_8 (xv 0) a_4) (xaC (b_8 (xv 1) a_4) xaN))) (xaC (xG R hr (xaC (b_8 (xv 0) a_4) (xaC (b_8 (xv 1) a_4) xaN))) (xaC (xv 3) xaN)))))))))),bF,F.kp,mF⟩
abbrev e_1:Stmt:=top 27
abbrev t_3:List Str:=["boxes","other","met"]
theorem S0i:FnScope t_3 ["boxes","other"] (a_0 e_1):=⟨rfl,rfl,rfl,by decide +kernel,rfl,by decide +kernel,by decide +kernel⟩
theorem N_3 {f:Addr}{fd:FuncData} (F:Fun K "boxes_met" "boxes_met" e_1 f fd) (R:Binds K fd ["boxes","other"] []) (Y:mg "boxes_met"=some (.ref f)) (T:Blt w K mg) (O:DefOk P w K mg base 5 "box_meet" h_1):DefOk P w K mg base 6 "boxes_met" e_3 :=
 ⟨f,fd,["boxes","other"],e_6 F S0i rfl rfl (λ aa A outer s H E Z =>
 (xsC (o_1 (xt cIs (xv 1) l_1)
 (xs1 (g_4 (K_5 xaN)))
 xsN)
 (xsC (ac0 2 S0i.nd (sc:=a_0 e_1) rfl rfl (by show ScB t_3 (a_0 e_1) _ "box" ["other"] [1];exact⟨rfl,rfl,by decide +kernel,by decide +kernel,rfl,by decide +kernel,by decide +kernel,rfl,by decide +kernel⟩) (xv 0) (λ _ _ _ _=>A_3) (λ _ _ _ _=>(xG O Z (xaC (xv 0) (xaC (xv 1) xaN)))))
 (xs1 (g_4 (xlc (sc:=a_0 e_1) rfl rfl (by show ScB t_3 (a_0 e_1) _ "box" [] [];exact⟨rfl,rfl,by decide +kernel,by decide +kernel,rfl,by decide +kernel,by decide +kernel,rfl,by decide +kernel⟩) (xv 2) (λ _ _ _ _=>(v_9 (xt x_6 (xv 0) l_1))) (λ _ _ _ _=>(xv 0)))))))),R,F.kp,Y⟩
abbrev l_5:Stmt:=top 32
theorem S0j:FnScope ["works","name","row"] ["works","name"] (a_0 l_5):=⟨rfl,rfl,rfl,by decide +kernel,rfl,by decide +kernel,by decide +kernel⟩
theorem M_8 {f:Addr}{fd:FuncData} (F:Fun K "row_named" "row_named" l_5 f fd) (O:Binds K fd ["works","name"] []) (Z:mg "row_named"=some (.ref f)) (T:Blt w K mg) :DefOk P w K mg base 1 "row_named" d_6 :=
 ⟨f,fd,["works","name"],e_6 F S0j rfl rfl (λ Y A outer s H E R =>
 (xsC (aI8 (xgN 2 S0j.nd) (xv 0)
 (xs1 (o_1 (xt (cEq R.units) (b_8 (xv 2) a_4) (xv 1))
 (xs1 (g_4 (xv 2)))
 xsN)))
 (xs1 (g_4 l_1)))),O,F.kp,Z⟩
abbrev n_0:Stmt:=top 34
theorem S0k:FnScope ["x"] ["x"] (a_0 n_0):=⟨rfl,rfl,rfl,by decide +kernel,rfl,by decide +kernel,by decide +kernel⟩
theorem R_3 {f:Addr}{fd:FuncData} (F:Fun K "is_whole" "is_whole" n_0 f fd) (O:Binds K fd ["x"] []) (Y:mg "is_whole"=some (.ref f)) (T:Blt w K mg) :DefOk P w K mg base 1 "is_whole" o_7 :=
 ⟨f,fd,["x"],e_6 F S0k rfl rfl (λ R A outer s H E Z =>
 (xs1 (g_4 (aI9 (xty (t:=.int) T.z_isinstance T.z_int PyProof.Rows.boot_int (xv 0)) (as4 (bo8 (xty (t:=.bool) T.z_isinstance T.z_bool PyProof.Rows.boot_bool (xv 0)))))))),O,F.kp,Y⟩
abbrev l_9:Stmt:=top 40
theorem S0l:FnScope ["fold_word","values"] ["fold_word","values"] (a_0 l_9):=⟨rfl,rfl,rfl,by decide +kernel,rfl,by decide +kernel,by decide +kernel⟩
theorem N_4 {f:Addr}{fd:FuncData} (F:Fun K "amount_of" "amount_of" l_9 f fd) (R:Binds K fd ["fold_word","values"] []) (Z:mg "amount_of"=some (.ref f)) (T:Blt w K mg) :DefOk P w K mg base 1 "amount_of" e_4 :=
 ⟨f,fd,["fold_word","values"],e_6 F S0l rfl rfl (λ Y A outer s H E O =>
 (xsC (o_1 (xt (cEq O.units) (xv 0) m_5)
 (xs1 (g_4 (xB r_9 rfl T.z_len PySem.boot_len (xaC (xv 1) xaN))))
 xsN)
 (xsC (o_1 (xt (cEq O.units) (xv 0) m_5)
 (xs1 (g_4 (xB (aH1 rfl) rfl T.z_sum PyProof.Rows.boot_sum (xaC (xv 1) xaN))))
 xsN)
 (xs1 (g_4 (xif (xt (cEq O.units) (xv 0) m_5) (xB (J_7 rfl) rfl T.z_max PyProof.Rows.boot_max (xaC (xv 1) xaN)) (xB (aj6 rfl) rfl T.z_min PyProof.Rows.boot_min (xaC (xv 1) xaN)))))))),R,F.kp,Z⟩
abbrev g_1:Stmt:=top 42
theorem S0m:FnScope ["gap","things","sessions","last","thing","session"] ["gap","things"] (a_0 g_1):=⟨rfl,rfl,rfl,by decide +kernel,rfl,by decide +kernel,by decide +kernel⟩
theorem D_8 {f:Addr}{fd:FuncData} (F:Fun K "sessions_of" "sessions_of" g_1 f fd) (bF:Binds K fd ["gap","things"] []) (mF:mg "sessions_of"=some (.ref f)) (T:Blt w K mg) :DefOk P w K mg base 1 "sessions_of" l_0:=by
 refine⟨f,fd,["gap","things"],F.ok S0m (λ vs H Q E h=>?_) (λ ab A outer s H vs Q E hr h=>?_),bF,F.kp,mF⟩
 ·obtain⟨Hi,ds,d,_,r,e,_⟩:=h
  obtain⟨gap,xs,st,rfl,_⟩:=L_6 e;rw[<- r.length];rfl
 ·obtain⟨Hi,ds,d,Y,r,e,q⟩:=h
  obtain⟨gap,xs,st,rfl,O,h3,ac,rfl⟩:=L_6 e;obtain⟨v1,v2,rfl,q1,q2⟩:=Reps.v2 r;unfold Rep at q1 q2;subst q1;obtain⟨pt,ws,rfl,sq,rw⟩:=q2;have hu:(al4 CX0 P w K mg base ["gap","things","sessions","last","thing","session"] "sessions_of" (a_0 g_1) f ab A outer s H E).nox.A.units+1<cLine:=(by omega:∀ a b:Nat,a+64<b → a+1<b) _ _ hr.units
  refine⟨_,m_1 (A_8 S0m.nd (i:=2) rfl (.inl rfl) (V_0 u_4)) (m_1 (A_8 S0m.nd (i:=3) rfl (.inl rfl) ao6)
   (m_1 (U_9 PassesOwn.never rfl (ad8 (G_8 (F_9 hr.units) rfl T.z_sorted PyProof.Rows.boot_sorted (o_0 (pvr 1) u_4))) (R_0 S0m.nd (i:=4) rfl (.inl rfl))
    (m_1 (A_8 S0m.nd (i:=5) rfl (.inl rfl) (ao7 hu (pvr 3) (Z_0 ix_tup (pvr 4) A_9 (λ _ _=>rfl)) ⟨rfl,rfl,rfl,rfl⟩))
    (m_1 (aA2 (PW.pt (aN8 (Q_7 au8 (pvr 5) au6 rfl) (au3 (Q_7 aQ1 (aO9 au7 (Z_0 ix_tup (pvr 4) A_9 (λ _ _=>rfl)) (Z_0 ix_tup (Z_0 ix_list (pvr 5) (aA8 ac3 A_9) (λ _ _=>rfl)) A_9 (λ _ _=>rfl))) (pvr 0) rfl))))
     (m_1 (A_8 S0m.nd (i:=5) rfl (.inl rfl) (V_0 u_4)) (m_1 (aA3 hu (pvr 3) (Z_0 ix_tup (pvr 4) A_9 (λ _ _=>rfl)) (pvr 5) rfl) (w_1 (au5 2 (pvr 5))))) Q_8)
    (w_1 (au5 5 (pvr 4))))))
   (w_1 (U_8 (pvr 2))))),?_⟩
  refine⟨by decide,λ S hS T hT=>?_⟩
  have ST:S≠T:=a_2 a_9 hT;have T0:H T=none:=by rw[a_8 (Ne.symm ST)] at hT;exact hT
  have R:Same H (upd (upd H S (.lst [])) T (.dK [])):=λ b o z=>by rw[a_8 (a_2 z T0),a_8 (a_2 z hS)];exact z
  refine⟨.ref pt,rfl,pt,xs,ws,Hi,rfl,Same.seq (Y.trans R) sq,Y.trans R,rw,O,.inl h3,λ l Z hl rs=>⟨l,rfl,⟨Z,SqL.of a_9⟩,?_⟩⟩
  have l0:H l=none:=R.free hl;have Sl:S≠l:=λ z=>by subst z;rw[a_8 ST,a_9] at hl;cases hl
  have Tl:T≠l:=λ z=>by subst z;rw[a_9] at hl;cases hl
  refine am3 (gap:=gap) (fin:=st) (Hin:=H) (S:=S) (T:=T) (ds:=j_5 xs) ⟨λ b o z=>by rw[a_8 (a_2 z l0)];exact R b o z,a_9,by rw[a_8 Sl,a_8 ST,a_9];rfl,by rw[a_8 Tl,a_9],hS,T0,Ne.symm Sl,rfl,λ i a x z=>(by cases z),List.nodup_nil,λ x z=>(by cases z),λ k=>rfl,qj _⟩
   Y rs (by rw[(l_3 xs).length_eq];exact O) ac _ _ _ _ λ H' t' w' refs kvs hh=>?_
  obtain⟨Hi',aa,rp⟩:=hh.fin Y;exact⟨.ref S,rfl,q _ Hi' H' aa rp⟩
abbrev c_5:Stmt:=top 43
abbrev q_2:List Str:=["row","things","cells","session","amount"]
theorem S0n:FnScope q_2 ["row","things"] (a_0 c_5):=⟨rfl,rfl,rfl,by decide +kernel,rfl,by decide +kernel,by decide +kernel⟩
theorem y_9 {f:Addr}{fd:FuncData} (F:Fun K "session_cells" "session_cells" c_5 f fd) (Z:Binds K fd ["row","things"] []) (mF:mg "session_cells"=some (.ref f)) (T:Blt w K mg) (R:DefOk P w K mg base 1 "amount_of" e_4) (O:DefOk P w K mg base 1 "sessions_of" l_0):DefOk P w K mg base 2 "session_cells" f_6 :=
 ⟨f,fd,["row","things"],e_6 F S0n rfl rfl (λ aa A outer s H E Y =>
 (xsC (aI6 2 S0n.nd (Y_2 xaN))
 (xsC (aI8 (xgN 3 S0n.nd) (xG O Y (xaC (b_8 (b_8 (xv 0) a_4) a_4) (xaC (xv 1) xaN)))
 (xsC (l_2 4 S0n.nd (xG R Y (xaC (b_8 (b_8 (xv 0) a_4) (aW4 a_4)) (xaC (xlc (sc:=a_0 c_5) rfl rfl (by show ScB q_2 (a_0 c_5) _ "thing" [] [];exact⟨rfl,rfl,by decide +kernel,by decide +kernel,rfl,by decide +kernel,by decide +kernel,rfl,by decide +kernel⟩) (xv 3) (λ _ _ _ _=>A_3) (λ _ _ _ _=>(b_8 (xv 0) a_4))) xaN))))
 (xs1 (ax6 2 (xaC (K_4 (xaC (K_4 (xaC (b_8 (b_8 (xv 3) a_4) a_4) (xaC (b_8 (b_8 (xv 3) a_4) a_4) xaN))) (xaC (K_4 (xaC (b_8 (b_8 (xv 3) (aW4 a_4)) a_4) (xaC (xv 4) xaN))) xaN))) xaN)))))
 (xs1 (aK3 2 (g_4 (xv 2))))))),Z,F.kp,mF⟩
abbrev k_2:Stmt:=top 44
theorem S0o:FnScope ["row","things"] ["row","things"] (a_0 k_2):=⟨rfl,rfl,rfl,by decide +kernel,rfl,by decide +kernel,by decide +kernel⟩
theorem H_5 {f:Addr}{fd:FuncData} (F:Fun K "fold_cells" "fold_cells" k_2 f fd) (Y:Binds K fd ["row","things"] []) (Z:mg "fold_cells"=some (.ref f)) (T:Blt w K mg) (O:DefOk P w K mg base 2 "session_cells" f_6):DefOk P w K mg base 3 "fold_cells" b_3 :=
 ⟨f,fd,["row","things"],e_6 F S0o rfl rfl (λ aa A outer s H E R =>
 (xs1 (g_4 (xB (v_3 R.units) rfl T.z_sorted PyProof.Rows.boot_sorted (xaC (xif (xt (cEq R.units) (b_8 (xv 0) a_4) m_5) (xG O R (xaC (xv 0) (xaC (xv 1) xaN))) x_2) xaN))))),Y,F.kp,Z⟩
abbrev h_9:Stmt:=top 45
theorem S0p:FnScope ["row","amount"] ["row","amount"] (a_0 h_9):=⟨rfl,rfl,rfl,by decide +kernel,rfl,by decide +kernel,by decide +kernel⟩
theorem D_6 {f:Addr}{fd:FuncData} (F:Fun K "told_answer" "told_answer" h_9 f fd) (R:Binds K fd ["row","amount"] []) (Y:mg "told_answer"=some (.ref f)) (T:Blt w K mg) (O:DefOk P w K mg base 1 "is_between" h_4):DefOk P w K mg base 2 "told_answer" k_8 :=
 ⟨f,fd,["row","amount"],e_6 F S0p rfl rfl (λ aa A outer s H E Z =>
 (xsC (o_1 (xw (ab3 (xt cIs (xv 1) l_1) (ab3 (G_1 (xtv (b_8 (xv 0) a_4) (λ _=>rfl))) (D_4 (xtv (xG O Z (xaC (xv 1) (xaC (b_8 (b_8 (xv 0) a_4) a_4) (xaC (b_8 (b_8 (xv 0) a_4) a_4) xaN)))) (λ _=>rfl))))))
 (xs1 (g_4 (xv 1)))
 xsN)
 (xs1 (g_4 l_1)))),R,F.kp,Y⟩
abbrev o_3:Stmt:=top 47
theorem S0q:FnScope ["key","begin","end"] ["key","begin","end"] (a_0 o_3):=⟨rfl,rfl,rfl,by decide +kernel,rfl,by decide +kernel,by decide +kernel⟩
theorem Z_2 {f:Addr}{fd:FuncData} (F:Fun K "key_box" "key_box" o_3 f fd) (R:Binds K fd ["key","begin","end"] []) (Y:mg "key_box"=some (.ref f)) (T:Blt w K mg) (O:DefOk P w K mg base 1 "box_made" b_1):DefOk P w K mg base 2 "key_box" d_2 :=
 ⟨f,fd,["key","begin","end"],e_6 F S0q rfl rfl (λ aa A outer s H E Z =>
 (xs1 (g_4 (xG O Z (xaC (K_4 (xaC m_5 (xaC (K_4 (xaC (xv 0) xaN)) xaN))) (xaC (xv 1) (xaC (xv 2) (xaC (bp1 T.c_EVERY_VALUE) xaN)))))))),R,F.kp,Y⟩
abbrev o_4:Stmt:=top 49
theorem S0r:FnScope ["fold","key","window"] ["fold","key","window"] (a_0 o_4):=⟨rfl,rfl,rfl,by decide +kernel,rfl,by decide +kernel,by decide +kernel⟩
theorem Z_3 {f:Addr}{fd:FuncData} (F:Fun K "is_cell" "is_cell" o_4 f fd) (Z:Binds K fd ["fold","key","window"] []) (mF:mg "is_cell"=some (.ref f)) (T:Blt w K mg) (R:DefOk P w K mg base 1 "is_key" u_7) (O:DefOk P w K mg base 1 "is_whole" o_7):DefOk P w K mg base 2 "is_cell" o_8 :=
 ⟨f,fd,["fold","key","window"],e_6 F S0r rfl rfl (λ aa A outer s H E Y =>
 (xsC (o_1 (xw (ab3 (G_1 (xtv (xG R Y (xaC (xv 1) xaN)) (λ _=>rfl))) (D_4 (G_1 (xtv (xG O Y (xaC (xv 2) xaN)) (λ _=>rfl))))))
 (xs1 (g_4 xbl))
 xsN)
 (xsC (o_1 (xt (cEq Y.units) (b_8 (xv 0) a_4) m_5)
 (xs1 (g_4 (K_6 (cEq Y.units) (xv 2) a_4)))
 xsN)
 (xsC (o_1 (xt (cEq Y.units) (b_8 (xv 0) a_4) m_5)
 (xs1 (g_4 (K_6 cGe (xv 2) a_4)))
 xsN)
 (xs1 (g_4 x_2)))))),Z,F.kp,mF⟩
abbrev k_3:Stmt:=top 50
theorem S0s:FnScope ["works","ask","key","window","row"] ["works","ask","key","window"] (a_0 k_3):=⟨rfl,rfl,rfl,by decide +kernel,rfl,by decide +kernel,by decide +kernel⟩
theorem H_6 {f:Addr}{fd:FuncData} (F:Fun K "check_cell" "check_cell" k_3 f fd) (Z:Binds K fd ["works","ask","key","window"] []) (mF:mg "check_cell"=some (.ref f)) (T:Blt w K mg) (R:DefOk P w K mg base 2 "is_cell" o_8) (O:DefOk P w K mg base 1 "row_named" d_6):DefOk P w K mg base 3 "check_cell" k_5 :=
 ⟨f,fd,["works","ask","key","window"],e_6 F S0s rfl rfl (λ aa A outer s H E Y =>
 (xsC (l_2 4 S0s.nd (xG O Y (xaC (xv 0) (xaC (xv 1) xaN))))
 (xs1 (o_1 (xw (ab3 (xt cIs (xv 4) l_1) (ab3 (xt (cNe Y.units) (b_8 (xv 4) a_4) m_5) (D_4 (G_1 (xtv (xG R Y (xaC (xG O Y (xaC (xv 0) (xaC (b_8 (b_8 (xv 4) a_4) a_4) xaN))) (xaC (xv 2) (xaC (xv 3) xaN)))) (λ _=>rfl)))))))
 (xs1 bo5)
 xsN)))),Z,F.kp,mF⟩
abbrev h_3:Stmt:=top 51
abbrev B_5:List Str:=["box","things"]
theorem S0t:FnScope B_5 ["box","things"] (a_0 h_3):=⟨rfl,rfl,rfl,by decide +kernel,rfl,by decide +kernel,by decide +kernel⟩
theorem M_7 {f:Addr}{fd:FuncData} (F:Fun K "things_in" "things_in" h_3 f fd) (R:Binds K fd ["box","things"] []) (Y:mg "things_in"=some (.ref f)) (T:Blt w K mg) (O:DefOk P w K mg base 3 "box_has" h_6):DefOk P w K mg base 4 "things_in" j_6 :=
 ⟨f,fd,["box","things"],e_6 F S0t rfl rfl (λ aa A outer s H E Z =>
 (xsC (o_1 (xt cIs (xv 0) l_1)
 (xs1 (g_4 (K_5 xaN)))
 xsN)
 (xs1 (g_4 (xlc (sc:=a_0 h_3) rfl rfl (by show ScB B_5 (a_0 h_3) _ "thing" ["box"] [0];exact⟨rfl,rfl,by decide +kernel,by decide +kernel,rfl,by decide +kernel,by decide +kernel,rfl,by decide +kernel⟩) (xv 1) (λ _ _ _ _=>(v_9 (xtv (xG O Z (xaC (xv 1) (xaC (xv 0) xaN))) (λ _=>rfl)))) (λ _ _ _ _=>(xv 0))))))),R,F.kp,Y⟩
abbrev e_9:Stmt:=top 53
theorem S0u:FnScope ["fold_word","amount","stretch"] ["fold_word","amount","stretch"] (a_0 e_9):=⟨rfl,rfl,rfl,by decide +kernel,rfl,by decide +kernel,by decide +kernel⟩
theorem y_4 {f:Addr}{fd:FuncData} (F:Fun K "values_beyond" "values_beyond" e_9 f fd) (Z:Binds K fd ["fold_word","amount","stretch"] []) (mF:mg "values_beyond"=some (.ref f)) (T:Blt w K mg) (R:DefOk P w K mg base 3 "stretch_above" c_8) (O:DefOk P w K mg base 3 "stretch_below" c_7):DefOk P w K mg base 4 "values_beyond" c_6 :=
 ⟨f,fd,["fold_word","amount","stretch"],e_6 F S0u rfl rfl (λ aa A outer s H E Y =>
 (xsC (o_1 (xt cIs (xv 1) l_1)
 (xs1 (g_4 (xv 2)))
 xsN)
 (xs1 (g_4 (xif (xt (cEq Y.units) (xv 0) m_5) (xG R Y (xaC (xv 2) (xaC (xv 1) xaN))) (xG O Y (xaC (xv 2) (xaC (xv 1) xaN)))))))),Z,F.kp,mF⟩
abbrev c_0:Stmt:=top 54
abbrev p_3:List Str:=["ask_row","fold_word","amount","stretch","bounds","part","passed","parts"]
theorem S0v:FnScope p_3 ["ask_row","fold_word","amount","stretch"] (a_0 c_0):=⟨rfl,rfl,rfl,by decide +kernel,rfl,by decide +kernel,by decide +kernel⟩
theorem w_2 {f:Addr}{fd:FuncData} (F:Fun K "turning_values" "turning_values" c_0 f fd) (bF:Binds K fd ["ask_row","fold_word","amount","stretch"] []) (mF:mg "turning_values"=some (.ref f)) (T:Blt w K mg) (Y:DefOk P w K mg base 3 "stretch_above" c_8) (R:DefOk P w K mg base 3 "stretch_below" c_7) (O:DefOk P w K mg base 2 "stretch_between" a_7) (aa:DefOk P w K mg base 2 "told_answer" k_8) (Z:DefOk P w K mg base 4 "values_beyond" c_6):DefOk P w K mg base 5 "turning_values" b_0 :=
 ⟨f,fd,["ask_row","fold_word","amount","stretch"],e_6 F S0v rfl rfl (λ ab A outer s H E hr =>
 (xsC (l_2 4 S0v.nd (bo7 (b_8 (xv 0) a_4) (as4 (K_4 (xaC l_1 (xaC l_1 xaN))))))
 (xsC (o_1 (xt (cEq hr.units) (xv 1) m_5)
 (xsC (l_2 6 S0v.nd (aI9 (K_6 x_6 (xv 2) l_1) (aI9 (K_6 x_6 (b_8 (xv 4) a_4) l_1) (as4 (K_6 cGt (xv 2) (b_8 (xv 4) a_4))))))
 (xs1 (g_4 (xif (xtv (xv 6) (λ _=>rfl)) (K_5 xaN) (K_5 (xaC (xv 3) xaN))))))
 xsN)
 (xsC (o_1 (xw (K_8 (xt (cEq hr.units) (xv 1) m_5) (x_1 (xt cIs (xv 2) l_1))))
 (xs1 (g_4 (K_5 (xaC (xv 3) xaN))))
 xsN)
 (xsC (o_1 (xt (cEq hr.units) (xv 1) m_5)
 (xsC (l_2 7 S0v.nd (K_5 (xaC (xG Y hr (xaC (xv 3) (xaC a_4 xaN))) (xaC (xG R hr (xaC (xv 3) (xaC a_4 xaN))) xaN))))
 (xs1 (g_4 (xlc (sc:=a_0 c_0) rfl rfl (by show ScB p_3 (a_0 c_0) _ "part" [] [];exact⟨rfl,rfl,by decide +kernel,by decide +kernel,rfl,by decide +kernel,by decide +kernel,rfl,by decide +kernel⟩) (xv 7) (λ _ _ _ _=>(v_9 (xt x_6 (xv 0) l_1))) (λ _ _ _ _=>(xv 0))))))
 xsN)
 (xsC (l_2 5 S0v.nd (xG Z hr (xaC (xv 1) (xaC (xv 2) (xaC (xv 3) xaN)))))
 (xsC (o_1 (xw (K_8 (xt x_6 (xv 5) l_1) (x_1 (xt cIs (xG aa hr (xaC (xv 0) (xaC (xv 2) xaN))) l_1))))
 (xs1 (l_2 5 S0v.nd (xG O hr (xaC (xv 5) (xaC (b_8 (xv 4) a_4) (xaC (b_8 (xv 4) a_4) xaN))))))
 xsN)
 (xs1 (g_4 (xif (xt cIs (xv 5) l_1) (K_5 xaN) (K_5 (xaC (xv 5) xaN)))))))))))),bF,F.kp,mF⟩
abbrev f_0:Stmt:=top 55
theorem S0w:FnScope ["ask_row","fold_word","amount","boxes","found","box","stretch"] ["ask_row","fold_word","amount","boxes"] (a_0 f_0):=⟨rfl,rfl,rfl,by decide +kernel,rfl,by decide +kernel,by decide +kernel⟩
theorem y_5 {f:Addr}{fd:FuncData} (F:Fun K "turning_boxes" "turning_boxes" f_0 f fd) (Z:Binds K fd ["ask_row","fold_word","amount","boxes"] []) (mF:mg "turning_boxes"=some (.ref f)) (T:Blt w K mg) (R:DefOk P w K mg base 1 "box_made" b_1) (O:DefOk P w K mg base 5 "turning_values" b_0):DefOk P w K mg base 6 "turning_boxes" f_4 :=
 ⟨f,fd,["ask_row","fold_word","amount","boxes"],e_6 F S0w rfl rfl (λ aa A outer s H E Y =>
 (xsC (aI6 4 S0w.nd (Y_2 xaN))
 (xsC (aI8 (xgN 5 S0w.nd) (xv 3)
 (xs1 (aI8 (xgN 6 S0w.nd) (xG O Y (xaC (xv 0) (xaC (xv 1) (xaC (xv 2) (xaC (b_8 (xv 5) a_4) xaN)))))
 (xs1 (ax6 4 (xaC (xG R Y (xaC (b_8 (xv 5) a_4) (xaC (b_8 (xv 5) a_4) (xaC (b_8 (xv 5) a_4) (xaC (xv 6) xaN))))) xaN))))))
 (xs1 (aK3 4 (g_4 (xv 4))))))),Z,F.kp,mF⟩
abbrev d_4:Stmt:=top 57
theorem S0x:FnScope ["ask_row","fold","key","window","there","boxes","gap","ahead","session","last","within","found"] ["ask_row","fold","key","window","there","boxes"] (a_0 d_4):=⟨rfl,rfl,rfl,by decide +kernel,rfl,by decide +kernel,by decide +kernel⟩
theorem u_6 {f:Addr}{fd:FuncData} (F:Fun K "session_turning" "session_turning" d_4 f fd) (bF:Binds K fd ["ask_row","fold","key","window","there","boxes"] []) (mF:mg "session_turning"=some (.ref f)) (T:Blt w K mg) (O:DefOk P w K mg base 6 "boxes_met" e_3) (Z:DefOk P w K mg base 3 "fold_cells" b_3) (R:DefOk P w K mg base 2 "key_box" d_2) (aa:DefOk P w K mg base 4 "things_in" j_6) (Y:DefOk P w K mg base 6 "turning_boxes" f_4):DefOk P w K mg base 7 "session_turning" b_7 :=
 ⟨f,fd,["ask_row","fold","key","window","there","boxes"],e_6 F S0x rfl rfl (λ ab A outer s H E hr =>
 (xsC (l_2 6 S0x.nd (b_8 (b_8 (xv 1) a_4) a_4))
 (xsC (l_2 7 S0x.nd (xG R hr (xaC (xv 2) (xaC (xb x_4 (xb ab6 (xv 3) (xv 6)) a_4) (xaC (xv 3) xaN)))))
 (xsC (l_2 8 S0x.nd (aX9 T.z_dict hr.units (xG Z hr (xaC (xv 1) (xaC (xv 4) xaN))) (K_4 (xaC (xv 2) (xaC (xv 3) xaN)))))
 (xsC (o_1 (xt cIs (xv 8) l_1)
 (xs1 (g_4 (xif (xtv (xG aa hr (xaC (xv 7) (xaC (xv 4) xaN))) (λ _=>rfl)) (K_5 xaN) (xG O hr (xaC (xv 5) (xaC (xG R hr (xaC (xv 2) (xaC (xv 3) (xaC (xb x_4 (xv 3) a_4) xaN)))) xaN))))))
 xsN)
 (xsC (l_2 9 S0x.nd (b_8 (xv 8) a_4))
 (xsC (l_2 10 S0x.nd (xG O hr (xaC (xv 5) (xaC (xG R hr (xaC (xv 2) (xaC (xv 3) (xaC (xb x_4 (xv 9) a_4) xaN)))) xaN))))
 (xsC (l_2 11 S0x.nd (xG Y hr (xaC (xv 0) (xaC (b_8 (b_8 (xv 1) a_4) (aW4 a_4)) (xaC (b_8 (xv 8) a_4) (xaC (xv 10) xaN))))))
 (xs1 (g_4 (xb x_4 (xb x_4 (xv 11) (xG O hr (xaC (xv 5) (xaC (xv 7) xaN)))) (xG O hr (xaC (xv 5) (xaC (xG R hr (xaC (xv 2) (xaC (xb x_4 (xv 9) a_4) (xaC (xb x_4 (xv 9) (xv 6)) xaN)))) xaN)))))))))))))),bF,F.kp,mF⟩
abbrev f_3:Stmt:=top 58
theorem S0y:FnScope ["ask_row","fold","key","window","there","boxes"] ["ask_row","fold","key","window","there","boxes"] (a_0 f_3):=⟨rfl,rfl,rfl,by decide +kernel,rfl,by decide +kernel,by decide +kernel⟩
theorem z_0 {f:Addr}{fd:FuncData} (F:Fun K "chain_turning" "chain_turning" f_3 f fd) (Y:Binds K fd ["ask_row","fold","key","window","there","boxes"] []) (Z:mg "chain_turning"=some (.ref f)) (T:Blt w K mg) (O:DefOk P w K mg base 7 "session_turning" b_7):DefOk P w K mg base 8 "chain_turning" f_7 :=
 ⟨f,fd,["ask_row","fold","key","window","there","boxes"],e_6 F S0y rfl rfl (λ aa A outer s H E R =>
 (xsC (o_1 (xt (cEq R.units) (b_8 (xv 1) a_4) m_5)
 (xs1 (g_4 (xG O R (xaC (xv 0) (xaC (xv 1) (xaC (xv 2) (xaC (xv 3) (xaC (xv 4) (xaC (xv 5) xaN)))))))))
 xsN)
 (xs1 (g_4 x_2)))),Y,F.kp,Z⟩
abbrev l_8:Stmt:=top 70
theorem S0z:FnScope ["works","ask","ask_row","fold"] ["works","ask"] (a_0 l_8):=⟨rfl,rfl,rfl,by decide +kernel,rfl,by decide +kernel,by decide +kernel⟩
theorem N_2 {f:Addr}{fd:FuncData} (F:Fun K "cell_rows" "cell_rows" l_8 f fd) (Y:Binds K fd ["works","ask"] []) (Z:mg "cell_rows"=some (.ref f)) (T:Blt w K mg) (O:DefOk P w K mg base 1 "row_named" d_6):DefOk P w K mg base 2 "cell_rows" n_4 :=
 ⟨f,fd,["works","ask"],e_6 F S0z rfl rfl (λ aa A outer s H E R =>
 (xsC (l_2 2 S0z.nd (xG O R (xaC (xv 0) (xaC (xv 1) xaN))))
 (xsC (l_2 3 S0z.nd (xG O R (xaC (xv 0) (xaC (b_8 (b_8 (xv 2) a_4) a_4) xaN))))
 (xs1 (g_4 (K_4 (xaC (xv 2) (xaC (xv 3) (xaC (xG O R (xaC (xv 0) (xaC (b_8 (b_8 (xv 3) a_4) a_4) xaN))) xaN))))))))),Y,F.kp,Z⟩
abbrev k_4:Stmt:=top 71
theorem S10:FnScope ["works","ask","key","window","there","boxes","rows","ways","found"] ["works","ask","key","window","there","boxes"] (a_0 k_4):=⟨rfl,rfl,rfl,by decide +kernel,rfl,by decide +kernel,by decide +kernel⟩
theorem H_7 {f:Addr}{fd:FuncData} (F:Fun K "boxes_turn" "boxes_turn" k_4 f fd) (bF:Binds K fd ["works","ask","key","window","there","boxes"] []) (mF:mg "boxes_turn"=some (.ref f)) (T:Blt w K mg) (Y:DefOk P w K mg base 2 "cell_rows" n_4) (O:DefOk P w K mg base 8 "chain_turning" f_7) (R:DefOk P w K mg base 3 "check_cell" k_5):DefOk P w K mg base 9 "boxes_turn" h_5 :=
 ⟨f,fd,["works","ask","key","window","there","boxes"],e_6 F S10 rfl rfl (λ aa A outer s H E Z =>
 (xsC (xsx (xG R Z (xaC (xv 0) (xaC (xv 1) (xaC (xv 2) (xaC (xv 3) xaN))))))
 (xsC (l_2 6 S10.nd (xG Y Z (xaC (xv 0) (xaC (xv 1) xaN))))
 (xsC (o_1 (xt (cEq Z.units) (b_8 (b_8 (xv 6) a_4) a_4) m_5)
 (xsC (l_2 7 S10.nd x_2)
 (xs1 (l_2 8 S10.nd x_2)))
 (xs1 (l_2 8 S10.nd (xG O Z (xaC (b_8 (xv 6) a_4) (xaC (b_8 (xv 6) a_4) (xaC (xv 2) (xaC (xv 3) (xaC (xv 4) (xaC (xv 5) xaN))))))))))
 (xs1 (g_4 (K_6 cGt (xB r_9 rfl T.z_len PySem.boot_len (xaC (xv 8) xaN)) a_4))))))),bF,F.kp,mF⟩
abbrev i_2:Stmt:=top 73
theorem S11:FnScope ["_law_script","_law_k"] ["_law_script","_law_k"] (a_0 i_2):=⟨rfl,rfl,rfl,by decide +kernel,rfl,by decide +kernel,by decide +kernel⟩
theorem E_0 {f:Addr}{fd:FuncData} (F:Fun K "_law_cell_at" "_law_cell_at" i_2 f fd) (O:Binds K fd ["_law_script","_law_k"] []) (Y:mg "_law_cell_at"=some (.ref f)) (T:Blt w K mg) :DefOk P w K mg base 1 "_law_cell_at" e_0 :=
 ⟨f,fd,["_law_script","_law_k"],e_6 F S11 rfl rfl (λ R A outer s H E Z =>
 (xsC (o_1 (xt cLt (xv 1) (xB r_9 rfl T.z_len PySem.boot_len (xaC (xv 0) xaN)))
 (xs1 (g_4 (b_8 (xv 0) (xv 1))))
 xsN)
 (xs1 (g_4 a_4)))),O,F.kp,Y⟩
abbrev j_9:Stmt:=top 74
theorem S12:FnScope ["_law_cell","_law_size","_law_found","_law_number","_law_other","_law_k","_law_rest"] ["_law_cell","_law_size"] (a_0 j_9):=⟨rfl,rfl,rfl,by decide +kernel,rfl,by decide +kernel,by decide +kernel⟩
theorem H_2 {f:Addr}{fd:FuncData} (F:Fun K "_law_stream" "_law_stream" j_9 f fd) (O:Binds K fd ["_law_cell","_law_size"] []) (Y:mg "_law_stream"=some (.ref f)) (T:Blt w K mg) :DefN P w K mg base 1 "_law_stream" g_0 :=
 ⟨f,fd,["_law_cell","_law_size"],aT1 F S12 rfl rfl (λ R A outer s H E Z =>
 (xnC (xnS (aI6 2 S12.nd (Y_2 xaN)))
 (bp0 (xt cGe (xv 0) (xb bs5 a_4 a_4))
 (xnC (xnS (l_2 6 S12.nd (xb v_6 (xv 0) a_4)))
 (xnC (xnS (T_3 T.z_range (xgN 5 S12.nd) (xv 1) (xsC (ax6 2 (xaC (xb q_0 (xv 6) a_4) xaN))
 (xs1 (l_2 6 S12.nd (xb v_6 (xv 6) a_4))))))
 (aX8 2)))
 (xnC (xnS (l_2 3 S12.nd (xb q_0 (xb al1 (xb x_4 (xb q_0 (xv 0) a_4) a_4) a_4) a_4)))
 (xnC (xnS (l_2 4 S12.nd (xb q_0 (xb al1 (xb x_4 (xb q_0 (xv 0) a_4) a_4) a_4) a_4)))
 (xnC (xnS (T_3 T.z_range (xgN 5 S12.nd) (xv 1) (xsC (l_2 3 S12.nd (xb x_4 (xb x_4 (xb q_0 (xb al1 (xv 3) (xb x_4 (xb v_6 (xv 3) a_4) a_4)) a_4) (xv 5)) a_4))
 (xsC (l_2 4 S12.nd (xb q_0 (xb al1 (xv 4) a_4) a_4))
 (xs1 (ax6 2 (xaC (xb x_4 (xv 3) (xv 4)) xaN)))))))
 (xnO 2))))))),O,F.kp,Y⟩
abbrev j_8:Stmt:=top 75
theorem S13:FnScope ["_law_xs","_law_most","_law_things_here","_law_k"] ["_law_xs","_law_most"] (a_0 j_8):=⟨rfl,rfl,rfl,by decide +kernel,rfl,by decide +kernel,by decide +kernel⟩
theorem H_1 {f:Addr}{fd:FuncData} (F:Fun K "_law_things" "_law_things" j_8 f fd) (O:Binds K fd ["_law_xs","_law_most"] []) (Z:mg "_law_things"=some (.ref f)) (T:Blt w K mg) :DefB P w K mg base 1 "_law_things" f_9 :=
 ⟨f,fd,["_law_xs","_law_most"],aw3 F S13 rfl rfl (λ Y A outer s H E R =>
 (xsC (aI6 2 S13.nd (Y_2 xaN))
 (xsC (T_3 T.z_range (xgN 3 S13.nd) (xb q_0 (xb v_6 (xq 0) a_4) (xv 1)) (xs1 (ax6 2 (xaC (K_4 (xaC (xb q_0 (xb v_6 (xq 0) a_4) a_4) (xaC (b_8 (K_5 (xaC m_5 (xaC m_5 xaN))) (xb q_0 (xb v_6 (xq 0) a_4) a_4)) (xaC (xb ab6 (xb q_0 (xb v_6 (xq 0) a_4) a_4) a_4) xaN)))) xaN))))
 (xs1 (aK3 2 (g_4 (xB (v_3 R.units) rfl T.z_sorted PyProof.Rows.boot_sorted (xaC (xv 2) xaN)))))))),O,F.kp,Z⟩
abbrev l_6:Stmt:=top 76
theorem S14:FnScope ["_law_xs","_law_most","_law_far","_law_boxes_here","_law_k","_law_some","_law_keys","_law_begin","_law_end","_law_low","_law_step","_law_stretch","_law_box"] ["_law_xs","_law_most","_law_far"] (a_0 l_6):=⟨rfl,rfl,rfl,by decide +kernel,rfl,by decide +kernel,by decide +kernel⟩
theorem M_9 {f:Addr}{fd:FuncData} (F:Fun K "_law_boxes" "_law_boxes" l_6 f fd) (Z:Binds K fd ["_law_xs","_law_most","_law_far"] []) (mF:mg "_law_boxes"=some (.ref f)) (T:Blt w K mg) (R:DefOk P w K mg base 1 "box_made" b_1) (O:DefOk P w K mg base 1 "stretch_made" a_6):DefB P w K mg base 2 "_law_boxes" j_7 :=
 ⟨f,fd,["_law_xs","_law_most","_law_far"],aw3 F S14 rfl rfl (λ aa A outer s H E Y =>
 (@YSs.go _ _ _ (ysC (yx (aI6 3 S14.nd (Y_2 xaN))) (ysC (as3 T.z_range (xgN 4 S14.nd) (xb q_0 (xb v_6 (xq 0) a_4) (xv 1))
 (ysC (K_3 5 S14.nd (aW3 (yaC (E_8 (yaC (ye m_5) (yaC (E_8 (yaC (ye m_5) yaN)) yaN))) (yaC (E_8 (yaC (ye m_5) (yaC (E_8 yaN) yaN))) (yaC (E_8 (yaC (ye m_5) (yaC (E_8 (yaC (ye m_5) yaN)) yaN))) (yaC (E_8 (yaC (ye m_5) (yaC (E_8 (yaC (ye m_5) (yaC (ye m_5) yaN))) yaN))) (yaC (E_8 (yaC (ye m_5) (yaC (E_8 (yaC (ye m_5) yaN)) yaN))) yaN))))))) (ysC (K_3 6 S14.nd (yix (ye (xv 5)) (yb q_0 (yb v_6 (ye (xq 0)) (ye a_4)) (ye a_4)))) (ysC (K_3 7 S14.nd (yb q_0 (yb v_6 (ye (xq 0)) (ye a_4)) (ye a_4))) (ysC (K_3 8 S14.nd (yb x_4 (yb x_4 (ye (xv 7)) (ye a_4)) (yb q_0 (yb v_6 (ye (xq 0)) (ye a_4)) (ye (xv 2))))) (ysC (K_3 9 S14.nd (yb ab6 (yb q_0 (yb v_6 (ye (xq 0)) (ye a_4)) (ye a_4)) (ye a_4))) (ysC (K_3 10 S14.nd (yb x_4 (ye a_4) (yb q_0 (yb v_6 (ye (xq 0)) (ye a_4)) (ye a_4)))) (ysC (K_3 11 S14.nd (ye (xG O Y (xaC (xv 9) (xaC (xb x_4 (xv 9) (xb q_0 (xb v_6 (xq 0) a_4) (xv 2))) (xaC (xv 10) (xaC (xb q_0 (xb v_6 (xq 0) a_4) (xv 10)) xaN))))))) (ysC (K_3 12 S14.nd (ye (xG R Y (xaC (xv 6) (xaC (xv 7) (xaC (xv 8) (xaC (xv 11) xaN))))))) (ys1 (yif (xt x_6 (xv 12) l_1)
 (ys1 (yx (ax6 3 (xaC (xv 12) xaN))))
 ysN))))))))))) (ys1 (yx (aK3 3 (g_4 (xv 3))))))))),Z,F.kp,mF⟩
abbrev g_8:Stmt:=top 77
theorem S15:FnScope ["_law_boxes_here","_law_key","_law_things_here","_law_keys","_law_begin","_law_end","_law_stretch","_law_time","_law_value"] ["_law_boxes_here","_law_key"] (a_0 g_8):=⟨rfl,rfl,rfl,by decide +kernel,rfl,by decide +kernel,by decide +kernel⟩
theorem B_3 {f:Addr}{fd:FuncData} (F:Fun K "_law_in_boxes" "_law_in_boxes" g_8 f fd) (R:Binds K fd ["_law_boxes_here","_law_key"] []) (Z:mg "_law_in_boxes"=some (.ref f)) (T:Blt w K mg) :DefOk P w K mg base 1 "_law_in_boxes" e_2 :=
 ⟨f,fd,["_law_boxes_here","_law_key"],e_6 F S15 rfl rfl (λ Y A outer s H E O =>
 (xsC (aI6 2 S15.nd (Y_2 xaN))
 (xsC (aI8 (xgT (aI7 (xgN 3 S15.nd) (aI7 (xgN 4 S15.nd) (aI7 (xgN 5 S15.nd) (aI7 (xgN 6 S15.nd) bi0))))) (xv 0)
 (xs1 (o_1 (xt (cEq O.units) (K_6 bh1 (xv 1) (b_8 (xv 3) a_4)) (K_6 (cEq O.units) (b_8 (xv 3) a_4) m_5))
 (xs1 (as5 T.z_range (xgN 7 S15.nd) (xv 4) (xv 5) (xs1 (as5 T.z_range (xgN 8 S15.nd) (b_8 (xv 6) a_4) (xb x_4 (b_8 (xv 6) a_4) a_4) (xs1 (o_1 (xt (cEq O.units) (xb q_0 (xv 8) (b_8 (xv 6) a_4)) (b_8 (xv 6) a_4))
 (xs1 (ax6 2 (xaC (K_4 (xaC (xv 7) (xaC (xv 1) (xaC (xv 8) xaN)))) xaN)))
 xsN))))))
 xsN)))
 (xs1 (aK3 2 (g_4 (xv 2))))))),R,F.kp,Z⟩
abbrev k_0:Stmt:=top 78
theorem S16:FnScope ["_law_fold","_law_things_here","_law_cell","_law_one","_law_found"] ["_law_fold","_law_things_here","_law_cell"] (a_0 k_0):=⟨rfl,rfl,rfl,by decide +kernel,rfl,by decide +kernel,by decide +kernel⟩
theorem H_3 {f:Addr}{fd:FuncData} (F:Fun K "_law_answer" "_law_answer" k_0 f fd) (Y:Binds K fd ["_law_fold","_law_things_here","_law_cell"] []) (Z:mg "_law_answer"=some (.ref f)) (T:Blt w K mg) (O:DefOk P w K mg base 3 "fold_cells" b_3):DefOk P w K mg base 4 "_law_answer" b_5 :=
 ⟨f,fd,["_law_fold","_law_things_here","_law_cell"],e_6 F S16 rfl rfl (λ aa A outer s H E R =>
 (xsC (aI8 (xgT (aI7 (xgN 3 S16.nd) (aI7 (xgN 4 S16.nd) bi0))) (xG O R (xaC (xv 0) (xaC (xv 1) xaN)))
 (xs1 (o_1 (xt (cEq R.units) (xv 3) (xv 2))
 (xs1 (g_4 (xv 4)))
 xsN)))
 (xs1 (g_4 l_1)))),Y,F.kp,Z⟩
abbrev w_0:Stmt:=top 79
abbrev aC0:List Str:=["_law_script","_law_xs","_law_fold","_law_works","_law_there","_law_boxes_here","_law_cell","_law_found","_law_now","_law_things_here","_law_moved","_law_turn","_law_cells","_law_row"]
theorem S17:FnScope aC0 ["_law_script"] (a_0 w_0):=⟨rfl,rfl,rfl,by decide +kernel,rfl,by decide +kernel,by decide +kernel⟩
theorem aT0 {f:Addr}{fd:FuncData} (F:Fun K "law" "law" w_0 f fd) (T:Blt w K mg) (O:DefOk P w K mg base 4 "_law_answer" b_5) (ad:DefB P w K mg base 2 "_law_boxes" j_7) (Y:DefOk P w K mg base 1 "_law_cell_at" e_0) (R:DefOk P w K mg base 1 "_law_in_boxes" e_2) (Z:DefN P w K mg base 1 "_law_stream" g_0) (ab:DefB P w K mg base 1 "_law_things" f_9) (aa:DefOk P w K mg base 9 "boxes_turn" h_5) (ac:DefOk P w K mg base 3 "fold_cells" b_3):FnOk P w K mg base CX0 10 f fd ["_law_script"] (spP K af0) :=
 e_6 F S17 rfl rfl (λ ae A outer s H E hr =>
 (@YSs.go _ _ _ (ysC (yx (bo9 1 S17.nd Z (hr.mono (by decide)) (xaC (xG Y hr (xaC (xv 0) (xaC a_4 xaN))) (xaC a_4 xaN)))) (ysC (K_3 2 S17.nd (E_8 (yaC (ye m_5) (yaC (ye m_5) (yaC (E_8 (yaC (ye m_5) yaN)) (yaC (E_8 (yaC (yb x_4 (ye a_4) (yb q_0 (yb v_6 (ye (xq 1)) (ye a_4)) (ye a_4))) (yaC (yix (aW3 (yaC (ye m_5) (yaC (ye m_5) (yaC (ye m_5) (yaC (ye m_5) yaN))))) (yb q_0 (yb v_6 (ye (xq 1)) (ye a_4)) (ye a_4))) yaN))) yaN)))))) (ysC (K_3 3 S17.nd (aW3 (yaC (E_8 (yaC (ye m_5) (yaC (ye m_5) (yaC (E_8 yaN) (yaC (E_8 (yaC (ye l_1) (yaC (ye l_1) yaN))) yaN))))) (yaC (ye (xv 2)) (yaC (E_8 (yaC (ye m_5) (yaC (ye m_5) (yaC (E_8 (yaC (ye m_5) yaN)) (yaC (E_8 yaN) yaN))))) yaN))))) (ysC (K_3 4 S17.nd (ye (xFb 1 ab (hr.mono (by decide)) (xaC a_4 xaN)))) (ysC (K_3 5 S17.nd (ye (xFb 1 ad (hr.mono (by decide)) (xaC a_4 (xaC a_4 xaN))))) (ysC (K_3 6 S17.nd (E_8 (yaC (yix (aW3 (yaC (ye m_5) (yaC (ye m_5) (yaC (ye m_5) yaN)))) (yb q_0 (yb v_6 (ye (xq 1)) (ye a_4)) (ye a_4))) (yaC (yb q_0 (yb v_6 (ye (xq 1)) (ye a_4)) (ye a_4)) yaN)))) (ysC (yif (xw (K_8 (xt (cEq hr.units) (xb q_0 (xb v_6 (xq 1) a_4) a_4) a_4) (x_1 (xt (cNe hr.units) (xv 4) (K_5 xaN)))))
 (ysC (K_3 12 S17.nd (ye (xG ac hr (xaC (xv 2) (xaC (xv 4) xaN))))) (ys1 (K_3 6 S17.nd (yix (yix (ye (xv 12)) (yb q_0 (yb v_6 (ye (xq 1)) (ye a_4)) (ye (xB r_9 rfl T.z_len PySem.boot_len (xaC (xv 12) xaN))))) (ye a_4)))))
 ysN) (ysC (K_3 7 S17.nd (ye (xG aa hr (xaC (xv 3) (xaC m_5 (xaC (b_8 (xv 6) a_4) (xaC (b_8 (xv 6) a_4) (xaC (xTy W_8 rfl T.z_list PyProof.Rows.boot_list (xaC (xv 4) xaN)) (xaC (xTy W_8 rfl T.z_list PyProof.Rows.boot_list (xaC (xv 5) xaN)) xaN))))))))) (ysC (K_3 8 S17.nd (ye (xG O hr (xaC (xv 2) (xaC (xv 4) (xaC (xv 6) xaN)))))) (ysC (K_3 9 S17.nd (ye (xG R hr (xaC (xv 5) (xaC (b_8 (xv 6) a_4) xaN))))) (ysC (yx (ac0 10 S17.nd (sc:=a_0 w_0) rfl rfl (by show ScB aC0 (a_0 w_0) _ "_law_thing" ["_law_now","_law_fold","_law_cell","_law_there"] [8,2,6,4];exact⟨rfl,rfl,by decide +kernel,by decide +kernel,rfl,by decide +kernel,by decide +kernel,rfl,by decide +kernel⟩) (xv 9) (λ _ _ _ _=>(v_9 (xt (cNe hr.units) (xG O hr (xaC (xv 2) (xaC (xB (v_3 hr.units) rfl T.z_sorted PyProof.Rows.boot_sorted (xaC (xb x_4 (xv 4) (K_5 (xaC (xv 0) xaN))) xaN)) (xaC (xv 3) xaN)))) (xv 1)))) (λ _ _ _ _=>(xv 0)))) (ysC (yif (xw (ab3 (G_1 (xtv (xty (t:=.bool) T.z_isinstance T.z_bool PyProof.Rows.boot_bool (xv 7)) (λ _=>rfl))) (D_4 (xt (cNe hr.units) (xv 7) (K_6 (cNe hr.units) (xv 10) (K_5 xaN))))))
 (ys1 (aX7 (ye xbl)))
 ysN) (ysC (as3 T.z_range (xgN 11 S17.nd) a_4
 (ys1 (yif (xw (K_8 (G_1 (xtv (xv 7) (λ _=>rfl))) (x_1 (xt (cNe hr.units) (xv 9) (K_5 xaN)))))
 (ysC (yx (al6 13 S17.nd 1 1 T.z_range (sc:=a_0 w_0) rfl rfl (by show ScB aC0 (a_0 w_0) _ "_law_k" ["_law_things_here","_law_xs"] [9,1];exact⟨rfl,rfl,by decide +kernel,by decide +kernel,rfl,by decide +kernel,by decide +kernel,rfl,by decide +kernel⟩) (xb x_4 a_4 (xb q_0 (xb v_6 (xq 1) a_4) a_4)) (λ _ _ _ _=>A_3) (λ _ _ _ _=>(b_8 (xv 1) (xb q_0 (xb v_6 (xq 2) a_4) (xB r_9 rfl T.z_len PySem.boot_len (xaC (xv 1) xaN))))))) (ys1 (yif (xt (cNe hr.units) (xG O hr (xaC (xv 2) (xaC (xB (v_3 hr.units) rfl T.z_sorted PyProof.Rows.boot_sorted (xaC (xb x_4 (xv 4) (xv 13)) xaN)) (xaC (xv 6) xaN)))) (xv 8))
 (ys1 (aX7 (ye xbl)))
 ysN)))
 ysN))) (ys1 (aX7 (ye xbl))))))))))))))))))
end
end Fx
namespace Fx
open PySem
structure Th where
 t:Int
 k:Str
 v:Int
 deriving DecidableEq
noncomputable def tD (x:Th):D:=.tup [.int x.t,.str x.k,.int x.v]
noncomputable def keyH (x:List Th):Option Str:=x.head?.map (·.k)
noncomputable def Stp (gap:Int) (st:List (List Th)) (th:Th) (O:List (List Th)):Prop :=
 ((∀ y∈st,keyH y≠some th.k)/\O=st++[[th]]) \/
 ∃ a x b z,st=a++x::b/\keyH x=some th.k/\(∀ y∈b,keyH y≠some th.k)/\x.getLast?=some z/\((gap<=th.t-z.t/\O=st++[[th]])\/(th.t-z.t<gap/\O=a++(x++[th])::b))
noncomputable def mm (st:List (List Th)):List (List D):=st.map (List.map tD)
theorem W_0 (x:List Th):(x.map tD).head?.bind Z_9=keyH x:=by
 cases x with
 |nil=>rfl
 |cons a r=>rfl
theorem B_7 {k:Str}:∀ {st:List (List Th)}{i:Nat},h_2 k (mm st)=some i->∃ a x b,st=a++x::b/\a.length=i/\keyH x=some k/\∀ y∈b,keyH y≠some k
 |[],i,h=>by cases h
 |x::r,i,h=>by
  have h':(match h_2 k (mm r) with | some i=>some (i+1) | none=>if ((x.map tD).head?.bind Z_9)=some k then some 0 else none)=some i:=h
  cases q:h_2 k (mm r) with
  |some j =>
   rw[q] at h';obtain⟨a,y,b,e1,e2,e3,e4⟩:=B_7 q;have:j+1=i:=qi h';exact⟨x::a,y,b,by rw[e1];rfl,by rw[List.length_cons,e2];exact this,e3,e4⟩
  |none =>
   rw[q] at h'
   by_cases c:keyH x=some k
   ·have O:(if ((x.map tD).head?.bind Z_9)=some k then some 0 else none)=some i:=h'
    rw[W_0,if_pos c] at O;cases O;refine⟨[],x,r,rfl,rfl,c,λ y Y=>?_⟩
    intro z
    have:∀ (st:List (List Th)),h_2 k (mm st)=none->∀ y∈st,keyH y≠some k:=by
     intro st
     induction st with
     |nil=>intro _ y Y;cases Y
     |cons w st ih =>
      intro hn y Y;have R:(match h_2 k (mm st) with | some i=>some (i+1) | none=>if ((w.map tD).head?.bind Z_9)=some k then some 0 else none)=none:=hn
      cases Z:h_2 k (mm st) with
      |some j=>rw[Z] at R;cases R
      |none =>
       rw[Z] at R;have O:(if ((w.map tD).head?.bind Z_9)=some k then some 0 else none)=(none:Option Nat):=R;rw[W_0] at O
       rcases qv Y with rfl | Y
       ·intro z;rw[if_pos z] at O;cases O
       ·exact ih Z y Y
    exact this r q y Y z
   ·have O:(if ((x.map tD).head?.bind Z_9)=some k then some 0 else none)=some i:=h'
    rw[W_0,if_neg c] at O;cases O
theorem B_9 {k:Str}:∀ {st:List (List Th)},h_2 k (mm st)=none->∀ y∈st,keyH y≠some k
 |[],_,y,R=>by cases R
 |w::st,hn,y,R=>by
  have O:(match h_2 k (mm st) with | some i=>some (i+1) | none=>if ((w.map tD).head?.bind Z_9)=some k then some 0 else none)=none:=hn
  cases Y:h_2 k (mm st) with
  |some j=>rw[Y] at O;cases O
  |none =>
   rw[Y] at O;have Z:(if ((w.map tD).head?.bind Z_9)=some k then some 0 else none)=(none:Option Nat):=O;rw[W_0] at Z
   rcases qv R with rfl | R
   ·intro z;rw[if_pos z] at Z;cases Z
   ·exact B_9 Y y R
theorem ay5 (gap:Int) (st:List (List Th)) (th:Th):∃ O,l_4 gap (mm st) th.k th.t (tD th)=mm O/\Stp gap st th O:=by
 have new:mm st++[[tD th]]=mm (st++[[th]]):=by unfold mm;rw[List.map_append];rfl
 unfold l_4;cases q:h_2 th.k (mm st) with
 |none=>exact⟨st++[[th]],new,.inl ⟨B_9 q,rfl⟩⟩
 |some i =>
  obtain⟨a,x,b,rfl,rfl,e3,e4⟩:=B_7 q
  have gd:(mm (a++x::b)).getD a.length []=x.map tD:=by
   unfold mm;rw[List.getD_eq_getElem?_getD,List.map_append,List.getElem?_append_right (by simp)]
   simp
  obtain⟨z,R⟩:∃ z,x.getLast?=some z:=by
   cases Y:x.getLast? with
   |some z=>exact⟨z,rfl⟩
   |none=>rw[List.getLast?_eq_none_iff] at Y;rw[Y] at e3;cases e3
  have Z:O_2 gap th.t (x.map tD)=decide (th.t-z.t<gap):=by
   unfold O_2;rw[List.getLast?_map,R];rfl
  show ∃ O,(if O_2 gap th.t ((mm (a++x::b)).getD a.length [])=true then (mm (a++x::b)).set a.length ((mm (a++x::b)).getD a.length []++[tD th]) else mm (a++x::b)++[[tD th]])=mm O/\_;rw[gd,Z]
  by_cases c:th.t-z.t<gap
  ·refine⟨a++(x++[th])::b,?_,.inr ⟨a,x,b,z,rfl,e3,e4,R,.inr ⟨c,rfl⟩⟩⟩
   rw[if_pos (decide_eq_true c)];unfold mm;rw[List.map_append,List.map_append,List.set_append_right _ _ (by simp)]
   simp
  ·refine⟨_,by rw[if_neg (by simpa using c)];exact new,.inr ⟨a,x,b,z,rfl,e3,e4,R,.inl ⟨by omega,rfl⟩⟩⟩
structure Iv (gap:Int) (pre:List Th) (st:List (List Th)):Prop where
 ne:∀ x∈st,x≠[]
 sub:∀ x∈st,x=pre.filter λ u=>decide (u∈x)
 cov:∀ u∈pre,∃ x∈st,u∈x
 apart:st.Pairwise λ x y=>∀ u∈x,∀ w∈y,u.k=w.k->u.t+gap<=w.t
 key:∀ x∈st,∀ u∈x,∀ w∈x,u.k=w.k
 chain:∀ x∈st,∀ (i:Nat) (u w:Th),x[i]?=some u->x[i+1]?=some w->w.t-u.t<gap
abbrev leT (l:List Th):Prop:=l.Pairwise λ u w=>u.t<=w.t
theorem Iv.mem {gap:Int}{O:List Th}{st:List (List Th)} (h:Iv gap O st) {x:List Th} (Y:x∈st) {u:Th} (R:u∈x):u∈O:=by
 rw[h.sub x Y] at R;exact (List.mem_filter.mp R).1
theorem Iv.srt {gap:Int}{O:List Th}{st:List (List Th)} (h:Iv gap O st) (s:leT O) {x:List Th} (R:x∈st):leT x:=by
 rw[h.sub x R];exact s.filter _
theorem Iv.keyAt {gap:Int}{O:List Th}{st:List (List Th)} (h:Iv gap O st) {x:List Th} (Y:x∈st) {u:Th} (R:u∈x):keyH x=some u.k:=by
 cases x with
 |nil=>cases R
 |cons f r=>exact congrArg some (h.key _ Y f qg u R)
theorem w_4 {x:List Th} (s:leT x) {z u:Th} (R:x.getLast?=some z) (O:u∈x):u.t<=z.t:=by
 obtain⟨Y,e⟩:=List.getLast?_eq_some_iff.mp R;rw[e] at s O
 rcases qw O with O | O
 ·exact (List.pairwise_append.mp s).2.2 u O z qg
 ·rw[List.mem_singleton.mp O];omega
theorem r_5 {x:List Th} (s:leT x) {f u:Th} (hf:x.head?=some f) (O:u∈x):f.t<=u.t:=by
 cases x with
 |nil=>cases O
 |cons g r =>
  cases hf
  rcases qv O with rfl | O
  ·omega
  ·exact (List.pairwise_cons.mp s).1 u O
theorem z_6 {x:List Th}{z:Th} (O:x.getLast?=some z):z∈x:=List.mem_of_getLast? O
theorem Iv.step {gap:Int}{aa:List Th}{st ai:List (List Th)}{th:Th} (h:Iv gap aa st) (g1:1<=gap) (s:leT (aa++[th])) (hs:Stp gap st th ai):Iv gap (aa++[th]) ai:=by
 obtain⟨sp,_,le⟩:=List.pairwise_append.mp s;have le:∀ u∈aa,u.t<=th.t:=λ u R=>le u R th qg
 have new:(∀ y∈st,∀ u∈y,u.k=th.k->u.t+gap<=th.t)->Iv gap (aa++[th]) (st++[[th]]):=λ far=>by
  have ae:th∉aa:=λ z=>by
   obtain⟨y,O,R⟩:=h.cov th z;have:=far y O th R rfl;omega
  have ag:aa.filter (λ u=>decide (u∈[th]))=[]:=by
   rw[List.filter_eq_nil_iff];intro u R z;have:u=th:=by simpa using z
   exact ae (this▸R)
  refine⟨λ x Y=>?_,λ x Y=>?_,λ u R=>?_,?_,λ x Y=>?_,λ x Y=>?_⟩
  ·rcases qw Y with Y | Y
   ·exact h.ne x Y
   ·rw[List.mem_singleton.mp Y];simp
  ·rcases qw Y with Y | Y
   ·have:¬ decide (th∈x)=true:=λ z=>ae (h.mem Y (by simpa using z))
    rw[List.filter_append,List.filter_cons_of_neg (p:=λ u=>decide (u∈x)) this,List.filter_nil,List.append_nil]
    exact h.sub x Y
   ·rw[List.mem_singleton.mp Y,List.filter_append,ag,List.filter_cons_of_pos (by simp),List.filter_nil];rfl
  ·rcases qw R with R | R
   ·obtain⟨x,Y,q⟩:=h.cov u R
    exact⟨x,qp _ Y,q⟩
   ·exact⟨[th],qo _ qg,R⟩
  ·refine List.pairwise_append.mpr ⟨h.apart,List.pairwise_singleton _ _,λ x Y y O u R w hw e=>?_⟩
   rw[List.mem_singleton.mp O] at hw;obtain rfl:=List.mem_singleton.mp hw;exact far x Y u R e
  ·rcases qw Y with Y | Y
   ·exact h.key x Y
   ·rw[List.mem_singleton.mp Y]
    intro u R w hw;rw[List.mem_singleton.mp R,List.mem_singleton.mp hw]
  ·rcases qw Y with Y | Y
   ·exact h.chain x Y
   ·rw[List.mem_singleton.mp Y]
    intro i u w _ hw;simp at hw
 rcases hs with ⟨hn,rfl⟩ | ⟨a,x,b,z,rfl,hk,hb,hz,hs⟩
 ·exact new λ y O u R e=>absurd (by rw[h.keyAt O R,e]) (hn y O)
 ·have xm:x∈a++x::b:=qo _ qg
  have zm:=z_6 hz
  have zk:z.k=th.k:=by
   have:=h.keyAt xm zm;rw[hk] at this;exact (qi this).symm
  obtain⟨pa,al,ac⟩:=List.pairwise_append.mp h.apart
  have af:∀ y∈a++x::b,∀ u∈y,u.k=th.k->(y∈a/\u.t+gap<=z.t)\/(u∈x/\u.t<=z.t):=λ y O u R e=>by
   rcases qw O with Z | Z
   ·exact .inl ⟨Z,ac y Z x qg u R z zm (e.trans zk.symm)⟩
   ·rcases qv Z with rfl | Z
    ·exact .inr ⟨R,w_4 (h.srt sp xm) hz R⟩
    ·exact absurd (by rw[h.keyAt O R,e]) (hb y Z)
  rcases hs with ⟨far,rfl⟩ | ⟨near,rfl⟩
  ·refine new λ y O u R e=>?_
   rcases af y O u R e with ⟨_,q⟩ | ⟨_,q⟩ <;> omega
  ·have zt:=le z (h.mem xm zm)
   have ak:∀ y∈a++x::b,th∈y->th∈x:=λ y O R=>by
    rcases af y O th R rfl with ⟨_,q⟩ | ⟨q,_⟩
    ·omega
    ·exact q
   have aj:∀ y∈a,th∉y:=λ y O R=>by
    have:=ac y O x qg th R z zm zk.symm;omega
   have ah:∀ y∈b,th∉y:=λ y O R=>hb y O (h.keyAt (qo _ (qh _ O)) R)
   have ad:∀ y,y∈a\/y∈b->y∈a++x::b:=λ y O=>by
    rcases O with O | O
    ·exact qp _ O
    ·exact qo _ (qh _ O)
   have ab:∀ {y:List Th},y∈a++(x++[th])::b->(y∈a\/y∈b)\/y=x++[th]:=λ {y} O=>by
    rcases qw O with O | O
    ·exact .inl (.inl O)
    ·rcases qv O with O | O
     ·exact .inr O
     ·exact .inl (.inr O)
   refine⟨λ y O=>?_,λ y O=>?_,λ u R=>?_,?_,λ y O=>?_,λ y O=>?_⟩
   ·rcases ab O with O | rfl
    ·exact h.ne y (ad y O)
    ·simp
   ·rcases ab O with O | rfl
    ·have:¬ decide (th∈y)=true:=λ q=>by
      have q:th∈y:=by simpa using q
      rcases O with O | O
      ·exact aj y O q
      ·exact ah y O q
     rw[List.filter_append,List.filter_cons_of_neg (p:=λ u=>decide (u∈y)) this,List.filter_nil,List.append_nil]
     exact h.sub y (ad y O)
    ·have e:aa.filter (λ u=>decide (u∈x++[th]))=aa.filter λ u=>decide (u∈x):=by
      refine List.filter_congr λ u R=>decide_eq_decide.mpr ⟨λ q=>?_,λ q=>qp _ q⟩
      rcases qw q with q | q
      ·exact q
      ·have:u=th:=List.mem_singleton.mp q
       subst this;obtain⟨y,O,hv⟩:=h.cov u R;exact ak y O hv
     rw[List.filter_append,e,<- h.sub x xm,List.filter_cons_of_pos (by simp),List.filter_nil]
   ·rcases qw R with R | R
    ·obtain⟨y,O,q⟩:=h.cov u R
     rcases qw O with O | O
     ·exact⟨y,qp _ O,q⟩
     ·rcases qv O with rfl | O
      ·exact⟨y++[th],qo _ qg,qp _ q⟩
      ·exact⟨y,qo _ (qh _ O),q⟩
    ·exact⟨x++[th],qo _ qg,qo _ R⟩
   ·obtain⟨px,pb⟩:=List.pairwise_cons.mp al
    refine List.pairwise_append.mpr ⟨pa,List.pairwise_cons.mpr ⟨λ y O u R w hw e=>?_,pb⟩,λ y O y' Z u R w hw e=>?_⟩
    ·rcases qw R with R | R
     ·exact px y O u R w hw e
     ·obtain rfl:=List.mem_singleton.mp R
      exact absurd (by rw[h.keyAt (ad y (.inr O)) hw,e]) (hb y O)
    ·rcases qv Z with rfl | Z
     ·rcases qw hw with hw | hw
      ·exact ac y O x qg u R w hw e
      ·obtain rfl:=List.mem_singleton.mp hw
       have:=ac y O x qg u R z zm (e.trans zk.symm);omega
     ·exact ac y O y' (qh _ Z) u R w hw e
   ·rcases ab O with O | rfl
    ·exact h.key y (ad y O)
    ·have kx:∀ u∈x++[th],u.k=th.k:=λ u R=>by
      rcases qw R with R | R
      ·exact (h.key x xm u R z zm).trans zk
      ·rw[List.mem_singleton.mp R]
     exact λ u R w hw=>(kx u R).trans (kx w hw).symm
   ·rcases ab O with O | rfl
    ·exact h.chain y (ad y O)
    ·intro i u w R hw
     by_cases c:i+1<x.length
     ·rw[List.getElem?_append_left (by omega)] at R hw
      exact h.chain x xm i u w R hw
     ·have il:=(List.getElem?_eq_some_iff.mp hw).1
      rw[List.length_append,List.length_singleton] at il;have e1:i+1=x.length:=by omega
      rw[e1,List.getElem?_append_right (Nat.le_refl _),Nat.sub_self] at hw;cases hw;rw[List.getElem?_append_left (by omega)] at R
      rw[List.getLast?_eq_getElem?,show x.length-1=i by omega,R] at hz
      cases hz;exact near
theorem Stp.len {gap:Int}{st O:List (List Th)}{th:Th} (h:Stp gap st th O):O.length<=st.length+1:=by
 rcases h with ⟨_,rfl⟩ | ⟨a,x,b,z,rfl,_,_,_,⟨_,rfl⟩ | ⟨_,rfl⟩⟩
 ·rw[List.length_append,List.length_singleton];omega
 ·rw[List.length_append,List.length_singleton];omega
 ·rw[List.length_append,List.length_append,List.length_cons,List.length_cons];omega
theorem G_5 (gap:Int) (g1:1<=gap):∀ (rest O:List Th) (st:List (List Th)),Iv gap O st->leT (O++rest)->∃ fin,t_1 gap (rest.map tD) (mm st)=some (mm fin)/\Iv gap (O++rest) fin/\fin.length<=st.length+rest.length
 |[],O,st,h,_=>⟨st,rfl,by rw[List.append_nil];exact h,qj _⟩
 |th::rest,O,st,h,s=>by
  obtain⟨R,e,Y⟩:=ay5 gap st th;have Z:leT (O++[th]++rest):=by rw[List.append_assoc];exact s
  have h':=h.step g1 (List.pairwise_append.mp Z).1 Y;obtain⟨fin,e2,h2,h3⟩:=G_5 gap g1 rest (O++[th]) R h' Z;have:=Y.len;refine⟨fin,?_,by rw[List.append_assoc] at h2;exact h2,by rw[List.length_cons];omega⟩
  show t_1 gap (rest.map tD) (l_4 gap (mm st) th.k th.t (tD th))=_;rw[e];exact e2
theorem ag7 (gap:Int):Iv gap [] []:=⟨λ x O=>(by cases O),λ x O=>(by cases O),λ x O=>(by cases O),List.Pairwise.nil,λ x O=>(by cases O),λ x O=>(by cases O)⟩
theorem Iv.eqf {gap:Int}{L:List Th}{st:List (List Th)} (h:Iv gap L st) (g1:1<=gap) (s:leT L) {x:List Th} (R:x∈st) {f l:Th} (hf:x.head?=some f) (hl:x.getLast?=some l):(L.filter λ u=>decide (u.k=f.k)&&(decide (f.t<=u.t)&&decide (u.t<=l.t)))=x:=by
 refine Eq.trans (List.filter_congr λ u O=>?_) (h.sub x R).symm
 have Z:f∈x:=List.mem_of_mem_head? hf;have lm:=z_6 hl;rw[Bool.eq_iff_iff,Bool.and_eq_true,Bool.and_eq_true,decide_eq_true_iff,decide_eq_true_iff,decide_eq_true_iff,decide_eq_true_iff];constructor
 ·rintro ⟨e,c1,c2⟩
  obtain⟨y,hy,O⟩:=h.cov u O;obtain⟨i,hi,ei⟩:=List.getElem_of_mem R;obtain⟨j,hj,Y⟩:=List.getElem_of_mem hy;have pw:=List.pairwise_iff_getElem.mp h.apart
  rcases Nat.lt_trichotomy i j with q | q | q
  ·have:=pw i j hi hj q l (by rw[ei];exact lm) u (by rw[Y];exact O) ((h.key x R l lm f Z).trans e.symm)
   omega
  ·subst q;rw[ei] at Y;exact Y▸O
  ·have:=pw j i hj hi q u (by rw[Y];exact O) f (by rw[ei];exact Z) e
   omega
 ·intro O
  exact⟨h.key x R u O f Z,r_5 (h.srt s R) hf O,w_4 (h.srt s R) hl O⟩
structure Ses (g:Int) (L:List Th) (k:Str) (a b:Int):Prop where
 fst:∃ u∈L,u.k=k/\u.t=a
 lst:∃ u∈L,u.k=k/\u.t=b
 le:a<=b
 pre:∀ u∈L,u.k=k->a-g<u.t->a<=u.t
 suf:∀ u∈L,u.k=k->u.t<b+g->u.t<=b
 nxt:∀ u∈L,u.k=k->a<=u.t->u.t<b->∃ w∈L,w.k=k/\u.t<w.t/\w.t<=b/\w.t-u.t<g
theorem Ses.sub {g:Int}{L L':List Th}{k:Str}{a b:Int} (h:Ses g L k a b) (e:∀ u,u∈L↔u∈L'):Ses g L' k a b:=by
 refine⟨?_,?_,h.le,λ u O=>h.pre u ((e u).mpr O),λ u O=>h.suf u ((e u).mpr O),λ u O h1 h2 R=>?_⟩
 ·obtain⟨u,O,q⟩:=h.fst;exact⟨u,(e u).mp O,q⟩
 ·obtain⟨u,O,q⟩:=h.lst;exact⟨u,(e u).mp O,q⟩
 ·obtain⟨w,hw,q⟩:=h.nxt u ((e u).mpr O) h1 h2 R;exact⟨w,(e w).mp hw,q⟩
theorem Ses.lt {g:Int}{L:List Th}{k:Str}{a b c:Int} (h:Ses g L k a b) (h':Ses g L k a c):¬ b<c:=λ z=>by
 obtain⟨u,O,e1,e2⟩:=h.lst;obtain⟨w,hw,R,Z,Y,f4⟩:=h'.nxt u O e1 (by have:=h.le;omega) (by omega)
 have:=h.suf w hw R (by omega)
 omega
theorem Ses.uniq {g:Int}{L:List Th}{k:Str}{a b c:Int} (h:Ses g L k a b) (h':Ses g L k a c):b=c:=by
 have:=h.lt h';have:=h'.lt h;omega
theorem A_2 {g:Int}{T:Int}:∀ {x:List Th}{f l:Th},x.head?=some f->x.getLast?=some l->f.t<=T->T<l.t->(∀ (i:Nat) (u w:Th),x[i]?=some u->x[i+1]?=some w->w.t-u.t<g)->∃ p∈x,∃ q∈x,p.t<=T/\T<q.t/\q.t-p.t<g
 |[],f,l,h,_,_,_,_=>nomatch h
 |[y],f,l,h1,h2,h3,h4,_=>by
  cases h1;have e:y=l:=by simpa using h2
  subst e;omega
 |y::z::r,f,l,h1,h2,h3,h4,h5=>by
  cases h1
  by_cases c:z.t<=T
  ·obtain⟨p,R,q,O,e⟩:=A_2 (x:=z::r) (f:=z) (l:=l) rfl (by rw[<- h2];simp) c h4 λ i u w h h'=>h5 (i+1) u w h h'
   exact⟨p,qh _ R,q,qh _ O,e⟩
  ·exact⟨y,qg,z,qh _ qg,h3,by omega,h5 0 y z rfl rfl⟩
section
variable {g:Int}{L:List Th}{st:List (List Th)} (h:Iv g L st) (g1:1<=g) (s:leT L)
include h g1 s
theorem Iv.far {x:List Th} (Y:x∈st) {f l:Th} (hf:x.head?=some f) (hl:x.getLast?=some l) {u:Th} (O:u∈L) (e:u.k=f.k):(u∈x/\f.t<=u.t/\u.t<=l.t)\/u.t+g<=f.t\/l.t+g<=u.t:=by
 have fm:f∈x:=List.mem_of_mem_head? hf;have lm:=z_6 hl;obtain⟨y,hy,O⟩:=h.cov u O;obtain⟨i,hi,Z⟩:=List.getElem_of_mem Y;obtain⟨j,hj,R⟩:=List.getElem_of_mem hy;have pw:=List.pairwise_iff_getElem.mp h.apart
 rcases Nat.lt_trichotomy i j with q | q | q
 ·have:=pw i j hi hj q l (by rw[Z];exact lm) u (by rw[R];exact O) ((h.key x Y l lm f fm).trans e.symm)
  exact .inr (.inr this)
 ·subst q
  rw[Z] at R;subst R;exact .inl ⟨O,r_5 (h.srt s Y) hf O,w_4 (h.srt s Y) hl O⟩
 ·have:=pw j i hj hi q u (by rw[R];exact O) f (by rw[Z];exact fm) e
  exact .inr (.inl this)
theorem Iv.ses {x:List Th} (O:x∈st) {f l:Th} (hf:x.head?=some f) (hl:x.getLast?=some l):Ses g L f.k f.t l.t:=by
 have Z:f∈x:=List.mem_of_mem_head? hf;have R:=z_6 hl;refine⟨⟨f,h.mem O Z,rfl,rfl⟩,⟨l,h.mem O R,h.key x O l R f Z,rfl⟩,r_5 (h.srt s O) hf R,λ u Y e c=>?_,λ u Y e c=>?_,λ u Y e c1 c2=>?_⟩
 ·have:=r_5 (h.srt s O) hf R
  rcases h.far g1 s O hf hl Y e with q | q | q <;> omega
 ·have:=r_5 (h.srt s O) hf R
  rcases h.far g1 s O hf hl Y e with q | q | q <;> omega
 ·obtain⟨p,hp,q,hq,q1,q2,q3⟩:=A_2 hf hl c1 c2 (h.chain x O)
  exact⟨q,h.mem O hq,h.key x O q hq f Z,q2,w_4 (h.srt s O) hl hq,by omega⟩
theorem Iv.first {k:Str}{a:Int} (Y:∃ u∈L,u.k=k/\u.t=a) (Z:∀ u∈L,u.k=k->a-g<u.t->a<=u.t):∃ x∈st,∃ f l,x.head?=some f/\x.getLast?=some l/\f.k=k/\f.t=a:=by
 obtain⟨u,Y,e1,e2⟩:=Y;obtain⟨x,O,R⟩:=h.cov u Y;obtain⟨f,r,rfl⟩:=List.exists_cons_of_ne_nil (h.ne x O);obtain⟨l,hl⟩:∃ l,(f::r).getLast?=some l:=⟨_,List.getLast?_eq_some_getLast (by simp)⟩
 have fk:f.k=k:=(h.key _ O f qg u R).trans e1;refine⟨f::r,O,f,l,rfl,hl,fk,?_⟩;have le:=r_5 (h.srt s O) rfl R;have ll:=w_4 (h.srt s O) hl R
 by_cases c:f.t=a
 ·exact c
 ·obtain⟨p,hp,q,hq,q1,q2,q3⟩:=A_2 (T:=a-1) (f:=f) rfl hl (by omega) (by omega) (h.chain _ O)
  have:=Z p (h.mem O hp) ((h.key _ O p hp f qg).trans fk);omega
theorem Iv.of_ses {k:Str}{a b:Int} (q:Ses g L k a b):∃ x∈st,∃ f l,x.head?=some f/\x.getLast?=some l/\f.k=k/\f.t=a/\l.t=b:=by
 obtain⟨x,O,f,l,hf,hl,rfl,rfl⟩:=h.first g1 s q.fst q.pre
 exact⟨x,O,f,l,hf,hl,rfl,rfl,(h.ses g1 s O hf hl).uniq q⟩
end
noncomputable def unT:D->Th
 |.tup [.int t,.str k,.int v]=>⟨t,k,v⟩
 |_=>⟨0,Str.empty,0⟩
theorem aK4 (x:Th):unT (tD x)=x:=rfl
theorem aR2 (L:List Th):(L.map tD).map unT=L:=by
 rw[List.map_map];exact (List.map_congr_left λ x _=>aK4 x).trans (List.map_id L)
theorem aT2 (x:Th):fK (tD x)=[[x.t],x.k.cps.toList.map Int.ofNat,[x.v]]:=rfl
theorem af5 {u w:Th} (h:ltK (tD w) (tD u)=false):u.t<=w.t:=by
 refine Int.not_lt.mp λ c=>?_
 unfold ltK at h;rw[decide_eq_false_iff_not,aT2,aT2] at h;refine h (List.cons_lt_cons_iff.mpr (.inl (List.cons_lt_cons_iff.mpr (.inl c))))
theorem ofNat_inj:∀ {a b:List Nat},a.map Int.ofNat=b.map Int.ofNat->a=b
 |[],[],_=>rfl
 |[],_::_,h=>by cases h
 |_::_,[],h=>by cases h
 |x::a,y::b,h=>by
  rw[List.map_cons,List.map_cons] at h;injection h with h1 h2
  rw[Int.ofNat.inj h1,ofNat_inj h2]
theorem aL8 {x y:Str} (h:x.cps.toList.map Int.ofNat=y.cps.toList.map Int.ofNat):x=y:=by
 have:=ofNat_inj h;obtain⟨⟨x⟩⟩:=x;obtain⟨⟨y⟩⟩:=y;simp at this;rw[this]
theorem A_5 (L:List Th):∃ S:List Th,j_5 (L.map tD)=S.map tD/\S.Perm L/\leT S:=by
 have O:=l_3 (L.map tD)
 have e:j_5 (L.map tD)=((j_5 (L.map tD)).map unT).map tD:=by
  rw[List.map_map];refine ((List.map_congr_left (g:=id) λ d Y=>?_).trans (List.map_id _)).symm
  obtain⟨x,_,rfl⟩:=List.mem_map.mp (O.mem_iff.mp Y);rfl
 refine⟨(j_5 (L.map tD)).map unT,e,?_,?_⟩
 ·have:=O.map unT
  rw[aR2] at this;exact this
 ·have R:=z_4 (L.map tD)
  rw[e,List.pairwise_map] at R;exact R.imp λ h=>af5 h
abbrev wC:Str:=Str.ofString "count"
abbrev wS:Str:=Str.ofString "sum"
abbrev wM:Str:=Str.ofString "most"
abbrev wL:Str:=Str.ofString "least"
theorem n1:(wC=wS)=False:=eq_false (by decide +kernel)
theorem n2:(wC=wM)=False:=eq_false (by decide +kernel)
theorem n3:(wS=wC)=False:=eq_false (by decide +kernel)
theorem n4:(wM=wC)=False:=eq_false (by decide +kernel)
theorem n5:(wM=wS)=False:=eq_false (by decide +kernel)
theorem n6:(wM=wL)=False:=eq_false (by decide +kernel)
theorem n7:(wL=wC)=False:=eq_false (by decide +kernel)
theorem n8:(wL=wS)=False:=eq_false (by decide +kernel)
theorem n9:(wL=wM)=False:=eq_false (by decide +kernel)
abbrev IsW (w:Str):Prop:=w=wC\/w=wS\/w=wM\/w=wL
theorem I_1:∀ (r:List Int) (m:Int),E_4 m r∈m::r
 |[],m=>qg
 |x::r,m=>by
  show E_4 (if m<x then x else m) r∈_;have:=I_1 r (if m<x then x else m)
  rcases qv this with h | h
  ·rw[h];split <;> simp
  ·exact qh _ (qh _ h)
theorem S_0:∀ (r:List Int) (m:Int),∀ x∈m::r,x<=E_4 m r
 |[],m,x,h=>by rw[List.mem_singleton.mp h];exact Int.le_refl _
 |y::r,m,x,h=>by
  show x<=E_4 (if m<y then y else m) r;have g:=S_0 r (if m<y then y else m);have O:=g _ qg;have i1:m<=(if m<y then y else m):=by split <;> omega
  have i2:y<=(if m<y then y else m):=by split <;> omega
  generalize (if m<y then y else m)=q at *
  rcases qv h with rfl | h
  ·omega
  ·rcases qv h with rfl | h
   ·omega
   ·exact g x (qh _ h)
theorem H_9:∀ (r:List Int) (m:Int),E_3 m r∈m::r
 |[],m=>qg
 |x::r,m=>by
  show E_3 (if x<m then x else m) r∈_;have:=H_9 r (if x<m then x else m)
  rcases qv this with h | h
  ·rw[h];split <;> simp
  ·exact qh _ (qh _ h)
theorem R_9:∀ (r:List Int) (m:Int),∀ x∈m::r,E_3 m r<=x
 |[],m,x,h=>by rw[List.mem_singleton.mp h];exact Int.le_refl _
 |y::r,m,x,h=>by
  show E_3 (if y<m then y else m) r<=x;have g:=R_9 r (if y<m then y else m);have O:=g _ qg;have i1:(if y<m then y else m)<=m:=by split <;> omega
  have i2:(if y<m then y else m)<=y:=by split <;> omega
  generalize (if y<m then y else m)=q at *
  rcases qv h with rfl | h
  ·omega
  ·rcases qv h with rfl | h
   ·omega
   ·exact g x (qh _ h)
noncomputable def mxL:List Int->Int
 |[]=>0 | a::r=>E_4 a r
noncomputable def mnL:List Int->Int
 |[]=>0 | a::r=>E_3 a r
theorem aC1 {vs:List Int}{m:Int} (h:m∈vs) (g:∀ x∈vs,x<=m):mxL vs=m:=by
 cases vs with
 |nil=>cases h
 |cons a r =>
  have:=S_0 r a m h;have:=g _ (I_1 r a);show E_4 a r=m;omega
theorem aC2 {vs:List Int}{m:Int} (h:m∈vs) (g:∀ x∈vs,m<=x):mnL vs=m:=by
 cases vs with
 |nil=>cases h
 |cons a r =>
  have:=R_9 r a m h;have:=g _ (H_9 r a);show E_3 a r=m;omega
theorem aQ8 {vs:List Int} (h:vs≠[]):mxL vs∈vs/\∀ x∈vs,x<=mxL vs:=by
 cases vs with
 |nil=>exact absurd rfl h
 |cons a r=>exact⟨I_1 r a,S_0 r a⟩
theorem aR0 {vs:List Int} (h:vs≠[]):mnL vs∈vs/\∀ x∈vs,mnL vs<=x:=by
 cases vs with
 |nil=>exact absurd rfl h
 |cons a r=>exact⟨H_9 r a,R_9 r a⟩
theorem am2 {a b:List Int} (p:a.Perm b):a.sum=b.sum:=by
 induction p with
 |nil=>rfl
 |cons x _ O=>rw[List.sum_cons,List.sum_cons,O]
 |swap x y l=>simp only[List.sum_cons];omega
 |trans _ _ h1 h2=>exact h1.trans h2
noncomputable def amt (w:Str) (vs:List Int):Int:=if w=wC then (vs.length:Int) else if w=wS then vs.sum else if w=wM then mxL vs else mnL vs
theorem X_7 {w:Str}{a b:List Int} (p:a.Perm b):amt w a=amt w b:=by
 by_cases h:a=[]
 ·subst h;rw[List.nil_perm.mp p]
 ·have R:=aQ8 h
  have Y:=aR0 h;unfold amt;rw[p.length_eq,am2 p,<- aC1 (p.mem_iff.mp R.1) λ x O=>R.2 x (p.mem_iff.mpr O),<- aC2 (p.mem_iff.mp Y.1) λ x O=>Y.2 x (p.mem_iff.mpr O)]
noncomputable def Tv (w:Str) (m v:Int):Prop:=w=wC\/(w=wS/\v≠0)\/(w=wM/\m<v)\/(w=wL/\v<m)
theorem as1 {w:Str} (hw:IsW w) {vs:List Int} (h:vs≠[]) (v:Int):amt w (v::vs)≠amt w vs↔Tv w (amt w vs) v:=by
 have R:=aQ8 h;have Y:=aR0 h
 rcases hw with rfl | rfl | rfl | rfl
 ·unfold amt Tv
  rw[if_pos rfl,if_pos rfl,List.length_cons];exact⟨λ _=>.inl rfl,λ _=>by omega⟩
 ·unfold amt Tv
  simp only[n3,n1,eq_self,if_true,if_false,List.sum_cons,false_or,true_and,false_and,or_false,(show (wS=wM)=False from eq_false (by decide +kernel)),(show (wS=wL)=False from eq_false (by decide +kernel))]
  omega
 ·unfold amt Tv
  simp only[n4,n5,n6,eq_self,if_true,if_false,false_or,true_and,false_and,or_false]
  by_cases c:mxL vs<v
  ·rw[aC1 (m:=v) List.mem_cons_self λ x O=>by
    rcases List.mem_cons.mp O with rfl | O
    ·exact Int.le_refl _
    ·have:=R.2 x O;omega]
   omega
  ·rw[aC1 (m:=mxL vs) (List.mem_cons_of_mem _ R.1) λ x O=>by
    rcases List.mem_cons.mp O with rfl | O
    ·omega
    ·exact R.2 x O]
   exact⟨λ z=>absurd rfl z,λ z=>absurd z c⟩
 ·unfold amt Tv
  simp only[n7,n8,n9,eq_self,if_true,if_false,false_or,true_and,false_and,or_false]
  by_cases c:v<mnL vs
  ·rw[aC2 (m:=v) List.mem_cons_self λ x O=>by
    rcases List.mem_cons.mp O with rfl | O
    ·exact Int.le_refl _
    ·have:=Y.2 x O;omega]
   omega
  ·rw[aC2 (m:=mnL vs) (List.mem_cons_of_mem _ Y.1) λ x O=>by
    rcases List.mem_cons.mp O with rfl | O
    ·omega
    ·exact Y.2 x O]
   exact⟨λ z=>absurd rfl z,λ z=>absurd z c⟩
noncomputable def pIn (k:Str) (a b:Int) (u:Th):Bool:=decide (u.k=k)&&(decide (a<=u.t)&&decide (u.t<=b))
noncomputable def vals (L:List Th) (k:Str) (a b:Int):List Int:=(L.filter (pIn k a b)).map (·.v)
theorem pIn_iff {k:Str}{a b:Int}{u:Th}:pIn k a b u=true↔u.k=k/\a<=u.t/\u.t<=b:=by
 unfold pIn;rw[Bool.and_eq_true,Bool.and_eq_true,decide_eq_true_iff,decide_eq_true_iff,decide_eq_true_iff]
noncomputable def An (g:Int) (w:Str) (L:List Th) (k:Str) (a:Int):Option (Int×Int)->Prop
 |none=>∀ b,¬ Ses g L k a b
 |some (b,m)=>Ses g L k a b/\m=amt w (vals L k a b)
noncomputable def Ah (g:Int) (L:List Th) (k:Str) (a:Int):Prop:=∃ u∈L,u.k=k/\a-g<u.t/\u.t<a
noncomputable def Reg (g:Int) (w:Str) (a:Int) (O:Prop) (t v:Int):Option (Int×Int)->Prop
 |none=>¬ O/\t=a
 |some (b,m)=>(a-g<t/\t<a)\/(b<t/\t<b+g)\/(a<=t/\t<=b/\Tv w m v)
section
variable {g:Int}{w:Str}{L L':List Th}{k:Str}{a:Int}
theorem An.perm {o:Option (Int×Int)} (p:L.Perm L') (h:An g w L k a o):An g w L' k a o:=by
 have e:∀ u,u∈L↔u∈L':=λ u=>p.mem_iff
 cases o with
 |none=>exact λ b q=>h b (q.sub λ u=>(e u).symm)
 |some x =>
  obtain⟨b,m⟩:=x;exact⟨h.1.sub e,h.2.trans (X_7 ((p.filter _).map _))⟩
theorem An.uniq {o o':Option (Int×Int)} (h:An g w L k a o) (h':An g w L k a o'):o=o':=by
 cases o with
 |none =>
  cases o' with
  |none=>rfl
  |some y=>exact absurd h'.1 (h _)
 |some x =>
  cases o' with
  |none=>exact absurd h.1 (h' _)
  |some y =>
   obtain⟨b,m⟩:=x;obtain⟨c,n⟩:=y;obtain⟨h1,h2⟩:=h;obtain⟨O,R⟩:=h';cases h1.uniq O;rw[h2,R]
theorem at8 (g1:1<=g) (Z:∃ u∈L,u.k=k/\u.t=a) (aa:∀ u∈L,u.k=k->a-g<u.t->a<=u.t):∃ b,Ses g L k a b:=by
 obtain⟨S,_,O,Y⟩:=A_5 L;obtain⟨st,_,R,_⟩:=G_5 g g1 S [] [] (ag7 g) Y;rw[List.nil_append] at R;obtain⟨u,Z,e⟩:=Z;obtain⟨x,hx,f,l,hf,hl,rfl,rfl⟩:=R.first g1 Y ⟨u,O.mem_iff.mpr Z,e⟩ λ v hv=>aa v (O.mem_iff.mp hv)
 exact⟨l.t,(R.ses g1 Y hx hf hl).sub λ u=>O.mem_iff⟩
theorem ax7 {b:Int} (h:Ses g L k a b):vals L k a b≠[]:=λ z=>by
 obtain⟨u,O,e1,e2⟩:=h.fst;have:u.v∈vals L k a b:=List.mem_map.mpr ⟨u,List.mem_filter.mpr ⟨O,pIn_iff.mpr ⟨e1,by omega,by have:=h.le;omega⟩⟩,rfl⟩
 rw[z] at this;cases this
theorem ak6 (g1:1<=g) (hw:IsW w) {o o':Option (Int×Int)}{r:Th} (h:An g w L k a o) (h':An g w (r::L) k a o') (e:r.k=k):o'≠o↔Reg g w a (Ah g L k a) r.t r.v o:=by
 have up:∀ {P:Th->Prop},(∃ u∈L,P u)->∃ u∈r::L,P u:=fun⟨u,O,p⟩=>⟨u,qh _ O,p⟩
 cases o with
 |none =>
  show o'≠none↔¬ Ah g L k a/\r.t=a
  by_cases ah:Ah g L k a
  ·refine⟨λ z=>?_,λ z=>absurd ah z.1⟩
   cases o' with
   |none=>exact absurd rfl z
   |some y =>
    obtain⟨u,O,e1,e2,e3⟩:=ah;have:=h'.1.pre u (qh _ O) e1 e2;omega
  ·have Y:∀ u∈L,u.k=k->a-g<u.t->a<=u.t:=λ u O e1 e2=>Int.not_lt.mp λ z=>ah ⟨u,O,e1,e2,z⟩
   have no:¬ ∃ u∈L,u.k=k/\u.t=a:=λ z=>by
    obtain⟨b,q⟩:=at8 g1 z Y;exact h b q
   by_cases ht:r.t=a
   ·refine⟨λ _=>⟨ah,ht⟩,λ _ z=>?_⟩
    subst z
    obtain⟨b,q⟩:=at8 (L:=r::L) g1 ⟨r,qg,e,ht⟩ λ u O e1 e2=>by
     rcases qv O with rfl | O
     ·omega
     ·exact Y u O e1 e2
    exact h' b q
   ·refine⟨λ z=>?_,λ z=>absurd z.2 ht⟩
    cases o' with
    |none=>exact absurd rfl z
    |some y =>
     obtain⟨u,O,e1,e2⟩:=h'.1.fst
     rcases qv O with rfl | O
     ·exact absurd e2 ht
     ·exact absurd ⟨u,O,e1,e2⟩ no
 |some x =>
  obtain⟨b,m⟩:=x;obtain⟨q,hm⟩:=h;show o'≠some (b,m)↔(a-g<r.t/\r.t<a)\/(b<r.t/\r.t<b+g)\/(a<=r.t/\r.t<=b/\Tv w m r.v);have ab:=q.le
  by_cases c1:a-g<r.t/\r.t<a
  ·refine⟨λ _=>.inl c1,λ _ z=>?_⟩
   subst z;have:=h'.1.pre r qg e c1.1;omega
  by_cases c2:b<r.t/\r.t<b+g
  ·refine⟨λ _=>.inr (.inl c2),λ _ z=>?_⟩
   subst z;have:=h'.1.suf r qg e c2.2;omega
  have nx:a<=r.t->r.t<b->∃ w∈L,w.k=k/\r.t<w.t/\w.t<=b/\w.t-r.t<g:=λ h1 h2=>by
   obtain⟨S,_,pm,sr⟩:=A_5 L;obtain⟨st,_,R,_⟩:=G_5 g g1 S [] [] (ag7 g) sr;rw[List.nil_append] at R;obtain⟨x,hx,f,l,hf,hl,rfl,rfl,rfl⟩:=R.of_ses g1 sr (q.sub λ u=>pm.mem_iff.symm)
   obtain⟨p,hp,z,hz,q1,q2,q3⟩:=A_2 hf hl h1 h2 (R.chain x hx);exact⟨z,pm.mem_iff.mp (R.mem hx hz),R.key x hx z hz f (List.mem_of_mem_head? hf),q2,w_4 (R.srt sr hx) hl hz,by omega⟩
  have q':Ses g (r::L) k a b:=by
   refine⟨up q.fst,up q.lst,q.le,λ u O e1 e2=>?_,λ u O e1 e2=>?_,λ u O e1 e2 e3=>up ?_⟩ <;> rcases qv O with rfl | O
   ·omega
   ·exact q.pre u O e1 e2
   ·omega
   ·exact q.suf u O e1 e2
   ·exact nx e2 e3
   ·exact q.nxt u O e1 e2 e3
  have eo:=An.uniq (o':=some (b,amt w (vals (r::L) k a b))) h' ⟨q',rfl⟩;subst eo
  by_cases Z:a<=r.t/\r.t<=b
  ·have ev:vals (r::L) k a b=r.v::vals L k a b:=by
    unfold vals;rw[List.filter_cons_of_pos (pIn_iff.mpr ⟨e,Z⟩),List.map_cons]
   have am:=as1 hw (ax7 q) r.v;rw[<- hm] at am;rw[ev];constructor
   ·intro z
    exact .inr (.inr ⟨Z.1,Z.2,am.mp λ z'=>z (by rw[z'])⟩)
   ·rintro (z | z | z)
    ·exact absurd z c1
    ·exact absurd z c2
    ·intro y
     injection y with y
     injection y with _ y
     exact am.mpr z.2.2 y
  ·have ev:vals (r::L) k a b=vals L k a b:=by
    unfold vals;rw[List.filter_cons_of_neg λ z=>Z (pIn_iff.mp z).2]
   rw[ev,<- hm];constructor
   ·intro z;exact absurd rfl z
   ·rintro (z | z | z)
    ·exact absurd z c1
    ·exact absurd z c2
    ·exact absurd ⟨z.1,z.2.1⟩ Z
theorem am7 {o:Option (Int×Int)}{r:Th}{t v:Int} (h:Reg g w a (Ah g (r::L) k a) t v o):Reg g w a (Ah g L k a) t v o:=by
 cases o with
 |none=>exact⟨fun⟨u,hu,q⟩=>h.1 ⟨u,qh _ hu,q⟩,h.2⟩
 |some x=>exact h
theorem ax3 (g1:1<=g) (hw:IsW w) (ex:∀ L:List Th,∃ o,An g w L k a o) {o:Option (Int×Int)}:∀ (R:List Th) {L:List Th},An g w L k a o->(∀ r∈R,r.k=k/\¬ Reg g w a (Ah g L k a) r.t r.v o)->An g w (R++L) k a o
 |[],L,h,_=>h
 |r::R,L,h,hr=>by
  obtain⟨e,n⟩:=hr r qg;obtain⟨o',h'⟩:=ex (r::L);have Y:o'=o:=Classical.byContradiction λ z=>n ((ak6 g1 hw h h' e).mp z)
  subst Y;have:=ax3 g1 hw ex R h' λ x O=>⟨(hr x (qh _ O)).1,λ z=>(hr x (qh _ O)).2 (am7 z)⟩
  exact this.perm List.perm_middle
end
noncomputable def bl4 (o:Option Res):Option (D×MO):=bnd o λ r=>bb1 r
noncomputable def aN3 (d:D) (o:Option (Bool×MO)):Option (D×MO):=bnd o λ q=>if q.1=true then some (d,q.2) else none
@[simp] theorem by2 (n k:Nat) (B:FS) (o:MO) (ds:List D):fnB n k B o ds=if ds.length=n then bl4 (B (.ow true o::(ds.map .im++List.replicate k .no))) else none:=zR rfl
@[simp] theorem bl3 (d:D) (ρ:En):bl4 (some (.rt d ρ))=aN3 d (owO ρ[0]?):=zR rfl
@[simp] theorem bb0 (d:D) (o:MO):aN3 d (some (true,o))=some (d,o):=zR rfl
@[simp] theorem by0 (n k:Nat) (F:En->Option MO) (ds:List D):fnN n k F ds=if ds.length=n then F (ds.map .im++List.replicate k .no) else none:=zR rfl
noncomputable def aQ6 (F:En->Option MO) (o:Option Res):Option MO:=bnd o λ r=>match r with
 |.nx O=>F O
 |_=>none
@[simp] theorem bs7 (A:FS) (F:En->Option MO) (ρ:En):ap1 A F ρ=aQ6 F (A ρ):=zR rfl
@[simp] theorem bc2 (F:En->Option MO) (ρ:En):aQ6 F (some (.nx ρ))=F ρ:=zR rfl
noncomputable def bc4 (js:List Nat) (i q:Nat) (ρ:En) (b:Bool) (xs:List D) (o:Option (List D×MO)):Option (D×En):=bnd o λ t=>if xs.length<=sizeLine/\js[q]?=some i/\js.Nodup then some (.lst t.1,ρ.set i (.ow b t.2)) else none
noncomputable def bk5 (js:List Nat) (i q:Nat) (T:FT) (F:FE) (xs:List D) (ρ:En) (o:Option (Bool×MO)):Option (D×En):=bnd o λ w=>bc4 js i q ρ w.1 xs (W_9 T F ρ i js q w.2 xs)
@[simp] theorem bx8 (js:List Nat) (i q:Nat) (T:FT) (F:FE) (xs:List D) (ρ:En):lcB js i q T F xs ρ=bk5 js i q T F xs ρ (owO ρ[i]?):=zR rfl
@[simp] theorem bk4 (js:List Nat) (i q:Nat) (T:FT) (F:FE) (xs:List D) (ρ:En) (b:Bool) (o:MO):bk5 js i q T F xs ρ (some (b,o))=bc4 js i q ρ b xs (W_9 T F ρ i js q o xs):=zR rfl
@[simp] theorem bk3 (js:List Nat) (i q:Nat) (ρ:En) (b:Bool) (xs ys:List D) (o:MO):bc4 js i q ρ b xs (some (ys,o))=if xs.length<=sizeLine/\js[q]?=some i/\js.Nodup then some (.lst ys,ρ.set i (.ow b o)) else none:=zR rfl
theorem R_6 {i j:Int} (h:j.natAbs<2 ^ 64):w_3 i j=true:=by
 unfold w_3;rw[decide_eq_true h];simp
theorem aB6 {i j:Int} (h:i.natAbs<2 ^ 64):w_3 i j=true:=by
 unfold w_3;rw[decide_eq_true h];simp
theorem H_8 {j:Int} (O:j≠0) (h:j.natAbs<2 ^ 64):B_4 j=true:=by
 unfold B_4;rw[decide_eq_true O,decide_eq_true (Nat.lt_trans h (Nat.pow_lt_pow_right (by decide) (by decide)))];rfl
theorem d_7 {n:Nat} (h:n<=1000):n<=sizeLine:=Nat.le_trans h (by decide)
theorem z_8:∀ vs:List Int,q_3 (vs.map D.int)=some vs
 |[]=>rfl
 |v::r=>by rw[List.map_cons,C_4,z_8 r];rfl
theorem ak7 {w:Str} (hw:IsW w) {vs:List Int} (O:vs≠[]):e_4 [.str w,.lst (vs.map .int)]=some (.int (amt w vs)):=by
 obtain⟨a,r,rfl⟩:=List.exists_cons_of_ne_nil O;have es:aV5 [.lst ((a::r).map .int)]=some (.int (a::r).sum):=by rw[aV4,z_8];rfl
 have ex:ar8 [.lst ((a::r).map .int)]=some (.int (E_4 a r)):=by rw[aV7,z_8];rfl
 have R:aH8 [.lst ((a::r).map .int)]=some (.int (E_3 a r)):=by rw[aV6,z_8];rfl
 have Y:w_8 [.lst ((a::r).map .int)]=some (.int (a::r).length):=by rw[aH9,List.length_map]
 unfold amt
 generalize D.lst ((a::r).map .int)=x at *
 rcases hw with rfl | rfl | rfl | rfl
 ·simp[e_4,n_5,Y]
 ·simp[e_4,n_5,es,n3]
 ·simp[e_4,n_5,ex,n4,n5,mxL]
 ·simp[e_4,n_5,R,n7,n8,n9,mnL]
structure Cl where
 k:Str
 a:Int
 b:Int
 m:Int
noncomputable def cD (c:Cl):D:=.tup [.tup [.str c.k,.int c.a],.tup [.int c.b,.int c.m]]
noncomputable def th0:Th:=⟨0,Str.empty,0⟩
noncomputable def hdT (x:List Th):Th:=x.head?.getD th0
noncomputable def laT (x:List Th):Th:=x.getLast?.getD th0
noncomputable def vls (x:List Th):List D:=(x.map (·.v)).map .int
noncomputable def vsD (x:List Th):D:=.lst (vls x)
noncomputable def p_1 (w:Str) (x:List Th):Cl:=⟨(hdT x).k,(hdT x).t,(laT x).t,amt w (x.map (·.v))⟩
theorem as2 {w:Str} (hw:IsW w) {x:List Th} (O:x≠[]):e_4 [.str w,vsD x]=some (.int (p_1 w x).m):=ak7 hw (by simpa using O)
theorem I_8 {x:List Th} (O:x≠[]):x.head?=some (hdT x):=by
 cases x with
 |nil=>exact absurd rfl O
 |cons a r=>rfl
theorem af8 {x:List Th} (O:x≠[]):x.getLast?=some (laT x):=by
 unfold laT;cases h:x.getLast? with
 |none=>exact absurd (List.getLast?_eq_none_iff.mp h) O
 |some z=>rfl
theorem bw8 {x:List Th} (O:x≠[]):atD (x.map tD) 0=some (tD (hdT x)):=by
 cases x with
 |nil=>exact absurd rfl O
 |cons a r =>
  unfold atD dPl;rw[if_pos (by decide),if_pos (by simp)]
  rfl
theorem bw7 {x:List Th} (O:x≠[]):atD (x.map tD) (-1)=some (tD (laT x)):=by
 have h:=af8 O;rw[List.getLast?_eq_getElem?] at h;have hl:0<x.length:=List.length_pos_iff.mpr O;unfold atD dPl;rw[List.length_map,if_neg (by decide),if_pos (by omega)]
 show (x.map tD)[(-1+(x.length:Int)).toNat]?=_;rw[show (-1+(x.length:Int)).toNat=x.length-1 by omega,List.getElem?_map,h];rfl
theorem aV1:∀ x:List Th,cGo tYes (e2 b_2 (eV 0) (zI 2)) [] (x.map tD)=some (vls x)
 |[]=>rfl
 |a::r=>by
  rw[List.map_cons,aj7];have t:tYes [.im (tD a)]=some (true,[.im (tD a)]):=rfl;have e:e2 b_2 (eV 0) (zI 2) [.im (tD a)]=some (.int a.v,[.im (tD a)]):=rfl;rw[t,aj9,e,aj8,aV1 r,aV0];rfl
theorem aa2 (a b c:D):atD [a,b,c] 0=some a:=rfl
theorem aa1 (a b c:D):atD [a,b,c] 1=some b:=rfl
theorem ag5 (a b c:D):atD [a,b,c] 2=some c:=rfl
theorem s_1 (a b c d:D):atD [a,b,c,d] 0=some a:=rfl
theorem p_7 (a b c d:D):atD [a,b,c,d] 3=some d:=rfl
theorem S_1 (a b:D):atD [a,b] 0=some a:=rfl
theorem ag6 (a b:D):atD [a,b] 1=some b:=rfl
theorem aS5 (a b:D):atD [a,b] (-1)=some b:=rfl
abbrev rowD (gap:Int) (w:Str):D:=.tup [.str "gaps",.str "f",.tup [.str "x"],.tup [.int gap,.str w]]
theorem ai9 {gap:Int}{w:Str} (hw:IsW w) (th:D) {x:List Th} (Y:x≠[]) (hl:x.length<64) (O:List D) (ha:O.length<1000) (s4:Sl):∃ R,i_4 [.im (rowD gap w),.im th,.ow false (.lst O),.im (.lst (x.map tD)),s4]
  = some (.nx [.im (rowD gap w),.im th,.ow false (.lst (O++[cD (p_1 w x)])),.im (.lst (x.map tD)),R]):=by
 have sl:x.length<=sizeLine:=d_7 (by omega)
 have e1:=as2 hw Y;have e0:atD (x.map tD) 0=some (D.tup [.int (hdT x).t,.str (hdT x).k,.int (hdT x).v]):=bw8 Y;have el:atD (x.map tD) (-1)=some (D.tup [.int (laT x).t,.str (laT x).k,.int (laT x).v]):=bw7 Y;have ev:=aV1 x;have Z:O.length<1000000:=by omega
 refine⟨.im (.int (p_1 w x).m),?_⟩;have ec:cD (p_1 w x)=.tup [.tup [.str (hdT x).k,.int (hdT x).t],.tup [.int (laT x).t,.int (p_1 w x).m]]:=rfl;rw[ec]
 generalize (p_1 w x).m=m at *
 unfold vsD at e1;simp[i_4,p_7,aS5,aa2,aa1,e0,el,ev,e1,sl,Z]
theorem F_8 {gap:Int}{w:Str} (hw:IsW w) (th:D):∀ (st:List (List Th)),(∀ x∈st,x≠[]/\x.length<64)->∀ (O:List D),O.length+st.length<1000->∀ Y R:Sl,∃ aa Z,fGo (gN 3) i_4 ((mm st).map .lst) [.im (rowD gap w),.im th,.ow false (.lst O),Y,R]
  = some (.nx [.im (rowD gap w),.im th,.ow false (.lst (O++st.map λ x=>cD (p_1 w x))),aa,Z])
 |[],_,O,_,Y,R=>⟨Y,R,by show some _=_;rw[List.map_nil,List.append_nil]⟩
 |x::st,h,O,ha,Y,R=>by
  rw[List.length_cons] at ha;obtain⟨h1,h2⟩:=h x qg;obtain⟨a4,e⟩:=ai9 (gap:=gap) hw th h1 h2 O (by omega) R
  obtain⟨b3,b4,e2⟩:=F_8 (gap:=gap) hw th st (λ y hy=>h y (qh _ hy)) (O++[cD (p_1 w x)]) (by rw[List.length_append,List.length_singleton];omega) (.im (.lst (x.map tD))) a4
  refine⟨b3,b4,?_⟩;have g:gN 3 (.lst (x.map tD)) [.im (rowD gap w),.im th,.ow false (.lst O),Y,R]=some [.im (rowD gap w),.im th,.ow false (.lst O),.im (.lst (x.map tD)),R]:=rfl;show fGo _ _ (.lst (x.map tD)::(mm st).map .lst) _=_;rw[t_7,g,t_8,e,v_0,e2,List.append_assoc];rfl
theorem Iv.len {gap:Int}{L:List Th}{st:List (List Th)} (h:Iv gap L st) {x:List Th} (O:x∈st):x.length<=L.length:=by
 rw[h.sub x O];exact List.length_filter_le _ _
theorem ax4 (L:List Th):(L.map tD).all r3=true:=by
 rw[List.all_eq_true];intro d O;obtain⟨x,_,rfl⟩:=List.mem_map.mp O;rfl
theorem ay8 {gap:Int}{L S:List Th}{st:List (List Th)} (hl:L.length<64) (R:j_5 (L.map tD)=S.map tD) (O:t_1 gap (S.map tD) []=some (mm st)):l_0 [.int gap,.lst (L.map tD)]=some (.lst ((mm st).map .lst)):=by
 show (if (L.map tD).length<64/\(L.map tD).all r3=true then bnd (t_1 gap (j_5 (L.map tD)) []) λ st=>some (D.lst (st.map .lst)) else none)=_
 rw[if_pos ⟨by rw[List.length_map];exact hl,ax4 L⟩,R,O];rfl
noncomputable def unC:D->Cl
 |.tup [.tup [.str k,.int a],.tup [.int b,.int m]]=>⟨k,a,b,m⟩
 |_=>⟨Str.empty,0,0,0⟩
theorem aK5 (x:Cl):unC (cD x)=x:=rfl
theorem aC5 (L:List Cl):(L.map cD).map unC=L:=by
 rw[List.map_map];exact (List.map_congr_left λ x _=>aK5 x).trans (List.map_id L)
theorem aT3 (c:Cl):fK (cD c)=[c.k.cps.toList.map Int.ofNat,[c.a],[c.b],[c.m]]:=rfl
theorem aD8 {u w:Cl} (h:fK (cD u)=fK (cD w)):cD u=cD w:=by
 rw[aT3,aT3] at h;injection h with h1 h
 injection h with h2 h
 injection h with h3 h
 injection h with h4 _
 injection h2 with h2 _
 injection h3 with h3 _
 injection h4 with h4 _
 show D.tup [.tup [.str u.k,.int u.a],.tup [.int u.b,.int u.m]]=D.tup [.tup [.str w.k,.int w.a],.tup [.int w.b,.int w.m]];rw[aL8 h1,h2,h3,h4]
theorem ay7 (L:List Cl):∃ S:List Cl,j_5 (L.map cD)=S.map cD/\S.Perm L/\S.Pairwise (λ u w=>ltK (cD w) (cD u)=false)/\j_5 (S.map cD)=S.map cD:=by
 have O:=l_3 (L.map cD)
 have e:j_5 (L.map cD)=((j_5 (L.map cD)).map unC).map cD:=by
  rw[List.map_map];refine ((List.map_congr_left (g:=id) λ d Y=>?_).trans (List.map_id _)).symm
  obtain⟨x,_,rfl⟩:=List.mem_map.mp (O.mem_iff.mp Y);rfl
 have R:=z_4 (L.map cD)
 have sr:j_5 (j_5 (L.map cD))=j_5 (L.map cD):=(E_9 (λ a b Z hb q=>by
  obtain⟨x,_,rfl⟩:=List.mem_map.mp (O.mem_iff.mp Z);obtain⟨y,_,rfl⟩:=List.mem_map.mp (O.mem_iff.mp hb);exact aD8 q) (List.Perm.refl _) R).symm
 refine⟨(j_5 (L.map cD)).map unC,e,?_,?_,by rw[<- e];exact sr⟩
 ·have:=O.map unC
  rw[aC5] at this;exact this
 ·rw[e,List.pairwise_map] at R
  exact R
theorem aI0 (L:List Cl):(L.map cD).all r22=true:=by
 rw[List.all_eq_true];intro d O;obtain⟨x,_,rfl⟩:=List.mem_map.mp O;rfl
theorem ar7 (L:List Cl) (hl:L.length<64):n_9 [.lst (L.map cD)]=some (.lst (j_5 (L.map cD))):=by
 rw[X_4,if_pos ⟨by rw[List.length_map];exact hl,.inr (aI0 L)⟩]
theorem X_3 (L:List Th) (hl:L.length<64):n_9 [.lst (L.map tD)]=some (.lst (j_5 (L.map tD))):=by
 rw[X_4,if_pos ⟨by rw[List.length_map];exact hl,.inl (ax4 L)⟩]
noncomputable def cells (w:Str) (st:List (List Th)):List Cl:=st.map (p_1 w)
theorem aD6 {gap:Int}{w:Str} (hw:IsW w) {L S:List Th}{st:List (List Th)} (hl:L.length<64) (Z:j_5 (L.map tD)=S.map tD) (O:t_1 gap (S.map tD) []=some (mm st)) (R:∀ x∈st,x≠[]/\x.length<64) (Y:st.length<64) :
  b_3 [rowD gap w,.lst (L.map tD)]=some (.lst (j_5 ((cells w st).map cD))):=by
 have e1:=ay8 (gap:=gap) hl Z O;obtain⟨s3,s4,e2⟩:=F_8 (gap:=gap) hw (.lst (L.map tD)) st R [] (by simp;omega) .no .no
 have e3:f_6 [rowD gap w,.lst (L.map tD)]=some (.lst ((cells w st).map cD)):=by
  have q:st.map (λ x=>cD (p_1 w x))=(cells w st).map cD:=by unfold cells;rw[List.map_map];rfl
  rw[List.nil_append,q] at e2
  generalize (mm st).map D.lst=xs at e1 e2
  simp[f_6,q_7,List.replicate,p_7,S_1,e1,e2]
 have e4:=ar7 (cells w st) (by unfold cells;rw[List.length_map];exact Y)
 simp[b_3,x_9,s_1,e3,e4]
theorem ah6 {g:Int} (g1:1<=g) {w:Str} (hw:IsW w) {L:List Th} (hl:L.length<64):∃ Y:List Cl,b_3 [rowD g w,.lst (L.map tD)]=some (.lst (Y.map cD))/\Y.length<64/\(Y.map λ c=>(c.k,c.a)).Nodup/\(∀ c∈Y,Ses g L c.k c.a c.b/\c.m=amt w (vals L c.k c.a c.b))/\(∀ k a b,Ses g L k a b->∃ c∈Y,c.k=k/\c.a=a)/\(L≠[]->Y≠[]):=by
 obtain⟨S,hS,pm,sr⟩:=A_5 L;obtain⟨st,Z,R,hc⟩:=G_5 g g1 S [] [] (ag7 g) sr;rw[List.nil_append] at R;have Z:t_1 g (S.map tD) []=some (mm st):=Z;have pl:=pm.length_eq
 have hc:st.length<64:=by
  have:st.length<=0+S.length:=hc;omega
 have ne:∀ x∈st,x≠[]/\x.length<64:=λ x O=>⟨R.ne x O,by have:=R.len O;omega⟩
 have f1:=aD6 (gap:=g) hw hl hS Z ne hc;obtain⟨Y,ac,pc,_,_⟩:=ay7 (cells w st);rw[ac] at f1
 have aa:∀ x∈st,Ses g L (p_1 w x).k (p_1 w x).a (p_1 w x).b/\(p_1 w x).m=amt w (vals L (p_1 w x).k (p_1 w x).a (p_1 w x).b):=λ x O=>by
  have hf:=I_8 (R.ne x O);have hl:=af8 (R.ne x O);refine⟨(R.ses g1 sr O hf hl).sub λ u=>pm.mem_iff,?_⟩
  show amt w (x.map (·.v))=amt w ((L.filter (pIn (hdT x).k (hdT x).t (laT x).t)).map (·.v));have e:S.filter (pIn (hdT x).k (hdT x).t (laT x).t)=x:=R.eqf g1 sr O hf hl;exact X_7 (by rw[<- e];rw[e];exact (e▸pm.filter _).map _)
 refine⟨Y,f1,?_,?_,λ c ab=>?_,λ k a b q=>?_,λ ad z=>?_⟩
 ·rw[pc.length_eq];unfold cells;rw[List.length_map];exact hc
 ·refine (pc.map _).nodup_iff.mpr ?_
  unfold cells;rw[List.map_map];refine List.pairwise_map.mpr (R.apart.imp_of_mem λ {x y} O hy h z=>?_)
  injection z with z1 z2
  have hf:=I_8 (R.ne x O);have ae:=I_8 (R.ne y hy);have:=h _ (List.mem_of_mem_head? hf) _ (List.mem_of_mem_head? ae) z1;have z2:(hdT x).t=(hdT y).t:=z2;omega
 ·obtain⟨x,O,rfl⟩:=List.mem_map.mp (pc.mem_iff.mp ab)
  exact aa x O
 ·obtain⟨x,O,f,l,hf,hl,rfl,rfl,_⟩:=R.of_ses g1 sr (q.sub λ u=>pm.mem_iff.symm)
  have:=I_8 (R.ne x O);rw[hf] at this;cases this;exact⟨p_1 w x,pc.mem_iff.mpr (List.mem_map.mpr ⟨x,O,rfl⟩),rfl,rfl⟩
 ·obtain⟨u,r,rfl⟩:=List.exists_cons_of_ne_nil ad
  obtain⟨x,O,_⟩:=R.cov u (pm.mem_iff.mpr qg);have:=pc.mem_iff.mpr (List.mem_map.mpr ⟨x,O,rfl⟩:p_1 w x∈cells w st);rw[z] at this;cases this
noncomputable def ansD:Option (Int×Int)->D
 |none=>.non
 |some (b,m)=>.tup [.int b,.int m]
noncomputable def fnd (k:Str) (a:Int):List Cl->Option (Int×Int)
 |[]=>none
 |c::r=>if (c.k,c.a)=(k,a) then some (c.b,c.m) else fnd k a r
theorem ah7 {k:Str}{a b m:Int}:∀ {O:List Cl},fnd k a O=some (b,m)->∃ c∈O,c.k=k/\c.a=a/\c.b=b/\c.m=m
 |[],h=>nomatch h
 |c::r,h=>by
  unfold fnd at h
  split at h
  ·rename_i e
   cases h;injection e with e1 e2
   exact⟨c,qg,e1,e2,rfl,rfl⟩
  ·obtain⟨d,R,q⟩:=ah7 h
   exact⟨d,qh _ R,q⟩
theorem aw2 {k:Str}{a:Int}:∀ {R:List Cl},fnd k a R=none->∀ c∈R,¬ (c.k=k/\c.a=a)
 |[],_,c,O=>nomatch O
 |d::r,h,c,O=>by
  unfold fnd at h
  split at h
  ·cases h
  ·rename_i e
   rcases qv O with rfl | O
   ·rintro ⟨rfl,rfl⟩;exact e rfl
   ·exact aw2 h c O
theorem ah3 (k:Str) (a:Int):∀ O:List Cl,o_6 (O.map cD)=some (O.map λ c=>((c.k,c.a),.tup [.int c.b,.int c.m]))/\aw1 (k,a) (O.map λ c=>((c.k,c.a),.tup [.int c.b,.int c.m]))=ansD (fnd k a O)
 |[]=>⟨rfl,rfl⟩
 |c::r=>by
  obtain⟨h1,h2⟩:=ah3 k a r;refine⟨?_,?_⟩
  ·show bnd (o_6 (r.map cD)) _=_
   rw[h1];rfl
  ·rw[List.map_cons]
   unfold aw1 fnd;dsimp only
   split
   ·rfl
   ·exact h2
theorem X_6 (O R:Sl) (k:Str) (a:Int):∀ (cs:List Cl) (s3 s4:Sl),∃ Z Y,fGo (gT [3,4]) e_5 (cs.map cD) [O,R,.im (.tup [.str k,.int a]),s3,s4]=match fnd k a cs with
  |none=>some (.nx [O,R,.im (.tup [.str k,.int a]),Z,Y])
  |some (b,m)=>some (.rt (.tup [.int b,.int m]) [O,R,.im (.tup [.str k,.int a]),Z,Y])
 |[],s3,s4=>⟨s3,s4,rfl⟩
 |c::r,s3,s4=>by
  have gg:gT [3,4] (cD c) [O,R,.im (.tup [.str k,.int a]),s3,s4]=some [O,R,.im (.tup [.str k,.int a]),.im (.tup [.str c.k,.int c.a]),.im (.tup [.int c.b,.int c.m])]:=rfl
  by_cases e:c.k=k/\c.a=a
  ·have b:e_5 [O,R,.im (.tup [.str k,.int a]),.im (.tup [.str c.k,.int c.a]),.im (.tup [.int c.b,.int c.m])]=some (.rt (.tup [.int c.b,.int c.m]) [O,R,.im (.tup [.str k,.int a]),.im (.tup [.str c.k,.int c.a]),.im (.tup [.int c.b,.int c.m])]):=by
    simp[e_5,e.1,e.2]
   refine⟨.im (.tup [.str c.k,.int c.a]),.im (.tup [.int c.b,.int c.m]),?_⟩;rw[List.map_cons,t_7,gg,t_8,b,be1];unfold fnd;rw[if_pos (by rw[e.1,e.2])]
  ·have b:e_5 [O,R,.im (.tup [.str k,.int a]),.im (.tup [.str c.k,.int c.a]),.im (.tup [.int c.b,.int c.m])]=some (.nx [O,R,.im (.tup [.str k,.int a]),.im (.tup [.str c.k,.int c.a]),.im (.tup [.int c.b,.int c.m])]):=by
    by_cases e1:c.k=k
    ·have e2:¬ c.a=a:=λ z=>e ⟨e1,z⟩
     simp[e_5,e1,e2]
    ·simp[e_5,e1]
   obtain⟨Z,Y,ih⟩:=X_6 O R k a r (.im (.tup [.str c.k,.int c.a])) (.im (.tup [.int c.b,.int c.m]));refine⟨Z,Y,?_⟩;rw[List.map_cons,t_7,gg,t_8,b,v_0,ih]
   conv=>rhs;unfold fnd
   rw[if_neg λ z=>e (by injection z with z1 z2;exact⟨z1,z2⟩)]
theorem ax2 {g:Int} (g1:1<=g) {w:Str} (hw:IsW w) {L:List Th} (hl:L.length<64) (k:Str) (a:Int):∃ o,An g w L k a o/\b_5 [rowD g w,.lst (L.map tD),.tup [.str k,.int a]]=some (ansD o)/\∃ O,b_3 [rowD g w,.lst (L.map tD)]=some (.lst O)/\s_8 (k,a) (o_6 O)=some (ansD o):=by
 obtain⟨O,e1,cl,nd,h1,h2,_⟩:=ah6 g1 hw hl;obtain⟨s3,s4,Y⟩:=X_6 (.im (rowD g w)) (.im (.lst (L.map tD))) k a O .no .no;obtain⟨p1,p2⟩:=ah3 k a O;refine⟨fnd k a O,?_,?_,_,e1,?_⟩
 ·cases R:fnd k a O with
  |none =>
   intro b q;obtain⟨c,Z,q⟩:=h2 k a b q;exact aw2 R c Z q
  |some x =>
   obtain⟨b,m⟩:=x;obtain⟨c,Z,rfl,rfl,rfl,rfl⟩:=ah7 R;exact h1 c Z
 ·cases R:fnd k a O with
  |none =>
   rw[R] at Y;simp[b_5,q_9,List.replicate,e1,Y,ansD]
  |some x =>
   rw[R] at Y;simp[b_5,q_9,List.replicate,e1,Y,ansD]
 ·rw[p1,A_1,if_pos ⟨by rw[List.length_map];omega,by rw[List.map_map];exact nd⟩,p2]
theorem bh8 (g:Int) (w:Str) (L:List Th) (k:Str) (a:Int):∃ o,An g w L k a o:=by
 by_cases h:∃ b,Ses g L k a b
 ·obtain⟨b,h⟩:=h;exact⟨some (b,_),h,rfl⟩
 ·exact⟨none,λ b q=>h ⟨b,q⟩⟩
abbrev stD (lo hi st O:Int):D:=.tup [.int lo,.int hi,.int st,.int O]
abbrev evD:D:=.tup [.non,.non,.int 1,.int 0]
noncomputable def mkS (f b st O:Int):D:=if b<f then .non else if f=b then stD f b 1 0 else stD f b st O
noncomputable def I13 (st:Int):Prop:=st=1\/st=2\/st=3
theorem aD7 {st:Int} (h:I13 st) (x:Int):x.fmod st=x % st:=Int.fmod_eq_emod_of_nonneg _ (by rcases h with rfl | rfl | rfl <;> decide)
theorem I_2 (l h:Int) {st O:Int} (s:I13 st) (Y:0<=O) (Z:O<st):a_6 [.int l,.int h,.int st,.int O]=some (mkS (l+(O-l) % st) (h-(h-O) % st) st O):=by
 have R:¬ st=0:=by rcases s with rfl | rfl | rfl <;> decide
 rw[<- aD7 s,<- aD7 s];unfold mkS
 by_cases c1:h-(h-O).fmod st<l+(O-l).fmod st
 ·simp[a_6,m_4,List.replicate,Y,Z,R,c1]
 ·by_cases c2:l+(O-l).fmod st=h-(h-O).fmod st
  ·have c3:¬ h-(h-O).fmod st<h-(h-O).fmod st:=Int.lt_irrefl _
   simp[a_6,m_4,List.replicate,Y,Z,R,c2,c3]
  ·simp[a_6,m_4,List.replicate,Y,Z,R,c1,c2]
theorem z_2 (a b c d:D):atD [a,b,c,d] 1=some b:=rfl
theorem w_5 (a b c d:D):atD [a,b,c,d] 2=some c:=rfl
structure St where
 lo:Int
 hi:Int
 st:Int
 re:Int
abbrev St.D (s:St):D:=stD s.lo s.hi s.st s.re
structure St.Ok (s:St):Prop where
 le:s.lo<=s.hi
 sh:s.hi-s.lo<=5
 s3:I13 s.st
 r0:0<=s.re
 r1:s.re<s.st
 lm:s.lo % s.st=s.re
 hm:s.hi % s.st=s.re
 eq:s.lo=s.hi->s.st=1/\s.re=0
noncomputable def St.has (s:St) (v:Int):Prop:=s.lo<=v/\v<=s.hi/\v % s.st=s.re
theorem aC6 (l:Int) {wd st O:Int} (s:I13 st) (Y:0<=O) (Z:O<st) (w1:wd<=5):a_6 [.int l,.int (l+wd),.int st,.int O]=some .non\/∃ s:St,s.Ok/\(l<=s.lo/\s.hi<=l+wd)/\a_6 [.int l,.int (l+wd),.int st,.int O]=some s.D:=by
 rw[I_2 l (l+wd) s Y Z];unfold mkS
 split
 ·exact .inl rfl
 ·rename_i c1
  split
  ·rename_i R
   refine .inr ⟨⟨_,_,1,0⟩,⟨by dsimp only;omega,by dsimp only;omega,.inl rfl,Int.le_refl _,Int.zero_lt_one,Int.emod_one _,Int.emod_one _,λ _=>⟨rfl,rfl⟩⟩,⟨?_,?_⟩,rfl⟩ <;> dsimp only <;> rcases s with rfl | rfl | rfl <;> omega
  ·rename_i R
   refine .inr ⟨⟨_,_,st,O⟩,⟨by dsimp only;omega,?_,s,Y,Z,?_,?_,λ z=>absurd z R⟩,⟨?_,?_⟩,rfl⟩ <;> dsimp only <;> rcases s with rfl | rfl | rfl <;> omega
theorem aR3 (a b:Int):d_9 [.int a,.int b]=some (.int (if a<b then b else a)):=by
 simp[d_9,m_9]
theorem aw0 (a b:Int):c_3 [.int a,.int b]=some (.int (if b<a then b else a)):=by
 simp[c_3,m_8]
section
variable {s:St} (h:s.Ok)
include h
theorem ae9:a_6 [.int s.lo,.int s.hi,.int s.st,.int s.re]=some s.D:=by
 rw[I_2 _ _ h.s3 h.r0 h.r1];have e1:s.lo+(s.re-s.lo) % s.st=s.lo:=by have:=h.lm;rcases h.s3 with e | e | e <;> rw[e] at this ⊢ <;> omega
 have e2:s.hi-(s.hi-s.re) % s.st=s.hi:=by have:=h.hm;rcases h.s3 with e | e | e <;> rw[e] at this ⊢ <;> omega
 rw[e1,e2];unfold mkS;rw[if_neg (by have:=h.le;omega)]
 split
 ·rename_i z
  obtain⟨R,O⟩:=h.eq z;unfold St.D;rw[R,O]
 ·rfl
theorem aH6:h_0 [evD,.int s.st,.int s.re]=some evD/\f_5 [evD,.int s.st,.int s.re]=some (.tup [.non,.non,.int s.st,.int s.re]):=by
 have Y:=h.r0;have R:=h.r1;have a:∀ O:Int,0<=O->O<1->O=0:=λ O _ _=>by omega
 have b:∀ O:Int,0<=O->O<2->O=0\/O=1:=λ O _ _=>by omega
 have c:∀ O:Int,0<=O->O<3->O=0\/O=1\/O=2:=λ O _ _=>by omega
 rcases h.s3 with e | e | e <;> rw[e] at R ⊢
 ·rw[a _ Y R];exact⟨by kernel_rfl,by kernel_rfl⟩
 ·rcases b _ Y R with e | e <;> rw[e] <;> exact⟨by kernel_rfl,by kernel_rfl⟩
 ·rcases c _ Y R with e | e | e <;> rw[e] <;> exact⟨by kernel_rfl,by kernel_rfl⟩
theorem aC3:g_9 [s.D,evD]=some s.D:=by
 obtain⟨e1,e2⟩:=aH6 h;have e3:=ae9 h;have R:h_0 [.tup [.non,.non,.int 1,.int 0],.int s.st,.int s.re]=some (.tup [.non,.non,.int 1,.int 0]):=e1;have O:f_5 [.tup [.non,.non,.int 1,.int 0],.int s.st,.int s.re]=some (.tup [.non,.non,.int s.st,.int s.re]):=e2;simp[g_9,s_9,List.replicate,s_1,z_2,w_5,p_7,R,O,a_7,i_6,d_9,m_9,c_3,m_8,e3]
theorem aD4:s.hi-(s.hi-s.re) % s.st=s.hi:=by have:=h.hm;rcases h.s3 with e | e | e <;> rw[e] at this ⊢ <;> omega
theorem aC7:s.lo+(s.re-s.lo) % s.st=s.lo:=by have:=h.lm;rcases h.s3 with e | e | e <;> rw[e] at this ⊢ <;> omega
theorem X_8 (c:Int):∃ x,c_8 [s.D,.int c]=some x/\((x=.non/\¬ ∃ v,s.has v/\c<v)\/((∃ l,x=.tup l)/\∃ v,s.has v/\c<v)):=by
 have e:=I_2 (if s.lo<c+1 then c+1 else s.lo) s.hi h.s3 h.r0 h.r1;rw[aD4 h] at e;have Z:=aR3 s.lo (c+1);refine⟨_,by simp[c_8,q_6,a_7,i_6,c_3,m_8,s_1,z_2,w_5,p_7,Z,e];rfl,?_⟩
 unfold mkS St.has;have lm:=h.lm;have hm:=h.hm;have le:=h.le
 generalize R:(if s.lo<c+1 then c+1 else s.lo)=M
 have m1:s.lo<=M/\c<M/\(M=s.lo\/M=c+1):=by rw[<- R];split <;> omega
 have r0:=h.r0;have r1:=h.r1
 by_cases z:s.hi<M+(s.re-M) % s.st
 ·rw[if_pos z]
  refine .inl ⟨rfl,λ O=>?_⟩
  obtain⟨v,⟨h1,h2,Y⟩,h4⟩:=O
  rcases h.s3 with e | e | e <;> rw[e] at z Y <;> omega
 ·rw[if_neg z]
  refine .inr ⟨by split <;> exact⟨_,rfl⟩,M+(s.re-M) % s.st,⟨?_,by omega,?_⟩,?_⟩ <;> rcases h.s3 with e | e | e <;> rw[e] at r1 ⊢ <;> omega
theorem X_1 (c:Int):∃ x,c_7 [s.D,.int c]=some x/\((x=.non/\¬ ∃ v,s.has v/\v<c)\/((∃ l,x=.tup l)/\∃ v,s.has v/\v<c)):=by
 have e:=I_2 s.lo (if c-1<s.hi then c-1 else s.hi) h.s3 h.r0 h.r1;rw[aC7 h] at e;have Z:=aw0 s.hi (c-1);refine⟨_,by simp[c_7,q_5,a_7,i_6,d_9,m_9,s_1,z_2,w_5,p_7,Z,e];rfl,?_⟩
 unfold mkS St.has;have lm:=h.lm;have hm:=h.hm;have le:=h.le
 generalize R:(if c-1<s.hi then c-1 else s.hi)=M
 have m1:M<=s.hi/\M<c/\(M=s.hi\/M=c-1):=by rw[<- R];split <;> omega
 have r0:=h.r0;have r1:=h.r1
 by_cases z:M-(M-s.re) % s.st<s.lo
 ·rw[if_pos z]
  refine .inl ⟨rfl,λ O=>?_⟩
  obtain⟨v,⟨h1,h2,Y⟩,h4⟩:=O
  rcases h.s3 with e | e | e <;> rw[e] at z Y <;> omega
 ·rw[if_neg z]
  refine .inr ⟨by split <;> exact⟨_,rfl⟩,M-(M-s.re) % s.st,⟨by omega,?_,?_⟩,?_⟩ <;> rcases h.s3 with e | e | e <;> rw[e] at r1 ⊢ <;> omega
end
abbrev G_2:Str:=Str.ofString "only"
abbrev ab4:Str:=Str.ofString "but"
abbrev kA:Str:=Str.ofString "a"
abbrev kB:Str:=Str.ofString "b"
abbrev kZ:Str:=Str.ofString "zz"
abbrev kC:Str:=Str.ofString "c"
noncomputable def IsK (k:Str):Prop:=k=kA\/k=kB\/k=kZ
noncomputable def kyD:Nat->D
 |0=>.tup [.str G_2,.tup [.str kA]]
 |1=>.tup [.str ab4,.tup []]
 |2=>.tup [.str ab4,.tup [.str kA]]
 |3=>.tup [.str G_2,.tup [.str kA,.str kB]]
 |_=>.tup [.str ab4,.tup [.str kC]]
noncomputable def aq2:Nat->Str->Bool
 |0,k=>decide (k=kA)
 |1,_=>true
 |2,k=>!decide (k=kA)
 |3,k=>decide (k=kA)||decide (k=kB)
 |_,k=>!decide (k=kC)
abbrev onD (k:Str):D:=.tup [.str G_2,.tup [.str k]]
structure Bx where
 ki:Nat
 b:Int
 e:Int
 s:St
abbrev Bx.D (x:Bx):D:=.tup [kyD x.ki,.int x.b,.int x.e,x.s.D]
structure Bx.Ok (x:Bx):Prop where
 ki:x.ki<5
 b0:0<=x.b
 be:x.b<x.e
 e6:x.e<=x.b+6
 b9:x.b<=1000
 sm:-1000<=x.s.lo/\x.s.hi<=1000
 s:x.s.Ok
theorem ap6 {i:Nat} (hi:i<5) {k:Str} (hk:IsK k):m_0 [kyD i,onD k]=some (if aq2 i k=true then onD k else .non):=by
 have c:i=0\/i=1\/i=2\/i=3\/i=4:=by omega
 rcases hk with rfl | rfl | rfl <;> rcases c with rfl | rfl | rfl | rfl | rfl <;> kernel_rfl
theorem B_6 (a b:Int):(if b > a then b else a)=max a b:=by omega
theorem aR1 (a b:Int):(if b<a then b else a)=min a b:=by omega
theorem n_3 (k:Str) (p q:Int):d_2 [.str k,.int p,.int q]=some (if q<=max p 0 then .non else .tup [onD k,.int (max p 0),.int q,evD]):=by
 by_cases c:q<=max p 0
 ·simp[d_2,D_2,b_1,i_8,B_6,c]
 ·simp[d_2,D_2,b_1,i_8,B_6,c]
noncomputable def inB (x:Bx) (k:Str) (p q:Int):Prop:=aq2 x.ki k=true/\max x.b (max p 0)<min x.e q
instance (x:Bx) (k:Str) (p q:Int):Decidable (inB x k p q):=inferInstanceAs (Decidable (_/\_))
abbrev mtD (x:Bx) (k:Str) (p q:Int):D:=.tup [onD k,.int (max x.b (max p 0)),.int (min x.e q),x.s.D]
theorem aC4 {x:Bx} (h:x.Ok) {k:Str} (hk:IsK k) (p q:Int):h_1 [x.D,.tup [onD k,.int (max p 0),.int q,evD]]=some (if inB x k p q then mtD x k p q else .non):=by
 have e1:=ap6 h.ki hk;have e2:=aC3 h.s;have Z:=h.b0;have e3:=aw0 x.e q;rw[aR1] at e3;unfold inB
 by_cases c:aq2 x.ki k=true
 ·rw[if_pos c] at e1
  by_cases Y:max x.b (max p 0)<min x.e q
  ·have R:¬ min x.e q<=max x.b (max p 0):=by omega
   have O:max (max x.b (max p 0)) 0=max x.b (max p 0):=by omega
   simp[h_1,s_0,List.replicate,s_1,z_2,w_5,p_7,e1,e2,e3,B_6,b_1,i_8,c,Y,R,O]
  ·have R:min x.e q<=max x.b (max p 0):=by omega
   have O:max (max x.b (max p 0)) 0=max x.b (max p 0):=by omega
   simp[h_1,s_0,List.replicate,s_1,z_2,w_5,p_7,e1,e2,e3,B_6,b_1,i_8,c,Y,R,O]
 ·rw[if_neg c] at e1
  simp[h_1,s_0,List.replicate,s_1,z_2,w_5,p_7,e1,e2,e3,B_6,b_1,i_8,c]
noncomputable def met (B:List Bx) (k:Str) (p q:Int):List Bx:=B.filter λ x=>decide (inB x k p q)
section
variable {k:Str} (hk:IsK k) (p q:Int)
include hk
theorem av1:∀ B:List Bx,(∀ x∈B,x.Ok)->cGo tYes (eF h_1 (aC (eV 0) (aC (eV 1) aN))) [.im (.tup [onD k,.int (max p 0),.int q,evD])] (B.map Bx.D)=some (B.map λ x=>if inB x k p q then mtD x k p q else .non)
 |[],_=>rfl
 |x::B,h=>by
  have e:=aC4 (h x qg) hk p q;have t:tYes (.im x.D::[.im (.tup [onD k,.int (max p 0),.int q,evD])])=some (true,.im x.D::[.im (.tup [onD k,.int (max p 0),.int q,evD])]):=rfl;have e1:eF h_1 (aC (eV 0) (aC (eV 1) aN)) (.im x.D::[.im (.tup [onD k,.int (max p 0),.int q,evD])])=some (if inB x k p q then mtD x k p q else .non,.im x.D::[.im (.tup [onD k,.int (max p 0),.int q,evD])]):=by simp[e]
  rw[List.map_cons,aj7,t,aj9,e1,aj8,av1 B λ y O=>h y (List.mem_cons_of_mem _ O)];rfl
omit hk in
theorem R_7:∀ B:List Bx,cGo (tB (e2 n_8 (eV 0) (eC .non))) (eV 0) [] (B.map λ x=>if inB x k p q then mtD x k p q else .non)=some ((met B k p q).map λ x=>mtD x k p q)
 |[]=>rfl
 |x::B=>by
  rw[List.map_cons,aj7];unfold met
  by_cases c:inB x k p q
  ·have t:tB (e2 n_8 (eV 0) (eC .non)) [.im (mtD x k p q)]=some (true,[.im (mtD x k p q)]):=by simp
   rw[if_pos c,t,aj9,show eV 0 [.im (mtD x k p q)]=some (mtD x k p q,[.im (mtD x k p q)]) from rfl,aj8,R_7 B,List.filter_cons_of_pos (p:=λ x=>decide (inB x k p q)) (decide_eq_true c)];rfl
  ·have t:tB (e2 n_8 (eV 0) (eC .non)) [.im .non]=some (false,[.im .non]):=by simp
   rw[if_neg c,t,aH5,R_7 B,List.filter_cons_of_neg (p:=λ x=>decide (inB x k p q)) (by simp[c])];rfl
theorem V_5 {B:List Bx} (h:∀ x∈B,x.Ok) (hl:B.length<=1000) {Z:D} (e:d_2 [.str k,.int p,.int q]=some Z):e_3 [.lst (B.map Bx.D),Z]=some (.lst ((met B k p q).map λ x=>mtD x k p q)):=by
 rw[n_3] at e;cases e
 by_cases c:q<=max p 0
 ·rw[if_pos c]
  have:met B k p q=[]:=List.filter_eq_nil_iff.mpr λ x _ z=>by
   have:=(of_decide_eq_true z).2;omega
  rw[this];simp[e_3,u_1]
 ·rw[if_neg c]
  have g1:=av1 hk p q B h;have O:=R_7 (k:=k) p q B;have R:B.length<=sizeLine:=d_7 hl;have Y:(B.map λ x=>if inB x k p q then mtD x k p q else .non).length<=sizeLine:=by rw[List.length_map];exact R
  generalize (B.map λ x=>if inB x k p q then mtD x k p q else .non)=X at g1 O Y
  simp[e_3,u_1,List.replicate,g1,O,R,Y]
end
abbrev askD:D:=.tup [.str "ask",.str "q",.tup [.str "f"],.tup []]
theorem St.Ok.has_lo {s:St} (h:s.Ok):s.has s.lo:=⟨Int.le_refl _,h.le,h.lm⟩
theorem ax9 (m:Int):k_8 [askD,.int m]=some (.int m):=by kernel_rfl
noncomputable def tls (xs:List D):Prop:=xs.length<=2/\∀ x∈xs,∃ l,x=.tup l
theorem nS1:(wS=wM)=False:=eq_false (by decide +kernel)
theorem nS2:(wS=wL)=False:=eq_false (by decide +kernel)
theorem aY0 {s:St} (h:s.Ok) {w:Str} (hw:IsW w) (m:Int):∃ ss:List D,b_0 [askD,.str w,.int m,s.D]=some (.lst ss)/\tls ss/\(ss≠[]↔∃ v,s.has v/\Tv w m v):=by
 have to:=ax9 m;have Y:aT7 (e2 b_2 (eV 0) (zI 3)) (m_6 (aC (eC .non) (aC (eC .non) aN))) [.im askD,.im (.str w),.im (.int m),.im s.D,.no,.no,.no,.no]=some (.tup [.non,.non],[.im askD,.im (.str w),.im (.int m),.im s.D,.no,.no,.no,.no]):=rfl
 rcases hw with rfl | rfl | rfl | rfl
 ·refine⟨[s.D],?_,⟨by simp,λ x O=>⟨_,List.mem_singleton.mp O⟩⟩,λ _=>⟨s.lo,h.has_lo,.inl rfl⟩,λ _=>by simp⟩
  simp[-aa7,b_0,d_1,List.replicate,Y,ag6]
 ·obtain⟨x,ex,O⟩:=X_8 h 0
  obtain⟨y,ey,hy⟩:=X_1 h 0;have tt:∀ v:Int,Tv wS m v↔v≠0:=λ v=>by unfold Tv;simp[n3,nS1,nS2]
  have key:∀ p:D,(p=.non\/∃ l,p=.tup l)->∀ z:D,(z=.non\/∃ l,z=.tup l)->cGo (tB (e2 n_8 (eV 0) (eC .non))) (eV 0) [] [p,z]=some (([p,z]:List D).filter λ d=>match d with | .non=>false | _=>true):=λ p hp z hz=>by
   rcases hp with rfl | ⟨l,rfl⟩ <;> rcases hz with rfl | ⟨l',rfl⟩ <;> rfl
  have k:=key x (by rcases O with ⟨e,_⟩ | ⟨e,_⟩;exact .inl e;exact .inr e) y (by rcases hy with ⟨e,_⟩ | ⟨e,_⟩;exact .inl e;exact .inr e)
  refine⟨([x,y]:List D).filter λ d=>match d with | .non=>false | _=>true,?_,⟨List.length_filter_le _ _,λ d hd=>?_⟩,?_⟩
  ·have l2:(2:Nat)<=sizeLine:=d_7 (by decide)
   simp[-aa7,b_0,d_1,List.replicate,Y,n3,ex,ey,k,l2]
  ·obtain⟨h1,h2⟩:=List.mem_filter.mp hd
   rcases qv h1 with rfl | h1
   ·rcases O with ⟨rfl,_⟩ | ⟨e,_⟩
    ·cases h2
    ·exact e
   ·cases List.mem_singleton.mp h1
    rcases hy with ⟨rfl,_⟩ | ⟨e,_⟩
    ·cases h2
    ·exact e
  ·simp only[tt]
   rcases O with ⟨rfl,nx⟩ | ⟨⟨l,rfl⟩,v,R,c⟩
   ·rcases hy with ⟨rfl,ny⟩ | ⟨⟨l',rfl⟩,v,R,c⟩
    ·refine⟨λ z=>absurd rfl z,λ Z=>?_⟩
     obtain⟨v,R,c⟩:=Z
     rcases Int.lt_or_gt_of_ne c with c | c
     ·exact absurd ⟨v,R,c⟩ ny
     ·exact absurd ⟨v,R,c⟩ nx
    ·exact⟨λ _=>⟨v,R,by omega⟩,λ _ z=>by cases z⟩
   ·exact⟨λ _=>⟨v,R,by omega⟩,λ _ z=>by cases hf:y <;> simp[hf] at z⟩
 ·obtain⟨x,ex,O⟩:=X_8 h m
  have tt:∀ v:Int,Tv wM m v↔m<v:=λ v=>by unfold Tv;simp[n4,n5,n6]
  simp only[tt]
  rcases O with ⟨rfl,nx⟩ | ⟨⟨l,rfl⟩,v⟩
  ·refine⟨[],?_,⟨by simp,λ x O=>nomatch O⟩,λ z=>absurd rfl z,λ z=>absurd z nx⟩
   simp[-aa7,b_0,d_1,List.replicate,Y,n4,n5,c_6,h_7,ex]
  ·refine⟨[.tup l],?_,⟨by simp,λ x O=>⟨_,List.mem_singleton.mp O⟩⟩,λ _=>v,λ _=>by simp⟩
   simp[-aa7,b_0,d_1,List.replicate,Y,n4,n5,c_6,h_7,ex,to]
 ·obtain⟨x,ex,O⟩:=X_1 h m
  have tt:∀ v:Int,Tv wL m v↔v<m:=λ v=>by unfold Tv;simp[n7,n8,n9]
  simp only[tt]
  rcases O with ⟨rfl,nx⟩ | ⟨⟨l,rfl⟩,v⟩
  ·refine⟨[],?_,⟨by simp,λ x O=>nomatch O⟩,λ z=>absurd rfl z,λ z=>absurd z nx⟩
   simp[-aa7,b_0,d_1,List.replicate,Y,n7,n8,n9,c_6,h_7,ex]
  ·refine⟨[.tup l],?_,⟨by simp,λ x O=>⟨_,List.mem_singleton.mp O⟩⟩,λ _=>v,λ _=>by simp⟩
   simp[-aa7,b_0,d_1,List.replicate,Y,n7,n8,n9,c_6,h_7,ex,to]
theorem bh2 {k:Str}{p q:Int} (Z:0<=p) (Y:p<q) (l:List D):b_1 [onD k,.int p,.int q,.tup l]=some (.tup [onD k,.int p,.int q,.tup l]):=by
 have O:max p 0=p:=by omega
 have R:¬ q<=p:=by omega
 simp[b_1,i_8,B_6,O,R]
theorem aK8 {k:Str}{p q:Int} (p0:0<=p) (pq:p<q) (Z e1 e2 e3:Sl) (Y:D):∀ (xs:List D) (O:List D) (s6:Sl),(∀ x∈xs,∃ l,x=.tup l)->O.length+xs.length<=1000 ->
  ∃ R,fGo (gN 6) i_3 xs [Z,e1,e2,e3,.ow false (.lst O),.im (.tup [onD k,.int p,.int q,Y]),s6]=some (.nx [Z,e1,e2,e3,.ow false (.lst (O++xs.map λ x=>.tup [onD k,.int p,.int q,x])),.im (.tup [onD k,.int p,.int q,Y]),R])
 |[],O,s6,_,_=>⟨s6,by rw[List.map_nil,List.append_nil];rfl⟩
 |x::xs,O,s6,h,hl=>by
  rw[List.length_cons] at hl;obtain⟨l,rfl⟩:=h x qg;have em:=bh2 (k:=k) p0 pq l;have q1:O.length<1000000:=by omega
  have gg:gN 6 (.tup l) [Z,e1,e2,e3,.ow false (.lst O),.im (.tup [onD k,.int p,.int q,Y]),s6]=some [Z,e1,e2,e3,.ow false (.lst O),.im (.tup [onD k,.int p,.int q,Y]),.im (.tup l)]:=rfl
  have b:i_3 [Z,e1,e2,e3,.ow false (.lst O),.im (.tup [onD k,.int p,.int q,Y]),.im (.tup l)]=some (.nx [Z,e1,e2,e3,.ow false (.lst (O++[.tup [onD k,.int p,.int q,.tup l]])),.im (.tup [onD k,.int p,.int q,Y]),.im (.tup l)]):=by
   simp[i_3,s_1,z_2,w_5,em,q1]
  obtain⟨R,ih⟩:=aK8 p0 pq Z e1 e2 e3 Y xs (O++[.tup [onD k,.int p,.int q,.tup l]]) (.im (.tup l)) (λ y hy=>h y (qh _ hy)) (by rw[List.length_append,List.length_singleton];omega)
  exact⟨R,by rw[t_7,gg,t_8,b,v_0,ih,List.map_cons,List.append_assoc];rfl⟩
section
variable {w:Str} (hw:IsW w) (m:Int) (k:Str) (p q:Int)
include hw
theorem at3 (e3:Sl):∀ (M:List Bx),(∀ x∈M,x.Ok/\inB x k p q)->∀ (O:List D) (s5 R:Sl),O.length+2*M.length<=1000 ->
  ∃ fs Z Y,fGo (gN 5) f_8 (M.map λ x=>mtD x k p q) [.im askD,.im (.str w),.im (.int m),e3,.ow false (.lst O),s5,R]=some (.nx [.im askD,.im (.str w),.im (.int m),e3,.ow false (.lst (O++fs)),Z,Y])/\fs.length<=2*M.length/\(fs≠[]↔∃ x∈M,∃ v,x.s.has v/\Tv w m v)
 |[],_,O,s5,R,_=>⟨[],s5,R,by rw[List.append_nil];rfl,qj _,λ z=>absurd rfl z,fun⟨x,hx,_⟩=>nomatch hx⟩
 |x::M,h,O,s5,R,hl=>by
  rw[List.length_cons] at hl;obtain⟨ok,hb⟩:=h x qg;obtain⟨ss,ev,tl,aa⟩:=aY0 ok.s hw m;have t2:=tl.1;have b0:=ok.b0;obtain⟨a6,e⟩:=aK8 (k:=k) (p:=max x.b (max p 0)) (q:=min x.e q) (by omega) hb.2 (.im askD) (.im (.str w)) (.im (.int m)) e3 x.s.D ss O R tl.2 (by omega)
  have gg:gN 5 (mtD x k p q) [.im askD,.im (.str w),.im (.int m),e3,.ow false (.lst O),s5,R]=some [.im askD,.im (.str w),.im (.int m),e3,.ow false (.lst O),.im (mtD x k p q),R]:=rfl
  have b:f_8 [.im askD,.im (.str w),.im (.int m),e3,.ow false (.lst O),.im (mtD x k p q),R]=some (.nx [.im askD,.im (.str w),.im (.int m),e3,.ow false (.lst (O++ss.map λ y=>.tup [onD k,.int (max x.b (max p 0)),.int (min x.e q),y])),.im (mtD x k p q),a6]):=by
   rw[<- e];simp[f_8,p_7,ev]
  obtain⟨fs,Z,Y,ih,l2,i2⟩:=at3 e3 M (λ y hy=>h y (qh _ hy)) (O++ss.map λ y=>.tup [onD k,.int (max x.b (max p 0)),.int (min x.e q),y]) (.im (mtD x k p q)) a6 (by rw[List.length_append,List.length_map];omega)
  refine⟨(ss.map λ y=>.tup [onD k,.int (max x.b (max p 0)),.int (min x.e q),y])++fs,Z,Y,?_,?_,?_⟩
  ·rw[List.map_cons,t_7,gg,t_8,b,v_0,ih,List.append_assoc]
  ·rw[List.length_append,List.length_map,List.length_cons];omega
  ·constructor
   ·intro z
    by_cases c:ss=[]
    ·obtain⟨y,hy,q⟩:=i2.mp λ z'=>z (by rw[c,z'];rfl)
     exact⟨y,qh _ hy,q⟩
    ·exact⟨x,qg,aa.mp c⟩
   ·rintro ⟨y,hy,qq⟩ z
    obtain⟨z1,z2⟩:=List.append_eq_nil_iff.mp z
    rcases qv hy with rfl | hy
    ·exact aa.mpr qq (List.map_eq_nil_iff.mp z1)
    ·exact i2.mpr ⟨y,hy,qq⟩ z2
theorem aY1 {B:List Bx} (h:∀ x∈B,x.Ok) (hl:B.length<=100):∃ fs,f_4 [askD,.str w,.int m,.lst ((met B k p q).map λ x=>mtD x k p q)]=some (.lst fs)/\fs.length<=200/\(fs≠[]↔∃ x∈B,inB x k p q/\∃ v,x.s.has v/\Tv w m v):=by
 have ml:(met B k p q).length<=100:=Nat.le_trans (List.length_filter_le _ _) hl;have mm:∀ x,x∈met B k p q↔x∈B/\inB x k p q:=λ x=>by unfold met;rw[List.mem_filter,decide_eq_true_iff]
 obtain⟨fs,Z,s6,e,Y,i2⟩:=at3 hw m k p q (.im (.lst ((met B k p q).map λ x=>mtD x k p q))) (met B k p q) (λ x O=>⟨h x ((mm x).mp O).1,((mm x).mp O).2⟩) [] .no .no (by simp;omega)
 rw[List.nil_append] at e;refine⟨fs,?_,by omega,i2.trans ⟨fun⟨x,O,q⟩=>⟨x,((mm x).mp O).1,((mm x).mp O).2,q⟩,fun⟨x,O,hb,q⟩=>⟨x,(mm x).mpr ⟨O,hb⟩,q⟩⟩⟩
 generalize ((met B k p q).map λ x=>mtD x k p q)=X at *
 have R:fGo (gN 5) f_8 X [.im askD,.im (.str w),.im (.int m),.im (.lst X),.ow false (.lst []),.no,.no]=_:=e;simp[f_4,q_4,List.replicate,R]
end
theorem aD5 {k:Str}{P q:Int} (u:Th):h_6 [.tup [onD k,.int P,.int q,evD],tD u]=some (.bl (decide (u.k=k/\P<=u.t/\u.t<q))):=by
 have f1:u.v.fmod 1=0:=by rw[Int.fmod_eq_emod_of_nonneg _ (by decide)];omega
 have et:tD u=.tup [.int u.t,.str u.k,.int u.v]:=rfl;rw[et]
 have hk:c_9 [onD k,.str u.k]=some (.bl (decide (u.k=k))):=by
  by_cases c:u.k=k
  ·simp[c_9,u_0,S_1,ag6,inD,P_8,O_3,c]
  ·have c':¬ k=u.k:=λ z=>c z.symm
   simp[c_9,u_0,S_1,ag6,inD,P_8,O_3,c,c']
 by_cases Y:u.t<P
 ·have O:¬ P<=u.t:=by omega
  simp[h_6,r_1,List.replicate,aa2,aa1,ag5,s_1,z_2,w_5,p_7,Y,O]
 ·have O:P<=u.t:=by omega
  by_cases Z:u.t<q
  ·have R:¬ q<=u.t:=by omega
   by_cases c3:u.k=k
   ·subst c3
    rw[decide_eq_true rfl] at hk;simp[h_6,r_1,List.replicate,aa2,aa1,ag5,s_1,z_2,w_5,p_7,Y,O,Z,R,hk,k_9,v_4,h_4,x_8,f1]
   ·rw[decide_eq_false c3] at hk
    simp[h_6,r_1,List.replicate,aa2,aa1,ag5,s_1,z_2,w_5,p_7,Y,O,Z,R,hk,c3]
  ·have R:q<=u.t:=by omega
   simp[h_6,r_1,List.replicate,aa2,aa1,ag5,s_1,z_2,w_5,p_7,Y,O,Z,R]
noncomputable def pK (k:Str) (P q:Int) (u:Th):Bool:=decide (u.k=k/\P<=u.t/\u.t<q)
theorem aD3 (k:Str) (P q:Int):∀ L:List Th,cGo (tV (eF h_6 (aC (eV 1) (aC (eV 0) aN)))) (eV 0) [.im (.tup [onD k,.int P,.int q,evD])] (L.map tD)=some ((L.filter (pK k P q)).map tD)
 |[]=>rfl
 |u::L=>by
  have e:=aD5 (k:=k) (P:=P) (q:=q) u;have t:tV (eF h_6 (aC (eV 1) (aC (eV 0) aN))) [.im (tD u),.im (.tup [onD k,.int P,.int q,evD])]=some (decide (u.k=k/\P<=u.t/\u.t<q),[.im (tD u),.im (.tup [onD k,.int P,.int q,evD])]):=by simp[e]
  have O:eV 0 [.im (tD u),.im (.tup [onD k,.int P,.int q,evD])]=some (tD u,[.im (tD u),.im (.tup [onD k,.int P,.int q,evD])]):=rfl;rw[List.map_cons,aj7,t]
  by_cases c:u.k=k/\P<=u.t/\u.t<q
  ·rw[decide_eq_true c,aj9,O,aj8,aD3 k P q L,List.filter_cons_of_pos (p:=pK k P q) (decide_eq_true c)];rfl
  ·rw[decide_eq_false c,aH5,aD3 k P q L,List.filter_cons_of_neg (p:=pK k P q) (by unfold pK;simpa using c)]
theorem L_1 {k:Str}{p q:Int}{O:D} (e:d_2 [.str k,.int p,.int q]=some O) {L:List Th} (hl:L.length<=1000):j_6 [O,.lst (L.map tD)]=some (.lst ((L.filter (pK k (max p 0) q)).map tD)):=by
 rw[n_3] at e;cases e;have R:L.length<=sizeLine:=d_7 hl
 by_cases c:q<=max p 0
 ·rw[if_pos c,show (L.filter (pK k (max p 0) q))=[] from List.filter_eq_nil_iff.mpr λ u _ z=>by have:=of_decide_eq_true z;omega]
  simp[j_6,t_9]
 ·rw[if_neg c]
  have g:=aD3 k (max p 0) q L;simp[j_6,t_9,g,R]
noncomputable def Tb (B:List Bx) (k:Str) (P:Int->Int->Prop):Prop:=∃ x∈B,aq2 x.ki k=true/\∃ t v,x.b<=t/\t<x.e/\x.s.has v/\P t v
theorem I_7 {x:Bx} (h:x.Ok) (k:Str) (p q:Int):inB x k p q↔aq2 x.ki k=true/\∃ t,x.b<=t/\t<x.e/\p<=t/\t<q:=by
 have:=h.b0;have:=h.be;unfold inB;constructor
 ·rintro ⟨h1,h2⟩
  exact⟨h1,max x.b (max p 0),by omega,by omega,by omega,by omega⟩
 ·rintro ⟨h1,t,h2,O,Y,R⟩
  exact⟨h1,by omega⟩
theorem ae7 {B:List Bx} (h:∀ x∈B,x.Ok) (k:Str) (p q:Int) (f:Bx->D):(met B k p q).map f≠[]↔Tb B k λ t _=>p<=t/\t<q:=by
 unfold met;constructor
 ·intro z
  obtain⟨x,hx⟩:=List.exists_mem_of_ne_nil (B.filter λ x=>decide (inB x k p q)) λ z'=>z (by rw[z'];rfl)
  obtain⟨h1,h2⟩:=List.mem_filter.mp hx;obtain⟨R,t,Y,Z,O⟩:=(I_7 (h x h1) k p q).mp (of_decide_eq_true h2);exact⟨x,h1,R,t,x.s.lo,Y,Z,(h x h1).s.has_lo,O⟩
 ·rintro ⟨x,h1,R,t,v,Y,Z,_,O⟩ z
  have:x∈B.filter λ x=>decide (inB x k p q):=List.mem_filter.mpr ⟨h1,decide_eq_true ((I_7 (h x h1) k p q).mpr ⟨R,t,Y,Z,O⟩)⟩
  rw[List.map_eq_nil_iff.mp z] at this;cases this
section
variable {g:Int}{w:Str} (hw:IsW w) {k:Str} (hk:IsK k) {a:Int} (a0:0<=a) {L:List Th} (hl:L.length<64) (ht:∀ u∈L,0<=u.t) {B:List Bx} (hB:∀ x∈B,x.Ok) (lB:B.length<=100)
include hw hk a0 hl ht hB lB
theorem aZ1 {o:Option (Int×Int)}{cs:List D} (ef:b_3 [rowD g w,.lst (L.map tD)]=some (.lst cs)) (eg:s_8 (k,a) (o_6 cs)=some (ansD o)) :
  ∃ fs,b_7 [askD,rowD g w,.str k,.int a,.lst (L.map tD),.lst (B.map Bx.D)]=some (.lst fs)/\(fs≠[]↔Tb B k λ t v=>Reg g w a (Ah g L k a) t v o):=by
 obtain⟨k1,e1⟩:∃ kb,d_2 [.str k,.int (a-g+1),.int a]=some kb:=⟨_,n_3 ..⟩;have m1:=V_5 hk (a-g+1) a hB (by omega) e1
 have ti:=L_1 e1 (L:=L) (by omega)
 have ah:(L.filter (pK k (max (a-g+1) 0) a))≠[]↔Ah g L k a:=by
  constructor
  ·intro z
   obtain⟨u,hu⟩:=List.exists_mem_of_ne_nil _ z;obtain⟨h1,h2⟩:=List.mem_filter.mp hu;obtain⟨R,Y,O⟩:=of_decide_eq_true h2;exact⟨u,h1,R,by omega,O⟩
  ·rintro ⟨u,h1,R,Y,O⟩ z
   have:u∈L.filter (pK k (max (a-g+1) 0) a):=List.mem_filter.mpr ⟨h1,decide_eq_true ⟨R,by have:=ht u h1;omega,O⟩⟩
   rw[z] at this;cases this
 cases o with
 |none =>
  have eg:s_8 (k,a) (o_6 cs)=some .non:=eg;obtain⟨k2,e2⟩:∃ kb,d_2 [.str k,.int a,.int (a+1)]=some kb:=⟨_,n_3 ..⟩;have m2:=V_5 hk a (a+1) hB (by omega) e2
  by_cases c:Ah g L k a
  ·refine⟨[],?_,λ z=>absurd rfl z,fun⟨x,_,_,t,v,_,_,_,z⟩=>absurd c z.1⟩
   have c':=ah.mpr c;obtain⟨u,r,hr⟩:=List.exists_cons_of_ne_nil c';rw[hr] at ti;simp[-A_1,b_7,i_7,List.replicate,p_7,S_1,e1,ef,eg,ti]
  ·refine⟨_,?_,(ae7 hB k a (a+1) λ x=>mtD x k a (a+1)).trans ⟨fun⟨x,h1,h2,t,v,R,Y,O,Z⟩=>⟨x,h1,h2,t,v,R,Y,O,c,by omega⟩,fun⟨x,h1,h2,t,v,R,Y,O,_,Z⟩=>⟨x,h1,h2,t,v,R,Y,O,by omega,by omega⟩⟩⟩
   ·have hr:L.filter (pK k (max (a-g+1) 0) a)=[]:=Classical.byContradiction λ z=>c (ah.mp z)
    rw[hr] at ti;simp[-A_1,b_7,i_7,List.replicate,p_7,S_1,e1,ef,eg,ti,e2,m2]
 |some y =>
  obtain⟨b,m⟩:=y;have eg:s_8 (k,a) (o_6 cs)=some (.tup [.int b,.int m]):=eg;obtain⟨k2,e2⟩:∃ kb,d_2 [.str k,.int a,.int (b+1)]=some kb:=⟨_,n_3 ..⟩;have m2:=V_5 hk a (b+1) hB (by omega) e2
  obtain⟨k3,e3⟩:∃ kb,d_2 [.str k,.int (b+1),.int (b+g)]=some kb:=⟨_,n_3 ..⟩;have m3:=V_5 hk (b+1) (b+g) hB (by omega) e3
  obtain⟨fs,et,l2,i2⟩:=aY1 hw m k a (b+1) hB lB;have n1:=ae7 hB k (a-g+1) a λ x=>mtD x k (a-g+1) a
  have n3:=ae7 hB k (b+1) (b+g) λ x=>mtD x k (b+1) (b+g)
  have l1:((met B k (a-g+1) a).map λ x=>mtD x k (a-g+1) a).length<=100:=by rw[List.length_map];exact Nat.le_trans (List.length_filter_le _ _) lB
  have l3:((met B k (b+1) (b+g)).map λ x=>mtD x k (b+1) (b+g)).length<=100:=by rw[List.length_map];exact Nat.le_trans (List.length_filter_le _ _) lB
  generalize ((met B k (a-g+1) a).map λ x=>mtD x k (a-g+1) a)=X1 at *
  generalize ((met B k a (b+1)).map λ x=>mtD x k a (b+1))=X2 at *
  generalize ((met B k (b+1) (b+g)).map λ x=>mtD x k (b+1) (b+g))=X3 at *
  have q1:fs.length+X1.length<=sizeLine:=d_7 (by omega)
  have q2:fs.length+X1.length+X3.length<=sizeLine:=d_7 (by omega)
  refine⟨fs++X1++X3,?_,?_⟩
  ·simp[-A_1,b_7,i_7,List.replicate,p_7,S_1,ag6,aS5,e1,ef,eg,e2,m2,et,m1,q1,e3,m3,q2]
  ·have split:fs++X1++X3≠[]↔fs≠[]\/X1≠[]\/X3≠[]:=by
    rw[Ne,List.append_eq_nil_iff,List.append_eq_nil_iff]
    by_cases z1:fs=[] <;> by_cases z2:X1=[] <;> by_cases z3:X3=[] <;> simp[z1,z2,z3]
   rw[split,i2,n1,n3];constructor
   ·rintro (⟨x,h1,h2,v,R,Y⟩ | ⟨x,h1,h2,t,v,R,Y,O,Z⟩ | ⟨x,h1,h2,t,v,R,Y,O,Z⟩)
    ·obtain⟨O,t,Z,h7,h8,h9⟩:=(I_7 (hB x h1) k a (b+1)).mp h2
     exact⟨x,h1,O,t,v,Z,h7,R,.inr (.inr ⟨h8,by omega,Y⟩)⟩
    ·exact⟨x,h1,h2,t,v,R,Y,O,.inl ⟨by omega,Z.2⟩⟩
    ·exact⟨x,h1,h2,t,v,R,Y,O,.inr (.inl ⟨by omega,Z.2⟩)⟩
   ·rintro ⟨x,h1,h2,t,v,R,Y,O,Z | Z | Z⟩
    ·exact .inr (.inl ⟨x,h1,h2,t,v,R,Y,O,by omega,Z.2⟩)
    ·exact .inr (.inr ⟨x,h1,h2,t,v,R,Y,O,by omega,Z.2⟩)
    ·exact .inl ⟨x,h1,(I_7 (hB x h1) k a (b+1)).mpr ⟨h2,t,R,Y,Z.1,by omega⟩,v,O,Z.2.2⟩
abbrev worksD (g:Int) (w:Str):D:=.lst [.tup [.str "in",.str "x",.tup [],.tup [.non,.non]],rowD g w,askD]
abbrev wQ:Str:=Str.ofString "q"
omit hw hk a0 hl ht hB lB in
theorem aB8 (g:Int) (w:Str):d_6 [worksD g w,.str wQ]=some askD:=by kernel_rfl
omit hw hk a0 hl ht hB lB in
theorem aB9 (g:Int) (w:Str):d_6 [worksD g w,.str "f"]=some (rowD g w):=by kernel_rfl
omit hw hk a0 hl ht hB lB in
theorem az6 (g:Int) (w:Str):n_4 [worksD g w,.str wQ]=some (.tup [askD,rowD g w,.tup [.str "in",.str "x",.tup [],.tup [.non,.non]]]):=by kernel_rfl
omit hw hl ht hB lB in
theorem aq9 (g:Int) (w:Str):k_5 [worksD g w,.str wQ,.str k,.int a]=some .non:=by
 have e1:=aB8 g w;have e2:=aB9 g w;have e3:u_7 [.str k]=some (.bl true):=by rcases hk with rfl | rfl | rfl <;> kernel_rfl
 have e4:o_8 [rowD g w,.str k,.int a]=some (.bl true):=by
  have w1:¬ Str.ofString "gaps"=Str.ofString "ever":=by decide +kernel
  simp[o_8,P_5,e3,o_7,G_0,s_1,w1,a0]
 have Y:b_2 askD (.int 2)=some (.tup [.str "f"]):=rfl;have O:b_2 (.tup [.str "f"]) (.int 0)=some (.str "f"):=rfl;have Z:b_2 askD (.int 0)=some (.str "ask"):=rfl;have w2:eqD (.str "ask") (.str "ask")=true:=by simp
 generalize hW:worksD g w=W at *
 generalize hR:rowD g w=R at *
 generalize hA:askD=A at *
 have nn:dIs A .non=some (.bl false):=by rw[<- hA];rfl
 simp[k_5,y_0,List.replicate,e1,e2,e4,Y,O,Z,nn]
theorem ax8 {o:Option (Int×Int)}{O:List D} (ef:b_3 [rowD g w,.lst (L.map tD)]=some (.lst O)) (Z:s_8 (k,a) (o_6 O)=some (ansD o)) :
  ∃ f:Bool,h_5 [worksD g w,.str wQ,.str k,.int a,.lst (L.map tD),.lst (B.map Bx.D)]=some (.bl f)/\(f=true↔Tb B k λ t v=>Reg g w a (Ah g L k a) t v o):=by
 obtain⟨fs,e,i⟩:=aZ1 hw hk a0 hl ht hB lB ef Z;have ec:=aq9 hk a0 g w;have er:=az6 g w;have w1:¬ Str.ofString "in"=Str.ofString "pair":=by decide +kernel
 have e2:f_7 [askD,rowD g w,.str k,.int a,.lst (L.map tD),.lst (B.map Bx.D)]=some (.lst fs):=by
  simp[f_7,r_0,s_1,e]
 refine⟨decide (0<fs.length),?_,by rw[<- i,decide_eq_true_iff];exact List.length_pos_iff⟩
 generalize worksD g w=W at *
 generalize D.lst (L.map tD)=X at *
 generalize D.lst (B.map Bx.D)=Y at *
 generalize askD=A at *
 generalize rowD g w=R at *
 simp[h_5,y_1,List.replicate,ec,er,aa2,aa1,ag5,s_1,w1,e2]
end
theorem P_6 {α:Type} (f:α->D) (xs:List α) {i:Int} (O:0<=i) (h1:i<xs.length):∃ x,x∈xs/\atD (xs.map f) i=some (f x):=by
 have hi:i.toNat<xs.length:=by omega
 refine⟨xs[i.toNat],List.getElem_mem hi,?_⟩;unfold atD dPl;rw[List.length_map,if_pos O,if_pos h1];show (xs.map f)[i.toNat]?=_;rw[List.getElem?_map,List.getElem?_eq_getElem hi];rfl
noncomputable def qL:List Int->List D
 |[]=>[]
 |q::qs=>qL qs++[.int q]
theorem ad5:∀ xs:List Int,xs.map D.int=qL xs.reverse
 |[]=>rfl
 |x::xs=>by
  have h:∀ (a b:List Int),qL (a++b)=qL b++qL a:=λ a=>by
   induction a with
   |nil=>intro b;rw[List.nil_append];show _=qL b++[];rw[List.append_nil]
   |cons y a O=>intro b;rw[List.cons_append];show qL (a++b)++[_]=qL b++(qL a++[_]);rw[O,List.append_assoc]
  rw[List.map_cons,List.reverse_cons,h,ad5 xs];rfl
@[simp] theorem bu4 (i:Nat) (ρ:En) (b:Bool) (q:Int) (qs:List Int):eQa i ρ (some (b,qL (q::qs)))=some (.int q,ρ.set i (.ow b (.lst (qL qs)))):=be9 i ρ b (qL qs) (.int q)
theorem q3:B_4 3=true:=H_8 (by decide) (by decide)
theorem T_9 (c:Int):∀ (n:Nat) (lo:Int) (xs:List Int) (r:Int) (R:Sl),xs.length+n<=1000->∃ (ys:List Int) (Y:Int) (O:Sl),ys.length=xs.length+n/\fGo (gN 5) j_2 (m_7 lo n) [.im (.int c),.im (.int 120),.ow false (.lst (xs.map .int)),.no,.no,R,.im (.int r)]=some (.nx [.im (.int c),.im (.int 120),.ow false (.lst (ys.map .int)),.no,.no,O,.im (.int Y)])
 |0,lo,xs,r,R,_=>⟨xs,r,R,rfl,rfl⟩
 |n+1,lo,xs,r,R,hl=>by
  have Z:gN 5 (.int lo) [.im (.int c),.im (.int 120),.ow false (.lst (xs.map .int)),.no,.no,R,.im (.int r)]=some [.im (.int c),.im (.int 120),.ow false (.lst (xs.map .int)),.no,.no,.im (.int lo),.im (.int r)]:=rfl;have q:xs.length<1000000:=by omega
  have d:B_4 10000019=true:=H_8 (by decide) (by decide)
  have b:j_2 [.im (.int c),.im (.int 120),.ow false (.lst (xs.map .int)),.no,.no,.im (.int lo),.im (.int r)]=some (.nx [.im (.int c),.im (.int 120),.ow false (.lst ((xs++[r.fmod 10000019]).map .int)),.no,.no,.im (.int lo),.im (.int (r.fdiv 10000019))]):=by
   simp[j_2,q,d]
  obtain⟨ys,Y,O,l,ih⟩:=T_9 c n (lo+1) (xs++[r.fmod 10000019]) (r.fdiv 10000019) (.im (.int lo)) (by rw[List.length_append,List.length_singleton];omega)
  refine⟨ys,Y,O,by rw[l,List.length_append,List.length_singleton];omega,?_⟩
  rw[show m_7 lo (n+1)=.int lo::m_7 (lo+1) n from rfl,t_7,Z,t_8,b,v_0,ih]
theorem T_8 (c:Int):∀ (n:Nat) (lo:Int) (xs:List Int) (a b:Int) (R:Sl),0<=lo->lo+n<=1000->0<=a->a<2147490000->xs.length+n<=1000->∃ (ys:List Int) (Y Z:Int) (O:Sl),ys.length=xs.length+n/\fGo (gN 5) j_1 (m_7 lo n) [.im (.int c),.im (.int 120),.ow false (.lst (xs.map .int)),.im (.int a),.im (.int b),R,.no]=some (.nx [.im (.int c),.im (.int 120),.ow false (.lst (ys.map .int)),.im (.int Y),.im (.int Z),O,.no])
 |0,lo,xs,a,b,R,_,_,_,_,_=>⟨xs,a,b,R,rfl,rfl⟩
 |n+1,lo,xs,a,b,R,l0,l1,a0,a1,hl=>by
  have gg:gN 5 (.int lo) [.im (.int c),.im (.int 120),.ow false (.lst (xs.map .int)),.im (.int a),.im (.int b),R,.no]=some [.im (.int c),.im (.int 120),.ow false (.lst (xs.map .int)),.im (.int a),.im (.int b),.im (.int lo),.no]:=rfl;have q:xs.length<1000000:=by omega
  have d:B_4 1009=true:=H_8 (by decide) (by decide)
  have m1:∀ x:Int,w_3 a x=true:=λ x=>aB6 (by omega)
  have m2:w_3 b 48271=true:=R_6 (by decide)
  have f0:=Int.fmod_nonneg_of_pos (a*(a.fdiv 1009+69621)) (b:=2147483647) (by decide)
  have f1:=Int.fmod_lt_of_pos (a*(a.fdiv 1009+69621)) (b:=2147483647) (by decide)
  have bb:j_1 [.im (.int c),.im (.int 120),.ow false (.lst (xs.map .int)),.im (.int a),.im (.int b),.im (.int lo),.no]=some (.nx [.im (.int c),.im (.int 120),.ow false (.lst ((xs++[(a*(a.fdiv 1009+69621)).fmod 2147483647+lo+1+(b*48271).fmod 2147483629]).map .int)),.im (.int ((a*(a.fdiv 1009+69621)).fmod 2147483647+lo+1)),.im (.int ((b*48271).fmod 2147483629)),.im (.int lo),.no]):=by
   simp[j_1,q,d,m1,m2]
  obtain⟨ys,Y,Z,O,l,ih⟩:=T_8 c n (lo+1) (xs++[(a*(a.fdiv 1009+69621)).fmod 2147483647+lo+1+(b*48271).fmod 2147483629]) ((a*(a.fdiv 1009+69621)).fmod 2147483647+lo+1) ((b*48271).fmod 2147483629) (.im (.int lo)) (by omega) (by omega) (by omega) (by omega) (by rw[List.length_append,List.length_singleton];omega)
  refine⟨ys,Y,Z,O,by rw[l,List.length_append,List.length_singleton];omega,?_⟩
  rw[show m_7 lo (n+1)=.int lo::m_7 (lo+1) n from rfl,t_7,gg,t_8,bb,v_0,ih]
theorem ad0 (c:Int):∃ qs:List Int,g_0 [.int c,.int 120]=some (.lst (qL qs))/\qs.length=120:=by
 have d7:B_4 7=true:=H_8 (by decide) (by decide)
 have m1:∀ x:Int,w_3 x 48271=true:=λ x=>R_6 (by decide)
 have m2:∀ x:Int,w_3 x 69621=true:=λ x=>R_6 (by decide)
 have Z:=Int.fmod_nonneg_of_pos ((c.fmod 2147483647+1)*48271) (b:=2147483647) (by decide)
 have f1:=Int.fmod_lt_of_pos ((c.fmod 2147483647+1)*48271) (b:=2147483647) (by decide)
 obtain⟨ys,r',s5,l1,e1⟩:=T_9 c 120 0 [] (c.fdiv 7) .no (by decide)
 obtain⟨zs,a',b',aa,l2,e2⟩:=T_8 c 120 0 [] (((c.fmod 2147483647+1)*48271).fmod 2147483647) (((c.fmod 1000003+1)*69621).fmod 2147483629) .no (by decide) (by decide) Z (by omega) (by decide)
 have R:fGo (gN 5) j_2 (m_7 0 120) [.im (.int c),.im (.int 120),.ow false (.lst []),.no,.no,.no,.im (.int (c.fdiv 7))]=_:=e1;have O:fGo (gN 5) j_1 (m_7 0 120) [.im (.int c),.im (.int 120),.ow false (.lst []),.im (.int (((c.fmod 2147483647+1)*48271).fmod 2147483647)),.im (.int (((c.fmod 1000003+1)*69621).fmod 2147483629)),.no,.no]=_:=e2;have Y:bg8 (.int 10) (.int 40)=some (.int 10000000000000000000000000000000000000000):=by kernel_rfl
 by_cases h:(10000000000000000000000000000000000000000:Int)<=c
 ·refine⟨ys,?_,by simpa using l1⟩
  have rv:(ys.map D.int).reverse=qL ys:=by rw[<- List.map_reverse,ad5,List.reverse_reverse]
  simp[g_0,q_8,List.replicate,Y,h,d7,R,rv]
 ·refine⟨zs.reverse,?_,by rw[List.length_reverse];simpa using l2⟩
  simp[g_0,q_8,List.replicate,Y,h,m1,m2,O,ad5]
structure Gd (u:Th):Prop where
 t0:0<=u.t
 t8:u.t<8
 k:u.k=kA\/u.k=kB
 v0:-2<=u.v
 v3:u.v<=3
theorem aK7 {qs:List Int} (h:3<=qs.length):∃ a b c r,qs=a::b::c::r:=by
 match qs,h with
 |a::b::c::r,_=>exact⟨a,b,c,r,rfl⟩
theorem ac7:∀ (n:Nat) (lo:Int) (L:List Th) (qs:List Int) (Y:Sl),3*n<=qs.length->L.length+n<=100->(∀ u∈L,Gd u) ->
  ∃ (L':List Th) (O:List Int) (R:Sl),fGo (gN 3) j_0 (m_7 lo n) [.ow true (.lst (qL qs)),.im (.int 7),.ow false (.lst (L.map tD)),Y]=some (.nx [.ow true (.lst (qL O)),.im (.int 7),.ow false (.lst (L'.map tD)),R])/\L'.length=L.length+n/\qs.length=O.length+3*n/\∀ u∈L',Gd u
 |0,lo,L,qs,Y,_,_,h=>⟨L,qs,Y,rfl,rfl,rfl,h⟩
 |n+1,lo,L,qs,Y,hq,hl,h=>by
  obtain⟨a,b,c,r,rfl⟩:=aK7 (qs:=qs) (by omega)
  have gg:gN 3 (.int lo) [.ow true (.lst (qL (a::b::c::r))),.im (.int 7),.ow false (.lst (L.map tD)),Y]=some [.ow true (.lst (qL (a::b::c::r))),.im (.int 7),.ow false (.lst (L.map tD)),.im (.int lo)]:=rfl;have f1:=Int.fmod_nonneg_of_pos (a.fdiv 3) (b:=8) (by decide)
  have f2:=Int.fmod_lt_of_pos (a.fdiv 3) (b:=8) (by decide)
  have f3:=Int.fmod_nonneg_of_pos (c.fdiv 3) (b:=6) (by decide)
  have f4:=Int.fmod_lt_of_pos (c.fdiv 3) (b:=6) (by decide)
  obtain⟨k,hk,ek⟩:=P_6 D.str [kA,kB] (i:=(b.fdiv 3).fmod 2) (Int.fmod_nonneg_of_pos _ (by decide)) (Int.fmod_lt_of_pos _ (by decide))
  have aa:atD [.str kA,.str kB] ((b.fdiv 3).fmod 2)=some (.str k):=ek;have ql:L.length<1000000:=by omega
  have bb:j_0 [.ow true (.lst (qL (a::b::c::r))),.im (.int 7),.ow false (.lst (L.map tD)),.im (.int lo)]=some (.nx [.ow true (.lst (qL r)),.im (.int 7),.ow false (.lst ((L++[Th.mk ((a.fdiv 3).fmod 8) k ((c.fdiv 3).fmod 6-2)]).map tD)),.im (.int lo)]):=by
   simp[j_0,q3,aa,ql,tD]
  obtain⟨L',O,R,ih,l1,l2,g⟩:=ac7 n (lo+1) (L++[Th.mk ((a.fdiv 3).fmod 8) k ((c.fdiv 3).fmod 6-2)]) r (.im (.int lo)) (by simp only[List.length_cons] at hq;omega) (by rw[List.length_append,List.length_singleton];omega) (λ u Z=>by
   rcases qw Z with Z | Z
   ·exact h u Z
   ·cases List.mem_singleton.mp Z
    exact⟨f1,f2,by simpa using hk,by dsimp only;omega,by dsimp only;omega⟩)
  refine⟨L',O,R,?_,by rw[l1,List.length_append,List.length_singleton];omega,by simp only[List.length_cons];omega,g⟩
  rw[show m_7 lo (n+1)=.int lo::m_7 (lo+1) n from rfl,t_7,gg,t_8,bb,v_0,ih]
theorem ac6 {qs:List Int} (h:19<=qs.length):∃ (L:List Th) (O:List Int),f_9 (.lst (qL qs)) [.int 7]=some (.lst (L.map tD),.lst (qL O))/\L.length<7/\qs.length<=O.length+19/\(∀ u∈L,Gd u):=by
 obtain⟨a,r,rfl⟩:=List.exists_cons_of_ne_nil (l:=qs) (λ z=>by rw[z] at h;exact absurd h (by decide))
 have f1:=Int.fmod_nonneg_of_pos (a.fdiv 3) (b:=7) (by decide)
 have f2:=Int.fmod_lt_of_pos (a.fdiv 3) (b:=7) (by decide)
 rw[List.length_cons] at h;obtain⟨L,O,s3,e,l1,l2,g⟩:=ac7 ((a.fdiv 3).fmod 7).toNat 0 [] r .no (by omega) (by simp;omega) (λ u R=>nomatch R)
 have l1:L.length=0+((a.fdiv 3).fmod 7).toNat:=l1;have e':fGo (gN 3) j_0 (m_7 0 ((a.fdiv 3).fmod 7).toNat) [.ow true (.lst (qL r)),.im (.int 7),.ow false (.lst []),.no]=_:=e;obtain⟨S,hS,Z,_⟩:=A_5 L;have Y:=X_3 L (by omega)
 rw[hS] at Y;have r1:(a.fdiv 3).fmod 7<4611686018427387904:=by omega
 have r2:-4611686018427387904<=(a.fdiv 3).fmod 7:=by omega
 refine⟨S,O,?_,by rw[Z.length_eq];omega,by rw[List.length_cons];omega,λ u R=>g u (Z.mem_iff.mp R)⟩
 simp[f_9,x_7,List.replicate,q3,r1,r2,e',Y]
theorem bc5 {i:Int} (O:0<=i) (h1:i<5):∃ j:Nat,j<5/\atD [.tup [.str G_2,.tup [.str kA]],.tup [.str ab4,.tup []],.tup [.str ab4,.tup [.str kA]],.tup [.str G_2,.tup [.str kA,.str kB]],.tup [.str ab4,.tup [.str kC]]] i=some (kyD j):=by
 have c:i=0\/i=1\/i=2\/i=3\/i=4:=by omega
 rcases c with rfl | rfl | rfl | rfl | rfl
 ·exact⟨0,by decide,rfl⟩
 ·exact⟨1,by decide,rfl⟩
 ·exact⟨2,by decide,rfl⟩
 ·exact⟨3,by decide,rfl⟩
 ·exact⟨4,by decide,rfl⟩
theorem aR7 (j:Nat):∃ l,kyD j=.tup l:=by
 match j with
 |0=>exact⟨_,rfl⟩
 |1=>exact⟨_,rfl⟩
 |2=>exact⟨_,rfl⟩
 |3=>exact⟨_,rfl⟩
 |j+4=>exact⟨_,rfl⟩
theorem aZ2 {qs:List Int} (h:7<=qs.length):∃ a b c d e f g r,qs=a::b::c::d::e::f::g::r:=by
 match qs,h with
 |a::b::c::d::e::f::g::r,_=>exact⟨a,b,c,d,e,f,g,r,rfl⟩
noncomputable def E13 (qs:List Int) (B:List Bx) (s4 s5 s6 s7 Z s9 O Y R:Sl):En:=[.ow true (.lst (qL qs)),.im (.int 3),.im (.int 6),.ow false (.lst (B.map Bx.D)),s4,s5,s6,s7,Z,s9,O,Y,R]
theorem ar5 (B:List Bx) (hB:∀ x∈B,x.Ok) (hl:B.length<=100) (a b c d e f g:Int) (r:List Int) (s4 s5 s6 s7 s8 s9 ag ah ad:Sl) :
  ∃ B' af ae ak aj al aa ab ac,i_5 (E13 (a::b::c::d::e::f::g::r) B s4 s5 s6 s7 s8 s9 ag ah ad)=some (.nx (E13 r B' s4 af ae ak aj al aa ab ac))/\B'.length<=B.length+1/\∀ x∈B',x.Ok:=by
 have Y:∀ (x m:Int),0<m->0<=(x.fdiv 3).fmod m/\(x.fdiv 3).fmod m<m:=λ x m h=>⟨Int.fmod_nonneg_of_pos _ h,Int.fmod_lt_of_pos _ h⟩
 have f1:=Y a 5 (by decide)
 have f2:=Y b 9 (by decide)
 have f3:=Y c 6 (by decide)
 have f4:=Y d 7 (by decide)
 have f5:=Y e 3 (by decide)
 have f6:=Y f 6 (by decide)
 obtain⟨j,hj,ej⟩:=bc5 f1.1 f1.2;obtain⟨kl,ek⟩:=aR7 j
 generalize ha:(a.fdiv 3).fmod 5=ai at *
 generalize hb:(b.fdiv 3).fmod 9=O at *
 generalize hc:(c.fdiv 3).fmod 6=R at *
 generalize hd:(d.fdiv 3).fmod 7=di at *
 generalize he:(e.fdiv 3).fmod 3=Z at *
 generalize hf:(f.fdiv 3).fmod 6=fi at *
 have i3:I13 (1+Z):=by unfold I13;omega
 have f7:=Y g (1+Z) (by omega)
 generalize hg:(g.fdiv 3).fmod (1+Z)=gi at *
 have nz:¬ 1+Z=0:=by omega
 have ql:B.length<1000000:=by omega
 rcases aC6 (di-3) (wd:=fi) i3 f7.1 f7.2 (by omega) with em | ⟨s,sok,sb,em⟩
 ·refine⟨B,.im (.lst [.tup [.str G_2,.tup [.str kA]],.tup [.str ab4,.tup []],.tup [.str ab4,.tup [.str kA]],.tup [.str G_2,.tup [.str kA,.str kB]],.tup [.str ab4,.tup [.str kC]]]),.im (kyD j),.im (.int O),.im (.int (O+1+R)),.im (.int (di-3)),.im (.int (1+Z)),.im .non,.im .non,?_,Nat.le_succ _,hB⟩
  have bm:b_1 [kyD j,.int O,.int (O+1+R),.non]=some .non:=by
   rw[ek];simp[b_1,i_8]
  simp[i_5,E13,q3,ha,ej,hb,hc,hd,he,hf,hg,nz,em,bm]
 ·have ok:Bx.Ok ⟨j,O,O+1+R,s⟩:=⟨hj,f2.1,by dsimp only;omega,by dsimp only;omega,by dsimp only;omega,by dsimp only;omega,sok⟩
  refine⟨B++[⟨j,O,O+1+R,s⟩],.im (.lst [.tup [.str G_2,.tup [.str kA]],.tup [.str ab4,.tup []],.tup [.str ab4,.tup [.str kA]],.tup [.str G_2,.tup [.str kA,.str kB]],.tup [.str ab4,.tup [.str kC]]]),.im (kyD j),.im (.int O),.im (.int (O+1+R)),.im (.int (di-3)),.im (.int (1+Z)),.im s.D,.im (Bx.D ⟨j,O,O+1+R,s⟩),?_,by rw[List.length_append];exact qj _,λ x hx=>?_⟩
  ·have bm:b_1 [kyD j,.int O,.int (O+1+R),s.D]=some (Bx.D ⟨j,O,O+1+R,s⟩):=by
    have c1:max O 0=O:=by omega
    have c2:¬ O+1+R<=O:=by omega
    show _=some (D.tup [kyD j,.int O,.int (O+1+R),s.D]);rw[ek];simp[b_1,i_8,B_6,c1,c2]
   simp[i_5,E13,q3,ha,ej,hb,hc,hd,he,hf,hg,nz,em,bm,ql]
  ·rcases qw hx with hx | hx
   ·exact hB x hx
   ·cases List.mem_singleton.mp hx;exact ok
theorem X_0:∀ (n:Nat) (lo:Int) (B:List Bx) (qs:List Int) (s4 s5 s6 s7 s8 s9 R Y O:Sl),7*n<=qs.length->B.length+n<=100->(∀ x∈B,x.Ok) ->
  ∃ B' Z ae af ad ap ah aq aa ab ac,fGo (gN 4) i_5 (m_7 lo n) (E13 qs B s4 s5 s6 s7 s8 s9 R Y O)=some (.nx (E13 Z B' ae af ad ap ah aq aa ab ac))/\B'.length<=B.length+n/\qs.length=Z.length+7*n/\∀ x∈B',x.Ok
 |0,lo,B,qs,s4,s5,s6,s7,s8,s9,R,Y,O,_,_,h=>⟨B,qs,s4,s5,s6,s7,s8,s9,R,Y,O,rfl,qj _,rfl,h⟩
 |n+1,lo,B,qs,s4,s5,s6,s7,s8,s9,R,Y,O,hq,hl,h=>by
  obtain⟨a,b,c,d,e,f,g,r,rfl⟩:=aZ2 (qs:=qs) (by omega)
  obtain⟨B1,t5,t6,t7,t8,t9,ai,aj,ak,e1,l1,al⟩:=ar5 B h (by omega) a b c d e f g r (.im (.int lo)) s5 s6 s7 s8 s9 R Y O
  obtain⟨B',Z,u4,u5,u6,u7,u8,u9,ag,ao,an,ih,l2,l3,am⟩:=X_0 n (lo+1) B1 r (.im (.int lo)) t5 t6 t7 t8 t9 ai aj ak (by simp only[List.length_cons] at hq;omega) (by omega) al
  refine⟨B',Z,u4,u5,u6,u7,u8,u9,ag,ao,an,?_,by omega,by simp only[List.length_cons];omega,am⟩
  have gg:gN 4 (.int lo) (E13 (a::b::c::d::e::f::g::r) B s4 s5 s6 s7 s8 s9 R Y O)=some (E13 (a::b::c::d::e::f::g::r) B (.im (.int lo)) s5 s6 s7 s8 s9 R Y O):=rfl;rw[show m_7 lo (n+1)=.int lo::m_7 (lo+1) n from rfl,t_7,gg,t_8,e1,v_0,ih]
theorem ar4 {qs:List Int} (h:15<=qs.length):∃ (B:List Bx) (O:List Int),j_7 (.lst (qL qs)) [.int 3,.int 6]=some (.lst (B.map Bx.D),.lst (qL O))/\B.length<3/\qs.length<=O.length+15/\(∀ x∈B,x.Ok):=by
 obtain⟨a,r,rfl⟩:=List.exists_cons_of_ne_nil (l:=qs) (λ z=>by rw[z] at h;exact absurd h (by decide))
 have f1:=Int.fmod_nonneg_of_pos (a.fdiv 3) (b:=3) (by decide)
 have f2:=Int.fmod_lt_of_pos (a.fdiv 3) (b:=3) (by decide)
 rw[List.length_cons] at h;obtain⟨B,O,u4,u5,u6,u7,u8,u9,Y,ab,aa,e,R,l2,ok⟩:=X_0 ((a.fdiv 3).fmod 3).toNat 0 [] r .no .no .no .no .no .no .no .no .no (by omega) (by simp;omega) (λ x hx=>nomatch hx)
 have R:B.length<=0+((a.fdiv 3).fmod 3).toNat:=R;have Z:fGo (gN 4) i_5 (m_7 0 ((a.fdiv 3).fmod 3).toNat) [.ow true (.lst (qL r)),.im (.int 3),.im (.int 6),.ow false (.lst []),.no,.no,.no,.no,.no,.no,.no,.no,.no]=_:=e;have r1:(a.fdiv 3).fmod 3<4611686018427387904:=by omega
 have r2:-4611686018427387904<=(a.fdiv 3).fmod 3:=by omega
 refine⟨B,O,?_,by omega,by rw[List.length_cons];omega,ok⟩
 simp[j_7,D_1,List.replicate,q3,r1,r2,Z,E13]
abbrev E9 (B:Sl) (k:Str) (T:List Th) (R s4 Y Z s7 O:Sl):En:=[B,.im (.str k),.ow false (.lst (T.map tD)),R,s4,Y,Z,s7,O]
theorem ac1 {s:St} (h:s.Ok) (B:Sl) (k:Str) (t:Int) (R Z Y:Sl):∀ (n:Nat) (lo:Int) (T:List Th) (s8:Sl),T.length+n<=1000 ->
  ∃ (V:List Th) (O:Sl),fGo (gN 8) d_8 (m_7 lo n) (E9 B k T R Z Y (.im s.D) (.im (.int t)) s8)=some (.nx (E9 B k (T++V) R Z Y (.im s.D) (.im (.int t)) O))/\V.length<=n/\∀ r,r∈V↔r.k=k/\r.t=t/\lo<=r.v/\r.v<lo+n/\r.v % s.st=s.re
 |0,lo,T,s8,_=>⟨[],s8,by rw[List.append_nil];rfl,qj _,λ r=>⟨λ z=>(nomatch z),λ z=>by omega⟩⟩
 |n+1,lo,T,s8,hl=>by
  have gg:gN 8 (.int lo) (E9 B k T R Z Y (.im s.D) (.im (.int t)) s8)=some (E9 B k T R Z Y (.im s.D) (.im (.int t)) (.im (.int lo))):=rfl;have nz:¬ s.st=0:=by have:=h.r0;have:=h.r1;omega
  have em:=aD7 h.s3 lo;have ql:T.length<1000000:=by omega
  by_cases c:lo % s.st=s.re
  ·have b:d_8 (E9 B k T R Z Y (.im s.D) (.im (.int t)) (.im (.int lo)))=some (.nx (E9 B k (T++[⟨t,k,lo⟩]) R Z Y (.im s.D) (.im (.int t)) (.im (.int lo)))):=by
    simp[d_8,w_5,p_7,nz,em,c,ql,tD]
   obtain⟨V,O,ih,l,aa⟩:=ac1 h B k t R Z Y n (lo+1) (T++[⟨t,k,lo⟩]) (.im (.int lo)) (by rw[List.length_append,List.length_singleton];omega)
   refine⟨⟨t,k,lo⟩::V,O,?_,by rw[List.length_cons];omega,λ r=>?_⟩
   ·rw[show m_7 lo (n+1)=.int lo::m_7 (lo+1) n from rfl,t_7,gg,t_8,b,v_0,ih,List.append_assoc];rfl
   ·rw[List.mem_cons,aa]
    constructor
    ·rintro (rfl | ⟨h1,h2,h3,h4,h5⟩)
     ·exact⟨rfl,rfl,Int.le_refl _,by dsimp only;omega,c⟩
     ·exact⟨h1,h2,by omega,by omega,h5⟩
    ·rintro ⟨h1,h2,h3,h4,h5⟩
     by_cases z:r.v=lo
     ·left;cases r;subst h1 h2 z;rfl
     ·right;exact⟨h1,h2,by omega,by omega,h5⟩
  ·have b:d_8 (E9 B k T R Z Y (.im s.D) (.im (.int t)) (.im (.int lo)))=some (.nx (E9 B k T R Z Y (.im s.D) (.im (.int t)) (.im (.int lo)))):=by
    simp[d_8,w_5,p_7,nz,em,c]
   obtain⟨V,O,ih,l,aa⟩:=ac1 h B k t R Z Y n (lo+1) T (.im (.int lo)) (by omega)
   refine⟨V,O,?_,by omega,λ r=>?_⟩
   ·rw[show m_7 lo (n+1)=.int lo::m_7 (lo+1) n from rfl,t_7,gg,t_8,b,v_0,ih]
   ·rw[aa]
    constructor
    ·rintro ⟨h1,h2,h3,h4,h5⟩
     exact⟨h1,h2,by omega,by omega,h5⟩
    ·rintro ⟨h1,h2,h3,h4,h5⟩
     have z:r.v≠lo:=λ z=>c (by rw[<- z];exact h5)
     exact⟨h1,h2,by omega,by omega,h5⟩
theorem at4 {s:St} (h:s.Ok) (sm:-1000<=s.lo/\s.hi<=1000) (B:Sl) (k:Str) (R O Z:Sl):∀ (n:Nat) (lo:Int) (T:List Th) (s7 Y:Sl),T.length+6*n<=1000 ->
  ∃ (V:List Th) (ab aa:Sl),fGo (gN 7) j_3 (m_7 lo n) (E9 B k T R O Z (.im s.D) s7 Y)=some (.nx (E9 B k (T++V) R O Z (.im s.D) ab aa))/\V.length<=6*n/\∀ r,r∈V↔r.k=k/\lo<=r.t/\r.t<lo+n/\s.has r.v
 |0,lo,T,s7,Y,_=>⟨[],s7,Y,by rw[List.append_nil];rfl,qj _,λ r=>⟨λ z=>(nomatch z),λ z=>by omega⟩⟩
 |n+1,lo,T,s7,Y,hl=>by
  have gg:gN 7 (.int lo) (E9 B k T R O Z (.im s.D) s7 Y)=some (E9 B k T R O Z (.im s.D) (.im (.int lo)) Y):=rfl;have sh:=h.sh;have le:=h.le;obtain⟨V1,u8,e1,l1,i1⟩:=ac1 h B k lo R O Z (s.hi+1-s.lo).toNat s.lo T Y (by omega)
  have r1:-4611686018427387904<=s.lo:=by omega
  have r2:s.lo<4611686018427387904:=by omega
  have r3:-4611686018427387904<=s.hi+1:=by omega
  have r4:s.hi+1<4611686018427387904:=by omega
  have b:j_3 (E9 B k T R O Z (.im s.D) (.im (.int lo)) Y)=some (.nx (E9 B k (T++V1) R O Z (.im s.D) (.im (.int lo)) u8)):=by
   simp[j_3,s_1,z_2,r1,r2,r3,r4,e1]
  obtain⟨V2,u7,ac,ih,l2,i2⟩:=at4 h sm B k R O Z n (lo+1) (T++V1) (.im (.int lo)) u8 (by rw[List.length_append];omega)
  refine⟨V1++V2,u7,ac,?_,by rw[List.length_append];omega,λ r=>?_⟩
  ·rw[show m_7 lo (n+1)=.int lo::m_7 (lo+1) n from rfl,t_7,gg,t_8,b,v_0,ih,List.append_assoc]
  ·rw[List.mem_append,i1,i2]
   unfold St.has;constructor
   ·rintro (⟨h1,h2,h3,h4,h5⟩ | ⟨h1,h2,h3,h4⟩)
    ·exact⟨h1,by omega,by omega,h3,by omega,h5⟩
    ·exact⟨h1,by omega,by omega,h4⟩
   ·rintro ⟨h1,h2,h3,h4,h5,h6⟩
    by_cases z:r.t=lo
    ·left;exact⟨h1,z,h4,by omega,h6⟩
    ·right;exact⟨h1,by omega,by omega,h4,h5,h6⟩
theorem aD0 {i:Nat} (hi:i<5) {k:Str} (hk:IsK k) (B:Sl) (T:List Th) (s4 R Y Z O:Sl):tB (e2 dEq (e2 aH0 (eV 1) (e2 b_2 (eV 3) (zI 1))) (e2 dEq (e2 b_2 (eV 3) (zI 0)) (zT "only"))) (E9 B k T (.im (kyD i)) s4 R Y Z O)=some (aq2 i k,E9 B k T (.im (kyD i)) s4 R Y Z O):=by
 have c:i=0\/i=1\/i=2\/i=3\/i=4:=by omega
 rcases hk with rfl | rfl | rfl <;> rcases c with rfl | rfl | rfl | rfl | rfl <;> kernel_rfl
theorem ak3 {k:Str} (hk:IsK k) (Z:Sl):∀ (B:List Bx) (T:List Th) (s3 s4 s5 s6 R Y:Sl),(∀ x∈B,x.Ok)->T.length+36*B.length<=1000 ->
  ∃ (V:List Th) (ae ab ac aa af ad:Sl),fGo (gT [3,4,5,6]) d_0 (B.map Bx.D) (E9 Z k T s3 s4 s5 s6 R Y)=some (.nx (E9 Z k (T++V) ae ab ac aa af ad))/\V.length<=36*B.length/\∀ r,r∈V↔r.k=k/\∃ x∈B,aq2 x.ki k=true/\x.b<=r.t/\r.t<x.e/\x.s.has r.v
 |[],T,s3,s4,s5,s6,R,Y,_,_=>⟨[],s3,s4,s5,s6,R,Y,by rw[List.append_nil];rfl,qj _,λ r=>⟨λ z=>(nomatch z),fun⟨_,x,hx,_⟩=>(nomatch hx)⟩⟩
 |x::B,T,s3,s4,s5,s6,R,Y,h,hl=>by
  rw[List.length_cons] at hl;have ok:=h x qg;have be:=ok.be;have e6:=ok.e6;have b0:=ok.b0;have sb:=ok.b9;have gg:gT [3,4,5,6] x.D (E9 Z k T s3 s4 s5 s6 R Y)=some (E9 Z k T (.im (kyD x.ki)) (.im (.int x.b)) (.im (.int x.e)) (.im x.s.D) R Y):=rfl;have tt:=aD0 ok.ki hk Z T (.im (.int x.b)) (.im (.int x.e)) (.im x.s.D) R Y
  by_cases c:aq2 x.ki k=true
  ·obtain⟨V1,u7,u8,e1,l1,i1⟩:=at4 ok.s ok.sm Z k (.im (kyD x.ki)) (.im (.int x.b)) (.im (.int x.e)) (x.e-x.b).toNat x.b T R Y (by omega)
   have r1:-4611686018427387904<=x.b:=by omega
   have r2:x.b<4611686018427387904:=by omega
   have r3:-4611686018427387904<=x.e:=by omega
   have r4:x.e<4611686018427387904:=by omega
   have b:d_0 (E9 Z k T (.im (kyD x.ki)) (.im (.int x.b)) (.im (.int x.e)) (.im x.s.D) R Y)=some (.nx (E9 Z k (T++V1) (.im (kyD x.ki)) (.im (.int x.b)) (.im (.int x.e)) (.im x.s.D) u7 u8)):=by
    unfold d_0;rw[bi8,tt,c];simp[r1,r2,r3,r4,e1]
   obtain⟨V2,v3,v4,v5,v6,v7,v8,ih,l2,i2⟩:=ak3 hk Z B (T++V1) (.im (kyD x.ki)) (.im (.int x.b)) (.im (.int x.e)) (.im x.s.D) u7 u8 (λ y O=>h y (qh _ O)) (by rw[List.length_append];omega)
   refine⟨V1++V2,v3,v4,v5,v6,v7,v8,?_,by rw[List.length_append,List.length_cons];omega,λ r=>?_⟩
   ·rw[List.map_cons,t_7,gg,t_8,b,v_0,ih,List.append_assoc]
   ·rw[List.mem_append,i1,i2]
    constructor
    ·rintro (⟨h1,h2,h3,h4⟩ | ⟨h1,y,O,q⟩)
     ·exact⟨h1,x,qg,c,h2,by omega,h4⟩
     ·exact⟨h1,y,qh _ O,q⟩
    ·rintro ⟨h1,y,O,q⟩
     rcases qv O with rfl | O
     ·left;exact⟨h1,q.2.1,by omega,q.2.2.2⟩
     ·right;exact⟨h1,y,O,q⟩
  ·have c':aq2 x.ki k=false:=Bool.eq_false_iff.mpr c
   have b:d_0 (E9 Z k T (.im (kyD x.ki)) (.im (.int x.b)) (.im (.int x.e)) (.im x.s.D) R Y)=some (.nx (E9 Z k T (.im (kyD x.ki)) (.im (.int x.b)) (.im (.int x.e)) (.im x.s.D) R Y)):=by
    unfold d_0;rw[bi8,tt,c'];simp
   obtain⟨V2,v3,v4,v5,v6,v7,v8,ih,l2,i2⟩:=ak3 hk Z B T (.im (kyD x.ki)) (.im (.int x.b)) (.im (.int x.e)) (.im x.s.D) R Y (λ y O=>h y (qh _ O)) (by omega)
   refine⟨V2,v3,v4,v5,v6,v7,v8,?_,by rw[List.length_cons];omega,λ r=>?_⟩
   ·rw[List.map_cons,t_7,gg,t_8,b,v_0,ih]
   ·rw[i2]
    constructor
    ·rintro ⟨h1,y,O,q⟩
     exact⟨h1,y,qh _ O,q⟩
    ·rintro ⟨h1,y,O,q⟩
     rcases qv O with rfl | O
     ·exact absurd q.1 c
     ·exact⟨h1,y,O,q⟩
theorem S_2 {k:Str} (hk:IsK k) {B:List Bx} (h:∀ x∈B,x.Ok) (hl:B.length<3):∃ T:List Th,e_2 [.lst (B.map Bx.D),.str k]=some (.lst (T.map tD))/\T.length<=72/\(∀ r∈T,r.k=k)/\∀ P:Int->Int->Prop,(Tb B k P↔∃ r∈T,P r.t r.v):=by
 obtain⟨T,v3,v4,v5,v6,v7,v8,e,l,i⟩:=ak3 hk (.im (.lst (B.map Bx.D))) B [] .no .no .no .no .no .no h (by simp;omega)
 rw[List.nil_append] at e;have Z:fGo (gT [3,4,5,6]) d_0 (B.map Bx.D) [.im (.lst (B.map Bx.D)),.im (.str k),.ow false (.lst []),.no,.no,.no,.no,.no,.no]=_:=e;refine⟨T,?_,by omega,λ r O=>((i r).mp O).1,λ P=>⟨fun⟨x,Y,c,t,v,h1,h2,R,p⟩=>⟨⟨t,k,v⟩,(i _).mpr ⟨rfl,x,Y,c,h1,h2,R⟩,p⟩,fun⟨r,O,p⟩=>?_⟩⟩
 ·generalize B.map Bx.D=X at *
  simp[e_2,t_0,List.replicate,Z]
 ·obtain⟨_,x,Y,c,h1,h2,R⟩:=(i r).mp O
  exact⟨x,Y,c,r.t,r.v,h1,h2,R,p⟩
noncomputable section
noncomputable def t_law:FS :=
 (b_4 (d_5 7 (eF h_5 (aC (eV 3) (aC (zT "q") (aC (e2 b_2 (eV 6) (zI 0)) (aC (e2 b_2 (eV 6) (zI 1)) (aC (eF S_9 (aC (eV 4) aN)) (aC (eF S_9 (aC (eV 5) aN)) aN))))))))
 (b_4 (d_5 8 (eF b_5 (aC (eV 2) (aC (eV 4) (aC (eV 6) aN)))))
 (b_4 (d_5 9 (eF e_2 (aC (eV 5) (aC (e2 b_2 (eV 6) (zI 0)) aN))))
 (b_4 (d_5 10 (eLC [8,2,6,4] (eV 9) (tB (e2 dNe (eF b_5 (aC (eV 2) (aC (eF n_9 (aC (e2 s_2 (eV 4) (r_7 (aC (eV 0) aN))) aN)) (aC (eV 3) aN)))) (eV 1))) (eV 0)))
 (b_4 (sIf (tOr (tNot (tV (eTy .bool (eV 7)))) (tB (e2 dNe (eV 7) (e2 dNe (eV 10) (r_7 aN)))))
 (e_7 (eC (.bl false)))
 sN)
 (b_4 (u_2 (gN 11) (Y_7 (zI 4)) t_6)
 (e_7 (eC (.bl true)))))))))
noncomputable def ao8 (R:FS):FS :=
 (b_4 (aM5 1 g_0 (aC (eF e_0 (aC (eV 0) (aC (zI 0) aN))) (aC (zI 120) aN)))
 (b_4 (d_5 2 (m_6 (aC (zT "gaps") (aC (zT "f") (aC (m_6 (aC (zT "x") aN)) (aC (m_6 (aC (e2 s_2 (zI 1) (e2 n_6 (e2 p_4 (eQ 1) (zI 3)) (zI 4))) (aC (e2 b_2 (r_7 (aC (zT "count") (aC (zT "sum") (aC (zT "most") (aC (zT "least") aN))))) (e2 n_6 (e2 p_4 (eQ 1) (zI 3)) (zI 4))) aN))) aN))))))
 (b_4 (d_5 3 (r_7 (aC (m_6 (aC (zT "in") (aC (zT "x") (aC (m_6 aN) (aC (m_6 (aC (eC .non) (aC (eC .non) aN))) aN))))) (aC (eV 2) (aC (m_6 (aC (zT "ask") (aC (zT "q") (aC (m_6 (aC (zT "f") aN)) (aC (m_6 aN) aN))))) aN)))))
 (b_4 (d_5 4 (eFb 1 f_9 (aC (zI 7) aN)))
 (b_4 (d_5 5 (eFb 1 j_7 (aC (zI 3) (aC (zI 6) aN))))
 (b_4 (d_5 6 (m_6 (aC (e2 b_2 (r_7 (aC (zT "a") (aC (zT "b") (aC (zT "zz") aN)))) (e2 n_6 (e2 p_4 (eQ 1) (zI 3)) (zI 3))) (aC (e2 n_6 (e2 p_4 (eQ 1) (zI 3)) (zI 10)) aN))))
 (b_4 (sIf (tAnd (tB (e2 dEq (e2 n_6 (e2 p_4 (eQ 1) (zI 3)) (zI 2)) (zI 1))) (tB (e2 dNe (eV 4) (r_7 aN))))
 (b_4 (d_5 12 (eF b_3 (aC (eV 2) (aC (eV 4) aN))))
 (d_5 6 (e2 b_2 (e2 b_2 (eV 12) (e2 n_6 (e2 p_4 (eQ 1) (zI 3)) (eF w_8 (aC (eV 12) aN)))) (zI 0))))
 sN)
 R)))))))
theorem af7:aH7=ao8 t_law:=rfl
end
noncomputable def aT9 (js:List Nat) (i q:Nat) (T:FT) (F:FE) (o:Option (List D×En)):Option (D×En):=bnd o λ p=>lcB js i q T F p.1 p.2
@[simp] theorem bu7 (js:List Nat) (i q:Nat) (R:FA) (T:FT) (F:FE) (ρ:En):aX1 js i q R T F ρ=aT9 js i q T F (R ρ):=zR rfl
@[simp] theorem bf3 (js:List Nat) (i q:Nat) (T:FT) (F:FE) (xs:List D) (ρ:En):aT9 js i q T F (some (xs,ρ))=lcB js i q T F xs ρ:=zR rfl
theorem ai2 (o:Option (Int×Int)):dpD (ansD o)<=30:=by
 cases o with
 |none=>decide
 |some x=>obtain⟨b,m⟩:=x;simp[ansD]
theorem aw5 (o o':Option (Int×Int)):eqD (ansD o) (ansD o')=decide (o=o'):=by
 cases o with
 |none =>
  cases o' with
  |none=>rfl
  |some y=>rfl
 |some x =>
  cases o' with
  |none=>rfl
  |some y =>
   obtain⟨b,m⟩:=x;obtain⟨c,n⟩:=y
   by_cases h1:b=c <;> by_cases h2:m=n <;> simp[ansD,h1,h2]
section
variable {g:Int} (g1:1<=g) {w:Str} (hw:IsW w) {L:List Th}{k:Str}{a:Int}{o:Option (Int×Int)}
include g1 hw
theorem X_5 (hl:L.length<=20) (R:List Th) (hR:R.length<=20):∃ o',An g w (R++L) k a o'/\∃ S:List Th,n_9 [.lst (L.map tD++R.map tD)]=some (.lst (S.map tD))/\b_5 [rowD g w,.lst (S.map tD),.tup [.str k,.int a]]=some (ansD o'):=by
 obtain⟨S,Z,Y,_⟩:=A_5 (L++R);have O:=X_3 (L++R) (by rw[List.length_append];omega)
 rw[Z,List.map_append] at O;obtain⟨o',h,e,_⟩:=ax2 g1 hw (L:=S) (by rw[Y.length_eq,List.length_append];omega) k a
 exact⟨o',h.perm (Y.trans List.perm_append_comm),S,O,e⟩
theorem V_4 (hl:L.length<=6) (h:An g w L k a o):∀ T:List Th,(∀ r∈T,r.k=k)->∃ M:List Th,cGo (tB (e2 dNe (eF b_5 (aC (eV 2) (aC (eF n_9 (aC (e2 s_2 (eV 4) (r_7 (aC (eV 0) aN))) aN)) (aC (eV 3) aN)))) (eV 1))) (eV 0) [.im (ansD o),.im (rowD g w),.im (.tup [.str k,.int a]),.im (.lst (L.map tD))] (T.map tD)=some (M.map tD)/\(M≠[]↔∃ r∈T,Reg g w a (Ah g L k a) r.t r.v o)
 |[],_=>⟨[],rfl,λ z=>absurd rfl z,fun⟨r,hr,_⟩=>(nomatch hr)⟩
 |r::T,hk=>by
  obtain⟨M,ih,Y⟩:=V_4 hl h T λ x O=>hk x (qh _ O)
  obtain⟨o',h',S,so,e⟩:=X_5 g1 hw (L:=L) (k:=k) (a:=a) (by omega) [r] (by simp)
  have Z:n_9 [.lst (L.map tD++[tD r])]=some (.lst (S.map tD)):=so;have st:=ak6 g1 hw h h' (hk r qg);have sl:L.length+1<=sizeLine:=d_7 (by omega)
  have nn:=aw5 o' o;have n1:=ai2 o';have n2:=ai2 o
  have t:(tB (e2 dNe (eF b_5 (aC (eV 2) (aC (eF n_9 (aC (e2 s_2 (eV 4) (r_7 (aC (eV 0) aN))) aN)) (aC (eV 3) aN)))) (eV 1))) [.im (tD r),.im (ansD o),.im (rowD g w),.im (.tup [.str k,.int a]),.im (.lst (L.map tD))]=some (decide (o'≠o),[.im (tD r),.im (ansD o),.im (rowD g w),.im (.tup [.str k,.int a]),.im (.lst (L.map tD))]):=by
   simp[Z,sl,e,nn,n1,n2]
  have e':eV 0 [.im (tD r),.im (ansD o),.im (rowD g w),.im (.tup [.str k,.int a]),.im (.lst (L.map tD))]=some (tD r,[.im (tD r),.im (ansD o),.im (rowD g w),.im (.tup [.str k,.int a]),.im (.lst (L.map tD))]):=rfl;rw[List.map_cons,aj7,t]
  by_cases c:o'=o
  ·refine⟨M,by rw[decide_eq_false (λ z=>z c),aH5,ih],Y.trans ⟨fun⟨x,O,q⟩=>⟨x,qh _ O,q⟩,λ R=>?_⟩⟩
   obtain⟨x,O,q⟩:=R
   rcases qv O with rfl | O
   ·exact absurd c (st.mpr q)
   ·exact⟨x,O,q⟩
  ·exact⟨r::M,by rw[decide_eq_true c,aj9,e',aj8,ih];rfl,λ _=>⟨r,qg,st.mp c⟩,λ _=>by simp⟩
end
theorem au2 {T:List Th} (hT:T≠[]) (lT:T.length<=1000) (ρ:En) (Z:slI ρ[9]?=some (.im (.lst (T.map tD)))):∀ (n:Nat) (lo:Int) (qs:List Int),n<=qs.length->∃ (R:List Th) (O:List Int),W_9 tYes (e2 b_2 (eV 1) (e2 n_6 (e2 p_4 (eQ 2) (zI 3)) (eF w_8 (aC (eV 1) aN)))) ρ 1 [9,1] 1 (.lst (qL qs)) (m_7 lo n)=some (R.map tD,.lst (qL O))/\R.length=n/\qs.length=O.length+n/\∀ r∈R,r∈T
 |0,lo,qs,_=>⟨[],qs,rfl,rfl,rfl,λ r hr=>nomatch hr⟩
 |n+1,lo,qs,h=>by
  obtain⟨q,r,rfl⟩:=List.exists_cons_of_ne_nil (l:=qs) (λ z=>by rw[z] at h;exact absurd h (by simp))
  rw[List.length_cons] at h;have hp:(0:Int)<T.length:=by have:=List.length_pos_iff.mpr hT;omega
  obtain⟨u,hu,eu⟩:=P_6 tD T (i:=(q.fdiv 3).fmod T.length) (Int.fmod_nonneg_of_pos _ hp) (Int.fmod_lt_of_pos _ hp);have nz:¬ (T.length:Int)=0:=by omega
  have fr:ah4 ρ 1 (.lst (qL (q::r))) [9,1]=some [.im (.lst (T.map tD)),.ow true (.lst (qL (q::r)))]:=by
   unfold ah4;rw[if_neg (by decide),Z];rfl
  have e:(e2 b_2 (eV 1) (e2 n_6 (e2 p_4 (eQ 2) (zI 3)) (eF w_8 (aC (eV 1) aN)))) [.im (.int lo),.im (.lst (T.map tD)),.ow true (.lst (qL (q::r)))]=some (tD u,[.im (.int lo),.im (.lst (T.map tD)),.ow true (.lst (qL r))]):=by
   simp[q3,hT,eu]
  obtain⟨R,O,ih,l1,l2,m⟩:=au2 hT lT ρ Z n (lo+1) r (by omega)
  refine⟨u::R,O,?_,by rw[List.length_cons,l1],by rw[List.length_cons];omega,λ x Y=>?_⟩
  ·rw[show m_7 lo (n+1)=.int lo::m_7 (lo+1) n from rfl,O_8,fr,J_8,show tYes [.im (.int lo),.im (.lst (T.map tD)),.ow true (.lst (qL (q::r)))]=some (true,[.im (.int lo),.im (.lst (T.map tD)),.ow true (.lst (qL (q::r)))]) from rfl,J_8,if_pos rfl,e,J_8]
   show bnd (W_9 _ _ ρ 1 [9,1] 1 (.lst (qL r)) (m_7 (lo+1) n)) _=_;rw[ih];rfl
  ·rcases qv Y with rfl | Y
   ·exact hu
   ·exact m x Y
abbrev E14 (sc:Sl) (qs:List Int) (g:Int) (w:Str) (L:List Th) (B:List Bx) (k:Str) (a:Int) (s7 s8 s9 O Y R Z:Sl):En:=[sc,.ow false (.lst (qL qs)),.im (rowD g w),.im (worksD g w),.im (.lst (L.map tD)),.im (.lst (B.map Bx.D)),.im (.tup [.str k,.int a]),s7,s8,s9,O,Y,R,Z]
theorem aX2:∀ x:List Th,A_0 (x.map tD)<=1
 |[]=>by decide
 |a::r=>by
  have:=aX2 r;rw[List.map_cons,C_7];have:dpD (tD a)=1:=rfl;omega
theorem aG5 (x:List Th):v_7 (x.map tD) []=decide (x=[]):=by
 cases x with
 |nil=>simp
 |cons a r=>simp
section
variable {g:Int} (g1:1<=g) {w:Str} (hw:IsW w) {L:List Th} (hl:L.length<=6) {B:List Bx}{k:Str}{a:Int}{o:Option (Int×Int)} (h:An g w L k a o) {T:List Th} (hT:∀ r∈T,r.k=k) (lT:T.length<=72) {f:Bool} (hf:f=true↔∃ r∈T,Reg g w a (Ah g L k a) r.t r.v o)
include g1 hw hl h hT lT hf
theorem ac4 (sc:Sl) (qs:List Int) (hq:10<=qs.length) (aa ab Z O:Sl):∃ (Y:List Int) (ac:Sl),t_6 (E14 sc qs g w L B k a (.im (.bl f)) (.im (ansD o)) (.im (.lst (T.map tD))) aa ab Z O)=some (.nx (E14 sc Y g w L B k a (.im (.bl f)) (.im (ansD o)) (.im (.lst (T.map tD))) aa ab Z ac))/\qs.length<=Y.length+10:=by
 have dT:A_0 (T.map tD)+1<=30:=by have:=aX2 T;omega
 have eT:=aG5 T;cases f with
 |true=>exact⟨qs,O,by simp[t_6],by omega⟩
 |false =>
  by_cases c:T=[]
  ·subst c
   exact⟨qs,O,by simp[t_6],by omega⟩
  ·obtain⟨q,r,rfl⟩:=List.exists_cons_of_ne_nil (l:=qs) (λ z=>by rw[z] at hq;exact absurd hq (by decide))
   rw[List.length_cons] at hq;have f1:=Int.fmod_nonneg_of_pos (q.fdiv 3) (b:=9) (by decide)
   have f2:=Int.fmod_lt_of_pos (q.fdiv 3) (b:=9) (by decide)
   obtain⟨R,Y,er,l1,l2,mR⟩:=au2 c (by omega) (E14 sc r g w L B k a (.im (.bl false)) (.im (ansD o)) (.im (.lst (T.map tD))) aa ab Z O) rfl (1+(q.fdiv 3).fmod 9).toNat 0 r (by omega)
   obtain⟨o',h',S,so,e⟩:=X_5 g1 hw (L:=L) (k:=k) (a:=a) (by omega) R (by omega)
   have no:∀ r∈R,r.k=k/\¬ Reg g w a (Ah g L k a) r.t r.v o:=λ x hx=>⟨hT x (mR x hx),λ z=>by have:=hf.mpr ⟨x,mR x hx,z⟩;cases this⟩
   have eo:=(ax3 g1 hw (bh8 g w · k a) R h no).uniq h';subst eo;have r1:1+(q.fdiv 3).fmod 9<4611686018427387904:=by omega
   have r2:-4611686018427387904<=1+(q.fdiv 3).fmod 9:=by omega
   have sl:L.length+R.length<=sizeLine:=d_7 (by omega)
   have rl:(m_7 0 (1+(q.fdiv 3).fmod 9).toNat).length<=sizeLine:=by
    have:∀ (m:Nat) (lo:Int),(m_7 lo m).length=m:=by
     intro m;induction m with
     |zero=>intro _;rfl
     |succ m ih=>intro lo;show (m_7 (lo+1) m).length+1=_;rw[ih]
    rw[this];exact d_7 (by omega)
   have n1:=ai2 o;have n2:=aw5 o o;rw[decide_eq_true rfl] at n2;refine⟨Y,.im (.lst (R.map tD)),?_,by rw[List.length_cons];omega⟩
   generalize ansD o=A at *
   simp[t_6,dT,eT,c,q3,r1,r2,er,rl,so,sl,e,n1,n2]
theorem L_0 (sc:Sl):∀ (n:Nat) (lo:Int) (qs:List Int) (O Z R Y:Sl),10*n<=qs.length->∃ (ad:List Int) (ab aa:Sl),fGo (gN 11) t_6 (m_7 lo n) (E14 sc qs g w L B k a (.im (.bl f)) (.im (ansD o)) (.im (.lst (T.map tD))) O Z R Y)=some (.nx (E14 sc ad g w L B k a (.im (.bl f)) (.im (ansD o)) (.im (.lst (T.map tD))) O ab R aa))
 |0,lo,qs,O,Z,R,Y,_=>⟨qs,Z,Y,rfl⟩
 |n+1,lo,qs,O,Z,R,Y,hq=>by
  obtain⟨q1,af,e1,l1⟩:=ac4 g1 hw hl h hT lT hf (B:=B) sc qs (by omega) O (.im (.int lo)) R Y
  obtain⟨q2,ac,ae,ih⟩:=L_0 sc n (lo+1) q1 O (.im (.int lo)) R af (by omega)
  have gg:gN 11 (.int lo) (E14 sc qs g w L B k a (.im (.bl f)) (.im (ansD o)) (.im (.lst (T.map tD))) O Z R Y)=some (E14 sc qs g w L B k a (.im (.bl f)) (.im (ansD o)) (.im (.lst (T.map tD))) O (.im (.int lo)) R Y):=rfl;exact⟨q2,ac,ae,by rw[show m_7 lo (n+1)=.int lo::m_7 (lo+1) n from rfl,t_7,gg,t_8,e1,v_0,ih]⟩
end
theorem ac8 {g:Int} (g1:1<=g) {w:Str} (hw:IsW w) {L:List Th} (hl:L.length<=6) (hL:∀ u∈L,Gd u) {B:List Bx} (hB:∀ x∈B,x.Ok) (lB:B.length<3) {k:Str} (hk:IsK k) {a:Int} (a0:0<=a) (sc:Sl) (qs:List Int) (hq:40<=qs.length) (O:Sl):fnA (t_law (E14 sc qs g w L B k a .no .no .no .no .no O .no))=some (.bl true):=by
 obtain⟨o,R,ea,cs,ef,eg⟩:=ax2 g1 hw (L:=L) (by omega) k a
 obtain⟨f,et,hf⟩:=ax8 (g:=g) hw hk a0 (L:=L) (by omega) (λ u hu=>(hL u hu).t0) hB (by omega) ef eg
 obtain⟨T,ei,lT,kT,Z⟩:=S_2 hk hB lB;have Y:=hf.trans (Z _);obtain⟨M,em,iM⟩:=V_4 g1 hw hl R T kT;obtain⟨ac,ab,aa,lp⟩:=L_0 g1 hw hl R kT lT Y (B:=B) sc 4 0 qs (.im (.lst (M.map tD))) .no O .no (by omega)
 have dM:A_0 (M.map tD)+1<=30:=by have:=aX2 M;omega
 have eM:=aG5 M
 have fM:f=decide (M≠[]):=by
  rw[Bool.eq_iff_iff,Y,<- iM,decide_eq_true_iff]
 have l1:T.length<=sizeLine:=d_7 (by omega)
 have l4:(m_7 0 4).length=4:=rfl;have sL:L.length<=sizeLine:=d_7 (by omega)
 have sB:B.length<=sizeLine:=d_7 (by omega)
 have tT:tOr (tNot (tV (eTy .bool (eV 7)))) (tB (e2 dNe (eV 7) (e2 dNe (eV 10) (r_7 aN)))) (E14 sc qs g w L B k a (.im (.bl f)) (.im (ansD o)) (.im (.lst (T.map tD))) (.im (.lst (M.map tD))) .no O .no)=some (false,E14 sc qs g w L B k a (.im (.bl f)) (.im (ansD o)) (.im (.lst (T.map tD))) (.im (.lst (M.map tD))) .no O .no):=by
  subst fM;simp[dM,eM]
 simp[-bp9,t_law,E14,S_1,ag6,et,ea,ei,em,l1,tT,lp,sL,sB]
theorem aa9 (O:List Int):∃ c:Int,e_0 [.lst (O.map .int),.int 0]=some (.int c):=by
 cases O with
 |nil=>exact⟨0,by simp[e_0,p_2]⟩
 |cons x r =>
  have a:atD ((x::r).map D.int) 0=some (.int x):=by
   unfold atD dPl;rw[if_pos (by decide),if_pos (by simp)];rfl
  have h:(0:Int)<((x::r).length:Int):=by rw[List.length_cons];omega
  generalize R:(x::r).map D.int=X at *
  have hl:X.length=(x::r).length:=by rw[<- R,List.length_map]
  exact⟨x,by simp[e_0,p_2,a,hl,h]⟩
theorem law_true (ns:List Int) (hl:ns.length<=63):af0 [.lst (ns.map .int)]=some (.bl true):=by
 obtain⟨c,ec⟩:=aa9 ns;obtain⟨qs,es,lq⟩:=ad0 c
 obtain⟨q1,q2,r0,rfl⟩:∃ q1 q2 r,qs=q1::q2::r:=by
  match qs,lq with
  |a::b::r,_=>exact⟨a,b,r,rfl⟩
 have fm:∀ (x m:Int),0<m->0<=(x.fdiv 3).fmod m/\(x.fdiv 3).fmod m<m:=λ x m h=>⟨Int.fmod_nonneg_of_pos _ h,Int.fmod_lt_of_pos _ h⟩
 have f1:=fm q1 4 (by decide)
 have f2:=fm q2 4 (by decide)
 obtain⟨w,ah,ew⟩:=P_6 D.str [wC,wS,wM,wL] (i:=(q2.fdiv 3).fmod 4) f2.1 f2.2;have hw:IsW w:=by simpa using ah
 have aa:atD [.str wC,.str wS,.str wM,.str wL] ((q2.fdiv 3).fmod 4)=some (.str w):=ew
 generalize hg:1+(q1.fdiv 3).fmod 4=g at *
 have g1:1<=g:=by omega
 simp only[List.length_cons] at lq;obtain⟨L,ab,eL,lL,l1,hL⟩:=ac6 (qs:=r0) (by omega)
 obtain⟨B,ae,eB,lB,l2,hB⟩:=ar4 (qs:=ab) (by omega)
 obtain⟨Z,q4,q5,r3,rfl⟩:=aK7 (qs:=ae) (by omega)
 simp only[List.length_cons] at l2;have f3:=fm Z 3 (by decide)
 have f4:=fm q4 10 (by decide)
 obtain⟨k,ag,ek⟩:=P_6 D.str [kA,kB,kZ] (i:=(Z.fdiv 3).fmod 3) f3.1 f3.2;have hk:IsK k:=by unfold IsK;simpa using ag
 have Y:atD [.str kA,.str kB,.str kZ] ((Z.fdiv 3).fmod 3)=some (.str k):=ek
 generalize ha:(q4.fdiv 3).fmod 10=a at *
 have T:∀ (k:Str) (a:Int) (qs:List Int) (O:Sl),IsK k->0<=a->40<=qs.length->fnA (t_law (E14 (.im (.lst (ns.map .int))) qs g w L B k a .no .no .no .no .no O .no))=some (.bl true):=λ k a qs O hk a0 hq=>ac8 g1 hw (by omega) hL hB lB hk a0 _ qs hq O
 have dL:A_0 (L.map tD)+1<=30:=by have:=aX2 L;omega
 have ac:=aG5 L;show fnD 1 13 aH7 _=_;rw[af7]
 generalize t_law=R at T
 by_cases c1:(q5.fdiv 3).fmod 2=1
 ·by_cases c2:L=[]
  ·subst c2
   have T':fnA (R [.im (.lst (ns.map .int)),.ow false (.lst (qL r3)),.im (rowD g w),.im (worksD g w),.im (.lst []),.im (.lst (B.map Bx.D)),.im (.tup [.str k,.int a]),.no,.no,.no,.no,.no,.no,.no])=some (.bl true):=T k a r3 .no hk f4.1 (by omega)
   have af:f_9 (.lst (qL r0)) [.int 7]=some (.lst [],.lst (qL ab)):=eL;simp[ao8,List.replicate,ec,es,q3,hg,aa,af,eB,Y,ha,c1,T']
  ·obtain⟨q6,r4,rfl⟩:=List.exists_cons_of_ne_nil (l:=r3) (λ z=>by rw[z] at l2;simp at l2;omega)
   obtain⟨cs,ef,_,_,hc,_,ad⟩:=ah6 g1 hw (L:=L) (by omega)
   have cne:=ad c2;have hp:(0:Int)<cs.length:=by have:=List.length_pos_iff.mpr cne;omega
   obtain⟨x,hx,ex⟩:=P_6 cD cs (i:=(q6.fdiv 3).fmod cs.length) (Int.fmod_nonneg_of_pos _ hp) (Int.fmod_lt_of_pos _ hp);obtain⟨u,hu,e1,e2⟩:=(hc x hx).1.fst;have gu:=hL u hu;have ix:b_2 (cD x) (.int 0)=some (.tup [.str x.k,.int x.a]):=rfl;have T':=T x.k x.a r4 (.im (.lst (cs.map cD))) (by rw[<- e1];rcases gu.k with z | z;exact .inl z;exact .inr (.inl z)) (by rw[<- e2];exact gu.t0) (by simp only[List.length_cons] at l2;omega)
   have nz:¬ (cs.length:Int)=0:=by omega
   simp[ao8,List.replicate,ec,es,q3,hg,aa,eL,eB,Y,ha,c1,dL,ac,c2,ef,cne,nz,ex,ix,T']
 ·have T':=T k a r3 .no hk f4.1 (by omega)
  simp[ao8,List.replicate,ec,es,q3,hg,aa,eL,eB,Y,ha,c1,T']
end Fx
namespace Fx
open PySem PySem.Spec PyProof.Rows L2
theorem L_8 {K:Frag}{H:Hp}:∀ O:List Int,Reps K H (O.map D.int) (O.map V.int)
 |[]=>Reps.nil_
 |n::r=>Reps.cons (g_2 H n) (L_8 r)
theorem us1 {P:List Value->Prop} (h:∀ a0,P [a0]):∀ us:List Value,us.length=1->P us
 |[_],_=>h ..
theorem us2 {P:List Value->Prop} (h:∀ a0 O,P [a0,O]):∀ us:List Value,us.length=2->P us
 |[_,_],_=>h ..
theorem us3 {P:List Value->Prop} (h:∀ a0 R O,P [a0,R,O]):∀ us:List Value,us.length=3->P us
 |[_,_,_],_=>h ..
theorem us4 {P:List Value->Prop} (h:∀ a0 Y O R,P [a0,Y,O,R]):∀ us:List Value,us.length=4->P us
 |[_,_,_,_],_=>h ..
theorem us5 {P:List Value->Prop} (h:∀ a0 Y O R Z,P [a0,Y,O,R,Z]):∀ us:List Value,us.length=5->P us
 |[_,_,_,_,_],_=>h ..
theorem us6 {P:List Value->Prop} (h:∀ a0 O R Y a4 Z,P [a0,O,R,Y,a4,Z]):∀ us:List Value,us.length=6->P us
 |[_,_,_,_,_,_],_=>h ..
theorem all_mk {l:OpenLaw}{w:World}{K:Frag}{h:Heap}{mg:Str → Option Value} (X:K.In h) (G:h.Ns mainGlobals mg) (m2:mg "law"=some (.ref fa))
  {m6 ki:Option Addr}{sy me nz nn gx p5:Value}
  (a1:nsIn K mainGlobals "is_key"=some (some (.ref f1))) (l1:K.lookup f1=some ⟨sy,m6,.func (fnOf "is_key" "is_key" (a_5 n_7) (a_3 n_7) (a_0 n_7) .none me nz nn ki gx p5),sl1⟩) (c1:codeIn K gx "is_key"=true) (k1:keepIn K (.ref f1)=true)
  {ph sw:Option Addr}{pj q5 tf q6 en sd:Value}
  (a2:nsIn K mainGlobals "keys_hold"=some (some (.ref f2))) (l2:K.lookup f2=some ⟨pj,ph,.func (fnOf "keys_hold" "keys_hold" (a_5 l_7) (a_3 l_7) (a_0 l_7) .none q5 tf q6 sw en sd),sl2⟩) (c2:codeIn K en "keys_hold"=true) (k2:keepIn K (.ref f2)=true)
  {om kp:Option Addr}{kw lf kh m8 j9 mn:Value}
  (a3:nsIn K mainGlobals "keys_meet"=some (some (.ref f3))) (l3:K.lookup f3=some ⟨kw,om,.func (fnOf "keys_meet" "keys_meet" (a_5 c_1) (a_3 c_1) (a_0 c_1) .none lf kh m8 kp j9 mn),sl3⟩) (c3:codeIn K j9 "keys_meet"=true) (k3:keepIn K (.ref f3)=true)
  {pp s9:Option Addr}{m7 mx rr kk hs oe:Value}
  (a4:nsIn K mainGlobals "stretch_made"=some (some (.ref f4))) (l4:K.lookup f4=some ⟨m7,pp,.func (fnOf "stretch_made" "stretch_made" (a_5 g_6) (a_3 g_6) (a_0 g_6) .none mx rr kk s9 hs oe),sl4⟩) (c4:codeIn K hs "stretch_made"=true) (k4:keepIn K (.ref f4)=true)
  {kj p0:Option Addr}{o0 la o1 tm cz mp:Value}
  (a5:nsIn K mainGlobals "is_between"=some (some (.ref f5))) (l5:K.lookup f5=some ⟨o0,kj,.func (fnOf "is_between" "is_between" (a_5 k_1) (a_3 k_1) (a_0 k_1) .none la o1 tm p0 cz mp),sl5⟩) (c5:codeIn K cz "is_between"=true) (k5:keepIn K (.ref f5)=true)
  {ro p9:Option Addr}{rn lu pr pw cy nw:Value}
  (a6:nsIn K mainGlobals "stretch_has"=some (some (.ref f6))) (l6:K.lookup f6=some ⟨rn,ro,.func (fnOf "stretch_has" "stretch_has" (a_5 i_0) (a_3 i_0) (a_0 i_0) .none lu pr pw p9 cy nw),sl6⟩) (c6:codeIn K cy "stretch_has"=true) (k6:keepIn K (.ref f6)=true)
  {kn mb:Option Addr}{sg oc mk s5 gw o6:Value}
  (a7:nsIn K mainGlobals "lower_bound"=some (some (.ref f7))) (l7:K.lookup f7=some ⟨sg,kn,.func (fnOf "lower_bound" "lower_bound" (a_5 i_1) (a_3 i_1) (a_0 i_1) .none oc mk s5 mb gw o6),sl7⟩) (c7:codeIn K gw "lower_bound"=true) (k7:keepIn K (.ref f7)=true)
  {o7 ln:Option Addr}{ll mc s7 qf ec pm:Value}
  (a8:nsIn K mainGlobals "upper_bound"=some (some (.ref f8))) (l8:K.lookup f8=some ⟨ll,o7,.func (fnOf "upper_bound" "upper_bound" (a_5 h_8) (a_3 h_8) (a_0 h_8) .none mc s7 qf ln ec pm),sl8⟩) (c8:codeIn K ec "upper_bound"=true) (k8:keepIn K (.ref f8)=true)
  {s1 lc:Option Addr}{pi lk md q7 cw mv:Value}
  (a9:nsIn K mainGlobals "stretch_between"=some (some (.ref f9))) (l9:K.lookup f9=some ⟨pi,s1,.func (fnOf "stretch_between" "stretch_between" (a_5 d_3) (a_3 d_3) (a_0 d_3) .none lk md q7 lc cw mv),sl9⟩) (c9:codeIn K cw "stretch_between"=true) (k9:keepIn K (.ref f9)=true)
  {c0 cq:Option Addr}{d1 gq dj h6 bn gt:Value}
  (p6:nsIn K mainGlobals "stretch_above"=some (some (.ref f10))) (tj:K.lookup f10=some ⟨d1,c0,.func (fnOf "stretch_above" "stretch_above" (a_5 f_2) (a_3 f_2) (a_0 f_2) .none gq dj h6 cq bn gt),sl10⟩) (m9:codeIn K bn "stretch_above"=true) (su:keepIn K (.ref f10)=true)
  {fq iq:Option Addr}{i3 hr el h0 aj gd:Value}
  (r2:nsIn K mainGlobals "stretch_below"=some (some (.ref f11))) (pd:K.lookup f11=some ⟨i3,fq,.func (fnOf "stretch_below" "stretch_below" (a_5 f_1) (a_3 f_1) (a_0 f_1) .none hr el h0 iq aj gd),sl11⟩) (ql:codeIn K aj "stretch_below"=true) (tn:keepIn K (.ref f11)=true)
  {hz cl:Option Addr}{iu e0 ee ga bg ke:Value}
  (ru:nsIn K mainGlobals "stretch_moved"=some (some (.ref f12))) (n0:K.lookup f12=some ⟨iu,hz,.func (fnOf "stretch_moved" "stretch_moved" (a_5 c_4) (a_3 c_4) (a_0 c_4) .none e0 ee ga cl bg ke),sl12⟩) (sh:codeIn K bg "stretch_moved"=true) (p4:keepIn K (.ref f12)=true)
  {j1 dc:Option Addr}{jf iw gm he bi g5:Value}
  (rz:nsIn K mainGlobals "divisor_and_factor"=some (some (.ref f13))) (ox:K.lookup f13=some ⟨jf,j1,.func (fnOf "divisor_and_factor" "divisor_and_factor" (a_5 b_9) (a_3 b_9) (a_0 b_9) .none iw gm he dc bi g5),sl13⟩) (ld:codeIn K bi "divisor_and_factor"=true) (r6:keepIn K (.ref f13)=true)
  {hj ib:Option Addr}{i6 jk cx g9 ax fv:Value}
  (pq:nsIn K mainGlobals "stretch_back"=some (some (.ref f14))) (ni:K.lookup f14=some ⟨i6,hj,.func (fnOf "stretch_back" "stretch_back" (a_5 g_7) (a_3 g_7) (a_0 g_7) .none jk cx g9 ib ax fv),sl14⟩) (sa:codeIn K ax "stretch_back"=true) (rm:keepIn K (.ref f14)=true)
  {gj d3:Option Addr}{bu ff cn f0 az kc:Value}
  (qx:nsIn K mainGlobals "stretch_meet"=some (some (.ref f15))) (q8:K.lookup f15=some ⟨bu,gj,.func (fnOf "stretch_meet" "stretch_meet" (a_5 g_5) (a_3 g_5) (a_0 g_5) .none ff cn f0 d3 az kc),sl15⟩) (mq:codeIn K az "stretch_meet"=true) (ly:keepIn K (.ref f15)=true)
  {im ge:Option Addr}{gv gs bz h4 ad ey:Value}
  (oh:nsIn K mainGlobals "box_made"=some (some (.ref f16))) (m4:K.lookup f16=some ⟨gv,im,.func (fnOf "box_made" "box_made" (a_5 n_2) (a_3 n_2) (a_0 n_2) .none gs bz h4 ge ad ey),sl16⟩) (kl:codeIn K ad "box_made"=true) (s2:keepIn K (.ref f16)=true)
  {dm fp:Option Addr}{ev ie h5 jz ap ho:Value}
  (rv:nsIn K mainGlobals "box_has"=some (some (.ref f17))) (so:K.lookup f17=some ⟨ev,dm,.func (fnOf "box_has" "box_has" (a_5 o_5) (a_3 o_5) (a_0 o_5) .none ie h5 jz fp ap ho),sl17⟩) (ol:codeIn K ap "box_has"=true) (qu:keepIn K (.ref f17)=true)
  {gp dp:Option Addr}{dr br j3 g8 ac bv:Value}
  (oj:nsIn K mainGlobals "box_meet"=some (some (.ref f18))) (nj:K.lookup f18=some ⟨dr,gp,.func (fnOf "box_meet" "box_meet" (a_5 n_1) (a_3 n_1) (a_0 n_1) .none br j3 g8 dp ac bv),sl18⟩) (rx:codeIn K ac "box_meet"=true) (q4:keepIn K (.ref f18)=true)
  {j2 hm:Option Addr}{hq j4 ci hu bo dd:Value}
  (r1:nsIn K mainGlobals "boxes_met"=some (some (.ref f19))) (s6:K.lookup f19=some ⟨hq,j2,.func (fnOf "boxes_met" "boxes_met" (a_5 e_1) (a_3 e_1) (a_0 e_1) .none j4 ci hu hm bo dd),sl19⟩) (q0:codeIn K bo "boxes_met"=true) (r5:keepIn K (.ref f19)=true)
  {et ij:Option Addr}{ju d5 ji fo ao dk:Value}
  (ry:nsIn K mainGlobals "row_named"=some (some (.ref f20))) (m5:K.lookup f20=some ⟨ju,et,.func (fnOf "row_named" "row_named" (a_5 l_5) (a_3 l_5) (a_0 l_5) .none d5 ji fo ij ao dk),sl20⟩) (rg:codeIn K ao "row_named"=true) (oz:keepIn K (.ref f20)=true)
  {jj ep:Option Addr}{dq gz gb bx al fb:Value}
  (od:nsIn K mainGlobals "is_whole"=some (some (.ref f21))) (lb:K.lookup f21=some ⟨dq,jj,.func (fnOf "is_whole" "is_whole" (a_5 n_0) (a_3 n_0) (a_0 n_0) .none gz gb bx ep al fb),sl21⟩) (q1:codeIn K al "is_whole"=true) (kg:keepIn K (.ref f21)=true)
  {ia jm:Option Addr}{du hg di dy aq hp:Value}
  (ms:nsIn K mainGlobals "amount_of"=some (some (.ref f22))) (mf:K.lookup f22=some ⟨du,ia,.func (fnOf "amount_of" "amount_of" (a_5 l_9) (a_3 l_9) (a_0 l_9) .none hg di dy jm aq hp),sl22⟩) (pz:codeIn K aq "amount_of"=true) (o9:keepIn K (.ref f22)=true)
  {e9 fj:Option Addr}{g0 g4 hy jw bj ca:Value}
  (sn:nsIn K mainGlobals "sessions_of"=some (some (.ref f23))) (mz:K.lookup f23=some ⟨g0,e9,.func (fnOf "sessions_of" "sessions_of" (a_5 g_1) (a_3 g_1) (a_0 g_1) .none g4 hy jw fj bj ca),sl23⟩) (kt:codeIn K bj "sessions_of"=true) (o8:keepIn K (.ref f23)=true)
  {e7 ii:Option Addr}{gl gu hh jo as df:Value}
  (os:nsIn K mainGlobals "session_cells"=some (some (.ref f24))) (o2:K.lookup f24=some ⟨gl,e7,.func (fnOf "session_cells" "session_cells" (a_5 c_5) (a_3 c_5) (a_0 c_5) .none gu hh jo ii as df),sl24⟩) (l0:codeIn K as "session_cells"=true) (nh:keepIn K (.ref f24)=true)
  {fh cu:Option Addr}{fg jn gn ih bb ip:Value}
  (p8:nsIn K mainGlobals "fold_cells"=some (some (.ref f25))) (qy:K.lookup f25=some ⟨fg,fh,.func (fnOf "fold_cells" "fold_cells" (a_5 k_2) (a_3 k_2) (a_0 k_2) .none jn gn ih cu bb ip),sl25⟩) (mh:codeIn K bb "fold_cells"=true) (s8:keepIn K (.ref f25)=true)
  {e6 j5:Option Addr}{jh dt ei g3 ay d9:Value}
  (nt:nsIn K mainGlobals "told_answer"=some (some (.ref f26))) (oq:K.lookup f26=some ⟨jh,e6,.func (fnOf "told_answer" "told_answer" (a_5 h_9) (a_3 h_9) (a_0 h_9) .none dt ei g3 j5 ay d9),sl26⟩) (ov:codeIn K ay "told_answer"=true) (oo:keepIn K (.ref f26)=true)
  {d8 j0:Option Addr}{jx de fe g6 ah ej:Value}
  (ml:nsIn K mainGlobals "key_box"=some (some (.ref f27))) (ns:K.lookup f27=some ⟨jx,d8,.func (fnOf "key_box" "key_box" (a_5 o_3) (a_3 o_3) (a_0 o_3) .none de fe g6 j0 ah ej),sl27⟩) (qz:codeIn K ah "key_box"=true) (mu:keepIn K (.ref f27)=true)
  {dz b0:Option Addr}{dx ka fm ed an jb:Value}
  (si:nsIn K mainGlobals "is_cell"=some (some (.ref f28))) (sr:K.lookup f28=some ⟨dx,dz,.func (fnOf "is_cell" "is_cell" (a_5 o_4) (a_3 o_4) (a_0 o_4) .none ka fm ed b0 an jb),sl28⟩) (rp:codeIn K an "is_cell"=true) (p7:keepIn K (.ref f28)=true)
  {dw eh:Option Addr}{ik ek ja cf bc d7:Value}
  (rf:nsIn K mainGlobals "check_cell"=some (some (.ref f29))) (na:K.lookup f29=some ⟨ik,dw,.func (fnOf "check_cell" "check_cell" (a_5 k_3) (a_3 k_3) (a_0 k_3) .none ek ja cf eh bc d7),sl29⟩) (ma:codeIn K bc "check_cell"=true) (kz:keepIn K (.ref f29)=true)
  {cv d2:Option Addr}{cj ce co cr be go:Value}
  (ou:nsIn K mainGlobals "things_in"=some (some (.ref f30))) (q2:K.lookup f30=some ⟨cj,cv,.func (fnOf "things_in" "things_in" (a_5 h_3) (a_3 h_3) (a_0 h_3) .none ce co cr d2 be go),sl30⟩) (nc:codeIn K be "things_in"=true) (ne:keepIn K (.ref f30)=true)
  {i0 iz:Option Addr}{jc il gi dg af jt:Value}
  (qe:nsIn K mainGlobals "values_beyond"=some (some (.ref f31))) (q9:K.lookup f31=some ⟨jc,i0,.func (fnOf "values_beyond" "values_beyond" (a_5 e_9) (a_3 e_9) (a_0 e_9) .none il gi dg iz af jt),sl31⟩) (rs:codeIn K af "values_beyond"=true) (ko:keepIn K (.ref f31)=true)
  {ir je:Option Addr}{h3 i8 j7 dl av hv:Value}
  (ku:nsIn K mainGlobals "turning_values"=some (some (.ref f32))) (p1:K.lookup f32=some ⟨h3,ir,.func (fnOf "turning_values" "turning_values" (a_5 c_0) (a_3 c_0) (a_0 c_0) .none i8 j7 dl je av hv),sl32⟩) (rc:codeIn K av "turning_values"=true) (pe:keepIn K (.ref f32)=true)
  {eg hn:Option Addr}{db eb kf jr ab fu:Value}
  (no:nsIn K mainGlobals "turning_boxes"=some (some (.ref f33))) (lg:K.lookup f33=some ⟨db,eg,.func (fnOf "turning_boxes" "turning_boxes" (a_5 f_0) (a_3 f_0) (a_0 f_0) .none eb kf jr hn ab fu),sl33⟩) (mt:codeIn K ab "turning_boxes"=true) (pa:keepIn K (.ref f33)=true)
  {gg er:Option Addr}{cm ef ix j6 ag ft:Value}
  (ny:nsIn K mainGlobals "session_turning"=some (some (.ref f34))) (pl:K.lookup f34=some ⟨cm,gg,.func (fnOf "session_turning" "session_turning" (a_5 d_4) (a_3 d_4) (a_0 d_4) .none ef ix j6 er ag ft),sl34⟩) (oi:codeIn K ag "session_turning"=true) (r7:keepIn K (.ref f34)=true)
  {fx jp:Option Addr}{jl kd ew cp bl gy:Value}
  (r9:nsIn K mainGlobals "chain_turning"=some (some (.ref f35))) (pk:K.lookup f35=some ⟨jl,fx,.func (fnOf "chain_turning" "chain_turning" (a_5 f_3) (a_3 f_3) (a_0 f_3) .none kd ew cp jp bl gy),sl35⟩) (sj:codeIn K bl "chain_turning"=true) (sv:keepIn K (.ref f35)=true)
  {dh fl:Option Addr}{i7 cb cs eu bd ha:Value}
  (nb:nsIn K mainGlobals "cell_rows"=some (some (.ref f36))) (lq:K.lookup f36=some ⟨i7,dh,.func (fnOf "cell_rows" "cell_rows" (a_5 l_8) (a_3 l_8) (a_0 l_8) .none cb cs eu fl bd ha),sl36⟩) (np:codeIn K bd "cell_rows"=true) (mo:keepIn K (.ref f36)=true)
  {h9 jy:Option Addr}{gh g7 jv i9 bf d4:Value}
  (sb:nsIn K mainGlobals "boxes_turn"=some (some (.ref f37))) (rh:K.lookup f37=some ⟨gh,h9,.func (fnOf "boxes_turn" "boxes_turn" (a_5 k_4) (a_3 k_4) (a_0 k_4) .none g7 jv i9 jy bf d4),sl37⟩) (k0:codeIn K bf "boxes_turn"=true) (tp:keepIn K (.ref f37)=true)
  {h8 eo:Option Addr}{jd bw g2 hx bh em:Value}
  (r0:nsIn K mainGlobals "_law_cell_at"=some (some (.ref f38))) (lv:K.lookup f38=some ⟨jd,h8,.func (fnOf "_law_cell_at" "_law_cell_at" (a_5 i_2) (a_3 i_2) (a_0 i_2) .none bw g2 hx eo bh em),sl38⟩) (km:codeIn K bh "_law_cell_at"=true) (ti:keepIn K (.ref f38)=true)
  {fi iv:Option Addr}{bt jg gf fz aw cc:Value}
  (on:nsIn K mainGlobals "_law_stream"=some (some (.ref f39))) (kx:K.lookup f39=some ⟨bt,fi,.func (fnOf "_law_stream" "_law_stream" (a_5 j_9) (a_3 j_9) (a_0 j_9) .none jg gf fz iv aw cc),sl39⟩) (pg:codeIn K aw "_law_stream"=true) (sq:keepIn K (.ref f39)=true)
  {gc bq:Option Addr}{e8 ez h7 dv bm gk:Value}
  (ow:nsIn K mainGlobals "_law_things"=some (some (.ref f40))) (li:K.lookup f40=some ⟨e8,gc,.func (fnOf "_law_things" "_law_things" (a_5 j_8) (a_3 j_8) (a_0 j_8) .none ez h7 dv bq bm gk),sl40⟩) (nu:codeIn K bm "_law_things"=true) (tr:keepIn K (.ref f40)=true)
  {ic gr:Option Addr}{kb hc jq ck ak fy:Value}
  (kr:nsIn K mainGlobals "_law_boxes"=some (some (.ref f41))) (po:K.lookup f41=some ⟨kb,ic,.func (fnOf "_law_boxes" "_law_boxes" (a_5 l_6) (a_3 l_6) (a_0 l_6) .none hc jq ck gr ak fy),sl41⟩) (rl:codeIn K ak "_law_boxes"=true) (ls:keepIn K (.ref f41)=true)
  {i5 i4:Option Addr}{da eq hb j8 ar cg:Value}
  (s3:nsIn K mainGlobals "_law_in_boxes"=some (some (.ref f42))) (o3:K.lookup f42=some ⟨da,i5,.func (fnOf "_law_in_boxes" "_law_in_boxes" (a_5 g_8) (a_3 g_8) (a_0 g_8) .none eq hb j8 i4 ar cg),sl42⟩) (kq:codeIn K ar "_law_in_boxes"=true) (pf:keepIn K (.ref f42)=true)
  {ea fk:Option Addr}{hd fc d0 dn am io:Value}
  (mr:nsIn K mainGlobals "_law_answer"=some (some (.ref f43))) (sf:K.lookup f43=some ⟨hd,ea,.func (fnOf "_law_answer" "_law_answer" (a_5 k_0) (a_3 k_0) (a_0 k_0) .none fc d0 dn fk am io),sl43⟩) (mj:codeIn K am "_law_answer"=true) (mi:keepIn K (.ref f43)=true)
  {d6 ba:Option Addr}{ig ae ai bp O au:Value}
  (s4:nsIn K mainGlobals "law"=some (some (.ref f44))) (mw:K.lookup f44=some ⟨ig,d6,.func (fnOf "law" "law" (a_5 w_0) (a_3 w_0) (a_0 w_0) .none ae ai bp ba O au),sl44⟩) (qq:codeIn K O "law"=true) (sx:keepIn K (.ref f44)=true)
  (y1:nsIn K mainGlobals "LETTERS"=some (some (.str "abcdefghijklmnopqrstuvwxyz" tc1))) (y2:nsIn K mainGlobals "LONGEST"=some (some (.int 8 tc2))) (iy:K.lookup ec3=some ⟨.type "tuple",none,.seq #[.none,.none,.int 1 tec32,.int 0 tec33] nec3,slec3⟩) (y3:nsIn K mainGlobals "EVERY_VALUE"=some (some (.ref ec3)))
  (Y:K.lookup ed0_0=some ⟨.type "tuple",none,.seq #[.int (1) ted0_0_0,.int (1) ted0_0_1] ned0_0,sled0_0⟩) (Z:K.lookup ed0_1=some ⟨.type "tuple",none,.seq #[.int (1) ted0_1_0,.int (-1) ted0_1_1] ned0_1,sled0_1⟩) (aa:K.lookup ed0_2=some ⟨.type "tuple",none,.seq #[.int (1) ted0_2_0,.int (0) ted0_2_1] ned0_2,sled0_2⟩) (R:K.lookup ed0_3=some ⟨.type "tuple",none,.seq #[.int (0) ted0_3_0,.int (1) ted0_3_1] ned0_3,sled0_3⟩) (e5:K.lookup ed0=some {cls:=.type "dict",data:=.dict #[⟨PyData.keyHash w.params (Str.ofString "sum"),.str "sum" tk0_0,.ref ed0_0⟩,⟨PyData.keyHash w.params (Str.ofString "less"),.str "less" tk0_1,.ref ed0_1⟩,⟨PyData.keyHash w.params (Str.ofString "left"),.str "left" tk0_2,.ref ed0_2⟩,⟨PyData.keyHash w.params (Str.ofString "right"),.str "right" tk0_3,.ref ed0_3⟩] ned0}) (fw:(ed0==sysModules)=false) (r8:nsIn K mainGlobals "SHARES"=some (some (.ref ed0)))
  (z1:nsIn K mainGlobals "abs"=some none) (z2:nsIn K mainGlobals "len"=some none) (z3:nsIn K mainGlobals "max"=some none) (z4:nsIn K mainGlobals "min"=some none) (z5:nsIn K mainGlobals "any"=some none) (z6:nsIn K mainGlobals "all"=some none) (z7:nsIn K mainGlobals "range"=some none) (z8:nsIn K mainGlobals "isinstance"=some none) (z9:nsIn K mainGlobals "int"=some none) (nv:nsIn K mainGlobals "bool"=some none) (sk:nsIn K mainGlobals "str"=some none) (oa:nsIn K mainGlobals "tuple"=some none) (m3:nsIn K mainGlobals "list"=some none) (lx:nsIn K mainGlobals "sorted"=some none) (lw:nsIn K mainGlobals "dict"=some none) (ng:nsIn K mainGlobals "set"=some none) (tq:nsIn K mainGlobals "sum"=some none) (rj:nsIn K mainGlobals "zip"=some none) (rb:nsIn K mainGlobals "enumerate"=some none) (kv:nsIn K mainGlobals "reversed"=some none) :
  ∃ fd:FuncData,(∀ (s:Shared) (v:Value),BindsTo s fd ⟨[v],[]⟩ [("_law_script",v)]) ∧ ∀ base:Heap,K.In base → base.Ns mainGlobals mg → FnOk l.prog w K mg base CX0 10 fa fd ["_law_script"] (spP K af0):=by
 have e:=m2.symm.trans (mg_of X G s4);cases e;have M:∀ {x},nsIn K mainGlobals x=some none->mg x=none:=mg_none_of X G;have N:∀ {x v},nsIn K mainGlobals x=some (some v)->mg x=some v:=mg_of X G;have T:Blt w K mg:=⟨M z1,M z2,M z3,M z4,M z5,M z6,M z7,M z8,M z9,M nv,M sk,M oa,M m3,M lx,M lw,M ng,M tq,M rj,M rb,M kv,⟨_,N y1⟩,⟨_,N y2⟩,⟨_,N y3,(O_1 iy (by simp) (j_4 av6 (j_4 av6 (j_4 s_5 (j_4 s_5 C_0)))))⟩,⟨_,N r8,_,_,e5,fw,(.cons (O_1 Y (by simp) (j_4 s_5 (j_4 s_5 C_0))) (.cons (O_1 Z (by simp) (j_4 s_5 (j_4 s_5 C_0))) (.cons (O_1 aa (by simp) (j_4 s_5 (j_4 s_5 C_0))) (.cons (O_1 R (by simp) (j_4 s_5 (j_4 s_5 C_0))) .nil)))),by decide⟩⟩
 have F1:=b_6 (st:=n_7) l1 c1 k1;have b1:=F1.binds (ps:=["x"]) λ _ _ _ _ _ _=>us1 λ _=>rfl
 have F2:=b_6 (st:=l_7) l2 c2 k2;have b2:=F2.binds (ps:=["keys","key"]) λ _ _ _ _ _ _=>us2 λ _ _=>rfl
 have F3:=b_6 (st:=c_1) l3 c3 k3;have b3:=F3.binds (ps:=["one","other"]) λ _ _ _ _ _ _=>us2 λ _ _=>rfl
 have F4:=b_6 (st:=g_6) l4 c4 k4;have b4:=F4.binds (ps:=["low","high","step","rest"]) λ _ _ _ _ _ _=>us4 λ _ _ _ _=>rfl
 have F5:=b_6 (st:=k_1) l5 c5 k5;have b5:=F5.binds (ps:=["v","low","high"]) λ _ _ _ _ _ _=>us3 λ _ _ _=>rfl
 have F6:=b_6 (st:=i_0) l6 c6 k6;have b6:=F6.binds (ps:=["one","v"]) λ _ _ _ _ _ _=>us2 λ _ _=>rfl
 have F7:=b_6 (st:=i_1) l7 c7 k7;have b7:=F7.binds (ps:=["one","other"]) λ _ _ _ _ _ _=>us2 λ _ _=>rfl
 have F8:=b_6 (st:=h_8) l8 c8 k8;have b8:=F8.binds (ps:=["one","other"]) λ _ _ _ _ _ _=>us2 λ _ _=>rfl
 have F9:=b_6 (st:=d_3) l9 c9 k9;have b9:=F9.binds (ps:=["one","low","high"]) λ _ _ _ _ _ _=>us3 λ _ _ _=>rfl
 have F10:=b_6 (st:=f_2) tj m9 su;have nr:=F10.binds (ps:=["one","c"]) λ _ _ _ _ _ _=>us2 λ _ _=>rfl
 have F11:=b_6 (st:=f_1) pd ql tn;have qa:=F11.binds (ps:=["one","c"]) λ _ _ _ _ _ _=>us2 λ _ _=>rfl
 have F12:=b_6 (st:=c_4) n0 sh p4;have lz:=F12.binds (ps:=["one","a","b"]) λ _ _ _ _ _ _=>us3 λ _ _ _=>rfl
 have F13:=b_6 (st:=b_9) ox ld r6;have se:=F13.binds (ps:=["a","m"]) λ _ _ _ _ _ _=>us2 λ _ _=>rfl
 have F14:=b_6 (st:=g_7) ni sa rm;have lh:=F14.binds (ps:=["one","a","b"]) λ _ _ _ _ _ _=>us3 λ _ _ _=>rfl
 have F15:=b_6 (st:=g_5) q8 mq ly;have p3:=F15.binds (ps:=["one","other"]) λ _ _ _ _ _ _=>us2 λ _ _=>rfl
 have F16:=b_6 (st:=n_2) m4 kl s2;have rq:=F16.binds (ps:=["keys","begin","end","stretch"]) λ _ _ _ _ _ _=>us4 λ _ _ _ _=>rfl
 have F17:=b_6 (st:=o_5) so ol qu;have nq:=F17.binds (ps:=["box","thing"]) λ _ _ _ _ _ _=>us2 λ _ _=>rfl
 have F18:=b_6 (st:=n_1) nj rx q4;have nk:=F18.binds (ps:=["one","other"]) λ _ _ _ _ _ _=>us2 λ _ _=>rfl
 have F19:=b_6 (st:=e_1) s6 q0 r5;have oy:=F19.binds (ps:=["boxes","other"]) λ _ _ _ _ _ _=>us2 λ _ _=>rfl
 have F20:=b_6 (st:=l_5) m5 rg oz;have lj:=F20.binds (ps:=["works","name"]) λ _ _ _ _ _ _=>us2 λ _ _=>rfl
 have F21:=b_6 (st:=n_0) lb q1 kg;have o5:=F21.binds (ps:=["x"]) λ _ _ _ _ _ _=>us1 λ _=>rfl
 have F22:=b_6 (st:=l_9) mf pz o9;have sm:=F22.binds (ps:=["fold_word","values"]) λ _ _ _ _ _ _=>us2 λ _ _=>rfl
 have F23:=b_6 (st:=g_1) mz kt o8;have s0:=F23.binds (ps:=["gap","things"]) λ _ _ _ _ _ _=>us2 λ _ _=>rfl
 have F24:=b_6 (st:=c_5) o2 l0 nh;have m0:=F24.binds (ps:=["row","things"]) λ _ _ _ _ _ _=>us2 λ _ _=>rfl
 have F25:=b_6 (st:=k_2) qy mh s8;have sl:=F25.binds (ps:=["row","things"]) λ _ _ _ _ _ _=>us2 λ _ _=>rfl
 have F26:=b_6 (st:=h_9) oq ov oo;have ra:=F26.binds (ps:=["row","amount"]) λ _ _ _ _ _ _=>us2 λ _ _=>rfl
 have F27:=b_6 (st:=o_3) ns qz mu;have qn:=F27.binds (ps:=["key","begin","end"]) λ _ _ _ _ _ _=>us3 λ _ _ _=>rfl
 have F28:=b_6 (st:=o_4) sr rp p7;have ky:=F28.binds (ps:=["fold","key","window"]) λ _ _ _ _ _ _=>us3 λ _ _ _=>rfl
 have F29:=b_6 (st:=k_3) na ma kz;have o4:=F29.binds (ps:=["works","ask","key","window"]) λ _ _ _ _ _ _=>us4 λ _ _ _ _=>rfl
 have F30:=b_6 (st:=h_3) q2 nc ne;have pb:=F30.binds (ps:=["box","things"]) λ _ _ _ _ _ _=>us2 λ _ _=>rfl
 have F31:=b_6 (st:=e_9) q9 rs ko;have pu:=F31.binds (ps:=["fold_word","amount","stretch"]) λ _ _ _ _ _ _=>us3 λ _ _ _=>rfl
 have F32:=b_6 (st:=c_0) p1 rc pe;have pc:=F32.binds (ps:=["ask_row","fold_word","amount","stretch"]) λ _ _ _ _ _ _=>us4 λ _ _ _ _=>rfl
 have F33:=b_6 (st:=f_0) lg mt pa;have nf:=F33.binds (ps:=["ask_row","fold_word","amount","boxes"]) λ _ _ _ _ _ _=>us4 λ _ _ _ _=>rfl
 have F34:=b_6 (st:=d_4) pl oi r7;have lm:=F34.binds (ps:=["ask_row","fold","key","window","there","boxes"]) λ _ _ _ _ _ _=>us6 λ _ _ _ _ _ _=>rfl
 have F35:=b_6 (st:=f_3) pk sj sv;have ri:=F35.binds (ps:=["ask_row","fold","key","window","there","boxes"]) λ _ _ _ _ _ _=>us6 λ _ _ _ _ _ _=>rfl
 have F36:=b_6 (st:=l_8) lq np mo;have re:=F36.binds (ps:=["works","ask"]) λ _ _ _ _ _ _=>us2 λ _ _=>rfl
 have F37:=b_6 (st:=k_4) rh k0 tp;have lr:=F37.binds (ps:=["works","ask","key","window","there","boxes"]) λ _ _ _ _ _ _=>us6 λ _ _ _ _ _ _=>rfl
 have F38:=b_6 (st:=i_2) lv km ti;have m1:=F38.binds (ps:=["_law_script","_law_k"]) λ _ _ _ _ _ _=>us2 λ _ _=>rfl
 have F39:=b_6 (st:=j_9) kx pg sq;have my:=F39.binds (ps:=["_law_cell","_law_size"]) λ _ _ _ _ _ _=>us2 λ _ _=>rfl
 have F40:=b_6 (st:=j_8) li nu tr;have r4:=F40.binds (ps:=["_law_xs","_law_most"]) λ _ _ _ _ _ _=>us2 λ _ _=>rfl
 have F41:=b_6 (st:=l_6) po rl ls;have lp:=F41.binds (ps:=["_law_xs","_law_most","_law_far"]) λ _ _ _ _ _ _=>us3 λ _ _ _=>rfl
 have F42:=b_6 (st:=g_8) o3 kq pf;have og:=F42.binds (ps:=["_law_boxes_here","_law_key"]) λ _ _ _ _ _ _=>us2 λ _ _=>rfl
 have F43:=b_6 (st:=k_0) sf mj mi;have ot:=F43.binds (ps:=["_law_fold","_law_things_here","_law_cell"]) λ _ _ _ _ _ _=>us3 λ _ _ _=>rfl
 have F44:=b_6 (st:=w_0) mw qq sx;have ts:=F44.binds (ps:=["_law_script"]) λ _ _ _ _ _ _=>us1 λ _=>rfl
 refine⟨fnOf "law" "law" (a_5 w_0) (a_3 w_0) (a_0 w_0) .none ae ai bp ba O au,λ s v=>.of_eq rfl,λ base _ _=>?_⟩
 have G1:DefOk l.prog w K mg base 1 "is_key" u_7:=ae4 F1 b1 (N a1) T;have G2:DefOk l.prog w K mg base 1 "keys_hold" c_9:=N_1 F2 b2 (N a2) T;have G4:DefOk l.prog w K mg base 1 "stretch_made" a_6:=B_1 F4 b4 (N a4) T;have G5:DefOk l.prog w K mg base 1 "is_between" h_4:=H_4 F5 b5 (N a5) T;have G7:DefOk l.prog w K mg base 1 "lower_bound" d_9:=D_9 F7 b7 (N a7) T;have G8:DefOk l.prog w K mg base 1 "upper_bound" c_3:=D_5 F8 b8 (N a8) T;have G13:DefOk l.prog w K mg base 1 "divisor_and_factor" e_8:=p_9 F13 se (N rz) T;have G16:DefOk l.prog w K mg base 1 "box_made" b_1:=R_5 F16 rq (N oh) T;have G20:DefOk l.prog w K mg base 1 "row_named" d_6:=M_8 F20 lj (N ry) T;have G21:DefOk l.prog w K mg base 1 "is_whole" o_7:=R_3 F21 o5 (N od) T;have G22:DefOk l.prog w K mg base 1 "amount_of" e_4:=N_4 F22 sm (N ms) T;have G23:DefOk l.prog w K mg base 1 "sessions_of" l_0:=D_8 F23 s0 (N sn) T;have G38:DefOk l.prog w K mg base 1 "_law_cell_at" e_0:=E_0 F38 m1 (N r0) T;have G39:DefN l.prog w K mg base 1 "_law_stream" g_0:=H_2 F39 my (N on) T;have G40:DefB l.prog w K mg base 1 "_law_things" f_9:=H_1 F40 r4 (N ow) T;have G42:DefOk l.prog w K mg base 1 "_law_in_boxes" e_2:=B_3 F42 og (N s3) T;have G6:DefOk l.prog w K mg base 2 "stretch_has" k_9:=D_7 F6 b6 (N a6) T G5;have G9:DefOk l.prog w K mg base 2 "stretch_between" a_7:=u_5 F9 b9 (N a9) T G7 G4 G8;have G12:DefOk l.prog w K mg base 2 "stretch_moved" f_5:=y_6 F12 lz (N ru) T G4;have G14:DefOk l.prog w K mg base 2 "stretch_back" h_0:=B_2 F14 lh (N pq) T G13 G4;have G24:DefOk l.prog w K mg base 2 "session_cells" f_6:=y_9 F24 m0 (N os) T G22 G23;have G26:DefOk l.prog w K mg base 2 "told_answer" k_8:=D_6 F26 ra (N nt) T G5;have G27:DefOk l.prog w K mg base 2 "key_box" d_2:=Z_2 F27 qn (N ml) T G16;have G28:DefOk l.prog w K mg base 2 "is_cell" o_8:=Z_3 F28 ky (N si) T G1 G21;have G36:DefOk l.prog w K mg base 2 "cell_rows" n_4:=N_2 F36 re (N nb) T G20;have G41:DefB l.prog w K mg base 2 "_law_boxes" j_7:=M_9 F41 lp (N kr) T G16 G4;have G10:DefOk l.prog w K mg base 3 "stretch_above" c_8:=y_8 F10 nr (N p6) T G9;have G11:DefOk l.prog w K mg base 3 "stretch_below" c_7:=y_7 F11 qa (N r2) T G9;have G15:DefOk l.prog w K mg base 3 "stretch_meet" g_9:=B_0 F15 p3 (N qx) T G14 G9 G12;have G17:DefOk l.prog w K mg base 3 "box_has" h_6:=Z_4 F17 nq (N rv) T G2 G6;have G25:DefOk l.prog w K mg base 3 "fold_cells" b_3:=H_5 F25 sl (N p8) T G24;have G29:DefOk l.prog w K mg base 3 "check_cell" k_5:=H_6 F29 o4 (N rf) T G28 G20;have G3:DefOk l.prog w K mg base 4 "keys_meet" m_0:=N_0 F3 b3 (N a3) T G2;have G30:DefOk l.prog w K mg base 4 "things_in" j_6:=M_7 F30 pb (N ou) T G17;have G31:DefOk l.prog w K mg base 4 "values_beyond" c_6:=y_4 F31 pu (N qe) T G10 G11;have G43:DefOk l.prog w K mg base 4 "_law_answer" b_5:=H_3 F43 ot (N mr) T G25;have G18:DefOk l.prog w K mg base 5 "box_meet" h_1:=R_4 F18 nk (N oj) T G16 G3 G15 G8;have G32:DefOk l.prog w K mg base 5 "turning_values" b_0:=w_2 F32 pc (N ku) T G10 G11 G9 G26 G31
 have G19:DefOk l.prog w K mg base 6 "boxes_met" e_3:=N_3 F19 oy (N r1) T G18;have G33:DefOk l.prog w K mg base 6 "turning_boxes" f_4:=y_5 F33 nf (N no) T G16 G32;have G34:DefOk l.prog w K mg base 7 "session_turning" b_7:=u_6 F34 lm (N ny) T G19 G25 G27 G30 G33;have G35:DefOk l.prog w K mg base 8 "chain_turning" f_7:=z_0 F35 ri (N r9) T G34;have G37:DefOk l.prog w K mg base 9 "boxes_turn" h_5:=H_7 F37 lr (N sb) T G36 G35 G29;exact aT0 F44 T G43 G41 G38 G42 G39 G40 G37 G25
theorem walk {l:OpenLaw}{q:Program}{O:List Str}{XP:(Str->Option Value)->Heap->Prop}{Z:World->Heap->Prop}{d:DefRec}{K:Params->Frag} (hn:l.most=some 63) (R:d.params.defaults=[])
  (hY:∀ (w:World) (h:Heap),Z w h->(K w.params).In h)
  (F:∀ (w:World) (mg:Str->Option Value) (fa:Addr) (h:Heap),(K w.params).In h->h.Ns mainGlobals mg->mg d.name=some (.ref fa) ->
   ∃ fd:FuncData,(∀ (s:Shared) (u:Value),BindsTo s fd ⟨[u],[]⟩ [("_law_script",u)]) ∧ ∀ base:Heap,(K w.params).In base → base.Ns mainGlobals mg → FnOk l.prog w (K w.params) mg base CX0 10 fa fd ["_law_script"] (spP (K w.params) af0)) :
  PySem.W.WalkO q O XP Z l.row.toRowW d [] (λ f vs=>PySem.call f vs) :=
 L2.walk_of (n:=63) (k:=10) (x:="_law_script") (CX:=λ _=>CX0) (sp:=λ w=>spP (K w.params) af0) hn (by decide) R ⟨rfl,by decide,by decide⟩ hY F
  (λ w H a Y hl _ hS=>⟨H,[.lst (Y.map .int)],.bl true,Same.refl _,Reps.one (by unfold Rep;exact⟨a,_,rfl,hS,L_8 Y⟩),law_true Y hl,λ v Hi' H' S r=>by unfold Rep at r;exact r⟩) λ _ _ _ _ _ z=>z
end Fx
open PySem PySem.W PyProof.Rows
def PySem.W.Fast.tw10784183616213512147:=0
def PySem.W.Fast.tw16692299508382873166:=0
def PySem.W.Fast.tw585537657872275494:=0
def PySem.W.Fast.tw18016251471558505266:=0
def PySem.W.Fast.tw2505522289099954739:=0
def PySem.W.Fast.tw9113952971528390354:=0
def PySem.W.Fast.tw5474269591104921162:=0
def PySem.W.Fast.tw1949036207256281076:=0
def PySem.W.Fast.tw3808034498925431201:=0
def PySem.W.Fast.tw14391141776751827976:=0
def PySem.W.Fast.tw11121543761577277360:=0
def PySem.W.Fast.tw9525809386018281043:=0
def PySem.W.Fast.tw9832991521401850759:=0
def PySem.W.Fast.tw13863613297268554427:=0
def PySem.W.Fast.tw11417148794026905044:=0
def PySem.W.Fast.tw5131727903804541710:=0
def PySem.W.Fast.tw11491996485185937240:=0
def PySem.W.Fast.tw15819274422532695353:=0
def PySem.W.Fast.tw8291512889529836829:=0
def PySem.W.Fast.tw8227544725639345476:=0
def PySem.W.Fast.tw583300216409356431:=0
def PySem.W.Fast.tw1584971957368406073:=0
def PySem.W.Fast.tw7725982175948954409:=0
def PySem.W.Fast.tw5819108468399060051:=0
def PySem.W.Fast.tw16508281408199649775:=0
def PySem.W.Fast.tw16255647607005649646:=0
def PySem.W.Fast.tw457854658280537286:=0
def PySem.W.Fast.tw5175003781868609075:=0
def PySem.W.Fast.tw8919866272410743961:=0
def PySem.W.Fast.tw9001191718708991158:=0
def PySem.W.Fast.tw18180335665591272953:=0
def PySem.W.Fast.tw7426498517246388138:=0
def PySem.W.Fast.tw3613891974353613411:=0
def PySem.W.Fast.tw7995417499566002179:=0
def PySem.W.Fast.tw17502040577093779186:=0
def PySem.W.Fast.tw6141386466489082924:=0
def PySem.W.Fast.tw9344026268232070659:=0
def PySem.W.Fast.tw10219590817706160938:=0
def PySem.W.Fast.tw14077779844738973982:=0
def PySem.W.Fast.tw14586970954642262217:=0
def PySem.W.Fast.tw6249569276567688807:=0
def PySem.W.Fast.tw8829348128139745370:=0
def PySem.W.Fast.tw15051554360174367848:=0
def PySem.W.Fast.tw15173362249406794663:=0
def PySem.W.Fast.tw7398186463570318114:=0
def PySem.W.Fast.tw10675569029936058149:=0
def PySem.W.Fast.tw3870375540058107801:=0
def PySem.W.Fast.tw17158120408864657614:=0
def PySem.W.Fast.tw7651500214806005930:=0
def PySem.W.Fast.tw823519877363463125:=0
def PySem.W.Fast.tw11745903285050080833:=0
def PySem.W.Fast.tw10501264556693987133:=0
def PySem.W.Fast.tw6987254009595542190:=0
def PySem.W.Fast.tw2092452215536238408:=0
def PySem.W.Fast.tw3834591056559421212:=0
def PySem.W.Fast.tw14189345371778544662:=0
def PySem.W.Fast.tw17943081918932876115:=0
def PySem.W.Fast.tw6378484377943894373:=0
def PySem.W.Fast.tw16451770786307207056:=0
def PySem.W.Fast.tw5709216475247830190:=0
def PySem.W.Fast.tw13322735211984656907:=0
def PySem.W.Fast.tw15955463673697440928:=0
def PySem.W.Fast.tw6107713197235941519:=0
def PySem.W.Fast.tw14003077481883471048:=0
set_option maxRecDepth 100000 in
set_option maxHeartbeats 0 in
theorem PySem.Challenge.cw_latewell_k52_gaps_turned_by_boxes_holds : PySem.Challenge.rw_latewell_k52_gaps_turned_by_boxes.Holds := by
 w_on;o_law;k_head;(case hw=>w_witness2)
 k_fill
 refine Fx.walk (l:=PySem.Challenge.rw_latewell_k52_gaps_turned_by_boxes) rfl rfl (λ w h Y=>PySem.W.km_in_of Y) ?F
 case F =>
  intro w mg fa h KX G hmg;refine' Fx.all_mk KX G hmg ?a1 ?l1 ?c1 ?k1 ?a2 ?l2 ?c2 ?k2 ?a3 ?l3 ?c3 ?k3 ?a4 ?l4 ?c4 ?k4 ?a5 ?l5 ?c5 ?k5 ?a6 ?l6 ?c6 ?k6 ?a7 ?l7 ?c7 ?k7 ?a8 ?l8 ?c8 ?k8 ?a9 ?l9 ?c9 ?k9 ?a10 ?l10 ?c10 ?k10 ?a11 ?l11 ?c11 ?k11 ?a12 ?l12 ?c12 ?k12 ?a13 ?l13 ?c13 ?k13 ?a14 ?l14 ?c14 ?k14 ?a15 ?l15 ?c15 ?k15 ?a16 ?l16 ?c16 ?k16 ?a17 ?l17 ?c17 ?k17 ?a18 ?l18 ?c18 ?k18 ?a19 ?l19 ?c19 ?k19 ?a20 ?l20 ?c20 ?k20 ?a21 ?l21 ?c21 ?k21 ?a22 ?l22 ?c22 ?k22 ?a23 ?l23 ?c23 ?k23 ?a24 ?l24 ?c24 ?k24 ?a25 ?l25 ?c25 ?k25 ?a26 ?l26 ?c26 ?k26 ?a27 ?l27 ?c27 ?k27 ?a28 ?l28 ?c28 ?k28 ?a29 ?l29 ?c29 ?k29 ?a30 ?l30 ?c30 ?k30 ?a31 ?l31 ?c31 ?k31 ?a32 ?l32 ?c32 ?k32 ?a33 ?l33 ?c33 ?k33 ?a34 ?l34 ?c34 ?k34 ?a35 ?l35 ?c35 ?k35 ?a36 ?l36 ?c36 ?k36 ?a37 ?l37 ?c37 ?k37 ?a38 ?l38 ?c38 ?k38 ?a39 ?l39 ?c39 ?k39 ?a40 ?l40 ?c40 ?k40 ?a41 ?l41 ?c41 ?k41 ?a42 ?l42 ?c42 ?k42 ?a43 ?l43 ?c43 ?k43 ?a44 ?l44 ?c44 ?k44 ?y1 ?y2 ?lec3 ?y3 ?led0_0 ?led0_1 ?led0_2 ?led0_3 ?led0 ?ysd0 ?yd0 ?z1 ?z2 ?z3 ?z4 ?z5 ?z6 ?z7 ?z8 ?z9 ?z10 ?z11 ?z12 ?z13 ?z14 ?z15 ?z16 ?z17 ?z18 ?z19 ?z20
  (case a1 | l1 | c1 | k1 | a2 | l2 | c2 | k2 | a3 | l3 | c3 | k3 | a4 | l4 | c4 | k4 | a5 | l5 | c5 | k5 | a6 | l6 | c6 | k6 | a7 | l7 | c7 | k7 | a8 | l8 | c8 | k8 | a9 | l9 | c9 | k9 | a10 | l10 | c10 | k10 | a11 | l11 | c11 | k11 | a12 | l12 | c12 | k12 | a13 | l13 | c13 | k13 | a14 | l14 | c14 | k14 | a15 | l15 | c15 | k15 | a16 | l16 | c16 | k16 | a17 | l17 | c17 | k17 | a18 | l18 | c18 | k18 | a19 | l19 | c19 | k19 | a20 | l20 | c20 | k20 | a21 | l21 | c21 | k21 | a22 | l22 | c22 | k22 | a23 | l23 | c23 | k23 | a24 | l24 | c24 | k24 | a25 | l25 | c25 | k25 | a26 | l26 | c26 | k26 | a27 | l27 | c27 | k27 | a28 | l28 | c28 | k28 | a29 | l29 | c29 | k29 | a30 | l30 | c30 | k30 | a31 | l31 | c31 | k31 | a32 | l32 | c32 | k32 | a33 | l33 | c33 | k33 | a34 | l34 | c34 | k34 | a35 | l35 | c35 | k35 | a36 | l36 | c36 | k36 | a37 | l37 | c37 | k37 | a38 | l38 | c38 | k38 | a39 | l39 | c39 | k39 | a40 | l40 | c40 | k40 | a41 | l41 | c41 | k41 | a42 | l42 | c42 | k42 | a43 | l43 | c43 | k43 | a44 | l44 | c44 | k44 | y1 | y2 | y3 | lec3 | yd0=>k_is)
  (case ysd0=>rfl)
  (case led0 | led0_0 | led0_1 | led0_2 | led0_3 | z1 | z2 | z3 | z4 | z5 | z6 | z7 | z8 | z9 | z10 | z11 | z12 | z13 | z14 | z15 | z16 | z17 | z18 | z19 | z20=>k_is)
