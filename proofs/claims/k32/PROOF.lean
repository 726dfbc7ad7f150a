import PyProof.Rows.All
import Wide.All
import OpenK.AllK
import Wide.FinOn
import Lean
import PyProof.EqAt
import PyProof.EqKinds
import PyProof.TupleCall
import PySem.Sem
import PySem.Builtin.Int.W1All
import PyProof.StrBlockI
import PyProof.StrBlock2
import KE.KEqDict
import KE.KDictOf
import PyProof.Rows.SortStr
import PyProof.TupleOfSeq
import PyProof.AttrMissHeap
import PyProof.TupleIter
import PyProof.DictUpdate
import PyProof.ListNew
import KE.KSortTup
import KE.KIntText
import PyProof.SetKind
import PyProof.DictKinds
import PyProof.SeqWrite
import PyProof.CollectWalk
import PyProof.FactsAll.set_1
import PyProof.FactsAll.set_2
import PyProof.FactsAll.set_3
import PyProof.Rows.SetFrom
import KE.KDictList
import PyProof.Rows.StrNews
import PyProof.Rows.StrItems
import PyProof.EnumMake
import PyProof.EnumFor
import PyProof.EnumStmt
import PyProof.EnumIter
import KE.KRevIter
import PyProof.SetRoads
import PyProof.ZipIter
import PyProof.Rows.TupIter
import PyProof.Walks
import PyProof.WalksS
import PyProof.FactsAll.tuple_iterator
import PyProof.TupleOfGen
import PyProof.Rows.SumAny
import KE.KDictLaws
import PyProof.Rows.SortWalk
import PyProof.AutoSeq1
import PySem.Challenge.RW_latewell_k32_things_at_chains
set_option Elab.async false
set_option linter.all false
set_option maxRecDepth 100000
set_option maxHeartbeats 4000000
noncomputable section
open PySem.W (Frag nsIn mg_of mg_none_of fnOf codeIn keepIn OpenLaw)
section
open PySem PyProof.Rows
abbrev qb:=@wpAny_bind
abbrev qc:=@wpAny_pure
abbrev qd:=@Heap.get?_push_of_some
abbrev qf:=@List.mem_cons_self
abbrev qg:=@List.mem_cons_of_mem
abbrev qi:=@Option.some.inj
abbrev qj:=@Nat.le_refl
abbrev qk:=@Heap.get?_push_size
abbrev qm:=@Heap.lt_size
abbrev qo:=@List.mem_append_right
abbrev qp:=@List.mem_append_left
abbrev qq:=@Nat.lt_of_lt_of_le
abbrev qr:=@Nat.ne_of_lt
theorem qt{α:Type _}{a b:α}{l:List α}(h:a∈b::l):a=b\/a∈l:=List.mem_cons.mp h
theorem qv{α:Type _}{a b:α}(h:a∈[b]):a=b:=List.mem_singleton.mp h
theorem qw{α:Type _}{a:α}{l k:List α}(h:a∈l++k):a∈l\/a∈k:=List.mem_append.mp h
end
namespace L2
open PySem PySem.Spec PyProof.Rows
abbrev Key:=Sum Int Str
noncomputable def R_3:Key->Value->Bool
 |.inl k,v=>Value.isInt k v
 |.inr x,v=>Value.isStrOf x v
noncomputable def bL3 (w:World):Key->Int
 |.inl k=>hashInt k
 |.inr x=>hashStr w x
theorem d_9:∀ {k:Key}{v:Value},R_3 k v=true->(∃ i t,k=Sum.inl i/\v=Value.int i t)\/(∃ x t,k=Sum.inr x/\v=Value.str x t)
 |.inl i,v,h=>by
  obtain⟨t,e⟩:=Value.isInt_shape (k:=i) (v:=v) h;exact .inl ⟨i,t,rfl,e⟩
 |.inr x,v,h=>by
  obtain⟨t,e⟩:=Value.isStrOf_shape (x:=x) (v:=v) h;exact .inr ⟨x,t,rfl,e⟩
theorem ai7 (i:Int) (t:Tok):R_3 (.inl i) (.int i t)=true:=by simp[R_3,Value.isInt]
theorem ai6 (x:Str) (t:Tok):R_3 (.inr x) (.str x t)=true:=by simp[R_3,Value.isStrOf]
theorem bc7 (a b:Int):decide ((Sum.inl a:Key)=Sum.inl b)=(a==b):=by
 by_cases e:a=b
 ·subst e;simp
 ·have h:¬ (Sum.inl a:Key)=Sum.inl b:=λ q=>e (Sum.inl.inj q)
  rw[decide_eq_false h];exact (beq_eq_false_iff_ne.mpr e).symm
theorem bc4 (a b:Str):decide ((Sum.inr a:Key)=Sum.inr b)=decide (a=b):=by
 by_cases e:a=b
 ·subst e;simp
 ·have h:¬ (Sum.inr a:Key)=Sum.inr b:=λ q=>e (Sum.inr.inj q)
  rw[decide_eq_false h,decide_eq_false e]
theorem bc6 (a:Int) (b:Str):decide ((Sum.inl a:Key)=Sum.inr b)=false:=decide_eq_false (λ q=>nomatch q)
theorem bc5 (a:Str) (b:Int):decide ((Sum.inr a:Key)=Sum.inl b)=false:=decide_eq_false (λ q=>nomatch q)
noncomputable def c_0 (prog:Program) (w:World):PySem.KeyKind prog w Key where
 is:=R_3
 hash:=bL3 w
 inj:=λ v a b ha Y=>by
  rcases d_9 ha with ⟨i,t,rfl,rfl⟩ | ⟨x,t,rfl,rfl⟩
  ·rcases d_9 Y with ⟨j,u,rfl,e⟩ | ⟨y,u,rfl,e⟩
   ·injection e with e1 _;rw[e1]
   ·exact nomatch e
  ·rcases d_9 Y with ⟨j,u,rfl,e⟩ | ⟨y,u,rfl,e⟩
   ·exact nomatch e
   ·injection e with e1 _;rw[e1]
 byValue:=λ k v h=>by
  rcases d_9 h with ⟨i,t,rfl,rfl⟩ | ⟨x,t,rfl,rfl⟩ <;> rfl
 pyHash:=λ O h=>by
  rcases d_9 O with ⟨i,t,rfl,rfl⟩ | ⟨x,t,rfl,rfl⟩
  ·exact wpAny_pyHash_int h
  ·exact wpAny_pyHash_str h
 eqBool:=λ Z O h=>by
  rcases d_9 Z with ⟨i,t,rfl,rfl⟩ | ⟨x,t,rfl,rfl⟩
  ·rcases d_9 O with ⟨j,u,rfl,rfl⟩ | ⟨y,u,rfl,rfl⟩
   ·rw[bc7] at h;exact wpAny_eqBool_int h
   ·rw[bc6] at h;exact SeqAt.EqAt.int_str i t y u _ _ _ _ h
  ·rcases d_9 O with ⟨j,u,rfl,rfl⟩ | ⟨y,u,rfl,rfl⟩
   ·rw[bc5] at h;exact SeqAt.EqAt.str_int x t j u _ _ _ _ h
   ·rw[bc4] at h;exact wpAny_eqBool_str h
 «strs»:=λ k x t v h=>by
  rcases d_9 h with ⟨i,u,rfl,e⟩ | ⟨y,u,rfl,e⟩
  ·exact nomatch e
  ·injection e with e1 _
   subst e1;cases v <;> rfl
theorem Q_8 (prog:Program) (w:World) (i:Int) (t:Tok):(c_0 prog w).is (.inl i) (.int i t)=true:=ai7 i t
theorem r_3 (prog:Program) (w:World) (x:Str) (t:Tok):(c_0 prog w).is (.inr x) (.str x t)=true:=ai6 x t
inductive V where
 |non | bl (b:Bool) | int (i:Int) | str (x:Str) | byt (b:Array UInt8) | flt (b:UInt64) | ref (a:Addr) | ty (n:String)
 deriving DecidableEq
noncomputable def RelV:V->Value->Prop
 |.non,u=>u=Value.none
 |.bl b,u=>u=Value.bool b
 |.int i,u=>∃ t,u=Value.int i t
 |.str x,u=>∃ t,u=Value.str x t
 |.byt b,u=>∃ t,u=Value.bytes b t
 |.flt b,u=>∃ t,u=Value.float b t
 |.ref a,u=>u=Value.ref a
 |.ty n,u=>u=Value.type n
abbrev Vals:List V->List Value->Prop:=Paired RelV
theorem Vals.length {xs:List V}{us:List Value} (r:Vals xs us):xs.length=us.length:=Paired.length r
theorem Vals.get:∀ {xs:List V}{us:List Value}{i:Nat}{x:V},Vals xs us->xs[i]?=some x->∃ u,us[i]?=some u/\RelV x u
 |_,_,_,_,.nil,e=>by simp at e
 |_,_,0,_,.cons r _,e=>by simp at e;subst e;exact⟨_,rfl,r⟩
 |_,_,i+1,x,.cons _ t,e=>by
  obtain⟨u,h1,h2⟩:=Vals.get (i:=i) (x:=x) t (by simpa using e)
  exact⟨u,by simpa using h1,h2⟩
theorem Vals.set {x:V}{u:Value} (r:RelV x u):∀ {xs:List V}{us:List Value} (i:Nat),Vals xs us->Vals (xs.set i x) (us.set i u)
 |_,_,_,.nil=>.nil
 |_,_,0,.cons _ t=>.cons r t
 |_,_,i+1,.cons q t=>.cons q (Vals.set r i t)
theorem Vals.append:∀ {xs ys:List V}{us ws:List Value},Vals xs us->Vals ys ws->Vals (xs++ys) (us++ws)
 |_,_,_,_,.nil,s=>s
 |_,_,_,_,.cons r t,s=>.cons r (Vals.append t s)
theorem Vals.take:∀ {xs:List V}{us:List Value} (n:Nat),Vals xs us->Vals (xs.take n) (us.take n)
 |_,_,0,_=>.nil
 |_,_,_+1,.nil=>.nil
 |_,_,n+1,.cons r t=>.cons r (Vals.take n t)
theorem Vals.drop:∀ {xs:List V}{us:List Value} (n:Nat),Vals xs us->Vals (xs.drop n) (us.drop n)
 |_,_,0,r=>r
 |_,_,_+1,.nil=>.nil
 |_,_,n+1,.cons _ t=>Vals.drop n t
noncomputable def RelO:Option V->Option Value->Prop
 |some v,some u=>RelV v u
 |none,none=>True
 |_,_=>False
noncomputable def KV {κ:Type}:List (κ×V)->List (κ×Value)->Prop:=Paired λ (p:κ×V) (q:κ×Value)=>p.1=q.1/\RelV p.2 q.2
noncomputable def kV:Key->V
 |.inl i=>.int i
 |.inr x=>.str x
inductive HO where
 |lst (xs:List V)
 |tup (xs:List V)
 |dK (kvs:List (Key×V)) | dT (kvs:List (List Key×V))
 |set (S:Int->Bool) (n:Nat)
 |ins (C dx:Addr) (fs:List (Str×V))
 |own (x:Addr)
 |xd (fs:List (Str×V))
 |met (f x:Addr)
 |rng (lo hi:Int)
 |frz (o:Obj) (u:HO)
 |tbl (ps:Array Value)
 |ext (φ:Heap->Prop)
abbrev Hp:=Addr->Option HO
noncomputable def upd (H:Hp) (a:Addr) (o:HO):Hp:=λ b=>if b=a then some o else H b
theorem a_2 {H:Hp}{a:Addr}{o:HO}:upd H a o a=some o:=by unfold upd;rw[if_pos rfl]
theorem a_3 {H:Hp}{a b:Addr}{o:HO} (h:b≠a):upd H a o b=H b:=by unfold upd;rw[if_neg h]
theorem upd_upd {H:Hp}{a:Addr}{o u:HO}:upd (upd H a o) a u=upd H a u:=by
 funext b;unfold upd;split <;> rfl
theorem br8 {H:Hp}{a b:Addr}{o u:HO} (h:H a=some o) (h':H b=some u) (d:o≠u):a≠b:=by
 intro e;subst e;rw[h] at h';exact d (qi h')
theorem a_6 {H:Hp}{a b:Addr}{o:HO} (h:H a=some o) (h':H b=none):a≠b:=by
 intro e;subst e;rw[h] at h';cases h'
noncomputable def IsTuN (h:Heap) (a:Addr) (items:Array Value):Prop:=∃ o,h.get? a=some o ∧ o.cls=.type "tuple" ∧ (∃ n,o.data=.seq items n) ∧ o.dict=none
theorem IsTuN.tup {h:Heap}{a:Addr}{items:Array Value} (x:IsTuN h a items):IsTup h a items:=let ⟨o,p,q,⟨n,r⟩,_⟩:=x;⟨o,p,q,n,r⟩
theorem IsTuN.new (h:Heap) (items:Array Value):IsTuN (h.push {cls:=.type "tuple",data:=.seq items}) h.objs.size items:=⟨_,qk _ rfl,rfl,⟨0,rfl⟩,rfl⟩
section
variable (P:Program) (w:World)
noncomputable def ObjOk (H:Hp) (h:Heap) (a:Addr):HO->Prop
 |.lst xs=>xs.length ≤ sizeLine ∧ ∃ (O:List Value) (n:Nat),Vals xs O ∧ h.get? a=some {cls:=.type "list",data:=.seq O.toArray n}
 |.tup xs=>xs.length<=sizeLine/\∃ O:List Value,Vals xs O/\IsTuN h a O.toArray
 |.dK kvs=>kvs.length<=sizeLine/\(a==sysModules)=false/\∃ vs,KV kvs vs/\h.DictOf (c_0 P w) a vs
 |.dT kvs=>kvs.length<=sizeLine/\(a==sysModules)=false/\∃ xs:List (List Key×Addr×Value),
   Paired (λ (p:List Key×V) (q:List Key×Addr×Value)=>p.1=q.1/\H q.2.1=some (.tup (p.1.map kV))/\RelV p.2 q.2.2) kvs xs /\
   ∃ o es ep,h.get? a=some o/\o.ExactDict/\o.data=.dict es ep/\es.toList=xs.map (entryOfKey (tupleKind (c_0 P w)))/\(xs.map (·.1)).Nodup
 |.set S n=>h.SetOf (intKind P w) a S n
 |.ins C Z fs=>H Z=some (.own a)/\fs.length<=1000/\Z≠a/\h.get? a=some (PySem.W.instObj C Z) /\
   ∃ Y,h.Ns1 Z Y/\(∀ f,RelO (fs.lookup f) (Y f))/\PySem.Within Y (fs.map (·.1))
 |.own _=>∃ o,h.get? a=some o
 |.xd fs=>∃ Y,h.Ns1 a Y/\∀ f,RelO (fs.lookup f) (Y f)
 |.rng lo hi=>∃ t u v,h.get? a=some {cls:=.type "range",data:=.fields #[.int lo t,.int hi u,.int 1 v]}
 |.frz o u=>h.get? a=some o/\ObjOk H h a u
 |.tbl ps=>h.get? a=some {cls:=.none,data:=.fields ps}
 |.met f x=>h.get? a=some (PySem.W.methodObj (.ref f) (.ref x))
 |.ext φ=>φ h/\(∃ o,h.get? a=some o)/\∀ h1 h2:Heap,φ h1->(∀ o,h1.get? a=some o->h2.get? a=some o)->φ h2
noncomputable def HOk (H:Hp) (h:Heap):Prop:=∀ a o,H a=some o->ObjOk P w H h a o
end
section
variable {P:Program}{w:World}{H H':Hp}{h h':Heap}{a:Addr}{o:HO}
theorem ObjOk.lt (x:ObjOk P w H h a o):a<h.objs.size:=by
 cases o with
 |lst xs=>obtain⟨_,_,_,_,e⟩:=x;exact qm e
 |tup xs=>obtain⟨_,_,_,p⟩:=x;exact p.tup.lt
 |dK kvs=>obtain⟨_,_,_,_,o,_,_,e,_⟩:=x;exact qm e
 |dT kvs=>obtain⟨_,_,_,_,o,_,_,e,_⟩:=x;exact qm e
 |set S n=>obtain⟨o,_,_,_,e,_⟩:=x;exact qm e
 |ins C O fs=>obtain⟨_,_,_,e,_⟩:=x;exact qm e
 |own y=>obtain⟨_,e⟩:=x;exact qm e
 |xd fs=>obtain⟨_,⟨_,_,_,e,_⟩,_⟩:=x;exact qm e
 |rng lo hi=>obtain⟨_,_,_,e⟩:=x;exact qm e
 |frz ob u=>obtain⟨e,_⟩:=x;exact qm e
 |tbl ps=>exact qm (show h.get? a=some _ from x)
 |met f y=>exact qm (show h.get? a=some _ from x)
 |ext Y=>obtain⟨_,⟨_,e⟩,_⟩:=x;exact qm e
theorem Paired.mapP {α Z:Type}{F G:α->Z->Prop}:∀ {O:List α}{Y:List Z},Paired F O Y->(∀ a b,F a b->G a b)->Paired G O Y
 |[],_,h,_=>by cases h;exact .nil
 |x::l,_,h,f=>by
  cases h with
  |cons r t=>exact .cons (f _ _ r) (Paired.mapP t f)
theorem ObjOk.stay (x:ObjOk P w H h a o) (k:∀ b u,(b=a\/H b=some (.own a))->h.get? b=some u->h'.get? b=some u)
  (ho:∀ b,H b=some (.own a)->H' b=some (.own a)) (ht:∀ b xs,H b=some (.tup xs)->H' b=some (.tup xs)):ObjOk P w H' h' a o:=by
 induction o with
 |lst xs=>obtain⟨z,O,n,r,e⟩:=x;exact⟨z,O,n,r,k _ _ (.inl rfl) e⟩
 |tup xs=>obtain⟨z,O,r,ob,e,c⟩:=x;exact⟨z,O,r,ob,k _ _ (.inl rfl) e,c⟩
 |dK kvs=>obtain⟨z,y,vs,r,ob,es,ep,e,c⟩:=x;exact⟨z,y,vs,r,ob,es,ep,k _ _ (.inl rfl) e,c⟩
 |dT kvs =>
  obtain⟨z,y,xs,r,ob,es,ep,e,c⟩:=x;exact⟨z,y,xs,Paired.mapP r λ p q z=>⟨z.1,ht _ _ z.2.1,z.2.2⟩,ob,es,ep,k _ _ (.inl rfl) e,c⟩
 |set S n=>obtain⟨ob,es,ep,t,e,c⟩:=x;exact⟨ob,es,ep,t,k _ _ (.inl rfl) e,c⟩
 |ins C dx fs =>
  obtain⟨d,z,ne,e,Y,⟨Z,es,ep,e2,c⟩,r⟩:=x;exact⟨ho _ d,z,ne,k _ _ (.inl rfl) e,Y,⟨Z,es,ep,k _ _ (.inr d) e2,c⟩,r⟩
 |own y=>obtain⟨ob,e⟩:=x;exact⟨ob,k _ _ (.inl rfl) e⟩
 |xd fs=>obtain⟨Y,⟨Z,es,ep,e,c⟩,r⟩:=x;exact⟨Y,⟨Z,es,ep,k _ _ (.inl rfl) e,c⟩,r⟩
 |rng lo hi=>obtain⟨t,u,v,e⟩:=x;exact⟨t,u,v,k _ _ (.inl rfl) e⟩
 |frz ob u ih=>obtain⟨e,q⟩:=x;exact⟨k _ _ (.inl rfl) e,ih q⟩
 |tbl ps =>
  have e:h.get? a=some {cls:=.none,data:=.fields ps}:=x;show h'.get? a=some {cls:=.none,data:=.fields ps};exact k a _ (.inl rfl) e
 |met f y =>
  have e:h.get? a=some (PySem.W.methodObj (.ref f) (.ref y)):=x;show h'.get? a=some (PySem.W.methodObj (.ref f) (.ref y));exact k a _ (.inl rfl) e
 |ext φ=>obtain⟨p,⟨o,e⟩,st⟩:=x;exact⟨st _ _ p λ o q=>k _ _ (.inl rfl) q,⟨o,k _ _ (.inl rfl) e⟩,st⟩
theorem HOk.lt (x:HOk P w H h) (e:H a=some o):a<h.objs.size:=(x a o e).lt
theorem HOk.fresh (x:HOk P w H h) (e:h.objs.size<=a):H a=none:=by
 cases q:H a with
 |none=>rfl
 |some u=>exact absurd (qq (x.lt q) e) (Nat.lt_irrefl _)
theorem HOk.kept (x:HOk P w H h) (k:∀ b u,h.get? b=some u->h'.get? b=some u):HOk P w H h':=λ a o e =>
 (x a o e).stay (λ b u _ q=>k b u q) (λ _ q=>q) λ _ _ q=>q
theorem HOk.laid (x:HOk P w H h) (k:∀ b u,h.get? b=some u->h'.get? b=some u) (Z:h.objs.size<=a) (new:ObjOk P w (upd H a o) h' a o):HOk P w (upd H a o) h':=λ b u e=>by
 have O:=x.fresh Z
 by_cases Y:b=a
 ·subst Y;rw[a_2] at e;cases e;exact new
 ·rw[a_3 Y] at e
  exact (x b u e).stay (λ c v _ q=>k c v q) (λ c q=>by rw[a_3 (a_6 q O)];exact q) λ c xs q=>by rw[a_3 (a_6 q O)];exact q
end
noncomputable def Rd (H:Hp) (a:Addr) (u:HO):Prop:=H a=some u\/∃ o,H a=some (.frz o u)
theorem Rd.of {H:Hp}{a:Addr}{u:HO} (h:H a=some u):Rd H a u:=.inl h
theorem Rd.ok {P:Program}{w:World}{H:Hp}{h:Heap}{a:Addr}{u:HO} (r:Rd H a u) (x:HOk P w H h):ObjOk P w H h a u:=by
 rcases r with r | ⟨o,r⟩
 ·exact x a u r
 ·obtain⟨_,q⟩:=x a _ r
  exact q
noncomputable def Mut:Option HO->Prop
 |some (.lst _)=>True
 |some (.dK _)=>True
 |some (.dT _)=>True
 |some (.set _ _)=>True
 |some (.ins _ _ _)=>True
 |some (.ext _)=>True
 |_=>False
section
variable {P:Program}{w:World}{H:Hp}{h h':Heap}{x e:Addr}{o':HO}
theorem HOk.write (ok:HOk P w H h) (mu:Mut (H x)) (he:e=x\/H e=some (.own x)) (k:∀ b u,b≠e->h.get? b=some u->h'.get? b=some u) (aa:∃ u,h'.get? e=some u)
  (new:ObjOk P w (upd H x o') h' x o'):HOk P w (upd H x o') h':=λ b u q=>by
 have Y:∀ c y,H c=some (.own y)->c≠x:=λ c y r z=>by subst z;rw[r] at mu;exact mu
 have Z:∀ c xs,H c=some (.tup xs)->c≠x:=λ c xs r z=>by subst z;rw[r] at mu;exact mu
 by_cases hb:b=x
 ·subst hb;rw[a_2] at q;cases q;exact new
 ·rw[a_3 hb] at q
  by_cases O:b=e
  ·have q':H b=some (.own x):=by
    rcases he with z | z
    ·exact absurd (O.trans z) hb
    ·rw[O];exact z
   rw[q] at q';cases q';obtain⟨v,hv⟩:=aa;exact⟨v,by rw[O];exact hv⟩
  ·refine (ok b u q).stay (λ c v hc r=>k c v ?_ r) (λ c r=>by rw[a_3 (Y c b r)];exact r) λ c xs r=>by rw[a_3 (Z c xs r)];exact r
   rcases hc with rfl | hc
   ·exact O
   ·rintro rfl
    rcases he with z | z
    ·exact Y c b hc z
    ·rw[hc] at z;cases z;exact hb rfl
end
structure Un (fs ex:List Addr) (H H':Hp) (h h':Heap):Prop where
 keep:∀ b o,h.get? b=some o->H b=none->b∉fs->b∉ex->h'.get? b=some o
 slot:∀ b o,h.get? b=some o->H b=none->b∈fs->b∉ex->∃ sl,h'.get? b=some {o with slots:=sl}
 free:∀ b o,h.get? b=some o->H b=none->b∉ex->H' b=none
 there:∀ b o,h.get? b=some o->b∉ex->∃ o',h'.get? b=some o'
 tups:∀ b xs,H b=some (.tup xs)->H' b=some (.tup xs)
 frzs:∀ b o u,H b=some (.frz o u)->H' b=some (.frz o u)
 tbls:∀ b ps,H b=some (.tbl ps)->∃ more,H' b=some (.tbl (ps++more))
section
variable {fs fs' ex ex':List Addr}{H H1 H2:Hp}{h h1 h2 h':Heap}{a x e:Addr}{o:HO}
theorem Un.any (u:Un fs ex H H1 h h1) {b:Addr}{ob:Obj} (q:h.get? b=some ob) (n:H b=none) (O:b∉ex):∃ Z,h1.get? b=some {ob with slots:=Z}:=by
 by_cases Y:b∈fs
 ·exact u.slot b ob q n Y O
 ·exact⟨ob.slots,u.keep b ob q n Y O⟩
theorem Un.kept (k:∀ b u,h.get? b=some u->h'.get? b=some u):Un fs ex H H h h' :=
 ⟨λ b ob q _ _ _=>k b ob q,λ b ob q _ _ _=>⟨ob.slots,k b ob q⟩,λ _ _ _ n _=>n,λ b ob q _=>⟨ob,k b ob q⟩,λ _ _ q=>q,λ _ _ _ q=>q,λ _ ps q=>⟨#[],by rw[q];simp⟩⟩
theorem Un.refl:Un fs ex H H h h:=Un.kept λ _ _ q=>q
theorem Un.laid (k:∀ b u,h.get? b=some u->h'.get? b=some u) (Y:h.objs.size<=a) (O:H a=none):Un fs ex H (upd H a o) h h' where
 keep:=λ b u q _ _ _=>k b u q
 slot:=λ b u q _ _ _=>⟨u.slots,k b u q⟩
 free:=λ b u q n _=>by rw[a_3 (Nat.ne_of_lt (Nat.lt_of_lt_of_le (Heap.lt_size q) Y))];exact n
 there:=λ b u q _=>⟨u,k b u q⟩
 tups:=λ b xs q=>by rw[a_3 (a_6 q O)];exact q
 frzs:=λ b u xs q=>by rw[a_3 (a_6 q O)];exact q
 tbls:=λ b ps q=>⟨#[],by rw[a_3 (a_6 q O),q];simp⟩
theorem Un.write (Y:Mut (H x)) (he:e=x\/H e=some (.own x)) (k:∀ b u,b≠e->h.get? b=some u->h'.get? b=some u) (aa:∃ u,h'.get? e=some u):Un fs ex H (upd H x o) h h':=by
 have hx:∀ b,H b=none->b≠x:=λ b n z=>by subst z;rw[n] at Y;exact Y
 have hb:∀ b,H b=none->b≠e:=λ b n z=>by
  subst z
  rcases he with r | r
  ·exact hx b n r
  ·rw[n] at r;cases r
 have Z:∀ b u,H b=some u->¬ Mut (some u)->b≠x:=λ b u q nm z=>by subst z;rw[q] at Y;exact nm Y
 refine⟨λ b u q n _ _=>k b u (hb b n) q,λ b u q n _ _=>⟨u.slots,k b u (hb b n) q⟩,λ b u q n _=>by rw[a_3 (hx b n)];exact n,λ b u q _=>?_,
  λ b xs q=>by rw[a_3 (Z b _ q λ z=>z)];exact q,λ b u xs q=>by rw[a_3 (Z b _ q λ z=>z)];exact q,λ b ps q=>⟨#[],by rw[a_3 (Z b _ q λ z=>z),q];simp⟩⟩
 by_cases O:b=e
 ·subst O;exact aa
 ·exact⟨u,k b u O q⟩
theorem Un.mono (u:Un fs ex H H1 h h1) (Z:∀ b∈fs,b∈fs') (Y:∀ b∈ex,b∈ex'):Un fs' ex' H H1 h h1 :=
 ⟨λ b ob q n hb O=>u.keep b ob q n (λ z=>hb (Z b z)) λ z=>O (Y b z),λ _ _ q n _ O=>u.any q n λ z=>O (Y _ z),λ b ob q n O=>u.free b ob q n λ z=>O (Y b z),λ b ob q O=>u.there b ob q λ z=>O (Y b z),u.tups,u.frzs,u.tbls⟩
end
noncomputable def trk (h:Heap) (H:Hp):List Addr:=(List.range h.objs.size).filter λ a=>(H a).isSome
noncomputable def au5 (h:Heap) (H:Hp):Heap:=PySem.W.hideAll h (trk h H)
theorem aj5 (h:Heap) (H:Hp):(au5 h H).objs.size=h.objs.size:=PySem.W.hideAll_size _ _
theorem au4 {h:Heap}{H:Hp}{b:Addr}{o:Obj} (e:h.get? b=some o) (n:H b=none):(au5 h H).get? b=some o :=
 PySem.W.hideAll_get _ e λ O=>by
  have q:(H b).isSome=true:=(List.mem_filter.mp O).2;rw[n] at q;simp at q
theorem aK9 {h:Heap}{H:Hp}{b:Addr}{o:Obj} (e:(au5 h H).get? b=some o):h.get? b=some o/\H b=none:=by
 have O:h.get? b=some o:=PySem.W.of_hideAll (trk h H) e;refine⟨O,?_⟩;cases q:H b with
 |none=>rfl
 |some x =>
  have Y:b∈trk h H:=List.mem_filter.mpr ⟨List.mem_range.mpr (qm O),by simp[q]⟩
  have z:(au5 h H).get? b=none:=PySem.W.hideAll_none (trk h H) Y;rw[z] at e;cases e
noncomputable def aQ8 (g h:Heap) (L:Addr):List (Addr×Obj):=(List.range h.objs.size).filterMap λ a=>if a=L\/(g.get? a).isSome=true then none else (h.get? a).map λ o=>(a,o)
noncomputable def rest (g h:Heap) (L d:Addr):List (Addr×Obj):=(aQ8 g h L).filter λ p=>decide (p.1≠d)
structure Mod (K:Frag) (mg:Str->Option Value) (base:Heap):Prop where
 kin:K.In base
 glob:base.Ns mainGlobals mg
 blt:∃ mb,base.Ns builtinsNs mb ∧ ∀ x:Str,x≠"__name__" → mb x=bootBuiltins x
 nolimit:base.NoLimit
structure Cx where
 prog:Program
 w:World
 K:Frag
 mg:Str->Option Value
 base:Heap
 A:Around
 N:List Str
 s₀:Shared
 H₀:Hp
 env:Env
 outer:List Env
 stack:List Env
 ex:List Addr
 fn:Str->Bool
 calm:Bool
 pn:List (Addr×Obj)
 xe:Value->Shared->Prop
noncomputable def frs (l:List Env):List Addr:=l.filterMap (·.frame)
abbrev Cx.fs (X:Cx):List Addr:=frs X.outer
noncomputable def Vis (sc:Scope) (x:Str):Prop:=sc.names.lookup x=some .local\/sc.names.lookup x=some .cell\/sc.names.lookup x=some .free
noncomputable def Loc (sc:Scope) (x:Str):Prop:=sc.names.lookup x=some .local\/sc.names.lookup x=some .cell
noncomputable def bP1 (env:Env) (h:Heap) (m:Str->Option Value) (x:Str) (u:Value):Prop :=
 (env.kindOf x=some .local/\m x=some u)\/((env.kindOf x=some .cell\/env.kindOf x=some .free)/\∃ c,env.cells.lookup x=some c/\h.IsCell c (some u))
structure Cx.Ok (X:Cx):Prop where
 mod:Mod X.K X.mg X.base
 kind:X.env.scope.kind=.function
 glob:X.env.globals=mainGlobals
 blt:X.env.builtins=builtinsNs
 above:X.s₀.heap.objs.size<=X.env.locals
 inj:∀ x y c,X.env.cells.lookup x=some c->X.env.cells.lookup y=some c->x=y
 has:∀ x,(X.env.kindOf x=some .cell\/X.env.kindOf x=some .free)->∃ c,X.env.cells.lookup x=some c
 cab:∀ x c,X.fn x=true->X.env.cells.lookup x=some c->X.s₀.heap.objs.size<=c
 hd:X.calm=true->X.A.handled=none
 frames:X.A.frames=some X.stack
 stk:X.stack=X.outer\/(X.stack=X.env::X.outer/\X.env.frame=some X.env.locals)
 exf:∀ b∈X.ex,b≠X.env.locals/\∀ x c,X.env.cells.lookup x=some c->c≠b
 bs:∀ b o,X.base.get? b=some o->X.s₀.heap.get? b=some o/\X.H₀ b=none
 bsz:X.base.objs.size<=X.s₀.heap.objs.size
 noex:∀ b o,X.base.get? b=some o->b∉X.ex
 exfs:∀ b∈X.ex,b∉X.fs
 funs:X.s₀.heap.FunFrames X.base X.outer
 frf:∀ b∈X.fs,X.H₀ b=none
structure Inv (X:Cx) (pins:List (Addr×Obj)) (σ:List (Option V)) (H:Hp) (s:Shared):Prop where
 ok:X.Ok
 os:s.os=X.s₀.os
 bare:AllBare s.gens
 base:Un X.fs X.ex X.H₀ H X.s₀.heap s.heap
 loc:∃ m,s.heap.Ns X.env.locals m/\∀ (i:Nat) (x:Str) (v:V),X.N[i]?=some x->σ[i]?=some (some v)->Vis X.env.scope x->∃ u,RelV v u/\bP1 X.env s.heap m x u
 cell:∀ x c,X.env.cells.lookup x=some c->∃ v,s.heap.IsCell c v
 free:H X.env.locals=none
 freeC:∀ x c,X.env.cells.lookup x=some c->H c=none
 pin:∀ p∈X.pn++pins,s.heap.get? p.1=some p.2/\H p.1=none/\p.1≠X.env.locals/\p.1∉X.fs/\∀ v,p.2.data≠.cell v
 hok:HOk X.prog X.w H s.heap
 len:σ.length=X.N.length
section
variable {X:Cx}{pins:List (Addr×Obj)}{σ:List (Option V)}{H H':Hp}{s:Shared}{h':Heap}
theorem Cx.Ok.nofr (ok:X.Ok) {b:Addr}{o:Obj} (e:X.base.get? b=some o):b∉X.fs:=λ O=>by
 have:=(ok.funs.mem O).1;rw[e] at this;cases this
theorem Inv.bs (I:Inv X pins σ H s):∀ b o,X.base.get? b=some o->s.heap.get? b=some o/\H b=none:=λ b o e =>
 ⟨I.base.keep b o (I.ok.bs b o e).1 (I.ok.bs b o e).2 (I.ok.nofr e) (I.ok.noex b o e),I.base.free b o (I.ok.bs b o e).1 (I.ok.bs b o e).2 (I.ok.noex b o e)⟩
theorem Inv.bk (I:Inv X pins σ H s):∀ b o,X.base.get? b=some o->s.heap.get? b=some o:=λ b o e=>(I.bs b o e).1
theorem Inv.mod (I:Inv X pins σ H s):Mod X.K X.mg X.base:=I.ok.mod
theorem Inv.kIn (I:Inv X pins σ H s):X.K.In s.heap:=I.ok.mod.kin.keeps I.bk
theorem Inv.nolimit (I:Inv X pins σ H s):s.heap.NoLimit:=I.ok.mod.nolimit.keeps I.bk
theorem Inv.fr (I:Inv X pins σ H s):∃ m,Fr X.base X.env.locals s.heap m :=
 let ⟨m,hn,_⟩:=I.loc
 ⟨m,hn,I.bk,Nat.le_trans I.ok.bsz I.ok.above⟩
theorem Inv.lt (I:Inv X pins σ H s):X.env.locals<s.heap.objs.size:=let ⟨_,hn,_⟩:=I.loc;hn.lt
theorem Inv.sz (I:Inv X pins σ H s):X.s₀.heap.objs.size<=s.heap.objs.size:=Nat.le_trans I.ok.above (Nat.le_of_lt I.lt)
theorem Inv.nofs (I:Inv X pins σ H s) {a:Addr} (h:s.heap.objs.size<=a):a∉X.fs:=λ O=>by
 obtain⟨_,o,ho,_⟩:=I.ok.funs.mem O;exact absurd (qq (qm ho) (Nat.le_trans I.sz h)) (Nat.lt_irrefl _)
theorem Inv.cne (I:Inv X pins σ H s):∀ x c,X.env.cells.lookup x=some c->c≠X.env.locals:=λ x c e z=>by
 obtain⟨v,o,ho,hd⟩:=I.cell x c e;obtain⟨m,⟨o',es,ep,O,Y,_⟩,_⟩:=I.loc;rw[z,O] at ho;cases ho;rw[Y] at hd;cases hd
theorem Inv.funs (I:Inv X pins σ H s):s.heap.FunFrames X.base X.outer:=by
 have all:∀ (l:List Env),(∀ b∈frs l,b∈X.fs)->X.s₀.heap.FunFrames X.base l->s.heap.FunFrames X.base l:=by
  intro l
  induction l with
  |nil=>intro _ _;trivial
  |cons env r ih =>
   intro hs hl;obtain⟨hk,⟨L,o,Z,hn,ho,hd⟩,hr⟩:=hl;have O:L∈X.fs:=hs L (by unfold frs;rw[List.filterMap_cons,Z];exact qf)
   obtain⟨sl,e⟩:=I.base.slot L o ho (I.ok.frf L O) O λ z=>I.ok.exfs L z O
   exact⟨hk,⟨L,_,Z,hn,e,hd⟩,ih (λ b Y=>hs b (by unfold frs;rw[List.filterMap_cons,Z];exact qg _ Y)) hr⟩
 exact all X.outer (λ _ Y=>Y) I.ok.funs
theorem Inv.stack (I:Inv X pins σ H s):s.heap.FunFrames X.base X.stack:=by
 rcases I.ok.stk with e | ⟨e,hf⟩
 ·rw[e];exact I.funs
 ·rw[e]
  obtain⟨m,O,_⟩:=I.loc;refine .cons (by rw[I.ok.kind];decide) hf O ?_ I.funs
  exact Heap.get?_none_of_le (Nat.le_trans I.ok.bsz I.ok.above)
theorem Inv.stkSub (I:Inv X pins σ H s):∀ b∈frs X.stack,b∈X.env.locals::X.fs:=λ b O=>by
 rcases I.ok.stk with e | ⟨e,hf⟩
 ·rw[e] at O;exact qg _ O
 ·rw[e] at O
  unfold frs at O;rw[List.filterMap_cons,hf] at O;exact O
theorem Inv.stkFree (I:Inv X pins σ H s):∀ b∈frs X.stack,H b=none:=λ b O=>by
 rcases qt (I.stkSub b O) with e | O
 ·rw[e];exact I.free
 ·obtain⟨_,o,ho,_⟩:=I.ok.funs.mem O
  exact I.base.free b o ho (I.ok.frf b O) λ z=>I.ok.exfs b z O
theorem Inv.step {g':Array GenState}{t':Nat}{d':Drawn}{ch:List Addr} (I:Inv X pins σ H s)
  (Y:∀ b∈ch,(b∈X.ex\/X.s₀.heap.objs.size<=b)/\b≠X.env.locals/\(∀ x c,X.env.cells.lookup x=some c->c≠b)/\∀ p∈X.pn++pins,p.1≠b)
  (keep:∀ b o,b≠X.env.locals->b∉X.fs->b∉ch->s.heap.get? b=some o->H b=none->h'.get? b=some o)
  (slot:∀ b o,b≠X.env.locals->b∈X.fs->b∉ch->s.heap.get? b=some o->H b=none->∃ sl,h'.get? b=some {o with slots:=sl}) (free:∀ b o,b∉ch->s.heap.get? b=some o->H b=none->H' b=none)
  (there:∀ b o,b∉ch->s.heap.get? b=some o->∃ o',h'.get? b=some o')
  (tups:∀ b xs,H b=some (.tup xs)->H' b=some (.tup xs)) (frzs:∀ b o u,H b=some (.frz o u)->H' b=some (.frz o u)) (tbls:∀ b ps,H b=some (.tbl ps)->∃ ad,H' b=some (.tbl (ps++ad)))
  (ns:∀ m,s.heap.Ns X.env.locals m->h'.Ns X.env.locals m) (ag:HOk X.prog X.w H' h') (hg:AllBare g') :
  Inv X pins σ H' {s with heap:=h',gens:=g',drawn:=d',toks:=t'}:=by
 have ac:∀ b o,X.s₀.heap.get? b=some o->b≠X.env.locals:=λ b o e=>qr (qq (qm e) I.ok.above)
 have ab:∀ b o,X.s₀.heap.get? b=some o->b∉X.ex->b∉ch:=λ b o e O hb=>by
  rcases (Y b hb).1 with z | z
  ·exact O z
  ·exact absurd (qq (qm e) z) (Nat.lt_irrefl _)
 have Z:∀ x c,X.env.cells.lookup x=some c->∀ v,s.heap.IsCell c v->h'.IsCell c v:=λ x c e v ae=>by
  obtain⟨o,ho,hd⟩:=ae;have aa:c∉ch:=λ z=>(Y c z).2.2.1 x c e rfl
  by_cases hc:c∈X.fs
  ·obtain⟨sl,q⟩:=slot c o (I.cne x c e) hc aa ho (I.freeC x c e)
   exact⟨_,q,hd⟩
  ·exact⟨o,keep c o (I.cne x c e) hc aa ho (I.freeC x c e),hd⟩
 refine⟨I.ok,I.os,hg,⟨λ b o e n hb O=>?_,λ b o e n hb O=>?_,λ b o e n O=>?_,λ b o e O=>?_,λ b xs e=>tups b xs (I.base.tups b xs e),λ b o xs e=>frzs b o xs (I.base.frzs b o xs e),λ b ps e=>?_⟩,?_,λ x c e=>?_,?_,λ x c e=>?_,λ p hp=>?_,ag,I.len⟩
 ·exact keep b o (ac b o e) hb (ab b o e O) (I.base.keep b o e n hb O) (I.base.free b o e n O)
 ·obtain⟨sl,e1⟩:=I.base.slot b o e n hb O
  obtain⟨af,e2⟩:=slot b _ (ac b o e) hb (ab b o e O) e1 (I.base.free b o e n O);exact⟨af,e2⟩
 ·obtain⟨o',e1⟩:=I.base.there b o e O
  exact free b o' (ab b o e O) e1 (I.base.free b o e n O)
 ·obtain⟨o',e1⟩:=I.base.there b o e O
  exact there b o' (ab b o e O) e1
 ·obtain⟨m1,e1⟩:=I.base.tbls b ps e
  obtain⟨m2,e2⟩:=tbls b _ e1;exact⟨m1++m2,by rw[e2,Array.append_assoc]⟩
 ·obtain⟨m,hn,hl⟩:=I.loc
  refine⟨m,ns m hn,λ i x v e1 e2 e3=>?_⟩
  obtain⟨u,r,l⟩:=hl i x v e1 e2 e3;refine⟨u,r,?_⟩
  rcases l with l | ⟨k,c,e,z⟩
  ·exact .inl l
  ·exact .inr ⟨k,c,e,Z x c e _ z⟩
 ·obtain⟨v,z⟩:=I.cell x c e
  exact⟨v,Z x c e v z⟩
 ·obtain⟨m,⟨o,_,_,ho,_⟩,_⟩:=I.loc
  exact free _ o (λ z=>(Y _ z).2.1 rfl) ho I.free
 ·obtain⟨v,o,ho,hd⟩:=I.cell x c e
  exact free c o (λ z=>(Y c z).2.2.1 x c e rfl) ho (I.freeC x c e)
 ·obtain⟨e,n,ne,nf,d⟩:=I.pin p hp
  have aa:p.1∉ch:=λ z=>(Y p.1 z).2.2.2 p hp rfl
  exact⟨keep p.1 p.2 ne nf aa e n,free p.1 p.2 aa e n,ne,nf,d⟩
theorem Inv.un {t':Nat} (I:Inv X pins σ H s) (u:Un X.fs [] H H' s.heap h') (ab:HOk X.prog X.w H' h'):Inv X pins σ H' {s with heap:=h',toks:=t'}:=by
 obtain⟨m,⟨o,es,ep,ho,r⟩,_⟩:=id I.loc;obtain⟨sl,hL⟩:=u.any ho I.free (by simp)
 exact I.step (g':=s.gens) (d':=s.drawn) (ch:=[]) (λ _ z=>nomatch z) (λ b o _ Y _ e n=>u.keep b o e n Y (by simp)) (λ b o _ Y _ e n=>u.slot b o e n Y (by simp)) (λ b o _ e n=>u.free b o e n (by simp)) (λ b o _ e=>u.there b o e (by simp)) u.tups u.frzs u.tbls (λ m' hm=>by
  obtain⟨o',Z,aa,O,r'⟩:=hm;rw[ho] at O;cases O;exact⟨_,Z,aa,hL,r'⟩) ab I.bare
theorem Inv.call {g':Array GenState}{t':Nat}{d':Drawn}{ch:List Addr} (I:Inv X pins σ H s) (u:Un (frs X.stack) ch H H' s.heap h') (ac:HOk X.prog X.w H' h') (hg:AllBare g')
  (Z:∀ b∈ch,(b∈X.ex\/X.s₀.heap.objs.size<=b)/\b≠X.env.locals/\(∀ x c,X.env.cells.lookup x=some c->c≠b)/\∀ p∈X.pn++pins,p.1≠b) :
  Inv X pins σ H' {s with heap:=h',gens:=g',drawn:=d',toks:=t'}:=by
 obtain⟨m,⟨o,es,ep,ho,r⟩,_⟩:=id I.loc;obtain⟨sl,hL⟩:=u.any ho I.free λ z=>(Z _ z).2.1 rfl
 exact I.step (ch:=ch) Z (λ b o hL hb O e n=>u.keep b o e n (λ z=>(qt (I.stkSub b z)).elim hL hb) O) (λ b o _ _ O e n=>u.any e n O) (λ b o O e n=>u.free b o e n O) (λ b o O e=>u.there b o e O) u.tups u.frzs u.tbls (λ m' hm=>by
  obtain⟨o',aa,ab,Y,r'⟩:=hm;rw[ho] at Y;cases Y;exact⟨_,aa,ab,hL,r'⟩) ac hg
theorem Inv.turned {t':Nat}{it:Addr} (I:Inv X pins σ H s) (k:∀ b o,b≠it->s.heap.get? b=some o->h'.get? b=some o) (hn:H it=none) (Z:it≠X.env.locals)
  (h1:it∈X.ex\/X.s₀.heap.objs.size<=it) (h2:∀ x c,X.env.cells.lookup x=some c->c≠it) (h3:∀ p∈X.pn++pins,p.1≠it):Inv X pins σ H {s with heap:=h',toks:=t'}:=by
 have Y:∀ b u,H b=some u->b≠it:=λ b u e z=>by rw[z,hn] at e;cases e
 refine I.step (g':=s.gens) (d':=s.drawn) (ch:=[it]) (λ b hb=>?_) (λ b o _ _ O e _=>k b o (λ z=>O (by simp[z])) e) (λ b o _ _ O e _=>⟨o.slots,k b o (λ z=>O (by simp[z])) e⟩) (λ _ _ _ _ n=>n)
  (λ b o O e=>⟨o,k b o (λ z=>O (by simp[z])) e⟩) (λ _ _ e=>e) (λ _ _ _ e=>e) (λ b ps e=>⟨#[],by rw[e];simp⟩) (λ m hm=>?_) (λ b u e=>?_) I.bare
 ·have e:b=it:=by simpa using hb
  subst e;exact⟨h1,Z,h2,h3⟩
 ·obtain⟨o,es,ep,ho,r⟩:=hm
  exact⟨o,es,ep,k _ o (Ne.symm Z) ho,r⟩
 ·refine (I.hok b u e).stay (λ c v O q=>k c v ?_ q) (λ _ q=>q) λ _ _ q=>q
  rcases O with z | z
  ·rw[z];exact Y b u e
  ·exact Y c _ z
theorem Inv.tok (I:Inv X pins σ H s) (t:Nat):Inv X pins σ H {s with toks:=t}:=I.un (h':=s.heap) (t':=t) Un.refl I.hok
theorem Inv.kept {t':Nat} (I:Inv X pins σ H s) (k:∀ b u,s.heap.get? b=some u->h'.get? b=some u):Inv X pins σ H {s with heap:=h',toks:=t'}:=I.un (Un.kept k) (I.hok.kept k)
theorem Inv.laid {a:Addr}{o:HO}{t':Nat} (I:Inv X pins σ H s) (k:∀ b u,s.heap.get? b=some u->h'.get? b=some u) (O:s.heap.objs.size<=a) (new:ObjOk X.prog X.w (upd H a o) h' a o) :
  Inv X pins σ (upd H a o) {s with heap:=h',toks:=t'}:=I.un (Un.laid k O (I.hok.fresh O)) (I.hok.laid k O new)
theorem Inv.write {x e:Addr}{o:HO}{t':Nat} (I:Inv X pins σ H s) (Z:Mut (H x)) (Y:e=x\/H e=some (.own x)) (k:∀ b u,b≠e->s.heap.get? b=some u->h'.get? b=some u) (O:∃ u,h'.get? e=some u)
  (new:ObjOk X.prog X.w (upd H x o) h' x o):Inv X pins σ (upd H x o) {s with heap:=h',toks:=t'}:=I.un (Un.write Z Y k O) (I.hok.write Z Y k O new)
theorem Inv.weak {O:List (Option V)} (I:Inv X pins σ H s) (Y:O.length=σ.length) (w:∀ (i:Nat) v,O[i]?=some (some v)->σ[i]?=some (some v)):Inv X pins O H s :=
 ⟨I.ok,I.os,I.bare,I.base,let ⟨m,hn,hl'⟩:=I.loc;⟨m,hn,λ i x v e1 e2 e3=>hl' i x v e1 (w i v e2) e3⟩,I.cell,I.free,I.freeC,I.pin,I.hok,Y.trans I.len⟩
theorem Inv.pins_of {O:List (Addr×Obj)} (I:Inv X pins σ H s) (h:∀ p∈O,s.heap.get? p.1=some p.2/\H p.1=none/\p.1≠X.env.locals/\p.1∉X.fs/\∀ v,p.2.data≠.cell v):Inv X O σ H s :=
 ⟨I.ok,I.os,I.bare,I.base,I.loc,I.cell,I.free,I.freeC,λ p Y=>(qw Y).elim (λ z=>I.pin p (qp _ z)) (h p),I.hok,I.len⟩
theorem V_9 {N:List Str} (O:N.Nodup) {i j:Nat}{x:Str} (a:N[i]?=some x) (b:N[j]?=some x):i=j:=by
 obtain⟨h1,e1⟩:=List.getElem?_eq_some_iff.mp a;obtain⟨h2,e2⟩:=List.getElem?_eq_some_iff.mp b;exact (List.getElem_inj O).mp (e1.trans e2.symm)
theorem J_5 {M:Model}{A:Around}{E:Value->Shared->Prop}{i:Nat}{x:Str}{v:V}{u:Value}{Q:Unit->Shared->Prop} (I:Inv X pins σ H s) (hN:X.N.Nodup) (hi:X.N[i]?=some x) (hx:Loc X.env.scope x) (r:RelV v u)
  (h:∀ s',Inv X pins (σ.set i (some v)) H s'->(∃ a,Heap.SameBut a s.heap s'.heap/\(a=X.env.locals\/X.env.cells.lookup x=some a))->Q () s') (hf:X.fn x=true\/X.env.scope.names.lookup x=some .local:=by first | exact .inl rfl | exact .inr rfl | assumption):wpAny M A (storeName X.env x u) Q E s:=by
 obtain⟨m,hn,hl⟩:=id I.loc;have ag:(X.env.scope.kind==.class||(X.env.scope.kind==.module&&X.env.locals != X.env.globals))=false:=by rw[I.ok.kind];rfl
 have ab:i<σ.length:=by rw[I.len];exact (List.getElem?_eq_some_iff.mp hi).1
 have cne:=I.cne
 have Y:∀ {a:Addr}{h':Heap},(∃ o,s.heap.get? a=some o/\H a=none)->Heap.SameBut a s.heap h'->HOk X.prog X.w H h':=λ {a h'} ha O b ob e=>by
  obtain⟨_,_,aa⟩:=ha;refine (I.hok b ob e).stay (λ c w' Z q=>(O.2 c ?_).trans q) (λ _ q=>q) λ _ _ q=>q
  rintro rfl
  rcases Z with rfl | Z
  ·rw[aa] at e;cases e
  ·rw[aa] at Z;cases Z
 rcases hx with hk | hk
 ·refine wpAny_storeName_local hk hn (λ h' aj O=>?_) ag
  obtain⟨oL,_,_,ai,_⟩:=id hn;refine h _ ⟨I.ok,I.os,I.bare,⟨λ b o e n hb hx=>?_,λ b o e n hb hx=>?_,I.base.free,λ b o e hx=>?_,I.base.tups,I.base.frzs,I.base.tbls⟩,⟨_,aj,λ j y v' e1 e2 e3=>?_⟩,λ y c e=>?_,I.free,I.freeC,λ p hp=>?_,Y ⟨oL,ai,I.free⟩ O,by simpa using I.len⟩ ⟨_,O,.inl rfl⟩
  ·exact (O.2 b (qr (qq (qm e) I.ok.above))).trans (I.base.keep b o e n hb hx)
  ·obtain⟨sl,e1⟩:=I.base.slot b o e n hb hx
   exact⟨sl,(O.2 b (qr (qq (qm e) I.ok.above))).trans e1⟩
  ·obtain⟨o',e1⟩:=I.base.there b o e hx
   exact⟨o',(O.2 b (qr (qq (qm e) I.ok.above))).trans e1⟩
  ·by_cases hj:j=i
   ·subst hj
    rw[hi] at e1;cases e1;rw[List.getElem?_set_self ab] at e2;cases e2;exact⟨u,r,.inl ⟨hk,by simp⟩⟩
   ·rw[List.getElem?_set_ne (Ne.symm hj)] at e2
    obtain⟨u',r',q⟩:=hl j y v' e1 e2 e3;refine⟨u',r',?_⟩
    rcases q with ⟨k,e⟩ | ⟨k,c,e,z⟩
    ·refine .inl ⟨k,?_⟩
     have:y≠x:=λ e=>hj (V_9 hN e1 (e▸hi))
     simp[this,e]
    ·exact .inr ⟨k,c,e,z.sameBut O (cne y c e)⟩
  ·obtain⟨w',z⟩:=I.cell y c e
   exact⟨w',z.sameBut O (cne y c e)⟩
  ·obtain⟨e,n,ne,nf,d⟩:=I.pin p hp
   exact⟨(O.2 p.1 ne).trans e,n,ne,nf,d⟩
 ·have ac:X.fn x=true:=by
   rcases hf with z | z
   ·exact z
   ·rw[z] at hk;cases hk
  obtain⟨c,Z⟩:=I.ok.has x (.inl hk);obtain⟨w',z⟩:=I.cell x c Z;refine wpAny_storeName_cell I.ok.kind hk Z z (λ h' ad O=>?_)
  obtain⟨oc,ae,af⟩:=id z;refine h {s with heap:=h'} ⟨I.ok,I.os,I.bare,⟨λ b o e n hb hx=>?_,λ b o e n hb hx=>?_,I.base.free,λ b o e hx=>?_,I.base.tups,I.base.frzs,I.base.tbls⟩,⟨m,hn.sameBut O (Ne.symm (cne x c Z)),λ j y v' e1 e2 e3=>?_⟩,λ y c' e=>?_,I.free,I.freeC,λ p hp=>?_,Y ⟨oc,ae,I.freeC x c Z⟩ O,by simpa using I.len⟩ ⟨c,O,.inr Z⟩
  ·exact (O.2 b (qr (qq (qm e) (I.ok.cab x c ac Z)))).trans (I.base.keep b o e n hb hx)
  ·obtain⟨sl,e1⟩:=I.base.slot b o e n hb hx
   exact⟨sl,(O.2 b (qr (qq (qm e) (I.ok.cab x c ac Z)))).trans e1⟩
  ·obtain⟨o',e1⟩:=I.base.there b o e hx
   exact⟨o',(O.2 b (qr (qq (qm e) (I.ok.cab x c ac Z)))).trans e1⟩
  ·by_cases hj:j=i
   ·subst hj
    rw[hi] at e1;cases e1;rw[List.getElem?_set_self ab] at e2;cases e2;exact⟨u,r,.inr ⟨.inl hk,c,Z,ad⟩⟩
   ·rw[List.getElem?_set_ne (Ne.symm hj)] at e2
    obtain⟨u',r',q⟩:=hl j y v' e1 e2 e3;refine⟨u',r',?_⟩
    rcases q with q | ⟨k,c',e,z'⟩
    ·exact .inl q
    ·refine .inr ⟨k,c',e,z'.sameBut O ?_⟩
     rintro rfl;exact hj (V_9 hN e1 (I.ok.inj _ _ _ e Z▸hi))
  ·by_cases ah:c'=c
   ·subst ah;exact⟨_,ad⟩
   ·obtain⟨w2,z2⟩:=I.cell y c' e
    exact⟨w2,z2.sameBut O ah⟩
  ·obtain⟨e,n,ne,nf,d⟩:=I.pin p hp
   refine⟨(O.2 p.1 ?_).trans e,n,ne,nf,d⟩;intro q;rw[q,ae] at e;have q':oc=p.2:=qi e;exact d w' (by rw[<- q'];exact af)
theorem T_9 {M:Model}{A:Around}{E:Value->Shared->Prop}{i:Nat}{x:Str}{v:V}{u:Value}{Q:Unit->Shared->Prop} (I:Inv X pins σ H s) (hN:X.N.Nodup) (hi:X.N[i]?=some x) (Y:Loc X.env.scope x) (r:RelV v u)
  (h:∀ s',Inv X pins (σ.set i (some v)) H s'->Q () s') (Z:X.fn x=true\/X.env.scope.names.lookup x=some .local:=by first | exact .inl rfl | exact .inr rfl | assumption):wpAny M A (storeName X.env x u) Q E s :=
 J_5 I hN hi Y r (λ s' O _=>h s' O) Z
theorem Inv.call' {s':Shared}{ch:List Addr} (I:Inv X pins σ H s) (ho:s'.os=s.os) (u:Un (frs X.stack) ch H H' s.heap s'.heap) (O:HOk X.prog X.w H' s'.heap) (Z:AllBare s'.gens)
  (Y:∀ b∈ch,(b∈X.ex\/X.s₀.heap.objs.size<=b)/\b≠X.env.locals/\(∀ x c,X.env.cells.lookup x=some c->c≠b)/\∀ p∈X.pn++pins,p.1≠b):Inv X pins σ H' s':=by
 obtain⟨h',g',d',t',o'⟩:=s';have e:o'=s.os:=ho;subst e;exact I.call (g':=g') (t':=t') (d':=d') u O Z Y
end
abbrev XK:=Value->Option Addr->Hp->Prop
abbrev St:=List (Option V)
abbrev VK:=V->Hp->Prop
abbrev TE:=St->Hp->VK->Prop
abbrev TT:=St->Hp->(Bool->Hp->Prop)->Prop
abbrev TA:=St->Hp->(List V->Hp->Prop)->Prop
structure Ends where
 nx:St->Hp->Prop
 rt:VK
 bk:St->Hp->Prop:=λ _ _=>False
 ct:St->Hp->Prop:=λ _ _=>False
abbrev TS:=Ends->St->Hp->Prop
noncomputable def EP (X:Cx) (pins:List (Addr×Obj)) (σ:St) (Q:VK) (u:Value) (s':Shared):Prop:=∃ v H',Inv X pins σ H' s'/\RelV v u/\Q v H'
noncomputable def TP (X:Cx) (pins:List (Addr×Obj)) (σ:St) (Q:Bool->Hp->Prop) (b:Bool) (s':Shared):Prop:=∃ H',Inv X pins σ H' s'/\Q b H'
noncomputable def AP (X:Cx) (pins:List (Addr×Obj)) (σ:St) (Q:List V->Hp->Prop) (us:List Value) (s':Shared):Prop:=∃ vs H',Inv X pins σ H' s'/\Vals vs us/\Q vs H'
noncomputable def SP (X:Cx) (pins:List (Addr×Obj)) (D:Ends) (f:Flow) (s':Shared):Prop :=
 match f with
 |.next=>∃ O H',Inv X pins O H' s'/\D.nx O H'
 |.brk=>∃ O H',Inv X pins O H' s'/\D.bk O H'
 |.cont=>∃ O H',Inv X pins O H' s'/\D.ct O H'
 |.ret u=>∃ v O H',Inv X pins O H' s'/\RelV v u/\D.rt v H'
noncomputable def PE (X:Cx) (e:Expr) (t:TE):Prop :=
 ∀ (pins:List (Addr×Obj)) (s:Shared) (σ:St) (H:Hp) (Q:VK),Inv X pins σ H s->t σ H Q->wpAny (model X.prog X.w) X.A (eval e X.env) (EP X pins σ Q) X.xe s
noncomputable def PT (X:Cx) (e:Expr) (t:TT):Prop :=
 ∀ (pins:List (Addr×Obj)) (s:Shared) (σ:St) (H:Hp) (Q:Bool->Hp->Prop),Inv X pins σ H s->t σ H Q->wpAny (model X.prog X.w) X.A (isTrue e X.env (eval e X.env)) (TP X pins σ Q) X.xe s
noncomputable def PW (X:Cx) (e:Expr) (t:TT):Prop :=
 ∀ (O:Sem Value) (pins:List (Addr×Obj)) (s:Shared) (σ:St) (H:Hp) (Q:Bool->Hp->Prop),Inv X pins σ H s->t σ H Q->wpAny (model X.prog X.w) X.A (isTrue e X.env O) (TP X pins σ Q) X.xe s
theorem PW.pt {X:Cx}{e:Expr}{t:TT} (h:PW X e t):PT X e t:=h _
noncomputable def PA (X:Cx) (es:List Expr) (t:TA):Prop :=
 ∀ (pos:Pos) (pins:List (Addr×Obj)) (s:Shared) (σ:St) (H:Hp) (Q:List V->Hp->Prop),Inv X pins σ H s->t σ H Q->wpAny (model X.prog X.w) X.A (spliced (backTo pos (starEach es X.env))) (AP X pins σ Q) X.xe s
noncomputable def PS (X:Cx) (st:Stmt) (t:TS):Prop :=
 ∀ (pins:List (Addr×Obj)) (s:Shared) (σ:St) (H:Hp) (D:Ends),Inv X pins σ H s->t D σ H->wpAny (model X.prog X.w) X.A (exec st X.env) (SP X pins D) X.xe s
noncomputable def PSs (X:Cx) (st:List Stmt) (t:TS):Prop :=
 ∀ (pins:List (Addr×Obj)) (s:Shared) (σ:St) (H:Hp) (D:Ends),Inv X pins σ H s->t D σ H->wpAny (model X.prog X.w) X.A (execs st X.env) (SP X pins D) X.xe s
theorem ex5 {α O:Sort _}{A B C:α->O->Prop}{P:Prop} (h:∀ x y,A x y->B x y->C x y->P) (e:∃ x y,A x y/\B x y/\C x y):P:=by
 obtain⟨x,y,a,b,c⟩:=e;exact h x y a b c
theorem thn {α:Type}{t:Sem α}{Q O:α->Shared->Prop}{M:Model}{A:Around}{E:Value->Shared->Prop}{s:Shared} (h:wpAny M A t Q E s) (Y:∀ a s,Q a s->O a s):wpAny M A t O E s:=wpAny_mono h Y λ _ _ x=>x
section
variable {X:Cx}
theorem bin {a b:Expr}{ta tb:TE} (ha:PE X a ta) (hb:PE X b tb) {pins:List (Addr×Obj)}{s:Shared}{σ:St}{H:Hp}{R:V->V->Hp->Prop} (I:Inv X pins σ H s) (h:ta σ H λ x H1=>tb σ H1 λ y H2=>R x y H2)
  {α:Type}{Q:α->Shared->Prop}{f:Value->Value->Sem α}
  (hf:∀ v u Z x y H2,Inv X pins σ H2 Z->RelV x v->RelV y u->R x y H2->wpAny (model X.prog X.w) X.A (f v u) Q X.xe Z) :
  wpAny (model X.prog X.w) X.A (eval a X.env) (λ v Y=>wpAny (model X.prog X.w) X.A (eval b X.env) (λ u O=>wpAny (model X.prog X.w) X.A (f v u) Q X.xe O) X.xe Y) X.xe s:=by
 refine thn (ha pins s σ H _ I h) λ v s1=>ex5 λ x H1 I1 r1 q1=>?_
 refine thn (hb pins s1 σ H1 _ I1 q1) λ u Z=>ex5 λ y H2 I2 r2 q2=>?_
 exact hf v u Z x y H2 I2 r1 r2 q2
noncomputable def by7 (i:Nat):TE:=λ σ H Q=>∃ v,σ[i]?=some (some v)/\Q v H
noncomputable def tC (v:V):TE:=λ _ H Q=>Q v H
theorem m_7 {i:Nat}{x:Str}{pos:Pos} (Z:X.N[i]?=some x) (hv:Vis X.env.scope x) (hd:(x==("__debug__":Str))=false:=by decide) (Y:(x==("__classdict__":Str))=false:=by decide):PE X (.Name x pos) (by7 i):=by
 intro pins s σ H Q I h;obtain⟨v,e,h⟩:=h;obtain⟨m,hn,hl⟩:=I.loc;obtain⟨u,r,l⟩:=hl i x v Z e hv;have fin:EP X pins σ Q u s:=⟨v,H,I,r,h⟩
 rcases l with ⟨O,hm⟩ | ⟨O,c,hc,hcell⟩
 ·exact wpAny_Name (wpAny_loadName_local I.ok.kind O hn hm fin) hd
 ·rcases O with O | O
  ·exact wpAny_Name (wpAny_loadName_cell I.ok.kind O hc hcell fin) hd
  ·exact wpAny_Name (wpAny_loadName_free I.ok.kind O hc hcell fin Y) hd
theorem V_2 {i j pos}:PE X (.Constant (.int i) j pos) (tC (.int i)):=λ _ _ _ H _ I h=>wpAny_Constant_int ⟨.int i,H,I.tok _,⟨_,rfl⟩,h⟩
theorem aZ7 {b j pos}:PE X (.Constant (.bool b) j pos) (tC (.bl b)):=λ _ _ _ H _ I h=>Constant_bool ⟨.bl b,H,I,rfl,h⟩
theorem aZ5 {j pos}:PE X (.Constant .none j pos) (tC .non):=λ _ _ _ H _ I h=>Constant_none ⟨.non,H,I,rfl,h⟩
theorem ae9 {x j pos}:PE X (.Constant (.str x) j pos) (tC (.str x)):=λ _ _ _ H _ I h=>Calls.Constant_str ⟨.str x,H,I.tok _,⟨_,rfl⟩,h⟩
noncomputable def Gl (X:Cx) (x:Str):Prop:=X.env.kindOf x=some .globalImplicit
theorem G_8 {E:Value->Shared->Prop}{pins:List (Addr×Obj)}{s:Shared}{σ:St}{H:Hp}{x:Str}{u:Value}{pos:Pos}{Q:Value->Shared->Prop} (I:Inv X pins σ H s) (Y:Gl X x) (O:X.mg x=some u) (h:Q u s)
  (hd:(x==("__debug__":Str))=false:=by decide):wpAny (model X.prog X.w) X.A (eval (.Name x pos) X.env) Q E s :=
 Calls.Name_function_global I.ok.kind Y (Calls.loadGlobal_global (by rw[I.ok.glob];exact I.mod.glob.keeps I.bk) O h) hd
theorem W_1 {E:Value->Shared->Prop}{pins:List (Addr×Obj)}{s:Shared}{σ:St}{H:Hp}{x:Str}{u:Value}{pos:Pos}{Q:Value->Shared->Prop} (I:Inv X pins σ H s) (O:Gl X x) (Z:X.mg x=none) (hv:bootBuiltins x=some u) (h:Q u s)
  (Y:x≠"__name__":=by decide) (hd:(x==("__debug__":Str))=false:=by decide):wpAny (model X.prog X.w) X.A (eval (.Name x pos) X.env) Q E s:=by
 obtain⟨mb,h1,h2⟩:=I.mod.blt;exact Calls.Name_function_global I.ok.kind O (Calls.loadGlobal_builtin (by rw[I.ok.glob];exact I.mod.glob.keeps I.bk) Z (by rw[I.ok.blt];exact h1.keeps I.bk) ((h2 x Y).trans hv) h) hd
theorem aK2 {x:Str}{v:V}{u:Value}{pos:Pos} (Y:Gl X x) (O:X.mg x=some u) (r:RelV v u) (hd:(x==("__debug__":Str))=false:=by decide):PE X (.Name x pos) (tC v) :=
 λ _ _ _ H _ I h=>G_8 I Y O ⟨v,H,I,r,h⟩ hd
theorem aK4 {x:Str}{v:V}{u:Value}{pos:Pos} (hg:Gl X x) (Y:X.mg x=none) (Z:bootBuiltins x=some u) (r:RelV v u) (O:x≠"__name__":=by decide) (hd:(x==("__debug__":Str))=false:=by decide):PE X (.Name x pos) (tC v) :=
 λ _ _ _ H _ I h=>W_1 I hg Y Z ⟨v,H,I,r,h⟩ O hd
variable {a b:Expr}{ta tb:TE}{pos:Pos}
noncomputable def tB (t:TE):TT:=λ σ H Q=>t σ H λ x H1=>∃ c,x=.bl c/\Q c H1
variable {tA tB':TT}{rest:List Expr}
noncomputable def tAnd (t u:TT):TT:=λ σ H Q=>t σ H λ c H1=>if c=true then u σ H1 Q else Q false H1
noncomputable def tOr (t u:TT):TT:=λ σ H Q=>t σ H λ c H1=>if c=true then Q true H1 else u σ H1 Q
noncomputable def tNot (t:TT):TT:=λ σ H Q=>t σ H λ c H1=>Q (!c) H1
theorem aI6 (O:PT X a tA):PW X (.BoolOp .And [a] pos) tA:=by
 intro Y pins s σ H Q I h;refine isTrue_and (thn (O pins s σ H Q I h) λ c Z e=>?_)
 cases c with
 |true=>exact isTrue_and_nil e
 |false=>exact e
theorem aY1 (O:PT X a tA):PW X (.BoolOp .Or [a] pos) tA:=by
 intro Y pins s σ H Q I h;refine isTrue_or (thn (O pins s σ H Q I h) λ c Z e=>?_)
 cases c with
 |false=>exact isTrue_or_nil e
 |true=>exact e
theorem aY2 (ha:PT X a tA) (hb:PW X (.BoolOp .And (b::rest) pos) tB'):PW X (.BoolOp .And (a::b::rest) pos) (tAnd tA tB'):=by
 intro wh pins s σ H Q I h;refine isTrue_and (thn (ha pins s σ H _ I h) λ c s1 O=>?_)
 obtain⟨H1,Z,Y⟩:=O;cases c with
 |true=>exact hb wh pins s1 σ H1 Q Z Y
 |false=>exact⟨H1,Z,Y⟩
theorem bq1 (ha:PT X a tA) (hb:PW X (.BoolOp .Or (b::rest) pos) tB'):PW X (.BoolOp .Or (a::b::rest) pos) (tOr tA tB'):=by
 intro wh pins s σ H Q I h;refine isTrue_or (thn (ha pins s σ H _ I h) λ c s1 O=>?_)
 obtain⟨H1,Z,Y⟩:=O;cases c with
 |true=>exact⟨H1,Z,Y⟩
 |false=>exact hb wh pins s1 σ H1 Q Z Y
theorem aY4 (O:PT X a tA):PT X (.UnaryOp .Not a pos) (tNot tA):=by
 intro pins s σ H Q I h;exact isTrue_not (O pins s σ H (λ c H1=>Q (!c) H1) I h)
noncomputable def bn5 (ta tb:TE):TE:=λ σ H Q=>ta σ H λ x H1=>∃ c,x=.bl c/\if c=true then tb σ H1 Q else Q (.bl false) H1
noncomputable def bH1 (ta tb:TE):TE:=λ σ H Q=>ta σ H λ x H1=>∃ c,x=.bl c/\if c=true then Q (.bl true) H1 else tb σ H1 Q
theorem aZ4 {op}{t:TE} (h:PE X a t):PE X (.BoolOp op [a] pos) t:=λ pins s σ H Q I O=>BoolOp_one (h pins s σ H Q I O)
theorem aZ8 (ha:PE X a ta) (hb:PE X (.BoolOp .And (b::rest) pos) tb):PE X (.BoolOp .And (a::b::rest) pos) (bn5 ta tb):=by
 intro pins s σ H Q I h;refine BoolOp_and (thn (ha pins s σ H _ I h) λ v s1=>ex5 λ x H1 Y Z O=>?_)
 obtain⟨c,rfl,O⟩:=O;cases Z;refine wpAny_truthy_bool ?_;cases c with
 |true=>exact hb pins s1 σ H1 Q Y O
 |false=>exact⟨.bl false,H1,Y,rfl,O⟩
theorem bq5 (ha:PE X a ta) (hb:PE X (.BoolOp .Or (b::rest) pos) tb):PE X (.BoolOp .Or (a::b::rest) pos) (bH1 ta tb):=by
 intro pins s σ H Q I h;refine BoolOp_or (thn (ha pins s σ H _ I h) λ v s1=>ex5 λ x H1 Y Z O=>?_)
 obtain⟨c,rfl,O⟩:=O;cases Z;refine wpAny_truthy_bool ?_;cases c with
 |false=>exact hb pins s1 σ H1 Q Y O
 |true=>exact⟨.bl true,H1,Y,rfl,O⟩
noncomputable def tIf (t:TT) (ta tb:TE):TE:=λ σ H Q=>t σ H λ c H1=>if c=true then ta σ H1 Q else tb σ H1 Q
theorem as5 {c:Expr} (hc:PT X c tA) (ha:PE X a ta) (hb:PE X b tb):PE X (.IfExp c a b pos) (tIf tA ta tb):=by
 intro pins s σ H Q I h;refine wpAny_IfExp (thn (hc pins s σ H _ I h) λ d s1 O=>?_)
 obtain⟨H1,Z,Y⟩:=O;cases d with
 |true=>exact ha pins s1 σ H1 Q Z Y
 |false=>exact hb pins s1 σ H1 Q Z Y
end
noncomputable def SqL (K:Frag) (H:Hp) (a:Addr) (xs:List V):Prop :=
 Rd H a (.lst xs) \/
  ∃ (o:Obj) (O:Array Value) (n:Nat),K.lookup a=some o ∧ o.cls=.type "list" ∧ o.dict=none ∧ o.data=.seq O n ∧ O.size ≤ sizeLine ∧ Vals xs O.toList
noncomputable def SqT (K:Frag) (H:Hp) (a:Addr) (xs:List V):Prop :=
 Rd H a (.tup xs) \/
  ∃ (o:Obj) (O:Array Value) (n:Nat),K.lookup a=some o ∧ o.cls=.type "tuple" ∧ o.dict=none ∧ o.data=.seq O n ∧ O.size ≤ sizeLine ∧ Vals xs O.toList
noncomputable def bO7:Value->Option V
 |.none=>some .non
 |.bool b=>some (.bl b)
 |.int i _=>some (.int i)
 |.str x _=>some (.str x)
 |.bytes b _=>some (.byt b)
 |.float b _=>some (.flt b)
 |.ref a=>some (.ref a)
 |.type n=>some (.ty n)
 |_=>none
theorem RelV.abs {x:V}{u:Value} (r:RelV x u):bO7 u=some x:=by
 cases x with
 |non=>cases r;rfl
 |bl _=>cases r;rfl
 |int _=>obtain⟨t,rfl⟩:=r;rfl
 |str _=>obtain⟨t,rfl⟩:=r;rfl
 |byt _=>obtain⟨t,rfl⟩:=r;rfl
 |flt _=>obtain⟨t,rfl⟩:=r;rfl
 |ref _=>cases r;rfl
 |ty _=>cases r;rfl
theorem RelV.inj {x y:V}{u:Value} (r:RelV x u) (q:RelV y u):x=y:=qi (r.abs.symm.trans q.abs)
theorem Vals.inj:∀ {xs ys:List V}{us:List Value},Vals xs us->Vals ys us->xs=ys
 |[],ys,us,h,k=>by cases h;cases k;rfl
 |x::xs,ys,us,h,k=>by
  cases h with
  |cons r t =>
   cases k with
   |cons O t'=>rw[r.inj O,Vals.inj t t']
section
variable {X:Cx}{pins:List (Addr×Obj)}{σ:St}{H:Hp}{s:Shared}{a:Addr}{xs ys:List V}
theorem SqL.of {K:Frag} (h:H a=some (.lst xs)):SqL K H a xs:=.inl (.inl h)
theorem SqT.of {K:Frag} (h:H a=some (.tup xs)):SqT K H a xs:=.inl (.inl h)
theorem Inv.list (I:Inv X pins σ H s) (h:SqL X.K H a xs):∃ O:List Value,Vals xs O/\PlainL s.heap a O.toArray/\xs.length<=sizeLine:=by
 rcases h with h | ⟨o,O,n,hk,hc,hd,hs,hz,r⟩
 ·obtain⟨z,O,n,r,e⟩:=h.ok I.hok
  exact⟨O,r,⟨_,n,e,rfl,rfl,rfl⟩,z⟩
 ·refine⟨O.toList,r,⟨o,n,I.kIn a o hk,hc,hd,by simpa using hs⟩,?_⟩
  have e:=r.length;simp only[Array.length_toList] at e;omega
theorem Inv.tuple (I:Inv X pins σ H s) (h:SqT X.K H a xs):∃ O:List Value,Vals xs O/\IsTup s.heap a O.toArray/\xs.length<=sizeLine:=by
 rcases h with h | ⟨o,O,n,hk,hc,_,hs,hz,r⟩
 ·obtain⟨z,O,r,p⟩:=h.ok I.hok
  exact⟨O,r,p.tup,z⟩
 ·refine⟨O.toList,r,⟨o,I.kIn a o hk,hc,n,by simpa using hs⟩,?_⟩
  have e:=r.length;simp only[Array.length_toList] at e;omega
theorem Inv.tupleN (I:Inv X pins σ H s) (h:SqT X.K H a xs):∃ O:List Value,Vals xs O/\IsTuN s.heap a O.toArray/\xs.length<=sizeLine:=by
 rcases h with h | ⟨o,O,n,hk,hc,hd,hs,hz,r⟩
 ·obtain⟨z,O,r,p⟩:=h.ok I.hok
  exact⟨O,r,p,z⟩
 ·refine⟨O.toList,r,⟨o,I.kIn a o hk,hc,⟨n,by simpa using hs⟩,hd⟩,?_⟩
  have e:=r.length;simp only[Array.length_toList] at e;omega
theorem Inv.list_inj (I:Inv X pins σ H s) (h:SqL X.K H a xs) (h':SqL X.K H a ys):xs=ys:=by
 obtain⟨O,r,⟨o,n,e,_,_,d⟩,_⟩:=I.list h;obtain⟨its',Z,⟨o',n',Y,_,_,d'⟩,_⟩:=I.list h';rw[e] at Y;cases Y;rw[d] at d';injection d' with d1 _
 have:O=its':=by simpa using congrArg Array.toList d1
 subst this;exact r.inj Z
theorem Inv.tuple_inj (I:Inv X pins σ H s) (h:SqT X.K H a xs) (h':SqT X.K H a ys):xs=ys:=by
 obtain⟨O,r,⟨o,e,_,n,d⟩,_⟩:=I.tuple h;obtain⟨its',Z,⟨o',Y,_,n',d'⟩,_⟩:=I.tuple h';rw[e] at Y;cases Y;rw[d] at d';injection d' with d1 _
 have:O=its':=by simpa using congrArg Array.toList d1
 subst this;exact r.inj Z
end
abbrev Cx.wish (X:Cx) (E:Value->Shared->Prop):Cx:={X with xe:=E}
abbrev Cx.nox (X:Cx):Cx:=X.wish λ _ _=>False
theorem Cx.Ok.wish {X:Cx} (ok:X.Ok) (E:Value->Shared->Prop):(X.wish E).Ok :=
 ⟨ok.mod,ok.kind,ok.glob,ok.blt,ok.above,ok.inj,ok.has,ok.cab,ok.hd,ok.frames,ok.stk,ok.exf,ok.bs,ok.bsz,ok.noex,ok.exfs,ok.funs,ok.frf⟩
theorem Cx.Ok.unwish {X:Cx}{E:Value->Shared->Prop} (ok:(X.wish E).Ok):X.Ok :=
 ⟨ok.mod,ok.kind,ok.glob,ok.blt,ok.above,ok.inj,ok.has,ok.cab,ok.hd,ok.frames,ok.stk,ok.exf,ok.bs,ok.bsz,ok.noex,ok.exfs,ok.funs,ok.frf⟩
section
variable {X:Cx}{pins:List (Addr×Obj)}{σ:St}{H:Hp}{s:Shared}{E:Value->Shared->Prop}
theorem Inv.wish (I:Inv X pins σ H s) (E:Value->Shared->Prop):Inv (X.wish E) pins σ H s:=⟨I.ok.wish E,I.os,I.bare,I.base,I.loc,I.cell,I.free,I.freeC,I.pin,I.hok,I.len⟩
theorem Inv.unwish (I:Inv (X.wish E) pins σ H s):Inv X pins σ H s:=⟨I.ok.unwish,I.os,I.bare,I.base,I.loc,I.cell,I.free,I.freeC,I.pin,I.hok,I.len⟩
theorem SP.unwish {D:Ends}{f:Flow}{s':Shared} (h:SP (X.wish E) pins D f s'):SP X pins D f s':=by
 cases f with
 |next=>obtain⟨O,H',I,q⟩:=h;exact⟨O,H',I.unwish,q⟩
 |brk=>obtain⟨O,H',I,q⟩:=h;exact⟨O,H',I.unwish,q⟩
 |cont=>obtain⟨O,H',I,q⟩:=h;exact⟨O,H',I.unwish,q⟩
 |ret u=>obtain⟨v,O,H',I,r,q⟩:=h;exact⟨v,O,H',I.unwish,r,q⟩
theorem PE.nox {e:Expr}{t:TE} (h:PE X.nox e t):PE X e t:=λ pins s σ H Q I O =>
 wpAny_mono (h pins s σ H Q (I.wish _) O) (λ _ _ ⟨v,H',Y,r,q⟩=>⟨v,H',Y.unwish,r,q⟩) λ _ _ z=>False.elim z
theorem PT.nox {e:Expr}{t:TT} (h:PT X.nox e t):PT X e t:=λ pins s σ H Q I O =>
 wpAny_mono (h pins s σ H Q (I.wish _) O) (λ _ _ ⟨H',Y,q⟩=>⟨H',Y.unwish,q⟩) λ _ _ z=>False.elim z
theorem PSs.nox {st:List Stmt}{t:TS} (h:PSs X.nox st t):PSs X st t:=λ pins s σ H D I O =>
 wpAny_mono (h pins s σ H D (I.wish _) O) (λ _ _ q=>q.unwish) λ _ _ z=>False.elim z
end
section
variable {X:Cx}{st:Stmt}{rest:List Stmt}{t u:TS}{e:Expr}{te:TE}{pos:Pos}
noncomputable def bm8:TS:=λ D σ H=>D.nx σ H
noncomputable def bG9 (t u:TS):TS:=λ D σ H=>t {D with nx:=u D} σ H
theorem ae4:PSs X [] bm8:=λ _ _ σ H _ I h=>wpAny_execs_nil ⟨σ,H,I,h⟩
theorem q_2 (h1:PS X st t) (h2:PSs X rest u):PSs X (st::rest) (bG9 t u):=by
 intro pins s σ H D I h;refine wpAny_execs_cons (thn (h1 pins s σ H {D with nx:=u D} I h) λ f Z q=>?_)
 cases f with
 |next =>
  obtain⟨O,H',Y,q⟩:=q;exact h2 pins Z O H' D Y q
 |ret v=>exact q
 |brk=>exact q
 |cont=>exact q
theorem F_2 (h1:PS X st t):PSs X [st] t:=by
 intro pins s σ H D I h;refine wpAny_execs_cons (thn (h1 pins s σ H D I h) λ f O q=>?_)
 cases f with
 |next=>exact wpAny_execs_nil q
 |ret v=>exact q
 |brk=>exact q
 |cont=>exact q
theorem Inv.quiet {pins:List (Addr×Obj)}{σ:St}{H:Hp}{s:Shared} (I:Inv X pins σ H s):interactive X.env=false:=by simp[interactive,I.ok.kind]
noncomputable def bm9 (te:TE):TS:=λ D σ H=>te σ H λ _ H1=>D.nx σ H1
theorem F_3 (O:PE X e te) (Z:swapsWith e none pos.line X.env=pure false:=by rfl):PS X (.Expr e pos) (bm9 te):=by
 intro pins s σ H D I h;exact wpAny_Expr_any (thn (O pins s σ H _ I h) λ v s1=>ex5 λ x H1 I1 r1 Y=>⟨σ,H1,I1,Y⟩) I.quiet Z
noncomputable def bH0 (te:TE):TS:=λ D σ H=>te σ H D.rt
theorem ae5 (O:PE X e te):PS X (.Return (some e) pos) (bH0 te):=by
 intro pins s σ H D I h;exact wpAny_Return_some (thn (O pins s σ H _ I h) λ v s1=>ex5 λ x H1 I1 Z Y=>⟨x,σ,H1,I1,Z,Y⟩)
noncomputable def bH5 (c:TT) (t u:TS):TS:=λ D σ H=>c σ H λ b H1=>if b=true then t D σ H1 else u D σ H1
theorem aY5 {c:Expr}{a b:List Stmt}{tc:TT} (hc:PT X c tc) (ha:PSs X a t) (hb:PSs X b u):PS X (.If c a b pos) (bH5 tc t u):=by
 intro pins s σ H D I h;refine wpAny_If (thn (hc pins s σ H _ I h) λ d s1 O=>?_)
 obtain⟨H1,Z,Y⟩:=O;cases d with
 |true=>exact ha pins s1 σ H1 D Z Y
 |false=>exact hb pins s1 σ H1 D Z Y
end
abbrev TG:=V->St->Hp->(St->Hp->Prop)->Prop
abbrev TGs:=List V->St->Hp->(St->Hp->Prop)->Prop
noncomputable def PG (X:Cx) (O:Expr) (t:TG):Prop :=
 ∀ (pins:List (Addr×Obj)) (s:Shared) (σ:St) (H:Hp) (v:V) (u:Value) (Q:St->Hp->Prop),Inv X pins σ H s->RelV v u->t v σ H Q ->
  wpAny (model X.prog X.w) X.A (assign O X.env u) (λ _ s'=>∃ Y H',Inv X pins Y H' s'/\Q Y H') X.xe s
noncomputable def PGs (X:Cx) (Y:List Expr) (t:TGs):Prop :=
 ∀ (pins:List (Addr×Obj)) (s:Shared) (σ:St) (H:Hp) (vs:List V) (us:List Value) (Q:St->Hp->Prop),Inv X pins σ H s->Vals vs us->t vs σ H Q ->
  wpAny (model X.prog X.w) X.A (assignInOrder ((assignEach Y X.env).map (·.2)) us) (λ _ s'=>∃ O H',Inv X pins O H' s'/\Q O H') X.xe s
section
variable {X:Cx}{pos:Pos}
noncomputable def aM5 (i:Nat):TG:=λ v σ H Q=>Q (σ.set i (some v)) H
theorem Q_1 {i:Nat}{x:Str} (hN:X.N.Nodup) (hi:X.N[i]?=some x) (Y:Loc X.env.scope x) (Z:X.fn x=true\/X.env.scope.names.lookup x=some .local:=by first | exact .inl rfl | exact .inr rfl | assumption):PG X (.Name x pos) (aM5 i):=by
 intro pins s σ H v u Q I r h;exact wpAny_assign_Name (T_9 I hN hi Y r (λ s' O=>⟨_,H,O,h⟩) Z)
noncomputable def bL9:TGs:=λ vs σ H Q=>vs=[]/\Q σ H
noncomputable def bu3 (t:TG) (u:TGs):TGs:=λ vs σ H Q=>∃ v r,vs=v::r/\t v σ H λ O H'=>u r O H' Q
theorem aJ8:PGs X [] bL9:=by
 intro pins s σ H vs us Q I r h;obtain⟨e,h⟩:=h;subst e;cases r;exact assignInOrder_nil ⟨σ,H,I,h⟩
theorem as3 {e:Expr}{es:List Expr}{t:TG}{u:TGs} (h1:PG X e t) (h2:PGs X es u)
  (hs:(assignEach (e::es) X.env).map (·.2)=assign e X.env::(assignEach es X.env).map (·.2):=by rfl):PGs X (e::es) (bu3 t u):=by
 intro pins s σ H vs us Q I r h;obtain⟨v,vr,e1,h⟩:=h;subst e1;cases r with
 |cons r Z =>
  rw[hs];refine assignInOrder_cons (thn (h1 pins s σ H _ _ _ I r h) λ _ s1 O=>?_)
  obtain⟨Y,H1,I1,q1⟩:=O;exact h2 pins s1 Y H1 _ _ Q I1 Z q1
noncomputable def bL7 (K:Frag) (n:Nat) (t:TGs):TG:=λ v σ H Q=>∃ a xs,v=.ref a/\SqT K H a xs/\xs.length=n/\t xs σ H Q
theorem aZ0 {es:List Expr}{k:Nat}{t:TGs}{n:Nat} (hc:X.calm=true) (h:PGs X es t)
  (hn:(assignEach es X.env).length=n:=by rfl) (O:(assignEach es X.env).findIdx? (·.1)=none:=by rfl):PG X (.Tuple es k pos) (bL7 X.K n t):=by
 intro pins s σ H v u Q I r Y;obtain⟨a,xs,e1,hq,hl,Y⟩:=Y;subst e1;cases r;obtain⟨aa,Z,ht,hz⟩:=I.tuple hq;refine assign_Tuple_tuple (I.ok.hd hc) ht (by simp[hn,<- hl,Z.length]) O λ h' hx=>?_
 have I1:Inv X pins σ H {s with heap:=h'}:=I.kept (t':=s.toks) λ b o e=>hx b o (qr (qm e)) e
 exact h pins _ σ H xs _ Q I1 (by simpa using Z) Y
noncomputable def bz0 (te:TE) (g:TG):TS:=λ D σ H=>te σ H λ x H1=>g x σ H1 D.nx
theorem aY7 {tg e:Expr}{te:TE}{g:TG} (O:PE X e te) (hg:PG X tg g) (hs:swapsWithSole [tg] e pos.line X.env=pure false:=by rfl) (hw:swappedStores [tg] e X.env=pure none:=by rfl)
  (h1:(assignEach [tg] X.env).map (·.2)=[assign tg X.env]:=by rfl):PS X (.Assign [tg] e pos) (bz0 te g):=by
 intro pins s σ H D I h;refine wpAny_Assign_stores (thn (O pins s σ H _ I h) λ v s1=>ex5 λ x H1 I1 Z Y=>?_) hs hw
 rw[h1];exact thn (hg pins s1 σ H1 x v _ I1 Z Y) λ _ s2 q=>q
theorem K_9 {i:Nat}{x:Str}{e:Expr}{te:TE}{pos':Pos} (hN:X.N.Nodup) (hi:X.N[i]?=some x) (hx:Loc X.env.scope x) (O:PE X e te) (hs:swapsWith e (some (.Name x pos')) pos.line X.env=pure false:=by rfl) (hf:X.fn x=true\/X.env.scope.names.lookup x=some .local:=by first | exact .inl rfl | exact .inr rfl | assumption) :
  PS X (.Assign [.Name x pos'] e pos) (bz0 te (aM5 i)):=by
 intro pins s σ H D I h;refine wpAny_Assign_Name (thn (O pins s σ H _ I h) λ v s1=>ex5 λ y H1 I1 Z Y=>?_) hs
 exact T_9 I1 hN hi hx Z (λ s2 I2=>⟨_,H1,I2,Y⟩) hf
end
structure It where
 go:Nat->Hp->Prop
 yld:Nat->Hp->V->Hp->Prop
 stop:Nat->Hp->Prop
noncomputable def Y_6 (X:Cx) (pins:List (Addr×Obj)) (H:Hp) (b:Addr):Prop :=
 H b=none/\b≠X.env.locals/\b∉X.fs/\(b∈X.ex\/X.s₀.heap.objs.size<=b)/\(∀ x c,X.env.cells.lookup x=some c->c≠b)/\∀ p∈X.pn++pins,p.1≠b
theorem Inv.fpOk {X:Cx}{pins:List (Addr×Obj)}{σ:St}{H H':Hp}{s:Shared}{b:Addr} (I:Inv X pins σ H s) (O:s.heap.objs.size<=b) (Y:H' b=none):Y_6 X pins H' b:=by
 refine⟨Y,Nat.ne_of_gt (qq I.lt O),I.nofs O,.inr (Nat.le_trans I.sz O),λ x c e z=>?_,λ p Z z=>?_⟩
 ·obtain⟨v,q⟩:=I.cell x c e
  exact absurd (qq q.lt (by rw[z];exact O)) (Nat.lt_irrefl _)
 ·exact absurd (qq (qm (I.pin p Z).1) (by rw[z];exact O)) (Nat.lt_irrefl _)
structure Turn (P:Program) (w:World) (K:Frag) (tg:Expr) (J:It) (fp:List Addr) (it:Addr) (tn:Nat->Heap->Prop):Prop where
 mem:it∈fp
 obj:∀ i h,tn i h->∀ b∈fp,∃ o,h.get? b=some o/\∀ v,o.data≠.cell v
 keep:∀ i h h',tn i h->(∀ b∈fp,∀ o,h.get? b=some o->h'.get? b=some o)->tn i h'
 item:∀ (X:Cx),X.prog=P->X.w=w->X.K=K->X.calm=true->∀ (i:Nat) (pins:List (Addr×Obj)) (s:Shared) (σ:St) (H:Hp) (E:Value->Shared->Prop),Inv X pins σ H s->(∀ b∈fp,Y_6 X pins H b)->tn i s.heap->J.go i H ->
  wpAny (model P w) X.A (pyNext (.ref it)) (λ r s1=>∃ u,r=some u /\
   wpAny (model P w) X.A (letOwnedTupleGo tg (.ref it) u) (λ _ s2=>∃ x H',Inv X pins σ H' s2/\RelV x u/\J.yld i H x H'/\tn (i+1) s2.heap/\∀ b∈fp,H' b=none) E s1) E s
 done:∀ (X:Cx),X.prog=P->X.w=w->X.K=K->X.calm=true->∀ (i:Nat) (pins:List (Addr×Obj)) (s:Shared) (σ:St) (H:Hp) (E:Value->Shared->Prop),Inv X pins σ H s->(∀ b∈fp,Y_6 X pins H b)->tn i s.heap->J.stop i H ->
  wpAny (model P w) X.A (pyNext (.ref it)) (λ r s1=>r=none/\Inv X pins σ H s1) E s
 self:∀ (A:Around) (i:Nat) (s:Shared) (Q:Value->Shared->Prop) (E:Value->Shared->Prop),tn i s.heap->Q (.ref it) s->wpAny (model P w) A (pyIter (.ref it)) Q E s
abbrev TI:=St->Hp->(It->Hp->Prop)->Prop
noncomputable def PIE (X:Cx) (pins:List (Addr×Obj)) (σ:St) (tg:Expr) (R:It->Hp->Prop) (O:Value) (Y:Shared):Prop :=
 ∃ (it:Addr) (fp:List Addr) (Z:Nat->Heap->Prop) (J:It) (H':Hp),O=.ref it/\Inv X pins σ H' Y/\Turn X.prog X.w X.K tg J fp it Z/\Z 0 Y.heap/\(∀ b∈fp,Y_6 X pins H' b)/\R J H'
noncomputable def PI (X:Cx) (tg iter:Expr) (O:TI):Prop :=
 ∀ (pins:List (Addr×Obj)) (s:Shared) (σ:St) (H:Hp) (R:It->Hp->Prop),Inv X pins σ H s->O σ H R ->
  wpAny (model X.prog X.w) X.A (eval iter X.env) (λ v Y=>wpAny (model X.prog X.w) X.A (pyIter v) (PIE X pins σ tg R) X.xe Y) X.xe s
theorem aj6 {M:Model}{A:Around}{E:Value->Shared->Prop}{s:Shared}{tg:Expr}{it:Addr}{u:Value}{o:Obj}{n:String}{vs:Array Value}{Q:Unit->Shared->Prop} (ho:s.heap.get? it=some o) (Z:o.cls=.type n) (hd:o.data=.fields vs)
  (Y:["enumerate","zip","dict_itemiterator","dict_reverseitemiterator","odict_iterator","itertools.zip_longest","itertools.pairwise"].contains n=false) (O:Q () s):wpAny M A (letOwnedTupleGo tg (.ref it) u) Q E s:=by
 unfold letOwnedTupleGo;cases tg <;> first
  |exact qc O
  |(cases u <;> first
    |exact qc O
    |(refine qb (wpAny_load ho ?_);rw[Z,hd];show wpAny M A (if (["enumerate","zip","dict_itemiterator","dict_reverseitemiterator","odict_iterator","itertools.zip_longest","itertools.pairwise"].contains n&&vs[0]?==some (rawInt _))=true then _ else _) Q E s;rw[if_neg (by intro h;rw[Y,Bool.false_and] at h;cases h)];exact qc O))
noncomputable def Itl (K:Frag) (a:Addr):It :=
 ⟨λ i H=>∃ xs x,SqL K H a xs/\xs[i]?=some x,λ i H x H'=>H'=H/\∀ xs,SqL K H a xs->xs[i]?=some x,λ i H=>∃ xs,SqL K H a xs/\xs.length<=i⟩
noncomputable def Itt (K:Frag) (a:Addr):It :=
 ⟨λ i H=>∃ xs x,SqT K H a xs/\xs[i]?=some x,λ i H x H'=>H'=H/\∀ xs,SqT K H a xs->xs[i]?=some x,λ i H=>∃ xs,SqT K H a xs/\xs.length<=i⟩
noncomputable def Itr (lo:Int) (n:Nat):It:=⟨λ i _=>i<n,λ i H x H'=>H'=H/\x=.int (lo+i),λ i _=>n<=i⟩
theorem ad0 {P:Program}{w:World}{K:Frag}{tg:Expr} (a it:Addr):Turn P w K tg (Itl K a) [it] it (λ i h=>h.IsListIter it a i) where
 mem:=by simp
 obj:=λ i h st b O=>by
  have e:b=it:=by simpa using O
  subst e;obtain⟨o,e,c,d⟩:=st;exact⟨o,e,λ v z=>by rw[d] at z;cases z⟩
 keep:=λ i h h' st k=>st.at λ o e=>k it (by simp) o e
 item:=by
  intro X hP hw hK hc i pins s σ H E I Z st hg;subst hP hw hK;obtain⟨xs,x,hq,hx⟩:=hg;obtain⟨aa,rv,p,hz⟩:=I.list hq;obtain⟨u,hu,ru⟩:=rv.get hx;obtain⟨f0,f1,f2,f3,f4,f5⟩:=Z it (by simp)
  refine wpAny_pyNext_list_item st p.isList (x:=u) (by simpa using hu) λ h' Y sb=>?_
  have I1:Inv X pins σ H {s with heap:=h'}:=I.turned (t':=s.toks) (λ b o O e=>(sb.2 b O).trans e) f0 f1 f3 f4 f5
  obtain⟨o,e,c,d⟩:=id Y;exact⟨u,rfl,aj6 (s:={s with heap:=h'}) e c d (by decide) ⟨x,H,I1,ru,⟨rfl,λ ys hy=>by rw[I.list_inj hy hq];exact hx⟩,Y,λ b O=>(Z b O).1⟩⟩
 done:=by
  intro X hP hw hK hc i pins s σ H E I Z st hg;subst hP hw hK;obtain⟨xs,hq,hx⟩:=hg;obtain⟨aa,rv,p,hz⟩:=I.list hq;obtain⟨f0,f1,f2,f3,f4,f5⟩:=Z it (by simp)
  have hl:=rv.length;exact wpAny_pyNext_list_end (I.ok.hd hc) st p.isList (by simp;omega) λ h' eb=>⟨rfl,I.turned (t':=s.toks) (λ b o O e=>eb b o O e) f0 f1 f3 f4 f5⟩
 self:=λ _ _ _ _ _ st h=>wpAny_pyIter_listiter st h
theorem Z_2 {P:Program}{w:World}{K:Frag}{tg:Expr} (a it:Addr):Turn P w K tg (Itt K a) [it] it (λ i h=>h.IsTupleIter it a i) where
 mem:=by simp
 obj:=λ i h st b O=>by
  have e:b=it:=by simpa using O
  subst e;obtain⟨o,e,c,d⟩:=st;exact⟨o,e,λ v z=>by rw[d] at z;cases z⟩
 keep:=λ i h h' st k=>st.at λ o e=>k it (by simp) o e
 item:=by
  intro X hP hw hK hc i pins s σ H E I hf st hg;subst hP hw hK;obtain⟨xs,x,hq,hx⟩:=hg;obtain⟨Y,rv,p,hz⟩:=I.tuple hq;obtain⟨u,hu,ru⟩:=rv.get hx;obtain⟨f0,f1,f2,f3,f4,f5⟩:=hf it (by simp)
  refine wpAny_pyNext_tuple_item st (show s.heap.IsTuple a Y.toArray from p) (x:=u) (by simpa using hu) λ h' Z sb=>?_
  have I1:Inv X pins σ H {s with heap:=h'}:=I.turned (t':=s.toks) (λ b o O e=>(sb.2 b O).trans e) f0 f1 f3 f4 f5
  obtain⟨o,e,c,d⟩:=id Z;exact⟨u,rfl,aj6 (s:={s with heap:=h'}) e c d (by decide) ⟨x,H,I1,ru,⟨rfl,λ ys hy=>by rw[I.tuple_inj hy hq];exact hx⟩,Z,λ b O=>(hf b O).1⟩⟩
 done:=by
  intro X hP hw hK hc i pins s σ H E I hf st hg;subst hP hw hK;obtain⟨xs,hq,hx⟩:=hg;obtain⟨Y,rv,p,hz⟩:=I.tuple hq;obtain⟨f0,f1,f2,f3,f4,f5⟩:=hf it (by simp)
  have hl:=rv.length;exact wpAny_pyNext_tuple_end (I.ok.hd hc) st (show s.heap.IsTuple a Y.toArray from p) (by simp;omega) λ h' eb=>⟨rfl,I.turned (t':=s.toks) (λ b o O e=>eb b o O e) f0 f1 f3 f4 f5⟩
 self:=λ _ _ _ _ _ st h=>wpAny_pyIter_tupleiter st h
theorem Z_3 {P:Program}{w:World}{K:Frag}{tg:Expr} (it:Addr) (lo:Int) (n:Nat):Turn P w K tg (Itr lo n) [it] it (λ i h=>IsRangeIter h it (lo+(i:Nat)*1) ((n:Int)-(i:Nat)) 1) where
 mem:=by simp
 obj:=λ i h st b O=>by
  have e:b=it:=by simpa using O
  subst e
  exact⟨_,st,λ v z=>by
   have z':Data.fields _=Data.cell v:=z;cases z'⟩
 keep:=λ i h h' st k=>k it (by simp) _ st
 item:=by
  intro X hP hw hK hc i pins s σ H E I Z st hg;subst hP hw hK;obtain⟨f0,f1,f2,f3,f4,f5⟩:=Z it (by simp)
  have W:=Walks.range (prog:=X.prog) (w:=X.w) (I.ok.hd hc) it lo 1 n;refine W.item i s _ _ hg st λ v h' tk hv Y kk=>?_
  obtain⟨t,rfl⟩:=hv;have I1:Inv X pins σ H {s with heap:=h',toks:=tk}:=I.turned (λ b o O e=>kk b o (by simpa using O) e) f0 f1 f3 f4 f5
  refine⟨_,rfl,aj6 (s:={s with heap:=h',toks:=tk}) (n:="range_iterator") Y rfl rfl (by decide) ⟨.int (lo+i),H,I1,⟨t,?_⟩,⟨rfl,rfl⟩,Y,λ b O=>(Z b O).1⟩⟩
  rw[Int.mul_one]
 done:=by
  intro X hP hw hK hc i pins s σ H E I Z st hg;subst hP hw hK;obtain⟨f0,f1,f2,f3,f4,f5⟩:=Z it (by simp)
  exact wpAny_pyNext_range_end (I.ok.hd hc) st (by have:n<=i:=hg;omega) λ h' eb=>⟨rfl,I.turned (t':=s.toks) (λ b o O e=>eb b o O e) f0 f1 f3 f4 f5⟩
 self:=λ _ _ _ _ _ st h=>wpAny_pyIter_rangeiter st h
section
variable {X:Cx}{tg:Expr}
noncomputable def bd7 (K:Frag) (tl:TE):TI:=λ σ H R=>tl σ H λ x H1=>∃ a,x=.ref a/\(∃ xs,SqL K H1 a xs)/\R (Itl K a) H1
noncomputable def bC0 (K:Frag) (tl:TE):TI:=λ σ H R=>tl σ H λ x H1=>∃ a,x=.ref a/\(∃ xs,SqT K H1 a xs)/\R (Itt K a) H1
theorem aJ7 {l:Expr}{tl:TE} (hl:PE X l tl):PI X tg l (bd7 X.K tl):=by
 intro pins s σ H R I h;refine thn (hl pins s σ H _ I h) λ v Y=>ex5 λ x H1 O r1 Z=>?_
 obtain⟨a,e,⟨xs,hq⟩,q⟩:=Z;subst e;cases r1;obtain⟨aa,rv,p,hz⟩:=O.list hq;refine wpAny_pyIter_list p.isList ?_;refine⟨Y.heap.objs.size,[Y.heap.objs.size],_,_,H1,rfl,O.kept (t':=Y.toks) λ b o e=>qd _ e,ad0 a _,⟨_,qk _ rfl,rfl,rfl⟩,λ b hb=>?_,q⟩
 have e:b=Y.heap.objs.size:=by simpa using hb
 subst e;exact O.fpOk (qj _) (O.hok.fresh (qj _))
theorem aY8 {l:Expr}{tl:TE} (hl:PE X l tl):PI X tg l (bC0 X.K tl):=by
 intro pins s σ H R I h;refine thn (hl pins s σ H _ I h) λ v O=>ex5 λ x H1 Y r1 q1=>?_
 obtain⟨a,e,⟨xs,hq⟩,q⟩:=q1;subst e;cases r1;obtain⟨Z,rv,p,hz⟩:=Y.tuple hq;refine wpAny_pyIter_tuple (show O.heap.IsTuple a Z.toArray from p) ?_;refine⟨O.heap.objs.size,[O.heap.objs.size],_,_,H1,rfl,Y.kept (t':=O.toks) λ b o e=>qd _ e,Z_2 a _,⟨_,qk _ rfl,rfl,rfl⟩,λ b hb=>?_,q⟩
 have e:b=O.heap.objs.size:=by simpa using hb
 subst e;exact Y.fpOk (qj _) (Y.hok.fresh (qj _))
theorem ar6 {pins:List (Addr×Obj)}{σ:St}{H:Hp}{s:Shared}{R:It->Hp->Prop}{E:Value->Shared->Prop}{lo hi:Int}{t u v:Tok}{tk:Nat} (I:Inv X pins σ H s) (h1:-(2 ^ 62)<=lo) (h2:lo<2 ^ 62) (Z:-(2 ^ 62)<=hi) (h4:hi<2 ^ 62)
  (q:R (Itr lo (hi-lo).toNat) H):wpAny (model X.prog X.w) X.A (pyIter (.ref s.heap.objs.size)) (PIE X pins σ tg R) E {s with heap:=s.heap.push {cls:=.type "range",data:=.fields #[.int lo t,.int hi u,.int 1 v]},toks:=tk}:=by
 refine wpAny_pyIter_range (IsRange.new ..) (small_one h1 h2 Z h4) ?_;have O:Inv X pins σ H {s with heap:=s.heap.push {cls:=.type "range",data:=.fields #[.int lo t,.int hi u,.int 1 v]},toks:=tk}:=I.kept λ b o e=>qd _ e
 refine⟨(s.heap.push {cls:=.type "range",data:=.fields #[.int lo t,.int hi u,.int 1 v]}).objs.size,[(s.heap.push {cls:=.type "range",data:=.fields #[.int lo t,.int hi u,.int 1 v]}).objs.size],_,_,H,rfl,
  O.kept (t':=tk) λ b o e=>qd _ e,Z_3 _ lo (hi-lo).toNat,?_,λ b Y=>?_,q⟩
 ·have e1:lo+((0:Nat):Int)*1=lo:=by simp
  have e2:(((hi-lo).toNat:Nat):Int)-((0:Nat):Int)=Builtin.Range.rangeSize lo hi 1:=by rw[rangeSize_one];split <;> omega
  show IsRangeIter _ _ (lo+((0:Nat):Int)*1) ((((hi-lo).toNat:Nat):Int)-((0:Nat):Int)) 1;rw[e1,e2];exact qk _ rfl
 ·have e:b=(s.heap.push {cls:=.type "range",data:=.fields #[.int lo t,.int hi u,.int 1 v]}).objs.size:=by simpa using Y
  subst e;exact O.fpOk (qj _) (O.hok.fresh (qj _))
noncomputable def bu1 (ta:TA):TI:=λ σ H R=>ta σ H λ vs H1=>∃ j:Int,vs=[.int j]/\-(2 ^ 62)<=j/\j<2 ^ 62/\R (Itr 0 j.toNat) H1
theorem x_3 {a:Expr}{ta:TA}{p pos:Pos} (hg:Gl X "range") (hm:X.mg "range"=none) (ha:PA X [a] ta) (hs:starEach [a] X.env=[(false,eval a X.env)]:=by rfl):PI X tg (.Call (.Name "range" p) [a] [] pos) (bu1 ta):=by
 intro pins s σ H R I h;refine Call_ (W_1 I hg hm boot_range (PyProof.Rows.callWith_type1 (thn (ha pos pins s σ H _ I h) λ us s1=>ex5 λ vs H1 I1 Z O=>?_) hs rfl))
 obtain⟨j,e,O,q2,q⟩:=O;subst e;cases Z with
 |cons r Y =>
  cases Y;obtain⟨t,rfl⟩:=r;exact call_range_1 (ar6 I1 (by omega) (by omega) O q2 (by simpa using q))
noncomputable def bH6 (wi:TI) (g:TG) (tb:TS):TS:=λ D σ H=>wi σ H λ J H1=>∃ W:Nat->Nat->St->Hp->Prop,(∃ m,W 0 m σ H1)/\∀ i m σ H,W i m σ H ->
 (J.stop i H/\D.nx σ H)\/(J.go i H/\∃ N:St->Hp->Prop,(∀ O H',N O H'->∃ Z,Z<m/\W (i+1) Z O H')/\∀ x H',J.yld i H x H'->g x σ H' λ Y H2=>tb {D with nx:=N,ct:=N,bk:=D.nx} Y H2)
noncomputable def L_0 (O:List Addr) (h:Heap):List (Addr×Obj):=O.filterMap λ b=>(h.get? b).map λ o=>(b,o)
theorem q_4 {O:List Addr}{h:Heap}{b:Addr}{o:Obj} (Y:b∈O) (e:h.get? b=some o):(b,o)∈L_0 O h:=List.mem_filterMap.mpr ⟨b,Y,by rw[e];rfl⟩
theorem ag7 {O:List Addr}{h:Heap}{p:Addr×Obj} (Z:p∈L_0 O h):p.1∈O/\h.get? p.1=some p.2:=by
 obtain⟨b,hb,e⟩:=List.mem_filterMap.mp Z;cases q:h.get? b with
 |none=>rw[q] at e;cases e
 |some o =>
  rw[q] at e;have Y:(b,o)=p:=qi e;subst Y;exact⟨hb,q⟩
theorem Inv.pinned {pins:List (Addr×Obj)}{σ:St}{H:Hp}{s:Shared}{O:List Addr} (I:Inv X pins σ H s) (hf:∀ b∈O,Y_6 X pins H b) (ho:∀ b∈O,∃ o,s.heap.get? b=some o/\∀ v,o.data≠.cell v):Inv X (pins++L_0 O s.heap) σ H s :=
 I.pins_of λ p hp=>(qw hp).elim (λ z=>I.pin p (qo _ z)) λ z=>by
  obtain⟨Y,e⟩:=ag7 z;obtain⟨f0,f1,f2,_⟩:=hf p.1 Y;obtain⟨o,Z,d⟩:=ho p.1 Y;rw[e] at Z;cases Z;exact⟨e,f0,f1,f2,d⟩
theorem Inv.unpinned {pins Y:List (Addr×Obj)}{σ:St}{H:Hp}{s:Shared} (I:Inv X (pins++Y) σ H s):Inv X pins σ H s:=I.pins_of λ p O=>I.pin p (qo _ (qp _ O))
theorem V_1 {iter:Expr}{ad:List Stmt}{wi:TI}{g:TG}{tb:TS}{pos:Pos} (hp:PassesOwn (model X.prog X.w) X.A X.env X.xe) (hc:X.calm=true) (hi:PI X tg iter wi) (hg:PG X tg g) (hb:PSs X ad tb)
  (hs:∀ x,foldedSetIterable iter X.env x=pure x:=by intro _;rfl):PS X (.For tg iter ad [] pos) (bH6 wi g tb):=by
 intro pins s σ H D I h;refine wpAny_For (thn (hi pins s σ H _ I h) λ v s1 h1=>thn h1 λ al s2 h2=>?_) hs
 obtain⟨it,fp,tn,J,H2,e,I2,T,ai,f2,W,⟨m0,w0⟩,af⟩:=h2;subst e;have ab:∀ {H':Hp},(∀ b∈fp,H' b=none)->∀ b∈fp,Y_6 X pins H' b:=λ hn b hb=>⟨hn b hb,(f2 b hb).2⟩
 refine codeAny_forLoop_any (λ n s'=>∃ i ac H',Inv X pins ac H' s'/\tn i s'.heap/\(∀ b∈fp,H' b=none)/\W i n ac H') ?_ m0 ⟨0,σ,H2,I2,ai,λ b hb=>(f2 b hb).1,w0⟩
 rintro n s3 ⟨i,Z,H3,I3,ah,ag,w3⟩
 rcases af i n Z H3 w3 with ⟨stop,qn⟩ | ⟨go,N,hN,step⟩
 ·refine wpAny_passesOwn hp (thn (T.done X rfl rfl rfl hc i pins s3 Z H3 X.xe I3 (ab ag) ah stop) λ r s4 Y=>?_)
  obtain⟨hr,I4⟩:=Y;subst hr;exact wpAny_execs_nil ⟨Z,H3,I4,qn⟩
 ·refine wpAny_passesOwn hp (thn (T.item X rfl rfl rfl hc i pins s3 Z H3 X.xe I3 (ab ag) ah go) λ r s4 Y=>?_)
  obtain⟨u,hr,h4⟩:=Y;subst hr;refine wpAny_passesOwn hp (thn h4 λ _ s5 Y=>?_)
  obtain⟨x,H5,I5,r5,y5,ae,ak⟩:=Y;have I5':=I5.pinned (ab ak) (T.obj _ _ ae);refine wpAny_passesOwn hp (thn (hg _ s5 Z H5 x u _ I5' r5 (step x H5 y5)) λ _ s6 Y=>?_)
  obtain⟨aj,H6,I6,q6⟩:=Y;refine wpAny_passesOwn hp (thn (hb _ s6 aj H6 _ I6 q6) λ f s7 q7=>?_)
  have aa:∀ {O:St}{H7:Hp},Inv X (pins++L_0 fp s5.heap) O H7 s7->N O H7->∃ m,m<n/\∃ i ac H',Inv X pins ac H' s7/\tn i s7.heap/\(∀ b∈fp,H' b=none)/\W i m ac H':=λ {O H7} I7 n7=>by
   obtain⟨m',hm,w7⟩:=hN O H7 n7;refine⟨m',hm,i+1,O,H7,I7.unpinned,T.keep _ _ _ ae λ b hb o e=>(I7.pin (b,o) (qo _ (qo _ (q_4 hb e)))).1,λ b hb=>?_,w7⟩
   obtain⟨o,e,d⟩:=T.obj _ _ ae b hb;exact (I7.pin (b,o) (qo _ (qo _ (q_4 hb e)))).2.1
  cases f with
  |next=>obtain⟨O,H7,I7,n7⟩:=q7;exact aa I7 n7
  |cont=>obtain⟨O,H7,I7,n7⟩:=q7;exact aa I7 n7
  |brk=>obtain⟨O,H7,I7,q7⟩:=q7;exact⟨O,H7,I7.unpinned,q7⟩
  |ret v=>obtain⟨x7,O,H7,I7,r7,q7⟩:=q7;exact⟨x7,O,H7,I7.unpinned,r7,q7⟩
end
abbrev R2:=V->V->Hp->VK->Prop
noncomputable def OpR (X:Cx) (f:Value->Value->Sem Value) (r:R2):Prop :=
 ∀ (pins:List (Addr×Obj)) (s:Shared) (σ:St) (H:Hp) (x y:V) (v u:Value) (Q:VK),Inv X pins σ H s->RelV x v->RelV y u->r x y H Q ->
  wpAny (model X.prog X.w) X.A (f v u) (EP X pins σ Q) X.xe s
noncomputable def UnR (X:Cx) (f:Value->Sem Value) (r:V->Hp->VK->Prop):Prop :=
 ∀ (pins:List (Addr×Obj)) (s:Shared) (σ:St) (H:Hp) (x:V) (v:Value) (Q:VK),Inv X pins σ H s->RelV x v->r x H Q ->
  wpAny (model X.prog X.w) X.A (f v) (EP X pins σ Q) X.xe s
noncomputable def CallR (X:Cx) (f:Value) (r:List V->Hp->VK->Prop):Prop :=
 ∀ (pins:List (Addr×Obj)) (s:Shared) (σ:St) (H:Hp) (xs:List V) (us:List Value) (Q:VK),Inv X pins σ H s->Vals xs us->r xs H Q ->
  wpAny (model X.prog X.w) X.A (call f us) (EP X pins σ Q) X.xe s
noncomputable def bP0 (X:Cx) (r:V->Hp->(Bool->Hp->Prop)->Prop):Prop :=
 ∀ (pins:List (Addr×Obj)) (s:Shared) (σ:St) (H:Hp) (x:V) (v:Value) (Q:Bool->Hp->Prop),Inv X pins σ H s->RelV x v->r x H Q ->
  wpAny (model X.prog X.w) X.A (truthy v) (TP X pins σ Q) X.xe s
noncomputable def tOp (r:R2) (ta tb:TE):TE:=λ σ H Q=>ta σ H λ x H1=>tb σ H1 λ y H2=>r x y H2 Q
noncomputable def tUn (r:V->Hp->VK->Prop) (ta:TE):TE:=λ σ H Q=>ta σ H λ x H1=>r x H1 Q
noncomputable def rI (C:Int->Int->Prop) (g:Int->Int->V):R2:=λ x y H Q=>∃ i j,x=.int i/\y=.int j/\C i j/\Q (g i j) H
noncomputable def rI0 (g:Int->Int->V):R2:=λ x y H Q=>∃ i j,x=.int i/\y=.int j/\Q (g i j) H
noncomputable def rU (g:Int->V):V->Hp->VK->Prop:=λ x H Q=>∃ i,x=.int i/\Q (g i) H
section
variable {X:Cx}{a b c:Expr}{ta tb tc:TE}{pos:Pos}
theorem bx3 (ha:PE X a ta) (hb:PE X b tb) {pins:List (Addr×Obj)}{s:Shared}{σ:St}{H:Hp}{R:V->V->Hp->Prop} (I:Inv X pins σ H s)
  (h:ta σ H λ x H1=>tb σ H1 λ y H2=>R x y H2) {Q:Value->Shared->Prop}{f:Value->Value->Sem Value}
  (hf:∀ v u Z x y H2,Inv X pins σ H2 Z->RelV x v->RelV y u->R x y H2->wpAny (model X.prog X.w) X.A (f v u) Q X.xe Z) :
  wpAny (model X.prog X.w) X.A (eval a X.env) (λ v Y=>wpAny (model X.prog X.w) X.A (eval b X.env) (λ u O=>wpAny (model X.prog X.w) X.A (f v u) Q X.xe O) X.xe Y) X.xe s:=by
 refine thn (ha pins s σ H _ I h) λ v s1=>ex5 λ x H1 I1 r1 q1=>?_
 refine thn (hb pins s1 σ H1 _ I1 q1) λ u Z=>ex5 λ y H2 I2 r2 q2=>?_
 exact hf v u Z x y H2 I2 r1 r2 q2
theorem bq6 {op:Operator}{r:R2} (ho:OpR X (binaryOp op) r) (ha:PE X a ta) (Y:PE X b tb):PE X (.BinOp a op b pos) (tOp r ta tb):=by
 intro pins s σ H Q I h;exact wpAny_BinOp (bx3 ha Y I h λ v u O x y H2 Z rx ry q=>ho pins O σ H2 x y v u Q Z rx ry q)
theorem aZ2 {op:UnaryOp}{r:V->Hp->VK->Prop} (ho:UnR X (unaryOp op) r) (ha:PE X a ta):PE X (.UnaryOp op a pos) (tUn r ta):=by
 intro pins s σ H Q I h;exact UnaryOp_ (thn (ha pins s σ H _ I h) λ v s1=>ex5 λ x H1 Z Y O=>ho pins s1 σ H1 x v Q Z Y O)
theorem opI {f:Value->Value->Sem Value}{C:Int->Int->Prop}{g:Int->Int->Int}
  (O:∀ (i j:Int) (t u:Tok) (s:Shared) (Q:Value->Shared->Prop) (E:Value->Shared->Prop),C i j->Q (.int (g i j) s.toks) {s with toks:=s.toks+1}->wpAny (model X.prog X.w) X.A (f (.int i t) (.int j u)) Q E s) :
  OpR X f (rI C λ i j=>.int (g i j)):=by
 intro pins s σ H x y v u Q I rx Z h;obtain⟨i,j,rfl,rfl,Y,q⟩:=h;obtain⟨t,rfl⟩:=rx;obtain⟨t',rfl⟩:=Z;exact O i j t t' s _ _ Y ⟨.int (g i j),H,I.tok _,⟨_,rfl⟩,q⟩
theorem bi8 {f:Value->Value->Sem Value}{g:Int->Int->Int}
  (O:∀ (i j:Int) (t u:Tok) (s:Shared) (Q:Value->Shared->Prop) (E:Value->Shared->Prop),Q (.int (g i j) s.toks) {s with toks:=s.toks+1}->wpAny (model X.prog X.w) X.A (f (.int i t) (.int j u)) Q E s) :
  OpR X f (rI0 λ i j=>.int (g i j)):=by
 intro pins s σ H x y v u Q I Z Y h;obtain⟨i,j,rfl,rfl,q⟩:=h;obtain⟨t,rfl⟩:=Z;obtain⟨t',rfl⟩:=Y;exact O i j t t' s _ _ ⟨.int (g i j),H,I.tok _,⟨_,rfl⟩,q⟩
theorem bi9 {f:Value->Value->Sem Value}{g:Int->Int->Bool}
  (O:∀ (i j:Int) (t u:Tok) (s:Shared) (Q:Value->Shared->Prop) (E:Value->Shared->Prop),Q (.bool (g i j)) s->wpAny (model X.prog X.w) X.A (f (.int i t) (.int j u)) Q E s) :
  OpR X f (rI0 λ i j=>.bl (g i j)):=by
 intro pins s σ H x y v u Q I Z Y h;obtain⟨i,j,rfl,rfl,q⟩:=h;obtain⟨t,rfl⟩:=Z;obtain⟨t',rfl⟩:=Y;exact O i j t t' s _ _ ⟨.bl (g i j),H,I,rfl,q⟩
noncomputable def bP2 (i j:Int):Prop:=0<=j/\j<=1000000/\i.natAbs<2 ^ 64
noncomputable def CMul (i j:Int):Prop:=(-(2 ^ 64)<i/\i<2 ^ 64)\/(-(2 ^ 64)<j/\j<2 ^ 64)
theorem CMul.ok {i j:Int} (h:CMul i j):IntMulOk i j:=by
 rcases h with ⟨h1,h2⟩ | ⟨h1,h2⟩
 ·exact .of_left (intBits_le_64 h1 h2)
 ·exact .of_right (intBits_le_64 h1 h2)
theorem Z_1 (k:Nat):(0:Int)<=2 ^ k:=by
 rw[two_pow_cast];exact Int.natCast_nonneg _
theorem op_add:OpR X (binaryOp .Add) (rI0 λ i j=>.int (i+j)):=bi8 λ _ _ _ _ _ _ _ q=>add_int q
theorem ba2:OpR X (binaryOp .Sub) (rI0 λ i j=>.int (i-j)):=bi8 λ _ _ _ _ _ _ _ q=>sub_int q
theorem aK6:OpR X (binaryOp .Mod) (rI (λ _ j=>j≠0) λ i j=>.int (i.fmod j)):=opI λ _ _ _ _ _ _ _ O q=>mod_int' O q
theorem ba4:OpR X (binaryOp .Pow) (rI bP2 λ i j=>.int (i ^ j.toNat)):=opI λ _ _ _ _ _ _ _ O q=>pow_int_small O.1 O.2.1 O.2.2 q
theorem ba3:OpR X (binaryOp .RShift) (rI (λ _ j=>0<=j) λ i j=>.int (i / 2 ^ j.toNat)):=opI λ i j _ _ _ _ _ O q =>
 rshift_int O (by rw[Int.fdiv_eq_ediv_of_nonneg i (Z_1 _)];exact q)
theorem ba8:OpR X (binaryOp .BitAnd) (rI0 λ i j=>.int (Builtin.bitAnd i j)):=bi8 λ _ _ _ _ _ _ _ q=>and_int q
theorem ba1:OpR X (binaryOp .BitXor) (rI0 λ i j=>.int (Builtin.bitXor i j)):=bi8 λ _ _ _ _ _ _ _ q=>xor_int q
theorem unI {f:Value->Sem Value}{g:Int->Int}
  (O:∀ (i:Int) (t:Tok) (s:Shared) (Q:Value->Shared->Prop) (E:Value->Shared->Prop),Q (.int (g i) s.toks) {s with toks:=s.toks+1}->wpAny (model X.prog X.w) X.A (f (.int i t)) Q E s) :
  UnR X f (rU λ i=>.int (g i)):=by
 intro pins s σ H x v Q I Y h;obtain⟨i,rfl,q⟩:=h;obtain⟨t,rfl⟩:=Y;exact O i t s _ _ ⟨.int (g i),H,I.tok _,⟨_,rfl⟩,q⟩
theorem ay1:UnR X (unaryOp .USub) (rU λ i=>.int (-i)):=unI λ _ _ _ _ _ q=>neg_int q
end
section
variable {X:Cx}{a b c:Expr}{ta tb tc:TE}{pos:Pos}
theorem ak3 {pins:List (Addr×Obj)}{σ:St}{H:Hp}{s:Shared}{Q:VK}{k O:Bool} (I:Inv X pins σ H s) (q:Q (.bl k) H) (e:k=O):EP X pins σ Q (.bool O) s:=by
 subst e;exact⟨.bl k,H,I,rfl,q⟩
theorem bq9:OpR X (compareOp .Lt) (rI0 λ i j=>.bl (decide (i<j))):=bi9 λ _ _ _ _ _ _ _ q=>lt_int q
theorem br0:OpR X (compareOp .LtE) (rI0 λ i j=>.bl (decide (i<=j))):=bi9 λ _ _ _ _ _ _ _ q=>le_int q
theorem br1:OpR X (compareOp .Gt) (rI0 λ i j=>.bl (decide (j<i))):=bi9 λ _ _ _ _ _ _ _ q=>gt_int q
theorem br2:OpR X (compareOp .GtE) (rI0 λ i j=>.bl (decide (j<=i))):=bi9 λ _ _ _ _ _ _ _ q=>ge_int q
theorem af9:OpR X (compareOp .In) (λ x y H Q=>∃ i j,x=.str i/\y=.str j/\Q (.bl (!(Builtin.Str.occurrences j i 0 j.length 1).isEmpty)) H):=by
 intro pins s σ H x y v u Q I Y O h;obtain⟨i,j,rfl,rfl,q⟩:=h;obtain⟨t,rfl⟩:=Y;obtain⟨t',rfl⟩:=O;exact in_str (ak3 I q rfl)
theorem ba6:OpR X (compareOp .Is) (λ x y H Q=>y=.non/\Q (.bl (decide (x=.non))) H):=by
 intro pins s σ H x y v u Q I O Y h;obtain⟨rfl,q⟩:=h;cases Y;refine is_none_gen (ak3 I q ?_);cases x <;> first
  |(cases O;rfl)
  |(obtain⟨t,rfl⟩:=O;rfl)
theorem aK5:OpR X (compareOp .IsNot) (λ x y H Q=>y=.non/\Q (.bl (!decide (x=.non))) H):=by
 intro pins s σ H x y v u Q I O Y h;obtain⟨rfl,q⟩:=h;cases Y;refine isnot_none_gen (ak3 I q ?_);cases x <;> first
  |(cases O;rfl)
  |(obtain⟨t,rfl⟩:=O;rfl)
theorem OpR.or {f:Value->Value->Sem Value}{r O:R2} (h:OpR X f r) (h':OpR X f O):OpR X f (λ x y H Q=>r x y H Q\/O x y H Q):=by
 intro pins s σ H x y v u Q I Z Y q
 rcases q with q | q
 ·exact h pins s σ H x y v u Q I Z Y q
 ·exact h' pins s σ H x y v u Q I Z Y q
theorem az4 (b:Expr) {op:CmpOp} (h:op≠.In:=by decide) (h2:op≠.NotIn:=by decide):behindInMarks op b=false:=by
 have e1:(op==CmpOp.In)=false:=by cases op <;> first | rfl | exact absurd rfl h
 have e2:(op==CmpOp.NotIn)=false:=by cases op <;> first | rfl | exact absurd rfl h2
 cases b <;> simp[behindInMarks,e1,e2]
theorem aK3 {op:CmpOp}{r:R2} (ho:OpR X (compareOp op) r) (ha:PE X a ta) (Y:PE X b tb) (hm:behindInMarks op b=false):PE X (.Compare a [op] [b] pos) (tOp r ta tb):=by
 intro pins s σ H Q I h;exact wpAny_Compare1 (bx3 ha Y I h λ v u O x y H2 Z rx ry q=>ho pins O σ H2 x y v u Q Z rx ry q) hm
noncomputable def aG3 (t:TE):TT:=λ σ H Q=>t σ H λ x H'=>∃ k,x=.bl k/\Q k H'
theorem aJ2 {op:CmpOp}{r:R2} (ho:OpR X (compareOp op) r) (ha:PE X a ta) (hb:PE X b tb) (hm:behindInMarks op b=false):PT X (.Compare a [op] [b] pos) (aG3 (tOp r ta tb)):=by
 intro pins s σ H Q I h;refine wpAny_isTrue_Compare1 (thn (ha pins s σ H _ I h) λ v s1=>ex5 λ x H1 I1 r1 Z=>thn (hb pins s1 σ H1 _ I1 Z) λ u O=>ex5 λ y H2 I2 r2 q2 =>
  thn (ho pins O σ H2 x y v u _ I2 r1 r2 q2) λ c s3 ⟨z,Y,I3,r3,k,e,q3⟩=>?_) hm
 subst e;cases r3;exact wpAny_truthy_bool ⟨Y,I3,q3⟩
noncomputable def ay4 (r Z:R2) (ta tb tc:TE):TE:=λ σ H Q=>ta σ H λ x H1=>tb σ H1 λ y H2=>r x y H2 λ z O=>∃ k,z=.bl k /\
 (if k=true then tc σ O λ Y H4=>Z y Y H4 Q else Q (.bl false) O)
theorem ar9 {op O:CmpOp}{r r':R2} (ho:OpR X (compareOp op) r) (Z:OpR X (compareOp O) r') (ha:PE X a ta) (hb:PE X b tb) (hc:PE X c tc)
  (hm:lastMarks [op,O] [b,c]=false:=by with_unfolding_all rfl):PT X (.Compare a [op,O] [b,c] pos) (aG3 (ay4 r r' ta tb tc)):=by
 intro pins s σ H Q I h;refine isTrue_chain (thn (ha pins s σ H _ I h) λ v s1=>ex5 λ x H1 I1 r1 q1=>test_link (thn (hb pins s1 σ H1 _ I1 q1) λ u s2=>ex5 λ y H2 I2 r2 q2 =>
  thn (ho pins s2 σ H2 x y v u _ I2 r1 r2 q2) λ d s3 ⟨z,H3,I3,r3,k,e,q3⟩=>?_)) hm
 subst e;cases r3;refine wpAny_truthy_bool ?_;cases k with
 |false =>
  obtain⟨k',e',q'⟩:=q3;cases e';exact ite_ff ⟨H3,I3,q'⟩
 |true =>
  refine ite_tt (test_last (thn (hc pins s3 σ H3 _ I3 q3) λ w' s4=>ex5 λ z' H4 I4 r4 q4=>thn (Z pins s4 σ H4 y z' u w' _ I4 r2 r4 q4) λ d' s5 Y=>?_))
  obtain⟨z2,H5,I5,r5,k2,e2,q5⟩:=Y;subst e2;cases r5;exact wpAny_truthy_bool ⟨H5,I5,q5⟩
noncomputable def by0 (K:Frag) (x:V) (H:Hp) (k:Bool):Prop :=
 match x with
 |.non=>k=false
 |.bl b=>k=b
 |.int i=>k=(i != 0)
 |.str y=>y.length<=sizeLine/\k=((y.length:Int) != 0)
 |.byt y=>y.size<=sizeLine/\k=((y.size:Int) != 0)
 |.ref p=>(∃ xs,SqL K H p xs/\k=!xs.isEmpty)\/(∃ xs,SqT K H p xs/\k=!xs.isEmpty)\/∃ kvs,H p=some (.dK kvs)/\k=!kvs.isEmpty
 |_=>False
theorem aa8 {κ:Type}{kvs:List (κ×V)}{vs:List (κ×Value)} (r:KV kvs vs):(!vs.isEmpty)=!kvs.isEmpty:=by
 cases r <;> rfl
theorem D_7 {xs:List V}{O:List Value} (r:Vals xs O):(!O.toArray.isEmpty)=!xs.isEmpty:=by
 cases r <;> simp
theorem D_6:(sizeLine:Nat)<2 ^ 63:=by rw[sizeLine_eq];decide
theorem aV2:bP0 X (λ x H Q=>∃ k,by0 X.K x H k/\Q k H):=by
 intro pins s σ H x v Q I Z h;obtain⟨k,e,q⟩:=h;have hl:=D_6;have hs:sizeLine=16777216:=sizeLine_eq;cases x with
 |non =>
  cases Z;have O:k=false:=e;subst O;exact truthy_none ⟨H,I,q⟩
 |bl b =>
  cases Z;have O:k=b:=e;subst O;exact wpAny_truthy_bool ⟨H,I,q⟩
 |int i =>
  obtain⟨t,rfl⟩:=Z;have O:k=(i != 0):=e;subst O;exact PySem.P.truthy_int ⟨H,I,q⟩
 |str y =>
  obtain⟨t,rfl⟩:=Z;obtain⟨hy,O⟩:y.length<=sizeLine/\k=((y.length:Int) != 0):=e;subst O;exact PySem.P.truthy_str (by omega) ⟨H,I.tok _,q⟩
 |byt y =>
  obtain⟨t,rfl⟩:=Z;obtain⟨hy,O⟩:y.size<=sizeLine/\k=((y.size:Int) != 0):=e;subst O;exact PySem.W.truthy_bytes (by omega) ⟨H,I.tok _,q⟩
 |ref p =>
  cases Z;have O:(∃ xs,SqL X.K H p xs/\k=!xs.isEmpty)\/(∃ xs,SqT X.K H p xs/\k=!xs.isEmpty)\/∃ kvs,H p=some (.dK kvs)/\k=!kvs.isEmpty:=e
  rcases O with ⟨xs,hx,O⟩ | ⟨xs,hx,O⟩ | ⟨kvs,hx,O⟩
  ·subst O
   obtain⟨aa,r,pl,hz⟩:=I.list hx;have Y:=r.length;exact wpAny_truthy_list pl.isList (by simp only[List.size_toArray];omega) ⟨H,I.tok _,by rw[D_7 r];exact q⟩
  ·subst O
   obtain⟨aa,r,pl,hz⟩:=I.tuple hx;have Y:=r.length;exact truthy_tuple pl (by simp only[List.size_toArray];omega) ⟨H,I.tok _,by rw[D_7 r];exact q⟩
  ·subst O
   obtain⟨hz,hS,vs,r,m⟩:kvs.length<=sizeLine/\(p==sysModules)=false/\∃ vs,KV kvs vs/\s.heap.DictOf (c_0 X.prog X.w) p vs:=I.hok p _ hx;have Y:kvs.length=vs.length:=Paired.length r;exact wpAny_truthy_dict hS m (by omega) ⟨H,I.tok _,by rw[aa8 r];exact q⟩
 |_=>exact (show False from e).elim
theorem ar8 (ha:PE X a ta) (Y:∀ O,isTrue a X.env O=(do let v <- O;standAt a.pos;holding [v] (truthy v))) :
  PT X a (λ σ H Q=>ta σ H λ x H'=>∃ k,by0 X.K x H' k/\Q k H'):=by
 intro pins s σ H Q I h;exact isTrue_plain (thn (ha pins s σ H _ I h) λ v s1=>ex5 λ x H1 I1 r1 Z=>aV2 pins s1 σ H1 x v Q I1 r1 Z) (Y _)
theorem op_add_str:OpR X (binaryOp .Add) (λ x y H Q=>∃ i j,x=.str i/\y=.str j/\i.length+j.length<=sizeLine/\Q (.str (i++j)) H):=by
 intro pins s σ H x y v u Q I Y O h;obtain⟨i,j,rfl,rfl,hz,q⟩:=h;obtain⟨t,rfl⟩:=Y;obtain⟨t',rfl⟩:=O;exact add_str (λ t' tk=>⟨.str (i++j),H,I.tok _,⟨_,rfl⟩,q⟩) hz
theorem r_0 {x:V}{us:List Value} (r:Vals [x] us):∃ u,us=[u]/\RelV x u:=by
 cases r with
 |cons O Y=>cases Y;exact⟨_,rfl,O⟩
theorem ap8 {x y:V}{us:List Value} (r:Vals [x,y] us):∃ u O,us=[u,O]/\RelV x u/\RelV y O:=by
 cases r with
 |cons Y r2 =>
  cases r2 with
  |cons r3 Z=>cases Z;exact⟨_,_,rfl,Y,r3⟩
theorem aw0:CallR X (.builtin "abs") (λ xs H Q=>∃ i,xs=[.int i] ∧ Q (.int (if i<0 then -i else i)) H):=by
 intro pins s σ H xs us Q I r h;obtain⟨i,rfl,q⟩:=h;obtain⟨u,rfl,t,rfl⟩:=r_0 r;exact call_abs_int λ u tk=>⟨.int (if i<0 then -i else i),H,I.tok _,⟨_,rfl⟩,q⟩
theorem an2 (Y:X.calm=true):CallR X (.builtin "max") (λ xs H Q=>∃ i j,xs=[.int i,.int j] ∧ Q (.int (if j > i then j else i)) H):=by
 intro pins s σ H xs us Q I r h;obtain⟨i,j,rfl,q⟩:=h;obtain⟨u,Z,rfl,⟨t,rfl⟩,⟨t',rfl⟩⟩:=ap8 r;refine max_two_ints (I.ok.hd Y) λ h' tk k=>⟨_,H,I.kept k,?_,q⟩
 by_cases O:j > i
 ·rw[if_pos O,if_pos O];exact⟨_,rfl⟩
 ·rw[if_neg O,if_neg O];exact⟨_,rfl⟩
theorem an0 (Y:X.calm=true):CallR X (.builtin "min") (λ xs H Q=>∃ i j,xs=[.int i,.int j] ∧ Q (.int (if j<i then j else i)) H):=by
 intro pins s σ H xs us Q I r h;obtain⟨i,j,rfl,q⟩:=h;obtain⟨u,Z,rfl,⟨t,rfl⟩,⟨t',rfl⟩⟩:=ap8 r;refine min_two_ints (I.ok.hd Y) λ h' tk k=>⟨_,H,I.kept k,?_,q⟩
 by_cases O:j<i
 ·rw[if_pos O,if_pos O];exact⟨_,rfl⟩
 ·rw[if_neg O,if_neg O];exact⟨_,rfl⟩
theorem an3:CallR X (.type "int") (λ xs H Q=>(∃ i,xs=[.int i] ∧ Q (.int i) H) ∨ ∃ k,xs=[.bl k] ∧ Q (.int (if k then 1 else 0)) H):=by
 intro pins s σ H xs us Q I r h
 rcases h with ⟨i,rfl,q⟩ | ⟨k,rfl,q⟩
 ·obtain⟨u,rfl,t,rfl⟩:=r_0 r
  exact call_int_int ⟨.int i,H,I,⟨_,rfl⟩,q⟩
 ·obtain⟨u,rfl,O⟩:=r_0 r
  cases O;exact call_int_bool ⟨.int (if k then 1 else 0),H,I.tok _,⟨_,rfl⟩,q⟩
end
structure ObjM (h:Heap) (x dx C:Addr) (mA:Str->Option Value):Prop where
 obj:h.get? x=some (PySem.W.instObj C dx)
 ns:h.Ns1 dx mA
 ne:dx≠x
theorem RelO.some_of {v:V}{o:Option Value} (r:RelO (some v) o):∃ u,o=some u/\RelV v u:=by
 cases o with
 |none=>exact (show False from r).elim
 |some u=>exact⟨u,rfl,r⟩
structure Cls (K:Frag) (C:Addr):Prop where
 pg:PySem.W.plainGet K C Str.empty=true
 hd:PySem.W.hasDictIn K C=true
 po:PySem.W.plainOver K C=true
 sa:PySem.W.findIn K (.ref C) "__setattr__"=some (some (.builtin "object.__setattr__"))
theorem Cls.get {K:Frag}{C:Addr} (c:Cls K C) (f:Str):PySem.W.plainGet K C f=true:=c.pg
structure Con (K:Frag) (C:Addr) (f:Str) (v:V) (u:Value):Prop where
 at_:PySem.W.findIn K (.ref C) f=some (some u)
 rel:RelV v u
 get:PySem.W.specialIn K u "__get__"=some none
 cp:PySem.W.copiedNames.contains f=false
structure Meth (K:Frag) (C:Addr) (m:Str) (f:Addr):Prop where
 at_:PySem.W.findIn K (.ref C) m=some (some (.ref f))
 fn:PySem.W.isFn K (.ref f)=true
 kp:keepIn K (.ref f)=true
section
variable {X:Cx}{pins:List (Addr×Obj)}{σ:St}{H:Hp}{s:Shared}{A:Around}{E:Value->Shared->Prop}{Q:Value->Shared->Prop}{c:Value}{b:Bool}
inductive TyOf (K:Frag) (H:Hp):V->Value->Prop where
 |non:TyOf K H .non (.type "NoneType")
 |bl (x:Bool):TyOf K H (.bl x) (.type "bool")
 |int (i:Int):TyOf K H (.int i) (.type "int")
 |str (x:Str):TyOf K H (.str x) (.type "str")
 |flt (x:UInt64):TyOf K H (.flt x) (.type "float")
 |lst {a:Addr}{xs:List V} (e:H a=some (.lst xs)):TyOf K H (.ref a) (.type "list")
 |frz {a:Addr}{o:Obj}{xs:List V} (e:H a=some (.frz o (.lst xs))):TyOf K H (.ref a) (.type "list")
 |tup {a:Addr}{xs:List V} (e:H a=some (.tup xs)):TyOf K H (.ref a) (.type "tuple")
 |dK {a:Addr}{kvs:List (Key×V)} (e:H a=some (.dK kvs)):TyOf K H (.ref a) (.type "dict")
 |dT {a:Addr}{kvs:List (List Key×V)} (e:H a=some (.dT kvs)):TyOf K H (.ref a) (.type "dict")
 |ins {a C dx:Addr}{fs:List (Str×V)} (e:H a=some (.ins C dx fs)) (cl:Cls K C) (ha:PySem.W.findIn K (.ref C) "__class__"=some (some (.builtin "object.__class__")))
   (hn:PySem.W.specialIn K (.builtin "object.__class__") "__get__"=some (some (.builtin "getset_descriptor.__get__"))) (htk:PySem.W.takesIn K (.builtin "object.__class__")=some true)
   (hm:PySem.W.mroIn K C (.type "object")=some true):TyOf K H (.ref a) (.ref C)
end
structure Room (k:Nat) (A:Around):Prop where
 hd:A.handled=none
 dp:A.depth+3*k+5<recursionLimit
 un:A.units+16*k+200<cLine
theorem Room.mono {j k:Nat}{A:Around} (r:Room k A) (h:j<=k):Room j A:=⟨r.hd,by have:=r.dp;omega,by have:=r.un;omega⟩
theorem Room.deeper {k:Nat}{A:Around} (r:Room (k+1) A) (env:Env):Room k (A.deeper env) :=
 ⟨r.hd,by have:=r.dp;show A.depth+1+3*k+5<_;omega,by have:=r.un;show A.units+3+16*k+200<_;omega⟩
theorem Room.in1 {k:Nat}{A:Around} (r:Room (k+1) A):Room k A.in1 :=
 ⟨r.hd,by have:=r.dp;show A.depth+3*k+5<_;omega,by have:=r.un;show A.units+1+16*k+200<_;omega⟩
theorem Room.depth {k:Nat}{A:Around} (r:Room k A):A.depth<recursionLimit:=by have:=r.dp;omega
theorem Room.units {k:Nat}{A:Around} (r:Room k A):A.units+64<cLine:=by have:=r.un;omega
noncomputable def bH3:TA:=λ _ H Q=>Q [] H
noncomputable def bn1 (ta:TE) (O:TA):TA:=λ σ H Q=>ta σ H λ x H1=>O σ H1 λ xs H2=>Q (x::xs) H2
section
variable {X:Cx}{e:Expr}{es:List Expr}{te:TE}{t:TA}{pos:Pos}
theorem o_1:PA X [] bH3:=λ _ _ _ _ H Q I h=>Calls.spliced_nil ⟨[],H,I,.nil,h⟩
theorem f_5 (ha:PE X e te) (hr:PA X es t) (Z:starEach (e::es) X.env=(false,eval e X.env)::starEach es X.env:=by rfl):PA X (e::es) (bn1 te t):=by
 intro pos pins s σ H Q I h;rw[Z];show wpAny _ _ (spliced ((false,eval e X.env)::backTo pos (starEach es X.env))) _ _ s;refine Calls.spliced_cons (thn (ha pins s σ H _ I h) λ u s1=>ex5 λ x H1 I1 Y O=>?_)
 exact thn (hr pos pins s1 σ H1 _ I1 O) λ us s2=>ex5 λ xs H2 I2 r2 q2=>⟨x::xs,H2,I2,.cons Y r2,q2⟩
noncomputable def bG8 (t:TA):TE:=λ σ H Q=>t σ H λ xs H1=>xs.length<=sizeLine/\∀ p,H1 p=none->Q (.ref p) (upd H1 p (.tup xs))
noncomputable def bH4 (t:TA):TE:=λ σ H Q=>t σ H λ xs H1=>xs.length<=sizeLine/\∀ p,H1 p=none->Q (.ref p) (upd H1 p (.lst xs))
theorem az2 {x1} (h:PA X es t):PE X (.Tuple es x1 pos) (bG8 t):=by
 intro pins s σ H Q I Z;refine wpAny_Tuple_spliced (thn (h pos pins s σ H _ I Z) λ us O ⟨xs,H1,Y,r,z,q⟩=>⟨by rw[<- r.length];exact z,?_⟩)
 have hf:H1 O.heap.objs.size=none:=Y.hok.fresh (qj _);refine⟨.ref O.heap.objs.size,upd H1 O.heap.objs.size (.tup xs),Y.laid (t':=O.toks) (λ b u e=>qd _ e) (qj _) ?_,rfl,q _ hf⟩
 exact⟨z,us,r,⟨_,qk _ rfl,rfl,⟨_,rfl⟩,rfl⟩⟩
theorem az3 (h:PA X es t):PE X (.List es pos) (bH4 t):=by
 intro pins s σ H Q I Z;refine wpAny_List_spliced (thn (h pos pins s σ H _ I Z) λ us O ⟨xs,H1,Y,r,z,q⟩=>⟨by rw[<- r.length];exact z,?_⟩)
 have hf:H1 O.heap.objs.size=none:=Y.hok.fresh (qj _);refine⟨.ref O.heap.objs.size,upd H1 O.heap.objs.size (.lst xs),Y.laid (t':=O.toks) (λ b u e=>qd _ e) (qj _) ?_,rfl,q _ hf⟩
 exact⟨z,us,0,r,qk _ rfl⟩
end
abbrev Sp:=List V->Hp->VK->XK->Prop
abbrev CXT:=List Env->Hp->Shared->XK->Value->Shared->Prop
structure Env0 (P:Program) (w:World) (K:Frag) (mg:Str->Option Value) (base:Heap) (A:Around) (outer:List Env) (s:Shared) (H:Hp):Prop where
 frames:A.frames=some outer
 mod:Mod K mg base
 bs:∀ b o,base.get? b=some o->s.heap.get? b=some o/\H b=none
 bsz:base.objs.size<=s.heap.objs.size
 funs:s.heap.FunFrames base outer
 frf:∀ b∈frs outer,H b=none
 hok:HOk P w H s.heap
 bare:AllBare s.gens
noncomputable def CE (outer:List Env) (P:Program) (w:World) (H:Hp) (s:Shared) (Q:VK) (u:Value) (s':Shared):Prop :=
 ∃ v H',s'.os=s.os/\AllBare s'.gens/\Un (frs outer) [] H H' s.heap s'.heap/\HOk P w H' s'.heap/\RelV v u/\Q v H'
noncomputable def CR (CX:CXT) (outer:List Env) (P:Program) (w:World) (H:Hp) (s:Shared) (Q:VK) (E:XK) (r:Result) (s':Shared):Prop :=
 match r with
 |.ok (.ret u)=>CE outer P w H s Q u s'
 |.ok _=>False
 |.error e=>CX outer H s E e s'
structure FnOk (P:Program) (w:World) (K:Frag) (mg:Str->Option Value) (base:Heap) (CX:CXT) (k:Nat) (f:Addr) (fd:FuncData) (ps:List Str) (sp:Sp):Prop where
 len:∀ vs H Q E,sp vs H Q E->vs.length=ps.length
 run:∀ (A:Around) (outer:List Env) (s:Shared) (H:Hp) (args:Args) (us:List Value) (vs:List V) (Q:VK) (E:XK),Room k A->Env0 P w K mg base A outer s H->BindsTo s fd args (ps.zip us)->Vals vs us->sp vs H Q E ->
  codeAny (model P w) A (.call (.ref f) args) (CR CX outer P w H s Q E) s
theorem FnOk.mono {P:Program}{w:World}{K:Frag}{mg:Str->Option Value}{base:Heap}{CX:CXT}{j k:Nat}{f:Addr}{fd:FuncData}{ps:List Str}{sp:Sp} (F:FnOk P w K mg base CX j f fd ps sp) (h:j<=k) :
  FnOk P w K mg base CX k f fd ps sp:=⟨F.len,λ A outer s H args us vs Q E O=>F.run A outer s H args us vs Q E (O.mono h)⟩
theorem FnOk.imp {P:Program}{w:World}{K:Frag}{mg:Str->Option Value}{base:Heap}{CX:CXT}{k:Nat}{f:Addr}{fd:FuncData}{ps:List Str}{sp O:Sp} (F:FnOk P w K mg base CX k f fd ps sp)
  (h:∀ vs H Q E,O vs H Q E->sp vs H Q E):FnOk P w K mg base CX k f fd ps O :=
 ⟨λ vs H Q E q=>F.len vs H Q E (h _ _ _ _ q),λ A outer s H args us vs Q E hr Y hb hv Z=>F.run A outer s H args us vs Q E hr Y hb hv (h _ _ _ _ Z)⟩
theorem Env0.in1 {P:Program}{w:World}{K:Frag}{mg:Str->Option Value}{base:Heap}{A:Around}{outer:List Env}{s:Shared}{H:Hp} (e:Env0 P w K mg base A outer s H) :
  Env0 P w K mg base A.in1 outer s H:=⟨e.frames,e.mod,e.bs,e.bsz,e.funs,e.frf,e.hok,e.bare⟩
section
variable {X:Cx}{pins:List (Addr×Obj)}{σ:St}{H:Hp}{s s':Shared}
theorem Inv.env0 (I:Inv X pins σ H s):Env0 X.prog X.w X.K X.mg X.base X.A X.stack s H :=
 ⟨I.ok.frames,I.ok.mod,I.bs,Nat.le_trans I.ok.bsz I.sz,I.stack,I.stkFree,I.hok,I.bare⟩
theorem Inv.after {Q:VK}{u:Value} (I:Inv X pins σ H s) (h:CE X.stack X.prog X.w H s Q u s'):EP X pins σ Q u s':=by
 obtain⟨v,H',os,O,un,Z,r,q⟩:=h;obtain⟨hh,g,d,t,Y⟩:=s';obtain rfl:Y=s.os:=os;exact⟨v,H',I.call (h':=hh) (g':=g) (d':=d) (t':=t) (ch:=[]) un Z O (λ b z=>absurd z (by simp)),r,q⟩
end
noncomputable def aW1 (sp:Sp) (dvs:List V) (E:XK) (t:TA):TE:=λ σ H Q=>t σ H λ vs H1=>sp (vs++dvs) H1 Q E
noncomputable def Binds (K:Frag) (fd:FuncData) (ps:List Str) (ds:List Value):Prop :=
 ∀ (s:Shared) (us:List Value),K.In s.heap->(us++ds).length=ps.length->BindsTo s fd ⟨us,[]⟩ (ps.zip (us++ds))
theorem Binds.all {K:Frag}{fd:FuncData}{ps:List Str} (h:∀ us:List Value,us.length=ps.length->bindArgs fd ⟨us,[]⟩=pure (ps.zip us)):Binds K fd ps []:=λ s us _ O=>by
 rw[List.append_nil] at O ⊢;exact .of_eq (h us O)
noncomputable def ao4 (CX:CXT) (X:Cx) (E:XK):Prop:=∀ (pins:List (Addr×Obj)) (σ:St) (H:Hp) (s:Shared) (e:Value) (s':Shared),Inv X pins σ H s->CX X.stack H s E e s'->X.xe e s'
section
variable {X:Cx}{CX:CXT}{k:Nat}{f C:Addr}{fd:FuncData}{ps:List Str}{sp:Sp}{dvs:List V}{ds:List Value}{E:XK}{x m:Str}{p pos apos:Pos}{e o:Expr}{es:List Expr}{ta:TE}{t:TA}
theorem U_5 {pins:List (Addr×Obj)}{σ:St}{H:Hp}{s:Shared}{Q:VK}{us:List Value}{vs:List V} (F:FnOk X.prog X.w X.K X.mg X.base CX k f fd ps sp) (hr:Room k X.A) (Z:Binds X.K fd ps ds) (hd:Vals dvs ds) (hx:ao4 CX X E)
  (I:Inv X pins σ H s) (r:Vals vs us) (h:sp (vs++dvs) H Q E):wpAny (model X.prog X.w) X.A (call (.ref f) us) (EP X pins σ Q) X.xe s:=by
 have Y:Vals (vs++dvs) (us++ds):=r.append hd;have hl:(us++ds).length=ps.length:=by rw[<- Y.length];exact F.len _ _ _ _ h
 refine wpAny_call (codeAny_mono (F.run X.A X.stack s H ⟨us,[]⟩ (us++ds) (vs++dvs) Q E hr I.env0 (Z s us I.kIn hl) Y h) λ r s' O=>?_)
 cases r with
 |error e=>exact hx pins σ H s e s' I O
 |ok fl =>
  cases fl with
  |ret u=>exact I.after O
  |next=>exact False.elim O
  |brk=>exact False.elim O
  |cont=>exact False.elim O
theorem af1 (F:FnOk X.prog X.w X.K X.mg X.base CX k f fd ps sp) (hr:Room k X.A) (hg:Gl X x) (hm:X.mg x=some (.ref f)) (hk:keepIn X.K (.ref f)=true) (hb:Binds X.K fd ps ds) (hd:Vals dvs ds) (hx:ao4 CX X E)
  (ha:PA X (e::es) t) (Y:(x==("__debug__":Str))=false:=by decide) (he:starEach (e::es) X.env=(false,eval e X.env)::starEach es X.env:=by rfl) (O:(backTo pos (starEach es X.env)).any (·.1)=false:=by rfl) :
  PE X (.Call (.Name x p) (e::es) [] pos) (aW1 sp dvs E t):=by
 intro pins s σ H Q I h;refine wpAny_Call_Name_kw (G_8 I hg hm ?_ Y);refine PySem.W.callWith_K (h₀:=X.base) I.ok.mod.kin hk (thn (ha pos pins s σ H _ I h) λ us s1=>ex5 λ vs H1 Z r q=>⟨Z.kIn,?_⟩) he O
 exact U_5 F hr hb hd hx Z r q
structure Mk (K:Frag) (C f:Addr):Prop where
 makes:PySem.W.makesIn K C=true
 init:PySem.W.findIn K (.ref C) "__init__"=some (some (.ref f))
 fn:PySem.W.isFn K (.ref f)=true
 kp:keepIn K (.ref C)=true
end
section
variable {X:Cx}{CX:CXT}{k:Nat}{f C:Addr}{fd:FuncData}{ps ks:List Str}{sp:Sp}{E:XK}{x m:Str}{p pos apos kpos:Pos}{e o:Expr}{es:List Expr}{kws:List Keyword}{te ta:TE}{t tk:TA}{nm:Option Str}
structure KBinds (K:Frag) (fd:FuncData) (ps ks:List Str) (g:List Value->List Value->List Value) (gV:List V->List V->List V):Prop where
 to:∀ (s:Shared) (us ws:List Value),K.In s.heap->(g us ws).length=ps.length->BindsTo s fd ⟨us,ks.zip ws⟩ (ps.zip (g us ws))
 rel:∀ {vs:List V}{us:List Value}{zs:List V}{ws:List Value},Vals vs us->Vals zs ws->Vals (gV vs zs) (g us ws)
variable {g:List Value->List Value->List Value}{gV:List V->List V->List V}
end
structure FnScope (N P:List Str) (sc:Scope):Prop where
 kind:sc.kind=.function
 co:sc.isCoroutine=false
 gen:sc.isGenerator=false
 nd:N.Nodup
 pre:N.take P.length=P
 par:∀ x∈P,sc.names.lookup x=some .local\/sc.names.lookup x=some .cell
 nofree:∀ y∈sc.names,y.2≠.free
theorem O_1 {O:Str->Option NameKind}{x:Str}:∀ {binds:List (Str×Value)}{m:Str->Option Value},(∀ v,(x,v)∉binds)->bindL O binds m x=m x
 |[],_,_=>rfl
 |(n,v)::r,m,h=>by
  unfold bindL;rw[O_1 λ w Y=>h w (List.mem_cons_of_mem _ Y)]
  split
  ·have:x≠n:=by rintro rfl;exact h v qf
   simp[this]
  ·rfl
theorem O_3 {O:Str->Option NameKind}{x:Str}:∀ {binds:List (Str×Value)}{m:Str->Option Value},(∀ v,(x,v)∉binds)->bindC O binds m x=m x
 |[],_,_=>rfl
 |(n,v)::r,m,h=>by
  unfold bindC;rw[O_3 λ w Y=>h w (List.mem_cons_of_mem _ Y)]
  split
  ·rfl
  ·have:x≠n:=by rintro rfl;exact h v qf
   simp[this]
theorem O_2 {O:Str->Option NameKind}{x:Str}{v:Value}:∀ {P:List Str}{vs:List Value}{i:Nat}{m:Str->Option Value},P.Nodup->P[i]?=some x->vs[i]?=some v->O x=some .local ->
  bindL O (P.zip vs) m x=some v
 |[],_,_,_,_,h,_,_=>by simp at h
 |_::_,[],_,_,_,_,h,_=>by simp at h
 |p::P,w::vs,0,m,nd,h1,h2,hk=>by
  simp at h1 h2;subst h1;subst h2;show bindL O ((p,w)::P.zip vs) m p=_;unfold bindL;rw[O_1 λ v Y=>(List.nodup_cons.mp nd).1 (List.of_mem_zip Y).1,if_pos hk]
  simp
 |p::P,w::vs,i+1,m,nd,h1,h2,hk=>by
  show bindL O ((p,w)::P.zip vs) m x=_;unfold bindL;exact O_2 (i:=i) (List.nodup_cons.mp nd).2 (by simpa using h1) (by simpa using h2) hk
theorem O_4 {O:Str->Option NameKind}{x:Str}{v:Value}:∀ {P:List Str}{vs:List Value}{i:Nat}{m:Str->Option Value},P.Nodup->P[i]?=some x->vs[i]?=some v->O x≠some .local ->
  bindC O (P.zip vs) m x=some v
 |[],_,_,_,_,h,_,_=>by simp at h
 |_::_,[],_,_,_,_,h,_=>by simp at h
 |p::P,w::vs,0,m,nd,h1,h2,hk=>by
  simp at h1 h2;subst h1;subst h2;show bindC O ((p,w)::P.zip vs) m p=_;unfold bindC;rw[O_3 λ v Y=>(List.nodup_cons.mp nd).1 (List.of_mem_zip Y).1,if_neg hk]
  simp
 |p::P,w::vs,i+1,m,nd,h1,h2,hk=>by
  show bindC O ((p,w)::P.zip vs) m x=_;unfold bindC;exact O_4 (i:=i) (List.nodup_cons.mp nd).2 (by simpa using h1) (by simpa using h2) hk
noncomputable def start (N:List Str) (vs:List V):St:=vs.map some++List.replicate (N.length-vs.length) none
noncomputable def aC2 (CX:CXT) (P:Program) (w:World) (K:Frag) (mg:Str->Option Value) (base:Heap) (N:List Str) (O:Str) (scope:Scope) (f:Addr) (Z:Value) (A:Around) (outer:List Env) (s:Shared) (H:Hp) (E:XK):Cx where
 prog:=P
 w:=w
 K:=K
 mg:=mg
 base:=base
 A:=A.deeper (envOfC O scope s.heap.objs.size f Z)
 N:=N
 s₀:=s
 H₀:=H
 env:=envOfC O scope s.heap.objs.size f Z
 outer:=outer
 stack:=envOfC O scope s.heap.objs.size f Z::outer
 ex:=[]
 calm:=true
 fn:=λ _=>true
 pn:=[]
 xe:=λ e s'=>wpAny (model P w) (A.deeper (envOfC O scope s.heap.objs.size f Z)) (leaving (envOfC O scope s.heap.objs.size f Z) e) (λ _ Y=>CX outer H s E e Y) (λ e' Y=>CX outer H s E e' Y) s'
theorem Y_1 {sc:Scope}{n:Nat}{x:Str} (h:sc.names.lookup x=some .cell):∃ c,(cellsFrom n sc.names []).lookup x=some c:=by
 have q:=PySem.W.cellsFrom_some sc.names n [] (.inl h);exact Option.isSome_iff_exists.mp q
theorem aj0 {CX:CXT}{P:Program}{w:World}{K:Frag}{mg:Str->Option Value}{base:Heap}{N ps:List Str}{O:Str}{scope:Scope}{f:Addr}{cd:Value}{A:Around}{outer:List Env}{s s1:Shared}{H:Hp}{E:XK}{us:List Value}{vs:List V}
  (S:FnScope N ps scope) (hd:A.handled=none) (Y:Env0 P w K mg base A outer s H) (hl:vs.length=ps.length) (r:Vals vs us)
  (x:InCallC s s.heap.objs.size (bindL (envOfC O scope s.heap.objs.size f cd).kindOf (ps.zip us) λ _=>none) (cellsFrom (s.heap.objs.size+1) scope.names []) (bindC (envOfC O scope s.heap.objs.size f cd).kindOf (ps.zip us) λ _=>none) s1) :
  Inv (aC2 CX P w K mg base N O scope f cd A outer s H E) [] (start N vs) H s1:=by
 have ab:ps.length<=N.length:=by have:=congrArg List.length S.pre;rw[List.length_take] at this;omega
 obtain⟨h1,tk,rfl,hk⟩:=x.done;have Z:∀ b:Addr,b∉(aC2 CX P w K mg base N O scope f cd A outer s H E).ex:=λ b z=>absurd (show b∈([]:List Addr) from z) (by simp)
 refine⟨⟨Y.mod,S.kind,rfl,rfl,qj _,λ y z c h1 h2=>?_,λ y hy=>?_,λ y c _ h=>?_,λ _=>hd,Around.frames_deeper Y.frames,.inr ⟨rfl,rfl⟩,λ b z=>absurd z (Z b),Y.bs,Y.bsz,λ b _ _=>Z b,λ b z=>absurd z (Z b),Y.funs,Y.frf⟩,
  rfl,Y.bare,Un.kept hk,⟨_,x.toInCall.ns,λ i y v h1 h2 h3=>?_⟩,λ y c h=>⟨_,x.cell y c h⟩,Y.hok.fresh (qj _),λ y c h=>?_,λ p hp=>absurd (show p∈([]:List (Addr×Obj)) from hp) (by simp),Y.hok.kept hk,?_⟩
 ·exact name_of_addr x.apart (PySem.mem_of_lookup h1) (PySem.mem_of_lookup h2)
 ·have hy:scope.names.lookup y=some .cell\/scope.names.lookup y=some .free:=hy
  rcases hy with hy | hy
  ·exact Y_1 hy
  ·exact absurd rfl (S.nofree _ (PySem.mem_of_lookup hy))
 ·exact Nat.le_of_lt (x.above y c (PySem.mem_of_lookup h))
 ·have hi:i<vs.length:=by
   unfold start at h2
   by_cases hi:i<vs.length
   ·exact hi
   ·rw[List.getElem?_append_right (by simpa using hi)] at h2
    rw[List.getElem?_replicate] at h2
    split at h2 <;> cases h2
  have ha:vs[i]?=some v:=by
   unfold start at h2;rw[List.getElem?_append_left (by simpa using hi),List.getElem?_map] at h2
   cases e:vs[i]? with
   |none=>rw[e] at h2;cases h2
   |some a=>rw[e] at h2;cases h2;rfl
  obtain⟨u,hu,rv⟩:=r.get ha
  have hp:ps[i]?=some y:=by
   rw[<- S.pre,List.getElem?_take_of_lt (by omega)];exact h1
  have aa:ps.Nodup:=by rw[<- S.pre];exact S.nd.sublist (List.take_sublist _ _)
  refine⟨u,rv,?_⟩
  rcases S.par y (List.mem_of_getElem? hp) with k | k
  ·exact .inl ⟨k,O_2 aa hp hu k⟩
  ·obtain⟨c,e⟩:=Y_1 (n:=s.heap.objs.size+1) k
   refine .inr ⟨.inl k,c,e,?_⟩;have q:=x.cell y c e;rw[O_4 aa hp hu (by show scope.names.lookup y≠_;rw[k];decide)] at q
   exact q
 ·exact Y.hok.fresh (Nat.le_of_lt (x.above y c (PySem.mem_of_lookup h)))
 ·unfold start
  show _=N.length;rw[List.length_append,List.length_map,List.length_replicate];omega
theorem bu5 {CX:CXT}{P:Program}{w:World}{K:Frag}{mg:Str->Option Value}{base:Heap}{k:Nat}{f:Addr}{name O:Str}{Z:Arguments}{aa:List Stmt}{scope:Scope}{dV kV ag pm Y ct oc:Value}{an od:Option Addr}
  {ak:Array (Option Value)}{N ps:List Str}{sp:Sp} (lk:K.lookup f=some ⟨oc,od,.func (fnOf name O Z aa scope dV kV ag pm an Y ct),ak⟩) (ai:codeIn K Y O=true) (S:FnScope N ps scope)
  (af:∀ vs H Q E,sp vs H Q E->vs.length=ps.length)
  (ac:∀ (A:Around) (outer:List Env) (s:Shared) (H:Hp) (vs:List V) (Q:VK) (E:XK),Room k (A.deeper (envOfC O scope s.heap.objs.size f Y))->sp vs H Q E ->
   ∃ t,PSs (aC2 CX P w K mg base N O scope f Y A outer s H E) aa t/\t {nx:=λ _ H'=>Q .non H',rt:=Q} (start N vs) H) :
  FnOk P w K mg base CX (k+1) f (fnOf name O Z aa scope dV kV ag pm an Y ct) ps sp:=by
 refine⟨af,λ A outer s H args us vs Q E hr e0 hb r ae=>?_⟩
 have hl:=af _ _ _ _ ae;have KX:K.In s.heap:=e0.mod.kin.keeps λ b o e=>(e0.bs b o e).1
 have aj:s.heap.NoLimit:=e0.mod.nolimit.keeps λ b o e=>(e0.bs b o e).1
 have ad:∀ y∈ps.zip us,scope.names.lookup y.1=some .local\/(scope.names.lookup y.1=some .cell/\((cellsFrom (s.heap.objs.size+1) scope.names []).lookup y.1).isSome=true):=λ ah hy=>by
  obtain⟨n,v⟩:=ah
  rcases S.par n (List.of_mem_zip hy).1 with q | q
  ·exact .inl q
  ·exact .inr ⟨q,PySem.W.cellsFrom_some _ _ _ (.inl q)⟩
 refine codeAny_call_function hr.depth (KX _ _ lk) rfl S.co S.gen rfl (PySem.W.codeRec_of KX ai) (hb _ _ _ _ ?_);refine wpAny_newFunctionEnv_cells S.kind ad λ env he s1 x=>?_
 subst he;refine⟨aj.keeps x.toInCall.keep,codeAny_func ?_⟩;obtain⟨t,ht,hq⟩:=ac A outer s H vs Q E (hr.deeper _) ae;have I:Inv (aC2 CX P w K mg base N O scope f Y A outer s H E) [] (start N vs) H s1:=aj0 S hr.hd e0 hl r x;refine wpAny_mono (ht [] s1 (start N vs) H _ I hq) (λ fl s' hs=>?_) λ e s' hs=>hs
 have fin:∀ {ab:St}{H':Hp}{v:V}{u:Value},Inv (aC2 CX P w K mg base N O scope f Y A outer s H E) [] ab H' s'->RelV v u->Q v H'->CE outer P w H s Q u s' :=
  λ {ab H' v u} J rv q=>⟨v,H',J.os,J.bare,J.base,J.hok,rv,q⟩
 cases fl with
 |ret u =>
  obtain⟨v,ab,H',J,rv,q⟩:=hs;exact fin J rv q
 |next =>
  obtain⟨ab,H',J,q⟩:=hs;exact fin (v:=V.non) (u:=Value.none) J rfl q
 |brk =>
  obtain⟨_,_,_,q⟩:=hs;exact False.elim q
 |cont =>
  obtain⟨_,_,_,q⟩:=hs;exact False.elim q
section
variable {X:Cx}{x:Str}{p pos:Pos}{e:Expr}{es:List Expr}{t:TA}{id T:String}{r:List V->Hp->VK->Prop}
noncomputable def tCB (r:List V->Hp->VK->Prop) (t:TA):TE:=λ σ H Q=>t σ H λ vs H1=>r vs H1 Q
theorem F_5 (hc:CallR X (.builtin id) r) (hg:Gl X x) (hm:X.mg x=none) (hv:bootBuiltins x=some (.builtin id)) (ha:PA X (e::es) t) (hn:x≠"__name__":=by decide) (Y:(x==("__debug__":Str))=false:=by decide)
  (Z:starEach (e::es) X.env=(false,eval e X.env)::starEach es X.env:=by rfl) (O:(backTo pos (starEach es X.env)).any (·.1)=false:=by rfl):PE X (.Call (.Name x p) (e::es) [] pos) (tCB r t):=by
 intro pins s σ H Q I h;refine wpAny_Call_Name_kw (W_1 I hg hm hv ?_ hn Y);exact PyProof.Rows.callWith_builtin1 (thn (ha pos pins s σ H _ I h) λ us s1=>ex5 λ vs H1 I1 r1 q1=>hc pins s1 σ H1 vs us Q I1 r1 q1) Z O
theorem x_4 (hc:CallR X (.type T) r) (hg:Gl X x) (hm:X.mg x=none) (hv:bootBuiltins x=some (.type T)) (ha:PA X (e::es) t) (hn:x≠"__name__":=by decide) (Y:(x==("__debug__":Str))=false:=by decide)
  (Z:starEach (e::es) X.env=(false,eval e X.env)::starEach es X.env:=by rfl) (O:(backTo pos (starEach es X.env)).any (·.1)=false:=by rfl):PE X (.Call (.Name x p) (e::es) [] pos) (tCB r t):=by
 intro pins s σ H Q I h;refine wpAny_Call_Name_kw (W_1 I hg hm hv ?_ hn Y);exact PyProof.Rows.callWith_type1 (thn (ha pos pins s σ H _ I h) λ us s1=>ex5 λ vs H1 I1 r1 q1=>hc pins s1 σ H1 vs us Q I1 r1 q1) Z O
end
end L2
namespace HT
open PySem PyProof.Rows
section
variable {prog:Program}{w:World}{A:Around}{E:Value->Shared->Prop}{s:Shared}
theorem cat_tup {t b:Addr}{vs ws:List Value}{Q:Value->Shared->Prop} (ht:IsTup s.heap t vs.toArray) (hb:IsTup s.heap b ws.toArray) (hv:vs≠[])
  (h1:ws=[] → Q (.ref t) s) (h2:ws≠[] → Q (.ref s.heap.objs.size) {s with heap:=s.heap.push {cls:=.type "tuple",data:=.seq (vs++ws).toArray}})
  (hsz:vs.length+ws.length<=sizeLine):wpAny (model prog w) A (binaryOp .Add (.ref t) (.ref b)) Q E s:=by
 obtain⟨⟨cls,dd,data,sl⟩,ho,hc,n,hd⟩:=id ht;obtain⟨⟨ad,ab,ac,Z⟩,O,aa,n2,Y⟩:=id hb;simp only at hc hd aa Y;subst hc hd aa Y;have e:vs.toArray++ws.toArray=(vs++ws).toArray:=by simp
 by_cases hw:ws=[]
 ·exact concat_meets ⟨_,ho,rfl⟩ ⟨_,O,rfl⟩ noFill_tuple_add seq_tuple_add PySem.F.slot_tuple_add PySem.F.entry_tuple_add (PySem.F.args_tuple_add_2 _ _)
   (tuple_addW1 t b vs.toArray ws.toArray n n2 dd ab sl Z (by simpa using hv) (by simp[hw])) ⟨ho,O,h1 hw⟩
 ·refine concat_meets ⟨_,ho,rfl⟩ ⟨_,O,rfl⟩ noFill_tuple_add seq_tuple_add PySem.F.slot_tuple_add PySem.F.entry_tuple_add (PySem.F.args_tuple_add_2 _ _)
   (tuple_addW2 t b vs.toArray ws.toArray n n2 dd ab sl Z (by simpa using hv) (by simpa using hw) (by rw[List.size_toArray,List.size_toArray];exact hsz)) ⟨ho,O,?_⟩
  rw[e];exact h2 hw
noncomputable def sIx (n d:Nat):Option Int->Nat
 |none=>d
 |some v=>if v<0 then (v+(n:Int)).toNat else min v.toNat n
theorem aX4 (n d:Nat) (hd:d<=n) (o:Option Int):sIx n d o<=n:=by
 cases o with
 |none=>exact hd
 |some v =>
  show (if v<0 then (v+(n:Int)).toNat else min v.toNat n)<=n
  by_cases O:v<0
  ·rw[if_pos O];omega
  ·rw[if_neg O];exact Nat.min_le_right _ _
theorem am5 (v:Int) (n d:Nat):(if v<0 then max (v+(n:Int)) 0 else min v (n:Int))=((sIx n d (some v):Nat):Int):=by
 show (if v<0 then max (v+(n:Int)) 0 else min v (n:Int))=(((if v<0 then (v+(n:Int)).toNat else min v.toNat n):Nat):Int)
 by_cases O:v<0
 ·simp only[if_pos O];omega
 ·simp only[if_neg O];omega
theorem ac1 (lo hi:Option Int) (n:Nat):Builtin.Slice.sliceAdjust lo hi 1 (n:Int)=(((sIx n 0 lo:Nat):Int),((sIx n n hi:Nat):Int)):=by
 have h1:¬ ((1:Int)<0):=by omega
 unfold Builtin.Slice.sliceAdjust;simp only[h1,if_false];refine Prod.ext ?_ ?_
 ·cases lo with
  |none=>rfl
  |some v=>exact am5 v n 0
 ·cases hi with
  |none=>rfl
  |some v=>exact am5 v n n
theorem Z_8 (i j:Nat):Builtin.Slice.slicePlaces (i:Int) (j:Int) 1=j-i:=by
 unfold Builtin.Slice.slicePlaces;have h1:(1:Int) > 0:=by omega
 simp only[h1,if_true,Int.ediv_one]
 split <;> omega
theorem C_8 {v:Value}{o:Option Int}{Q:Option Int->Shared->Prop} (p:IsPart v o) (h:Q o s):wpAny (model prog w) A (Builtin.Slice.slicePartIndex v) Q E s:=by
 cases p with
 |none=>exact slicePart_none h
 |int i t=>exact slicePart_int h
theorem v_1 {sl:Addr}{Z vu:Value}{lo hi:Option Int}{n:Nat}{Q:Int×Int×Nat->Shared->Prop} (hs:s.heap.IsSliceOf sl Z vu .none) (pl:IsPart Z lo) (pu:IsPart vu hi)
  (h:Q (((sIx n 0 lo:Nat):Int),1,sIx n n hi-sIx n 0 lo) s):wpAny (model prog w) A (Builtin.Slice.sliceApplied (.ref sl) (pure (n:Int))) Q E s:=by
 obtain⟨os,Y,aa,O⟩:=id hs;unfold Builtin.Slice.sliceApplied Builtin.Slice.sliceFields;refine qb (qb (wpAny_field Y O (x:=Z) rfl (qb (wpAny_field Y O (x:=vu) rfl (qb (wpAny_field Y O (x:=.none) rfl (qc ?_)))))));refine qb (slicePart_none ?_);show wpAny _ _ (if ((1:Int)==0)=true then _ else _) _ _ s;rw[if_neg (by decide)]
 refine qb (C_8 pl (qb (C_8 pu (qb (qc ?_)))));show wpAny _ _ (match Builtin.Slice.sliceAdjust lo hi 1 (n:Int) with | (lo,hi)=>pure (lo,(1:Int),Builtin.Slice.slicePlaces lo hi 1)) _ _ s
 rw[ac1 lo hi n];show wpAny _ _ (pure (((sIx n 0 lo:Nat):Int),(1:Int),Builtin.Slice.slicePlaces ((sIx n 0 lo:Nat):Int) ((sIx n n hi:Nat):Int) 1)) _ _ s;rw[Z_8];exact qc h
theorem as2 (xs:Array Value) (i k:Nat):((List.range k).filterMap λ (m:Nat)=>xs[((i:Int)+(m:Int)*1).toNat]?).toArray=((xs.toList.drop i).take k).toArray:=by
 have e:(λ (m:Nat)=>xs[((i:Int)+(m:Int)*1).toNat]?)=λ m=>xs[i+m]?:=by
  funext m
  have:((i:Int)+(m:Int)*1).toNat=i+m:=by omega
  rw[this]
 rw[e];have:=pick_run xs i k;rw[List.filterMap_map] at this;have e2:((λ x=>xs[x]?) ∘ λ x=>i+x)=λ m=>xs[i+m]?:=rfl
 rw[e2] at this;rw[this]
theorem getItem_tuple_cut {t sl:Addr}{items:Array Value}{vl vu:Value}{lo hi:Option Int}{Q:Value->Shared->Prop} (Y:IsTup s.heap t items) (hs:s.heap.IsSliceOf sl vl vu .none) (pl:IsPart vl lo) (pu:IsPart vu hi)
  (hw:¬ (sIx items.size 0 lo=0/\sIx items.size items.size hi=items.size))
  (h:Q (.ref s.heap.objs.size) {s with heap:=s.heap.push {cls:=.type "tuple",data:=.seq ((items.toList.drop (sIx items.size 0 lo)).take (sIx items.size items.size hi-sIx items.size 0 lo)).toArray}})
  (hsz:items.size<=sizeLine):wpAny (model prog w) A (getItem (.ref t) (.ref sl)) Q E s:=by
 have O:sizeOk (.seq ((items.toList.drop (sIx items.size 0 lo)).take (sIx items.size items.size hi-sIx items.size 0 lo)).toArray):=by
  show ((items.toList.drop (sIx items.size 0 lo)).take (sIx items.size items.size hi-sIx items.size 0 lo)).toArray.size<=sizeLine;rw[List.size_toArray,List.length_take,List.length_drop,Array.length_toList];omega
 have hj:sIx items.size items.size hi<=items.size:=aX4 _ _ (qj _) hi;obtain⟨os,ac,aa,ad⟩:=id hs;have Z:s.TypeIs (.ref sl) "slice":=⟨os,ac,aa⟩;unfold getItem
 try with_reducible refine wpAny_holding ?_
 first | refine qb (qc ?_) | skip
 refine qb (wpAny_sequenceKey Y.typeIs (by decide) ?_)
 refine qb (wpAny_callSpecial?_slot (name:=Str.ofString "__getitem__") Y.typeIs PyProof.Rows.slot_tuple_getitem
  (wpAny_call_entry PyProof.Rows.slot_tuple_getitem Y.typeIs entry_tuple_getitem ?_ (args_tuple_getitem _ _)))
 show wpAny _ _ (Builtin.Tuple.tupleItemsOf (.ref t) >>= _) _ _ s;refine qb (tupleItemsOf_ Y ?_);refine qb (wpAny_typeOf Z ?_);rw[if_pos (by decide)]
 refine qb (v_1 hs pl pu ?_)
 have ab:¬ ((((sIx items.size 0 lo:Nat):Int)==0&&(1:Int)==1&&(sIx items.size items.size hi-sIx items.size 0 lo)==items.size)=true):=by
  intro q;rw[Bool.and_eq_true,Bool.and_eq_true] at q;have q1:((sIx items.size 0 lo:Nat):Int)=0:=eq_of_beq q.1.1;have q2:sIx items.size items.size hi-sIx items.size 0 lo=items.size:=eq_of_beq q.2;exact hw ⟨by omega,by omega⟩
 show wpAny _ _ (if (((sIx items.size 0 lo:Nat):Int)==0&&(1:Int)==1&&(sIx items.size items.size hi-sIx items.size 0 lo)==items.size)=true then _ else _) _ _ s;rw[if_neg ab,as2]
 first
  |exact qb (m:=Builtin.Tuple.tupleExact _) (wpAny_newObj_type (qc ⟨_,rfl,qc h⟩) O)
  |exact qb (m:=Builtin.Tuple.tupleExact _) (wpAny_newObj_type (qb (qc (qc ⟨_,rfl,qc h⟩))) O)
  |exact qb (qb (m:=Builtin.Tuple.tupleExact _) (wpAny_newObj_type (qc (qc ⟨_,rfl,qc h⟩)) O))
  |exact qb (qb (m:=Builtin.Tuple.tupleExact _) (wpAny_newObj_type (qc ⟨_,rfl,qc h⟩) O))
end
end HT
namespace L2
open PySem PySem.Spec PyProof.Rows
abbrev TO:=St->Hp->(Option Int->Hp->Prop)->Prop
noncomputable def PO (X:Cx) (e:Option Expr) (t:TO):Prop :=
 ∀ (pins:List (Addr×Obj)) (s:Shared) (σ:St) (H:Hp) (Q:Option Int->Hp->Prop),Inv X pins σ H s->t σ H Q ->
  wpAny (model X.prog X.w) X.A (evalPart e X.env) (λ u s'=>∃ o H',Inv X pins σ H' s'/\IsPart u o/\Q o H') X.xe s
noncomputable def aG4:TO:=λ _ H Q=>Q none H
noncomputable def bm5 (t:TE):TO:=λ σ H Q=>t σ H λ x H1=>∃ i,x=.int i/\Q (some i) H1
theorem intsAre_of {O:List Int}:∀ {us:List Value},Vals (O.map V.int) us->IntsAre us O:=by
 induction O with
 |nil=>intro us r;rw[List.map_nil] at r;cases r;exact .nil
 |cons n O Z =>
  intro us r;rw[List.map_cons] at r;cases r with
  |cons Y r2 =>
   obtain⟨t,e⟩:=Y;subst e;exact .cons n t (Z r2)
section
variable {X:Cx}{e:Expr}{te:TE}{lo hi:Option Expr}{tl th:TO}{pos p2:Pos}
theorem aJ5:PO X none aG4:=by
 intro pins s σ H Q I h;rw[evalPart_none];exact qc ⟨none,H,I,.none,h⟩
theorem aJ4 (h:PE X e te):PO X (some e) (bm5 te):=by
 intro pins s σ H Q I Z;rw[evalPart_some];refine thn (h pins s σ H _ I Z) λ u s1=>ex5 λ x H1 I1 Y O=>?_
 obtain⟨i,rfl,q⟩:=O;obtain⟨t,rfl⟩:=Y;exact⟨some i,H1,I1,.int i t,q⟩
noncomputable def SlR (X:Cx) (r:V->Option Int->Option Int->Hp->VK->Prop):Prop :=
 ∀ (pins:List (Addr×Obj)) (s:Shared) (σ:St) (H:Hp) (x:V) (v O Y:Value) (lo hi:Option Int) (Z:Addr) (Q:VK),Inv X pins σ H s->RelV x v->s.heap.IsSliceOf Z O Y .none->IsPart O lo->IsPart Y hi->r x lo hi H Q ->
  ∃ T id,typeLookup (.type T) "__getitem__"=pure (some (.builtin id)) ∧ s.TypeIs v T ∧ wpAny (model X.prog X.w) X.A (getItem v (.ref Z)) (EP X pins σ Q) X.xe s
theorem SlR.or {r r':V->Option Int->Option Int->Hp->VK->Prop} (h:SlR X r) (h':SlR X r'):SlR X (λ x lo hi H Q=>r x lo hi H Q\/r' x lo hi H Q):=by
 intro pins s σ H x v vl vu lo hi O Q I rx Z pl Y q
 rcases q with q | q
 ·exact h pins s σ H x v vl vu lo hi O Q I rx Z pl Y q
 ·exact h' pins s σ H x v vl vu lo hi O Q I rx Z pl Y q
noncomputable def tSl (r:V->Option Int->Option Int->Hp->VK->Prop) (te:TE) (tl th:TO):TE:=λ σ H Q=>te σ H λ x H1=>tl σ H1 λ l H2=>th σ H2 λ u O=>r x l u O Q
theorem as4 {r:V->Option Int->Option Int->Hp->VK->Prop} (hr:SlR X r) (he:PE X e te) (hl:PO X lo tl) (hu:PO X hi th):PE X (.Subscript e (.Slice lo hi none p2) pos) (tSl r te tl th):=by
 intro pins s σ H Q I h;refine Subscript_ (thn (he pins s σ H _ I h) λ v s1=>ex5 λ x H1 I1 r1 q1=>?_)
 refine wpAny_Slice (thn (hl pins s1 σ H1 _ I1 q1) λ Z s2=>ex5 λ l H2 I2 pl q2=>thn (hu pins s2 σ H2 _ I2 q2) λ Y O=>ex5 λ u H3 I3 pu q3=>?_)
 rw[evalPart_none];refine qc ?_;have I4:Inv X pins σ H3 {O with heap:=O.heap.push {cls:=.type "slice",data:=.fields #[Z,Y,.none]}}:=I3.kept (t':=O.toks) λ b ob q=>qd _ q
 obtain⟨T,id,hT,ht,hg⟩:=hr pins {O with heap:=O.heap.push {cls:=.type "slice",data:=.fields #[Z,Y,.none]}} σ H3 x v Z Y l u O.heap.objs.size Q I4 r1 (Heap.IsSliceOf.new ..) pl pu q3
 show wpAny (model X.prog X.w) X.A (subscriptTail e (.Slice lo hi none p2) v (.ref O.heap.objs.size)) (EP X pins σ Q) X.xe {O with heap:=O.heap.push {cls:=.type "slice",data:=.fields #[Z,Y,.none]}}
 exact tail_any (ops:=[.ref O.heap.objs.size,v]) ht hT hg (by with_unfolding_all rfl)
noncomputable def ap1 (xs:List V) (lo hi:Option Int):List V:=(xs.drop (HT.sIx xs.length 0 lo)).take (HT.sIx xs.length xs.length hi-HT.sIx xs.length 0 lo)
theorem z_4 (xs:List V) (lo hi:Option Int):(ap1 xs lo hi).length<=xs.length:=by
 unfold ap1;rw[List.length_take,List.length_drop];omega
noncomputable def bJ4 (K:Frag):V->Option Int->Option Int->Hp->VK->Prop:=λ x lo hi H Q=>∃ a xs,x=.ref a/\SqT K H a xs /\
 ¬ (HT.sIx xs.length 0 lo=0/\HT.sIx xs.length xs.length hi=xs.length)/\∀ p,H p=none->Q (.ref p) (upd H p (.tup (ap1 xs lo hi)))
theorem aW6:SlR X (bJ4 X.K):=by
 intro pins s σ H x v vl vu lo hi sl Q I rx hs pl pu h;obtain⟨a,xs,rfl,hx,hw,q⟩:=h;cases rx;obtain⟨Y,r,Z,hz⟩:=I.tuple hx;have O:Y.toArray.size=xs.length:=by rw[List.size_toArray];exact r.length.symm
 refine⟨"tuple",_,PyProof.Rows.slot_tuple_getitem.lookup,Z.typeIs,?_⟩;refine HT.getItem_tuple_cut Z hs pl pu (by rw[O];exact hw) ?_ (by rw[O];exact hz)
 rw[O];refine⟨.ref s.heap.objs.size,_,I.laid (t':=s.toks) (o:=.tup (ap1 xs lo hi)) (λ b ob q=>qd _ q) (qj _) ?_,rfl,q _ (I.hok.fresh (qj _))⟩
 exact⟨Nat.le_trans (z_4 xs lo hi) hz,_,(r.drop (HT.sIx xs.length 0 lo)).take (HT.sIx xs.length xs.length hi-HT.sIx xs.length 0 lo),IsTuN.new _ _⟩
noncomputable def bp8 (K:Frag):R2:=λ x y H Q=>∃ a b xs ys,x=.ref a/\y=.ref b/\SqT K H a xs/\SqT K H b ys/\xs≠[]/\xs.length+ys.length<=sizeLine /\
 (ys=[]->Q (.ref a) H)/\(ys≠[]->∀ p,H p=none->Q (.ref p) (upd H p (.tup (xs++ys))))
theorem Vals.nil_iff {xs:List V}{us:List Value} (r:Vals xs us):us=[]↔xs=[]:=by
 cases r with
 |nil=>simp
 |cons _ _=>simp
theorem aK7:OpR X (binaryOp .Add) (bp8 X.K):=by
 intro pins s σ H x y v u Q I rx ry h;obtain⟨a,b,xs,ys,rfl,rfl,ha,hb,hx,hz,q1,q2⟩:=h;cases rx;cases ry;obtain⟨aa,Y,p1,_⟩:=I.tuple ha;obtain⟨Z,O,p2,_⟩:=I.tuple hb;refine HT.cat_tup p1 p2 (λ z=>hx (Y.nil_iff.mp z)) (λ z=>⟨.ref a,H,I,rfl,q1 (O.nil_iff.mp z)⟩) (λ z=>?_) (by rw[<- Y.length,<- O.length];exact hz)
 refine⟨.ref s.heap.objs.size,_,I.laid (t':=s.toks) (o:=.tup (xs++ys)) (λ b ob q=>qd _ q) (qj _) ?_,rfl,q2 (λ w=>z (O.nil_iff.mpr w)) _ (I.hok.fresh (qj _))⟩
 exact⟨by rw[List.length_append];exact hz,_,Y.append O,IsTuN.new _ _⟩
end
noncomputable def ixN (n:Nat) (i:Int):Option Nat:=if 0<=i then (if i<n then some i.toNat else none) else if -(n:Int)<=i then some (i+n).toNat else none
noncomputable def atI {α:Type} (xs:List α) (i:Int):Option α:=(ixN xs.length i).bind λ j=>xs[j]?
theorem aM0 {n:Nat}{i:Int}{j:Nat} (h:ixN n i=some j):seqIndex? i n=some j/\j<n/\-(n:Int)<=i/\i<n:=by
 unfold ixN at h
 by_cases O:0<=i
 ·rw[if_pos O] at h
  by_cases h1:i<n
  ·rw[if_pos h1] at h
   have e:i.toNat=j:=qi h;exact⟨by rw[seqIndex_of O h1,e],by omega,by omega,h1⟩
  ·rw[if_neg h1] at h;cases h
 ·rw[if_neg O] at h
  by_cases h1:-(n:Int)<=i
  ·rw[if_pos h1] at h
   have e:(i+n).toNat=j:=qi h;exact⟨by rw[seqIndex_neg (by omega) h1,e],by omega,h1,by omega⟩
  ·rw[if_neg h1] at h;cases h
theorem S_9 {α:Type}{xs:List α}{i:Int}{v:α} (h:atI xs i=some v):∃ j,seqIndex? i xs.length=some j/\xs[j]?=some v/\j<xs.length/\-(xs.length:Int)<=i/\i<xs.length:=by
 unfold atI at h;cases e:ixN xs.length i with
 |none=>rw[e] at h;cases h
 |some j =>
  rw[e] at h;obtain⟨h1,h2,O,Y⟩:=aM0 e;exact⟨j,h1,h,h2,O,Y⟩
noncomputable def ao3 (b:Expr):Prop:=∀ o i,subscripted b false o i=operate [o,i] (getItem o i)
noncomputable def IxR (X:Cx) (r:R2):Prop :=
 ∀ (value O:Expr) (pins:List (Addr×Obj)) (s:Shared) (σ:St) (H:Hp) (x y:V) (v u:Value) (Q:VK),Inv X pins σ H s->RelV x v->RelV y u->r x y H Q ->
  subscripted O false v u=operate [v,u] (getItem v u)->wpAny (model X.prog X.w) X.A (subscriptTail value O v u) (EP X pins σ Q) X.xe s
noncomputable def MtR (X:Cx) (id:String) (r:V->List V->Hp->VK->Prop):Prop :=
 ∀ (pins:List (Addr×Obj)) (s:Shared) (σ:St) (H:Hp) (x:V) (xs:List V) (v:Value) (us:List Value) (Q:VK),Inv X pins σ H s->RelV x v->Vals xs us->r x xs H Q ->
  wpAny (model X.prog X.w) X.A (call (.builtin id) (v::us)) (EP X pins σ Q) X.xe s
section
variable {X:Cx}{a b:Expr}{ta tb:TE}{pos:Pos}
theorem IxR.or {r Z:R2} (h:IxR X r) (h':IxR X Z):IxR X (λ x y H Q=>r x y H Q\/Z x y H Q):=by
 intro value O pins s σ H x y v u Q I rx ry q Y
 rcases q with q | q
 ·exact h value O pins s σ H x y v u Q I rx ry q Y
 ·exact h' value O pins s σ H x y v u Q I rx ry q Y
theorem MtR.or {id:String}{r O:V->List V->Hp->VK->Prop} (h:MtR X id r) (h':MtR X id O):MtR X id (λ x xs H Q=>r x xs H Q\/O x xs H Q):=by
 intro pins s σ H x xs v us Q I Y Z q
 rcases q with q | q
 ·exact h pins s σ H x xs v us Q I Y Z q
 ·exact h' pins s σ H x xs v us Q I Y Z q
theorem bq7 {r:R2} (hr:IxR X r) (ha:PE X a ta) (Z:PE X b tb) (Y:ao3 b):PE X (.Subscript a b pos) (tOp r ta tb):=by
 intro pins s σ H Q I h;exact Subscript_ (bx3 ha Z I h λ v u O x y H2 I2 rx ry q=>hr a b pins O σ H2 x y v u Q I2 rx ry q (Y _ _))
noncomputable def bA3 (K:Frag):R2:=λ x y H Q=>∃ p xs i v,x=.ref p/\y=.int i/\SqL K H p xs/\atI xs i=some v/\Q v H
noncomputable def bA1 (K:Frag):R2:=λ x y H Q=>∃ p xs i v,x=.ref p/\y=.int i/\SqT K H p xs/\atI xs i=some v/\Q v H
noncomputable def bA2:R2:=λ x y H Q=>∃ z i c,x=.str z/\y=.int i/\z.length<=sizeLine/\atI z.cps.toList i=some c/\Q (.str ⟨#[c]⟩) H
theorem ix_list:IxR X (bA3 X.K):=by
 intro value Y pins s σ H x y v u Q I rx ry h hs;obtain⟨p,xs,i,z,rfl,rfl,hq,he,q⟩:=h;cases rx;obtain⟨t,rfl⟩:=ry;obtain⟨Z,r,O,hz⟩:=I.list hq;obtain⟨j,h1,h2,h3,h4,h5⟩:=S_9 he;obtain⟨w,ew,aa⟩:=r.get h2;have hl:=r.length;have hn:=D_6;have fin:EP X pins σ Q w s:=⟨z,H,I,aa,q⟩
 by_cases h0:0<=i
 ·have hj:i.toNat=j:=by
   rw[seqIndex_of h0 h5] at h1;exact qi h1
  exact item_listR O.isList h0 (by omega) (by rw[hj];simpa using ew) fin hs
 ·have hj:(i+(Z.toArray.size:Int)).toNat=j:=by
   rw[seqIndex_neg (by omega) h4] at h1
   rw[List.size_toArray,<- hl];exact qi h1
  exact subscriptTail_builtinR (x:=w) O.isList.typeIs slot_list_getitem.lookup
   (wpAny_getItem_list_neg (Q:=λ r s'=>r=w/\EP X pins σ Q r s') O.isList (by omega) (by rw[List.size_toArray] <;> omega) (by omega) (by rw[hj];simpa using ew) ⟨rfl,fin⟩) hs
theorem ix_tup:IxR X (bA1 X.K):=by
 intro value O pins s σ H x y v u Q I rx ry h hs;obtain⟨p,xs,i,z,rfl,rfl,hq,he,q⟩:=h;cases rx;obtain⟨t,rfl⟩:=ry;obtain⟨aa,r,Z,hz⟩:=I.tuple hq;obtain⟨j,h1,h2,h3,h4,h5⟩:=S_9 he;obtain⟨w,ew,Y⟩:=r.get h2;have hl:=r.length;have hn:=D_6;have fin:EP X pins σ Q w s:=⟨z,H,I,Y,q⟩;exact subscriptTail_builtinR (x:=w) Z.typeIs slot_tuple_getitem.lookup
  (getItem_tuple (j:=j) (Q:=λ r s'=>r=w/\EP X pins σ Q r s') Z (by omega) (by omega) (by rw[List.size_toArray,<- hl];exact h1) (by simpa using ew) ⟨rfl,fin⟩) hs
theorem bc9:IxR X bA2:=by
 intro value O pins s σ H x y v u Q I rx ry h hs;obtain⟨z,i,c,rfl,rfl,hz,Y,q⟩:=h;obtain⟨t,rfl⟩:=rx;obtain⟨t',rfl⟩:=ry;obtain⟨j,h1,h2,h3,h4,Z⟩:=S_9 Y;have hl:z.cps.toList.length=z.length:=by simp[Str.length]
 rw[hl] at h1 h4 Z;have hn:=D_6
 exact tail_any (typeIs_str s z t) slot_str_getitem.lookup (getItem_str (c:=c) (by
  have e1:decide (i < -(2 ^ 63:Int))=false:=decide_eq_false (by omega)
  have e2:decide (i>=2 ^ 63)=false:=decide_eq_false (by omega)
  rw[e1,e2,Bool.or_false]) (by rw[h1];simpa using h2) ⟨.str ⟨#[c]⟩,H,I.tok _,⟨_,rfl⟩,q⟩) hs
noncomputable def rIx (K:Frag):R2:=λ x y H Q=>bA3 K x y H Q\/bA1 K x y H Q\/bA2 x y H Q
theorem bd0:IxR X (rIx X.K):=ix_list.or (ix_tup.or bc9)
theorem Inv.lst {pins:List (Addr×Obj)}{σ:St}{H:Hp}{s:Shared}{p:Addr}{xs:List V} (I:Inv X pins σ H s) (h:H p=some (.lst xs)) :
  ∃ (O:List Value) (n:Nat),Vals xs O ∧ s.heap.get? p=some {cls:=.type "list",data:=.seq O.toArray n} ∧ xs.length ≤ sizeLine:=by
 obtain⟨z,O,n,r,e⟩:=I.hok p _ h;exact⟨O,n,r,e,z⟩
theorem J_8 (lo hi:Option Int) (n:Nat):(sliceBounds lo hi none n).1=((HT.sIx n 0 lo:Nat):Int)/\(sliceBounds lo hi none n).2.1=((HT.sIx n n hi:Nat):Int)/\(sliceBounds lo hi none n).2.2=1:=by
 refine⟨?_,?_,rfl⟩
 ·cases lo with
  |none=>simp[sliceBounds,HT.sIx]
  |some i =>
   simp only[sliceBounds,HT.sIx,Option.getD_none,show (1:Int) > 0 by decide,if_true]
   by_cases h:i<0
   ·simp only[h,if_true] <;> omega
   ·simp only[h,if_false] <;> omega
 ·cases hi with
  |none=>simp[sliceBounds,HT.sIx]
  |some i =>
   simp only[sliceBounds,HT.sIx,Option.getD_none,show (1:Int) > 0 by decide,if_true]
   by_cases h:i<0
   ·simp only[h,if_true] <;> omega
   ·simp only[h,if_false] <;> omega
theorem F_0 (O:List Value) (lo hi:Option Int):slicePick O.toArray lo hi none=((O.drop (HT.sIx O.length 0 lo)).take (HT.sIx O.length O.length hi-HT.sIx O.length 0 lo)).toArray:=by
 obtain⟨h1,h2,Y⟩:=J_8 lo hi O.toArray.size;unfold slicePick;rw[h1,h2,Y];simp only[sliceRange_one,pick_run,List.size_toArray] <;> rfl
noncomputable def bJ6 (K:Frag):V->Option Int->Option Int->Hp->VK->Prop:=λ x lo hi H Q=>∃ a xs,x=.ref a/\SqL K H a xs/\∀ p,H p=none->Q (.ref p) (upd H p (.lst (ap1 xs lo hi)))
theorem sl_list:SlR X (bJ6 X.K):=by
 intro pins s σ H x v vl vu lo hi sl Q I rx hs pl Z h;obtain⟨a,xs,rfl,hx,q⟩:=h;cases rx;obtain⟨aa,r,Y,hz⟩:=I.list hx;have O:=r.length;refine⟨"list",_,slot_list_getitem.lookup,Y.isList.typeIs,?_⟩;refine wpAny_getItem_list_slice Y.isList hs pl Z .none (by simp) ?_ (by rw[List.size_toArray] <;> omega)
 rw[F_0,<- O];refine⟨.ref s.heap.objs.size,_,I.laid (t':=s.toks) (o:=.lst (ap1 xs lo hi)) (λ b ob q=>qd _ q) (qj _) ?_,rfl,q _ (I.hok.fresh (qj _))⟩
 exact⟨Nat.le_trans (z_4 xs lo hi) hz,_,0,(r.drop (HT.sIx xs.length 0 lo)).take (HT.sIx xs.length xs.length hi-HT.sIx xs.length 0 lo),qk _ rfl⟩
noncomputable def C_0:V->Bool
 |.non=>true
 |.bl _=>true
 |.int _=>true
 |.str _=>true
 |_=>false
noncomputable def eqV:V->V->Bool
 |.non,.non=>true
 |.bl a,.bl b=>a==b
 |.bl a,.int b=>(if a then 1 else 0)==b
 |.int a,.bl b=>a==(if b then 1 else 0)
 |.int a,.int b=>a==b
 |.str a,.str b=>a==b
 |_,_=>false
theorem be9 {A:Around}{s:Shared}{y x:V}{u v:Value} (Y:RelV y u) (O:RelV x v) (fy:C_0 y=true) (Z:C_0 x=true):SeqAt.EqAt A s u v (eqV y x):=by
 cases y with
 |non =>
  cases Y;cases x with
  |non=>cases O;exact SeqAt.EqAt.same _
  |bl b=>cases O;exact SeqAt.EqAt.none_bool b
  |int b=>obtain⟨t,rfl⟩:=O;exact SeqAt.EqAt.none_int b t
  |str b=>obtain⟨t,rfl⟩:=O;exact SeqAt.EqAt.none_str b t
  |_=>exact absurd (show false=true from Z) Bool.false_ne_true
 |bl a =>
  cases Y;cases x with
  |non=>cases O;exact SeqAt.EqAt.bool_none a
  |bl b=>cases O;exact SeqAt.EqAt.bool_bool a b
  |int b=>obtain⟨t,rfl⟩:=O;exact SeqAt.EqAt.bool_int a b t
  |str b=>obtain⟨t,rfl⟩:=O;exact SeqAt.EqAt.bool_str a b t
  |_=>exact absurd (show false=true from Z) Bool.false_ne_true
 |int a =>
  obtain⟨t',rfl⟩:=Y;cases x with
  |non=>cases O;exact SeqAt.EqAt.int_none a t'
  |bl b=>cases O;exact SeqAt.EqAt.int_bool a t' b
  |int b=>obtain⟨t,rfl⟩:=O;exact SeqAt.EqAt.int_int a t' b t
  |str b=>obtain⟨t,rfl⟩:=O;exact SeqAt.EqAt.int_str a t' b t
  |_=>exact absurd (show false=true from Z) Bool.false_ne_true
 |str a =>
  obtain⟨t',rfl⟩:=Y;cases x with
  |non=>cases O;exact SeqAt.EqAt.str_none a t'
  |bl b=>cases O;exact SeqAt.EqAt.str_bool a t' b
  |int b=>obtain⟨t,rfl⟩:=O;exact SeqAt.EqAt.str_int a t' b t
  |str b=>obtain⟨t,rfl⟩:=O;exact SeqAt.EqAt.str_str a t' b t
  |_=>exact absurd (show false=true from Z) Bool.false_ne_true
 |_=>exact absurd (show false=true from fy) Bool.false_ne_true
noncomputable def eqU (x:V) (u:Value):Bool:=match u with
 |.none=>eqV .non x
 |.bool b=>eqV (.bl b) x
 |.int i _=>eqV (.int i) x
 |.str z _=>eqV (.str z) x
 |_=>false
theorem aB5 {x y:V}{u:Value} (r:RelV y u) (f:C_0 y=true):eqU x u=eqV y x:=by
 cases y with
 |non=>cases r;rfl
 |bl b=>cases r;rfl
 |int i=>obtain⟨t,rfl⟩:=r;rfl
 |str z=>obtain⟨t,rfl⟩:=r;rfl
 |_=>exact absurd (show false=true from f) Bool.false_ne_true
theorem A_6 {x:V}:∀ {xs:List V}{us:List Value},Vals xs us->xs.all C_0=true->us.any (eqU x)=xs.any λ y=>eqV y x
 |_,_,.nil,_=>rfl
 |y::xs,u::us,.cons r t,f=>by
  rw[List.all_cons,Bool.and_eq_true] at f;rw[List.any_cons,List.any_cons,aB5 r f.1,A_6 t f.2]
theorem s_0 {A:Around}{s:Shared}{x:V}{v:Value} (Y:RelV x v) (Z:C_0 x=true):∀ {xs:List V}{us:List Value},Vals xs us->xs.all C_0=true->∀ u∈us,SeqAt.EqAt A s u v (eqU x u)
 |_,_,.nil,_=>λ u O=>by cases O
 |y::xs,u::us,.cons r t,f=>λ u' O=>by
  rw[List.all_cons,Bool.and_eq_true] at f
  rcases qt O with rfl | O
  ·rw[aB5 r f.1];exact be9 r Y f.1 Z
  ·exact s_0 Y Z t f.2 u' O
noncomputable def inV (x:V) (xs:List V):Bool:=xs.any λ y=>eqV y x
noncomputable def rIn (K:Frag) (O:Bool):R2:=λ x y H Q=>∃ p xs,y=.ref p/\(SqL K H p xs\/SqT K H p xs)/\C_0 x=true/\xs.all C_0=true/\Q (.bl (if O then !inV x xs else inV x xs)) H
theorem ag0:OpR X (compareOp .In) (rIn X.K false):=by
 intro pins s σ H x y v u Q I rx ry h;obtain⟨p,xs,rfl,Y,fx,fs,q⟩:=h;cases ry
 rcases Y with Y | Y
 ·obtain⟨O,r,Z,hz⟩:=I.list Y
  refine SeqAt.in_listAt (eqU x) Z.isList (λ w hw=>s_0 rx fx r fs w (by simpa using hw)) ⟨.bl _,H,I,rfl,?_⟩
  rw[show O.toArray.any (eqU x)=O.any (eqU x) by simp,A_6 r fs]
  exact q
 ·obtain⟨O,r,Z,hz⟩:=I.tuple Y
  refine SeqAt.in_tupleAt (eqU x) Z (λ w hw=>s_0 rx fx r fs w (by simpa using hw)) ⟨.bl _,H,I,rfl,?_⟩
  rw[show O.toArray.any (eqU x)=O.any (eqU x) by simp,A_6 r fs]
  exact q
theorem L_3:OpR X (compareOp .NotIn) (rIn X.K true):=by
 intro pins s σ H x y v u Q I rx ry h;obtain⟨p,xs,rfl,Y,fx,fs,q⟩:=h;cases ry
 rcases Y with Y | Y
 ·obtain⟨O,r,Z,hz⟩:=I.list Y
  refine SeqAt.notIn_listAt (eqU x) Z.isList (λ w hw=>s_0 rx fx r fs w (by simpa using hw)) ⟨.bl _,H,I,rfl,?_⟩
  rw[show O.toArray.any (eqU x)=O.any (eqU x) by simp,A_6 r fs]
  exact q
 ·obtain⟨O,r,Z,hz⟩:=I.tuple Y
  refine SeqAt.notIn_tupleAt (eqU x) Z (λ w hw=>s_0 rx fx r fs w (by simpa using hw)) ⟨.bl _,H,I,rfl,?_⟩
  rw[show O.toArray.any (eqU x)=O.any (eqU x) by simp,A_6 r fs]
  exact q
theorem L_2:OpR X (compareOp .NotIn) (λ x y H Q=>∃ i j,x=.str i/\y=.str j/\Q (.bl (!(!(Builtin.Str.occurrences j i 0 j.length 1).isEmpty))) H):=by
 intro pins s σ H x y v u Q I Y O h;obtain⟨i,j,rfl,rfl,q⟩:=h;obtain⟨t,rfl⟩:=Y;obtain⟨t',rfl⟩:=O;exact notIn_str ⟨.bl _,H,I,rfl,q⟩
theorem call_len_seq:CallR X (.builtin "len") (λ xs H Q=>∃ p ys,xs=[.ref p] ∧ (SqL X.K H p ys ∨ SqT X.K H p ys) ∧ Q (.int ys.length) H):=by
 intro pins s σ H xs us Q I r h;obtain⟨p,ys,rfl,Y,q⟩:=h;obtain⟨u,rfl,rx⟩:=r_0 r;cases rx;have hn:=D_6
 rcases Y with Y | Y
 ·obtain⟨aa,Z,pl,hz⟩:=I.list Y
  have O:=Z.length;exact Calls.call_len_list pl.isList (by simp only[List.size_toArray] <;> omega) ⟨.int ys.length,H,I.tok _,⟨s.toks+1,by rw[List.size_toArray,O]⟩,q⟩
 ·obtain⟨aa,Z,pl,hz⟩:=I.tuple Y
  have O:=Z.length;exact len_tuple pl (by simp only[List.size_toArray] <;> omega) ⟨.int ys.length,H,I.tok _,⟨s.toks+1,by rw[List.size_toArray,O]⟩,q⟩
theorem N_9:CallR X (.builtin "len") (λ xs H Q=>∃ z,xs=[.str z] ∧ z.length ≤ sizeLine ∧ Q (.int z.length) H):=by
 intro pins s σ H xs us Q I r h;obtain⟨z,rfl,hz,q⟩:=h;obtain⟨u,rfl,t,rfl⟩:=r_0 r;have O:=D_6;exact len_str (by omega) ⟨.int z.length,H,I.tok _,⟨_,rfl⟩,q⟩
theorem CallR.or {f:Value}{r O:List V->Hp->VK->Prop} (h:CallR X f r) (h':CallR X f O):CallR X f (λ xs H Q=>r xs H Q\/O xs H Q):=by
 intro pins s σ H xs us Q I Y q
 rcases q with q | q
 ·exact h pins s σ H xs us Q I Y q
 ·exact h' pins s σ H xs us Q I Y q
theorem u_8:CallR X (.type "list") (λ xs H Q=>∃ p ys,xs=[.ref p] ∧ (SqL X.K H p ys ∨ SqT X.K H p ys) ∧ ∀ l,H l=none → Q (.ref l) (upd H l (.lst ys))):=by
 intro pins s σ H xs us Q I r h;obtain⟨p,ys,rfl,hq,q⟩:=h;obtain⟨u,rfl,rx⟩:=r_0 r;cases rx;have fin:∀ (O:List Value),Vals ys O->ys.length<=sizeLine->∀ (h':Heap) (Z:Nat),(∀ b o',s.heap.get? b=some o'->h'.get? b=some o') ->
   h'.get? s.heap.objs.size=some {cls:=.type "list",dict:=none,data:=.seq O.toArray Z,slots:=#[]} → EP X pins σ Q (.ref s.heap.objs.size) {s with heap:=h'}:=λ O Y hz h' Z kp e =>
  ⟨.ref s.heap.objs.size,_,I.laid (t':=s.toks) kp (qj _) (show ObjOk X.prog X.w _ h' _ (.lst ys) from ⟨hz,O,Z,Y,e⟩),rfl,q _ (I.hok.fresh (qj _))⟩
 rcases hq with hq | hq
 ·obtain⟨O,Y,pl,hz⟩:=I.list hq
  have aa:=Y.length;obtain⟨o,ho,hc,n,hd⟩:=pl.isList;exact call_list_seq p (.inl rfl) ho hc hd (λ h' Z kp e=>fin O Y hz h' Z kp e) (by simp only[List.size_toArray] <;> omega)
 ·obtain⟨O,Y,pl,hz⟩:=I.tuple hq
  have aa:=Y.length;obtain⟨o,ho,hc,n,hd⟩:=pl;exact call_list_seq p (.inr rfl) ho hc hd (λ h' Z kp e=>fin O Y hz h' Z kp e) (by simp only[List.size_toArray] <;> omega)
theorem I_5:CallR X (.type "tuple") (λ xs H Q=>∃ p ys,xs=[.ref p] ∧ ((SqL X.K H p ys ∧ ∀ l,H l=none → Q (.ref l) (upd H l (.tup ys))) ∨ (SqT X.K H p ys ∧ Q (.ref p) H))):=by
 intro pins s σ H xs us Q I r h;obtain⟨p,ys,rfl,h⟩:=h;obtain⟨u,rfl,rx⟩:=r_0 r;cases rx
 rcases h with ⟨hq,q⟩ | ⟨hq,q⟩
 ·obtain⟨O,Y,Z,hz⟩:=I.list hq
  have aa:=Y.length;refine call_tuple_list Z.isList (λ h' kp=>?_) (by simp only[List.size_toArray] <;> omega)
  have I1:Inv X pins σ H {s with heap:=h'}:=I.kept (t':=s.toks) kp
  have I2:Inv X pins σ (upd H h'.objs.size (.tup ys)) {s with heap:=h'.push {cls:=.type "tuple",data:=.seq O.toArray}} :=
   I1.laid (t':=s.toks) (λ b o e=>qd _ e) (qj _) (show ObjOk X.prog X.w _ _ _ (.tup ys) from ⟨hz,O,Y,IsTuN.new _ _⟩)
  exact⟨.ref h'.objs.size,_,I2,rfl,q _ (I1.hok.fresh (qj _))⟩
 ·obtain⟨O,Y,Z,hz⟩:=I.tuple hq
  exact call_tuple_same Z ⟨.ref p,H,I,rfl,q⟩
noncomputable def tyV (K:Frag) (T:String) (x:V) (H:Hp):Prop:=match x with
 |.str _=>T="str"
 |.int _=>T="int"
 |.ref p=>(T="list" ∧ ∃ xs,SqL K H p xs) ∨ (T="tuple" ∧ ∃ o,K.lookup p=some o ∧ o.cls=.type "tuple" ∧ o.dict=none) ∨
   (T="dict" ∧ ((∃ kvs,H p=some (.dK kvs)) ∨ ∃ kvs,H p=some (.dT kvs))) ∨ (T="set" ∧ ∃ S n,H p=some (.set S n))
 |_=>False
theorem ay2 {pins:List (Addr×Obj)}{σ:St}{H:Hp}{s:Shared}{T:String}{x:V}{v:Value} (I:Inv X pins σ H s) (r:RelV x v) (ty:tyV X.K T x H) :
  s.TypeIs v T/\∀ a,v=.ref a->∃ ob,s.heap.get? a=some ob/\ob.dict=none:=by
 cases x with
 |str z =>
  obtain⟨t,rfl⟩:=r;cases (show T="str" from ty);exact⟨typeIs_str s z t,λ _ e=>nomatch e⟩
 |int i =>
  obtain⟨t,rfl⟩:=r;cases (show T="int" from ty);exact⟨typeIs_int s i t,λ _ e=>nomatch e⟩
 |ref p =>
  cases r
  rcases ty with ⟨rfl,xs,hq⟩ | ⟨rfl,o,O,hc,hd⟩ | ⟨rfl,O⟩ | ⟨rfl,S,n,O⟩
  ·obtain⟨Z,_,Y,_⟩:=I.list hq
   refine⟨Y.isList.typeIs,λ a e=>?_⟩
   cases e;obtain⟨o,n,e,c,hd,_⟩:=Y;exact⟨o,e,hd⟩
  ·refine⟨⟨o,I.kIn p o O,hc⟩,λ a e=>?_⟩
   cases e;exact⟨o,I.kIn _ o O,hd⟩
  ·have z:∃ o,s.heap.get? p=some o/\o.ExactDict:=by
    rcases O with ⟨kvs,O⟩ | ⟨kvs,O⟩
    ·obtain⟨_,_,_,_,o,_,_,e,ex,_⟩:=I.hok p _ O
     exact⟨o,e,ex⟩
    ·obtain⟨_,_,_,_,o,_,_,e,ex,_⟩:=I.hok p _ O
     exact⟨o,e,ex⟩
   obtain⟨o,e,ex⟩:=z;refine⟨⟨o,e,ex.1⟩,λ a e2=>?_⟩
   cases e2;exact⟨o,e,ex.2.1⟩
  ·obtain⟨o,_,_,_,e,ex,_⟩:=I.hok p _ O
   refine⟨⟨o,e,ex.1⟩,λ a e2=>?_⟩
   cases e2;exact⟨o,e,ex.2.1⟩
 |_=>exact False.elim ty
noncomputable def bH8 (K:Frag) (T:String) (r:V->List V->Hp->VK->Prop) (to:TE):TE:=λ σ H Q=>to σ H λ x H1=>tyV K T x H1/\r x [] H1 Q
noncomputable def tBM (K:Frag) (T:String) (r:V->List V->Hp->VK->Prop) (to:TE) (t:TA):TE:=λ σ H Q=>to σ H λ x H1=>tyV K T x H1/\t σ H1 λ xs H2=>r x xs H2 Q
variable {o e:Expr}{es:List Expr}{to:TE}{t:TA}{name:Str}{apos cpos:Pos}{T id:String}{r:V->List V->Hp->VK->Prop}
theorem aZ6 (pa:PlainAttrs T) (slot:Slot T name id) (aa:typeOf (.builtin id)=pure (.type "method_descriptor")) (hm:MtR X id r) (ho:PE X o to)
  (Y:attributeBase o name X.env (eval o X.env)=eval o X.env:=by rfl) (O:(apos.endLine==cpos.line)=true:=by rfl):PE X (.Call (.Attribute o name apos) [] [] cpos) (bH8 X.K T r to):=by
 intro pins s σ H Q I h;refine wpAny_Call_method0_late Y O (thn (ho pins s σ H _ I h) λ v s1 Z=>?_)
 obtain⟨x,H1,I1,r1,ty,q1⟩:=Z;obtain⟨h1,h2⟩:=ay2 I1 r1 ty;exact⟨T,id,pa,slot,aa,h1,h2,Calls.callWith_builtin rfl (PySem.evalArgs_none (hm pins s1 σ H1 x [] v [] Q I1 r1 .nil q1))⟩
theorem at0 (pa:PlainAttrs T) (slot:Slot T name id) (ac:typeOf (.builtin id)=pure (.type "method_descriptor")) (hm:MtR X id r) (ho:PE X o to) (ha:PA X (e::es) t)
  (Z:attributeBase o name X.env (eval o X.env)=eval o X.env:=by rfl)
  (ab:((backTo cpos (starEach (e::es) X.env)).all (λ x=>!x.1)&&(backToKw cpos (keywordEach [] X.env)).all (λ x=>x.1.isSome)
   && decide ((e::es).length+([]:List Keyword).length+(if ([]:List Keyword).isEmpty then 0 else 1)<30))=true:=by rfl)
  (Y:(apos.endLine==cpos.line)=true:=by rfl) (hs:starEach (e::es) X.env=(false,eval e X.env)::starEach es X.env:=by rfl) (O:(backTo cpos (starEach es X.env)).any (·.1)=false:=by rfl) :
  PE X (.Call (.Attribute o name apos) (e::es) [] cpos) (tBM X.K T r to t):=by
 intro pins s σ H Q I h;refine wpAny_Call_method_late Z ab Y rfl (thn (ho pins s σ H _ I h) λ v s1 aa=>?_)
 obtain⟨x,H1,I1,r1,ty,q1⟩:=aa;obtain⟨h1,h2⟩:=ay2 I1 r1 ty;refine⟨T,id,pa,slot,ac,h1,h2,?_⟩;have hA:=ha cpos pins s1 σ H1 _ I1 q1;rw[hs] at hA ⊢;refine Calls.callWith_builtin (by show (false||(backTo cpos (starEach es X.env)).any (·.1))=false;rw[O] <;> rfl) (Calls.evalArgs_plain ?_)
 exact thn hA λ us s2=>ex5 λ vs H2 I2 r2 q2=>hm pins s2 σ H2 x vs v us Q I2 r1 r2 q2
end
noncomputable def MtM (X:Cx) (id:String) (r:V->List V->Hp->VK->Prop):Prop :=
 ∀ (pins:List (Addr×Obj)) (s:Shared) (σ:St) (H:Hp) (x:V) (xs:List V) (v:Value) (us:List Value) (Q:VK),Inv X pins σ H s->RelV x v->Vals xs us->r x xs H Q ->
  wpAny (model X.prog X.w) X.A (call (.builtin id) (v::us)) (EP X pins σ Q) X.xe s
theorem Vals.one:∀ {x:V}{us:List Value},Vals [x] us->∃ u,us=[u]/\RelV x u
 |_,_,h=>by
  cases h with
  |cons r t=>cases t;exact⟨_,rfl,r⟩
theorem Vals.zero:∀ {us:List Value},Vals [] us->us=[]
 |_,.nil=>rfl
theorem Vals.reverse {xs:List V}{us:List Value} (h:Vals xs us):Vals xs.reverse us.reverse:=by
 induction h with
 |nil=>exact .nil
 |cons r t O=>rw[List.reverse_cons,List.reverse_cons];exact Vals.append O (.cons r .nil)
section
variable {X:Cx}{pins:List (Addr×Obj)}{σ:St}{H:Hp}{s:Shared}{l b:Addr}{xs ys zs:List V}
theorem Inv.lset {O its':List Value}{n:Nat}{f:Array Value->Array Value}{t':Nat} (I:Inv X pins σ H s) (hH:H l=some (.lst xs))
  (e:s.heap.get? l=some {cls:=.type "list",data:=.seq O.toArray n}) (hf:f O.toArray=its'.toArray) (hv:Vals ys its') (hz:ys.length ≤ sizeLine) :
  Inv X pins σ (upd H l (.lst ys)) {s with heap:=s.heap.update l (Obj.mapSeq f),toks:=t'}:=by
 have q:=PySem.IsL.update e f;rw[hf] at q;refine I.write (x:=l) (e:=l) (by rw[hH];exact trivial) (.inl rfl) (λ b' u Z Y=>(Heap.get?_update_other s.heap (Obj.mapSeq f) (Ne.symm Z)).trans Y) ⟨_,q⟩ ?_
 exact⟨hz,its',_,hv,q⟩
theorem Inv.lnew {O:List Value}{t':Nat} (I:Inv X pins σ H s) (Y:Vals ys O) (hz:ys.length<=sizeLine) :
  Inv X pins σ (upd H s.heap.objs.size (.lst ys)) {s with heap:=s.heap.push {cls:=.type "list",data:=.seq O.toArray},toks:=t'} :=
 I.laid (λ _ _ q=>qd _ q) (qj _) ⟨hz,O,0,Y,qk _ rfl⟩
theorem Inv.fresh (I:Inv X pins σ H s):H s.heap.objs.size=none:=I.hok.fresh (qj _)
theorem Inv.lstM (I:Inv X pins σ H s) (Y:H l=some (.lst xs)):xs.length ≤ sizeLine ∧ ∃ (O:List Value) (n:Nat),Vals xs O ∧ xs.length=O.length ∧ s.heap.get? l=some {cls:=.type "list",data:=.seq O.toArray n}:=by
 obtain⟨z,O,n,r,e⟩:=I.hok l _ Y;exact⟨z,O,n,r,r.length,e⟩
theorem at3 {n:Nat} (h:n<=sizeLine):Builtin.List.listTooLong n=false:=by
 unfold Builtin.List.listTooLong;exact decide_eq_false (by omega)
end
section
variable {X:Cx}
noncomputable def aI4:V->List V->Hp->VK->Prop:=λ x vs H Q=>∃ l xs y,x=.ref l/\vs=[y]/\H l=some (.lst xs)/\xs.length<sizeLine/\Q .non (upd H l (.lst (xs++[y])))
theorem y_0:MtM X "list.append" aI4:=by
 intro pins s σ H x vs v us Q I rx Z h;obtain⟨l,xs,y,rfl,rfl,Y,hz,q⟩:=h;cases rx;obtain⟨u,rfl,ru⟩:=Z.one;obtain⟨z,O,n,r,hl,e⟩:=I.lstM Y;refine call_meets F.slot_list_append ⟨_,e,rfl⟩ F.entry_list_append (F.args_list_append_2 _ _) (PySem.list_append l O.toArray n u (by rw[List.size_toArray];omega)) ⟨e,?_⟩
 refine⟨.non,_,I.lset (its':=O++[u]) Y e (by simp) (r.append (.cons ru .nil)) ?_,rfl,q⟩
 rw[List.length_append,List.length_singleton];omega
end
end L2
namespace Att
open PySem PySem.W PySem.Calls PyProof.Rows
theorem y_6 {P:Params}{h:Heap}:∀ (O:List Int) (vs:List Value),WellAll P h vs (O.map WData.int)->IntsAre vs O:=by
 intro O
 induction O with
 |nil =>
  intro vs w;rw[List.map_nil] at w;cases w;exact .nil
 |cons n O Y =>
  intro vs w;rw[List.map_cons] at w;cases w with
  |cons a b =>
   cases a;exact .cons _ _ (Y _ b)
theorem ad7 {l:OpenLaw}{n:Nat} (hn:l.most=some n) {P:Params}{h:Heap}{args:List WData}{Y:List Value}
  (Z:l.row.toRowW.claim.pre args=true) (ad:WellAll P h Y args) :
  ∃ a vs O,Y=[Value.ref a] ∧ args=[WData.list (O.map WData.int)] ∧ h.get? a=some {cls:=.type "list",data:=.seq vs.toArray} ∧ IntsAre vs O ∧ O.length ≤ n:=by
 have ac:WShape.hasAll [] args [.list .int]=true:=(pre_splitW Z).1;have hc:l.pre.holds [] {args:=args}=true:=(pre_splitW Z).2;obtain⟨d,r,rfl,h1,h2⟩:=hasAllW_cons ac;obtain rfl:=hasAllW_nil h2;obtain⟨xs,rfl,h3⟩:=hasW_list h1;obtain⟨O,rfl⟩:=items_int h3
 have ab:O.length<=n:=by
  unfold OpenLaw.pre at hc
  have h4:(WTm.not (.lt (.lit (.int (n:Int))) (.len (.arg 0)))).holds [] {args:=[.list (O.map .int)]}=true:=by
   have h4:=(holds_andW hc).1;rw[hn] at h4;exact h4
  have h5:=condW_of h4 (w_not (w_lt w_lit (w_len_list (w_arg rfl))));rw[List.length_map] at h5;refine Nat.le_of_not_lt λ q=>?_
  have q':(n:Int)<((O.length:Nat):Int):=by omega
  first
   |(rw[decide_eq_true q'] at h5;exact absurd h5 (by decide))
   |(simp at h5;omega)
 cases ad with
 |cons w1 w2 =>
  cases w2;cases w1 with
  |list ho aa=>exact⟨_,_,O,rfl,rfl,ho,y_6 O _ aa,ab⟩
theorem ae8 (l:OpenLaw) (args:List WData):l.row.toRowW.claim.post args (.bool true) args=true :=
 postW_of (r:=l.row.toRowW) (X:=(true==true))
  (show WShape.has [] (.bool true) .bool=true by first | rfl | decide | simp[WShape.has,WShape.arms,WShape.armsAll])
  (show (WTm.eq .res (.lit (.bool true))).value [] {args:=args,res:=some (.bool true),after:=args}=some (.bool (true==true)) from w_eq_bool (w_res rfl) w_lit) rfl
theorem attach_call {l:OpenLaw}{n:Nat}{q:Program}{Z:List Str}{XP:(Str->Option Value)->Heap->Prop}{YP:World->Heap->Prop}{d:DefRec}
  (hn:l.most=some n) (ag:d.params.defaults=[])
  (call:∀ (w:World) (s₀ O:Shared) (mg mb:Str->Option Value) (fa:Addr) (o:Obj) (pm cd ab:Value) (a:Addr) (vs:List Value) (ns:List Int),
   Ground q Z [] XP w s₀ mg mb O.heap->YP w O.heap ->
   O.heap.get? fa=some o->o.data=.func (docDef d.name d.params d.body d.scope pm cd ab)->O.heap.CodeRec cd d.name->mg d.name=some (.ref fa) ->
   O.heap.get? a=some {cls:=.type "list",data:=.seq vs.toArray} → IntsAre vs ns → ns.length ≤ n → O.gens=#[] →
   codeAny (model l.prog w) callerA (.call (.ref fa) ⟨[.ref a],[]⟩) (λ r s'=>r=.ok (.ret (.bool true))/\OldK O.heap s'.heap/\s'.os=O.os/\AllBare s'.gens) O) :
  WalkO q Z XP YP l.row.toRowW d [] (λ f vs=>PySem.call f vs):=by
 intro w s₀ O mg mb G Y fa o pm cd ab dV kV ho hd af hD ah hg args ak as ad aj am ai al;obtain rfl:dV=.none:=Dflts.none hD ag;obtain rfl:kV=.none:=Dflts.noKw hD;obtain⟨a,vs,ns,rfl,rfl,ac,aa,ae⟩:=ad7 hn ad ai;refine enter_call (codeAny_mono (call w s₀ O mg mb fa o pm cd ab a vs ns G Y ho (fd_plain hd) af ah ac aa ae hg) λ r s' hq=>?_)
 obtain⟨rfl,h2,h3,h4⟩:=hq;exact⟨.inl ⟨.bool true,.bool true,[],rfl,λ _=>rfl,.bool true,ae8 l _,λ _=>⟨List.Pairwise.nil,λ _ hm=>(nomatch hm)⟩⟩,h2,h3,h4⟩
end Att
namespace L2
open PySem PySem.Spec PyProof.Rows
theorem vals_ints:∀ {vs:List Value}{O:List Int},IntsAre vs O->Vals (O.map V.int) vs
 |_,_,.nil=>.nil
 |_,_,.cons n t h=>.cons ⟨t,rfl⟩ (vals_ints h)
noncomputable def by1 (H:Hp):Prop:=∀ b,H b=none\/∃ o xs,H b=some (.frz o (.lst xs))
theorem at8 {P:Program}{w:World}{K:Frag}{mg mb:Str->Option Value}{CX:CXT}{k:Nat}{fa a:Addr}{fd:FuncData}{x:Str}{sp:Sp}{O:Shared}{vs:List Value}{ns:List Int}
  (KX:K.In O.heap) (ag:O.heap.Ns mainGlobals mg) (Z:O.heap.Ns builtinsNs mb) (an:∀ x:Str,x≠"__name__" → mb x=bootBuiltins x) (ai:O.heap.NoLimit) (hg:O.gens=#[])
  (ha:O.heap.get? a=some {cls:=.type "list",data:=.seq vs.toArray}) (hi:IntsAre vs ns) (hl:ns.length ≤ sizeLine) (hr:Room k callerA)
  (F:∀ base:Heap,K.In base->base.Ns mainGlobals mg->FnOk P w K mg base CX k fa fd [x] sp) (ac:∀ (s:Shared) (u:Value),BindsTo s fd ⟨[u],[]⟩ [(x,u)])
  (ak:∀ H:Hp,by1 H->SqL K H a (ns.map V.int)->sp [.ref a] H (λ v _=>v=.bl true) λ _ _ _=>False)
  (am:∀ H e s',CX [] H O (λ _ _ _=>False) e s'->False) :
  codeAny (model P w) callerA (.call (.ref fa) ⟨[.ref a],[]⟩) (λ r s'=>r=.ok (.ret (.bool true))/\OldK O.heap s'.heap/\s'.os=O.os/\AllBare s'.gens) O:=by
 have rv:=vals_ints hi;have ae:=hi.length;have ab:∀ H:Hp,by1 H->SqL K H a (ns.map V.int)->HOk P w H O.heap->(∀ b,H b≠none->b=a)->(H a≠none->K.lookup a=none) ->
   codeAny (model P w) callerA (.call (.ref fa) ⟨[.ref a],[]⟩) (λ r s'=>r=.ok (.ret (.bool true))/\OldK O.heap s'.heap/\s'.os=O.os/\AllBare s'.gens) O:=by
  intro H hO hS aj hA hK;have Y:∀ {b:Addr}{o:Obj},O.heap.get? b=some o->H b=none->(au5 O.heap H).get? b=some o:=λ e n=>au4 e n
  have al:∀ {b:Addr}{o:Obj}{es:Array DictEntry}{ep:Nat},O.heap.get? b=some o->o.data=.dict es ep->H b=none:=λ {b o es ep} e d=>by
   cases q:H b with
   |none=>rfl
   |some u =>
    have e':b=a:=hA b (by rw[q];simp)
    subst e';rw[ha] at e;cases e;have d':Data.seq vs.toArray _=Data.dict es ep:=d;cases d'
  have aa:∀ {b:Addr}{m:Str->Option Value},O.heap.Ns b m->(au5 O.heap H).Ns b m:=λ {b m} ⟨o,es,ep,e,d,r⟩=>⟨o,es,ep,Y e (al e d),d,r⟩
  have ah:K.In (au5 O.heap H):=λ b o e=>Y (KX b o e) (by
   cases q:H b with
   |none=>rfl
   |some u =>
    have e':b=a:=hA b (by rw[q];simp)
    subst e';rw[hK (by rw[q];simp)] at e;cases e)
  have hM:Mod K mg (au5 O.heap H):=⟨ah,aa ag,⟨mb,aa Z,an⟩,let ⟨mc,h1,h2⟩:=ai;⟨mc,aa h1,h2⟩⟩;have e0:Env0 P w K mg (au5 O.heap H) callerA [] O H:=⟨rfl,hM,λ b o e=>aK9 e,Nat.le_of_eq (aj5 _ _),trivial,λ b Z=>absurd (show b∈([]:List Addr) from Z) (by simp),aj,.of_eq hg⟩
  refine codeAny_mono ((F _ ah (aa ag)).run callerA [] O H ⟨[.ref a],[]⟩ [.ref a] [.ref a] _ _ hr e0 (ac O (.ref a)) (.cons rfl .nil) (ak H hO hS)) λ r s' h=>?_
  cases r with
  |error e=>exact (am H e s' h).elim
  |ok fl =>
   cases fl with
   |next=>exact False.elim h
   |brk=>exact False.elim h
   |cont=>exact False.elim h
   |ret u =>
    obtain⟨v,H',os,af,un,ad,r',q⟩:=h;have q':v=.bl true:=q;subst q';obtain rfl:u=Value.bool true:=r';refine⟨rfl,OldK.of_keep λ b o e=>?_,os,af⟩
    cases q:H b with
    |none=>exact un.keep b o e q (by intro z;exact absurd (show b∈([]:List Addr) from z) (by simp)) (by simp)
    |some u =>
     rcases hO b with z | ⟨ob,xs,z⟩
     ·rw[q] at z;cases z
     ·have z2:=un.frzs b ob _ z
      obtain⟨e1,_⟩:=aj b _ z;obtain⟨e2,_⟩:=ad b _ z2;rw[e] at e1;cases e1;exact e2
 cases hk:K.lookup a with
 |some o =>
  have e:=KX a o hk;rw[ha] at e;cases e;refine ab (λ _=>none) (λ _=>.inl rfl) (.inr ⟨_,vs.toArray,_,hk,rfl,rfl,rfl,by rw[List.size_toArray,ae];exact hl,by simpa using rv⟩) (λ b u z=>by have z':(none:Option HO)=some u:=z;cases z') (λ b z=>absurd rfl z) λ z=>absurd rfl z
 |none =>
  refine ab (λ b=>if b=a then some (.frz {cls:=.type "list",data:=.seq vs.toArray} (.lst (ns.map V.int))) else none) (λ b=>?_) (.inl (.inr ⟨{cls:=.type "list",data:=.seq vs.toArray},if_pos rfl⟩)) (λ b u z=>?_) (λ b z=>?_) λ _=>hk
  ·by_cases Z:b=a
   ·exact .inr ⟨_,_,if_pos Z⟩
   ·exact .inl (if_neg Z)
  ·by_cases Z:b=a
   ·have z':=(if_pos Z).symm.trans z
    cases z';subst Z;exact⟨ha,by rw[List.length_map];exact hl,vs,_,rv,ha⟩
   ·have z':=(if_neg Z).symm.trans z
    cases z'
  ·by_cases Z:b=a
   ·exact Z
   ·exact absurd (if_neg Z) z
theorem walk_of {l:OpenLaw}{n k:Nat}{q:Program}{aa:List Str}{XP:(Str->Option Value)->Heap->Prop}{YP:World->Heap->Prop}{d:DefRec}{K:Params->Frag}{CX:World->CXT}{sp:World->Sp}{x:Str}
  (hn:l.most=some n) (ad:n<=sizeLine) (af:d.params.defaults=[]) (hr:Room k callerA)
  (hY:∀ (w:World) (h:Heap),YP w h->(K w.params).In h)
  (F:∀ (w:World) (mg:Str->Option Value) (fa:Addr) (h:Heap),(K w.params).In h->h.Ns mainGlobals mg->mg d.name=some (.ref fa) ->
   ∃ fd:FuncData,(∀ (s:Shared) (u:Value),BindsTo s fd ⟨[u],[]⟩ [(x,u)]) /\
    ∀ base:Heap,(K w.params).In base->base.Ns mainGlobals mg->FnOk l.prog w (K w.params) mg base (CX w) k fa fd [x] (sp w))
  (ae:∀ (w:World) (H:Hp) (a:Addr) (ns:List Int),ns.length<=n->by1 H->SqL (K w.params) H a (ns.map V.int)->sp w [.ref a] H (λ v _=>v=.bl true) λ _ _ _=>False)
  (ah:∀ (w:World) (H:Hp) (s:Shared) (e:Value) (s':Shared),CX w [] H s (λ _ _ _=>False) e s'->False) :
  PySem.W.WalkO q aa XP YP l.row.toRowW d [] (λ f vs=>PySem.call f vs):=by
 refine Att.attach_call hn af λ w s₀ ac mg mb fa o pm cd aj a vs ns G Y ho hd ai ag ab Z O hg=>?_
 have KX:=hY w _ Y;obtain⟨fd,hb,hF⟩:=F w mg fa _ KX G.T.g ag;exact at8 KX G.T.g G.T.b G.T.builtins G.T.nolimit hg ab Z (Nat.le_trans O ad) hr hF hb (λ H hO hS=>ae w H a ns O hO hS) λ H e s'=>ah w H ac e s'
noncomputable def t_7 (s:Stmt):Arguments:=match s with
 |.FunctionDef _ a _ _ _ _ _ _ _ _=>a
 |_=>{posonlyargs:=[],args:=[],vararg:=none,kwonlyargs:=[],kw_defaults:=[],kwarg:=none,defaults:=[]}
noncomputable def n_6 (s:Stmt):List Stmt:=match s with
 |.FunctionDef _ _ b _ _ _ _ _ _ _=>b
 |_=>[]
noncomputable def a_0 (s:Stmt):Scope:=match s with
 |.FunctionDef _ _ _ _ _ _ sc _ _ _=>sc
 |_=>{kind:=.function,names:=[],isGenerator:=false,isCoroutine:=false}
abbrev CX0:CXT:=λ _ _ _ _ _ _=>False
abbrev E0:XK:=λ _ _ _=>False
theorem af2 {X:Cx}:ao4 CX0 X E0:=λ _ _ _ _ _ _ _ h=>h.elim
structure Fun (K:Frag) (x qual:Str) (st:Stmt) (f:Addr) (fd:FuncData):Prop where
 ex:∃ (oc:Value) (od:Option Addr) (kV doc pm:Value) (an:Option Addr) (cdv ct:Value) (osl:Array (Option Value)),
  fd=fnOf x qual (t_7 st) (n_6 st) (a_0 st) .none kV doc pm an cdv ct/\K.lookup f=some ⟨oc,od,.func fd,osl⟩/\codeIn K cdv qual=true
 kp:keepIn K (.ref f)=true
section
variable {P:Program}{w:World}{K:Frag}{mg:Str->Option Value}{base:Heap}
theorem Fun.ok {x O:Str}{st:Stmt}{f:Addr}{fd:FuncData}{N ps:List Str}{k:Nat}{sp:Sp} (F:Fun K x O st f fd) (S:FnScope N ps (a_0 st)) (aa:∀ vs H Q E,sp vs H Q E->vs.length=ps.length)
  (Z:∀ (Y:Value) (A:Around) (outer:List Env) (s:Shared) (H:Hp) (vs:List V) (Q:VK) (E:XK),Room k (A.deeper (envOfC O (a_0 st) s.heap.objs.size f Y))->sp vs H Q E ->
   ∃ t,PSs (aC2 CX0 P w K mg base N O (a_0 st) f Y A outer s H E).nox (n_6 st) t/\t {nx:=λ _ H'=>Q .non H',rt:=Q} (start N vs) H):FnOk P w K mg base CX0 (k+1) f fd ps sp:=by
 obtain⟨oc,od,kV,ad,pm,an,Y,ct,ae,rfl,lk,ab⟩:=F.ex;refine bu5 lk ab S aa λ A outer s H vs Q E hr ac=>?_
 obtain⟨t,h,q⟩:=Z Y A outer s H vs Q E hr ac;exact⟨t,h.nox,q⟩
theorem Fun.binds {x O:Str}{st:Stmt}{f:Addr}{fd:FuncData}{ps:List Str} (F:Fun K x O st f fd)
  (h:∀ (kV Y pm:Value) (an:Option Addr) (Z ct:Value) (us:List Value),us.length=ps.length->bindArgs (fnOf x O (t_7 st) (n_6 st) (a_0 st) .none kV Y pm an Z ct) ⟨us,[]⟩=pure (ps.zip us)):Binds K fd ps []:=by
 obtain⟨oc,od,kV,Y,pm,an,Z,ct,ab,rfl,lk,aa⟩:=F.ex;exact .all (h kV Y pm an Z ct)
theorem d_4 {x O:Str}{st:Stmt}{f:Addr}{oc:Value}{od an:Option Addr}{aa:Array (Option Value)}{kV Z pm Y ct:Value} (l:K.lookup f=some ⟨oc,od,.func (fnOf x O (t_7 st) (n_6 st) (a_0 st) .none kV Z pm an Y ct),aa⟩)
  (c:codeIn K Y O=true) (k:keepIn K (.ref f)=true):Fun K x O st f (fnOf x O (t_7 st) (n_6 st) (a_0 st) .none kV Z pm an Y ct):=⟨⟨oc,od,kV,Z,pm,an,Y,ct,aa,rfl,l,c⟩,k⟩
end
theorem R_6 {A:Around}{k:Nat} (O:Room k A):A.units+1<cLine:=Nat.lt_of_le_of_lt (Nat.add_le_add_left (by decide:1<=64) _) O.units
theorem w_7 {n:Nat} (h:n<=1000):n<sizeLine:=Nat.lt_of_le_of_lt h (by decide)
section
variable {X:Cx}
theorem pv (i:Nat) {x:Str}{pos:Pos} (Z:X.N[i]?=some x:=by rfl) (Y:Vis X.env.scope x:=by first | exact Or.inl rfl | exact Or.inr (Or.inl rfl) | exact Or.inr (Or.inr rfl)) (hd:(x==("__debug__":Str))=false:=by decide)
  (O:(x==("__classdict__":Str))=false:=by decide):PE X (.Name x pos) (by7 i):=m_7 Z Y hd O
end
noncomputable def Same (H H':Hp):Prop:=∀ b o,H b=some o->H' b=some o
theorem Same.refl (H:Hp):Same H H:=λ _ _ h=>h
theorem Same.trans {H H1 H2:Hp} (a:Same H H1) (b:Same H1 H2):Same H H2:=λ c o h=>b c o (a c o h)
theorem Same.free {H H':Hp} (e:Same H H') {l:Addr} (h:H' l=Option.none):H l=Option.none:=by
 cases q:H l with
 |none=>rfl
 |some o =>
  rw[e l o q] at h;cases h
theorem Same.seq {K:Frag}{H H':Hp}{a:Addr}{xs:List V} (e:Same H H') (h:SqL K H a xs):SqL K H' a xs:=by
 rcases h with (h | ⟨o,h⟩) | h
 ·exact .inl (.inl (e _ _ h))
 ·exact .inl (.inr ⟨o,e _ _ h⟩)
 ·exact .inr h
section
variable {κ:Type} [DecidableEq κ]
noncomputable def E_5 (kvs:List (κ×V)) (k:κ):Option V:=(kvs.find? λ O=>decide (O.1=k)).map (·.2)
noncomputable def K_8 (kvs:List (κ×V)) (k:κ) (v:V):List (κ×V) :=
 if (kvs.any λ O=>decide (O.1=k))=true then kvs.map (λ O=>if O.1=k then (O.1,v) else O) else kvs++[(k,v)]
noncomputable def bN3 (kvs:List (κ×V)) (k:κ):List (κ×V):=kvs.filter λ O=>decide (O.1≠k)
theorem v_6 {p:κ×V}{r:List (κ×V)}{k:κ} (e:p.1=k):E_5 (p::r) k=some p.2:=by simp[E_5,List.find?_cons,e]
theorem p_7 {p:κ×V}{r:List (κ×V)}{k:κ} (e:¬ p.1=k):E_5 (p::r) k=E_5 r k:=by simp[E_5,List.find?_cons,e]
theorem v_7 (k:κ):∀ kvs:List (κ×V),(kvs.any λ O=>decide (O.1=k))=(E_5 kvs k).isSome
 |[]=>rfl
 |p::r=>by
  rw[List.any_cons]
  by_cases e:p.1=k
  ·simp only[v_6 e,decide_eq_true e,Bool.true_or,Option.isSome_some]
  ·rw[p_7 e,decide_eq_false e,Bool.false_or];exact v_7 k r
theorem y_4 (kvs:List (κ×V)) (k:κ) (v:V):(K_8 kvs k v).length<=kvs.length+1:=by
 unfold K_8
 split
 ·rw[List.length_map];omega
 ·rw[List.length_append,List.length_cons,List.length_nil];omega
theorem ar7 {kvs:List (κ×V)}{k:κ} (v:V) (h:E_5 kvs k=none):K_8 kvs k v=kvs++[(k,v)]:=by
 unfold K_8;rw[v_7,h];exact if_neg (by decide)
theorem RelO.isSome_eq {o:Option V}{u:Option Value} (r:RelO o u):o.isSome=u.isSome:=by
 cases o with
 |none=>cases u with
  |none=>rfl
  |some _=>exact (show False from r).elim
 |some _=>cases u with
  |none=>exact (show False from r).elim
  |some _=>rfl
theorem RelO.getD {o:Option V}{u:Option Value}{d:V}{d':Value} (r:RelO o u) (rd:RelV d d'):RelV (o.getD d) (u.getD d'):=by
 cases o with
 |none=>cases u with
  |none=>exact rd
  |some _=>exact (show False from r).elim
 |some _=>cases u with
  |none=>exact (show False from r).elim
  |some _=>exact r
theorem KV.val {kvs:List (κ×V)}{vs:List (κ×Value)} (r:KV kvs vs) (k:κ):RelO (E_5 kvs k) (valueAt vs k):=by
 unfold KV at r
 induction r with
 |nil=>exact True.intro
 |@cons p q ps Y h t Z =>
  obtain⟨h1,h2⟩:=h
  by_cases e:p.1=k
  ·have O:q.1=k:=h1.symm.trans e
   have b:valueAt (q::Y) k=some q.2:=by simp[valueAt,List.find?_cons,O]
   rw[v_6 e,b];exact h2
  ·have O:¬ q.1=k:=λ z=>e (h1.trans z)
   have b:valueAt (q::Y) k=valueAt Y k:=by simp[valueAt,List.find?_cons,O]
   rw[p_7 e,b];exact Z
theorem KV.any {kvs:List (κ×V)}{vs:List (κ×Value)} (r:KV kvs vs) (k:κ):(kvs.any λ O=>decide (O.1=k))=vs.any λ O=>decide (O.1=k):=by
 unfold KV at r
 induction r with
 |nil=>rfl
 |cons h t Y=>rw[List.any_cons,List.any_cons,Y,h.1]
theorem KV.repl {kvs:List (κ×V)}{vs:List (κ×Value)} (r:KV kvs vs) (k:κ) {y:V}{u:Value} (Y:RelV y u) :
  KV (kvs.map λ O=>if O.1=k then (O.1,y) else O) (vs.map λ O=>if O.1=k then (O.1,u) else O):=by
 unfold KV at r ⊢
 induction r with
 |nil=>exact .nil
 |@cons p q ps qs h t Z =>
  rw[List.map_cons,List.map_cons];refine .cons ?_ Z;obtain⟨h1,h2⟩:=h
  by_cases e:p.1=k
  ·rw[if_pos e,if_pos (h1.symm.trans e)];exact⟨h1,Y⟩
  ·rw[if_neg e,if_neg (λ z=>e (h1.trans z))];exact⟨h1,h2⟩
theorem KV.put {kvs:List (κ×V)}{vs:List (κ×Value)} (r:KV kvs vs) (k:κ) {y:V}{u:Value} (O:RelV y u):KV (K_8 kvs k y) (stored vs k u):=by
 unfold K_8 stored;rw[r.any k]
 by_cases e:(vs.any λ Y=>decide (Y.1=k))=true
 ·rw[if_pos e,if_pos e];exact r.repl k O
 ·rw[if_neg e,if_neg e];exact Paired.snoc r ⟨rfl,O⟩
theorem KV.keys {kvs:List (κ×V)}{vs:List (κ×Value)} (r:KV kvs vs):kvs.map (·.1)=vs.map (·.1):=by
 unfold KV at r
 induction r with
 |nil=>rfl
 |cons h t O=>rw[List.map_cons,List.map_cons,O,h.1]
theorem KV.length {kvs:List (κ×V)}{vs:List (κ×Value)} (r:KV kvs vs):kvs.length=vs.length:=Paired.length r
end
theorem ai8 {P:Program}{w:World}{k:Key}{u:Value} (r:RelV (kV k) u):(c_0 P w).is k u=true:=by
 cases k with
 |inl i=>obtain⟨t,e⟩:=(show ∃ t,u=Value.int i t from r);subst e;exact Q_8 P w i t
 |inr x=>obtain⟨t,e⟩:=(show ∃ t,u=Value.str x t from r);subst e;exact r_3 P w x t
theorem M_9 {P:Program}{w:World}:∀ {ks:List Key}{us:List Value},Vals (ks.map kV) us->ItemsAre (c_0 P w) ks us
 |[],_,r=>by rw[List.map_nil] at r;cases r;exact .nil
 |k::ks,_,r=>by
  rw[List.map_cons] at r;cases r with
  |cons h t=>exact .cons (ai8 h) (M_9 t)
abbrev KT (H:Hp):List (List Key×V)->List (List Key×Addr×Value)->Prop:=Paired λ p q=>p.1=q.1/\H q.2.1=some (.tup (p.1.map kV))/\RelV p.2 q.2.2
theorem KT.val {H:Hp}{kvs:List (List Key×V)}{xs:List (List Key×Addr×Value)} (r:KT H kvs xs) (k:List Key):RelO (E_5 kvs k) ((atKey xs k).map (·.2)):=by
 induction r with
 |nil=>exact True.intro
 |@cons p q ps Y h t Z =>
  obtain⟨h1,_,h2⟩:=h
  by_cases e:p.1=k
  ·have O:q.1=k:=h1.symm.trans e
   have b:atKey (q::Y) k=some q.2:=by simp[atKey,List.find?_cons,O]
   rw[v_6 e,b];exact h2
  ·have O:¬ q.1=k:=λ z=>e (h1.trans z)
   have b:atKey (q::Y) k=atKey Y k:=by simp[atKey,List.find?_cons,O]
   rw[p_7 e,b];exact Z
theorem KT.repl {H:Hp}{kvs:List (List Key×V)}{xs:List (List Key×Addr×Value)} (r:KT H kvs xs) (k:List Key) {y:V}{u:Value} (ry:RelV y u) :
  KT H (kvs.map λ O=>if O.1=k then (O.1,y) else O) (xs.map (putAt k u)):=by
 induction r with
 |nil=>exact .nil
 |@cons p q ps qs h t Z =>
  rw[List.map_cons,List.map_cons];refine .cons ?_ Z;obtain⟨h1,h2,Y⟩:=h;unfold putAt
  by_cases e:p.1=k
  ·rw[if_pos e,if_pos (h1.symm.trans e)];exact⟨h1,h2,ry⟩
  ·rw[if_neg e,if_neg (λ z=>e (h1.trans z))];exact⟨h1,h2,Y⟩
theorem KT.put {H:Hp}{kvs:List (List Key×V)}{xs:List (List Key×Addr×Value)} (r:KT H kvs xs) (k:List Key) {b:Addr}{y:V}{u:Value} (Z:H b=some (.tup (k.map kV))) (O:RelV y u) :
  KT H (K_8 kvs k y) (storedH xs k b u):=by
 have e:(kvs.any λ Y=>decide (Y.1=k))=(atKey xs k).isSome:=by
  rw[v_7,(r.val k).isSome_eq,Option.isSome_map]
 unfold K_8 storedH;rw[e]
 by_cases q:(atKey xs k).isSome=true
 ·rw[if_pos q,if_pos q];exact r.repl k O
 ·rw[if_neg q,if_neg q];exact Paired.snoc r ⟨rfl,Z,O⟩
theorem KT.keeps {H H':Hp}{kvs:List (List Key×V)}{xs:List (List Key×Addr×Value)} (r:KT H kvs xs) (O:∀ b ys,H b=some (.tup ys)->H' b=some (.tup ys)):KT H' kvs xs :=
 Paired.mapP r λ _ _ z=>⟨z.1,O _ _ z.2.1,z.2.2⟩
section
variable {P:Program}{w:World}{H:Hp}{h:Heap}{a:Addr}
theorem aX8 {u:HO} (ok:HOk P w H h) (e:Rd H a u):ObjOk P w H h a u:=e.ok ok
theorem al8 {kvs:List (Key×V)} (ok:HOk P w H h) (e:Rd H a (.dK kvs)):kvs.length<=sizeLine/\(a==sysModules)=false/\∃ vs,KV kvs vs/\h.DictOf (c_0 P w) a vs :=
 show ObjOk P w H h a (.dK kvs) from aX8 ok e
theorem bf6 {kvs:List (Key×V)} (ok:HOk P w H h) (e:H a=some (.dK kvs)):kvs.length<=sizeLine/\(a==sysModules)=false/\∃ vs,KV kvs vs/\h.DictOf (c_0 P w) a vs:=al8 ok (.inl e)
theorem W_4 {ks:List Key} (ok:HOk P w H h) (e:H a=some (.tup (ks.map kV))):(tupleKind (c_0 P w)).is h ks a:=by
 obtain⟨_,O,r,o,h1,h2,⟨n,Y⟩,_⟩:=(show ObjOk P w H h a (.tup (ks.map kV)) from ok a _ e);exact⟨o,O.toArray,n,h1,h2,Y,by simpa using M_9 r⟩
theorem al5 {kvs:List (List Key×V)} (ok:HOk P w H h) (e:Rd H a (.dT kvs)):kvs.length<=sizeLine/\(a==sysModules)=false /\
  ∃ xs,KT H kvs xs/\h.DictOfH (tupleKind (c_0 P w)) a xs:=by
 obtain⟨z,y,xs,r,o,es,ep,h1,h2,Z,h4,h5⟩:=(show ObjOk P w H h a (.dT kvs) from aX8 ok e);refine⟨z,y,xs,r,o,es,ep,h1,h2,Z,h4,λ x O=>?_,h5⟩
 have all:∀ {l:List (List Key×V)}{m:List (List Key×Addr×Value)},KT H l m->∀ x∈m,(tupleKind (c_0 P w)).is h x.1 x.2.1:=by
  intro l m q
  induction q with
  |nil=>intro x O;exact nomatch O
  |@cons p q ps qs Y t ih =>
   intro x O
   rcases qt O with e | O
   ·subst e
    exact W_4 ok (by rw[<- Y.1];exact Y.2.1)
   ·exact ih x O
 exact all r x O
theorem bw2 {kvs:List (List Key×V)} (ok:HOk P w H h) (e:H a=some (.dT kvs)):kvs.length<=sizeLine/\(a==sysModules)=false /\
  ∃ xs,KT H kvs xs/\h.DictOfH (tupleKind (c_0 P w)) a xs:=al5 ok (.inl e)
end
noncomputable def DGet (H:Hp) (a:Addr) (y:V) (r:Option V):Prop :=
 (∃ kvs k,Rd H a (.dK kvs)/\y=kV k/\r=E_5 kvs k)\/∃ kvs k b,Rd H a (.dT kvs)/\y=.ref b/\H b=some (.tup (k.map kV))/\r=E_5 kvs k
noncomputable def DPut (H:Hp) (a:Addr) (y v:V) (H':Hp):Prop :=
 (∃ kvs k,H a=some (.dK kvs)/\y=kV k/\kvs.length<sizeLine/\H'=upd H a (.dK (K_8 kvs k v))) \/
 ∃ kvs k b,H a=some (.dT kvs)/\y=.ref b/\H b=some (.tup (k.map kV))/\kvs.length<sizeLine/\H'=upd H a (.dT (K_8 kvs k v))
theorem DGet.k {H:Hp}{a:Addr}{kvs:List (Key×V)}{k:Key} (e:H a=some (.dK kvs)):DGet H a (kV k) (E_5 kvs k):=.inl ⟨kvs,k,.inl e,rfl,rfl⟩
theorem DGet.t {H:Hp}{a b:Addr}{kvs:List (List Key×V)}{k:List Key} (e:H a=some (.dT kvs)) (O:H b=some (.tup (k.map kV))):DGet H a (.ref b) (E_5 kvs k):=.inr ⟨kvs,k,b,.inl e,rfl,O,rfl⟩
theorem DPut.k {H:Hp}{a:Addr}{kvs:List (Key×V)}{k:Key}{v:V} (e:H a=some (.dK kvs)) (O:kvs.length<sizeLine):DPut H a (kV k) v (upd H a (.dK (K_8 kvs k v))):=.inl ⟨kvs,k,e,rfl,O,rfl⟩
theorem DPut.t {H:Hp}{a b:Addr}{kvs:List (List Key×V)}{k:List Key}{v:V} (e:H a=some (.dT kvs)) (Y:H b=some (.tup (k.map kV))) (O:kvs.length<sizeLine) :
  DPut H a (.ref b) v (upd H a (.dT (K_8 kvs k v))):=.inr ⟨kvs,k,b,e,rfl,Y,O,rfl⟩
section
variable {X:Cx}{pins:List (Addr×Obj)}{σ:St}{H:Hp}{s:Shared}{a:Addr}{y v:V}{u r:Value}{o:Option V}{A:Around}{E:Value->Shared->Prop}
theorem Inv.big (I:Inv X pins σ H s):sysModules<s.heap.objs.size:=by
 have h:mainGlobals<s.heap.objs.size:=(I.mod.glob.keeps I.bk).lt;exact Nat.lt_trans (by decide) h
theorem am0 {Q:Value->Shared->Prop} (hu:A.units+1<cLine) (I:Inv X pins σ H s) (g:DGet H a y (some v)) (ry:RelV y u) (h:∀ Z s',Inv X pins σ H s'->RelV v Z->Q Z s') :
  wpAny (model X.prog X.w) A (getItem (.ref a) u) Q E s:=by
 rcases g with ⟨kvs,k,e,ey,l⟩ | ⟨kvs,k,b,e,ey,eb,l⟩
 ·subst ey
  obtain⟨z,hd,vs,O,dd⟩:=al8 I.hok e;obtain⟨Z,hw,Y⟩:=RelO.some_of (v:=v) (o:=valueAt vs k) (by rw[l];exact O.val k)
  exact wpAny_getItem_of (ai8 ry) dd.mapOf hw (h Z _ (I.tok _) Y)
 ·subst ey
  cases (show u=Value.ref b from ry);obtain⟨z,hd,xs,O,dd⟩:=al5 I.hok e;obtain⟨Z,hw,Y⟩:=RelO.some_of (v:=v) (o:=(atKey xs k).map (·.2)) (by rw[l];exact O.val k)
  obtain⟨p,hp,aa⟩:=Option.map_eq_some_iff.mp hw;refine wpAny_getItem_heap (tupleKind_room_in1 hu) (W_4 I.hok eb) dd hp ?_;rw[aa];exact h Z _ (I.tok _) Y
theorem S_1 {h':Heap}{t':Nat}{ob:HO} (I:Inv X pins σ H s) (Z:Mut (H a)) (Y:Heap.SameBut a s.heap h') (O:∃ q,h'.get? a=some q) (new:ObjOk X.prog X.w (upd H a ob) h' a ob) :
  Inv X pins σ (upd H a ob) {s with heap:=h',toks:=t'} :=
 I.write (x:=a) (e:=a) Z (.inl rfl) (λ b q hb z=>(Y.2 b hb).trans z) O new
theorem X_6 {P:Program}{w:World}{H':Hp}{h':Heap}{kvs:List (Key×V)}{vs:List (Key×Value)} (z:kvs.length<=sizeLine) (hd:(a==sysModules)=false) (O:KV kvs vs) (Y:h'.DictOf (c_0 P w) a vs) :
  ObjOk P w H' h' a (.dK kvs):=⟨z,hd,vs,O,Y⟩
theorem al9 {H':Hp}{Q:Unit->Shared->Prop} (hu:A.units+1<cLine) (I:Inv X pins σ H s) (g:DPut H a y v H') (ry:RelV y u) (rv:RelV v r) (h:∀ s',Inv X pins σ H' s'->Q () s') :
  wpAny (model X.prog X.w) A (setItem (.ref a) u r) Q E s:=by
 rcases g with ⟨kvs,k,e,ey,l,eH⟩ | ⟨kvs,k,b,e,ey,eb,l,eH⟩
 ·subst ey eH
  obtain⟨z,hd,vs,O,dd⟩:=bf6 I.hok e;have hz:vs.length<=sizeLine:=by rw[<- O.length];exact z
  have hl:(K_8 kvs k v).length<=sizeLine:=by have:=y_4 kvs k v;omega
  refine wpAny_setItem_pairs (hsz:=hz) (ai8 ry) dd λ h' Y hs=>h _ ?_
  have he:∃ q,h'.get? a=some q:=let ⟨q,_,_,Z,_⟩:=Y;⟨q,Z⟩;exact S_1 I (by rw[e];exact True.intro) hs he (X_6 hl hd (O.put k rv) Y)
 ·subst ey eH
  cases (show u=Value.ref b from ry);obtain⟨z,hd,xs,O,dd⟩:=bw2 I.hok e;have hz:xs.length<=sizeLine:=by rw[<- Paired.length O];exact z
  have hl:(K_8 kvs k v).length<=sizeLine:=by have:=y_4 kvs k v;omega
  refine wpAny_setItem_heap (hsz:=hz) (tupleKind_room_in1 hu) (W_4 I.hok eb) dd λ h' Y hs=>h _ ?_
  obtain⟨q,es,ep,Z,h2,h3,h4,_,h5⟩:=Y;refine S_1 I (by rw[e];exact True.intro) hs ⟨q,Z⟩ ⟨hl,hd,_,(O.put k eb rv).keeps λ c ys ec=>?_,q,es,ep,Z,h2,h3,h4,h5⟩
  rw[a_3 (br8 ec e (λ z=>nomatch z))]
  exact ec
end
section
variable {X:Cx}{pins:List (Addr×Obj)}{σ:St}{H:Hp}{s:Shared}{a:Addr}{kvs:List (Key×V)}{k:Key}{u:Value}{A:Around}{E:Value->Shared->Prop}
theorem aP6 {Q:Value → Shared → Prop} (I:Inv X pins σ H s) (e:H a=some (.dK kvs)) (h:∀ s',Inv X pins σ (upd H a (.dK [])) s' → Q .none s'):wpAny (model X.prog X.w) A (call (.builtin "dict.clear") [.ref a]) Q E s:=by
 obtain⟨z,hd,vs,Y,Z⟩:=bf6 I.hok e;refine call_meetsIn PySem.F.slot_dict_clear Z.typeIs PySem.F.entry_dict_clear (PySem.F.args_dict_clear_1 _) (meets_dict_clear (c_0 X.prog X.w) a) ⟨vs,Z,by rw[<- Y.length];exact z,λ h' O hs=>h _ ?_⟩
 have he:∃ q,h'.get? a=some q:=let ⟨q,_,_,hq,_⟩:=O;⟨q,hq⟩;exact S_1 (t':=s.toks) I (by rw[e];exact True.intro) hs he (X_6 (Nat.zero_le _) hd .nil O)
end
noncomputable def bl2 (i:Expr):Prop:=∀ Y O,subscripted i false Y O=operate [Y,O] (getItem Y O)
theorem aG7 {prog:Program}{w:World}{A:Around}{E:Value->Shared->Prop}{s:Shared}{env:Env}{value O:Expr}{pos:Pos}{T id:String}{Q:Value->Shared->Prop}
  (hl:typeLookup (.type T) "__getitem__"=pure (some (.builtin id))) (hs:bl2 O)
  (h:wpAny (model prog w) A (eval value env) (λ o aa=>wpAny (model prog w) A (eval O env) (λ i Y=>Y.TypeIs o T/\wpAny (model prog w) A (getItem o i) Q E Y) E aa) E s) :
  wpAny (model prog w) A (eval (.Subscript value O pos) env) Q E s:=by
 refine Subscript_ (wpAny_mono h (λ o aa ac=>wpAny_mono ac (λ i Y Z=>?_) λ _ _ x=>x) λ _ _ x=>x)
 obtain⟨hT,Z⟩:=Z;unfold subscriptTail;refine qb ?_;rw[getitemInPython_of_ne hT.not_modules];refine qb (wpAny_specialOf hT hl ?_)
 have fin:wpAny (model prog w) A (subscripted O false o i) (λ r ab=>wpAny (model prog w) A (letTemporaryGo value o r >>= λ _=>pure r) Q E ab) E Y:=by
  rw[hs o i];exact wpAny_operating (wpAny_mono Z (λ r ab ad=>qb (wpAny_letTemporaryGo (qc ad))) λ _ _ x=>x)
 first
  |exact qc (qb fin)
  |exact qb (qc (qb fin))
  |exact qb fin
theorem R_9 {X:Cx}{pins:List (Addr×Obj)}{σ:St}{H:Hp}{s:Shared}{a:Addr}{y:V}{o:Option V} (I:Inv X pins σ H s) (g:DGet H a y o):s.TypeIs (.ref a) "dict":=by
 rcases g with ⟨kvs,k,e,_,_⟩ | ⟨kvs,k,b,e,_,_,_⟩
 ·obtain⟨_,_,vs,_,O⟩:=al8 I.hok e
  exact O.typeIs
 ·obtain⟨_,_,xs,_,O⟩:=al5 I.hok e
  exact O.typeIs
noncomputable def bn0 (td ty:TE):TE:=λ σ H Q=>td σ H λ x H1=>ty σ H1 λ y H2=>∃ a v,x=.ref a/\DGet H2 a y (some v)/\Q v H2
noncomputable def bo6 (td ty tv:TE):TS:=λ D σ H=>tv σ H λ v H1=>td σ H1 λ x H2=>ty σ H2 λ y Y=>∃ a O,x=.ref a/\DPut Y a y v O/\D.nx σ O
section
variable {X:Cx}{o i e value:Expr}{pos pos' tpos:Pos}{td ty tv:TE}
theorem af0 (hu:X.A.units+1<cLine) (ho:PE X o td) (hi:PE X i ty) (hs:bl2 i):PE X (.Subscript o i pos) (bn0 td ty):=by
 intro pins s σ H Q I h;refine aG7 PySem.F.slot_dict_getitem.lookup hs (thn (ho pins s σ H _ I h) λ u s1 ⟨x,H1,I1,rx,q1⟩=>thn (hi pins s1 σ H1 _ I1 q1) λ iv s2 O=>?_)
 obtain⟨y,H2,Z,ry,a,v,ex,g,q2⟩:=O;subst ex;obtain rfl:u=Value.ref a:=rx;exact⟨R_9 Z g,am0 hu Z g ry λ w' s3 I3 Y=>⟨v,H2,I3,Y,q2⟩⟩
theorem aJ3 (hu:X.A.units+1<cLine) (ho:PE X o td) (hi:PE X i ty) (hv:PE X value tv) (hs:swapsWith value (some (.Subscript o i pos')) pos.line X.env=pure false) :
  PS X (.Assign [.Subscript o i pos'] value pos) (bo6 td ty tv):=by
 intro pins s σ H D I h;refine wpAny_Assign_Subscript (thn (hv pins s σ H _ I h) λ r Z ⟨v,H1,I1,rv,q1⟩=>thn (ho pins Z σ H1 _ I1 q1) λ u Y ⟨x,H2,I2,rx,q2⟩=>thn (hi pins Y σ H2 _ I2 q2) λ iv s3 O=>?_) hs
 obtain⟨y,H3,I3,ry,a,H4,ex,g,q3⟩:=O;subst ex;obtain rfl:u=Value.ref a:=rx;exact al9 hu I3 g ry rv λ s4 I4=>⟨σ,H4,I4,q3⟩
end
theorem av3 {P:Program}{w:World}{H:Hp} (h:Heap) (O:sysModules<h.objs.size):ObjOk P w H (h.push {cls:=.type "dict",data:=.dict #[]}) h.objs.size (.dK []) :=
 ⟨Nat.zero_le _,beq_eq_false_iff_ne.mpr (Ne.symm (qr O)),[],.nil,Heap.DictOf.new h⟩
noncomputable def aV9:TE:=λ _ H Q=>∀ p,H p=none->Q (.ref p) (upd H p (.dK []))
section
variable {X:Cx}{pos:Pos}
theorem as6:PE X (.Dict [] [] pos) aV9:=λ pins s σ H Q I h =>
 wpAny_Dict_empty ⟨.ref s.heap.objs.size,_,I.laid (a:=s.heap.objs.size) (o:=.dK []) (t':=s.toks) (λ _ _ q=>qd _ q) (qj _) (av3 s.heap I.big),rfl,h _ (I.hok.fresh (qj _))⟩
end
structure M1 (X:Cx) (o:Expr) (m:Str) (apos:Pos) (e:Expr) (cpos:Pos):Prop where
 base:attributeBase o m X.env (eval o X.env)=eval o X.env
 few:((backTo cpos (starEach [e] X.env)).all (λ x=>!x.1)&&(backToKw cpos (keywordEach [] X.env)).all (λ x=>x.1.isSome)
  && decide (([e]:List Expr).length+([]:List Keyword).length+(if ([]:List Keyword).isEmpty then 0 else 1)<30))=true
 line:(apos.endLine==cpos.line)=true
 trees:backTo cpos (starEach [e] X.env)=[(false,eval e X.env)]
structure M2 (X:Cx) (o:Expr) (m:Str) (apos:Pos) (e f:Expr) (cpos:Pos):Prop where
 base:attributeBase o m X.env (eval o X.env)=eval o X.env
 few:((backTo cpos (starEach [e,f] X.env)).all (λ x=>!x.1)&&(backToKw cpos (keywordEach [] X.env)).all (λ x=>x.1.isSome)
  && decide (([e,f]:List Expr).length+([]:List Keyword).length+(if ([]:List Keyword).isEmpty then 0 else 1)<30))=true
 line:(apos.endLine==cpos.line)=true
 trees:backTo cpos (starEach [e,f] X.env)=[(false,eval e X.env),(false,eval f X.env)]
noncomputable def IsD (H:Hp) (a:Addr):Prop:=(∃ kvs,Rd H a (.dK kvs))\/∃ kvs,Rd H a (.dT kvs)
theorem bd3 {X:Cx}{pins:List (Addr×Obj)}{σ:St}{H:Hp}{s:Shared}{a:Addr} (I:Inv X pins σ H s) (d:IsD H a) :
  s.TypeIs (.ref a) "dict" ∧ (∀ b,Value.ref a=.ref b → ∃ ob,s.heap.get? b=some ob ∧ ob.dict=none) ∧ (a==sysModules)=false:=by
 rcases d with ⟨kvs,e⟩ | ⟨kvs,e⟩
 ·obtain⟨_,hd,vs,_,O⟩:=al8 I.hok e
  refine⟨O.typeIs,λ b q=>?_,hd⟩
  cases q;obtain⟨ob,_,_,h1,h2,_⟩:=O;exact⟨ob,h1,h2.2.1⟩
 ·obtain⟨_,hd,xs,_,O⟩:=al5 I.hok e
  refine⟨O.typeIs,λ b q=>?_,hd⟩
  cases q;obtain⟨ob,_,_,h1,h2,_⟩:=O;exact⟨ob,h1,h2.2.1⟩
section
variable {X:Cx}{pins:List (Addr×Obj)}{σ:St}{H:Hp}{s:Shared}{a:Addr}{y d:V}{u r:Value}{o:Option V}{A:Around}{E:Value->Shared->Prop}
theorem bf8 {Q:Value->Shared->Prop} (hu:A.units+1<cLine) (I:Inv X pins σ H s) (g:DGet H a y o) (ry:RelV y u) (rd:RelV d r) (h:∀ Z s',Inv X pins σ H s'->RelV (o.getD d) Z->Q Z s') :
  wpAny (model X.prog X.w) A (call (.builtin "dict.get") [.ref a,u,r]) Q E s:=by
 rcases g with ⟨kvs,k,e,ey,l⟩ | ⟨kvs,k,b,e,ey,eb,l⟩
 ·subst ey
  obtain⟨z,hd,vs,O,Y⟩:=al8 I.hok e;refine call_meetsIn PySem.F.slot_dict_get Y.typeIs PySem.F.entry_dict_get (PySem.F.args_dict_get_3 _ _ _) (meets_dict_get_default (c_0 X.prog X.w) a (ai8 ry) hd r) ⟨_,Y.mapOf,h _ _ (I.tok _) ?_⟩;rw[l];exact (O.val k).getD rd
 ·subst ey
  cases (show u=Value.ref b from ry);obtain⟨z,hd,xs,O,Y⟩:=al5 I.hok e;refine call_meetsIn PySem.F.slot_dict_get Y.typeIs PySem.F.entry_dict_get (PySem.F.args_dict_get_3 _ _ _) (meetsH_dict_get_default (tupleKind (c_0 X.prog X.w)) a b hd r) ⟨tupleKind_room_in1 hu,k,xs,W_4 I.hok eb,Y,h _ _ (I.tok _) ?_⟩;rw[l];exact (O.val k).getD rd
end
noncomputable def aW0 (td ty tx:TE):TE:=λ σ H Q=>td σ H λ x H1=>∃ a,x=.ref a/\IsD H1 a/\ty σ H1 λ y H2=>tx σ H2 λ z O=>∃ o,DGet O a y o/\Q (o.getD z) O
section
variable {X:Cx}{o e f:Expr}{apos cpos:Pos}{td ty tx:TE}
theorem as7 (hu:X.A.units+1<cLine) (ho:PE X o td) (he:PE X e ty) (hf:PE X f tx) (m:M2 X o "get" apos e f cpos):PE X (.Call (.Attribute o "get" apos) [e,f] [] cpos) (aW0 td ty tx):=by
 intro pins s σ H Q I h;refine wpAny_Call_method m.base m.few m.line PySem.F.plainAttrs_dict PySem.F.slot_dict_get PySem.F.type_dict_get (thn (ho pins s σ H _ I h) λ u s1 O=>?_)
 obtain⟨x,H1,Z,rx,a,ex,d,q1⟩:=O;subst ex;obtain rfl:u=Value.ref a:=rx;obtain⟨t1,t2,_⟩:=bd3 Z d;refine⟨t1,t2,?_⟩;rw[m.trees];refine Calls.callWith_builtin rfl (Calls.evalArgs_plain (Calls.spliced_cons (thn (he pins s1 σ H1 _ Z q1) λ iv s2 ⟨y,H2,I2,ry,q2⟩ =>
  Calls.spliced_cons (thn (hf pins s2 σ H2 _ I2 q2) λ fv s3 ⟨z,H3,I3,rz,ov,g,q3⟩=>Calls.spliced_nil ?_))))
 exact bf8 hu I3 g ry rz λ w' s4 I4 Y=>⟨_,H3,I4,Y,q3⟩
end
end L2
namespace Att
open PySem PySem.W PySem.Calls PyProof.Rows
end Att
namespace L2
open PySem PySem.Spec PyProof.Rows
theorem v_4 {a b:Addr}{n:Nat} (h:a<n) (h':n<=b):a≠b:=qr (qq h h')
theorem az6 {a b:Addr}{n:Nat} (h:a<n) (h':n<=b):b≠a:=(v_4 h h').symm
noncomputable def P_0 (cells:List (Str×Addr)):List (Str×NameKind)->List (Str×Addr)->List (Str×Addr)
 |[],acc=>acc
 |(n,k)::r,acc=>P_0 cells r (if (k==NameKind.free)=true then (n,(cells.lookup n).getD 0)::acc else acc)
theorem t_8 {env:Env}:∀ (l:List (Str×NameKind)) (O:List (Str×Addr)),(∀ y∈l,y.2=.free->∃ c,env.cells.lookup y.1=some c) ->
  (forIn l O λ (y:Str×NameKind) (cs:List (Str×Addr))=>(match y with
   |(name,kind)=>if (kind==NameKind.free)=true then do let c <- cellOf env name;pure (ForInStep.yield ((name,c)::cs)) else pure (ForInStep.yield cs):Sem _))=pure (P_0 env.cells l O)
 |[],O,_=>rfl
 |(n,k)::r,O,h=>by
  rw[List.forIn_cons];unfold P_0
  by_cases e:(k==NameKind.free)=true
  ·have e':k=NameKind.free:=by simpa using e
   obtain⟨c,Z⟩:=h (n,k) qf e';simp only[e,if_true,cellOf,Z,pure_bind,Option.getD_some];exact t_8 r _ λ y Y=>h y (qg _ Y)
  ·simp only[e,if_false,pure_bind]
   exact t_8 r _ λ y Y=>h y (qg _ Y)
theorem E_1 {sc:Scope}{env:Env} (h:∀ y∈sc.names,y.2=.free->∃ c,env.cells.lookup y.1=some c):closureFor sc env=pure (P_0 env.cells sc.names []):=by
 have e:=t_8 (env:=env) sc.names [] h;simp only[closureFor];exact (bind_pure _).trans e
theorem I_4 {cells:List (Str×Addr)}{y:Str}{c:Addr}:∀ (l:List (Str×NameKind)) (O:List (Str×Addr)),(∀ y∈l,y.2=.free->∃ c,cells.lookup y.1=some c) ->
  (P_0 cells l O).lookup y=some c->cells.lookup y=some c\/O.lookup y=some c
 |[],O,_,e=>.inr e
 |(n,k)::r,O,h,e=>by
  unfold P_0 at e;have hr:∀ y∈r,y.2=.free->∃ c,cells.lookup y.1=some c:=λ y hy=>h y (qg _ hy)
  rcases I_4 r _ hr e with q | q
  ·exact .inl q
  ·by_cases z:(k==NameKind.free)=true
   ·rw[if_pos z] at q
    rw[List.lookup_cons] at q;cases hb:y==n with
    |true =>
     rw[hb] at q;obtain⟨c',Z⟩:=h (n,k) qf (by simpa using z)
     have Y:cells.lookup n=some c':=Z;rw[Y] at q;have e1:y=n:=by simpa using hb
     have q':c'=c:=qi q;exact .inl (by rw[e1,Y,q'])
    |false =>
     rw[hb] at q;exact .inr q
   ·rw[if_neg z] at q
    exact .inr q
theorem s_4 {cells:List (Str×Addr)}{y:Str}:∀ (l:List (Str×NameKind)) (O:List (Str×Addr)),((y,NameKind.free)∈l\/∃ c,O.lookup y=some c)->∃ c,(P_0 cells l O).lookup y=some c
 |[],O,h=>by
  rcases h with h | h
  ·cases h
  ·exact h
 |(n,k)::r,O,h=>by
  unfold P_0
  have Z:∀ v:Addr,(∃ c,O.lookup y=some c)->∃ c,((n,v)::O).lookup y=some c:=λ v Y=>by
   obtain⟨c,hc⟩:=Y;rw[List.lookup_cons];cases y==n with
   |true=>exact⟨v,rfl⟩
   |false=>exact⟨c,hc⟩
  rcases h with h | h
  ·rcases qt h with e | h
   ·have e1:y=n:=congrArg Prod.fst e
    have e2:NameKind.free=k:=congrArg Prod.snd e;subst e1 e2;refine s_4 r _ (.inr ?_);rw[if_pos (by rfl)]
    refine⟨(cells.lookup y).getD 0,?_⟩;rw[List.lookup_cons];simp
   ·exact s_4 r _ (.inl h)
  ·refine s_4 r _ (.inr ?_)
   split
   ·exact Z _ h
   ·exact h
theorem K_5 {scope:Scope}{env:Env}{y:Str}{k:NameKind} (hc:∀ z∈scope.names,z.2≠.cell) (h:(relabel scope env).names.lookup y=some k) (Z:k=.cell\/k=.free):(y,NameKind.free)∈scope.names:=by
 have m:=PySem.mem_of_lookup h;unfold relabel at m;obtain⟨⟨n,Y⟩,O,e⟩:=List.mem_map.mp m;dsimp only at e
 split at e
 ·rename_i z
  have e1:n=y:=congrArg Prod.fst e
  have z1:Y=NameKind.free:=by
   simp only[Bool.and_eq_true] at z
   simpa using z.1.1
  subst e1 z1;exact O
 ·have e1:n=y:=congrArg Prod.fst e
  have e2:Y=k:=congrArg Prod.snd e;subst e1 e2
  rcases Z with z | z
  ·exact absurd z (hc _ O)
  ·rw[z] at O;exact O
theorem D_0 {env:Env} (Y:env.scope.kind=.function):∀ {names:List (Str×NameKind)}{y:Str},names.lookup y=some .free->env.kindOf y=some .cell ->
  (names.map λ (n,k)=>if (k==NameKind.free&&env.scope.kind==.function&&env.kindOf n==some .cell) then (n,NameKind.cell) else (n,k)).lookup y=some .cell
 |[],_,h,_=>by simp at h
 |(n,k)::r,y,h,hk=>by
  have Z:=@D_0 env Y r y;rw[List.map_cons];cases O:y==n with
  |true =>
   have e:y=n:=by simpa using O
   subst e;rw[List.lookup_cons,O] at h;have h':k=NameKind.free:=qi h;subst h';simp[Y,hk,List.lookup_cons]
  |false =>
   rw[List.lookup_cons,O] at h;show List.lookup y ((if (k==NameKind.free&&env.scope.kind==.function&&env.kindOf n==some .cell)=true then (n,NameKind.cell) else (n,k))::_)=_
   by_cases z:(k==NameKind.free&&env.scope.kind==.function&&env.kindOf n==some .cell)=true
   ·rw[if_pos z,List.lookup_cons,O];exact Z h hk
   ·rw[if_neg z,List.lookup_cons,O];exact Z h hk
structure ScB (N:List Str) (sc scope:Scope) (x:Str) (frees:List Str) (js:List Nat):Prop where
 kind:scope.kind=.function
 fk:sc.kind=.function
 cells:∀ y∈scope.names,y.2≠.cell
 locs:∀ y∈scope.names,y.2=.local->scope.names.lookup y.1=some .local
 own:scope.names.lookup x=some .local
 fr:∀ y∈scope.names,y.2=.free->sc.names.lookup y.1=some .cell
 nd:(x::frees).Nodup
 ln:frees.length=js.length
 zp:∀ p∈frees.zip js,N[p.2]?=some p.1/\sc.names.lookup p.1=some .cell/\scope.names.lookup p.1=some .free
noncomputable def cxB (X:Cx) (N:List Str) (scope:Scope) (s:Shared) (H:Hp) (C:Addr) (O:List Addr):Cx where
 prog:=X.prog
 w:=X.w
 K:=X.K
 mg:=X.mg
 base:=X.base
 A:=X.A
 N:=N
 s₀:=s
 H₀:=H
 env:=compEnvC scope (P_0 X.env.cells scope.names []) C X.env
 outer:=X.stack
 stack:=X.stack
 ex:=O
 fn:=λ _=>false
 calm:=X.calm
 pn:=[]
 xe:=λ _ _=>False
noncomputable def frv (σ:St) (js:List Nat):St:=js.map λ j=>(σ[j]?).join
noncomputable def PTs (X:Cx) (ifs:List Expr) (t:TT):Prop :=
 ∀ (pins:List (Addr×Obj)) (s:Shared) (σ:St) (H:Hp) (Q:Bool->Hp->Prop),Inv X pins σ H s->t σ H Q ->
  wpAny (model X.prog X.w) X.A (forIn ifs true λ c r=>if r=true then do let ok <- isTrue c X.env (eval c X.env);pure (ForInStep.yield ok) else pure (ForInStep.yield r)) (TP X pins σ Q) X.xe s
noncomputable def tYes:TT:=λ _ H Q=>Q true H
theorem aJ1 {X:Cx}:PTs X [] tYes:=λ _ _ _ H _ I h=>wpAny_tests_nil ⟨H,I,h⟩
theorem aJ0 {X:Cx}{c:Expr}{t:TT} (h:PT X c t):PTs X [c] t:=λ pins s σ H Q I q=>wpAny_tests_one (h pins s σ H Q I q)
noncomputable def LcW (js:List Nat) (tt:TT) (te:TE) (σ:St) (Q:List V->Hp->Prop) (J:It) (H1:Hp):Prop :=
 ∃ W:Nat->Nat->List V->Hp->Prop,(∃ m,W 0 m [] H1)/\∀ i m ys H,W i m ys H ->
  (J.stop i H/\ys.length<=sizeLine/\Q ys H) \/
  (J.go i H/\ys.length<sizeLine/\∀ x H',J.yld i H x H'->tt (some x::frv σ js) H' λ b H2 =>
   if b=true then te (some x::frv σ js) H2 λ v Y=>∃ O,O<m/\W (i+1) O (ys++[v]) Y else ∃ O,O<m/\W (i+1) O ys H2)
section
variable {X:Cx}{pins:List (Addr×Obj)}{σ:St}{H:Hp}{s:Shared}{x:Str}{scope sc:Scope}{frees:List Str}{js:List Nat}
theorem W_2 (I:Inv X pins σ H s) (O:X.env.scope=sc) (B:ScB X.N sc scope x frees js):∀ y∈scope.names,y.2=.free->∃ c,X.env.cells.lookup y.1=some c:=λ y Y Z =>
 I.ok.has y.1 (.inl (show X.env.scope.names.lookup y.1=some .cell by rw[O];exact B.fr y Y Z))
theorem ac6 {α O:Type}:∀ {l:List α}{r:List O}{k:Nat}{a:α},l.length=r.length->l[k]?=some a->∃ b,r[k]?=some b/\(a,b)∈l.zip r
 |[],_,_,_,_,h=>by simp at h
 |_::_,[],_,_,hl,_=>by simp at hl
 |a'::l,b'::r,0,a,_,h=>by
  simp at h;subst h;exact⟨b',rfl,by simp⟩
 |a'::l,b'::r,k+1,a,hl,h=>by
  obtain⟨b,h1,h2⟩:=ac6 (l:=l) (r:=r) (k:=k) (a:=a) (by simpa using hl) (by simpa using h)
  exact⟨b,by simpa using h1,by rw[List.zip_cons_cons];exact qg _ h2⟩
theorem an6 {fp:List Addr}{O:Heap}{C D:Addr}{tk:Nat}{mC:Str->Option Value}{oD:Obj} (I:Inv X pins σ H s) (ab:X.env.scope=sc) (B:ScB X.N sc scope x frees js) (hf:∀ b∈fp,Y_6 X pins H b) (ad:∀ b∈fp,b<s.heap.objs.size)
  (hC:s.heap.objs.size<=C) (hD:s.heap.objs.size<=D) (af:D≠C) (Z:∀ b o,s.heap.get? b=some o->O.get? b=some o) (ns:O.Ns C mC) (gD:O.get? D=some oD) (nD:∀ v,oD.data≠.cell v) :
  Inv (cxB X (x::frees) scope s H C fp) (pins++[(D,oD)]) (none::frv σ js) H {s with heap:=O,toks:=tk}:=by
 have lc:=W_2 I ab B
 have Y:∀ y c,(P_0 X.env.cells scope.names []).lookup y=some c->X.env.cells.lookup y=some c:=λ y c e=>by
  rcases I_4 scope.names [] lc e with q | q
  ·exact q
  ·cases q
 have ai:∀ y c,X.env.cells.lookup y=some c->c<s.heap.objs.size:=λ y c e=>by
  obtain⟨v,q⟩:=I.cell y c e;exact q.lt
 have ae:∀ b∈fp,(b∈X.ex\/X.s₀.heap.objs.size<=b):=λ b hb=>(hf b hb).2.2.2.1
 obtain⟨m,hn,hl⟩:=I.loc;refine⟨⟨I.ok.mod,B.kind,I.ok.glob,I.ok.blt,hC,?_,?_,?_,I.ok.hd,I.ok.frames,.inl rfl,?_,?_,Nat.le_trans I.ok.bsz I.sz,?_,?_,I.stack,I.stkFree⟩,rfl,I.bare,Un.kept Z,⟨mC,ns,?_⟩,?_,I.hok.fresh hC,?_,?_,I.hok.kept Z,?_⟩
 ·exact λ y z c e1 e2=>I.ok.inj y z c (Y y c e1) (Y z c e2)
 ·intro y hy
  have hm:(y,NameKind.free)∈scope.names:=by
   rcases hy with q | q
   ·exact K_5 (env:=X.env) B.cells q (.inl rfl)
   ·exact K_5 (env:=X.env) B.cells q (.inr rfl)
  exact s_4 scope.names [] (.inl hm)
 ·exact λ y c z _=>absurd z Bool.false_ne_true
 ·intro b hb
  refine⟨λ z=>?_,λ y c e z=>(hf b hb).2.2.2.2.1 y c (Y y c e) z⟩
  have z':b=C:=z;exact absurd (qq (ad b hb) hC) (by rw[z'];exact Nat.lt_irrefl _)
 ·exact λ b o e=>I.bs b o e
 ·intro b o e hb
  rcases ae b hb with z | z
  ·exact I.ok.noex b o e z
  ·exact absurd (qq (qm (I.ok.bs b o e).1) z) (Nat.lt_irrefl _)
 ·intro b hb z
  rcases qt (I.stkSub b z) with e | e
  ·exact (hf b hb).2.1 e
  ·exact (hf b hb).2.2.1 e
 ·intro i y v e1 e2 e3
  cases i with
  |zero=>simp at e2
  |succ k =>
   have ag:frees[k]?=some y:=by
    have e0:(x::frees)[k+1]?=some y:=e1
    simpa using e0
   obtain⟨j,hj,hz⟩:=ac6 B.ln ag;obtain⟨z1,z2,z3⟩:=B.zp _ hz;have aa:(frv σ js)[k]?=some (some v):=by simpa using e2
   have e4:σ[j]?=some (some v):=by
    unfold frv at aa;rw[List.getElem?_map,hj] at aa;have e5:(σ[j]?).join=some v:=qi aa;cases q:σ[j]? with
    |none=>rw[q] at e5;cases e5
    |some w'=>rw[q] at e5;cases w' with
     |none=>cases e5
     |some w2=>cases e5;rfl
   have kX:X.env.kindOf y=some .cell:=by show X.env.scope.names.lookup y=_;rw[ab];exact z2
   obtain⟨u,r,q⟩:=hl j y v z1 e4 (.inr (.inl kX));refine⟨u,r,?_⟩
   rcases q with ⟨q,_⟩ | ⟨_,c,ec,ic⟩
   ·rw[kX] at q;cases q
   ·have kY:(compEnvC scope (P_0 X.env.cells scope.names []) C X.env).kindOf y=some .cell:=D_0 (env:=X.env) (by rw[ab];exact B.fk) z3 kX
    refine .inr ⟨.inl kY,c,?_,?_⟩
    ·obtain⟨c',ac⟩:=s_4 (cells:=X.env.cells) scope.names [] (.inl (PySem.mem_of_lookup z3))
     have:=Y y c' ac;rw[ec] at this;cases this;exact ac
    ·obtain⟨o,ho,hd⟩:=ic
     exact⟨o,Z c o ho,hd⟩
 ·intro y c e
  obtain⟨v,o,ho,hd⟩:=I.cell y c (Y y c e);exact⟨v,o,Z c o ho,hd⟩
 ·exact λ y c e=>I.freeC y c (Y y c e)
 ·intro p hp
  have ah:p∈pins++[(D,oD)]:=by simpa [cxB] using hp
  rcases qw ah with z | z
  ·obtain⟨a1,a2,a3,a4,a5⟩:=I.pin p (qo _ z)
   refine⟨Z _ _ a1,a2,λ e=>?_,λ e=>?_,a5⟩
   ·exact absurd (qq (qm a1) hC) (by rw[show p.1=C from e];exact Nat.lt_irrefl _)
   ·rcases qt (I.stkSub p.1 e) with e | e
    ·exact a3 e
    ·exact a4 e
  ·have z':p=(D,oD):=by simpa using z
   subst z';refine⟨gD,I.hok.fresh hD,af,λ e=>?_,nD⟩
   rcases qt (I.stkSub D e) with e | e
   ·exact absurd (qq I.lt hD) (by rw[show D=X.env.locals from e];exact Nat.lt_irrefl _)
   ·exact I.nofs hD e
 ·show (none::frv σ js).length=(x::frees).length
  rw[List.length_cons,List.length_cons,B.ln,frv,List.length_map]
end
theorem ab3 {prog:Program}{w:World}{A:Around}{R:Result->Shared->Prop}{s:Shared}{elt O iter:Expr}{ifs:List Expr}{scope:Scope}{pos:Pos}{it Y:Value}{env:Env} (I:Nat->Shared->Prop)
  (Z:∀ n s,I n s->wpAny (model prog w) A (pyNext it) (λ r s1=>match r with
   |none=>R (.ok .next) s1
   |some v=>wpAny (model prog w) A (letOwnedTupleGo O it v) (λ _ s2=>wpAny (model prog w) A (assign O env v) (λ _ s3 =>
     wpAny (model prog w) A (forIn ifs true λ c r=>if r=true then do let ok <- isTrue c env (eval c env);pure (ForInStep.yield ok) else pure (ForInStep.yield r)) (λ ok s4 =>
      if ok=true then wpAny (model prog w) A (eval elt env) (λ y s5=>wpAny (model prog w) A (call (.builtin "list.append") [Y,y]) (λ _ s6=>∃ m,m<n ∧ I m s6) (λ _ _=>False) s5) (λ _ _=>False) s4
      else ∃ m,m<n/\I m s4) (λ _ _=>False) s3) (λ _ _=>False) s2) (λ _ _=>False) s1) (λ _ _=>False) s)
  (n:Nat) (h:I n s):codeAny (model prog w) A (.compLoop (.ListComp elt [⟨O,iter,ifs,0⟩] scope pos) 0 it Y env) R s:=by
 refine codeAny_loop rfl I (λ n s hI=>?_) n h
 show wpAny _ A ((compTurn (.ListComp elt [⟨O,iter,ifs,0⟩] scope pos) 0 it Y env).onRaise (λ x=>do noteFrame x env;theTreesLotGoes x)) _ _ s
 refine wpAny_noted ?_;rw[compTurn_list];refine qb (wpAny_standAt (qb (wpAny_mono (Z n s hI) (λ r s1 h1=>?_) λ _ _ z=>z.elim)))
 cases r with
 |none=>exact qc h1
 |some v =>
  refine qb (wpAny_mono h1 (λ _ s2 h2=>?_) λ _ _ z=>z.elim)
  refine qb (wpAny_mono h2 (λ _ s3 h3=>?_) λ _ _ z=>z.elim)
  refine qb (wpAny_mono h3 (λ ok s4 h4=>?_) λ _ _ z=>z.elim)
  cases ok with
  |false=>exact qc ⟨rfl,h4⟩
  |true =>
   refine qb (qb (wpAny_mono h4 (λ y s5 h5=>?_) λ _ _ z=>z.elim))
   exact qb (wpAny_mono h5 (λ _ s6 h6=>qc (qc ⟨rfl,h6⟩)) λ _ _ z=>z.elim)
section
variable {X:Cx}{pins:List (Addr×Obj)}{σ:St}{H:Hp}{s:Shared}{x:Str}{scope sc:Scope}{frees:List Str}{js:List Nat}{elt iter:Expr}{ifs:List Expr}{px pos:Pos}{tt:TT}{te:TE}{E:Value->Shared->Prop}
abbrev ac4 (O:List Value) (n:Nat):Obj:={cls:=.type "list",data:=.seq O.toArray n}
noncomputable def LcG (tg:TG) (Z:St) (tt:TT) (te:TE) (Q:List V->Hp->Prop) (J:It) (H1:Hp):Prop :=
 ∃ W:Nat->Nat->List V->Hp->Prop,(∃ m,W 0 m [] H1)/\∀ i m ys H,W i m ys H ->
  (J.stop i H/\ys.length<=sizeLine/\Q ys H) \/
  (J.go i H/\ys.length<sizeLine/\∀ x H',J.yld i H x H'->tg x Z H' λ O H'=>(Z.length=O.length/\∀ (j:Nat) v,Z[j]?=some (some v)->O[j]?=some (some v))/\tt O H' λ b H2 =>
   if b=true then te O H2 λ v H3=>∃ Y,Y<m/\W (i+1) Y (ys++[v]) H3 else ∃ Y,Y<m/\W (i+1) Y ys H2)
theorem aL8 {ai:Expr}{N':List Str}{τ:St}{tg:TG}{it:Addr}{Z:List Addr}{tn:Nat->Heap->Prop}{J:It}{Qe:List V->Hp->Prop}{RR:Value->Addr->Result->Shared->Prop} (I:Inv X pins σ H s) (hc:X.calm=true) (a7:X.env.scope=sc) (B:ScB X.N sc scope x frees js)
  (T:Turn X.prog X.w X.K ai J Z it tn) (st:tn 0 s.heap) (f:∀ b∈Z,Y_6 X pins H b) (S0:∀ {C pl H' s'},Inv (cxB X (x::frees) scope s H C Z) pl (none::frv σ js) H' s'->Inv (cxB X N' scope s H C Z) pl τ H' s') (hg:∀ C,PG (cxB X N' scope s H C Z) ai tg) (hW:LcG tg τ tt te Qe J H)
  (ht:∀ s H C Z,PTs (cxB X N' scope s H C Z) ifs tt) (he:∀ s H C Z,PE (cxB X N' scope s H C Z) elt te)
  (hR:∀ (D C:Addr) (s':Shared) (H':Hp) (ys:List V) (O:List Value) (n:Nat),s.heap.objs.size<=D->s.heap.objs.size<=C->D≠C->Inv (cxB X N' scope s H C Z) pins τ H' s'->H' D=none ->
   Vals ys O->s'.heap.get? D=some (ac4 O n)->ys.length<=sizeLine->Qe ys H'->RR (.ref D) C (.ok .next) s') :
  wpAny (model X.prog X.w) X.A (newList []) (λ aw s3=>wpAny (model X.prog X.w) X.A (newFunctionEnv scope X.env.globals (P_0 X.env.cells scope.names []) [] X.env.qual none .none (some X.env)) (λ ap s4 =>
   codeAny (model X.prog X.w) X.A (.compStart (.ListComp elt [⟨ai,iter,ifs,0⟩] scope pos) 0 (.ref it) aw {ap with scope:=relabel scope X.env}) (RR aw ap.locals) s4) E s3) E s:=by
 obtain⟨W,⟨m0,w0⟩,bb⟩:=hW;refine wpAny_newObj_type (wpAny_newFunctionEnv B.cells (by intro y hy;simp at hy) (λ af ab aa=>?_) B.kind)
 dsimp only at ab aa ⊢
 generalize hG:s.heap.push {cls:=.type "list",dict:=none,data:=.seq ([]:List Value).toArray}=G at ab aa ⊢
 have bc:G.objs.size=s.heap.objs.size+1:=by rw[<- hG,Heap.size_push]
 have aq:s.heap.objs.size<=G.objs.size:=by rw[bc];exact Nat.le_succ _
 have ao:s.heap.objs.size≠G.objs.size:=by rw[bc];exact qr (Nat.lt_succ_self _)
 obtain⟨C,be⟩:∃ C:Addr,C=G.objs.size:=⟨_,rfl⟩;obtain⟨D,am⟩:∃ D:Addr,D=s.heap.objs.size:=⟨_,rfl⟩;rw[<- be] at ab aa ao aq ⊢;have ad:s.heap.objs.size<=D:=by rw[am];exact qj _
 have al:s.heap.objs.size<=C:=aq;have aj:D≠C:=by rw[am];exact ao
 have a9:∀ b o,s.heap.get? b=some o->af.get? b=some o:=λ b o e=>by
  refine aa.extBut b o (v_4 (qm e) al) (qd _ ?_);rw[<- hG];exact qd _ e
 have gD:af.get? D=some (ac4 [] 0):=by
  refine aa.extBut D _ aj (qd _ ?_);rw[<- hG,am];exact qk _ rfl
 have as:∀ b∈Z,b<s.heap.objs.size:=λ b hb=>by
  obtain⟨o,e,_⟩:=T.obj 0 _ st b hb;exact qm e
 show codeAny (model X.prog X.w) X.A (.compStart (.ListComp elt [⟨ai,iter,ifs,0⟩] scope pos) 0 (.ref it) (.ref s.heap.objs.size) (compEnvC scope (P_0 X.env.cells scope.names []) C X.env)) (RR (.ref s.heap.objs.size) C) _;rw[<- am];have bg:D∉Z:=λ z=>v_4 (as D z) ad rfl
 have Y0:=S0 (an6 (tk:=s.toks+([]:List (Str×Value)).length) (x:=x) I a7 B f as al ad aj a9 ab gD (λ v z=>nomatch z))
 have a1:tn 0 af:=T.keep 0 _ _ st λ b _ o e=>a9 b o e
 have ay:∀ y c,(P_0 X.env.cells scope.names []).lookup y=some c->X.env.cells.lookup y=some c:=λ y c e=>by
  rcases I_4 scope.names [] (W_2 I a7 B) e with q | q
  ·exact q
  ·cases q
 have a8:∀ p∈pins,p.1<s.heap.objs.size:=λ p hp=>qm (I.pin p (qo _ hp)).1
 have ah:∀ {H':Hp}{o:Obj},(∀ b∈Z,H' b=none)->∀ b∈Z,Y_6 (cxB X N' scope s H C Z) (pins++[(D,o)]) H' b:=λ {H' o} hn b hb=>by
  obtain⟨_,a2,a3,a4,a5,a6⟩:=f b hb;have lt:=as b hb;refine⟨hn b hb,?_,λ z=>?_,.inl hb,λ y c e=>a5 y c (ay y c e),λ p hp=>?_⟩
  ·exact v_4 lt al
  ·rcases qt (I.stkSub b z) with e | e
   ·exact a2 e
   ·exact a3 e
  ·have ar:p∈pins++[(D,o)]:=by simpa [cxB] using hp
   rcases qw ar with z | z
   ·exact a6 p (qo _ z)
   ·have z':p=(D,o):=by simpa using z
    subst z';exact az6 lt ad
 have an:∀ s3:Shared,s3={s with heap:=af,toks:=s.toks+([]:List (Str×Value)).length} ->
   codeAny (model X.prog X.w) X.A (.compLoop (.ListComp elt [⟨ai,iter,ifs,0⟩] scope pos) 0 (.ref it) (.ref D) (compEnvC scope (P_0 X.env.cells scope.names []) C X.env)) (RR (.ref D) C) s3:=by
  rintro s3 rfl;refine ab3 (λ n s'=>∃ i ys O k H',Inv (cxB X N' scope s H C Z) (pins++[(D,ac4 O k)]) τ H' s'/\tn i s'.heap/\(∀ b∈Z,H' b=none)/\Vals ys O/\W i n ys H') ?_ m0
   ⟨0,[],[],0,H,Y0,a1,λ b hb=>(f b hb).1,.nil,w0⟩
  rintro n s4 ⟨i,ys,O,k,H4,I4,av,az,rv,w4⟩
  have pD:∀ {pl:List (Addr×Obj)}{ae:St}{H':Hp}{s':Shared},Inv (cxB X N' scope s H C Z) (pins++[(D,ac4 O k)]++pl) ae H' s'->s'.heap.get? D=some (ac4 O k)/\H' D=none:=λ I'=>by
   have q:=I'.pin (D,ac4 O k) (qo _ (qp _ (qo _ qf)));exact⟨q.1,q.2.1⟩
  have ac:∀ {pl:List (Addr×Obj)}{ae:St}{H':Hp}{s':Shared},Inv (cxB X N' scope s H C Z) (pins++pl) ae H' s'->Inv (cxB X N' scope s H C Z) pins ae H' s':=λ I'=>I'.unpinned
  rcases bb i n ys H4 w4 with ⟨stop,lz,qe⟩ | ⟨go,lz,step⟩
  ·refine thn (T.done (cxB X N' scope s H C Z) rfl rfl rfl hc i _ s4 _ H4 (λ _ _=>False) I4 (ah az) av stop) λ r s5 Y=>?_
   obtain⟨hr,I5⟩:=Y;subst hr;have I5':Inv (cxB X N' scope s H C Z) (pins++[(D,ac4 O k)]++[]) τ H4 s5:=by simpa using I5
   exact hR D C s5 H4 ys O k ad al aj (ac I5) (pD I5').2 rv (pD I5').1 lz qe
  ·refine thn (T.item (cxB X N' scope s H C Z) rfl rfl rfl hc i _ s4 _ H4 (λ _ _=>False) I4 (ah az) av go) λ r s5 Y=>?_
   obtain⟨u,hr,h5⟩:=Y;subst hr;refine thn h5 λ _ s6 Y=>?_
   obtain⟨y,H6,I6,r6,y6,ak,bf⟩:=Y;have I6':=I6.pinned (ah bf) (T.obj _ _ ak)
   have bd:D∉(cxB X N' scope s H C Z).fs:=λ z=>by
    rcases qt (I.stkSub D z) with e | e
    ·exact v_4 I.lt ad e.symm
    ·exact I.nofs ad e
   refine thn (hg C _ s6 _ H6 y u _ I6' r6 (step y H6 y6)) λ _ s7 Y=>?_
   obtain⟨ba,H7,I7,e7,q7⟩:=Y;have back:∀ {ae:St}{H':Hp}{s':Shared},Inv (cxB X N' scope s H C Z) (pins++[(D,ac4 O k)]++L_0 Z s6.heap) ae H' s'->(∀ b∈Z,∀ o,s6.heap.get? b=some o->s'.heap.get? b=some o)/\∀ b∈Z,H' b=none:=λ {ae H' s'} I' =>
    ⟨λ b hb o e=>(I'.pin (b,o) (qo _ (qo _ (q_4 hb e)))).1,λ b hb=>by
     obtain⟨o,e,_⟩:=T.obj _ _ ak b hb;exact (I'.pin (b,o) (qo _ (qo _ (q_4 hb e)))).2.1⟩
   have ag:∀ {pl:List (Addr×Obj)}{H':Hp}{s':Shared},Inv (cxB X N' scope s H C Z) pl ba H' s'->Inv (cxB X N' scope s H C Z) pl τ H' s':=λ I'=>I'.weak e7.1 e7.2
   refine thn (ht s H C Z _ s7 _ H7 _ I7 q7) λ ok s8 Y=>?_
   obtain⟨H8,I8,q8⟩:=Y;cases ok with
   |false =>
    rw[if_neg Bool.false_ne_true] at q8 ⊢;obtain⟨m',hm,w8⟩:=q8;obtain⟨b1,b2⟩:=back I8;exact⟨m',hm,i+1,ys,O,k,H8,ag I8.unpinned,T.keep _ _ _ ak b1,b2,rv,w8⟩
   |true =>
    rw[if_pos rfl] at q8 ⊢;refine thn (he s H C Z _ s8 _ H8 _ I8 q8) λ v s9 Y=>?_
    obtain⟨vv,H9,I9,r9,m',hm,w9⟩:=Y;obtain⟨au,a0⟩:=pD I9;obtain⟨b1,b2⟩:=back I9;have bh:=rv.length;refine call_meets F.slot_list_append ⟨_,au,rfl⟩ F.entry_list_append (F.args_list_append_2 _ _) (PySem.list_append D O.toArray k v (by rw[List.size_toArray];omega)) ⟨au,?_⟩
    have ea:O.toArray.push v=(O++[v]).toArray:=by simp
    obtain⟨k',q⟩:∃ k',(s9.heap.update D (Obj.mapSeq (·.push v))).get? D=some (ac4 (O++[v]) k'):=by
     have q0:=PySem.IsL.update au (·.push v);rw[ea] at q0;exact⟨_,q0⟩
    have ax:∀ b o,b≠D->s9.heap.get? b=some o->(s9.heap.update D (Obj.mapSeq (·.push v))).get? b=some o:=λ b o hb e=>(Heap.get?_update_other s9.heap (Obj.mapSeq (·.push v)) (Ne.symm hb)).trans e
    have I10:Inv (cxB X N' scope s H C Z) pins ba H9 {s9 with heap:=s9.heap.update D (Obj.mapSeq (·.push v))} :=
     (ac I9.unpinned).turned (t':=s9.toks) (it:=D) ax a0 aj (.inr ad) (λ y' c e z=>by
      obtain⟨w',q'⟩:=I.cell y' c (ay y' c e)
      exact v_4 q'.lt ad z) (λ p hp z=>by
      have ar:p∈pins:=by simpa [cxB] using hp
      exact v_4 (a8 p ar) ad z)
    refine⟨m',hm,i+1,ys++[vv],O++[v],k',H9,ag (I10.pins_of λ p hp=>?_),T.keep _ _ _ ak λ b hb o e=>ax b o (λ z=>bg (z▸hb)) (b1 b hb o e),b2,rv.append (.cons r9 .nil),w9⟩
    rcases qw hp with z | z
    ·exact I10.pin p (qo _ z)
    ·have z':p=(D,ac4 (O++[v]) k'):=qv z
     subst z';exact⟨q,a0,aj,bd,λ w' z2=>nomatch z2⟩
 exact codeAny_compStart_list (an _ rfl) (T.self _ 0 _ _ _ a1 (an _ rfl))
theorem aA2 {it:Addr}{Y:List Addr}{tn:Nat->Heap->Prop}{J:It}{Qe:List V->Hp->Prop}{RR:Value->Addr->Result->Shared->Prop} (I:Inv X pins σ H s) (hc:X.calm=true) (ac:X.env.scope=sc) (B:ScB X.N sc scope x frees js)
  (T:Turn X.prog X.w X.K (.Name x px) J Y it tn) (st:tn 0 s.heap) (f:∀ b∈Y,Y_6 X pins H b) (hW:LcW js tt te σ Qe J H)
  (ht:∀ s H C Y,PTs (cxB X (x::frees) scope s H C Y) ifs tt) (he:∀ s H C Y,PE (cxB X (x::frees) scope s H C Y) elt te)
  (hR:∀ (D C:Addr) (s':Shared) (H':Hp) (ys:List V) (ab:List Value) (n:Nat),s.heap.objs.size<=D->s.heap.objs.size<=C->D≠C->Inv (cxB X (x::frees) scope s H C Y) pins (none::frv σ js) H' s'->H' D=none ->
   Vals ys ab->s'.heap.get? D=some (ac4 ab n)->ys.length<=sizeLine->Qe ys H'->RR (.ref D) C (.ok .next) s') :
  wpAny (model X.prog X.w) X.A (newList []) (λ Z s3=>wpAny (model X.prog X.w) X.A (newFunctionEnv scope X.env.globals (P_0 X.env.cells scope.names []) [] X.env.qual none .none (some X.env)) (λ O s4 =>
   codeAny (model X.prog X.w) X.A (.compStart (.ListComp elt [⟨.Name x px,iter,ifs,0⟩] scope pos) 0 (.ref it) Z {O with scope:=relabel scope X.env}) (RR Z O.locals) s4) E s3) E s:=by
 refine aL8 (N':=x::frees) (tg:=aM5 0) I hc ac B T st f (λ h=>h) (λ C=>Q_1 B.nd rfl (.inl (lookup_relabel_local B.own)) (.inr (lookup_relabel_local B.own))) ?_ ht he hR
 obtain⟨W,w0,aa⟩:=hW;refine⟨W,w0,λ i m ys H w=>?_⟩
 rcases aa i m ys H w with h | ⟨go,lz,step⟩
 ·exact .inl h
 ·exact .inr ⟨go,lz,λ y H' yl=>⟨⟨rfl,λ j v e=>by
   cases j with
   |zero=>simp at e
   |succ j=>simpa using e⟩,step y H' yl⟩⟩
theorem W_3 {fp:List Addr}{D C:Addr}{s':Shared}{H':Hp}{ys:List V}{O:List Value}{n:Nat} (I:Inv X pins σ H s) (f:∀ b∈fp,Y_6 X pins H b) (hD:s.heap.objs.size<=D) (J:Inv (cxB X (x::frees) scope s H C fp) pins (none::frv σ js) H' s') (Y:H' D=none) (rv:Vals ys O)
  (gD:s'.heap.get? D=some (ac4 O n)) (hz:ys.length<=sizeLine):Inv X pins σ (upd H' D (.lst ys)) s':=by
 have u:Un (frs X.stack) fp H H' s.heap s'.heap:=J.base;have hk:HOk X.prog X.w H' s'.heap:=J.hok;refine I.call' (ch:=fp) J.os ⟨u.keep,u.slot,λ b o e n' hx=>?_,u.there,λ b xs e=>?_,λ b o v e=>?_,λ b ps e=>?_⟩ (λ b o e=>?_) J.bare λ b hb=>?_
 ·rw[a_3 (v_4 (Heap.lt_size e) hD)]
  exact u.free b o e n' hx
 ·have q:=u.tups b xs e
  rw[a_3 (a_6 q Y)];exact q
 ·have q:=u.frzs b o v e
  rw[a_3 (a_6 q Y)];exact q
 ·obtain⟨Z,q⟩:=u.tbls b ps e
  exact⟨Z,by rw[a_3 (a_6 q Y)];exact q⟩
 ·by_cases hb:b=D
  ·subst hb
   rw[a_2] at e;cases e;exact⟨hz,O,n,rv,gD⟩
  ·rw[a_3 hb] at e
   exact (hk b o e).stay (λ c v _ q=>q) (λ c q=>by rw[a_3 (a_6 q Y)];exact q) λ c xs q=>by rw[a_3 (a_6 q Y)];exact q
 ·obtain⟨_,a2,a3,a4,a5,a6⟩:=f b hb
  exact⟨a4,a2,a5,a6⟩
theorem bc1 {C:Addr}{s':Shared}{H':Hp}{O:St}{h':Heap} (I:Inv X pins σ H s) (J:Inv X pins O H' s') (Y:s.heap.objs.size<=C) (nC:H' C=none) (Z:Heap.SameBut C s'.heap h'):Inv X pins O H' {s' with heap:=h'}:=by
 refine J.turned (t':=s'.toks) (it:=C) (λ b o hb e=>(Z.2 b hb).trans e) nC (λ z=>?_) (.inr (Nat.le_trans I.sz Y)) (λ y c e z=>?_) λ p hp z=>?_
 ·exact v_4 I.lt Y z.symm
 ·obtain⟨v,q⟩:=I.cell y c e
  exact v_4 q.lt Y z
 ·exact v_4 (qm (I.pin p hp).1) Y z
noncomputable def tLC (O:TI) (js:List Nat) (tt:TT) (te:TE):TE:=λ σ H Q=>O σ H (LcW js tt te σ λ ys H'=>∀ D,H' D=none->Q (.ref D) (upd H' D (.lst ys)))
theorem aK0 {wi:TI} (hc:X.calm=true) (O:X.env.scope=sc) (B:ScB X.N sc scope x frees js) (hi:PI X (.Name x px) iter wi) (ht:∀ s H C Y,PTs (cxB X (x::frees) scope s H C Y) ifs tt) (he:∀ s H C Y,PE (cxB X (x::frees) scope s H C Y) elt te)
  (hs:∀ v,foldedSetIterable iter X.env v=pure v:=by intro _;rfl):PE X (.ListComp elt [⟨.Name x px,iter,ifs,0⟩] scope pos) (tLC wi js tt te):=by
 intro pins s σ H Q I h;rw[eval_ListComp];refine wpAny_comprehension_free (use:=none) rfl hs (E_1 (W_2 I O B)) B.kind B.locs (thn (hi pins s σ H _ I h) λ v s1 h1=>thn h1 λ ad s2 h2=>?_)
 obtain⟨it,Y,tn,J,H2,e,I2,T,Z,f2,hW⟩:=h2;subst e;refine aA2 (RR:=λ aa C=>compPost (model X.prog X.w) X.A X.xe none (EP X pins σ Q) aa C) I2 hc O B T Z f2 hW ht he ?_
 intro D C s' H' ys ae n hD hC ac J' nD rv gD hz q;obtain⟨m,hn,_⟩:=J'.loc;refine⟨m,hn,λ h' ab=>?_⟩
 have A1:=W_3 I2 f2 hD J' nD rv gD hz;have nC:(upd H' D (.lst ys)) C=none:=by rw[a_3 (Ne.symm ac)];exact J'.free
 exact⟨.ref D,_,bc1 I2 A1 hC nC ab,rfl,q D nD⟩
noncomputable def aV7 (i:Nat) (O:TI) (js:List Nat) (tt:TT) (te:TE):TS:=λ D σ H=>O σ H (LcW js tt te σ λ ys H'=>∀ a,H' a=none->D.nx (σ.set i (some (.ref a))) (upd H' a (.lst ys)))
theorem as0 {wi:TI}{i:Nat}{y:Str}{Y O:Pos} (hN:X.N.Nodup) (ae:X.N[i]?=some y) (hy:X.env.scope.names.lookup y=some .local) (hc:X.calm=true) (ab:X.env.scope=sc) (B:ScB X.N sc scope x frees js) (hi:PI X (.Name x px) iter wi)
  (ht:∀ s H C fp,PTs (cxB X (x::frees) scope s H C fp) ifs tt) (he:∀ s H C fp,PE (cxB X (x::frees) scope s H C fp) elt te)
  (ag:swapsWith (.ListComp elt [⟨.Name x px,iter,ifs,0⟩] scope pos) (some (.Name y Y)) O.line X.env=pure true:=by rfl)
  (hs:∀ v,foldedSetIterable iter X.env v=pure v:=by intro _;rfl):PS X (.Assign [.Name y Y] (.ListComp elt [⟨.Name x px,iter,ifs,0⟩] scope pos) O) (aV7 i wi js tt te):=by
 intro pins s σ H D I h;rw[exec_Assign_Name_used _ _ _ _ ag];refine qb (wpAny_standAt (qb ?_));show wpAny _ X.A (do let _ <- comprehension (.ListComp elt [⟨.Name x px,iter,ifs,0⟩] scope pos) scope X.env _ (newList []) false (eval iter X.env) (some (assign (.Name y Y) X.env))) _ _ s;refine qb (wpAny_mono (wpAny_comprehension_free (use:=some (assign (.Name y Y) X.env)) (Q:=λ _ s'=>SP X pins D .next s') rfl hs (E_1 (W_2 I ab B)) B.kind B.locs
  (thn (hi pins s σ H _ I h) λ v s1 h1=>thn h1 λ ai s2 h2=>?_)) (λ _ s' q=>qc (qc q)) λ _ _ z=>z)
 obtain⟨it,fp,tn,J,H2,e,Z,T,ac,f2,hW⟩:=h2;subst e;refine aA2 (RR:=λ ad C=>compPost (model X.prog X.w) X.A X.xe (some (assign (.Name y Y) X.env)) (λ _ s'=>SP X pins D .next s') ad C) Z hc ab B T ac f2 hW ht he ?_
 intro a C s' H' ys aj n hD hC ah J' nD rv gD hz q;have A1:=W_3 Z f2 hD J' nD rv gD hz;have nC:(upd H' a (.lst ys)) C=none:=by rw[a_3 (Ne.symm ah)];exact J'.free
 obtain⟨m,hn,_⟩:=J'.loc;have hL:C≠X.env.locals:=az6 Z.lt hC;show wpAny _ X.A (assign (.Name y Y) X.env (.ref a)) _ _ s';refine wpAny_assign_Name (J_5 A1 hN ae (.inl hy) (v:=.ref a) rfl (λ s3 I3 aa=>?_) (.inr hy))
 obtain⟨b,sb,hb⟩:=aa
 have nb:C≠b:=by
  rcases hb with z | z
  ·rw[z];exact hL
  ·intro e
   obtain⟨v,q'⟩:=Z.cell y b z;exact v_4 q'.lt hC e.symm
 obtain⟨o,es,ep,ho,r⟩:=hn;refine⟨m,⟨o,es,ep,(sb.2 C nb).trans ho,r⟩,λ h' af=>?_⟩
 exact⟨_,_,bc1 Z I3 hC nC af,q a nD⟩
end
end L2
namespace Fx
open PySem
inductive D where
 |non | bl (b:Bool) | int (i:Int) | str (x:Str) | tup (xs:List D) | lst (xs:List D)
 |opq
 |dct (ks:List Str) (vs:List D)
inductive MO where
 |lst (xs:List D) | dic (kvs:List (Str×D))
inductive Sl where
 |no | im (d:D) | ow (b:Bool) (o:MO)
abbrev En:=List Sl
inductive Res where
 |nx (ρ:En) | rt (d:D) (ρ:En) | bk (ρ:En) | ct (ρ:En)
abbrev FE:=En->Option (D×En)
abbrev FT:=En->Option (Bool×En)
abbrev FA:=En->Option (List D×En)
abbrev FS:=En->Option Res
noncomputable def bnd {α O:Type} (x:Option α) (f:α->Option O):Option O:=x.bind f
theorem q_6 {α O:Type} (a:α) (f:α->Option O):bnd (some a) f=f a:=rfl
mutual
noncomputable def eqD:D->D->Bool
 |.non,.non=>true
 |.bl a,.bl b=>a==b
 |.bl a,.int b=>(if a then 1 else 0)==b
 |.int a,.bl b=>a==(if b then 1 else 0)
 |.int a,.int b=>a==b
 |.str a,.str b=>a==b
 |.tup a,.tup b=>r_4 a b
 |.lst a,.lst b=>r_4 a b
 |_,_=>false
noncomputable def r_4:List D->List D->Bool
 |[],[]=>true
 |a::r,b::t=>eqD a b&&r_4 r t
 |_,_=>false
end
@[simp] theorem aN9 :eqD .non .non=true:=by rw[eqD]
@[simp] theorem aT8 (y:Bool):eqD .non (.bl y)=false:=by simp[eqD]
@[simp] theorem aO1 (y:Int):eqD .non (.int y)=false:=by simp[eqD]
@[simp] theorem aN8 (y:Str):eqD .non (.str y)=false:=by simp[eqD]
@[simp] theorem aN7 (y:List D):eqD .non (.tup y)=false:=by simp[eqD]
@[simp] theorem aO0 (y:List D):eqD .non (.lst y)=false:=by simp[eqD]
@[simp] theorem aU3 (x:Bool):eqD (.bl x) .non=false:=by simp[eqD]
@[simp] theorem be8 (x:Bool) (y:Bool):eqD (.bl x) (.bl y)=decide (x=y):=by rw[eqD];exact Bool.beq_eq_decide_eq _ _
@[simp] theorem aU5 (x:Bool) (y:Int):eqD (.bl x) (.int y)=((if x then 1 else 0)==y):=by rw[eqD]
@[simp] theorem aU2 (x:Bool) (y:Str):eqD (.bl x) (.str y)=false:=by simp[eqD]
@[simp] theorem aU1 (x:Bool) (y:List D):eqD (.bl x) (.tup y)=false:=by simp[eqD]
@[simp] theorem aU4 (x:Bool) (y:List D):eqD (.bl x) (.lst y)=false:=by simp[eqD]
@[simp] theorem aO9 (x:Int):eqD (.int x) .non=false:=by simp[eqD]
@[simp] theorem aU0 (x:Int) (y:Bool):eqD (.int x) (.bl y)=(x==(if y then 1 else 0)):=by rw[eqD]
@[simp] theorem R_8 (x:Int) (y:Int):eqD (.int x) (.int y)=decide (x=y):=by rw[eqD];exact Bool.beq_eq_decide_eq _ _
@[simp] theorem aO8 (x:Int) (y:Str):eqD (.int x) (.str y)=false:=by simp[eqD]
@[simp] theorem aO7 (x:Int) (y:List D):eqD (.int x) (.tup y)=false:=by simp[eqD]
@[simp] theorem aP0 (x:Int) (y:List D):eqD (.int x) (.lst y)=false:=by simp[eqD]
@[simp] theorem aN4 (x:Str):eqD (.str x) .non=false:=by simp[eqD]
@[simp] theorem aT7 (x:Str) (y:Bool):eqD (.str x) (.bl y)=false:=by simp[eqD]
@[simp] theorem aN6 (x:Str) (y:Int):eqD (.str x) (.int y)=false:=by simp[eqD]
@[simp] theorem aN3 (x:Str) (y:Str):eqD (.str x) (.str y)=decide (x=y):=by rw[eqD];exact Bool.beq_eq_decide_eq _ _
@[simp] theorem aN2 (x:Str) (y:List D):eqD (.str x) (.tup y)=false:=by simp[eqD]
@[simp] theorem aN5 (x:Str) (y:List D):eqD (.str x) (.lst y)=false:=by simp[eqD]
@[simp] theorem aM9 (x:List D):eqD (.tup x) .non=false:=by simp[eqD]
@[simp] theorem aT6 (x:List D) (y:Bool):eqD (.tup x) (.bl y)=false:=by simp[eqD]
@[simp] theorem aN1 (x:List D) (y:Int):eqD (.tup x) (.int y)=false:=by simp[eqD]
@[simp] theorem aM8 (x:List D) (y:Str):eqD (.tup x) (.str y)=false:=by simp[eqD]
@[simp] theorem z_1 (x:List D) (y:List D):eqD (.tup x) (.tup y)=r_4 x y:=by rw[eqD]
@[simp] theorem aN0 (x:List D) (y:List D):eqD (.tup x) (.lst y)=false:=by simp[eqD]
@[simp] theorem aO4 (x:List D):eqD (.lst x) .non=false:=by simp[eqD]
@[simp] theorem aT9 (x:List D) (y:Bool):eqD (.lst x) (.bl y)=false:=by simp[eqD]
@[simp] theorem aO6 (x:List D) (y:Int):eqD (.lst x) (.int y)=false:=by simp[eqD]
@[simp] theorem aO3 (x:List D) (y:Str):eqD (.lst x) (.str y)=false:=by simp[eqD]
@[simp] theorem aO2 (x:List D) (y:List D):eqD (.lst x) (.tup y)=false:=by simp[eqD]
@[simp] theorem aO5 (x:List D) (y:List D):eqD (.lst x) (.lst y)=r_4 x y:=by rw[eqD]
@[simp] theorem bu9:r_4 [] []=true:=by rw[r_4]
@[simp] theorem H_5 (a b:D) (r t:List D):r_4 (a::r) (b::t)=(eqD a b&&r_4 r t):=by rw[r_4]
@[simp] theorem bv0 (b:D) (t:List D):r_4 [] (b::t)=false:=by simp[r_4]
@[simp] theorem bv1 (b:D) (t:List D):r_4 (b::t) []=false:=by simp[r_4]
mutual
noncomputable def dpD:D->Nat
 |.tup xs=>t_6 xs+1
 |.lst xs=>t_6 xs+1
 |.opq=>1000
 |.dct _ _=>1000
 |_=>0
noncomputable def t_6:List D->Nat
 |[]=>0
 |d::r=>max (dpD d) (t_6 r)
end
@[simp] theorem aP4:dpD .opq=1000:=rfl
@[simp] theorem aP5 (ks:List Str) (vs:List D):dpD (.dct ks vs)=1000:=rfl
@[simp] theorem bw4:dpD .non=0:=rfl
@[simp] theorem bE4 (b:Bool):dpD (.bl b)=0:=rfl
@[simp] theorem bw5 (i:Int):dpD (.int i)=0:=rfl
@[simp] theorem bw3 (x:Str):dpD (.str x)=0:=rfl
@[simp] theorem H_6 (xs:List D):dpD (.tup xs)=t_6 xs+1:=rfl
@[simp] theorem H_7 (xs:List D):dpD (.lst xs)=t_6 xs+1:=rfl
@[simp] theorem bk2:t_6 []=0:=rfl
@[simp] theorem l_2 (d:D) (r:List D):t_6 (d::r)=max (dpD d) (t_6 r):=rfl
noncomputable def bx4 (i:Int):Bool:=decide (i.natAbs<2 ^ 1000)
noncomputable def m_8 (i j:Int):Bool:=decide (i.natAbs<2 ^ 64)||decide (j.natAbs<2 ^ 64)||(bx4 i&&bx4 j)
noncomputable def G_4 (j:Int):Bool:=decide (j≠0)&&decide (j.natAbs<2 ^ 1000)
noncomputable def aT4:D->Option Int
 |.int i=>some i
 |_=>none
noncomputable def onI (g:Int->Int->Option D) (x y:D):Option D:=bnd (aT4 x) λ i=>bnd (aT4 y) (g i)
theorem D_3 {g:Int->Int->Option D}{x y d:D} (e:onI g x y=some d):∃ i j,x=.int i/\y=.int j/\g i j=some d:=by
 cases x with
 |int i =>
  cases y with
  |int j=>exact⟨i,j,rfl,rfl,e⟩
  |_=>cases e
 |_=>cases e
noncomputable def e_9:D->D->Option D
 |.int i,.int j=>some (.int (i+j))
 |.str a,.str b=>if a.length+b.length<=sizeLine then some (.str (a++b)) else none
 |.lst a,.lst b=>if a.length+b.length<=sizeLine then some (.lst (a++b)) else none
 |_,_=>none
noncomputable def N_7:D->D->Option D:=onI λ i j=>some (.int (i-j))
noncomputable def s_3:D->D->Option D:=onI λ i j=>if m_8 i j=true then some (.int (i*j)) else none
noncomputable def bk5:D->D->Option D:=onI λ i j=>if G_4 j=true then some (.int (i.fdiv j)) else none
noncomputable def l_4:D->D->Option D:=onI λ i j=>if j≠0 then some (.int (i.fmod j)) else none
noncomputable def aP7:D->D->Option D:=onI λ i j=>if 0<=j/\j<=64/\i.natAbs<2 ^ 64 then some (.int (i ^ j.toNat)) else none
noncomputable def bw6:D->Option D
 |.int i=>some (.int (-i))
 |_=>none
noncomputable def bg4 (p:Int->Int->Bool):D->D->Option D:=onI λ i j=>some (.bl (p i j))
noncomputable def dLt:D->D->Option D:=bg4 λ i j=>decide (i<j)
noncomputable def dLe:D->D->Option D:=bg4 λ i j=>decide (i<=j)
noncomputable def dGt:D->D->Option D:=bg4 λ i j=>decide (j<i)
noncomputable def dGe:D->D->Option D:=bg4 λ i j=>decide (j<=i)
noncomputable def dEq (x y:D):Option D:=if dpD x<=30/\dpD y<=30 then some (.bl (eqD x y)) else none
noncomputable def dNe (x y:D):Option D:=if dpD x<=30/\dpD y<=30 then some (.bl (!eqD x y)) else none
noncomputable def isN:D->Bool
 |.non=>true
 |_=>false
@[simp] theorem bt3:isN .opq=false:=rfl
@[simp] theorem bt7 (ks:List Str) (vs:List D):isN (.dct ks vs)=false:=rfl
@[simp] theorem bt4:isN .non=true:=rfl
@[simp] theorem bB7 (b:Bool):isN (.bl b)=false:=rfl
@[simp] theorem bt6 (b:Int):isN (.int b)=false:=rfl
@[simp] theorem bt2 (b:Str):isN (.str b)=false:=rfl
@[simp] theorem bt1 (b:List D):isN (.tup b)=false:=rfl
@[simp] theorem bt5 (b:List D):isN (.lst b)=false:=rfl
noncomputable def dIs (x y:D):Option D:=match y with
 |.non=>some (.bl (isN x))
 |_=>none
noncomputable def g_0 (x y:D):Option D:=match y with
 |.non=>some (.bl (!isN x))
 |_=>none
noncomputable def bf9:D->Option Bool
 |.non=>some false
 |.bl b=>some b
 |.int i=>some (i != 0)
 |.lst xs=>some (!xs.isEmpty)
 |.tup xs=>some (!xs.isEmpty)
 |_=>none
noncomputable def dPl (n:Nat) (i:Int):Option Nat:=if 0<=i then (if i<n then some i.toNat else none) else if -(n:Int)<=i then some (i+n).toNat else none
noncomputable def atD (xs:List D) (i:Int):Option D:=(dPl xs.length i).bind λ j=>xs[j]?
noncomputable def N_8 (n d:Nat):Option Int->Nat
 |none=>d
 |some v=>if v<0 then (v+(n:Int)).toNat else min v.toNat n
theorem X_7 (n d k:Nat):N_8 n d (some (k:Int))=min k n:=by
 show (if (k:Int)<0 then ((k:Int)+(n:Int)).toNat else min (k:Int).toNat n)=_;exact if_neg (Int.not_lt.mpr (Int.natCast_nonneg k))
noncomputable def S_2 (xs:List D) (lo hi:Option Int):List D:=(xs.drop (N_8 xs.length 0 lo)).take (N_8 xs.length xs.length hi-N_8 xs.length 0 lo)
noncomputable def ap2:List D->Option D
 |[.int i]=>some (.int (if i<0 then -i else i))
 |_=>none
noncomputable def D_8:List D->Option (List Int)
 |[]=>some []
 |.int i::r=>bnd (D_8 r) λ is=>some (i::is)
 |_=>none
theorem R_5 (i:Int) (r:List D):D_8 (.int i::r)=bnd (D_8 r) λ is=>some (i::is):=rfl
noncomputable def aa1:Int->List Int->Int
 |m,[]=>m
 |m,x::r=>aa1 (if x<m then x else m) r
noncomputable def aa2:Int->List Int->Int
 |m,[]=>m
 |m,x::r=>aa2 (if m<x then x else m) r
noncomputable def aQ6 (f:Int->List Int->Int):List Int->Option D
 |[]=>none
 |i::r=>some (.int (f i r))
noncomputable def aU6:List D->Option D
 |[.int i,.int j]=>some (.int (if j > i then j else i))
 |[.lst xs]=>bnd (D_8 xs) λ is=>aQ6 aa2 is
 |_=>none
noncomputable def bl0:List D->Option D
 |[.int i,.int j]=>some (.int (if j<i then j else i))
 |[.lst xs]=>bnd (D_8 xs) λ is=>aQ6 aa1 is
 |_=>none
inductive Ty where
 |int | bool | str | tuple | list | dict
noncomputable def aA5:Ty->D->Bool
 |.int,.int _=>true
 |.int,.bl _=>true
 |.bool,.bl _=>true
 |.str,.str _=>true
 |.tuple,.tup _=>true
 |.list,.lst _=>true
 |.dict,.dct _ _=>true
 |_,_=>false
noncomputable def slV (ρ:En):Option Sl->Option (D×En)
 |some (.im d)=>some (d,ρ)
 |_=>none
noncomputable def eV (i:Nat) (ρ:En):Option (D×En):=slV ρ ρ[i]?
noncomputable def eC (d:D) (ρ:En):Option (D×En):=some (d,ρ)
abbrev zI (n:Int):=eC (.int n)
abbrev zT (x:Str):=eC (.str x)
theorem zR{α:Sort _}{a b:α}(h:a=b):a=b:=h
noncomputable def e1 (op:D->Option D) (F:FE) (ρ:En):Option (D×En):=bnd (F ρ) λ p=>bnd (op p.1) λ d=>some (d,p.2)
noncomputable def e2 (op:D->D->Option D) (F G:FE) (ρ:En):Option (D×En):=bnd (F ρ) λ p=>bnd (G p.2) λ q=>bnd (op p.1 q.1) λ d=>some (d,q.2)
noncomputable def blB:D->Option Bool
 |.bl b=>some b
 |_=>none
noncomputable def e3 (op O:D->D->Option D) (F G L:FE) (ρ:En):Option (D×En):=bnd (F ρ) λ p=>bnd (G p.2) λ q=>bnd (op p.1 q.1) λ z=>bnd (blB z) λ b =>
 if b=true then bnd (L q.2) λ r=>bnd (O q.1 r.1) λ d=>some (d,r.2) else some (.bl false,q.2)
noncomputable def aN (ρ:En):Option (List D×En):=some ([],ρ)
noncomputable def aC (F:FE) (A:FA) (ρ:En):Option (List D×En):=bnd (F ρ) λ p=>bnd (A p.2) λ q=>some (p.1::q.1,q.2)
noncomputable def h_2 (A:FA) (ρ:En):Option (D×En):=bnd (A ρ) λ p=>if p.1.length<=1000 then some (.tup p.1,p.2) else none
noncomputable def O_9 (A:FA) (ρ:En):Option (D×En):=bnd (A ρ) λ p=>if p.1.length<=1000 then some (.lst p.1,p.2) else none
noncomputable def eF (g:List D->Option D) (A:FA) (ρ:En):Option (D×En):=bnd (A ρ) λ p=>bnd (g p.1) λ d=>some (d,p.2)
noncomputable def isQ:D->Bool
 |.opq=>true
 |_=>false
noncomputable def eTy (t:Ty) (F:FE) (ρ:En):Option (D×En):=bnd (F ρ) λ p=>if isQ p.1=true then none else some (.bl (aA5 t p.1),p.2)
abbrev FO:=En->Option (Option Int×En)
noncomputable def oN (ρ:En):Option (Option Int×En):=some (none,ρ)
noncomputable def oS (F:FE) (ρ:En):Option (Option Int×En):=bnd (F ρ) λ p=>bnd (aT4 p.1) λ i=>some (some i,p.2)
noncomputable def tB (F:FE) (ρ:En):Option (Bool×En):=bnd (F ρ) λ p=>bnd (blB p.1) λ b=>some (b,p.2)
noncomputable def tV (F:FE) (ρ:En):Option (Bool×En):=bnd (F ρ) λ p=>bnd (bf9 p.1) λ b=>some (b,p.2)
noncomputable def tAnd (T U:FT) (ρ:En):Option (Bool×En):=bnd (T ρ) λ p=>if p.1=true then U p.2 else some (false,p.2)
noncomputable def tOr (T U:FT) (ρ:En):Option (Bool×En):=bnd (T ρ) λ p=>if p.1=true then some (true,p.2) else U p.2
noncomputable def tNot (T:FT) (ρ:En):Option (Bool×En):=bnd (T ρ) λ p=>some (!p.1,p.2)
noncomputable def tYes (ρ:En):Option (Bool×En):=some (true,ρ)
noncomputable def eIf (T:FT) (F G:FE) (ρ:En):Option (D×En):=bnd (T ρ) λ p=>if p.1=true then F p.2 else G p.2
noncomputable def aP3 (F G:FE) (ρ:En):Option (D×En):=bnd (F ρ) λ p=>bnd (blB p.1) λ b=>if b=true then G p.2 else some (.bl false,p.2)
noncomputable def eOr (F G:FE) (ρ:En):Option (D×En):=bnd (F ρ) λ p=>bnd (blB p.1) λ b=>if b=true then some (.bl true,p.2) else G p.2
noncomputable def slI:Option Sl->Option Sl
 |some (.im d)=>some (.im d)
 |_=>none
noncomputable def N_0 (ρ:En):List Nat->Option En
 |[]=>some []
 |j::js=>bnd (slI ρ[j]?) λ s=>bnd (N_0 ρ js) λ r=>some (s::r)
theorem aj4 (ρ:En) (j:Nat) (js:List Nat):N_0 ρ (j::js)=bnd (slI ρ[j]?) λ s=>bnd (N_0 ρ js) λ r=>some (s::r):=rfl
noncomputable def cGo (T:FT) (F:FE) (fr:En):List D->Option (List D)
 |[]=>some []
 |d::r=>bnd (T (.im d::fr)) λ p=>if p.1=true then bnd (F p.2) λ q=>bnd (cGo T F fr r) λ t=>some (q.1::t) else cGo T F fr r
theorem aQ5 (T:FT) (F:FE) (fr:En):cGo T F fr []=some []:=rfl
theorem aw2 (T:FT) (F:FE) (fr:En) (d:D) (r:List D):cGo T F fr (d::r)=bnd (T (.im d::fr)) λ p=>if p.1=true then bnd (F p.2) λ q=>bnd (cGo T F fr r) λ t=>some (q.1::t) else cGo T F fr r:=rfl
noncomputable def chS (c:Nat):Str:=⟨#[c]⟩
noncomputable def chs (z:Str):List D:=z.cps.toList.map λ c=>.str (chS c)
noncomputable def items:D->Option (List D)
 |.lst xs=>some xs
 |.tup xs=>some xs
 |.str z=>some (chs z)
 |_=>none
noncomputable def eLC (js:List Nat) (I:FE) (T:FT) (F:FE) (ρ:En):Option (D×En):=bnd (I ρ) λ p=>bnd (items p.1) λ xs=>bnd (N_0 p.2 js) λ fr=>bnd (cGo T F fr xs) λ ys=>if xs.length<=sizeLine then some (.lst ys,p.2) else none
noncomputable def sN (ρ:En):Option Res:=some (.nx ρ)
noncomputable def nxR (G:FS):Res->Option Res
 |.nx O=>G O
 |.rt d ρ=>some (.rt d ρ)
 |.bk ρ=>some (.bk ρ)
 |.ct ρ=>some (.ct ρ)
noncomputable def b_6 (F G:FS) (ρ:En):Option Res:=bnd (F ρ) λ r=>nxR G r
noncomputable def f_1 (i:Nat) (F:FE) (ρ:En):Option Res:=bnd (F ρ) λ p=>some (.nx (p.2.set i (.im p.1)))
noncomputable def o_7:List Nat->List D->En->En
 |i::is,d::ds,ρ=>o_7 is ds (ρ.set i (.im d))
 |_,_,ρ=>ρ
theorem P_7 (i:Nat) (is:List Nat) (d:D) (ds:List D) (ρ:En):o_7 (i::is) (d::ds) ρ=o_7 is ds (ρ.set i (.im d)):=rfl
theorem Z_5 (ds:List D) (ρ:En):o_7 [] ds ρ=ρ:=by cases ds <;> rfl
noncomputable def bm2:D->Option (List D)
 |.tup xs=>some xs
 |.lst xs=>some xs
 |_=>none
noncomputable def gN (i:Nat) (d:D) (ρ:En):Option En:=some (ρ.set i (.im d))
noncomputable def gT (is:List Nat) (d:D) (ρ:En):Option En:=bnd (bm2 d) λ xs=>if xs.length=is.length then some (o_7 is xs ρ) else none
noncomputable def ac2 (is:List Nat) (F:FE) (ρ:En):Option Res:=bnd (F ρ) λ p=>bnd (gT is p.1 p.2) λ O=>some (.nx O)
noncomputable def sIf (T:FT) (F G:FS) (ρ:En):Option Res:=bnd (T ρ) λ p=>if p.1=true then F p.2 else G p.2
noncomputable def f_2 (F:FE) (ρ:En):Option Res:=bnd (F ρ) λ p=>some (.rt p.1 p.2)
noncomputable def goR (G:FS):Res->Option Res
 |.nx ρ=>G ρ
 |.ct ρ=>G ρ
 |.bk ρ=>some (.nx ρ)
 |.rt d ρ=>some (.rt d ρ)
noncomputable def fGo (g:D->En->Option En) (B:FS):List D->FS
 |[],ρ=>some (.nx ρ)
 |d::r,ρ=>bnd (g d ρ) λ O=>bnd (B O) λ z=>goR (fGo g B r) z
theorem aM6 (g:D->En->Option En) (B:FS) (ρ:En):fGo g B [] ρ=some (.nx ρ):=rfl
theorem au7 (g:D->En->Option En) (B:FS) (d:D) (r:List D) (ρ:En):fGo g B (d::r) ρ=bnd (g d ρ) λ O=>bnd (B O) λ z=>goR (fGo g B r) z:=rfl
noncomputable def ac3 (g:D->En->Option En) (F:FE) (B:FS) (ρ:En):Option Res:=bnd (F ρ) λ p=>bnd (items p.1) λ xs=>fGo g B xs p.2
noncomputable def r_1 (lo:Int):Nat->List D
 |0=>[]
 |n+1=>.int lo::r_1 (lo+1) n
noncomputable def P_8 (F:FE) (ρ:En):Option (List D×En):=bnd (F ρ) λ p=>bnd (aT4 p.1) λ j=>if -(2 ^ 62)<=j/\j<2 ^ 62 then some (r_1 0 j.toNat,p.2) else none
noncomputable def Z_6 (g:D->En->Option En) (R:FA) (B:FS) (ρ:En):Option Res:=bnd (R ρ) λ p=>fGo g B p.1 p.2
noncomputable def aT3 (A:FA) (ρ:En):Option (List D×En):=bnd (A ρ) λ p=>if p.1.length<=1000 then some p else none
noncomputable def aH7 (i:Nat) (A:FA) (ρ:En):Option Res:=bnd (A ρ) λ p=>some (.nx (p.2.set i (.ow false (.lst p.1))))
noncomputable def owL:Option Sl->Option (List D)
 |some (.ow false (.lst ds))=>some ds
 |_=>none
noncomputable def aI2 (i:Nat) (F:FE) (ρ:En):Option Res:=bnd (owL ρ[i]?) λ _=>bnd (F ρ) λ p=>bnd (owL p.2[i]?) λ ds=>if ds.length<1000000 then some (.nx (p.2.set i (.ow false (.lst (ds++[p.1]))))) else none
noncomputable def frz (i:Nat) (ρ:En):En:=match ρ[i]? with
 |some (.ow false (.lst ds))=>ρ.set i (.im (.lst ds))
 |_=>ρ
noncomputable def aH8 (i:Nat) (F:FS) (ρ:En):Option Res:=F (frz i ρ)
noncomputable def eLR (js:List Nat) (R:FA) (T:FT) (F:FE) (ρ:En):Option (D×En):=bnd (R ρ) λ p=>bnd (N_0 p.2 js) λ fr=>bnd (cGo T F fr p.1) λ ys=>if p.1.length<=sizeLine then some (.lst ys,p.2) else none
noncomputable def bp6:Res->Option D
 |.rt d _=>some d
 |.nx _=>some .non
 |_=>none
noncomputable def fnD (n k:Nat) (B:FS) (ds:List D):Option D:=if ds.length=n then bnd (B (ds.map .im++List.replicate k .no)) λ r=>bp6 r else none
end Fx
namespace Fx
open PySem PySem.Spec PyProof.Rows L2
mutual
noncomputable def Rep (K:Frag) (H:Hp):D->V->Prop
 |.non,v=>v=.non
 |.bl b,v=>v=.bl b
 |.int i,v=>v=.int i
 |.str x,v=>v=.str x
 |.tup ds,v=>∃ a vs,v=.ref a/\SqT K H a vs/\Reps K H ds vs
 |.lst ds,v=>∃ a vs,v=.ref a/\SqL K H a vs/\Reps K H ds vs
 |.opq,v=>∃ a,v=.ref a ∧ nsIn K mainGlobals "through_row"=some (some (.ref a))
 |.dct ks ds,v=>∃ a o vs,v=.ref a/\H a=some (.frz o (.dK ((ks.map Sum.inr).zip vs)))/\Reps K H ds vs/\ks.length=ds.length
noncomputable def Reps (K:Frag) (H:Hp):List D->List V->Prop
 |[],vs=>vs=[]
 |d::ds,vs=>∃ v r,vs=v::r/\Rep K H d v/\Reps K H ds r
end
theorem Same.rd {H H':Hp}{a:Addr}{u:HO} (e:Same H H') (h:Rd H a u):Rd H' a u:=by
 rcases h with h | ⟨o,h⟩
 ·exact .inl (e _ _ h)
 ·exact .inr ⟨o,e _ _ h⟩
theorem Same.seqT {K:Frag}{H H':Hp}{a:Addr}{xs:List V} (e:Same H H') (h:SqT K H a xs):SqT K H' a xs:=by
 rcases h with h | h
 ·exact .inl (Same.rd e h)
 ·exact .inr h
section
variable {K:Frag}{H H':Hp}
mutual
theorem Rep.mono (e:Same H H'):∀ (d:D) {v:V},Rep K H d v->Rep K H' d v
 |.non,_,h=>h
 |.bl _,_,h=>h
 |.int _,_,h=>h
 |.str _,_,h=>h
 |.tup ds,_,h=>by
  unfold Rep at h ⊢;obtain⟨a,vs,q,s,r⟩:=h;exact⟨a,vs,q,Same.seqT e s,Reps.mono e ds r⟩
 |.lst ds,_,h=>by
  unfold Rep at h ⊢;obtain⟨a,vs,q,s,r⟩:=h;exact⟨a,vs,q,Same.seq e s,Reps.mono e ds r⟩
 |.opq,_,h=>by
  unfold Rep at h ⊢;exact h
 |.dct ks ds,_,h=>by
  unfold Rep at h ⊢;obtain⟨a,o,vs,q,s,r,l⟩:=h;exact⟨a,o,vs,q,e _ _ s,Reps.mono e ds r,l⟩
theorem Reps.mono (e:Same H H'):∀ (ds:List D) {vs:List V},Reps K H ds vs->Reps K H' ds vs
 |[],_,h=>h
 |d::ds,_,h=>by
  unfold Reps at h ⊢;obtain⟨v,r,q,s,t⟩:=h;exact⟨v,r,q,Rep.mono e d s,Reps.mono e ds t⟩
end
theorem Reps.length:∀ {ds:List D}{vs:List V},Reps K H ds vs->ds.length=vs.length
 |[],_,h=>by unfold Reps at h;rw[h];rfl
 |d::ds,_,h=>by
  unfold Reps at h;obtain⟨v,r,q,_,t⟩:=h;rw[q,List.length_cons,List.length_cons,Reps.length t]
theorem Reps.get:∀ {ds:List D}{vs:List V}{i:Nat}{d:D},Reps K H ds vs->ds[i]?=some d->∃ v,vs[i]?=some v/\Rep K H d v
 |[],_,_,_,_,e=>by simp at e
 |d::ds,_,0,_,h,e=>by
  unfold Reps at h;obtain⟨v,r,rfl,s,_⟩:=h;simp at e;subst e;exact⟨v,rfl,s⟩
 |d::ds,_,i+1,d',h,e=>by
  unfold Reps at h;obtain⟨v,r,rfl,_,t⟩:=h;obtain⟨w,a,b⟩:=Reps.get (i:=i) (d:=d') t (by simpa using e)
  exact⟨w,by simpa using a,b⟩
theorem Reps.app:∀ {ds es:List D}{vs ws:List V},Reps K H ds vs->Reps K H es ws->Reps K H (ds++es) (vs++ws)
 |[],_,_,_,h,h'=>by unfold Reps at h;rw[h];exact h'
 |d::ds,es,_,ws,h,h'=>by
  unfold Reps at h;obtain⟨v,r,rfl,s,t⟩:=h;show Reps K H (d::(ds++es)) (v::(r++ws));unfold Reps;exact⟨v,r++ws,rfl,s,Reps.app t h'⟩
theorem Reps.take:∀ {ds:List D}{vs:List V} (n:Nat),Reps K H ds vs->Reps K H (ds.take n) (vs.take n)
 |[],_,n,h=>by unfold Reps at h;rw[h];simp[Reps]
 |d::ds,vs,0,h=>by simp[Reps]
 |d::ds,_,n+1,h=>by
  unfold Reps at h;obtain⟨v,r,rfl,s,t⟩:=h;show Reps K H (d::ds.take n) (v::r.take n);unfold Reps;exact⟨v,r.take n,rfl,s,Reps.take n t⟩
theorem Reps.drop:∀ {ds:List D}{vs:List V} (n:Nat),Reps K H ds vs->Reps K H (ds.drop n) (vs.drop n)
 |[],_,n,h=>by unfold Reps at h;rw[h];simp[Reps]
 |d::ds,vs,0,h=>by simpa using h
 |d::ds,_,n+1,h=>by
  unfold Reps at h;obtain⟨v,r,rfl,s,t⟩:=h
  simpa using Reps.drop n t
theorem Reps.one {d:D}{v:V} (h:Rep K H d v):Reps K H [d] [v]:=by
 unfold Reps Reps;exact⟨v,[],rfl,h,rfl⟩
theorem Reps.cons {d:D}{ds:List D}{v:V}{vs:List V} (h:Rep K H d v) (t:Reps K H ds vs):Reps K H (d::ds) (v::vs):=by
 unfold Reps;exact⟨v,vs,rfl,h,t⟩
theorem Reps.nil_:Reps K H [] []:=by unfold Reps;rfl
end
structure FC where
 Hi:Hp
 He:Hp
 Ap:List Addr
noncomputable def OwOk (K:Frag) (H0 H:Hp) (a:Addr):MO->Prop
 |.lst ds=>∃ vs,H a=some (.lst vs)/\Reps K H0 ds vs
 |.dic kds=>∃ ks vs,H a=some (.dK ((ks.map Sum.inr).zip vs))/\ks=kds.map (·.1)/\Reps K H0 (kds.map (·.2)) vs
structure RS (K:Frag) (c:FC) (H0 H:Hp) (ρ:En) (σ:L2.St):Prop where
 same:Same H0 H
 init:Same c.Hi H0
 fresh:∀ b o,H0 b=some o->c.Hi b=some o\/c.He b=none
 keep:∀ b o,c.He b=some o->b∉c.Ap->H b=some o
 apt:∀ a∈c.Ap,H a≠none
 len:ρ.length=σ.length
 im:∀ (i:Nat) (d:D),ρ[i]?=some (.im d)->∃ v,σ[i]?=some (some v)/\Rep K H0 d v
 ow:∀ (i:Nat) (b:Bool) (o:MO),ρ[i]?=some (.ow b o)->∃ a,σ[i]?=some (some (.ref a))/\H0 a=none/\(if b=true then a∈c.Ap else c.He a=none)/\OwOk K H0 H a o
 ne:∀ (i j:Nat) (b b':Bool) (o o':MO) (a:Addr),ρ[i]?=some (.ow b o)->ρ[j]?=some (.ow b' o')->σ[i]?=some (some (.ref a))->σ[j]?=some (some (.ref a))->i=j
section
variable {K:Frag}{c:FC}{H0 H H0' H':Hp}{ρ:En}{σ:L2.St}
theorem OwOk.some {a:Addr}{o:MO} (h:OwOk K H0 H a o):∃ u,H a=Option.some u:=by
 cases o with
 |lst ds=>obtain⟨vs,e,_⟩:=h;exact⟨_,e⟩
 |dic ds=>obtain⟨ks,vs,e,_⟩:=h;exact⟨_,e⟩
theorem OwOk.step {a:Addr}{o:MO} (h:OwOk K H0 H a o) (O:Same H0 H0') (s:∀ u,H a=Option.some u->H' a=Option.some u):OwOk K H0' H' a o:=by
 cases o with
 |lst ds=>obtain⟨vs,e,r⟩:=h;exact⟨vs,s _ e,Reps.mono O ds r⟩
 |dic ds=>obtain⟨ks,vs,e,q,r⟩:=h;exact⟨ks,vs,s _ e,q,Reps.mono O _ r⟩
structure Step (H0 H H0' H':Hp):Prop where
 s0:Same H0 H0'
 s:Same H H'
 s':Same H0' H'
 fr:∀ b o,H0' b=some o->H0 b=some o\/H b=none
theorem RS.after (R:RS K c H0 H ρ σ) (S:Step H0 H H0' H'):RS K c H0' H' ρ σ:=by
 refine⟨S.s',R.init.trans S.s0,λ b o e=>?_,λ b o e n=>S.s _ _ (R.keep b o e n),λ a Y e=>?_,R.len,λ i d e=>?_,λ i b o e=>?_,R.ne⟩
 ·rcases S.fr b o e with h | h
  ·exact R.fresh b o h
  ·refine .inr ?_
   cases q:c.He b with
   |none=>rfl
   |some u =>
    by_cases O:b∈c.Ap
    ·exact absurd h (R.apt b O)
    ·rw[R.keep b u q O] at h;cases h
 ·cases q:H a with
  |none=>exact R.apt a Y q
  |some u=>rw[S.s _ _ q] at e;cases e
 ·obtain⟨v,a,b⟩:=R.im i d e
  exact⟨v,a,Rep.mono S.s0 d b⟩
 ·obtain⟨a,x,y,z,w⟩:=R.ow i b o e
  refine⟨a,x,?_,z,w.step S.s0 λ u q=>S.s _ _ q⟩
  obtain⟨u,q⟩:=w.some;cases t:H0' a with
  |none=>rfl
  |some o' =>
   rcases S.fr a o' t with h | h
   ·rw[y] at h;cases h
   ·rw[q] at h;cases h
theorem Step.refl (s:Same H0 H):Step H0 H H0 H:=⟨Same.refl _,Same.refl _,s,λ _ _ e=>.inl e⟩
theorem Step.trans {A B:Hp} (x:Step H0 H H0' H') (y:Step H0' H' A B):Step H0 H A B:=by
 refine⟨x.s0.trans y.s0,x.s.trans y.s,y.s',λ b o e=>?_⟩
 rcases y.fr b o e with h | h
 ·exact x.fr b o h
 ·exact .inr (x.s.free h)
theorem Step.alloc {p:Addr}{o:HO} (s:Same H0 H) (Y:H p=none):Step H0 H (upd H0 p o) (upd H p o):=by
 have Z:H0 p=none:=s.free Y;refine⟨λ b u e=>by rw[a_3 (a_6 e Z)];exact e,λ b u e=>by rw[a_3 (a_6 e Y)];exact e,λ b u e=>?_,λ b u e=>?_⟩
 ·by_cases O:b=p
  ·subst O;rw[a_2] at e ⊢;exact e
  ·rw[a_3 O] at e ⊢;exact s _ _ e
 ·by_cases O:b=p
  ·subst O;exact .inr Y
  ·rw[a_3 O] at e;exact .inl e
end
noncomputable def tE (K:Frag) (F:FE):TE:=λ σ H Q=>∃ c H0 ρ d O,RS K c H0 H ρ σ/\F ρ=some (d,O)/\∀ v H0' H',Same H0 H0'->RS K c H0' H' O σ->Rep K H0' d v->Q v H'
noncomputable def tTt (K:Frag) (F:FT):TT:=λ σ H Q=>∃ c H0 ρ b O,RS K c H0 H ρ σ/\F ρ=some (b,O)/\∀ H0' H',Same H0 H0'->RS K c H0' H' O σ->Q b H'
noncomputable def tAa (K:Frag) (F:FA):TA:=λ σ H Q=>∃ c H0 ρ ds O,RS K c H0 H ρ σ/\F ρ=some (ds,O)/\∀ vs H0' H',Same H0 H0'->RS K c H0' H' O σ->Reps K H0' ds vs->Q vs H'
noncomputable def tOo (K:Frag) (F:FO):TO:=λ σ H Q=>∃ c H0 ρ o O,RS K c H0 H ρ σ/\F ρ=some (o,O)/\∀ H0' H',Same H0 H0'->RS K c H0' H' O σ->Q o H'
noncomputable def XE (X:Cx) (e:Expr) (F:FE):Prop:=PE X e (tE X.K F)
noncomputable def XT (X:Cx) (e:Expr) (F:FT):Prop:=PT X e (tTt X.K F)
noncomputable def XW (X:Cx) (e:Expr) (F:FT):Prop:=PW X e (tTt X.K F)
noncomputable def XA (X:Cx) (es:List Expr) (F:FA):Prop:=PA X es (tAa X.K F)
noncomputable def XO (X:Cx) (e:Option Expr) (F:FO):Prop:=PO X e (tOo X.K F)
theorem a_1 {α O:Type}{x:Option α}{f:α->Option O}{b:O} (h:bnd x f=some b):∃ a,x=some a/\f a=some b:=by
 cases x with
 |none=>cases h
 |some a=>exact⟨a,rfl,h⟩
theorem PE.wk {X:Cx}{e:Expr}{t t':TE} (h:PE X e t) (w:∀ σ H Q,t' σ H Q->t σ H Q):PE X e t':=λ pins s σ H Q I q=>h pins s σ H Q I (w σ H Q q)
theorem PT.wk {X:Cx}{e:Expr}{t t':TT} (h:PT X e t) (w:∀ σ H Q,t' σ H Q->t σ H Q):PT X e t':=λ pins s σ H Q I q=>h pins s σ H Q I (w σ H Q q)
theorem PW.wk {X:Cx}{e:Expr}{t t':TT} (h:PW X e t) (w:∀ σ H Q,t' σ H Q->t σ H Q):PW X e t':=λ O pins s σ H Q I q=>h O pins s σ H Q I (w σ H Q q)
theorem PA.wk {X:Cx}{e:List Expr}{t t':TA} (h:PA X e t) (w:∀ σ H Q,t' σ H Q->t σ H Q):PA X e t':=λ pos pins s σ H Q I q=>h pos pins s σ H Q I (w σ H Q q)
theorem PS.wk {X:Cx}{e:Stmt}{t t':TS} (h:PS X e t) (w:∀ D σ H,t' D σ H->t D σ H):PS X e t':=λ pins s σ H D I q=>h pins s σ H D I (w D σ H q)
theorem PSs.wk {X:Cx}{e:List Stmt}{t t':TS} (h:PSs X e t) (w:∀ D σ H,t' D σ H->t D σ H):PSs X e t':=λ pins s σ H D I q=>h pins s σ H D I (w D σ H q)
section
variable {X:Cx}{pos:Pos}{a b e:Expr}{F G L:FE}{T U:FT}
theorem xv (i:Nat) {x:Str} (hN:X.N[i]?=some x:=by rfl) (hv:Vis X.env.scope x:=by first | exact Or.inl rfl | exact Or.inr (Or.inl rfl) | exact Or.inr (Or.inr rfl)) (hd:(x==("__debug__":Str))=false:=by decide)
  (Y:(x==("__classdict__":Str))=false:=by decide):XE X (.Name x pos) (eV i) :=
 PE.wk (m_7 hN hv hd Y) λ σ H Q O=>by
  obtain⟨c,H0,ρ,d,Z,R,f,q⟩:=O;unfold eV at f;cases z:ρ[i]? with
  |none=>rw[z] at f;cases f
  |some sl =>
   rw[z] at f;cases sl with
   |no=>cases f
   |ow b o=>cases f
   |im d' =>
    have f':some (d',ρ)=some (d,Z):=f;cases f';obtain⟨v,e1,e2⟩:=R.im i _ z;exact⟨v,e1,q v H0 H (Same.refl _) R e2⟩
theorem N_6 {d d':D}{ρ O:En} (h:eC d ρ=some (d',O)):d'=d/\O=ρ:=by
 have h':some (d,ρ)=some (d',O):=h;cases h';exact⟨rfl,rfl⟩
theorem a_4 {i:Int}{j}:XE X (.Constant (.int i) j pos) (zI i):=PE.wk V_2 λ σ H Q O=>by
 obtain⟨c,H0,ρ,d,Y,R,f,q⟩:=O;obtain⟨rfl,rfl⟩:=N_6 f;exact q _ H0 H (Same.refl _) R (by unfold Rep;rfl)
theorem xbl {i:Bool}{j}:XE X (.Constant (.bool i) j pos) (eC (.bl i)):=PE.wk aZ7 λ σ H Q O=>by
 obtain⟨c,H0,ρ,d,Y,R,f,q⟩:=O;obtain⟨rfl,rfl⟩:=N_6 f;exact q _ H0 H (Same.refl _) R (by unfold Rep;rfl)
theorem m_4 {j}:XE X (.Constant .none j pos) (eC .non):=PE.wk aZ5 λ σ H Q O=>by
 obtain⟨c,H0,ρ,d,Y,R,f,q⟩:=O;obtain⟨rfl,rfl⟩:=N_6 f;exact q _ H0 H (Same.refl _) R (by unfold Rep;rfl)
theorem j_7 {x:Str}{j}:XE X (.Constant (.str x) j pos) (eC (.str x)):=PE.wk ae9 λ σ H Q O=>by
 obtain⟨c,H0,ρ,d,Y,R,f,q⟩:=O;obtain⟨rfl,rfl⟩:=N_6 f;exact q _ H0 H (Same.refl _) R (by unfold Rep;rfl)
abbrev Aft (K:Frag) (c:FC) (H0:Hp) (ρ:En) (σ:L2.St) (d:D) (Q:VK):Prop:=∀ v H0' H',Same H0 H0'->RS K c H0' H' ρ σ->Rep K H0' d v->Q v H'
noncomputable def OpD (K:Frag) (r:R2) (op:D->D->Option D):Prop:=∀ (c:FC) (H0 H:Hp) (ρ:En) (σ:L2.St) (x y d:D) (Y O:V) (Q:VK),RS K c H0 H ρ σ->Rep K H0 x Y->Rep K H0 y O->op x y=some d->Aft K c H0 ρ σ d Q->r Y O H Q
noncomputable def A_8 (X:Cx) (op:Operator) (f:D->D->Option D):Prop:=∃ r,OpR X (binaryOp op) r/\OpD X.K r f
noncomputable def s_9 (X:Cx) (op:CmpOp) (f:D->D->Option D):Prop:=∃ r,OpR X (compareOp op) r/\OpD X.K r f
theorem aB8 {op:D->D->Option D}{ρ Y:En}{d:D} (h:e2 op F G ρ=some (d,Y)):∃ x O y,F ρ=some (x,O)/\G O=some (y,Y)/\op x y=some d:=by
 unfold e2 at h;obtain⟨⟨x,O⟩,h1,h⟩:=a_1 h;obtain⟨⟨y,Z⟩,h2,h⟩:=a_1 h;obtain⟨z,h3,h⟩:=a_1 h;have h':some (z,Z)=some (d,Y):=h;cases h';exact⟨x,O,y,h1,h2,h3⟩
theorem T_5 {K:Frag}{op:D->D->Option D}{r:R2} (o:OpD K r op) {σ:L2.St}{H:Hp}{Q:VK} (h:tE K (e2 op F G) σ H Q):tOp r (tE K F) (tE K G) σ H Q:=by
 obtain⟨c,H0,ρ,d,O,R,f,q⟩:=h;obtain⟨x,Y,y,h1,h2,h3⟩:=aB8 f;refine⟨c,H0,ρ,x,Y,R,h1,λ vx H1 Hh s1 R1 r1=>?_⟩
 refine⟨c,H1,Y,y,O,R1,h2,λ vy H2 Hh2 Z R2 r2=>?_⟩
 exact o c H2 Hh2 O σ x y d vx vy Q R2 (Rep.mono Z x r1) r2 h3 λ v H3 Hh3 s3 R3 r3=>q v H3 Hh3 (s1.trans (Z.trans s3)) R3 r3
theorem xb {op:Operator}{f:D->D->Option D} (o:A_8 X op f) (O:XE X a F) (Y:XE X b G):XE X (.BinOp a op b pos) (e2 f F G):=by
 obtain⟨r,h1,h2⟩:=o;exact PE.wk (bq6 h1 O Y) λ σ H Q h=>T_5 h2 h
theorem O_8 {op:CmpOp}{f:D->D->Option D} (o:s_9 X op f) (Y:XE X a F) (Z:XE X b G) (O:behindInMarks op b=false:=by first | exact az4 _ | with_unfolding_all rfl):XE X (.Compare a [op] [b] pos) (e2 f F G):=by
 obtain⟨r,h1,h2⟩:=o;exact PE.wk (aK3 h1 Y Z O) λ σ H Q h=>T_5 h2 h
theorem aW2 {K:Frag}{t:TE}{σ:L2.St}{H:Hp}{Q:Bool->Hp->Prop} (w:∀ Q,tE K F σ H Q->t σ H Q) (h:tTt K (tB F) σ H Q):aG3 t σ H Q:=by
 obtain⟨c,H0,ρ,b,O,R,f,q⟩:=h;unfold tB at f;obtain⟨⟨d,Y⟩,h1,f⟩:=a_1 f;obtain⟨b',h2,f⟩:=a_1 f;have f':some (b',Y)=some (b,O):=f;cases f';refine w _ ⟨c,H0,ρ,d,_,R,h1,λ v H1 Hh s1 R1 Z=>?_⟩
 cases d with
 |bl k =>
  have e:k=b:=qi h2;unfold Rep at Z;exact⟨k,Z,by rw[e];exact q H1 Hh s1 R1⟩
 |_=>cases h2
theorem xt {op:CmpOp}{f:D->D->Option D} (o:s_9 X op f) (Y:XE X a F) (Z:XE X b G) (O:behindInMarks op b=false:=by first | exact az4 _ | with_unfolding_all rfl):XT X (.Compare a [op] [b] pos) (tB (e2 f F G)):=by
 obtain⟨r,h1,h2⟩:=o;exact PT.wk (aJ2 h1 Y Z O) λ σ H Q h=>aW2 (λ Q h=>T_5 h2 h) h
theorem aq1 {K:Frag}{op Z:D->D->Option D}{r r':R2} (o:OpD K r op) (o':OpD K r' Z) {σ:L2.St}{H:Hp}{Q:VK} (h:tE K (e3 op Z F G L) σ H Q):ay4 r r' (tE K F) (tE K G) (tE K L) σ H Q:=by
 obtain⟨c,H0,ρ,d,aa,R,f,q⟩:=h;unfold e3 at f;obtain⟨⟨x,Y⟩,h1,f⟩:=a_1 f;obtain⟨⟨y,O⟩,h2,f⟩:=a_1 f;obtain⟨z,h3,f⟩:=a_1 f;obtain⟨k,h4,f⟩:=a_1 f;dsimp only at h2 h3 h4 f;refine⟨c,H0,ρ,x,Y,R,h1,λ vx H1 Hh s1 R1 r1=>?_⟩
 refine⟨c,H1,Y,y,O,R1,h2,λ vy H2 Hh2 s2 R2 r2=>?_⟩
 refine o c H2 Hh2 O σ x y z vx vy _ R2 (Rep.mono s2 x r1) r2 h3 λ v H3 Hh3 s3 R3 r3=>?_
 cases z with
 |bl k' =>
  have e:k'=k:=qi h4;subst e;unfold Rep at r3;refine⟨k',r3,?_⟩;cases k' with
  |false =>
   rw[if_neg Bool.false_ne_true] at f ⊢;have f':some (D.bl false,O)=some (d,aa):=f;cases f';exact q _ H3 Hh3 (s1.trans (s2.trans s3)) R3 (by unfold Rep;rfl)
  |true =>
   rw[if_pos rfl] at f ⊢;obtain⟨⟨w,ab⟩,h5,f⟩:=a_1 f;obtain⟨d',h6,f⟩:=a_1 f;dsimp only at h6 f;have f':some (d',ab)=some (d,aa):=f;cases f';refine⟨c,H3,O,w,_,R3,h5,λ vw H4 Hh4 s4 R4 r4=>?_⟩
   exact o' c H4 Hh4 _ σ y w d vy vw Q R4 (Rep.mono s4 y (Rep.mono s3 y r2)) r4 h6 λ v H5 Hh5 s5 R5 r5=>q v H5 Hh5 (s1.trans (s2.trans (s3.trans (s4.trans s5)))) R5 r5
 |_=>cases h4
theorem xt3 {op O:CmpOp}{f f':D->D->Option D}{m:Expr} (o:s_9 X op f) (o':s_9 X O f') (ha:XE X a F) (hb:XE X b G) (hc:XE X m L) (hm:lastMarks [op,O] [b,m]=false:=by with_unfolding_all rfl):XT X (.Compare a [op,O] [b,m] pos) (tB (e3 f f' F G L)):=by
 obtain⟨r,h1,h2⟩:=o;obtain⟨r',Z,Y⟩:=o';exact PT.wk (ar9 h1 Z ha hb hc hm) λ σ H Q h=>aW2 (λ Q h=>aq1 h2 Y h) h
theorem xif {c:Expr} (hc:XT X c T) (ha:XE X a F) (hb:XE X b G):XE X (.IfExp c a b pos) (eIf T F G):=PE.wk (as5 hc ha hb) λ σ H Q Y=>by
 obtain⟨c,H0,ρ,d,Z,R,f,q⟩:=Y;unfold eIf at f;obtain⟨⟨k,O⟩,h1,f⟩:=a_1 f;dsimp only at f;refine⟨c,H0,ρ,k,O,R,h1,λ H1 Hh s1 R1=>?_⟩
 cases k with
 |true =>
  rw[if_pos rfl] at f ⊢;exact⟨c,H1,O,d,Z,R1,f,λ v H2 Hh2 s2 R2 r2=>q v H2 Hh2 (s1.trans s2) R2 r2⟩
 |false =>
  rw[if_neg Bool.false_ne_true] at f ⊢;exact⟨c,H1,O,d,Z,R1,f,λ v H2 Hh2 s2 R2 r2=>q v H2 Hh2 (s1.trans s2) R2 r2⟩
theorem aR1 {op} (h:XE X a F):XE X (.BoolOp op [a] pos) F:=aZ4 h
variable {rest:List Expr}
theorem bh9 (ha:XE X a F) (hb:XE X (.BoolOp .And (b::rest) pos) G):XE X (.BoolOp .And (a::b::rest) pos) (aP3 F G):=PE.wk (aZ8 ha hb) λ σ H Q Y=>by
 obtain⟨c,H0,ρ,d,Z,R,f,q⟩:=Y;unfold aP3 at f;obtain⟨⟨z,O⟩,h1,f⟩:=a_1 f;obtain⟨k,h2,f⟩:=a_1 f;dsimp only at h2 f;refine⟨c,H0,ρ,z,O,R,h1,λ v H1 Hh s1 R1 r1=>?_⟩
 cases z with
 |bl k' =>
  have e:k'=k:=qi h2;subst e;unfold Rep at r1;refine⟨k',r1,?_⟩;cases k' with
  |true =>
   rw[if_pos rfl] at f ⊢;exact⟨c,H1,O,d,Z,R1,f,λ v H2 Hh2 s2 R2 r2=>q v H2 Hh2 (s1.trans s2) R2 r2⟩
  |false =>
   rw[if_neg Bool.false_ne_true] at f ⊢;have f':some (D.bl false,O)=some (d,Z):=f;cases f';exact q _ H1 Hh s1 R1 (by unfold Rep;rfl)
 |_=>cases h2
theorem xor (ha:XE X a F) (hb:XE X (.BoolOp .Or (b::rest) pos) G):XE X (.BoolOp .Or (a::b::rest) pos) (eOr F G):=PE.wk (bq5 ha hb) λ σ H Q Y=>by
 obtain⟨c,H0,ρ,d,Z,R,f,q⟩:=Y;unfold eOr at f;obtain⟨⟨z,O⟩,h1,f⟩:=a_1 f;obtain⟨k,h2,f⟩:=a_1 f;dsimp only at h2 f;refine⟨c,H0,ρ,z,O,R,h1,λ v H1 Hh s1 R1 r1=>?_⟩
 cases z with
 |bl k' =>
  have e:k'=k:=qi h2;subst e;unfold Rep at r1;refine⟨k',r1,?_⟩;cases k' with
  |true =>
   rw[if_pos rfl] at f ⊢;have f':some (D.bl true,O)=some (d,Z):=f;cases f';exact q _ H1 Hh s1 R1 (by unfold Rep;rfl)
  |false =>
   rw[if_neg Bool.false_ne_true] at f ⊢;exact⟨c,H1,O,d,Z,R1,f,λ v H2 Hh2 s2 R2 r2=>q v H2 Hh2 (s1.trans s2) R2 r2⟩
 |_=>cases h2
theorem xw (h:XW X a T):XT X a T:=PW.pt h
theorem l_5 (O:XT X a T):XW X (.BoolOp .And [a] pos) T:=aI6 O
theorem w_5 (O:XT X a T):XW X (.BoolOp .Or [a] pos) T:=aY1 O
theorem o_3 (ha:XT X a T) (hb:XW X (.BoolOp .And (b::rest) pos) U):XW X (.BoolOp .And (a::b::rest) pos) (tAnd T U):=PW.wk (aY2 ha hb) λ σ H Q Y=>by
 obtain⟨c,H0,ρ,k,Z,R,f,q⟩:=Y;unfold tAnd at f;obtain⟨⟨k',O⟩,h1,f⟩:=a_1 f;dsimp only at f;refine⟨c,H0,ρ,k',O,R,h1,λ H1 Hh s1 R1=>?_⟩
 cases k' with
 |true =>
  rw[if_pos rfl] at f ⊢;exact⟨c,H1,O,k,Z,R1,f,λ H2 Hh2 s2 R2=>q H2 Hh2 (s1.trans s2) R2⟩
 |false =>
  rw[if_neg Bool.false_ne_true] at f ⊢;have f':some (false,O)=some (k,Z):=f;cases f';exact q H1 Hh s1 R1
theorem ac7 (ha:XT X a T) (hb:XW X (.BoolOp .Or (b::rest) pos) U):XW X (.BoolOp .Or (a::b::rest) pos) (tOr T U):=PW.wk (bq1 ha hb) λ σ H Q Y=>by
 obtain⟨c,H0,ρ,k,Z,R,f,q⟩:=Y;unfold tOr at f;obtain⟨⟨k',O⟩,h1,f⟩:=a_1 f;dsimp only at f;refine⟨c,H0,ρ,k',O,R,h1,λ H1 Hh s1 R1=>?_⟩
 cases k' with
 |true =>
  rw[if_pos rfl] at f ⊢;have f':some (true,O)=some (k,Z):=f;cases f';exact q H1 Hh s1 R1
 |false =>
  rw[if_neg Bool.false_ne_true] at f ⊢;exact⟨c,H1,O,k,Z,R1,f,λ H2 Hh2 s2 R2=>q H2 Hh2 (s1.trans s2) R2⟩
theorem ap6 (ha:XT X a T):XT X (.UnaryOp .Not a pos) (tNot T):=PT.wk (aY4 ha) λ σ H Q O=>by
 obtain⟨c,H0,ρ,k,Y,R,f,q⟩:=O;unfold tNot at f;obtain⟨⟨k',Z⟩,h1,f⟩:=a_1 f;have f':some (!k',Z)=some (k,Y):=f;cases f';exact⟨c,H0,ρ,k',_,R,h1,λ H1 Hh s1 R1=>q H1 Hh s1 R1⟩
theorem aV3 {K:Frag}{H0 H:Hp}{d:D}{v:V}{k:Bool} (s:Same H0 H) (r:Rep K H0 d v) (h:bf9 d=some k):by0 K v H k:=by
 cases d with
 |non=>unfold Rep at r;subst r;cases h;rfl
 |bl b=>unfold Rep at r;subst r;cases h;rfl
 |int i=>unfold Rep at r;subst r;cases h;rfl
 |str x=>cases h
 |opq=>cases h
 |dct ks vs=>cases h
 |tup ds =>
  unfold Rep at r;obtain⟨p,vs,rfl,q,t⟩:=r;have e:(!ds.isEmpty)=k:=qi h;have e2:ds.isEmpty=vs.isEmpty:=by rw[Bool.eq_iff_iff,List.isEmpty_iff_length_eq_zero,List.isEmpty_iff_length_eq_zero,t.length]
  exact .inr (.inl ⟨vs,Same.seqT s q,by rw[<- e2];exact e.symm⟩)
 |lst ds =>
  unfold Rep at r;obtain⟨p,vs,rfl,q,t⟩:=r;have e:(!ds.isEmpty)=k:=qi h;have e2:ds.isEmpty=vs.isEmpty:=by rw[Bool.eq_iff_iff,List.isEmpty_iff_length_eq_zero,List.isEmpty_iff_length_eq_zero,t.length]
  exact .inl ⟨vs,Same.seq s q,by rw[<- e2];exact e.symm⟩
theorem xtv (ha:XE X a F) (he:∀ O,isTrue a X.env O=(do let v <- O;standAt a.pos;holding [v] (truthy v))):XT X a (tV F):=PT.wk (ar8 ha he) λ σ H Q Y=>by
 obtain⟨c,H0,ρ,k,Z,R,f,q⟩:=Y;unfold tV at f;obtain⟨⟨d,aa⟩,h1,f⟩:=a_1 f;obtain⟨k',h2,f⟩:=a_1 f;have f':some (k',aa)=some (k,Z):=f;cases f';exact⟨c,H0,ρ,d,_,R,h1,λ v H1 Hh s1 R1 r1=>⟨k,aV3 R1.same r1 h2,q H1 Hh s1 R1⟩⟩
theorem xaN:XA X [] aN:=PA.wk o_1 λ σ H Q O=>by
 obtain⟨c,H0,ρ,ds,Y,R,f,q⟩:=O;have Z:some (([]:List D),ρ)=some (ds,Y):=f;cases Z;exact q [] H0 H (Same.refl _) R Reps.nil_
theorem xaC {es:List Expr}{A:FA} (ha:XE X e F) (hr:XA X es A) (hs:starEach (e::es) X.env=(false,eval e X.env)::starEach es X.env:=by rfl):XA X (e::es) (aC F A):=PA.wk (f_5 ha hr hs) λ σ H Q O=>by
 obtain⟨c,H0,ρ,ds,aa,R,f,q⟩:=O;unfold aC at f;obtain⟨⟨d,Y⟩,h1,f⟩:=a_1 f;obtain⟨⟨r,Z⟩,h2,f⟩:=a_1 f;have f':some (d::r,Z)=some (ds,aa):=f;cases f';refine⟨c,H0,ρ,d,Y,R,h1,λ v H1 Hh s1 R1 r1=>?_⟩
 refine⟨c,H1,Y,r,_,R1,h2,λ vs H2 Hh2 s2 R2 r2=>?_⟩
 exact q _ H2 Hh2 (s1.trans s2) R2 (Reps.cons (Rep.mono s2 d r1) r2)
theorem aG6 {n:Nat} (h:n<=1000):n<=sizeLine:=Nat.le_of_lt (w_7 h)
theorem j_4 {es:List Expr}{A:FA}{x1} (h:XA X es A):XE X (.Tuple es x1 pos) (h_2 A):=PE.wk (az2 h) λ σ H Q O=>by
 obtain⟨c,H0,ρ,d,aa,R,f,q⟩:=O;unfold h_2 at f;obtain⟨⟨ds,ab⟩,h1,f⟩:=a_1 f;dsimp only at f
 split at f
 ·rename_i hl
  cases f;refine⟨c,H0,ρ,ds,_,R,h1,λ vs H1 Hh s1 Y Z=>⟨by rw[<- Z.length];exact aG6 hl,λ p hp=>?_⟩⟩
  have S:=Step.alloc (o:=.tup vs) Y.same hp;refine q _ _ _ (s1.trans S.s0) (Y.after S) ?_;unfold Rep;exact⟨p,vs,rfl,.inl (.inl a_2),Reps.mono S.s0 ds Z⟩
 ·cases f
theorem Z_0 {es:List Expr}{A:FA} (h:XA X es A):XE X (.List es pos) (O_9 A):=PE.wk (az3 h) λ σ H Q O=>by
 obtain⟨c,H0,ρ,d,aa,R,f,q⟩:=O;unfold O_9 at f;obtain⟨⟨ds,ab⟩,h1,f⟩:=a_1 f;dsimp only at f
 split at f
 ·rename_i hl
  cases f;refine⟨c,H0,ρ,ds,_,R,h1,λ vs H1 Hh s1 Y Z=>⟨by rw[<- Z.length];exact aG6 hl,λ p hp=>?_⟩⟩
  have S:=Step.alloc (o:=.lst vs) Y.same hp;refine q _ _ _ (s1.trans S.s0) (Y.after S) ?_;unfold Rep;exact⟨p,vs,rfl,.inl (.inl a_2),Reps.mono S.s0 ds Z⟩
 ·cases f
theorem bg0:@dPl=@ixN:=rfl
theorem bh1 {K:Frag}{H:Hp}{ds:List D}{vs:List V}{i:Int}{d:D} (r:Reps K H ds vs) (h:atD ds i=some d):∃ v,atI vs i=some v/\Rep K H d v:=by
 unfold atD at h;obtain⟨j,h1,h2⟩:=a_1 (x:=dPl ds.length i) (f:=λ j=>ds[j]?) h
 obtain⟨v,e1,e2⟩:=r.get h2;refine⟨v,?_,e2⟩;unfold atI;rw[<- r.length,<- bg0,h1];exact e1
theorem PO.wk {X:Cx}{e:Option Expr}{t t':TO} (h:PO X e t) (w:∀ σ H Q,t' σ H Q->t σ H Q):PO X e t':=λ pins s σ H Q I q=>h pins s σ H Q I (w σ H Q q)
theorem xoN:XO X none oN:=PO.wk aJ5 λ σ H Q O=>by
 obtain⟨c,H0,ρ,o,Y,R,f,q⟩:=O;have Z:some ((none:Option Int),ρ)=some (o,Y):=f;cases Z;exact q H0 H (Same.refl _) R
theorem xoS (h:XE X e F):XO X (some e) (oS F):=PO.wk (aJ4 h) λ σ H Q O=>by
 obtain⟨c,H0,ρ,o,Y,R,f,q⟩:=O;unfold oS at f;obtain⟨⟨d,Z⟩,h1,f⟩:=a_1 f;obtain⟨i,h2,f⟩:=a_1 f;dsimp only at h2 f;have f':some (some i,Z)=some (o,Y):=f;cases f';refine⟨c,H0,ρ,d,_,R,h1,λ v H1 Hh s1 R1 r1=>?_⟩
 cases d with
 |int j =>
  have e:j=i:=qi h2;subst e;unfold Rep at r1;exact⟨j,r1,q H1 Hh s1 R1⟩
 |_=>cases h2
theorem I_1 (n d:Nat) (o:Option Int):N_8 n d o=HT.sIx n d o:=by cases o <;> rfl
theorem aC4 {K:Frag}{H:Hp}{ds:List D}{vs:List V} (r:Reps K H ds vs) (lo hi:Option Int):Reps K H (S_2 ds lo hi) (ap1 vs lo hi):=by
 unfold S_2 ap1;rw[I_1,I_1,r.length];exact (r.drop _).take _
end
section
variable {X:Cx}{K:Frag}
theorem x_6 {C:Int->Int->Prop}{g:Int->Int->V}{f:D->D->Option D} (h:∀ x y d,f x y=some d->∃ i j,x=.int i/\y=.int j/\C i j/\∀ H,Rep K H d (g i j)):OpD K (rI C g) f:=λ c H0 H ρ σ x y d vx vy Q R O Y e q=>by
 obtain⟨i,j,rfl,rfl,Z,hr⟩:=h x y d e;unfold Rep at O Y;exact⟨i,j,O,Y,Z,q _ H0 H (Same.refl _) R (hr H0)⟩
theorem w_0 {g:Int->Int->V}{f:D->D->Option D} (h:∀ x y d,f x y=some d->∃ i j,x=.int i/\y=.int j/\∀ H,Rep K H d (g i j)):OpD K (rI0 g) f:=λ c H0 H ρ σ x y d vx vy Q R O Y e q=>by
 obtain⟨i,j,rfl,rfl,Z⟩:=h x y d e;unfold Rep at O Y;exact⟨i,j,O,Y,q _ H0 H (Same.refl _) R (Z H0)⟩
theorem d_2 (H:Hp) (i:Int):Rep K H (.int i) (.int i):=by unfold Rep;rfl
theorem o_8 (H:Hp) (i:Bool):Rep K H (.bl i) (.bl i):=by unfold Rep;rfl
theorem ifs {c:Prop} [Decidable c] {α:Type}{a d:α} (h:(if c then some a else none)=some d):c/\a=d:=by
 by_cases O:c
 ·rw[if_pos O] at h;exact⟨O,qi h⟩
 ·rw[if_neg O] at h;cases h
theorem V_4:A_8 X .Sub N_7:=⟨_,ba2,w_0 λ x y d e=>by
 obtain⟨i,j,rfl,rfl,e⟩:=D_3 e;cases e;exact⟨_,_,rfl,rfl,λ H=>d_2 H _⟩⟩
noncomputable def CMulD (i j:Int):Prop:=m_8 i j=true
theorem u_7 {i:Int} (h:bx4 i=true):Builtin.Int.intBits i<=1000:=by
 have h:i.natAbs<2 ^ 1000:=of_decide_eq_true h;unfold Builtin.Int.intBits
 split
 ·exact Nat.zero_le _
 ·rename_i hz
  have hz:i≠0:=by simpa using hz
  have O:i.natAbs≠0:=by omega
  have:=(Nat.log2_lt O).mpr h;omega
theorem CMulD.ok {i j:Int} (h:CMulD i j):IntMulOk i j:=by
 unfold CMulD m_8 at h;simp only[Bool.or_eq_true,Bool.and_eq_true,decide_eq_true_eq] at h
 rcases h with (h | h) | ⟨h1,h2⟩
 ·exact IntMulOk.of_left (intBits_le_64 (by omega) (by omega))
 ·exact IntMulOk.of_right (intBits_le_64 (by omega) (by omega))
 ·unfold IntMulOk
  have Y:=u_7 h1;have O:=u_7 h2
  have:Builtin.Int.intTooBig ((Builtin.Int.intBits i:Int)+(Builtin.Int.intBits j:Int))=false:=by
   unfold Builtin.Int.intTooBig;refine decide_eq_false ?_;have:(2000:Int)<=bitsLine:=by decide
   omega
  simp[this]
theorem Q_7:A_8 X .Mult s_3:=⟨rI CMulD λ i j=>.int (i*j),opI λ _ _ _ _ _ _ _ O q=>mul_int q O.ok,x_6 λ x y d e=>by
 obtain⟨i,j,rfl,rfl,e⟩:=D_3 e;obtain⟨h,rfl⟩:=ifs (c:=m_8 i j=true) e;exact⟨_,_,rfl,rfl,h,λ H=>d_2 H _⟩⟩
noncomputable def bh4 (i j:Int):Prop:=G_4 j=true
theorem bA5:A_8 X .FloorDiv bk5:=⟨rI bh4 λ i j=>.int (i.fdiv j),opI λ i j _ _ _ _ _ O q=>by
  unfold bh4 G_4 at O;simp only[Bool.and_eq_true,decide_eq_true_eq] at O;refine floordiv_int O.1 q (.inl (PyProof.noPylong_of_log2 ?_));have Y:j.natAbs≠0:=by have:=O.1;omega
  have:=(Nat.log2_lt Y).mpr O.2
  omega,x_6 λ x y d e=>by
 obtain⟨i,j,rfl,rfl,e⟩:=D_3 e;obtain⟨h,rfl⟩:=ifs (c:=G_4 j=true) e;exact⟨_,_,rfl,rfl,h,λ H=>d_2 H _⟩⟩
theorem q_3:A_8 X .Mod l_4:=⟨_,aK6,x_6 λ x y d e=>by
 obtain⟨i,j,rfl,rfl,e⟩:=D_3 e;obtain⟨h,rfl⟩:=ifs (c:=j≠0) e;exact⟨_,_,rfl,rfl,h,λ H=>d_2 H _⟩⟩
theorem br3:A_8 X .Pow aP7:=⟨_,ba4,x_6 λ x y d e=>by
 obtain⟨i,j,rfl,rfl,e⟩:=D_3 e;obtain⟨h,rfl⟩:=ifs (c:=0<=j/\j<=64/\i.natAbs<2 ^ 64) e;exact⟨_,_,rfl,rfl,⟨h.1,by omega,h.2.2⟩,λ H=>d_2 H _⟩⟩
noncomputable def aY0 (K:Frag):R2:=λ x y H Q=>∃ l b xs zs,x=.ref l/\y=.ref b/\SqL K H l xs/\SqL K H b zs/\xs.length+zs.length<=sizeLine/\∀ p,H p=none->Q (.ref p) (upd H p (.lst (xs++zs)))
theorem aK8:OpR X (binaryOp .Add) (aY0 X.K):=by
 intro pins s σ H x y v u Q I rx ry h;obtain⟨l,b,xs,zs,rfl,rfl,hH,hB,hz,q⟩:=h;cases rx;cases ry;obtain⟨Y,r,pl,_⟩:=I.list hH;obtain⟨O,r2,ae,_⟩:=I.list hB;have hl:=r.length;have ah:=r2.length;obtain⟨⟨cls,dd,data,sl⟩,ho,hc,n,hd⟩:=pl.isList;obtain⟨⟨ag,ad,ac,af⟩,Z,aa,n2,ab⟩:=ae.isList;simp only at hc hd aa ab;subst hc hd aa ab;have e:Y.toArray++O.toArray=(Y++O).toArray:=by simp
 refine concat_meets ⟨_,ho,rfl⟩ ⟨_,Z,rfl⟩ noFill_list_add seq_list_add PySem.F.slot_list_add PySem.F.entry_list_add (PySem.F.args_list_add_2 _ _) (list_addW l b Y.toArray O.toArray n n2 dd ad sl af (by rw[List.size_toArray,List.size_toArray];omega)) ⟨ho,Z,?_⟩
 rw[e];exact⟨.ref _,_,I.lnew (t':=s.toks) (r.append r2) (by rw[List.length_append];omega),rfl,q _ I.fresh⟩
noncomputable def bq0 (K:Frag):R2:=λ x y H Q=>rI0 (λ i j=>.int (i+j)) x y H Q\/((∃ i j,x=.str i/\y=.str j/\i.length+j.length<=sizeLine/\Q (.str (i++j)) H)\/aY0 K x y H Q)
theorem i_1:A_8 X .Add e_9:=⟨bq0 X.K,op_add.or (op_add_str.or aK8),λ c H0 H ρ σ x y d vx vy Q R O Y e q=>by
 cases x with
 |int i =>
  cases y with
  |int j =>
   cases e;unfold Rep at O Y;exact .inl ⟨_,_,O,Y,q _ H0 H (Same.refl _) R (d_2 H0 _)⟩
  |_=>cases e
 |str i =>
  cases y with
  |str j =>
   obtain⟨h,rfl⟩:=ifs (c:=i.length+j.length<=sizeLine) e;unfold Rep at O Y;exact .inr (.inl ⟨_,_,O,Y,h,q _ H0 H (Same.refl _) R (by unfold Rep;rfl)⟩)
  |_=>cases e
 |lst ds =>
  cases y with
  |lst es =>
   obtain⟨h,rfl⟩:=ifs (c:=ds.length+es.length<=sizeLine) e;unfold Rep at O Y;obtain⟨p,vs,rfl,s,t⟩:=O;obtain⟨p2,Z,rfl,s2,t2⟩:=Y;refine .inr (.inr ⟨p,p2,vs,Z,rfl,rfl,Same.seq R.same s,Same.seq R.same s2,by rw[<- t.length,<- t2.length];exact h,λ p' hp=>?_⟩)
   have S:=Step.alloc (o:=.lst (vs++Z)) R.same hp;refine q _ _ _ S.s0 (R.after S) ?_;unfold Rep;exact⟨p',_,rfl,.inl (.inl a_2),Reps.mono S.s0 _ (t.app t2)⟩
  |_=>cases e
 |_=>cases y <;> cases e⟩
theorem bG5 {a:Expr}{F:FE}{pos:Pos} (ha:XE X a F):XE X (.UnaryOp .USub a pos) (e1 bw6 F):=PE.wk (aZ2 ay1 ha) λ σ H Q O=>by
 obtain⟨c,H0,ρ,d,Y,R,f,q⟩:=O;unfold e1 at f;obtain⟨⟨x,Z⟩,h1,f⟩:=a_1 f;obtain⟨d',h2,f⟩:=a_1 f;dsimp only at h2 f;have f':some (d',Z)=some (d,Y):=f;cases f';refine⟨c,H0,ρ,x,_,R,h1,λ v H1 Hh s1 R1 r1=>?_⟩
 cases x with
 |int i =>
  have e:D.int (-i)=d:=qi h2;subst e;unfold Rep at r1;exact⟨i,r1,q _ H1 Hh s1 R1 (d_2 _ _)⟩
 |_=>cases h2
theorem bk6 {p:Int->Int->Bool}:OpD K (rI0 λ i j=>.bl (p i j)) (bg4 p):=w_0 λ x y d e=>by
 obtain⟨i,j,rfl,rfl,e⟩:=D_3 e;cases e;exact⟨_,_,rfl,rfl,λ H=>o_8 H _⟩
theorem cLt:s_9 X .Lt dLt:=⟨_,bq9,bk6⟩
theorem cLe:s_9 X .LtE dLe:=⟨_,br0,bk6⟩
theorem cGt:s_9 X .Gt dGt:=⟨_,br1,bk6⟩
theorem cGe:s_9 X .GtE dGe:=⟨_,br2,bk6⟩
theorem aA6 {H:Hp}{x:D}{v:V} (r:Rep K H x v):isN x=decide (v=.non):=by
 cases x with
 |non=>unfold Rep at r;subst r;rfl
 |bl b=>unfold Rep at r;subst r;rfl
 |int b=>unfold Rep at r;subst r;rfl
 |str b=>unfold Rep at r;subst r;rfl
 |tup ds=>unfold Rep at r;obtain⟨p,vs,rfl,_⟩:=r;rfl
 |opq=>unfold Rep at r;obtain⟨p,rfl,_⟩:=r;rfl
 |dct ks vs=>unfold Rep at r;obtain⟨p,o,us,rfl,_⟩:=r;rfl
 |lst ds=>unfold Rep at r;obtain⟨p,vs,rfl,_⟩:=r;rfl
theorem cIs:s_9 X .Is dIs:=⟨_,ba6,λ c H0 H ρ σ x y d vx vy Q R Y O e q=>by
 cases y with
 |non =>
  have Z:D.bl (isN x)=d:=by cases x <;> exact qi e
  subst Z;unfold Rep at O;exact⟨O,by rw[<- aA6 Y];exact q _ H0 H (Same.refl _) R (o_8 _ _)⟩
 |_=>cases x <;> cases e⟩
theorem m_0:s_9 X .IsNot g_0:=⟨_,aK5,λ c H0 H ρ σ x y d vx vy Q R Y O e q=>by
 cases y with
 |non =>
  have Z:D.bl (!isN x)=d:=by cases x <;> exact qi e
  subst Z;unfold Rep at O;exact⟨O,by rw[<- aA6 Y];exact q _ H0 H (Same.refl _) R (o_8 _ _)⟩
 |_=>cases x <;> cases e⟩
end
theorem q_5:∀ (ds es:List D),r_4 ds es=((List.range (min ds.length es.length)).all (λ j=>eqD (ds.getD j .non) (es.getD j .non))&&ds.length==es.length)
 |[],[]=>by simp[r_4]
 |[],e::es=>by simp[r_4]
 |d::ds,[]=>by simp[r_4]
 |d::ds,e::es=>by
  rw[r_4,q_5 ds es];have h:min (d::ds).length (e::es).length=min ds.length es.length+1:=by simp only[List.length_cons];omega
  rw[h,List.range_succ_eq_map,List.all_cons,List.all_map];have h2:((d::ds).length==(e::es).length)=(ds.length==es.length):=by simp
  rw[h2,Bool.and_assoc];rfl
theorem t_5:∀ {ds:List D}{n:Nat}{j:Nat}{d:D},t_6 ds<=n->ds[j]?=some d->dpD d<=n
 |[],_,_,_,_,e=>by simp at e
 |d::ds,n,0,_,h,e=>by
  rw[l_2] at h;simp at e;subst e;omega
 |d::ds,n,j+1,d',h,e=>by
  rw[l_2] at h;exact t_5 (ds:=ds) (n:=n) (j:=j) (by omega) (by simpa using e)
section
variable {X:Cx}{pins:List (Addr×Obj)}{σ:L2.St}{H:Hp}{s:Shared}
theorem aM7 {ds es:List D}{vs:List V} (hd:Reps X.K H ds vs) (Z:Reps X.K H es vs) (h:∀ (j:Nat) (d e:D) (v:V),vs[j]?=some v->ds[j]?=some d->es[j]?=some e->Rep X.K H d v->Rep X.K H e v->eqD d e=true):r_4 ds es=true:=by
 rw[q_5];have l1:=hd.length;have l2:=Z.length;rw[Bool.and_eq_true,List.all_eq_true];refine⟨λ j hj=>?_,by simp;omega⟩
 have Y:j<ds.length:=by have:=List.mem_range.mp hj;omega
 have O:j<es.length:=by omega
 obtain⟨v,a1,a2⟩:=hd.get (i:=j) (d:=ds[j]) (by simp[Y])
 obtain⟨v',b1,b2⟩:=Z.get (i:=j) (d:=es[j]) (by simp[O])
 rw[a1] at b1;cases b1;have:=h j ds[j] es[j] v a1 (by simp[Y]) (by simp[O]) a2 b2
 simpa [List.getD,Y,O] using this
theorem bb6 (I:Inv X pins σ H s) {a:Addr}{xs ys:List V} (h:SqT X.K H a xs) (h':SqL X.K H a ys):False:=by
 obtain⟨_,_,⟨o,e,c,_⟩,_⟩:=I.tuple h;obtain⟨_,_,⟨o',n,O,Y,_⟩,_⟩:=I.list h';rw[e] at O;cases O;have z:=c.symm.trans Y;injection z with z
 exact absurd z (by decide)
theorem bN4 {ds:List D} (h:dpD (.tup ds)<1000):t_6 ds<999:=by rw[H_6] at h;omega
theorem bN5 {ds:List D} (h:dpD (.lst ds)<1000):t_6 ds<999:=by rw[H_7] at h;omega
theorem bE3 {ds:List D} (h:t_6 ds<999) {j:Nat}{d:D} (e:ds[j]?=some d):dpD d<1000:=by
 have:=t_5 (n:=998) (by omega) e
 omega
inductive Sh (X:Cx) (H:Hp) (s:Shared):D->V->Value->Prop
 |non:Sh X H s .non .non .none
 |bl (b:Bool):Sh X H s (.bl b) (.bl b) (.bool b)
 |int (i:Int) (t:Tok):Sh X H s (.int i) (.int i) (.int i t)
 |str (x:Str) (t:Tok):Sh X H s (.str x) (.str x) (.str x t)
 |tup {ds:List D}{p:Addr}{vs:List V}{its:List Value} (s1:SqT X.K H p vs) (q:Reps X.K H ds vs) (rv:Vals vs its) (tp:IsTup s.heap p its.toArray) (z:t_6 ds<999):Sh X H s (.tup ds) (.ref p) (.ref p)
 |lst {ds:List D}{p:Addr}{vs:List V}{its:List Value} (s1:SqL X.K H p vs) (q:Reps X.K H ds vs) (rv:Vals vs its) (tp:s.heap.IsList p its.toArray) (z:t_6 ds<999):Sh X H s (.lst ds) (.ref p) (.ref p)
theorem J_9 (I:Inv X pins σ H s) {d:D}{x:V}{u:Value} (hz:dpD d<1000) (r:Rep X.K H d x) (w:RelV x u):Sh X H s d x u:=by
 cases d with
 |opq=>exact absurd hz (by rw[aP4];omega)
 |dct ks vs=>exact absurd hz (by rw[aP5];omega)
 |non=>unfold Rep at r;subst r;cases (show u=Value.none from w);exact .non
 |bl b=>unfold Rep at r;subst r;cases (show u=Value.bool _ from w);exact .bl b
 |int i=>unfold Rep at r;subst r;obtain⟨t,rfl⟩:=w;exact .int i t
 |str i=>unfold Rep at r;subst r;obtain⟨t,rfl⟩:=w;exact .str i t
 |tup ds =>
  unfold Rep at r;obtain⟨p,vs,rfl,O,q⟩:=r;cases (show u=Value.ref _ from w);obtain⟨aa,Z,Y,_⟩:=I.tuple O;exact .tup O q Z Y (bN4 hz)
 |lst ds =>
  unfold Rep at r;obtain⟨p,vs,rfl,O,q⟩:=r;cases (show u=Value.ref _ from w);obtain⟨aa,Z,Y,_⟩:=I.list O;exact .lst O q Z Y.isList (bN5 hz)
theorem ae0 (I:Inv X pins σ H s):∀ (n:Nat) (d e:D) (v:V) (u:Value),dpD d<=n->dpD d<1000->dpD e<1000->Rep X.K H d v->Rep X.K H e v->RelV v u->eqD d e=true
 |n,d,e,v,u,Z,hz1,hz2,r1,r2,w=>by
  have go:∀ {ds es:List D}{vs:List V}{aa:List Value},t_6 ds+1<=n->t_6 ds<999->t_6 es<999->Reps X.K H ds vs->Reps X.K H es vs->Vals vs aa->r_4 ds es=true:=by
   intro ds es vs aa Z z1 z2 q1 q2 Y;cases n with
   |zero=>omega
   |succ n =>
    refine aM7 q1 q2 λ j d e v h0 h1 h2 a b=>?_
    obtain⟨u,_,w⟩:=Y.get h0;exact ae0 I n d e v u (t_5 (by omega) h1) (bE3 z1 h1) (bE3 z2 h2) a b w
  have k1:=J_9 I hz1 r1 w;have k2:=J_9 I hz2 r2 w
  clear r1 r2 w hz1 hz2
  cases k1 with
  |tup s1 q Y tp z=>cases k2 with
   |tup O q' ab ac z' =>
    cases I.tuple_inj s1 O;rw[H_6] at Z;rw[eqD];exact go Z z z' q q' Y
   |lst O=>exact (bb6 I s1 O).elim
  |lst s1 q Y tp z=>cases k2 with
   |lst O q' ab ac z' =>
    cases I.list_inj s1 O;rw[H_7] at Z;rw[eqD];exact go Z z z' q q' Y
   |tup O=>exact (bb6 I O s1).elim
  |_=>cases k2;simp[eqD]
noncomputable def RcN (X:Cx) (H:Hp) (s:Shared) (n:Nat):Prop:=∀ (A:Around) (d e:D) (x y:V) (u v:Value),dpD d<=n->dpD d<1000->dpD e<1000->A.units+n<cLine->Rep X.K H d x->RelV x u->Rep X.K H e y->RelV y v->SeqAt.RcAt A s u v (eqD d e)
noncomputable def EqN (X:Cx) (H:Hp) (s:Shared) (n:Nat):Prop:=∀ (A:Around) (d e:D) (x y:V) (u v:Value),dpD d<=n->dpD d<1000->dpD e<1000->A.units+n<cLine->Rep X.K H d x->RelV x u->Rep X.K H e y->RelV y v->SeqAt.EqAt A s u v (eqD d e)
theorem be7 (I:Inv X pins σ H s) {n:Nat} (rc:RcN X H s n):EqN X H s n:=by
 intro A d e x y u v hn Z aa hA r1 w1 r2 w2;have Y:A.units<cLine:=by omega
 have key:=rc A d e x y u v hn Z aa hA r1 w1 r2 w2;have one:x=y->eqD d e=true:=λ z=>ae0 I _ d e x u (qj _) Z aa r1 (z▸r2) w1
 have rf:∀ p1 p2,x=.ref p1->y=.ref p2->u=.ref p1->v=.ref p2->SeqAt.EqAt A s u v (eqD d e):=λ p1 p2 h1 h2 h3 h4=>by
  subst h1 h2 h3 h4
  by_cases h:p1=p2
  ·rw[one (by rw[h]),h];exact SeqAt.EqAt.same _
  ·exact SeqAt.EqAt.of_refs h key
 clear key one
 have k1:=J_9 I Z r1 w1;have k2:=J_9 I aa r2 w2;cases k1 with
 |non=>cases k2;exact SeqAt.EqAt.same _;exact SeqAt.EqAt.none_bool _;exact SeqAt.EqAt.none_int _ _;exact SeqAt.EqAt.none_str _ _;exact SeqAt.EqAt.none_tuple ‹_› Y;exact SeqAt.EqAt.none_list ‹_› Y
 |bl=>cases k2;exact SeqAt.EqAt.bool_none _;exact SeqAt.EqAt.bool_bool _ _;exact SeqAt.EqAt.bool_int _ _ _;exact SeqAt.EqAt.bool_str _ _ _;exact SeqAt.EqAt.bool_tuple _ ‹_› Y;exact SeqAt.EqAt.bool_list _ ‹_› Y
 |int=>cases k2;exact SeqAt.EqAt.int_none _ _;exact SeqAt.EqAt.int_bool _ _ _;exact SeqAt.EqAt.int_int _ _ _ _;exact SeqAt.EqAt.int_str _ _ _ _;exact SeqAt.EqAt.int_tuple _ _ ‹_› Y;exact SeqAt.EqAt.int_list _ _ ‹_› Y
 |str=>cases k2;exact SeqAt.EqAt.str_none _ _;exact SeqAt.EqAt.str_bool _ _ _;exact SeqAt.EqAt.str_int _ _ _ _;exact SeqAt.EqAt.str_str _ _ _ _;exact SeqAt.EqAt.str_tuple _ _ ‹_› Y;exact SeqAt.EqAt.str_list _ _ ‹_› Y
 |tup s1 q1 ab O=>cases k2;exact SeqAt.EqAt.tuple_none O Y;exact SeqAt.EqAt.tuple_bool _ O Y;exact SeqAt.EqAt.tuple_int _ _ O Y;exact SeqAt.EqAt.tuple_str _ _ O Y;exact rf _ _ rfl rfl rfl rfl;exact rf _ _ rfl rfl rfl rfl
 |lst s1 q1 ab O=>cases k2;exact SeqAt.EqAt.list_none O Y;exact SeqAt.EqAt.list_bool _ O Y;exact SeqAt.EqAt.list_int _ _ O Y;exact SeqAt.EqAt.list_str _ _ O Y;exact rf _ _ rfl rfl rfl rfl;exact rf _ _ rfl rfl rfl rfl
theorem ao1 {O:List Value}{j:Nat} (h:j<O.toArray.size):O[j]?=some O.toArray[j]:=by
 have h':j<O.length:=by simpa using h
 simp[h']
theorem H_1 {A:Around}{n:Nat} (aa:EqN X H s n) {ds es:List D}{vs Z:List V}{O its':List Value} (hn:t_6 ds<=n) (ab:t_6 ds<1000) (ac:t_6 es<1000) (hA:A.in1.units+n<cLine) (q1:Reps X.K H ds vs) (q2:Reps X.K H es Z) (rv:Vals vs O) (Y:Vals Z its')
  (j:Nat) (h1:j<O.toArray.size) (h2:j<its'.toArray.size):SeqAt.EqAt A.in1 s O.toArray[j] its'.toArray[j] (eqD (ds.getD j .non) (es.getD j .non)):=by
 have l1:=q1.length;have l2:=q2.length;have m1:=rv.length;have m2:=Y.length;have k1:j<ds.length:=by rw[List.size_toArray] at h1;omega
 have k2:j<es.length:=by rw[List.size_toArray] at h2;omega
 have e1:ds[j]?=some ds[j]:=by simp[k1]
 have e2:es[j]?=some es[j]:=by simp[k2]
 obtain⟨v,a1,a2⟩:=q1.get e1;obtain⟨v',b1,b2⟩:=q2.get e2;obtain⟨u,c1,c2⟩:=rv.get a1;obtain⟨u',d1,d2⟩:=Y.get b1;rw[ao1 h1] at c1;rw[ao1 h2] at d1;have g1:ds.getD j .non=ds[j]:=by simp[List.getD,k1]
 have g2:es.getD j .non=es[j]:=by simp[List.getD,k2]
 rw[g1,g2,Option.some.inj c1,Option.some.inj d1];exact aa A.in1 ds[j] es[j] v v' u u' (t_5 hn e1) (by have z:=t_5 (n:=999) (by omega) e1;omega) (by have z:=t_5 (n:=999) (by omega) e2;omega) hA a2 c2 b2 d2
theorem rcS (I:Inv X pins σ H s) (n:Nat) (ih:∀ m,m<n->EqN X H s m):RcN X H s n:=by
 intro A d e x y u v hn ab ac hA r1 w1 r2 w2;have Y:A.units<cLine:=by omega
 have hi:0<n->A.in1.units+(n-1)<cLine:=λ _=>by show A.units+1+(n-1)<cLine;omega
 have k1:=J_9 I ab r1 w1;have k2:=J_9 I ac r2 w2
 clear r1 r2 w1 w2
 cases k1 with
 |non=>cases k2;exact SeqAt.RcAt.none_none;exact SeqAt.RcAt.none_bool _;exact SeqAt.RcAt.none_int _ _;exact SeqAt.RcAt.none_str _ _;exact SeqAt.RcAt.none_tuple ‹_› Y;exact SeqAt.RcAt.none_list ‹_› Y
 |bl=>cases k2;exact SeqAt.RcAt.bool_none _;exact SeqAt.RcAt.bool_bool _ _;exact SeqAt.RcAt.bool_int _ _ _;exact SeqAt.RcAt.bool_str _ _ _;exact SeqAt.RcAt.bool_tuple _ ‹_› Y;exact SeqAt.RcAt.bool_list _ ‹_› Y
 |int=>cases k2;exact SeqAt.RcAt.int_none _ _;exact SeqAt.RcAt.int_bool _ _ _;exact SeqAt.RcAt.int_int _ _ _ _;exact SeqAt.RcAt.int_str _ _ _ _;exact SeqAt.RcAt.int_tuple _ _ ‹_› Y;exact SeqAt.RcAt.int_list _ _ ‹_› Y
 |str=>cases k2;exact SeqAt.RcAt.str_none _ _;exact SeqAt.RcAt.str_bool _ _ _;exact SeqAt.RcAt.str_int _ _ _ _;exact SeqAt.RcAt.str_str _ _ _ _;exact SeqAt.RcAt.str_tuple _ _ ‹_› Y;exact SeqAt.RcAt.str_list _ _ ‹_› Y
 |@tup ds p1 _ aa s1 q1 Z O z1 =>
  cases k2
  case tup es p2 _ its2 s2 q2 rv2 tp2 z2 =>
   rw[H_6] at hn;have z:=SeqAt.RcAt.tuples (e:=λ j=>eqD (ds.getD j .non) (es.getD j .non)) O tp2 Y (H_1 (A:=A) (ih (n-1) (by omega)) (by omega) (by omega) (by omega) (hi (by omega)) q1 q2 Z rv2)
   rw[List.size_toArray,List.size_toArray,<- Z.length,<- rv2.length,<- q1.length,<- q2.length] at z;rw[eqD,q_5];exact z
  exact SeqAt.RcAt.tuple_none O Y;exact SeqAt.RcAt.tuple_bool _ O Y;exact SeqAt.RcAt.tuple_int _ _ O Y;exact SeqAt.RcAt.tuple_str _ _ O Y;exact SeqAt.RcAt.tuple_list O ‹_› Y
 |@lst ds p1 _ aa s1 q1 Z O z1 =>
  cases k2
  case lst es p2 _ its2 s2 q2 rv2 tp2 z2 =>
   rw[H_7] at hn;have l1:aa.toArray.size=ds.length:=by rw[List.size_toArray,<- Z.length,<- q1.length]
   have l2:its2.toArray.size=es.length:=by rw[List.size_toArray,<- rv2.length,<- q2.length]
   rw[eqD,q_5]
   by_cases hl:ds.length=es.length
   ·have z:=SeqAt.RcAt.lists (e:=λ j=>eqD (ds.getD j .non) (es.getD j .non)) O tp2 (by rw[l1,l2];exact hl) Y (H_1 (A:=A) (ih (n-1) (by omega)) (by omega) (by omega) (by omega) (hi (by omega)) q1 q2 Z rv2)
    rw[l1] at z;rw[show min ds.length es.length=ds.length by omega,show (ds.length==es.length)=true by simp[hl],Bool.and_true]
    exact z
   ·rw[show (ds.length==es.length)=false by simp[hl],Bool.and_false]
    exact SeqAt.RcAt.lists_lengths O tp2 (by rw[l1,l2];simp[hl]) Y
  exact SeqAt.RcAt.list_none O Y;exact SeqAt.RcAt.list_bool _ O Y;exact SeqAt.RcAt.list_int _ _ O Y;exact SeqAt.RcAt.list_str _ _ O Y;exact SeqAt.RcAt.list_tuple O ‹_› Y
theorem X_2 (I:Inv X pins σ H s) (n:Nat):EqN X H s n:=by
 induction n using Nat.strongRecOn with
 |ind n O=>exact be7 I (rcS I n O)
theorem rcN (I:Inv X pins σ H s) (n:Nat):RcN X H s n:=rcS I n λ m _=>X_2 I m
noncomputable def bA4 (K:Frag):R2:=λ x y H Q=>∃ d e,Rep K H d x/\Rep K H e y/\dpD d<=30/\dpD e<=30/\Q (.bl (eqD d e)) H
theorem ba7 (hu:X.A.units+64<cLine):OpR X (compareOp .Eq) (bA4 X.K):=by
 intro pins s σ H x y v u Q I rx ry h;obtain⟨d,e,O,Z,hd,Y,q⟩:=h;exact rcN I 30 X.A d e x y v u hd (by omega) (by omega) (by omega) O rx Z ry X.prog X.w X.xe _ ⟨.bl _,H,I,rfl,q⟩
theorem bu8 {K:Frag}:OpD K (bA4 K) dEq:=λ c H0 H ρ σ x y d vx Z Q R O Y e q=>by
 unfold dEq at e
 split at e
 ·rename_i hd
  cases e;exact⟨x,y,Rep.mono R.same x O,Rep.mono R.same y Y,hd.1,hd.2,q _ H0 H (Same.refl _) R (o_8 _ _)⟩
 ·cases e
theorem cEq (O:X.A.units+64<cLine):s_9 X .Eq dEq:=⟨_,ba7 O,bu8⟩
theorem neN (I:Inv X pins σ H s) (n:Nat) (A:Around) (d e:D) (x y:V) (u v:Value) (hn:dpD d<=n) (ab:dpD d<1000) (ac:dpD e<1000) (hA:A.units+n<cLine) (r1:Rep X.K H d x) (w1:RelV x u) (r2:Rep X.K H e y) (w2:RelV y v):SeqAt.RcNeAt A s u v (!eqD d e):=by
 have Y:A.units<cLine:=by omega
 have hi:0<n->A.in1.units+(n-1)<cLine:=λ _=>by show A.units+1+(n-1)<cLine;omega
 have k1:=J_9 I ab r1 w1;have k2:=J_9 I ac r2 w2
 clear r1 r2 w1 w2
 cases k1 with
 |non=>cases k2;exact SeqAt.RcNeAt.none_none;exact SeqAt.RcNeAt.none_bool _;exact SeqAt.RcNeAt.none_int _ _;exact SeqAt.RcNeAt.none_str _ _;exact SeqAt.RcNeAt.none_tuple ‹_› Y;exact SeqAt.RcNeAt.none_list ‹_› Y
 |bl=>cases k2;exact SeqAt.RcNeAt.bool_none _;exact SeqAt.RcNeAt.bool_bool _ _;exact SeqAt.RcNeAt.bool_int _ _ _;exact SeqAt.RcNeAt.bool_str _ _ _;exact SeqAt.RcNeAt.bool_tuple _ ‹_› Y;exact SeqAt.RcNeAt.bool_list _ ‹_› Y
 |int=>cases k2;exact SeqAt.RcNeAt.int_none _ _;exact SeqAt.RcNeAt.int_bool _ _ _;exact SeqAt.RcNeAt.int_int _ _ _ _;exact SeqAt.RcNeAt.int_str _ _ _ _;exact SeqAt.RcNeAt.int_tuple _ _ ‹_› Y;exact SeqAt.RcNeAt.int_list _ _ ‹_› Y
 |str=>cases k2;exact SeqAt.RcNeAt.str_none _ _;exact SeqAt.RcNeAt.str_bool _ _ _;exact SeqAt.RcNeAt.str_int _ _ _ _;exact SeqAt.RcNeAt.str_str _ _ _ _;exact SeqAt.RcNeAt.str_tuple _ _ ‹_› Y;exact SeqAt.RcNeAt.str_list _ _ ‹_› Y
 |@tup ds p1 _ aa s1 q1 Z O z1 =>
  cases k2
  case tup es p2 _ its2 s2 q2 rv2 tp2 z2 =>
   rw[H_6] at hn;have z:=SeqAt.RcNeAt.tuples (e:=λ j=>eqD (ds.getD j .non) (es.getD j .non)) O tp2 Y (H_1 (A:=A) (X_2 I (n-1)) (by omega) (by omega) (by omega) (hi (by omega)) q1 q2 Z rv2)
   rw[List.size_toArray,List.size_toArray,<- Z.length,<- rv2.length,<- q1.length,<- q2.length] at z;rw[eqD,q_5];exact z
  exact SeqAt.RcNeAt.tuple_none O Y;exact SeqAt.RcNeAt.tuple_bool _ O Y;exact SeqAt.RcNeAt.tuple_int _ _ O Y;exact SeqAt.RcNeAt.tuple_str _ _ O Y;exact SeqAt.RcNeAt.tuple_list O ‹_› Y
 |@lst ds p1 _ aa s1 q1 Z O z1 =>
  cases k2
  case lst es p2 _ its2 s2 q2 rv2 tp2 z2 =>
   rw[H_7] at hn;have l1:aa.toArray.size=ds.length:=by rw[List.size_toArray,<- Z.length,<- q1.length]
   have l2:its2.toArray.size=es.length:=by rw[List.size_toArray,<- rv2.length,<- q2.length]
   rw[eqD,q_5]
   by_cases hl:ds.length=es.length
   ·have z:=SeqAt.RcNeAt.lists (e:=λ j=>eqD (ds.getD j .non) (es.getD j .non)) O tp2 (by rw[l1,l2];exact hl) Y (H_1 (A:=A) (X_2 I (n-1)) (by omega) (by omega) (by omega) (hi (by omega)) q1 q2 Z rv2)
    rw[l1] at z;rw[show min ds.length es.length=ds.length by omega,show (ds.length==es.length)=true by simp[hl],Bool.and_true]
    exact z
   ·rw[show (ds.length==es.length)=false by simp[hl],Bool.and_false]
    exact SeqAt.RcNeAt.lists_lengths O tp2 (by rw[l1,l2];simp[hl]) Y
  exact SeqAt.RcNeAt.list_none O Y;exact SeqAt.RcNeAt.list_bool _ O Y;exact SeqAt.RcNeAt.list_int _ _ O Y;exact SeqAt.RcNeAt.list_str _ _ O Y;exact SeqAt.RcNeAt.list_tuple O ‹_› Y
noncomputable def bA0 (K:Frag):R2:=λ x y H Q=>∃ d e,Rep K H d x/\Rep K H e y/\dpD d<=30/\dpD e<=30/\Q (.bl (!eqD d e)) H
theorem ba5 (hu:X.A.units+64<cLine):OpR X (compareOp .NotEq) (bA0 X.K):=by
 intro pins s σ H x y v u Q I rx ry h;obtain⟨d,e,O,Z,hd,Y,q⟩:=h;exact neN I 30 X.A d e x y v u hd (by omega) (by omega) (by omega) O rx Z ry X.prog X.w X.xe _ ⟨.bl _,H,I,rfl,q⟩
theorem br9 {K:Frag}:OpD K (bA0 K) dNe:=λ c H0 H ρ σ x y d vx Z Q R O Y e q=>by
 unfold dNe at e
 split at e
 ·rename_i hd
  cases e;exact⟨x,y,Rep.mono R.same x O,Rep.mono R.same y Y,hd.1,hd.2,q _ H0 H (Same.refl _) R (o_8 _ _)⟩
 ·cases e
theorem cNe (O:X.A.units+64<cLine):s_9 X .NotEq dNe:=⟨_,ba5 O,br9⟩
end
section
variable {X:Cx}
noncomputable def BOk (X:Cx) (f:Value) (g:List D->Option D):Prop:=∃ r,CallR X f r/\∀ (c:FC) (H0 H:Hp) (ρ:En) (σ:L2.St) (ds:List D) (d:D) (vs:List V) (Q:VK),RS X.K c H0 H ρ σ->Reps X.K H0 ds vs->g ds=some d->Aft X.K c H0 ρ σ d Q->r vs H Q
theorem bf5 {g:List D->Option D}{A:FA}{r:List V->Hp->VK->Prop} (o:∀ (c:FC) (H0 H:Hp) (ρ:En) (σ:L2.St) (ds:List D) (d:D) (vs:List V) (Q:VK),RS X.K c H0 H ρ σ->Reps X.K H0 ds vs->g ds=some d->Aft X.K c H0 ρ σ d Q->r vs H Q)
  {σ:L2.St}{H:Hp}{Q:VK} (h:tE X.K (eF g A) σ H Q):tCB r (tAa X.K A) σ H Q:=by
 obtain⟨c,H0,ρ,d,O,R,f,q⟩:=h;unfold eF at f;obtain⟨⟨ds,Y⟩,h1,f⟩:=a_1 f;obtain⟨d',h2,f⟩:=a_1 f;have f':some (d',Y)=some (d,O):=f;cases f';exact⟨c,H0,ρ,ds,_,R,h1,λ vs H1 Hh s1 R1 r1=>o c H1 Hh _ σ ds d vs Q R1 r1 h2 λ v H2 Hh2 Z R2 r2=>q v H2 Hh2 (s1.trans Z) R2 r2⟩
theorem xB {id:String}{g:List D → Option D}{A:FA}{x:Str}{p pos:Pos}{e:Expr}{es:List Expr} (o:BOk X (.builtin id) g) (hg:Gl X x) (hm:X.mg x=none) (hv:bootBuiltins x=some (.builtin id)) (ha:XA X (e::es) A) (hn:x≠"__name__":=by decide) (Y:(x==("__debug__":Str))=false:=by decide)
  (Z:starEach (e::es) X.env=(false,eval e X.env)::starEach es X.env:=by rfl) (O:(backTo pos (starEach es X.env)).any (·.1)=false:=by rfl):XE X (.Call (.Name x p) (e::es) [] pos) (eF g A):=by
 obtain⟨r,h1,h2⟩:=o;exact PE.wk (F_5 h1 hg hm hv ha hn Y Z O) λ σ H Q h=>bf5 h2 h
theorem Reps.v1 {K:Frag}{H:Hp}{d:D}{vs:List V} (h:Reps K H [d] vs):∃ v,vs=[v]/\Rep K H d v:=by
 unfold Reps at h;obtain⟨v,r,e,a,b⟩:=h;unfold Reps at b;exact⟨v,by rw[e,b],a⟩
theorem Reps.v2 {K:Frag}{H:Hp}{d d':D}{vs:List V} (h:Reps K H [d,d'] vs):∃ v O,vs=[v,O]/\Rep K H d v/\Rep K H d' O:=by
 unfold Reps at h;obtain⟨v,r,e,a,b⟩:=h;obtain⟨O,Z,Y⟩:=Reps.v1 b;exact⟨v,O,by rw[e,Z],a,Y⟩
theorem aw6 {ds:List D}{d:D} (h:ap2 ds=some d):∃ i,ds=[.int i]/\d=.int (if i<0 then -i else i):=by
 unfold ap2 at h
 split at h
 ·cases h;exact⟨_,rfl,rfl⟩
 ·cases h
theorem t_9:BOk X (.builtin "abs") ap2:=⟨_,aw0,λ c H0 H ρ σ ds d vs Q R r e q=>by
 obtain⟨i,rfl,rfl⟩:=aw6 e;obtain⟨v,rfl,O⟩:=Reps.v1 r;unfold Rep at O;subst O;exact⟨i,rfl,q _ H0 H (Same.refl _) R (d_2 _ _)⟩⟩
theorem H_2 {K:Frag}{H:Hp}:∀ {ds:List D}{is:List Int}{vs:List V},D_8 ds=some is->Reps K H ds vs->vs=is.map V.int
 |[],_,_,e,r=>by
  have O:([]:List Int)=_:=qi e;unfold Reps at r;rw[r,<- O];rfl
 |d::ds,_,_,e,r=>by
  cases d with
  |int i =>
   rw[R_5] at e;obtain⟨is,e1,e2⟩:=a_1 e;cases e2;unfold Reps at r;obtain⟨v,Y,rfl,a,t⟩:=r;unfold Rep at a;rw[a,H_2 e1 t];rfl
  |_=>cases e
theorem intsAre_of:∀ {is:List Int}{us:List Value},Vals (is.map V.int) us->IntsAre us is:=by
 intro is
 induction is with
 |nil=>intro us h;cases h;exact .nil
 |cons b r O =>
  intro us h;cases h with
  |cons a t=>obtain⟨tk,rfl⟩:=(show ∃ t,_=Value.int b t from a);exact .cons b tk (O t)
theorem M_6:∀ (r:List Int) (m:Int),(aa1 m r=m\/aa1 m r∈r)/\aa1 m r<=m/\∀ a∈r,aa1 m r<=a
 |[],m=>⟨.inl rfl,Int.le_refl _,λ a h=>by cases h⟩
 |x::r,m=>by
  obtain⟨h1,h2,Y⟩:=M_6 r (if x<m then x else m);rw[show aa1 m (x::r)=aa1 (if x<m then x else m) r from rfl]
  by_cases h:x<m
  ·rw[if_pos h] at h1 h2 Y ⊢
   refine⟨.inr ?_,by omega,λ a O=>?_⟩
   ·rcases h1 with e | e
    ·rw[e];exact qf
    ·exact qg _ e
   ·rcases qt O with rfl | O
    ·exact h2
    ·exact Y a O
  ·rw[if_neg h] at h1 h2 Y ⊢
   refine⟨?_,h2,λ a O=>?_⟩
   ·rcases h1 with e | e
    ·exact .inl e
    ·exact .inr (qg _ e)
   ·rcases qt O with rfl | O
    ·omega
    ·exact Y a O
theorem M_7:∀ (r:List Int) (m:Int),(aa2 m r=m\/aa2 m r∈r)/\m<=aa2 m r/\∀ a∈r,a<=aa2 m r
 |[],m=>⟨.inl rfl,Int.le_refl _,λ a h=>by cases h⟩
 |x::r,m=>by
  obtain⟨h1,h2,Y⟩:=M_7 r (if m<x then x else m);rw[show aa2 m (x::r)=aa2 (if m<x then x else m) r from rfl]
  by_cases h:m<x
  ·rw[if_pos h] at h1 h2 Y ⊢
   refine⟨.inr ?_,by omega,λ a O=>?_⟩
   ·rcases h1 with e | e
    ·rw[e];exact qf
    ·exact qg _ e
   ·rcases qt O with rfl | O
    ·exact h2
    ·exact Y a O
  ·rw[if_neg h] at h1 h2 Y ⊢
   refine⟨?_,h2,λ a O=>?_⟩
   ·rcases h1 with e | e
    ·exact .inl e
    ·exact .inr (qg _ e)
   ·rcases qt O with rfl | O
    ·omega
    ·exact Y a O
theorem ah3 {i M:Int}{r:List Int} (h:M∈i::r) (h':∀ a∈i::r,M<=a):M=aa1 i r:=by
 obtain⟨h1,h2,O⟩:=M_6 r i
 have Y:aa1 i r<=M:=by
  rcases qt h with rfl | h
  ·exact h2
  ·exact O _ h
 have Z:M<=aa1 i r:=by
  rcases h1 with e | e
  ·rw[e];exact h' _ qf
  ·exact h' _ (qg _ e)
 omega
theorem ah4 {i M:Int}{r:List Int} (h:M∈i::r) (h':∀ a∈i::r,a<=M):M=aa2 i r:=by
 obtain⟨h1,h2,O⟩:=M_7 r i
 have Y:M<=aa2 i r:=by
  rcases qt h with rfl | h
  ·exact h2
  ·exact O _ h
 have Z:aa2 i r<=M:=by
  rcases h1 with e | e
  ·rw[e];exact h' _ qf
  ·exact h' _ (qg _ e)
 omega
theorem am9 (hc:X.calm=true):CallR X (.builtin "min") (λ xs H Q=>∃ (p:Addr) (i:Int) (r:List Int),xs=[.ref p] ∧ SqL X.K H p ((i::r).map V.int) ∧ Q (.int (aa1 i r)) H):=by
 intro pins s σ H xs us Q I r h;obtain⟨l,i,is,rfl,hl,q⟩:=h;obtain⟨u,rfl,ru⟩:=r_0 r;cases ru;obtain⟨aa,rv,pl,hz⟩:=I.list hl;have hi:=intsAre_of rv;have Z:=pl.isList;obtain⟨ys,e⟩:=hi.allInts.items;have O:i::is=ys.toList.map (·.1):=by rw[<- hi.numsOf,<- nums_intItems,<- e]
 have hsz:0<ys.size:=by
  have Y:0<(i::is).length:=Nat.succ_pos _;rw[O,List.length_map,Array.length_toList] at Y;exact Y
 rw[e] at Z;refine min_intList (I.ok.hd hc) Z hsz λ v h' tk hv hk=>?_
 obtain⟨t,rfl⟩:=intItems_at hv;obtain⟨h1,h2⟩:=argBest_lt (numAt ys) (ys.size-1);refine⟨_,H,I.kept hk,?_,q⟩
 have:numAt ys (argBest (λ i j=>decide (numAt ys i<numAt ys j)) (ys.size-1))=aa1 i is:=ah3 (by rw[O,numAt_eq];exact getD_mem (by rw[List.length_map,Array.length_toList];omega)) λ a ha=>by
  rw[O] at ha;obtain⟨j,hj,rfl⟩:=mem_getD ha;rw[List.length_map,Array.length_toList] at hj;rw[<- numAt_eq];exact h2 j (by omega)
 rw[this];exact⟨_,rfl⟩
theorem an1 (hc:X.calm=true):CallR X (.builtin "max") (λ xs H Q=>∃ (p:Addr) (i:Int) (r:List Int),xs=[.ref p] ∧ SqL X.K H p ((i::r).map V.int) ∧ Q (.int (aa2 i r)) H):=by
 intro pins s σ H xs us Q I r h;obtain⟨l,i,is,rfl,hl,q⟩:=h;obtain⟨u,rfl,ru⟩:=r_0 r;cases ru;obtain⟨aa,rv,pl,hz⟩:=I.list hl;have hi:=intsAre_of rv;have Z:=pl.isList;obtain⟨ys,e⟩:=hi.allInts.items;have O:i::is=ys.toList.map (·.1):=by rw[<- hi.numsOf,<- nums_intItems,<- e]
 have hsz:0<ys.size:=by
  have Y:0<(i::is).length:=Nat.succ_pos _;rw[O,List.length_map,Array.length_toList] at Y;exact Y
 rw[e] at Z;refine max_intList (I.ok.hd hc) Z hsz λ v h' tk hv hk=>?_
 obtain⟨t,rfl⟩:=intItems_at hv;obtain⟨h1,h2⟩:=argBest_gt (numAt ys) (ys.size-1);refine⟨_,H,I.kept hk,?_,q⟩
 have:numAt ys (argBest (λ i j=>decide (numAt ys i > numAt ys j)) (ys.size-1))=aa2 i is:=ah4 (by rw[O,numAt_eq];exact getD_mem (by rw[List.length_map,Array.length_toList];omega)) λ a ha=>by
  rw[O] at ha;obtain⟨j,hj,rfl⟩:=mem_getD ha;rw[List.length_map,Array.length_toList] at hj;rw[<- numAt_eq];exact h2 j (by omega)
 rw[this];exact⟨_,rfl⟩
theorem CallR.or {X:Cx}{f:Value}{r O:List V->Hp->VK->Prop} (h:CallR X f r) (h':CallR X f O):CallR X f (λ xs H Q=>r xs H Q\/O xs H Q) :=
 λ pins s σ H xs us Q I v z=>z.elim (λ a=>h pins s σ H xs us Q I v a) (λ a=>h' pins s σ H xs us Q I v a)
theorem O_5 {f:Int->List Int->Int}{is:List Int}{d:D} (h:aQ6 f is=some d):∃ i r,is=i::r/\d=.int (f i r):=by
 cases is with
 |nil=>cases h
 |cons i r=>cases h;exact⟨i,r,rfl,rfl⟩
theorem S_7 (hc:X.calm=true):BOk X (.builtin "max") aU6:=⟨_,(an2 hc).or (an1 hc),λ c H0 H ρ σ ds d vs Q R r e q=>by
 unfold aU6 at e
 split at e
 ·cases e
  obtain⟨v,v',rfl,O,Z⟩:=Reps.v2 r;unfold Rep at O Z;subst O Z;exact .inl ⟨_,_,rfl,q _ H0 H (Same.refl _) R (d_2 _ _)⟩
 ·obtain⟨is,e1,e2⟩:=a_1 e
  obtain⟨i,is,rfl,rfl⟩:=O_5 e2;obtain⟨v,rfl,Y⟩:=Reps.v1 r;unfold Rep at Y;obtain⟨p,ws,rfl,s,t⟩:=Y;have:=H_2 e1 t;subst this;exact .inr ⟨p,i,is,rfl,Same.seq R.same s,q _ H0 H (Same.refl _) R (d_2 _ _)⟩
 ·cases e⟩
theorem aQ3 (hc:X.calm=true):BOk X (.builtin "min") bl0:=⟨_,(an0 hc).or (am9 hc),λ c H0 H ρ σ ds d vs Q R r e q=>by
 unfold bl0 at e
 split at e
 ·cases e
  obtain⟨v,v',rfl,O,Z⟩:=Reps.v2 r;unfold Rep at O Z;subst O Z;exact .inl ⟨_,_,rfl,q _ H0 H (Same.refl _) R (d_2 _ _)⟩
 ·obtain⟨is,e1,e2⟩:=a_1 e
  obtain⟨i,is,rfl,rfl⟩:=O_5 e2;obtain⟨v,rfl,Y⟩:=Reps.v1 r;unfold Rep at Y;obtain⟨p,ws,rfl,s,t⟩:=Y;have:=H_2 e1 t;subst this;exact .inr ⟨p,i,is,rfl,Same.seq R.same s,q _ H0 H (Same.refl _) R (d_2 _ _)⟩
 ·cases e⟩
noncomputable def tyN:Ty->String
 |.int=>"int" | .bool=>"bool" | .str=>"str" | .tuple=>"tuple" | .list=>"list" | .dict=>"dict"
noncomputable def tyV (d:D):Value:=match d with
 |.non=>.type "NoneType" | .bl _=>.type "bool" | .int _=>.type "int" | .str _=>.type "str" | .tup _=>.type "tuple" | .lst _=>.type "list" | .opq=>.type "NoneType" | .dct _ _=>.type "dict"
theorem bc3 (K:Frag) (t:Ty) (d:D):PySem.W.kitOne K (tyV d) (.type (tyN t))=some (aA5 t d):=by
 cases t <;> cases d <;> rfl
theorem av9 (t:Ty):CallR X (.builtin "isinstance") (λ xs H Q=>∃ d x,xs=[x,.ty (tyN t)] ∧ Rep X.K H d x ∧ isQ d=false ∧ Q (.bl (aA5 t d)) H):=by
 intro pins s σ H xs us Q I r h;obtain⟨d,x,rfl,O,nq,q⟩:=h;obtain⟨u,w,rfl,Y,Z⟩:=ap8 r;cases (show w=Value.type _ from Z);have k:=bc3 X.K t d;have fin:∀ tk,EP X pins σ Q (.bool (aA5 t d)) {s with toks:=tk}:=λ tk=>⟨.bl _,H,I.tok tk,rfl,q⟩
 cases d with
 |non=>unfold Rep at O;subst O;cases (show u=Value.none from Y);exact PySem.W.kia_one PySem.W.kitx_none I.kIn True.intro k (λ z=>nomatch z) fin
 |bl y=>unfold Rep at O;subst O;cases (show u=Value.bool y from Y);exact PySem.W.kia_one PySem.W.kitx_bool I.kIn True.intro k (λ z=>nomatch z) fin
 |int i=>unfold Rep at O;subst O;obtain⟨t,z⟩:=(show ∃ t,u=Value.int i t from Y);cases z;exact PySem.W.kia_one PySem.W.kitx_int I.kIn True.intro k (λ z=>nomatch z) fin
 |str y=>unfold Rep at O;subst O;obtain⟨t,z⟩:=(show ∃ t,u=Value.str y t from Y);cases z;exact PySem.W.kia_one PySem.W.kitx_str I.kIn True.intro k (λ z=>nomatch z) fin
 |tup ds =>
  unfold Rep at O;obtain⟨a,vs,rfl,s1,_⟩:=O;cases (show u=Value.ref a from Y);obtain⟨_,_,⟨o,h1,h2,_⟩,_⟩:=I.tuple s1;exact PySem.W.kia_one PySem.W.kitx_tuple I.kIn ⟨o,h1,h2⟩ k (λ z=>nomatch z) fin
 |dct ks ds =>
  unfold Rep at O;obtain⟨a,ob,us,rfl,ea,_⟩:=O;cases (show u=Value.ref a from Y);obtain⟨_,_,_,vs,_,pp⟩:=(show ObjOk X.prog X.w H s.heap a (.frz ob (.dK _)) from I.hok a _ ea);obtain⟨o,es,ep,h1,h2,_⟩:=pp;exact PySem.W.kia_one PySem.W.kitx_dict I.kIn ⟨o,h1,h2.1⟩ k (λ z=>nomatch z) fin
 |opq=>cases nq
 |lst ds =>
  unfold Rep at O;obtain⟨a,vs,rfl,s1,_⟩:=O;cases (show u=Value.ref a from Y);obtain⟨_,_,⟨o,n,h1,h2,_⟩,_⟩:=I.list s1;exact PySem.W.kia_one PySem.W.kitx_list I.kIn ⟨o,h1,h2⟩ k (λ z=>nomatch z) fin
theorem xty {t:Ty}{T:Str}{p O pos:Pos}{e:Expr}{F:FE} (hi:X.mg "isinstance"=none) (hm:X.mg T=none) (hT:bootBuiltins T=some (.type (tyN t))) (ha:XE X e F) (hg:Gl X "isinstance":=by rfl) (Z:Gl X T:=by rfl)
  (hn:T≠"__name__":=by decide) (hd:(T==("__debug__":Str))=false:=by decide) (hs:starEach [e,.Name T O] X.env=(false,eval e X.env)::starEach [.Name T O] X.env:=by rfl) (ab:starEach [.Name T O] X.env=[(false,eval (.Name T O) X.env)]:=by rfl)
  (aa:(backTo pos (starEach [.Name T O] X.env)).any (·.1)=false:=by rfl):XE X (.Call (.Name "isinstance" p) [e,.Name T O] [] pos) (eTy t F) :=
 PE.wk (F_5 (av9 t) hg hi PyProof.Rows.boot_isinstance (f_5 ha (f_5 (aK4 (v:=.ty (tyN t)) Z hm hT rfl hn hd) o_1 ab) hs) (by decide) (by decide) hs aa) λ σ H Q Y=>by
  obtain⟨c,H0,ρ,d,ac,R,f,q⟩:=Y;unfold eTy at f;obtain⟨⟨x,ad⟩,h1,f⟩:=a_1 f;dsimp only at f
  by_cases hq:isQ x=true
  ·rw[if_pos hq] at f;cases f
  ·rw[if_neg hq] at f
   cases f;exact⟨c,H0,ρ,x,_,R,h1,λ v H1 Hh s1 R1 r1=>⟨x,v,rfl,Rep.mono R1.same x r1,Bool.eq_false_iff.mpr hq,q _ H1 Hh s1 R1 (o_8 _ _)⟩⟩
noncomputable def spP (K:Frag) (g:List D->Option D):Sp:=λ vs H Q _=>∃ O ds d,Same O H/\Reps K O ds vs/\g ds=some d/\∀ v Hi' H',Step O H Hi' H'->Rep K Hi' d v->Q v H'
structure DefOk (P:Program) (w:World) (K:Frag) (mg:Str->Option Value) (base:Heap) (k:Nat) (x:Str) (g:List D->Option D):Prop where
 ex:∃ f fd ps,FnOk P w K mg base CX0 k f fd ps (spP K g)/\Binds K fd ps []/\keepIn K (.ref f)=true/\mg x=some (.ref f)
theorem xF {k:Nat}{x:Str}{g:List D → Option D}{A:FA}{p pos:Pos}{e:Expr}{es:List Expr} (G:DefOk X.prog X.w X.K X.mg X.base k x g) (hr:Room k X.A) (ha:XA X (e::es) A) (hg:Gl X x:=by rfl) (Z:(x==("__debug__":Str))=false:=by decide)
  (he:starEach (e::es) X.env=(false,eval e X.env)::starEach es X.env:=by rfl) (Y:(backTo pos (starEach es X.env)).any (·.1)=false:=by rfl):XE X (.Call (.Name x p) (e::es) [] pos) (eF g A):=by
 obtain⟨f,fd,ps,F,hb,hk,hm⟩:=G.ex;refine PE.wk (af1 F hr hg hm hk hb .nil af2 ha Z he Y) λ σ H Q O=>?_
 obtain⟨c,H0,ρ,d,aa,R,z,q⟩:=O;unfold eF at z;obtain⟨⟨ds,ab⟩,h1,z⟩:=a_1 z;obtain⟨d',h2,z⟩:=a_1 z;have z':some (d',ab)=some (d,aa):=z;cases z';exact⟨c,H0,ρ,ds,_,R,h1,λ vs H1 Hh s1 R1 r1=>⟨H1,ds,d,R1.same,by rw[List.append_nil];exact r1,h2,λ v Hi' H' S rv=>q v Hi' H' (s1.trans S.s0) (R1.after S) rv⟩⟩
end
noncomputable def v_0 (K:Frag) (J:It) (H1:Hp) (xs:List D):Prop:=∀ (H0 H:Hp) (i:Nat),Same H1 H0->Same H0 H ->
 (∀ d,xs[i]?=some d->J.go i H/\∀ x H',J.yld i H x H'->H'=H/\Rep K H0 d x)/\(xs.length<=i->J.stop i H)
theorem P_2 {K:Frag}{H1:Hp}{a:Addr}{vs:List V}{xs:List D} (rd:SqL K H1 a vs) (r:Reps K H1 xs vs):v_0 K (Itl K a) H1 xs:=λ H0 H i s s'=>by
 have O:SqL K H a vs:=Same.seq (s.trans s') rd;refine⟨λ d e=>?_,λ h=>⟨vs,O,by rw[<- r.length];exact h⟩⟩
 obtain⟨v,e1,e2⟩:=r.get e;refine⟨⟨vs,v,O,e1⟩,λ x H' ⟨h1,h2⟩=>⟨h1,?_⟩⟩
 have:=h2 vs O;rw[e1] at this;cases this;exact Rep.mono s d e2
theorem Y_7 {K:Frag}{H1:Hp}{a:Addr}{vs:List V}{xs:List D} (rd:SqT K H1 a vs) (r:Reps K H1 xs vs):v_0 K (Itt K a) H1 xs:=λ H0 H i s s'=>by
 have O:SqT K H a vs:=Same.seqT (s.trans s') rd;refine⟨λ d e=>?_,λ h=>⟨vs,O,by rw[<- r.length];exact h⟩⟩
 obtain⟨v,e1,e2⟩:=r.get e;refine⟨⟨vs,v,O,e1⟩,λ x H' ⟨h1,h2⟩=>⟨h1,?_⟩⟩
 have:=h2 vs O;rw[e1] at this;cases this;exact Rep.mono s d e2
theorem x_0:∀ (n:Nat) (lo:Int),(r_1 lo n).length=n
 |0,_=>rfl
 |n+1,lo=>by show (r_1 (lo+1) n).length+1=n+1;rw[x_0 n]
theorem U_8:∀ (n:Nat) (lo:Int) (i:Nat) (d:D),(r_1 lo n)[i]?=some d->d=.int (lo+i)/\i<n
 |0,lo,i,d,h=>by simp[r_1] at h
 |n+1,lo,0,d,h=>by
  simp[r_1] at h;exact⟨by rw[<- h];simp,by omega⟩
 |n+1,lo,i+1,d,h=>by
  have h':(r_1 (lo+1) n)[i]?=some d:=by simpa [r_1] using h
  obtain⟨a,b⟩:=U_8 n (lo+1) i d h';refine⟨by rw[a];congr 1;push_cast;omega,by omega⟩
theorem t_0 {K:Frag}{H1:Hp} (lo:Int) (n:Nat):v_0 K (Itr lo n) H1 (r_1 lo n):=λ H0 H i s s'=>by
 refine⟨λ d e=>?_,λ h=>by rw[x_0] at h;exact h⟩
 obtain⟨rfl,hi⟩:=U_8 n lo i d e;refine⟨hi,λ x H' ⟨h1,h2⟩=>⟨h1,?_⟩⟩
 unfold Rep;exact h2
noncomputable def Its (z:Str):It:=⟨λ i _=>i<z.cps.size,λ i H x H'=>H'=H/\∃ c,z.cps[i]?=some c/\x=.str (chS c),λ i _=>z.cps.size<=i⟩
theorem T_6 {P:Program}{w:World}{K:Frag}{tg:Expr}{n:String} (z:Str) (t:Tok) (it:Addr) (hn:["enumerate","zip","dict_itemiterator","dict_reverseitemiterator","odict_iterator","itertools.zip_longest","itertools.pairwise"].contains n=false)
  (W:∀ A:Around,A.handled=none->Walks P w A it [it] [it] z.cps.size (SignAt z) (λ i h=>h.IsStrIter it n z t i)) (fin:∀ (A:Around) (s:Shared) (i:Nat) (Q:Option Value->Shared->Prop) (E:Value->Shared->Prop),A.handled=none->s.heap.IsStrIter it n z t i->z.cps[i]?=none->(∀ h',Heap.ExtBut it s.heap h'->Q none {s with heap:=h'})->wpAny (model P w) A (pyNext (.ref it)) Q E s)
  (aa:∀ (A:Around) (i:Nat) (s:Shared) (Q:Value->Shared->Prop) (E:Value->Shared->Prop),s.heap.IsStrIter it n z t i->Q (.ref it) s->wpAny (model P w) A (pyIter (.ref it)) Q E s) :
  Turn P w K tg (Its z) [it] it (λ i h=>h.IsStrIter it n z t i) where
 mem:=by simp
 obj:=λ i h st b O=>by
  have e:b=it:=by simpa using O
  subst e;obtain⟨o,e,c,d⟩:=st;exact⟨o,e,λ v z=>by rw[d] at z;cases z⟩
 keep:=λ i h h' st k=>let ⟨o,e,r⟩:=st;⟨o,k it (by simp) o e,r⟩
 item:=by
  intro X hP hw hK hc i pins s σ H E I hf st Y;subst hP hw hK;obtain⟨f0,f1,f2,f3,f4,f5⟩:=hf it (by simp)
  refine (W X.A (I.ok.hd hc)).item i s _ _ Y st λ v h' tk hv Z kk=>?_
  obtain⟨ch,u,e1,rfl⟩:=hv;have I1:Inv X pins σ H {s with heap:=h',toks:=tk}:=I.turned (λ b o O e=>kk b o (by simpa using O) e) f0 f1 f3 f4 f5
  obtain⟨o,e,c,d⟩:=id Z;exact⟨_,rfl,aj6 (s:={s with heap:=h',toks:=tk}) e c d hn ⟨.str (chS ch),H,I1,⟨u,rfl⟩,⟨rfl,ch,e1,rfl⟩,Z,λ b O=>(hf b O).1⟩⟩
 done:=by
  intro X hP hw hK hc i pins s σ H E I hf st Y;subst hP hw hK;obtain⟨f0,f1,f2,f3,f4,f5⟩:=hf it (by simp)
  have Y:z.cps.size<=i:=Y;exact fin X.A s i _ _ (I.ok.hd hc) st (by simp[Y]) λ h' eb=>⟨rfl,I.turned (t':=s.toks) (λ b o O e=>eb b o O e) f0 f1 f3 f4 f5⟩
 self:=λ A i s Q E st h=>aa A i s Q E st h
noncomputable def bC1 (t:TE):TI:=λ σ H R=>t σ H λ x H1=>∃ z,x=.str z/\R (Its z) H1
noncomputable def iSq (K:Frag) (t:TE):TI:=λ σ H R=>bd7 K t σ H R\/bC0 K t σ H R\/bC1 t σ H R
theorem aY9 {X:Cx}{tg l:Expr}{tl:TE} (hl:PE X l tl):PI X tg l (bC1 tl):=by
 intro pins s σ H R I h;refine thn (hl pins s σ H _ I h) λ v O=>ex5 λ x H1 Z r1 q1=>?_
 obtain⟨z,e,q⟩:=q1;subst e;obtain⟨t,rfl⟩:=r1
 have fp:∀ (o:Obj),∀ b∈[O.heap.objs.size],Y_6 X pins H1 b:=λ o b hb=>by
  have e:b=O.heap.objs.size:=by simpa using hb
  subst e;exact Z.fpOk (qj _) (Z.hok.fresh (qj _))
 cases ha:z.cps.all (·<128)
 ·refine wpAny_pyIter_wide ha ?_
  exact⟨O.heap.objs.size,[O.heap.objs.size],_,_,H1,rfl,Z.kept (t':=O.toks) λ b o e=>qd _ e,T_6 (n:="str_iterator") z t _ (by decide) (λ A Y=>Walks.strWide Y _ z t) (λ A s i Q E Y st hx hQ=>wpAny_pyNext_wide_end Y st hx hQ) (λ _ _ _ _ _ st h=>wpAny_pyIter_striter_wide st h),⟨_,qk _ rfl,rfl,rfl⟩,fp {cls:=.none,data:=.fields #[]},q⟩
 ·refine wpAny_pyIter_ascii ha ?_
  exact⟨O.heap.objs.size,[O.heap.objs.size],_,_,H1,rfl,Z.kept (t':=O.toks) λ b o e=>qd _ e,T_6 (n:="str_ascii_iterator") z t _ (by decide) (λ A Y=>Walks.strAscii Y _ z t) (λ A s i Q E Y st hx hQ=>wpAny_pyNext_ascii_end Y st hx hQ) (λ _ _ _ _ _ st h=>wpAny_pyIter_striter_ascii st h),⟨_,qk _ rfl,rfl,rfl⟩,fp {cls:=.none,data:=.fields #[]},q⟩
theorem Y_8 {K:Frag}{H1:Hp} (z:Str):v_0 K (Its z) H1 (chs z):=λ H0 H i s s'=>by
 have O:(chs z).length=z.cps.size:=by unfold chs;rw[List.length_map,Array.length_toList]
 refine⟨λ d e=>?_,λ h=>by rw[O] at h;exact h⟩
 have hi:i<z.cps.size:=by rw[<- O];exact (List.getElem?_eq_some_iff.mp e).1
 refine⟨hi,λ x H' ⟨h1,ch,h2,Z⟩=>⟨h1,?_⟩⟩
 unfold chs at e;rw[List.getElem?_map,Array.getElem?_toList,h2] at e;have Y:D.str (chS ch)=d:=qi e;subst Y;unfold Rep;exact Z
theorem aJ6 {X:Cx}{tg l:Expr}{tl:TE} (O:PE X l tl):PI X tg l (iSq X.K tl):=λ pins s σ H R I h=>by
 rcases h with h | h | h
 ·exact aJ7 O pins s σ H R I h
 ·exact aY8 O pins s σ H R I h
 ·exact aY9 O pins s σ H R I h
theorem o_5 {K:Frag}{F:FE}{σ:L2.St}{H:Hp}{R:It->Hp->Prop}{c:FC}{H0:Hp}{ρ O:En}{d:D}{xs:List D} (rs:RS K c H0 H ρ σ) (f:F ρ=some (d,O)) (hx:items d=some xs)
  (h:∀ J H1 Hh,Same H0 H1->RS K c H1 Hh O σ->v_0 K J H1 xs->R J Hh):iSq K (tE K F) σ H R:=by
 cases d with
 |lst ds =>
  have e:ds=xs:=qi hx;subst e;refine .inl ⟨c,H0,ρ,_,O,rs,f,λ v H1 Hh s1 Z Y=>?_⟩
  unfold Rep at Y;obtain⟨a,vs,rfl,rd,r⟩:=Y;exact⟨a,rfl,⟨vs,Same.seq Z.same rd⟩,h _ H1 Hh s1 Z (P_2 rd r)⟩
 |tup ds =>
  have e:ds=xs:=qi hx;subst e;refine .inr (.inl ⟨c,H0,ρ,_,O,rs,f,λ v H1 Hh s1 Z Y=>?_⟩)
  unfold Rep at Y;obtain⟨a,vs,rfl,rd,r⟩:=Y;exact⟨a,rfl,⟨vs,Same.seqT Z.same rd⟩,h _ H1 Hh s1 Z (Y_7 rd r)⟩
 |str z =>
  have e:chs z=xs:=qi hx;subst e;refine .inr (.inr ⟨c,H0,ρ,_,O,rs,f,λ v H1 Hh s1 Z Y=>?_⟩)
  unfold Rep at Y;exact⟨z,Y,h _ H1 Hh s1 Z (Y_8 z)⟩
 |_=>cases hx
theorem W_9 {ρ:En}:∀ {js:List Nat}{fr:En},N_0 ρ js=some fr->fr.length=js.length/\∀ (k:Nat) (s:Sl),fr[k]?=some s->∃ j d,js[k]?=some j/\ρ[j]?=some (.im d)/\s=.im d
 |[],_,h=>by
  have h':([]:En)=_:=qi h;subst h';exact⟨rfl,λ k s e=>by simp at e⟩
 |j::js,_,h=>by
  rw[aj4] at h;obtain⟨s,h1,h⟩:=a_1 h;obtain⟨r,h2,h⟩:=a_1 h;cases h;obtain⟨a,b⟩:=W_9 h2;refine⟨by rw[List.length_cons,List.length_cons,a],λ k s' e=>?_⟩
  cases k with
  |zero =>
   simp at e;subst e;cases z:ρ[j]? with
   |none=>rw[z] at h1;cases h1
   |some sl =>
    rw[z] at h1;cases sl with
    |im d=>exact⟨j,d,rfl,z,(qi h1).symm⟩
    |_=>cases h1
  |succ k =>
   obtain⟨Y,d,x1,Z,O⟩:=b k s' (by simpa using e)
   exact⟨Y,d,by simpa using x1,Z,O⟩
theorem RS.block {K:Frag}{c:FC}{H0 H:Hp}{ρ:En}{σ:L2.St}{js:List Nat}{fr:En}{d:D}{x:V} (R:RS K c H0 H ρ σ) (hf:N_0 ρ js=some fr) (rx:Rep K H0 d x):RS K ⟨H0,H,[]⟩ H0 H (.im d::fr) (some x::frv σ js):=by
 obtain⟨l,g⟩:=W_9 hf;refine⟨R.same,Same.refl _,λ b o e=>.inl e,λ b o e _=>e,λ a h=>(by cases h),?_,λ i d' e=>?_,λ i b o e=>?_,λ i j b b' o o' a e=>?_⟩
 ·rw[List.length_cons,List.length_cons,l,frv,List.length_map]
 ·cases i with
  |zero=>simp at e;subst e;exact⟨x,rfl,rx⟩
  |succ k =>
   obtain⟨j,Y,x1,x2,O⟩:=g k _ (by simpa using e)
   cases O;obtain⟨v,y1,Z⟩:=R.im j d' x2;refine⟨v,?_,Z⟩;show (frv σ js)[k]?=some (some v);unfold frv;rw[List.getElem?_map,x1];show some (σ[j]?).join=some (some v);rw[y1];rfl
 ·cases i with
  |zero=>simp at e
  |succ k =>
   obtain⟨j,Y,_,_,O⟩:=g k _ (by simpa using e)
   cases O
 ·cases i with
  |zero=>simp at e
  |succ k =>
   obtain⟨j,Y,_,_,O⟩:=g k _ (by simpa using e)
   cases O
theorem RS.step {K:Frag}{Y O H0 H:Hp}{ρ:En}{σ:L2.St} (R:RS K ⟨Y,O,[]⟩ H0 H ρ σ):Step Y O H0 H :=
 ⟨R.init,λ b o e=>R.keep b o e (by simp),R.same,R.fresh⟩
theorem al6 {α:Type}{xs:List α}{i:Nat}{d:α} (h:xs[i]?=some d):xs.drop i=d::xs.drop (i+1):=by
 obtain⟨hi,e⟩:=List.getElem?_eq_some_iff.mp h;rw[<- e];exact List.drop_eq_getElem_cons hi
theorem at7 {K:Frag}{c:FC}{H1 Hh:Hp}{ρ:En}{σ:L2.St}{js:List Nat}{fr:En}{T:FT}{F:FE}{xs out:List D}{J:It}{Qf:List V->Hp->Prop} (R:RS K c H1 Hh ρ σ) (hf:N_0 ρ js=some fr) (hc:cGo T F fr xs=some out) (hz:xs.length<=sizeLine) (hy:v_0 K J H1 xs)
  (q:∀ ys H0 H,Same H1 H0->RS K c H0 H ρ σ->Reps K H0 out ys->Qf ys H):LcW js (tTt K T) (tE K F) σ Qf J Hh:=by
 refine⟨λ i m ys H=>m=xs.length-i/\i<=xs.length/\∃ H0,Same H1 H0/\RS K c H0 H ρ σ/\∃ Y rest,Reps K H0 Y ys/\Y.length<=i/\cGo T F fr (xs.drop i)=some rest/\Y++rest=out,⟨xs.length,by simp,Nat.zero_le _,H1,Same.refl _,R,[],out,Reps.nil_,Nat.zero_le _,by simpa using hc,rfl⟩,?_⟩
 rintro i m ys H ⟨rfl,hi,H0,s0,R0,Y,rest,rp,lp,O,e⟩;obtain⟨y1,y2⟩:=hy H0 H i s0 R0.same
 by_cases aa:i<xs.length
 ·have hd:xs[i]?=some xs[i]:=by simp[aa]
  obtain⟨go,yl⟩:=y1 _ hd;refine .inr ⟨go,by rw[<- rp.length];omega,λ x H' hx=>?_⟩
  obtain⟨rfl,rx⟩:=yl x H' hx;rw[al6 hd,aw2] at O;obtain⟨⟨b,ab⟩,g1,O⟩:=a_1 O;dsimp only at O;refine⟨⟨H0,H',[]⟩,H0,_,b,ab,R0.block hf rx,g1,λ H2 Hh2 s2 R2=>?_⟩
  cases b with
  |false =>
   rw[if_neg Bool.false_ne_true] at O ⊢;have S:=R2.step;exact⟨xs.length-(i+1),by omega,rfl,aa,H2,s0.trans S.s0,R0.after S,Y,rest,Reps.mono S.s0 _ rp,by omega,O,e⟩
  |true =>
   rw[if_pos rfl] at O ⊢;obtain⟨⟨z,ac⟩,g2,O⟩:=a_1 O;obtain⟨t,g3,O⟩:=a_1 O;dsimp only at O;have Z:some (z::t)=some rest:=O;cases Z;refine⟨⟨H0,H',[]⟩,H2,ab,z,ac,R2,g2,λ v H3 Hh3 s3 R3 r3=>?_⟩
   have S:=R3.step;refine⟨xs.length-(i+1),by omega,rfl,aa,H3,s0.trans S.s0,R0.after S,Y++[z],t,(Reps.mono S.s0 _ rp).app (Reps.one r3),?_,g3,?_⟩
   ·rw[List.length_append,List.length_singleton];omega
   ·rw[List.append_assoc];exact e
 ·have ei:i=xs.length:=by omega
  have hn:xs.drop i=[]:=List.drop_eq_nil_of_le (by omega)
  rw[hn,aQ5] at O;have Z:([]:List D)=rest:=qi O;subst Z;rw[List.append_nil] at e;subst e;exact .inl ⟨y2 (by omega),by rw[<- rp.length];omega,q ys H0 H s0 R0 rp⟩
noncomputable def XTs (X:Cx) (ifs:List Expr) (T:FT):Prop:=PTs X ifs (tTt X.K T)
theorem PTs.wk {X:Cx}{e:List Expr}{t t':TT} (h:PTs X e t) (w:∀ σ H Q,t' σ H Q->t σ H Q):PTs X e t':=λ pins s σ H Q I q=>h pins s σ H Q I (w σ H Q q)
theorem k_8 {X:Cx}:XTs X [] Fx.tYes:=PTs.wk aJ1 λ σ H Q O=>by
 obtain⟨c,H0,ρ,b,Y,R,f,q⟩:=O;have Z:some (true,ρ)=some (b,Y):=f;cases Z;exact q H0 H (Same.refl _) R
theorem o_4 {X:Cx}{c:Expr}{T:FT} (h:XT X c T):XTs X [c] T:=aJ0 h
section
variable {X:Cx}{scope sc:Scope}{x:Str}{frees:List Str}{js:List Nat}{px pos:Pos}{elt iter:Expr}{ifs:List Expr}{I F:FE}{T:FT}
theorem ak8 {ρ O:En}{d:D} (h:eLC js I T F ρ=some (d,O)):∃ z xs fr ys,I ρ=some (z,O)/\items z=some xs/\N_0 O js=some fr/\cGo T F fr xs=some ys/\xs.length<=sizeLine/\d=.lst ys:=by
 unfold eLC at h;obtain⟨⟨z,aa⟩,h1,h⟩:=a_1 h;obtain⟨xs,h2,h⟩:=a_1 h;obtain⟨fr,Z,h⟩:=a_1 h;obtain⟨ys,Y,h⟩:=a_1 h;dsimp only at h2 Z Y h
 split at h
 ·rename_i hz
  cases h;exact⟨z,xs,fr,ys,h1,h2,Z,Y,hz,rfl⟩
 ·cases h
theorem xlc (hc:X.calm=true) (Z:X.env.scope=sc) (B:ScB X.N sc scope x frees js) (hi:XE X iter I) (ht:∀ s H C Y,XTs (cxB X (x::frees) scope s H C Y) ifs T) (he:∀ s H C Y,XE (cxB X (x::frees) scope s H C Y) elt F)
  (hs:∀ v,foldedSetIterable iter X.env v=pure v:=by intro _;rfl):XE X (.ListComp elt [⟨.Name x px,iter,ifs,0⟩] scope pos) (eLC js I T F) :=
 PE.wk (aK0 (tt:=tTt X.K T) (te:=tE X.K F) hc Z B (aJ6 hi) ht he hs) λ σ H Q O=>by
  obtain⟨c,H0,ρ,d,aa,R,f,q⟩:=O;obtain⟨z,xs,fr,ys,h1,h2,h3,h4,hz,rfl⟩:=ak8 f;refine o_5 R h1 h2 λ J H1 Hh s1 R1 hy=>?_
  refine at7 R1 h3 h4 hz hy λ vs H2 Hh2 s2 R2 r2=>λ p hp=>?_
  have S:=Step.alloc (o:=.lst vs) R2.same hp;refine q _ _ _ (s1.trans (s2.trans S.s0)) (R2.after S) ?_;unfold Rep;exact⟨p,vs,rfl,.inl (.inl a_2),Reps.mono S.s0 _ r2⟩
end
noncomputable def Post (K:Frag) (c:FC) (Z:Ends) (H0:Hp):Res->Prop
 |.nx Y=>∀ O H0' H',Same H0 H0'->RS K c H0' H' Y O->Z.nx O H'
 |.rt d Y=>∀ v O H0' H',Same H0 H0'->RS K c H0' H' Y O->Rep K H0' d v->Z.rt v H'
 |.bk Y=>∀ O H0' H',Same H0 H0'->RS K c H0' H' Y O->Z.bk O H'
 |.ct Y=>∀ O H0' H',Same H0 H0'->RS K c H0' H' Y O->Z.ct O H'
noncomputable def tS (K:Frag) (F:FS):TS:=λ O σ H=>∃ c H0 ρ r,RS K c H0 H ρ σ/\F ρ=some r/\Post K c O H0 r
noncomputable def XS (X:Cx) (st:Stmt) (F:FS):Prop:=PS X st (tS X.K F)
noncomputable def XSs (X:Cx) (O:List Stmt) (F:FS):Prop:=PSs X O (tS X.K F)
theorem Post.mono {K:Frag}{c:FC}{Y:Ends}{H0 H1:Hp} (s:Same H0 H1):∀ {r:Res},Post K c Y H0 r->Post K c Y H1 r
 |.nx _,h=>λ O H0' H' z=>h O H0' H' (s.trans z)
 |.rt _ _,h=>λ v O H0' H' z=>h v O H0' H' (s.trans z)
 |.bk _,h=>λ O H0' H' z=>h O H0' H' (s.trans z)
 |.ct _,h=>λ O H0' H' z=>h O H0' H' (s.trans z)
theorem RS.set {K:Frag}{c:FC}{H0 H:Hp}{ρ:En}{σ:L2.St}{d:D}{v:V} (R:RS K c H0 H ρ σ) (i:Nat) (r:Rep K H0 d v):RS K c H0 H (ρ.set i (.im d)) (σ.set i (some v)):=by
 have hl:=R.len;have Y:∀ (j:Nat) (sl:Sl),j≠i->(ρ.set i (.im d))[j]?=some sl->ρ[j]?=some sl:=λ j sl Z e=>by rwa [List.getElem?_set_ne (Ne.symm Z)] at e
 have O:∀ (j:Nat),j≠i->(σ.set i (some v))[j]?=σ[j]?:=λ j Z=>List.getElem?_set_ne (Ne.symm Z)
 have same:∀ (sl:Sl),(ρ.set i (.im d))[i]?=some sl->sl=.im d/\i<ρ.length:=λ sl e=>by
  by_cases hi:i<ρ.length
  ·rw[List.getElem?_set_self hi] at e;exact⟨(qi e).symm,hi⟩
  ·rw[List.getElem?_eq_none (by rw[List.length_set];omega)] at e;cases e
 refine⟨R.same,R.init,R.fresh,R.keep,R.apt,by rw[List.length_set,List.length_set,hl],λ j d' e=>?_,λ j bb o e=>?_,λ j k b1 b2 o o' a e1 e2 e3 e4=>?_⟩
 ·by_cases Z:j=i
  ·subst Z
   obtain⟨e',hi⟩:=same _ e;cases e';exact⟨v,by rw[List.getElem?_set_self (by omega)],r⟩
  ·rw[O j Z];exact R.im j d' (Y j _ Z e)
 ·by_cases Z:j=i
  ·subst Z;obtain⟨e',_⟩:=same _ e;cases e'
  ·rw[O j Z];exact R.ow j bb o (Y j _ Z e)
 ·by_cases Z:j=i
  ·subst Z;obtain⟨e',_⟩:=same _ e1;cases e'
  ·by_cases hk:k=i
   ·subst hk;obtain⟨e',_⟩:=same _ e2;cases e'
   ·rw[O j Z] at e3;rw[O k hk] at e4
    exact R.ne j k b1 b2 o o' a (Y j _ Z e1) (Y k _ hk e2) e3 e4
section
variable {X:Cx}{pos:Pos}{e:Expr}{F:FE}{T:FT}{A B:FS}
theorem xsN:XSs X [] sN:=PSs.wk ae4 λ Z σ H O=>by
 obtain⟨c,H0,ρ,r,R,f,q⟩:=O;have Y:some (Res.nx ρ)=some r:=f;cases Y;exact q σ H0 H (Same.refl _) R
theorem xs1 {st:Stmt} (h:XS X st A):XSs X [st] A:=F_2 h
theorem xsC {st:Stmt}{rest:List Stmt} (h1:XS X st A) (h2:XSs X rest B):XSs X (st::rest) (b_6 A B):=PSs.wk (q_2 h1 h2) λ Dn σ H Y=>by
 obtain⟨c,H0,ρ,r,R,f,q⟩:=Y;unfold b_6 at f;obtain⟨z,h,f⟩:=a_1 f;refine⟨c,H0,ρ,z,R,h,?_⟩;cases z with
 |nx O=>exact λ aa H0' H' s R'=>⟨c,H0',O,r,R',f,q.mono s⟩
 |rt d O=>have Z:some (Res.rt d O)=some r:=f;cases Z;exact q
 |bk O=>have Z:some (Res.bk O)=some r:=f;cases Z;exact q
 |ct O=>have Z:some (Res.ct O)=some r:=f;cases Z;exact q
theorem g_8 (i:Nat) {x:Str}{pos':Pos} (hN:X.N.Nodup) (Z:XE X e F) (hi:X.N[i]?=some x:=by rfl) (hx:Loc X.env.scope x:=by first | exact Or.inl rfl | exact Or.inr rfl) (hs:swapsWith e (some (.Name x pos')) pos.line X.env=pure false:=by rfl)
  (hf:X.fn x=true\/X.env.scope.names.lookup x=some .local:=by first | exact .inl rfl | exact .inr rfl):XS X (.Assign [.Name x pos'] e pos) (f_1 i F):=PS.wk (K_9 hN hi hx Z hs hf) λ Dn σ H O=>by
 obtain⟨c,H0,ρ,r,R,f,q⟩:=O;unfold f_1 at f;obtain⟨⟨d,Y⟩,h1,f⟩:=a_1 f;have f':some (Res.nx (Y.set i (.im d)))=some r:=f;cases f';exact⟨c,H0,ρ,d,Y,R,h1,λ v H1 Hh s1 R1 r1=>q _ H1 Hh s1 (R1.set i r1)⟩
theorem J_3 (i:Nat) {y x:Str}{py px O:Pos}{scope sc:Scope}{frees:List Str}{js:List Nat}{elt iter:Expr}{ifs:List Expr}{I:FE} (hN:X.N.Nodup) (hc:X.calm=true) (ad:X.env.scope=sc) (Bk:ScB X.N sc scope x frees js) (hi:XE X iter I)
  (ht:∀ s H C Z,XTs (cxB X (x::frees) scope s H C Z) ifs T) (he:∀ s H C Z,XE (cxB X (x::frees) scope s H C Z) elt F) (ab:X.N[i]?=some y:=by rfl) (hy:X.env.scope.names.lookup y=some .local:=by rfl)
  (ac:swapsWith (.ListComp elt [⟨.Name x px,iter,ifs,0⟩] scope pos) (some (.Name y py)) O.line X.env=pure true:=by rfl)
  (hs:∀ v,foldedSetIterable iter X.env v=pure v:=by intro _;rfl):XS X (.Assign [.Name y py] (.ListComp elt [⟨.Name x px,iter,ifs,0⟩] scope pos) O) (f_1 i (eLC js I T F)) :=
 PS.wk (as0 (tt:=tTt X.K T) (te:=tE X.K F) hN ab hy hc ad Bk (aJ6 hi) ht he ac hs) λ Dn σ H Y=>by
  obtain⟨c,H0,ρ,r,R,f,q⟩:=Y;unfold f_1 at f;obtain⟨⟨d,aa⟩,h1,f⟩:=a_1 f;have f':some (Res.nx (aa.set i (.im d)))=some r:=f;cases f';obtain⟨z,xs,fr,ys,h0,h2,h3,h4,hz,rfl⟩:=ak8 h1;refine o_5 R h0 h2 λ J H1 Hh s1 R1 hy=>?_
  refine at7 R1 h3 h4 hz hy λ vs H2 Hh2 s2 R2 r2=>λ p hp=>?_
  have S:=Step.alloc (o:=.lst vs) R2.same hp;refine q _ _ _ (s1.trans (s2.trans S.s0)) ((R2.after S).set i ?_);unfold Rep;exact⟨p,vs,rfl,.inl (.inl a_2),Reps.mono S.s0 _ r2⟩
theorem j_8 {c:Expr}{a b:List Stmt} (hc:XT X c T) (ha:XSs X a A) (hb:XSs X b B):XS X (.If c a b pos) (sIf T A B):=PS.wk (aY5 hc ha hb) λ Dn σ H Y=>by
 obtain⟨c,H0,ρ,r,R,f,q⟩:=Y;unfold sIf at f;obtain⟨⟨k,O⟩,h1,f⟩:=a_1 f;dsimp only at f;refine⟨c,H0,ρ,k,O,R,h1,λ H1 Hh s1 Z=>?_⟩
 cases k with
 |true =>
  rw[if_pos rfl] at f ⊢;exact⟨c,H1,O,r,Z,f,q.mono s1⟩
 |false =>
  rw[if_neg Bool.false_ne_true] at f ⊢;exact⟨c,H1,O,r,Z,f,q.mono s1⟩
theorem g_2 (Z:XE X e F):XS X (.Return (some e) pos) (f_2 F):=PS.wk (ae5 Z) λ Dn σ H O=>by
 obtain⟨c,H0,ρ,r,R,f,q⟩:=O;unfold f_2 at f;obtain⟨⟨d,Y⟩,h1,f⟩:=a_1 f;have f':some (Res.rt d Y)=some r:=f;cases f';exact⟨c,H0,ρ,d,Y,R,h1,λ v H1 Hh s1 R1 r1=>q v σ H1 Hh s1 R1 r1⟩
abbrev GD:=D->En->Option En
noncomputable def tG (K:Frag) (g:GD):TG:=λ v σ H Q=>∃ c H0 ρ d O,RS K c H0 H ρ σ/\Rep K H0 d v/\g d ρ=some O/\∀ Y H0' H',Same H0 H0'->RS K c H0' H' O Y->Q Y H'
noncomputable def tGs (K:Frag) (is:List Nat):TGs:=λ vs σ H Q=>∃ c H0 ρ ds,RS K c H0 H ρ σ/\Reps K H0 ds vs/\ds.length=is.length/\∀ O H0' H',Same H0 H0'->RS K c H0' H' (o_7 is ds ρ) O->Q O H'
noncomputable def XG (X:Cx) (tg:Expr) (g:GD):Prop:=PG X tg (tG X.K g)
noncomputable def XGs (X:Cx) (O:List Expr) (is:List Nat):Prop:=PGs X O (tGs X.K is)
theorem xgN (i:Nat) {x:Str} (hN:X.N.Nodup) (hi:X.N[i]?=some x:=by rfl) (hx:Loc X.env.scope x:=by first | exact Or.inl rfl | exact Or.inr rfl) (hf:X.fn x=true\/X.env.scope.names.lookup x=some .local:=by first | exact .inl rfl | exact .inr rfl):XG X (.Name x pos) (gN i) :=
 λ pins s σ H v u Q I Z O=>by obtain⟨c,H0,ρ,d,Y,R,r,f,q⟩:=O;exact Q_1 hN hi hx hf pins s σ H v u Q I Z (by
  have f':some (ρ.set i (.im d))=some Y:=f;cases f';exact q _ H0 H (Same.refl _) (R.set i r))
theorem ao7:XGs X [] []:=λ pins s σ H vs us Q I Y O=>by obtain⟨c,H0,ρ,ds,R,r,l,q⟩:=O;exact aJ8 pins s σ H vs us Q I Y (by
 have e:ds=[]:=List.length_eq_zero_iff.mp l;subst e;unfold Reps at r;exact⟨r,q σ H0 H (Same.refl _) (by simpa [Z_5] using R)⟩)
theorem t_1 {e:Expr}{es:List Expr}{i:Nat}{is:List Nat} (h1:XG X e (gN i)) (h2:XGs X es is) (hs:(assignEach (e::es) X.env).map (·.2)=assign e X.env::(assignEach es X.env).map (·.2):=by rfl):XGs X (e::es) (i::is) :=
 λ pins s σ H vs us Q I rv O=>by obtain⟨c,H0,ρ,ds,R,r,l,q⟩:=O;exact as3 h1 h2 hs pins s σ H vs us Q I rv (by
  cases ds with
  |nil=>simp at l
  |cons d ds =>
   unfold Reps at r;obtain⟨v,vr,rfl,r1,r2⟩:=r;refine⟨v,vr,rfl,c,H0,ρ,d,_,R,r1,rfl,λ aa H1 Hh Z R1=>?_⟩
   exact⟨c,H1,_,ds,R1,Reps.mono Z _ r2,by simpa using l,λ Y H2 Hh2 s2 R2=>q Y H2 Hh2 (Z.trans s2) (by simpa [P_7] using R2)⟩)
theorem u_1 {X:Cx}{s:Shared}{E:Value->Shared->Prop}{O:List Expr}{k:Nat}{l:Addr}{items:Array Value}{Q:Unit->Shared->Prop} (Z:X.A.handled=none) (hl:s.heap.IsList l items)
  (hn:(assignEach O X.env).length=items.size) (Y:(assignEach O X.env).findIdx? (·.1)=none)
  (h:∀ h',Heap.ExtBut s.heap.objs.size s.heap h'->wpAny (model X.prog X.w) X.A (assignInOrder ((assignEach O X.env).map (·.2)) items.toList) Q E {s with heap:=h'}) :
  wpAny (model X.prog X.w) X.A (assign (.Tuple O k pos) X.env (.ref l)) Q E s:=by
 rw[assign_Tuple];refine qb (wpAny_standAt ?_);unfold unpack;rw[hn,Y];exact qb (wpAny_holding (PySem.W.kun_itemsOf Z hl h))
noncomputable def bM0 (K:Frag) (n:Nat) (t:TGs):TG:=λ v σ H Q=>∃ a xs,v=.ref a/\SqL K H a xs/\xs.length=n/\t xs σ H Q
theorem aZ1 {es:List Expr}{k:Nat}{t:TGs}{n:Nat} (hc:X.calm=true) (h:PGs X es t)
  (hn:(assignEach es X.env).length=n:=by rfl) (O:(assignEach es X.env).findIdx? (·.1)=none:=by rfl):PG X (.Tuple es k pos) (bM0 X.K n t):=by
 intro pins s σ H v u Q I r Y;obtain⟨a,xs,e1,hq,hl,Y⟩:=Y;subst e1;cases r;obtain⟨aa,Z,pl,hz⟩:=I.list hq;refine u_1 (I.ok.hd hc) pl.isList (by simp[hn,<- hl,Z.length]) O λ h' hx=>?_
 have I1:Inv X pins σ H {s with heap:=h'}:=I.kept (t':=s.toks) λ b o e=>hx b o (qr (qm e)) e
 exact h pins _ σ H xs _ Q I1 (by simpa using Z) Y
theorem xgT {es:List Expr}{k:Nat}{is:List Nat} (h:XGs X es is) (hc:X.calm=true:=by rfl) (hn:(assignEach es X.env).length=is.length:=by rfl) (Y:(assignEach es X.env).findIdx? (·.1)=none:=by rfl):XG X (.Tuple es k pos) (gT is) :=
 λ pins s σ H v u Q I rv O=>by
  obtain⟨c,H0,ρ,d,aa,R,r,f,q⟩:=O;unfold gT at f;obtain⟨xs,h1,f⟩:=a_1 f
  split at f
  ·rename_i Z
   cases f;cases d with
   |tup ds =>
    refine aZ0 hc h hn Y pins s σ H v u Q I rv ?_;have e:ds=xs:=qi h1;subst e;unfold Rep at r;obtain⟨a,vs,rfl,sq,r⟩:=r;exact⟨a,vs,rfl,Same.seqT R.same sq,by rw[<- r.length];exact Z,c,H0,ρ,ds,R,r,Z,q⟩
   |lst ds =>
    refine aZ1 hc h hn Y pins s σ H v u Q I rv ?_;have e:ds=xs:=qi h1;subst e;unfold Rep at r;obtain⟨a,vs,rfl,sq,r⟩:=r;exact⟨a,vs,rfl,Same.seq R.same sq,by rw[<- r.length];exact Z,c,H0,ρ,ds,R,r,Z,q⟩
   |_=>cases h1
  ·cases f
theorem n_0 {tg:Expr}{is:List Nat} (hg:XG X tg (gT is)) (he:XE X e F) (hs:swapsWithSole [tg] e pos.line X.env=pure false:=by rfl) (hw:swappedStores [tg] e X.env=pure none:=by rfl)
  (h1:(assignEach [tg] X.env).map (·.2)=[assign tg X.env]:=by rfl):XS X (.Assign [tg] e pos) (ac2 is F):=PS.wk (aY7 he hg hs hw h1) λ Dn σ H O=>by
 obtain⟨c,H0,ρ,r,R,f,q⟩:=O;unfold ac2 at f;obtain⟨⟨d,Z⟩,h1,f⟩:=a_1 f;obtain⟨Y,h2,f⟩:=a_1 f;have f':some (Res.nx Y)=some r:=f;cases f';exact⟨c,H0,ρ,d,Z,R,h1,λ v H1 Hh s1 R1 r1=>⟨c,H1,Z,d,Y,R1,r1,h2,λ aa H2 Hh2 s2 R2=>q aa H2 Hh2 (s1.trans s2) R2⟩⟩
theorem aj9 {K:Frag}{c:FC}{H1 Hh:Hp}{ρ:En}{σ:L2.St}{g:GD}{B:FS}{xs:List D}{J:It}{Dn:Ends}{r:Res} (R:RS K c H1 Hh ρ σ) (hf:fGo g B xs ρ=some r) (hy:v_0 K J H1 xs) (q:Post K c Dn H1 r) :
  ∃ W:Nat->Nat->L2.St->Hp->Prop,(∃ m,W 0 m σ Hh)/\∀ i m σ H,W i m σ H ->
   (J.stop i H/\Dn.nx σ H)\/(J.go i H/\∃ N:L2.St->Hp->Prop,(∀ O H',N O H'->∃ m',m'<m/\W (i+1) m' O H')/\∀ x H',J.yld i H x H'->tG K g x σ H' λ ac H2=>tS K B {Dn with nx:=N,ct:=N,bk:=Dn.nx} ac H2):=by
 refine⟨λ i m σ H=>m=xs.length-i/\i<=xs.length/\∃ H0 ρ,Same H1 H0/\RS K c H0 H ρ σ/\fGo g B (xs.drop i) ρ=some r,⟨xs.length,by simp,Nat.zero_le _,H1,ρ,Same.refl _,R,by simpa using hf⟩,?_⟩
 rintro i m σ H ⟨rfl,hi,H0,ρ,s0,R0,hg⟩;obtain⟨y1,y2⟩:=hy H0 H i s0 R0.same
 by_cases aa:i<xs.length
 ·have hd:xs[i]?=some xs[i]:=by simp[aa]
  obtain⟨go,yl⟩:=y1 _ hd;refine .inr ⟨go,λ O H'=>∃ m',m'<xs.length-i/\m'=xs.length-(i+1)/\i+1<=xs.length/\∃ H0 ρ,Same H1 H0/\RS K c H0 H' ρ O/\fGo g B (xs.drop (i+1)) ρ=some r,λ O H' ⟨m',a,b⟩=>⟨m',a,b⟩,λ x H' hx=>?_⟩
  obtain⟨rfl,rx⟩:=yl x H' hx;rw[al6 hd,au7] at hg;obtain⟨ab,g1,hg⟩:=a_1 hg;obtain⟨z,g2,hg⟩:=a_1 hg;refine⟨c,H0,ρ,_,ab,R0,rx,g1,λ ad H2 Hh2 s2 R2=>⟨c,H2,ab,z,R2,g2,?_⟩⟩
  cases z with
  |nx Y=>exact λ O H3 Hh3 s3 R3=>⟨_,by omega,rfl,aa,H3,Y,s0.trans (s2.trans s3),R3,hg⟩
  |ct Y=>exact λ O H3 Hh3 s3 R3=>⟨_,by omega,rfl,aa,H3,Y,s0.trans (s2.trans s3),R3,hg⟩
  |bk Y =>
   have Z:some (Res.nx Y)=some r:=hg;cases Z;exact λ O H3 Hh3 s3 R3=>q O H3 Hh3 (s0.trans (s2.trans s3)) R3
  |rt d Y =>
   have Z:some (Res.rt d Y)=some r:=hg;cases Z;exact λ v O H3 Hh3 s3 R3 r3=>q v O H3 Hh3 (s0.trans (s2.trans s3)) R3 r3
 ·have hn:xs.drop i=[]:=List.drop_eq_nil_of_le (by omega)
  rw[hn,aM6] at hg;have Z:some (Res.nx ρ)=some r:=hg;cases Z;exact .inl ⟨y2 (by omega),q σ H0 H s0 R0⟩
theorem aR2 {tg iter:Expr}{O:List Stmt}{g:GD} (hg:XG X tg g) (hi:XE X iter F) (hb:XSs X O B) (hp:PassesOwn (model X.prog X.w) X.A X.env X.xe:=by exact PassesOwn.never) (hc:X.calm=true:=by rfl) (hs:∀ x,foldedSetIterable iter X.env x=pure x:=by intro _;rfl) :
  XS X (.For tg iter O [] pos) (ac3 g F B):=PS.wk (V_1 hp hc (aJ6 hi) hg hb hs) λ Dn σ H Y=>by
 obtain⟨c,H0,ρ,r,R,f,q⟩:=Y;unfold ac3 at f;obtain⟨⟨d,aa⟩,h1,f⟩:=a_1 f;obtain⟨xs,h2,f⟩:=a_1 f;exact o_5 R h1 h2 λ J H1 Hh s1 Z hy=>aj9 Z f hy (q.mono s1)
theorem ac8 {tg a:Expr}{O:List Stmt}{g:GD}{p pos':Pos} (hm:X.mg "range"=none) (hg:XG X tg g) (ha:XE X a F) (hb:XSs X O B) (aa:Gl X "range":=by rfl) (hp:PassesOwn (model X.prog X.w) X.A X.env X.xe:=by exact PassesOwn.never) (hc:X.calm=true:=by rfl)
  (Z:starEach [a] X.env=[(false,eval a X.env)]:=by rfl) (hs:∀ x,foldedSetIterable (.Call (.Name "range" p) [a] [] pos') X.env x=pure x:=by intro _;rfl) :
  XS X (.For tg (.Call (.Name "range" p) [a] [] pos') O [] pos) (Z_6 g (P_8 F) B):=PS.wk (V_1 hp hc (x_3 aa hm (f_5 ha o_1 Z) Z) hg hb hs) λ Dn σ H Y=>by
 obtain⟨c,H0,ρ,r,R,f,q⟩:=Y;unfold Z_6 P_8 at f;obtain⟨⟨xs,ab⟩,h1,f⟩:=a_1 f;obtain⟨⟨d,ac⟩,h2,h1⟩:=a_1 h1;obtain⟨j,h3,h1⟩:=a_1 h1;dsimp only at h1 h3 f
 split at h1
 ·rename_i hj
  cases h1;refine⟨c,H0,ρ,d,_,R,h2,λ v H1 Hh s1 R1 r1=>?_⟩
  cases d with
  |int k =>
   have e:k=j:=qi h3;subst e;unfold Rep at r1;subst r1;exact⟨k,rfl,hj.1,hj.2,aj9 R1 f (t_0 0 k.toNat) (q.mono s1)⟩
  |_=>cases h3
 ·cases h1
end
theorem RS.start {K:Frag}{O H:Hp}{ds:List D}{vs:List V}{m n:Nat} (s:Same O H) (r:Reps K O ds vs) (Y:n-vs.length=m):RS K ⟨O,H,[]⟩ O H (ds.map .im++List.replicate m .no) (vs.map some++List.replicate (n-vs.length) none):=by
 have Z:=r.length;refine⟨s,Same.refl _,λ b o e=>.inl e,λ b o e _=>e,λ a h=>(by cases h),?_,λ i d e=>?_,λ i b o e=>?_,λ i j b b' o o' a e=>?_⟩
 ·rw[List.length_append,List.length_append,List.length_map,List.length_map,List.length_replicate,List.length_replicate,Z,Y]
 ·by_cases hi:i<ds.length
  ·rw[List.getElem?_append_left (by simpa using hi),List.getElem?_map] at e
   cases z:ds[i]? with
   |none=>rw[z] at e;cases e
   |some d' =>
    rw[z] at e;have e':d'=d:=by have:=qi e;injection this
    subst e';obtain⟨v,a,b⟩:=r.get z;exact⟨v,by rw[List.getElem?_append_left (by simp;omega),List.getElem?_map,a];rfl,b⟩
  ·rw[List.getElem?_append_right (by simpa using Nat.le_of_not_lt hi),List.getElem?_replicate] at e
   split at e <;> cases e
 ·by_cases hi:i<ds.length
  ·rw[List.getElem?_append_left (by simpa using hi),List.getElem?_map] at e
   cases z:ds[i]? with
   |none=>rw[z] at e;cases e
   |some d'=>rw[z] at e;cases e
  ·rw[List.getElem?_append_right (by simpa using Nat.le_of_not_lt hi),List.getElem?_replicate] at e
   split at e <;> cases e
 ·by_cases hi:i<ds.length
  ·rw[List.getElem?_append_left (by simpa using hi),List.getElem?_map] at e
   cases z:ds[i]? with
   |none=>rw[z] at e;cases e
   |some d'=>rw[z] at e;cases e
  ·rw[List.getElem?_append_right (by simpa using Nat.le_of_not_lt hi),List.getElem?_replicate] at e
   split at e <;> cases e
theorem h_8 {P:Program}{w:World}{K:Frag}{mg:Str->Option Value}{base:Heap}{x O:Str}{st:Stmt}{f:Addr}{fd:FuncData}{N ps:List Str}{k n m:Nat}{B:FS} (F:Fun K x O st f fd) (S:FnScope N ps (a_0 st)) (hn:ps.length=n) (hN:N.length=n+m)
  (hb:∀ (Y:Value) (A:Around) (outer:List Env) (s:Shared) (H:Hp) (E:XK),Room k (A.deeper (envOfC O (a_0 st) s.heap.objs.size f Y))->XSs (aC2 CX0 P w K mg base N O (a_0 st) f Y A outer s H E).nox (n_6 st) B) :
  FnOk P w K mg base CX0 (k+1) f fd ps (spP K (fnD n m B)):=by
 have aa:∀ {ds:List D}{d:D},fnD n m B ds=some d->ds.length=n/\∃ r,B (ds.map .im++List.replicate m .no)=some r/\bp6 r=some d:=λ {ds d} h=>by
  unfold fnD at h
  split at h
  ·rename_i hl
   obtain⟨r,h1,h2⟩:=a_1 h;exact⟨hl,r,h1,h2⟩
  ·cases h
 refine F.ok S (λ vs H Q E h=>?_) (λ Y A outer s H vs Q E hr h=>?_)
 ·obtain⟨Hi,ds,d,_,r,e,_⟩:=h
  rw[hn,<- r.length];exact (aa e).1
 ·obtain⟨Hi,ds,d,hs,r,e,q⟩:=h
  obtain⟨hl,res,h1,h2⟩:=aa e;refine⟨_,hb Y A outer s H E hr,⟨Hi,H,[]⟩,Hi,_,res,RS.start (n:=N.length) (m:=m) hs r (by rw[<- r.length];omega),h1,?_⟩
  cases res with
  |nx Z =>
   have e':D.non=d:=qi h2;subst e';exact λ ab H0' H' s0 R=>q .non H0' H' R.step (by unfold Rep;rfl)
  |rt d' Z =>
   have e':d'=d:=qi h2;subst e';exact λ v ab H0' H' s0 R rv=>q v H0' H' R.step rv
  |bk Z=>cases h2
  |ct Z=>cases h2
end Fx
namespace Fx
open PySem
@[simp] theorem bG1 (i j:Int):e_9 (.int i) (.int j)=some (.int (i+j)):=zR rfl
@[simp] theorem bG0 (a b:List D):e_9 (.lst a) (.lst b)=if a.length+b.length<=sizeLine then some (.lst (a++b)) else none:=zR rfl
@[simp] theorem bF9 (a b:Str):e_9 (.str a) (.str b)=if a.length+b.length<=sizeLine then some (.str (a++b)) else none:=zR rfl
@[simp] theorem bE6 (i j:Int):N_7 (.int i) (.int j)=some (.int (i-j)):=zR rfl
@[simp] theorem bF3 (i j:Int):s_3 (.int i) (.int j)=if m_8 i j=true then some (.int (i*j)) else none:=zR rfl
@[simp] theorem bF8 (i j:Int):bk5 (.int i) (.int j)=if G_4 j=true then some (.int (i.fdiv j)) else none:=zR rfl
@[simp] theorem bF4 (i j:Int):l_4 (.int i) (.int j)=if j≠0 then some (.int (i.fmod j)) else none:=zR rfl
@[simp] theorem bF1 (i j:Int):aP7 (.int i) (.int j)=if 0<=j/\j<=64/\i.natAbs<2 ^ 64 then some (.int (i ^ j.toNat)) else none:=zR rfl
@[simp] theorem bF2 (i:Int):bw6 (.int i)=some (.int (-i)):=zR rfl
@[simp] theorem bN6 (i j:Int):dLt (.int i) (.int j)=some (.bl (decide (i<j))):=zR rfl
@[simp] theorem bN7 (i j:Int):dLe (.int i) (.int j)=some (.bl (decide (i<=j))):=zR rfl
@[simp] theorem bN8 (i j:Int):dGt (.int i) (.int j)=some (.bl (decide (j<i))):=zR rfl
@[simp] theorem bN9 (i j:Int):dGe (.int i) (.int j)=some (.bl (decide (j<=i))):=zR rfl
@[simp] theorem bR0 (x y:D):dEq x y=if dpD x<=30/\dpD y<=30 then some (.bl (eqD x y)) else none:=zR rfl
@[simp] theorem bQ8 (x y:D):dNe x y=if dpD x<=30/\dpD y<=30 then some (.bl (!eqD x y)) else none:=zR rfl
@[simp] theorem bQ9 (x:D):dIs x .non=some (.bl (isN x)):=zR rfl
@[simp] theorem bw8 (x:D):g_0 x .non=some (.bl (!isN x)):=zR rfl
@[simp] theorem bE5 (b:Bool):bf9 (.bl b)=some b:=zR rfl
@[simp] theorem bO3 (i:Int):ap2 [.int i]=some (.int (i.natAbs:Int)):=congrArg (λ z=>some (D.int z)) (show (if i<0 then -i else i)=(i.natAbs:Int) by split <;> omega)
@[simp] theorem bO2 (i j:Int):aU6 [.int i,.int j]=some (.int (if j > i then j else i)):=zR rfl
@[simp] theorem bO1 (i j:Int):bl0 [.int i,.int j]=some (.int (if j<i then j else i)):=zR rfl
noncomputable def bG2 {α:Type} (x:α) (o:Option (List α)):Option (List α):=bnd o λ t=>some (x::t)
@[simp] theorem aC5 {α:Type} (x:α) (t:List α):bG2 x (some t)=some (x::t):=zR rfl
@[simp] theorem at9 (b:List D):aA5 .list (.lst b)=true:=zR rfl
noncomputable def mkP (o:Option D) (ρ:En):Option (D×En):=bnd o λ d=>some (d,ρ)
@[simp] theorem bK5 (d:D) (ρ:En):mkP (some d) ρ=some (d,ρ):=zR rfl
@[simp] theorem bI0 (ρ:En) (d:D):slV ρ (some (.im d))=some (d,ρ):=zR rfl
@[simp] theorem eV_ (i:Nat) (ρ:En):eV i ρ=slV ρ ρ[i]?:=zR rfl
@[simp] theorem eC_ (d:D) (ρ:En):eC d ρ=some (d,ρ):=zR rfl
noncomputable def e1a (op:D->Option D) (o:Option (D×En)):Option (D×En):=bnd o λ p=>bnd (op p.1) λ d=>some (d,p.2)
@[simp] theorem e1_ (op:D->Option D) (F:FE) (ρ:En):e1 op F ρ=e1a op (F ρ):=zR rfl
@[simp] theorem bN2 (op:D->Option D) (x:D) (ρ:En):e1a op (some (x,ρ))=mkP (op x) ρ:=zR rfl
noncomputable def e2b (op:D->D->Option D) (x:D) (o:Option (D×En)):Option (D×En):=bnd o λ q=>bnd (op x q.1) λ d=>some (d,q.2)
noncomputable def e2a (op:D->D->Option D) (G:FE) (o:Option (D×En)):Option (D×En):=bnd o λ p=>bnd (G p.2) λ q=>bnd (op p.1 q.1) λ d=>some (d,q.2)
@[simp] theorem e2_ (op:D->D->Option D) (F G:FE) (ρ:En):e2 op F G ρ=e2a op G (F ρ):=zR rfl
@[simp] theorem bN1 (op:D->D->Option D) (G:FE) (x:D) (ρ:En):e2a op G (some (x,ρ))=e2b op x (G ρ):=zR rfl
@[simp] theorem bN0 (op:D->D->Option D) (x y:D) (ρ:En):e2b op x (some (y,ρ))=mkP (op x y) ρ:=zR rfl
noncomputable def e3c (O:D->D->Option D) (L:FE) (y:D) (ρ:En) (o:Option D):Option (D×En):=bnd o λ z=>bnd (blB z) λ b=>if b=true then bnd (L ρ) λ r=>bnd (O y r.1) λ d=>some (d,r.2) else some (.bl false,ρ)
noncomputable def e3b (op O:D->D->Option D) (L:FE) (x:D) (o:Option (D×En)):Option (D×En):=bnd o λ q=>bnd (op x q.1) λ z=>bnd (blB z) λ b=>if b=true then bnd (L q.2) λ r=>bnd (O q.1 r.1) λ d=>some (d,r.2) else some (.bl false,q.2)
noncomputable def e3a (op O:D->D->Option D) (G L:FE) (o:Option (D×En)):Option (D×En):=bnd o λ p=>bnd (G p.2) λ q=>bnd (op p.1 q.1) λ z=>bnd (blB z) λ b=>if b=true then bnd (L q.2) λ r=>bnd (O q.1 r.1) λ d=>some (d,r.2) else some (.bl false,q.2)
@[simp] theorem e3_ (op O:D->D->Option D) (F G L:FE) (ρ:En):e3 op O F G L ρ=e3a op O G L (F ρ):=zR rfl
@[simp] theorem bM9 (op O:D->D->Option D) (G L:FE) (x:D) (ρ:En):e3a op O G L (some (x,ρ))=e3b op O L x (G ρ):=zR rfl
@[simp] theorem bM8 (op O:D->D->Option D) (L:FE) (x y:D) (ρ:En):e3b op O L x (some (y,ρ))=e3c O L y ρ (op x y):=zR rfl
@[simp] theorem bM7 (O:D->D->Option D) (L:FE) (y:D) (ρ:En):e3c O L y ρ (some (.bl true))=e2b O y (L ρ):=zR rfl
@[simp] theorem aN_ (ρ:En):aN ρ=some ([],ρ):=zR rfl
noncomputable def aCb (x:D) (o:Option (List D×En)):Option (List D×En):=bnd o λ q=>some (x::q.1,q.2)
noncomputable def aCa (A:FA) (o:Option (D×En)):Option (List D×En):=bnd o λ p=>bnd (A p.2) λ q=>some (p.1::q.1,q.2)
@[simp] theorem aC_ (F:FE) (A:FA) (ρ:En):aC F A ρ=aCa A (F ρ):=zR rfl
@[simp] theorem bO9 (A:FA) (x:D) (ρ:En):aCa A (some (x,ρ))=aCb x (A ρ):=zR rfl
@[simp] theorem bO8 (x:D) (xs:List D) (ρ:En):aCb x (some (xs,ρ))=some (x::xs,ρ):=zR rfl
noncomputable def by6 (o:Option (List D×En)):Option (D×En):=bnd o λ p=>if p.1.length<=1000 then some (.tup p.1,p.2) else none
@[simp] theorem bM2 (A:FA) (ρ:En):h_2 A ρ=by6 (A ρ):=zR rfl
@[simp] theorem by5 (xs:List D) (ρ:En):by6 (some (xs,ρ))=if xs.length<=1000 then some (.tup xs,ρ) else none:=zR rfl
noncomputable def bB3 (o:Option (List D×En)):Option (D×En):=bnd o λ p=>if p.1.length<=1000 then some (.lst p.1,p.2) else none
@[simp] theorem bM4 (A:FA) (ρ:En):O_9 A ρ=bB3 (A ρ):=zR rfl
@[simp] theorem bB2 (xs:List D) (ρ:En):bB3 (some (xs,ρ))=if xs.length<=1000 then some (.lst xs,ρ) else none:=zR rfl
noncomputable def eFa (g:List D->Option D) (o:Option (List D×En)):Option (D×En):=bnd o λ p=>bnd (g p.1) λ d=>some (d,p.2)
@[simp] theorem eF_ (g:List D->Option D) (A:FA) (ρ:En):eF g A ρ=eFa g (A ρ):=zR rfl
@[simp] theorem bM5 (g:List D->Option D) (xs:List D) (ρ:En):eFa g (some (xs,ρ))=mkP (g xs) ρ:=zR rfl
@[simp] theorem bs9 (b:List D):isQ (.lst b)=false:=zR rfl
@[simp] theorem au0 (ks:List Str) (vs:List D):aA5 .dict (.dct ks vs)=true:=zR rfl
@[simp] theorem bt0 (ks:List Str) (vs:List D):isQ (.dct ks vs)=false:=zR rfl
noncomputable def bC4 (t:Ty) (o:Option (D×En)):Option (D×En):=bnd o λ p=>if isQ p.1=true then none else some (.bl (aA5 t p.1),p.2)
@[simp] theorem bQ1 (t:Ty) (F:FE) (ρ:En):eTy t F ρ=bC4 t (F ρ):=zR rfl
@[simp] theorem bC3 (t:Ty) (x:D) (ρ:En):bC4 t (some (x,ρ))=if isQ x=true then none else some (.bl (aA5 t x),ρ):=zR rfl
@[simp] theorem oN_ (ρ:En):oN ρ=some (none,ρ):=zR rfl
noncomputable def oSa (o:Option (D×En)):Option (Option Int×En):=bnd o λ p=>bnd (aT4 p.1) λ i=>some (some i,p.2)
@[simp] theorem oS_ (F:FE) (ρ:En):oS F ρ=oSa (F ρ):=zR rfl
@[simp] theorem bJ9 (i:Int) (ρ:En):oSa (some (.int i,ρ))=some (some i,ρ):=zR rfl
noncomputable def mkB (o:Option Bool) (ρ:En):Option (Bool×En):=bnd o λ b=>some (b,ρ)
@[simp] theorem bK6 (b:Bool) (ρ:En):mkB (some b) ρ=some (b,ρ):=zR rfl
noncomputable def tBa (o:Option (D×En)):Option (Bool×En):=bnd o λ p=>bnd (blB p.1) λ b=>some (b,p.2)
@[simp] theorem tB_ (F:FE) (ρ:En):tB F ρ=tBa (F ρ):=zR rfl
@[simp] theorem bH7 (b:Bool) (ρ:En):tBa (some (.bl b,ρ))=some (b,ρ):=zR rfl
noncomputable def tVa (o:Option (D×En)):Option (Bool×En):=bnd o λ p=>bnd (bf9 p.1) λ b=>some (b,p.2)
@[simp] theorem tV_ (F:FE) (ρ:En):tV F ρ=tVa (F ρ):=zR rfl
@[simp] theorem bG7 (x:D) (ρ:En):tVa (some (x,ρ))=mkB (bf9 x) ρ:=zR rfl
noncomputable def aG5 (U:FT) (o:Option (Bool×En)):Option (Bool×En):=bnd o λ p=>if p.1=true then U p.2 else some (false,p.2)
noncomputable def bm6 (U:FT) (o:Option (Bool×En)):Option (Bool×En):=bnd o λ p=>if p.1=true then some (true,p.2) else U p.2
noncomputable def aV8 (o:Option (Bool×En)):Option (Bool×En):=bnd o λ p=>some (!p.1,p.2)
@[simp] theorem bn4 (T U:FT) (ρ:En):tAnd T U ρ=aG5 U (T ρ):=zR rfl
@[simp] theorem bn2 (U:FT) (ρ:En):aG5 U (some (true,ρ))=U ρ:=zR rfl
@[simp] theorem bn3 (U:FT) (ρ:En):aG5 U (some (false,ρ))=some (false,ρ):=zR rfl
@[simp] theorem bP3 (T U:FT) (ρ:En):tOr T U ρ=bm6 U (T ρ):=zR rfl
@[simp] theorem by8 (U:FT) (ρ:En):bm6 U (some (true,ρ))=some (true,ρ):=zR rfl
@[simp] theorem by9 (U:FT) (ρ:En):bm6 U (some (false,ρ))=U ρ:=zR rfl
@[simp] theorem bH2 (T:FT) (ρ:En):tNot T ρ=aV8 (T ρ):=zR rfl
@[simp] theorem bm7 (b:Bool) (ρ:En):aV8 (some (b,ρ))=some (!b,ρ):=zR rfl
@[simp] theorem bG6 (ρ:En):tYes ρ=some (true,ρ):=zR rfl
noncomputable def bv9 (F G:FE) (o:Option (Bool×En)):Option (D×En):=bnd o λ p=>if p.1=true then F p.2 else G p.2
@[simp] theorem bQ6 (T:FT) (F G:FE) (ρ:En):eIf T F G ρ=bv9 F G (T ρ):=zR rfl
@[simp] theorem bD9 (F G:FE) (ρ:En):bv9 F G (some (true,ρ))=F ρ:=zR rfl
@[simp] theorem bE0 (F G:FE) (ρ:En):bv9 F G (some (false,ρ))=G ρ:=zR rfl
noncomputable def aP2 (G:FE) (o:Option (D×En)):Option (D×En):=bnd o λ p=>bnd (blB p.1) λ b=>if b=true then G p.2 else some (.bl false,p.2)
noncomputable def bv5 (G:FE) (o:Option (D×En)):Option (D×En):=bnd o λ p=>bnd (blB p.1) λ b=>if b=true then some (.bl true,p.2) else G p.2
@[simp] theorem bM6 (F G:FE) (ρ:En):aP3 F G ρ=aP2 G (F ρ):=zR rfl
@[simp] theorem bw0 (G:FE) (ρ:En):aP2 G (some (.bl true,ρ))=G ρ:=zR rfl
@[simp] theorem bw1 (G:FE) (ρ:En):aP2 G (some (.bl false,ρ))=some (.bl false,ρ):=zR rfl
@[simp] theorem bQ2 (F G:FE) (ρ:En):eOr F G ρ=bv5 G (F ρ):=zR rfl
@[simp] theorem bC5 (G:FE) (ρ:En):bv5 G (some (.bl true,ρ))=some (.bl true,ρ):=zR rfl
@[simp] theorem bC6 (G:FE) (ρ:En):bv5 G (some (.bl false,ρ))=G ρ:=zR rfl
noncomputable def imA (o:Option Sl) (q:Option En):Option En:=bnd o λ s=>bnd q λ r=>some (s::r)
@[simp] theorem bL5 (s:Sl) (r:En):imA (some s) (some r)=some (s::r):=zR rfl
@[simp] theorem bI1 (d:D):slI (some (.im d))=some (.im d):=zR rfl
@[simp] theorem bB8 (ρ:En):N_0 ρ []=some []:=zR rfl
@[simp] theorem bB9 (ρ:En) (j:Nat) (js:List Nat):N_0 ρ (j::js)=imA (slI ρ[j]?) (N_0 ρ js):=zR rfl
noncomputable def cGb (T:FT) (F:FE) (fr:En) (r:List D) (o:Option (D×En)):Option (List D):=bnd o λ q=>bnd (cGo T F fr r) λ t=>some (q.1::t)
noncomputable def cGa (T:FT) (F:FE) (fr:En) (r:List D) (o:Option (Bool×En)):Option (List D):=bnd o λ p=>if p.1=true then bnd (F p.2) λ q=>bnd (cGo T F fr r) λ t=>some (q.1::t) else cGo T F fr r
@[simp] theorem bg5 (T:FT) (F:FE) (fr:En):cGo T F fr []=some []:=zR rfl
@[simp] theorem j_6 (T:FT) (F:FE) (fr:En) (d:D) (r:List D):cGo T F fr (d::r)=cGa T F fr r (T (.im d::fr)):=zR rfl
@[simp] theorem k_6 (T:FT) (F:FE) (fr:En) (r:List D) (ρ:En):cGa T F fr r (some (true,ρ))=cGb T F fr r (F ρ):=zR rfl
@[simp] theorem I_6 (T:FT) (F:FE) (fr:En) (r:List D) (ρ:En):cGa T F fr r (some (false,ρ))=cGo T F fr r:=zR rfl
@[simp] theorem k_5 (T:FT) (F:FE) (fr:En) (r:List D) (x:D) (ρ:En):cGb T F fr r (some (x,ρ))=bG2 x (cGo T F fr r):=zR rfl
@[simp] theorem bs6 (xs:List D):items (.lst xs)=some xs:=zR rfl
@[simp] theorem bs5 (xs:List D):items (.tup xs)=some xs:=zR rfl
noncomputable def bf3 (ρ:En) (xs:List D) (o:Option (List D)):Option (D×En):=bnd o λ ys=>if xs.length<=sizeLine then some (.lst ys,ρ) else none
noncomputable def bv7 (T:FT) (F:FE) (ρ:En) (xs:List D) (o:Option En):Option (D×En):=bnd o λ fr=>bf3 ρ xs (cGo T F fr xs)
noncomputable def bv8 (js:List Nat) (T:FT) (F:FE) (ρ:En) (o:Option (List D)):Option (D×En):=bnd o λ xs=>bv7 T F ρ xs (N_0 ρ js)
noncomputable def bD7 (js:List Nat) (T:FT) (F:FE) (o:Option (D×En)):Option (D×En):=bnd o λ p=>bv8 js T F p.2 (items p.1)
@[simp] theorem bQ5 (js:List Nat) (I:FE) (T:FT) (F:FE) (ρ:En):eLC js I T F ρ=bD7 js T F (I ρ):=zR rfl
@[simp] theorem bD6 (js:List Nat) (T:FT) (F:FE) (x:D) (ρ:En):bD7 js T F (some (x,ρ))=bv8 js T F ρ (items x):=zR rfl
@[simp] theorem bD5 (js:List Nat) (T:FT) (F:FE) (ρ:En) (xs:List D):bv8 js T F ρ (some xs)=bv7 T F ρ xs (N_0 ρ js):=zR rfl
@[simp] theorem bD4 (T:FT) (F:FE) (ρ:En) (xs:List D) (fr:En):bv7 T F ρ xs (some fr)=bf3 ρ xs (cGo T F fr xs):=zR rfl
@[simp] theorem bD3 (ρ:En) (xs ys:List D):bf3 ρ xs (some ys)=if xs.length<=sizeLine then some (.lst ys,ρ) else none:=zR rfl
@[simp] theorem sN_ (ρ:En):sN ρ=some (.nx ρ):=zR rfl
noncomputable def aH5 (G:FS) (o:Option Res):Option Res:=bnd o λ r=>nxR G r
@[simp] theorem bI4 (F G:FS) (ρ:En):b_6 F G ρ=aH5 G (F ρ):=zR rfl
@[simp] theorem bo0 (G:FS) (ρ:En):aH5 G (some (.nx ρ))=G ρ:=zR rfl
@[simp] theorem bn9 (G:FS) (d:D) (ρ:En):aH5 G (some (.rt d ρ))=some (.rt d ρ):=zR rfl
noncomputable def aX2 (i:Nat) (o:Option (D×En)):Option Res:=bnd o λ p=>some (.nx (p.2.set i (.im p.1)))
@[simp] theorem bI3 (i:Nat) (F:FE) (ρ:En):f_1 i F ρ=aX2 i (F ρ):=zR rfl
@[simp] theorem bn8 (i:Nat) (x:D) (ρ:En):aX2 i (some (x,ρ))=some (.nx (ρ.set i (.im x))):=zR rfl
@[simp] theorem bi2 (i:Nat) (is:List Nat) (d:D) (ds:List D) (ρ:En):o_7 (i::is) (d::ds) ρ=o_7 is ds (ρ.set i (.im d)):=zR rfl
@[simp] theorem bi1 (ds:List D) (ρ:En):o_7 [] ds ρ=ρ:=by cases ds <;> exact Eq.trans rfl rfl
@[simp] theorem by4 (xs:List D):bm2 (.tup xs)=some xs:=zR rfl
noncomputable def gTa (is:List Nat) (ρ:En) (o:Option (List D)):Option En:=bnd o λ xs=>if xs.length=is.length then some (o_7 is xs ρ) else none
@[simp] theorem gT_ (is:List Nat) (d:D) (ρ:En):gT is d ρ=gTa is ρ (bm2 d):=zR rfl
@[simp] theorem bL8 (is:List Nat) (ρ:En) (xs:List D):gTa is ρ (some xs)=if xs.length=is.length then some (o_7 is xs ρ) else none:=zR rfl
noncomputable def aH2 (o:Option En):Option Res:=bnd o λ ρ=>some (.nx ρ)
noncomputable def aW8 (is:List Nat) (o:Option (D×En)):Option Res:=bnd o λ p=>aH2 (gT is p.1 p.2)
@[simp] theorem bI2 (is:List Nat) (F:FE) (ρ:En):ac2 is F ρ=aW8 is (F ρ):=zR rfl
@[simp] theorem bn7 (is:List Nat) (x:D) (ρ:En):aW8 is (some (x,ρ))=aH2 (gT is x ρ):=zR rfl
@[simp] theorem bn6 (ρ:En):aH2 (some ρ)=some (.nx ρ):=zR rfl
noncomputable def bo3 (F G:FS) (o:Option (Bool×En)):Option Res:=bnd o λ p=>if p.1=true then F p.2 else G p.2
@[simp] theorem bI7 (T:FT) (F G:FS) (ρ:En):sIf T F G ρ=bo3 F G (T ρ):=zR rfl
@[simp] theorem bz2 (F G:FS) (ρ:En):bo3 F G (some (true,ρ))=F ρ:=zR rfl
@[simp] theorem bz3 (F G:FS) (ρ:En):bo3 F G (some (false,ρ))=G ρ:=zR rfl
noncomputable def aH6 (o:Option (D×En)):Option Res:=bnd o λ p=>some (.rt p.1 p.2)
@[simp] theorem bI5 (F:FE) (ρ:En):f_2 F ρ=aH6 (F ρ):=zR rfl
@[simp] theorem bo1 (x:D) (ρ:En):aH6 (some (x,ρ))=some (.rt x ρ):=zR rfl
noncomputable def fGb (g:D->En->Option En) (B:FS) (r:List D) (o:Option Res):Option Res:=bnd o λ z=>goR (fGo g B r) z
noncomputable def fGa (g:D->En->Option En) (B:FS) (r:List D) (o:Option En):Option Res:=bnd o λ O=>fGb g B r (B O)
theorem y_8 (g:D->En->Option En) (B:FS) (d:D) (r:List D) (ρ:En):fGo g B (d::r) ρ=fGa g B r (g d ρ):=zR rfl
@[simp] theorem z_0 (g:D->En->Option En) (B:FS) (r:List D) (ρ:En):fGa g B r (some ρ)=fGb g B r (B ρ):=zR rfl
@[simp] theorem y_9 (g:D->En->Option En) (B:FS) (r:List D) (ρ:En):fGb g B r (some (.nx ρ))=fGo g B r ρ:=zR rfl
@[simp] theorem bu7 (g:D->En->Option En) (B:FS) (r:List D) (d:D) (ρ:En):fGb g B r (some (.rt d ρ))=some (.rt d ρ):=zR rfl
noncomputable def aH9 (g:D->En->Option En) (B:FS) (ρ:En) (o:Option (List D)):Option Res:=bnd o λ xs=>fGo g B xs ρ
noncomputable def aX5 (g:D->En->Option En) (B:FS) (o:Option (D×En)):Option Res:=bnd o λ p=>aH9 g B p.2 (items p.1)
@[simp] theorem bI9 (g:D->En->Option En) (F:FE) (B:FS) (ρ:En):ac3 g F B ρ=aX5 g B (F ρ):=zR rfl
@[simp] theorem bo5 (g:D->En->Option En) (B:FS) (x:D) (ρ:En):aX5 g B (some (x,ρ))=aH9 g B ρ (items x):=zR rfl
@[simp] theorem bo4 (g:D->En->Option En) (B:FS) (ρ:En) (xs:List D):aH9 g B ρ (some xs)=fGo g B xs ρ:=zR rfl
noncomputable def aX7 (o:Option (D×En)):Option (List D×En):=bnd o λ p=>bnd (aT4 p.1) λ j=>if -(2 ^ 62)<=j/\j<2 ^ 62 then some (r_1 0 j.toNat,p.2) else none
@[simp] theorem bJ3 (F:FE) (ρ:En):P_8 F ρ=aX7 (F ρ):=zR rfl
@[simp] theorem bp5 (j:Int) (ρ:En):aX7 (some (.int j,ρ))=if -(2 ^ 62)<=j/\j<2 ^ 62 then some (r_1 0 j.toNat,ρ) else none:=zR rfl
noncomputable def ay6 (g:D->En->Option En) (B:FS) (o:Option (List D×En)):Option Res:=bnd o λ p=>fGo g B p.1 p.2
@[simp] theorem bz4 (g:D->En->Option En) (X:FA) (B:FS) (ρ:En):Z_6 g X B ρ=ay6 g B (X ρ):=zR rfl
@[simp] theorem bi6 (g:D->En->Option En) (B:FS) (xs:List D) (ρ:En):ay6 g B (some (xs,ρ))=fGo g B xs ρ:=zR rfl
noncomputable def fnA (o:Option Res):Option D:=bnd o λ r=>bp6 r
@[simp] theorem bM1 (d:D) (ρ:En):fnA (some (.rt d ρ))=some d:=zR rfl
@[simp] theorem bQ0 (n k:Nat) (B:FS) (ds:List D):fnD n k B ds=if ds.length=n then fnA (B (ds.map .im++List.replicate k .no)) else none:=zR rfl
noncomputable def ba9 (o:Option (List D×En)):Option (List D×En):=bnd o λ p=>if p.1.length<=1000 then some p else none
@[simp] theorem bK0 (A:FA) (ρ:En):aT3 A ρ=ba9 (A ρ):=zR rfl
@[simp] theorem br4 (xs:List D) (ρ:En):ba9 (some (xs,ρ))=if xs.length<=1000 then some (xs,ρ) else none:=zR rfl
noncomputable def aX3 (i:Nat) (o:Option (List D×En)):Option Res:=bnd o λ p=>some (.nx (p.2.set i (.ow false (.lst p.1))))
@[simp] theorem bI6 (i:Nat) (A:FA) (ρ:En):aH7 i A ρ=aX3 i (A ρ):=zR rfl
@[simp] theorem bo2 (i:Nat) (xs:List D) (ρ:En):aX3 i (some (xs,ρ))=some (.nx (ρ.set i (.ow false (.lst xs)))):=zR rfl
@[simp] theorem bJ7 (ds:List D):owL (some (.ow false (.lst ds)))=some ds:=zR rfl
noncomputable def aI0 (i:Nat) (x:D) (ρ:En) (o:Option (List D)):Option Res:=bnd o λ ds=>if ds.length<1000000 then some (.nx (ρ.set i (.ow false (.lst (ds++[x]))))) else none
noncomputable def aI1 (i:Nat) (o:Option (D×En)):Option Res:=bnd o λ p=>aI0 i p.1 p.2 (owL p.2[i]?)
noncomputable def aX6 (i:Nat) (F:FE) (ρ:En) (o:Option (List D)):Option Res:=bnd o λ _=>aI1 i (F ρ)
@[simp] theorem bJ1 (i:Nat) (F:FE) (ρ:En):aI2 i F ρ=aX6 i F ρ (owL ρ[i]?):=zR rfl
@[simp] theorem bp4 (i:Nat) (F:FE) (ρ:En) (ds:List D):aX6 i F ρ (some ds)=aI1 i (F ρ):=zR rfl
@[simp] theorem bp3 (i:Nat) (x:D) (ρ:En):aI1 i (some (x,ρ))=aI0 i x ρ (owL ρ[i]?):=zR rfl
@[simp] theorem bp2 (i:Nat) (x:D) (ρ:En) (ds:List D):aI0 i x ρ (some ds)=if ds.length<1000000 then some (.nx (ρ.set i (.ow false (.lst (ds++[x]))))) else none:=zR rfl
noncomputable def bu4 (i:Nat) (ρ:En):Option Sl->En
 |some (.ow false (.lst ds))=>ρ.set i (.im (.lst ds))
 |_=>ρ
@[simp] theorem bP8 (i:Nat) (ρ:En):frz i ρ=bu4 i ρ ρ[i]?:=by unfold frz bu4;split <;> simp_all
@[simp] theorem bC2 (i:Nat) (ρ:En) (ds:List D):bu4 i ρ (some (.ow false (.lst ds)))=ρ.set i (.im (.lst ds)):=zR rfl
@[simp] theorem bI8 (i:Nat) (F:FS) (ρ:En):aH8 i F ρ=F (frz i ρ):=zR rfl
noncomputable def bv6 (T:FT) (F:FE) (ρ:En) (xs:List D) (o:Option En):Option (D×En):=bnd o λ fr=>bf3 ρ xs (cGo T F fr xs)
noncomputable def bD2 (js:List Nat) (T:FT) (F:FE) (o:Option (List D×En)):Option (D×En):=bnd o λ p=>bv6 T F p.2 p.1 (N_0 p.2 js)
@[simp] theorem bQ4 (js:List Nat) (R:FA) (T:FT) (F:FE) (ρ:En):eLR js R T F ρ=bD2 js T F (R ρ):=zR rfl
@[simp] theorem bD1 (js:List Nat) (T:FT) (F:FE) (xs:List D) (ρ:En):bD2 js T F (some (xs,ρ))=bv6 T F ρ xs (N_0 ρ js):=zR rfl
@[simp] theorem bD0 (T:FT) (F:FE) (ρ:En) (xs:List D) (fr:En):bv6 T F ρ xs (some fr)=bf3 ρ xs (cGo T F fr xs):=zR rfl
end Fx
namespace Fx
open PySem PySem.Spec PyProof.Rows L2
theorem RS.heNone {K:Frag}{c:FC}{H0 H:Hp}{ρ:En}{σ:L2.St} (R:RS K c H0 H ρ σ) {p:Addr} (O:H p=none):c.He p=none:=by
 cases q:c.He p with
 |none=>rfl
 |some u =>
  by_cases Y:p∈c.Ap
  ·exact absurd O (R.apt p Y)
  ·rw[R.keep p u q Y] at O;cases O
theorem RS.setOwn {K:Frag}{c:FC}{H0 H:Hp}{ρ:En}{σ:L2.St}{p:Addr}{u:HO}{o:MO} (R:RS K c H0 H ρ σ) (i:Nat) (hp:H p=none) (r:OwOk K H0 (upd H p u) p o) :
  RS K c H0 (upd H p u) (ρ.set i (.ow false o)) (σ.set i (some (.ref p))):=by
 have hl:=R.len;have h0:H0 p=none:=R.same.free hp;have he:=R.heNone hp;have up:∀ b v,H b=some v->(upd H p u) b=some v:=λ b v e=>by rw[a_3 (a_6 e hp)];exact e
 have Y:∀ (j:Nat) (sl:Sl),j≠i->(ρ.set i (.ow false o))[j]?=some sl->ρ[j]?=some sl:=λ j sl Z e=>by rwa [List.getElem?_set_ne (Ne.symm Z)] at e
 have O:∀ (j:Nat),j≠i->(σ.set i (some (V.ref p)))[j]?=σ[j]?:=λ j Z=>List.getElem?_set_ne (Ne.symm Z)
 have same:∀ (sl:Sl),(ρ.set i (.ow false o))[i]?=some sl->sl=.ow false o/\i<ρ.length:=λ sl e=>by
  by_cases hi:i<ρ.length
  ·rw[List.getElem?_set_self hi] at e;exact⟨(qi e).symm,hi⟩
  ·rw[List.getElem?_eq_none (by rw[List.length_set];omega)] at e;cases e
 have aa:∀ (j:Nat) (b:Bool) (o:MO) (a:Addr),ρ[j]?=some (.ow b o)->σ[j]?=some (some (.ref a))->a≠p:=λ j b o a e1 e2=>by
  obtain⟨a',x,_,_,w⟩:=R.ow j b o e1;rw[x] at e2;cases e2;obtain⟨u,q⟩:=w.some;exact a_6 q hp
 refine⟨λ b u e=>up b u (R.same b u e),R.init,R.fresh,λ b o e n=>up b o (R.keep b o e n),λ a ha e=>?_,by rw[List.length_set,List.length_set,hl],λ j d' e=>?_,λ j bb o' e=>?_,λ j k b1 b2 o1 o2 a e1 e2 e3 e4=>?_⟩
 ·cases q:H a with
  |none=>exact R.apt a ha q
  |some v=>rw[up a v q] at e;cases e
 ·by_cases Z:j=i
  ·subst Z;obtain⟨e',_⟩:=same _ e;cases e'
  ·rw[O j Z];exact R.im j d' (Y j _ Z e)
 ·by_cases Z:j=i
  ·subst Z
   obtain⟨e',hi⟩:=same _ e;cases e';exact⟨p,by rw[List.getElem?_set_self (by omega)],h0,he,r⟩
  ·rw[O j Z]
   obtain⟨a,x,y,z,w⟩:=R.ow j bb o' (Y j _ Z e);exact⟨a,x,y,z,w.step (Same.refl _) λ v q=>up a v q⟩
 ·by_cases Z:j=i
  ·by_cases hk:k=i
   ·omega
   ·subst Z
    obtain⟨_,hi⟩:=same _ e1;rw[List.getElem?_set_self (by omega)] at e3
    cases e3;rw[O k hk] at e4;exact absurd rfl (aa k b2 o2 _ (Y k _ hk e2) e4)
  ·by_cases hk:k=i
   ·subst hk
    obtain⟨_,hi⟩:=same _ e2;rw[List.getElem?_set_self (by omega)] at e4
    cases e4;rw[O j Z] at e3;exact absurd rfl (aa j b1 o1 _ (Y j _ Z e1) e3)
   ·rw[O j Z] at e3;rw[O k hk] at e4
    exact R.ne j k b1 b2 o1 o2 a (Y j _ Z e1) (Y k _ hk e2) e3 e4
theorem RS.lent {K:Frag}{c:FC}{H0 H H0' H':Hp}{ρ:En}{σ:L2.St}{a:Addr}{b:Bool}{o o':MO} (R:RS K c H0 H ρ σ) {i:Nat} (hi:ρ[i]?=some (.ow b o)) (ha:σ[i]?=some (some (.ref a)))
  (s0:Same H0 H0') (s':Same H0' H') (kp:∀ x u,H x=some u->x≠a->H' x=some u) (fr:∀ x u,H0' x=some u->H0 x=some u\/H x=none) (r:OwOk K H0' H' a o') :
  RS K c H0' H' (ρ.set i (.ow b o')) σ:=by
 obtain⟨a',x,y,z,w⟩:=R.ow i b o hi;rw[ha] at x;cases x;obtain⟨ua,qa⟩:=w.some;have il:i<ρ.length:=(List.getElem?_eq_some_iff.mp hi).1
 have n0:∀ x,H0 x=none->H x≠none->H0' x=none:=λ x h1 h2=>by
  cases q:H0' x with
  |none=>rfl
  |some u =>
   rcases fr x u q with h | h
   ·rw[h1] at h;cases h
   ·exact absurd h h2
 have O:∀ (j:Nat) (sl:Sl),j≠i->(ρ.set i (.ow b o'))[j]?=some sl->ρ[j]?=some sl:=λ j sl Y e=>by rwa [List.getElem?_set_ne (Ne.symm Y)] at e
 have same:∀ (sl:Sl),(ρ.set i (.ow b o'))[i]?=some sl->sl=.ow b o':=λ sl e=>by
  rw[List.getElem?_set_self il] at e;exact (qi e).symm
 have aa:∀ (j:Nat) (Z:Bool) (oo:MO),(ρ.set i (.ow b o'))[j]?=some (.ow Z oo)->∃ Z ab,ρ[j]?=some (.ow Z ab):=λ j Z oo e=>by
  by_cases Y:j=i
  ·exact⟨b,o,by rw[Y];exact hi⟩
  ·exact⟨Z,oo,O j _ Y e⟩
 refine⟨s',R.init.trans s0,λ x u e=>?_,λ x u e n=>?_,λ x hx e=>?_,by rw[List.length_set];exact R.len,λ j d' e=>?_,λ j Z oo e=>?_,λ j k b1 b2 o1 o2 x e1 e2 e3 e4=>?_⟩
 ·rcases fr x u e with h | h
  ·exact R.fresh x u h
  ·exact .inr (R.heNone h)
 ·have:x≠a:=λ h=>by
   cases b with
   |true=>exact n (h▸z)
   |false =>
    have z':c.He a=none:=z;rw[h,z'] at e;cases e
  exact kp x u (R.keep x u e n) this
 ·by_cases h:x=a
  ·obtain⟨u,q⟩:=r.some
   rw[h,q] at e;cases e
  ·cases q:H x with
   |none=>exact R.apt x hx q
   |some u=>rw[kp x u q h] at e;cases e
 ·by_cases Y:j=i
  ·subst Y;cases same _ e
  ·obtain⟨v,a1,a2⟩:=R.im j d' (O j _ Y e)
   exact⟨v,a1,Rep.mono s0 _ a2⟩
 ·by_cases Y:j=i
  ·subst Y
   cases same _ e;exact⟨a,ha,n0 a y (by rw[qa];intro h;cases h),z,r⟩
  ·have q':=O j _ Y e
   obtain⟨x,x1,y1,z1,w1⟩:=R.ow j Z oo q';have nx:x≠a:=λ h=>Y (R.ne j i Z b oo o x q' hi x1 (by rw[h];exact ha))
   obtain⟨u,qu⟩:=w1.some;exact⟨x,x1,n0 x y1 (by rw[qu];intro h;cases h),z1,w1.step s0 λ v q=>kp x v q nx⟩
 ·obtain⟨_,p,e1⟩:=aa j b1 o1 e1
  obtain⟨_,q,e2⟩:=aa k b2 o2 e2;exact R.ne j k _ _ p q x e1 e2 e3 e4
theorem RS.mutOwn {K:Frag}{c:FC}{H0 H:Hp}{ρ:En}{σ:L2.St}{a:Addr}{b:Bool}{o o':MO}{u:HO} (R:RS K c H0 H ρ σ) {i:Nat} (hi:ρ[i]?=some (.ow b o)) (O:σ[i]?=some (some (.ref a))) (r:OwOk K H0 (upd H a u) a o') :
  RS K c H0 (upd H a u) (ρ.set i (.ow b o')) σ:=by
 obtain⟨Y,x,y,z,w⟩:=R.ow i b o hi;rw[O] at x;cases x;refine R.lent hi O (Same.refl _) (λ x v e=>?_) (λ x v e n=>by rw[a_3 n];exact e) (λ x v e=>.inl e) r
 have:x≠a:=λ h=>by rw[h,y] at e;cases e
 rw[a_3 this];exact R.same x v e
theorem RS.freeze {K:Frag}{c:FC}{H0 H:Hp}{ρ:En}{σ:L2.St}{ds:List D} (R:RS K c H0 H ρ σ) {i:Nat} (hi:ρ[i]?=some (.ow false (.lst ds))) :
  ∃ H0',Same H0 H0'/\RS K c H0' H (ρ.set i (.im (.lst ds))) σ:=by
 obtain⟨a,x,y,z,vs,e,r⟩:=R.ow i _ _ hi;have he:c.He a=none:=z;have il:i<ρ.length:=(List.getElem?_eq_some_iff.mp hi).1;have s0:Same H0 (upd H0 a (.lst vs)):=λ b u q=>by rw[a_3 (a_6 q y)];exact q
 have O:∀ (j:Nat) (Z:Sl),j≠i->(ρ.set i (.im (.lst ds)))[j]?=some Z->ρ[j]?=some Z:=λ j Z Y e=>by rwa [List.getElem?_set_ne (Ne.symm Y)] at e
 have same:∀ (Z:Sl),(ρ.set i (.im (.lst ds)))[i]?=some Z->Z=.im (.lst ds):=λ Z e=>by
  rw[List.getElem?_set_self il] at e;exact (qi e).symm
 refine⟨upd H0 a (.lst vs),s0,λ b u q=>?_,R.init.trans s0,λ b u q=>?_,R.keep,R.apt,by rw[List.length_set];exact R.len,λ j d' q=>?_,λ j bb o' q=>?_,λ j k b1 b2 o' aa b e1 e2 e3 e4=>?_⟩
 ·by_cases h:b=a
  ·subst h;rw[a_2] at q;cases q;exact e
  ·rw[a_3 h] at q;exact R.same b u q
 ·by_cases h:b=a
  ·subst h;exact .inr he
  ·rw[a_3 h] at q;exact R.fresh b u q
 ·by_cases Y:j=i
  ·subst Y
   cases same _ q;refine⟨.ref a,x,?_⟩;unfold Rep;exact⟨a,vs,rfl,.inl (.inl a_2),Reps.mono s0 _ r⟩
  ·obtain⟨v,a1,a2⟩:=R.im j d' (O j _ Y q)
   exact⟨v,a1,Rep.mono s0 _ a2⟩
 ·by_cases Y:j=i
  ·subst Y;cases same _ q
  ·have q':=O j _ Y q
   obtain⟨b,x1,y1,z1,w1⟩:=R.ow j bb o' q';have nb:b≠a:=λ h=>Y (R.ne j i bb false o' _ b q' hi x1 (by rw[h];exact x))
   exact⟨b,x1,by rw[a_3 nb];exact y1,z1,w1.step s0 λ u q=>q⟩
 ·by_cases Y:j=i
  ·subst Y;cases same _ e1
  ·by_cases hk:k=i
   ·subst hk;cases same _ e2
   ·exact R.ne j k b1 b2 o' aa b (O j _ Y e1) (O k _ hk e2) e3 e4
noncomputable def tEo (K:Frag) (A:FA):TE:=λ σ H Q=>∃ c H0 ρ ds O,RS K c H0 H ρ σ/\A ρ=some (ds,O)/\∀ p vs H0' H',Same H0 H0'->RS K c H0' H' O σ->H' p=none->Reps K H0' ds vs->Q (.ref p) (upd H' p (.lst vs))
noncomputable def XO' (X:Cx) (e:Expr) (A:FA):Prop:=PE X e (tEo X.K A)
theorem D_2 {o:Option Sl}{ds:List D} (h:owL o=some ds):o=some (.ow false (.lst ds)):=by
 unfold owL at h
 split at h
 ·cases h;rfl
 ·cases h
section
variable {X:Cx}{pos:Pos}{e:Expr}{F:FE}{T:FT}{A B:FA}
theorem aD4 {es:List Expr} (h:XA X es A):XO' X (.List es pos) (aT3 A):=PE.wk (az3 h) λ σ H Q O=>by
 obtain⟨c,H0,ρ,ds,ab,R,f,q⟩:=O;unfold aT3 at f;obtain⟨⟨aa,ac⟩,h1,f⟩:=a_1 f;obtain⟨hl,f'⟩:=ifs f;cases f';exact⟨c,H0,ρ,ds,_,R,h1,λ vs H1 Hh s1 Z Y=>⟨by rw[<- Y.length];exact aG6 hl,λ p hp=>q p vs H1 Hh s1 Z hp Y⟩⟩
theorem bh6 (i:Nat) {x:Str}{pos':Pos} (hN:X.N.Nodup) (Z:XO' X e A) (hi:X.N[i]?=some x:=by rfl) (hx:Loc X.env.scope x:=by first | exact Or.inl rfl | exact Or.inr rfl) (hs:swapsWith e (some (.Name x pos')) pos.line X.env=pure false:=by rfl)
  (hf:X.fn x=true\/X.env.scope.names.lookup x=some .local:=by first | exact .inl rfl | exact .inr rfl):XS X (.Assign [.Name x pos'] e pos) (aH7 i A):=PS.wk (K_9 hN hi hx Z hs hf) λ Dn σ H O=>by
 obtain⟨c,H0,ρ,r,R,f,q⟩:=O;unfold aH7 at f;obtain⟨⟨ds,Y⟩,h1,f⟩:=a_1 f;have f':some (Res.nx (Y.set i (.ow false (.lst ds))))=some r:=f;cases f';exact⟨c,H0,ρ,ds,Y,R,h1,λ p vs H1 Hh s1 R1 hp r1=>q _ H1 _ s1 (R1.setOwn (o:=.lst ds) (u:=.lst vs) i hp ⟨vs,a_2,r1⟩)⟩
theorem bm1 (i:Nat) {x:Str}{p1 p2 Z:Pos} (ha:XA X [e] (aC F aN)) (hN:X.N[i]?=some x:=by rfl) (hv:Vis X.env.scope x:=by first | exact Or.inl rfl | exact Or.inr (Or.inl rfl) | exact Or.inr (Or.inr rfl)) (hd:(x==("__debug__":Str))=false:=by decide)
  (ad:(x==("__classdict__":Str))=false:=by decide) (Y:attributeBase (.Name x p1) "append" X.env (eval (.Name x p1) X.env)=eval (.Name x p1) X.env:=by rfl)
  (ab:((backTo Z (starEach [e] X.env)).all (λ x=>!x.1)&&(backToKw Z (keywordEach [] X.env)).all (λ x=>x.1.isSome)&&decide ([e].length+([]:List Keyword).length+(if ([]:List Keyword).isEmpty then 0 else 1)<30))=true:=by rfl)
  (O:(p2.endLine==Z.line)=true:=by rfl) (af:starEach [e] X.env=(false,eval e X.env)::starEach [] X.env:=by rfl) (ag:(backTo Z (starEach [] X.env)).any (·.1)=false:=by rfl)
  (hs:swapsWith (.Call (.Attribute (.Name x p1) "append" p2) [e] [] Z) none pos.line X.env=pure false:=by rfl) :
  XS X (.Expr (.Call (.Attribute (.Name x p1) "append" p2) [e] [] Z) pos) (aI2 i F) :=
 PS.wk (F_3 (at0 PySem.F.plainAttrs_list PySem.F.slot_list_append PySem.F.type_list_append y_0 (m_7 hN hv hd ad) ha Y ab O af ag) hs) λ Dn σ H aa=>by
  obtain⟨c,H0,ρ,r,R,f,q⟩:=aa;unfold aI2 at f;obtain⟨ah,h0,f⟩:=a_1 f;obtain⟨⟨d,ac⟩,h1,f⟩:=a_1 f;obtain⟨ds,h2,f⟩:=a_1 f;dsimp only at h2 f;obtain⟨hl,f'⟩:=ifs f;cases f';obtain⟨a,x1,_,_,ae,y1,_⟩:=R.ow i _ _ (D_2 h0);refine⟨.ref a,x1,.inl ⟨rfl,ae,SqL.of y1⟩,c,H0,ρ,[d],ac,R,by unfold aC aN;rw[h1];rfl,λ vs H1 Hh s1 R1 r1=>?_⟩
  obtain⟨v,rfl,rv⟩:=Reps.v1 r1;obtain⟨a',x2,_,_,ws,y2,z2⟩:=R1.ow i _ _ (D_2 h2);rw[x1] at x2;cases x2;refine⟨a,ws,v,rfl,rfl,y2,?_,?_⟩
  ·rw[<- z2.length]
   exact qq hl (by rw[sizeLine_eq];decide)
  ·exact q σ H1 _ s1 (R1.mutOwn (o':=.lst (ds++[d])) (u:=.lst (ws++[v])) (D_2 h2) x1 ⟨_,a_2,z2.app (Reps.one rv)⟩)
theorem bh8 (i:Nat) {st:Stmt}{G:FS} (h:XS X st G):XS X st (aH8 i G):=PS.wk h λ Dn σ H O=>by
 obtain⟨c,H0,ρ,r,R,f,q⟩:=O;unfold aH8 frz at f;cases z:ρ[i]? with
 |none=>rw[z] at f;exact⟨c,H0,ρ,r,R,f,q⟩
 |some Y =>
  rw[z] at f;cases Y with
  |no=>exact⟨c,H0,ρ,r,R,f,q⟩
  |im d=>exact⟨c,H0,ρ,r,R,f,q⟩
  |ow b o =>
   cases b with
   |true=>exact⟨c,H0,ρ,r,R,f,q⟩
   |false =>
   cases o with
   |dic kds=>exact⟨c,H0,ρ,r,R,f,q⟩
   |lst ds =>
    obtain⟨H0',s0,Z⟩:=R.freeze z;exact⟨c,H0',_,r,Z,f,q.mono s0⟩
end
section
variable {X:Cx}{scope sc:Scope}{x:Str}{frees:List Str}{js:List Nat}{px pos p pos':Pos}{elt a b:Expr}{ifs:List Expr}{F G I:FE}{T:FT}
theorem ak7 {R:FA}{ρ O:En}{d:D} (h:eLR js R T F ρ=some (d,O)):∃ xs fr ys,R ρ=some (xs,O)/\N_0 O js=some fr/\cGo T F fr xs=some ys/\xs.length<=sizeLine/\d=.lst ys:=by
 unfold eLR at h;obtain⟨⟨xs,aa⟩,h1,h⟩:=a_1 h;obtain⟨fr,Z,h⟩:=a_1 h;obtain⟨ys,Y,h⟩:=a_1 h;dsimp only at Z Y h;obtain⟨hz,h⟩:=Fx.ifs h;cases h;exact⟨xs,fr,ys,h1,Z,Y,hz,rfl⟩
theorem bh7 (hm:X.mg "range"=none) (hc:X.calm=true) (ab:X.env.scope=sc) (B:ScB X.N sc scope x frees js) (ha:XE X a F) (ht:∀ s H C Z,XTs (cxB X (x::frees) scope s H C Z) ifs T) (he:∀ s H C Z,XE (cxB X (x::frees) scope s H C Z) elt I)
  (aa:Gl X "range":=by rfl) (Y:starEach [a] X.env=[(false,eval a X.env)]:=by rfl)
  (hs:∀ v,foldedSetIterable (.Call (.Name "range" p) [a] [] pos') X.env v=pure v:=by intro _;rfl):XE X (.ListComp elt [⟨.Name x px,.Call (.Name "range" p) [a] [] pos',ifs,0⟩] scope pos) (eLR js (P_8 F) T I) :=
 PE.wk (aK0 (tt:=tTt X.K T) (te:=tE X.K I) hc ab B (x_3 aa hm (f_5 ha o_1 Y) Y) ht he hs) λ σ H Q O=>by
  obtain⟨c,H0,ρ,d,ad,R,f,q⟩:=O;obtain⟨xs,fr,ys,h1,h3,h4,hz,rfl⟩:=ak7 f;unfold P_8 at h1;obtain⟨⟨d1,ac⟩,g1,h1⟩:=a_1 h1;obtain⟨i,g3,h1⟩:=a_1 h1;dsimp only at g3 h1;obtain⟨hj,h1⟩:=Fx.ifs h1;cases h1;refine⟨c,H0,ρ,d1,_,R,g1,λ v H1 Hh s1 R1 r1=>?_⟩
  cases d1 with
  |int k =>
   have e:k=i:=qi g3;subst e;unfold Rep at r1;subst r1;refine⟨k,rfl,hj.1,hj.2,at7 R1 h3 h4 hz (t_0 0 k.toNat) λ vs H3 Hh3 s3 R3 r3=>λ p hp=>?_⟩
   have S:=Step.alloc (o:=.lst vs) R3.same hp;refine q _ _ _ (s1.trans (s3.trans S.s0)) (R3.after S) ?_;unfold Rep;exact⟨p,vs,rfl,.inl (.inl a_2),Reps.mono S.s0 _ r3⟩
  |_=>cases g3
end
end Fx
namespace Fx
open PySem
noncomputable def f_3:D->D->Option D
 |.int i,.int j=>some (.int (Builtin.bitAnd i j))
 |_,_=>none
noncomputable def aP9:D->D->Option D
 |.int i,.int j=>some (.int (Builtin.bitXor i j))
 |_,_=>none
noncomputable def l_9:D->D->Option D
 |.int i,.int j=>if 0<=j then some (.int (i / 2 ^ j.toNat)) else none
 |_,_=>none
noncomputable def atS (z:Str) (i:Int):Option D:=if z.length<=sizeLine then bnd (bnd (dPl z.cps.toList.length i) λ j=>z.cps.toList[j]?) λ c=>some (.str (chS c)) else none
noncomputable def b_0:D->D->Option D
 |.tup xs,.int i=>atD xs i
 |.lst xs,.int i=>atD xs i
 |.str z,.int i=>atS z i
 |_,_=>none
noncomputable def A_5:List D->Option D
 |[.lst xs]=>some (.int xs.length)
 |[.tup xs]=>some (.int xs.length)
 |[.str z]=>if z.length<=sizeLine then some (.int z.length) else none
 |_=>none
noncomputable def N_1:D->Bool
 |.opq=>false
 |.dct _ _=>false
 |.tup _=>false
 |.lst _=>false
 |_=>true
noncomputable def inD (x:D) (xs:List D):Bool:=xs.any λ y=>eqD y x
noncomputable def A_9 (x:D) (xs:List D):Bool:=N_1 x&&xs.all N_1
noncomputable def dIn:D->D->Option D
 |x,.tup xs=>if A_9 x xs=true then some (.bl (inD x xs)) else none
 |x,.lst xs=>if A_9 x xs=true then some (.bl (inD x xs)) else none
 |_,_=>none
noncomputable def bg1:D->D->Option D
 |x,.tup xs=>if A_9 x xs=true then some (.bl (!inD x xs)) else none
 |x,.lst xs=>if A_9 x xs=true then some (.bl (!inD x xs)) else none
 |_,_=>none
noncomputable def bh0:List D->Option D
 |[.int i]=>some (.int i)
 |[.bl b]=>some (.int (if b then 1 else 0))
 |_=>none
noncomputable def u_9:List D->Option D
 |[.lst xs]=>some (.tup xs)
 |[.tup xs]=>some (.tup xs)
 |_=>none
noncomputable def ac0:List D->Option D
 |[.lst xs]=>some (.lst xs)
 |[.tup xs]=>some (.lst xs)
 |_=>none
@[simp] theorem bx0 (i j:Int):f_3 (.int i) (.int j)=some (.int (Builtin.bitAnd i j)):=zR rfl
@[simp] theorem bw9 (i j:Int):aP9 (.int i) (.int j)=some (.int (Builtin.bitXor i j)):=zR rfl
@[simp] theorem bE9 (i j:Int):l_9 (.int i) (.int j)=if 0<=j then some (.int (i / 2 ^ j.toNat)) else none:=zR rfl
@[simp] theorem bF5 (xs:List D) (i:Int):b_0 (.tup xs) (.int i)=atD xs i:=zR rfl
@[simp] theorem bF7 (xs:List D) (i:Int):b_0 (.lst xs) (.int i)=atD xs i:=zR rfl
@[simp] theorem bF6 (z:Str) (i:Int):b_0 (.str z) (.int i)=atS z i:=zR rfl
@[simp] theorem bx8 (xs:List D):A_5 [.lst xs]=some (.int xs.length):=zR rfl
@[simp] theorem bx7 (xs:List D):A_5 [.tup xs]=some (.int xs.length):=zR rfl
@[simp] theorem bG3 (b:Bool):bh0 [.bl b]=some (.int (if b then 1 else 0)):=zR rfl
@[simp] theorem bk8 (xs:List D):u_9 [.lst xs]=some (.tup xs):=zR rfl
@[simp] theorem bx6 (xs:List D):ac0 [.lst xs]=some (.lst xs):=zR rfl
end Fx
namespace Fx
open PySem PySem.Spec PyProof.Rows L2
section
variable {X:Cx}{K:Frag}
theorem h_4:A_8 X .BitAnd f_3:=⟨_,ba8,w_0 λ x y d e=>by
 cases x <;> cases y <;> cases e
 exact⟨_,_,rfl,rfl,λ H=>d_2 H _⟩⟩
theorem br5:A_8 X .BitXor aP9:=⟨_,ba1,w_0 λ x y d e=>by
 cases x <;> cases y <;> cases e
 exact⟨_,_,rfl,rfl,λ H=>d_2 H _⟩⟩
theorem p_0:A_8 X .RShift l_9:=⟨_,ba3,x_6 λ x y d e=>by
 cases x with
 |int i =>
  cases y with
  |int j =>
   obtain⟨h,rfl⟩:=ifs (c:=0<=j) e;exact⟨_,_,rfl,rfl,h,λ H=>d_2 H _⟩
  |_=>cases e
 |_=>cases y <;> cases e⟩
theorem x_1 (H:Hp) (x:Str):Rep K H (.str x) (.str x):=by unfold Rep;rfl
theorem bL4:OpD K (rIx K) b_0:=λ c H0 H ρ σ x y d vx Z Q R O Y e q=>by
 cases y with
 |int i =>
  unfold Rep at Y;subst Y;cases x with
  |tup ds =>
   unfold Rep at O;obtain⟨p,vs,rfl,s,t⟩:=O;obtain⟨v,e1,e2⟩:=bh1 t e;exact .inr (.inl ⟨p,vs,i,v,rfl,rfl,Same.seqT R.same s,e1,q v H0 H (Same.refl _) R e2⟩)
  |lst ds =>
   unfold Rep at O;obtain⟨p,vs,rfl,s,t⟩:=O;obtain⟨v,e1,e2⟩:=bh1 t e;exact .inl ⟨p,vs,i,v,rfl,rfl,Same.seq R.same s,e1,q v H0 H (Same.refl _) R e2⟩
  |str z =>
   unfold Rep at O;subst O;have e:atS z i=some d:=e;unfold atS at e
   by_cases hz:z.length<=sizeLine
   ·rw[if_pos hz] at e
    obtain⟨ch,e1,e2⟩:=a_1 e;have e2:some (D.str (chS ch))=some d:=e2;cases e2;exact .inr (.inr ⟨z,i,ch,rfl,rfl,hz,e1,q _ H0 H (Same.refl _) R (x_1 H0 (chS ch))⟩)
   ·rw[if_neg hz] at e;cases e
  |_=>cases e
 |_=>cases x <;> cases e
variable {a b:Expr}{F G:FE}{pos:Pos}
theorem b_9 (Y:XE X a F) (Z:XE X b G) (O:ao3 b:=by intro _ _;rfl):XE X (.Subscript a b pos) (e2 b_0 F G):=PE.wk (bq7 bd0 Y Z O) λ σ H Q h=>T_5 bL4 h
theorem n_7:BOk X (.builtin "len") A_5:=⟨_,call_len_seq.or N_9,λ c H0 H ρ σ ds d vs Q R r e q=>by
 unfold A_5 at e
 split at e
 ·cases e
  obtain⟨v,rfl,O⟩:=Reps.v1 r;unfold Rep at O;obtain⟨p,ws,rfl,s,t⟩:=O;exact .inl ⟨p,ws,rfl,.inl (Same.seq R.same s),by rw[<- t.length];exact q _ H0 H (Same.refl _) R (d_2 _ _)⟩
 ·cases e
  obtain⟨v,rfl,O⟩:=Reps.v1 r;unfold Rep at O;obtain⟨p,ws,rfl,s,t⟩:=O;exact .inl ⟨p,ws,rfl,.inr (Same.seqT R.same s),by rw[<- t.length];exact q _ H0 H (Same.refl _) R (d_2 _ _)⟩
 ·rename_i z
  obtain⟨hz,rfl⟩:=ifs e;obtain⟨v,rfl,O⟩:=Reps.v1 r;unfold Rep at O;subst O;exact .inr ⟨z,rfl,hz,q _ H0 H (Same.refl _) R (d_2 _ _)⟩
 ·cases e⟩
theorem xTy {T:String}{g:List D → Option D}{A:FA}{x:Str}{p:Pos}{e:Expr}{es:List Expr} (o:BOk X (.type T) g) (hg:Gl X x) (hm:X.mg x=none) (hv:bootBuiltins x=some (.type T)) (ha:XA X (e::es) A) (hn:x≠"__name__":=by decide) (Y:(x==("__debug__":Str))=false:=by decide)
  (Z:starEach (e::es) X.env=(false,eval e X.env)::starEach es X.env:=by rfl) (O:(backTo pos (starEach es X.env)).any (·.1)=false:=by rfl):XE X (.Call (.Name x p) (e::es) [] pos) (eF g A):=by
 obtain⟨r,h1,h2⟩:=o;exact PE.wk (x_4 h1 hg hm hv ha hn Y Z O) λ σ H Q h=>bf5 h2 h
theorem an4:BOk X (.type "int") bh0:=⟨_,an3,λ c H0 H ρ σ ds d vs Q R r e q=>by
 unfold bh0 at e
 split at e
 ·cases e
  obtain⟨v,rfl,O⟩:=Reps.v1 r;unfold Rep at O;subst O;exact .inl ⟨_,rfl,q _ H0 H (Same.refl _) R (d_2 _ _)⟩
 ·cases e
  obtain⟨v,rfl,O⟩:=Reps.v1 r;unfold Rep at O;subst O;exact .inr ⟨_,rfl,q _ H0 H (Same.refl _) R (d_2 _ _)⟩
 ·cases e⟩
theorem aw1:BOk X (.type "list") ac0:=⟨_,u_8,λ c H0 H ρ σ ds d vs Q R r e q=>by
 unfold ac0 at e
 split at e
 ·cases e
  obtain⟨v,rfl,O⟩:=Reps.v1 r;unfold Rep at O;obtain⟨p,ws,rfl,s,t⟩:=O;refine⟨p,ws,rfl,.inl (Same.seq R.same s),λ l Y=>?_⟩
  have S:=Step.alloc (o:=.lst ws) R.same Y;refine q _ _ _ S.s0 (R.after S) ?_;unfold Rep;exact⟨l,_,rfl,.inl (.inl a_2),Reps.mono S.s0 _ t⟩
 ·cases e
  obtain⟨v,rfl,O⟩:=Reps.v1 r;unfold Rep at O;obtain⟨p,ws,rfl,s,t⟩:=O;refine⟨p,ws,rfl,.inr (Same.seqT R.same s),λ l Y=>?_⟩
  have S:=Step.alloc (o:=.lst ws) R.same Y;refine q _ _ _ S.s0 (R.after S) ?_;unfold Rep;exact⟨l,_,rfl,.inl (.inl a_2),Reps.mono S.s0 _ t⟩
 ·cases e⟩
theorem p_2:BOk X (.type "tuple") u_9:=⟨_,I_5,λ c H0 H ρ σ ds d vs Q R r e q=>by
 unfold u_9 at e
 split at e
 ·cases e
  obtain⟨v,rfl,O⟩:=Reps.v1 r;unfold Rep at O;obtain⟨p,ws,rfl,s,t⟩:=O;refine⟨p,ws,rfl,.inl ⟨Same.seq R.same s,λ l Z=>?_⟩⟩
  have S:=Step.alloc (o:=.tup ws) R.same Z;refine q _ _ _ S.s0 (R.after S) ?_;unfold Rep;exact⟨l,_,rfl,.inl (.inl a_2),Reps.mono S.s0 _ t⟩
 ·cases e
  obtain⟨v,rfl,O⟩:=Reps.v1 r;have Y:=O;unfold Rep at O;obtain⟨p,ws,rfl,s,t⟩:=O;exact⟨p,ws,rfl,.inr ⟨Same.seqT R.same s,q _ H0 H (Same.refl _) R Y⟩⟩
 ·cases e⟩
theorem H_4 {H:Hp}{d:D}{v:V} (h:N_1 d=true) (r:Rep K H d v):C_0 v=true/\∀ d' O,N_1 d'=true->Rep K H d' O->eqV v O=eqD d d':=by
 cases d with
 |tup xs=>cases h
 |lst xs=>cases h
 |opq=>cases h
 |dct ks vs=>cases h
 |_ =>
  unfold Rep at r;subst r;refine⟨rfl,λ d' O h' Y=>?_⟩
  cases d' with
  |tup xs=>cases h'
  |lst xs=>cases h'
  |opq=>cases h'
  |dct ks vs=>cases h'
  |_ =>
   unfold Rep at Y;subst Y
   first
    |(simp[eqV];done)
    |(simp[eqV,eqD];done)
    |(simp[eqV,eqD,Bool.beq_eq_decide_eq];done)
    |(unfold eqV;simp)
theorem aj3 {H:Hp}{x:D}{v:V} (O:N_1 x=true) (r:Rep K H x v):∀ {ds:List D}{vs:List V},ds.all N_1=true->Reps K H ds vs->vs.all C_0=true/\inV v vs=inD x ds
 |[],vs,_,t=>by
  unfold Reps at t;subst t;exact⟨rfl,rfl⟩
 |d::ds,vs,h,t=>by
  unfold Reps at t;obtain⟨u,us,rfl,Z,Y⟩:=t;rw[List.all_cons,Bool.and_eq_true] at h;obtain⟨i1,i2⟩:=aj3 O r h.2 Y;obtain⟨f1,f2⟩:=H_4 h.1 Z;refine⟨by rw[List.all_cons,f1,i1];rfl,?_⟩
  unfold inV inD at *;rw[List.any_cons,List.any_cons,f2 x v O r,i2]
theorem aA9 {O:Bool}{f:D->D->Option D} (hf:∀ x y d,f x y=some d->∃ xs,(y=.tup xs\/y=.lst xs)/\A_9 x xs=true/\d=.bl (if O then !inD x xs else inD x xs)):OpD K (rIn K O) f:=λ c H0 H ρ σ x y d vx vy Q R Y Z e q=>by
 obtain⟨xs,hy,ok,rfl⟩:=hf x y d e;unfold A_9 at ok;rw[Bool.and_eq_true] at ok
 rcases hy with rfl | rfl
 ·unfold Rep at Z
  obtain⟨p,ws,rfl,s,t⟩:=Z;obtain⟨i1,i2⟩:=aj3 ok.1 Y ok.2 t;exact⟨p,ws,rfl,.inr (Same.seqT R.same s),(H_4 ok.1 Y).1,i1,by rw[i2];exact q _ H0 H (Same.refl _) R (o_8 _ _)⟩
 ·unfold Rep at Z
  obtain⟨p,ws,rfl,s,t⟩:=Z;obtain⟨i1,i2⟩:=aj3 ok.1 Y ok.2 t;exact⟨p,ws,rfl,.inl (Same.seq R.same s),(H_4 ok.1 Y).1,i1,by rw[i2];exact q _ H0 H (Same.refl _) R (o_8 _ _)⟩
end
end Fx
namespace Fx
open PySem
noncomputable def r_5 (k:Str):List (Str×D)->Option D
 |[]=>none
 |q::r=>if q.1=k then some q.2 else r_5 k r
noncomputable def aH1 (k:Str) (d:D):List (Str×D)->List (Str×D)
 |[]=>[]
 |q::r=>(if q.1=k then (q.1,d) else q)::aH1 k d r
noncomputable def owD:Option Sl->Option (Bool×List (Str×D))
 |some (.ow b (.dic kds))=>some (b,kds)
 |_=>none
noncomputable def ao8:Sl->Bool
 |.ow _ _=>false
 |_=>true
noncomputable def bb9 (A:FS) (F:En->Option MO) (ρ:En):Option MO:=bnd (A ρ) λ r=>match r with
 |.nx O=>F O
 |_=>none
noncomputable def fnN (n k:Nat) (F:En->Option MO) (ds:List D):Option MO:=if ds.length=n then F (ds.map .im++List.replicate k .no) else none
end Fx
namespace Fx
open PySem PySem.Spec PyProof.Rows L2
noncomputable def m_5 (ks:List Str) (vs:List V):List (Key×V):=(ks.map Sum.inr).zip vs
theorem r_6 (k:Str) (ks:List Str) (v:V) (vs:List V):m_5 (k::ks) (v::vs)=(Sum.inr k,v)::m_5 ks vs:=rfl
section
variable {K:Frag}{H:Hp}
theorem T_3 {k:Str}{d:D}:∀ {kds:List (Str×D)}{vs:List V},Reps K H (kds.map (·.2)) vs->r_5 k kds=some d->∃ v,E_5 (m_5 (kds.map (·.1)) vs) (.inr k)=some v/\Rep K H d v
 |[],_,_,e=>by cases e
 |q::r,vs,t,e=>by
  rw[List.map_cons] at t;unfold Reps at t;obtain⟨v,vr,rfl,Z,Y⟩:=t;rw[List.map_cons,r_6];unfold r_5 at e
  by_cases O:q.1=k
  ·rw[if_pos O] at e
   cases e;exact⟨v,v_6 (by rw[O]),Z⟩
  ·rw[if_neg O] at e
   obtain⟨u,e1,e2⟩:=T_3 Y e;exact⟨u,by rw[p_7 λ z=>O (Sum.inr.inj z)];exact e1,e2⟩
theorem az7 {k:Str}{d:D}{v:V} (rv:Rep K H d v):∀ {kds:List (Str×D)}{vs:List V},Reps K H (kds.map (·.2)) vs->∃ O,(m_5 (kds.map (·.1)) vs).map (λ Z=>if Z.1=Sum.inr k then (Z.1,v) else Z)=m_5 ((aH1 k d kds).map (·.1)) O/\Reps K H ((aH1 k d kds).map (·.2)) O
 |[],vs,t=>⟨[],rfl,Reps.nil_⟩
 |q::r,vs,t=>by
  rw[List.map_cons] at t;unfold Reps at t;obtain⟨u,ur,rfl,t1,t2⟩:=t;obtain⟨O,e1,e2⟩:=az7 rv t2;unfold aH1;rw[List.map_cons,r_6,List.map_cons,e1]
  by_cases Y:q.1=k
  ·refine⟨v::O,?_,?_⟩
   ·rw[if_pos (show (Sum.inr q.1:Key)=Sum.inr k by rw[Y]),if_pos Y];rfl
   ·rw[if_pos Y];exact Reps.cons rv e2
  ·refine⟨u::O,?_,?_⟩
   ·rw[if_neg (show ¬ (Sum.inr q.1:Key)=Sum.inr k from λ z=>Y (Sum.inr.inj z)),if_neg Y];rfl
   ·rw[if_neg Y];exact Reps.cons t1 e2
theorem aY3 {k:Str}{d Y:D}{v:V}{kds:List (Str×D)}{vs:List V} (Z:Rep K H d v) (t:Reps K H (kds.map (·.2)) vs) (h:r_5 k kds=some Y) :
  ∃ O,K_8 (m_5 (kds.map (·.1)) vs) (.inr k) v=m_5 ((aH1 k d kds).map (·.1)) O/\Reps K H ((aH1 k d kds).map (·.2)) O:=by
 obtain⟨u,e,_⟩:=T_3 t h;obtain⟨O,e1,e2⟩:=az7 (k:=k) Z t;refine⟨O,?_,e2⟩;unfold K_8;rw[v_7,e,if_pos (show (some u).isSome=true from rfl)];exact e1
end
theorem af8 {o:Option Sl}{q:Bool×List (Str×D)} (h:owD o=some q):o=some (.ow q.1 (.dic q.2)):=by
 unfold owD at h
 split at h
 ·cases h;rfl
 ·cases h
section
variable {X:Cx}{pos:Pos}{e:Expr}{F:FE}{A:FA}
theorem bs3 {n:Nat} (h:n<100):n<sizeLine:=w_7 (by omega)
theorem ap4 {K:Frag}{H:Hp}{kds:List (Str×D)}{vs:List V} (t:Reps K H (kds.map (·.2)) vs):(m_5 (kds.map (·.1)) vs).length=kds.length:=by
 have O:=t.length;rw[List.length_map] at O;unfold m_5;rw[List.length_zip,List.length_map,List.length_map,<- O,Nat.min_self]
noncomputable def spB (K:Frag) (g:MO->List D->Option (D×MO)):Sp:=λ vs H Q _=>∃ O a o Y ds d o',vs=.ref a::Y/\Same O H/\O a=none/\OwOk K O H a o/\Reps K O ds Y/\g o ds=some (d,o') /\
 ∀ v Hi' H',Same O Hi'->Same Hi' H'->(∀ b u,H b=some u->b≠a->H' b=some u)->(∀ b u,Hi' b=some u->O b=some u\/H b=none)->OwOk K Hi' H' a o'->Rep K Hi' d v->Q v H'
structure DefB (P:Program) (w:World) (K:Frag) (mg:Str->Option Value) (base:Heap) (k:Nat) (x:Str) (g:MO->List D->Option (D×MO)):Prop where
 ex:∃ f fd ps,FnOk P w K mg base CX0 k f fd ps (spB K g)/\Binds K fd ps []/\keepIn K (.ref f)=true/\mg x=some (.ref f)
end
noncomputable def aw8 (K:Frag) (O H:Hp) (o:MO) (a:Addr) (Hi' H':Hp):Prop :=
 Same O Hi'/\Same Hi' H'/\Same H H'/\(∀ b u,Hi' b=some u->O b=some u\/H b=none)/\Hi' a=none/\H a=none/\OwOk K Hi' H' a o
noncomputable def spN (K:Frag) (g:List D->Option MO):Sp:=λ vs H Q _=>∃ O ds o,Same O H/\Reps K O ds vs/\g ds=some o/\∀ a Hi' H',aw8 K O H o a Hi' H'->Q (.ref a) H'
structure DefN (P:Program) (w:World) (K:Frag) (mg:Str->Option Value) (base:Heap) (k:Nat) (x:Str) (g:List D->Option MO):Prop where
 ex:∃ f fd ps,FnOk P w K mg base CX0 k f fd ps (spN K g)/\Binds K fd ps []/\keepIn K (.ref f)=true/\mg x=some (.ref f)
theorem RS.got {K:Frag}{c:FC}{H0 H H0' H':Hp}{ρ:En}{σ:L2.St}{a:Addr}{o:MO} (R:RS K c H0 H ρ σ) (i:Nat) (h:aw8 K H0 H o a H0' H'):RS K c H0' H' (ρ.set i (.ow false o)) (σ.set i (some (.ref a))):=by
 obtain⟨s0,s',s,fr,Z,aH,ok⟩:=h;obtain⟨u,hu⟩:=ok.some
 have R2:RS K c H0' (λ b=>if b=a then none else H' b) ρ σ:=R.after ⟨s0,λ b v e=>by
  have:b≠a:=λ z=>by rw[z,aH] at e;cases e
  show (if b=a then none else H' b)=some v
  rw[if_neg this];exact s b v e,λ b v e=>by
  have:b≠a:=λ z=>by rw[z,Z] at e;cases e
  show (if b=a then none else H' b)=some v;rw[if_neg this];exact s' b v e,fr⟩
 have O:upd (λ b=>if b=a then none else H' b) a u=H':=by
  funext b
  by_cases Y:b=a
  ·rw[Y,a_2,hu]
  ·rw[a_3 Y];exact if_neg Y
 have:=R2.setOwn (u:=u) (o:=o) (p:=a) i (if_pos rfl) (by rw[O];exact ok)
 rw[O] at this;exact this
section
variable {X:Cx}{pos:Pos}{e:Expr}{F:FE}{A:FA}
noncomputable def tN (K:Frag) (F:En->Option MO):TS:=λ Z σ H=>∃ Y O H0 ρ o,RS K ⟨Y,O,[]⟩ H0 H ρ σ/\F ρ=some o/\∀ a H0' H',aw8 K Y O o a H0' H'->Z.rt (.ref a) H'
noncomputable def XN (X:Cx) (O:List Stmt) (F:En->Option MO):Prop:=PSs X O (tN X.K F)
theorem xnC {st:Stmt}{rest:List Stmt}{B:FS}{N:En->Option MO} (h1:PS X st (λ Dn σ H=>∃ Hi Z H0 ρ r,RS X.K ⟨Hi,Z,[]⟩ H0 H ρ σ/\B ρ=some r/\Post X.K ⟨Hi,Z,[]⟩ Dn H0 r)) (h2:XN X rest N):XN X (st::rest) (bb9 B N) :=
 PSs.wk (q_2 h1 h2) λ Dn σ H Y=>by
  obtain⟨Hi,Z,H0,ρ,o,R,f,q⟩:=Y;unfold bb9 at f;obtain⟨z,h,f⟩:=a_1 f;refine⟨Hi,Z,H0,ρ,z,R,h,?_⟩;cases z with
  |nx O=>exact λ aa H0' H' s R'=>⟨Hi,Z,H0',O,o,R',f,q⟩
  |rt d O=>cases f
  |bk O=>cases f
  |ct O=>cases f
theorem xnS {st:Stmt}{B:FS} (h:XS X st B):PS X st (λ Z σ H=>∃ Y O H0 ρ r,RS X.K ⟨Y,O,[]⟩ H0 H ρ σ/\B ρ=some r/\Post X.K ⟨Y,O,[]⟩ Z H0 r) :=
 PS.wk h λ Z σ H ⟨Y,O,H0,ρ,r,R,f,q⟩=>⟨⟨Y,O,[]⟩,H0,ρ,r,R,f,q⟩
theorem RS.fence {K:Frag}{c:FC}{H0 H:Hp}{ρ:En}{σ:L2.St}{p:Addr}{u:HO} (R:RS K c H0 H ρ σ) (Y:ρ.all ao8=true) (Z:H p=none):RS K ⟨H0,upd H p u,[]⟩ H0 (upd H p u) ρ σ:=by
 have O:∀ (i:Nat) (b:Bool) (o:MO),¬ ρ[i]?=some (.ow b o):=λ i b o e=>by
  have:=List.all_eq_true.mp Y _ (List.mem_of_getElem? e);cases this
 refine⟨λ b v e=>?_,Same.refl _,λ b o e=>.inl e,λ b o e _=>e,λ a h=>(by cases h),R.len,R.im,λ i b o e=>absurd e (O i b o),λ i j b b' o o' a e=>absurd e (O i b o)⟩
 have:b≠p:=λ z=>by rw[z,R.same.free Z] at e;cases e
 rw[a_3 this];exact R.same b v e
end
theorem be1 {P:Program}{w:World}{K:Frag}{mg:Str->Option Value}{base:Heap}{x O:Str}{st:Stmt}{f:Addr}{fd:FuncData}{N ps:List Str}{k n m:Nat}{B:En->Option MO} (F:Fun K x O st f fd) (S:FnScope N ps (a_0 st)) (hn:ps.length=n) (hN:N.length=n+m)
  (hb:∀ (Y:Value) (A:Around) (outer:List Env) (s:Shared) (H:Hp) (E:XK),Room k (A.deeper (envOfC O (a_0 st) s.heap.objs.size f Y))->XN (aC2 CX0 P w K mg base N O (a_0 st) f Y A outer s H E).nox (n_6 st) B) :
  FnOk P w K mg base CX0 (k+1) f fd ps (spN K (fnN n m B)):=by
 refine F.ok S (λ vs H Q E h=>?_) (λ Y A outer s H vs Q E hr h=>?_)
 ·obtain⟨Z,ds,o,_,r,e,_⟩:=h
  unfold fnN at e
  split at e
  ·rename_i hl;rw[hn,<- r.length];exact hl
  ·cases e
 ·obtain⟨Z,ds,o,hs,r,e,q⟩:=h
  unfold fnN at e
  split at e
  ·rename_i hl
   exact⟨_,hb Y A outer s H E hr,Z,H,Z,_,o,RS.start (n:=N.length) (m:=m) hs r (by rw[<- r.length];omega),e,q⟩
  ·cases e
end Fx
namespace Fx
open PySem
noncomputable def aC1:D->Option Int->Option Int->Option D
 |.lst xs,lo,hi=>some (.lst (S_2 xs lo hi))
 |.tup xs,lo,hi=>if N_8 xs.length 0 lo=0/\N_8 xs.length xs.length hi=xs.length then none else some (.tup (S_2 xs lo hi))
 |.str z,lo,hi=>if z.length<=sizeLine then some (.str (Txt.slice z lo hi)) else none
 |_,_,_=>none
noncomputable def J_2 (F:FE) (lo hi:FO) (ρ:En):Option (D×En):=bnd (F ρ) λ p=>bnd (lo p.2) λ l=>bnd (hi l.2) λ h=>bnd (aC1 p.1 l.1 h.1) λ d=>some (d,h.2)
noncomputable def inS (x z:Str):Bool:=!(Builtin.Str.occurrences z x 0 z.length 1).isEmpty
noncomputable def ap0:D->D->Option D
 |x,.tup xs=>if A_9 x xs=true then some (.bl (inD x xs)) else none
 |x,.lst xs=>if A_9 x xs=true then some (.bl (inD x xs)) else none
 |.str x,.str z=>some (.bl (inS x z))
 |_,_=>none
noncomputable def I_0:D->D->Option D
 |x,.tup xs=>if A_9 x xs=true then some (.bl (!inD x xs)) else none
 |x,.lst xs=>if A_9 x xs=true then some (.bl (!inD x xs)) else none
 |.str x,.str z=>some (.bl (!inS x z))
 |_,_=>none
noncomputable def bf0 (x:D) (l:Option Int) (o:Option (Option Int×En)):Option (D×En):=bnd o λ h=>bnd (aC1 x l h.1) λ d=>some (d,h.2)
noncomputable def bf1 (hi:FO) (x:D) (o:Option (Option Int×En)):Option (D×En):=bnd o λ l=>bnd (hi l.2) λ h=>bnd (aC1 x l.1 h.1) λ d=>some (d,h.2)
noncomputable def bf2 (lo hi:FO) (o:Option (D×En)):Option (D×En):=bnd o λ p=>bnd (lo p.2) λ l=>bnd (hi l.2) λ h=>bnd (aC1 p.1 l.1 h.1) λ d=>some (d,h.2)
@[simp] theorem bM3 (F:FE) (lo hi:FO) (ρ:En):J_2 F lo hi ρ=bf2 lo hi (F ρ):=zR rfl
@[simp] theorem bv4 (lo hi:FO) (x:D) (ρ:En):bf2 lo hi (some (x,ρ))=bf1 hi x (lo ρ):=zR rfl
@[simp] theorem bv3 (hi:FO) (x:D) (l:Option Int) (ρ:En):bf1 hi x (some (l,ρ))=bf0 x l (hi ρ):=zR rfl
@[simp] theorem bv2 (x:D) (l h:Option Int) (ρ:En):bf0 x l (some (h,ρ))=mkP (aC1 x l h) ρ:=zR rfl
@[simp] theorem bE8 (xs:List D) (lo hi:Option Int):aC1 (.lst xs) lo hi=some (.lst (S_2 xs lo hi)):=zR rfl
@[simp] theorem bE7 (z:Str) (lo hi:Option Int):aC1 (.str z) lo hi=if z.length<=sizeLine then some (.str (Txt.slice z lo hi)) else none:=zR rfl
@[simp] theorem bg2 (x:D) (xs:List D):ap0 x (.tup xs)=if A_9 x xs=true then some (.bl (inD x xs)) else none:=by cases x <;> rfl
@[simp] theorem bg3 (x:D) (xs:List D):ap0 x (.lst xs)=if A_9 x xs=true then some (.bl (inD x xs)) else none:=by cases x <;> rfl
@[simp] theorem am1 (x:D) (xs:List D):I_0 x (.tup xs)=if A_9 x xs=true then some (.bl (!inD x xs)) else none:=by cases x <;> rfl
@[simp] theorem am2 (x:D) (xs:List D):I_0 x (.lst xs)=if A_9 x xs=true then some (.bl (!inD x xs)) else none:=by cases x <;> rfl
end Fx
namespace Fx
open PySem PySem.Spec PyProof.Rows L2
section
variable {X:Cx}{K:Frag}{pos:Pos}{e:Expr}{F:FE}
noncomputable def bJ5:V->Option Int->Option Int->Hp->VK->Prop:=λ x lo hi H Q=>∃ z,x=.str z/\z.length<=sizeLine/\Q (.str (Txt.slice z lo hi)) H
theorem aZ9 {v:Value}{o:Option Int} (p:IsPart v o):∃ l:Option (Int×Tok),v=partValue l/\l.map (·.1)=o:=by
 cases p with
 |none=>exact⟨none,rfl,rfl⟩
 |int i t=>exact⟨some (i,t),rfl,rfl⟩
theorem aW7:SlR X bJ5:=by
 intro pins s σ H x v vl vu lo hi sl Q I rx Y Z O h;obtain⟨z,rfl,hz,q⟩:=h;obtain⟨t,rfl⟩:=rx;obtain⟨l,rfl,rfl⟩:=aZ9 Z;obtain⟨u,rfl,rfl⟩:=aZ9 O;refine⟨"str",_,slot_str_getitem.lookup,typeIs_str _ _ _,wpAny_getItem_str_slice (l:=l) (u:=u) (st:=none) Y rfl ?_⟩;exact post_val_or_str ⟨Nat.le_trans (Txt.slice_le z _ _) hz,λ t' k=>⟨.str (Txt.slice z (l.map (·.1)) (u.map (·.1))),H,I.tok _,⟨_,rfl⟩,q⟩⟩
theorem ao6 {lo hi:Option Expr}{A B:FO}{p2:Pos} (he:XE X e F) (hl:XO X lo A) (hh:XO X hi B):XE X (.Subscript e (.Slice lo hi none p2) pos) (J_2 F A B):=PE.wk (as4 ((sl_list.or aW6).or aW7) he hl hh) λ σ H Q aa=>by
 obtain⟨c,H0,ρ,d,ad,R,f,q⟩:=aa;unfold J_2 at f;obtain⟨⟨x,Z⟩,h1,f⟩:=a_1 f;obtain⟨⟨l,ab⟩,h2,f⟩:=a_1 f;obtain⟨⟨u,ac⟩,h3,f⟩:=a_1 f;obtain⟨d',Y,f⟩:=a_1 f;dsimp only at h2 h3 Y f;have f':some (d',ac)=some (d,ad):=f;cases f';refine⟨c,H0,ρ,x,Z,R,h1,λ v H1 Hh s1 R1 r1=>?_⟩
 refine⟨c,H1,Z,l,ab,R1,h2,λ H2 Hh2 s2 R2=>?_⟩
 refine⟨c,H2,ab,u,_,R2,h3,λ H3 Hh3 s3 O=>?_⟩
 have r3:=Rep.mono s3 x (Rep.mono s2 x r1);cases x with
 |lst ds =>
  have e:D.lst (S_2 ds l u)=d:=qi Y;subst e;unfold Rep at r3;obtain⟨p,vs,rfl,s,t⟩:=r3;refine .inl (.inl ⟨p,vs,rfl,Same.seq O.same s,λ p' hp=>?_⟩)
  have S:=Step.alloc (o:=.lst (ap1 vs l u)) O.same hp;refine q _ _ _ (s1.trans (s2.trans (s3.trans S.s0))) (O.after S) ?_;unfold Rep;exact⟨p',_,rfl,.inl (.inl a_2),Reps.mono S.s0 _ (aC4 t l u)⟩
 |tup ds =>
  have h5:(if N_8 ds.length 0 l=0/\N_8 ds.length ds.length u=ds.length then none else some (D.tup (S_2 ds l u)))=some d:=Y
  by_cases hn:N_8 ds.length 0 l=0/\N_8 ds.length ds.length u=ds.length
  ·rw[if_pos hn] at h5;cases h5
  ·rw[if_neg hn] at h5
   cases h5;unfold Rep at r3;obtain⟨p,vs,rfl,s,t⟩:=r3;refine .inl (.inr ⟨p,vs,rfl,Same.seqT O.same s,?_,λ p' hp=>?_⟩)
   ·rw[<- I_1,<- I_1,<- t.length];exact hn
   have S:=Step.alloc (o:=.tup (ap1 vs l u)) O.same hp;refine q _ _ _ (s1.trans (s2.trans (s3.trans S.s0))) (O.after S) ?_;unfold Rep;exact⟨p',_,rfl,.inl (.inl a_2),Reps.mono S.s0 _ (aC4 t l u)⟩
 |str z =>
  obtain⟨hz,rfl⟩:=ifs (c:=z.length<=sizeLine) Y;unfold Rep at r3;exact .inr ⟨z,r3,hz,q _ H3 Hh3 (s1.trans (s2.trans s3)) O (x_1 H3 _)⟩
 |_=>cases Y
theorem OpR.or {f:Value->Value->Sem Value}{r O:R2} (h:OpR X f r) (h':OpR X f O):OpR X f (λ x y H Q=>r x y H Q\/O x y H Q):=by
 intro pins s σ H x y v u Q I Z Y q
 rcases q with q | q
 ·exact h pins s σ H x y v u Q I Z Y q
 ·exact h' pins s σ H x y v u Q I Z Y q
theorem bd6:OpD K (rIn K false) dIn:=aA9 λ x y d e=>by
 cases y with
 |tup xs=>obtain⟨h,rfl⟩:=ifs (c:=A_9 x xs=true) e;exact⟨xs,.inl rfl,h,rfl⟩
 |lst xs=>obtain⟨h,rfl⟩:=ifs (c:=A_9 x xs=true) e;exact⟨xs,.inr rfl,h,rfl⟩
 |_=>cases e
theorem V_7:OpD K (rIn K true) bg1:=aA9 λ x y d e=>by
 cases y with
 |tup xs=>obtain⟨h,rfl⟩:=ifs (c:=A_9 x xs=true) e;exact⟨xs,.inl rfl,h,rfl⟩
 |lst xs=>obtain⟨h,rfl⟩:=ifs (c:=A_9 x xs=true) e;exact⟨xs,.inr rfl,h,rfl⟩
 |_=>cases e
theorem bk7:s_9 X .In ap0:=⟨_,OpR.or ag0 af9,λ c H0 H ρ σ x y d vx Z Q R O Y e q=>by
 cases y with
 |tup xs=>rw[bg2] at e;exact .inl (bd6 c H0 H ρ σ x (.tup xs) d vx Z Q R O Y e q)
 |lst xs=>rw[bg3] at e;exact .inl (bd6 c H0 H ρ σ x (.lst xs) d vx Z Q R O Y e q)
 |str b =>
  cases x with
  |str a =>
   have e':some (D.bl (inS a b))=some d:=e;cases e';unfold Rep at O Y;subst O Y;exact .inr ⟨a,b,rfl,rfl,q _ H0 H (Same.refl _) R (o_8 _ _)⟩
  |_=>cases e
 |_=>cases x <;> cases e⟩
theorem aQ4:s_9 X .NotIn I_0:=⟨_,OpR.or L_3 L_2,λ c H0 H ρ σ x y d vx Z Q R O Y e q=>by
 cases y with
 |tup xs=>rw[am1] at e;exact .inl (V_7 c H0 H ρ σ x (.tup xs) d vx Z Q R O Y e q)
 |lst xs=>rw[am2] at e;exact .inl (V_7 c H0 H ρ σ x (.lst xs) d vx Z Q R O Y e q)
 |str b =>
  cases x with
  |str a =>
   have e':some (D.bl (!inS a b))=some d:=e;cases e';unfold Rep at O Y;subst O Y;exact .inr ⟨a,b,rfl,rfl,q _ H0 H (Same.refl _) R (o_8 _ _)⟩
  |_=>cases e
 |_=>cases x <;> cases e⟩
end
end Fx
namespace Fx
open PySem
end Fx
namespace Fx
open PySem PySem.Spec PyProof.Rows L2
end Fx
namespace Fx
open PySem
mutual
noncomputable def beD:D->D->Bool
 |.non,.non=>true
 |.bl a,.bl b=>a==b
 |.int a,.int b=>a==b
 |.str a,.str b=>decide (a=b)
 |.tup a,.tup b=>aw4 a b
 |.lst a,.lst b=>aw4 a b
 |.opq,.opq=>true
 |.dct k a,.dct l b=>decide (k=l)&&aw4 a b
 |_,_=>false
noncomputable def aw4:List D->List D->Bool
 |[],[]=>true
 |a::r,b::t=>beD a b&&aw4 r t
 |_,_=>false
end
mutual
theorem an9:∀ a b:D,beD a b=true->a=b
 |.non,b,h=>by cases b <;> first | rfl | cases h
 |.bl a,b,h=>by cases b <;> first | cases h;done | (rw[beD] at h;rw[beq_iff_eq.mp h])
 |.int a,b,h=>by cases b <;> first | cases h;done | (rw[beD] at h;rw[beq_iff_eq.mp h])
 |.str a,b,h=>by cases b <;> first | cases h;done | (rw[beD] at h;rw[of_decide_eq_true h])
 |.tup a,b,h=>by cases b <;> first | cases h;done | (rw[beD] at h;rw[z_8 _ _ h])
 |.lst a,b,h=>by cases b <;> first | cases h;done | (rw[beD] at h;rw[z_8 _ _ h])
 |.opq,b,h=>by cases b <;> first | rfl | cases h
 |.dct k a,b,h=>by
  cases b <;> first | cases h;done | skip
  rw[beD,Bool.and_eq_true] at h;rw[of_decide_eq_true h.1,z_8 _ _ h.2]
theorem z_8:∀ a b:List D,aw4 a b=true->a=b
 |[],b,h=>by cases b <;> first | rfl | cases h
 |x::r,b,h=>by
  cases b with
  |nil=>cases h
  |cons y t =>
   rw[aw4,Bool.and_eq_true] at h;rw[an9 _ _ h.1,z_8 _ _ h.2]
end
mutual
theorem an8:∀ a:D,beD a a=true
 |.non=>rfl
 |.bl a=>by rw[beD];exact beq_self_eq_true a
 |.int a=>by rw[beD];exact beq_self_eq_true a
 |.str a=>by rw[beD];exact decide_eq_true rfl
 |.tup a=>by rw[beD];exact z_7 a
 |.lst a=>by rw[beD];exact z_7 a
 |.opq=>rfl
 |.dct k a=>by rw[beD,z_7 a,Bool.and_true];exact decide_eq_true rfl
theorem z_7:∀ a:List D,aw4 a a=true
 |[]=>rfl
 |x::r=>by rw[aw4,an8 x,z_7 r];rfl
end
noncomputable def beK:List (Str×D)->List (Str×D)->Bool
 |[],[]=>true
 |(k,a)::r,(l,b)::t=>decide (k=l)&&(beD a b&&beK r t)
 |_,_=>false
theorem aC8:∀ a b:List (Str×D),beK a b=true->a=b
 |[],[],_=>rfl
 |[],_::_,h=>nomatch h
 |_::_,[],h=>nomatch h
 |(k,a)::r,(l,b)::t,h=>by
  rw[beK,Bool.and_eq_true,Bool.and_eq_true] at h;rw[of_decide_eq_true h.1,an9 _ _ h.2.1,aC8 _ _ h.2.2]
theorem aC7:∀ a:List (Str×D),beK a a=true
 |[]=>rfl
 |(k,a)::r=>by rw[beK,an8,aC7 r,decide_eq_true rfl];rfl
noncomputable def beS:Sl->Sl->Bool
 |.no,.no=>true
 |.im a,.im b=>beD a b
 |.ow c (.lst a),.ow d (.lst b)=>c==d&&aw4 a b
 |.ow c (.dic a),.ow d (.dic b)=>c==d&&beK a b
 |_,_=>false
theorem bg7:∀ a b:Sl,beS a b=true->a=b
 |.no,.no,_=>rfl
 |.im a,.im b,h=>by rw[beS] at h;rw[an9 _ _ h]
 |.ow c (.lst a),.ow d (.lst b),h=>by rw[beS,Bool.and_eq_true] at h;rw[beq_iff_eq.mp h.1,z_8 _ _ h.2]
 |.ow c (.dic a),.ow d (.dic b),h=>by rw[beS,Bool.and_eq_true] at h;rw[beq_iff_eq.mp h.1,aC8 _ _ h.2]
 |.no,.im _,h=>nomatch h
 |.no,.ow _ _,h=>nomatch h
 |.im _,.no,h=>nomatch h
 |.im _,.ow _ _,h=>nomatch h
 |.ow _ (.lst _),.no,h=>by cases h
 |.ow _ (.dic _),.no,h=>by cases h
 |.ow _ (.lst _),.im _,h=>by cases h
 |.ow _ (.dic _),.im _,h=>by cases h
 |.ow _ (.lst _),.ow _ (.dic _),h=>by cases h
 |.ow _ (.dic _),.ow _ (.lst _),h=>by cases h
theorem bg6:∀ a:Sl,beS a a=true
 |.no=>rfl
 |.im a=>an8 a
 |.ow c (.lst a)=>by rw[beS,z_7,beq_self_eq_true];rfl
 |.ow c (.dic a)=>by rw[beS,aC7,beq_self_eq_true];rfl
noncomputable def beE:En->En->Bool
 |[],[]=>true
 |a::r,b::t=>beS a b&&beE r t
 |_,_=>false
theorem aD0:∀ a b:En,beE a b=true->a=b
 |[],[],_=>rfl
 |[],_::_,h=>nomatch h
 |_::_,[],h=>nomatch h
 |a::r,b::t,h=>by rw[beE,Bool.and_eq_true] at h;rw[bg7 _ _ h.1,aD0 _ _ h.2]
theorem aC9:∀ a:En,beE a a=true
 |[]=>rfl
 |a::r=>by rw[beE,bg6,aC9 r];rfl
noncomputable def bk3 (a b:En):Decidable (a=b):=if h:beE a b=true then .isTrue (aD0 a b h) else .isFalse λ e=>h (e▸aC9 a)
noncomputable def ltS (a b:Str):Bool:=decide (a.cps.toList<b.cps.toList)
noncomputable def au2 (x:Str):List Str->List Str
 |[]=>[x]
 |y::r=>if ltS y x=true then y::au2 x r else x::y::r
noncomputable def f_4:List Str->List Str
 |[]=>[]
 |x::r=>au2 x (f_4 r)
noncomputable def aG0:List D->Option (List Str)
 |[]=>some []
 |.str x::r=>bnd (aG0 r) λ t=>some (x::t)
 |_=>none
theorem J_4 (x:Str) (r:List D):aG0 (.str x::r)=bnd (aG0 r) λ t=>some (x::t):=rfl
noncomputable def P_6 (xs:List D):Option D:=bnd (aG0 xs) λ O=>if O.length<64 then some (.lst ((f_4 O).map .str)) else none
noncomputable def I_8:List D->Option D
 |[.tup xs]=>P_6 xs
 |[.lst xs]=>P_6 xs
 |_=>none
noncomputable def bj0:D->Option (List D)
 |.lst xs=>some xs
 |_=>none
noncomputable def bH9:D->Option Str
 |.str x=>some x
 |_=>none
noncomputable def aa6 (O:Str) (xs:List D):Option D:=bnd (aG0 xs) λ Y=>if (Y.map (·.length)).sum+Y.length*O.length<=1000000 then some (.str (Str.join O Y)) else none
noncomputable def au9 (O:Str) (F:FE) (ρ:En):Option (D×En):=bnd (F ρ) λ p=>bnd (bj0 p.1) λ xs=>bnd (aa6 O xs) λ d=>some (d,p.2)
noncomputable def o_9:List D->Option (List (Str×D))
 |[]=>some []
 |.tup [.str k,v]::r=>bnd (o_9 r) λ t=>some ((k,v)::t)
 |_=>none
theorem Q_2 (k:Str) (v:D) (r:List D):o_9 (.tup [.str k,v]::r)=bnd (o_9 r) λ t=>some ((k,v)::t):=rfl
noncomputable def aT5 (xs:List D) (k:D) (d:D):Option D:=bnd (o_9 xs) λ kvs=>bnd (bH9 k) λ k=>if kvs.length<=1000/\(kvs.map (·.1)).Nodup then some ((r_5 k kvs).getD d) else none
noncomputable def bi0:D->Option (List D)
 |.tup xs=>some xs
 |_=>none
@[simp] theorem by3 (xs:List D):bi0 (.tup xs)=some xs:=zR rfl
noncomputable def av2 (E Y O:FE) (ρ:En):Option (D×En):=bnd (E ρ) λ p=>bnd (bi0 p.1) λ xs=>if p.2.all ao8=true then bnd (Y p.2) λ q=>bnd (O q.2) λ r=>bnd (aT5 xs q.1 r.1) λ d=>some (d,r.2) else none
@[simp] theorem bA9 (d:D):ao8 (.im d)=true:=zR rfl
@[simp] theorem bA8:ao8 .no=true:=zR rfl
@[simp] theorem bg9 (xs:List D):I_8 [.tup xs]=P_6 xs:=zR rfl
@[simp] theorem bB1 (xs:List D):bj0 (.lst xs)=some xs:=zR rfl
noncomputable def ak9 (O:Str) (ρ:En) (o:Option (List D)):Option (D×En):=bnd o λ xs=>bnd (aa6 O xs) λ d=>some (d,ρ)
noncomputable def aB6 (O:Str) (o:Option (D×En)):Option (D×En):=bnd o λ p=>ak9 O p.2 (bj0 p.1)
@[simp] theorem bD8 (O:Str) (F:FE) (ρ:En):au9 O F ρ=aB6 O (F ρ):=zR rfl
@[simp] theorem bj6 (O:Str) (x:D) (ρ:En):aB6 O (some (x,ρ))=ak9 O ρ (bj0 x):=zR rfl
@[simp] theorem bj5 (O:Str) (ρ:En) (xs:List D):ak9 O ρ (some xs)=mkP (aa6 O xs) ρ:=zR rfl
noncomputable def al2 (xs:List D) (k:D) (o:Option (D×En)):Option (D×En):=bnd o λ r=>bnd (aT5 xs k r.1) λ d=>some (d,r.2)
noncomputable def al3 (O:FE) (xs:List D) (o:Option (D×En)):Option (D×En):=bnd o λ q=>al2 xs q.1 (O q.2)
noncomputable def al4 (Y O:FE) (ρ:En) (o:Option (List D)):Option (D×En):=bnd o λ xs=>if ρ.all ao8=true then al3 O xs (Y ρ) else none
noncomputable def aB7 (Y O:FE) (o:Option (D×En)):Option (D×En):=bnd o λ p=>al4 Y O p.2 (bi0 p.1)
@[simp] theorem bE2 (E Y O:FE) (ρ:En):av2 E Y O ρ=aB7 Y O (E ρ):=zR rfl
@[simp] theorem bk1 (Y O:FE) (x:D) (ρ:En):aB7 Y O (some (x,ρ))=al4 Y O ρ (bi0 x):=zR rfl
@[simp] theorem bk0 (Y O:FE) (ρ:En) (xs:List D):al4 Y O ρ (some xs)=if ρ.all ao8=true then al3 O xs (Y ρ) else none:=zR rfl
@[simp] theorem bj9 (O:FE) (xs:List D) (k:D) (ρ:En):al3 O xs (some (k,ρ))=al2 xs k (O ρ):=zR rfl
@[simp] theorem bj8 (xs:List D) (k d:D) (ρ:En):al2 xs k (some (d,ρ))=mkP (aT5 xs k d) ρ:=zR rfl
theorem mem_insS {x y:Str}:∀ {l:List Str},y∈au2 x l↔y=x\/y∈l
 |[]=>by simp[au2]
 |z::r=>by
  unfold au2
  split
  ·rw[List.mem_cons,mem_insS,List.mem_cons]
   exact⟨λ h=>by rcases h with h | h | h;exact .inr (.inl h);exact .inl h;exact .inr (.inr h),λ h=>by rcases h with h | h | h;exact .inr (.inl h);exact .inl h;exact .inr (.inr h)⟩
  ·rw[List.mem_cons]
theorem y_1 {y:Str}:∀ {l:List Str},y∈f_4 l↔y∈l
 |[]=>Iff.rfl
 |x::r=>by
  unfold f_4;rw[mem_insS,y_1,List.mem_cons]
theorem E_8:∀ (O:List Str),aG0 (O.map .str)=some O
 |[]=>rfl
 |x::r=>by rw[List.map_cons,J_4,E_8 r];rfl
theorem D_1:∀ (kvs:List (Str×D)),o_9 (kvs.map λ q=>.tup [.str q.1,q.2])=some kvs
 |[]=>rfl
 |q::r=>by rw[List.map_cons,Q_2,D_1 r];rfl
noncomputable def kS:D->Option Str
 |.str k=>some k
 |_=>none
noncomputable def aI9 (k:Str) (d:D) (kds:List (Str×D)):List (Str×D):=if (r_5 k kds).isSome=true then aH1 k d kds else kds++[(k,d)]
noncomputable def sDN (i:Nat) (ρ:En):Option Res:=some (.nx (ρ.set i (.ow false (.dic []))))
@[simp] theorem bP6 (i:Nat) (ρ:En):sDN i ρ=some (.nx (ρ.set i (.ow false (.dic [])))):=zR rfl
noncomputable def bz5 (i:Nat) (d:D) (ρ:En) (k:Str) (o:Option (Bool×List (Str×D))):Option Res:=bnd o λ q=>if q.2.length<100 then some (.nx (ρ.set i (.ow q.1 (.dic (aI9 k d q.2))))) else none
noncomputable def bz6 (i:Nat) (d:D) (ρ:En) (o:Option Str):Option Res:=bnd o λ k=>bz5 i d ρ k (owD ρ[i]?)
noncomputable def bo7 (i:Nat) (d:D) (o:Option (D×En)):Option Res:=bnd o λ p=>bz6 i d p.2 (kS p.1)
noncomputable def bz7 (i:Nat) (G:FE) (d:D) (ρ:En) (o:Option (Bool×List (Str×D))):Option Res:=bnd o λ _=>bo7 i d (G ρ)
noncomputable def bz8 (i:Nat) (G:FE) (o:Option (D×En)):Option Res:=bnd o λ p=>bz7 i G p.1 p.2 (owD p.2[i]?)
noncomputable def sDK (i:Nat) (G F:FE) (ρ:En):Option Res:=bz8 i G (F ρ)
noncomputable def nOw:Option Sl->Option MO
 |some (.ow false o)=>some o
 |_=>none
@[simp] theorem bK4 (o:MO):nOw (some (.ow false o))=some o:=zR rfl
noncomputable def at5 (i:Nat) (ρ:En):Option MO:=nOw ρ[i]?
@[simp] theorem bB0 (i:Nat) (ρ:En):at5 i ρ=nOw ρ[i]?:=zR rfl
mutual
noncomputable def nd:D->Bool
 |.opq=>false
 |.dct _ _=>false
 |.tup xs=>nds xs
 |.lst xs=>nds xs
 |_=>true
noncomputable def nds:List D->Bool
 |[]=>true
 |d::r=>nd d&&nds r
end
noncomputable def ndS:Sl->Bool
 |.ow _ (.lst ds)=>nds ds
 |.ow _ (.dic kds)=>nds (kds.map (·.2))
 |_=>true
noncomputable def hld (kds:List (Str×D)):Sl:=.im (.dct (kds.map (·.1)) (kds.map (·.2)))
noncomputable def s_2 (ρ O:En) (o:Option (D×En)):Option (D×En):=bnd o λ p=>@ite _ (nd p.1=true/\p.2=O) (@instDecidableAnd _ _ _ (bk3 _ _)) (some (p.1,ρ)) none
noncomputable def N_5 (i:Nat) (F:FE) (ρ:En) (o:Option (Bool×List (Str×D))):Option (D×En):=bnd o λ q=>if q.1=false/\ρ.all ndS=true then s_2 ρ (ρ.set i (hld q.2)) (F (ρ.set i (hld q.2))) else none
noncomputable def ab1 (i:Nat) (F:FE) (ρ:En):Option (D×En):=N_5 i F ρ (owD ρ[i]?)
@[simp] theorem bf4 (i:Nat) (F:FE) (ρ:En):ab1 i F ρ=N_5 i F ρ (owD ρ[i]?):=zR rfl
@[simp] theorem av1 (i:Nat) (F:FE) (ρ:En) (b:Bool) (kds:List (Str×D)):N_5 i F ρ (some (b,kds))=if b=false/\ρ.all ndS=true then s_2 ρ (ρ.set i (hld kds)) (F (ρ.set i (hld kds))) else none:=zR rfl
theorem av0 (ρ O:En) (d:D) (h:nd d=true):s_2 ρ O (some (d,O))=some (d,ρ):=by
 unfold s_2 bnd;exact if_pos ⟨h,rfl⟩
noncomputable def asD:MO->Option D
 |.dic kds=>some (.dct (kds.map (·.1)) (kds.map (·.2)))
 |_=>none
@[simp] theorem bO5 (kds:List (Str×D)):asD (.dic kds)=some (.dct (kds.map (·.1)) (kds.map (·.2))):=zR rfl
noncomputable def bj2 (ρ:En) (o:Option D):Option (D×En):=bnd o λ d=>some (d,ρ)
noncomputable def bj3 (ρ:En) (o:Option MO):Option (D×En):=bnd o λ m=>bj2 ρ (asD m)
noncomputable def bj4 (g:List D->Option MO) (o:Option (List D×En)):Option (D×En):=bnd o λ p=>bj3 p.2 (g p.1)
noncomputable def eNF (g:List D->Option MO) (A:FA) (ρ:En):Option (D×En):=bj4 g (A ρ)
@[simp] theorem bQ3 (g:List D->Option MO) (A:FA) (ρ:En):eNF g A ρ=bj4 g (A ρ):=zR rfl
@[simp] theorem bC9 (g:List D->Option MO) (ds:List D) (ρ:En):bj4 g (some (ds,ρ))=bj3 ρ (g ds):=zR rfl
@[simp] theorem bC8 (ρ:En) (m:MO):bj3 ρ (some m)=bj2 ρ (asD m):=zR rfl
@[simp] theorem bC7 (ρ:En) (d:D):bj2 ρ (some d)=some (d,ρ):=zR rfl
noncomputable def dDx:D->D->Option D
 |.dct ks ds,.str k=>r_5 k (ks.zip ds)
 |_,_=>none
@[simp] theorem bO0 (ks:List Str) (ds:List D) (k:Str):dDx (.dct ks ds) (.str k)=r_5 k (ks.zip ds):=zR rfl
end Fx
namespace Fx
open PySem PySem.Spec PyProof.Rows L2
section
variable {K:Frag}{H:Hp}
theorem ay0 {k:Str}:∀ {kds:List (Str×D)}{vs:List V},Reps K H (kds.map (·.2)) vs->r_5 k kds=none->E_5 (m_5 (kds.map (·.1)) vs) (.inr k)=none
 |[],_,_,_=>rfl
 |q::r,vs,t,e=>by
  rw[List.map_cons] at t;unfold Reps at t;obtain⟨v,Z,rfl,_,Y⟩:=t;rw[List.map_cons,r_6];unfold r_5 at e
  by_cases O:q.1=k
  ·rw[if_pos O] at e;cases e
  ·rw[if_neg O] at e
   rw[p_7 λ z=>O (Sum.inr.inj z)]
   exact ay0 Y e
theorem ap5 {ks:List Str}{vs:List V}{k:Str}{v:V} (h:ks.length=vs.length):m_5 ks vs++[(Sum.inr k,v)]=m_5 (ks++[k]) (vs++[v]):=by
 unfold m_5;rw[List.map_append,List.zip_append (by rw[List.length_map];exact h)]
 rfl
theorem aI8 {k:Str}{d:D}{v:V}{kds:List (Str×D)}{vs:List V} (Z:Rep K H d v) (t:Reps K H (kds.map (·.2)) vs) :
  ∃ O,K_8 (m_5 (kds.map (·.1)) vs) (.inr k) v=m_5 ((aI9 k d kds).map (·.1)) O/\Reps K H ((aI9 k d kds).map (·.2)) O:=by
 unfold aI9;cases q:r_5 k kds with
 |some d0=>rw[if_pos (show (some d0).isSome=true from rfl)];exact aY3 Z t q
 |none =>
  rw[if_neg (by simp)]
  have Y:=t.length;rw[List.length_map] at Y;refine⟨vs++[v],?_,?_⟩
  ·rw[ar7 v (ay0 t q),ap5 (by rw[List.length_map];exact Y),List.map_append]
   rfl
  ·rw[List.map_append]
   exact t.app (Reps.one Z)
end
section
variable {X:Cx}{pos:Pos}{e:Expr}{F G:FE}{A:FA}
theorem xdn (i:Nat) {x:Str}{p p2:Pos} (Z:X.N.Nodup) (hi:X.N[i]?=some x:=by rfl) (hx:Loc X.env.scope x:=by first | exact Or.inl rfl | exact Or.inr rfl) (Y:swapsWith (.Dict [] [] p2) (some (.Name x p)) pos.line X.env=pure false:=by rfl)
  (hf:X.fn x=true\/X.env.scope.names.lookup x=some .local:=by first | exact .inl rfl | exact .inr rfl):XS X (.Assign [.Name x p] (.Dict [] [] p2) pos) (sDN i) :=
 PS.wk (K_9 Z hi hx as6 Y hf) λ Dn σ H O=>by
  obtain⟨c,H0,ρ,r,R,f,q⟩:=O;have f':some (Res.nx (ρ.set i (.ow false (.dic []))))=some r:=f;cases f';exact λ a ha=>q _ H0 _ (Same.refl _) (R.setOwn (o:=.dic []) (u:=.dK []) i ha ⟨[],[],by rw[a_2];rfl,rfl,Reps.nil_⟩)
theorem xdk (i:Nat) {x:Str}{k:Expr}{p p3:Pos} (hu:X.A.units+1<cLine) (hk:XE X k G) (he:XE X e F) (hN:X.N[i]?=some x:=by rfl) (hv:Vis X.env.scope x:=by first | exact Or.inl rfl | exact Or.inr (Or.inl rfl) | exact Or.inr (Or.inr rfl)) (hd:(x==("__debug__":Str))=false:=by decide)
  (aa:(x==("__classdict__":Str))=false:=by decide) (hs:swapsWith e (some (.Subscript (.Name x p) k p3)) pos.line X.env=pure false:=by rfl):XS X (.Assign [.Subscript (.Name x p) k p3] e pos) (sDK i G F) :=
 PS.wk (aJ3 hu (m_7 hN hv hd aa) hk he hs) λ Dn σ H Y=>by
  obtain⟨c,H0,ρ,r,R,f,q⟩:=Y;unfold sDK bz8 at f;obtain⟨⟨d,O⟩,h1,f⟩:=a_1 f;unfold bz7 at f;obtain⟨⟨b0,ad⟩,h2,f⟩:=a_1 f;unfold bo7 at f;obtain⟨⟨x2,ab⟩,h3,f⟩:=a_1 f;unfold bz6 at f;obtain⟨k2,h4,f⟩:=a_1 f;unfold bz5 at f;obtain⟨⟨b,kds⟩,h5,f⟩:=a_1 f;obtain⟨h6,rfl⟩:=ifs f
  have Z:x2=.str k2:=by
   cases x2 with
   |str z=>cases h4;rfl
   |_=>cases h4
  subst Z;refine⟨c,H0,ρ,d,O,R,h1,λ v H1 Hh s1 R1 r1=>?_⟩
  obtain⟨a,e1,_⟩:=R1.ow i b0 _ (af8 h2);refine⟨_,e1,c,H1,O,_,ab,R1,h3,λ y H2 Hh2 s2 R2 r2=>?_⟩
  unfold Rep at r2;subst r2;have z:=af8 h5;obtain⟨a2,e2,_,_,ks,vs,e4,rfl,t⟩:=R2.ow i b _ z;rw[e1] at e2;cases e2;obtain⟨ac,w1,w2⟩:=aI8 (k:=k2) (Rep.mono s2 d r1) t;refine⟨a,_,rfl,DPut.k (k:=.inr k2) e4 (by have:=ap4 t;unfold m_5 at this;rw[this];exact bs3 h6),?_⟩
  exact q σ H2 _ (s1.trans s2) (R2.mutOwn z e1 ⟨_,ac,by rw[a_2];exact congrArg (λ y=>some (HO.dK y)) w1,rfl,w2⟩)
theorem xnO (i:Nat) {x:Str}{p Y:Pos} (hN:X.N[i]?=some x:=by rfl) (hv:Vis X.env.scope x:=by first | exact Or.inl rfl | exact Or.inr (Or.inl rfl) | exact Or.inr (Or.inr rfl)) (hd:(x==("__debug__":Str))=false:=by decide) (Z:(x==("__classdict__":Str))=false:=by decide) :
  XN X [.Return (some (.Name x p)) Y] (at5 i) :=
 PSs.wk (F_2 (ae5 (m_7 hN hv hd Z))) λ Dn σ H O=>by
  obtain⟨Hi,He,H0,ρ,o,R,f,q⟩:=O;unfold at5 nOw at f
  split at f
  ·rename_i o' hz
   cases f;obtain⟨a,e1,e2,e3,ok⟩:=R.ow i false _ hz;exact⟨_,e1,q a H0 H ⟨R.init,R.same,λ b u h=>R.keep b u h (by simp),R.fresh,e2,e3,ok⟩⟩
  ·cases f
end
section
variable {X:Cx}{pins:List (Addr×Obj)}{σ:L2.St}{H:Hp}{s:Shared}{a:Addr}{kvs:List (Key×V)}
theorem aj1 (I:Inv X pins σ H s) (e:H a=some (.dK kvs)):∃ ob,Inv X pins σ (upd H a (.frz ob (.dK kvs))) s:=by
 obtain⟨z,n,vs,O,o,es,ep,ho,r⟩:=(show ObjOk X.prog X.w H s.heap a (.dK kvs) from I.hok a _ e);exact⟨o,I.write (t':=s.toks) (h':=s.heap) (x:=a) (e:=a) (by rw[e];trivial) (.inl rfl) (λ _ _ _ q=>q) ⟨o,ho⟩ ⟨ho,z,n,vs,O,o,es,ep,ho,r⟩⟩
noncomputable def ap3 (X:Cx) (a:Addr):Prop:=(∀ xs,X.H₀ a≠some (.tup xs))/\(∀ o u,X.H₀ a≠some (.frz o u))/\∀ ps,X.H₀ a≠some (.tbl ps)
theorem W_8 (I:Inv X pins σ H s) (e:H a=some (.dK kvs)):ap3 X a:=by
 refine⟨λ xs z=>?_,λ o u z=>?_,λ ps z=>?_⟩
 ·have q:=I.base.tups a xs z
  rw[e] at q;cases q
 ·have q:=I.base.frzs a o u z
  rw[e] at q;cases q
 ·obtain⟨m,q⟩:=I.base.tbls a ps z
  rw[e] at q;cases q
theorem W_7 {ob:Obj} (I:Inv X pins σ H s) (e:H a=some (.frz ob (.dK kvs))) (Y:ap3 X a):Inv X pins σ (upd H a (.dK kvs)) s:=by
 have O:∀ {b:Addr},H b=none->b≠a:=λ z h=>by rw[h,e] at z;cases z
 have un:=I.base;refine⟨I.ok,I.os,I.bare,⟨un.keep,un.slot,λ b o q n hx=>?_,un.there,λ b xs q=>?_,λ b o u q=>?_,λ b ps q=>?_⟩,I.loc,I.cell,?_,λ x c q=>?_,λ p hp=>?_,λ b u q=>?_,I.len⟩
 ·have z:=un.free b o q n hx
  rw[a_3 (O z)];exact z
 ·rw[a_3 λ h=>Y.1 xs (by rw[<- h];exact q)];exact un.tups b xs q
 ·rw[a_3 λ h=>Y.2.1 o u (by rw[<- h];exact q)];exact un.frzs b o u q
 ·rw[a_3 λ h=>Y.2.2 ps (by rw[<- h];exact q)];exact un.tbls b ps q
 ·rw[a_3 (O I.free)];exact I.free
 ·have z:=I.freeC x c q
  rw[a_3 (O z)];exact z
 ·obtain⟨h1,h2,h3⟩:=I.pin p hp
  exact⟨h1,by rw[a_3 (O h2)];exact h2,h3⟩
 ·by_cases Z:b=a
  ·subst Z
   rw[a_2] at q;cases q;obtain⟨_,w⟩:=(show ObjOk X.prog X.w H s.heap b (.frz ob (.dK kvs)) from I.hok b _ e);exact w
  ·rw[a_3 Z] at q
   refine (I.hok b u q).stay (λ _ _ _ r=>r) (λ c r=>?_) λ c xs r=>?_
   ·rw[a_3 λ h=>by rw[h,e] at r;cases r];exact r
   ·rw[a_3 λ h=>by rw[h,e] at r;cases r];exact r
end
section
variable {X:Cx}{e:Expr}{st:Stmt}{t:TE}
noncomputable def tFz (i:Nat) (t:TE):TE:=λ σ H Q=>∃ a kvs,σ[i]?=some (some (.ref a))/\H a=some (.dK kvs)/\∀ ob,t σ (upd H a (.frz ob (.dK kvs))) λ v H2=>H2 a=some (.frz ob (.dK kvs))/\Q v (upd H2 a (.dK kvs))
theorem bq8 (i:Nat) (h:PE X e t):PE X e (tFz i t):=λ pins s σ H Q I O=>by
 obtain⟨a,kvs,_,Y,q⟩:=O;obtain⟨ob,I1⟩:=aj1 I Y;exact thn (h pins s σ _ _ I1 (q ob)) λ u s2 ⟨v,H2,I2,Z,e2,q2⟩=>⟨v,_,W_7 I2 e2 (W_8 I Y),Z,q2⟩
noncomputable def tZf (t:TE):TE:=λ σ H Q=>t σ H λ v H1=>∃ a kvs,v=.ref a/\H1 a=some (.dK kvs)/\∀ ob,Q v (upd H1 a (.frz ob (.dK kvs)))
theorem bq4 (h:PE X e t):PE X e (tZf t):=λ pins s σ H Q I q=>thn (h pins s σ H _ I q) λ u s2 O=>by
 obtain⟨v,H2,Z,Y,a,kvs,ev,ea,q2⟩:=O;obtain⟨ob,I3⟩:=aj1 Z ea;exact⟨v,_,I3,Y,q2 ob⟩
end
noncomputable def less (H:Hp) (a:Addr):Hp:=λ b=>if b=a then none else H b
theorem ai4 {H:Hp}{a:Addr}:less H a a=none:=if_pos rfl
theorem y_3 {H:Hp}{a b:Addr} (h:b≠a):less H a b=H b:=if_neg h
theorem R_0 {H:Hp}{a b:Addr}{u:HO} (h:less H a b=some u):b≠a/\H b=some u:=by
 by_cases e:b=a
 ·rw[e,ai4] at h;cases h
 ·exact⟨e,by rw[y_3 e] at h;exact h⟩
section
variable {K:Frag}{H:Hp}{a:Addr}{ob:Obj}{kvs:List (Key×V)}
theorem Rd.less {b:Addr}{u:HO} (O:H a=some (.frz ob (.dK kvs))) (h:Rd H b u) (n:∀ kvs,u≠.dK kvs) (Z:∀ o v,u≠.frz o v):Rd (less H a) b u:=by
 have Y:b≠a:=λ e=>by
  rw[e] at h
  rcases h with h | ⟨o,h⟩
  ·rw[O] at h;exact Z _ _ (qi h).symm
  ·rw[O] at h;cases h;exact n kvs rfl
 rcases h with h | ⟨o,h⟩
 ·exact .inl (by rw[y_3 Y];exact h)
 ·exact .inr ⟨o,by rw[y_3 Y];exact h⟩
mutual
theorem Rep.less (O:H a=some (.frz ob (.dK kvs))):∀ (d:D) {v:V},nd d=true->Rep K H d v->Rep K (less H a) d v
 |.non,_,_,h=>by unfold Rep at h ⊢;exact h
 |.bl _,_,_,h=>by unfold Rep at h ⊢;exact h
 |.int _,_,_,h=>by unfold Rep at h ⊢;exact h
 |.str _,_,_,h=>by unfold Rep at h ⊢;exact h
 |.tup ds,_,n,h=>by
  unfold Rep at h ⊢;obtain⟨b,vs,e,s,r⟩:=h;refine⟨b,vs,e,?_,Reps.less O ds n r⟩
  rcases s with s | s
  ·exact .inl (Rd.less O s (λ _ z=>nomatch z) λ _ _ z=>nomatch z)
  ·exact .inr s
 |.lst ds,_,n,h=>by
  unfold Rep at h ⊢;obtain⟨b,vs,e,s,r⟩:=h;refine⟨b,vs,e,?_,Reps.less O ds n r⟩
  rcases s with s | s
  ·exact .inl (Rd.less O s (λ _ z=>nomatch z) λ _ _ z=>nomatch z)
  ·exact .inr s
 |.opq,_,n,_=>by cases n
 |.dct _ _,_,n,_=>by cases n
theorem Reps.less (O:H a=some (.frz ob (.dK kvs))):∀ (ds:List D) {vs:List V},nds ds=true->Reps K H ds vs->Reps K (less H a) ds vs
 |[],_,_,h=>by unfold Reps at h ⊢;exact h
 |d::r,_,n,h=>by
  unfold nds at n;rw[Bool.and_eq_true] at n;unfold Reps at h ⊢;obtain⟨v,Y,e,h1,h2⟩:=h;exact⟨v,Y,e,Rep.less O d n.1 h1,Reps.less O r n.2 h2⟩
end
end
section
variable {K:Frag}{c:FC}{H0 H:Hp}{ρ:En}{σ:L2.St}{i:Nat}{kds:List (Str×D)}
theorem RS.asData (R:RS K c H0 H ρ σ) (hi:ρ[i]?=some (.ow false (.dic kds))) :
  ∃ a vs,σ[i]?=some (some (.ref a))/\H0 a=none/\c.He a=none/\H a=some (.dK (m_5 (kds.map (·.1)) vs))/\Reps K H0 (kds.map (·.2)) vs/\∀ ob,Same H0 (upd H0 a (.frz ob (.dK (m_5 (kds.map (·.1)) vs))))/\RS K c (upd H0 a (.frz ob (.dK (m_5 (kds.map (·.1)) vs)))) (upd H a (.frz ob (.dK (m_5 (kds.map (·.1)) vs)))) (ρ.set i (hld kds)) σ:=by
 obtain⟨a,x,y,z,ks,vs,e,rfl,r⟩:=R.ow i _ _ hi;have he:c.He a=none:=z;have il:i<ρ.length:=(List.getElem?_eq_some_iff.mp hi).1;refine⟨a,vs,x,y,he,e,r,λ ob=>?_⟩
 have s0:Same H0 (upd H0 a (.frz ob (.dK (m_5 (kds.map (·.1)) vs)))):=λ b u q=>by rw[a_3 (a_6 q y)];exact q
 have O:∀ {j:Nat}{sl:Sl},j≠i->(ρ.set i (hld kds))[j]?=some sl->ρ[j]?=some sl:=λ Y q=>by rwa [List.getElem?_set_ne (Ne.symm Y)] at q
 have on:∀ {sl:Sl},(ρ.set i (hld kds))[i]?=some sl->sl=hld kds:=λ q=>by rw[List.getElem?_set_self il] at q;exact (qi q).symm
 refine⟨s0,λ b u q=>?_,R.init.trans s0,λ b u q=>?_,λ b u q m=>?_,λ b m=>?_,by rw[List.length_set];exact R.len,λ j d q=>?_,λ j b o q=>?_,λ j k b1 b2 o1 o2 b q1 Z q3 q4=>?_⟩
 ·by_cases h:b=a
  ·subst h;rw[a_2] at q ⊢;exact q
  ·rw[a_3 h] at q ⊢;exact R.same b u q
 ·by_cases h:b=a
  ·subst h;exact .inr he
  ·rw[a_3 h] at q;exact R.fresh b u q
 ·rw[a_3 (a_6 q he)];exact R.keep b u q m
 ·by_cases h:b=a
  ·subst h;rw[a_2];exact Option.some_ne_none _
  ·rw[a_3 h];exact R.apt b m
 ·by_cases Y:j=i
  ·subst Y
   have Z:=on q;unfold hld at Z;cases Z;refine⟨.ref a,x,?_⟩;unfold Rep;exact⟨a,ob,vs,rfl,a_2,Reps.mono s0 _ r,by rw[List.length_map,List.length_map]⟩
  ·obtain⟨v,a1,a2⟩:=R.im j d (O Y q)
   exact⟨v,a1,Rep.mono s0 _ a2⟩
 ·by_cases Y:j=i
  ·subst Y
   have Z:=on q;unfold hld at Z;cases Z
  ·have q':=O Y q
   obtain⟨b',x1,y1,z1,w1⟩:=R.ow j b o q';have nb:b'≠a:=λ h=>Y (R.ne j i b false o _ b' q' hi x1 (by rw[h];exact x))
   exact⟨b',x1,by rw[a_3 nb];exact y1,z1,w1.step s0 λ u q=>by rw[a_3 nb];exact q⟩
 ·have n1:j≠i:=λ h=>by subst h;have q5:=on q1;unfold hld at q5;cases q5
  have n2:k≠i:=λ h=>by subst h;have q5:=on Z;unfold hld at q5;cases q5
  exact R.ne j k b1 b2 o1 o2 b (O n1 q1) (O n2 Z) q3 q4
theorem RS.back {H0' H':Hp}{a:Addr}{vs:List V}{ob:Obj} (R:RS K c H0 H ρ σ) (hi:ρ[i]?=some (.ow false (.dic kds))) (x:σ[i]?=some (some (.ref a))) (y:H0 a=none) (he:c.He a=none) (r:Reps K H0 (kds.map (·.2)) vs)
  (sm:Same (upd H0 a (.frz ob (.dK (m_5 (kds.map (·.1)) vs)))) H0') (Y:RS K c H0' H' (ρ.set i (hld kds)) σ) (hn:ρ.all ndS=true):Same H0 (less H0' a)/\H' a=some (.frz ob (.dK (m_5 (kds.map (·.1)) vs)))/\RS K c (less H0' a) (upd H' a (.dK (m_5 (kds.map (·.1)) vs))) ρ σ:=by
 have ha:H0' a=some (.frz ob (.dK (m_5 (kds.map (·.1)) vs))):=sm a _ a_2
 have s0:Same H0 (less H0' a):=λ b u q=>by
  have Z:b≠a:=λ h=>by rw[h,y] at q;cases q
  rw[y_3 Z];exact sm b u (by rw[a_3 Z];exact q)
 have ab:∀ {j:Nat}{sl:Sl},j≠i->ρ[j]?=some sl->(ρ.set i (hld kds))[j]?=some sl:=λ hj q=>by rw[List.getElem?_set_ne (Ne.symm hj)];exact q
 have O:OwOk K (less H0' a) (upd H' a (.dK (m_5 (kds.map (·.1)) vs))) a (.dic kds):=⟨_,vs,a_2,rfl,Reps.mono s0 _ r⟩;have aa:∀ {b:Bool}{o:MO},ρ[i]?=some (.ow b o)->b=false/\o=.dic kds:=λ q=>by rw[hi] at q;cases q;exact⟨rfl,rfl⟩
 refine⟨s0,Y.same a _ ha,λ b u q=>by rw[a_3 (R_0 q).1];exact Y.same b u (R_0 q).2,λ b u q=>?_,λ b u q=>Y.fresh b u (R_0 q).2,λ b u q m=>?_,λ b m=>?_,R.len,λ j d q=>?_,λ j b o q=>?_,R.ne⟩
 ·exact s0 b u (R.init b u q)
 ·rw[a_3 (a_6 q he)];exact Y.keep b u q m
 ·by_cases h:b=a
  ·subst h;rw[a_2];exact Option.some_ne_none _
  ·rw[a_3 h];exact Y.apt b m
 ·obtain⟨v,a1,a2⟩:=R.im j d q
  exact⟨v,a1,Rep.mono s0 _ a2⟩
 ·by_cases hj:j=i
  ·subst hj
   obtain⟨rfl,rfl⟩:=aa q;exact⟨a,x,ai4,he,O⟩
  ·obtain⟨b',x1,y1,z1,w1⟩:=Y.ow j b o (ab hj q)
   have Z:b'≠a:=λ h=>by rw[h,ha] at y1;cases y1
   refine⟨b',x1,by rw[y_3 Z];exact y1,z1,?_⟩
   have hq:ndS (.ow b o)=true:=List.all_eq_true.mp hn _ (List.mem_of_getElem? q);cases o with
   |lst ds=>obtain⟨ws,w2,w3⟩:=w1;exact⟨ws,by rw[a_3 Z];exact w2,Reps.less ha ds hq w3⟩
   |dic ad=>obtain⟨ac,ws,w2,w3,w4⟩:=w1;exact⟨ac,ws,by rw[a_3 Z];exact w2,w3,Reps.less ha _ hq w4⟩
end
section
variable {X:Cx}{pos:Pos}{e:Expr}{F G:FE}{A:FA}
theorem bl7 (i:Nat) (he:XE X e F):XE X e (ab1 i F):=PE.wk (bq8 i he) λ σ H Q Z=>by
 obtain⟨c,H0,ρ,d,O,R,f,q⟩:=Z;unfold ab1 N_5 at f;obtain⟨⟨b,kds⟩,h1,f⟩:=a_1 f
 by_cases hc:b=false/\ρ.all ndS=true
 ·have f2:s_2 ρ (ρ.set i (hld kds)) (F (ρ.set i (hld kds)))=some (d,O):=by
   have Y:(if b=false/\ρ.all ndS=true then s_2 ρ (ρ.set i (hld kds)) (F (ρ.set i (hld kds))) else none)=some (d,O):=f
   rwa [if_pos hc] at Y
  obtain⟨rfl,hn⟩:=hc;unfold s_2 at f2;obtain⟨⟨d1,ab⟩,h2,f2⟩:=a_1 f2
  by_cases hd:nd d1=true/\ab=ρ.set i (hld kds)
  ·have Y:=(if_pos hd).symm.trans f2
   have f4:some (d1,ρ)=some (d,O):=Y;cases f4;obtain⟨aa,rfl⟩:=hd;have z:=af8 h1;obtain⟨a,vs,x,y,hE,e4,r,RR⟩:=R.asData z;refine⟨a,_,x,e4,λ ob=>⟨c,_,_,d,_,(RR ob).2,h2,λ v H0' H' sm R' rv=>?_⟩⟩
   obtain⟨s1,e5,R2⟩:=R.back z x y hE r sm R' hn;exact⟨e5,q v _ _ s1 R2 (Rep.less (sm a _ a_2) d aa rv)⟩
  ·have Y:=(if_neg hd).symm.trans f2
   cases Y
 ·have Y:(if b=false/\ρ.all ndS=true then s_2 ρ (ρ.set i (hld kds)) (F (ρ.set i (hld kds))) else none)=some (d,O):=f
  rw[if_neg hc] at Y;cases Y
end
section
variable {K:Frag}
theorem at4 {c:FC}{H1 Hh Hi' H':Hp}{ρ:En}{σ:L2.St}{kds:List (Str×D)}{a:Addr} (R:RS K c H1 Hh ρ σ) (Z:aw8 K H1 Hh (.dic kds) a Hi' H') :
  ∃ vs,H' a=some (.dK (m_5 (kds.map (·.1)) vs))/\∀ ob,∃ H2,Same H1 H2/\RS K c H2 (upd H' a (.frz ob (.dK (m_5 (kds.map (·.1)) vs)))) ρ σ/\Rep K H2 (.dct (kds.map (·.1)) (kds.map (·.2))) (.ref a):=by
 obtain⟨O,s',s,fr,a0,Y,ks,vs,e,rfl,r⟩:=Z;refine⟨vs,e,λ ob=>?_⟩
 have m:Same Hi' (upd Hi' a (.frz ob (.dK (m_5 (kds.map (·.1)) vs)))):=λ b u q=>by rw[a_3 (a_6 q a0)];exact q
 refine⟨_,O.trans m,R.after ⟨O.trans m,λ b u q=>by rw[a_3 (a_6 q Y)];exact s b u q,λ b u q=>?_,λ b u q=>?_⟩,?_⟩
 ·by_cases h:b=a
  ·subst h;rw[a_2] at q ⊢;exact q
  ·rw[a_3 h] at q ⊢;exact s' b u q
 ·by_cases h:b=a
  ·subst h;exact .inr Y
  ·rw[a_3 h] at q;exact fr b u q
 ·unfold Rep
  exact⟨a,ob,vs,rfl,a_2,Reps.mono m _ r,by rw[List.length_map,List.length_map]⟩
end
section
variable {X:Cx}{pos:Pos}{e:Expr}{F G:FE}{A:FA}
theorem aQ7 {m:MO}{d:D} (h:asD m=some d):∃ kds,m=.dic kds/\d=.dct (kds.map (·.1)) (kds.map (·.2)):=by
 cases m with
 |dic kds=>cases h;exact⟨kds,rfl,rfl⟩
 |lst ds=>cases h
theorem xNF {k:Nat}{x:Str}{g:List D → Option MO}{p:Pos}{es:List Expr} (N:DefN X.prog X.w X.K X.mg X.base k x g) (hr:Room k X.A) (ha:XA X (e::es) A) (hg:Gl X x:=by rfl) (Z:(x==("__debug__":Str))=false:=by decide)
  (he:starEach (e::es) X.env=(false,eval e X.env)::starEach es X.env:=by rfl) (aa:(backTo pos (starEach es X.env)).any (·.1)=false:=by rfl):XE X (.Call (.Name x p) (e::es) [] pos) (eNF g A):=by
 obtain⟨f,fd,ps,Fn,hb,hk,hm⟩:=N.ex;refine PE.wk (bq4 (af1 Fn hr hg hm hk hb .nil af2 ha Z he aa)) λ σ H Q O=>?_
 obtain⟨c,H0,ρ,d,ab,R,z,q⟩:=O;unfold eNF bj4 at z;obtain⟨⟨ds,Y⟩,h1,z⟩:=a_1 z;unfold bj3 at z;obtain⟨m,h2,z⟩:=a_1 z;unfold bj2 at z;obtain⟨d1,h3,z⟩:=a_1 z;have z':some (d1,Y)=some (d,ab):=z;cases z';obtain⟨kds,rfl,rfl⟩:=aQ7 h3;refine⟨c,H0,ρ,ds,_,R,h1,λ vs H1 Hh s1 R1 r1=>⟨H1,ds,_,R1.same,by rw[List.append_nil];exact r1,h2,λ a Hi' H' nw=>?_⟩⟩
 obtain⟨ws,e0,nn⟩:=at4 R1 nw;refine⟨a,_,rfl,e0,λ ob=>?_⟩
 obtain⟨H2,m1,m2,m3⟩:=nn ob;exact q _ H2 _ (s1.trans m1) m2 m3
theorem xdx {o k:Expr} (hu:X.A.units+1<cLine) (ho:XE X o F) (hk:XE X k G) (hs:bl2 k:=by exact λ _ _=>rfl):XE X (.Subscript o k pos) (e2 dDx F G) :=
 PE.wk (af0 hu ho hk hs) λ σ H Q O=>by
  obtain⟨c,H0,ρ,d,ab,R,f,q⟩:=O;obtain⟨x,Z,y,h1,h2,h3⟩:=aB8 f;unfold dDx at h3
  split at h3
  ·rename_i ks ds k
   refine⟨c,H0,ρ,_,Z,R,h1,λ v1 H1 Hh s1 R1 r1=>⟨c,H1,Z,_,ab,R1,h2,λ v2 H2 Hh2 s2 R2 r2=>?_⟩⟩
   have Y:=Rep.mono s2 _ r1;unfold Rep at Y r2;obtain⟨a,o,ws,rfl,aa,t,l⟩:=Y;have rd:Rd H2 a (.dK ((ks.map Sum.inr).zip ws)):=.inr ⟨o,aa⟩;subst r2;have f1:(ks.zip ds).map (·.1)=ks:=List.map_fst_zip (by omega)
   have f2:(ks.zip ds).map (·.2)=ds:=List.map_snd_zip (by omega)
   obtain⟨v,w1,w2⟩:=T_3 (kds:=ks.zip ds) (vs:=ws) (by rw[f2];exact t) h3
   rw[f1] at w1;exact⟨a,v,rfl,.inl ⟨_,.inr k,Same.rd R2.same rd,rfl,w1.symm⟩,q v H2 Hh2 (s1.trans s2) R2 w2⟩
  ·cases h3
end
section
variable {X:Cx}
theorem ah2:MtR X "dict.clear" (λ x xs H Q=>∃ a kvs,x=.ref a ∧ xs=[] ∧ H a=some (.dK kvs) ∧ Q .non (upd H a (.dK []))):=λ pins s σ H x xs v us Q I rx Y O=>by
 obtain⟨a,kvs,ex,ey,e,q⟩:=O;subst ex ey;cases Y;obtain rfl:v=Value.ref a:=rx;exact aP6 I e λ s' Z=>⟨.non,_,Z,rfl,q⟩
end
end Fx
namespace Fx
open PySem PySem.Spec PyProof.Rows
theorem C_4:∀ {x:Str}{l:List Str},risingS x l=true->(x::l).Pairwise λ a b=>ltS b a=false
 |x,[],_=>List.pairwise_singleton _ _
 |x,y::r,h=>by
  have h':(!ltCps y.cps.toList x.cps.toList&&risingS y r)=true:=h;rw[Bool.and_eq_true] at h';have Z:=C_4 h'.2
  have O:ltS y x=false:=by
   have:=h'.1;rw[ltCps_eq] at this
   simpa [ltS] using this
  refine List.pairwise_cons.mpr ⟨λ z hz=>?_,Z⟩
  rcases qt hz with rfl | q
  ·exact O
  ·have Y:=(List.pairwise_cons.mp Z).1 z q
   unfold ltS at O Y ⊢;rw[decide_eq_false_iff_not] at O Y ⊢;exact List.not_lt.mpr (List.le_trans (List.not_lt.mp O) (List.not_lt.mp Y))
theorem aA7 {x:Str}:∀ {l:List Str},(l.Pairwise λ a b=>ltS b a=false)->(au2 x l).Pairwise λ a b=>ltS b a=false
 |[],_=>List.pairwise_singleton _ _
 |y::r,h=>by
  unfold au2;obtain⟨h1,h2⟩:=List.pairwise_cons.mp h
  by_cases q:ltS y x=true
  ·rw[if_pos q]
   refine List.pairwise_cons.mpr ⟨λ z hz=>?_,aA7 h2⟩
   rcases mem_insS.mp hz with rfl | hz
   ·unfold ltS at q ⊢
    rw[decide_eq_true_eq] at q;rw[decide_eq_false_iff_not];exact List.not_lt.mpr (List.le_of_lt q)
   ·exact h1 z hz
  ·rw[if_neg q]
   have q:ltS y x=false:=by simpa using q
   refine List.pairwise_cons.mpr ⟨λ z hz=>?_,h⟩
   rcases qt hz with rfl | hz
   ·exact q
   ·have O:=h1 z hz
    unfold ltS at q O ⊢;rw[decide_eq_false_iff_not] at q O ⊢;exact List.not_lt.mpr (List.le_trans (List.not_lt.mp q) (List.not_lt.mp O))
theorem U_1:∀ l:List Str,(f_4 l).Pairwise λ a b=>ltS b a=false
 |[]=>List.Pairwise.nil
 |x::r=>by unfold f_4;exact aA7 (U_1 r)
theorem ins_perm {x:Str}:∀ {l:List Str},(au2 x l).Perm (x::l)
 |[]=>List.Perm.refl _
 |y::r=>by
  unfold au2
  split
  ·exact ((ins_perm (l:=r)).cons y).trans (List.Perm.swap x y r)
  ·exact List.Perm.refl _
theorem p_8:∀ l:List Str,(f_4 l).Perm l
 |[]=>List.Perm.refl _
 |x::r=>by unfold f_4;exact ins_perm.trans ((p_8 r).cons x)
theorem C_6 {l t:List Str} (Y:t.Perm l) (O:sortedS t=true):t=f_4 l:=by
 have h1:t.Pairwise λ a b=>ltS b a=false:=by
  cases t with
  |nil=>exact List.Pairwise.nil
  |cons x r=>exact C_4 O
 refine List.Perm.eq_of_pairwise (le:=λ a b=>ltS b a=false) (λ a b _ _ p q=>?_) h1 (U_1 l) (Y.trans (p_8 l).symm)
 unfold ltS at p q;rw[decide_eq_false_iff_not] at p q;have:=List.le_antisymm (List.not_lt.mp p) (List.not_lt.mp q);obtain⟨⟨la⟩⟩:=a;obtain⟨⟨Z⟩⟩:=b;cases this;rfl
section
variable {prog:Program}{w:World}{A:Around}{E:Value->Shared->Prop}{s:Shared}
theorem P_4 {it:Addr}{T:String}{ob:Obj}{n:Nat}{us:List Value}{ss:List Str}{Q:Value → Shared → Prop} (hT:T="list" ∨ T="tuple") (ho:s.heap.get? it=some ob) (hc:ob.cls=.type T) (hd:ob.data=.seq us.toArray n)
  (Y:StrsAre us ss) (Z:us.length<64)
  (k:∀ (h1 h2:Heap) (out:Array Value) (e:Nat),(∀ b o',s.heap.get? b=some o' → h1.get? b=some o') → (∀ b o',h1.get? b=some o' → h2.get? b=some o') → h2.get? h1.objs.size=some (seqObj "list" out e) → StrsAre out.toList (f_4 ss) →
   Q (.ref h1.objs.size) {s with heap:=h2}) :
  wpAny (model prog w) A (call (.builtin "sorted") [.ref it]) Q E s:=by
 refine Calls.call_function_entry kind_sorted plain_sorted entry_sorted (args_sorted1 _) ?_;unfold Builtin.«sorted»;refine qb (m:=checkCount "sorted" 1 1 _) (qc ?_);have hz:us.toArray.size<=sizeLine:=by rw[List.size_toArray,sizeLine_eq];omega
 refine qb (wpAny_collect_seq it hT ho hc hd (λ h1 kp=>?_) hz)
 refine qb (wpAny_newList ?_);have O:(h1.push (seqObj "list" us.toArray 0)).get? h1.objs.size=some (seqObj "list" us.toArray 0):=qk _ rfl;refine qb (wpAny_holding (wpAny_call_entry slot_list_sort ⟨_,O,rfl⟩ entry_list_sort (list_sort_treeK strKind_oneLt O Y.keysOf (λ v1 v2 r e=>keyKind_strs (by rw[<- e];exact Y)) Z λ st hp hs=>⟨_,rfl,?_⟩) (args_list_sort _)))
 obtain⟨t',q1,q2,q3⟩:=sorted_out_str Y hp hs;obtain⟨e,he⟩:=sortedHeap_at (out:=(arrOf st).map (·.2)) O;rw[C_6 q2 q3] at q1;refine qc ⟨_,rfl,k h1 _ _ e kp (λ b o' hb=>?_) he q1⟩
 have lt:b<h1.objs.size:=qm hb;rw[sortedHeap_old (Nat.ne_of_lt lt) (by rw[size_push'];exact Nat.lt_succ_of_lt lt)]
 exact qd _ hb
end
end Fx
namespace Fx
open PySem
theorem E_6:typeLookup (.type "tuple") "keys"=pure none:=by rw[typeLookup_type,builtinLookup_eq_fast];kernel_rfl
set_option maxHeartbeats 4000000 in
theorem R_2 {prog:Program}{w:World}{A:Around}{E:Value->Shared->Prop}{s:Shared}{a:Addr}{ob:Obj}{us:Array Value}{n:Nat}{Q:Option Value->Shared->Prop}
  (ho:s.heap.get? a=some ob) (hc:ob.cls=.type "tuple") (Y:ob.data=.seq us n) (O:ob.dict=none) (hh:A.handled=none)
  (k:∀ h' tk e,Heap.NewExcOf s.heap h' e "AttributeError" → Q none {s with heap:=h',toks:=tk}) :
  wpAny (model prog w) A (getAttr? (.ref a) "keys") Q E s:=by
 obtain⟨oc,od,ac,ab⟩:=ob;simp only at hc Y O;subst hc Y O;obtain⟨hp,gg,dd,tk,os⟩:=s;have ty:∀ Z,(⟨hp,gg,dd,Z,os⟩:Shared).TypeIs (.ref a) "tuple":=λ _=>⟨_,ho,rfl⟩
 have e1:=sub_AttributeError;have e3:=F.slot_tuple_getattribute.lookup;have e4:=F.slot_tuple_getattribute.bind (.ref a);have e5:=am_tuple_getattr_none;unfold getAttr? getAttrBy? getAttrBy
 repeat (any_goals (first | assumption | exact ty _ | ((with_reducible show wpAny _ _ (call (Value.builtin "tuple.__getattribute__") _ _) _ _ _);refine call_meets F.slot_tuple_getattribute (ty _) am_entry_tuple_getattribute (F.args_tuple_getattribute_2 _ _) (meets_getattribute_miss_tuple a us n ab "keys" _ E_6 (by decide) (by decide)) ⟨ho,hh,λ h' Z e hx=>?_⟩) | wp_step))
 obtain⟨t1,u1,he⟩:=hx.there;have tx:∀ aa,(⟨h',gg,dd,aa,os⟩:Shared).TypeIs (.ref e) "AttributeError":=λ _=>⟨_,he,rfl⟩
 show wpAny _ _ (getattributeRaised _ _ _ _ _ _ _) _ _ _;unfold getattributeRaised
 repeat (any_goals (first | assumption | exact tx _ | wp_step))
 all_goals exact k _ _ _ hx.of
theorem j_2:entryFor table "dict.update.loop"=some Builtin.«dict.update.loop»:=entryFor_of_tree (by kernel_rfl)
theorem c_7:plainId "dict.update.loop"=true:=by decide +kernel
section
variable {prog:Program}{w:World}{K:Type} [DecidableEq K] {knd:KeyKind prog w K}{A:Around}{E:Value->Shared->Prop}{s:Shared}
inductive PairsAt (knd:KeyKind prog w K) (h:Heap):List Value->List (K×Value)->Prop
 |nil:PairsAt knd h [] []
 |cons {p:Addr}{u v:Value}{k:K}{us:List Value}{kvs:List (K×Value)} (a:h.IsTuple p #[u,v]) (b:knd.is k u=true) (r:PairsAt knd h us kvs):PairsAt knd h (.ref p::us) ((k,v)::kvs)
theorem ap9 {hI:Heap}{d it t:Addr}{all:List Value}{R:Result->Shared->Prop} (ao:hI.get? d=none) (ak:hI.get? it=none) (hne:d≠it) (tu:hI.IsTuple t all.toArray) (hh:A.handled=none) :
  ∀ (us:List Value) (O Y:List (K×Value)) (s:Shared) (i:Nat) (tk:Tok),all.drop i=us->PairsAt knd hI us Y->(∀ b o,hI.get? b=some o->s.heap.get? b=some o)->s.heap.IsTupleIter it t i->s.heap.DictOf knd d O->O.length+Y.length<=sizeLine ->
   (∀ h' ad,(∀ b o,hI.get? b=some o->h'.get? b=some o)->h'.DictOf knd d (merged O Y)->R (.ok (.ret .none)) {s with heap:=h',toks:=ad}) ->
   codeAny (model prog w) A (.builtin "dict.update.loop" ⟨[.ref d,.ref it,.int i tk,.none],[]⟩) R s:=by
 intro us
 induction us with
 |nil =>
  intro O Y s i tk e ps kp ac ab hz q;cases ps;refine codeAny_builtin j_2 ?_;rw[Around.under_plainId c_7 _];show wpAny _ A.in1 (pyNext (.ref it) >>= _) _ _ s
  have ae:s.heap.IsTuple t all.toArray:=by
   obtain⟨o,ho,r⟩:=tu;exact⟨o,kp _ _ ho,r⟩
  have hx:all.toArray[i]?=none:=by
   have:all[i]?=none:=by
    have l:all.length<=i:=by simpa using e
    exact List.getElem?_eq_none l
   simpa using this
  refine qb (wpAny_pyNext_tuple_end hh ac ae hx λ h' eb=>?_)
  show wpAny _ _ (Builtin.Dict.addKeywords d [] >>= _) _ _ _;refine qb (qc (qc ?_));exact q h' s.toks (λ b o Z=>eb b o (λ z=>by rw[z,ak] at Z;cases Z) (kp _ _ Z)) (ab.extBut eb hne)
 |cons u us ih =>
  intro O Y s i tk e ps kp ac ab hz q;cases ps with
  |@cons p uk uv k _ kvs a b r =>
   refine codeAny_builtin j_2 ?_;rw[Around.under_plainId c_7 _];show wpAny _ A.in1 (pyNext (.ref it) >>= _) _ _ s
   have ae:s.heap.IsTuple t all.toArray:=by
    obtain⟨o,ho,r⟩:=tu;exact⟨o,kp _ _ ho,r⟩
   have aq:all[i]?=some (.ref p):=by
    have:=congrArg (λ l=>l[0]?) e
    simpa using this
   have hx:all.toArray[i]?=some (.ref p):=by simpa using aq
   refine qb (wpAny_pyNext_tuple_item ac ae hx λ h1 ai aj=>?_)
   have ag:∀ b o,hI.get? b=some o->h1.get? b=some o:=λ b o Z=>(aj.2 b (λ z=>by rw[z,ak] at Z;cases Z)).trans (kp _ _ Z)
   have am:h1.DictOf knd d O:=by
    obtain⟨o,es,ep,ho,rr⟩:=ab;exact⟨o,es,ep,(aj.2 d hne).trans ho,rr⟩
   obtain⟨op,as,an,on,al⟩:=a;have aa:=ag _ _ as;refine qb (wpAny_holding (qb (wpAny_tryCatch ?_)));unfold Builtin.Dict.pairItems;refine qb (wpAny_typeOf (T:="tuple") ⟨op,aa,an⟩ ?_);rw[if_pos (by decide)]
   refine qb (wpAny_seqItems aa al ?_);refine qc ?_;show wpAny _ _ (holding [uk,uv] (dictSet d uk uv)) _ _ _;refine wpAny_holding (wpAny_dictSet_pairs b am (λ h2 ar ah=>?_) (by simp only[List.length_cons] at hz;omega))
   refine qc ⟨plainId_quiet c_7 _,?_⟩;have ap:∀ b o,hI.get? b=some o->h2.get? b=some o:=λ b o Z=>(ah.2 b (λ z=>by rw[z,ao] at Z;cases Z)).trans (ag _ _ Z)
   have af:h2.IsTupleIter it t (i+1):=by
    obtain⟨o,ho,rr⟩:=ai;exact⟨o,(ah.2 it (Ne.symm hne)).trans ho,rr⟩
   have el:(stored O k uv).length+kvs.length<=sizeLine:=by
    have:(stored O k uv).length<=O.length+1:=by
     unfold stored
     split
     ·rw[List.length_map];omega
     ·rw[List.length_append];exact qj _
    simp only[List.length_cons] at hz;omega
   have:=ih (stored O k uv) kvs {s with heap:=h2,toks:=s.toks+1} (i+1) 0 (by rw[<- List.drop_drop,e];rfl) r ap af ar el (λ h' ad c1 c2=>q h' ad c1 c2)
   exact this
theorem ab2 {t:Addr}{ob:Obj}{n:Nat}{all:List Value}{kvs:List (K×Value)}{Q:Value → Shared → Prop} (ho:s.heap.get? t=some ob) (hc:ob.cls=.type "tuple") (Y:ob.data=.seq all.toArray n) (ac:ob.dict=none) (hh:A.handled=none)
  (ps:PairsAt knd s.heap all kvs) (nd:(kvs.map (·.1)).Nodup) (hz:kvs.length<=sizeLine)
  (q:∀ h' tk,(∀ b o,s.heap.get? b=some o->h'.get? b=some o)->h'.DictOf knd s.heap.objs.size kvs->Q (.ref s.heap.objs.size) {s with heap:=h',toks:=tk}) :
  wpAny (model prog w) A (call (.type "dict") [.ref t]) Q E s:=by
 refine callType_codes (Q₁:=λ z s1=>z=.ref s.heap.objs.size ∧ s1={s with heap:=s.heap.push {cls:=.type "dict",data:=.dict #[]}}) F.kt_called_dict (F.kt_typeCall_dict_1 _) F.entry_dict_init (kt_code_dict_new _ ⟨rfl,rfl⟩) ?_
 rintro z s1 ⟨rfl,rfl⟩;have dn:(s.heap.push {cls:=.type "dict",data:=.dict #[]}).DictOf knd s.heap.objs.size []:=Heap.DictOf.new s.heap;have O:(s.heap.push {cls:=.type "dict",data:=.dict #[]}).get? t=some ob:=qd _ ho;refine⟨dn.typeIs,F.args_dict_init_2 _ _,?_⟩;unfold Builtin.«dict.__init__»;refine qb ?_;unfold Builtin.Dict.selfAndRest;refine qb (wpAny_notOrdered_dict dn.typeIs (qc ?_));show wpAny _ _ (Builtin.Dict.updateFrom "dict.__init__" s.heap.objs.size (.ref t) [] .none) _ _ _;unfold Builtin.Dict.updateFrom;refine qb (wpAny_typeOf (T:="tuple") ⟨ob,O,hc⟩ ?_);rw[if_pos (by decide)]
 refine qb (R_2 (A:=A.in1.in1) O hc Y ac hh λ h2 tk e hx=>?_)
 rw[if_pos (show (none:Option Value).isNone=true from rfl)];have ab:h2.get? t=some ob:=hx.keeps _ _ O
 have aa:h2.DictOf knd s.heap.objs.size []:=by
  obtain⟨o,es,ep,h3,rr⟩:=dn;exact⟨o,es,ep,hx.keeps _ _ h3,rr⟩
 have Z:∀ b o,s.heap.get? b=some o->h2.get? b=some o:=λ b o hb=>hx.keeps _ _ (qd _ hb)
 refine qb (wpAny_rule (qb (wpAny_pyIter_tuple (items:=all.toArray) ⟨ob,ab,hc,n,Y⟩ ?_)));refine qc ⟨plainId_quiet c_7 _,?_⟩
 have d0:s.heap.get? s.heap.objs.size=none:=by
  cases z:s.heap.get? s.heap.objs.size with
  |none=>rfl
  |some o=>exact absurd (qm z) (Nat.lt_irrefl _)
 have ad:s.heap.objs.size<h2.objs.size:=by
  obtain⟨o,es,ep,h3,rr⟩:=aa;exact qm h3
 have i0:s.heap.get? h2.objs.size=none:=by
  cases z:s.heap.get? h2.objs.size with
  |none=>rfl
  |some o=>exact absurd (qm (Z _ _ z)) (Nat.lt_irrefl _)
 refine ap9 (A:=A.in1) (knd:=knd) (all:=all) (hI:=s.heap) (t:=t) d0 i0 (qr ad) ⟨ob,ho,hc,n,Y⟩ hh all [] kvs {s with heap:=h2.push {cls:=.type "tuple_iterator",data:=.fields #[.ref t,.int 0 0]},toks:=tk} 0 0 rfl ps
  (λ b o hb=>qd _ (Z _ _ hb)) ⟨_,qk _ rfl,rfl,rfl⟩ (aa.push _) (by rw[List.length_nil,Nat.zero_add];exact hz) λ h' ae c1 c2=>?_
 rw[merged_nil_of_nodup kvs nd] at c2;exact⟨rfl,q h' ae c1 c2⟩
end
end Fx
namespace Fx
open PySem PySem.Spec PyProof.Rows L2
noncomputable def KV1 (K:Frag) (d:D) (u:Value):Prop:=∃ v,RelV v u/\∀ H,Rep K H d v
noncomputable def KVs (K:Frag) (ds:List D) (us:List Value):Prop:=∃ vs,Vals vs us/\∀ H,Reps K H ds vs
section
variable {K:Frag}
theorem aA3:KV1 K .non .none:=⟨.non,rfl,λ H=>by unfold Rep;rfl⟩
theorem aA4 {i:Int}{t:Tok}:KV1 K (.int i) (.int i t):=⟨.int i,⟨t,rfl⟩,λ H=>d_2 H i⟩
theorem p_1 {x:Str}{t:Tok}:KV1 K (.str x) (.str x t):=⟨.str x,⟨t,rfl⟩,λ H=>x_1 H x⟩
theorem G_9:KVs K [] []:=⟨[],.nil,λ H=>Reps.nil_⟩
theorem e_1 {d:D}{ds:List D}{u:Value}{us:List Value} (a:KV1 K d u) (b:KVs K ds us):KVs K (d::ds) (u::us):=by
 obtain⟨v,r,p⟩:=a;obtain⟨vs,O,ps⟩:=b;exact⟨v::vs,.cons r O,λ H=>Reps.cons (p H) (ps H)⟩
theorem W_5 {a:Addr}{us:List Value}{n:Nat}{O:Array (Option Value)}{ds:List D} (l:K.lookup a=some ⟨.type "tuple",none,.seq us.toArray n,O⟩) (hz:us.length ≤ 1000) (h:KVs K ds us):KV1 K (.tup ds) (.ref a):=by
 obtain⟨vs,Y,ps⟩:=h;refine⟨.ref a,rfl,λ H=>?_⟩
 unfold Rep;refine⟨a,vs,rfl,.inr ⟨_,us.toArray,n,l,rfl,rfl,rfl,?_,?_⟩,ps H⟩
 ·rw[List.size_toArray];exact Nat.le_of_lt (w_7 hz)
 ·exact Y
end
theorem strs_inv:∀ {xs:List D}{O:List Str},aG0 xs=some O->xs=O.map .str
 |[],O,h=>by cases h;rfl
 |.str x::r,O,h=>by
  rw[J_4] at h;obtain⟨t,e,f⟩:=a_1 h;cases f;rw[strs_inv e];rfl
 |.non::_,_,h=>by cases h
 |.bl _::_,_,h=>by cases h
 |.int _::_,_,h=>by cases h
 |.tup _::_,_,h=>by cases h
 |.lst _::_,_,h=>by cases h
theorem r_8 {K:Frag}{H:Hp}:∀ O:List Str,Reps K H (O.map D.str) (O.map V.str)
 |[]=>Reps.nil_
 |x::r=>Reps.cons (x_1 H x) (r_8 r)
theorem k_3 {K:Frag}{H:Hp}:∀ {O:List Str}{vs:List V},Reps K H (O.map D.str) vs->vs=O.map V.str
 |[],vs,h=>by rw[List.map_nil] at h;unfold Reps at h;exact h
 |x::r,vs,h=>by
  rw[List.map_cons] at h;unfold Reps at h;obtain⟨v,t,rfl,a,b⟩:=h;unfold Rep at a;rw[a,k_3 b];rfl
theorem C_2:∀ {O:List Str}{us:List Value},Vals (O.map V.str) us->StrsAre us O
 |[],us,h=>by rw[List.map_nil] at h;cases h;exact .nil
 |x::r,us,h=>by
  rw[List.map_cons] at h;cases h with
  |cons a b=>obtain⟨t,rfl⟩:=a;exact .cons x t (C_2 b)
theorem o_6:∀ {us:List Value}{O:List Str},StrsAre us O->Vals (O.map V.str) us
 |_,_,.nil=>.nil
 |_,_,.cons x t h=>.cons ⟨t,rfl⟩ (o_6 h)
section
variable {X:Cx}
theorem v_5:CallR X (.builtin "sorted") (λ xs H Q=>∃ p Y,xs=[.ref p] ∧ (SqL X.K H p (Y.map V.str) ∨ SqT X.K H p (Y.map V.str)) ∧ Y.length<64 ∧ ∀ l,H l=none → Q (.ref l) (upd H l (.lst ((f_4 Y).map V.str)))):=by
 intro pins s σ H xs us Q I r h;obtain⟨p,Y,rfl,hq,ab,q⟩:=h;obtain⟨u,rfl,ru⟩:=r_0 r;cases ru;have fin:∀ (O:List Value) (T:String) (ob:Obj) (n:Nat),(T="list" ∨ T="tuple") → s.heap.get? p=some ob → ob.cls=.type T → ob.data=.seq O.toArray n → Vals (Y.map V.str) O →
   wpAny (model X.prog X.w) X.A (call (.builtin "sorted") [.ref p]) (EP X pins σ Q) X.xe s:=λ O T ob n hT ho hc hd Z=>by
  have hl:=Z.length;rw[List.length_map] at hl;refine P_4 hT ho hc hd (C_2 Z) (by omega) λ h1 h2 out e k1 k2 aa so=>?_
  have I1:Inv X pins σ H {s with heap:=h1}:=I.kept (t':=s.toks) k1
  have hz:((f_4 Y).map V.str).length<=sizeLine:=by
   rw[List.length_map,(p_8 Y).length_eq,sizeLine_eq];omega
  refine⟨.ref h1.objs.size,_,I1.laid (t':=s.toks) (o:=.lst ((f_4 Y).map V.str)) k2 (qj _) ⟨hz,out.toList,e,o_6 so,?_⟩,rfl,q _ (I1.hok.fresh (qj _))⟩;rw[aa]
 rcases hq with hq | hq
 ·obtain⟨O,Z,⟨ob,n,h1,h2,h3,h4⟩,_⟩:=I.list hq
  exact fin O "list" ob n (.inl rfl) h1 h2 h4 Z
 ·obtain⟨O,Z,⟨ob,h1,h2,n,h4⟩,_⟩:=I.tuple hq
  exact fin O "tuple" ob n (.inr rfl) h1 h2 h4 Z
theorem J_7 {xs:List D}{d:D} (h:P_6 xs=some d):∃ O:List Str,xs=O.map .str/\O.length<64/\d=.lst ((f_4 O).map .str):=by
 unfold P_6 at h;obtain⟨O,e,f⟩:=a_1 h;obtain⟨l,rfl⟩:=ifs f;exact⟨O,strs_inv e,l,rfl⟩
theorem ab8:BOk X (.builtin "sorted") I_8:=⟨_,v_5,λ c H0 H ρ σ ds d vs Q R r e q=>by
 unfold I_8 at e
 split at e
 ·obtain⟨Z,rfl,O,rfl⟩:=J_7 e
  obtain⟨v,rfl,Y⟩:=Reps.v1 r;unfold Rep at Y;obtain⟨p,ws,rfl,s,t⟩:=Y;rw[k_3 t] at s;refine⟨p,Z,rfl,.inr (Same.seqT R.same s),O,λ l hl=>?_⟩
  have S:=Step.alloc (o:=.lst ((f_4 Z).map V.str)) R.same hl;refine q _ _ _ S.s0 (R.after S) ?_;unfold Rep;exact⟨l,_,rfl,.inl (.inl a_2),r_8 _⟩
 ·obtain⟨Z,rfl,O,rfl⟩:=J_7 e
  obtain⟨v,rfl,Y⟩:=Reps.v1 r;unfold Rep at Y;obtain⟨p,ws,rfl,s,t⟩:=Y;rw[k_3 t] at s;refine⟨p,Z,rfl,.inl (Same.seq R.same s),O,λ l hl=>?_⟩
  have S:=Step.alloc (o:=.lst ((f_4 Z).map V.str)) R.same hl;refine q _ _ _ S.s0 (R.after S) ?_;unfold Rep;exact⟨l,_,rfl,.inl (.inl a_2),r_8 _⟩
 ·cases e⟩
theorem C_3:∀ {O:List Str}{us:List Value},Vals (O.map V.str) us->∃ l:List (Str×Tok),us=strValues l/\l.map (·.1)=O
 |[],us,h=>by rw[List.map_nil] at h;cases h;exact⟨[],rfl,rfl⟩
 |x::r,us,h=>by
  rw[List.map_cons] at h;cases h with
  |cons a b =>
   obtain⟨t,rfl⟩:=a;obtain⟨l,rfl,e⟩:=C_3 b;exact⟨(x,t)::l,rfl,by rw[List.map_cons,e]⟩
theorem W_6 (O:Str):∀ Y:List Str,(Str.join O Y).length<=(Y.map (·.length)).sum+Y.length*O.length
 |[]=>by show (Str.empty).length<=_;exact Nat.zero_le _
 |[x]=>by simp[Str.join]
 |x::y::r=>by
  have ih:=W_6 O (y::r)
  have Z:∀ a b:Str,(a++b).length=a.length+b.length:=λ a b=>by
   show (a.cps++b.cps).size=_;rw[Array.size_append];rfl
  show (x++O++Str.join O (y::r)).length<=_;rw[Z,Z,List.map_cons,List.sum_cons,List.length_cons,Nat.succ_mul];omega
theorem aL4:MtR X "str.join" (λ x xs H Q=>∃ O p Y,x=.str O ∧ xs=[.ref p] ∧ SqL X.K H p (Y.map V.str) ∧ (Y.map (·.length)).sum+Y.length*O.length ≤ 1000000 ∧ Q (.str (Str.join O Y)) H):=by
 intro pins s σ H x xs v us Q I rx rs h;obtain⟨O,p,Y,rfl,rfl,hq,hz,q⟩:=h;obtain⟨t,rfl⟩:=rx;obtain⟨u,rfl,ru⟩:=r_0 rs;cases ru;obtain⟨ab,rv,pl,_⟩:=I.list hq;obtain⟨l,rfl,el⟩:=C_3 rv;have jl:=W_6 O Y;have hs:(Str.join O Y).length<=sizeLine:=Nat.le_trans (Nat.le_trans jl hz) (by decide)
 have aa:Builtin.Str.tooLong ((l.map (·.1)).toArray.foldl (λ a p=>a+p.length+O.length) 0)=false:=by
  rw[StrLaws.joinTotal,el];unfold Builtin.Str.tooLong;exact decide_eq_false (by have:=(show (1000000:Nat)<=sizeLine by decide);omega)
 refine call_meets PySem.F.slot_str_join (typeIs_str _ _ _) PySem.F.entry_str_join (PySem.F.args_str_join_2 _ _) (meets_str_join_list O t p l aa) ⟨pl.isList,?_⟩;have Z:Builtin.Str.glued O (l.map (·.1))=Str.join O Y:=by rw[StrLaws.glued_eq_join,el]
 match l,el,Z with
 |[a],el,_ =>
  have e1:Str.join O Y=a.1:=by rw[<- el];rfl
  exact⟨.str (Str.join O Y),H,I,⟨a.2,by rw[e1]⟩,q⟩
 |[],_,Z=>exact⟨by rw[Z];exact hs,.str (Str.join O Y),H,I.tok _,⟨s.toks,by rw[Z]⟩,q⟩
 |a::b::r,_,Z=>exact⟨by rw[Z];exact hs,.str (Str.join O Y),H,I.tok _,⟨s.toks,by rw[Z]⟩,q⟩
theorem bl6 {e:Expr}{F:FE}{O:Str}{j:Nat}{p apos cpos:Pos} (h:XE X e F)
  (Z:attributeBase (.Constant (.str O) j p) "join" X.env (eval (.Constant (.str O) j p) X.env)=eval (.Constant (.str O) j p) X.env:=by rfl)
  (ab:((backTo cpos (starEach [e] X.env)).all (λ x=>!x.1)&&(backToKw cpos (keywordEach [] X.env)).all (λ x=>x.1.isSome)
   && decide (([e]:List Expr).length+([]:List Keyword).length+(if ([]:List Keyword).isEmpty then 0 else 1)<30))=true:=by rfl)
  (Y:(apos.endLine==cpos.line)=true:=by rfl) (hs:starEach [e] X.env=[(false,eval e X.env)]:=by rfl):XE X (.Call (.Attribute (.Constant (.str O) j p) "join" apos) [e] [] cpos) (au9 O F) :=
 PE.wk (at0 PySem.F.plainAttrs_str PySem.F.slot_str_join PySem.F.type_str_join aL4 ae9 (xaC h xaN hs) Z ab Y hs rfl) λ σ H Q aa=>by
  obtain⟨c,H0,ρ,d,ac,R,f,q⟩:=aa;unfold au9 at f;obtain⟨⟨d1,ad⟩,h1,f⟩:=a_1 f;obtain⟨xs,h2,f⟩:=a_1 f;obtain⟨d',h3,f⟩:=a_1 f;have f':some (d',ad)=some (d,ac):=f;cases f'
  have e1:d1=.lst xs:=by
   cases d1 with
   |lst ys=>cases h2;rfl
   |_=>cases h2
  subst e1;unfold aa6 at h3;obtain⟨ss,h4,h3⟩:=a_1 h3;obtain⟨hz,rfl⟩:=ifs h3;cases strs_inv h4;refine⟨rfl,c,H0,ρ,[.lst (ss.map .str)],ac,R,?_,λ vs H1 Hh s1 R1 r1=>?_⟩
  ·unfold aC
   rw[h1];rfl
  ·obtain⟨v,rfl,rv⟩:=Reps.v1 r1
   unfold Rep at rv;obtain⟨p,ws,rfl,sq,t⟩:=rv;rw[k_3 t] at sq;exact⟨O,p,ss,rfl,rfl,Same.seq R1.same sq,hz,q _ H1 Hh s1 R1 (x_1 _ _)⟩
end
inductive PV (K:Frag) (H:Hp):List V->List (Key×V)->Prop
 |nil:PV K H [] []
 |cons {a:Addr}{k:Str}{v:V}{vs:List V}{kvs:List (Key×V)} (p:SqT K H a [.str k,v]) (r:PV K H vs kvs):PV K H (.ref a::vs) ((.inr k,v)::kvs)
theorem ay8 {K:Frag}{H:Hp}:∀ {vs:List V}{kvs:List (Key×V)},PV K H vs kvs->kvs.length=vs.length
 |_,_,.nil=>rfl
 |_,_,.cons p r=>by rw[List.length_cons,List.length_cons,ay8 r]
section
variable {X:Cx}
theorem F_6 {pins:List (Addr×Obj)}{σ:L2.St}{H:Hp}{s:Shared} (I:Inv X pins σ H s):∀ {vs:List V}{kvs:List (Key×V)}{us:List Value},PV X.K H vs kvs->Vals vs us->∃ O:List (Key×Value),PairsAt (c_0 X.prog X.w) s.heap us O/\KV kvs O
 |_,_,us,.nil,h=>by cases h;exact⟨[],.nil,.nil⟩
 |_,_,us,.cons (a:=a) (k:=k) (v:=v) p r,h=>by
  cases h with
  |@cons x u xs aa h1 h2 =>
   cases h1;obtain⟨O,Z,q2⟩:=F_6 I r h2;obtain⟨ab,rv,tp,_⟩:=I.tuple p;obtain⟨u1,Y,rfl,r1,r2⟩:=ap8 rv;exact⟨(.inr k,Y)::O,.cons (show s.heap.IsTuple a #[u1,Y] from tp) (ai8 (k:=.inr k) r1) Z,.cons ⟨rfl,r2⟩ q2⟩
theorem R_1:∀ {kvs:List (Key×V)}{O:List (Key×Value)},KV kvs O->O.map (·.1)=kvs.map (·.1)
 |_,_,.nil=>rfl
 |_,_,.cons h t=>by rw[List.map_cons,List.map_cons,h.1,R_1 t]
theorem ai5:∀ {kvs:List (Key×V)}{O:List (Key×Value)},KV kvs O->O.length=kvs.length
 |_,_,.nil=>rfl
 |_,_,.cons h t=>by rw[List.length_cons,List.length_cons,ai5 t]
theorem z_6 (hc:X.calm=true):CallR X (.type "dict") (λ xs H Q=>∃ p ws kvs,xs=[.ref p] ∧ SqT X.K H p ws ∧ PV X.K H ws kvs ∧ (kvs.map (·.1)).Nodup ∧ ∀ l,H l=none → Q (.ref l) (upd H l (.dK kvs))):=by
 intro pins s σ H xs us Q I r h;obtain⟨p,ws,kvs,rfl,hq,pv,nd,q⟩:=h;obtain⟨u,rfl,ru⟩:=r_0 r;cases ru;obtain⟨aa,rv,⟨ob,h1,h2,⟨n,h3⟩,h4⟩,hz⟩:=I.tupleN hq;obtain⟨rs,Z,O⟩:=F_6 I pv rv;have Y:kvs.length<=sizeLine:=by rw[ay8 pv];exact hz
 refine ab2 h1 h2 h3 h4 (I.ok.hd hc) Z (by rw[R_1 O];exact nd) (by rw[ai5 O];exact Y) λ h' tk kp dd=>?_
 exact⟨.ref s.heap.objs.size,_,I.laid (o:=.dK kvs) kp (qj _) (X_6 Y (beq_eq_false_iff_ne.mpr (Ne.symm (qr I.big))) O dd),rfl,q _ (I.hok.fresh (qj _))⟩
end
theorem RS.unfence {K:Frag}{c:FC}{H0 H H0' H':Hp}{ρ Y:En}{σ Z:L2.St}{p:Addr}{u:HO} (R:RS K c H0 H ρ σ) (hp:H p=none) (O:RS K ⟨H0,upd H p u,[]⟩ H0' H' Y Z):RS K c H0' H' Y Z:=by
 have up:∀ b o,H b=some o->upd H p u b=some o:=λ b o e=>by
  rw[a_3 (λ z=>by rw[z,hp] at e;cases e)];exact e
 have dn:∀ b,upd H p u b=none->c.He b=none:=λ b e=>by
  cases q:c.He b with
  |none=>rfl
  |some o =>
   by_cases hb:b∈c.Ap
   ·cases z:H b with
    |none=>exact absurd z (R.apt b hb)
    |some o'=>rw[up b o' z] at e;cases e
   ·rw[up b o (R.keep b o q hb)] at e;cases e
 refine⟨O.same,R.init.trans O.init,λ b o e=>?_,λ b o e n=>O.keep b o (up b o (R.keep b o e n)) (by simp),λ a ha e=>?_,O.len,O.im,λ i b o e=>?_,O.ne⟩
 ·rcases O.fresh b o e with h | h
  ·exact R.fresh b o h
  ·exact .inr (dn b h)
 ·cases z:H a with
  |none=>exact R.apt a ha z
  |some o=>rw[O.keep a o (up a o z) (by simp)] at e;cases e
 ·obtain⟨a,x,y,z,w⟩:=O.ow i b o e
  refine⟨a,x,y,?_,w⟩;cases b with
  |true=>simp at z
  |false =>
   rw[if_neg (by simp)] at z ⊢
   exact dn a z
theorem pairsD_inv:∀ {xs:List D}{kvs:List (Str×D)},o_9 xs=some kvs->xs=kvs.map λ q=>.tup [.str q.1,q.2]
 |[],kvs,h=>by cases h;rfl
 |x::r,kvs,h=>by
  unfold o_9 at h
  split at h
  ·rename_i O;cases O
  ·rename_i k v Y O
   cases O;obtain⟨t,e,f⟩:=a_1 h;cases f;rw[pairsD_inv e];rfl
  ·cases h
theorem aI7 {K:Frag}{H0 H:Hp} (s:Same H0 H):∀ {kvs:List (Str×D)}{ws:List V},Reps K H0 (kvs.map λ q=>.tup [.str q.1,q.2]) ws->∃ vs,PV K H ws (m_5 (kvs.map (·.1)) vs)/\Reps K H0 (kvs.map (·.2)) vs
 |[],ws,h=>by
  rw[List.map_nil] at h;unfold Reps at h;subst h;exact⟨[],.nil,Reps.nil_⟩
 |q::r,ws,h=>by
  rw[List.map_cons] at h;unfold Reps at h;obtain⟨v,t,rfl,a,b⟩:=h;obtain⟨vs,Y,p2⟩:=aI7 s b;unfold Rep at a;obtain⟨ad,us,rfl,sq,ru⟩:=a;obtain⟨v1,v2,rfl,O,Z⟩:=Reps.v2 ru;unfold Rep at O;subst O;exact⟨v2::vs,.cons (Same.seqT s sq) Y,Reps.cons Z p2⟩
theorem T_4 {k:Str}:∀ {kds:List (Str×D)}{vs:List V},kds.length=vs.length->r_5 k kds=none->E_5 (m_5 (kds.map (·.1)) vs) (.inr k)=none
 |[],vs,_,_=>rfl
 |q::r,[],l,_=>by cases l
 |q::r,v::vs,l,h=>by
  unfold r_5 at h
  by_cases O:q.1=k
  ·rw[if_pos O] at h;cases h
  ·rw[if_neg O] at h
   rw[List.map_cons,r_6,p_7 λ z=>O (Sum.inr.inj z)]
   exact T_4 (Nat.succ.inj l) h
section
variable {X:Cx}
theorem bm0 {a b e:Expr}{E Kf Df:FE}{p Y apos cpos:Pos} (hm:X.mg "dict"=none) (hu:X.A.units+1<cLine) (he:XE X a E) (hk:XE X b Kf) (hd:XE X e Df) (hc:X.calm=true:=by rfl) (hg:Gl X "dict":=by rfl)
  (h1:starEach [a] X.env=[(false,eval a X.env)]:=by rfl) (m:M2 X (.Call (.Name "dict" p) [a] [] Y) "get" apos b e cpos:=by exact⟨rfl,rfl,rfl,rfl⟩) :
  XE X (.Call (.Attribute (.Call (.Name "dict" p) [a] [] Y) "get" apos) [b,e] [] cpos) (av2 E Kf Df) :=
 PE.wk (as7 hu (x_4 (z_6 hc) hg hm PyProof.Rows.boot_dict (xaC he xaN h1) (by decide) (by decide) h1 rfl) hk hd m) λ σ H Q ab=>by
  obtain⟨c,H0,ρ,d,Z,R,f,q⟩:=ab;unfold av2 at f;obtain⟨⟨d1,O⟩,g1,f⟩:=a_1 f;obtain⟨xs,g2,f⟩:=a_1 f
  by_cases no:O.all ao8=true
  ·have f:(if O.all ao8=true then _ else none)=some (d,Z):=f
   rw[if_pos no] at f;obtain⟨⟨kd,aa⟩,g3,f⟩:=a_1 f;obtain⟨⟨dd,ae⟩,g4,f⟩:=a_1 f;obtain⟨d',g5,f⟩:=a_1 f;have f':some (d',ae)=some (d,Z):=f;cases f'
   have e1:d1=.tup xs:=by
    cases d1 with
    |tup ys=>cases g2;rfl
    |_=>cases g2
   subst e1;unfold aT5 at g5;obtain⟨kvs,g6,g5⟩:=a_1 g5;obtain⟨k,g7,g5⟩:=a_1 g5;obtain⟨⟨_,nd⟩,rfl⟩:=ifs g5
   have e2:kd=.str k:=by
    cases kd with
    |str z=>cases g7;rfl
    |_=>cases g7
   subst e2;cases pairsD_inv g6;refine⟨c,H0,ρ,[.tup (kvs.map λ q=>.tup [.str q.1,q.2])],O,R,?_,λ vs H1 Hh s1 R1 r1=>?_⟩
   ·unfold aC
    rw[g1];rfl
   obtain⟨v,rfl,rv⟩:=Reps.v1 r1;unfold Rep at rv;obtain⟨ad,ws,rfl,sq,t⟩:=rv;obtain⟨vv,p1,p2⟩:=aI7 R1.same t;have ln:=p2.length;rw[List.length_map] at ln
   have kz:(m_5 (kvs.map (·.1)) vv).map (·.1)=(kvs.map (·.1)).map Sum.inr:=by
    unfold m_5;rw[List.map_fst_zip (by rw[List.length_map,List.length_map];omega)]
   have ac:((m_5 (kvs.map (·.1)) vv).map (·.1)).Nodup:=by
    rw[kz];exact List.Pairwise.map _ (λ x y h z=>h (Sum.inr.inj z)) nd
   refine⟨ad,ws,_,rfl,Same.seqT R1.same sq,p1,ac,λ l hl=>?_⟩
   refine⟨l,rfl,.inl ⟨_,.inl a_2⟩,?_⟩;have RF:=R1.fence (u:=.dK (m_5 (kvs.map (·.1)) vv)) no hl;refine⟨_,H1,O,_,aa,RF,g3,λ y H2 Hh2 s2 R2 r2=>?_⟩
   refine⟨_,H2,aa,dd,_,R2,g4,λ z H3 Hh3 s3 R3 r3=>?_⟩
   unfold Rep at r2;subst r2;have ll:Hh3 l=some (.dK (m_5 (kvs.map (·.1)) vv)):=R3.keep l _ a_2 (by simp)
   refine⟨_,DGet.k (k:=.inr k) ll,q _ H3 Hh3 (s1.trans (s2.trans s3)) (R1.unfence hl R3) ?_⟩;cases hk:r_5 k kvs with
   |none =>
    rw[T_4 (by rw[<- ln]) hk]
    exact r3
   |some dv =>
    obtain⟨v',w1,w2⟩:=T_3 p2 hk;rw[w1];exact Rep.mono (s2.trans s3) _ w2
  ·have f:(if O.all ao8=true then _ else none)=some (d,Z):=f
   rw[if_neg no] at f;cases f
theorem aD5 {x:Str}{d:D}{pos:Pos} (h:∃ a,X.mg x=some (.ref a) ∧ KV1 X.K d (.ref a)) (hg:Gl X x:=by rfl) (hd:(x==("__debug__":Str))=false:=by decide):XE X (.Name x pos) (eC d):=by
 obtain⟨a,h,v,Y,Z⟩:=h
 exact PE.wk (aK2 hg h (v:=v) Y hd) λ σ H Q O=>by
  obtain⟨c,H0,ρ,d,aa,R,f,q⟩:=O;obtain⟨rfl,rfl⟩:=N_6 f;exact q _ H0 H (Same.refl _) R (Z H0)
end
end Fx
namespace Fx
open PySem
end Fx
namespace Fx
open PySem PySem.Spec PyProof.Rows L2
theorem bs7 {P:Program}{w:World}{k:Key}{u:Value} (h:(c_0 P w).is k u=true):RelV (kV k) u:=by
 rcases d_9 (show R_3 k u=true from h) with ⟨i,t,rfl,rfl⟩ | ⟨x,t,rfl,rfl⟩
 ·exact⟨t,rfl⟩
 ·exact⟨t,rfl⟩
theorem bc2:∀ {kvs:List (Key×V)}{O:List (Key×Value)}{i:Nat}{k:Key}{x:Value},KV kvs O->O[i]?=some (k,x)->∃ v,kvs[i]?=some (k,v)
 |_,_,_,_,_,.nil,e=>by simp at e
 |_,_,0,k,x,.cons (a:=p) (b:=q) h t,e=>by
  have e:q=(k,x):=by simpa using e
  subst e;exact⟨p.2,by rw[List.getElem?_cons_zero,<- show p.1=k from h.1]⟩
 |_,_,i+1,_,_,.cons h t,e=>by
  obtain⟨v,q⟩:=bc2 t (by simpa using e)
  exact⟨v,by simpa using q⟩
noncomputable def Itd (a:Addr) (ob:Obj) (kvs:List (Key×V)):It :=
 ⟨λ i H=>i<kvs.length/\H a=some (.frz ob (.dK kvs)),λ i H x H'=>H'=H/\∃ k v,kvs[i]?=some (k,v)/\x=kV k,λ i H=>kvs.length<=i/\H a=some (.frz ob (.dK kvs))⟩
theorem aq0 {P:Program}{w:World}{K:Frag}{tg:Expr} (a it:Addr) (ob:Obj) (kvs:List (Key×V)) (es:Array DictEntry) (ep:Nat) (Z:ob.data=.dict es ep):Turn P w K tg (Itd a ob kvs) [it] it (λ i h=>h.IsKeyIter it a i kvs.length ep) where
 mem:=by simp
 obj:=λ i h st b hb=>by
  have e:b=it:=by simpa using hb
  subst e;obtain⟨o,e,c,d⟩:=st;exact⟨o,e,λ v z=>by rw[d] at z;cases z⟩
 keep:=λ i h h' st k=>st.at λ o e=>k it (by simp) o e
 item:=by
  intro X hP hw hK hc i pins s σ H E I hf st hg;subst hP hw hK;obtain⟨hi,ea⟩:=hg;obtain⟨f0,f1,f2,f3,f4,f5⟩:=hf it (by simp)
  obtain⟨eo,z,sm,vs,ab,o',ah,ag,ac,ae,Y,hk,hp,hn⟩:=(show ObjOk X.prog X.w H s.heap a (.frz ob (.dK kvs)) from I.hok a _ ea);have e1:o'=ob:=qi (ac.symm.trans eo);subst e1;rw[Z] at Y;cases Y;have aa:=ab.length;have da:s.heap.DictAt (c_0 X.prog X.w) a vs ep:=⟨o',es,eo,ae,Z,hk,hp,hn⟩;obtain⟨⟨k,v⟩,hx⟩:∃ p,vs[i]?=some p:=⟨vs[i]'(by omega),by simp⟩
  have ad:s.heap.IsKeyIter it a i vs.length ep:=by rw[<- aa];exact st
  refine wpAny_pyNext_dict_item ad da hx λ key h' af O sb=>?_
  have I1:Inv X pins σ H {s with heap:=h'}:=I.turned (t':=s.toks) (λ b o hb e=>(sb.2 b hb).trans e) f0 f1 f3 f4 f5
  obtain⟨v',e3⟩:=bc2 ab hx;obtain⟨o,e,c,d⟩:=id O;rw[<- aa] at O;exact⟨key,rfl,aj6 (s:={s with heap:=h'}) e c d (by decide) ⟨kV k,H,I1,bs7 af,⟨rfl,k,v',e3,rfl⟩,O,λ b hb=>(hf b hb).1⟩⟩
 done:=by
  intro X hP hw hK hc i pins s σ H E I hf st hg;subst hP hw hK;obtain⟨hi,ea⟩:=hg;obtain⟨f0,f1,f2,f3,f4,f5⟩:=hf it (by simp)
  obtain⟨eo,z,sm,vs,ab,o',ah,ag,ac,ae,Y,hk,hp,hn⟩:=(show ObjOk X.prog X.w H s.heap a (.frz ob (.dK kvs)) from I.hok a _ ea);have e1:o'=ob:=qi (ac.symm.trans eo);subst e1;rw[Z] at Y;cases Y;have aa:=ab.length;have da:s.heap.DictAt (c_0 X.prog X.w) a vs ep:=⟨o',es,eo,ae,Z,hk,hp,hn⟩;have ad:s.heap.IsKeyIter it a i vs.length ep:=by rw[<- aa];exact st
  exact wpAny_pyNext_dict_end (I.ok.hd hc) ad da (by simp;omega) λ h' eb=>⟨rfl,I.turned (t':=s.toks) (λ b o hb e=>eb b o hb e) f0 f1 f3 f4 f5⟩
 self:=λ _ _ _ _ _ st h=>wpAny_pyIter_keyiter st h
noncomputable def bL6 (t:TE):TI:=λ σ H R=>t σ H λ x H1=>∃ a ob kvs,x=.ref a/\H1 a=some (.frz ob (.dK kvs))/\R (Itd a ob kvs) H1
theorem az1 {X:Cx}{tg l:Expr}{tl:TE} (hl:PE X l tl):PI X tg l (bL6 tl):=by
 intro pins s σ H R I h;refine thn (hl pins s σ H _ I h) λ v O ab=>?_
 obtain⟨x,H1,I1,r1,q1⟩:=ab;obtain⟨a,ob,kvs,e,ea,q⟩:=q1;subst e;cases r1;obtain⟨eo,z,sm,vs,af,o',aa,Y,ac,ae,Z,hk,hp,hn⟩:=(show ObjOk X.prog X.w H1 O.heap a (.frz ob (.dK kvs)) from I1.hok a _ ea);have e1:o'=ob:=qi (ac.symm.trans eo);subst e1;have ad:=af.length;have da:O.heap.DictAt (c_0 X.prog X.w) a vs Y:=⟨o',aa,eo,ae,Z,hk,hp,hn⟩;refine wpAny_pyIter_dict sm da ?_;refine⟨O.heap.objs.size,[O.heap.objs.size],_,_,H1,rfl,I1.kept (t':=O.toks) λ b o e=>qd _ e,aq0 a _ o' kvs aa Y Z,⟨_,qk _ rfl,rfl,by rw[ad];rfl⟩,λ b hb=>?_,q⟩
 have e:b=O.heap.objs.size:=by simpa using hb
 subst e;exact I1.fpOk (qj _) (I1.hok.fresh (qj _))
theorem Y_9 {K:Frag}{H1:Hp}{a:Addr}{ob:Obj}{ks:List Str}{vs:List V} (ea:H1 a=some (.frz ob (.dK ((ks.map Sum.inr).zip vs)))) (l:ks.length=vs.length):v_0 K (Itd a ob ((ks.map Sum.inr).zip vs)) H1 (ks.map .str):=λ H0 H i s s'=>by
 have Y:=s' _ _ (s _ _ ea);have O:((ks.map Sum.inr).zip vs:List (Key×V)).length=ks.length:=by rw[List.length_zip,List.length_map];omega
 refine⟨λ d e=>?_,λ h=>⟨by rw[O];simpa using h,Y⟩⟩
 rw[List.getElem?_map] at e;cases z:ks[i]? with
 |none=>rw[z] at e;cases e
 |some k =>
  rw[z] at e;cases e;have hi:=(List.getElem?_eq_some_iff.mp z).1;refine⟨⟨by rw[O];exact hi,Y⟩,λ x H' ⟨h1,k',v',h2,Z⟩=>⟨h1,?_⟩⟩
  rw[List.getElem?_zip_eq_some] at h2;obtain⟨h2,_⟩:=h2;rw[List.getElem?_map,z] at h2;cases h2;unfold Rep;exact Z
end Fx
namespace Fx
open PySem
abbrev Ky:=List (List Int)
mutual
noncomputable def fK:D->Ky
 |.int i=>[[i]]
 |.str s=>[s.cps.toList.map Int.ofNat]
 |.tup xs=>fKs xs
 |_=>[]
noncomputable def fKs:List D->Ky
 |[]=>[]
 |d::r=>fK d++fKs r
end
noncomputable def ltK (a b:D):Bool:=decide (fK a<fK b)
noncomputable def au1 (x:D):List D->List D
 |[]=>[x]
 |y::r=>if ltK y x=true then y::au1 x r else x::y::r
noncomputable def q_7:List D->List D
 |[]=>[]
 |x::r=>au1 x (q_7 r)
theorem mem_insT {x y:D}:∀ {l:List D},y∈au1 x l↔y=x\/y∈l
 |[]=>by simp[au1]
 |z::r=>by
  unfold au1
  split
  ·rw[List.mem_cons,mem_insT,List.mem_cons]
   exact⟨λ h=>by rcases h with h | h | h;exact .inr (.inl h);exact .inl h;exact .inr (.inr h),λ h=>by rcases h with h | h | h;exact .inr (.inl h);exact .inl h;exact .inr (.inr h)⟩
  ·rw[List.mem_cons]
theorem insT_perm {x:D}:∀ {l:List D},(au1 x l).Perm (x::l)
 |[]=>List.Perm.refl _
 |y::r=>by
  unfold au1
  split
  ·exact ((insT_perm (l:=r)).cons y).trans (List.Perm.swap x y r)
  ·exact List.Perm.refl _
theorem i_2:∀ l:List D,(q_7 l).Perm l
 |[]=>List.Perm.refl _
 |x::r=>by unfold q_7;exact insT_perm.trans ((i_2 r).cons x)
theorem ah8 {a b c:Ky} (h1:¬ b<a) (h2:¬ c<b):¬ c<a:=List.not_lt.mpr (List.le_trans (List.not_lt.mp h1) (List.not_lt.mp h2))
theorem aj2 {x:D}:∀ {l:List D},(l.Pairwise λ a b=>ltK b a=false)->(au1 x l).Pairwise λ a b=>ltK b a=false
 |[],_=>List.pairwise_singleton _ _
 |y::r,h=>by
  unfold au1;obtain⟨h1,h2⟩:=List.pairwise_cons.mp h
  by_cases q:ltK y x=true
  ·rw[if_pos q]
   refine List.pairwise_cons.mpr ⟨λ z hz=>?_,aj2 h2⟩
   rcases mem_insT.mp hz with rfl | hz
   ·unfold ltK at q ⊢
    rw[decide_eq_true_eq] at q;rw[decide_eq_false_iff_not];exact List.not_lt.mpr (List.le_of_lt q)
   ·exact h1 z hz
  ·rw[if_neg q]
   have q:ltK y x=false:=by simpa using q
   refine List.pairwise_cons.mpr ⟨λ z hz=>?_,h⟩
   rcases qt hz with rfl | hz
   ·exact q
   ·have O:=h1 z hz
    unfold ltK at q O ⊢;rw[decide_eq_false_iff_not] at q O ⊢;exact ah8 q O
theorem E_9:∀ l:List D,(q_7 l).Pairwise λ a b=>ltK b a=false
 |[]=>List.Pairwise.nil
 |x::r=>by unfold q_7;exact aj2 (E_9 r)
theorem C_5 {l t:List D} (inj:∀ a b,a∈l->b∈l->fK a=fK b->a=b) (O:t.Perm l) (Y:t.Pairwise λ a b=>ltK b a=false):t=q_7 l:=by
 refine List.Perm.eq_of_pairwise (le:=λ a b=>ltK b a=false) (λ a b Z hb p q=>?_) Y (E_9 l) (O.trans (i_2 l).symm)
 unfold ltK at p q;rw[decide_eq_false_iff_not] at p q;exact inj a b (O.mem_iff.mp Z) ((i_2 l).mem_iff.mp hb) (List.le_antisymm (List.not_lt.mp p) (List.not_lt.mp q))
theorem X_9 {p q:Nat->Bool}:∀ {l:List Nat},(∀ x,p x=true->q x=true)->(∃ x∈l,q x=true/\p x=false)->l.countP p<l.countP q
 |[],_,h=>by obtain⟨x,h,_⟩:=h;cases h
 |y::r,hi,h=>by
  have le:r.countP p<=r.countP q:=List.countP_mono_left λ x _=>hi x
  obtain⟨x,O,h1,h2⟩:=h
  rcases qt O with rfl | O
  ·rw[List.countP_cons_of_neg (by rw[h2];exact Bool.false_ne_true),List.countP_cons_of_pos h1];omega
  ·have Z:=X_9 hi ⟨x,O,h1,h2⟩
   cases Y:p y with
   |true=>rw[List.countP_cons_of_pos Y,List.countP_cons_of_pos (hi y Y)];omega
   |false =>
    rw[List.countP_cons_of_neg (by rw[Y];exact Bool.false_ne_true)]
    exact qq Z (by rw[List.countP_cons];omega)
noncomputable def ae1 (n:Nat) (key:Nat->Ky) (i:Nat):Nat:=(List.range n).countP λ k=>decide (key k<key i)
theorem V_0 {n:Nat}{key:Nat->Ky}{i j:Nat} (hi:i<n):ae1 n key i<ae1 n key j↔key i<key j:=by
 constructor
 ·intro h
  by_cases c:key i<key j
  ·exact c
  ·have le:ae1 n key j<=ae1 n key i:=List.countP_mono_left λ x _ O=>by
    rw[decide_eq_true_eq] at O ⊢;refine Decidable.byContradiction λ z=>c (List.lt_of_le_of_lt (List.not_lt.mp z) O)
   omega
 ·intro c
  refine X_9 (λ x O=>?_) ⟨i,List.mem_range.mpr hi,decide_eq_true c,decide_eq_false (List.lt_irrefl _)⟩
  rw[decide_eq_true_eq] at O ⊢;exact List.lt_trans O c
noncomputable def r3:D->Bool
 |.tup [.int _,.str _,.int _]=>true
 |_=>false
noncomputable def r22:D->Bool
 |.tup [.tup [.str _,.int _],.tup [.int _,.int _]]=>true
 |_=>false
noncomputable def p_6:List D->Option D
 |[.lst xs]=>if xs.length<64/\(xs.all r3=true\/xs.all r22=true) then some (.lst (q_7 xs)) else none
 |_=>none
@[simp] theorem Y_5 (xs:List D):p_6 [.lst xs]=if xs.length<64/\(xs.all r3=true\/xs.all r22=true) then some (.lst (q_7 xs)) else none:=zR rfl
noncomputable def bk4:D->Option D
 |.lst xs=>some (.lst xs.reverse)
 |_=>none
@[simp] theorem bF0 (xs:List D):bk4 (.lst xs)=some (.lst xs.reverse):=zR rfl
noncomputable def ba0:Option Sl->Option (List D)
 |some (.ow false (.lst ds))=>some ds
 |_=>none
noncomputable def F_7 (i:Nat) (ρ:En):Bool:=(ρ.set i .no).all ao8
end Fx
namespace Fx
open PySem PySem.Spec PyProof.Rows L2
noncomputable def w_8:D->D->Bool
 |.int _,.int _=>true
 |.str _,.str _=>true
 |_,_=>false
noncomputable def g_7:List D->List D->Bool
 |[],[]=>true
 |d::r,e::t=>w_8 d e&&g_7 r t
 |_,_=>false
noncomputable def ltF:D->D->Bool
 |.int i,.int j=>decide (i<j)
 |.str a,.str b=>decide (a.cps.toList<b.cps.toList)
 |_,_=>false
noncomputable def J_1:List D->List D->Bool
 |d::r,e::t=>if eqD d e=true then J_1 r t else ltF d e
 |_,_=>false
theorem az8:∀ (l m:List Nat),(l.map Int.ofNat<m.map Int.ofNat)↔l<m
 |[],[]=>by simp
 |[],_::_=>by simp
 |_::_,[]=>by simp
 |a::l,b::m=>by
  rw[List.map_cons,List.map_cons,List.cons_lt_cons_iff,List.cons_lt_cons_iff,az8 l m];have h1:(Int.ofNat a<Int.ofNat b)↔a<b:=Int.ofNat_lt;have h2:(Int.ofNat a=Int.ofNat b)↔a=b:=Int.ofNat_inj;rw[h1,h2]
theorem ag1 (a b:List Int):([a]:Ky)<[b]↔a<b:=by
 rw[List.cons_lt_cons_iff];exact⟨λ h=>h.elim id λ z=>absurd z.2 (List.lt_irrefl _),.inl⟩
theorem v_8 {d e:D} (h:w_8 d e=true):(eqD d e=true↔d=e)/\(fK d=fK e↔d=e)/\(ltF d e=true↔fK d<fK e)/\(∃ k,fK d=[k])/\∃ k,fK e=[k]:=by
 cases d with
 |int i =>
  cases e with
  |int j =>
   have e1:fK (.int i)=[[i]]:=by unfold fK;rfl
   have e2:fK (.int j)=[[j]]:=by unfold fK;rfl
   rw[e1,e2];refine⟨by simp,by simp,?_,⟨_,rfl⟩,_,rfl⟩
   rw[ag1,List.cons_lt_cons_iff];show decide (i<j)=true↔_;rw[decide_eq_true_eq];exact⟨.inl,λ z=>z.elim id λ y=>absurd y.2 (List.lt_irrefl _)⟩
  |_=>cases h
 |str a =>
  cases e with
  |str b =>
   have e1:fK (.str a)=[a.cps.toList.map Int.ofNat]:=by unfold fK;rfl
   have e2:fK (.str b)=[b.cps.toList.map Int.ofNat]:=by unfold fK;rfl
   rw[e1,e2];refine⟨by simp,?_,?_,⟨_,rfl⟩,_,rfl⟩
   ·constructor
    ·intro z
     have O:a.cps.toList.map Int.ofNat=b.cps.toList.map Int.ofNat:=(List.cons.inj z).1;have Y:a.cps.toList=b.cps.toList:=List.map_inj_right (λ x y q=>Int.ofNat.inj q) |>.mp O
     obtain⟨⟨Z⟩⟩:=a;obtain⟨⟨lb⟩⟩:=b;cases Y;rfl
    ·intro z;cases z;rfl
   ·rw[ag1,az8]
    show decide (a.cps.toList<b.cps.toList)=true↔_;rw[decide_eq_true_eq]
  |_=>cases h
 |_=>cases h
theorem j_1 (d:D) (r:List D):fKs (d::r)=fK d++fKs r:=by rw[fKs]
theorem p_9:∀ {ds es:List D},g_7 ds es=true->ds.length=es.length/\(fKs ds).length=(fKs es).length
 |[],[],_=>⟨rfl,rfl⟩
 |[],_::_,h=>by cases h
 |_::_,[],h=>by cases h
 |d::r,e::t,h=>by
  unfold g_7 at h;rw[Bool.and_eq_true] at h;obtain⟨_,_,_,⟨k,e1⟩,O,e2⟩:=v_8 h.1;obtain⟨h1,h2⟩:=p_9 h.2;exact⟨by simp[h1],by rw[j_1,j_1,e1,e2];simp[h2]⟩
theorem m_6:∀ {ds es:List D},g_7 ds es=true->(fKs ds=fKs es↔ds=es)
 |[],[],_=>by simp
 |[],_::_,h=>by cases h
 |_::_,[],h=>by cases h
 |d::r,e::t,h=>by
  unfold g_7 at h;rw[Bool.and_eq_true] at h;obtain⟨_,q,_,⟨k,e1⟩,Y,e2⟩:=v_8 h.1;have Z:=m_6 h.2;rw[j_1,j_1];constructor
  ·intro z
   rw[e1,e2] at z;have O:k::fKs r=Y::fKs t:=z;injection O with z1 z2
   rw[q.mp (by rw[e1,e2,z1]),Z.mp z2]
  ·intro z;cases z;rfl
theorem G_7:∀ {ds es:List D},g_7 ds es=true->J_1 ds es=decide (fKs ds<fKs es)
 |[],[],_=>by
  have:fKs []=[]:=by rw[fKs]
  rw[this];exact (decide_eq_false (List.lt_irrefl _)).symm
 |[],_::_,h=>by cases h
 |_::_,[],h=>by cases h
 |d::r,e::t,h=>by
  unfold g_7 at h;rw[Bool.and_eq_true] at h;obtain⟨Z,q2,q3,⟨k,e1⟩,O,e2⟩:=v_8 h.1;have ih:=G_7 h.2;unfold J_1;rw[j_1,j_1,e1,e2];show _=decide (k::fKs r<O::fKs t)
  by_cases z:eqD d e=true
  ·have:k=O:=by
    have:=Z.mp z;subst this;rw[e1] at e2;exact (List.cons.inj e2).1
   subst this;rw[if_pos z,ih];refine decide_eq_decide.mpr ?_;rw[List.cons_lt_cons_iff];exact⟨λ y=>.inr ⟨rfl,y⟩,λ y=>y.elim (λ y=>absurd y (List.lt_irrefl _)) (·.2)⟩
  ·rw[if_neg z]
   have ne:k≠O:=λ y=>z (Z.mpr (q2.mp (by rw[e1,e2,y])))
   have e3:ltF d e=decide (k<O):=by
    have q4:ltF d e=true↔k<O:=by rw[q3,e1,e2,ag1]
    cases Y:ltF d e with
    |true=>exact (decide_eq_true (q4.mp Y)).symm
    |false=>exact (decide_eq_false λ y=>by rw[q4.mpr y] at Y;cases Y).symm
   rw[e3];refine decide_eq_decide.mpr ?_;rw[List.cons_lt_cons_iff];exact⟨.inl,λ y=>y.elim id λ y=>absurd y.1 ne⟩
end Fx
namespace Fx
open PySem
mutual
noncomputable def nl:D->Bool
 |.lst _=>false
 |.dct _ _=>false
 |.opq=>false
 |.tup xs=>nls xs
 |_=>true
noncomputable def nls:List D->Bool
 |[]=>true
 |d::r=>nl d&&nls r
end
noncomputable def lsA (o:Option (D×En)):Option (List D×En):=bnd o λ p=>match p.1 with
 |.lst ds=>some (ds,p.2)
 |_=>none
noncomputable def oFr (F:FE) (ρ:En):Option (List D×En):=lsA (F ρ)
@[simp] theorem bP7 (F:FE) (ρ:En):oFr F ρ=lsA (F ρ):=zR rfl
@[simp] theorem bK8 (ds:List D) (ρ:En):lsA (some (.lst ds,ρ))=some (ds,ρ):=zR rfl
noncomputable def lsX:D->Option (List D)
 |.lst xs=>some xs
 |_=>none
@[simp] theorem bK7 (xs:List D):lsX (.lst xs)=some xs:=zR rfl
noncomputable def ar1 (i:Nat) (ρ:En) (xs:List D) (o:Option (List D)):Option Res:=bnd o λ ds=>if ds.length+xs.length<1000 then some (.nx (ρ.set i (.ow false (.lst (ds++xs))))) else none
noncomputable def ar2 (i:Nat) (ρ:En) (o:Option (List D)):Option Res:=bnd o λ xs=>ar1 i ρ xs (owL ρ[i]?)
noncomputable def ar3 (i:Nat) (o:Option (D×En)):Option Res:=bnd o λ p=>ar2 i p.2 (lsX p.1)
noncomputable def ar4 (i:Nat) (F:FE) (ρ:En) (o:Option (List D)):Option Res:=bnd o λ _=>ar3 i (F ρ)
noncomputable def bi7 (i:Nat) (F:FE) (ρ:En):Option Res:=ar4 i F ρ (owL ρ[i]?)
@[simp] theorem bJ0 (i:Nat) (F:FE) (ρ:En):bi7 i F ρ=ar4 i F ρ (owL ρ[i]?):=zR rfl
@[simp] theorem bp1 (i:Nat) (F:FE) (ρ:En) (ds:List D):ar4 i F ρ (some ds)=ar3 i (F ρ):=zR rfl
@[simp] theorem bp0 (i:Nat) (d:D) (ρ:En):ar3 i (some (d,ρ))=ar2 i ρ (lsX d):=zR rfl
@[simp] theorem bo9 (i:Nat) (ρ:En) (xs:List D):ar2 i ρ (some xs)=ar1 i ρ xs (owL ρ[i]?):=zR rfl
@[simp] theorem bo8 (i:Nat) (ρ:En) (xs ds:List D):ar1 i ρ xs (some ds)=if ds.length+xs.length<1000 then some (.nx (ρ.set i (.ow false (.lst (ds++xs))))) else none:=zR rfl
noncomputable def lk1 (op:D->D->Option D) (x:D) (o:Option (D×En)):Option (D×En):=bnd o λ r=>mkP (op x r.1) r.2
noncomputable def bL1 (op:D->D->Option D) (M:FE) (y:D) (ρ:En) (o:Option Bool):Option (D×En):=bnd o λ b=>if b=true then lk1 op y (M ρ) else some (.bl false,ρ)
noncomputable def bL2 (op:D->D->Option D) (M:FE) (y:D) (ρ:En) (o:Option D):Option (D×En):=bnd o λ z=>bL1 op M y ρ (blB z)
noncomputable def lk2 (op O:D->D->Option D) (M:FE) (x:D) (o:Option (D×En)):Option (D×En):=bnd o λ r=>bL2 O M r.1 r.2 (op x r.1)
noncomputable def bK9 (op O:D->D->Option D) (L M:FE) (y:D) (ρ:En) (o:Option Bool):Option (D×En):=bnd o λ b=>if b=true then lk2 op O M y (L ρ) else some (.bl false,ρ)
noncomputable def bL0 (op O:D->D->Option D) (L M:FE) (y:D) (ρ:En) (o:Option D):Option (D×En):=bnd o λ z=>bK9 op O L M y ρ (blB z)
noncomputable def lk3 (op Y O:D->D->Option D) (L M:FE) (x:D) (o:Option (D×En)):Option (D×En):=bnd o λ r=>bL0 Y O L M r.1 r.2 (op x r.1)
noncomputable def e4a (op Y O:D->D->Option D) (G L M:FE) (o:Option (D×En)):Option (D×En):=bnd o λ p=>lk3 op Y O L M p.1 (G p.2)
noncomputable def e4 (op Y O:D->D->Option D) (F G L M:FE) (ρ:En):Option (D×En):=e4a op Y O G L M (F ρ)
noncomputable def aP8:D->Option D
 |.dct ks _=>some (.lst (ks.map .str))
 |_=>none
@[simp] theorem bw7 (ks:List Str) (vs:List D):aP8 (.dct ks vs)=some (.lst (ks.map .str)):=zR rfl
noncomputable def E_0:D->Option D
 |.dct ks _=>if ks.length<64 then some (.lst ((f_4 ks).map .str)) else none
 |_=>none
@[simp] theorem H_9 (ks:List Str) (vs:List D):E_0 (.dct ks vs)=if ks.length<64 then some (.lst ((f_4 ks).map .str)) else none:=zR rfl
noncomputable def bj7 (g:List D->Option D) (A:FA) (o:Option (D×En)):Option (D×En):=bnd o λ p=>if isQ p.1=true then eF g A p.2 else none
noncomputable def eFv (i:Nat) (g:List D->Option D) (A:FA) (ρ:En):Option (D×En):=bj7 g A (eV i ρ)
@[simp] theorem bs8:isQ .opq=true:=zR rfl
@[simp] theorem bQ7 (i:Nat) (g:List D->Option D) (A:FA) (ρ:En):eFv i g A ρ=bj7 g A (eV i ρ):=zR rfl
@[simp] theorem bE1 (g:List D->Option D) (A:FA) (d:D) (ρ:En):bj7 g A (some (d,ρ))=if isQ d=true then eF g A ρ else none:=zR rfl
theorem isQ_inv {d:D} (h:isQ d=true):d=.opq:=by cases d <;> first | rfl | cases h
noncomputable def O_6:List D->Option D
 |[.lst xs]=>bnd (o_9 xs) λ kvs=>if kvs.length<=1000/\(kvs.map (·.1)).Nodup then some (.dct (kvs.map (·.1)) (kvs.map (·.2))) else none
 |_=>none
@[simp] theorem aw5 (xs:List D):O_6 [.lst xs]=bnd (o_9 xs) λ kvs=>if kvs.length<=1000/\(kvs.map (·.1)).Nodup then some (.dct (kvs.map (·.1)) (kvs.map (·.2))) else none:=zR rfl
noncomputable def av4:D->D->Option D
 |.tup a,.tup b=>if a.length+b.length<=1000/\0<a.length/\0<b.length then some (.tup (a++b)) else none
 |_,_=>none
@[simp] theorem bx1 (a b:List D):av4 (.tup a) (.tup b)=if a.length+b.length<=1000/\0<a.length/\0<b.length then some (.tup (a++b)) else none:=zR rfl
noncomputable def fl:D->Bool
 |.tup _=>false
 |.lst _=>false
 |.dct _ _=>false
 |.opq=>false
 |_=>true
noncomputable def hdF:List D->Bool
 |[]=>true
 |d::_=>fl d
noncomputable def hdT:List D->Bool
 |.tup _::_=>true
 |_=>false
mutual
noncomputable def nr:D->Bool
 |.dct _ _=>false
 |.opq=>false
 |.tup xs=>nrs xs
 |.lst xs=>hdF xs&&nrs xs
 |_=>true
noncomputable def nrs:List D->Bool
 |[]=>true
 |d::r=>nr d&&nrs r
end
@[simp] theorem bA7 (b:Int):nr (.int b)=true:=zR rfl
@[simp] theorem bA6 (b:Str):nr (.str b)=true:=zR rfl
@[simp] theorem bb1 (b:List D):nr (.tup b)=nrs b:=zR rfl
@[simp] theorem bb3 (b:List D):nr (.lst b)=(hdF b&&nrs b):=zR rfl
@[simp] theorem br6:nrs []=true:=zR rfl
@[simp] theorem r_9 (d:D) (r:List D):nrs (d::r)=(nr d&&nrs r):=zR rfl
noncomputable def t_4 (ρ O:En) (o:Option (D×En)):Option (D×En):=bnd o λ p=>@ite _ (nr p.1=true/\p.2=O) (@instDecidableAnd _ _ _ (bk3 _ _)) (some (p.1,ρ)) none
noncomputable def z_2 (i:Nat) (F:FE) (ρ:En) (o:Option (List D)):Option (D×En):=bnd o λ ds=>if F_7 i ρ=true/\hdT ds=true then t_4 ρ (ρ.set i (.im (.lst ds))) (F (ρ.set i (.im (.lst ds)))) else none
noncomputable def N_4 (i:Nat) (F:FE) (ρ:En):Option (D×En):=z_2 i F ρ (ba0 ρ[i]?)
@[simp] theorem aP1 (i:Nat) (F:FE) (ρ:En):N_4 i F ρ=z_2 i F ρ (ba0 ρ[i]?):=zR rfl
@[simp] theorem al1 (i:Nat) (F:FE) (ρ:En) (ds:List D):z_2 i F ρ (some ds)=if F_7 i ρ=true/\hdT ds=true then t_4 ρ (ρ.set i (.im (.lst ds))) (F (ρ.set i (.im (.lst ds)))) else none:=zR rfl
theorem al0 (ρ O:En) (d:D) (h:nr d=true):t_4 ρ O (some (d,O))=some (d,ρ):=by
 unfold t_4 bnd;exact if_pos ⟨h,rfl⟩
noncomputable def U_2 (i:Nat) (ρ:En) (o:Option D):Option Res:=bnd o λ d=>match d with
 |.lst es=>if hdT es=true/\nrs es=true then some (.nx (ρ.set i (.ow false (.lst es)))) else none
 |_=>none
noncomputable def U_3 (i:Nat) (g:List D->Option D) (ds:List D) (ρ:En) (o:Option (D×En)):Option Res:=bnd o λ q=>if hdT ds=true/\nrs ds=true/\fl q.1=true then U_2 i ρ (g [.lst ds,q.1]) else none
noncomputable def U_4 (i:Nat) (g:List D->Option D) (j:Nat) (o:Option (List D×En)):Option Res:=bnd o λ p=>U_3 i g p.1 p.2 (eV j p.2)
noncomputable def ar0 (i:Nat) (g:List D->Option D) (A:FA) (j:Nat) (ρ:En):Option Res:=U_4 i g j (A ρ)
@[simp] theorem bz1 (i:Nat) (g:List D->Option D) (A:FA) (j:Nat) (ρ:En):ar0 i g A j ρ=U_4 i g j (A ρ):=zR rfl
@[simp] theorem bi5 (i:Nat) (g:List D->Option D) (j:Nat) (ds:List D) (ρ:En):U_4 i g j (some (ds,ρ))=U_3 i g ds ρ (eV j ρ):=zR rfl
@[simp] theorem bi4 (i:Nat) (g:List D->Option D) (ds:List D) (ρ:En) (d:D) (O:En):U_3 i g ds ρ (some (d,O))=if hdT ds=true/\nrs ds=true/\fl d=true then U_2 i ρ (g [.lst ds,d]) else none:=zR rfl
@[simp] theorem bi3 (i:Nat) (ρ:En) (es:List D):U_2 i ρ (some (.lst es))=if hdT es=true/\nrs es=true then some (.nx (ρ.set i (.ow false (.lst es)))) else none:=zR rfl
noncomputable def ltv:D->Bool
 |.lst ds=>ds.all r3&&decide (ds.length<=1000)
 |_=>false
noncomputable def aH3 (i h k:Nat) (ρ O:En) (o:Option (Bool×En)):Option Res:=bnd o λ p=>@ite _ (p.2=O) (bk3 _ _) (some (if p.1=true then .rt (.bl false) p.2 else .nx (((ρ.set h .no).set i .no).set k .no))) none
noncomputable def aH4 (i h k:Nat) (T:FT) (O:List D) (ρ:En) (o:Option MO):Option Res:=bnd o λ m=>match m with
 |.dic kds=>if (kds.map (·.2)).all ltv=true/\kds.length<=1000 then aH3 i h k ρ ((ρ.set h (.im (.lst O))).set i (hld kds)) (T ((ρ.set h (.im (.lst O))).set i (hld kds))) else none
 |_=>none
noncomputable def hdS:List D->Bool
 |.tup (.str _::_)::_=>true
 |_=>false
noncomputable def aW9 (i h k:Nat) (g:List D->Option MO) (T:FT) (ρ:En) (O:List D) (o:Option (D×En)):Option Res:=bnd o λ p=>match p.1 with
 |.lst ws=>if hdS ws=true/\nls ws=true/\nls O=true/\F_7 h ρ=true/\i<ρ.length/\k<ρ.length/\k≠i then aH4 i h k T O ρ (g [.lst ws,.lst O]) else none
 |_=>none
noncomputable def aX0 (i h k j:Nat) (g:List D->Option MO) (T:FT) (ρ:En) (o:Option (List D)):Option Res:=bnd o λ O=>aW9 i h k g T ρ O (eV j ρ)
noncomputable def aX1 (i h k j:Nat) (g:List D->Option MO) (T:FT) (ρ:En):Option Res:=aX0 i h k j g T ρ (ba0 ρ[h]?)
end Fx
namespace Fx
open PySem PySem.Spec
noncomputable def SetS (P:Program) (w:World) (Y:Bool) (h:Heap) (a:Addr) (O:List Str):Prop:=h.SetOf (PySem.strKind P w) a (λ k=>decide (k∈O)) O.length
noncomputable def ItAt:Bool->Heap->Addr->Addr->Nat->Prop
 |true,h,it,c,i=>h.IsTupleIter it c i
 |false,h,it,c,i=>h.IsListIter it c i
noncomputable def SqAt:Bool->Heap->Addr->Array Value->Prop
 |true,h,c,us=>h.IsTuple c us
 |false,h,c,us=>h.IsList c us
section
variable {P:Program}{w:World}{A:Around}{E:Value->Shared->Prop}{s:Shared}{it c:Addr}{i:Nat}{us:Array Value}
theorem SqAt.keep {T:Bool}{h h':Heap} (q:SqAt T h c us) (k:∀ b o,h.get? b=some o->h'.get? b=some o):SqAt T h' c us:=by
 cases T with
 |true=>obtain⟨o,ho,r⟩:=q;exact⟨o,k _ _ ho,r⟩
 |false=>obtain⟨o,ho,r⟩:=q;exact⟨o,k _ _ ho,r⟩
theorem ItAt.same {T:Bool}{h h':Heap}{b:Addr} (q:ItAt T h it c i) (O:Heap.SameBut b h h') (Y:it≠b):ItAt T h' it c i:=by
 cases T with
 |true=>obtain⟨o,ho,r⟩:=q;exact⟨o,(O.2 it Y).trans ho,r⟩
 |false=>obtain⟨o,ho,r⟩:=q;exact⟨o,(O.2 it Y).trans ho,r⟩
theorem SetS.same {Y:Bool}{h h':Heap}{a b:Addr}{O:List Str} (q:SetS P w Y h a O) (Z:Heap.SameBut b h h') (ne:a≠b):SetS P w Y h' a O:=by
 obtain⟨o,es,ep,t,ho,r⟩:=q;exact⟨o,es,ep,t,(Z.2 a ne).trans ho,r⟩
theorem SetS.keep {Y:Bool}{h h':Heap}{a:Addr}{O:List Str} (q:SetS P w Y h a O) (k:∀ b o,h.get? b=some o->h'.get? b=some o):SetS P w Y h' a O:=by
 obtain⟨o,es,ep,t,ho,r⟩:=q;exact⟨o,es,ep,t,k _ _ ho,r⟩
end
end Fx
namespace Fx
open PySem PySem.Spec PyProof.Rows L2
theorem Step.side {H0 H:Hp}{p:Addr}{o:HO} (s:Same H0 H) (Y:H p=none):Step H0 H H0 (upd H p o):=by
 refine⟨Same.refl _,λ b u e=>by rw[a_3 (a_6 e Y)];exact e,λ b u e=>?_,λ b u e=>.inl e⟩
 have O:=s _ _ e;rw[a_3 (a_6 O Y)];exact O
section
variable {P:Program}{w:World}{A:Around}{E:Value->Shared->Prop}{s:Shared}{T:String}{r d:Addr}{n:Nat}{Pr:Nat->Value->Prop}{OK:Heap->Prop}
theorem S_4 {Q:List Value->Shared->Prop} (S:PySem.W.KdlSrc P w T r d n Pr OK) (hh:A.handled=none) (aa:OK s.heap) (hn:n<=sizeLine)
  (k:∀ (h':Heap) (tk:Nat) (O:Array Value),(∀ b o,s.heap.get? b=some o->h'.get? b=some o)->ItemsOf Pr O n->Q O.toList {s with heap:=h',toks:=tk}):wpAny (model P w) A (collect (.ref r)) Q E s:=by
 have lt:=S.there _ aa;unfold collect;refine qb (wpAny_runValue (codeAny_builtin PySem.F.entry_proto_collect ?_));rw[Around.under_plainId PySem.F.plain_proto_collect _];show wpAny _ A.in1 (newList [] >>= λ z=>again (.builtin "list.__iadd__" ⟨[z,.ref r],[]⟩)) _ _ s
 refine qb (wpAny_newObj_type (qc ⟨plainId_quiet PySem.F.plain_list_iadd _,codeAny_builtin PySem.F.entry_list_iadd ?_⟩));rw[Around.under_plainId PySem.F.plain_list_iadd _]
 let s1:Shared:={s with heap:=s.heap.push {cls:=.type "list",data:=.seq ([]:List Value).toArray}}
 have key:=PySem.W.kdl_extend (A:=A) (s:=s1) (R:=λ (q:Result) (s':Shared)=>∃ (h':Heap) (tk:Nat) (O:Array Value) (c':Nat),q=.ok (.ret (.ref s.heap.objs.size))/\s'={s with heap:=h',toks:=tk} /\
   (∀ b o,s.heap.get? b=some o → h'.get? b=some o) ∧ h'.get? s.heap.objs.size=some {cls:=.type "list",dict:=none,data:=.seq O c',slots:=#[]} ∧ ItemsOf Pr O n)
  S hh (S.keep _ _ aa λ b _ o e=>qd _ e) s.heap.objs.size (Nat.ne_of_gt lt.1) (Nat.ne_of_gt lt.2) (.ref s.heap.objs.size) 0 (qk _ rfl)
  (λ h' tk O c' Z c2 Y=>⟨h',tk,O,c',rfl,rfl,λ b o e=>Z b o (qr (qm e)) (qd _ e),c2,Y⟩) hn
 refine wpAny_mono key (λ fin s' x=>?_) λ e s' x=>?_
 ·cases fin with
  |done f =>
   obtain⟨h',tk,O,c',e,rfl,Z,c2,Y⟩:=x;cases e;show wpAny _ A (load s.heap.objs.size >>= _) _ _ _;exact qb (wpAny_load c2 (qc (k h' tk O Z Y)))
  |again ab =>
   refine⟨x.1,codeAny_mono x.2 λ q ac y=>?_⟩
   obtain⟨h',tk,O,c',rfl,rfl,Z,c2,Y⟩:=y;show wpAny _ A (load s.heap.objs.size >>= _) _ _ _;exact qb (wpAny_load c2 (qc (k h' tk O Z Y)))
 ·obtain⟨_,_,_,_,e',_⟩:=x
  cases e'
theorem Z_4 {Q:Value->Shared->Prop}{ss:List Str} (S:PySem.W.KdlSrc P w T r d n Pr OK) (hh:A.handled=none) (ab:OK s.heap) (aa:n<64) (ht:∀ O,ItemsOf Pr O n->StrsAre O.toList ss)
  (k:∀ (h1 h2:Heap) (tk:Nat) (out:Array Value) (e:Nat),(∀ b o',s.heap.get? b=some o' → h1.get? b=some o') → (∀ b o',h1.get? b=some o' → h2.get? b=some o') → h2.get? h1.objs.size=some (seqObj "list" out e) → StrsAre out.toList (f_4 ss) →
   Q (.ref h1.objs.size) {s with heap:=h2,toks:=tk}):wpAny (model P w) A (call (.builtin "sorted") [.ref r]) Q E s:=by
 have big:(64:Nat)<=sizeLine:=by decide
 refine Calls.call_function_entry kind_sorted plain_sorted entry_sorted (args_sorted1 _) ?_;unfold Builtin.«sorted»;refine qb (m:=checkCount "sorted" 1 1 _) (qc (qb (S_4 (A:=A.in1) S hh ab (by omega) λ h1 tk O kp it=>?_)))
 have Z:=ht O it;have ul:O.toList.length=n:=by rw[Array.length_toList];exact it.1
 refine qb (wpAny_newList ?_ (by omega))
 have Y:(h1.push (seqObj "list" O.toList.toArray 0)).get? h1.objs.size=some (seqObj "list" O.toList.toArray 0):=qk _ rfl;refine qb (wpAny_holding (wpAny_call_entry slot_list_sort ⟨_,Y,rfl⟩ entry_list_sort (list_sort_treeK strKind_oneLt Y Z.keysOf (λ v1 v2 r e=>keyKind_strs (by rw[<- e];exact Z)) (by rw[ul];exact aa) λ st hp hs=>⟨_,rfl,?_⟩) (args_list_sort _)))
 obtain⟨t',q1,q2,q3⟩:=sorted_out_str Z hp hs;obtain⟨e,he⟩:=sortedHeap_at (out:=(arrOf st).map (·.2)) Y;rw[C_6 q2 q3] at q1;refine qc ⟨_,rfl,k h1 _ tk _ e kp (λ b o' hb=>?_) he q1⟩
 have l2:b<h1.objs.size:=qm hb;rw[sortedHeap_old (Nat.ne_of_lt l2) (by rw[size_push'];exact Nat.lt_succ_of_lt l2)]
 exact qd _ hb
end
section
variable {X:Cx}{pos:Pos}{o:Expr}{F:FE}
theorem T_8 {P:Program}{w:World}:∀ (ks:List Str) (vs:List (Key×Value)) (us:List Value),vs.map (·.1)=ks.map Sum.inr->us.length=vs.length->(∀ (i:Nat) (v:Value),us[i]?=some v->∃ k x,vs[i]?=some (k,x)/\(c_0 P w).is k v=true)->StrsAre us ks
 |[],vs,us,e,l,h=>by
  cases vs with
  |nil=>cases us with
   |nil=>exact .nil
   |cons _ _=>cases l
  |cons _ _=>cases e
 |k::ks,vs,us,e,l,h=>by
  cases vs with
  |nil=>cases e
  |cons q vs =>
   cases us with
   |nil=>cases l
   |cons u us =>
    obtain⟨Y,x,e1,e2⟩:=h 0 u rfl;cases e1;rw[List.map_cons,List.map_cons] at e;obtain⟨e3,e4⟩:=List.cons.inj e;dsimp only at e3;subst e3
    have z:∃ t,u=.str k t:=by
     cases u with
     |str z t=>exact⟨t,by have:=(beq_iff_eq.mp (show (z==k)=true from e2));rw[this]⟩
     |_=>cases e2
    obtain⟨t,rfl⟩:=z;exact .cons k t (T_8 ks vs us e4 (by simpa using l) λ i v O=>h (i+1) v O)
noncomputable def aI3:List V->Hp->VK->Prop:=λ xs H Q=>∃ l a ob ks vs,xs=[.ref l]/\H l=some (.ext λ h=>PySem.W.KdlKeysView h l a)/\H a=some (.frz ob (.dK ((ks.map Sum.inr).zip vs)))/\ks.length=vs.length/\ks.length<64/\∀ m,H m=none->Q (.ref m) (upd H m (.lst ((f_4 ks).map V.str)))
theorem S_6 (hc:X.calm=true):CallR X (.builtin "sorted") aI3:=by
 intro pins s σ H xs us Q I r h;obtain⟨l,a,ob,ks,ws,rfl,el,ea,ln,af,q⟩:=h;obtain⟨u,rfl,ru⟩:=r_0 r;cases ru;obtain⟨kv,_,_⟩:=(show ObjOk X.prog X.w H s.heap l (.ext λ h=>PySem.W.KdlKeysView h l a) from I.hok l _ el)
 obtain⟨eo,z,sm,vs,Y,o',ad,O,ac,ae,ab,hk,hp,hn⟩:=(show ObjOk X.prog X.w H s.heap a (.frz ob (.dK ((ks.map Sum.inr).zip ws))) from I.hok a _ ea);have da:s.heap.DictAt (c_0 X.prog X.w) a vs O:=⟨o',ad,ac,ae,ab,hk,hp,hn⟩
 have vl:vs.length=ks.length:=by
  have:=Y.length;rw[List.length_zip,List.length_map] at this;omega
 have ke:vs.map (·.1)=ks.map Sum.inr:=by
  have:=Y.keys;rw[<- this];exact List.map_fst_zip (by rw[List.length_map];omega)
 refine Z_4 (PySem.W.kdl_keys (prog:=X.prog) (w:=X.w) (knd:=c_0 X.prog X.w) (r:=l) (d:=a) (kvs:=vs) (ep:=O)) (I.ok.hd hc) ⟨kv,da⟩ (by omega) (λ aa it=>T_8 ks vs aa.toList ke (by rw[Array.length_toList,it.1]) λ i v hv=>it.2 i v (by rw[<- Array.getElem?_toList];exact hv)) λ h1 h2 tk out e k1 k2 Z so=>?_
 have I1:Inv X pins σ H {s with heap:=h1}:=I.kept (t':=s.toks) k1
 have hz:((f_4 ks).map V.str).length<=sizeLine:=by
  rw[List.length_map,(p_8 ks).length_eq,sizeLine_eq];omega
 exact⟨.ref h1.objs.size,_,I1.laid (t':=tk) (o:=.lst ((f_4 ks).map V.str)) k2 (qj _) ⟨hz,out.toList,e,o_6 so,by rw[Z]⟩,rfl,q _ (I1.hok.fresh (qj _))⟩
theorem aK1 {to:TE}{ap cp:Pos} (ho:PE X o to) (ab:attributeBase o "keys" X.env (eval o X.env)=eval o X.env) (aa:(ap.endLine==cp.line)=true) :
  PE X (.Call (.Attribute o "keys" ap) [] [] cp) (λ σ H Q=>to σ H λ x H1=>∃ a ob kvs,x=.ref a ∧ H1 a=some (.frz ob (.dK kvs)) ∧ ∀ l,H1 l=none → Q (.ref l) (upd H1 l (.ext λ h=>PySem.W.KdlKeysView h l a))):=by
 intro pins s σ H Q I h;refine wpAny_Call_method0_late ab aa (thn (ho pins s σ H _ I h) λ v Z af=>?_)
 obtain⟨x,H1,I1,r1,a,ob,kvs,ex,ea,q⟩:=af;subst ex;cases r1;obtain⟨eo,z,sm,vs,ag,o',ae,ac,O,Y,ad,hk,hp,hn⟩:=(show ObjOk X.prog X.w H1 Z.heap a (.frz ob (.dK kvs)) from I1.hok a _ ea);have da:Z.heap.DictAt (c_0 X.prog X.w) a vs ac:=⟨o',ae,O,Y,ad,hk,hp,hn⟩;have ty:Z.TypeIs (.ref a) "dict":=⟨o',O,Y.1⟩;refine⟨"dict","dict.keys",PySem.F.plainAttrs_dict,PySem.F.slot_dict_keys,PySem.F.type_dict_keys,ty,λ b q=>by cases q;exact⟨o',O,Y.2.1⟩,Calls.callWith_builtin rfl (PySem.evalArgs_none ?_)⟩
 refine call_meetsIn PySem.F.slot_dict_keys ty PySem.F.entry_dict_keys (PySem.F.args_dict_keys_1 _) (PySem.W.kdl_meets_keys (c_0 X.prog X.w) a sm) ⟨⟨vs,o',ae,ac,O,Y,ad,hk,hp,hn⟩,?_⟩;have kv:PySem.W.KdlKeysView (Z.heap.push {cls:=.type "dict_keys",data:=.fields #[.ref a]}) Z.heap.objs.size a:=⟨_,qk _ rfl,rfl,rfl⟩;refine⟨.ref Z.heap.objs.size,_,I1.laid (t':=Z.toks) (o:=.ext λ h=>PySem.W.KdlKeysView h Z.heap.objs.size a) (λ b o e=>qd _ e) (qj _) ⟨kv,⟨_,qk _ rfl⟩,λ h1 h2 z k=>?_⟩,rfl,q _ (I1.hok.fresh (qj _))⟩
 obtain⟨oo,z1,z2⟩:=z;exact⟨oo,k _ z1,z2⟩
theorem aw9 {p ap cp:Pos} (hm:X.mg "sorted"=none) (ho:XE X o F) (hc:X.calm=true:=by rfl) (hg:Gl X "sorted":=by rfl) (Y:attributeBase o "keys" X.env (eval o X.env)=eval o X.env:=by rfl) (O:(ap.endLine==cp.line)=true:=by rfl)
  (hs:starEach [.Call (.Attribute o "keys" ap) [] [] cp] X.env=(false,eval (.Call (.Attribute o "keys" ap) [] [] cp) X.env)::starEach [] X.env:=by rfl) :
  XE X (.Call (.Name "sorted" p) [.Call (.Attribute o "keys" ap) [] [] cp] [] pos) (e1 E_0 F) :=
 PE.wk (F_5 (S_6 hc) hg hm PyProof.Rows.boot_sorted (f_5 (aK1 ho Y O) o_1 hs) (by decide) (by decide) hs (by rfl)) λ σ H Q Z=>by
  obtain⟨c,H0,ρ,d,ad,R,f,q⟩:=Z;unfold e1 at f;obtain⟨⟨z,ac⟩,h1,f⟩:=a_1 f;obtain⟨y,g1,f⟩:=a_1 f;cases f;dsimp only at g1;cases z with
  |dct ks ds =>
   obtain⟨ab,rfl⟩:=ifs (show (if ks.length<64 then some (D.lst ((f_4 ks).map .str)) else none)=some d from g1);refine⟨c,H0,ρ,_,_,R,h1,λ v H1 Hh s1 R1 r1=>?_⟩
   unfold Rep at r1;obtain⟨a,ob,vs,rfl,ea,t,l⟩:=r1;have eh:=R1.same _ _ ea;refine⟨a,ob,_,rfl,eh,λ m aa=>?_⟩
   have S:=Step.side (o:=.ext λ h=>PySem.W.KdlKeysView h m a) R1.same aa
   refine⟨m,a,ob,ks,vs,rfl,a_2,?_,by rw[l,t.length],ab,λ n hn=>?_⟩
   ·exact S.s _ _ eh
   ·have R2:=R1.after S
    have S2:=Step.alloc (o:=.lst ((f_4 ks).map V.str)) R2.same hn;refine q _ _ _ (s1.trans S2.s0) (R2.after S2) ?_;unfold Rep;exact⟨n,_,rfl,.inl (.inl a_2),r_8 _⟩
  |_=>cases g1
theorem bl8 {tg l:Expr}{O:List Stmt}{g:GD}{B:FS} (hg:XG X tg g) (hl:XE X l F) (hb:XSs X O B) (hp:PassesOwn (model X.prog X.w) X.A X.env X.xe:=by exact PassesOwn.never) (hc:X.calm=true:=by rfl)
  (hs:∀ x,foldedSetIterable l X.env x=pure x:=by intro _;rfl):XS X (.For tg l O [] pos) (ac3 g (e1 aP8 F) B):=PS.wk (V_1 hp hc (az1 hl) hg hb hs) λ Dn σ H Y=>by
 obtain⟨c,H0,ρ,r,R,f,q⟩:=Y;unfold ac3 at f;obtain⟨⟨d,ab⟩,h1,f⟩:=a_1 f;obtain⟨xs,h2,f⟩:=a_1 f;dsimp only at h2 f;unfold e1 at h1;obtain⟨⟨z,aa⟩,h3,h1⟩:=a_1 h1;obtain⟨y,Z,h1⟩:=a_1 h1;cases h1;dsimp only at Z;cases z with
 |dct ks ds =>
  cases Z;cases h2;refine⟨c,H0,ρ,_,_,R,h3,λ v H1 Hh s1 R1 r1=>?_⟩
  unfold Rep at r1;obtain⟨a,ob,vs,rfl,ea,t,ll⟩:=r1;exact⟨a,ob,_,rfl,R1.same _ _ ea,aj9 R1 f (Y_9 ea (by rw[ll,t.length])) (q.mono s1)⟩
 |_=>cases Z
end
section
variable {X:Cx}{pos p:Pos}{x:Str}{e:Expr}{es:List Expr}{A:FA}
theorem bc8 {K:Frag}{a:Addr} (h:nsIn K mainGlobals "through_row"=some (some (.ref a))):KV1 K .opq (.ref a):=⟨.ref a,rfl,λ H=>by unfold Rep;exact⟨a,rfl,h⟩⟩
theorem xFv (i:Nat) {k:Nat}{g:List D → Option D} (G:DefOk X.prog X.w X.K X.mg X.base k "through_row" g) (hr:Room k X.A) (ha:XA X (e::es) A) (hN:X.N[i]?=some x:=by rfl) (hv:Vis X.env.scope x:=by first | exact Or.inl rfl | exact Or.inr (Or.inl rfl) | exact Or.inr (Or.inr rfl))
  (hd:(x==("__debug__":Str))=false:=by decide) (aa:(x==("__classdict__":Str))=false:=by decide) (he:starEach (e::es) X.env=(false,eval e X.env)::starEach es X.env:=by rfl) (ab:(backTo pos (starEach es X.env)).any (·.1)=false:=by rfl) :
  XE X (.Call (.Name x p) (e::es) [] pos) (eFv i g A):=by
 obtain⟨f,fd,ps,Fn,hb,hk,hm⟩:=G.ex;intro pins s σ H Q I ⟨c,H0,ρ,d,ad,R,z,q⟩;unfold eFv bj7 at z;obtain⟨⟨y,Y⟩,h1,z⟩:=a_1 z;dsimp only at z
 by_cases hq:isQ y=true
 case neg=>rw[if_neg hq] at z;cases z
 rw[if_pos hq] at z;cases isQ_inv hq;unfold eF at z;obtain⟨⟨ds,ac⟩,h2,z⟩:=a_1 z;obtain⟨d',h3,z⟩:=a_1 z;cases z;refine wpAny_Call_Name_kw (thn (xv (X:=X) (pos:=p) i hN hv hd aa pins s σ H (λ v H1=>v=.ref f/\aW1 (spP X.K g) [] (λ _ _ _=>False) (tAa X.K A) σ H1 Q) I ⟨c,H0,ρ,_,_,R,h1,λ v H1 Hh Z R1 O=>?_⟩) λ u Z ⟨v,H1,I1,O,ev,q1⟩=>?_)
 ·unfold Rep at O
  obtain⟨a,rfl,hn⟩:=O;have:=mg_of I.kIn (I.mod.glob.keeps I.bk) hn;rw[hm] at this;cases this;exact⟨rfl,c,H1,Y,ds,_,R1,h2,λ vs H2 Hh2 s2 R2 r2=>⟨H2,ds,d,R2.same,by rw[List.append_nil];exact r2,h3,λ v Hi' H' S rv=>q v Hi' H' (Z.trans (s2.trans S.s0)) (R2.after S) rv⟩⟩
 ·subst ev
  cases O;refine PySem.W.callWith_K (h₀:=X.base) I1.ok.mod.kin hk (thn (ha pos pins Z σ H1 _ I1 q1) λ us s2=>ex5 λ vs H2 I2 r2 q2=>⟨I2.kIn,?_⟩) he ab
  exact U_5 Fn hr hb .nil af2 I2 r2 q2
end
end Fx
namespace Fx
open PySem
theorem M_8:typeLookup (.type "list") "keys"=pure none:=by rw[typeLookup_type,builtinLookup_eq_fast];kernel_rfl
set_option maxHeartbeats 4000000 in
theorem aa5 {prog:Program}{w:World}{A:Around}{E:Value->Shared->Prop}{s:Shared}{a:Addr}{ob:Obj}{us:Array Value}{n:Nat}{Q:Option Value->Shared->Prop}
  (ho:s.heap.get? a=some ob) (hc:ob.cls=.type "list") (Y:ob.data=.seq us n) (O:ob.dict=none) (hh:A.handled=none)
  (k:∀ h' tk e,Heap.NewExcOf s.heap h' e "AttributeError" → Q none {s with heap:=h',toks:=tk}) :
  wpAny (model prog w) A (getAttr? (.ref a) "keys") Q E s:=by
 obtain⟨oc,od,ac,ab⟩:=ob;simp only at hc Y O;subst hc Y O;obtain⟨hp,gg,dd,tk,os⟩:=s;have ty:∀ Z,(⟨hp,gg,dd,Z,os⟩:Shared).TypeIs (.ref a) "list":=λ _=>⟨_,ho,rfl⟩
 have e1:=sub_AttributeError;have e3:=F.slot_list_getattribute.lookup;have e4:=F.slot_list_getattribute.bind (.ref a);have e5:=am_list_getattr_none;unfold getAttr? getAttrBy? getAttrBy
 repeat (any_goals (first | assumption | exact ty _ | ((with_reducible show wpAny _ _ (call (Value.builtin "list.__getattribute__") _ _) _ _ _);refine call_meets F.slot_list_getattribute (ty _) am_entry_list_getattribute (F.args_list_getattribute_2 _ _) (meets_getattribute_miss_list a us n ab "keys" _ M_8 (by decide) (by decide)) ⟨ho,hh,λ h' Z e hx=>?_⟩) | wp_step))
 obtain⟨t1,u1,he⟩:=hx.there;have tx:∀ aa,(⟨h',gg,dd,aa,os⟩:Shared).TypeIs (.ref e) "AttributeError":=λ _=>⟨_,he,rfl⟩
 show wpAny _ _ (getattributeRaised _ _ _ _ _ _ _) _ _ _;unfold getattributeRaised
 repeat (any_goals (first | assumption | exact tx _ | wp_step))
 all_goals exact k _ _ _ hx.of
section
variable {prog:Program}{w:World}{K:Type} [DecidableEq K] {knd:KeyKind prog w K}{A:Around}{E:Value->Shared->Prop}{s:Shared}
theorem ac9 {hI:Heap}{d it t:Addr}{all:List Value}{R:Result->Shared->Prop} (ao:hI.get? d=none) (ak:hI.get? it=none) (hne:d≠it) (tu:hI.IsList t all.toArray) (hh:A.handled=none) :
  ∀ (us:List Value) (O Y:List (K×Value)) (s:Shared) (i:Nat) (tk:Tok),all.drop i=us->PairsAt knd hI us Y->(∀ b o,hI.get? b=some o->s.heap.get? b=some o)->s.heap.IsListIter it t i->s.heap.DictOf knd d O->O.length+Y.length<=sizeLine ->
   (∀ h' ad,(∀ b o,hI.get? b=some o->h'.get? b=some o)->h'.DictOf knd d (merged O Y)->R (.ok (.ret .none)) {s with heap:=h',toks:=ad}) ->
   codeAny (model prog w) A (.builtin "dict.update.loop" ⟨[.ref d,.ref it,.int i tk,.none],[]⟩) R s:=by
 intro us
 induction us with
 |nil =>
  intro O Y s i tk e ps kp ac ab hz q;cases ps;refine codeAny_builtin j_2 ?_;rw[Around.under_plainId c_7 _];show wpAny _ A.in1 (pyNext (.ref it) >>= _) _ _ s
  have ae:s.heap.IsList t all.toArray:=by
   obtain⟨o,ho,r⟩:=tu;exact⟨o,kp _ _ ho,r⟩
  have hx:all.toArray[i]?=none:=by
   have:all[i]?=none:=by
    have l:all.length<=i:=by simpa using e
    exact List.getElem?_eq_none l
   simpa using this
  refine qb (wpAny_pyNext_list_end hh ac ae hx λ h' eb=>?_)
  show wpAny _ _ (Builtin.Dict.addKeywords d [] >>= _) _ _ _;refine qb (qc (qc ?_));exact q h' s.toks (λ b o Z=>eb b o (λ z=>by rw[z,ak] at Z;cases Z) (kp _ _ Z)) (ab.extBut eb hne)
 |cons u us ih =>
  intro O Y s i tk e ps kp ac ab hz q;cases ps with
  |@cons p uk uv k _ kvs a b r =>
   refine codeAny_builtin j_2 ?_;rw[Around.under_plainId c_7 _];show wpAny _ A.in1 (pyNext (.ref it) >>= _) _ _ s
   have ae:s.heap.IsList t all.toArray:=by
    obtain⟨o,ho,r⟩:=tu;exact⟨o,kp _ _ ho,r⟩
   have aq:all[i]?=some (.ref p):=by
    have:=congrArg (λ l=>l[0]?) e
    simpa using this
   have hx:all.toArray[i]?=some (.ref p):=by simpa using aq
   refine qb (wpAny_pyNext_list_item ac ae hx λ h1 ai aj=>?_)
   have ag:∀ b o,hI.get? b=some o->h1.get? b=some o:=λ b o Z=>(aj.2 b (λ z=>by rw[z,ak] at Z;cases Z)).trans (kp _ _ Z)
   have am:h1.DictOf knd d O:=by
    obtain⟨o,es,ep,ho,rr⟩:=ab;exact⟨o,es,ep,(aj.2 d hne).trans ho,rr⟩
   obtain⟨op,as,an,on,al⟩:=a;have aa:=ag _ _ as;refine qb (wpAny_holding (qb (wpAny_tryCatch ?_)));unfold Builtin.Dict.pairItems;refine qb (wpAny_typeOf (T:="tuple") ⟨op,aa,an⟩ ?_);rw[if_pos (by decide)]
   refine qb (wpAny_seqItems aa al ?_);refine qc ?_;show wpAny _ _ (holding [uk,uv] (dictSet d uk uv)) _ _ _;refine wpAny_holding (wpAny_dictSet_pairs b am (λ h2 ar ah=>?_) (by simp only[List.length_cons] at hz;omega))
   refine qc ⟨plainId_quiet c_7 _,?_⟩;have ap:∀ b o,hI.get? b=some o->h2.get? b=some o:=λ b o Z=>(ah.2 b (λ z=>by rw[z,ao] at Z;cases Z)).trans (ag _ _ Z)
   have af:h2.IsListIter it t (i+1):=by
    obtain⟨o,ho,rr⟩:=ai;exact⟨o,(ah.2 it (Ne.symm hne)).trans ho,rr⟩
   have el:(stored O k uv).length+kvs.length<=sizeLine:=by
    have:(stored O k uv).length<=O.length+1:=by
     unfold stored
     split
     ·rw[List.length_map];omega
     ·rw[List.length_append];exact qj _
    simp only[List.length_cons] at hz;omega
   have:=ih (stored O k uv) kvs {s with heap:=h2,toks:=s.toks+1} (i+1) 0 (by rw[<- List.drop_drop,e];rfl) r ap af ar el (λ h' ad c1 c2=>q h' ad c1 c2)
   exact this
theorem S_0 {t:Addr}{ob:Obj}{n:Nat}{all:List Value}{kvs:List (K×Value)}{Q:Value → Shared → Prop} (ho:s.heap.get? t=some ob) (hc:ob.cls=.type "list") (Y:ob.data=.seq all.toArray n) (ac:ob.dict=none) (hh:A.handled=none)
  (ps:PairsAt knd s.heap all kvs) (nd:(kvs.map (·.1)).Nodup) (hz:kvs.length<=sizeLine)
  (q:∀ h' tk,(∀ b o,s.heap.get? b=some o->h'.get? b=some o)->h'.DictOf knd s.heap.objs.size kvs->Q (.ref s.heap.objs.size) {s with heap:=h',toks:=tk}) :
  wpAny (model prog w) A (call (.type "dict") [.ref t]) Q E s:=by
 refine callType_codes (Q₁:=λ z s1=>z=.ref s.heap.objs.size ∧ s1={s with heap:=s.heap.push {cls:=.type "dict",data:=.dict #[]}}) F.kt_called_dict (F.kt_typeCall_dict_1 _) F.entry_dict_init (kt_code_dict_new _ ⟨rfl,rfl⟩) ?_
 rintro z s1 ⟨rfl,rfl⟩;have dn:(s.heap.push {cls:=.type "dict",data:=.dict #[]}).DictOf knd s.heap.objs.size []:=Heap.DictOf.new s.heap;have O:(s.heap.push {cls:=.type "dict",data:=.dict #[]}).get? t=some ob:=qd _ ho;refine⟨dn.typeIs,F.args_dict_init_2 _ _,?_⟩;unfold Builtin.«dict.__init__»;refine qb ?_;unfold Builtin.Dict.selfAndRest;refine qb (wpAny_notOrdered_dict dn.typeIs (qc ?_));show wpAny _ _ (Builtin.Dict.updateFrom "dict.__init__" s.heap.objs.size (.ref t) [] .none) _ _ _;unfold Builtin.Dict.updateFrom;refine qb (wpAny_typeOf (T:="list") ⟨ob,O,hc⟩ ?_);rw[if_pos (by decide)]
 refine qb (aa5 (A:=A.in1.in1) O hc Y ac hh λ h2 tk e hx=>?_)
 rw[if_pos (show (none:Option Value).isNone=true from rfl)];have ab:h2.get? t=some ob:=hx.keeps _ _ O
 have aa:h2.DictOf knd s.heap.objs.size []:=by
  obtain⟨o,es,ep,h3,rr⟩:=dn;exact⟨o,es,ep,hx.keeps _ _ h3,rr⟩
 have Z:∀ b o,s.heap.get? b=some o->h2.get? b=some o:=λ b o hb=>hx.keeps _ _ (qd _ hb)
 refine qb (wpAny_rule (qb (wpAny_pyIter_list (items:=all.toArray) ⟨ob,ab,hc,n,Y⟩ ?_)));refine qc ⟨plainId_quiet c_7 _,?_⟩
 have d0:s.heap.get? s.heap.objs.size=none:=by
  cases z:s.heap.get? s.heap.objs.size with
  |none=>rfl
  |some o=>exact absurd (qm z) (Nat.lt_irrefl _)
 have ad:s.heap.objs.size<h2.objs.size:=by
  obtain⟨o,es,ep,h3,rr⟩:=aa;exact qm h3
 have i0:s.heap.get? h2.objs.size=none:=by
  cases z:s.heap.get? h2.objs.size with
  |none=>rfl
  |some o=>exact absurd (qm (Z _ _ z)) (Nat.lt_irrefl _)
 refine ac9 (A:=A.in1) (knd:=knd) (all:=all) (hI:=s.heap) (t:=t) d0 i0 (qr ad) ⟨ob,ho,hc,n,Y⟩ hh all [] kvs {s with heap:=h2.push {cls:=.type "list_iterator",data:=.fields #[.ref t,.int 0 0]},toks:=tk} 0 0 rfl ps
  (λ b o hb=>qd _ (Z _ _ hb)) ⟨_,qk _ rfl,rfl,rfl⟩ (aa.push _) (by rw[List.length_nil,Nat.zero_add];exact hz) λ h' ae c1 c2=>?_
 rw[merged_nil_of_nodup kvs nd] at c2;exact⟨rfl,q h' ae c1 c2⟩
end
end Fx
namespace Fx
open PySem PySem.Spec PyProof.Rows L2
section
variable {X:Cx}
theorem ab7 (hc:X.calm=true):CallR X (.type "dict") (λ xs H Q=>∃ p ws kvs,xs=[.ref p] ∧ SqL X.K H p ws ∧ PV X.K H ws kvs ∧ (kvs.map (·.1)).Nodup ∧ kvs.length ≤ 1000 ∧ ∀ l o,H l=none → Q (.ref l) (upd H l (.frz o (.dK kvs)))):=by
 intro pins s σ H xs us Q I r h;obtain⟨p,ws,kvs,rfl,hq,pv,nd,hz,q⟩:=h;obtain⟨u,rfl,ru⟩:=r_0 r;cases ru;obtain⟨aa,rv,⟨ob,n,h1,h2,h3,h4⟩,_⟩:=I.list hq;obtain⟨rs,q1,Y⟩:=F_6 I pv rv;have big:(1000:Nat)<=sizeLine:=by decide
 have Z:kvs.length<=sizeLine:=by omega
 refine S_0 h1 h2 h4 h3 (I.ok.hd hc) q1 (by rw[R_1 Y];exact nd) (by rw[ai5 Y];exact Z) λ h' tk kp dd=>?_
 obtain⟨O,es,ep,eo,rest⟩:=id dd;exact⟨.ref s.heap.objs.size,_,I.laid (o:=.frz O (.dK kvs)) kp (qj _) ⟨eo,X_6 Z (beq_eq_false_iff_ne.mpr (Ne.symm (qr I.big))) Y dd⟩,rfl,q _ _ (I.hok.fresh (qj _))⟩
theorem an5 (hc:X.calm=true):BOk X (.type "dict") O_6:=⟨_,ab7 hc,λ c H0 H ρ σ ds d vs Q R r e q=>by
 unfold O_6 at e
 split at e
 ·obtain⟨kvs,g6,e⟩:=a_1 e
  obtain⟨⟨hz,nd⟩,rfl⟩:=ifs e;cases pairsD_inv g6;obtain⟨v,rfl,Y⟩:=Reps.v1 r;unfold Rep at Y;obtain⟨Z,ws,rfl,sq,t⟩:=Y;obtain⟨O,p1,p2⟩:=aI7 R.same t;have ln:=p2.length;rw[List.length_map] at ln
  have kz:(m_5 (kvs.map (·.1)) O).map (·.1)=(kvs.map (·.1)).map Sum.inr:=by
   unfold m_5;rw[List.map_fst_zip (by rw[List.length_map,List.length_map];omega)]
  refine⟨Z,ws,_,rfl,Same.seq R.same sq,p1,?_,?_,λ l o hl=>?_⟩
  ·rw[kz]
   exact List.Pairwise.map _ (λ x y h z=>h (Sum.inr.inj z)) nd
  ·unfold m_5
   rw[List.length_zip,List.length_map,List.length_map];omega
  ·have S:=Step.alloc (o:=.frz o (.dK (m_5 (kvs.map (·.1)) O))) R.same hl
   refine q _ _ _ S.s0 (R.after S) ?_;unfold Rep;exact⟨l,o,O,rfl,a_2,Reps.mono S.s0 _ p2,by rw[List.length_map,List.length_map]⟩
 ·cases e⟩
end
end Fx
namespace Fx
open PySem PySem.W PySem.Spec PyProof.Rows L2
end Fx
namespace Fx
open PySem PySem.Spec PyProof.Rows L2
noncomputable def lss (H:Hp) (a:Addr):Hp:=λ b=>if b=a then none else H b
theorem ah9 {H:Hp}{a:Addr}:lss H a a=none:=if_pos rfl
theorem u_6 {H:Hp}{a b:Addr} (h:b≠a):lss H a b=H b:=if_neg h
theorem aA0 {H:Hp}{a b:Addr}{u:HO} (h:lss H a b=some u):b≠a/\H b=some u:=by
 by_cases e:b=a
 ·rw[e,ah9] at h;cases h
 ·exact⟨e,by rw[u_6 e] at h;exact h⟩
theorem af7 {o:Option Sl}{ds:List D} (h:ba0 o=some ds):o=some (.ow false (.lst ds)):=by
 unfold ba0 at h
 split at h
 ·cases h;rfl
 ·cases h
section
variable {K:Frag}{H:Hp}{a:Addr}{us:List V}
theorem SqT.lss {b:Addr}{vs:List V} (Y:H a=some (.lst us)) (h:SqT K H b vs):SqT K (lss H a) b vs:=by
 rcases h with h | h
 ·refine .inl ?_
  have O:b≠a:=λ e=>by
   rw[e] at h
   rcases h with h | ⟨o,h⟩ <;> rw[Y] at h <;> cases h
  rcases h with h | ⟨o,h⟩
  ·exact .inl (by rw[u_6 O];exact h)
  ·exact .inr ⟨o,by rw[u_6 O];exact h⟩
 ·exact .inr h
mutual
theorem Rep.lss (O:H a=some (.lst us)):∀ (d:D) {v:V},nl d=true->Rep K H d v->Rep K (lss H a) d v
 |.non,_,_,h=>by unfold Rep at h ⊢;exact h
 |.bl _,_,_,h=>by unfold Rep at h ⊢;exact h
 |.int _,_,_,h=>by unfold Rep at h ⊢;exact h
 |.str _,_,_,h=>by unfold Rep at h ⊢;exact h
 |.tup ds,_,n,h=>by
  unfold Rep at h ⊢;obtain⟨b,vs,e,s,r⟩:=h;exact⟨b,vs,e,SqT.lss O s,Reps.lss O ds n r⟩
 |.lst _,_,n,_=>by cases n
 |.opq,_,n,_=>by cases n
 |.dct _ _,_,n,_=>by cases n
theorem Reps.lss (O:H a=some (.lst us)):∀ (ds:List D) {vs:List V},nls ds=true->Reps K H ds vs->Reps K (lss H a) ds vs
 |[],_,_,h=>by unfold Reps at h ⊢;exact h
 |d::r,_,n,h=>by
  unfold nls at n;rw[Bool.and_eq_true] at n;unfold Reps at h ⊢;obtain⟨v,Y,e,h1,h2⟩:=h;exact⟨v,Y,e,Rep.lss O d n.1 h1,Reps.lss O r n.2 h2⟩
end
end
section
variable {K:Frag}{c:FC}{H0 H:Hp}{ρ:En}{σ:L2.St}{i:Nat}{ds:List D}
theorem RS.asList (R:RS K c H0 H ρ σ) (hi:ρ[i]?=some (.ow false (.lst ds))) :
  ∃ a vs,σ[i]?=some (some (.ref a))/\H0 a=none/\c.He a=none/\H a=some (.lst vs)/\Reps K H0 ds vs/\Same H0 (upd H0 a (.lst vs))/\RS K c (upd H0 a (.lst vs)) H (ρ.set i (.im (.lst ds))) σ:=by
 obtain⟨a,x,y,z,vs,e,r⟩:=R.ow i _ _ hi;have he:c.He a=none:=z;have il:i<ρ.length:=(List.getElem?_eq_some_iff.mp hi).1;have s0:Same H0 (upd H0 a (.lst vs)):=λ b u q=>by rw[a_3 (a_6 q y)];exact q
 have Y:∀ {j:Nat}{Z:Sl},j≠i->(ρ.set i (.im (.lst ds)))[j]?=some Z->ρ[j]?=some Z:=λ O e=>by rwa [List.getElem?_set_ne (Ne.symm O)] at e
 have on:∀ {Z:Sl},(ρ.set i (.im (.lst ds)))[i]?=some Z->Z=.im (.lst ds):=λ e=>by
  rw[List.getElem?_set_self il] at e;exact (qi e).symm
 refine⟨a,vs,x,y,he,e,r,s0,λ b u q=>?_,R.init.trans s0,λ b u q=>?_,R.keep,R.apt,by rw[List.length_set];exact R.len,λ j d' q=>?_,λ j bb o' q=>?_,λ j k b1 b2 o' aa b e1 e2 e3 e4=>?_⟩
 ·by_cases h:b=a
  ·subst h;rw[a_2] at q;cases q;exact e
  ·rw[a_3 h] at q;exact R.same b u q
 ·by_cases h:b=a
  ·subst h;exact .inr he
  ·rw[a_3 h] at q;exact R.fresh b u q
 ·by_cases O:j=i
  ·subst O
   cases on q;refine⟨.ref a,x,?_⟩;unfold Rep;exact⟨a,vs,rfl,.inl (.inl a_2),Reps.mono s0 _ r⟩
  ·obtain⟨v,a1,a2⟩:=R.im j d' (Y O q)
   exact⟨v,a1,Rep.mono s0 _ a2⟩
 ·by_cases O:j=i
  ·subst O;cases on q
  ·have q':=Y O q
   obtain⟨b,x1,y1,z1,w1⟩:=R.ow j bb o' q';have nb:b≠a:=λ h=>O (R.ne j i bb false o' _ b q' hi x1 (by rw[h];exact x))
   exact⟨b,x1,by rw[a_3 nb];exact y1,z1,w1.step s0 λ u q=>q⟩
 ·by_cases O:j=i
  ·subst O;cases on e1
  ·by_cases hk:k=i
   ·subst hk;cases on e2
   ·exact R.ne j k b1 b2 o' aa b (Y O e1) (Y hk e2) e3 e4
theorem RS.backL {H0' H':Hp}{a:Addr}{vs:List V} (R:RS K c H0 H ρ σ) (hi:ρ[i]?=some (.ow false (.lst ds))) (one:F_7 i ρ=true) (x:σ[i]?=some (some (.ref a))) (y:H0 a=none) (he:c.He a=none) (r:Reps K H0 ds vs)
  (sm:Same (upd H0 a (.lst vs)) H0') (O:RS K c H0' H' (ρ.set i (.im (.lst ds))) σ):Same H0 (lss H0' a)/\RS K c (lss H0' a) H' ρ σ:=by
 have Y:Same H0 (lss H0' a):=λ b u q=>by
  have Z:b≠a:=λ h=>by rw[h,y] at q;cases q
  rw[u_6 Z];exact sm b u (by rw[a_3 Z];exact q)
 refine⟨Y,λ b u q=>O.same b u (aA0 q).2,λ b u q=>Y b u (R.init b u q),λ b u q=>O.fresh b u (aA0 q).2,O.keep,O.apt,R.len,λ j d q=>?_,λ j b o q=>?_,R.ne⟩
 ·obtain⟨v,a1,a2⟩:=R.im j d q
  exact⟨v,a1,Rep.mono Y _ a2⟩
 ·by_cases hj:j=i
  ·subst hj
   rw[hi] at q;cases q;exact⟨a,x,ah9,he,vs,O.same a _ (sm a _ a_2),Reps.mono Y _ r⟩
  ·unfold F_7 at one
   have:=List.all_eq_true.mp one (.ow b o) (List.mem_of_getElem? (i:=j) (by rw[List.getElem?_set_ne (Ne.symm hj)];exact q))
   cases this
end
end Fx
namespace L2
open PySem PySem.Spec PyProof.Rows
end L2
namespace Fx
open PySem PySem.Spec PyProof.Rows L2
end Fx
namespace Fx
open PySem PySem.W PyProof.Rows
noncomputable def WpT {α:Type} (lt:Nat->Nat->Bool) (n:Nat) (P:α->Prop):KasT α->Prop
 |.ret a=>P a
 |.ask i j k=>i<n/\j<n/\WpT lt n P (k (lt i j))
theorem WpT.bind {α Y:Type}{lt:Nat->Nat->Bool}{n:Nat}{P:α->Prop}{O:Y->Prop}{f:α->KasT Y} (h:∀ a,P a->WpT lt n O (f a)):∀ t:KasT α,WpT lt n P t->WpT lt n O (t.bind f)
 |.ret a,q=>h a q
 |.ask i j k,q=>⟨q.1,q.2.1,WpT.bind h (k (lt i j)) q.2.2⟩
theorem WpT.run {α:Type}{lt:Nat->Nat->Bool}{n:Nat}{P:α->Prop}{J:Shared->Prop}{O:Nat->Nat->(Bool->Shared->Prop)->Shared->Prop}{Q:α->Shared->Prop}
  (hc:∀ i j C s,i<n->j<n->J s->(∀ s',J s'->C (lt i j) s')->O i j C s) (Z:∀ a s,P a->J s->Q a s):∀ (t:KasT α) (s:Shared),WpT lt n P t->J s->t.kasWp O Q s
 |.ret a,s,h,j=>Z a s h j
 |.ask i j k,s,h,js=>hc i j _ s h.1 h.2.1 js λ s' Y=>WpT.run hc Z (k (lt i j)) s' h.2.2 Y
section
variable {n:Nat}{r:Nat->Nat}
abbrev ltR (r:Nat->Nat) (i j:Nat):Bool:=decide (r i<r j)
structure OkP (n:Nat) (p:Array Nat):Prop where
 size:p.size=n
 perm:p.toList.Perm (List.range n)
noncomputable def KP (r:Nat->Nat) (p:Array Nat) (k:Nat):Nat:=r (p.getD k 0)
theorem OkP.lt {p:Array Nat} (h:OkP n p) (Y:0<n) (k:Nat):p.getD k 0<n:=by
 by_cases O:k<p.size
 ·rw[Array.getD_eq_getD_getElem?,getElem?_pos p k O]
  have:p[k]∈p.toList:=by simp
  exact List.mem_range.mp (h.perm.mem_iff.mp this)
 ·rw[Array.getD_eq_getD_getElem?,getElem?_neg p k O];exact Y
theorem s_8 {p q:Array Nat}{i j:Nat} (h:p[i]?=q[j]?):KP r p i=KP r q j:=by unfold KP;rw[Array.getD_eq_getD_getElem?,Array.getD_eq_getD_getElem?,h]
theorem OkP.rev {p:Array Nat} (h:OkP n p) (i j:Nat):OkP n (kas_rev p i j):=⟨(mirror_size _ _ _ _).trans h.size,(Array.perm_iff_toList_perm.mp (mirror_perm _ _ _ _)).trans h.perm⟩
theorem OkP.bub {p:Array Nat} (h:OkP n p) (k d:Nat):OkP n (bubble p k d):=⟨(bubble_size _ _ _).trans h.size,(Array.perm_iff_toList_perm.mp (bubble_perm _ _ _)).trans h.perm⟩
theorem ao5 {p:Array Nat}{i j:Nat} (O:j<=p.size) (k:Nat):KP r (kas_rev p i j) k=if i<=k/\k<j then KP r p (i+j-1-k) else KP r p k:=by
 have e:=getElem?_mirror_all (xs:=p) (i:=i) O k
 by_cases h1:i<=k/\k<j
 ·rw[if_pos h1] at e ⊢;exact s_8 e
 ·rw[if_neg h1] at e ⊢;exact s_8 e
theorem aD3 {p:Array Nat}{k d:Nat} (O:k<p.size) (hd:d<=k) (i:Nat):KP r (bubble p k d) i=if i=k-d then KP r p k else if k-d<i/\i<=k then KP r p (i-1) else KP r p i:=by
 have e:=getElem?_bubble O d hd i
 by_cases h1:i=k-d
 ·rw[if_pos h1] at e ⊢;exact s_8 e
 ·rw[if_neg h1] at e ⊢
  by_cases h2:k-d<i/\i<=k
  ·rw[if_pos h2] at e ⊢;exact s_8 e
  ·rw[if_neg h2] at e ⊢;exact s_8 e
noncomputable def P_1 (r:Nat->Nat) (p:Array Nat) (m:Nat):Prop:=∀ i j,i<=j->j<m->KP r p i<=KP r p j
noncomputable def bh5 (r:Nat->Nat) (p:Array Nat) (m:Nat):Prop:=∀ i j,i<=j->j<m->KP r p j<=KP r p i
noncomputable def Eqs (r:Nat->Nat) (p:Array Nat) (a b:Nat):Prop:=∀ i,a<=i->i<b->KP r p i=KP r p (b-1)
theorem A_7 {p:Array Nat}{i j:Nat} (O:j<=p.size) (e:Eqs r p i j) (k:Nat):KP r (kas_rev p i j) k=KP r p k:=by
 rw[ao5 O]
 split
 ·rw[e _ (by omega) (by omega),e k (by omega) (by omega)]
 ·rfl
theorem ao0 {p:Array Nat} (hp:OkP n p):∀ f m,1<=m->m+f<=n->P_1 r p m->WpT (ltR r) n (λ O=>m<=O/\O<=m+f/\P_1 r p O/\(O<m+f->KP r p O<KP r p (O-1))) (kas_asc p f m)
 |0,m,h1,h2,h3=>⟨qj _,qj _,h3,λ z=>absurd z (Nat.lt_irrefl _)⟩
 |f+1,m,h1,h2,h3=>by
  refine⟨hp.lt (by omega) _,hp.lt (by omega) _,?_⟩
  by_cases c:KP r p m<KP r p (m-1)
  ·rw[show ltR r (p.getD m 0) (p.getD (m-1) 0)=true from decide_eq_true c];dsimp only;rw[if_pos rfl]
   exact⟨qj _,by omega,h3,λ _=>c⟩
  ·rw[show ltR r (p.getD m 0) (p.getD (m-1) 0)=false from decide_eq_false c];dsimp only;rw[if_neg Bool.false_ne_true]
   have h4:P_1 r p (m+1):=λ i j Z hj=>by
    by_cases z:j<m
    ·exact h3 i j Z z
    ·have:j=m:=by omega
     subst this
     by_cases w:i=j
     ·subst w;exact qj _
     ·exact Nat.le_trans (h3 i (j-1) (by omega) (by omega)) (Nat.le_of_not_lt c)
   have Y:=ao0 hp f (m+1) (by omega) (by omega) h4
   rw[show m+1+f=m+(f+1) by omega] at Y
   have mono:∀ (t:KasT Nat),WpT (ltR r) n (λ O=>m+1<=O/\O<=m+(f+1)/\P_1 r p O/\(O<m+(f+1)->KP r p O<KP r p (O-1))) t->WpT (ltR r) n (λ O=>m<=O/\O<=m+(f+1)/\P_1 r p O/\(O<m+(f+1)->KP r p O<KP r p (O-1))) t:=by
    intro t
    induction t with
    |ret a=>exact λ h=>⟨by have:=h.1;omega,h.2⟩
    |ask i j k Y=>exact λ h=>⟨h.1,h.2.1,Y _ h.2.2⟩
   exact mono _ Y
noncomputable def bh3 (n:Nat) (r:Nat->Nat) (z:Array Nat×Nat×Nat):Prop:=OkP n z.1/\1<=z.2.1/\z.2.1<=n/\z.2.2+1<=z.2.1/\bh5 r z.1 z.2.1/\Eqs r z.1 (z.2.1-(z.2.2+1)) z.2.1
theorem H_8:∀ f (p:Array Nat) m q,OkP n p->q+1<=m->m+f<=n->bh5 r p m->Eqs r p (m-(q+1)) m->WpT (ltR r) n (bh3 n r) (kas_desc f p m q)
 |0,p,m,q,hp,h1,h2,h3,h4=>⟨hp,(show 1<=m by omega),(show m<=n by omega),h1,h3,h4⟩
 |f+1,p,m,q,hp,h1,h2,h3,h4=>by
  have sz:=hp.size;have one:∀ Y:Array Nat,Eqs r Y (m+1-(0+1)) (m+1):=λ Y i a b=>by rw[show i=m+1-1 by omega]
  have O:∀ Y:Array Nat,(∀ k,KP r Y k=KP r p k)->KP r p m<=KP r p (m-1)->bh5 r Y (m+1):=λ Y e c i j Z hj=>by
   rw[e,e]
   by_cases z:j<m
   ·exact h3 i j Z z
   ·have:j=m:=by omega
    subst this
    by_cases w:i=j
    ·subst w;exact qj _
    ·exact Nat.le_trans c (h3 i (j-1) (by omega) (by omega))
  refine⟨hp.lt (by omega) _,hp.lt (by omega) _,?_⟩
  by_cases c:KP r p m<KP r p (m-1)
  ·rw[show ltR r (p.getD m 0) (p.getD (m-1) 0)=true from decide_eq_true c];dsimp only;rw[if_pos rfl]
   split
   ·have e:=A_7 (r:=r) (p:=p) (i:=m-(q+1)) (j:=m) (by omega) h4
    exact H_8 f _ (m+1) 0 (hp.rev _ _) (by omega) (by omega) (O _ e (Nat.le_of_lt c)) (one _)
   ·exact H_8 f p (m+1) 0 hp (by omega) (by omega) (O p (λ _=>rfl) (Nat.le_of_lt c)) (one _)
  ·rw[show ltR r (p.getD m 0) (p.getD (m-1) 0)=false from decide_eq_false c];dsimp only;rw[if_neg Bool.false_ne_true]
   refine⟨hp.lt (by omega) _,hp.lt (by omega) _,?_⟩
   by_cases d:KP r p (m-1)<KP r p m
   ·rw[show ltR r (p.getD (m-1) 0) (p.getD m 0)=true from decide_eq_true d];dsimp only;rw[if_pos rfl]
    exact⟨hp,(show 1<=m by omega),(show m<=n by omega),h1,h3,h4⟩
   ·rw[show ltR r (p.getD (m-1) 0) (p.getD m 0)=false from decide_eq_false d];dsimp only;rw[if_neg Bool.false_ne_true]
    have eq:KP r p m=KP r p (m-1):=by omega
    refine H_8 f p (m+1) (q+1) hp (by omega) (by omega) (O p (λ _=>rfl) (by omega)) λ i a b=>?_
    rw[show m+1-1=m by omega]
    by_cases z:i<m
    ·rw[h4 i (by omega) z,eq]
    ·rw[show i=m by omega]
noncomputable def aR0 (n:Nat) (r:Nat->Nat) (z:Nat×Array Nat):Prop:=OkP n z.2/\1<=z.1/\z.1<=n/\P_1 r z.2 z.1
theorem T_7 {p:Array Nat}{m:Nat} (O:OkP n p) (h1:1<=m) (h2:m<=n) (Y:bh5 r p m):WpT (ltR r) n (aR0 n r) (kas_tail3 m n p):=by
 have sz:=O.size
 have mo:P_1 r (kas_rev p 0 m) m:=λ i j aa hj=>by
  rw[ao5 (by omega),ao5 (by omega),if_pos ⟨by omega,by omega⟩,if_pos ⟨by omega,by omega⟩]
  exact Y _ _ (by omega) (by omega)
 refine WpT.bind (λ a h=>?_) _ (ao0 (O.rev 0 m) (n-m) m h1 (by omega) mo)
 obtain⟨g1,g2,Z,_⟩:=h;exact⟨O.rev _ _,(show 1<=a by omega),(show a<=n by omega),Z⟩
theorem z_3 {p:Array Nat}{m:Nat} (hp:OkP n p) (h2:m+1<=n) (h3:bh5 r p (m+1)):WpT (ltR r) n (aR0 n r) (kas_descPart m n p):=by
 refine WpT.bind (λ z h=>?_) _ (H_8 (n-(m+1)) p (m+1) 0 hp (by omega) (by omega) h3 λ i a b=>by rw[show i=m+1-1 by omega])
 obtain⟨Y,g2,Z,g4,g5,g6⟩:=h;have sz:=Y.size
 split
 ·have e:=A_7 (r:=r) (p:=z.1) (i:=z.2.1-(z.2.2+1)) (j:=z.2.1) (by omega) g6
  exact T_7 (Y.rev _ _) g2 Z λ i j O hj=>by rw[e,e];exact g5 i j O hj
 ·exact T_7 Y g2 Z g5
theorem av6 {p:Array Nat} (hn:1<=n) (O:OkP n p):WpT (ltR r) n (aR0 n r) (kas_count n p):=by
 have sz:=O.size;refine WpT.bind (λ m h=>?_) _ (ao0 (r:=r) O (n-1) 1 (qj _) (by omega) λ i j Y hj=>by rw[show i=j by omega];exact qj _)
 obtain⟨g1,g2,Z,g4⟩:=h
 by_cases e:m=n
 ·rw[if_pos (by rw[e];exact beq_self_eq_true _)]
  exact⟨O,g1,by omega,Z⟩
 ·rw[if_neg (by simpa using e)]
  have c:=g4 (by omega)
  split
  ·refine⟨O.lt (by omega) _,O.lt (by omega) _,?_⟩
   by_cases d:KP r p 0<KP r p (m-1)
   ·rw[show ltR r (p.getD 0 0) (p.getD (m-1) 0)=true from decide_eq_true d];dsimp only;rw[if_pos rfl]
    exact⟨O,g1,by omega,Z⟩
   ·rw[show ltR r (p.getD 0 0) (p.getD (m-1) 0)=false from decide_eq_false d];dsimp only;rw[if_neg Bool.false_ne_true]
    have all:Eqs r p 0 m:=λ i _ b=>by
     have a1:=Z 0 i (Nat.zero_le _) b;have a2:=Z i (m-1) (by omega) (by omega)
     omega
    have ek:=A_7 (r:=r) (p:=p) (i:=0) (j:=m) (by omega) all
    refine z_3 (O.rev _ _) (by omega) λ i j Y hj=>?_
    rw[ek,ek]
    by_cases z:j<m
    ·rw[all i (Nat.zero_le _) (by omega),all j (Nat.zero_le _) z];exact qj _
    ·have:j=m:=by omega
     subst this
     by_cases w:i<j
     ·rw[all i (Nat.zero_le _) w];exact Nat.le_of_lt c
     ·rw[show i=j by omega];exact qj _
  ·have:m=1:=by omega
   subst this;refine z_3 O (by omega) λ i j Y hj=>?_
   by_cases z:i=j
   ·rw[z];exact qj _
   ·rw[show i=0 by omega,show j=1 by omega];exact Nat.le_of_lt c
theorem F_4 {p:Array Nat}{k:Nat} (O:OkP n p) (Y:k<n) (h:P_1 r p k):∀ f l q,l<=q->q<=k->q<=l+f->(∀ i,i<l->KP r p i<=KP r p k)->(∀ i,q<=i->i<k->KP r p k<KP r p i) ->
  WpT (ltR r) n (λ l=>l<=k/\(∀ i,i<l->KP r p i<=KP r p k)/\∀ i,l<=i->i<k->KP r p k<KP r p i) (kas_place p k f l q)
 |0,l,q,h1,h2,h3,h4,h5=>⟨by omega,h4,λ i a b=>h5 i (by omega) b⟩
 |f+1,l,q,h1,h2,h3,h4,h5=>by
  unfold kas_place
  split
  ·exact⟨by omega,h4,λ i a b=>h5 i (by omega) b⟩
  ·refine⟨O.lt (by omega) _,O.lt (by omega) _,?_⟩
   by_cases c:KP r p k<KP r p ((l+q) / 2)
   ·rw[show ltR r (p.getD k 0) (p.getD ((l+q) / 2) 0)=true from decide_eq_true c];dsimp only;rw[if_pos rfl]
    exact F_4 O Y h f l ((l+q) / 2) (by omega) (by omega) (by omega) h4 λ i a b=>qq c (h _ i a b)
   ·rw[show ltR r (p.getD k 0) (p.getD ((l+q) / 2) 0)=false from decide_eq_false c];dsimp only;rw[if_neg Bool.false_ne_true]
    exact F_4 O Y h f ((l+q) / 2+1) q (by omega) h2 (by omega) (λ i a=>Nat.le_trans (h i ((l+q) / 2) (by omega) (by omega)) (Nat.le_of_not_lt c)) h5
theorem aC6:∀ f (p:Array Nat) k,OkP n p->k+f=n->P_1 r p k->WpT (ltR r) n (λ p=>OkP n p/\P_1 r p n) (kas_bin f p k)
 |0,p,k,hp,h1,h2=>⟨hp,by rw[show n=k by omega];exact h2⟩
 |f+1,p,k,hp,h1,h2=>by
  have sz:=hp.size;refine WpT.bind (λ l h=>?_) _ (F_4 hp (by omega) h2 k 0 k (Nat.zero_le _) (qj _) (by omega) (λ i z=>absurd z (Nat.not_lt_zero _)) λ i a b=>absurd b (by omega))
  obtain⟨g1,g2,g3⟩:=h;refine aC6 f _ (k+1) (hp.bub _ _) (by omega) λ i j Y hj=>?_
  have Z:=aD3 (r:=r) (p:=p) (k:=k) (d:=k-l) (by omega) (by omega) i
  have bj:=aD3 (r:=r) (p:=p) (k:=k) (d:=k-l) (by omega) (by omega) j
  rw[show k-(k-l)=l by omega] at Z bj
  rw[Z,bj]
  by_cases i1:i=l
  ·rw[if_pos i1]
   by_cases O:j=l
   ·rw[if_pos O];exact qj _
   ·rw[if_neg O,if_pos ⟨by omega,by omega⟩]
    exact Nat.le_of_lt (g3 (j-1) (by omega) (by omega))
  ·rw[if_neg i1]
   by_cases i2:l<i/\i<=k
   ·rw[if_pos i2,if_neg (by omega),if_pos ⟨by omega,by omega⟩]
    exact h2 _ _ (by omega) (by omega)
   ·rw[if_neg i2]
    by_cases O:j=l
    ·rw[if_pos O];exact g2 i (by omega)
    ·rw[if_neg O]
     by_cases j2:l<j/\j<=k
     ·rw[if_pos j2];exact h2 _ _ (by omega) (by omega)
     ·rw[if_neg j2];exact h2 _ _ Y (by omega)
theorem M_4:OkP n (List.toArray (List.range n)):=⟨by simp,by simp⟩
theorem aG9 (h2:1<=n):WpT (ltR r) n (λ p=>OkP n p/\P_1 r p n) (kas_sort n):=by
 refine WpT.bind (λ z h=>?_) _ (av6 h2 M_4)
 obtain⟨O,Z,g3,Y⟩:=h
 split
 ·rw[show max z.1 1=z.1 by omega]
  exact aC6 _ _ _ O (by omega) Y
 ·exact⟨O,by rw[show n=z.1 by omega];exact Y⟩
end
end Fx
namespace Fx
open PySem PySem.Spec PyProof.Rows L2
noncomputable def aQ9:D->Value->Prop
 |.int i,v=>∃ t,v=.int i t
 |.str a,v=>∃ t,v=.str a t
 |_,_=>False
inductive Flats:List D->List Value->Prop
 |nil:Flats [] []
 |cons {d:D}{u:Value}{ds:List D}{us:List Value} (h:aQ9 d u) (r:Flats ds us):Flats (d::ds) (u::us)
theorem Flats.length {ds:List D}{us:List Value} (h:Flats ds us):ds.length=us.length:=by
 induction h with
 |nil=>rfl
 |cons _ _ O=>simp[O]
theorem N_3 (A:Around) (s:Shared) {d e:D}{u v:Value} (h:w_8 d e=true) (O:aQ9 d u) (Y:aQ9 e v):SeqAt.EqAt A s u v (eqD d e):=by
 cases d with
 |int i =>
  cases e with
  |int j =>
   obtain⟨t,rfl⟩:=O;obtain⟨w,rfl⟩:=Y;rw[show eqD (.int i) (.int j)=(i==j) by rw[eqD]]
   exact SeqAt.EqAt.int_int i t j w
  |_=>cases h
 |str a =>
  cases e with
  |str b =>
   obtain⟨t,rfl⟩:=O;obtain⟨w,rfl⟩:=Y;rw[show eqD (.str a) (.str b)=(a==b) by rw[eqD]]
   exact SeqAt.EqAt.str_str a t b w
  |_=>cases h
 |_=>cases h
theorem K_6 (A:Around) (s:Shared) {d e:D}{u v:Value} (h:w_8 d e=true) (Y:aQ9 d u) (Z:aQ9 e v) (prog:Program) (w:World) (E:Value->Shared->Prop) (Q:Value->Shared->Prop) (q:Q (.bool (ltF d e)) s) :
  wpAny (model prog w) A (richCompare .Lt u v) Q E s:=by
 cases d with
 |int i =>
  cases e with
  |int j =>
   obtain⟨t,rfl⟩:=Y;obtain⟨O,rfl⟩:=Z;exact (PyProof.Rows.lt_int q:wpAny (model prog w) A (compareOp .Lt (.int i t) (.int j O)) Q E s)
  |_=>cases h
 |str a =>
  cases e with
  |str b =>
   obtain⟨t,rfl⟩:=Y;obtain⟨O,rfl⟩:=Z;exact (PyProof.Rows.lt_str (by simpa [ltF] using q):wpAny (model prog w) A (compareOp .Lt (.str a t) (.str b O)) Q E s)
  |_=>cases h
 |_=>cases h
section
open PySem.SeqAt
open PySem.AutoSeq1 (wpAny_loadPart')
open PySem.MeetsSeq PySem.MeetsSeq2 PySem.MeetsSeq3
theorem E_7 (l b:Addr) (items O:Array Value) (n n2:Nat) (dd ai:Option Addr) (sl aj:Array (Option Value)) (ds es:List D) (hi:Flats ds items.toList) (hj:Flats es O.toList) (hs:g_7 ds es=true) :
  Meets (Builtin.«tuple.__lt__» ⟨[.ref l,.ref b],[]⟩)
   (λ _ R s=>s.heap.get? l=some {cls:=.type "tuple",dict:=dd,data:=.seq items n,slots:=sl} ∧ s.heap.get? b=some {cls:=.type "tuple",dict:=ai,data:=.seq O n2,slots:=aj} ∧
    R (.ok (.ret (.bool (J_1 ds es)))) s) :=
 .of_wp λ prog w A R s h=>by
  obtain⟨hp,g,d,tk,os⟩:=s;obtain⟨hl,hb,h⟩:=h;have f2:=AutoSeq1.sub_tuple_tuple;have z1:items.size=ds.length:=by rw[hi.length];simp
  have z2:O.size=es.length:=by rw[hj.length];simp
  have z3:=(p_9 hs).1
  wp_walk using wpAny_loadPart' hl,wpAny_loadPart' hb,wpAny_forIn_list _ (λ rest b s'=>b.1=none/\s'=⟨hp,g,d,tk,os⟩/\∃ (vs ws:List Value) (Z aa:List D),rest=vs.zip ws /\
   Flats Z vs/\Flats aa ws/\g_7 Z aa=true/\R (.ok (.ret (.bool (J_1 Z aa)))) ⟨hp,g,d,tk,os⟩) _
  case turn =>
   rintro ⟨y,x⟩ rest b s' ⟨ab,rfl,vs,ws,Z,aa,hz,ad,ac,Y,hR⟩;cases ad with
   |nil=>rw[List.zip_nil_left] at hz;cases hz
   |@cons dx ux am ak hd af =>
    cases ac with
    |nil=>rw[List.zip_nil_right] at hz;cases hz
    |@cons ex vx an al ag ae =>
     rw[List.zip_cons_cons] at hz;injection hz with hyx hrest
     injection hyx with hy hx
     subst hy hx;unfold g_7 at Y;rw[Bool.and_eq_true] at Y;unfold J_1 at hR;refine qb (N_3 A.in1 ⟨hp,g,d,tk,os⟩ Y.1 hd ag prog w _ _ ?_);cases hq:eqD dx ex with
     |true =>
      rw[hq,if_pos rfl] at hR
      wp_walk
      exact⟨rfl,rfl,_,_,_,_,hrest,af,ae,Y.2,hR⟩
     |false =>
      rw[hq,if_neg Bool.false_ne_true] at hR;have ah:=K_6 A.in1 ⟨hp,g,d,tk,os⟩ Y.1 hd ag prog w
      wp_walk using ah
      exact⟨_,rfl,by simpa using hR⟩
  case fin =>
   rintro ⟨b1,b2⟩ s' ⟨ab,rfl,vs,ws,Z,aa,hz,ad,ac,Y,hR⟩;simp only at ab;subst ab
   have hv:J_1 Z aa=decide (items.size<O.size):=by
    rw[decide_eq_false (by omega)]
    cases ad with
    |nil=>unfold J_1;rfl
    |cons a hv =>
     cases ac with
     |nil=>unfold J_1;rfl
     |cons c hw=>rw[List.zip_cons_cons] at hz;cases hz
   rw[hv] at hR
   wp_walk
   exact⟨_,rfl,by simpa [Builtin.Tuple.tupleCompareSizes] using hR⟩
  case h =>
   exact⟨rfl,rfl,items.toList,O.toList,ds,es,rfl,hi,hj,hs,h⟩
end
theorem aa4 {prog:Program}{w:World}{A:Around}{E:Value->Shared->Prop}{s:Shared}{l b:Addr}{items O:Array Value}{ds es:List D}{Q:Value->Shared->Prop} (hl:IsTup s.heap l items) (hb:IsTup s.heap b O) (hi:Flats ds items.toList) (hj:Flats es O.toList) (hs:g_7 ds es=true)
  (hu:A.units<cLine) (h:Q (.bool (J_1 ds es)) s):wpAny (model prog w) A (compareOp .Lt (.ref l) (.ref b)) Q E s:=by
 obtain⟨⟨cls,dd,data,sl⟩,ho,hc,n,hd⟩:=id hl;obtain⟨⟨ae,ad,ac,ab⟩,Z,aa,n2,Y⟩:=id hb;simp only at hc hd aa Y;subst hc hd aa Y;exact richCompare_meets_room (op:=.Lt) ⟨_,ho,rfl⟩ ⟨_,Z,rfl⟩ PySem.F.slot_tuple_lt PySem.F.entry_tuple_lt (PySem.F.args_tuple_lt_2 _ _) (E_7 l b items O n n2 dd ad sl ab ds es hi hj hs)
  ⟨ho,Z,show Value.bool (J_1 ds es)≠Value.notImplemented/\Q (.bool (J_1 ds es)) s from ⟨(λ x=>nomatch x),h⟩⟩ hu
end Fx
namespace Fx
open PySem PySem.W PySem.Spec PyProof.Rows
section
variable {prog:Program}{w:World}{A:Around}{E:Value->Shared->Prop}{s:Shared}
structure Asks (prog:Program) (w:World) (A:Around) (s:Shared) (a:Addr) (vs:List Value) (κ:SortKind) (r:Nat->Nat):Prop where
 kind:2<=vs.length->∀ h',(∀ b o,b≠a->s.heap.get? b=some o->h'.get? b=some o)->∀ Q:SortKind->Shared->Prop,Q κ {s with heap:=h'}->wpAny (model prog w) A (keyKind' vs.toArray) Q (λ _ _=>False) {s with heap:=h'}
 ask:∀ h',(∀ b o,b≠a->s.heap.get? b=some o->h'.get? b=some o)->∀ i j,i<vs.length->j<vs.length->∀ C:Bool->Shared->Prop,C (ltR r i j) {s with heap:=h'}->kas_ask prog w A κ vs i j C {s with heap:=h'}
theorem aa9 (vs:List Value):(List.range vs.length).map (λ i=>vs.getD i Value.none)=vs:=by
 refine List.ext_getElem (by simp) λ i h1 h2=>?_
 simp[h2]
theorem B_8 {a:Addr}{vs:List Value}{n:Nat}{κ:SortKind}{r:Nat → Nat}{P:PySem.Fin → Shared → Prop} (ho:s.heap.get? a=some (seqObj "list" vs.toArray n)) (ae:vs.length<64) (k:Asks prog w A s a vs κ r)
  (fin:∀ p:Array Nat,OkP vs.length p->P_1 r p vs.length->P (.done (.ret .none)) {s with heap:=sortedHeap s.heap a vs (p.toList.map λ i=>vs.getD i Value.none).toArray}) :
  wpAny (model prog w) A (Builtin.«list.sort» ⟨[.ref a],[]⟩) P E s:=by
 rw[list_sort_plain];have ha:a<s.heap.objs.size:=qm ho;have big:(64:Nat)<=sizeLine:=by decide
 have hsz:vs.toArray.size=vs.length:=by simp
 refine qb (listItems_at ho rfl ?_);refine qb (listUpdate_at ho rfl ?_ (by omega) (Nat.zero_le _))
 obtain⟨e1,ab⟩:∃ e1,(s.heap.update a (Obj.mapSeq λ _=>#[])).get? a=some (seqObj "list" #[] e1):=⟨_,get?_update_seq ho (λ _=>#[])⟩
 refine qb (seqEpoch_at ab rfl ?_);refine qb (wpAny_newTuple ?_ (show vs.length<=_ by omega))
 refine qb (wpAny_newList ?_ (Nat.zero_le _));refine wpAny_holding ?_;have up:∀ b o,b<s.heap.objs.size → (s.heap.update a (Obj.mapSeq λ _=>#[])).get? b=some o → (((s.heap.update a (Obj.mapSeq λ _=>#[])).push (seqObj "tuple" vs.toArray 0)).push (seqObj "list" #[] 0)).get? b=some o:=λ b o hb q=>qd _ (qd _ q)
 have ad:=up a _ ha ab;have keep:∀ b o,b≠a → s.heap.get? b=some o → (((s.heap.update a (Obj.mapSeq λ _=>#[])).push (seqObj "tuple" vs.toArray 0)).push (seqObj "list" #[] 0)).get? b=some o:=λ b o hb q =>
  up b o (qm q) (by rw[Heap.get?_update_ne _ _ _ _ hb];exact q)
 show wpAny (model prog w) A _ P E {s with heap:=((s.heap.update a (Obj.mapSeq λ _=>#[])).push (seqObj "tuple" vs.toArray 0)).push (seqObj "list" #[] 0)}
 dsimp only;have aa:∀ (p:Array Nat) (st:SortSt),OkP vs.length p->P_1 r p vs.length->(arrOf st).map (·.2)=(p.toList.map λ i=>vs.getD i Value.none).toArray->failedOf st=none->wpAny (model prog w) A (do
   let Y:=(<- seqEpoch a) != e1
   Builtin.List.listUpdate (.ref a) λ _=>(arrOf st).map (·.2)
   if let some e:=failedOf st then rule "list.sort.comparison-raised";throw e
   if Y then rule "list.sort.modified";raiseError "ValueError" "list modified during sort"
   ret .none) P E {s with heap:=((s.heap.update a (Obj.mapSeq λ _=>#[])).push (seqObj "tuple" vs.toArray 0)).push (seqObj "list" #[] 0)}:=λ p st op mo ar fa=>by
  refine qb (seqEpoch_at ad rfl ?_);rw[ar];have z:(p.toList.map λ i=>vs.getD i Value.none).toArray.size=vs.length:=by rw[List.size_toArray,List.length_map,Array.length_toList,op.size]
  refine qb (listUpdate_at ad rfl ?_ (Nat.zero_le _) (by rw[z];omega))
  rw[fa];simp only[bne_self_eq_false,Bool.false_eq_true,if_false];exact qc (fin p op mo)
 by_cases h2:vs.toArray.size<2
 ·rw[if_pos h2,if_pos h2]
  refine qb (qc ?_);rw[StateT.run_pure];refine qb (qc ?_);refine aa (List.toArray (List.range vs.length)) _ M_4 (λ i j af hj=>by rw[show i=j by omega];exact qj _) ?_ rfl
  show ((vs.toArray.zip vs.toArray).map (·.2))=_;rw[show (List.toArray (List.range vs.length)).toList=List.range vs.length from rfl,aa9]
  apply Array.toList_inj.mp
  rw[Array.toList_map];simp[List.map_snd_zip]
 ·rw[if_neg h2,if_neg h2]
  refine qb (wpAny_mono (k.kind (by omega) _ keep (λ ac s'=>ac=κ ∧ s'={s with heap:=((s.heap.update a (Obj.mapSeq λ _=>#[])).push (seqObj "tuple" vs.toArray 0)).push (seqObj "list" #[] 0)}) ⟨rfl,rfl⟩) (λ ac s' hk=>?_) λ _ _ x=>x.elim)
  obtain⟨rfl,rfl⟩:=hk;refine qb (wpAny_mono (kat_run (Q:=λ Z s'=>s'={s with heap:=((s.heap.update a (Obj.mapSeq λ _=>#[])).push (seqObj "tuple" vs.toArray 0)).push (seqObj "list" #[] 0)} ∧ ∃ p:Array Nat,OkP vs.length p ∧ P_1 r p vs.length ∧ arrOf Z=p.map (kas_item (vs.toArray.zip vs.toArray)) ∧ failedOf Z=none)
   (G:=λ p s'=>s'={s with heap:=((s.heap.update a (Obj.mapSeq λ _=>#[])).push (seqObj "tuple" vs.toArray 0)).push (seqObj "list" #[] 0)} ∧ OkP vs.length p ∧ P_1 r p vs.length) rfl (by omega) ae (λ p Z s' _ a2 a3 a4=>⟨a4.1,p,a4.2.1,a4.2.2,a2,a3⟩)
   (WpT.run (lt:=ltR r) (n:=vs.length) (J:=λ s'=>s'={s with heap:=((s.heap.update a (Obj.mapSeq λ _=>#[])).push (seqObj "tuple" vs.toArray 0)).push (seqObj "list" #[] 0)}) (λ i j C s' hi hj O hC=>?_) (λ p s' hp O=>⟨O,hp.1,hp.2⟩) _ _ (aG9 (by omega)) rfl)) ?_ λ _ _ e=>e)
  ·subst O
   exact k.ask _ keep i j hi hj C (hC _ rfl)
  ·rintro ⟨⟨⟩,Z⟩ s' ⟨O,p,h1,h3,h4,h5⟩
   dsimp only at O h4 h5;subst O;exact aa p Z h1 h3 (kat_snds rfl h4) h5
theorem P_5 {it:Addr}{ob:Obj}{n:Nat}{us:List Value}{κ:SortKind}{Q:Value → Shared → Prop}{r:Nat → Nat} (ho:s.heap.get? it=some ob) (hc:ob.cls=.type "list") (hd:ob.data=.seq us.toArray n) (aa:us.length<64)
  (k:∀ (h1:Heap) (a:Addr),(∀ b o,s.heap.get? b=some o->h1.get? b=some o)->s.heap.get? a=none->Asks prog w A.in1.in1 {s with heap:=h1} a us κ r)
  (fin:∀ (h1 h2:Heap) (p:Array Nat) (e:Nat),OkP us.length p → P_1 r p us.length → (∀ b o',s.heap.get? b=some o' → h1.get? b=some o') → (∀ b o',h1.get? b=some o' → h2.get? b=some o') → h2.get? h1.objs.size=some (seqObj "list" (p.toList.map λ i=>us.getD i Value.none).toArray e) → Q (.ref h1.objs.size) {s with heap:=h2}) :
  wpAny (model prog w) A (call (.builtin "sorted") [.ref it]) Q E s:=by
 refine Calls.call_function_entry kind_sorted plain_sorted entry_sorted (args_sorted1 _) ?_;unfold Builtin.«sorted»;refine qb (m:=checkCount "sorted" 1 1 _) (qc ?_);have hz:us.toArray.size<=sizeLine:=by rw[List.size_toArray,sizeLine_eq];omega
 refine qb (wpAny_collect_seq it (.inl rfl) ho hc hd (λ h1 Y=>?_) hz)
 refine qb (wpAny_newList ?_);have O:(h1.push (seqObj "list" us.toArray 0)).get? h1.objs.size=some (seqObj "list" us.toArray 0):=qk _ rfl;have Z:∀ b o,s.heap.get? b=some o → (h1.push (seqObj "list" us.toArray 0)).get? b=some o:=λ b o q=>qd _ (Y b o q)
 have new:s.heap.get? h1.objs.size=none:=by
  cases q:s.heap.get? h1.objs.size with
  |none=>rfl
  |some o=>exact absurd (qm (Y _ o q)) (Nat.lt_irrefl _)
 refine qb (wpAny_holding (wpAny_call_entry slot_list_sort ⟨_,O,rfl⟩ entry_list_sort (B_8 (s:={s with heap:=h1.push (seqObj "list" us.toArray 0)}) O aa (k _ _ Z new) λ p op mo=>⟨_,rfl,?_⟩) (args_list_sort _)))
 obtain⟨e,he⟩:=sortedHeap_at (out:=(p.toList.map λ i=>us.getD i Value.none).toArray) O
 refine qc ⟨_,rfl,fin h1 _ p e op mo Y (λ b o' hb=>?_) he⟩
 have lt:b<h1.objs.size:=qm hb;show (sortedHeap (h1.push (seqObj "list" us.toArray 0)) h1.objs.size us (p.toList.map λ i=>us.getD i Value.none).toArray).get? b=some o'
 rw[sortedHeap_old (Nat.ne_of_lt lt) (by rw[size_push'];exact Nat.lt_succ_of_lt lt)]
 exact qd _ hb
end
end Fx
namespace Fx
open PySem PySem.W PySem.Spec PyProof.Rows L2
section
variable {prog:Program}{w:World}{A:Around}{E:Value->Shared->Prop}{s:Shared}{b:Bool}{Q:Bool->Shared->Prop}
theorem G_6 {p q:Value}{r:List (Value×Value)}{i:Nat}{e l:Bool}{fin:Bool} (hE:SeqAt.EqAt A s p q e) (Y:∀ O:Bool->Shared->Prop,O l s->wpAny (model prog w) A (oneLt' (b&&i==0) p q) O (λ _ _=>False) s)
  (h1:e=true->KatLex prog w A b fin Q r (i+1) s) (h2:e=false->Q l s):KatLex prog w A b fin Q ((p,q)::r) i s :=
 kat_cons (hE prog w _ _ (kat_go (λ z=>kat_yes (h1 z)) λ z=>kat_no (Y Q (h2 z))))
theorem Z_9 (c:Bool) {d e:D}{u v:Value} (h:w_8 d e=true) (O:aQ9 d u) (Y:aQ9 e v) (Z:Bool->Shared->Prop) (q:Z (ltF d e) s):wpAny (model prog w) A (oneLt' c u v) Z E s:=by
 cases c with
 |false=>exact kat_one u v (K_6 A s h O Y prog w E _ q)
 |true =>
  cases d with
  |int i =>
   cases e with
   |int j=>obtain⟨t,rfl⟩:=O;obtain⟨w',rfl⟩:=Y;exact oneLt_int q
   |_=>cases h
  |str a =>
   cases e with
   |str b=>obtain⟨t,rfl⟩:=O;obtain⟨w',rfl⟩:=Y;exact oneLt_str q
   |_=>cases h
  |_=>cases h
theorem y_5:∀ (ds es:List D) {us vs:List Value}{i:Nat},g_7 ds es=true->Flats ds us->Flats es vs->Q (J_1 ds es) s->KatLex prog w A b false Q (us.zip vs) i s
 |[],[],_,_,i,h,f1,f2,q=>by
  cases f1;cases f2;unfold J_1 at q;exact kat_nil q
 |[],_::_,_,_,i,h,_,_,q=>by cases h
 |_::_,[],_,_,i,h,_,_,q=>by cases h
 |d::ds,e::es,_,_,i,h,f1,f2,q=>by
  cases f1 with
  |cons a r =>
   cases f2 with
   |cons O Y =>
    unfold g_7 at h;rw[Bool.and_eq_true] at h;unfold J_1 at q;rw[List.zip_cons_cons];refine G_6 (N_3 A s h.1 a O) (λ Z=>Z_9 _ h.1 a O Z) (λ z=>?_) λ z=>?_
    ·rw[if_pos z] at q;exact y_5 ds es h.2 r Y q
    ·rw[if_neg (by rw[z];exact Bool.false_ne_true)] at q;exact q
end
theorem aD2:∀ {a c:Ky}{x y:Ky},a.length=c.length->(a++x<c++y↔a<c\/(a=c/\x<y))
 |[],[],x,y,_=>by simp
 |[],_::_,_,_,h=>by cases h
 |_::_,[],_,_,h=>by cases h
 |k::a,l::c,x,y,h=>by
  rw[List.cons_append,List.cons_append,List.cons_lt_cons_iff,List.cons_lt_cons_iff,aD2 (by simpa using h)]
  constructor
  ·rintro (z | ⟨rfl,z | ⟨rfl,z⟩⟩)
   ·exact .inl (.inl z)
   ·exact .inl (.inr ⟨rfl,z⟩)
   ·exact .inr ⟨rfl,z⟩
  ·rintro ((z | ⟨rfl,z⟩) | ⟨z,O⟩)
   ·exact .inl z
   ·exact .inr ⟨rfl,.inl z⟩
   ·injection z with z3 z4;subst z3 z4;exact .inr ⟨rfl,.inr ⟨rfl,O⟩⟩
theorem q_8 (xs:List D):fK (.tup xs)=fKs xs:=by rw[fK]
theorem ak4:fKs []=[]:=by rw[fKs]
theorem w_4:∀ {ds es:List D},g_7 ds es=true->(r_4 ds es=true↔ds=es)
 |[],[],_=>by simp
 |[],_::_,h=>by cases h
 |_::_,[],h=>by cases h
 |d::r,e::t,h=>by
  unfold g_7 at h;rw[Bool.and_eq_true] at h;have q:=(v_8 h.1).1;have O:=w_4 h.2;rw[show r_4 (d::r) (e::t)=(eqD d e&&r_4 r t) by simp[r_4],Bool.and_eq_true,q,O]
  simp
theorem aV1 {Z O b1 Y:List D} (h1:g_7 Z b1=true) (h2:g_7 O Y=true):(if eqD (.tup Z) (.tup b1)=true then (if eqD (.tup O) (.tup Y)=true then false else J_1 O Y) else J_1 Z b1)=decide (fK (.tup [.tup Z,.tup O])<fK (.tup [.tup b1,.tup Y])):=by
 have e:∀ x y:List D,fK (.tup [.tup x,.tup y])=fKs x++fKs y:=λ x y=>by rw[q_8,j_1,j_1,q_8,q_8,ak4,List.append_nil]
 rw[e,e,G_7 h1,G_7 h2,z_1,z_1];have l:=aD2 (a:=fKs Z) (c:=fKs b1) (x:=fKs O) (y:=fKs Y) (p_9 h1).2
 by_cases z:r_4 Z b1=true
 ·rw[if_pos z]
  have z':=(w_4 h1).mp z;subst z'
  have l2:(fKs Z++fKs O<fKs Z++fKs Y)↔fKs O<fKs Y:=by
   rw[l];exact⟨λ y=>y.elim (λ y=>absurd y (List.lt_irrefl _)) (·.2),λ y=>.inr ⟨rfl,y⟩⟩
  by_cases z2:r_4 O Y=true
  ·rw[if_pos z2]
   have aa:=(w_4 h2).mp z2;subst aa;exact (decide_eq_false (List.lt_irrefl _)).symm
  ·rw[if_neg z2]
   exact decide_eq_decide.mpr l2.symm
 ·rw[if_neg z]
  refine decide_eq_decide.mpr ?_;rw[l];exact⟨.inl,λ y=>y.elim id λ y=>absurd ((w_4 h1).mpr ((m_6 h1).mp y.1)) z⟩
theorem Z_7 {d:D} (h:r3 d=true):∃ i a j,d=.tup [.int i,.str a,.int j]:=by
 unfold r3 at h
 split at h
 ·exact⟨_,_,_,rfl⟩
 ·cases h
theorem K_7 {d:D} (h:r22 d=true):∃ a i j k,d=.tup [.tup [.str a,.int i],.tup [.int j,.int k]]:=by
 unfold r22 at h
 split at h
 ·exact⟨_,_,_,_,rfl⟩
 ·cases h
section
variable {X:Cx}{pins:List (Addr×Obj)}{σ:L2.St}{H:Hp}{s:Shared}
theorem s_1 {K:Frag}:∀ {ds:List D}{vs:List V}{us:List Value},(∀ d∈ds,∃ e,w_8 d e=true)->Reps K H ds vs->Vals vs us->Flats ds us
 |[],vs,us,_,r,v=>by unfold Reps at r;subst r;cases v;exact .nil
 |d::ds,vs,us,h,r,v=>by
  unfold Reps at r;obtain⟨x,vr,rfl,O,r2⟩:=r;cases v with
  |cons Z vx =>
   refine .cons ?_ (s_1 (λ e Y=>h e (qg _ Y)) r2 vx)
   obtain⟨e,Y⟩:=h d qf;cases d with
   |int i=>unfold Rep at O;subst O;exact Z
   |str a=>unfold Rep at O;subst O;exact Z
   |_=>cases e <;> cases Y
theorem u_2 (I:Inv X pins σ H s) {ds:List D}{v:V}{u:Value} (r:Rep X.K H (.tup ds) v) (ru:RelV v u):∃ a ws O,u=.ref a/\IsTup s.heap a (List.toArray O)/\Reps X.K H ds ws/\Vals ws O:=by
 unfold Rep at r;obtain⟨a,ws,rfl,sq,Y⟩:=r;obtain⟨O,Z,tp,_⟩:=I.tuple sq;exact⟨a,ws,O,ru,tp,Y,Z⟩
theorem q_1 {K:Frag}:∀ {ds:List D}{vs:List V}{us:List Value}{i:Nat},Reps K H ds vs->Vals vs us->i<ds.length->∃ v,Rep K H (ds.getD i .non) v/\RelV v (us.getD i Value.none)
 |[],_,_,_,_,_,h=>by cases h
 |d::ds,vs,us,i,r,v,h=>by
  unfold Reps at r;obtain⟨x,vr,rfl,O,Z⟩:=r;cases v with
  |cons rx Y =>
   cases i with
   |zero=>exact⟨x,O,rx⟩
   |succ i=>exact q_1 (i:=i) Z Y (by simpa using h)
theorem K_3 {K:Frag}{ds:List D}{vs:List V}{us:List Value} (r:Reps K H ds vs) (v:Vals vs us):∀ {is:List Nat},(∀ i∈is,i<ds.length)->∃ ws,Reps K H (is.map λ i=>ds.getD i .non) ws/\Vals ws (is.map λ i=>us.getD i Value.none)
 |[],_=>⟨[],by unfold Reps;rfl,.nil⟩
 |i::is,h=>by
  obtain⟨x,Y,r2⟩:=q_1 r v (h i qf);obtain⟨ws,r3,Z⟩:=K_3 r v (is:=is) λ j O=>h j (qg _ O)
  exact⟨x::ws,Reps.cons Y r3,.cons r2 Z⟩
end
section
variable {X:Cx}{pins:List (Addr×Obj)}{σ:L2.St}{H:Hp}{s:Shared}
theorem bO4 {A:Around}{b:Bool}{Q:Bool->Shared->Prop}{E:Value->Shared->Prop} (I:Inv X pins σ H s) {d e:D} (hd:r3 d=true) (he:r3 e=true) {x y:V}{u v:Value} (r1:Rep X.K H d x) (v1:RelV x u) (r2:Rep X.K H e y) (v2:RelV y v)
  (q:Q (decide (fK d<fK e)) s):wpAny (model X.prog X.w) A (keyLt' (tuples' b) u v) Q E s:=by
 obtain⟨i,a,j,rfl⟩:=Z_7 hd;obtain⟨i',a',j',rfl⟩:=Z_7 he;obtain⟨p1,ws,ac,rfl,⟨o,ho,hc,n,aa⟩,rr,rv⟩:=u_2 I r1 v1;obtain⟨p2,ae,its',rfl,⟨o',ab,ad,n',O⟩,Z,Y⟩:=u_2 I r2 v2;have sm:g_7 [.int i,.str a,.int j] [.int i',.str a',.int j']=true:=rfl
 have fl:∀ (i:Int) (a:Str) (j:Int),∀ d∈[D.int i,.str a,.int j],∃ e,w_8 d e=true:=λ i a j d hd=>by
  simp only[List.mem_cons,List.not_mem_nil,or_false] at hd
  rcases hd with rfl | rfl | rfl
  ·exact⟨.int 0,rfl⟩
  ·exact⟨.str a,rfl⟩
  ·exact⟨.int 0,rfl⟩
 have f1:=s_1 (fl i a j) rr rv;have f2:=s_1 (fl i' a' j') Z Y;have l1:=f1.length;have l2:=f2.length;rw[q_8,q_8,<- G_7 sm] at q;refine kat_lt ho aa ab O ?_;rw[show decide ((List.toArray ac).size<(List.toArray its').size)=false from decide_eq_false (by rw[List.size_toArray,List.size_toArray,<- l1,<- l2];exact Nat.lt_irrefl _)]
 exact y_5 _ _ sm f1 f2 q
theorem bx9 {A:Around}{Q:Bool->Shared->Prop}{E:Value->Shared->Prop} (hA:A.units+8<cLine) (I:Inv X pins σ H s) {d e:D} (hd:r22 d=true) (he:r22 e=true) {x y:V}{u v:Value} (r1:Rep X.K H d x) (v1:RelV x u) (r2:Rep X.K H e y) (v2:RelV y v)
  (q:Q (decide (fK d<fK e)) s):wpAny (model X.prog X.w) A (keyLt' (tuples' false) u v) Q E s:=by
 obtain⟨a,i,j,k,rfl⟩:=K_7 hd;obtain⟨a',i',j',k',rfl⟩:=K_7 he;obtain⟨p1,ws,ai,rfl,⟨o,ho,hc,n,ad⟩,Z,rv⟩:=u_2 I r1 v1;obtain⟨p2,ah,its',rfl,⟨o',ae,ag,n',ab⟩,O,Y⟩:=u_2 I r2 v2;have s1:g_7 [.str a,.int i] [.str a',.int i']=true:=rfl;have s2:g_7 [.int j,.int k] [.int j',.int k']=true:=rfl
 have fl:∀ (a:Str) (i:Int),∀ d∈[D.str a,.int i],∃ e,w_8 d e=true:=λ a i d hd=>by
  simp only[List.mem_cons,List.not_mem_nil,or_false] at hd
  rcases hd with rfl | rfl
  ·exact⟨.str a,rfl⟩
  ·exact⟨.int 0,rfl⟩
 have fm:∀ (j k:Int),∀ d∈[D.int j,.int k],∃ e,w_8 d e=true:=λ j k d hd=>by
  simp only[List.mem_cons,List.not_mem_nil,or_false] at hd
  rcases hd with rfl | rfl
  ·exact⟨.int 0,rfl⟩
  ·exact⟨.int 0,rfl⟩
 rw[<- aV1 s1 s2] at q;unfold Reps at Z O;obtain⟨x1,t1,rfl,q1,Z⟩:=Z;obtain⟨y1,t2,rfl,q2,O⟩:=O;unfold Reps at Z O;obtain⟨x2,t3,rfl,q3,Z⟩:=Z;obtain⟨y2,t4,rfl,q4,O⟩:=O;unfold Reps at Z O;subst Z O;cases rv with
 |cons c1 rv =>
  cases rv with
  |cons c2 rv =>
   cases rv;cases Y with
   |cons c3 Y =>
    cases Y with
    |cons c4 Y =>
     cases Y
     rename_i u1 u2 w1 w2
     have aa:=X_2 I 3;have E1:SeqAt.EqAt A s u1 w1 (eqD (.tup [.str a,.int i]) (.tup [.str a',.int i'])):=aa A _ _ x1 y1 u1 w1 (by simp) (by simp) (by simp) (by omega) q1 c1 q2 c3
     have E2:SeqAt.EqAt A s u2 w2 (eqD (.tup [.int j,.int k]) (.tup [.int j',.int k'])):=aa A _ _ x2 y2 u2 w2 (by simp) (by simp) (by simp) (by omega) q3 c2 q4 c4
     have T:∀ {ds es:List D}{x y:V}{u v:Value},g_7 ds es=true->(∀ d∈ds,∃ e,w_8 d e=true)->(∀ d∈es,∃ e,w_8 d e=true)->Rep X.K H (.tup ds) x->RelV x u->Rep X.K H (.tup es) y->RelV y v->∀ Q':Bool->Shared->Prop,Q' (J_1 ds es) s->wpAny (model X.prog X.w) A (oneLt' false u v) Q' (λ _ _=>False) s:=λ {ds es x y u v} sm g1 g2 ra rb rc rd Q' q'=>by
      obtain⟨a1,_,i1,rfl,ac,m1,m2⟩:=u_2 I ra rb;obtain⟨a2,_,i2,rfl,af,m3,m4⟩:=u_2 I rc rd;exact kat_one _ _ (aa4 ac af (s_1 g1 m1 m2) (s_1 g2 m3 m4) sm (by omega) q')
     refine kat_lt ho ad ae ab (G_6 E1 (λ Q'=>T s1 (fl a i) (fl a' i') q1 c1 q2 c3 Q') (λ z=>G_6 E2 (λ Q'=>T s2 (fm j k) (fm j' k') q3 c2 q4 c4 Q') (λ z2=>kat_nil ?_) λ z2=>?_) λ z=>?_)
     ·rw[if_pos z,if_pos z2] at q;exact q
     ·rw[if_pos z,if_neg (by rw[z2];exact Bool.false_ne_true)] at q;exact q
     ·rw[if_neg (by rw[z];exact Bool.false_ne_true)] at q;exact q
theorem ak2 {T:Value} (I:Inv X pins σ H s):∀ {ds:List D}{vs:List V}{us:List Value},(∀ d∈ds,∃ e r,d=.tup (e::r)/\∀ (x:V) (u:Value),Rep X.K H e x->RelV x u->Looks (model X.prog X.w) s.heap (typeOf u) T)->Reps X.K H ds vs->Vals vs us ->
  ∃ fs:List Value,KatTups s.heap us fs/\fs.length=ds.length/\∀ v∈fs,Looks (model X.prog X.w) s.heap (typeOf v) T
 |[],vs,us,_,r,v=>by unfold Reps at r;subst r;cases v;exact⟨[],.nil,rfl,λ _ h=>by cases h⟩
 |d::ds,vs,us,h,r,v=>by
  unfold Reps at r;obtain⟨x,vr,rfl,r1,r2⟩:=r;cases v with
  |cons rx vx =>
   obtain⟨fs,k1,k2,k3⟩:=ak2 I (λ e Y=>h e (qg _ Y)) r2 vx
   obtain⟨e,rr,rfl,hT⟩:=h d qf;obtain⟨a,ws,aa,rfl,⟨o,ho,hc,n,hd⟩,r3,Z⟩:=u_2 I r1 rx;unfold Reps at r3;obtain⟨x1,wr,rfl,r4,_⟩:=r3;cases Z with
   |@cons _ u1 _ l1 O ab =>
    refine⟨u1::fs,.cons ho hc hd (by simp) k1,by simp[k2],λ z hz=>?_⟩
    rcases qt hz with rfl | hz
    ·exact hT _ _ r4 O
    ·exact k3 z hz
theorem ai1 {M:Model}{h:Heap}{i:Int}{t:Tok}:Looks M h (typeOf (.int i t)) (.type "int"):=.now
theorem ai0 {M:Model}{h:Heap}{a:Addr}{O:Array Value} (x:IsTup h a O):Looks M h (typeOf (.ref a)) (.type "tuple"):=by
 obtain⟨o,ho,Y,_⟩:=x;rw[<- Y];exact (Looks.ld ho).andThen .now
noncomputable def aX9 (K:Frag):List V->Hp->VK->Prop:=λ xs H Q=>∃ p ds vs H0,xs=[.ref p]/\SqL K H p vs/\Same H0 H/\Reps K H0 ds vs/\ds.length<64/\(ds.all r3=true\/ds.all r22=true)/\∀ l O,H l=none->Reps K H0 (q_7 ds) O->Q (.ref l) (upd H l (.lst O))
theorem ay7 {a b:D} (ha:r3 a=true) (hb:r3 b=true) (h:fK a=fK b):a=b:=by
 obtain⟨i,x,j,rfl⟩:=Z_7 ha;obtain⟨Z,Y,O,rfl⟩:=Z_7 hb;rw[q_8,q_8] at h;rw[(m_6 (ds:=[.int i,.str x,.int j]) (es:=[.int Z,.str Y,.int O]) rfl).mp h]
theorem aI5 {a b:D} (ha:r22 a=true) (hb:r22 b=true) (h:fK a=fK b):a=b:=by
 obtain⟨x,i,j,k,rfl⟩:=K_7 ha;obtain⟨O,Y,Z,k',rfl⟩:=K_7 hb;have e:∀ x y:List D,fK (.tup [.tup x,.tup y])=fKs x++fKs y:=λ x y=>by rw[q_8,j_1,j_1,q_8,q_8,ak4,List.append_nil]
 rw[e,e] at h;obtain⟨h1,h2⟩:=List.append_inj h (p_9 (ds:=[.str x,.int i]) (es:=[.str O,.int Y]) rfl).2;rw[(m_6 (ds:=[.str x,.int i]) (es:=[.str O,.int Y]) rfl).mp h1,(m_6 (ds:=[.int j,.int k]) (es:=[.int Z,.int k']) rfl).mp h2]
theorem ab6 (hu:X.A.units+64<cLine):CallR X (.builtin "sorted") (aX9 X.K):=by
 intro pins s σ H xs us Q I r h;obtain⟨p,ds,vs,H0,rfl,sq,sm,ab,ah,O,q⟩:=h;have rp:Reps X.K H ds vs:=Reps.mono sm _ ab;obtain⟨u,rfl,ru⟩:=r_0 r;cases ru;obtain⟨aa,rv,⟨ob,n,h1,h2,h3,h4⟩,_⟩:=I.list sq;have ad:aa.length=ds.length:=by rw[<- rv.length,<- rp.length]
 have ac:X.A.in1.in1.units+8<cLine:=by
  have e:X.A.in1.in1.units<=X.A.units+2:=by simp[Around.in1,Around.units]
  omega
 have inj:∀ a b,a∈ds->b∈ds->fK a=fK b->a=b:=λ a b ha hb e=>by
  rcases O with O | O
  ·exact ay7 (List.all_eq_true.mp O a ha) (List.all_eq_true.mp O b hb) e
  ·exact aI5 (List.all_eq_true.mp O a ha) (List.all_eq_true.mp O b hb) e
 have mem:∀ i,i<ds.length->ds.getD i .non∈ds:=λ i hi=>by
  rw[List.getD_eq_getElem?_getD,List.getElem?_eq_getElem hi];exact List.getElem_mem hi
 obtain⟨κ,kd,ak⟩:∃ κ:SortKind,(∀ (pins:List (Addr×Obj)) (s:Shared),Inv X pins σ H s->2<=aa.length->∀ Q:SortKind->Shared->Prop,Q κ s->wpAny (model X.prog X.w) X.A.in1.in1 (keyKind' aa.toArray) Q (λ _ _=>False) s) /\
   ∀ (pins:List (Addr×Obj)) (s:Shared),Inv X pins σ H s->∀ i j,i<ds.length->j<ds.length->∀ Q:Bool->Shared->Prop,Q (decide (fK (ds.getD i .non)<fK (ds.getD j .non))) s->kas_ask X.prog X.w X.A.in1.in1 κ aa i j Q s:=by
  rcases O with O | O
  ·refine⟨tuples' (Value.type "int" != Value.type "tuple"),λ pins s I' l2 Q q=>?_,λ pins s I' i j hi hj Q q=>?_⟩
   ·obtain⟨fs,k1,k2,k3⟩:=ak2 (T:=.type "int") I' (λ d hd=>by
     obtain⟨i,a,j,rfl⟩:=Z_7 (List.all_eq_true.mp O d hd);refine⟨_,_,rfl,λ x u rx ru=>?_⟩
     unfold Rep at rx;subst rx;obtain⟨t,rfl⟩:=ru;exact ai1) rp rv
    exact kat_kind k1 (by omega) k3 rfl q
   ·obtain⟨x,rx,ux⟩:=q_1 rp rv hi
    obtain⟨y,ry,uy⟩:=q_1 rp rv hj;exact bO4 I' (List.all_eq_true.mp O _ (mem i hi)) (List.all_eq_true.mp O _ (mem j hj)) rx ux ry uy q
  ·refine⟨tuples' (Value.type "tuple" != Value.type "tuple"),λ pins s I' l2 Q q=>?_,λ pins s I' i j hi hj Q q=>?_⟩
   ·obtain⟨fs,k1,k2,k3⟩:=ak2 (T:=.type "tuple") I' (λ d hd=>by
     obtain⟨a,i,j,k,rfl⟩:=K_7 (List.all_eq_true.mp O d hd);refine⟨_,_,rfl,λ x u rx ru=>?_⟩
     obtain⟨_,_,_,rfl,tp,_⟩:=u_2 I' rx ru;exact ai0 tp) rp rv
    exact kat_kind k1 (by omega) k3 rfl q
   ·obtain⟨x,rx,ux⟩:=q_1 rp rv hi
    obtain⟨y,ry,uy⟩:=q_1 rp rv hj;exact bx9 ac I' (List.all_eq_true.mp O _ (mem i hi)) (List.all_eq_true.mp O _ (mem j hj)) rx ux ry uy q
 refine P_5 (κ:=κ) (r:=ae1 ds.length λ i=>fK (ds.getD i .non)) h1 h2 h4 (by omega) (λ g a kp na=>?_) λ g1 g2 Z e op mo k1 k2 af=>?_
 ·have up:∀ g':Heap,(∀ b o,b≠a->g.get? b=some o->g'.get? b=some o)->∀ b o,s.heap.get? b=some o->g'.get? b=some o:=λ g' k b o z=>k b o (λ y=>by rw[y,na] at z;cases z) (kp b o z)
  refine⟨λ l2 g' k Q q=>kd pins _ (I.kept (t':=s.toks) (up g' k)) l2 Q q,λ g' k i j hi hj C q=>ak pins _ (I.kept (t':=s.toks) (up g' k)) i j (by omega) (by omega) C ?_⟩
  have ri:=V_0 (n:=ds.length) (key:=λ i=>fK (ds.getD i .non)) (i:=i) (j:=j) (by omega)
  rw[<- decide_eq_decide.mpr ri];exact q
 ·have I1:Inv X pins σ H {s with heap:=g1}:=I.kept (t':=s.toks) k1
  rw[ad] at op mo;have Y:∀ i∈Z.toList,i<ds.length:=λ i hi=>List.mem_range.mp (op.perm.mem_iff.mp hi)
  obtain⟨ws,w1,w2⟩:=K_3 ab rv Y
  have srt:(Z.toList.map λ i=>ds.getD i .non)=q_7 ds:=by
   refine C_5 inj ?_ ?_
   ·have e1:=op.perm.map λ i=>ds.getD i .non
    have e2:(List.range ds.length).map (λ i=>ds.getD i .non)=ds:=by
     refine List.ext_getElem (by simp) λ i h1 h2=>?_
     simp[h2]
    rw[e2] at e1;exact e1
   ·rw[List.pairwise_map,List.pairwise_iff_getElem]
    intro i j hi hj ae;have ag:Z.toList.length=ds.length:=by rw[Array.length_toList,op.size]
    have m1:=mo i j (Nat.le_of_lt ae) (by omega)
    have gi:Z.getD i 0=Z.toList[i]:=by
     rw[Array.getD_eq_getD_getElem?,<- Array.getElem?_toList,List.getElem?_eq_getElem hi];rfl
    have gj:Z.getD j 0=Z.toList[j]:=by
     rw[Array.getD_eq_getD_getElem?,<- Array.getElem?_toList,List.getElem?_eq_getElem hj];rfl
    unfold KP at m1;rw[gi,gj] at m1;refine decide_eq_false λ z=>?_
    have:=(V_0 (n:=ds.length) (key:=λ i=>fK (ds.getD i .non)) (i:=Z.toList[j]) (j:=Z.toList[i]) (Y _ (List.getElem_mem hj))).mpr z
    omega
  rw[srt] at w1
  have hz:ws.length<=sizeLine:=by
   have:=w1.length;rw[(i_2 ds).length_eq] at this;have big:(64:Nat)<=sizeLine:=by decide
   omega
  exact⟨.ref g1.objs.size,_,I1.laid (t':=s.toks) (o:=.lst ws) k2 (qj _) ⟨hz,_,e,w2,af⟩,rfl,q _ _ (I1.hok.fresh (qj _)) w1⟩
theorem O_0 (hu:X.A.units+64<cLine):BOk X (.builtin "sorted") p_6:=⟨_,ab6 hu,λ c H0 H ρ σ ds d vs Q R r e q=>by
 unfold p_6 at e
 split at e
 ·rename_i xs
  obtain⟨⟨Y,sh⟩,rfl⟩:=ifs e;obtain⟨v,rfl,Z⟩:=Reps.v1 r;unfold Rep at Z;obtain⟨p,ws,rfl,sq,t⟩:=Z;refine⟨p,xs,ws,H0,rfl,Same.seq R.same sq,R.same,t,Y,sh,λ l O hl r'=>?_⟩
  have S:=Step.alloc (o:=.lst O) R.same hl;refine q _ _ _ S.s0 (R.after S) ?_;unfold Rep;exact⟨l,O,rfl,.inl (.inl a_2),Reps.mono S.s0 _ r'⟩
 ·cases e⟩
end
end Fx
namespace Fx
open PySem PySem.W PyProof.Rows
structure Cmp (prog:Program) (w:World) (A:Around) (s:Shared) (κ:SortKind) (rk:Keyed->Nat) (M:Keyed->Prop):Prop where
 ask:∀ x y,M x->M y->∀ Q:Bool->Shared->Prop,Q (decide (rk x<rk y)) s->wpAny (model prog w) A (keyLt' κ x.1 y.1) Q (λ _ _=>False) s
structure Gm (le:Keyed->Keyed->Prop) (T out P Q:List Keyed):Prop where
 perm:(out++P++Q).Perm T
 so:out.Pairwise le
 bp:∀ x∈out,∀ y∈P,le x y
 bq:∀ x∈out,∀ y∈Q,le x y
 sp:P.Pairwise le
 sq:Q.Pairwise le
noncomputable def leR (rk:Keyed->Nat) (x y:Keyed):Prop:=rk x<=rk y
noncomputable def Rk (rk:Keyed->Nat) (xs:Array Keyed) (i:Nat):Nat:=match xs[i]? with
 |some x=>rk x
 |none=>0
theorem J_0 {rk:Keyed->Nat}{xs ys:Array Keyed}{i j:Nat} (h:xs[i]?=ys[j]?):Rk rk xs i=Rk rk ys j:=by unfold Rk;rw[h]
noncomputable def Kp (lo:Nat) (a xs:Array Keyed):Prop:=xs.Perm a/\∀ i,i<lo->xs[i]?=a[i]?
theorem Kp.size {lo:Nat}{a xs:Array Keyed} (h:Kp lo a xs):xs.size=a.size:=h.1.size_eq
noncomputable def UpO (rk:Keyed->Nat) (xs:Array Keyed) (lo m:Nat):Prop:=∀ i j,i<=j->j<m->Rk rk xs (lo+i)<=Rk rk xs (lo+j)
section
variable {prog:Program}{w:World}{A:Around}{E:Value->Shared->Prop}{s:Shared}{κ:SortKind}{rk:Keyed->Nat}{M:Keyed->Prop}
theorem bh2 {xs:Array Keyed}{k d:Nat} (O:k<xs.size) (hd:d<=k) (i:Nat):Rk rk (bubble xs k d) i=if i=k-d then Rk rk xs k else if k-d<i/\i<=k then Rk rk xs (i-1) else Rk rk xs i:=by
 have e:=getElem?_bubble O d hd i
 by_cases h1:i=k-d
 ·rw[if_pos h1] at e ⊢;exact J_0 e
 ·rw[if_neg h1] at e ⊢
  by_cases h2:k-d<i/\i<=k
  ·rw[if_pos h2] at e ⊢;exact J_0 e
  ·rw[if_neg h2] at e ⊢;exact J_0 e
structure Gap (rk:Keyed->Nat) (xs:Array Keyed) (lo k l r:Nat):Prop where
 ord:l<=r/\r<=k
 below:∀ i<l,Rk rk xs (lo+i)<=Rk rk xs (lo+k)
 above:∀ i<k,r<=i->Rk rk xs (lo+k)<Rk rk xs (lo+i)
theorem Gap.all {xs:Array Keyed}{lo k:Nat}:Gap rk xs lo k 0 k:=⟨⟨Nat.zero_le _,qj _⟩,λ i z=>absurd z (Nat.not_lt_zero i),λ i z y=>absurd (qq z y) (Nat.lt_irrefl _)⟩
theorem Gap.put {xs:Array Keyed}{lo k l:Nat} (g:Gap rk xs lo k l l) (up:UpO rk xs lo k) (hk:lo+k<xs.size):UpO rk (bubble xs (lo+k) (k-l)) lo (k+1):=by
 have o:=g.ord.2
 have Y:∀ i,i<=k->Rk rk (bubble xs (lo+k) (k-l)) (lo+i)=if i=l then Rk rk xs (lo+k) else if l<i then Rk rk xs (lo+(i-1)) else Rk rk xs (lo+i):=λ i ik=>by
  rw[bh2 hk (by omega)]
  by_cases Z:i=l
  ·rw[if_pos Z,if_pos (by omega)]
  ·rw[if_neg Z,if_neg (by omega)]
   by_cases c2:l<i
   ·rw[if_pos c2,if_pos ⟨by omega,by omega⟩]
    congr 1
    omega
   ·rw[if_neg c2,if_neg (by omega)]
 intro i j ij jk;rw[Y i (by omega),Y j (by omega)]
 rcases Nat.lt_trichotomy i l with ci | ci | ci
 ·rw[if_neg (by omega),if_neg (by omega)]
  rcases Nat.lt_trichotomy j l with O | O | O
  ·rw[if_neg (by omega),if_neg (by omega)];exact up i j ij (by omega)
  ·rw[if_pos O];exact g.below i ci
  ·rw[if_neg (by omega),if_pos O];exact up i (j-1) (by omega) (by omega)
 ·rw[if_pos ci]
  by_cases O:j=l
  ·rw[if_pos O];exact qj _
  ·rw[if_neg O,if_pos (by omega)];exact Nat.le_of_lt (g.above (j-1) (by omega) (by omega))
 ·rw[if_neg (by omega),if_pos ci,if_neg (by omega),if_pos (by omega)]
  exact up (i-1) (j-1) (by omega) (by omega)
end
noncomputable def bz9:List (List Keyed×Nat)->Nat->List (Nat×Nat×Nat)
 |[],_=>[]
 |r::t,o=>(o,r.1.length,r.2)::bz9 t (o+r.1.length)
noncomputable def bu6 (O:List (List Keyed×Nat)):List Keyed:=(O.map (·.1)).flatten
structure RunsOk (rk:Keyed->Nat) (κ:SortKind) (T:List Keyed) (post:List Keyed) (rs:List (List Keyed×Nat)) (st:SortSt):Prop where
 kind:kindOf st=κ
 fail:failedOf st=none
 pend:(pendingOf st).toList=bz9 rs 0
 arr:(arrOf st).toList=bu6 rs++post
 perm:(arrOf st).toList.Perm T
 ne:∀ r∈rs,r.1≠[]
 so:∀ r∈rs,r.1.Pairwise (leR rk)
end Fx
namespace Fx
open PySem PySem.W PySem.Spec PyProof.Rows
end Fx
namespace Fx
open PySem PySem.W PySem.Spec PyProof.Rows L2
end Fx
namespace Fx
open PySem PySem.Spec PyProof.Rows L2
open Sem (wp)
section
variable {prog:Program}{w:World}{A:Around}{E:Value->Shared->Prop}{s:Shared}
structure Nx (prog:Program) (w:World) (i:Addr) (fp:List Addr) (get:Nat->Option Value) (P:Nat->Heap->Prop):Prop where
 mem:i∈fp
 keep:∀ k h h',P k h->(∀ b∈fp,∀ o,h.get? b=some o->h'.get? b=some o)->P k h'
 there:∀ k h,P k h->∃ o vs,h.get? i=some o/\o.data=.fields vs
 draw:∀ (A:Around) (E:Value->Shared->Prop) (s:Shared) (Q:Value->Shared->Prop) (k:Nat) (x:Value),P k s.heap->get k=some x->(∀ h',P (k+1) h'->Heap.SameBut i s.heap h'->Q x {s with heap:=h'}) ->
  wpAny (model prog w) A (Builtin.SmallTypes.nextOf (.ref i)) Q E s
 over:∀ (A:Around) (E:Value->Shared->Prop) (s:Shared) (Q:Value->Shared->Prop) (k:Nat),A.handled=none->P k s.heap->get k=none ->
  (∀ h' e,Heap.ExtBut i s.heap h' → (∃ o,h'.get? e=some o ∧ o.cls=.type "StopIteration") → E (.ref e) {s with heap:=h'}) → wpAny (model prog w) A (Builtin.SmallTypes.nextOf (.ref i)) Q E s
end
abbrev zO (O:Value) (Y:Bool) (TI TO:Addr):Obj:={cls:=.type "zip",dict:=none,data:=.fields #[O,.bool Y,.bool false,.ref TI,.ref TO],slots:=#[]}
structure Zs (z TI TO i1 i2:Addr) (P1 P2:Nat->Heap->Prop) (k1 k2:Nat) (f0:Value) (f1:Bool) (h:Heap):Prop where
 hz:h.get? z=some (zO f0 f1 TI TO)
 ti:IsPair h TI (.ref i1) (.ref i2)
 to:∃ a b,IsPair h TO a b
 p1:P1 k1 h
 p2:P2 k2 h
structure Za (z TI TO i1 i2:Addr) (fp1 fp2:List Addr):Prop where
 TIz:TI≠z
 TOz:TO≠z
 TITO:TI≠TO
 TI1:TI≠i1
 TI2:TI≠i2
 f1:∀ b∈fp1,b≠z/\b≠TO/\b≠i2
 f2:∀ b∈fp2,b≠z/\b≠TO/\b≠i1
end Fx
namespace Fx
open PySem PySem.Spec
section
variable {P:Program}{w:World}{A:Around}{E:Value->Shared->Prop}{s:Shared}{it a:Addr}
structure SObj (h:Heap) (a:Addr) (es:Array (Int×Value)) (ep:Nat) (t:SetTable):Prop where
 at_:∃ o,h.get? a=some o/\o.ExactSet/\o.data=.set es ep t
 fits:t.fits es.size=true
theorem SObj.keep {h h':Heap}{es:Array (Int×Value)}{ep:Nat}{t:SetTable} (q:SObj h a es ep t) (k:∀ o,h.get? a=some o->h'.get? a=some o):SObj h' a es ep t:=by
 obtain⟨⟨o,h1,h2⟩,f⟩:=q;exact⟨⟨o,k o h1,h2⟩,f⟩
end
end Fx
namespace Fx
open PySem PySem.Spec PyProof.Rows L2
structure Coll (X:Cx) (J:It) (fp:List Addr) (it:Addr) (tn:Nat->Heap->Prop):Prop where
 obj:∀ i h,tn i h->∀ b∈fp,b<h.objs.size
 keep:∀ i h h' (S:Addr),tn i h → S∉fp → (∀ o,h.get? S=some o → o.cls=.type "list") → (∀ b o,b≠S → h.get? b=some o → h'.get? b=some o) → tn i h'
 item:∀ (A:Around) (i:Nat) (pins:List (Addr×Obj)) (s:Shared) (σ:L2.St) (H:Hp) (E:Value->Shared->Prop),A.handled=none->Inv X pins σ H s->(∀ b∈fp,Y_6 X pins H b)->tn i s.heap->J.go i H ->
  wpAny (model X.prog X.w) A (pyNext (.ref it)) (λ r s1=>∃ u x H',r=some u/\Inv X pins σ H' s1/\RelV x u/\J.yld i H x H'/\tn (i+1) s1.heap/\(∀ b,s.heap.objs.size<=b\/H b≠none\/H' b=none)/\∀ b o,b∉fp->s.heap.get? b=some o->s1.heap.get? b=some o) E s
 done:∀ (A:Around) (i:Nat) (pins:List (Addr×Obj)) (s:Shared) (σ:L2.St) (H:Hp) (E:Value->Shared->Prop),A.handled=none->Inv X pins σ H s->(∀ b∈fp,Y_6 X pins H b)->tn i s.heap->J.stop i H ->
  wpAny (model X.prog X.w) A (pyNext (.ref it)) (λ r s1=>r=none/\Inv X pins σ H s1/\∀ b o,b∉fp->s.heap.get? b=some o->s1.heap.get? b=some o) E s
end Fx
namespace L2
open PySem PySem.Spec PyProof.Rows
end L2
namespace Fx
open PySem PySem.Spec PyProof.Rows L2
noncomputable def SqB (T:Bool) (K:Frag) (H:Hp) (a:Addr) (xs:List V):Prop:=if T=true then SqT K H a xs else SqL K H a xs
noncomputable def IterB (T:Bool) (h:Heap) (i a:Addr) (k:Nat):Prop:=if T=true then IsTupIter h i a k else h.IsListIter i a k
theorem SqB.inj {T:Bool}{X:Cx}{pins:List (Addr×Obj)}{σ:L2.St}{H:Hp}{s:Shared}{a:Addr}{xs ys:List V} (I:Inv X pins σ H s) (h:SqB T X.K H a xs) (h':SqB T X.K H a ys):xs=ys:=by
 cases T with
 |true=>exact I.tuple_inj h h'
 |false=>exact I.list_inj h h'
theorem SqB.same {T:Bool}{K:Frag}{H H':Hp}{a:Addr}{xs:List V} (s:Same H H') (h:SqB T K H a xs):SqB T K H' a xs:=by
 cases T with
 |true=>exact Same.seqT s h
 |false=>exact Same.seq s h
theorem IterB.at {T:Bool}{h h':Heap}{i a:Addr}{k:Nat} (x:IterB T h i a k) (q:∀ o,h.get? i=some o->h'.get? i=some o):IterB T h' i a k:=by
 cases T with
 |true=>obtain⟨o,e,r⟩:=x;exact⟨o,q o e,r⟩
 |false=>exact Heap.IsListIter.at x q
theorem IterB.there {T:Bool}{h:Heap}{i a:Addr}{k:Nat} (x:IterB T h i a k):∃ o vs,h.get? i=some o/\o.data=.fields vs:=by
 cases T with
 |true=>obtain⟨o,e,_,d⟩:=x;exact⟨o,_,e,d⟩
 |false=>obtain⟨o,e,_,d⟩:=x;exact⟨o,_,e,d⟩
structure Zp (z TI TO i1 i2 a b:Addr):Prop where
 ap:Za z TI TO i1 i2 [i1,a] [i2,b]
 n1:a≠i1
 n2:b≠i2
noncomputable def tZ (T:Bool) (z TI TO i1 i2 a b:Addr) (i:Nat) (O:Value) (Y:Bool) (h:Heap):Prop :=
 h.get? z=some (zO O Y TI TO)/\IsPair h TI (.ref i1) (.ref i2)/\(∃ u v,IsPair h TO u v)/\IterB T h i1 a i/\IterB T h i2 b i
theorem tZ.keep {T:Bool}{z TI TO i1 i2 a b:Addr}{i:Nat}{O:Value}{Y:Bool}{h h':Heap} (x:tZ T z TI TO i1 i2 a b i O Y h) (k:∀ c∈[z,TI,TO,i1,i2],∀ o,h.get? c=some o->h'.get? c=some o):tZ T z TI TO i1 i2 a b i O Y h':=by
 obtain⟨x1,x2,⟨u,v,Z⟩,x4,x5⟩:=x;exact⟨k z (by simp) _ x1,k TI (by simp) _ x2,⟨u,v,k TO (by simp) _ Z⟩,x4.at λ o e=>k i1 (by simp) o e,x5.at λ o e=>k i2 (by simp) o e⟩
section
variable {X:Cx}{z TI TO i1 i2 a b:Addr}{T:Bool}
noncomputable def tC (T:Bool) (z TI TO i1 i2 a b:Addr) (i:Nat) (h:Heap):Prop:=∃ O Z,tZ T z TI TO i1 i2 a b i O Z h/\(O=.none\/∃ (Y:Addr) (u v:Value),O=rawInt Y/\IsPair h Y u v)
end
section
variable {X:Cx}{pos:Pos}{e:Expr}{F:FE}
theorem aB2 {α O:Type}{f:α->Option O}{g:α->O}:∀ l:List α,(∀ k∈l,f k=some (g k))->l.filterMap f=l.map g
 |[],_=>rfl
 |k::r,h=>by rw[List.filterMap_cons,h k List.mem_cons_self,List.map_cons,aB2 r λ x Y=>h x (List.mem_cons_of_mem _ Y)]
theorem as1 (O:List Value):slicePick O.toArray none none (some (-1))=O.reverse.toArray:=by
 unfold slicePick
 have b:sliceBounds none none (some (-1)) O.toArray.size=((O.length:Int)-1,-1,-1):=by
  unfold sliceBounds;simp
 rw[b]
 have r:sliceRange ((O.length:Int)-1) (-1) (-1)=(List.range O.length).map λ k=>O.length-1-k:=by
  unfold sliceRange
  have c:(if (-1:Int) > 0 then (if (O.length:Int)-1 < -1 then (-1-((O.length:Int)-1)+-1-1) / -1 else 0) else (if (O.length:Int)-1 > -1 then ((O.length:Int)-1 - -1 - -1-1) / (- -1) else 0)).toNat=O.length:=by
   rw[if_neg (by decide)]
   by_cases h:(O.length:Int)-1 > -1
   ·rw[if_pos h,show (- -1:Int)=1 by decide,Int.ediv_one];omega
   ·rw[if_neg h];omega
  simp only[c];refine List.map_congr_left λ k Y=>?_
  have:=List.mem_range.mp Y;omega
 show ((sliceRange ((O.length:Int)-1) (-1) (-1)).filterMap (O.toArray[·]?)).toArray=_;rw[r,List.filterMap_map]
 congr 1
 have e:((List.range O.length).filterMap λ k=>O.toArray[O.length-1-k]?)=(List.range O.length).map λ k=>O.getD (O.length-1-k) Value.none:=by
  refine aB2 _ λ k Y=>?_
  have:=List.mem_range.mp Y;rw[List.getElem?_toArray,List.getElem?_eq_getElem (by omega)]
  simp[show O.length-1-k<O.length by omega]
 refine Eq.trans ?_ (e.trans ?_)
 ·rfl
 ·refine List.ext_getElem (by simp) λ i h1 h2=>?_
  have hi:i<O.length:=by simpa using h1
  rw[List.getElem_map,List.getElem_range,List.getElem_reverse];simp[show O.length-1-i<O.length by omega]
theorem aZ3 {te:TE}{p2 p3 p4:Pos}{k:Nat} (he:PE X e te):PE X (.Subscript e (.Slice none none (some (.UnaryOp .USub (.Constant (.int 1) k p3) p4)) p2) pos) (λ σ H Q=>te σ H λ x H1=>∃ a xs,x=.ref a/\SqL X.K H1 a xs/\∀ p,H1 p=none->Q (.ref p) (upd H1 p (.lst xs.reverse))):=by
 intro pins s σ H Q I h;refine Subscript_ (thn (he pins s σ H _ I h) λ v s1 O=>?_)
 obtain⟨x,H1,I1,r1,a,xs,ex,sq,q⟩:=O;subst ex;cases r1;refine wpAny_Slice ?_;rw[evalPart_none];refine qc (qc ?_);rw[evalPart_some];refine thn (aZ2 (X:=X) ay1 (V_2 (i:=1) (j:=k) (pos:=p3)) (pos:=p4) pins s1 σ H1 (λ y H'=>y=.int (-1)/\H'=H1) I1 ⟨1,rfl,rfl,rfl⟩) λ st Y O=>?_
 obtain⟨y,H2,I2,ry,ey,eH⟩:=O;subst ey eH;obtain⟨t,rfl⟩:=ry;have Z:Inv X pins σ H2 {Y with heap:=Y.heap.push {cls:=.type "slice",data:=.fields #[.none,.none,.int (-1) t]}}:=I2.kept (t':=Y.toks) λ b ob q=>qd _ q
 obtain⟨ab,rv,ht,hz⟩:=Z.list sq;have aa:=rv.length;show wpAny (model X.prog X.w) X.A (subscriptTail e (.Slice none none (some (.UnaryOp .USub (.Constant (.int 1) k p3) p4)) p2) (.ref a) (.ref Y.heap.objs.size)) (EP X pins σ Q) X.xe {Y with heap:=Y.heap.push {cls:=.type "slice",data:=.fields #[.none,.none,.int (-1) t]}}
 refine tail_any (ops:=[.ref a,.ref Y.heap.objs.size]) ht.isList.typeIs slot_list_getitem.lookup ?_ (by with_unfolding_all rfl)
 refine wpAny_getItem_list_slice ht.isList (Heap.IsSliceOf.new ..) .none .none (.int (-1) t) (by simp) ?_ (by rw[List.size_toArray] <;> omega)
 rw[as1];refine⟨.ref _,_,Z.laid (t':=Y.toks) (o:=.lst xs.reverse) (λ b ob q=>qd _ q) (qj _) ?_,rfl,q _ (Z.hok.fresh (qj _))⟩
 exact⟨by rw[List.length_reverse];exact hz,_,0,Vals.reverse rv,qk _ rfl⟩
theorem U_9 {K:Frag}{H:Hp}:∀ {ds:List D}{vs:List V},Reps K H ds vs->Reps K H ds.reverse vs.reverse
 |[],vs,r=>by unfold Reps at r;subst r;exact Reps.nil_
 |d::ds,vs,r=>by
  unfold Reps at r;obtain⟨v,Z,rfl,O,Y⟩:=r;rw[List.reverse_cons,List.reverse_cons];exact (U_9 Y).app (Reps.one O)
theorem by2 {p2 p3 p4:Pos}{k:Nat} (he:XE X e F):XE X (.Subscript e (.Slice none none (some (.UnaryOp .USub (.Constant (.int 1) k p3) p4)) p2) pos) (e1 bk4 F):=PE.wk (aZ3 he) λ σ H Q O=>by
 obtain⟨c,H0,ρ,d,Z,R,f,q⟩:=O;unfold e1 at f;obtain⟨⟨x,aa⟩,h1,f⟩:=a_1 f;obtain⟨d',h2,f⟩:=a_1 f;have f':some (d',aa)=some (d,Z):=f;cases f';cases x with
 |lst xs =>
  cases h2;refine⟨c,H0,ρ,_,_,R,h1,λ v H1 Hh s1 Y r1=>?_⟩
  unfold Rep at r1;obtain⟨a,ws,rfl,sq,t⟩:=r1;refine⟨a,ws,rfl,Same.seq Y.same sq,λ p hp=>?_⟩
  have S:=Step.alloc (o:=.lst ws.reverse) Y.same hp;refine q _ _ _ (s1.trans S.s0) (Y.after S) ?_;unfold Rep;exact⟨p,_,rfl,.inl (.inl a_2),Reps.mono S.s0 _ (U_9 t)⟩
 |_=>cases h2
end
end Fx
namespace L2
open PySem PySem.Spec PyProof.Rows
end L2
namespace Fx
open PySem PySem.Spec PyProof.Rows L2
structure ScB2 (N:List Str) (sc scope:Scope) (x x2:Str) (frees:List Str) (js:List Nat):Prop where
 B:ScB N sc scope x frees js
 own2:scope.names.lookup x2=some .local
 nd2:(x::x2::frees).Nodup
inductive KEnt (w:World) (K:Frag):List DictEntry->List (Str×D)->Prop
 |nil:KEnt w K [] []
 |cons {k:Str}{d:D}{t:Tok}{v:Value}{es:List DictEntry}{kds:List (Str×D)}:KV1 K d v->KEnt w K es kds->KEnt w K (⟨hashStr w k,.str k t,v⟩::es) ((k,d)::kds)
theorem KEnt.all {w:World}{K:Frag}:∀ {es:List DictEntry}{kds:List (Str×D)},KEnt w K es kds->∃ vs:List (Key×Value),vs.map (·.1)=kds.map (λ q=>Sum.inr q.1) /\
  (∀ (P:Program),PySem.Pairs (c_0 P w) es vs)/\(∀ (P:Program),∀ e∈es,∃ k,(c_0 P w).is k e.key=true/\e.hash=(c_0 P w).hash k) /\
  ∀ k d,r_5 k kds=some d->∃ u,valueAt vs (.inr k)=some u/\KV1 K d u
 |_,_,.nil=>⟨[],rfl,λ _=>.nil,λ _ e h=>(by cases h),λ k d h=>(by cases h)⟩
 |_,_,.cons (k:=k) (d:=d) (t:=t) (v:=v) (es:=es) (kds:=kds) h r=>by
  obtain⟨vs,e1,e2,e3,e4⟩:=r.all;refine⟨(.inr k,v)::vs,by rw[List.map_cons,List.map_cons,e1],λ P=>.cons (r_3 P w k t) rfl (e2 P),λ P e Y=>?_,λ Z d' O=>?_⟩
  ·rcases qt Y with rfl | Y
   ·exact⟨.inr k,r_3 P w k t,rfl⟩
   ·exact e3 P e Y
  ·unfold r_5 at O
   unfold valueAt;rw[List.find?_cons]
   by_cases z:k=Z
   ·subst z
    rw[if_pos rfl] at O;cases O;exact⟨v,by simp,h⟩
   ·rw[if_neg z] at O
    obtain⟨u,e5,e6⟩:=e4 Z d' O;refine⟨u,?_,e6⟩;rw[decide_eq_false (λ y=>z (Sum.inr.inj y))]
    exact e5
theorem vals_ints:∀ {us:List Value}{O:List Int},IntsAre us O->Vals (O.map V.int) us
 |_,_,.nil=>.nil
 |_,_,.cons n t h=>.cons ⟨t,rfl⟩ (vals_ints h)
structure YE (X:Cx) (e:Expr) (F:FE):Prop where
 go:XE X e F
structure YA (X:Cx) (es:List Expr) (F:FA):Prop where
 go:XA X es F
structure YS (X:Cx) (st:Stmt) (F:FS):Prop where
 go:XS X st F
structure YSs (X:Cx) (st:List Stmt) (F:FS):Prop where
 go:XSs X st F
end Fx
namespace L2
open PySem PySem.Spec PyProof.Rows
end L2
namespace Fx
open PySem PySem.Spec PyProof.Rows L2
end Fx
namespace L2
open PySem PySem.Spec PyProof.Rows
set_option maxRecDepth 8000 in
theorem au8 (l:Addr) (xs:Array Value) (n:Nat) (b:Addr) (ys:Array Value) (m:Nat) (Y:Array (Option Value))
  (h0:¬(!xs.isEmpty&&Builtin.List.listTooLong (xs.size+ys.size))=true) (h1:xs.size<=sizeLine) (h2:xs.size+ys.size<=sizeLine+1) :
  Meets (Builtin.«list.extend» ⟨[.ref l,.ref b],[]⟩) (λ _ R s=>s.heap.get? l=some {cls:=.type "list",data:=.seq xs n} ∧ s.heap.get? b=some {cls:=.type "list",dict:=none,data:=.seq ys m,slots:=Y} ∧
   R (.ok (.ret Value.none)) {s with heap:=s.heap.update l (Obj.mapSeq λ x=>x++ys),toks:=s.toks}) :=
 .of_wp λ prog w A R s h=>by
  obtain⟨hp,g,d,tk,os⟩:=s;obtain⟨O,Z,h⟩:=h;have t1:=AutoSeq1.sub_list_tuple;have t2:=AutoSeq1.sub_list_list;have hz:(xs++ys).size<=sizeLine+1:=Array.size_append▸h2
  wp_walk using (wpAny_updateSeq O rfl (hz:=h1) (_hz':=hz)),wpAny_loadPart' O,wpAny_loadPart' Z
  exact⟨_,rfl,h⟩
section
variable {X:Cx}
noncomputable def bp7 (K:Frag):V->List V->Hp->VK->Prop:=λ x vs H Q=>∃ l b xs zs,x=.ref l/\vs=[.ref b]/\H l=some (.lst xs)/\SqL K H b zs/\xs.length+zs.length<=sizeLine/\Q .non (upd H l (.lst (xs++zs)))
theorem aL5:MtM X "list.extend" (bp7 X.K):=by
 intro pins s σ H x vs v us Q I rx rv h;obtain⟨l,b,xs,zs,rfl,rfl,Z,hB,hz,q⟩:=h;cases rx;obtain⟨u,rfl,ru⟩:=rv.one;cases ru;obtain⟨_,O,n,r,hl,e⟩:=I.lstM Z;obtain⟨ys,Y,⟨⟨cl,dd,da,sl⟩,m,e2,hc,hd,hs⟩,_⟩:=I.list hB;cases hc;cases hd;cases hs;have aa:=Y.length;have big:O.toArray.size+ys.toArray.size<=sizeLine:=by rw[List.size_toArray,List.size_toArray];omega
 refine call_meets F.slot_list_extend ⟨_,e,rfl⟩ F.entry_list_extend (F.args_list_extend_2 _ _)
  (au8 l O.toArray n b ys.toArray m sl (by rw[at3 big,Bool.and_false];exact Bool.false_ne_true) (by rw[List.size_toArray];omega) (by omega)) ⟨e,e2,?_⟩
 refine⟨.non,_,I.lset (its':=O++ys) Z e (by simp) (r.append Y) ?_,rfl,q⟩
 rw[List.length_append];omega
end
end L2
namespace Fx
open PySem PySem.Spec PyProof.Rows L2
section
variable {X:Cx}{pos:Pos}{e:Expr}{F:FE}
theorem bl9 (i:Nat) {x:Str}{p1 p2 Z:Pos} (he:XE X e F) (hN:X.N[i]?=some x:=by rfl) (hv:Vis X.env.scope x:=by first | exact Or.inl rfl | exact Or.inr (Or.inl rfl) | exact Or.inr (Or.inr rfl)) (hd:(x==("__debug__":Str))=false:=by decide)
  (ae:(x==("__classdict__":Str))=false:=by decide) (Y:attributeBase (.Name x p1) "extend" X.env (eval (.Name x p1) X.env)=eval (.Name x p1) X.env:=by rfl)
  (ac:((backTo Z (starEach [e] X.env)).all (λ x=>!x.1)&&(backToKw Z (keywordEach [] X.env)).all (λ x=>x.1.isSome)&&decide ([e].length+([]:List Keyword).length+(if ([]:List Keyword).isEmpty then 0 else 1)<30))=true:=by rfl)
  (O:(p2.endLine==Z.line)=true:=by rfl) (ab:starEach [e] X.env=(false,eval e X.env)::starEach [] X.env:=by rfl) (ag:(backTo Z (starEach [] X.env)).any (·.1)=false:=by rfl)
  (hs:swapsWith (.Call (.Attribute (.Name x p1) "extend" p2) [e] [] Z) none pos.line X.env=pure false:=by rfl) :
  XS X (.Expr (.Call (.Attribute (.Name x p1) "extend" p2) [e] [] Z) pos) (bi7 i F) :=
 PS.wk (F_3 (at0 PySem.F.plainAttrs_list PySem.F.slot_list_extend PySem.F.type_list_extend aL5 (m_7 hN hv hd ae) (f_5 he o_1 ab) Y ac O ab ag) hs) λ Dn σ H aa=>by
  obtain⟨c,H0,ρ,r,R,f,q⟩:=aa;unfold bi7 ar4 at f;obtain⟨ah,h0,f⟩:=a_1 f;unfold ar3 at f;obtain⟨⟨d,ad⟩,h1,f⟩:=a_1 f;unfold ar2 at f;obtain⟨xs,h2,f⟩:=a_1 f;unfold ar1 at f;obtain⟨ds,h3,f⟩:=a_1 f;dsimp only at h2 h3 f;obtain⟨hl,f'⟩:=ifs f;cases f';obtain⟨a,x1,_,_,af,y1,_⟩:=R.ow i _ _ (D_2 h0);refine⟨.ref a,x1,.inl ⟨rfl,af,SqL.of y1⟩,c,H0,ρ,d,ad,R,h1,λ v H1 Hh s1 R1 rv=>?_⟩
  cases d with
  |lst zs =>
   cases h2;unfold Rep at rv;obtain⟨b,ws,rfl,sb,rz⟩:=rv;obtain⟨a',x2,_,_,vs,y2,z2⟩:=R1.ow i _ _ (D_2 h3);rw[x1] at x2;cases x2;have l1:=z2.length;have l2:=rz.length;refine⟨a,b,vs,ws,rfl,rfl,y2,Same.seq R1.same sb,?_,?_⟩
   ·have:(1000:Nat)<=sizeLine:=by decide
    omega
   ·exact q σ _ _ s1 (R1.mutOwn (o':=.lst (ds++xs)) (u:=.lst (vs++ws)) (D_2 h3) x1 ⟨_,a_2,z2.app rz⟩)
  |_=>cases h2
theorem bb0:A_8 X .Add av4:=⟨_,aK7,λ c H0 H ρ σ x y d vx vy Q R Y r2 e q=>by
 cases x with
 |tup O =>
  cases y with
  |tup bs =>
   obtain⟨⟨hl,ha,hb⟩,rfl⟩:=ifs (show (if O.length+bs.length<=1000/\0<O.length/\0<bs.length then some (D.tup (O++bs)) else none)=some d from e);unfold Rep at Y r2;obtain⟨a,xs,rfl,s1,t1⟩:=Y;obtain⟨b,ys,rfl,s2,Z⟩:=r2;have big:(1000:Nat)<=sizeLine:=by decide
   have l1:=t1.length;have l2:=Z.length;refine⟨a,b,xs,ys,rfl,rfl,Same.seqT R.same s1,Same.seqT R.same s2,λ z=>?_,by omega,λ z=>?_,λ _ p hp=>?_⟩
   ·rw[z,List.length_nil] at l1;omega
   ·rw[z,List.length_nil] at l2;omega
   ·have S:=Step.alloc (o:=.tup (xs++ys)) R.same hp
    refine q _ _ _ S.s0 (R.after S) ?_;unfold Rep;exact⟨p,_,rfl,.inl (.inl a_2),Reps.mono S.s0 _ (t1.app Z)⟩
  |_=>cases e
 |_=>cases e⟩
theorem aU7 {p:Pos} (hm:X.mg "list"=none) (he:XE X e F) (hg:Gl X "list":=by rfl) (Y:starEach [e] X.env=(false,eval e X.env)::starEach [] X.env:=by rfl) (aa:(backTo pos (starEach [] X.env)).any (·.1)=false:=by rfl) :
  XO' X (.Call (.Name "list" p) [e] [] pos) (oFr (eF ac0 (aC F aN))) :=
 PE.wk (x_4 u_8 hg hm PyProof.Rows.boot_list (f_5 he o_1 Y) (by decide) (by decide) Y aa) λ σ H Q O=>by
  obtain⟨c,H0,ρ,ds,af,R,f,q⟩:=O;unfold oFr lsA at f;obtain⟨⟨d,ac⟩,f,f2⟩:=a_1 f;unfold eF at f;obtain⟨⟨as,ae⟩,h1,f⟩:=a_1 f;obtain⟨d',h2,f⟩:=a_1 f;cases f;unfold aC at h1;obtain⟨⟨x,ad⟩,h3,h1⟩:=a_1 h1;obtain⟨⟨ys,ab⟩,h4,h1⟩:=a_1 h1;cases h1;cases h4;refine⟨c,H0,ρ,x,_,R,h3,λ v H1 Hh s1 R1 Z=>?_⟩
  dsimp only at h2 f2;cases x with
  |lst xs =>
   cases h2;cases f2;unfold Rep at Z;obtain⟨a,ws,rfl,s,t⟩:=Z;exact⟨a,ws,rfl,.inl (Same.seq R1.same s),λ l hl=>q l ws H1 Hh s1 R1 hl t⟩
  |tup xs =>
   cases h2;cases f2;unfold Rep at Z;obtain⟨a,ws,rfl,s,t⟩:=Z;exact⟨a,ws,rfl,.inr (Same.seqT R1.same s),λ l hl=>q l ws H1 Hh s1 R1 hl t⟩
  |_=>cases h2
end
section
variable {X:Cx}{scope sc:Scope}{x:Str}{frees:List Str}{js:List Nat}{px pos p pos':Pos}{elt a:Expr}{ifs:List Expr}{I F:FE}{T:FT}
theorem bl5 (hm:X.mg "range"=none) (hc:X.calm=true) (ab:X.env.scope=sc) (B:ScB X.N sc scope x frees js) (ha:XE X a F) (ht:∀ s H C Z,XTs (cxB X (x::frees) scope s H C Z) ifs T) (he:∀ s H C Z,XE (cxB X (x::frees) scope s H C Z) elt I)
  (aa:Gl X "range":=by rfl) (Y:starEach [a] X.env=[(false,eval a X.env)]:=by rfl)
  (hs:∀ v,foldedSetIterable (.Call (.Name "range" p) [a] [] pos') X.env v=pure v:=by intro _;rfl):XO' X (.ListComp elt [⟨.Name x px,.Call (.Name "range" p) [a] [] pos',ifs,0⟩] scope pos) (oFr (eLR js (P_8 F) T I)) :=
 PE.wk (aK0 (tt:=tTt X.K T) (te:=tE X.K I) hc ab B (x_3 aa hm (f_5 ha o_1 Y) Y) ht he hs) λ σ H Q O=>by
  obtain⟨c,H0,ρ,ds,ae,R,f,q⟩:=O;unfold oFr lsA at f;obtain⟨⟨d,ad⟩,f,f2⟩:=a_1 f;obtain⟨xs,fr,ys,h1,h3,h4,hz,rfl⟩:=ak7 f;cases f2;unfold P_8 at h1;obtain⟨⟨d1,ac⟩,g1,h1⟩:=a_1 h1;obtain⟨i,g3,h1⟩:=a_1 h1;dsimp only at g3 h1;obtain⟨hj,h1⟩:=Fx.ifs h1;cases h1;refine⟨c,H0,ρ,d1,_,R,g1,λ v H1 Hh s1 R1 r1=>?_⟩
  cases d1 with
  |int k =>
   have e:k=i:=qi g3;subst e;unfold Rep at r1;subst r1;exact⟨k,rfl,hj.1,hj.2,at7 R1 h3 h4 hz (t_0 0 k.toNat) λ vs H3 Hh3 s3 R3 r3=>λ p hp=>q p vs H3 Hh3 (s1.trans s3) R3 hp r3⟩
  |_=>cases g3
end
noncomputable def rH:HO->Bool
 |.lst (.ref _::_)=>true
 |.frz _ (.lst (.ref _::_))=>true
 |_=>false
noncomputable def nrH (H:Hp):Hp:=λ b=>match H b with
 |some u=>if rH u=true then none else some u
 |none=>none
theorem u_5 {H:Hp}{b:Addr}{u:HO} (h:nrH H b=some u):H b=some u/\rH u=false:=by
 unfold nrH at h
 split at h
 ·rename_i v e
  by_cases z:rH v=true
  ·rw[if_pos z] at h;cases h
  ·rw[if_neg z] at h;cases h;exact⟨e,Bool.eq_false_iff.mpr z⟩
 ·cases h
theorem V_6 {H:Hp}{b:Addr}{u:HO} (h:H b=some u) (z:rH u=false):nrH H b=some u:=by
 unfold nrH;rw[h];exact if_neg (by rw[z];exact Bool.false_ne_true)
theorem bb5 {H:Hp}{b:Addr}{u:HO} (h:H b=some u) (z:rH u=true):nrH H b=none:=by
 unfold nrH;rw[h];exact if_pos z
section
variable {K:Frag}{H H':Hp}
theorem Rep.fl {d:D}{v:V} (h:Fx.fl d=true) (r:Rep K H d v):Rep K H' d v:=by
 cases d with
 |non=>unfold Rep at r ⊢;exact r
 |bl _=>unfold Rep at r ⊢;exact r
 |int _=>unfold Rep at r ⊢;exact r
 |str _=>unfold Rep at r ⊢;exact r
 |_=>cases h
theorem be5 {d:D}{q:Addr} (h:Fx.fl d=true) (r:Rep K H d (.ref q)):False:=by
 cases d with
 |non=>unfold Rep at r;cases r
 |bl _=>unfold Rep at r;cases r
 |int _=>unfold Rep at r;cases r
 |str _=>unfold Rep at r;cases r
 |_=>cases h
theorem aM4 {ds:List D}{vs:List V} (h:hdF ds=true) (r:Reps K H ds vs):rH (.lst vs)=false:=by
 cases ds with
 |nil=>unfold Reps at r;subst r;rfl
 |cons d ds =>
  unfold Reps at r;obtain⟨v,t,rfl,a,_⟩:=r;cases v with
  |ref q=>exact (be5 h a).elim
  |_=>rfl
theorem y_7 {ds:List D}{vs:List V} (h:hdT ds=true) (r:Reps K H ds vs):rH (.lst vs)=true:=by
 cases ds with
 |nil=>cases h
 |cons d ds =>
  unfold Reps at r;obtain⟨v,t,rfl,a,_⟩:=r;cases d with
  |tup xs=>unfold Rep at a;obtain⟨q,_,rfl,_⟩:=a;rfl
  |_=>cases h
theorem rH_frz {vs:List V}{o:Obj}:rH (.frz o (.lst vs))=rH (.lst vs):=by
 cases vs with
 |nil=>rfl
 |cons v r=>cases v <;> rfl
mutual
theorem Rep.nrH:∀ (d:D) {v:V},nr d=true->Rep K H d v->Rep K (nrH H) d v
 |.non,_,_,h=>by unfold Rep at h ⊢;exact h
 |.bl _,_,_,h=>by unfold Rep at h ⊢;exact h
 |.int _,_,_,h=>by unfold Rep at h ⊢;exact h
 |.str _,_,_,h=>by unfold Rep at h ⊢;exact h
 |.tup ds,_,n,h=>by
  unfold Rep at h ⊢;obtain⟨b,vs,e,s,r⟩:=h;refine⟨b,vs,e,?_,Reps.nrH ds n r⟩
  rcases s with (s | ⟨o,s⟩) | s
  ·exact .inl (.inl (V_6 s rfl))
  ·exact .inl (.inr ⟨o,V_6 s rfl⟩)
  ·exact .inr s
 |.lst ds,_,n,h=>by
  rw[bb3,Bool.and_eq_true] at n;unfold Rep at h ⊢;obtain⟨b,vs,e,s,r⟩:=h;have z:=aM4 n.1 r;refine⟨b,vs,e,?_,Reps.nrH ds n.2 r⟩
  rcases s with (s | ⟨o,s⟩) | s
  ·exact .inl (.inl (V_6 s z))
  ·exact .inl (.inr ⟨o,V_6 s (rH_frz.trans z)⟩)
  ·exact .inr s
 |.opq,_,n,_=>by cases n
 |.dct _ _,_,n,_=>by cases n
theorem Reps.nrH:∀ (ds:List D) {vs:List V},nrs ds=true->Reps K H ds vs->Reps K (nrH H) ds vs
 |[],_,_,h=>by unfold Reps at h ⊢;exact h
 |d::r,_,n,h=>by
  rw[r_9,Bool.and_eq_true] at n;unfold Reps at h ⊢;obtain⟨v,O,e,h1,h2⟩:=h;exact⟨v,O,e,Rep.nrH d n.1 h1,Reps.nrH r n.2 h2⟩
end
theorem aL1 {a:Addr}{u:HO} (O:H a=some u) (z:rH u=true):Same (nrH H) (lss H a):=λ b x h=>by
 obtain⟨e,y⟩:=u_5 h;rw[u_6 λ q=>by rw[q,O] at e;cases e;rw[z] at y;cases y]
 exact e
end
section
variable {X:Cx}{pos:Pos}{e:Expr}{F:FE}
theorem xhr (i:Nat) (he:XE X e F):XE X e (N_4 i F):=PE.wk he λ σ H Q O=>by
 obtain⟨c,H0,ρ,d,Z,R,f,q⟩:=O;unfold N_4 z_2 at f;obtain⟨ds,h1,f⟩:=a_1 f
 by_cases Y:F_7 i ρ=true/\hdT ds=true
 ·rw[if_pos Y] at f
  unfold t_4 at f;obtain⟨⟨d1,aa⟩,h2,f2⟩:=a_1 f
  by_cases hd:nr d1=true/\aa=ρ.set i (.im (.lst ds))
  ·have f4:some (d1,ρ)=some (d,Z):=(if_pos hd).symm.trans f2
   obtain⟨hn,hd⟩:=hd;cases f4;subst hd;have z:=af7 h1;obtain⟨a,vs,x,y,hE,_,r,_,R1⟩:=R.asList z;refine⟨c,_,_,d,_,R1,h2,λ v H0' H' sm R' rv=>?_⟩
   obtain⟨s1,R2⟩:=R.backL z Y.1 x y hE r sm R';exact q v _ _ s1 R2 (Rep.mono (aL1 (sm a _ a_2) (y_7 Y.2 r)) d (Rep.nrH d hn rv))
  ·have f4:=(if_neg hd).symm.trans f2
   cases f4
 ·rw[if_neg Y] at f
  cases f
end
noncomputable def NoL (K:Frag):Prop:=∀ a o,K.lookup a=some o → o.cls≠.type "list"
theorem aV0 {H:Hp}{a:Addr}{u:HO} (h:H a=some u):upd H a u=H:=by
 funext b
 by_cases z:b=a
 ·rw[z,a_2,h]
 ·rw[a_3 z]
section
variable {X:Cx}{pins:List (Addr×Obj)}{σ:L2.St}{H:Hp}{s:Shared}{a:Addr}
theorem ad5 (I:Inv X pins σ H s) (e:H a=none):ap3 X a:=by
 refine⟨λ xs z=>?_,λ o u z=>?_,λ ps z=>?_⟩
 ·have q:=I.base.tups a xs z
  rw[e] at q;cases q
 ·have q:=I.base.frzs a o u z
  rw[e] at q;cases q
 ·obtain⟨m,q⟩:=I.base.tbls a ps z
  rw[e] at q;cases q
theorem aV5 {ob:Obj}{us:List V} (I:Inv X pins σ H s) (e:H a=some (.frz ob (.lst us))) (Y:ap3 X a):Inv X pins σ (upd H a (.lst us)) s:=by
 have O:∀ {b:Addr},H b=none->b≠a:=λ z h=>by rw[h,e] at z;cases z
 have un:=I.base;refine⟨I.ok,I.os,I.bare,⟨un.keep,un.slot,λ b o q n hx=>?_,un.there,λ b xs q=>?_,λ b o u q=>?_,λ b ps q=>?_⟩,I.loc,I.cell,?_,λ x c q=>?_,λ p hp=>?_,λ b u q=>?_,I.len⟩
 ·have z:=un.free b o q n hx
  rw[a_3 (O z)];exact z
 ·rw[a_3 λ h=>Y.1 xs (by rw[<- h];exact q)];exact un.tups b xs q
 ·rw[a_3 λ h=>Y.2.1 o u (by rw[<- h];exact q)];exact un.frzs b o u q
 ·rw[a_3 λ h=>Y.2.2 ps (by rw[<- h];exact q)];exact un.tbls b ps q
 ·rw[a_3 (O I.free)];exact I.free
 ·have z:=I.freeC x c q
  rw[a_3 (O z)];exact z
 ·obtain⟨h1,h2,h3⟩:=I.pin p hp
  exact⟨h1,by rw[a_3 (O h2)];exact h2,h3⟩
 ·by_cases Z:b=a
  ·subst Z
   rw[a_2] at q;cases q;obtain⟨_,w⟩:=(show ObjOk X.prog X.w H s.heap b (.frz ob (.lst us)) from I.hok b _ e);exact w
  ·rw[a_3 Z] at q
   refine (I.hok b u q).stay (λ _ _ _ r=>r) (λ c r=>?_) λ c xs r=>?_
   ·rw[a_3 λ h=>by rw[h,e] at r;cases r];exact r
   ·rw[a_3 λ h=>by rw[h,e] at r;cases r];exact r
end
section
variable {X:Cx}{k:Nat}{f:Addr}{fd:FuncData}{ps:List Str}{sp:Sp}{x:Str}{p pos:Pos}{e:Expr}{es:List Expr}{t:TA}
noncomputable def bJ8 (H1:Hp) (Q:VK):VK:=λ v H2=>Q v H2\/∃ a ob us,v=.ref a/\H1 a=none/\H2 a=some (.frz ob (.lst us))/\Q v (upd H2 a (.lst us))
theorem as8 (F:FnOk X.prog X.w X.K X.mg X.base CX0 k f fd ps sp) (hr:Room k X.A) (hg:Gl X x) (hm:X.mg x=some (.ref f)) (hk:keepIn X.K (.ref f)=true) (hb:Binds X.K fd ps [])
  (ha:PA X (e::es) t) (Z:(x==("__debug__":Str))=false) (he:starEach (e::es) X.env=(false,eval e X.env)::starEach es X.env) (Y:(backTo pos (starEach es X.env)).any (·.1)=false) :
  PE X (.Call (.Name x p) (e::es) [] pos) (λ σ H Q=>t σ H λ vs H1=>sp (vs++[]) H1 (bJ8 H1 Q) E0):=by
 intro pins s σ H Q I h;refine wpAny_Call_Name_kw (G_8 I hg hm ?_ Z);refine PySem.W.callWith_K (h₀:=X.base) I.ok.mod.kin hk (thn (ha pos pins s σ H _ I h) λ us s1=>ex5 λ vs H1 I1 r q=>⟨I1.kIn,?_⟩) he Y
 refine wpAny_mono (U_5 F hr hb .nil af2 I1 r q) (λ u s2 O=>?_) λ _ _ z=>z
 obtain⟨v,H2,I2,rv,z⟩:=O
 rcases z with z | ⟨a,ob,us,ev,n,e2,z⟩
 ·exact⟨v,H2,I2,rv,z⟩
 ·exact⟨v,_,aV5 I2 e2 (ad5 I1 n),rv,z⟩
end
section
variable {K:Frag}{c:FC}{H1 Hh Hi' H':Hp}{ρ:En}{σ:L2.St}{p r:Addr}{vs us:List V}{ds es:List D}
theorem RS.told (R:RS K c H1 Hh ρ σ) (i:Nat) (Y:Hh p=none) (nds:hdT ds=true) (r1:Reps K H1 ds vs) (S:Step (upd (nrH H1) p (.lst vs)) (upd Hh p (.lst vs)) Hi' H')
  (hr:r=p\/upd Hh p (.lst vs) r=none) (Z:hdT es=true) (ac:nrs es=true) (re:Reps K Hi' es us) (hu:∃ u,Hi' r=some u/\(u=.lst us\/∃ ob,u=.frz ob (.lst us))) :
  ∃ H0n,Same H1 H0n/\RS K c H0n (upd H' r (.lst us)) (ρ.set i (.ow false (.lst es))) (σ.set i (some (.ref r))):=by
 obtain⟨u,er,eu⟩:=hu
 have zu:rH u=true:=by
  rcases eu with rfl | ⟨ob,rfl⟩
  ·exact y_7 Z re
  ·exact rH_frz.trans (y_7 Z re)
 have ae:H1 p=none:=R.same.free Y
 have aa:Hh r=none:=by
  rcases hr with h | h
  ·rw[h];exact Y
  ·by_cases z:r=p
   ·rw[z];exact Y
   ·rw[a_3 z] at h;exact h
 have ab:H1 r=none:=R.same.free aa
 let H0n:Hp:=λ b=>match H1 b with
  |some u=>some u
  |none=>nrH Hi' b
 have c1:∀ {b:Addr}{u:HO},H1 b=some u->H0n b=some u:=λ h=>by show (match H1 _ with | some u=>some u | none=>_)=_;rw[h]
 have c2:∀ {b:Addr},H1 b=none->H0n b=nrH Hi' b:=λ h=>by show (match H1 _ with | some u=>some u | none=>_)=_;rw[h]
 have up:∀ {b:Addr}{u:HO},Hh b=some u->H' b=some u:=λ {b u} h=>S.s b u (by rw[a_3 (a_6 h Y)];exact h)
 have n1:H0n r=none:=by rw[c2 ab];exact bb5 er zu
 have ad:∀ {b:Addr}{u:HO},H0n b=some u->H' b=some u:=λ {b u} h=>by
  cases q:H1 b with
  |some u'=>rw[c1 q] at h;cases h;exact up (R.same _ _ q)
  |none=>rw[c2 q] at h;exact S.s' _ _ (u_5 h).1
 have St:Step H1 Hh H0n (lss (upd H' r (.lst us)) r):=by
  refine⟨λ b u h=>c1 h,λ b u h=>?_,λ b u h=>?_,λ b u h=>?_⟩
  ·have O:b≠r:=λ z=>by rw[z,aa] at h;cases h
   rw[u_6 O,a_3 O];exact up h
  ·have O:b≠r:=λ z=>by rw[z,n1] at h;cases h
   rw[u_6 O,a_3 O];exact ad h
  ·cases q:H1 b with
   |some u'=>rw[c1 q] at h;exact .inl h
   |none =>
    rw[c2 q] at h;obtain⟨g1,g2⟩:=u_5 h
    rcases S.fr b u g1 with h2 | h2
    ·by_cases z:b=p
     ·subst z;rw[a_2] at h2;cases h2
      rw[y_7 nds r1] at g2;cases g2
     ·rw[a_3 z] at h2
      have:=(u_5 h2).1;rw[q] at this;cases this
    ·by_cases z:b=p
     ·rw[z];exact .inr Y
     ·rw[a_3 z] at h2;exact .inr h2
 have sm:Same (nrH Hi') H0n:=λ b u h=>by
  cases q:H1 b with
  |some u' =>
   have e1:=up (R.same _ _ q);have e2:=S.s' _ _ (u_5 h).1;rw[e1] at e2;cases e2;exact c1 q
  |none=>rw[c2 q];exact h
 have e3:upd (lss (upd H' r (.lst us)) r) r (.lst us)=upd H' r (.lst us):=by
  funext b
  by_cases z:b=r
  ·rw[z,a_2,a_2]
  ·rw[a_3 z,u_6 z]
 refine⟨H0n,λ b u h=>c1 h,?_⟩
 have:=(R.after St).setOwn (p:=r) (u:=.lst us) (o:=.lst es) i ah9 ⟨us,a_2,Reps.mono sm _ (Reps.nrH es ac re)⟩;rw[e3] at this;exact this
end
section
variable {X:Cx}{pos:Pos}{e:Expr}{A:FA}
theorem bl4 (i j:Nat) {k:Nat}{x y z:Str}{g:List D->Option D}{p pos' cpos pz:Pos} (hN:X.N.Nodup) (G:DefOk X.prog X.w X.K X.mg X.base k x g) (Z:Room k X.A) (kl:NoL X.K) (ha:XO' X e A)
  (hj:X.N[j]?=some z:=by rfl) (hi:X.N[i]?=some y:=by rfl) (hx:Loc X.env.scope y:=by first | exact Or.inl rfl | exact Or.inr rfl) (hv:Vis X.env.scope z:=by first | exact Or.inl rfl | exact Or.inr (Or.inl rfl) | exact Or.inr (Or.inr rfl)) (hd:(z==("__debug__":Str))=false:=by decide)
  (ac:(z==("__classdict__":Str))=false:=by decide) (hs:swapsWith (.Call (.Name x p) [e,.Name z pz] [] cpos) (some (.Name y pos')) pos.line X.env=pure false:=by rfl) (hf:X.fn y=true ∨ X.env.scope.names.lookup y=some .local:=by first | exact .inl rfl | exact .inr rfl)
  (hg:Gl X x:=by rfl) (ad:(x==("__debug__":Str))=false:=by decide) (he:starEach [e,.Name z pz] X.env=(false,eval e X.env)::starEach [.Name z pz] X.env:=by rfl) (ae:starEach [.Name z pz] X.env=(false,eval (.Name z pz) X.env)::starEach [] X.env:=by rfl)
  (af:(backTo cpos (starEach [.Name z pz] X.env)).any (·.1)=false:=by rfl) :
  XS X (.Assign [.Name y pos'] (.Call (.Name x p) [e,.Name z pz] [] cpos) pos) (ar0 i g A j):=by
 obtain⟨f,fd,ps,Fn,hb,hk,hm⟩:=G.ex;refine PS.wk (K_9 hN hi hx (as8 Fn Z hg hm hk hb (f_5 ha (f_5 (m_7 hj hv hd ac) o_1 ae) he) ad he af) hs hf) λ Dn σ H ab=>?_
 obtain⟨c,H0,ρ,r,R,f,q⟩:=ab;unfold ar0 U_4 at f;obtain⟨⟨ds,aa⟩,h1,f⟩:=a_1 f;unfold U_3 at f;obtain⟨⟨d,ah⟩,h2,f⟩:=a_1 f;dsimp only at h2 f
 by_cases hc:hdT ds=true/\nrs ds=true/\fl d=true
 case neg=>rw[if_neg hc] at f;cases f
 rw[if_pos hc] at f;obtain⟨c1,c2,c3⟩:=hc;unfold U_2 at f;obtain⟨d2,h3,f⟩:=a_1 f;cases d2 with
 |lst es =>
  dsimp only at f;obtain⟨⟨c4,c5⟩,f⟩:=ifs f;cases f
  have ag:aa[j]?=some (.im d):=by
   unfold eV at h2;cases O:aa[j]? with
   |none=>rw[O] at h2;cases h2
   |some sl =>
    rw[O] at h2;cases sl with
    |im d'=>cases h2;rfl
    |_=>cases h2
  refine⟨c,H0,ρ,ds,aa,R,h1,λ p vs H1 Hh s1 R1 hp r1=>?_⟩
  obtain⟨v2,e2,r2⟩:=R1.im j d ag;refine⟨v2,e2,upd (nrH H1) p (.lst vs),[.lst ds,d],.lst es,λ b u hb=>?_,?_,h3,λ v Hi' H' S rv=>?_⟩
  ·by_cases O:b=p
   ·subst O;rw[a_2] at hb ⊢;exact hb
   ·rw[a_3 O] at hb ⊢;exact R1.same _ _ (u_5 hb).1
  ·have n0:nrH H1 p=none:=by
    cases O:nrH H1 p with
    |none=>rfl
    |some u=>have:=R1.same _ _ (u_5 O).1;rw[hp] at this;cases this
   refine Reps.cons ?_ (Reps.one (Rep.fl c3 r2));unfold Rep;exact⟨p,vs,rfl,.inl (.inl a_2),Reps.mono (λ b u hb=>by rw[a_3 (a_6 hb n0)];exact hb) _ (Reps.nrH ds c2 r1)⟩
  ·unfold Rep at rv
   obtain⟨r,us,rfl,Y,re⟩:=rv;have z1:=y_7 c4 re
   have fin:∀ u,Hi' r=some u->(u=.lst us\/∃ ob,u=.frz ob (.lst us))->rH u=true->r=p\/upd Hh p (.lst vs) r=none:=λ u hu _ hz=>by
    rcases S.fr r u hu with h | h
    ·by_cases O:r=p
     ·exact .inl O
     ·rw[a_3 O] at h;rw[(u_5 h).2] at hz;cases hz
    ·exact .inr h
   rcases Y with (Y | ⟨ob,Y⟩) | ⟨o,its,n,k1,k2,_⟩
   ·have Z:=fin _ Y (.inl rfl) z1
    obtain⟨H0n,sm,R2⟩:=R1.told i hp c1 r1 S Z c4 c5 re ⟨_,Y,.inl rfl⟩;rw[aV0 (S.s' _ _ Y)] at R2;exact .inl (q _ H0n _ (s1.trans sm) R2)
   ·have z2:rH (.frz ob (.lst us))=true:=rH_frz.trans z1
    have Z:=fin _ Y (.inr ⟨ob,rfl⟩) z2;obtain⟨H0n,sm,R2⟩:=R1.told i hp c1 r1 S Z c4 c5 re ⟨_,Y,.inr ⟨ob,rfl⟩⟩
    rcases Z with Z | Z
    ·exfalso
     have e1:=S.s' _ _ Y;have e3:=S.s p _ a_2;rw[Z,e3] at e1;cases e1
    ·exact .inr ⟨r,ob,us,rfl,Z,S.s' _ _ Y,q _ H0n _ (s1.trans sm) R2⟩
   ·exact absurd k2 (kl _ _ k1)
 |_=>cases f
end
noncomputable def isL:HO->Bool
 |.lst _=>true
 |.frz _ (.lst _)=>true
 |_=>false
noncomputable def noL (H:Hp):Hp:=λ b=>match H b with
 |some u=>if isL u=true then none else some u
 |none=>none
theorem M_5 {H:Hp}{b:Addr}{u:HO} (h:noL H b=some u):H b=some u/\isL u=false:=by
 unfold noL at h
 split at h
 ·rename_i v e
  by_cases z:isL v=true
  ·rw[if_pos z] at h;cases h
  ·rw[if_neg z] at h;cases h;exact⟨e,Bool.eq_false_iff.mpr z⟩
 ·cases h
theorem az5 {H:Hp}{b:Addr}{u:HO} (h:H b=some u) (z:isL u=false):noL H b=some u:=by
 unfold noL;rw[h];exact if_neg (by rw[z];exact Bool.false_ne_true)
section
variable {K:Frag}{H H':Hp}
mutual
theorem Rep.noL:∀ (d:D) {v:V},nl d=true->Rep K H d v->Rep K (noL H) d v
 |.non,_,_,h=>by unfold Rep at h ⊢;exact h
 |.bl _,_,_,h=>by unfold Rep at h ⊢;exact h
 |.int _,_,_,h=>by unfold Rep at h ⊢;exact h
 |.str _,_,_,h=>by unfold Rep at h ⊢;exact h
 |.tup ds,_,n,h=>by
  unfold Rep at h ⊢;obtain⟨b,vs,e,s,r⟩:=h;refine⟨b,vs,e,?_,Reps.noL ds n r⟩
  rcases s with (s | ⟨o,s⟩) | s
  ·exact .inl (.inl (az5 s rfl))
  ·exact .inl (.inr ⟨o,az5 s rfl⟩)
  ·exact .inr s
 |.lst _,_,n,_=>by cases n
 |.opq,_,n,_=>by cases n
 |.dct _ _,_,n,_=>by cases n
theorem Reps.noL:∀ (ds:List D) {vs:List V},nls ds=true->Reps K H ds vs->Reps K (noL H) ds vs
 |[],_,_,h=>by unfold Reps at h ⊢;exact h
 |d::r,_,n,h=>by
  unfold nls at n;rw[Bool.and_eq_true] at n;unfold Reps at h ⊢;obtain⟨v,O,e,h1,h2⟩:=h;exact⟨v,O,e,Rep.noL d n.1 h1,Reps.noL r n.2 h2⟩
end
end
theorem T_1:∀ {xs ys:List V}{us:List Value},Vals xs us->Vals ys us->xs=ys
 |[],ys,us,h,h'=>by cases h;cases h';rfl
 |x::xs,ys,us,h,h'=>by
  cases h with
  |cons a b =>
   cases h' with
   |cons Y O=>rw[RelV.inj a Y,T_1 b O]
section
variable {X:Cx}{k:Nat}{f:Addr}{fd:FuncData}{ps:List Str}{sp:Sp}{x:Str}{p pos:Pos}{e:Expr}{es:List Expr}{t:TA}
noncomputable def bO6 (X:Cx) (H1:Hp) (Q:VK):VK:=λ v H2=>(∀ b,(H1 b=none\/∃ us,H1 b=some (.lst us))->ap3 X b)->(∀ b xs ys,SqT X.K H2 b xs->SqT X.K H2 b ys->xs=ys)->Q v H2
theorem as9 (F:FnOk X.prog X.w X.K X.mg X.base CX0 k f fd ps sp) (hr:Room k X.A) (hg:Gl X x) (hm:X.mg x=some (.ref f)) (hk:keepIn X.K (.ref f)=true) (O:Binds X.K fd ps [])
  (ha:PA X (e::es) t) (Z:(x==("__debug__":Str))=false) (he:starEach (e::es) X.env=(false,eval e X.env)::starEach es X.env) (aa:(backTo pos (starEach es X.env)).any (·.1)=false) :
  PE X (.Call (.Name x p) (e::es) [] pos) (λ σ H Q=>t σ H λ vs H1=>sp (vs++[]) H1 (bO6 X H1 Q) E0):=by
 intro pins s σ H Q I h;refine wpAny_Call_Name_kw (G_8 I hg hm ?_ Z);refine PySem.W.callWith_K (h₀:=X.base) I.ok.mod.kin hk (thn (ha pos pins s σ H _ I h) λ us s1=>ex5 λ vs H1 Y r q=>⟨Y.kIn,?_⟩) he aa
 refine wpAny_mono (U_5 F hr O .nil af2 Y r q) (λ u s2 ⟨v,H2,I2,rv,z⟩=>⟨v,H2,I2,rv,z (λ b O=>?_) λ b xs ys h1 h2=>?_⟩) λ _ _ z=>z
 ·rcases O with O | ⟨us,O⟩
  ·exact ad5 Y O
  ·refine⟨λ xs z=>?_,λ o u z=>?_,λ ps z=>?_⟩
   ·have q:=Y.base.tups b xs z
    rw[O] at q;cases q
   ·have q:=Y.base.frzs b o u z
    rw[O] at q;cases q
   ·obtain⟨m,q⟩:=Y.base.tbls b ps z
    rw[O] at q;cases q
 ·obtain⟨i1,v1,⟨o1,g1,_,n1,d1⟩,_⟩:=I2.tuple h1
  obtain⟨i2,v2,⟨o2,g2,_,n2,d2⟩,_⟩:=I2.tuple h2;rw[g1] at g2;cases g2;rw[d1] at d2
  have e2:i1=i2:=by
   have:=(Data.seq.inj d2).1
   simpa using this
  rw[<- e2] at v2;exact T_1 v1 v2
noncomputable def bp9 (X:Cx):V->List V->Hp->VK->Prop:=λ x vs H Q=>∃ l xs y,x=.ref l/\vs=[y]/\(H l=some (.lst xs)\/(∃ ob,H l=some (.frz ob (.lst xs)))/\ap3 X l)/\xs.length<sizeLine/\Q .non (upd H l (.lst (xs++[y])))
theorem upd_upd {H:Hp}{a:Addr}{u v:HO}:upd (upd H a u) a v=upd H a v:=by
 funext b
 by_cases z:b=a
 ·rw[z,a_2,a_2]
 ·rw[a_3 z,a_3 z,a_3 z]
theorem aL6:MtR X "list.append" (bp9 X):=by
 intro pins s σ H x vs v us Q I rx Z h;obtain⟨l,xs,y,ex,Y,O,hz,q⟩:=h
 rcases O with O | ⟨⟨ob,O⟩,sf⟩
 ·exact y_0 pins s σ H x vs v us Q I rx Z ⟨l,xs,y,ex,Y,O,hz,q⟩
 ·exact y_0 pins s σ _ x vs v us Q (aV5 I O sf) rx Z ⟨l,xs,y,ex,Y,a_2,hz,by rw[upd_upd];exact q⟩
theorem aJ9 {i:Nat}{x:Str}{pos:Pos} (hN:X.N[i]?=some x) (Z:Vis X.env.scope x) (hd:(x==("__debug__":Str))=false) (O:(x==("__classdict__":Str))=false) :
  PE X (.Name x pos) (λ σ H Q=>∃ a ob kvs,σ[i]?=some (some (.ref a))/\H a=some (.frz ob (.dK kvs))/\ap3 X a/\Q (.ref a) (upd H a (.dK kvs))):=λ pins s σ H Q I ⟨a,ob,kvs,e1,e2,Y,q⟩ =>
 m_7 hN Z hd O pins s σ _ Q (W_7 I e2 Y) ⟨_,e1,q⟩
theorem aY6 (i:Nat) {st:Stmt}{t:TS} (h:PS X st t):PS X st (λ D σ H=>∃ a kvs,σ[i]?=some (some (.ref a))/\H a=some (.dK kvs)/\(ap3 X a->∀ ob,t D σ (upd H a (.frz ob (.dK kvs))))):=λ pins s σ H D I O=>by
 obtain⟨a,kvs,_,Y,q⟩:=O;obtain⟨ob,Z⟩:=aj1 I Y;exact h pins s σ _ D Z (q (W_8 I Y) ob)
end
noncomputable def LvS (X:Cx) (c:FC) (H0:Hp) (a:Addr) (v:V):Prop:=∃ p,v=.ref p/\H0 p=none/\c.He p=none/\p≠a/\ap3 X p
noncomputable def LvD (H:Hp) (n:Nat) (v:V):Prop:=∃ p us,v=.ref p/\us.length<=n/\(H p=some (.lst us)\/∃ ob,H p=some (.frz ob (.lst us)))
structure HI (c:FC) (H0:Hp) (a:Addr) (o:HO) (H:Hp):Prop where
 same:Same H0 H
 keep:∀ b o,c.He b=some o->b∉c.Ap->H b=some o
 apt:∀ b∈c.Ap,H b≠none
 at_:H a=some o
section
variable {X:Cx}{c:FC}{H0 H:Hp}{a p q:Addr}{o u t:HO}
theorem HI.put (I:HI c H0 a o H) (O:H q=none) (h0:H0 p=none) (Z:c.He p=none) (na:p≠a):HI c H0 a o (upd (upd H q t) p u):=by
 have nq:a≠q:=a_6 I.at_ O;refine⟨λ b x e=>?_,λ b x e n=>?_,λ b m e=>?_,by rw[a_3 (Ne.symm na),a_3 nq];exact I.at_⟩
 ·have:=I.same b x e
  rw[a_3 (a_6 e h0),a_3 (a_6 this O)];exact this
 ·have:=I.keep b x e n
  rw[a_3 (a_6 e Z),a_3 (a_6 this O)];exact this
 ·by_cases z:b=p
  ·subst z;rw[a_2] at e;cases e
  ·by_cases Y:b=q
   ·subst Y;exact I.apt b m O
   ·rw[a_3 z,a_3 Y] at e;exact I.apt b m e
theorem LvD.put {n:Nat}{v y:V}{us:List V} (h:LvD H n v) (Y:H q=none) (hp:us.length<=n):LvD (upd (upd H q t) p (.lst (us++[y]))) (n+1) v:=by
 obtain⟨O,ws,rfl,l,e⟩:=h
 by_cases z:O=p
 ·subst z
  exact⟨O,us++[y],rfl,by rw[List.length_append,List.length_singleton];omega,.inl a_2⟩
 ·have Z:O≠q:=by
   rcases e with e | ⟨ob,e⟩ <;> exact a_6 e Y
  refine⟨O,ws,rfl,by omega,?_⟩
  rw[a_3 z,a_3 Z];exact e
theorem HI.fin {K:Frag}{ρ:En}{σ O:L2.St}{i h k:Nat} (R:RS K c H0 H ρ σ) {H2:Hp} (I:HI c H0 a o H2) (h0:H0 a=none) (he:c.He a=none) (one:F_7 h ρ=true) (hl:O.length=σ.length) (hs:∀ t,t≠h->t≠i->t≠k->O[t]?=σ[t]?) (u:HO) :
  RS K c H0 (upd H2 a u) (((ρ.set h .no).set i .no).set k .no) O:=by
 have Y:∀ {t:Nat}{sl:Sl},(((ρ.set h .no).set i .no).set k .no)[t]?=some sl->sl=.no\/(t≠h/\t≠i/\t≠k/\ρ[t]?=some sl):=λ {t sl} e=>by
  by_cases z1:t=k
  ·subst z1
   by_cases Z:t<((ρ.set h .no).set i .no).length
   ·rw[List.getElem?_set_self Z] at e;cases e;exact .inl rfl
   ·rw[List.getElem?_eq_none (by rw[List.length_set];omega)] at e;cases e
  ·rw[List.getElem?_set_ne (Ne.symm z1)] at e
   by_cases z2:t=i
   ·subst z2
    by_cases Z:t<(ρ.set h .no).length
    ·rw[List.getElem?_set_self Z] at e;cases e;exact .inl rfl
    ·rw[List.getElem?_eq_none (by rw[List.length_set];omega)] at e;cases e
   ·rw[List.getElem?_set_ne (Ne.symm z2)] at e
    by_cases z3:t=h
    ·subst z3
     by_cases Z:t<ρ.length
     ·rw[List.getElem?_set_self Z] at e;cases e;exact .inl rfl
     ·rw[List.getElem?_eq_none (by rw[List.length_set];omega)] at e;cases e
    ·rw[List.getElem?_set_ne (Ne.symm z3)] at e
     exact .inr ⟨z3,z2,z1,e⟩
 have aa:∀ {t:Nat}{b:Bool}{m:MO},(((ρ.set h .no).set i .no).set k .no)[t]?≠some (.ow b m):=λ {t b m} e=>by
  rcases Y e with z | ⟨n1,_,_,e'⟩
  ·cases z
  ·unfold F_7 at one
   have:=List.all_eq_true.mp one (.ow b m) (List.mem_of_getElem? (i:=t) (by rw[List.getElem?_set_ne (Ne.symm n1)];exact e'))
   cases this
 refine⟨λ b x e=>by rw[a_3 (a_6 e h0)];exact I.same b x e,R.init,R.fresh,λ b x e n=>by rw[a_3 (a_6 e he)];exact I.keep b x e n,λ b m e=>?_,by rw[List.length_set,List.length_set,List.length_set,hl];exact R.len,λ t d e=>?_,λ t b m e=>absurd e aa,λ t t' b b' m m' x e=>absurd e aa⟩
 ·by_cases z:b=a
  ·subst z;rw[a_2] at e;cases e
  ·rw[a_3 z] at e;exact I.apt b m e
 ·rcases Y e with z | ⟨n1,n2,n3,e'⟩
  ·cases z
  ·obtain⟨v,e1,e2⟩:=R.im t d e'
   exact⟨v,by rw[hs t n1 n2 n3];exact e1,e2⟩
end
section
variable {X:Cx}{c:FC}{H0 H Hi' H':Hp}{ρ:En}{σ:L2.St}{a q wq:Addr}{uw:HO}{hvs wvs:List V}{ws:List D}
theorem bs2 (kl:NoL X.K) (R:RS X.K c H0 H ρ σ) (q0:H0 q=none) (qe:c.He q=none) (qh:H q=some (.lst hvs)) (w0:H0 wq=some uw) (wu:uw=.lst wvs\/∃ ob,uw=.frz ob (.lst wvs)) (ab:Reps X.K (noL H0) ws wvs) (hs:hdS ws=true)
  (s0:Same (upd (upd (noL H0) wq uw) q (.lst hvs)) Hi') (s':Same Hi' H') (sH:Same H H') (fr:∀ b u,Hi' b=some u->upd (upd (noL H0) wq uw) q (.lst hvs) b=some u\/H b=none) (a0:Hi' a=none)
  (F1:∀ b,(H b=none\/∃ us,H b=some (.lst us))->ap3 X b) (F2:∀ b xs ys,SqT X.K H' b xs->SqT X.K H' b ys->xs=ys) {d:D}{v:V} (hd:ltv d=true) (r:Rep X.K Hi' d v):LvS X c H0 a v/\LvD Hi' 1000 v:=by
 cases d with
 |lst ds =>
  have Z:(ds.all r3&&decide (ds.length<=1000))=true:=hd;rw[Bool.and_eq_true] at Z;obtain⟨h3,hl⟩:=Z;have hl:=of_decide_eq_true hl;unfold Rep at r;obtain⟨O,us,rfl,sq,re⟩:=r;have af:=re.length;have ae:wq≠q:=λ z=>by rw[z,q0] at w0;cases w0
  have key:∀ u,Hi' O=some u->(u=.lst us\/∃ ob,u=.frz ob (.lst us))->LvS X c H0 a (.ref O)/\LvD Hi' 1000 (.ref O):=λ u hu eu=>by
   have na:O≠a:=λ z=>by rw[z,a0] at hu;cases hu
   refine⟨?_,O,us,rfl,by omega,?_⟩
   ·rcases fr O u hu with h | h
    ·by_cases z:O=q
     ·subst z
      exact⟨O,rfl,q0,qe,na,F1 _ (.inr ⟨_,qh⟩)⟩
     ·rw[a_3 z] at h
      by_cases z2:O=wq
      ·exfalso
       subst z2;rw[a_2] at h;cases h
       have ac:us=wvs:=by
        rcases eu with rfl | ⟨ob,rfl⟩
        ·rcases wu with h | ⟨_,h⟩ <;> cases h;rfl
        ·rcases wu with h | ⟨_,h⟩ <;> cases h;rfl
       subst ac;cases ws with
       |nil=>cases hs
       |cons w wr =>
        cases w with
        |tup ts =>
         cases ts with
         |nil=>cases hs
         |cons t0 tr =>
          cases t0 with
          |str sx =>
           unfold Reps at ab;obtain⟨v0,vr,rfl,ra,_⟩:=ab;cases ds with
           |nil=>unfold Reps at re;cases re
           |cons d0 dr =>
            unfold Reps at re;obtain⟨v1,ag,e1,rb,_⟩:=re;cases e1;obtain⟨i1,sa,j1,rfl⟩:=Z_7 (List.all_eq_true.mp h3 d0 (qf ..));unfold Rep at ra rb;obtain⟨b,xs,rfl,sb,rx⟩:=ra;obtain⟨b',ys,e2,ad,ry⟩:=rb;cases e2;have sn:Same (noL H0) H':=λ b u h=>sH _ _ (R.same _ _ (M_5 h).1)
            have:=F2 b xs ys (Same.seqT sn sb) (Same.seqT s' ad);subst this;unfold Reps at rx ry;obtain⟨x1,_,e3,aa,_⟩:=rx;obtain⟨y1,_,e4,Y,_⟩:=ry;rw[e3] at e4;cases e4;unfold Rep at aa Y;rw[aa] at Y;cases Y
          |_=>cases hs
        |_=>cases hs
      ·rw[a_3 z2] at h
       have:=(M_5 h).2
       rcases eu with rfl | ⟨ob,rfl⟩ <;> cases this
    ·exact⟨O,rfl,R.same.free h,R.heNone h,na,F1 _ (.inl h)⟩
   ·rcases eu with rfl | ⟨ob,rfl⟩
    ·exact .inl hu
    ·exact .inr ⟨ob,hu⟩
  rcases sq with (sq | ⟨ob,sq⟩) | ⟨o,its,n,k1,k2,_⟩
  ·exact key _ sq (.inl rfl)
  ·exact key _ sq (.inr ⟨ob,rfl⟩)
  ·exact absurd k2 (kl _ _ k1)
 |_=>cases hd
end
theorem LvD.mono {H H':Hp}{n m:Nat}{v:V} (h:LvD H n v) (s:Same H H') (l:n<=m):LvD H' m v:=by
 obtain⟨p,us,e,O,z⟩:=h;refine⟨p,us,e,by omega,?_⟩
 rcases z with z | ⟨ob,z⟩
 ·exact .inl (s _ _ z)
 ·exact .inr ⟨ob,s _ _ z⟩
theorem T_2:∀ (kvs:List (Key×V)) {n:Nat}{k:Key}{v:V},kvs[n]?=some (k,v)->∃ w,E_5 kvs k=some w/\w∈kvs.map (·.2)
 |[],n,k,v,h=>by cases h
 |(k',v')::r,n,k,v,h=>by
  by_cases z:k'=k
  ·refine⟨v',?_,by simp⟩
   unfold E_5;simp[z]
  ·cases n with
   |zero=>cases h;exact absurd rfl z
   |succ n =>
    obtain⟨w,e1,e2⟩:=T_2 r (n:=n) (k:=k) (v:=v) h;refine⟨w,?_,by rw[List.map_cons];exact qg _ e2⟩
    unfold E_5 at e1 ⊢;simp only[List.find?_cons];simp[z,e1]
abbrev bl1 (X:Cx) (x:Str):Prop:=Vis X.env.scope x ∧ (x==("__debug__":Str))=false ∧ (x==("__classdict__":Str))=false
section
variable {X:Cx}
theorem bG4 (i h k j:Nat) {kk:Nat}{x y z nm wn s:Str}{g:List D->Option MO}{T:FT}{B:FS}{ai:Expr}{rest:List Stmt}{n1 n2 n3 n4 n5:Nat}{p1 p2 p3 p4 p5 p6 p7 p8 p9 q1 q2 q3 q4 q5 q6 q7 q8 q9 ad ac aq bi r1 r2 r3 r4:Pos}
  (hN:X.N.Nodup) (G:DefN X.prog X.w X.K X.mg X.base kk x g) (hr:Room kk X.A) (kl:NoL X.K) (hu:X.A.units+1<cLine) (ht:XT X ai T) (ao:XSs X rest B)
  (hi:X.N[i]?=some y:=by rfl) (hh:X.N[h]?=some z:=by rfl) (ay:X.N[k]?=some nm:=by rfl) (hj:X.N[j]?=some wn:=by rfl)
  (vy:bl1 X y:=by exact⟨by first | exact Or.inl rfl | exact Or.inr (Or.inl rfl) | exact Or.inr (Or.inr rfl),by decide,by decide⟩) (vz:bl1 X z:=by exact⟨by first | exact Or.inl rfl | exact Or.inr (Or.inl rfl) | exact Or.inr (Or.inr rfl),by decide,by decide⟩)
  (vn:bl1 X nm:=by exact⟨by first | exact Or.inl rfl | exact Or.inr (Or.inl rfl) | exact Or.inr (Or.inr rfl),by decide,by decide⟩) (vw:bl1 X wn:=by exact⟨by first | exact Or.inl rfl | exact Or.inr (Or.inl rfl) | exact Or.inr (Or.inr rfl),by decide,by decide⟩)
  (ly:Loc X.env.scope y:=by first | exact Or.inl rfl | exact Or.inr rfl) (ln:Loc X.env.scope nm:=by first | exact Or.inl rfl | exact Or.inr rfl) (bd:X.fn y=true\/X.env.scope.names.lookup y=some .local:=by first | exact .inl rfl | exact .inr rfl) (bc:X.fn nm=true\/X.env.scope.names.lookup nm=some .local:=by first | exact .inl rfl | exact .inr rfl)
  (hg:Gl X x:=by rfl) (b5:(x==("__debug__":Str))=false:=by decide) (bm:swapsWith (.Call (.Name x p2) [.Name wn p3,.Name z p4] [] p5) (some (.Name y p1)) p6.line X.env=pure false:=by rfl)
  (a5:starEach [.Name wn p3,.Name z p4] X.env=(false,eval (.Name wn p3) X.env)::starEach [.Name z p4] X.env:=by rfl) (be:starEach [.Name z p4] X.env=(false,eval (.Name z p4) X.env)::starEach [] X.env:=by rfl) (b8:(backTo p5 (starEach [.Name z p4] X.env)).any (·.1)=false:=by rfl)
  (hp:PassesOwn (model X.prog X.w) X.A X.env X.xe:=by exact PassesOwn.never) (hc:X.calm=true:=by rfl) (bj:∀ v,foldedSetIterable (.Name y q2) X.env v=pure v:=by intro _;rfl)
  (b6:bl2 (.Name nm q4):=by exact λ _ _=>rfl) (ap:attributeBase (.Subscript (.Name y q3) (.Name nm q4) q5) "append" X.env (eval (.Subscript (.Name y q3) (.Name nm q4) q5) X.env)=eval (.Subscript (.Name y q3) (.Name nm q4) q5) X.env:=by rfl)
  (az:((backTo ac (starEach [.Tuple [.Constant (.int 0) n2 q7,.Constant (.str s) n3 q8,.Constant (.int 0) n4 q9] n5 ad] X.env)).all (λ x=>!x.1)&&(backToKw ac (keywordEach [] X.env)).all (λ x=>x.1.isSome)&&decide (([.Tuple [.Constant (.int 0) n2 q7,.Constant (.str s) n3 q8,.Constant (.int 0) n4 q9] n5 ad]:List Expr).length+([]:List Keyword).length+(if ([]:List Keyword).isEmpty then 0 else 1)<30))=true:=by rfl)
  (al:(q6.endLine==ac.line)=true:=by rfl) (av:starEach [.Tuple [.Constant (.int 0) n2 q7,.Constant (.str s) n3 q8,.Constant (.int 0) n4 q9] n5 ad] X.env=(false,eval (.Tuple [.Constant (.int 0) n2 q7,.Constant (.str s) n3 q8,.Constant (.int 0) n4 q9] n5 ad) X.env)::starEach [] X.env:=by rfl)
  (a9:starEach [.Constant (.int 0) n2 q7,.Constant (.str s) n3 q8,.Constant (.int 0) n4 q9] X.env=(false,eval (.Constant (.int 0) n2 q7) X.env)::starEach [.Constant (.str s) n3 q8,.Constant (.int 0) n4 q9] X.env:=by rfl)
  (bo:starEach [.Constant (.str s) n3 q8,.Constant (.int 0) n4 q9] X.env=(false,eval (.Constant (.str s) n3 q8) X.env)::starEach [.Constant (.int 0) n4 q9] X.env:=by rfl) (bv:starEach [.Constant (.int 0) n4 q9] X.env=(false,eval (.Constant (.int 0) n4 q9) X.env)::starEach [] X.env:=by rfl)
  (au:(backTo ac (starEach [] X.env)).any (·.1)=false:=by rfl)
  (b3:swapsWith (.Call (.Attribute (.Subscript (.Name y q3) (.Name nm q4) q5) "append" q6) [.Tuple [.Constant (.int 0) n2 q7,.Constant (.str s) n3 q8,.Constant (.int 0) n4 q9] n5 ad] [] ac) none aq.line X.env=pure false:=by rfl)
  (bn:attributeBase (.Name y r1) "clear" X.env (eval (.Name y r1) X.env)=eval (.Name y r1) X.env:=by rfl) (bg:(r2.endLine==r3.line)=true:=by rfl) (bp:swapsWith (.Call (.Attribute (.Name y r1) "clear" r2) [] [] r3) none r4.line X.env=pure false:=by rfl) :
  XSs X (.Assign [.Name y p1] (.Call (.Name x p2) [.Name wn p3,.Name z p4] [] p5) p6::.If ai [.Return (some (.Constant (.bool false) n1 p7)) p8] [] p9 ::
   .For (.Name nm q1) (.Name y q2) [.Expr (.Call (.Attribute (.Subscript (.Name y q3) (.Name nm q4) q5) "append" q6) [.Tuple [.Constant (.int 0) n2 q7,.Constant (.str s) n3 q8,.Constant (.int 0) n4 q9] n5 ad] [] ac) aq] [] bi ::
   .Expr (.Call (.Attribute (.Name y r1) "clear" r2) [] [] r3) r4::rest) (b_6 (aX1 i h k j g T) B):=by
 obtain⟨f,fd,ps,Fn,hb,hk,hm⟩:=G.ex;refine PSs.wk (q_2 (K_9 hN hi ly (as9 Fn hr hg hm hk hb (f_5 (m_7 hj vw.1 vw.2.1 vw.2.2) (f_5 (m_7 hh vz.1 vz.2.1 vz.2.2) o_1 be) a5) b5 a5 b8) bm bd)
  (q_2 (aY6 i (aY5 ht (F_2 (ae5 aZ7)) ae4))
  (q_2 (V_1 hp hc (az1 (m_7 hi vy.1 vy.2.1 vy.2.2)) (Q_1 hN ay ln bc) (F_2 (F_3 (at0 PySem.F.plainAttrs_list PySem.F.slot_list_append PySem.F.type_list_append aL6 (af0 hu (m_7 hi vy.1 vy.2.1 vy.2.2) (m_7 ay vn.1 vn.2.1 vn.2.2) b6)
   (f_5 (az2 (f_5 V_2 (f_5 ae9 (f_5 V_2 o_1 bv) bo) a9)) o_1 av) ap az al av au) b3)) bj)
  (q_2 (F_3 (aZ6 PySem.F.plainAttrs_dict PySem.F.slot_dict_clear PySem.F.type_dict_clear ah2 (aJ9 hi vy.1 vy.2.1 vy.2.2) bn bg) bp) ao)))) λ Dn σ H ⟨c,H0,ρ,r,R,fz,q⟩=>?_
 unfold b_6 at fz;obtain⟨rs,h5,fz⟩:=a_1 fz;unfold aX1 aX0 at h5;obtain⟨ab,h1,h5⟩:=a_1 h5;unfold aW9 at h5;obtain⟨⟨d,b9⟩,h2,h5⟩:=a_1 h5;cases d with
 |lst ws =>
  dsimp only at h5
  by_cases cc:hdS ws=true/\nls ws=true/\nls ab=true/\F_7 h ρ=true/\i<ρ.length/\k<ρ.length/\k≠i
  case neg=>rw[if_neg cc] at h5;cases h5
  rw[if_pos cc] at h5;obtain⟨c1,c2,c3,c4,c5,c6,c7⟩:=cc;unfold aH4 at h5;obtain⟨m,h3,h5⟩:=a_1 h5;cases m with
  |lst _=>cases h5
  |dic kds =>
   dsimp only at h5
   by_cases cd:(kds.map (·.2)).all ltv=true/\kds.length<=1000
   case neg=>rw[if_neg cd] at h5;cases h5
   rw[if_pos cd] at h5;obtain⟨c8,c9⟩:=cd;unfold aH3 at h5;obtain⟨⟨b,b1⟩,h4,h5⟩:=a_1 h5
   by_cases ce:b1=(ρ.set h (.im (.lst ab))).set i (hld kds)
   case neg=>have:=(if_neg ce).symm.trans h5;cases this
   have aw:=(if_pos ce).symm.trans h5;subst ce;have z1:=af7 h1
   have bq:ρ[j]?=some (.im (.lst ws)):=by
    unfold eV at h2;cases Z:ρ[j]? with
    |none=>rw[Z] at h2;cases h2
    |some sl =>
     rw[Z] at h2;cases sl with
     |im d'=>cases h2;rfl
     |_=>cases h2
   obtain⟨qa,hvs,xq,q0,qe,qH,rh,bz,R1⟩:=R.asList z1;obtain⟨cg,ew,a6⟩:=R.im j _ bq;unfold Rep at a6;obtain⟨wq,wvs,rfl,br,b0⟩:=a6
   obtain⟨uw,w0,wu⟩:∃ uw,H0 wq=some uw/\(uw=.lst wvs\/∃ ob,uw=.frz ob (.lst wvs)):=by
    rcases br with (sq | ⟨ob,sq⟩) | ⟨o,its,n,k1,k2,_⟩
    ·exact⟨_,sq,.inl rfl⟩
    ·exact⟨_,sq,.inr ⟨ob,rfl⟩⟩
    ·exact absurd k2 (kl _ _ k1)
   have a2:=Reps.noL ws c2 b0;have a7:wq≠qa:=λ Z=>by rw[Z,q0] at w0;cases w0
   have ax:Same (noL H0) (upd (upd (noL H0) wq uw) qa (.lst hvs)):=λ bb u aa=>by
    have aj:=(M_5 aa).1;rw[a_3 (a_6 aj q0)]
    by_cases Z:bb=wq
    ·subst Z;rw[w0] at aj;cases aj;exact a_2
    ·rw[a_3 Z];exact aa
   refine⟨.ref wq,ew,.ref qa,xq,upd (upd (noL H0) wq uw) qa (.lst hvs),[.lst ws,.lst ab],.dic kds,λ bb u aa=>?_,?_,h3,λ a Hi' H' nw F1 F2=>?_⟩
   ·by_cases Z:bb=qa
    ·subst Z;rw[a_2] at aa;cases aa;exact qH
    ·rw[a_3 Z] at aa
     by_cases z2:bb=wq
     ·subst z2;rw[a_2] at aa;cases aa;exact R.same _ _ w0
     ·rw[a_3 z2] at aa;exact R.same _ _ (M_5 aa).1
   ·refine Reps.cons ?_ (Reps.one ?_)
    ·unfold Rep
     refine⟨wq,wvs,rfl,.inl ?_,Reps.mono ax _ a2⟩
     rcases wu with rfl | ⟨ob,rfl⟩
     ·exact .inl (by rw[a_3 a7];exact a_2)
     ·exact .inr ⟨ob,by rw[a_3 a7];exact a_2⟩
    ·unfold Rep
     exact⟨qa,hvs,rfl,.inl (.inl a_2),Reps.mono ax _ (Reps.noL ab c3 rh)⟩
   ·obtain⟨s0,s',sH,fr,a0,aH,ks,vs,ea,ek,rv⟩:=nw
    have lv:∀ v∈vs,LvS X c H0 a v/\LvD Hi' 1000 v:=λ v hv=>by
     obtain⟨n,hn,en⟩:=List.getElem_of_mem hv;have cf:=rv.length;obtain⟨v',e1,e2⟩:=Reps.get (i:=n) (d:=(kds.map (·.2))[n]'(by omega)) rv (List.getElem?_eq_getElem _)
     have e3:v'=v:=by rw[List.getElem?_eq_getElem hn,en] at e1;exact (qi e1).symm
     subst e3;exact bs2 kl R q0 qe qH w0 wu a2 c1 s0 s' sH fr a0 F1 F2 (List.all_eq_true.mp c8 _ (List.getElem_mem _)) e2
    let Hd:Hp:=λ bb=>match upd H0 qa (.lst hvs) bb with
     |some u=>some u
     |none=>Hi' bb
    have d1:∀ {bb:Addr}{u:HO},upd H0 qa (.lst hvs) bb=some u->Hd bb=some u:=λ O=>by show (match upd H0 qa (.lst hvs) _ with | some u=>some u | none=>_)=_;rw[O]
    have d2:∀ {bb:Addr},upd H0 qa (.lst hvs) bb=none->Hd bb=Hi' bb:=λ O=>by show (match upd H0 qa (.lst hvs) _ with | some u=>some u | none=>_)=_;rw[O]
    have dH:Same Hd H':=λ bb u O=>by
     cases Z:upd H0 qa (.lst hvs) bb with
     |some u'=>rw[d1 Z] at O;cases O;exact sH _ _ (R1.same _ _ Z)
     |none=>rw[d2 Z] at O;exact s' _ _ O
    have dI:Same Hi' Hd:=λ bb u O=>by
     cases Z:upd H0 qa (.lst hvs) bb with
     |some u' =>
      have e1:=sH _ _ (R1.same _ _ Z);rw[s' _ _ O] at e1;cases e1;exact d1 Z
     |none=>rw[d2 Z];exact O
    have R2:=R1.got i (o:=.dic kds) (a:=a) (H0':=Hd) (H':=H') ⟨λ bb u O=>d1 O,dH,sH,λ bb u O=>by
     cases Z:upd H0 qa (.lst hvs) bb with
     |some u'=>rw[d1 Z] at O;exact .inl O
     |none =>
      rw[d2 Z] at O
      rcases fr bb u O with hz | hz
      ·exfalso
       by_cases y1:bb=qa
       ·subst y1;rw[a_2] at Z;cases Z
       ·rw[a_3 y1] at hz Z
        by_cases y2:bb=wq
        ·subst y2;rw[w0] at Z;cases Z
        ·rw[a_3 y2] at hz;rw[(M_5 hz).1] at Z;cases Z
      ·exact .inr hz,by rw[d2 (R1.same.free aH)];exact a0,aH,ks,vs,ea,ek,Reps.mono dI _ rv⟩
    have zi:((ρ.set h (.im (.lst ab))).set i (.ow false (.dic kds)))[i]?=some (.ow false (.dic kds)):=List.getElem?_set_self (by rw[List.length_set];exact c5)
    obtain⟨a',b2,x',y',_,bw,r',RR⟩:=R2.asData zi;have il:i<σ.length:=by rw[<- R.len];exact c5
    have ah:(σ.set i (some (V.ref a)))[i]?=some (some (.ref a)):=List.getElem?_set_self il;have ba:a'=a:=by rw[ah] at x';cases x';rfl
    subst ba
    have ar:((ks.map Sum.inr).zip vs:List (Key×V))=m_5 (kds.map (·.1)) b2:=by
     have:=bw.symm.trans ea;have:=qi this;exact (HO.dK.inj this).symm
    refine⟨a',_,ah,ea,λ sf ob=>?_⟩
    have RT:=(RR ob).2;rw[List.set_set,<- ar] at RT;refine⟨c,_,_,b,_,RT,h4,λ H0'' H'' sm R''=>?_⟩
    have y0:Hd a'=none:=by rw[d2 (R1.same.free aH)];exact a0
    have sd:Same Hd H0'':=λ bb u O=>sm _ _ (by rw[a_3 (a_6 O y0)];exact O)
    have a1:Same H0 H0'':=λ bb u O=>sd _ _ (d1 (bz _ _ O))
    have af:H'' a'=some (.frz ob (.dK ((ks.map Sum.inr).zip vs))):=R''.same _ _ (sm _ _ a_2);cases b with
    |true =>
     show (if true=true then _ else _);rw[if_pos rfl]
     have h6:some (Res.rt (.bl false) ((ρ.set h (.im (.lst ab))).set i (hld kds)))=some rs:=by
      have:=aw;dsimp only at this;rw[if_pos rfl] at this;exact this
     cases h6;cases fz;exact q _ _ H0'' H'' a1 R'' (o_8 _ _)
    |false =>
     show (if false=true then _ else _);rw[if_neg Bool.false_ne_true]
     have h6:some (Res.nx (((ρ.set h .no).set i .no).set k .no))=some rs:=by
      have:=aw;dsimp only at this;rw[if_neg Bool.false_ne_true] at this;exact this
     cases h6;have HI0:HI c H0 a' (.frz ob (.dK ((ks.map Sum.inr).zip vs))) H'':=⟨a1.trans R''.same,R''.keep,R''.apt,af⟩;have big:(1000+1000:Nat)<sizeLine:=by decide
     have lk:ks.length=vs.length:=by
      have:=rv.length;rw[ek,List.length_map,<- this,List.length_map]
     have lz:((ks.map Sum.inr).zip vs:List (Key×V)).length=vs.length:=by rw[List.length_zip,List.length_map];omega
     have cb:vs.length<=1000:=by
      have:=rv.length;rw[List.length_map] at this;omega
     have m2:((ks.map Sum.inr).zip vs:List (Key×V)).map (·.2)=vs:=List.map_snd_zip (by rw[List.length_map];omega)
     refine⟨.ref a',ah,a',ob,_,rfl,af,λ n m ag H3=>m=vs.length-n/\n<=vs.length/\ag.length=σ.length/\(∀ t,t≠k->ag[t]?=(σ.set i (some (V.ref a')))[t]?)/\HI c H0 a' (.frz ob (.dK ((ks.map Sum.inr).zip vs))) H3/\∀ v∈vs,LvD H3 (1000+n) v,
      ⟨vs.length,rfl,Nat.zero_le _,List.length_set ..,λ _ _=>rfl,HI0,λ v hv=>(lv v hv).2.mono (dI.trans (sd.trans R''.same)) (by omega)⟩,?_⟩
     rintro n m ag H3 ⟨rfl,hn,hl,an,HI3,a4⟩;have si:ag[i]?=some (some (.ref a')):=by rw[an i (Ne.symm c7)];exact ah
     by_cases a3:n<vs.length
     ·refine .inr ⟨⟨by rw[lz];exact a3,HI3.at_⟩,λ ae H4=>n+1<=vs.length/\ae.length=σ.length/\(∀ t,t≠k->ae[t]?=(σ.set i (some (V.ref a')))[t]?)/\HI c H0 a' (.frz ob (.dK ((ks.map Sum.inr).zip vs))) H4/\∀ v∈vs,LvD H4 (1000+(n+1)) v,λ ae H4 hw=>⟨vs.length-(n+1),by omega,rfl,hw⟩,?_⟩
      rintro xv H4 ⟨rfl,k',v',bh,ex⟩;have b7:k<ag.length:=by rw[hl,<- R.len];exact c6
      obtain⟨w,bf,am⟩:=T_2 _ bh;rw[m2] at am;obtain⟨⟨p',ep,n0,b4,na,bt⟩,_⟩:=lv w am;obtain⟨ca,us,bu,a8,Y⟩:=a4 w am;subst ep;cases bu;refine⟨.ref a',by rw[List.getElem?_set_ne c7];exact si,xv,List.getElem?_set_self b7,a',.ref p',rfl,.inl ⟨_,k',.inr ⟨ob,HI3.at_⟩,ex,bf.symm⟩,.inl ⟨rfl,us,.inl ?_⟩,(by show 3<=sizeLine;decide),λ pt ak=>?_⟩
      ·rcases Y with Y | ⟨ob',Y⟩
       ·exact .inl Y
       ·exact .inr ⟨ob',Y⟩
      ·have bx:p'≠pt:=by
        rcases Y with Y | ⟨ob',Y⟩ <;> exact a_6 Y ak
       refine⟨p',us,.ref pt,rfl,rfl,?_,by omega,a3,?_,λ t as=>?_,HI3.put ak n0 b4 na,λ v hv=>(a4 v hv).put ak a8⟩
       ·rw[a_3 bx]
        rcases Y with Y | ⟨ob',Y⟩
        ·exact .inl Y
        ·exact .inr ⟨⟨ob',Y⟩,bt⟩
       ·rw[List.length_set];exact hl
       ·rw[List.getElem?_set_ne (Ne.symm as)];exact an t as
     ·refine .inl ⟨⟨by rw[lz];omega,HI3.at_⟩,a',ob,_,si,HI3.at_,sf,.inr (.inr (.inl ⟨rfl,.inl ⟨_,a_2⟩⟩)),a',_,rfl,rfl,a_2,?_⟩
      rw[upd_upd];refine⟨c,H0,_,r,HI.fin R HI3 (R.same.free aH) (R.heNone aH) c4 hl (λ t t1 t2 t3=>?_) _,fz,q⟩
      rw[an t t3,List.getElem?_set_ne (Ne.symm t2)]
 |_=>cases h5
end
theorem br7 {K:Frag} (h:(K.all λ e=>!(e.2.cls==.type "list"))=true):NoL K:=λ a o e z=>by
 induction K with
 |nil=>cases e
 |cons p r O =>
  rw[List.all_cons,Bool.and_eq_true] at h;obtain⟨b,o'⟩:=p;rw[List.lookup_cons] at e
  split at e
  ·cases e
   rw[z] at h;exact absurd h.1 (by decide)
  ·exact O h.2 e
end Fx
namespace Fx
open PySem
noncomputable section
noncomputable def A_4:FS :=
 (f_2 (e2 dEq (e2 ap0 (eV 1) (e2 b_0 (eV 0) (zI 1))) (e2 dEq (e2 b_0 (eV 0) (zI 0)) (zT "only"))))
noncomputable def i_7:List D->Option D:=fnD 2 0 A_4
noncomputable def e_0:FS :=
 (b_6 (sIf (tNot (tB (e3 dLe dLt (zI 0) (eV 3) (eV 2))))
 (f_2 (eC .non))
 sN)
 (b_6 (f_1 4 (eIf (tB (e2 dIs (eV 0) (eC .non))) (eC .non) (e2 e_9 (eV 0) (e2 l_4 (e2 N_7 (eV 3) (eV 0)) (eV 2)))))
 (b_6 (f_1 5 (eIf (tB (e2 dIs (eV 1) (eC .non))) (eC .non) (e2 N_7 (eV 1) (e2 l_4 (e2 N_7 (eV 1) (eV 3)) (eV 2)))))
 (b_6 (sIf (tOr (tB (e2 dIs (eV 4) (eC .non))) (tB (e2 dIs (eV 5) (eC .non))))
 (f_2 (h_2 (aC (eV 4) (aC (eV 5) (aC (eV 2) (aC (eV 3) aN))))))
 sN)
 (b_6 (sIf (tB (e2 dGt (eV 4) (eV 5)))
 (f_2 (eC .non))
 sN)
 (b_6 (sIf (tB (e2 dEq (eV 4) (eV 5)))
 (f_2 (h_2 (aC (eV 4) (aC (eV 5) (aC (zI 1) (aC (zI 0) aN))))))
 sN)
 (f_2 (h_2 (aC (eV 4) (aC (eV 5) (aC (eV 2) (aC (eV 3) aN))))))))))))
noncomputable def b_2:List D->Option D:=fnD 4 2 e_0
noncomputable def m_3:FS :=
 (f_2 (aP3 (eOr (e2 dIs (eV 1) (eC .non)) (e2 dLe (eV 1) (eV 0))) (eOr (e2 dIs (eV 2) (eC .non)) (e2 dLe (eV 0) (eV 2)))))
noncomputable def e_6:List D->Option D:=fnD 3 0 m_3
noncomputable def s_6:FS :=
 (f_2 (aP3 (eF e_6 (aC (eV 1) (aC (e2 b_0 (eV 0) (zI 0)) (aC (e2 b_0 (eV 0) (zI 1)) aN)))) (e2 dEq (e2 l_4 (eV 1) (e2 b_0 (eV 0) (zI 2))) (e2 b_0 (eV 0) (zI 3)))))
noncomputable def g_5:List D->Option D:=fnD 2 0 s_6
noncomputable def m_9:FS :=
 (b_6 (sIf (tOr (tB (e2 dIs (eV 0) (eC .non))) (tB (e2 dIs (eV 3) (eC .non))))
 (f_2 (eC .non))
 sN)
 (b_6 (f_1 1 (eF aU6 (aC (eV 1) (aC (zI 0) aN))))
 (b_6 (sIf (tAnd (tB (e2 g_0 (eV 2) (eC .non))) (tB (e2 dLe (eV 2) (eV 1))))
 (f_2 (eC .non))
 sN)
 (f_2 (h_2 (aC (eV 0) (aC (eV 1) (aC (eV 2) (aC (eV 3) aN)))))))))
noncomputable def c_8:List D->Option D:=fnD 4 0 m_9
noncomputable def p_5:FS :=
 (b_6 (f_1 2 (e2 b_0 (eV 1) (zI 0)))
 (b_6 (sIf (tOr (tB (e2 dLt (eV 2) (e2 b_0 (eV 0) (zI 1)))) (tAnd (tB (e2 g_0 (e2 b_0 (eV 0) (zI 2)) (eC .non))) (tB (e2 dGe (eV 2) (e2 b_0 (eV 0) (zI 2))))))
 (f_2 (eC (.bl false)))
 sN)
 (f_2 (aP3 (eF i_7 (aC (e2 b_0 (eV 0) (zI 0)) (aC (e2 b_0 (eV 1) (zI 1)) aN))) (eF g_5 (aC (e2 b_0 (eV 0) (zI 3)) (aC (e2 b_0 (eV 1) (zI 2)) aN)))))))
noncomputable def e_3:List D->Option D:=fnD 2 1 p_5
noncomputable def d_5:FS :=
 (b_6 (f_1 1 (e2 b_0 (eV 0) (zI 0)))
 (b_6 (f_1 2 (e2 b_0 (eV 0) (zI 3)))
 (b_6 (sIf (tB (e2 dEq (eV 1) (zT "time")))
 (f_2 (eF c_8 (aC (eC (.tup [(.str "but"),(.tup [])])) (aC (e2 b_0 (eV 2) (zI 0)) (aC (e2 b_0 (eV 2) (zI 1)) (aC (eC (.tup [.non,.non,(.int 1),(.int 0)])) aN))))))
 sN)
 (b_6 (sIf (tOr (tB (e2 dEq (eV 1) (zT "only"))) (tB (e2 dEq (eV 1) (zT "but"))))
 (f_2 (eF c_8 (aC (h_2 (aC (eV 1) (aC (eF u_9 (aC (eF I_8 (aC (eV 2) aN)) aN)) aN))) (aC (zI 0) (aC (eC .non) (aC (eC (.tup [.non,.non,(.int 1),(.int 0)])) aN))))))
 sN)
 (b_6 (sIf (tB (e2 dEq (eV 1) (zT "span")))
 (f_2 (eF c_8 (aC (eC (.tup [(.str "but"),(.tup [])])) (aC (zI 0) (aC (eC .non) (aC (eF b_2 (aC (e2 b_0 (eV 2) (zI 0)) (aC (e2 b_0 (eV 2) (zI 1)) (aC (zI 1) (aC (zI 0) aN))))) aN))))))
 sN)
 (b_6 (sIf (tB (e2 dEq (eV 1) (zT "rest")))
 (f_2 (eF c_8 (aC (eC (.tup [(.str "but"),(.tup [])])) (aC (zI 0) (aC (eC .non) (aC (eF b_2 (aC (eC .non) (aC (eC .non) (aC (e2 b_0 (eV 2) (zI 0)) (aC (e2 b_0 (eV 2) (zI 1)) aN))))) aN))))))
 sN)
 (f_2 (eC .non))))))))
noncomputable def a_9:List D->Option D:=fnD 1 2 d_5
noncomputable def h_9:FS :=
 (b_6 (f_1 2 (e2 b_0 (eV 0) (zI 3)))
 (b_6 (sIf (tB (e2 dEq (e2 b_0 (eV 0) (zI 0)) (zT "turn")))
 (f_2 (h_2 (aC (e2 b_0 (eV 1) (zI 0)) (aC (e2 b_0 (eV 1) (zI 1)) (aC (e2 e_9 (e2 s_3 (e2 b_0 (eV 2) (zI 0)) (e2 b_0 (eV 1) (zI 2))) (e2 b_0 (eV 2) (zI 1))) aN)))))
 sN)
 (b_6 (sIf (tB (e2 dEq (e2 b_0 (eV 0) (zI 0)) (zT "later")))
 (f_2 (h_2 (aC (e2 e_9 (e2 b_0 (eV 1) (zI 0)) (e2 b_0 (eV 2) (zI 0))) (aC (e2 b_0 (eV 1) (zI 1)) (aC (e2 b_0 (eV 1) (zI 2)) aN)))))
 sN)
 (b_6 (sIf (tB (e2 dEq (e2 b_0 (eV 0) (zI 0)) (zT "put")))
 (f_2 (h_2 (aC (e2 b_0 (eV 1) (zI 0)) (aC (av2 (eV 2) (e2 b_0 (eV 1) (zI 1)) (e2 b_0 (eV 1) (zI 1))) (aC (e2 b_0 (eV 1) (zI 2)) aN)))))
 sN)
 (b_6 (f_1 3 (eF a_9 (aC (eV 0) aN)))
 (f_2 (eIf (tAnd (tB (e2 g_0 (eV 3) (eC .non))) (tV (eF e_3 (aC (eV 3) (aC (eV 1) aN))))) (eV 1) (eC .non))))))))
noncomputable def b_1:List D->Option D:=fnD 2 2 h_9
abbrev c_9:FS :=
 (bi7 3 (e2 dDx (eV 1) (eV 4)))
noncomputable def l_3:FS :=
 (b_6 (aH7 3 (aT3 aN))
 (b_6 (ac3 (gN 4) (e2 b_0 (eV 0) (zI 2))
 c_9)
 (b_6 (aH8 3 (sIf (tB (e2 dEq (e2 b_0 (eV 0) (zI 0)) (zT "pour")))
 (f_2 (eV 3))
 sN))
 (b_6 (f_1 3 (eLC [2,0] (eV 3) tYes (eFv 1 b_1 (aC (eV 2) (aC (eV 0) aN)))))
 (f_2 (eLC [] (eV 3) (tB (e2 g_0 (eV 0) (eC .non))) (eV 0)))))))
noncomputable def b_7:List D->Option D:=fnD 3 2 l_3
noncomputable def n_8:FS :=
 (b_6 (sIf (tB (e2 dEq (e2 b_0 (eV 0) (zI 0)) (zT "in")))
 (f_2 (eLC [0] (eV 2) (tAnd (tB (e2 dEq (e2 b_0 (eV 0) (zI 0)) (zT "thing"))) (tB (e2 dEq (e2 b_0 (eV 0) (zI 1)) (e2 b_0 (eV 1) (zI 1))))) (J_2 (eV 0) (oS (zI 2)) oN)))
 sN)
 (f_2 (eF b_7 (aC (eV 0) (aC (eV 1) (aC (eC .opq) aN))))))
noncomputable def d_0:List D->Option D:=fnD 3 0 n_8
abbrev e_8:FS :=
 (sIf (tB (e2 ap0 (e2 b_0 (eV 3) (zI 0)) (eC (.tup [(.str "in"),(.str "time"),(.str "only"),(.str "but"),(.str "span"),(.str "rest"),(.str "turn"),(.str "later"),(.str "put"),(.str "pour")]))))
 (sDK 2 (e2 b_0 (eV 3) (zI 1)) (ab1 2 (eF p_6 (aC (eF d_0 (aC (eV 3) (aC (eV 2) (aC (eV 1) aN)))) aN))))
 sN)
noncomputable def q_9:En->Option MO :=
 (bb9 (sDN 2)
 (bb9 (ac3 (gN 3) (eV 0)
 e_8)
 (at5 2)))
noncomputable def b_5:List D->Option MO:=fnN 2 2 q_9
noncomputable def n_9:FS :=
 (b_6 (sIf (tB (e2 dLt (eV 1) (eF A_5 (aC (eV 0) aN))))
 (f_2 (e2 b_0 (eV 0) (eV 1)))
 sN)
 (f_2 (zI 0)))
noncomputable def c_1:List D->Option D:=fnD 2 0 n_9
noncomputable def A_3:FS :=
 (b_6 (f_1 2 (e2 l_4 (e2 s_3 (e2 e_9 (e2 e_9 (e2 f_3 (eV 0) (zI 2147483647)) (e2 s_3 (zI 7919) (eV 1))) (zI 1)) (zI 48271)) (zI 2147483647)))
 (b_6 (f_1 2 (e2 l_4 (e2 s_3 (eV 2) (e2 e_9 (e2 bk5 (eV 2) (zI 1009)) (zI 69621))) (zI 2147483647)))
 (b_6 (f_1 2 (e2 l_4 (e2 s_3 (eV 2) (e2 e_9 (e2 bk5 (eV 2) (zI 1013)) (zI 40692))) (zI 2147483647)))
 (f_2 (e2 aP9 (eV 2) (e2 f_3 (e2 l_9 (eV 0) (e2 e_9 (e2 s_3 (zI 31) (eV 1)) (zI 31))) (zI 2147483647)))))))
noncomputable def a_7:List D->Option D:=fnD 2 1 A_3
noncomputable def E_3:FS :=
 (b_6 (f_1 1 (zT "abcdefghijklmnopqrstuvwxyz"))
 (b_6 (f_1 2 (eF a_7 (aC (eV 0) (aC (zI 900) aN))))
 (b_6 (f_1 3 (au9 (Str.ofString "") (eLR [1,2] (P_8 (e2 f_3 (e2 l_9 (eV 2) (zI 20)) (zI 3))) tYes (e2 b_0 (eV 1) (e2 l_4 (e2 f_3 (e2 l_9 (eV 2) (e2 s_3 (zI 5) (eV 0))) (zI 31)) (zI 26))))))
 (f_2 (eLR [1,3,2] (P_8 (zI 5)) tYes (e2 e_9 (e2 b_0 (eV 1) (e2 l_4 (e2 e_9 (e2 l_9 (eV 3) (zI 22)) (e2 s_3 (zI 7) (eV 0))) (zI 26))) (J_2 (eV 2) oN (oS (e2 l_4 (eV 0) (zI 4))))))))))
noncomputable def k_7:List D->Option D:=fnD 1 3 E_3
noncomputable def p_4:FS :=
 (b_6 (f_1 2 (eF a_7 (aC (eV 0) (aC (eV 1) aN))))
 (b_6 (sIf (tB (e2 dGt (e2 f_3 (eV 2) (zI 3)) (zI 0)))
 (f_2 (e2 N_7 (e2 l_4 (e2 l_9 (eV 2) (zI 2)) (zI 13)) (zI 6)))
 sN)
 (f_2 (e2 e_9 (e2 s_3 (e2 N_7 (eV 2) (zI 1073741824)) (zI 400)) (e2 f_3 (eV 2) (zI 255))))))
noncomputable def b_3:List D->Option D:=fnD 2 1 p_4
noncomputable def o_0:FS :=
 (b_6 (sIf (tOr (tV (eV 1)) (tB (e2 dGe (eF ap2 (aC (eV 0) aN)) (e2 aP7 (zI 10) (zI 12)))))
 (f_2 (eC .non))
 sN)
 (f_2 (eV 0)))
noncomputable def c_2:List D->Option D:=fnD 2 0 o_0
noncomputable def A_1:FS :=
 (b_6 (ac2 [10,11,12] (eV 2))
 (b_6 (f_1 4 (eF a_7 (aC (eV 0) (aC (eV 1) aN))))
 (b_6 (f_1 5 (eF ap2 (aC (eF b_3 (aC (eV 0) (aC (e2 e_9 (eV 1) (zI 1)) aN))) aN)))
 (b_6 (f_1 6 (eF ap2 (aC (eF b_3 (aC (eV 0) (aC (e2 e_9 (eV 1) (zI 2)) aN))) aN)))
 (b_6 (f_1 7 (eLC [11] (eV 3) (tB (e2 dNe (eV 0) (eV 1))) (eV 0)))
 (b_6 (f_1 8 (e2 l_4 (eV 4) (zI 5)))
 (b_6 (sIf (tAnd (tB (e2 dEq (eV 8) (zI 0))) (tB (e2 dLt (eV 10) (e2 N_7 (e2 aP7 (zI 10) (zI 12)) (zI 1)))))
 (f_2 (h_2 (aC (zT "time") (aC (h_2 (aC (eF aU6 (aC (zI 0) (aC (e2 N_7 (eV 10) (eV 5)) aN))) (aC (eF c_2 (aC (e2 e_9 (e2 e_9 (eV 10) (zI 1)) (eV 6)) (aC (e2 dEq (e2 f_3 (e2 l_9 (eV 4) (zI 3)) (zI 3)) (zI 0)) aN))) aN))) aN))))
 sN)
 (b_6 (sIf (tB (e2 dEq (eV 8) (zI 1)))
 (f_2 (h_2 (aC (zT "only") (aC (eF u_9 (aC (e2 e_9 (O_9 (aC (eV 11) aN)) (J_2 (eV 7) oN (oS (e2 f_3 (e2 l_9 (eV 4) (zI 3)) (zI 3))))) aN)) aN))))
 sN)
 (b_6 (sIf (tB (e2 dEq (eV 8) (zI 2)))
 (f_2 (h_2 (aC (zT "but") (aC (eF u_9 (aC (J_2 (eV 7) oN (oS (e2 e_9 (zI 1) (e2 f_3 (e2 l_9 (eV 4) (zI 3)) (zI 3))))) aN)) aN))))
 sN)
 (b_6 (sIf (tB (e2 dEq (eV 8) (zI 3)))
 (b_6 (f_1 13 (eF c_2 (aC (e2 N_7 (eV 12) (eV 5)) (aC (e2 dEq (e2 f_3 (e2 l_9 (eV 4) (zI 3)) (zI 3)) (zI 0)) aN))))
 (f_2 (h_2 (aC (zT "span") (aC (h_2 (aC (eV 13) (aC (eF c_2 (aC (e2 e_9 (eV 12) (eV 6)) (aC (e2 dEq (e2 f_3 (e2 l_9 (eV 4) (zI 5)) (zI 3)) (zI 0)) aN))) aN))) aN)))))
 sN)
 (b_6 (f_1 9 (e2 e_9 (zI 2) (e2 b_0 (O_9 (aC (e2 f_3 (e2 l_9 (eV 4) (zI 3)) (zI 3)) (aC (e2 l_4 (e2 l_9 (eV 4) (zI 3)) (zI 999)) aN))) (e2 f_3 (e2 l_9 (eV 4) (zI 20)) (zI 1)))))
 (f_2 (h_2 (aC (zT "rest") (aC (h_2 (aC (eV 9) (aC (e2 l_4 (eV 12) (eV 9)) aN))) aN)))))))))))))))
noncomputable def f_8:List D->Option D:=fnD 4 10 A_1
noncomputable def m_2:FS :=
 (b_6 (f_1 3 (eF a_7 (aC (eV 0) (aC (eV 1) aN))))
 (b_6 (sIf (tB (e2 dEq (e2 l_4 (eV 3) (zI 3)) (zI 0)))
 (b_6 (f_1 5 (e2 b_0 (O_9 (aC (e2 N_7 (e2 l_4 (e2 l_9 (eV 3) (zI 3)) (zI 7)) (zI 3)) (aC (e2 N_7 (e2 l_4 (e2 l_9 (eV 3) (zI 3)) (zI 2001)) (zI 1000)) aN))) (e2 f_3 (e2 l_9 (eV 3) (zI 20)) (zI 1))))
 (f_2 (h_2 (aC (zT "turn") (aC (h_2 (aC (e2 e_9 (eV 5) (eF bh0 (aC (e2 dEq (eV 5) (zI 0)) aN))) (aC (eF b_3 (aC (eV 0) (aC (e2 e_9 (eV 1) (zI 1)) aN))) aN))) aN)))))
 sN)
 (b_6 (sIf (tB (e2 dEq (e2 l_4 (eV 3) (zI 3)) (zI 1)))
 (f_2 (h_2 (aC (zT "later") (aC (h_2 (aC (eF ap2 (aC (eF b_3 (aC (eV 0) (aC (e2 e_9 (eV 1) (zI 1)) aN))) aN)) aN)) aN))))
 sN)
 (b_6 (f_1 4 (eLR [2,3] (P_8 (zI 4)) tYes (e2 b_0 (eV 1) (e2 l_4 (e2 f_3 (e2 l_9 (eV 2) (e2 e_9 (zI 3) (e2 s_3 (zI 3) (eV 0)))) (zI 7)) (zI 5)))))
 (f_2 (h_2 (aC (zT "put") (aC (eF u_9 (aC (eLR [2,4] (P_8 (e2 e_9 (zI 1) (e2 f_3 (e2 l_9 (eV 3) (zI 15)) (zI 3)))) tYes (h_2 (aC (e2 b_0 (eV 1) (eV 0)) (aC (e2 b_0 (eV 2) (eV 0)) aN)))) aN)) aN))))))))
noncomputable def d_3:List D->Option D:=fnD 3 3 m_2
abbrev d_1:FS :=
 (sIf (tB (e2 dEq (eV 6) (eV 4)))
 (f_2 (h_2 (aC (eV 3) (aC (eV 7) (aC (eV 5) aN)))))
 sN)
noncomputable def c_3:FS :=
 (b_6 (ac2 [3,4,5] (eV 2))
 (b_6 (sIf (tB (e2 dEq (eV 0) (zT "turn")))
 (f_2 (h_2 (aC (eV 3) (aC (eV 4) (aC (e2 e_9 (e2 s_3 (e2 b_0 (eV 1) (zI 0)) (eV 5)) (e2 b_0 (eV 1) (zI 1))) aN)))))
 sN)
 (b_6 (sIf (tB (e2 dEq (eV 0) (zT "later")))
 (f_2 (h_2 (aC (e2 e_9 (eV 3) (e2 b_0 (eV 1) (zI 0))) (aC (eV 4) (aC (eV 5) aN)))))
 sN)
 (b_6 (sIf (tB (e2 dEq (eV 0) (zT "put")))
 (b_6 (ac3 (gT [6,7]) (eV 1)
 d_1)
 (f_2 (eV 2)))
 sN)
 (b_6 (sIf (tAnd (tB (e2 dEq (eV 0) (zT "rest"))) (tB (e2 dNe (e2 l_4 (eV 5) (e2 b_0 (eV 1) (zI 0))) (e2 b_0 (eV 1) (zI 1)))))
 (f_2 (eC .non))
 sN)
 (b_6 (sIf (tOr (tAnd (tB (e2 dEq (eV 0) (zT "only"))) (tB (e2 I_0 (eV 4) (eV 1)))) (tAnd (tB (e2 dEq (eV 0) (zT "but"))) (tB (e2 ap0 (eV 4) (eV 1)))))
 (f_2 (eC .non))
 sN)
 (b_6 (sIf (tAnd (tB (e2 dEq (eV 0) (zT "time"))) (tOr (tB (e2 dLt (eV 3) (e2 b_0 (eV 1) (zI 0)))) (tAnd (tB (e2 g_0 (e2 b_0 (eV 1) (zI 1)) (eC .non))) (tB (e2 dGe (eV 3) (e2 b_0 (eV 1) (zI 1)))))))
 (f_2 (eC .non))
 sN)
 (b_6 (sIf (tAnd (tB (e2 dEq (eV 0) (zT "span"))) (tAnd (tB (e2 g_0 (e2 b_0 (eV 1) (zI 0)) (eC .non))) (tB (e2 dLt (eV 5) (e2 b_0 (eV 1) (zI 0))))))
 (f_2 (eC .non))
 sN)
 (b_6 (sIf (tAnd (tB (e2 dEq (eV 0) (zT "span"))) (tAnd (tB (e2 g_0 (e2 b_0 (eV 1) (zI 1)) (eC .non))) (tB (e2 dGt (eV 5) (e2 b_0 (eV 1) (zI 1))))))
 (f_2 (eC .non))
 sN)
 (f_2 (eV 2)))))))))))
noncomputable def a_8:List D->Option D:=fnD 3 5 c_3
noncomputable def Y_4:FS :=
 (b_6 (f_1 4 (eF a_7 (aC (eV 0) (aC (eV 1) aN))))
 (b_6 (f_1 5 (eF b_3 (aC (eV 0) (aC (e2 e_9 (eV 1) (zI 1)) aN))))
 (b_6 (f_1 6 (eF c_2 (aC (e2 N_7 (eV 5) (eF ap2 (aC (eF b_3 (aC (eV 0) (aC (e2 e_9 (eV 1) (zI 2)) aN))) aN))) (aC (e2 dEq (e2 f_3 (e2 l_9 (eV 4) (zI 6)) (zI 3)) (zI 0)) aN))))
 (b_6 (f_1 7 (eF c_2 (aC (e2 e_9 (eV 5) (eF ap2 (aC (eF b_3 (aC (eV 0) (aC (e2 e_9 (eV 1) (zI 3)) aN))) aN))) (aC (e2 dEq (e2 f_3 (e2 l_9 (eV 4) (zI 8)) (zI 3)) (zI 0)) aN))))
 (b_6 (f_1 8 (h_2 (aC (e2 b_0 (O_9 (aC (e2 f_3 (e2 l_9 (eV 4) (zI 12)) (zI 15)) (aC (e2 l_9 (eV 4) (zI 12)) aN))) (e2 f_3 (e2 l_9 (eV 4) (zI 10)) (zI 1))) (aC (e2 b_0 (eV 3) (e2 l_4 (e2 f_3 (e2 l_9 (eV 4) (zI 3)) (zI 7)) (zI 5))) (aC (eV 5) aN)))))
 (f_2 (h_2 (aC (h_2 (aC (zT "in") (aC (e2 e_9 (e2 b_0 (zT "abc") (eV 2)) (zT "in")) (aC (h_2 aN) (aC (h_2 (aC (eV 6) (aC (eV 7) aN))) aN))))) (aC (O_9 (aC (eV 2) aN)) (aC (eV 8) aN))))))))))
noncomputable def j_0:List D->Option D:=fnD 4 5 Y_4
abbrev d_7:FS :=
 (sIf (tB (e2 dEq (eLC [7] (e2 b_0 (eV 8) (zI 1)) (tB (e2 ap0 (eV 0) (eV 1))) (eV 0)) (O_9 aN)))
 (b_6 (f_1 6 (e2 av4 (eV 6) (h_2 (aC (e2 b_0 (e2 b_0 (eV 8) (zI 0)) (zI 1)) aN))))
 (f_1 7 (e2 e_9 (eV 7) (e2 b_0 (eV 8) (zI 1)))))
 sN)
noncomputable def p_3:FS :=
 (b_6 (f_1 4 (eF a_7 (aC (eV 2) (aC (eV 3) aN))))
 (b_6 (f_1 5 (e2 b_0 (eV 0) (e2 l_4 (eV 4) (eF A_5 (aC (eV 0) aN)))))
 (b_6 (f_1 6 (h_2 (aC (e2 b_0 (e2 b_0 (eV 5) (zI 0)) (zI 1)) aN)))
 (b_6 (f_1 7 (eF ac0 (aC (e2 b_0 (eV 5) (zI 1)) aN)))
 (b_6 (ac3 (gN 8) (e1 bk4 (eV 0))
 d_7)
 (b_6 (sIf (tB (e2 dEq (eF A_5 (aC (eV 6) aN)) (zI 1)))
 (f_2 (eC .non))
 sN)
 (f_2 (h_2 (aC (h_2 (aC (zT "pour") (aC (eV 1) (aC (eV 6) (aC (h_2 aN) aN))))) (aC (eV 7) (aC (e2 b_0 (eV 5) (zI 2)) aN)))))))))))
noncomputable def e_5:List D->Option D:=fnD 4 5 p_3
noncomputable def g_1:FS :=
 (b_6 (f_1 5 (eF a_7 (aC (eV 2) (aC (eV 3) aN))))
 (b_6 (ac2 [6,7,8] (e2 b_0 (eV 0) (e2 l_4 (e2 l_9 (eV 5) (zI 4)) (eF A_5 (aC (eV 0) aN)))))
 (b_6 (sIf (tB (e2 dEq (e2 f_3 (eV 5) (zI 3)) (zI 0)))
 (b_6 (f_1 9 (eF e_5 (aC (eV 0) (aC (eV 1) (aC (eV 2) (aC (e2 e_9 (eV 3) (zI 1)) aN))))))
 (sIf (tB (e2 g_0 (eV 9) (eC .non)))
 (f_2 (eV 9))
 sN))
 sN)
 (b_6 (ac2 [10,11] (eF f_8 (aC (eV 2) (aC (e2 e_9 (eV 3) (zI 2)) (aC (eV 8) (aC (eV 4) aN))))))
 (b_6 (sIf (tB (e2 dEq (e2 f_3 (eV 5) (zI 3)) (zI 1)))
 (ac2 [10,11] (eF d_3 (aC (eV 2) (aC (e2 e_9 (eV 3) (zI 2)) (aC (eV 4) aN)))))
 sN)
 (f_2 (h_2 (aC (h_2 (aC (eV 10) (aC (eV 1) (aC (h_2 (aC (e2 b_0 (eV 6) (zI 1)) aN)) (aC (eV 11) aN))))) (aC (eV 7) (aC (eF a_8 (aC (eV 10) (aC (eV 11) (aC (eV 8) aN)))) aN))))))))))
noncomputable def b_4:List D->Option D:=fnD 5 7 g_1
abbrev d_8:FS :=
 (b_6 (f_1 14 (e2 e_9 (e2 b_0 (eV 11) (zI 2)) (e2 l_4 (e2 N_7 (eV 5) (e2 b_0 (eV 11) (zI 2))) (eV 3))))
 (b_6 (sIf (tAnd (tB (e2 g_0 (eV 13) (eC .non))) (tB (e2 dGt (eV 14) (eV 13))))
 (f_1 14 (e2 N_7 (eV 14) (eV 3)))
 sN)
 (b_6 (f_1 15 (h_2 (aC (zT "rest") (aC (e2 e_9 (zT "part") (e2 b_0 (zT "abcde") (eV 5))) (aC (h_2 (aC (e2 b_0 (eV 9) (zI 1)) aN)) (aC (h_2 (aC (eV 3) (aC (eV 5) aN))) aN))))))
 (aI2 4 (h_2 (aC (eV 15) (aC (eV 10) (aC (h_2 (aC (e2 b_0 (eV 11) (zI 0)) (aC (e2 b_0 (eV 11) (zI 1)) (aC (eV 14) aN)))) aN))))))))
noncomputable def m_1:FS :=
 (b_6 (f_1 2 (eF a_7 (aC (eV 1) (aC (zI 200) aN))))
 (b_6 (ac2 [9,10,11] (e2 b_0 (eV 0) (e2 l_4 (eV 2) (eF A_5 (aC (eV 0) aN)))))
 (b_6 (f_1 3 (e2 e_9 (zI 3) (e2 l_4 (e2 l_9 (eV 2) (zI 4)) (zI 3))))
 (b_6 (ac2 [12,13] (e2 b_0 (eV 9) (zI 3)))
 (b_6 (sIf (tOr (tB (e2 dEq (e2 f_3 (e2 l_9 (eV 2) (zI 8)) (zI 1)) (zI 1))) (tAnd (tB (e2 g_0 (eV 12) (eC .non))) (tAnd (tB (e2 g_0 (eV 13) (eC .non))) (tB (e2 dLt (e2 N_7 (eV 13) (eV 12)) (zI 5))))))
 (f_2 (eV 0))
 sN)
 (b_6 (aH7 4 (aT3 aN))
 (b_6 (Z_6 (gN 5) (P_8 (eV 3)) d_8)
 (b_6 (aH8 4 (f_1 6 (e2 e_9 (eV 4) (J_2 (eLC [10] (eV 0) (tB (e2 dNe (e2 b_0 (eV 0) (zI 1)) (eV 1))) (eV 0)) oN (oS (e2 f_3 (e2 l_9 (eV 2) (zI 9)) (zI 1)))))))
 (b_6 (f_1 7 (eF u_9 (aC (eLC [] (eV 6) tYes (e2 b_0 (e2 b_0 (eV 0) (zI 0)) (zI 1))) aN)))
 (b_6 (f_1 8 (e2 e_9 (eV 10) (eLC [] (J_2 (eV 6) (oS (eV 3)) oN) tYes (e2 b_0 (e2 b_0 (eV 0) (zI 1)) (zI 0)))))
 (f_2 (e2 e_9 (e2 e_9 (eV 0) (eV 4)) (O_9 (aC (h_2 (aC (h_2 (aC (zT "pour") (aC (zT "whole") (aC (eV 7) (aC (h_2 aN) aN))))) (aC (eV 8) (aC (e2 b_0 (e2 b_0 (eV 4) (zI 0)) (zI 2)) aN)))) aN))))))))))))))
noncomputable def c_5:List D->Option D:=fnD 2 14 m_1
abbrev h_5:FS :=
 (aI2 3 (N_4 3 (eF b_4 (aC (eV 3) (aC (e2 e_9 (zT "chain") (e2 b_0 (zT "abcde") (eV 4))) (aC (eV 0) (aC (e2 e_9 (zI 30) (e2 s_3 (zI 6) (eV 4))) (aC (eV 1) aN))))))))
noncomputable def A_0:FS :=
 (b_6 (f_1 2 (eF a_7 (aC (eV 0) (aC (zI 0) aN))))
 (b_6 (ar0 3 c_5 (oFr (eLR [0,1] (P_8 (e2 e_9 (zI 1) (e2 l_4 (eV 2) (zI 3)))) tYes (eF j_0 (aC (eV 1) (aC (e2 e_9 (zI 10) (e2 s_3 (zI 4) (eV 0))) (aC (eV 0) (aC (eV 2) aN))))))) 0)
 (b_6 (Z_6 (gN 4) (P_8 (e2 l_4 (e2 l_9 (eV 2) (zI 4)) (zI 6))) h_5)
 (aH8 3 (f_2 (eV 3))))))
noncomputable def f_7:List D->Option D:=fnD 2 3 A_0
noncomputable def z_9:FS :=
 (b_6 (ac2 [7,8,9] (eV 2))
 (b_6 (f_1 4 (eF a_7 (aC (eV 0) (aC (eV 1) aN))))
 (b_6 (sIf (tB (e2 dEq (e2 f_3 (eV 4) (zI 1)) (zI 0)))
 (f_2 (h_2 (aC (e2 e_9 (e2 b_0 (eV 9) (zI 0)) (e2 l_4 (e2 l_9 (eV 4) (zI 1)) (zI 4))) (aC (e2 b_0 (eV 9) (zI 1)) (aC (e2 b_0 (eV 9) (zI 2)) aN)))))
 sN)
 (b_6 (f_1 5 (e2 e_9 (e2 b_0 (eV 9) (zI 2)) (e2 b_0 (O_9 (aC (zI 0) (aC (zI 1) (aC (e1 bw6 (zI 1)) (aC (eF b_3 (aC (eV 0) (aC (e2 e_9 (eV 1) (zI 1)) aN))) aN))))) (e2 f_3 (e2 l_9 (eV 4) (zI 1)) (zI 3)))))
 (b_6 (sIf (tB (e2 g_0 (e2 b_0 (e2 b_0 (eV 7) (zI 3)) (zI 0)) (eC .non)))
 (f_1 5 (eF aU6 (aC (eV 5) (aC (e2 b_0 (e2 b_0 (eV 7) (zI 3)) (zI 0)) aN))))
 sN)
 (b_6 (sIf (tB (e2 g_0 (e2 b_0 (e2 b_0 (eV 7) (zI 3)) (zI 1)) (eC .non)))
 (f_1 5 (eF bl0 (aC (eV 5) (aC (e2 b_0 (e2 b_0 (eV 7) (zI 3)) (zI 1)) aN))))
 sN)
 (b_6 (f_1 6 (e2 b_0 (O_9 (aC (e2 b_0 (eV 9) (zI 0)) (aC (e2 l_4 (e2 l_9 (eV 4) (zI 4)) (zI 20)) (aC (e2 l_9 (eV 4) (zI 4)) aN)))) (e2 l_4 (e2 f_3 (e2 l_9 (eV 4) (zI 3)) (zI 3)) (zI 3))))
 (f_2 (h_2 (aC (eV 6) (aC (e2 b_0 (eV 3) (e2 l_4 (e2 f_3 (e2 l_9 (eV 4) (zI 20)) (zI 7)) (zI 5))) (aC (eV 5) aN))))))))))))
noncomputable def f_6:List D->Option D:=fnD 4 6 z_9
abbrev f_9:FS :=
 (b_6 (f_1 7 (e2 b_0 (eV 4) (e2 l_4 (eF a_7 (aC (eV 0) (aC (e2 s_3 (zI 3) (eV 6)) aN))) (eF A_5 (aC (eV 4) aN)))))
 (aI2 5 (e2 av4 (h_2 (aC (zT "thing") (aC (e2 b_0 (e2 b_0 (eV 7) (zI 0)) (zI 1)) aN))) (eF f_6 (aC (eV 0) (aC (e2 e_9 (e2 s_3 (zI 3) (eV 6)) (zI 1)) (aC (eV 7) (aC (eV 2) aN))))))))
noncomputable def s_7:FS :=
 (b_6 (f_1 4 (eLC [] (eV 1) (tB (e2 dEq (e2 b_0 (e2 b_0 (eV 0) (zI 0)) (zI 0)) (zT "in"))) (eV 0)))
 (b_6 (aH7 5 (aT3 aN))
 (b_6 (Z_6 (gN 6) (P_8 (eV 3)) f_9)
 (aH8 5 (f_2 (eV 5))))))
noncomputable def e_7:List D->Option D:=fnD 4 4 s_7
abbrev h_1 (FUEL_:List D->Option D):FS :=
 (f_1 3 (e2 e_9 (eV 3) (eF FUEL_ (aC (eV 0) (aC (eV 4) (aC (eV 2) aN))))))
noncomputable def f_0 (FUEL_:List D->Option D):FS :=
 (b_6 (ac2 [6,7,8,9] (e2 dDx (eV 0) (eV 1)))
 (b_6 (sIf (tB (e2 dEq (eV 6) (zT "in")))
 (f_2 (J_2 (O_9 (aC (J_2 (eV 2) (oS (zI 2)) oN) aN)) oN (oS (eF bh0 (aC (aP3 (e2 dEq (e2 b_0 (eV 2) (zI 0)) (zT "thing")) (e2 dEq (e2 b_0 (eV 2) (zI 1)) (eV 1))) aN)))))
 sN)
 (b_6 (f_1 3 (O_9 aN))
 (b_6 (ac3 (gN 4) (eV 8)
 (h_1 FUEL_))
 (b_6 (sIf (tB (e2 dEq (eV 6) (zT "pour")))
 (f_2 (eV 3))
 sN)
 (b_6 (f_1 5 (eLC [6,9] (eV 3) tYes (eF a_8 (aC (eV 1) (aC (eV 2) (aC (eV 0) aN))))))
 (f_2 (eLC [] (eV 5) (tB (e2 g_0 (eV 0) (eC .non))) (eV 0)))))))))
noncomputable def g_6:Nat->List D->Option D
 |0=>fnD 3 7 λ _=>none
 |n+1=>fnD 3 7 (f_0 (g_6 n))
abbrev h_6:FS :=
 (f_1 5 (e2 e_9 (eV 5) (eF (g_6 14) (aC (eV 3) (aC (eV 4) (aC (eV 6) aN))))))
abbrev k_4:FS :=
 (b_6 (f_1 5 (O_9 aN))
 (b_6 (ac3 (gN 6) (eV 2)
 h_6)
 (sIf (tOr (tNot (tV (eTy .list (e2 dDx (eV 0) (eV 4))))) (tB (e2 dNe (e2 dDx (eV 0) (eV 4)) (eF p_6 (aC (eV 5) aN)))))
 (f_2 (eC (.bl false)))
 sN)))
noncomputable def A_2:FS :=
 (b_6 (f_1 3 (eF O_6 (aC (eLC [] (eV 1) tYes (h_2 (aC (e2 b_0 (eV 0) (zI 1)) (aC (eV 0) aN)))) aN)))
 (b_6 (sIf (tOr (tNot (tV (eTy .dict (eV 0)))) (tB (e2 dNe (e1 E_0 (eV 0)) (e1 E_0 (eV 3)))))
 (f_2 (eC (.bl false)))
 sN)
 (b_6 (ac3 (gN 4) (e1 aP8 (eV 3))
 k_4)
 (f_2 (eC (.bl true))))))
noncomputable def d_6:List D->Option D:=fnD 3 4 A_2
noncomputable def bg8:FS :=
 (b_6 (f_1 1 (eF k_7 (aC (eF c_1 (aC (eV 0) (aC (zI 0) aN))) aN)))
 (b_6 (f_1 2 (eF f_7 (aC (eF c_1 (aC (eV 0) (aC (zI 1) aN))) (aC (eV 1) aN))))
 (b_6 (f_1 3 (eLC [] (eV 2) tYes (e2 b_0 (eV 0) (zI 0))))
 (b_6 (f_1 4 (eF e_7 (aC (eF c_1 (aC (eV 0) (aC (zI 2) aN))) (aC (eV 2) (aC (eV 1) (aC (e2 l_4 (eF a_7 (aC (eF c_1 (aC (eV 0) (aC (zI 0) aN))) (aC (zI 1) aN))) (zI 15)) aN))))))
 (b_6 (aH7 5 (oFr (eF ac0 (aC (eV 4) aN))))
 (b_6 (aX1 6 5 7 3 b_5 (tOr (tNot (tV (eF d_6 (aC (eV 6) (aC (eV 3) (aC (eV 4) aN)))))) (tB (e2 dNe (eV 5) (eV 4)))))
 (b_6 (f_1 8 (e2 l_4 (eF a_7 (aC (eF c_1 (aC (eV 0) (aC (zI 0) aN))) (aC (zI 2) aN))) (e2 e_9 (eF A_5 (aC (eV 4) aN)) (zI 1))))
 (b_6 (f_1 9 (e2 e_9 (J_2 (eV 4) (oS (eV 8)) oN) (e1 bk4 (J_2 (eV 4) oN (oS (eV 8))))))
 (b_6 (f_1 10 (e2 e_9 (eLC [] (eV 3) (tB (e2 dEq (e2 b_0 (eV 0) (zI 0)) (zT "in"))) (h_2 (aC (zT "mark") (aC (e2 b_0 (eV 0) (zI 1)) (aC (e2 aP7 (zI 10) (zI 12)) aN))))) (O_9 (aC (h_2 (aC (zT "close") (aC (zT "ain") aN))) aN))))
 (f_2 (eF d_6 (aC (eNF b_5 (aC (eV 3) (aC (e2 e_9 (eV 9) (eV 10)) aN))) (aC (eV 3) (aC (eV 4) aN))))))))))))))
noncomputable def aa3:List D->Option D:=fnD 1 10 bg8
end
end Fx
namespace Fx
open PySem PySem.Spec PyProof.Rows L2
noncomputable def top (i:Nat):Stmt:=PySem.Challenge.pw_latewell_k32_things_at_chains.main.body.getD i (.Pass ⟨0,0,0,0⟩)
structure Blt (w:World) (K:Frag) (mg:Str->Option Value):Prop where
 z_abs:mg "abs"=none
 z_len:mg "len"=none
 z_max:mg "max"=none
 z_min:mg "min"=none
 z_any:mg "any"=none
 z_all:mg "all"=none
 z_range:mg "range"=none
 z_isinstance:mg "isinstance"=none
 z_int:mg "int"=none
 z_bool:mg "bool"=none
 z_str:mg "str"=none
 z_tuple:mg "tuple"=none
 z_list:mg "list"=none
 z_sorted:mg "sorted"=none
 z_dict:mg "dict"=none
 z_set:mg "set"=none
 z_sum:mg "sum"=none
 z_zip:mg "zip"=none
 z_enumerate:mg "enumerate"=none
 z_reversed:mg "reversed"=none
 c_EVERY_KEY:∃ a,mg "EVERY_KEY"=some (.ref a) ∧ KV1 K (.tup [(.str "but"),(.tup [])]) (.ref a)
 c_EVERY_VALUE:∃ a,mg "EVERY_VALUE"=some (.ref a) ∧ KV1 K (.tup [.non,.non,(.int 1),(.int 0)]) (.ref a)
 c_CHAINS:∃ a,mg "CHAINS"=some (.ref a) ∧ KV1 K (.tup [(.str "in"),(.str "time"),(.str "only"),(.str "but"),(.str "span"),(.str "rest"),(.str "turn"),(.str "later"),(.str "put"),(.str "pour")]) (.ref a)
 c_through_row:∃ a,mg "through_row"=some (.ref a) ∧ KV1 K .opq (.ref a)
 kl:NoL K
section
variable {P:Program}{w:World}{K:Frag}{mg:Str->Option Value}{base:Heap}
abbrev n_4:Stmt:=top 2
theorem K_2:FnScope ["keys","key"] ["keys","key"] (a_0 n_4):=⟨rfl,rfl,rfl,by decide +kernel,rfl,by decide +kernel,by decide +kernel⟩
theorem M_2 {f:Addr}{fd:FuncData} (F:Fun K "keys_hold" "keys_hold" n_4 f fd) (Y:Binds K fd ["keys","key"] []) (mF:mg "keys_hold"=some (.ref f)) (T:Blt w K mg) :DefOk P w K mg base 1 "keys_hold" i_7 :=
 ⟨f,fd,["keys","key"],h_8 F K_2 rfl rfl (λ Z A outer s H E O =>
 (xs1 (g_2 (O_8 (cEq O.units) (O_8 bk7 (xv 1) (b_9 (xv 0) a_4)) (O_8 (cEq O.units) (b_9 (xv 0) a_4) j_7))))),Y,F.kp,mF⟩
abbrev i_8:Stmt:=top 5
theorem sc_stretch_made:FnScope ["low","high","step","rest","first","last"] ["low","high","step","rest"] (a_0 i_8):=⟨rfl,rfl,rfl,by decide +kernel,rfl,by decide +kernel,by decide +kernel⟩
theorem x_7 {f:Addr}{fd:FuncData} (F:Fun K "stretch_made" "stretch_made" i_8 f fd) (O:Binds K fd ["low","high","step","rest"] []) (Z:mg "stretch_made"=some (.ref f)) (T:Blt w K mg) :DefOk P w K mg base 1 "stretch_made" b_2 :=
 ⟨f,fd,["low","high","step","rest"],h_8 F sc_stretch_made rfl rfl (λ Y A outer s H E hr =>
 (xsC (j_8 (ap6 (xt3 cLe cLt a_4 (xv 3) (xv 2)))
 (xs1 (g_2 m_4))
 xsN)
 (xsC (g_8 4 sc_stretch_made.nd (xif (xt cIs (xv 0) m_4) m_4 (xb i_1 (xv 0) (xb q_3 (xb V_4 (xv 3) (xv 0)) (xv 2)))))
 (xsC (g_8 5 sc_stretch_made.nd (xif (xt cIs (xv 1) m_4) m_4 (xb V_4 (xv 1) (xb q_3 (xb V_4 (xv 1) (xv 3)) (xv 2)))))
 (xsC (j_8 (xw (ac7 (xt cIs (xv 4) m_4) (w_5 (xt cIs (xv 5) m_4))))
 (xs1 (g_2 (j_4 (xaC (xv 4) (xaC (xv 5) (xaC (xv 2) (xaC (xv 3) xaN)))))))
 xsN)
 (xsC (j_8 (xt cGt (xv 4) (xv 5))
 (xs1 (g_2 m_4))
 xsN)
 (xsC (j_8 (xt (cEq hr.units) (xv 4) (xv 5))
 (xs1 (g_2 (j_4 (xaC (xv 4) (xaC (xv 5) (xaC a_4 (xaC a_4 xaN)))))))
 xsN)
 (xs1 (g_2 (j_4 (xaC (xv 4) (xaC (xv 5) (xaC (xv 2) (xaC (xv 3) xaN)))))))))))))),O,F.kp,Z⟩
abbrev l_7:Stmt:=top 6
theorem F_1:FnScope ["v","low","high"] ["v","low","high"] (a_0 l_7):=⟨rfl,rfl,rfl,by decide +kernel,rfl,by decide +kernel,by decide +kernel⟩
theorem G_2 {f:Addr}{fd:FuncData} (F:Fun K "is_between" "is_between" l_7 f fd) (O:Binds K fd ["v","low","high"] []) (Z:mg "is_between"=some (.ref f)) (T:Blt w K mg) :DefOk P w K mg base 1 "is_between" e_6 :=
 ⟨f,fd,["v","low","high"],h_8 F F_1 rfl rfl (λ Y A outer s H E hr =>
 (xs1 (g_2 (bh9 (xor (O_8 cIs (xv 1) m_4) (aR1 (O_8 cLe (xv 1) (xv 0)))) (aR1 (xor (O_8 cIs (xv 2) m_4) (aR1 (O_8 cLe (xv 0) (xv 2))))))))),O,F.kp,Z⟩
abbrev k_0:Stmt:=top 7
theorem B_1:FnScope ["one","v"] ["one","v"] (a_0 k_0):=⟨rfl,rfl,rfl,by decide +kernel,rfl,by decide +kernel,by decide +kernel⟩
theorem B_4 {f:Addr}{fd:FuncData} (F:Fun K "stretch_has" "stretch_has" k_0 f fd) (Y:Binds K fd ["one","v"] []) (mF:mg "stretch_has"=some (.ref f)) (T:Blt w K mg) (G_is_between:DefOk P w K mg base 1 "is_between" e_6):DefOk P w K mg base 2 "stretch_has" g_5 :=
 ⟨f,fd,["one","v"],h_8 F B_1 rfl rfl (λ Z A outer s H E O =>
 (xs1 (g_2 (bh9 (xF G_is_between (O.mono (by decide)) (xaC (xv 1) (xaC (b_9 (xv 0) a_4) (xaC (b_9 (xv 0) a_4) xaN)))) (aR1 (O_8 (cEq O.units) (xb q_3 (xv 1) (b_9 (xv 0) a_4)) (b_9 (xv 0) a_4))))))),Y,F.kp,mF⟩
abbrev q_0:Stmt:=top 9
theorem sc_box_made:FnScope ["keys","begin","end","stretch"] ["keys","begin","end","stretch"] (a_0 q_0):=⟨rfl,rfl,rfl,by decide +kernel,rfl,by decide +kernel,by decide +kernel⟩
theorem Q_6 {f:Addr}{fd:FuncData} (F:Fun K "box_made" "box_made" q_0 f fd) (O:Binds K fd ["keys","begin","end","stretch"] []) (Z:mg "box_made"=some (.ref f)) (T:Blt w K mg) :DefOk P w K mg base 1 "box_made" c_8 :=
 ⟨f,fd,["keys","begin","end","stretch"],h_8 F sc_box_made rfl rfl (λ Y A outer s H E hr =>
 (xsC (j_8 (xw (ac7 (xt cIs (xv 0) m_4) (w_5 (xt cIs (xv 3) m_4))))
 (xs1 (g_2 m_4))
 xsN)
 (xsC (g_8 1 sc_box_made.nd (xB (S_7 rfl) rfl T.z_max PyProof.Rows.boot_max (xaC (xv 1) (xaC a_4 xaN))))
 (xsC (j_8 (xw (o_3 (xt m_0 (xv 2) m_4) (l_5 (xt cLe (xv 2) (xv 1)))))
 (xs1 (g_2 m_4))
 xsN)
 (xs1 (g_2 (j_4 (xaC (xv 0) (xaC (xv 1) (xaC (xv 2) (xaC (xv 3) xaN))))))))))),O,F.kp,Z⟩
abbrev r_7:Stmt:=top 10
theorem sc_box_has:FnScope ["box","thing","time"] ["box","thing"] (a_0 r_7):=⟨rfl,rfl,rfl,by decide +kernel,rfl,by decide +kernel,by decide +kernel⟩
theorem aa0 {f:Addr}{fd:FuncData} (F:Fun K "box_has" "box_has" r_7 f fd) (Y:Binds K fd ["box","thing"] []) (mF:mg "box_has"=some (.ref f)) (T:Blt w K mg) (G_keys_hold:DefOk P w K mg base 1 "keys_hold" i_7) (G_stretch_has:DefOk P w K mg base 2 "stretch_has" g_5):DefOk P w K mg base 3 "box_has" e_3 :=
 ⟨f,fd,["box","thing"],h_8 F sc_box_has rfl rfl (λ Z A outer s H E O =>
 (xsC (g_8 2 sc_box_has.nd (b_9 (xv 1) a_4))
 (xsC (j_8 (xw (ac7 (xt cLt (xv 2) (b_9 (xv 0) a_4)) (w_5 (xw (o_3 (xt m_0 (b_9 (xv 0) a_4) m_4) (l_5 (xt cGe (xv 2) (b_9 (xv 0) a_4))))))))
 (xs1 (g_2 xbl))
 xsN)
 (xs1 (g_2 (bh9 (xF G_keys_hold (O.mono (by decide)) (xaC (b_9 (xv 0) a_4) (xaC (b_9 (xv 1) a_4) xaN))) (aR1 (xF G_stretch_has (O.mono (by decide)) (xaC (b_9 (xv 0) a_4) (xaC (b_9 (xv 1) a_4) xaN)))))))))),Y,F.kp,mF⟩
abbrev l_8:Stmt:=top 11
theorem sc_box_sieved:FnScope ["row","word","rest"] ["row"] (a_0 l_8):=⟨rfl,rfl,rfl,by decide +kernel,rfl,by decide +kernel,by decide +kernel⟩
theorem G_3 {f:Addr}{fd:FuncData} (F:Fun K "box_sieved" "box_sieved" l_8 f fd) (Y:Binds K fd ["row"] []) (mF:mg "box_sieved"=some (.ref f)) (T:Blt w K mg) (G_box_made:DefOk P w K mg base 1 "box_made" c_8) (G_stretch_made:DefOk P w K mg base 1 "stretch_made" b_2):DefOk P w K mg base 2 "box_sieved" a_9 :=
 ⟨f,fd,["row"],h_8 F sc_box_sieved rfl rfl (λ Z A outer s H E O =>
 (xsC (g_8 1 sc_box_sieved.nd (b_9 (xv 0) a_4))
 (xsC (g_8 2 sc_box_sieved.nd (b_9 (xv 0) a_4))
 (xsC (j_8 (xt (cEq O.units) (xv 1) j_7)
 (xs1 (g_2 (xF G_box_made (O.mono (by decide)) (xaC (aD5 T.c_EVERY_KEY) (xaC (b_9 (xv 2) a_4) (xaC (b_9 (xv 2) a_4) (xaC (aD5 T.c_EVERY_VALUE) xaN)))))))
 xsN)
 (xsC (j_8 (xw (ac7 (xt (cEq O.units) (xv 1) j_7) (w_5 (xt (cEq O.units) (xv 1) j_7))))
 (xs1 (g_2 (xF G_box_made (O.mono (by decide)) (xaC (j_4 (xaC (xv 1) (xaC (xTy p_2 rfl T.z_tuple PyProof.Rows.boot_tuple (xaC (xB ab8 rfl T.z_sorted PyProof.Rows.boot_sorted (xaC (xv 2) xaN)) xaN)) xaN))) (xaC a_4 (xaC m_4 (xaC (aD5 T.c_EVERY_VALUE) xaN)))))))
 xsN)
 (xsC (j_8 (xt (cEq O.units) (xv 1) j_7)
 (xs1 (g_2 (xF G_box_made (O.mono (by decide)) (xaC (aD5 T.c_EVERY_KEY) (xaC a_4 (xaC m_4 (xaC (xF G_stretch_made (O.mono (by decide)) (xaC (b_9 (xv 2) a_4) (xaC (b_9 (xv 2) a_4) (xaC a_4 (xaC a_4 xaN))))) xaN)))))))
 xsN)
 (xsC (j_8 (xt (cEq O.units) (xv 1) j_7)
 (xs1 (g_2 (xF G_box_made (O.mono (by decide)) (xaC (aD5 T.c_EVERY_KEY) (xaC a_4 (xaC m_4 (xaC (xF G_stretch_made (O.mono (by decide)) (xaC m_4 (xaC m_4 (xaC (b_9 (xv 2) a_4) (xaC (b_9 (xv 2) a_4) xaN))))) xaN)))))))
 xsN)
 (xs1 (g_2 m_4))))))))),Y,F.kp,mF⟩
abbrev j_9:Stmt:=top 13
theorem sc_through_row:FnScope ["row","thing","rest","sieve"] ["row","thing"] (a_0 j_9):=⟨rfl,rfl,rfl,by decide +kernel,rfl,by decide +kernel,by decide +kernel⟩
theorem B_3 {f:Addr}{fd:FuncData} (F:Fun K "through_row" "through_row" j_9 f fd) (Y:Binds K fd ["row","thing"] []) (mF:mg "through_row"=some (.ref f)) (T:Blt w K mg) (G_box_has:DefOk P w K mg base 3 "box_has" e_3) (G_box_sieved:DefOk P w K mg base 2 "box_sieved" a_9):DefOk P w K mg base 4 "through_row" b_1 :=
 ⟨f,fd,["row","thing"],h_8 F sc_through_row rfl rfl (λ Z A outer s H E O =>
 (xsC (g_8 2 sc_through_row.nd (b_9 (xv 0) a_4))
 (xsC (j_8 (xt (cEq O.units) (b_9 (xv 0) a_4) j_7)
 (xs1 (g_2 (j_4 (xaC (b_9 (xv 1) a_4) (xaC (b_9 (xv 1) a_4) (xaC (xb i_1 (xb Q_7 (b_9 (xv 2) a_4) (b_9 (xv 1) a_4)) (b_9 (xv 2) a_4)) xaN))))))
 xsN)
 (xsC (j_8 (xt (cEq O.units) (b_9 (xv 0) a_4) j_7)
 (xs1 (g_2 (j_4 (xaC (xb i_1 (b_9 (xv 1) a_4) (b_9 (xv 2) a_4)) (xaC (b_9 (xv 1) a_4) (xaC (b_9 (xv 1) a_4) xaN))))))
 xsN)
 (xsC (j_8 (xt (cEq O.units) (b_9 (xv 0) a_4) j_7)
 (xs1 (g_2 (j_4 (xaC (b_9 (xv 1) a_4) (xaC (bm0 T.z_dict (R_6 O) (xv 2) (b_9 (xv 1) a_4) (b_9 (xv 1) a_4)) (xaC (b_9 (xv 1) a_4) xaN))))))
 xsN)
 (xsC (g_8 3 sc_through_row.nd (xF G_box_sieved (O.mono (by decide)) (xaC (xv 0) xaN)))
 (xs1 (g_2 (xif (xw (o_3 (xt m_0 (xv 3) m_4) (l_5 (xtv (xF G_box_has (O.mono (by decide)) (xaC (xv 3) (xaC (xv 1) xaN))) (λ _=>rfl))))) (xv 1) m_4))))))))),Y,F.kp,mF⟩
abbrev c_4:Stmt:=top 14
theorem sc_through_froms:FnScope ["row","above","by_row","found","name"] ["row","above","by_row"] (a_0 c_4):=⟨rfl,rfl,rfl,by decide +kernel,rfl,by decide +kernel,by decide +kernel⟩
theorem v_2 {f:Addr}{fd:FuncData} (F:Fun K "through_froms" "through_froms" c_4 f fd) (Y:Binds K fd ["row","above","by_row"] []) (mF:mg "through_froms"=some (.ref f)) (T:Blt w K mg) (G_through_row:DefOk P w K mg base 4 "through_row" b_1):DefOk P w K mg base 5 "through_froms" b_7 :=
 ⟨f,fd,["row","above","by_row"],h_8 F sc_through_froms rfl rfl (λ Z A outer s H E O =>
 (xsC (bh6 3 sc_through_froms.nd (aD4 xaN))
 (xsC (aR2 (xgN 4 sc_through_froms.nd) (b_9 (xv 0) a_4)
 (xs1 (bl9 3 (xdx (R_6 O) (xv 1) (xv 4)))))
 (xsC (bh8 3 (j_8 (xt (cEq O.units) (b_9 (xv 0) a_4) j_7)
 (xs1 (g_2 (xv 3)))
 xsN))
 (xsC (J_3 3 sc_through_froms.nd (sc:=a_0 c_4) rfl rfl (by show ScB ["row","above","by_row","found","name"] (a_0 c_4) _ "one" ["by_row","row"] [2,0];exact⟨rfl,rfl,by decide +kernel,by decide +kernel,rfl,by decide +kernel,by decide +kernel,rfl,by decide +kernel⟩) (xv 3) (λ _ _ _ _=>k_8) (λ _ _ _ _=>(xFv 1 G_through_row (O.mono (by decide)) (xaC (xv 2) (xaC (xv 0) xaN)))))
 (xs1 (g_2 (xlc (sc:=a_0 c_4) rfl rfl (by show ScB ["row","above","by_row","found","name"] (a_0 c_4) _ "one" [] [];exact⟨rfl,rfl,by decide +kernel,by decide +kernel,rfl,by decide +kernel,by decide +kernel,rfl,by decide +kernel⟩) (xv 3) (λ _ _ _ _=>(o_4 (xt m_0 (xv 0) m_4))) (λ _ _ _ _=>(xv 0)))))))))),Y,F.kp,mF⟩
abbrev i_3:Stmt:=top 17
theorem K_0:FnScope ["row","things","comings"] ["row","things","comings"] (a_0 i_3):=⟨rfl,rfl,rfl,by decide +kernel,rfl,by decide +kernel,by decide +kernel⟩
theorem L_5 {f:Addr}{fd:FuncData} (F:Fun K "things_of" "things_of" i_3 f fd) (Y:Binds K fd ["row","things","comings"] []) (mF:mg "things_of"=some (.ref f)) (T:Blt w K mg) (G_through_froms:DefOk P w K mg base 5 "through_froms" b_7):DefOk P w K mg base 6 "things_of" d_0 :=
 ⟨f,fd,["row","things","comings"],h_8 F K_0 rfl rfl (λ Z A outer s H E O =>
 (xsC (j_8 (xt (cEq O.units) (b_9 (xv 0) a_4) j_7)
 (xs1 (g_2 (xlc (sc:=a_0 i_3) rfl rfl (by show ScB ["row","things","comings"] (a_0 i_3) _ "coming" ["row"] [0];exact⟨rfl,rfl,by decide +kernel,by decide +kernel,rfl,by decide +kernel,by decide +kernel,rfl,by decide +kernel⟩) (xv 2) (λ _ _ _ _=>(o_4 (xw (o_3 (xt (cEq O.units) (b_9 (xv 0) a_4) j_7) (l_5 (xt (cEq O.units) (b_9 (xv 0) a_4) (b_9 (xv 1) a_4))))))) (λ _ _ _ _=>(ao6 (xv 0) (xoS a_4) xoN)))))
 xsN)
 (xs1 (g_2 (xF G_through_froms (O.mono (by decide)) (xaC (xv 0) (xaC (xv 1) (xaC (aD5 T.c_through_row) xaN)))))))),Y,F.kp,mF⟩
abbrev i_9:Stmt:=top 18
theorem sc_chain_things:FnScope ["works","comings","things","row"] ["works","comings"] (a_0 i_9):=⟨rfl,rfl,rfl,by decide +kernel,rfl,by decide +kernel,by decide +kernel⟩
theorem x_8 {f:Addr}{fd:FuncData} (F:Fun K "chain_things" "chain_things" i_9 f fd) (Y:Binds K fd ["works","comings"] []) (mF:mg "chain_things"=some (.ref f)) (T:Blt w K mg) (G_things_of:DefOk P w K mg base 6 "things_of" d_0):DefN P w K mg base 7 "chain_things" b_5 :=
 ⟨f,fd,["works","comings"],be1 F sc_chain_things rfl rfl (λ Z A outer s H E O =>
 (xnC (xnS (xdn 2 sc_chain_things.nd))
 (xnC (xnS (aR2 (xgN 3 sc_chain_things.nd) (xv 0)
 (xs1 (j_8 (xt bk7 (b_9 (xv 3) a_4) (aD5 T.c_CHAINS))
 (xs1 (xdk 2 (R_6 O) (b_9 (xv 3) a_4) (bl7 2 (xB (O_0 O.units) rfl T.z_sorted PyProof.Rows.boot_sorted (xaC (xF G_things_of (O.mono (by decide)) (xaC (xv 3) (xaC (xv 2) (xaC (xv 1) xaN)))) xaN)))))
 xsN))))
 (xnO 2)))),Y,F.kp,mF⟩
abbrev k_2:Stmt:=top 20
theorem B_2:FnScope ["_law_script","_law_k"] ["_law_script","_law_k"] (a_0 k_2):=⟨rfl,rfl,rfl,by decide +kernel,rfl,by decide +kernel,by decide +kernel⟩
theorem B_7 {f:Addr}{fd:FuncData} (F:Fun K "_law_cell_at" "_law_cell_at" k_2 f fd) (O:Binds K fd ["_law_script","_law_k"] []) (Z:mg "_law_cell_at"=some (.ref f)) (T:Blt w K mg) :DefOk P w K mg base 1 "_law_cell_at" c_1 :=
 ⟨f,fd,["_law_script","_law_k"],h_8 F B_2 rfl rfl (λ Y A outer s H E hr =>
 (xsC (j_8 (xt cLt (xv 1) (xB n_7 rfl T.z_len PySem.boot_len (xaC (xv 0) xaN)))
 (xs1 (g_2 (b_9 (xv 0) (xv 1))))
 xsN)
 (xs1 (g_2 a_4)))),O,F.kp,Z⟩
abbrev n_2:Stmt:=top 21
theorem sc_law_mixed:FnScope ["_law_cell","_law_k","_law_number_here"] ["_law_cell","_law_k"] (a_0 n_2):=⟨rfl,rfl,rfl,by decide +kernel,rfl,by decide +kernel,by decide +kernel⟩
theorem M_0 {f:Addr}{fd:FuncData} (F:Fun K "_law_mixed" "_law_mixed" n_2 f fd) (O:Binds K fd ["_law_cell","_law_k"] []) (Z:mg "_law_mixed"=some (.ref f)) (T:Blt w K mg) :DefOk P w K mg base 1 "_law_mixed" a_7 :=
 ⟨f,fd,["_law_cell","_law_k"],h_8 F sc_law_mixed rfl rfl (λ Y A outer s H E hr =>
 (xsC (g_8 2 sc_law_mixed.nd (xb q_3 (xb Q_7 (xb i_1 (xb i_1 (xb h_4 (xv 0) a_4) (xb Q_7 a_4 (xv 1))) a_4) a_4) a_4))
 (xsC (g_8 2 sc_law_mixed.nd (xb q_3 (xb Q_7 (xv 2) (xb i_1 (xb bA5 (xv 2) a_4) a_4)) a_4))
 (xsC (g_8 2 sc_law_mixed.nd (xb q_3 (xb Q_7 (xv 2) (xb i_1 (xb bA5 (xv 2) a_4) a_4)) a_4))
 (xs1 (g_2 (xb br5 (xv 2) (xb h_4 (xb p_0 (xv 0) (xb i_1 (xb Q_7 a_4 (xv 1)) a_4)) a_4)))))))),O,F.kp,Z⟩
abbrev h_0:Stmt:=top 22
theorem sc_law_keys:FnScope ["_law_cell","_law_some","_law_number_here","_law_stem"] ["_law_cell"] (a_0 h_0):=⟨rfl,rfl,rfl,by decide +kernel,rfl,by decide +kernel,by decide +kernel⟩
theorem Q_4 {f:Addr}{fd:FuncData} (F:Fun K "_law_keys" "_law_keys" h_0 f fd) (O:Binds K fd ["_law_cell"] []) (Z:mg "_law_keys"=some (.ref f)) (T:Blt w K mg) (G_law_mixed:DefOk P w K mg base 1 "_law_mixed" a_7):DefOk P w K mg base 2 "_law_keys" k_7 :=
 ⟨f,fd,["_law_cell"],h_8 F sc_law_keys rfl rfl (λ Y A outer s H E hr =>
 (xsC (g_8 1 sc_law_keys.nd j_7)
 (xsC (g_8 2 sc_law_keys.nd (xF G_law_mixed (hr.mono (by decide)) (xaC (xv 0) (xaC a_4 xaN))))
 (xsC (g_8 3 sc_law_keys.nd (bl6 (bh7 T.z_range (sc:=a_0 h_0) rfl rfl (by show ScB ["_law_cell","_law_some","_law_number_here","_law_stem"] (a_0 h_0) _ "_law_k" ["_law_some","_law_number_here"] [1,2];exact⟨rfl,rfl,by decide +kernel,by decide +kernel,rfl,by decide +kernel,by decide +kernel,rfl,by decide +kernel⟩) (xb h_4 (xb p_0 (xv 2) a_4) a_4) (λ _ _ _ _=>k_8) (λ _ _ _ _=>(b_9 (xv 1) (xb q_3 (xb h_4 (xb p_0 (xv 2) (xb Q_7 a_4 (xv 0))) a_4) a_4))))))
 (xs1 (g_2 (bh7 T.z_range (sc:=a_0 h_0) rfl rfl (by show ScB ["_law_cell","_law_some","_law_number_here","_law_stem"] (a_0 h_0) _ "_law_k" ["_law_some","_law_stem","_law_number_here"] [1,3,2];exact⟨rfl,rfl,by decide +kernel,by decide +kernel,rfl,by decide +kernel,by decide +kernel,rfl,by decide +kernel⟩) a_4 (λ _ _ _ _=>k_8) (λ _ _ _ _=>(xb i_1 (b_9 (xv 1) (xb q_3 (xb i_1 (xb p_0 (xv 3) a_4) (xb Q_7 a_4 (xv 0))) a_4)) (ao6 (xv 2) xoN (xoS (xb q_3 (xv 0) a_4)))))))))))),O,F.kp,Z⟩
abbrev l_6:Stmt:=top 23
theorem sc_law_number:FnScope ["_law_cell","_law_j","_law_number_here"] ["_law_cell","_law_j"] (a_0 l_6):=⟨rfl,rfl,rfl,by decide +kernel,rfl,by decide +kernel,by decide +kernel⟩
theorem G_0 {f:Addr}{fd:FuncData} (F:Fun K "_law_number" "_law_number" l_6 f fd) (O:Binds K fd ["_law_cell","_law_j"] []) (Z:mg "_law_number"=some (.ref f)) (T:Blt w K mg) (G_law_mixed:DefOk P w K mg base 1 "_law_mixed" a_7):DefOk P w K mg base 2 "_law_number" b_3 :=
 ⟨f,fd,["_law_cell","_law_j"],h_8 F sc_law_number rfl rfl (λ Y A outer s H E hr =>
 (xsC (g_8 2 sc_law_number.nd (xF G_law_mixed (hr.mono (by decide)) (xaC (xv 0) (xaC (xv 1) xaN))))
 (xsC (j_8 (xt cGt (xb h_4 (xv 2) a_4) a_4)
 (xs1 (g_2 (xb V_4 (xb q_3 (xb p_0 (xv 2) a_4) a_4) a_4)))
 xsN)
 (xs1 (g_2 (xb i_1 (xb Q_7 (xb V_4 (xv 2) a_4) a_4) (xb h_4 (xv 2) a_4))))))),O,F.kp,Z⟩
abbrev n_3:Stmt:=top 24
theorem K_1:FnScope ["_law_number_here","_law_shut"] ["_law_number_here","_law_shut"] (a_0 n_3):=⟨rfl,rfl,rfl,by decide +kernel,rfl,by decide +kernel,by decide +kernel⟩
theorem M_1 {f:Addr}{fd:FuncData} (F:Fun K "_law_bound" "_law_bound" n_3 f fd) (O:Binds K fd ["_law_number_here","_law_shut"] []) (Z:mg "_law_bound"=some (.ref f)) (T:Blt w K mg) :DefOk P w K mg base 1 "_law_bound" c_2 :=
 ⟨f,fd,["_law_number_here","_law_shut"],h_8 F K_1 rfl rfl (λ Y A outer s H E hr =>
 (xsC (j_8 (xw (ac7 (xtv (xv 1) (λ _=>rfl)) (w_5 (xt cGe (xB t_9 rfl T.z_abs PyProof.Rows.boot_abs (xaC (xv 0) xaN)) (xb br3 a_4 a_4)))))
 (xs1 (g_2 m_4))
 xsN)
 (xs1 (g_2 (xv 0))))),O,F.kp,Z⟩
abbrev i_5:Stmt:=top 25
theorem sc_law_sieve:FnScope ["_law_cell","_law_j","_law_thing_here","_law_keys_here","_law_number_here","_law_near","_law_far","_law_others","_law_way","_law_size","_law_time","_law_key","_law_value","_law_low"] ["_law_cell","_law_j","_law_thing_here","_law_keys_here"] (a_0 i_5):=⟨rfl,rfl,rfl,by decide +kernel,rfl,by decide +kernel,by decide +kernel⟩
theorem L_8 {f:Addr}{fd:FuncData} (F:Fun K "_law_sieve" "_law_sieve" i_5 f fd) (Y:Binds K fd ["_law_cell","_law_j","_law_thing_here","_law_keys_here"] []) (mF:mg "_law_sieve"=some (.ref f)) (T:Blt w K mg) (G_law_bound:DefOk P w K mg base 1 "_law_bound" c_2) (G_law_mixed:DefOk P w K mg base 1 "_law_mixed" a_7) (G_law_number:DefOk P w K mg base 2 "_law_number" b_3):DefOk P w K mg base 3 "_law_sieve" f_8 :=
 ⟨f,fd,["_law_cell","_law_j","_law_thing_here","_law_keys_here"],h_8 F sc_law_sieve rfl rfl (λ Z A outer s H E O =>
 (xsC (n_0 (xgT (t_1 (xgN 10 sc_law_sieve.nd) (t_1 (xgN 11 sc_law_sieve.nd) (t_1 (xgN 12 sc_law_sieve.nd) ao7)))) (xv 2))
 (xsC (g_8 4 sc_law_sieve.nd (xF G_law_mixed (O.mono (by decide)) (xaC (xv 0) (xaC (xv 1) xaN))))
 (xsC (g_8 5 sc_law_sieve.nd (xB t_9 rfl T.z_abs PyProof.Rows.boot_abs (xaC (xF G_law_number (O.mono (by decide)) (xaC (xv 0) (xaC (xb i_1 (xv 1) a_4) xaN))) xaN)))
 (xsC (g_8 6 sc_law_sieve.nd (xB t_9 rfl T.z_abs PyProof.Rows.boot_abs (xaC (xF G_law_number (O.mono (by decide)) (xaC (xv 0) (xaC (xb i_1 (xv 1) a_4) xaN))) xaN)))
 (xsC (J_3 7 sc_law_sieve.nd (sc:=a_0 i_5) rfl rfl (by show ScB ["_law_cell","_law_j","_law_thing_here","_law_keys_here","_law_number_here","_law_near","_law_far","_law_others","_law_way","_law_size","_law_time","_law_key","_law_value","_law_low"] (a_0 i_5) _ "_law_one" ["_law_key"] [11];exact⟨rfl,rfl,by decide +kernel,by decide +kernel,rfl,by decide +kernel,by decide +kernel,rfl,by decide +kernel⟩) (xv 3) (λ _ _ _ _=>(o_4 (xt (cNe O.units) (xv 0) (xv 1)))) (λ _ _ _ _=>(xv 0)))
 (xsC (g_8 8 sc_law_sieve.nd (xb q_3 (xv 4) a_4))
 (xsC (j_8 (xw (o_3 (xt (cEq O.units) (xv 8) a_4) (l_5 (xt cLt (xv 10) (xb V_4 (xb br3 a_4 a_4) a_4)))))
 (xs1 (g_2 (j_4 (xaC j_7 (xaC (j_4 (xaC (xB (S_7 rfl) rfl T.z_max PyProof.Rows.boot_max (xaC a_4 (xaC (xb V_4 (xv 10) (xv 5)) xaN))) (xaC (xF G_law_bound (O.mono (by decide)) (xaC (xb i_1 (xb i_1 (xv 10) a_4) (xv 6)) (xaC (O_8 (cEq O.units) (xb h_4 (xb p_0 (xv 4) a_4) a_4) a_4) xaN))) xaN))) xaN)))))
 xsN)
 (xsC (j_8 (xt (cEq O.units) (xv 8) a_4)
 (xs1 (g_2 (j_4 (xaC j_7 (xaC (xTy p_2 rfl T.z_tuple PyProof.Rows.boot_tuple (xaC (xb i_1 (Z_0 (xaC (xv 11) xaN)) (ao6 (xv 7) xoN (xoS (xb h_4 (xb p_0 (xv 4) a_4) a_4)))) xaN)) xaN)))))
 xsN)
 (xsC (j_8 (xt (cEq O.units) (xv 8) a_4)
 (xs1 (g_2 (j_4 (xaC j_7 (xaC (xTy p_2 rfl T.z_tuple PyProof.Rows.boot_tuple (xaC (ao6 (xv 7) xoN (xoS (xb i_1 a_4 (xb h_4 (xb p_0 (xv 4) a_4) a_4)))) xaN)) xaN)))))
 xsN)
 (xsC (j_8 (xt (cEq O.units) (xv 8) a_4)
 (xsC (g_8 13 sc_law_sieve.nd (xF G_law_bound (O.mono (by decide)) (xaC (xb V_4 (xv 12) (xv 5)) (xaC (O_8 (cEq O.units) (xb h_4 (xb p_0 (xv 4) a_4) a_4) a_4) xaN))))
 (xs1 (g_2 (j_4 (xaC j_7 (xaC (j_4 (xaC (xv 13) (xaC (xF G_law_bound (O.mono (by decide)) (xaC (xb i_1 (xv 12) (xv 6)) (xaC (O_8 (cEq O.units) (xb h_4 (xb p_0 (xv 4) a_4) a_4) a_4) xaN))) xaN))) xaN))))))
 xsN)
 (xsC (g_8 9 sc_law_sieve.nd (xb i_1 a_4 (b_9 (Z_0 (xaC (xb h_4 (xb p_0 (xv 4) a_4) a_4) (xaC (xb q_3 (xb p_0 (xv 4) a_4) a_4) xaN))) (xb h_4 (xb p_0 (xv 4) a_4) a_4))))
 (xs1 (g_2 (j_4 (xaC j_7 (xaC (j_4 (xaC (xv 9) (xaC (xb q_3 (xv 12) (xv 9)) xaN))) xaN))))))))))))))))),Y,F.kp,mF⟩
abbrev e_4:Stmt:=top 26
theorem sc_law_change:FnScope ["_law_cell","_law_j","_law_keys_here","_law_number_here","_law_others","_law_a"] ["_law_cell","_law_j","_law_keys_here"] (a_0 e_4):=⟨rfl,rfl,rfl,by decide +kernel,rfl,by decide +kernel,by decide +kernel⟩
theorem G_1 {f:Addr}{fd:FuncData} (F:Fun K "_law_change" "_law_change" e_4 f fd) (Y:Binds K fd ["_law_cell","_law_j","_law_keys_here"] []) (mF:mg "_law_change"=some (.ref f)) (T:Blt w K mg) (G_law_mixed:DefOk P w K mg base 1 "_law_mixed" a_7) (G_law_number:DefOk P w K mg base 2 "_law_number" b_3):DefOk P w K mg base 3 "_law_change" d_3 :=
 ⟨f,fd,["_law_cell","_law_j","_law_keys_here"],h_8 F sc_law_change rfl rfl (λ Z A outer s H E O =>
 (xsC (g_8 3 sc_law_change.nd (xF G_law_mixed (O.mono (by decide)) (xaC (xv 0) (xaC (xv 1) xaN))))
 (xsC (j_8 (xt (cEq O.units) (xb q_3 (xv 3) a_4) a_4)
 (xsC (g_8 5 sc_law_change.nd (b_9 (Z_0 (xaC (xb V_4 (xb q_3 (xb p_0 (xv 3) a_4) a_4) a_4) (xaC (xb V_4 (xb q_3 (xb p_0 (xv 3) a_4) a_4) a_4) xaN))) (xb h_4 (xb p_0 (xv 3) a_4) a_4)))
 (xs1 (g_2 (j_4 (xaC j_7 (xaC (j_4 (xaC (xb i_1 (xv 5) (xTy an4 rfl T.z_int PyProof.Rows.boot_int (xaC (O_8 (cEq O.units) (xv 5) a_4) xaN))) (xaC (xF G_law_number (O.mono (by decide)) (xaC (xv 0) (xaC (xb i_1 (xv 1) a_4) xaN))) xaN))) xaN))))))
 xsN)
 (xsC (j_8 (xt (cEq O.units) (xb q_3 (xv 3) a_4) a_4)
 (xs1 (g_2 (j_4 (xaC j_7 (xaC (j_4 (xaC (xB t_9 rfl T.z_abs PyProof.Rows.boot_abs (xaC (xF G_law_number (O.mono (by decide)) (xaC (xv 0) (xaC (xb i_1 (xv 1) a_4) xaN))) xaN)) xaN)) xaN)))))
 xsN)
 (xsC (g_8 4 sc_law_change.nd (bh7 T.z_range (sc:=a_0 e_4) rfl rfl (by show ScB ["_law_cell","_law_j","_law_keys_here","_law_number_here","_law_others","_law_a"] (a_0 e_4) _ "_law_k" ["_law_keys_here","_law_number_here"] [2,3];exact⟨rfl,rfl,by decide +kernel,by decide +kernel,rfl,by decide +kernel,by decide +kernel,rfl,by decide +kernel⟩) a_4 (λ _ _ _ _=>k_8) (λ _ _ _ _=>(b_9 (xv 1) (xb q_3 (xb h_4 (xb p_0 (xv 2) (xb i_1 a_4 (xb Q_7 a_4 (xv 0)))) a_4) a_4)))))
 (xs1 (g_2 (j_4 (xaC j_7 (xaC (xTy p_2 rfl T.z_tuple PyProof.Rows.boot_tuple (xaC (bh7 T.z_range (sc:=a_0 e_4) rfl rfl (by show ScB ["_law_cell","_law_j","_law_keys_here","_law_number_here","_law_others","_law_a"] (a_0 e_4) _ "_law_k" ["_law_keys_here","_law_others"] [2,4];exact⟨rfl,rfl,by decide +kernel,by decide +kernel,rfl,by decide +kernel,by decide +kernel,rfl,by decide +kernel⟩) (xb i_1 a_4 (xb h_4 (xb p_0 (xv 3) a_4) a_4)) (λ _ _ _ _=>k_8) (λ _ _ _ _=>(j_4 (xaC (b_9 (xv 1) (xv 0)) (xaC (b_9 (xv 2) (xv 0)) xaN))))) xaN)) xaN)))))))))),Y,F.kp,mF⟩
abbrev k_1:Stmt:=top 27
theorem sc_law_through:FnScope ["_law_word","_law_behind","_law_thing_here","_law_time","_law_key","_law_value","_law_one","_law_other"] ["_law_word","_law_behind","_law_thing_here"] (a_0 k_1):=⟨rfl,rfl,rfl,by decide +kernel,rfl,by decide +kernel,by decide +kernel⟩
theorem B_5 {f:Addr}{fd:FuncData} (F:Fun K "_law_through" "_law_through" k_1 f fd) (Y:Binds K fd ["_law_word","_law_behind","_law_thing_here"] []) (mF:mg "_law_through"=some (.ref f)) (T:Blt w K mg) :DefOk P w K mg base 1 "_law_through" a_8 :=
 ⟨f,fd,["_law_word","_law_behind","_law_thing_here"],h_8 F sc_law_through rfl rfl (λ Z A outer s H E O =>
 (xsC (n_0 (xgT (t_1 (xgN 3 sc_law_through.nd) (t_1 (xgN 4 sc_law_through.nd) (t_1 (xgN 5 sc_law_through.nd) ao7)))) (xv 2))
 (xsC (j_8 (xt (cEq O.units) (xv 0) j_7)
 (xs1 (g_2 (j_4 (xaC (xv 3) (xaC (xv 4) (xaC (xb i_1 (xb Q_7 (b_9 (xv 1) a_4) (xv 5)) (b_9 (xv 1) a_4)) xaN))))))
 xsN)
 (xsC (j_8 (xt (cEq O.units) (xv 0) j_7)
 (xs1 (g_2 (j_4 (xaC (xb i_1 (xv 3) (b_9 (xv 1) a_4)) (xaC (xv 4) (xaC (xv 5) xaN))))))
 xsN)
 (xsC (j_8 (xt (cEq O.units) (xv 0) j_7)
 (xsC (aR2 (xgT (t_1 (xgN 6 sc_law_through.nd) (t_1 (xgN 7 sc_law_through.nd) ao7))) (xv 1)
 (xs1 (j_8 (xt (cEq O.units) (xv 6) (xv 4))
 (xs1 (g_2 (j_4 (xaC (xv 3) (xaC (xv 7) (xaC (xv 5) xaN))))))
 xsN)))
 (xs1 (g_2 (xv 2))))
 xsN)
 (xsC (j_8 (xw (o_3 (xt (cEq O.units) (xv 0) j_7) (l_5 (xt (cNe O.units) (xb q_3 (xv 5) (b_9 (xv 1) a_4)) (b_9 (xv 1) a_4)))))
 (xs1 (g_2 m_4))
 xsN)
 (xsC (j_8 (xw (ac7 (xw (o_3 (xt (cEq O.units) (xv 0) j_7) (l_5 (xt aQ4 (xv 4) (xv 1))))) (w_5 (xw (o_3 (xt (cEq O.units) (xv 0) j_7) (l_5 (xt bk7 (xv 4) (xv 1))))))))
 (xs1 (g_2 m_4))
 xsN)
 (xsC (j_8 (xw (o_3 (xt (cEq O.units) (xv 0) j_7) (l_5 (xw (ac7 (xt cLt (xv 3) (b_9 (xv 1) a_4)) (w_5 (xw (o_3 (xt m_0 (b_9 (xv 1) a_4) m_4) (l_5 (xt cGe (xv 3) (b_9 (xv 1) a_4)))))))))))
 (xs1 (g_2 m_4))
 xsN)
 (xsC (j_8 (xw (o_3 (xt (cEq O.units) (xv 0) j_7) (o_3 (xt m_0 (b_9 (xv 1) a_4) m_4) (l_5 (xt cLt (xv 5) (b_9 (xv 1) a_4))))))
 (xs1 (g_2 m_4))
 xsN)
 (xsC (j_8 (xw (o_3 (xt (cEq O.units) (xv 0) j_7) (o_3 (xt m_0 (b_9 (xv 1) a_4) m_4) (l_5 (xt cGt (xv 5) (b_9 (xv 1) a_4))))))
 (xs1 (g_2 m_4))
 xsN)
 (xs1 (g_2 (xv 2))))))))))))),Y,F.kp,mF⟩
abbrev v_9:Stmt:=top 28
theorem sc_law_in:FnScope ["_law_cell","_law_j","_law_k","_law_keys_here","_law_number_here","_law_value","_law_low","_law_high","_law_thing_here"] ["_law_cell","_law_j","_law_k","_law_keys_here"] (a_0 v_9):=⟨rfl,rfl,rfl,by decide +kernel,rfl,by decide +kernel,by decide +kernel⟩
theorem ag3 {f:Addr}{fd:FuncData} (F:Fun K "_law_in" "_law_in" v_9 f fd) (Y:Binds K fd ["_law_cell","_law_j","_law_k","_law_keys_here"] []) (mF:mg "_law_in"=some (.ref f)) (T:Blt w K mg) (G_law_bound:DefOk P w K mg base 1 "_law_bound" c_2) (G_law_mixed:DefOk P w K mg base 1 "_law_mixed" a_7) (G_law_number:DefOk P w K mg base 2 "_law_number" b_3):DefOk P w K mg base 3 "_law_in" j_0 :=
 ⟨f,fd,["_law_cell","_law_j","_law_k","_law_keys_here"],h_8 F sc_law_in rfl rfl (λ Z A outer s H E O =>
 (xsC (g_8 4 sc_law_in.nd (xF G_law_mixed (O.mono (by decide)) (xaC (xv 0) (xaC (xv 1) xaN))))
 (xsC (g_8 5 sc_law_in.nd (xF G_law_number (O.mono (by decide)) (xaC (xv 0) (xaC (xb i_1 (xv 1) a_4) xaN))))
 (xsC (g_8 6 sc_law_in.nd (xF G_law_bound (O.mono (by decide)) (xaC (xb V_4 (xv 5) (xB t_9 rfl T.z_abs PyProof.Rows.boot_abs (xaC (xF G_law_number (O.mono (by decide)) (xaC (xv 0) (xaC (xb i_1 (xv 1) a_4) xaN))) xaN))) (xaC (O_8 (cEq O.units) (xb h_4 (xb p_0 (xv 4) a_4) a_4) a_4) xaN))))
 (xsC (g_8 7 sc_law_in.nd (xF G_law_bound (O.mono (by decide)) (xaC (xb i_1 (xv 5) (xB t_9 rfl T.z_abs PyProof.Rows.boot_abs (xaC (xF G_law_number (O.mono (by decide)) (xaC (xv 0) (xaC (xb i_1 (xv 1) a_4) xaN))) xaN))) (xaC (O_8 (cEq O.units) (xb h_4 (xb p_0 (xv 4) a_4) a_4) a_4) xaN))))
 (xsC (g_8 8 sc_law_in.nd (j_4 (xaC (b_9 (Z_0 (xaC (xb h_4 (xb p_0 (xv 4) a_4) a_4) (xaC (xb p_0 (xv 4) a_4) xaN))) (xb h_4 (xb p_0 (xv 4) a_4) a_4)) (xaC (b_9 (xv 3) (xb q_3 (xb h_4 (xb p_0 (xv 4) a_4) a_4) a_4)) (xaC (xv 5) xaN)))))
 (xs1 (g_2 (j_4 (xaC (j_4 (xaC j_7 (xaC (xb i_1 (b_9 j_7 (xv 2)) j_7) (xaC (j_4 xaN) (xaC (j_4 (xaC (xv 6) (xaC (xv 7) xaN))) xaN))))) (xaC (Z_0 (xaC (xv 2) xaN)) (xaC (xv 8) xaN)))))))))))),Y,F.kp,mF⟩
abbrev g_9:Stmt:=top 29
theorem sc_law_poured:FnScope ["_law_spots_here","_law_name","_law_cell","_law_j","_law_number_here","_law_first","_law_names","_law_ins","_law_other"] ["_law_spots_here","_law_name","_law_cell","_law_j"] (a_0 g_9):=⟨rfl,rfl,rfl,by decide +kernel,rfl,by decide +kernel,by decide +kernel⟩
theorem F_8 {f:Addr}{fd:FuncData} (F:Fun K "_law_poured" "_law_poured" g_9 f fd) (Y:Binds K fd ["_law_spots_here","_law_name","_law_cell","_law_j"] []) (mF:mg "_law_poured"=some (.ref f)) (T:Blt w K mg) (G_law_mixed:DefOk P w K mg base 1 "_law_mixed" a_7):DefOk P w K mg base 2 "_law_poured" e_5 :=
 ⟨f,fd,["_law_spots_here","_law_name","_law_cell","_law_j"],h_8 F sc_law_poured rfl rfl (λ Z A outer s H E O =>
 (xsC (g_8 4 sc_law_poured.nd (xF G_law_mixed (O.mono (by decide)) (xaC (xv 2) (xaC (xv 3) xaN))))
 (xsC (g_8 5 sc_law_poured.nd (b_9 (xv 0) (xb q_3 (xv 4) (xB n_7 rfl T.z_len PySem.boot_len (xaC (xv 0) xaN)))))
 (xsC (g_8 6 sc_law_poured.nd (j_4 (xaC (b_9 (b_9 (xv 5) a_4) a_4) xaN)))
 (xsC (g_8 7 sc_law_poured.nd (xTy aw1 rfl T.z_list PyProof.Rows.boot_list (xaC (b_9 (xv 5) a_4) xaN)))
 (xsC (aR2 (xgN 8 sc_law_poured.nd) (by2 (xv 0))
 (xs1 (j_8 (xt (cEq O.units) (xlc (sc:=a_0 g_9) rfl rfl (by show ScB ["_law_spots_here","_law_name","_law_cell","_law_j","_law_number_here","_law_first","_law_names","_law_ins","_law_other"] (a_0 g_9) _ "_law_one" ["_law_ins"] [7];exact⟨rfl,rfl,by decide +kernel,by decide +kernel,rfl,by decide +kernel,by decide +kernel,rfl,by decide +kernel⟩) (b_9 (xv 8) a_4) (λ _ _ _ _=>(o_4 (xt bk7 (xv 0) (xv 1)))) (λ _ _ _ _=>(xv 0))) (Z_0 xaN))
 (xsC (g_8 6 sc_law_poured.nd (xb bb0 (xv 6) (j_4 (xaC (b_9 (b_9 (xv 8) a_4) a_4) xaN))))
 (xs1 (g_8 7 sc_law_poured.nd (xb i_1 (xv 7) (b_9 (xv 8) a_4)))))
 xsN)))
 (xsC (j_8 (xt (cEq O.units) (xB n_7 rfl T.z_len PySem.boot_len (xaC (xv 6) xaN)) a_4)
 (xs1 (g_2 m_4))
 xsN)
 (xs1 (g_2 (j_4 (xaC (j_4 (xaC j_7 (xaC (xv 1) (xaC (xv 6) (xaC (j_4 xaN) xaN))))) (xaC (xv 7) (xaC (b_9 (xv 5) a_4) xaN))))))))))))),Y,F.kp,mF⟩
abbrev h_3:Stmt:=top 30
theorem sc_law_next_spot:FnScope ["_law_spots_here","_law_name","_law_cell","_law_j","_law_keys_here","_law_number_here","_law_row","_law_ins","_law_thing_here","_law_found","_law_word","_law_behind"] ["_law_spots_here","_law_name","_law_cell","_law_j","_law_keys_here"] (a_0 h_3):=⟨rfl,rfl,rfl,by decide +kernel,rfl,by decide +kernel,by decide +kernel⟩
theorem v_3 {f:Addr}{fd:FuncData} (F:Fun K "_law_next_spot" "_law_next_spot" h_3 f fd) (Y:Binds K fd ["_law_spots_here","_law_name","_law_cell","_law_j","_law_keys_here"] []) (mF:mg "_law_next_spot"=some (.ref f)) (T:Blt w K mg) (G_law_change:DefOk P w K mg base 3 "_law_change" d_3) (G_law_mixed:DefOk P w K mg base 1 "_law_mixed" a_7) (G_law_poured:DefOk P w K mg base 2 "_law_poured" e_5) (G_law_sieve:DefOk P w K mg base 3 "_law_sieve" f_8) (G_law_through:DefOk P w K mg base 1 "_law_through" a_8):DefOk P w K mg base 4 "_law_next_spot" b_4 :=
 ⟨f,fd,["_law_spots_here","_law_name","_law_cell","_law_j","_law_keys_here"],h_8 F sc_law_next_spot rfl rfl (λ Z A outer s H E O =>
 (xsC (g_8 5 sc_law_next_spot.nd (xF G_law_mixed (O.mono (by decide)) (xaC (xv 2) (xaC (xv 3) xaN))))
 (xsC (n_0 (xgT (t_1 (xgN 6 sc_law_next_spot.nd) (t_1 (xgN 7 sc_law_next_spot.nd) (t_1 (xgN 8 sc_law_next_spot.nd) ao7)))) (b_9 (xv 0) (xb q_3 (xb p_0 (xv 5) a_4) (xB n_7 rfl T.z_len PySem.boot_len (xaC (xv 0) xaN)))))
 (xsC (j_8 (xt (cEq O.units) (xb h_4 (xv 5) a_4) a_4)
 (xsC (g_8 9 sc_law_next_spot.nd (xF G_law_poured (O.mono (by decide)) (xaC (xv 0) (xaC (xv 1) (xaC (xv 2) (xaC (xb i_1 (xv 3) a_4) xaN))))))
 (xs1 (j_8 (xt m_0 (xv 9) m_4)
 (xs1 (g_2 (xv 9)))
 xsN)))
 xsN)
 (xsC (n_0 (xgT (t_1 (xgN 10 sc_law_next_spot.nd) (t_1 (xgN 11 sc_law_next_spot.nd) ao7))) (xF G_law_sieve (O.mono (by decide)) (xaC (xv 2) (xaC (xb i_1 (xv 3) a_4) (xaC (xv 8) (xaC (xv 4) xaN))))))
 (xsC (j_8 (xt (cEq O.units) (xb h_4 (xv 5) a_4) a_4)
 (xs1 (n_0 (xgT (t_1 (xgN 10 sc_law_next_spot.nd) (t_1 (xgN 11 sc_law_next_spot.nd) ao7))) (xF G_law_change (O.mono (by decide)) (xaC (xv 2) (xaC (xb i_1 (xv 3) a_4) (xaC (xv 4) xaN))))))
 xsN)
 (xs1 (g_2 (j_4 (xaC (j_4 (xaC (xv 10) (xaC (xv 1) (xaC (j_4 (xaC (b_9 (xv 6) a_4) xaN)) (xaC (xv 11) xaN))))) (xaC (xv 7) (xaC (xF G_law_through (O.mono (by decide)) (xaC (xv 10) (xaC (xv 11) (xaC (xv 8) xaN)))) xaN)))))))))))),Y,F.kp,mF⟩
abbrev c_6:Stmt:=top 31
theorem sc_law_parted:FnScope ["_law_spots_here","_law_cell","_law_number_here","_law_size","_law_parts","_law_k","_law_joined_ones","_law_names","_law_whole","_law_row","_law_ins","_law_thing_here","_law_low","_law_high","_law_value","_law_part"] ["_law_spots_here","_law_cell"] (a_0 c_6):=⟨rfl,rfl,rfl,by decide +kernel,rfl,by decide +kernel,by decide +kernel⟩
theorem F_9 {f:Addr}{fd:FuncData} (F:Fun K "_law_parted" "_law_parted" c_6 f fd) (Y:Binds K fd ["_law_spots_here","_law_cell"] []) (mF:mg "_law_parted"=some (.ref f)) (T:Blt w K mg) (G_law_mixed:DefOk P w K mg base 1 "_law_mixed" a_7):DefOk P w K mg base 2 "_law_parted" c_5 :=
 ⟨f,fd,["_law_spots_here","_law_cell"],h_8 F sc_law_parted rfl rfl (λ Z A outer s H E O =>
 (xsC (g_8 2 sc_law_parted.nd (xF G_law_mixed (O.mono (by decide)) (xaC (xv 1) (xaC a_4 xaN))))
 (xsC (n_0 (xgT (t_1 (xgN 9 sc_law_parted.nd) (t_1 (xgN 10 sc_law_parted.nd) (t_1 (xgN 11 sc_law_parted.nd) ao7)))) (b_9 (xv 0) (xb q_3 (xv 2) (xB n_7 rfl T.z_len PySem.boot_len (xaC (xv 0) xaN)))))
 (xsC (g_8 3 sc_law_parted.nd (xb i_1 a_4 (xb q_3 (xb p_0 (xv 2) a_4) a_4)))
 (xsC (n_0 (xgT (t_1 (xgN 12 sc_law_parted.nd) (t_1 (xgN 13 sc_law_parted.nd) ao7))) (b_9 (xv 9) a_4))
 (xsC (j_8 (xw (ac7 (xt (cEq O.units) (xb h_4 (xb p_0 (xv 2) a_4) a_4) a_4) (w_5 (xw (o_3 (xt m_0 (xv 12) m_4) (o_3 (xt m_0 (xv 13) m_4) (l_5 (xt cLt (xb V_4 (xv 13) (xv 12)) a_4))))))))
 (xs1 (g_2 (xv 0)))
 xsN)
 (xsC (bh6 4 sc_law_parted.nd (aD4 xaN))
 (xsC (ac8 T.z_range (xgN 5 sc_law_parted.nd) (xv 3) (xsC (g_8 14 sc_law_parted.nd (xb i_1 (b_9 (xv 11) a_4) (xb q_3 (xb V_4 (xv 5) (b_9 (xv 11) a_4)) (xv 3))))
 (xsC (j_8 (xw (o_3 (xt m_0 (xv 13) m_4) (l_5 (xt cGt (xv 14) (xv 13)))))
 (xs1 (g_8 14 sc_law_parted.nd (xb V_4 (xv 14) (xv 3))))
 xsN)
 (xsC (g_8 15 sc_law_parted.nd (j_4 (xaC j_7 (xaC (xb i_1 j_7 (b_9 j_7 (xv 5))) (xaC (j_4 (xaC (b_9 (xv 9) a_4) xaN)) (xaC (j_4 (xaC (xv 3) (xaC (xv 5) xaN))) xaN))))))
 (xs1 (bm1 4 (xaC (j_4 (xaC (xv 15) (xaC (xv 10) (xaC (j_4 (xaC (b_9 (xv 11) a_4) (xaC (b_9 (xv 11) a_4) (xaC (xv 14) xaN)))) xaN)))) xaN)))))))
 (xsC (bh8 4 (g_8 6 sc_law_parted.nd (xb i_1 (xv 4) (ao6 (xlc (sc:=a_0 c_6) rfl rfl (by show ScB ["_law_spots_here","_law_cell","_law_number_here","_law_size","_law_parts","_law_k","_law_joined_ones","_law_names","_law_whole","_law_row","_law_ins","_law_thing_here","_law_low","_law_high","_law_value","_law_part"] (a_0 c_6) _ "_law_one" ["_law_ins"] [10];exact⟨rfl,rfl,by decide +kernel,by decide +kernel,rfl,by decide +kernel,by decide +kernel,rfl,by decide +kernel⟩) (xv 0) (λ _ _ _ _=>(o_4 (xt (cNe O.units) (b_9 (xv 0) a_4) (xv 1)))) (λ _ _ _ _=>(xv 0))) xoN (xoS (xb h_4 (xb p_0 (xv 2) a_4) a_4))))))
 (xsC (g_8 7 sc_law_parted.nd (xTy p_2 rfl T.z_tuple PyProof.Rows.boot_tuple (xaC (xlc (sc:=a_0 c_6) rfl rfl (by show ScB ["_law_spots_here","_law_cell","_law_number_here","_law_size","_law_parts","_law_k","_law_joined_ones","_law_names","_law_whole","_law_row","_law_ins","_law_thing_here","_law_low","_law_high","_law_value","_law_part"] (a_0 c_6) _ "_law_one" [] [];exact⟨rfl,rfl,by decide +kernel,by decide +kernel,rfl,by decide +kernel,by decide +kernel,rfl,by decide +kernel⟩) (xv 6) (λ _ _ _ _=>k_8) (λ _ _ _ _=>(b_9 (b_9 (xv 0) a_4) a_4))) xaN)))
 (xsC (g_8 8 sc_law_parted.nd (xb i_1 (xv 10) (xlc (sc:=a_0 c_6) rfl rfl (by show ScB ["_law_spots_here","_law_cell","_law_number_here","_law_size","_law_parts","_law_k","_law_joined_ones","_law_names","_law_whole","_law_row","_law_ins","_law_thing_here","_law_low","_law_high","_law_value","_law_part"] (a_0 c_6) _ "_law_one" [] [];exact⟨rfl,rfl,by decide +kernel,by decide +kernel,rfl,by decide +kernel,by decide +kernel,rfl,by decide +kernel⟩) (ao6 (xv 6) (xoS (xv 3)) xoN) (λ _ _ _ _=>k_8) (λ _ _ _ _=>(b_9 (b_9 (xv 0) a_4) a_4)))))
 (xs1 (g_2 (xb i_1 (xb i_1 (xv 0) (xv 4)) (Z_0 (xaC (j_4 (xaC (j_4 (xaC j_7 (xaC j_7 (xaC (xv 7) (xaC (j_4 xaN) xaN))))) (xaC (xv 8) (xaC (b_9 (b_9 (xv 4) a_4) a_4) xaN)))) xaN)))))))))))))))),Y,F.kp,mF⟩
abbrev i_4:Stmt:=top 32
theorem sc_law_spots:FnScope ["_law_cell","_law_keys_here","_law_number_here","_law_spots_here","_law_k"] ["_law_cell","_law_keys_here"] (a_0 i_4):=⟨rfl,rfl,rfl,by decide +kernel,rfl,by decide +kernel,by decide +kernel⟩
theorem L_7 {f:Addr}{fd:FuncData} (F:Fun K "_law_spots" "_law_spots" i_4 f fd) (Y:Binds K fd ["_law_cell","_law_keys_here"] []) (mF:mg "_law_spots"=some (.ref f)) (T:Blt w K mg) (G_law_in:DefOk P w K mg base 3 "_law_in" j_0) (G_law_mixed:DefOk P w K mg base 1 "_law_mixed" a_7) (G_law_next_spot:DefOk P w K mg base 4 "_law_next_spot" b_4) (G_law_parted:DefOk P w K mg base 2 "_law_parted" c_5):DefOk P w K mg base 5 "_law_spots" f_7 :=
 ⟨f,fd,["_law_cell","_law_keys_here"],h_8 F sc_law_spots rfl rfl (λ Z A outer s H E O =>
 (xsC (g_8 2 sc_law_spots.nd (xF G_law_mixed (O.mono (by decide)) (xaC (xv 0) (xaC a_4 xaN))))
 (xsC (bl4 3 0 sc_law_spots.nd G_law_parted (O.mono (by decide)) T.kl (bl5 T.z_range (sc:=a_0 i_4) rfl rfl (by show ScB ["_law_cell","_law_keys_here","_law_number_here","_law_spots_here","_law_k"] (a_0 i_4) _ "_law_k" ["_law_cell","_law_keys_here"] [0,1];exact⟨rfl,rfl,by decide +kernel,by decide +kernel,rfl,by decide +kernel,by decide +kernel,rfl,by decide +kernel⟩) (xb i_1 a_4 (xb q_3 (xv 2) a_4)) (λ _ _ _ _=>k_8) (λ _ _ _ _=>(xF G_law_in (O.mono (by decide)) (xaC (xv 1) (xaC (xb i_1 a_4 (xb Q_7 a_4 (xv 0))) (xaC (xv 0) (xaC (xv 2) xaN))))))))
 (xsC (ac8 T.z_range (xgN 4 sc_law_spots.nd) (xb q_3 (xb p_0 (xv 2) a_4) a_4) (xs1 (bm1 3 (xaC (xhr 3 (xF G_law_next_spot (O.mono (by decide)) (xaC (xv 3) (xaC (xb i_1 j_7 (b_9 j_7 (xv 4))) (xaC (xv 0) (xaC (xb i_1 a_4 (xb Q_7 a_4 (xv 4))) (xaC (xv 1) xaN))))))) xaN))))
 (xs1 (bh8 3 (g_2 (xv 3)))))))),Y,F.kp,mF⟩
abbrev n_1:Stmt:=top 33
theorem sc_law_thing:FnScope ["_law_cell","_law_j","_law_spot","_law_keys_here","_law_number_here","_law_value","_law_time","_law_row","_law_ins","_law_planted"] ["_law_cell","_law_j","_law_spot","_law_keys_here"] (a_0 n_1):=⟨rfl,rfl,rfl,by decide +kernel,rfl,by decide +kernel,by decide +kernel⟩
theorem L_6 {f:Addr}{fd:FuncData} (F:Fun K "_law_thing" "_law_thing" n_1 f fd) (Y:Binds K fd ["_law_cell","_law_j","_law_spot","_law_keys_here"] []) (mF:mg "_law_thing"=some (.ref f)) (T:Blt w K mg) (G_law_mixed:DefOk P w K mg base 1 "_law_mixed" a_7) (G_law_number:DefOk P w K mg base 2 "_law_number" b_3):DefOk P w K mg base 3 "_law_thing" f_6 :=
 ⟨f,fd,["_law_cell","_law_j","_law_spot","_law_keys_here"],h_8 F sc_law_thing rfl rfl (λ Z A outer s H E O =>
 (xsC (n_0 (xgT (t_1 (xgN 7 sc_law_thing.nd) (t_1 (xgN 8 sc_law_thing.nd) (t_1 (xgN 9 sc_law_thing.nd) ao7)))) (xv 2))
 (xsC (g_8 4 sc_law_thing.nd (xF G_law_mixed (O.mono (by decide)) (xaC (xv 0) (xaC (xv 1) xaN))))
 (xsC (j_8 (xt (cEq O.units) (xb h_4 (xv 4) a_4) a_4)
 (xs1 (g_2 (j_4 (xaC (xb i_1 (b_9 (xv 9) a_4) (xb q_3 (xb p_0 (xv 4) a_4) a_4)) (xaC (b_9 (xv 9) a_4) (xaC (b_9 (xv 9) a_4) xaN))))))
 xsN)
 (xsC (g_8 5 sc_law_thing.nd (xb i_1 (b_9 (xv 9) a_4) (b_9 (Z_0 (xaC a_4 (xaC a_4 (xaC (bG5 a_4) (xaC (xF G_law_number (O.mono (by decide)) (xaC (xv 0) (xaC (xb i_1 (xv 1) a_4) xaN))) xaN))))) (xb h_4 (xb p_0 (xv 4) a_4) a_4))))
 (xsC (j_8 (xt m_0 (b_9 (b_9 (xv 7) a_4) a_4) m_4)
 (xs1 (g_8 5 sc_law_thing.nd (xB (S_7 rfl) rfl T.z_max PyProof.Rows.boot_max (xaC (xv 5) (xaC (b_9 (b_9 (xv 7) a_4) a_4) xaN)))))
 xsN)
 (xsC (j_8 (xt m_0 (b_9 (b_9 (xv 7) a_4) a_4) m_4)
 (xs1 (g_8 5 sc_law_thing.nd (xB (aQ3 rfl) rfl T.z_min PyProof.Rows.boot_min (xaC (xv 5) (xaC (b_9 (b_9 (xv 7) a_4) a_4) xaN)))))
 xsN)
 (xsC (g_8 6 sc_law_thing.nd (b_9 (Z_0 (xaC (b_9 (xv 9) a_4) (xaC (xb q_3 (xb p_0 (xv 4) a_4) a_4) (xaC (xb p_0 (xv 4) a_4) xaN)))) (xb q_3 (xb h_4 (xb p_0 (xv 4) a_4) a_4) a_4)))
 (xs1 (g_2 (j_4 (xaC (xv 6) (xaC (b_9 (xv 3) (xb q_3 (xb h_4 (xb p_0 (xv 4) a_4) a_4) a_4)) (xaC (xv 5) xaN)))))))))))))),Y,F.kp,mF⟩
abbrev g_3:Stmt:=top 34
theorem sc_law_comings:FnScope ["_law_cell","_law_spots_here","_law_keys_here","_law_many","_law_ins","_law_found","_law_k","_law_spot"] ["_law_cell","_law_spots_here","_law_keys_here","_law_many"] (a_0 g_3):=⟨rfl,rfl,rfl,by decide +kernel,rfl,by decide +kernel,by decide +kernel⟩
theorem B_6 {f:Addr}{fd:FuncData} (F:Fun K "_law_comings" "_law_comings" g_3 f fd) (Y:Binds K fd ["_law_cell","_law_spots_here","_law_keys_here","_law_many"] []) (mF:mg "_law_comings"=some (.ref f)) (T:Blt w K mg) (G_law_mixed:DefOk P w K mg base 1 "_law_mixed" a_7) (G_law_thing:DefOk P w K mg base 3 "_law_thing" f_6):DefOk P w K mg base 4 "_law_comings" e_7 :=
 ⟨f,fd,["_law_cell","_law_spots_here","_law_keys_here","_law_many"],h_8 F sc_law_comings rfl rfl (λ Z A outer s H E O =>
 (xsC (J_3 4 sc_law_comings.nd (sc:=a_0 g_3) rfl rfl (by show ScB ["_law_cell","_law_spots_here","_law_keys_here","_law_many","_law_ins","_law_found","_law_k","_law_spot"] (a_0 g_3) _ "_law_spot" [] [];exact⟨rfl,rfl,by decide +kernel,by decide +kernel,rfl,by decide +kernel,by decide +kernel,rfl,by decide +kernel⟩) (xv 1) (λ _ _ _ _=>(o_4 (xt (cEq O.units) (b_9 (b_9 (xv 0) a_4) a_4) j_7))) (λ _ _ _ _=>(xv 0)))
 (xsC (bh6 5 sc_law_comings.nd (aD4 xaN))
 (xsC (ac8 T.z_range (xgN 6 sc_law_comings.nd) (xv 3) (xsC (g_8 7 sc_law_comings.nd (b_9 (xv 4) (xb q_3 (xF G_law_mixed (O.mono (by decide)) (xaC (xv 0) (xaC (xb Q_7 a_4 (xv 6)) xaN))) (xB n_7 rfl T.z_len PySem.boot_len (xaC (xv 4) xaN)))))
 (xs1 (bm1 5 (xaC (xb bb0 (j_4 (xaC j_7 (xaC (b_9 (b_9 (xv 7) a_4) a_4) xaN))) (xF G_law_thing (O.mono (by decide)) (xaC (xv 0) (xaC (xb i_1 (xb Q_7 a_4 (xv 6)) a_4) (xaC (xv 7) (xaC (xv 2) xaN)))))) xaN)))))
 (xs1 (bh8 5 (g_2 (xv 5)))))))),Y,F.kp,mF⟩
abbrev e_2:Stmt:=top 35
theorem sc_law_come:FnScope ["_law_rows","_law_name","_law_coming","_law_found","_law_one","_law_passed","_law_word","_law_here","_law_froms","_law_behind"] ["_law_rows","_law_name","_law_coming"] (a_0 e_2):=⟨rfl,rfl,rfl,by decide +kernel,rfl,by decide +kernel,by decide +kernel⟩
theorem L_4 {f:Addr}{fd:FuncData} (F:Fun K "_law_come" "_law_come" e_2 f fd) (Z:Binds K fd ["_law_rows","_law_name","_law_coming"] []) (Y:mg "_law_come"=some (.ref f)) (T:Blt w K mg):DefOk P w K mg base 2 "_law_come" (g_6 0) :=
 ⟨f,fd,_,h_8 F sc_law_come rfl rfl (λ aa A outer s H E hr=>λ _ _ _ _ _ _ O=>by obtain⟨_,_,_,_,_,e,_⟩:=O;exact nomatch e),Z,F.kp,Y⟩
theorem M_3 {f:Addr}{fd:FuncData} (F:Fun K "_law_come" "_law_come" e_2 f fd) (Z:Binds K fd ["_law_rows","_law_name","_law_coming"] []) (Y:mg "_law_come"=some (.ref f)) (T:Blt w K mg) {n:Nat}{g:List D → Option D} (hn:1 ≤ n) (G_law_come:DefOk P w K mg base n "_law_come" g) (G_law_through:DefOk P w K mg base 1 "_law_through" a_8):DefOk P w K mg base (n+1) "_law_come" (fnD 3 7 (f_0 g)) :=
 ⟨f,fd,["_law_rows","_law_name","_law_coming"],h_8 F sc_law_come rfl rfl (λ aa A outer s H E O =>
 (xsC (n_0 (xgT (t_1 (xgN 6 sc_law_come.nd) (t_1 (xgN 7 sc_law_come.nd) (t_1 (xgN 8 sc_law_come.nd) (t_1 (xgN 9 sc_law_come.nd) ao7))))) (xdx (R_6 O) (xv 0) (xv 1)))
 (xsC (j_8 (xt (cEq O.units) (xv 6) j_7)
 (xs1 (g_2 (ao6 (Z_0 (xaC (ao6 (xv 2) (xoS a_4) xoN) xaN)) xoN (xoS (xTy an4 rfl T.z_int PyProof.Rows.boot_int (xaC (bh9 (O_8 (cEq O.units) (b_9 (xv 2) a_4) j_7) (aR1 (O_8 (cEq O.units) (b_9 (xv 2) a_4) (xv 1)))) xaN))))))
 xsN)
 (xsC (g_8 3 sc_law_come.nd (Z_0 xaN))
 (xsC (aR2 (xgN 4 sc_law_come.nd) (xv 8)
 (xs1 (g_8 3 sc_law_come.nd (xb i_1 (xv 3) (xF G_law_come O (xaC (xv 0) (xaC (xv 4) (xaC (xv 2) xaN))))))))
 (xsC (j_8 (xt (cEq O.units) (xv 6) j_7)
 (xs1 (g_2 (xv 3)))
 xsN)
 (xsC (J_3 5 sc_law_come.nd (sc:=a_0 e_2) rfl rfl (by show ScB ["_law_rows","_law_name","_law_coming","_law_found","_law_one","_law_passed","_law_word","_law_here","_law_froms","_law_behind"] (a_0 e_2) _ "_law_thing_here" ["_law_word","_law_behind"] [6,9];exact⟨rfl,rfl,by decide +kernel,by decide +kernel,rfl,by decide +kernel,by decide +kernel,rfl,by decide +kernel⟩) (xv 3) (λ _ _ _ _=>k_8) (λ _ _ _ _=>(xF G_law_through (O.mono hn) (xaC (xv 1) (xaC (xv 2) (xaC (xv 0) xaN))))))
 (xs1 (g_2 (xlc (sc:=a_0 e_2) rfl rfl (by show ScB ["_law_rows","_law_name","_law_coming","_law_found","_law_one","_law_passed","_law_word","_law_here","_law_froms","_law_behind"] (a_0 e_2) _ "_law_thing_here" [] [];exact⟨rfl,rfl,by decide +kernel,by decide +kernel,rfl,by decide +kernel,by decide +kernel,rfl,by decide +kernel⟩) (xv 5) (λ _ _ _ _=>(o_4 (xt m_0 (xv 0) m_4))) (λ _ _ _ _=>(xv 0)))))))))))),Z,F.kp,Y⟩
theorem u_4 {f:Addr}{fd:FuncData} (F:Fun K "_law_come" "_law_come" e_2 f fd) (O:Binds K fd ["_law_rows","_law_name","_law_coming"] []) (Y:mg "_law_come"=some (.ref f)) (T:Blt w K mg) (G_law_through:DefOk P w K mg base 1 "_law_through" a_8):∀ n,DefOk P w K mg base (2+n) "_law_come" (g_6 n)
 |0=>L_4 F O Y T
 |n+1=>M_3 (n:=2+n) F O Y T (by omega) (u_4 F O Y T G_law_through n) G_law_through
theorem Q_5 {f:Addr}{fd:FuncData} (F:Fun K "_law_come" "_law_come" e_2 f fd) (O:Binds K fd ["_law_rows","_law_name","_law_coming"] []) (Y:mg "_law_come"=some (.ref f)) (T:Blt w K mg) (G_law_through:DefOk P w K mg base 1 "_law_through" a_8):DefOk P w K mg base 16 "_law_come" (g_6 14):=u_4 F O Y T G_law_through 14
abbrev i_6:Stmt:=top 36
theorem sc_law_right:FnScope ["_law_found","_law_works","_law_comings_here","_law_rows","_law_name","_law_due","_law_coming"] ["_law_found","_law_works","_law_comings_here"] (a_0 i_6):=⟨rfl,rfl,rfl,by decide +kernel,rfl,by decide +kernel,by decide +kernel⟩
theorem L_9 {f:Addr}{fd:FuncData} (F:Fun K "_law_right" "_law_right" i_6 f fd) (Y:Binds K fd ["_law_found","_law_works","_law_comings_here"] []) (mF:mg "_law_right"=some (.ref f)) (T:Blt w K mg) (G_law_come:DefOk P w K mg base 16 "_law_come" (g_6 14)):DefOk P w K mg base 17 "_law_right" d_6 :=
 ⟨f,fd,["_law_found","_law_works","_law_comings_here"],h_8 F sc_law_right rfl rfl (λ Z A outer s H E O =>
 (xsC (g_8 3 sc_law_right.nd (xTy (an5 rfl) rfl T.z_dict PyProof.Rows.boot_dict (xaC (xlc (sc:=a_0 i_6) rfl rfl (by show ScB ["_law_found","_law_works","_law_comings_here","_law_rows","_law_name","_law_due","_law_coming"] (a_0 i_6) _ "_law_row" [] [];exact⟨rfl,rfl,by decide +kernel,by decide +kernel,rfl,by decide +kernel,by decide +kernel,rfl,by decide +kernel⟩) (xv 1) (λ _ _ _ _=>k_8) (λ _ _ _ _=>(j_4 (xaC (b_9 (xv 0) a_4) (xaC (xv 0) xaN))))) xaN)))
 (xsC (j_8 (xw (ac7 (ap6 (xtv (xty (t:=.dict) T.z_isinstance T.z_dict PyProof.Rows.boot_dict (xv 0)) (λ _=>rfl))) (w_5 (xt (cNe O.units) (aw9 T.z_sorted (xv 0)) (aw9 T.z_sorted (xv 3))))))
 (xs1 (g_2 xbl))
 xsN)
 (xsC (bl8 (xgN 4 sc_law_right.nd) (xv 3)
 (xsC (g_8 5 sc_law_right.nd (Z_0 xaN))
 (xsC (aR2 (xgN 6 sc_law_right.nd) (xv 2)
 (xs1 (g_8 5 sc_law_right.nd (xb i_1 (xv 5) (xF G_law_come (O.mono (by decide)) (xaC (xv 3) (xaC (xv 4) (xaC (xv 6) xaN))))))))
 (xs1 (j_8 (xw (ac7 (ap6 (xtv (xty (t:=.list) T.z_isinstance T.z_list PyProof.Rows.boot_list (xdx (R_6 O) (xv 0) (xv 4))) (λ _=>rfl))) (w_5 (xt (cNe O.units) (xdx (R_6 O) (xv 0) (xv 4)) (xB (O_0 O.units) rfl T.z_sorted PyProof.Rows.boot_sorted (xaC (xv 5) xaN))))))
 (xs1 (g_2 xbl))
 xsN)))))
 (xs1 (g_2 xbl)))))),Y,F.kp,mF⟩
abbrev w_9:Stmt:=top 37
theorem sc_law:FnScope ["_law_script","_law_keys_here","_law_spots_here","_law_works","_law_comings_here","_law_handed","_law_found","_law_name","_law_at","_law_turned","_law_more"] ["_law_script"] (a_0 w_9):=⟨rfl,rfl,rfl,by decide +kernel,rfl,by decide +kernel,by decide +kernel⟩
theorem be0 {f:Addr}{fd:FuncData} (F:Fun K "law" "law" w_9 f fd) (T:Blt w K mg) (G_law_cell_at:DefOk P w K mg base 1 "_law_cell_at" c_1) (G_law_comings:DefOk P w K mg base 4 "_law_comings" e_7) (G_law_keys:DefOk P w K mg base 2 "_law_keys" k_7) (G_law_mixed:DefOk P w K mg base 1 "_law_mixed" a_7) (G_law_right:DefOk P w K mg base 17 "_law_right" d_6) (G_law_spots:DefOk P w K mg base 5 "_law_spots" f_7) (G_chain_things:DefN P w K mg base 7 "chain_things" b_5):FnOk P w K mg base CX0 18 f fd ["_law_script"] (spP K aa3) :=
 h_8 F sc_law rfl rfl (λ Y A outer s H E O =>
 (xsC (g_8 1 sc_law.nd (xF G_law_keys (O.mono (by decide)) (xaC (xF G_law_cell_at (O.mono (by decide)) (xaC (xv 0) (xaC a_4 xaN))) xaN)))
 (xsC (g_8 2 sc_law.nd (xF G_law_spots (O.mono (by decide)) (xaC (xF G_law_cell_at (O.mono (by decide)) (xaC (xv 0) (xaC a_4 xaN))) (xaC (xv 1) xaN))))
 (xsC (J_3 3 sc_law.nd (sc:=a_0 w_9) rfl rfl (by show ScB ["_law_script","_law_keys_here","_law_spots_here","_law_works","_law_comings_here","_law_handed","_law_found","_law_name","_law_at","_law_turned","_law_more"] (a_0 w_9) _ "_law_spot" [] [];exact⟨rfl,rfl,by decide +kernel,by decide +kernel,rfl,by decide +kernel,by decide +kernel,rfl,by decide +kernel⟩) (xv 2) (λ _ _ _ _=>k_8) (λ _ _ _ _=>(b_9 (xv 0) a_4)))
 (xsC (g_8 4 sc_law.nd (xF G_law_comings (O.mono (by decide)) (xaC (xF G_law_cell_at (O.mono (by decide)) (xaC (xv 0) (xaC a_4 xaN))) (xaC (xv 2) (xaC (xv 1) (xaC (xb q_3 (xF G_law_mixed (O.mono (by decide)) (xaC (xF G_law_cell_at (O.mono (by decide)) (xaC (xv 0) (xaC a_4 xaN))) (xaC a_4 xaN))) a_4) xaN))))))
 (xsC (bh6 5 sc_law.nd (aU7 T.z_list (xv 4)))
 (bG4 6 5 7 3 sc_law.nd G_chain_things (O.mono (by decide)) T.kl (R_6 O) (xw (ac7 (ap6 (xtv (xF G_law_right (O.mono (by decide)) (xaC (xv 6) (xaC (xv 3) (xaC (xv 4) xaN)))) (λ _=>rfl))) (w_5 (xt (cNe O.units) (xv 5) (xv 4)))))
 (xsC (g_8 8 sc_law.nd (xb q_3 (xF G_law_mixed (O.mono (by decide)) (xaC (xF G_law_cell_at (O.mono (by decide)) (xaC (xv 0) (xaC a_4 xaN))) (xaC a_4 xaN))) (xb i_1 (xB n_7 rfl T.z_len PySem.boot_len (xaC (xv 4) xaN)) a_4)))
 (xsC (g_8 9 sc_law.nd (xb i_1 (ao6 (xv 4) (xoS (xv 8)) xoN) (by2 (ao6 (xv 4) xoN (xoS (xv 8))))))
 (xsC (g_8 10 sc_law.nd (xb i_1 (xlc (sc:=a_0 w_9) rfl rfl (by show ScB ["_law_script","_law_keys_here","_law_spots_here","_law_works","_law_comings_here","_law_handed","_law_found","_law_name","_law_at","_law_turned","_law_more"] (a_0 w_9) _ "_law_row" [] [];exact⟨rfl,rfl,by decide +kernel,by decide +kernel,rfl,by decide +kernel,by decide +kernel,rfl,by decide +kernel⟩) (xv 3) (λ _ _ _ _=>(o_4 (xt (cEq O.units) (b_9 (xv 0) a_4) j_7))) (λ _ _ _ _=>(j_4 (xaC j_7 (xaC (b_9 (xv 0) a_4) (xaC (xb br3 a_4 a_4) xaN)))))) (Z_0 (xaC (j_4 (xaC j_7 (xaC j_7 xaN))) xaN))))
 (xs1 (g_2 (xF G_law_right (O.mono (by decide)) (xaC (xNF G_chain_things (O.mono (by decide)) (xaC (xv 3) (xaC (xb i_1 (xv 9) (xv 10)) xaN))) (xaC (xv 3) (xaC (xv 4) xaN))))))))))))))))
end
end Fx
namespace Fx
open PySem
theorem ag4 {i j:Int} (h:j.natAbs<2 ^ 64):m_8 i j=true:=by
 unfold m_8;rw[decide_eq_true h];simp
theorem k_9 {i j:Int} (h:i.natAbs<2 ^ 64):m_8 i j=true:=by
 unfold m_8;rw[decide_eq_true h];simp
theorem ag6 {j:Int} (O:j≠0) (h:j.natAbs<2 ^ 64):G_4 j=true:=by
 unfold G_4;rw[decide_eq_true O,decide_eq_true (Nat.lt_trans h (Nat.pow_lt_pow_right (by decide) (by decide)))];rfl
theorem b_8 (x m:Int) (O:0<=m):0<=Builtin.bitAnd x m/\Builtin.bitAnd x m<=m:=by
 unfold Builtin.bitAnd
 split
 ·have h:x.toNat &&& m.toNat<=m.toNat:=Nat.and_le_right
  omega
 ·rename_i h;simp at h;omega
 ·have h:m.toNat &&& (Builtin.bitNot x).toNat<=m.toNat:=Nat.and_le_left
  omega
 ·rename_i h;simp at h;omega
theorem an7 {x y:Int} (Z:0<=x) (Y:0<=y):Builtin.bitXor x y=((x.toNat ||| y.toNat:Nat):Int)-((x.toNat &&& y.toNat:Nat):Int):=by
 have e1:Builtin.bitAnd x y=((x.toNat &&& y.toNat:Nat):Int):=by
  unfold Builtin.bitAnd;rw[decide_eq_true Z,decide_eq_true Y]
 have e2:Builtin.bitOr x y=((x.toNat ||| y.toNat:Nat):Int):=by
  have a:decide (0<=Builtin.bitNot x)=false:=decide_eq_false (by unfold Builtin.bitNot;omega)
  have b:decide (0<=Builtin.bitNot y)=false:=decide_eq_false (by unfold Builtin.bitNot;omega)
  have O:Builtin.bitNot (Builtin.bitNot x)=x:=by unfold Builtin.bitNot;omega
  have n2:Builtin.bitNot (Builtin.bitNot y)=y:=by unfold Builtin.bitNot;omega
  unfold Builtin.bitOr Builtin.bitAnd;rw[a,b];simp only[O,n2];unfold Builtin.bitNot;omega
 unfold Builtin.bitXor;rw[e1,e2]
theorem I_7 {x y:Int}{k:Nat} (O:0<=x) (Y:0<=y) (bx:x<2 ^ k) (Z:y<2 ^ k):0<=Builtin.bitXor x y/\Builtin.bitXor x y<2 ^ k:=by
 rw[an7 O Y];have p:((2 ^ k:Nat):Int)=(2:Int) ^ k:=by push_cast;rfl
 have h1:x.toNat<2 ^ k:=by omega
 have h2:y.toNat<2 ^ k:=by omega
 have h3:=Nat.or_lt_two_pow h1 h2;have h4:x.toNat &&& y.toNat<=x.toNat:=Nat.and_le_left;have h5:x.toNat<=x.toNat ||| y.toNat:=Nat.left_le_or;omega
@[simp] theorem ax0:(Str.ofString "turn"=Str.ofString "later")=False:=eq_false (by decide +kernel)
@[simp] theorem aR3:(Str.ofString "turn"=Str.ofString "put")=False:=eq_false (by decide +kernel)
@[simp] theorem aD6:(Str.ofString "turn"=Str.ofString "time")=False:=eq_false (by decide +kernel)
@[simp] theorem aD9:(Str.ofString "turn"=Str.ofString "only")=False:=eq_false (by decide +kernel)
@[simp] theorem aR4:(Str.ofString "turn"=Str.ofString "but")=False:=eq_false (by decide +kernel)
@[simp] theorem aD7:(Str.ofString "turn"=Str.ofString "span")=False:=eq_false (by decide +kernel)
@[simp] theorem aD8:(Str.ofString "turn"=Str.ofString "rest")=False:=eq_false (by decide +kernel)
@[simp] theorem ax5:(Str.ofString "later"=Str.ofString "turn")=False:=eq_false (by decide +kernel)
@[simp] theorem aF7:(Str.ofString "later"=Str.ofString "put")=False:=eq_false (by decide +kernel)
@[simp] theorem ax6:(Str.ofString "later"=Str.ofString "time")=False:=eq_false (by decide +kernel)
@[simp] theorem ax9:(Str.ofString "later"=Str.ofString "only")=False:=eq_false (by decide +kernel)
@[simp] theorem aF8:(Str.ofString "later"=Str.ofString "but")=False:=eq_false (by decide +kernel)
@[simp] theorem ax7:(Str.ofString "later"=Str.ofString "span")=False:=eq_false (by decide +kernel)
@[simp] theorem ax8:(Str.ofString "later"=Str.ofString "rest")=False:=eq_false (by decide +kernel)
@[simp] theorem aS1:(Str.ofString "put"=Str.ofString "turn")=False:=eq_false (by decide +kernel)
@[simp] theorem aF2:(Str.ofString "put"=Str.ofString "later")=False:=eq_false (by decide +kernel)
@[simp] theorem aS2:(Str.ofString "put"=Str.ofString "time")=False:=eq_false (by decide +kernel)
@[simp] theorem aS5:(Str.ofString "put"=Str.ofString "only")=False:=eq_false (by decide +kernel)
@[simp] theorem aU8:(Str.ofString "put"=Str.ofString "but")=False:=eq_false (by decide +kernel)
@[simp] theorem aS3:(Str.ofString "put"=Str.ofString "span")=False:=eq_false (by decide +kernel)
@[simp] theorem aS4:(Str.ofString "put"=Str.ofString "rest")=False:=eq_false (by decide +kernel)
@[simp] theorem aE0:(Str.ofString "time"=Str.ofString "turn")=False:=eq_false (by decide +kernel)
@[simp] theorem ax1:(Str.ofString "time"=Str.ofString "later")=False:=eq_false (by decide +kernel)
@[simp] theorem aR5:(Str.ofString "time"=Str.ofString "put")=False:=eq_false (by decide +kernel)
@[simp] theorem aE3:(Str.ofString "time"=Str.ofString "only")=False:=eq_false (by decide +kernel)
@[simp] theorem aR6:(Str.ofString "time"=Str.ofString "but")=False:=eq_false (by decide +kernel)
@[simp] theorem aE1:(Str.ofString "time"=Str.ofString "span")=False:=eq_false (by decide +kernel)
@[simp] theorem aE2:(Str.ofString "time"=Str.ofString "rest")=False:=eq_false (by decide +kernel)
@[simp] theorem aF3:(Str.ofString "only"=Str.ofString "turn")=False:=eq_false (by decide +kernel)
@[simp] theorem ax4:(Str.ofString "only"=Str.ofString "later")=False:=eq_false (by decide +kernel)
@[simp] theorem aS6:(Str.ofString "only"=Str.ofString "put")=False:=eq_false (by decide +kernel)
@[simp] theorem aF4:(Str.ofString "only"=Str.ofString "time")=False:=eq_false (by decide +kernel)
@[simp] theorem aS7:(Str.ofString "only"=Str.ofString "but")=False:=eq_false (by decide +kernel)
@[simp] theorem aF5:(Str.ofString "only"=Str.ofString "span")=False:=eq_false (by decide +kernel)
@[simp] theorem aF6:(Str.ofString "only"=Str.ofString "rest")=False:=eq_false (by decide +kernel)
@[simp] theorem aS8:(Str.ofString "but"=Str.ofString "turn")=False:=eq_false (by decide +kernel)
@[simp] theorem aF9:(Str.ofString "but"=Str.ofString "later")=False:=eq_false (by decide +kernel)
@[simp] theorem aU9:(Str.ofString "but"=Str.ofString "put")=False:=eq_false (by decide +kernel)
@[simp] theorem aS9:(Str.ofString "but"=Str.ofString "time")=False:=eq_false (by decide +kernel)
@[simp] theorem aT2:(Str.ofString "but"=Str.ofString "only")=False:=eq_false (by decide +kernel)
@[simp] theorem aT0:(Str.ofString "but"=Str.ofString "span")=False:=eq_false (by decide +kernel)
@[simp] theorem aT1:(Str.ofString "but"=Str.ofString "rest")=False:=eq_false (by decide +kernel)
@[simp] theorem aE4:(Str.ofString "span"=Str.ofString "turn")=False:=eq_false (by decide +kernel)
@[simp] theorem ax2:(Str.ofString "span"=Str.ofString "later")=False:=eq_false (by decide +kernel)
@[simp] theorem aR7:(Str.ofString "span"=Str.ofString "put")=False:=eq_false (by decide +kernel)
@[simp] theorem aE5:(Str.ofString "span"=Str.ofString "time")=False:=eq_false (by decide +kernel)
@[simp] theorem aE7:(Str.ofString "span"=Str.ofString "only")=False:=eq_false (by decide +kernel)
@[simp] theorem aR8:(Str.ofString "span"=Str.ofString "but")=False:=eq_false (by decide +kernel)
@[simp] theorem aE6:(Str.ofString "span"=Str.ofString "rest")=False:=eq_false (by decide +kernel)
@[simp] theorem aE8:(Str.ofString "rest"=Str.ofString "turn")=False:=eq_false (by decide +kernel)
@[simp] theorem ax3:(Str.ofString "rest"=Str.ofString "later")=False:=eq_false (by decide +kernel)
@[simp] theorem aR9:(Str.ofString "rest"=Str.ofString "put")=False:=eq_false (by decide +kernel)
@[simp] theorem aE9:(Str.ofString "rest"=Str.ofString "time")=False:=eq_false (by decide +kernel)
@[simp] theorem aF1:(Str.ofString "rest"=Str.ofString "only")=False:=eq_false (by decide +kernel)
@[simp] theorem aS0:(Str.ofString "rest"=Str.ofString "but")=False:=eq_false (by decide +kernel)
@[simp] theorem aF0:(Str.ofString "rest"=Str.ofString "span")=False:=eq_false (by decide +kernel)
noncomputable def bO:Option Int->D
 |none=>.non
 |some i=>.int i
@[simp] theorem bx5:bO none=.non:=rfl
@[simp] theorem bk9 (i:Int):bO (some i)=.int i:=rfl
theorem j_3 (a b c d:D):atD [a,b,c,d] 0=some a:=rfl
theorem t_2 (a b c d:D):atD [a,b,c,d] 1=some b:=rfl
theorem H_0 (a b c d:D):atD [a,b,c,d] 2=some c:=rfl
theorem o_2 (a b c d:D):atD [a,b,c,d] 3=some d:=rfl
theorem j_5 (a b c:D):atD [a,b,c] 0=some a:=rfl
theorem l_1 (a b c:D):atD [a,b,c] 1=some b:=rfl
theorem n_5 (a b c:D):atD [a,b,c] 2=some c:=rfl
theorem h_7 (a b:D):atD [a,b] 0=some a:=rfl
theorem i_0 (a b:D):atD [a,b] 1=some b:=rfl
theorem bd2 (a:D):atD [a] 0=some a:=rfl
noncomputable def inB (lo hi:Option Int) (v:Int):Bool:=(match lo with | none=>true | some l=>decide (l<=v))&&(match hi with | none=>true | some h=>decide (v<=h))
theorem ab9 (v:Int) (lo hi:Option Int):e_6 [.int v,bO lo,bO hi]=some (.bl (inB lo hi v)):=by
 cases lo with
 |none=>cases hi <;> simp[e_6,m_3,bO,inB]
 |some l =>
  by_cases h:l<=v
  ·cases hi <;> simp[e_6,m_3,bO,inB,h]
  ·cases hi <;> simp[e_6,m_3,bO,inB,h]
theorem bd9 (lo hi:Option Int) (st O v:Int) (Y:¬ st=0):g_5 [.tup [bO lo,bO hi,.int st,.int O],.int v]=some (.bl (inB lo hi v&&decide (v.fmod st=O))):=by
 cases h:inB lo hi v <;> simp[g_5,s_6,j_3,t_2,H_0,o_2,ab9,h,Y]
theorem x_9 (k:Str):∀ ks:List Str,A_9 (.str k) (ks.map .str)=true:=λ ks=>by
 unfold A_9;rw[show N_1 (.str k)=true from rfl,Bool.true_and,List.all_eq_true];intro x O;obtain⟨y,_,rfl⟩:=List.mem_map.mp O;rfl
theorem H_3 (k:Str) (ks:List Str):inD (.str k) (ks.map .str)=decide (k∈ks):=by
 unfold inD;rw[Bool.eq_iff_iff,List.any_eq_true,decide_eq_true_iff];constructor
 ·rintro ⟨x,Y,e⟩
  obtain⟨y,O,rfl⟩:=List.mem_map.mp Y;simp at e;exact e▸O
 ·intro h
  exact⟨.str k,List.mem_map_of_mem h,by simp⟩
theorem aM3 (w k:Str) (ks:List Str):i_7 [.tup [.str w,.tup (ks.map .str)],.str k]=some (.bl (decide (decide (k∈ks)=decide (w=Str.ofString "only")))):=by
 simp[i_7,A_4,h_7,i_0,x_9,H_3]
abbrev thD (t:Int) (k:Str) (v:Int):D:=.tup [.int t,.str k,.int v]
noncomputable def inT (b:Int) (e:Option Int) (t:Int):Bool:=decide (b<=t)&&(match e with | none=>true | some x=>decide (t<x))
theorem u_0 (w:Str) (ks:List Str) (b:Int) (e lo hi:Option Int) (st Z t v:Int) (k:Str) (hs:¬ st=0) :
  e_3 [.tup [.tup [.str w,.tup (ks.map .str)],.int b,bO e,.tup [bO lo,bO hi,.int st,.int Z]],thD t k v]
   = some (.bl (inT b e t&&(decide (decide (k∈ks)=decide (w=Str.ofString "only"))&&(inB lo hi v&&decide (v.fmod st=Z))))):=by
 have h1:=aM3 w k ks;have h2:=bd9 lo hi st Z v hs
 generalize decide (decide (k∈ks)=decide (w=Str.ofString "only"))=x at *
 generalize (inB lo hi v&&decide (v.fmod st=Z))=y at *
 by_cases ht:t<b
 ·have O:¬ b<=t:=by omega
  simp[e_3,p_5,j_3,t_2,H_0,o_2,j_5,l_1,n_5,ht,O,inT]
 ·have O:b<=t:=by omega
  cases e with
  |none=>cases x <;> simp[e_3,p_5,j_3,t_2,H_0,o_2,j_5,l_1,n_5,ht,O,inT,h1,h2]
  |some z =>
   by_cases hz:z<=t
   ·have Y:¬ t<z:=by omega
    simp[e_3,p_5,j_3,t_2,H_0,o_2,j_5,l_1,n_5,ht,O,inT,hz,Y]
   ·have Y:t<z:=by omega
    cases x <;> simp[e_3,p_5,j_3,t_2,H_0,o_2,j_5,l_1,n_5,ht,O,inT,h1,h2,hz,Y]
inductive Rw where
 |time (b:Int) (e:Option Int) | only (ks:List Str) | but (ks:List Str) | span (lo hi:Option Int) | rest (m r:Int) | turn (a b:Int) | later (c:Int) | put (kvs:List (Str×Str))
noncomputable def Rw.word:Rw->Str
 |.time _ _=>Str.ofString "time" | .only _=>Str.ofString "only" | .but _=>Str.ofString "but" | .span _ _=>Str.ofString "span"
 |.rest _ _=>Str.ofString "rest" | .turn _ _=>Str.ofString "turn" | .later _=>Str.ofString "later" | .put _=>Str.ofString "put"
noncomputable def prD (q:Str×Str):D:=.tup [.str q.1,.str q.2]
noncomputable def Rw.bes:Rw->List D
 |.time b e=>[.int b,bO e] | .only ks=>ks.map .str | .but ks=>ks.map .str | .span lo hi=>[bO lo,bO hi]
 |.rest m r=>[.int m,.int r] | .turn a b=>[.int a,.int b] | .later c=>[.int c] | .put kvs=>kvs.map prD
noncomputable def Rw.ok:Rw->Prop
 |.time b _=>0<=b | .only ks=>ks.length<64 | .but ks=>ks.length<64 | .span _ _=>True
 |.rest m r=>0<=r/\r<m | .turn a _=>a.natAbs<2 ^ 64 | .later c=>0<=c | .put kvs=>kvs.length<=1000/\(kvs.map (·.1)).Nodup
noncomputable def I_9 (k:Str):List (Str×Str)->Str
 |[]=>k
 |q::r=>if q.1=k then q.2 else I_9 k r
noncomputable def sv (b:Bool) (d:D):D:=if b=true then d else .non
@[simp] theorem bP4 (d:D):sv true d=d:=rfl
@[simp] theorem bP5 (d:D):sv false d=.non:=rfl
noncomputable def Rw.thr (t:Int) (k:Str) (v:Int):Rw->D
 |.time b e=>sv (inT b e t) (thD t k v) | .only ks=>sv (decide (k∈ks)) (thD t k v) | .but ks=>sv (!decide (k∈ks)) (thD t k v) | .span lo hi=>sv (inB lo hi v) (thD t k v)
 |.rest m r=>sv (decide (v.fmod m=r)) (thD t k v) | .turn a b=>thD t k (a*v+b) | .later c=>thD (t+c) k v | .put kvs=>thD t (I_9 k kvs) v
abbrev rwD (nm fr:Str) (r:Rw):D:=.tup [.str r.word,.str nm,.tup [.str fr],.tup r.bes]
abbrev evK:D:=.tup [.str "but",.tup []]
abbrev evV:D:=.tup [.non,.non,.int 1,.int 0]
theorem ab0 (v:Int):v.fmod 1=0:=by rw[Int.fmod_one]
theorem Y_3 (w:Str) (ks:List Str) (t v:Int) (k:Str) (O:0<=t) :
  e_3 [.tup [.tup [.str w,.tup (ks.map .str)],.int 0,.non,evV],thD t k v]=some (.bl (decide (decide (k∈ks)=decide (w=Str.ofString "only")))):=by
 have:=u_0 w ks 0 none none none 1 0 t v k (by decide)
 simp[inT,inB,O] at this;exact this
theorem Y_2 (lo hi:Option Int) (st O:Int) (t v:Int) (k:Str) (Z:0<=t) (Y:¬ st=0) :
  e_3 [.tup [evK,.int 0,.non,.tup [bO lo,bO hi,.int st,.int O]],thD t k v]=some (.bl (inB lo hi v&&decide (v.fmod st=O))):=by
 have:=u_0 (Str.ofString "but") [] 0 none lo hi st O t v k Y;simp[inT,Z] at this;exact this
theorem aw3 (b:Int) (e:Option Int) (t v:Int) (k:Str):e_3 [.tup [evK,.int b,bO e,evV],thD t k v]=some (.bl (inT b e t)):=by
 have:=u_0 (Str.ofString "but") [] b e none none 1 0 t v k (by decide)
 simp[inB] at this;exact this
theorem w_2 (Y O:D) (hk:isN Y=false) (Z:isN O=false):c_8 [Y,.int 0,.non,O]=some (.tup [Y,.int 0,.non,O]):=by
 simp[c_8,m_9,hk,Z]
theorem ah6 (Y O:D) (Z:isN Y=false) (hs:isN O=false) (b:Int) (e:Option Int) (hb:0<=b):c_8 [Y,.int b,bO e,O]=some (match e with | none=>.tup [Y,.int b,.non,O] | some x=>if x<=b then .non else .tup [Y,.int b,.int x,O]):=by
 have h0:¬ b<0:=by omega
 have h1:(if 0 > b then 0 else b)=b:=by rw[if_neg (by omega)]
 cases e with
 |none=>simp[c_8,m_9,Z,hs,h0]
 |some x=>by_cases hx:x<=b <;> simp[c_8,m_9,Z,hs,hx,h0]
theorem u_3 (W:Str) (B:List D) (n1:¬ W=Str.ofString "turn") (Y:¬ W=Str.ofString "later") (Z:¬ W=Str.ofString "put") (x:D) (b:Bool) (t v:Int) (k:Str) (hs:a_9 [.tup [.str W,.str nm,.tup [.str fr],.tup B]]=some x) (O:(x=.non ∧ b=false) ∨ (isN x=false ∧ e_3 [x,thD t k v]=some (.bl b))) :
  b_1 [.tup [.str W,.str nm,.tup [.str fr],.tup B],thD t k v]=some (sv b (thD t k v)):=by
 simp[b_1,h_9,j_3,o_2,hs,n1,Y,Z]
 rcases O with ⟨rfl,rfl⟩ | ⟨O,h2⟩
 ·simp
 ·cases b <;> simp[O,h2]
theorem aq2 (b:Int) (e:Option Int) (Z:0<=b) (t v:Int) (k:Str):b_1 [rwD nm fr (.time b e),thD t k v]=some (sv (inT b e t) (thD t k v)):=by
 have h1:=ah6 evK evV rfl rfl b e Z;have h2:=aw3 b e t v k;cases e with
 |none =>
  have O:a_9 [rwD nm fr (.time b none)]=some (.tup [evK,.int b,.non,evV]):=by
   simp only[bx5] at h1;simp[a_9,d_5,Rw.word,Rw.bes,j_3,o_2,h_7,i_0,h1]
  simp only[bx5] at h2;exact u_3 (Str.ofString "time") _ (by decide +kernel) (by decide +kernel) (by decide +kernel) _ _ t v k O (.inr ⟨rfl,h2⟩)
 |some x =>
  by_cases Y:x<=b
  ·have O:a_9 [rwD nm fr (.time b (some x))]=some .non:=by
    simp only[Y,if_true,bk9] at h1;simp[a_9,d_5,Rw.word,Rw.bes,j_3,o_2,h_7,i_0,h1]
   have hi:inT b (some x) t=false:=by
    unfold inT
    by_cases q:b<=t
    ·simp;omega
    ·simp[q]
   exact u_3 (Str.ofString "time") _ (by decide +kernel) (by decide +kernel) (by decide +kernel) _ _ t v k O (.inl ⟨rfl,hi⟩)
  ·have O:a_9 [rwD nm fr (.time b (some x))]=some (.tup [evK,.int b,.int x,evV]):=by
    simp only[Y,if_false,bk9] at h1;simp[a_9,d_5,Rw.word,Rw.bes,j_3,o_2,h_7,i_0,h1]
   simp only[bk9] at h2;exact u_3 (Str.ofString "time") _ (by decide +kernel) (by decide +kernel) (by decide +kernel) _ _ t v k O (.inr ⟨rfl,h2⟩)
theorem C_7 (ks:List Str) (h:ks.length<64):P_6 (ks.map .str)=some (.lst ((f_4 ks).map .str)):=by
 unfold P_6;rw[E_8];show (if ks.length<64 then _ else _)=_;rw[if_pos h]
theorem aq5 (ks:List Str) (Z:ks.length<64) (t v:Int) (k:Str) (Y:0<=t):b_1 [rwD nm fr (.only ks),thD t k v]=some (sv (decide (k∈ks)) (thD t k v)):=by
 have h2:=Y_3 (Str.ofString "only") (f_4 ks) t v k Y;have h3:=w_2 (.tup [.str "only",.tup ((f_4 ks).map .str)]) evV rfl rfl
 have O:a_9 [rwD nm fr (.only ks)]=some (.tup [.tup [.str "only",.tup ((f_4 ks).map .str)],.int 0,.non,evV]):=by
  simp[a_9,d_5,Rw.word,Rw.bes,j_3,o_2,C_7 ks Z,h3]
 have e:decide (k∈f_4 ks)=decide (k∈ks):=by rw[Bool.eq_iff_iff];simp[y_1]
 rw[e] at h2;exact u_3 (Str.ofString "only") _ (by decide +kernel) (by decide +kernel) (by decide +kernel) _ _ t v k O (.inr ⟨rfl,h2.trans (by cases decide (k∈ks) <;> rfl)⟩)
theorem aG1 (ks:List Str) (Z:ks.length<64) (t v:Int) (k:Str) (Y:0<=t):b_1 [rwD nm fr (.but ks),thD t k v]=some (sv (!decide (k∈ks)) (thD t k v)):=by
 have h2:=Y_3 (Str.ofString "but") (f_4 ks) t v k Y;have h3:=w_2 (.tup [.str "but",.tup ((f_4 ks).map .str)]) evV rfl rfl
 have O:a_9 [rwD nm fr (.but ks)]=some (.tup [.tup [.str "but",.tup ((f_4 ks).map .str)],.int 0,.non,evV]):=by
  simp[a_9,d_5,Rw.word,Rw.bes,j_3,o_2,C_7 ks Z,h3]
 have e:decide (k∈f_4 ks)=decide (k∈ks):=by rw[Bool.eq_iff_iff];simp[y_1]
 rw[e] at h2;exact u_3 (Str.ofString "but") _ (by decide +kernel) (by decide +kernel) (by decide +kernel) _ _ t v k O (.inr ⟨rfl,h2.trans (by cases decide (k∈ks) <;> kernel_rfl)⟩)
theorem ah5 (lo hi:Option Int):b_2 [bO lo,bO hi,.int 1,.int 0]=some (match lo,hi with | some l,some h=>if h<l then .non else .tup [.int l,.int h,.int 1,.int 0] | lo,hi=>.tup [bO lo,bO hi,.int 1,.int 0]):=by
 cases lo with
 |none=>cases hi <;> simp[b_2,e_0,ab0]
 |some l =>
  cases hi with
  |none=>simp[b_2,e_0,ab0]
  |some h =>
   by_cases a:h<l
   ·simp[b_2,e_0,ab0,a]
   ·by_cases b:l=h
    ·subst b;simp[b_2,e_0,ab0]
    ·simp[b_2,e_0,ab0,a,b]
theorem w_6 (lo hi:Option Int) (t v:Int) (k:Str) (Y:0<=t) (hm:b_2 [bO lo,bO hi,.int 1,.int 0]=some (.tup [bO lo,bO hi,.int 1,.int 0])):b_1 [rwD nm fr (.span lo hi),thD t k v]=some (sv (inB lo hi v) (thD t k v)):=by
 have h2:=Y_2 lo hi 1 0 t v k Y (by decide)
 have Z:=w_2 evK (.tup [bO lo,bO hi,.int 1,.int 0]) rfl rfl
 have O:a_9 [rwD nm fr (.span lo hi)]=some (.tup [evK,.int 0,.non,.tup [bO lo,bO hi,.int 1,.int 0]]):=by
  simp[a_9,d_5,Rw.word,Rw.bes,j_3,o_2,h_7,i_0,hm,Z]
 simp only[ab0,decide_true,Bool.and_true] at h2;exact u_3 (Str.ofString "span") _ (by decide +kernel) (by decide +kernel) (by decide +kernel) _ _ t v k O (.inr ⟨rfl,h2⟩)
theorem aq3 (lo hi:Option Int) (t v:Int) (k:Str) (Y:0<=t):b_1 [rwD nm fr (.span lo hi),thD t k v]=some (sv (inB lo hi v) (thD t k v)):=by
 have O:=ah5 lo hi;cases lo with
 |none=>exact w_6 none hi t v k Y (by cases hi <;> exact O)
 |some l =>
  cases hi with
  |none=>exact w_6 (some l) none t v k Y O
  |some h =>
   by_cases a:h<l
   ·simp only[a,if_true] at O
    have Z:a_9 [rwD nm fr (.span (some l) (some h))]=some .non:=by
     simp only[bk9] at O;simp[a_9,d_5,Rw.word,Rw.bes,j_3,o_2,h_7,i_0,O,c_8,m_9]
    have hi:inB (some l) (some h) v=false:=by
     unfold inB
     by_cases q:l<=v
     ·simp;omega
     ·simp[q]
    exact u_3 (Str.ofString "span") _ (by decide +kernel) (by decide +kernel) (by decide +kernel) _ _ t v k Z (.inl ⟨rfl,hi⟩)
   ·simp only[a,if_false] at O
    exact w_6 (some l) (some h) t v k Y O
theorem aq4 (m r:Int) (Z:0<=r) (h1:r<m) (t v:Int) (k:Str) (ht:0<=t):b_1 [rwD nm fr (.rest m r),thD t k v]=some (sv (decide (v.fmod m=r)) (thD t k v)):=by
 have h2:=Y_2 none none m r t v k ht (by omega)
 have O:=w_2 evK (.tup [.non,.non,.int m,.int r]) rfl rfl
 have hm:b_2 [.non,.non,.int m,.int r]=some (.tup [.non,.non,.int m,.int r]):=by
  simp[b_2,e_0,Z,h1]
 have Y:a_9 [rwD nm fr (.rest m r)]=some (.tup [evK,.int 0,.non,.tup [.non,.non,.int m,.int r]]):=by
  simp[a_9,d_5,Rw.word,Rw.bes,j_3,o_2,h_7,i_0,hm,O]
 simp only[inB,Bool.true_and,bx5] at h2;exact u_3 (Str.ofString "rest") _ (by decide +kernel) (by decide +kernel) (by decide +kernel) _ _ t v k Y (.inr ⟨rfl,h2⟩)
theorem D_9 (k:Str):∀ kvs:List (Str×Str),(r_5 k (kvs.map λ q=>(q.1,D.str q.2))).getD (.str k)=.str (I_9 k kvs)
 |[]=>rfl
 |q::r=>by
  rw[List.map_cons];unfold r_5 I_9
  by_cases h:q.1=k
  ·rw[if_pos h,if_pos h];rfl
  ·rw[if_neg h,if_neg h];exact D_9 k r
theorem au6 (k:Str) (kvs:List (Str×Str)) (O:kvs.length<=1000) (h1:(kvs.map (·.1)).Nodup):aT5 (kvs.map prD) (.str k) (.str k)=some (.str (I_9 k kvs)):=by
 have e:kvs.map prD=(kvs.map λ q=>(q.1,D.str q.2)).map λ q=>.tup [.str q.1,q.2]:=by rw[List.map_map];rfl
 unfold aT5;rw[e,D_1];show (if ((kvs.map λ q=>(q.1,D.str q.2)).length<=1000/\((kvs.map λ q=>(q.1,D.str q.2)).map (·.1)).Nodup) then some ((r_5 k (kvs.map λ q=>(q.1,D.str q.2))).getD (.str k)) else none)=_
 rw[if_pos ⟨by rw[List.length_map];exact O,by rw[List.map_map];exact h1⟩,D_9]
theorem aV4 (r:Rw) (ok:r.ok) (t v:Int) (k:Str) (O:0<=t):b_1 [rwD nm fr r,thD t k v]=some (r.thr t k v):=by
 cases r with
 |time b e=>exact aq2 b e ok t v k
 |only ks=>exact aq5 ks ok t v k O
 |but ks=>exact aG1 ks ok t v k O
 |span lo hi=>exact aq3 lo hi t v k O
 |rest m r=>exact aq4 m r ok.1 ok.2 t v k O
 |turn a b =>
  have:=k_9 (i:=a) (j:=v) ok;simp[b_1,h_9,j_3,o_2,j_5,l_1,n_5,h_7,i_0,Rw.word,Rw.bes,Rw.thr,this]
 |later c=>simp[b_1,h_9,j_3,o_2,j_5,l_1,n_5,bd2,Rw.word,Rw.bes,Rw.thr]
 |put kvs =>
  have:=au6 k kvs ok.1 ok.2;simp[b_1,h_9,j_3,o_2,j_5,l_1,n_5,Rw.word,Rw.bes,Rw.thr,this]
theorem ay9 (t v:Int) (k:Str) (w b th:Sl):∀ (kvs:List (Str×Str)) (Y O:Sl),
  (∃ ρ,fGo (gT [6,7]) d_1 (kvs.map prD) [w,b,th,.im (.int t),.im (.str k),.im (.int v),Y,O]=some (.rt (thD t (I_9 k kvs) v) ρ)) \/
  (I_9 k kvs=k/\∃ Z aa,fGo (gT [6,7]) d_1 (kvs.map prD) [w,b,th,.im (.int t),.im (.str k),.im (.int v),Y,O]=some (.nx [w,b,th,.im (.int t),.im (.str k),.im (.int v),Z,aa]))
 |[],Y,O=>.inr ⟨rfl,Y,O,rfl⟩
 |q::r,Y,O=>by
  have g:gT [6,7] (prD q) [w,b,th,.im (.int t),.im (.str k),.im (.int v),Y,O]=some [w,b,th,.im (.int t),.im (.str k),.im (.int v),.im (.str q.1),.im (.str q.2)]:=rfl;rw[List.map_cons,y_8,g,z_0];unfold I_9
  by_cases h:q.1=k
  ·have e:d_1 [w,b,th,.im (.int t),.im (.str k),.im (.int v),.im (.str q.1),.im (.str q.2)]=some (.rt (thD t q.2 v) [w,b,th,.im (.int t),.im (.str k),.im (.int v),.im (.str q.1),.im (.str q.2)]):=by
    simp[d_1,h]
   rw[if_pos h,e,bu7];exact .inl ⟨_,rfl⟩
  ·have e:d_1 [w,b,th,.im (.int t),.im (.str k),.im (.int v),.im (.str q.1),.im (.str q.2)]=some (.nx [w,b,th,.im (.int t),.im (.str k),.im (.int v),.im (.str q.1),.im (.str q.2)]):=by
    simp[d_1,h]
   rw[if_neg h,e,y_9];exact ay9 t v k w b th r _ _
theorem Q_9 (r:Rw) (ok:r.ok) (t v:Int) (k:Str):a_8 [.str r.word,.tup r.bes,thD t k v]=some (r.thr t k v):=by
 cases r with
 |time b e =>
  simp[a_8,c_3,Rw.word,Rw.bes,Rw.thr,List.replicate,h_7,i_0]
  by_cases h:t<b
  ·have h':¬ b<=t:=by omega
   simp[h_7,i_0,inT,h,h']
  ·have h':b<=t:=by omega
   cases e with
   |none=>simp[h_7,i_0,inT,h,h']
   |some x =>
    by_cases g:x<=t
    ·have g':¬ t<x:=by omega
     simp[h_7,i_0,inT,h,h',g,g']
    ·have g':t<x:=by omega
     simp[h_7,i_0,inT,h,h',g,g']
 |only ks=>by_cases h:k∈ks <;> simp[a_8,c_3,Rw.word,Rw.bes,Rw.thr,List.replicate,x_9,H_3,h]
 |but ks=>by_cases h:k∈ks <;> simp[a_8,c_3,Rw.word,Rw.bes,Rw.thr,List.replicate,x_9,H_3,h]
 |span lo hi =>
  simp[a_8,c_3,Rw.word,Rw.bes,Rw.thr,List.replicate,h_7,i_0];cases lo with
  |none =>
   cases hi with
   |none=>simp[h_7,i_0,inB]
   |some y =>
    by_cases g:v<=y
    ·have g':¬ y<v:=by omega
     simp[h_7,i_0,inB,g,g']
    ·have g':y<v:=by omega
     simp[h_7,i_0,inB,g,g']
  |some x =>
   by_cases h:v<x
   ·have h':¬ x<=v:=by omega
    simp[h_7,i_0,inB,h,h']
   ·have h':x<=v:=by omega
    cases hi with
    |none=>simp[h_7,i_0,inB,h,h']
    |some y =>
     by_cases g:v<=y
     ·have g':¬ y<v:=by omega
      simp[h_7,i_0,inB,g,g',h,h']
     ·have g':y<v:=by omega
      simp[h_7,i_0,inB,g,g',h,h']
 |rest m r =>
  have O:¬ m=0:=by have:=ok.1;have:=ok.2;omega
  by_cases h:v.fmod m=r <;> simp[a_8,c_3,Rw.word,Rw.bes,Rw.thr,List.replicate,h_7,i_0,h,O]
 |turn a b =>
  have:=k_9 (i:=a) (j:=v) ok;simp[a_8,c_3,Rw.word,Rw.bes,Rw.thr,List.replicate,h_7,i_0,this]
 |later c=>simp[a_8,c_3,Rw.word,Rw.bes,Rw.thr,List.replicate,bd2]
 |put kvs =>
  rcases ay9 t v k (.im (.str "put")) (.im (.tup (kvs.map prD))) (.im (thD t k v)) kvs .no .no with ⟨ρ,e⟩ | ⟨h,s6,s7,e⟩
  ·simp[a_8,c_3,Rw.word,Rw.bes,Rw.thr,List.replicate,e]
  ·simp[a_8,c_3,Rw.word,Rw.bes,Rw.thr,List.replicate,e,h]
theorem g_4 (c k:Int) (hk:0<=k):∃ r:Int,a_7 [.int c,.int k]=some (.int r)/\0<=r/\r<2147483648:=by
 have a:∀ x:Int,0<=Int.fmod x 2147483647/\Int.fmod x 2147483647<2147483647:=λ x=>⟨Int.fmod_nonneg_of_pos _ (by decide),Int.fmod_lt_of_pos _ (by decide)⟩
 have e:0<=31*k+31:=by omega
 have Z:∀ x:Int,m_8 x 48271=true:=λ x=>ag4 (by decide)
 have m2:m_8 7919 k=true:=k_9 (by decide)
 have m3:m_8 31 k=true:=k_9 (by decide)
 have Y:∀ x y:Int,m_8 (Int.fmod x 2147483647) y=true:=λ x y=>k_9 (by have:=a x;omega)
 have O:G_4 1009=true:=ag6 (by decide) (by decide)
 have d2:G_4 1013=true:=ag6 (by decide) (by decide)
 have b:=b_8 (c / 2 ^ (31*k+31).toNat) 2147483647 (by decide)
 refine⟨_,by simp[a_7,A_3,e,Z,m2,m3,Y,O,d2];rfl,?_⟩
 exact I_7 (k:=31) (a _).1 b.1 (Int.lt_trans (a _).2 (by decide)) (Int.lt_of_le_of_lt b.2 (by decide))
theorem l_0 (c k:Int) (O:0<=k):∃ r:Int,b_3 [.int c,.int k]=some (.int r)/\-429496730000<=r/\r<429496730000:=by
 obtain⟨n,e,Z,Y⟩:=g_4 c k O;have m:m_8 (n-1073741824) 400=true:=ag4 (by decide)
 have b:=b_8 n 255 (by decide)
 have f0:=Int.fmod_nonneg_of_pos (n / 4) (b:=13) (by decide)
 have f1:=Int.fmod_lt_of_pos (n / 4) (b:=13) (by decide)
 by_cases h:0<Builtin.bitAnd n 3
 ·refine⟨Int.fmod (n / 4) 13-6,by simp[b_3,p_4,e,h],by omega,by omega⟩
 ·refine⟨(n-1073741824)*400+Builtin.bitAnd n 255,by simp[b_3,p_4,e,h,m],by omega,by omega⟩
abbrev alpha:Str:=Str.ofString "abcdefghijklmnopqrstuvwxyz"
theorem ao2:alpha.length=26:=by decide +kernel
theorem aw7:∀ j:Nat,j<26->alpha.cps.toList[j]?=some (97+j):=by
 have e:alpha.cps.toList=List.range' 97 26:=by decide +kernel
 intro j O;rw[e,List.getElem?_range' O];simp
theorem a_5 {n:Nat} (h:n<=1000):n<=sizeLine:=Nat.le_trans h (by decide)
theorem ai3 {i:Int} (O:0<=i) (h1:i<26):atS alpha i=some (.str (chS (97+i.toNat))):=by
 unfold atS;rw[if_pos (by rw[ao2];exact a_5 (by decide))]
 have l:alpha.cps.toList.length=26:=by decide +kernel
 unfold dPl;rw[l,if_pos O,if_pos (by exact_mod_cast h1),q_6,aw7 _ (by omega),q_6]
theorem bj1 (x:Int):0<=x.fmod 26/\x.fmod 26<26:=⟨Int.fmod_nonneg_of_pos _ (by decide),Int.fmod_lt_of_pos _ (by decide)⟩
noncomputable def ltr (x:Int):Str:=chS (97+(x.fmod 26).toNat)
theorem az9 (x:Int):atS alpha (x.fmod 26)=some (.str (ltr x)):=ai3 (bj1 x).1 (bj1 x).2
theorem bc0 {x y:Int}{s u:Str} (h:¬ x.fmod 26=y.fmod 26):¬ (ltr x++s=ltr y++u):=by
 intro e;have e1:(ltr x++s).cps.toList=(ltr y++u).cps.toList:=by rw[e]
 have e2:(97+(x.fmod 26).toNat)::s.cps.toList=(97+(y.fmod 26).toNat)::u.cps.toList:=by
  have a:∀ (c:Nat) (z:Str),(chS c++z).cps.toList=c::z.cps.toList:=λ c z=>by
   show ((chS c).cps++z.cps).toList=_;rw[Array.toList_append];rfl
  have b:=e1;unfold ltr at b;rw[a,a] at b;exact b
 injection e2 with e3 _
 have:=bj1 x;have:=bj1 y;omega
theorem aG8 (Y:List Str) (Z:Y.length ≤ 3) (h:∀ s∈Y,s.length=1):∃ z:Str,aa6 (Str.ofString "") (Y.map .str)=some (.str z) ∧ z.length ≤ 900:=by
 have le:(Str.ofString "").length=0:=by decide +kernel
 have q:∀ n:Nat,n<=3->n+0<=1000000:=λ n h=>by omega
 unfold aa6;rw[E_8,q_6,le,Nat.mul_zero,Nat.add_zero]
 have O:∀ a b:Str,(a++b).length=a.length+b.length:=λ a b=>by
  show (a.cps++b.cps).size=_;rw[Array.size_append];rfl
 match Y,Z,h with
 |[],_,_=>exact⟨_,if_pos (by simp),by show (Str.empty).length<=_;decide⟩
 |[a],_,h=>exact⟨_,if_pos (by simp[h a (by simp)]),by show a.length<=_;rw[h a (by simp)];decide⟩
 |[a,b],_,h =>
  refine⟨_,if_pos (by simp[h a (by simp),h b (by simp)]),?_⟩
  show (a++Str.ofString ""++b).length ≤ _;rw[O,O,le,h a (by simp),h b (by simp)];decide
 |[a,b,c],_,h =>
  refine⟨_,if_pos (by simp[h a (by simp),h b (by simp),h c (by simp)]),?_⟩
  show (a++Str.ofString ""++(b++Str.ofString ""++c)).length ≤ _;rw[O,O,O,O,le,h a (by simp),h b (by simp),h c (by simp)];decide
theorem aB1 (x:Int):x.fmod 26=x % 26:=by rw[Int.fmod_eq_emod_of_nonneg _ (by decide)]
theorem aL9 (c:Int):∃ k0 k1 k2 k3 k4:Str,k_7 [.int c]=some (.lst [.str k0,.str k1,.str k2,.str k3,.str k4])/\[k0,k1,k2,k3,k4].Nodup:=by
 obtain⟨n,en,n0,n1⟩:=g_4 c 900 (by decide)
 have bj:=b_8 (n / 1048576) 3 (by decide)
 have st:∀ (k:Int),0<=k->e2 b_0 (eV 1) (e2 l_4 (e2 f_3 (e2 l_9 (eV 2) (e2 s_3 (zI 5) (eV 0))) (zI 31)) (zI 26)) [.im (.int k),.im (.str alpha),.im (.int n)]
   = some (.str (ltr (Builtin.bitAnd (n / 2 ^ (5*k).toNat) 31)),[.im (.int k),.im (.str alpha),.im (.int n)]):=λ k hk=>by
  have h1:m_8 5 k=true:=k_9 (by decide)
  have h2:0<=5*k:=by omega
  simp[h1,h2,az9]
 have go:∀ (m:Nat),m<=3->∃ O:List Str,cGo tYes (e2 b_0 (eV 1) (e2 l_4 (e2 f_3 (e2 l_9 (eV 2) (e2 s_3 (zI 5) (eV 0))) (zI 31)) (zI 26))) [.im (.str alpha),.im (.int n)] (r_1 0 m)=some (O.map .str)/\O.length=m/\∀ s∈O,s.length=1:=λ m hm=>by
  have:∀ (m:Nat) (lo:Int),0<=lo->∃ O:List Str,cGo tYes (e2 b_0 (eV 1) (e2 l_4 (e2 f_3 (e2 l_9 (eV 2) (e2 s_3 (zI 5) (eV 0))) (zI 31)) (zI 26))) [.im (.str alpha),.im (.int n)] (r_1 lo m)=some (O.map .str)/\O.length=m/\∀ s∈O,s.length=1:=by
   intro m
   induction m with
   |zero=>intro lo _;exact⟨[],rfl,rfl,λ s h=>by cases h⟩
   |succ m ih =>
    intro lo ab;obtain⟨O,e,l,h⟩:=ih (lo+1) (by omega)
    refine⟨ltr (Builtin.bitAnd (n / 2 ^ (5*lo).toNat) 31)::O,?_,by rw[List.length_cons,l],λ s hs=>?_⟩
    ·show cGo _ _ _ (.int lo::r_1 (lo+1) m)=_
     rw[j_6];show cGa _ _ _ _ (some (true,_))=_;rw[k_6,st lo ab,k_5,e,aC5];rfl
    ·rcases qt hs with rfl | q
     ·rfl
     ·exact h s q
  exact this m 0 (by decide)
 obtain⟨O,aa,ls,hs⟩:=go (Builtin.bitAnd (n / 1048576) 3).toNat (by omega)
 obtain⟨z,ez,lz⟩:=aG8 O (by omega) hs
 have sl:∀ i:Option Int,1+(Txt.slice z none i).length<=sizeLine:=λ i=>a_5 (by have:=Txt.slice_le z none i;omega)
 have zl:z.length<=sizeLine:=a_5 (by omega)
 have r1:Builtin.bitAnd (n / 1048576) 3<4611686018427387904:=by omega
 have r2:-4611686018427387904<=Builtin.bitAnd (n / 1048576) 3:=by omega
 have r3:(r_1 0 (Builtin.bitAnd (n / 1048576) 3).toNat).length<=sizeLine:=by
  have:∀ (m:Nat) (lo:Int),(r_1 lo m).length=m:=by
   intro m;induction m with
   |zero=>intro _;rfl
   |succ m ih=>intro lo;show (r_1 (lo+1) m).length+1=_;rw[ih]
  rw[this];exact a_5 (by omega)
 obtain⟨K,hK⟩:∃ K:Int->Str,∀ k:Int,K k=ltr (n / 4194304+7*k)++Txt.slice z none (some (k.fmod 4)):=⟨_,λ _=>rfl⟩
 have Z:∀ k:Int,e2 e_9 (e2 b_0 (eV 1) (e2 l_4 (e2 e_9 (e2 l_9 (eV 3) (zI 22)) (e2 s_3 (zI 7) (eV 0))) (zI 26))) (J_2 (eV 2) oN (oS (e2 l_4 (eV 0) (zI 4)))) [.im (.int k),.im (.str alpha),.im (.str z),.im (.int n)]
   = some (.str (K k),[.im (.int k),.im (.str alpha),.im (.str z),.im (.int n)]):=λ k=>by
  have h1:m_8 7 k=true:=k_9 (by decide)
  have h3:(ltr (n / 4194304+7*k)).length+(Txt.slice z none (some (k.fmod 4))).length<=sizeLine:=sl _;rw[hK];simp[h1,az9,zl,h3]
 have lp:cGo tYes (e2 e_9 (e2 b_0 (eV 1) (e2 l_4 (e2 e_9 (e2 l_9 (eV 3) (zI 22)) (e2 s_3 (zI 7) (eV 0))) (zI 26))) (J_2 (eV 2) oN (oS (e2 l_4 (eV 0) (zI 4))))) [.im (.str alpha),.im (.str z),.im (.int n)] (r_1 0 5)
   = some [.str (K 0),.str (K 1),.str (K 2),.str (K 3),.str (K 4)]:=by
  have t:∀ ρ:En,tYes ρ=some (true,ρ):=λ _=>rfl
  show cGo _ _ _ [.int 0,.int 1,.int 2,.int 3,.int 4]=_;rw[j_6,t,k_6,Z 0,k_5,j_6,t,k_6,Z 1,k_5,j_6,t,k_6,Z 2,k_5,j_6,t,k_6,Z 3,k_5,j_6,t,k_6,Z 4,k_5,bg5];rfl
 have l5:(r_1 0 5).length<=sizeLine:=a_5 (by decide)
 have Y:∀ i j:Int,¬ (n / 4194304+7*i) % 26=(n / 4194304+7*j) % 26->¬ K i=K j:=λ i j h=>by
  rw[hK,hK];exact bc0 (by rw[aB1,aB1];exact h)
 refine⟨K 0,K 1,K 2,K 3,K 4,?_,?_⟩
 ·simp[k_7,E_3,en,List.replicate,aa,r1,r2,r3,ez,lp,l5]
 ·have:=Y 0 1 (by omega);have:=Y 0 2 (by omega);have:=Y 0 3 (by omega);have:=Y 0 4 (by omega)
  have:=Y 1 2 (by omega);have:=Y 1 3 (by omega);have:=Y 1 4 (by omega)
  have:=Y 2 3 (by omega);have:=Y 2 4 (by omega);have:=Y 3 4 (by omega)
  simp_all
theorem x_5 (k:Str):∀ ks:List Str,cGo (tB (e2 dNe (eV 0) (eV 1))) (eV 0) [.im (.str k)] (ks.map .str)=some ((ks.filter λ x=>!decide (x=k)).map .str)
 |[]=>rfl
 |x::r=>by
  rw[List.map_cons,j_6]
  by_cases h:x=k
  ·have e:tB (e2 dNe (eV 0) (eV 1)) [.im (.str x),.im (.str k)]=some (false,[.im (.str x),.im (.str k)]):=by simp[h]
   rw[e,I_6,x_5 k r,List.filter_cons_of_neg (by simp[h])]
  ·have e:tB (e2 dNe (eV 0) (eV 1)) [.im (.str x),.im (.str k)]=some (true,[.im (.str x),.im (.str k)]):=by simp[h]
   have O:eV 0 [.im (.str x),.im (.str k)]=some (.str x,[.im (.str x),.im (.str k)]):=rfl;rw[e,k_6,O,k_5,x_5 k r,aC5,List.filter_cons_of_pos (by simp[h]),List.map_cons]
theorem aQ0 {α:Type} (f:α->D) (xs:List α) (lo hi:Option Int):∃ ys:List α,S_2 (xs.map f) lo hi=ys.map f/\ys.length<=xs.length:=by
 refine⟨(xs.drop (N_8 xs.length 0 lo)).take (N_8 xs.length xs.length hi-N_8 xs.length 0 lo),?_,?_⟩
 ·unfold S_2
  rw[List.length_map,List.map_take,List.map_drop]
 ·rw[List.length_take,List.length_drop];omega
theorem av5 {α:Type} (f:α->D) (xs:List α) (lo hi:Option Int):∃ ys:List α,S_2 (xs.map f) lo hi=ys.map f/\ys.length<=xs.length/\ys ⊆ xs:=by
 refine⟨(xs.drop (N_8 xs.length 0 lo)).take (N_8 xs.length xs.length hi-N_8 xs.length 0 lo),?_,?_,λ x h=>List.mem_of_mem_drop (List.mem_of_mem_take h)⟩
 ·unfold S_2
  rw[List.length_map,List.map_take,List.map_drop]
 ·rw[List.length_take,List.length_drop];omega
theorem s_5 (x:Int) (b:Bool):∃ o:Option Int,c_2 [.int x,.bl b]=some (bO o)/\(o=none\/o=some x):=by
 cases b with
 |true=>exact⟨none,by simp[c_2,o_0],.inl rfl⟩
 |false =>
  by_cases h:(1000000000000:Int)<=(x.natAbs:Int)
  ·exact⟨none,by simp[c_2,o_0,h],.inl rfl⟩
  ·exact⟨some x,by simp[c_2,o_0,h],.inr rfl⟩
theorem E_4 {α:Type} (f:α->D) (xs:List α) {i:Int} (O:0<=i) (h1:i<xs.length):∃ x,x∈xs/\atD (xs.map f) i=some (f x):=by
 have hi:i.toNat<xs.length:=by omega
 refine⟨xs[i.toNat],List.getElem_mem hi,?_⟩;unfold atD dPl;rw[List.length_map,if_pos O,if_pos h1];show (xs.map f)[i.toNat]?=_;rw[List.getElem?_map,List.getElem?_eq_getElem hi];rfl
theorem R_4 (a b:Int) {i:Int} (O:0<=i) (h1:i<=1):atD [.int a,.int b] i=some (.int (if i=0 then a else b)):=by
 have:i=0\/i=1:=by omega
 rcases this with rfl | rfl <;> rfl
theorem aq9 (c j t v:Int) (hj:0<=j) (k:Str) (ks:List Str) (ht:0<=t) (hl:ks.length=5):∃ r:Rw,f_8 [.int c,.int j,thD t k v,.lst (ks.map .str)]=some (.tup [.str r.word,.tup r.bes])/\r.ok/\r.thr t k v=thD t k v:=by
 obtain⟨n,en,n0,n1⟩:=g_4 c j hj;obtain⟨x,ex,_,_⟩:=l_0 c (j+1) (by omega)
 obtain⟨y,ey,_,_⟩:=l_0 c (j+2) (by omega)
 have eo:=x_5 k ks;have lf:=List.length_filter_le (λ x=>!decide (x=k)) ks
 have nk:k∉ks.filter (λ x=>!decide (x=k)):=λ z=>by simp at z
 generalize ks.filter (λ x=>!decide (x=k))=os at *
 have l5:ks.length<=sizeLine:=a_5 (by omega)
 have m0:=Int.fmod_nonneg_of_pos n (b:=5) (by decide)
 have m1:=Int.fmod_lt_of_pos n (b:=5) (by decide)
 generalize Y:f_8 _=R
 simp[f_8,A_1,List.replicate,en,ex,ey,eo,l5] at Y;subst Y;have aa:n.fmod 5=0\/n.fmod 5=1\/n.fmod 5=2\/n.fmod 5=3\/n.fmod 5=4:=by omega
 by_cases Z:n.fmod 5=0/\t<999999999999
 ·obtain⟨Z,O⟩:=Z
  obtain⟨o,eb,ob⟩:=s_5 (t+1+(y.natAbs:Int)) (decide (Builtin.bitAnd (n / 8) 3=0));refine⟨.time (if t-(x.natAbs:Int) > 0 then t-(x.natAbs:Int) else 0) o,?_,?_,?_⟩
  ·simp[Z,O,eb,Rw.word,Rw.bes]
  ·show 0<=(if t-(x.natAbs:Int) > 0 then t-(x.natAbs:Int) else 0)
   split <;> omega
  ·have e1:decide ((if t-(x.natAbs:Int) > 0 then t-(x.natAbs:Int) else 0)<=t)=true:=decide_eq_true (by split <;> omega)
   have e2:inT (if t-(x.natAbs:Int) > 0 then t-(x.natAbs:Int) else 0) o t=true:=by
    unfold inT;rw[e1]
    rcases ob with rfl | rfl
    ·rfl
    ·simp;omega
   show sv _ _=_;rw[e2];rfl
 have O:n.fmod 5=0->¬ t<999999999999:=λ a b=>Z ⟨a,b⟩
 by_cases h1:n.fmod 5=1
 ·obtain⟨ys,e1,l1⟩:=aQ0 D.str os none (some (Builtin.bitAnd (n / 8) 3))
  have q:1+ys.length<=sizeLine:=a_5 (by omega)
  refine⟨.only (k::ys),?_,?_,?_⟩
  ·simp[h1,e1,Rw.word,Rw.bes,q]
  ·show (k::ys).length<64
   rw[List.length_cons];omega
  ·show sv (decide (k∈k::ys)) _=_
   simp
 by_cases h2:n.fmod 5=2
 ·obtain⟨ys,e1,l1,ab⟩:=av5 D.str os none (some (1+Builtin.bitAnd (n / 8) 3))
  refine⟨.but ys,?_,?_,?_⟩
  ·simp[h2,e1,Rw.word,Rw.bes]
  ·show ys.length<64
   omega
  ·show sv (!decide (k∈ys)) _=_
   rw[decide_eq_false λ z=>nk (ab z)];rfl
 by_cases h3:n.fmod 5=3
 ·obtain⟨o1,e1,ac⟩:=s_5 (v-(x.natAbs:Int)) (decide (Builtin.bitAnd (n / 8) 3=0))
  obtain⟨o2,e2,ad⟩:=s_5 (v+(y.natAbs:Int)) (decide (Builtin.bitAnd (n / 32) 3=0));refine⟨.span o1 o2,?_,trivial,?_⟩
  ·simp[h3,e1,e2,Rw.word,Rw.bes]
  ·have z:inB o1 o2 v=true:=by
    unfold inB
    rcases ac with rfl | rfl <;> rcases ad with rfl | rfl <;> simp <;> omega
   show sv _ _=_;rw[z];rfl
 ·have b1:=b_8 (n / 1048576) 1 (by decide)
  have b3:=b_8 (n / 8) 3 (by decide)
  have f0:=Int.fmod_nonneg_of_pos (n / 8) (b:=999) (by decide)
  have ei:=R_4 (Builtin.bitAnd (n / 8) 3) ((n / 8).fmod 999) b1.1 b1.2
  generalize hz:(if Builtin.bitAnd (n / 1048576) 1=0 then Builtin.bitAnd (n / 8) 3 else (n / 8).fmod 999)=z at ei
  have z0:0<=z:=by rw[<- hz];split <;> omega
  have Y:¬ 2+z=0:=by omega
  refine⟨.rest (2+z) (v.fmod (2+z)),?_,⟨Int.fmod_nonneg_of_pos _ (by omega),Int.fmod_lt_of_pos _ (by omega)⟩,by show sv (decide (_=_)) _=_;simp⟩
  by_cases q:n.fmod 5=0
  ·have q':=O q
   simp[q,q',ei,Y,Rw.word,Rw.bes]
  ·simp[q,h1,h2,h3,ei,Y,Rw.word,Rw.bes]
theorem aa7 (a b c d e:D):atD [a,b,c,d,e] 0=some a:=rfl
theorem ai9 (a b c d e:D):atD [a,b,c,d,e] 1=some b:=rfl
theorem bd1 (a b c d e:D):atD [a,b,c,d,e] 2=some c:=rfl
theorem bs4 (a b c d e:D):atD [a,b,c,d,e] 3=some d:=rfl
theorem ix5 (k0 k1 k2 k3 k4:Str) {i:Int} (O:0<=i) (h1:i<5):∃ x:Str,atD [.str k0,.str k1,.str k2,.str k3,.str k4] i=some (.str x):=by
 obtain⟨x,_,e⟩:=E_4 D.str [k0,k1,k2,k3,k4] O (by simpa using h1)
 exact⟨x,e⟩
noncomputable def Rw.chg:Rw->Prop
 |.turn _ _=>True | .later _=>True | .put _=>True | _=>False
theorem Rw.chg_thr {r:Rw} (h:r.chg) (ok:r.ok) {t:Int} (O:0<=t) (k:Str) (v:Int):∃ t' Z Y,r.thr t k v=thD t' Z Y/\0<=t':=by
 cases r with
 |turn a b=>exact⟨_,_,_,rfl,O⟩
 |later c=>have:0<=c:=ok;exact⟨_,_,_,rfl,by omega⟩
 |put kvs=>exact⟨_,_,_,rfl,O⟩
 |_=>cases h
theorem bJ2:r_1 0 4=[.int 0,.int 1,.int 2,.int 3]:=rfl
theorem am7 (c j:Int) (hj:0<=j) (k0 k1 k2 k3 k4:Str) (nd:[k0,k1,k2,k3,k4].Nodup):∃ r:Rw,d_3 [.int c,.int j,.lst [.str k0,.str k1,.str k2,.str k3,.str k4]]=some (.tup [.str r.word,.tup r.bes])/\r.ok/\r.chg:=by
 obtain⟨n,en,n0,n1⟩:=g_4 c j hj;obtain⟨x,ex,_,_⟩:=l_0 c (j+1) (by omega)
 have m0:=Int.fmod_nonneg_of_pos n (b:=3) (by decide)
 have m1:=Int.fmod_lt_of_pos n (b:=3) (by decide)
 by_cases h0:n.fmod 3=0
 ·have b1:=b_8 (n / 1048576) 1 (by decide)
  have ei:=R_4 ((n / 8).fmod 7-3) ((n / 8).fmod 2001-1000) b1.1 b1.2;have f0:=Int.fmod_nonneg_of_pos (n / 8) (b:=7) (by decide)
  have f1:=Int.fmod_lt_of_pos (n / 8) (b:=7) (by decide)
  have g0:=Int.fmod_nonneg_of_pos (n / 8) (b:=2001) (by decide)
  have g1:=Int.fmod_lt_of_pos (n / 8) (b:=2001) (by decide)
  generalize hz:(if Builtin.bitAnd (n / 1048576) 1=0 then (n / 8).fmod 7-3 else (n / 8).fmod 2001-1000)=z at ei
  have Y:-1000<=z/\z<=1000:=by rw[<- hz];split <;> omega
  refine⟨.turn (z+(if decide (z=0)=true then 1 else 0)) x,?_,?_,trivial⟩
  ·simp[d_3,m_2,List.replicate,en,ex,h0,ei,Rw.word,Rw.bes]
  ·show (z+(if decide (z=0)=true then 1 else 0)).natAbs<2 ^ 64
   split <;> omega
 by_cases h1:n.fmod 3=1
 ·refine⟨.later (x.natAbs:Int),?_,by show 0<=(x.natAbs:Int);omega,trivial⟩
  simp[d_3,m_2,List.replicate,en,ex,h1,Rw.word,Rw.bes]
 ·have b3:=b_8 (n / 32768) 3 (by decide)
  have f5:∀ y:Int,∃ z:Str,atD [.str k0,.str k1,.str k2,.str k3,.str k4] (y.fmod 5)=some (.str z):=λ y=>ix5 k0 k1 k2 k3 k4 (Int.fmod_nonneg_of_pos _ (by decide)) (Int.fmod_lt_of_pos _ (by decide))
  have st:∀ (i:Int),0<=i->∃ z:Str,e2 b_0 (eV 1) (e2 l_4 (e2 f_3 (e2 l_9 (eV 2) (e2 e_9 (zI 3) (e2 s_3 (zI 3) (eV 0)))) (zI 7)) (zI 5)) [.im (.int i),.im (.lst [.str k0,.str k1,.str k2,.str k3,.str k4]),.im (.int n)]
    = some (.str z,[.im (.int i),.im (.lst [.str k0,.str k1,.str k2,.str k3,.str k4]),.im (.int n)]):=λ i hi=>by
   have a1:m_8 3 i=true:=k_9 (by decide)
   have a2:0<=3+3*i:=by omega
   obtain⟨z,e⟩:=f5 (Builtin.bitAnd (n / 2 ^ (3+3*i).toNat) 7);exact⟨z,by simp[a1,a2,e]⟩
  obtain⟨Y,e0⟩:=st 0 (by decide)
  obtain⟨Z,e1⟩:=st 1 (by decide)
  obtain⟨z2,aa⟩:=st 2 (by decide)
  obtain⟨z3,ab⟩:=st 3 (by decide)
  have lp:cGo tYes (e2 b_0 (eV 1) (e2 l_4 (e2 f_3 (e2 l_9 (eV 2) (e2 e_9 (zI 3) (e2 s_3 (zI 3) (eV 0)))) (zI 7)) (zI 5))) [.im (.lst [.str k0,.str k1,.str k2,.str k3,.str k4]),.im (.int n)] (r_1 0 4)=some [.str Y,.str Z,.str z2,.str z3]:=by
   have t:∀ ρ:En,tYes ρ=some (true,ρ):=λ _=>rfl
   rw[bJ2,j_6,t,k_6,e0,k_5,j_6,t,k_6,e1,k_5,j_6,t,k_6,aa,k_5,j_6,t,k_6,ab,k_5,bg5];rfl
  have l4:(r_1 0 4).length<=sizeLine:=a_5 (by decide)
  have fin:∀ (m:Int) (kvs:List (Str×Str)),Builtin.bitAnd (n / 32768) 3=m->-4611686018427387904<=1+m->1+m<4611686018427387904->(r_1 0 (1+m).toNat).length<=sizeLine ->
    cGo tYes (h_2 (aC (e2 b_0 (eV 1) (eV 0)) (aC (e2 b_0 (eV 2) (eV 0)) aN))) [.im (.lst [.str k0,.str k1,.str k2,.str k3,.str k4]),.im (.lst [.str Y,.str Z,.str z2,.str z3])] (r_1 0 (1+m).toNat)=some (kvs.map prD) ->
    kvs.length<=1000/\(kvs.map (·.1)).Nodup->∃ r:Rw,d_3 [.int c,.int j,.lst [.str k0,.str k1,.str k2,.str k3,.str k4]]=some (.tup [.str r.word,.tup r.bes])/\r.ok/\r.chg:=λ m kvs O q1 q2 q3 e ok=>by
   refine⟨.put kvs,?_,ok,trivial⟩;simp[d_3,m_2,List.replicate,en,ex,h0,h1,lp,l4,O,q1,q2,q3,e,Rw.word,Rw.bes]
  have t:∀ ρ:En,tYes ρ=some (true,ρ):=λ _=>rfl
  simp at nd;have O:Builtin.bitAnd (n / 32768) 3=0\/Builtin.bitAnd (n / 32768) 3=1\/Builtin.bitAnd (n / 32768) 3=2\/Builtin.bitAnd (n / 32768) 3=3:=by omega
  rcases O with O | O | O | O
  ·refine fin 0 [(k0,Y)] O (by decide) (by decide) (a_5 (by decide)) ?_ (by simp)
   show cGo _ _ _ [.int 0]=_;simp[aa7,j_3,prD]
  ·refine fin 1 [(k0,Y),(k1,Z)] O (by decide) (by decide) (a_5 (by decide)) ?_ (by simp;simp_all)
   show cGo _ _ _ [.int 0,.int 1]=_;simp[aa7,j_3,ai9,t_2,prD]
  ·refine fin 2 [(k0,Y),(k1,Z),(k2,z2)] O (by decide) (by decide) (a_5 (by decide)) ?_ (by simp;simp_all)
   show cGo _ _ _ [.int 0,.int 1,.int 2]=_;simp[aa7,j_3,ai9,t_2,bd1,H_0,prD]
  ·refine fin 3 [(k0,Y),(k1,Z),(k2,z2),(k3,z3)] O (by decide) (by decide) (a_5 (by decide)) ?_ (by simp;simp_all)
   show cGo _ _ _ [.int 0,.int 1,.int 2,.int 3]=_;simp[aa7,j_3,ai9,t_2,bd1,H_0,bs4,o_2,prD]
@[simp] theorem bP9 (n k:Nat) (F:En->Option MO) (ds:List D):fnN n k F ds=if ds.length=n then F (ds.map .im++List.replicate k .no) else none:=zR rfl
noncomputable def bb8 (F:En->Option MO) (o:Option Res):Option MO:=bnd o λ r=>match r with
 |.nx O=>F O
 |_=>none
@[simp] theorem bK3 (A:FS) (F:En->Option MO) (ρ:En):bb9 A F ρ=bb8 F (A ρ):=zR rfl
@[simp] theorem bs1 (F:En->Option MO) (ρ:En):bb8 F (some (.nx ρ))=F ρ:=zR rfl
structure Th where
 t:Int
 k:Str
 v:Int
abbrev Th.D (x:Th):D:=thD x.t x.k x.v
noncomputable def Rw.thO:Rw->Th->Option Th
 |.time b e,x=>if inT b e x.t=true then some x else none
 |.only ks,x=>if x.k∈ks then some x else none
 |.but ks,x=>if x.k∈ks then none else some x
 |.span lo hi,x=>if inB lo hi x.v=true then some x else none
 |.rest m r,x=>if x.v.fmod m=r then some x else none
 |.turn a b,x=>some ⟨x.t,x.k,a*x.v+b⟩
 |.later c,x=>some ⟨x.t+c,x.k,x.v⟩
 |.put kvs,x=>some ⟨x.t,I_9 x.k kvs,x.v⟩
noncomputable def thN:Option Th->D
 |none=>.non
 |some x=>x.D
theorem ad1 (r:Rw) (x:Th):r.thr x.t x.k x.v=thN (r.thO x):=by
 cases r with
 |time b e=>show sv _ _=thN (if _ then _ else _);by_cases h:inT b e x.t=true <;> simp[h,thN,sv]
 |only ks=>show sv _ _=thN (if _ then _ else _);by_cases h:x.k∈ks <;> simp[h,thN,sv]
 |but ks=>show sv _ _=thN (if _ then _ else _);by_cases h:x.k∈ks <;> simp[h,thN,sv]
 |span lo hi=>show sv _ _=thN (if _ then _ else _);by_cases h:inB lo hi x.v=true <;> simp[h,thN,sv]
 |rest m q=>show sv _ _=thN (if _ then _ else _);by_cases h:x.v.fmod m=q <;> simp[h,thN,sv]
 |turn a b=>rfl
 |later c=>rfl
 |put kvs=>rfl
theorem bm4 {r:Rw} (ok:r.ok) {x y:Th} (O:0<=x.t) (h:r.thO x=some y):0<=y.t:=by
 cases r with
 |turn a b=>cases h;exact O
 |later c=>have:0<=c:=ok;cases h;show 0<=x.t+c;omega
 |put kvs=>cases h;exact O
 |but ks =>
  have h':(if x.k∈ks then none else some x)=some y:=h
  by_cases z:x.k∈ks
  ·rw[if_pos z] at h';cases h'
  ·rw[if_neg z] at h';cases h';exact O
 |time b e=>obtain⟨_,rfl⟩:=ifs (show (if inT b e x.t=true then some x else none)=some y from h);exact O
 |only ks=>obtain⟨_,rfl⟩:=ifs (show (if x.k∈ks then some x else none)=some y from h);exact O
 |span lo hi=>obtain⟨_,rfl⟩:=ifs (show (if inB lo hi x.v=true then some x else none)=some y from h);exact O
 |rest m q=>obtain⟨_,rfl⟩:=ifs (show (if x.v.fmod m=q then some x else none)=some y from h);exact O
inductive Wr where
 |inn (nm:Str) (lo hi:Option Int) | one (r:Rw) (nm fr:Str) | pour (nm:Str) (frs:List Str)
noncomputable def Wr.nm:Wr->Str
 |.inn nm _ _=>nm | .one _ nm _=>nm | .pour nm _=>nm
noncomputable def Wr.fs:Wr->List Str
 |.inn _ _ _=>[] | .one _ _ fr=>[fr] | .pour _ frs=>frs
noncomputable def Wr.ok:Wr->Prop
 |.one r _ _=>r.ok | _=>True
noncomputable def Wr.D:Wr->D
 |.inn nm lo hi=>.tup [.str "in",.str nm,.tup [],.tup [bO lo,bO hi]]
 |.one r nm fr=>rwD nm fr r
 |.pour nm frs=>.tup [.str "pour",.str nm,.tup (frs.map .str),.tup []]
inductive Cm where
 |th (nm:Str) (x:Th) | mk (nm:Str) (t:Int) | cl (nm:Str)
noncomputable def Cm.D:Cm->D
 |.th nm x=>.tup [.str "thing",.str nm,.int x.t,.str x.k,.int x.v]
 |.mk nm t=>.tup [.str "mark",.str nm,.int t]
 |.cl nm=>.tup [.str "close",.str nm]
noncomputable def Cm.at (nm:Str):Cm->Option Th
 |.th n x=>if n=nm then some x else none
 |_=>none
abbrev Ev:=List (Str×List Th)
abbrev thL (l:List Th):D:=.lst (l.map Th.D)
abbrev Ev.D (E:Ev):D:=.dct (E.map (·.1)) (E.map λ e=>thL e.2)
theorem aj8 (nm:Str):∀ E:Ev,r_5 nm ((E.map (·.1)).zip (E.map λ e=>thL e.2))=(E.lookup nm).map thL
 |[]=>rfl
 |(k,l)::E=>by
  rw[List.map_cons,List.map_cons,List.zip_cons_cons,List.lookup_cons];unfold r_5
  by_cases h:k=nm
  ·subst h;simp
  ·have h':(nm==k)=false:=beq_eq_false_iff_ne.mpr (Ne.symm h)
   simp[h,h',aj8 nm E]
noncomputable def tOf (E:Ev) (cs:List Cm):Wr->List Th
 |.inn nm _ _=>cs.filterMap (Cm.at nm)
 |.one r _ fr=>((E.lookup fr).getD []).filterMap r.thO
 |.pour _ frs=>frs.flatMap λ fr=>(E.lookup fr).getD []
theorem P_3 (E:Ev) (Y f Z:Sl):∀ (frs:List Str) (O:List Th) (Z:Sl),(∀ fr∈frs,∃ l,E.lookup fr=some l)->O.length+(frs.flatMap λ fr=>(E.lookup fr).getD []).length<1000 ->
  ∃ aa,fGo (gN 4) c_9 (frs.map .str) [Y,.im E.D,f,.ow false (.lst (O.map Th.D)),Z]=some (.nx [Y,.im E.D,f,.ow false (.lst ((O++frs.flatMap λ fr=>(E.lookup fr).getD []).map Th.D)),aa])
 |[],O,Z,_,_=>⟨Z,by simp;rfl⟩
 |fr::frs,O,Z,h,hl=>by
  obtain⟨l,el⟩:=h fr (qf ..);rw[List.flatMap_cons,List.length_append,el,Option.getD_some] at hl;have g:gN 4 (.str fr) [Y,.im E.D,f,.ow false (.lst (O.map Th.D)),Z]=some [Y,.im E.D,f,.ow false (.lst (O.map Th.D)),.im (.str fr)]:=rfl
  have b:c_9 [Y,.im E.D,f,.ow false (.lst (O.map Th.D)),.im (.str fr)]=some (.nx [Y,.im E.D,f,.ow false (.lst ((O++l).map Th.D)),.im (.str fr)]):=by
   have e2:O.length+l.length<1000:=by omega
   simp[c_9,aj8,el,e2]
  rw[List.map_cons,y_8,g,z_0,b,y_9];obtain⟨s',e⟩:=P_3 E Y f Z frs (O++l) (.im (.str fr)) (λ x hx=>h x (qg _ hx)) (by rw[List.length_append];omega)
  refine⟨s',?_⟩;rw[e,List.flatMap_cons,el,Option.getD_some,List.append_assoc]
theorem bl3 (w:Wr):∃ a b c,w.D=.tup [a,.str w.nm,b,c]:=by cases w <;> exact⟨_,_,_,rfl⟩
theorem U_6 (r:Rw):r.word≠Str.ofString "pour" ∧ r.word≠Str.ofString "in":=by
 have h:∀ w∈[Str.ofString "time",Str.ofString "only",Str.ofString "but",Str.ofString "span",Str.ofString "rest",Str.ofString "turn",Str.ofString "later",Str.ofString "put"],w≠Str.ofString "pour" ∧ w≠Str.ofString "in":=by decide +kernel
 exact h _ (by cases r <;> simp[Rw.word])
theorem ay3 (r:Rw) (ok:r.ok) (nm fr:Str):∀ l:List Th,(∀ x∈l,0<=x.t) ->
  cGo tYes (eFv 1 b_1 (aC (eV 2) (aC (eV 0) aN))) [.im .opq,.im (rwD nm fr r)] (l.map Th.D)=some (l.map λ x=>thN (r.thO x))
 |[],_=>rfl
 |x::l,h=>by
  have e:=aV4 (nm:=nm) (fr:=fr) r ok x.t x.v x.k (h x (qf ..));rw[ad1] at e;have t:tYes (.im x.D::[.im .opq,.im (rwD nm fr r)])=some (true,.im x.D::[.im .opq,.im (rwD nm fr r)]):=rfl;have e1:eFv 1 b_1 (aC (eV 2) (aC (eV 0) aN)) (.im x.D::[.im .opq,.im (rwD nm fr r)])=some (thN (r.thO x),.im x.D::[.im .opq,.im (rwD nm fr r)]):=by simp[e]
  rw[List.map_cons,j_6,t,k_6,e1,k_5,ay3 r ok nm fr l λ y O=>h y (List.mem_cons_of_mem _ O)]
  rfl
theorem V_8:∀ l:List (Option Th),cGo (tB (e2 g_0 (eV 0) (eC .non))) (eV 0) [] (l.map thN)=some ((l.filterMap id).map Th.D)
 |[]=>rfl
 |none::l=>by
  have t:tB (e2 g_0 (eV 0) (eC .non)) (.im (thN none)::[])=some (false,[.im .non]):=by simp[thN]
  rw[List.map_cons,j_6,t,I_6,V_8 l];rfl
 |some x::l=>by
  have t:tB (e2 g_0 (eV 0) (eC .non)) (.im (thN (some x))::[])=some (true,[.im x.D]):=by simp[thN]
  rw[List.map_cons,j_6,t,k_6,show eV 0 [.im x.D]=some (x.D,[.im x.D]) from rfl,k_5,V_8 l];rfl
theorem be3 (r:Rw) (l:List Th):(l.map λ x=>r.thO x).filterMap id=l.filterMap r.thO:=by rw[List.filterMap_map];rfl
theorem aV6 (E:Ev) (r:Rw) (ok:r.ok) (nm fr:Str) {l:List Th} (O:E.lookup fr=some l) (hl:l.length<1000) (h0:∀ x∈l,0<=x.t) :
  b_7 [(Wr.one r nm fr).D,E.D,.opq]=some (thL (l.filterMap r.thO)):=by
 obtain⟨s',e⟩:=P_3 E (.im (rwD nm fr r)) (.im .opq) .no [fr] [] .no (λ x hx=>by cases qv hx;exact⟨l,O⟩) (by simp[O];exact hl)
 have ef:([fr].flatMap λ fr=>(E.lookup fr).getD [])=l:=by simp[O]
 rw[ef,List.nil_append] at e;have e':fGo (gN 4) c_9 [.str fr] [.im (rwD nm fr r),.im E.D,.im .opq,.ow false (.lst []),.no]=_:=e;have w:=U_6 r;have sl:l.length<=sizeLine:=a_5 (by omega)
 have g1:=ay3 r ok nm fr l h0;have Z:=V_8 (l.map λ x=>r.thO x)
 rw[be3,List.map_map] at Z;have Y:cGo (tB (e2 g_0 (eV 0) (eC .non))) (eV 0) [] (l.map λ x=>thN (r.thO x))=some ((l.filterMap r.thO).map Th.D):=Z
 simp[b_7,l_3,Wr.D,List.replicate,j_3,H_0,e',w.1,sl,g1,Y]
theorem aG2 (E:Ev) (nm:Str) (frs:List Str) (h:∀ fr∈frs,∃ l,E.lookup fr=some l) (O:(frs.flatMap λ fr=>(E.lookup fr).getD []).length<1000) :
  b_7 [(Wr.pour nm frs).D,E.D,.opq]=some (thL (frs.flatMap λ fr=>(E.lookup fr).getD [])):=by
 obtain⟨s',e⟩:=P_3 E (.im (Wr.pour nm frs).D) (.im .opq) .no frs [] .no h (by simpa using O)
 rw[List.nil_append] at e;have Y:fGo (gN 4) c_9 (frs.map .str) [.im (.tup [.str "pour",.str nm,.tup (frs.map .str),.tup []]),.im E.D,.im .opq,.ow false (.lst []),.no]=_:=e;simp[b_7,l_3,Wr.D,List.replicate,j_3,H_0,Y]
theorem bd5 (nm:Str) (O a b c:D) (Y:O=.tup [a,.str nm,b,c]):∀ cs:List Cm,
  cGo (tAnd (tB (e2 dEq (e2 b_0 (eV 0) (zI 0)) (zT "thing"))) (tB (e2 dEq (e2 b_0 (eV 0) (zI 1)) (e2 b_0 (eV 1) (zI 1))))) (J_2 (eV 0) (oS (zI 2)) oN) [.im O] (cs.map Cm.D)=some ((cs.filterMap (Cm.at nm)).map Th.D)
 |[]=>rfl
 |c::cs=>by
  have Z:=bd5 nm O a b _ Y cs;rw[List.map_cons,j_6];cases c with
  |th n x =>
   by_cases h:n=nm
   ·have t:tAnd (tB (e2 dEq (e2 b_0 (eV 0) (zI 0)) (zT "thing"))) (tB (e2 dEq (e2 b_0 (eV 0) (zI 1)) (e2 b_0 (eV 1) (zI 1)))) (.im (Cm.th n x).D::[.im O])=some (true,.im (Cm.th n x).D::[.im O]):=by
     subst Y;simp[Cm.D,aa7,ai9,t_2,h]
    have s:J_2 (eV 0) (oS (zI 2)) oN (.im (Cm.th n x).D::[.im O])=some (x.D,.im (Cm.th n x).D::[.im O]):=by
     kernel_rfl
    rw[t,k_6,s,k_5,Z,List.filterMap_cons,show Cm.at nm (.th n x)=some x from if_pos h];rfl
   ·have t:tAnd (tB (e2 dEq (e2 b_0 (eV 0) (zI 0)) (zT "thing"))) (tB (e2 dEq (e2 b_0 (eV 0) (zI 1)) (e2 b_0 (eV 1) (zI 1)))) (.im (Cm.th n x).D::[.im O])=some (false,.im (Cm.th n x).D::[.im O]):=by
     subst Y;simp[Cm.D,aa7,ai9,t_2,h]
    rw[t,I_6,Z,List.filterMap_cons,show Cm.at nm (.th n x)=none from if_neg h]
  |mk n x =>
   have w:¬ Str.ofString "mark"=Str.ofString "thing":=by decide +kernel
   have t:tAnd (tB (e2 dEq (e2 b_0 (eV 0) (zI 0)) (zT "thing"))) (tB (e2 dEq (e2 b_0 (eV 0) (zI 1)) (e2 b_0 (eV 1) (zI 1)))) (.im (Cm.mk n x).D::[.im O])=some (false,.im (Cm.mk n x).D::[.im O]):=by
    subst Y;simp[Cm.D,j_5,w]
   rw[t,I_6,Z];rfl
  |cl n =>
   have w:¬ Str.ofString "close"=Str.ofString "thing":=by decide +kernel
   have t:tAnd (tB (e2 dEq (e2 b_0 (eV 0) (zI 0)) (zT "thing"))) (tB (e2 dEq (e2 b_0 (eV 0) (zI 1)) (e2 b_0 (eV 1) (zI 1)))) (.im (Cm.cl n).D::[.im O])=some (false,.im (Cm.cl n).D::[.im O]):=by
    subst Y;simp[Cm.D,h_7,w]
   rw[t,I_6,Z];rfl
theorem ae2 (l:List Th):(l.map Th.D).all r3=true:=List.all_eq_true.mpr λ x h=>by
 obtain⟨y,_,rfl⟩:=List.mem_map.mp h;rfl
noncomputable def bm3:D->Th
 |.tup [.int t,.str k,.int v]=>⟨t,k,v⟩
 |_=>⟨0,Str.ofString "",0⟩
noncomputable def srt (l:List Th):List Th:=(q_7 (l.map Th.D)).map bm3
theorem aW4 (l:List Th):(srt l).map Th.D=q_7 (l.map Th.D):=by
 unfold srt;rw[List.map_map];refine (List.map_congr_left λ d h=>?_).trans (List.map_id _)
 obtain⟨y,_,rfl⟩:=List.mem_map.mp ((i_2 _).mem_iff.mp h);rfl
theorem U_0 (l:List Th):(srt l).Perm l:=by
 have:=(i_2 (l.map Th.D)).map bm3;rw[List.map_map] at this;exact this.trans (by rw[show (bm3 ∘ Th.D)=id from rfl,List.map_id])
theorem ah1:∀ l:List Th,nds (l.map Th.D)=true
 |[]=>rfl
 |x::l=>by rw[List.map_cons];show (nd x.D&&nds (l.map Th.D))=true;rw[ah1 l];rfl
structure Fit (E:Ev) (cs:List Cm) (w:Wr):Prop where
 ok:w.ok
 fr:∀ f∈w.fs,∃ l,E.lookup f=some l/\l.length<1000/\∀ x∈l,0<=x.t
 len:(tOf E cs w).length<64
 cs:cs.length<1000
theorem ad2 {E:Ev}{cs:List Cm}{w:Wr} (h:Fit E cs w):d_0 [w.D,E.D,.lst (cs.map Cm.D)]=some (thL (tOf E cs w)):=by
 cases w with
 |inn nm lo hi =>
  have Y:cs.length<=sizeLine:=a_5 (by have:=h.cs;omega)
  have g:=bd5 nm (Wr.inn nm lo hi).D _ _ _ rfl cs;have g':cGo (tAnd (tB (e2 dEq (e2 b_0 (eV 0) (zI 0)) (zT "thing"))) (tB (e2 dEq (e2 b_0 (eV 0) (zI 1)) (e2 b_0 (eV 1) (zI 1))))) (J_2 (eV 0) (oS (zI 2)) oN) [.im (.tup [.str "in",.str nm,.tup [],.tup [bO lo,bO hi]])] (cs.map Cm.D)=_:=g;simp[d_0,n_8,Wr.D,j_3,Y,g',tOf]
 |one r nm fr =>
  obtain⟨l,e1,e2,e3⟩:=h.fr fr (List.mem_singleton.mpr rfl);have g:=aV6 E r h.ok nm fr e1 e2 e3;have w:=(U_6 r).2;have g':b_7 [rwD nm fr r,E.D,.opq]=_:=g;simp[d_0,n_8,Wr.D,j_3,w,g',tOf,e1]
 |pour nm frs =>
  have g:=aG2 E nm frs (λ f O=>by obtain⟨l,e,_⟩:=h.fr f O;exact⟨l,e⟩) (Nat.lt_trans (show (frs.flatMap λ fr=>(E.lookup fr).getD []).length<64 from h.len) (by decide))
  have w:¬ Str.ofString "pour"=Str.ofString "in":=by decide +kernel
  have g':b_7 [.tup [.str "pour",.str nm,.tup (frs.map .str),.tup []],E.D,.opq]=_:=g;simp[d_0,n_8,Wr.D,j_3,w,g',tOf]
abbrev Ev.kds (E:Ev):List (Str×Fx.D):=E.map λ e=>(e.1,thL e.2)
theorem bd8 (E:Ev):hld E.kds=.im E.D:=by
 unfold hld;rw[List.map_map,List.map_map];rfl
theorem bs0 (E:Ev):nds (E.kds.map (·.2))=true:=by
 rw[List.map_map]
 induction E with
 |nil=>rfl
 |cons e E O =>
  rw[List.map_cons];show (nds (e.2.map Th.D)&&nds _)=true;rw[ah1,O];rfl
abbrev aQ2:D:=.tup [(.str "in"),(.str "time"),(.str "only"),(.str "but"),(.str "span"),(.str "rest"),(.str "turn"),(.str "later"),(.str "put"),(.str "pour")]
theorem am8 (a b c:Sl) (w:Wr):tB (e2 ap0 (e2 b_0 (eV 3) (zI 0)) (eC aQ2)) [a,b,c,.im w.D]=some (true,[a,b,c,.im w.D]):=by
 cases w with
 |inn nm lo hi=>kernel_rfl
 |one r nm fr=>cases r <;> kernel_rfl
 |pour nm frs=>kernel_rfl
theorem aj7 (nm:Str):∀ E:Ev,nm∉E.map (·.1)->r_5 nm E.kds=none
 |[],_=>rfl
 |(k,l)::E,h=>by
  have h1:¬ k=nm:=λ z=>h (by rw[z];simp)
  show r_5 nm ((k,thL l)::Ev.kds E)=none;unfold r_5;rw[if_neg h1];exact aj7 nm E λ z=>h (by rw[List.map_cons];exact qg _ z)
theorem bq2 (nm:Str) (l:List Th) (E:Ev) (h:nm∉E.map (·.1)):aI9 nm (thL l) E.kds=Ev.kds (E++[(nm,l)]):=by
 unfold aI9;rw[aj7 nm E h];show Ev.kds E++[(nm,thL l)]=_;unfold Ev.kds;rw[List.map_append];rfl
theorem ab5 {E:Ev}{cs:List Cm}{w:Wr} (W:D) (h:Fit E cs w) (hn:w.nm∉E.map (·.1)) (hl:E.length<100) :
  e_8 [.im W,.im (.lst (cs.map Cm.D)),.ow false (.dic E.kds),.im w.D]=some (.nx [.im W,.im (.lst (cs.map Cm.D)),.ow false (.dic (Ev.kds (E++[(w.nm,srt (tOf E cs w))]))),.im w.D]):=by
 have t:=am8 (.im W) (.im (.lst (cs.map Cm.D))) (.ow false (.dic E.kds)) w;have g:=ad2 h;have Y:=h.len;obtain⟨a,b,c,ew⟩:=bl3 w
 have k1:e2 b_0 (eV 3) (zI 1) [.im W,.im (.lst (cs.map Cm.D)),.ow false (.dic E.kds),.im w.D]=some (.str w.nm,[.im W,.im (.lst (cs.map Cm.D)),.ow false (.dic E.kds),.im w.D]):=by
  rw[ew];simp[t_2]
 have hF:eF p_6 (aC (eF d_0 (aC (eV 3) (aC (eV 2) (aC (eV 1) aN)))) aN) [.im W,.im (.lst (cs.map Cm.D)),.im E.D,.im w.D]=some (thL (srt (tOf E cs w)),[.im W,.im (.lst (cs.map Cm.D)),.im E.D,.im w.D]):=by
  have z:p_6 [thL (tOf E cs w)]=some (thL (srt (tOf E cs w))):=by
   rw[Y_5,if_pos ⟨by rw[List.length_map];exact Y,.inl (ae2 _)⟩]
   show some (D.lst _)=some (D.lst _);rw[aW4]
  simp[g,z]
 have O:(([.im W,.im (.lst (cs.map Cm.D)),.ow false (.dic E.kds),.im w.D]:En).all ndS)=true:=by
  show (true&&(true&&(nds (E.kds.map (·.2))&&(true&&true))))=true;rw[bs0];rfl
 have hd:ab1 2 (eF p_6 (aC (eF d_0 (aC (eV 3) (aC (eV 2) (aC (eV 1) aN)))) aN)) [.im W,.im (.lst (cs.map Cm.D)),.ow false (.dic E.kds),.im w.D]=some (thL (srt (tOf E cs w)),[.im W,.im (.lst (cs.map Cm.D)),.ow false (.dic E.kds),.im w.D]):=by
  rw[bf4];show N_5 2 _ _ (some (false,E.kds))=_;rw[av1,if_pos ⟨rfl,O⟩];show s_2 _ [.im W,.im (.lst (cs.map Cm.D)),hld E.kds,.im w.D] (eF p_6 _ [.im W,.im (.lst (cs.map Cm.D)),hld E.kds,.im w.D])=_;rw[bd8,hF,av0 _ _ _ (show nd (thL _)=true from ah1 _)]
 have Z:E.kds.length<100:=by rw[List.length_map];exact hl
 have st:sDK 2 (e2 b_0 (eV 3) (zI 1)) (ab1 2 (eF p_6 (aC (eF d_0 (aC (eV 3) (aC (eV 2) (aC (eV 1) aN)))) aN))) [.im W,.im (.lst (cs.map Cm.D)),.ow false (.dic E.kds),.im w.D]=some (.nx [.im W,.im (.lst (cs.map Cm.D)),.ow false (.dic (Ev.kds (E++[(w.nm,srt (tOf E cs w))]))),.im w.D]):=by
  unfold sDK;rw[hd];show bo7 2 _ (e2 b_0 (eV 3) (zI 1) _)=_;rw[k1];show (if E.kds.length<100 then some (Res.nx [.im W,.im (.lst (cs.map Cm.D)),.ow false (.dic (aI9 w.nm (thL (srt (tOf E cs w))) E.kds)),.im w.D]) else none)=_;rw[if_pos Z,bq2 _ _ _ hn]
 unfold e_8;rw[bI7];rw[t];exact st
noncomputable def chn (cs:List Cm):Ev->List Wr->Ev
 |E,[]=>E
 |E,w::ws=>chn cs (E++[(w.nm,srt (tOf E cs w))]) ws
noncomputable def O_7 (cs:List Cm):Ev->List Wr->Prop
 |_,[]=>True
 |E,w::ws=>Fit E cs w/\w.nm∉E.map (·.1)/\E.length<100/\O_7 cs (E++[(w.nm,srt (tOf E cs w))]) ws
theorem E_2 (cs:List Cm) (W:D):∀ (ws:List Wr) (E:Ev) (O:Sl),O_7 cs E ws->∃ Y,fGo (gN 3) e_8 (ws.map Wr.D) [.im W,.im (.lst (cs.map Cm.D)),.ow false (.dic E.kds),O]=some (.nx [.im W,.im (.lst (cs.map Cm.D)),.ow false (.dic (Ev.kds (chn cs E ws))),Y])
 |[],E,O,_=>⟨O,rfl⟩
 |w::ws,E,O,⟨h1,h2,h3,h4⟩=>by
  obtain⟨s',e⟩:=E_2 cs W ws _ (.im w.D) h4;refine⟨s',?_⟩;have g:gN 3 w.D [.im W,.im (.lst (cs.map Cm.D)),.ow false (.dic E.kds),O]=some [.im W,.im (.lst (cs.map Cm.D)),.ow false (.dic E.kds),.im w.D]:=rfl;rw[List.map_cons,y_8,g,z_0,ab5 W h1 h2 h3,y_9,e];rfl
theorem av8 (cs:List Cm) (ws:List Wr) (h:O_7 cs [] ws):b_5 [.lst (ws.map Wr.D),.lst (cs.map Cm.D)]=some (.dic (Ev.kds (chn cs [] ws))):=by
 obtain⟨s',e⟩:=E_2 cs (.lst (ws.map Wr.D)) ws [] .no h;have O:fGo (gN 3) e_8 (ws.map Wr.D) [.im (.lst (ws.map Wr.D)),.im (.lst (cs.map Cm.D)),.ow false (.dic []),.no]=_:=e;simp[b_5,q_9,List.replicate,O]
noncomputable def lk (ws:List Wr) (nm:Str):Option Wr:=ws.find? λ w=>decide (w.nm=nm)
abbrev Pt:=Str×Th
abbrev ptD (c:Pt):D:=(Cm.th c.1 c.2).D
noncomputable def com (ws:List Wr):Nat->Str->Pt->List Th
 |0,_,_=>[]
 |n+1,nm,c=>match lk ws nm with
  |none=>[]
  |some (.inn _ _ _)=>if c.1=nm then [c.2] else []
  |some (.one r _ fr)=>(com ws n fr c).filterMap r.thO
  |some (.pour _ frs)=>frs.flatMap λ fr=>com ws n fr c
noncomputable def Dep (ws:List Wr):Nat->Str->Prop
 |0,_=>False
 |n+1,nm=>∃ w,lk ws nm=some w/\w.ok/\∀ f∈w.fs,Dep ws n f
noncomputable def Onc (ws:List Wr):Prop:=∀ n nm c,(com ws n nm c).length<=1
theorem aL7 {ws:List Wr}{nm:Str}{w:Wr} (h:lk ws nm=some w):w∈ws/\w.nm=nm:=by
 unfold lk at h;refine⟨List.mem_of_find?_eq_some h,?_⟩;have:=List.find?_some h
 simpa using this
theorem ag2 {α:Type} (f:α->List Th):∀ l:List α,(∀ x∈l,(f x).length<=1)->(l.flatMap f).length<=l.length
 |[],_=>qj _
 |x::l,h=>by
  rw[List.flatMap_cons,List.length_append,List.length_cons,Nat.add_comm];exact Nat.add_le_add (ag2 f l λ y O=>h y (qg _ O)) (h x (qf ..))
abbrev wsD (ws:List Wr):D:=.dct (ws.map Wr.nm) (ws.map Wr.D)
theorem X_1 (nm:Str):∀ ws:List Wr,r_5 nm ((ws.map Wr.nm).zip (ws.map Wr.D))=(lk ws nm).map Wr.D
 |[]=>rfl
 |w::ws=>by
  rw[List.map_cons,List.map_cons,List.zip_cons_cons];unfold r_5 lk;rw[List.find?_cons]
  by_cases h:w.nm=nm
  ·rw[if_pos h];simp[h]
  ·rw[if_neg h];simp[h];exact X_1 nm ws
section
variable (ws:List Wr) (ho:Onc ws)
theorem z_5 (n:Nat) (c:Pt) (Z Y a6 a7 a8 a9:Sl) (g:List D->Option D):∀ (frs:List Str) (O:List Th) (s4:Sl),(∀ f∈frs,g [wsD ws,.str f,ptD c]=some (thL (com ws n f c)))->O.length+(frs.flatMap λ f=>com ws n f c).length<=1000 ->
  ∃ aa,fGo (gN 4) (h_1 g) (frs.map .str) [.im (wsD ws),Z,.im (ptD c),.im (thL O),s4,Y,a6,a7,a8,a9]=some (.nx [.im (wsD ws),Z,.im (ptD c),.im (thL (O++frs.flatMap λ f=>com ws n f c)),aa,Y,a6,a7,a8,a9])
 |[],O,s4,_,_=>⟨s4,by simp;rfl⟩
 |f::frs,O,s4,h,hl=>by
  rw[List.flatMap_cons,List.length_append] at hl;have e1:=h f (qf ..);have gg:gN 4 (.str f) [.im (wsD ws),Z,.im (ptD c),.im (thL O),s4,Y,a6,a7,a8,a9]=some [.im (wsD ws),Z,.im (ptD c),.im (thL O),.im (.str f),Y,a6,a7,a8,a9]:=rfl
  have b:h_1 g [.im (wsD ws),Z,.im (ptD c),.im (thL O),.im (.str f),Y,a6,a7,a8,a9]=some (.nx [.im (wsD ws),Z,.im (ptD c),.im (thL (O++com ws n f c)),.im (.str f),Y,a6,a7,a8,a9]):=by
   have e2:O.length+(com ws n f c).length<=sizeLine:=a_5 (by omega)
   simp[h_1,e1,e2]
  rw[List.map_cons,y_8,gg,z_0,b,y_9];obtain⟨s',e⟩:=z_5 n c Z Y a6 a7 a8 a9 g frs (O++com ws n f c) (.im (.str f)) (λ x hx=>h x (qg _ hx)) (by rw[List.length_append];omega)
  exact⟨s',by rw[e,List.flatMap_cons,List.append_assoc]⟩
theorem ah7 (r:Rw) (ok:r.ok):∀ l:List Th,
  cGo tYes (eF a_8 (aC (eV 1) (aC (eV 2) (aC (eV 0) aN)))) [.im (.str r.word),.im (.tup r.bes)] (l.map Th.D)=some (l.map λ x=>thN (r.thO x))
 |[]=>rfl
 |x::l=>by
  have e:=Q_9 r ok x.t x.v x.k;rw[ad1] at e;have t:tYes (.im x.D::[.im (.str r.word),.im (.tup r.bes)])=some (true,.im x.D::[.im (.str r.word),.im (.tup r.bes)]):=rfl;have e1:eF a_8 (aC (eV 1) (aC (eV 2) (aC (eV 0) aN))) (.im x.D::[.im (.str r.word),.im (.tup r.bes)])=some (thN (r.thO x),.im x.D::[.im (.str r.word),.im (.tup r.bes)]):=by simp[e]
  rw[List.map_cons,j_6,t,k_6,e1,k_5,ah7 r ok l];rfl
theorem bB6 (c:Pt):b_0 (ptD c) (.int 0)=some (.str "thing"):=rfl
theorem bB5 (c:Pt):b_0 (ptD c) (.int 1)=some (.str c.1):=rfl
theorem aQ1 (nm:Str) (lo hi:Option Int) (c:Pt) (g:List D->Option D) (h:lk ws nm=some (.inn nm lo hi)):fnD 3 7 (f_0 g) [wsD ws,.str nm,ptD c]=some (thL (if c.1=nm then [c.2] else [])):=by
 have e:=X_1 nm ws;rw[h] at e;have Z:r_5 nm ((ws.map Wr.nm).zip (ws.map Wr.D))=some (.tup [.str "in",.str nm,.tup [],.tup [bO lo,bO hi]]):=e;have O:aC1 (ptD c) (some 2) none=some c.2.D:=by kernel_rfl
 by_cases Y:c.1=nm
 ·subst Y
  simp[f_0,List.replicate,Z,O,bB6,bB5];rfl
 ·simp[f_0,List.replicate,Z,O,bB6,bB5,Y];rfl
include ho
theorem av7 (n:Nat) (r:Rw) (ok:r.ok) (nm fr:Str) (c:Pt) (g:List D->Option D) (h:lk ws nm=some (.one r nm fr)) (hg:g [wsD ws,.str fr,ptD c]=some (thL (com ws n fr c))):fnD 3 7 (f_0 g) [wsD ws,.str nm,ptD c]=some (thL ((com ws n fr c).filterMap r.thO)):=by
 have e:=X_1 nm ws;rw[h] at e;have e':r_5 nm ((ws.map Wr.nm).zip (ws.map Wr.D))=some (rwD nm fr r):=e;have le:=ho n fr c;obtain⟨s',Z⟩:=z_5 ws n c (.im (.str nm)) .no (.im (.str r.word)) (.im (.str nm)) (.im (.tup [.str fr])) (.im (.tup r.bes)) g [fr] [] .no (λ f hf=>by cases qv hf;exact hg) (by simp;omega)
 have ef:([fr].flatMap λ f=>com ws n f c)=com ws n fr c:=by simp
 rw[ef,List.nil_append] at Z;have Y:fGo (gN 4) (h_1 g) [.str fr] [.im (wsD ws),.im (.str nm),.im (ptD c),.im (.lst []),.no,.no,.im (.str r.word),.im (.str nm),.im (.tup [.str fr]),.im (.tup r.bes)]=_:=Z;have w:=U_6 r
 generalize com ws n fr c=l at *
 have sl:l.length<=sizeLine:=a_5 (by omega)
 have g1:=ah7 r ok l;have g2:=V_8 (l.map λ x=>r.thO x)
 rw[be3,List.map_map] at g2;have O:cGo (tB (e2 g_0 (eV 0) (eC .non))) (eV 0) [] (l.map λ x=>thN (r.thO x))=some ((l.filterMap r.thO).map Th.D):=g2
 simp[f_0,List.replicate,e',w.1,w.2,Y,sl,g1,O]
theorem am3 (n:Nat) (nm:Str) (frs:List Str) (c:Pt) (g:List D->Option D) (h:lk ws nm=some (.pour nm frs)) (Z:∀ f∈frs,g [wsD ws,.str f,ptD c]=some (thL (com ws n f c))):fnD 3 7 (f_0 g) [wsD ws,.str nm,ptD c]=some (thL (frs.flatMap λ f=>com ws n f c)):=by
 have e:=X_1 nm ws;rw[h] at e;have e':r_5 nm ((ws.map Wr.nm).zip (ws.map Wr.D))=some (.tup [.str "pour",.str nm,.tup (frs.map .str),.tup []]):=e
 have le:(frs.flatMap λ f=>com ws n f c).length<=1000:=by
  have a:=ho (n+1) nm c;unfold com at a;rw[h] at a;exact Nat.le_trans a (by decide)
 obtain⟨s',Y⟩:=z_5 ws n c (.im (.str nm)) .no (.im (.str "pour")) (.im (.str nm)) (.im (.tup (frs.map .str))) (.im (.tup [])) g frs [] .no Z (by simpa using le)
 rw[List.nil_append] at Y;have O:fGo (gN 4) (h_1 g) (frs.map .str) [.im (wsD ws),.im (.str nm),.im (ptD c),.im (.lst []),.no,.no,.im (.str "pour"),.im (.str nm),.im (.tup (frs.map .str)),.im (.tup [])]=_:=Y;have w:¬ Str.ofString "pour"=Str.ofString "in":=by decide +kernel
 simp[f_0,List.replicate,e',w,O]
theorem S_3 (c:Pt):∀ (n:Nat) (nm:Str),Dep ws n nm->g_6 n [wsD ws,.str nm,ptD c]=some (thL (com ws n nm c))
 |0,_,h=>h.elim
 |n+1,nm,⟨w,h1,ok,h2⟩=>by
  have O:=(aL7 h1).2;show fnD 3 7 (f_0 (g_6 n)) _=_;unfold com;rw[h1];cases w with
  |inn a lo hi=>have:a=nm:=O;subst this;exact aQ1 ws a lo hi c _ h1
  |one r a fr=>have:a=nm:=O;subst this;exact av7 ws ho n r ok a fr c _ h1 (S_3 c n fr (h2 fr (List.mem_singleton.mpr rfl)))
  |pour a frs=>have:a=nm:=O;subst this;exact am3 ws ho n a frs c _ h1 λ f Y=>S_3 c n f (h2 f Y)
end
noncomputable def ptO:Cm->Option Pt
 |.th n x=>some (n,x)
 |_=>none
abbrev pts (cs:List Cm):List Pt:=cs.filterMap ptO
noncomputable def atP (nm:Str) (c:Pt):Option Th:=if c.1=nm then some c.2 else none
theorem aD1 (nm:Str) (cs:List Cm):cs.filterMap (Cm.at nm)=(pts cs).filterMap (atP nm):=by
 rw[List.filterMap_filterMap]
 congr 1
 funext c
 cases c <;> rfl
theorem be2 (nm:Str):∀ P:List Pt,P.flatMap (λ c=>if c.1=nm then [c.2] else [])=P.filterMap (atP nm)
 |[]=>rfl
 |c::P=>by
  rw[List.flatMap_cons,be2 nm P,List.filterMap_cons];unfold atP
  by_cases h:c.1=nm
  ·rw[if_pos h,if_pos h];rfl
  ·rw[if_neg h,if_neg h];rfl
theorem be4 {α:Type} (h:Th->Option Th) (g:α->List Th):∀ P:List α,P.flatMap (λ c=>(g c).filterMap h)=(P.flatMap g).filterMap h
 |[]=>rfl
 |c::P=>by rw[List.flatMap_cons,List.flatMap_cons,List.filterMap_append,be4 h g P]
theorem aB4 {α:Type} (a b:α->List Th):∀ P:List α,(P.flatMap λ c=>a c++b c).Perm (P.flatMap a++P.flatMap b)
 |[]=>.refl _
 |c::P=>by
  rw[List.flatMap_cons,List.flatMap_cons,List.flatMap_cons,List.append_assoc,List.append_assoc];refine List.Perm.append_left _ ?_;refine ((aB4 a b P).append_left (b c)).trans ?_;rw[<- List.append_assoc,<- List.append_assoc];exact List.perm_append_comm.append_right _
theorem ak0 {α O:Type} (g:O->α->List Th):∀ (frs:List O) (P:List α),(frs.flatMap λ f=>P.flatMap (g f)).Perm (P.flatMap λ c=>frs.flatMap λ f=>g f c)
 |[],P=>by
  rw[show (P.flatMap λ c=>([]:List O).flatMap λ f=>g f c)=[] from by simp]
  exact .refl _
 |f::frs,P=>by
  rw[List.flatMap_cons];refine ((ak0 g frs P).append_left _).trans ?_
  have e:(P.flatMap λ c=>(f::frs).flatMap λ f=>g f c)=P.flatMap λ c=>g f c++frs.flatMap λ f=>g f c:=by
   congr 1
  rw[e];exact (aB4 (g f) (λ c=>frs.flatMap λ f=>g f c) P).symm
theorem ak1 {O:Type} (a b:O->List Th):∀ frs:List O,(∀ f∈frs,(a f).Perm (b f))->(frs.flatMap a).Perm (frs.flatMap b)
 |[],_=>.refl _
 |f::frs,h=>by
  rw[List.flatMap_cons,List.flatMap_cons];exact (h f (qf ..)).append (ak1 a b frs λ x Y=>h x (qg _ Y))
structure Good (ws:List Wr):Prop where
 nd:(ws.map Wr.nm).Nodup
 up:∀ A w B,ws=A++w::B->∀ f∈w.fs,f∈A.map Wr.nm
 ok:∀ w∈ws,w.ok
 on:Onc ws
 len:ws.length<=40
theorem at6 {ws:List Wr} (h:(ws.map Wr.nm).Nodup) {w:Wr} (m:w∈ws):lk ws w.nm=some w:=by
 induction ws with
 |nil=>cases m
 |cons u ws O =>
  rw[List.map_cons,List.nodup_cons] at h;unfold lk;rw[List.find?_cons]
  by_cases e:u.nm=w.nm
  ·rw[decide_eq_true e]
   rcases qt m with rfl | m
   ·rfl
   ·exact absurd (List.mem_map.mpr ⟨w,m,e.symm⟩) h.1
  ·rw[decide_eq_false e]
   rcases qt m with rfl | m
   ·exact absurd rfl e
   ·exact O h.2 m
theorem y_2 (nm:Str) (l:List Th) (k:Str):∀ E:Ev,nm∉E.map (·.1)->(E++[(nm,l)]).lookup k=if k=nm then some l else E.lookup k
 |[],_=>by
  show List.lookup k [(nm,l)]=_;rw[List.lookup_cons]
  by_cases h:k=nm
  ·rw[if_pos h,h,beq_self_eq_true]
  ·rw[if_neg h,beq_eq_false_iff_ne.mpr h]
 |(a,b)::E,h=>by
  rw[List.map_cons] at h;have O:=y_2 nm l k E λ z=>h (qg _ z)
  rw[List.cons_append,List.lookup_cons,List.lookup_cons,O]
  by_cases e:k=a
  ·have:k≠nm:=λ z=>h (by rw[<- z,e];exact qf ..)
   subst e;simp[this]
  ·rw[beq_eq_false_iff_ne.mpr e]
structure Sof (ws:List Wr) (cs:List Cm) (A:List Wr) (E:Ev):Prop where
 keys:E.map (·.1)=A.map Wr.nm
 each:∀ w∈A,∃ l,E.lookup w.nm=some l/\l.length<=(pts cs).length/\(∀ x∈l,0<=x.t)/\∀ f,Dep ws f w.nm->l.Perm ((pts cs).flatMap (com ws f w.nm))
theorem aq8 {ws:List Wr}{cs:List Cm}{A B:List Wr}{w:Wr}{E:Ev} (G:Good ws) (hp:(pts cs).length<=20) (ht:∀ c∈pts cs,0<=c.2.t) (hc:cs.length<1000) (hd:∀ w∈ws,Dep ws 14 w.nm) (e:ws=A++w::B) (S:Sof ws cs A E) :
  Fit E cs w/\w.nm∉E.map (·.1)/\E.length<100/\Sof ws cs (A++[w]) (E++[(w.nm,srt (tOf E cs w))]):=by
 have mw:w∈ws:=by rw[e];simp
 have hn:w.nm∉E.map (·.1):=by
  rw[S.keys];have nd:=G.nd;rw[e,List.map_append,List.map_cons] at nd;intro z;exact (List.nodup_append.mp nd).2.2 _ z _ (qf ..) rfl
 have up:=G.up A w B e
 have get:∀ f∈w.fs,∃ l,E.lookup f=some l/\l.length<=(pts cs).length/\(∀ x∈l,0<=x.t)/\∀ g,Dep ws g f->l.Perm ((pts cs).flatMap (com ws g f)):=λ f Y=>by
  obtain⟨u,Z,eu⟩:=List.mem_map.mp (up f Y);have:=S.each u Z;rw[eu] at this;exact this
 have ac:∀ x∈tOf E cs w,0<=x.t:=by
  cases w with
  |inn nm lo hi =>
   intro x O;have O:x∈cs.filterMap (Cm.at nm):=O;rw[aD1] at O;obtain⟨c,m,ec⟩:=List.mem_filterMap.mp O;unfold atP at ec;obtain⟨_,rfl⟩:=ifs ec;exact ht c m
  |one r nm fr =>
   obtain⟨l,e1,_,e3,_⟩:=get fr (List.mem_singleton.mpr rfl);intro x O;have O:x∈((E.lookup fr).getD []).filterMap r.thO:=O;rw[e1,Option.getD_some] at O;obtain⟨y,m,ey⟩:=List.mem_filterMap.mp O;exact bm4 (G.ok _ mw) (e3 y m) ey
  |pour nm frs =>
   intro x O;obtain⟨f,Y,O⟩:=List.mem_flatMap.mp (show x∈frs.flatMap λ fr=>(E.lookup fr).getD [] from O)
   obtain⟨l,e1,_,e3,_⟩:=get f Y;rw[e1,Option.getD_some] at O;exact e3 x O
 have aa:∀ f,Dep ws f w.nm->(tOf E cs w).Perm ((pts cs).flatMap (com ws f w.nm)):=λ f Y=>by
  cases f with
  |zero=>exact Y.elim
  |succ f =>
   obtain⟨u,h1,_,h2⟩:=Y;rw[at6 G.nd mw] at h1;cases h1;have l0:=at6 G.nd mw;cases w with
   |inn nm lo hi =>
    have:com ws (f+1) nm=λ c=>if c.1=nm then [c.2] else []:=by
     funext c;unfold com;rw[show lk ws nm=_ from l0]
    show (cs.filterMap (Cm.at nm)).Perm ((pts cs).flatMap (com ws (f+1) nm));rw[this,be2,aD1]
   |one r nm fr =>
    have:com ws (f+1) nm=λ c=>(com ws f fr c).filterMap r.thO:=by
     funext c;show (match lk ws nm with | none=>[] | some (.inn _ _ _)=>_ | some (.one r _ fr)=>_ | some (.pour _ frs)=>_)=_;rw[show lk ws nm=_ from l0]
    obtain⟨l,e1,_,_,e4⟩:=get fr (List.mem_singleton.mpr rfl);show (((E.lookup fr).getD []).filterMap r.thO).Perm ((pts cs).flatMap (com ws (f+1) nm));rw[this,be4,e1,Option.getD_some];exact (e4 f (h2 fr (List.mem_singleton.mpr rfl))).filterMap _
   |pour nm frs =>
    have:com ws (f+1) nm=λ c=>frs.flatMap λ fr=>com ws f fr c:=by
     funext c;show (match lk ws nm with | none=>[] | some (.inn _ _ _)=>_ | some (.one r _ fr)=>_ | some (.pour _ frs)=>_)=_;rw[show lk ws nm=_ from l0]
    show (frs.flatMap λ fr=>(E.lookup fr).getD []).Perm ((pts cs).flatMap (com ws (f+1) nm))
    rw[this];refine (ak1 _ (λ fr=>(pts cs).flatMap (com ws f fr)) frs λ x O=>?_).trans (ak0 _ frs _)
    obtain⟨l,e1,_,_,e4⟩:=get x O;rw[e1,Option.getD_some];exact e4 f (h2 x O)
 have ab:(tOf E cs w).length<=(pts cs).length:=by
  rw[(aa 14 (hd w mw)).length_eq];exact ag2 _ _ λ c _=>G.on 14 w.nm c
 refine⟨⟨G.ok w mw,λ f Y=>?_,by omega,hc⟩,hn,?_,?_,λ u Z=>?_⟩
 ·obtain⟨l,e1,e2,e3,_⟩:=get f Y
  exact⟨l,e1,by omega,e3⟩
 ·have a:=congrArg List.length S.keys
  rw[List.length_map,List.length_map] at a;have b:=G.len;rw[e,List.length_append] at b;omega
 ·rw[List.map_append,List.map_append,S.keys];rfl
 ·rw[y_2 _ _ _ _ hn]
  rcases qw Z with Z | Z
  ·have:u.nm≠w.nm:=λ z=>hn (by rw[S.keys,<- z];exact List.mem_map.mpr ⟨u,Z,rfl⟩)
   rw[if_neg this];exact S.each u Z
  ·cases qv Z
   rw[if_pos rfl];have sp:=U_0 (tOf E cs w);exact⟨_,rfl,by rw[sp.length_eq];exact ab,λ x O=>ac x (sp.mem_iff.mp O),λ f Y=>sp.trans (aa f Y)⟩
theorem ad6 {ws:List Wr}{cs:List Cm} (G:Good ws) (Z:(pts cs).length<=20) (O:∀ c∈pts cs,0<=c.2.t) (Y:cs.length<1000) (hd:∀ w∈ws,Dep ws 14 w.nm):∀ (B A:List Wr) (E:Ev),ws=A++B->Sof ws cs A E->O_7 cs E B/\Sof ws cs ws (chn cs E B)
 |[],A,E,e,S=>by
  rw[List.append_nil] at e;subst e;exact⟨trivial,S⟩
 |w::B,A,E,e,S=>by
  obtain⟨h1,h2,h3,h4⟩:=aq8 G Z O Y hd e S;obtain⟨i1,i2⟩:=ad6 G Z O Y hd B (A++[w]) _ (by rw[e,List.append_assoc];rfl) h4
  exact⟨⟨h1,h2,h3,i1⟩,i2⟩
theorem aH0 {ws:List Wr}{cs:List Cm} (G:Good ws) (hp:(pts cs).length<=20) (Y:∀ c∈pts cs,0<=c.2.t) (Z:cs.length<1000) (hd:∀ w∈ws,Dep ws 14 w.nm):O_7 cs [] ws/\Sof ws cs ws (chn cs [] ws) :=
 ad6 G hp Y Z hd ws [] [] rfl ⟨rfl,λ w O=>nomatch O⟩
theorem ad3 {l O:List Th} (h:l.Perm O):q_7 (l.map Th.D)=q_7 (O.map Th.D):=by
 refine C_5 (λ a b Y Z e=>?_) (((i_2 _).trans (h.map _))) (E_9 _)
 exact ay7 (List.all_eq_true.mp (ae2 O) a Y) (List.all_eq_true.mp (ae2 O) b Z) e
theorem am6 (cs:List Cm):∀ (B:List Wr) (E:Ev),(∀ e∈E,∃ l,e.2=srt l)->∀ e∈chn cs E B,∃ l,e.2=srt l
 |[],E,h=>h
 |w::B,E,h=>am6 cs B _ λ e O=>by
  rcases qw O with O | O
  ·exact h e O
  ·cases qv O;exact⟨_,rfl⟩
theorem aW3 {l m:List Th} (h:(srt l).Perm m):(srt l).map Th.D=q_7 (m.map Th.D):=by
 rw[aW4];exact ad3 ((U_0 l).symm.trans h)
abbrev prW (w:Wr):D:=.tup [.str w.nm,w.D]
theorem ad8:∀ ws:List Wr,cGo tYes (h_2 (aC (e2 b_0 (eV 0) (zI 1)) (aC (eV 0) aN))) [] (ws.map Wr.D)=some (ws.map prW)
 |[]=>rfl
 |w::ws=>by
  obtain⟨a,b,c,O⟩:=bl3 w;have t:tYes (.im w.D::[])=some (true,.im w.D::[]):=rfl
  have e1:h_2 (aC (e2 b_0 (eV 0) (zI 1)) (aC (eV 0) aN)) (.im w.D::[])=some (prW w,.im w.D::[]):=by
   unfold prW;rw[O];simp[t_2]
  rw[List.map_cons,j_6,t,k_6,e1,k_5,ad8 ws];rfl
theorem af6:∀ ws:List Wr,o_9 (ws.map prW)=some (ws.map λ w=>(w.nm,w.D))
 |[]=>rfl
 |w::ws=>by
  rw[List.map_cons];show bnd (o_9 (ws.map prW)) _=_;rw[af6 ws];rfl
section
variable (ws:List Wr) (G:Good ws)
include G
theorem bf7:O_6 [.lst (ws.map prW)]=some (wsD ws):=by
 have l:=G.len;rw[aw5,af6,q_6,if_pos ⟨by rw[List.length_map];omega,by rw[List.map_map];exact G.nd⟩,List.map_map,List.map_map];rfl
theorem X_4 (nm:Str) (hd:Dep ws 14 nm) (Y e1 e2:Sl):∀ (P:List Pt) (O:List Th) (Z:Sl),O.length+P.length<=1000 ->
  ∃ aa,fGo (gN 6) h_6 (P.map ptD) [Y,e1,e2,.im (wsD ws),.im (.str nm),.im (thL O),Z]=some (.nx [Y,e1,e2,.im (wsD ws),.im (.str nm),.im (thL (O++P.flatMap (com ws 14 nm))),aa])
 |[],O,Z,_=>⟨Z,by simp;rfl⟩
 |c::P,O,Z,hl=>by
  have e:=S_3 ws G.on c 14 nm hd;have le:=G.on 14 nm c;rw[List.length_cons] at hl;have gg:gN 6 (ptD c) [Y,e1,e2,.im (wsD ws),.im (.str nm),.im (thL O),Z]=some [Y,e1,e2,.im (wsD ws),.im (.str nm),.im (thL O),.im (ptD c)]:=rfl
  have b:h_6 [Y,e1,e2,.im (wsD ws),.im (.str nm),.im (thL O),.im (ptD c)]=some (.nx [Y,e1,e2,.im (wsD ws),.im (.str nm),.im (thL (O++com ws 14 nm c)),.im (ptD c)]):=by
   have q:O.length+(com ws 14 nm c).length<=sizeLine:=a_5 (by omega)
   simp[h_6,e,q]
  obtain⟨s',ih⟩:=X_4 nm hd Y e1 e2 P (O++com ws 14 nm c) (.im (ptD c)) (by rw[List.length_append];omega)
  exact⟨s',by rw[List.map_cons,y_8,gg,z_0,b,y_9,ih,List.flatMap_cons,List.append_assoc]⟩
end
theorem ak5:∀ l:List Th,r_4 (l.map Th.D) (l.map Th.D)=true
 |[]=>by simp
 |x::l=>by rw[List.map_cons,H_5,ak5 l];simp
theorem aB9:∀ l:List Th,t_6 (l.map Th.D)<=1
 |[]=>by simp
 |x::l=>by have:=aB9 l;rw[List.map_cons,l_2];simp;omega
theorem X_3:∀ l:List Str,r_4 (l.map D.str) (l.map D.str)=true
 |[]=>by simp
 |x::l=>by rw[List.map_cons,H_5,X_3 l];simp
theorem al7:∀ l:List Str,t_6 (l.map D.str)=0
 |[]=>by simp
 |x::l=>by rw[List.map_cons,l_2,al7 l];simp
section
variable (ws:List Wr) (G:Good ws) (P:List Pt) (hP:P.length<=20) (E:Ev) (hE:∀ w∈ws,∃ l,E.lookup w.nm=some l/\l.map Th.D=q_7 ((P.flatMap (com ws 14 w.nm)).map Th.D)) (hd:∀ w∈ws,Dep ws 14 w.nm)
include G hP hE hd
theorem ad9 (w:Wr) (hw:w∈ws) (W:Sl) (s5 Z:Sl):∃ ac ab,k_4 [.im E.D,W,.im (.lst (P.map ptD)),.im (wsD ws),.im (.str w.nm),s5,Z]=some (.nx [.im E.D,W,.im (.lst (P.map ptD)),.im (wsD ws),.im (.str w.nm),ac,ab]):=by
 obtain⟨l,e1,e2⟩:=hE w hw;obtain⟨s',lp⟩:=X_4 ws G w.nm (hd w hw) (.im E.D) W (.im (.lst (P.map ptD))) P [] Z (by simp;omega)
 rw[List.nil_append] at lp;have aa:fGo (gN 6) h_6 (P.map ptD) [.im E.D,W,.im (.lst (P.map ptD)),.im (wsD ws),.im (.str w.nm),.im (.lst []),Z]=_:=lp
 generalize hX:P.flatMap (com ws 14 w.nm)=X at *
 have lx:X.length<64:=by
  rw[<- hX];have a:=ag2 (com ws 14 w.nm) P λ c _=>G.on 14 w.nm c
  omega
 have so:p_6 [thL X]=some (thL l):=by
  rw[Y_5,if_pos ⟨by rw[List.length_map];exact lx,.inl (ae2 _)⟩,<- e2]
 have gk:=aj8 w.nm E;rw[e1] at gk;have Y:r_5 w.nm ((E.map (·.1)).zip (E.map λ e=>thL e.2))=some (thL l):=gk
 refine⟨.im (thL X),s',?_⟩;have O:t_6 (l.map Th.D)<=29:=by have:=aB9 l;omega
 simp[k_4,aa,Y,so,O,ak5]
theorem C_9 (W:Sl):∀ (us:List Wr) (Z O Y:Sl),(∀ w∈us,w∈ws)->∃ aa ac ab,fGo (gN 4) k_4 ((us.map Wr.nm).map .str) [.im E.D,W,.im (.lst (P.map ptD)),.im (wsD ws),Z,O,Y]=some (.nx [.im E.D,W,.im (.lst (P.map ptD)),.im (wsD ws),aa,ac,ab])
 |[],Z,O,Y,_=>⟨Z,O,Y,rfl⟩
 |w::us,Z,O,Y,h=>by
  obtain⟨a,b,e⟩:=ad9 ws G P hP E hE hd w (h w (qf ..)) W O Y;obtain⟨c1,c2,c3,ih⟩:=C_9 W us (.im (.str w.nm)) a b λ x hx=>h x (qg _ hx)
  have gg:gN 4 (.str w.nm) [.im E.D,W,.im (.lst (P.map ptD)),.im (wsD ws),Z,O,Y]=some [.im E.D,W,.im (.lst (P.map ptD)),.im (wsD ws),.im (.str w.nm),O,Y]:=rfl;exact⟨c1,c2,c3,by rw[List.map_cons,List.map_cons,y_8,gg,z_0,e,y_9,ih]⟩
theorem ar5 (O:E.map (·.1)=ws.map Wr.nm):d_6 [E.D,.lst (ws.map Wr.D),.lst (P.map ptD)]=some (.bl true):=by
 have l:=G.len;have sl:ws.length<=sizeLine:=a_5 (by omega)
 have g1:=ad8 ws;have g2:=bf7 ws G;have k1:(E.map (·.1)).length<64:=by rw[O,List.length_map];omega
 have s1:E_0 E.D=some (.lst ((f_4 (ws.map Wr.nm)).map .str)):=by rw[H_9,if_pos k1,O]
 have Z:E_0 (wsD ws)=some (.lst ((f_4 (ws.map Wr.nm)).map .str)):=by rw[H_9,if_pos (by rw[List.length_map];omega)]
 obtain⟨c1,c2,c3,Y⟩:=C_9 ws G P hP E hE hd (.im (.lst (ws.map Wr.D))) ws .no .no .no λ _ h=>h
 rw[List.map_map] at Y;simp[d_6,A_2,List.replicate,sl,g1,g2,-H_9,s1,Z,al7,X_3,Y]
end
theorem ai2 {ws:List Wr}{w:Wr}{nm:Str}{u:Wr} (h:lk ws nm=some u):lk (ws++[w]) nm=some u:=by
 unfold lk at h ⊢;rw[List.find?_append,h];rfl
theorem aA1 {ws:List Wr}{w:Wr} (h:w.nm∉ws.map Wr.nm):lk (ws++[w]) w.nm=some w:=by
 unfold lk;rw[List.find?_append];have:ws.find? (λ u=>decide (u.nm=w.nm))=none:=List.find?_eq_none.mpr λ u O z=>h (List.mem_map.mpr ⟨u,O,of_decide_eq_true z⟩)
 rw[this];simp
theorem Dep.snoc {ws:List Wr}{w:Wr}:∀ {d:Nat}{nm:Str},Dep ws d nm->Dep (ws++[w]) d nm
 |0,_,h=>h.elim
 |d+1,nm,⟨u,h1,h2,h3⟩=>⟨u,ai2 h1,h2,λ f O=>Dep.snoc (h3 f O)⟩
theorem Dep.up {ws:List Wr}:∀ {d:Nat}{nm:Str},Dep ws d nm->Dep ws (d+1) nm
 |0,_,h=>h.elim
 |d+1,nm,⟨u,h1,h2,h3⟩=>⟨u,h1,h2,λ f O=>Dep.up (h3 f O)⟩
theorem Dep.le {ws:List Wr}{d:Nat}{nm:Str} (h:Dep ws d nm):∀ {e:Nat},d<=e->Dep ws e nm
 |0,l=>by cases Nat.le_zero.mp l;exact h
 |e+1,l=>by
  rcases Nat.lt_or_ge e d with z | z
  ·have:d=e+1:=by omega
   rw[<- this];exact h
  ·exact (Dep.le h z).up
noncomputable def stp (ws:List Wr) (f:Nat) (c:Pt):Wr->List Th
 |.inn nm _ _=>if c.1=nm then [c.2] else []
 |.one r _ fr=>(com ws f fr c).filterMap r.thO
 |.pour _ frs=>frs.flatMap λ fr=>com ws f fr c
theorem I_2 {ws:List Wr}{nm:Str}{w:Wr} (h:lk ws nm=some w) (f:Nat) (c:Pt):com ws (f+1) nm c=stp ws f c w:=by
 have e:=(aL7 h).2;unfold com;rw[h];cases w with
 |inn a lo hi=>have:a=nm:=e;subst this;rfl
 |one r a fr=>rfl
 |pour a frs=>rfl
theorem w_3 {α:Type}{f g:α->List Th}:∀ {l:List α},(∀ x∈l,f x=g x)->l.flatMap f=l.flatMap g
 |[],_=>rfl
 |x::l,h=>by rw[List.flatMap_cons,List.flatMap_cons,h x (List.mem_cons_self ..),w_3 λ y O=>h y (List.mem_cons_of_mem _ O)]
theorem ay5 {ws vs:List Wr}{f:Nat}{c:Pt}{w:Wr} (h:∀ x∈w.fs,com ws f x c=com vs f x c):stp ws f c w=stp vs f c w:=by
 cases w with
 |inn a lo hi=>rfl
 |one r a fr=>show (com ws f fr c).filterMap _=(com vs f fr c).filterMap _;rw[h fr (List.mem_singleton.mpr rfl)]
 |pour a frs=>exact w_3 h
theorem Good.mem {ws:List Wr} (G:Good ws):∀ u∈ws,∀ f∈u.fs,f∈ws.map Wr.nm:=λ u O f h=>by
 obtain⟨A,B,e⟩:=List.append_of_mem O;have:=G.up A u B e f h;rw[e,List.map_append];exact qp _ this
theorem I_3 {ws:List Wr} (G:Good ws) (w:Wr) (c:Pt):∀ (f:Nat) (nm:Str),nm∈ws.map Wr.nm->com (ws++[w]) f nm c=com ws f nm c
 |0,_,_=>rfl
 |f+1,nm,h=>by
  obtain⟨u,O,rfl⟩:=List.mem_map.mp h;have l:=at6 G.nd O;rw[I_2 l,I_2 (ai2 l)];exact ay5 λ x Y=>I_3 G w c f x (G.mem u O x Y)
theorem am4 {ws:List Wr} (G:Good ws) {w:Wr} (O:w.nm∉ws.map Wr.nm) (Z:∀ f∈w.fs,f∈ws.map Wr.nm) (f:Nat) (c:Pt):com (ws++[w]) (f+1) w.nm c=stp ws f c w:=by
 rw[I_2 (aA1 O)];exact ay5 λ x Y=>I_3 G w c f x (Z x Y)
theorem Good.snoc {ws:List Wr} (G:Good ws) {w:Wr} (hn:w.nm∉ws.map Wr.nm) (ok:w.ok) (hf:∀ f∈w.fs,f∈ws.map Wr.nm) (h1:∀ f c,(stp ws f c w).length<=1) (hl:ws.length<40):Good (ws++[w]):=by
 have Y:∀ f∈ws.map Wr.nm,f≠w.nm:=λ f h z=>hn (by rw[<- z];exact h)
 refine⟨?_,λ A u B e f h=>?_,λ u O=>?_,λ n nm c=>?_,by rw[List.length_append,List.length_singleton];omega⟩
 ·rw[List.map_append]
  exact List.nodup_append.mpr ⟨G.nd,by simp,λ a ha b hb=>by cases qv hb;exact Y a ha⟩
 ·rcases List.eq_nil_or_concat B with rfl | ⟨B',b,rfl⟩
  ·obtain⟨e1,e2⟩:=List.append_inj' e rfl
   cases e2;rw[<- e1];exact hf f h
  ·rw[List.concat_eq_append,<- List.cons_append,<- List.append_assoc] at e
   obtain⟨e1,_⟩:=List.append_inj' e rfl;exact G.up A u B' e1 f h
 ·rcases qw O with O | O
  ·exact G.ok u O
  ·cases qv O;exact ok
 ·by_cases h:nm∈ws.map Wr.nm
  ·rw[I_3 G w c n nm h];exact G.on n nm c
  ·cases n with
   |zero=>exact Nat.zero_le _
   |succ n =>
    cases Z:lk (ws++[w]) nm with
    |none=>unfold com;rw[Z];exact Nat.zero_le _
    |some u =>
     obtain⟨m,rfl⟩:=aL7 Z
     rcases qw m with m | m
     ·exact absurd (List.mem_map.mpr ⟨u,m,rfl⟩) h
     ·cases qv m
      rw[am4 G hn hf];exact h1 n c
structure Spt where
 w:Wr
 is:List Int
 x:Th
abbrev Spt.D (s:Spt):D:=.tup [s.w.D,.lst (s.is.map .int),s.x.D]
abbrev spW (sps:List Spt):List Wr:=sps.map (·.w)
noncomputable def B_9:Int->Str
 |0=>Str.ofString "ain" | 1=>Str.ofString "bin" | _=>Str.ofString "cin"
noncomputable def I3 (i:Int):Prop:=i=0\/i=1\/i=2
theorem aB0 {is:List Int} (nd:is.Nodup) (h:∀ i∈is,I3 i):is.length<=3:=by
 have key:∀ (n:Nat) (is:List Int),is.Nodup->(∀ i∈is,0<=i/\i<n)->is.length<=n:=λ n=>by
  induction n with
  |zero =>
   intro is _ h;cases is with
   |nil=>exact qj _
   |cons i r=>have:=h i (qf ..);omega
  |succ n O =>
   intro is nd h
   have a:=O (is.erase n) (nd.erase _) λ i hi=>by
    have b:=h i (List.mem_of_mem_erase hi);have:i≠n:=λ z=>by rw[z] at hi;exact (List.Nodup.not_mem_erase nd) hi
    omega
   have:=List.length_erase_le (a:=(n:Int)) (l:=is)
   have Y:is.length<=(is.erase n).length+1:=by
    by_cases m:(n:Int)∈is
    ·rw[List.length_erase_of_mem m];omega
    ·rw[List.erase_of_not_mem m];omega
   omega
 exact key 3 is nd λ i hi=>by
  rcases h i hi with rfl | rfl | rfl <;> decide
theorem bd4 {i j:Int} (hi:I3 i) (O:I3 j) (e:B_9 i=B_9 j):i=j:=by
 have h:∀ a∈[(0:Int),1,2],∀ b∈[(0:Int),1,2],B_9 a=B_9 b->a=b:=by decide +kernel
 exact h i (by rcases hi with rfl | rfl | rfl <;> decide) j (by rcases O with rfl | rfl | rfl <;> decide) e
noncomputable def Lt1 (is:List Int) (c:Pt) (l:List Th):Prop:=l.length<=1/\(l≠[]->∃ i∈is,c.1=B_9 i)
theorem Lt1.app {is js:List Int}{c:Pt}{l m:List Th} (hi:∀ i∈is,I3 i) (hj:∀ i∈js,I3 i) (dj:∀ i∈js,i∉is) (h:Lt1 is c l) (k:Lt1 js c m):Lt1 (is++js) c (l++m):=by
 refine⟨?_,λ z=>?_⟩
 ·cases l with
  |nil=>exact k.1
  |cons x l =>
   cases m with
   |nil=>rw[List.append_nil];exact h.1
   |cons y m =>
    obtain⟨i,Z,ei⟩:=h.2 (by simp)
    obtain⟨j,O,Y⟩:=k.2 (by simp)
    exact absurd (bd4 (hj j O) (hi i Z) (Y.symm.trans ei)▸Z) (dj j O)
 ·by_cases hl:l=[]
  ·obtain⟨j,O,Y⟩:=k.2 λ z'=>z (by rw[hl,z'];rfl)
   exact⟨j,qo _ O,Y⟩
  ·obtain⟨j,O,Y⟩:=h.2 hl
   exact⟨j,qp _ O,Y⟩
structure SG (sps:List Spt) (d:Nat) (N:List Str):Prop where
 good:Good (spW sps)
 src:∀ s∈sps,∀ f c,Lt1 s.is c (com (spW sps) f s.w.nm c)
 nd:∀ s∈sps,s.is.Nodup/\(∀ i∈s.is,I3 i)/\s.is≠[]
 tm:∀ s∈sps,0<=s.x.t
 dep:∀ s∈sps,Dep (spW sps) d s.w.nm
 nms:∀ s∈sps,s.w.nm∈N
theorem SG.snoc {sps:List Spt}{d:Nat}{N:List Str} (S:SG sps d N) {s:Spt} (hn:s.w.nm∉N) (ok:s.w.ok) (Y:∀ f∈s.w.fs,∃ u∈sps,u.w.nm=f) (h1:∀ f c,Lt1 s.is c (stp (spW sps) f c s.w)) (nd:s.is.Nodup/\(∀ i∈s.is,I3 i)/\s.is≠[]) (tm:0<=s.x.t) (hl:sps.length<40) :
  SG (sps++[s]) (d+1) (N++[s.w.nm]):=by
 have e:spW (sps++[s])=spW sps++[s.w]:=by unfold spW;rw[List.map_append];rfl
 have nn:s.w.nm∉(spW sps).map Wr.nm:=λ z=>by
  obtain⟨u,O,eu⟩:=List.mem_map.mp z;obtain⟨v,hv,rfl⟩:=List.mem_map.mp O;exact hn (by rw[<- eu];exact S.nms v hv)
 have Z:∀ u∈sps,u.w.nm∈(spW sps).map Wr.nm:=λ u O=>List.mem_map.mpr ⟨u.w,List.mem_map.mpr ⟨u,O,rfl⟩,rfl⟩
 have fm:∀ f∈s.w.fs,f∈(spW sps).map Wr.nm:=λ f h=>by
  obtain⟨u,O,rfl⟩:=Y f h;exact Z u O
 refine⟨by rw[e];exact S.good.snoc nn ok fm (λ f c=>(h1 f c).1) (by rw[List.length_map];exact hl),λ u O=>?_,λ u O=>?_,λ u O=>?_,λ u O=>?_,λ u O=>?_⟩ <;> rcases qw O with O | O
 ·intro f c
  rw[e,I_3 S.good _ _ _ _ (Z u O)];exact S.src u O f c
 ·cases qv O
  intro f c;cases f with
  |zero=>exact⟨Nat.zero_le _,λ z=>absurd rfl z⟩
  |succ f=>rw[e,am4 S.good nn fm];exact h1 f c
 ·exact S.nd u O
 ·cases qv O;exact nd
 ·exact S.tm u O
 ·cases qv O;exact tm
 ·rw[e];exact (S.dep u O).snoc.up
 ·cases qv O
  rw[e];exact⟨s.w,aA1 nn,ok,λ f h=>by obtain⟨u,O,rfl⟩:=Y f h;exact (S.dep u O).snoc⟩
 ·exact qp _ (S.nms u O)
 ·cases qv O;exact qo _ (List.mem_singleton.mpr rfl)
theorem SG.one {sps:List Spt}{d:Nat}{N:List Str} (S:SG sps d N) {u:Spt} (Y:u∈sps) (r:Rw) (nm:Str) (f:Nat) (c:Pt):Lt1 u.is c (stp (spW sps) f c (.one r nm u.w.nm)):=by
 have h:=S.src u Y f c;exact⟨Nat.le_trans (List.length_filterMap_le _ _) h.1,λ z=>h.2 λ O=>z (by show (com _ _ _ _).filterMap _=[];rw[O];rfl)⟩
abbrev k5 (k0 k1 k2 k3 k4:Str):D:=.lst [.str k0,.str k1,.str k2,.str k3,.str k4]
theorem fm5 (y:Int):0<=y.fmod 5/\y.fmod 5<5:=⟨Int.fmod_nonneg_of_pos _ (by decide),Int.fmod_lt_of_pos _ (by decide)⟩
theorem bt9 {k:Int} (O:I3 k):∃ a:Str,b_0 (.str "abc") (.int k)=some (.str a) ∧ e_9 (.str a) (.str "in")=some (.str (B_9 k)):=by
 rcases O with rfl | rfl | rfl
 ·exact⟨Str.ofString "a",by kernel_rfl,by kernel_rfl⟩
 ·exact⟨Str.ofString "b",by kernel_rfl,by kernel_rfl⟩
 ·exact⟨Str.ofString "c",by kernel_rfl,by kernel_rfl⟩
theorem bu0 (c j k:Int) (hj:0<=j) (hk:I3 k) (k0 k1 k2 k3 k4:Str):∃ lo hi x,j_0 [.int c,.int j,.int k,k5 k0 k1 k2 k3 k4]=some (Spt.D ⟨.inn (B_9 k) lo hi,[k],x⟩)/\0<=x.t:=by
 obtain⟨n,en,n0,n1⟩:=g_4 c j hj;obtain⟨v,ev,_,_⟩:=l_0 c (j+1) (by omega)
 obtain⟨a,ea,_,_⟩:=l_0 c (j+2) (by omega)
 obtain⟨b,eb,_,_⟩:=l_0 c (j+3) (by omega)
 obtain⟨lo,aa,_⟩:=s_5 (v-(a.natAbs:Int)) (decide (Builtin.bitAnd (n / 64) 3=0));obtain⟨hi,Y,_⟩:=s_5 (v+(b.natAbs:Int)) (decide (Builtin.bitAnd (n / 256) 3=0));have b1:=b_8 (n / 1024) 1 (by decide)
 have ab:=b_8 (n / 4096) 15 (by decide)
 have ei:=R_4 (Builtin.bitAnd (n / 4096) 15) (n / 4096) b1.1 b1.2
 generalize hz:(if Builtin.bitAnd (n / 1024) 1=0 then Builtin.bitAnd (n / 4096) 15 else n / 4096)=t at ei
 have t0:0<=t:=by rw[<- hz];split <;> omega
 obtain⟨q,eq⟩:=ix5 k0 k1 k2 k3 k4 (fm5 (Builtin.bitAnd (n / 8) 7)).1 (fm5 (Builtin.bitAnd (n / 8) 7)).2;obtain⟨s,Z,O⟩:=bt9 hk;refine⟨lo,hi,⟨t,q,v⟩,?_,t0⟩;simp[j_0,Y_4,List.replicate,en,ev,ea,eb,aa,Y,ei,eq,Z,O,Wr.D]
theorem ag5 (k:Int):∀ ks:List Int,A_9 (.int k) (ks.map .int)=true:=λ ks=>by
 unfold A_9;rw[show N_1 (.int k)=true from rfl,Bool.true_and,List.all_eq_true];intro x O;obtain⟨y,_,rfl⟩:=List.mem_map.mp O;rfl
theorem au3 (k:Int) (ks:List Int):inD (.int k) (ks.map .int)=decide (k∈ks):=by
 unfold inD;rw[Bool.eq_iff_iff,List.any_eq_true,decide_eq_true_iff];constructor
 ·rintro ⟨x,Y,e⟩
  obtain⟨y,O,rfl⟩:=List.mem_map.mp Y;simp at e;exact e▸O
 ·intro h
  exact⟨.int k,List.mem_map_of_mem h,by simp⟩
theorem S_8 (ins:List Int):∀ is:List Int,cGo (tB (e2 ap0 (eV 0) (eV 1))) (eV 0) [.im (.lst (ins.map .int))] (is.map .int)=some ((is.filter λ i=>decide (i∈ins)).map .int)
 |[]=>rfl
 |x::r=>by
  have e:tB (e2 ap0 (eV 0) (eV 1)) [.im (.int x),.im (.lst (ins.map .int))]=some (decide (x∈ins),[.im (.int x),.im (.lst (ins.map .int))]):=by simp[ag5,au3]
  have O:eV 0 [.im (.int x),.im (.lst (ins.map .int))]=some (.int x,[.im (.int x),.im (.lst (ins.map .int))]):=rfl;rw[List.map_cons,j_6,e]
  by_cases h:x∈ins
  ·rw[decide_eq_true h,k_6,O,k_5,S_8 ins r,List.filter_cons_of_pos (by simp[h])];rfl
  ·rw[decide_eq_false h,I_6,S_8 ins r,List.filter_cons_of_neg (by simp[h])]
structure PIw (sps:List Spt) (ns:List Str) (ins:List Int):Prop where
 ne:0<ns.length
 fr:∀ f∈ns,∃ u∈sps,u.w.nm=f
 on:∀ f c,Lt1 ins c (ns.flatMap λ n=>com (spW sps) f n c)
 nd:ins.Nodup/\(∀ i∈ins,I3 i)/\ins≠[]
section
variable {sps:List Spt}{d:Nat}{N:List Str} (S:SG sps d N)
theorem ae7 (nm:Str) (O:List Str):(Wr.pour nm O).D=.tup [.str "pour",.str nm,.tup (O.map .str),.tup []]:=rfl
theorem ao9 (w:Wr):b_0 w.D (.int 1)=some (.str w.nm):=by
 obtain⟨a,b,c,e⟩:=bl3 w;rw[e];rfl
include S
theorem x_2 (Y e1 e2 e3 e4 Z:Sl):∀ (us:List Spt) (O:List Str) (ins:List Int) (s8:Sl),(∀ u∈us,u∈sps)->PIw sps O ins->O.length+us.length<=100 ->
  ∃ ab aa ad,fGo (gN 8) d_7 (us.map Spt.D) [Y,e1,e2,e3,e4,Z,.im (.tup (O.map .str)),.im (.lst (ins.map .int)),s8]=some (.nx [Y,e1,e2,e3,e4,Z,.im (.tup (ab.map .str)),.im (.lst (aa.map .int)),ad])/\PIw sps ab aa
 |[],O,ins,s8,_,p,_=>⟨O,ins,s8,rfl,p⟩
 |u::us,O,ins,s8,h,p,hl=>by
  have mu:=h u (qf ..);have ac:∀ x∈us,x∈sps:=λ x hx=>h x (qg _ hx)
  rw[List.length_cons] at hl;have gg:gN 8 u.D [Y,e1,e2,e3,e4,Z,.im (.tup (O.map .str)),.im (.lst (ins.map .int)),s8]=some [Y,e1,e2,e3,e4,Z,.im (.tup (O.map .str)),.im (.lst (ins.map .int)),.im u.D]:=rfl;have bg:=S_8 ins u.is;have su:=S.nd u mu;have l3:=aB0 su.1 su.2.1;have l4:=aB0 p.nd.1 p.nd.2.1;have sl:u.is.length<=sizeLine:=a_5 (by omega)
  by_cases hf:u.is.filter (λ i=>decide (i∈ins))=[]
  ·rw[hf] at bg
   have q1:O.length+1<=1000/\0<O.length:=⟨by omega,p.ne⟩
   have q2:ins.length+u.is.length<=sizeLine:=a_5 (by omega)
   have b:d_7 [Y,e1,e2,e3,e4,Z,.im (.tup (O.map .str)),.im (.lst (ins.map .int)),.im u.D]=some (.nx [Y,e1,e2,e3,e4,Z,.im (.tup ((O++[u.w.nm]).map .str)),.im (.lst ((ins++u.is).map .int)),.im u.D]):=by
    simp[d_7,j_5,l_1,ao9,bg,sl,q1,q2]
   have dj:∀ i∈u.is,i∉ins:=λ i hi z=>by
    have:i∈u.is.filter (λ i=>decide (i∈ins)):=List.mem_filter.mpr ⟨hi,decide_eq_true z⟩
    rw[hf] at this;cases this
   have p':PIw sps (O++[u.w.nm]) (ins++u.is):=by
    refine⟨by simp,λ f hf=>?_,?_,?_,λ i hi=>?_,λ z=>?_⟩
    ·rcases qw hf with hf | hf
     ·exact p.fr f hf
     ·cases qv hf;exact⟨u,mu,rfl⟩
    ·intro f c
     rw[List.flatMap_append,List.flatMap_cons,List.flatMap_nil,List.append_nil];exact (p.on f c).app p.nd.2.1 su.2.1 dj (S.src u mu f c)
    ·exact List.nodup_append.mpr ⟨p.nd.1,su.1,λ a ha b hb z=>dj b hb (z▸ha)⟩
    ·rcases qw hi with hi | hi
     ·exact p.nd.2.1 i hi
     ·exact su.2.1 i hi
    ·exact p.nd.2.2 (List.append_eq_nil_iff.mp z).1
   obtain⟨a1,a2,a3,e,q⟩:=x_2 Y e1 e2 e3 e4 Z us _ _ (.im u.D) ac p' (by rw[List.length_append,List.length_singleton];omega)
   exact⟨a1,a2,a3,by rw[List.map_cons,y_8,gg,z_0,b,y_9,e],q⟩
  ·have b:d_7 [Y,e1,e2,e3,e4,Z,.im (.tup (O.map .str)),.im (.lst (ins.map .int)),.im u.D]=some (.nx [Y,e1,e2,e3,e4,Z,.im (.tup (O.map .str)),.im (.lst (ins.map .int)),.im u.D]):=by
    cases hx:u.is.filter (λ i=>decide (i∈ins)) with
    |nil=>exact absurd hx hf
    |cons a r =>
     rw[hx] at bg
     have dp:∀ l:List Int,t_6 (l.map D.int)=0:=λ l=>by
      induction l with
      |nil=>simp
      |cons a l ih=>rw[List.map_cons,l_2,ih];simp
     simp[d_7,l_1,bg,sl,dp]
   obtain⟨a1,a2,a3,e,q⟩:=x_2 Y e1 e2 e3 e4 Z us O ins (.im u.D) ac p (by omega)
   exact⟨a1,a2,a3,by rw[List.map_cons,y_8,gg,z_0,b,y_9,e],q⟩
theorem ae6 (hne:sps≠[]) (ab:sps.length<40) (nm:Str) (c j:Int) (hj:0<=j):e_5 [.lst (sps.map Spt.D),.str nm,.int c,.int j]=some .non \/
  ∃ Y ins x,e_5 [.lst (sps.map Spt.D),.str nm,.int c,.int j]=some (Spt.D ⟨.pour nm Y,ins,x⟩)/\PIw sps Y ins/\0<=x.t:=by
 obtain⟨n,en,n0,n1⟩:=g_4 c j hj
 have hp:(0:Int)<sps.length:=by
  cases sps with
  |nil=>exact absurd rfl hne
  |cons a r=>simp
 obtain⟨O,m0,e0⟩:=E_4 Spt.D sps (i:=n.fmod sps.length) (Int.fmod_nonneg_of_pos _ hp) (Int.fmod_lt_of_pos _ hp);have su:=S.nd O m0;have p0:PIw sps [O.w.nm] O.is:=⟨by simp,λ f hf=>by cases qv hf;exact⟨O,m0,rfl⟩,λ f c=>by rw[List.flatMap_cons,List.flatMap_nil,List.append_nil];exact S.src O m0 f c,su⟩
 obtain⟨Y,ins,s8,lp,p⟩:=x_2 S (.im (.lst (sps.map Spt.D))) (.im (.str nm)) (.im (.int c)) (.im (.int j)) (.im (.int n)) (.im O.D) sps.reverse [O.w.nm] O.is .no (λ u hu=>List.mem_reverse.mp hu) p0 (by simp;omega)
 rw[List.map_reverse] at lp;have Z:fGo (gN 8) d_7 (sps.map Spt.D).reverse [.im (.lst (sps.map Spt.D)),.im (.str nm),.im (.int c),.im (.int j),.im (.int n),.im O.D,.im (.tup [.str O.w.nm]),.im (.lst (O.is.map .int)),.no]=_:=lp;have hz:¬ (sps.length:Int)=0:=by omega
 by_cases h1:Y.length=1
 ·left
  simp[e_5,p_3,List.replicate,en,e0,hne,j_5,l_1,ao9,Z,h1]
 ·right
  have aa:¬ (Y.length:Int)=1:=by omega
  refine⟨Y,ins,O.x,?_,p,S.tm O m0⟩;simp[e_5,p_3,List.replicate,en,e0,hne,j_5,l_1,n_5,ao9,Z,h1,aa,ae7]
end
structure NxtW (sps:List Spt) (nm:Str) (s:Spt):Prop where
 nm:s.w.nm=nm
 ok:s.w.ok
 fr:∀ f∈s.w.fs,∃ u∈sps,u.w.nm=f
 on:∀ f c,Lt1 s.is c (stp (spW sps) f c s.w)
 nd:s.is.Nodup/\(∀ i∈s.is,I3 i)/\s.is≠[]
 tm:0<=s.x.t
theorem Q_3 (r:Rw) (nm fr:Str):(Wr.one r nm fr).D=.tup [.str r.word,.str nm,.tup [.str fr],.tup r.bes]:=rfl
section
variable {sps:List Spt}{d:Nat}{N:List Str} (S:SG sps d N)
include S
theorem aL3 (hne:sps≠[]) (ac:sps.length<40) (nm:Str) (c j:Int) (hj:0<=j) (k0 k1 k2 k3 k4:Str) (nk:[k0,k1,k2,k3,k4].Nodup) :
  ∃ s,b_4 [.lst (sps.map Spt.D),.str nm,.int c,.int j,k5 k0 k1 k2 k3 k4]=some s.D/\NxtW sps nm s:=by
 obtain⟨n,en,n0,n1⟩:=g_4 c j hj
 have hp:(0:Int)<sps.length:=by
  cases sps with
  |nil=>exact absurd rfl hne
  |cons a r=>simp
 obtain⟨u,mu,eu⟩:=E_4 Spt.D sps (i:=(n / 16).fmod sps.length) (Int.fmod_nonneg_of_pos _ hp) (Int.fmod_lt_of_pos _ hp);have t0:=S.tm u mu;obtain⟨Z,es,Y,af⟩:=aq9 c (j+2) u.x.t u.x.v (by omega) u.x.k [k0,k1,k2,k3,k4] t0 rfl
 obtain⟨r2,ec,ab,ad⟩:=am7 c (j+2) (by omega) k0 k1 k2 k3 k4 nk
 have aa:f_8 [.int c,.int (j+2),u.x.D,k5 k0 k1 k2 k3 k4]=some (.tup [.str Z.word,.tup Z.bes]):=es;have l1:=Q_9 Z Y u.x.t u.x.v u.x.k;rw[af] at l1;obtain⟨t',k',v',ae,tn⟩:=Rw.chg_thr ad ab t0 u.x.k u.x.v;have l2:=Q_9 r2 ab u.x.t u.x.v u.x.k;rw[ae] at l2;have O:∀ (r:Rw) (x:Th),r.ok->0<=x.t->NxtW sps nm ⟨.one r nm u.w.nm,u.is,x⟩:=λ r x ok h=>⟨rfl,ok,λ f hf=>by cases qv hf;exact⟨u,mu,rfl⟩,S.one mu r nm,S.nd u mu,h⟩
 by_cases h0:Builtin.bitAnd n 3=0
 ·rcases ae6 S hne ac nm c (j+1) (by omega) with e | ⟨ns,ins,x,e,p,tx⟩
  ·refine⟨⟨.one Z nm u.w.nm,u.is,u.x⟩,?_,O Z u.x Y t0⟩
   simp[b_4,g_1,List.replicate,en,hne,eu,h0,e,aa,l1,ao9,Q_3]
  ·refine⟨⟨.pour nm ns,ins,x⟩,?_,rfl,trivial,p.fr,p.on,p.nd,tx⟩
   simp[b_4,g_1,List.replicate,en,hne,eu,h0,e]
 ·by_cases h1:Builtin.bitAnd n 3=1
  ·refine⟨⟨.one r2 nm u.w.nm,u.is,⟨t',k',v'⟩⟩,?_,O r2 _ ab tn⟩
   simp[b_4,g_1,List.replicate,en,hne,eu,h1,aa,ec,l2,ao9,Q_3]
  ·refine⟨⟨.one Z nm u.w.nm,u.is,u.x⟩,?_,O Z u.x Y t0⟩
   simp[b_4,g_1,List.replicate,en,hne,eu,h0,h1,aa,l1,ao9,Q_3]
end
noncomputable def Q_0:Int->Str
 |0=>Str.ofString "parta" | 1=>Str.ofString "partb" | 2=>Str.ofString "partc" | 3=>Str.ofString "partd" | _=>Str.ofString "parte"
noncomputable def I5 (k:Int):Prop:=k=0\/k=1\/k=2\/k=3\/k=4
theorem bq3 {k:Int} (O:I5 k):∃ a:Str,b_0 (.str "abcde") (.int k)=some (.str a) ∧ e_9 (.str "part") (.str a)=some (.str (Q_0 k)):=by
 rcases O with rfl | rfl | rfl | rfl | rfl
 ·exact⟨Str.ofString "a",by kernel_rfl,by kernel_rfl⟩
 ·exact⟨Str.ofString "b",by kernel_rfl,by kernel_rfl⟩
 ·exact⟨Str.ofString "c",by kernel_rfl,by kernel_rfl⟩
 ·exact⟨Str.ofString "d",by kernel_rfl,by kernel_rfl⟩
 ·exact⟨Str.ofString "e",by kernel_rfl,by kernel_rfl⟩
noncomputable def pV (u:Spt) (m:Int) (hi:Option Int) (k:Int):Int :=
 match hi with
 |none=>u.x.v+(k-u.x.v).fmod m
 |some h=>if u.x.v+(k-u.x.v).fmod m > h then u.x.v+(k-u.x.v).fmod m-m else u.x.v+(k-u.x.v).fmod m
noncomputable def pS (u:Spt) (m:Int) (hi:Option Int) (k:Int):Spt:=⟨.one (.rest m k) (Q_0 k) u.w.nm,u.is,⟨u.x.t,u.x.k,pV u m hi k⟩⟩
theorem af5 (u:Spt) (m:Int) (hm:¬ m=0) (lo hi:Option Int) (ps:List Spt) (hl:ps.length<100) (k:Int) (hk:I5 k) (e0 e1 e2 e6 e7 e8 aa ab:Sl) :
  ∃ Y,d_8 [e0,e1,e2,.im (.int m),.ow false (.lst (ps.map Spt.D)),.im (.int k),e6,e7,e8,.im u.w.D,.im (.lst (u.is.map .int)),.im u.x.D,.im (bO lo),.im (bO hi),aa,ab]
   = some (.nx [e0,e1,e2,.im (.int m),.ow false (.lst ((ps++[pS u m hi k]).map Spt.D)),.im (.int k),e6,e7,e8,.im u.w.D,.im (.lst (u.is.map .int)),.im u.x.D,.im (bO lo),.im (bO hi),.im (.int (pV u m hi k)),Y]):=by
 obtain⟨a,ea,Z⟩:=bq3 hk;have q:ps.length<1000000:=by omega
 refine⟨.im (pS u m hi k).w.D,?_⟩;cases hi with
 |none=>simp[d_8,j_5,l_1,n_5,hm,bO,ea,Z,ao9,q,pS,pV,Q_3,Rw.word,Rw.bes]
 |some h =>
  by_cases hc:u.x.v+(k-u.x.v).fmod m > h
  ·have O:h<u.x.v+(k-u.x.v).fmod m:=hc
   simp[d_8,j_5,l_1,n_5,hm,bO,ea,Z,ao9,q,pS,pV,Q_3,Rw.word,Rw.bes,O]
  ·have O:¬ h<u.x.v+(k-u.x.v).fmod m:=hc
   simp[d_8,j_5,l_1,n_5,hm,bO,ea,Z,ao9,q,pS,pV,Q_3,Rw.word,Rw.bes,O]
theorem L_1 (u:Spt) (m:Int) (hm:¬ m=0) (lo hi:Option Int) (Z e1 e2 e6 e7 e8:Sl):∀ (ks:List Int) (ps:List Spt) (s5 O Y:Sl),(∀ k∈ks,I5 k)->ps.length+ks.length<100 ->
  ∃ ac ab aa,fGo (gN 5) d_8 (ks.map .int) [Z,e1,e2,.im (.int m),.ow false (.lst (ps.map Spt.D)),s5,e6,e7,e8,.im u.w.D,.im (.lst (u.is.map .int)),.im u.x.D,.im (bO lo),.im (bO hi),O,Y]
   = some (.nx [Z,e1,e2,.im (.int m),.ow false (.lst ((ps++ks.map (pS u m hi)).map Spt.D)),ac,e6,e7,e8,.im u.w.D,.im (.lst (u.is.map .int)),.im u.x.D,.im (bO lo),.im (bO hi),ab,aa])
 |[],ps,s5,O,Y,_,_=>⟨s5,O,Y,by rw[List.map_nil,List.map_nil,List.append_nil];rfl⟩
 |k::ks,ps,s5,O,Y,h,hl=>by
  rw[List.length_cons] at hl;obtain⟨a,e⟩:=af5 u m hm lo hi ps (by omega) k (h k (qf ..)) Z e1 e2 e6 e7 e8 O Y
  obtain⟨b1,b2,b3,ih⟩:=L_1 u m hm lo hi Z e1 e2 e6 e7 e8 ks (ps++[pS u m hi k]) (.im (.int k)) (.im (.int (pV u m hi k))) a (λ x hx=>h x (qg _ hx)) (by rw[List.length_append,List.length_singleton];omega)
  have gg:gN 5 (.int k) [Z,e1,e2,.im (.int m),.ow false (.lst (ps.map Spt.D)),s5,e6,e7,e8,.im u.w.D,.im (.lst (u.is.map .int)),.im u.x.D,.im (bO lo),.im (bO hi),O,Y]=some [Z,e1,e2,.im (.int m),.ow false (.lst (ps.map Spt.D)),.im (.int k),e6,e7,e8,.im u.w.D,.im (.lst (u.is.map .int)),.im u.x.D,.im (bO lo),.im (bO hi),O,Y]:=rfl;refine⟨b1,b2,b3,?_⟩;rw[List.map_cons,y_8,gg,z_0,e,y_9,ih,List.map_cons,List.append_assoc];rfl
theorem V_3 {u:Spt} (m:Int) (hi:Option Int):∀ (ks:List Int) (ps:List Spt) (d:Nat) (N:List Str),(∀ k∈ks,0<=k/\k<m)->(ks.map Q_0).Nodup->(∀ k∈ks,Q_0 k∉N)->u∈ps->SG ps d N->ps.length+ks.length<40 ->
  SG (ps++ks.map (pS u m hi)) (d+ks.length) (N++ks.map Q_0)
 |[],ps,d,N,_,_,_,_,S,_=>by rw[List.map_nil,List.map_nil,List.append_nil,List.append_nil];exact S
 |k::ks,ps,d,N,hk,nd,hn,mu,S,hl=>by
  rw[List.length_cons] at hl;rw[List.map_cons,List.nodup_cons] at nd;have nk:=hn k (qf ..);have Z:=S.snoc (s:=pS u m hi k) nk (hk k (qf ..)) (λ f hf=>by cases qv hf;exact⟨u,mu,rfl⟩) (S.one mu (.rest m k) (Q_0 k)) (S.nd u mu) (S.tm u mu) (by omega)
  have Y:=V_3 m hi ks (ps++[pS u m hi k]) (d+1) (N++[Q_0 k]) (λ x O=>hk x (qg _ O)) nd.2 (λ x O z=>by
   rcases qw z with z | z
   ·exact hn x (qg _ O) z
   ·rw[List.mem_singleton] at z
    exact nd.1 (by rw[<- z];exact List.mem_map.mpr ⟨x,O,rfl⟩)) (qp _ mu) Z (by rw[List.length_append,List.length_singleton];omega)
  rw[List.map_cons,List.map_cons,List.length_cons];rw[List.append_assoc,List.append_assoc] at Y;rw[show d+(ks.length+1)=d+1+ks.length by omega]
  exact Y
theorem be6 {a:Int}{x:Th}:∀ ks:List Int,a∉ks->(ks.flatMap λ k=>if a=k then [x] else [])=[]
 |[],_=>rfl
 |k::ks,h=>by
  rw[List.flatMap_cons,if_neg λ z=>h (by rw[z];exact qf ..)]
  exact be6 ks λ z=>h (qg _ z)
theorem aB3 {a:Int}{x:Th}:∀ ks:List Int,ks.Nodup->(ks.flatMap λ k=>if a=k then [x] else []).length<=1
 |[],_=>Nat.zero_le _
 |k::ks,h=>by
  rw[List.nodup_cons] at h;rw[List.flatMap_cons]
  by_cases e:a=k
  ·subst e;rw[be6 ks h.1,if_pos rfl];exact qj _
  ·rw[if_neg e];exact aB3 ks h.2
theorem af3 {ws:List Wr} (G:Good ws) {m:Int}{fr:Str}{is:List Int}{c:Pt}{ks:List Int} (nd:ks.Nodup) (O:∀ k∈ks,Wr.one (.rest m k) (Q_0 k) fr∈ws) (Y:∀ f,Lt1 is c (com ws f fr c)) (f:Nat):Lt1 is c ((ks.map Q_0).flatMap λ n=>com ws f n c):=by
 cases f with
 |zero=>rw[show ((ks.map Q_0).flatMap λ n=>com ws 0 n c)=[] from List.flatMap_eq_nil_iff.mpr λ _ _=>rfl];exact⟨Nat.zero_le _,λ z=>absurd rfl z⟩
 |succ f =>
  rw[List.flatMap_map,show (ks.flatMap λ k=>com ws (f+1) (Q_0 k) c)=ks.flatMap λ k=>(com ws f fr c).filterMap (Rw.rest m k).thO from w_3 λ k Z=>I_2 (at6 G.nd (O k Z)) f c]
  have h:=Y f
  generalize com ws f fr c=l at h
  rcases l with _ | ⟨x,_ | ⟨y,l⟩⟩
  ·rw[show (ks.flatMap λ k=>([]:List Th).filterMap (Rw.rest m k).thO)=[] from List.flatMap_eq_nil_iff.mpr λ _ _=>rfl];exact h
  ·refine⟨?_,λ _=>h.2 (by simp)⟩
   rw[show (ks.flatMap λ k=>[x].filterMap (Rw.rest m k).thO)=ks.flatMap λ k=>if x.v.fmod m=k then [x] else [] from w_3 λ k _=>by
    show [x].filterMap (λ y=>if y.v.fmod m=k then some y else none)=_
    by_cases e:x.v.fmod m=k <;> simp[e]]
   exact aB3 ks nd
  ·exact absurd h.1 (by simp)
theorem N_2:∀ a b:List Int,r_4 (a.map .int) (b.map .int)=decide (a=b)
 |[],[]=>by simp
 |[],y::b=>by simp
 |x::a,[]=>by simp
 |x::a,y::b=>by
  rw[List.map_cons,List.map_cons,H_5,N_2 a b,R_8]
  by_cases h:x=y <;> by_cases h':a=b <;> simp[h,h']
theorem X_5:∀ l:List Int,t_6 (l.map D.int)=0
 |[]=>by simp
 |a::l=>by rw[List.map_cons,l_2,X_5 l];simp
theorem P_9 (is:List Int):∀ sps:List Spt,cGo (tB (e2 dNe (e2 b_0 (eV 0) (zI 1)) (eV 1))) (eV 0) [.im (.lst (is.map .int))] (sps.map Spt.D)=some ((sps.filter λ s=>!decide (s.is=is)).map Spt.D)
 |[]=>rfl
 |s::sps=>by
  have e:tB (e2 dNe (e2 b_0 (eV 0) (zI 1)) (eV 1)) [.im s.D,.im (.lst (is.map .int))]=some (!decide (s.is=is),[.im s.D,.im (.lst (is.map .int))]):=by simp[l_1,X_5,N_2]
  have O:eV 0 [.im s.D,.im (.lst (is.map .int))]=some (s.D,[.im s.D,.im (.lst (is.map .int))]):=rfl;rw[List.map_cons,j_6,e]
  by_cases h:s.is=is
  ·rw[decide_eq_true h]
   show cGa _ _ _ _ (some (false,_))=_;rw[I_6,P_9 is sps,List.filter_cons_of_neg (by simp[h])]
  ·rw[decide_eq_false h]
   show cGa _ _ _ _ (some (true,_))=_;rw[k_6,O,k_5,P_9 is sps,List.filter_cons_of_pos (by simp[h])];rfl
theorem W_0:∀ l:List Spt,cGo tYes (e2 b_0 (e2 b_0 (eV 0) (zI 0)) (zI 1)) [] (l.map Spt.D)=some ((l.map (·.w.nm)).map .str)
 |[]=>rfl
 |s::l=>by
  have t:tYes (.im s.D::[])=some (true,.im s.D::[]):=rfl;have e:e2 b_0 (e2 b_0 (eV 0) (zI 0)) (zI 1) [.im s.D]=some (.str s.w.nm,[.im s.D]):=by simp[j_5,ao9]
  rw[List.map_cons,j_6,t,k_6,e,k_5,W_0 l];rfl
theorem X_0:∀ l:List Spt,(∀ s∈l,s.is≠[])->cGo tYes (e2 b_0 (e2 b_0 (eV 0) (zI 1)) (zI 0)) [] (l.map Spt.D)=some ((l.map λ s=>s.is.headD 0).map .int)
 |[],_=>rfl
 |s::l,h=>by
  have t:tYes (.im s.D::[])=some (true,.im s.D::[]):=rfl;obtain⟨i,r,O⟩:=List.exists_cons_of_ne_nil (h s (qf ..))
  have Z:atD (.int i::r.map .int) 0=some (.int i):=by
   unfold atD dPl;rw[if_pos (by decide),if_pos (by simp)];rfl
  have e:e2 b_0 (e2 b_0 (eV 0) (zI 1)) (zI 0) [.im s.D]=some (.int (s.is.headD 0),[.im s.D]):=by
   rw[O];simp[l_1,O,Z]
  rw[List.map_cons,j_6,t,k_6,e,k_5,X_0 l λ x Y=>h x (List.mem_cons_of_mem _ Y)];rfl
theorem aC3 {α:Type} (f:α->D) (xs:List α) (n:Nat):S_2 (xs.map f) none (some (n:Int))=(xs.take n).map f:=by
 unfold S_2;rw[X_7];show ((xs.map f).drop 0).take (min n (xs.map f).length-0)=_;rw[List.drop_zero,Nat.sub_zero,List.map_take];exact List.take_eq_take_min.symm
theorem X_8 {α:Type} (f:α->D) (xs:List α) (n:Nat) (h:n<=xs.length):S_2 (xs.map f) (some (n:Int)) none=(xs.drop n).map f:=by
 unfold S_2;rw[X_7];show ((xs.map f).drop (min n (xs.map f).length)).take ((xs.map f).length-min n (xs.map f).length)=_;rw[List.length_map,Nat.min_eq_left h,List.map_drop];exact List.take_of_length_le (by rw[List.length_drop,List.length_map];exact qj _)
theorem SG.mono {sps:List Spt}{d d':Nat}{N N':List Str} (S:SG sps d N) (h:d<=d') (Y:∀ n∈N,n∈N'):SG sps d' N' :=
 ⟨S.good,S.src,S.nd,S.tm,λ s O=>(S.dep s O).le h,λ s O=>Y _ (S.nms s O)⟩
abbrev inN:List Str:=[Str.ofString "ain",Str.ofString "bin",Str.ofString "cin"]
abbrev ptN:List Str:=[Str.ofString "parta",Str.ofString "partb",Str.ofString "partc",Str.ofString "partd",Str.ofString "parte"]
abbrev whN:Str:=Str.ofString "whole"
structure InSw (sps:List Spt):Prop where
 each:∀ s∈sps,∃ nm lo hi i,s.w=.inn nm lo hi/\s.is=[i]/\I3 i
 len:0<sps.length/\sps.length<=3
theorem ap7 {sps:List Spt}{d:Nat} (S:SG sps d inN) (I:InSw sps) {u:Spt} (mu:u∈sps) (m:Int) (hi:Option Int) (ks:List Int) (h5:∀ k∈ks,0<=k/\k<m) (hl:ks.length<=5) (ab:(ks.map Q_0).Nodup) (aa:∀ k∈ks,Q_0 k∈ptN)
  (ys:List Spt) (hy:∀ y∈ys,y∈sps/\y.is≠u.is) (ly:ys.length<=1) (x:Th) (tx:0<=x.t) :
  SG (sps++ks.map (pS u m hi)++[⟨.pour whN ((ks.map (pS u m hi)++ys).map (·.w.nm)),u.is++ys.map (λ s=>s.is.headD 0),x⟩]) (d+6) (inN++ptN++[whN]):=by
 have ac:∀ n∈ptN,n∉inN:=by decide +kernel
 have L:=I.len;have S1:=V_3 m hi ks sps d inN h5 ab (λ k hk=>ac _ (aa k hk)) mu S (by omega)
 have S2:=S1.mono (d':=d+5) (N':=inN++ptN) (by omega) λ n hn=>by
  rcases qw hn with hn | hn
  ·exact qp _ hn
  ·obtain⟨k,hk,rfl⟩:=List.mem_map.mp hn
   exact qo _ (aa k hk)
 obtain⟨nm,lo,ae,i,ew,ei,i3⟩:=I.each u mu;have wn:whN∉inN++ptN:=by decide +kernel
 refine S2.snoc (s:=⟨.pour whN ((ks.map (pS u m hi)++ys).map (·.w.nm)),u.is++ys.map (λ s=>s.is.headD 0),x⟩) wn trivial (λ f hf=>?_) ?_ ?_ tx (by rw[List.length_append,List.length_map];omega)
 ·obtain⟨s,hs,rfl⟩:=List.mem_map.mp hf
  rcases qw hs with hs | hs
  ·exact⟨s,qo _ hs,rfl⟩
  ·exact⟨s,qp _ (hy s hs).1,rfl⟩
 ·intro f c
  have ad:u∈sps++ks.map (pS u m hi):=qp _ mu;show Lt1 (u.is++ys.map (λ s=>s.is.headD 0)) c (((ks.map (pS u m hi)++ys).map (·.w.nm)).flatMap λ fr=>com (spW (sps++ks.map (pS u m hi))) f fr c)
  rw[List.map_append,List.flatMap_append]
  have A:Lt1 u.is c (((ks.map (pS u m hi)).map (·.w.nm)).flatMap λ fr=>com (spW (sps++ks.map (pS u m hi))) f fr c):=by
   rw[List.map_map];exact af3 S2.good ((List.pairwise_map.mp ab).imp λ h z=>h (by rw[z])) (λ k hk=>List.mem_map.mpr ⟨pS u m hi k,qo _ (List.mem_map.mpr ⟨k,hk,rfl⟩),rfl⟩) (λ f=>S2.src u ad f c) f
  rcases ys with _ | ⟨y,_ | ⟨y2,ys⟩⟩
  ·simp only[List.map_nil,List.flatMap_nil,List.append_nil];exact A
  ·obtain⟨my,ny⟩:=hy y (List.mem_singleton.mpr rfl)
   obtain⟨_,_,_,i',_,O,Z⟩:=I.each y my;have B:=S2.src y (qp _ my) f c;rw[O] at B;simp only[List.map_cons,List.map_nil,List.flatMap_cons,List.flatMap_nil,List.append_nil,O,List.headD_cons]
   exact A.app (S.nd u mu).2.1 (λ j Y=>by cases qv Y;exact Z) (λ j Y z=>by
    cases qv Y;rw[ei] at z;exact ny (by rw[ei,O,List.mem_singleton.mp z])) B
  ·simp at ly
 ·show (u.is++ys.map (λ s=>s.is.headD 0)).Nodup/\(∀ i∈u.is++ys.map (λ s=>s.is.headD 0),I3 i)/\u.is++ys.map (λ s=>s.is.headD 0)≠[]
  rw[ei]
  rcases ys with _ | ⟨y,_ | ⟨y2,ys⟩⟩
  ·exact⟨by simp,λ j Y=>by cases qv Y;exact i3,by simp⟩
  ·obtain⟨my,ny⟩:=hy y (List.mem_singleton.mpr rfl)
   obtain⟨_,_,_,i',_,O,Z⟩:=I.each y my;have ne:i≠i':=λ z=>ny (by rw[ei,O,z])
   simp only[List.map_cons,List.map_nil,O,List.headD_cons];refine⟨by simp[ne],λ j Y=>?_,by simp⟩
   simp at Y
   rcases Y with rfl | rfl
   ·exact i3
   ·exact Z
  ·simp at ly
theorem bt8 (nm:Str) (lo hi:Option Int):(Wr.inn nm lo hi).D=.tup [.str "in",.str nm,.tup [],.tup [bO lo,bO hi]]:=rfl
section
variable {sps:List Spt}{d:Nat} (S:SG sps d inN) (I:InSw sps)
include S I
theorem af4 (c:Int):∃ O,c_5 [.lst (sps.map Spt.D),.int c]=some (.lst (O.map Spt.D))/\SG O (d+6) (inN++ptN++[whN])/\(∀ s∈sps,s∈O)/\O.length<=9:=by
 obtain⟨n,en,n0,n1⟩:=g_4 c 200 (by decide)
 have L:=I.len;have hp:(0:Int)<sps.length:=by omega
 have hne:sps≠[]:=λ z=>by rw[z] at L;exact absurd L.1 (by decide)
 obtain⟨u,mu,eu⟩:=E_4 Spt.D sps (i:=n.fmod sps.length) (Int.fmod_nonneg_of_pos _ hp) (Int.fmod_lt_of_pos _ hp);obtain⟨nm,lo,hi,i,ew,ei,i3⟩:=I.each u mu;have t0:=S.tm u mu;have e3:b_0 u.w.D (.int 3)=some (.tup [bO lo,bO hi]):=by rw[ew];rfl
 have f0:=Int.fmod_nonneg_of_pos (n / 16) (b:=3) (by decide)
 have f1:=Int.fmod_lt_of_pos (n / 16) (b:=3) (by decide)
 have stay:c_5 [.lst (sps.map Spt.D),.int c]=some (.lst (sps.map Spt.D))->∃ O,c_5 [.lst (sps.map Spt.D),.int c]=some (.lst (O.map Spt.D))/\SG O (d+6) (inN++ptN++[whN])/\(∀ s∈sps,s∈O)/\O.length<=9:=λ e =>
  ⟨sps,e,S.mono (by omega) λ x hx=>qp _ (qp _ hx),λ _ h=>h,by omega⟩
 have go:∀ (m:Int) (ks:List Int),3+(n / 16).fmod 3=m->(ks.length:Int)=m->r_1 0 m.toNat=ks.map .int->(∀ k∈ks,I5 k/\0<=k/\k<m)->ks.length<=5->(ks.map Q_0).Nodup->(∀ k∈ks,Q_0 k∈ptN)->-4611686018427387904<=m->m<4611686018427387904->¬ m=0->ks≠[] ->
   ∃ O,c_5 [.lst (sps.map Spt.D),.int c]=some (.lst (O.map Spt.D))/\SG O (d+6) (inN++ptN++[whN])/\(∀ s∈sps,s∈O)/\O.length<=9:=λ m ks hm lk rg h5 hl ap ai m1 m2 m3 aj=>by
  by_cases c1:Builtin.bitAnd (n / 256) 1=1
  ·refine stay ?_
   simp[c_5,m_1,List.replicate,en,hne,eu,hm,e3,c1]
  by_cases c2:∃ l h,lo=some l/\hi=some h/\h-l<5
  ·obtain⟨l,h,rfl,rfl,c2⟩:=c2
   refine stay ?_;simp[c_5,m_1,List.replicate,en,hne,eu,hm,e3,c1,bO,c2]
  ·obtain⟨s5,ar,as,lp⟩:=L_1 u m m3 lo hi (.im (.lst (sps.map Spt.D))) (.im (.int c)) (.im (.int n)) .no .no .no ks [] .no .no .no (λ k hk=>(h5 k hk).1) (by simp;omega)
   rw[List.nil_append] at lp;have ab:fGo (gN 5) d_8 (ks.map .int) [.im (.lst (sps.map Spt.D)),.im (.int c),.im (.int n),.im (.int m),.ow false (.lst []),.no,.no,.no,.no,.im u.w.D,.im (.lst (u.is.map .int)),.im u.x.D,.im (bO lo),.im (bO hi),.no,.no]=_:=lp;have b1:=b_8 (n / 512) 1 (by decide)
   obtain⟨b,hb,bl⟩:∃ b:Nat,Builtin.bitAnd (n / 512) 1=(b:Int)/\b<=1:=⟨(Builtin.bitAnd (n / 512) 1).toNat,by omega,by omega⟩
   have af:=P_9 u.is sps
   generalize hF:(sps.filter λ s=>!decide (s.is=u.is))=Fs at af
   have ct:=aC3 Spt.D Fs b
   generalize hY:Fs.take b=ys at ct
   have hy:∀ y∈ys,y∈sps/\y.is≠u.is:=λ y my=>by
    rw[<- hY] at my;have:=List.mem_of_mem_take my;rw[<- hF] at this;obtain⟨a,z⟩:=List.mem_filter.mp this;exact⟨a,by simpa using z⟩
   have ly:ys.length<=1:=by rw[<- hY,List.length_take];omega
   have lF:sps.length<=sizeLine:=a_5 (by omega)
   have Y:(ks.map (pS u m hi)).length=ks.length:=List.length_map ..;have q1:(ks.map (pS u m hi)).length+ys.length<=sizeLine:=a_5 (by omega)
   have ag:ks.length+ys.length<=sizeLine:=a_5 (by omega)
   have ng:=W_0 (ks.map (pS u m hi)++ys);have cf:=X_8 Spt.D (ks.map (pS u m hi)++ys) ks.length (by rw[List.length_append,Y];omega)
   rw[List.drop_left' Y] at cf;have am:∀ s∈ys,s.is≠[]:=λ s hs=>(S.nd s (hy s hs).1).2.2
   have hg:=X_0 ys am;rw[lk] at cf;have aq:ys.length<=sizeLine:=a_5 (by omega)
   have q2:u.is.length+ys.length<=sizeLine:=by rw[ei];exact a_5 (by simp;omega)
   have q3:sps.length+ks.length<=sizeLine:=a_5 (by omega)
   have q4:sps.length+ks.length+1<=sizeLine:=a_5 (by omega)
   obtain⟨k0,kr,ek⟩:=List.exists_cons_of_ne_nil aj
   have a0:atD ((ks.map (pS u m hi)).map Spt.D) 0=some (pS u m hi k0).D:=by
    rw[ek];unfold atD dPl;rw[if_pos (by decide),if_pos (by simp)];rfl
   have SGw:=ap7 S I mu m hi ks (λ k hk=>(h5 k hk).2) hl ap ai ys hy ly (pS u m hi k0).x t0
   refine⟨_,?_,SGw,λ s hs=>qp _ (qp _ hs),by rw[List.length_append,List.length_append,Y];simp;omega⟩
   rw[show sps++ks.map (pS u m hi)++[(⟨.pour whN ((ks.map (pS u m hi)++ys).map (·.w.nm)),u.is++ys.map (λ s=>s.is.headD 0),(pS u m hi k0).x⟩:Spt)]=(sps++ks.map (pS u m hi))++[⟨.pour whN ((ks.map (pS u m hi)++ys).map (·.w.nm)),u.is++ys.map (λ s=>s.is.headD 0),(pS u m hi k0).x⟩] from rfl]
   generalize (pS u m hi k0)=p0 at a0 ⊢
   generalize ks.map (pS u m hi)=PS at ab ng cf a0 Y ⊢
   rw[List.map_append,List.map_append,List.map_append] at ng;rw[List.map_append] at cf;have ak:sps.length+PS.length<=sizeLine:=by rw[Y];exact q3
   have an:sps.length+PS.length+1<=sizeLine:=by rw[Y];exact q4
   have aa:PS.length+ys.length<=sizeLine:=by rw[Y];exact ag
   have ah:cGo tYes (e2 b_0 (e2 b_0 (eV 0) (zI 0)) (zI 1)) [] (PS.map Spt.D++ys.map Spt.D)=some ((PS.map (·.w.nm)++ys.map (·.w.nm)).map .str):=by rw[ng,List.map_append]
   have sq:sps.length+(PS.length+1)<=sizeLine:=by omega
   have ao:∀ b0 b1 b2 b3 b4 b5 b6 b7 b8 b9 ac Z ad ae:Sl,tAnd (tB (e2 g_0 (eV 12) (eC .non))) (tAnd (tB (e2 g_0 (eV 13) (eC .non))) (tB (e2 dLt (e2 N_7 (eV 13) (eV 12)) (zI 5)))) [b0,b1,b2,b3,b4,b5,b6,b7,b8,b9,ac,Z,.im (bO lo),.im (bO hi),ad,ae]=some (false,[b0,b1,b2,b3,b4,b5,b6,b7,b8,b9,ac,Z,.im (bO lo),.im (bO hi),ad,ae]):=λ _ _ _ _ _ _ _ _ _ _ _ _ _ _=>by
    cases lo with
    |none=>simp
    |some l =>
     cases hi with
     |none=>simp
     |some h =>
      have al:¬ h-l<5:=λ z=>c2 ⟨l,h,rfl,rfl,z⟩
      simp[al]
   simp[-bn4,ao,c_5,m_1,List.replicate,en,hne,eu,hm,e3,c1,m1,m2,rg,ab,af,lF,hb,ct,aa,ah,cf,hg,aq,q2,ak,an,sq,a0,n_5,ae7]
 have c3:(n / 16).fmod 3=0\/(n / 16).fmod 3=1\/(n / 16).fmod 3=2:=by omega
 rcases c3 with h | h | h
 ·exact go 3 [0,1,2] (by rw[h];rfl) rfl rfl (by simp[I5]) (by decide) (by decide +kernel) (by decide +kernel) (by decide) (by decide) (by decide) (by simp)
 ·exact go 4 [0,1,2,3] (by rw[h];rfl) rfl rfl (by simp[I5]) (by decide) (by decide +kernel) (by decide +kernel) (by decide) (by decide) (by decide) (by simp)
 ·exact go 5 [0,1,2,3,4] (by rw[h];rfl) rfl rfl (by simp[I5]) (by decide) (by decide +kernel) (by decide +kernel) (by decide) (by decide) (by decide) (by simp)
end
theorem w_1:∀ l:List Str,nrs (l.map .str)=true
 |[]=>rfl
 |x::l=>by rw[List.map_cons,r_9,w_1 l];rfl
theorem V_5:∀ l:List Int,nrs (l.map .int)=true
 |[]=>rfl
 |x::l=>by rw[List.map_cons,r_9,V_5 l];rfl
theorem ag9:∀ l:List (Str×Str),nrs (l.map prD)=true
 |[]=>rfl
 |x::l=>by rw[List.map_cons,r_9,ag9 l];rfl
theorem aL0 (o:Option Int):nr (bO o)=true:=by cases o <;> rfl
theorem bb4 (r:Rw):nrs r.bes=true:=by
 cases r with
 |time b e=>simp[Rw.bes,aL0]
 |only ks=>exact w_1 ks
 |but ks=>exact w_1 ks
 |span lo hi=>simp[Rw.bes,aL0]
 |rest m q=>simp[Rw.bes]
 |turn a b=>simp[Rw.bes]
 |later c=>simp[Rw.bes]
 |put kvs=>exact ag9 kvs
theorem bK1 (w:Wr):nr w.D=true:=by
 cases w with
 |inn nm lo hi=>rw[bt8];simp[aL0]
 |one r nm fr=>rw[Q_3];simp[bb4]
 |pour nm frs=>rw[ae7];simp[w_1]
theorem bb2 (s:Spt):nr s.D=true:=by
 have h:hdF (s.is.map .int)=true:=by cases s.is <;> rfl
 rw[bb1];simp[bK1,h,V_5]
theorem ag8:∀ l:List Spt,nrs (l.map Spt.D)=true
 |[]=>rfl
 |s::l=>by rw[List.map_cons,r_9,ag8 l,bb2];rfl
theorem R_7 {l:List Spt} (h:l≠[]):hdT (l.map Spt.D)=true:=by
 cases l with
 |nil=>exact absurd rfl h
 |cons s l=>rfl
noncomputable def ac5:Int->Str
 |0=>Str.ofString "chaina" | 1=>Str.ofString "chainb" | 2=>Str.ofString "chainc" | 3=>Str.ofString "chaind" | _=>Str.ofString "chaine"
theorem bx2 {k:Int} (O:I5 k):∃ a:Str,b_0 (.str "abcde") (.int k)=some (.str a) ∧ e_9 (.str "chain") (.str a)=some (.str (ac5 k)):=by
 rcases O with rfl | rfl | rfl | rfl | rfl
 ·exact⟨Str.ofString "a",by kernel_rfl,by kernel_rfl⟩
 ·exact⟨Str.ofString "b",by kernel_rfl,by kernel_rfl⟩
 ·exact⟨Str.ofString "c",by kernel_rfl,by kernel_rfl⟩
 ·exact⟨Str.ofString "d",by kernel_rfl,by kernel_rfl⟩
 ·exact⟨Str.ofString "e",by kernel_rfl,by kernel_rfl⟩
theorem I5.nn {k:Int} (h:I5 k):0<=k:=by rcases h with rfl | rfl | rfl | rfl | rfl <;> decide
section
variable (c:Int) (k0 k1 k2 k3 k4:Str) (nk:[k0,k1,k2,k3,k4].Nodup)
include nk
theorem ad4 {sps:List Spt}{d:Nat}{N:List Str} (S:SG sps d N) (hne:sps≠[]) (Z:sps.length<40) (k:Int) (O:I5 k) (hn:ac5 k∉N) (n:D) :
  ∃ s,h_5 [.im (.int c),.im (k5 k0 k1 k2 k3 k4),.im n,.ow false (.lst (sps.map Spt.D)),.im (.int k)]=some (.nx [.im (.int c),.im (k5 k0 k1 k2 k3 k4),.im n,.ow false (.lst ((sps++[s]).map Spt.D)),.im (.int k)])/\SG (sps++[s]) (d+1) (N++[ac5 k]):=by
 have kn:=O.nn;obtain⟨s,e,nx⟩:=aL3 S hne Z (ac5 k) c (30+6*k) (by omega) k0 k1 k2 k3 k4 nk
 obtain⟨a,ea,eb⟩:=bx2 O;have Y:=S.snoc (s:=s) (by rw[nx.nm];exact hn) nx.ok nx.fr nx.on nx.nd nx.tm Z
 rw[nx.nm] at Y;refine⟨s,?_,Y⟩;have m6:m_8 6 k=true:=k_9 (by decide)
 have F:eF b_4 (aC (eV 3) (aC (e2 e_9 (zT "chain") (e2 b_0 (zT "abcde") (eV 4))) (aC (eV 0) (aC (e2 e_9 (zI 30) (e2 s_3 (zI 6) (eV 4))) (aC (eV 1) aN))))) [.im (.int c),.im (k5 k0 k1 k2 k3 k4),.im n,.im (.lst (sps.map Spt.D)),.im (.int k)]=some (s.D,[.im (.int c),.im (k5 k0 k1 k2 k3 k4),.im n,.im (.lst (sps.map Spt.D)),.im (.int k)]):=by
  simp[ea,eb,m6,e]
 have H:N_4 3 (eF b_4 (aC (eV 3) (aC (e2 e_9 (zT "chain") (e2 b_0 (zT "abcde") (eV 4))) (aC (eV 0) (aC (e2 e_9 (zI 30) (e2 s_3 (zI 6) (eV 4))) (aC (eV 1) aN)))))) [.im (.int c),.im (k5 k0 k1 k2 k3 k4),.im n,.ow false (.lst (sps.map Spt.D)),.im (.int k)]=some (s.D,[.im (.int c),.im (k5 k0 k1 k2 k3 k4),.im n,.ow false (.lst (sps.map Spt.D)),.im (.int k)]):=by
  rw[aP1];show z_2 3 _ _ (some (sps.map Spt.D))=_;rw[al1,if_pos ⟨rfl,R_7 hne⟩];show t_4 _ [.im (.int c),.im (k5 k0 k1 k2 k3 k4),.im n,.im (.lst (sps.map Spt.D)),.im (.int k)] (eF b_4 _ [.im (.int c),.im (k5 k0 k1 k2 k3 k4),.im n,.im (.lst (sps.map Spt.D)),.im (.int k)])=_;rw[F,al0 _ _ _ (bb2 s)]
 have q:sps.length<1000000:=by omega
 unfold h_5 aI2;show bnd (some (sps.map Spt.D)) _=_;rw[q_6,H,q_6];show (if (sps.map Spt.D).length<1000000 then _ else none)=_;rw[List.length_map,if_pos q,List.map_append];rfl
theorem J_6 (n:D):∀ (ks:List Int) (sps:List Spt) (d:Nat) (N:List Str) (s4:Sl),SG sps d N->sps≠[]->sps.length+ks.length<40->(∀ k∈ks,I5 k)->(ks.map ac5).Nodup->(∀ k∈ks,ac5 k∉N) ->
  ∃ O Y,fGo (gN 4) h_5 (ks.map .int) [.im (.int c),.im (k5 k0 k1 k2 k3 k4),.im n,.ow false (.lst (sps.map Spt.D)),s4]=some (.nx [.im (.int c),.im (k5 k0 k1 k2 k3 k4),.im n,.ow false (.lst (O.map Spt.D)),Y])/\SG O (d+ks.length) (N++ks.map ac5)/\(∀ s∈sps,s∈O)/\O.length<=sps.length+ks.length
 |[],sps,d,N,s4,S,_,_,_,_,_=>⟨sps,s4,rfl,by rw[List.map_nil,List.append_nil];exact S,λ _ h=>h,qj _⟩
 |k::ks,sps,d,N,s4,S,hne,hl,h5,nd,hN=>by
  rw[List.length_cons] at hl;rw[List.map_cons,List.nodup_cons] at nd;obtain⟨s,e,S2⟩:=ad4 c k0 k1 k2 k3 k4 nk S hne (by omega) k (h5 k (qf ..)) (hN k (qf ..)) n
  obtain⟨O,Y,ih,S3,h3,l3⟩:=J_6 n ks (sps++[s]) (d+1) (N++[ac5 k]) (.im (.int k)) S2 (by simp) (by rw[List.length_append,List.length_singleton];omega) (λ x Z=>h5 x (qg _ Z)) nd.2 λ x Z z=>by
   rcases qw z with z | z
   ·exact hN x (qg _ Z) z
   ·rw[List.mem_singleton] at z
    exact nd.1 (by rw[<- z];exact List.mem_map.mpr ⟨x,Z,rfl⟩)
  have gg:gN 4 (.int k) [.im (.int c),.im (k5 k0 k1 k2 k3 k4),.im n,.ow false (.lst (sps.map Spt.D)),s4]=some [.im (.int c),.im (k5 k0 k1 k2 k3 k4),.im n,.ow false (.lst (sps.map Spt.D)),.im (.int k)]:=rfl;refine⟨O,Y,by rw[List.map_cons,y_8,gg,z_0,e,y_9,ih],?_,λ x Z=>h3 x (qp _ Z),by rw[List.length_append,List.length_singleton] at l3;rw[List.length_cons];omega⟩
  rw[List.map_cons,List.length_cons,show d+(ks.length+1)=d+1+ks.length by omega]
  rw[List.append_assoc] at S3;exact S3
end
theorem SG.nil:SG [] 0 []:=⟨⟨by simp,λ A w B e=>by simp at e,λ w Y=>(nomatch Y),λ n nm c=>by cases n <;> exact Nat.zero_le _,by decide⟩,λ s O=>(nomatch O),λ s O=>(nomatch O),λ s O=>(nomatch O),λ s O=>(nomatch O),λ s O=>(nomatch O)⟩
structure In1 (sps:List Spt):Prop where
 each:∀ s∈sps,∃ nm lo hi i,s.w=.inn nm lo hi/\s.is=[i]/\I3 i
section
variable (c:Int) (k0 k1 k2 k3 k4:Str)
theorem aA8:∀ (ks:List Int) (O:List Spt) (d:Nat) (N:List Str),SG O d N->In1 O->O.length+ks.length<40->(∀ k∈ks,I3 k)->(ks.map B_9).Nodup->(∀ k∈ks,B_9 k∉N) ->
  ∃ sps,cGo tYes (eF j_0 (aC (eV 1) (aC (e2 e_9 (zI 10) (e2 s_3 (zI 4) (eV 0))) (aC (eV 0) (aC (eV 2) aN))))) [.im (.int c),.im (k5 k0 k1 k2 k3 k4)] (ks.map .int)=some (sps.map Spt.D)/\SG (O++sps) (d+ks.length) (N++ks.map B_9)/\In1 (O++sps)/\sps.length=ks.length
 |[],O,d,N,S,I,_,_,_,_=>⟨[],rfl,by rw[List.map_nil,List.append_nil,List.append_nil];exact S,by rw[List.append_nil];exact I,rfl⟩
 |k::ks,O,d,N,S,I,hl,h3,nd,hN=>by
  rw[List.length_cons] at hl;rw[List.map_cons,List.nodup_cons] at nd;have Z:=h3 k (qf ..);have kn:0<=k:=by rcases Z with rfl | rfl | rfl <;> decide
  have nk:=hN k (qf ..);obtain⟨lo,hi,x,e,tx⟩:=bu0 c (10+4*k) k (by omega) Z k0 k1 k2 k3 k4
  have S2:=S.snoc (s:=⟨.inn (B_9 k) lo hi,[k],x⟩) nk trivial (λ f hf=>(nomatch hf)) (λ f c=>by
   show Lt1 [k] c (if c.1=B_9 k then [c.2] else [])
   by_cases h:c.1=B_9 k
   ·rw[if_pos h];exact⟨qj _,λ _=>⟨k,List.mem_singleton.mpr rfl,h⟩⟩
   ·rw[if_neg h];exact⟨Nat.zero_le _,λ z=>absurd rfl z⟩) ⟨by simp,λ i hi=>by cases qv hi;exact Z,by simp⟩ tx (by omega)
  have I2:In1 (O++[⟨.inn (B_9 k) lo hi,[k],x⟩]):=by
   refine⟨λ s Y=>?_⟩;rcases qw Y with Y | Y
   ·exact I.each s Y
   ·cases qv Y;exact⟨_,_,_,_,rfl,rfl,Z⟩
  obtain⟨sps,ih,S3,I3',l3⟩:=aA8 ks _ (d+1) (N++[B_9 k]) S2 I2 (by rw[List.length_append,List.length_singleton];omega) (λ x hx=>h3 x (qg _ hx)) nd.2 λ x hx z=>by
   rcases qw z with z | z
   ·exact hN x (qg _ hx) z
   ·rw[List.mem_singleton] at z
    exact nd.1 (by rw[<- z];exact List.mem_map.mpr ⟨x,hx,rfl⟩)
  have m4:m_8 4 k=true:=k_9 (by decide)
  have t:tYes (.im (.int k)::[.im (.int c),.im (k5 k0 k1 k2 k3 k4)])=some (true,.im (.int k)::[.im (.int c),.im (k5 k0 k1 k2 k3 k4)]):=rfl
  have F:eF j_0 (aC (eV 1) (aC (e2 e_9 (zI 10) (e2 s_3 (zI 4) (eV 0))) (aC (eV 0) (aC (eV 2) aN)))) [.im (.int k),.im (.int c),.im (k5 k0 k1 k2 k3 k4)]=some (Spt.D ⟨.inn (B_9 k) lo hi,[k],x⟩,[.im (.int k),.im (.int c),.im (k5 k0 k1 k2 k3 k4)]):=by
   have e':j_0 [.int c,.int (10+4*k),.int k,.lst [.str k0,.str k1,.str k2,.str k3,.str k4]]=_:=e;simp[m4,e']
  refine⟨⟨.inn (B_9 k) lo hi,[k],x⟩::sps,?_,?_,?_,by rw[List.length_cons,List.length_cons,l3]⟩
  ·rw[List.map_cons,j_6,t,k_6,F,k_5,ih];rfl
  ·rw[List.map_cons,List.length_cons,show d+(ks.length+1)=d+1+ks.length by omega]
   rw[List.append_assoc,List.append_assoc] at S3;exact S3
  ·rw[List.append_assoc] at I3'
   exact I3'
theorem aq7 (nk:[k0,k1,k2,k3,k4].Nodup):∃ sps,f_7 [.int c,k5 k0 k1 k2 k3 k4]=some (.lst (sps.map Spt.D))/\(∃ N,SG sps 14 N)/\(∃ s∈sps,∃ nm lo hi,s.w=.inn nm lo hi)/\sps.length<40:=by
 obtain⟨n,en,n0,n1⟩:=g_4 c 0 (by decide)
 have f0:=Int.fmod_nonneg_of_pos n (b:=3) (by decide)
 have f1:=Int.fmod_lt_of_pos n (b:=3) (by decide)
 have g0:=Int.fmod_nonneg_of_pos (n / 16) (b:=6) (by decide)
 have g1:=Int.fmod_lt_of_pos (n / 16) (b:=6) (by decide)
 have go:∀ (m:Int) (ks:List Int),1+n.fmod 3=m->r_1 0 m.toNat=ks.map .int->(∀ k∈ks,I3 k)->(ks.map B_9).Nodup->(∀ k∈ks,B_9 k∈inN)->ks≠[]->ks.length<=3->-4611686018427387904<=m->m<4611686018427387904->∀ (q:Int) (js:List Int),(n / 16).fmod 6=q->r_1 0 q.toNat=js.map .int->(∀ k∈js,I5 k)->(js.map ac5).Nodup->(∀ k∈js,ac5 k∉inN++ptN++[whN])->js.length<=5->-4611686018427387904<=q->q<4611686018427387904 ->
   ∃ sps,f_7 [.int c,k5 k0 k1 k2 k3 k4]=some (.lst (sps.map Spt.D))/\(∃ N,SG sps 14 N)/\(∃ s∈sps,∃ nm lo hi,s.w=.inn nm lo hi)/\sps.length<40:=λ m ks hm rm ac nd ad ag kl m1 m2 q js hq rq j5 jd jn jl q1 q2=>by
  obtain⟨ins,ei,S,I,li⟩:=aA8 c k0 k1 k2 k3 k4 ks [] 0 [] SG.nil ⟨λ s hs=>(nomatch hs)⟩ (by simp;omega) ac nd (λ k _=>by simp)
  rw[List.nil_append] at S I
  have S':=S.mono (d':=3) (N':=inN) (by omega) λ x hx=>by
   rw[List.nil_append] at hx;obtain⟨k,hk,rfl⟩:=List.mem_map.mp hx;exact ad k hk
  have Z:0<ins.length:=by rw[li];exact List.length_pos_iff.mpr ag
  have hne:ins≠[]:=List.length_pos_iff.mp Z;obtain⟨O,ep,S2,aa,l9⟩:=af4 S' ⟨I.each,Z,by omega⟩ c
  have Y:O≠[]:=λ z=>by
   obtain⟨s,hs⟩:=List.exists_mem_of_ne_nil _ hne;have:=aa s hs;rw[z] at this;cases this
  obtain⟨sps,s4,lp,S3,ab,ai⟩:=J_6 c k0 k1 k2 k3 k4 nk (.int n) js O (3+6) (inN++ptN++[whN]) .no S2 Y (by omega) j5 jd jn
  have sl:(ks.map D.int).length<=sizeLine:=by rw[List.length_map];exact a_5 (by omega)
  have ah:ks.length<=sizeLine:=a_5 (by omega)
  refine⟨sps,?_,⟨_,S3.mono (by omega) λ _ h=>h⟩,?_,by omega⟩
  ·have af:fGo (gN 4) h_5 (js.map .int) [.im (.int c),.im (.lst [.str k0,.str k1,.str k2,.str k3,.str k4]),.im (.int n),.ow false (.lst (O.map Spt.D)),.no]=_:=lp
   have ae:cGo tYes (eF j_0 (aC (eV 1) (aC (e2 e_9 (zI 10) (e2 s_3 (zI 4) (eV 0))) (aC (eV 0) (aC (eV 2) aN))))) [.im (.int c),.im (.lst [.str k0,.str k1,.str k2,.str k3,.str k4])] (ks.map .int)=_:=ei;simp[f_7,A_0,List.replicate,en,hm,m1,m2,rm,ae,ah,R_7 hne,ag8,fl,ep,R_7 Y,hq,q1,q2,rq,af]
  ·obtain⟨s,hs⟩:=List.exists_mem_of_ne_nil _ hne
   obtain⟨nm,lo,hi,i,e,_⟩:=I.each s hs;exact⟨s,ab s (aa s hs),nm,lo,hi,e⟩
 have c3:n.fmod 3=0\/n.fmod 3=1\/n.fmod 3=2:=by omega
 have c6:(n / 16).fmod 6=0\/(n / 16).fmod 6=1\/(n / 16).fmod 6=2\/(n / 16).fmod 6=3\/(n / 16).fmod 6=4\/(n / 16).fmod 6=5:=by omega
 have A:∃ (m:Int) (ks:List Int),1+n.fmod 3=m/\r_1 0 m.toNat=ks.map .int/\(∀ k∈ks,I3 k)/\(ks.map B_9).Nodup/\(∀ k∈ks,B_9 k∈inN)/\ks≠[]/\ks.length<=3/\-4611686018427387904<=m/\m<4611686018427387904:=by
  rcases c3 with h | h | h
  ·exact⟨1,[0],by rw[h];rfl,rfl,by simp[I3],by decide +kernel,by decide +kernel,by simp,by decide,by decide,by decide⟩
  ·exact⟨2,[0,1],by rw[h];rfl,rfl,by simp[I3],by decide +kernel,by decide +kernel,by simp,by decide,by decide,by decide⟩
  ·exact⟨3,[0,1,2],by rw[h];rfl,rfl,by simp[I3],by decide +kernel,by decide +kernel,by simp,by decide,by decide,by decide⟩
 have B:∃ (q:Int) (js:List Int),(n / 16).fmod 6=q/\r_1 0 q.toNat=js.map .int/\(∀ k∈js,I5 k)/\(js.map ac5).Nodup/\(∀ k∈js,ac5 k∉inN++ptN++[whN])/\js.length<=5/\-4611686018427387904<=q/\q<4611686018427387904:=by
  rcases c6 with h | h | h | h | h | h
  ·exact⟨0,[],h,rfl,by simp,by decide +kernel,by decide +kernel,by decide,by decide,by decide⟩
  ·exact⟨1,[0],h,rfl,by simp[I5],by decide +kernel,by decide +kernel,by decide,by decide,by decide⟩
  ·exact⟨2,[0,1],h,rfl,by simp[I5],by decide +kernel,by decide +kernel,by decide,by decide,by decide⟩
  ·exact⟨3,[0,1,2],h,rfl,by simp[I5],by decide +kernel,by decide +kernel,by decide,by decide,by decide⟩
  ·exact⟨4,[0,1,2,3],h,rfl,by simp[I5],by decide +kernel,by decide +kernel,by decide,by decide,by decide⟩
  ·exact⟨5,[0,1,2,3,4],h,rfl,by simp[I5],by decide +kernel,by decide +kernel,by decide,by decide,by decide⟩
 obtain⟨m,ks,a1,a2,a3,a4,a5,a6,a7,a8,a9⟩:=A;obtain⟨q,js,b1,b2,b3,b4,b5,b6,b7,b8⟩:=B;exact go m ks a1 a2 a3 a4 a5 a6 a7 a8 a9 q js b1 b2 b3 b4 b5 b6 b7 b8
end
noncomputable def B_0:Wr->Bool
 |.inn _ _ _=>true
 |_=>false
theorem bB4 (w:Wr):∃ a:Str,b_0 w.D (.int 0)=some (.str a) ∧ (decide (a=Str.ofString "in"))=B_0 w:=by
 cases w with
 |inn nm lo hi=>exact⟨_,rfl,decide_eq_true rfl⟩
 |one r nm fr=>exact⟨r.word,rfl,decide_eq_false (U_6 r).2⟩
 |pour nm frs=>exact⟨_,rfl,decide_eq_false (by decide +kernel)⟩
theorem t_3:∀ sps:List Spt,cGo (tB (e2 dEq (e2 b_0 (e2 b_0 (eV 0) (zI 0)) (zI 0)) (zT "in"))) (eV 0) [] (sps.map Spt.D)=some ((sps.filter λ s=>B_0 s.w).map Spt.D)
 |[]=>rfl
 |s::sps=>by
  obtain⟨a,e1,O⟩:=bB4 s.w;have e:tB (e2 dEq (e2 b_0 (e2 b_0 (eV 0) (zI 0)) (zI 0)) (zT "in")) [.im s.D]=some (B_0 s.w,[.im s.D]):=by simp[j_5,e1,O]
  have Y:eV 0 [.im s.D]=some (s.D,[.im s.D]):=rfl;rw[List.map_cons,j_6,e];cases h:B_0 s.w with
  |true=>rw[k_6,Y,k_5,t_3 sps,List.filter_cons_of_pos (p:=λ s:Spt=>B_0 s.w) h];rfl
  |false=>rw[I_6,t_3 sps,List.filter_cons_of_neg (p:=λ s:Spt=>B_0 s.w) (by rw[h];exact Bool.false_ne_true)]
theorem aM1 (a b c d:Int) {i:Int} (O:0<=i) (h1:i<=3):∃ x:Int,atD [.int a,.int b,.int c,.int d] i=some (.int x):=by
 have:i=0\/i=1\/i=2\/i=3:=by omega
 rcases this with rfl | rfl | rfl | rfl
 ·exact⟨a,rfl⟩
 ·exact⟨b,rfl⟩
 ·exact⟨c,rfl⟩
 ·exact⟨d,rfl⟩
theorem aM2 (a b c:Int) (Z:0<=a) (Y:0<=b) (O:0<=c) {i:Int} (h0:0<=i) (h1:i<3):∃ x:Int,atD [.int a,.int b,.int c] i=some (.int x)/\0<=x:=by
 have:i=0\/i=1\/i=2:=by omega
 rcases this with rfl | rfl | rfl
 ·exact⟨a,rfl,Z⟩
 ·exact⟨b,rfl,Y⟩
 ·exact⟨c,rfl,O⟩
theorem aq6 (c j:Int) (hj:0<=j) (k0 k1 k2 k3 k4:Str) (nm:Str) (lo hi:Option Int) (is:List Int) (x:Th) (h0:0<=x.t) :
  ∃ y:Th,f_6 [.int c,.int j,Spt.D ⟨.inn nm lo hi,is,x⟩,k5 k0 k1 k2 k3 k4]=some y.D/\0<=y.t:=by
 obtain⟨n,en,n0,n1⟩:=g_4 c j hj;obtain⟨a,ea,_,_⟩:=l_0 c (j+1) (by omega)
 have f4:=Int.fmod_nonneg_of_pos (n / 2) (b:=4) (by decide)
 have e3:b_0 (Wr.inn nm lo hi).D (.int 3)=some (.tup [bO lo,bO hi]):=rfl
 generalize Z:f_6 _=R
 simp[f_6,z_9,List.replicate,en,ea,j_5,l_1,n_5,e3] at Z;subst Z
 by_cases h:Builtin.bitAnd n 1=0
 ·refine⟨⟨x.t+(n / 2).fmod 4,x.k,x.v⟩,?_,by show 0<=x.t+_;omega⟩
  simp[h,en,ea,j_5,l_1,n_5,e3]
 ·have b3:=b_8 (n / 2) 3 (by decide)
  obtain⟨z,ez⟩:=aM1 0 1 (-1) a b3.1 b3.2;have aa:=b_8 (n / 8) 3 (by decide)
  have g0:=Int.fmod_nonneg_of_pos (Builtin.bitAnd (n / 8) 3) (b:=3) (by decide)
  have g1:=Int.fmod_lt_of_pos (Builtin.bitAnd (n / 8) 3) (b:=3) (by decide)
  obtain⟨t,O,t0⟩:=aM2 x.t ((n / 16).fmod 20) (n / 16) h0 (Int.fmod_nonneg_of_pos _ (by decide)) (by omega) g0 g1
  obtain⟨q,Y⟩:=ix5 k0 k1 k2 k3 k4 (fm5 (Builtin.bitAnd (n / 1048576) 7)).1 (fm5 (Builtin.bitAnd (n / 1048576) 7)).2
  generalize Z:fnA _=R
  simp[h,j_5,l_1,n_5,e3,ea,ez,O,Y,h_7,i_0] at Z;subst Z;cases lo with
  |none =>
   cases hi with
   |none=>exact⟨⟨t,q,x.v+z⟩,by simp[bO,e3,O,Y,h_7,i_0,j_5,l_1,n_5],t0⟩
   |some u=>exact⟨⟨t,q,_⟩,by simp[bO,e3,O,Y,h_7,i_0,j_5,l_1,n_5];rfl,t0⟩
  |some l =>
   cases hi with
   |none=>exact⟨⟨t,q,_⟩,by simp[bO,e3,O,Y,h_7,i_0,j_5,l_1,n_5];rfl,t0⟩
   |some u=>exact⟨⟨t,q,_⟩,by simp[bO,e3,O,Y,h_7,i_0,j_5,l_1,n_5];rfl,t0⟩
section
variable (c:Int) (k0 k1 k2 k3 k4:Str) (ins:List Spt) (hne:ins≠[]) (hi:∀ s∈ins,B_0 s.w=true/\0<=s.x.t)
include hne hi
theorem Y_0 (e1 e3:Sl):∀ (ks:List Int) (P:List Pt) (s6 Z:Sl),(∀ k∈ks,0<=k)->P.length+ks.length<100->(∀ p∈P,0<=p.2.t) ->
  ∃ (P':List Pt) (ab aa:Sl),fGo (gN 6) f_9 (ks.map .int) [.im (.int c),e1,.im (k5 k0 k1 k2 k3 k4),e3,.im (.lst (ins.map Spt.D)),.ow false (.lst (P.map ptD)),s6,Z]=some (.nx [.im (.int c),e1,.im (k5 k0 k1 k2 k3 k4),e3,.im (.lst (ins.map Spt.D)),.ow false (.lst (P'.map ptD)),ab,aa])/\P'.length=P.length+ks.length/\∀ p∈P',0<=p.2.t
 |[],P,s6,Z,_,_,h=>⟨P,s6,Z,rfl,rfl,h⟩
 |k::ks,P,s6,Z,hk,hl,h=>by
  rw[List.length_cons] at hl;have ad:=hk k (qf ..)
  have Y:(0:Int)<ins.length:=by
   cases ins with
   |nil=>exact absurd rfl hne
   |cons a r=>simp
  obtain⟨n,en,n0,n1⟩:=g_4 c (3*k) (by omega)
  obtain⟨s,ms,es⟩:=E_4 Spt.D ins (i:=n.fmod ins.length) (Int.fmod_nonneg_of_pos _ Y) (Int.fmod_lt_of_pos _ Y);obtain⟨h1,h2⟩:=hi s ms;obtain⟨w,is,x⟩:=s;cases w with
  |inn nm lo O =>
   obtain⟨y,ey,y0⟩:=aq6 c (3*k+1) (by omega) k0 k1 k2 k3 k4 nm lo O is x h2
   have ac:f_6 [.int c,.int (3*k+1),Spt.D ⟨.inn nm lo O,is,x⟩,.lst [.str k0,.str k1,.str k2,.str k3,.str k4]]=_:=ey;have m3:m_8 3 k=true:=k_9 (by decide)
   have ql:P.length<1000000:=by omega
   have gg:gN 6 (.int k) [.im (.int c),e1,.im (k5 k0 k1 k2 k3 k4),e3,.im (.lst (ins.map Spt.D)),.ow false (.lst (P.map ptD)),s6,Z]=some [.im (.int c),e1,.im (k5 k0 k1 k2 k3 k4),e3,.im (.lst (ins.map Spt.D)),.ow false (.lst (P.map ptD)),.im (.int k),Z]:=rfl;have wn:b_0 (Wr.inn nm lo O).D (.int 1)=some (.str nm):=rfl
   have b:f_9 [.im (.int c),e1,.im (k5 k0 k1 k2 k3 k4),e3,.im (.lst (ins.map Spt.D)),.ow false (.lst (P.map ptD)),.im (.int k),Z]=some (.nx [.im (.int c),e1,.im (k5 k0 k1 k2 k3 k4),e3,.im (.lst (ins.map Spt.D)),.ow false (.lst ((P++[(nm,y)]).map ptD)),.im (.int k),.im (Spt.D ⟨.inn nm lo O,is,x⟩)]):=by
    simp[f_9,m3,en,hne,es,ac,j_5,wn,ql];rfl
   obtain⟨P',a,d,ih,l,h'⟩:=Y_0 e1 e3 ks (P++[(nm,y)]) (.im (.int k)) (.im (Spt.D ⟨.inn nm lo O,is,x⟩)) (λ j hj=>hk j (qg _ hj)) (by rw[List.length_append,List.length_singleton];omega) λ p Y=>by
    rcases qw Y with Y | Y
    ·exact h p Y
    ·cases qv Y;exact y0
   exact⟨P',a,d,by rw[List.map_cons,y_8,gg,z_0,b,y_9,ih],by rw[l,List.length_append,List.length_singleton,List.length_cons];omega,h'⟩
  |_=>cases h1
end
theorem U_7:∀ (n:Nat) (lo:Int),0<=lo->∃ ks:List Int,r_1 lo n=ks.map .int/\ks.length=n/\∀ k∈ks,0<=k
 |0,lo,_=>⟨[],rfl,rfl,λ k O=>(nomatch O)⟩
 |n+1,lo,h=>by
  obtain⟨ks,e,l,p⟩:=U_7 n (lo+1) (by omega)
  exact⟨lo::ks,by rw[List.map_cons,<- e];rfl,by rw[List.length_cons,l],λ k O=>by rcases qt O with rfl | O;exact h;exact p k O⟩
theorem ab4 (c:Int) (k0 k1 k2 k3 k4:Str) (sps:List Spt) (hs:∃ s∈sps,∃ nm lo hi,s.w=.inn nm lo hi) (ht:∀ s∈sps,0<=s.x.t) (hl:sps.length<40) (O:Int) (m0:0<=O) (m1:O<15) :
  ∃ P:List Pt,e_7 [.int c,.lst (sps.map Spt.D),k5 k0 k1 k2 k3 k4,.int O]=some (.lst (P.map ptD))/\P.length<=14/\∀ p∈P,0<=p.2.t:=by
 have fl:=t_3 sps
 have hi:∀ s∈sps.filter (λ s=>B_0 s.w),B_0 s.w=true/\0<=s.x.t:=λ s m=>by
  obtain⟨a,b⟩:=List.mem_filter.mp m;exact⟨b,ht s a⟩
 have hne:sps.filter (λ s=>B_0 s.w)≠[]:=λ z=>by
  obtain⟨s,ms,nm,lo,aa,e⟩:=hs;have:s∈sps.filter (λ s=>B_0 s.w):=List.mem_filter.mpr ⟨ms,by rw[e];rfl⟩
  rw[z] at this;cases this
 generalize sps.filter (λ s=>B_0 s.w)=ins at fl hi hne
 obtain⟨ks,ek,Z,pk⟩:=U_7 O.toNat 0 (by decide)
 obtain⟨P,a,b,lp,lP,tP⟩:=Y_0 c k0 k1 k2 k3 k4 ins hne hi (.im (.lst (sps.map Spt.D))) (.im (.int O)) ks [] .no .no pk (by simp;omega) λ p hp=>(nomatch hp)
 have Y:fGo (gN 6) f_9 (ks.map .int) [.im (.int c),.im (.lst (sps.map Spt.D)),.im (.lst [.str k0,.str k1,.str k2,.str k3,.str k4]),.im (.int O),.im (.lst (ins.map Spt.D)),.ow false (.lst []),.no,.no]=_:=lp;have sl:sps.length<=sizeLine:=a_5 (by omega)
 have q1:-4611686018427387904<=O/\O<4611686018427387904:=⟨by omega,by omega⟩
 refine⟨P,?_,by rw[lP,Z];simp;omega,tP⟩
 simp[e_7,s_7,List.replicate,fl,sl,q1,ek,Y]
theorem S_5 (O:List Int) {k:Int} (Y:0<=k):∃ x:Int,c_1 [.lst (O.map .int),.int k]=some (.int x):=by
 by_cases h:k<O.length
 ·obtain⟨x,_,e⟩:=E_4 D.int O Y h
  exact⟨x,by simp[c_1,n_9,h,e]⟩
 ·exact⟨0,by simp[c_1,n_9,h]⟩
theorem T_0:∀ sps:List Spt,cGo tYes (e2 b_0 (eV 0) (zI 0)) [] (sps.map Spt.D)=some ((spW sps).map Wr.D)
 |[]=>rfl
 |s::sps=>by
  have t:tYes (.im s.D::[])=some (true,.im s.D::[]):=rfl;have e1:e2 b_0 (eV 0) (zI 0) (.im s.D::[])=some (s.w.D,.im s.D::[]):=by simp[j_5]
  rw[List.map_cons,j_6,t,k_6,e1,k_5,T_0 sps];rfl
theorem D_4 {k:Str}{l:List Th}:∀ {E:Ev},E.lookup k=some l->(k,l)∈E
 |[],h=>nomatch h
 |(a,b)::E,h=>by
  rw[List.lookup_cons] at h
  by_cases e:k=a
  ·subst e
   rw[beq_self_eq_true] at h;cases h;exact qf ..
  ·rw[beq_eq_false_iff_ne.mpr e] at h
   exact qg _ (D_4 h)
theorem D_5 {k:Str}{l:List Th}:∀ {E:Ev},(E.map (·.1)).Nodup->(k,l)∈E->E.lookup k=some l
 |[],_,h=>nomatch h
 |(a,b)::E,nd,h=>by
  rw[List.map_cons,List.nodup_cons] at nd;rw[List.lookup_cons]
  rcases qt h with h | h
  ·cases h
   rw[beq_self_eq_true]
  ·have:k≠a:=λ z=>nd.1 (by rw[<- z];exact List.mem_map.mpr ⟨_,h,rfl⟩)
   rw[beq_eq_false_iff_ne.mpr this];exact D_5 nd.2 h
theorem C_1 {ws:List Wr} (G:Good ws) (hd:∀ w∈ws,Dep ws 14 w.nm) {P:List Pt} (hP:P.length<=14) (ht:∀ p∈P,0<=p.2.t) {cs:List Cm} (hc:cs.length<1000) (Z:(pts cs).Perm P) :
  ∃ E:Ev,b_5 [.lst (ws.map Wr.D),.lst (cs.map Cm.D)]=some (.dic E.kds)/\d_6 [E.D,.lst (ws.map Wr.D),.lst (P.map ptD)]=some (.bl true)/\(E.kds.map (·.2)).all ltv=true/\E.kds.length<=1000:=by
 have hl:=Z.length_eq;obtain⟨F,S⟩:=aH0 (cs:=cs) G (by omega) (λ c h=>ht c (Z.mem_iff.mp h)) hc hd
 have nd:((chn cs [] ws).map (·.1)).Nodup:=by rw[S.keys];exact G.nd
 refine⟨chn cs [] ws,av8 cs ws F,ar5 ws G P (by omega) _ (λ w O=>?_) hd S.keys,?_,?_⟩
 ·obtain⟨l,e1,_,_,e4⟩:=S.each w O
  obtain⟨Y,rfl⟩:∃ Y,l=srt Y:=am6 cs ws [] (λ e h=>nomatch h) _ (D_4 e1)
  refine⟨_,e1,?_⟩;rw[aW3 (e4 14 (hd w O))];exact ad3 (Z.flatMap_right _)
 ·refine List.all_eq_true.mpr λ d h=>?_
  rw[List.map_map] at h;obtain⟨⟨k,l⟩,m,rfl⟩:=List.mem_map.mp h;have e0:=D_5 nd m;have mk:k∈(chn cs [] ws).map (·.1):=List.mem_map.mpr ⟨_,m,rfl⟩;rw[S.keys] at mk;obtain⟨w,O,rfl⟩:=List.mem_map.mp mk;obtain⟨Y,e1,e2,_⟩:=S.each w O;rw[e0] at e1;cases e1;show ((l.map Th.D).all r3&&decide ((l.map Th.D).length<=1000))=true;rw[ae2,Bool.true_and];exact decide_eq_true (by rw[List.length_map];omega)
 ·have a:=congrArg List.length S.keys
  have b:=G.len;rw[List.length_map,List.length_map] at a;rw[List.length_map];omega
theorem r_2 {α:Type} (f:α->D) (h:∀ x,nl (f x)=true):∀ l:List α,nls (l.map f)=true
 |[]=>by unfold nls;rfl
 |x::l=>by rw[List.map_cons];unfold nls;rw[h x,r_2 f h l];rfl
theorem ah0 (o:Option Int):nl (bO o)=true:=by cases o <;> (unfold nl bO;rfl)
theorem bb7 (a b:D) (O:nl a=true) (Y:nl b=true):nls [a,b]=true:=by unfold nls;rw[O];unfold nls;rw[Y];unfold nls;rfl
theorem aL2 (r:Rw):nls r.bes=true:=by
 cases r with
 |time b e=>exact bb7 _ _ (by unfold nl;rfl) (ah0 e)
 |only ks=>exact r_2 _ (λ x=>by unfold nl;rfl) ks
 |but ks=>exact r_2 _ (λ x=>by unfold nl;rfl) ks
 |span lo hi=>exact bb7 _ _ (ah0 lo) (ah0 hi)
 |rest m q=>exact bb7 _ _ (by unfold nl;rfl) (by unfold nl;rfl)
 |turn a b=>exact bb7 _ _ (by unfold nl;rfl) (by unfold nl;rfl)
 |later c=>rfl
 |put kvs=>exact r_2 _ (λ x=>rfl) kvs
theorem bK2 (w:Wr):nl w.D=true:=by
 cases w with
 |inn nm lo hi=>show nls [_,_,_,.tup [bO lo,bO hi]]=true;show (true&&(true&&(true&&(nls [bO lo,bO hi]&&true))))=true;rw[bb7 _ _ (ah0 lo) (ah0 hi)];rfl
 |one r nm fr=>show (true&&(true&&(true&&(nls r.bes&&true))))=true;rw[aL2];rfl
 |pour nm frs=>show (true&&(true&&(nls (frs.map .str)&&(true&&true))))=true;rw[r_2 D.str (λ x=>by unfold nl;rfl) frs];rfl
theorem bu2 {ws:List Wr} (h:ws≠[]):hdS (ws.map Wr.D)=true:=by
 cases ws with
 |nil=>exact absurd rfl h
 |cons w ws=>cases w <;> rfl
theorem ak6:∀ l:List Pt,r_4 (l.map ptD) (l.map ptD)=true
 |[]=>by simp
 |x::l=>by rw[List.map_cons,H_5,ak6 l];simp[Cm.D]
theorem aC0:∀ l:List Pt,t_6 (l.map ptD)<=1
 |[]=>by simp
 |x::l=>by have:=aC0 l;rw[List.map_cons,l_2];simp[Cm.D];omega
abbrev T32:FT:=tOr (tNot (tV (eF d_6 (aC (eV 6) (aC (eV 3) (aC (eV 4) aN)))))) (tB (e2 dNe (eV 5) (eV 4)))
theorem aW5 (Y Z O:D) (ws:List Wr) (hw:ws≠[]) (P:List Pt) (E:Ev) (h1:b_5 [.lst (ws.map Wr.D),.lst (P.map ptD)]=some (.dic E.kds)) (h2:d_6 [E.D,.lst (ws.map Wr.D),.lst (P.map ptD)]=some (.bl true)) (h3:(E.kds.map (·.2)).all ltv=true) (h4:E.kds.length<=1000) :
  aX1 6 5 7 3 b_5 T32 [.im Y,.im Z,.im O,.im (.lst (ws.map Wr.D)),.im (.lst (P.map ptD)),.ow false (.lst (P.map ptD)),.no,.no,.no,.no,.no]=some (.nx [.im Y,.im Z,.im O,.im (.lst (ws.map Wr.D)),.im (.lst (P.map ptD)),.no,.no,.no,.no,.no,.no]):=by
 have nw:nls (ws.map Wr.D)=true:=r_2 Wr.D bK2 ws;have np:nls (P.map ptD)=true:=r_2 ptD (λ _=>rfl) P
 have aa:t_6 (P.map ptD)<=29:=by have:=aC0 P;omega
 have t:T32 [.im Y,.im Z,.im O,.im (.lst (ws.map Wr.D)),.im (.lst (P.map ptD)),.im (.lst (P.map ptD)),.im E.D,.no,.no,.no,.no]=some (false,[.im Y,.im Z,.im O,.im (.lst (ws.map Wr.D)),.im (.lst (P.map ptD)),.im (.lst (P.map ptD)),.im E.D,.no,.no,.no,.no]):=by
  simp[T32,h2,ak6,aa]
 show (if hdS (ws.map Wr.D)=true/\nls (ws.map Wr.D)=true/\nls (P.map ptD)=true/\_/\_ then aH4 6 5 7 T32 (P.map ptD) _ (b_5 [.lst (ws.map Wr.D),.lst (P.map ptD)]) else none)=_;rw[if_pos ⟨bu2 hw,nw,np,rfl,by simp⟩,h1]
 show (if _/\_ then aH3 6 5 7 _ [.im Y,.im Z,.im O,.im (.lst (ws.map Wr.D)),.im (.lst (P.map ptD)),.im (.lst (P.map ptD)),hld E.kds,.no,.no,.no,.no] (T32 [.im Y,.im Z,.im O,.im (.lst (ws.map Wr.D)),.im (.lst (P.map ptD)),.im (.lst (P.map ptD)),hld E.kds,.no,.no,.no,.no]) else none)=_;rw[if_pos ⟨h3,h4⟩,bd8,t];show @ite _ (_=_) (bk3 _ _) _ none=_;rw[if_pos rfl];rfl
abbrev mkC (w:Wr):Cm:=.mk w.nm 1000000000000
theorem G_5:∀ ws:List Wr,cGo (tB (e2 dEq (e2 b_0 (eV 0) (zI 0)) (zT "in"))) (h_2 (aC (zT "mark") (aC (e2 b_0 (eV 0) (zI 1)) (aC (e2 aP7 (zI 10) (zI 12)) aN)))) [] (ws.map Wr.D)=some (((ws.filter B_0).map mkC).map Cm.D)
 |[]=>rfl
 |w::ws=>by
  obtain⟨a,e1,O⟩:=bB4 w;obtain⟨b1,b2,b3,Z⟩:=bl3 w;have Y:b_0 w.D (.int 1)=some (.str w.nm):=by rw[Z];exact t_2 ..
  have e:tB (e2 dEq (e2 b_0 (eV 0) (zI 0)) (zT "in")) [.im w.D]=some (B_0 w,[.im w.D]):=by simp[e1,O]
  have e':h_2 (aC (zT "mark") (aC (e2 b_0 (eV 0) (zI 1)) (aC (e2 aP7 (zI 10) (zI 12)) aN))) [.im w.D]=some ((Cm.mk w.nm 1000000000000).D,[.im w.D]):=by simp[Y,Cm.D]
  rw[List.map_cons,j_6,e];cases h:B_0 w with
  |true=>rw[k_6,e',k_5,G_5 ws,List.filter_cons_of_pos h];rfl
  |false=>rw[I_6,G_5 ws,List.filter_cons_of_neg (by rw[h];exact Bool.false_ne_true)]
abbrev thC (p:Pt):Cm:=.th p.1 p.2
theorem ae3:∀ P:List Pt,pts (P.map thC)=P
 |[]=>rfl
 |p::P=>by
  have O:=ae3 P;show List.filterMap ptO (thC p::P.map thC)=_;rw[List.filterMap_cons_some (f:=ptO) (a:=thC p) (b:=p) rfl];exact congrArg (p::·) O
theorem az0:∀ ws:List Wr,pts (ws.map mkC)=[]
 |[]=>rfl
 |w::ws=>az0 ws
theorem law_true:∀ O:List Int,O.length<=63->aa3 [.lst (O.map .int)]=some (.bl true):=λ O _=>by
 obtain⟨c0,e0⟩:=S_5 O (k:=0) (by decide)
 obtain⟨c1,e1⟩:=S_5 O (k:=1) (by decide)
 obtain⟨c2,ae⟩:=S_5 O (k:=2) (by decide)
 obtain⟨k0,k1,k2,k3,k4,ek,nk⟩:=aL9 c0;obtain⟨sps,es,⟨N,S⟩,Z,aa⟩:=aq7 c1 k0 k1 k2 k3 k4 nk;obtain⟨n1,ad,aj,_⟩:=g_4 c0 1 (by decide)
 obtain⟨n2,ac,ai,_⟩:=g_4 c0 2 (by decide)
 have f0:=Int.fmod_nonneg_of_pos n1 (b:=15) (by decide)
 have f1:=Int.fmod_lt_of_pos n1 (b:=15) (by decide)
 obtain⟨P,eP,lP,tP⟩:=ab4 c2 k0 k1 k2 k3 k4 sps Z S.tm aa (n1.fmod 15) f0 f1;have wg:=T_0 sps;have G:=S.good
 have hd:∀ w∈spW sps,Dep (spW sps) 14 w.nm:=λ w hw=>by
  obtain⟨s,ms,rfl⟩:=List.mem_map.mp hw;exact S.dep s ms
 have hne:spW sps≠[]:=λ z=>by
  obtain⟨s,ms,_⟩:=Z;have:s.w∈spW sps:=List.mem_map.mpr ⟨s,ms,rfl⟩;rw[z] at this;cases this
 have sl:sps.length<=sizeLine:=a_5 (by omega)
 have wl:(spW sps).length<40:=by rw[List.length_map];exact aa
 generalize spW sps=ws at wg G hd hne wl
 have sw:ws.length<=sizeLine:=a_5 (by omega)
 have lt:(P.map thC).map Cm.D=P.map ptD:=by rw[List.map_map];rfl
 obtain⟨E,a1,a2,a3,a4⟩:=C_1 G hd lP tP (cs:=P.map thC) (by rw[List.length_map];omega) (by rw[ae3 P])
 rw[lt] at a1;have sp:=aW5 (.lst (O.map .int)) (k5 k0 k1 k2 k3 k4) (.lst (sps.map Spt.D)) ws hne P E a1 a2 a3 a4;have g0:=Int.fmod_nonneg_of_pos n2 (b:=P.length+1) (by omega)
 have g1:=Int.fmod_lt_of_pos n2 (b:=P.length+1) (by omega)
 obtain⟨k,hk⟩:=Int.eq_ofNat_of_zero_le g0;have kl:k<=P.length:=by omega
 have ct:=aC3 ptD P k;have cf:=X_8 ptD P k kl;have mg:=G_5 ws
 have ag:((P.drop k++(P.take k).reverse).map thC++((ws.filter B_0).map mkC++[Cm.cl (Str.ofString "ain")])).map Cm.D=(P.drop k).map ptD++((P.take k).map ptD).reverse++(((ws.filter B_0).map mkC).map Cm.D++[.tup [.str "close",.str "ain"]]):=by
  have q:∀ Q:List Pt,(Q.map thC).map Cm.D=Q.map ptD:=λ Q=>by rw[List.map_map];rfl
  rw[List.map_append,q,List.map_append,List.map_reverse,List.map_append];rfl
 have fl:=List.length_filter_le B_0 ws
 obtain⟨E',Y,b2,_⟩:=C_1 G hd lP tP (cs:=(P.drop k++(P.take k).reverse).map thC++((ws.filter B_0).map mkC++[Cm.cl (Str.ofString "ain")])) (by
  simp only[List.length_append,List.length_map,List.length_drop,List.length_reverse,List.length_take,List.length_singleton];omega) (by
  show (pts _).Perm P;unfold pts;rw[List.filterMap_append,List.filterMap_append,show List.filterMap ptO (List.map thC _)=_ from ae3 _,show List.filterMap ptO (List.map _ (ws.filter B_0))=_ from az0 _];show (P.drop k++(P.take k).reverse++[]).Perm P;rw[List.append_nil];refine (((List.reverse_perm _).append_left _).trans List.perm_append_comm).trans ?_;rw[List.take_append_drop])
 rw[ag] at Y;have lM:(((ws.filter B_0).map mkC).map Cm.D).length<40:=by rw[List.length_map,List.length_map];omega
 have lA:((P.drop k).map ptD).length<=14:=by rw[List.length_map,List.length_drop];omega
 have lB:((P.take k).map ptD).length<=14:=by rw[List.length_map,List.length_take];omega
 generalize ((ws.filter B_0).map mkC).map Cm.D=M at mg Y lM
 generalize (P.drop k).map ptD=A at Y cf lA
 generalize (P.take k).map ptD=B at Y ct lB
 have p0:¬ ((P.length:Int)+1=0):=by omega
 have s1:A.length+B.length<=sizeLine:=a_5 (by omega)
 have s2:M.length+1<=sizeLine:=a_5 (by omega)
 have s3:A.length+(B.length+(M.length+1))<=sizeLine:=a_5 (by omega)
 have s4:A.length+B.length+(M.length+1)<=sizeLine:=a_5 (by omega)
 rw[List.append_assoc] at Y;have ah:aX1 6 5 7 3 b_5 T32 [.im (.lst (O.map .int)),.im (.lst [.str k0,.str k1,.str k2,.str k3,.str k4]),.im (.lst (sps.map Spt.D)),.im (.lst (ws.map Wr.D)),.im (.lst (P.map ptD)),.ow false (.lst (P.map ptD)),.no,.no,.no,.no,.no]=_:=sp;have af:f_7 [.int c1,.lst [.str k0,.str k1,.str k2,.str k3,.str k4]]=_:=es;have ab:e_7 [.int c2,.lst (sps.map Spt.D),.lst [.str k0,.str k1,.str k2,.str k3,.str k4],.int (n1.fmod 15)]=_:=eP;simp[aa3,bg8,List.replicate,e0,e1,ae,ek,af,sl,wg,ad,ab,ah,ac,hk,ct,cf,mg,sw,Y,p0,s1,s2,s3,s4];exact (congrArg (λ o=>fnA (aH6 (mkP o _))) b2).trans rfl
end Fx
namespace Fx
open PySem PySem.Spec PyProof.Rows L2
theorem K_4 {K:Frag}{H:Hp}:∀ O:List Int,Reps K H (O.map D.int) (O.map V.int)
 |[]=>Reps.nil_
 |n::r=>Reps.cons (d_2 H n) (K_4 r)
inductive EntF (K:Frag) (x:Str) (st:Stmt) (f:Addr):Prop
 |mk {od an:Option Addr}{sl:Array (Option Value)}{oc kV dc pm cd ct:Value} (a:nsIn K mainGlobals x=some (some (.ref f))) (l:K.lookup f=some ⟨oc,od,.func (fnOf x x (t_7 st) (n_6 st) (a_0 st) .none kV dc pm an cd ct),sl⟩) (c:codeIn K cd x=true) (k:keepIn K (.ref f)=true):EntF K x st f
theorem us1 {P:List Value->Prop} (h:∀ O,P [O]):∀ us:List Value,us.length=1->P us
 |[_],_=>h ..
theorem us2 {P:List Value->Prop} (h:∀ Y O,P [Y,O]):∀ us:List Value,us.length=2->P us
 |[_,_],_=>h ..
theorem us3 {P:List Value->Prop} (h:∀ Z O Y,P [Z,O,Y]):∀ us:List Value,us.length=3->P us
 |[_,_,_],_=>h ..
theorem us4 {P:List Value->Prop} (h:∀ Z O Y a3,P [Z,O,Y,a3]):∀ us:List Value,us.length=4->P us
 |[_,_,_,_],_=>h ..
theorem us5 {P:List Value->Prop} (h:∀ Y a1 O a3 Z,P [Y,a1,O,a3,Z]):∀ us:List Value,us.length=5->P us
 |[_,_,_,_,_],_=>h ..
theorem all_mk {l:OpenLaw}{w:World}{K:Frag}{h:Heap}{mg:Str → Option Value}{fa f1 f2 f3 f4 f5 f6 f7 f8 f9 co cv d3 dw ev cf dq g3 fq cn b0 er gw bv br gx fk el fp bl:Addr} (X:K.In h) (G:h.Ns mainGlobals mg) (bx:mg "law"=some (.ref fa))
  (e1:EntF K "keys_hold" n_4 f1)
  (e2:EntF K "stretch_made" i_8 f2)
  (e3:EntF K "is_between" l_7 f3)
  (e4:EntF K "stretch_has" k_0 f4)
  (e5:EntF K "box_made" q_0 f5)
  (e6:EntF K "box_has" r_7 f6)
  (e7:EntF K "box_sieved" l_8 f7)
  (e8:EntF K "through_row" j_9 f8)
  (e9:EntF K "through_froms" c_4 f9)
  (d4:EntF K "things_of" i_3 co)
  (eu:EntF K "chain_things" i_9 cv)
  (bq:EntF K "_law_cell_at" k_2 d3)
  (cl:EntF K "_law_mixed" n_2 dw)
  (ea:EntF K "_law_keys" h_0 ev)
  (gs:EntF K "_law_number" l_6 cf)
  (dd:EntF K "_law_bound" n_3 dq)
  (cm:EntF K "_law_sieve" i_5 g3)
  (ck:EntF K "_law_change" e_4 fq)
  (g2:EntF K "_law_through" k_1 cn)
  (gk:EntF K "_law_in" v_9 b0)
  (dl:EntF K "_law_poured" g_9 er)
  (e0:EntF K "_law_next_spot" h_3 gw)
  (ec:EntF K "_law_parted" c_6 bv)
  (en:EntF K "_law_spots" i_4 br)
  (bg:EntF K "_law_thing" n_1 gx)
  (bn:EntF K "_law_comings" g_3 fk)
  (ei:EntF K "_law_come" e_2 el)
  (cu:EntF K "_law_right" i_6 fp)
  (gr:EntF K "law" w_9 bl)
  {ad:_}{Y:Addr}{am:Nat}{O:Array (Option Value)} (ai:K.lookup Y=some ⟨.type "tuple",none,.seq #[] am,O⟩) {au:Addr}{as:Nat}{ae:Array (Option Value)} (a0:K.lookup au=some ⟨.type "tuple",none,.seq #[.str "but" ad,.ref Y] as,ae⟩) (y1:nsIn K mainGlobals "EVERY_KEY"=some (some (.ref au))) {Z:_}{aj:_}{ar:Addr}{bd:Nat}{ak:Array (Option Value)} (ba:K.lookup ar=some ⟨.type "tuple",none,.seq #[.none,.none,.int 1 Z,.int 0 aj] bd,ak⟩) (y2:nsIn K mainGlobals "EVERY_VALUE"=some (some (.ref ar))) {aq:_}{ao:_}{al:_}{ag:_}{aa:_}{ab:_}{af:_}{an:_}{ac:_}{ah:_}{av:Addr}{bb:Nat}{ap:Array (Option Value)} (ax:K.lookup av=some ⟨.type "tuple",none,.seq #[.str "in" aq,.str "time" ao,.str "only" al,.str "but" ag,.str "span" aa,.str "rest" ab,.str "turn" af,.str "later" an,.str "put" ac,.str "pour" ah] bb,ap⟩) (y3:nsIn K mainGlobals "CHAINS"=some (some (.ref av)))
  (gq:(K.all λ e=>!(e.2.cls==.type "list"))=true)
  (z1:nsIn K mainGlobals "abs"=some none) (z2:nsIn K mainGlobals "len"=some none) (z3:nsIn K mainGlobals "max"=some none) (z4:nsIn K mainGlobals "min"=some none) (z5:nsIn K mainGlobals "any"=some none) (z6:nsIn K mainGlobals "all"=some none) (z7:nsIn K mainGlobals "range"=some none) (z8:nsIn K mainGlobals "isinstance"=some none) (z9:nsIn K mainGlobals "int"=some none) (dv:nsIn K mainGlobals "bool"=some none) (gf:nsIn K mainGlobals "str"=some none) (fy:nsIn K mainGlobals "tuple"=some none) (ce:nsIn K mainGlobals "list"=some none) (gt:nsIn K mainGlobals "sorted"=some none) (cp:nsIn K mainGlobals "dict"=some none) (ew:nsIn K mainGlobals "set"=some none) (bi:nsIn K mainGlobals "sum"=some none) (f0:nsIn K mainGlobals "zip"=some none) (dx:nsIn K mainGlobals "enumerate"=some none) (ge:nsIn K mainGlobals "reversed"=some none) :
  ∃ fd:FuncData,(∀ (s:Shared) (v:Value),BindsTo s fd ⟨[v],[]⟩ [("_law_script",v)]) ∧ ∀ base:Heap,K.In base → base.Ns mainGlobals mg → FnOk l.prog w K mg base CX0 18 fa fd ["_law_script"] (spP K aa3):=by
 obtain⟨a1,l1,c1,k1⟩:=e1;obtain⟨a2,l2,c2,k2⟩:=e2;obtain⟨a3,l3,c3,k3⟩:=e3;obtain⟨a4,l4,c4,k4⟩:=e4;obtain⟨a5,l5,c5,k5⟩:=e5;obtain⟨a6,l6,c6,k6⟩:=e6;obtain⟨a7,l7,c7,k7⟩:=e7;obtain⟨a8,l8,c8,k8⟩:=e8;obtain⟨a9,l9,c9,k9⟩:=e9;obtain⟨cc,dp,ek,dr⟩:=d4;obtain⟨de,d7,c0,fu⟩:=eu;obtain⟨bm,gu,d9,bz⟩:=bq;obtain⟨bu,ey,cw,fw⟩:=cl;obtain⟨gn,dn,cq,ca⟩:=ea;obtain⟨bj,eo,dc,dt⟩:=gs;obtain⟨fv,db,fm,ed⟩:=dd;obtain⟨gb,gv,ef,et⟩:=cm;obtain⟨fe,bh,fz,di⟩:=ck;obtain⟨dm,eh,cr,eg⟩:=g2;obtain⟨g4,cx,gm,gg⟩:=gk;obtain⟨bt,dz,gp,gl⟩:=dl;obtain⟨d2,da,fb,g0⟩:=e0;obtain⟨cg,d8,gj,cb⟩:=ec;obtain⟨fo,dh,cy,d5⟩:=en;obtain⟨cj,bp,dk,em⟩:=bg;obtain⟨go,ej,dj,ft⟩:=bn;obtain⟨fh,du,fc,bo⟩:=ei;obtain⟨ee,ga,gh,dg⟩:=cu;obtain @⟨g6,be,g7,g5,aw,az,bc,bf,ay,fx,gd,cd,gy⟩:=gr;have e:=bx.symm.trans (mg_of X G fx);cases e;have T:Blt w K mg:=⟨mg_none_of X G z1,mg_none_of X G z2,mg_none_of X G z3,mg_none_of X G z4,mg_none_of X G z5,mg_none_of X G z6,mg_none_of X G z7,mg_none_of X G z8,mg_none_of X G z9,mg_none_of X G dv,mg_none_of X G gf,mg_none_of X G fy,mg_none_of X G ce,mg_none_of X G gt,mg_none_of X G cp,mg_none_of X G ew,mg_none_of X G bi,mg_none_of X G f0,mg_none_of X G dx,mg_none_of X G ge,⟨_,mg_of X G y1,(W_5 a0 (by simp) (e_1 p_1 (e_1 (W_5 ai (by simp) G_9) G_9)))⟩,⟨_,mg_of X G y2,(W_5 ba (by simp) (e_1 aA3 (e_1 aA3 (e_1 aA4 (e_1 aA4 G_9)))))⟩,⟨_,mg_of X G y3,(W_5 ax (by simp) (e_1 p_1 (e_1 p_1 (e_1 p_1 (e_1 p_1 (e_1 p_1 (e_1 p_1 (e_1 p_1 (e_1 p_1 (e_1 p_1 (e_1 p_1 G_9)))))))))))⟩,⟨_,mg_of X G a8,bc8 a8⟩,br7 gq⟩
 have F1:=d_4 (st:=n_4) l1 c1 k1;have b1:=F1.binds (ps:=["keys","key"]) λ _ _ _ _ _ _=>us2 λ _ _=>rfl
 have F2:=d_4 (st:=i_8) l2 c2 k2;have b2:=F2.binds (ps:=["low","high","step","rest"]) λ _ _ _ _ _ _=>us4 λ _ _ _ _=>rfl
 have F3:=d_4 (st:=l_7) l3 c3 k3;have b3:=F3.binds (ps:=["v","low","high"]) λ _ _ _ _ _ _=>us3 λ _ _ _=>rfl
 have F4:=d_4 (st:=k_0) l4 c4 k4;have b4:=F4.binds (ps:=["one","v"]) λ _ _ _ _ _ _=>us2 λ _ _=>rfl
 have F5:=d_4 (st:=q_0) l5 c5 k5;have b5:=F5.binds (ps:=["keys","begin","end","stretch"]) λ _ _ _ _ _ _=>us4 λ _ _ _ _=>rfl
 have F6:=d_4 (st:=r_7) l6 c6 k6;have b6:=F6.binds (ps:=["box","thing"]) λ _ _ _ _ _ _=>us2 λ _ _=>rfl
 have F7:=d_4 (st:=l_8) l7 c7 k7;have b7:=F7.binds (ps:=["row"]) λ _ _ _ _ _ _=>us1 λ _=>rfl
 have F8:=d_4 (st:=j_9) l8 c8 k8;have b8:=F8.binds (ps:=["row","thing"]) λ _ _ _ _ _ _=>us2 λ _ _=>rfl
 have F9:=d_4 (st:=c_4) l9 c9 k9;have b9:=F9.binds (ps:=["row","above","by_row"]) λ _ _ _ _ _ _=>us3 λ _ _ _=>rfl
 have F10:=d_4 (st:=i_3) dp ek dr;have d0:=F10.binds (ps:=["row","things","comings"]) λ _ _ _ _ _ _=>us3 λ _ _ _=>rfl
 have F11:=d_4 (st:=i_9) d7 c0 fu;have bw:=F11.binds (ps:=["works","comings"]) λ _ _ _ _ _ _=>us2 λ _ _=>rfl
 have F12:=d_4 (st:=k_2) gu d9 bz;have ff:=F12.binds (ps:=["_law_script","_law_k"]) λ _ _ _ _ _ _=>us2 λ _ _=>rfl
 have F13:=d_4 (st:=n_2) ey cw fw;have ez:=F13.binds (ps:=["_law_cell","_law_k"]) λ _ _ _ _ _ _=>us2 λ _ _=>rfl
 have F14:=d_4 (st:=h_0) dn cq ca;have eb:=F14.binds (ps:=["_law_cell"]) λ _ _ _ _ _ _=>us1 λ _=>rfl
 have F15:=d_4 (st:=l_6) eo dc dt;have fg:=F15.binds (ps:=["_law_cell","_law_j"]) λ _ _ _ _ _ _=>us2 λ _ _=>rfl
 have F16:=d_4 (st:=n_3) db fm ed;have fj:=F16.binds (ps:=["_law_number_here","_law_shut"]) λ _ _ _ _ _ _=>us2 λ _ _=>rfl
 have F17:=d_4 (st:=i_5) gv ef et;have gc:=F17.binds (ps:=["_law_cell","_law_j","_law_thing_here","_law_keys_here"]) λ _ _ _ _ _ _=>us4 λ _ _ _ _=>rfl
 have F18:=d_4 (st:=e_4) bh fz di;have d6:=F18.binds (ps:=["_law_cell","_law_j","_law_keys_here"]) λ _ _ _ _ _ _=>us3 λ _ _ _=>rfl
 have F19:=d_4 (st:=k_1) eh cr eg;have dy:=F19.binds (ps:=["_law_word","_law_behind","_law_thing_here"]) λ _ _ _ _ _ _=>us3 λ _ _ _=>rfl
 have F20:=d_4 (st:=v_9) cx gm gg;have gz:=F20.binds (ps:=["_law_cell","_law_j","_law_k","_law_keys_here"]) λ _ _ _ _ _ _=>us4 λ _ _ _ _=>rfl
 have F21:=d_4 (st:=g_9) dz gp gl;have df:=F21.binds (ps:=["_law_spots_here","_law_name","_law_cell","_law_j"]) λ _ _ _ _ _ _=>us4 λ _ _ _ _=>rfl
 have F22:=d_4 (st:=h_3) da fb g0;have ci:=F22.binds (ps:=["_law_spots_here","_law_name","_law_cell","_law_j","_law_keys_here"]) λ _ _ _ _ _ _=>us5 λ _ _ _ _ _=>rfl
 have F23:=d_4 (st:=c_6) d8 gj cb;have gi:=F23.binds (ps:=["_law_spots_here","_law_cell"]) λ _ _ _ _ _ _=>us2 λ _ _=>rfl
 have F24:=d_4 (st:=i_4) dh cy d5;have eq:=F24.binds (ps:=["_law_cell","_law_keys_here"]) λ _ _ _ _ _ _=>us2 λ _ _=>rfl
 have F25:=d_4 (st:=n_1) bp dk em;have d1:=F25.binds (ps:=["_law_cell","_law_j","_law_spot","_law_keys_here"]) λ _ _ _ _ _ _=>us4 λ _ _ _ _=>rfl
 have F26:=d_4 (st:=g_3) ej dj ft;have g1:=F26.binds (ps:=["_law_cell","_law_spots_here","_law_keys_here","_law_many"]) λ _ _ _ _ _ _=>us4 λ _ _ _ _=>rfl
 have F27:=d_4 (st:=e_2) du fc bo;have fi:=F27.binds (ps:=["_law_rows","_law_name","_law_coming"]) λ _ _ _ _ _ _=>us3 λ _ _ _=>rfl
 have F28:=d_4 (st:=i_6) ga gh dg;have cz:=F28.binds (ps:=["_law_found","_law_works","_law_comings_here"]) λ _ _ _ _ _ _=>us3 λ _ _ _=>rfl
 have F29:=d_4 (st:=w_9) gd cd gy;have g8:=F29.binds (ps:=["_law_script"]) λ _ _ _ _ _ _=>us1 λ _=>rfl
 refine⟨fnOf "law" "law" (t_7 w_9) (n_6 w_9) (a_0 w_9) .none aw az bc be bf ay,λ s v=>.of_eq rfl,λ base _ _=>?_⟩
 have G1:DefOk l.prog w K mg base 1 "keys_hold" i_7:=M_2 F1 b1 (mg_of X G a1) T;have G2:DefOk l.prog w K mg base 1 "stretch_made" b_2:=x_7 F2 b2 (mg_of X G a2) T;have G3:DefOk l.prog w K mg base 1 "is_between" e_6:=G_2 F3 b3 (mg_of X G a3) T;have G5:DefOk l.prog w K mg base 1 "box_made" c_8:=Q_6 F5 b5 (mg_of X G a5) T;have G12:DefOk l.prog w K mg base 1 "_law_cell_at" c_1:=B_7 F12 ff (mg_of X G bm) T;have G13:DefOk l.prog w K mg base 1 "_law_mixed" a_7:=M_0 F13 ez (mg_of X G bu) T;have G16:DefOk l.prog w K mg base 1 "_law_bound" c_2:=M_1 F16 fj (mg_of X G fv) T;have G19:DefOk l.prog w K mg base 1 "_law_through" a_8:=B_5 F19 dy (mg_of X G dm) T;have G4:DefOk l.prog w K mg base 2 "stretch_has" g_5:=B_4 F4 b4 (mg_of X G a4) T G3;have G7:DefOk l.prog w K mg base 2 "box_sieved" a_9:=G_3 F7 b7 (mg_of X G a7) T G5 G2;have G14:DefOk l.prog w K mg base 2 "_law_keys" k_7:=Q_4 F14 eb (mg_of X G gn) T G13;have G15:DefOk l.prog w K mg base 2 "_law_number" b_3:=G_0 F15 fg (mg_of X G bj) T G13;have G21:DefOk l.prog w K mg base 2 "_law_poured" e_5:=F_8 F21 df (mg_of X G bt) T G13;have G23:DefOk l.prog w K mg base 2 "_law_parted" c_5:=F_9 F23 gi (mg_of X G cg) T G13;have G6:DefOk l.prog w K mg base 3 "box_has" e_3:=aa0 F6 b6 (mg_of X G a6) T G1 G4;have G17:DefOk l.prog w K mg base 3 "_law_sieve" f_8:=L_8 F17 gc (mg_of X G gb) T G16 G13 G15;have G18:DefOk l.prog w K mg base 3 "_law_change" d_3:=G_1 F18 d6 (mg_of X G fe) T G13 G15;have G20:DefOk l.prog w K mg base 3 "_law_in" j_0:=ag3 F20 gz (mg_of X G g4) T G16 G13 G15;have G25:DefOk l.prog w K mg base 3 "_law_thing" f_6:=L_6 F25 d1 (mg_of X G cj) T G13 G15;have G8:DefOk l.prog w K mg base 4 "through_row" b_1:=B_3 F8 b8 (mg_of X G a8) T G6 G7;have G22:DefOk l.prog w K mg base 4 "_law_next_spot" b_4:=v_3 F22 ci (mg_of X G d2) T G18 G13 G21 G17 G19;have G26:DefOk l.prog w K mg base 4 "_law_comings" e_7:=B_6 F26 g1 (mg_of X G go) T G13 G25;have G9:DefOk l.prog w K mg base 5 "through_froms" b_7:=v_2 F9 b9 (mg_of X G a9) T G8;have G24:DefOk l.prog w K mg base 5 "_law_spots" f_7:=L_7 F24 eq (mg_of X G fo) T G20 G13 G22 G23;have G10:DefOk l.prog w K mg base 6 "things_of" d_0:=L_5 F10 d0 (mg_of X G cc) T G9;have G11:DefN l.prog w K mg base 7 "chain_things" b_5:=x_8 F11 bw (mg_of X G de) T G10;have G27:DefOk l.prog w K mg base 16 "_law_come" (g_6 14):=Q_5 F27 fi (mg_of X G fh) T G19;have G28:DefOk l.prog w K mg base 17 "_law_right" d_6:=L_9 F28 cz (mg_of X G ee) T G27;exact be0 F29 T G12 G26 G14 G13 G28 G24 G11
theorem walk {l:OpenLaw}{q:Program}{O:List Str}{XP:(Str->Option Value)->Heap->Prop}{YP:World->Heap->Prop}{d:DefRec}{K:Params->Frag} (hn:l.most=some 63) (Y:d.params.defaults=[])
  (hY:∀ (w:World) (h:Heap),YP w h->(K w.params).In h)
  (F:∀ (w:World) (mg:Str->Option Value) (fa:Addr) (h:Heap),(K w.params).In h->h.Ns mainGlobals mg->mg d.name=some (.ref fa) ->
   ∃ fd:FuncData,(∀ (s:Shared) (u:Value),BindsTo s fd ⟨[u],[]⟩ [("_law_script",u)]) ∧ ∀ base:Heap,(K w.params).In base → base.Ns mainGlobals mg → FnOk l.prog w (K w.params) mg base CX0 18 fa fd ["_law_script"] (spP (K w.params) aa3)) :
  PySem.W.WalkO q O XP YP l.row.toRowW d [] (λ f vs=>PySem.call f vs) :=
 L2.walk_of (n:=63) (k:=18) (x:="_law_script") (CX:=λ _=>CX0) (sp:=λ w=>spP (K w.params) aa3) hn (by decide) Y ⟨rfl,by decide,by decide⟩ hY F
  (λ w H a Z hl _ hS=>⟨H,[.lst (Z.map .int)],.bl true,Same.refl _,Reps.one (by unfold Rep;exact⟨a,_,rfl,hS,K_4 Z⟩),law_true Z hl,λ v Hi' H' S r=>by unfold Rep at r;exact r⟩) λ _ _ _ _ _ z=>z
end Fx
open PySem PySem.W PyProof.Rows
def PySem.W.Fast.tw13749188816239772754:=0
def PySem.W.Fast.tw16649897880301256801:=0
def PySem.W.Fast.tw5355552785877309655:=0
def PySem.W.Fast.tw3711363523025262812:=0
def PySem.W.Fast.tw16661236929788151329:=0
def PySem.W.Fast.tw1523697761125239160:=0
def PySem.W.Fast.tw6228433508925412789:=0
def PySem.W.Fast.tw17886754710830882587:=0
def PySem.W.Fast.tw10723359112341071163:=0
def PySem.W.Fast.tw554380860809391394:=0
def PySem.W.Fast.tw14019326063132507740:=0
def PySem.W.Fast.tw3385722125458216586:=0
def PySem.W.Fast.tw6151104536678868875:=0
def PySem.W.Fast.tw2484849165243860137:=0
def PySem.W.Fast.tw3505718320220009373:=0
def PySem.W.Fast.tw7527469445795479320:=0
def PySem.W.Fast.tw11985559598660504685:=0
def PySem.W.Fast.tw18371240026748548743:=0
def PySem.W.Fast.tw9534827648591035348:=0
def PySem.W.Fast.tw10922969755230165433:=0
def PySem.W.Fast.tw2938126647920829040:=0
def PySem.W.Fast.tw3231360664216491441:=0
def PySem.W.Fast.tw2117979298470946779:=0
def PySem.W.Fast.tw5619635403413308354:=0
def PySem.W.Fast.tw1655502441151623629:=0
def PySem.W.Fast.tw10923321024121427272:=0
def PySem.W.Fast.tw4558629356009958518:=0
def PySem.W.Fast.tw4754718192921575656:=0
def PySem.W.Fast.tw13139330125569989023:=0
def PySem.W.Fast.tw2266303725544594876:=0
def PySem.W.Fast.tw2531924289448394178:=0
def PySem.W.Fast.tw4854569826578724795:=0
def PySem.W.Fast.tw16224140020300641701:=0
def PySem.W.Fast.tw17847530353977603377:=0
def PySem.W.Fast.tw18416337543939048041:=0
def PySem.W.Fast.tw5272292396792354079:=0
def PySem.W.Fast.tw10473855364703962704:=0
def PySem.W.Fast.tw15597887334364025462:=0
def PySem.W.Fast.tw4340638808541316638:=0
def PySem.W.Fast.tw614423424129772745:=0
def PySem.W.Fast.tw9730979438510166171:=0
def PySem.W.Fast.tw10296201131752238414:=0
def PySem.W.Fast.tw14147303899438941797:=0
def PySem.W.Fast.tw15275571741110109770:=0
def PySem.W.Fast.tw15375424788827268462:=0
def PySem.W.Fast.tw13218184485914048662:=0
def PySem.W.Fast.tw17391537860879958569:=0
def PySem.W.Fast.tw13305591025849265342:=0
def PySem.W.Fast.tw719876873721453830:=0
def PySem.W.Fast.tw10170823491641169898:=0
def PySem.W.Fast.tw8419720570295576483:=0
def PySem.W.Fast.tw16855746166087895612:=0
def PySem.W.Fast.tw14037814779675928447:=0
def PySem.W.Fast.tw8235766231783042599:=0
def PySem.W.Fast.tw13737892683419126369:=0
def PySem.W.Fast.tw1912950850332363250:=0
def PySem.W.Fast.tw3354322846416639846:=0
def PySem.W.Fast.tw5003428693264744582:=0
def PySem.W.Fast.tw16136032739872331701:=0
def PySem.W.Fast.tw10196663125466593730:=0
def PySem.W.Fast.tw16054440709598792045:=0
def PySem.W.Fast.tw15018626897365113340:=0
def PySem.W.Fast.tw15396566432422890768:=0
def PySem.W.Fast.tw9498089603577065327:=0
set_option maxRecDepth 100000 in
set_option maxHeartbeats 0 in
theorem PySem.Challenge.cw_latewell_k32_things_at_chains_holds : PySem.Challenge.rw_latewell_k32_things_at_chains.Holds := by
 w_on;o_law;k_head;(case hw=>w_witness2)
 k_fill
 refine Fx.walk (l:=PySem.Challenge.rw_latewell_k32_things_at_chains) rfl rfl (λ w h Y=>PySem.W.kIn_of Y) ?F
 case F =>
  intro w mg fa h KX G hmg;refine' Fx.all_mk KX G hmg ?e1 ?e2 ?e3 ?e4 ?e5 ?e6 ?e7 ?e8 ?e9 ?e10 ?e11 ?e12 ?e13 ?e14 ?e15 ?e16 ?e17 ?e18 ?e19 ?e20 ?e21 ?e22 ?e23 ?e24 ?e25 ?e26 ?e27 ?e28 ?e29 ?lec11 ?lec1 ?y1 ?lec2 ?y2 ?lec3 ?y3 ?kl0 ?z1 ?z2 ?z3 ?z4 ?z5 ?z6 ?z7 ?z8 ?z9 ?z10 ?z11 ?z12 ?z13 ?z14 ?z15 ?z16 ?z17 ?z18 ?z19 ?z20
  all_goals try (refine' Fx.EntF.mk ?a ?l ?c ?k;(case a=>k_is);(case l=>k_is);(case c=>k_is);(case k=>k_is))
  (case y1=>k_is)
  (case y2=>k_is)
  (case y3=>k_is)
  (case lec1=>k_is)
  (case lec2=>k_is)
  (case lec3=>k_is)
  (case lec11=>k_is)
  (case kl0=>kernel_rfl)
  (case z1=>k_is)
  (case z2=>k_is)
  (case z3=>k_is)
  (case z4=>k_is)
  (case z5=>k_is)
  (case z6=>k_is)
  (case z7=>k_is)
  (case z8=>k_is)
  (case z9=>k_is)
  (case z10=>k_is)
  (case z11=>k_is)
  (case z12=>k_is)
  (case z13=>k_is)
  (case z14=>k_is)
  (case z15=>k_is)
  (case z16=>k_is)
  (case z17=>k_is)
  (case z18=>k_is)
  (case z19=>k_is)
  (case z20=>k_is)
