import PyProof.Rows.All
import Wide.All
import OpenK.AllK
import Wide.FinOn
import Lean
import PyProof.EqAt
import PyProof.EqKinds
import PyProof.TupleCall
import PySem.Sem
import PySem.Builtin.Int.W1All
import PyProof.StrBlockI
import PyProof.Rows.SortStr
import PyProof.TupleOfSeq
import PyProof.AttrMissHeap
import PyProof.TupleIter
import PyProof.DictUpdate
import PyProof.ListNew
import KE.KDictOf
import PyProof.StrBlock2
import KE.KDictLaws
import KE.KSortTup
import PyProof.Rows.SumAny
import PyProof.Rows.TupTab
import PyProof.DictItems
import KE.KPairComp
import PyProof.ListRange
import KE.KxMul
import PySem.Challenge.RW_latewell_k51_windows_turned_by_boxes
set_option Elab.async false
set_option linter.all false
set_option maxRecDepth 100000
set_option maxHeartbeats 4000000
noncomputable section
open PySem.W (Frag nsIn mg_of mg_none_of fnOf codeIn keepIn OpenLaw)
section
open PySem PyProof.Rows
abbrev qb:=@wpAny_bind
abbrev qc:=@wpAny_pure
abbrev qd:=@Heap.get?_push_of_some
abbrev qg:=@List.mem_cons_self
abbrev qh:=@List.mem_cons_of_mem
abbrev qi:=@Option.some.inj
abbrev qj:=@Nat.le_refl
abbrev qk:=@Heap.get?_push_size
abbrev qm:=@Heap.lt_size
abbrev qo:=@List.mem_append_right
abbrev qp:=@Nat.lt_of_lt_of_le
abbrev qr:=@Nat.ne_of_lt
theorem qt{α:Type _}{a b:α}{l:List α}(h:a∈b::l):a=b\/a∈l:=List.mem_cons.mp h
theorem qw{α:Type _}{a:α}{l k:List α}(h:a∈l++k):a∈l\/a∈k:=List.mem_append.mp h
end
namespace L2
open PySem PySem.Spec PyProof.Rows
abbrev Key:=Sum Int Str
noncomputable def ae8:Key->Value->Bool
 |.inl k,v=>Value.isInt k v
 |.inr x,v=>Value.isStrOf x v
noncomputable def bG3 (w:World):Key->Int
 |.inl k=>hashInt k
 |.inr x=>hashStr w x
theorem h_2:∀ {k:Key}{v:Value},ae8 k v=true->(∃ i t,k=Sum.inl i/\v=Value.int i t)\/(∃ x t,k=Sum.inr x/\v=Value.str x t)
 |.inl i,v,h=>by
  obtain⟨t,e⟩:=Value.isInt_shape (k:=i) (v:=v) h;exact .inl ⟨i,t,rfl,e⟩
 |.inr x,v,h=>by
  obtain⟨t,e⟩:=Value.isStrOf_shape (x:=x) (v:=v) h;exact .inr ⟨x,t,rfl,e⟩
theorem al6 (i:Int) (t:Tok):ae8 (.inl i) (.int i t)=true:=by simp[ae8,Value.isInt]
theorem al5 (x:Str) (t:Tok):ae8 (.inr x) (.str x t)=true:=by simp[ae8,Value.isStrOf]
theorem bb2 (a b:Int):decide ((Sum.inl a:Key)=Sum.inl b)=(a==b):=by
 by_cases e:a=b
 ·subst e;simp
 ·have h:¬ (Sum.inl a:Key)=Sum.inl b:=λ q=>e (Sum.inl.inj q)
  rw[decide_eq_false h];exact (beq_eq_false_iff_ne.mpr e).symm
theorem ba8 (a b:Str):decide ((Sum.inr a:Key)=Sum.inr b)=decide (a=b):=by
 by_cases e:a=b
 ·subst e;simp
 ·have h:¬ (Sum.inr a:Key)=Sum.inr b:=λ q=>e (Sum.inr.inj q)
  rw[decide_eq_false h,decide_eq_false e]
theorem bb1 (a:Int) (b:Str):decide ((Sum.inl a:Key)=Sum.inr b)=false:=decide_eq_false (λ q=>nomatch q)
theorem ba9 (a:Str) (b:Int):decide ((Sum.inr a:Key)=Sum.inl b)=false:=decide_eq_false (λ q=>nomatch q)
noncomputable def f_5 (prog:Program) (w:World):PySem.KeyKind prog w Key where
 is:=ae8
 hash:=bG3 w
 inj:=λ v a b ha hb=>by
  rcases h_2 ha with ⟨i,t,rfl,rfl⟩ | ⟨x,t,rfl,rfl⟩
  ·rcases h_2 hb with ⟨j,u,rfl,e⟩ | ⟨y,u,rfl,e⟩
   ·injection e with e1 _;rw[e1]
   ·exact nomatch e
  ·rcases h_2 hb with ⟨j,u,rfl,e⟩ | ⟨y,u,rfl,e⟩
   ·exact nomatch e
   ·injection e with e1 _;rw[e1]
 byValue:=λ k v h=>by
  rcases h_2 h with ⟨i,t,rfl,rfl⟩ | ⟨x,t,rfl,rfl⟩ <;> rfl
 pyHash:=λ z h=>by
  rcases h_2 z with ⟨i,t,rfl,rfl⟩ | ⟨x,t,rfl,rfl⟩
  ·exact wpAny_pyHash_int h
  ·exact wpAny_pyHash_str h
 eqBool:=λ O z h=>by
  rcases h_2 O with ⟨i,t,rfl,rfl⟩ | ⟨x,t,rfl,rfl⟩
  ·rcases h_2 z with ⟨j,u,rfl,rfl⟩ | ⟨y,u,rfl,rfl⟩
   ·rw[bb2] at h;exact wpAny_eqBool_int h
   ·rw[bb1] at h;exact SeqAt.EqAt.int_str i t y u _ _ _ _ h
  ·rcases h_2 z with ⟨j,u,rfl,rfl⟩ | ⟨y,u,rfl,rfl⟩
   ·rw[ba9] at h;exact SeqAt.EqAt.str_int x t j u _ _ _ _ h
   ·rw[ba8] at h;exact wpAny_eqBool_str h
 «strs»:=λ k x t v h=>by
  rcases h_2 h with ⟨i,u,rfl,e⟩ | ⟨y,u,rfl,e⟩
  ·exact nomatch e
  ·injection e with e1 _
   subst e1;cases v <;> rfl
theorem V_7 (prog:Program) (w:World) (i:Int) (t:Tok):(f_5 prog w).is (.inl i) (.int i t)=true:=al6 i t
theorem v_9 (prog:Program) (w:World) (x:Str) (t:Tok):(f_5 prog w).is (.inr x) (.str x t)=true:=al5 x t
inductive V where
 |non | bl (b:Bool) | int (i:Int) | str (x:Str) | byt (b:Array UInt8) | flt (b:UInt64) | ref (a:Addr) | ty (n:String)
 deriving DecidableEq
noncomputable def RelV:V->Value->Prop
 |.non,u=>u=Value.none
 |.bl b,u=>u=Value.bool b
 |.int i,u=>∃ t,u=Value.int i t
 |.str x,u=>∃ t,u=Value.str x t
 |.byt b,u=>∃ t,u=Value.bytes b t
 |.flt b,u=>∃ t,u=Value.float b t
 |.ref a,u=>u=Value.ref a
 |.ty n,u=>u=Value.type n
abbrev Vals:List V->List Value->Prop:=Paired RelV
theorem Vals.length {xs:List V}{z:List Value} (r:Vals xs z):xs.length=z.length:=Paired.length r
theorem Vals.get:∀ {xs:List V}{z:List Value}{i:Nat}{x:V},Vals xs z->xs[i]?=some x->∃ u,z[i]?=some u/\RelV x u
 |_,_,_,_,.nil,e=>by simp at e
 |_,_,0,_,.cons r _,e=>by simp at e;subst e;exact⟨_,rfl,r⟩
 |_,_,i+1,x,.cons _ t,e=>by
  obtain⟨u,h1,h2⟩:=Vals.get (i:=i) (x:=x) t (by simpa using e)
  exact⟨u,by simpa using h1,h2⟩
theorem Vals.set {x:V}{u:Value} (r:RelV x u):∀ {xs:List V}{z:List Value} (i:Nat),Vals xs z->Vals (xs.set i x) (z.set i u)
 |_,_,_,.nil=>.nil
 |_,_,0,.cons _ t=>.cons r t
 |_,_,i+1,.cons q t=>.cons q (Vals.set r i t)
theorem Vals.append:∀ {xs ys:List V}{O z:List Value},Vals xs O->Vals ys z->Vals (xs++ys) (O++z)
 |_,_,_,_,.nil,s=>s
 |_,_,_,_,.cons r t,s=>.cons r (Vals.append t s)
theorem Vals.take:∀ {xs:List V}{z:List Value} (n:Nat),Vals xs z->Vals (xs.take n) (z.take n)
 |_,_,0,_=>.nil
 |_,_,_+1,.nil=>.nil
 |_,_,n+1,.cons r t=>.cons r (Vals.take n t)
theorem Vals.drop:∀ {xs:List V}{z:List Value} (n:Nat),Vals xs z->Vals (xs.drop n) (z.drop n)
 |_,_,0,r=>r
 |_,_,_+1,.nil=>.nil
 |_,_,n+1,.cons _ t=>Vals.drop n t
noncomputable def RelO:Option V->Option Value->Prop
 |some v,some u=>RelV v u
 |none,none=>True
 |_,_=>False
noncomputable def KV {κ:Type}:List (κ×V)->List (κ×Value)->Prop:=Paired λ (p:κ×V) (q:κ×Value)=>p.1=q.1/\RelV p.2 q.2
noncomputable def kV:Key->V
 |.inl i=>.int i
 |.inr x=>.str x
inductive HO where
 |lst (xs:List V)
 |tup (xs:List V)
 |dK (kvs:List (Key×V)) | dT (kvs:List (List Key×V))
 |set (S:Int->Bool) (n:Nat)
 |ins (C dx:Addr) (fs:List (Str×V))
 |own (x:Addr)
 |xd (fs:List (Str×V))
 |met (f x:Addr)
 |rng (lo hi:Int)
 |frz (o:Obj) (u:HO)
 |tbl (ps:Array Value)
 |ext (φ:Program->World->Heap->Prop)
abbrev Hp:=Addr->Option HO
noncomputable def upd (H:Hp) (a:Addr) (o:HO):Hp:=λ b=>if b=a then some o else H b
theorem a_7 {H:Hp}{a:Addr}{o:HO}:upd H a o a=some o:=by unfold upd;rw[if_pos rfl]
theorem a_8 {H:Hp}{a b:Addr}{o:HO} (h:b≠a):upd H a o b=H b:=by unfold upd;rw[if_neg h]
theorem c_1 {H:Hp}{a b:Addr}{o:HO} (h:H a=some o) (h':H b=none):a≠b:=by
 intro e;subst e;rw[h] at h';cases h'
noncomputable def IsTuN (h:Heap) (a:Addr) (items:Array Value):Prop:=∃ o,h.get? a=some o ∧ o.cls=.type "tuple" ∧ (∃ n,o.data=.seq items n) ∧ o.dict=none
theorem IsTuN.tup {h:Heap}{a:Addr}{items:Array Value} (x:IsTuN h a items):IsTup h a items:=let ⟨o,p,q,⟨n,r⟩,_⟩:=x;⟨o,p,q,n,r⟩
theorem IsTuN.new (h:Heap) (items:Array Value):IsTuN (h.push {cls:=.type "tuple",data:=.seq items}) h.objs.size items:=⟨_,qk _ rfl,rfl,⟨0,rfl⟩,rfl⟩
section
variable (P:Program) (w:World)
noncomputable def ObjOk (H:Hp) (h:Heap) (a:Addr):HO->Prop
 |.lst xs=>xs.length ≤ sizeLine ∧ ∃ (O:List Value) (n:Nat),Vals xs O ∧ h.get? a=some {cls:=.type "list",data:=.seq O.toArray n}
 |.tup xs=>xs.length<=sizeLine/\∃ O:List Value,Vals xs O/\IsTuN h a O.toArray
 |.dK z=>z.length<=sizeLine/\(a==sysModules)=false/\∃ vs,KV z vs/\h.DictOf (f_5 P w) a vs
 |.dT z=>z.length<=sizeLine/\(a==sysModules)=false/\∃ xs:List (List Key×Addr×Value),
   Paired (λ (p:List Key×V) (q:List Key×Addr×Value)=>p.1=q.1/\H q.2.1=some (.tup (p.1.map kV))/\RelV p.2 q.2.2) z xs /\
   ∃ o es ep,h.get? a=some o/\o.ExactDict/\o.data=.dict es ep/\es.toList=xs.map (entryOfKey (tupleKind (f_5 P w)))/\(xs.map (·.1)).Nodup
 |.set S n=>h.SetOf (intKind P w) a S n
 |.ins C Z fs=>H Z=some (.own a)/\fs.length<=1000/\Z≠a/\h.get? a=some (PySem.W.instObj C Z) /\
   ∃ Y,h.Ns1 Z Y/\(∀ f,RelO (fs.lookup f) (Y f))/\PySem.Within Y (fs.map (·.1))
 |.own _=>∃ o,h.get? a=some o
 |.xd fs=>∃ Y,h.Ns1 a Y/\∀ f,RelO (fs.lookup f) (Y f)
 |.rng lo hi=>∃ t u v,h.get? a=some {cls:=.type "range",data:=.fields #[.int lo t,.int hi u,.int 1 v]}
 |.frz o u=>h.get? a=some o/\ObjOk H h a u
 |.tbl ps=>h.get? a=some {cls:=.none,data:=.fields ps}
 |.met f x=>h.get? a=some (PySem.W.methodObj (.ref f) (.ref x))
 |.ext φ=>φ P w h/\(∃ o,h.get? a=some o)/\∀ h1 h2:Heap,φ P w h1->(∀ o,h1.get? a=some o->h2.get? a=some o)->φ P w h2
noncomputable def HOk (H:Hp) (h:Heap):Prop:=∀ a o,H a=some o->ObjOk P w H h a o
end
section
variable {P:Program}{w:World}{H H':Hp}{h h':Heap}{a:Addr}{o:HO}
theorem ObjOk.lt (x:ObjOk P w H h a o):a<h.objs.size:=by
 cases o with
 |lst xs=>obtain⟨_,_,_,_,e⟩:=x;exact qm e
 |tup xs=>obtain⟨_,_,_,p⟩:=x;exact p.tup.lt
 |dK z=>obtain⟨_,_,_,_,o,_,_,e,_⟩:=x;exact qm e
 |dT z=>obtain⟨_,_,_,_,o,_,_,e,_⟩:=x;exact qm e
 |set S n=>obtain⟨o,_,_,_,e,_⟩:=x;exact qm e
 |ins C O fs=>obtain⟨_,_,_,e,_⟩:=x;exact qm e
 |own y=>obtain⟨_,e⟩:=x;exact qm e
 |xd fs=>obtain⟨_,⟨_,_,_,e,_⟩,_⟩:=x;exact qm e
 |rng lo hi=>obtain⟨_,_,_,e⟩:=x;exact qm e
 |frz Y u=>obtain⟨e,_⟩:=x;exact qm e
 |tbl ps=>exact qm (show h.get? a=some _ from x)
 |met f y=>exact qm (show h.get? a=some _ from x)
 |ext Z=>obtain⟨_,⟨_,e⟩,_⟩:=x;exact qm e
theorem Paired.mapP {α S:Type}{F G:α->S->Prop}:∀ {z:List α}{O:List S},Paired F z O->(∀ a b,F a b->G a b)->Paired G z O
 |_,_,.nil,_=>.nil
 |_,_,.cons r t,f=>.cons (f _ _ r) (Paired.mapP t f)
theorem ObjOk.stay (x:ObjOk P w H h a o) (k:∀ b u,(b=a\/H b=some (.own a))->h.get? b=some u->h'.get? b=some u)
  (ho:∀ b,H b=some (.own a)->H' b=some (.own a)) (ht:∀ b xs,H b=some (.tup xs)->H' b=some (.tup xs)):ObjOk P w H' h' a o:=by
 induction o with
 |lst xs=>obtain⟨z,Y,n,r,e⟩:=x;exact⟨z,Y,n,r,k _ _ (.inl rfl) e⟩
 |tup xs=>obtain⟨z,Y,r,O,e,c⟩:=x;exact⟨z,Y,r,O,k _ _ (.inl rfl) e,c⟩
 |dK Z=>obtain⟨z,y,vs,r,O,es,ep,e,c⟩:=x;exact⟨z,y,vs,r,O,es,ep,k _ _ (.inl rfl) e,c⟩
 |dT Z =>
  obtain⟨z,y,xs,r,O,es,ep,e,c⟩:=x;exact⟨z,y,xs,Paired.mapP r λ p q z=>⟨z.1,ht _ _ z.2.1,z.2.2⟩,O,es,ep,k _ _ (.inl rfl) e,c⟩
 |set S n=>obtain⟨O,es,ep,t,e,c⟩:=x;exact⟨O,es,ep,t,k _ _ (.inl rfl) e,c⟩
 |ins C dx fs =>
  obtain⟨d,z,ne,e,mA,⟨od,es,ep,e2,c⟩,r⟩:=x;exact⟨ho _ d,z,ne,k _ _ (.inl rfl) e,mA,⟨od,es,ep,k _ _ (.inr d) e2,c⟩,r⟩
 |own y=>obtain⟨O,e⟩:=x;exact⟨O,k _ _ (.inl rfl) e⟩
 |xd fs=>obtain⟨mA,⟨od,es,ep,e,c⟩,r⟩:=x;exact⟨mA,⟨od,es,ep,k _ _ (.inl rfl) e,c⟩,r⟩
 |rng lo hi=>obtain⟨t,u,v,e⟩:=x;exact⟨t,u,v,k _ _ (.inl rfl) e⟩
 |frz O u ih=>obtain⟨e,q⟩:=x;exact⟨k _ _ (.inl rfl) e,ih q⟩
 |tbl ps =>
  have e:h.get? a=some {cls:=.none,data:=.fields ps}:=x;show h'.get? a=some {cls:=.none,data:=.fields ps};exact k a _ (.inl rfl) e
 |met f y =>
  have e:h.get? a=some (PySem.W.methodObj (.ref f) (.ref y)):=x;show h'.get? a=some (PySem.W.methodObj (.ref f) (.ref y));exact k a _ (.inl rfl) e
 |ext φ=>obtain⟨p,⟨o,e⟩,st⟩:=x;exact⟨st _ _ p λ o q=>k _ _ (.inl rfl) q,⟨o,k _ _ (.inl rfl) e⟩,st⟩
theorem HOk.lt (x:HOk P w H h) (e:H a=some o):a<h.objs.size:=(x a o e).lt
theorem HOk.fresh (x:HOk P w H h) (e:h.objs.size<=a):H a=none:=by
 cases q:H a with
 |none=>rfl
 |some u=>exact absurd (qp (x.lt q) e) (Nat.lt_irrefl _)
theorem HOk.kept (x:HOk P w H h) (k:∀ b u,h.get? b=some u->h'.get? b=some u):HOk P w H h':=λ a o e =>
 (x a o e).stay (λ b u _ q=>k b u q) (λ _ q=>q) λ _ _ q=>q
theorem HOk.laid (x:HOk P w H h) (k:∀ b u,h.get? b=some u->h'.get? b=some u) (O:h.objs.size<=a) (new:ObjOk P w (upd H a o) h' a o):HOk P w (upd H a o) h':=λ b u e=>by
 have z:=x.fresh O
 by_cases hb:b=a
 ·subst hb;rw[a_7] at e;cases e;exact new
 ·rw[a_8 hb] at e
  exact (x b u e).stay (λ c v _ q=>k c v q) (λ c q=>by rw[a_8 (c_1 q z)];exact q) λ c xs q=>by rw[a_8 (c_1 q z)];exact q
end
noncomputable def Rd (H:Hp) (a:Addr) (u:HO):Prop:=H a=some u\/∃ o,H a=some (.frz o u)
theorem Rd.of {H:Hp}{a:Addr}{u:HO} (h:H a=some u):Rd H a u:=.inl h
theorem Rd.ok {P:Program}{w:World}{H:Hp}{h:Heap}{a:Addr}{u:HO} (r:Rd H a u) (x:HOk P w H h):ObjOk P w H h a u:=by
 rcases r with r | ⟨o,r⟩
 ·exact x a u r
 ·obtain⟨_,q⟩:=x a _ r
  exact q
noncomputable def Mut:Option HO->Prop
 |some (.lst _)=>True
 |some (.dK _)=>True
 |some (.dT _)=>True
 |some (.set _ _)=>True
 |some (.ins _ _ _)=>True
 |some (.ext _)=>True
 |_=>False
section
variable {P:Program}{w:World}{H:Hp}{h h':Heap}{x e:Addr}{o':HO}
theorem HOk.write (ok:HOk P w H h) (mu:Mut (H x)) (he:e=x\/H e=some (.own x)) (k:∀ b u,b≠e->h.get? b=some u->h'.get? b=some u) (aa:∃ u,h'.get? e=some u)
  (new:ObjOk P w (upd H x o') h' x o'):HOk P w (upd H x o') h':=λ b u q=>by
 have S:∀ c y,H c=some (.own y)->c≠x:=λ c y r z=>by subst z;rw[r] at mu;exact mu
 have Y:∀ c xs,H c=some (.tup xs)->c≠x:=λ c xs r z=>by subst z;rw[r] at mu;exact mu
 by_cases hb:b=x
 ·subst hb;rw[a_7] at q;cases q;exact new
 ·rw[a_8 hb] at q
  by_cases O:b=e
  ·have q':H b=some (.own x):=by
    rcases he with z | z
    ·exact absurd (O.trans z) hb
    ·rw[O];exact z
   rw[q] at q';cases q';obtain⟨v,hv⟩:=aa;exact⟨v,by rw[O];exact hv⟩
  ·refine (ok b u q).stay (λ c v Z r=>k c v ?_ r) (λ c r=>by rw[a_8 (S c b r)];exact r) λ c xs r=>by rw[a_8 (Y c xs r)];exact r
   rcases Z with rfl | Z
   ·exact O
   ·rintro rfl
    rcases he with z | z
    ·exact S c b Z z
    ·rw[Z] at z;cases z;exact hb rfl
end
structure Un (fs ex:List Addr) (H H':Hp) (h h':Heap):Prop where
 keep:∀ b o,h.get? b=some o->H b=none->b∉fs->b∉ex->h'.get? b=some o
 slot:∀ b o,h.get? b=some o->H b=none->b∈fs->b∉ex->∃ sl,h'.get? b=some {o with slots:=sl}
 free:∀ b o,h.get? b=some o->H b=none->b∉ex->H' b=none
 there:∀ b o,h.get? b=some o->b∉ex->∃ o',h'.get? b=some o'
 tups:∀ b xs,H b=some (.tup xs)->H' b=some (.tup xs)
 frzs:∀ b o u,H b=some (.frz o u)->H' b=some (.frz o u)
 tbls:∀ b ps,H b=some (.tbl ps)->∃ more,H' b=some (.tbl (ps++more))
section
variable {fs fs' ex ex':List Addr}{H H1 H2:Hp}{h h1 h2 h':Heap}{a x e:Addr}{o:HO}
theorem Un.any (u:Un fs ex H H1 h h1) {b:Addr}{z:Obj} (q:h.get? b=some z) (n:H b=none) (O:b∉ex):∃ S,h1.get? b=some {z with slots:=S}:=by
 by_cases hb:b∈fs
 ·exact u.slot b z q n hb O
 ·exact⟨z.slots,u.keep b z q n hb O⟩
theorem Un.kept (k:∀ b u,h.get? b=some u->h'.get? b=some u):Un fs ex H H h h' :=
 ⟨λ b z q _ _ _=>k b z q,λ b z q _ _ _=>⟨z.slots,k b z q⟩,λ _ _ _ n _=>n,λ b z q _=>⟨z,k b z q⟩,λ _ _ q=>q,λ _ _ _ q=>q,λ _ ps q=>⟨#[],by rw[q];simp⟩⟩
theorem Un.refl:Un fs ex H H h h:=Un.kept λ _ _ q=>q
theorem Un.laid (k:∀ b u,h.get? b=some u->h'.get? b=some u) (O:h.objs.size<=a) (z:H a=none):Un fs ex H (upd H a o) h h' where
 keep:=λ b u q _ _ _=>k b u q
 slot:=λ b u q _ _ _=>⟨u.slots,k b u q⟩
 free:=λ b u q n _=>by rw[a_8 (Nat.ne_of_lt (Nat.lt_of_lt_of_le (Heap.lt_size q) O))];exact n
 there:=λ b u q _=>⟨u,k b u q⟩
 tups:=λ b xs q=>by rw[a_8 (c_1 q z)];exact q
 frzs:=λ b u xs q=>by rw[a_8 (c_1 q z)];exact q
 tbls:=λ b ps q=>⟨#[],by rw[a_8 (c_1 q z),q];simp⟩
theorem Un.write (S:Mut (H x)) (he:e=x\/H e=some (.own x)) (k:∀ b u,b≠e->h.get? b=some u->h'.get? b=some u) (Z:∃ u,h'.get? e=some u):Un fs ex H (upd H x o) h h':=by
 have hx:∀ b,H b=none->b≠x:=λ b n z=>by subst z;rw[n] at S;exact S
 have hb:∀ b,H b=none->b≠e:=λ b n z=>by
  subst z
  rcases he with r | r
  ·exact hx b n r
  ·rw[n] at r;cases r
 have Y:∀ b u,H b=some u->¬ Mut (some u)->b≠x:=λ b u q nm z=>by subst z;rw[q] at S;exact nm S
 refine⟨λ b u q n _ _=>k b u (hb b n) q,λ b u q n _ _=>⟨u.slots,k b u (hb b n) q⟩,λ b u q n _=>by rw[a_8 (hx b n)];exact n,λ b u q _=>?_,
  λ b xs q=>by rw[a_8 (Y b _ q λ z=>z)];exact q,λ b u xs q=>by rw[a_8 (Y b _ q λ z=>z)];exact q,λ b ps q=>⟨#[],by rw[a_8 (Y b _ q λ z=>z),q];simp⟩⟩
 by_cases O:b=e
 ·subst O;exact Z
 ·exact⟨u,k b u O q⟩
theorem Un.mono (u:Un fs ex H H1 h h1) (Z:∀ b∈fs,b∈fs') (Y:∀ b∈ex,b∈ex'):Un fs' ex' H H1 h h1 :=
 ⟨λ b S q n hb O=>u.keep b S q n (λ z=>hb (Z b z)) λ z=>O (Y b z),λ _ _ q n _ O=>u.any q n λ z=>O (Y _ z),λ b S q n O=>u.free b S q n λ z=>O (Y b z),λ b S q O=>u.there b S q λ z=>O (Y b z),u.tups,u.frzs,u.tbls⟩
end
noncomputable def trk (h:Heap) (H:Hp):List Addr:=(List.range h.objs.size).filter λ a=>(H a).isSome
noncomputable def ax0 (h:Heap) (H:Hp):Heap:=PySem.W.hideAll h (trk h H)
theorem am5 (h:Heap) (H:Hp):(ax0 h H).objs.size=h.objs.size:=PySem.W.hideAll_size _ _
theorem aw9 {h:Heap}{H:Hp}{b:Addr}{o:Obj} (e:h.get? b=some o) (n:H b=none):(ax0 h H).get? b=some o :=
 PySem.W.hideAll_get _ e λ z=>by
  have q:(H b).isSome=true:=(List.mem_filter.mp z).2;rw[n] at q;simp at q
theorem aI9 {h:Heap}{H:Hp}{b:Addr}{o:Obj} (e:(ax0 h H).get? b=some o):h.get? b=some o/\H b=none:=by
 have e':h.get? b=some o:=PySem.W.of_hideAll (trk h H) e;refine⟨e',?_⟩;cases q:H b with
 |none=>rfl
 |some x =>
  have O:b∈trk h H:=List.mem_filter.mpr ⟨List.mem_range.mpr (qm e'),by simp[q]⟩
  have z:(ax0 h H).get? b=none:=PySem.W.hideAll_none (trk h H) O;rw[z] at e;cases e
noncomputable def aP6 (g h:Heap) (L:Addr):List (Addr×Obj):=(List.range h.objs.size).filterMap λ a=>if a=L\/(g.get? a).isSome=true then none else (h.get? a).map λ o=>(a,o)
noncomputable def rest (g h:Heap) (L d:Addr):List (Addr×Obj):=(aP6 g h L).filter λ p=>decide (p.1≠d)
structure Mod (K:Frag) (mg:Str->Option Value) (base:Heap):Prop where
 kin:K.In base
 glob:base.Ns mainGlobals mg
 blt:∃ mb,base.Ns builtinsNs mb ∧ ∀ x:Str,x≠"__name__" → mb x=bootBuiltins x
 nolimit:base.NoLimit
structure Cx where
 prog:Program
 w:World
 K:Frag
 mg:Str->Option Value
 base:Heap
 A:Around
 N:List Str
 s₀:Shared
 H₀:Hp
 env:Env
 outer:List Env
 stack:List Env
 ex:List Addr
 fn:Str->Bool
 calm:Bool
 pn:List (Addr×Obj)
 xe:Value->Shared->Prop
noncomputable def frs (l:List Env):List Addr:=l.filterMap (·.frame)
abbrev Cx.fs (X:Cx):List Addr:=frs X.outer
noncomputable def Vis (sc:Scope) (x:Str):Prop:=sc.names.lookup x=some .local\/sc.names.lookup x=some .cell\/sc.names.lookup x=some .free
noncomputable def Loc (sc:Scope) (x:Str):Prop:=sc.names.lookup x=some .local\/sc.names.lookup x=some .cell
noncomputable def bK1 (env:Env) (h:Heap) (m:Str->Option Value) (x:Str) (u:Value):Prop :=
 (env.kindOf x=some .local/\m x=some u)\/((env.kindOf x=some .cell\/env.kindOf x=some .free)/\∃ c,env.cells.lookup x=some c/\h.IsCell c (some u))
structure Cx.Ok (X:Cx):Prop where
 mod:Mod X.K X.mg X.base
 kind:X.env.scope.kind=.function
 glob:X.env.globals=mainGlobals
 blt:X.env.builtins=builtinsNs
 above:X.s₀.heap.objs.size<=X.env.locals
 inj:∀ x y c,X.env.cells.lookup x=some c->X.env.cells.lookup y=some c->x=y
 has:∀ x,(X.env.kindOf x=some .cell\/X.env.kindOf x=some .free)->∃ c,X.env.cells.lookup x=some c
 cab:∀ x c,X.fn x=true->X.env.cells.lookup x=some c->X.s₀.heap.objs.size<=c
 hd:X.calm=true->X.A.handled=none
 frames:X.A.frames=some X.stack
 stk:X.stack=X.outer\/(X.stack=X.env::X.outer/\X.env.frame=some X.env.locals)
 exf:∀ b∈X.ex,b≠X.env.locals/\∀ x c,X.env.cells.lookup x=some c->c≠b
 bs:∀ b o,X.base.get? b=some o->X.s₀.heap.get? b=some o/\X.H₀ b=none
 bsz:X.base.objs.size<=X.s₀.heap.objs.size
 noex:∀ b o,X.base.get? b=some o->b∉X.ex
 exfs:∀ b∈X.ex,b∉X.fs
 funs:X.s₀.heap.FunFrames X.base X.outer
 frf:∀ b∈X.fs,X.H₀ b=none
structure Inv (X:Cx) (pins:List (Addr×Obj)) (σ:List (Option V)) (H:Hp) (s:Shared):Prop where
 ok:X.Ok
 os:s.os=X.s₀.os
 bare:AllBare s.gens
 base:Un X.fs X.ex X.H₀ H X.s₀.heap s.heap
 loc:∃ m,s.heap.Ns X.env.locals m/\∀ (i:Nat) (x:Str) (v:V),X.N[i]?=some x->σ[i]?=some (some v)->Vis X.env.scope x->∃ u,RelV v u/\bK1 X.env s.heap m x u
 cell:∀ x c,X.env.cells.lookup x=some c->∃ v,s.heap.IsCell c v
 free:H X.env.locals=none
 freeC:∀ x c,X.env.cells.lookup x=some c->H c=none
 pin:∀ p∈X.pn++pins,s.heap.get? p.1=some p.2/\H p.1=none/\p.1≠X.env.locals/\p.1∉X.fs/\∀ v,p.2.data≠.cell v
 hok:HOk X.prog X.w H s.heap
 len:σ.length=X.N.length
section
variable {X:Cx}{pins:List (Addr×Obj)}{σ:List (Option V)}{H H':Hp}{s:Shared}{h':Heap}
theorem Cx.Ok.nofr (ok:X.Ok) {b:Addr}{o:Obj} (e:X.base.get? b=some o):b∉X.fs:=λ hb=>by
 have:=(ok.funs.mem hb).1;rw[e] at this;cases this
theorem Inv.bs (I:Inv X pins σ H s):∀ b o,X.base.get? b=some o->s.heap.get? b=some o/\H b=none:=λ b o e =>
 ⟨I.base.keep b o (I.ok.bs b o e).1 (I.ok.bs b o e).2 (I.ok.nofr e) (I.ok.noex b o e),I.base.free b o (I.ok.bs b o e).1 (I.ok.bs b o e).2 (I.ok.noex b o e)⟩
theorem Inv.bk (I:Inv X pins σ H s):∀ b o,X.base.get? b=some o->s.heap.get? b=some o:=λ b o e=>(I.bs b o e).1
theorem Inv.mod (I:Inv X pins σ H s):Mod X.K X.mg X.base:=I.ok.mod
theorem Inv.kIn (I:Inv X pins σ H s):X.K.In s.heap:=I.ok.mod.kin.keeps I.bk
theorem Inv.nolimit (I:Inv X pins σ H s):s.heap.NoLimit:=I.ok.mod.nolimit.keeps I.bk
theorem Inv.fr (I:Inv X pins σ H s):∃ m,Fr X.base X.env.locals s.heap m :=
 let ⟨m,hn,_⟩:=I.loc
 ⟨m,hn,I.bk,Nat.le_trans I.ok.bsz I.ok.above⟩
theorem Inv.lt (I:Inv X pins σ H s):X.env.locals<s.heap.objs.size:=let ⟨_,hn,_⟩:=I.loc;hn.lt
theorem Inv.sz (I:Inv X pins σ H s):X.s₀.heap.objs.size<=s.heap.objs.size:=Nat.le_trans I.ok.above (Nat.le_of_lt I.lt)
theorem Inv.nofs (I:Inv X pins σ H s) {a:Addr} (h:s.heap.objs.size<=a):a∉X.fs:=λ hb=>by
 obtain⟨_,o,z,_⟩:=I.ok.funs.mem hb;exact absurd (qp (qm z) (Nat.le_trans I.sz h)) (Nat.lt_irrefl _)
theorem Inv.cne (I:Inv X pins σ H s):∀ x c,X.env.cells.lookup x=some c->c≠X.env.locals:=λ x c e z=>by
 obtain⟨v,o,Z,Y⟩:=I.cell x c e;obtain⟨m,⟨o',es,ep,S,O,_⟩,_⟩:=I.loc;rw[z,S] at Z;cases Z;rw[O] at Y;cases Y
theorem Inv.funs (I:Inv X pins σ H s):s.heap.FunFrames X.base X.outer:=by
 have all:∀ (l:List Env),(∀ b∈frs l,b∈X.fs)->X.s₀.heap.FunFrames X.base l->s.heap.FunFrames X.base l:=by
  intro l
  induction l with
  |nil=>intro _ _;trivial
  |cons env r Y =>
   intro S hl;obtain⟨hk,⟨L,o,hf,Z,ho,hd⟩,hr⟩:=hl;have O:L∈X.fs:=S L (by unfold frs;rw[List.filterMap_cons,hf];exact qg)
   obtain⟨sl,e⟩:=I.base.slot L o ho (I.ok.frf L O) O λ z=>I.ok.exfs L z O
   exact⟨hk,⟨L,_,hf,Z,e,hd⟩,Y (λ b hb=>S b (by unfold frs;rw[List.filterMap_cons,hf];exact qh _ hb)) hr⟩
 exact all X.outer (λ _ hb=>hb) I.ok.funs
theorem Inv.stack (I:Inv X pins σ H s):s.heap.FunFrames X.base X.stack:=by
 rcases I.ok.stk with e | ⟨e,hf⟩
 ·rw[e];exact I.funs
 ·rw[e]
  obtain⟨m,z,_⟩:=I.loc;refine .cons (by rw[I.ok.kind];decide) hf z ?_ I.funs
  exact Heap.get?_none_of_le (Nat.le_trans I.ok.bsz I.ok.above)
theorem Inv.stkSub (I:Inv X pins σ H s):∀ b∈frs X.stack,b∈X.env.locals::X.fs:=λ b hb=>by
 rcases I.ok.stk with e | ⟨e,hf⟩
 ·rw[e] at hb;exact qh _ hb
 ·rw[e] at hb
  unfold frs at hb;rw[List.filterMap_cons,hf] at hb;exact hb
theorem Inv.stkFree (I:Inv X pins σ H s):∀ b∈frs X.stack,H b=none:=λ b hb=>by
 rcases qt (I.stkSub b hb) with e | hb
 ·rw[e];exact I.free
 ·obtain⟨_,o,O,_⟩:=I.ok.funs.mem hb
  exact I.base.free b o O (I.ok.frf b hb) λ z=>I.ok.exfs b z hb
theorem Inv.step {g':Array GenState}{t':Nat}{d':Drawn}{ch:List Addr} (I:Inv X pins σ H s)
  (S:∀ b∈ch,(b∈X.ex\/X.s₀.heap.objs.size<=b)/\b≠X.env.locals/\(∀ x c,X.env.cells.lookup x=some c->c≠b)/\∀ p∈X.pn++pins,p.1≠b)
  (keep:∀ b o,b≠X.env.locals->b∉X.fs->b∉ch->s.heap.get? b=some o->H b=none->h'.get? b=some o)
  (slot:∀ b o,b≠X.env.locals->b∈X.fs->b∉ch->s.heap.get? b=some o->H b=none->∃ sl,h'.get? b=some {o with slots:=sl}) (free:∀ b o,b∉ch->s.heap.get? b=some o->H b=none->H' b=none)
  (there:∀ b o,b∉ch->s.heap.get? b=some o->∃ o',h'.get? b=some o')
  (tups:∀ b xs,H b=some (.tup xs)->H' b=some (.tup xs)) (frzs:∀ b o u,H b=some (.frz o u)->H' b=some (.frz o u)) (tbls:∀ b ps,H b=some (.tbl ps)->∃ ad,H' b=some (.tbl (ps++ad)))
  (ns:∀ m,s.heap.Ns X.env.locals m->h'.Ns X.env.locals m) (ae:HOk X.prog X.w H' h') (hg:AllBare g') :
  Inv X pins σ H' {s with heap:=h',gens:=g',drawn:=d',toks:=t'}:=by
 have ab:∀ b o,X.s₀.heap.get? b=some o->b≠X.env.locals:=λ b o e=>qr (qp (qm e) I.ok.above)
 have aa:∀ b o,X.s₀.heap.get? b=some o->b∉X.ex->b∉ch:=λ b o e O hb=>by
  rcases (S b hb).1 with z | z
  ·exact O z
  ·exact absurd (qp (qm e) z) (Nat.lt_irrefl _)
 have Z:∀ x c,X.env.cells.lookup x=some c->∀ v,s.heap.IsCell c v->h'.IsCell c v:=λ x c e v ac=>by
  obtain⟨o,ho,hd⟩:=ac;have Y:c∉ch:=λ z=>(S c z).2.2.1 x c e rfl
  by_cases hc:c∈X.fs
  ·obtain⟨sl,q⟩:=slot c o (I.cne x c e) hc Y ho (I.freeC x c e)
   exact⟨_,q,hd⟩
  ·exact⟨o,keep c o (I.cne x c e) hc Y ho (I.freeC x c e),hd⟩
 refine⟨I.ok,I.os,hg,⟨λ b o e n hb O=>?_,λ b o e n hb O=>?_,λ b o e n O=>?_,λ b o e O=>?_,λ b xs e=>tups b xs (I.base.tups b xs e),λ b o xs e=>frzs b o xs (I.base.frzs b o xs e),λ b ps e=>?_⟩,?_,λ x c e=>?_,?_,λ x c e=>?_,λ p hp=>?_,ae,I.len⟩
 ·exact keep b o (ab b o e) hb (aa b o e O) (I.base.keep b o e n hb O) (I.base.free b o e n O)
 ·obtain⟨sl,e1⟩:=I.base.slot b o e n hb O
  obtain⟨af,e2⟩:=slot b _ (ab b o e) hb (aa b o e O) e1 (I.base.free b o e n O);exact⟨af,e2⟩
 ·obtain⟨o',e1⟩:=I.base.there b o e O
  exact free b o' (aa b o e O) e1 (I.base.free b o e n O)
 ·obtain⟨o',e1⟩:=I.base.there b o e O
  exact there b o' (aa b o e O) e1
 ·obtain⟨m1,e1⟩:=I.base.tbls b ps e
  obtain⟨m2,e2⟩:=tbls b _ e1;exact⟨m1++m2,by rw[e2,Array.append_assoc]⟩
 ·obtain⟨m,hn,hl⟩:=I.loc
  refine⟨m,ns m hn,λ i x v e1 e2 e3=>?_⟩
  obtain⟨u,r,l⟩:=hl i x v e1 e2 e3;refine⟨u,r,?_⟩
  rcases l with l | ⟨k,c,e,z⟩
  ·exact .inl l
  ·exact .inr ⟨k,c,e,Z x c e _ z⟩
 ·obtain⟨v,z⟩:=I.cell x c e
  exact⟨v,Z x c e v z⟩
 ·obtain⟨m,⟨o,_,_,ho,_⟩,_⟩:=I.loc
  exact free _ o (λ z=>(S _ z).2.1 rfl) ho I.free
 ·obtain⟨v,o,ho,hd⟩:=I.cell x c e
  exact free c o (λ z=>(S c z).2.2.1 x c e rfl) ho (I.freeC x c e)
 ·obtain⟨e,n,ne,nf,d⟩:=I.pin p hp
  have Y:p.1∉ch:=λ z=>(S p.1 z).2.2.2 p hp rfl
  exact⟨keep p.1 p.2 ne nf Y e n,free p.1 p.2 Y e n,ne,nf,d⟩
theorem Inv.un {t':Nat} (I:Inv X pins σ H s) (u:Un X.fs [] H H' s.heap h') (S:HOk X.prog X.w H' h'):Inv X pins σ H' {s with heap:=h',toks:=t'}:=by
 obtain⟨m,⟨o,es,ep,ho,r⟩,_⟩:=id I.loc;obtain⟨sl,hL⟩:=u.any ho I.free (by simp)
 exact I.step (g':=s.gens) (d':=s.drawn) (ch:=[]) (λ _ z=>nomatch z) (λ b o _ hb _ e n=>u.keep b o e n hb (by simp)) (λ b o _ hb _ e n=>u.slot b o e n hb (by simp)) (λ b o _ e n=>u.free b o e n (by simp)) (λ b o _ e=>u.there b o e (by simp)) u.tups u.frzs u.tbls (λ m' hm=>by
  obtain⟨o',Y,Z,O,r'⟩:=hm;rw[ho] at O;cases O;exact⟨_,Y,Z,hL,r'⟩) S I.bare
theorem Inv.call {g':Array GenState}{t':Nat}{d':Drawn}{ch:List Addr} (I:Inv X pins σ H s) (u:Un (frs X.stack) ch H H' s.heap h') (aa:HOk X.prog X.w H' h') (hg:AllBare g')
  (S:∀ b∈ch,(b∈X.ex\/X.s₀.heap.objs.size<=b)/\b≠X.env.locals/\(∀ x c,X.env.cells.lookup x=some c->c≠b)/\∀ p∈X.pn++pins,p.1≠b) :
  Inv X pins σ H' {s with heap:=h',gens:=g',drawn:=d',toks:=t'}:=by
 obtain⟨m,⟨o,es,ep,ho,r⟩,_⟩:=id I.loc;obtain⟨sl,Z⟩:=u.any ho I.free λ z=>(S _ z).2.1 rfl
 exact I.step (ch:=ch) S (λ b o Z hb O e n=>u.keep b o e n (λ z=>(qt (I.stkSub b z)).elim Z hb) O) (λ b o _ _ O e n=>u.any e n O) (λ b o O e n=>u.free b o e n O) (λ b o O e=>u.there b o e O) u.tups u.frzs u.tbls (λ m' hm=>by
  obtain⟨o',ab,ac,Y,r'⟩:=hm;rw[ho] at Y;cases Y;exact⟨_,ab,ac,Z,r'⟩) aa hg
theorem Inv.turned {t':Nat}{it:Addr} (I:Inv X pins σ H s) (k:∀ b o,b≠it->s.heap.get? b=some o->h'.get? b=some o) (hn:H it=none) (Y:it≠X.env.locals)
  (h1:it∈X.ex\/X.s₀.heap.objs.size<=it) (h2:∀ x c,X.env.cells.lookup x=some c->c≠it) (Z:∀ p∈X.pn++pins,p.1≠it):Inv X pins σ H {s with heap:=h',toks:=t'}:=by
 have S:∀ b u,H b=some u->b≠it:=λ b u e z=>by rw[z,hn] at e;cases e
 refine I.step (g':=s.gens) (d':=s.drawn) (ch:=[it]) (λ b hb=>?_) (λ b o _ _ O e _=>k b o (λ z=>O (by simp[z])) e) (λ b o _ _ O e _=>⟨o.slots,k b o (λ z=>O (by simp[z])) e⟩) (λ _ _ _ _ n=>n)
  (λ b o O e=>⟨o,k b o (λ z=>O (by simp[z])) e⟩) (λ _ _ e=>e) (λ _ _ _ e=>e) (λ b ps e=>⟨#[],by rw[e];simp⟩) (λ m hm=>?_) (λ b u e=>?_) I.bare
 ·have e:b=it:=by simpa using hb
  subst e;exact⟨h1,Y,h2,Z⟩
 ·obtain⟨o,es,ep,ho,r⟩:=hm
  exact⟨o,es,ep,k _ o (Ne.symm Y) ho,r⟩
 ·refine (I.hok b u e).stay (λ c v O q=>k c v ?_ q) (λ _ q=>q) λ _ _ q=>q
  rcases O with z | z
  ·rw[z];exact S b u e
  ·exact S c _ z
theorem Inv.tok (I:Inv X pins σ H s) (t:Nat):Inv X pins σ H {s with toks:=t}:=I.un (h':=s.heap) (t':=t) Un.refl I.hok
theorem Inv.kept {t':Nat} (I:Inv X pins σ H s) (k:∀ b u,s.heap.get? b=some u->h'.get? b=some u):Inv X pins σ H {s with heap:=h',toks:=t'}:=I.un (Un.kept k) (I.hok.kept k)
theorem Inv.laid {a:Addr}{o:HO}{t':Nat} (I:Inv X pins σ H s) (k:∀ b u,s.heap.get? b=some u->h'.get? b=some u) (z:s.heap.objs.size<=a) (new:ObjOk X.prog X.w (upd H a o) h' a o) :
  Inv X pins σ (upd H a o) {s with heap:=h',toks:=t'}:=I.un (Un.laid k z (I.hok.fresh z)) (I.hok.laid k z new)
theorem Inv.write {x e:Addr}{o:HO}{t':Nat} (I:Inv X pins σ H s) (S:Mut (H x)) (O:e=x\/H e=some (.own x)) (k:∀ b u,b≠e->s.heap.get? b=some u->h'.get? b=some u) (z:∃ u,h'.get? e=some u)
  (new:ObjOk X.prog X.w (upd H x o) h' x o):Inv X pins σ (upd H x o) {s with heap:=h',toks:=t'}:=I.un (Un.write S O k z) (I.hok.write S O k z new)
theorem Inv.weak {z:List (Option V)} (I:Inv X pins σ H s) (hl:z.length=σ.length) (w:∀ (i:Nat) v,z[i]?=some (some v)->σ[i]?=some (some v)):Inv X pins z H s :=
 ⟨I.ok,I.os,I.bare,I.base,let ⟨m,hn,hl'⟩:=I.loc;⟨m,hn,λ i x v e1 e2 e3=>hl' i x v e1 (w i v e2) e3⟩,I.cell,I.free,I.freeC,I.pin,I.hok,hl.trans I.len⟩
theorem Inv.pins_of {O:List (Addr×Obj)} (I:Inv X pins σ H s) (h:∀ p∈O,s.heap.get? p.1=some p.2/\H p.1=none/\p.1≠X.env.locals/\p.1∉X.fs/\∀ v,p.2.data≠.cell v):Inv X O σ H s :=
 ⟨I.ok,I.os,I.bare,I.base,I.loc,I.cell,I.free,I.freeC,λ p S=>(qw S).elim (λ z=>I.pin p (List.mem_append_left _ z)) (h p),I.hok,I.len⟩
theorem aa3 {N:List Str} (z:N.Nodup) {i j:Nat}{x:Str} (a:N[i]?=some x) (b:N[j]?=some x):i=j:=by
 obtain⟨h1,e1⟩:=List.getElem?_eq_some_iff.mp a;obtain⟨h2,e2⟩:=List.getElem?_eq_some_iff.mp b;exact (List.getElem_inj z).mp (e1.trans e2.symm)
theorem O_7 {M:Model}{A:Around}{E:Value->Shared->Prop}{i:Nat}{x:Str}{v:V}{u:Value}{Q:Unit->Shared->Prop} (I:Inv X pins σ H s) (hN:X.N.Nodup) (hi:X.N[i]?=some x) (Z:Loc X.env.scope x) (r:RelV v u)
  (h:∀ s',Inv X pins (σ.set i (some v)) H s'->(∃ a,Heap.SameBut a s.heap s'.heap/\(a=X.env.locals\/X.env.cells.lookup x=some a))->Q () s') (hf:X.fn x=true\/X.env.scope.names.lookup x=some .local:=by first | exact .inl rfl | exact .inr rfl | assumption):wpAny M A (storeName X.env x u) Q E s:=by
 obtain⟨m,hn,hl⟩:=id I.loc;have ah:(X.env.scope.kind==.class||(X.env.scope.kind==.module&&X.env.locals != X.env.globals))=false:=by rw[I.ok.kind];rfl
 have ab:i<σ.length:=by rw[I.len];exact (List.getElem?_eq_some_iff.mp hi).1
 have cne:=I.cne
 have S:∀ {a:Addr}{h':Heap},(∃ o,s.heap.get? a=some o/\H a=none)->Heap.SameBut a s.heap h'->HOk X.prog X.w H h':=λ {a h'} ha O b ob e=>by
  obtain⟨_,_,aa⟩:=ha;refine (I.hok b ob e).stay (λ c w' Y q=>(O.2 c ?_).trans q) (λ _ q=>q) λ _ _ q=>q
  rintro rfl
  rcases Y with rfl | Y
  ·rw[aa] at e;cases e
  ·rw[aa] at Y;cases Y
 rcases Z with hk | hk
 ·refine wpAny_storeName_local hk hn (λ h' aj O=>?_) ah
  obtain⟨oL,_,_,ai,_⟩:=id hn;refine h _ ⟨I.ok,I.os,I.bare,⟨λ b o e n hb Z=>?_,λ b o e n hb Z=>?_,I.base.free,λ b o e Z=>?_,I.base.tups,I.base.frzs,I.base.tbls⟩,⟨_,aj,λ j y v' e1 e2 e3=>?_⟩,λ y c e=>?_,I.free,I.freeC,λ p hp=>?_,S ⟨oL,ai,I.free⟩ O,by simpa using I.len⟩ ⟨_,O,.inl rfl⟩
  ·exact (O.2 b (qr (qp (qm e) I.ok.above))).trans (I.base.keep b o e n hb Z)
  ·obtain⟨sl,e1⟩:=I.base.slot b o e n hb Z
   exact⟨sl,(O.2 b (qr (qp (qm e) I.ok.above))).trans e1⟩
  ·obtain⟨o',e1⟩:=I.base.there b o e Z
   exact⟨o',(O.2 b (qr (qp (qm e) I.ok.above))).trans e1⟩
  ·by_cases hj:j=i
   ·subst hj
    rw[hi] at e1;cases e1;rw[List.getElem?_set_self ab] at e2;cases e2;exact⟨u,r,.inl ⟨hk,by simp⟩⟩
   ·rw[List.getElem?_set_ne (Ne.symm hj)] at e2
    obtain⟨u',r',q⟩:=hl j y v' e1 e2 e3;refine⟨u',r',?_⟩
    rcases q with ⟨k,e⟩ | ⟨k,c,e,z⟩
    ·refine .inl ⟨k,?_⟩
     have:y≠x:=λ e=>hj (aa3 hN e1 (e▸hi))
     simp[this,e]
    ·exact .inr ⟨k,c,e,z.sameBut O (cne y c e)⟩
  ·obtain⟨w',z⟩:=I.cell y c e
   exact⟨w',z.sameBut O (cne y c e)⟩
  ·obtain⟨e,n,ne,nf,d⟩:=I.pin p hp
   exact⟨(O.2 p.1 ne).trans e,n,ne,nf,d⟩
 ·have ac:X.fn x=true:=by
   rcases hf with z | z
   ·exact z
   ·rw[z] at hk;cases hk
  obtain⟨c,Y⟩:=I.ok.has x (.inl hk);obtain⟨w',z⟩:=I.cell x c Y;refine wpAny_storeName_cell I.ok.kind hk Y z (λ h' af O=>?_)
  obtain⟨oc,ae,ad⟩:=id z;refine h {s with heap:=h'} ⟨I.ok,I.os,I.bare,⟨λ b o e n hb Z=>?_,λ b o e n hb Z=>?_,I.base.free,λ b o e Z=>?_,I.base.tups,I.base.frzs,I.base.tbls⟩,⟨m,hn.sameBut O (Ne.symm (cne x c Y)),λ j y v' e1 e2 e3=>?_⟩,λ y c' e=>?_,I.free,I.freeC,λ p hp=>?_,S ⟨oc,ae,I.freeC x c Y⟩ O,by simpa using I.len⟩ ⟨c,O,.inr Y⟩
  ·exact (O.2 b (qr (qp (qm e) (I.ok.cab x c ac Y)))).trans (I.base.keep b o e n hb Z)
  ·obtain⟨sl,e1⟩:=I.base.slot b o e n hb Z
   exact⟨sl,(O.2 b (qr (qp (qm e) (I.ok.cab x c ac Y)))).trans e1⟩
  ·obtain⟨o',e1⟩:=I.base.there b o e Z
   exact⟨o',(O.2 b (qr (qp (qm e) (I.ok.cab x c ac Y)))).trans e1⟩
  ·by_cases hj:j=i
   ·subst hj
    rw[hi] at e1;cases e1;rw[List.getElem?_set_self ab] at e2;cases e2;exact⟨u,r,.inr ⟨.inl hk,c,Y,af⟩⟩
   ·rw[List.getElem?_set_ne (Ne.symm hj)] at e2
    obtain⟨u',r',q⟩:=hl j y v' e1 e2 e3;refine⟨u',r',?_⟩
    rcases q with q | ⟨k,c',e,z'⟩
    ·exact .inl q
    ·refine .inr ⟨k,c',e,z'.sameBut O ?_⟩
     rintro rfl;exact hj (aa3 hN e1 (I.ok.inj _ _ _ e Y▸hi))
  ·by_cases ag:c'=c
   ·subst ag;exact⟨_,af⟩
   ·obtain⟨w2,z2⟩:=I.cell y c' e
    exact⟨w2,z2.sameBut O ag⟩
  ·obtain⟨e,n,ne,nf,d⟩:=I.pin p hp
   refine⟨(O.2 p.1 ?_).trans e,n,ne,nf,d⟩;intro q;rw[q,ae] at e;have q':oc=p.2:=qi e;exact d w' (by rw[<- q'];exact ad)
theorem Y_7 {M:Model}{A:Around}{E:Value->Shared->Prop}{i:Nat}{x:Str}{v:V}{u:Value}{Q:Unit->Shared->Prop} (I:Inv X pins σ H s) (S:X.N.Nodup) (hi:X.N[i]?=some x) (z:Loc X.env.scope x) (r:RelV v u)
  (h:∀ s',Inv X pins (σ.set i (some v)) H s'->Q () s') (hf:X.fn x=true\/X.env.scope.names.lookup x=some .local:=by first | exact .inl rfl | exact .inr rfl | assumption):wpAny M A (storeName X.env x u) Q E s :=
 O_7 I S hi z r (λ s' O _=>h s' O) hf
theorem Inv.call' {s':Shared}{ch:List Addr} (I:Inv X pins σ H s) (Y:s'.os=s.os) (u:Un (frs X.stack) ch H H' s.heap s'.heap) (O:HOk X.prog X.w H' s'.heap) (S:AllBare s'.gens)
  (z:∀ b∈ch,(b∈X.ex\/X.s₀.heap.objs.size<=b)/\b≠X.env.locals/\(∀ x c,X.env.cells.lookup x=some c->c≠b)/\∀ p∈X.pn++pins,p.1≠b):Inv X pins σ H' s':=by
 obtain⟨h',g',d',t',o'⟩:=s';have e:o'=s.os:=Y;subst e;exact I.call (g':=g') (t':=t') (d':=d') u O S z
end
abbrev XK:=Value->Option Addr->Hp->Prop
abbrev St:=List (Option V)
abbrev VK:=V->Hp->Prop
abbrev TE:=St->Hp->VK->Prop
abbrev TT:=St->Hp->(Bool->Hp->Prop)->Prop
abbrev TA:=St->Hp->(List V->Hp->Prop)->Prop
structure Ends where
 nx:St->Hp->Prop
 rt:VK
 bk:St->Hp->Prop:=λ _ _=>False
 ct:St->Hp->Prop:=λ _ _=>False
abbrev TS:=Ends->St->Hp->Prop
noncomputable def EP (X:Cx) (pins:List (Addr×Obj)) (σ:St) (Q:VK) (u:Value) (s':Shared):Prop:=∃ v H',Inv X pins σ H' s'/\RelV v u/\Q v H'
noncomputable def TP (X:Cx) (pins:List (Addr×Obj)) (σ:St) (Q:Bool->Hp->Prop) (b:Bool) (s':Shared):Prop:=∃ H',Inv X pins σ H' s'/\Q b H'
noncomputable def AP (X:Cx) (pins:List (Addr×Obj)) (σ:St) (Q:List V->Hp->Prop) (z:List Value) (s':Shared):Prop:=∃ vs H',Inv X pins σ H' s'/\Vals vs z/\Q vs H'
noncomputable def SP (X:Cx) (pins:List (Addr×Obj)) (D:Ends) (f:Flow) (s':Shared):Prop :=
 match f with
 |.next=>∃ z H',Inv X pins z H' s'/\D.nx z H'
 |.brk=>∃ z H',Inv X pins z H' s'/\D.bk z H'
 |.cont=>∃ z H',Inv X pins z H' s'/\D.ct z H'
 |.ret u=>∃ v z H',Inv X pins z H' s'/\RelV v u/\D.rt v H'
noncomputable def PE (X:Cx) (e:Expr) (t:TE):Prop :=
 ∀ (pins:List (Addr×Obj)) (s:Shared) (σ:St) (H:Hp) (Q:VK),Inv X pins σ H s->t σ H Q->wpAny (model X.prog X.w) X.A (eval e X.env) (EP X pins σ Q) X.xe s
noncomputable def PT (X:Cx) (e:Expr) (t:TT):Prop :=
 ∀ (pins:List (Addr×Obj)) (s:Shared) (σ:St) (H:Hp) (Q:Bool->Hp->Prop),Inv X pins σ H s->t σ H Q->wpAny (model X.prog X.w) X.A (isTrue e X.env (eval e X.env)) (TP X pins σ Q) X.xe s
noncomputable def PW (X:Cx) (e:Expr) (t:TT):Prop :=
 ∀ (z:Sem Value) (pins:List (Addr×Obj)) (s:Shared) (σ:St) (H:Hp) (Q:Bool->Hp->Prop),Inv X pins σ H s->t σ H Q->wpAny (model X.prog X.w) X.A (isTrue e X.env z) (TP X pins σ Q) X.xe s
theorem PW.pt {X:Cx}{e:Expr}{t:TT} (h:PW X e t):PT X e t:=h _
noncomputable def PA (X:Cx) (es:List Expr) (t:TA):Prop :=
 ∀ (pos:Pos) (pins:List (Addr×Obj)) (s:Shared) (σ:St) (H:Hp) (Q:List V->Hp->Prop),Inv X pins σ H s->t σ H Q->wpAny (model X.prog X.w) X.A (spliced (backTo pos (starEach es X.env))) (AP X pins σ Q) X.xe s
noncomputable def PS (X:Cx) (st:Stmt) (t:TS):Prop :=
 ∀ (pins:List (Addr×Obj)) (s:Shared) (σ:St) (H:Hp) (D:Ends),Inv X pins σ H s->t D σ H->wpAny (model X.prog X.w) X.A (exec st X.env) (SP X pins D) X.xe s
noncomputable def PSs (X:Cx) (st:List Stmt) (t:TS):Prop :=
 ∀ (pins:List (Addr×Obj)) (s:Shared) (σ:St) (H:Hp) (D:Ends),Inv X pins σ H s->t D σ H->wpAny (model X.prog X.w) X.A (execs st X.env) (SP X pins D) X.xe s
theorem thn {α:Type}{t:Sem α}{Q z:α->Shared->Prop}{M:Model}{A:Around}{E:Value->Shared->Prop}{s:Shared} (h:wpAny M A t Q E s) (O:∀ a s,Q a s->z a s):wpAny M A t z E s:=wpAny_mono h O λ _ _ x=>x
section
variable {X:Cx}
noncomputable def aT0 (i:Nat):TE:=λ σ H Q=>∃ v,σ[i]?=some (some v)/\Q v H
noncomputable def tC (v:V):TE:=λ _ H Q=>Q v H
theorem s_9 {i:Nat}{x:Str}{pos:Pos} (Y:X.N[i]?=some x) (Z:Vis X.env.scope x) (O:(x==("__debug__":Str))=false:=by decide) (z:(x==("__classdict__":Str))=false:=by decide):PE X (.Name x pos) (aT0 i):=by
 intro pins s σ H Q I h;obtain⟨v,e,h⟩:=h;obtain⟨m,S,hl⟩:=I.loc;obtain⟨u,r,l⟩:=hl i x v Y e Z;have fin:EP X pins σ Q u s:=⟨v,H,I,r,h⟩
 rcases l with ⟨hk,hm⟩ | ⟨hk,c,hc,hcell⟩
 ·exact wpAny_Name (wpAny_loadName_local I.ok.kind hk S hm fin) O
 ·rcases hk with hk | hk
  ·exact wpAny_Name (wpAny_loadName_cell I.ok.kind hk hc hcell fin) O
  ·exact wpAny_Name (wpAny_loadName_free I.ok.kind hk hc hcell fin z) O
theorem Z_8 {i j pos}:PE X (.Constant (.int i) j pos) (tC (.int i)):=λ _ _ _ H _ I h=>wpAny_Constant_int ⟨.int i,H,I.tok _,⟨_,rfl⟩,h⟩
theorem bl7 {b j pos}:PE X (.Constant (.bool b) j pos) (tC (.bl b)):=λ _ _ _ H _ I h=>Constant_bool ⟨.bl b,H,I,rfl,h⟩
theorem aX4 {j pos}:PE X (.Constant .none j pos) (tC .non):=λ _ _ _ H _ I h=>Constant_none ⟨.non,H,I,rfl,h⟩
theorem aW9 {x j pos}:PE X (.Constant (.str x) j pos) (tC (.str x)):=λ _ _ _ H _ I h=>Calls.Constant_str ⟨.str x,H,I.tok _,⟨_,rfl⟩,h⟩
noncomputable def Gl (X:Cx) (x:Str):Prop:=X.env.kindOf x=some .globalImplicit
theorem al1 {E:Value->Shared->Prop}{pins:List (Addr×Obj)}{s:Shared}{σ:St}{H:Hp}{x:Str}{u:Value}{pos:Pos}{Q:Value->Shared->Prop} (I:Inv X pins σ H s) (O:Gl X x) (S:X.mg x=some u) (h:Q u s)
  (z:(x==("__debug__":Str))=false:=by decide):wpAny (model X.prog X.w) X.A (eval (.Name x pos) X.env) Q E s :=
 Calls.Name_function_global I.ok.kind O (Calls.loadGlobal_global (by rw[I.ok.glob];exact I.mod.glob.keeps I.bk) S h) z
theorem R_4 {E:Value->Shared->Prop}{pins:List (Addr×Obj)}{s:Shared}{σ:St}{H:Hp}{x:Str}{u:Value}{pos:Pos}{Q:Value->Shared->Prop} (I:Inv X pins σ H s) (O:Gl X x) (Z:X.mg x=none) (S:bootBuiltins x=some u) (h:Q u s)
  (z:x≠"__name__":=by decide) (Y:(x==("__debug__":Str))=false:=by decide):wpAny (model X.prog X.w) X.A (eval (.Name x pos) X.env) Q E s:=by
 obtain⟨mb,h1,h2⟩:=I.mod.blt;exact Calls.Name_function_global I.ok.kind O (Calls.loadGlobal_builtin (by rw[I.ok.glob];exact I.mod.glob.keeps I.bk) Z (by rw[I.ok.blt];exact h1.keeps I.bk) ((h2 x z).trans S) h) Y
theorem U_9 {x:Str}{v:V}{u:Value}{pos:Pos} (O:Gl X x) (S:X.mg x=some u) (r:RelV v u) (z:(x==("__debug__":Str))=false:=by decide):PE X (.Name x pos) (tC v) :=
 λ _ _ _ H _ I h=>al1 I O S ⟨v,H,I,r,h⟩ z
theorem aI2 {x:Str}{v:V}{u:Value}{pos:Pos} (O:Gl X x) (Z:X.mg x=none) (S:bootBuiltins x=some u) (r:RelV v u) (z:x≠"__name__":=by decide) (Y:(x==("__debug__":Str))=false:=by decide):PE X (.Name x pos) (tC v) :=
 λ _ _ _ H _ I h=>R_4 I O Z S ⟨v,H,I,r,h⟩ z Y
variable {a b:Expr}{ta tb:TE}{pos:Pos}
noncomputable def tB (t:TE):TT:=λ σ H Q=>t σ H λ x H1=>∃ c,x=.bl c/\Q c H1
variable {tA tB':TT}{rest:List Expr}
noncomputable def tAnd (t u:TT):TT:=λ σ H Q=>t σ H λ c H1=>if c=true then u σ H1 Q else Q false H1
noncomputable def tOr (t u:TT):TT:=λ σ H Q=>t σ H λ c H1=>if c=true then Q true H1 else u σ H1 Q
noncomputable def tNot (t:TT):TT:=λ σ H Q=>t σ H λ c H1=>Q (!c) H1
theorem aH0 (ha:PT X a tA):PW X (.BoolOp .And [a] pos) tA:=by
 intro z pins s σ H Q I h;refine isTrue_and (thn (ha pins s σ H Q I h) λ c O e=>?_)
 cases c with
 |true=>exact isTrue_and_nil e
 |false=>exact e
theorem aV7 (ha:PT X a tA):PW X (.BoolOp .Or [a] pos) tA:=by
 intro z pins s σ H Q I h;refine isTrue_or (thn (ha pins s σ H Q I h) λ c O e=>?_)
 cases c with
 |false=>exact isTrue_or_nil e
 |true=>exact e
theorem aV8 (ha:PT X a tA) (hb:PW X (.BoolOp .And (b::rest) pos) tB'):PW X (.BoolOp .And (a::b::rest) pos) (tAnd tA tB'):=by
 intro Z pins s σ H Q I h;refine isTrue_and (thn (ha pins s σ H _ I h) λ c Y z=>?_)
 obtain⟨H1,O,S⟩:=z;cases c with
 |true=>exact hb Z pins Y σ H1 Q O S
 |false=>exact⟨H1,O,S⟩
theorem bl3 (ha:PT X a tA) (hb:PW X (.BoolOp .Or (b::rest) pos) tB'):PW X (.BoolOp .Or (a::b::rest) pos) (tOr tA tB'):=by
 intro Z pins s σ H Q I h;refine isTrue_or (thn (ha pins s σ H _ I h) λ c Y z=>?_)
 obtain⟨H1,O,S⟩:=z;cases c with
 |true=>exact⟨H1,O,S⟩
 |false=>exact hb Z pins Y σ H1 Q O S
theorem aW0 (ha:PT X a tA):PT X (.UnaryOp .Not a pos) (tNot tA):=by
 intro pins s σ H Q I h;exact isTrue_not (ha pins s σ H (λ c H1=>Q (!c) H1) I h)
noncomputable def bi8 (ta tb:TE):TE:=λ σ H Q=>ta σ H λ x H1=>∃ c,x=.bl c/\if c=true then tb σ H1 Q else Q (.bl false) H1
noncomputable def bC6 (ta tb:TE):TE:=λ σ H Q=>ta σ H λ x H1=>∃ c,x=.bl c/\if c=true then Q (.bl true) H1 else tb σ H1 Q
noncomputable def bi2 (ta:TE):TE:=λ σ H Q=>ta σ H λ x H1=>∃ c,x=.bl c/\Q (.bl (!c)) H1
theorem aX2 {op}{t:TE} (h:PE X a t):PE X (.BoolOp op [a] pos) t:=λ pins s σ H Q I hw=>BoolOp_one (h pins s σ H Q I hw)
theorem aX8 (ha:PE X a ta) (hb:PE X (.BoolOp .And (b::rest) pos) tb):PE X (.BoolOp .And (a::b::rest) pos) (bi8 ta tb):=by
 intro pins s σ H Q I h;refine BoolOp_and (thn (ha pins s σ H _ I h) λ v Y z=>?_)
 obtain⟨x,H1,S,Z,O⟩:=z;obtain⟨c,rfl,O⟩:=O;cases Z;refine wpAny_truthy_bool ?_;cases c with
 |true=>exact hb pins Y σ H1 Q S O
 |false=>exact⟨.bl false,H1,S,rfl,O⟩
theorem bl5 (ha:PE X a ta) (hb:PE X (.BoolOp .Or (b::rest) pos) tb):PE X (.BoolOp .Or (a::b::rest) pos) (bC6 ta tb):=by
 intro pins s σ H Q I h;refine BoolOp_or (thn (ha pins s σ H _ I h) λ v Y z=>?_)
 obtain⟨x,H1,S,Z,O⟩:=z;obtain⟨c,rfl,O⟩:=O;cases Z;refine wpAny_truthy_bool ?_;cases c with
 |false=>exact hb pins Y σ H1 Q S O
 |true=>exact⟨.bl true,H1,S,rfl,O⟩
theorem aX3 (ha:PE X a ta):PE X (.UnaryOp .Not a pos) (bi2 ta):=by
 intro pins s σ H Q I h;refine UnaryOp_ (thn (ha pins s σ H _ I h) λ v Z z=>?_)
 obtain⟨x,H1,S,Y,O⟩:=z;obtain⟨c,rfl,O⟩:=O;cases Y;exact not_of (wpAny_truthy_bool ⟨.bl (!c),H1,S,rfl,O⟩)
noncomputable def tIf (t:TT) (ta tb:TE):TE:=λ σ H Q=>t σ H λ c H1=>if c=true then ta σ H1 Q else tb σ H1 Q
theorem av1 {c:Expr} (Z:PT X c tA) (ha:PE X a ta) (hb:PE X b tb):PE X (.IfExp c a b pos) (tIf tA ta tb):=by
 intro pins s σ H Q I h;refine wpAny_IfExp (thn (Z pins s σ H _ I h) λ d O z=>?_)
 obtain⟨H1,S,Y⟩:=z;cases d with
 |true=>exact ha pins O σ H1 Q S Y
 |false=>exact hb pins O σ H1 Q S Y
end
noncomputable def SqL (K:Frag) (H:Hp) (a:Addr) (xs:List V):Prop :=
 Rd H a (.lst xs) \/
  ∃ (o:Obj) (z:Array Value) (n:Nat),K.lookup a=some o ∧ o.cls=.type "list" ∧ o.dict=none ∧ o.data=.seq z n ∧ z.size ≤ sizeLine ∧ Vals xs z.toList
noncomputable def SqT (K:Frag) (H:Hp) (a:Addr) (xs:List V):Prop :=
 Rd H a (.tup xs) \/
  ∃ (o:Obj) (z:Array Value) (n:Nat),K.lookup a=some o ∧ o.cls=.type "tuple" ∧ o.dict=none ∧ o.data=.seq z n ∧ z.size ≤ sizeLine ∧ Vals xs z.toList
noncomputable def bJ7:Value->Option V
 |.none=>some .non
 |.bool b=>some (.bl b)
 |.int i _=>some (.int i)
 |.str x _=>some (.str x)
 |.bytes b _=>some (.byt b)
 |.float b _=>some (.flt b)
 |.ref a=>some (.ref a)
 |.type n=>some (.ty n)
 |_=>none
theorem RelV.abs {x:V}{u:Value} (r:RelV x u):bJ7 u=some x:=by
 cases x with
 |non=>cases r;rfl
 |bl _=>cases r;rfl
 |int _=>obtain⟨t,rfl⟩:=r;rfl
 |str _=>obtain⟨t,rfl⟩:=r;rfl
 |byt _=>obtain⟨t,rfl⟩:=r;rfl
 |flt _=>obtain⟨t,rfl⟩:=r;rfl
 |ref _=>cases r;rfl
 |ty _=>cases r;rfl
theorem RelV.inj {x y:V}{u:Value} (r:RelV x u) (q:RelV y u):x=y:=qi (r.abs.symm.trans q.abs)
theorem Vals.inj:∀ {xs ys:List V}{z:List Value},Vals xs z->Vals ys z->xs=ys
 |_,_,_,.nil,.nil=>rfl
 |_,_,_,.cons r t,.cons r' t'=>by rw[r.inj r',Vals.inj t t']
section
variable {X:Cx}{pins:List (Addr×Obj)}{σ:St}{H:Hp}{s:Shared}{a:Addr}{xs ys:List V}
theorem SqL.of {K:Frag} (h:H a=some (.lst xs)):SqL K H a xs:=.inl (.inl h)
theorem SqT.of {K:Frag} (h:H a=some (.tup xs)):SqT K H a xs:=.inl (.inl h)
theorem Inv.list (I:Inv X pins σ H s) (h:SqL X.K H a xs):∃ O:List Value,Vals xs O/\PlainL s.heap a O.toArray/\xs.length<=sizeLine:=by
 rcases h with h | ⟨o,O,n,hk,hc,hd,hs,hz,r⟩
 ·obtain⟨z,O,n,r,e⟩:=h.ok I.hok
  exact⟨O,r,⟨_,n,e,rfl,rfl,rfl⟩,z⟩
 ·refine⟨O.toList,r,⟨o,n,I.kIn a o hk,hc,hd,by simpa using hs⟩,?_⟩
  have e:=r.length;simp only[Array.length_toList] at e;omega
theorem Inv.tuple (I:Inv X pins σ H s) (h:SqT X.K H a xs):∃ O:List Value,Vals xs O/\IsTup s.heap a O.toArray/\xs.length<=sizeLine:=by
 rcases h with h | ⟨o,O,n,hk,hc,_,hs,hz,r⟩
 ·obtain⟨z,O,r,p⟩:=h.ok I.hok
  exact⟨O,r,p.tup,z⟩
 ·refine⟨O.toList,r,⟨o,I.kIn a o hk,hc,n,by simpa using hs⟩,?_⟩
  have e:=r.length;simp only[Array.length_toList] at e;omega
theorem Inv.tupleN (I:Inv X pins σ H s) (h:SqT X.K H a xs):∃ O:List Value,Vals xs O/\IsTuN s.heap a O.toArray/\xs.length<=sizeLine:=by
 rcases h with h | ⟨o,O,n,hk,hc,hd,hs,hz,r⟩
 ·obtain⟨z,O,r,p⟩:=h.ok I.hok
  exact⟨O,r,p,z⟩
 ·refine⟨O.toList,r,⟨o,I.kIn a o hk,hc,⟨n,by simpa using hs⟩,hd⟩,?_⟩
  have e:=r.length;simp only[Array.length_toList] at e;omega
theorem Inv.list_inj (I:Inv X pins σ H s) (h:SqL X.K H a xs) (h':SqL X.K H a ys):xs=ys:=by
 obtain⟨z,r,⟨o,n,e,_,_,d⟩,_⟩:=I.list h;obtain⟨its',O,⟨o',S,e',_,_,d'⟩,_⟩:=I.list h';rw[e] at e';cases e';rw[d] at d';injection d' with d1 _
 have:z=its':=by simpa using congrArg Array.toList d1
 subst this;exact r.inj O
theorem Inv.tuple_inj (I:Inv X pins σ H s) (h:SqT X.K H a xs) (h':SqT X.K H a ys):xs=ys:=by
 obtain⟨z,r,⟨o,e,_,n,d⟩,_⟩:=I.tuple h;obtain⟨its',O,⟨o',e',_,S,d'⟩,_⟩:=I.tuple h';rw[e] at e';cases e';rw[d] at d';injection d' with d1 _
 have:z=its':=by simpa using congrArg Array.toList d1
 subst this;exact r.inj O
end
abbrev Cx.wish (X:Cx) (E:Value->Shared->Prop):Cx:={X with xe:=E}
abbrev Cx.nox (X:Cx):Cx:=X.wish λ _ _=>False
theorem Cx.Ok.wish {X:Cx} (ok:X.Ok) (E:Value->Shared->Prop):(X.wish E).Ok :=
 ⟨ok.mod,ok.kind,ok.glob,ok.blt,ok.above,ok.inj,ok.has,ok.cab,ok.hd,ok.frames,ok.stk,ok.exf,ok.bs,ok.bsz,ok.noex,ok.exfs,ok.funs,ok.frf⟩
theorem Cx.Ok.unwish {X:Cx}{E:Value->Shared->Prop} (ok:(X.wish E).Ok):X.Ok :=
 ⟨ok.mod,ok.kind,ok.glob,ok.blt,ok.above,ok.inj,ok.has,ok.cab,ok.hd,ok.frames,ok.stk,ok.exf,ok.bs,ok.bsz,ok.noex,ok.exfs,ok.funs,ok.frf⟩
section
variable {X:Cx}{pins:List (Addr×Obj)}{σ:St}{H:Hp}{s:Shared}{E:Value->Shared->Prop}
theorem Inv.wish (I:Inv X pins σ H s) (E:Value->Shared->Prop):Inv (X.wish E) pins σ H s:=⟨I.ok.wish E,I.os,I.bare,I.base,I.loc,I.cell,I.free,I.freeC,I.pin,I.hok,I.len⟩
theorem Inv.unwish (I:Inv (X.wish E) pins σ H s):Inv X pins σ H s:=⟨I.ok.unwish,I.os,I.bare,I.base,I.loc,I.cell,I.free,I.freeC,I.pin,I.hok,I.len⟩
theorem SP.unwish {D:Ends}{f:Flow}{s':Shared} (h:SP (X.wish E) pins D f s'):SP X pins D f s':=by
 cases f with
 |next=>obtain⟨z,H',I,q⟩:=h;exact⟨z,H',I.unwish,q⟩
 |brk=>obtain⟨z,H',I,q⟩:=h;exact⟨z,H',I.unwish,q⟩
 |cont=>obtain⟨z,H',I,q⟩:=h;exact⟨z,H',I.unwish,q⟩
 |ret u=>obtain⟨v,z,H',I,r,q⟩:=h;exact⟨v,z,H',I.unwish,r,q⟩
theorem PE.nox {e:Expr}{t:TE} (h:PE X.nox e t):PE X e t:=λ pins s σ H Q I hw =>
 wpAny_mono (h pins s σ H Q (I.wish _) hw) (λ _ _ ⟨v,H',O,r,q⟩=>⟨v,H',O.unwish,r,q⟩) λ _ _ z=>False.elim z
theorem PT.nox {e:Expr}{t:TT} (h:PT X.nox e t):PT X e t:=λ pins s σ H Q I hw =>
 wpAny_mono (h pins s σ H Q (I.wish _) hw) (λ _ _ ⟨H',O,q⟩=>⟨H',O.unwish,q⟩) λ _ _ z=>False.elim z
theorem PSs.nox {st:List Stmt}{t:TS} (h:PSs X.nox st t):PSs X st t:=λ pins s σ H D I hw =>
 wpAny_mono (h pins s σ H D (I.wish _) hw) (λ _ _ q=>q.unwish) λ _ _ z=>False.elim z
end
section
variable {X:Cx}{st:Stmt}{rest:List Stmt}{t u:TS}{e:Expr}{te:TE}{pos:Pos}
noncomputable def bi3:TS:=λ D σ H=>D.nx σ H
noncomputable def bC4 (t u:TS):TS:=λ D σ H=>t {D with nx:=u D} σ H
theorem ai7:PSs X [] bi3:=λ _ _ σ H _ I h=>wpAny_execs_nil ⟨σ,H,I,h⟩
theorem K_5 (h1:PS X st t) (h2:PSs X rest u):PSs X (st::rest) (bC4 t u):=by
 intro pins s σ H D I h;refine wpAny_execs_cons (thn (h1 pins s σ H {D with nx:=u D} I h) λ f O q=>?_)
 cases f with
 |next =>
  obtain⟨z,H',S,q⟩:=q;exact h2 pins O z H' D S q
 |ret v=>exact q
 |brk=>exact q
 |cont=>exact q
theorem D_8 (h1:PS X st t):PSs X [st] t:=by
 intro pins s σ H D I h;refine wpAny_execs_cons (thn (h1 pins s σ H D I h) λ f z q=>?_)
 cases f with
 |next=>exact wpAny_execs_nil q
 |ret v=>exact q
 |brk=>exact q
 |cont=>exact q
theorem Inv.quiet {pins:List (Addr×Obj)}{σ:St}{H:Hp}{s:Shared} (I:Inv X pins σ H s):interactive X.env=false:=by simp[interactive,I.ok.kind]
noncomputable def aT4 (te:TE):TS:=λ D σ H=>te σ H λ _ H1=>D.nx σ H1
theorem U_7 (z:PE X e te) (O:swapsWith e none pos.line X.env=pure false:=by rfl):PS X (.Expr e pos) (aT4 te):=by
 intro pins s σ H D I h;exact wpAny_Expr_any (thn (z pins s σ H _ I h) λ v Z ⟨x,H1,S,r1,Y⟩=>⟨σ,H1,S,Y⟩) I.quiet O
noncomputable def bC5 (te:TE):TS:=λ D σ H=>te σ H D.rt
theorem ai8 (z:PE X e te):PS X (.Return (some e) pos) (bC5 te):=by
 intro pins s σ H D I h;exact wpAny_Return_some (thn (z pins s σ H _ I h) λ v Z ⟨x,H1,O,Y,S⟩=>⟨x,σ,H1,O,Y,S⟩)
noncomputable def bC8 (c:TT) (t u:TS):TS:=λ D σ H=>c σ H λ b H1=>if b=true then t D σ H1 else u D σ H1
theorem aW1 {c:Expr}{a b:List Stmt}{tc:TT} (Z:PT X c tc) (ha:PSs X a t) (hb:PSs X b u):PS X (.If c a b pos) (bC8 tc t u):=by
 intro pins s σ H D I h;refine wpAny_If (thn (Z pins s σ H _ I h) λ d O z=>?_)
 obtain⟨H1,S,Y⟩:=z;cases d with
 |true=>exact ha pins O σ H1 D S Y
 |false=>exact hb pins O σ H1 D S Y
end
abbrev TG:=V->St->Hp->(St->Hp->Prop)->Prop
abbrev TGs:=List V->St->Hp->(St->Hp->Prop)->Prop
noncomputable def PG (X:Cx) (z:Expr) (t:TG):Prop :=
 ∀ (pins:List (Addr×Obj)) (s:Shared) (σ:St) (H:Hp) (v:V) (u:Value) (Q:St->Hp->Prop),Inv X pins σ H s->RelV v u->t v σ H Q ->
  wpAny (model X.prog X.w) X.A (assign z X.env u) (λ _ s'=>∃ O H',Inv X pins O H' s'/\Q O H') X.xe s
noncomputable def PGs (X:Cx) (S:List Expr) (t:TGs):Prop :=
 ∀ (pins:List (Addr×Obj)) (s:Shared) (σ:St) (H:Hp) (vs:List V) (O:List Value) (Q:St->Hp->Prop),Inv X pins σ H s->Vals vs O->t vs σ H Q ->
  wpAny (model X.prog X.w) X.A (assignInOrder ((assignEach S X.env).map (·.2)) O) (λ _ s'=>∃ z H',Inv X pins z H' s'/\Q z H') X.xe s
section
variable {X:Cx}{pos:Pos}
noncomputable def ax1 (i:Nat):TG:=λ v σ H Q=>Q (σ.set i (some v)) H
theorem K_7 {i:Nat}{x:Str} (S:X.N.Nodup) (hi:X.N[i]?=some x) (z:Loc X.env.scope x) (hf:X.fn x=true\/X.env.scope.names.lookup x=some .local:=by first | exact .inl rfl | exact .inr rfl | assumption):PG X (.Name x pos) (ax1 i):=by
 intro pins s σ H v u Q I r h;exact wpAny_assign_Name (Y_7 I S hi z r (λ s' O=>⟨_,H,O,h⟩) hf)
noncomputable def bG8:TGs:=λ vs σ H Q=>vs=[]/\Q σ H
noncomputable def bo2 (t:TG) (u:TGs):TGs:=λ vs σ H Q=>∃ v r,vs=v::r/\t v σ H λ z H'=>u r z H' Q
theorem aH8:PGs X [] bG8:=by
 intro pins s σ H vs z Q I r h;obtain⟨e,h⟩:=h;subst e;cases r;exact assignInOrder_nil ⟨σ,H,I,h⟩
theorem au8 {e:Expr}{es:List Expr}{t:TG}{u:TGs} (h1:PG X e t) (h2:PGs X es u)
  (S:(assignEach (e::es) X.env).map (·.2)=assign e X.env::(assignEach es X.env).map (·.2):=by rfl):PGs X (e::es) (bo2 t u):=by
 intro pins s σ H vs us Q I r h;obtain⟨v,vr,e1,h⟩:=h;subst e1;cases r with
 |cons r rr =>
  rw[S];refine assignInOrder_cons (thn (h1 pins s σ H _ _ _ I r h) λ _ Y z=>?_)
  obtain⟨O,H1,Z,q1⟩:=z;exact h2 pins Y O H1 _ _ Q Z rr q1
noncomputable def bG7 (K:Frag) (n:Nat) (t:TGs):TG:=λ v σ H Q=>∃ a xs,v=.ref a/\SqT K H a xs/\xs.length=n/\t xs σ H Q
theorem aW5 {es:List Expr}{k:Nat}{t:TGs}{n:Nat} (S:X.calm=true) (h:PGs X es t)
  (Z:(assignEach es X.env).length=n:=by rfl) (z:(assignEach es X.env).findIdx? (·.1)=none:=by rfl):PG X (.Tuple es k pos) (bG7 X.K n t):=by
 intro pins s σ H v u Q I r hw;obtain⟨a,xs,e1,hq,hl,hw⟩:=hw;subst e1;cases r;obtain⟨aa,O,ht,hz⟩:=I.tuple hq;refine assign_Tuple_tuple (I.ok.hd S) ht (by simp[Z,<- hl,O.length]) z λ h' hx=>?_
 have Y:Inv X pins σ H {s with heap:=h'}:=I.kept (t':=s.toks) λ b o e=>hx b o (qr (qm e)) e
 exact h pins _ σ H xs _ Q Y (by simpa using O) hw
noncomputable def bD1 (te:TE) (g:TG):TS:=λ D σ H=>te σ H λ x H1=>g x σ H1 D.nx
theorem Z_7 {i:Nat}{x:Str}{e:Expr}{te:TE}{pos':Pos} (Z:X.N.Nodup) (hi:X.N[i]?=some x) (hx:Loc X.env.scope x) (O:PE X e te) (S:swapsWith e (some (.Name x pos')) pos.line X.env=pure false:=by rfl) (hf:X.fn x=true\/X.env.scope.names.lookup x=some .local:=by first | exact .inl rfl | exact .inr rfl | assumption) :
  PS X (.Assign [.Name x pos'] e pos) (bD1 te (ax1 i)):=by
 intro pins s σ H D I h;refine wpAny_Assign_Name (thn (O pins s σ H _ I h) λ v s1 z=>?_) S
 obtain⟨y,H1,Y,r1,q1⟩:=z;exact Y_7 Y Z hi hx r1 (λ s2 I2=>⟨_,H1,I2,q1⟩) hf
end
section
variable {X:Cx}{pos:Pos}
noncomputable def aS9 (c:TT) (tb:TS):TS:=λ D σ H=>∃ W:Nat->St->Hp->Prop,(∃ m,W m σ H)/\∀ m σ H,W m σ H ->
 c σ H λ b H1=>if b=true then ∃ N:St->Hp->Prop,(∀ z H',N z H'->∃ O,O<m/\W O z H')/\tb {D with nx:=N,ct:=N,bk:=D.nx} σ H1 else D.nx σ H1
theorem au5 {c:Expr}{body:List Stmt}{tc:TT}{tb:TS} (hp:PassesOwn (model X.prog X.w) X.A X.env X.xe) (hc:PT X c tc) (hb:PSs X body tb):PS X (.While c body [] pos) (aS9 tc tb):=by
 intro pins s σ H D I h;obtain⟨W,⟨m0,w0⟩,aa⟩:=h;refine wpAny_While (codeAny_whileLoop (λ n s'=>∃ Z H',Inv X pins Z H' s'/\W n Z H') ?_ m0 ⟨σ,H,I,w0⟩)
 rintro n s1 ⟨O,H1,I1,w1⟩;refine wpAny_passesOwn hp (thn (hc pins s1 O H1 _ I1 (aa n O H1 w1)) λ b s2 Y=>?_)
 obtain⟨H2,I2,q2⟩:=Y;cases b with
 |true =>
  obtain⟨N,hN,q2⟩:=q2;rw[if_pos rfl];refine wpAny_passesOwn hp (thn (hb pins s2 O H2 _ I2 q2) λ f s3 q3=>?_)
  cases f with
  |next =>
   obtain⟨z,S,I3,n3⟩:=q3;obtain⟨m',hm,w3⟩:=hN z S n3;exact⟨m',hm,z,S,I3,w3⟩
  |cont =>
   obtain⟨z,S,I3,n3⟩:=q3;obtain⟨m',hm,w3⟩:=hN z S n3;exact⟨m',hm,z,S,I3,w3⟩
  |brk=>exact q3
  |ret v=>exact q3
 |false =>
  rw[if_neg Bool.false_ne_true];exact wpAny_execs_nil ⟨O,H2,I2,q2⟩
end
structure It where
 go:Nat->Hp->Prop
 yld:Nat->Hp->V->Hp->Prop
 stop:Nat->Hp->Prop
noncomputable def ar7 (X:Cx) (pins:List (Addr×Obj)) (H:Hp) (b:Addr):Prop :=
 H b=none/\b≠X.env.locals/\b∉X.fs/\(b∈X.ex\/X.s₀.heap.objs.size<=b)/\(∀ x c,X.env.cells.lookup x=some c->c≠b)/\∀ p∈X.pn++pins,p.1≠b
theorem Inv.fpOk {X:Cx}{pins:List (Addr×Obj)}{σ:St}{H H':Hp}{s:Shared}{b:Addr} (I:Inv X pins σ H s) (hb:s.heap.objs.size<=b) (O:H' b=none):ar7 X pins H' b:=by
 refine⟨O,Nat.ne_of_gt (qp I.lt hb),I.nofs hb,.inr (Nat.le_trans I.sz hb),λ x c e z=>?_,λ p S z=>?_⟩
 ·obtain⟨v,q⟩:=I.cell x c e
  exact absurd (qp q.lt (by rw[z];exact hb)) (Nat.lt_irrefl _)
 ·exact absurd (qp (qm (I.pin p S).1) (by rw[z];exact hb)) (Nat.lt_irrefl _)
structure Turn (P:Program) (w:World) (K:Frag) (tg:Expr) (J:It) (fp:List Addr) (it:Addr) (tn:Nat->Heap->Prop):Prop where
 mem:it∈fp
 obj:∀ i h,tn i h->∀ b∈fp,∃ o,h.get? b=some o/\∀ v,o.data≠.cell v
 keep:∀ i h h',tn i h->(∀ b∈fp,∀ o,h.get? b=some o->h'.get? b=some o)->tn i h'
 item:∀ (X:Cx),X.prog=P->X.w=w->X.K=K->X.calm=true->∀ (i:Nat) (pins:List (Addr×Obj)) (s:Shared) (σ:St) (H:Hp) (E:Value->Shared->Prop),Inv X pins σ H s->(∀ b∈fp,ar7 X pins H b)->tn i s.heap->J.go i H ->
  wpAny (model P w) X.A (pyNext (.ref it)) (λ r s1=>∃ u,r=some u /\
   wpAny (model P w) X.A (letOwnedTupleGo tg (.ref it) u) (λ _ s2=>∃ x H',Inv X pins σ H' s2/\RelV x u/\J.yld i H x H'/\tn (i+1) s2.heap/\∀ b∈fp,H' b=none) E s1) E s
 done:∀ (X:Cx),X.prog=P->X.w=w->X.K=K->X.calm=true->∀ (i:Nat) (pins:List (Addr×Obj)) (s:Shared) (σ:St) (H:Hp) (E:Value->Shared->Prop),Inv X pins σ H s->(∀ b∈fp,ar7 X pins H b)->tn i s.heap->J.stop i H ->
  wpAny (model P w) X.A (pyNext (.ref it)) (λ r s1=>r=none/\Inv X pins σ H s1) E s
 self:∀ (A:Around) (i:Nat) (s:Shared) (Q:Value->Shared->Prop) (E:Value->Shared->Prop),tn i s.heap->Q (.ref it) s->wpAny (model P w) A (pyIter (.ref it)) Q E s
abbrev TI:=St->Hp->(It->Hp->Prop)->Prop
noncomputable def PIE (X:Cx) (pins:List (Addr×Obj)) (σ:St) (tg:Expr) (R:It->Hp->Prop) (z:Value) (O:Shared):Prop :=
 ∃ (it:Addr) (S:List Addr) (Y:Nat->Heap->Prop) (J:It) (H':Hp),z=.ref it/\Inv X pins σ H' O/\Turn X.prog X.w X.K tg J S it Y/\Y 0 O.heap/\(∀ b∈S,ar7 X pins H' b)/\R J H'
noncomputable def PI (X:Cx) (tg iter:Expr) (O:TI):Prop :=
 ∀ (pins:List (Addr×Obj)) (s:Shared) (σ:St) (H:Hp) (R:It->Hp->Prop),Inv X pins σ H s->O σ H R ->
  wpAny (model X.prog X.w) X.A (eval iter X.env) (λ v z=>wpAny (model X.prog X.w) X.A (pyIter v) (PIE X pins σ tg R) X.xe z) X.xe s
theorem an0 {M:Model}{A:Around}{E:Value->Shared->Prop}{s:Shared}{tg:Expr}{it:Addr}{u:Value}{o:Obj}{n:String}{vs:Array Value}{Q:Unit->Shared->Prop} (Y:s.heap.get? it=some o) (O:o.cls=.type n) (Z:o.data=.fields vs)
  (S:["enumerate","zip","dict_itemiterator","dict_reverseitemiterator","odict_iterator","itertools.zip_longest","itertools.pairwise"].contains n=false) (z:Q () s):wpAny M A (letOwnedTupleGo tg (.ref it) u) Q E s:=by
 unfold letOwnedTupleGo;cases tg <;> first
  |exact qc z
  |(cases u <;> first
    |exact qc z
    |(refine qb (wpAny_load Y ?_);rw[O,Z];show wpAny M A (if (["enumerate","zip","dict_itemiterator","dict_reverseitemiterator","odict_iterator","itertools.zip_longest","itertools.pairwise"].contains n&&vs[0]?==some (rawInt _))=true then _ else _) Q E s;rw[if_neg (by intro h;rw[S,Bool.false_and] at h;cases h)];exact qc z))
noncomputable def Itl (K:Frag) (a:Addr):It :=
 ⟨λ i H=>∃ xs x,SqL K H a xs/\xs[i]?=some x,λ i H x H'=>H'=H/\∀ xs,SqL K H a xs->xs[i]?=some x,λ i H=>∃ xs,SqL K H a xs/\xs.length<=i⟩
noncomputable def Itt (K:Frag) (a:Addr):It :=
 ⟨λ i H=>∃ xs x,SqT K H a xs/\xs[i]?=some x,λ i H x H'=>H'=H/\∀ xs,SqT K H a xs->xs[i]?=some x,λ i H=>∃ xs,SqT K H a xs/\xs.length<=i⟩
noncomputable def Itr (lo:Int) (n:Nat):It:=⟨λ i _=>i<n,λ i H x H'=>H'=H/\x=.int (lo+i),λ i _=>n<=i⟩
theorem ah1 {P:Program}{w:World}{K:Frag}{tg:Expr} (a it:Addr):Turn P w K tg (Itl K a) [it] it (λ i h=>h.IsListIter it a i) where
 mem:=by simp
 obj:=λ i h st b hb=>by
  have e:b=it:=by simpa using hb
  subst e;obtain⟨o,e,c,d⟩:=st;exact⟨o,e,λ v z=>by rw[d] at z;cases z⟩
 keep:=λ i h h' st k=>st.at λ o e=>k it (by simp) o e
 item:=by
  intro X Y hw Z hc i pins s σ H E I hf st hg;subst Y hw Z;obtain⟨xs,x,S,hx⟩:=hg;obtain⟨aa,rv,p,hz⟩:=I.list S;obtain⟨u,hu,ru⟩:=rv.get hx;obtain⟨f0,f1,f2,f3,f4,f5⟩:=hf it (by simp)
  refine wpAny_pyNext_list_item st p.isList (x:=u) (by simpa using hu) λ h' O sb=>?_
  have I1:Inv X pins σ H {s with heap:=h'}:=I.turned (t':=s.toks) (λ b o hb e=>(sb.2 b hb).trans e) f0 f1 f3 f4 f5
  obtain⟨o,e,c,d⟩:=id O;exact⟨u,rfl,an0 (s:={s with heap:=h'}) e c d (by decide) ⟨x,H,I1,ru,⟨rfl,λ ys hy=>by rw[I.list_inj hy S];exact hx⟩,O,λ b hb=>(hf b hb).1⟩⟩
 done:=by
  intro X Y hw Z hc i pins s σ H E I hf st hg;subst Y hw Z;obtain⟨xs,S,hx⟩:=hg;obtain⟨aa,rv,p,hz⟩:=I.list S;obtain⟨f0,f1,f2,f3,f4,f5⟩:=hf it (by simp)
  have hl:=rv.length;exact wpAny_pyNext_list_end (I.ok.hd hc) st p.isList (by simp;omega) λ h' eb=>⟨rfl,I.turned (t':=s.toks) (λ b o hb e=>eb b o hb e) f0 f1 f3 f4 f5⟩
 self:=λ _ _ _ _ _ st h=>wpAny_pyIter_listiter st h
theorem ad5 {P:Program}{w:World}{K:Frag}{tg:Expr} (a it:Addr):Turn P w K tg (Itt K a) [it] it (λ i h=>h.IsTupleIter it a i) where
 mem:=by simp
 obj:=λ i h st b hb=>by
  have e:b=it:=by simpa using hb
  subst e;obtain⟨o,e,c,d⟩:=st;exact⟨o,e,λ v z=>by rw[d] at z;cases z⟩
 keep:=λ i h h' st k=>st.at λ o e=>k it (by simp) o e
 item:=by
  intro X Z hw hK hc i pins s σ H E I hf st hg;subst Z hw hK;obtain⟨xs,x,Y,hx⟩:=hg;obtain⟨O,rv,p,hz⟩:=I.tuple Y;obtain⟨u,hu,ru⟩:=rv.get hx;obtain⟨f0,f1,f2,f3,f4,f5⟩:=hf it (by simp)
  refine wpAny_pyNext_tuple_item st (show s.heap.IsTuple a O.toArray from p) (x:=u) (by simpa using hu) λ h' S sb=>?_
  have I1:Inv X pins σ H {s with heap:=h'}:=I.turned (t':=s.toks) (λ b o hb e=>(sb.2 b hb).trans e) f0 f1 f3 f4 f5
  obtain⟨o,e,c,d⟩:=id S;exact⟨u,rfl,an0 (s:={s with heap:=h'}) e c d (by decide) ⟨x,H,I1,ru,⟨rfl,λ ys hy=>by rw[I.tuple_inj hy Y];exact hx⟩,S,λ b hb=>(hf b hb).1⟩⟩
 done:=by
  intro X Z hw hK hc i pins s σ H E I hf st hg;subst Z hw hK;obtain⟨xs,Y,hx⟩:=hg;obtain⟨O,rv,p,hz⟩:=I.tuple Y;obtain⟨f0,f1,f2,f3,f4,f5⟩:=hf it (by simp)
  have hl:=rv.length;exact wpAny_pyNext_tuple_end (I.ok.hd hc) st (show s.heap.IsTuple a O.toArray from p) (by simp;omega) λ h' eb=>⟨rfl,I.turned (t':=s.toks) (λ b o hb e=>eb b o hb e) f0 f1 f3 f4 f5⟩
 self:=λ _ _ _ _ _ st h=>wpAny_pyIter_tupleiter st h
theorem ad6 {P:Program}{w:World}{K:Frag}{tg:Expr} (it:Addr) (lo:Int) (n:Nat):Turn P w K tg (Itr lo n) [it] it (λ i h=>IsRangeIter h it (lo+(i:Nat)*1) ((n:Int)-(i:Nat)) 1) where
 mem:=by simp
 obj:=λ i h st b hb=>by
  have e:b=it:=by simpa using hb
  subst e
  exact⟨_,st,λ v z=>by
   have z':Data.fields _=Data.cell v:=z;cases z'⟩
 keep:=λ i h h' st k=>k it (by simp) _ st
 item:=by
  intro X Y hw Z S i pins s σ H E I hf st hg;subst Y hw Z;obtain⟨f0,f1,f2,f3,f4,f5⟩:=hf it (by simp)
  have W:=Walks.range (prog:=X.prog) (w:=X.w) (I.ok.hd S) it lo 1 n;refine W.item i s _ _ hg st λ v h' tk hv O kk=>?_
  obtain⟨t,rfl⟩:=hv;have I1:Inv X pins σ H {s with heap:=h',toks:=tk}:=I.turned (λ b o hb e=>kk b o (by simpa using hb) e) f0 f1 f3 f4 f5
  refine⟨_,rfl,an0 (s:={s with heap:=h',toks:=tk}) (n:="range_iterator") O rfl rfl (by decide) ⟨.int (lo+i),H,I1,⟨t,?_⟩,⟨rfl,rfl⟩,O,λ b hb=>(hf b hb).1⟩⟩
  rw[Int.mul_one]
 done:=by
  intro X Y hw Z S i pins s σ H E I hf st hg;subst Y hw Z;obtain⟨f0,f1,f2,f3,f4,f5⟩:=hf it (by simp)
  exact wpAny_pyNext_range_end (I.ok.hd S) st (by have:n<=i:=hg;omega) λ h' eb=>⟨rfl,I.turned (t':=s.toks) (λ b o hb e=>eb b o hb e) f0 f1 f3 f4 f5⟩
 self:=λ _ _ _ _ _ st h=>wpAny_pyIter_rangeiter st h
section
variable {X:Cx}{tg:Expr}
noncomputable def aw8 (K:Frag) (tl:TE):TI:=λ σ H R=>tl σ H λ x H1=>∃ a,x=.ref a/\(∃ xs,SqL K H1 a xs)/\R (Itl K a) H1
noncomputable def bw4 (K:Frag) (tl:TE):TI:=λ σ H R=>tl σ H λ x H1=>∃ a,x=.ref a/\(∃ xs,SqT K H1 a xs)/\R (Itt K a) H1
theorem U_8 {l:Expr}{tl:TE} (hl:PE X l tl):PI X tg l (aw8 X.K tl):=by
 intro pins s σ H R I h;refine thn (hl pins s σ H _ I h) λ v O z=>?_
 obtain⟨x,H1,S,Z,Y⟩:=z;obtain⟨a,e,⟨xs,hq⟩,q⟩:=Y;subst e;cases Z;obtain⟨aa,rv,p,hz⟩:=S.list hq;refine wpAny_pyIter_list p.isList ?_;refine⟨O.heap.objs.size,[O.heap.objs.size],_,_,H1,rfl,S.kept (t':=O.toks) λ b o e=>qd _ e,ah1 a _,⟨_,qk _ rfl,rfl,rfl⟩,λ b hb=>?_,q⟩
 have e:b=O.heap.objs.size:=by simpa using hb
 subst e;exact S.fpOk (qj _) (S.hok.fresh (qj _))
theorem aW2 {l:Expr}{tl:TE} (hl:PE X l tl):PI X tg l (bw4 X.K tl):=by
 intro pins s σ H R I h;refine thn (hl pins s σ H _ I h) λ v z O=>?_
 obtain⟨x,H1,S,r1,Z⟩:=O;obtain⟨a,e,⟨xs,hq⟩,q⟩:=Z;subst e;cases r1;obtain⟨Y,rv,p,hz⟩:=S.tuple hq;refine wpAny_pyIter_tuple (show z.heap.IsTuple a Y.toArray from p) ?_;refine⟨z.heap.objs.size,[z.heap.objs.size],_,_,H1,rfl,S.kept (t':=z.toks) λ b o e=>qd _ e,ad5 a _,⟨_,qk _ rfl,rfl,rfl⟩,λ b hb=>?_,q⟩
 have e:b=z.heap.objs.size:=by simpa using hb
 subst e;exact S.fpOk (qj _) (S.hok.fresh (qj _))
theorem Z_5 {pins:List (Addr×Obj)}{σ:St}{H:Hp}{s:Shared}{R:It->Hp->Prop}{E:Value->Shared->Prop}{lo hi:Int}{t u v:Tok}{tk:Nat} (I:Inv X pins σ H s) (h1:-(2 ^ 62)<=lo) (h2:lo<2 ^ 62) (O:-(2 ^ 62)<=hi) (S:hi<2 ^ 62)
  (q:R (Itr lo (hi-lo).toNat) H):wpAny (model X.prog X.w) X.A (pyIter (.ref s.heap.objs.size)) (PIE X pins σ tg R) E {s with heap:=s.heap.push {cls:=.type "range",data:=.fields #[.int lo t,.int hi u,.int 1 v]},toks:=tk}:=by
 refine wpAny_pyIter_range (IsRange.new ..) (small_one h1 h2 O S) ?_;have z:Inv X pins σ H {s with heap:=s.heap.push {cls:=.type "range",data:=.fields #[.int lo t,.int hi u,.int 1 v]},toks:=tk}:=I.kept λ b o e=>qd _ e
 refine⟨(s.heap.push {cls:=.type "range",data:=.fields #[.int lo t,.int hi u,.int 1 v]}).objs.size,[(s.heap.push {cls:=.type "range",data:=.fields #[.int lo t,.int hi u,.int 1 v]}).objs.size],_,_,H,rfl,
  z.kept (t':=tk) λ b o e=>qd _ e,ad6 _ lo (hi-lo).toNat,?_,λ b hb=>?_,q⟩
 ·have e1:lo+((0:Nat):Int)*1=lo:=by simp
  have e2:(((hi-lo).toNat:Nat):Int)-((0:Nat):Int)=Builtin.Range.rangeSize lo hi 1:=by rw[rangeSize_one];split <;> omega
  show IsRangeIter _ _ (lo+((0:Nat):Int)*1) ((((hi-lo).toNat:Nat):Int)-((0:Nat):Int)) 1;rw[e1,e2];exact qk _ rfl
 ·have e:b=(s.heap.push {cls:=.type "range",data:=.fields #[.int lo t,.int hi u,.int 1 v]}).objs.size:=by simpa using hb
  subst e;exact z.fpOk (qj _) (z.hok.fresh (qj _))
noncomputable def bo0 (ta:TA):TI:=λ σ H R=>ta σ H λ vs H1=>∃ j:Int,vs=[.int j]/\-(2 ^ 62)<=j/\j<2 ^ 62/\R (Itr 0 j.toNat) H1
noncomputable def bn9 (ta:TA):TI:=λ σ H R=>ta σ H λ vs H1=>∃ i j:Int,vs=[.int i,.int j]/\(-(2 ^ 62)<=i/\i<2 ^ 62/\-(2 ^ 62)<=j/\j<2 ^ 62)/\R (Itr i (j-i).toNat) H1
theorem P_7 {a:Expr}{ta:TA}{p pos:Pos} (Z:Gl X "range") (hm:X.mg "range"=none) (ha:PA X [a] ta) (S:starEach [a] X.env=[(false,eval a X.env)]:=by rfl):PI X tg (.Call (.Name "range" p) [a] [] pos) (bo0 ta):=by
 intro pins s σ H R I h;refine Call_ (R_4 I Z hm boot_range (PyProof.Rows.callWith_type1 (thn (ha pos pins s σ H _ I h) λ us s1 z=>?_) S rfl))
 obtain⟨vs,H1,Y,r1,O⟩:=z;obtain⟨j,e,O,q2,q⟩:=O;subst e;cases r1 with
 |cons r rr =>
  cases rr;obtain⟨t,rfl⟩:=r;exact call_range_1 (Z_5 Y (by omega) (by omega) O q2 (by simpa using q))
theorem aj0 {a b:Expr}{ta:TA}{p pos:Pos} (hg:Gl X "range") (hm:X.mg "range"=none) (ha:PA X [a,b] ta) (Z:starEach [a,b] X.env=[(false,eval a X.env),(false,eval b X.env)]:=by rfl) (O:starEach [b] X.env=[(false,eval b X.env)]:=by rfl) :
  PI X tg (.Call (.Name "range" p) [a,b] [] pos) (bn9 ta):=by
 intro pins s σ H R I h;refine Call_ (R_4 I hg hm boot_range (PyProof.Rows.callWith_type1 (thn (ha pos pins s σ H _ I h) λ us s1 z=>?_) (by rw[Z,O]) (by rw[O];rfl)))
 obtain⟨vs,H1,I1,r1,S⟩:=z;obtain⟨i,j,e,⟨S,q2,q3,q4⟩,q⟩:=S;subst e;cases r1 with
 |cons r Y =>
  cases Y with
  |cons r' Y =>
   cases Y;obtain⟨t,rfl⟩:=r;obtain⟨t',rfl⟩:=r';exact call_range_2 (Z_5 I1 S q2 q3 q4 q)
noncomputable def bi4 (Y:TI) (g:TG) (tb:TS):TS:=λ D σ H=>Y σ H λ J H1=>∃ W:Nat->Nat->St->Hp->Prop,(∃ m,W 0 m σ H1)/\∀ i m σ H,W i m σ H ->
 (J.stop i H/\D.nx σ H)\/(J.go i H/\∃ N:St->Hp->Prop,(∀ z H',N z H'->∃ S,S<m/\W (i+1) S z H')/\∀ x H',J.yld i H x H'->g x σ H' λ O H2=>tb {D with nx:=N,ct:=N,bk:=D.nx} O H2)
noncomputable def P_6 (z:List Addr) (h:Heap):List (Addr×Obj):=z.filterMap λ b=>(h.get? b).map λ o=>(b,o)
theorem u_2 {z:List Addr}{h:Heap}{b:Addr}{o:Obj} (hb:b∈z) (e:h.get? b=some o):(b,o)∈P_6 z h:=List.mem_filterMap.mpr ⟨b,hb,by rw[e];rfl⟩
theorem aj8 {z:List Addr}{h:Heap}{p:Addr×Obj} (O:p∈P_6 z h):p.1∈z/\h.get? p.1=some p.2:=by
 obtain⟨b,hb,e⟩:=List.mem_filterMap.mp O;cases q:h.get? b with
 |none=>rw[q] at e;cases e
 |some o =>
  rw[q] at e;have e':(b,o)=p:=qi e;subst e';exact⟨hb,q⟩
theorem Inv.pinned {pins:List (Addr×Obj)}{σ:St}{H:Hp}{s:Shared}{O:List Addr} (I:Inv X pins σ H s) (hf:∀ b∈O,ar7 X pins H b) (ho:∀ b∈O,∃ o,s.heap.get? b=some o/\∀ v,o.data≠.cell v):Inv X (pins++P_6 O s.heap) σ H s :=
 I.pins_of λ p Z=>(qw Z).elim (λ z=>I.pin p (qo _ z)) λ z=>by
  obtain⟨hb,e⟩:=aj8 z;obtain⟨S,Y,f2,_⟩:=hf p.1 hb;obtain⟨o,e',d⟩:=ho p.1 hb;rw[e] at e';cases e';exact⟨e,S,Y,f2,d⟩
theorem Inv.unpinned {pins z:List (Addr×Obj)}{σ:St}{H:Hp}{s:Shared} (I:Inv X (pins++z) σ H s):Inv X pins σ H s:=I.pins_of λ p O=>I.pin p (qo _ (List.mem_append_left _ O))
theorem P_5 {iter:Expr}{body:List Stmt}{wi:TI}{g:TG}{tb:TS}{pos:Pos} (hp:PassesOwn (model X.prog X.w) X.A X.env X.xe) (hc:X.calm=true) (hi:PI X tg iter wi) (hg:PG X tg g) (hb:PSs X body tb)
  (hs:∀ x,foldedSetIterable iter X.env x=pure x:=by intro _;rfl):PS X (.For tg iter body [] pos) (bi4 wi g tb):=by
 intro pins s σ H D I h;refine wpAny_For (thn (hi pins s σ H _ I h) λ v s1 h1=>thn h1 λ aj s2 h2=>?_) hs
 obtain⟨it,fp,tn,J,H2,e,I2,T,ah,f2,W,⟨m0,w0⟩,af⟩:=h2;subst e;have Z:∀ {H':Hp},(∀ b∈fp,H' b=none)->∀ b∈fp,ar7 X pins H' b:=λ hn b hb=>⟨hn b hb,(f2 b hb).2⟩
 refine codeAny_forLoop_any (λ n s'=>∃ i ab H',Inv X pins ab H' s'/\tn i s'.heap/\(∀ b∈fp,H' b=none)/\W i n ab H') ?_ m0 ⟨0,σ,H2,I2,ah,λ b hb=>(f2 b hb).1,w0⟩
 rintro n s3 ⟨i,S,H3,I3,ae,ad,w3⟩
 rcases af i n S H3 w3 with ⟨stop,qn⟩ | ⟨go,N,hN,step⟩
 ·refine wpAny_passesOwn hp (thn (T.done X rfl rfl rfl hc i pins s3 S H3 X.xe I3 (Z ad) ae stop) λ r s4 z=>?_)
  obtain⟨hr,I4⟩:=z;subst hr;exact wpAny_execs_nil ⟨S,H3,I4,qn⟩
 ·refine wpAny_passesOwn hp (thn (T.item X rfl rfl rfl hc i pins s3 S H3 X.xe I3 (Z ad) ae go) λ r s4 z=>?_)
  obtain⟨u,hr,h4⟩:=z;subst hr;refine wpAny_passesOwn hp (thn h4 λ _ s5 z=>?_)
  obtain⟨x,H5,I5,r5,y5,ac,ag⟩:=z;have I5':=I5.pinned (Z ag) (T.obj _ _ ac);refine wpAny_passesOwn hp (thn (hg _ s5 S H5 x u _ I5' r5 (step x H5 y5)) λ _ s6 z=>?_)
  obtain⟨ai,H6,I6,q6⟩:=z;refine wpAny_passesOwn hp (thn (hb _ s6 ai H6 _ I6 q6) λ f s7 q7=>?_)
  have aa:∀ {O:St}{Y:Hp},Inv X (pins++P_6 fp s5.heap) O Y s7->N O Y->∃ m,m<n/\∃ i ab H',Inv X pins ab H' s7/\tn i s7.heap/\(∀ b∈fp,H' b=none)/\W i m ab H':=λ {O Y} I7 n7=>by
   obtain⟨m',hm,w7⟩:=hN O Y n7;refine⟨m',hm,i+1,O,Y,I7.unpinned,T.keep _ _ _ ac λ b hb o e=>(I7.pin (b,o) (qo _ (qo _ (u_2 hb e)))).1,λ b hb=>?_,w7⟩
   obtain⟨o,e,d⟩:=T.obj _ _ ac b hb;exact (I7.pin (b,o) (qo _ (qo _ (u_2 hb e)))).2.1
  cases f with
  |next=>obtain⟨O,Y,I7,n7⟩:=q7;exact aa I7 n7
  |cont=>obtain⟨O,Y,I7,n7⟩:=q7;exact aa I7 n7
  |brk=>obtain⟨O,Y,I7,q7⟩:=q7;exact⟨O,Y,I7.unpinned,q7⟩
  |ret v=>obtain⟨x7,O,Y,I7,r7,q7⟩:=q7;exact⟨x7,O,Y,I7.unpinned,r7,q7⟩
end
abbrev R2:=V->V->Hp->VK->Prop
noncomputable def OpR (X:Cx) (f:Value->Value->Sem Value) (r:R2):Prop :=
 ∀ (pins:List (Addr×Obj)) (s:Shared) (σ:St) (H:Hp) (x y:V) (v u:Value) (Q:VK),Inv X pins σ H s->RelV x v->RelV y u->r x y H Q ->
  wpAny (model X.prog X.w) X.A (f v u) (EP X pins σ Q) X.xe s
noncomputable def UnR (X:Cx) (f:Value->Sem Value) (r:V->Hp->VK->Prop):Prop :=
 ∀ (pins:List (Addr×Obj)) (s:Shared) (σ:St) (H:Hp) (x:V) (v:Value) (Q:VK),Inv X pins σ H s->RelV x v->r x H Q ->
  wpAny (model X.prog X.w) X.A (f v) (EP X pins σ Q) X.xe s
noncomputable def CallR (X:Cx) (f:Value) (r:List V->Hp->VK->Prop):Prop :=
 ∀ (pins:List (Addr×Obj)) (s:Shared) (σ:St) (H:Hp) (xs:List V) (z:List Value) (Q:VK),Inv X pins σ H s->Vals xs z->r xs H Q ->
  wpAny (model X.prog X.w) X.A (call f z) (EP X pins σ Q) X.xe s
noncomputable def bK0 (X:Cx) (r:V->Hp->(Bool->Hp->Prop)->Prop):Prop :=
 ∀ (pins:List (Addr×Obj)) (s:Shared) (σ:St) (H:Hp) (x:V) (v:Value) (Q:Bool->Hp->Prop),Inv X pins σ H s->RelV x v->r x H Q ->
  wpAny (model X.prog X.w) X.A (truthy v) (TP X pins σ Q) X.xe s
noncomputable def tOp (r:R2) (ta tb:TE):TE:=λ σ H Q=>ta σ H λ x H1=>tb σ H1 λ y H2=>r x y H2 Q
noncomputable def tUn (r:V->Hp->VK->Prop) (ta:TE):TE:=λ σ H Q=>ta σ H λ x H1=>r x H1 Q
noncomputable def rI (C:Int->Int->Prop) (g:Int->Int->V):R2:=λ x y H Q=>∃ i j,x=.int i/\y=.int j/\C i j/\Q (g i j) H
noncomputable def rI0 (g:Int->Int->V):R2:=λ x y H Q=>∃ i j,x=.int i/\y=.int j/\Q (g i j) H
noncomputable def rU (g:Int->V):V->Hp->VK->Prop:=λ x H Q=>∃ i,x=.int i/\Q (g i) H
section
variable {X:Cx}{a b c:Expr}{ta tb tc:TE}{pos:Pos}
theorem br8 (ha:PE X a ta) (hb:PE X b tb) {pins:List (Addr×Obj)}{s:Shared}{σ:St}{H:Hp}{R:V->V->Hp->Prop} (I:Inv X pins σ H s)
  (h:ta σ H λ x H1=>tb σ H1 λ y H2=>R x y H2) {Q:Value->Shared->Prop}{f:Value->Value->Sem Value}
  (hf:∀ v u Y x y H2,Inv X pins σ H2 Y->RelV x v->RelV y u->R x y H2->wpAny (model X.prog X.w) X.A (f v u) Q X.xe Y) :
  wpAny (model X.prog X.w) X.A (eval a X.env) (λ v S=>wpAny (model X.prog X.w) X.A (eval b X.env) (λ u O=>wpAny (model X.prog X.w) X.A (f v u) Q X.xe O) X.xe S) X.xe s:=by
 refine thn (ha pins s σ H _ I h) λ v s1 z=>?_
 obtain⟨x,H1,I1,r1,q1⟩:=z;refine thn (hb pins s1 σ H1 _ I1 q1) λ u Y z=>?_
 obtain⟨y,H2,I2,Z,q2⟩:=z;exact hf v u Y x y H2 I2 r1 Z q2
theorem bl6 {op:Operator}{r:R2} (Y:OpR X (binaryOp op) r) (ha:PE X a ta) (hb:PE X b tb):PE X (.BinOp a op b pos) (tOp r ta tb):=by
 intro pins s σ H Q I h;exact wpAny_BinOp (br8 ha hb I h λ v u O x y H2 S z Z q=>Y pins O σ H2 x y v u Q S z Z q)
theorem aW7 {op:UnaryOp}{r:V->Hp->VK->Prop} (Z:UnR X (unaryOp op) r) (ha:PE X a ta):PE X (.UnaryOp op a pos) (tUn r ta):=by
 intro pins s σ H Q I h;exact UnaryOp_ (thn (ha pins s σ H _ I h) λ v z ⟨x,H1,O,Y,S⟩=>Z pins z σ H1 x v Q O Y S)
theorem opI {f:Value->Value->Sem Value}{C:Int->Int->Prop}{g:Int->Int->Int}
  (z:∀ (i j:Int) (t u:Tok) (s:Shared) (Q:Value->Shared->Prop) (E:Value->Shared->Prop),C i j->Q (.int (g i j) s.toks) {s with toks:=s.toks+1}->wpAny (model X.prog X.w) X.A (f (.int i t) (.int j u)) Q E s) :
  OpR X f (rI C λ i j=>.int (g i j)):=by
 intro pins s σ H x y v u Q I O Y h;obtain⟨i,j,rfl,rfl,S,q⟩:=h;obtain⟨t,rfl⟩:=O;obtain⟨t',rfl⟩:=Y;exact z i j t t' s _ _ S ⟨.int (g i j),H,I.tok _,⟨_,rfl⟩,q⟩
theorem bv0 {f:Value->Value->Sem Value}{g:Int->Int->Int}
  (z:∀ (i j:Int) (t u:Tok) (s:Shared) (Q:Value->Shared->Prop) (E:Value->Shared->Prop),Q (.int (g i j) s.toks) {s with toks:=s.toks+1}->wpAny (model X.prog X.w) X.A (f (.int i t) (.int j u)) Q E s) :
  OpR X f (rI0 λ i j=>.int (g i j)):=by
 intro pins s σ H x y v u Q I O S h;obtain⟨i,j,rfl,rfl,q⟩:=h;obtain⟨t,rfl⟩:=O;obtain⟨t',rfl⟩:=S;exact z i j t t' s _ _ ⟨.int (g i j),H,I.tok _,⟨_,rfl⟩,q⟩
theorem bg2 {f:Value->Value->Sem Value}{g:Int->Int->Bool}
  (z:∀ (i j:Int) (t u:Tok) (s:Shared) (Q:Value->Shared->Prop) (E:Value->Shared->Prop),Q (.bool (g i j)) s->wpAny (model X.prog X.w) X.A (f (.int i t) (.int j u)) Q E s) :
  OpR X f (rI0 λ i j=>.bl (g i j)):=by
 intro pins s σ H x y v u Q I O S h;obtain⟨i,j,rfl,rfl,q⟩:=h;obtain⟨t,rfl⟩:=O;obtain⟨t',rfl⟩:=S;exact z i j t t' s _ _ ⟨.bl (g i j),H,I,rfl,q⟩
noncomputable def bK3 (i j:Int):Prop:=0<=j/\j<=1000000/\i.natAbs<2 ^ 64
noncomputable def CMul (i j:Int):Prop:=(-(2 ^ 64)<i/\i<2 ^ 64)\/(-(2 ^ 64)<j/\j<2 ^ 64)
theorem CMul.ok {i j:Int} (h:CMul i j):IntMulOk i j:=by
 rcases h with ⟨h1,h2⟩ | ⟨h1,h2⟩
 ·exact .of_left (intBits_le_64 h1 h2)
 ·exact .of_right (intBits_le_64 h1 h2)
theorem op_add:OpR X (binaryOp .Add) (rI0 λ i j=>.int (i+j)):=bv0 λ _ _ _ _ _ _ _ q=>add_int q
theorem aY3:OpR X (binaryOp .Sub) (rI0 λ i j=>.int (i-j)):=bv0 λ _ _ _ _ _ _ _ q=>sub_int q
theorem aI6:OpR X (binaryOp .Mod) (rI (λ _ j=>j≠0) λ i j=>.int (i.fmod j)):=opI λ _ _ _ _ _ _ _ z q=>mod_int' z q
theorem aY4:OpR X (binaryOp .Pow) (rI bK3 λ i j=>.int (i ^ j.toNat)):=opI λ _ _ _ _ _ _ _ z q=>pow_int_small z.1 z.2.1 z.2.2 q
theorem unI {f:Value->Sem Value}{g:Int->Int}
  (z:∀ (i:Int) (t:Tok) (s:Shared) (Q:Value->Shared->Prop) (E:Value->Shared->Prop),Q (.int (g i) s.toks) {s with toks:=s.toks+1}->wpAny (model X.prog X.w) X.A (f (.int i t)) Q E s) :
  UnR X f (rU λ i=>.int (g i)):=by
 intro pins s σ H x v Q I O h;obtain⟨i,rfl,q⟩:=h;obtain⟨t,rfl⟩:=O;exact z i t s _ _ ⟨.int (g i),H,I.tok _,⟨_,rfl⟩,q⟩
theorem aA3:UnR X (unaryOp .USub) (rU λ i=>.int (-i)):=unI λ _ _ _ _ _ q=>neg_int q
end
section
variable {X:Cx}{a b c:Expr}{ta tb tc:TE}{pos:Pos}
theorem ao2 {pins:List (Addr×Obj)}{σ:St}{H:Hp}{s:Shared}{Q:VK}{k z:Bool} (I:Inv X pins σ H s) (q:Q (.bl k) H) (e:k=z):EP X pins σ Q (.bool z) s:=by
 subst e;exact⟨.bl k,H,I,rfl,q⟩
theorem bl9:OpR X (compareOp .Lt) (rI0 λ i j=>.bl (decide (i<j))):=bg2 λ _ _ _ _ _ _ _ q=>lt_int q
theorem bm0:OpR X (compareOp .LtE) (rI0 λ i j=>.bl (decide (i<=j))):=bg2 λ _ _ _ _ _ _ _ q=>le_int q
theorem bm1:OpR X (compareOp .Gt) (rI0 λ i j=>.bl (decide (j<i))):=bg2 λ _ _ _ _ _ _ _ q=>gt_int q
theorem bm2:OpR X (compareOp .GtE) (rI0 λ i j=>.bl (decide (j<=i))):=bg2 λ _ _ _ _ _ _ _ q=>ge_int q
theorem aj4:OpR X (compareOp .In) (λ x y H Q=>∃ i j,x=.str i/\y=.str j/\Q (.bl (!(Builtin.Str.occurrences j i 0 j.length 1).isEmpty)) H):=by
 intro pins s σ H x y v u Q I z O h;obtain⟨i,j,rfl,rfl,q⟩:=h;obtain⟨t,rfl⟩:=z;obtain⟨t',rfl⟩:=O;exact in_str (ao2 I q rfl)
theorem aY6:OpR X (compareOp .Is) (λ x y H Q=>y=.non/\Q (.bl (decide (x=.non))) H):=by
 intro pins s σ H x y v u Q I z O h;obtain⟨rfl,q⟩:=h;cases O;refine is_none_gen (ao2 I q ?_);cases x <;> first
  |(cases z;rfl)
  |(obtain⟨t,rfl⟩:=z;rfl)
theorem aI5:OpR X (compareOp .IsNot) (λ x y H Q=>y=.non/\Q (.bl (!decide (x=.non))) H):=by
 intro pins s σ H x y v u Q I z O h;obtain⟨rfl,q⟩:=h;cases O;refine isnot_none_gen (ao2 I q ?_);cases x <;> first
  |(cases z;rfl)
  |(obtain⟨t,rfl⟩:=z;rfl)
theorem OpR.or {f:Value->Value->Sem Value}{r O:R2} (h:OpR X f r) (h':OpR X f O):OpR X f (λ x y H Q=>r x y H Q\/O x y H Q):=by
 intro pins s σ H x y v u Q I z S q
 rcases q with q | q
 ·exact h pins s σ H x y v u Q I z S q
 ·exact h' pins s σ H x y v u Q I z S q
theorem aC3 (b:Expr) {op:CmpOp} (h:op≠.In:=by decide) (h2:op≠.NotIn:=by decide):behindInMarks op b=false:=by
 have e1:(op==CmpOp.In)=false:=by cases op <;> first | rfl | exact absurd rfl h
 have e2:(op==CmpOp.NotIn)=false:=by cases op <;> first | rfl | exact absurd rfl h2
 cases b <;> simp[behindInMarks,e1,e2]
theorem aI1 {op:CmpOp}{r:R2} (Y:OpR X (compareOp op) r) (ha:PE X a ta) (hb:PE X b tb) (hm:behindInMarks op b=false):PE X (.Compare a [op] [b] pos) (tOp r ta tb):=by
 intro pins s σ H Q I h;exact wpAny_Compare1 (br8 ha hb I h λ v u O x y H2 S z Z q=>Y pins O σ H2 x y v u Q S z Z q) hm
noncomputable def aF3 (t:TE):TT:=λ σ H Q=>t σ H λ x H'=>∃ k,x=.bl k/\Q k H'
theorem aH4 {op:CmpOp}{r:R2} (ho:OpR X (compareOp op) r) (ha:PE X a ta) (hb:PE X b tb) (hm:behindInMarks op b=false):PT X (.Compare a [op] [b] pos) (aF3 (tOp r ta tb)):=by
 intro pins s σ H Q I h;refine wpAny_isTrue_Compare1 (thn (ha pins s σ H _ I h) λ v Z ⟨x,H1,I1,r1,q1⟩=>thn (hb pins Z σ H1 _ I1 q1) λ u O ⟨y,H2,I2,Y,q2⟩ =>
  thn (ho pins O σ H2 x y v u _ I2 r1 Y q2) λ c s3 ⟨z,S,I3,r3,k,e,q3⟩=>?_) hm
 subst e;cases r3;exact wpAny_truthy_bool ⟨S,I3,q3⟩
noncomputable def aB1 (r Y:R2) (ta tb tc:TE):TE:=λ σ H Q=>ta σ H λ x H1=>tb σ H1 λ y H2=>r x y H2 λ z O=>∃ k,z=.bl k /\
 (if k=true then tc σ O λ S Z=>Y y S Z Q else Q (.bl false) O)
theorem au4 {op O:CmpOp}{r r':R2} (ho:OpR X (compareOp op) r) (Y:OpR X (compareOp O) r') (ha:PE X a ta) (hb:PE X b tb) (hc:PE X c tc)
  (hm:lastMarks [op,O] [b,c]=false:=by with_unfolding_all rfl):PT X (.Compare a [op,O] [b,c] pos) (aF3 (aB1 r r' ta tb tc)):=by
 intro pins s σ H Q I h;refine isTrue_chain (thn (ha pins s σ H _ I h) λ v s1 ⟨x,H1,I1,r1,q1⟩=>test_link (thn (hb pins s1 σ H1 _ I1 q1) λ u s2 ⟨y,H2,I2,r2,q2⟩ =>
  thn (ho pins s2 σ H2 x y v u _ I2 r1 r2 q2) λ d s3 ⟨z,Z,I3,r3,k,e,q3⟩=>?_)) hm
 subst e;cases r3;refine wpAny_truthy_bool ?_;cases k with
 |false =>
  obtain⟨k',e',q'⟩:=q3;cases e';exact ite_ff ⟨Z,I3,q'⟩
 |true =>
  refine ite_tt (test_last (thn (hc pins s3 σ Z _ I3 q3) λ w' s4 ⟨z',H4,I4,r4,q4⟩=>thn (Y pins s4 σ H4 y z' u w' _ I4 r2 r4 q4) λ d' s5 S=>?_))
  obtain⟨z2,H5,I5,r5,k2,e2,q5⟩:=S;subst e2;cases r5;exact wpAny_truthy_bool ⟨H5,I5,q5⟩
noncomputable def bh1 (K:Frag) (x:V) (H:Hp) (k:Bool):Prop :=
 match x with
 |.non=>k=false
 |.bl b=>k=b
 |.int i=>k=(i != 0)
 |.str y=>y.length<=sizeLine/\k=((y.length:Int) != 0)
 |.byt y=>y.size<=sizeLine/\k=((y.size:Int) != 0)
 |.ref p=>(∃ xs,SqL K H p xs/\k=!xs.isEmpty)\/(∃ xs,SqT K H p xs/\k=!xs.isEmpty)\/∃ z,H p=some (.dK z)/\k=!z.isEmpty
 |_=>False
theorem ae9 {κ:Type}{z:List (κ×V)}{vs:List (κ×Value)} (r:KV z vs):(!vs.isEmpty)=!z.isEmpty:=by
 cases r <;> rfl
theorem J_5 {xs:List V}{z:List Value} (r:Vals xs z):(!z.toArray.isEmpty)=!xs.isEmpty:=by
 cases r <;> simp
theorem J_3:(sizeLine:Nat)<2 ^ 63:=by rw[sizeLine_eq];decide
theorem aA6:bK0 X (λ x H Q=>∃ k,bh1 X.K x H k/\Q k H):=by
 intro pins s σ H x v Q I S h;obtain⟨k,e,q⟩:=h;have hl:=J_3;have hs:sizeLine=16777216:=sizeLine_eq;cases x with
 |non =>
  cases S;have e':k=false:=e;subst e';exact truthy_none ⟨H,I,q⟩
 |bl b =>
  cases S;have e':k=b:=e;subst e';exact wpAny_truthy_bool ⟨H,I,q⟩
 |int i =>
  obtain⟨t,rfl⟩:=S;have e':k=(i != 0):=e;subst e';exact PySem.P.truthy_int ⟨H,I,q⟩
 |str y =>
  obtain⟨t,rfl⟩:=S;obtain⟨hy,e'⟩:y.length<=sizeLine/\k=((y.length:Int) != 0):=e;subst e';exact PySem.P.truthy_str (by omega) ⟨H,I.tok _,q⟩
 |byt y =>
  obtain⟨t,rfl⟩:=S;obtain⟨hy,e'⟩:y.size<=sizeLine/\k=((y.size:Int) != 0):=e;subst e';exact PySem.W.truthy_bytes (by omega) ⟨H,I.tok _,q⟩
 |ref p =>
  cases S;have e':(∃ xs,SqL X.K H p xs/\k=!xs.isEmpty)\/(∃ xs,SqT X.K H p xs/\k=!xs.isEmpty)\/∃ z,H p=some (.dK z)/\k=!z.isEmpty:=e
  rcases e' with ⟨xs,hx,e'⟩ | ⟨xs,hx,e'⟩ | ⟨z,hx,e'⟩
  ·subst e'
   obtain⟨Z,r,Y,hz⟩:=I.list hx;have O:=r.length;exact wpAny_truthy_list Y.isList (by simp only[List.size_toArray];omega) ⟨H,I.tok _,by rw[J_5 r];exact q⟩
  ·subst e'
   obtain⟨Z,r,Y,hz⟩:=I.tuple hx;have O:=r.length;exact truthy_tuple Y (by simp only[List.size_toArray];omega) ⟨H,I.tok _,by rw[J_5 r];exact q⟩
  ·subst e'
   obtain⟨hz,hS,vs,r,m⟩:z.length<=sizeLine/\(p==sysModules)=false/\∃ vs,KV z vs/\s.heap.DictOf (f_5 X.prog X.w) p vs:=I.hok p _ hx;have O:z.length=vs.length:=Paired.length r;exact wpAny_truthy_dict hS m (by omega) ⟨H,I.tok _,by rw[ae9 r];exact q⟩
 |_=>exact (show False from e).elim
theorem au3 (ha:PE X a ta) (O:∀ z,isTrue a X.env z=(do let v <- z;standAt a.pos;holding [v] (truthy v))) :
  PT X a (λ σ H Q=>ta σ H λ x H'=>∃ k,bh1 X.K x H' k/\Q k H'):=by
 intro pins s σ H Q I h;exact isTrue_plain (thn (ha pins s σ H _ I h) λ v S ⟨x,H1,Y,r1,Z⟩=>aA6 pins S σ H1 x v Q Y r1 Z) (O _)
theorem op_add_str:OpR X (binaryOp .Add) (λ x y H Q=>∃ i j,x=.str i/\y=.str j/\i.length+j.length<=sizeLine/\Q (.str (i++j)) H):=by
 intro pins s σ H x y v u Q I z O h;obtain⟨i,j,rfl,rfl,hz,q⟩:=h;obtain⟨t,rfl⟩:=z;obtain⟨t',rfl⟩:=O;exact add_str (λ t' tk=>⟨.str (i++j),H,I.tok _,⟨_,rfl⟩,q⟩) hz
theorem y_7 {x:V}{z:List Value} (r:Vals [x] z):∃ u,z=[u]/\RelV x u:=by
 cases r with
 |cons O S=>cases S;exact⟨_,rfl,O⟩
theorem as8 {x y:V}{O:List Value} (r:Vals [x,y] O):∃ u z,O=[u,z]/\RelV x u/\RelV y z:=by
 cases r with
 |cons Z S =>
  cases S with
  |cons r3 Y=>cases Y;exact⟨_,_,rfl,Z,r3⟩
theorem ay4:CallR X (.builtin "abs") (λ xs H Q=>∃ i,xs=[.int i] ∧ Q (.int (if i<0 then -i else i)) H):=by
 intro pins s σ H xs z Q I r h;obtain⟨i,rfl,q⟩:=h;obtain⟨u,rfl,t,rfl⟩:=y_7 r;exact call_abs_int λ u tk=>⟨.int (if i<0 then -i else i),H,I.tok _,⟨_,rfl⟩,q⟩
theorem ap2 (O:X.calm=true):CallR X (.builtin "max") (λ xs H Q=>∃ i j,xs=[.int i,.int j] ∧ Q (.int (if j > i then j else i)) H):=by
 intro pins s σ H xs Y Q I r h;obtain⟨i,j,rfl,q⟩:=h;obtain⟨u,S,rfl,⟨t,rfl⟩,⟨t',rfl⟩⟩:=as8 r;refine max_two_ints (I.ok.hd O) λ h' tk k=>⟨_,H,I.kept k,?_,q⟩
 by_cases z:j > i
 ·rw[if_pos z,if_pos z];exact⟨_,rfl⟩
 ·rw[if_neg z,if_neg z];exact⟨_,rfl⟩
theorem ap0 (O:X.calm=true):CallR X (.builtin "min") (λ xs H Q=>∃ i j,xs=[.int i,.int j] ∧ Q (.int (if j<i then j else i)) H):=by
 intro pins s σ H xs Y Q I r h;obtain⟨i,j,rfl,q⟩:=h;obtain⟨u,S,rfl,⟨t,rfl⟩,⟨t',rfl⟩⟩:=as8 r;refine min_two_ints (I.ok.hd O) λ h' tk k=>⟨_,H,I.kept k,?_,q⟩
 by_cases z:j<i
 ·rw[if_pos z,if_pos z];exact⟨_,rfl⟩
 ·rw[if_neg z,if_neg z];exact⟨_,rfl⟩
end
structure ObjM (h:Heap) (x dx C:Addr) (mA:Str->Option Value):Prop where
 obj:h.get? x=some (PySem.W.instObj C dx)
 ns:h.Ns1 dx mA
 ne:dx≠x
theorem RelO.some_of {v:V}{o:Option Value} (r:RelO (some v) o):∃ u,o=some u/\RelV v u:=by
 cases o with
 |none=>exact (show False from r).elim
 |some u=>exact⟨u,rfl,r⟩
structure Cls (K:Frag) (C:Addr):Prop where
 pg:PySem.W.plainGet K C Str.empty=true
 hd:PySem.W.hasDictIn K C=true
 po:PySem.W.plainOver K C=true
 sa:PySem.W.findIn K (.ref C) "__setattr__"=some (some (.builtin "object.__setattr__"))
theorem Cls.get {K:Frag}{C:Addr} (c:Cls K C) (f:Str):PySem.W.plainGet K C f=true:=c.pg
structure Con (K:Frag) (C:Addr) (f:Str) (v:V) (u:Value):Prop where
 at_:PySem.W.findIn K (.ref C) f=some (some u)
 rel:RelV v u
 get:PySem.W.specialIn K u "__get__"=some none
 cp:PySem.W.copiedNames.contains f=false
structure Meth (K:Frag) (C:Addr) (m:Str) (f:Addr):Prop where
 at_:PySem.W.findIn K (.ref C) m=some (some (.ref f))
 fn:PySem.W.isFn K (.ref f)=true
 kp:keepIn K (.ref f)=true
section
variable {X:Cx}{pins:List (Addr×Obj)}{σ:St}{H:Hp}{s:Shared}{A:Around}{E:Value->Shared->Prop}{Q:Value->Shared->Prop}{c:Value}{b:Bool}
inductive TyOf (K:Frag) (H:Hp):V->Value->Prop where
 |non:TyOf K H .non (.type "NoneType")
 |bl (x:Bool):TyOf K H (.bl x) (.type "bool")
 |int (i:Int):TyOf K H (.int i) (.type "int")
 |str (x:Str):TyOf K H (.str x) (.type "str")
 |flt (x:UInt64):TyOf K H (.flt x) (.type "float")
 |lst {a:Addr}{xs:List V} (e:H a=some (.lst xs)):TyOf K H (.ref a) (.type "list")
 |frz {a:Addr}{o:Obj}{xs:List V} (e:H a=some (.frz o (.lst xs))):TyOf K H (.ref a) (.type "list")
 |tup {a:Addr}{xs:List V} (e:H a=some (.tup xs)):TyOf K H (.ref a) (.type "tuple")
 |dK {a:Addr}{kvs:List (Key×V)} (e:H a=some (.dK kvs)):TyOf K H (.ref a) (.type "dict")
 |dT {a:Addr}{kvs:List (List Key×V)} (e:H a=some (.dT kvs)):TyOf K H (.ref a) (.type "dict")
 |ins {a C dx:Addr}{fs:List (Str×V)} (e:H a=some (.ins C dx fs)) (cl:Cls K C) (ha:PySem.W.findIn K (.ref C) "__class__"=some (some (.builtin "object.__class__")))
   (hn:PySem.W.specialIn K (.builtin "object.__class__") "__get__"=some (some (.builtin "getset_descriptor.__get__"))) (htk:PySem.W.takesIn K (.builtin "object.__class__")=some true)
   (hm:PySem.W.mroIn K C (.type "object")=some true):TyOf K H (.ref a) (.ref C)
end
structure Room (k:Nat) (A:Around):Prop where
 hd:A.handled=none
 dp:A.depth+3*k+5<recursionLimit
 un:A.units+16*k+200<cLine
theorem Room.mono {j k:Nat}{A:Around} (r:Room k A) (h:j<=k):Room j A:=⟨r.hd,by have:=r.dp;omega,by have:=r.un;omega⟩
theorem Room.deeper {k:Nat}{A:Around} (r:Room (k+1) A) (env:Env):Room k (A.deeper env) :=
 ⟨r.hd,by have:=r.dp;show A.depth+1+3*k+5<_;omega,by have:=r.un;show A.units+3+16*k+200<_;omega⟩
theorem Room.in1 {k:Nat}{A:Around} (r:Room (k+1) A):Room k A.in1 :=
 ⟨r.hd,by have:=r.dp;show A.depth+3*k+5<_;omega,by have:=r.un;show A.units+1+16*k+200<_;omega⟩
theorem Room.depth {k:Nat}{A:Around} (r:Room k A):A.depth<recursionLimit:=by have:=r.dp;omega
theorem Room.units {k:Nat}{A:Around} (r:Room k A):A.units+64<cLine:=by have:=r.un;omega
noncomputable def bf4:TA:=λ _ H Q=>Q [] H
noncomputable def at5 (ta:TE) (z:TA):TA:=λ σ H Q=>ta σ H λ x H1=>z σ H1 λ xs H2=>Q (x::xs) H2
section
variable {X:Cx}{e:Expr}{es:List Expr}{te:TE}{t:TA}{pos:Pos}
theorem t_0:PA X [] bf4:=λ _ _ _ _ H Q I h=>Calls.spliced_nil ⟨[],H,I,.nil,h⟩
theorem k_3 (ha:PE X e te) (hr:PA X es t) (S:starEach (e::es) X.env=(false,eval e X.env)::starEach es X.env:=by rfl):PA X (e::es) (at5 te t):=by
 intro pos pins s σ H Q I h;rw[S];show wpAny _ _ (spliced ((false,eval e X.env)::backTo pos (starEach es X.env))) _ _ s;refine Calls.spliced_cons (thn (ha pins s σ H _ I h) λ u Y z=>?_)
 obtain⟨x,H1,Z,r1,q1⟩:=z;exact thn (hr pos pins Y σ H1 _ Z q1) λ us s2 ⟨xs,H2,I2,O,q2⟩=>⟨x::xs,H2,I2,.cons r1 O,q2⟩
noncomputable def bt0 (t:TA):TE:=λ σ H Q=>t σ H λ xs H1=>xs.length<=sizeLine/\∀ p,H1 p=none->Q (.ref p) (upd H1 p (.tup xs))
noncomputable def bt5 (t:TA):TE:=λ σ H Q=>t σ H λ xs H1=>xs.length<=sizeLine/\∀ p,H1 p=none->Q (.ref p) (upd H1 p (.lst xs))
theorem aC0 {x1} (h:PA X es t):PE X (.Tuple es x1 pos) (bt0 t):=by
 intro pins s σ H Q I Y;refine wpAny_Tuple_spliced (thn (h pos pins s σ H _ I Y) λ Z O ⟨xs,H1,S,r,z,q⟩=>⟨by rw[<- r.length];exact z,?_⟩)
 have hf:H1 O.heap.objs.size=none:=S.hok.fresh (qj _);refine⟨.ref O.heap.objs.size,upd H1 O.heap.objs.size (.tup xs),S.laid (t':=O.toks) (λ b u e=>qd _ e) (qj _) ?_,rfl,q _ hf⟩
 exact⟨z,Z,r,⟨_,qk _ rfl,rfl,⟨_,rfl⟩,rfl⟩⟩
theorem aj1 (h:PA X es t):PE X (.List es pos) (bt5 t):=by
 intro pins s σ H Q I Y;refine wpAny_List_spliced (thn (h pos pins s σ H _ I Y) λ Z O ⟨xs,H1,S,r,z,q⟩=>⟨by rw[<- r.length];exact z,?_⟩)
 have hf:H1 O.heap.objs.size=none:=S.hok.fresh (qj _);refine⟨.ref O.heap.objs.size,upd H1 O.heap.objs.size (.lst xs),S.laid (t':=O.toks) (λ b u e=>qd _ e) (qj _) ?_,rfl,q _ hf⟩
 exact⟨z,Z,0,r,qk _ rfl⟩
end
abbrev Sp:=List V->Hp->VK->XK->Prop
abbrev CXT:=List Env->Hp->Shared->XK->Value->Shared->Prop
structure Env0 (P:Program) (w:World) (K:Frag) (mg:Str->Option Value) (base:Heap) (A:Around) (outer:List Env) (s:Shared) (H:Hp):Prop where
 frames:A.frames=some outer
 mod:Mod K mg base
 bs:∀ b o,base.get? b=some o->s.heap.get? b=some o/\H b=none
 bsz:base.objs.size<=s.heap.objs.size
 funs:s.heap.FunFrames base outer
 frf:∀ b∈frs outer,H b=none
 hok:HOk P w H s.heap
 bare:AllBare s.gens
noncomputable def CE (outer:List Env) (P:Program) (w:World) (H:Hp) (s:Shared) (Q:VK) (u:Value) (s':Shared):Prop :=
 ∃ v H',s'.os=s.os/\AllBare s'.gens/\Un (frs outer) [] H H' s.heap s'.heap/\HOk P w H' s'.heap/\RelV v u/\Q v H'
noncomputable def CR (CX:CXT) (outer:List Env) (P:Program) (w:World) (H:Hp) (s:Shared) (Q:VK) (E:XK) (r:Result) (s':Shared):Prop :=
 match r with
 |.ok (.ret u)=>CE outer P w H s Q u s'
 |.ok _=>False
 |.error e=>CX outer H s E e s'
structure FnOk (P:Program) (w:World) (K:Frag) (mg:Str->Option Value) (base:Heap) (CX:CXT) (k:Nat) (f:Addr) (fd:FuncData) (ps:List Str) (sp:Sp):Prop where
 len:∀ vs H Q E,sp vs H Q E->vs.length=ps.length
 run:∀ (A:Around) (outer:List Env) (s:Shared) (H:Hp) (args:Args) (us:List Value) (vs:List V) (Q:VK) (E:XK),Room k A->Env0 P w K mg base A outer s H->BindsTo s fd args (ps.zip us)->Vals vs us->sp vs H Q E ->
  codeAny (model P w) A (.call (.ref f) args) (CR CX outer P w H s Q E) s
theorem FnOk.mono {P:Program}{w:World}{K:Frag}{mg:Str->Option Value}{base:Heap}{CX:CXT}{j k:Nat}{f:Addr}{fd:FuncData}{ps:List Str}{sp:Sp} (F:FnOk P w K mg base CX j f fd ps sp) (h:j<=k) :
  FnOk P w K mg base CX k f fd ps sp:=⟨F.len,λ A outer s H args O vs Q E z=>F.run A outer s H args O vs Q E (z.mono h)⟩
theorem FnOk.imp {P:Program}{w:World}{K:Frag}{mg:Str->Option Value}{base:Heap}{CX:CXT}{k:Nat}{f:Addr}{fd:FuncData}{ps:List Str}{sp z:Sp} (F:FnOk P w K mg base CX k f fd ps sp)
  (h:∀ vs H Q E,z vs H Q E->sp vs H Q E):FnOk P w K mg base CX k f fd ps z :=
 ⟨λ vs H Q E q=>F.len vs H Q E (h _ _ _ _ q),λ A outer s H args Y vs Q E hr O hb Z S=>F.run A outer s H args Y vs Q E hr O hb Z (h _ _ _ _ S)⟩
theorem Env0.in1 {P:Program}{w:World}{K:Frag}{mg:Str->Option Value}{base:Heap}{A:Around}{outer:List Env}{s:Shared}{H:Hp} (e:Env0 P w K mg base A outer s H) :
  Env0 P w K mg base A.in1 outer s H:=⟨e.frames,e.mod,e.bs,e.bsz,e.funs,e.frf,e.hok,e.bare⟩
section
variable {X:Cx}{pins:List (Addr×Obj)}{σ:St}{H:Hp}{s s':Shared}
theorem Inv.env0 (I:Inv X pins σ H s):Env0 X.prog X.w X.K X.mg X.base X.A X.stack s H :=
 ⟨I.ok.frames,I.ok.mod,I.bs,Nat.le_trans I.ok.bsz I.sz,I.stack,I.stkFree,I.hok,I.bare⟩
theorem Inv.after {Q:VK}{u:Value} (I:Inv X pins σ H s) (h:CE X.stack X.prog X.w H s Q u s'):EP X pins σ Q u s':=by
 obtain⟨v,H',Z,O,un,S,r,q⟩:=h;obtain⟨hh,g,d,t,Y⟩:=s';obtain rfl:Y=s.os:=Z;exact⟨v,H',I.call (h':=hh) (g':=g) (d':=d) (t':=t) (ch:=[]) un S O (λ b z=>absurd z (by simp)),r,q⟩
end
noncomputable def bi5 (sp:Sp) (dvs:List V) (E:XK) (t:TA):TE:=λ σ H Q=>t σ H λ vs H1=>sp (vs++dvs) H1 Q E
noncomputable def Binds (K:Frag) (fd:FuncData) (ps:List Str) (ds:List Value):Prop :=
 ∀ (s:Shared) (z:List Value),K.In s.heap->(z++ds).length=ps.length->BindsTo s fd ⟨z,[]⟩ (ps.zip (z++ds))
theorem Binds.all {K:Frag}{fd:FuncData}{ps:List Str} (h:∀ z:List Value,z.length=ps.length->bindArgs fd ⟨z,[]⟩=pure (ps.zip z)):Binds K fd ps []:=λ s z _ hl=>by
 rw[List.append_nil] at hl ⊢;exact .of_eq (h z hl)
noncomputable def ar5 (CX:CXT) (X:Cx) (E:XK):Prop:=∀ (pins:List (Addr×Obj)) (σ:St) (H:Hp) (s:Shared) (e:Value) (s':Shared),Inv X pins σ H s->CX X.stack H s E e s'->X.xe e s'
section
variable {X:Cx}{CX:CXT}{k:Nat}{f C:Addr}{fd:FuncData}{ps:List Str}{sp:Sp}{dvs:List V}{ds:List Value}{E:XK}{x m:Str}{p pos apos:Pos}{e o:Expr}{es:List Expr}{ta:TE}{t:TA}
theorem aU8 {pins:List (Addr×Obj)}{σ:St}{H:Hp}{s:Shared}{Q:VK}{z:List Value}{vs:List V} (F:FnOk X.prog X.w X.K X.mg X.base CX k f fd ps sp) (hr:Room k X.A) (hb:Binds X.K fd ps ds) (hd:Vals dvs ds) (Z:ar5 CX X E)
  (I:Inv X pins σ H s) (r:Vals vs z) (h:sp (vs++dvs) H Q E):wpAny (model X.prog X.w) X.A (call (.ref f) z) (EP X pins σ Q) X.xe s:=by
 have S:Vals (vs++dvs) (z++ds):=r.append hd;have hl:(z++ds).length=ps.length:=by rw[<- S.length];exact F.len _ _ _ _ h
 refine wpAny_call (codeAny_mono (F.run X.A X.stack s H ⟨z,[]⟩ (z++ds) (vs++dvs) Q E hr I.env0 (hb s z I.kIn hl) S h) λ r s' O=>?_)
 cases r with
 |error e=>exact Z pins σ H s e s' I O
 |ok Y =>
  cases Y with
  |ret u=>exact I.after O
  |next=>exact False.elim O
  |brk=>exact False.elim O
  |cont=>exact False.elim O
theorem K_8 (F:FnOk X.prog X.w X.K X.mg X.base CX k f fd ps sp) (hr:Room k X.A) (hg:Gl X x) (hm:X.mg x=some (.ref f)) (hk:keepIn X.K (.ref f)=true) (hb:Binds X.K fd ps ds) (hd:Vals dvs ds) (Z:ar5 CX X E)
  (ha:PA X (e::es) t) (z:(x==("__debug__":Str))=false:=by decide) (Y:starEach (e::es) X.env=(false,eval e X.env)::starEach es X.env:=by rfl) (O:(backTo pos (starEach es X.env)).any (·.1)=false:=by rfl) :
  PE X (.Call (.Name x p) (e::es) [] pos) (bi5 sp dvs E t):=by
 intro pins s σ H Q I h;refine wpAny_Call_Name_kw (al1 I hg hm ?_ z);refine PySem.W.callWith_K (h₀:=X.base) I.ok.mod.kin hk (thn (ha pos pins s σ H _ I h) λ us s1 ⟨vs,H1,S,r,q⟩=>⟨S.kIn,?_⟩) Y O
 exact aU8 F hr hb hd Z S r q
structure Mk (K:Frag) (C f:Addr):Prop where
 makes:PySem.W.makesIn K C=true
 init:PySem.W.findIn K (.ref C) "__init__"=some (some (.ref f))
 fn:PySem.W.isFn K (.ref f)=true
 kp:keepIn K (.ref C)=true
end
section
variable {X:Cx}{CX:CXT}{k:Nat}{f C:Addr}{fd:FuncData}{ps ks:List Str}{sp:Sp}{E:XK}{x m:Str}{p pos apos kpos:Pos}{e o:Expr}{es:List Expr}{kws:List Keyword}{te ta:TE}{t tk:TA}{nm:Option Str}
structure KBinds (K:Frag) (fd:FuncData) (ps ks:List Str) (g:List Value->List Value->List Value) (gV:List V->List V->List V):Prop where
 to:∀ (s:Shared) (us ws:List Value),K.In s.heap->(g us ws).length=ps.length->BindsTo s fd ⟨us,ks.zip ws⟩ (ps.zip (g us ws))
 rel:∀ {vs:List V}{us:List Value}{zs:List V}{ws:List Value},Vals vs us->Vals zs ws->Vals (gV vs zs) (g us ws)
variable {g:List Value->List Value->List Value}{gV:List V->List V->List V}
end
structure FnScope (N P:List Str) (sc:Scope):Prop where
 kind:sc.kind=.function
 co:sc.isCoroutine=false
 gen:sc.isGenerator=false
 nd:N.Nodup
 pre:N.take P.length=P
 par:∀ x∈P,sc.names.lookup x=some .local\/sc.names.lookup x=some .cell
 nofree:∀ y∈sc.names,y.2≠.free
theorem S_8 {z:Str->Option NameKind}{x:Str}:∀ {binds:List (Str×Value)}{m:Str->Option Value},(∀ v,(x,v)∉binds)->bindL z binds m x=m x
 |[],_,_=>rfl
 |(n,v)::r,m,h=>by
  unfold bindL;rw[S_8 λ w hw=>h w (List.mem_cons_of_mem _ hw)]
  split
  ·have:x≠n:=by rintro rfl;exact h v qg
   simp[this]
  ·rfl
theorem T_0 {z:Str->Option NameKind}{x:Str}:∀ {binds:List (Str×Value)}{m:Str->Option Value},(∀ v,(x,v)∉binds)->bindC z binds m x=m x
 |[],_,_=>rfl
 |(n,v)::r,m,h=>by
  unfold bindC;rw[T_0 λ w hw=>h w (List.mem_cons_of_mem _ hw)]
  split
  ·rfl
  ·have:x≠n:=by rintro rfl;exact h v qg
   simp[this]
theorem S_9 {z:Str->Option NameKind}{x:Str}{v:Value}:∀ {P:List Str}{vs:List Value}{i:Nat}{m:Str->Option Value},P.Nodup->P[i]?=some x->vs[i]?=some v->z x=some .local ->
  bindL z (P.zip vs) m x=some v
 |[],_,_,_,_,h,_,_=>by simp at h
 |_::_,[],_,_,_,_,h,_=>by simp at h
 |p::P,w::vs,0,m,nd,h1,h2,hk=>by
  simp at h1 h2;subst h1;subst h2;show bindL z ((p,w)::P.zip vs) m p=_;unfold bindL;rw[S_8 λ v O=>(List.nodup_cons.mp nd).1 (List.of_mem_zip O).1,if_pos hk]
  simp
 |p::P,w::vs,i+1,m,nd,h1,h2,hk=>by
  show bindL z ((p,w)::P.zip vs) m x=_;unfold bindL;exact S_9 (i:=i) (List.nodup_cons.mp nd).2 (by simpa using h1) (by simpa using h2) hk
theorem T_1 {z:Str->Option NameKind}{x:Str}{v:Value}:∀ {P:List Str}{vs:List Value}{i:Nat}{m:Str->Option Value},P.Nodup->P[i]?=some x->vs[i]?=some v->z x≠some .local ->
  bindC z (P.zip vs) m x=some v
 |[],_,_,_,_,h,_,_=>by simp at h
 |_::_,[],_,_,_,_,h,_=>by simp at h
 |p::P,w::vs,0,m,nd,h1,h2,hk=>by
  simp at h1 h2;subst h1;subst h2;show bindC z ((p,w)::P.zip vs) m p=_;unfold bindC;rw[T_0 λ v O=>(List.nodup_cons.mp nd).1 (List.of_mem_zip O).1,if_neg hk]
  simp
 |p::P,w::vs,i+1,m,nd,h1,h2,hk=>by
  show bindC z ((p,w)::P.zip vs) m x=_;unfold bindC;exact T_1 (i:=i) (List.nodup_cons.mp nd).2 (by simpa using h1) (by simpa using h2) hk
noncomputable def start (N:List Str) (vs:List V):St:=vs.map some++List.replicate (N.length-vs.length) none
noncomputable def as2 (CX:CXT) (P:Program) (w:World) (K:Frag) (mg:Str->Option Value) (base:Heap) (N:List Str) (z:Str) (scope:Scope) (f:Addr) (S:Value) (A:Around) (outer:List Env) (s:Shared) (H:Hp) (E:XK):Cx where
 prog:=P
 w:=w
 K:=K
 mg:=mg
 base:=base
 A:=A.deeper (envOfC z scope s.heap.objs.size f S)
 N:=N
 s₀:=s
 H₀:=H
 env:=envOfC z scope s.heap.objs.size f S
 outer:=outer
 stack:=envOfC z scope s.heap.objs.size f S::outer
 ex:=[]
 calm:=true
 fn:=λ _=>true
 pn:=[]
 xe:=λ e s'=>wpAny (model P w) (A.deeper (envOfC z scope s.heap.objs.size f S)) (leaving (envOfC z scope s.heap.objs.size f S) e) (λ _ O=>CX outer H s E e O) (λ e' O=>CX outer H s E e' O) s'
theorem ab9 {sc:Scope}{n:Nat}{x:Str} (h:sc.names.lookup x=some .cell):∃ c,(cellsFrom n sc.names []).lookup x=some c:=by
 have q:=PySem.W.cellsFrom_some sc.names n [] (.inl h);exact Option.isSome_iff_exists.mp q
theorem am1 {CX:CXT}{P:Program}{w:World}{K:Frag}{mg:Str->Option Value}{base:Heap}{N ps:List Str}{O:Str}{scope:Scope}{f:Addr}{cd:Value}{A:Around}{outer:List Env}{s s1:Shared}{H:Hp}{E:XK}{us:List Value}{vs:List V}
  (S:FnScope N ps scope) (hd:A.handled=none) (Y:Env0 P w K mg base A outer s H) (hl:vs.length=ps.length) (r:Vals vs us)
  (x:InCallC s s.heap.objs.size (bindL (envOfC O scope s.heap.objs.size f cd).kindOf (ps.zip us) λ _=>none) (cellsFrom (s.heap.objs.size+1) scope.names []) (bindC (envOfC O scope s.heap.objs.size f cd).kindOf (ps.zip us) λ _=>none) s1) :
  Inv (as2 CX P w K mg base N O scope f cd A outer s H E) [] (start N vs) H s1:=by
 have ac:ps.length<=N.length:=by have:=congrArg List.length S.pre;rw[List.length_take] at this;omega
 obtain⟨h1,tk,rfl,hk⟩:=x.done;have aa:∀ b:Addr,b∉(as2 CX P w K mg base N O scope f cd A outer s H E).ex:=λ b z=>absurd (show b∈([]:List Addr) from z) (by simp)
 refine⟨⟨Y.mod,S.kind,rfl,rfl,qj _,λ y z c h1 h2=>?_,λ y Z=>?_,λ y c _ h=>?_,λ _=>hd,Around.frames_deeper Y.frames,.inr ⟨rfl,rfl⟩,λ b z=>absurd z (aa b),Y.bs,Y.bsz,λ b _ _=>aa b,λ b z=>absurd z (aa b),Y.funs,Y.frf⟩,
  rfl,Y.bare,Un.kept hk,⟨_,x.toInCall.ns,λ i y v h1 h2 h3=>?_⟩,λ y c h=>⟨_,x.cell y c h⟩,Y.hok.fresh (qj _),λ y c h=>?_,λ p hp=>absurd (show p∈([]:List (Addr×Obj)) from hp) (by simp),Y.hok.kept hk,?_⟩
 ·exact name_of_addr x.apart (PySem.mem_of_lookup h1) (PySem.mem_of_lookup h2)
 ·have Z:scope.names.lookup y=some .cell\/scope.names.lookup y=some .free:=Z
  rcases Z with Z | Z
  ·exact ab9 Z
  ·exact absurd rfl (S.nofree _ (PySem.mem_of_lookup Z))
 ·exact Nat.le_of_lt (x.above y c (PySem.mem_of_lookup h))
 ·have hi:i<vs.length:=by
   unfold start at h2
   by_cases hi:i<vs.length
   ·exact hi
   ·rw[List.getElem?_append_right (by simpa using hi)] at h2
    rw[List.getElem?_replicate] at h2
    split at h2 <;> cases h2
  have ha:vs[i]?=some v:=by
   unfold start at h2;rw[List.getElem?_append_left (by simpa using hi),List.getElem?_map] at h2
   cases e:vs[i]? with
   |none=>rw[e] at h2;cases h2
   |some a=>rw[e] at h2;cases h2;rfl
  obtain⟨u,hu,rv⟩:=r.get ha
  have hp:ps[i]?=some y:=by
   rw[<- S.pre,List.getElem?_take_of_lt (by omega)];exact h1
  have ab:ps.Nodup:=by rw[<- S.pre];exact S.nd.sublist (List.take_sublist _ _)
  refine⟨u,rv,?_⟩
  rcases S.par y (List.mem_of_getElem? hp) with k | k
  ·exact .inl ⟨k,S_9 ab hp hu k⟩
  ·obtain⟨c,e⟩:=ab9 (n:=s.heap.objs.size+1) k
   refine .inr ⟨.inl k,c,e,?_⟩;have q:=x.cell y c e;rw[T_1 ab hp hu (by show scope.names.lookup y≠_;rw[k];decide)] at q
   exact q
 ·exact Y.hok.fresh (Nat.le_of_lt (x.above y c (PySem.mem_of_lookup h)))
 ·unfold start
  show _=N.length;rw[List.length_append,List.length_map,List.length_replicate];omega
theorem bo4 {CX:CXT}{P:Program}{w:World}{K:Frag}{mg:Str->Option Value}{base:Heap}{k:Nat}{f:Addr}{name z:Str}{Y:Arguments}{body:List Stmt}{scope:Scope}{dV kV af pm O ct oc:Value}{an od:Option Addr}
  {ah:Array (Option Value)}{N ps:List Str}{sp:Sp} (lk:K.lookup f=some ⟨oc,od,.func (fnOf name z Y body scope dV kV af pm an O ct),ah⟩) (ag:codeIn K O z=true) (S:FnScope N ps scope)
  (ae:∀ vs H Q E,sp vs H Q E->vs.length=ps.length)
  (aa:∀ (A:Around) (outer:List Env) (s:Shared) (H:Hp) (vs:List V) (Q:VK) (E:XK),Room k (A.deeper (envOfC z scope s.heap.objs.size f O))->sp vs H Q E ->
   ∃ t,PSs (as2 CX P w K mg base N z scope f O A outer s H E) body t/\t {nx:=λ _ H'=>Q .non H',rt:=Q} (start N vs) H) :
  FnOk P w K mg base CX (k+1) f (fnOf name z Y body scope dV kV af pm an O ct) ps sp:=by
 refine⟨ae,λ A outer s H args us vs Q E hr e0 hb r ad=>?_⟩
 have hl:=ae _ _ _ _ ad;have KX:K.In s.heap:=e0.mod.kin.keeps λ b o e=>(e0.bs b o e).1
 have ai:s.heap.NoLimit:=e0.mod.nolimit.keeps λ b o e=>(e0.bs b o e).1
 have ab:∀ y∈ps.zip us,scope.names.lookup y.1=some .local\/(scope.names.lookup y.1=some .cell/\((cellsFrom (s.heap.objs.size+1) scope.names []).lookup y.1).isSome=true):=λ ac hy=>by
  obtain⟨n,v⟩:=ac
  rcases S.par n (List.of_mem_zip hy).1 with q | q
  ·exact .inl q
  ·exact .inr ⟨q,PySem.W.cellsFrom_some _ _ _ (.inl q)⟩
 refine codeAny_call_function hr.depth (KX _ _ lk) rfl S.co S.gen rfl (PySem.W.codeRec_of KX ag) (hb _ _ _ _ ?_);refine wpAny_newFunctionEnv_cells S.kind ab λ env he s1 x=>?_
 subst he;refine⟨ai.keeps x.toInCall.keep,codeAny_func ?_⟩;obtain⟨t,ht,hq⟩:=aa A outer s H vs Q E (hr.deeper _) ad;have I:Inv (as2 CX P w K mg base N z scope f O A outer s H E) [] (start N vs) H s1:=am1 S hr.hd e0 hl r x;refine wpAny_mono (ht [] s1 (start N vs) H _ I hq) (λ fl s' hs=>?_) λ e s' hs=>hs
 have fin:∀ {Z:St}{H':Hp}{v:V}{u:Value},Inv (as2 CX P w K mg base N z scope f O A outer s H E) [] Z H' s'->RelV v u->Q v H'->CE outer P w H s Q u s' :=
  λ {Z H' v u} J rv q=>⟨v,H',J.os,J.bare,J.base,J.hok,rv,q⟩
 cases fl with
 |ret u =>
  obtain⟨v,Z,H',J,rv,q⟩:=hs;exact fin J rv q
 |next =>
  obtain⟨Z,H',J,q⟩:=hs;exact fin (v:=V.non) (u:=Value.none) J rfl q
 |brk =>
  obtain⟨_,_,_,q⟩:=hs;exact False.elim q
 |cont =>
  obtain⟨_,_,_,q⟩:=hs;exact False.elim q
section
variable {X:Cx}{x:Str}{p pos:Pos}{e:Expr}{es:List Expr}{t:TA}{id T:String}{r:List V->Hp->VK->Prop}
noncomputable def tCB (r:List V->Hp->VK->Prop) (t:TA):TE:=λ σ H Q=>t σ H λ vs H1=>r vs H1 Q
theorem Z_9 (Y:CallR X (.builtin id) r) (hg:Gl X x) (hm:X.mg x=none) (hv:bootBuiltins x=some (.builtin id)) (ha:PA X (e::es) t) (hn:x≠"__name__":=by decide) (z:(x==("__debug__":Str))=false:=by decide)
  (S:starEach (e::es) X.env=(false,eval e X.env)::starEach es X.env:=by rfl) (O:(backTo pos (starEach es X.env)).any (·.1)=false:=by rfl):PE X (.Call (.Name x p) (e::es) [] pos) (tCB r t):=by
 intro pins s σ H Q I h;refine wpAny_Call_Name_kw (R_4 I hg hm hv ?_ hn z);exact PyProof.Rows.callWith_builtin1 (thn (ha pos pins s σ H _ I h) λ Z s1 ⟨vs,H1,I1,r1,q1⟩=>Y pins s1 σ H1 vs Z Q I1 r1 q1) S O
theorem D_9 (Y:CallR X (.type T) r) (hg:Gl X x) (hm:X.mg x=none) (hv:bootBuiltins x=some (.type T)) (ha:PA X (e::es) t) (hn:x≠"__name__":=by decide) (z:(x==("__debug__":Str))=false:=by decide)
  (S:starEach (e::es) X.env=(false,eval e X.env)::starEach es X.env:=by rfl) (O:(backTo pos (starEach es X.env)).any (·.1)=false:=by rfl):PE X (.Call (.Name x p) (e::es) [] pos) (tCB r t):=by
 intro pins s σ H Q I h;refine wpAny_Call_Name_kw (R_4 I hg hm hv ?_ hn z);exact PyProof.Rows.callWith_type1 (thn (ha pos pins s σ H _ I h) λ Z s1 ⟨vs,H1,I1,r1,q1⟩=>Y pins s1 σ H1 vs Z Q I1 r1 q1) S O
end
end L2
namespace HT
open PySem PyProof.Rows
section
variable {prog:Program}{w:World}{A:Around}{E:Value->Shared->Prop}{s:Shared}
noncomputable def sIx (n d:Nat):Option Int->Nat
 |none=>d
 |some v=>if v<0 then (v+(n:Int)).toNat else min v.toNat n
theorem aU4 (n d:Nat) (O:d<=n) (o:Option Int):sIx n d o<=n:=by
 cases o with
 |none=>exact O
 |some v =>
  show (if v<0 then (v+(n:Int)).toNat else min v.toNat n)<=n
  by_cases z:v<0
  ·rw[if_pos z];omega
  ·rw[if_neg z];exact Nat.min_le_right _ _
theorem ao7 (v:Int) (n d:Nat):(if v<0 then max (v+(n:Int)) 0 else min v (n:Int))=((sIx n d (some v):Nat):Int):=by
 show (if v<0 then max (v+(n:Int)) 0 else min v (n:Int))=(((if v<0 then (v+(n:Int)).toNat else min v.toNat n):Nat):Int)
 by_cases z:v<0
 ·simp only[if_pos z];omega
 ·simp only[if_neg z];omega
theorem af8 (lo hi:Option Int) (n:Nat):Builtin.Slice.sliceAdjust lo hi 1 (n:Int)=(((sIx n 0 lo:Nat):Int),((sIx n n hi:Nat):Int)):=by
 have h1:¬ ((1:Int)<0):=by omega
 unfold Builtin.Slice.sliceAdjust;simp only[h1,if_false];refine Prod.ext ?_ ?_
 ·cases lo with
  |none=>rfl
  |some v=>exact ao7 v n 0
 ·cases hi with
  |none=>rfl
  |some v=>exact ao7 v n n
theorem ae1 (i j:Nat):Builtin.Slice.slicePlaces (i:Int) (j:Int) 1=j-i:=by
 unfold Builtin.Slice.slicePlaces;have h1:(1:Int) > 0:=by omega
 simp only[h1,if_true,Int.ediv_one]
 split <;> omega
theorem I_6 {v:Value}{o:Option Int}{Q:Option Int->Shared->Prop} (p:IsPart v o) (h:Q o s):wpAny (model prog w) A (Builtin.Slice.slicePartIndex v) Q E s:=by
 cases p with
 |none=>exact slicePart_none h
 |int i t=>exact slicePart_int h
theorem B_1 {Z:Addr}{S Y:Value}{lo hi:Option Int}{n:Nat}{Q:Int×Int×Nat->Shared->Prop} (hs:s.heap.IsSliceOf Z S Y .none) (pl:IsPart S lo) (pu:IsPart Y hi)
  (h:Q (((sIx n 0 lo:Nat):Int),1,sIx n n hi-sIx n 0 lo) s):wpAny (model prog w) A (Builtin.Slice.sliceApplied (.ref Z) (pure (n:Int))) Q E s:=by
 obtain⟨os,O,aa,z⟩:=id hs;unfold Builtin.Slice.sliceApplied Builtin.Slice.sliceFields;refine qb (qb (wpAny_field O z (x:=S) rfl (qb (wpAny_field O z (x:=Y) rfl (qb (wpAny_field O z (x:=.none) rfl (qc ?_)))))));refine qb (slicePart_none ?_);show wpAny _ _ (if ((1:Int)==0)=true then _ else _) _ _ s;rw[if_neg (by decide)]
 refine qb (I_6 pl (qb (I_6 pu (qb (qc ?_)))));show wpAny _ _ (match Builtin.Slice.sliceAdjust lo hi 1 (n:Int) with | (lo,hi)=>pure (lo,(1:Int),Builtin.Slice.slicePlaces lo hi 1)) _ _ s
 rw[af8 lo hi n];show wpAny _ _ (pure (((sIx n 0 lo:Nat):Int),(1:Int),Builtin.Slice.slicePlaces ((sIx n 0 lo:Nat):Int) ((sIx n n hi:Nat):Int) 1)) _ _ s;rw[ae1];exact qc h
theorem au7 (xs:Array Value) (i k:Nat):((List.range k).filterMap λ (m:Nat)=>xs[((i:Int)+(m:Int)*1).toNat]?).toArray=((xs.toList.drop i).take k).toArray:=by
 have e:(λ (m:Nat)=>xs[((i:Int)+(m:Int)*1).toNat]?)=λ m=>xs[i+m]?:=by
  funext m
  have:((i:Int)+(m:Int)*1).toNat=i+m:=by omega
  rw[this]
 rw[e];have:=pick_run xs i k;rw[List.filterMap_map] at this;have e2:((λ x=>xs[x]?) ∘ λ x=>i+x)=λ m=>xs[i+m]?:=rfl
 rw[e2] at this;rw[this]
theorem getItem_tuple_cut {t sl:Addr}{items:Array Value}{vl vu:Value}{lo hi:Option Int}{Q:Value->Shared->Prop} (ht:IsTup s.heap t items) (hs:s.heap.IsSliceOf sl vl vu .none) (pl:IsPart vl lo) (pu:IsPart vu hi)
  (hw:¬ (sIx items.size 0 lo=0/\sIx items.size items.size hi=items.size))
  (h:Q (.ref s.heap.objs.size) {s with heap:=s.heap.push {cls:=.type "tuple",data:=.seq ((items.toList.drop (sIx items.size 0 lo)).take (sIx items.size items.size hi-sIx items.size 0 lo)).toArray}})
  (aa:items.size<=sizeLine):wpAny (model prog w) A (getItem (.ref t) (.ref sl)) Q E s:=by
 have z:sizeOk (.seq ((items.toList.drop (sIx items.size 0 lo)).take (sIx items.size items.size hi-sIx items.size 0 lo)).toArray):=by
  show ((items.toList.drop (sIx items.size 0 lo)).take (sIx items.size items.size hi-sIx items.size 0 lo)).toArray.size<=sizeLine;rw[List.size_toArray,List.length_take,List.length_drop,Array.length_toList];omega
 have hj:sIx items.size items.size hi<=items.size:=aU4 _ _ (qj _) hi;obtain⟨os,Z,S,ab⟩:=id hs;have Y:s.TypeIs (.ref sl) "slice":=⟨os,Z,S⟩;unfold getItem
 try with_reducible refine wpAny_holding ?_
 first | refine qb (qc ?_) | skip
 refine qb (wpAny_sequenceKey ht.typeIs (by decide) ?_)
 refine qb (wpAny_callSpecial?_slot (name:=Str.ofString "__getitem__") ht.typeIs PyProof.Rows.slot_tuple_getitem
  (wpAny_call_entry PyProof.Rows.slot_tuple_getitem ht.typeIs entry_tuple_getitem ?_ (args_tuple_getitem _ _)))
 show wpAny _ _ (Builtin.Tuple.tupleItemsOf (.ref t) >>= _) _ _ s;refine qb (tupleItemsOf_ ht ?_);refine qb (wpAny_typeOf Y ?_);rw[if_pos (by decide)]
 refine qb (B_1 hs pl pu ?_)
 have O:¬ ((((sIx items.size 0 lo:Nat):Int)==0&&(1:Int)==1&&(sIx items.size items.size hi-sIx items.size 0 lo)==items.size)=true):=by
  intro q;rw[Bool.and_eq_true,Bool.and_eq_true] at q;have q1:((sIx items.size 0 lo:Nat):Int)=0:=eq_of_beq q.1.1;have q2:sIx items.size items.size hi-sIx items.size 0 lo=items.size:=eq_of_beq q.2;exact hw ⟨by omega,by omega⟩
 show wpAny _ _ (if (((sIx items.size 0 lo:Nat):Int)==0&&(1:Int)==1&&(sIx items.size items.size hi-sIx items.size 0 lo)==items.size)=true then _ else _) _ _ s;rw[if_neg O,au7]
 first
  |exact qb (m:=Builtin.Tuple.tupleExact _) (wpAny_newObj_type (qc ⟨_,rfl,qc h⟩) z)
  |exact qb (m:=Builtin.Tuple.tupleExact _) (wpAny_newObj_type (qb (qc (qc ⟨_,rfl,qc h⟩))) z)
  |exact qb (qb (m:=Builtin.Tuple.tupleExact _) (wpAny_newObj_type (qc (qc ⟨_,rfl,qc h⟩)) z))
  |exact qb (qb (m:=Builtin.Tuple.tupleExact _) (wpAny_newObj_type (qc ⟨_,rfl,qc h⟩) z))
end
end HT
namespace L2
open PySem PySem.Spec PyProof.Rows
abbrev TO:=St->Hp->(Option Int->Hp->Prop)->Prop
noncomputable def PO (X:Cx) (e:Option Expr) (t:TO):Prop :=
 ∀ (pins:List (Addr×Obj)) (s:Shared) (σ:St) (H:Hp) (Q:Option Int->Hp->Prop),Inv X pins σ H s->t σ H Q ->
  wpAny (model X.prog X.w) X.A (evalPart e X.env) (λ u s'=>∃ o H',Inv X pins σ H' s'/\IsPart u o/\Q o H') X.xe s
noncomputable def aF4:TO:=λ _ H Q=>Q none H
noncomputable def bh9 (t:TE):TO:=λ σ H Q=>t σ H λ x H1=>∃ i,x=.int i/\Q (some i) H1
theorem intsAre_of {O:List Int}:∀ {z:List Value},Vals (O.map V.int) z->IntsAre z O:=by
 induction O with
 |nil=>intro z r;rw[List.map_nil] at r;cases r;exact .nil
 |cons n O Y =>
  intro z r;rw[List.map_cons] at r;cases r with
  |cons Z S =>
   obtain⟨t,e⟩:=Z;subst e;exact .cons n t (Y S)
section
variable {X:Cx}{e:Expr}{te:TE}{lo hi:Option Expr}{tl th:TO}{pos p2:Pos}
theorem aH6:PO X none aF4:=by
 intro pins s σ H Q I h;rw[evalPart_none];exact qc ⟨none,H,I,.none,h⟩
theorem aH5 (h:PE X e te):PO X (some e) (bh9 te):=by
 intro pins s σ H Q I hw;rw[evalPart_some];refine thn (h pins s σ H _ I hw) λ u Z z=>?_
 obtain⟨x,H1,O,Y,S⟩:=z;obtain⟨i,rfl,q⟩:=S;obtain⟨t,rfl⟩:=Y;exact⟨some i,H1,O,.int i t,q⟩
noncomputable def SlR (X:Cx) (r:V->Option Int->Option Int->Hp->VK->Prop):Prop :=
 ∀ (pins:List (Addr×Obj)) (s:Shared) (σ:St) (H:Hp) (x:V) (v O S:Value) (lo hi:Option Int) (z:Addr) (Q:VK),Inv X pins σ H s->RelV x v->s.heap.IsSliceOf z O S .none->IsPart O lo->IsPart S hi->r x lo hi H Q ->
  ∃ T id,typeLookup (.type T) "__getitem__"=pure (some (.builtin id)) ∧ s.TypeIs v T ∧ wpAny (model X.prog X.w) X.A (getItem v (.ref z)) (EP X pins σ Q) X.xe s
theorem SlR.or {r Y:V->Option Int->Option Int->Hp->VK->Prop} (h:SlR X r) (h':SlR X Y):SlR X (λ x lo hi H Q=>r x lo hi H Q\/Y x lo hi H Q):=by
 intro pins s σ H x v O Z lo hi sl Q I z S pl pu q
 rcases q with q | q
 ·exact h pins s σ H x v O Z lo hi sl Q I z S pl pu q
 ·exact h' pins s σ H x v O Z lo hi sl Q I z S pl pu q
noncomputable def tSl (r:V->Option Int->Option Int->Hp->VK->Prop) (te:TE) (tl th:TO):TE:=λ σ H Q=>te σ H λ x H1=>tl σ H1 λ l H2=>th σ H2 λ u z=>r x l u z Q
theorem av0 {r:V->Option Int->Option Int->Hp->VK->Prop} (hr:SlR X r) (he:PE X e te) (hl:PO X lo tl) (hu:PO X hi th):PE X (.Subscript e (.Slice lo hi none p2) pos) (tSl r te tl th):=by
 intro pins s σ H Q I h;refine Subscript_ (thn (he pins s σ H _ I h) λ v s1 z=>?_)
 obtain⟨x,H1,I1,r1,q1⟩:=z;refine wpAny_Slice (thn (hl pins s1 σ H1 _ I1 q1) λ Y s2 ⟨l,H2,I2,pl,q2⟩=>thn (hu pins s2 σ H2 _ I2 q2) λ S O z=>?_)
 obtain⟨u,Z,I3,pu,q3⟩:=z;rw[evalPart_none];refine qc ?_;have I4:Inv X pins σ Z {O with heap:=O.heap.push {cls:=.type "slice",data:=.fields #[Y,S,.none]}}:=I3.kept (t':=O.toks) λ b ob q=>qd _ q
 obtain⟨T,id,hT,ht,hg⟩:=hr pins {O with heap:=O.heap.push {cls:=.type "slice",data:=.fields #[Y,S,.none]}} σ Z x v Y S l u O.heap.objs.size Q I4 r1 (Heap.IsSliceOf.new ..) pl pu q3
 show wpAny (model X.prog X.w) X.A (subscriptTail e (.Slice lo hi none p2) v (.ref O.heap.objs.size)) (EP X pins σ Q) X.xe {O with heap:=O.heap.push {cls:=.type "slice",data:=.fields #[Y,S,.none]}}
 exact tail_any (ops:=[.ref O.heap.objs.size,v]) ht hT hg (by with_unfolding_all rfl)
noncomputable def as3 (xs:List V) (lo hi:Option Int):List V:=(xs.drop (HT.sIx xs.length 0 lo)).take (HT.sIx xs.length xs.length hi-HT.sIx xs.length 0 lo)
theorem G_0 (xs:List V) (lo hi:Option Int):(as3 xs lo hi).length<=xs.length:=by
 unfold as3;rw[List.length_take,List.length_drop];omega
noncomputable def bE6 (K:Frag):V->Option Int->Option Int->Hp->VK->Prop:=λ x lo hi H Q=>∃ a xs,x=.ref a/\SqT K H a xs /\
 ¬ (HT.sIx xs.length 0 lo=0/\HT.sIx xs.length xs.length hi=xs.length)/\∀ p,H p=none->Q (.ref p) (upd H p (.tup (as3 xs lo hi)))
theorem aT7:SlR X (bE6 X.K):=by
 intro pins s σ H x v vl vu lo hi sl Q I S Y pl pu h;obtain⟨a,xs,rfl,Z,hw,q⟩:=h;cases S;obtain⟨O,r,ht,hz⟩:=I.tuple Z;have z:O.toArray.size=xs.length:=by rw[List.size_toArray];exact r.length.symm
 refine⟨"tuple",_,PyProof.Rows.slot_tuple_getitem.lookup,ht.typeIs,?_⟩;refine HT.getItem_tuple_cut ht Y pl pu (by rw[z];exact hw) ?_ (by rw[z];exact hz)
 rw[z];refine⟨.ref s.heap.objs.size,_,I.laid (t':=s.toks) (o:=.tup (as3 xs lo hi)) (λ b ob q=>qd _ q) (qj _) ?_,rfl,q _ (I.hok.fresh (qj _))⟩
 exact⟨Nat.le_trans (G_0 xs lo hi) hz,_,(r.drop (HT.sIx xs.length 0 lo)).take (HT.sIx xs.length xs.length hi-HT.sIx xs.length 0 lo),IsTuN.new _ _⟩
end
noncomputable def ixN (n:Nat) (i:Int):Option Nat:=if 0<=i then (if i<n then some i.toNat else none) else if -(n:Int)<=i then some (i+n).toNat else none
noncomputable def atI {α:Type} (xs:List α) (i:Int):Option α:=(ixN xs.length i).bind λ j=>xs[j]?
theorem aK4 {n:Nat}{i:Int}{j:Nat} (h:ixN n i=some j):seqIndex? i n=some j/\j<n/\-(n:Int)<=i/\i<n:=by
 unfold ixN at h
 by_cases z:0<=i
 ·rw[if_pos z] at h
  by_cases h1:i<n
  ·rw[if_pos h1] at h
   have e:i.toNat=j:=qi h;exact⟨by rw[seqIndex_of z h1,e],by omega,by omega,h1⟩
  ·rw[if_neg h1] at h;cases h
 ·rw[if_neg z] at h
  by_cases h1:-(n:Int)<=i
  ·rw[if_pos h1] at h
   have e:(i+n).toNat=j:=qi h;exact⟨by rw[seqIndex_neg (by omega) h1,e],by omega,h1,by omega⟩
  ·rw[if_neg h1] at h;cases h
theorem X_2 {α:Type}{xs:List α}{i:Int}{v:α} (h:atI xs i=some v):∃ j,seqIndex? i xs.length=some j/\xs[j]?=some v/\j<xs.length/\-(xs.length:Int)<=i/\i<xs.length:=by
 unfold atI at h;cases e:ixN xs.length i with
 |none=>rw[e] at h;cases h
 |some j =>
  rw[e] at h;obtain⟨h1,h2,z,O⟩:=aK4 e;exact⟨j,h1,h,h2,z,O⟩
noncomputable def X_4 (b:Expr):Prop:=∀ o i,subscripted b false o i=operate [o,i] (getItem o i)
noncomputable def IxR (X:Cx) (r:R2):Prop :=
 ∀ (value z:Expr) (pins:List (Addr×Obj)) (s:Shared) (σ:St) (H:Hp) (x y:V) (v u:Value) (Q:VK),Inv X pins σ H s->RelV x v->RelV y u->r x y H Q ->
  subscripted z false v u=operate [v,u] (getItem v u)->wpAny (model X.prog X.w) X.A (subscriptTail value z v u) (EP X pins σ Q) X.xe s
noncomputable def MtR (X:Cx) (id:String) (r:V->List V->Hp->VK->Prop):Prop :=
 ∀ (pins:List (Addr×Obj)) (s:Shared) (σ:St) (H:Hp) (x:V) (xs:List V) (v:Value) (z:List Value) (Q:VK),Inv X pins σ H s->RelV x v->Vals xs z->r x xs H Q ->
  wpAny (model X.prog X.w) X.A (call (.builtin id) (v::z)) (EP X pins σ Q) X.xe s
section
variable {X:Cx}{a b:Expr}{ta tb:TE}{pos:Pos}
theorem IxR.or {r Y:R2} (h:IxR X r) (h':IxR X Y):IxR X (λ x y H Q=>r x y H Q\/Y x y H Q):=by
 intro value z pins s σ H x y v u Q I O Z q S
 rcases q with q | q
 ·exact h value z pins s σ H x y v u Q I O Z q S
 ·exact h' value z pins s σ H x y v u Q I O Z q S
theorem MtR.or {id:String}{r S:V->List V->Hp->VK->Prop} (h:MtR X id r) (h':MtR X id S):MtR X id (λ x xs H Q=>r x xs H Q\/S x xs H Q):=by
 intro pins s σ H x xs v Y Q I z O q
 rcases q with q | q
 ·exact h pins s σ H x xs v Y Q I z O q
 ·exact h' pins s σ H x xs v Y Q I z O q
theorem aI0 {r:R2} (hr:IxR X r) (ha:PE X a ta) (hb:PE X b tb) (S:X_4 b):PE X (.Subscript a b pos) (tOp r ta tb):=by
 intro pins s σ H Q I h;exact Subscript_ (br8 ha hb I h λ v u O x y H2 Y z Z q=>hr a b pins O σ H2 x y v u Q Y z Z q (S _ _))
noncomputable def bu6 (K:Frag):R2:=λ x y H Q=>∃ p xs i v,x=.ref p/\y=.int i/\SqL K H p xs/\atI xs i=some v/\Q v H
noncomputable def bf9 (K:Frag):R2:=λ x y H Q=>∃ p xs i v,x=.ref p/\y=.int i/\SqT K H p xs/\atI xs i=some v/\Q v H
noncomputable def bu5:R2:=λ x y H Q=>∃ z i c,x=.str z/\y=.int i/\z.length<=sizeLine/\atI z.cps.toList i=some c/\Q (.str ⟨#[c]⟩) H
theorem ix_list:IxR X (bu6 X.K):=by
 intro value aa pins s σ H x y v u Q I rx ry h hs;obtain⟨p,xs,i,z,rfl,rfl,hq,he,q⟩:=h;cases rx;obtain⟨t,rfl⟩:=ry;obtain⟨Z,r,Y,hz⟩:=I.list hq;obtain⟨j,h1,h2,h3,h4,h5⟩:=X_2 he;obtain⟨w,ew,S⟩:=r.get h2;have hl:=r.length;have hn:=J_3;have fin:EP X pins σ Q w s:=⟨z,H,I,S,q⟩
 by_cases h0:0<=i
 ·have O:i.toNat=j:=by
   rw[seqIndex_of h0 h5] at h1;exact qi h1
  exact item_listR Y.isList h0 (by omega) (by rw[O];simpa using ew) fin hs
 ·have O:(i+(Z.toArray.size:Int)).toNat=j:=by
   rw[seqIndex_neg (by omega) h4] at h1
   rw[List.size_toArray,<- hl];exact qi h1
  exact subscriptTail_builtinR (x:=w) Y.isList.typeIs slot_list_getitem.lookup
   (wpAny_getItem_list_neg (Q:=λ r s'=>r=w/\EP X pins σ Q r s') Y.isList (by omega) (by rw[List.size_toArray] <;> omega) (by omega) (by rw[O];simpa using ew) ⟨rfl,fin⟩) hs
theorem ix_tup:IxR X (bf9 X.K):=by
 intro value S pins s σ H x y v u Q I rx ry h hs;obtain⟨p,xs,i,z,rfl,rfl,hq,Z,q⟩:=h;cases rx;obtain⟨t,rfl⟩:=ry;obtain⟨aa,r,Y,hz⟩:=I.tuple hq;obtain⟨j,h1,h2,h3,h4,h5⟩:=X_2 Z;obtain⟨w,ew,O⟩:=r.get h2;have hl:=r.length;have hn:=J_3;have fin:EP X pins σ Q w s:=⟨z,H,I,O,q⟩;exact subscriptTail_builtinR (x:=w) Y.typeIs slot_tuple_getitem.lookup
  (getItem_tuple (j:=j) (Q:=λ r s'=>r=w/\EP X pins σ Q r s') Y (by omega) (by omega) (by rw[List.size_toArray,<- hl];exact h1) (by simpa using ew) ⟨rfl,fin⟩) hs
theorem bb7:IxR X bu5:=by
 intro value O pins s σ H x y v u Q I Y ry h hs;obtain⟨z,i,c,rfl,rfl,hz,S,q⟩:=h;obtain⟨t,rfl⟩:=Y;obtain⟨t',rfl⟩:=ry;obtain⟨j,h1,h2,h3,Z,h5⟩:=X_2 S;have hl:z.cps.toList.length=z.length:=by simp[Str.length]
 rw[hl] at h1 Z h5;have hn:=J_3
 exact tail_any (typeIs_str s z t) slot_str_getitem.lookup (getItem_str (c:=c) (by
  have e1:decide (i < -(2 ^ 63:Int))=false:=decide_eq_false (by omega)
  have e2:decide (i>=2 ^ 63)=false:=decide_eq_false (by omega)
  rw[e1,e2,Bool.or_false]) (by rw[h1];simpa using h2) ⟨.str ⟨#[c]⟩,H,I.tok _,⟨_,rfl⟩,q⟩) hs
noncomputable def rIx (K:Frag):R2:=λ x y H Q=>bu6 K x y H Q\/bf9 K x y H Q\/bu5 x y H Q
theorem bb8:IxR X (rIx X.K):=ix_list.or (ix_tup.or bb7)
theorem Inv.lst {pins:List (Addr×Obj)}{σ:St}{H:Hp}{s:Shared}{p:Addr}{xs:List V} (I:Inv X pins σ H s) (h:H p=some (.lst xs)) :
  ∃ (O:List Value) (n:Nat),Vals xs O ∧ s.heap.get? p=some {cls:=.type "list",data:=.seq O.toArray n} ∧ xs.length ≤ sizeLine:=by
 obtain⟨z,O,n,r,e⟩:=I.hok p _ h;exact⟨O,n,r,e,z⟩
theorem O_9 (lo hi:Option Int) (n:Nat):(sliceBounds lo hi none n).1=((HT.sIx n 0 lo:Nat):Int)/\(sliceBounds lo hi none n).2.1=((HT.sIx n n hi:Nat):Int)/\(sliceBounds lo hi none n).2.2=1:=by
 refine⟨?_,?_,rfl⟩
 ·cases lo with
  |none=>simp[sliceBounds,HT.sIx]
  |some i =>
   simp only[sliceBounds,HT.sIx,Option.getD_none,show (1:Int) > 0 by decide,if_true]
   by_cases h:i<0
   ·simp only[h,if_true] <;> omega
   ·simp only[h,if_false] <;> omega
 ·cases hi with
  |none=>simp[sliceBounds,HT.sIx]
  |some i =>
   simp only[sliceBounds,HT.sIx,Option.getD_none,show (1:Int) > 0 by decide,if_true]
   by_cases h:i<0
   ·simp only[h,if_true] <;> omega
   ·simp only[h,if_false] <;> omega
theorem K_2 (z:List Value) (lo hi:Option Int):slicePick z.toArray lo hi none=((z.drop (HT.sIx z.length 0 lo)).take (HT.sIx z.length z.length hi-HT.sIx z.length 0 lo)).toArray:=by
 obtain⟨h1,h2,O⟩:=O_9 lo hi z.toArray.size;unfold slicePick;rw[h1,h2,O];simp only[sliceRange_one,pick_run,List.size_toArray] <;> rfl
noncomputable def bE8 (K:Frag):V->Option Int->Option Int->Hp->VK->Prop:=λ x lo hi H Q=>∃ a xs,x=.ref a/\SqL K H a xs/\∀ p,H p=none->Q (.ref p) (upd H p (.lst (as3 xs lo hi)))
theorem sl_list:SlR X (bE8 X.K):=by
 intro pins s σ H x v vl vu lo hi sl Q I O S pl Z h;obtain⟨a,xs,rfl,Y,q⟩:=h;cases O;obtain⟨aa,r,ht,hz⟩:=I.list Y;have z:=r.length;refine⟨"list",_,slot_list_getitem.lookup,ht.isList.typeIs,?_⟩;refine wpAny_getItem_list_slice ht.isList S pl Z .none (by simp) ?_ (by rw[List.size_toArray] <;> omega)
 rw[K_2,<- z];refine⟨.ref s.heap.objs.size,_,I.laid (t':=s.toks) (o:=.lst (as3 xs lo hi)) (λ b ob q=>qd _ q) (qj _) ?_,rfl,q _ (I.hok.fresh (qj _))⟩
 exact⟨Nat.le_trans (G_0 xs lo hi) hz,_,0,(r.drop (HT.sIx xs.length 0 lo)).take (HT.sIx xs.length xs.length hi-HT.sIx xs.length 0 lo),qk _ rfl⟩
noncomputable def I_1:V->Bool
 |.non=>true
 |.bl _=>true
 |.int _=>true
 |.str _=>true
 |_=>false
noncomputable def eqV:V->V->Bool
 |.non,.non=>true
 |.bl a,.bl b=>a==b
 |.bl a,.int b=>(if a then 1 else 0)==b
 |.int a,.bl b=>a==(if b then 1 else 0)
 |.int a,.int b=>a==b
 |.str a,.str b=>a==b
 |_,_=>false
theorem bc9 {A:Around}{s:Shared}{y x:V}{u v:Value} (O:RelV y u) (z:RelV x v) (Y:I_1 y=true) (S:I_1 x=true):SeqAt.EqAt A s u v (eqV y x):=by
 cases y with
 |non =>
  cases O;cases x with
  |non=>cases z;exact SeqAt.EqAt.same _
  |bl b=>cases z;exact SeqAt.EqAt.none_bool b
  |int b=>obtain⟨t,rfl⟩:=z;exact SeqAt.EqAt.none_int b t
  |str b=>obtain⟨t,rfl⟩:=z;exact SeqAt.EqAt.none_str b t
  |_=>exact absurd (show false=true from S) Bool.false_ne_true
 |bl a =>
  cases O;cases x with
  |non=>cases z;exact SeqAt.EqAt.bool_none a
  |bl b=>cases z;exact SeqAt.EqAt.bool_bool a b
  |int b=>obtain⟨t,rfl⟩:=z;exact SeqAt.EqAt.bool_int a b t
  |str b=>obtain⟨t,rfl⟩:=z;exact SeqAt.EqAt.bool_str a b t
  |_=>exact absurd (show false=true from S) Bool.false_ne_true
 |int a =>
  obtain⟨t',rfl⟩:=O;cases x with
  |non=>cases z;exact SeqAt.EqAt.int_none a t'
  |bl b=>cases z;exact SeqAt.EqAt.int_bool a t' b
  |int b=>obtain⟨t,rfl⟩:=z;exact SeqAt.EqAt.int_int a t' b t
  |str b=>obtain⟨t,rfl⟩:=z;exact SeqAt.EqAt.int_str a t' b t
  |_=>exact absurd (show false=true from S) Bool.false_ne_true
 |str a =>
  obtain⟨t',rfl⟩:=O;cases x with
  |non=>cases z;exact SeqAt.EqAt.str_none a t'
  |bl b=>cases z;exact SeqAt.EqAt.str_bool a t' b
  |int b=>obtain⟨t,rfl⟩:=z;exact SeqAt.EqAt.str_int a t' b t
  |str b=>obtain⟨t,rfl⟩:=z;exact SeqAt.EqAt.str_str a t' b t
  |_=>exact absurd (show false=true from S) Bool.false_ne_true
 |_=>exact absurd (show false=true from Y) Bool.false_ne_true
noncomputable def eqU (x:V) (u:Value):Bool:=match u with
 |.none=>eqV .non x
 |.bool b=>eqV (.bl b) x
 |.int i _=>eqV (.int i) x
 |.str z _=>eqV (.str z) x
 |_=>false
theorem aE1 {x y:V}{u:Value} (r:RelV y u) (f:I_1 y=true):eqU x u=eqV y x:=by
 cases y with
 |non=>cases r;rfl
 |bl b=>cases r;rfl
 |int i=>obtain⟨t,rfl⟩:=r;rfl
 |str z=>obtain⟨t,rfl⟩:=r;rfl
 |_=>exact absurd (show false=true from f) Bool.false_ne_true
theorem X_3 {x:V}:∀ {xs:List V}{z:List Value},Vals xs z->xs.all I_1=true->z.any (eqU x)=xs.any λ y=>eqV y x
 |_,_,.nil,_=>rfl
 |y::xs,u::z,.cons r t,f=>by
  rw[List.all_cons,Bool.and_eq_true] at f;rw[List.any_cons,List.any_cons,aE1 r f.1,X_3 t f.2]
theorem M_2 {A:Around}{s:Shared}{x:V}{v:Value} (S:RelV x v) (Y:I_1 x=true):∀ {xs:List V}{O:List Value},Vals xs O->xs.all I_1=true->∀ u∈O,SeqAt.EqAt A s u v (eqU x u)
 |_,_,.nil,_=>λ u z=>by cases z
 |y::xs,u::O,.cons r t,f=>λ Z z=>by
  rw[List.all_cons,Bool.and_eq_true] at f
  rcases qt z with rfl | z
  ·rw[aE1 r f.1];exact bc9 r S f.1 Y
  ·exact M_2 S Y t f.2 Z z
noncomputable def inV (x:V) (xs:List V):Bool:=xs.any λ y=>eqV y x
noncomputable def rIn (K:Frag) (z:Bool):R2:=λ x y H Q=>∃ p xs,y=.ref p/\(SqL K H p xs\/SqT K H p xs)/\I_1 x=true/\xs.all I_1=true/\Q (.bl (if z then !inV x xs else inV x xs)) H
theorem aj5:OpR X (compareOp .In) (rIn X.K false):=by
 intro pins s σ H x y v u Q I Y ry h;obtain⟨p,xs,rfl,O,Z,fs,q⟩:=h;cases ry
 rcases O with O | O
 ·obtain⟨z,r,S,hz⟩:=I.list O
  refine SeqAt.in_listAt (eqU x) S.isList (λ w hw=>M_2 Y Z r fs w (by simpa using hw)) ⟨.bl _,H,I,rfl,?_⟩
  rw[show z.toArray.any (eqU x)=z.any (eqU x) by simp,X_3 r fs]
  exact q
 ·obtain⟨z,r,S,hz⟩:=I.tuple O
  refine SeqAt.in_tupleAt (eqU x) S (λ w hw=>M_2 Y Z r fs w (by simpa using hw)) ⟨.bl _,H,I,rfl,?_⟩
  rw[show z.toArray.any (eqU x)=z.any (eqU x) by simp,X_3 r fs]
  exact q
theorem call_len_seq:CallR X (.builtin "len") (λ xs H Q=>∃ p ys,xs=[.ref p] ∧ (SqL X.K H p ys ∨ SqT X.K H p ys) ∧ Q (.int ys.length) H):=by
 intro pins s σ H xs us Q I r h;obtain⟨p,ys,rfl,O,q⟩:=h;obtain⟨u,rfl,rx⟩:=y_7 r;cases rx;have hn:=J_3
 rcases O with O | O
 ·obtain⟨Z,S,Y,hz⟩:=I.list O
  have z:=S.length;exact Calls.call_len_list Y.isList (by simp only[List.size_toArray] <;> omega) ⟨.int ys.length,H,I.tok _,⟨s.toks+1,by rw[List.size_toArray,z]⟩,q⟩
 ·obtain⟨Z,S,Y,hz⟩:=I.tuple O
  have z:=S.length;exact len_tuple Y (by simp only[List.size_toArray] <;> omega) ⟨.int ys.length,H,I.tok _,⟨s.toks+1,by rw[List.size_toArray,z]⟩,q⟩
theorem S_4:CallR X (.builtin "len") (λ xs H Q=>∃ z,xs=[.str z] ∧ z.length ≤ sizeLine ∧ Q (.int z.length) H):=by
 intro pins s σ H xs S Q I r h;obtain⟨z,rfl,hz,q⟩:=h;obtain⟨u,rfl,t,rfl⟩:=y_7 r;have O:=J_3;exact len_str (by omega) ⟨.int z.length,H,I.tok _,⟨_,rfl⟩,q⟩
theorem CallR.or {f:Value}{r O:List V->Hp->VK->Prop} (h:CallR X f r) (h':CallR X f O):CallR X f (λ xs H Q=>r xs H Q\/O xs H Q):=by
 intro pins s σ H xs S Q I z q
 rcases q with q | q
 ·exact h pins s σ H xs S Q I z q
 ·exact h' pins s σ H xs S Q I z q
theorem S_3:CallR X (.type "list") (λ xs H Q=>∃ p ys,xs=[.ref p] ∧ (SqL X.K H p ys ∨ SqT X.K H p ys) ∧ ∀ l,H l=none → Q (.ref l) (upd H l (.lst ys))):=by
 intro pins s σ H xs us Q I r h;obtain⟨p,ys,rfl,Z,q⟩:=h;obtain⟨u,rfl,rx⟩:=y_7 r;cases rx;have fin:∀ (z:List Value),Vals ys z->ys.length<=sizeLine->∀ (h':Heap) (S:Nat),(∀ b o',s.heap.get? b=some o'->h'.get? b=some o') ->
   h'.get? s.heap.objs.size=some {cls:=.type "list",dict:=none,data:=.seq z.toArray S,slots:=#[]} → EP X pins σ Q (.ref s.heap.objs.size) {s with heap:=h'}:=λ z O hz h' S kp e =>
  ⟨.ref s.heap.objs.size,_,I.laid (t':=s.toks) kp (qj _) (show ObjOk X.prog X.w _ h' _ (.lst ys) from ⟨hz,z,S,O,e⟩),rfl,q _ (I.hok.fresh (qj _))⟩
 rcases Z with Z | Z
 ·obtain⟨z,O,pl,hz⟩:=I.list Z
  have Y:=O.length;obtain⟨o,ho,hc,n,hd⟩:=pl.isList;exact call_list_seq p (.inl rfl) ho hc hd (λ h' S kp e=>fin z O hz h' S kp e) (by simp only[List.size_toArray] <;> omega)
 ·obtain⟨z,O,pl,hz⟩:=I.tuple Z
  have Y:=O.length;obtain⟨o,ho,hc,n,hd⟩:=pl;exact call_list_seq p (.inr rfl) ho hc hd (λ h' S kp e=>fin z O hz h' S kp e) (by simp only[List.size_toArray] <;> omega)
theorem N_3:CallR X (.type "tuple") (λ xs H Q=>∃ p ys,xs=[.ref p] ∧ ((SqL X.K H p ys ∧ ∀ l,H l=none → Q (.ref l) (upd H l (.tup ys))) ∨ (SqT X.K H p ys ∧ Q (.ref p) H))):=by
 intro pins s σ H xs us Q I r h;obtain⟨p,ys,rfl,h⟩:=h;obtain⟨u,rfl,rx⟩:=y_7 r;cases rx
 rcases h with ⟨hq,q⟩ | ⟨hq,q⟩
 ·obtain⟨z,O,S,hz⟩:=I.list hq
  have Z:=O.length;refine call_tuple_list S.isList (λ h' kp=>?_) (by simp only[List.size_toArray] <;> omega)
  have Y:Inv X pins σ H {s with heap:=h'}:=I.kept (t':=s.toks) kp
  have I2:Inv X pins σ (upd H h'.objs.size (.tup ys)) {s with heap:=h'.push {cls:=.type "tuple",data:=.seq z.toArray}} :=
   Y.laid (t':=s.toks) (λ b o e=>qd _ e) (qj _) (show ObjOk X.prog X.w _ _ _ (.tup ys) from ⟨hz,z,O,IsTuN.new _ _⟩)
  exact⟨.ref h'.objs.size,_,I2,rfl,q _ (Y.hok.fresh (qj _))⟩
 ·obtain⟨z,O,S,hz⟩:=I.tuple hq
  exact call_tuple_same S ⟨.ref p,H,I,rfl,q⟩
noncomputable def tyV (K:Frag) (T:String) (x:V) (H:Hp):Prop:=match x with
 |.str _=>T="str"
 |.int _=>T="int"
 |.ref p=>(T="list" ∧ ∃ xs,SqL K H p xs) ∨ (T="tuple" ∧ ∃ o,K.lookup p=some o ∧ o.cls=.type "tuple" ∧ o.dict=none) ∨
   (T="dict" ∧ ((∃ z,H p=some (.dK z)) ∨ ∃ z,H p=some (.dT z))) ∨ (T="set" ∧ ∃ S n,H p=some (.set S n))
 |_=>False
theorem aA4 {pins:List (Addr×Obj)}{σ:St}{H:Hp}{s:Shared}{T:String}{x:V}{v:Value} (I:Inv X pins σ H s) (r:RelV x v) (ty:tyV X.K T x H) :
  s.TypeIs v T/\∀ a,v=.ref a->∃ Y,s.heap.get? a=some Y/\Y.dict=none:=by
 cases x with
 |str z =>
  obtain⟨t,rfl⟩:=r;cases (show T="str" from ty);exact⟨typeIs_str s z t,λ _ e=>nomatch e⟩
 |int i =>
  obtain⟨t,rfl⟩:=r;cases (show T="int" from ty);exact⟨typeIs_int s i t,λ _ e=>nomatch e⟩
 |ref p =>
  cases r
  rcases ty with ⟨rfl,xs,hq⟩ | ⟨rfl,o,hk,hc,O⟩ | ⟨rfl,hk⟩ | ⟨rfl,S,n,hk⟩
  ·obtain⟨aa,_,Z,_⟩:=I.list hq
   refine⟨Z.isList.typeIs,λ a e=>?_⟩
   cases e;obtain⟨o,n,e,c,O,_⟩:=Z;exact⟨o,e,O⟩
  ·refine⟨⟨o,I.kIn p o hk,hc⟩,λ a e=>?_⟩
   cases e;exact⟨o,I.kIn _ o hk,O⟩
  ·have z:∃ o,s.heap.get? p=some o/\o.ExactDict:=by
    rcases hk with ⟨kvs,hk⟩ | ⟨kvs,hk⟩
    ·obtain⟨_,_,_,_,o,_,_,e,ex,_⟩:=I.hok p _ hk
     exact⟨o,e,ex⟩
    ·obtain⟨_,_,_,_,o,_,_,e,ex,_⟩:=I.hok p _ hk
     exact⟨o,e,ex⟩
   obtain⟨o,e,ex⟩:=z;refine⟨⟨o,e,ex.1⟩,λ a e2=>?_⟩
   cases e2;exact⟨o,e,ex.2.1⟩
  ·obtain⟨o,_,_,_,e,ex,_⟩:=I.hok p _ hk
   refine⟨⟨o,e,ex.1⟩,λ a e2=>?_⟩
   cases e2;exact⟨o,e,ex.2.1⟩
 |_=>exact False.elim ty
noncomputable def bD0 (K:Frag) (T:String) (r:V->List V->Hp->VK->Prop) (to:TE):TE:=λ σ H Q=>to σ H λ x H1=>tyV K T x H1/\r x [] H1 Q
noncomputable def tBM (K:Frag) (T:String) (r:V->List V->Hp->VK->Prop) (to:TE) (t:TA):TE:=λ σ H Q=>to σ H λ x H1=>tyV K T x H1/\t σ H1 λ xs H2=>r x xs H2 Q
variable {o e:Expr}{es:List Expr}{to:TE}{t:TA}{name:Str}{apos cpos:Pos}{T id:String}{r:V->List V->Hp->VK->Prop}
theorem aX6 (pa:PlainAttrs T) (slot:Slot T name id) (Y:typeOf (.builtin id)=pure (.type "method_descriptor")) (hm:MtR X id r) (ho:PE X o to)
  (O:attributeBase o name X.env (eval o X.env)=eval o X.env:=by rfl) (z:(apos.endLine==cpos.line)=true:=by rfl):PE X (.Call (.Attribute o name apos) [] [] cpos) (bD0 X.K T r to):=by
 intro pins s σ H Q I h;refine wpAny_Call_method0_late O z (thn (ho pins s σ H _ I h) λ v s1 S=>?_)
 obtain⟨x,H1,Z,r1,ty,q1⟩:=S;obtain⟨h1,h2⟩:=aA4 Z r1 ty;exact⟨T,id,pa,slot,Y,h1,h2,Calls.callWith_builtin rfl (PySem.evalArgs_none (hm pins s1 σ H1 x [] v [] Q Z r1 .nil q1))⟩
theorem aX7 (pa:PlainAttrs T) (slot:Slot T name id) (aa:typeOf (.builtin id)=pure (.type "method_descriptor")) (hm:MtR X id r) (ho:PE X o to) (ha:PA X (e::es) t)
  (S:attributeBase o name X.env (eval o X.env)=eval o X.env:=by rfl)
  (Z:((backTo cpos (starEach (e::es) X.env)).all (λ x=>!x.1)&&(backToKw cpos (keywordEach [] X.env)).all (λ x=>x.1.isSome)
   && decide ((e::es).length+([]:List Keyword).length+(if ([]:List Keyword).isEmpty then 0 else 1)<30))=true:=by rfl)
  (O:(apos.endLine==cpos.line)=true:=by rfl) (hs:starEach (e::es) X.env=(false,eval e X.env)::starEach es X.env:=by rfl) (z:(backTo cpos (starEach es X.env)).any (·.1)=false:=by rfl) :
  PE X (.Call (.Attribute o name apos) (e::es) [] cpos) (tBM X.K T r to t):=by
 intro pins s σ H Q I h;refine wpAny_Call_method_late S Z O rfl (thn (ho pins s σ H _ I h) λ v s1 Y=>?_)
 obtain⟨x,H1,I1,r1,ty,q1⟩:=Y;obtain⟨h1,h2⟩:=aA4 I1 r1 ty;refine⟨T,id,pa,slot,aa,h1,h2,?_⟩;have hA:=ha cpos pins s1 σ H1 _ I1 q1;rw[hs] at hA ⊢;refine Calls.callWith_builtin (by show (false||(backTo cpos (starEach es X.env)).any (·.1))=false;rw[z] <;> rfl) (Calls.evalArgs_plain ?_)
 exact thn hA λ us s2 ⟨vs,H2,I2,r2,q2⟩=>hm pins s2 σ H2 x vs v us Q I2 r1 r2 q2
end
noncomputable def MtM (X:Cx) (id:String) (r:V->List V->Hp->VK->Prop):Prop :=
 ∀ (pins:List (Addr×Obj)) (s:Shared) (σ:St) (H:Hp) (x:V) (xs:List V) (v:Value) (z:List Value) (Q:VK),Inv X pins σ H s->RelV x v->Vals xs z->r x xs H Q ->
  wpAny (model X.prog X.w) X.A (call (.builtin id) (v::z)) (EP X pins σ Q) X.xe s
theorem Vals.one:∀ {x:V}{z:List Value},Vals [x] z->∃ u,z=[u]/\RelV x u
 |_,_,.cons r .nil=>⟨_,rfl,r⟩
theorem Vals.zero:∀ {z:List Value},Vals [] z->z=[]
 |_,.nil=>rfl
theorem Vals.dropLast {xs:List V}{z:List Value} (h:Vals xs z):Vals xs.dropLast z.dropLast:=by
 induction h with
 |nil=>exact .nil
 |cons r t O =>
  cases t with
  |nil=>exact .nil
  |cons q t'=>exact .cons r O
theorem Vals.eraseIdx:∀ {xs:List V}{z:List Value} (i:Nat),Vals xs z->Vals (xs.eraseIdx i) (z.eraseIdx i)
 |_,_,_,.nil=>.nil
 |_,_,0,.cons _ t=>t
 |_,_,i+1,.cons r t=>.cons r (Vals.eraseIdx i t)
theorem Vals.reverse {xs:List V}{z:List Value} (h:Vals xs z):Vals xs.reverse z.reverse:=by
 induction h with
 |nil=>exact .nil
 |cons r t O=>rw[List.reverse_cons,List.reverse_cons];exact Vals.append O (.cons r .nil)
theorem Vals.rep {xs:List V}{z:List Value} (h:Vals xs z):∀ k:Nat,Vals (List.replicate k xs).flatten (List.replicate k z).flatten
 |0=>.nil
 |k+1=>by
  rw[List.replicate_succ,List.replicate_succ,List.flatten_cons,List.flatten_cons];exact Vals.append h (Vals.rep h k)
theorem af1 {α:Type} (l:List α):l.eraseIdx (l.length-1)=l.dropLast:=by
 induction l with
 |nil=>rfl
 |cons a r z =>
  cases r with
  |nil=>rfl
  |cons b r =>
   have e:(a::b::r).length-1=((b::r).length-1)+1:=by
    have h1:(a::b::r).length=r.length+2:=rfl;have h2:(b::r).length=r.length+1:=rfl;omega
   rw[e,List.eraseIdx_cons_succ,z]
   all_goals rfl
theorem R_8 (O:List Value):∀ (k:Nat) (z:List Value),
  List.foldl (λ S x2=>S++x2) z.toArray (List.replicate k O.toArray)=(z++(List.replicate k O).flatten).toArray
 |0,z=>by simp
 |k+1,z=>by
  have e:z.toArray++O.toArray=(z++O).toArray:=by simp
  have e2:(z++O)++(List.replicate k O).flatten=z++(List.replicate (k+1) O).flatten:=by
   rw[List.replicate_succ,List.flatten_cons,List.append_assoc]
  rw[<- e2,<- R_8 O k (z++O),<- e,List.replicate_succ,List.foldl_cons]
section
variable {X:Cx}{pins:List (Addr×Obj)}{σ:St}{H:Hp}{s:Shared}{l b:Addr}{xs ys zs:List V}
theorem Inv.lset {z its':List Value}{n:Nat}{f:Array Value->Array Value}{t':Nat} (I:Inv X pins σ H s) (Y:H l=some (.lst xs))
  (e:s.heap.get? l=some {cls:=.type "list",data:=.seq z.toArray n}) (hf:f z.toArray=its'.toArray) (O:Vals ys its') (hz:ys.length ≤ sizeLine) :
  Inv X pins σ (upd H l (.lst ys)) {s with heap:=s.heap.update l (Obj.mapSeq f),toks:=t'}:=by
 have q:=PySem.IsL.update e f;rw[hf] at q;refine I.write (x:=l) (e:=l) (by rw[Y];exact trivial) (.inl rfl) (λ Z u hb S=>(Heap.get?_update_other s.heap (Obj.mapSeq f) (Ne.symm hb)).trans S) ⟨_,q⟩ ?_
 exact⟨hz,its',_,O,q⟩
theorem Inv.lnew {z:List Value}{t':Nat} (I:Inv X pins σ H s) (O:Vals ys z) (hz:ys.length<=sizeLine) :
  Inv X pins σ (upd H s.heap.objs.size (.lst ys)) {s with heap:=s.heap.push {cls:=.type "list",data:=.seq z.toArray},toks:=t'} :=
 I.laid (λ _ _ q=>qd _ q) (qj _) ⟨hz,z,0,O,qk _ rfl⟩
theorem Inv.fresh (I:Inv X pins σ H s):H s.heap.objs.size=none:=I.hok.fresh (qj _)
theorem Inv.lstM (I:Inv X pins σ H s) (S:H l=some (.lst xs)):xs.length ≤ sizeLine ∧ ∃ (O:List Value) (n:Nat),Vals xs O ∧ xs.length=O.length ∧ s.heap.get? l=some {cls:=.type "list",data:=.seq O.toArray n}:=by
 obtain⟨z,O,n,r,e⟩:=I.hok l _ S;exact⟨z,O,n,r,r.length,e⟩
theorem av5 {n:Nat} (h:n<=sizeLine):Builtin.List.listTooLong n=false:=by
 unfold Builtin.List.listTooLong;exact decide_eq_false (by omega)
end
section
variable {X:Cx}
noncomputable def ai3:V->List V->Hp->VK->Prop:=λ x vs H Q=>∃ l xs y,x=.ref l/\vs=[y]/\H l=some (.lst xs)/\xs.length<sizeLine/\Q .non (upd H l (.lst (xs++[y])))
theorem Q_9:MtM X "list.append" ai3:=by
 intro pins s σ H x vs v us Q I Y rv h;obtain⟨l,xs,y,rfl,rfl,S,hz,q⟩:=h;cases Y;obtain⟨u,rfl,Z⟩:=rv.one;obtain⟨z,O,n,r,hl,e⟩:=I.lstM S;refine call_meets F.slot_list_append ⟨_,e,rfl⟩ F.entry_list_append (F.args_list_append_2 _ _) (PySem.list_append l O.toArray n u (by rw[List.size_toArray];omega)) ⟨e,?_⟩
 refine⟨.non,_,I.lset (its':=O++[u]) S e (by simp) (r.append (.cons Z .nil)) ?_,rfl,q⟩
 rw[List.length_append,List.length_singleton];omega
noncomputable def bF0:V->List V->Hp->VK->Prop:=λ x vs H Q=>∃ l xs y,x=.ref l/\vs=[]/\H l=some (.lst xs)/\xs[xs.length-1]?=some y/\Q y (upd H l (.lst xs.dropLast))
theorem aZ4:MtM X "list.pop" bF0:=by
 intro pins s σ H x vs v us Q I rx rv h;obtain⟨l,xs,y,rfl,rfl,Z,hy,q⟩:=h;cases rx;have Y:=rv.zero;subst Y;obtain⟨z,O,n,r,hl,e⟩:=I.lstM Z;obtain⟨u,hu,ru⟩:=r.get hy
 have S:O.toArray[O.toArray.size-1]?=some u:=by
  show O.toArray[O.length-1]?=some u;rw[<- Array.getElem?_toList,<- hl];exact hu
 refine call_meets F.slot_list_pop ⟨_,e,rfl⟩ F.entry_list_pop (F.args_list_pop_1 _) (MeetsSeq.list_pop_last l O.toArray n u S (by rw[List.size_toArray];omega)) ⟨e,?_⟩
 refine⟨y,_,I.lset (its':=O.dropLast) Z e ?_ r.dropLast ?_,ru,q⟩
 ·show O.toArray.eraseIdxIfInBounds (O.toArray.size-1)=O.dropLast.toArray
  rw[List.size_toArray,List.eraseIdxIfInBounds_toArray,af1]
 ·rw[List.length_dropLast]
  omega
noncomputable def rRep:R2:=λ x y H Q=>∃ l k xs,x=.ref l/\y=.int k/\H l=some (.lst xs)/\-(2 ^ 63)<=k/\k<2 ^ 63/\xs.length*k.toNat<=sizeLine /\
 ∀ p,H p=none->Q (.ref p) (upd H p (.lst (List.replicate k.toNat xs).flatten))
theorem aJ9 {α:Type} (xs:List α) (k:Nat):(List.replicate k xs).flatten.length=k*xs.length:=by
 induction k with
 |zero=>simp
 |succ k z=>rw[List.replicate_succ,List.flatten_cons,List.length_append,z,Nat.succ_mul,Nat.add_comm]
theorem op_rep:OpR X (binaryOp .Mult) rRep:=by
 intro pins s σ H x y v u Q I rx ry h;obtain⟨l,k,xs,rfl,rfl,hH,h1,h2,hz,q⟩:=h;cases rx;obtain⟨t,rfl⟩:=ry;obtain⟨z,O,n,r,hl,e⟩:=I.lstM hH;have Z:O.toArray.size*k.toNat<=sizeLine:=by rw[List.size_toArray,<- hl];exact hz
 have ab:¬ O.toArray.size*k.toNat > (2 ^ 63-1) / 8:=by
  have:(sizeLine:Nat)<=(2 ^ 63-1) / 8:=by decide
  omega
 have aa:¬ (!Builtin.List.listFitsIndex k)=true:=by
  rw[fitsIndex_both h1 h2];exact Bool.false_ne_true
 have S:¬ Builtin.List.listTooLong (O.toArray.size*k.toNat)=true:=by
  rw[av5 Z];exact Bool.false_ne_true
 have Y:List.foldl (λ x1 x2=>x1++x2) #[] (List.replicate (if O.toArray.isEmpty=true then 0 else k.toNat) O.toArray)=(List.replicate k.toNat O).flatten.toArray:=by
  have f0:∀ m:Nat,List.foldl (λ x1 x2=>x1++x2) #[] (List.replicate m O.toArray)=(List.replicate m O).flatten.toArray:=λ m=>by
   have:=R_8 O m [];rw[List.nil_append] at this;exact this
  rw[f0];cases O with
  |nil=>simp
  |cons a r'=>rw[if_neg (by simp)]
 refine wpAny_binaryOp_repeat_ref (T:="list") (U:="int") (by decide) ⟨_,e,rfl⟩ (λ s'=>typeIs_int s' k t) noFill_list_mul F.fills_int_mul F.slot_int_rmul repeat_list F.slot_int_index.lookup
  (call_meets F.slot_int_rmul (typeIs_int s k t) F.entry_int_rmul (F.args_int_rmul_2 _ _) (int___rmul___int_list k t l O.toArray n)
   ⟨e,rfl,⟨_,e,rfl⟩,call_meets F.slot_list_mul ⟨_,e,rfl⟩ F.entry_list_mul (F.args_list_mul_2 _ _) (AutoListH.list___mul___list_int_3 l O.toArray n k t aa ab S) ⟨e,?_⟩⟩)
 rw[Y];exact⟨.ref _,_,I.lnew (t':=s.toks) (r.rep k.toNat) (by rw[aJ9,Nat.mul_comm];exact hz),rfl,q _ I.fresh⟩
end
end L2
namespace Att
open PySem PySem.W PySem.Calls PyProof.Rows
theorem F_4 {P:Params}{h:Heap}:∀ (z:List Int) (vs:List Value),WellAll P h vs (z.map WData.int)->IntsAre vs z:=by
 intro z
 induction z with
 |nil =>
  intro vs w;rw[List.map_nil] at w;cases w;exact .nil
 |cons n z O =>
  intro vs w;rw[List.map_cons] at w;cases w with
  |cons a b =>
   cases a;exact .cons _ _ (O _ b)
theorem ai1 {l:OpenLaw}{n:Nat} (hn:l.most=some n) {P:Params}{h:Heap}{args:List WData}{vals:List Value}
  (O:l.row.toRowW.claim.pre args=true) (aa:WellAll P h vals args) :
  ∃ a vs z,vals=[Value.ref a] ∧ args=[WData.list (z.map WData.int)] ∧ h.get? a=some {cls:=.type "list",data:=.seq vs.toArray} ∧ IntsAre vs z ∧ z.length ≤ n:=by
 have ab:WShape.hasAll [] args [.list .int]=true:=(pre_splitW O).1;have hc:l.pre.holds [] {args:=args}=true:=(pre_splitW O).2;obtain⟨d,r,rfl,h1,h2⟩:=hasAllW_cons ab;obtain rfl:=hasAllW_nil h2;obtain⟨xs,rfl,h3⟩:=hasW_list h1;obtain⟨z,rfl⟩:=items_int h3
 have S:z.length<=n:=by
  unfold OpenLaw.pre at hc
  have Z:(WTm.not (.lt (.lit (.int (n:Int))) (.len (.arg 0)))).holds [] {args:=[.list (z.map .int)]}=true:=by
   have Z:=(holds_andW hc).1;rw[hn] at Z;exact Z
  have h5:=condW_of Z (w_not (w_lt w_lit (w_len_list (w_arg rfl))));rw[List.length_map] at h5;refine Nat.le_of_not_lt λ q=>?_
  have q':(n:Int)<((z.length:Nat):Int):=by omega
  first
   |(rw[decide_eq_true q'] at h5;exact absurd h5 (by decide))
   |(simp at h5;omega)
 cases aa with
 |cons w1 w2 =>
  cases w2;cases w1 with
  |list ho Y=>exact⟨_,_,z,rfl,rfl,ho,F_4 z _ Y,S⟩
theorem ai9 (l:OpenLaw) (args:List WData):l.row.toRowW.claim.post args (.bool true) args=true :=
 postW_of (r:=l.row.toRowW) (X:=(true==true))
  (show WShape.has [] (.bool true) .bool=true by first | rfl | decide | simp[WShape.has,WShape.arms,WShape.armsAll])
  (show (WTm.eq .res (.lit (.bool true))).value [] {args:=args,res:=some (.bool true),after:=args}=some (.bool (true==true)) from w_eq_bool (w_res rfl) w_lit) rfl
theorem attach_call {l:OpenLaw}{n:Nat}{q:Program}{O:List Str}{XP:(Str->Option Value)->Heap->Prop}{YP:World->Heap->Prop}{d:DefRec}
  (hn:l.most=some n) (af:d.params.defaults=[])
  (call:∀ (w:World) (s₀ z:Shared) (mg mb:Str->Option Value) (fa:Addr) (o:Obj) (pm cd S:Value) (a:Addr) (vs:List Value) (ns:List Int),
   Ground q O [] XP w s₀ mg mb z.heap->YP w z.heap ->
   z.heap.get? fa=some o->o.data=.func (docDef d.name d.params d.body d.scope pm cd S)->z.heap.CodeRec cd d.name->mg d.name=some (.ref fa) ->
   z.heap.get? a=some {cls:=.type "list",data:=.seq vs.toArray} → IntsAre vs ns → ns.length ≤ n → z.gens=#[] →
   codeAny (model l.prog w) callerA (.call (.ref fa) ⟨[.ref a],[]⟩) (λ r s'=>r=.ok (.ret (.bool true))/\OldK z.heap s'.heap/\s'.os=z.os/\AllBare s'.gens) z) :
  WalkO q O XP YP l.row.toRowW d [] (λ f vs=>PySem.call f vs):=by
 intro w s₀ z mg mb G Y fa o pm cd S dV kV ho hd ad hD ae hg args vals as aa ah aj ag ai;obtain rfl:dV=.none:=Dflts.none hD af;obtain rfl:kV=.none:=Dflts.noKw hD;obtain⟨a,vs,ns,rfl,rfl,ab,Z,ac⟩:=ai1 hn aa ag;refine enter_call (codeAny_mono (call w s₀ z mg mb fa o pm cd S a vs ns G Y ho (fd_plain hd) ad ae ab Z ac hg) λ r s' hq=>?_)
 obtain⟨rfl,h2,h3,h4⟩:=hq;exact⟨.inl ⟨.bool true,.bool true,[],rfl,λ _=>rfl,.bool true,ai9 l _,λ _=>⟨List.Pairwise.nil,λ _ hm=>(nomatch hm)⟩⟩,h2,h3,h4⟩
end Att
namespace L2
open PySem PySem.Spec PyProof.Rows
theorem O_5:∀ {vs:List Value}{z:List Int},IntsAre vs z->Vals (z.map V.int) vs
 |_,_,.nil=>.nil
 |_,_,.cons n t h=>.cons ⟨t,rfl⟩ (O_5 h)
noncomputable def bs5 (H:Hp):Prop:=∀ b,H b=none\/∃ o xs,H b=some (.frz o (.lst xs))
theorem aw4 {P:Program}{w:World}{K:Frag}{mg mb:Str->Option Value}{CX:CXT}{k:Nat}{fa a:Addr}{fd:FuncData}{x:Str}{sp:Sp}{O:Shared}{vs:List Value}{ns:List Int}
  (KX:K.In O.heap) (af:O.heap.Ns mainGlobals mg) (hb:O.heap.Ns builtinsNs mb) (ai:∀ x:Str,x≠"__name__" → mb x=bootBuiltins x) (ah:O.heap.NoLimit) (hg:O.gens=#[])
  (ha:O.heap.get? a=some {cls:=.type "list",data:=.seq vs.toArray}) (hi:IntsAre vs ns) (hl:ns.length ≤ sizeLine) (hr:Room k callerA)
  (F:∀ base:Heap,K.In base->base.Ns mainGlobals mg->FnOk P w K mg base CX k fa fd [x] sp) (aa:∀ (s:Shared) (u:Value),BindsTo s fd ⟨[u],[]⟩ [(x,u)])
  (ak:∀ H:Hp,bs5 H->SqL K H a (ns.map V.int)->sp [.ref a] H (λ v _=>v=.bl true) λ _ _ _=>False)
  (aj:∀ H e s',CX [] H O (λ _ _ _=>False) e s'->False) :
  codeAny (model P w) callerA (.call (.ref fa) ⟨[.ref a],[]⟩) (λ r s'=>r=.ok (.ret (.bool true))/\OldK O.heap s'.heap/\s'.os=O.os/\AllBare s'.gens) O:=by
 have rv:=O_5 hi;have ac:=hi.length;have Z:∀ H:Hp,bs5 H->SqL K H a (ns.map V.int)->HOk P w H O.heap->(∀ b,H b≠none->b=a)->(H a≠none->K.lookup a=none) ->
   codeAny (model P w) callerA (.call (.ref fa) ⟨[.ref a],[]⟩) (λ r s'=>r=.ok (.ret (.bool true))/\OldK O.heap s'.heap/\s'.os=O.os/\AllBare s'.gens) O:=by
  intro H hO hS ab hA hK;have S:∀ {b:Addr}{o:Obj},O.heap.get? b=some o->H b=none->(ax0 O.heap H).get? b=some o:=λ e n=>aw9 e n
  have al:∀ {b:Addr}{o:Obj}{es:Array DictEntry}{ep:Nat},O.heap.get? b=some o->o.data=.dict es ep->H b=none:=λ {b o es ep} e d=>by
   cases q:H b with
   |none=>rfl
   |some u =>
    have e':b=a:=hA b (by rw[q];simp)
    subst e';rw[ha] at e;cases e;have d':Data.seq vs.toArray _=Data.dict es ep:=d;cases d'
  have Y:∀ {b:Addr}{m:Str->Option Value},O.heap.Ns b m->(ax0 O.heap H).Ns b m:=λ {b m} ⟨o,es,ep,e,d,r⟩=>⟨o,es,ep,S e (al e d),d,r⟩
  have ae:K.In (ax0 O.heap H):=λ b o e=>S (KX b o e) (by
   cases q:H b with
   |none=>rfl
   |some u =>
    have e':b=a:=hA b (by rw[q];simp)
    subst e';rw[hK (by rw[q];simp)] at e;cases e)
  have hM:Mod K mg (ax0 O.heap H):=⟨ae,Y af,⟨mb,Y hb,ai⟩,let ⟨mc,h1,h2⟩:=ah;⟨mc,Y h1,h2⟩⟩;have e0:Env0 P w K mg (ax0 O.heap H) callerA [] O H:=⟨rfl,hM,λ b o e=>aI9 e,Nat.le_of_eq (am5 _ _),trivial,λ b hb=>absurd (show b∈([]:List Addr) from hb) (by simp),ab,.of_eq hg⟩
  refine codeAny_mono ((F _ ae (Y af)).run callerA [] O H ⟨[.ref a],[]⟩ [.ref a] [.ref a] _ _ hr e0 (aa O (.ref a)) (.cons rfl .nil) (ak H hO hS)) λ r s' h=>?_
  cases r with
  |error e=>exact (aj H e s' h).elim
  |ok fl =>
   cases fl with
   |next=>exact False.elim h
   |brk=>exact False.elim h
   |cont=>exact False.elim h
   |ret u =>
    obtain⟨v,H',os,ad,un,ag,r',q⟩:=h;have q':v=.bl true:=q;subst q';obtain rfl:u=Value.bool true:=r';refine⟨rfl,OldK.of_keep λ b o e=>?_,os,ad⟩
    cases q:H b with
    |none=>exact un.keep b o e q (by intro z;exact absurd (show b∈([]:List Addr) from z) (by simp)) (by simp)
    |some u =>
     rcases hO b with z | ⟨ob,xs,z⟩
     ·rw[q] at z;cases z
     ·have z2:=un.frzs b ob _ z
      obtain⟨e1,_⟩:=ab b _ z;obtain⟨e2,_⟩:=ag b _ z2;rw[e] at e1;cases e1;exact e2
 cases hk:K.lookup a with
 |some o =>
  have e:=KX a o hk;rw[ha] at e;cases e;refine Z (λ _=>none) (λ _=>.inl rfl) (.inr ⟨_,vs.toArray,_,hk,rfl,rfl,rfl,by rw[List.size_toArray,ac];exact hl,by simpa using rv⟩) (λ b u z=>by have z':(none:Option HO)=some u:=z;cases z') (λ b z=>absurd rfl z) λ z=>absurd rfl z
 |none =>
  refine Z (λ b=>if b=a then some (.frz {cls:=.type "list",data:=.seq vs.toArray} (.lst (ns.map V.int))) else none) (λ b=>?_) (.inl (.inr ⟨{cls:=.type "list",data:=.seq vs.toArray},if_pos rfl⟩)) (λ b u z=>?_) (λ b z=>?_) λ _=>hk
  ·by_cases hb:b=a
   ·exact .inr ⟨_,_,if_pos hb⟩
   ·exact .inl (if_neg hb)
  ·by_cases hb:b=a
   ·have z':=(if_pos hb).symm.trans z
    cases z';subst hb;exact⟨ha,by rw[List.length_map];exact hl,vs,_,rv,ha⟩
   ·have z':=(if_neg hb).symm.trans z
    cases z'
  ·by_cases hb:b=a
   ·exact hb
   ·exact absurd (if_neg hb) z
theorem walk_of {l:OpenLaw}{n k:Nat}{q:Program}{O:List Str}{XP:(Str->Option Value)->Heap->Prop}{YP:World->Heap->Prop}{d:DefRec}{K:Params->Frag}{CX:World->CXT}{sp:World->Sp}{x:Str}
  (hn:l.most=some n) (af:n<=sizeLine) (ad:d.params.defaults=[]) (hr:Room k callerA)
  (hY:∀ (w:World) (h:Heap),YP w h->(K w.params).In h)
  (F:∀ (w:World) (mg:Str->Option Value) (fa:Addr) (h:Heap),(K w.params).In h->h.Ns mainGlobals mg->mg d.name=some (.ref fa) ->
   ∃ fd:FuncData,(∀ (s:Shared) (u:Value),BindsTo s fd ⟨[u],[]⟩ [(x,u)]) /\
    ∀ base:Heap,(K w.params).In base->base.Ns mainGlobals mg->FnOk l.prog w (K w.params) mg base (CX w) k fa fd [x] (sp w))
  (ae:∀ (w:World) (H:Hp) (a:Addr) (ns:List Int),ns.length<=n->bs5 H->SqL (K w.params) H a (ns.map V.int)->sp w [.ref a] H (λ v _=>v=.bl true) λ _ _ _=>False)
  (ab:∀ (w:World) (H:Hp) (s:Shared) (e:Value) (s':Shared),CX w [] H s (λ _ _ _=>False) e s'->False) :
  PySem.W.WalkO q O XP YP l.row.toRowW d [] (λ f vs=>PySem.call f vs):=by
 refine Att.attach_call hn ad λ w s₀ Z mg mb fa o pm cd ah a vs ns G Y ho hd ag ac aa S z hg=>?_
 have KX:=hY w _ Y;obtain⟨fd,hb,hF⟩:=F w mg fa _ KX G.T.g ac;exact aw4 KX G.T.g G.T.b G.T.builtins G.T.nolimit hg aa S (Nat.le_trans z af) hr hF hb (λ H hO hS=>ae w H a ns z hO hS) λ H e s'=>ab w H Z e s'
noncomputable def a_6 (s:Stmt):Arguments:=match s with
 |.FunctionDef _ a _ _ _ _ _ _ _ _=>a
 |_=>{posonlyargs:=[],args:=[],vararg:=none,kwonlyargs:=[],kw_defaults:=[],kwarg:=none,defaults:=[]}
noncomputable def a_4 (s:Stmt):List Stmt:=match s with
 |.FunctionDef _ _ b _ _ _ _ _ _ _=>b
 |_=>[]
noncomputable def a_0 (s:Stmt):Scope:=match s with
 |.FunctionDef _ _ _ _ _ _ sc _ _ _=>sc
 |_=>{kind:=.function,names:=[],isGenerator:=false,isCoroutine:=false}
abbrev CX0:CXT:=λ _ _ _ _ _ _=>False
abbrev E0:XK:=λ _ _ _=>False
theorem av2 {X:Cx}:ar5 CX0 X E0:=λ _ _ _ _ _ _ _ h=>h.elim
structure Fun (K:Frag) (x qual:Str) (st:Stmt) (f:Addr) (fd:FuncData):Prop where
 ex:∃ (oc:Value) (od:Option Addr) (kV doc pm:Value) (an:Option Addr) (cdv ct:Value) (osl:Array (Option Value)),
  fd=fnOf x qual (a_6 st) (a_4 st) (a_0 st) .none kV doc pm an cdv ct/\K.lookup f=some ⟨oc,od,.func fd,osl⟩/\codeIn K cdv qual=true
 kp:keepIn K (.ref f)=true
section
variable {P:Program}{w:World}{K:Frag}{mg:Str->Option Value}{base:Heap}
theorem Fun.ok {x z:Str}{st:Stmt}{f:Addr}{fd:FuncData}{N ps:List Str}{k:Nat}{sp:Sp} (F:Fun K x z st f fd) (S:FnScope N ps (a_0 st)) (ab:∀ vs H Q E,sp vs H Q E->vs.length=ps.length)
  (Y:∀ (O:Value) (A:Around) (outer:List Env) (s:Shared) (H:Hp) (vs:List V) (Q:VK) (E:XK),Room k (A.deeper (envOfC z (a_0 st) s.heap.objs.size f O))->sp vs H Q E ->
   ∃ t,PSs (as2 CX0 P w K mg base N z (a_0 st) f O A outer s H E).nox (a_4 st) t/\t {nx:=λ _ H'=>Q .non H',rt:=Q} (start N vs) H):FnOk P w K mg base CX0 (k+1) f fd ps sp:=by
 obtain⟨oc,od,kV,ad,pm,an,O,ct,ac,rfl,lk,Z⟩:=F.ex;refine bo4 lk Z S ab λ A outer s H vs Q E hr aa=>?_
 obtain⟨t,h,q⟩:=Y O A outer s H vs Q E hr aa;exact⟨t,h.nox,q⟩
theorem Fun.binds {x z:Str}{st:Stmt}{f:Addr}{fd:FuncData}{ps:List Str} (F:Fun K x z st f fd)
  (h:∀ (kV S pm:Value) (Z:Option Addr) (O ct:Value) (Y:List Value),Y.length=ps.length->bindArgs (fnOf x z (a_6 st) (a_4 st) (a_0 st) .none kV S pm Z O ct) ⟨Y,[]⟩=pure (ps.zip Y)):Binds K fd ps []:=by
 obtain⟨oc,od,kV,S,pm,Z,O,ct,ab,rfl,lk,aa⟩:=F.ex;exact .all (h kV S pm Z O ct)
theorem b_5 {x z:Str}{st:Stmt}{f:Addr}{oc:Value}{od Z:Option Addr}{Y:Array (Option Value)}{kV S pm O ct:Value} (l:K.lookup f=some ⟨oc,od,.func (fnOf x z (a_6 st) (a_4 st) (a_0 st) .none kV S pm Z O ct),Y⟩)
  (c:codeIn K O z=true) (k:keepIn K (.ref f)=true):Fun K x z st f (fnOf x z (a_6 st) (a_4 st) (a_0 st) .none kV S pm Z O ct):=⟨⟨oc,od,kV,S,pm,Z,O,ct,Y,rfl,l,c⟩,k⟩
end
theorem bc2 {A:Around}{k:Nat} (z:Room k A):A.units+1<cLine:=Nat.lt_of_le_of_lt (Nat.add_le_add_left (by decide:1<=64) _) z.units
theorem O_8 {n:Nat} (h:n<=1000):n<sizeLine:=Nat.lt_of_le_of_lt h (by decide)
noncomputable def Same (H H':Hp):Prop:=∀ b o,H b=some o->H' b=some o
theorem Same.refl (H:Hp):Same H H:=λ _ _ h=>h
theorem Same.trans {H H1 H2:Hp} (a:Same H H1) (b:Same H1 H2):Same H H2:=λ c o h=>b c o (a c o h)
theorem Same.free {H H':Hp} (e:Same H H') {l:Addr} (h:H' l=Option.none):H l=Option.none:=by
 cases q:H l with
 |none=>rfl
 |some o =>
  rw[e l o q] at h;cases h
theorem Same.seq {K:Frag}{H H':Hp}{a:Addr}{xs:List V} (e:Same H H') (h:SqL K H a xs):SqL K H' a xs:=by
 rcases h with (h | ⟨o,h⟩) | h
 ·exact .inl (.inl (e _ _ h))
 ·exact .inl (.inr ⟨o,e _ _ h⟩)
 ·exact .inr h
section
variable {κ:Type} [DecidableEq κ]
noncomputable def ag0 (z:List (κ×V)) (k:κ):Option V:=(z.find? λ O=>decide (O.1=k)).map (·.2)
noncomputable def bg0 (z:List (κ×V)) (k:κ) (v:V):List (κ×V) :=
 if (z.any λ O=>decide (O.1=k))=true then z.map (λ O=>if O.1=k then (O.1,v) else O) else z++[(k,v)]
noncomputable def bI7 (z:List (κ×V)) (k:κ):List (κ×V):=z.filter λ O=>decide (O.1≠k)
theorem X_8 {p:κ×V}{r:List (κ×V)}{k:κ} (e:p.1=k):ag0 (p::r) k=some p.2:=by simp[ag0,List.find?_cons,e]
theorem X_9 {p:κ×V}{r:List (κ×V)}{k:κ} (e:¬ p.1=k):ag0 (p::r) k=ag0 r k:=by simp[ag0,List.find?_cons,e]
theorem RelO.getD {o:Option V}{u:Option Value}{d:V}{d':Value} (r:RelO o u) (rd:RelV d d'):RelV (o.getD d) (u.getD d'):=by
 cases o with
 |none=>cases u with
  |none=>exact rd
  |some _=>exact (show False from r).elim
 |some _=>cases u with
  |none=>exact (show False from r).elim
  |some _=>exact r
theorem KV.val {O:List (κ×V)}{vs:List (κ×Value)} (r:KV O vs) (k:κ):RelO (ag0 O k) (valueAt vs k):=by
 unfold KV at r
 induction r with
 |nil=>exact True.intro
 |@cons p q ps qs h t S =>
  obtain⟨h1,h2⟩:=h
  by_cases e:p.1=k
  ·have e':q.1=k:=h1.symm.trans e
   have b:valueAt (q::qs) k=some q.2:=by simp[valueAt,List.find?_cons,e']
   rw[X_8 e,b];exact h2
  ·have e':¬ q.1=k:=λ z=>e (h1.trans z)
   have b:valueAt (q::qs) k=valueAt qs k:=by simp[valueAt,List.find?_cons,e']
   rw[X_9 e,b];exact S
theorem KV.any {z:List (κ×V)}{vs:List (κ×Value)} (r:KV z vs) (k:κ):(z.any λ O=>decide (O.1=k))=vs.any λ O=>decide (O.1=k):=by
 unfold KV at r
 induction r with
 |nil=>rfl
 |cons h t S=>rw[List.any_cons,List.any_cons,S,h.1]
theorem KV.keys {z:List (κ×V)}{vs:List (κ×Value)} (r:KV z vs):z.map (·.1)=vs.map (·.1):=by
 unfold KV at r
 induction r with
 |nil=>rfl
 |cons h t O=>rw[List.map_cons,List.map_cons,O,h.1]
theorem KV.length {z:List (κ×V)}{vs:List (κ×Value)} (r:KV z vs):z.length=vs.length:=Paired.length r
end
theorem bn0 {P:Program}{w:World}{k:Key}{u:Value} (r:RelV (kV k) u):(f_5 P w).is k u=true:=by
 cases k with
 |inl i=>obtain⟨t,e⟩:=(show ∃ t,u=Value.int i t from r);subst e;exact V_7 P w i t
 |inr x=>obtain⟨t,e⟩:=(show ∃ t,u=Value.str x t from r);subst e;exact v_9 P w x t
theorem F_3 {P:Program}{w:World}:∀ {ks:List Key}{z:List Value},Vals (ks.map kV) z->ItemsAre (f_5 P w) ks z
 |[],_,r=>by rw[List.map_nil] at r;cases r;exact .nil
 |k::ks,_,r=>by
  rw[List.map_cons] at r;cases r with
  |cons h t=>exact .cons (bn0 h) (F_3 t)
abbrev KT (H:Hp):List (List Key×V)->List (List Key×Addr×Value)->Prop:=Paired λ p q=>p.1=q.1/\H q.2.1=some (.tup (p.1.map kV))/\RelV p.2 q.2.2
theorem KT.val {H:Hp}{O:List (List Key×V)}{xs:List (List Key×Addr×Value)} (r:KT H O xs) (k:List Key):RelO (ag0 O k) ((atKey xs k).map (·.2)):=by
 induction r with
 |nil=>exact True.intro
 |@cons p q ps qs h t S =>
  obtain⟨h1,_,h2⟩:=h
  by_cases e:p.1=k
  ·have e':q.1=k:=h1.symm.trans e
   have b:atKey (q::qs) k=some q.2:=by simp[atKey,List.find?_cons,e']
   rw[X_8 e,b];exact h2
  ·have e':¬ q.1=k:=λ z=>e (h1.trans z)
   have b:atKey (q::qs) k=atKey qs k:=by simp[atKey,List.find?_cons,e']
   rw[X_9 e,b];exact S
theorem KT.keeps {H H':Hp}{O:List (List Key×V)}{xs:List (List Key×Addr×Value)} (r:KT H O xs) (ht:∀ b ys,H b=some (.tup ys)->H' b=some (.tup ys)):KT H' O xs :=
 Paired.mapP r λ _ _ z=>⟨z.1,ht _ _ z.2.1,z.2.2⟩
section
variable {P:Program}{w:World}{H:Hp}{h:Heap}{a:Addr}
theorem bb0 {ks:List Key} (ok:HOk P w H h) (e:H a=some (.tup (ks.map kV))):(tupleKind (f_5 P w)).is h ks a:=by
 obtain⟨_,z,r,o,h1,h2,⟨n,O⟩,_⟩:=(show ObjOk P w H h a (.tup (ks.map kV)) from ok a _ e);exact⟨o,z.toArray,n,h1,h2,O,by simpa using F_3 r⟩
end
noncomputable def DGet (H:Hp) (a:Addr) (y:V) (r:Option V):Prop :=
 (∃ z k,Rd H a (.dK z)/\y=kV k/\r=ag0 z k)\/∃ z k b,Rd H a (.dT z)/\y=.ref b/\H b=some (.tup (k.map kV))/\r=ag0 z k
noncomputable def DPut (H:Hp) (a:Addr) (y v:V) (H':Hp):Prop :=
 (∃ z k,H a=some (.dK z)/\y=kV k/\z.length<sizeLine/\H'=upd H a (.dK (bg0 z k v))) \/
 ∃ z k b,H a=some (.dT z)/\y=.ref b/\H b=some (.tup (k.map kV))/\z.length<sizeLine/\H'=upd H a (.dT (bg0 z k v))
theorem DGet.k {H:Hp}{a:Addr}{z:List (Key×V)}{k:Key} (e:H a=some (.dK z)):DGet H a (kV k) (ag0 z k):=.inl ⟨z,k,.inl e,rfl,rfl⟩
theorem DGet.t {H:Hp}{a b:Addr}{z:List (List Key×V)}{k:List Key} (e:H a=some (.dT z)) (O:H b=some (.tup (k.map kV))):DGet H a (.ref b) (ag0 z k):=.inr ⟨z,k,b,.inl e,rfl,O,rfl⟩
theorem DPut.k {H:Hp}{a:Addr}{z:List (Key×V)}{k:Key}{v:V} (e:H a=some (.dK z)) (hl:z.length<sizeLine):DPut H a (kV k) v (upd H a (.dK (bg0 z k v))):=.inl ⟨z,k,e,rfl,hl,rfl⟩
theorem DPut.t {H:Hp}{a b:Addr}{z:List (List Key×V)}{k:List Key}{v:V} (e:H a=some (.dT z)) (O:H b=some (.tup (k.map kV))) (hl:z.length<sizeLine) :
  DPut H a (.ref b) v (upd H a (.dT (bg0 z k v))):=.inr ⟨z,k,b,e,rfl,O,hl,rfl⟩
section
variable {X:Cx}{pins:List (Addr×Obj)}{σ:St}{H:Hp}{s:Shared}{a:Addr}{y v:V}{u r:Value}{o:Option V}{A:Around}{E:Value->Shared->Prop}
theorem Inv.big (I:Inv X pins σ H s):sysModules<s.heap.objs.size:=by
 have h:mainGlobals<s.heap.objs.size:=(I.mod.glob.keeps I.bk).lt;exact Nat.lt_trans (by decide) h
theorem aO5 {h':Heap}{t':Nat}{O:HO} (I:Inv X pins σ H s) (Z:Mut (H a)) (Y:Heap.SameBut a s.heap h') (S:∃ q,h'.get? a=some q) (new:ObjOk X.prog X.w (upd H a O) h' a O) :
  Inv X pins σ (upd H a O) {s with heap:=h',toks:=t'} :=
 I.write (x:=a) (e:=a) Z (.inl rfl) (λ b q hb z=>(Y.2 b hb).trans z) S new
end
noncomputable def bs6 (i:Expr):Prop:=∀ O z,subscripted i false O z=operate [O,z] (getItem O z)
theorem aF7 {prog:Program}{w:World}{A:Around}{E:Value->Shared->Prop}{s:Shared}{env:Env}{value z:Expr}{pos:Pos}{T id:String}{Q:Value->Shared->Prop}
  (hl:typeLookup (.type T) "__getitem__"=pure (some (.builtin id))) (hs:bs6 z)
  (h:wpAny (model prog w) A (eval value env) (λ o Z=>wpAny (model prog w) A (eval z env) (λ i O=>O.TypeIs o T/\wpAny (model prog w) A (getItem o i) Q E O) E Z) E s) :
  wpAny (model prog w) A (eval (.Subscript value z pos) env) Q E s:=by
 refine Subscript_ (wpAny_mono h (λ o Z aa=>wpAny_mono aa (λ i O S=>?_) λ _ _ x=>x) λ _ _ x=>x)
 obtain⟨hT,S⟩:=S;unfold subscriptTail;refine qb ?_;rw[getitemInPython_of_ne hT.not_modules];refine qb (wpAny_specialOf hT hl ?_)
 have fin:wpAny (model prog w) A (subscripted z false o i) (λ r Y=>wpAny (model prog w) A (letTemporaryGo value o r >>= λ _=>pure r) Q E Y) E O:=by
  rw[hs o i];exact wpAny_operating (wpAny_mono S (λ r Y ab=>qb (wpAny_letTemporaryGo (qc ab))) λ _ _ x=>x)
 first
  |exact qc (qb fin)
  |exact qb (qc (qb fin))
  |exact qb fin
structure M1 (X:Cx) (o:Expr) (m:Str) (apos:Pos) (e:Expr) (cpos:Pos):Prop where
 base:attributeBase o m X.env (eval o X.env)=eval o X.env
 few:((backTo cpos (starEach [e] X.env)).all (λ x=>!x.1)&&(backToKw cpos (keywordEach [] X.env)).all (λ x=>x.1.isSome)
  && decide (([e]:List Expr).length+([]:List Keyword).length+(if ([]:List Keyword).isEmpty then 0 else 1)<30))=true
 line:(apos.endLine==cpos.line)=true
 trees:backTo cpos (starEach [e] X.env)=[(false,eval e X.env)]
structure M2 (X:Cx) (o:Expr) (m:Str) (apos:Pos) (e f:Expr) (cpos:Pos):Prop where
 base:attributeBase o m X.env (eval o X.env)=eval o X.env
 few:((backTo cpos (starEach [e,f] X.env)).all (λ x=>!x.1)&&(backToKw cpos (keywordEach [] X.env)).all (λ x=>x.1.isSome)
  && decide (([e,f]:List Expr).length+([]:List Keyword).length+(if ([]:List Keyword).isEmpty then 0 else 1)<30))=true
 line:(apos.endLine==cpos.line)=true
 trees:backTo cpos (starEach [e,f] X.env)=[(false,eval e X.env),(false,eval f X.env)]
end L2
namespace Att
open PySem PySem.W PySem.Calls PyProof.Rows
end Att
namespace L2
open PySem PySem.Spec PyProof.Rows
section
variable {κ:Type} [DecidableEq κ]
theorem V_6:∀ {l:List κ}{k:κ},l.Nodup->¬ k∈l->(l++[k]).Nodup
 |[],k,_,_=>by simp
 |a::r,k,h,hk=>by
  obtain⟨h1,h2⟩:=List.nodup_cons.mp h;show (a::(r++[k])).Nodup;refine List.nodup_cons.mpr ⟨λ m=>?_,V_6 h2 λ m=>hk (List.mem_cons.mpr (Or.inr m))⟩
  rcases qw m with q | q
  ·exact h1 q
  ·exact hk (List.mem_cons.mpr (Or.inl (List.mem_singleton.mp q).symm))
end
theorem C_0 {a b:Addr}{n:Nat} (h:a<n) (h':n<=b):a≠b:=qr (qp h h')
theorem aC4 {a b:Addr}{n:Nat} (h:a<n) (h':n<=b):b≠a:=(C_0 h h').symm
noncomputable def W_6 (cells:List (Str×Addr)):List (Str×NameKind)->List (Str×Addr)->List (Str×Addr)
 |[],acc=>acc
 |(n,k)::r,acc=>W_6 cells r (if (k==NameKind.free)=true then (n,(cells.lookup n).getD 0)::acc else acc)
theorem z_8 {env:Env}:∀ (l:List (Str×NameKind)) (z:List (Str×Addr)),(∀ y∈l,y.2=.free->∃ c,env.cells.lookup y.1=some c) ->
  (forIn l z λ (y:Str×NameKind) (S:List (Str×Addr))=>(match y with
   |(name,kind)=>if (kind==NameKind.free)=true then do let c <- cellOf env name;pure (ForInStep.yield ((name,c)::S)) else pure (ForInStep.yield S):Sem _))=pure (W_6 env.cells l z)
 |[],z,_=>rfl
 |(n,k)::r,z,h=>by
  rw[List.forIn_cons];unfold W_6
  by_cases e:(k==NameKind.free)=true
  ·have e':k=NameKind.free:=by simpa using e
   obtain⟨c,Y⟩:=h (n,k) qg e';simp only[e,if_true,cellOf,Y,pure_bind,Option.getD_some];exact z_8 r _ λ y O=>h y (qh _ O)
  ·simp only[e,if_false,pure_bind]
   exact z_8 r _ λ y O=>h y (qh _ O)
theorem J_6 {sc:Scope}{env:Env} (h:∀ y∈sc.names,y.2=.free->∃ c,env.cells.lookup y.1=some c):closureFor sc env=pure (W_6 env.cells sc.names []):=by
 have e:=z_8 (env:=env) sc.names [] h;simp only[closureFor];exact (bind_pure _).trans e
theorem N_2 {cells:List (Str×Addr)}{y:Str}{c:Addr}:∀ (l:List (Str×NameKind)) (O:List (Str×Addr)),(∀ y∈l,y.2=.free->∃ c,cells.lookup y.1=some c) ->
  (W_6 cells l O).lookup y=some c->cells.lookup y=some c\/O.lookup y=some c
 |[],O,_,e=>.inr e
 |(n,k)::r,O,h,e=>by
  unfold W_6 at e;have hr:∀ y∈r,y.2=.free->∃ c,cells.lookup y.1=some c:=λ y hy=>h y (qh _ hy)
  rcases N_2 r _ hr e with q | q
  ·exact .inl q
  ·by_cases z:(k==NameKind.free)=true
   ·rw[if_pos z] at q
    rw[List.lookup_cons] at q;cases hb:y==n with
    |true =>
     rw[hb] at q;obtain⟨Z,Y⟩:=h (n,k) qg (by simpa using z)
     have S:cells.lookup n=some Z:=Y;rw[S] at q;have e1:y=n:=by simpa using hb
     have q':Z=c:=qi q;exact .inl (by rw[e1,S,q'])
    |false =>
     rw[hb] at q;exact .inr q
   ·rw[if_neg z] at q
    exact .inr q
theorem x_4 {cells:List (Str×Addr)}{y:Str}:∀ (l:List (Str×NameKind)) (z:List (Str×Addr)),((y,NameKind.free)∈l\/∃ c,z.lookup y=some c)->∃ c,(W_6 cells l z).lookup y=some c
 |[],z,h=>by
  rcases h with h | h
  ·cases h
  ·exact h
 |(n,k)::r,z,h=>by
  unfold W_6
  have S:∀ v:Addr,(∃ c,z.lookup y=some c)->∃ c,((n,v)::z).lookup y=some c:=λ v O=>by
   obtain⟨c,Y⟩:=O;rw[List.lookup_cons];cases y==n with
   |true=>exact⟨v,rfl⟩
   |false=>exact⟨c,Y⟩
  rcases h with h | h
  ·rcases qt h with e | h
   ·have e1:y=n:=congrArg Prod.fst e
    have e2:NameKind.free=k:=congrArg Prod.snd e;subst e1 e2;refine x_4 r _ (.inr ?_);rw[if_pos (by rfl)]
    refine⟨(cells.lookup y).getD 0,?_⟩;rw[List.lookup_cons];simp
   ·exact x_4 r _ (.inl h)
  ·refine x_4 r _ (.inr ?_)
   split
   ·exact S _ h
   ·exact h
theorem P_1 {scope:Scope}{env:Env}{y:Str}{k:NameKind} (Z:∀ z∈scope.names,z.2≠.cell) (h:(relabel scope env).names.lookup y=some k) (hk:k=.cell\/k=.free):(y,NameKind.free)∈scope.names:=by
 have m:=PySem.mem_of_lookup h;unfold relabel at m;obtain⟨⟨n,S⟩,O,e⟩:=List.mem_map.mp m;dsimp only at e
 split at e
 ·rename_i z
  have e1:n=y:=congrArg Prod.fst e
  have Y:S=NameKind.free:=by
   simp only[Bool.and_eq_true] at z
   simpa using z.1.1
  subst e1 Y;exact O
 ·have e1:n=y:=congrArg Prod.fst e
  have e2:S=k:=congrArg Prod.snd e;subst e1 e2
  rcases hk with z | z
  ·exact absurd z (Z _ O)
  ·rw[z] at O;exact O
theorem I_8 {env:Env} (hf:env.scope.kind=.function):∀ {names:List (Str×NameKind)}{y:Str},names.lookup y=some .free->env.kindOf y=some .cell ->
  (names.map λ (n,k)=>if (k==NameKind.free&&env.scope.kind==.function&&env.kindOf n==some .cell) then (n,NameKind.cell) else (n,k)).lookup y=some .cell
 |[],_,h,_=>by simp at h
 |(n,k)::r,y,h,hk=>by
  have S:=@I_8 env hf r y;rw[List.map_cons];cases O:y==n with
  |true =>
   have e:y=n:=by simpa using O
   subst e;rw[List.lookup_cons,O] at h;have h':k=NameKind.free:=qi h;subst h';simp[hf,hk,List.lookup_cons]
  |false =>
   rw[List.lookup_cons,O] at h;show List.lookup y ((if (k==NameKind.free&&env.scope.kind==.function&&env.kindOf n==some .cell)=true then (n,NameKind.cell) else (n,k))::_)=_
   by_cases z:(k==NameKind.free&&env.scope.kind==.function&&env.kindOf n==some .cell)=true
   ·rw[if_pos z,List.lookup_cons,O];exact S h hk
   ·rw[if_neg z,List.lookup_cons,O];exact S h hk
structure ScB (N:List Str) (sc scope:Scope) (x:Str) (frees:List Str) (js:List Nat):Prop where
 kind:scope.kind=.function
 fk:sc.kind=.function
 cells:∀ y∈scope.names,y.2≠.cell
 locs:∀ y∈scope.names,y.2=.local->scope.names.lookup y.1=some .local
 own:scope.names.lookup x=some .local
 fr:∀ y∈scope.names,y.2=.free->sc.names.lookup y.1=some .cell
 nd:(x::frees).Nodup
 ln:frees.length=js.length
 zp:∀ p∈frees.zip js,N[p.2]?=some p.1/\sc.names.lookup p.1=some .cell/\scope.names.lookup p.1=some .free
noncomputable def cxB (X:Cx) (N:List Str) (scope:Scope) (s:Shared) (H:Hp) (C:Addr) (z:List Addr):Cx where
 prog:=X.prog
 w:=X.w
 K:=X.K
 mg:=X.mg
 base:=X.base
 A:=X.A
 N:=N
 s₀:=s
 H₀:=H
 env:=compEnvC scope (W_6 X.env.cells scope.names []) C X.env
 outer:=X.stack
 stack:=X.stack
 ex:=z
 fn:=λ _=>false
 calm:=X.calm
 pn:=[]
 xe:=λ _ _=>False
noncomputable def frv (σ:St) (js:List Nat):St:=js.map λ j=>(σ[j]?).join
noncomputable def PTs (X:Cx) (ifs:List Expr) (t:TT):Prop :=
 ∀ (pins:List (Addr×Obj)) (s:Shared) (σ:St) (H:Hp) (Q:Bool->Hp->Prop),Inv X pins σ H s->t σ H Q ->
  wpAny (model X.prog X.w) X.A (forIn ifs true λ c r=>if r=true then do let ok <- isTrue c X.env (eval c X.env);pure (ForInStep.yield ok) else pure (ForInStep.yield r)) (TP X pins σ Q) X.xe s
noncomputable def tYes:TT:=λ _ H Q=>Q true H
theorem aH3 {X:Cx}:PTs X [] tYes:=λ _ _ _ H _ I h=>wpAny_tests_nil ⟨H,I,h⟩
theorem aH2 {X:Cx}{c:Expr}{t:TT} (h:PT X c t):PTs X [c] t:=λ pins s σ H Q I q=>wpAny_tests_one (h pins s σ H Q I q)
noncomputable def LcW (js:List Nat) (tt:TT) (te:TE) (σ:St) (Q:List V->Hp->Prop) (J:It) (H1:Hp):Prop :=
 ∃ W:Nat->Nat->List V->Hp->Prop,(∃ m,W 0 m [] H1)/\∀ i m ys H,W i m ys H ->
  (J.stop i H/\ys.length<=sizeLine/\Q ys H) \/
  (J.go i H/\ys.length<sizeLine/\∀ x H',J.yld i H x H'->tt (some x::frv σ js) H' λ b H2 =>
   if b=true then te (some x::frv σ js) H2 λ v O=>∃ z,z<m/\W (i+1) z (ys++[v]) O else ∃ z,z<m/\W (i+1) z ys H2)
section
variable {X:Cx}{pins:List (Addr×Obj)}{σ:St}{H:Hp}{s:Shared}{x:Str}{scope sc:Scope}{frees:List Str}{js:List Nat}
theorem aa5 (I:Inv X pins σ H s) (z:X.env.scope=sc) (B:ScB X.N sc scope x frees js):∀ y∈scope.names,y.2=.free->∃ c,X.env.cells.lookup y.1=some c:=λ y O hf =>
 I.ok.has y.1 (.inl (show X.env.scope.names.lookup y.1=some .cell by rw[z];exact B.fr y O hf))
theorem ag3 {α z:Type}:∀ {l:List α}{r:List z}{k:Nat}{a:α},l.length=r.length->l[k]?=some a->∃ b,r[k]?=some b/\(a,b)∈l.zip r
 |[],_,_,_,_,h=>by simp at h
 |_::_,[],_,_,hl,_=>by simp at hl
 |a'::l,b'::r,0,a,_,h=>by
  simp at h;subst h;exact⟨b',rfl,by simp⟩
 |a'::l,b'::r,k+1,a,hl,h=>by
  obtain⟨b,h1,h2⟩:=ag3 (l:=l) (r:=r) (k:=k) (a:=a) (by simpa using hl) (by simpa using h)
  exact⟨b,by simpa using h1,by rw[List.zip_cons_cons];exact qh _ h2⟩
theorem aq1 {fp:List Addr}{O:Heap}{C D:Addr}{tk:Nat}{mC:Str->Option Value}{oD:Obj} (I:Inv X pins σ H s) (aa:X.env.scope=sc) (B:ScB X.N sc scope x frees js) (hf:∀ b∈fp,ar7 X pins H b) (ae:∀ b∈fp,b<s.heap.objs.size)
  (hC:s.heap.objs.size<=C) (hD:s.heap.objs.size<=D) (ad:D≠C) (Y:∀ b o,s.heap.get? b=some o->O.get? b=some o) (ns:O.Ns C mC) (gD:O.get? D=some oD) (nD:∀ v,oD.data≠.cell v) :
  Inv (cxB X (x::frees) scope s H C fp) (pins++[(D,oD)]) (none::frv σ js) H {s with heap:=O,toks:=tk}:=by
 have lc:=aa5 I aa B
 have S:∀ y c,(W_6 X.env.cells scope.names []).lookup y=some c->X.env.cells.lookup y=some c:=λ y c e=>by
  rcases N_2 scope.names [] lc e with q | q
  ·exact q
  ·cases q
 have ah:∀ y c,X.env.cells.lookup y=some c->c<s.heap.objs.size:=λ y c e=>by
  obtain⟨v,q⟩:=I.cell y c e;exact q.lt
 have ag:∀ b∈fp,(b∈X.ex\/X.s₀.heap.objs.size<=b):=λ b hb=>(hf b hb).2.2.2.1
 obtain⟨m,hn,hl⟩:=I.loc;refine⟨⟨I.ok.mod,B.kind,I.ok.glob,I.ok.blt,hC,?_,?_,?_,I.ok.hd,I.ok.frames,.inl rfl,?_,?_,Nat.le_trans I.ok.bsz I.sz,?_,?_,I.stack,I.stkFree⟩,rfl,I.bare,Un.kept Y,⟨mC,ns,?_⟩,?_,I.hok.fresh hC,?_,?_,I.hok.kept Y,?_⟩
 ·exact λ y z c e1 e2=>I.ok.inj y z c (S y c e1) (S z c e2)
 ·intro y hy
  have hm:(y,NameKind.free)∈scope.names:=by
   rcases hy with q | q
   ·exact P_1 (env:=X.env) B.cells q (.inl rfl)
   ·exact P_1 (env:=X.env) B.cells q (.inr rfl)
  exact x_4 scope.names [] (.inl hm)
 ·exact λ y c z _=>absurd z Bool.false_ne_true
 ·intro b hb
  refine⟨λ z=>?_,λ y c e z=>(hf b hb).2.2.2.2.1 y c (S y c e) z⟩
  have z':b=C:=z;exact absurd (qp (ae b hb) hC) (by rw[z'];exact Nat.lt_irrefl _)
 ·exact λ b o e=>I.bs b o e
 ·intro b o e hb
  rcases ag b hb with z | z
  ·exact I.ok.noex b o e z
  ·exact absurd (qp (qm (I.ok.bs b o e).1) z) (Nat.lt_irrefl _)
 ·intro b hb z
  rcases qt (I.stkSub b z) with e | e
  ·exact (hf b hb).2.1 e
  ·exact (hf b hb).2.2.1 e
 ·intro i y v e1 e2 e3
  cases i with
  |zero=>simp at e2
  |succ k =>
   have af:frees[k]?=some y:=by
    have e0:(x::frees)[k+1]?=some y:=e1
    simpa using e0
   obtain⟨j,hj,hz⟩:=ag3 B.ln af;obtain⟨z1,z2,z3⟩:=B.zp _ hz;have Z:(frv σ js)[k]?=some (some v):=by simpa using e2
   have e4:σ[j]?=some (some v):=by
    unfold frv at Z;rw[List.getElem?_map,hj] at Z;have e5:(σ[j]?).join=some v:=qi Z;cases q:σ[j]? with
    |none=>rw[q] at e5;cases e5
    |some w'=>rw[q] at e5;cases w' with
     |none=>cases e5
     |some w2=>cases e5;rfl
   have kX:X.env.kindOf y=some .cell:=by show X.env.scope.names.lookup y=_;rw[aa];exact z2
   obtain⟨u,r,q⟩:=hl j y v z1 e4 (.inr (.inl kX));refine⟨u,r,?_⟩
   rcases q with ⟨q,_⟩ | ⟨_,c,ec,ic⟩
   ·rw[kX] at q;cases q
   ·have kY:(compEnvC scope (W_6 X.env.cells scope.names []) C X.env).kindOf y=some .cell:=I_8 (env:=X.env) (by rw[aa];exact B.fk) z3 kX
    refine .inr ⟨.inl kY,c,?_,?_⟩
    ·obtain⟨c',ab⟩:=x_4 (cells:=X.env.cells) scope.names [] (.inl (PySem.mem_of_lookup z3))
     have:=S y c' ab;rw[ec] at this;cases this;exact ab
    ·obtain⟨o,ho,hd⟩:=ic
     exact⟨o,Y c o ho,hd⟩
 ·intro y c e
  obtain⟨v,o,ho,hd⟩:=I.cell y c (S y c e);exact⟨v,o,Y c o ho,hd⟩
 ·exact λ y c e=>I.freeC y c (S y c e)
 ·intro p hp
  have ac:p∈pins++[(D,oD)]:=by simpa [cxB] using hp
  rcases qw ac with z | z
  ·obtain⟨a1,a2,a3,a4,a5⟩:=I.pin p (qo _ z)
   refine⟨Y _ _ a1,a2,λ e=>?_,λ e=>?_,a5⟩
   ·exact absurd (qp (qm a1) hC) (by rw[show p.1=C from e];exact Nat.lt_irrefl _)
   ·rcases qt (I.stkSub p.1 e) with e | e
    ·exact a3 e
    ·exact a4 e
  ·have z':p=(D,oD):=by simpa using z
   subst z';refine⟨gD,I.hok.fresh hD,ad,λ e=>?_,nD⟩
   rcases qt (I.stkSub D e) with e | e
   ·exact absurd (qp I.lt hD) (by rw[show D=X.env.locals from e];exact Nat.lt_irrefl _)
   ·exact I.nofs hD e
 ·show (none::frv σ js).length=(x::frees).length
  rw[List.length_cons,List.length_cons,B.ln,frv,List.length_map]
end
theorem af2 {prog:Program}{w:World}{A:Around}{R:Result->Shared->Prop}{s:Shared}{elt O iter:Expr}{ifs:List Expr}{scope:Scope}{pos:Pos}{it S:Value}{env:Env} (I:Nat->Shared->Prop)
  (Y:∀ n s,I n s->wpAny (model prog w) A (pyNext it) (λ r Z=>match r with
   |none=>R (.ok .next) Z
   |some v=>wpAny (model prog w) A (letOwnedTupleGo O it v) (λ _ s2=>wpAny (model prog w) A (assign O env v) (λ _ s3 =>
     wpAny (model prog w) A (forIn ifs true λ c r=>if r=true then do let ok <- isTrue c env (eval c env);pure (ForInStep.yield ok) else pure (ForInStep.yield r)) (λ ok s4 =>
      if ok=true then wpAny (model prog w) A (eval elt env) (λ y s5=>wpAny (model prog w) A (call (.builtin "list.append") [S,y]) (λ _ s6=>∃ m,m<n ∧ I m s6) (λ _ _=>False) s5) (λ _ _=>False) s4
      else ∃ m,m<n/\I m s4) (λ _ _=>False) s3) (λ _ _=>False) s2) (λ _ _=>False) Z) (λ _ _=>False) s)
  (n:Nat) (h:I n s):codeAny (model prog w) A (.compLoop (.ListComp elt [⟨O,iter,ifs,0⟩] scope pos) 0 it S env) R s:=by
 refine codeAny_loop rfl I (λ n s hI=>?_) n h
 show wpAny _ A ((compTurn (.ListComp elt [⟨O,iter,ifs,0⟩] scope pos) 0 it S env).onRaise (λ x=>do noteFrame x env;theTreesLotGoes x)) _ _ s
 refine wpAny_noted ?_;rw[compTurn_list];refine qb (wpAny_standAt (qb (wpAny_mono (Y n s hI) (λ r Z h1=>?_) λ _ _ z=>z.elim)))
 cases r with
 |none=>exact qc h1
 |some v =>
  refine qb (wpAny_mono h1 (λ _ s2 h2=>?_) λ _ _ z=>z.elim)
  refine qb (wpAny_mono h2 (λ _ s3 h3=>?_) λ _ _ z=>z.elim)
  refine qb (wpAny_mono h3 (λ ok s4 h4=>?_) λ _ _ z=>z.elim)
  cases ok with
  |false=>exact qc ⟨rfl,h4⟩
  |true =>
   refine qb (qb (wpAny_mono h4 (λ y s5 h5=>?_) λ _ _ z=>z.elim))
   exact qb (wpAny_mono h5 (λ _ s6 h6=>qc (qc ⟨rfl,h6⟩)) λ _ _ z=>z.elim)
section
variable {X:Cx}{pins:List (Addr×Obj)}{σ:St}{H:Hp}{s:Shared}{x:Str}{scope sc:Scope}{frees:List Str}{js:List Nat}{elt iter:Expr}{ifs:List Expr}{px pos:Pos}{tt:TT}{te:TE}{E:Value->Shared->Prop}
abbrev al0 (z:List Value) (n:Nat):Obj:={cls:=.type "list",data:=.seq z.toArray n}
theorem aC9 {it:Addr}{S:List Addr}{tn:Nat->Heap->Prop}{J:It}{Qe:List V->Hp->Prop}{RR:Value->Addr->Result->Shared->Prop} (I:Inv X pins σ H s) (hc:X.calm=true) (a1:X.env.scope=sc) (B:ScB X.N sc scope x frees js)
  (T:Turn X.prog X.w X.K (.Name x px) J S it tn) (st:tn 0 s.heap) (f:∀ b∈S,ar7 X pins H b) (hW:LcW js tt te σ Qe J H)
  (ht:∀ s H C S,PTs (cxB X (x::frees) scope s H C S) ifs tt) (he:∀ s H C S,PE (cxB X (x::frees) scope s H C S) elt te)
  (hR:∀ (D C:Addr) (s':Shared) (H':Hp) (ys:List V) (O:List Value) (n:Nat),s.heap.objs.size<=D->s.heap.objs.size<=C->D≠C->Inv (cxB X (x::frees) scope s H C S) pins (none::frv σ js) H' s'->H' D=none ->
   Vals ys O->s'.heap.get? D=some (al0 O n)->ys.length<=sizeLine->Qe ys H'->RR (.ref D) C (.ok .next) s') :
  wpAny (model X.prog X.w) X.A (newList []) (λ a9 s3=>wpAny (model X.prog X.w) X.A (newFunctionEnv scope X.env.globals (W_6 X.env.cells scope.names []) [] X.env.qual none .none (some X.env)) (λ am s4 =>
   codeAny (model X.prog X.w) X.A (.compStart (.ListComp elt [⟨.Name x px,iter,ifs,0⟩] scope pos) 0 (.ref it) a9 {am with scope:=relabel scope X.env}) (RR a9 am.locals) s4) E s3) E s:=by
 obtain⟨W,⟨m0,w0⟩,az⟩:=hW;refine wpAny_newObj_type (wpAny_newFunctionEnv B.cells (by intro y hy;simp at hy) (λ af aa Z=>?_) B.kind)
 dsimp only at aa Z ⊢
 generalize hG:s.heap.push {cls:=.type "list",dict:=none,data:=.seq ([]:List Value).toArray}=G at aa Z ⊢
 have aw:G.objs.size=s.heap.objs.size+1:=by rw[<- hG,Heap.size_push]
 have ao:s.heap.objs.size<=G.objs.size:=by rw[aw];exact Nat.le_succ _
 have an:s.heap.objs.size≠G.objs.size:=by rw[aw];exact qr (Nat.lt_succ_self _)
 obtain⟨C,bg⟩:∃ C:Addr,C=G.objs.size:=⟨_,rfl⟩;obtain⟨D,ak⟩:∃ D:Addr,D=s.heap.objs.size:=⟨_,rfl⟩;rw[<- bg] at aa Z an ao ⊢;have ad:s.heap.objs.size<=D:=by rw[ak];exact qj _
 have ai:s.heap.objs.size<=C:=ao;have ag:D≠C:=by rw[ak];exact an
 have a8:∀ b o,s.heap.get? b=some o->af.get? b=some o:=λ b o e=>by
  refine Z.extBut b o (C_0 (qm e) ai) (qd _ ?_);rw[<- hG];exact qd _ e
 have gD:af.get? D=some (al0 [] 0):=by
  refine Z.extBut D _ ag (qd _ ?_);rw[<- hG,ak];exact qk _ rfl
 have au:∀ b∈S,b<s.heap.objs.size:=λ b hb=>by
  obtain⟨o,e,_⟩:=T.obj 0 _ st b hb;exact qm e
 show codeAny (model X.prog X.w) X.A (.compStart (.ListComp elt [⟨.Name x px,iter,ifs,0⟩] scope pos) 0 (.ref it) (.ref s.heap.objs.size) (compEnvC scope (W_6 X.env.cells scope.names []) C X.env)) (RR (.ref s.heap.objs.size) C) _;rw[<- ak];have bc:D∉S:=λ z=>C_0 (au D z) ad rfl
 have Y0:=aq1 (tk:=s.toks+([]:List (Str×Value)).length) (x:=x) I a1 B f au ai ad ag a8 aa gD (λ v z=>nomatch z)
 have ay:tn 0 af:=T.keep 0 _ _ st λ b _ o e=>a8 b o e
 have av:∀ y c,(W_6 X.env.cells scope.names []).lookup y=some c->X.env.cells.lookup y=some c:=λ y c e=>by
  rcases N_2 scope.names [] (aa5 I a1 B) e with q | q
  ·exact q
  ·cases q
 have a7:∀ p∈pins,p.1<s.heap.objs.size:=λ p hp=>qm (I.pin p (qo _ hp)).1
 have ah:∀ {H':Hp}{o:Obj},(∀ b∈S,H' b=none)->∀ b∈S,ar7 (cxB X (x::frees) scope s H C S) (pins++[(D,o)]) H' b:=λ {H' o} hn b hb=>by
  obtain⟨_,a2,a3,a4,a5,a6⟩:=f b hb;have lt:=au b hb;refine⟨hn b hb,?_,λ z=>?_,.inl hb,λ y c e=>a5 y c (av y c e),λ p hp=>?_⟩
  ·exact C_0 lt ai
  ·rcases qt (I.stkSub b z) with e | e
   ·exact a2 e
   ·exact a3 e
  ·have ar:p∈pins++[(D,o)]:=by simpa [cxB] using hp
   rcases qw ar with z | z
   ·exact a6 p (qo _ z)
   ·have z':p=(D,o):=by simpa using z
    subst z';exact aC4 lt ad
 have al:∀ s3:Shared,s3={s with heap:=af,toks:=s.toks+([]:List (Str×Value)).length} ->
   codeAny (model X.prog X.w) X.A (.compLoop (.ListComp elt [⟨.Name x px,iter,ifs,0⟩] scope pos) 0 (.ref it) (.ref D) (compEnvC scope (W_6 X.env.cells scope.names []) C X.env)) (RR (.ref D) C) s3:=by
  rintro s3 rfl;refine af2 (λ n s'=>∃ i ys O k H',Inv (cxB X (x::frees) scope s H C S) (pins++[(D,al0 O k)]) (none::frv σ js) H' s'/\tn i s'.heap/\(∀ b∈S,H' b=none)/\Vals ys O/\W i n ys H') ?_ m0
   ⟨0,[],[],0,H,Y0,ay,λ b hb=>(f b hb).1,.nil,w0⟩
  rintro n s4 ⟨i,ys,O,k,H4,I4,a0,ba,rv,w4⟩
  have pD:∀ {pl:List (Addr×Obj)}{ac:St}{H':Hp}{s':Shared},Inv (cxB X (x::frees) scope s H C S) (pins++[(D,al0 O k)]++pl) ac H' s'->s'.heap.get? D=some (al0 O k)/\H' D=none:=λ I'=>by
   have q:=I'.pin (D,al0 O k) (qo _ (List.mem_append_left _ (qo _ qg)));exact⟨q.1,q.2.1⟩
  have ab:∀ {pl:List (Addr×Obj)}{ac:St}{H':Hp}{s':Shared},Inv (cxB X (x::frees) scope s H C S) (pins++pl) ac H' s'->Inv (cxB X (x::frees) scope s H C S) pins ac H' s':=λ I'=>I'.unpinned
  rcases az i n ys H4 w4 with ⟨stop,lz,qe⟩ | ⟨go,lz,step⟩
  ·refine thn (T.done (cxB X (x::frees) scope s H C S) rfl rfl rfl hc i _ s4 _ H4 (λ _ _=>False) I4 (ah ba) a0 stop) λ r s5 Y=>?_
   obtain⟨hr,I5⟩:=Y;subst hr;have I5':Inv (cxB X (x::frees) scope s H C S) (pins++[(D,al0 O k)]++[]) (none::frv σ js) H4 s5:=by simpa using I5
   exact hR D C s5 H4 ys O k ad ai ag (ab I5) (pD I5').2 rv (pD I5').1 lz qe
  ·refine thn (T.item (cxB X (x::frees) scope s H C S) rfl rfl rfl hc i _ s4 _ H4 (λ _ _=>False) I4 (ah ba) a0 go) λ r s5 Y=>?_
   obtain⟨u,hr,h5⟩:=Y;subst hr;refine thn h5 λ _ s6 Y=>?_
   obtain⟨y,H6,I6,r6,y6,aj,be⟩:=Y;have I6':=I6.pinned (ah be) (T.obj _ _ aj);have hx:Loc (cxB X (x::frees) scope s H C S).env.scope x:=.inl (lookup_relabel_local B.own)
   have bf:D∉(cxB X (x::frees) scope s H C S).fs:=λ z=>by
    rcases qt (I.stkSub D z) with e | e
    ·exact C_0 I.lt ad e.symm
    ·exact I.nofs ad e
   refine thn (K_7 (X:=cxB X (x::frees) scope s H C S) (i:=0) B.nd rfl hx (.inr (lookup_relabel_local B.own)) _ s6 _ H6 y u (λ ac H'=>ac=some y::frv σ js/\tt ac H' λ b H2 =>
    if b=true then te (some y::frv σ js) H2 λ v H3=>∃ m',m'<n/\W (i+1) m' (ys++[v]) H3 else ∃ m',m'<n/\W (i+1) m' ys H2) I6' r6 ⟨rfl,step y H6 y6⟩) λ _ s7 ⟨bi,H7,I7,e7,q7⟩=>?_
   subst e7;have aq:∀ {ac:St}{H':Hp}{s':Shared},Inv (cxB X (x::frees) scope s H C S) (pins++[(D,al0 O k)]++P_6 S s6.heap) ac H' s'->(∀ b∈S,∀ o,s6.heap.get? b=some o->s'.heap.get? b=some o)/\∀ b∈S,H' b=none:=λ {ac H' s'} I' =>
    ⟨λ b hb o e=>(I'.pin (b,o) (qo _ (qo _ (u_2 hb e)))).1,λ b hb=>by
     obtain⟨o,e,_⟩:=T.obj _ _ aj b hb;exact (I'.pin (b,o) (qo _ (qo _ (u_2 hb e)))).2.1⟩
   have ae:∀ {pl:List (Addr×Obj)}{H':Hp}{s':Shared},Inv (cxB X (x::frees) scope s H C S) pl (some y::frv σ js) H' s'->Inv (cxB X (x::frees) scope s H C S) pl (none::frv σ js) H' s':=λ I' =>
    I'.weak rfl λ j v e=>by
     cases j with
     |zero=>simp at e
     |succ j=>simpa using e
   refine thn (ht s H C S _ s7 _ H7 _ I7 q7) λ ok s8 Y=>?_
   obtain⟨H8,I8,q8⟩:=Y;cases ok with
   |false =>
    rw[if_neg Bool.false_ne_true] at q8 ⊢;obtain⟨m',hm,w8⟩:=q8;obtain⟨b1,b2⟩:=aq I8;exact⟨m',hm,i+1,ys,O,k,H8,ae I8.unpinned,T.keep _ _ _ aj b1,b2,rv,w8⟩
   |true =>
    rw[if_pos rfl] at q8 ⊢;refine thn (he s H C S _ s8 _ H8 _ I8 q8) λ v s9 Y=>?_
    obtain⟨vv,H9,I9,r9,m',hm,w9⟩:=Y;obtain⟨as,bb⟩:=pD I9;obtain⟨b1,b2⟩:=aq I9;have bh:=rv.length;refine call_meets F.slot_list_append ⟨_,as,rfl⟩ F.entry_list_append (F.args_list_append_2 _ _) (PySem.list_append D O.toArray k v (by rw[List.size_toArray];omega)) ⟨as,?_⟩
    have ea:O.toArray.push v=(O++[v]).toArray:=by simp
    obtain⟨k',q⟩:∃ k',(s9.heap.update D (Obj.mapSeq (·.push v))).get? D=some (al0 (O++[v]) k'):=by
     have q0:=PySem.IsL.update as (·.push v);rw[ea] at q0;exact⟨_,q0⟩
    have ax:∀ b o,b≠D->s9.heap.get? b=some o->(s9.heap.update D (Obj.mapSeq (·.push v))).get? b=some o:=λ b o hb e=>(Heap.get?_update_other s9.heap (Obj.mapSeq (·.push v)) (Ne.symm hb)).trans e
    have I10:Inv (cxB X (x::frees) scope s H C S) pins (some y::frv σ js) H9 {s9 with heap:=s9.heap.update D (Obj.mapSeq (·.push v))} :=
     (ab I9.unpinned).turned (t':=s9.toks) (it:=D) ax bb ag (.inr ad) (λ y' c e z=>by
      obtain⟨w',q'⟩:=I.cell y' c (av y' c e)
      exact C_0 q'.lt ad z) (λ p hp z=>by
      have ar:p∈pins:=by simpa [cxB] using hp
      exact C_0 (a7 p ar) ad z)
    refine⟨m',hm,i+1,ys++[vv],O++[v],k',H9,ae (I10.pins_of λ p hp=>?_),T.keep _ _ _ aj λ b hb o e=>ax b o (λ z=>bc (z▸hb)) (b1 b hb o e),b2,rv.append (.cons r9 .nil),w9⟩
    rcases qw hp with z | z
    ·exact I10.pin p (qo _ z)
    ·have z':p=(D,al0 (O++[v]) k'):=List.mem_singleton.mp z
     subst z';exact⟨q,bb,ag,bf,λ w' z2=>nomatch z2⟩
 exact codeAny_compStart_list (al _ rfl) (T.self _ 0 _ _ _ ay (al _ rfl))
theorem aa6 {Y:List Addr}{D C:Addr}{s':Shared}{H':Hp}{ys:List V}{z:List Value}{n:Nat} (I:Inv X pins σ H s) (f:∀ b∈Y,ar7 X pins H b) (hD:s.heap.objs.size<=D) (J:Inv (cxB X (x::frees) scope s H C Y) pins (none::frv σ js) H' s') (O:H' D=none) (rv:Vals ys z)
  (gD:s'.heap.get? D=some (al0 z n)) (hz:ys.length<=sizeLine):Inv X pins σ (upd H' D (.lst ys)) s':=by
 have u:Un (frs X.stack) Y H H' s.heap s'.heap:=J.base;have hk:HOk X.prog X.w H' s'.heap:=J.hok;refine I.call' (ch:=Y) J.os ⟨u.keep,u.slot,λ b o e n' hx=>?_,u.there,λ b xs e=>?_,λ b o v e=>?_,λ b ps e=>?_⟩ (λ b o e=>?_) J.bare λ b hb=>?_
 ·rw[a_8 (C_0 (Heap.lt_size e) hD)]
  exact u.free b o e n' hx
 ·have q:=u.tups b xs e
  rw[a_8 (c_1 q O)];exact q
 ·have q:=u.frzs b o v e
  rw[a_8 (c_1 q O)];exact q
 ·obtain⟨S,q⟩:=u.tbls b ps e
  exact⟨S,by rw[a_8 (c_1 q O)];exact q⟩
 ·by_cases hb:b=D
  ·subst hb
   rw[a_7] at e;cases e;exact⟨hz,z,n,rv,gD⟩
  ·rw[a_8 hb] at e
   exact (hk b o e).stay (λ c v _ q=>q) (λ c q=>by rw[a_8 (c_1 q O)];exact q) λ c xs q=>by rw[a_8 (c_1 q O)];exact q
 ·obtain⟨_,a2,a3,Z,a5,a6⟩:=f b hb
  exact⟨Z,a2,a5,a6⟩
theorem ba2 {C:Addr}{s':Shared}{H':Hp}{O:St}{h':Heap} (I:Inv X pins σ H s) (J:Inv X pins O H' s') (S:s.heap.objs.size<=C) (nC:H' C=none) (Y:Heap.SameBut C s'.heap h'):Inv X pins O H' {s' with heap:=h'}:=by
 refine J.turned (t':=s'.toks) (it:=C) (λ b o hb e=>(Y.2 b hb).trans e) nC (λ z=>?_) (.inr (Nat.le_trans I.sz S)) (λ y c e z=>?_) λ p Z z=>?_
 ·exact C_0 I.lt S z.symm
 ·obtain⟨v,q⟩:=I.cell y c e
  exact C_0 q.lt S z
 ·exact C_0 (qm (I.pin p Z).1) S z
noncomputable def tLC (z:TI) (js:List Nat) (tt:TT) (te:TE):TE:=λ σ H Q=>z σ H (LcW js tt te σ λ ys H'=>∀ D,H' D=none->Q (.ref D) (upd H' D (.lst ys)))
theorem aX5 {wi:TI} (hc:X.calm=true) (z:X.env.scope=sc) (B:ScB X.N sc scope x frees js) (hi:PI X (.Name x px) iter wi) (ht:∀ s H C O,PTs (cxB X (x::frees) scope s H C O) ifs tt) (he:∀ s H C O,PE (cxB X (x::frees) scope s H C O) elt te)
  (hs:∀ v,foldedSetIterable iter X.env v=pure v:=by intro _;rfl):PE X (.ListComp elt [⟨.Name x px,iter,ifs,0⟩] scope pos) (tLC wi js tt te):=by
 intro pins s σ H Q I h;rw[eval_ListComp];refine wpAny_comprehension_free (use:=none) rfl hs (J_6 (aa5 I z B)) B.kind B.locs (thn (hi pins s σ H _ I h) λ v s1 h1=>thn h1 λ ac s2 h2=>?_)
 obtain⟨it,O,tn,J,H2,e,I2,T,aa,f2,hW⟩:=h2;subst e;refine aC9 (RR:=λ S C=>compPost (model X.prog X.w) X.A X.xe none (EP X pins σ Q) S C) I2 hc z B T aa f2 hW ht he ?_
 intro D C s' H' ys ad n hD hC Y Z nD rv gD hz q;obtain⟨m,hn,_⟩:=Z.loc;refine⟨m,hn,λ h' ab=>?_⟩
 have A1:=aa6 I2 f2 hD Z nD rv gD hz;have nC:(upd H' D (.lst ys)) C=none:=by rw[a_8 (Ne.symm Y)];exact Z.free
 exact⟨.ref D,_,ba2 I2 A1 hC nC ab,rfl,q D nD⟩
noncomputable def aT2 (i:Nat) (z:TI) (js:List Nat) (tt:TT) (te:TE):TS:=λ D σ H=>z σ H (LcW js tt te σ λ ys H'=>∀ a,H' a=none->D.nx (σ.set i (some (.ref a))) (upd H' a (.lst ys)))
theorem Z_6 {wi:TI}{i:Nat}{y:Str}{py spos:Pos} (hN:X.N.Nodup) (ac:X.N[i]?=some y) (hy:X.env.scope.names.lookup y=some .local) (hc:X.calm=true) (S:X.env.scope=sc) (B:ScB X.N sc scope x frees js) (hi:PI X (.Name x px) iter wi)
  (ht:∀ s H C Z,PTs (cxB X (x::frees) scope s H C Z) ifs tt) (he:∀ s H C Z,PE (cxB X (x::frees) scope s H C Z) elt te)
  (ab:swapsWith (.ListComp elt [⟨.Name x px,iter,ifs,0⟩] scope pos) (some (.Name y py)) spos.line X.env=pure true:=by rfl)
  (hs:∀ v,foldedSetIterable iter X.env v=pure v:=by intro _;rfl):PS X (.Assign [.Name y py] (.ListComp elt [⟨.Name x px,iter,ifs,0⟩] scope pos) spos) (aT2 i wi js tt te):=by
 intro pins s σ H D I h;rw[exec_Assign_Name_used _ _ _ _ ab];refine qb (wpAny_standAt (qb ?_));show wpAny _ X.A (do let _ <- comprehension (.ListComp elt [⟨.Name x px,iter,ifs,0⟩] scope pos) scope X.env _ (newList []) false (eval iter X.env) (some (assign (.Name y py) X.env))) _ _ s;refine qb (wpAny_mono (wpAny_comprehension_free (use:=some (assign (.Name y py) X.env)) (Q:=λ _ s'=>SP X pins D .next s') rfl hs (J_6 (aa5 I S B)) B.kind B.locs
  (thn (hi pins s σ H _ I h) λ v s1 h1=>thn h1 λ ag s2 h2=>?_)) (λ _ s' q=>qc (qc q)) λ _ _ z=>z)
 obtain⟨it,Z,tn,J,H2,e,Y,T,ae,f2,hW⟩:=h2;subst e;refine aC9 (RR:=λ aa C=>compPost (model X.prog X.w) X.A X.xe (some (assign (.Name y py) X.env)) (λ _ s'=>SP X pins D .next s') aa C) Y hc S B T ae f2 hW ht he ?_
 intro a C s' H' ys ah n hD hC ad J' nD rv gD hz q;have A1:=aa6 Y f2 hD J' nD rv gD hz;have nC:(upd H' a (.lst ys)) C=none:=by rw[a_8 (Ne.symm ad)];exact J'.free
 obtain⟨m,hn,_⟩:=J'.loc;have hL:C≠X.env.locals:=aC4 Y.lt hC;show wpAny _ X.A (assign (.Name y py) X.env (.ref a)) _ _ s';refine wpAny_assign_Name (O_7 A1 hN ac (.inl hy) (v:=.ref a) rfl (λ s3 I3 O=>?_) (.inr hy))
 obtain⟨b,sb,hb⟩:=O
 have nb:C≠b:=by
  rcases hb with z | z
  ·rw[z];exact hL
  ·intro e
   obtain⟨v,q'⟩:=Y.cell y b z;exact C_0 q'.lt hC e.symm
 obtain⟨o,es,ep,ho,r⟩:=hn;refine⟨m,⟨o,es,ep,(sb.2 C nb).trans ho,r⟩,λ h' af=>?_⟩
 exact⟨_,_,ba2 Y I3 hC nC af,q a nD⟩
end
end L2
namespace Fx
open PySem
inductive D where
 |non | bl (b:Bool) | int (i:Int) | str (x:Str) | tup (xs:List D) | lst (xs:List D)
 |opq (ks:List (Str×Int)) (vs:List D)
 |dct (ks:List Str) (vs:List D)
inductive MO where
 |lst (xs:List D) | dic (kvs:List (Str×D)) | dtu (kvs:List ((Str×Int)×D))
inductive Sl where
 |no | im (d:D) | ow (b:Bool) (o:MO)
abbrev En:=List Sl
inductive Res where
 |nx (ρ:En) | rt (d:D) (ρ:En) | bk (ρ:En) | ct (ρ:En)
abbrev FE:=En->Option (D×En)
abbrev FT:=En->Option (Bool×En)
abbrev FA:=En->Option (List D×En)
abbrev FS:=En->Option Res
noncomputable def bnd {α z:Type} (x:Option α) (f:α->Option z):Option z:=x.bind f
theorem N_5 {α z:Type} (a:α) (f:α->Option z):bnd (some a) f=f a:=rfl
mutual
noncomputable def eqD:D->D->Bool
 |.non,.non=>true
 |.bl a,.bl b=>a==b
 |.bl a,.int b=>(if a then 1 else 0)==b
 |.int a,.bl b=>a==(if b then 1 else 0)
 |.int a,.int b=>a==b
 |.str a,.str b=>a==b
 |.tup a,.tup b=>x_2 a b
 |.lst a,.lst b=>x_2 a b
 |_,_=>false
noncomputable def x_2:List D->List D->Bool
 |[],[]=>true
 |a::r,b::t=>eqD a b&&x_2 r t
 |_,_=>false
end
@[simp] theorem aM9 :eqD .non .non=true:=by rw[eqD]
@[simp] theorem aQ7 (y:Bool):eqD .non (.bl y)=false:=by simp[eqD]
@[simp] theorem aN1 (y:Int):eqD .non (.int y)=false:=by simp[eqD]
@[simp] theorem aM8 (y:Str):eqD .non (.str y)=false:=by simp[eqD]
@[simp] theorem aM7 (y:List D):eqD .non (.tup y)=false:=by simp[eqD]
@[simp] theorem aN0 (y:List D):eqD .non (.lst y)=false:=by simp[eqD]
@[simp] theorem aR2 (x:Bool):eqD (.bl x) .non=false:=by simp[eqD]
@[simp] theorem bc8 (x:Bool) (y:Bool):eqD (.bl x) (.bl y)=decide (x=y):=by rw[eqD];exact Bool.beq_eq_decide_eq _ _
@[simp] theorem aR4 (x:Bool) (y:Int):eqD (.bl x) (.int y)=((if x then 1 else 0)==y):=by rw[eqD]
@[simp] theorem aR1 (x:Bool) (y:Str):eqD (.bl x) (.str y)=false:=by simp[eqD]
@[simp] theorem aR0 (x:Bool) (y:List D):eqD (.bl x) (.tup y)=false:=by simp[eqD]
@[simp] theorem aR3 (x:Bool) (y:List D):eqD (.bl x) (.lst y)=false:=by simp[eqD]
@[simp] theorem aN9 (x:Int):eqD (.int x) .non=false:=by simp[eqD]
@[simp] theorem aQ9 (x:Int) (y:Bool):eqD (.int x) (.bl y)=(x==(if y then 1 else 0)):=by rw[eqD]
@[simp] theorem aO1 (x:Int) (y:Int):eqD (.int x) (.int y)=decide (x=y):=by rw[eqD];exact Bool.beq_eq_decide_eq _ _
@[simp] theorem aN8 (x:Int) (y:Str):eqD (.int x) (.str y)=false:=by simp[eqD]
@[simp] theorem aN7 (x:Int) (y:List D):eqD (.int x) (.tup y)=false:=by simp[eqD]
@[simp] theorem aO0 (x:Int) (y:List D):eqD (.int x) (.lst y)=false:=by simp[eqD]
@[simp] theorem aM4 (x:Str):eqD (.str x) .non=false:=by simp[eqD]
@[simp] theorem aQ6 (x:Str) (y:Bool):eqD (.str x) (.bl y)=false:=by simp[eqD]
@[simp] theorem aM6 (x:Str) (y:Int):eqD (.str x) (.int y)=false:=by simp[eqD]
@[simp] theorem aM3 (x:Str) (y:Str):eqD (.str x) (.str y)=decide (x=y):=by rw[eqD];exact Bool.beq_eq_decide_eq _ _
@[simp] theorem aM2 (x:Str) (y:List D):eqD (.str x) (.tup y)=false:=by simp[eqD]
@[simp] theorem aM5 (x:Str) (y:List D):eqD (.str x) (.lst y)=false:=by simp[eqD]
@[simp] theorem aL9 (x:List D):eqD (.tup x) .non=false:=by simp[eqD]
@[simp] theorem aQ5 (x:List D) (y:Bool):eqD (.tup x) (.bl y)=false:=by simp[eqD]
@[simp] theorem aM1 (x:List D) (y:Int):eqD (.tup x) (.int y)=false:=by simp[eqD]
@[simp] theorem aL8 (x:List D) (y:Str):eqD (.tup x) (.str y)=false:=by simp[eqD]
@[simp] theorem w_2 (x:List D) (y:List D):eqD (.tup x) (.tup y)=x_2 x y:=by rw[eqD]
@[simp] theorem aM0 (x:List D) (y:List D):eqD (.tup x) (.lst y)=false:=by simp[eqD]
@[simp] theorem aN4 (x:List D):eqD (.lst x) .non=false:=by simp[eqD]
@[simp] theorem aQ8 (x:List D) (y:Bool):eqD (.lst x) (.bl y)=false:=by simp[eqD]
@[simp] theorem aN6 (x:List D) (y:Int):eqD (.lst x) (.int y)=false:=by simp[eqD]
@[simp] theorem aN3 (x:List D) (y:Str):eqD (.lst x) (.str y)=false:=by simp[eqD]
@[simp] theorem aN2 (x:List D) (y:List D):eqD (.lst x) (.tup y)=false:=by simp[eqD]
@[simp] theorem aN5 (x:List D) (y:List D):eqD (.lst x) (.lst y)=x_2 x y:=by rw[eqD]
@[simp] theorem bo7:x_2 [] []=true:=by rw[x_2]
@[simp] theorem ao4 (a b:D) (r t:List D):x_2 (a::r) (b::t)=(eqD a b&&x_2 r t):=by rw[x_2]
@[simp] theorem bo8 (b:D) (t:List D):x_2 [] (b::t)=false:=by simp[x_2]
@[simp] theorem bo9 (b:D) (t:List D):x_2 (b::t) []=false:=by simp[x_2]
mutual
noncomputable def dpD:D->Nat
 |.tup xs=>S_2 xs+1
 |.lst xs=>S_2 xs+1
 |.opq _ _=>1000
 |.dct _ _=>1000
 |_=>0
noncomputable def S_2:List D->Nat
 |[]=>0
 |d::r=>max (dpD d) (S_2 r)
end
@[simp] theorem c_7 (ks:List (Str×Int)) (vs:List D):dpD (.opq ks vs)=1000:=rfl
@[simp] theorem c_8 (ks:List Str) (vs:List D):dpD (.dct ks vs)=1000:=rfl
@[simp] theorem br1:dpD .non=0:=rfl
@[simp] theorem bz2 (b:Bool):dpD (.bl b)=0:=rfl
@[simp] theorem br2 (i:Int):dpD (.int i)=0:=rfl
@[simp] theorem br0 (x:Str):dpD (.str x)=0:=rfl
@[simp] theorem k_4 (xs:List D):dpD (.tup xs)=S_2 xs+1:=rfl
@[simp] theorem k_5 (xs:List D):dpD (.lst xs)=S_2 xs+1:=rfl
@[simp] theorem bg6:S_2 []=0:=rfl
@[simp] theorem x_3 (d:D) (r:List D):S_2 (d::r)=max (dpD d) (S_2 r):=rfl
noncomputable def br9 (i:Int):Bool:=decide (i.natAbs<2 ^ 1000)
noncomputable def v_6 (i j:Int):Bool:=decide (i.natAbs<2 ^ 64)||decide (j.natAbs<2 ^ 64)||(br9 i&&br9 j)
noncomputable def z_4 (j:Int):Bool:=decide (j≠0)&&decide (j.natAbs<2 ^ 1000)
noncomputable def w_3:D->D->Option D
 |.int i,.int j=>some (.int (i+j))
 |.str a,.str b=>if a.length+b.length<=sizeLine then some (.str (a++b)) else none
 |.lst a,.lst b=>if a.length+b.length<=sizeLine then some (.lst (a++b)) else none
 |_,_=>none
noncomputable def W_5:D->D->Option D
 |.int i,.int j=>some (.int (i-j))
 |_,_=>none
noncomputable def T_7:D->D->Option D
 |.int i,.int j=>if v_6 i j=true then some (.int (i*j)) else none
 |_,_=>none
noncomputable def q_4:D->D->Option D
 |.int i,.int j=>if z_4 j=true then some (.int (i.fdiv j)) else none
 |_,_=>none
noncomputable def p_7:D->D->Option D
 |.int i,.int j=>if j≠0 then some (.int (i.fmod j)) else none
 |_,_=>none
noncomputable def br3:D->D->Option D
 |.int i,.int j=>if 0<=j/\j<=64/\i.natAbs<2 ^ 64 then some (.int (i ^ j.toNat)) else none
 |_,_=>none
noncomputable def ab6:D->Option D
 |.int i=>some (.int (-i))
 |_=>none
noncomputable def bd9 (p:Int->Int->Bool):D->D->Option D
 |.int i,.int j=>some (.bl (p i j))
 |_,_=>none
noncomputable def dLt:D->D->Option D:=bd9 λ i j=>decide (i<j)
noncomputable def dLe:D->D->Option D:=bd9 λ i j=>decide (i<=j)
noncomputable def dGt:D->D->Option D:=bd9 λ i j=>decide (j<i)
noncomputable def dGe:D->D->Option D:=bd9 λ i j=>decide (j<=i)
noncomputable def dEq (x y:D):Option D:=if dpD x<=30/\dpD y<=30 then some (.bl (eqD x y)) else none
noncomputable def dNe (x y:D):Option D:=if dpD x<=30/\dpD y<=30 then some (.bl (!eqD x y)) else none
noncomputable def isN:D->Bool
 |.non=>true
 |_=>false
@[simp] theorem bn4 (ks:List (Str×Int)) (vs:List D):isN (.opq ks vs)=false:=rfl
@[simp] theorem bn8 (ks:List Str) (vs:List D):isN (.dct ks vs)=false:=rfl
@[simp] theorem bn5:isN .non=true:=rfl
@[simp] theorem bw1 (b:Bool):isN (.bl b)=false:=rfl
@[simp] theorem bn7 (b:Int):isN (.int b)=false:=rfl
@[simp] theorem bn3 (b:Str):isN (.str b)=false:=rfl
@[simp] theorem bn2 (b:List D):isN (.tup b)=false:=rfl
@[simp] theorem bn6 (b:List D):isN (.lst b)=false:=rfl
noncomputable def dIs (x y:D):Option D:=match y with
 |.non=>some (.bl (isN x))
 |_=>none
noncomputable def n_3 (x y:D):Option D:=match y with
 |.non=>some (.bl (!isN x))
 |_=>none
noncomputable def ax6:D->Option Bool
 |.non=>some false
 |.bl b=>some b
 |.int i=>some (i != 0)
 |.lst xs=>some (!xs.isEmpty)
 |.tup xs=>some (!xs.isEmpty)
 |_=>none
noncomputable def dPl (n:Nat) (i:Int):Option Nat:=if 0<=i then (if i<n then some i.toNat else none) else if -(n:Int)<=i then some (i+n).toNat else none
noncomputable def atD (xs:List D) (i:Int):Option D:=(dPl xs.length i).bind λ j=>xs[j]?
noncomputable def as1 (n d:Nat):Option Int->Nat
 |none=>d
 |some v=>(if v<0 then max (v+(n:Int)) 0 else min v (n:Int)).toNat
noncomputable def aR5 (xs:List D) (lo hi:Option Int):List D:=(xs.drop (as1 xs.length 0 lo)).take (as1 xs.length xs.length hi-as1 xs.length 0 lo)
noncomputable def be7:List D->Option D
 |[.int i]=>some (.int (if i<0 then -i else i))
 |_=>none
noncomputable def t_4:List D->Option (List Int)
 |[]=>some []
 |.int i::r=>bnd (t_4 r) λ is=>some (i::is)
 |_=>none
theorem F_5 (i:Int) (r:List D):t_4 (.int i::r)=bnd (t_4 r) λ is=>some (i::is):=rfl
noncomputable def H_6:Int->List Int->Int
 |m,[]=>m
 |m,x::r=>H_6 (if x<m then x else m) r
noncomputable def H_7:Int->List Int->Int
 |m,[]=>m
 |m,x::r=>H_7 (if m<x then x else m) r
noncomputable def aq2 (f:Int->List Int->Int):List Int->Option D
 |[]=>none
 |i::r=>some (.int (f i r))
noncomputable def az4:List D->Option D
 |[.int i,.int j]=>some (.int (if j > i then j else i))
 |[.lst xs]=>bnd (t_4 xs) λ is=>aq2 H_7 is
 |_=>none
noncomputable def aP4:List D->Option D
 |[.int i,.int j]=>some (.int (if j<i then j else i))
 |[.lst xs]=>bnd (t_4 xs) λ is=>aq2 H_6 is
 |_=>none
noncomputable def ap9:List D->Option (List Bool)
 |[]=>some []
 |.bl b::r=>bnd (ap9 r) λ bs=>some (b::bs)
 |_=>none
theorem af6 (b:Bool) (r:List D):ap9 (.bl b::r)=bnd (ap9 r) λ bs=>some (b::bs):=rfl
noncomputable def bs1:List D->Option D
 |[.lst xs]=>bnd (ap9 xs) λ bs=>some (.bl (bs.all id))
 |_=>none
inductive Ty where
 |int | bool | str | tuple | list
noncomputable def ar9:Ty->D->Bool
 |.int,.int _=>true
 |.int,.bl _=>true
 |.bool,.bl _=>true
 |.str,.str _=>true
 |.tuple,.tup _=>true
 |.list,.lst _=>true
 |_,_=>false
noncomputable def slV (ρ:En):Option Sl->Option (D×En)
 |some (.im d)=>some (d,ρ)
 |_=>none
noncomputable def eV (i:Nat) (ρ:En):Option (D×En):=slV ρ ρ[i]?
noncomputable def A_3:FE:=λ _=>none
noncomputable def eC (d:D) (ρ:En):Option (D×En):=some (d,ρ)
abbrev zI (n:Int):=eC (.int n)
abbrev zT (x:Str):=eC (.str x)
theorem zR{α:Sort _}{a b:α}(h:a=b):a=b:=h
noncomputable def e1 (op:D->Option D) (F:FE) (ρ:En):Option (D×En):=bnd (F ρ) λ p=>bnd (op p.1) λ d=>some (d,p.2)
noncomputable def e2 (op:D->D->Option D) (F G:FE) (ρ:En):Option (D×En):=bnd (F ρ) λ p=>bnd (G p.2) λ q=>bnd (op p.1 q.1) λ d=>some (d,q.2)
noncomputable def blB:D->Option Bool
 |.bl b=>some b
 |_=>none
noncomputable def e3 (op O:D->D->Option D) (F G L:FE) (ρ:En):Option (D×En):=bnd (F ρ) λ p=>bnd (G p.2) λ q=>bnd (op p.1 q.1) λ z=>bnd (blB z) λ b =>
 if b=true then bnd (L q.2) λ r=>bnd (O q.1 r.1) λ d=>some (d,r.2) else some (.bl false,q.2)
noncomputable def aN (ρ:En):Option (List D×En):=some ([],ρ)
noncomputable def aC (F:FE) (A:FA) (ρ:En):Option (List D×En):=bnd (F ρ) λ p=>bnd (A p.2) λ q=>some (p.1::q.1,q.2)
noncomputable def l_2 (A:FA) (ρ:En):Option (D×En):=bnd (A ρ) λ p=>if p.1.length<=1000 then some (.tup p.1,p.2) else none
noncomputable def w_7 (A:FA) (ρ:En):Option (D×En):=bnd (A ρ) λ p=>if p.1.length<=1000 then some (.lst p.1,p.2) else none
noncomputable def eF (g:List D->Option D) (A:FA) (ρ:En):Option (D×En):=bnd (A ρ) λ p=>bnd (g p.1) λ d=>some (d,p.2)
noncomputable def eTy (t:Ty) (F:FE) (ρ:En):Option (D×En):=bnd (F ρ) λ p=>some (.bl (ar9 t p.1),p.2)
abbrev FO:=En->Option (Option Int×En)
noncomputable def aK6:D->Option Int
 |.int i=>some i
 |_=>none
noncomputable def oN (ρ:En):Option (Option Int×En):=some (none,ρ)
noncomputable def oS (F:FE) (ρ:En):Option (Option Int×En):=bnd (F ρ) λ p=>bnd (aK6 p.1) λ i=>some (some i,p.2)
noncomputable def tB (F:FE) (ρ:En):Option (Bool×En):=bnd (F ρ) λ p=>bnd (blB p.1) λ b=>some (b,p.2)
noncomputable def tV (F:FE) (ρ:En):Option (Bool×En):=bnd (F ρ) λ p=>bnd (ax6 p.1) λ b=>some (b,p.2)
noncomputable def tAnd (T U:FT) (ρ:En):Option (Bool×En):=bnd (T ρ) λ p=>if p.1=true then U p.2 else some (false,p.2)
noncomputable def tOr (T U:FT) (ρ:En):Option (Bool×En):=bnd (T ρ) λ p=>if p.1=true then some (true,p.2) else U p.2
noncomputable def tNot (T:FT) (ρ:En):Option (Bool×En):=bnd (T ρ) λ p=>some (!p.1,p.2)
noncomputable def tYes (ρ:En):Option (Bool×En):=some (true,ρ)
noncomputable def eIf (T:FT) (F G:FE) (ρ:En):Option (D×En):=bnd (T ρ) λ p=>if p.1=true then F p.2 else G p.2
noncomputable def ax5 (F G:FE) (ρ:En):Option (D×En):=bnd (F ρ) λ p=>bnd (blB p.1) λ b=>if b=true then G p.2 else some (.bl false,p.2)
noncomputable def eOr (F G:FE) (ρ:En):Option (D×En):=bnd (F ρ) λ p=>bnd (blB p.1) λ b=>if b=true then some (.bl true,p.2) else G p.2
noncomputable def bg3 (F:FE) (ρ:En):Option (D×En):=bnd (F ρ) λ p=>bnd (blB p.1) λ b=>some (.bl (!b),p.2)
noncomputable def slI:Option Sl->Option Sl
 |some (.im d)=>some (.im d)
 |_=>none
noncomputable def aa9 (ρ:En):List Nat->Option En
 |[]=>some []
 |j::js=>bnd (slI ρ[j]?) λ s=>bnd (aa9 ρ js) λ r=>some (s::r)
theorem am4 (ρ:En) (j:Nat) (js:List Nat):aa9 ρ (j::js)=bnd (slI ρ[j]?) λ s=>bnd (aa9 ρ js) λ r=>some (s::r):=rfl
noncomputable def cGo (T:FT) (F:FE) (fr:En):List D->Option (List D)
 |[]=>some []
 |d::r=>bnd (T (.im d::fr)) λ p=>if p.1=true then bnd (F p.2) λ q=>bnd (cGo T F fr r) λ t=>some (q.1::t) else cGo T F fr r
theorem aP1 (T:FT) (F:FE) (fr:En):cGo T F fr []=some []:=rfl
theorem ay5 (T:FT) (F:FE) (fr:En) (d:D) (r:List D):cGo T F fr (d::r)=bnd (T (.im d::fr)) λ p=>if p.1=true then bnd (F p.2) λ q=>bnd (cGo T F fr r) λ t=>some (q.1::t) else cGo T F fr r:=rfl
noncomputable def chS (c:Nat):Str:=⟨#[c]⟩
noncomputable def chs (z:Str):List D:=z.cps.toList.map λ c=>.str (chS c)
noncomputable def items:D->Option (List D)
 |.lst xs=>some xs
 |.tup xs=>some xs
 |.str z=>some (chs z)
 |_=>none
noncomputable def eLC (js:List Nat) (I:FE) (T:FT) (F:FE) (ρ:En):Option (D×En):=bnd (I ρ) λ p=>bnd (items p.1) λ xs=>bnd (aa9 p.2 js) λ fr=>bnd (cGo T F fr xs) λ ys=>if xs.length<=sizeLine then some (.lst ys,p.2) else none
noncomputable def sN (ρ:En):Option Res:=some (.nx ρ)
noncomputable def nxR (G:FS):Res->Option Res
 |.nx z=>G z
 |.rt d ρ=>some (.rt d ρ)
 |.bk ρ=>some (.bk ρ)
 |.ct ρ=>some (.ct ρ)
noncomputable def b_2 (F G:FS) (ρ:En):Option Res:=bnd (F ρ) λ r=>nxR G r
noncomputable def d_4 (i:Nat) (F:FE) (ρ:En):Option Res:=bnd (F ρ) λ p=>some (.nx (p.2.set i (.im p.1)))
noncomputable def I_7:List Nat->List D->En->En
 |i::is,d::ds,ρ=>I_7 is ds (ρ.set i (.im d))
 |_,_,ρ=>ρ
theorem U_4 (i:Nat) (is:List Nat) (d:D) (ds:List D) (ρ:En):I_7 (i::is) (d::ds) ρ=I_7 is ds (ρ.set i (.im d)):=rfl
theorem ad9 (ds:List D) (ρ:En):I_7 [] ds ρ=ρ:=by cases ds <;> rfl
noncomputable def bC0:D->Option (List D)
 |.tup xs=>some xs
 |.lst xs=>some xs
 |_=>none
noncomputable def gN (i:Nat) (d:D) (ρ:En):Option En:=some (ρ.set i (.im d))
noncomputable def gT (is:List Nat) (d:D) (ρ:En):Option En:=bnd (bC0 d) λ xs=>if xs.length=is.length then some (I_7 is xs ρ) else none
noncomputable def sIf (T:FT) (F G:FS) (ρ:En):Option Res:=bnd (T ρ) λ p=>if p.1=true then F p.2 else G p.2
noncomputable def d_8 (F:FE) (ρ:En):Option Res:=bnd (F ρ) λ p=>some (.rt p.1 p.2)
noncomputable def goR (G:FS):Res->Option Res
 |.nx ρ=>G ρ
 |.ct ρ=>G ρ
 |.bk ρ=>some (.nx ρ)
 |.rt d ρ=>some (.rt d ρ)
noncomputable def fGo (g:D->En->Option En) (B:FS):List D->FS
 |[],ρ=>some (.nx ρ)
 |d::r,ρ=>bnd (g d ρ) λ O=>bnd (B O) λ z=>goR (fGo g B r) z
theorem aL7 (g:D->En->Option En) (B:FS) (ρ:En):fGo g B [] ρ=some (.nx ρ):=rfl
theorem ax3 (g:D->En->Option En) (B:FS) (d:D) (r:List D) (ρ:En):fGo g B (d::r) ρ=bnd (g d ρ) λ O=>bnd (B O) λ z=>goR (fGo g B r) z:=rfl
noncomputable def ar8 (g:D->En->Option En) (F:FE) (B:FS) (ρ:En):Option Res:=bnd (F ρ) λ p=>bnd (items p.1) λ xs=>fGo g B xs p.2
noncomputable def o_9 (lo:Int):Nat->List D
 |0=>[]
 |n+1=>.int lo::o_9 (lo+1) n
noncomputable def ag1 (F:FE) (ρ:En):Option (List D×En):=bnd (F ρ) λ p=>bnd (aK6 p.1) λ j=>if -(2 ^ 62)<=j/\j<2 ^ 62 then some (o_9 0 j.toNat,p.2) else none
noncomputable def aB9 (F G:FE) (ρ:En):Option (List D×En):=bnd (F ρ) λ p=>bnd (G p.2) λ q=>bnd (aK6 p.1) λ i=>bnd (aK6 q.1) λ j =>
 if -(2 ^ 62)<=i/\i<2 ^ 62/\-(2 ^ 62)<=j/\j<2 ^ 62 then some (o_9 i (j-i).toNat,q.2) else none
noncomputable def y_9 (g:D->En->Option En) (R:FA) (B:FS) (ρ:En):Option Res:=bnd (R ρ) λ p=>fGo g B p.1 p.2
noncomputable def wGo (T:FT) (B:FS):Nat->FS
 |0,_=>none
 |n+1,ρ=>bnd (T ρ) λ p=>if p.1=true then bnd (B p.2) λ z=>goR (wGo T B n) z else some (.nx p.2)
theorem as7 (T:FT) (B:FS) (n:Nat) (ρ:En):wGo T B (n+1) ρ=bnd (T ρ) λ p=>if p.1=true then bnd (B p.2) λ z=>goR (wGo T B n) z else some (.nx p.2):=rfl
noncomputable def aB4 (z:En->Nat) (T:FT) (B:FS) (ρ:En):Option Res:=wGo T B (z ρ) ρ
noncomputable def aC2 (A:FA) (ρ:En):Option (List D×En):=bnd (A ρ) λ p=>if p.1.length<=1000 then some p else none
noncomputable def aB5 (i:Nat) (A:FA) (ρ:En):Option Res:=bnd (A ρ) λ p=>some (.nx (p.2.set i (.ow false (.lst p.1))))
noncomputable def owL:Option Sl->Option (List D)
 |some (.ow false (.lst ds))=>some ds
 |_=>none
noncomputable def at8 (i:Nat) (F:FE) (ρ:En):Option Res:=bnd (owL ρ[i]?) λ _=>bnd (F ρ) λ p=>bnd (owL p.2[i]?) λ ds=>if ds.length<1000000 then some (.nx (p.2.set i (.ow false (.lst (ds++[p.1]))))) else none
noncomputable def frz (i:Nat) (ρ:En):En:=match ρ[i]? with
 |some (.ow false (.lst ds))=>ρ.set i (.im (.lst ds))
 |_=>ρ
noncomputable def aG2 (i:Nat) (F:FS) (ρ:En):Option Res:=F (frz i ρ)
noncomputable def bk7:Res->Option D
 |.rt d _=>some d
 |.nx _=>some .non
 |_=>none
noncomputable def fnD (n k:Nat) (B:FS) (ds:List D):Option D:=if ds.length=n then bnd (B (ds.map .im++List.replicate k .no)) λ r=>bk7 r else none
end Fx
namespace Fx
open PySem PySem.Spec PyProof.Rows L2
abbrev Tab (α:Type):=List ((Str×Int)×Addr×α)
noncomputable def kTI (k:Str×Int):List Key:=[.inr k.1,.inl k.2]
noncomputable def ad4 (x:(Str×Int)×Addr×Value):List Key×Addr×Value:=(kTI x.1,x.2.1,x.2.2)
structure TD (P:Program) (w:World) (o:Obj) (tab:Tab V):Prop where
 ex:o.ExactDict
 es:∃ es ep xs,o.data=.dict es ep/\es.toList=(xs.map ad4).map (entryOfKey (tupleKind (f_5 P w)))/\Paired (λ (p:(Str×Int)×Addr×V) (q:(Str×Int)×Addr×Value)=>p.1=q.1/\p.2.1=q.2.1/\RelV p.2.2 q.2.2) tab xs
 nd:(tab.map (·.1)).Nodup
 few:tab.length<=sizeLine
noncomputable def tdO (a:Addr) (tab:Tab V):HO:=.ext λ P w h=>(a==sysModules)=false/\∃ o,h.get? a=some o/\TD P w o tab
noncomputable def tdF (a:Addr) (o:Obj) (tab:Tab V):HO:=.ext λ P w h=>(a==sysModules)=false/\h.get? a=some o/\TD P w o tab
noncomputable def KsAt (H:Hp) (tab:Tab V):Prop:=∀ x∈tab,H x.2.1=some (.tup [.str x.1.1,.int x.1.2])
mutual
noncomputable def Rep (K:Frag) (H:Hp):D->V->Prop
 |.non,v=>v=.non
 |.bl b,v=>v=.bl b
 |.int i,v=>v=.int i
 |.str x,v=>v=.str x
 |.tup ds,v=>∃ a vs,v=.ref a/\SqT K H a vs/\Reps K H ds vs
 |.lst ds,v=>∃ a vs,v=.ref a/\SqL K H a vs/\Reps K H ds vs
 |.opq ks ds,v=>∃ a o tab,v=.ref a/\H a=some (tdF a o tab)/\ks=tab.map (·.1)/\KsAt H tab/\Reps K H ds (tab.map (·.2.2))
 |.dct ks ds,v=>∃ a o vs,v=.ref a/\H a=some (.frz o (.dK ((ks.map Sum.inr).zip vs)))/\Reps K H ds vs/\ks.length=ds.length
noncomputable def Reps (K:Frag) (H:Hp):List D->List V->Prop
 |[],vs=>vs=[]
 |d::ds,vs=>∃ v r,vs=v::r/\Rep K H d v/\Reps K H ds r
end
theorem Same.rd {H H':Hp}{a:Addr}{u:HO} (e:Same H H') (h:Rd H a u):Rd H' a u:=by
 rcases h with h | ⟨o,h⟩
 ·exact .inl (e _ _ h)
 ·exact .inr ⟨o,e _ _ h⟩
theorem Same.seqT {K:Frag}{H H':Hp}{a:Addr}{xs:List V} (e:Same H H') (h:SqT K H a xs):SqT K H' a xs:=by
 rcases h with h | h
 ·exact .inl (Same.rd e h)
 ·exact .inr h
section
variable {K:Frag}{H H':Hp}
mutual
theorem Rep.mono (e:Same H H'):∀ (d:D) {v:V},Rep K H d v->Rep K H' d v
 |.non,_,h=>h
 |.bl _,_,h=>h
 |.int _,_,h=>h
 |.str _,_,h=>h
 |.tup ds,_,h=>by
  unfold Rep at h ⊢;obtain⟨a,vs,q,s,r⟩:=h;exact⟨a,vs,q,Same.seqT e s,Reps.mono e ds r⟩
 |.lst ds,_,h=>by
  unfold Rep at h ⊢;obtain⟨a,vs,q,s,r⟩:=h;exact⟨a,vs,q,Same.seq e s,Reps.mono e ds r⟩
 |.opq ks ds,_,h=>by
  unfold Rep at h ⊢;obtain⟨a,o,tab,q,s,z,k,r⟩:=h;exact⟨a,o,tab,q,e _ _ s,z,λ x O=>e _ _ (k x O),Reps.mono e ds r⟩
 |.dct ks ds,_,h=>by
  unfold Rep at h ⊢;obtain⟨a,o,vs,q,s,r,l⟩:=h;exact⟨a,o,vs,q,e _ _ s,Reps.mono e ds r,l⟩
theorem Reps.mono (e:Same H H'):∀ (ds:List D) {vs:List V},Reps K H ds vs->Reps K H' ds vs
 |[],_,h=>h
 |d::ds,_,h=>by
  unfold Reps at h ⊢;obtain⟨v,r,q,s,t⟩:=h;exact⟨v,r,q,Rep.mono e d s,Reps.mono e ds t⟩
end
theorem Reps.length:∀ {ds:List D}{vs:List V},Reps K H ds vs->ds.length=vs.length
 |[],_,h=>by unfold Reps at h;rw[h];rfl
 |d::ds,_,h=>by
  unfold Reps at h;obtain⟨v,r,q,_,t⟩:=h;rw[q,List.length_cons,List.length_cons,Reps.length t]
theorem Reps.get:∀ {ds:List D}{vs:List V}{i:Nat}{d:D},Reps K H ds vs->ds[i]?=some d->∃ v,vs[i]?=some v/\Rep K H d v
 |[],_,_,_,_,e=>by simp at e
 |d::ds,_,0,_,h,e=>by
  unfold Reps at h;obtain⟨v,r,rfl,s,_⟩:=h;simp at e;subst e;exact⟨v,rfl,s⟩
 |d::ds,_,i+1,d',h,e=>by
  unfold Reps at h;obtain⟨v,r,rfl,_,t⟩:=h;obtain⟨w,a,b⟩:=Reps.get (i:=i) (d:=d') t (by simpa using e)
  exact⟨w,by simpa using a,b⟩
theorem Reps.app:∀ {ds es:List D}{vs z:List V},Reps K H ds vs->Reps K H es z->Reps K H (ds++es) (vs++z)
 |[],_,_,_,h,h'=>by unfold Reps at h;rw[h];exact h'
 |d::ds,es,_,z,h,h'=>by
  unfold Reps at h;obtain⟨v,r,rfl,s,t⟩:=h;show Reps K H (d::(ds++es)) (v::(r++z));unfold Reps;exact⟨v,r++z,rfl,s,Reps.app t h'⟩
theorem Reps.take:∀ {ds:List D}{vs:List V} (n:Nat),Reps K H ds vs->Reps K H (ds.take n) (vs.take n)
 |[],_,n,h=>by unfold Reps at h;rw[h];simp[Reps]
 |d::ds,vs,0,h=>by simp[Reps]
 |d::ds,_,n+1,h=>by
  unfold Reps at h;obtain⟨v,r,rfl,s,t⟩:=h;show Reps K H (d::ds.take n) (v::r.take n);unfold Reps;exact⟨v,r.take n,rfl,s,Reps.take n t⟩
theorem Reps.drop:∀ {ds:List D}{vs:List V} (n:Nat),Reps K H ds vs->Reps K H (ds.drop n) (vs.drop n)
 |[],_,n,h=>by unfold Reps at h;rw[h];simp[Reps]
 |d::ds,vs,0,h=>by simpa using h
 |d::ds,_,n+1,h=>by
  unfold Reps at h;obtain⟨v,r,rfl,s,t⟩:=h
  simpa using Reps.drop n t
theorem Reps.one {d:D}{v:V} (h:Rep K H d v):Reps K H [d] [v]:=by
 unfold Reps Reps;exact⟨v,[],rfl,h,rfl⟩
theorem Reps.cons {d:D}{ds:List D}{v:V}{vs:List V} (h:Rep K H d v) (t:Reps K H ds vs):Reps K H (d::ds) (v::vs):=by
 unfold Reps;exact⟨v,vs,rfl,h,t⟩
theorem Reps.nil_:Reps K H [] []:=by unfold Reps;rfl
end
structure FC where
 Hi:Hp
 He:Hp
 Ap:List Addr
noncomputable def OwOk (K:Frag) (H0 H:Hp) (a:Addr):MO->Prop
 |.lst ds=>∃ vs,H a=some (.lst vs)/\Reps K H0 ds vs
 |.dic kds=>∃ ks vs,H a=some (.dK ((ks.map Sum.inr).zip vs))/\ks=kds.map (·.1)/\Reps K H0 (kds.map (·.2)) vs
 |.dtu kds=>∃ tab,H a=some (tdO a tab)/\tab.map (·.1)=kds.map (·.1)/\KsAt H0 tab/\Reps K H0 (kds.map (·.2)) (tab.map (·.2.2))
structure RS (K:Frag) (c:FC) (H0 H:Hp) (ρ:En) (σ:L2.St):Prop where
 same:Same H0 H
 init:Same c.Hi H0
 fresh:∀ b o,H0 b=some o->c.Hi b=some o\/c.He b=none
 keep:∀ b o,c.He b=some o->b∉c.Ap->H b=some o
 apt:∀ a∈c.Ap,H a≠none
 len:ρ.length=σ.length
 im:∀ (i:Nat) (d:D),ρ[i]?=some (.im d)->∃ v,σ[i]?=some (some v)/\Rep K H0 d v
 ow:∀ (i:Nat) (b:Bool) (o:MO),ρ[i]?=some (.ow b o)->∃ a,σ[i]?=some (some (.ref a))/\H0 a=none/\(if b=true then a∈c.Ap else c.He a=none)/\OwOk K H0 H a o
 ne:∀ (i j:Nat) (b b':Bool) (o o':MO) (a:Addr),ρ[i]?=some (.ow b o)->ρ[j]?=some (.ow b' o')->σ[i]?=some (some (.ref a))->σ[j]?=some (some (.ref a))->i=j
section
variable {K:Frag}{c:FC}{H0 H H0' H':Hp}{ρ:En}{σ:L2.St}
theorem OwOk.some {a:Addr}{o:MO} (h:OwOk K H0 H a o):∃ u,H a=Option.some u:=by
 cases o with
 |lst ds=>obtain⟨vs,e,_⟩:=h;exact⟨_,e⟩
 |dic ds=>obtain⟨ks,vs,e,_⟩:=h;exact⟨_,e⟩
 |dtu ds=>obtain⟨tab,e,_⟩:=h;exact⟨_,e⟩
theorem OwOk.step {a:Addr}{o:MO} (h:OwOk K H0 H a o) (O:Same H0 H0') (s:∀ u,H a=Option.some u->H' a=Option.some u):OwOk K H0' H' a o:=by
 cases o with
 |lst ds=>obtain⟨vs,e,r⟩:=h;exact⟨vs,s _ e,Reps.mono O ds r⟩
 |dic ds=>obtain⟨ks,vs,e,q,r⟩:=h;exact⟨ks,vs,s _ e,q,Reps.mono O _ r⟩
 |dtu ds=>obtain⟨tab,e,z,q,r⟩:=h;exact⟨tab,s _ e,z,λ x S=>O _ _ (q x S),Reps.mono O _ r⟩
structure Step (H0 H H0' H':Hp):Prop where
 s0:Same H0 H0'
 s:Same H H'
 s':Same H0' H'
 fr:∀ b o,H0' b=some o->H0 b=some o\/H b=none
theorem RS.after (R:RS K c H0 H ρ σ) (S:Step H0 H H0' H'):RS K c H0' H' ρ σ:=by
 refine⟨S.s',R.init.trans S.s0,λ b o e=>?_,λ b o e n=>S.s _ _ (R.keep b o e n),λ a ha e=>?_,R.len,λ i d e=>?_,λ i b o e=>?_,R.ne⟩
 ·rcases S.fr b o e with h | h
  ·exact R.fresh b o h
  ·refine .inr ?_
   cases q:c.He b with
   |none=>rfl
   |some u =>
    by_cases hb:b∈c.Ap
    ·exact absurd h (R.apt b hb)
    ·rw[R.keep b u q hb] at h;cases h
 ·cases q:H a with
  |none=>exact R.apt a ha q
  |some u=>rw[S.s _ _ q] at e;cases e
 ·obtain⟨v,a,b⟩:=R.im i d e
  exact⟨v,a,Rep.mono S.s0 d b⟩
 ·obtain⟨a,x,y,z,w⟩:=R.ow i b o e
  refine⟨a,x,?_,z,w.step S.s0 λ u q=>S.s _ _ q⟩
  obtain⟨u,q⟩:=w.some;cases t:H0' a with
  |none=>rfl
  |some o' =>
   rcases S.fr a o' t with h | h
   ·rw[y] at h;cases h
   ·rw[q] at h;cases h
theorem Step.refl (s:Same H0 H):Step H0 H H0 H:=⟨Same.refl _,Same.refl _,s,λ _ _ e=>.inl e⟩
theorem Step.trans {A B:Hp} (x:Step H0 H H0' H') (y:Step H0' H' A B):Step H0 H A B:=by
 refine⟨x.s0.trans y.s0,x.s.trans y.s,y.s',λ b o e=>?_⟩
 rcases y.fr b o e with h | h
 ·exact x.fr b o h
 ·exact .inr (x.s.free h)
theorem Step.alloc {p:Addr}{o:HO} (s:Same H0 H) (z:H p=none):Step H0 H (upd H0 p o) (upd H p o):=by
 have O:H0 p=none:=s.free z;refine⟨λ b u e=>by rw[a_8 (c_1 e O)];exact e,λ b u e=>by rw[a_8 (c_1 e z)];exact e,λ b u e=>?_,λ b u e=>?_⟩
 ·by_cases hb:b=p
  ·subst hb;rw[a_7] at e ⊢;exact e
  ·rw[a_8 hb] at e ⊢;exact s _ _ e
 ·by_cases hb:b=p
  ·subst hb;exact .inr z
  ·rw[a_8 hb] at e;exact .inl e
end
noncomputable def tE (K:Frag) (F:FE):TE:=λ σ H Q=>∃ c H0 ρ d z,RS K c H0 H ρ σ/\F ρ=some (d,z)/\∀ v H0' H',Same H0 H0'->RS K c H0' H' z σ->Rep K H0' d v->Q v H'
noncomputable def tTt (K:Frag) (F:FT):TT:=λ σ H Q=>∃ c H0 ρ b z,RS K c H0 H ρ σ/\F ρ=some (b,z)/\∀ H0' H',Same H0 H0'->RS K c H0' H' z σ->Q b H'
noncomputable def tAa (K:Frag) (F:FA):TA:=λ σ H Q=>∃ c H0 ρ ds z,RS K c H0 H ρ σ/\F ρ=some (ds,z)/\∀ vs H0' H',Same H0 H0'->RS K c H0' H' z σ->Reps K H0' ds vs->Q vs H'
noncomputable def tOo (K:Frag) (F:FO):TO:=λ σ H Q=>∃ c H0 ρ o z,RS K c H0 H ρ σ/\F ρ=some (o,z)/\∀ H0' H',Same H0 H0'->RS K c H0' H' z σ->Q o H'
noncomputable def XE (X:Cx) (e:Expr) (F:FE):Prop:=PE X e (tE X.K F)
noncomputable def XT (X:Cx) (e:Expr) (F:FT):Prop:=PT X e (tTt X.K F)
noncomputable def XW (X:Cx) (e:Expr) (F:FT):Prop:=PW X e (tTt X.K F)
noncomputable def XA (X:Cx) (es:List Expr) (F:FA):Prop:=PA X es (tAa X.K F)
noncomputable def XO (X:Cx) (e:Option Expr) (F:FO):Prop:=PO X e (tOo X.K F)
theorem a_1 {α z:Type}{x:Option α}{f:α->Option z}{b:z} (h:bnd x f=some b):∃ a,x=some a/\f a=some b:=by
 cases x with
 |none=>cases h
 |some a=>exact⟨a,rfl,h⟩
theorem PE.wk {X:Cx}{e:Expr}{t t':TE} (h:PE X e t) (w:∀ σ H Q,t' σ H Q->t σ H Q):PE X e t':=λ pins s σ H Q I q=>h pins s σ H Q I (w σ H Q q)
theorem PT.wk {X:Cx}{e:Expr}{t t':TT} (h:PT X e t) (w:∀ σ H Q,t' σ H Q->t σ H Q):PT X e t':=λ pins s σ H Q I q=>h pins s σ H Q I (w σ H Q q)
theorem PW.wk {X:Cx}{e:Expr}{t t':TT} (h:PW X e t) (w:∀ σ H Q,t' σ H Q->t σ H Q):PW X e t':=λ z pins s σ H Q I q=>h z pins s σ H Q I (w σ H Q q)
theorem PA.wk {X:Cx}{e:List Expr}{t t':TA} (h:PA X e t) (w:∀ σ H Q,t' σ H Q->t σ H Q):PA X e t':=λ pos pins s σ H Q I q=>h pos pins s σ H Q I (w σ H Q q)
theorem PS.wk {X:Cx}{e:Stmt}{t t':TS} (h:PS X e t) (w:∀ D σ H,t' D σ H->t D σ H):PS X e t':=λ pins s σ H D I q=>h pins s σ H D I (w D σ H q)
theorem PSs.wk {X:Cx}{e:List Stmt}{t t':TS} (h:PSs X e t) (w:∀ D σ H,t' D σ H->t D σ H):PSs X e t':=λ pins s σ H D I q=>h pins s σ H D I (w D σ H q)
section
variable {X:Cx}{pos:Pos}{a b e:Expr}{F G L:FE}{T U:FT}
theorem xv (i:Nat) {x:Str} (Z:X.N[i]?=some x:=by rfl) (hv:Vis X.env.scope x:=by first | exact Or.inl rfl | exact Or.inr (Or.inl rfl) | exact Or.inr (Or.inr rfl)) (hd:(x==("__debug__":Str))=false:=by decide)
  (Y:(x==("__classdict__":Str))=false:=by decide):XE X (.Name x pos) (eV i) :=
 PE.wk (s_9 Z hv hd Y) λ σ H Q O=>by
  obtain⟨c,H0,ρ,d,S,R,f,q⟩:=O;unfold eV at f;cases z:ρ[i]? with
  |none=>rw[z] at f;cases f
  |some sl =>
   rw[z] at f;cases sl with
   |no=>cases f
   |ow b o=>cases f
   |im d' =>
    have f':some (d',ρ)=some (d,S):=f;cases f';obtain⟨v,e1,e2⟩:=R.im i _ z;exact⟨v,e1,q v H0 H (Same.refl _) R e2⟩
theorem D_1:XE X e A_3:=λ pins s σ H Q I z=>by obtain⟨c,H0,ρ,d,O,R,f,q⟩:=z;cases f
theorem F_7 {d d':D}{ρ z:En} (h:eC d ρ=some (d',z)):d'=d/\z=ρ:=by
 have h':some (d,ρ)=some (d',z):=h;cases h';exact⟨rfl,rfl⟩
theorem a_3 {i:Int}{j}:XE X (.Constant (.int i) j pos) (zI i):=PE.wk Z_8 λ σ H Q z=>by
 obtain⟨c,H0,ρ,d,O,R,f,q⟩:=z;obtain⟨rfl,rfl⟩:=F_7 f;exact q _ H0 H (Same.refl _) R (by unfold Rep;rfl)
theorem xbl {i:Bool}{j}:XE X (.Constant (.bool i) j pos) (eC (.bl i)):=PE.wk bl7 λ σ H Q z=>by
 obtain⟨c,H0,ρ,d,O,R,f,q⟩:=z;obtain⟨rfl,rfl⟩:=F_7 f;exact q _ H0 H (Same.refl _) R (by unfold Rep;rfl)
theorem m_9 {j}:XE X (.Constant .none j pos) (eC .non):=PE.wk aX4 λ σ H Q z=>by
 obtain⟨c,H0,ρ,d,O,R,f,q⟩:=z;obtain⟨rfl,rfl⟩:=F_7 f;exact q _ H0 H (Same.refl _) R (by unfold Rep;rfl)
theorem k_2 {x:Str}{j}:XE X (.Constant (.str x) j pos) (eC (.str x)):=PE.wk aW9 λ σ H Q z=>by
 obtain⟨c,H0,ρ,d,O,R,f,q⟩:=z;obtain⟨rfl,rfl⟩:=F_7 f;exact q _ H0 H (Same.refl _) R (by unfold Rep;rfl)
abbrev Aft (K:Frag) (c:FC) (H0:Hp) (ρ:En) (σ:L2.St) (d:D) (Q:VK):Prop:=∀ v H0' H',Same H0 H0'->RS K c H0' H' ρ σ->Rep K H0' d v->Q v H'
noncomputable def OpD (K:Frag) (r:R2) (op:D->D->Option D):Prop:=∀ (c:FC) (H0 H:Hp) (ρ:En) (σ:L2.St) (x y d:D) (z O:V) (Q:VK),RS K c H0 H ρ σ->Rep K H0 x z->Rep K H0 y O->op x y=some d->Aft K c H0 ρ σ d Q->r z O H Q
noncomputable def N_8 (X:Cx) (op:Operator) (f:D->D->Option D):Prop:=∃ r,OpR X (binaryOp op) r/\OpD X.K r f
noncomputable def A_0 (X:Cx) (op:CmpOp) (f:D->D->Option D):Prop:=∃ r,OpR X (compareOp op) r/\OpD X.K r f
theorem aE2 {op:D->D->Option D}{ρ S:En}{d:D} (h:e2 op F G ρ=some (d,S)):∃ x O y,F ρ=some (x,O)/\G O=some (y,S)/\op x y=some d:=by
 unfold e2 at h;obtain⟨⟨x,O⟩,h1,h⟩:=a_1 h;obtain⟨⟨y,Y⟩,h2,h⟩:=a_1 h;obtain⟨z,Z,h⟩:=a_1 h;have h':some (z,Y)=some (d,S):=h;cases h';exact⟨x,O,y,h1,h2,Z⟩
theorem Y_0 {K:Frag}{op:D->D->Option D}{r:R2} (o:OpD K r op) {σ:L2.St}{H:Hp}{Q:VK} (h:tE K (e2 op F G) σ H Q):tOp r (tE K F) (tE K G) σ H Q:=by
 obtain⟨c,H0,ρ,d,z,R,f,q⟩:=h;obtain⟨x,O,y,h1,h2,h3⟩:=aE2 f;refine⟨c,H0,ρ,x,O,R,h1,λ Y H1 Hh s1 Z r1=>?_⟩
 refine⟨c,H1,O,y,z,Z,h2,λ vy H2 Hh2 S R2 r2=>?_⟩
 exact o c H2 Hh2 z σ x y d Y vy Q R2 (Rep.mono S x r1) r2 h3 λ v H3 Hh3 s3 R3 r3=>q v H3 Hh3 (s1.trans (S.trans s3)) R3 r3
theorem xb {op:Operator}{f:D->D->Option D} (o:N_8 X op f) (ha:XE X a F) (hb:XE X b G):XE X (.BinOp a op b pos) (e2 f F G):=by
 obtain⟨r,h1,h2⟩:=o;exact PE.wk (bl6 h1 ha hb) λ σ H Q h=>Y_0 h2 h
theorem O_1 {op:CmpOp}{f:D->D->Option D} (o:A_0 X op f) (ha:XE X a F) (hb:XE X b G) (z:behindInMarks op b=false:=by first | exact aC3 _ | with_unfolding_all rfl):XE X (.Compare a [op] [b] pos) (e2 f F G):=by
 obtain⟨r,h1,h2⟩:=o;exact PE.wk (aI1 h1 ha hb z) λ σ H Q h=>Y_0 h2 h
theorem aT5 {K:Frag}{t:TE}{σ:L2.St}{H:Hp}{Q:Bool->Hp->Prop} (w:∀ Q,tE K F σ H Q->t σ H Q) (h:tTt K (tB F) σ H Q):aF3 t σ H Q:=by
 obtain⟨c,H0,ρ,b,z,R,f,q⟩:=h;unfold tB at f;obtain⟨⟨d,O⟩,h1,f⟩:=a_1 f;obtain⟨Y,h2,f⟩:=a_1 f;have f':some (Y,O)=some (b,z):=f;cases f';refine w _ ⟨c,H0,ρ,d,_,R,h1,λ v H1 Hh s1 Z S=>?_⟩
 cases d with
 |bl k =>
  have e:k=b:=qi h2;unfold Rep at S;exact⟨k,S,by rw[e];exact q H1 Hh s1 Z⟩
 |_=>cases h2
theorem xt {op:CmpOp}{f:D->D->Option D} (o:A_0 X op f) (ha:XE X a F) (hb:XE X b G) (z:behindInMarks op b=false:=by first | exact aC3 _ | with_unfolding_all rfl):XT X (.Compare a [op] [b] pos) (tB (e2 f F G)):=by
 obtain⟨r,h1,h2⟩:=o;exact PT.wk (aH4 h1 ha hb z) λ σ H Q h=>aT5 (λ Q h=>Y_0 h2 h) h
theorem at3 {K:Frag}{op Y:D->D->Option D}{r r':R2} (o:OpD K r op) (o':OpD K r' Y) {σ:L2.St}{H:Hp}{Q:VK} (h:tE K (e3 op Y F G L) σ H Q):aB1 r r' (tE K F) (tE K G) (tE K L) σ H Q:=by
 obtain⟨c,H0,ρ,d,Z,R,f,q⟩:=h;unfold e3 at f;obtain⟨⟨x,S⟩,h1,f⟩:=a_1 f;obtain⟨⟨y,O⟩,h2,f⟩:=a_1 f;obtain⟨z,h3,f⟩:=a_1 f;obtain⟨k,h4,f⟩:=a_1 f;dsimp only at h2 h3 h4 f;refine⟨c,H0,ρ,x,S,R,h1,λ vx H1 Hh s1 R1 r1=>?_⟩
 refine⟨c,H1,S,y,O,R1,h2,λ vy H2 Hh2 s2 R2 r2=>?_⟩
 refine o c H2 Hh2 O σ x y z vx vy _ R2 (Rep.mono s2 x r1) r2 h3 λ v H3 Hh3 s3 R3 r3=>?_
 cases z with
 |bl k' =>
  have e:k'=k:=qi h4;subst e;unfold Rep at r3;refine⟨k',r3,?_⟩;cases k' with
  |false =>
   rw[if_neg Bool.false_ne_true] at f ⊢;have f':some (D.bl false,O)=some (d,Z):=f;cases f';exact q _ H3 Hh3 (s1.trans (s2.trans s3)) R3 (by unfold Rep;rfl)
  |true =>
   rw[if_pos rfl] at f ⊢;obtain⟨⟨w,aa⟩,h5,f⟩:=a_1 f;obtain⟨d',h6,f⟩:=a_1 f;dsimp only at h6 f;have f':some (d',aa)=some (d,Z):=f;cases f';refine⟨c,H3,O,w,_,R3,h5,λ vw H4 Hh4 s4 R4 r4=>?_⟩
   exact o' c H4 Hh4 _ σ y w d vy vw Q R4 (Rep.mono s4 y (Rep.mono s3 y r2)) r4 h6 λ v H5 Hh5 s5 R5 r5=>q v H5 Hh5 (s1.trans (s2.trans (s3.trans (s4.trans s5)))) R5 r5
 |_=>cases h4
theorem xt3 {op z:CmpOp}{f Y:D->D->Option D}{m:Expr} (o:A_0 X op f) (o':A_0 X z Y) (ha:XE X a F) (hb:XE X b G) (Z:XE X m L) (hm:lastMarks [op,z] [b,m]=false:=by with_unfolding_all rfl):XT X (.Compare a [op,z] [b,m] pos) (tB (e3 f Y F G L)):=by
 obtain⟨r,h1,h2⟩:=o;obtain⟨r',O,S⟩:=o';exact PT.wk (au4 h1 O ha hb Z hm) λ σ H Q h=>aT5 (λ Q h=>at3 h2 S h) h
theorem xif {c:Expr} (hc:XT X c T) (ha:XE X a F) (hb:XE X b G):XE X (.IfExp c a b pos) (eIf T F G):=PE.wk (av1 hc ha hb) λ σ H Q S=>by
 obtain⟨c,H0,ρ,d,O,R,f,q⟩:=S;unfold eIf at f;obtain⟨⟨k,z⟩,h1,f⟩:=a_1 f;dsimp only at f;refine⟨c,H0,ρ,k,z,R,h1,λ H1 Hh s1 R1=>?_⟩
 cases k with
 |true =>
  rw[if_pos rfl] at f ⊢;exact⟨c,H1,z,d,O,R1,f,λ v H2 Hh2 Y R2 Z=>q v H2 Hh2 (s1.trans Y) R2 Z⟩
 |false =>
  rw[if_neg Bool.false_ne_true] at f ⊢;exact⟨c,H1,z,d,O,R1,f,λ v H2 Hh2 Y R2 Z=>q v H2 Hh2 (s1.trans Y) R2 Z⟩
theorem aA0 {op} (h:XE X a F):XE X (.BoolOp op [a] pos) F:=aX2 h
variable {rest:List Expr}
theorem aQ3 (ha:XE X a F) (hb:XE X (.BoolOp .And (b::rest) pos) G):XE X (.BoolOp .And (a::b::rest) pos) (ax5 F G):=PE.wk (aX8 ha hb) λ σ H Q Y=>by
 obtain⟨c,H0,ρ,d,S,R,f,q⟩:=Y;unfold ax5 at f;obtain⟨⟨z,O⟩,h1,f⟩:=a_1 f;obtain⟨k,h2,f⟩:=a_1 f;dsimp only at h2 f;refine⟨c,H0,ρ,z,O,R,h1,λ v H1 Hh s1 R1 r1=>?_⟩
 cases z with
 |bl Z =>
  have e:Z=k:=qi h2;subst e;unfold Rep at r1;refine⟨Z,r1,?_⟩;cases Z with
  |true =>
   rw[if_pos rfl] at f ⊢;exact⟨c,H1,O,d,S,R1,f,λ v H2 Hh2 s2 R2 r2=>q v H2 Hh2 (s1.trans s2) R2 r2⟩
  |false =>
   rw[if_neg Bool.false_ne_true] at f ⊢;have f':some (D.bl false,O)=some (d,S):=f;cases f';exact q _ H1 Hh s1 R1 (by unfold Rep;rfl)
 |_=>cases h2
theorem xor (ha:XE X a F) (hb:XE X (.BoolOp .Or (b::rest) pos) G):XE X (.BoolOp .Or (a::b::rest) pos) (eOr F G):=PE.wk (bl5 ha hb) λ σ H Q Y=>by
 obtain⟨c,H0,ρ,d,S,R,f,q⟩:=Y;unfold eOr at f;obtain⟨⟨z,O⟩,h1,f⟩:=a_1 f;obtain⟨k,h2,f⟩:=a_1 f;dsimp only at h2 f;refine⟨c,H0,ρ,z,O,R,h1,λ v H1 Hh s1 R1 r1=>?_⟩
 cases z with
 |bl Z =>
  have e:Z=k:=qi h2;subst e;unfold Rep at r1;refine⟨Z,r1,?_⟩;cases Z with
  |true =>
   rw[if_pos rfl] at f ⊢;have f':some (D.bl true,O)=some (d,S):=f;cases f';exact q _ H1 Hh s1 R1 (by unfold Rep;rfl)
  |false =>
   rw[if_neg Bool.false_ne_true] at f ⊢;exact⟨c,H1,O,d,S,R1,f,λ v H2 Hh2 s2 R2 r2=>q v H2 Hh2 (s1.trans s2) R2 r2⟩
 |_=>cases h2
theorem bB1 (ha:XE X a F):XE X (.UnaryOp .Not a pos) (bg3 F):=PE.wk (aX3 ha) λ σ H Q O=>by
 obtain⟨c,H0,ρ,d,S,R,f,q⟩:=O;unfold bg3 at f;obtain⟨⟨z,Y⟩,h1,f⟩:=a_1 f;obtain⟨k,h2,f⟩:=a_1 f;dsimp only at h2 f;have f':some (D.bl (!k),Y)=some (d,S):=f;cases f';refine⟨c,H0,ρ,z,_,R,h1,λ v H1 Hh s1 R1 r1=>?_⟩
 cases z with
 |bl Z =>
  have e:Z=k:=qi h2;subst e;unfold Rep at r1;exact⟨Z,r1,q _ H1 Hh s1 R1 (by unfold Rep;rfl)⟩
 |_=>cases h2
theorem xw (h:XW X a T):XT X a T:=PW.pt h
theorem C_9 (ha:XT X a T):XW X (.BoolOp .And [a] pos) T:=aH0 ha
theorem B_0 (ha:XT X a T):XW X (.BoolOp .Or [a] pos) T:=aV7 ha
theorem U_1 (ha:XT X a T) (hb:XW X (.BoolOp .And (b::rest) pos) U):XW X (.BoolOp .And (a::b::rest) pos) (tAnd T U):=PW.wk (aV8 ha hb) λ σ H Q S=>by
 obtain⟨c,H0,ρ,k,O,R,f,q⟩:=S;unfold tAnd at f;obtain⟨⟨Z,z⟩,h1,f⟩:=a_1 f;dsimp only at f;refine⟨c,H0,ρ,Z,z,R,h1,λ H1 Hh s1 Y=>?_⟩
 cases Z with
 |true =>
  rw[if_pos rfl] at f ⊢;exact⟨c,H1,z,k,O,Y,f,λ H2 Hh2 s2 R2=>q H2 Hh2 (s1.trans s2) R2⟩
 |false =>
  rw[if_neg Bool.false_ne_true] at f ⊢;have f':some (false,z)=some (k,O):=f;cases f';exact q H1 Hh s1 Y
theorem X_5 (ha:XT X a T) (hb:XW X (.BoolOp .Or (b::rest) pos) U):XW X (.BoolOp .Or (a::b::rest) pos) (tOr T U):=PW.wk (bl3 ha hb) λ σ H Q S=>by
 obtain⟨c,H0,ρ,k,O,R,f,q⟩:=S;unfold tOr at f;obtain⟨⟨Z,z⟩,h1,f⟩:=a_1 f;dsimp only at f;refine⟨c,H0,ρ,Z,z,R,h1,λ H1 Hh s1 Y=>?_⟩
 cases Z with
 |true =>
  rw[if_pos rfl] at f ⊢;have f':some (true,z)=some (k,O):=f;cases f';exact q H1 Hh s1 Y
 |false =>
  rw[if_neg Bool.false_ne_true] at f ⊢;exact⟨c,H1,z,k,O,Y,f,λ H2 Hh2 s2 R2=>q H2 Hh2 (s1.trans s2) R2⟩
theorem O_2 (ha:XT X a T):XT X (.UnaryOp .Not a pos) (tNot T):=PT.wk (aW0 ha) λ σ H Q z=>by
 obtain⟨c,H0,ρ,k,O,R,f,q⟩:=z;unfold tNot at f;obtain⟨⟨Y,S⟩,h1,f⟩:=a_1 f;have f':some (!Y,S)=some (k,O):=f;cases f';exact⟨c,H0,ρ,Y,_,R,h1,λ H1 Hh s1 Z=>q H1 Hh s1 Z⟩
theorem aA7 {K:Frag}{H0 H:Hp}{d:D}{v:V}{k:Bool} (s:Same H0 H) (r:Rep K H0 d v) (h:ax6 d=some k):bh1 K v H k:=by
 cases d with
 |non=>unfold Rep at r;subst r;cases h;rfl
 |bl b=>unfold Rep at r;subst r;cases h;rfl
 |int i=>unfold Rep at r;subst r;cases h;rfl
 |str x=>cases h
 |opq=>cases h
 |dct ks vs=>cases h
 |tup ds =>
  unfold Rep at r;obtain⟨p,vs,rfl,q,t⟩:=r;have e:(!ds.isEmpty)=k:=qi h;have e2:ds.isEmpty=vs.isEmpty:=by rw[Bool.eq_iff_iff,List.isEmpty_iff_length_eq_zero,List.isEmpty_iff_length_eq_zero,t.length]
  exact .inr (.inl ⟨vs,Same.seqT s q,by rw[<- e2];exact e.symm⟩)
 |lst ds =>
  unfold Rep at r;obtain⟨p,vs,rfl,q,t⟩:=r;have e:(!ds.isEmpty)=k:=qi h;have e2:ds.isEmpty=vs.isEmpty:=by rw[Bool.eq_iff_iff,List.isEmpty_iff_length_eq_zero,List.isEmpty_iff_length_eq_zero,t.length]
  exact .inl ⟨vs,Same.seq s q,by rw[<- e2];exact e.symm⟩
theorem xtv (ha:XE X a F) (he:∀ z,isTrue a X.env z=(do let v <- z;standAt a.pos;holding [v] (truthy v))):XT X a (tV F):=PT.wk (au3 ha he) λ σ H Q O=>by
 obtain⟨c,H0,ρ,k,S,R,f,q⟩:=O;unfold tV at f;obtain⟨⟨d,Y⟩,h1,f⟩:=a_1 f;obtain⟨k',h2,f⟩:=a_1 f;have f':some (k',Y)=some (k,S):=f;cases f';exact⟨c,H0,ρ,d,_,R,h1,λ v H1 Hh s1 Z r1=>⟨k,aA7 Z.same r1 h2,q H1 Hh s1 Z⟩⟩
theorem xaN:XA X [] aN:=PA.wk t_0 λ σ H Q z=>by
 obtain⟨c,H0,ρ,ds,O,R,f,q⟩:=z;have S:some (([]:List D),ρ)=some (ds,O):=f;cases S;exact q [] H0 H (Same.refl _) R Reps.nil_
theorem xaC {es:List Expr}{A:FA} (ha:XE X e F) (hr:XA X es A) (hs:starEach (e::es) X.env=(false,eval e X.env)::starEach es X.env:=by rfl):XA X (e::es) (aC F A):=PA.wk (k_3 ha hr hs) λ σ H Q z=>by
 obtain⟨c,H0,ρ,ds,S,R,f,q⟩:=z;unfold aC at f;obtain⟨⟨d,O⟩,h1,f⟩:=a_1 f;obtain⟨⟨r,Y⟩,h2,f⟩:=a_1 f;have f':some (d::r,Y)=some (ds,S):=f;cases f';refine⟨c,H0,ρ,d,O,R,h1,λ v H1 Hh s1 R1 r1=>?_⟩
 refine⟨c,H1,O,r,_,R1,h2,λ vs H2 Hh2 Z R2 r2=>?_⟩
 exact q _ H2 Hh2 (s1.trans Z) R2 (Reps.cons (Rep.mono Z d r1) r2)
theorem aF6 {n:Nat} (h:n<=1000):n<=sizeLine:=Nat.le_of_lt (O_8 h)
theorem N_9 {es:List Expr}{A:FA}{x1} (h:XA X es A):XE X (.Tuple es x1 pos) (l_2 A):=PE.wk (aC0 h) λ σ H Q z=>by
 obtain⟨c,H0,ρ,d,Z,R,f,q⟩:=z;unfold l_2 at f;obtain⟨⟨ds,aa⟩,h1,f⟩:=a_1 f;dsimp only at f
 split at f
 ·rename_i hl
  cases f;refine⟨c,H0,ρ,ds,_,R,h1,λ vs H1 Hh s1 O Y=>⟨by rw[<- Y.length];exact aF6 hl,λ p hp=>?_⟩⟩
  have S:=Step.alloc (o:=.tup vs) O.same hp;refine q _ _ _ (s1.trans S.s0) (O.after S) ?_;unfold Rep;exact⟨p,vs,rfl,.inl (.inl a_7),Reps.mono S.s0 ds Y⟩
 ·cases f
theorem O_0 {es:List Expr}{A:FA} (h:XA X es A):XE X (.List es pos) (w_7 A):=PE.wk (aj1 h) λ σ H Q z=>by
 obtain⟨c,H0,ρ,d,Z,R,f,q⟩:=z;unfold w_7 at f;obtain⟨⟨ds,aa⟩,h1,f⟩:=a_1 f;dsimp only at f
 split at f
 ·rename_i hl
  cases f;refine⟨c,H0,ρ,ds,_,R,h1,λ vs H1 Hh s1 O Y=>⟨by rw[<- Y.length];exact aF6 hl,λ p hp=>?_⟩⟩
  have S:=Step.alloc (o:=.lst vs) O.same hp;refine q _ _ _ (s1.trans S.s0) (O.after S) ?_;unfold Rep;exact⟨p,vs,rfl,.inl (.inl a_7),Reps.mono S.s0 ds Y⟩
 ·cases f
theorem bd4:@dPl=@ixN:=rfl
theorem be8 {K:Frag}{H:Hp}{ds:List D}{vs:List V}{i:Int}{d:D} (r:Reps K H ds vs) (h:atD ds i=some d):∃ v,atI vs i=some v/\Rep K H d v:=by
 unfold atD at h;obtain⟨j,h1,h2⟩:=a_1 (x:=dPl ds.length i) (f:=λ j=>ds[j]?) h
 obtain⟨v,e1,e2⟩:=r.get h2;refine⟨v,?_,e2⟩;unfold atI;rw[<- r.length,<- bd4,h1];exact e1
theorem PO.wk {X:Cx}{e:Option Expr}{t t':TO} (h:PO X e t) (w:∀ σ H Q,t' σ H Q->t σ H Q):PO X e t':=λ pins s σ H Q I q=>h pins s σ H Q I (w σ H Q q)
theorem xoN:XO X none oN:=PO.wk aH6 λ σ H Q z=>by
 obtain⟨c,H0,ρ,o,O,R,f,q⟩:=z;have S:some ((none:Option Int),ρ)=some (o,O):=f;cases S;exact q H0 H (Same.refl _) R
theorem xoS (h:XE X e F):XO X (some e) (oS F):=PO.wk (aH5 h) λ σ H Q z=>by
 obtain⟨c,H0,ρ,o,O,R,f,q⟩:=z;unfold oS at f;obtain⟨⟨d,S⟩,h1,f⟩:=a_1 f;obtain⟨i,h2,f⟩:=a_1 f;dsimp only at h2 f;have f':some (some i,S)=some (o,O):=f;cases f';refine⟨c,H0,ρ,d,_,R,h1,λ v H1 Hh s1 Z Y=>?_⟩
 cases d with
 |int j =>
  have e:j=i:=qi h2;subst e;unfold Rep at Y;exact⟨j,Y,q H1 Hh s1 Z⟩
 |_=>cases h2
theorem N_1 (n d:Nat) (o:Option Int):as1 n d o=HT.sIx n d o:=by
 cases o with
 |none=>rfl
 |some v =>
  show (if v<0 then max (v+(n:Int)) 0 else min v (n:Int)).toNat=if v<0 then (v+(n:Int)).toNat else min v.toNat n
  split <;> omega
theorem aE3 {K:Frag}{H:Hp}{ds:List D}{vs:List V} (r:Reps K H ds vs) (lo hi:Option Int):Reps K H (aR5 ds lo hi) (as3 vs lo hi):=by
 unfold aR5 as3;rw[N_1,N_1,r.length];exact (r.drop _).take _
end
section
variable {X:Cx}{K:Frag}
theorem K_9 {C:Int->Int->Prop}{g:Int->Int->V}{f:D->D->Option D} (h:∀ x y d,f x y=some d->∃ i j,x=.int i/\y=.int j/\C i j/\∀ H,Rep K H d (g i j)):OpD K (rI C g) f:=λ c H0 H ρ σ x y d Z vy Q R O z e q=>by
 obtain⟨i,j,rfl,rfl,S,Y⟩:=h x y d e;unfold Rep at O z;exact⟨i,j,O,z,S,q _ H0 H (Same.refl _) R (Y H0)⟩
theorem aa1 {g:Int->Int->V}{f:D->D->Option D} (h:∀ x y d,f x y=some d->∃ i j,x=.int i/\y=.int j/\∀ H,Rep K H d (g i j)):OpD K (rI0 g) f:=λ c H0 H ρ σ x y d Y Z Q R O z e q=>by
 obtain⟨i,j,rfl,rfl,S⟩:=h x y d e;unfold Rep at O z;exact⟨i,j,O,z,q _ H0 H (Same.refl _) R (S H0)⟩
theorem h_1 (H:Hp) (i:Int):Rep K H (.int i) (.int i):=by unfold Rep;rfl
theorem u_8 (H:Hp) (i:Bool):Rep K H (.bl i) (.bl i):=by unfold Rep;rfl
theorem ifs {c:Prop} [Decidable c] {α:Type}{a d:α} (h:(if c then some a else none)=some d):c/\a=d:=by
 by_cases z:c
 ·rw[if_pos z] at h;exact⟨z,qi h⟩
 ·rw[if_neg z] at h;cases h
theorem ae6:N_8 X .Sub W_5:=⟨_,aY3,aa1 λ x y d e=>by
 cases x <;> cases y <;> cases e
 exact⟨_,_,rfl,rfl,λ H=>h_1 H _⟩⟩
noncomputable def CMulD (i j:Int):Prop:=v_6 i j=true
theorem A_2 {i:Int} (h:br9 i=true):Builtin.Int.intBits i<=1000:=by
 have h:i.natAbs<2 ^ 1000:=of_decide_eq_true h;unfold Builtin.Int.intBits
 split
 ·exact Nat.zero_le _
 ·rename_i hz
  have hz:i≠0:=by simpa using hz
  have z:i.natAbs≠0:=by omega
  have:=(Nat.log2_lt z).mpr h;omega
theorem CMulD.ok {i j:Int} (h:CMulD i j):IntMulOk i j:=by
 unfold CMulD v_6 at h;simp only[Bool.or_eq_true,Bool.and_eq_true,decide_eq_true_eq] at h
 rcases h with (h | h) | ⟨h1,h2⟩
 ·exact IntMulOk.of_left (intBits_le_64 (by omega) (by omega))
 ·exact IntMulOk.of_right (intBits_le_64 (by omega) (by omega))
 ·unfold IntMulOk
  have z:=A_2 h1;have O:=A_2 h2
  have:Builtin.Int.intTooBig ((Builtin.Int.intBits i:Int)+(Builtin.Int.intBits j:Int))=false:=by
   unfold Builtin.Int.intTooBig;refine decide_eq_false ?_;have:(2000:Int)<=bitsLine:=by decide
   omega
  simp[this]
theorem aa2:N_8 X .Mult T_7:=⟨rI CMulD λ i j=>.int (i*j),opI λ _ _ _ _ _ _ _ z q=>mul_int q z.ok,K_9 λ x y d e=>by
 cases x with
 |int i =>
  cases y with
  |int j =>
   obtain⟨h,rfl⟩:=ifs (c:=v_6 i j=true) e;exact⟨_,_,rfl,rfl,h,λ H=>h_1 H _⟩
  |_=>cases e
 |_=>cases y <;> cases e⟩
noncomputable def bf1 (i j:Int):Prop:=z_4 j=true
theorem s_0:N_8 X .FloorDiv q_4:=⟨rI bf1 λ i j=>.int (i.fdiv j),opI λ i j _ _ _ _ _ z q=>by
  unfold bf1 z_4 at z;simp only[Bool.and_eq_true,decide_eq_true_eq] at z;refine floordiv_int z.1 q (.inl (PyProof.noPylong_of_log2 ?_));have O:j.natAbs≠0:=by have:=z.1;omega
  have:=(Nat.log2_lt O).mpr z.2
  omega,K_9 λ x y d e=>by
 cases x with
 |int i =>
  cases y with
  |int j =>
   obtain⟨h,rfl⟩:=ifs (c:=z_4 j=true) e;exact⟨_,_,rfl,rfl,h,λ H=>h_1 H _⟩
  |_=>cases e
 |_=>cases y <;> cases e⟩
theorem q_8:N_8 X .Mod p_7:=⟨_,aI6,K_9 λ x y d e=>by
 cases x with
 |int i =>
  cases y with
  |int j =>
   obtain⟨h,rfl⟩:=ifs (c:=j≠0) e;exact⟨_,_,rfl,rfl,h,λ H=>h_1 H _⟩
  |_=>cases e
 |_=>cases y <;> cases e⟩
theorem bF5:N_8 X .Pow br3:=⟨_,aY4,K_9 λ x y d e=>by
 cases x with
 |int i =>
  cases y with
  |int j =>
   obtain⟨h,rfl⟩:=ifs (c:=0<=j/\j<=64/\i.natAbs<2 ^ 64) e;exact⟨_,_,rfl,rfl,⟨h.1,by omega,h.2.2⟩,λ H=>h_1 H _⟩
  |_=>cases e
 |_=>cases y <;> cases e⟩
noncomputable def aV5 (K:Frag):R2:=λ x y H Q=>∃ l b xs zs,x=.ref l/\y=.ref b/\SqL K H l xs/\SqL K H b zs/\xs.length+zs.length<=sizeLine/\∀ p,H p=none->Q (.ref p) (upd H p (.lst (xs++zs)))
theorem aI7:OpR X (binaryOp .Add) (aV5 X.K):=by
 intro pins s σ H x y v u Q I rx ry h;obtain⟨l,b,xs,zs,rfl,rfl,hH,hB,hz,q⟩:=h;cases rx;cases ry;obtain⟨O,r,pl,_⟩:=I.list hH;obtain⟨z,r2,aa,_⟩:=I.list hB;have hl:=r.length;have af:=r2.length;obtain⟨⟨cls,dd,data,sl⟩,ho,hc,n,hd⟩:=pl.isList;obtain⟨⟨ae,ab,ad,ac⟩,S,Z,n2,Y⟩:=aa.isList;simp only at hc hd Z Y;subst hc hd Z Y;have e:O.toArray++z.toArray=(O++z).toArray:=by simp
 refine concat_meets ⟨_,ho,rfl⟩ ⟨_,S,rfl⟩ noFill_list_add seq_list_add PySem.F.slot_list_add PySem.F.entry_list_add (PySem.F.args_list_add_2 _ _) (list_addW l b O.toArray z.toArray n n2 dd ab sl ac (by rw[List.size_toArray,List.size_toArray];omega)) ⟨ho,S,?_⟩
 rw[e];exact⟨.ref _,_,I.lnew (t':=s.toks) (r.append r2) (by rw[List.length_append];omega),rfl,q _ I.fresh⟩
noncomputable def bl2 (K:Frag):R2:=λ x y H Q=>rI0 (λ i j=>.int (i+j)) x y H Q\/((∃ i j,x=.str i/\y=.str j/\i.length+j.length<=sizeLine/\Q (.str (i++j)) H)\/aV5 K x y H Q)
theorem y_2:N_8 X .Add w_3:=⟨bl2 X.K,op_add.or (op_add_str.or aI7),λ c H0 H ρ σ x y d vx vy Q R O z e q=>by
 cases x with
 |int i =>
  cases y with
  |int j =>
   cases e;unfold Rep at O z;exact .inl ⟨_,_,O,z,q _ H0 H (Same.refl _) R (h_1 H0 _)⟩
  |_=>cases e
 |str i =>
  cases y with
  |str j =>
   obtain⟨h,rfl⟩:=ifs (c:=i.length+j.length<=sizeLine) e;unfold Rep at O z;exact .inr (.inl ⟨_,_,O,z,h,q _ H0 H (Same.refl _) R (by unfold Rep;rfl)⟩)
  |_=>cases e
 |lst ds =>
  cases y with
  |lst es =>
   obtain⟨h,rfl⟩:=ifs (c:=ds.length+es.length<=sizeLine) e;unfold Rep at O z;obtain⟨p,vs,rfl,s,t⟩:=O;obtain⟨p2,Y,rfl,s2,Z⟩:=z;refine .inr (.inr ⟨p,p2,vs,Y,rfl,rfl,Same.seq R.same s,Same.seq R.same s2,by rw[<- t.length,<- Z.length];exact h,λ p' hp=>?_⟩)
   have S:=Step.alloc (o:=.lst (vs++Y)) R.same hp;refine q _ _ _ S.s0 (R.after S) ?_;unfold Rep;exact⟨p',_,rfl,.inl (.inl a_7),Reps.mono S.s0 _ (t.app Z)⟩
  |_=>cases e
 |_=>cases y <;> cases e⟩
theorem aE8 {a:Expr}{F:FE}{pos:Pos} (ha:XE X a F):XE X (.UnaryOp .USub a pos) (e1 ab6 F):=PE.wk (aW7 aA3 ha) λ σ H Q z=>by
 obtain⟨c,H0,ρ,d,O,R,f,q⟩:=z;unfold e1 at f;obtain⟨⟨x,S⟩,h1,f⟩:=a_1 f;obtain⟨d',h2,f⟩:=a_1 f;dsimp only at h2 f;have f':some (d',S)=some (d,O):=f;cases f';refine⟨c,H0,ρ,x,_,R,h1,λ v H1 Hh s1 Z Y=>?_⟩
 cases x with
 |int i =>
  have e:D.int (-i)=d:=qi h2;subst e;unfold Rep at Y;exact⟨i,Y,q _ H1 Hh s1 Z (h_1 _ _)⟩
 |_=>cases h2
theorem bg7 {p:Int->Int->Bool}:OpD K (rI0 λ i j=>.bl (p i j)) (bd9 p):=aa1 λ x y d e=>by
 cases x <;> cases y <;> cases e
 exact⟨_,_,rfl,rfl,λ H=>u_8 H _⟩
theorem cLt:A_0 X .Lt dLt:=⟨_,bl9,bg7⟩
theorem cLe:A_0 X .LtE dLe:=⟨_,bm0,bg7⟩
theorem cGt:A_0 X .Gt dGt:=⟨_,bm1,bg7⟩
theorem cGe:A_0 X .GtE dGe:=⟨_,bm2,bg7⟩
theorem aD4 {H:Hp}{x:D}{v:V} (r:Rep K H x v):isN x=decide (v=.non):=by
 cases x with
 |non=>unfold Rep at r;subst r;rfl
 |bl b=>unfold Rep at r;subst r;rfl
 |int b=>unfold Rep at r;subst r;rfl
 |str b=>unfold Rep at r;subst r;rfl
 |tup ds=>unfold Rep at r;obtain⟨p,vs,rfl,_⟩:=r;rfl
 |opq ks vs=>unfold Rep at r;obtain⟨p,o,tab,rfl,_⟩:=r;rfl
 |dct ks vs=>unfold Rep at r;obtain⟨p,o,z,rfl,_⟩:=r;rfl
 |lst ds=>unfold Rep at r;obtain⟨p,vs,rfl,_⟩:=r;rfl
theorem cIs:A_0 X .Is dIs:=⟨_,aY6,λ c H0 H ρ σ x y d S Y Q R O z e q=>by
 cases y with
 |non =>
  have e':D.bl (isN x)=d:=by cases x <;> exact qi e
  subst e';unfold Rep at z;exact⟨z,by rw[<- aD4 O];exact q _ H0 H (Same.refl _) R (u_8 _ _)⟩
 |_=>cases x <;> cases e⟩
theorem x_6:A_0 X .IsNot n_3:=⟨_,aI5,λ c H0 H ρ σ x y d S Y Q R O z e q=>by
 cases y with
 |non =>
  have e':D.bl (!isN x)=d:=by cases x <;> exact qi e
  subst e';unfold Rep at z;exact⟨z,by rw[<- aD4 O];exact q _ H0 H (Same.refl _) R (u_8 _ _)⟩
 |_=>cases x <;> cases e⟩
end
theorem u_3:∀ (ds es:List D),x_2 ds es=((List.range (min ds.length es.length)).all (λ j=>eqD (ds.getD j .non) (es.getD j .non))&&ds.length==es.length)
 |[],[]=>by simp[x_2]
 |[],e::es=>by simp[x_2]
 |d::ds,[]=>by simp[x_2]
 |d::ds,e::es=>by
  rw[x_2,u_3 ds es];have h:min (d::ds).length (e::es).length=min ds.length es.length+1:=by simp only[List.length_cons];omega
  rw[h,List.range_succ_eq_map,List.all_cons,List.all_map];have h2:((d::ds).length==(e::es).length)=(ds.length==es.length):=by simp
  rw[h2,Bool.and_assoc];rfl
theorem q_7:∀ {ds:List D}{n:Nat}{j:Nat}{d:D},S_2 ds<=n->ds[j]?=some d->dpD d<=n
 |[],_,_,_,_,e=>by simp at e
 |d::ds,n,0,_,h,e=>by
  rw[x_3] at h;simp at e;subst e;omega
 |d::ds,n,j+1,d',h,e=>by
  rw[x_3] at h;exact q_7 (ds:=ds) (n:=n) (j:=j) (by omega) (by simpa using e)
section
variable {X:Cx}{pins:List (Addr×Obj)}{σ:L2.St}{H:Hp}{s:Shared}
theorem ao3 {ds es:List D}{vs:List V} (Z:Reps X.K H ds vs) (S:Reps X.K H es vs) (h:∀ (j:Nat) (d e:D) (v:V),ds[j]?=some d->es[j]?=some e->Rep X.K H d v->Rep X.K H e v->eqD d e=true):x_2 ds es=true:=by
 rw[u_3];have l1:=Z.length;have l2:=S.length;rw[Bool.and_eq_true,List.all_eq_true];refine⟨λ j hj=>?_,by simp;omega⟩
 have O:j<ds.length:=by have:=List.mem_range.mp hj;omega
 have z:j<es.length:=by omega
 obtain⟨v,a1,a2⟩:=Z.get (i:=j) (d:=ds[j]) (by simp[O])
 obtain⟨v',Y,b2⟩:=S.get (i:=j) (d:=es[j]) (by simp[z])
 rw[a1] at Y;cases Y;have:=h j ds[j] es[j] v (by simp[O]) (by simp[z]) a2 b2
 simpa [List.getD,O,z] using this
theorem aY9 (I:Inv X pins σ H s) {a:Addr}{xs ys:List V} (h:SqT X.K H a xs) (h':SqL X.K H a ys):False:=by
 obtain⟨_,_,⟨o,e,c,_⟩,_⟩:=I.tuple h;obtain⟨_,_,⟨o',n,e',O,_⟩,_⟩:=I.list h';rw[e] at e';cases e';have z:=c.symm.trans O;injection z with z
 exact absurd z (by decide)
theorem U_6 (I:Inv X pins σ H s):∀ (n:Nat) (d e:D) (v:V),dpD d<=n->dpD d<1000->dpD e<1000->Rep X.K H d v->Rep X.K H e v->eqD d e=true
 |n,d,e,v,hn,hz1,hz2,r1,r2=>by
  cases d with
  |opq=>exact absurd hz1 (by rw[c_7];omega)
  |dct S Y=>exact absurd hz1 (by rw[c_8];omega)
  |non =>
   cases e with
   |opq=>exact absurd hz2 (by rw[c_7];omega)
   |dct S Y=>exact absurd hz2 (by rw[c_8];omega)
   |non=>unfold Rep at r1 r2;rw[r1] at r2;first | (cases r2;simp[eqD]) | cases r2
   |bl O=>unfold Rep at r1 r2;rw[r1] at r2;first | (cases r2;simp[eqD]) | cases r2
   |int O=>unfold Rep at r1 r2;rw[r1] at r2;first | (cases r2;simp[eqD]) | cases r2
   |str O=>unfold Rep at r1 r2;rw[r1] at r2;first | (cases r2;simp[eqD]) | cases r2
   |tup es=>unfold Rep at r1 r2;obtain⟨p,vs,z,_⟩:=r2;rw[r1] at z;cases z
   |lst es=>unfold Rep at r1 r2;obtain⟨p,vs,z,_⟩:=r2;rw[r1] at z;cases z
  |bl b1 =>
   cases e with
   |opq=>exact absurd hz2 (by rw[c_7];omega)
   |dct S Y=>exact absurd hz2 (by rw[c_8];omega)
   |non=>unfold Rep at r1 r2;rw[r1] at r2;first | (cases r2;simp[eqD]) | cases r2
   |bl O=>unfold Rep at r1 r2;rw[r1] at r2;first | (cases r2;simp[eqD]) | cases r2
   |int O=>unfold Rep at r1 r2;rw[r1] at r2;first | (cases r2;simp[eqD]) | cases r2
   |str O=>unfold Rep at r1 r2;rw[r1] at r2;first | (cases r2;simp[eqD]) | cases r2
   |tup es=>unfold Rep at r1 r2;obtain⟨p,vs,z,_⟩:=r2;rw[r1] at z;cases z
   |lst es=>unfold Rep at r1 r2;obtain⟨p,vs,z,_⟩:=r2;rw[r1] at z;cases z
  |int b1 =>
   cases e with
   |opq=>exact absurd hz2 (by rw[c_7];omega)
   |dct S Y=>exact absurd hz2 (by rw[c_8];omega)
   |non=>unfold Rep at r1 r2;rw[r1] at r2;first | (cases r2;simp[eqD]) | cases r2
   |bl O=>unfold Rep at r1 r2;rw[r1] at r2;first | (cases r2;simp[eqD]) | cases r2
   |int O=>unfold Rep at r1 r2;rw[r1] at r2;first | (cases r2;simp[eqD]) | cases r2
   |str O=>unfold Rep at r1 r2;rw[r1] at r2;first | (cases r2;simp[eqD]) | cases r2
   |tup es=>unfold Rep at r1 r2;obtain⟨p,vs,z,_⟩:=r2;rw[r1] at z;cases z
   |lst es=>unfold Rep at r1 r2;obtain⟨p,vs,z,_⟩:=r2;rw[r1] at z;cases z
  |str b1 =>
   cases e with
   |opq=>exact absurd hz2 (by rw[c_7];omega)
   |dct S Y=>exact absurd hz2 (by rw[c_8];omega)
   |non=>unfold Rep at r1 r2;rw[r1] at r2;first | (cases r2;simp[eqD]) | cases r2
   |bl O=>unfold Rep at r1 r2;rw[r1] at r2;first | (cases r2;simp[eqD]) | cases r2
   |int O=>unfold Rep at r1 r2;rw[r1] at r2;first | (cases r2;simp[eqD]) | cases r2
   |str O=>unfold Rep at r1 r2;rw[r1] at r2;first | (cases r2;simp[eqD]) | cases r2
   |tup es=>unfold Rep at r1 r2;obtain⟨p,vs,z,_⟩:=r2;rw[r1] at z;cases z
   |lst es=>unfold Rep at r1 r2;obtain⟨p,vs,z,_⟩:=r2;rw[r1] at z;cases z
  |tup ds =>
   cases e with
   |opq=>exact absurd hz2 (by rw[c_7];omega)
   |dct S Y=>exact absurd hz2 (by rw[c_8];omega)
   |non=>unfold Rep at r1 r2;obtain⟨p,vs,z,_⟩:=r1;rw[r2] at z;cases z
   |bl O=>unfold Rep at r1 r2;obtain⟨p,vs,z,_⟩:=r1;rw[r2] at z;cases z
   |int O=>unfold Rep at r1 r2;obtain⟨p,vs,z,_⟩:=r1;rw[r2] at z;cases z
   |str O=>unfold Rep at r1 r2;obtain⟨p,vs,z,_⟩:=r1;rw[r2] at z;cases z
   |tup es =>
    unfold Rep at r1 r2;obtain⟨p,vs,z,s1,q1⟩:=r1;obtain⟨p',aa,Z,s2,q2⟩:=r2;rw[z] at Z;cases Z;have e:=I.tuple_inj s1 s2;subst e;cases n with
    |zero=>rw[k_4] at hn;omega
    |succ n =>
     rw[k_4] at hn;rw[eqD];exact ao3 q1 q2 λ j d e v h1 h2=>U_6 I n d e v (q_7 (by omega) h1) (by have z:=q_7 (n:=998) (by first | (rw[k_4] at hz1;omega) | (rw[k_5] at hz1;omega)) h1;omega) (by have z:=q_7 (n:=998) (by first | (rw[k_4] at hz2;omega) | (rw[k_5] at hz2;omega)) h2;omega)
   |lst es=>unfold Rep at r1 r2;obtain⟨p,vs,z,s1,_⟩:=r1;obtain⟨p',aa,Z,s2,_⟩:=r2;rw[z] at Z;cases Z;exact (aY9 I s1 s2).elim
  |lst ds =>
   cases e with
   |opq=>exact absurd hz2 (by rw[c_7];omega)
   |dct S Y=>exact absurd hz2 (by rw[c_8];omega)
   |non=>unfold Rep at r1 r2;obtain⟨p,vs,z,_⟩:=r1;rw[r2] at z;cases z
   |bl O=>unfold Rep at r1 r2;obtain⟨p,vs,z,_⟩:=r1;rw[r2] at z;cases z
   |int O=>unfold Rep at r1 r2;obtain⟨p,vs,z,_⟩:=r1;rw[r2] at z;cases z
   |str O=>unfold Rep at r1 r2;obtain⟨p,vs,z,_⟩:=r1;rw[r2] at z;cases z
   |tup es=>unfold Rep at r1 r2;obtain⟨p,vs,z,s1,_⟩:=r1;obtain⟨p',aa,Z,s2,_⟩:=r2;rw[z] at Z;cases Z;exact (aY9 I s2 s1).elim
   |lst es =>
    unfold Rep at r1 r2;obtain⟨p,vs,z,s1,q1⟩:=r1;obtain⟨p',aa,Z,s2,q2⟩:=r2;rw[z] at Z;cases Z;have e:=I.list_inj s1 s2;subst e;cases n with
    |zero=>rw[k_5] at hn;omega
    |succ n =>
     rw[k_5] at hn;rw[eqD];exact ao3 q1 q2 λ j d e v h1 h2=>U_6 I n d e v (q_7 (by omega) h1) (by have z:=q_7 (n:=998) (by first | (rw[k_4] at hz1;omega) | (rw[k_5] at hz1;omega)) h1;omega) (by have z:=q_7 (n:=998) (by first | (rw[k_4] at hz2;omega) | (rw[k_5] at hz2;omega)) h2;omega)
noncomputable def RcN (X:Cx) (H:Hp) (s:Shared) (n:Nat):Prop:=∀ (A:Around) (d e:D) (x y:V) (u v:Value),dpD d<=n->dpD d<1000->dpD e<1000->A.units+n<cLine->Rep X.K H d x->RelV x u->Rep X.K H e y->RelV y v->SeqAt.RcAt A s u v (eqD d e)
noncomputable def EqN (X:Cx) (H:Hp) (s:Shared) (n:Nat):Prop:=∀ (A:Around) (d e:D) (x y:V) (u v:Value),dpD d<=n->dpD d<1000->dpD e<1000->A.units+n<cLine->Rep X.K H d x->RelV x u->Rep X.K H e y->RelV y v->SeqAt.EqAt A s u v (eqD d e)
theorem bc7 (I:Inv X pins σ H s) {n:Nat} (rc:RcN X H s n):EqN X H s n:=by
 intro A d e x y u v hn aj aa hA O w1 S w2;have hu:A.units<cLine:=by omega
 have key:=rc A d e x y u v hn aj aa hA O w1 S w2;have one:x=y->eqD d e=true:=λ z=>U_6 I _ d e x (qj _) aj aa O (z▸S)
 cases d with
 |opq=>exact absurd aj (by rw[c_7];omega)
 |dct ah ai=>exact absurd aj (by rw[c_8];omega)
 |non =>
  cases e with
  |opq=>exact absurd aa (by rw[c_7];omega)
  |dct ah ai=>exact absurd aa (by rw[c_8];omega)
  |non=>unfold Rep at O;subst O;cases (show u=Value.none from w1);unfold Rep at S;subst S;cases (show v=Value.none from w2);exact SeqAt.EqAt.same _
  |bl b2=>unfold Rep at O;subst O;cases (show u=Value.none from w1);unfold Rep at S;subst S;cases (show v=Value.bool _ from w2);exact SeqAt.EqAt.none_bool _
  |int b2=>unfold Rep at O;subst O;cases (show u=Value.none from w1);unfold Rep at S;subst S;obtain⟨t2,z2⟩:=w2;subst z2;exact SeqAt.EqAt.none_int _ _
  |str b2=>unfold Rep at O;subst O;cases (show u=Value.none from w1);unfold Rep at S;subst S;obtain⟨t2,z2⟩:=w2;subst z2;exact SeqAt.EqAt.none_str _ _
  |tup es=>unfold Rep at O;subst O;cases (show u=Value.none from w1);unfold Rep at S;obtain⟨p2,ae,y2,s2,q2⟩:=S;subst y2;cases (show v=Value.ref _ from w2);obtain⟨ab,af,Y,_⟩:=I.tuple s2;exact SeqAt.EqAt.none_tuple Y hu
  |lst es=>unfold Rep at O;subst O;cases (show u=Value.none from w1);unfold Rep at S;obtain⟨p2,ae,y2,s2,q2⟩:=S;subst y2;cases (show v=Value.ref _ from w2);obtain⟨ab,af,Y,_⟩:=I.list s2;have Y:=Y.isList;exact SeqAt.EqAt.none_list Y hu
 |bl b1 =>
  cases e with
  |opq=>exact absurd aa (by rw[c_7];omega)
  |dct ah ai=>exact absurd aa (by rw[c_8];omega)
  |non=>unfold Rep at O;subst O;cases (show u=Value.bool _ from w1);unfold Rep at S;subst S;cases (show v=Value.none from w2);exact SeqAt.EqAt.bool_none _
  |bl b2=>unfold Rep at O;subst O;cases (show u=Value.bool _ from w1);unfold Rep at S;subst S;cases (show v=Value.bool _ from w2);exact SeqAt.EqAt.bool_bool _ _
  |int b2=>unfold Rep at O;subst O;cases (show u=Value.bool _ from w1);unfold Rep at S;subst S;obtain⟨t2,z2⟩:=w2;subst z2;exact SeqAt.EqAt.bool_int _ _ _
  |str b2=>unfold Rep at O;subst O;cases (show u=Value.bool _ from w1);unfold Rep at S;subst S;obtain⟨t2,z2⟩:=w2;subst z2;exact SeqAt.EqAt.bool_str _ _ _
  |tup es=>unfold Rep at O;subst O;cases (show u=Value.bool _ from w1);unfold Rep at S;obtain⟨p2,ae,y2,s2,q2⟩:=S;subst y2;cases (show v=Value.ref _ from w2);obtain⟨ab,af,Y,_⟩:=I.tuple s2;exact SeqAt.EqAt.bool_tuple _ Y hu
  |lst es=>unfold Rep at O;subst O;cases (show u=Value.bool _ from w1);unfold Rep at S;obtain⟨p2,ae,y2,s2,q2⟩:=S;subst y2;cases (show v=Value.ref _ from w2);obtain⟨ab,af,Y,_⟩:=I.list s2;have Y:=Y.isList;exact SeqAt.EqAt.bool_list _ Y hu
 |int b1 =>
  cases e with
  |opq=>exact absurd aa (by rw[c_7];omega)
  |dct ah ai=>exact absurd aa (by rw[c_8];omega)
  |non=>unfold Rep at O;subst O;obtain⟨t1,z1⟩:=w1;subst z1;unfold Rep at S;subst S;cases (show v=Value.none from w2);exact SeqAt.EqAt.int_none _ _
  |bl b2=>unfold Rep at O;subst O;obtain⟨t1,z1⟩:=w1;subst z1;unfold Rep at S;subst S;cases (show v=Value.bool _ from w2);exact SeqAt.EqAt.int_bool _ _ _
  |int b2=>unfold Rep at O;subst O;obtain⟨t1,z1⟩:=w1;subst z1;unfold Rep at S;subst S;obtain⟨t2,z2⟩:=w2;subst z2;exact SeqAt.EqAt.int_int _ _ _ _
  |str b2=>unfold Rep at O;subst O;obtain⟨t1,z1⟩:=w1;subst z1;unfold Rep at S;subst S;obtain⟨t2,z2⟩:=w2;subst z2;exact SeqAt.EqAt.int_str _ _ _ _
  |tup es=>unfold Rep at O;subst O;obtain⟨t1,z1⟩:=w1;subst z1;unfold Rep at S;obtain⟨p2,ae,y2,s2,q2⟩:=S;subst y2;cases (show v=Value.ref _ from w2);obtain⟨ab,af,Y,_⟩:=I.tuple s2;exact SeqAt.EqAt.int_tuple _ _ Y hu
  |lst es=>unfold Rep at O;subst O;obtain⟨t1,z1⟩:=w1;subst z1;unfold Rep at S;obtain⟨p2,ae,y2,s2,q2⟩:=S;subst y2;cases (show v=Value.ref _ from w2);obtain⟨ab,af,Y,_⟩:=I.list s2;have Y:=Y.isList;exact SeqAt.EqAt.int_list _ _ Y hu
 |str b1 =>
  cases e with
  |opq=>exact absurd aa (by rw[c_7];omega)
  |dct ah ai=>exact absurd aa (by rw[c_8];omega)
  |non=>unfold Rep at O;subst O;obtain⟨t1,z1⟩:=w1;subst z1;unfold Rep at S;subst S;cases (show v=Value.none from w2);exact SeqAt.EqAt.str_none _ _
  |bl b2=>unfold Rep at O;subst O;obtain⟨t1,z1⟩:=w1;subst z1;unfold Rep at S;subst S;cases (show v=Value.bool _ from w2);exact SeqAt.EqAt.str_bool _ _ _
  |int b2=>unfold Rep at O;subst O;obtain⟨t1,z1⟩:=w1;subst z1;unfold Rep at S;subst S;obtain⟨t2,z2⟩:=w2;subst z2;exact SeqAt.EqAt.str_int _ _ _ _
  |str b2=>unfold Rep at O;subst O;obtain⟨t1,z1⟩:=w1;subst z1;unfold Rep at S;subst S;obtain⟨t2,z2⟩:=w2;subst z2;exact SeqAt.EqAt.str_str _ _ _ _
  |tup es=>unfold Rep at O;subst O;obtain⟨t1,z1⟩:=w1;subst z1;unfold Rep at S;obtain⟨p2,ae,y2,s2,q2⟩:=S;subst y2;cases (show v=Value.ref _ from w2);obtain⟨ab,af,Y,_⟩:=I.tuple s2;exact SeqAt.EqAt.str_tuple _ _ Y hu
  |lst es=>unfold Rep at O;subst O;obtain⟨t1,z1⟩:=w1;subst z1;unfold Rep at S;obtain⟨p2,ae,y2,s2,q2⟩:=S;subst y2;cases (show v=Value.ref _ from w2);obtain⟨ab,af,Y,_⟩:=I.list s2;have Y:=Y.isList;exact SeqAt.EqAt.str_list _ _ Y hu
 |tup ds =>
  cases e with
  |opq=>exact absurd aa (by rw[c_7];omega)
  |dct ah ai=>exact absurd aa (by rw[c_8];omega)
  |non=>unfold Rep at O;obtain⟨p1,ad,y1,s1,q1⟩:=O;subst y1;cases (show u=Value.ref _ from w1);obtain⟨ac,ag,Z,_⟩:=I.tuple s1;unfold Rep at S;subst S;cases (show v=Value.none from w2);exact SeqAt.EqAt.tuple_none Z hu
  |bl b2=>unfold Rep at O;obtain⟨p1,ad,y1,s1,q1⟩:=O;subst y1;cases (show u=Value.ref _ from w1);obtain⟨ac,ag,Z,_⟩:=I.tuple s1;unfold Rep at S;subst S;cases (show v=Value.bool _ from w2);exact SeqAt.EqAt.tuple_bool _ Z hu
  |int b2=>unfold Rep at O;obtain⟨p1,ad,y1,s1,q1⟩:=O;subst y1;cases (show u=Value.ref _ from w1);obtain⟨ac,ag,Z,_⟩:=I.tuple s1;unfold Rep at S;subst S;obtain⟨t2,z2⟩:=w2;subst z2;exact SeqAt.EqAt.tuple_int _ _ Z hu
  |str b2=>unfold Rep at O;obtain⟨p1,ad,y1,s1,q1⟩:=O;subst y1;cases (show u=Value.ref _ from w1);obtain⟨ac,ag,Z,_⟩:=I.tuple s1;unfold Rep at S;subst S;obtain⟨t2,z2⟩:=w2;subst z2;exact SeqAt.EqAt.tuple_str _ _ Z hu
  |tup es =>
   unfold Rep at O S;obtain⟨p1,ad,y1,_⟩:=O;obtain⟨p2,ae,y2,_⟩:=S;subst y1 y2;cases (show u=Value.ref _ from w1);cases (show v=Value.ref _ from w2)
   by_cases h:p1=p2
   ·rw[one (by rw[h]),h];exact SeqAt.EqAt.same _
   ·exact SeqAt.EqAt.of_refs h key
  |lst es=>unfold Rep at O;obtain⟨p1,ad,y1,s1,q1⟩:=O;subst y1;cases (show u=Value.ref _ from w1);obtain⟨ac,ag,Z,_⟩:=I.tuple s1;unfold Rep at S;obtain⟨p2,ae,y2,s2,q2⟩:=S;subst y2;cases (show v=Value.ref _ from w2);obtain⟨ab,af,Y,_⟩:=I.list s2;have Y:=Y.isList;exact SeqAt.EqAt.tuple_list Z Y hu
 |lst ds =>
  cases e with
  |opq=>exact absurd aa (by rw[c_7];omega)
  |dct ah ai=>exact absurd aa (by rw[c_8];omega)
  |non=>unfold Rep at O;obtain⟨p1,ad,y1,s1,q1⟩:=O;subst y1;cases (show u=Value.ref _ from w1);obtain⟨ac,ag,Z,_⟩:=I.list s1;have Z:=Z.isList;unfold Rep at S;subst S;cases (show v=Value.none from w2);exact SeqAt.EqAt.list_none Z hu
  |bl b2=>unfold Rep at O;obtain⟨p1,ad,y1,s1,q1⟩:=O;subst y1;cases (show u=Value.ref _ from w1);obtain⟨ac,ag,Z,_⟩:=I.list s1;have Z:=Z.isList;unfold Rep at S;subst S;cases (show v=Value.bool _ from w2);exact SeqAt.EqAt.list_bool _ Z hu
  |int b2=>unfold Rep at O;obtain⟨p1,ad,y1,s1,q1⟩:=O;subst y1;cases (show u=Value.ref _ from w1);obtain⟨ac,ag,Z,_⟩:=I.list s1;have Z:=Z.isList;unfold Rep at S;subst S;obtain⟨t2,z2⟩:=w2;subst z2;exact SeqAt.EqAt.list_int _ _ Z hu
  |str b2=>unfold Rep at O;obtain⟨p1,ad,y1,s1,q1⟩:=O;subst y1;cases (show u=Value.ref _ from w1);obtain⟨ac,ag,Z,_⟩:=I.list s1;have Z:=Z.isList;unfold Rep at S;subst S;obtain⟨t2,z2⟩:=w2;subst z2;exact SeqAt.EqAt.list_str _ _ Z hu
  |tup es=>unfold Rep at O;obtain⟨p1,ad,y1,s1,q1⟩:=O;subst y1;cases (show u=Value.ref _ from w1);obtain⟨ac,ag,Z,_⟩:=I.list s1;have Z:=Z.isList;unfold Rep at S;obtain⟨p2,ae,y2,s2,q2⟩:=S;subst y2;cases (show v=Value.ref _ from w2);obtain⟨ab,af,Y,_⟩:=I.tuple s2;exact SeqAt.EqAt.list_tuple Z Y hu
  |lst es =>
   unfold Rep at O S;obtain⟨p1,ad,y1,_⟩:=O;obtain⟨p2,ae,y2,_⟩:=S;subst y1 y2;cases (show u=Value.ref _ from w1);cases (show v=Value.ref _ from w2)
   by_cases h:p1=p2
   ·rw[one (by rw[h]),h];exact SeqAt.EqAt.same _
   ·exact SeqAt.EqAt.of_refs h key
theorem aq7 {z:List Value}{j:Nat} (h:j<z.toArray.size):z[j]?=some z.toArray[j]:=by
 have h':j<z.length:=by simpa using h
 simp[h']
theorem M_5 {A:Around}{n:Nat} (Z:EqN X H s n) {ds es:List D}{vs S:List V}{O its':List Value} (hn:S_2 ds<=n) (aa:S_2 ds<1000) (ab:S_2 es<1000) (hA:A.in1.units+n<cLine) (q1:Reps X.K H ds vs) (q2:Reps X.K H es S) (rv:Vals vs O) (Y:Vals S its')
  (j:Nat) (h1:j<O.toArray.size) (h2:j<its'.toArray.size):SeqAt.EqAt A.in1 s O.toArray[j] its'.toArray[j] (eqD (ds.getD j .non) (es.getD j .non)):=by
 have l1:=q1.length;have l2:=q2.length;have m1:=rv.length;have m2:=Y.length;have k1:j<ds.length:=by rw[List.size_toArray] at h1;omega
 have k2:j<es.length:=by rw[List.size_toArray] at h2;omega
 have e1:ds[j]?=some ds[j]:=by simp[k1]
 have e2:es[j]?=some es[j]:=by simp[k2]
 obtain⟨v,a1,a2⟩:=q1.get e1;obtain⟨v',b1,b2⟩:=q2.get e2;obtain⟨u,c1,c2⟩:=rv.get a1;obtain⟨u',d1,d2⟩:=Y.get b1;rw[aq7 h1] at c1;rw[aq7 h2] at d1;have g1:ds.getD j .non=ds[j]:=by simp[List.getD,k1]
 have g2:es.getD j .non=es[j]:=by simp[List.getD,k2]
 rw[g1,g2,Option.some.inj c1,Option.some.inj d1];exact Z A.in1 ds[j] es[j] v v' u u' (q_7 hn e1) (by have z:=q_7 (n:=999) (by omega) e1;omega) (by have z:=q_7 (n:=999) (by omega) e2;omega) hA a2 c2 b2 d2
theorem rcS (I:Inv X pins σ H s) (n:Nat) (ih:∀ m,m<n->EqN X H s m):RcN X H s n:=by
  intro A d e x y u v hn aj ac hA Y w1 Z w2;have hu:A.units<cLine:=by omega
  cases d with
  |opq=>exact absurd aj (by rw[c_7];omega)
  |dct ah ai=>exact absurd aj (by rw[c_8];omega)
  |non =>
   cases e with
   |opq=>exact absurd ac (by rw[c_7];omega)
   |dct ah ai=>exact absurd ac (by rw[c_8];omega)
   |non=>unfold Rep at Y;subst Y;cases (show u=Value.none from w1);unfold Rep at Z;subst Z;cases (show v=Value.none from w2);exact SeqAt.RcAt.none_none
   |bl b2=>unfold Rep at Y;subst Y;cases (show u=Value.none from w1);unfold Rep at Z;subst Z;cases (show v=Value.bool _ from w2);exact SeqAt.RcAt.none_bool _
   |int b2=>unfold Rep at Y;subst Y;cases (show u=Value.none from w1);unfold Rep at Z;subst Z;obtain⟨t2,z2⟩:=w2;subst z2;exact SeqAt.RcAt.none_int _ _
   |str b2=>unfold Rep at Y;subst Y;cases (show u=Value.none from w1);unfold Rep at Z;subst Z;obtain⟨t2,z2⟩:=w2;subst z2;exact SeqAt.RcAt.none_str _ _
   |tup es=>unfold Rep at Y;subst Y;cases (show u=Value.none from w1);unfold Rep at Z;obtain⟨p2,ag,y2,s2,q2⟩:=Z;subst y2;cases (show v=Value.ref _ from w2);obtain⟨aa,ad,O,_⟩:=I.tuple s2;exact SeqAt.RcAt.none_tuple O hu
   |lst es=>unfold Rep at Y;subst Y;cases (show u=Value.none from w1);unfold Rep at Z;obtain⟨p2,ag,y2,s2,q2⟩:=Z;subst y2;cases (show v=Value.ref _ from w2);obtain⟨aa,ad,O,_⟩:=I.list s2;have O:=O.isList;exact SeqAt.RcAt.none_list O hu
  |bl b1 =>
   cases e with
   |opq=>exact absurd ac (by rw[c_7];omega)
   |dct ah ai=>exact absurd ac (by rw[c_8];omega)
   |non=>unfold Rep at Y;subst Y;cases (show u=Value.bool _ from w1);unfold Rep at Z;subst Z;cases (show v=Value.none from w2);exact SeqAt.RcAt.bool_none _
   |bl b2=>unfold Rep at Y;subst Y;cases (show u=Value.bool _ from w1);unfold Rep at Z;subst Z;cases (show v=Value.bool _ from w2);exact SeqAt.RcAt.bool_bool _ _
   |int b2=>unfold Rep at Y;subst Y;cases (show u=Value.bool _ from w1);unfold Rep at Z;subst Z;obtain⟨t2,z2⟩:=w2;subst z2;exact SeqAt.RcAt.bool_int _ _ _
   |str b2=>unfold Rep at Y;subst Y;cases (show u=Value.bool _ from w1);unfold Rep at Z;subst Z;obtain⟨t2,z2⟩:=w2;subst z2;exact SeqAt.RcAt.bool_str _ _ _
   |tup es=>unfold Rep at Y;subst Y;cases (show u=Value.bool _ from w1);unfold Rep at Z;obtain⟨p2,ag,y2,s2,q2⟩:=Z;subst y2;cases (show v=Value.ref _ from w2);obtain⟨aa,ad,O,_⟩:=I.tuple s2;exact SeqAt.RcAt.bool_tuple _ O hu
   |lst es=>unfold Rep at Y;subst Y;cases (show u=Value.bool _ from w1);unfold Rep at Z;obtain⟨p2,ag,y2,s2,q2⟩:=Z;subst y2;cases (show v=Value.ref _ from w2);obtain⟨aa,ad,O,_⟩:=I.list s2;have O:=O.isList;exact SeqAt.RcAt.bool_list _ O hu
  |int b1 =>
   cases e with
   |opq=>exact absurd ac (by rw[c_7];omega)
   |dct ah ai=>exact absurd ac (by rw[c_8];omega)
   |non=>unfold Rep at Y;subst Y;obtain⟨t1,z1⟩:=w1;subst z1;unfold Rep at Z;subst Z;cases (show v=Value.none from w2);exact SeqAt.RcAt.int_none _ _
   |bl b2=>unfold Rep at Y;subst Y;obtain⟨t1,z1⟩:=w1;subst z1;unfold Rep at Z;subst Z;cases (show v=Value.bool _ from w2);exact SeqAt.RcAt.int_bool _ _ _
   |int b2=>unfold Rep at Y;subst Y;obtain⟨t1,z1⟩:=w1;subst z1;unfold Rep at Z;subst Z;obtain⟨t2,z2⟩:=w2;subst z2;exact SeqAt.RcAt.int_int _ _ _ _
   |str b2=>unfold Rep at Y;subst Y;obtain⟨t1,z1⟩:=w1;subst z1;unfold Rep at Z;subst Z;obtain⟨t2,z2⟩:=w2;subst z2;exact SeqAt.RcAt.int_str _ _ _ _
   |tup es=>unfold Rep at Y;subst Y;obtain⟨t1,z1⟩:=w1;subst z1;unfold Rep at Z;obtain⟨p2,ag,y2,s2,q2⟩:=Z;subst y2;cases (show v=Value.ref _ from w2);obtain⟨aa,ad,O,_⟩:=I.tuple s2;exact SeqAt.RcAt.int_tuple _ _ O hu
   |lst es=>unfold Rep at Y;subst Y;obtain⟨t1,z1⟩:=w1;subst z1;unfold Rep at Z;obtain⟨p2,ag,y2,s2,q2⟩:=Z;subst y2;cases (show v=Value.ref _ from w2);obtain⟨aa,ad,O,_⟩:=I.list s2;have O:=O.isList;exact SeqAt.RcAt.int_list _ _ O hu
  |str b1 =>
   cases e with
   |opq=>exact absurd ac (by rw[c_7];omega)
   |dct ah ai=>exact absurd ac (by rw[c_8];omega)
   |non=>unfold Rep at Y;subst Y;obtain⟨t1,z1⟩:=w1;subst z1;unfold Rep at Z;subst Z;cases (show v=Value.none from w2);exact SeqAt.RcAt.str_none _ _
   |bl b2=>unfold Rep at Y;subst Y;obtain⟨t1,z1⟩:=w1;subst z1;unfold Rep at Z;subst Z;cases (show v=Value.bool _ from w2);exact SeqAt.RcAt.str_bool _ _ _
   |int b2=>unfold Rep at Y;subst Y;obtain⟨t1,z1⟩:=w1;subst z1;unfold Rep at Z;subst Z;obtain⟨t2,z2⟩:=w2;subst z2;exact SeqAt.RcAt.str_int _ _ _ _
   |str b2=>unfold Rep at Y;subst Y;obtain⟨t1,z1⟩:=w1;subst z1;unfold Rep at Z;subst Z;obtain⟨t2,z2⟩:=w2;subst z2;exact SeqAt.RcAt.str_str _ _ _ _
   |tup es=>unfold Rep at Y;subst Y;obtain⟨t1,z1⟩:=w1;subst z1;unfold Rep at Z;obtain⟨p2,ag,y2,s2,q2⟩:=Z;subst y2;cases (show v=Value.ref _ from w2);obtain⟨aa,ad,O,_⟩:=I.tuple s2;exact SeqAt.RcAt.str_tuple _ _ O hu
   |lst es=>unfold Rep at Y;subst Y;obtain⟨t1,z1⟩:=w1;subst z1;unfold Rep at Z;obtain⟨p2,ag,y2,s2,q2⟩:=Z;subst y2;cases (show v=Value.ref _ from w2);obtain⟨aa,ad,O,_⟩:=I.list s2;have O:=O.isList;exact SeqAt.RcAt.str_list _ _ O hu
  |tup ds =>
   cases e with
   |opq=>exact absurd ac (by rw[c_7];omega)
   |dct ah ai=>exact absurd ac (by rw[c_8];omega)
   |non=>unfold Rep at Y;obtain⟨p1,af,y1,s1,q1⟩:=Y;subst y1;cases (show u=Value.ref _ from w1);obtain⟨ab,ae,S,_⟩:=I.tuple s1;unfold Rep at Z;subst Z;cases (show v=Value.none from w2);exact SeqAt.RcAt.tuple_none S hu
   |bl b2=>unfold Rep at Y;obtain⟨p1,af,y1,s1,q1⟩:=Y;subst y1;cases (show u=Value.ref _ from w1);obtain⟨ab,ae,S,_⟩:=I.tuple s1;unfold Rep at Z;subst Z;cases (show v=Value.bool _ from w2);exact SeqAt.RcAt.tuple_bool _ S hu
   |int b2=>unfold Rep at Y;obtain⟨p1,af,y1,s1,q1⟩:=Y;subst y1;cases (show u=Value.ref _ from w1);obtain⟨ab,ae,S,_⟩:=I.tuple s1;unfold Rep at Z;subst Z;obtain⟨t2,z2⟩:=w2;subst z2;exact SeqAt.RcAt.tuple_int _ _ S hu
   |str b2=>unfold Rep at Y;obtain⟨p1,af,y1,s1,q1⟩:=Y;subst y1;cases (show u=Value.ref _ from w1);obtain⟨ab,ae,S,_⟩:=I.tuple s1;unfold Rep at Z;subst Z;obtain⟨t2,z2⟩:=w2;subst z2;exact SeqAt.RcAt.tuple_str _ _ S hu
   |tup es =>
     rw[k_4] at hn;unfold Rep at Y;obtain⟨p1,af,y1,s1,q1⟩:=Y;subst y1;cases (show u=Value.ref _ from w1);obtain⟨ab,ae,S,_⟩:=I.tuple s1;unfold Rep at Z;obtain⟨p2,ag,y2,s2,q2⟩:=Z;subst y2;cases (show v=Value.ref _ from w2);obtain⟨aa,ad,O,_⟩:=I.tuple s2;have hi:A.in1.units+(n-1)<cLine:=by show A.units+1+(n-1)<cLine;omega
     have z:=SeqAt.RcAt.tuples (e:=λ j=>eqD (ds.getD j .non) (es.getD j .non)) S O hu (M_5 (A:=A) (ih (n-1) (by omega)) (by omega) (by first | (rw[k_4] at aj;omega) | (rw[k_5] at aj;omega)) (by first | (rw[k_4] at ac;omega) | (rw[k_5] at ac;omega)) hi q1 q2 ae ad)
     rw[List.size_toArray,List.size_toArray,<- ae.length,<- ad.length,<- q1.length,<- q2.length] at z;rw[eqD,u_3];exact z
   |lst es=>unfold Rep at Y;obtain⟨p1,af,y1,s1,q1⟩:=Y;subst y1;cases (show u=Value.ref _ from w1);obtain⟨ab,ae,S,_⟩:=I.tuple s1;unfold Rep at Z;obtain⟨p2,ag,y2,s2,q2⟩:=Z;subst y2;cases (show v=Value.ref _ from w2);obtain⟨aa,ad,O,_⟩:=I.list s2;have O:=O.isList;exact SeqAt.RcAt.tuple_list S O hu
  |lst ds =>
   cases e with
   |opq=>exact absurd ac (by rw[c_7];omega)
   |dct ah ai=>exact absurd ac (by rw[c_8];omega)
   |non=>unfold Rep at Y;obtain⟨p1,af,y1,s1,q1⟩:=Y;subst y1;cases (show u=Value.ref _ from w1);obtain⟨ab,ae,S,_⟩:=I.list s1;have S:=S.isList;unfold Rep at Z;subst Z;cases (show v=Value.none from w2);exact SeqAt.RcAt.list_none S hu
   |bl b2=>unfold Rep at Y;obtain⟨p1,af,y1,s1,q1⟩:=Y;subst y1;cases (show u=Value.ref _ from w1);obtain⟨ab,ae,S,_⟩:=I.list s1;have S:=S.isList;unfold Rep at Z;subst Z;cases (show v=Value.bool _ from w2);exact SeqAt.RcAt.list_bool _ S hu
   |int b2=>unfold Rep at Y;obtain⟨p1,af,y1,s1,q1⟩:=Y;subst y1;cases (show u=Value.ref _ from w1);obtain⟨ab,ae,S,_⟩:=I.list s1;have S:=S.isList;unfold Rep at Z;subst Z;obtain⟨t2,z2⟩:=w2;subst z2;exact SeqAt.RcAt.list_int _ _ S hu
   |str b2=>unfold Rep at Y;obtain⟨p1,af,y1,s1,q1⟩:=Y;subst y1;cases (show u=Value.ref _ from w1);obtain⟨ab,ae,S,_⟩:=I.list s1;have S:=S.isList;unfold Rep at Z;subst Z;obtain⟨t2,z2⟩:=w2;subst z2;exact SeqAt.RcAt.list_str _ _ S hu
   |tup es=>unfold Rep at Y;obtain⟨p1,af,y1,s1,q1⟩:=Y;subst y1;cases (show u=Value.ref _ from w1);obtain⟨ab,ae,S,_⟩:=I.list s1;have S:=S.isList;unfold Rep at Z;obtain⟨p2,ag,y2,s2,q2⟩:=Z;subst y2;cases (show v=Value.ref _ from w2);obtain⟨aa,ad,O,_⟩:=I.tuple s2;exact SeqAt.RcAt.list_tuple S O hu
   |lst es =>
     rw[k_5] at hn;unfold Rep at Y;obtain⟨p1,af,y1,s1,q1⟩:=Y;subst y1;cases (show u=Value.ref _ from w1);obtain⟨ab,ae,S,_⟩:=I.list s1;have S:=S.isList;unfold Rep at Z;obtain⟨p2,ag,y2,s2,q2⟩:=Z;subst y2;cases (show v=Value.ref _ from w2);obtain⟨aa,ad,O,_⟩:=I.list s2;have O:=O.isList;have hi:A.in1.units+(n-1)<cLine:=by show A.units+1+(n-1)<cLine;omega
     have l1:ab.toArray.size=ds.length:=by rw[List.size_toArray,<- ae.length,<- q1.length]
     have l2:aa.toArray.size=es.length:=by rw[List.size_toArray,<- ad.length,<- q2.length]
     rw[eqD,u_3]
     by_cases hl:ds.length=es.length
     ·have z:=SeqAt.RcAt.lists (e:=λ j=>eqD (ds.getD j .non) (es.getD j .non)) S O (by rw[l1,l2];exact hl) hu (M_5 (A:=A) (ih (n-1) (by omega)) (by omega) (by first | (rw[k_4] at aj;omega) | (rw[k_5] at aj;omega)) (by first | (rw[k_4] at ac;omega) | (rw[k_5] at ac;omega)) hi q1 q2 ae ad)
      rw[l1] at z;rw[show min ds.length es.length=ds.length by omega,show (ds.length==es.length)=true by simp[hl],Bool.and_true]
      exact z
     ·rw[show (ds.length==es.length)=false by simp[hl],Bool.and_false]
      exact SeqAt.RcAt.lists_lengths S O (by rw[l1,l2];simp[hl]) hu
theorem S_0 (I:Inv X pins σ H s) (n:Nat):EqN X H s n:=by
 induction n using Nat.strongRecOn with
 |ind n z=>exact bc7 I (rcS I n z)
theorem rcN (I:Inv X pins σ H s) (n:Nat):RcN X H s n:=rcS I n λ m _=>S_0 I m
noncomputable def bu7 (K:Frag):R2:=λ x y H Q=>∃ d e,Rep K H d x/\Rep K H e y/\dpD d<=30/\dpD e<=30/\Q (.bl (eqD d e)) H
theorem aY7 (hu:X.A.units+64<cLine):OpR X (compareOp .Eq) (bu7 X.K):=by
 intro pins s σ H x y v u Q I z ry h;obtain⟨d,e,Y,S,Z,O,q⟩:=h;exact rcN I 30 X.A d e x y v u Z (by omega) (by omega) (by omega) Y z S ry X.prog X.w X.xe _ ⟨.bl _,H,I,rfl,q⟩
theorem bo6 {K:Frag}:OpD K (bu7 K) dEq:=λ c H0 H ρ σ x y d Y Z Q R S O e q=>by
 unfold dEq at e
 split at e
 ·rename_i z
  cases e;exact⟨x,y,Rep.mono R.same x S,Rep.mono R.same y O,z.1,z.2,q _ H0 H (Same.refl _) R (u_8 _ _)⟩
 ·cases e
theorem cEq (z:X.A.units+64<cLine):A_0 X .Eq dEq:=⟨_,aY7 z,bo6⟩
theorem neN (I:Inv X pins σ H s) (n:Nat) (A:Around) (d e:D) (x y:V) (u v:Value) (hn:dpD d<=n) (aj:dpD d<1000) (ac:dpD e<1000) (hA:A.units+n<cLine) (Y:Rep X.K H d x) (w1:RelV x u) (Z:Rep X.K H e y) (w2:RelV y v):SeqAt.RcNeAt A s u v (!eqD d e):=by
  have hu:A.units<cLine:=by omega
  cases d with
  |opq=>exact absurd aj (by rw[c_7];omega)
  |dct ah ai=>exact absurd aj (by rw[c_8];omega)
  |non =>
   cases e with
   |opq=>exact absurd ac (by rw[c_7];omega)
   |dct ah ai=>exact absurd ac (by rw[c_8];omega)
   |non=>unfold Rep at Y;subst Y;cases (show u=Value.none from w1);unfold Rep at Z;subst Z;cases (show v=Value.none from w2);exact SeqAt.RcNeAt.none_none
   |bl b2=>unfold Rep at Y;subst Y;cases (show u=Value.none from w1);unfold Rep at Z;subst Z;cases (show v=Value.bool _ from w2);exact SeqAt.RcNeAt.none_bool _
   |int b2=>unfold Rep at Y;subst Y;cases (show u=Value.none from w1);unfold Rep at Z;subst Z;obtain⟨t2,z2⟩:=w2;subst z2;exact SeqAt.RcNeAt.none_int _ _
   |str b2=>unfold Rep at Y;subst Y;cases (show u=Value.none from w1);unfold Rep at Z;subst Z;obtain⟨t2,z2⟩:=w2;subst z2;exact SeqAt.RcNeAt.none_str _ _
   |tup es=>unfold Rep at Y;subst Y;cases (show u=Value.none from w1);unfold Rep at Z;obtain⟨p2,ag,y2,s2,q2⟩:=Z;subst y2;cases (show v=Value.ref _ from w2);obtain⟨aa,ad,O,_⟩:=I.tuple s2;exact SeqAt.RcNeAt.none_tuple O hu
   |lst es=>unfold Rep at Y;subst Y;cases (show u=Value.none from w1);unfold Rep at Z;obtain⟨p2,ag,y2,s2,q2⟩:=Z;subst y2;cases (show v=Value.ref _ from w2);obtain⟨aa,ad,O,_⟩:=I.list s2;have O:=O.isList;exact SeqAt.RcNeAt.none_list O hu
  |bl b1 =>
   cases e with
   |opq=>exact absurd ac (by rw[c_7];omega)
   |dct ah ai=>exact absurd ac (by rw[c_8];omega)
   |non=>unfold Rep at Y;subst Y;cases (show u=Value.bool _ from w1);unfold Rep at Z;subst Z;cases (show v=Value.none from w2);exact SeqAt.RcNeAt.bool_none _
   |bl b2=>unfold Rep at Y;subst Y;cases (show u=Value.bool _ from w1);unfold Rep at Z;subst Z;cases (show v=Value.bool _ from w2);exact SeqAt.RcNeAt.bool_bool _ _
   |int b2=>unfold Rep at Y;subst Y;cases (show u=Value.bool _ from w1);unfold Rep at Z;subst Z;obtain⟨t2,z2⟩:=w2;subst z2;exact SeqAt.RcNeAt.bool_int _ _ _
   |str b2=>unfold Rep at Y;subst Y;cases (show u=Value.bool _ from w1);unfold Rep at Z;subst Z;obtain⟨t2,z2⟩:=w2;subst z2;exact SeqAt.RcNeAt.bool_str _ _ _
   |tup es=>unfold Rep at Y;subst Y;cases (show u=Value.bool _ from w1);unfold Rep at Z;obtain⟨p2,ag,y2,s2,q2⟩:=Z;subst y2;cases (show v=Value.ref _ from w2);obtain⟨aa,ad,O,_⟩:=I.tuple s2;exact SeqAt.RcNeAt.bool_tuple _ O hu
   |lst es=>unfold Rep at Y;subst Y;cases (show u=Value.bool _ from w1);unfold Rep at Z;obtain⟨p2,ag,y2,s2,q2⟩:=Z;subst y2;cases (show v=Value.ref _ from w2);obtain⟨aa,ad,O,_⟩:=I.list s2;have O:=O.isList;exact SeqAt.RcNeAt.bool_list _ O hu
  |int b1 =>
   cases e with
   |opq=>exact absurd ac (by rw[c_7];omega)
   |dct ah ai=>exact absurd ac (by rw[c_8];omega)
   |non=>unfold Rep at Y;subst Y;obtain⟨t1,z1⟩:=w1;subst z1;unfold Rep at Z;subst Z;cases (show v=Value.none from w2);exact SeqAt.RcNeAt.int_none _ _
   |bl b2=>unfold Rep at Y;subst Y;obtain⟨t1,z1⟩:=w1;subst z1;unfold Rep at Z;subst Z;cases (show v=Value.bool _ from w2);exact SeqAt.RcNeAt.int_bool _ _ _
   |int b2=>unfold Rep at Y;subst Y;obtain⟨t1,z1⟩:=w1;subst z1;unfold Rep at Z;subst Z;obtain⟨t2,z2⟩:=w2;subst z2;exact SeqAt.RcNeAt.int_int _ _ _ _
   |str b2=>unfold Rep at Y;subst Y;obtain⟨t1,z1⟩:=w1;subst z1;unfold Rep at Z;subst Z;obtain⟨t2,z2⟩:=w2;subst z2;exact SeqAt.RcNeAt.int_str _ _ _ _
   |tup es=>unfold Rep at Y;subst Y;obtain⟨t1,z1⟩:=w1;subst z1;unfold Rep at Z;obtain⟨p2,ag,y2,s2,q2⟩:=Z;subst y2;cases (show v=Value.ref _ from w2);obtain⟨aa,ad,O,_⟩:=I.tuple s2;exact SeqAt.RcNeAt.int_tuple _ _ O hu
   |lst es=>unfold Rep at Y;subst Y;obtain⟨t1,z1⟩:=w1;subst z1;unfold Rep at Z;obtain⟨p2,ag,y2,s2,q2⟩:=Z;subst y2;cases (show v=Value.ref _ from w2);obtain⟨aa,ad,O,_⟩:=I.list s2;have O:=O.isList;exact SeqAt.RcNeAt.int_list _ _ O hu
  |str b1 =>
   cases e with
   |opq=>exact absurd ac (by rw[c_7];omega)
   |dct ah ai=>exact absurd ac (by rw[c_8];omega)
   |non=>unfold Rep at Y;subst Y;obtain⟨t1,z1⟩:=w1;subst z1;unfold Rep at Z;subst Z;cases (show v=Value.none from w2);exact SeqAt.RcNeAt.str_none _ _
   |bl b2=>unfold Rep at Y;subst Y;obtain⟨t1,z1⟩:=w1;subst z1;unfold Rep at Z;subst Z;cases (show v=Value.bool _ from w2);exact SeqAt.RcNeAt.str_bool _ _ _
   |int b2=>unfold Rep at Y;subst Y;obtain⟨t1,z1⟩:=w1;subst z1;unfold Rep at Z;subst Z;obtain⟨t2,z2⟩:=w2;subst z2;exact SeqAt.RcNeAt.str_int _ _ _ _
   |str b2=>unfold Rep at Y;subst Y;obtain⟨t1,z1⟩:=w1;subst z1;unfold Rep at Z;subst Z;obtain⟨t2,z2⟩:=w2;subst z2;exact SeqAt.RcNeAt.str_str _ _ _ _
   |tup es=>unfold Rep at Y;subst Y;obtain⟨t1,z1⟩:=w1;subst z1;unfold Rep at Z;obtain⟨p2,ag,y2,s2,q2⟩:=Z;subst y2;cases (show v=Value.ref _ from w2);obtain⟨aa,ad,O,_⟩:=I.tuple s2;exact SeqAt.RcNeAt.str_tuple _ _ O hu
   |lst es=>unfold Rep at Y;subst Y;obtain⟨t1,z1⟩:=w1;subst z1;unfold Rep at Z;obtain⟨p2,ag,y2,s2,q2⟩:=Z;subst y2;cases (show v=Value.ref _ from w2);obtain⟨aa,ad,O,_⟩:=I.list s2;have O:=O.isList;exact SeqAt.RcNeAt.str_list _ _ O hu
  |tup ds =>
   cases e with
   |opq=>exact absurd ac (by rw[c_7];omega)
   |dct ah ai=>exact absurd ac (by rw[c_8];omega)
   |non=>unfold Rep at Y;obtain⟨p1,af,y1,s1,q1⟩:=Y;subst y1;cases (show u=Value.ref _ from w1);obtain⟨ab,ae,S,_⟩:=I.tuple s1;unfold Rep at Z;subst Z;cases (show v=Value.none from w2);exact SeqAt.RcNeAt.tuple_none S hu
   |bl b2=>unfold Rep at Y;obtain⟨p1,af,y1,s1,q1⟩:=Y;subst y1;cases (show u=Value.ref _ from w1);obtain⟨ab,ae,S,_⟩:=I.tuple s1;unfold Rep at Z;subst Z;cases (show v=Value.bool _ from w2);exact SeqAt.RcNeAt.tuple_bool _ S hu
   |int b2=>unfold Rep at Y;obtain⟨p1,af,y1,s1,q1⟩:=Y;subst y1;cases (show u=Value.ref _ from w1);obtain⟨ab,ae,S,_⟩:=I.tuple s1;unfold Rep at Z;subst Z;obtain⟨t2,z2⟩:=w2;subst z2;exact SeqAt.RcNeAt.tuple_int _ _ S hu
   |str b2=>unfold Rep at Y;obtain⟨p1,af,y1,s1,q1⟩:=Y;subst y1;cases (show u=Value.ref _ from w1);obtain⟨ab,ae,S,_⟩:=I.tuple s1;unfold Rep at Z;subst Z;obtain⟨t2,z2⟩:=w2;subst z2;exact SeqAt.RcNeAt.tuple_str _ _ S hu
   |tup es =>
     rw[k_4] at hn;unfold Rep at Y;obtain⟨p1,af,y1,s1,q1⟩:=Y;subst y1;cases (show u=Value.ref _ from w1);obtain⟨ab,ae,S,_⟩:=I.tuple s1;unfold Rep at Z;obtain⟨p2,ag,y2,s2,q2⟩:=Z;subst y2;cases (show v=Value.ref _ from w2);obtain⟨aa,ad,O,_⟩:=I.tuple s2;have hi:A.in1.units+(n-1)<cLine:=by show A.units+1+(n-1)<cLine;omega
     have z:=SeqAt.RcNeAt.tuples (e:=λ j=>eqD (ds.getD j .non) (es.getD j .non)) S O hu (M_5 (A:=A) (S_0 I (n-1)) (by omega) (by first | (rw[k_4] at aj;omega) | (rw[k_5] at aj;omega)) (by first | (rw[k_4] at ac;omega) | (rw[k_5] at ac;omega)) hi q1 q2 ae ad)
     rw[List.size_toArray,List.size_toArray,<- ae.length,<- ad.length,<- q1.length,<- q2.length] at z;rw[eqD,u_3];exact z
   |lst es=>unfold Rep at Y;obtain⟨p1,af,y1,s1,q1⟩:=Y;subst y1;cases (show u=Value.ref _ from w1);obtain⟨ab,ae,S,_⟩:=I.tuple s1;unfold Rep at Z;obtain⟨p2,ag,y2,s2,q2⟩:=Z;subst y2;cases (show v=Value.ref _ from w2);obtain⟨aa,ad,O,_⟩:=I.list s2;have O:=O.isList;exact SeqAt.RcNeAt.tuple_list S O hu
  |lst ds =>
   cases e with
   |opq=>exact absurd ac (by rw[c_7];omega)
   |dct ah ai=>exact absurd ac (by rw[c_8];omega)
   |non=>unfold Rep at Y;obtain⟨p1,af,y1,s1,q1⟩:=Y;subst y1;cases (show u=Value.ref _ from w1);obtain⟨ab,ae,S,_⟩:=I.list s1;have S:=S.isList;unfold Rep at Z;subst Z;cases (show v=Value.none from w2);exact SeqAt.RcNeAt.list_none S hu
   |bl b2=>unfold Rep at Y;obtain⟨p1,af,y1,s1,q1⟩:=Y;subst y1;cases (show u=Value.ref _ from w1);obtain⟨ab,ae,S,_⟩:=I.list s1;have S:=S.isList;unfold Rep at Z;subst Z;cases (show v=Value.bool _ from w2);exact SeqAt.RcNeAt.list_bool _ S hu
   |int b2=>unfold Rep at Y;obtain⟨p1,af,y1,s1,q1⟩:=Y;subst y1;cases (show u=Value.ref _ from w1);obtain⟨ab,ae,S,_⟩:=I.list s1;have S:=S.isList;unfold Rep at Z;subst Z;obtain⟨t2,z2⟩:=w2;subst z2;exact SeqAt.RcNeAt.list_int _ _ S hu
   |str b2=>unfold Rep at Y;obtain⟨p1,af,y1,s1,q1⟩:=Y;subst y1;cases (show u=Value.ref _ from w1);obtain⟨ab,ae,S,_⟩:=I.list s1;have S:=S.isList;unfold Rep at Z;subst Z;obtain⟨t2,z2⟩:=w2;subst z2;exact SeqAt.RcNeAt.list_str _ _ S hu
   |tup es=>unfold Rep at Y;obtain⟨p1,af,y1,s1,q1⟩:=Y;subst y1;cases (show u=Value.ref _ from w1);obtain⟨ab,ae,S,_⟩:=I.list s1;have S:=S.isList;unfold Rep at Z;obtain⟨p2,ag,y2,s2,q2⟩:=Z;subst y2;cases (show v=Value.ref _ from w2);obtain⟨aa,ad,O,_⟩:=I.tuple s2;exact SeqAt.RcNeAt.list_tuple S O hu
   |lst es =>
     rw[k_5] at hn;unfold Rep at Y;obtain⟨p1,af,y1,s1,q1⟩:=Y;subst y1;cases (show u=Value.ref _ from w1);obtain⟨ab,ae,S,_⟩:=I.list s1;have S:=S.isList;unfold Rep at Z;obtain⟨p2,ag,y2,s2,q2⟩:=Z;subst y2;cases (show v=Value.ref _ from w2);obtain⟨aa,ad,O,_⟩:=I.list s2;have O:=O.isList;have hi:A.in1.units+(n-1)<cLine:=by show A.units+1+(n-1)<cLine;omega
     have l1:ab.toArray.size=ds.length:=by rw[List.size_toArray,<- ae.length,<- q1.length]
     have l2:aa.toArray.size=es.length:=by rw[List.size_toArray,<- ad.length,<- q2.length]
     rw[eqD,u_3]
     by_cases hl:ds.length=es.length
     ·have z:=SeqAt.RcNeAt.lists (e:=λ j=>eqD (ds.getD j .non) (es.getD j .non)) S O (by rw[l1,l2];exact hl) hu (M_5 (A:=A) (S_0 I (n-1)) (by omega) (by first | (rw[k_4] at aj;omega) | (rw[k_5] at aj;omega)) (by first | (rw[k_4] at ac;omega) | (rw[k_5] at ac;omega)) hi q1 q2 ae ad)
      rw[l1] at z;rw[show min ds.length es.length=ds.length by omega,show (ds.length==es.length)=true by simp[hl],Bool.and_true]
      exact z
     ·rw[show (ds.length==es.length)=false by simp[hl],Bool.and_false]
      exact SeqAt.RcNeAt.lists_lengths S O (by rw[l1,l2];simp[hl]) hu
noncomputable def bu4 (K:Frag):R2:=λ x y H Q=>∃ d e,Rep K H d x/\Rep K H e y/\dpD d<=30/\dpD e<=30/\Q (.bl (!eqD d e)) H
theorem aY5 (hu:X.A.units+64<cLine):OpR X (compareOp .NotEq) (bu4 X.K):=by
 intro pins s σ H x y v u Q I z ry h;obtain⟨d,e,Y,S,Z,O,q⟩:=h;exact neN I 30 X.A d e x y v u Z (by omega) (by omega) (by omega) Y z S ry X.prog X.w X.xe _ ⟨.bl _,H,I,rfl,q⟩
theorem bm5 {K:Frag}:OpD K (bu4 K) dNe:=λ c H0 H ρ σ x y d Y Z Q R S O e q=>by
 unfold dNe at e
 split at e
 ·rename_i z
  cases e;exact⟨x,y,Rep.mono R.same x S,Rep.mono R.same y O,z.1,z.2,q _ H0 H (Same.refl _) R (u_8 _ _)⟩
 ·cases e
theorem cNe (z:X.A.units+64<cLine):A_0 X .NotEq dNe:=⟨_,aY5 z,bm5⟩
end
section
variable {X:Cx}
noncomputable def BOk (X:Cx) (f:Value) (g:List D->Option D):Prop:=∃ r,CallR X f r/\∀ (c:FC) (H0 H:Hp) (ρ:En) (σ:L2.St) (ds:List D) (d:D) (vs:List V) (Q:VK),RS X.K c H0 H ρ σ->Reps X.K H0 ds vs->g ds=some d->Aft X.K c H0 ρ σ d Q->r vs H Q
theorem bd3 {g:List D->Option D}{A:FA}{r:List V->Hp->VK->Prop} (o:∀ (c:FC) (H0 H:Hp) (ρ:En) (σ:L2.St) (ds:List D) (d:D) (vs:List V) (Q:VK),RS X.K c H0 H ρ σ->Reps X.K H0 ds vs->g ds=some d->Aft X.K c H0 ρ σ d Q->r vs H Q)
  {σ:L2.St}{H:Hp}{Q:VK} (h:tE X.K (eF g A) σ H Q):tCB r (tAa X.K A) σ H Q:=by
 obtain⟨c,H0,ρ,d,z,R,f,q⟩:=h;unfold eF at f;obtain⟨⟨ds,O⟩,h1,f⟩:=a_1 f;obtain⟨d',h2,f⟩:=a_1 f;have f':some (d',O)=some (d,z):=f;cases f';exact⟨c,H0,ρ,ds,_,R,h1,λ vs H1 Hh s1 S r1=>o c H1 Hh _ σ ds d vs Q S r1 h2 λ v H2 Hh2 Y R2 Z=>q v H2 Hh2 (s1.trans Y) R2 Z⟩
theorem xB {id:String}{g:List D → Option D}{A:FA}{x:Str}{p pos:Pos}{e:Expr}{es:List Expr} (o:BOk X (.builtin id) g) (Z:Gl X x) (hm:X.mg x=none) (hv:bootBuiltins x=some (.builtin id)) (ha:XA X (e::es) A) (Y:x≠"__name__":=by decide) (z:(x==("__debug__":Str))=false:=by decide)
  (S:starEach (e::es) X.env=(false,eval e X.env)::starEach es X.env:=by rfl) (O:(backTo pos (starEach es X.env)).any (·.1)=false:=by rfl):XE X (.Call (.Name x p) (e::es) [] pos) (eF g A):=by
 obtain⟨r,h1,h2⟩:=o;exact PE.wk (Z_9 h1 Z hm hv ha Y z S O) λ σ H Q h=>bd3 h2 h
theorem Reps.v1 {K:Frag}{H:Hp}{d:D}{vs:List V} (h:Reps K H [d] vs):∃ v,vs=[v]/\Rep K H d v:=by
 unfold Reps at h;obtain⟨v,r,e,a,b⟩:=h;unfold Reps at b;exact⟨v,by rw[e,b],a⟩
theorem Reps.v2 {K:Frag}{H:Hp}{d d':D}{vs:List V} (h:Reps K H [d,d'] vs):∃ v z,vs=[v,z]/\Rep K H d v/\Rep K H d' z:=by
 unfold Reps at h;obtain⟨v,r,e,a,b⟩:=h;obtain⟨z,e',O⟩:=Reps.v1 b;exact⟨v,z,by rw[e,e'],a,O⟩
theorem az5 {ds:List D}{d:D} (h:be7 ds=some d):∃ i,ds=[.int i]/\d=.int (if i<0 then -i else i):=by
 unfold be7 at h
 split at h
 ·cases h;exact⟨_,rfl,rfl⟩
 ·cases h
theorem aP0:BOk X (.builtin "abs") be7:=⟨_,ay4,λ c H0 H ρ σ ds d vs Q R r e q=>by
 obtain⟨i,rfl,rfl⟩:=az5 e;obtain⟨v,rfl,z⟩:=Reps.v1 r;unfold Rep at z;subst z;exact⟨i,rfl,q _ H0 H (Same.refl _) R (h_1 _ _)⟩⟩
theorem C_7 {K:Frag}{H:Hp}:∀ {ds:List D}{is:List Int}{vs:List V},t_4 ds=some is->Reps K H ds vs->vs=is.map V.int
 |[],_,_,e,r=>by
  have e':([]:List Int)=_:=qi e;unfold Reps at r;rw[r,<- e'];rfl
 |d::ds,_,_,e,r=>by
  cases d with
  |int i =>
   rw[F_5] at e;obtain⟨is,e1,e2⟩:=a_1 e;cases e2;unfold Reps at r;obtain⟨v,z,rfl,a,t⟩:=r;unfold Rep at a;rw[a,C_7 e1 t];rfl
  |_=>cases e
theorem intsAre_of:∀ {is:List Int}{z:List Value},Vals (is.map V.int) z->IntsAre z is:=by
 intro is
 induction is with
 |nil=>intro z h;cases h;exact .nil
 |cons b r O =>
  intro z h;cases h with
  |cons a t=>obtain⟨tk,rfl⟩:=(show ∃ t,_=Value.int b t from a);exact .cons b tk (O t)
theorem R_0:∀ (r:List Int) (m:Int),(H_6 m r=m\/H_6 m r∈r)/\H_6 m r<=m/\∀ a∈r,H_6 m r<=a
 |[],m=>⟨.inl rfl,Int.le_refl _,λ a h=>by cases h⟩
 |x::r,m=>by
  obtain⟨h1,h2,z⟩:=R_0 r (if x<m then x else m);rw[show H_6 m (x::r)=H_6 (if x<m then x else m) r from rfl]
  by_cases h:x<m
  ·rw[if_pos h] at h1 h2 z ⊢
   refine⟨.inr ?_,by omega,λ a ha=>?_⟩
   ·rcases h1 with e | e
    ·rw[e];exact qg
    ·exact qh _ e
   ·rcases qt ha with rfl | ha
    ·exact h2
    ·exact z a ha
  ·rw[if_neg h] at h1 h2 z ⊢
   refine⟨?_,h2,λ a ha=>?_⟩
   ·rcases h1 with e | e
    ·exact .inl e
    ·exact .inr (qh _ e)
   ·rcases qt ha with rfl | ha
    ·omega
    ·exact z a ha
theorem R_1:∀ (r:List Int) (m:Int),(H_7 m r=m\/H_7 m r∈r)/\m<=H_7 m r/\∀ a∈r,a<=H_7 m r
 |[],m=>⟨.inl rfl,Int.le_refl _,λ a h=>by cases h⟩
 |x::r,m=>by
  obtain⟨h1,h2,z⟩:=R_1 r (if m<x then x else m);rw[show H_7 m (x::r)=H_7 (if m<x then x else m) r from rfl]
  by_cases h:m<x
  ·rw[if_pos h] at h1 h2 z ⊢
   refine⟨.inr ?_,by omega,λ a ha=>?_⟩
   ·rcases h1 with e | e
    ·rw[e];exact qg
    ·exact qh _ e
   ·rcases qt ha with rfl | ha
    ·exact h2
    ·exact z a ha
  ·rw[if_neg h] at h1 h2 z ⊢
   refine⟨?_,h2,λ a ha=>?_⟩
   ·rcases h1 with e | e
    ·exact .inl e
    ·exact .inr (qh _ e)
   ·rcases qt ha with rfl | ha
    ·omega
    ·exact z a ha
theorem ak2 {i M:Int}{r:List Int} (h:M∈i::r) (h':∀ a∈i::r,M<=a):M=H_6 i r:=by
 obtain⟨h1,h2,z⟩:=R_0 r i
 have O:H_6 i r<=M:=by
  rcases qt h with rfl | h
  ·exact h2
  ·exact z _ h
 have S:M<=H_6 i r:=by
  rcases h1 with e | e
  ·rw[e];exact h' _ qg
  ·exact h' _ (qh _ e)
 omega
theorem ak4 {i M:Int}{r:List Int} (h:M∈i::r) (h':∀ a∈i::r,a<=M):M=H_7 i r:=by
 obtain⟨h1,h2,z⟩:=R_1 r i
 have O:M<=H_7 i r:=by
  rcases qt h with rfl | h
  ·exact h2
  ·exact z _ h
 have S:H_7 i r<=M:=by
  rcases h1 with e | e
  ·rw[e];exact h' _ qg
  ·exact h' _ (qh _ e)
 omega
theorem ao9 (hc:X.calm=true):CallR X (.builtin "min") (λ xs H Q=>∃ (p:Addr) (i:Int) (r:List Int),xs=[.ref p] ∧ SqL X.K H p ((i::r).map V.int) ∧ Q (.int (H_6 i r)) H):=by
 intro pins s σ H xs us Q I r h;obtain⟨l,i,is,rfl,hl,q⟩:=h;obtain⟨u,rfl,ru⟩:=y_7 r;cases ru;obtain⟨aa,rv,pl,hz⟩:=I.list hl;have hi:=intsAre_of rv;have S:=pl.isList;obtain⟨ys,e⟩:=hi.allInts.items;have z:i::is=ys.toList.map (·.1):=by rw[<- hi.numsOf,<- nums_intItems,<- e]
 have O:0<ys.size:=by
  have Y:0<(i::is).length:=Nat.succ_pos _;rw[z,List.length_map,Array.length_toList] at Y;exact Y
 rw[e] at S;refine min_intList (I.ok.hd hc) S O λ v h' tk hv hk=>?_
 obtain⟨t,rfl⟩:=intItems_at hv;obtain⟨h1,h2⟩:=argBest_lt (numAt ys) (ys.size-1);refine⟨_,H,I.kept hk,?_,q⟩
 have:numAt ys (argBest (λ i j=>decide (numAt ys i<numAt ys j)) (ys.size-1))=H_6 i is:=ak2 (by rw[z,numAt_eq];exact getD_mem (by rw[List.length_map,Array.length_toList];omega)) λ a ha=>by
  rw[z] at ha;obtain⟨j,Z,rfl⟩:=mem_getD ha;rw[List.length_map,Array.length_toList] at Z;rw[<- numAt_eq];exact h2 j (by omega)
 rw[this];exact⟨_,rfl⟩
theorem ap1 (hc:X.calm=true):CallR X (.builtin "max") (λ xs H Q=>∃ (p:Addr) (i:Int) (r:List Int),xs=[.ref p] ∧ SqL X.K H p ((i::r).map V.int) ∧ Q (.int (H_7 i r)) H):=by
 intro pins s σ H xs us Q I r h;obtain⟨l,i,is,rfl,hl,q⟩:=h;obtain⟨u,rfl,ru⟩:=y_7 r;cases ru;obtain⟨aa,rv,pl,hz⟩:=I.list hl;have hi:=intsAre_of rv;have S:=pl.isList;obtain⟨ys,e⟩:=hi.allInts.items;have z:i::is=ys.toList.map (·.1):=by rw[<- hi.numsOf,<- nums_intItems,<- e]
 have O:0<ys.size:=by
  have Y:0<(i::is).length:=Nat.succ_pos _;rw[z,List.length_map,Array.length_toList] at Y;exact Y
 rw[e] at S;refine max_intList (I.ok.hd hc) S O λ v h' tk hv hk=>?_
 obtain⟨t,rfl⟩:=intItems_at hv;obtain⟨h1,h2⟩:=argBest_gt (numAt ys) (ys.size-1);refine⟨_,H,I.kept hk,?_,q⟩
 have:numAt ys (argBest (λ i j=>decide (numAt ys i > numAt ys j)) (ys.size-1))=H_7 i is:=ak4 (by rw[z,numAt_eq];exact getD_mem (by rw[List.length_map,Array.length_toList];omega)) λ a ha=>by
  rw[z] at ha;obtain⟨j,Z,rfl⟩:=mem_getD ha;rw[List.length_map,Array.length_toList] at Z;rw[<- numAt_eq];exact h2 j (by omega)
 rw[this];exact⟨_,rfl⟩
theorem CallR.or {X:Cx}{f:Value}{r O:List V->Hp->VK->Prop} (h:CallR X f r) (h':CallR X f O):CallR X f (λ xs H Q=>r xs H Q\/O xs H Q) :=
 λ pins s σ H xs S Q I v z=>z.elim (λ a=>h pins s σ H xs S Q I v a) (λ a=>h' pins s σ H xs S Q I v a)
theorem T_2 {f:Int->List Int->Int}{is:List Int}{d:D} (h:aq2 f is=some d):∃ i r,is=i::r/\d=.int (f i r):=by
 cases is with
 |nil=>cases h
 |cons i r=>cases h;exact⟨i,r,rfl,rfl⟩
theorem N_4 (O:X.calm=true):BOk X (.builtin "max") az4:=⟨_,(ap2 O).or (ap1 O),λ c H0 H ρ σ ds d vs Q R r e q=>by
 unfold az4 at e
 split at e
 ·cases e
  obtain⟨v,v',rfl,Y,z⟩:=Reps.v2 r;unfold Rep at Y z;subst Y z;exact .inl ⟨_,_,rfl,q _ H0 H (Same.refl _) R (h_1 _ _)⟩
 ·obtain⟨is,e1,e2⟩:=a_1 e
  obtain⟨i,is,rfl,rfl⟩:=T_2 e2;obtain⟨v,rfl,S⟩:=Reps.v1 r;unfold Rep at S;obtain⟨p,Z,rfl,s,t⟩:=S;have:=C_7 e1 t;subst this;exact .inr ⟨p,i,is,rfl,Same.seq R.same s,q _ H0 H (Same.refl _) R (h_1 _ _)⟩
 ·cases e⟩
theorem ap6 (O:X.calm=true):BOk X (.builtin "min") aP4:=⟨_,(ap0 O).or (ao9 O),λ c H0 H ρ σ ds d vs Q R r e q=>by
 unfold aP4 at e
 split at e
 ·cases e
  obtain⟨v,v',rfl,Y,z⟩:=Reps.v2 r;unfold Rep at Y z;subst Y z;exact .inl ⟨_,_,rfl,q _ H0 H (Same.refl _) R (h_1 _ _)⟩
 ·obtain⟨is,e1,e2⟩:=a_1 e
  obtain⟨i,is,rfl,rfl⟩:=T_2 e2;obtain⟨v,rfl,S⟩:=Reps.v1 r;unfold Rep at S;obtain⟨p,Z,rfl,s,t⟩:=S;have:=C_7 e1 t;subst this;exact .inr ⟨p,i,is,rfl,Same.seq R.same s,q _ H0 H (Same.refl _) R (h_1 _ _)⟩
 ·cases e⟩
theorem S_7 {K:Frag}{H:Hp}:∀ {ds:List D}{bs:List Bool}{vs:List V},ap9 ds=some bs->Reps K H ds vs->vs=bs.map V.bl
 |[],_,_,e,r=>by
  have e':([]:List Bool)=_:=qi e;unfold Reps at r;rw[r,<- e'];rfl
 |d::ds,_,_,e,r=>by
  cases d with
  |bl b =>
   rw[af6] at e;obtain⟨bs,e1,e2⟩:=a_1 e;cases e2;unfold Reps at r;obtain⟨v,z,rfl,a,t⟩:=r;unfold Rep at a;rw[a,S_7 e1 t];rfl
  |_=>cases e
theorem W_7:∀ {bs:List Bool}{z:List Value},Vals (bs.map V.bl) z->LSm.BoolsAre z bs:=by
 intro bs
 induction bs with
 |nil=>intro z h;cases h;exact .nil
 |cons b r O =>
  intro z h;cases h with
  |cons a t=>cases (show _=Value.bool b from a);exact .cons b (O t)
theorem ap3 (Y:X.calm=true):CallR X (.builtin "all") (λ xs H Q=>∃ (p:Addr) (bs:List Bool),xs=[.ref p] ∧ SqL X.K H p (bs.map V.bl) ∧ Q (.bl (bs.all id)) H):=by
 intro pins s σ H xs us Q I r h;obtain⟨l,bs,rfl,hl,q⟩:=h;obtain⟨u,rfl,ru⟩:=y_7 r;cases ru;obtain⟨z,rv,pl,hz⟩:=I.list hl;have hb:=W_7 rv;have hl:=pl.isList;have O:l<s.heap.objs.size:=by obtain⟨_,e,_⟩:=hl;exact qm e
 refine call_all_walk (wpAny_pyIter_list hl ?_);refine⟨s.heap.objs.size,[s.heap.objs.size,l],[s.heap.objs.size],z.toArray.size,_,_,λ i=>(bs[i]?).getD true,rfl,Walks.list (A:=X.A.in1) (I.ok.hd Y) _ l (qr O) z.toArray,
  ⟨⟨_,qk _ rfl,rfl,rfl⟩,hl.push _⟩,λ i v s' Q' E' Z S=>?_,λ h' tk hk=>?_⟩
 ·obtain⟨b,e,rfl⟩:=hb.get i v (by simpa using Z)
  simp only[e,Option.getD_some] at S;exact wpAny_truthy_bool S
 ·have e:((List.range z.toArray.size).all λ i=>(bs[i]?).getD true)=bs.all id:=by
   rw[List.size_toArray,hb.length];exact LSm.range_all bs
  rw[e];exact⟨.bl _,H,I.kept (t':=tk) (LSm.kept_iter hk),rfl,q⟩
theorem aO9 (O:X.calm=true):BOk X (.builtin "all") bs1:=⟨_,ap3 O,λ c H0 H ρ σ ds d vs Q R r e q=>by
 unfold bs1 at e
 split at e
 ·obtain⟨bs,e1,e2⟩:=a_1 e
  cases e2;obtain⟨v,rfl,z⟩:=Reps.v1 r;unfold Rep at z;obtain⟨p,S,rfl,s,t⟩:=z;have:=S_7 e1 t;subst this;exact⟨p,bs,rfl,Same.seq R.same s,q _ H0 H (Same.refl _) R (u_8 _ _)⟩
 ·cases e⟩
noncomputable def tyN:Ty->String
 |.int=>"int" | .bool=>"bool" | .str=>"str" | .tuple=>"tuple" | .list=>"list"
noncomputable def tyV (d:D):Value:=match d with
 |.non=>.type "NoneType" | .bl _=>.type "bool" | .int _=>.type "int" | .str _=>.type "str" | .tup _=>.type "tuple" | .lst _=>.type "list" | .opq _ _=>.type "dict" | .dct _ _=>.type "dict"
theorem ba6 (K:Frag) (t:Ty) (d:D):PySem.W.kitOne K (tyV d) (.type (tyN t))=some (ar9 t d):=by
 cases t <;> cases d <;> rfl
theorem ay3 (t:Ty):CallR X (.builtin "isinstance") (λ xs H Q=>∃ d x,xs=[x,.ty (tyN t)] ∧ Rep X.K H d x ∧ Q (.bl (ar9 t d)) H):=by
 intro pins s σ H xs us Q I r h;obtain⟨d,x,rfl,O,q⟩:=h;obtain⟨u,w,rfl,S,Y⟩:=as8 r;cases (show w=Value.type _ from Y);have k:=ba6 X.K t d;have fin:∀ tk,EP X pins σ Q (.bool (ar9 t d)) {s with toks:=tk}:=λ tk=>⟨.bl _,H,I.tok tk,rfl,q⟩
 cases d with
 |non=>unfold Rep at O;subst O;cases (show u=Value.none from S);exact PySem.W.kia_one PySem.W.kitx_none I.kIn True.intro k (λ z=>nomatch z) fin
 |bl y=>unfold Rep at O;subst O;cases (show u=Value.bool y from S);exact PySem.W.kia_one PySem.W.kitx_bool I.kIn True.intro k (λ z=>nomatch z) fin
 |int i=>unfold Rep at O;subst O;obtain⟨t,z⟩:=(show ∃ t,u=Value.int i t from S);cases z;exact PySem.W.kia_one PySem.W.kitx_int I.kIn True.intro k (λ z=>nomatch z) fin
 |str y=>unfold Rep at O;subst O;obtain⟨t,z⟩:=(show ∃ t,u=Value.str y t from S);cases z;exact PySem.W.kia_one PySem.W.kitx_str I.kIn True.intro k (λ z=>nomatch z) fin
 |tup ds =>
  unfold Rep at O;obtain⟨a,vs,rfl,Z,_⟩:=O;cases (show u=Value.ref a from S);obtain⟨_,_,⟨o,h1,h2,_⟩,_⟩:=I.tuple Z;exact PySem.W.kia_one PySem.W.kitx_tuple I.kIn ⟨o,h1,h2⟩ k (λ z=>nomatch z) fin
 |dct ks ds =>
  unfold Rep at O;obtain⟨a,ob,us,rfl,ea,_⟩:=O;cases (show u=Value.ref a from S);obtain⟨_,_,_,vs,_,pp⟩:=(show ObjOk X.prog X.w H s.heap a (.frz ob (.dK _)) from I.hok a _ ea);obtain⟨o,es,ep,h1,h2,_⟩:=pp;exact PySem.W.kia_one PySem.W.kitx_dict I.kIn ⟨o,h1,h2.1⟩ k (λ z=>nomatch z) fin
 |opq ks ds =>
  unfold Rep at O;obtain⟨a,o,tab,rfl,ea,_⟩:=O;cases (show u=Value.ref a from S);obtain⟨⟨_,h1,h2⟩,_⟩:=(show ObjOk X.prog X.w H s.heap a (tdF a o tab) from I.hok a _ ea);exact PySem.W.kia_one PySem.W.kitx_dict I.kIn ⟨o,h1,h2.ex.1⟩ k (λ z=>nomatch z) fin
 |lst ds =>
  unfold Rep at O;obtain⟨a,vs,rfl,Z,_⟩:=O;cases (show u=Value.ref a from S);obtain⟨_,_,⟨o,n,h1,h2,_⟩,_⟩:=I.list Z;exact PySem.W.kia_one PySem.W.kitx_list I.kIn ⟨o,h1,h2⟩ k (λ z=>nomatch z) fin
theorem xty {t:Ty}{T:Str}{p z pos:Pos}{e:Expr}{F:FE} (hi:X.mg "isinstance"=none) (hm:X.mg T=none) (hT:bootBuiltins T=some (.type (tyN t))) (ha:XE X e F) (hg:Gl X "isinstance":=by rfl) (Y:Gl X T:=by rfl)
  (hn:T≠"__name__":=by decide) (hd:(T==("__debug__":Str))=false:=by decide) (hs:starEach [e,.Name T z] X.env=(false,eval e X.env)::starEach [.Name T z] X.env:=by rfl) (aa:starEach [.Name T z] X.env=[(false,eval (.Name T z) X.env)]:=by rfl)
  (ab:(backTo pos (starEach [.Name T z] X.env)).any (·.1)=false:=by rfl):XE X (.Call (.Name "isinstance" p) [e,.Name T z] [] pos) (eTy t F) :=
 PE.wk (Z_9 (ay3 t) hg hi PyProof.Rows.boot_isinstance (k_3 ha (k_3 (aI2 (v:=.ty (tyN t)) Y hm hT rfl hn hd) t_0 aa) hs) (by decide) (by decide) hs ab) λ σ H Q O=>by
  obtain⟨c,H0,ρ,d,S,R,f,q⟩:=O;unfold eTy at f;obtain⟨⟨x,Z⟩,h1,f⟩:=a_1 f;have f':some (D.bl (ar9 t x),Z)=some (d,S):=f;cases f';exact⟨c,H0,ρ,x,_,R,h1,λ v H1 Hh s1 R1 r1=>⟨x,v,rfl,Rep.mono R1.same x r1,q _ H1 Hh s1 R1 (u_8 _ _)⟩⟩
noncomputable def spP (K:Frag) (g:List D->Option D):Sp:=λ vs H Q _=>∃ z ds d,Same z H/\Reps K z ds vs/\g ds=some d/\∀ v Hi' H',Step z H Hi' H'->Rep K Hi' d v->Q v H'
structure DefOk (P:Program) (w:World) (K:Frag) (mg:Str->Option Value) (base:Heap) (k:Nat) (x:Str) (g:List D->Option D):Prop where
 ex:∃ f fd ps,FnOk P w K mg base CX0 k f fd ps (spP K g)/\Binds K fd ps []/\keepIn K (.ref f)=true/\mg x=some (.ref f)
theorem xF {k:Nat}{x:Str}{g:List D → Option D}{A:FA}{p pos:Pos}{e:Expr}{es:List Expr} (G:DefOk X.prog X.w X.K X.mg X.base k x g) (hr:Room k X.A) (ha:XA X (e::es) A) (hg:Gl X x:=by rfl) (Y:(x==("__debug__":Str))=false:=by decide)
  (he:starEach (e::es) X.env=(false,eval e X.env)::starEach es X.env:=by rfl) (aa:(backTo pos (starEach es X.env)).any (·.1)=false:=by rfl):XE X (.Call (.Name x p) (e::es) [] pos) (eF g A):=by
 obtain⟨f,fd,ps,F,hb,hk,hm⟩:=G.ex;refine PE.wk (K_8 F hr hg hm hk hb .nil av2 ha Y he aa) λ σ H Q O=>?_
 obtain⟨c,H0,ρ,d,Z,R,z,q⟩:=O;unfold eF at z;obtain⟨⟨ds,ab⟩,h1,z⟩:=a_1 z;obtain⟨d',h2,z⟩:=a_1 z;have z':some (d',ab)=some (d,Z):=z;cases z';exact⟨c,H0,ρ,ds,_,R,h1,λ vs H1 Hh s1 R1 r1=>⟨H1,ds,d,R1.same,by rw[List.append_nil];exact r1,h2,λ v Hi' H' S rv=>q v Hi' H' (s1.trans S.s0) (R1.after S) rv⟩⟩
end
noncomputable def y_0 (K:Frag) (J:It) (H1:Hp) (xs:List D):Prop:=∀ (H0 H:Hp) (i:Nat),Same H1 H0->Same H0 H ->
 (∀ d,xs[i]?=some d->J.go i H/\∀ x H',J.yld i H x H'->H'=H/\Rep K H0 d x)/\(xs.length<=i->J.stop i H)
theorem U_0 {K:Frag}{H1:Hp}{a:Addr}{vs:List V}{xs:List D} (rd:SqL K H1 a vs) (r:Reps K H1 xs vs):y_0 K (Itl K a) H1 xs:=λ H0 H i s s'=>by
 have z:SqL K H a vs:=Same.seq (s.trans s') rd;refine⟨λ d e=>?_,λ h=>⟨vs,z,by rw[<- r.length];exact h⟩⟩
 obtain⟨v,e1,e2⟩:=r.get e;refine⟨⟨vs,v,z,e1⟩,λ x H' ⟨h1,h2⟩=>⟨h1,?_⟩⟩
 have:=h2 vs z;rw[e1] at this;cases this;exact Rep.mono s d e2
theorem ad2 {K:Frag}{H1:Hp}{a:Addr}{vs:List V}{xs:List D} (rd:SqT K H1 a vs) (r:Reps K H1 xs vs):y_0 K (Itt K a) H1 xs:=λ H0 H i s s'=>by
 have z:SqT K H a vs:=Same.seqT (s.trans s') rd;refine⟨λ d e=>?_,λ h=>⟨vs,z,by rw[<- r.length];exact h⟩⟩
 obtain⟨v,e1,e2⟩:=r.get e;refine⟨⟨vs,v,z,e1⟩,λ x H' ⟨h1,h2⟩=>⟨h1,?_⟩⟩
 have:=h2 vs z;rw[e1] at this;cases this;exact Rep.mono s d e2
theorem v_5:∀ (n:Nat) (lo:Int),(o_9 lo n).length=n
 |0,_=>rfl
 |n+1,lo=>by show (o_9 (lo+1) n).length+1=n+1;rw[v_5 n]
theorem Z_0:∀ (n:Nat) (lo:Int) (i:Nat) (d:D),(o_9 lo n)[i]?=some d->d=.int (lo+i)/\i<n
 |0,lo,i,d,h=>by simp[o_9] at h
 |n+1,lo,0,d,h=>by
  simp[o_9] at h;exact⟨by rw[<- h];simp,by omega⟩
 |n+1,lo,i+1,d,h=>by
  have h':(o_9 (lo+1) n)[i]?=some d:=by simpa [o_9] using h
  obtain⟨a,b⟩:=Z_0 n (lo+1) i d h';refine⟨by rw[a];congr 1;push_cast;omega,by omega⟩
theorem y_5 {K:Frag}{H1:Hp} (lo:Int) (n:Nat):y_0 K (Itr lo n) H1 (o_9 lo n):=λ H0 H i s s'=>by
 refine⟨λ d e=>?_,λ h=>by rw[v_5] at h;exact h⟩
 obtain⟨rfl,hi⟩:=Z_0 n lo i d e;refine⟨hi,λ x H' ⟨h1,h2⟩=>⟨h1,?_⟩⟩
 unfold Rep;exact h2
noncomputable def Its (z:Str):It:=⟨λ i _=>i<z.cps.size,λ i H x H'=>H'=H/\∃ c,z.cps[i]?=some c/\x=.str (chS c),λ i _=>z.cps.size<=i⟩
theorem Y_2 {P:Program}{w:World}{K:Frag}{tg:Expr}{n:String} (z:Str) (t:Tok) (it:Addr) (hn:["enumerate","zip","dict_itemiterator","dict_reverseitemiterator","odict_iterator","itertools.zip_longest","itertools.pairwise"].contains n=false)
  (W:∀ A:Around,A.handled=none->Walks P w A it [it] [it] z.cps.size (SignAt z) (λ i h=>h.IsStrIter it n z t i)) (fin:∀ (A:Around) (s:Shared) (i:Nat) (Q:Option Value->Shared->Prop) (E:Value->Shared->Prop),A.handled=none->s.heap.IsStrIter it n z t i->z.cps[i]?=none->(∀ h',Heap.ExtBut it s.heap h'->Q none {s with heap:=h'})->wpAny (model P w) A (pyNext (.ref it)) Q E s)
  (aa:∀ (A:Around) (i:Nat) (s:Shared) (Q:Value->Shared->Prop) (E:Value->Shared->Prop),s.heap.IsStrIter it n z t i->Q (.ref it) s->wpAny (model P w) A (pyIter (.ref it)) Q E s) :
  Turn P w K tg (Its z) [it] it (λ i h=>h.IsStrIter it n z t i) where
 mem:=by simp
 obj:=λ i h st b hb=>by
  have e:b=it:=by simpa using hb
  subst e;obtain⟨o,e,c,d⟩:=st;exact⟨o,e,λ v z=>by rw[d] at z;cases z⟩
 keep:=λ i h h' st k=>let ⟨o,e,r⟩:=st;⟨o,k it (by simp) o e,r⟩
 item:=by
  intro X Z hw hK Y i pins s σ H E I hf st O;subst Z hw hK;obtain⟨f0,f1,f2,f3,f4,f5⟩:=hf it (by simp)
  refine (W X.A (I.ok.hd Y)).item i s _ _ O st λ v h' tk hv S kk=>?_
  obtain⟨ch,u,e1,rfl⟩:=hv;have I1:Inv X pins σ H {s with heap:=h',toks:=tk}:=I.turned (λ b o hb e=>kk b o (by simpa using hb) e) f0 f1 f3 f4 f5
  obtain⟨o,e,c,d⟩:=id S;exact⟨_,rfl,an0 (s:={s with heap:=h',toks:=tk}) e c d hn ⟨.str (chS ch),H,I1,⟨u,rfl⟩,⟨rfl,ch,e1,rfl⟩,S,λ b hb=>(hf b hb).1⟩⟩
 done:=by
  intro X Z hw hK Y i pins s σ H E I hf st O;subst Z hw hK;obtain⟨f0,f1,f2,f3,f4,f5⟩:=hf it (by simp)
  have O:z.cps.size<=i:=O;exact fin X.A s i _ _ (I.ok.hd Y) st (by simp[O]) λ h' eb=>⟨rfl,I.turned (t':=s.toks) (λ b o hb e=>eb b o hb e) f0 f1 f3 f4 f5⟩
 self:=λ A i s Q E st h=>aa A i s Q E st h
noncomputable def bw5 (t:TE):TI:=λ σ H R=>t σ H λ x H1=>∃ z,x=.str z/\R (Its z) H1
noncomputable def iSq (K:Frag) (t:TE):TI:=λ σ H R=>aw8 K t σ H R\/bw4 K t σ H R\/bw5 t σ H R
theorem aW4 {X:Cx}{tg l:Expr}{tl:TE} (hl:PE X l tl):PI X tg l (bw5 tl):=by
 intro pins s σ H R I h;refine thn (hl pins s σ H _ I h) λ v O Y=>?_
 obtain⟨x,H1,Z,r1,q1⟩:=Y;obtain⟨z,e,q⟩:=q1;subst e;obtain⟨t,rfl⟩:=r1
 have fp:∀ (o:Obj),∀ b∈[O.heap.objs.size],ar7 X pins H1 b:=λ o b hb=>by
  have e:b=O.heap.objs.size:=by simpa using hb
  subst e;exact Z.fpOk (qj _) (Z.hok.fresh (qj _))
 cases ha:z.cps.all (·<128)
 ·refine wpAny_pyIter_wide ha ?_
  exact⟨O.heap.objs.size,[O.heap.objs.size],_,_,H1,rfl,Z.kept (t':=O.toks) λ b o e=>qd _ e,Y_2 (n:="str_iterator") z t _ (by decide) (λ A S=>Walks.strWide S _ z t) (λ A s i Q E S st hx hQ=>wpAny_pyNext_wide_end S st hx hQ) (λ _ _ _ _ _ st h=>wpAny_pyIter_striter_wide st h),⟨_,qk _ rfl,rfl,rfl⟩,fp {cls:=.none,data:=.fields #[]},q⟩
 ·refine wpAny_pyIter_ascii ha ?_
  exact⟨O.heap.objs.size,[O.heap.objs.size],_,_,H1,rfl,Z.kept (t':=O.toks) λ b o e=>qd _ e,Y_2 (n:="str_ascii_iterator") z t _ (by decide) (λ A S=>Walks.strAscii S _ z t) (λ A s i Q E S st hx hQ=>wpAny_pyNext_ascii_end S st hx hQ) (λ _ _ _ _ _ st h=>wpAny_pyIter_striter_ascii st h),⟨_,qk _ rfl,rfl,rfl⟩,fp {cls:=.none,data:=.fields #[]},q⟩
theorem ad3 {K:Frag}{H1:Hp} (z:Str):y_0 K (Its z) H1 (chs z):=λ H0 H i s s'=>by
 have hl:(chs z).length=z.cps.size:=by unfold chs;rw[List.length_map,Array.length_toList]
 refine⟨λ d e=>?_,λ h=>by rw[hl] at h;exact h⟩
 have hi:i<z.cps.size:=by rw[<- hl];exact (List.getElem?_eq_some_iff.mp e).1
 refine⟨hi,λ x H' ⟨h1,ch,h2,O⟩=>⟨h1,?_⟩⟩
 unfold chs at e;rw[List.getElem?_map,Array.getElem?_toList,h2] at e;have e':D.str (chS ch)=d:=qi e;subst e';unfold Rep;exact O
theorem aH7 {X:Cx}{tg l:Expr}{tl:TE} (hl:PE X l tl):PI X tg l (iSq X.K tl):=λ pins s σ H R I h=>by
 rcases h with h | h | h
 ·exact U_8 hl pins s σ H R I h
 ·exact aW2 hl pins s σ H R I h
 ·exact aW4 hl pins s σ H R I h
theorem s_8 {K:Frag}{F:FE}{σ:L2.St}{H:Hp}{R:It->Hp->Prop}{c:FC}{H0:Hp}{ρ O:En}{d:D}{xs:List D} (rs:RS K c H0 H ρ σ) (f:F ρ=some (d,O)) (hx:items d=some xs)
  (h:∀ J H1 S,Same H0 H1->RS K c H1 S O σ->y_0 K J H1 xs->R J S):iSq K (tE K F) σ H R:=by
 cases d with
 |lst ds =>
  have e:ds=xs:=qi hx;subst e;refine .inl ⟨c,H0,ρ,_,O,rs,f,λ v H1 S s1 Z Y=>?_⟩
  unfold Rep at Y;obtain⟨a,vs,rfl,rd,r⟩:=Y;exact⟨a,rfl,⟨vs,Same.seq Z.same rd⟩,h _ H1 S s1 Z (U_0 rd r)⟩
 |tup ds =>
  have e:ds=xs:=qi hx;subst e;refine .inr (.inl ⟨c,H0,ρ,_,O,rs,f,λ v H1 S s1 Z Y=>?_⟩)
  unfold Rep at Y;obtain⟨a,vs,rfl,rd,r⟩:=Y;exact⟨a,rfl,⟨vs,Same.seqT Z.same rd⟩,h _ H1 S s1 Z (ad2 rd r)⟩
 |str z =>
  have e:chs z=xs:=qi hx;subst e;refine .inr (.inr ⟨c,H0,ρ,_,O,rs,f,λ v H1 S s1 Z Y=>?_⟩)
  unfold Rep at Y;exact⟨z,Y,h _ H1 S s1 Z (ad3 z)⟩
 |_=>cases hx
theorem aa8 {ρ:En}:∀ {js:List Nat}{fr:En},aa9 ρ js=some fr->fr.length=js.length/\∀ (k:Nat) (s:Sl),fr[k]?=some s->∃ j d,js[k]?=some j/\ρ[j]?=some (.im d)/\s=.im d
 |[],_,h=>by
  have h':([]:En)=_:=qi h;subst h';exact⟨rfl,λ k s e=>by simp at e⟩
 |j::js,_,h=>by
  rw[am4] at h;obtain⟨s,h1,h⟩:=a_1 h;obtain⟨r,h2,h⟩:=a_1 h;cases h;obtain⟨a,b⟩:=aa8 h2;refine⟨by rw[List.length_cons,List.length_cons,a],λ k s' e=>?_⟩
  cases k with
  |zero =>
   simp at e;subst e;cases z:ρ[j]? with
   |none=>rw[z] at h1;cases h1
   |some O =>
    rw[z] at h1;cases O with
    |im d=>exact⟨j,d,rfl,z,(qi h1).symm⟩
    |_=>cases h1
  |succ k =>
   obtain⟨S,d,Z,x2,Y⟩:=b k s' (by simpa using e)
   exact⟨S,d,by simpa using Z,x2,Y⟩
theorem RS.block {K:Frag}{c:FC}{H0 H:Hp}{ρ:En}{σ:L2.St}{js:List Nat}{fr:En}{d:D}{x:V} (R:RS K c H0 H ρ σ) (hf:aa9 ρ js=some fr) (S:Rep K H0 d x):RS K ⟨H0,H,[]⟩ H0 H (.im d::fr) (some x::frv σ js):=by
 obtain⟨l,g⟩:=aa8 hf;refine⟨R.same,Same.refl _,λ b o e=>.inl e,λ b o e _=>e,λ a h=>(by cases h),?_,λ i d' e=>?_,λ i b o e=>?_,λ i j b b' o o' a e=>?_⟩
 ·rw[List.length_cons,List.length_cons,l,frv,List.length_map]
 ·cases i with
  |zero=>simp at e;subst e;exact⟨x,rfl,S⟩
  |succ k =>
   obtain⟨j,O,x1,x2,z⟩:=g k _ (by simpa using e)
   cases z;obtain⟨v,Z,Y⟩:=R.im j d' x2;refine⟨v,?_,Y⟩;show (frv σ js)[k]?=some (some v);unfold frv;rw[List.getElem?_map,x1];show some (σ[j]?).join=some (some v);rw[Z];rfl
 ·cases i with
  |zero=>simp at e
  |succ k =>
   obtain⟨j,O,_,_,z⟩:=g k _ (by simpa using e)
   cases z
 ·cases i with
  |zero=>simp at e
  |succ k =>
   obtain⟨j,O,_,_,z⟩:=g k _ (by simpa using e)
   cases z
theorem RS.step {K:Frag}{z O H0 H:Hp}{ρ:En}{σ:L2.St} (R:RS K ⟨z,O,[]⟩ H0 H ρ σ):Step z O H0 H :=
 ⟨R.init,λ b o e=>R.keep b o e (by simp),R.same,R.fresh⟩
theorem F_8 {α:Type}{xs:List α}{i:Nat}{d:α} (h:xs[i]?=some d):xs.drop i=d::xs.drop (i+1):=by
 obtain⟨hi,e⟩:=List.getElem?_eq_some_iff.mp h;rw[<- e];exact List.drop_eq_getElem_cons hi
theorem aK0 {K:Frag}{c:FC}{H1 Hh:Hp}{ρ:En}{σ:L2.St}{js:List Nat}{fr:En}{T:FT}{F:FE}{xs out:List D}{J:It}{Qf:List V->Hp->Prop} (R:RS K c H1 Hh ρ σ) (hf:aa9 ρ js=some fr) (hc:cGo T F fr xs=some out) (hz:xs.length<=sizeLine) (hy:y_0 K J H1 xs)
  (q:∀ ys H0 H,Same H1 H0->RS K c H0 H ρ σ->Reps K H0 out ys->Qf ys H):LcW js (tTt K T) (tE K F) σ Qf J Hh:=by
 refine⟨λ i m ys H=>m=xs.length-i/\i<=xs.length/\∃ H0,Same H1 H0/\RS K c H0 H ρ σ/\∃ Y rest,Reps K H0 Y ys/\Y.length<=i/\cGo T F fr (xs.drop i)=some rest/\Y++rest=out,⟨xs.length,by simp,Nat.zero_le _,H1,Same.refl _,R,[],out,Reps.nil_,Nat.zero_le _,by simpa using hc,rfl⟩,?_⟩
 rintro i m ys H ⟨rfl,hi,H0,s0,R0,Y,rest,rp,lp,O,e⟩;obtain⟨y1,y2⟩:=hy H0 H i s0 R0.same
 by_cases Z:i<xs.length
 ·have hd:xs[i]?=some xs[i]:=by simp[Z]
  obtain⟨go,yl⟩:=y1 _ hd;refine .inr ⟨go,by rw[<- rp.length];omega,λ x H' hx=>?_⟩
  obtain⟨rfl,rx⟩:=yl x H' hx;rw[F_8 hd,ay5] at O;obtain⟨⟨b,ab⟩,g1,O⟩:=a_1 O;dsimp only at O;refine⟨⟨H0,H',[]⟩,H0,_,b,ab,R0.block hf rx,g1,λ H2 Hh2 s2 R2=>?_⟩
  cases b with
  |false =>
   rw[if_neg Bool.false_ne_true] at O ⊢;have S:=R2.step;exact⟨xs.length-(i+1),by omega,rfl,Z,H2,s0.trans S.s0,R0.after S,Y,rest,Reps.mono S.s0 _ rp,by omega,O,e⟩
  |true =>
   rw[if_pos rfl] at O ⊢;obtain⟨⟨z,ac⟩,g2,O⟩:=a_1 O;obtain⟨t,g3,O⟩:=a_1 O;dsimp only at O;have aa:some (z::t)=some rest:=O;cases aa;refine⟨⟨H0,H',[]⟩,H2,ab,z,ac,R2,g2,λ v H3 Hh3 s3 R3 r3=>?_⟩
   have S:=R3.step;refine⟨xs.length-(i+1),by omega,rfl,Z,H3,s0.trans S.s0,R0.after S,Y++[z],t,(Reps.mono S.s0 _ rp).app (Reps.one r3),?_,g3,?_⟩
   ·rw[List.length_append,List.length_singleton];omega
   ·rw[List.append_assoc];exact e
 ·have ei:i=xs.length:=by omega
  have hn:xs.drop i=[]:=List.drop_eq_nil_of_le (by omega)
  rw[hn,aP1] at O;have aa:([]:List D)=rest:=qi O;subst aa;rw[List.append_nil] at e;subst e;exact .inl ⟨y2 (by omega),by rw[<- rp.length];omega,q ys H0 H s0 R0 rp⟩
noncomputable def XTs (X:Cx) (ifs:List Expr) (T:FT):Prop:=PTs X ifs (tTt X.K T)
theorem PTs.wk {X:Cx}{e:List Expr}{t t':TT} (h:PTs X e t) (w:∀ σ H Q,t' σ H Q->t σ H Q):PTs X e t':=λ pins s σ H Q I q=>h pins s σ H Q I (w σ H Q q)
theorem y_6 {X:Cx}:XTs X [] Fx.tYes:=PTs.wk aH3 λ σ H Q z=>by
 obtain⟨c,H0,ρ,b,O,R,f,q⟩:=z;have S:some (true,ρ)=some (b,O):=f;cases S;exact q H0 H (Same.refl _) R
theorem D_0 {X:Cx}{c:Expr}{T:FT} (h:XT X c T):XTs X [c] T:=aH2 h
section
variable {X:Cx}{scope sc:Scope}{x:Str}{frees:List Str}{js:List Nat}{px pos:Pos}{elt iter:Expr}{ifs:List Expr}{I F:FE}{T:FT}
theorem ao5 {ρ O:En}{d:D} (h:eLC js I T F ρ=some (d,O)):∃ z xs fr ys,I ρ=some (z,O)/\items z=some xs/\aa9 O js=some fr/\cGo T F fr xs=some ys/\xs.length<=sizeLine/\d=.lst ys:=by
 unfold eLC at h;obtain⟨⟨z,Z⟩,h1,h⟩:=a_1 h;obtain⟨xs,h2,h⟩:=a_1 h;obtain⟨fr,S,h⟩:=a_1 h;obtain⟨ys,Y,h⟩:=a_1 h;dsimp only at h2 S Y h
 split at h
 ·rename_i hz
  cases h;exact⟨z,xs,fr,ys,h1,h2,S,Y,hz,rfl⟩
 ·cases h
theorem xlc (hc:X.calm=true) (Z:X.env.scope=sc) (B:ScB X.N sc scope x frees js) (hi:XE X iter I) (ht:∀ s H C Y,XTs (cxB X (x::frees) scope s H C Y) ifs T) (he:∀ s H C Y,XE (cxB X (x::frees) scope s H C Y) elt F)
  (hs:∀ v,foldedSetIterable iter X.env v=pure v:=by intro _;rfl):XE X (.ListComp elt [⟨.Name x px,iter,ifs,0⟩] scope pos) (eLC js I T F) :=
 PE.wk (aX5 (tt:=tTt X.K T) (te:=tE X.K F) hc Z B (aH7 hi) ht he hs) λ σ H Q O=>by
  obtain⟨c,H0,ρ,d,aa,R,f,q⟩:=O;obtain⟨z,xs,fr,ys,h1,h2,h3,h4,hz,rfl⟩:=ao5 f;refine s_8 R h1 h2 λ J H1 Hh s1 R1 hy=>?_
  refine aK0 R1 h3 h4 hz hy λ vs H2 Hh2 s2 R2 r2=>λ p hp=>?_
  have S:=Step.alloc (o:=.lst vs) R2.same hp;refine q _ _ _ (s1.trans (s2.trans S.s0)) (R2.after S) ?_;unfold Rep;exact⟨p,vs,rfl,.inl (.inl a_7),Reps.mono S.s0 _ r2⟩
end
noncomputable def Post (K:Frag) (c:FC) (S:Ends) (H0:Hp):Res->Prop
 |.nx O=>∀ z H0' H',Same H0 H0'->RS K c H0' H' O z->S.nx z H'
 |.rt d O=>∀ v z H0' H',Same H0 H0'->RS K c H0' H' O z->Rep K H0' d v->S.rt v H'
 |.bk O=>∀ z H0' H',Same H0 H0'->RS K c H0' H' O z->S.bk z H'
 |.ct O=>∀ z H0' H',Same H0 H0'->RS K c H0' H' O z->S.ct z H'
noncomputable def tS (K:Frag) (F:FS):TS:=λ z σ H=>∃ c H0 ρ r,RS K c H0 H ρ σ/\F ρ=some r/\Post K c z H0 r
noncomputable def XS (X:Cx) (st:Stmt) (F:FS):Prop:=PS X st (tS X.K F)
noncomputable def XSs (X:Cx) (z:List Stmt) (F:FS):Prop:=PSs X z (tS X.K F)
theorem Post.mono {K:Frag}{c:FC}{S:Ends}{H0 H1:Hp} (s:Same H0 H1):∀ {r:Res},Post K c S H0 r->Post K c S H1 r
 |.nx _,h=>λ O H0' H' z=>h O H0' H' (s.trans z)
 |.rt _ _,h=>λ v O H0' H' z=>h v O H0' H' (s.trans z)
 |.bk _,h=>λ O H0' H' z=>h O H0' H' (s.trans z)
 |.ct _,h=>λ O H0' H' z=>h O H0' H' (s.trans z)
theorem RS.set {K:Frag}{c:FC}{H0 H:Hp}{ρ:En}{σ:L2.St}{d:D}{v:V} (R:RS K c H0 H ρ σ) (i:Nat) (r:Rep K H0 d v):RS K c H0 H (ρ.set i (.im d)) (σ.set i (some v)):=by
 have hl:=R.len;have O:∀ (j:Nat) (Z:Sl),j≠i->(ρ.set i (.im d))[j]?=some Z->ρ[j]?=some Z:=λ j Z S e=>by rwa [List.getElem?_set_ne (Ne.symm S)] at e
 have z:∀ (j:Nat),j≠i->(σ.set i (some v))[j]?=σ[j]?:=λ j S=>List.getElem?_set_ne (Ne.symm S)
 have Y:∀ (Z:Sl),(ρ.set i (.im d))[i]?=some Z->Z=.im d/\i<ρ.length:=λ Z e=>by
  by_cases hi:i<ρ.length
  ·rw[List.getElem?_set_self hi] at e;exact⟨(qi e).symm,hi⟩
  ·rw[List.getElem?_eq_none (by rw[List.length_set];omega)] at e;cases e
 refine⟨R.same,R.init,R.fresh,R.keep,R.apt,by rw[List.length_set,List.length_set,hl],λ j d' e=>?_,λ j bb o e=>?_,λ j k b1 b2 o o' a e1 e2 e3 e4=>?_⟩
 ·by_cases S:j=i
  ·subst S
   obtain⟨e',hi⟩:=Y _ e;cases e';exact⟨v,by rw[List.getElem?_set_self (by omega)],r⟩
  ·rw[z j S];exact R.im j d' (O j _ S e)
 ·by_cases S:j=i
  ·subst S;obtain⟨e',_⟩:=Y _ e;cases e'
  ·rw[z j S];exact R.ow j bb o (O j _ S e)
 ·by_cases S:j=i
  ·subst S;obtain⟨e',_⟩:=Y _ e1;cases e'
  ·by_cases hk:k=i
   ·subst hk;obtain⟨e',_⟩:=Y _ e2;cases e'
   ·rw[z j S] at e3;rw[z k hk] at e4
    exact R.ne j k b1 b2 o o' a (O j _ S e1) (O k _ hk e2) e3 e4
section
variable {X:Cx}{pos:Pos}{e:Expr}{F:FE}{T:FT}{A B:FS}
theorem xsN:XSs X [] sN:=PSs.wk ai7 λ S σ H z=>by
 obtain⟨c,H0,ρ,r,R,f,q⟩:=z;have O:some (Res.nx ρ)=some r:=f;cases O;exact q σ H0 H (Same.refl _) R
theorem xs1 {st:Stmt} (h:XS X st A):XSs X [st] A:=D_8 h
theorem xsC {st:Stmt}{rest:List Stmt} (h1:XS X st A) (h2:XSs X rest B):XSs X (st::rest) (b_2 A B):=PSs.wk (K_5 h1 h2) λ Dn σ H S=>by
 obtain⟨c,H0,ρ,r,R,f,q⟩:=S;unfold b_2 at f;obtain⟨z,h,f⟩:=a_1 f;refine⟨c,H0,ρ,z,R,h,?_⟩;cases z with
 |nx O=>exact λ aa H0' H' s Z=>⟨c,H0',O,r,Z,f,q.mono s⟩
 |rt d O=>have Y:some (Res.rt d O)=some r:=f;cases Y;exact q
 |bk O=>have Y:some (Res.bk O)=some r:=f;cases Y;exact q
 |ct O=>have Y:some (Res.ct O)=some r:=f;cases Y;exact q
theorem o_6 (i:Nat) {x:Str}{pos':Pos} (hN:X.N.Nodup) (S:XE X e F) (hi:X.N[i]?=some x:=by rfl) (hx:Loc X.env.scope x:=by first | exact Or.inl rfl | exact Or.inr rfl) (Z:swapsWith e (some (.Name x pos')) pos.line X.env=pure false:=by rfl)
  (hf:X.fn x=true\/X.env.scope.names.lookup x=some .local:=by first | exact .inl rfl | exact .inr rfl):XS X (.Assign [.Name x pos'] e pos) (d_4 i F):=PS.wk (Z_7 hN hi hx S Z hf) λ Dn σ H z=>by
 obtain⟨c,H0,ρ,r,R,f,q⟩:=z;unfold d_4 at f;obtain⟨⟨d,O⟩,h1,f⟩:=a_1 f;have f':some (Res.nx (O.set i (.im d)))=some r:=f;cases f';exact⟨c,H0,ρ,d,O,R,h1,λ v H1 Hh s1 Y r1=>q _ H1 Hh s1 (Y.set i r1)⟩
theorem ag4 (i:Nat) {y x:Str}{py px spos:Pos}{scope sc:Scope}{frees:List Str}{js:List Nat}{elt iter:Expr}{ifs:List Expr}{I:FE} (hN:X.N.Nodup) (hc:X.calm=true) (ac:X.env.scope=sc) (Bk:ScB X.N sc scope x frees js) (hi:XE X iter I)
  (ht:∀ s H C fp,XTs (cxB X (x::frees) scope s H C fp) ifs T) (he:∀ s H C fp,XE (cxB X (x::frees) scope s H C fp) elt F) (ab:X.N[i]?=some y:=by rfl) (Y:X.env.scope.names.lookup y=some .local:=by rfl)
  (aa:swapsWith (.ListComp elt [⟨.Name x px,iter,ifs,0⟩] scope pos) (some (.Name y py)) spos.line X.env=pure true:=by rfl)
  (hs:∀ v,foldedSetIterable iter X.env v=pure v:=by intro _;rfl):XS X (.Assign [.Name y py] (.ListComp elt [⟨.Name x px,iter,ifs,0⟩] scope pos) spos) (d_4 i (eLC js I T F)) :=
 PS.wk (Z_6 (tt:=tTt X.K T) (te:=tE X.K F) hN ab Y hc ac Bk (aH7 hi) ht he aa hs) λ Dn σ H O=>by
  obtain⟨c,H0,ρ,r,R,f,q⟩:=O;unfold d_4 at f;obtain⟨⟨d,Z⟩,h1,f⟩:=a_1 f;have f':some (Res.nx (Z.set i (.im d)))=some r:=f;cases f';obtain⟨z,xs,fr,ys,h0,h2,h3,h4,hz,rfl⟩:=ao5 h1;refine s_8 R h0 h2 λ J H1 Hh s1 R1 Y=>?_
  refine aK0 R1 h3 h4 hz Y λ vs H2 Hh2 s2 R2 r2=>λ p hp=>?_
  have S:=Step.alloc (o:=.lst vs) R2.same hp;refine q _ _ _ (s1.trans (s2.trans S.s0)) ((R2.after S).set i ?_);unfold Rep;exact⟨p,vs,rfl,.inl (.inl a_7),Reps.mono S.s0 _ r2⟩
theorem q_1 {c:Expr}{a b:List Stmt} (Z:XT X c T) (ha:XSs X a A) (hb:XSs X b B):XS X (.If c a b pos) (sIf T A B):=PS.wk (aW1 Z ha hb) λ Dn σ H O=>by
 obtain⟨c,H0,ρ,r,R,f,q⟩:=O;unfold sIf at f;obtain⟨⟨k,z⟩,h1,f⟩:=a_1 f;dsimp only at f;refine⟨c,H0,ρ,k,z,R,h1,λ H1 Hh Y S=>?_⟩
 cases k with
 |true =>
  rw[if_pos rfl] at f ⊢;exact⟨c,H1,z,r,S,f,q.mono Y⟩
 |false =>
  rw[if_neg Bool.false_ne_true] at f ⊢;exact⟨c,H1,z,r,S,f,q.mono Y⟩
theorem f_8 (S:XE X e F):XS X (.Return (some e) pos) (d_8 F):=PS.wk (ai8 S) λ Dn σ H z=>by
 obtain⟨c,H0,ρ,r,R,f,q⟩:=z;unfold d_8 at f;obtain⟨⟨d,O⟩,h1,f⟩:=a_1 f;have f':some (Res.rt d O)=some r:=f;cases f';exact⟨c,H0,ρ,d,O,R,h1,λ v H1 Hh Z Y r1=>q v σ H1 Hh Z Y r1⟩
abbrev GD:=D->En->Option En
noncomputable def tG (K:Frag) (g:GD):TG:=λ v σ H Q=>∃ c H0 ρ d z,RS K c H0 H ρ σ/\Rep K H0 d v/\g d ρ=some z/\∀ O H0' H',Same H0 H0'->RS K c H0' H' z O->Q O H'
noncomputable def tGs (K:Frag) (is:List Nat):TGs:=λ vs σ H Q=>∃ c H0 ρ ds,RS K c H0 H ρ σ/\Reps K H0 ds vs/\ds.length=is.length/\∀ z H0' H',Same H0 H0'->RS K c H0' H' (I_7 is ds ρ) z->Q z H'
noncomputable def XG (X:Cx) (tg:Expr) (g:GD):Prop:=PG X tg (tG X.K g)
noncomputable def XGs (X:Cx) (z:List Expr) (is:List Nat):Prop:=PGs X z (tGs X.K is)
theorem xgN (i:Nat) {x:Str} (Y:X.N.Nodup) (hi:X.N[i]?=some x:=by rfl) (S:Loc X.env.scope x:=by first | exact Or.inl rfl | exact Or.inr rfl) (hf:X.fn x=true\/X.env.scope.names.lookup x=some .local:=by first | exact .inl rfl | exact .inr rfl):XG X (.Name x pos) (gN i) :=
 λ pins s σ H v u Q I rv z=>by obtain⟨c,H0,ρ,d,O,R,r,f,q⟩:=z;exact K_7 Y hi S hf pins s σ H v u Q I rv (by
  have Z:some (ρ.set i (.im d))=some O:=f;cases Z;exact q _ H0 H (Same.refl _) (R.set i r))
theorem bs7:XGs X [] []:=λ pins s σ H vs O Q I S z=>by obtain⟨c,H0,ρ,ds,R,r,l,q⟩:=z;exact aH8 pins s σ H vs O Q I S (by
 have e:ds=[]:=List.length_eq_zero_iff.mp l;subst e;unfold Reps at r;exact⟨r,q σ H0 H (Same.refl _) (by simpa [ad9] using R)⟩)
theorem aQ1 {e:Expr}{es:List Expr}{i:Nat}{is:List Nat} (h1:XG X e (gN i)) (h2:XGs X es is) (hs:(assignEach (e::es) X.env).map (·.2)=assign e X.env::(assignEach es X.env).map (·.2):=by rfl):XGs X (e::es) (i::is) :=
 λ pins s σ H vs us Q I rv z=>by obtain⟨c,H0,ρ,ds,R,r,l,q⟩:=z;exact au8 h1 h2 hs pins s σ H vs us Q I rv (by
  cases ds with
  |nil=>simp at l
  |cons d ds =>
   unfold Reps at r;obtain⟨v,vr,rfl,r1,r2⟩:=r;refine⟨v,vr,rfl,c,H0,ρ,d,_,R,r1,rfl,λ aa H1 Hh S Y=>?_⟩
   exact⟨c,H1,_,ds,Y,Reps.mono S _ r2,by simpa using l,λ O H2 Hh2 Z R2=>q O H2 Hh2 (S.trans Z) (by simpa [U_4] using R2)⟩)
theorem z_9 {X:Cx}{s:Shared}{E:Value->Shared->Prop}{z:List Expr}{k:Nat}{l:Addr}{items:Array Value}{Q:Unit->Shared->Prop} (Y:X.A.handled=none) (hl:s.heap.IsList l items)
  (S:(assignEach z X.env).length=items.size) (O:(assignEach z X.env).findIdx? (·.1)=none)
  (h:∀ h',Heap.ExtBut s.heap.objs.size s.heap h'->wpAny (model X.prog X.w) X.A (assignInOrder ((assignEach z X.env).map (·.2)) items.toList) Q E {s with heap:=h'}) :
  wpAny (model X.prog X.w) X.A (assign (.Tuple z k pos) X.env (.ref l)) Q E s:=by
 rw[assign_Tuple];refine qb (wpAny_standAt ?_);unfold unpack;rw[S,O];exact qb (wpAny_holding (PySem.W.kun_itemsOf Y hl h))
noncomputable def bG9 (K:Frag) (n:Nat) (t:TGs):TG:=λ v σ H Q=>∃ a xs,v=.ref a/\SqL K H a xs/\xs.length=n/\t xs σ H Q
theorem aW6 {es:List Expr}{k:Nat}{t:TGs}{n:Nat} (S:X.calm=true) (h:PGs X es t)
  (Z:(assignEach es X.env).length=n:=by rfl) (z:(assignEach es X.env).findIdx? (·.1)=none:=by rfl):PG X (.Tuple es k pos) (bG9 X.K n t):=by
 intro pins s σ H v u Q I r hw;obtain⟨a,xs,e1,hq,hl,hw⟩:=hw;subst e1;cases r;obtain⟨aa,O,pl,hz⟩:=I.list hq;refine z_9 (I.ok.hd S) pl.isList (by simp[Z,<- hl,O.length]) z λ h' hx=>?_
 have Y:Inv X pins σ H {s with heap:=h'}:=I.kept (t':=s.toks) λ b o e=>hx b o (qr (qm e)) e
 exact h pins _ σ H xs _ Q Y (by simpa using O) hw
theorem xgT {es:List Expr}{k:Nat}{is:List Nat} (h:XGs X es is) (Y:X.calm=true:=by rfl) (Z:(assignEach es X.env).length=is.length:=by rfl) (z:(assignEach es X.env).findIdx? (·.1)=none:=by rfl):XG X (.Tuple es k pos) (gT is) :=
 λ pins s σ H v u Q I rv O=>by
  obtain⟨c,H0,ρ,d,aa,R,r,f,q⟩:=O;unfold gT at f;obtain⟨xs,h1,f⟩:=a_1 f
  split at f
  ·rename_i hl
   cases f;cases d with
   |tup ds =>
    refine aW5 Y h Z z pins s σ H v u Q I rv ?_;have e:ds=xs:=qi h1;subst e;unfold Rep at r;obtain⟨a,vs,rfl,S,r⟩:=r;exact⟨a,vs,rfl,Same.seqT R.same S,by rw[<- r.length];exact hl,c,H0,ρ,ds,R,r,hl,q⟩
   |lst ds =>
    refine aW6 Y h Z z pins s σ H v u Q I rv ?_;have e:ds=xs:=qi h1;subst e;unfold Rep at r;obtain⟨a,vs,rfl,S,r⟩:=r;exact⟨a,vs,rfl,Same.seq R.same S,by rw[<- r.length];exact hl,c,H0,ρ,ds,R,r,hl,q⟩
   |_=>cases h1
  ·cases f
theorem ao1 {K:Frag}{c:FC}{H1 Hh:Hp}{ρ:En}{σ:L2.St}{g:GD}{B:FS}{xs:List D}{J:It}{Dn:Ends}{r:Res} (R:RS K c H1 Hh ρ σ) (hf:fGo g B xs ρ=some r) (hy:y_0 K J H1 xs) (q:Post K c Dn H1 r) :
  ∃ W:Nat->Nat->L2.St->Hp->Prop,(∃ m,W 0 m σ Hh)/\∀ i m σ H,W i m σ H ->
   (J.stop i H/\Dn.nx σ H)\/(J.go i H/\∃ N:L2.St->Hp->Prop,(∀ O H',N O H'->∃ m',m'<m/\W (i+1) m' O H')/\∀ x H',J.yld i H x H'->tG K g x σ H' λ ac H2=>tS K B {Dn with nx:=N,ct:=N,bk:=Dn.nx} ac H2):=by
 refine⟨λ i m σ H=>m=xs.length-i/\i<=xs.length/\∃ H0 ρ,Same H1 H0/\RS K c H0 H ρ σ/\fGo g B (xs.drop i) ρ=some r,⟨xs.length,by simp,Nat.zero_le _,H1,ρ,Same.refl _,R,by simpa using hf⟩,?_⟩
 rintro i m σ H ⟨rfl,hi,H0,ρ,s0,R0,Y⟩;obtain⟨y1,y2⟩:=hy H0 H i s0 R0.same
 by_cases aa:i<xs.length
 ·have hd:xs[i]?=some xs[i]:=by simp[aa]
  obtain⟨go,yl⟩:=y1 _ hd;refine .inr ⟨go,λ O H'=>∃ m',m'<xs.length-i/\m'=xs.length-(i+1)/\i+1<=xs.length/\∃ H0 ρ,Same H1 H0/\RS K c H0 H' ρ O/\fGo g B (xs.drop (i+1)) ρ=some r,λ O H' ⟨m',a,b⟩=>⟨m',a,b⟩,λ x H' hx=>?_⟩
  obtain⟨rfl,rx⟩:=yl x H' hx;rw[F_8 hd,ax3] at Y;obtain⟨ab,g1,Y⟩:=a_1 Y;obtain⟨z,g2,Y⟩:=a_1 Y;refine⟨c,H0,ρ,_,ab,R0,rx,g1,λ ad H2 Hh2 s2 R2=>⟨c,H2,ab,z,R2,g2,?_⟩⟩
  cases z with
  |nx S=>exact λ O H3 Hh3 s3 R3=>⟨_,by omega,rfl,aa,H3,S,s0.trans (s2.trans s3),R3,Y⟩
  |ct S=>exact λ O H3 Hh3 s3 R3=>⟨_,by omega,rfl,aa,H3,S,s0.trans (s2.trans s3),R3,Y⟩
  |bk S =>
   have Z:some (Res.nx S)=some r:=Y;cases Z;exact λ O H3 Hh3 s3 R3=>q O H3 Hh3 (s0.trans (s2.trans s3)) R3
  |rt d S =>
   have Z:some (Res.rt d S)=some r:=Y;cases Z;exact λ v O H3 Hh3 s3 R3 r3=>q v O H3 Hh3 (s0.trans (s2.trans s3)) R3 r3
 ·have hn:xs.drop i=[]:=List.drop_eq_nil_of_le (by omega)
  rw[hn,aL7] at Y;have Z:some (Res.nx ρ)=some r:=Y;cases Z;exact .inl ⟨y2 (by omega),q σ H0 H s0 R0⟩
theorem aE9 {tg iter:Expr}{body:List Stmt}{g:GD} (hg:XG X tg g) (hi:XE X iter F) (hb:XSs X body B) (hp:PassesOwn (model X.prog X.w) X.A X.env X.xe:=by exact PassesOwn.never) (Y:X.calm=true:=by rfl) (Z:∀ x,foldedSetIterable iter X.env x=pure x:=by intro _;rfl) :
  XS X (.For tg iter body [] pos) (ar8 g F B):=PS.wk (P_5 hp Y (aH7 hi) hg hb Z) λ Dn σ H z=>by
 obtain⟨c,H0,ρ,r,R,f,q⟩:=z;unfold ar8 at f;obtain⟨⟨d,aa⟩,h1,f⟩:=a_1 f;obtain⟨xs,h2,f⟩:=a_1 f;exact s_8 R h1 h2 λ J H1 Hh s1 O S=>ao1 O f S (q.mono s1)
theorem O_3 {tg a:Expr}{body:List Stmt}{g:GD}{p pos':Pos} (hm:X.mg "range"=none) (hg:XG X tg g) (ha:XE X a F) (hb:XSs X body B) (Y:Gl X "range":=by rfl) (hp:PassesOwn (model X.prog X.w) X.A X.env X.xe:=by exact PassesOwn.never) (hc:X.calm=true:=by rfl)
  (z:starEach [a] X.env=[(false,eval a X.env)]:=by rfl) (hs:∀ x,foldedSetIterable (.Call (.Name "range" p) [a] [] pos') X.env x=pure x:=by intro _;rfl) :
  XS X (.For tg (.Call (.Name "range" p) [a] [] pos') body [] pos) (y_9 g (ag1 F) B):=PS.wk (P_5 hp hc (P_7 Y hm (k_3 ha t_0 z) z) hg hb hs) λ Dn σ H O=>by
 obtain⟨c,H0,ρ,r,R,f,q⟩:=O;unfold y_9 ag1 at f;obtain⟨⟨xs,aa⟩,h1,f⟩:=a_1 f;obtain⟨⟨d,ab⟩,h2,h1⟩:=a_1 h1;obtain⟨j,S,h1⟩:=a_1 h1;dsimp only at h1 S f
 split at h1
 ·rename_i Z
  cases h1;refine⟨c,H0,ρ,d,_,R,h2,λ v H1 Hh s1 R1 r1=>?_⟩
  cases d with
  |int k =>
   have e:k=j:=qi S;subst e;unfold Rep at r1;subst r1;exact⟨k,rfl,Z.1,Z.2,ao1 R1 f (y_5 0 k.toNat) (q.mono s1)⟩
  |_=>cases S
 ·cases h1
theorem aA1 {tg a b:Expr}{body:List Stmt}{g:GD}{G:FE}{p pos':Pos} (hm:X.mg "range"=none) (hg:XG X tg g) (ha:XE X a F) (aa:XE X b G) (hb:XSs X body B) (ab:Gl X "range":=by rfl) (hp:PassesOwn (model X.prog X.w) X.A X.env X.xe:=by exact PassesOwn.never) (hc:X.calm=true:=by rfl)
  (O:starEach [a,b] X.env=[(false,eval a X.env),(false,eval b X.env)]:=by rfl) (z:starEach [b] X.env=[(false,eval b X.env)]:=by rfl) (hs:∀ x,foldedSetIterable (.Call (.Name "range" p) [a,b] [] pos') X.env x=pure x:=by intro _;rfl) :
  XS X (.For tg (.Call (.Name "range" p) [a,b] [] pos') body [] pos) (y_9 g (aB9 F G) B):=PS.wk (P_5 hp hc (aj0 ab hm (k_3 ha (k_3 aa t_0 z) (by rw[O,z])) O z) hg hb hs) λ Dn σ H S=>by
 obtain⟨c,H0,ρ,r,R,f,q⟩:=S;unfold y_9 aB9 at f;obtain⟨⟨xs,ac⟩,h1,f⟩:=a_1 f;obtain⟨⟨d,Y⟩,h2,h1⟩:=a_1 h1;obtain⟨⟨d',ad⟩,h3,h1⟩:=a_1 h1;obtain⟨i,h4,h1⟩:=a_1 h1;obtain⟨j,Z,h1⟩:=a_1 h1;dsimp only at h1 h3 h4 Z f
 split at h1
 ·rename_i hj
  cases h1;refine⟨c,H0,ρ,d,Y,R,h2,λ v H1 Hh s1 R1 r1=>?_⟩
  refine⟨c,H1,Y,d',_,R1,h3,λ v' H2 Hh2 s2 R2 r2=>?_⟩
  cases d with
  |int k =>
   cases d' with
   |int k' =>
    have e:k=i:=qi h4;have e':k'=j:=qi Z;subst e e';unfold Rep at r1 r2;subst r1 r2;exact⟨k,k',rfl,hj,ao1 R2 f (y_5 k (k'-k).toNat) (q.mono (s1.trans s2))⟩
   |_=>cases Z
  |_=>cases h4
 ·cases h1
theorem aR8 {c:Expr}{body:List Stmt}{Z:En->Nat} (hc:XT X c T) (hb:XSs X body B) (hp:PassesOwn (model X.prog X.w) X.A X.env X.xe:=by exact PassesOwn.never):XS X (.While c body [] pos) (aB4 Z T B):=PS.wk (au5 hp hc hb) λ Dn σ H ab=>by
 obtain⟨c,H0,ρ,r,R,f,q⟩:=ab;refine⟨λ m σ H=>∃ H1 ρ,Same H0 H1/\RS X.K c H1 H ρ σ/\wGo T B m ρ=some r,⟨Z ρ,H0,ρ,Same.refl _,R,f⟩,?_⟩
 rintro m ad Hh ⟨H1,ac,s1,R1,hw⟩;cases m with
 |zero=>cases hw
 |succ m =>
  rw[as7] at hw;obtain⟨⟨b,aa⟩,h1,hw⟩:=a_1 hw;dsimp only at hw;refine⟨c,H1,ac,b,aa,R1,h1,λ H2 Hh2 s2 R2=>?_⟩
  cases b with
  |false =>
   rw[if_neg Bool.false_ne_true] at hw ⊢;have Y:some (Res.nx aa)=some r:=hw;cases Y;exact q ad H2 Hh2 (s1.trans s2) R2
  |true =>
   rw[if_pos rfl] at hw ⊢;obtain⟨z,h2,hw⟩:=a_1 hw;refine⟨λ O H'=>∃ m',m'<m+1/\∃ H1 ρ,Same H0 H1/\RS X.K c H1 H' ρ O/\wGo T B m' ρ=some r,λ O H' h=>h,⟨c,H2,aa,z,R2,h2,?_⟩⟩
   cases z with
   |nx S=>exact λ O H3 Hh3 s3 R3=>⟨m,by omega,H3,S,s1.trans (s2.trans s3),R3,hw⟩
   |ct S=>exact λ O H3 Hh3 s3 R3=>⟨m,by omega,H3,S,s1.trans (s2.trans s3),R3,hw⟩
   |bk S =>
    have Y:some (Res.nx S)=some r:=hw;cases Y;exact λ O H3 Hh3 s3 R3=>q O H3 Hh3 (s1.trans (s2.trans s3)) R3
   |rt d S =>
    have Y:some (Res.rt d S)=some r:=hw;cases Y;exact λ v O H3 Hh3 s3 R3 r3=>q v O H3 Hh3 (s1.trans (s2.trans s3)) R3 r3
end
theorem RS.start {K:Frag}{O H:Hp}{ds:List D}{vs:List V}{m n:Nat} (s:Same O H) (r:Reps K O ds vs) (S:n-vs.length=m):RS K ⟨O,H,[]⟩ O H (ds.map .im++List.replicate m .no) (vs.map some++List.replicate (n-vs.length) none):=by
 have hl:=r.length;refine⟨s,Same.refl _,λ b o e=>.inl e,λ b o e _=>e,λ a h=>(by cases h),?_,λ i d e=>?_,λ i b o e=>?_,λ i j b Y o o' a e=>?_⟩
 ·rw[List.length_append,List.length_append,List.length_map,List.length_map,List.length_replicate,List.length_replicate,hl,S]
 ·by_cases hi:i<ds.length
  ·rw[List.getElem?_append_left (by simpa using hi),List.getElem?_map] at e
   cases z:ds[i]? with
   |none=>rw[z] at e;cases e
   |some d' =>
    rw[z] at e;have e':d'=d:=by have:=qi e;injection this
    subst e';obtain⟨v,a,b⟩:=r.get z;exact⟨v,by rw[List.getElem?_append_left (by simp;omega),List.getElem?_map,a];rfl,b⟩
  ·rw[List.getElem?_append_right (by simpa using Nat.le_of_not_lt hi),List.getElem?_replicate] at e
   split at e <;> cases e
 ·by_cases hi:i<ds.length
  ·rw[List.getElem?_append_left (by simpa using hi),List.getElem?_map] at e
   cases z:ds[i]? with
   |none=>rw[z] at e;cases e
   |some d'=>rw[z] at e;cases e
  ·rw[List.getElem?_append_right (by simpa using Nat.le_of_not_lt hi),List.getElem?_replicate] at e
   split at e <;> cases e
 ·by_cases hi:i<ds.length
  ·rw[List.getElem?_append_left (by simpa using hi),List.getElem?_map] at e
   cases z:ds[i]? with
   |none=>rw[z] at e;cases e
   |some d'=>rw[z] at e;cases e
  ·rw[List.getElem?_append_right (by simpa using Nat.le_of_not_lt hi),List.getElem?_replicate] at e
   split at e <;> cases e
theorem e_5 {P:Program}{w:World}{K:Frag}{mg:Str->Option Value}{base:Heap}{x z:Str}{st:Stmt}{f:Addr}{fd:FuncData}{N ps:List Str}{k n m:Nat}{B:FS} (F:Fun K x z st f fd) (S:FnScope N ps (a_0 st)) (hn:ps.length=n) (hN:N.length=n+m)
  (hb:∀ (O:Value) (A:Around) (outer:List Env) (s:Shared) (H:Hp) (E:XK),Room k (A.deeper (envOfC z (a_0 st) s.heap.objs.size f O))->XSs (as2 CX0 P w K mg base N z (a_0 st) f O A outer s H E).nox (a_4 st) B) :
  FnOk P w K mg base CX0 (k+1) f fd ps (spP K (fnD n m B)):=by
 have Z:∀ {ds:List D}{d:D},fnD n m B ds=some d->ds.length=n/\∃ r,B (ds.map .im++List.replicate m .no)=some r/\bk7 r=some d:=λ {ds d} h=>by
  unfold fnD at h
  split at h
  ·rename_i hl
   obtain⟨r,h1,h2⟩:=a_1 h;exact⟨hl,r,h1,h2⟩
  ·cases h
 refine F.ok S (λ vs H Q E h=>?_) (λ O A outer s H vs Q E hr h=>?_)
 ·obtain⟨Hi,ds,d,_,r,e,_⟩:=h
  rw[hn,<- r.length];exact (Z e).1
 ·obtain⟨Hi,ds,d,hs,r,e,q⟩:=h
  obtain⟨hl,res,h1,h2⟩:=Z e;refine⟨_,hb O A outer s H E hr,⟨Hi,H,[]⟩,Hi,_,res,RS.start (n:=N.length) (m:=m) hs r (by rw[<- r.length];omega),h1,?_⟩
  cases res with
  |nx Y =>
   have e':D.non=d:=qi h2;subst e';exact λ aa H0' H' s0 R=>q .non H0' H' R.step (by unfold Rep;rfl)
  |rt d' Y =>
   have e':d'=d:=qi h2;subst e';exact λ v aa H0' H' s0 R rv=>q v H0' H' R.step rv
  |bk Y=>cases h2
  |ct Y=>cases h2
end Fx
namespace Fx
open PySem
@[simp] theorem bA5 (i j:Int):w_3 (.int i) (.int j)=some (.int (i+j)):=zR rfl
@[simp] theorem bA4 (a b:List D):w_3 (.lst a) (.lst b)=if a.length+b.length<=sizeLine then some (.lst (a++b)) else none:=zR rfl
@[simp] theorem bz6 (i j:Int):W_5 (.int i) (.int j)=some (.int (i-j)):=zR rfl
@[simp] theorem bz8 (i j:Int):T_7 (.int i) (.int j)=if v_6 i j=true then some (.int (i*j)) else none:=zR rfl
@[simp] theorem bA3 (i j:Int):q_4 (.int i) (.int j)=if z_4 j=true then some (.int (i.fdiv j)) else none:=zR rfl
@[simp] theorem bz9 (i j:Int):p_7 (.int i) (.int j)=if j≠0 then some (.int (i.fmod j)) else none:=zR rfl
@[simp] theorem bz7 (i:Int):ab6 (.int i)=some (.int (-i)):=zR rfl
@[simp] theorem bI9 (i j:Int):dLt (.int i) (.int j)=some (.bl (decide (i<j))):=zR rfl
@[simp] theorem bJ0 (i j:Int):dLe (.int i) (.int j)=some (.bl (decide (i<=j))):=zR rfl
@[simp] theorem bJ1 (i j:Int):dGt (.int i) (.int j)=some (.bl (decide (j<i))):=zR rfl
@[simp] theorem bJ2 (i j:Int):dGe (.int i) (.int j)=some (.bl (decide (j<=i))):=zR rfl
@[simp] theorem bM1 (x y:D):dEq x y=if dpD x<=30/\dpD y<=30 then some (.bl (eqD x y)) else none:=zR rfl
@[simp] theorem bL9 (x y:D):dNe x y=if dpD x<=30/\dpD y<=30 then some (.bl (!eqD x y)) else none:=zR rfl
@[simp] theorem bM0 (x:D):dIs x .non=some (.bl (isN x)):=zR rfl
@[simp] theorem br5 (x:D):n_3 x .non=some (.bl (!isN x)):=zR rfl
@[simp] theorem bz5 (b:Bool):ax6 (.bl b)=some b:=zR rfl
@[simp] theorem bz4 (xs:List D):ax6 (.lst xs)=some (!xs.isEmpty):=zR rfl
@[simp] theorem bz3 (xs:List D):ax6 (.tup xs)=some (!xs.isEmpty):=zR rfl
@[simp] theorem bJ5 (i:Int):be7 [.int i]=some (.int (i.natAbs:Int)):=congrArg (λ z=>some (D.int z)) (show (if i<0 then -i else i)=(i.natAbs:Int) by split <;> omega)
theorem be6 (xs:List D):az4 [.lst xs]=bnd (t_4 xs) λ is=>aq2 H_7 is:=rfl
theorem be5 (xs:List D):aP4 [.lst xs]=bnd (t_4 xs) λ is=>aq2 H_6 is:=rfl
@[simp] theorem bJ4 (i j:Int):az4 [.int i,.int j]=some (.int (if j > i then j else i)):=zR rfl
@[simp] theorem bJ3 (i j:Int):aP4 [.int i,.int j]=some (.int (if j<i then j else i)):=zR rfl
noncomputable def bA6 {α:Type} (x:α) (o:Option (List α)):Option (List α):=bnd o λ t=>some (x::t)
@[simp] theorem be0 {α:Type} (x:α) (t:List α):bA6 x (some t)=some (x::t):=zR rfl
@[simp] theorem aD2 (b:Int):ar9 .int (.int b)=true:=zR rfl
@[simp] theorem aD3 (b:Bool):ar9 .bool (.bl b)=true:=zR rfl
@[simp] theorem aw6 (b:Int):ar9 .bool (.int b)=false:=zR rfl
noncomputable def mkP (o:Option D) (ρ:En):Option (D×En):=bnd o λ d=>some (d,ρ)
@[simp] theorem bF9 (d:D) (ρ:En):mkP (some d) ρ=some (d,ρ):=zR rfl
@[simp] theorem bD3 (ρ:En) (d:D):slV ρ (some (.im d))=some (d,ρ):=zR rfl
@[simp] theorem eV_ (i:Nat) (ρ:En):eV i ρ=slV ρ ρ[i]?:=zR rfl
@[simp] theorem eC_ (d:D) (ρ:En):eC d ρ=some (d,ρ):=zR rfl
noncomputable def e1a (op:D->Option D) (o:Option (D×En)):Option (D×En):=bnd o λ p=>bnd (op p.1) λ d=>some (d,p.2)
@[simp] theorem e1_ (op:D->Option D) (F:FE) (ρ:En):e1 op F ρ=e1a op (F ρ):=zR rfl
@[simp] theorem bI6 (op:D->Option D) (x:D) (ρ:En):e1a op (some (x,ρ))=mkP (op x) ρ:=zR rfl
noncomputable def e2b (op:D->D->Option D) (x:D) (o:Option (D×En)):Option (D×En):=bnd o λ q=>bnd (op x q.1) λ d=>some (d,q.2)
noncomputable def e2a (op:D->D->Option D) (G:FE) (o:Option (D×En)):Option (D×En):=bnd o λ p=>bnd (G p.2) λ q=>bnd (op p.1 q.1) λ d=>some (d,q.2)
@[simp] theorem e2_ (op:D->D->Option D) (F G:FE) (ρ:En):e2 op F G ρ=e2a op G (F ρ):=zR rfl
@[simp] theorem bI5 (op:D->D->Option D) (G:FE) (x:D) (ρ:En):e2a op G (some (x,ρ))=e2b op x (G ρ):=zR rfl
@[simp] theorem bI4 (op:D->D->Option D) (x y:D) (ρ:En):e2b op x (some (y,ρ))=mkP (op x y) ρ:=zR rfl
noncomputable def e3c (O:D->D->Option D) (L:FE) (y:D) (ρ:En) (o:Option D):Option (D×En):=bnd o λ z=>bnd (blB z) λ b=>if b=true then bnd (L ρ) λ r=>bnd (O y r.1) λ d=>some (d,r.2) else some (.bl false,ρ)
noncomputable def e3b (op O:D->D->Option D) (L:FE) (x:D) (o:Option (D×En)):Option (D×En):=bnd o λ q=>bnd (op x q.1) λ z=>bnd (blB z) λ b=>if b=true then bnd (L q.2) λ r=>bnd (O q.1 r.1) λ d=>some (d,r.2) else some (.bl false,q.2)
noncomputable def e3a (op O:D->D->Option D) (G L:FE) (o:Option (D×En)):Option (D×En):=bnd o λ p=>bnd (G p.2) λ q=>bnd (op p.1 q.1) λ z=>bnd (blB z) λ b=>if b=true then bnd (L q.2) λ r=>bnd (O q.1 r.1) λ d=>some (d,r.2) else some (.bl false,q.2)
@[simp] theorem e3_ (op z:D->D->Option D) (F G L:FE) (ρ:En):e3 op z F G L ρ=e3a op z G L (F ρ):=zR rfl
@[simp] theorem bI3 (op z:D->D->Option D) (G L:FE) (x:D) (ρ:En):e3a op z G L (some (x,ρ))=e3b op z L x (G ρ):=zR rfl
@[simp] theorem bI2 (op z:D->D->Option D) (L:FE) (x y:D) (ρ:En):e3b op z L x (some (y,ρ))=e3c z L y ρ (op x y):=zR rfl
@[simp] theorem bI1 (z:D->D->Option D) (L:FE) (y:D) (ρ:En):e3c z L y ρ (some (.bl true))=e2b z y (L ρ):=zR rfl
@[simp] theorem aN_ (ρ:En):aN ρ=some ([],ρ):=zR rfl
noncomputable def aCb (x:D) (o:Option (List D×En)):Option (List D×En):=bnd o λ q=>some (x::q.1,q.2)
noncomputable def aCa (A:FA) (o:Option (D×En)):Option (List D×En):=bnd o λ p=>bnd (A p.2) λ q=>some (p.1::q.1,q.2)
@[simp] theorem aC_ (F:FE) (A:FA) (ρ:En):aC F A ρ=aCa A (F ρ):=zR rfl
@[simp] theorem bJ9 (A:FA) (x:D) (ρ:En):aCa A (some (x,ρ))=aCb x (A ρ):=zR rfl
@[simp] theorem bJ8 (x:D) (xs:List D) (ρ:En):aCb x (some (xs,ρ))=some (x::xs,ρ):=zR rfl
noncomputable def bs9 (o:Option (List D×En)):Option (D×En):=bnd o λ p=>if p.1.length<=1000 then some (.tup p.1,p.2) else none
@[simp] theorem bH3 (A:FA) (ρ:En):l_2 A ρ=bs9 (A ρ):=zR rfl
@[simp] theorem bs8 (xs:List D) (ρ:En):bs9 (some (xs,ρ))=if xs.length<=1000 then some (.tup xs,ρ) else none:=zR rfl
noncomputable def bv7 (o:Option (List D×En)):Option (D×En):=bnd o λ p=>if p.1.length<=1000 then some (.lst p.1,p.2) else none
@[simp] theorem bH6 (A:FA) (ρ:En):w_7 A ρ=bv7 (A ρ):=zR rfl
@[simp] theorem bv6 (xs:List D) (ρ:En):bv7 (some (xs,ρ))=if xs.length<=1000 then some (.lst xs,ρ) else none:=zR rfl
noncomputable def eFa (g:List D->Option D) (o:Option (List D×En)):Option (D×En):=bnd o λ p=>bnd (g p.1) λ d=>some (d,p.2)
@[simp] theorem eF_ (g:List D->Option D) (A:FA) (ρ:En):eF g A ρ=eFa g (A ρ):=zR rfl
@[simp] theorem bH9 (g:List D->Option D) (xs:List D) (ρ:En):eFa g (some (xs,ρ))=mkP (g xs) ρ:=zR rfl
noncomputable def bx3 (t:Ty) (o:Option (D×En)):Option (D×En):=bnd o λ p=>some (.bl (ar9 t p.1),p.2)
@[simp] theorem bL4 (t:Ty) (F:FE) (ρ:En):eTy t F ρ=bx3 t (F ρ):=zR rfl
@[simp] theorem bx2 (t:Ty) (x:D) (ρ:En):bx3 t (some (x,ρ))=some (.bl (ar9 t x),ρ):=zR rfl
noncomputable def mkB (o:Option Bool) (ρ:En):Option (Bool×En):=bnd o λ b=>some (b,ρ)
@[simp] theorem bG0 (b:Bool) (ρ:En):mkB (some b) ρ=some (b,ρ):=zR rfl
noncomputable def tBa (o:Option (D×En)):Option (Bool×En):=bnd o λ p=>bnd (blB p.1) λ b=>some (b,p.2)
@[simp] theorem tB_ (F:FE) (ρ:En):tB F ρ=tBa (F ρ):=zR rfl
@[simp] theorem bC9 (b:Bool) (ρ:En):tBa (some (.bl b,ρ))=some (b,ρ):=zR rfl
noncomputable def tVa (o:Option (D×En)):Option (Bool×En):=bnd o λ p=>bnd (ax6 p.1) λ b=>some (b,p.2)
@[simp] theorem tV_ (F:FE) (ρ:En):tV F ρ=tVa (F ρ):=zR rfl
@[simp] theorem bC3 (x:D) (ρ:En):tVa (some (x,ρ))=mkB (ax6 x) ρ:=zR rfl
noncomputable def aF5 (U:FT) (o:Option (Bool×En)):Option (Bool×En):=bnd o λ p=>if p.1=true then U p.2 else some (false,p.2)
noncomputable def bi0 (U:FT) (o:Option (Bool×En)):Option (Bool×En):=bnd o λ p=>if p.1=true then some (true,p.2) else U p.2
noncomputable def aT3 (o:Option (Bool×En)):Option (Bool×En):=bnd o λ p=>some (!p.1,p.2)
@[simp] theorem bD2 (T U:FT) (ρ:En):tAnd T U ρ=aF5 U (T ρ):=zR rfl
@[simp] theorem bi6 (U:FT) (ρ:En):aF5 U (some (true,ρ))=U ρ:=zR rfl
@[simp] theorem bi7 (U:FT) (ρ:En):aF5 U (some (false,ρ))=some (false,ρ):=zR rfl
@[simp] theorem bt4 (T U:FT) (ρ:En):tOr T U ρ=bi0 U (T ρ):=zR rfl
@[simp] theorem bt2 (U:FT) (ρ:En):bi0 U (some (true,ρ))=some (true,ρ):=zR rfl
@[simp] theorem bt3 (U:FT) (ρ:En):bi0 U (some (false,ρ))=U ρ:=zR rfl
@[simp] theorem bC7 (T:FT) (ρ:En):tNot T ρ=aT3 (T ρ):=zR rfl
@[simp] theorem bi1 (b:Bool) (ρ:En):aT3 (some (b,ρ))=some (!b,ρ):=zR rfl
noncomputable def bq2 (F G:FE) (o:Option (Bool×En)):Option (D×En):=bnd o λ p=>if p.1=true then F p.2 else G p.2
@[simp] theorem bL7 (T:FT) (F G:FE) (ρ:En):eIf T F G ρ=bq2 F G (T ρ):=zR rfl
@[simp] theorem by5 (F G:FE) (ρ:En):bq2 F G (some (true,ρ))=F ρ:=zR rfl
@[simp] theorem by6 (F G:FE) (ρ:En):bq2 F G (some (false,ρ))=G ρ:=zR rfl
noncomputable def aO3 (G:FE) (o:Option (D×En)):Option (D×En):=bnd o λ p=>bnd (blB p.1) λ b=>if b=true then G p.2 else some (.bl false,p.2)
noncomputable def bp3 (G:FE) (o:Option (D×En)):Option (D×En):=bnd o λ p=>bnd (blB p.1) λ b=>if b=true then some (.bl true,p.2) else G p.2
noncomputable def bd1 (o:Option (D×En)):Option (D×En):=bnd o λ p=>bnd (blB p.1) λ b=>some (.bl (!b),p.2)
@[simp] theorem bI0 (F G:FE) (ρ:En):ax5 F G ρ=aO3 G (F ρ):=zR rfl
@[simp] theorem bq6 (G:FE) (ρ:En):aO3 G (some (.bl true,ρ))=G ρ:=zR rfl
@[simp] theorem bq7 (G:FE) (ρ:En):aO3 G (some (.bl false,ρ))=some (.bl false,ρ):=zR rfl
@[simp] theorem bL5 (F G:FE) (ρ:En):eOr F G ρ=bp3 G (F ρ):=zR rfl
@[simp] theorem bx4 (G:FE) (ρ:En):bp3 G (some (.bl true,ρ))=some (.bl true,ρ):=zR rfl
@[simp] theorem bx5 (G:FE) (ρ:En):bp3 G (some (.bl false,ρ))=G ρ:=zR rfl
@[simp] theorem bH5 (F:FE) (ρ:En):bg3 F ρ=bd1 (F ρ):=zR rfl
@[simp] theorem bp6 (b:Bool) (ρ:En):bd1 (some (.bl b,ρ))=some (.bl (!b),ρ):=zR rfl
noncomputable def imA (o:Option Sl) (q:Option En):Option En:=bnd o λ s=>bnd q λ r=>some (s::r)
@[simp] theorem bG5 (s:Sl) (r:En):imA (some s) (some r)=some (s::r):=zR rfl
@[simp] theorem bD4 (d:D):slI (some (.im d))=some (.im d):=zR rfl
@[simp] theorem bw2 (ρ:En):aa9 ρ []=some []:=zR rfl
@[simp] theorem bw3 (ρ:En) (j:Nat) (js:List Nat):aa9 ρ (j::js)=imA (slI ρ[j]?) (aa9 ρ js):=zR rfl
noncomputable def cGb (T:FT) (F:FE) (fr:En) (r:List D) (o:Option (D×En)):Option (List D):=bnd o λ q=>bnd (cGo T F fr r) λ t=>some (q.1::t)
noncomputable def cGa (T:FT) (F:FE) (fr:En) (r:List D) (o:Option (Bool×En)):Option (List D):=bnd o λ p=>if p.1=true then bnd (F p.2) λ q=>bnd (cGo T F fr r) λ t=>some (q.1::t) else cGo T F fr r
@[simp] theorem ay6 (T:FT) (F:FE) (fr:En) (d:D) (r:List D):cGo T F fr (d::r)=cGa T F fr r (T (.im d::fr)):=zR rfl
@[simp] theorem ay9 (T:FT) (F:FE) (fr:En) (r:List D) (ρ:En):cGa T F fr r (some (true,ρ))=cGb T F fr r (F ρ):=zR rfl
@[simp] theorem be2 (T:FT) (F:FE) (fr:En) (r:List D) (ρ:En):cGa T F fr r (some (false,ρ))=cGo T F fr r:=zR rfl
@[simp] theorem ay8 (T:FT) (F:FE) (fr:En) (r:List D) (x:D) (ρ:En):cGb T F fr r (some (x,ρ))=bA6 x (cGo T F fr r):=zR rfl
@[simp] theorem bn1 (xs:List D):items (.lst xs)=some xs:=zR rfl
noncomputable def bp9 (ρ:En) (xs:List D) (o:Option (List D)):Option (D×En):=bnd o λ ys=>if xs.length<=sizeLine then some (.lst ys,ρ) else none
noncomputable def bq0 (T:FT) (F:FE) (ρ:En) (xs:List D) (o:Option En):Option (D×En):=bnd o λ fr=>bp9 ρ xs (cGo T F fr xs)
noncomputable def bq1 (js:List Nat) (T:FT) (F:FE) (ρ:En) (o:Option (List D)):Option (D×En):=bnd o λ xs=>bq0 T F ρ xs (aa9 ρ js)
noncomputable def by4 (js:List Nat) (T:FT) (F:FE) (o:Option (D×En)):Option (D×En):=bnd o λ p=>bq1 js T F p.2 (items p.1)
@[simp] theorem bL6 (js:List Nat) (I:FE) (T:FT) (F:FE) (ρ:En):eLC js I T F ρ=by4 js T F (I ρ):=zR rfl
@[simp] theorem by3 (js:List Nat) (T:FT) (F:FE) (x:D) (ρ:En):by4 js T F (some (x,ρ))=bq1 js T F ρ (items x):=zR rfl
@[simp] theorem by2 (js:List Nat) (T:FT) (F:FE) (ρ:En) (xs:List D):bq1 js T F ρ (some xs)=bq0 T F ρ xs (aa9 ρ js):=zR rfl
@[simp] theorem by1 (T:FT) (F:FE) (ρ:En) (xs:List D) (fr:En):bq0 T F ρ xs (some fr)=bp9 ρ xs (cGo T F fr xs):=zR rfl
@[simp] theorem by0 (ρ:En) (xs ys:List D):bp9 ρ xs (some ys)=if xs.length<=sizeLine then some (.lst ys,ρ) else none:=zR rfl
@[simp] theorem sN_ (ρ:En):sN ρ=some (.nx ρ):=zR rfl
noncomputable def aG0 (G:FS) (o:Option Res):Option Res:=bnd o λ r=>nxR G r
@[simp] theorem bD7 (F G:FS) (ρ:En):b_2 F G ρ=aG0 G (F ρ):=zR rfl
@[simp] theorem bj3 (G:FS) (ρ:En):aG0 G (some (.nx ρ))=G ρ:=zR rfl
@[simp] theorem bj2 (G:FS) (d:D) (ρ:En):aG0 G (some (.rt d ρ))=some (.rt d ρ):=zR rfl
noncomputable def aT9 (i:Nat) (o:Option (D×En)):Option Res:=bnd o λ p=>some (.nx (p.2.set i (.im p.1)))
@[simp] theorem bD6 (i:Nat) (F:FE) (ρ:En):d_4 i F ρ=aT9 i (F ρ):=zR rfl
@[simp] theorem bj1 (i:Nat) (x:D) (ρ:En):aT9 i (some (x,ρ))=some (.nx (ρ.set i (.im x))):=zR rfl
noncomputable def bj8 (F G:FS) (o:Option (Bool×En)):Option Res:=bnd o λ p=>if p.1=true then F p.2 else G p.2
@[simp] theorem bt8 (T:FT) (F G:FS) (ρ:En):sIf T F G ρ=bj8 F G (T ρ):=zR rfl
@[simp] theorem bt6 (F G:FS) (ρ:En):bj8 F G (some (true,ρ))=F ρ:=zR rfl
@[simp] theorem bt7 (F G:FS) (ρ:En):bj8 F G (some (false,ρ))=G ρ:=zR rfl
noncomputable def aU0 (o:Option (D×En)):Option Res:=bnd o λ p=>some (.rt p.1 p.2)
@[simp] theorem bD8 (F:FE) (ρ:En):d_8 F ρ=aU0 (F ρ):=zR rfl
@[simp] theorem bj4 (x:D) (ρ:En):aU0 (some (x,ρ))=some (.rt x ρ):=zR rfl
noncomputable def fGb (g:D->En->Option En) (B:FS) (r:List D) (o:Option Res):Option Res:=bnd o λ z=>goR (fGo g B r) z
noncomputable def fGa (g:D->En->Option En) (B:FS) (r:List D) (o:Option En):Option Res:=bnd o λ z=>fGb g B r (B z)
theorem r_4 (g:D->En->Option En) (B:FS) (d:D) (r:List D) (ρ:En):fGo g B (d::r) ρ=fGa g B r (g d ρ):=zR rfl
@[simp] theorem r_5 (g:D->En->Option En) (B:FS) (r:List D) (ρ:En):fGa g B r (some ρ)=fGb g B r (B ρ):=zR rfl
@[simp] theorem s_7 (g:D->En->Option En) (B:FS) (r:List D) (ρ:En):fGb g B r (some (.nx ρ))=fGo g B r ρ:=zR rfl
@[simp] theorem bc6 (g:D->En->Option En) (B:FS) (r:List D) (d:D) (ρ:En):fGb g B r (some (.rt d ρ))=some (.rt d ρ):=zR rfl
noncomputable def aG3 (g:D->En->Option En) (B:FS) (ρ:En) (o:Option (List D)):Option Res:=bnd o λ xs=>fGo g B xs ρ
noncomputable def aU6 (g:D->En->Option En) (B:FS) (o:Option (D×En)):Option Res:=bnd o λ p=>aG3 g B p.2 (items p.1)
@[simp] theorem bE2 (g:D->En->Option En) (F:FE) (B:FS) (ρ:En):ar8 g F B ρ=aU6 g B (F ρ):=zR rfl
@[simp] theorem bk0 (g:D->En->Option En) (B:FS) (x:D) (ρ:En):aU6 g B (some (x,ρ))=aG3 g B ρ (items x):=zR rfl
@[simp] theorem bj9 (g:D->En->Option En) (B:FS) (ρ:En) (xs:List D):aG3 g B ρ (some xs)=fGo g B xs ρ:=zR rfl
noncomputable def aV0 (o:Option (D×En)):Option (List D×En):=bnd o λ p=>bnd (aK6 p.1) λ j=>if -(2 ^ 62)<=j/\j<2 ^ 62 then some (o_9 0 j.toNat,p.2) else none
@[simp] theorem bE5 (F:FE) (ρ:En):ag1 F ρ=aV0 (F ρ):=zR rfl
@[simp] theorem bk6 (j:Int) (ρ:En):aV0 (some (.int j,ρ))=if -(2 ^ 62)<=j/\j<2 ^ 62 then some (o_9 0 j.toNat,ρ) else none:=zR rfl
noncomputable def aG7 (x:D) (o:Option (D×En)):Option (List D×En):=bnd o λ q=>bnd (aK6 x) λ i=>bnd (aK6 q.1) λ j=>if -(2 ^ 62)<=i/\i<2 ^ 62/\-(2 ^ 62)<=j/\j<2 ^ 62 then some (o_9 i (j-i).toNat,q.2) else none
noncomputable def aU9 (G:FE) (o:Option (D×En)):Option (List D×En):=bnd o λ p=>aG7 p.1 (G p.2)
@[simp] theorem bE4 (F G:FE) (ρ:En):aB9 F G ρ=aU9 G (F ρ):=zR rfl
@[simp] theorem bk5 (G:FE) (x:D) (ρ:En):aU9 G (some (x,ρ))=aG7 x (G ρ):=zR rfl
@[simp] theorem bk4 (i j:Int) (ρ:En):aG7 (.int i) (some (.int j,ρ))=if -(2 ^ 62)<=i/\i<2 ^ 62/\-(2 ^ 62)<=j/\j<2 ^ 62 then some (o_9 i (j-i).toNat,ρ) else none:=zR rfl
noncomputable def aB6 (g:D->En->Option En) (B:FS) (o:Option (List D×En)):Option Res:=bnd o λ p=>fGo g B p.1 p.2
@[simp] theorem bu1 (g:D->En->Option En) (X:FA) (B:FS) (ρ:En):y_9 g X B ρ=aB6 g B (X ρ):=zR rfl
@[simp] theorem bf7 (g:D->En->Option En) (B:FS) (xs:List D) (ρ:En):aB6 g B (some (xs,ρ))=fGo g B xs ρ:=zR rfl
noncomputable def fnA (o:Option Res):Option D:=bnd o λ r=>bk7 r
@[simp] theorem bH1 (d:D) (ρ:En):fnA (some (.rt d ρ))=some d:=zR rfl
@[simp] theorem bH2 (ρ:En):fnA (some (.nx ρ))=some .non:=zR rfl
@[simp] theorem bL2 (n k:Nat) (B:FS) (ds:List D):fnD n k B ds=if ds.length=n then fnA (B (ds.map .im++List.replicate k .no)) else none:=zR rfl
noncomputable def aY8 (o:Option (List D×En)):Option (List D×En):=bnd o λ p=>if p.1.length<=1000 then some p else none
@[simp] theorem bF6 (A:FA) (ρ:En):aC2 A ρ=aY8 (A ρ):=zR rfl
@[simp] theorem bm4 (xs:List D) (ρ:En):aY8 (some (xs,ρ))=if xs.length<=1000 then some (xs,ρ) else none:=zR rfl
noncomputable def aU1 (i:Nat) (o:Option (List D×En)):Option Res:=bnd o λ p=>some (.nx (p.2.set i (.ow false (.lst p.1))))
@[simp] theorem bD9 (i:Nat) (A:FA) (ρ:En):aB5 i A ρ=aU1 i (A ρ):=zR rfl
@[simp] theorem bj5 (i:Nat) (xs:List D) (ρ:En):aU1 i (some (xs,ρ))=some (.nx (ρ.set i (.ow false (.lst xs)))):=zR rfl
@[simp] theorem bF4 (ds:List D):owL (some (.ow false (.lst ds)))=some ds:=zR rfl
noncomputable def aG4 (i:Nat) (x:D) (ρ:En) (o:Option (List D)):Option Res:=bnd o λ ds=>if ds.length<1000000 then some (.nx (ρ.set i (.ow false (.lst (ds++[x]))))) else none
noncomputable def aG5 (i:Nat) (o:Option (D×En)):Option Res:=bnd o λ p=>aG4 i p.1 p.2 (owL p.2[i]?)
noncomputable def aU7 (i:Nat) (F:FE) (ρ:En) (o:Option (List D)):Option Res:=bnd o λ _=>aG5 i (F ρ)
@[simp] theorem bE3 (i:Nat) (F:FE) (ρ:En):at8 i F ρ=aU7 i F ρ (owL ρ[i]?):=zR rfl
@[simp] theorem bk3 (i:Nat) (F:FE) (ρ:En) (ds:List D):aU7 i F ρ (some ds)=aG5 i (F ρ):=zR rfl
@[simp] theorem bk2 (i:Nat) (x:D) (ρ:En):aG5 i (some (x,ρ))=aG4 i x ρ (owL ρ[i]?):=zR rfl
@[simp] theorem bk1 (i:Nat) (x:D) (ρ:En) (ds:List D):aG4 i x ρ (some ds)=if ds.length<1000000 then some (.nx (ρ.set i (.ow false (.lst (ds++[x]))))) else none:=zR rfl
noncomputable def bo3 (i:Nat) (ρ:En):Option Sl->En
 |some (.ow false (.lst ds))=>ρ.set i (.im (.lst ds))
 |_=>ρ
@[simp] theorem bK9 (i:Nat) (ρ:En):frz i ρ=bo3 i ρ ρ[i]?:=by unfold frz bo3;split <;> simp_all
@[simp] theorem bw6 (i:Nat) (ρ:En) (ds:List D):bo3 i ρ (some (.ow false (.lst ds)))=ρ.set i (.im (.lst ds)):=zR rfl
@[simp] theorem bE1 (i:Nat) (F:FS) (ρ:En):aG2 i F ρ=F (frz i ρ):=zR rfl
end Fx
namespace Fx
open PySem PySem.Spec PyProof.Rows L2
theorem RS.heNone {K:Frag}{c:FC}{H0 H:Hp}{ρ:En}{σ:L2.St} (R:RS K c H0 H ρ σ) {p:Addr} (z:H p=none):c.He p=none:=by
 cases q:c.He p with
 |none=>rfl
 |some u =>
  by_cases hb:p∈c.Ap
  ·exact absurd z (R.apt p hb)
  ·rw[R.keep p u q hb] at z;cases z
theorem RS.setOwn {K:Frag}{c:FC}{H0 H:Hp}{ρ:En}{σ:L2.St}{p:Addr}{u:HO}{o:MO} (R:RS K c H0 H ρ σ) (i:Nat) (hp:H p=none) (r:OwOk K H0 (upd H p u) p o) :
  RS K c H0 (upd H p u) (ρ.set i (.ow false o)) (σ.set i (some (.ref p))):=by
 have hl:=R.len;have h0:H0 p=none:=R.same.free hp;have he:=R.heNone hp;have up:∀ b v,H b=some v->(upd H p u) b=some v:=λ b v e=>by rw[a_8 (c_1 e hp)];exact e
 have S:∀ (j:Nat) (sl:Sl),j≠i->(ρ.set i (.ow false o))[j]?=some sl->ρ[j]?=some sl:=λ j sl Y e=>by rwa [List.getElem?_set_ne (Ne.symm Y)] at e
 have O:∀ (j:Nat),j≠i->(σ.set i (some (V.ref p)))[j]?=σ[j]?:=λ j Y=>List.getElem?_set_ne (Ne.symm Y)
 have Z:∀ (sl:Sl),(ρ.set i (.ow false o))[i]?=some sl->sl=.ow false o/\i<ρ.length:=λ sl e=>by
  by_cases hi:i<ρ.length
  ·rw[List.getElem?_set_self hi] at e;exact⟨(qi e).symm,hi⟩
  ·rw[List.getElem?_eq_none (by rw[List.length_set];omega)] at e;cases e
 have aa:∀ (j:Nat) (b:Bool) (o:MO) (a:Addr),ρ[j]?=some (.ow b o)->σ[j]?=some (some (.ref a))->a≠p:=λ j b o a e1 e2=>by
  obtain⟨a',x,_,_,w⟩:=R.ow j b o e1;rw[x] at e2;cases e2;obtain⟨u,q⟩:=w.some;exact c_1 q hp
 refine⟨λ b u e=>up b u (R.same b u e),R.init,R.fresh,λ b o e n=>up b o (R.keep b o e n),λ a ha e=>?_,by rw[List.length_set,List.length_set,hl],λ j d' e=>?_,λ j bb o' e=>?_,λ j k b1 b2 o1 o2 a e1 e2 e3 e4=>?_⟩
 ·cases q:H a with
  |none=>exact R.apt a ha q
  |some v=>rw[up a v q] at e;cases e
 ·by_cases Y:j=i
  ·subst Y;obtain⟨e',_⟩:=Z _ e;cases e'
  ·rw[O j Y];exact R.im j d' (S j _ Y e)
 ·by_cases Y:j=i
  ·subst Y
   obtain⟨e',hi⟩:=Z _ e;cases e';exact⟨p,by rw[List.getElem?_set_self (by omega)],h0,he,r⟩
  ·rw[O j Y]
   obtain⟨a,x,y,z,w⟩:=R.ow j bb o' (S j _ Y e);exact⟨a,x,y,z,w.step (Same.refl _) λ v q=>up a v q⟩
 ·by_cases Y:j=i
  ·by_cases hk:k=i
   ·omega
   ·subst Y
    obtain⟨_,hi⟩:=Z _ e1;rw[List.getElem?_set_self (by omega)] at e3
    cases e3;rw[O k hk] at e4;exact absurd rfl (aa k b2 o2 _ (S k _ hk e2) e4)
  ·by_cases hk:k=i
   ·subst hk
    obtain⟨_,hi⟩:=Z _ e2;rw[List.getElem?_set_self (by omega)] at e4
    cases e4;rw[O j Y] at e3;exact absurd rfl (aa j b1 o1 _ (S j _ Y e1) e3)
   ·rw[O j Y] at e3;rw[O k hk] at e4
    exact R.ne j k b1 b2 o1 o2 a (S j _ Y e1) (S k _ hk e2) e3 e4
theorem RS.lent {K:Frag}{c:FC}{H0 H H0' H':Hp}{ρ:En}{σ:L2.St}{a:Addr}{b:Bool}{o o':MO} (R:RS K c H0 H ρ σ) {i:Nat} (hi:ρ[i]?=some (.ow b o)) (ha:σ[i]?=some (some (.ref a)))
  (s0:Same H0 H0') (s':Same H0' H') (kp:∀ x u,H x=some u->x≠a->H' x=some u) (fr:∀ x u,H0' x=some u->H0 x=some u\/H x=none) (r:OwOk K H0' H' a o') :
  RS K c H0' H' (ρ.set i (.ow b o')) σ:=by
 obtain⟨a',x,y,z,w⟩:=R.ow i b o hi;rw[ha] at x;cases x;obtain⟨ua,qa⟩:=w.some;have il:i<ρ.length:=(List.getElem?_eq_some_iff.mp hi).1
 have n0:∀ x,H0 x=none->H x≠none->H0' x=none:=λ x h1 h2=>by
  cases q:H0' x with
  |none=>rfl
  |some u =>
   rcases fr x u q with h | h
   ·rw[h1] at h;cases h
   ·exact absurd h h2
 have O:∀ (j:Nat) (sl:Sl),j≠i->(ρ.set i (.ow b o'))[j]?=some sl->ρ[j]?=some sl:=λ j sl S e=>by rwa [List.getElem?_set_ne (Ne.symm S)] at e
 have Y:∀ (sl:Sl),(ρ.set i (.ow b o'))[i]?=some sl->sl=.ow b o':=λ sl e=>by
  rw[List.getElem?_set_self il] at e;exact (qi e).symm
 have aa:∀ (j:Nat) (Z:Bool) (oo:MO),(ρ.set i (.ow b o'))[j]?=some (.ow Z oo)->∃ Z ab,ρ[j]?=some (.ow Z ab):=λ j Z oo e=>by
  by_cases S:j=i
  ·exact⟨b,o,by rw[S];exact hi⟩
  ·exact⟨Z,oo,O j _ S e⟩
 refine⟨s',R.init.trans s0,λ x u e=>?_,λ x u e n=>?_,λ x hx e=>?_,by rw[List.length_set];exact R.len,λ j d' e=>?_,λ j Z oo e=>?_,λ j k b1 b2 o1 o2 x e1 e2 e3 e4=>?_⟩
 ·rcases fr x u e with h | h
  ·exact R.fresh x u h
  ·exact .inr (R.heNone h)
 ·have:x≠a:=λ h=>by
   cases b with
   |true=>exact n (h▸z)
   |false =>
    have z':c.He a=none:=z;rw[h,z'] at e;cases e
  exact kp x u (R.keep x u e n) this
 ·by_cases h:x=a
  ·obtain⟨u,q⟩:=r.some
   rw[h,q] at e;cases e
  ·cases q:H x with
   |none=>exact R.apt x hx q
   |some u=>rw[kp x u q h] at e;cases e
 ·by_cases S:j=i
  ·subst S;cases Y _ e
  ·obtain⟨v,a1,a2⟩:=R.im j d' (O j _ S e)
   exact⟨v,a1,Rep.mono s0 _ a2⟩
 ·by_cases S:j=i
  ·subst S
   cases Y _ e;exact⟨a,ha,n0 a y (by rw[qa];intro h;cases h),z,r⟩
  ·have q':=O j _ S e
   obtain⟨x,x1,y1,z1,w1⟩:=R.ow j Z oo q';have nx:x≠a:=λ h=>S (R.ne j i Z b oo o x q' hi x1 (by rw[h];exact ha))
   obtain⟨u,qu⟩:=w1.some;exact⟨x,x1,n0 x y1 (by rw[qu];intro h;cases h),z1,w1.step s0 λ v q=>kp x v q nx⟩
 ·obtain⟨_,p,e1⟩:=aa j b1 o1 e1
  obtain⟨_,q,e2⟩:=aa k b2 o2 e2;exact R.ne j k _ _ p q x e1 e2 e3 e4
theorem RS.mutOwn {K:Frag}{c:FC}{H0 H:Hp}{ρ:En}{σ:L2.St}{a:Addr}{b:Bool}{o o':MO}{u:HO} (R:RS K c H0 H ρ σ) {i:Nat} (hi:ρ[i]?=some (.ow b o)) (ha:σ[i]?=some (some (.ref a))) (r:OwOk K H0 (upd H a u) a o') :
  RS K c H0 (upd H a u) (ρ.set i (.ow b o')) σ:=by
 obtain⟨O,x,y,z,w⟩:=R.ow i b o hi;rw[ha] at x;cases x;refine R.lent hi ha (Same.refl _) (λ x v e=>?_) (λ x v e n=>by rw[a_8 n];exact e) (λ x v e=>.inl e) r
 have:x≠a:=λ h=>by rw[h,y] at e;cases e
 rw[a_8 this];exact R.same x v e
theorem RS.freeze {K:Frag}{c:FC}{H0 H:Hp}{ρ:En}{σ:L2.St}{ds:List D} (R:RS K c H0 H ρ σ) {i:Nat} (hi:ρ[i]?=some (.ow false (.lst ds))) :
  ∃ H0',Same H0 H0'/\RS K c H0' H (ρ.set i (.im (.lst ds))) σ:=by
 obtain⟨a,x,y,z,vs,e,r⟩:=R.ow i _ _ hi;have he:c.He a=none:=z;have il:i<ρ.length:=(List.getElem?_eq_some_iff.mp hi).1;have s0:Same H0 (upd H0 a (.lst vs)):=λ b u q=>by rw[a_8 (c_1 q y)];exact q
 have O:∀ (j:Nat) (Z:Sl),j≠i->(ρ.set i (.im (.lst ds)))[j]?=some Z->ρ[j]?=some Z:=λ j Z Y e=>by rwa [List.getElem?_set_ne (Ne.symm Y)] at e
 have S:∀ (Z:Sl),(ρ.set i (.im (.lst ds)))[i]?=some Z->Z=.im (.lst ds):=λ Z e=>by
  rw[List.getElem?_set_self il] at e;exact (qi e).symm
 refine⟨upd H0 a (.lst vs),s0,λ b u q=>?_,R.init.trans s0,λ b u q=>?_,R.keep,R.apt,by rw[List.length_set];exact R.len,λ j d' q=>?_,λ j bb o' q=>?_,λ j k b1 b2 o' aa b e1 e2 e3 e4=>?_⟩
 ·by_cases h:b=a
  ·subst h;rw[a_7] at q;cases q;exact e
  ·rw[a_8 h] at q;exact R.same b u q
 ·by_cases h:b=a
  ·subst h;exact .inr he
  ·rw[a_8 h] at q;exact R.fresh b u q
 ·by_cases Y:j=i
  ·subst Y
   cases S _ q;refine⟨.ref a,x,?_⟩;unfold Rep;exact⟨a,vs,rfl,.inl (.inl a_7),Reps.mono s0 _ r⟩
  ·obtain⟨v,a1,a2⟩:=R.im j d' (O j _ Y q)
   exact⟨v,a1,Rep.mono s0 _ a2⟩
 ·by_cases Y:j=i
  ·subst Y;cases S _ q
  ·have q':=O j _ Y q
   obtain⟨b,x1,y1,z1,w1⟩:=R.ow j bb o' q';have nb:b≠a:=λ h=>Y (R.ne j i bb false o' _ b q' hi x1 (by rw[h];exact x))
   exact⟨b,x1,by rw[a_8 nb];exact y1,z1,w1.step s0 λ u q=>q⟩
 ·by_cases Y:j=i
  ·subst Y;cases S _ e1
  ·by_cases hk:k=i
   ·subst hk;cases S _ e2
   ·exact R.ne j k b1 b2 o' aa b (O j _ Y e1) (O k _ hk e2) e3 e4
noncomputable def tEo (K:Frag) (A:FA):TE:=λ σ H Q=>∃ c H0 ρ ds z,RS K c H0 H ρ σ/\A ρ=some (ds,z)/\∀ p vs H0' H',Same H0 H0'->RS K c H0' H' z σ->H' p=none->Reps K H0' ds vs->Q (.ref p) (upd H' p (.lst vs))
noncomputable def XO' (X:Cx) (e:Expr) (A:FA):Prop:=PE X e (tEo X.K A)
theorem aj3 {o:Option Sl}{ds:List D} (h:owL o=some ds):o=some (.ow false (.lst ds)):=by
 unfold owL at h
 split at h
 ·cases h;rfl
 ·cases h
section
variable {X:Cx}{pos:Pos}{e:Expr}{F:FE}{T:FT}{A B:FA}
theorem ag5 {es:List Expr} (h:XA X es A):XO' X (.List es pos) (aC2 A):=PE.wk (aj1 h) λ σ H Q z=>by
 obtain⟨c,H0,ρ,ds,S,R,f,q⟩:=z;unfold aC2 at f;obtain⟨⟨ab,aa⟩,h1,f⟩:=a_1 f;obtain⟨hl,f'⟩:=ifs f;cases f';exact⟨c,H0,ρ,ds,_,R,h1,λ vs H1 Hh Z Y O=>⟨by rw[<- O.length];exact aF6 hl,λ p hp=>q p vs H1 Hh Z Y hp O⟩⟩
theorem aR9 (i:Nat) {x:Str}{pos':Pos} (hN:X.N.Nodup) (S:XO' X e A) (hi:X.N[i]?=some x:=by rfl) (hx:Loc X.env.scope x:=by first | exact Or.inl rfl | exact Or.inr rfl) (Z:swapsWith e (some (.Name x pos')) pos.line X.env=pure false:=by rfl)
  (hf:X.fn x=true\/X.env.scope.names.lookup x=some .local:=by first | exact .inl rfl | exact .inr rfl):XS X (.Assign [.Name x pos'] e pos) (aB5 i A):=PS.wk (Z_7 hN hi hx S Z hf) λ Dn σ H z=>by
 obtain⟨c,H0,ρ,r,R,f,q⟩:=z;unfold aB5 at f;obtain⟨⟨ds,O⟩,h1,f⟩:=a_1 f;have f':some (Res.nx (O.set i (.ow false (.lst ds))))=some r:=f;cases f';exact⟨c,H0,ρ,ds,O,R,h1,λ p vs H1 Hh s1 Y hp r1=>q _ H1 _ s1 (Y.setOwn (o:=.lst ds) (u:=.lst vs) i hp ⟨vs,a_7,r1⟩)⟩
theorem aQ2 (i:Nat) {x:Str}{Y p2 S:Pos} (ha:XA X [e] (aC F aN)) (hN:X.N[i]?=some x:=by rfl) (hv:Vis X.env.scope x:=by first | exact Or.inl rfl | exact Or.inr (Or.inl rfl) | exact Or.inr (Or.inr rfl)) (hd:(x==("__debug__":Str))=false:=by decide)
  (af:(x==("__classdict__":Str))=false:=by decide) (O:attributeBase (.Name x Y) "append" X.env (eval (.Name x Y) X.env)=eval (.Name x Y) X.env:=by rfl)
  (aa:((backTo S (starEach [e] X.env)).all (λ x=>!x.1)&&(backToKw S (keywordEach [] X.env)).all (λ x=>x.1.isSome)&&decide ([e].length+([]:List Keyword).length+(if ([]:List Keyword).isEmpty then 0 else 1)<30))=true:=by rfl)
  (z:(p2.endLine==S.line)=true:=by rfl) (ab:starEach [e] X.env=(false,eval e X.env)::starEach [] X.env:=by rfl) (ae:(backTo S (starEach [] X.env)).any (·.1)=false:=by rfl)
  (hs:swapsWith (.Call (.Attribute (.Name x Y) "append" p2) [e] [] S) none pos.line X.env=pure false:=by rfl) :
  XS X (.Expr (.Call (.Attribute (.Name x Y) "append" p2) [e] [] S) pos) (at8 i F) :=
 PS.wk (U_7 (aX7 PySem.F.plainAttrs_list PySem.F.slot_list_append PySem.F.type_list_append Q_9 (s_9 hN hv hd af) ha O aa z ab ae) hs) λ Dn σ H Z=>by
  obtain⟨c,H0,ρ,r,R,f,q⟩:=Z;unfold at8 at f;obtain⟨ag,h0,f⟩:=a_1 f;obtain⟨⟨d,ad⟩,h1,f⟩:=a_1 f;obtain⟨ds,h2,f⟩:=a_1 f;dsimp only at h2 f;obtain⟨hl,f'⟩:=ifs f;cases f';obtain⟨a,x1,_,_,ac,y1,_⟩:=R.ow i _ _ (aj3 h0);refine⟨.ref a,x1,.inl ⟨rfl,ac,SqL.of y1⟩,c,H0,ρ,[d],ad,R,by unfold aC aN;rw[h1];rfl,λ vs H1 Hh s1 R1 r1=>?_⟩
  obtain⟨v,rfl,rv⟩:=Reps.v1 r1;obtain⟨a',x2,_,_,ws,y2,z2⟩:=R1.ow i _ _ (aj3 h2);rw[x1] at x2;cases x2;refine⟨a,ws,v,rfl,rfl,y2,?_,?_⟩
  ·rw[<- z2.length]
   exact qp hl (by rw[sizeLine_eq];decide)
  ·exact q σ H1 _ s1 (R1.mutOwn (o':=.lst (ds++[d])) (u:=.lst (ws++[v])) (aj3 h2) x1 ⟨_,a_7,z2.app (Reps.one rv)⟩)
theorem bf3 (i:Nat) {st:Stmt}{G:FS} (h:XS X st G):XS X st (aG2 i G):=PS.wk h λ Dn σ H O=>by
 obtain⟨c,H0,ρ,r,R,f,q⟩:=O;unfold aG2 frz at f;cases z:ρ[i]? with
 |none=>rw[z] at f;exact⟨c,H0,ρ,r,R,f,q⟩
 |some Z =>
  rw[z] at f;cases Z with
  |no=>exact⟨c,H0,ρ,r,R,f,q⟩
  |im d=>exact⟨c,H0,ρ,r,R,f,q⟩
  |ow b o =>
   cases b with
   |true=>exact⟨c,H0,ρ,r,R,f,q⟩
   |false =>
   cases o with
   |dic kds=>exact⟨c,H0,ρ,r,R,f,q⟩
   |dtu kds=>exact⟨c,H0,ρ,r,R,f,q⟩
   |lst ds =>
    obtain⟨H0',Y,S⟩:=R.freeze z;exact⟨c,H0',_,r,S,f,q.mono Y⟩
end
end Fx
namespace Fx
open PySem
noncomputable def atS (z:Str) (i:Int):Option D:=if z.length<=sizeLine then bnd (bnd (dPl z.cps.toList.length i) λ j=>z.cps.toList[j]?) λ c=>some (.str (chS c)) else none
noncomputable def b_1:D->D->Option D
 |.tup xs,.int i=>atD xs i
 |.lst xs,.int i=>atD xs i
 |.str z,.int i=>atS z i
 |_,_=>none
noncomputable def G_7:List D->Option D
 |[.lst xs]=>some (.int xs.length)
 |[.tup xs]=>some (.int xs.length)
 |[.str z]=>if z.length<=sizeLine then some (.int z.length) else none
 |_=>none
noncomputable def R_9:D->Bool
 |.opq _ _=>false
 |.dct _ _=>false
 |.tup _=>false
 |.lst _=>false
 |_=>true
noncomputable def inD (x:D) (xs:List D):Bool:=xs.any λ y=>eqD y x
noncomputable def T_6 (x:D) (xs:List D):Bool:=R_9 x&&xs.all R_9
noncomputable def dIn:D->D->Option D
 |x,.tup xs=>if T_6 x xs=true then some (.bl (inD x xs)) else none
 |x,.lst xs=>if T_6 x xs=true then some (.bl (inD x xs)) else none
 |_,_=>none
noncomputable def ac4:List D->Option D
 |[.lst xs]=>some (.tup xs)
 |[.tup xs]=>some (.tup xs)
 |_=>none
noncomputable def X_1:List D->Option D
 |[.lst xs]=>some (.lst xs)
 |[.tup xs]=>some (.lst xs)
 |_=>none
@[simp] theorem bA1 (xs:List D) (i:Int):b_1 (.tup xs) (.int i)=atD xs i:=zR rfl
@[simp] theorem bA2 (xs:List D) (i:Int):b_1 (.lst xs) (.int i)=atD xs i:=zR rfl
@[simp] theorem aP5 (xs:List D):G_7 [.lst xs]=some (.int xs.length):=zR rfl
@[simp] theorem bs0 (xs:List D):X_1 [.lst xs]=some (.lst xs):=zR rfl
end Fx
namespace Fx
open PySem PySem.Spec PyProof.Rows L2
section
variable {X:Cx}{K:Frag}
theorem U_5 (H:Hp) (x:Str):Rep K H (.str x) (.str x):=by unfold Rep;rfl
theorem bG4:OpD K (rIx K) b_1:=λ c H0 H ρ σ x y d Y Z Q R O S e q=>by
 cases y with
 |int i =>
  unfold Rep at S;subst S;cases x with
  |tup ds =>
   unfold Rep at O;obtain⟨p,vs,rfl,s,t⟩:=O;obtain⟨v,e1,e2⟩:=be8 t e;exact .inr (.inl ⟨p,vs,i,v,rfl,rfl,Same.seqT R.same s,e1,q v H0 H (Same.refl _) R e2⟩)
  |lst ds =>
   unfold Rep at O;obtain⟨p,vs,rfl,s,t⟩:=O;obtain⟨v,e1,e2⟩:=be8 t e;exact .inl ⟨p,vs,i,v,rfl,rfl,Same.seq R.same s,e1,q v H0 H (Same.refl _) R e2⟩
  |str z =>
   unfold Rep at O;subst O;have e:atS z i=some d:=e;unfold atS at e
   by_cases hz:z.length<=sizeLine
   ·rw[if_pos hz] at e
    obtain⟨ch,e1,e2⟩:=a_1 e;have e2:some (D.str (chS ch))=some d:=e2;cases e2;exact .inr (.inr ⟨z,i,ch,rfl,rfl,hz,e1,q _ H0 H (Same.refl _) R (U_5 H0 (chS ch))⟩)
   ·rw[if_neg hz] at e;cases e
  |_=>cases e
 |_=>cases x <;> cases e
variable {a b:Expr}{F G:FE}{pos:Pos}
theorem c_2 (ha:XE X a F) (hb:XE X b G) (z:X_4 b:=by intro _ _;rfl):XE X (.Subscript a b pos) (e2 b_1 F G):=PE.wk (aI0 bb8 ha hb z) λ σ H Q h=>Y_0 bG4 h
theorem x_5:BOk X (.builtin "len") G_7:=⟨_,call_len_seq.or S_4,λ c H0 H ρ σ ds d vs Q R r e q=>by
 unfold G_7 at e
 split at e
 ·cases e
  obtain⟨v,rfl,O⟩:=Reps.v1 r;unfold Rep at O;obtain⟨p,S,rfl,s,t⟩:=O;exact .inl ⟨p,S,rfl,.inl (Same.seq R.same s),by rw[<- t.length];exact q _ H0 H (Same.refl _) R (h_1 _ _)⟩
 ·cases e
  obtain⟨v,rfl,O⟩:=Reps.v1 r;unfold Rep at O;obtain⟨p,S,rfl,s,t⟩:=O;exact .inl ⟨p,S,rfl,.inr (Same.seqT R.same s),by rw[<- t.length];exact q _ H0 H (Same.refl _) R (h_1 _ _)⟩
 ·rename_i z
  obtain⟨hz,rfl⟩:=ifs e;obtain⟨v,rfl,O⟩:=Reps.v1 r;unfold Rep at O;subst O;exact .inr ⟨z,rfl,hz,q _ H0 H (Same.refl _) R (h_1 _ _)⟩
 ·cases e⟩
theorem xTy {T:String}{g:List D → Option D}{A:FA}{x:Str}{p:Pos}{e:Expr}{es:List Expr} (o:BOk X (.type T) g) (Z:Gl X x) (hm:X.mg x=none) (hv:bootBuiltins x=some (.type T)) (ha:XA X (e::es) A) (Y:x≠"__name__":=by decide) (z:(x==("__debug__":Str))=false:=by decide)
  (S:starEach (e::es) X.env=(false,eval e X.env)::starEach es X.env:=by rfl) (O:(backTo pos (starEach es X.env)).any (·.1)=false:=by rfl):XE X (.Call (.Name x p) (e::es) [] pos) (eF g A):=by
 obtain⟨r,h1,h2⟩:=o;exact PE.wk (D_9 h1 Z hm hv ha Y z S O) λ σ H Q h=>bd3 h2 h
theorem ac0:BOk X (.type "list") X_1:=⟨_,S_3,λ c H0 H ρ σ ds d vs Q R r e q=>by
 unfold X_1 at e
 split at e
 ·cases e
  obtain⟨v,rfl,z⟩:=Reps.v1 r;unfold Rep at z;obtain⟨p,O,rfl,s,t⟩:=z;refine⟨p,O,rfl,.inl (Same.seq R.same s),λ l hl=>?_⟩
  have S:=Step.alloc (o:=.lst O) R.same hl;refine q _ _ _ S.s0 (R.after S) ?_;unfold Rep;exact⟨l,_,rfl,.inl (.inl a_7),Reps.mono S.s0 _ t⟩
 ·cases e
  obtain⟨v,rfl,z⟩:=Reps.v1 r;unfold Rep at z;obtain⟨p,O,rfl,s,t⟩:=z;refine⟨p,O,rfl,.inr (Same.seqT R.same s),λ l hl=>?_⟩
  have S:=Step.alloc (o:=.lst O) R.same hl;refine q _ _ _ S.s0 (R.after S) ?_;unfold Rep;exact⟨l,_,rfl,.inl (.inl a_7),Reps.mono S.s0 _ t⟩
 ·cases e⟩
theorem S_5:BOk X (.type "tuple") ac4:=⟨_,N_3,λ c H0 H ρ σ ds d vs Q R r e q=>by
 unfold ac4 at e
 split at e
 ·cases e
  obtain⟨v,rfl,z⟩:=Reps.v1 r;unfold Rep at z;obtain⟨p,O,rfl,s,t⟩:=z;refine⟨p,O,rfl,.inl ⟨Same.seq R.same s,λ l hl=>?_⟩⟩
  have S:=Step.alloc (o:=.tup O) R.same hl;refine q _ _ _ S.s0 (R.after S) ?_;unfold Rep;exact⟨l,_,rfl,.inl (.inl a_7),Reps.mono S.s0 _ t⟩
 ·cases e
  obtain⟨v,rfl,z⟩:=Reps.v1 r;have Y:=z;unfold Rep at z;obtain⟨p,O,rfl,s,t⟩:=z;exact⟨p,O,rfl,.inr ⟨Same.seqT R.same s,q _ H0 H (Same.refl _) R Y⟩⟩
 ·cases e⟩
theorem M_9 {H:Hp}{d:D}{v:V} (h:R_9 d=true) (r:Rep K H d v):I_1 v=true/\∀ d' z,R_9 d'=true->Rep K H d' z->eqV v z=eqD d d':=by
 cases d with
 |tup xs=>cases h
 |lst xs=>cases h
 |opq=>cases h
 |dct ks vs=>cases h
 |_ =>
  unfold Rep at r;subst r;refine⟨rfl,λ d' z h' O=>?_⟩
  cases d' with
  |tup xs=>cases h'
  |lst xs=>cases h'
  |opq=>cases h'
  |dct ks vs=>cases h'
  |_ =>
   unfold Rep at O;subst O
   first
    |(simp[eqV];done)
    |(simp[eqV,eqD];done)
    |(simp[eqV,eqD,Bool.beq_eq_decide_eq];done)
    |(unfold eqV;simp)
theorem am3 {H:Hp}{x:D}{v:V} (z:R_9 x=true) (r:Rep K H x v):∀ {ds:List D}{vs:List V},ds.all R_9=true->Reps K H ds vs->vs.all I_1=true/\inV v vs=inD x ds
 |[],vs,_,t=>by
  unfold Reps at t;subst t;exact⟨rfl,rfl⟩
 |d::ds,vs,h,t=>by
  unfold Reps at t;obtain⟨u,us,rfl,Y,S⟩:=t;rw[List.all_cons,Bool.and_eq_true] at h;obtain⟨i1,O⟩:=am3 z r h.2 S;obtain⟨Z,f2⟩:=M_9 h.1 Y;refine⟨by rw[List.all_cons,Z,i1];rfl,?_⟩
  unfold inV inD at *;rw[List.any_cons,List.any_cons,f2 x v z r,O]
theorem bc1 {z:Bool}{f:D->D->Option D} (hf:∀ x y d,f x y=some d->∃ xs,(y=.tup xs\/y=.lst xs)/\T_6 x xs=true/\d=.bl (if z then !inD x xs else inD x xs)):OpD K (rIn K z) f:=λ c H0 H ρ σ x y d vx vy Q R S O e q=>by
 obtain⟨xs,hy,ok,rfl⟩:=hf x y d e;unfold T_6 at ok;rw[Bool.and_eq_true] at ok
 rcases hy with rfl | rfl
 ·unfold Rep at O
  obtain⟨p,ws,rfl,s,t⟩:=O;obtain⟨Z,Y⟩:=am3 ok.1 S ok.2 t;exact⟨p,ws,rfl,.inr (Same.seqT R.same s),(M_9 ok.1 S).1,Z,by rw[Y];exact q _ H0 H (Same.refl _) R (u_8 _ _)⟩
 ·unfold Rep at O
  obtain⟨p,ws,rfl,s,t⟩:=O;obtain⟨Z,Y⟩:=am3 ok.1 S ok.2 t;exact⟨p,ws,rfl,.inl (Same.seq R.same s),(M_9 ok.1 S).1,Z,by rw[Y];exact q _ H0 H (Same.refl _) R (u_8 _ _)⟩
end
end Fx
namespace Fx
open PySem
noncomputable def bo1 (k:Str):List (Str×D)->Option D
 |[]=>none
 |q::r=>if q.1=k then some q.2 else bo1 k r
noncomputable def owO:Option Sl->Option (Bool×MO)
 |some (.ow b o)=>some (b,o)
 |_=>none
noncomputable def eFb (i:Nat) (g:MO->List D->Option (D×MO)) (A:FA) (ρ:En):Option (D×En):=bnd (owO ρ[i]?) λ _=>bnd (A ρ) λ p=>bnd (owO p.2[i]?) λ q=>bnd (g q.2 p.1) λ z=>some (z.1,p.2.set i (.ow q.1 z.2))
noncomputable def bl1:Res->Option (D×MO)
 |.rt d ρ=>bnd (owO ρ[0]?) λ q=>if q.1=true then some (d,q.2) else none
 |.nx ρ=>bnd (owO ρ[0]?) λ q=>if q.1=true then some (.non,q.2) else none
 |_=>none
noncomputable def fnB (n k:Nat) (B:FS) (o:MO) (ds:List D):Option (D×MO):=if ds.length=n then bnd (B (.ow true o::(ds.map .im++List.replicate k .no))) λ r=>bl1 r else none
noncomputable def V_5:Sl->Bool
 |.ow _ _=>false
 |_=>true
noncomputable def av8 (A:FS) (F:En->Option MO) (ρ:En):Option MO:=bnd (A ρ) λ r=>match r with
 |.nx z=>F z
 |_=>none
noncomputable def fnN (n k:Nat) (F:En->Option MO) (ds:List D):Option MO:=if ds.length=n then F (ds.map .im++List.replicate k .no) else none
noncomputable def aU3 (i:Nat) (g:List D->Option MO) (A:FA) (ρ:En):Option Res:=bnd (A ρ) λ p=>bnd (g p.1) λ o=>some (.nx (p.2.set i (.ow false o)))
@[simp] theorem bF3 (b:Bool) (o:MO):owO (some (.ow b o))=some (b,o):=zR rfl
noncomputable def bq3 (i:Nat) (ρ:En) (b:Bool) (o:Option (D×MO)):Option (D×En):=bnd o λ z=>some (z.1,ρ.set i (.ow b z.2))
noncomputable def bq4 (i:Nat) (g:MO->List D->Option (D×MO)) (ds:List D) (ρ:En) (o:Option (Bool×MO)):Option (D×En):=bnd o λ q=>bq3 i ρ q.1 (g q.2 ds)
noncomputable def bq5 (i:Nat) (g:MO->List D->Option (D×MO)) (o:Option (List D×En)):Option (D×En):=bnd o λ p=>bq4 i g p.1 p.2 (owO p.2[i]?)
noncomputable def bz1 (i:Nat) (g:MO->List D->Option (D×MO)) (A:FA) (ρ:En) (o:Option (Bool×MO)):Option (D×En):=bnd o λ _=>bq5 i g (A ρ)
@[simp] theorem bL8 (i:Nat) (g:MO->List D->Option (D×MO)) (A:FA) (ρ:En):eFb i g A ρ=bz1 i g A ρ (owO ρ[i]?):=zR rfl
@[simp] theorem bz0 (i:Nat) (g:MO->List D->Option (D×MO)) (A:FA) (ρ:En) (q:Bool×MO):bz1 i g A ρ (some q)=bq5 i g (A ρ):=zR rfl
@[simp] theorem by9 (i:Nat) (g:MO->List D->Option (D×MO)) (ds:List D) (ρ:En):bq5 i g (some (ds,ρ))=bq4 i g ds ρ (owO ρ[i]?):=zR rfl
@[simp] theorem by8 (i:Nat) (g:MO->List D->Option (D×MO)) (ds:List D) (ρ:En) (b:Bool) (o:MO):bq4 i g ds ρ (some (b,o))=bq3 i ρ b (g o ds):=zR rfl
@[simp] theorem by7 (i:Nat) (ρ:En) (b:Bool) (d:D) (o:MO):bq3 i ρ b (some (d,o))=some (d,ρ.set i (.ow b o)):=zR rfl
noncomputable def aG1 (i:Nat) (ρ:En) (o:Option MO):Option Res:=bnd o λ o=>some (.nx (ρ.set i (.ow false o)))
noncomputable def aU2 (i:Nat) (g:List D->Option MO) (o:Option (List D×En)):Option Res:=bnd o λ p=>aG1 i p.2 (g p.1)
@[simp] theorem bE0 (i:Nat) (g:List D->Option MO) (A:FA) (ρ:En):aU3 i g A ρ=aU2 i g (A ρ):=zR rfl
@[simp] theorem bj7 (i:Nat) (g:List D->Option MO) (ds:List D) (ρ:En):aU2 i g (some (ds,ρ))=aG1 i ρ (g ds):=zR rfl
@[simp] theorem bj6 (i:Nat) (ρ:En) (o:MO):aG1 i ρ (some o)=some (.nx (ρ.set i (.ow false o))):=zR rfl
end Fx
namespace Fx
open PySem PySem.Spec PyProof.Rows L2
noncomputable def bA7 (ks:List Str) (vs:List V):List (Key×V):=(ks.map Sum.inr).zip vs
theorem A_1 {o:Option Sl}{q:Bool×MO} (h:owO o=some q):o=some (.ow q.1 q.2):=by
 unfold owO at h
 split at h
 ·cases h;rfl
 ·cases h
section
variable {X:Cx}{pos:Pos}{e:Expr}{F:FE}{A:FA}
noncomputable def spB (K:Frag) (g:MO->List D->Option (D×MO)):Sp:=λ vs H Q _=>∃ z a o O ds d o',vs=.ref a::O/\Same z H/\z a=none/\OwOk K z H a o/\Reps K z ds O/\g o ds=some (d,o') /\
 ∀ v Hi' H',Same z Hi'->Same Hi' H'->(∀ b u,H b=some u->b≠a->H' b=some u)->(∀ b u,Hi' b=some u->z b=some u\/H b=none)->OwOk K Hi' H' a o'->Rep K Hi' d v->Q v H'
structure DefB (P:Program) (w:World) (K:Frag) (mg:Str->Option Value) (base:Heap) (k:Nat) (x:Str) (g:MO->List D->Option (D×MO)):Prop where
 ex:∃ f fd ps,FnOk P w K mg base CX0 k f fd ps (spB K g)/\Binds K fd ps []/\keepIn K (.ref f)=true/\mg x=some (.ref f)
theorem xFb (i:Nat) {k:Nat}{x y:Str}{g:MO->List D->Option (D×MO)}{p py pos:Pos}{es:List Expr} (G:DefB X.prog X.w X.K X.mg X.base k x g) (hr:Room k X.A) (ha:XA X es A) (hN:X.N[i]?=some y:=by rfl) (hg:Gl X x:=by rfl)
  (hv:Vis X.env.scope y:=by first | exact Or.inl rfl | exact Or.inr (Or.inl rfl) | exact Or.inr (Or.inr rfl)) (ab:(x==("__debug__":Str))=false:=by decide) (hd:(y==("__debug__":Str))=false:=by decide) (ac:(y==("__classdict__":Str))=false:=by decide)
  (aa:(backTo pos (starEach es X.env)).any (·.1)=false:=by rfl):XE X (.Call (.Name x p) (.Name y py::es) [] pos) (eFb i g A):=by
 obtain⟨f,fd,ps,F,hb,hk,hm⟩:=G.ex;refine PE.wk (K_8 F hr hg hm hk hb .nil av2 (k_3 (s_9 hN hv hd ac) ha rfl) ab rfl aa) λ σ H Q O=>?_
 obtain⟨c,H0,ρ,d,ae,R,z,q⟩:=O;unfold eFb at z;obtain⟨⟨b0,o0⟩,h0,z⟩:=a_1 z;obtain⟨⟨ds,S⟩,h1,z⟩:=a_1 z;obtain⟨⟨b,o⟩,h2,z⟩:=a_1 z;obtain⟨⟨d',o'⟩,h3,z⟩:=a_1 z;have z':some (d',S.set i (.ow b o'))=some (d,ae):=z;cases z';obtain⟨a,e1,_⟩:=R.ow i b0 o0 (A_1 h0);refine⟨_,e1,c,H0,ρ,ds,S,R,h1,λ vs H1 Hh s1 Z r1=>?_⟩
 have y2:=A_1 h2;obtain⟨a',Y,ad,af,w'⟩:=Z.ow i b o y2;rw[e1] at Y;cases Y;refine⟨H1,a,o,vs,ds,d,o',by rw[List.append_nil],Z.same,ad,w',r1,h3,λ v Hi' H' s2 s3 kp fr ok rv=>?_⟩
 exact q v Hi' H' (s1.trans s2) (Z.lent y2 e1 s2 s3 kp fr ok) rv
end
theorem RS.startB {K:Frag}{S H:Hp}{ds:List D}{vs:List V}{a:Addr}{o:MO}{m n:Nat} (s:Same S H) (Z:S a=none) (ok:OwOk K S H a o) (r:Reps K S ds vs) (hn:n-(vs.length+1)=m) :
  RS K ⟨S,H,[a]⟩ S H (.ow true o::(ds.map .im++List.replicate m .no)) (some (.ref a)::(vs.map some++List.replicate (n-(vs.length+1)) none)):=by
 have R:=RS.start (n:=n-1) (m:=m) s r (by omega)
 have Y:n-1-vs.length=n-(vs.length+1):=by omega
 rw[Y] at R
 have O:∀ (i:Nat) (b:Bool) (o:MO),¬ (ds.map Sl.im++List.replicate m Sl.no)[i]?=some (.ow b o):=λ i b o e=>by
  by_cases hi:i<ds.length
  ·rw[List.getElem?_append_left (by simpa using hi),List.getElem?_map] at e
   cases z:ds[i]? with
   |none=>rw[z] at e;cases e
   |some d'=>rw[z] at e;cases e
  ·rw[List.getElem?_append_right (by simpa using Nat.le_of_not_lt hi),List.getElem?_replicate] at e
   split at e <;> cases e
 refine⟨s,Same.refl _,λ b o e=>.inl e,λ b o e _=>e,λ b hb e=>?_,?_,λ i d e=>?_,λ i b o' e=>?_,λ i j b b' o1 o2 x e1 e2 e3 e4=>?_⟩
 ·obtain⟨u,hu⟩:=ok.some
  have:b=a:=by simpa using hb
  have e:H b=none:=e;rw[this,hu] at e;cases e
 ·rw[List.length_cons,List.length_cons,R.len]
 ·cases i with
  |zero=>cases e
  |succ i=>exact R.im i d e
 ·cases i with
  |zero =>
   have e':Sl.ow true o=Sl.ow b o':=qi e;cases e';exact⟨a,rfl,Z,by rw[if_pos rfl];exact List.mem_singleton.mpr rfl,ok⟩
  |succ i=>exact absurd e (O i b o')
 ·cases i with
  |zero =>
   cases j with
   |zero=>rfl
   |succ j=>exact absurd e2 (O j _ _)
  |succ i=>exact absurd e1 (O i _ _)
theorem ab4 {P:Program}{w:World}{K:Frag}{mg:Str->Option Value}{base:Heap}{x Z:Str}{st:Stmt}{f:Addr}{fd:FuncData}{N ps:List Str}{k n m:Nat}{B:FS} (F:Fun K x Z st f fd) (S:FnScope N ps (a_0 st)) (hn:ps.length=n+1) (hN:N.length=n+1+m)
  (hb:∀ (ab:Value) (A:Around) (outer:List Env) (s:Shared) (H:Hp) (E:XK),Room k (A.deeper (envOfC Z (a_0 st) s.heap.objs.size f ab))->XSs (as2 CX0 P w K mg base N Z (a_0 st) f ab A outer s H E).nox (a_4 st) B) :
  FnOk P w K mg base CX0 (k+1) f fd ps (spB K (fnB n m B)):=by
 have ac:∀ {o:MO}{ds:List D}{z:D×MO},fnB n m B o ds=some z->ds.length=n/\∃ r,B (.ow true o::(ds.map .im++List.replicate m .no))=some r/\bl1 r=some z:=λ {o ds z} h=>by
  unfold fnB at h
  split at h
  ·rename_i hl
   obtain⟨r,h1,h2⟩:=a_1 h;exact⟨hl,r,h1,h2⟩
  ·cases h
 have fin:∀ {Hi H H0' H':Hp}{a:Addr}{o':MO}{O:En}{aa:L2.St},RS K ⟨Hi,H,[a]⟩ H0' H' O aa->O[0]?=some (.ow true o')->Same Hi H0'/\Same H0' H'/\(∀ b u,H b=some u->b≠a->H' b=some u)/\(∀ b u,H0' b=some u->Hi b=some u\/H b=none)/\OwOk K H0' H' a o' :=
  λ {Hi H H0' H' a o' O aa} R e=>by
   obtain⟨a',_,_,z,ok⟩:=R.ow 0 true o' e;rw[if_pos rfl] at z;have za:a'=a:=by simpa using z
   subst za;exact⟨R.init,R.same,λ b u h n=>R.keep b u h (by simpa using n),R.fresh,ok⟩
 refine F.ok S (λ vs H Q E h=>?_) (λ ab A outer s H vs Q E hr h=>?_)
 ·obtain⟨Hi,a,o,vr,ds,d,o',rfl,_,_,_,r,e,_⟩:=h
  rw[hn,List.length_cons,<- r.length,(ac e).1]
 ·obtain⟨Hi,a,o,vr,ds,d,o',rfl,hs,h0,ok,r,e,q⟩:=h
  obtain⟨hl,res,h1,h2⟩:=ac e;have ad:=r.length;have R:=RS.startB (n:=N.length) (m:=m) hs h0 ok r (by omega)
  refine⟨_,hb ab A outer s H E hr,⟨Hi,H,[a]⟩,Hi,_,res,R,h1,?_⟩;cases res with
  |nx O =>
   obtain⟨⟨b,oo⟩,z1,z2⟩:=a_1 (show bnd (owO O[0]?) (λ q=>if q.1=true then some (D.non,q.2) else none)=some (d,o') from h2)
   obtain⟨Y,z3⟩:=ifs z2;cases z3;have Y:b=true:=Y;subst Y;exact λ aa H0' H' s0 R=>let ⟨x1,x2,x3,x4,x5⟩:=fin R (A_1 z1);q .non H0' H' x1 x2 x3 x4 x5 (by unfold Rep;rfl)
  |rt d' O =>
   obtain⟨⟨b,oo⟩,z1,z2⟩:=a_1 (show bnd (owO O[0]?) (λ q=>if q.1=true then some (d',q.2) else none)=some (d,o') from h2)
   obtain⟨Y,z3⟩:=ifs z2;cases z3;have Y:b=true:=Y;subst Y;exact λ v aa H0' H' s0 R rv=>let ⟨x1,x2,x3,x4,x5⟩:=fin R (A_1 z1);q v H0' H' x1 x2 x3 x4 x5 rv
  |bk O=>cases h2
  |ct O=>cases h2
noncomputable def aP9 (K:Frag) (z H:Hp) (o:MO) (a:Addr) (Hi' H':Hp):Prop :=
 Same z Hi'/\Same Hi' H'/\Same H H'/\(∀ b u,Hi' b=some u->z b=some u\/H b=none)/\Hi' a=none/\H a=none/\OwOk K Hi' H' a o
noncomputable def spN (K:Frag) (g:List D->Option MO):Sp:=λ vs H Q _=>∃ z ds o,Same z H/\Reps K z ds vs/\g ds=some o/\∀ a Hi' H',aP9 K z H o a Hi' H'->Q (.ref a) H'
structure DefN (P:Program) (w:World) (K:Frag) (mg:Str->Option Value) (base:Heap) (k:Nat) (x:Str) (g:List D->Option MO):Prop where
 ex:∃ f fd ps,FnOk P w K mg base CX0 k f fd ps (spN K g)/\Binds K fd ps []/\keepIn K (.ref f)=true/\mg x=some (.ref f)
theorem RS.got {K:Frag}{c:FC}{H0 H H0' H':Hp}{ρ:En}{σ:L2.St}{a:Addr}{o:MO} (R:RS K c H0 H ρ σ) (i:Nat) (h:aP9 K H0 H o a H0' H'):RS K c H0' H' (ρ.set i (.ow false o)) (σ.set i (some (.ref a))):=by
 obtain⟨Y,s',s,fr,Z,S,ok⟩:=h;obtain⟨u,hu⟩:=ok.some
 have R2:RS K c H0' (λ b=>if b=a then none else H' b) ρ σ:=R.after ⟨Y,λ b v e=>by
  have:b≠a:=λ z=>by rw[z,S] at e;cases e
  show (if b=a then none else H' b)=some v
  rw[if_neg this];exact s b v e,λ b v e=>by
  have:b≠a:=λ z=>by rw[z,Z] at e;cases e
  show (if b=a then none else H' b)=some v;rw[if_neg this];exact s' b v e,fr⟩
 have O:upd (λ b=>if b=a then none else H' b) a u=H':=by
  funext b
  by_cases hb:b=a
  ·rw[hb,a_7,hu]
  ·rw[a_8 hb];exact if_neg hb
 have:=R2.setOwn (u:=u) (o:=o) (p:=a) i (if_pos rfl) (by rw[O];exact ok)
 rw[O] at this;exact this
section
variable {X:Cx}{pos:Pos}{e:Expr}{F:FE}{A:FA}
theorem bB2 (i:Nat) {k:Nat}{x y:Str}{g:List D->Option MO}{p pos' cpos:Pos}{es:List Expr} (hN:X.N.Nodup) (G:DefN X.prog X.w X.K X.mg X.base k x g) (hr:Room k X.A) (ha:XA X (e::es) A) (hi:X.N[i]?=some y:=by rfl) (hx:Loc X.env.scope y:=by first | exact Or.inl rfl | exact Or.inr rfl)
  (hs:swapsWith (.Call (.Name x p) (e::es) [] cpos) (some (.Name y pos')) pos.line X.env=pure false:=by rfl) (hf:X.fn y=true\/X.env.scope.names.lookup y=some .local:=by first | exact .inl rfl | exact .inr rfl)
  (hg:Gl X x:=by rfl) (S:(x==("__debug__":Str))=false:=by decide) (he:starEach (e::es) X.env=(false,eval e X.env)::starEach es X.env:=by rfl) (Y:(backTo cpos (starEach es X.env)).any (·.1)=false:=by rfl) :
  XS X (.Assign [.Name y pos'] (.Call (.Name x p) (e::es) [] cpos) pos) (aU3 i g A):=by
 obtain⟨f,fd,ps,F,hb,hk,hm⟩:=G.ex;refine PS.wk (Z_7 hN hi hx (K_8 F hr hg hm hk hb .nil av2 ha S he Y) hs hf) λ Dn σ H z=>?_
 obtain⟨c,H0,ρ,r,R,f,q⟩:=z;unfold aU3 at f;obtain⟨⟨ds,O⟩,h1,f⟩:=a_1 f;obtain⟨o,h2,f⟩:=a_1 f;have f':some (Res.nx (O.set i (.ow false o)))=some r:=f;cases f';exact⟨c,H0,ρ,ds,O,R,h1,λ vs H1 Hh s1 Z r1=>⟨H1,ds,o,Z.same,by rw[List.append_nil];exact r1,h2,λ a Hi' H' nw=>q _ Hi' H' (s1.trans nw.1) (Z.got i nw)⟩⟩
noncomputable def tN (K:Frag) (F:En->Option MO):TS:=λ S σ H=>∃ z O H0 ρ o,RS K ⟨z,O,[]⟩ H0 H ρ σ/\F ρ=some o/\∀ a H0' H',aP9 K z O o a H0' H'->S.rt (.ref a) H'
noncomputable def XN (X:Cx) (z:List Stmt) (F:En->Option MO):Prop:=PSs X z (tN X.K F)
theorem xnC {st:Stmt}{rest:List Stmt}{B:FS}{N:En->Option MO} (h1:PS X st (λ Dn σ H=>∃ S Z H0 ρ r,RS X.K ⟨S,Z,[]⟩ H0 H ρ σ/\B ρ=some r/\Post X.K ⟨S,Z,[]⟩ Dn H0 r)) (h2:XN X rest N):XN X (st::rest) (av8 B N) :=
 PSs.wk (K_5 h1 h2) λ Dn σ H Y=>by
  obtain⟨S,Z,H0,ρ,o,R,f,q⟩:=Y;unfold av8 at f;obtain⟨z,h,f⟩:=a_1 f;refine⟨S,Z,H0,ρ,z,R,h,?_⟩;cases z with
  |nx O=>exact λ aa H0' H' s R'=>⟨S,Z,H0',O,o,R',f,q⟩
  |rt d O=>cases f
  |bk O=>cases f
  |ct O=>cases f
theorem xnS {st:Stmt}{B:FS} (h:XS X st B):PS X st (λ S σ H=>∃ O z H0 ρ r,RS X.K ⟨O,z,[]⟩ H0 H ρ σ/\B ρ=some r/\Post X.K ⟨O,z,[]⟩ S H0 r) :=
 PS.wk h λ S σ H ⟨O,z,H0,ρ,r,R,f,q⟩=>⟨⟨O,z,[]⟩,H0,ρ,r,R,f,q⟩
end
theorem bc4 {P:Program}{w:World}{K:Frag}{mg:Str->Option Value}{base:Heap}{x z:Str}{st:Stmt}{f:Addr}{fd:FuncData}{N ps:List Str}{k n m:Nat}{B:En->Option MO} (F:Fun K x z st f fd) (S:FnScope N ps (a_0 st)) (hn:ps.length=n) (hN:N.length=n+m)
  (hb:∀ (O:Value) (A:Around) (outer:List Env) (s:Shared) (H:Hp) (E:XK),Room k (A.deeper (envOfC z (a_0 st) s.heap.objs.size f O))->XN (as2 CX0 P w K mg base N z (a_0 st) f O A outer s H E).nox (a_4 st) B) :
  FnOk P w K mg base CX0 (k+1) f fd ps (spN K (fnN n m B)):=by
 refine F.ok S (λ vs H Q E h=>?_) (λ O A outer s H vs Q E hr h=>?_)
 ·obtain⟨Y,ds,o,_,r,e,_⟩:=h
  unfold fnN at e
  split at e
  ·rename_i hl;rw[hn,<- r.length];exact hl
  ·cases e
 ·obtain⟨Y,ds,o,Z,r,e,q⟩:=h
  unfold fnN at e
  split at e
  ·rename_i hl
   exact⟨_,hb O A outer s H E hr,Y,H,Y,_,o,RS.start (n:=N.length) (m:=m) Z r (by rw[<- r.length];omega),e,q⟩
  ·cases e
end Fx
namespace Fx
open PySem
noncomputable def bI8:D->Option Int->Option Int->Option D
 |.lst xs,lo,hi=>some (.lst (aR5 xs lo hi))
 |.tup xs,lo,hi=>if as1 xs.length 0 lo=0/\as1 xs.length xs.length hi=xs.length then none else some (.tup (aR5 xs lo hi))
 |.str z,lo,hi=>if z.length<=sizeLine then some (.str (Txt.slice z lo hi)) else none
 |_,_,_=>none
noncomputable def bp1 (F:FE) (lo hi:FO) (ρ:En):Option (D×En):=bnd (F ρ) λ p=>bnd (lo p.2) λ l=>bnd (hi l.2) λ h=>bnd (bI8 p.1 l.1 h.1) λ d=>some (d,h.2)
noncomputable def inS (x z:Str):Bool:=!(Builtin.Str.occurrences z x 0 z.length 1).isEmpty
noncomputable def aO6:D->D->Option D
 |x,.tup xs=>if T_6 x xs=true then some (.bl (inD x xs)) else none
 |x,.lst xs=>if T_6 x xs=true then some (.bl (inD x xs)) else none
 |.str x,.str z=>some (.bl (inS x z))
 |_,_=>none
noncomputable def ao6:D->D->Option D
 |x,.tup xs=>if T_6 x xs=true then some (.bl (!inD x xs)) else none
 |x,.lst xs=>if T_6 x xs=true then some (.bl (!inD x xs)) else none
 |.str x,.str z=>some (.bl (!inS x z))
 |_,_=>none
@[simp] theorem bd7 (x:D) (xs:List D):aO6 x (.tup xs)=if T_6 x xs=true then some (.bl (inD x xs)) else none:=by cases x <;> rfl
@[simp] theorem bd8 (x:D) (xs:List D):aO6 x (.lst xs)=if T_6 x xs=true then some (.bl (inD x xs)) else none:=by cases x <;> rfl
@[simp] theorem bd5 (x:D) (xs:List D):ao6 x (.tup xs)=if T_6 x xs=true then some (.bl (!inD x xs)) else none:=by cases x <;> rfl
@[simp] theorem bd6 (x:D) (xs:List D):ao6 x (.lst xs)=if T_6 x xs=true then some (.bl (!inD x xs)) else none:=by cases x <;> rfl
end Fx
namespace Fx
open PySem PySem.Spec PyProof.Rows L2
section
variable {X:Cx}{K:Frag}{pos:Pos}{e:Expr}{F:FE}
noncomputable def bE7:V->Option Int->Option Int->Hp->VK->Prop:=λ x lo hi H Q=>∃ z,x=.str z/\z.length<=sizeLine/\Q (.str (Txt.slice z lo hi)) H
theorem aX9 {v:Value}{o:Option Int} (p:IsPart v o):∃ l:Option (Int×Tok),v=partValue l/\l.map (·.1)=o:=by
 cases p with
 |none=>exact⟨none,rfl,rfl⟩
 |int i t=>exact⟨some (i,t),rfl,rfl⟩
theorem aT8:SlR X bE7:=by
 intro pins s σ H x v vl vu lo hi sl Q I O S Z Y h;obtain⟨z,rfl,hz,q⟩:=h;obtain⟨t,rfl⟩:=O;obtain⟨l,rfl,rfl⟩:=aX9 Z;obtain⟨u,rfl,rfl⟩:=aX9 Y;refine⟨"str",_,slot_str_getitem.lookup,typeIs_str _ _ _,wpAny_getItem_str_slice (l:=l) (u:=u) (st:=none) S rfl ?_⟩;exact post_val_or_str ⟨Nat.le_trans (Txt.slice_le z _ _) hz,λ t' k=>⟨.str (Txt.slice z (l.map (·.1)) (u.map (·.1))),H,I.tok _,⟨_,rfl⟩,q⟩⟩
theorem bA9 {lo hi:Option Expr}{A B:FO}{p2:Pos} (he:XE X e F) (hl:XO X lo A) (hh:XO X hi B):XE X (.Subscript e (.Slice lo hi none p2) pos) (bp1 F A B):=PE.wk (av0 ((sl_list.or aT7).or aT8) he hl hh) λ σ H Q Y=>by
 obtain⟨c,H0,ρ,d,ab,R,f,q⟩:=Y;unfold bp1 at f;obtain⟨⟨x,Z⟩,h1,f⟩:=a_1 f;obtain⟨⟨l,aa⟩,h2,f⟩:=a_1 f;obtain⟨⟨u,ac⟩,h3,f⟩:=a_1 f;obtain⟨d',h4,f⟩:=a_1 f;dsimp only at h2 h3 h4 f;have f':some (d',ac)=some (d,ab):=f;cases f';refine⟨c,H0,ρ,x,Z,R,h1,λ v H1 Hh s1 R1 r1=>?_⟩
 refine⟨c,H1,Z,l,aa,R1,h2,λ H2 Hh2 s2 R2=>?_⟩
 refine⟨c,H2,aa,u,_,R2,h3,λ H3 Hh3 s3 O=>?_⟩
 have r3:=Rep.mono s3 x (Rep.mono s2 x r1);cases x with
 |lst ds =>
  have e:D.lst (aR5 ds l u)=d:=qi h4;subst e;unfold Rep at r3;obtain⟨p,vs,rfl,s,t⟩:=r3;refine .inl (.inl ⟨p,vs,rfl,Same.seq O.same s,λ p' hp=>?_⟩)
  have S:=Step.alloc (o:=.lst (as3 vs l u)) O.same hp;refine q _ _ _ (s1.trans (s2.trans (s3.trans S.s0))) (O.after S) ?_;unfold Rep;exact⟨p',_,rfl,.inl (.inl a_7),Reps.mono S.s0 _ (aE3 t l u)⟩
 |tup ds =>
  have h5:(if as1 ds.length 0 l=0/\as1 ds.length ds.length u=ds.length then none else some (D.tup (aR5 ds l u)))=some d:=h4
  by_cases hn:as1 ds.length 0 l=0/\as1 ds.length ds.length u=ds.length
  ·rw[if_pos hn] at h5;cases h5
  ·rw[if_neg hn] at h5
   cases h5;unfold Rep at r3;obtain⟨p,vs,rfl,s,t⟩:=r3;refine .inl (.inr ⟨p,vs,rfl,Same.seqT O.same s,?_,λ p' hp=>?_⟩)
   ·rw[<- N_1,<- N_1,<- t.length];exact hn
   have S:=Step.alloc (o:=.tup (as3 vs l u)) O.same hp;refine q _ _ _ (s1.trans (s2.trans (s3.trans S.s0))) (O.after S) ?_;unfold Rep;exact⟨p',_,rfl,.inl (.inl a_7),Reps.mono S.s0 _ (aE3 t l u)⟩
 |str z =>
  obtain⟨hz,rfl⟩:=ifs (c:=z.length<=sizeLine) h4;unfold Rep at r3;exact .inr ⟨z,r3,hz,q _ H3 Hh3 (s1.trans (s2.trans s3)) O (U_5 H3 _)⟩
 |_=>cases h4
theorem OpR.or {f:Value->Value->Sem Value}{r O:R2} (h:OpR X f r) (h':OpR X f O):OpR X f (λ x y H Q=>r x y H Q\/O x y H Q):=by
 intro pins s σ H x y v u Q I z S q
 rcases q with q | q
 ·exact h pins s σ H x y v u Q I z S q
 ·exact h' pins s σ H x y v u Q I z S q
theorem bc0:OpD K (rIn K false) dIn:=bc1 λ x y d e=>by
 cases y with
 |tup xs=>obtain⟨h,rfl⟩:=ifs (c:=T_6 x xs=true) e;exact⟨xs,.inl rfl,h,rfl⟩
 |lst xs=>obtain⟨h,rfl⟩:=ifs (c:=T_6 x xs=true) e;exact⟨xs,.inr rfl,h,rfl⟩
 |_=>cases e
theorem br6:A_0 X .In aO6:=⟨_,OpR.or aj5 aj4,λ c H0 H ρ σ x y d S Y Q R z O e q=>by
 cases y with
 |tup xs=>rw[bd7] at e;exact .inl (bc0 c H0 H ρ σ x (.tup xs) d S Y Q R z O e q)
 |lst xs=>rw[bd8] at e;exact .inl (bc0 c H0 H ρ σ x (.lst xs) d S Y Q R z O e q)
 |str b =>
  cases x with
  |str a =>
   have e':some (D.bl (inS a b))=some d:=e;cases e';unfold Rep at z O;subst z O;exact .inr ⟨a,b,rfl,rfl,q _ H0 H (Same.refl _) R (u_8 _ _)⟩
  |_=>cases e
 |_=>cases x <;> cases e⟩
end
end Fx
namespace Fx
open PySem
noncomputable def owT:Option Sl->Option MO
 |some (.ow true o)=>some o
 |_=>none
noncomputable def ao0 (ρ:En) (i:Nat) (o:MO):List Nat->Option En
 |[]=>some []
 |j::js=>bnd (if j=i then some (.ow true o) else slI ρ[j]?) λ s=>bnd (ao0 ρ i o js) λ r=>some (s::r)
noncomputable def ac1 (T:FT) (F:FE) (ρ:En) (i:Nat) (js:List Nat) (q:Nat):MO->List D->Option (List D×MO)
 |o,[]=>some ([],o)
 |o,d::r=>bnd (ao0 ρ i o js) λ fr=>bnd (T (.im d::fr)) λ p=>if p.1=true then bnd (F p.2) λ z=>bnd (owT z.2[q+1]?) λ o'=>bnd (ac1 T F ρ i js q o' r) λ t=>some (z.1::t.1,t.2)
   else bnd (owT p.2[q+1]?) λ o'=>ac1 T F ρ i js q o' r
theorem ay7 (T:FT) (F:FE) (ρ:En) (i:Nat) (js:List Nat) (q:Nat) (o:MO):ac1 T F ρ i js q o []=some ([],o):=rfl
theorem S_6 (T:FT) (F:FE) (ρ:En) (i:Nat) (js:List Nat) (q:Nat) (o:MO) (d:D) (r:List D):ac1 T F ρ i js q o (d::r)=bnd (ao0 ρ i o js) λ fr=>bnd (T (.im d::fr)) λ p=>if p.1=true then bnd (F p.2) λ z=>bnd (owT z.2[q+1]?) λ o'=>bnd (ac1 T F ρ i js q o' r) λ t=>some (z.1::t.1,t.2)
   else bnd (owT p.2[q+1]?) λ o'=>ac1 T F ρ i js q o' r:=rfl
noncomputable def lcB (js:List Nat) (i q:Nat) (T:FT) (F:FE) (xs:List D) (ρ:En):Option (D×En):=bnd (owO ρ[i]?) λ w=>bnd (ac1 T F ρ i js q w.2 xs) λ t=>if xs.length<=sizeLine/\js[q]?=some i/\js.Nodup then some (.lst t.1,ρ.set i (.ow w.1 t.2)) else none
noncomputable def bg5 (js:List Nat) (i q:Nat) (R:FA) (T:FT) (F:FE) (ρ:En):Option (D×En):=bnd (R ρ) λ p=>lcB js i q T F p.1 p.2
end Fx
namespace Fx
open PySem PySem.Spec PyProof.Rows L2
theorem aY0 {s:Option Sl}{o:MO} (h:owT s=some o):s=some (.ow true o):=by
 unfold owT at h
 split at h
 ·cases h;rfl
 ·cases h
theorem ab2 {ρ:En}{i:Nat}{o:MO}:∀ {js:List Nat}{fr:En},ao0 ρ i o js=some fr->fr.length=js.length/\∀ (k:Nat) (s:Sl),fr[k]?=some s->∃ j,js[k]?=some j/\((j=i/\s=.ow true o)\/∃ d,ρ[j]?=some (.im d)/\s=.im d)
 |[],_,h=>by
  have h':([]:En)=_:=qi h;subst h';exact⟨rfl,λ k s e=>by simp at e⟩
 |j::js,_,h=>by
  unfold ao0 at h;obtain⟨s,h1,h⟩:=a_1 h;obtain⟨r,h2,h⟩:=a_1 h;cases h;obtain⟨a,b⟩:=ab2 h2;refine⟨by rw[List.length_cons,List.length_cons,a],λ k s' e=>?_⟩
  cases k with
  |zero =>
   simp at e;subst e;refine⟨j,rfl,?_⟩
   by_cases O:j=i
   ·rw[if_pos O] at h1;cases h1;exact .inl ⟨O,rfl⟩
   ·rw[if_neg O] at h1
    cases z:ρ[j]? with
    |none=>rw[z] at h1;cases h1
    |some S =>
     rw[z] at h1;cases S with
     |im d=>exact .inr ⟨d,rfl,(qi h1).symm⟩
     |_=>cases h1
  |succ k =>
   obtain⟨Y,Z,x2⟩:=b k s' (by simpa using e)
   exact⟨Y,by simpa using Z,x2⟩
theorem ab1 {ρ:En}{i:Nat}{o:MO}{s:Sl}:∀ js:List Nat,ao0 (ρ.set i s) i o js=ao0 ρ i o js
 |[]=>rfl
 |j::js=>by
  unfold ao0;rw[ab1 js]
  by_cases z:j=i
  ·rw[if_pos z,if_pos z]
  ·rw[if_neg z,if_neg z,List.getElem?_set_ne (Ne.symm z)]
theorem av6 {js:List Nat} (h:js.Nodup) {k l i:Nat} (a:js[k]?=some i) (b:js[l]?=some i):k=l:=by
 obtain⟨hk,z⟩:=List.getElem?_eq_some_iff.mp a;obtain⟨hl,O⟩:=List.getElem?_eq_some_iff.mp b;exact (List.getElem_inj h).mp (z.trans O.symm)
theorem RS.blockB {K:Frag}{c:FC}{H0 H:Hp}{ρ:En}{σ:L2.St}{js:List Nat}{fr:En}{d:D}{x:V}{i:Nat}{b:Bool}{o:MO}{a:Addr} (R:RS K c H0 H ρ σ) (hi:ρ[i]?=some (.ow b o)) (ha:σ[i]?=some (some (.ref a))) (nd:js.Nodup) (hf:ao0 ρ i o js=some fr) (rx:Rep K H0 d x) :
  RS K ⟨H0,H,[a]⟩ H0 H (.im d::fr) (some x::frv σ js):=by
 obtain⟨l,g⟩:=ab2 hf;obtain⟨a',y1,y2,y3,y4⟩:=R.ow i b o hi;rw[ha] at y1;cases y1;refine⟨R.same,Same.refl _,λ b o e=>.inl e,λ b o e _=>e,λ z hz e=>?_,?_,λ k d' e=>?_,λ k b' o' e=>?_,λ k Z b1 b2 o1 o2 z e1 e2 e3 e4=>?_⟩
 ·obtain⟨u,hu⟩:=y4.some
  have aa:z=a:=by simpa using hz
  have e:H z=none:=e;rw[aa,hu] at e;cases e
 ·rw[List.length_cons,List.length_cons,l,frv,List.length_map]
 ·cases k with
  |zero=>simp at e;subst e;exact⟨x,rfl,rx⟩
  |succ k =>
   obtain⟨j,O,x2⟩:=g k _ (by simpa using e)
   rcases x2 with ⟨_,x3⟩ | ⟨d2,x2,x3⟩
   ·cases x3
   ·cases x3
    obtain⟨v,w1,w2⟩:=R.im j d' x2;refine⟨v,?_,w2⟩;show (frv σ js)[k]?=some (some v);unfold frv;rw[List.getElem?_map,O];show some (σ[j]?).join=some (some v);rw[w1];rfl
 ·cases k with
  |zero=>simp at e
  |succ k =>
   obtain⟨j,O,x2⟩:=g k _ (by simpa using e)
   rcases x2 with ⟨hj,x3⟩ | ⟨d2,_,x3⟩
   ·cases x3
    subst hj;refine⟨a,?_,y2,by rw[if_pos rfl];exact List.mem_singleton.mpr rfl,y4⟩
    show (frv σ js)[k]?=some (some (.ref a));unfold frv;rw[List.getElem?_map,O];show some (σ[j]?).join=some (some (.ref a));rw[ha];rfl
   ·cases x3
 ·cases k with
  |zero=>simp at e1
  |succ k =>
   cases Z with
   |zero=>simp at e2
   |succ Z =>
    obtain⟨j,O,x2⟩:=g k _ (by simpa using e1)
    obtain⟨j',S,Y⟩:=g Z _ (by simpa using e2)
    rcases x2 with ⟨hj,_⟩ | ⟨_,_,x3⟩
    ·rcases Y with ⟨hj',_⟩ | ⟨_,_,x3'⟩
     ·rw[hj] at O;rw[hj'] at S
      rw[av6 nd O S]
     ·cases x3'
    ·cases x3
theorem RS.unblock {K:Frag}{c:FC}{H0 H H2 Hh2:Hp}{ρ z:En}{σ:L2.St}{js:List Nat}{x:V}{i q:Nat}{b:Bool}{o o':MO}{a:Addr} (R:RS K c H0 H ρ σ) (hi:ρ[i]?=some (.ow b o)) (ha:σ[i]?=some (some (.ref a)))
  (R2:RS K ⟨H0,H,[a]⟩ H2 Hh2 z (some x::frv σ js)) (Z:owT z[q+1]?=some o'):RS K c H2 Hh2 (ρ.set i (.ow b o')) σ:=by
 obtain⟨S,_,_,O,Y⟩:=R2.ow (q+1) true o' (aY0 Z);rw[if_pos rfl] at O;have e:S=a:=by simpa using O
 subst e;exact R.lent hi ha R2.init R2.same (λ y u e n=>R2.keep y u e (by simpa using n)) R2.fresh Y
theorem ba3 {K:Frag}{c:FC}{H1 Hh:Hp}{ρ:En}{σ:L2.St}{js:List Nat}{i q:Nat}{b:Bool}{o o':MO}{T:FT}{F:FE}{xs out:List D}{J:It}{Qf:List V->Hp->Prop} (R:RS K c H1 Hh ρ σ) (hi:ρ[i]?=some (.ow b o)) (nd:js.Nodup) (hc:ac1 T F ρ i js q o xs=some (out,o')) (hz:xs.length<=sizeLine) (hy:y_0 K J H1 xs)
  (qf:∀ ys H0 H,Same H1 H0->RS K c H0 H (ρ.set i (.ow b o')) σ->Reps K H0 out ys->Qf ys H):LcW js (tTt K T) (tE K F) σ Qf J Hh:=by
 have il:i<ρ.length:=(List.getElem?_eq_some_iff.mp hi).1;obtain⟨a,ha,_⟩:=R.ow i b o hi;have aa:∀ o,(ρ.set i (.ow b o))[i]?=some (.ow b o):=λ o=>List.getElem?_set_self il
 have e0:ρ.set i (.ow b o)=ρ:=by
  obtain⟨_,e⟩:=List.getElem?_eq_some_iff.mp hi;rw[<- e];exact List.set_getElem_self il
 refine⟨λ n m ys H=>m=xs.length-n/\n<=xs.length/\∃ H0 Y,Same H1 H0/\RS K c H0 H (ρ.set i (.ow b Y)) σ/\∃ S rest,Reps K H0 S ys/\S.length<=n/\ac1 T F ρ i js q Y (xs.drop n)=some (rest,o')/\S++rest=out,
  ⟨xs.length,by simp,Nat.zero_le _,H1,o,Same.refl _,by rw[e0];exact R,[],out,Reps.nil_,Nat.zero_le _,by simpa using hc,rfl⟩,?_⟩
 rintro n m ys H ⟨rfl,hn,H0,Y,s0,R0,S,rest,rp,lp,O,e⟩;obtain⟨y1,y2⟩:=hy H0 H n s0 R0.same
 by_cases Z:n<xs.length
 ·have hd:xs[n]?=some xs[n]:=by simp[Z]
  obtain⟨go,yl⟩:=y1 _ hd;refine .inr ⟨go,by rw[<- rp.length];omega,λ x H' hx=>?_⟩
  obtain⟨rfl,rx⟩:=yl x H' hx;rw[F_8 hd,S_6] at O;obtain⟨fr,g0,O⟩:=a_1 O;obtain⟨⟨bb,ac⟩,g1,O⟩:=a_1 O;dsimp only at O;have Rb:=R0.blockB (aa Y) ha nd (by rw[ab1];exact g0) rx
  refine⟨⟨H0,H',[a]⟩,H0,_,bb,ac,Rb,g1,λ H2 Hh2 s2 R2=>?_⟩
  cases bb with
  |false =>
   rw[if_neg Bool.false_ne_true] at O ⊢;obtain⟨o2,g4,O⟩:=a_1 O;have R3:=R0.unblock (aa Y) ha R2 g4;rw[List.set_set] at R3;exact⟨xs.length-(n+1),by omega,rfl,Z,H2,o2,s0.trans s2,R3,S,rest,Reps.mono s2 _ rp,by omega,O,e⟩
  |true =>
   rw[if_pos rfl] at O ⊢;obtain⟨⟨z,ad⟩,g2,O⟩:=a_1 O;obtain⟨o2,g4,O⟩:=a_1 O;obtain⟨⟨t,ot⟩,g3,O⟩:=a_1 O;dsimp only at O;have ab:some (z::t,ot)=some (rest,o'):=O;cases ab;refine⟨⟨H0,H',[a]⟩,H2,ac,z,ad,R2,g2,λ v H3 Hh3 s3 R3 r3=>?_⟩
   have R4:=R0.unblock (aa Y) ha R3 g4;rw[List.set_set] at R4;refine⟨xs.length-(n+1),by omega,rfl,Z,H3,o2,s0.trans (s2.trans s3),R4,S++[z],t,(Reps.mono (s2.trans s3) _ rp).app (Reps.one r3),?_,g3,?_⟩
   ·rw[List.length_append,List.length_singleton];omega
   ·rw[List.append_assoc];exact e
 ·have ei:n=xs.length:=by omega
  have hn:xs.drop n=[]:=List.drop_eq_nil_of_le (by omega)
  rw[hn,ay7] at O;have ab:some (([]:List D),Y)=some (rest,o'):=O;cases ab;rw[List.append_nil] at e;subst e;exact .inl ⟨y2 (by omega),by rw[<- rp.length];omega,qf ys H0 H s0 R0 rp⟩
theorem aK1 {js:List Nat}{i q:Nat}{T:FT}{F:FE}{xs:List D}{ρ z:En}{d:D} (h:lcB js i q T F xs ρ=some (d,z)):∃ b o ys o',ρ[i]?=some (.ow b o)/\ac1 T F ρ i js q o xs=some (ys,o')/\xs.length<=sizeLine/\js.Nodup/\d=.lst ys/\z=ρ.set i (.ow b o'):=by
 unfold lcB at h;obtain⟨⟨b,o⟩,h1,h⟩:=a_1 h;obtain⟨⟨ys,o'⟩,h2,h⟩:=a_1 h;obtain⟨⟨S,Y,O⟩,h⟩:=ifs h;cases h;exact⟨b,o,ys,o',A_1 h1,h2,S,O,rfl,rfl⟩
section
variable {X:Cx}{pos:Pos}
theorem bB8 {x:Str}{i:Int} (h:∃ t,X.mg x=some (.int i t)) (Y:Gl X x:=by rfl) (S:(x==("__debug__":Str))=false:=by decide):XE X (.Name x pos) (zI i):=by
 obtain⟨t,h⟩:=h
 exact PE.wk (U_9 Y h (v:=.int i) ⟨t,rfl⟩ S) λ σ H Q z=>by
  obtain⟨c,H0,ρ,d,O,R,f,q⟩:=z;obtain⟨rfl,rfl⟩:=F_7 f;exact q _ H0 H (Same.refl _) R (h_1 _ _)
theorem bB7 {x z:Str} (h:∃ t,X.mg x=some (.str z t)) (Z:Gl X x:=by rfl) (Y:(x==("__debug__":Str))=false:=by decide):XE X (.Name x pos) (eC (.str z)):=by
 obtain⟨t,h⟩:=h
 exact PE.wk (U_9 Z h (v:=.str z) ⟨t,rfl⟩ Y) λ σ H Q O=>by
  obtain⟨c,H0,ρ,d,S,R,f,q⟩:=O;obtain⟨rfl,rfl⟩:=F_7 f;exact q _ H0 H (Same.refl _) R (U_5 _ _)
end
end Fx
namespace Fx
open PySem
end Fx
namespace Fx
open PySem PySem.Spec PyProof.Rows
end Fx
namespace Fx
open PySem
section
variable {prog:Program}{w:World}{K:Type} [DecidableEq K] {knd:KeyKind prog w K}{A:Around}{E:Value->Shared->Prop}{s:Shared}
inductive PairsAt (knd:KeyKind prog w K) (h:Heap):List Value->List (K×Value)->Prop
 |nil:PairsAt knd h [] []
 |cons {p:Addr}{u v:Value}{k:K}{us:List Value}{kvs:List (K×Value)} (a:h.IsTuple p #[u,v]) (b:knd.is k u=true) (r:PairsAt knd h us kvs):PairsAt knd h (.ref p::us) ((k,v)::kvs)
end
end Fx
namespace Fx
open PySem PySem.Spec PyProof.Rows L2
noncomputable def KV1 (K:Frag) (d:D) (u:Value):Prop:=∃ v,RelV v u/\∀ H,Rep K H d v
noncomputable def KVs (K:Frag) (ds:List D) (z:List Value):Prop:=∃ vs,Vals vs z/\∀ H,Reps K H ds vs
section
variable {K:Frag}
theorem aD1:KV1 K .non .none:=⟨.non,rfl,λ H=>by unfold Rep;rfl⟩
theorem v_0 {i:Int}{t:Tok}:KV1 K (.int i) (.int i t):=⟨.int i,⟨t,rfl⟩,λ H=>h_1 H i⟩
theorem F_1:KVs K [] []:=⟨[],.nil,λ H=>Reps.nil_⟩
theorem l_1 {d:D}{ds:List D}{u:Value}{z:List Value} (a:KV1 K d u) (b:KVs K ds z):KVs K (d::ds) (u::z):=by
 obtain⟨v,r,p⟩:=a;obtain⟨vs,O,ps⟩:=b;exact⟨v::vs,.cons r O,λ H=>Reps.cons (p H) (ps H)⟩
theorem R_6 {a:Addr}{z:List Value}{n:Nat}{O:Array (Option Value)}{ds:List D} (l:K.lookup a=some ⟨.type "tuple",none,.seq z.toArray n,O⟩) (hz:z.length ≤ 1000) (h:KVs K ds z):KV1 K (.tup ds) (.ref a):=by
 obtain⟨vs,S,ps⟩:=h;refine⟨.ref a,rfl,λ H=>?_⟩
 unfold Rep;refine⟨a,vs,rfl,.inr ⟨_,z.toArray,n,l,rfl,rfl,rfl,?_,?_⟩,ps H⟩
 ·rw[List.size_toArray];exact Nat.le_of_lt (O_8 hz)
 ·exact S
end
inductive PV (K:Frag) (H:Hp):List V->List (Key×V)->Prop
 |nil:PV K H [] []
 |cons {a:Addr}{k:Str}{v:V}{vs:List V}{kvs:List (Key×V)} (p:SqT K H a [.str k,v]) (r:PV K H vs kvs):PV K H (.ref a::vs) ((.inr k,v)::kvs)
section
variable {X:Cx}
theorem bB6 {x:Str}{d:D}{pos:Pos} (h:∃ a,X.mg x=some (.ref a) ∧ KV1 X.K d (.ref a)) (S:Gl X x:=by rfl) (Z:(x==("__debug__":Str))=false:=by decide):XE X (.Name x pos) (eC d):=by
 obtain⟨a,h,v,Y,rp⟩:=h
 exact PE.wk (U_9 S h (v:=v) Y Z) λ σ H Q z=>by
  obtain⟨c,H0,ρ,d,O,R,f,q⟩:=z;obtain⟨rfl,rfl⟩:=F_7 f;exact q _ H0 H (Same.refl _) R (rp H0)
end
end Fx
namespace Fx
open PySem
noncomputable def nOw:Option Sl->Option MO
 |some (.ow false o)=>some o
 |_=>none
@[simp] theorem bF8 (o:MO):nOw (some (.ow false o))=some o:=zR rfl
noncomputable def aw1 (i:Nat) (ρ:En):Option MO:=nOw ρ[i]?
@[simp] theorem bv2 (i:Nat) (ρ:En):aw1 i ρ=nOw ρ[i]?:=zR rfl
noncomputable def sXa (o:Option (D×En)):Option Res:=bnd o λ p=>some (.nx p.2)
noncomputable def sX (F:FE) (ρ:En):Option Res:=sXa (F ρ)
@[simp] theorem sX_ (F:FE) (ρ:En):sX F ρ=sXa (F ρ):=zR rfl
@[simp] theorem bD5 (d:D) (ρ:En):sXa (some (d,ρ))=some (.nx ρ):=zR rfl
mutual
noncomputable def nd:D->Bool
 |.opq _ _=>false
 |.dct _ _=>false
 |.tup xs=>nds xs
 |.lst xs=>nds xs
 |_=>true
noncomputable def nds:List D->Bool
 |[]=>true
 |d::r=>nd d&&nds r
end
noncomputable def sNo:FS:=λ _=>none
end Fx
namespace Fx
open PySem PySem.Spec PyProof.Rows L2
section
variable {X:Cx}{pos:Pos}{e:Expr}{F G:FE}{A:FA}
theorem xsx (S:XE X e F) (Z:swapsWith e none pos.line X.env=pure false:=by rfl):XS X (.Expr e pos) (sX F):=PS.wk (U_7 S Z) λ Dn σ H z=>by
 obtain⟨c,H0,ρ,r,R,f,q⟩:=z;unfold sX sXa at f;obtain⟨⟨d,O⟩,h1,f⟩:=a_1 f;have f':some (Res.nx O)=some r:=f;cases f';exact⟨c,H0,ρ,d,O,R,h1,λ v H1 Hh s1 Y _=>q σ H1 Hh s1 Y⟩
theorem xnO (i:Nat) {x:Str}{p O:Pos} (Y:X.N[i]?=some x:=by rfl) (Z:Vis X.env.scope x:=by first | exact Or.inl rfl | exact Or.inr (Or.inl rfl) | exact Or.inr (Or.inr rfl)) (hd:(x==("__debug__":Str))=false:=by decide) (S:(x==("__classdict__":Str))=false:=by decide) :
  XN X [.Return (some (.Name x p)) O] (aw1 i) :=
 PSs.wk (D_8 (ai8 (s_9 Y Z hd S))) λ Dn σ H z=>by
  obtain⟨Hi,He,H0,ρ,o,R,f,q⟩:=z;unfold aw1 nOw at f
  split at f
  ·rename_i o' hz
   cases f;obtain⟨a,e1,e2,e3,ok⟩:=R.ow i false _ hz;exact⟨_,e1,q a H0 H ⟨R.init,R.same,λ b u h=>R.keep b u h (by simp),R.fresh,e2,e3,ok⟩⟩
  ·cases f
end
end Fx
namespace Fx
open PySem
noncomputable def bd0 (F G:FE) (ρ:En):Option (D×En):=bnd (F ρ) λ p=>bnd (ax6 p.1) λ b=>if b=true then some p else G p.2
noncomputable def bp4 (x:D) (ρ:En) (G:FE) (o:Option Bool):Option (D×En):=bnd o λ b=>if b=true then some (x,ρ) else G ρ
noncomputable def bp5 (G:FE) (o:Option (D×En)):Option (D×En):=bnd o λ p=>bp4 p.1 p.2 G (ax6 p.1)
@[simp] theorem z_7 (F G:FE) (ρ:En):bd0 F G ρ=bp5 G (F ρ):=zR rfl
abbrev Ky:=List (List Int)
mutual
noncomputable def fK:D->Ky
 |.int i=>[[i]]
 |.str s=>[s.cps.toList.map Int.ofNat]
 |.tup xs=>fKs xs
 |_=>[]
noncomputable def fKs:List D->Ky
 |[]=>[]
 |d::r=>fK d++fKs r
end
noncomputable def ltK (a b:D):Bool:=decide (fK a<fK b)
noncomputable def aw7 (x:D):List D->List D
 |[]=>[x]
 |y::r=>if ltK y x=true then y::aw7 x r else x::y::r
noncomputable def sortT:List D->List D
 |[]=>[]
 |x::r=>aw7 x (sortT r)
theorem mem_insT {x y:D}:∀ {l:List D},y∈aw7 x l↔y=x\/y∈l
 |[]=>by simp[aw7]
 |z::r=>by
  unfold aw7
  split
  ·rw[List.mem_cons,mem_insT,List.mem_cons]
   exact⟨λ h=>by rcases h with h | h | h;exact .inr (.inl h);exact .inl h;exact .inr (.inr h),λ h=>by rcases h with h | h | h;exact .inr (.inl h);exact .inl h;exact .inr (.inr h)⟩
  ·rw[List.mem_cons]
theorem insT_perm {x:D}:∀ {l:List D},(aw7 x l).Perm (x::l)
 |[]=>List.Perm.refl _
 |y::r=>by
  unfold aw7
  split
  ·exact ((insT_perm (l:=r)).cons y).trans (List.Perm.swap x y r)
  ·exact List.Perm.refl _
theorem n_4:∀ l:List D,(sortT l).Perm l
 |[]=>List.Perm.refl _
 |x::r=>by unfold sortT;exact insT_perm.trans ((n_4 r).cons x)
theorem ak7 {a b c:Ky} (h1:¬ b<a) (h2:¬ c<b):¬ c<a:=List.not_lt.mpr (List.le_trans (List.not_lt.mp h1) (List.not_lt.mp h2))
theorem am2 {x:D}:∀ {l:List D},(l.Pairwise λ a b=>ltK b a=false)->(aw7 x l).Pairwise λ a b=>ltK b a=false
 |[],_=>List.pairwise_singleton _ _
 |y::r,h=>by
  unfold aw7;obtain⟨h1,h2⟩:=List.pairwise_cons.mp h
  by_cases q:ltK y x=true
  ·rw[if_pos q]
   refine List.pairwise_cons.mpr ⟨λ z hz=>?_,am2 h2⟩
   rcases mem_insT.mp hz with rfl | hz
   ·unfold ltK at q ⊢
    rw[decide_eq_true_eq] at q;rw[decide_eq_false_iff_not];exact List.not_lt.mpr (List.le_of_lt q)
   ·exact h1 z hz
  ·rw[if_neg q]
   have q:ltK y x=false:=by simpa using q
   refine List.pairwise_cons.mpr ⟨λ z hz=>?_,h⟩
   rcases qt hz with rfl | hz
   ·exact q
   ·have O:=h1 z hz
    unfold ltK at q O ⊢;rw[decide_eq_false_iff_not] at q O ⊢;exact ak7 q O
theorem Y_8:∀ l:List D,(sortT l).Pairwise λ a b=>ltK b a=false
 |[]=>List.Pairwise.nil
 |x::r=>by unfold sortT;exact am2 (Y_8 r)
theorem I_5 {l t:List D} (inj:∀ a b,a∈l->b∈l->fK a=fK b->a=b) (z:t.Perm l) (O:t.Pairwise λ a b=>ltK b a=false):t=sortT l:=by
 refine List.Perm.eq_of_pairwise (le:=λ a b=>ltK b a=false) (λ a b ha hb p q=>?_) O (Y_8 l) (z.trans (n_4 l).symm)
 unfold ltK at p q;rw[decide_eq_false_iff_not] at p q;exact inj a b (z.mem_iff.mp ha) ((n_4 l).mem_iff.mp hb) (List.le_antisymm (List.not_lt.mp p) (List.not_lt.mp q))
theorem ab7 {p q:Nat->Bool}:∀ {l:List Nat},(∀ x,p x=true->q x=true)->(∃ x∈l,q x=true/\p x=false)->l.countP p<l.countP q
 |[],_,h=>by obtain⟨x,h,_⟩:=h;cases h
 |y::r,hi,h=>by
  have le:r.countP p<=r.countP q:=List.countP_mono_left λ x _=>hi x
  obtain⟨x,z,h1,h2⟩:=h
  rcases qt z with rfl | z
  ·rw[List.countP_cons_of_neg (by rw[h2];exact Bool.false_ne_true),List.countP_cons_of_pos h1];omega
  ·have S:=ab7 hi ⟨x,z,h1,h2⟩
   cases O:p y with
   |true=>rw[List.countP_cons_of_pos O,List.countP_cons_of_pos (hi y O)];omega
   |false =>
    rw[List.countP_cons_of_neg (by rw[O];exact Bool.false_ne_true)]
    exact qp S (by rw[List.countP_cons];omega)
noncomputable def ae0 (n:Nat) (key:Nat->Ky) (i:Nat):Nat:=(List.range n).countP λ k=>decide (key k<key i)
theorem C_4 {n:Nat}{key:Nat->Ky}{i j:Nat} (hi:i<n):ae0 n key i<ae0 n key j↔key i<key j:=by
 constructor
 ·intro h
  by_cases c:key i<key j
  ·exact c
  ·have le:ae0 n key j<=ae0 n key i:=List.countP_mono_left λ x _ O=>by
    rw[decide_eq_true_eq] at O ⊢;refine Decidable.byContradiction λ z=>c (List.lt_of_le_of_lt (List.not_lt.mp z) O)
   omega
 ·intro c
  refine ab7 (λ x O=>?_) ⟨i,List.mem_range.mpr hi,decide_eq_true c,decide_eq_false (List.lt_irrefl _)⟩
  rw[decide_eq_true_eq] at O ⊢;exact List.lt_trans O c
noncomputable def r3:D->Bool
 |.tup [.int _,.str _,.int _]=>true
 |_=>false
noncomputable def r22:D->Bool
 |.tup [.tup [.str _,.int _],.tup [.int _,.int _]]=>true
 |_=>false
noncomputable def A_9:List D->Option D
 |[.lst xs]=>if xs.length<64/\(xs.all r3=true\/xs.all r22=true) then some (.lst (sortT xs)) else none
 |_=>none
@[simp] theorem az3 (xs:List D):A_9 [.lst xs]=if xs.length<64/\(xs.all r3=true\/xs.all r22=true) then some (.lst (sortT xs)) else none:=zR rfl
noncomputable def be4:List D->Option D
 |[.lst xs]=>bnd (t_4 xs) λ is=>some (.int is.sum)
 |_=>none
theorem be3 (xs:List D):be4 [.lst xs]=bnd (t_4 xs) λ is=>some (.int is.sum):=rfl
noncomputable def bG2:D->Option Str
 |.tup [.int _,.str k,.int _]=>some k
 |_=>none
noncomputable def aD0 (k:Str):List (List D)->Option Nat
 |[]=>none
 |x::r=>match aD0 k r with
  |some i=>some (i+1)
  |none=>if (x.head?.bind bG2)=some k then some 0 else none
noncomputable def aY2:Option Sl->Option (List D)
 |some (.ow false (.lst ds))=>some ds
 |_=>none
@[simp] theorem bu9 (ds:List D):aY2 (some (.ow false (.lst ds)))=some ds:=zR rfl
end Fx
namespace Fx
open PySem PySem.Spec PyProof.Rows L2
inductive KEnt (w:World) (K:Frag):List DictEntry->List (Str×D)->Prop
 |nil:KEnt w K [] []
 |cons {k:Str}{d:D}{t:Tok}{v:Value}{es:List DictEntry}{kds:List (Str×D)}:KV1 K d v->KEnt w K es kds->KEnt w K (⟨hashStr w k,.str k t,v⟩::es) ((k,d)::kds)
noncomputable def bK2 (w:World) (K:Frag) (a:Addr) (kds:List (Str×D)):Prop:=∃ es n,K.lookup a=some {cls:=.type "dict",data:=.dict es n} ∧ (a==sysModules)=false ∧ KEnt w K es.toList kds ∧ (kds.map (·.1)).Nodup
theorem KEnt.all {w:World}{K:Frag}:∀ {es:List DictEntry}{kds:List (Str×D)},KEnt w K es kds->∃ vs:List (Key×Value),vs.map (·.1)=kds.map (λ q=>Sum.inr q.1) /\
  (∀ (P:Program),PySem.Pairs (f_5 P w) es vs)/\(∀ (P:Program),∀ e∈es,∃ k,(f_5 P w).is k e.key=true/\e.hash=(f_5 P w).hash k) /\
  ∀ k d,bo1 k kds=some d->∃ u,valueAt vs (.inr k)=some u/\KV1 K d u
 |_,_,.nil=>⟨[],rfl,λ _=>.nil,λ _ e h=>(by cases h),λ k d h=>(by cases h)⟩
 |_,_,.cons (k:=k) (d:=d) (t:=t) (v:=v) (es:=es) (kds:=kds) h r=>by
  obtain⟨vs,e1,e2,e3,e4⟩:=r.all;refine⟨(.inr k,v)::vs,by rw[List.map_cons,List.map_cons,e1],λ P=>.cons (v_9 P w k t) rfl (e2 P),λ P e O=>?_,λ S d' hk=>?_⟩
  ·rcases qt O with rfl | O
   ·exact⟨.inr k,v_9 P w k t,rfl⟩
   ·exact e3 P e O
  ·unfold bo1 at hk
   unfold valueAt;rw[List.find?_cons]
   by_cases z:k=S
   ·subst z
    rw[if_pos rfl] at hk;cases hk;exact⟨v,by simp,h⟩
   ·rw[if_neg z] at hk
    obtain⟨u,Z,Y⟩:=e4 S d' hk;refine⟨u,?_,Y⟩;rw[decide_eq_false (λ y=>z (Sum.inr.inj y))]
    exact Z
noncomputable def B_2:D->D->Bool
 |.int _,.int _=>true
 |.str _,.str _=>true
 |_,_=>false
noncomputable def g_9:List D->List D->Bool
 |[],[]=>true
 |d::r,e::t=>B_2 d e&&g_9 r t
 |_,_=>false
noncomputable def ltF:D->D->Bool
 |.int i,.int j=>decide (i<j)
 |.str a,.str b=>decide (a.cps.toList<b.cps.toList)
 |_,_=>false
noncomputable def H_9:List D->List D->Bool
 |d::r,e::t=>if eqD d e=true then H_9 r t else ltF d e
 |_,_=>false
theorem aC7:∀ (l m:List Nat),(l.map Int.ofNat<m.map Int.ofNat)↔l<m
 |[],[]=>by simp
 |[],_::_=>by simp
 |_::_,[]=>by simp
 |a::l,b::m=>by
  rw[List.map_cons,List.map_cons,List.cons_lt_cons_iff,List.cons_lt_cons_iff,aC7 l m];have h1:(Int.ofNat a<Int.ofNat b)↔a<b:=Int.ofNat_lt;have h2:(Int.ofNat a=Int.ofNat b)↔a=b:=Int.ofNat_inj;rw[h1,h2]
theorem aj6 (a b:List Int):([a]:Ky)<[b]↔a<b:=by
 rw[List.cons_lt_cons_iff];exact⟨λ h=>h.elim id λ z=>absurd z.2 (List.lt_irrefl _),.inl⟩
theorem C_3 {d e:D} (h:B_2 d e=true):(eqD d e=true↔d=e)/\(fK d=fK e↔d=e)/\(ltF d e=true↔fK d<fK e)/\(∃ k,fK d=[k])/\∃ k,fK e=[k]:=by
 cases d with
 |int i =>
  cases e with
  |int j =>
   have e1:fK (.int i)=[[i]]:=by unfold fK;rfl
   have e2:fK (.int j)=[[j]]:=by unfold fK;rfl
   rw[e1,e2];refine⟨by simp,by simp,?_,⟨_,rfl⟩,_,rfl⟩
   rw[aj6,List.cons_lt_cons_iff];show decide (i<j)=true↔_;rw[decide_eq_true_eq];exact⟨.inl,λ z=>z.elim id λ y=>absurd y.2 (List.lt_irrefl _)⟩
  |_=>cases h
 |str a =>
  cases e with
  |str b =>
   have e1:fK (.str a)=[a.cps.toList.map Int.ofNat]:=by unfold fK;rfl
   have e2:fK (.str b)=[b.cps.toList.map Int.ofNat]:=by unfold fK;rfl
   rw[e1,e2];refine⟨by simp,?_,?_,⟨_,rfl⟩,_,rfl⟩
   ·constructor
    ·intro z
     have S:a.cps.toList.map Int.ofNat=b.cps.toList.map Int.ofNat:=(List.cons.inj z).1;have O:a.cps.toList=b.cps.toList:=List.map_inj_right (λ x y q=>Int.ofNat.inj q) |>.mp S
     obtain⟨⟨Y⟩⟩:=a;obtain⟨⟨Z⟩⟩:=b;cases O;rfl
    ·intro z;cases z;rfl
   ·rw[aj6,aC7]
    show decide (a.cps.toList<b.cps.toList)=true↔_;rw[decide_eq_true_eq]
  |_=>cases h
 |_=>cases h
theorem h_3 (d:D) (r:List D):fKs (d::r)=fK d++fKs r:=by rw[fKs]
theorem r_0:∀ {ds es:List D},g_9 ds es=true->ds.length=es.length/\(fKs ds).length=(fKs es).length
 |[],[],_=>⟨rfl,rfl⟩
 |[],_::_,h=>by cases h
 |_::_,[],h=>by cases h
 |d::r,e::t,h=>by
  unfold g_9 at h;rw[Bool.and_eq_true] at h;obtain⟨_,_,_,⟨k,e1⟩,z,e2⟩:=C_3 h.1;obtain⟨h1,h2⟩:=r_0 h.2;exact⟨by simp[h1],by rw[h_3,h_3,e1,e2];simp[h2]⟩
theorem n_5:∀ {ds es:List D},g_9 ds es=true->(fKs ds=fKs es↔ds=es)
 |[],[],_=>by simp
 |[],_::_,h=>by cases h
 |_::_,[],h=>by cases h
 |d::r,e::t,h=>by
  unfold g_9 at h;rw[Bool.and_eq_true] at h;obtain⟨_,q,_,⟨k,e1⟩,Y,e2⟩:=C_3 h.1;have S:=n_5 h.2;rw[h_3,h_3];constructor
  ·intro z
   rw[e1,e2] at z;have O:k::fKs r=Y::fKs t:=z;injection O with z1 z2
   rw[q.mp (by rw[e1,e2,z1]),S.mp z2]
  ·intro z;cases z;rfl
theorem F_0:∀ {ds es:List D},g_9 ds es=true->H_9 ds es=decide (fKs ds<fKs es)
 |[],[],_=>by
  have:fKs []=[]:=by rw[fKs]
  rw[this];exact (decide_eq_false (List.lt_irrefl _)).symm
 |[],_::_,h=>by cases h
 |_::_,[],h=>by cases h
 |d::r,e::t,h=>by
  unfold g_9 at h;rw[Bool.and_eq_true] at h;obtain⟨Z,q2,q3,⟨k,e1⟩,O,e2⟩:=C_3 h.1;have ih:=F_0 h.2;unfold H_9;rw[h_3,h_3,e1,e2];show _=decide (k::fKs r<O::fKs t)
  by_cases z:eqD d e=true
  ·have:k=O:=by
    have:=Z.mp z;subst this;rw[e1] at e2;exact (List.cons.inj e2).1
   subst this;rw[if_pos z,ih];refine decide_eq_decide.mpr ?_;rw[List.cons_lt_cons_iff];exact⟨λ y=>.inr ⟨rfl,y⟩,λ y=>y.elim (λ y=>absurd y (List.lt_irrefl _)) (·.2)⟩
  ·rw[if_neg z]
   have ne:k≠O:=λ y=>z (Z.mpr (q2.mp (by rw[e1,e2,y])))
   have e3:ltF d e=decide (k<O):=by
    have Y:ltF d e=true↔k<O:=by rw[q3,e1,e2,aj6]
    cases S:ltF d e with
    |true=>exact (decide_eq_true (Y.mp S)).symm
    |false=>exact (decide_eq_false λ y=>by rw[Y.mpr y] at S;cases S).symm
   rw[e3];refine decide_eq_decide.mpr ?_;rw[List.cons_lt_cons_iff];exact⟨.inl,λ y=>y.elim id λ y=>absurd y.1 ne⟩
end Fx
namespace Fx
open PySem PySem.W PyProof.Rows
noncomputable def WpT {α:Type} (lt:Nat->Nat->Bool) (n:Nat) (P:α->Prop):KasT α->Prop
 |.ret a=>P a
 |.ask i j k=>i<n/\j<n/\WpT lt n P (k (lt i j))
theorem WpT.bind {α z:Type}{lt:Nat->Nat->Bool}{n:Nat}{P:α->Prop}{O:z->Prop}{f:α->KasT z} (h:∀ a,P a->WpT lt n O (f a)):∀ t:KasT α,WpT lt n P t->WpT lt n O (t.bind f)
 |.ret a,q=>h a q
 |.ask i j k,q=>⟨q.1,q.2.1,WpT.bind h (k (lt i j)) q.2.2⟩
theorem WpT.run {α:Type}{lt:Nat->Nat->Bool}{n:Nat}{P:α->Prop}{J:Shared->Prop}{z:Nat->Nat->(Bool->Shared->Prop)->Shared->Prop}{Q:α->Shared->Prop}
  (S:∀ i j C s,i<n->j<n->J s->(∀ s',J s'->C (lt i j) s')->z i j C s) (Y:∀ a s,P a->J s->Q a s):∀ (t:KasT α) (s:Shared),WpT lt n P t->J s->t.kasWp z Q s
 |.ret a,s,h,j=>Y a s h j
 |.ask i j k,s,h,js=>S i j _ s h.1 h.2.1 js λ s' O=>WpT.run S Y (k (lt i j)) s' h.2.2 O
section
variable {n:Nat}{r:Nat->Nat}
abbrev ltR (r:Nat->Nat) (i j:Nat):Bool:=decide (r i<r j)
structure OkP (n:Nat) (p:Array Nat):Prop where
 size:p.size=n
 perm:p.toList.Perm (List.range n)
noncomputable def KP (r:Nat->Nat) (p:Array Nat) (k:Nat):Nat:=r (p.getD k 0)
theorem OkP.lt {p:Array Nat} (h:OkP n p) (z:0<n) (k:Nat):p.getD k 0<n:=by
 by_cases hk:k<p.size
 ·rw[Array.getD_eq_getD_getElem?,getElem?_pos p k hk]
  have:p[k]∈p.toList:=by simp
  exact List.mem_range.mp (h.perm.mem_iff.mp this)
 ·rw[Array.getD_eq_getD_getElem?,getElem?_neg p k hk];exact z
theorem y_1 {p q:Array Nat}{i j:Nat} (h:p[i]?=q[j]?):KP r p i=KP r q j:=by unfold KP;rw[Array.getD_eq_getD_getElem?,Array.getD_eq_getD_getElem?,h]
theorem OkP.rev {p:Array Nat} (h:OkP n p) (i j:Nat):OkP n (kas_rev p i j):=⟨(mirror_size _ _ _ _).trans h.size,(Array.perm_iff_toList_perm.mp (mirror_perm _ _ _ _)).trans h.perm⟩
theorem OkP.bub {p:Array Nat} (h:OkP n p) (k d:Nat):OkP n (bubble p k d):=⟨(bubble_size _ _ _).trans h.size,(Array.perm_iff_toList_perm.mp (bubble_perm _ _ _)).trans h.perm⟩
theorem ar6 {p:Array Nat}{i j:Nat} (z:j<=p.size) (k:Nat):KP r (kas_rev p i j) k=if i<=k/\k<j then KP r p (i+j-1-k) else KP r p k:=by
 have e:=getElem?_mirror_all (xs:=p) (i:=i) z k
 by_cases h1:i<=k/\k<j
 ·rw[if_pos h1] at e ⊢;exact y_1 e
 ·rw[if_neg h1] at e ⊢;exact y_1 e
theorem aE7 {p:Array Nat}{k d:Nat} (O:k<p.size) (z:d<=k) (i:Nat):KP r (bubble p k d) i=if i=k-d then KP r p k else if k-d<i/\i<=k then KP r p (i-1) else KP r p i:=by
 have e:=getElem?_bubble O d z i
 by_cases h1:i=k-d
 ·rw[if_pos h1] at e ⊢;exact y_1 e
 ·rw[if_neg h1] at e ⊢
  by_cases h2:k-d<i/\i<=k
  ·rw[if_pos h2] at e ⊢;exact y_1 e
  ·rw[if_neg h2] at e ⊢;exact y_1 e
noncomputable def T_9 (r:Nat->Nat) (p:Array Nat) (m:Nat):Prop:=∀ i j,i<=j->j<m->KP r p i<=KP r p j
noncomputable def bf2 (r:Nat->Nat) (p:Array Nat) (m:Nat):Prop:=∀ i j,i<=j->j<m->KP r p j<=KP r p i
noncomputable def Eqs (r:Nat->Nat) (p:Array Nat) (a b:Nat):Prop:=∀ i,a<=i->i<b->KP r p i=KP r p (b-1)
theorem G_8 {p:Array Nat}{i j:Nat} (z:j<=p.size) (e:Eqs r p i j) (k:Nat):KP r (kas_rev p i j) k=KP r p k:=by
 rw[ar6 z]
 split
 ·rw[e _ (by omega) (by omega),e k (by omega) (by omega)]
 ·rfl
theorem aq6 {p:Array Nat} (Z:OkP n p):∀ f m,1<=m->m+f<=n->T_9 r p m->WpT (ltR r) n (λ O=>m<=O/\O<=m+f/\T_9 r p O/\(O<m+f->KP r p O<KP r p (O-1))) (kas_asc p f m)
 |0,m,h1,h2,h3=>⟨qj _,qj _,h3,λ z=>absurd z (Nat.lt_irrefl _)⟩
 |f+1,m,h1,h2,h3=>by
  refine⟨Z.lt (by omega) _,Z.lt (by omega) _,?_⟩
  by_cases c:KP r p m<KP r p (m-1)
  ·rw[show ltR r (p.getD m 0) (p.getD (m-1) 0)=true from decide_eq_true c];dsimp only;rw[if_pos rfl]
   exact⟨qj _,by omega,h3,λ _=>c⟩
  ·rw[show ltR r (p.getD m 0) (p.getD (m-1) 0)=false from decide_eq_false c];dsimp only;rw[if_neg Bool.false_ne_true]
   have h4:T_9 r p (m+1):=λ i j Y hj=>by
    by_cases z:j<m
    ·exact h3 i j Y z
    ·have:j=m:=by omega
     subst this
     by_cases w:i=j
     ·subst w;exact qj _
     ·exact Nat.le_trans (h3 i (j-1) (by omega) (by omega)) (Nat.le_of_not_lt c)
   have S:=aq6 Z f (m+1) (by omega) (by omega) h4
   rw[show m+1+f=m+(f+1) by omega] at S
   have mono:∀ (t:KasT Nat),WpT (ltR r) n (λ O=>m+1<=O/\O<=m+(f+1)/\T_9 r p O/\(O<m+(f+1)->KP r p O<KP r p (O-1))) t->WpT (ltR r) n (λ O=>m<=O/\O<=m+(f+1)/\T_9 r p O/\(O<m+(f+1)->KP r p O<KP r p (O-1))) t:=by
    intro t
    induction t with
    |ret a=>exact λ h=>⟨by have:=h.1;omega,h.2⟩
    |ask i j k S=>exact λ h=>⟨h.1,h.2.1,S _ h.2.2⟩
   exact mono _ S
noncomputable def bf0 (n:Nat) (r:Nat->Nat) (z:Array Nat×Nat×Nat):Prop:=OkP n z.1/\1<=z.2.1/\z.2.1<=n/\z.2.2+1<=z.2.1/\bf2 r z.1 z.2.1/\Eqs r z.1 (z.2.1-(z.2.2+1)) z.2.1
theorem N_0:∀ f (p:Array Nat) m q,OkP n p->q+1<=m->m+f<=n->bf2 r p m->Eqs r p (m-(q+1)) m->WpT (ltR r) n (bf0 n r) (kas_desc f p m q)
 |0,p,m,q,hp,h1,h2,h3,h4=>⟨hp,(show 1<=m by omega),(show m<=n by omega),h1,h3,h4⟩
 |f+1,p,m,q,hp,h1,h2,h3,h4=>by
  have sz:=hp.size;have one:∀ S:Array Nat,Eqs r S (m+1-(0+1)) (m+1):=λ S i a b=>by rw[show i=m+1-1 by omega]
  have O:∀ S:Array Nat,(∀ k,KP r S k=KP r p k)->KP r p m<=KP r p (m-1)->bf2 r S (m+1):=λ S e c i j Y hj=>by
   rw[e,e]
   by_cases z:j<m
   ·exact h3 i j Y z
   ·have:j=m:=by omega
    subst this
    by_cases w:i=j
    ·subst w;exact qj _
    ·exact Nat.le_trans c (h3 i (j-1) (by omega) (by omega))
  refine⟨hp.lt (by omega) _,hp.lt (by omega) _,?_⟩
  by_cases c:KP r p m<KP r p (m-1)
  ·rw[show ltR r (p.getD m 0) (p.getD (m-1) 0)=true from decide_eq_true c];dsimp only;rw[if_pos rfl]
   split
   ·have e:=G_8 (r:=r) (p:=p) (i:=m-(q+1)) (j:=m) (by omega) h4
    exact N_0 f _ (m+1) 0 (hp.rev _ _) (by omega) (by omega) (O _ e (Nat.le_of_lt c)) (one _)
   ·exact N_0 f p (m+1) 0 hp (by omega) (by omega) (O p (λ _=>rfl) (Nat.le_of_lt c)) (one _)
  ·rw[show ltR r (p.getD m 0) (p.getD (m-1) 0)=false from decide_eq_false c];dsimp only;rw[if_neg Bool.false_ne_true]
   refine⟨hp.lt (by omega) _,hp.lt (by omega) _,?_⟩
   by_cases d:KP r p (m-1)<KP r p m
   ·rw[show ltR r (p.getD (m-1) 0) (p.getD m 0)=true from decide_eq_true d];dsimp only;rw[if_pos rfl]
    exact⟨hp,(show 1<=m by omega),(show m<=n by omega),h1,h3,h4⟩
   ·rw[show ltR r (p.getD (m-1) 0) (p.getD m 0)=false from decide_eq_false d];dsimp only;rw[if_neg Bool.false_ne_true]
    have Z:KP r p m=KP r p (m-1):=by omega
    refine N_0 f p (m+1) (q+1) hp (by omega) (by omega) (O p (λ _=>rfl) (by omega)) λ i a b=>?_
    rw[show m+1-1=m by omega]
    by_cases z:i<m
    ·rw[h4 i (by omega) z,Z]
    ·rw[show i=m by omega]
noncomputable def aQ0 (n:Nat) (r:Nat->Nat) (z:Nat×Array Nat):Prop:=OkP n z.2/\1<=z.1/\z.1<=n/\T_9 r z.2 z.1
theorem Y_4 {p:Array Nat}{m:Nat} (z:OkP n p) (h1:1<=m) (h2:m<=n) (S:bf2 r p m):WpT (ltR r) n (aQ0 n r) (kas_tail3 m n p):=by
 have sz:=z.size
 have Z:T_9 r (kas_rev p 0 m) m:=λ i j O hj=>by
  rw[ar6 (by omega),ar6 (by omega),if_pos ⟨by omega,by omega⟩,if_pos ⟨by omega,by omega⟩]
  exact S _ _ (by omega) (by omega)
 refine WpT.bind (λ a h=>?_) _ (aq6 (z.rev 0 m) (n-m) m h1 (by omega) Z)
 obtain⟨g1,g2,Y,_⟩:=h;exact⟨z.rev _ _,(show 1<=a by omega),(show a<=n by omega),Y⟩
theorem F_9 {p:Array Nat}{m:Nat} (hp:OkP n p) (h2:m+1<=n) (h3:bf2 r p (m+1)):WpT (ltR r) n (aQ0 n r) (kas_descPart m n p):=by
 refine WpT.bind (λ z h=>?_) _ (N_0 (n-(m+1)) p (m+1) 0 hp (by omega) (by omega) h3 λ i a b=>by rw[show i=m+1-1 by omega])
 obtain⟨O,Y,g3,g4,Z,g6⟩:=h;have sz:=O.size
 split
 ·have e:=G_8 (r:=r) (p:=z.1) (i:=z.2.1-(z.2.2+1)) (j:=z.2.1) (by omega) g6
  exact Y_4 (O.rev _ _) Y g3 λ i j S hj=>by rw[e,e];exact Z i j S hj
 ·exact Y_4 O Y g3 Z
theorem ax9 {p:Array Nat} (hn:1<=n) (O:OkP n p):WpT (ltR r) n (aQ0 n r) (kas_count n p):=by
 have sz:=O.size;refine WpT.bind (λ m h=>?_) _ (aq6 (r:=r) O (n-1) 1 (qj _) (by omega) λ i j S Z=>by rw[show i=j by omega];exact qj _)
 obtain⟨g1,g2,Y,g4⟩:=h
 by_cases e:m=n
 ·rw[if_pos (by rw[e];exact beq_self_eq_true _)]
  exact⟨O,g1,by omega,Y⟩
 ·rw[if_neg (by simpa using e)]
  have c:=g4 (by omega)
  split
  ·refine⟨O.lt (by omega) _,O.lt (by omega) _,?_⟩
   by_cases d:KP r p 0<KP r p (m-1)
   ·rw[show ltR r (p.getD 0 0) (p.getD (m-1) 0)=true from decide_eq_true d];dsimp only;rw[if_pos rfl]
    exact⟨O,g1,by omega,Y⟩
   ·rw[show ltR r (p.getD 0 0) (p.getD (m-1) 0)=false from decide_eq_false d];dsimp only;rw[if_neg Bool.false_ne_true]
    have all:Eqs r p 0 m:=λ i _ b=>by
     have a1:=Y 0 i (Nat.zero_le _) b;have a2:=Y i (m-1) (by omega) (by omega)
     omega
    have ek:=G_8 (r:=r) (p:=p) (i:=0) (j:=m) (by omega) all
    refine F_9 (O.rev _ _) (by omega) λ i j S Z=>?_
    rw[ek,ek]
    by_cases z:j<m
    ·rw[all i (Nat.zero_le _) (by omega),all j (Nat.zero_le _) z];exact qj _
    ·have:j=m:=by omega
     subst this
     by_cases w:i<j
     ·rw[all i (Nat.zero_le _) w];exact Nat.le_of_lt c
     ·rw[show i=j by omega];exact qj _
  ·have:m=1:=by omega
   subst this;refine F_9 O (by omega) λ i j S Z=>?_
   by_cases z:i=j
   ·rw[z];exact qj _
   ·rw[show i=0 by omega,show j=1 by omega];exact Nat.le_of_lt c
theorem K_6 {p:Array Nat}{k:Nat} (z:OkP n p) (hk:k<n) (h:T_9 r p k):∀ f l q,l<=q->q<=k->q<=l+f->(∀ i,i<l->KP r p i<=KP r p k)->(∀ i,q<=i->i<k->KP r p k<KP r p i) ->
  WpT (ltR r) n (λ l=>l<=k/\(∀ i,i<l->KP r p i<=KP r p k)/\∀ i,l<=i->i<k->KP r p k<KP r p i) (kas_place p k f l q)
 |0,l,q,h1,h2,h3,h4,h5=>⟨by omega,h4,λ i a b=>h5 i (by omega) b⟩
 |f+1,l,q,h1,h2,h3,h4,h5=>by
  unfold kas_place
  split
  ·exact⟨by omega,h4,λ i a b=>h5 i (by omega) b⟩
  ·refine⟨z.lt (by omega) _,z.lt (by omega) _,?_⟩
   by_cases c:KP r p k<KP r p ((l+q) / 2)
   ·rw[show ltR r (p.getD k 0) (p.getD ((l+q) / 2) 0)=true from decide_eq_true c];dsimp only;rw[if_pos rfl]
    exact K_6 z hk h f l ((l+q) / 2) (by omega) (by omega) (by omega) h4 λ i a b=>qp c (h _ i a b)
   ·rw[show ltR r (p.getD k 0) (p.getD ((l+q) / 2) 0)=false from decide_eq_false c];dsimp only;rw[if_neg Bool.false_ne_true]
    exact K_6 z hk h f ((l+q) / 2+1) q (by omega) h2 (by omega) (λ i a=>Nat.le_trans (h i ((l+q) / 2) (by omega) (by omega)) (Nat.le_of_not_lt c)) h5
theorem aE4:∀ f (p:Array Nat) k,OkP n p->k+f=n->T_9 r p k->WpT (ltR r) n (λ p=>OkP n p/\T_9 r p n) (kas_bin f p k)
 |0,p,k,hp,h1,h2=>⟨hp,by rw[show n=k by omega];exact h2⟩
 |f+1,p,k,hp,h1,h2=>by
  have sz:=hp.size;refine WpT.bind (λ l h=>?_) _ (K_6 hp (by omega) h2 k 0 k (Nat.zero_le _) (qj _) (by omega) (λ i z=>absurd z (Nat.not_lt_zero _)) λ i a b=>absurd b (by omega))
  obtain⟨g1,g2,g3⟩:=h;refine aE4 f _ (k+1) (hp.bub _ _) (by omega) λ i j S hj=>?_
  have Z:=aE7 (r:=r) (p:=p) (k:=k) (d:=k-l) (by omega) (by omega) i
  have bj:=aE7 (r:=r) (p:=p) (k:=k) (d:=k-l) (by omega) (by omega) j
  rw[show k-(k-l)=l by omega] at Z bj
  rw[Z,bj]
  by_cases i1:i=l
  ·rw[if_pos i1]
   by_cases O:j=l
   ·rw[if_pos O];exact qj _
   ·rw[if_neg O,if_pos ⟨by omega,by omega⟩]
    exact Nat.le_of_lt (g3 (j-1) (by omega) (by omega))
  ·rw[if_neg i1]
   by_cases Y:l<i/\i<=k
   ·rw[if_pos Y,if_neg (by omega),if_pos ⟨by omega,by omega⟩]
    exact h2 _ _ (by omega) (by omega)
   ·rw[if_neg Y]
    by_cases O:j=l
    ·rw[if_pos O];exact g2 i (by omega)
    ·rw[if_neg O]
     by_cases j2:l<j/\j<=k
     ·rw[if_pos j2];exact h2 _ _ (by omega) (by omega)
     ·rw[if_neg j2];exact h2 _ _ S (by omega)
theorem Q_8:OkP n (List.toArray (List.range n)):=⟨by simp,by simp⟩
theorem aF8 (h2:1<=n):WpT (ltR r) n (λ p=>OkP n p/\T_9 r p n) (kas_sort n):=by
 refine WpT.bind (λ z h=>?_) _ (ax9 h2 Q_8)
 obtain⟨S,Y,Z,O⟩:=h
 split
 ·rw[show max z.1 1=z.1 by omega]
  exact aE4 _ _ _ S (by omega) O
 ·exact⟨S,by rw[show n=z.1 by omega];exact O⟩
end
end Fx
namespace Fx
open PySem PySem.Spec PyProof.Rows L2
noncomputable def aP8:D->Value->Prop
 |.int i,v=>∃ t,v=.int i t
 |.str a,v=>∃ t,v=.str a t
 |_,_=>False
inductive Flats:List D->List Value->Prop
 |nil:Flats [] []
 |cons {d:D}{u:Value}{ds:List D}{us:List Value} (h:aP8 d u) (r:Flats ds us):Flats (d::ds) (u::us)
theorem Flats.length {ds:List D}{z:List Value} (h:Flats ds z):ds.length=z.length:=by
 induction h with
 |nil=>rfl
 |cons _ _ O=>simp[O]
theorem S_1 (A:Around) (s:Shared) {d e:D}{u v:Value} (h:B_2 d e=true) (z:aP8 d u) (O:aP8 e v):SeqAt.EqAt A s u v (eqD d e):=by
 cases d with
 |int i =>
  cases e with
  |int j =>
   obtain⟨t,rfl⟩:=z;obtain⟨w,rfl⟩:=O;rw[show eqD (.int i) (.int j)=(i==j) by rw[eqD]]
   exact SeqAt.EqAt.int_int i t j w
  |_=>cases h
 |str a =>
  cases e with
  |str b =>
   obtain⟨t,rfl⟩:=z;obtain⟨w,rfl⟩:=O;rw[show eqD (.str a) (.str b)=(a==b) by rw[eqD]]
   exact SeqAt.EqAt.str_str a t b w
  |_=>cases h
 |_=>cases h
theorem P_2 (A:Around) (s:Shared) {d e:D}{u v:Value} (h:B_2 d e=true) (O:aP8 d u) (S:aP8 e v) (prog:Program) (w:World) (E:Value->Shared->Prop) (Q:Value->Shared->Prop) (q:Q (.bool (ltF d e)) s) :
  wpAny (model prog w) A (richCompare .Lt u v) Q E s:=by
 cases d with
 |int i =>
  cases e with
  |int j =>
   obtain⟨t,rfl⟩:=O;obtain⟨z,rfl⟩:=S;exact (PyProof.Rows.lt_int q:wpAny (model prog w) A (compareOp .Lt (.int i t) (.int j z)) Q E s)
  |_=>cases h
 |str a =>
  cases e with
  |str b =>
   obtain⟨t,rfl⟩:=O;obtain⟨z,rfl⟩:=S;exact (PyProof.Rows.lt_str (by simpa [ltF] using q):wpAny (model prog w) A (compareOp .Lt (.str a t) (.str b z)) Q E s)
  |_=>cases h
 |_=>cases h
section
open PySem.SeqAt
open PySem.AutoSeq1 (wpAny_loadPart')
open PySem.MeetsSeq PySem.MeetsSeq2 PySem.MeetsSeq3
theorem K_1 (l b:Addr) (items z:Array Value) (n n2:Nat) (dd ah:Option Addr) (sl ai:Array (Option Value)) (ds es:List D) (hi:Flats ds items.toList) (hj:Flats es z.toList) (hs:g_9 ds es=true) :
  Meets (Builtin.«tuple.__lt__» ⟨[.ref l,.ref b],[]⟩)
   (λ _ R s=>s.heap.get? l=some {cls:=.type "tuple",dict:=dd,data:=.seq items n,slots:=sl} ∧ s.heap.get? b=some {cls:=.type "tuple",dict:=ah,data:=.seq z n2,slots:=ai} ∧
    R (.ok (.ret (.bool (H_9 ds es)))) s) :=
 .of_wp λ prog w A R s h=>by
  obtain⟨hp,g,d,tk,os⟩:=s;obtain⟨hl,hb,h⟩:=h;have f2:=AutoSeq1.sub_tuple_tuple;have z1:items.size=ds.length:=by rw[hi.length];simp
  have z2:z.size=es.length:=by rw[hj.length];simp
  have z3:=(r_0 hs).1
  wp_walk using wpAny_loadPart' hl,wpAny_loadPart' hb,wpAny_forIn_list _ (λ rest b s'=>b.1=none/\s'=⟨hp,g,d,tk,os⟩/\∃ (vs ws:List Value) (S O:List D),rest=vs.zip ws /\
   Flats S vs/\Flats O ws/\g_9 S O=true/\R (.ok (.ret (.bool (H_9 S O)))) ⟨hp,g,d,tk,os⟩) _
  case turn =>
   rintro ⟨y,x⟩ rest b s' ⟨aa,rfl,vs,ws,S,O,hz,ab,ac,Y,Z⟩;cases ab with
   |nil=>rw[List.zip_nil_left] at hz;cases hz
   |@cons dx ux al am hd af =>
    cases ac with
    |nil=>rw[List.zip_nil_right] at hz;cases hz
    |@cons ex vx aj ak ad ae =>
     rw[List.zip_cons_cons] at hz;injection hz with hyx hrest
     injection hyx with hy hx
     subst hy hx;unfold g_9 at Y;rw[Bool.and_eq_true] at Y;unfold H_9 at Z;refine qb (S_1 A.in1 ⟨hp,g,d,tk,os⟩ Y.1 hd ad prog w _ _ ?_);cases hq:eqD dx ex with
     |true =>
      rw[hq,if_pos rfl] at Z
      wp_walk
      exact⟨rfl,rfl,_,_,_,_,hrest,af,ae,Y.2,Z⟩
     |false =>
      rw[hq,if_neg Bool.false_ne_true] at Z;have ag:=P_2 A.in1 ⟨hp,g,d,tk,os⟩ Y.1 hd ad prog w
      wp_walk using ag
      exact⟨_,rfl,by simpa using Z⟩
  case fin =>
   rintro ⟨b1,b2⟩ s' ⟨aa,rfl,vs,ws,S,O,hz,ab,ac,Y,Z⟩;simp only at aa;subst aa
   have hv:H_9 S O=decide (items.size<z.size):=by
    rw[decide_eq_false (by omega)]
    cases ab with
    |nil=>unfold H_9;rfl
    |cons a hv =>
     cases ac with
     |nil=>unfold H_9;rfl
     |cons c hw=>rw[List.zip_cons_cons] at hz;cases hz
   rw[hv] at Z
   wp_walk
   exact⟨_,rfl,by simpa [Builtin.Tuple.tupleCompareSizes] using Z⟩
  case h =>
   exact⟨rfl,rfl,items.toList,z.toList,ds,es,rfl,hi,hj,hs,h⟩
end
theorem J_2 {prog:Program}{w:World}{A:Around}{E:Value->Shared->Prop}{s:Shared}{l b:Addr}{items z:Array Value}{ds es:List D}{Q:Value->Shared->Prop} (hl:IsTup s.heap l items) (hb:IsTup s.heap b z) (hi:Flats ds items.toList) (hj:Flats es z.toList) (hs:g_9 ds es=true)
  (hu:A.units<cLine) (h:Q (.bool (H_9 ds es)) s):wpAny (model prog w) A (compareOp .Lt (.ref l) (.ref b)) Q E s:=by
 obtain⟨⟨cls,dd,data,sl⟩,ho,hc,n,hd⟩:=id hl;obtain⟨⟨ac,Z,aa,ab⟩,S,Y,n2,O⟩:=id hb;simp only at hc hd Y O;subst hc hd Y O;exact richCompare_meets_room (op:=.Lt) ⟨_,ho,rfl⟩ ⟨_,S,rfl⟩ PySem.F.slot_tuple_lt PySem.F.entry_tuple_lt (PySem.F.args_tuple_lt_2 _ _) (K_1 l b items z n n2 dd Z sl ab ds es hi hj hs)
  ⟨ho,S,show Value.bool (H_9 ds es)≠Value.notImplemented/\Q (.bool (H_9 ds es)) s from ⟨(λ x=>nomatch x),h⟩⟩ hu
end Fx
namespace Fx
open PySem PySem.W PySem.Spec PyProof.Rows
section
variable {prog:Program}{w:World}{A:Around}{E:Value->Shared->Prop}{s:Shared}
structure Asks (prog:Program) (w:World) (A:Around) (s:Shared) (a:Addr) (vs:List Value) (κ:SortKind) (r:Nat->Nat):Prop where
 kind:2<=vs.length->∀ h',(∀ b o,b≠a->s.heap.get? b=some o->h'.get? b=some o)->∀ Q:SortKind->Shared->Prop,Q κ {s with heap:=h'}->wpAny (model prog w) A (keyKind' vs.toArray) Q (λ _ _=>False) {s with heap:=h'}
 ask:∀ h',(∀ b o,b≠a->s.heap.get? b=some o->h'.get? b=some o)->∀ i j,i<vs.length->j<vs.length->∀ C:Bool->Shared->Prop,C (ltR r i j) {s with heap:=h'}->kas_ask prog w A κ vs i j C {s with heap:=h'}
theorem af0 (vs:List Value):(List.range vs.length).map (λ i=>vs.getD i Value.none)=vs:=by
 refine List.ext_getElem (by simp) λ i h1 h2=>?_
 simp[h2]
theorem H_8 {a:Addr}{vs:List Value}{n:Nat}{κ:SortKind}{r:Nat → Nat}{P:PySem.Fin → Shared → Prop} (ho:s.heap.get? a=some (seqObj "list" vs.toArray n)) (ad:vs.length<64) (k:Asks prog w A s a vs κ r)
  (fin:∀ p:Array Nat,OkP vs.length p->T_9 r p vs.length->P (.done (.ret .none)) {s with heap:=sortedHeap s.heap a vs (p.toList.map λ i=>vs.getD i Value.none).toArray}) :
  wpAny (model prog w) A (Builtin.«list.sort» ⟨[.ref a],[]⟩) P E s:=by
 rw[list_sort_plain];have ha:a<s.heap.objs.size:=qm ho;have big:(64:Nat)<=sizeLine:=by decide
 have af:vs.toArray.size=vs.length:=by simp
 refine qb (listItems_at ho rfl ?_);refine qb (listUpdate_at ho rfl ?_ (by omega) (Nat.zero_le _))
 obtain⟨e1,aa⟩:∃ e1,(s.heap.update a (Obj.mapSeq λ _=>#[])).get? a=some (seqObj "list" #[] e1):=⟨_,get?_update_seq ho (λ _=>#[])⟩
 refine qb (seqEpoch_at aa rfl ?_);refine qb (wpAny_newTuple ?_ (show vs.length<=_ by omega))
 refine qb (wpAny_newList ?_ (Nat.zero_le _));refine wpAny_holding ?_;have up:∀ b o,b<s.heap.objs.size → (s.heap.update a (Obj.mapSeq λ _=>#[])).get? b=some o → (((s.heap.update a (Obj.mapSeq λ _=>#[])).push (seqObj "tuple" vs.toArray 0)).push (seqObj "list" #[] 0)).get? b=some o:=λ b o hb q=>qd _ (qd _ q)
 have ac:=up a _ ha aa;have keep:∀ b o,b≠a → s.heap.get? b=some o → (((s.heap.update a (Obj.mapSeq λ _=>#[])).push (seqObj "tuple" vs.toArray 0)).push (seqObj "list" #[] 0)).get? b=some o:=λ b o hb q =>
  up b o (qm q) (by rw[Heap.get?_update_ne _ _ _ _ hb];exact q)
 show wpAny (model prog w) A _ P E {s with heap:=((s.heap.update a (Obj.mapSeq λ _=>#[])).push (seqObj "tuple" vs.toArray 0)).push (seqObj "list" #[] 0)}
 dsimp only;have Z:∀ (p:Array Nat) (st:SortSt),OkP vs.length p->T_9 r p vs.length->(arrOf st).map (·.2)=(p.toList.map λ i=>vs.getD i Value.none).toArray->failedOf st=none->wpAny (model prog w) A (do
   let S:=(<- seqEpoch a) != e1
   Builtin.List.listUpdate (.ref a) λ _=>(arrOf st).map (·.2)
   if let some e:=failedOf st then rule "list.sort.comparison-raised";throw e
   if S then rule "list.sort.modified";raiseError "ValueError" "list modified during sort"
   ret .none) P E {s with heap:=((s.heap.update a (Obj.mapSeq λ _=>#[])).push (seqObj "tuple" vs.toArray 0)).push (seqObj "list" #[] 0)}:=λ p st op mo ar fa=>by
  refine qb (seqEpoch_at ac rfl ?_);rw[ar];have z:(p.toList.map λ i=>vs.getD i Value.none).toArray.size=vs.length:=by rw[List.size_toArray,List.length_map,Array.length_toList,op.size]
  refine qb (listUpdate_at ac rfl ?_ (Nat.zero_le _) (by rw[z];omega))
  rw[fa];simp only[bne_self_eq_false,Bool.false_eq_true,if_false];exact qc (fin p op mo)
 by_cases h2:vs.toArray.size<2
 ·rw[if_pos h2,if_pos h2]
  refine qb (qc ?_);rw[StateT.run_pure];refine qb (qc ?_);refine Z (List.toArray (List.range vs.length)) _ Q_8 (λ i j ae hj=>by rw[show i=j by omega];exact qj _) ?_ rfl
  show ((vs.toArray.zip vs.toArray).map (·.2))=_;rw[show (List.toArray (List.range vs.length)).toList=List.range vs.length from rfl,af0]
  apply Array.toList_inj.mp
  rw[Array.toList_map];simp[List.map_snd_zip]
 ·rw[if_neg h2,if_neg h2]
  refine qb (wpAny_mono (k.kind (by omega) _ keep (λ ab s'=>ab=κ ∧ s'={s with heap:=((s.heap.update a (Obj.mapSeq λ _=>#[])).push (seqObj "tuple" vs.toArray 0)).push (seqObj "list" #[] 0)}) ⟨rfl,rfl⟩) (λ ab s' hk=>?_) λ _ _ x=>x.elim)
  obtain⟨rfl,rfl⟩:=hk;refine qb (wpAny_mono (kat_run (Q:=λ Y s'=>s'={s with heap:=((s.heap.update a (Obj.mapSeq λ _=>#[])).push (seqObj "tuple" vs.toArray 0)).push (seqObj "list" #[] 0)} ∧ ∃ p:Array Nat,OkP vs.length p ∧ T_9 r p vs.length ∧ arrOf Y=p.map (kas_item (vs.toArray.zip vs.toArray)) ∧ failedOf Y=none)
   (G:=λ p s'=>s'={s with heap:=((s.heap.update a (Obj.mapSeq λ _=>#[])).push (seqObj "tuple" vs.toArray 0)).push (seqObj "list" #[] 0)} ∧ OkP vs.length p ∧ T_9 r p vs.length) rfl (by omega) ad (λ p Y s' _ a2 a3 a4=>⟨a4.1,p,a4.2.1,a4.2.2,a2,a3⟩)
   (WpT.run (lt:=ltR r) (n:=vs.length) (J:=λ s'=>s'={s with heap:=((s.heap.update a (Obj.mapSeq λ _=>#[])).push (seqObj "tuple" vs.toArray 0)).push (seqObj "list" #[] 0)}) (λ i j C s' hi hj O hC=>?_) (λ p s' hp O=>⟨O,hp.1,hp.2⟩) _ _ (aF8 (by omega)) rfl)) ?_ λ _ _ e=>e)
  ·subst O
   exact k.ask _ keep i j hi hj C (hC _ rfl)
  ·rintro ⟨⟨⟩,Y⟩ s' ⟨O,p,h1,h3,h4,h5⟩
   dsimp only at O h4 h5;subst O;exact Z p Y h1 h3 (kat_snds rfl h4) h5
theorem D_5 {it:Addr}{Y:Obj}{n:Nat}{z:List Value}{κ:SortKind}{Q:Value → Shared → Prop}{r:Nat → Nat} (ho:s.heap.get? it=some Y) (hc:Y.cls=.type "list") (hd:Y.data=.seq z.toArray n) (S:z.length<64)
  (k:∀ (h1:Heap) (a:Addr),(∀ b o,s.heap.get? b=some o->h1.get? b=some o)->s.heap.get? a=none->Asks prog w A.in1.in1 {s with heap:=h1} a z κ r)
  (fin:∀ (h1 h2:Heap) (p:Array Nat) (e:Nat),OkP z.length p → T_9 r p z.length → (∀ b o',s.heap.get? b=some o' → h1.get? b=some o') → (∀ b o',h1.get? b=some o' → h2.get? b=some o') → h2.get? h1.objs.size=some (seqObj "list" (p.toList.map λ i=>z.getD i Value.none).toArray e) → Q (.ref h1.objs.size) {s with heap:=h2}) :
  wpAny (model prog w) A (call (.builtin "sorted") [.ref it]) Q E s:=by
 refine Calls.call_function_entry kind_sorted plain_sorted entry_sorted (args_sorted1 _) ?_;unfold Builtin.«sorted»;refine qb (m:=checkCount "sorted" 1 1 _) (qc ?_);have hz:z.toArray.size<=sizeLine:=by rw[List.size_toArray,sizeLine_eq];omega
 refine qb (wpAny_collect_seq it (.inl rfl) ho hc hd (λ h1 kp=>?_) hz)
 refine qb (wpAny_newList ?_);have O:(h1.push (seqObj "list" z.toArray 0)).get? h1.objs.size=some (seqObj "list" z.toArray 0):=qk _ rfl;have Z:∀ b o,s.heap.get? b=some o → (h1.push (seqObj "list" z.toArray 0)).get? b=some o:=λ b o q=>qd _ (kp b o q)
 have new:s.heap.get? h1.objs.size=none:=by
  cases q:s.heap.get? h1.objs.size with
  |none=>rfl
  |some o=>exact absurd (qm (kp _ o q)) (Nat.lt_irrefl _)
 refine qb (wpAny_holding (wpAny_call_entry slot_list_sort ⟨_,O,rfl⟩ entry_list_sort (H_8 (s:={s with heap:=h1.push (seqObj "list" z.toArray 0)}) O S (k _ _ Z new) λ p op mo=>⟨_,rfl,?_⟩) (args_list_sort _)))
 obtain⟨e,he⟩:=sortedHeap_at (out:=(p.toList.map λ i=>z.getD i Value.none).toArray) O
 refine qc ⟨_,rfl,fin h1 _ p e op mo kp (λ b o' hb=>?_) he⟩
 have lt:b<h1.objs.size:=qm hb;show (sortedHeap (h1.push (seqObj "list" z.toArray 0)) h1.objs.size z (p.toList.map λ i=>z.getD i Value.none).toArray).get? b=some o'
 rw[sortedHeap_old (Nat.ne_of_lt lt) (by rw[size_push'];exact Nat.lt_succ_of_lt lt)]
 exact qd _ hb
end
end Fx
namespace Fx
open PySem PySem.W PySem.Spec PyProof.Rows L2
section
variable {prog:Program}{w:World}{A:Around}{E:Value->Shared->Prop}{s:Shared}{b:Bool}{Q:Bool->Shared->Prop}
theorem C_6 {p q:Value}{r:List (Value×Value)}{i:Nat}{e l:Bool}{fin:Bool} (S:SeqAt.EqAt A s p q e) (Y:∀ O:Bool->Shared->Prop,O l s->wpAny (model prog w) A (oneLt' (b&&i==0) p q) O (λ _ _=>False) s)
  (h1:e=true->KatLex prog w A b fin Q r (i+1) s) (h2:e=false->Q l s):KatLex prog w A b fin Q ((p,q)::r) i s :=
 kat_cons (S prog w _ _ (kat_go (λ z=>kat_yes (h1 z)) λ z=>kat_no (Y Q (h2 z))))
theorem ae2 (c:Bool) {d e:D}{u v:Value} (h:B_2 d e=true) (z:aP8 d u) (O:aP8 e v) (S:Bool->Shared->Prop) (q:S (ltF d e) s):wpAny (model prog w) A (oneLt' c u v) S E s:=by
 cases c with
 |false=>exact kat_one u v (P_2 A s h z O prog w E _ q)
 |true =>
  cases d with
  |int i =>
   cases e with
   |int j=>obtain⟨t,rfl⟩:=z;obtain⟨Y,rfl⟩:=O;exact oneLt_int q
   |_=>cases h
  |str a =>
   cases e with
   |str b=>obtain⟨t,rfl⟩:=z;obtain⟨Y,rfl⟩:=O;exact oneLt_str q
   |_=>cases h
  |_=>cases h
theorem w_0:∀ (ds es:List D) {S vs:List Value}{i:Nat},g_9 ds es=true->Flats ds S->Flats es vs->Q (H_9 ds es) s->KatLex prog w A b false Q (S.zip vs) i s
 |[],[],_,_,i,h,f1,f2,q=>by
  cases f1;cases f2;unfold H_9 at q;exact kat_nil q
 |[],_::_,_,_,i,h,_,_,q=>by cases h
 |_::_,[],_,_,i,h,_,_,q=>by cases h
 |d::ds,e::es,_,_,i,h,f1,f2,q=>by
  cases f1 with
  |cons a r =>
   cases f2 with
   |cons O Y =>
    unfold g_9 at h;rw[Bool.and_eq_true] at h;unfold H_9 at q;rw[List.zip_cons_cons];refine C_6 (S_1 A s h.1 a O) (λ Z=>ae2 _ h.1 a O Z) (λ z=>?_) λ z=>?_
    ·rw[if_pos z] at q;exact w_0 ds es h.2 r Y q
    ·rw[if_neg (by rw[z];exact Bool.false_ne_true)] at q;exact q
end
theorem aE5:∀ {a c:Ky}{x y:Ky},a.length=c.length->(a++x<c++y↔a<c\/(a=c/\x<y))
 |[],[],x,y,_=>by simp
 |[],_::_,_,_,h=>by cases h
 |_::_,[],_,_,h=>by cases h
 |k::a,l::c,x,y,h=>by
  rw[List.cons_append,List.cons_append,List.cons_lt_cons_iff,List.cons_lt_cons_iff,aE5 (by simpa using h)]
  constructor
  ·rintro (z | ⟨rfl,z | ⟨rfl,z⟩⟩)
   ·exact .inl (.inl z)
   ·exact .inl (.inr ⟨rfl,z⟩)
   ·exact .inr ⟨rfl,z⟩
  ·rintro ((z | ⟨rfl,z⟩) | ⟨z,O⟩)
   ·exact .inl z
   ·exact .inr ⟨rfl,.inl z⟩
   ·injection z with z3 z4;subst z3 z4;exact .inr ⟨rfl,.inr ⟨rfl,O⟩⟩
theorem p_0 (xs:List D):fK (.tup xs)=fKs xs:=by rw[fK]
theorem F_6:fKs []=[]:=by rw[fKs]
theorem x_1:∀ {ds es:List D},g_9 ds es=true->(x_2 ds es=true↔ds=es)
 |[],[],_=>by simp
 |[],_::_,h=>by cases h
 |_::_,[],h=>by cases h
 |d::r,e::t,h=>by
  unfold g_9 at h;rw[Bool.and_eq_true] at h;have q:=(C_3 h.1).1;have z:=x_1 h.2;rw[show x_2 (d::r) (e::t)=(eqD d e&&x_2 r t) by simp[x_2],Bool.and_eq_true,q,z]
  simp
theorem aA5 {S O Z Y:List D} (h1:g_9 S Z=true) (h2:g_9 O Y=true):(if eqD (.tup S) (.tup Z)=true then (if eqD (.tup O) (.tup Y)=true then false else H_9 O Y) else H_9 S Z)=decide (fK (.tup [.tup S,.tup O])<fK (.tup [.tup Z,.tup Y])):=by
 have e:∀ x y:List D,fK (.tup [.tup x,.tup y])=fKs x++fKs y:=λ x y=>by rw[p_0,h_3,h_3,p_0,p_0,F_6,List.append_nil]
 rw[e,e,F_0 h1,F_0 h2,w_2,w_2];have l:=aE5 (a:=fKs S) (c:=fKs Z) (x:=fKs O) (y:=fKs Y) (r_0 h1).2
 by_cases z:x_2 S Z=true
 ·rw[if_pos z]
  have z':=(x_1 h1).mp z;subst z'
  have l2:(fKs S++fKs O<fKs S++fKs Y)↔fKs O<fKs Y:=by
   rw[l];exact⟨λ y=>y.elim (λ y=>absurd y (List.lt_irrefl _)) (·.2),λ y=>.inr ⟨rfl,y⟩⟩
  by_cases z2:x_2 O Y=true
  ·rw[if_pos z2]
   have aa:=(x_1 h2).mp z2;subst aa;exact (decide_eq_false (List.lt_irrefl _)).symm
  ·rw[if_neg z2]
   exact decide_eq_decide.mpr l2.symm
 ·rw[if_neg z]
  refine decide_eq_decide.mpr ?_;rw[l];exact⟨.inl,λ y=>y.elim id λ y=>absurd ((x_1 h1).mpr ((n_5 h1).mp y.1)) z⟩
theorem ai4 {d:D} (h:r3 d=true):∃ i a j,d=.tup [.int i,.str a,.int j]:=by
 unfold r3 at h
 split at h
 ·exact⟨_,_,_,rfl⟩
 ·cases h
theorem P_3 {d:D} (h:r22 d=true):∃ a i j k,d=.tup [.tup [.str a,.int i],.tup [.int j,.int k]]:=by
 unfold r22 at h
 split at h
 ·exact⟨_,_,_,_,rfl⟩
 ·cases h
section
variable {X:Cx}{pins:List (Addr×Obj)}{σ:L2.St}{H:Hp}{s:Shared}
theorem p_1 {K:Frag}:∀ {ds:List D}{vs:List V}{z:List Value},(∀ d∈ds,∃ e,B_2 d e=true)->Reps K H ds vs->Vals vs z->Flats ds z
 |[],vs,z,_,r,v=>by unfold Reps at r;subst r;cases v;exact .nil
 |d::ds,vs,z,h,r,v=>by
  unfold Reps at r;obtain⟨x,vr,rfl,O,r2⟩:=r;cases v with
  |cons Y Z =>
   refine .cons ?_ (p_1 (λ e S=>h e (qh _ S)) r2 Z)
   obtain⟨e,S⟩:=h d qg;cases d with
   |int i=>unfold Rep at O;subst O;exact Y
   |str a=>unfold Rep at O;subst O;exact Y
   |_=>cases e <;> cases S
theorem q_9 (I:Inv X pins σ H s) {ds:List D}{v:V}{u:Value} (r:Rep X.K H (.tup ds) v) (Y:RelV v u):∃ a O z,u=.ref a/\IsTup s.heap a (List.toArray z)/\Reps X.K H ds O/\Vals O z:=by
 unfold Rep at r;obtain⟨a,O,rfl,S,Z⟩:=r;obtain⟨z,rv,tp,_⟩:=I.tuple S;exact⟨a,O,z,Y,tp,Z,rv⟩
theorem q_3 {K:Frag}:∀ {ds:List D}{vs:List V}{z:List Value}{i:Nat},Reps K H ds vs->Vals vs z->i<ds.length->∃ v,Rep K H (ds.getD i .non) v/\RelV v (z.getD i Value.none)
 |[],_,_,_,_,_,h=>by cases h
 |d::ds,vs,z,i,r,v,h=>by
  unfold Reps at r;obtain⟨x,vr,rfl,Z,Y⟩:=r;cases v with
  |cons O S =>
   cases i with
   |zero=>exact⟨x,Z,O⟩
   |succ i=>exact q_3 (i:=i) Y S (by simpa using h)
theorem D_6 {K:Frag}{ds:List D}{vs:List V}{O:List Value} (r:Reps K H ds vs) (v:Vals vs O):∀ {is:List Nat},(∀ i∈is,i<ds.length)->∃ z,Reps K H (is.map λ i=>ds.getD i .non) z/\Vals z (is.map λ i=>O.getD i Value.none)
 |[],_=>⟨[],by unfold Reps;rfl,.nil⟩
 |i::is,h=>by
  obtain⟨x,r1,Y⟩:=q_3 r v (h i qg);obtain⟨z,r3,Z⟩:=D_6 r v (is:=is) λ j S=>h j (qh _ S)
  exact⟨x::z,Reps.cons r1 r3,.cons Y Z⟩
end
section
variable {X:Cx}{pins:List (Addr×Obj)}{σ:L2.St}{H:Hp}{s:Shared}
theorem bv5 {P:D->Prop}{a:D} (h:P a):∀ d∈[a],P d:=λ d z=>by rw[List.mem_singleton.mp z];exact h
theorem bJ6 {A:Around}{b:Bool}{Q:Bool->Shared->Prop}{E:Value->Shared->Prop} (I:Inv X pins σ H s) {d e:D} (O:r3 d=true) (he:r3 e=true) {x y:V}{u v:Value} (r1:Rep X.K H d x) (v1:RelV x u) (r2:Rep X.K H e y) (v2:RelV y v)
  (q:Q (decide (fK d<fK e)) s):wpAny (model X.prog X.w) A (keyLt' (tuples' b) u v) Q E s:=by
 obtain⟨i,a,j,rfl⟩:=ai4 O;obtain⟨i',a',j',rfl⟩:=ai4 he;obtain⟨p1,ws,aa,rfl,⟨o,ho,hc,n,Y⟩,rr,rv⟩:=q_9 I r1 v1;obtain⟨p2,ac,its',rfl,⟨o',ab,ad,n',z⟩,S,Z⟩:=q_9 I r2 v2;have sm:g_9 [.int i,.str a,.int j] [.int i',.str a',.int j']=true:=rfl
 have fl:∀ (i:Int) (a:Str) (j:Int),∀ d∈[D.int i,.str a,.int j],∃ e,B_2 d e=true:=λ i a j d O=>by
  simp only[List.mem_cons,List.not_mem_nil,or_false] at O
  rcases O with rfl | rfl | rfl
  ·exact⟨.int 0,rfl⟩
  ·exact⟨.str a,rfl⟩
  ·exact⟨.int 0,rfl⟩
 have f1:=p_1 (fl i a j) rr rv;have f2:=p_1 (fl i' a' j') S Z;have l1:=f1.length;have l2:=f2.length;rw[p_0,p_0,<- F_0 sm] at q;refine kat_lt ho Y ab z ?_;rw[show decide ((List.toArray aa).size<(List.toArray its').size)=false from decide_eq_false (by rw[List.size_toArray,List.size_toArray,<- l1,<- l2];exact Nat.lt_irrefl _)]
 exact w_0 _ _ sm f1 f2 q
theorem bs2 {A:Around}{Q:Bool->Shared->Prop}{E:Value->Shared->Prop} (hA:A.units+8<cLine) (I:Inv X pins σ H s) {d e:D} (Z:r22 d=true) (he:r22 e=true) {x y:V}{u v:Value} (r1:Rep X.K H d x) (v1:RelV x u) (r2:Rep X.K H e y) (v2:RelV y v)
  (q:Q (decide (fK d<fK e)) s):wpAny (model X.prog X.w) A (keyLt' (tuples' false) u v) Q E s:=by
 obtain⟨a,i,j,k,rfl⟩:=P_3 Z;obtain⟨a',i',j',k',rfl⟩:=P_3 he;obtain⟨p1,ws,ai,rfl,⟨o,ho,hc,n,ac⟩,Y,rv⟩:=q_9 I r1 v1;obtain⟨p2,ag,its',rfl,⟨o',af,ah,n',aa⟩,O,S⟩:=q_9 I r2 v2;have s1:g_9 [.str a,.int i] [.str a',.int i']=true:=rfl;have s2:g_9 [.int j,.int k] [.int j',.int k']=true:=rfl
 have fl:∀ (a:Str) (i:Int),∀ d∈[D.str a,.int i],∃ e,B_2 d e=true:=λ a i d Z=>by
  simp only[List.mem_cons,List.not_mem_nil,or_false] at Z
  rcases Z with rfl | rfl
  ·exact⟨.str a,rfl⟩
  ·exact⟨.int 0,rfl⟩
 have fm:∀ (j k:Int),∀ d∈[D.int j,.int k],∃ e,B_2 d e=true:=λ j k d Z=>by
  simp only[List.mem_cons,List.not_mem_nil,or_false] at Z
  rcases Z with rfl | rfl
  ·exact⟨.int 0,rfl⟩
  ·exact⟨.int 0,rfl⟩
 rw[<- aA5 s1 s2] at q;unfold Reps at Y O;obtain⟨x1,t1,rfl,q1,Y⟩:=Y;obtain⟨y1,t2,rfl,q2,O⟩:=O;unfold Reps at Y O;obtain⟨x2,t3,rfl,q3,Y⟩:=Y;obtain⟨y2,t4,rfl,q4,O⟩:=O;unfold Reps at Y O;subst Y O;cases rv with
 |cons c1 rv =>
  cases rv with
  |cons c2 rv =>
   cases rv;cases S with
   |cons c3 S =>
    cases S with
    |cons c4 S =>
     cases S
     rename_i u1 u2 w1 w2
     have ab:=S_0 I 3;have E1:SeqAt.EqAt A s u1 w1 (eqD (.tup [.str a,.int i]) (.tup [.str a',.int i'])):=ab A _ _ x1 y1 u1 w1 (by simp) (by simp) (by simp) (by omega) q1 c1 q2 c3
     have E2:SeqAt.EqAt A s u2 w2 (eqD (.tup [.int j,.int k]) (.tup [.int j',.int k'])):=ab A _ _ x2 y2 u2 w2 (by simp) (by simp) (by simp) (by omega) q3 c2 q4 c4
     have T:∀ {ds es:List D}{x y:V}{u v:Value},g_9 ds es=true->(∀ d∈ds,∃ e,B_2 d e=true)->(∀ d∈es,∃ e,B_2 d e=true)->Rep X.K H (.tup ds) x->RelV x u->Rep X.K H (.tup es) y->RelV y v->∀ Q':Bool->Shared->Prop,Q' (H_9 ds es) s->wpAny (model X.prog X.w) A (oneLt' false u v) Q' (λ _ _=>False) s:=λ {ds es x y u v} sm g1 g2 ra rb rc rd Q' q'=>by
      obtain⟨a1,_,i1,rfl,ae,m1,m2⟩:=q_9 I ra rb;obtain⟨a2,_,i2,rfl,ad,m3,m4⟩:=q_9 I rc rd;exact kat_one _ _ (J_2 ae ad (p_1 g1 m1 m2) (p_1 g2 m3 m4) sm (by omega) q')
     refine kat_lt ho ac af aa (C_6 E1 (λ Q'=>T s1 (fl a i) (fl a' i') q1 c1 q2 c3 Q') (λ z=>C_6 E2 (λ Q'=>T s2 (fm j k) (fm j' k') q3 c2 q4 c4 Q') (λ z2=>kat_nil ?_) λ z2=>?_) λ z=>?_)
     ·rw[if_pos z,if_pos z2] at q;exact q
     ·rw[if_pos z,if_neg (by rw[z2];exact Bool.false_ne_true)] at q;exact q
     ·rw[if_neg (by rw[z];exact Bool.false_ne_true)] at q;exact q
theorem ab5 {T:Value} (I:Inv X pins σ H s):∀ {ds:List D}{vs:List V}{O:List Value},(∀ d∈ds,∃ e r,d=.tup (e::r)/\∀ (x:V) (u:Value),Rep X.K H e x->RelV x u->Looks (model X.prog X.w) s.heap (typeOf u) T)->Reps X.K H ds vs->Vals vs O ->
  ∃ fs:List Value,KatTups s.heap O fs/\fs.length=ds.length/\∀ v∈fs,Looks (model X.prog X.w) s.heap (typeOf v) T
 |[],vs,O,_,r,v=>by unfold Reps at r;subst r;cases v;exact⟨[],.nil,rfl,λ _ h=>by cases h⟩
 |d::ds,vs,O,h,r,v=>by
  unfold Reps at r;obtain⟨x,vr,rfl,r1,r2⟩:=r;cases v with
  |cons rx vx =>
   obtain⟨fs,k1,k2,k3⟩:=ab5 I (λ e Y=>h e (qh _ Y)) r2 vx
   obtain⟨e,rr,rfl,hT⟩:=h d qg;obtain⟨a,ws,ab,rfl,⟨o,ho,hc,n,hd⟩,r3,v3⟩:=q_9 I r1 rx;unfold Reps at r3;obtain⟨x1,wr,rfl,Z,_⟩:=r3;cases v3 with
   |@cons _ u1 _ l1 S aa =>
    refine⟨u1::fs,.cons ho hc hd (by simp) k1,by simp[k2],λ z hz=>?_⟩
    rcases qt hz with rfl | hz
    ·exact hT _ _ Z S
    ·exact k3 z hz
theorem ak8 {M:Model}{h:Heap}{i:Int}{t:Tok}:Looks M h (typeOf (.int i t)) (.type "int"):=.now
theorem R_2 {M:Model}{h:Heap}{a:Addr}{z:Array Value} (x:IsTup h a z):Looks M h (typeOf (.ref a)) (.type "tuple"):=by
 obtain⟨o,O,S,_⟩:=x;rw[<- S];exact (Looks.ld O).andThen .now
noncomputable def aV3 (K:Frag):List V->Hp->VK->Prop:=λ xs H Q=>∃ p ds vs H0,xs=[.ref p]/\SqL K H p vs/\Same H0 H/\Reps K H0 ds vs/\ds.length<64/\(ds.all r3=true\/ds.all r22=true)/\∀ l z,H l=none->Reps K H0 (sortT ds) z->Q (.ref l) (upd H l (.lst z))
theorem aV6 {a b:D} (ha:r3 a=true) (hb:r3 b=true) (h:fK a=fK b):a=b:=by
 obtain⟨i,x,j,rfl⟩:=ai4 ha;obtain⟨S,O,z,rfl⟩:=ai4 hb;rw[p_0,p_0] at h;rw[(n_5 (ds:=[.int i,.str x,.int j]) (es:=[.int S,.str O,.int z]) rfl).mp h]
theorem aG8 {a b:D} (ha:r22 a=true) (hb:r22 b=true) (h:fK a=fK b):a=b:=by
 obtain⟨x,i,j,k,rfl⟩:=P_3 ha;obtain⟨z,O,Y,S,rfl⟩:=P_3 hb;have e:∀ x y:List D,fK (.tup [.tup x,.tup y])=fKs x++fKs y:=λ x y=>by rw[p_0,h_3,h_3,p_0,p_0,F_6,List.append_nil]
 rw[e,e] at h;obtain⟨h1,h2⟩:=List.append_inj h (r_0 (ds:=[.str x,.int i]) (es:=[.str z,.int O]) rfl).2;rw[(n_5 (ds:=[.str x,.int i]) (es:=[.str z,.int O]) rfl).mp h1,(n_5 (ds:=[.int j,.int k]) (es:=[.int Y,.int S]) rfl).mp h2]
theorem af4 (hu:X.A.units+64<cLine):CallR X (.builtin "sorted") (aV3 X.K):=by
 intro pins s σ H xs us Q I r h;obtain⟨p,ds,vs,H0,rfl,sq,sm,ab,ai,O,q⟩:=h;have rp:Reps X.K H ds vs:=Reps.mono sm _ ab;obtain⟨u,rfl,ru⟩:=y_7 r;cases ru;obtain⟨aa,rv,⟨ob,n,h1,h2,h3,h4⟩,_⟩:=I.list sq;have af:aa.length=ds.length:=by rw[<- rv.length,<- rp.length]
 have ac:X.A.in1.in1.units+8<cLine:=by
  have e:X.A.in1.in1.units<=X.A.units+2:=by simp[Around.in1,Around.units]
  omega
 have inj:∀ a b,a∈ds->b∈ds->fK a=fK b->a=b:=λ a b ha hb e=>by
  rcases O with O | O
  ·exact aV6 (List.all_eq_true.mp O a ha) (List.all_eq_true.mp O b hb) e
  ·exact aG8 (List.all_eq_true.mp O a ha) (List.all_eq_true.mp O b hb) e
 have mem:∀ i,i<ds.length->ds.getD i .non∈ds:=λ i hi=>by
  rw[List.getD_eq_getElem?_getD,List.getElem?_eq_getElem hi];exact List.getElem_mem hi
 obtain⟨κ,kd,ak⟩:∃ κ:SortKind,(∀ (pins:List (Addr×Obj)) (s:Shared),Inv X pins σ H s->2<=aa.length->∀ Q:SortKind->Shared->Prop,Q κ s->wpAny (model X.prog X.w) X.A.in1.in1 (keyKind' aa.toArray) Q (λ _ _=>False) s) /\
   ∀ (pins:List (Addr×Obj)) (s:Shared),Inv X pins σ H s->∀ i j,i<ds.length->j<ds.length->∀ Q:Bool->Shared->Prop,Q (decide (fK (ds.getD i .non)<fK (ds.getD j .non))) s->kas_ask X.prog X.w X.A.in1.in1 κ aa i j Q s:=by
  rcases O with O | O
  ·refine⟨tuples' (Value.type "int" != Value.type "tuple"),λ pins s I' l2 Q q=>?_,λ pins s I' i j hi Y Q q=>?_⟩
   ·obtain⟨fs,k1,k2,k3⟩:=ab5 (T:=.type "int") I' (λ d hd=>by
     obtain⟨i,a,j,rfl⟩:=ai4 (List.all_eq_true.mp O d hd);refine⟨_,_,rfl,λ x u rx ru=>?_⟩
     unfold Rep at rx;subst rx;obtain⟨t,rfl⟩:=ru;exact ak8) rp rv
    exact kat_kind k1 (by omega) k3 rfl q
   ·obtain⟨x,rx,ux⟩:=q_3 rp rv hi
    obtain⟨y,ry,uy⟩:=q_3 rp rv Y;exact bJ6 I' (List.all_eq_true.mp O _ (mem i hi)) (List.all_eq_true.mp O _ (mem j Y)) rx ux ry uy q
  ·refine⟨tuples' (Value.type "tuple" != Value.type "tuple"),λ pins s I' l2 Q q=>?_,λ pins s I' i j hi Y Q q=>?_⟩
   ·obtain⟨fs,k1,k2,k3⟩:=ab5 (T:=.type "tuple") I' (λ d hd=>by
     obtain⟨a,i,j,k,rfl⟩:=P_3 (List.all_eq_true.mp O d hd);refine⟨_,_,rfl,λ x u rx ru=>?_⟩
     obtain⟨_,_,_,rfl,tp,_⟩:=q_9 I' rx ru;exact R_2 tp) rp rv
    exact kat_kind k1 (by omega) k3 rfl q
   ·obtain⟨x,rx,ux⟩:=q_3 rp rv hi
    obtain⟨y,ry,uy⟩:=q_3 rp rv Y;exact bs2 ac I' (List.all_eq_true.mp O _ (mem i hi)) (List.all_eq_true.mp O _ (mem j Y)) rx ux ry uy q
 refine D_5 (κ:=κ) (r:=ae0 ds.length λ i=>fK (ds.getD i .non)) h1 h2 h4 (by omega) (λ g a kp na=>?_) λ g1 g2 Z e op mo k1 k2 ae=>?_
 ·have up:∀ g':Heap,(∀ b o,b≠a->g.get? b=some o->g'.get? b=some o)->∀ b o,s.heap.get? b=some o->g'.get? b=some o:=λ g' k b o z=>k b o (λ y=>by rw[y,na] at z;cases z) (kp b o z)
  refine⟨λ l2 g' k Q q=>kd pins _ (I.kept (t':=s.toks) (up g' k)) l2 Q q,λ g' k i j hi Y C q=>ak pins _ (I.kept (t':=s.toks) (up g' k)) i j (by omega) (by omega) C ?_⟩
  have ri:=C_4 (n:=ds.length) (key:=λ i=>fK (ds.getD i .non)) (i:=i) (j:=j) (by omega)
  rw[<- decide_eq_decide.mpr ri];exact q
 ·have I1:Inv X pins σ H {s with heap:=g1}:=I.kept (t':=s.toks) k1
  rw[af] at op mo;have S:∀ i∈Z.toList,i<ds.length:=λ i hi=>List.mem_range.mp (op.perm.mem_iff.mp hi)
  obtain⟨ws,w1,w2⟩:=D_6 ab rv S
  have ag:(Z.toList.map λ i=>ds.getD i .non)=sortT ds:=by
   refine I_5 inj ?_ ?_
   ·have e1:=op.perm.map λ i=>ds.getD i .non
    have e2:(List.range ds.length).map (λ i=>ds.getD i .non)=ds:=by
     refine List.ext_getElem (by simp) λ i h1 h2=>?_
     simp[h2]
    rw[e2] at e1;exact e1
   ·rw[List.pairwise_map,List.pairwise_iff_getElem]
    intro i j hi Y ad;have ah:Z.toList.length=ds.length:=by rw[Array.length_toList,op.size]
    have m1:=mo i j (Nat.le_of_lt ad) (by omega)
    have gi:Z.getD i 0=Z.toList[i]:=by
     rw[Array.getD_eq_getD_getElem?,<- Array.getElem?_toList,List.getElem?_eq_getElem hi];rfl
    have gj:Z.getD j 0=Z.toList[j]:=by
     rw[Array.getD_eq_getD_getElem?,<- Array.getElem?_toList,List.getElem?_eq_getElem Y];rfl
    unfold KP at m1;rw[gi,gj] at m1;refine decide_eq_false λ z=>?_
    have:=(C_4 (n:=ds.length) (key:=λ i=>fK (ds.getD i .non)) (i:=Z.toList[j]) (j:=Z.toList[i]) (S _ (List.getElem_mem Y))).mpr z
    omega
  rw[ag] at w1
  have hz:ws.length<=sizeLine:=by
   have:=w1.length;rw[(n_4 ds).length_eq] at this;have big:(64:Nat)<=sizeLine:=by decide
   omega
  exact⟨.ref g1.objs.size,_,I1.laid (t':=s.toks) (o:=.lst ws) k2 (qj _) ⟨hz,_,e,w2,ae⟩,rfl,q _ _ (I1.hok.fresh (qj _)) w1⟩
theorem G_1 (hu:X.A.units+64<cLine):BOk X (.builtin "sorted") A_9:=⟨_,af4 hu,λ c H0 H ρ σ ds d vs Q R r e q=>by
 unfold A_9 at e
 split at e
 ·rename_i xs
  obtain⟨⟨O,sh⟩,rfl⟩:=ifs e;obtain⟨v,rfl,Y⟩:=Reps.v1 r;unfold Rep at Y;obtain⟨p,ws,rfl,Z,t⟩:=Y;refine⟨p,xs,ws,H0,rfl,Same.seq R.same Z,R.same,t,O,sh,λ l z hl r'=>?_⟩
  have S:=Step.alloc (o:=.lst z) R.same hl;refine q _ _ _ S.s0 (R.after S) ?_;unfold Rep;exact⟨l,z,rfl,.inl (.inl a_7),Reps.mono S.s0 _ r'⟩
 ·cases e⟩
end
end Fx
namespace Fx
open PySem PySem.Spec PyProof.Rows L2
section
variable {X:Cx}{pos:Pos}{e:Expr}{F:FE}
theorem ao8 (S:X.calm=true):CallR X (.builtin "sum") (λ xs H Q=>∃ (p:Addr) (is:List Int),xs=[.ref p] ∧ SqL X.K H p (is.map V.int) ∧ Q (.int is.sum) H):=by
 intro pins s σ H xs us Q I r h;obtain⟨l,is,rfl,hl,q⟩:=h;obtain⟨u,rfl,Y⟩:=y_7 r;cases Y;obtain⟨aa,rv,Z,hz⟩:=I.list hl;have hi:=intsAre_of rv;have O:=Z.isList;obtain⟨ys,e⟩:=hi.allInts.items;have z:is=ys.toList.map (·.1):=by rw[<- hi.numsOf,<- nums_intItems,<- e]
 rw[e] at O;refine PySem.sum_intListG (I.ok.hd S) O λ h' tk t' hk=>⟨.int is.sum,H,I.kept (t':=tk) hk,?_,q⟩
 rw[preSum_eq,List.take_of_length_le (by simp),<- z]
 exact⟨t',rfl⟩
theorem aO8 (O:X.calm=true):BOk X (.builtin "sum") be4:=⟨_,ao8 O,λ c H0 H ρ σ ds d vs Q R r e q=>by
 unfold be4 at e
 split at e
 ·obtain⟨is,e1,e2⟩:=a_1 e
  cases e2;obtain⟨v,rfl,z⟩:=Reps.v1 r;unfold Rep at z;obtain⟨p,S,rfl,s,t⟩:=z;have:=C_7 e1 t;subst this;exact⟨p,is,rfl,Same.seq R.same s,q _ H0 H (Same.refl _) R (h_1 _ _)⟩
 ·cases e⟩
theorem aE0 {α z:Type}{f:α->Option z}{g:α->z}:∀ l:List α,(∀ k∈l,f k=some (g k))->l.filterMap f=l.map g
 |[],_=>rfl
 |k::r,h=>by rw[List.filterMap_cons,h k List.mem_cons_self,List.map_cons,aE0 r λ x O=>h x (List.mem_cons_of_mem _ O)]
theorem au6 (z:List Value):slicePick z.toArray none none (some (-1))=z.reverse.toArray:=by
 unfold slicePick
 have b:sliceBounds none none (some (-1)) z.toArray.size=((z.length:Int)-1,-1,-1):=by
  unfold sliceBounds;simp
 rw[b]
 have r:sliceRange ((z.length:Int)-1) (-1) (-1)=(List.range z.length).map λ k=>z.length-1-k:=by
  unfold sliceRange
  have c:(if (-1:Int) > 0 then (if (z.length:Int)-1 < -1 then (-1-((z.length:Int)-1)+-1-1) / -1 else 0) else (if (z.length:Int)-1 > -1 then ((z.length:Int)-1 - -1 - -1-1) / (- -1) else 0)).toNat=z.length:=by
   rw[if_neg (by decide)]
   by_cases h:(z.length:Int)-1 > -1
   ·rw[if_pos h,show (- -1:Int)=1 by decide,Int.ediv_one];omega
   ·rw[if_neg h];omega
  simp only[c];refine List.map_congr_left λ k hk=>?_
  have:=List.mem_range.mp hk;omega
 show ((sliceRange ((z.length:Int)-1) (-1) (-1)).filterMap (z.toArray[·]?)).toArray=_;rw[r,List.filterMap_map]
 congr 1
 have e:((List.range z.length).filterMap λ k=>z.toArray[z.length-1-k]?)=(List.range z.length).map λ k=>z.getD (z.length-1-k) Value.none:=by
  refine aE0 _ λ k hk=>?_
  have:=List.mem_range.mp hk;rw[List.getElem?_toArray,List.getElem?_eq_getElem (by omega)]
  simp[show z.length-1-k<z.length by omega]
 refine Eq.trans ?_ (e.trans ?_)
 ·rfl
 ·refine List.ext_getElem (by simp) λ i h1 h2=>?_
  have hi:i<z.length:=by simpa using h1
  rw[List.getElem_map,List.getElem_range,List.getElem_reverse];simp[show z.length-1-i<z.length by omega]
theorem aX0 {te:TE}{p2 Z S:Pos}{k:Nat} (he:PE X e te):PE X (.Subscript e (.Slice none none (some (.UnaryOp .USub (.Constant (.int 1) k Z) S)) p2) pos) (λ σ H Q=>te σ H λ x H1=>∃ a xs,x=.ref a/\SqL X.K H1 a xs/\∀ p,H1 p=none->Q (.ref p) (upd H1 p (.lst xs.reverse))):=by
 intro pins s σ H Q I h;refine Subscript_ (thn (he pins s σ H _ I h) λ v s1 z=>?_)
 obtain⟨x,H1,I1,r1,a,xs,ex,sq,q⟩:=z;subst ex;cases r1;refine wpAny_Slice ?_;rw[evalPart_none];refine qc (qc ?_);rw[evalPart_some];refine thn (aW7 (X:=X) aA3 (Z_8 (i:=1) (j:=k) (pos:=Z)) (pos:=S) pins s1 σ H1 (λ y H'=>y=.int (-1)/\H'=H1) I1 ⟨1,rfl,rfl,rfl⟩) λ st O z=>?_
 obtain⟨y,H2,I2,ry,ey,eH⟩:=z;subst ey eH;obtain⟨t,rfl⟩:=ry;have Y:Inv X pins σ H2 {O with heap:=O.heap.push {cls:=.type "slice",data:=.fields #[.none,.none,.int (-1) t]}}:=I2.kept (t':=O.toks) λ b ob q=>qd _ q
 obtain⟨ab,rv,ht,hz⟩:=Y.list sq;have aa:=rv.length;show wpAny (model X.prog X.w) X.A (subscriptTail e (.Slice none none (some (.UnaryOp .USub (.Constant (.int 1) k Z) S)) p2) (.ref a) (.ref O.heap.objs.size)) (EP X pins σ Q) X.xe {O with heap:=O.heap.push {cls:=.type "slice",data:=.fields #[.none,.none,.int (-1) t]}}
 refine tail_any (ops:=[.ref a,.ref O.heap.objs.size]) ht.isList.typeIs slot_list_getitem.lookup ?_ (by with_unfolding_all rfl)
 refine wpAny_getItem_list_slice ht.isList (Heap.IsSliceOf.new ..) .none .none (.int (-1) t) (by simp) ?_ (by rw[List.size_toArray] <;> omega)
 rw[au6];refine⟨.ref _,_,Y.laid (t':=O.toks) (o:=.lst xs.reverse) (λ b ob q=>qd _ q) (qj _) ?_,rfl,q _ (Y.hok.fresh (qj _))⟩
 exact⟨by rw[List.length_reverse];exact hz,_,0,Vals.reverse rv,qk _ rfl⟩
theorem Z_3 {K:Frag}{H:Hp}:∀ {ds:List D}{vs:List V},Reps K H ds vs->Reps K H ds.reverse vs.reverse
 |[],vs,r=>by unfold Reps at r;subst r;exact Reps.nil_
 |d::ds,vs,r=>by
  unfold Reps at r;obtain⟨v,S,rfl,z,O⟩:=r;rw[List.reverse_cons,List.reverse_cons];exact (Z_3 O).app (Reps.one z)
end
end Fx
namespace L2
open PySem PySem.Spec PyProof.Rows
end L2
namespace Fx
open PySem PySem.Spec PyProof.Rows L2
structure ScB2 (N:List Str) (sc scope:Scope) (x x2:Str) (frees:List Str) (js:List Nat):Prop where
 B:ScB N sc scope x frees js
 own2:scope.names.lookup x2=some .local
 nd2:(x::x2::frees).Nodup
structure SS (K:Frag) (Hi Hin H:Hp) (l S T:Addr) (vs:List V) (st:List (List D)) (refs:List Addr) (kvs:List (Key×V)):Prop where
 old:Same Hin H
 hl:H l=some (.lst vs)
 hS:H S=some (.lst (refs.map .ref))
 hT:H T=some (.dK kvs)
 nS:Hin S=none
 nT:Hin T=none
 lS:l≠S
 len:refs.length=st.length
 ats:∀ (i:Nat) (a:Addr) (x:List D),refs[i]?=some a->st[i]?=some x->Hin a=none/\a≠l/\a≠S/\∃ ws,H a=some (.lst ws)/\Reps K Hi x ws
 nd:refs.Nodup
 ne:∀ x∈st,x≠[]/\∀ d∈x,r3 d=true
 key:∀ k,ag0 kvs (.inr k)=(aD0 k st).bind λ i=>(refs[i]?).map V.ref
 kl:kvs.length<=st.length
structure GS (K:Frag) (H0 Hs H:Hp) (T:Addr) (g:List (Str×List D)) (refs:List Addr):Prop where
 old:∀ b u,Hs b=some u->b≠T->H b=some u
 hT:H T=some (.dK (bA7 (g.map (·.1)) (refs.map V.ref)))
 len:g.length=refs.length
 ats:∀ (i:Nat) a q,refs[i]?=some a->g[i]?=some q->Hs a=none/\∃ ws,H a=some (.lst ws)/\Reps K H0 q.2 ws
 nd:refs.Nodup
end Fx
namespace Fx
open PySem PySem.W PyProof.Rows
structure Cmp (prog:Program) (w:World) (A:Around) (s:Shared) (κ:SortKind) (rk:Keyed->Nat) (M:Keyed->Prop):Prop where
 ask:∀ x y,M x->M y->∀ Q:Bool->Shared->Prop,Q (decide (rk x<rk y)) s->wpAny (model prog w) A (keyLt' κ x.1 y.1) Q (λ _ _=>False) s
structure Gm (le:Keyed->Keyed->Prop) (T out P Q:List Keyed):Prop where
 perm:(out++P++Q).Perm T
 so:out.Pairwise le
 bp:∀ x∈out,∀ y∈P,le x y
 bq:∀ x∈out,∀ y∈Q,le x y
 sp:P.Pairwise le
 sq:Q.Pairwise le
noncomputable def leR (rk:Keyed->Nat) (x y:Keyed):Prop:=rk x<=rk y
noncomputable def Rk (rk:Keyed->Nat) (xs:Array Keyed) (i:Nat):Nat:=match xs[i]? with
 |some x=>rk x
 |none=>0
noncomputable def Kp (lo:Nat) (a xs:Array Keyed):Prop:=xs.Perm a/\∀ i,i<lo->xs[i]?=a[i]?
theorem Kp.size {lo:Nat}{a xs:Array Keyed} (h:Kp lo a xs):xs.size=a.size:=h.1.size_eq
section
variable {prog:Program}{w:World}{A:Around}{E:Value->Shared->Prop}{s:Shared}{κ:SortKind}{rk:Keyed->Nat}{M:Keyed->Prop}
structure Gap (rk:Keyed->Nat) (xs:Array Keyed) (lo k l r:Nat):Prop where
 ord:l<=r/\r<=k
 below:∀ i<l,Rk rk xs (lo+i)<=Rk rk xs (lo+k)
 above:∀ i<k,r<=i->Rk rk xs (lo+k)<Rk rk xs (lo+i)
theorem Gap.all {xs:Array Keyed}{lo k:Nat}:Gap rk xs lo k 0 k:=⟨⟨Nat.zero_le _,qj _⟩,λ i z=>absurd z (Nat.not_lt_zero i),λ i z y=>absurd (qp z y) (Nat.lt_irrefl _)⟩
end
noncomputable def bu3:List (List Keyed×Nat)->Nat->List (Nat×Nat×Nat)
 |[],_=>[]
 |r::t,o=>(o,r.1.length,r.2)::bu3 t (o+r.1.length)
noncomputable def bo5 (z:List (List Keyed×Nat)):List Keyed:=(z.map (·.1)).flatten
structure RunsOk (rk:Keyed->Nat) (κ:SortKind) (T:List Keyed) (post:List Keyed) (rs:List (List Keyed×Nat)) (st:SortSt):Prop where
 kind:kindOf st=κ
 fail:failedOf st=none
 pend:(pendingOf st).toList=bu3 rs 0
 arr:(arrOf st).toList=bo5 rs++post
 perm:(arrOf st).toList.Perm T
 ne:∀ r∈rs,r.1≠[]
 so:∀ r∈rs,r.1.Pairwise (leR rk)
end Fx
namespace Fx
open PySem PySem.W PySem.Spec PyProof.Rows
end Fx
namespace Fx
open PySem PySem.W PySem.Spec PyProof.Rows L2
end Fx
namespace Fx
open PySem PySem.Spec PyProof.Rows L2
theorem aI4 {o:Option Sl}{ds:List D} (h:aY2 o=some ds):o=some (.ow false (.lst ds)):=by
 unfold aY2 at h
 split at h
 ·cases h;rfl
 ·cases h
section
variable {P:Program}{w:World}{κ:Type} [DecidableEq κ] {knd:HeapKind P w κ}{A:Around}{E:Value->Shared->Prop}{s:Shared}{d a:Addr}{xs:List (κ×Addr×Value)}{k:κ}{v:Value}
theorem av3 {h:Heap}{o:Obj}{es:Array DictEntry}{ep:Nat} (e1:h.get? d=some o) (e2:o.ExactDict) (e3:o.data=.dict es ep) (e4:es.toList=xs.map (entryOfKey knd)) (e5:∀ x∈xs,knd.is h x.1 x.2.1) (e6:(xs.map (·.1)).Nodup)
  (hk:knd.is h k a) (no:∀ (j:Nat) (p:Addr×Value),xs[j]?≠some (k,p)) :
  (h.update d (Obj.mapDictKeys (λ q=>q.push ⟨knd.hash k,.ref a,v⟩))).DictOfH knd d (xs++[(k,a,v)]):=by
 have new:¬ k∈xs.map (·.1):=λ z=>by
  obtain⟨x,O,ex⟩:=List.mem_map.mp z;obtain⟨j,Z⟩:=List.getElem?_of_mem O;exact no j x.2 (by rw[Z,<- ex])
 have Y:Heap.SameBut d h (h.update d (Obj.mapDictKeys (λ q=>q.push ⟨knd.hash k,.ref a,v⟩))):=Heap.SameBut.update ..
 have S:=Obj.data_mapDictKeys e3 (λ q=>q.push ⟨knd.hash k,.ref a,v⟩)
 refine⟨_,_,_,Heap.get?_update_self _ e1 (Obj.isFreed_of_dict S),e2.mapDictKeys _,S,?_,λ x O=>?_,?_⟩
 ·rw[Array.toList_push,e4,List.map_append];rfl
 ·cases qw O with
  |inl O=>exact knd.keeps (e5 x O) e1 e3 Y
  |inr O=>cases List.mem_singleton.mp O;exact knd.keeps hk e1 e3 Y
 ·rw[List.map_append];exact V_6 e6 new
theorem aF9 {Q:Value->Shared->Prop} (hu:knd.room A) (hk:knd.is s.heap k a) (hm:s.heap.DictOfH knd d xs) (hz:xs.length<sizeLine)
  (O:∀ (j:Nat) (p:Addr×Value),xs[j]?=some (k,p)->Q p.2 {s with toks:=s.toks+knd.draws k})
  (new:(∀ (j:Nat) (p:Addr×Value),xs[j]?≠some (k,p))->∀ h',h'.DictOfH knd d (xs++[(k,a,v)])->Heap.SameBut d s.heap h'->Q v {s with heap:=h',toks:=s.toks+knd.draws k}) :
  wpAny (model P w) A (dictSetDefault d (.ref a) v) Q E s:=by
 obtain⟨o,es,ep,e1,e2,e3,z,Z,Y⟩:=hm;have aa:=size_of_entries z;unfold dictSetDefault;refine wpAny_holding (qb (knd.pyHash hu hk (qb (wpAny_dictFind_heap (s:={s with toks:=s.toks+knd.draws k}) hu hk e1 e3 z Z Y (λ no=>?_) λ j p S=>?_))))
 ·exact qb (wpAny_rule (qb (wpAny_updateDictKeys (hz:=by omega) (s:={s with toks:=s.toks+knd.draws k}) e1 e3 (qc (new no _ (av3 e1 e2 e3 z Z Y hk no) (Heap.SameBut.update ..))))))
 ·refine qb (wpAny_dictEntries (s:={s with toks:=s.toks+knd.draws k}) e1 e3 ?_)
  rw[entry_at z j,S];exact qb (wpAny_rule (qc (O j p S)))
end
section
variable {P:Program}{w:World}{A:Around}{E:Value->Shared->Prop}{s:Shared}{d it:Addr}{od:Obj}{es:Array DictEntry}{i ep:Nat}
theorem aJ1 {n:Nat}:((n:Int)+1)=((n+1:Nat):Int):=by omega
theorem aj9 {n:Nat}:¬ ((n:Int)<0):=by omega
theorem aK5 {Q:Value->Shared->Prop} (O:(d==sysModules)=false) (h1:s.heap.get? d=some od) (h2:od.ExactDict) (z:od.data=.dict es ep)
  (q:∀ h',(∀ b o,s.heap.get? b=some o->h'.get? b=some o)->h'.IsKeyIter s.heap.objs.size d 0 es.size ep->h'.objs.size=s.heap.objs.size+1->Q (.ref s.heap.objs.size) {s with heap:=h'}):wpAny (model P w) A (pyIter (.ref d)) Q E s:=by
 have ty:s.TypeIs (.ref d) "dict":=⟨od,h1,h2.1⟩;refine wpAny_pyIter_slot ty PySem.F.slot_dict_iter (wpAny_call_entry PySem.F.slot_dict_iter ty PySem.F.entry_dict_iter (qb ?_) (PySem.F.args_dict_iter_1 _));unfold Builtin.Dict.dictSlotNone;refine qb (wpAny_notOrdered_dict ty (show wpAny _ _ (pure (Value.ref d)) _ _ s from qc (show wpAny _ _ (Builtin.Dict.showsAll d >>= _) _ _ s from ?_)));unfold Builtin.Dict.showsAll;rw[O];refine qb (qc (qb (wpAny_dictEntries h1 z (qb (wpAny_dictEpoch h1 z (qb (wpAny_newObj_type (qc ⟨_,rfl,"dict_keyiterator",_,⟨_,qk _ rfl,rfl⟩,PySem.F.slot_dict_keyiterator_next.lookup,?_⟩))))))));exact q _ (λ b o e=>qd _ e) ⟨_,qk _ rfl,rfl,rfl⟩ (Heap.size_push ..)
theorem av7 {e:DictEntry}{Q:Option Value->Shared->Prop} (z:s.heap.IsKeyIter it d i es.size ep) (h1:s.heap.get? d=some od) (S:od.data=.dict es ep) (Y:es[i]?=some e)
  (q:∀ h',h'.IsKeyIter it d (i+1) es.size ep->Heap.SameBut it s.heap h'->Q (some e.key) {s with heap:=h'}):wpAny (model P w) A (pyNext (.ref it)) Q E s:=by
 have ty:=z.typeIs;obtain⟨o,e1,e2,e3⟩:=id z;have O:(s.heap.update it (Obj.mapFields (·.setIfInBounds 1 (rawInt ((i:Int)+1))))).IsKeyIter it d (i+1) es.size ep :=
  ⟨_,Heap.get?_update_self _ e1 (Obj.isFreed_of_fields (Obj.data_mapFields e3 _)),e2▸Obj.cls_mapFields ..,by rw[Obj.data_mapFields e3,aJ1];rfl⟩
 unfold pyNext;refine qb (wpAny_attempt (wpAny_callSpecial?_slot (name:=Str.ofString "__next__") ty PySem.F.slot_dict_keyiterator_next (wpAny_call_entry PySem.F.slot_dict_keyiterator_next ty PySem.F.entry_dict_keyiterator_next (qb (qc (qb (qb (qb (wpAny_typeNameOfWhole_keyiter ty (qc (qb (wpAny_fieldsOf e1 e3 ?_)))))))) ) (PySem.F.args_dict_keyiterator_next_1 _))));refine show wpAny _ _ (if (Value.ref d==Value.none)=true then _ else _) _ _ s from ?_;have Z:(Value.ref d==Value.none)=false:=rfl;rw[Z];refine qb (qc (qb (wpAny_dictEntries h1 S ?_)));rw[if_neg (by simp)]
 refine qb (qc (qb (wpAny_dictEpoch h1 S ?_)));rw[if_neg (by simp)]
 refine qc ?_;dsimp only;rw[if_neg aj9,Int.toNat_natCast,Y];refine qb (qb (wpAny_typeNameOfWhole_keyiter ty (qc (qb (wpAny_isOneOf_keyiter ty (show wpAny _ _ (setField (.ref it) 1 (rawInt ((i:Int)+1)) >>= _) _ _ s from qb (wpAny_setField e1 e3 (by simp) (qb (wpAny_holding (qb (wpAny_isOneOf_keyiter (Heap.IsKeyIter.typeIs (s:={s with heap:=s.heap.update it (Obj.mapFields (·.setIfInBounds 1 (rawInt ((i:Int)+1))))}) O) ?_)))))))))))
 exact qc (qc ⟨_,rfl,qc (q _ O (Heap.SameBut.update ..))⟩)
theorem ad7 {Q:Option Value->Shared->Prop}{h:Heap}{g:Shared} (z:A.handled=none) (q:∀ h',(∀ b o,h.get? b=some o->h'.get? b=some o)->Q none {g with heap:=h'}) :
  wpAny (model P w) A.in1 (newExc (.type "StopIteration") [] >>= λ x=>(raiseNew x:Sem Fin)) (λ fin s'=>False)
   (λ e s'=>wpAny (model P w) A (isInstance e (Value.type "StopIteration") >>= λ b=>if b=true then pure none else throw e) Q E s') {g with heap:=h}:=by
 simp only[newExc,newTuple];refine qb (qb (wpAny_newObj_type (qb (m:=firstArgMember _ _) (wpAny_of_eq (a:=Value.none) (by first | rfl | (simp only[firstArgMember];rfl)) (wpAny_newObj_type ?_ (by size_fits)))) (by size_fits)))
 unfold raiseNew;refine qb (wpAny_handled ?_);rw[show A.in1.handled=none from z];refine qb (qc (wpAny_throw ?_));refine qb (wpAny_isInstance (T:="StopIteration") (b:=true) ⟨_,qk _ rfl,rfl⟩ isSubtype_stop ?_);exact qc (q _ λ b o e=>qd _ (qd _ e))
theorem aO2 {Q:Option Value->Shared->Prop} (Z:A.handled=none) (O:s.heap.IsKeyIter it d i es.size ep) (h1:s.heap.get? d=some od) (S:od.data=.dict es ep) (Y:es.size<=i)
  (q:∀ h',Heap.ExtBut it s.heap h'->Q none {s with heap:=h'}):wpAny (model P w) A (pyNext (.ref it)) Q E s:=by
 have ty:=O.typeIs;obtain⟨o,e1,e2,e3⟩:=id O;unfold pyNext;refine qb (wpAny_attempt (wpAny_callSpecial?_slot (name:=Str.ofString "__next__") ty PySem.F.slot_dict_keyiterator_next (wpAny_call_entry PySem.F.slot_dict_keyiterator_next ty PySem.F.entry_dict_keyiterator_next (qb (qc (qb (qb (qb (wpAny_typeNameOfWhole_keyiter ty (qc (qb (wpAny_fieldsOf e1 e3 ?_)))))))) ) (PySem.F.args_dict_keyiterator_next_1 _))));refine show wpAny _ _ (if (Value.ref d==Value.none)=true then _ else _) _ _ s from ?_;have nn:(Value.ref d==Value.none)=false:=rfl;rw[nn];refine qb (qc (qb (wpAny_dictEntries h1 S ?_)));rw[if_neg (by simp)]
 refine qb (qc (qb (wpAny_dictEpoch h1 S ?_)));rw[if_neg (by simp)]
 refine qc ?_;dsimp only;rw[if_neg aj9,Int.toNat_natCast,Array.getElem?_eq_none Y];refine qb (qb (wpAny_typeNameOfWhole_keyiter ty (qc (show wpAny _ _ (setField (.ref it) 0 .none >>= _) _ _ s from qb (wpAny_setField e1 e3 (by simp) ?_)))))
 exact wpAny_mono (ad7 (g:=s) (E:=E) (Q:=Q) Z λ h' k=>q h' λ b o n e=>k b o ((Heap.SameBut.update ..).extBut b o n e)) (λ _ _ f=>f.elim) λ _ _ z=>z
end
noncomputable def n_0 (tab:Tab V) (k:Str×Int):Option V:=(tab.find? λ x=>decide (x.1=k)).map (·.2.2)
noncomputable def bg1 (k:Str×Int) (v:V) (x:(Str×Int)×Addr×V):(Str×Int)×Addr×V:=if x.1=k then (x.1,x.2.1,v) else x
noncomputable def aV9 (tab:Tab V) (k:Str×Int) (b:Addr) (v:V):Tab V:=if (n_0 tab k).isSome then tab.map (bg1 k v) else tab++[(k,b,v)]
abbrev aE6:(Str×Int)×Addr×V->(Str×Int)×Addr×Value->Prop:=λ p q=>p.1=q.1/\p.2.1=q.2.1/\RelV p.2.2 q.2.2
theorem al7 {a b:Str×Int} (h:kTI a=kTI b):a=b:=by
 unfold kTI at h;injection h with h1 h2
 injection h2 with h3 _
 injection h1 with h1
 injection h3 with h3
 exact Prod.ext h1 h3
theorem aO4 (a b:Str×Int):decide (kTI a=kTI b)=decide (a=b):=by
 by_cases e:a=b
 ·rw[e];simp
 ·rw[decide_eq_false e,decide_eq_false λ z=>e (al7 z)]
theorem aK3 (k:Str×Int):(kTI k).map kV=[.str k.1,.int k.2]:=rfl
theorem aa7:∀ {tab:Tab V}{xs:Tab Value},Paired aE6 tab xs->(xs.map ad4).map (·.1)=(tab.map (·.1)).map kTI
 |_,_,.nil=>rfl
 |_,_,.cons r t=>by rw[List.map_cons,List.map_cons,List.map_cons,List.map_cons,aa7 t,r.1];rfl
theorem C_5 {k:Str×Int}:∀ {tab:Tab V}{xs:Tab Value},Paired aE6 tab xs->RelO (n_0 tab k) ((atKey (xs.map ad4) (kTI k)).map (·.2))
 |_,_,.nil=>trivial
 |_,_,.cons (a:=x) (b:=y) r t=>by
  have z:=C_5 (k:=k) t;unfold n_0 atKey at z ⊢;rw[List.map_cons,List.find?_cons,List.find?_cons];have e:decide ((ad4 y).1=kTI k)=decide (x.1=k):=by rw[r.1];exact aO4 _ _
  rw[e];cases decide (x.1=k) with
  |true=>exact r.2.2
  |false=>exact z
theorem aC5 {tab:Tab V}{xs:Tab Value} (r:Paired aE6 tab xs) (n:(tab.map (·.1)).Nodup):((xs.map ad4).map (·.1)).Nodup:=by
 rw[aa7 r];exact List.pairwise_map.mpr (n.imp λ O z=>O (al7 z))
theorem I_9 {α z:Type}{F:α->z->Prop}{a:α}{b:z} (h:F a b):∀ {l:List α}{m:List z},Paired F l m->Paired F (l++[a]) (m++[b])
 |_,_,.nil=>.cons h .nil
 |_,_,.cons r t=>.cons r (I_9 h t)
theorem au2 (k:Str×Int) (v:V) (tab:Tab V):(tab.map (bg1 k v)).map (·.1)=tab.map (·.1):=by
 rw[List.map_map];refine List.map_congr_left λ x _=>?_
 show (bg1 k v x).1=x.1;unfold bg1
 split <;> rfl
theorem ak9 {tab:Tab V}{k:Str×Int} (h:n_0 tab k=none):¬ k∈tab.map (·.1):=λ z=>by
 obtain⟨x,O,e⟩:=List.mem_map.mp z;unfold n_0 at h;rw[Option.map_eq_none_iff,List.find?_eq_none] at h;exact h x O (by simpa using e)
theorem au1 {tab:Tab V}{k:Str×Int}{b:Addr}{v:V}:(aV9 tab k b v).map (·.1)=if (n_0 tab k).isSome then tab.map (·.1) else tab.map (·.1)++[k]:=by
 unfold aV9
 split
 ·exact au2 k v tab
 ·rw[List.map_append];rfl
theorem aH1 {tab:Tab V}{k:Str×Int}{b:Addr}{v:V} (n:(tab.map (·.1)).Nodup):((aV9 tab k b v).map (·.1)).Nodup:=by
 rw[au1]
 split
 ·exact n
 ·rename_i h
  exact V_6 n (ak9 (by simpa using h))
theorem KsAt.mono {H H':Hp}{tab:Tab V} (h:KsAt H tab) (s:Same H H'):KsAt H' tab:=λ x z=>s _ _ (h x z)
section
variable {P:Program}{w:World}{H:Hp}{h:Heap}{a:Addr}{o:Obj}{tab:Tab V}
theorem KsAt.is (ok:HOk P w H h) {k:Str×Int}{b:Addr} (e:H b=some (.tup [.str k.1,.int k.2])):(tupleKind (f_5 P w)).is h (kTI k) b:=bb0 ok (by rw[aK3];exact e)
theorem al4 (ok:HOk P w H h):∀ {tab:Tab V}{xs:Tab Value},Paired aE6 tab xs->KsAt H tab->∀ x∈xs.map ad4,(tupleKind (f_5 P w)).is h x.1 x.2.1
 |_,_,.nil,_,x,z=>nomatch z
 |_,_,.cons (a:=p) (b:=q) r t,ks,x,z=>by
  rw[List.map_cons] at z
  rcases qt z with e | z
  ·rw[e]
   have:=KsAt.is ok (ks p qg);show (tupleKind (f_5 P w)).is h (kTI q.1) q.2.1;rw[<- r.1,<- r.2.1];exact this
  ·exact al4 ok t (λ y O=>ks y (qh _ O)) x z
theorem TD.of (ok:HOk P w H h) (td:TD P w o tab) (ks:KsAt H tab) (e:h.get? a=some o):∃ xs,Paired aE6 tab xs/\h.DictOfH (tupleKind (f_5 P w)) a (xs.map ad4):=by
 obtain⟨ex,⟨es,ep,xs,h1,h2,z⟩,nd,O⟩:=td;exact⟨xs,z,o,es,ep,e,ex,h1,h2,al4 ok z ks,aC5 z nd⟩
theorem TD.mk' {xs:Tab Value} (r:Paired aE6 tab xs) (d:h.DictOfH (tupleKind (f_5 P w)) a (xs.map ad4)) (nd:(tab.map (·.1)).Nodup) (z:tab.length<=sizeLine):∃ o,h.get? a=some o/\TD P w o tab:=by
 obtain⟨o,es,ep,e1,e2,e3,O,_,_⟩:=d;exact⟨o,e1,e2,⟨es,ep,xs,e3,O,r⟩,nd,z⟩
theorem aA8 (O:(a==sysModules)=false) (e:∃ o,h.get? a=some o/\TD P w o tab):ObjOk P w H h a (tdO a tab):=by
 obtain⟨o,e1,e2⟩:=e;exact⟨⟨O,o,e1,e2⟩,⟨o,e1⟩,λ h1 h2 ⟨x,q,y,z⟩ k=>⟨x,q,k _ y,z⟩⟩
theorem aS6 (O:(a==sysModules)=false) (e1:h.get? a=some o) (e2:TD P w o tab):ObjOk P w H h a (tdF a o tab):=⟨⟨O,e1,e2⟩,⟨o,e1⟩,λ h1 h2 ⟨x,y,z⟩ k=>⟨x,k _ y,z⟩⟩
noncomputable def TAt (H:Hp) (a:Addr) (tab:Tab V):Prop:=(H a=some (tdO a tab)\/∃ o,H a=some (tdF a o tab))/\KsAt H tab
theorem TAt.obj (ok:HOk P w H h) (t:TAt H a tab):(a==sysModules)=false/\∃ o,h.get? a=some o/\TD P w o tab:=by
 rcases t with ⟨t | ⟨o,t⟩,_⟩
 ·obtain⟨⟨z,o,e1,e2⟩,_⟩:=(show ObjOk P w H h a (tdO a tab) from ok a _ t)
  exact⟨z,o,e1,e2⟩
 ·obtain⟨⟨z,e1,e2⟩,_⟩:=(show ObjOk P w H h a (tdF a o tab) from ok a _ t)
  exact⟨z,o,e1,e2⟩
end
end Fx
namespace Fx
open PySem
noncomputable def E_9 (k:Str×Int) (kds:List ((Str×Int)×D)):Option D:=(kds.find? λ x=>decide (x.1=k)).map (·.2)
noncomputable def owU:Option Sl->Option (List ((Str×Int)×D))
 |some (.ow false (.dtu kds))=>some kds
 |_=>none
@[simp] theorem bF2 (kds:List ((Str×Int)×D)):owU (some (.ow false (.dtu kds)))=some kds:=zR rfl
noncomputable def ti:List D->Option (Str×Int)
 |[.str s,.int i]=>some (s,i)
 |_=>none
noncomputable def sTN (i:Nat) (ρ:En):Option Res:=some (.nx (ρ.set i (.ow false (.dtu []))))
@[simp] theorem bK4 (i:Nat) (ρ:En):sTN i ρ=some (.nx (ρ.set i (.ow false (.dtu [])))):=zR rfl
noncomputable def asT (kds:List ((Str×Int)×D)):D:=.opq (kds.map (·.1)) (kds.map (·.2))
noncomputable def bf8 (i:Nat) (B:FS) (ρ:En) (o:Option (List ((Str×Int)×D))):Option Res:=bnd o λ kds=>B (ρ.set i (.im (asT kds)))
noncomputable def sFT (i:Nat) (B:FS) (ρ:En):Option Res:=bf8 i B ρ (owU ρ[i]?)
@[simp] theorem bK6 (i:Nat) (B:FS) (ρ:En):sFT i B ρ=bf8 i B ρ (owU ρ[i]?):=zR rfl
@[simp] theorem bu2 (i:Nat) (B:FS) (ρ:En) (kds:List ((Str×Int)×D)):bf8 i B ρ (some kds)=B (ρ.set i (.im (asT kds))):=zR rfl
noncomputable def ax8:D->D->Option D
 |.opq ks vs,.tup [.str s,.int i]=>E_9 (s,i) (ks.zip vs)
 |_,_=>none
@[simp] theorem bA0 (ks:List (Str×Int)) (vs:List D) (s:Str) (i:Int):ax8 (.opq ks vs) (.tup [.str s,.int i])=E_9 (s,i) (ks.zip vs):=zR rfl
noncomputable def kD (k:Str×Int):D:=.tup [.str k.1,.int k.2]
noncomputable def bl8:D->Option (List (Str×Int)×List D)
 |.opq ks vs=>some (ks,vs)
 |_=>none
noncomputable def bx7 (ρ:En) (n:Nat) (o:Option (List D)):Option (D×En):=bnd o λ ys=>if n<=sizeLine then some (.lst ys,ρ) else none
noncomputable def bx8 (ks:List (Str×Int)) (T:FT) (F:FE) (ρ:En) (o:Option En):Option (D×En):=bnd o λ fr=>bx7 ρ ks.length (cGo T F fr (ks.map kD))
noncomputable def bx9 (js:List Nat) (T:FT) (F:FE) (ρ:En) (o:Option (List (Str×Int)×List D)):Option (D×En):=bnd o λ q=>bx8 q.1 T F ρ (aa9 ρ js)
noncomputable def bx6 (js:List Nat) (T:FT) (F:FE) (o:Option (D×En)):Option (D×En):=bnd o λ p=>bx9 js T F p.2 (bl8 p.1)
noncomputable def eLK (js:List Nat) (I:FE) (T:FT) (F:FE) (ρ:En):Option (D×En):=bx6 js T F (I ρ)
noncomputable def aQ4:D->D->Option ((Str×Int)×D)
 |.tup [.int _,.str s,e],.int w=>some ((s,w),e)
 |_,_=>none
noncomputable def r_9 (k:Str×Int) (e:D):List ((Str×Int)×List D)->List ((Str×Int)×List D)
 |[]=>[(k,[e])]
 |q::r=>if q.1=k then (q.1,q.2++[e])::r else q::r_9 k e r
noncomputable def am7 (d:D):List D->Nat->List ((Str×Int)×List D)->Option (Nat×List ((Str×Int)×List D))
 |[],n,g=>some (n,g)
 |w::r,n,g=>bnd (aQ4 d w) λ q=>if n<1000 then am7 d r (n+1) (r_9 q.1 q.2 g) else none
noncomputable def lsX:D->Option (List D)
 |.lst xs=>some xs
 |_=>none
@[simp] theorem bG1 (xs:List D):lsX (.lst xs)=some xs:=zR rfl
noncomputable def k_6 (l:Nat) (z:List D) (ρ:En):En:=match z.getLast? with
 |some d=>ρ.set l (.im d)
 |none=>ρ
noncomputable def M_6 (j l:Nat) (G:FE):List D->En->Nat->List ((Str×Int)×List D)->Option (En×List ((Str×Int)×List D))
 |[],ρ,_,g=>some (ρ,g)
 |d::r,ρ,n,g=>bnd (G (ρ.set j (.im d))) λ p=>bnd (lsX p.1) λ z=>bnd (am7 d z n g) λ q=>M_6 j l G r (k_6 l z (ρ.set j (.im d))) q.1 q.2
noncomputable def gtD (g:List ((Str×Int)×List D)):List ((Str×Int)×D):=g.map λ q=>(q.1,.lst q.2)
noncomputable def aU5 (i j l:Nat) (ρ:En) (xs:List D) (G:FE):Option Res:=if j≠i/\l≠i/\j≠l/\i<ρ.length/\j<ρ.length/\l<ρ.length/\(ρ.set i .no).all V_5=true then bnd (M_6 j l G xs (ρ.set i .no) 0 []) λ q=>some (.nx (q.1.set i (.ow false (.dtu (gtD q.2))))) else none
noncomputable def bf6 (i j l:Nat) (G:FE) (ρ:En) (o:Option (List D)) (u:Option (List ((Str×Int)×D))):Option Res:=bnd o λ xs=>bnd u λ kds=>match kds with
 |[]=>aU5 i j l ρ xs G
 |_=>none
noncomputable def bf5 (i j l:Nat) (G:FE) (o:Option (D×En)):Option Res:=bnd o λ p=>bf6 i j l G p.2 (lsX p.1) (owU p.2[i]?)
noncomputable def sGT (i j l:Nat) (F G:FE) (ρ:En):Option Res:=bf5 i j l G (F ρ)
@[simp] theorem bK5 (i j l:Nat) (F G:FE) (ρ:En):sGT i j l F G ρ=bf5 i j l G (F ρ):=zR rfl
@[simp] theorem bt9 (i j l:Nat) (G:FE) (d:D) (ρ:En):bf5 i j l G (some (d,ρ))=bf6 i j l G ρ (lsX d) (owU ρ[i]?):=zR rfl
@[simp] theorem bu0 (i j l:Nat) (G:FE) (ρ:En) (xs:List D):bf6 i j l G ρ (some xs) (some [])=aU5 i j l ρ xs G:=zR rfl
noncomputable def r21:D->Bool
 |.tup [.tup [.str _,.int _],.int _]=>true
 |_=>false
noncomputable def aq5 (z:D->Bool):List D->Option D
 |[.lst xs]=>if xs.length<64/\xs.all z=true then some (.lst (sortT xs)) else none
 |_=>none
noncomputable def ax4 (o:Option (List D×En)):Option (D×En):=bnd o λ p=>if p.1.length<=1000 then some (.lst p.1,p.2) else none
noncomputable def bg4 (F G:FE) (ρ:En):Option (D×En):=ax4 (aB9 F G ρ)
@[simp] theorem bH7 (F G:FE) (ρ:En):bg4 F G ρ=ax4 (aB9 F G ρ):=zR rfl
@[simp] theorem bp7 (xs:List D) (ρ:En):ax4 (some (xs,ρ))=if xs.length<=1000 then some (.lst xs,ρ) else none:=zR rfl
noncomputable def aq4:List D->Option D:=aq5 r21
@[simp] theorem bg8 (xs:List D):aq4 [.lst xs]=if xs.length<64/\xs.all r21=true then some (.lst (sortT xs)) else none:=zR rfl
end Fx
namespace Fx
open PySem PySem.Spec PyProof.Rows L2
section
variable {P:Program}{w:World}{κ:Type} [DecidableEq κ] {d b:Addr}{v:Value}
theorem ak3 (knd:HeapKind P w κ) (Y:(d==sysModules)=false):MeetsIn P w (Builtin.«dict.setdefault» ⟨[.ref d,.ref b,v],[]⟩) (λ A R s=>knd.room A.in1/\∃ k xs,knd.is s.heap k b/\s.heap.DictOfH knd d xs/\xs.length<sizeLine /\
  (∀ (j:Nat) (p:Addr×Value),xs[j]?=some (k,p)->R (.ok (.ret p.2)) {s with toks:=s.toks+knd.draws k}) /\
  ((∀ (j:Nat) (p:Addr×Value),xs[j]?≠some (k,p))->∀ h',h'.DictOfH knd d (xs++[(k,b,v)])->Heap.SameBut d s.heap h'->R (.ok (.ret v)) {s with heap:=h',toks:=s.toks+knd.draws k})) :=
 .of_wp λ A R s z=>by
  obtain⟨hu,k,xs,hk,O,hz,Z,q2⟩:=z;unfold Builtin.«dict.setdefault» Builtin.Dict.keyAndDefault;refine qb (qb (wpAny_notOrdered_dict O.typeIs (show wpAny _ _ (pure (d,Value.ref b,some v)) _ _ s from qc (show wpAny _ _ (if (d==sysModules)=true then _ else _) _ _ s from ?_))));rw[Y];refine qb (aF9 hu hk O hz (λ j p S=>?_) λ no h' h1 h2=>?_)
  ·exact qc ⟨_,rfl,Z j p S⟩
  ·exact qc ⟨_,rfl,q2 no h' h1 h2⟩
end
section
variable {X:Cx}{pins:List (Addr×Obj)}{σ:L2.St}{H:Hp}{s:Shared}{a b:Addr}{tab:Tab V}{k:Str×Int}{v d:V}{u r:Value}{A:Around}{E:Value->Shared->Prop}
theorem TAt.ty (I:Inv X pins σ H s) (t:TAt H a tab):s.TypeIs (.ref a) "dict" ∧ (∀ b,Value.ref a=.ref b → ∃ z,s.heap.get? b=some z ∧ z.dict=none):=by
 obtain⟨O,o,e1,td⟩:=t.obj I.hok;exact⟨⟨o,e1,td.ex.1⟩,λ b q=>by cases q;exact⟨o,e1,td.ex.2.1⟩⟩
theorem ba7 (I:Inv X pins σ H s) (h:SqT X.K H b [.str k.1,.int k.2]):(tupleKind (f_5 X.prog X.w)).is s.heap (kTI k) b:=by
 obtain⟨z,r,⟨o,h1,h2,⟨n,O⟩,_⟩,_⟩:=I.tupleN h;exact⟨o,z.toArray,n,h1,h2,O,by simpa using F_3 (ks:=kTI k) r⟩
theorem aS8 {Q:Value->Shared->Prop} (hu:A.units+1<cLine) (I:Inv X pins σ H s) (t:TAt H a tab) (kb:SqT X.K H b [.str k.1,.int k.2]) (l:n_0 tab k=some v) (h:∀ z s',Inv X pins σ H s'->RelV v z->Q z s') :
  wpAny (model X.prog X.w) A (getItem (.ref a) (.ref b)) Q E s:=by
 obtain⟨hd,o,e1,td⟩:=t.obj I.hok;obtain⟨xs,S,Z⟩:=td.of I.hok t.2 e1;obtain⟨z,hw,O⟩:=RelO.some_of (v:=v) (by rw[<- l];exact C_5 S)
 obtain⟨p,hp,Y⟩:=Option.map_eq_some_iff.mp hw;refine wpAny_getItem_heap (tupleKind_room_in1 hu) (ba7 I kb) Z hp ?_;rw[Y];exact h z _ (I.tok _) O
theorem aJ8 {tab:Tab V}{xs:Tab Value} (O:Paired aE6 tab xs) (nd:(tab.map (·.1)).Nodup) {j:Nat}{p:Addr×Value} (S:(xs.map ad4)[j]?=some (kTI k,p)):∃ v,n_0 tab k=some v/\RelV v p.2:=by
 have e:=atKey_of_get (aC5 O nd) S;have l:=C_5 (k:=k) O;rw[e] at l;cases z:n_0 tab k with
 |none=>rw[z] at l;exact l.elim
 |some v=>rw[z] at l;exact⟨v,rfl,l⟩
theorem aJ7 {tab:Tab V}{xs:Tab Value} (O:Paired aE6 tab xs) (no:∀ (j:Nat) (p:Addr×Value),(xs.map ad4)[j]?≠some (kTI k,p)):n_0 tab k=none:=by
 have e:=atKey_none_of_get no;have l:=C_5 (k:=k) O;rw[e] at l;cases z:n_0 tab k with
 |none=>rfl
 |some v=>rw[z] at l;exact l.elim
theorem au0 {tab:Tab V}{k:Str×Int}{b:Addr}{v:V} (h:n_0 tab k=none):aV9 tab k b v=tab++[(k,b,v)]:=by
 unfold aV9;rw[h];rfl
theorem bC2 {Q:Value->Shared->Prop} (hu:A.units+1<cLine) (I:Inv X pins σ H s) (e:H a=some (tdO a tab)) (ks:KsAt H tab) (kb:H b=some (.tup [.str k.1,.int k.2])) (S:tab.length<sizeLine) (rd:RelV d r)
  (h1:∀ v Y s',n_0 tab k=some v->Inv X pins σ H s'->RelV v Y->Q Y s') (h2:∀ s',n_0 tab k=none->Inv X pins σ (upd H a (tdO a (tab++[(k,b,d)]))) s'->Q r s') :
  wpAny (model X.prog X.w) A (call (.builtin "dict.setdefault") [.ref a,.ref b,r]) Q E s:=by
 obtain⟨hd,o,e1,td⟩:=TAt.obj I.hok ⟨.inl e,ks⟩;obtain⟨xs,z,Z⟩:=td.of I.hok ks e1;have aa:=Paired.length z;refine call_meetsIn PySem.F.slot_dict_setdefault Z.typeIs PySem.F.entry_dict_setdefault (PySem.F.args_dict_setdefault_3 _ _ _) (ak3 (tupleKind (f_5 X.prog X.w)) hd) ⟨tupleKind_room_in1 hu,kTI k,xs.map ad4,KsAt.is I.hok kb,Z,by rw[List.length_map];omega,λ j p hj=>?_,λ no h' O hs=>?_⟩
 ·obtain⟨v,l,rv⟩:=aJ8 z td.nd hj
  exact h1 v _ _ l (I.tok _) rv
 ·have l:=aJ7 z no
  have nd:=aH1 (k:=k) (b:=b) (v:=d) td.nd;rw[au0 l] at nd;refine h2 _ l (aO5 I (by rw[e];exact True.intro) hs (let ⟨q,_,_,hq,_⟩:=O;⟨q,hq⟩) (aA8 hd (TD.mk' (xs:=xs++[(k,b,r)]) (I_9 ⟨rfl,rfl,rd⟩ z) (by rw[List.map_append];exact O) nd (by rw[List.length_append];exact S))))
end
noncomputable def aT1 (K:Frag) (td ty:TE):TE:=λ σ H Q=>td σ H λ x H1=>ty σ H1 λ y H2=>∃ a tab k b v,x=.ref a/\TAt H2 a tab/\y=.ref b/\SqT K H2 b [.str k.1,.int k.2]/\n_0 tab k=some v/\Q v H2
noncomputable def bt1 (td ty tx:TE):TE:=λ σ H Q=>td σ H λ x H1=>∃ a,x=.ref a/\(∃ tab,TAt H1 a tab)/\ty σ H1 λ y H2=>tx σ H2 λ z O=>∃ tab k b,O a=some (tdO a tab)/\KsAt O tab/\y=.ref b/\O b=some (.tup [.str k.1,.int k.2])/\tab.length<sizeLine /\
 (∀ v,n_0 tab k=some v->Q v O)/\(n_0 tab k=none->Q z (upd O a (tdO a (tab++[(k,b,z)]))))
noncomputable def bh8:TE:=λ _ H Q=>∀ p,H p=none->Q (.ref p) (upd H p (tdO p []))
section
variable {X:Cx}{o i e f value:Expr}{apos cpos pos pos':Pos}{td ty tx tv:TE}
theorem aW8 (hu:X.A.units+1<cLine) (ho:PE X o td) (he:PE X e ty) (hf:PE X f tx) (m:M2 X o "setdefault" apos e f cpos):PE X (.Call (.Attribute o "setdefault" apos) [e,f] [] cpos) (bt1 td ty tx):=by
 intro pins s σ H Q I h;refine wpAny_Call_method m.base m.few m.line PySem.F.plainAttrs_dict PySem.F.slot_dict_setdefault PySem.F.type_dict_setdefault (thn (ho pins s σ H _ I h) λ u s1 O=>?_)
 obtain⟨x,H1,S,rx,a,ex,⟨tab,d⟩,q1⟩:=O;subst ex;obtain rfl:u=Value.ref a:=rx;refine⟨(d.ty S).1,(d.ty S).2,?_⟩;rw[m.trees];refine Calls.callWith_builtin rfl (Calls.evalArgs_plain (Calls.spliced_cons (thn (he pins s1 σ H1 _ S q1) λ iv s2 ⟨y,H2,I2,ry,q2⟩ =>
  Calls.spliced_cons (thn (hf pins s2 σ H2 _ I2 q2) λ fv s3 ⟨z,H3,I3,rz,aa,k,b,ea,ks,ey,kb,Y,q3,q4⟩=>Calls.spliced_nil ?_))))
 subst ey;obtain rfl:iv=Value.ref b:=ry;exact bC2 hu I3 ea ks kb Y rz (λ v w' s4 l Z rv=>⟨v,H3,Z,rv,q3 v l⟩) λ s4 l Z=>⟨z,_,Z,rz,q4 l⟩
theorem au9 (hu:X.A.units+1<cLine) (ho:PE X o td) (hi:PE X i ty) (Y:bs6 i):PE X (.Subscript o i pos) (aT1 X.K td ty):=by
 intro pins s σ H Q I h;refine aF7 PySem.F.slot_dict_getitem.lookup Y (thn (ho pins s σ H _ I h) λ u s1 ⟨x,H1,Z,rx,q1⟩=>thn (hi pins s1 σ H1 _ Z q1) λ iv s2 z=>?_)
 obtain⟨y,H2,S,ry,a,tab,k,b,v,ex,g,ey,kb,l,q2⟩:=z;subst ex ey;obtain rfl:u=Value.ref a:=rx;obtain rfl:iv=Value.ref b:=ry;exact⟨(g.ty S).1,aS8 hu S g kb l λ w' s3 I3 O=>⟨v,H2,I3,O,q2⟩⟩
theorem aH9:PE X (.Dict [] [] pos) bh8:=λ pins s σ H Q I h=>by
 have nd:(s.heap.push {cls:=.type "dict",data:=.dict #[]}).DictOfH (tupleKind (f_5 X.prog X.w)) s.heap.objs.size (([]:Tab Value).map ad4):=Heap.DictOfH.new s.heap;exact wpAny_Dict_empty ⟨.ref s.heap.objs.size,_,I.laid (a:=s.heap.objs.size) (o:=tdO s.heap.objs.size []) (t':=s.toks) (λ _ _ q=>qd _ q) (qj _) (aA8 (beq_eq_false_iff_ne.mpr (Ne.symm (qr I.big))) (TD.mk' .nil nd List.nodup_nil (Nat.zero_le _))),rfl,h _ (I.hok.fresh (qj _))⟩
end
theorem aa0 {α z:Type}{F:α->z->Prop}:∀ {l:List α}{m:List z},Paired F l m->∀ {i:Nat}{x:α},l[i]?=some x->∃ y,m[i]?=some y/\F x y
 |_,_,.nil,i,x,h=>by simp at h
 |_,_,.cons r t,0,x,h=>by cases h;exact⟨_,rfl,r⟩
 |_,_,.cons r t,i+1,x,h=>aa0 t (by simpa using h)
theorem TD.entry {P:Program}{w:World}{o:Obj}{tab:Tab V}{es:Array DictEntry}{ep:Nat} (td:TD P w o tab) (h:o.data=.dict es ep):es.size=tab.length/\∀ (i:Nat) (x:(Str×Int)×Addr×V),tab[i]?=some x->∃ e,es[i]?=some e/\e.key=.ref x.2.1/\RelV x.2.2 e.val:=by
 obtain⟨Y,aa,xs,h1,h2,O⟩:=td.es;rw[h] at h1;cases h1;have z:=Paired.length O;refine⟨by rw[<- Array.length_toList,h2,List.length_map,List.length_map,z],λ i x Z=>?_⟩
 obtain⟨y,S,r⟩:=aa0 O Z;have e:es[i]?=some (entryOfKey (tupleKind (f_5 P w)) (ad4 y)):=by rw[<- Array.getElem?_toList,h2,List.getElem?_map,List.getElem?_map,S];rfl
 exact⟨_,e,by rw[r.2.1];rfl,r.2.2⟩
noncomputable def Itk (a:Addr) (o:Obj) (tab:Tab V):It :=
 ⟨λ i H=>i<tab.length/\H a=some (tdF a o tab),λ i H x H'=>H'=H/\∃ r,tab[i]?=some r/\x=.ref r.2.1,λ i H=>tab.length<=i/\H a=some (tdF a o tab)⟩
theorem ah6 {X:Cx}{pins:List (Addr×Obj)}{σ:L2.St}{H:Hp}{s:Shared}{a:Addr}{o:Obj}{tab:Tab V} (I:Inv X pins σ H s) (e:H a=some (tdF a o tab)):(a==sysModules)=false/\s.heap.get? a=some o/\TD X.prog X.w o tab :=
 let ⟨q,_⟩:=(show ObjOk X.prog X.w H s.heap a (tdF a o tab) from I.hok a _ e);q
theorem as9 {P:Program}{w:World}{K:Frag}{tg:Expr} (a it:Addr) (o:Obj) (tab:Tab V) (es:Array DictEntry) (ep:Nat) (S:o.data=.dict es ep):Turn P w K tg (Itk a o tab) [it] it (λ i h=>h.IsKeyIter it a i es.size ep) where
 mem:=List.mem_singleton.mpr rfl
 obj:=λ i h st b hb=>by
  obtain⟨q,e,c,d⟩:=st;rw[List.mem_singleton.mp hb];exact⟨q,e,λ v z=>by rw[d] at z;cases z⟩
 keep:=λ i h h' st k=>st.at λ o e=>k it (List.mem_singleton.mpr rfl) o e
 item:=λ X Z hw hK hc i pins s σ H E I hf st O=>by
  obtain⟨hi,ea⟩:=O;subst Z hw hK;obtain⟨f0,f1,f2,f3,f4,f5⟩:=hf it (List.mem_singleton.mpr rfl);obtain⟨hd,eo,td⟩:=ah6 I ea;obtain⟨e,he,ek,_⟩:=(td.entry S).2 i _ (List.getElem?_eq_getElem hi);refine av7 st eo S he λ h' Y sb=>?_
  have I1:Inv X pins σ H {s with heap:=h'}:=I.turned (t':=s.toks) (λ b o hb e=>(sb.2 b hb).trans e) f0 f1 f3 f4 f5
  obtain⟨q,e1,c,d⟩:=id Y;exact⟨_,rfl,an0 (s:={s with heap:=h'}) e1 c d (by decide) ⟨.ref tab[i].2.1,H,I1,by rw[ek];rfl,⟨rfl,_,List.getElem?_eq_getElem hi,rfl⟩,Y,λ b hb=>(hf b hb).1⟩⟩
 done:=λ X Z hw hK hc i pins s σ H E I hf st O=>by
  obtain⟨hi,ea⟩:=O;subst Z hw hK;obtain⟨f0,f1,f2,f3,f4,f5⟩:=hf it (List.mem_singleton.mpr rfl);obtain⟨hd,eo,td⟩:=ah6 I ea;exact aO2 (I.ok.hd hc) st eo S (by rw[(td.entry S).1];exact hi) λ h' eb=>⟨rfl,I.turned (t':=s.toks) (λ b o hb e=>eb b o hb e) f0 f1 f3 f4 f5⟩
 self:=λ _ _ _ _ _ st h=>wpAny_pyIter_keyiter st h
noncomputable def bG6 (t:TE):TI:=λ σ H R=>t σ H λ x H1=>∃ a o tab,x=.ref a/\H1 a=some (tdF a o tab)/\R (Itk a o tab) H1
theorem aW3 {X:Cx}{tg l:Expr}{tl:TE} (hl:PE X l tl):PI X tg l (bG6 tl):=by
 intro pins s σ H R I h;refine thn (hl pins s σ H _ I h) λ v Y z=>?_
 obtain⟨x,H1,S,r1,Z⟩:=z;obtain⟨a,o,tab,e,ea,q⟩:=Z;subst e;cases r1;obtain⟨hd,eo,td⟩:=ah6 S ea;obtain⟨es,ep,xs,O,_⟩:=td.es;refine aK5 hd eo td.ex O λ h' k st sz=>?_
 refine⟨Y.heap.objs.size,[Y.heap.objs.size],_,_,H1,rfl,S.kept (t':=Y.toks) k,as9 a _ o tab es ep O,st,λ b hb=>?_,q⟩
 rw[List.mem_singleton.mp hb];exact S.fpOk (qj _) (S.hok.fresh (qj _))
theorem aC1 {o:Option Sl}{q:List ((Str×Int)×D)} (h:owU o=some q):o=some (.ow false (.dtu q)):=by
 unfold owU at h
 split at h
 ·cases h;rfl
 ·cases h
theorem reps_ti {K:Frag}{H:Hp}{k:Str×Int}{vs:List V} (h:Reps K H [.str k.1,.int k.2] vs):vs=[.str k.1,.int k.2]:=by
 unfold Reps at h;obtain⟨v,r,rfl,a,h⟩:=h;unfold Reps at h;obtain⟨u,z,rfl,b,h⟩:=h;unfold Reps at h;unfold Rep at a b;subst h a b;rfl
section
variable {K:Frag}{H:Hp}{k:Str×Int}{d:D}{v:V}{b:Addr}
theorem R_3:∀ (kds:List ((Str×Int)×D)) (tab:Tab V),tab.map (·.1)=kds.map (·.1)->Reps K H (kds.map (·.2)) (tab.map (·.2.2)) ->
  (∃ d v,E_9 k kds=some d/\n_0 tab k=some v/\Rep K H d v)\/(E_9 k kds=none/\n_0 tab k=none)
 |[],[],_,_=>.inr ⟨rfl,rfl⟩
 |[],_::_,e,_=>by cases e
 |_::_,[],e,_=>by cases e
 |x::kds,y::tab,e,r=>by
  rw[List.map_cons,List.map_cons] at e r;injection e with e1 e2
  unfold Reps at r;obtain⟨v,q,e3,O,r⟩:=r;injection e3 with e3 e4
  subst e4
  by_cases z:x.1=k
  ·refine .inl ⟨x.2,y.2.2,?_,?_,by rw[e3];exact O⟩
   ·unfold E_9;rw[List.find?_cons,decide_eq_true z];rfl
   ·unfold n_0;rw[List.find?_cons,e1,decide_eq_true z];rfl
  ·have S:E_9 k (x::kds)=E_9 k kds:=by unfold E_9;rw[List.find?_cons,decide_eq_false z]
   have Y:n_0 (y::tab) k=n_0 tab k:=by unfold n_0;rw[List.find?_cons,e1,decide_eq_false z]
   rw[S,Y];exact R_3 kds tab e2 r
end
theorem lt_size {n m:Nat} (h:n<1000) (e:m=n):m<sizeLine:=by
 have:(1000:Nat)<=sizeLine:=by decide
 omega
section
variable {X:Cx}{pos:Pos}{e:Expr}{es:List Expr}{F G:FE}{A:FA}
theorem xtn (i:Nat) {x:Str}{p p2:Pos} (Y:X.N.Nodup) (hi:X.N[i]?=some x:=by rfl) (O:Loc X.env.scope x:=by first | exact Or.inl rfl | exact Or.inr rfl) (S:swapsWith (.Dict [] [] p2) (some (.Name x p)) pos.line X.env=pure false:=by rfl)
  (hf:X.fn x=true\/X.env.scope.names.lookup x=some .local:=by first | exact .inl rfl | exact .inr rfl):XS X (.Assign [.Name x p] (.Dict [] [] p2) pos) (sTN i) :=
 PS.wk (Z_7 Y hi O aH9 S hf) λ Dn σ H z=>by
  obtain⟨c,H0,ρ,r,R,f,q⟩:=z;have Z:some (Res.nx (ρ.set i (.ow false (.dtu []))))=some r:=f;cases Z;exact λ a ha=>q _ H0 _ (Same.refl _) (R.setOwn (o:=.dtu []) (u:=tdO a []) i ha ⟨[],a_7,rfl,(λ x O=>by cases O),Reps.nil_⟩)
end
theorem RS.frozen {K:Frag}{c:FC}{H0 H:Hp}{ρ:En}{σ:L2.St}{m:MO}{a:Addr}{u:HO}{d:D} (R:RS K c H0 H ρ σ) {i:Nat} (hi:ρ[i]?=some (.ow false m)) (hx:σ[i]?=some (some (.ref a)))
  (rep:∀ H',Same H0 H'->H' a=some u->Rep K H' d (.ref a)):∃ H0',Same H0 H0'/\RS K c H0' (upd H a u) (ρ.set i (.im d)) σ:=by
 obtain⟨a',x,y,z,w⟩:=R.ow i _ _ hi;rw[hx] at x;cases x;have he:c.He a=none:=z;have il:i<ρ.length:=(List.getElem?_eq_some_iff.mp hi).1;have Y:Same H0 (upd H0 a u):=λ b o q=>by rw[a_8 (c_1 q y)];exact q
 have S:∀ {j:Nat}{Z:Sl},j≠i->(ρ.set i (.im d))[j]?=some Z->ρ[j]?=some Z:=λ O e=>by rwa [List.getElem?_set_ne (Ne.symm O)] at e
 have on:∀ {Z:Sl},(ρ.set i (.im d))[i]?=some Z->Z=.im d:=λ e=>by rw[List.getElem?_set_self il] at e;exact (qi e).symm
 refine⟨upd H0 a u,Y,⟨λ b o q=>?_,R.init.trans Y,λ b o q=>?_,λ b o q n=>?_,λ b hb q=>?_,by rw[List.length_set];exact R.len,λ j d' q=>?_,λ j bb o q=>?_,λ j k b1 b2 o o' b e1 e2 e3 e4=>?_⟩⟩
 ·by_cases h:b=a
  ·rw[h,a_7] at q ⊢;exact q
  ·rw[a_8 h] at q ⊢;exact R.same b o q
 ·by_cases h:b=a
  ·rw[h];exact .inr he
  ·rw[a_8 h] at q;exact R.fresh b o q
 ·rw[a_8 λ h=>by rw[h,he] at q;cases q];exact R.keep b o q n
 ·by_cases h:b=a
  ·rw[h,a_7] at q;cases q
  ·rw[a_8 h] at q;exact R.apt b hb q
 ·by_cases O:j=i
  ·subst O
   cases on q;exact⟨.ref a,hx,rep _ Y a_7⟩
  ·obtain⟨v,a1,a2⟩:=R.im j d' (S O q)
   exact⟨v,a1,Rep.mono Y _ a2⟩
 ·by_cases O:j=i
  ·subst O;cases on q
  ·have q':=S O q
   obtain⟨b,x1,y1,z1,w1⟩:=R.ow j bb o q';have nb:b≠a:=λ h=>O (R.ne j i bb false o _ b q' hi x1 (by rw[h];exact hx))
   exact⟨b,x1,by rw[a_8 nb];exact y1,z1,w1.step Y λ t q=>by rw[a_8 nb];exact q⟩
 ·by_cases O:j=i
  ·subst O;cases on e1
  ·by_cases hk:k=i
   ·subst hk;cases on e2
   ·exact R.ne j k b1 b2 o o' b (S O e1) (S hk e2) e3 e4
theorem bb9 {X:Cx}{pins:List (Addr×Obj)}{σ:L2.St}{H:Hp}{s:Shared}{a:Addr}{tab:Tab V} (I:Inv X pins σ H s) (e:H a=some (tdO a tab)):∃ o,Inv X pins σ (upd H a (tdF a o tab)) s:=by
 obtain⟨⟨z,o,e1,td⟩,_⟩:=(show ObjOk X.prog X.w H s.heap a (tdO a tab) from I.hok a _ e);exact⟨o,I.write (t':=s.toks) (h':=s.heap) (x:=a) (e:=a) (by rw[e];trivial) (.inl rfl) (λ _ _ _ q=>q) ⟨o,e1⟩ (aS6 z e1 td)⟩
noncomputable def bC1 (i:Nat) (t:TS):TS:=λ D σ H=>∃ a tab,σ[i]?=some (some (.ref a))/\H a=some (tdO a tab)/\∀ o,t D σ (upd H a (tdF a o tab))
section
variable {X:Cx}{pos:Pos}{e e':Expr}{st:Stmt}{F G I:FE}{B:FS}{T:FT}
theorem bl4 (i:Nat) {t:TS} (h:PS X st t):PS X st (bC1 i t):=λ pins s σ H D I z=>by
 obtain⟨a,tab,_,S,q⟩:=z;obtain⟨o,O⟩:=bb9 I S;exact h pins s σ _ D O (q o)
theorem xft (i:Nat) (h:XS X st B):XS X st (sFT i B):=PS.wk (bl4 i h) λ Dn σ H O=>by
 obtain⟨c,H0,ρ,r,R,f,q⟩:=O;unfold sFT bf8 at f;obtain⟨kds,h1,f⟩:=a_1 f;have z:=aC1 h1;obtain⟨a,e1,y,_,tab,e4,ek,ks,t⟩:=R.ow i false _ z;refine⟨a,tab,e1,e4,λ o=>?_⟩
 obtain⟨H0',Z,S⟩:=R.frozen (u:=tdF a o tab) (d:=asT kds) z e1 λ H' s Y=>by
  unfold asT Rep;exact⟨a,o,tab,rfl,Y,ek.symm,ks.mono s,Reps.mono s _ t⟩
 exact⟨c,H0',_,r,S,f,q.mono Z⟩
theorem bB5 (hu:X.A.units+1<cLine) (h1:XE X e F) (h2:XE X e' G) (hs:bs6 e'):XE X (.Subscript e e' pos) (e2 ax8 F G) :=
 PE.wk (au9 hu h1 h2 hs) λ σ H Q z=>by
  obtain⟨c,H0,ρ,d,Z,R,f,q⟩:=z;obtain⟨x,O,y,g1,g2,S⟩:=aE2 f;refine⟨c,H0,ρ,x,O,R,g1,λ v H1 Hh s1 R1 r1=>⟨c,H1,O,y,Z,R1,g2,λ u H2 Hh2 Y R2 r2=>?_⟩⟩
  unfold ax8 at S
  split at S
  ·rename_i ks vs s i
   unfold Rep at r1 r2;obtain⟨a,o,tab,rfl,ea,ek,ka,t⟩:=r1;obtain⟨b,ws,rfl,sq,rs⟩:=r2;cases reps_ti (k:=(s,i)) rs
   have aa:ks.length=vs.length:=by
    have:=t.length;rw[ek,this];simp
   have e1:(ks.zip vs).map (·.1)=ks:=List.map_fst_zip (by omega)
   have e2:(ks.zip vs).map (·.2)=vs:=List.map_snd_zip (by omega)
   rcases R_3 (K:=X.K) (H:=H1) (k:=(s,i)) (ks.zip vs) tab (by rw[e1];exact ek.symm) (by rw[e2];exact t) with ⟨d',v',a1,a2,a3⟩ | ⟨a1,a2⟩
   ·rw[S] at a1;cases a1
    exact⟨a,tab,(s,i),b,v',rfl,⟨.inr ⟨o,R2.same _ _ (Y _ _ ea)⟩,ka.mono (Y.trans R2.same)⟩,rfl,Same.seqT R2.same sq,a2,q _ H2 Hh2 (s1.trans Y) R2 (Rep.mono Y _ a3)⟩
   ·rw[S] at a1;cases a1
  ·cases S
end
theorem opqX_eq {d:D}{q:List (Str×Int)×List D} (h:bl8 d=some q):d=.opq q.1 q.2:=by
 unfold bl8 at h
 split at h
 ·cases h;rfl
 ·cases h
theorem bb3 {K:Frag}{H:Hp}{k:Str×Int}{b:Addr} (h:H b=some (.tup [.str k.1,.int k.2])):Rep K H (kD k) (.ref b):=by
 unfold kD Rep;refine⟨b,_,rfl,.inl (.inl h),?_⟩;refine Reps.cons ?_ (Reps.cons ?_ Reps.nil_) <;> (unfold Rep;rfl)
theorem as5 {K:Frag}{H1:Hp}{a:Addr}{o:Obj}{tab:Tab V} (Y:H1 a=some (tdF a o tab)) (ks:KsAt H1 tab):y_0 K (Itk a o tab) H1 ((tab.map (·.1)).map kD):=λ H0 H i s s'=>by
 have O:=s' _ _ (s _ _ Y);refine⟨λ d e=>?_,λ h=>⟨by simpa using h,O⟩⟩
 rw[List.getElem?_map,List.getElem?_map] at e;cases z:tab[i]? with
 |none=>rw[z] at e;cases e
 |some r =>
  rw[z] at e;cases e;refine⟨⟨(List.getElem?_eq_some_iff.mp z).1,O⟩,λ x H' ⟨h1,Z,h2,S⟩=>⟨h1,?_⟩⟩
  rw[z] at h2;cases h2;rw[S];exact bb3 (s _ _ (ks _ (List.mem_of_getElem? z)))
section
variable {X:Cx}{scope sc:Scope}{x x2:Str}{frees:List Str}{js:List Nat}{px py pt pos ap cp:Pos}{kt:Nat}{elt iter:Expr}{ifs:List Expr}{I F:FE}{T:FT}
theorem xlk (hc:X.calm=true) (Z:X.env.scope=sc) (B:ScB X.N sc scope x frees js) (hi:XE X iter I) (ht:∀ s H C fp,XTs (cxB X (x::frees) scope s H C fp) ifs T) (he:∀ s H C fp,XE (cxB X (x::frees) scope s H C fp) elt F)
  (hs:∀ v,foldedSetIterable iter X.env v=pure v:=by intro _;rfl):XE X (.ListComp elt [⟨.Name x px,iter,ifs,0⟩] scope pos) (eLK js I T F) :=
 PE.wk (aX5 (tt:=tTt X.K T) (te:=tE X.K F) hc Z B (aW3 hi) ht he hs) λ σ H Q O=>by
  obtain⟨c,H0,ρ,d,aa,R,f,q⟩:=O;unfold eLK bx6 at f;obtain⟨⟨z,Y⟩,h1,f⟩:=a_1 f;unfold bx9 at f;obtain⟨⟨ks,ds⟩,g1,f⟩:=a_1 f;unfold bx8 at f;obtain⟨fr,h3,f⟩:=a_1 f;unfold bx7 at f;obtain⟨ys,h4,f⟩:=a_1 f;obtain⟨hz,f⟩:=Fx.ifs f;cases f;cases opqX_eq g1;refine⟨c,H0,ρ,_,Y,R,h1,λ v H1 Hh s1 R1 r1=>?_⟩
  unfold Rep at r1;obtain⟨a,o,tab,rfl,ea,ek,ka,t⟩:=r1;have ek:ks=tab.map (·.1):=ek;subst ek;refine⟨a,o,tab,rfl,R1.same _ _ ea,?_⟩;refine aK0 R1 h3 h4 (by rw[List.length_map];exact hz) (as5 ea ka) λ vs H2 Hh2 s2 R2 r2=>λ p hp=>?_
  have S:=Step.alloc (o:=.lst vs) R2.same hp;refine q _ _ _ (s1.trans (s2.trans S.s0)) (R2.after S) ?_;unfold Rep;exact⟨p,vs,rfl,.inl (.inl a_7),Reps.mono S.s0 _ r2⟩
end
structure GT (K:Frag) (c:FC) (H0 H:Hp) (T:Addr) (g:List ((Str×Int)×List D)) (tab:Tab V):Prop where
 hT:H T=some (tdO T tab)
 nT:H0 T=none
 eT:c.He T=none
 keys:tab.map (·.1)=g.map (·.1)
 ka:KsAt H0 tab
 ats:∀ (i:Nat) (r:(Str×Int)×Addr×V) (q:(Str×Int)×List D),tab[i]?=some r->g[i]?=some q->∃ a ws,r.2.2=.ref a/\H a=some (.lst ws)/\Reps K H0 q.2 ws/\H0 a=none/\c.He a=none
 nd:(tab.map (·.2.2)).Nodup
theorem M_7 (e:D) (k:Str×Int):∀ (g:List ((Str×Int)×List D)) (tab:Tab V),tab.map (·.1)=g.map (·.1) ->
  (n_0 tab k=none/\r_9 k e g=g++[(k,[e])])\/∃ i r ds,tab[i]?=some r/\g[i]?=some (k,ds)/\n_0 tab k=some r.2.2/\r_9 k e g=g.set i (k,ds++[e])
 |[],[],_=>.inl ⟨rfl,rfl⟩
 |[],_::_,z=>by cases z
 |_::_,[],z=>by cases z
 |q::g,r::tab,z=>by
  rw[List.map_cons,List.map_cons] at z;injection z with z1 O
  by_cases hk:q.1=k
  ·refine .inr ⟨0,r,q.2,rfl,by rw[<- hk];rfl,?_,?_⟩
   ·unfold n_0;rw[List.find?_cons,z1,decide_eq_true hk];rfl
   ·show (if q.1=k then (q.1,q.2++[e])::g else q::r_9 k e g)=_
    rw[if_pos hk,hk];rfl
  ·have S:r_9 k e (q::g)=q::r_9 k e g:=if_neg hk
   have Y:n_0 (r::tab) k=n_0 tab k:=by unfold n_0;rw[List.find?_cons,z1,decide_eq_false hk]
   rw[S,Y]
   rcases M_7 e k g tab O with ⟨h1,h2⟩ | ⟨i,r',ds,h1,h2,h3,h4⟩
   ·exact .inl ⟨h1,by rw[h2];rfl⟩
   ·exact .inr ⟨i+1,r',ds,by simpa using h1,by simpa using h2,h3,by rw[h4];rfl⟩
section
variable {K:Frag}{c:FC}{H0 H H0' H':Hp}{T p b:Addr}{g:List ((Str×Int)×List D)}{tab:Tab V}{k:Str×Int}{e:D}{v:V}{ρ:En}{σ:L2.St}
theorem GT.step (h:GT K c H0 H T g tab) (S:Step H0 H H0' H'):GT K c H0' H' T g tab:=by
 have fr:∀ {x:Addr}{u:HO},H0 x=none->H x=some u->H0' x=none:=λ n q=>by
  rename_i x u
  cases z:H0' x with
  |none=>rfl
  |some o =>
   rcases S.fr x o z with y | y
   ·rw[n] at y;cases y
   ·rw[q] at y;cases y
 refine⟨S.s _ _ h.hT,fr h.nT h.hT,h.eT,h.keys,h.ka.mono S.s0,λ i r q hr hq=>?_,h.nd⟩
 obtain⟨a,ws,h1,h2,Y,O,Z⟩:=h.ats i r q hr hq;exact⟨a,ws,h1,S.s _ _ h2,Reps.mono S.s0 _ Y,fr O h2,Z⟩
theorem RS.move (R:RS K c H0 H ρ σ) (no:∀ (i:Nat) (b:Bool) (o:MO),ρ[i]?≠some (.ow b o)) (m:∀ x u,H x=some u->(H0 x=some u\/c.He x=some u)->H' x=some u) (t:∀ x,H x≠none->H' x≠none):RS K c H0 H' ρ σ :=
 ⟨λ b o q=>m b o (R.same b o q) (.inl q),R.init,R.fresh,λ b o q n=>m b o (R.keep b o q n) (.inr q),λ a ha=>t a (R.apt a ha),R.len,R.im,λ i b o q=>absurd q (no i b o),λ i j b z o o' a q=>absurd q (no i b o)⟩
theorem GT.lst {i:Nat}{r:(Str×Int)×Addr×V} (h:GT K c H0 H T g tab) (O:tab[i]?=some r):∃ a z,r.2.2=.ref a/\H a=some (.lst z)/\H0 a=none/\c.He a=none:=by
 have hi:=(List.getElem?_eq_some_iff.mp O).1;have Y:tab.length=g.length:=by have:=congrArg List.length h.keys;simpa using this
 have hq:g[i]?=some g[i]:=List.getElem?_eq_getElem (by omega)
 obtain⟨a,z,h1,h2,h3,S,Z⟩:=h.ats i r _ O hq;exact⟨a,z,h1,h2,S,Z⟩
theorem y_8 {T:Addr}{tab:Tab V}{z:List V} (h:(some (tdO T tab):Option HO)=some (.lst z)):False:=by cases h
theorem GT.new (h:GT K c H0 H T g tab) (hp:H p=none) (ep:c.He p=none) (hb:H0 b=some (.tup [.str k.1,.int k.2])) (rv:Rep K H0 e v)
  (e1:H' T=some (tdO T (tab++[(k,b,.ref p)]))) (e2:H' p=some (.lst [v])) (e3:∀ x,x≠T->x≠p->H' x=H x) (h0:H0 p=none):GT K c H0 H' T (g++[(k,[e])]) (tab++[(k,b,.ref p)]):=by
 have ab:tab.length=g.length:=by have:=congrArg List.length h.keys;simpa using this
 refine⟨e1,h.nT,h.eT,by rw[List.map_append,List.map_append,h.keys];rfl,λ x O=>?_,λ i r q S Y=>?_,?_⟩
 ·rcases qw O with O | O
  ·exact h.ka x O
  ·rw[List.mem_singleton.mp O];exact hb
 ·by_cases hi:i<tab.length
  ·rw[List.getElem?_append_left hi] at S
   rw[List.getElem?_append_left (by omega)] at Y
   obtain⟨a,ws,h1,h2,h3,h4,h5⟩:=h.ats i r q S Y;have n1:a≠T:=λ z=>by rw[z,h.hT] at h2;exact y_8 h2
   have n2:a≠p:=λ z=>by rw[z,hp] at h2;cases h2
   exact⟨a,ws,h1,by rw[e3 a n1 n2];exact h2,h3,h4,h5⟩
  ·have Z:=(List.getElem?_eq_some_iff.mp S).1
   rw[List.length_append,List.length_singleton] at Z;have ie:i=tab.length:=by omega
   subst ie;rw[List.getElem?_append_right (Nat.le_refl _),Nat.sub_self] at S;rw[List.getElem?_append_right (by omega),ab,Nat.sub_self] at Y
   cases S;cases Y;exact⟨p,[v],rfl,e2,Reps.one rv,h0,ep⟩
 ·rw[List.map_append,List.nodup_append]
  refine⟨h.nd,by simp,λ x O y hy z=>?_⟩
  have aa:y=.ref p:=List.mem_singleton.mp hy;rw[aa] at z;obtain⟨r,S,er⟩:=List.mem_map.mp O;obtain⟨i,hi⟩:=List.getElem?_of_mem S;obtain⟨a,ws,h1,h2,_⟩:=h.lst hi;rw[<- er,h1] at z;cases z;rw[hp] at h2;cases h2
theorem GT.app (h:GT K c H0 H T g tab) {i:Nat}{r:(Str×Int)×Addr×V}{ds:List D}{a:Addr}{ws:List V} (hr:tab[i]?=some r) (hg:g[i]?=some (k,ds)) (Z:r.2.2=.ref a) (hw:H a=some (.lst ws)) (rv:Rep K H0 e v)
  (e2:H' a=some (.lst (ws++[v]))) (e3:∀ x u,H x=some u->x≠a->H' x=some u):GT K c H0 H' T (g.set i (k,ds++[e])) tab:=by
 obtain⟨a',aa,h1,h2,h3,h4,h5⟩:=h.ats i r _ hr hg;rw[Z] at h1;cases h1;rw[hw] at h2;cases h2;have aT:a≠T:=λ z=>by rw[z,h.hT] at hw;exact y_8 hw
 have il:i<g.length:=(List.getElem?_eq_some_iff.mp hg).1
 have km:(g.set i (k,ds++[e])).map (·.1)=g.map (·.1):=by
  refine List.ext_getElem? λ n=>?_
  rw[List.getElem?_map,List.getElem?_map]
  by_cases z:i=n
  ·subst z;rw[List.getElem?_set_self il,hg];rfl
  ·rw[List.getElem?_set_ne z]
 refine⟨e3 _ _ h.hT (Ne.symm aT),h.nT,h.eT,by rw[km];exact h.keys,h.ka,λ n r' q O S=>?_,h.nd⟩
 by_cases z:i=n
 ·subst z
  rw[hr] at O;cases O;rw[List.getElem?_set_self il] at S;cases S;exact⟨a,_,Z,e2,h3.app (Reps.one rv),h4,h5⟩
 ·rw[List.getElem?_set_ne z] at S
  obtain⟨a2,Y,k1,k2,k3,k4,k5⟩:=h.ats n r' q O S
  have n1:a2≠a:=λ w=>z (by
   have e1:(tab.map (·.2.2))[i]?=some (.ref a):=by rw[List.getElem?_map,hr];exact congrArg some Z
   have e2:(tab.map (·.2.2))[n]?=some (.ref a):=by rw[List.getElem?_map,O];show some r'.2.2=_;rw[k1,w]
   exact (List.getElem?_inj (List.getElem?_eq_some_iff.mp e1).1 h.nd).mp (e1.trans e2.symm))
  exact⟨a2,Y,k1,e3 _ _ k2 n1,k3,k4,k5⟩
end
noncomputable def az9 (n:Nat) (g:List ((Str×Int)×List D)):Prop:=g.length<=n/\∀ q∈g,q.2.length<=n
theorem Y_3 {n:Nat} (k:Str×Int) (e:D):∀ (g:List ((Str×Int)×List D)),az9 n g->az9 (n+1) (r_9 k e g)
 |[],h=>⟨Nat.succ_le_succ (Nat.zero_le _),λ q S=>by rw[List.mem_singleton.mp S];exact Nat.succ_le_succ (Nat.zero_le _)⟩
 |q::g,h=>by
  by_cases hk:q.1=k
  ·have a:r_9 k e (q::g)=(q.1,q.2++[e])::g:=if_pos hk
   rw[a];refine⟨Nat.le_succ_of_le h.1,λ x z=>?_⟩
   rcases qt z with rfl | z
   ·have:=h.2 q qg
    show (q.2++[e]).length<=_;rw[List.length_append,List.length_singleton];omega
   ·exact Nat.le_succ_of_le (h.2 x (qh _ z))
  ·have a:r_9 k e (q::g)=q::r_9 k e g:=if_neg hk
   rw[a];cases n with
   |zero=>have:=h.1;simp at this
   |succ m =>
    have h1:g.length<=m:=by have:=h.1;simp at this;exact this
    have hl:(r_9 k e g).length<=g.length+1:=by
     clear h h1 a hk
     induction g with
     |nil=>exact qj _
     |cons r g Y =>
      show (if r.1=k then (r.1,r.2++[e])::g else r::r_9 k e g).length<=_
      split
      ·simp
      ·simp;omega
    have O:=(Y_3 k e g ⟨Nat.le_succ_of_le h1,λ x z=>h.2 x (qh _ z)⟩).2
    refine⟨by simp;omega,λ x z=>?_⟩
    rcases qt z with rfl | z
    ·exact Nat.le_succ_of_le (h.2 _ qg)
    ·exact O x z
theorem aL4 {d w:D}{q:(Str×Int)×D} (h:aQ4 d w=some q):∃ t,d=.tup [.int t,.str q.1.1,q.2]/\w=.int q.1.2:=by
 unfold aQ4 at h
 split at h
 ·cases h;exact⟨_,rfl,rfl⟩
 ·cases h
theorem at4 {K:Frag}{H:Hp}{t:Int}{s:Str}{e:D}{v:V} (h:Rep K H (.tup [.int t,.str s,e]) v):∃ a u,v=.ref a/\SqT K H a [.int t,.str s,u]/\Rep K H e u:=by
 unfold Rep at h;obtain⟨a,vs,rfl,S,r⟩:=h;unfold Reps at r;obtain⟨v1,r1,rfl,z,r⟩:=r;unfold Reps at r;obtain⟨v2,Z,rfl,O,r⟩:=r;unfold Reps at r;obtain⟨Y,r3,rfl,q3,r⟩:=r;unfold Reps at r;unfold Rep at z O;subst z O r;exact⟨a,Y,rfl,S,q3⟩
abbrev tbT (K:Frag) (i j l:Nat):TS:=aT4 (tBM K "list" ai3 (bt1 (aT0 i) (bt0 (at5 (tOp (bf9 K) (aT0 j) (tC (.int 1))) (at5 (aT0 l) bf4))) (bt5 bf4)) (at5 (tOp (bf9 K) (aT0 j) (tC (.int 2))) bf4))
theorem am9 {K:Frag}{c:FC}{H0 H:Hp}{T:Addr}{g:List ((Str×Int)×List D)}{tab:Tab V}{d wd:D}{q0:(Str×Int)×D}{v vw:V}{i j l n:Nat}{ρ:En}{σ:L2.St} (h:GT K c H0 H T g tab) (R:RS K c H0 H ρ σ) (no:∀ (i:Nat) (b:Bool) (o:MO),ρ[i]?≠some (.ow b o))
  (ae:az9 n g) (hn:n<1000) (rv:Rep K H0 d v) (af:Rep K H0 wd vw) (hk:aQ4 d wd=some q0) (hi:σ[i]?=some (some (.ref T))) (hj:σ[j]?=some (some v)) (hl:σ[l]?=some (some vw)) (Dn:Ends)
  (q:∀ H0' H' aa,Same H0 H0'->GT K c H0' H' T (r_9 q0.1 q0.2 g) aa->RS K c H0' H' ρ σ->Dn.nx σ H'):tbT K i j l Dn σ H:=by
 obtain⟨t,rfl,rfl⟩:=aL4 hk;obtain⟨k,e⟩:=q0;unfold Rep at af;subst af;obtain⟨a,u,rfl,sq,ru⟩:=at4 rv;have big:(1000:Nat)<=sizeLine:=by decide
 have ai:tab.length=g.length:=by have:=congrArg List.length h.keys;simpa using this
 refine⟨.ref T,hi,T,rfl,⟨tab,.inl h.hT,h.ka.mono R.same⟩,.ref a,hj,a,_,1,.str k.1,rfl,rfl,Same.seqT R.same sq,rfl,.int k.2,hl,by show (2:Nat)<=sizeLine;decide,λ b hb=>⟨Nat.zero_le _,λ p O=>?_⟩⟩
 have S1:=Step.alloc (o:=.tup [.str k.1,.int k.2]) R.same hb;have S:=R.after S1;have h1:=h.step S1;have Y:=Rep.mono S1.s0 _ ru;have Z:SqT K (upd H b (.tup [.str k.1,.int k.2])) a [.int t,.str k.1,u]:=Same.seqT (S1.s0.trans S1.s') sq;have Tp:T≠p:=λ z=>by rw[<- z,h1.hT] at O;cases O
 have bp:b≠p:=λ z=>by rw[<- z,a_7] at O;cases O
 have ep:c.He p=none:=by
  cases z:c.He p with
  |none=>rfl
  |some o =>
   by_cases hA:p∈c.Ap
   ·exact absurd O (S.apt p hA)
   ·rw[S.keep p o z hA] at O;cases O
 have ad:upd H0 b (.tup [.str k.1,.int k.2]) p=none:=by
  cases z:upd H0 b (.tup [.str k.1,.int k.2]) p with
  |none=>rfl
  |some o=>rw[S.same p o z] at O;cases O
 generalize ah:upd H b (.tup [.str k.1,.int k.2])=H1 at S h1 Z O
 generalize ab:upd H0 b (.tup [.str k.1,.int k.2])=G0 at S h1 Y ad
 have ac:G0 b=some (.tup [.str k.1,.int k.2]):=by rw[<- ab,a_7]
 have ag:Same H0 G0:=by rw[<- ab];exact S1.s0
 have pn:∀ {x:Addr}{w:HO},H1 x=some w->x≠p:=λ q z=>by rw[z,O] at q;cases q
 refine⟨tab,k,b,by rw[a_8 Tp];exact h1.hT,λ x hx=>by rw[a_8 (pn (S.same _ _ (h1.ka x hx)))];exact S.same _ _ (h1.ka x hx),rfl,by rw[a_8 bp];exact S.same _ _ ac,by have:=ae.1;omega,λ w hw=>?_,λ hw=>?_⟩
 ·rcases M_7 e k g tab h.keys with ⟨g1,g2⟩ | ⟨i',r,ds,g1,g2,g3,g4⟩
  ·rw[g1] at hw;cases hw
  ·rw[g3] at hw;cases hw
   obtain⟨x,ws,k1,k2,k3,k4,k5⟩:=h1.ats i' r _ g1 g2;have xp:=pn k2;have xw:(upd H1 p (.lst [])) x=some (.lst ws):=by rw[a_8 xp];exact k2
   rw[k1];refine⟨.inl ⟨rfl,_,SqL.of xw⟩,.ref a,hj,a,[.int t,.str k.1,u],2,u,rfl,rfl,?_,rfl,x,ws,u,rfl,rfl,xw,?_,q G0 _ tab ag ?_ ?_⟩
   ·refine Same.seqT (λ y o e=>?_) Z
    rw[a_8 (pn e)];exact e
   ·rw[<- k3.length];have:=ae.2 _ (List.mem_of_getElem? g2);have this:ds.length<=n:=this;show ds.length<_;omega
   ·rw[g4]
    refine h1.app g1 g2 k1 k2 Y a_7 λ y o e ne=>?_
    rw[a_8 ne,a_8 (pn e)];exact e
   ·refine S.move no (λ y o e f=>?_) λ y e z=>?_
    ·have ne:y≠x:=λ z=>by
      rw[z] at f
      rcases f with f | f
      ·rw[k4] at f;cases f
      ·rw[k5] at f;cases f
     rw[a_8 ne,a_8 (pn e)];exact e
    ·by_cases y1:y=x
     ·rw[y1,a_7] at z;cases z
     ·rw[a_8 y1] at z
      by_cases y2:y=p
      ·rw[y2,a_7] at z;cases z
      ·rw[a_8 y2] at z;exact e z
 ·rcases M_7 e k g tab h.keys with ⟨g1,g2⟩ | ⟨i',r,ds,g1,g2,g3,g4⟩
  ·have e1:(upd (upd H1 p (.lst [])) T (tdO T (tab++[(k,b,V.ref p)]))) p=some (.lst []):=by rw[a_8 (Ne.symm Tp),a_7]
   refine⟨.inl ⟨rfl,_,SqL.of e1⟩,.ref a,hj,a,[.int t,.str k.1,u],2,u,rfl,rfl,?_,rfl,p,[],u,rfl,rfl,e1,by show 0<sizeLine;omega,q G0 _ (tab++[(k,b,.ref p)]) ag ?_ ?_⟩
   ·rcases Z with (z | ⟨o,z⟩) | z
    ·refine .inl (.inl ?_)
     have aT:a≠T:=λ y=>by rw[y,h1.hT] at z;cases z
     rw[a_8 aT,a_8 (pn z)];exact z
    ·refine .inl (.inr ⟨o,?_⟩)
     have aT:a≠T:=λ y=>by rw[y,h1.hT] at z;cases z
     rw[a_8 aT,a_8 (pn z)];exact z
    ·exact .inr z
   ·rw[g2]
    refine h1.new O ep ac Y (by rw[a_8 Tp,a_7]) a_7 (λ x n1 n2=>by rw[a_8 n2,a_8 n1,a_8 n2]) ad
   ·refine S.move no (λ y o e f=>?_) λ y e z=>?_
    ·have ne:y≠T:=λ z=>by
      rw[z] at f
      rcases f with f | f
      ·rw[h1.nT] at f;cases f
      ·rw[h1.eT] at f;cases f
     rw[a_8 (pn e),a_8 ne,a_8 (pn e)];exact e
    ·by_cases y1:y=p
     ·rw[y1,a_7] at z;cases z
     ·rw[a_8 y1] at z
      by_cases y2:y=T
      ·rw[y2,a_7] at z;cases z
      ·rw[a_8 y2,a_8 y1] at z;exact e z
  ·rw[g3] at hw;cases hw
theorem J_8 {ρ:En} (h:ρ.all V_5=true):∀ (i:Nat) (b:Bool) (o:MO),ρ[i]?≠some (.ow b o):=λ i b o q=>by
 have:=List.all_eq_true.mp h _ (List.mem_of_getElem? q);cases this
theorem ar2 {ρ:En}{j:Nat}{d:D} (h:ρ.all V_5=true):(ρ.set j (.im d)).all V_5=true:=by
 refine List.all_eq_true.mpr λ x z=>?_
 rcases List.mem_or_eq_of_mem_set z with z | rfl
 ·exact List.all_eq_true.mp h x z
 ·rfl
section
variable {K:Frag}{c:FC}{H0 H:Hp}{ρ:En}{σ:L2.St}{T:Addr}{g:List ((Str×Int)×List D)}{tab:Tab V}{i j l n:Nat}
theorem RS.lone (R:RS K c H0 H ρ σ) (no:ρ.all V_5=true):RS K ⟨H0,H,[]⟩ H0 H ρ σ :=
 ⟨R.same,Same.refl _,λ b o q=>.inl q,λ b o q _=>q,λ a ha=>by simp at ha,R.len,R.im,λ i b o q=>absurd q (J_8 no i b o),λ i j b z o o' a q=>absurd q (J_8 no i b o)⟩
theorem W_1 {z:List D}{m:Nat}{w:D} (h:z[m]?=some w) (ρ:En):(k_6 l (z.take m) ρ).set l (.im w)=k_6 l (z.take (m+1)) ρ:=by
 have e:z.take (m+1)=z.take m++[w]:=by
  rw[List.take_succ,h];rfl
 have e2:k_6 l (z.take (m+1)) ρ=ρ.set l (.im w):=by
  unfold k_6;rw[e,List.getLast?_append];rfl
 rw[e2];unfold k_6
 split
 ·rw[List.set_set]
 ·rfl
theorem R_5 {z:List D}{ρ:En} (h:ρ.all V_5=true):(k_6 l z ρ).all V_5=true:=by
 unfold k_6
 split
 ·exact ar2 h
 ·exact h
theorem al3 {z:List D}{ρ:En} (h:j≠l):(k_6 l z ρ)[j]?=ρ[j]?:=by
 unfold k_6
 split
 ·rw[List.getElem?_set_ne (Ne.symm h)]
 ·rfl
theorem J_4 {z:List D}{ρ:En}:(k_6 l z ρ).length=ρ.length:=by
 unfold k_6
 split
 ·rw[List.length_set]
 ·rfl
theorem aL2 {G:FE}{ai:En}{d:D}{Z:List D}{n':Nat}{g':List ((Str×Int)×List D)} (h:GT K c H0 H T g tab) (R:RS K c H0 H ρ σ) (no:ρ.all V_5=true) (am:az9 n g) (hd:ρ[j]?=some (.im d)) (hG:G ρ=some (.lst Z,ai)) (hg:am7 d Z n g=some (n',g'))
  (aj:j≠l) (ag:l≠i) (ll:l<ρ.length) (hi:σ[i]?=some (some (.ref T))) (Dn:Ends)
  (q:∀ H0' H' z O,Same H0 H0'->GT K c H0' H' T g' z->az9 n' g'->RS K c H0' H' (k_6 l Z ρ) O->O[i]?=some (some (.ref T))->Dn.nx O H'):bi4 (aw8 K (tE K G)) (ax1 l) (tbT K i j l) Dn σ H:=by
 refine⟨⟨H0,H,[]⟩,H0,ρ,.lst Z,ai,R.lone no,hG,λ v H1 Hh s1 R1 r1=>?_⟩
 have S:=R1.step;unfold Rep at r1;obtain⟨l',us,rfl,sq,rs⟩:=r1;have ao:=rs.length;refine⟨l',rfl,⟨us,Same.seq R1.same sq⟩,λ m mm O H'=>mm=Z.length-m/\m<=Z.length/\∃ H0' z g1 n1,Same H1 H0'/\GT K c H0' H' T g1 z/\az9 n1 g1/\am7 d (Z.drop m) n1 g1=some (n',g')/\RS K c H0' H' (k_6 l (Z.take m) ρ) O/\O[i]?=some (some (.ref T)),
  ⟨Z.length,rfl,Nat.zero_le _,H1,tab,g,n,Same.refl _,h.step S,am,hg,R.after S,hi⟩,?_⟩
 rintro m mm O H' ⟨rfl,hm,H0',z,g1,n1,s',h1,aa,Y,R2,ad⟩;have ae:SqL K H' l' us:=Same.seq (s'.trans R2.same) sq
 by_cases ah:m<Z.length
 ·have hw:Z[m]?=some Z[m]:=List.getElem?_eq_getElem ah
  obtain⟨u,hu,ru⟩:=rs.get hw;rw[F_8 hw] at Y;obtain⟨⟨k,e⟩,hk,Y⟩:=a_1 Y;have ac:(if n1<1000 then am7 d (Z.drop (m+1)) (n1+1) (r_9 k e g1) else none)=some (n',g'):=Y
  by_cases hn:n1<1000
  case neg=>rw[if_neg hn] at ac;cases ac
  rw[if_pos hn] at ac
  clear Y
  have Y:=ac;refine .inr ⟨⟨us,u,ae,hu⟩,λ ab H''=>∃ H0' z g1 n1,Same H1 H0'/\GT K c H0' H'' T g1 z/\az9 n1 g1/\am7 d (Z.drop (m+1)) n1 g1=some (n',g')/\RS K c H0' H'' (k_6 l (Z.take (m+1)) ρ) ab/\ab[i]?=some (some (.ref T)),
   λ ab H'' ⟨a1,a2,a3,a4,a5⟩=>⟨Z.length-(m+1),by omega,rfl,ah,a1,a2,a3,a4,a5⟩,λ x H'' hx=>?_⟩
  obtain⟨rfl,hx⟩:=hx;have:=hx us ae;rw[hu] at this;cases this;show tbT K i j l _ (O.set l (some u)) H'';have R3:=R2.set l (Rep.mono s' _ ru);rw[W_1 hw] at R3;have au:(k_6 l (Z.take (m+1)) ρ).all V_5=true:=R_5 no;obtain⟨vd,an,ak⟩:=R3.im j d (by rw[al3 aj];exact hd)
  have aq:l<O.length:=by rw[<- R2.len,J_4];exact ll
  refine am9 h1 R3 (J_8 au) aa hn ak (Rep.mono s' _ ru) hk (by rw[List.getElem?_set_ne ag];exact ad) an (by rw[List.getElem?_set_self aq]) _ λ H0'' H3 af al h2 R4=>?_
  exact⟨H0'',af,_,_,s'.trans al,h2,Y_3 k e g1 aa,Y,R4,by rw[List.getElem?_set_ne ag];exact ad⟩
 ·have ne:m=Z.length:=by omega
  have ar:Z.drop m=[]:=List.drop_eq_nil_of_le (by omega)
  rw[ar] at Y;have as:some (n1,g1)=some (n',g'):=Y;cases as;refine .inl ⟨⟨us,ae,by rw[<- ao];omega⟩,?_⟩
  rw[ne,List.take_length] at R2;exact q H0' H' z O (s1.trans s') h1 aa R2 ad
theorem RS.no (R:RS K c H0 H ρ σ) (i:Nat):RS K c H0 H (ρ.set i .no) σ:=by
 have O:∀ {j:Nat}{S:Sl},S≠.no->(ρ.set i .no)[j]?=some S->ρ[j]?=some S:=λ {j S} ne e=>by
  by_cases Y:i=j
  ·subst Y
   by_cases il:i<ρ.length
   ·rw[List.getElem?_set_self il] at e;cases e;exact absurd rfl ne
   ·rw[List.getElem?_eq_none (by rw[List.length_set];omega)] at e;cases e
  ·rwa [List.getElem?_set_ne Y] at e
 exact⟨R.same,R.init,R.fresh,R.keep,R.apt,by rw[List.length_set];exact R.len,λ j d q=>R.im j d (O (λ z=>nomatch z) q),λ j b o q=>R.ow j b o (O (λ z=>nomatch z) q),λ j k b Z o o' a q1 q2=>R.ne j k b Z o o' a (O (λ z=>nomatch z) q1) (O (λ z=>nomatch z) q2)⟩
noncomputable def adr:V->Option Addr
 |.ref a=>some a
 |_=>none
noncomputable def B_3 (tab:Tab V):List Addr:=tab.filterMap λ r=>adr r.2.2
theorem D_7 {a:Addr} (h:a∈B_3 tab):∃ (i:Nat) (r:(Str×Int)×Addr×V),tab[i]?=some r/\r.2.2=.ref a:=by
 obtain⟨r,z,e⟩:=List.mem_filterMap.mp h;obtain⟨i,hi⟩:=List.getElem?_of_mem z;refine⟨i,r,hi,?_⟩;unfold adr at e
 split at e
 ·rename_i h;cases e;exact h
 ·cases e
theorem at9 {i:Nat}{r:(Str×Int)×Addr×V}{a:Addr} (h:tab[i]?=some r) (e:r.2.2=.ref a):a∈B_3 tab:=List.mem_filterMap.mpr ⟨r,List.mem_of_getElem? h,by rw[e];rfl⟩
theorem Z_1 {H':Hp}:∀ (g:List ((Str×Int)×List D)) (tab:Tab V),tab.map (·.1)=g.map (·.1)->(∀ (i:Nat) r q,tab[i]?=some r->g[i]?=some q->Rep K H' (.lst q.2) r.2.2)->Reps K H' ((gtD g).map (·.2)) (tab.map (·.2.2))
 |[],[],_,_=>Reps.nil_
 |[],_::_,e,_=>by cases e
 |_::_,[],e,_=>by cases e
 |q::g,r::tab,e,h=>by
  rw[List.map_cons,List.map_cons] at e;injection e with e1 e2
  exact Reps.cons (h 0 r q rfl rfl) (Z_1 g tab e2 λ i z O S Y=>h (i+1) z O (by simpa using S) (by simpa using Y))
theorem GT.fin (h:GT K c H0 H T g tab) (R:RS K c H0 H ρ σ) (no:ρ.all V_5=true) (hi:σ[i]?=some (some (.ref T))):∃ H0',Same H0 H0'/\RS K c H0' H (ρ.set i (.ow false (.dtu (gtD g)))) σ:=by
 have s0:Same H0 (λ b=>if b∈B_3 tab then H b else H0 b):=λ b o e=>by
  have:¬ b∈B_3 tab:=λ z=>by
   obtain⟨n,r,Y,er⟩:=D_7 z;obtain⟨a,ws,h1,h2,Z,h4⟩:=h.lst Y;rw[er] at h1;cases h1;rw[Z] at e;cases e
  show (if b∈B_3 tab then H b else H0 b)=some o;rw[if_neg this];exact e
 have ab:¬ T∈B_3 tab:=λ z=>by
  obtain⟨n,r,Y,er⟩:=D_7 z;obtain⟨a,ws,h1,h2,Z,h4⟩:=h.lst Y;rw[er] at h1;cases h1;rw[h.hT] at h2;exact y_8 h2
 have aa:ρ.length=σ.length:=R.len;have il:i<ρ.length:=by rw[aa];exact (List.getElem?_eq_some_iff.mp hi).1
 have S:∀ {j:Nat}{sl:Sl},j≠i->(ρ.set i (.ow false (.dtu (gtD g))))[j]?=some sl->ρ[j]?=some sl:=λ O e=>by rwa [List.getElem?_set_ne (Ne.symm O)] at e
 have on:∀ {sl:Sl},(ρ.set i (.ow false (.dtu (gtD g))))[i]?=some sl->sl=.ow false (.dtu (gtD g)):=λ e=>by rw[List.getElem?_set_self il] at e;exact (qi e).symm
 refine⟨_,s0,⟨λ b o e=>?_,R.init.trans s0,λ b o e=>?_,R.keep,R.apt,by rw[List.length_set];exact aa,λ j d e=>?_,λ j b o e=>?_,λ j k b b' o o' a e1 e2 _ _=>?_⟩⟩
 ·have e':(if b∈B_3 tab then H b else H0 b)=some o:=e
  by_cases z:b∈B_3 tab
  ·rw[if_pos z] at e';exact e'
  ·rw[if_neg z] at e';exact R.same b o e'
 ·have e':(if b∈B_3 tab then H b else H0 b)=some o:=e
  by_cases z:b∈B_3 tab
  ·obtain⟨n,r,Y,er⟩:=D_7 z
   obtain⟨a,ws,h1,h2,Z,h4⟩:=h.lst Y;rw[er] at h1;cases h1;exact .inr h4
  ·rw[if_neg z] at e';exact R.fresh b o e'
 ·by_cases O:j=i
  ·subst O;cases on e
  ·obtain⟨v,a1,a2⟩:=R.im j d (S O e)
   exact⟨v,a1,Rep.mono s0 _ a2⟩
 ·by_cases O:j=i
  ·subst O
   cases on e;refine⟨T,hi,?_,h.eT,tab,h.hT,by rw[h.keys];unfold gtD;rw[List.map_map];rfl,h.ka.mono s0,Z_1 g tab h.keys λ n r q Y hq=>?_⟩
   ·show (if T∈B_3 tab then H T else H0 T)=none
    rw[if_neg ab];exact h.nT
   ·obtain⟨a,ws,h1,h2,Z,_,_⟩:=h.ats n r q Y hq
    rw[h1];unfold Rep;refine⟨a,ws,rfl,.inl (.inl ?_),Reps.mono s0 _ Z⟩;show (if a∈B_3 tab then H a else H0 a)=_;rw[if_pos (at9 Y h1)];exact h2
  ·exact absurd (S O e) (J_8 no j b o)
 ·by_cases O:j=i
  ·by_cases hk:k=i
   ·rw[O,hk]
   ·exact absurd (S hk e2) (J_8 no k b' o')
  ·exact absurd (S O e1) (J_8 no j b o)
end
theorem aC8 {d:D}{xs:List D} (h:lsX d=some xs):d=.lst xs:=by
 unfold lsX at h
 split at h
 ·cases h;rfl
 ·cases h
section
variable {X:Cx}{pos pos2:Pos}{iter iter2:Expr}{F G:FE}{body:List Stmt}
theorem bh3 (i j l:Nat) {x y:Str}{px py:Pos} (hN:X.N.Nodup) (hi:XE X iter F) (aa:XE X iter2 G) (hb:PSs X body (tbT X.K i j l)) (hx:X.N[j]?=some x:=by rfl) (bb:Loc X.env.scope x:=by first | exact Or.inl rfl | exact Or.inr rfl)
  (as:X.fn x=true\/X.env.scope.names.lookup x=some .local:=by first | exact .inl rfl | exact .inr rfl) (hy:X.N[l]?=some y:=by rfl) (ao:Loc X.env.scope y:=by first | exact Or.inl rfl | exact Or.inr rfl)
  (ax:X.fn y=true\/X.env.scope.names.lookup y=some .local:=by first | exact .inl rfl | exact .inr rfl) (hp:PassesOwn (model X.prog X.w) X.A X.env X.xe:=by exact PassesOwn.never) (hc:X.calm=true:=by rfl)
  (hs:∀ x,foldedSetIterable iter X.env x=pure x:=by intro _;rfl) (au:∀ x,foldedSetIterable iter2 X.env x=pure x:=by intro _;rfl) :
  XS X (.For (.Name x px) iter [.For (.Name y py) iter2 body [] pos2] [] pos) (sGT i j l F G) :=
 PS.wk (P_5 hp hc (U_8 hi) (K_7 hN hx bb as) (D_8 (P_5 hp hc (U_8 aa) (K_7 hN hy ao ax) hb au)) hs) λ Dn σ H ah=>by
  obtain⟨c,H0,ρ,r,R,f,q⟩:=ah;unfold sGT bf5 at f;obtain⟨⟨dd,S⟩,h1,f⟩:=a_1 f;unfold bf6 at f;obtain⟨xs,h2,f⟩:=a_1 f;obtain⟨kds,h3,f⟩:=a_1 f;cases kds with
  |cons _ _=>cases f
  |nil =>
  have f0:aU5 i j l S xs G=some r:=f;unfold aU5 at f0
  by_cases ag:j≠i/\l≠i/\j≠l/\i<S.length/\j<S.length/\l<S.length/\(S.set i .no).all V_5=true
  case neg=>rw[if_neg ag] at f0;cases f0
  rw[if_pos ag] at f0;obtain⟨ba,bc,av,il,jl,ll,no⟩:=ag;obtain⟨⟨ab,gF⟩,h4,f1⟩:=a_1 f0;have f2:some (Res.nx (ab.set i (.ow false (.dtu (gtD gF)))))=some r:=f1;cases f2;have hd:=aC8 h2;have hd:dd=.lst xs:=hd;subst hd;refine⟨c,H0,ρ,_,S,R,h1,λ v H1 Hh s1 R1 r1=>?_⟩
  unfold Rep at r1;obtain⟨a,ws,rfl,sq,rs⟩:=r1;have z:=aC1 h3;obtain⟨T,ht,a0,eT,ad,e4,ek,_,_⟩:=R1.ow i _ _ z;have t0:ad=[]:=by cases ad with
   |nil=>rfl
   |cons _ _=>cases ek
  subst t0;have aq:=rs.length;have g0:GT X.K c H1 Hh T [] []:=⟨e4,a0,eT,rfl,(λ x hx=>by cases hx),(λ i r q hr=>by simp at hr),List.nodup_nil⟩
  refine⟨a,rfl,⟨ws,Same.seq R1.same sq⟩,λ n m ac H'=>m=xs.length-n/\n<=xs.length/\∃ H0' Y g1 n1 O,Same H1 H0'/\GT X.K c H0' H' T g1 Y/\az9 n1 g1/\M_6 j l G (xs.drop n) O n1 g1=some (ab,gF)/\RS X.K c H0' H' O ac/\O.all V_5=true/\O.length=S.length/\ac[i]?=some (some (.ref T)),
   ⟨xs.length,rfl,Nat.zero_le _,H1,[],[],0,S.set i .no,Same.refl _,g0,⟨qj _,λ q hq=>by cases hq⟩,h4,R1.no i,no,List.length_set ..,ht⟩,?_⟩
  rintro n m ac H' ⟨rfl,hn,H0',Y,g1,n1,O,s',h5,a9,hg,R2,am,ak,aa⟩;have af:SqL X.K H' a ws:=Same.seq (s'.trans R2.same) sq
  by_cases ai:n<xs.length
  ·have hw:xs[n]?=some xs[n]:=List.getElem?_eq_getElem ai
   obtain⟨u,hu,ru⟩:=rs.get hw;rw[F_8 hw] at hg;obtain⟨⟨dw,bf⟩,k1,hg⟩:=a_1 hg;obtain⟨wl,k2,ar⟩:=a_1 hg;obtain⟨⟨n2,g2⟩,k3,a7⟩:=a_1 ar;have a8:dw=.lst wl:=aC8 k2;subst a8;refine .inr ⟨⟨ws,u,af,hu⟩,λ Z H''=>∃ H0' Y g1 n1 O,Same H1 H0'/\GT X.K c H0' H'' T g1 Y/\az9 n1 g1/\M_6 j l G (xs.drop (n+1)) O n1 g1=some (ab,gF)/\RS X.K c H0' H'' O Z/\O.all V_5=true/\O.length=S.length/\Z[i]?=some (some (.ref T)),
    λ Z H'' ⟨a1,a2,a3,a4,a5,a6⟩=>⟨xs.length-(n+1),by omega,rfl,ai,a1,a2,a3,a4,a5,a6⟩,λ x H'' hx=>?_⟩
   obtain⟨rfl,hx⟩:=hx;have:=hx ws af;rw[hu] at this;cases this;have R3:=R2.set j (Rep.mono s' _ ru);have al:(O.set j (.im xs[n])).all V_5=true:=ar2 am;show bi4 (aw8 X.K (tE X.K G)) (ax1 l) (tbT X.K i j l) _ (ac.set j (some u)) H'';refine aL2 h5 R3 al a9 (by rw[List.getElem?_set_self (by omega)]) k1 k3 av bc (by rw[List.length_set];omega) (by rw[List.getElem?_set_ne ba];exact aa) _ λ H0'' H3 ae be aw h6 aj R4 an=>?_
   exact⟨H0'',ae,g2,n2,_,s'.trans aw,h6,aj,a7,R4,R_5 al,by rw[J_4,List.length_set];exact ak,an⟩
  ·have ay:xs.drop n=[]:=List.drop_eq_nil_of_le (by omega)
   rw[ay] at hg;have az:some (O,g1)=some (ab,gF):=hg;cases az;obtain⟨H0'',s3,R3⟩:=h5.fin R2 am aa;exact .inl ⟨⟨ws,af,by rw[<- aq];omega⟩,q _ H0'' H' (s1.trans (s'.trans s3)) R3⟩
theorem aS0 (i j l:Nat) {x y z:Str}{p1 p2 p3 p4 p5 p6 p7 p8 p9 ac Z S O Y ag:Pos}{c1 c2 x1:Nat} (hu:X.A.units+1<cLine)
  (hx:X.N[j]?=some x:=by rfl) (af:Vis X.env.scope x:=by first | exact Or.inl rfl | exact Or.inr (Or.inl rfl) | exact Or.inr (Or.inr rfl)) (ae:(x==("__debug__":Str))=false:=by decide) (ai:(x==("__classdict__":Str))=false:=by decide)
  (hy:X.N[l]?=some y:=by rfl) (au:Vis X.env.scope y:=by first | exact Or.inl rfl | exact Or.inr (Or.inl rfl) | exact Or.inr (Or.inr rfl)) (as:(y==("__debug__":Str))=false:=by decide) (an:(y==("__classdict__":Str))=false:=by decide)
  (hz:X.N[i]?=some z:=by rfl) (aq:Vis X.env.scope z:=by first | exact Or.inl rfl | exact Or.inr (Or.inl rfl) | exact Or.inr (Or.inr rfl)) (ao:(z==("__debug__":Str))=false:=by decide) (ak:(z==("__classdict__":Str))=false:=by decide)
  (m:M2 X (.Name z p1) "setdefault" p2 (.Tuple [.Subscript (.Name x p3) (.Constant (.int 1) c1 p4) p5,.Name y p6] x1 p7) (.List [] p8) p9:=by exact⟨rfl,rfl,rfl,rfl⟩)
  (aj:starEach [.Subscript (.Name x p3) (.Constant (.int 1) c1 p4) p5,.Name y p6] X.env=(false,eval (.Subscript (.Name x p3) (.Constant (.int 1) c1 p4) p5) X.env)::starEach [.Name y p6] X.env:=by rfl)
  (ar:starEach [.Name y p6] X.env=(false,eval (.Name y p6) X.env)::starEach [] X.env:=by rfl)
  (ab:attributeBase (.Call (.Attribute (.Name z p1) "setdefault" p2) [.Tuple [.Subscript (.Name x p3) (.Constant (.int 1) c1 p4) p5,.Name y p6] x1 p7,.List [] p8] [] p9) "append" X.env (eval (.Call (.Attribute (.Name z p1) "setdefault" p2) [.Tuple [.Subscript (.Name x p3) (.Constant (.int 1) c1 p4) p5,.Name y p6] x1 p7,.List [] p8] [] p9) X.env)=eval (.Call (.Attribute (.Name z p1) "setdefault" p2) [.Tuple [.Subscript (.Name x p3) (.Constant (.int 1) c1 p4) p5,.Name y p6] x1 p7,.List [] p8] [] p9) X.env:=by rfl)
  (ah:((backTo Y (starEach [.Subscript (.Name x Z) (.Constant (.int 2) c2 S) O] X.env)).all (λ x=>!x.1)&&(backToKw Y (keywordEach [] X.env)).all (λ x=>x.1.isSome)&&decide ([Expr.Subscript (.Name x Z) (.Constant (.int 2) c2 S) O].length+([]:List Keyword).length+(if ([]:List Keyword).isEmpty then 0 else 1)<30))=true:=by rfl)
  (aa:(ac.endLine==Y.line)=true:=by rfl) (ad:starEach [.Subscript (.Name x Z) (.Constant (.int 2) c2 S) O] X.env=(false,eval (.Subscript (.Name x Z) (.Constant (.int 2) c2 S) O) X.env)::starEach [] X.env:=by rfl) (am:(backTo Y (starEach [] X.env)).any (·.1)=false:=by rfl)
  (al:swapsWith (.Call (.Attribute (.Call (.Attribute (.Name z p1) "setdefault" p2) [.Tuple [.Subscript (.Name x p3) (.Constant (.int 1) c1 p4) p5,.Name y p6] x1 p7,.List [] p8] [] p9) "append" ac) [.Subscript (.Name x Z) (.Constant (.int 2) c2 S) O] [] Y) none ag.line X.env=pure false:=by rfl) :
  PSs X [.Expr (.Call (.Attribute (.Call (.Attribute (.Name z p1) "setdefault" p2) [.Tuple [.Subscript (.Name x p3) (.Constant (.int 1) c1 p4) p5,.Name y p6] x1 p7,.List [] p8] [] p9) "append" ac) [.Subscript (.Name x Z) (.Constant (.int 2) c2 S) O] [] Y) ag] (tbT X.K i j l) :=
 D_8 (U_7 (aX7 PySem.F.plainAttrs_list PySem.F.slot_list_append PySem.F.type_list_append Q_9 (aW8 hu (s_9 hz aq ao ak) (aC0 (k_3 (aI0 ix_tup (s_9 hx af ae ai) Z_8 (λ _ _=>rfl)) (k_3 (s_9 hy au as an) t_0 ar) aj)) (aj1 t_0) m)
  (k_3 (aI0 ix_tup (s_9 hx af ae ai) Z_8 (λ _ _=>rfl)) t_0 ad) ab ah aa ad am) al)
end
end Fx
namespace Fx
open PySem PySem.W PySem.Spec PyProof.Rows L2
section
variable {X:Cx}{pins:List (Addr×Obj)}{σ:L2.St}{H:Hp}{s:Shared}
noncomputable def aV4 (K:Frag) (O:D->Bool):List V->Hp->VK->Prop:=λ xs H Q=>∃ p ds vs H0,xs=[.ref p]/\SqL K H p vs/\Same H0 H/\Reps K H0 ds vs/\ds.length<64/\ds.all O=true/\∀ l z,H l=none->Reps K H0 (sortT ds) z->Q (.ref l) (upd H l (.lst z))
structure SortSh (X:Cx) (sh:D->Bool):Prop where
 inj:∀ {a b:D},sh a=true->sh b=true->fK a=fK b->a=b
 asks:∀ {σ:L2.St}{H:Hp}{ds:List D}{vs:List V}{its:List Value},ds.all sh=true->Reps X.K H ds vs->Vals vs its->∃ κ:SortKind,(∀ (pins:List (Addr×Obj)) (s:Shared),Inv X pins σ H s->2<=its.length->∀ Q:SortKind->Shared->Prop,Q κ s->wpAny (model X.prog X.w) X.A.in1.in1 (keyKind' its.toArray) Q (λ _ _=>False) s) /\
   ∀ (pins:List (Addr×Obj)) (s:Shared),Inv X pins σ H s->∀ i j,i<ds.length->j<ds.length->∀ Q:Bool->Shared->Prop,Q (decide (fK (ds.getD i .non)<fK (ds.getD j .non))) s->kas_ask X.prog X.w X.A.in1.in1 κ its i j Q s
theorem af5 {sh:D → Bool} (S:SortSh X sh):CallR X (.builtin "sorted") (aV4 X.K sh):=by
 intro pins s σ H xs us Q I r h;obtain⟨p,ds,vs,H0,rfl,sq,sm,Z,ag,al,q⟩:=h;have rp:Reps X.K H ds vs:=Reps.mono sm _ Z;obtain⟨u,rfl,ru⟩:=y_7 r;cases ru;obtain⟨ae,rv,⟨ob,n,h1,h2,h3,h4⟩,_⟩:=I.list sq;have ac:ae.length=ds.length:=by rw[<- rv.length,<- rp.length]
 have inj:∀ a b,a∈ds->b∈ds->fK a=fK b->a=b:=λ a b ha hb e=>S.inj (List.all_eq_true.mp al a ha) (List.all_eq_true.mp al b hb) e
 have mem:∀ i,i<ds.length->ds.getD i .non∈ds:=λ i hi=>by
  rw[List.getD_eq_getElem?_getD,List.getElem?_eq_getElem hi];exact List.getElem_mem hi
 obtain⟨κ,kd,ak⟩:=S.asks (σ:=σ) al rp rv;have big:(1000:Nat)<=sizeLine:=by decide
 refine D_5 (κ:=κ) (r:=ae0 ds.length λ i=>fK (ds.getD i .non)) h1 h2 h4 (by omega) (λ g a kp na=>?_) λ g1 g2 Y e op mo k1 k2 ab=>?_
 ·have up:∀ g':Heap,(∀ b o,b≠a->g.get? b=some o->g'.get? b=some o)->∀ b o,s.heap.get? b=some o->g'.get? b=some o:=λ g' k b o z=>k b o (λ y=>by rw[y,na] at z;cases z) (kp b o z)
  refine⟨λ l2 g' k Q q=>kd pins _ (I.kept (t':=s.toks) (up g' k)) l2 Q q,λ g' k i j hi hj C q=>ak pins _ (I.kept (t':=s.toks) (up g' k)) i j (by omega) (by omega) C ?_⟩
  have ri:=C_4 (n:=ds.length) (key:=λ i=>fK (ds.getD i .non)) (i:=i) (j:=j) (by omega)
  rw[<- decide_eq_decide.mpr ri];exact q
 ·have I1:Inv X pins σ H {s with heap:=g1}:=I.kept (t':=s.toks) k1
  rw[ac] at op mo;have O:∀ i∈Y.toList,i<ds.length:=λ i hi=>List.mem_range.mp (op.perm.mem_iff.mp hi)
  obtain⟨ws,w1,w2⟩:=D_6 Z rv O
  have ad:(Y.toList.map λ i=>ds.getD i .non)=sortT ds:=by
   refine I_5 inj ?_ ?_
   ·have e1:=op.perm.map λ i=>ds.getD i .non
    have e2:(List.range ds.length).map (λ i=>ds.getD i .non)=ds:=by
     refine List.ext_getElem (by simp) λ i h1 h2=>?_
     simp[h2]
    rw[e2] at e1;exact e1
   ·rw[List.pairwise_map,List.pairwise_iff_getElem]
    intro i j hi hj aa;have af:Y.toList.length=ds.length:=by rw[Array.length_toList,op.size]
    have m1:=mo i j (Nat.le_of_lt aa) (by omega)
    have gi:Y.getD i 0=Y.toList[i]:=by
     rw[Array.getD_eq_getD_getElem?,<- Array.getElem?_toList,List.getElem?_eq_getElem hi];rfl
    have gj:Y.getD j 0=Y.toList[j]:=by
     rw[Array.getD_eq_getD_getElem?,<- Array.getElem?_toList,List.getElem?_eq_getElem hj];rfl
    unfold KP at m1;rw[gi,gj] at m1;refine decide_eq_false λ z=>?_
    have:=(C_4 (n:=ds.length) (key:=λ i=>fK (ds.getD i .non)) (i:=Y.toList[j]) (j:=Y.toList[i]) (O _ (List.getElem_mem hj))).mpr z
    omega
  rw[ad] at w1
  have hz:ws.length<=sizeLine:=by
   have:=w1.length;rw[(n_4 ds).length_eq] at this;omega
  exact⟨.ref g1.objs.size,_,I1.laid (t':=s.toks) (o:=.lst ws) k2 (qj _) ⟨hz,_,e,w2,ab⟩,rfl,q _ _ (I1.hok.fresh (qj _)) w1⟩
theorem ap5 {Y:D → Bool} (S:SortSh X Y):BOk X (.builtin "sorted") (aq5 Y):=⟨_,af5 S,λ c H0 H ρ σ ds d vs Q R r e q=>by
 unfold aq5 at e
 split at e
 ·rename_i xs
  obtain⟨⟨O,al⟩,rfl⟩:=ifs e;obtain⟨v,rfl,Z⟩:=Reps.v1 r;unfold Rep at Z;obtain⟨p,ws,rfl,sq,t⟩:=Z;refine⟨p,xs,ws,H0,rfl,Same.seq R.same sq,R.same,t,O,al,λ l z hl r'=>?_⟩
  have S:=Step.alloc (o:=.lst z) R.same hl;refine q _ _ _ S.s0 (R.after S) ?_;unfold Rep;exact⟨l,z,rfl,.inl (.inl a_7),Reps.mono S.s0 _ r'⟩
 ·cases e⟩
theorem P_4 {d:D} (h:r21 d=true):∃ a i j,d=.tup [.tup [.str a,.int i],.int j]:=by
 unfold r21 at h
 split at h
 ·exact⟨_,_,_,rfl⟩
 ·cases h
theorem ax2 (x:List D) (j:Int):fK (.tup [.tup x,.int j])=fK (.tup [.tup x,.tup [.int j]]):=by
 have e:∀ y:D,fK (.tup [.tup x,y])=fKs x++fK y:=λ y=>by rw[p_0,h_3,h_3,p_0,F_6,List.append_nil]
 have e2:fK (.tup [.int j])=fK (.int j):=by rw[p_0,h_3,F_6,List.append_nil]
 rw[e,e,e2]
theorem aG9 {a b:D} (ha:r21 a=true) (hb:r21 b=true) (h:fK a=fK b):a=b:=by
 obtain⟨x,i,j,rfl⟩:=P_4 ha;obtain⟨z,O,Y,rfl⟩:=P_4 hb;have e:∀ x y:List D,fK (.tup [.tup x,.tup y])=fKs x++fKs y:=λ x y=>by rw[p_0,h_3,h_3,p_0,p_0,F_6,List.append_nil]
 rw[ax2,ax2,e,e] at h;obtain⟨h1,h2⟩:=List.append_inj h (r_0 (ds:=[.str x,.int i]) (es:=[.str z,.int O]) rfl).2;have S:=(n_5 (ds:=[.int j]) (es:=[.int Y]) rfl).mp h2;rw[(n_5 (ds:=[.str x,.int i]) (es:=[.str z,.int O]) rfl).mp h1,(List.cons.inj S).1]
theorem ba1 {x y:List D}{j O:Int} (h:g_9 x y=true):(if eqD (.tup x) (.tup y)=true then H_9 [.int j] [.int O] else H_9 x y)=decide (fK (.tup [.tup x,.int j])<fK (.tup [.tup y,.int O])):=by
 rw[ax2,ax2,<- aA5 h (show g_9 [.int j] [.int O]=true from rfl)]
 split
 ·split
  ·rename_i z
   rw[w_2] at z;have:=(x_1 (show g_9 [.int j] [.int O]=true from rfl)).mp z;rw[this,F_0 (show g_9 [.int O] [.int O]=true from rfl)];exact decide_eq_false (List.lt_irrefl _)
  ·rfl
 ·rfl
theorem bs3 {A:Around}{Q:Bool->Shared->Prop}{E:Value->Shared->Prop} (hA:A.units+8<cLine) (I:Inv X pins σ H s) {d e:D} (S:r21 d=true) (he:r21 e=true) {x y:V}{u v:Value} (r1:Rep X.K H d x) (v1:RelV x u) (r2:Rep X.K H e y) (v2:RelV y v)
  (q:Q (decide (fK d<fK e)) s):wpAny (model X.prog X.w) A (keyLt' (tuples' false) u v) Q E s:=by
 obtain⟨a,i,j,rfl⟩:=P_4 S;obtain⟨a',i',j',rfl⟩:=P_4 he;obtain⟨p1,ws,ah,rfl,⟨o,ho,hc,n,ab⟩,rr,Z⟩:=q_9 I r1 v1;obtain⟨p2,af,its',rfl,⟨o',ae,ag,n',Y⟩,aa,O⟩:=q_9 I r2 v2;have s1:g_9 [.str a,.int i] [.str a',.int i']=true:=rfl
 have fl:∀ (a:Str) (i:Int),∀ d∈[D.str a,.int i],∃ e,B_2 d e=true:=λ a i d S=>by
  rcases qt S with rfl | S
  ·exact⟨.str a,rfl⟩
  ·rw[List.mem_singleton.mp S];exact⟨.int 0,rfl⟩
 rw[<- ba1 s1] at q;obtain⟨x1,x2,rfl,q1,q3⟩:=Reps.v2 rr;obtain⟨y1,y2,rfl,q2,q4⟩:=Reps.v2 aa;cases Z with
 |cons c1 Z =>
  cases Z with
  |cons c2 Z =>
   cases Z;cases O with
   |cons c3 O =>
    cases O with
    |cons c4 O =>
     cases O
     rename_i u1 u2 w1 w2
     have E1:SeqAt.EqAt A s u1 w1 (eqD (.tup [.str a,.int i]) (.tup [.str a',.int i'])):=S_0 I 3 A _ _ x1 y1 u1 w1 (by simp) (by simp) (by simp) (by omega) q1 c1 q2 c3
     have f1:=p_1 (bv5 ⟨.int 0,rfl⟩) (Reps.one q3) (Paired.cons c2 .nil);have f2:=p_1 (bv5 ⟨.int 0,rfl⟩) (Reps.one q4) (Paired.cons c4 .nil);refine kat_lt ho ab ae Y (C_6 (l:=H_9 [.str a,.int i] [.str a',.int i']) (fin:=false) E1 (λ Q' q'=>?_) (λ z=>w_0 [.int j] [.int j'] rfl f1 f2 ?_) λ z=>?_)
     ·obtain⟨a1,_,i1,rfl,ad,m1,m2⟩:=q_9 I q1 c1
      obtain⟨a2,_,i2,rfl,ac,m3,m4⟩:=q_9 I q2 c3;exact kat_one _ _ (J_2 ad ac (p_1 (fl a i) m1 m2) (p_1 (fl a' i') m3 m4) s1 (by omega) q')
     ·rw[if_pos z] at q;exact q
     ·rw[if_neg (by rw[z];exact Bool.false_ne_true)] at q;exact q
theorem bi9 (hu:X.A.units+64<cLine):SortSh X r21 where
 inj:=aG9
 asks:=λ {σ H ds vs aa} al S z=>by
  have Y:X.A.in1.in1.units+8<cLine:=by
   have e:X.A.in1.in1.units<=X.A.units+2:=by simp[Around.in1,Around.units]
   omega
  have ab:aa.length=ds.length:=by rw[<- z.length,<- S.length]
  have mem:∀ i,i<ds.length->ds.getD i .non∈ds:=λ i hi=>by
   rw[List.getD_eq_getElem?_getD,List.getElem?_eq_getElem hi];exact List.getElem_mem hi
  refine⟨tuples' (Value.type "tuple" != Value.type "tuple"),λ pins s O l2 Q q=>?_,λ pins s O i j hi hj Q q=>?_⟩
  ·obtain⟨fs,k1,k2,k3⟩:=ab5 (T:=.type "tuple") O (λ d hd=>by
    obtain⟨a,i,j,rfl⟩:=P_4 (List.all_eq_true.mp al d hd);refine⟨_,_,rfl,λ x u Z ru=>?_⟩
    obtain⟨_,_,_,rfl,tp,_⟩:=q_9 O Z ru;exact R_2 tp) S z
   exact kat_kind k1 (by omega) k3 rfl q
  ·obtain⟨x,Z,ux⟩:=q_3 S z hi
   obtain⟨y,ry,uy⟩:=q_3 S z hj;exact bs3 Y O (List.all_eq_true.mp al _ (mem i hi)) (List.all_eq_true.mp al _ (mem j hj)) Z ux ry uy q
end
end Fx
namespace Fx
open PySem PySem.Spec PyProof.Rows L2
noncomputable def bE9:List V->Hp->VK->Prop:=λ xs H Q=>∃ i j:Int,xs=[.int i,.int j]/\∀ p,H p=none->Q (.ref p) (upd H p (.rng i j))
noncomputable def bF1:List V->Hp->VK->Prop:=λ xs H Q=>∃ (p:Addr) (i j:Int),xs=[.ref p]/\H p=some (.rng i j)/\(-(2 ^ 62)<=i/\i<2 ^ 62/\-(2 ^ 62)<=j/\j<2 ^ 62)/\(j-i).toNat<=1000 /\
 ∀ l,H l=none->Q (.ref l) (upd H l (.lst ((List.range (j-i).toNat).map λ k:Nat=>V.int (i+k))))
theorem ag9:∀ {xs:List V}{z:List Value},xs.length=z.length->(∀ (n:Nat) x u,xs[n]?=some x->z[n]?=some u->RelV x u)->Vals xs z
 |[],[],_,_=>.nil
 |[],_::_,e,_=>by cases e
 |_::_,[],e,_=>by cases e
 |x::xs,u::z,e,h=>.cons (h 0 x u rfl rfl) (ag9 (by simpa using e) λ n y v a b=>h (n+1) y v (by simpa using a) (by simpa using b))
section
variable {X:Cx}
theorem ay1:CallR X (.type "range") bE9:=λ pins s σ H xs z Q I r h=>by
 obtain⟨i,j,rfl,q⟩:=h;obtain⟨u,w,rfl,⟨t,rfl⟩,⟨t',rfl⟩⟩:=as8 r;exact call_range_2 ⟨.ref s.heap.objs.size,_,I.laid (o:=.rng i j) (λ b o e=>qd _ e) (qj _) (show ObjOk X.prog X.w _ _ _ (.rng i j) from ⟨t,t',s.toks,qk _ rfl⟩),rfl,q _ (I.hok.fresh (qj _))⟩
theorem ay2 (hc:X.calm=true):CallR X (.type "list") bF1:=λ pins s σ H xs us Q I r h=>by
 obtain⟨p,i,j,rfl,ep,⟨b1,b2,b3,b4⟩,hz,q⟩:=h;obtain⟨u,rfl,ru⟩:=y_7 r;cases ru;obtain⟨t1,t2,t3,eo⟩:=(show ObjOk X.prog X.w H s.heap p (.rng i j) from I.hok p _ ep);have sz:Builtin.Range.rangeSize i j 1=((j-i).toNat:Int):=by rw[rangeSize_one];split <;> omega
 have S:(1000:Nat)<=2 ^ 24:=by decide
 refine call_list_range (I.ok.hd hc) (show IsRange s.heap p i j 1 t1 t2 t3 from eo) (small_one b1 b2 b3 b4) sz (Nat.le_trans hz S) λ h' tk O c' k1 k2 Y=>?_
 have big:(1000:Nat)<=sizeLine:=by decide
 refine⟨.ref s.heap.objs.size,_,I.laid (o:=.lst ((List.range (j-i).toNat).map λ k:Nat=>V.int (i+k))) k1 (qj _) ⟨by rw[List.length_map,List.length_range];omega,O.toList,c',ag9 ?_ λ n x u ex Z=>?_,by simpa using k2⟩,rfl,q _ (I.hok.fresh (qj _))⟩
 ·rw[List.length_map,List.length_range,Array.length_toList,Y.1]
 ·rw[List.getElem?_map] at ex
  cases z:(List.range (j-i).toNat)[n]? with
  |none=>rw[z] at ex;cases ex
  |some m =>
   rw[z] at ex;cases ex;obtain⟨hn,e⟩:=List.getElem?_eq_some_iff.mp z;rw[List.getElem_range] at e;subst e;obtain⟨t,rfl⟩:=Y.2 n u (by rw[<- Array.getElem?_toList];exact Z)
   exact⟨t,by rw[Int.mul_one]⟩
theorem Z_2 {K:Frag}{H:Hp}:∀ (n:Nat) (lo:Int),Reps K H (o_9 lo n) ((List.range n).map λ k:Nat=>V.int (lo+k))
 |0,lo=>Reps.nil_
 |n+1,lo=>by
  rw[List.range_succ_eq_map,List.map_cons,List.map_map];refine Reps.cons ?_ ?_
  ·unfold Rep;simp
  ·have:=Z_2 (K:=K) (H:=H) n (lo+1)
   have e:((λ k:Nat=>V.int (lo+k)) ∘ Nat.succ)=λ k:Nat=>V.int (lo+1+k):=by
    funext k
    show V.int (lo+((k+1:Nat):Int))=_
    congr 1
    omega
   rw[e];exact this
variable {a b:Expr}{F G:FE}{p p2 pos pos':Pos}
theorem bB4 (hm:X.mg "list"=none) (ab:X.mg "range"=none) (ha:XE X a F) (hb:XE X b G) (hg:Gl X "list":=by rfl) (ac:Gl X "range":=by rfl) (hc:X.calm=true:=by rfl)
  (st:starEach [a,b] X.env=(false,eval a X.env)::starEach [b] X.env:=by rfl) (aa:starEach [b] X.env=(false,eval b X.env)::starEach [] X.env:=by rfl) (pl:(backTo pos' (starEach [b] X.env)).any (·.1)=false:=by rfl)
  (Y:starEach [.Call (.Name "range" p2) [a,b] [] pos'] X.env=(false,eval (.Call (.Name "range" p2) [a,b] [] pos') X.env)::starEach [] X.env:=by rfl) (Z:(backTo pos (starEach [] X.env)).any (·.1)=false:=by rfl) :
  XE X (.Call (.Name "list" p) [.Call (.Name "range" p2) [a,b] [] pos'] [] pos) (bg4 F G) :=
 PE.wk (D_9 (ay2 hc) hg hm boot_list (k_3 (D_9 ay1 ac ab boot_range (k_3 ha (k_3 hb t_0 aa) st) (by decide) (by decide) st pl) t_0 Y) (by decide) (by decide) Y Z) λ σ H Q z=>by
  obtain⟨c,H0,ρ,d,ae,R,f,q⟩:=z;unfold bg4 ax4 at f;obtain⟨⟨xs,ad⟩,h1,f⟩:=a_1 f;obtain⟨hz,f⟩:=ifs f;cases f;unfold aB9 at h1;obtain⟨⟨d1,S⟩,h2,h1⟩:=a_1 h1;obtain⟨⟨d2,af⟩,h3,h1⟩:=a_1 h1;obtain⟨i,h4,h1⟩:=a_1 h1;obtain⟨j,h5,h1⟩:=a_1 h1;obtain⟨hj,h1⟩:=ifs h1;cases h1;refine⟨c,H0,ρ,d1,S,R,h2,λ v H1 Hh s1 R1 r1=>⟨c,H1,S,d2,_,R1,h3,λ v' H2 Hh2 s2 R2 r2=>?_⟩⟩
  cases d1 with
  |int k =>
   cases d2 with
   |int O =>
    have e:k=i:=qi h4;have e':O=j:=qi h5;subst e e';unfold Rep at r1 r2;subst r1 r2;refine⟨k,O,rfl,λ p hp=>⟨p,k,O,rfl,a_7,hj,by rw[v_5] at hz;exact hz,λ l hl=>?_⟩⟩
    have S1:=Step.alloc (o:=.rng k O) R2.same hp;have R3:=R2.after S1;have S2:=Step.alloc (o:=.lst ((List.range (O-k).toNat).map λ n:Nat=>V.int (k+n))) R3.same hl
    refine q _ _ _ (s1.trans (s2.trans (S1.s0.trans S2.s0))) (R3.after S2) ?_;unfold Rep;exact⟨l,_,rfl,.inl (.inl a_7),Z_2 _ _⟩
   |_=>cases h5
  |_=>cases h4
end
section
variable {X:Cx}{pos:Pos}{e:Expr}{F:FE}{A:FA}{T:FT}
theorem ap4 (z:X.A.units+64<cLine):BOk X (.builtin "sorted") aq4:=ap5 (bi9 z)
end
end Fx
namespace Fx
open PySem
noncomputable def aY1:Option Sl->Option (Bool×List D)
 |some (.ow b (.lst ds))=>some (b,ds)
 |_=>none
@[simp] theorem bu8 (b:Bool) (ds:List D):aY1 (some (.ow b (.lst ds)))=some (b,ds):=zR rfl
noncomputable def eQb (i:Nat) (ρ:En) (b:Bool) (ds:List D) (o:Option D):Option (D×En):=bnd o λ d=>some (d,ρ.set i (.ow b (.lst ds.dropLast)))
noncomputable def eQa (i:Nat) (ρ:En) (o:Option (Bool×List D)):Option (D×En):=bnd o λ p=>eQb i ρ p.1 p.2 p.2[p.2.length-1]?
noncomputable def eQ (i:Nat) (ρ:En):Option (D×En):=eQa i ρ (aY1 ρ[i]?)
@[simp] theorem eQ_ (i:Nat) (ρ:En):eQ i ρ=eQa i ρ (aY1 ρ[i]?):=zR rfl
theorem bp2 (i:Nat) (ρ:En) (b:Bool) (ds:List D) (d:D):eQa i ρ (some (b,ds++[d]))=some (d,ρ.set i (.ow b (.lst ds))):=by
 show eQb i ρ b (ds++[d]) (ds++[d])[(ds++[d]).length-1]?=_;rw[List.length_append,List.length_singleton,Nat.add_sub_cancel,List.getElem?_concat_length];show some (d,ρ.set i (.ow b (.lst (ds++[d]).dropLast)))=_;rw[List.dropLast_concat]
noncomputable def aZ2 (A B:En->Option MO) (o:Option (Bool×En)):Option MO:=bnd o λ p=>if p.1=true then A p.2 else B p.2
noncomputable def nIf (T:FT) (A B:En->Option MO) (ρ:En):Option MO:=aZ2 A B (T ρ)
@[simp] theorem bK7 (T:FT) (A B:En->Option MO) (ρ:En):nIf T A B ρ=aZ2 A B (T ρ):=zR rfl
@[simp] theorem bv3 (A B:En->Option MO) (ρ:En):aZ2 A B (some (true,ρ))=A ρ:=zR rfl
@[simp] theorem bv4 (A B:En->Option MO) (ρ:En):aZ2 A B (some (false,ρ))=B ρ:=zR rfl
noncomputable def aw0 (ρ:En) (o:Option (List D)):Option MO:=bnd o λ ds=>some (.lst ds.reverse)
noncomputable def av9 (i:Nat) (ρ:En):Option MO:=aw0 ρ (aY2 ρ[i]?)
@[simp] theorem bv1 (i:Nat) (ρ:En):av9 i ρ=aw0 ρ (aY2 ρ[i]?):=zR rfl
@[simp] theorem bm7 (ρ:En) (ds:List D):aw0 ρ (some ds)=some (.lst ds.reverse):=zR rfl
noncomputable def ax7:D->D->Option D
 |.lst [x],.int n=>if 1<=n/\n<=1000 then some (.lst (List.replicate n.toNat x)) else none
 |_,_=>none
@[simp] theorem br4 (x:D) (n:Int):ax7 (.lst [x]) (.int n)=if 1<=n/\n<=1000 then some (.lst (List.replicate n.toNat x)) else none:=zR rfl
noncomputable def bk9 (n:Nat):Res->Option (D×MO)
 |.rt d ρ=>bnd (owO ρ[n]?) λ q=>if q.1=true then some (d,q.2) else none
 |.nx ρ=>bnd (owO ρ[n]?) λ q=>if q.1=true then some (.non,q.2) else none
 |_=>none
noncomputable def fnL (n k:Nat) (B:FS) (o:MO) (ds:List D):Option (D×MO):=if ds.length=n then bnd (B (ds.map .im++.ow true o::List.replicate k .no)) λ r=>bk9 n r else none
noncomputable def bw8 (n:Nat) (o:Option Res):Option (D×MO):=bnd o λ r=>bk9 n r
@[simp] theorem bL1 (n k:Nat) (B:FS) (o:MO) (ds:List D):fnL n k B o ds=if ds.length=n then bw8 n (B (ds.map .im++.ow true o::List.replicate k .no)) else none:=zR rfl
noncomputable def aV1 (d:D) (o:Option (Bool×MO)):Option (D×MO):=bnd o λ q=>if q.1=true then some (d,q.2) else none
@[simp] theorem bw7 (n:Nat) (d:D) (ρ:En):bw8 n (some (.rt d ρ))=aV1 d (owO ρ[n]?):=zR rfl
@[simp] theorem bk8 (d:D) (o:MO):aV1 d (some (true,o))=some (d,o):=zR rfl
end Fx
namespace Fx
open PySem PySem.Spec PyProof.Rows L2
theorem Reps.dropLast {K:Frag}{H:Hp}:∀ {ds:List D}{vs:List V},Reps K H ds vs->Reps K H ds.dropLast vs.dropLast
 |[],vs,h=>by unfold Reps at h;subst h;exact Reps.nil_
 |[d],vs,h=>by
  unfold Reps at h;obtain⟨v,r,rfl,_,h2⟩:=h;unfold Reps at h2;subst h2;exact Reps.nil_
 |d::e::ds,vs,h=>by
  unfold Reps at h;obtain⟨v,r,rfl,h1,h2⟩:=h;have z:=Reps.dropLast h2;unfold Reps at h2;obtain⟨S,O,rfl,_,_⟩:=h2;exact Reps.cons h1 z
theorem aj2 {o:Option Sl}{q:Bool×List D} (h:aY1 o=some q):o=some (.ow q.1 (.lst q.2)):=by
 unfold aY1 at h
 split at h
 ·cases h;rfl
 ·cases h
section
variable {X:Cx}{pos:Pos}
theorem xq (i:Nat) {x:Str}{Y p2:Pos} (hN:X.N[i]?=some x:=by rfl) (hv:Vis X.env.scope x:=by first | exact Or.inl rfl | exact Or.inr (Or.inl rfl) | exact Or.inr (Or.inr rfl)) (hd:(x==("__debug__":Str))=false:=by decide)
  (aa:(x==("__classdict__":Str))=false:=by decide) (O:attributeBase (.Name x Y) "pop" X.env (eval (.Name x Y) X.env)=eval (.Name x Y) X.env:=by rfl)
  (z:(p2.endLine==pos.line)=true:=by rfl) :
  XE X (.Call (.Attribute (.Name x Y) "pop" p2) [] [] pos) (eQ i) :=
 PE.wk (aX6 PySem.F.plainAttrs_list PySem.F.slot_list_pop PySem.F.type_list_pop aZ4 (s_9 hN hv hd aa) O z) λ σ H Q S=>by
  obtain⟨c,H0,ρ,d,Z,R,f,q⟩:=S;unfold eQ eQa at f;obtain⟨⟨b,ds⟩,h0,f⟩:=a_1 f;unfold eQb at f;obtain⟨d',h1,f⟩:=a_1 f;have f':some (d',ρ.set i (.ow b (.lst ds.dropLast)))=some (d,Z):=f;cases f';obtain⟨a,x1,_,_,vs,y1,z1⟩:=R.ow i _ _ (aj2 h0);have hl:=z1.length;obtain⟨y,e1,e2⟩:=z1.get h1;rw[hl] at e1;refine⟨.ref a,x1,.inl ⟨rfl,vs,SqL.of y1⟩,a,vs,y,rfl,rfl,y1,e1,?_⟩;exact q y H0 _ (Same.refl _) (R.mutOwn (o':=.lst ds.dropLast) (u:=.lst vs.dropLast) (aj2 h0) x1 ⟨_,a_7,Reps.dropLast z1⟩) e2
theorem bB3 {c:Expr}{a rest:List Stmt}{T:FT}{A B:En->Option MO} (hc:XT X c T) (ha:XN X a A) (hb:XN X rest B):XN X (.If c a [] pos::rest) (nIf T A B) :=
 PSs.wk (K_5 (aW1 hc ha ai7) hb) λ Dn σ H O=>by
  obtain⟨S,Y,H0,ρ,o,R,f,q⟩:=O;unfold nIf aZ2 at f;obtain⟨⟨k,z⟩,h1,f⟩:=a_1 f;dsimp only at f;refine⟨⟨S,Y,[]⟩,H0,ρ,k,z,R,h1,λ H1 Hh s1 Z=>?_⟩
  cases k with
  |true =>
   rw[if_pos rfl] at f ⊢;exact⟨S,Y,H1,z,o,Z,f,q⟩
  |false =>
   rw[if_neg Bool.false_ne_true] at f ⊢;exact⟨S,Y,H1,z,o,Z,f,q⟩
theorem bh2 (i:Nat) {x:Str}{p p2 p3 p4 spos O:Pos}{k:Nat} (hN:X.N[i]?=some x:=by rfl) (hv:Vis X.env.scope x:=by first | exact Or.inl rfl | exact Or.inr (Or.inl rfl) | exact Or.inr (Or.inr rfl)) (hd:(x==("__debug__":Str))=false:=by decide) (S:(x==("__classdict__":Str))=false:=by decide) :
  XN X [.Return (some (.Subscript (.Name x p) (.Slice none none (some (.UnaryOp .USub (.Constant (.int 1) k p3) p4)) p2) spos)) O] (av9 i) :=
 PSs.wk (D_8 (ai8 (aX0 (s_9 hN hv hd S)))) λ Dn σ H z=>by
  obtain⟨Hi,He,H0,ρ,o,R,f,q⟩:=z;unfold av9 aw0 at f;obtain⟨ds,h0,f⟩:=a_1 f;have f':some (MO.lst ds.reverse)=some o:=f;cases f';obtain⟨a,x1,_,_,vs,Z,Y⟩:=R.ow i _ _ (aI4 h0);refine⟨.ref a,x1,a,vs,rfl,SqL.of Z,λ l hl=>?_⟩
  refine q l H0 _ ⟨R.init,λ b u e=>?_,λ b u e=>?_,R.fresh,R.same.free hl,R.heNone hl,vs.reverse,a_7,Z_3 Y⟩
  ·have:=R.same b u e
   rw[a_8 (c_1 this hl)];exact this
  ·have:=R.keep b u e (by simp)
   rw[a_8 (c_1 this hl)];exact this
end
section
variable {X:Cx}{a b:Expr}{F G:FE}{y:Str}{py pos:Pos}{rest:List Expr}
theorem aX1 {ta tb:TE} (ha:PE X a ta) (hb:PE X (.BoolOp .Or (b::rest) pos) tb):PE X (.BoolOp .Or (a::b::rest) pos) (λ σ H Q=>ta σ H λ x H1=>∃ k,bh1 X.K x H1 k/\if k=true then Q x H1 else tb σ H1 Q):=by
 intro pins s σ H Q I h;refine BoolOp_or (thn (ha pins s σ H _ I h) λ v s1 z=>?_)
 obtain⟨x,H1,I1,Y,k,tr,q1⟩:=z;refine thn (aA6 pins s1 σ H1 x v (λ k H=>if k=true then Q x H else tb σ H Q) I1 Y ⟨k,tr,q1⟩) λ k' Z z=>?_
 obtain⟨H2,S,O⟩:=z;cases k' with
 |false=>rw[if_neg Bool.false_ne_true] at O;exact hb pins Z σ H2 Q S O
 |true=>rw[if_pos rfl] at O;exact⟨x,H2,S,Y,O⟩
theorem bB0 (ha:XE X a F) (hb:XE X (.BoolOp .Or (b::rest) pos) G):XE X (.BoolOp .Or (a::b::rest) pos) (bd0 F G):=PE.wk (aX1 ha hb) λ σ H Q O=>by
 obtain⟨c,H0,ρ,d,Y,R,f,q⟩:=O;unfold bd0 at f;obtain⟨⟨z,S⟩,h1,f⟩:=a_1 f;obtain⟨k,h2,f⟩:=a_1 f;dsimp only at h2 f;refine⟨c,H0,ρ,z,S,R,h1,λ v H1 Hh s1 Z r1=>⟨k,aA7 Z.same r1 h2,?_⟩⟩
 cases k with
 |true =>
  rw[if_pos rfl] at f ⊢;cases f;exact q _ H1 Hh s1 Z r1
 |false =>
  rw[if_neg Bool.false_ne_true] at f ⊢;exact⟨c,H1,S,d,Y,Z,f,λ v H2 Hh2 s2 R2 r2=>q v H2 Hh2 (s1.trans s2) R2 r2⟩
end
section
variable {X:Cx}{scope sc:Scope}{x y:Str}{frees:List Str}{js:List Nat}{px py spos pos p pos':Pos}{elt a:Expr}{ifs:List Expr}{F I:FE}{T:FT}
theorem as6 (n:Nat) (hN:X.N.Nodup) (i q:Nat) (hm:X.mg "range"=none) (hc:X.calm=true) (aa:X.env.scope=sc) (B:ScB X.N sc scope x frees js) (ha:XE X a F) (ht:∀ s H C fp,XTs (cxB X (x::frees) scope s H C fp) ifs T) (he:∀ s H C fp,XE (cxB X (x::frees) scope s H C fp) elt I)
  (Z:X.N[n]?=some y:=by rfl) (hy:X.env.scope.names.lookup y=some .local:=by rfl) (ab:Gl X "range":=by rfl) (z:starEach [a] X.env=[(false,eval a X.env)]:=by rfl)
  (Y:swapsWith (.ListComp elt [⟨.Name x px,.Call (.Name "range" p) [a] [] pos',ifs,0⟩] scope pos) (some (.Name y py)) spos.line X.env=pure true:=by rfl)
  (hs:∀ v,foldedSetIterable (.Call (.Name "range" p) [a] [] pos') X.env v=pure v:=by intro _;rfl):XS X (.Assign [.Name y py] (.ListComp elt [⟨.Name x px,.Call (.Name "range" p) [a] [] pos',ifs,0⟩] scope pos) spos) (d_4 n (bg5 js i q (ag1 F) T I)) :=
 PS.wk (Z_6 (tt:=tTt X.K T) (te:=tE X.K I) hN Z hy hc aa B (P_7 ab hm (k_3 ha t_0 z) z) ht he Y hs) λ Dn σ H O=>by
  obtain⟨c,H0,ρ,r,R,f,qq⟩:=O;unfold d_4 at f;obtain⟨⟨d,ac⟩,h9,f⟩:=a_1 f;have f':some (Res.nx (ac.set n (.im d)))=some r:=f;cases f';unfold bg5 at h9;obtain⟨⟨xs,ae⟩,h1,f⟩:=a_1 h9;obtain⟨b,o,ys,o',k1,k2,k3,k4,rfl,rfl⟩:=aK1 f;unfold ag1 at h1;obtain⟨⟨d1,ad⟩,g1,h1⟩:=a_1 h1;obtain⟨j,g3,h1⟩:=a_1 h1;dsimp only at g3 h1;obtain⟨hj,h1⟩:=Fx.ifs h1;cases h1;refine⟨c,H0,ρ,d1,_,R,g1,λ v H1 Hh s1 R1 r1=>?_⟩
  cases d1 with
  |int k =>
   have e:k=j:=qi g3;subst e;unfold Rep at r1;subst r1;refine⟨k,rfl,hj.1,hj.2,ba3 R1 k1 k4 k2 k3 (y_5 0 k.toNat) λ vs H3 Hh3 s3 R3 r3=>λ p hp=>?_⟩
   have S:=Step.alloc (o:=.lst vs) R3.same hp;refine qq _ _ _ (s1.trans (s3.trans S.s0)) ((R3.after S).set n ?_);unfold Rep;exact⟨p,vs,rfl,.inl (.inl a_7),Reps.mono S.s0 _ r3⟩
  |_=>cases g3
end
section
variable {X:Cx}
theorem bA8 {st:Stmt}:XS X st sNo:=λ _ _ _ _ _ _ ⟨_,_,_,_,_,f,_⟩=>nomatch f
end
theorem ab3 (v:Value):∀ (n:Nat) (a:Array Value),List.foldl (λ z x2=>z++x2) a (List.replicate n #[v])=a++(List.replicate n v).toArray
 |0,a=>by simp
 |n+1,a=>by
  rw[List.replicate_succ,List.foldl_cons,ab3 v n,List.replicate_succ,Array.append_assoc]
  congr 1
  rw[show (v::List.replicate n v)=[v]++List.replicate n v from rfl,List.append_toArray]
theorem X_6 {v:V}{u:Value} (h:RelV v u):∀ n:Nat,Vals (List.replicate n v) (List.replicate n u)
 |0=>.nil
 |n+1=>.cons h (X_6 h n)
theorem Z_4 {K:Frag}{H:Hp}{d:D}{v:V} (h:Rep K H d v):∀ n:Nat,Reps K H (List.replicate n d) (List.replicate n v)
 |0=>Reps.nil_
 |n+1=>Reps.cons h (Z_4 h n)
section
variable {X:Cx}
noncomputable def rRep (K:Frag):R2:=λ x y H Q=>∃ l z n,x=.ref l/\y=.int n/\SqL K H l [z]/\1<=n/\n<=1000/\∀ p,H p=none->Q (.ref p) (upd H p (.lst (List.replicate n.toNat z)))
theorem op_rep:OpR X (binaryOp .Mult) (rRep X.K):=by
 intro pins s σ H x y v u Q I rx ry h;obtain⟨l,z,n,rfl,rfl,hH,h1,h2,q⟩:=h;cases rx;obtain⟨t,rfl⟩:=ry;obtain⟨aa,r,pl,_⟩:=I.list hH;obtain⟨u,rfl,ru⟩:=y_7 r;obtain⟨⟨cls,Y,data,Z⟩,O,S,k,hd⟩:=pl.isList;simp only at S hd;subst S hd;have sz:(1000:Nat)<=sizeLine:=by decide
 have nm:n.toNat<=1000:=by omega
 refine wpAny_binaryOp_repeat_ref (T:="list") (U:="int") (by decide) ⟨_,O,rfl⟩ (λ s'=>typeIs_int s' n t) noFill_list_mul PySem.F.fills_int_mul PySem.F.slot_int_rmul repeat_list PySem.F.slot_int_index.lookup
  (call_meets PySem.F.slot_int_rmul (typeIs_int s n t) PySem.F.entry_int_rmul (PySem.F.args_int_rmul_2 _ _) (lm_int_rmul_list_any n t l #[u] k Y Z) ⟨O,rfl,⟨_,O,rfl⟩,call_meets PySem.F.slot_list_mul ⟨_,O,rfl⟩ PySem.F.entry_list_mul (PySem.F.args_list_mul_2 _ _) (lm_list_mul_any l #[u] k Y Z n t (by simp[Builtin.List.listFitsIndex];omega) (by simp;omega) (by simp[Builtin.List.listTooLong];omega)) ⟨O,?_⟩⟩)
 rw[show (if (#[u]:Array Value).isEmpty=true then 0 else n.toNat)=n.toNat from rfl,ab3,Array.empty_append];exact⟨.ref _,_,I.lnew (t':=s.toks) (X_6 ru n.toNat) (by rw[List.length_replicate];omega),rfl,q _ I.fresh⟩
theorem bm3:N_8 X .Mult ax7:=⟨rRep X.K,op_rep,λ c H0 H ρ σ x y d vx vy Q R Y O e q=>by
 unfold ax7 at e
 split at e
 ·obtain⟨h,rfl⟩:=ifs e
  unfold Rep at Y O;obtain⟨p,vs,rfl,s,t⟩:=Y;obtain⟨z,rfl,rz⟩:=Reps.v1 t;refine⟨p,z,_,rfl,O,Same.seq R.same s,h.1,h.2,λ p' Z=>?_⟩
  rename_i d0 n
  have S:=Step.alloc (o:=.lst (List.replicate n.toNat z)) R.same Z;refine q _ _ _ S.s0 (R.after S) ?_;unfold Rep;exact⟨p',_,rfl,.inl (.inl a_7),Reps.mono S.s0 _ (Z_4 rz _)⟩
 ·cases e⟩
end
noncomputable def spL (K:Frag) (g:MO->List D->Option (D×MO)):Sp:=λ O H Q _=>∃ z a o vs ds d o',O=vs++[.ref a]/\Same z H/\z a=none/\OwOk K z H a o/\Reps K z ds vs/\g o ds=some (d,o') /\
 ∀ v Hi' H',Same z Hi'->Same Hi' H'->(∀ b u,H b=some u->b≠a->H' b=some u)->(∀ b u,Hi' b=some u->z b=some u\/H b=none)->OwOk K Hi' H' a o'->Rep K Hi' d v->Q v H'
structure DefL (P:Program) (w:World) (K:Frag) (mg:Str->Option Value) (base:Heap) (k:Nat) (x:Str) (g:MO->List D->Option (D×MO)):Prop where
 ex:∃ f fd ps,FnOk P w K mg base CX0 k f fd ps (spL K g)/\Binds K fd ps []/\keepIn K (.ref f)=true/\mg x=some (.ref f)
noncomputable def tAL (K:Frag) (i:Nat) (F:FA):TA:=λ σ H Q=>∃ c H0 ρ ds z b o,RS K c H0 H ρ σ/\F ρ=some (ds,z)/\z[i]?=some (.ow b o)/\∀ vs a H0' H',Same H0 H0'->RS K c H0' H' z σ->Reps K H0' ds vs->σ[i]?=some (some (.ref a))->Q (vs++[.ref a]) H'
section
variable {X:Cx}
noncomputable def XAL (X:Cx) (i:Nat) (es:List Expr) (F:FA):Prop:=PA X es (tAL X.K i F)
theorem bB9 (i:Nat) {y:Str}{py:Pos} (Z:X.N[i]?=some y:=by rfl) (hv:Vis X.env.scope y:=by first | exact Or.inl rfl | exact Or.inr (Or.inl rfl) | exact Or.inr (Or.inr rfl)) (hd:(y==("__debug__":Str))=false:=by decide) (O:(y==("__classdict__":Str))=false:=by decide):XAL X i [.Name y py] aN :=
 PA.wk (k_3 (s_9 Z hv hd O) t_0 rfl) λ σ H Q z=>by
  obtain⟨c,H0,ρ,ds,Y,b,o,R,f,e,q⟩:=z;unfold aN at f;cases f;obtain⟨a,S,_⟩:=R.ow i b o e;exact⟨_,S,q [] a H0 H (Same.refl _) R Reps.nil_ S⟩
theorem aS1 (i:Nat) {e:Expr}{es:List Expr}{F:FE}{A:FA} (ha:XE X e F) (hr:XAL X i es A) (hs:starEach (e::es) X.env=(false,eval e X.env)::starEach es X.env:=by rfl):XAL X i (e::es) (aC F A):=PA.wk (k_3 ha hr hs) λ σ H Q z=>by
 obtain⟨c,H0,ρ,ds,S,b,o,R,f,eo,q⟩:=z;unfold aC at f;obtain⟨⟨d,O⟩,h1,f⟩:=a_1 f;obtain⟨⟨r,Y⟩,h2,f⟩:=a_1 f;have f':some (d::r,Y)=some (ds,S):=f;cases f';refine⟨c,H0,ρ,d,O,R,h1,λ v H1 Hh s1 R1 r1=>?_⟩
 refine⟨c,H1,O,r,_,b,o,R1,h2,eo,λ vs a H2 Hh2 Z R2 r2 ea=>?_⟩
 exact q (v::vs) a H2 Hh2 (s1.trans Z) R2 (Reps.cons (Rep.mono Z d r1) r2) ea
theorem xFl (i:Nat) {k:Nat}{x:Str}{g:MO → List D → Option (D×MO)}{p pos:Pos}{e:Expr}{es:List Expr}{A:FA} (G:DefL X.prog X.w X.K X.mg X.base k x g) (hr:Room k X.A) (ha:XAL X i (e::es) A) (hg:Gl X x:=by rfl) (aa:(x==("__debug__":Str))=false:=by decide)
  (hs:starEach (e::es) X.env=(false,eval e X.env)::starEach es X.env:=by rfl) (Z:(backTo pos (starEach es X.env)).any (·.1)=false:=by rfl):XE X (.Call (.Name x p) (e::es) [] pos) (eFb i g A):=by
 obtain⟨f,fd,ps,Fo,hb,hk,hm⟩:=G.ex;refine PE.wk (K_8 Fo hr hg hm hk hb .nil av2 ha aa hs Z) λ σ H Q O=>?_
 obtain⟨c,H0,ρ,d,ab,R,z,q⟩:=O;unfold eFb at z;obtain⟨⟨b0,o0⟩,h0,z⟩:=a_1 z;obtain⟨⟨ds,S⟩,h1,z⟩:=a_1 z;obtain⟨⟨b,o⟩,h2,z⟩:=a_1 z;obtain⟨⟨d',o'⟩,h3,z⟩:=a_1 z;have z':some (d',S.set i (.ow b o'))=some (d,ab):=z;cases z';have y2:=A_1 h2;refine⟨c,H0,ρ,ds,S,b,o,R,h1,y2,λ vs a H1 Hh s1 Y r1 ea=>?_⟩
 obtain⟨a',f1,f2,f3,w'⟩:=Y.ow i b o y2;rw[ea] at f1;cases f1;refine⟨H1,a,o,vs,ds,d,o',by rw[List.append_nil],Y.same,f2,w',r1,h3,λ v Hi' H' s2 s3 kp fr ok rv=>?_⟩
 exact q v Hi' H' (s1.trans s2) (Y.lent y2 ea s2 s3 kp fr ok) rv
end
theorem RS.startL {K:Frag}{Y H:Hp}{ds:List D}{vs:List V}{a:Addr}{o:MO}{m:Nat} (s:Same Y H) (h0:Y a=none) (ok:OwOk K Y H a o) (r:Reps K Y ds vs) :
  RS K ⟨Y,H,[a]⟩ Y H (ds.map .im++.ow true o::List.replicate m .no) (vs.map some++some (.ref a)::List.replicate m none):=by
 have hl:=r.length
 have S:∀ (i:Nat) (u:Sl),(ds.map Sl.im++Sl.ow true o::List.replicate m Sl.no)[i]?=some u->(i<ds.length/\(ds[i]?).map Sl.im=some u)\/(i=ds.length/\u=.ow true o)\/u=.no:=λ i u e=>by
  by_cases hi:i<ds.length
  ·rw[List.getElem?_append_left (by simpa using hi),List.getElem?_map] at e
   exact .inl ⟨hi,e⟩
  ·rw[List.getElem?_append_right (by simpa using Nat.le_of_not_lt hi),List.length_map] at e
   cases h:i-ds.length with
   |zero=>rw[h] at e;cases e;exact .inr (.inl ⟨by omega,rfl⟩)
   |succ j =>
    rw[h,List.getElem?_cons_succ,List.getElem?_replicate] at e
    split at e <;> cases e
    exact .inr (.inr rfl)
 refine⟨s,Same.refl _,λ b o e=>.inl e,λ b o e _=>e,λ b hb e=>?_,?_,λ i d e=>?_,λ i b o' e=>?_,λ i j b b' o1 Z x e1 e2 e3 e4=>?_⟩
 ·obtain⟨u,hu⟩:=ok.some
  have:b=a:=by simpa using hb
  have e:H b=none:=e;rw[this,hu] at e;cases e
 ·simp[hl]
 ·rcases S i _ e with ⟨hi,z⟩ | ⟨_,z⟩ | z
  ·cases O:ds[i]? with
   |none=>rw[O] at z;cases z
   |some d' =>
    rw[O] at z;cases z;obtain⟨y,e1,e2⟩:=r.get O;refine⟨y,?_,e2⟩;rw[List.getElem?_append_left (by rw[List.length_map];omega),List.getElem?_map,e1];rfl
  ·cases z
  ·cases z
 ·rcases S i _ e with ⟨hi,z⟩ | ⟨rfl,z⟩ | z
  ·cases O:ds[i]? with
   |none=>rw[O] at z;cases z
   |some d'=>rw[O] at z;cases z
  ·cases z
   exact⟨a,by rw[List.getElem?_append_right (by rw[List.length_map];omega),List.length_map,hl,Nat.sub_self];rfl,h0,by rw[if_pos rfl];exact List.mem_singleton.mpr rfl,ok⟩
  ·cases z
 ·have only:∀ (i:Nat) (b:Bool) (Z:MO),(ds.map Sl.im++Sl.ow true o::List.replicate m Sl.no)[i]?=some (.ow b Z)->i=ds.length:=λ i b Z e=>by
   rcases S i _ e with ⟨hi,z⟩ | ⟨h,_⟩ | z
   ·cases O:ds[i]? with
    |none=>rw[O] at z;cases z
    |some d'=>rw[O] at z;cases z
   ·exact h
   ·cases z
  rw[only i _ _ e1,only j _ _ e2]
theorem bc5 {P:Program}{w:World}{K:Frag}{mg:Str->Option Value}{base:Heap}{x Z:Str}{st:Stmt}{f:Addr}{fd:FuncData}{N ps:List Str}{k n m:Nat}{B:FS} (F:Fun K x Z st f fd) (S:FnScope N ps (a_0 st)) (hn:ps.length=n+1) (hN:N.length=n+1+m)
  (hb:∀ (ab:Value) (A:Around) (outer:List Env) (s:Shared) (H:Hp) (E:XK),Room k (A.deeper (envOfC Z (a_0 st) s.heap.objs.size f ab))->XSs (as2 CX0 P w K mg base N Z (a_0 st) f ab A outer s H E).nox (a_4 st) B) :
  FnOk P w K mg base CX0 (k+1) f fd ps (spL K (fnL n m B)):=by
 have ac:∀ {o:MO}{ds:List D}{z:D×MO},fnL n m B o ds=some z->ds.length=n/\∃ r,B (ds.map .im++.ow true o::List.replicate m .no)=some r/\bk9 n r=some z:=λ {o ds z} h=>by
  unfold fnL at h
  split at h
  ·rename_i hl
   obtain⟨r,h1,h2⟩:=a_1 h;exact⟨hl,r,h1,h2⟩
  ·cases h
 have fin:∀ {Hi H H0' H':Hp}{a:Addr}{o':MO}{O:En}{aa:L2.St},RS K ⟨Hi,H,[a]⟩ H0' H' O aa->O[n]?=some (.ow true o')->Same Hi H0'/\Same H0' H'/\(∀ b u,H b=some u->b≠a->H' b=some u)/\(∀ b u,H0' b=some u->Hi b=some u\/H b=none)/\OwOk K H0' H' a o' :=
  λ {Hi H H0' H' a o' O aa} R e=>by
   obtain⟨a',_,_,z,ok⟩:=R.ow n true o' e;rw[if_pos rfl] at z;have za:a'=a:=by simpa using z
   subst za;exact⟨R.init,R.same,λ b u h n=>R.keep b u h (by simpa using n),R.fresh,ok⟩
 refine F.ok S (λ vs H Q E h=>?_) (λ ab A outer s H vs Q E hr h=>?_)
 ·obtain⟨Hi,a,o,vr,ds,d,o',rfl,_,_,_,r,e,_⟩:=h
  rw[hn,List.length_append,List.length_singleton,<- r.length,(ac e).1]
 ·obtain⟨Hi,a,o,vr,ds,d,o',rfl,hs,h0,ok,r,e,q⟩:=h
  obtain⟨hl,res,h1,h2⟩:=ac e;have ae:=r.length;have R:=RS.startL (m:=m) hs h0 ok r
  have ad:L2.start N (vr++[V.ref a])=vr.map some++some (.ref a)::List.replicate m none:=by
   unfold L2.start;rw[List.length_append,List.length_singleton,hN,show n+1+m-(vr.length+1)=m by omega,List.map_append,List.append_assoc];rfl
  refine⟨_,hb ab A outer s H E hr,⟨Hi,H,[a]⟩,Hi,_,res,by rw[ad];exact R,h1,?_⟩
  cases res with
  |nx O =>
   obtain⟨⟨b,oo⟩,z1,z2⟩:=a_1 (show bnd (owO O[n]?) (λ q=>if q.1=true then some (D.non,q.2) else none)=some (d,o') from h2)
   obtain⟨Y,z3⟩:=ifs z2;cases z3;have Y:b=true:=Y;subst Y;exact λ aa H0' H' s0 R=>let ⟨x1,x2,x3,x4,x5⟩:=fin R (A_1 z1);q .non H0' H' x1 x2 x3 x4 x5 (by unfold Rep;rfl)
  |rt d' O =>
   obtain⟨⟨b,oo⟩,z1,z2⟩:=a_1 (show bnd (owO O[n]?) (λ q=>if q.1=true then some (d',q.2) else none)=some (d,o') from h2)
   obtain⟨Y,z3⟩:=ifs z2;cases z3;have Y:b=true:=Y;subst Y;exact λ v aa H0' H' s0 R rv=>let ⟨x1,x2,x3,x4,x5⟩:=fin R (A_1 z1);q v H0' H' x1 x2 x3 x4 x5 rv
  |bk O=>cases h2
  |ct O=>cases h2
structure YE (X:Cx) (e:Expr) (F:FE):Prop where
 go:XE X e F
structure YA (X:Cx) (es:List Expr) (F:FA):Prop where
 go:XA X es F
structure YS (X:Cx) (st:Stmt) (F:FS):Prop where
 go:XS X st F
structure YSs (X:Cx) (st:List Stmt) (F:FS):Prop where
 go:XSs X st F
section
variable {X:Cx}{a b e:Expr}{es:List Expr}{F G:FE}{A:FA}{pos:Pos}{st:Stmt}{ss body:List Stmt}{B C:FS}{T:FT}
theorem ye (h:XE X e F):YE X e F:=⟨h⟩
theorem yb {op:Operator}{f:D->D->Option D} (o:N_8 X op f) (ha:YE X a F) (hb:YE X b G):YE X (.BinOp a op b pos) (e2 f F G):=⟨xb o ha.go hb.go⟩
theorem yix (ha:YE X a F) (hb:YE X b G) (z:X_4 b:=by intro _ _;rfl):YE X (.Subscript a b pos) (e2 b_1 F G):=⟨c_2 ha.go hb.go z⟩
theorem aR6 (h:YA X es A):YE X (.List es pos) (w_7 A):=⟨O_0 h.go⟩
theorem y_3 {x1} (h:YA X es A):YE X (.Tuple es x1 pos) (l_2 A):=⟨N_9 h.go⟩
theorem yaN:YA X [] aN:=⟨xaN⟩
theorem yaC (ha:YE X e F) (z:YA X es A) (O:starEach (e::es) X.env=(false,eval e X.env)::starEach es X.env:=by rfl):YA X (e::es) (aC F A):=⟨xaC ha.go z.go O⟩
theorem yx (h:XS X st B):YS X st B:=⟨h⟩
theorem ysN:YSs X [] sN:=⟨xsN⟩
theorem ys1 (h:YS X st B):YSs X [st] B:=⟨xs1 h.go⟩
theorem ysC (h:YS X st B) (k:YSs X ss C):YSs X (st::ss) (b_2 B C):=⟨xsC h.go k.go⟩
theorem y_4 (i:Nat) {x:Str}{pos':Pos} (S:X.N.Nodup) (z:YE X e F) (hi:X.N[i]?=some x:=by rfl) (O:Loc X.env.scope x:=by first | exact Or.inl rfl | exact Or.inr rfl) (Y:swapsWith e (some (.Name x pos')) pos.line X.env=pure false:=by rfl)
  (hf:X.fn x=true\/X.env.scope.names.lookup x=some .local:=by first | exact .inl rfl | exact .inr rfl):YS X (.Assign [.Name x pos'] e pos) (d_4 i F):=⟨o_6 i S z.go hi O Y hf⟩
theorem as4 (z:YE X e F):YS X (.Return (some e) pos) (d_8 F):=⟨f_8 z.go⟩
theorem yif (z:XT X e T) (ha:YSs X ss B) (hb:YSs X body C):YS X (.If e ss body pos) (sIf T B C):=⟨q_1 z ha.go hb.go⟩
theorem aR7 {g:GD}{p pos':Pos} (hm:X.mg "range"=none) (Z:XG X b g) (ha:XE X a F) (hb:YSs X body B) (O:Gl X "range":=by rfl) (hp:PassesOwn (model X.prog X.w) X.A X.env X.xe:=by exact PassesOwn.never) (S:X.calm=true:=by rfl)
  (z:starEach [a] X.env=[(false,eval a X.env)]:=by rfl) (Y:∀ x,foldedSetIterable (.Call (.Name "range" p) [a] [] pos') X.env x=pure x:=by intro _;rfl):YS X (.For b (.Call (.Name "range" p) [a] [] pos') body [] pos) (y_9 g (ag1 F) B):=⟨O_3 hm Z ha hb.go O hp S z Y⟩
end
end Fx
namespace Fx
open PySem
noncomputable section
noncomputable def az2:FS :=
 (b_2 (sIf (tOr (tNot (tV (eTy .str (eV 0)))) (tNot (tB (e3 dLe dLe (zI 1) (eF G_7 (aC (eV 0) aN)) (zI 8)))))
 (d_8 (eC (.bl false)))
 sN)
 (d_8 (eF bs1 (aC (eLC [] (eV 0) tYes (e2 aO6 (eV 0) (zT "abcdefghijklmnopqrstuvwxyz"))) aN))))
noncomputable def x_0:List D->Option D:=fnD 1 0 az2
noncomputable def w_5:FS :=
 (d_8 (e2 dEq (e2 aO6 (eV 1) (e2 b_1 (eV 0) (zI 1))) (e2 dEq (e2 b_1 (eV 0) (zI 0)) (zT "only"))))
noncomputable def d_6:List D->Option D:=fnD 2 0 w_5
noncomputable def r_7:List D->Option D:=fnD 2 1 λ _=>none
noncomputable def N_6:FS :=
 (b_2 (sIf (tAnd (tB (e2 dEq (e2 b_1 (eV 0) (zI 0)) (zT "but"))) (tB (e2 dEq (e2 b_1 (eV 1) (zI 0)) (zT "but"))))
 (d_8 A_3)
 sN)
 (b_2 (sIf (tB (e2 dEq (e2 b_1 (eV 0) (zI 0)) (zT "but")))
 (d_8 (eF r_7 (aC (eV 1) (aC (eV 0) aN))))
 sN)
 (b_2 (d_4 2 (eF ac4 (aC (eLC [1] (e2 b_1 (eV 0) (zI 1)) (tV (eF d_6 (aC (eV 1) (aC (eV 0) aN)))) (eV 0)) aN)))
 (d_8 (eIf (tV (eV 2)) (l_2 (aC (zT "only") (aC (eV 2) aN))) (eC .non))))))
noncomputable def r_6:List D->Option D:=fnD 2 1 N_6
noncomputable def W_9:FS :=
 (b_2 (sIf (tAnd (tB (e2 dEq (e2 b_1 (eV 0) (zI 0)) (zT "but"))) (tB (e2 dEq (e2 b_1 (eV 1) (zI 0)) (zT "but"))))
 (d_8 A_3)
 sN)
 (b_2 (sIf (tB (e2 dEq (e2 b_1 (eV 0) (zI 0)) (zT "but")))
 (d_8 (eF r_6 (aC (eV 1) (aC (eV 0) aN))))
 sN)
 (b_2 (d_4 2 (eF ac4 (aC (eLC [1] (e2 b_1 (eV 0) (zI 1)) (tV (eF d_6 (aC (eV 1) (aC (eV 0) aN)))) (eV 0)) aN)))
 (d_8 (eIf (tV (eV 2)) (l_2 (aC (zT "only") (aC (eV 2) aN))) (eC .non))))))
noncomputable def o_2:List D->Option D:=fnD 2 1 W_9
noncomputable def o_8:FS :=
 (b_2 (sIf (tNot (tB (e3 dLe dLt (zI 0) (eV 3) (eV 2))))
 (d_8 (eC .non))
 sN)
 (b_2 (d_4 4 (eIf (tB (e2 dIs (eV 0) (eC .non))) (eC .non) (e2 w_3 (eV 0) (e2 p_7 (e2 W_5 (eV 3) (eV 0)) (eV 2)))))
 (b_2 (d_4 5 (eIf (tB (e2 dIs (eV 1) (eC .non))) (eC .non) (e2 W_5 (eV 1) (e2 p_7 (e2 W_5 (eV 1) (eV 3)) (eV 2)))))
 (b_2 (sIf (tOr (tB (e2 dIs (eV 4) (eC .non))) (tB (e2 dIs (eV 5) (eC .non))))
 (d_8 (l_2 (aC (eV 4) (aC (eV 5) (aC (eV 2) (aC (eV 3) aN))))))
 sN)
 (b_2 (sIf (tB (e2 dGt (eV 4) (eV 5)))
 (d_8 (eC .non))
 sN)
 (b_2 (sIf (tB (e2 dEq (eV 4) (eV 5)))
 (d_8 (l_2 (aC (eV 4) (aC (eV 5) (aC (zI 1) (aC (zI 0) aN))))))
 sN)
 (d_8 (l_2 (aC (eV 4) (aC (eV 5) (aC (eV 2) (aC (eV 3) aN))))))))))))
noncomputable def a_9:List D->Option D:=fnD 4 2 o_8
noncomputable def f_3:FS :=
 (d_8 (ax5 (eOr (e2 dIs (eV 1) (eC .non)) (e2 dLe (eV 1) (eV 0))) (eOr (e2 dIs (eV 2) (eC .non)) (e2 dLe (eV 0) (eV 2)))))
noncomputable def b_7:List D->Option D:=fnD 3 0 f_3
noncomputable def x_7:FS :=
 (d_8 (ax5 (eF b_7 (aC (eV 1) (aC (e2 b_1 (eV 0) (zI 0)) (aC (e2 b_1 (eV 0) (zI 1)) aN)))) (e2 dEq (e2 p_7 (eV 1) (e2 b_1 (eV 0) (zI 2))) (e2 b_1 (eV 0) (zI 3)))))
noncomputable def j_7:List D->Option D:=fnD 2 0 x_7
noncomputable def p_2:FS :=
 (b_2 (sIf (tOr (tB (e2 dIs (eV 0) (eC .non))) (tB (e2 dIs (eV 1) (eC .non))))
 (d_8 (eIf (tB (e2 dIs (eV 0) (eC .non))) (eV 1) (eV 0)))
 sN)
 (d_8 (eF az4 (aC (eV 0) (aC (eV 1) aN)))))
noncomputable def d_9:List D->Option D:=fnD 2 0 p_2
noncomputable def n_1:FS :=
 (b_2 (sIf (tOr (tB (e2 dIs (eV 0) (eC .non))) (tB (e2 dIs (eV 1) (eC .non))))
 (d_8 (eIf (tB (e2 dIs (eV 0) (eC .non))) (eV 1) (eV 0)))
 sN)
 (d_8 (eF aP4 (aC (eV 0) (aC (eV 1) aN)))))
noncomputable def b_8:List D->Option D:=fnD 2 0 n_1
noncomputable def o_5:FS :=
 (d_8 (eF a_9 (aC (eF d_9 (aC (e2 b_1 (eV 0) (zI 0)) (aC (eV 1) aN))) (aC (eF b_8 (aC (e2 b_1 (eV 0) (zI 1)) (aC (eV 2) aN))) (aC (e2 b_1 (eV 0) (zI 2)) (aC (e2 b_1 (eV 0) (zI 3)) aN))))))
noncomputable def a_5:List D->Option D:=fnD 3 0 o_5
noncomputable def t_7:FS :=
 (d_8 (eF a_5 (aC (eV 0) (aC (e2 w_3 (eV 1) (zI 1)) (aC (eC .non) aN)))))
noncomputable def d_2:List D->Option D:=fnD 2 0 t_7
noncomputable def t_6:FS :=
 (d_8 (eF a_5 (aC (eV 0) (aC (eC .non) (aC (e2 W_5 (eV 1) (zI 1)) aN)))))
noncomputable def d_1:List D->Option D:=fnD 2 0 t_6
noncomputable def G_3:FS :=
 (b_2 (d_4 3 (eLC [2,1] (bp1 (eV 0) oN (oS (zI 2))) tYes (eIf (tB (e2 dIs (eV 0) (eC .non))) (eC .non) (e2 w_3 (e2 T_7 (eV 2) (eV 0)) (eV 1)))))
 (b_2 (sIf (tB (e2 dLt (eV 1) (zI 0)))
 (d_4 3 (w_7 (aC (e2 b_1 (eV 3) (zI 1)) (aC (e2 b_1 (eV 3) (zI 0)) aN))))
 sN)
 (b_2 (d_4 4 (e2 T_7 (eF be7 (aC (eV 1) aN)) (e2 b_1 (eV 0) (zI 2))))
 (d_8 (eF a_9 (aC (e2 b_1 (eV 3) (zI 0)) (aC (e2 b_1 (eV 3) (zI 1)) (aC (eV 4) (aC (e2 p_7 (e2 w_3 (e2 T_7 (eV 1) (e2 b_1 (eV 0) (zI 3))) (eV 2)) (eV 4)) aN)))))))))
noncomputable def g_6:List D->Option D:=fnD 3 2 G_3
abbrev s_6:FS :=
 (b_2 (d_4 6 (e2 q_4 (eV 2) (eV 4)))
 (b_2 (d_4 7 (e2 W_5 (eV 2) (e2 T_7 (eV 6) (eV 4))))
 (b_2 (d_4 2 (eV 4))
 (b_2 (d_4 4 (eV 7))
 (b_2 (d_4 7 (e2 W_5 (eV 3) (e2 T_7 (eV 6) (eV 5))))
 (b_2 (d_4 3 (eV 5))
 (d_4 5 (eV 7))))))))
abbrev s_5:FT :=
 (tB (e2 dNe (eV 4) (zI 0)))
noncomputable def u_7:FS :=
 (b_2 (d_4 2 (e2 p_7 (eV 0) (eV 1)))
 (b_2 (d_4 3 (zI 1))
 (b_2 (d_4 4 (eV 1))
 (b_2 (d_4 5 (zI 0))
 (b_2 (aB4 (λ ρ=>match ρ[1]? with | some (Sl.im (D.int m))=>m.toNat+2 | _=>0) s_5
 s_6)
 (d_8 (l_2 (aC (eV 2) (aC (eV 3) aN)))))))))
noncomputable def f_9:List D->Option D:=fnD 2 6 u_7
noncomputable def I_2:FS :=
 (b_2 (sIf (tB (e2 dEq (eV 1) (zI 0)))
 (d_8 A_3)
 sN)
 (b_2 (d_4 3 (eF f_9 (aC (eV 1) (aC (e2 b_1 (eV 0) (zI 2)) aN))))
 (b_2 (d_4 4 (e2 b_1 (eV 3) (zI 0)))
 (b_2 (d_4 5 (e2 W_5 (e2 b_1 (eV 0) (zI 3)) (eV 2)))
 (b_2 (sIf (tB (e2 dNe (e2 p_7 (eV 5) (eV 4)) (zI 0)))
 (d_8 (eC .non))
 sN)
 (b_2 (d_4 6 (e2 q_4 (e2 b_1 (eV 0) (zI 2)) (eV 4)))
 (b_2 (d_4 7 (eIf (tB (e2 dGt (eV 1) (zI 0))) (w_7 (aC (e2 b_1 (eV 0) (zI 0)) (aC (e2 b_1 (eV 0) (zI 1)) aN))) (w_7 (aC (e2 b_1 (eV 0) (zI 1)) (aC (e2 b_1 (eV 0) (zI 0)) aN)))))
 (b_2 (d_4 8 (eIf (tB (e2 dIs (e2 b_1 (eV 7) (zI 0)) (eC .non))) (eC .non) (e1 ab6 (e2 q_4 (e2 W_5 (eV 2) (e2 b_1 (eV 7) (zI 0))) (eV 1)))))
 (b_2 (d_4 9 (eIf (tB (e2 dIs (e2 b_1 (eV 7) (zI 1)) (eC .non))) (eC .non) (e2 q_4 (e2 W_5 (e2 b_1 (eV 7) (zI 1)) (eV 2)) (eV 1))))
 (d_8 (eF a_9 (aC (eV 8) (aC (eV 9) (aC (eV 6) (aC (e2 p_7 (e2 T_7 (e2 q_4 (eV 5) (eV 4)) (e2 b_1 (eV 3) (zI 1))) (eV 6)) aN)))))))))))))))
noncomputable def i_2:List D->Option D:=fnD 3 7 I_2
noncomputable def v_2:FS :=
 (b_2 (d_4 2 (eF i_2 (aC (eV 1) (aC (e2 b_1 (eV 0) (zI 2)) (aC (e2 b_1 (eV 0) (zI 3)) aN)))))
 (b_2 (sIf (tB (e2 dIs (eV 2) (eC .non)))
 (d_8 (eC .non))
 sN)
 (d_8 (eF a_5 (aC (eF g_6 (aC (eV 2) (aC (e2 b_1 (eV 0) (zI 2)) (aC (e2 b_1 (eV 0) (zI 3)) aN)))) (aC (e2 b_1 (eV 0) (zI 0)) (aC (e2 b_1 (eV 0) (zI 1)) aN)))))))
noncomputable def i_1:List D->Option D:=fnD 2 1 v_2
noncomputable def k_1:FS :=
 (b_2 (sIf (tOr (tB (e2 dIs (eV 0) (eC .non))) (tB (e2 dIs (eV 3) (eC .non))))
 (d_8 (eC .non))
 sN)
 (b_2 (d_4 1 (eF az4 (aC (eV 1) (aC (zI 0) aN))))
 (b_2 (sIf (tAnd (tB (e2 n_3 (eV 2) (eC .non))) (tB (e2 dLe (eV 2) (eV 1))))
 (d_8 (eC .non))
 sN)
 (d_8 (l_2 (aC (eV 0) (aC (eV 1) (aC (eV 2) (aC (eV 3) aN)))))))))
noncomputable def b_3:List D->Option D:=fnD 4 0 k_1
noncomputable def u_0:FS :=
 (b_2 (d_4 2 (e2 b_1 (eV 1) (zI 0)))
 (b_2 (sIf (tOr (tB (e2 dLt (eV 2) (e2 b_1 (eV 0) (zI 1)))) (tAnd (tB (e2 n_3 (e2 b_1 (eV 0) (zI 2)) (eC .non))) (tB (e2 dGe (eV 2) (e2 b_1 (eV 0) (zI 2))))))
 (d_8 (eC (.bl false)))
 sN)
 (d_8 (ax5 (eF d_6 (aC (e2 b_1 (eV 0) (zI 0)) (aC (e2 b_1 (eV 1) (zI 1)) aN))) (eF j_7 (aC (e2 b_1 (eV 0) (zI 3)) (aC (e2 b_1 (eV 1) (zI 2)) aN)))))))
noncomputable def h_5:List D->Option D:=fnD 2 1 u_0
noncomputable def u_6:FS :=
 (b_2 (d_4 2 (eF o_2 (aC (e2 b_1 (eV 0) (zI 0)) (aC (e2 b_1 (eV 1) (zI 0)) aN))))
 (b_2 (d_4 3 (eF i_1 (aC (e2 b_1 (eV 0) (zI 3)) (aC (e2 b_1 (eV 1) (zI 3)) aN))))
 (d_8 (eF b_3 (aC (eV 2) (aC (eF az4 (aC (e2 b_1 (eV 0) (zI 1)) (aC (e2 b_1 (eV 1) (zI 1)) aN))) (aC (eF b_8 (aC (e2 b_1 (eV 0) (zI 2)) (aC (e2 b_1 (eV 1) (zI 2)) aN))) (aC (eV 3) aN))))))))
noncomputable def i_3:List D->Option D:=fnD 2 2 u_6
noncomputable def G_6:FS :=
 (b_2 (sIf (tB (e2 dIs (eV 1) (eC .non)))
 (d_8 (w_7 aN))
 sN)
 (b_2 (d_4 2 (eLC [1] (eV 0) tYes (eF i_3 (aC (eV 0) (aC (eV 1) aN)))))
 (d_8 (eLC [] (eV 2) (tB (e2 n_3 (eV 0) (eC .non))) (eV 0)))))
noncomputable def o_4:List D->Option D:=fnD 2 1 G_6
abbrev M_4:FS :=
 (sIf (tB (e2 dEq (e2 b_1 (eV 2) (zI 1)) (eV 1)))
 (d_8 (eV 2))
 sN)
noncomputable def W_8:FS :=
 (b_2 (ar8 (gN 2) (eV 0)
 M_4)
 (d_8 (eC .non)))
noncomputable def e_4:List D->Option D:=fnD 2 1 W_8
noncomputable def u_5:FS :=
 (d_8 (ax5 (eTy .int (eV 0)) (bg3 (eTy .bool (eV 0)))))
noncomputable def o_3:List D->Option D:=fnD 1 0 u_5
noncomputable def q_5:FS :=
 (b_2 (d_4 2 (e2 b_1 (eV 0) (zI 3)))
 (b_2 (sIf (tB (e2 dEq (e2 b_1 (eV 0) (zI 0)) (zT "fixed")))
 (d_8 (w_7 (aC (e2 q_4 (eV 1) (e2 b_1 (eV 2) (zI 0))) aN)))
 sN)
 (b_2 (sIf (tB (e2 dEq (e2 b_1 (eV 0) (zI 0)) (zT "slide")))
 (d_8 (bg4 (e2 w_3 (e2 q_4 (e2 W_5 (eV 1) (e2 b_1 (eV 2) (zI 0))) (e2 b_1 (eV 2) (zI 1))) (zI 1)) (e2 w_3 (e2 q_4 (eV 1) (e2 b_1 (eV 2) (zI 1))) (zI 1))))
 sN)
 (d_8 (w_7 (aC (zI 0) aN))))))
noncomputable def e_9:List D->Option D:=fnD 2 1 q_5
noncomputable def q_0:FS :=
 (b_2 (sIf (tB (e2 dEq (eV 0) (zT "count")))
 (d_8 (eF G_7 (aC (eV 1) aN)))
 sN)
 (b_2 (sIf (tB (e2 dEq (eV 0) (zT "sum")))
 (d_8 (eF be4 (aC (eV 1) aN)))
 sN)
 (d_8 (eIf (tB (e2 dEq (eV 0) (zT "most"))) (eF az4 (aC (eV 1) aN)) (eF aP4 (aC (eV 1) aN))))))
noncomputable def c_0:List D->Option D:=fnD 2 0 q_0
noncomputable def v_1:FS :=
 (b_2 (sTN 2)
 (b_2 (sGT 2 3 4 (eV 1) (eF e_9 (aC (eV 0) (aC (e2 b_1 (eV 3) (zI 0)) aN))))
 (sFT 2 (d_8 (eLK [2,0] (eV 2) tYes (l_2 (aC (eV 0) (aC (eF c_0 (aC (e2 b_1 (e2 b_1 (eV 2) (zI 3)) (e1 ab6 (zI 1))) (aC (e2 ax8 (eV 1) (eV 0)) aN))) aN))))))))
noncomputable def i_0:List D->Option D:=fnD 2 3 v_1
noncomputable def A_6:FS :=
 (d_8 (eF aq4 (aC (eIf (tB (e2 dEq (e2 b_1 (eV 0) (zI 0)) (zT "gaps"))) A_3 (eF i_0 (aC (eV 0) (aC (eV 1) aN)))) aN)))
noncomputable def m_7:List D->Option D:=fnD 2 0 A_6
noncomputable def n_2:FS :=
 (b_2 (sIf (tOr (tB (e2 dIs (eV 1) (eC .non))) (tOr (tNot (tV (e2 b_1 (eV 0) (zI 3)))) (tV (eF b_7 (aC (eV 1) (aC (e2 b_1 (e2 b_1 (eV 0) (zI 3)) (zI 0)) (aC (e2 b_1 (e2 b_1 (eV 0) (zI 3)) (zI 1)) aN)))))))
 (d_8 (eV 1))
 sN)
 (d_8 (eC .non)))
noncomputable def b_9:List D->Option D:=fnD 2 0 n_2
noncomputable def G_5:FS :=
 (d_8 (eF b_3 (aC (l_2 (aC (zT "only") (aC (l_2 (aC (eV 0) aN)) aN))) (aC (eV 1) (aC (eV 2) (aC (eC (.tup [.non,.non,(.int 1),(.int 0)])) aN))))))
noncomputable def h_4:List D->Option D:=fnD 3 0 G_5
noncomputable def q_6:FS :=
 (b_2 (d_4 3 (e2 b_1 (eV 0) (zI 3)))
 (b_2 (sIf (tB (e2 dEq (e2 b_1 (eV 0) (zI 0)) (zT "fixed")))
 (d_8 (eF h_4 (aC (eV 1) (aC (e2 T_7 (eV 2) (e2 b_1 (eV 3) (zI 0))) (aC (e2 T_7 (e2 w_3 (eV 2) (zI 1)) (e2 b_1 (eV 3) (zI 0))) aN)))))
 sN)
 (b_2 (sIf (tB (e2 dEq (e2 b_1 (eV 0) (zI 0)) (zT "slide")))
 (d_8 (eF h_4 (aC (eV 1) (aC (e2 T_7 (eV 2) (e2 b_1 (eV 3) (zI 1))) (aC (e2 w_3 (e2 T_7 (eV 2) (e2 b_1 (eV 3) (zI 1))) (e2 b_1 (eV 3) (zI 0))) aN)))))
 sN)
 (d_8 (eF h_4 (aC (eV 1) (aC (zI 0) (aC (eC .non) aN))))))))
noncomputable def b_6:List D->Option D:=fnD 3 1 q_6
noncomputable def x_8:FS :=
 (b_2 (sIf (tOr (tNot (tV (eF x_0 (aC (eV 1) aN)))) (tNot (tV (eF o_3 (aC (eV 2) aN)))))
 (d_8 (eC (.bl false)))
 sN)
 (b_2 (sIf (tB (e2 dEq (e2 b_1 (eV 0) (zI 0)) (zT "ever")))
 (d_8 (e2 dEq (eV 2) (zI 0)))
 sN)
 (b_2 (sIf (tB (e2 dEq (e2 b_1 (eV 0) (zI 0)) (zT "gaps")))
 (d_8 (e2 dGe (eV 2) (zI 0)))
 sN)
 (d_8 (e2 n_3 (eF b_6 (aC (eV 0) (aC (eV 1) (aC (eV 2) aN)))) (eC .non))))))
noncomputable def i_9:List D->Option D:=fnD 3 0 x_8
noncomputable def A_7:FS :=
 (b_2 (d_4 4 (eF e_4 (aC (eV 0) (aC (eV 1) aN))))
 (sIf (tOr (tB (e2 dIs (eV 4) (eC .non))) (tOr (tB (e2 dNe (e2 b_1 (eV 4) (zI 0)) (zT "ask"))) (tNot (tV (eF i_9 (aC (eF e_4 (aC (eV 0) (aC (e2 b_1 (e2 b_1 (eV 4) (zI 2)) (zI 0)) aN))) (aC (eV 2) (aC (eV 3) aN))))))))
 sNo
 sN))
noncomputable def m_8:List D->Option D:=fnD 4 1 A_7
noncomputable def G_2:FS :=
 (b_2 (sIf (tB (e2 dIs (eV 0) (eC .non)))
 (d_8 (w_7 aN))
 sN)
 (d_8 (eLC [0] (eV 1) (tV (eF h_5 (aC (eV 1) (aC (eV 0) aN)))) (eV 0))))
noncomputable def l_3:List D->Option D:=fnD 2 0 G_2
noncomputable def w_6:FS :=
 (b_2 (d_4 3 (eLC [] (eF l_3 (aC (eV 1) (aC (eV 2) aN))) tYes (e2 b_1 (eV 0) (zI 2))))
 (d_8 (eIf (tV (eV 3)) (eF c_0 (aC (e2 b_1 (e2 b_1 (eV 0) (zI 3)) (e1 ab6 (zI 1))) (aC (eV 3) aN))) (eC .non))))
noncomputable def l_5:List D->Option D:=fnD 3 1 w_6
noncomputable def j_1:FS :=
 (b_2 (sIf (tB (e2 dIs (eV 1) (eC .non)))
 (d_8 (eV 2))
 sN)
 (d_8 (eIf (tB (e2 dEq (eV 0) (zT "most"))) (eF d_2 (aC (eV 2) (aC (eV 1) aN))) (eF d_1 (aC (eV 2) (aC (eV 1) aN))))))
noncomputable def c_3:List D->Option D:=fnD 3 0 j_1
noncomputable def b_0:FS :=
 (b_2 (d_4 4 (bd0 (e2 b_1 (eV 0) (zI 3)) (l_2 (aC (eC .non) (aC (eC .non) aN)))))
 (b_2 (sIf (tB (e2 dEq (eV 1) (zT "count")))
 (b_2 (d_4 6 (ax5 (e2 n_3 (eV 2) (eC .non)) (ax5 (e2 n_3 (e2 b_1 (eV 4) (zI 1)) (eC .non)) (e2 dGt (eV 2) (e2 b_1 (eV 4) (zI 1))))))
 (d_8 (eIf (tV (eV 6)) (w_7 aN) (w_7 (aC (eV 3) aN)))))
 sN)
 (b_2 (sIf (tAnd (tB (e2 dEq (eV 1) (zT "sum"))) (tB (e2 dIs (eV 2) (eC .non))))
 (d_8 (w_7 (aC (eV 3) aN)))
 sN)
 (b_2 (sIf (tB (e2 dEq (eV 1) (zT "sum")))
 (b_2 (d_4 7 (w_7 (aC (eF d_2 (aC (eV 3) (aC (zI 0) aN))) (aC (eF d_1 (aC (eV 3) (aC (zI 0) aN))) aN))))
 (d_8 (eLC [] (eV 7) (tB (e2 n_3 (eV 0) (eC .non))) (eV 0))))
 sN)
 (b_2 (d_4 5 (eF c_3 (aC (eV 1) (aC (eV 2) (aC (eV 3) aN)))))
 (b_2 (sIf (tAnd (tB (e2 n_3 (eV 5) (eC .non))) (tB (e2 dIs (eF b_9 (aC (eV 0) (aC (eV 2) aN))) (eC .non))))
 (d_4 5 (eF a_5 (aC (eV 5) (aC (e2 b_1 (eV 4) (zI 0)) (aC (e2 b_1 (eV 4) (zI 1)) aN)))))
 sN)
 (d_8 (eIf (tB (e2 dIs (eV 5) (eC .non))) (w_7 aN) (w_7 (aC (eV 5) aN))))))))))
noncomputable def a_2:List D->Option D:=fnD 4 4 b_0
abbrev j_9:FS :=
 (at8 4 (eF b_3 (aC (e2 b_1 (eV 5) (zI 0)) (aC (e2 b_1 (eV 5) (zI 1)) (aC (e2 b_1 (eV 5) (zI 2)) (aC (eV 6) aN))))))
abbrev g_8:FS :=
 (ar8 (gN 6) (eF a_2 (aC (eV 0) (aC (eV 1) (aC (eV 2) (aC (e2 b_1 (eV 5) (zI 3)) aN)))))
 j_9)
noncomputable def t_5:FS :=
 (b_2 (aB5 4 (aC2 aN))
 (b_2 (ar8 (gN 5) (eV 3)
 g_8)
 (aG2 4 (d_8 (eV 4)))))
noncomputable def g_5:List D->Option D:=fnD 4 3 t_5
noncomputable def s_3:FS :=
 (d_8 (eF g_5 (aC (eV 0) (aC (e2 b_1 (e2 b_1 (eV 1) (zI 3)) (e1 ab6 (zI 1))) (aC (eF l_5 (aC (eV 1) (aC (eV 2) (aC (eV 3) aN)))) (aC (eF o_4 (aC (eV 4) (aC (eV 2) aN))) aN))))))
noncomputable def e_7:List D->Option D:=fnD 5 0 s_3
noncomputable def t_9:FS :=
 (b_2 (sIf (tB (e2 dEq (e2 b_1 (eV 1) (zI 0)) (zT "gaps")))
 (d_8 A_3)
 sN)
 (d_8 (eF e_7 (aC (eV 0) (aC (eV 1) (aC (eF b_6 (aC (eV 1) (aC (eV 2) (aC (eV 3) aN)))) (aC (eV 4) (aC (eV 5) aN))))))))
noncomputable def g_7:List D->Option D:=fnD 6 0 t_9
noncomputable def X_0:FS :=
 (b_2 (d_4 2 (eF e_4 (aC (eV 0) (aC (eV 1) aN))))
 (b_2 (d_4 3 (eF e_4 (aC (eV 0) (aC (e2 b_1 (e2 b_1 (eV 2) (zI 2)) (zI 0)) aN))))
 (d_8 (l_2 (aC (eV 2) (aC (eV 3) (aC (eF e_4 (aC (eV 0) (aC (e2 b_1 (e2 b_1 (eV 3) (zI 2)) (zI 0)) aN))) aN)))))))
noncomputable def p_8:List D->Option D:=fnD 2 2 X_0
noncomputable def A_8:FS :=
 (b_2 (sX (eF m_8 (aC (eV 0) (aC (eV 1) (aC (eV 2) (aC (eV 3) aN))))))
 (b_2 (d_4 6 (eF p_8 (aC (eV 0) (aC (eV 1) aN))))
 (b_2 (sIf (tB (e2 dEq (e2 b_1 (e2 b_1 (eV 6) (zI 2)) (zI 0)) (zT "pair")))
 (b_2 (d_4 7 A_3)
 (d_4 8 A_3))
 (d_4 8 (eF g_7 (aC (e2 b_1 (eV 6) (zI 0)) (aC (e2 b_1 (eV 6) (zI 1)) (aC (eV 2) (aC (eV 3) (aC (eV 4) (aC (eV 5) aN)))))))))
 (d_8 (e2 dGt (eF G_7 (aC (eV 8) aN)) (zI 0))))))
noncomputable def j_0:List D->Option D:=fnD 6 3 A_8
noncomputable def r_8:FS :=
 (b_2 (sIf (tB (e2 dLt (eV 1) (eF G_7 (aC (eV 0) aN))))
 (d_8 (e2 b_1 (eV 0) (eV 1)))
 sN)
 (d_8 (zI 0)))
noncomputable def f_0:List D->Option D:=fnD 2 0 r_8
abbrev k_9:FS :=
 (b_2 (at8 2 (e2 p_7 (eV 6) (zI 10000019)))
 (d_4 6 (e2 q_4 (eV 6) (zI 10000019))))
abbrev k_8:FS :=
 (b_2 (d_4 3 (e2 w_3 (e2 w_3 (e2 p_7 (e2 T_7 (eV 3) (e2 w_3 (e2 q_4 (eV 3) (zI 1009)) (zI 69621))) (zI 2147483647)) (eV 5)) (zI 1)))
 (b_2 (d_4 4 (e2 p_7 (e2 T_7 (eV 4) (zI 48271)) (zI 2147483629)))
 (at8 2 (e2 w_3 (eV 3) (eV 4)))))
noncomputable def t_8:En->Option MO :=
 (av8 (aB5 2 (aC2 aN))
 (nIf (tB (e2 dGe (eV 0) (e2 br3 (zI 10) (zI 40))))
 (av8 (d_4 6 (e2 q_4 (eV 0) (zI 7)))
 (av8 (y_9 (gN 5) (ag1 (eV 1)) k_9)
 (av9 2)))
 (av8 (d_4 3 (e2 p_7 (e2 T_7 (e2 w_3 (e2 p_7 (eV 0) (zI 2147483647)) (zI 1)) (zI 48271)) (zI 2147483647)))
 (av8 (d_4 4 (e2 p_7 (e2 T_7 (e2 w_3 (e2 p_7 (eV 0) (zI 1000003)) (zI 1)) (zI 69621)) (zI 2147483629)))
 (av8 (y_9 (gN 5) (ag1 (eV 1)) k_8)
 (aw1 2))))))
noncomputable def h_0:List D->Option MO:=fnN 2 5 t_8
noncomputable def u_4:FS :=
 (b_2 (d_4 3 (e2 b_1 (w_7 (aC (zT "count") (aC (zT "sum") (aC (zT "most") (aC (zT "least") aN))))) (e2 p_7 (e2 q_4 (eQ 0) (zI 3)) (zI 4))))
 (b_2 (d_4 4 (e2 b_1 (w_7 (aC (zT "fixed") (aC (zT "slide") (aC (zT "ever") aN)))) (e2 p_7 (e2 q_4 (eQ 0) (zI 3)) (zI 3))))
 (b_2 (sIf (tB (e2 dEq (eV 4) (zT "fixed")))
 (d_8 (l_2 (aC (zT "fixed") (aC (eV 1) (aC (l_2 (aC (eV 2) aN)) (aC (l_2 (aC (e2 w_3 (zI 1) (e2 p_7 (e2 q_4 (eQ 0) (zI 3)) (zI 5))) (aC (eV 3) aN))) aN))))))
 sN)
 (b_2 (sIf (tB (e2 dEq (eV 4) (zT "slide")))
 (b_2 (d_4 5 (e2 w_3 (zI 1) (e2 p_7 (e2 q_4 (eQ 0) (zI 3)) (zI 3))))
 (d_8 (l_2 (aC (zT "slide") (aC (eV 1) (aC (l_2 (aC (eV 2) aN)) (aC (l_2 (aC (e2 w_3 (e2 w_3 (eV 5) (zI 1)) (e2 p_7 (e2 q_4 (eQ 0) (zI 3)) (zI 4))) (aC (eV 5) (aC (eV 3) aN)))) aN)))))))
 sN)
 (d_8 (l_2 (aC (zT "ever") (aC (eV 1) (aC (l_2 (aC (eV 2) aN)) (aC (l_2 (aC (eV 3) aN)) aN))))))))))
noncomputable def j_8:MO->List D->Option (D×MO):=fnB 2 3 u_4
noncomputable def f_2:FS :=
 (b_2 (sIf (tOr (tB (e2 dEq (e2 b_1 (e2 b_1 (eV 1) (zI 3)) (e1 ab6 (zI 1))) (zT "sum"))) (tB (e2 dEq (e2 p_7 (e2 q_4 (eQ 0) (zI 3)) (zI 2)) (zI 0))))
 (d_8 (l_2 aN))
 sN)
 (b_2 (d_4 2 (e2 W_5 (e2 p_7 (e2 q_4 (eQ 0) (zI 3)) (zI 6)) (zI 2)))
 (b_2 (sIf (tB (e2 dEq (e2 b_1 (e2 b_1 (eV 1) (zI 3)) (e1 ab6 (zI 1))) (zT "count")))
 (d_4 2 (e2 w_3 (zI 1) (e2 p_7 (e2 q_4 (eQ 0) (zI 3)) (zI 4))))
 sN)
 (b_2 (d_4 3 (e2 w_3 (eV 2) (e2 p_7 (e2 q_4 (eQ 0) (zI 3)) (zI 4))))
 (b_2 (sIf (tB (e2 dEq (e2 p_7 (e2 q_4 (eQ 0) (zI 3)) (zI 4)) (zI 0)))
 (d_4 3 (eC .non))
 sN)
 (b_2 (sIf (tAnd (tB (e2 dEq (e2 p_7 (e2 q_4 (eQ 0) (zI 3)) (zI 4)) (zI 0))) (tB (e2 dNe (e2 b_1 (e2 b_1 (eV 1) (zI 3)) (e1 ab6 (zI 1))) (zT "count"))))
 (d_4 2 (eC .non))
 sN)
 (d_8 (l_2 (aC (eV 2) (aC (eV 3) aN))))))))))
noncomputable def b_4:MO->List D->Option (D×MO):=fnB 1 2 f_2
abbrev k_7:FS :=
 (at8 2 (l_2 (aC (e2 p_7 (e2 q_4 (eQ 0) (zI 3)) (zI 8)) (aC (e2 b_1 (w_7 (aC (zT "a") (aC (zT "b") aN))) (e2 p_7 (e2 q_4 (eQ 0) (zI 3)) (zI 2))) (aC (e2 W_5 (e2 p_7 (e2 q_4 (eQ 0) (zI 3)) (zI 6)) (zI 2)) aN)))))
noncomputable def A_4:FS :=
 (b_2 (aB5 2 (aC2 aN))
 (b_2 (y_9 (gN 3) (ag1 (e2 p_7 (e2 q_4 (eQ 0) (zI 3)) (eV 1))) k_7)
 (aG2 2 (d_8 (eF A_9 (aC (eV 2) aN))))))
noncomputable def i_7:MO->List D->Option (D×MO):=fnB 1 2 A_4
abbrev k_0:FS :=
 (b_2 (d_4 5 (w_7 (aC (l_2 (aC (zT "only") (aC (l_2 (aC (zT "a") aN)) aN))) (aC (l_2 (aC (zT "but") (aC (l_2 aN) aN))) (aC (l_2 (aC (zT "but") (aC (l_2 (aC (zT "a") aN)) aN))) (aC (l_2 (aC (zT "only") (aC (l_2 (aC (zT "a") (aC (zT "b") aN))) aN))) (aC (l_2 (aC (zT "but") (aC (l_2 (aC (zT "c") aN)) aN))) aN)))))))
 (b_2 (d_4 6 (e2 b_1 (eV 5) (e2 p_7 (e2 q_4 (eQ 0) (zI 3)) (zI 5))))
 (b_2 (d_4 7 (e2 p_7 (e2 q_4 (eQ 0) (zI 3)) (zI 9)))
 (b_2 (d_4 8 (e2 w_3 (e2 w_3 (eV 7) (zI 1)) (e2 p_7 (e2 q_4 (eQ 0) (zI 3)) (eV 2))))
 (b_2 (d_4 9 (e2 W_5 (e2 p_7 (e2 q_4 (eQ 0) (zI 3)) (zI 7)) (zI 3)))
 (b_2 (d_4 10 (e2 w_3 (zI 1) (e2 p_7 (e2 q_4 (eQ 0) (zI 3)) (zI 3))))
 (b_2 (d_4 11 (eF a_9 (aC (eV 9) (aC (e2 w_3 (eV 9) (e2 p_7 (e2 q_4 (eQ 0) (zI 3)) (eV 2))) (aC (eV 10) (aC (e2 p_7 (e2 q_4 (eQ 0) (zI 3)) (eV 10)) aN))))))
 (b_2 (d_4 12 (eF b_3 (aC (eV 6) (aC (eV 7) (aC (eV 8) (aC (eV 11) aN))))))
 (sIf (tB (e2 n_3 (eV 12) (eC .non)))
 (at8 3 (eV 12))
 sN)))))))))
noncomputable def G_4:FS :=
 (b_2 (aB5 3 (aC2 aN))
 (b_2 (y_9 (gN 4) (ag1 (e2 p_7 (e2 q_4 (eQ 0) (zI 3)) (eV 1))) k_0)
 (aG2 3 (d_8 (eV 3)))))
noncomputable def l_4:MO->List D->Option (D×MO):=fnB 2 10 G_4
abbrev e_8:FS :=
 (sIf (tB (e2 dEq (e2 p_7 (eV 8) (e2 b_1 (eV 6) (zI 2))) (e2 b_1 (eV 6) (zI 3))))
 (at8 2 (l_2 (aC (eV 7) (aC (eV 1) (aC (eV 8) aN)))))
 sN)
abbrev l_0:FS :=
 (y_9 (gN 8) (aB9 (e2 b_1 (eV 6) (zI 0)) (e2 w_3 (e2 b_1 (eV 6) (zI 1)) (zI 1))) e_8)
abbrev d_7:FS :=
 (sIf (tB (e2 dEq (e2 aO6 (eV 1) (e2 b_1 (eV 3) (zI 1))) (e2 dEq (e2 b_1 (eV 3) (zI 0)) (zT "only"))))
 (y_9 (gN 7) (aB9 (eV 4) (eV 5)) l_0)
 sN)
noncomputable def v_3:FS :=
 (b_2 (aB5 2 (aC2 aN))
 (b_2 (ar8 (gT [3,4,5,6]) (eV 0)
 d_7)
 (aG2 2 (d_8 (eV 2)))))
noncomputable def f_6:List D->Option D:=fnD 2 7 v_3
abbrev f_7:FS :=
 (sIf (tB (e2 dEq (eV 5) (eV 3)))
 (d_4 4 (eV 6))
 sN)
noncomputable def A_5:FS :=
 (b_2 (d_4 4 (eC .non))
 (b_2 (ar8 (gT [5,6]) (eF m_7 (aC (eV 1) (aC (eV 2) aN)))
 f_7)
 (d_8 (eF b_9 (aC (eV 0) (aC (eV 4) aN))))))
noncomputable def d_3:List D->Option D:=fnD 4 3 A_5
abbrev e_1:FS :=
 (sIf (tB (e2 dNe (eF d_3 (aC (eV 0) (aC (eV 1) (aC (eF A_9 (aC (e2 w_3 (eV 2) (e2 ax7 (w_7 (aC (eV 6) aN)) (eV 7))) aN)) (aC (eV 3) aN))))) (eV 5)))
 (d_8 (eC (.bl true)))
 sN)
abbrev e_0:FS :=
 (ar8 (gN 7) (w_7 (aC (zI 1) (aC (zI 2) (aC (zI 3) (aC (zI 4) aN)))))
 e_1)
noncomputable def w_4:FS :=
 (b_2 (d_4 5 (eF d_3 (aC (eV 0) (aC (eV 1) (aC (eV 2) (aC (eV 3) aN))))))
 (b_2 (ar8 (gN 6) (eV 4)
 e_0)
 (d_8 (eC (.bl false)))))
noncomputable def i_8:List D->Option D:=fnD 5 3 w_4
abbrev f_1:FS :=
 (b_2 (d_4 8 (bg5 [4,5] 5 1 (ag1 (e2 w_3 (zI 1) (e2 p_7 (e2 q_4 (eQ 5) (zI 3)) (zI 9)))) tYes (e2 b_1 (eV 1) (e2 p_7 (e2 q_4 (eQ 2) (zI 3)) (eF G_7 (aC (eV 1) aN))))))
 (sIf (tB (e2 dNe (eF d_3 (aC (eV 0) (aC (eV 1) (aC (eF A_9 (aC (e2 w_3 (eV 2) (eV 8)) aN)) (aC (eV 3) aN))))) (eV 6)))
 (d_8 (eC (.bl false)))
 sN))
noncomputable def s_4:FS :=
 (b_2 (d_4 6 (eF d_3 (aC (eV 0) (aC (eV 1) (aC (eV 2) (aC (eV 3) aN))))))
 (b_2 (y_9 (gN 7) (ag1 (zI 4)) f_1)
 (d_8 (eC (.bl true)))))
noncomputable def d_5:MO->List D->Option (D×MO):=fnL 5 3 s_4
noncomputable def aP3:FS :=
 (b_2 (aU3 1 h_0 (aC (eF f_0 (aC (eV 0) (aC (zI 0) aN))) (aC (zI 120) aN)))
 (b_2 (d_4 2 (eFb 1 j_8 (aC (zT "f") (aC (zT "x") aN))))
 (b_2 (d_4 3 (l_2 (aC (zT "ask") (aC (zT "q") (aC (l_2 (aC (zT "f") aN)) (aC (eFb 1 b_4 (aC (eV 2) aN)) aN))))))
 (b_2 (d_4 4 (w_7 (aC (l_2 (aC (zT "in") (aC (zT "x") (aC (l_2 aN) (aC (l_2 (aC (eC .non) (aC (eC .non) aN))) aN))))) (aC (eV 2) (aC (eV 3) aN)))))
 (b_2 (d_4 5 (eFb 1 i_7 (aC (zI 6) aN)))
 (b_2 (d_4 6 (eFb 1 l_4 (aC (zI 3) (aC (zI 6) aN))))
 (b_2 (d_4 7 (e2 b_1 (w_7 (aC (zT "a") (aC (zT "b") (aC (zT "zz") aN)))) (e2 p_7 (e2 q_4 (eQ 1) (zI 3)) (zI 3))))
 (b_2 (d_4 8 (e2 p_7 (e2 q_4 (eQ 1) (zI 3)) (zI 5)))
 (b_2 (sIf (tB (e2 dEq (e2 b_1 (eV 2) (zI 0)) (zT "ever")))
 (d_4 8 (zI 0))
 sN)
 (b_2 (d_4 9 (l_2 (aC (eF X_1 (aC (eV 5) aN)) (aC (eF X_1 (aC (eV 6) aN)) aN))))
 (b_2 (d_4 10 (eF j_0 (aC (eV 4) (aC (zT "q") (aC (eV 7) (aC (eV 8) (aC (e2 b_1 (eV 9) (zI 0)) (aC (e2 b_1 (eV 9) (zI 1)) aN))))))))
 (b_2 (sIf (tOr (tNot (tV (eTy .bool (eV 10)))) (tB (e2 dNe (eV 9) (l_2 (aC (eV 5) (aC (eV 6) aN))))))
 (d_8 (eC (.bl false)))
 sN)
 (b_2 (d_4 11 (eF f_6 (aC (eV 6) (aC (eV 7) aN))))
 (b_2 (sIf (tB (e2 dNe (eV 10) (eF i_8 (aC (eV 3) (aC (eV 2) (aC (eV 5) (aC (l_2 (aC (eV 7) (aC (eV 8) aN))) (aC (eV 11) aN))))))))
 (d_8 (eC (.bl false)))
 sN)
 (b_2 (sIf (tOr (tV (eV 10)) (tB (e2 dEq (eV 11) (w_7 aN))))
 (d_8 (eC (.bl true)))
 sN)
 (d_8 (eFb 1 d_5 (aC (eV 3) (aC (eV 2) (aC (eV 5) (aC (l_2 (aC (eV 7) (aC (eV 8) aN))) (aC (eV 11) aN))))))))))))))))))))))
noncomputable def ak6:List D->Option D:=fnD 1 11 aP3
end
end Fx
namespace Fx
open PySem PySem.Spec PyProof.Rows L2
noncomputable def top (i:Nat):Stmt:=PySem.Challenge.pw_latewell_k51_windows_turned_by_boxes.main.body.getD i (.Pass ⟨0,0,0,0⟩)
theorem xG {X:Cx}{k j:Nat}{x:Str}{g:List D → Option D}{A:FA}{p pos:Pos}{e:Expr}{es:List Expr} (G:DefOk X.prog X.w X.K X.mg X.base k x g) (Z:Room j X.A) (ha:XA X (e::es) A) (hk:k ≤ j:=by decide) (Y:Gl X x:=by rfl) (z:(x==("__debug__":Str))=false:=by decide)
  (S:starEach (e::es) X.env=(false,eval e X.env)::starEach es X.env:=by rfl) (O:(backTo pos (starEach es X.env)).any (·.1)=false:=by rfl):XE X (.Call (.Name x p) (e::es) [] pos) (eF g A):=xF G (Z.mono hk) ha Y z S O
structure Blt (w:World) (K:Frag) (mg:Str->Option Value):Prop where
 z_abs:mg "abs"=none
 z_len:mg "len"=none
 z_max:mg "max"=none
 z_min:mg "min"=none
 z_any:mg "any"=none
 z_all:mg "all"=none
 z_range:mg "range"=none
 z_isinstance:mg "isinstance"=none
 z_int:mg "int"=none
 z_bool:mg "bool"=none
 z_str:mg "str"=none
 z_tuple:mg "tuple"=none
 z_list:mg "list"=none
 z_sorted:mg "sorted"=none
 z_dict:mg "dict"=none
 z_set:mg "set"=none
 z_sum:mg "sum"=none
 z_zip:mg "zip"=none
 z_enumerate:mg "enumerate"=none
 z_reversed:mg "reversed"=none
 c_LETTERS:∃ t,mg "LETTERS"=some (.str "abcdefghijklmnopqrstuvwxyz" t)
 c_LONGEST:∃ t,mg "LONGEST"=some (.int 8 t)
 c_EVERY_VALUE:∃ a,mg "EVERY_VALUE"=some (.ref a) ∧ KV1 K (.tup [.non,.non,(.int 1),(.int 0)]) (.ref a)
 c_SHARES:∃ a,mg "SHARES"=some (.ref a) ∧ bK2 w K a [((Str.ofString "sum"),(.tup [(.int 1),(.int 1)])),((Str.ofString "less"),(.tup [(.int 1),(.int (-1))])),((Str.ofString "left"),(.tup [(.int 1),(.int 0)])),((Str.ofString "right"),(.tup [(.int 0),(.int 1)]))]
section
variable {P:Program}{w:World}{K:Frag}{mg:Str->Option Value}{base:Heap}
abbrev q_2:Stmt:=top 3
abbrev aa4:List Str:=["x"]
theorem S00:FnScope aa4 ["x"] (a_0 q_2):=⟨rfl,rfl,rfl,by decide +kernel,rfl,by decide +kernel,by decide +kernel⟩
theorem aj7 {f:Addr}{fd:FuncData} (F:Fun K "is_key" "is_key" q_2 f fd) (O:Binds K fd ["x"] []) (z:mg "is_key"=some (.ref f)) (T:Blt w K mg) :DefOk P w K mg base 1 "is_key" x_0 :=
 ⟨f,fd,["x"],e_5 F S00 rfl rfl (λ S A outer s H E Y =>
 (xsC (q_1 (xw (X_5 (O_2 (xtv (xty (t:=.str) T.z_isinstance T.z_str PyProof.Rows.boot_str (xv 0)) (λ _=>rfl))) (B_0 (O_2 (xt3 cLe cLe a_3 (xB x_5 rfl T.z_len PySem.boot_len (xaC (xv 0) xaN)) (bB8 T.c_LONGEST))))))
 (xs1 (f_8 xbl))
 xsN)
 (xs1 (f_8 (xB (aO9 rfl) rfl T.z_all PyProof.Rows.boot_all (xaC (xlc (sc:=a_0 q_2) rfl rfl (by show ScB aa4 (a_0 q_2) _ "sign" [] [];exact⟨rfl,rfl,by decide +kernel,by decide +kernel,rfl,by decide +kernel,by decide +kernel,rfl,by decide +kernel⟩) (xv 0) (λ _ _ _ _=>y_6) (λ _ _ _ _=>(O_1 br6 (xv 0) (bB7 T.c_LETTERS)))) xaN)))))),O,F.kp,z⟩
abbrev n_9:Stmt:=top 4
theorem S01:FnScope ["keys","key"] ["keys","key"] (a_0 n_9):=⟨rfl,rfl,rfl,by decide +kernel,rfl,by decide +kernel,by decide +kernel⟩
theorem Q_3 {f:Addr}{fd:FuncData} (F:Fun K "keys_hold" "keys_hold" n_9 f fd) (S:Binds K fd ["keys","key"] []) (O:mg "keys_hold"=some (.ref f)) (T:Blt w K mg) :DefOk P w K mg base 1 "keys_hold" d_6 :=
 ⟨f,fd,["keys","key"],e_5 F S01 rfl rfl (λ Y A outer s H E z =>
 (xs1 (f_8 (O_1 (cEq z.units) (O_1 br6 (xv 1) (c_2 (xv 0) a_3)) (O_1 (cEq z.units) (c_2 (xv 0) a_3) k_2))))),S,F.kp,O⟩
abbrev c_9:Stmt:=top 5
abbrev v_7:List Str:=["one","other","names"]
theorem S02:FnScope v_7 ["one","other"] (a_0 c_9):=⟨rfl,rfl,rfl,by decide +kernel,rfl,by decide +kernel,by decide +kernel⟩
theorem H_5 {f:Addr}{fd:FuncData} (F:Fun K "keys_meet" "keys_meet" c_9 f fd) (Y:Binds K fd ["one","other"] []) (O:mg "keys_meet"=some (.ref f)) (T:Blt w K mg):DefOk P w K mg base 2 "keys_meet" r_7 :=
 ⟨f,fd,["one","other"],e_5 F S02 rfl rfl (λ S A outer s H E Z=>λ _ _ _ _ _ _ z=>by obtain⟨_,_,_,_,_,e,_⟩:=z;exact nomatch e),Y,F.kp,O⟩
theorem H_4 {f:Addr}{fd:FuncData} (F:Fun K "keys_meet" "keys_meet" c_9 f fd) (bF:Binds K fd ["one","other"] []) (Y:mg "keys_meet"=some (.ref f)) (T:Blt w K mg) (z:DefOk P w K mg base 2 "keys_meet" r_7) (O:DefOk P w K mg base 1 "keys_hold" d_6):DefOk P w K mg base 3 "keys_meet" r_6 :=
 ⟨f,fd,["one","other"],e_5 F S02 rfl rfl (λ Z A outer s H E S =>
 (xsC (q_1 (xw (U_1 (xt (cEq S.units) (c_2 (xv 0) a_3) k_2) (C_9 (xt (cEq S.units) (c_2 (xv 1) a_3) k_2))))
 (xs1 (f_8 D_1))
 xsN)
 (xsC (q_1 (xt (cEq S.units) (c_2 (xv 0) a_3) k_2)
 (xs1 (f_8 (xG z S (xaC (xv 1) (xaC (xv 0) xaN)))))
 xsN)
 (xsC (o_6 2 S02.nd (xTy S_5 rfl T.z_tuple PyProof.Rows.boot_tuple (xaC (xlc (sc:=a_0 c_9) rfl rfl (by show ScB v_7 (a_0 c_9) _ "name" ["other"] [1];exact⟨rfl,rfl,by decide +kernel,by decide +kernel,rfl,by decide +kernel,by decide +kernel,rfl,by decide +kernel⟩) (c_2 (xv 0) a_3) (λ _ _ _ _=>(D_0 (xtv (xG O S (xaC (xv 1) (xaC (xv 0) xaN))) (λ _=>rfl)))) (λ _ _ _ _=>(xv 0))) xaN)))
 (xs1 (f_8 (xif (xtv (xv 2) (λ _=>rfl)) (N_9 (xaC k_2 (xaC (xv 2) xaN))) m_9))))))),bF,F.kp,Y⟩
theorem L_0 {f:Addr}{fd:FuncData} (F:Fun K "keys_meet" "keys_meet" c_9 f fd) (bF:Binds K fd ["one","other"] []) (Y:mg "keys_meet"=some (.ref f)) (T:Blt w K mg) (z:DefOk P w K mg base 3 "keys_meet" r_6) (O:DefOk P w K mg base 1 "keys_hold" d_6):DefOk P w K mg base 4 "keys_meet" o_2 :=
 ⟨f,fd,["one","other"],e_5 F S02 rfl rfl (λ Z A outer s H E S =>
 (xsC (q_1 (xw (U_1 (xt (cEq S.units) (c_2 (xv 0) a_3) k_2) (C_9 (xt (cEq S.units) (c_2 (xv 1) a_3) k_2))))
 (xs1 (f_8 D_1))
 xsN)
 (xsC (q_1 (xt (cEq S.units) (c_2 (xv 0) a_3) k_2)
 (xs1 (f_8 (xG z S (xaC (xv 1) (xaC (xv 0) xaN)))))
 xsN)
 (xsC (o_6 2 S02.nd (xTy S_5 rfl T.z_tuple PyProof.Rows.boot_tuple (xaC (xlc (sc:=a_0 c_9) rfl rfl (by show ScB v_7 (a_0 c_9) _ "name" ["other"] [1];exact⟨rfl,rfl,by decide +kernel,by decide +kernel,rfl,by decide +kernel,by decide +kernel,rfl,by decide +kernel⟩) (c_2 (xv 0) a_3) (λ _ _ _ _=>(D_0 (xtv (xG O S (xaC (xv 1) (xaC (xv 0) xaN))) (λ _=>rfl)))) (λ _ _ _ _=>(xv 0))) xaN)))
 (xs1 (f_8 (xif (xtv (xv 2) (λ _=>rfl)) (N_9 (xaC k_2 (xaC (xv 2) xaN))) m_9))))))),bF,F.kp,Y⟩
theorem Q_2 {f:Addr}{fd:FuncData} (F:Fun K "keys_meet" "keys_meet" c_9 f fd) (S:Binds K fd ["one","other"] []) (O:mg "keys_meet"=some (.ref f)) (T:Blt w K mg) (z:DefOk P w K mg base 1 "keys_hold" d_6):DefOk P w K mg base 4 "keys_meet" o_2:=L_0 F S O T (H_4 F S O T (H_5 F S O T) z) z
abbrev h_7:Stmt:=top 8
theorem S03:FnScope ["low","high","step","rest","first","last"] ["low","high","step","rest"] (a_0 h_7):=⟨rfl,rfl,rfl,by decide +kernel,rfl,by decide +kernel,by decide +kernel⟩
theorem E_2 {f:Addr}{fd:FuncData} (F:Fun K "stretch_made" "stretch_made" h_7 f fd) (S:Binds K fd ["low","high","step","rest"] []) (z:mg "stretch_made"=some (.ref f)) (T:Blt w K mg) :DefOk P w K mg base 1 "stretch_made" a_9 :=
 ⟨f,fd,["low","high","step","rest"],e_5 F S03 rfl rfl (λ Y A outer s H E O =>
 (xsC (q_1 (O_2 (xt3 cLe cLt a_3 (xv 3) (xv 2)))
 (xs1 (f_8 m_9))
 xsN)
 (xsC (o_6 4 S03.nd (xif (xt cIs (xv 0) m_9) m_9 (xb y_2 (xv 0) (xb q_8 (xb ae6 (xv 3) (xv 0)) (xv 2)))))
 (xsC (o_6 5 S03.nd (xif (xt cIs (xv 1) m_9) m_9 (xb ae6 (xv 1) (xb q_8 (xb ae6 (xv 1) (xv 3)) (xv 2)))))
 (xsC (q_1 (xw (X_5 (xt cIs (xv 4) m_9) (B_0 (xt cIs (xv 5) m_9))))
 (xs1 (f_8 (N_9 (xaC (xv 4) (xaC (xv 5) (xaC (xv 2) (xaC (xv 3) xaN)))))))
 xsN)
 (xsC (q_1 (xt cGt (xv 4) (xv 5))
 (xs1 (f_8 m_9))
 xsN)
 (xsC (q_1 (xt (cEq O.units) (xv 4) (xv 5))
 (xs1 (f_8 (N_9 (xaC (xv 4) (xaC (xv 5) (xaC a_3 (xaC a_3 xaN)))))))
 xsN)
 (xs1 (f_8 (N_9 (xaC (xv 4) (xaC (xv 5) (xaC (xv 2) (xaC (xv 3) xaN)))))))))))))),S,F.kp,z⟩
abbrev m_3:Stmt:=top 9
theorem S04:FnScope ["v","low","high"] ["v","low","high"] (a_0 m_3):=⟨rfl,rfl,rfl,by decide +kernel,rfl,by decide +kernel,by decide +kernel⟩
theorem L_7 {f:Addr}{fd:FuncData} (F:Fun K "is_between" "is_between" m_3 f fd) (O:Binds K fd ["v","low","high"] []) (z:mg "is_between"=some (.ref f)) (T:Blt w K mg) :DefOk P w K mg base 1 "is_between" b_7 :=
 ⟨f,fd,["v","low","high"],e_5 F S04 rfl rfl (λ S A outer s H E Y =>
 (xs1 (f_8 (aQ3 (xor (O_1 cIs (xv 1) m_9) (aA0 (O_1 cLe (xv 1) (xv 0)))) (aA0 (xor (O_1 cIs (xv 2) m_9) (aA0 (O_1 cLe (xv 0) (xv 2))))))))),O,F.kp,z⟩
abbrev j_4:Stmt:=top 10
theorem S05:FnScope ["one","v"] ["one","v"] (a_0 j_4):=⟨rfl,rfl,rfl,by decide +kernel,rfl,by decide +kernel,by decide +kernel⟩
theorem H_1 {f:Addr}{fd:FuncData} (F:Fun K "stretch_has" "stretch_has" j_4 f fd) (Z:Binds K fd ["one","v"] []) (S:mg "stretch_has"=some (.ref f)) (T:Blt w K mg) (z:DefOk P w K mg base 1 "is_between" b_7):DefOk P w K mg base 2 "stretch_has" j_7 :=
 ⟨f,fd,["one","v"],e_5 F S05 rfl rfl (λ Y A outer s H E O =>
 (xs1 (f_8 (aQ3 (xG z O (xaC (xv 1) (xaC (c_2 (xv 0) a_3) (xaC (c_2 (xv 0) a_3) xaN)))) (aA0 (O_1 (cEq O.units) (xb q_8 (xv 1) (c_2 (xv 0) a_3)) (c_2 (xv 0) a_3))))))),Z,F.kp,S⟩
abbrev j_5:Stmt:=top 11
theorem S06:FnScope ["one","other"] ["one","other"] (a_0 j_5):=⟨rfl,rfl,rfl,by decide +kernel,rfl,by decide +kernel,by decide +kernel⟩
theorem H_2 {f:Addr}{fd:FuncData} (F:Fun K "lower_bound" "lower_bound" j_5 f fd) (O:Binds K fd ["one","other"] []) (z:mg "lower_bound"=some (.ref f)) (T:Blt w K mg) :DefOk P w K mg base 1 "lower_bound" d_9 :=
 ⟨f,fd,["one","other"],e_5 F S06 rfl rfl (λ S A outer s H E Y =>
 (xsC (q_1 (xw (X_5 (xt cIs (xv 0) m_9) (B_0 (xt cIs (xv 1) m_9))))
 (xs1 (f_8 (xif (xt cIs (xv 0) m_9) (xv 1) (xv 0))))
 xsN)
 (xs1 (f_8 (xB (N_4 rfl) rfl T.z_max PyProof.Rows.boot_max (xaC (xv 0) (xaC (xv 1) xaN))))))),O,F.kp,z⟩
abbrev j_2:Stmt:=top 12
theorem S07:FnScope ["one","other"] ["one","other"] (a_0 j_2):=⟨rfl,rfl,rfl,by decide +kernel,rfl,by decide +kernel,by decide +kernel⟩
theorem G_9 {f:Addr}{fd:FuncData} (F:Fun K "upper_bound" "upper_bound" j_2 f fd) (O:Binds K fd ["one","other"] []) (z:mg "upper_bound"=some (.ref f)) (T:Blt w K mg) :DefOk P w K mg base 1 "upper_bound" b_8 :=
 ⟨f,fd,["one","other"],e_5 F S07 rfl rfl (λ S A outer s H E Y =>
 (xsC (q_1 (xw (X_5 (xt cIs (xv 0) m_9) (B_0 (xt cIs (xv 1) m_9))))
 (xs1 (f_8 (xif (xt cIs (xv 0) m_9) (xv 1) (xv 0))))
 xsN)
 (xs1 (f_8 (xB (ap6 rfl) rfl T.z_min PyProof.Rows.boot_min (xaC (xv 0) (xaC (xv 1) xaN))))))),O,F.kp,z⟩
abbrev e_3:Stmt:=top 13
theorem S08:FnScope ["one","low","high"] ["one","low","high"] (a_0 e_3):=⟨rfl,rfl,rfl,by decide +kernel,rfl,by decide +kernel,by decide +kernel⟩
theorem w_9 {f:Addr}{fd:FuncData} (F:Fun K "stretch_between" "stretch_between" e_3 f fd) (bF:Binds K fd ["one","low","high"] []) (Z:mg "stretch_between"=some (.ref f)) (T:Blt w K mg) (O:DefOk P w K mg base 1 "lower_bound" d_9) (z:DefOk P w K mg base 1 "stretch_made" a_9) (S:DefOk P w K mg base 1 "upper_bound" b_8):DefOk P w K mg base 2 "stretch_between" a_5 :=
 ⟨f,fd,["one","low","high"],e_5 F S08 rfl rfl (λ aa A outer s H E Y =>
 (xs1 (f_8 (xG z Y (xaC (xG O Y (xaC (c_2 (xv 0) a_3) (xaC (xv 1) xaN))) (xaC (xG S Y (xaC (c_2 (xv 0) a_3) (xaC (xv 2) xaN))) (xaC (c_2 (xv 0) a_3) (xaC (c_2 (xv 0) a_3) xaN)))))))),bF,F.kp,Z⟩
abbrev g_3:Stmt:=top 14
theorem S09:FnScope ["one","c"] ["one","c"] (a_0 g_3):=⟨rfl,rfl,rfl,by decide +kernel,rfl,by decide +kernel,by decide +kernel⟩
theorem B_8 {f:Addr}{fd:FuncData} (F:Fun K "stretch_above" "stretch_above" g_3 f fd) (Z:Binds K fd ["one","c"] []) (O:mg "stretch_above"=some (.ref f)) (T:Blt w K mg) (z:DefOk P w K mg base 2 "stretch_between" a_5):DefOk P w K mg base 3 "stretch_above" d_2 :=
 ⟨f,fd,["one","c"],e_5 F S09 rfl rfl (λ S A outer s H E Y =>
 (xs1 (f_8 (xG z Y (xaC (xv 0) (xaC (xb y_2 (xv 1) a_3) (xaC m_9 xaN))))))),Z,F.kp,O⟩
abbrev g_2:Stmt:=top 15
theorem S0a:FnScope ["one","c"] ["one","c"] (a_0 g_2):=⟨rfl,rfl,rfl,by decide +kernel,rfl,by decide +kernel,by decide +kernel⟩
theorem B_7 {f:Addr}{fd:FuncData} (F:Fun K "stretch_below" "stretch_below" g_2 f fd) (Z:Binds K fd ["one","c"] []) (O:mg "stretch_below"=some (.ref f)) (T:Blt w K mg) (z:DefOk P w K mg base 2 "stretch_between" a_5):DefOk P w K mg base 3 "stretch_below" d_1 :=
 ⟨f,fd,["one","c"],e_5 F S0a rfl rfl (λ S A outer s H E Y =>
 (xs1 (f_8 (xG z Y (xaC (xv 0) (xaC m_9 (xaC (xb ae6 (xv 1) a_3) xaN))))))),Z,F.kp,O⟩
abbrev d_0:Stmt:=top 16
abbrev t_2:List Str:=["one","a","b","ends","step"]
theorem S0b:FnScope t_2 ["one","a","b"] (a_0 d_0):=⟨rfl,rfl,rfl,by decide +kernel,rfl,by decide +kernel,by decide +kernel⟩
theorem B_6 {f:Addr}{fd:FuncData} (F:Fun K "stretch_moved" "stretch_moved" d_0 f fd) (Z:Binds K fd ["one","a","b"] []) (O:mg "stretch_moved"=some (.ref f)) (T:Blt w K mg) (z:DefOk P w K mg base 1 "stretch_made" a_9):DefOk P w K mg base 2 "stretch_moved" g_6 :=
 ⟨f,fd,["one","a","b"],e_5 F S0b rfl rfl (λ S A outer s H E Y =>
 (xsC (ag4 3 S0b.nd (sc:=a_0 d_0) rfl rfl (by show ScB t_2 (a_0 d_0) _ "end" ["b","a"] [2,1];exact⟨rfl,rfl,by decide +kernel,by decide +kernel,rfl,by decide +kernel,by decide +kernel,rfl,by decide +kernel⟩) (bA9 (xv 0) xoN (xoS a_3)) (λ _ _ _ _=>y_6) (λ _ _ _ _=>(xif (xt cIs (xv 0) m_9) m_9 (xb y_2 (xb aa2 (xv 2) (xv 0)) (xv 1)))))
 (xsC (q_1 (xt cLt (xv 1) a_3)
 (xs1 (o_6 3 S0b.nd (O_0 (xaC (c_2 (xv 3) a_3) (xaC (c_2 (xv 3) a_3) xaN)))))
 xsN)
 (xsC (o_6 4 S0b.nd (xb aa2 (xB aP0 rfl T.z_abs PyProof.Rows.boot_abs (xaC (xv 1) xaN)) (c_2 (xv 0) a_3)))
 (xs1 (f_8 (xG z Y (xaC (c_2 (xv 3) a_3) (xaC (c_2 (xv 3) a_3) (xaC (xv 4) (xaC (xb q_8 (xb y_2 (xb aa2 (xv 1) (c_2 (xv 0) a_3)) (xv 2)) (xv 4)) xaN))))))))))),Z,F.kp,O⟩
abbrev c_4:Stmt:=top 17
theorem S0c:FnScope ["a","m","g","s","other","t","times","less"] ["a","m"] (a_0 c_4):=⟨rfl,rfl,rfl,by decide +kernel,rfl,by decide +kernel,by decide +kernel⟩
theorem t_1 {f:Addr}{fd:FuncData} (F:Fun K "divisor_and_factor" "divisor_and_factor" c_4 f fd) (S:Binds K fd ["a","m"] []) (z:mg "divisor_and_factor"=some (.ref f)) (T:Blt w K mg) :DefOk P w K mg base 1 "divisor_and_factor" f_9 :=
 ⟨f,fd,["a","m"],e_5 F S0c rfl rfl (λ Y A outer s H E O =>
 (xsC (o_6 2 S0c.nd (xb q_8 (xv 0) (xv 1)))
 (xsC (o_6 3 S0c.nd a_3)
 (xsC (o_6 4 S0c.nd (xv 1))
 (xsC (o_6 5 S0c.nd a_3)
 (xsC (aR8 (xt (cNe O.units) (xv 4) a_3)
 (xsC (o_6 6 S0c.nd (xb s_0 (xv 2) (xv 4)))
 (xsC (o_6 7 S0c.nd (xb ae6 (xv 2) (xb aa2 (xv 6) (xv 4))))
 (xsC (o_6 2 S0c.nd (xv 4))
 (xsC (o_6 4 S0c.nd (xv 7))
 (xsC (o_6 7 S0c.nd (xb ae6 (xv 3) (xb aa2 (xv 6) (xv 5))))
 (xsC (o_6 3 S0c.nd (xv 5))
 (xs1 (o_6 5 S0c.nd (xv 7))))))))))
 (xs1 (f_8 (N_9 (xaC (xv 2) (xaC (xv 3) xaN))))))))))),S,F.kp,z⟩
abbrev h_8:Stmt:=top 18
theorem S0d:FnScope ["one","a","b","found","divisor","away","step","ends","low","high"] ["one","a","b"] (a_0 h_8):=⟨rfl,rfl,rfl,by decide +kernel,rfl,by decide +kernel,by decide +kernel⟩
theorem E_3 {f:Addr}{fd:FuncData} (F:Fun K "stretch_back" "stretch_back" h_8 f fd) (bF:Binds K fd ["one","a","b"] []) (Y:mg "stretch_back"=some (.ref f)) (T:Blt w K mg) (z:DefOk P w K mg base 1 "divisor_and_factor" f_9) (O:DefOk P w K mg base 1 "stretch_made" a_9):DefOk P w K mg base 2 "stretch_back" i_2 :=
 ⟨f,fd,["one","a","b"],e_5 F S0d rfl rfl (λ Z A outer s H E S =>
 (xsC (q_1 (xt (cEq S.units) (xv 1) a_3)
 (xs1 (f_8 D_1))
 xsN)
 (xsC (o_6 3 S0d.nd (xG z S (xaC (xv 1) (xaC (c_2 (xv 0) a_3) xaN))))
 (xsC (o_6 4 S0d.nd (c_2 (xv 3) a_3))
 (xsC (o_6 5 S0d.nd (xb ae6 (c_2 (xv 0) a_3) (xv 2)))
 (xsC (q_1 (xt (cNe S.units) (xb q_8 (xv 5) (xv 4)) a_3)
 (xs1 (f_8 m_9))
 xsN)
 (xsC (o_6 6 S0d.nd (xb s_0 (c_2 (xv 0) a_3) (xv 4)))
 (xsC (o_6 7 S0d.nd (xif (xt cGt (xv 1) a_3) (O_0 (xaC (c_2 (xv 0) a_3) (xaC (c_2 (xv 0) a_3) xaN))) (O_0 (xaC (c_2 (xv 0) a_3) (xaC (c_2 (xv 0) a_3) xaN)))))
 (xsC (o_6 8 S0d.nd (xif (xt cIs (c_2 (xv 7) a_3) m_9) m_9 (aE8 (xb s_0 (xb ae6 (xv 2) (c_2 (xv 7) a_3)) (xv 1)))))
 (xsC (o_6 9 S0d.nd (xif (xt cIs (c_2 (xv 7) a_3) m_9) m_9 (xb s_0 (xb ae6 (c_2 (xv 7) a_3) (xv 2)) (xv 1))))
 (xs1 (f_8 (xG O S (xaC (xv 8) (xaC (xv 9) (xaC (xv 6) (xaC (xb q_8 (xb aa2 (xb s_0 (xv 5) (xv 4)) (c_2 (xv 3) a_3)) (xv 6)) xaN))))))))))))))))),bF,F.kp,Y⟩
abbrev h_6:Stmt:=top 19
theorem S0e:FnScope ["one","other","turns"] ["one","other"] (a_0 h_6):=⟨rfl,rfl,rfl,by decide +kernel,rfl,by decide +kernel,by decide +kernel⟩
theorem E_1 {f:Addr}{fd:FuncData} (F:Fun K "stretch_meet" "stretch_meet" h_6 f fd) (Z:Binds K fd ["one","other"] []) (mF:mg "stretch_meet"=some (.ref f)) (T:Blt w K mg) (S:DefOk P w K mg base 2 "stretch_back" i_2) (z:DefOk P w K mg base 2 "stretch_between" a_5) (O:DefOk P w K mg base 2 "stretch_moved" g_6):DefOk P w K mg base 3 "stretch_meet" i_1 :=
 ⟨f,fd,["one","other"],e_5 F S0e rfl rfl (λ aa A outer s H E Y =>
 (xsC (o_6 2 S0e.nd (xG S Y (xaC (xv 1) (xaC (c_2 (xv 0) a_3) (xaC (c_2 (xv 0) a_3) xaN)))))
 (xsC (q_1 (xt cIs (xv 2) m_9)
 (xs1 (f_8 m_9))
 xsN)
 (xs1 (f_8 (xG z Y (xaC (xG O Y (xaC (xv 2) (xaC (c_2 (xv 0) a_3) (xaC (c_2 (xv 0) a_3) xaN)))) (xaC (c_2 (xv 0) a_3) (xaC (c_2 (xv 0) a_3) xaN))))))))),Z,F.kp,mF⟩
abbrev p_6:Stmt:=top 23
theorem S0f:FnScope ["keys","begin","end","stretch"] ["keys","begin","end","stretch"] (a_0 p_6):=⟨rfl,rfl,rfl,by decide +kernel,rfl,by decide +kernel,by decide +kernel⟩
theorem V_3 {f:Addr}{fd:FuncData} (F:Fun K "box_made" "box_made" p_6 f fd) (O:Binds K fd ["keys","begin","end","stretch"] []) (z:mg "box_made"=some (.ref f)) (T:Blt w K mg) :DefOk P w K mg base 1 "box_made" b_3 :=
 ⟨f,fd,["keys","begin","end","stretch"],e_5 F S0f rfl rfl (λ S A outer s H E Y =>
 (xsC (q_1 (xw (X_5 (xt cIs (xv 0) m_9) (B_0 (xt cIs (xv 3) m_9))))
 (xs1 (f_8 m_9))
 xsN)
 (xsC (o_6 1 S0f.nd (xB (N_4 rfl) rfl T.z_max PyProof.Rows.boot_max (xaC (xv 1) (xaC a_3 xaN))))
 (xsC (q_1 (xw (U_1 (xt x_6 (xv 2) m_9) (C_9 (xt cLe (xv 2) (xv 1)))))
 (xs1 (f_8 m_9))
 xsN)
 (xs1 (f_8 (N_9 (xaC (xv 0) (xaC (xv 1) (xaC (xv 2) (xaC (xv 3) xaN))))))))))),O,F.kp,z⟩
abbrev r_3:Stmt:=top 24
theorem S0g:FnScope ["box","thing","time"] ["box","thing"] (a_0 r_3):=⟨rfl,rfl,rfl,by decide +kernel,rfl,by decide +kernel,by decide +kernel⟩
theorem ae5 {f:Addr}{fd:FuncData} (F:Fun K "box_has" "box_has" r_3 f fd) (bF:Binds K fd ["box","thing"] []) (Y:mg "box_has"=some (.ref f)) (T:Blt w K mg) (O:DefOk P w K mg base 1 "keys_hold" d_6) (z:DefOk P w K mg base 2 "stretch_has" j_7):DefOk P w K mg base 3 "box_has" h_5 :=
 ⟨f,fd,["box","thing"],e_5 F S0g rfl rfl (λ Z A outer s H E S =>
 (xsC (o_6 2 S0g.nd (c_2 (xv 1) a_3))
 (xsC (q_1 (xw (X_5 (xt cLt (xv 2) (c_2 (xv 0) a_3)) (B_0 (xw (U_1 (xt x_6 (c_2 (xv 0) a_3) m_9) (C_9 (xt cGe (xv 2) (c_2 (xv 0) a_3))))))))
 (xs1 (f_8 xbl))
 xsN)
 (xs1 (f_8 (aQ3 (xG O S (xaC (c_2 (xv 0) a_3) (xaC (c_2 (xv 1) a_3) xaN))) (aA0 (xG z S (xaC (c_2 (xv 0) a_3) (xaC (c_2 (xv 1) a_3) xaN)))))))))),bF,F.kp,Y⟩
abbrev p_5:Stmt:=top 25
theorem S0h:FnScope ["one","other","keys","stretch"] ["one","other"] (a_0 p_5):=⟨rfl,rfl,rfl,by decide +kernel,rfl,by decide +kernel,by decide +kernel⟩
theorem V_2 {f:Addr}{fd:FuncData} (F:Fun K "box_meet" "box_meet" p_5 f fd) (bF:Binds K fd ["one","other"] []) (mF:mg "box_meet"=some (.ref f)) (T:Blt w K mg) (Y:DefOk P w K mg base 1 "box_made" b_3) (S:DefOk P w K mg base 4 "keys_meet" o_2) (z:DefOk P w K mg base 3 "stretch_meet" i_1) (O:DefOk P w K mg base 1 "upper_bound" b_8):DefOk P w K mg base 5 "box_meet" i_3 :=
 ⟨f,fd,["one","other"],e_5 F S0h rfl rfl (λ aa A outer s H E Z =>
 (xsC (o_6 2 S0h.nd (xG S Z (xaC (c_2 (xv 0) a_3) (xaC (c_2 (xv 1) a_3) xaN))))
 (xsC (o_6 3 S0h.nd (xG z Z (xaC (c_2 (xv 0) a_3) (xaC (c_2 (xv 1) a_3) xaN))))
 (xs1 (f_8 (xG Y Z (xaC (xv 2) (xaC (xB (N_4 rfl) rfl T.z_max PyProof.Rows.boot_max (xaC (c_2 (xv 0) a_3) (xaC (c_2 (xv 1) a_3) xaN))) (xaC (xG O Z (xaC (c_2 (xv 0) a_3) (xaC (c_2 (xv 1) a_3) xaN))) (xaC (xv 3) xaN)))))))))),bF,F.kp,mF⟩
abbrev f_4:Stmt:=top 27
abbrev v_8:List Str:=["boxes","other","met"]
theorem S0i:FnScope v_8 ["boxes","other"] (a_0 f_4):=⟨rfl,rfl,rfl,by decide +kernel,rfl,by decide +kernel,by decide +kernel⟩
theorem Q_5 {f:Addr}{fd:FuncData} (F:Fun K "boxes_met" "boxes_met" f_4 f fd) (Z:Binds K fd ["boxes","other"] []) (O:mg "boxes_met"=some (.ref f)) (T:Blt w K mg) (z:DefOk P w K mg base 5 "box_meet" i_3):DefOk P w K mg base 6 "boxes_met" o_4 :=
 ⟨f,fd,["boxes","other"],e_5 F S0i rfl rfl (λ S A outer s H E Y =>
 (xsC (q_1 (xt cIs (xv 1) m_9)
 (xs1 (f_8 (O_0 xaN)))
 xsN)
 (xsC (ag4 2 S0i.nd (sc:=a_0 f_4) rfl rfl (by show ScB v_8 (a_0 f_4) _ "box" ["other"] [1];exact⟨rfl,rfl,by decide +kernel,by decide +kernel,rfl,by decide +kernel,by decide +kernel,rfl,by decide +kernel⟩) (xv 0) (λ _ _ _ _=>y_6) (λ _ _ _ _=>(xG z Y (xaC (xv 0) (xaC (xv 1) xaN)))))
 (xs1 (f_8 (xlc (sc:=a_0 f_4) rfl rfl (by show ScB v_8 (a_0 f_4) _ "box" [] [];exact⟨rfl,rfl,by decide +kernel,by decide +kernel,rfl,by decide +kernel,by decide +kernel,rfl,by decide +kernel⟩) (xv 2) (λ _ _ _ _=>(D_0 (xt x_6 (xv 0) m_9))) (λ _ _ _ _=>(xv 0)))))))),Z,F.kp,O⟩
abbrev n_6:Stmt:=top 32
theorem S0j:FnScope ["works","name","row"] ["works","name"] (a_0 n_6):=⟨rfl,rfl,rfl,by decide +kernel,rfl,by decide +kernel,by decide +kernel⟩
theorem P_9 {f:Addr}{fd:FuncData} (F:Fun K "row_named" "row_named" n_6 f fd) (S:Binds K fd ["works","name"] []) (z:mg "row_named"=some (.ref f)) (T:Blt w K mg) :DefOk P w K mg base 1 "row_named" e_4 :=
 ⟨f,fd,["works","name"],e_5 F S0j rfl rfl (λ Y A outer s H E O =>
 (xsC (aE9 (xgN 2 S0j.nd) (xv 0)
 (xs1 (q_1 (xt (cEq O.units) (c_2 (xv 2) a_3) (xv 1))
 (xs1 (f_8 (xv 2)))
 xsN)))
 (xs1 (f_8 m_9)))),S,F.kp,z⟩
abbrev p_4:Stmt:=top 34
theorem S0k:FnScope ["x"] ["x"] (a_0 p_4):=⟨rfl,rfl,rfl,by decide +kernel,rfl,by decide +kernel,by decide +kernel⟩
theorem V_1 {f:Addr}{fd:FuncData} (F:Fun K "is_whole" "is_whole" p_4 f fd) (O:Binds K fd ["x"] []) (z:mg "is_whole"=some (.ref f)) (T:Blt w K mg) :DefOk P w K mg base 1 "is_whole" o_3 :=
 ⟨f,fd,["x"],e_5 F S0k rfl rfl (λ S A outer s H E Y =>
 (xs1 (f_8 (aQ3 (xty (t:=.int) T.z_isinstance T.z_int PyProof.Rows.boot_int (xv 0)) (aA0 (bB1 (xty (t:=.bool) T.z_isinstance T.z_bool PyProof.Rows.boot_bool (xv 0)))))))),O,F.kp,z⟩
abbrev l_7:Stmt:=top 39
theorem S0l:FnScope ["row","time","rest"] ["row","time"] (a_0 l_7):=⟨rfl,rfl,rfl,by decide +kernel,rfl,by decide +kernel,by decide +kernel⟩
theorem L_1 {f:Addr}{fd:FuncData} (F:Fun K "windows_of" "windows_of" l_7 f fd) (S:Binds K fd ["row","time"] []) (O:mg "windows_of"=some (.ref f)) (T:Blt w K mg) :DefOk P w K mg base 1 "windows_of" e_9 :=
 ⟨f,fd,["row","time"],e_5 F S0l rfl rfl (λ Y A outer s H E z =>
 (xsC (o_6 2 S0l.nd (c_2 (xv 0) a_3))
 (xsC (q_1 (xt (cEq z.units) (c_2 (xv 0) a_3) k_2)
 (xs1 (f_8 (O_0 (xaC (xb s_0 (xv 1) (c_2 (xv 2) a_3)) xaN))))
 xsN)
 (xsC (q_1 (xt (cEq z.units) (c_2 (xv 0) a_3) k_2)
 (xs1 (f_8 (bB4 T.z_list T.z_range (xb y_2 (xb s_0 (xb ae6 (xv 1) (c_2 (xv 2) a_3)) (c_2 (xv 2) a_3)) a_3) (xb y_2 (xb s_0 (xv 1) (c_2 (xv 2) a_3)) a_3))))
 xsN)
 (xs1 (f_8 (O_0 (xaC a_3 xaN)))))))),S,F.kp,O⟩
abbrev o_1:Stmt:=top 40
theorem S0m:FnScope ["fold_word","values"] ["fold_word","values"] (a_0 o_1):=⟨rfl,rfl,rfl,by decide +kernel,rfl,by decide +kernel,by decide +kernel⟩
theorem Q_6 {f:Addr}{fd:FuncData} (F:Fun K "amount_of" "amount_of" o_1 f fd) (S:Binds K fd ["fold_word","values"] []) (O:mg "amount_of"=some (.ref f)) (T:Blt w K mg) :DefOk P w K mg base 1 "amount_of" c_0 :=
 ⟨f,fd,["fold_word","values"],e_5 F S0m rfl rfl (λ Y A outer s H E z =>
 (xsC (q_1 (xt (cEq z.units) (xv 0) k_2)
 (xs1 (f_8 (xB x_5 rfl T.z_len PySem.boot_len (xaC (xv 1) xaN))))
 xsN)
 (xsC (q_1 (xt (cEq z.units) (xv 0) k_2)
 (xs1 (f_8 (xB (aO8 rfl) rfl T.z_sum PyProof.Rows.boot_sum (xaC (xv 1) xaN))))
 xsN)
 (xs1 (f_8 (xif (xt (cEq z.units) (xv 0) k_2) (xB (N_4 rfl) rfl T.z_max PyProof.Rows.boot_max (xaC (xv 1) xaN)) (xB (ap6 rfl) rfl T.z_min PyProof.Rows.boot_min (xaC (xv 1) xaN)))))))),S,F.kp,O⟩
abbrev e_2:Stmt:=top 41
abbrev u_9:List Str:=["row","things","values","thing","window"]
theorem S0n:FnScope u_9 ["row","things"] (a_0 e_2):=⟨rfl,rfl,rfl,by decide +kernel,rfl,by decide +kernel,by decide +kernel⟩
theorem E_0 {f:Addr}{fd:FuncData} (F:Fun K "window_cells" "window_cells" e_2 f fd) (bF:Binds K fd ["row","things"] []) (Y:mg "window_cells"=some (.ref f)) (T:Blt w K mg) (O:DefOk P w K mg base 1 "amount_of" c_0) (z:DefOk P w K mg base 1 "windows_of" e_9):DefOk P w K mg base 2 "window_cells" i_0 :=
 ⟨f,fd,["row","things"],e_5 F S0n rfl rfl (λ Z A outer s H E S =>
 (xsC (xtn 2 S0n.nd)
 (xsC (bh3 2 3 4 S0n.nd (xv 1) (xG z S (xaC (xv 0) (xaC (c_2 (xv 3) a_3) xaN))) (aS0 2 3 4 (bc2 S)))
 (xs1 (xft 2 (f_8 (xlk (sc:=a_0 e_2) rfl rfl (by show ScB u_9 (a_0 e_2) _ "cell" ["values","row"] [2,0];exact⟨rfl,rfl,by decide +kernel,by decide +kernel,rfl,by decide +kernel,by decide +kernel,rfl,by decide +kernel⟩) (xv 2) (λ _ _ _ _=>y_6) (λ _ _ _ _=>(N_9 (xaC (xv 0) (xaC (xG O S (xaC (c_2 (c_2 (xv 2) a_3) (aE8 a_3)) (xaC (bB5 (bc2 S) (xv 1) (xv 0) (λ _ _=>rfl)) xaN))) xaN))))))))))),bF,F.kp,Y⟩
abbrev m_4:Stmt:=top 44
theorem S0o:FnScope ["row","things"] ["row","things"] (a_0 m_4):=⟨rfl,rfl,rfl,by decide +kernel,rfl,by decide +kernel,by decide +kernel⟩
theorem L_8 {f:Addr}{fd:FuncData} (F:Fun K "fold_cells" "fold_cells" m_4 f fd) (Z:Binds K fd ["row","things"] []) (S:mg "fold_cells"=some (.ref f)) (T:Blt w K mg) (z:DefOk P w K mg base 2 "window_cells" i_0):DefOk P w K mg base 3 "fold_cells" m_7 :=
 ⟨f,fd,["row","things"],e_5 F S0o rfl rfl (λ Y A outer s H E O =>
 (xs1 (f_8 (xB (ap4 O.units) rfl T.z_sorted PyProof.Rows.boot_sorted (xaC (xif (xt (cEq O.units) (c_2 (xv 0) a_3) k_2) D_1 (xG z O (xaC (xv 0) (xaC (xv 1) xaN)))) xaN))))),Z,F.kp,S⟩
abbrev j_3:Stmt:=top 45
theorem S0p:FnScope ["row","amount"] ["row","amount"] (a_0 j_3):=⟨rfl,rfl,rfl,by decide +kernel,rfl,by decide +kernel,by decide +kernel⟩
theorem H_0 {f:Addr}{fd:FuncData} (F:Fun K "told_answer" "told_answer" j_3 f fd) (Z:Binds K fd ["row","amount"] []) (O:mg "told_answer"=some (.ref f)) (T:Blt w K mg) (z:DefOk P w K mg base 1 "is_between" b_7):DefOk P w K mg base 2 "told_answer" b_9 :=
 ⟨f,fd,["row","amount"],e_5 F S0p rfl rfl (λ S A outer s H E Y =>
 (xsC (q_1 (xw (X_5 (xt cIs (xv 1) m_9) (X_5 (O_2 (xtv (c_2 (xv 0) a_3) (λ _=>rfl))) (B_0 (xtv (xG z Y (xaC (xv 1) (xaC (c_2 (c_2 (xv 0) a_3) a_3) (xaC (c_2 (c_2 (xv 0) a_3) a_3) xaN)))) (λ _=>rfl))))))
 (xs1 (f_8 (xv 1)))
 xsN)
 (xs1 (f_8 m_9)))),Z,F.kp,O⟩
abbrev r_1:Stmt:=top 47
theorem S0q:FnScope ["key","begin","end"] ["key","begin","end"] (a_0 r_1):=⟨rfl,rfl,rfl,by decide +kernel,rfl,by decide +kernel,by decide +kernel⟩
theorem ae3 {f:Addr}{fd:FuncData} (F:Fun K "key_box" "key_box" r_1 f fd) (Z:Binds K fd ["key","begin","end"] []) (O:mg "key_box"=some (.ref f)) (T:Blt w K mg) (z:DefOk P w K mg base 1 "box_made" b_3):DefOk P w K mg base 2 "key_box" h_4 :=
 ⟨f,fd,["key","begin","end"],e_5 F S0q rfl rfl (λ S A outer s H E Y =>
 (xs1 (f_8 (xG z Y (xaC (N_9 (xaC k_2 (xaC (N_9 (xaC (xv 0) xaN)) xaN))) (xaC (xv 1) (xaC (xv 2) (xaC (bB6 T.c_EVERY_VALUE) xaN)))))))),Z,F.kp,O⟩
abbrev l_8:Stmt:=top 48
theorem S0r:FnScope ["fold","key","window","rest"] ["fold","key","window"] (a_0 l_8):=⟨rfl,rfl,rfl,by decide +kernel,rfl,by decide +kernel,by decide +kernel⟩
theorem L_2 {f:Addr}{fd:FuncData} (F:Fun K "window_box" "window_box" l_8 f fd) (Z:Binds K fd ["fold","key","window"] []) (S:mg "window_box"=some (.ref f)) (T:Blt w K mg) (z:DefOk P w K mg base 2 "key_box" h_4):DefOk P w K mg base 3 "window_box" b_6 :=
 ⟨f,fd,["fold","key","window"],e_5 F S0r rfl rfl (λ Y A outer s H E O =>
 (xsC (o_6 3 S0r.nd (c_2 (xv 0) a_3))
 (xsC (q_1 (xt (cEq O.units) (c_2 (xv 0) a_3) k_2)
 (xs1 (f_8 (xG z O (xaC (xv 1) (xaC (xb aa2 (xv 2) (c_2 (xv 3) a_3)) (xaC (xb aa2 (xb y_2 (xv 2) a_3) (c_2 (xv 3) a_3)) xaN))))))
 xsN)
 (xsC (q_1 (xt (cEq O.units) (c_2 (xv 0) a_3) k_2)
 (xs1 (f_8 (xG z O (xaC (xv 1) (xaC (xb aa2 (xv 2) (c_2 (xv 3) a_3)) (xaC (xb y_2 (xb aa2 (xv 2) (c_2 (xv 3) a_3)) (c_2 (xv 3) a_3)) xaN))))))
 xsN)
 (xs1 (f_8 (xG z O (xaC (xv 1) (xaC a_3 (xaC m_9 xaN)))))))))),Z,F.kp,S⟩
abbrev r_2:Stmt:=top 49
theorem S0s:FnScope ["fold","key","window"] ["fold","key","window"] (a_0 r_2):=⟨rfl,rfl,rfl,by decide +kernel,rfl,by decide +kernel,by decide +kernel⟩
theorem ae4 {f:Addr}{fd:FuncData} (F:Fun K "is_cell" "is_cell" r_2 f fd) (Z:Binds K fd ["fold","key","window"] []) (mF:mg "is_cell"=some (.ref f)) (T:Blt w K mg) (S:DefOk P w K mg base 1 "is_key" x_0) (O:DefOk P w K mg base 1 "is_whole" o_3) (z:DefOk P w K mg base 3 "window_box" b_6):DefOk P w K mg base 4 "is_cell" i_9 :=
 ⟨f,fd,["fold","key","window"],e_5 F S0s rfl rfl (λ aa A outer s H E Y =>
 (xsC (q_1 (xw (X_5 (O_2 (xtv (xG S Y (xaC (xv 1) xaN)) (λ _=>rfl))) (B_0 (O_2 (xtv (xG O Y (xaC (xv 2) xaN)) (λ _=>rfl))))))
 (xs1 (f_8 xbl))
 xsN)
 (xsC (q_1 (xt (cEq Y.units) (c_2 (xv 0) a_3) k_2)
 (xs1 (f_8 (O_1 (cEq Y.units) (xv 2) a_3)))
 xsN)
 (xsC (q_1 (xt (cEq Y.units) (c_2 (xv 0) a_3) k_2)
 (xs1 (f_8 (O_1 cGe (xv 2) a_3)))
 xsN)
 (xs1 (f_8 (O_1 x_6 (xG z Y (xaC (xv 0) (xaC (xv 1) (xaC (xv 2) xaN)))) m_9))))))),Z,F.kp,mF⟩
abbrev m_5:Stmt:=top 50
theorem S0t:FnScope ["works","ask","key","window","row"] ["works","ask","key","window"] (a_0 m_5):=⟨rfl,rfl,rfl,by decide +kernel,rfl,by decide +kernel,by decide +kernel⟩
theorem L_9 {f:Addr}{fd:FuncData} (F:Fun K "check_cell" "check_cell" m_5 f fd) (bF:Binds K fd ["works","ask","key","window"] []) (Y:mg "check_cell"=some (.ref f)) (T:Blt w K mg) (O:DefOk P w K mg base 4 "is_cell" i_9) (z:DefOk P w K mg base 1 "row_named" e_4):DefOk P w K mg base 5 "check_cell" m_8 :=
 ⟨f,fd,["works","ask","key","window"],e_5 F S0t rfl rfl (λ Z A outer s H E S =>
 (xsC (o_6 4 S0t.nd (xG z S (xaC (xv 0) (xaC (xv 1) xaN))))
 (xs1 (q_1 (xw (X_5 (xt cIs (xv 4) m_9) (X_5 (xt (cNe S.units) (c_2 (xv 4) a_3) k_2) (B_0 (O_2 (xtv (xG O S (xaC (xG z S (xaC (xv 0) (xaC (c_2 (c_2 (xv 4) a_3) a_3) xaN))) (xaC (xv 2) (xaC (xv 3) xaN)))) (λ _=>rfl)))))))
 (xs1 bA8)
 xsN)))),bF,F.kp,Y⟩
abbrev i_5:Stmt:=top 51
abbrev E_6:List Str:=["box","things"]
theorem S0u:FnScope E_6 ["box","things"] (a_0 i_5):=⟨rfl,rfl,rfl,by decide +kernel,rfl,by decide +kernel,by decide +kernel⟩
theorem P_8 {f:Addr}{fd:FuncData} (F:Fun K "things_in" "things_in" i_5 f fd) (Z:Binds K fd ["box","things"] []) (O:mg "things_in"=some (.ref f)) (T:Blt w K mg) (z:DefOk P w K mg base 3 "box_has" h_5):DefOk P w K mg base 4 "things_in" l_3 :=
 ⟨f,fd,["box","things"],e_5 F S0u rfl rfl (λ Y A outer s H E S =>
 (xsC (q_1 (xt cIs (xv 0) m_9)
 (xs1 (f_8 (O_0 xaN)))
 xsN)
 (xs1 (f_8 (xlc (sc:=a_0 i_5) rfl rfl (by show ScB E_6 (a_0 i_5) _ "thing" ["box"] [0];exact⟨rfl,rfl,by decide +kernel,by decide +kernel,rfl,by decide +kernel,by decide +kernel,rfl,by decide +kernel⟩) (xv 1) (λ _ _ _ _=>(D_0 (xtv (xG z S (xaC (xv 1) (xaC (xv 0) xaN))) (λ _=>rfl)))) (λ _ _ _ _=>(xv 0))))))),Z,F.kp,O⟩
abbrev i_6:Stmt:=top 52
abbrev E_7:List Str:=["fold","box","things","values"]
theorem S0v:FnScope E_7 ["fold","box","things"] (a_0 i_6):=⟨rfl,rfl,rfl,by decide +kernel,rfl,by decide +kernel,by decide +kernel⟩
theorem Q_7 {f:Addr}{fd:FuncData} (F:Fun K "amount_in" "amount_in" i_6 f fd) (bF:Binds K fd ["fold","box","things"] []) (Y:mg "amount_in"=some (.ref f)) (T:Blt w K mg) (O:DefOk P w K mg base 1 "amount_of" c_0) (z:DefOk P w K mg base 4 "things_in" l_3):DefOk P w K mg base 5 "amount_in" l_5 :=
 ⟨f,fd,["fold","box","things"],e_5 F S0v rfl rfl (λ Z A outer s H E S =>
 (xsC (ag4 3 S0v.nd (sc:=a_0 i_6) rfl rfl (by show ScB E_7 (a_0 i_6) _ "thing" [] [];exact⟨rfl,rfl,by decide +kernel,by decide +kernel,rfl,by decide +kernel,by decide +kernel,rfl,by decide +kernel⟩) (xG z S (xaC (xv 1) (xaC (xv 2) xaN))) (λ _ _ _ _=>y_6) (λ _ _ _ _=>(c_2 (xv 0) a_3)))
 (xs1 (f_8 (xif (xtv (xv 3) (λ _=>rfl)) (xG O S (xaC (c_2 (c_2 (xv 0) a_3) (aE8 a_3)) (xaC (xv 3) xaN))) m_9))))),bF,F.kp,Y⟩
abbrev g_0:Stmt:=top 53
theorem S0w:FnScope ["fold_word","amount","stretch"] ["fold_word","amount","stretch"] (a_0 g_0):=⟨rfl,rfl,rfl,by decide +kernel,rfl,by decide +kernel,by decide +kernel⟩
theorem B_4 {f:Addr}{fd:FuncData} (F:Fun K "values_beyond" "values_beyond" g_0 f fd) (bF:Binds K fd ["fold_word","amount","stretch"] []) (Y:mg "values_beyond"=some (.ref f)) (T:Blt w K mg) (O:DefOk P w K mg base 3 "stretch_above" d_2) (z:DefOk P w K mg base 3 "stretch_below" d_1):DefOk P w K mg base 4 "values_beyond" c_3 :=
 ⟨f,fd,["fold_word","amount","stretch"],e_5 F S0w rfl rfl (λ Z A outer s H E S =>
 (xsC (q_1 (xt cIs (xv 1) m_9)
 (xs1 (f_8 (xv 2)))
 xsN)
 (xs1 (f_8 (xif (xt (cEq S.units) (xv 0) k_2) (xG O S (xaC (xv 2) (xaC (xv 1) xaN))) (xG z S (xaC (xv 2) (xaC (xv 1) xaN)))))))),bF,F.kp,Y⟩
abbrev c_5:Stmt:=top 54
abbrev s_1:List Str:=["ask_row","fold_word","amount","stretch","bounds","part","passed","parts"]
theorem S0x:FnScope s_1 ["ask_row","fold_word","amount","stretch"] (a_0 c_5):=⟨rfl,rfl,rfl,by decide +kernel,rfl,by decide +kernel,by decide +kernel⟩
theorem z_1 {f:Addr}{fd:FuncData} (F:Fun K "turning_values" "turning_values" c_5 f fd) (bF:Binds K fd ["ask_row","fold_word","amount","stretch"] []) (mF:mg "turning_values"=some (.ref f)) (T:Blt w K mg) (Y:DefOk P w K mg base 3 "stretch_above" d_2) (O:DefOk P w K mg base 3 "stretch_below" d_1) (z:DefOk P w K mg base 2 "stretch_between" a_5) (Z:DefOk P w K mg base 2 "told_answer" b_9) (S:DefOk P w K mg base 4 "values_beyond" c_3):DefOk P w K mg base 5 "turning_values" a_2 :=
 ⟨f,fd,["ask_row","fold_word","amount","stretch"],e_5 F S0x rfl rfl (λ aa A outer s H E hr =>
 (xsC (o_6 4 S0x.nd (bB0 (c_2 (xv 0) a_3) (aA0 (N_9 (xaC m_9 (xaC m_9 xaN))))))
 (xsC (q_1 (xt (cEq hr.units) (xv 1) k_2)
 (xsC (o_6 6 S0x.nd (aQ3 (O_1 x_6 (xv 2) m_9) (aQ3 (O_1 x_6 (c_2 (xv 4) a_3) m_9) (aA0 (O_1 cGt (xv 2) (c_2 (xv 4) a_3))))))
 (xs1 (f_8 (xif (xtv (xv 6) (λ _=>rfl)) (O_0 xaN) (O_0 (xaC (xv 3) xaN))))))
 xsN)
 (xsC (q_1 (xw (U_1 (xt (cEq hr.units) (xv 1) k_2) (C_9 (xt cIs (xv 2) m_9))))
 (xs1 (f_8 (O_0 (xaC (xv 3) xaN))))
 xsN)
 (xsC (q_1 (xt (cEq hr.units) (xv 1) k_2)
 (xsC (o_6 7 S0x.nd (O_0 (xaC (xG Y hr (xaC (xv 3) (xaC a_3 xaN))) (xaC (xG O hr (xaC (xv 3) (xaC a_3 xaN))) xaN))))
 (xs1 (f_8 (xlc (sc:=a_0 c_5) rfl rfl (by show ScB s_1 (a_0 c_5) _ "part" [] [];exact⟨rfl,rfl,by decide +kernel,by decide +kernel,rfl,by decide +kernel,by decide +kernel,rfl,by decide +kernel⟩) (xv 7) (λ _ _ _ _=>(D_0 (xt x_6 (xv 0) m_9))) (λ _ _ _ _=>(xv 0))))))
 xsN)
 (xsC (o_6 5 S0x.nd (xG S hr (xaC (xv 1) (xaC (xv 2) (xaC (xv 3) xaN)))))
 (xsC (q_1 (xw (U_1 (xt x_6 (xv 5) m_9) (C_9 (xt cIs (xG Z hr (xaC (xv 0) (xaC (xv 2) xaN))) m_9))))
 (xs1 (o_6 5 S0x.nd (xG z hr (xaC (xv 5) (xaC (c_2 (xv 4) a_3) (xaC (c_2 (xv 4) a_3) xaN))))))
 xsN)
 (xs1 (f_8 (xif (xt cIs (xv 5) m_9) (O_0 xaN) (O_0 (xaC (xv 5) xaN)))))))))))),bF,F.kp,mF⟩
abbrev g_1:Stmt:=top 55
theorem S0y:FnScope ["ask_row","fold_word","amount","boxes","found","box","stretch"] ["ask_row","fold_word","amount","boxes"] (a_0 g_1):=⟨rfl,rfl,rfl,by decide +kernel,rfl,by decide +kernel,by decide +kernel⟩
theorem B_5 {f:Addr}{fd:FuncData} (F:Fun K "turning_boxes" "turning_boxes" g_1 f fd) (bF:Binds K fd ["ask_row","fold_word","amount","boxes"] []) (Y:mg "turning_boxes"=some (.ref f)) (T:Blt w K mg) (O:DefOk P w K mg base 1 "box_made" b_3) (z:DefOk P w K mg base 5 "turning_values" a_2):DefOk P w K mg base 6 "turning_boxes" g_5 :=
 ⟨f,fd,["ask_row","fold_word","amount","boxes"],e_5 F S0y rfl rfl (λ Z A outer s H E S =>
 (xsC (aR9 4 S0y.nd (ag5 xaN))
 (xsC (aE9 (xgN 5 S0y.nd) (xv 3)
 (xs1 (aE9 (xgN 6 S0y.nd) (xG z S (xaC (xv 0) (xaC (xv 1) (xaC (xv 2) (xaC (c_2 (xv 5) a_3) xaN)))))
 (xs1 (aQ2 4 (xaC (xG O S (xaC (c_2 (xv 5) a_3) (xaC (c_2 (xv 5) a_3) (xaC (c_2 (xv 5) a_3) (xaC (xv 6) xaN))))) xaN))))))
 (xs1 (bf3 4 (f_8 (xv 4))))))),bF,F.kp,Y⟩
abbrev e_6:Stmt:=top 56
theorem S0z:FnScope ["ask_row","fold","box","there","boxes"] ["ask_row","fold","box","there","boxes"] (a_0 e_6):=⟨rfl,rfl,rfl,by decide +kernel,rfl,by decide +kernel,by decide +kernel⟩
theorem z_0 {f:Addr}{fd:FuncData} (F:Fun K "window_turning" "window_turning" e_6 f fd) (bF:Binds K fd ["ask_row","fold","box","there","boxes"] []) (Z:mg "window_turning"=some (.ref f)) (T:Blt w K mg) (O:DefOk P w K mg base 5 "amount_in" l_5) (S:DefOk P w K mg base 6 "boxes_met" o_4) (z:DefOk P w K mg base 6 "turning_boxes" g_5):DefOk P w K mg base 7 "window_turning" e_7 :=
 ⟨f,fd,["ask_row","fold","box","there","boxes"],e_5 F S0z rfl rfl (λ aa A outer s H E Y =>
 (xs1 (f_8 (xG z Y (xaC (xv 0) (xaC (c_2 (c_2 (xv 1) a_3) (aE8 a_3)) (xaC (xG O Y (xaC (xv 1) (xaC (xv 2) (xaC (xv 3) xaN)))) (xaC (xG S Y (xaC (xv 4) (xaC (xv 2) xaN))) xaN)))))))),bF,F.kp,Z⟩
abbrev g_4:Stmt:=top 58
theorem S10:FnScope ["ask_row","fold","key","window","there","boxes"] ["ask_row","fold","key","window","there","boxes"] (a_0 g_4):=⟨rfl,rfl,rfl,by decide +kernel,rfl,by decide +kernel,by decide +kernel⟩
theorem B_9 {f:Addr}{fd:FuncData} (F:Fun K "chain_turning" "chain_turning" g_4 f fd) (bF:Binds K fd ["ask_row","fold","key","window","there","boxes"] []) (Y:mg "chain_turning"=some (.ref f)) (T:Blt w K mg) (O:DefOk P w K mg base 3 "window_box" b_6) (z:DefOk P w K mg base 7 "window_turning" e_7):DefOk P w K mg base 8 "chain_turning" g_7 :=
 ⟨f,fd,["ask_row","fold","key","window","there","boxes"],e_5 F S10 rfl rfl (λ Z A outer s H E S =>
 (xsC (q_1 (xt (cEq S.units) (c_2 (xv 1) a_3) k_2)
 (xs1 (f_8 D_1))
 xsN)
 (xs1 (f_8 (xG z S (xaC (xv 0) (xaC (xv 1) (xaC (xG O S (xaC (xv 1) (xaC (xv 2) (xaC (xv 3) xaN)))) (xaC (xv 4) (xaC (xv 5) xaN)))))))))),bF,F.kp,Y⟩
abbrev o_0:Stmt:=top 70
theorem S11:FnScope ["works","ask","ask_row","fold"] ["works","ask"] (a_0 o_0):=⟨rfl,rfl,rfl,by decide +kernel,rfl,by decide +kernel,by decide +kernel⟩
theorem Q_4 {f:Addr}{fd:FuncData} (F:Fun K "cell_rows" "cell_rows" o_0 f fd) (Z:Binds K fd ["works","ask"] []) (S:mg "cell_rows"=some (.ref f)) (T:Blt w K mg) (z:DefOk P w K mg base 1 "row_named" e_4):DefOk P w K mg base 2 "cell_rows" p_8 :=
 ⟨f,fd,["works","ask"],e_5 F S11 rfl rfl (λ Y A outer s H E O =>
 (xsC (o_6 2 S11.nd (xG z O (xaC (xv 0) (xaC (xv 1) xaN))))
 (xsC (o_6 3 S11.nd (xG z O (xaC (xv 0) (xaC (c_2 (c_2 (xv 2) a_3) a_3) xaN))))
 (xs1 (f_8 (N_9 (xaC (xv 2) (xaC (xv 3) (xaC (xG z O (xaC (xv 0) (xaC (c_2 (c_2 (xv 3) a_3) a_3) xaN))) xaN))))))))),Z,F.kp,S⟩
abbrev m_6:Stmt:=top 71
theorem S12:FnScope ["works","ask","key","window","there","boxes","rows","ways","found"] ["works","ask","key","window","there","boxes"] (a_0 m_6):=⟨rfl,rfl,rfl,by decide +kernel,rfl,by decide +kernel,by decide +kernel⟩
theorem M_0 {f:Addr}{fd:FuncData} (F:Fun K "boxes_turn" "boxes_turn" m_6 f fd) (bF:Binds K fd ["works","ask","key","window","there","boxes"] []) (Z:mg "boxes_turn"=some (.ref f)) (T:Blt w K mg) (S:DefOk P w K mg base 2 "cell_rows" p_8) (z:DefOk P w K mg base 8 "chain_turning" g_7) (O:DefOk P w K mg base 5 "check_cell" m_8):DefOk P w K mg base 9 "boxes_turn" j_0 :=
 ⟨f,fd,["works","ask","key","window","there","boxes"],e_5 F S12 rfl rfl (λ aa A outer s H E Y =>
 (xsC (xsx (xG O Y (xaC (xv 0) (xaC (xv 1) (xaC (xv 2) (xaC (xv 3) xaN))))))
 (xsC (o_6 6 S12.nd (xG S Y (xaC (xv 0) (xaC (xv 1) xaN))))
 (xsC (q_1 (xt (cEq Y.units) (c_2 (c_2 (xv 6) a_3) a_3) k_2)
 (xsC (o_6 7 S12.nd D_1)
 (xs1 (o_6 8 S12.nd D_1)))
 (xs1 (o_6 8 S12.nd (xG z Y (xaC (c_2 (xv 6) a_3) (xaC (c_2 (xv 6) a_3) (xaC (xv 2) (xaC (xv 3) (xaC (xv 4) (xaC (xv 5) xaN))))))))))
 (xs1 (f_8 (O_1 cGt (xB x_5 rfl T.z_len PySem.boot_len (xaC (xv 8) xaN)) a_3))))))),bF,F.kp,Z⟩
abbrev j_6:Stmt:=top 73
theorem S13:FnScope ["_law_script","_law_k"] ["_law_script","_law_k"] (a_0 j_6):=⟨rfl,rfl,rfl,by decide +kernel,rfl,by decide +kernel,by decide +kernel⟩
theorem H_3 {f:Addr}{fd:FuncData} (F:Fun K "_law_cell_at" "_law_cell_at" j_6 f fd) (O:Binds K fd ["_law_script","_law_k"] []) (z:mg "_law_cell_at"=some (.ref f)) (T:Blt w K mg) :DefOk P w K mg base 1 "_law_cell_at" f_0 :=
 ⟨f,fd,["_law_script","_law_k"],e_5 F S13 rfl rfl (λ S A outer s H E Y =>
 (xsC (q_1 (xt cLt (xv 1) (xB x_5 rfl T.z_len PySem.boot_len (xaC (xv 0) xaN)))
 (xs1 (f_8 (c_2 (xv 0) (xv 1))))
 xsN)
 (xs1 (f_8 a_3)))),O,F.kp,z⟩
abbrev m_0:Stmt:=top 74
theorem S14:FnScope ["_law_cell","_law_size","_law_found","_law_number","_law_other","_law_k","_law_rest"] ["_law_cell","_law_size"] (a_0 m_0):=⟨rfl,rfl,rfl,by decide +kernel,rfl,by decide +kernel,by decide +kernel⟩
theorem L_4 {f:Addr}{fd:FuncData} (F:Fun K "_law_stream" "_law_stream" m_0 f fd) (O:Binds K fd ["_law_cell","_law_size"] []) (z:mg "_law_stream"=some (.ref f)) (T:Blt w K mg) :DefN P w K mg base 1 "_law_stream" h_0 :=
 ⟨f,fd,["_law_cell","_law_size"],bc4 F S14 rfl rfl (λ S A outer s H E Y =>
 (xnC (xnS (aR9 2 S14.nd (ag5 xaN)))
 (bB3 (xt cGe (xv 0) (xb bF5 a_3 a_3))
 (xnC (xnS (o_6 6 S14.nd (xb s_0 (xv 0) a_3)))
 (xnC (xnS (O_3 T.z_range (xgN 5 S14.nd) (xv 1) (xsC (aQ2 2 (xaC (xb q_8 (xv 6) a_3) xaN))
 (xs1 (o_6 6 S14.nd (xb s_0 (xv 6) a_3))))))
 (bh2 2)))
 (xnC (xnS (o_6 3 S14.nd (xb q_8 (xb aa2 (xb y_2 (xb q_8 (xv 0) a_3) a_3) a_3) a_3)))
 (xnC (xnS (o_6 4 S14.nd (xb q_8 (xb aa2 (xb y_2 (xb q_8 (xv 0) a_3) a_3) a_3) a_3)))
 (xnC (xnS (O_3 T.z_range (xgN 5 S14.nd) (xv 1) (xsC (o_6 3 S14.nd (xb y_2 (xb y_2 (xb q_8 (xb aa2 (xv 3) (xb y_2 (xb s_0 (xv 3) a_3) a_3)) a_3) (xv 5)) a_3))
 (xsC (o_6 4 S14.nd (xb q_8 (xb aa2 (xv 4) a_3) a_3))
 (xs1 (aQ2 2 (xaC (xb y_2 (xv 3) (xv 4)) xaN)))))))
 (xnO 2))))))),O,F.kp,z⟩
abbrev p_3:Stmt:=top 75
theorem S15:FnScope ["_law_xs","_law_name","_law_below","_law_amount","_law_word","_law_step"] ["_law_xs","_law_name","_law_below"] (a_0 p_3):=⟨rfl,rfl,rfl,by decide +kernel,rfl,by decide +kernel,by decide +kernel⟩
theorem V_0 {f:Addr}{fd:FuncData} (F:Fun K "_law_fold" "_law_fold" p_3 f fd) (S:Binds K fd ["_law_xs","_law_name","_law_below"] []) (O:mg "_law_fold"=some (.ref f)) (T:Blt w K mg) :DefB P w K mg base 1 "_law_fold" j_8 :=
 ⟨f,fd,["_law_xs","_law_name","_law_below"],ab4 F S15 rfl rfl (λ Y A outer s H E z =>
 (@YSs.go _ _ _ (ysC (y_4 3 S15.nd (yix (aR6 (yaC (ye k_2) (yaC (ye k_2) (yaC (ye k_2) (yaC (ye k_2) yaN))))) (yb q_8 (yb s_0 (ye (xq 0)) (ye a_3)) (ye a_3)))) (ysC (y_4 4 S15.nd (yix (aR6 (yaC (ye k_2) (yaC (ye k_2) (yaC (ye k_2) yaN)))) (yb q_8 (yb s_0 (ye (xq 0)) (ye a_3)) (ye a_3)))) (ysC (yif (xt (cEq z.units) (xv 4) k_2)
 (ys1 (as4 (y_3 (yaC (ye k_2) (yaC (ye (xv 1)) (yaC (y_3 (yaC (ye (xv 2)) yaN)) (yaC (y_3 (yaC (yb y_2 (ye a_3) (yb q_8 (yb s_0 (ye (xq 0)) (ye a_3)) (ye a_3))) (yaC (ye (xv 3)) yaN))) yaN)))))))
 ysN) (ysC (yif (xt (cEq z.units) (xv 4) k_2)
 (ysC (y_4 5 S15.nd (yb y_2 (ye a_3) (yb q_8 (yb s_0 (ye (xq 0)) (ye a_3)) (ye a_3)))) (ys1 (as4 (y_3 (yaC (ye k_2) (yaC (ye (xv 1)) (yaC (y_3 (yaC (ye (xv 2)) yaN)) (yaC (y_3 (yaC (yb y_2 (yb y_2 (ye (xv 5)) (ye a_3)) (yb q_8 (yb s_0 (ye (xq 0)) (ye a_3)) (ye a_3))) (yaC (ye (xv 5)) (yaC (ye (xv 3)) yaN)))) yaN))))))))
 ysN) (ys1 (as4 (y_3 (yaC (ye k_2) (yaC (ye (xv 1)) (yaC (y_3 (yaC (ye (xv 2)) yaN)) (yaC (y_3 (yaC (ye (xv 3)) yaN)) yaN))))))))))))),S,F.kp,O⟩
abbrev m_1:Stmt:=top 76
theorem S16:FnScope ["_law_xs","_law_fold_here","_law_low","_law_high"] ["_law_xs","_law_fold_here"] (a_0 m_1):=⟨rfl,rfl,rfl,by decide +kernel,rfl,by decide +kernel,by decide +kernel⟩
theorem L_5 {f:Addr}{fd:FuncData} (F:Fun K "_law_bounds" "_law_bounds" m_1 f fd) (S:Binds K fd ["_law_xs","_law_fold_here"] []) (O:mg "_law_bounds"=some (.ref f)) (T:Blt w K mg) :DefB P w K mg base 1 "_law_bounds" b_4 :=
 ⟨f,fd,["_law_xs","_law_fold_here"],ab4 F S16 rfl rfl (λ Y A outer s H E z =>
 (@YSs.go _ _ _ (ysC (yif (xw (X_5 (xt (cEq z.units) (c_2 (c_2 (xv 1) a_3) (aE8 a_3)) k_2) (B_0 (xt (cEq z.units) (xb q_8 (xb s_0 (xq 0) a_3) a_3) a_3))))
 (ys1 (as4 (y_3 yaN)))
 ysN) (ysC (y_4 2 S16.nd (yb ae6 (yb q_8 (yb s_0 (ye (xq 0)) (ye a_3)) (ye a_3)) (ye a_3))) (ysC (yif (xt (cEq z.units) (c_2 (c_2 (xv 1) a_3) (aE8 a_3)) k_2)
 (ys1 (y_4 2 S16.nd (yb y_2 (ye a_3) (yb q_8 (yb s_0 (ye (xq 0)) (ye a_3)) (ye a_3)))))
 ysN) (ysC (y_4 3 S16.nd (yb y_2 (ye (xv 2)) (yb q_8 (yb s_0 (ye (xq 0)) (ye a_3)) (ye a_3)))) (ysC (yif (xt (cEq z.units) (xb q_8 (xb s_0 (xq 0) a_3) a_3) a_3)
 (ys1 (y_4 3 S16.nd (ye m_9)))
 ysN) (ysC (yif (xw (U_1 (xt (cEq z.units) (xb q_8 (xb s_0 (xq 0) a_3) a_3) a_3) (C_9 (xt (cNe z.units) (c_2 (c_2 (xv 1) a_3) (aE8 a_3)) k_2))))
 (ys1 (y_4 2 S16.nd (ye m_9)))
 ysN) (ys1 (as4 (y_3 (yaC (ye (xv 2)) (yaC (ye (xv 3)) yaN))))))))))))),S,F.kp,O⟩
abbrev l_9:Stmt:=top 77
theorem S17:FnScope ["_law_xs","_law_most","_law_things_here","_law_k"] ["_law_xs","_law_most"] (a_0 l_9):=⟨rfl,rfl,rfl,by decide +kernel,rfl,by decide +kernel,by decide +kernel⟩
theorem L_3 {f:Addr}{fd:FuncData} (F:Fun K "_law_things" "_law_things" l_9 f fd) (S:Binds K fd ["_law_xs","_law_most"] []) (z:mg "_law_things"=some (.ref f)) (T:Blt w K mg) :DefB P w K mg base 1 "_law_things" i_7 :=
 ⟨f,fd,["_law_xs","_law_most"],ab4 F S17 rfl rfl (λ Y A outer s H E O =>
 (xsC (aR9 2 S17.nd (ag5 xaN))
 (xsC (O_3 T.z_range (xgN 3 S17.nd) (xb q_8 (xb s_0 (xq 0) a_3) (xv 1)) (xs1 (aQ2 2 (xaC (N_9 (xaC (xb q_8 (xb s_0 (xq 0) a_3) a_3) (xaC (c_2 (O_0 (xaC k_2 (xaC k_2 xaN))) (xb q_8 (xb s_0 (xq 0) a_3) a_3)) (xaC (xb ae6 (xb q_8 (xb s_0 (xq 0) a_3) a_3) a_3) xaN)))) xaN))))
 (xs1 (bf3 2 (f_8 (xB (G_1 O.units) rfl T.z_sorted PyProof.Rows.boot_sorted (xaC (xv 2) xaN)))))))),S,F.kp,z⟩
abbrev n_8:Stmt:=top 78
theorem S18:FnScope ["_law_xs","_law_most","_law_far","_law_boxes_here","_law_k","_law_some","_law_keys","_law_begin","_law_end","_law_low","_law_step","_law_stretch","_law_box"] ["_law_xs","_law_most","_law_far"] (a_0 n_8):=⟨rfl,rfl,rfl,by decide +kernel,rfl,by decide +kernel,by decide +kernel⟩
theorem Q_1 {f:Addr}{fd:FuncData} (F:Fun K "_law_boxes" "_law_boxes" n_8 f fd) (bF:Binds K fd ["_law_xs","_law_most","_law_far"] []) (Y:mg "_law_boxes"=some (.ref f)) (T:Blt w K mg) (O:DefOk P w K mg base 1 "box_made" b_3) (z:DefOk P w K mg base 1 "stretch_made" a_9):DefB P w K mg base 2 "_law_boxes" l_4 :=
 ⟨f,fd,["_law_xs","_law_most","_law_far"],ab4 F S18 rfl rfl (λ Z A outer s H E S =>
 (@YSs.go _ _ _ (ysC (yx (aR9 3 S18.nd (ag5 xaN))) (ysC (aR7 T.z_range (xgN 4 S18.nd) (xb q_8 (xb s_0 (xq 0) a_3) (xv 1))
 (ysC (y_4 5 S18.nd (aR6 (yaC (y_3 (yaC (ye k_2) (yaC (y_3 (yaC (ye k_2) yaN)) yaN))) (yaC (y_3 (yaC (ye k_2) (yaC (y_3 yaN) yaN))) (yaC (y_3 (yaC (ye k_2) (yaC (y_3 (yaC (ye k_2) yaN)) yaN))) (yaC (y_3 (yaC (ye k_2) (yaC (y_3 (yaC (ye k_2) (yaC (ye k_2) yaN))) yaN))) (yaC (y_3 (yaC (ye k_2) (yaC (y_3 (yaC (ye k_2) yaN)) yaN))) yaN))))))) (ysC (y_4 6 S18.nd (yix (ye (xv 5)) (yb q_8 (yb s_0 (ye (xq 0)) (ye a_3)) (ye a_3)))) (ysC (y_4 7 S18.nd (yb q_8 (yb s_0 (ye (xq 0)) (ye a_3)) (ye a_3))) (ysC (y_4 8 S18.nd (yb y_2 (yb y_2 (ye (xv 7)) (ye a_3)) (yb q_8 (yb s_0 (ye (xq 0)) (ye a_3)) (ye (xv 2))))) (ysC (y_4 9 S18.nd (yb ae6 (yb q_8 (yb s_0 (ye (xq 0)) (ye a_3)) (ye a_3)) (ye a_3))) (ysC (y_4 10 S18.nd (yb y_2 (ye a_3) (yb q_8 (yb s_0 (ye (xq 0)) (ye a_3)) (ye a_3)))) (ysC (y_4 11 S18.nd (ye (xG z S (xaC (xv 9) (xaC (xb y_2 (xv 9) (xb q_8 (xb s_0 (xq 0) a_3) (xv 2))) (xaC (xv 10) (xaC (xb q_8 (xb s_0 (xq 0) a_3) (xv 10)) xaN))))))) (ysC (y_4 12 S18.nd (ye (xG O S (xaC (xv 6) (xaC (xv 7) (xaC (xv 8) (xaC (xv 11) xaN))))))) (ys1 (yif (xt x_6 (xv 12) m_9)
 (ys1 (yx (aQ2 3 (xaC (xv 12) xaN))))
 ysN))))))))))) (ys1 (yx (bf3 3 (f_8 (xv 3))))))))),bF,F.kp,Y⟩
abbrev h_9:Stmt:=top 79
theorem S19:FnScope ["_law_boxes_here","_law_key","_law_things_here","_law_keys","_law_begin","_law_end","_law_stretch","_law_time","_law_value"] ["_law_boxes_here","_law_key"] (a_0 h_9):=⟨rfl,rfl,rfl,by decide +kernel,rfl,by decide +kernel,by decide +kernel⟩
theorem E_4 {f:Addr}{fd:FuncData} (F:Fun K "_law_in_boxes" "_law_in_boxes" h_9 f fd) (S:Binds K fd ["_law_boxes_here","_law_key"] []) (O:mg "_law_in_boxes"=some (.ref f)) (T:Blt w K mg) :DefOk P w K mg base 1 "_law_in_boxes" f_6 :=
 ⟨f,fd,["_law_boxes_here","_law_key"],e_5 F S19 rfl rfl (λ Y A outer s H E z =>
 (xsC (aR9 2 S19.nd (ag5 xaN))
 (xsC (aE9 (xgT (aQ1 (xgN 3 S19.nd) (aQ1 (xgN 4 S19.nd) (aQ1 (xgN 5 S19.nd) (aQ1 (xgN 6 S19.nd) bs7))))) (xv 0)
 (xs1 (q_1 (xt (cEq z.units) (O_1 br6 (xv 1) (c_2 (xv 3) a_3)) (O_1 (cEq z.units) (c_2 (xv 3) a_3) k_2))
 (xs1 (aA1 T.z_range (xgN 7 S19.nd) (xv 4) (xv 5) (xs1 (aA1 T.z_range (xgN 8 S19.nd) (c_2 (xv 6) a_3) (xb y_2 (c_2 (xv 6) a_3) a_3) (xs1 (q_1 (xt (cEq z.units) (xb q_8 (xv 8) (c_2 (xv 6) a_3)) (c_2 (xv 6) a_3))
 (xs1 (aQ2 2 (xaC (N_9 (xaC (xv 7) (xaC (xv 1) (xaC (xv 8) xaN)))) xaN)))
 xsN))))))
 xsN)))
 (xs1 (bf3 2 (f_8 (xv 2))))))),S,F.kp,O⟩
abbrev m_2:Stmt:=top 80
theorem S1a:FnScope ["_law_ask","_law_fold_here","_law_things_here","_law_cell","_law_amount","_law_one","_law_found"] ["_law_ask","_law_fold_here","_law_things_here","_law_cell"] (a_0 m_2):=⟨rfl,rfl,rfl,by decide +kernel,rfl,by decide +kernel,by decide +kernel⟩
theorem L_6 {f:Addr}{fd:FuncData} (F:Fun K "_law_answer" "_law_answer" m_2 f fd) (bF:Binds K fd ["_law_ask","_law_fold_here","_law_things_here","_law_cell"] []) (Y:mg "_law_answer"=some (.ref f)) (T:Blt w K mg) (O:DefOk P w K mg base 3 "fold_cells" m_7) (z:DefOk P w K mg base 2 "told_answer" b_9):DefOk P w K mg base 4 "_law_answer" d_3 :=
 ⟨f,fd,["_law_ask","_law_fold_here","_law_things_here","_law_cell"],e_5 F S1a rfl rfl (λ Z A outer s H E S =>
 (xsC (o_6 4 S1a.nd m_9)
 (xsC (aE9 (xgT (aQ1 (xgN 5 S1a.nd) (aQ1 (xgN 6 S1a.nd) bs7))) (xG O S (xaC (xv 1) (xaC (xv 2) xaN)))
 (xs1 (q_1 (xt (cEq S.units) (xv 5) (xv 3))
 (xs1 (o_6 4 S1a.nd (xv 6)))
 xsN)))
 (xs1 (f_8 (xG z S (xaC (xv 0) (xaC (xv 4) xaN)))))))),bF,F.kp,Y⟩
abbrev n_7:Stmt:=top 81
theorem S1b:FnScope ["_law_ask","_law_fold_here","_law_there","_law_cell","_law_things_here","_law_now","_law_thing","_law_often"] ["_law_ask","_law_fold_here","_law_there","_law_cell","_law_things_here"] (a_0 n_7):=⟨rfl,rfl,rfl,by decide +kernel,rfl,by decide +kernel,by decide +kernel⟩
theorem Q_0 {f:Addr}{fd:FuncData} (F:Fun K "_law_moved" "_law_moved" n_7 f fd) (Z:Binds K fd ["_law_ask","_law_fold_here","_law_there","_law_cell","_law_things_here"] []) (S:mg "_law_moved"=some (.ref f)) (T:Blt w K mg) (z:DefOk P w K mg base 4 "_law_answer" d_3):DefOk P w K mg base 5 "_law_moved" i_8 :=
 ⟨f,fd,["_law_ask","_law_fold_here","_law_there","_law_cell","_law_things_here"],e_5 F S1b rfl rfl (λ Y A outer s H E O =>
 (xsC (o_6 5 S1b.nd (xG z O (xaC (xv 0) (xaC (xv 1) (xaC (xv 2) (xaC (xv 3) xaN))))))
 (xsC (aE9 (xgN 6 S1b.nd) (xv 4)
 (xs1 (aE9 (xgN 7 S1b.nd) (O_0 (xaC a_3 (xaC a_3 (xaC a_3 (xaC a_3 xaN)))))
 (xs1 (q_1 (xt (cNe O.units) (xG z O (xaC (xv 0) (xaC (xv 1) (xaC (xB (G_1 O.units) rfl T.z_sorted PyProof.Rows.boot_sorted (xaC (xb y_2 (xv 2) (xb bm3 (O_0 (xaC (xv 6) xaN)) (xv 7))) xaN)) (xaC (xv 3) xaN))))) (xv 5))
 (xs1 (f_8 xbl))
 xsN)))))
 (xs1 (f_8 xbl))))),Z,F.kp,S⟩
abbrev c_6:Stmt:=top 82
abbrev s_2:List Str:=["_law_ask","_law_fold_here","_law_there","_law_cell","_law_things_here","_law_xs","_law_now","_law_turn","_law_row"]
theorem S1c:FnScope s_2 ["_law_ask","_law_fold_here","_law_there","_law_cell","_law_things_here","_law_xs"] (a_0 c_6):=⟨rfl,rfl,rfl,by decide +kernel,rfl,by decide +kernel,by decide +kernel⟩
theorem z_2 {f:Addr}{fd:FuncData} (F:Fun K "_law_rows_still" "_law_rows_still" c_6 f fd) (Z:Binds K fd ["_law_ask","_law_fold_here","_law_there","_law_cell","_law_things_here","_law_xs"] []) (S:mg "_law_rows_still"=some (.ref f)) (T:Blt w K mg) (z:DefOk P w K mg base 4 "_law_answer" d_3):DefL P w K mg base 5 "_law_rows_still" d_5 :=
 ⟨f,fd,["_law_ask","_law_fold_here","_law_there","_law_cell","_law_things_here","_law_xs"],bc5 F S1c rfl rfl (λ Y A outer s H E O =>
 (xsC (o_6 6 S1c.nd (xG z O (xaC (xv 0) (xaC (xv 1) (xaC (xv 2) (xaC (xv 3) xaN))))))
 (xsC (O_3 T.z_range (xgN 7 S1c.nd) a_3 (xsC (as6 8 S1c.nd 5 1 T.z_range (sc:=a_0 c_6) rfl rfl (by show ScB s_2 (a_0 c_6) _ "_law_k" ["_law_things_here","_law_xs"] [4,5];exact⟨rfl,rfl,by decide +kernel,by decide +kernel,rfl,by decide +kernel,by decide +kernel,rfl,by decide +kernel⟩) (xb y_2 a_3 (xb q_8 (xb s_0 (xq 5) a_3) a_3)) (λ _ _ _ _=>y_6) (λ _ _ _ _=>(c_2 (xv 1) (xb q_8 (xb s_0 (xq 2) a_3) (xB x_5 rfl T.z_len PySem.boot_len (xaC (xv 1) xaN))))))
 (xs1 (q_1 (xt (cNe O.units) (xG z O (xaC (xv 0) (xaC (xv 1) (xaC (xB (G_1 O.units) rfl T.z_sorted PyProof.Rows.boot_sorted (xaC (xb y_2 (xv 2) (xv 8)) xaN)) (xaC (xv 3) xaN))))) (xv 6))
 (xs1 (f_8 xbl))
 xsN))))
 (xs1 (f_8 xbl))))),Z,F.kp,S⟩
abbrev K_3:Stmt:=top 83
theorem S1d:FnScope ["_law_script","_law_xs","_law_fold_here","_law_ask","_law_works","_law_there","_law_boxes_here","_law_key","_law_window","_law_handed","_law_found","_law_things_here"] ["_law_script"] (a_0 K_3):=⟨rfl,rfl,rfl,by decide +kernel,rfl,by decide +kernel,by decide +kernel⟩
theorem bc3 {f:Addr}{fd:FuncData} (F:Fun K "law" "law" K_3 f fd) (T:Blt w K mg) (aa:DefB P w K mg base 1 "_law_bounds" b_4) (ac:DefB P w K mg base 2 "_law_boxes" l_4) (S:DefOk P w K mg base 1 "_law_cell_at" f_0) (ae:DefB P w K mg base 1 "_law_fold" j_8) (O:DefOk P w K mg base 1 "_law_in_boxes" f_6) (ad:DefOk P w K mg base 5 "_law_moved" i_8) (z:DefL P w K mg base 5 "_law_rows_still" d_5) (Z:DefN P w K mg base 1 "_law_stream" h_0) (ab:DefB P w K mg base 1 "_law_things" i_7) (Y:DefOk P w K mg base 9 "boxes_turn" j_0):FnOk P w K mg base CX0 10 f fd ["_law_script"] (spP K ak6) :=
 e_5 F S1d rfl rfl (λ af A outer s H E hr =>
 (@YSs.go _ _ _ (ysC (yx (bB2 1 S1d.nd Z (hr.mono (by decide)) (xaC (xG S hr (xaC (xv 0) (xaC a_3 xaN))) (xaC a_3 xaN)))) (ysC (y_4 2 S1d.nd (ye (xFb 1 ae (hr.mono (by decide)) (xaC k_2 (xaC k_2 xaN))))) (ysC (y_4 3 S1d.nd (y_3 (yaC (ye k_2) (yaC (ye k_2) (yaC (y_3 (yaC (ye k_2) yaN)) (yaC (ye (xFb 1 aa (hr.mono (by decide)) (xaC (xv 2) xaN))) yaN)))))) (ysC (y_4 4 S1d.nd (aR6 (yaC (y_3 (yaC (ye k_2) (yaC (ye k_2) (yaC (y_3 yaN) (yaC (y_3 (yaC (ye m_9) (yaC (ye m_9) yaN))) yaN))))) (yaC (ye (xv 2)) (yaC (ye (xv 3)) yaN))))) (ysC (y_4 5 S1d.nd (ye (xFb 1 ab (hr.mono (by decide)) (xaC a_3 xaN)))) (ysC (y_4 6 S1d.nd (ye (xFb 1 ac (hr.mono (by decide)) (xaC a_3 (xaC a_3 xaN))))) (ysC (y_4 7 S1d.nd (yix (aR6 (yaC (ye k_2) (yaC (ye k_2) (yaC (ye k_2) yaN)))) (yb q_8 (yb s_0 (ye (xq 1)) (ye a_3)) (ye a_3)))) (ysC (y_4 8 S1d.nd (yb q_8 (yb s_0 (ye (xq 1)) (ye a_3)) (ye a_3))) (ysC (yif (xt (cEq hr.units) (c_2 (xv 2) a_3) k_2)
 (ys1 (y_4 8 S1d.nd (ye a_3)))
 ysN) (ysC (y_4 9 S1d.nd (y_3 (yaC (ye (xTy ac0 rfl T.z_list PyProof.Rows.boot_list (xaC (xv 5) xaN))) (yaC (ye (xTy ac0 rfl T.z_list PyProof.Rows.boot_list (xaC (xv 6) xaN))) yaN)))) (ysC (y_4 10 S1d.nd (ye (xG Y hr (xaC (xv 4) (xaC k_2 (xaC (xv 7) (xaC (xv 8) (xaC (c_2 (xv 9) a_3) (xaC (c_2 (xv 9) a_3) xaN))))))))) (ysC (yif (xw (X_5 (O_2 (xtv (xty (t:=.bool) T.z_isinstance T.z_bool PyProof.Rows.boot_bool (xv 10)) (λ _=>rfl))) (B_0 (xt (cNe hr.units) (xv 9) (N_9 (xaC (xv 5) (xaC (xv 6) xaN)))))))
 (ys1 (as4 (ye xbl)))
 ysN) (ysC (y_4 11 S1d.nd (ye (xG O hr (xaC (xv 6) (xaC (xv 7) xaN))))) (ysC (yif (xt (cNe hr.units) (xv 10) (xG ad hr (xaC (xv 3) (xaC (xv 2) (xaC (xv 5) (xaC (N_9 (xaC (xv 7) (xaC (xv 8) xaN))) (xaC (xv 11) xaN)))))))
 (ys1 (as4 (ye xbl)))
 ysN) (ysC (yif (xw (X_5 (xtv (xv 10) (λ _=>rfl)) (B_0 (xt (cEq hr.units) (xv 11) (O_0 xaN)))))
 (ys1 (as4 (ye xbl)))
 ysN) (ys1 (as4 (ye (xFl 1 z (hr.mono (by decide)) (aS1 1 (xv 3) (aS1 1 (xv 2) (aS1 1 (xv 5) (aS1 1 (N_9 (xaC (xv 7) (xaC (xv 8) xaN))) (aS1 1 (xv 11) (bB9 1)))))))))))))))))))))))))))
end
end Fx
namespace Fx
open PySem
abbrev kA:Str:=Str.ofString "a"
abbrev kB:Str:=Str.ofString "b"
abbrev kZ:Str:=Str.ofString "zz"
noncomputable def IsK (k:Str):Prop:=k=kA\/k=kB\/k=kZ
structure Th where
 t:Int
 k:Str
 v:Int
 deriving DecidableEq
noncomputable def tD (x:Th):D:=.tup [.int x.t,.str x.k,.int x.v]
noncomputable def unT:D->Th
 |.tup [.int t,.str k,.int v]=>⟨t,k,v⟩
 |_=>⟨0,Str.empty,0⟩
theorem aS4 (x:Th):unT (tD x)=x:=rfl
theorem aZ8 (L:List Th):(L.map tD).map unT=L:=by
 rw[List.map_map];exact (List.map_congr_left λ x _=>aS4 x).trans (List.map_id L)
theorem ai0 (L:List Th):∃ S:List Th,sortT (L.map tD)=S.map tD/\S.Perm L:=by
 have z:=n_4 (L.map tD)
 have e:sortT (L.map tD)=((sortT (L.map tD)).map unT).map tD:=by
  rw[List.map_map];refine ((List.map_congr_left (g:=id) λ d O=>?_).trans (List.map_id _)).symm
  obtain⟨x,_,rfl⟩:=List.mem_map.mp (z.mem_iff.mp O);rfl
 refine⟨(sortT (L.map tD)).map unT,e,?_⟩;have:=z.map unT;rw[aZ8] at this;exact this
abbrev wC:Str:=Str.ofString "count"
abbrev wS:Str:=Str.ofString "sum"
abbrev wM:Str:=Str.ofString "most"
abbrev wL:Str:=Str.ofString "least"
theorem n1:(wC=wS)=False:=eq_false (by decide +kernel)
theorem n2:(wC=wM)=False:=eq_false (by decide +kernel)
theorem n3:(wS=wC)=False:=eq_false (by decide +kernel)
theorem n4:(wM=wC)=False:=eq_false (by decide +kernel)
theorem n5:(wM=wS)=False:=eq_false (by decide +kernel)
theorem n6:(wM=wL)=False:=eq_false (by decide +kernel)
theorem n7:(wL=wC)=False:=eq_false (by decide +kernel)
theorem n8:(wL=wS)=False:=eq_false (by decide +kernel)
theorem n9:(wL=wM)=False:=eq_false (by decide +kernel)
abbrev IsW (w:Str):Prop:=w=wC\/w=wS\/w=wM\/w=wL
theorem M_3:∀ (r:List Int) (m:Int),H_7 m r∈m::r
 |[],m=>qg
 |x::r,m=>by
  show H_7 (if m<x then x else m) r∈_;have:=M_3 r (if m<x then x else m)
  rcases qt this with h | h
  ·rw[h];split <;> simp
  ·exact qh _ (qh _ h)
theorem V_9:∀ (r:List Int) (m:Int),∀ x∈m::r,x<=H_7 m r
 |[],m,x,h=>by rw[List.mem_singleton.mp h];exact Int.le_refl _
 |y::r,m,x,h=>by
  show x<=H_7 (if m<y then y else m) r;have g:=V_9 r (if m<y then y else m);have O:=g _ qg;have S:m<=(if m<y then y else m):=by split <;> omega
  have z:y<=(if m<y then y else m):=by split <;> omega
  generalize (if m<y then y else m)=q at *
  rcases qt h with rfl | h
  ·omega
  ·rcases qt h with rfl | h
   ·omega
   ·exact g x (qh _ h)
theorem M_1:∀ (r:List Int) (m:Int),H_6 m r∈m::r
 |[],m=>qg
 |x::r,m=>by
  show H_6 (if x<m then x else m) r∈_;have:=M_1 r (if x<m then x else m)
  rcases qt this with h | h
  ·rw[h];split <;> simp
  ·exact qh _ (qh _ h)
theorem V_8:∀ (r:List Int) (m:Int),∀ x∈m::r,H_6 m r<=x
 |[],m,x,h=>by rw[List.mem_singleton.mp h];exact Int.le_refl _
 |y::r,m,x,h=>by
  show H_6 (if y<m then y else m) r<=x;have g:=V_8 r (if y<m then y else m);have O:=g _ qg;have S:(if y<m then y else m)<=m:=by split <;> omega
  have z:(if y<m then y else m)<=y:=by split <;> omega
  generalize (if y<m then y else m)=q at *
  rcases qt h with rfl | h
  ·omega
  ·rcases qt h with rfl | h
   ·omega
   ·exact g x (qh _ h)
noncomputable def mxL:List Int->Int
 |[]=>0 | a::r=>H_7 a r
noncomputable def mnL:List Int->Int
 |[]=>0 | a::r=>H_6 a r
theorem aZ3 {vs:List Int}{m:Int} (h:m∈vs) (g:∀ x∈vs,x<=m):mxL vs=m:=by
 cases vs with
 |nil=>cases h
 |cons a r =>
  have:=V_9 r a m h;have:=g _ (M_3 r a);show H_7 a r=m;omega
theorem aZ5 {vs:List Int}{m:Int} (h:m∈vs) (g:∀ x∈vs,m<=x):mnL vs=m:=by
 cases vs with
 |nil=>cases h
 |cons a r =>
  have:=V_8 r a m h;have:=g _ (M_1 r a);show H_6 a r=m;omega
theorem ak0 {vs:List Int} (h:vs≠[]):mxL vs∈vs/\∀ x∈vs,x<=mxL vs:=by
 cases vs with
 |nil=>exact absurd rfl h
 |cons a r=>exact⟨M_3 r a,V_9 r a⟩
theorem ak1 {vs:List Int} (h:vs≠[]):mnL vs∈vs/\∀ x∈vs,mnL vs<=x:=by
 cases vs with
 |nil=>exact absurd rfl h
 |cons a r=>exact⟨M_1 r a,V_8 r a⟩
theorem at6 {a b:List Int} (p:a.Perm b):a.sum=b.sum:=by
 induction p with
 |nil=>rfl
 |cons x _ z=>rw[List.sum_cons,List.sum_cons,z]
 |swap x y l=>simp only[List.sum_cons];omega
 |trans _ _ h1 h2=>exact h1.trans h2
noncomputable def amt (w:Str) (vs:List Int):Int:=if w=wC then (vs.length:Int) else if w=wS then vs.sum else if w=wM then mxL vs else mnL vs
theorem az6 {w:Str}{a b:List Int} (p:a.Perm b):amt w a=amt w b:=by
 by_cases h:a=[]
 ·subst h;rw[List.nil_perm.mp p]
 ·have S:=ak0 h
  have O:=ak1 h;unfold amt;rw[p.length_eq,at6 p,<- aZ3 (p.mem_iff.mp S.1) λ x z=>S.2 x (p.mem_iff.mpr z),<- aZ5 (p.mem_iff.mp O.1) λ x z=>O.2 x (p.mem_iff.mpr z)]
noncomputable def Sm (L:List Th):Prop:=∀ u∈L,0<=u.t/\u.t<15/\IsK u.k
theorem aZ0 {α:Type} [DecidableEq α]:∀ (l m:List α),l.Nodup->(∀ x∈l,x∈m)->l.length<=m.length
 |[],m,_,_=>Nat.zero_le _
 |x::l,m,nd,h=>by
  rw[List.nodup_cons] at nd;have:=aZ0 l (m.erase x) nd.2 λ y O=>(List.mem_erase_of_ne λ z=>nd.1 (by rw[<- z];exact O)).mpr (h y (qh _ O))
  rw[List.length_erase_of_mem (h x List.mem_cons_self)] at this;have:=List.length_pos_of_mem (h x qg);rw[List.length_cons];omega
noncomputable def bx0 (o:Option Res):Option (D×MO):=bnd o λ r=>bl1 r
noncomputable def aV2 (d:D) (o:Option (Bool×MO)):Option (D×MO):=bnd o λ q=>if q.1=true then some (d,q.2) else none
@[simp] theorem bL3 (n k:Nat) (B:FS) (o:MO) (ds:List D):fnB n k B o ds=if ds.length=n then bx0 (B (.ow true o::(ds.map .im++List.replicate k .no))) else none:=zR rfl
@[simp] theorem bw9 (d:D) (ρ:En):bx0 (some (.rt d ρ))=aV2 d (owO ρ[0]?):=zR rfl
@[simp] theorem bl0 (d:D) (o:MO):aV2 d (some (true,o))=some (d,o):=zR rfl
@[simp] theorem bL0 (n k:Nat) (F:En->Option MO) (ds:List D):fnN n k F ds=if ds.length=n then F (ds.map .im++List.replicate k .no) else none:=zR rfl
noncomputable def aZ1 (F:En->Option MO) (o:Option Res):Option MO:=bnd o λ r=>match r with
 |.nx z=>F z
 |_=>none
@[simp] theorem bF7 (A:FS) (F:En->Option MO) (ρ:En):av8 A F ρ=aZ1 F (A ρ):=zR rfl
@[simp] theorem bm6 (F:En->Option MO) (ρ:En):aZ1 F (some (.nx ρ))=F ρ:=zR rfl
noncomputable def bm8 (js:List Nat) (i q:Nat) (ρ:En) (b:Bool) (xs:List D) (o:Option (List D×MO)):Option (D×En):=bnd o λ t=>if xs.length<=sizeLine/\js[q]?=some i/\js.Nodup then some (.lst t.1,ρ.set i (.ow b t.2)) else none
noncomputable def bw0 (js:List Nat) (i q:Nat) (T:FT) (F:FE) (xs:List D) (ρ:En) (o:Option (Bool×MO)):Option (D×En):=bnd o λ w=>bm8 js i q ρ w.1 xs (ac1 T F ρ i js q w.2 xs)
@[simp] theorem bK8 (js:List Nat) (i q:Nat) (T:FT) (F:FE) (xs:List D) (ρ:En):lcB js i q T F xs ρ=bw0 js i q T F xs ρ (owO ρ[i]?):=zR rfl
@[simp] theorem bv9 (js:List Nat) (i q:Nat) (T:FT) (F:FE) (xs:List D) (ρ:En) (b:Bool) (o:MO):bw0 js i q T F xs ρ (some (b,o))=bm8 js i q ρ b xs (ac1 T F ρ i js q o xs):=zR rfl
@[simp] theorem bv8 (js:List Nat) (i q:Nat) (ρ:En) (b:Bool) (xs ys:List D) (o:MO):bm8 js i q ρ b xs (some (ys,o))=if xs.length<=sizeLine/\js[q]?=some i/\js.Nodup then some (.lst ys,ρ.set i (.ow b o)) else none:=zR rfl
theorem E_5 {i j:Int} (h:j.natAbs<2 ^ 64):v_6 i j=true:=by
 unfold v_6;rw[decide_eq_true h];simp
theorem aI8 {i j:Int} (h:i.natAbs<2 ^ 64):v_6 i j=true:=by
 unfold v_6;rw[decide_eq_true h];simp
theorem z_3 {j:Int} (z:j≠0) (h:j.natAbs<2 ^ 64):z_4 j=true:=by
 unfold z_4;rw[decide_eq_true z,decide_eq_true (Nat.lt_trans h (Nat.pow_lt_pow_right (by decide) (by decide)))];rfl
theorem l_6 {n:Nat} (h:n<=1000):n<=sizeLine:=Nat.le_trans h (by decide)
theorem C_8:∀ vs:List Int,t_4 (vs.map D.int)=some vs
 |[]=>rfl
 |v::r=>by rw[List.map_cons,F_5,C_8 r];rfl
theorem T_4 {w:Str} (hw:IsW w) {vs:List Int} (z:vs≠[]):c_0 [.str w,.lst (vs.map .int)]=some (.int (amt w vs)):=by
 obtain⟨a,r,rfl⟩:=List.exists_cons_of_ne_nil z;have es:be4 [.lst ((a::r).map .int)]=some (.int (a::r).sum):=by rw[be3,C_8];rfl
 have ex:az4 [.lst ((a::r).map .int)]=some (.int (H_7 a r)):=by rw[be6,C_8];rfl
 have S:aP4 [.lst ((a::r).map .int)]=some (.int (H_6 a r)):=by rw[be5,C_8];rfl
 have O:G_7 [.lst ((a::r).map .int)]=some (.int (a::r).length):=by rw[aP5,List.length_map]
 unfold amt
 generalize D.lst ((a::r).map .int)=x at *
 rcases hw with rfl | rfl | rfl | rfl
 ·simp[c_0,q_0,O]
 ·simp[c_0,q_0,es,n3]
 ·simp[c_0,q_0,ex,n4,n5,mxL]
 ·simp[c_0,q_0,S,n7,n8,n9,mnL]
theorem am0 (a b c:D):atD [a,b,c] 0=some a:=rfl
theorem al9 (a b c:D):atD [a,b,c] 1=some b:=rfl
theorem al8 (a b c:D):atD [a,b,c] 2=some c:=rfl
theorem z_6 (a b c d:D):atD [a,b,c,d] 0=some a:=rfl
theorem t_3 (a b c d:D):atD [a,b,c,d] 3=some d:=rfl
theorem R_7 (a b:D):atD [a,b] 0=some a:=rfl
theorem F_2 (a b:D):atD [a,b] 1=some b:=rfl
theorem C_1 (a b c d:D):atD [a,b,c,d] 1=some b:=rfl
theorem z_5 (a b c d:D):atD [a,b,c,d] 2=some c:=rfl
theorem be9 (L:List Th):(L.map tD).all r3=true:=by
 rw[List.all_eq_true];intro d z;obtain⟨x,_,rfl⟩:=List.mem_map.mp z;rfl
theorem ac5 (L:List Th) (hl:L.length<64):A_9 [.lst (L.map tD)]=some (.lst (sortT (L.map tD))):=by
 rw[az3,if_pos ⟨by rw[List.length_map];exact hl,.inl (be9 L)⟩]
noncomputable def rowD (kind:Str) (rest:List D):D:=.tup [.str kind,.str "f",.tup [.str "x"],.tup rest]
inductive Fold where
 |ever (w:Str) | fixed (s:Int) (w:Str) | slide (wd s:Int) (w:Str)
noncomputable def Fold.D':Fold->D
 |.ever w=>rowD (Str.ofString "ever") [.str w]
 |.fixed s w=>rowD (Str.ofString "fixed") [.int s,.str w]
 |.slide wd s w=>rowD (Str.ofString "slide") [.int wd,.int s,.str w]
noncomputable def Fold.ok:Fold->Prop
 |.ever w=>IsW w
 |.fixed s w=>IsW w/\1<=s/\s<=100000000000
 |.slide wd s w=>IsW w/\1<=s/\s<=3/\s<wd/\wd<=s+4
noncomputable def Y_9 (lo:Int):Nat->List Int
 |0=>[]
 |n+1=>lo::Y_9 (lo+1) n
theorem aB8:∀ (n:Nat) (lo:Int),o_9 lo n=(Y_9 lo n).map .int
 |0,lo=>rfl
 |n+1,lo=>by
  show D.int lo::o_9 (lo+1) n=_;rw[aB8 n];rfl
noncomputable def Fold.wins (f:Fold) (t:Int):List Int:=match f with
 |.ever _=>[0]
 |.fixed s _=>[t.fdiv s]
 |.slide wd s _=>Y_9 ((t-wd).fdiv s+1) (t.fdiv s+1-((t-wd).fdiv s+1)).toNat
theorem kn1:(Str.ofString "ever"=Str.ofString "fixed")=False:=eq_false (by decide +kernel)
theorem kn2:(Str.ofString "ever"=Str.ofString "slide")=False:=eq_false (by decide +kernel)
theorem kn3:(Str.ofString "slide"=Str.ofString "fixed")=False:=eq_false (by decide +kernel)
theorem kn4:(Str.ofString "fixed"=Str.ofString "ever")=False:=eq_false (by decide +kernel)
theorem kn5:(Str.ofString "slide"=Str.ofString "ever")=False:=eq_false (by decide +kernel)
theorem I_0 (a b c d:D):atD [a,b,c,d] 0=some a:=rfl
theorem W_2 (a b c d:D):atD [a,b,c,d] 3=some d:=rfl
theorem bb6 (a b:D):atD [a,b] 0=some a:=rfl
theorem bb5 (a b c:D):atD [a,b,c] 0=some a:=rfl
theorem bb4 (a b c:D):atD [a,b,c] 1=some b:=rfl
theorem K_4:∀ (n:Nat) (lo:Int),(Y_9 lo n).length=n
 |0,_=>rfl
 |n+1,lo=>by show (Y_9 (lo+1) n).length+1=n+1;rw[K_4 n]
theorem I_3 (f:Fold) (hf:f.ok) (t:Int) (Y:0<=t) (h1:t<1000000000000):e_9 [f.D',.int t]=some (.lst ((f.wins t).map .int))/\(f.wins t).length<=20:=by
 cases f with
 |ever w=>exact⟨by simp[e_9,q_5,Fold.D',rowD,Fold.wins,I_0,W_2,kn1,kn2],by show (1:Nat)<=20;decide⟩
 |fixed s w =>
  obtain⟨hw,s0,s1⟩:=hf;have z:z_4 s=true:=z_3 (by omega) (by omega)
  exact⟨by simp[e_9,q_5,Fold.D',rowD,Fold.wins,I_0,W_2,bb6,z],by show (1:Nat)<=20;decide⟩
 |slide wd s w =>
  obtain⟨hw,s0,s1,s2,s3⟩:=hf;have z:z_4 s=true:=z_3 (by omega) (by omega)
  have S:t.fdiv s=t / s:=Int.fdiv_eq_ediv_of_nonneg _ (by omega)
  have O:(t-wd).fdiv s=(t-wd) / s:=Int.fdiv_eq_ediv_of_nonneg _ (by omega)
  have b1:0<=t / s:=Int.ediv_nonneg Y (by omega)
  have b2:t / s<=t:=Int.ediv_le_self _ Y
  have b3:-800000000001<=(t-wd) / s:=by
   rw[Int.le_ediv_iff_mul_le (by omega)]
   have:-800000000001*s<=-800000000001:=by omega
   omega
  have b4:(t-wd) / s<=1000000000000:=Int.le_trans (Int.ediv_le_ediv (by omega) (show t-wd<=t by omega)) (by omega)
  have b5:t / s-(t-wd) / s<=20:=by
   have:(t-20*s) / s<=(t-wd) / s:=Int.ediv_le_ediv (by omega) (by omega)
   have e:(t-20*s) / s=t / s-20:=by
    rw[show t-20*s=t+(-20)*s by omega,Int.add_mul_ediv_right _ _ (by omega)];omega
   omega
  have ln:(t.fdiv s+1-((t-wd).fdiv s+1)).toNat<=20:=by rw[S,O];omega
  refine⟨?_,?_⟩
  ·have c1:(Y_9 ((t-wd).fdiv s+1) (t.fdiv s+1-((t-wd).fdiv s+1)).toNat).length<=1000:=by rw[K_4];omega
   have r1:-4611686018427387904<=(t-wd).fdiv s+1:=by rw[O];omega
   have r2:(t-wd).fdiv s+1<4611686018427387904:=by rw[O];omega
   have r3:-4611686018427387904<=t.fdiv s+1:=by rw[S];omega
   have Z:t.fdiv s+1<4611686018427387904:=by rw[S];omega
   simp[e_9,q_5,Fold.D',rowD,Fold.wins,I_0,W_2,bb5,bb4,z,kn3,r1,r2,r3,Z,c1,aB8]
  ·show (Y_9 _ _).length<=20
   rw[K_4];exact ln
abbrev Grp:=List ((Str×Int)×List Int)
noncomputable def T_8 (k:Str×Int) (v:Int):Grp->Grp
 |[]=>[(k,[v])]
 |q::r=>if q.1=k then (q.1,q.2++[v])::r else q::T_8 k v r
noncomputable def gD (g:Grp):List ((Str×Int)×List D):=g.map λ q=>(q.1,q.2.map .int)
theorem ar4 (k:Str×Int) (v:Int):∀ g:Grp,r_9 k (.int v) (gD g)=gD (T_8 k v g)
 |[]=>rfl
 |q::r=>by
  show (if q.1=k then (q.1,q.2.map D.int++[.int v])::gD r else (q.1,q.2.map .int)::r_9 k (.int v) (gD r))=gD (if q.1=k then (q.1,q.2++[v])::r else q::T_8 k v r)
  split
  ·simp[gD]
  ·rw[ar4 k v r];rfl
noncomputable def C_2 (k:Str) (v:Int) (z:List Int) (g:Grp):Grp:=z.foldl (λ g w=>T_8 (k,w) v g) g
noncomputable def grp (f:Fold) (L:List Th) (g:Grp):Grp:=L.foldl (λ g x=>C_2 x.k x.v (f.wins x.t) g) g
theorem am6 (x:Th):∀ (z:List Int) (n:Nat) (g:Grp),n+z.length<=1000->am7 (tD x) (z.map .int) n (gD g)=some (n+z.length,gD (C_2 x.k x.v z g))
 |[],n,g,_=>rfl
 |w::r,n,g,h=>by
  show bnd (aQ4 (tD x) (.int w)) (λ q=>if n<1000 then am7 (tD x) (r.map .int) (n+1) (r_9 q.1 q.2 (gD g)) else none)=_
  have e:aQ4 (tD x) (.int w)=some ((x.k,w),.int x.v):=rfl;rw[e];show (if n<1000 then am7 (tD x) (r.map .int) (n+1) (r_9 (x.k,w) (.int x.v) (gD g)) else none)=_;rw[List.length_cons] at h;rw[if_pos (by omega),ar4,am6 x r (n+1) _ (by omega)]
  rw[List.length_cons,show n+1+r.length=n+(r.length+1) by omega];rfl
theorem ab0 (f:Fold) (O:D) {G:FE} (hG:∀ (x:Th) (th:D) (S:Sl),0<=x.t->x.t<1000000000000->∃ Z,G [.im O,.im th,.no,.im (tD x),S]=some (.lst ((f.wins x.t).map .int),Z)) (hw:∀ t,0<=t->t<1000000000000->(f.wins t).length<=20) (th:D) :
  ∀ (L:List Th) (n:Nat) (g:Grp) (s3 S:Sl),(∀ x∈L,0<=x.t/\x.t<1000000000000)->n+20*L.length<=1000->s3≠.ow true (.lst []) ->
  ∃ aa Y:Sl,M_6 3 4 G (L.map tD) [.im O,.im th,.no,s3,S] n (gD g)=some ([.im O,.im th,.no,aa,Y],gD (grp f L g))
 |[],n,g,s3,S,_,_,_=>⟨s3,S,rfl⟩
 |x::L,n,g,s3,S,hb,hn,h3=>by
  obtain⟨t0,t1⟩:=hb x qg;obtain⟨Z,e⟩:=hG x th S t0 t1;have ab:=hw x.t t0 t1;rw[List.length_cons] at hn;have e2:=am6 x (f.wins x.t) n g (by omega)
  obtain⟨Y,hl⟩:∃ Y,k_6 4 ((f.wins x.t).map D.int) [.im O,.im th,.no,.im (tD x),S]=[.im O,.im th,.no,.im (tD x),Y]:=by
   unfold k_6
   split
   ·exact⟨_,rfl⟩
   ·exact⟨_,rfl⟩
  obtain⟨a3,a4,ih⟩:=ab0 f O hG hw th L (n+(f.wins x.t).length) (C_2 x.k x.v (f.wins x.t) g) (.im (tD x)) Y (λ y hy=>hb y (qh _ hy)) (by omega) (λ z=>nomatch z)
  refine⟨a3,a4,?_⟩;show bnd (G [.im O,.im th,.no,.im (tD x),S]) (λ p=>bnd (lsX p.1) λ ws=>bnd (am7 (tD x) ws n (gD g)) λ q=>M_6 3 4 G (L.map tD) (k_6 4 ws [.im O,.im th,.no,.im (tD x),S]) q.1 q.2)=_
  rw[e];show bnd (am7 (tD x) ((f.wins x.t).map .int) n (gD g)) (λ q=>M_6 3 4 G (L.map tD) (k_6 4 ((f.wins x.t).map .int) [.im O,.im th,.no,.im (tD x),S]) q.1 q.2)=_
  rw[e2];show M_6 3 4 G (L.map tD) (k_6 4 ((f.wins x.t).map .int) [.im O,.im th,.no,.im (tD x),S]) (n+(f.wins x.t).length) (gD (C_2 x.k x.v (f.wins x.t) g))=_;rw[hl];exact ih
noncomputable def gOk (g:Grp):Prop:=(g.map (·.1)).Nodup/\∀ q∈g,q.2≠[]
theorem x_9 (k:Str×Int) (v:Int):∀ g:Grp,(T_8 k v g).map (·.1)=if k∈g.map (·.1) then g.map (·.1) else g.map (·.1)++[k]
 |[]=>rfl
 |q::r=>by
  show ((if q.1=k then (q.1,q.2++[v])::r else q::T_8 k v r)).map (·.1)=_
  by_cases h:q.1=k
  ·rw[if_pos h,if_pos (by rw[<- h];exact qg)];rfl
  ·rw[if_neg h,List.map_cons,x_9 k v r,List.map_cons]
   by_cases z:k∈r.map (·.1)
   ·rw[if_pos z,if_pos (List.mem_cons_of_mem _ z)]
   ·rw[if_neg z,if_neg (λ y=>by rcases List.mem_cons.mp y with y | y;exact h y.symm;exact z y)];rfl
theorem aP7 {k:Str×Int}{v:Int}{g:Grp} (h:gOk g):gOk (T_8 k v g):=by
 refine⟨?_,?_⟩
 ·rw[x_9]
  split
  ·exact h.1
  ·rename_i z
   rw[List.nodup_append];exact⟨h.1,by simp,λ a ha b hb e=>z (by rw[<- List.mem_singleton.mp hb,<- e];exact ha)⟩
 ·have h2:=h.2
  clear h
  induction g with
  |nil=>intro q O;rw[List.mem_singleton.mp O];simp
  |cons x r Y =>
   intro q O;have O:q∈(if x.1=k then (x.1,x.2++[v])::r else x::T_8 k v r):=O
   split at O
   ·rcases qt O with rfl | O
    ·simp
    ·exact h2 q (qh _ O)
   ·rcases qt O with rfl | O
    ·exact h2 _ qg
    ·exact Y (λ y S=>h2 y (qh _ S)) q O
theorem ac8 {k:Str}{v:Int}:∀ (z:List Int) {g:Grp},gOk g->gOk (C_2 k v z g)
 |[],_,h=>h
 |w::r,g,h=>ac8 (k:=k) (v:=v) r (aP7 h)
theorem aD9 (f:Fold):∀ (L:List Th) {g:Grp},gOk g->gOk (grp f L g)
 |[],_,h=>h
 |x::L,g,h=>aD9 f L (ac8 _ h)
theorem aw3 {g:List ((Str×Int)×D)} (nd:(g.map (·.1)).Nodup) {q:(Str×Int)×D} (z:q∈g):E_9 q.1 g=some q.2:=by
 induction g with
 |nil=>cases z
 |cons x r O =>
  rw[List.map_cons,List.nodup_cons] at nd;unfold E_9;rw[List.find?_cons]
  rcases qt z with rfl | z
  ·simp
  ·have S:¬ x.1=q.1:=λ e=>nd.1 (by rw[e];exact List.mem_map_of_mem z)
   rw[decide_eq_false S];exact O nd.2 z
noncomputable def Fold.word:Fold->Str
 |.ever w=>w | .fixed _ w=>w | .slide _ _ w=>w
theorem Fold.isW {f:Fold} (h:f.ok):IsW f.word:=by
 cases f with
 |ever w=>exact h
 |fixed s w=>exact h.1
 |slide wd s w=>exact h.1
noncomputable def p_9 (w:Str) (q:(Str×Int)×List Int):D:=.tup [kD q.1,.int (amt w q.2)]
theorem v_4 (f:Fold):∃ kind rest,f.D'=rowD kind rest ∧ atD rest (-1)=some (.str f.word) ∧ (kind=Str.ofString "gaps")=False:=by
 cases f with
 |ever w=>exact⟨_,_,rfl,rfl,eq_false (by decide +kernel)⟩
 |fixed s w=>exact⟨_,_,rfl,rfl,eq_false (by decide +kernel)⟩
 |slide wd s w=>exact⟨_,_,rfl,rfl,eq_false (by decide +kernel)⟩
theorem ab8 (f:Fold) (hf:f.ok) (G:List ((Str×Int)×D)):∀ (g:Grp),(∀ q∈g,q.2≠[]/\E_9 q.1 G=some (.lst (q.2.map .int))) ->
  cGo tYes (l_2 (aC (eV 0) (aC (eF c_0 (aC (e2 b_1 (e2 b_1 (eV 2) (zI 3)) (e1 ab6 (zI 1))) (aC (e2 ax8 (eV 1) (eV 0)) aN))) aN))) [.im (.opq (G.map (·.1)) (G.map (·.2))),.im f.D'] ((g.map (·.1)).map kD)=some (g.map (p_9 f.word))
 |[],_=>rfl
 |q::g,h=>by
  obtain⟨h1,h2⟩:=h q qg;obtain⟨kind,rest,Y,w2,_⟩:=v_4 f;have O:=ab8 f hf G g λ x hx=>h x (qh _ hx)
  have ea:=T_4 (f.isW hf) h1
  have ez:(G.map (·.1)).zip (G.map (·.2))=G:=by
   clear h h2 O
   induction G with
   |nil=>rfl
   |cons x r O=>simp[O]
  generalize Z:l_2 (aC (eV 0) (aC (eF c_0 (aC (e2 b_1 (e2 b_1 (eV 2) (zI 3)) (e1 ab6 (zI 1))) (aC (e2 ax8 (eV 1) (eV 0)) aN))) aN))=E at O ⊢
  have S:E [.im (kD q.1),.im (.opq (G.map (·.1)) (G.map (·.2))),.im f.D']=some (p_9 f.word q,[.im (kD q.1),.im (.opq (G.map (·.1)) (G.map (·.2))),.im f.D']):=by
   rw[<- Z,Y];unfold kD rowD p_9 kD;simp[W_2,w2,ez,h2,ea]
  show bnd (E [.im (kD q.1),.im (.opq (G.map (·.1)) (G.map (·.2))),.im f.D']) (λ z=>bnd (cGo tYes E [.im (.opq (G.map (·.1)) (G.map (·.2))),.im f.D'] ((g.map (·.1)).map kD)) λ t=>some (z.1::t))=_
  rw[S,O];rfl
theorem aL3:gOk []:=⟨List.nodup_nil,λ q z=>by cases z⟩
theorem aD8 (g:Grp):gtD (gD g)=g.map λ q=>(q.1,D.lst (q.2.map .int)):=by
 unfold gtD gD;rw[List.map_map];rfl
theorem ad0 (k:Str×Int) (v:Int):∀ g:Grp,(T_8 k v g).length<=g.length+1
 |[]=>qj _
 |q::r=>by
  show (if q.1=k then (q.1,q.2++[v])::r else q::T_8 k v r).length<=_;have:=ad0 k v r
  split <;> simp <;> omega
theorem T_5 (k:Str) (v:Int):∀ (z:List Int) (g:Grp),(C_2 k v z g).length<=g.length+z.length
 |[],g=>qj _
 |w::r,g=>by
  have:=T_5 k v r (T_8 (k,w) v g);have:=ad0 (k,w) v g;show (C_2 k v r (T_8 (k,w) v g)).length<=g.length+(r.length+1);omega
theorem am8 (f:Fold) (hw:∀ t,0<=t->t<1000000000000->(f.wins t).length<=20):∀ (L:List Th) (g:Grp),(∀ x∈L,0<=x.t/\x.t<1000000000000)->(grp f L g).length<=g.length+20*L.length
 |[],g,_=>qj _
 |x::L,g,h=>by
  obtain⟨O,S⟩:=h x qg;have a:=am8 f hw L (C_2 x.k x.v (f.wins x.t) g) λ y z=>h y (qh _ z)
  have b:=T_5 x.k x.v (f.wins x.t) g;have c:=hw x.t O S;show (grp f L (C_2 x.k x.v (f.wins x.t) g)).length<=_;rw[List.length_cons];omega
theorem D_2 (f:Fold) (hf:f.ok) (L:List Th) (hL:L.length<=16) (hb:∀ x∈L,0<=x.t/\x.t<1000000000000) :
  i_0 [f.D',.lst (L.map tD)]=some (.lst ((grp f L []).map (p_9 f.word))):=by
 have hw:∀ t,0<=t->t<1000000000000->(f.wins t).length<=20:=λ t a b=>(I_3 f hf t a b).2
 generalize hG:eF e_9 (aC (eV 0) (aC (e2 b_1 (eV 3) (zI 0)) aN))=G
 have Z:∀ (x:Th) (th:D) (O:Sl),0<=x.t->x.t<1000000000000->∃ ac,G [.im f.D',.im th,.no,.im (tD x),O]=some (.lst ((f.wins x.t).map .int),ac):=λ x th O a b=>by
  have e:=(I_3 f hf x.t a b).1;have j:atD [.int x.t,.str x.k,.int x.v] 0=some (.int x.t):=rfl;refine⟨[.im f.D',.im th,.no,.im (tD x),O],?_⟩;rw[<- hG];unfold tD;simp[j,e]
 obtain⟨Y,O,q1⟩:=ab0 f f.D' Z hw (.lst (L.map tD)) L 0 [] .no .no hb (by omega) (λ z=>nomatch z)
 have ok:=aD9 f L aL3;have ln:=am8 f hw L [] hb;have big:(1000:Nat)<=sizeLine:=by decide
 generalize hg:grp f L []=g at q1 ok ln
 have q2:=ab8 f hf (gtD (gD g)) g λ q hq=>⟨ok.2 q hq,by
  rw[aD8];exact aw3 (g:=g.map λ q=>(q.1,D.lst (q.2.map .int))) (by rw[List.map_map];exact ok.1) (q:=(q.1,.lst (q.2.map .int))) (List.mem_map_of_mem (f:=λ q:(Str×Int)×List Int=>(q.1,D.lst (q.2.map .int))) hq)⟩
 have ks:(gtD (gD g)).map (·.1)=g.map (·.1):=by rw[aD8,List.map_map];rfl
 have l1:(g.map (·.1)).length<=sizeLine:=by rw[List.length_map];simp at ln;omega
 have ab:M_6 3 4 G (L.map tD) [.im f.D',.im (.lst (L.map tD)),.no,.no,.no] 0 []=some ([.im f.D',.im (.lst (L.map tD)),.no,Y,O],gD g):=q1
 have sg:sGT 2 3 4 (eV 1) G [.im f.D',.im (.lst (L.map tD)),.ow false (.dtu []),.no,.no]=some (.nx [.im f.D',.im (.lst (L.map tD)),.ow false (.dtu (gtD (gD g))),Y,O]):=by
  simp[aU5,ab,V_5,bnd]
 have aa:cGo tYes (l_2 (aC (eV 0) (aC (eF c_0 (aC (e2 b_1 (e2 b_1 (eV 2) (zI 3)) (e1 ab6 (zI 1))) (aC (e2 ax8 (eV 1) (eV 0)) aN))) aN))) [.im (asT (gtD (gD g))),.im f.D'] (((gtD (gD g)).map (·.1)).map kD)=some (g.map (p_9 f.word)):=by rw[ks];exact q2
 have l2:((gtD (gD g)).map (·.1)).length<=sizeLine:=by rw[ks];exact l1
 have lk:eLK [2,0] (eV 2) tYes (l_2 (aC (eV 0) (aC (eF c_0 (aC (e2 b_1 (e2 b_1 (eV 2) (zI 3)) (e1 ab6 (zI 1))) (aC (e2 ax8 (eV 1) (eV 0)) aN))) aN))) [.im f.D',.im (.lst (L.map tD)),.im (asT (gtD (gD g))),Y,O]=some (.lst (g.map (p_9 f.word)),[.im f.D',.im (.lst (L.map tD)),.im (asT (gtD (gD g))),Y,O]):=by
  show bnd (cGo tYes _ [.im (asT (gtD (gD g))),.im f.D'] (((gtD (gD g)).map (·.1)).map kD)) (λ ys=>if ((gtD (gD g)).map (·.1)).length<=sizeLine then some (D.lst ys,_) else none)=_
  rw[aa];show (if ((gtD (gD g)).map (·.1)).length<=sizeLine then some (D.lst (g.map (p_9 f.word)),_) else none)=_;rw[if_pos l2]
 generalize hE:eLK [2,0] (eV 2) tYes (l_2 (aC (eV 0) (aC (eF c_0 (aC (e2 b_1 (e2 b_1 (eV 2) (zI 3)) (e1 ab6 (zI 1))) (aC (e2 ax8 (eV 1) (eV 0)) aN))) aN)))=E at lk
 generalize hS:sGT 2 3 4 (eV 1) G=S at sg
 unfold i_0 v_1;rw[hG,hE,hS];simp[List.replicate,sg,lk]
theorem ai5 (w:Str) (g:Grp):(g.map (p_9 w)).all r21=true:=by
 rw[List.all_eq_true];intro x z;obtain⟨q,_,rfl⟩:=List.mem_map.mp z;rfl
abbrev Ev:=(Str×Int)×Int
noncomputable def evs (f:Fold) (L:List Th):List Ev:=L.flatMap λ x=>(f.wins x.t).map λ w=>((x.k,w),x.v)
noncomputable def af9 (es:List Ev) (g:Grp):Grp:=es.foldl (λ g e=>T_8 e.1 e.2 g) g
theorem ar3 (k:Str) (v:Int) (z:List Int) (g:Grp):C_2 k v z g=af9 (z.map λ w=>((k,w),v)) g:=by
 unfold C_2 af9;rw[List.foldl_map]
theorem W_4 (f:Fold):∀ (L:List Th) (g:Grp),grp f L g=af9 (evs f L) g
 |[],g=>rfl
 |x::L,g=>by
  show grp f L (C_2 x.k x.v (f.wins x.t) g)=_;rw[W_4 f L,ar3];show _=af9 (((f.wins x.t).map λ w=>((x.k,w),x.v))++evs f L) g
  unfold af9;rw[List.foldl_append]
noncomputable def vals (k:Str×Int) (es:List Ev):List Int:=(es.filter λ e=>decide (e.1=k)).map (·.2)
structure GI (es:List Ev) (g:Grp):Prop where
 nd:(g.map (·.1)).Nodup
 ks:∀ k,k∈g.map (·.1)↔k∈es.map (·.1)
 vs:∀ q∈g,q.2=vals q.1 es
theorem ac9 {k:Str×Int}{v:Int}:∀ {g:Grp},(g.map (·.1)).Nodup->∀ {q},q∈T_8 k v g->(q.1≠k/\q∈g)\/(q.1=k/\((∃ u,(k,u)∈g/\q.2=u++[v])\/(k∉g.map (·.1)/\q.2=[v])))
 |[],_,q,O=>by rw[List.mem_singleton.mp O];exact .inr ⟨rfl,.inr ⟨by simp,rfl⟩⟩
 |x::r,nd,q,O=>by
  rw[List.map_cons,List.nodup_cons] at nd;have O:q∈(if x.1=k then (x.1,x.2++[v])::r else x::T_8 k v r):=O
  by_cases h:x.1=k
  ·rw[if_pos h] at O
   rcases qt O with rfl | O
   ·exact .inr ⟨h,.inl ⟨x.2,by rw[<- h];exact qg,rfl⟩⟩
   ·exact .inl ⟨λ e=>nd.1 (by rw[h,<- e];exact List.mem_map_of_mem O),qh _ O⟩
  ·rw[if_neg h] at O
   rcases qt O with rfl | O
   ·exact .inl ⟨h,qg⟩
   ·rcases ac9 nd.2 O with ⟨a,b⟩ | ⟨a,⟨u,b,c⟩ | ⟨b,c⟩⟩
    ·exact .inl ⟨a,qh _ b⟩
    ·exact .inr ⟨a,.inl ⟨u,qh _ b,c⟩⟩
    ·exact .inr ⟨a,.inr ⟨λ z=>by rcases qt z with z | z;exact h z.symm;exact b z,c⟩⟩
theorem ag8 (k:Str×Int) (es:List Ev) (e:Ev):vals k (es++[e])=vals k es++(if e.1=k then [e.2] else []):=by
 unfold vals;rw[List.filter_append,List.map_append]
 congr 1
 by_cases h:e.1=k
 ·simp[h]
 ·simp[h]
theorem GI.add {es:List Ev}{g:Grp} (h:GI es g) (e:Ev):GI (es++[e]) (T_8 e.1 e.2 g) where
 nd:=by
  rw[x_9]
  split
  ·exact h.nd
  ·rename_i z
   rw[List.nodup_append];exact⟨h.nd,by simp,λ a ha b hb q=>z (by rw[<- List.mem_singleton.mp hb,<- q];exact ha)⟩
 ks:=λ k=>by
  rw[x_9,List.map_append,List.mem_append,<- h.ks k]
  split
  ·rename_i z
   constructor
   ·exact .inl
   ·rintro (y | y)
    ·exact y
    ·simp at y;rw[y];exact z
  ·rw[List.mem_append];simp
 vs:=λ q S=>by
  rw[ag8]
  rcases ac9 h.nd S with ⟨a,b⟩ | ⟨a,⟨u,b,c⟩ | ⟨b,c⟩⟩
  ·rw[if_neg λ z=>a z.symm,List.append_nil];exact h.vs q b
  ·have:=h.vs _ b
   rw[if_pos a.symm,c,a]
   congr 1
  ·rw[if_pos a.symm,c,a]
   have:vals e.1 es=[]:=by
    unfold vals;rw[List.map_eq_nil_iff,List.filter_eq_nil_iff];intro x O;simp only[decide_eq_true_eq];exact λ z=>b ((h.ks e.1).mpr (by rw[<- z];exact List.mem_map_of_mem O))
   rw[this];rfl
theorem GI.all:∀ (es:List Ev) {d:List Ev}{g:Grp},GI d g->GI (d++es) (af9 es g)
 |[],d,g,h=>by rw[List.append_nil];exact h
 |e::r,d,g,h=>by
  have:=GI.all r (h.add e);rw[List.append_assoc] at this;exact this
theorem GI.nil:GI [] []:=⟨List.nodup_nil,λ k=>Iff.rfl,λ q z=>by cases z⟩
theorem w_8 {k:Int}:∀ (n:Nat) (lo:Int),k∈Y_9 lo n↔lo<=k/\k<lo+n
 |0,lo=>⟨λ z=>(nomatch z),λ z=>by omega⟩
 |n+1,lo=>by
  show k∈lo::Y_9 (lo+1) n↔_;rw[List.mem_cons,w_8 n];omega
theorem aF1 {f:Fold} (hf:f.ok) {t a:Int} (z:0<=t) (t1:t<15) (h:a∈f.wins t):-4<=a/\a<15:=by
 cases f with
 |ever w=>have:a=0:=List.mem_singleton.mp h;omega
 |fixed s w =>
  obtain⟨_,O,_⟩:=hf;have h:a=t.fdiv s:=List.mem_singleton.mp h;rw[h,Int.fdiv_eq_ediv_of_nonneg _ (by omega)]
  have:=Int.ediv_nonneg z (show 0<=s by omega)
  have:=Int.ediv_le_self s z;omega
 |slide wd s w =>
  obtain⟨_,O,Y,S,Z⟩:=hf;have h:a∈Y_9 ((t-wd).fdiv s+1) (t.fdiv s+1-((t-wd).fdiv s+1)).toNat:=h;rw[w_8,Int.fdiv_eq_ediv_of_nonneg _ (by omega),Int.fdiv_eq_ediv_of_nonneg _ (by omega)] at h
  have c:s=1\/s=2\/s=3:=by omega
  rcases c with rfl | rfl | rfl <;> omega
theorem aL1 (f:Fold) (hf:f.ok) {L:List Th} (hb:Sm L):(grp f L []).length<64:=by
 have G:=GI.all (evs f L) GI.nil;rw[List.nil_append,<- W_4 f L []] at G
 have:((grp f L []).map (·.1)).length<=([kA,kB,kZ].flatMap λ k=>(Y_9 (-4) 19).map λ a=>(k,a)).length:=aZ0 _ _ G.nd λ x hx=>by
  obtain⟨ev,z,rfl⟩:=List.mem_map.mp ((G.ks x).mp hx);obtain⟨u,Z,O⟩:=List.mem_flatMap.mp z;obtain⟨a,ha,rfl⟩:=List.mem_map.mp O;obtain⟨S,Y,k⟩:=hb u Z;have:=aF1 hf S Y ha;refine List.mem_flatMap.mpr ⟨u.k,?_,List.mem_map.mpr ⟨a,(w_8 19 (-4)).mpr (by omega),rfl⟩⟩
  rcases k with k | k | k <;> rw[k] <;> simp
 rw[List.length_map] at this;exact Nat.lt_of_le_of_lt this (by decide)
theorem M_8 (f:Fold) (hf:f.ok) (L:List Th) (O:L.length<=16) (z:Sm L) :
  m_7 [f.D',.lst (L.map tD)]=some (.lst (sortT ((grp f L []).map (p_9 f.word)))):=by
 have hb:∀ x∈L,0<=x.t/\x.t<1000000000000:=λ x Y=>by have:=z x Y;omega
 have ln:=aL1 f hf z;have e:=D_2 f hf L O hb;have r:=ai5 f.word (grp f L []);have S:((grp f L []).map (p_9 f.word)).length<64:=by rw[List.length_map];exact ln
 generalize (grp f L []).map (p_9 f.word)=C at *
 obtain⟨kind,rest,Z,_,hk⟩:=v_4 f;rw[Z] at e ⊢;unfold rowD at e ⊢;simp[m_7,A_6,I_0,hk,e,r,S]
noncomputable def oD:Option Int->D
 |none=>.non
 |some m=>.int m
theorem av4 (m:Int):oD (some m)=.int m:=rfl
theorem aJ0:oD none=.non:=rfl
abbrev Bd:=Option (Option Int×Option Int)
noncomputable def bdD:Bd->D
 |none=>.tup []
 |some (l,h)=>.tup [oD l,oD h]
abbrev askD (bd:Bd):D:=.tup [.str "ask",.str "q",.tup [.str "f"],bdD bd]
noncomputable def w_1:Bd->Int->Prop
 |none,_=>True
 |some (l,h),m=>(∀ x,l=some x->x<=m)/\∀ x,h=some x->m<=x
instance (bd:Bd) (m:Int):Decidable (w_1 bd m):=Classical.propDecidable _
noncomputable def o_7 (bd:Bd):Option Int->Option Int
 |none=>none
 |some m=>if w_1 bd m then some m else none
theorem af7 (m:Int) (l h:Option Int):b_7 [.int m,oD l,oD h]=some (.bl (decide (w_1 (some (l,h)) m))):=by
 cases l with
 |none =>
  cases h with
  |none=>rw[decide_eq_true (show w_1 (some (none,none)) m from ⟨λ x e=>(nomatch e),λ x e=>nomatch e⟩)];simp[b_7,f_3,oD]
  |some h =>
   by_cases c:m<=h
   ·rw[decide_eq_true (show w_1 (some (none,some h)) m from ⟨λ x e=>(nomatch e),λ x e=>by cases e;exact c⟩)];simp[b_7,f_3,oD,c]
   ·rw[decide_eq_false (show ¬ w_1 (some (none,some h)) m from λ z=>c (z.2 h rfl))];simp[b_7,f_3,oD,c]
 |some l =>
  by_cases O:l<=m
  ·cases h with
   |none=>rw[decide_eq_true (show w_1 (some (some l,none)) m from ⟨λ x e=>by cases e;exact O,λ x e=>nomatch e⟩)];simp[b_7,f_3,oD,O]
   |some h =>
    by_cases c:m<=h
    ·rw[decide_eq_true (show w_1 (some (some l,some h)) m from ⟨λ x e=>by cases e;exact O,λ x e=>by cases e;exact c⟩)];simp[b_7,f_3,oD,O,c]
    ·rw[decide_eq_false (show ¬ w_1 (some (some l,some h)) m from λ z=>c (z.2 h rfl))];simp[b_7,f_3,oD,O,c]
  ·rw[decide_eq_false (show ¬ w_1 (some (some l,h)) m from λ z=>O (z.1 l rfl))]
   cases h <;> simp[b_7,f_3,oD,O]
theorem ah3 (bd:Bd) (o:Option Int):b_9 [askD bd,oD o]=some (oD (o_7 bd o)):=by
 cases o with
 |none=>simp[b_9,n_2,oD,o_7]
 |some m =>
  cases bd with
  |none=>rw[show o_7 none (some m)=some m from if_pos trivial];simp[b_9,n_2,oD,bdD,t_3]
  |some q =>
   obtain⟨l,h⟩:=q;have e:=af7 m l h
   by_cases c:w_1 (some (l,h)) m
   ·rw[decide_eq_true c] at e
    rw[show o_7 (some (l,h)) (some m)=some m from if_pos c];simp[b_9,n_2,av4,bdD,t_3,R_7,F_2,e]
   ·rw[decide_eq_false c] at e
    rw[show o_7 (some (l,h)) (some m)=none from if_neg c];simp[b_9,n_2,av4,aJ0,bdD,t_3,R_7,F_2,e]
noncomputable def amO (w:Str) (vs:List Int):Option Int:=if vs=[] then none else some (amt w vs)
theorem az8 {w:Str}{a b:List Int} (p:a.Perm b):amO w a=amO w b:=by
 unfold amO
 by_cases h:a=[]
 ·subst h;rw[List.nil_perm.mp p]
 ·have:b≠[]:=λ z=>h (by rw[z] at p;exact List.perm_nil.mp p)
  rw[if_neg h,if_neg this,az6 p]
noncomputable def inW (f:Fold) (a t:Int):Prop:=a∈f.wins t
instance (f:Fold) (a t:Int):Decidable (inW f a t):=inferInstanceAs (Decidable (_∈_))
noncomputable def pW (f:Fold) (k:Str) (a:Int) (u:Th):Bool:=decide (u.k=k/\inW f a u.t)
noncomputable def vw (f:Fold) (L:List Th) (k:Str) (a:Int):List Int:=(L.filter (pW f k a)).map (·.v)
theorem ai2:∀ (n:Nat) (lo:Int),(Y_9 lo n).Nodup
 |0,_=>List.nodup_nil
 |n+1,lo=>by
  show (lo::Y_9 (lo+1) n).Nodup;rw[List.nodup_cons,w_8];exact⟨by omega,ai2 n _⟩
theorem aF0 (f:Fold) (t:Int):(f.wins t).Nodup:=by
 cases f with
 |ever w=>exact List.pairwise_singleton _ _
 |fixed s w=>exact List.pairwise_singleton _ _
 |slide wd s w=>exact ai2 _ _
theorem X_7 (x:Th) (k:Str) (a:Int):∀ O:List Int,O.Nodup->vals (k,a) (O.map λ w=>((x.k,w),x.v))=if x.k=k/\a∈O then [x.v] else []
 |[],_=>by rw[if_neg λ z=>nomatch z.2];rfl
 |w::O,nd=>by
  rw[List.nodup_cons] at nd;have Y:=X_7 x k a O nd.2;unfold vals at Y ⊢;rw[List.map_cons]
  by_cases c:x.k=k/\w=a
  ·obtain⟨rfl,rfl⟩:=c
   rw[List.filter_cons_of_pos (by simp),if_pos ⟨rfl,List.mem_cons_self⟩,List.map_cons,Y,if_neg λ z=>nd.1 z.2]
  ·rw[List.filter_cons_of_neg (by simpa using λ Z z2=>c ⟨Z,z2⟩),Y]
   by_cases S:x.k=k/\a∈O
   ·rw[if_pos S,if_pos ⟨S.1,List.mem_cons_of_mem _ S.2⟩]
   ·rw[if_neg S,if_neg λ z=>?_]
    rcases qt z.2 with h | h
    ·exact c ⟨z.1,h.symm⟩
    ·exact S ⟨z.1,h⟩
theorem K_0 (f:Fold) (k:Str) (a:Int):∀ L:List Th,vals (k,a) (evs f L)=vw f L k a
 |[]=>rfl
 |x::L=>by
  have e:vals (k,a) (evs f (x::L))=vals (k,a) ((f.wins x.t).map λ w=>((x.k,w),x.v))++vals (k,a) (evs f L):=by
   unfold evs vals;rw[List.flatMap_cons,List.filter_append,List.map_append]
  rw[e,X_7 x k a _ (aF0 f x.t),K_0 f k a L];unfold vw
  by_cases c:x.k=k/\a∈f.wins x.t
  ·rw[if_pos c,List.filter_cons_of_pos (p:=pW f k a) (decide_eq_true c)];rfl
  ·rw[if_neg c,List.filter_cons_of_neg (p:=pW f k a) (λ z=>c (of_decide_eq_true z))];rfl
open Classical in
theorem N_7 (a0 a1 Y:Sl) (k:Str) (a:Int) (w:Str) (vs:List Int):∀ (C:List D),(∀ c∈C,∃ q:(Str×Int)×List Int,c=p_9 w q/\(q.1=(k,a)->q.2=vs))->∀ (Z s5 s6:Sl),
  ∃ O S,fGo (gT [5,6]) f_7 C [a0,a1,Y,.im (.tup [.str k,.int a]),Z,s5,s6]=some (.nx [a0,a1,Y,.im (.tup [.str k,.int a]),if (∃ q:(Str×Int)×List Int,p_9 w q∈C/\q.1=(k,a)) then .im (.int (amt w vs)) else Z,O,S])
 |[],_,Z,s5,s6=>⟨s5,s6,by rw[if_neg fun⟨q,z,_⟩=>nomatch z];rfl⟩
 |c::C,h,Z,s5,s6=>by
  obtain⟨q,rfl,hq⟩:=h c qg;have gg:gT [5,6] (p_9 w q) [a0,a1,Y,.im (.tup [.str k,.int a]),Z,s5,s6]=some [a0,a1,Y,.im (.tup [.str k,.int a]),Z,.im (kD q.1),.im (.int (amt w q.2))]:=rfl
  by_cases e:q.1=(k,a)
  ·have b:f_7 [a0,a1,Y,.im (.tup [.str k,.int a]),Z,.im (kD q.1),.im (.int (amt w q.2))]=some (.nx [a0,a1,Y,.im (.tup [.str k,.int a]),.im (.int (amt w q.2)),.im (kD q.1),.im (.int (amt w q.2))]):=by
    rw[e];simp[f_7,kD]
   obtain⟨O,S,ih⟩:=N_7 a0 a1 Y k a w vs C (λ x hx=>h x (qh _ hx)) (.im (.int (amt w q.2))) (.im (kD q.1)) (.im (.int (amt w q.2)))
   refine⟨O,S,?_⟩;rw[r_4,gg,r_5,b,s_7,ih,hq e,ite_self,if_pos (c:=∃ p:(Str×Int)×List Int,p_9 w p∈p_9 w q::C/\p.1=(k,a)) ⟨q,List.mem_cons_self,e⟩]
  ·have b:f_7 [a0,a1,Y,.im (.tup [.str k,.int a]),Z,.im (kD q.1),.im (.int (amt w q.2))]=some (.nx [a0,a1,Y,.im (.tup [.str k,.int a]),Z,.im (kD q.1),.im (.int (amt w q.2))]):=by
    obtain⟨⟨q1,q2⟩,qv⟩:=q
    by_cases e1:q1=k
    ·have e2:¬ q2=a:=λ z=>e (by rw[<- e1,<- z])
     simp[f_7,kD,e1,e2]
    ·simp[f_7,kD,e1]
   obtain⟨O,S,ih⟩:=N_7 a0 a1 Y k a w vs C (λ x hx=>h x (qh _ hx)) Z (.im (kD q.1)) (.im (.int (amt w q.2)))
   refine⟨O,S,?_⟩;rw[r_4,gg,r_5,b,s_7,ih]
   by_cases z:∃ p:(Str×Int)×List Int,p_9 w p∈C/\p.1=(k,a)
   ·obtain⟨p,h1,h2⟩:=z
    rw[if_pos ⟨p,h1,h2⟩,if_pos ⟨p,List.mem_cons_of_mem _ h1,h2⟩]
   ·have n:¬ ∃ p:(Str×Int)×List Int,p_9 w p∈p_9 w q::C/\p.1=(k,a):=by
     rintro ⟨p,h1,h2⟩
     rcases qt h1 with h1 | h1
     ·have h1:D.tup [kD p.1,.int (amt w p.2)]=D.tup [kD q.1,.int (amt w q.2)]:=h1
      injection h1 with h1
      injection h1 with h1 _
      unfold kD at h1;injection h1 with h1
      injection h1 with h1 h3
      injection h3 with h3 _
      injection h1 with h1
      injection h3 with h3
      exact e (Prod.ext (h1.symm.trans (congrArg Prod.fst h2)) (h3.symm.trans (congrArg Prod.snd h2)))
     ·exact z ⟨p,h1,h2⟩
    rw[if_neg z,if_neg n]
open Classical in
theorem aq8 (f:Fold) (hf:f.ok) (bd:Bd) {L:List Th} (hL:L.length<=16) (hb:Sm L) (k:Str) (a:Int):d_3 [askD bd,f.D',.lst (L.map tD),.tup [.str k,.int a]]=some (oD (o_7 bd (amO f.word (vw f L k a)))):=by
 have e1:=M_8 f hf L hL hb;have G:=GI.all (evs f L) GI.nil;rw[List.nil_append,<- W_4 f L []] at G
 generalize grp f L []=g at e1 G
 have pm:=n_4 (g.map (p_9 f.word))
 generalize sortT (g.map (p_9 f.word))=C at e1 pm
 obtain⟨s5,s6,lp⟩:=N_7 (.im (askD bd)) (.im f.D') (.im (.lst (L.map tD))) k a f.word (vw f L k a) C (λ c hc=>by
  obtain⟨q,Z,rfl⟩:=List.mem_map.mp (pm.mem_iff.mp hc);exact⟨q,rfl,λ z=>by rw[G.vs q Z,z,K_0]⟩) (.im .non) .no .no
 have S:(∃ q:(Str×Int)×List Int,p_9 f.word q∈C/\q.1=(k,a))↔vw f L k a≠[]:=by
  constructor
  ·rintro ⟨q,Z,e⟩ z
   obtain⟨p,hp,ep⟩:=List.mem_map.mp (pm.mem_iff.mp Z);have ep:D.tup [kD p.1,.int (amt f.word p.2)]=D.tup [kD q.1,.int (amt f.word q.2)]:=ep;injection ep with ep
   injection ep with ep _
   unfold kD at ep;injection ep with ep
   injection ep with h1 h3
   injection h3 with h3 _
   injection h1 with h1
   injection h3 with h3
   have e':p.1=(k,a):=Prod.ext (h1.trans (congrArg Prod.fst e)) (h3.trans (congrArg Prod.snd e));have m:(k,a)∈(evs f L).map (·.1):=(G.ks _).mp (by rw[<- e'];exact List.mem_map_of_mem hp)
   obtain⟨ev,O,ee⟩:=List.mem_map.mp m;rw[<- K_0] at z;have:ev.2∈vals (k,a) (evs f L):=List.mem_map.mpr ⟨ev,List.mem_filter.mpr ⟨O,decide_eq_true ee⟩,rfl⟩;rw[z] at this;cases this
  ·intro z
   rw[<- K_0] at z;obtain⟨v,hv⟩:=List.exists_mem_of_ne_nil _ z;obtain⟨ev,O,_⟩:=List.mem_map.mp hv;obtain⟨h1,h2⟩:=List.mem_filter.mp O;have m:(k,a)∈g.map (·.1):=(G.ks _).mpr (List.mem_map.mpr ⟨ev,h1,of_decide_eq_true h2⟩);obtain⟨q,Z,eq⟩:=List.mem_map.mp m;exact⟨q,pm.mem_iff.mpr (List.mem_map_of_mem Z),eq⟩
 have te:=ah3 bd (amO f.word (vw f L k a))
 have sl:(if (∃ q:(Str×Int)×List Int,p_9 f.word q∈C/\q.1=(k,a)) then Sl.im (.int (amt f.word (vw f L k a))) else .im .non)=.im (oD (amO f.word (vw f L k a))):=by
  unfold amO
  by_cases z:vw f L k a=[]
  ·rw[if_neg λ y=>S.mp y z,if_pos z];rfl
  ·rw[if_pos (S.mpr z),if_neg z];rfl
 rw[sl] at lp
 generalize oD (amO f.word (vw f L k a))=X at *
 generalize oD (o_7 bd (amO f.word (vw f L k a)))=Y at *
 simp[d_3,A_5,List.replicate,e1,lp,te]
noncomputable def as0:Bd->Option Int
 |none=>none
 |some (_,h)=>h
noncomputable def Tw (w:Str) (bd:Bd) (o:Option Int) (v:Int):Prop :=
 (w=wC/\∀ m h,o=some m->as0 bd=some h->m<=h)\/(w=wS/\(o=none\/v≠0)) \/
 (w=wM/\(∀ m,o=some m->m<v)/\(o_7 bd o=none->w_1 bd v))\/(w=wL/\(∀ m,o=some m->v<m)/\(o_7 bd o=none->w_1 bd v))
structure BdOk (w:Str) (bd:Bd):Prop where
 sum:w=wS->bd=none
 cnt:w=wC->∀ l h,bd=some (l,h)->∃ x,l=some x/\1<=x/\x<=4/\∀ y,h=some y->x<=y
theorem D_3 {bd:Bd}{m:Int}:o_7 bd (some m)=some m\/(o_7 bd (some m)=none/\¬ w_1 bd m):=by
 unfold o_7
 by_cases c:w_1 bd m
 ·exact .inl (if_pos c)
 ·exact .inr ⟨if_neg c,c⟩
theorem D_4 {bd:Bd}{m:Int} (h:w_1 bd m):o_7 bd (some m)=some m:=if_pos h
theorem ah2 {m:Int}:o_7 none (some m)=some m:=if_pos (show w_1 none m from trivial)
theorem u_1 {bd:Bd}{m:Int} (h:¬ w_1 bd m):o_7 bd (some m)=none:=if_neg h
theorem i_4 {w:Str}{vs:List Int} (h:vs≠[]):amO w vs=some (amt w vs):=if_neg h
theorem ar1 (vs:List Int):amt wC vs=vs.length:=if_pos rfl
theorem az7 (vs:List Int):amt wS vs=vs.sum:=by unfold amt;rw[if_neg (by simp only[n3];exact id),if_pos rfl]
theorem aq9 (vs:List Int):amt wM vs=mxL vs:=by unfold amt;rw[if_neg (by simp only[n4];exact id),if_neg (by simp only[n5];exact id),if_pos rfl]
theorem ar0 (vs:List Int):amt wL vs=mnL vs:=by unfold amt;rw[if_neg (by simp only[n7];exact id),if_neg (by simp only[n8];exact id),if_neg (by simp only[n9];exact id)]
theorem nS1:(wS=wM)=False:=eq_false (by decide +kernel)
theorem nS2:(wS=wL)=False:=eq_false (by decide +kernel)
theorem nC1:(wC=wL)=False:=eq_false (by decide +kernel)
theorem bs4 {bd:Bd}{o:Option Int}{v:Int}:Tw wC bd o v↔∀ m h,o=some m->as0 bd=some h->m<=h:=by
 unfold Tw;simp only[n1,n2,nC1,false_and,or_false,true_and]
theorem Tw_S {bd:Bd}{o:Option Int}{v:Int}:Tw wS bd o v↔o=none\/v≠0:=by
 unfold Tw;simp only[n3,nS1,nS2,false_and,or_false,true_and,false_or]
theorem bg9 {bd:Bd}{o:Option Int}{v:Int}:Tw wM bd o v↔(∀ m,o=some m->m<v)/\(o_7 bd o=none->w_1 bd v):=by
 unfold Tw;simp only[n4,n5,n6,false_and,or_false,true_and,false_or]
theorem bh0 {bd:Bd}{o:Option Int}{v:Int}:Tw wL bd o v↔(∀ m,o=some m->v<m)/\(o_7 bd o=none->w_1 bd v):=by
 unfold Tw;simp only[n7,n8,n9,false_and,or_false,true_and,false_or]
theorem aD5 {bd:Bd}{m h:Int} (e:as0 bd=some h) (c:h<m):¬ w_1 bd m:=by
 cases bd with
 |none=>cases e
 |some q=>obtain⟨l,x⟩:=q;exact λ z=>by have:=z.2 h e;omega
theorem J_7 {α:Type}{a b:List α} (h:a≠[]):a++b≠[]:=λ z=>h (List.append_eq_nil_iff.mp z).1
theorem ah8 (a b:List Int):(a++b).sum=a.sum+b.sum:=by
 induction a with
 |nil=>simp
 |cons x a z=>rw[List.cons_append,List.sum_cons,List.sum_cons,z];omega
theorem aT6 {w:Str} (hw:IsW w) {bd:Bd}{vs:List Int}:∀ new:List Int,(∀ v∈new,¬ Tw w bd (amO w vs) v)->o_7 bd (amO w (vs++new))=o_7 bd (amO w vs):=λ new h=>by
 by_cases Y:new=[]
 ·rw[Y,List.append_nil]
 obtain⟨v0,aa⟩:=List.exists_mem_of_ne_nil _ Y;have np:=List.length_pos_iff.mpr Y
 rcases hw with rfl | rfl | rfl | rfl
 ·have Z:=h v0 aa
  rw[bs4] at Z
  by_cases O:vs=[]
  ·subst O;exact absurd (λ m x e=>nomatch e) Z
  rw[i_4 O,i_4 (J_7 O),ar1,ar1,List.length_append] at *
  have:∃ x,as0 bd=some x/\x<vs.length:=by
   refine Classical.byContradiction λ z=>Z λ m x e1 e2=>?_
   cases e1;exact Int.not_lt.mp λ y=>z ⟨x,e2,y⟩
  obtain⟨x,e,c⟩:=this;rw[u_1 (aD5 e c),u_1 (aD5 e (by omega))]
 ·have Z:=h v0 aa
  rw[Tw_S] at Z
  by_cases O:vs=[]
  ·subst O;exact absurd (.inl rfl) Z
  rw[i_4 O,i_4 (J_7 O),az7,az7,ah8]
  have z:new.sum=0:=by
   have hz:∀ v∈new,v=0:=λ v m=>Classical.byContradiction λ z=>h v m (Tw_S.mpr (.inr z))
   clear h Z aa Y np
   induction new with
   |nil=>rfl
   |cons a r ih=>rw[List.sum_cons,hz a List.mem_cons_self,ih λ v m=>hz v (List.mem_cons_of_mem _ m)];rfl
  rw[z,Int.add_zero]
 ·by_cases O:vs=[]
  ·subst O
   rw[List.nil_append,i_4 Y,aq9];have S:=ak0 Y;have:=h _ S.1;rw[bg9] at this;exact u_1 λ z=>this ⟨λ m e=>(nomatch e),λ _=>z⟩
  ·rw[i_4 O] at h
   rw[i_4 O,i_4 (J_7 O),aq9,aq9] at *;have S:=ak0 O;have m2:=ak0 (J_7 (b:=new) O);have ge:=m2.2 _ (List.mem_append_left _ S.1)
   by_cases c:mxL (vs++new)=mxL vs
   ·rw[c]
   ·have mem:mxL (vs++new)∈new:=by
     rcases qw m2.1 with z | z
     ·have:=S.2 _ z;omega
     ·exact z
    have hh:=h _ mem;rw[bg9] at hh
    have h1:o_7 bd (some (mxL vs))=none/\¬ w_1 bd (mxL (vs++new)):=by
     refine Classical.byContradiction λ z=>hh ⟨λ m e=>by cases e;omega,λ e=>Classical.byContradiction λ y=>z ⟨e,y⟩⟩
    rw[h1.1,u_1 h1.2]
 ·by_cases O:vs=[]
  ·subst O
   rw[List.nil_append,i_4 Y,ar0];have S:=ak1 Y;have:=h _ S.1;rw[bh0] at this;exact u_1 λ z=>this ⟨λ m e=>(nomatch e),λ _=>z⟩
  ·rw[i_4 O] at h
   rw[i_4 O,i_4 (J_7 O),ar0,ar0] at *;have S:=ak1 O;have m2:=ak1 (J_7 (b:=new) O);have ge:=m2.2 _ (List.mem_append_left _ S.1)
   by_cases c:mnL (vs++new)=mnL vs
   ·rw[c]
   ·have mem:mnL (vs++new)∈new:=by
     rcases qw m2.1 with z | z
     ·have:=S.2 _ z;omega
     ·exact z
    have hh:=h _ mem;rw[bh0] at hh
    have h1:o_7 bd (some (mnL vs))=none/\¬ w_1 bd (mnL (vs++new)):=by
     refine Classical.byContradiction λ z=>hh ⟨λ m e=>by cases e;omega,λ e=>Classical.byContradiction λ y=>z ⟨e,y⟩⟩
    rw[h1.1,u_1 h1.2]
theorem bh6 {w:Str} (hw:IsW w) {bd:Bd} (hb:BdOk w bd) {vs:List Int}{v:Int} (h:Tw w bd (amO w vs) v):∃ j:Nat,1<=j/\j<=4/\o_7 bd (amO w (vs++List.replicate j v))≠o_7 bd (amO w vs):=by
 have r1:vs++List.replicate 1 v≠[]:=by simp
 rcases hw with rfl | rfl | rfl | rfl
 ·rw[bs4] at h
  have rj:∀ j,1<=j->amO wC (vs++List.replicate j v)=some ((vs.length+j:Nat):Int):=λ j hj=>by
   rw[i_4 (λ z=>by have:=congrArg List.length z;simp at this;omega),ar1,List.length_append,List.length_replicate]
  have one:∀ m:Int,o_7 bd (amO wC vs)=some m->∃ j:Nat,1<=j/\j<=4/\o_7 bd (amO wC (vs++List.replicate j v))≠o_7 bd (amO wC vs):=λ m e=>by
   by_cases O:vs=[]
   ·subst O;cases e
   refine⟨1,by decide,by decide,?_⟩
   rw[rj 1 (Nat.le_refl _),e];rw[i_4 O,ar1] at e
   rcases D_3 (bd:=bd) (m:=(vs.length:Int)) with z | z
   ·rw[z] at e
    cases e
    rcases D_3 (bd:=bd) (m:=((vs.length+1:Nat):Int)) with y | y
    ·rw[y];intro x;injection x with x;omega
    ·rw[y.1];intro x;cases x
   ·rw[z.1] at e;cases e
  cases e:o_7 bd (amO wC vs) with
  |some m=>rw[<- e];exact one m e
  |none =>
   cases Y:bd with
   |none =>
    refine⟨1,by decide,by decide,?_⟩
    subst Y;rw[rj 1 (Nat.le_refl _),ah2];intro x;cases x
   |some q =>
    obtain⟨l,y⟩:=q;obtain⟨x,rfl,x1,x4,xy⟩:=hb.cnt rfl l y Y
    have lt:(vs.length:Int)<x:=by
     by_cases O:vs=[]
     ·subst O;simp;omega
     ·rw[i_4 O,ar1] at e h
      refine Int.not_le.mp λ z=>?_
      rcases D_3 (bd:=bd) (m:=(vs.length:Int)) with q | q
      ·rw[q] at e;cases e
      ·refine q.2 ?_
       rw[Y];exact⟨λ u Z=>by cases Z;exact z,λ u Z=>h _ u rfl (by rw[Y];exact Z)⟩
    refine⟨(x-vs.length).toNat,by omega,by omega,?_⟩
    rw[<- Y,rj _ (by omega),show ((vs.length+(x-vs.length).toNat:Nat):Int)=x by omega,D_4 (by rw[Y];exact⟨λ u Z=>by cases Z;exact Int.le_refl _,xy⟩)]
    intro z;cases z
 ·rw[Tw_S] at h
  have:=hb.sum rfl;subst this;refine⟨1,by decide,by decide,?_⟩
  rw[i_4 r1,ah2,az7,ah8]
  by_cases O:vs=[]
  ·subst O;intro z;cases z
  ·rw[i_4 O] at h ⊢
   rw[ah2,az7]
   rcases h with h | h
   ·cases h
   ·intro z;injection z with z;simp at z;omega
 ·rw[bg9] at h
  refine⟨1,by decide,by decide,?_⟩
  have em:amO wM (vs++List.replicate 1 v)=some v:=by
   rw[i_4 r1,aq9,aZ3 (m:=v) (by simp) λ x S=>?_]
   rcases qw S with S | S
   ·have O:vs≠[]:=λ z=>by rw[z] at S;cases S
    have:=h.1 _ (i_4 O);rw[aq9] at this;have:=(ak0 O).2 x S;omega
   ·simp at S;omega
  rw[em]
  by_cases O:vs=[]
  ·subst O
   rw[D_4 (h.2 rfl)];intro z;cases z
  ·rw[i_4 O] at h ⊢
   have h1:=h.1 _ rfl
   rcases D_3 (bd:=bd) (m:=amt wM vs) with q | q
   ·rw[q]
    rcases D_3 (bd:=bd) (m:=v) with y | y
    ·rw[y];intro z;injection z with z;omega
    ·rw[y.1];intro z;cases z
   ·rw[q.1,D_4 (h.2 q.1)];intro z;cases z
 ·rw[bh0] at h
  refine⟨1,by decide,by decide,?_⟩
  have em:amO wL (vs++List.replicate 1 v)=some v:=by
   rw[i_4 r1,ar0,aZ5 (m:=v) (by simp) λ x S=>?_]
   rcases qw S with S | S
   ·have O:vs≠[]:=λ z=>by rw[z] at S;cases S
    have:=h.1 _ (i_4 O);rw[ar0] at this;have:=(ak1 O).2 x S;omega
   ·simp at S;omega
  rw[em]
  by_cases O:vs=[]
  ·subst O
   rw[D_4 (h.2 rfl)];intro z;cases z
  ·rw[i_4 O] at h ⊢
   have h1:=h.1 _ rfl
   rcases D_3 (bd:=bd) (m:=amt wL vs) with q | q
   ·rw[q]
    rcases D_3 (bd:=bd) (m:=v) with y | y
    ·rw[y];intro z;injection z with z;omega
    ·rw[y.1];intro z;cases z
   ·rw[q.1,D_4 (h.2 q.1)];intro z;cases z
abbrev stD (lo hi st z:Int):D:=.tup [.int lo,.int hi,.int st,.int z]
abbrev evD:D:=.tup [.non,.non,.int 1,.int 0]
noncomputable def mkS (f b st z:Int):D:=if b<f then .non else if f=b then stD f b 1 0 else stD f b st z
noncomputable def I13 (st:Int):Prop:=st=1\/st=2\/st=3
theorem aL6 {st:Int} (h:I13 st) (x:Int):x.fmod st=x % st:=Int.fmod_eq_emod_of_nonneg _ (by rcases h with rfl | rfl | rfl <;> decide)
theorem W_0 (l h:Int) {st z:Int} (s:I13 st) (O:0<=z) (Y:z<st):a_9 [.int l,.int h,.int st,.int z]=some (mkS (l+(z-l) % st) (h-(h-z) % st) st z):=by
 have S:¬ st=0:=by rcases s with rfl | rfl | rfl <;> decide
 rw[<- aL6 s,<- aL6 s];unfold mkS
 by_cases c1:h-(h-z).fmod st<l+(z-l).fmod st
 ·simp[a_9,o_8,List.replicate,O,Y,S,c1]
 ·by_cases Z:l+(z-l).fmod st=h-(h-z).fmod st
  ·have c3:¬ h-(h-z).fmod st<h-(h-z).fmod st:=Int.lt_irrefl _
   simp[a_9,o_8,List.replicate,O,Y,S,Z,c3]
  ·simp[a_9,o_8,List.replicate,O,Y,S,c1,Z]
structure St where
 lo:Int
 hi:Int
 st:Int
 re:Int
abbrev St.D (s:St):D:=stD s.lo s.hi s.st s.re
structure St.Ok (s:St):Prop where
 le:s.lo<=s.hi
 sh:s.hi-s.lo<=5
 s3:I13 s.st
 r0:0<=s.re
 r1:s.re<s.st
 lm:s.lo % s.st=s.re
 hm:s.hi % s.st=s.re
 eq:s.lo=s.hi->s.st=1/\s.re=0
noncomputable def St.has (s:St) (v:Int):Prop:=s.lo<=v/\v<=s.hi/\v % s.st=s.re
theorem aJ6 (l:Int) {wd st O:Int} (s:I13 st) (S:0<=O) (Y:O<st) (w1:wd<=5):a_9 [.int l,.int (l+wd),.int st,.int O]=some .non\/∃ s:St,s.Ok/\(l<=s.lo/\s.hi<=l+wd)/\a_9 [.int l,.int (l+wd),.int st,.int O]=some s.D:=by
 rw[W_0 l (l+wd) s S Y];unfold mkS
 split
 ·exact .inl rfl
 ·rename_i c1
  split
  ·rename_i Z
   refine .inr ⟨⟨_,_,1,0⟩,⟨by dsimp only;omega,by dsimp only;omega,.inl rfl,Int.le_refl _,Int.zero_lt_one,Int.emod_one _,Int.emod_one _,λ _=>⟨rfl,rfl⟩⟩,⟨?_,?_⟩,rfl⟩ <;> dsimp only <;> rcases s with rfl | rfl | rfl <;> omega
  ·rename_i Z
   refine .inr ⟨⟨_,_,st,O⟩,⟨by dsimp only;omega,?_,s,S,Y,?_,?_,λ z=>absurd z Z⟩,⟨?_,?_⟩,rfl⟩ <;> dsimp only <;> rcases s with rfl | rfl | rfl <;> omega
theorem aZ9 (a b:Int):d_9 [.int a,.int b]=some (.int (if a<b then b else a)):=by
 simp[d_9,p_2]
theorem aD6 (a b:Int):b_8 [.int a,.int b]=some (.int (if b<a then b else a)):=by
 simp[b_8,n_1]
section
variable {s:St} (h:s.Ok)
include h
theorem ak5:a_9 [.int s.lo,.int s.hi,.int s.st,.int s.re]=some s.D:=by
 rw[W_0 _ _ h.s3 h.r0 h.r1];have e1:s.lo+(s.re-s.lo) % s.st=s.lo:=by have:=h.lm;rcases h.s3 with e | e | e <;> rw[e] at this ⊢ <;> omega
 have e2:s.hi-(s.hi-s.re) % s.st=s.hi:=by have:=h.hm;rcases h.s3 with e | e | e <;> rw[e] at this ⊢ <;> omega
 rw[e1,e2];unfold mkS;rw[if_neg (by have:=h.le;omega)]
 split
 ·rename_i z
  obtain⟨S,O⟩:=h.eq z;unfold St.D;rw[S,O]
 ·rfl
theorem aP2:i_2 [evD,.int s.st,.int s.re]=some evD/\g_6 [evD,.int s.st,.int s.re]=some (.tup [.non,.non,.int s.st,.int s.re]):=by
 have S:=h.r0;have O:=h.r1;have a:∀ z:Int,0<=z->z<1->z=0:=λ z _ _=>by omega
 have b:∀ z:Int,0<=z->z<2->z=0\/z=1:=λ z _ _=>by omega
 have c:∀ z:Int,0<=z->z<3->z=0\/z=1\/z=2:=λ z _ _=>by omega
 rcases h.s3 with e | e | e <;> rw[e] at O ⊢
 ·rw[a _ S O];exact⟨by kernel_rfl,by kernel_rfl⟩
 ·rcases b _ S O with e | e <;> rw[e] <;> exact⟨by kernel_rfl,by kernel_rfl⟩
 ·rcases c _ S O with e | e | e <;> rw[e] <;> exact⟨by kernel_rfl,by kernel_rfl⟩
theorem aJ4:i_1 [s.D,evD]=some s.D:=by
 obtain⟨e1,e2⟩:=aP2 h;have e3:=ak5 h;have z:i_2 [.tup [.non,.non,.int 1,.int 0],.int s.st,.int s.re]=some (.tup [.non,.non,.int 1,.int 0]):=e1;have O:g_6 [.tup [.non,.non,.int 1,.int 0],.int s.st,.int s.re]=some (.tup [.non,.non,.int s.st,.int s.re]):=e2;simp[i_1,v_2,List.replicate,z_6,C_1,z_5,t_3,z,O,a_5,o_5,d_9,p_2,b_8,n_1,e3]
theorem ap7 (l r:Option Int):∃ x,a_5 [s.D,oD l,oD r]=some x/\((x=.non/\¬ ∃ v,s.has v/\w_1 (some (l,r)) v)\/∃ s':St,s'.Ok/\x=s'.D/\∀ v,s'.has v↔s.has v/\w_1 (some (l,r)) v):=by
 obtain⟨A,eA,hA⟩:∃ A,d_9 [.int s.lo,oD l]=some (.int A)/\∀ v,A<=v↔s.lo<=v/\∀ x,l=some x->x<=v:=by
  cases l with
  |none=>exact⟨s.lo,by simp[d_9,p_2,oD],λ v=>⟨λ h=>⟨h,λ x e=>nomatch e⟩,λ h=>h.1⟩⟩
  |some x =>
   refine⟨_,aZ9 s.lo x,λ v=>⟨λ h=>?_,λ h=>?_⟩⟩
   ·have:s.lo<=v/\x<=v:=by split at h <;> omega
    exact⟨this.1,λ y e=>by cases e;exact this.2⟩
   ·have:=h.2 x rfl
    have:=h.1
    split <;> omega
 obtain⟨B,eB,hB⟩:∃ B,b_8 [.int s.hi,oD r]=some (.int B)/\∀ v,v<=B↔v<=s.hi/\∀ x,r=some x->v<=x:=by
  cases r with
  |none=>exact⟨s.hi,by simp[b_8,n_1,oD],λ v=>⟨λ h=>⟨h,λ x e=>nomatch e⟩,λ h=>h.1⟩⟩
  |some x =>
   refine⟨_,aD6 s.hi x,λ v=>⟨λ h=>?_,λ h=>?_⟩⟩
   ·have:v<=s.hi/\v<=x:=by split at h <;> omega
    exact⟨this.1,λ y e=>by cases e;exact this.2⟩
   ·have:=h.2 x rfl
    have:=h.1
    split <;> omega
 have e:=W_0 A B h.s3 h.r0 h.r1;have r0:=h.r0;have Y:=h.r1;have a1:=((hA A).mp (Int.le_refl _)).1;have b1:=((hB B).mp (Int.le_refl _)).1;have sh:=h.sh
 have Z:∀ v,(s.has v/\w_1 (some (l,r)) v)↔A<=v/\v<=B/\v % s.st=s.re:=λ v=>by
  rw[hA,hB];exact⟨fun⟨⟨h1,h2,O⟩,h4,h5⟩=>⟨⟨h1,h4⟩,⟨h2,h5⟩,O⟩,fun⟨⟨h1,h4⟩,⟨h2,h5⟩,O⟩=>⟨⟨h1,h2,O⟩,h4,h5⟩⟩
 refine⟨_,by simp[a_5,o_5,z_6,C_1,z_5,t_3,eA,eB,e];rfl,?_⟩
 simp only[Z];unfold mkS
 split
 ·rename_i c1
  refine .inl ⟨rfl,λ S=>?_⟩
  obtain⟨v,h1,h2,O⟩:=S
  rcases h.s3 with z | z | z <;> rw[z] at c1 O <;> omega
 ·rename_i c1
  split
  ·rename_i c2
   refine .inr ⟨⟨_,_,1,0⟩,⟨?_,?_,.inl rfl,Int.le_refl _,Int.zero_lt_one,Int.emod_one _,Int.emod_one _,λ _=>⟨rfl,rfl⟩⟩,rfl,λ v=>?_⟩
   ·dsimp only;omega
   ·dsimp only;omega
   ·unfold St.has;dsimp only
    rcases h.s3 with z | z | z <;> rw[z] at c1 c2 Y ⊢ <;> omega
  ·rename_i c2
   refine .inr ⟨⟨A+(s.re-A) % s.st,B-(B-s.re) % s.st,s.st,s.re⟩,⟨?_,?_,h.s3,r0,Y,?_,?_,λ z=>absurd z c2⟩,rfl,λ v=>?_⟩
   ·dsimp only;omega
   ·dsimp only;rcases h.s3 with z | z | z <;> rw[z] <;> omega
   ·dsimp only;rcases h.s3 with z | z | z <;> rw[z] at Y ⊢ <;> omega
   ·dsimp only;rcases h.s3 with z | z | z <;> rw[z] at Y ⊢ <;> omega
   ·unfold St.has;dsimp only
    rcases h.s3 with z | z | z <;> rw[z] at Y ⊢ <;> omega
theorem ad1 (c:Int):∃ x,d_2 [s.D,.int c]=some x/\((x=.non/\¬ ∃ v,s.has v/\c<v)\/∃ s':St,s'.Ok/\x=s'.D/\∀ v,s'.has v↔s.has v/\c<v):=by
 obtain⟨x,e,q⟩:=ap7 h (some (c+1)) none;have e':a_5 [s.D,.int (c+1),.non]=some x:=e;have z:∀ v,w_1 (some (some (c+1),none)) v↔c<v:=λ v=>⟨λ h=>by have:=h.1 _ rfl;omega,λ h=>⟨λ x e=>by cases e;omega,λ x e=>nomatch e⟩⟩
 simp only[z] at q;exact⟨x,by simp[d_2,t_7,e'],q⟩
theorem ac3 (c:Int):∃ x,d_1 [s.D,.int c]=some x/\((x=.non/\¬ ∃ v,s.has v/\v<c)\/∃ s':St,s'.Ok/\x=s'.D/\∀ v,s'.has v↔s.has v/\v<c):=by
 obtain⟨x,e,q⟩:=ap7 h none (some (c-1));have e':a_5 [s.D,.non,.int (c-1)]=some x:=e;have z:∀ v,w_1 (some (none,some (c-1))) v↔v<c:=λ v=>⟨λ h=>by have:=h.2 _ rfl;omega,λ h=>⟨λ x e=>(nomatch e),λ x e=>by cases e;omega⟩⟩
 simp only[z] at q;exact⟨x,by simp[d_1,t_6,e'],q⟩
theorem St.Ok.has_lo:s.has s.lo:=⟨Int.le_refl _,h.le,h.lm⟩
end
abbrev J_9:Str:=Str.ofString "only"
abbrev U_3:Str:=Str.ofString "but"
abbrev kC:Str:=Str.ofString "c"
noncomputable def kyD:Nat->D
 |0=>.tup [.str J_9,.tup [.str kA]]
 |1=>.tup [.str U_3,.tup []]
 |2=>.tup [.str U_3,.tup [.str kA]]
 |3=>.tup [.str J_9,.tup [.str kA,.str kB]]
 |_=>.tup [.str U_3,.tup [.str kC]]
noncomputable def aD7:Nat->Str->Bool
 |0,k=>decide (k=kA)
 |1,_=>true
 |2,k=>!decide (k=kA)
 |3,k=>decide (k=kA)||decide (k=kB)
 |_,k=>!decide (k=kC)
abbrev onD (k:Str):D:=.tup [.str J_9,.tup [.str k]]
structure Bx where
 ki:Nat
 b:Int
 e:Int
 s:St
abbrev Bx.D (x:Bx):D:=.tup [kyD x.ki,.int x.b,.int x.e,x.s.D]
structure Bx.Ok (x:Bx):Prop where
 ki:x.ki<5
 b0:0<=x.b
 be:x.b<x.e
 e6:x.e<=x.b+6
 b9:x.b<=8
 sm:-1000<=x.s.lo/\x.s.hi<=1000
 s:x.s.Ok
theorem aw5 {i:Nat} (hi:i<5) {k:Str} (hk:IsK k):o_2 [kyD i,onD k]=some (if aD7 i k=true then onD k else .non):=by
 have c:i=0\/i=1\/i=2\/i=3\/i=4:=by omega
 rcases hk with rfl | rfl | rfl <;> rcases c with rfl | rfl | rfl | rfl | rfl <;> kernel_rfl
theorem E_8 (a b:Int):(if b > a then b else a)=max a b:=by omega
theorem aZ6 (a b:Int):(if b<a then b else a)=min a b:=by omega
noncomputable def ltO (x:Int):Option Int->Prop
 |none=>True
 |some q=>x<q
instance (x:Int) (q:Option Int):Decidable (ltO x q):=match q with
 |none=>inferInstanceAs (Decidable True)
 |some q=>inferInstanceAs (Decidable (x<q))
noncomputable def ag2 (e:Int):Option Int->Int
 |none=>e
 |some q=>min e q
abbrev kbD (k:Str) (p:Int) (q:Option Int):D:=.tup [onD k,.int p,oD q,evD]
theorem ae7 (k:Str) {p:Int} (p0:0<=p) {q:Option Int} (h:ltO p q):h_4 [.str k,.int p,oD q]=some (kbD k p q):=by
 have z:max p 0=p:=by omega
 cases q with
 |none=>simp[h_4,G_5,b_3,k_1,E_8,z,oD]
 |some q =>
  have O:¬ q<=p:=Int.not_le.mpr h;simp[h_4,G_5,b_3,k_1,E_8,z,O,oD]
theorem bh4 (e:Int) (q:Option Int):b_8 [.int e,oD q]=some (.int (ag2 e q)):=by
 cases q with
 |none=>simp[b_8,n_1,oD,ag2]
 |some q=>rw[av4,aD6,aZ6];rfl
theorem lt_min {x e:Int}{q:Option Int}:x<ag2 e q↔x<e/\ltO x q:=by
 cases q with
 |none=>exact⟨λ h=>⟨h,trivial⟩,λ h=>h.1⟩
 |some q=>show x<min e q↔x<e/\x<q;omega
noncomputable def inB (x:Bx) (k:Str) (p:Int) (q:Option Int):Prop:=aD7 x.ki k=true/\max x.b p<ag2 x.e q
instance (x:Bx) (k:Str) (p:Int) (q:Option Int):Decidable (inB x k p q):=inferInstanceAs (Decidable (_/\_))
abbrev mtD (x:Bx) (k:Str) (p:Int) (q:Option Int):D:=.tup [onD k,.int (max x.b p),.int (ag2 x.e q),x.s.D]
theorem aJ5 {x:Bx} (h:x.Ok) {k:Str} (hk:IsK k) {p:Int} (p0:0<=p) (q:Option Int):i_3 [x.D,kbD k p q]=some (if inB x k p q then mtD x k p q else .non):=by
 have e1:=aw5 h.ki hk;have e2:=aJ4 h.s;have Y:=h.b0;have e3:=bh4 x.e q;unfold inB
 by_cases c:aD7 x.ki k=true
 ·rw[if_pos c] at e1
  have S:max (max x.b p) 0=max x.b p:=by omega
  by_cases O:max x.b p<ag2 x.e q
  ·have z:¬ ag2 x.e q<=max x.b p:=by omega
   simp[i_3,u_6,List.replicate,z_6,C_1,z_5,t_3,e1,e2,e3,E_8,b_3,k_1,c,O,z,S]
  ·have z:ag2 x.e q<=max x.b p:=by omega
   simp[i_3,u_6,List.replicate,z_6,C_1,z_5,t_3,e1,e2,e3,E_8,b_3,k_1,c,O,z,S]
 ·rw[if_neg c] at e1
  simp[i_3,u_6,List.replicate,z_6,C_1,z_5,t_3,e1,e2,e3,E_8,b_3,k_1,c]
noncomputable def met (B:List Bx) (k:Str) (p:Int) (q:Option Int):List Bx:=B.filter λ x=>decide (inB x k p q)
section
variable {k:Str} (hk:IsK k) {p:Int} (p0:0<=p) (q:Option Int)
include hk p0
theorem aC6:∀ B:List Bx,(∀ x∈B,x.Ok)->cGo tYes (eF i_3 (aC (eV 0) (aC (eV 1) aN))) [.im (kbD k p q)] (B.map Bx.D)=some (B.map λ x=>if inB x k p q then mtD x k p q else .non)
 |[],_=>rfl
 |x::B,h=>by
  have e:=aJ5 (h x qg) hk p0 q;have t:tYes (.im x.D::[.im (kbD k p q)])=some (true,.im x.D::[.im (kbD k p q)]):=rfl;have e1:eF i_3 (aC (eV 0) (aC (eV 1) aN)) (.im x.D::[.im (kbD k p q)])=some (if inB x k p q then mtD x k p q else .non,.im x.D::[.im (kbD k p q)]):=by simp[e]
  rw[List.map_cons,ay6,t,ay9,e1,ay8,aC6 B λ y z=>h y (List.mem_cons_of_mem _ z)];rfl
omit hk p0 in
theorem V_4:∀ B:List Bx,cGo (tB (e2 n_3 (eV 0) (eC .non))) (eV 0) [] (B.map λ x=>if inB x k p q then mtD x k p q else .non)=some ((met B k p q).map λ x=>mtD x k p q)
 |[]=>rfl
 |x::B=>by
  rw[List.map_cons,ay6];unfold met
  by_cases c:inB x k p q
  ·have t:tB (e2 n_3 (eV 0) (eC .non)) [.im (mtD x k p q)]=some (true,[.im (mtD x k p q)]):=by simp
   rw[if_pos c,t,ay9,show eV 0 [.im (mtD x k p q)]=some (mtD x k p q,[.im (mtD x k p q)]) from rfl,ay8,V_4 B,List.filter_cons_of_pos (p:=λ x=>decide (inB x k p q)) (decide_eq_true c)];rfl
  ·have t:tB (e2 n_3 (eV 0) (eC .non)) [.im .non]=some (false,[.im .non]):=by simp
   rw[if_neg c,t,be2,V_4 B,List.filter_cons_of_neg (p:=λ x=>decide (inB x k p q)) (by simp[c])];rfl
theorem aZ7 {B:List Bx} (h:∀ x∈B,x.Ok) (hl:B.length<=1000):o_4 [.lst (B.map Bx.D),kbD k p q]=some (.lst ((met B k p q).map λ x=>mtD x k p q)):=by
 have O:=aC6 hk p0 q B h;have z:=V_4 (k:=k) (p:=p) q B;have S:B.length<=sizeLine:=l_6 hl;have Y:(B.map λ x=>if inB x k p q then mtD x k p q else .non).length<=sizeLine:=by rw[List.length_map];exact S
 generalize (B.map λ x=>if inB x k p q then mtD x k p q else .non)=X at O z Y
 simp[o_4,G_6,List.replicate,O,z,S,Y]
end
noncomputable def ba0:Bd->Option Int
 |none=>none
 |some (l,_)=>l
theorem aq0 (bd:Bd) (a b c d e f g:Sl):bd0 (e2 b_1 (eV 0) (zI 3)) (l_2 (aC (eC .non) (aC (eC .non) aN))) [.im (askD bd),a,b,c,d,e,f,g]=some (.tup [oD (ba0 bd),oD (as0 bd)],[.im (askD bd),a,b,c,d,e,f,g]):=by
 cases bd with
 |none=>rfl
 |some q=>obtain⟨l,h⟩:=q;rfl
theorem aK9 (bd:Bd) (v:Int):w_1 (some (ba0 bd,as0 bd)) v↔w_1 bd v:=by
 cases bd with
 |none=>exact⟨λ _=>trivial,λ _=>⟨λ x e=>(nomatch e),λ x e=>nomatch e⟩⟩
 |some q=>obtain⟨l,h⟩:=q;exact Iff.rfl
noncomputable def tls (xs:List D):Prop:=xs.length<=2/\∀ x∈xs,∃ l,x=.tup l
theorem at0:tls []:=⟨by simp,λ x z=>nomatch z⟩
theorem O_6 (l:List D):tls [.tup l]:=⟨by simp,λ x z=>⟨_,List.mem_singleton.mp z⟩⟩
theorem Y_1 {w:Str} (hw:(w=wC)=False) (Y:(w=wS)=False) (bd:Bd) (o:Option Int) {s:St} (h:s.Ok) {Pv:Int->Prop}{x:D} (ev:c_3 [.str w,oD o,s.D]=some x) (hx:(x=.non/\¬ ∃ v,s.has v/\Pv v)\/∃ s':St,s'.Ok/\x=s'.D/\∀ v,s'.has v↔s.has v/\Pv v) :
  ∃ ss:List D,a_2 [askD bd,.str w,oD o,s.D]=some (.lst ss)/\tls ss/\(ss≠[]↔∃ v,s.has v/\Pv v/\(o_7 bd o=none->w_1 bd v)):=by
 have Z:=aq0 bd (.im (.str w)) (.im (oD o)) (.im s.D) .no .no .no .no;have to:=ah3 bd o
 rcases hx with ⟨rfl,nx⟩ | ⟨s',ok,rfl,iff⟩
 ·refine⟨[],?_,at0,λ z=>absurd rfl z,fun⟨v,h1,h2,_⟩=>absurd ⟨v,h1,h2⟩ nx⟩
  generalize oD o=O at *
  simp[-z_7,a_2,b_0,List.replicate,Z,hw,Y,ev]
 ·cases ht:o_7 bd o with
  |some m =>
   rw[ht] at to;refine⟨[s'.D],?_,O_6 _,λ _=>⟨s'.lo,((iff _).mp ok.has_lo).1,((iff _).mp ok.has_lo).2,λ z=>nomatch z⟩,λ _=>by simp⟩
   have S:b_9 [askD bd,oD o]=some (.int m):=to
   generalize oD o=O at *
   generalize askD bd=A at *
   simp[-z_7,a_2,b_0,List.replicate,Z,hw,Y,ev,S]
  |none =>
   rw[ht] at to;have S:b_9 [askD bd,oD o]=some .non:=to;obtain⟨y,ey,hy⟩:=ap7 ok (ba0 bd) (as0 bd);simp only[aK9,iff] at hy
   rcases hy with ⟨rfl,ny⟩ | ⟨s2,ok2,rfl,iff2⟩
   ·refine⟨[],?_,at0,λ z=>absurd rfl z,fun⟨v,h1,h2,h3⟩=>absurd ⟨v,⟨h1,h2⟩,h3 rfl⟩ ny⟩
    generalize oD o=O at *
    generalize oD (ba0 bd)=lo at *
    generalize oD (as0 bd)=hi at *
    generalize askD bd=A at *
    simp[-z_7,a_2,b_0,List.replicate,Z,hw,Y,ev,S,R_7,F_2,ey]
   ·have q:=(iff2 _).mp ok2.has_lo
    refine⟨[s2.D],?_,O_6 _,λ _=>⟨s2.lo,q.1.1,q.1.2,λ _=>q.2⟩,λ _=>by simp⟩
    generalize oD o=O at *
    generalize oD (ba0 bd)=lo at *
    generalize oD (as0 bd)=hi at *
    generalize askD bd=A at *
    simp[-z_7,a_2,b_0,List.replicate,Z,hw,Y,ev,S,R_7,F_2,ey]
theorem bh5 {s:St} (h:s.Ok) {w:Str} (hw:IsW w) {bd:Bd} (hb:BdOk w bd) (o:Option Int):∃ ss:List D,a_2 [askD bd,.str w,oD o,s.D]=some (.lst ss)/\tls ss/\(ss≠[]↔∃ v,s.has v/\Tw w bd o v):=by
 have O:=aq0 bd (.im (.str w)) (.im (oD o)) (.im s.D) .no .no .no .no
 rcases hw with rfl | rfl | rfl | rfl
 ·simp only[bs4]
  cases o with
  |none =>
   refine⟨[s.D],?_,O_6 _,λ _=>⟨s.lo,h.has_lo,λ m x e=>nomatch e⟩,λ _=>by simp⟩
   rw[aJ0] at O ⊢;simp[-z_7,a_2,b_0,List.replicate,O]
  |some m =>
   rw[av4] at O ⊢;cases hh:as0 bd with
   |none =>
    rw[hh,aJ0] at O;refine⟨[s.D],?_,O_6 _,λ _=>⟨s.lo,h.has_lo,λ m x _ e=>nomatch e⟩,λ _=>by simp⟩
    simp[-z_7,a_2,b_0,List.replicate,O,F_2]
   |some x =>
    rw[hh,av4] at O
    by_cases c:x<m
    ·refine⟨[],?_,at0,λ z=>absurd rfl z,λ Z=>by obtain⟨v,_,z⟩:=Z;have:=z m x rfl rfl;omega⟩
     simp[-z_7,a_2,b_0,List.replicate,O,F_2,c]
    ·refine⟨[s.D],?_,O_6 _,λ _=>⟨s.lo,h.has_lo,λ a b e1 e2=>by cases e1;cases e2;omega⟩,λ _=>by simp⟩
     simp[-z_7,a_2,b_0,List.replicate,O,F_2,c]
 ·simp only[Tw_S]
  cases o with
  |none =>
   refine⟨[s.D],?_,O_6 _,λ _=>⟨s.lo,h.has_lo,.inl rfl⟩,λ _=>by simp⟩
   rw[aJ0] at O ⊢;simp[-z_7,a_2,b_0,List.replicate,O,n3]
  |some m =>
   rw[av4] at O ⊢;obtain⟨x,ex,S⟩:=ad1 h 0;obtain⟨y,ey,hy⟩:=ac3 h 0;have l2:(2:Nat)<=sizeLine:=l_6 (by decide)
   rcases S with ⟨rfl,nx⟩ | ⟨s1,ok1,rfl,i1⟩
   ·rcases hy with ⟨rfl,ny⟩ | ⟨s2,ok2,rfl,i2⟩
    ·refine⟨[],?_,at0,λ z=>absurd rfl z,fun⟨v,hv,c⟩=>?_⟩
     ·have k:cGo (tB (e2 n_3 (eV 0) (eC .non))) (eV 0) [] [.non,.non]=some []:=rfl
      simp[-z_7,a_2,b_0,List.replicate,O,n3,ex,ey,k,l2]
     ·rcases c with c | c
      ·cases c
      ·rcases Int.lt_or_gt_of_ne c with c | c
       ·exact absurd ⟨v,hv,c⟩ ny
       ·exact absurd ⟨v,hv,c⟩ nx
    ·have q:=(i2 _).mp ok2.has_lo
     refine⟨[s2.D],?_,O_6 _,λ _=>⟨s2.lo,q.1,.inr (by have:=q.2;omega)⟩,λ _=>by simp⟩
     have k:cGo (tB (e2 n_3 (eV 0) (eC .non))) (eV 0) [] [.non,s2.D]=some [s2.D]:=rfl;simp[-z_7,a_2,b_0,List.replicate,O,n3,ex,ey,k,l2]
   ·have q:=(i1 _).mp ok1.has_lo
    rcases hy with ⟨rfl,ny⟩ | ⟨s2,ok2,rfl,i2⟩
    ·refine⟨[s1.D],?_,O_6 _,λ _=>⟨s1.lo,q.1,.inr (by have:=q.2;omega)⟩,λ _=>by simp⟩
     have k:cGo (tB (e2 n_3 (eV 0) (eC .non))) (eV 0) [] [s1.D,.non]=some [s1.D]:=rfl;simp[-z_7,a_2,b_0,List.replicate,O,n3,ex,ey,k,l2]
    ·refine⟨[s1.D,s2.D],?_,⟨by simp,λ x S=>?_⟩,λ _=>⟨s1.lo,q.1,.inr (by have:=q.2;omega)⟩,λ _=>by simp⟩
     ·have k:cGo (tB (e2 n_3 (eV 0) (eC .non))) (eV 0) [] [s1.D,s2.D]=some [s1.D,s2.D]:=rfl
      simp[-z_7,a_2,b_0,List.replicate,O,n3,ex,ey,k,l2]
     ·rcases qt S with rfl | S
      ·exact⟨_,rfl⟩
      ·cases List.mem_singleton.mp S;exact⟨_,rfl⟩
 ·simp only[bg9]
  cases o with
  |none =>
   have:=Y_1 n4 n5 bd none h (Pv:=λ v=>∀ m,(none:Option Int)=some m->m<v) (x:=s.D) (by rw[aJ0];simp[c_3,j_1]) (.inr ⟨s,h,rfl,λ v=>⟨λ z=>⟨z,λ m e=>nomatch e⟩,λ z=>z.1⟩⟩)
   exact this
  |some m =>
   obtain⟨x,ex,S⟩:=ad1 h m;have Y:∀ v,(∀ a,(some m:Option Int)=some a->a<v)↔m<v:=λ v=>⟨λ z=>z m rfl,λ z a e=>by cases e;exact z⟩
   have:=Y_1 n4 n5 bd (some m) h (Pv:=λ v=>m<v) (x:=x) (by rw[av4];simp[c_3,j_1,ex]) S
   simp only[Y];exact this
 ·simp only[bh0]
  cases o with
  |none =>
   have:=Y_1 n7 n8 bd none h (Pv:=λ v=>∀ m,(none:Option Int)=some m->v<m) (x:=s.D) (by rw[aJ0];simp[c_3,j_1]) (.inr ⟨s,h,rfl,λ v=>⟨λ z=>⟨z,λ m e=>nomatch e⟩,λ z=>z.1⟩⟩)
   exact this
  |some m =>
   obtain⟨x,ex,S⟩:=ac3 h m;have Y:∀ v,(∀ a,(some m:Option Int)=some a->v<a)↔v<m:=λ v=>⟨λ z=>z m rfl,λ z a e=>by cases e;exact z⟩
   have:=Y_1 n7 n8 bd (some m) h (Pv:=λ v=>v<m) (x:=x) (by rw[av4];simp[c_3,j_1,n9,ex]) S
   simp only[Y];exact this
theorem br7 {k:Str}{p q:Int} (p0:0<=p) (S:p<q) (l:List D):b_3 [onD k,.int p,.int q,.tup l]=some (.tup [onD k,.int p,.int q,.tup l]):=by
 have O:max p 0=p:=by omega
 have z:¬ q<=p:=by omega
 simp[b_3,k_1,E_8,O,z]
theorem aS7 {k:Str}{p q:Int} (p0:0<=p) (pq:p<q) (S e1 e2 e3:Sl) (O:D):∀ (xs:List D) (z:List D) (Z:Sl),(∀ x∈xs,∃ l,x=.tup l)->z.length+xs.length<=1000 ->
  ∃ Y,fGo (gN 6) j_9 xs [S,e1,e2,e3,.ow false (.lst z),.im (.tup [onD k,.int p,.int q,O]),Z]=some (.nx [S,e1,e2,e3,.ow false (.lst (z++xs.map λ x=>.tup [onD k,.int p,.int q,x])),.im (.tup [onD k,.int p,.int q,O]),Y])
 |[],z,Z,_,_=>⟨Z,by rw[List.map_nil,List.append_nil];rfl⟩
 |x::xs,z,Z,h,hl=>by
  rw[List.length_cons] at hl;obtain⟨l,rfl⟩:=h x qg;have em:=br7 (k:=k) p0 pq l;have q1:z.length<1000000:=by omega
  have gg:gN 6 (.tup l) [S,e1,e2,e3,.ow false (.lst z),.im (.tup [onD k,.int p,.int q,O]),Z]=some [S,e1,e2,e3,.ow false (.lst z),.im (.tup [onD k,.int p,.int q,O]),.im (.tup l)]:=rfl
  have b:j_9 [S,e1,e2,e3,.ow false (.lst z),.im (.tup [onD k,.int p,.int q,O]),.im (.tup l)]=some (.nx [S,e1,e2,e3,.ow false (.lst (z++[.tup [onD k,.int p,.int q,.tup l]])),.im (.tup [onD k,.int p,.int q,O]),.im (.tup l)]):=by
   simp[j_9,z_6,C_1,z_5,em,q1]
  obtain⟨Y,ih⟩:=aS7 p0 pq S e1 e2 e3 O xs (z++[.tup [onD k,.int p,.int q,.tup l]]) (.im (.tup l)) (λ y hy=>h y (qh _ hy)) (by rw[List.length_append,List.length_singleton];omega)
  exact⟨Y,by rw[r_4,gg,r_5,b,s_7,ih,List.map_cons,List.append_assoc];rfl⟩
section
variable {w:Str} (hw:IsW w) {bd:Bd} (hb:BdOk w bd) (o:Option Int) (k:Str) (p:Int) (q:Option Int)
include hw hb
theorem aA9 (e3:Sl):∀ (M:List Bx),(∀ x∈M,x.Ok/\inB x k p q)->∀ (O:List D) (s5 S:Sl),O.length+2*M.length<=1000 ->
  ∃ fs aa Z,fGo (gN 5) g_8 (M.map λ x=>mtD x k p q) [.im (askD bd),.im (.str w),.im (oD o),e3,.ow false (.lst O),s5,S]=some (.nx [.im (askD bd),.im (.str w),.im (oD o),e3,.ow false (.lst (O++fs)),aa,Z])/\fs.length<=2*M.length/\(fs≠[]↔∃ x∈M,∃ v,x.s.has v/\Tw w bd o v)
 |[],_,O,s5,S,_=>⟨[],s5,S,by rw[List.append_nil];rfl,qj _,λ z=>absurd rfl z,fun⟨x,hx,_⟩=>nomatch hx⟩
 |x::M,h,O,s5,S,hl=>by
  rw[List.length_cons] at hl;obtain⟨ok,ac⟩:=h x qg;obtain⟨ss,ev,tl,ab⟩:=bh5 ok.s hw hb o;have t2:=tl.1;have b0:=ok.b0;obtain⟨a6,e⟩:=aS7 (k:=k) (p:=max x.b p) (q:=ag2 x.e q) (by omega) ac.2 (.im (askD bd)) (.im (.str w)) (.im (oD o)) e3 x.s.D ss O S tl.2 (by omega)
  have gg:gN 5 (mtD x k p q) [.im (askD bd),.im (.str w),.im (oD o),e3,.ow false (.lst O),s5,S]=some [.im (askD bd),.im (.str w),.im (oD o),e3,.ow false (.lst O),.im (mtD x k p q),S]:=rfl
  have b:g_8 [.im (askD bd),.im (.str w),.im (oD o),e3,.ow false (.lst O),.im (mtD x k p q),S]=some (.nx [.im (askD bd),.im (.str w),.im (oD o),e3,.ow false (.lst (O++ss.map λ y=>.tup [onD k,.int (max x.b p),.int (ag2 x.e q),y])),.im (mtD x k p q),a6]):=by
   rw[<- e];simp[g_8,t_3,ev]
  obtain⟨fs,aa,Z,ih,l2,i2⟩:=aA9 e3 M (λ y Y=>h y (qh _ Y)) (O++ss.map λ y=>.tup [onD k,.int (max x.b p),.int (ag2 x.e q),y]) (.im (mtD x k p q)) a6 (by rw[List.length_append,List.length_map];omega)
  refine⟨(ss.map λ y=>.tup [onD k,.int (max x.b p),.int (ag2 x.e q),y])++fs,aa,Z,?_,?_,?_⟩
  ·rw[List.map_cons,r_4,gg,r_5,b,s_7,ih,List.append_assoc]
  ·rw[List.length_append,List.length_map,List.length_cons];omega
  ·constructor
   ·intro z
    by_cases c:ss=[]
    ·obtain⟨y,Y,q⟩:=i2.mp λ z'=>z (by rw[c,z'];rfl)
     exact⟨y,qh _ Y,q⟩
    ·exact⟨x,qg,ab.mp c⟩
   ·rintro ⟨y,Y,qq⟩ z
    obtain⟨z1,z2⟩:=List.append_eq_nil_iff.mp z
    rcases qt Y with rfl | Y
    ·exact ab.mpr qq (List.map_eq_nil_iff.mp z1)
    ·exact i2.mpr ⟨y,Y,qq⟩ z2
theorem bh7 {B:List Bx} (h:∀ x∈B,x.Ok) (hl:B.length<=100):∃ fs,g_5 [askD bd,.str w,oD o,.lst ((met B k p q).map λ x=>mtD x k p q)]=some (.lst fs)/\fs.length<=200/\(fs≠[]↔∃ x∈B,inB x k p q/\∃ v,x.s.has v/\Tw w bd o v):=by
 have Z:(met B k p q).length<=100:=Nat.le_trans (List.length_filter_le _ _) hl;have O:∀ x,x∈met B k p q↔x∈B/\inB x k p q:=λ x=>by unfold met;rw[List.mem_filter,decide_eq_true_iff]
 obtain⟨fs,s5,Y,e,l2,S⟩:=aA9 hw hb o k p q (.im (.lst ((met B k p q).map λ x=>mtD x k p q))) (met B k p q) (λ x z=>⟨h x ((O x).mp z).1,((O x).mp z).2⟩) [] .no .no (by simp;omega)
 rw[List.nil_append] at e;refine⟨fs,?_,by omega,S.trans ⟨fun⟨x,z,q⟩=>⟨x,((O x).mp z).1,((O x).mp z).2,q⟩,fun⟨x,z,hz,q⟩=>⟨x,(O x).mpr ⟨z,hz⟩,q⟩⟩⟩
 generalize ((met B k p q).map λ x=>mtD x k p q)=X at *
 have e':fGo (gN 5) g_8 X [.im (askD bd),.im (.str w),.im (oD o),.im (.lst X),.ow false (.lst []),.no,.no]=_:=e;simp[g_5,t_5,List.replicate,e']
end
theorem aL0 {k:Str}{P:Int}{q:Option Int} (u:Th):h_5 [kbD k P q,tD u]=some (.bl (decide (u.k=k/\P<=u.t/\ltO u.t q))):=by
 have f1:u.v.fmod 1=0:=by rw[Int.fmod_eq_emod_of_nonneg _ (by decide)];omega
 have et:tD u=.tup [.int u.t,.str u.k,.int u.v]:=rfl;rw[et]
 have hk:d_6 [onD k,.str u.k]=some (.bl (decide (u.k=k))):=by
  by_cases c:u.k=k
  ·simp[d_6,w_5,R_7,F_2,inD,T_6,R_9,c]
  ·have c':¬ k=u.k:=λ z=>c z.symm
   simp[d_6,w_5,R_7,F_2,inD,T_6,R_9,c,c']
 have sh:j_7 [evD,.int u.v]=some (.bl true):=by simp[j_7,x_7,z_6,C_1,z_5,t_3,b_7,f_3,f1]
 by_cases c1:u.t<P
 ·have S:¬ P<=u.t:=by omega
  simp[h_5,u_0,List.replicate,am0,al9,al8,z_6,C_1,z_5,t_3,c1,S]
 ·have S:P<=u.t:=by omega
  by_cases Y:ltO u.t q
  ·have fin:h_5 [kbD k P q,.tup [.int u.t,.str u.k,.int u.v]]=some (.bl (decide (u.k=k))):=by
    cases q with
    |none =>
     cases hd:decide (u.k=k) <;> rw[hd] at hk <;> simp[h_5,u_0,List.replicate,oD,am0,al9,al8,z_6,C_1,z_5,t_3,c1,hk,sh]
    |some q =>
     have O:¬ q<=u.t:=Int.not_le.mpr Y;cases hd:decide (u.k=k) <;> rw[hd] at hk <;> simp[h_5,u_0,List.replicate,oD,am0,al9,al8,z_6,C_1,z_5,t_3,c1,O,hk,sh]
   rw[fin]
   by_cases Z:u.k=k
   ·rw[decide_eq_true Z,decide_eq_true ⟨Z,S,Y⟩]
   ·rw[decide_eq_false Z,decide_eq_false λ z=>Z z.1]
  ·rw[decide_eq_false λ z=>Y z.2.2]
   cases q with
   |none=>exact absurd trivial Y
   |some q =>
    have O:q<=u.t:=Int.not_lt.mp Y;simp[h_5,u_0,List.replicate,oD,am0,al9,al8,z_6,C_1,z_5,t_3,c1,O]
noncomputable def pK (k:Str) (P:Int) (q:Option Int) (u:Th):Bool:=decide (u.k=k/\P<=u.t/\ltO u.t q)
theorem aK7 (k:Str) (P:Int) (q:Option Int):∀ L:List Th,cGo (tV (eF h_5 (aC (eV 1) (aC (eV 0) aN)))) (eV 0) [.im (kbD k P q)] (L.map tD)=some ((L.filter (pK k P q)).map tD)
 |[]=>rfl
 |u::L=>by
  have e:=aL0 (k:=k) (P:=P) (q:=q) u;have t:tV (eF h_5 (aC (eV 1) (aC (eV 0) aN))) [.im (tD u),.im (kbD k P q)]=some (pK k P q u,[.im (tD u),.im (kbD k P q)]):=by unfold pK;simp[e]
  have e':eV 0 [.im (tD u),.im (kbD k P q)]=some (tD u,[.im (tD u),.im (kbD k P q)]):=rfl;rw[List.map_cons,ay6,t];cases c:pK k P q u with
  |true=>rw[ay9,e',ay8,aK7 k P q L,List.filter_cons_of_pos c];rfl
  |false=>rw[be2,aK7 k P q L,List.filter_cons_of_neg (by rw[c];exact Bool.false_ne_true)]
theorem be1:∀ x:List Th,cGo tYes (e2 b_1 (eV 0) (zI 2)) [] (x.map tD)=some ((x.map (·.v)).map .int)
 |[]=>rfl
 |a::r=>by
  rw[List.map_cons,ay6];have t:tYes [.im (tD a)]=some (true,[.im (tD a)]):=rfl;have e:e2 b_1 (eV 0) (zI 2) [.im (tD a)]=some (.int a.v,[.im (tD a)]):=rfl;rw[t,ay9,e,ay8,be1 r,be0];rfl
theorem T_3 (f:Fold) (hf:f.ok) (k:Str) (P:Int) (q:Option Int) {L:List Th} (hl:L.length<=1000):l_5 [f.D',kbD k P q,.lst (L.map tD)]=some (oD (amO f.word ((L.filter (pK k P q)).map (·.v)))):=by
 have Z:L.length<=sizeLine:=l_6 hl;have g:=aK7 k P q L
 have ti:l_3 [kbD k P q,.lst (L.map tD)]=some (.lst ((L.filter (pK k P q)).map tD)):=by
  simp[l_3,G_2,g,Z]
 have cv:=be1 (L.filter (pK k P q));have sx:(L.filter (pK k P q)).length<=sizeLine:=Nat.le_trans (List.length_filter_le _ _) Z;obtain⟨kind,rest,w1,w2,_⟩:=v_4 f
 generalize L.filter (pK k P q)=X at *
 rw[w1];unfold rowD
 by_cases Y:X=[]
 ·subst Y
  have z:cGo tYes (e2 b_1 (eV 0) (zI 2)) [] []=some []:=rfl;have O:l_3 [kbD k P q,.lst (L.map tD)]=some (.lst []):=ti;rw[show amO f.word (([]:List Th).map (·.v))=none from rfl,aJ0];simp[l_5,w_6,List.replicate,O,z]
 ·have S:X.map (·.v)≠[]:=by simpa using Y
  have ea:=T_4 (f.isW hf) S;rw[i_4 S,av4];obtain⟨x0,xr,ex⟩:=List.exists_cons_of_ne_nil S
  generalize X.map (·.v)=V at *
  have ie:V.isEmpty=false:=by rw[ex];rfl
  simp[l_5,w_6,List.replicate,ti,cv,sx,t_3,w2,ea,ie]
noncomputable def Fold.b:Fold->Int->Int
 |.ever _,_=>0 | .fixed s _,a=>a*s | .slide _ s _,a=>a*s
noncomputable def Fold.e:Fold->Int->Option Int
 |.ever _,_=>none | .fixed s _,a=>some ((a+1)*s) | .slide wd s _,a=>some (a*s+wd)
noncomputable def Win (f:Fold) (a:Int):Prop:=0<=a/\∀ w,f=.ever w->a=0
theorem aA2 {f:Fold} (hf:f.ok) {a:Int} (h:Win f a):0<=f.b a/\ltO (f.b a) (f.e a):=by
 cases f with
 |ever w=>exact⟨Int.le_refl _,trivial⟩
 |fixed s w =>
  obtain⟨_,z,_⟩:=hf;refine⟨Int.mul_nonneg h.1 (by omega),?_⟩
  show a*s<(a+1)*s;rw[Int.add_mul];omega
 |slide wd s w =>
  obtain⟨_,z,_,O,_⟩:=hf;refine⟨Int.mul_nonneg h.1 (by omega),?_⟩
  show a*s<a*s+wd;omega
theorem U_2 {f:Fold} (hf:f.ok) {a:Int} (h:Win f a) {t:Int} (S:0<=t):inW f a t↔f.b a<=t/\ltO t (f.e a):=by
 cases f with
 |ever w =>
  have:=h.2 w rfl;subst this;exact⟨λ _=>⟨S,trivial⟩,λ _=>List.mem_singleton.mpr rfl⟩
 |fixed s w =>
  obtain⟨_,Y,_⟩:=hf;show a∈[t.fdiv s]↔a*s<=t/\t<(a+1)*s;rw[List.mem_singleton,Int.fdiv_eq_ediv_of_nonneg _ (by omega)]
  have z:a*s<=t↔a<=t / s:=(Int.le_ediv_iff_mul_le (by omega)).symm
  have O:t / s<a+1↔t<(a+1)*s:=Int.ediv_lt_iff_lt_mul (by omega)
  rw[z,<- O];omega
 |slide wd s w =>
  obtain⟨_,Y,_,Z,_⟩:=hf;show a∈Y_9 ((t-wd).fdiv s+1) (t.fdiv s+1-((t-wd).fdiv s+1)).toNat↔a*s<=t/\t<a*s+wd;rw[w_8,Int.fdiv_eq_ediv_of_nonneg _ (by omega),Int.fdiv_eq_ediv_of_nonneg _ (by omega)]
  have z:a*s<=t↔a<=t / s:=(Int.le_ediv_iff_mul_le (by omega)).symm
  have O:(t-wd) / s<a↔t-wd<a*s:=Int.ediv_lt_iff_lt_mul (by omega)
  have q3:(t-wd) / s<=t / s:=Int.ediv_le_ediv (by omega) (by omega)
  rw[z];omega
theorem ag6 {f:Fold} (hf:f.ok) {a:Int} (h:Win f a) (k:Str):b_6 [f.D',.str k,.int a]=some (kbD k (f.b a) (f.e a)):=by
 obtain⟨p0,lt⟩:=aA2 hf h;have S:=ae7 k p0 lt;cases f with
 |ever w =>
  have z:h_4 [.str k,.int 0,.non]=some (kbD k 0 none):=S;show b_6 [rowD _ _,_,_]=some (kbD k 0 none);unfold rowD;simp[b_6,q_6,List.replicate,I_0,W_2,kn1,kn2,z]
 |fixed s w =>
  obtain⟨_,Z,Y⟩:=hf;have O:∀ x:Int,v_6 x s=true:=λ x=>E_5 (by omega)
  have z:h_4 [.str k,.int (a*s),.int ((a+1)*s)]=some (kbD k (a*s) (some ((a+1)*s))):=S;show b_6 [rowD _ _,_,_]=some (kbD k (a*s) (some ((a+1)*s)));unfold rowD;simp[b_6,q_6,List.replicate,I_0,W_2,bb6,O,z]
 |slide wd s w =>
  obtain⟨_,Z,Y,_,_⟩:=hf;have O:∀ x:Int,v_6 x s=true:=λ x=>E_5 (by omega)
  have z:h_4 [.str k,.int (a*s),.int (a*s+wd)]=some (kbD k (a*s) (some (a*s+wd))):=S;show b_6 [rowD _ _,_,_]=some (kbD k (a*s) (some (a*s+wd)));unfold rowD;simp[b_6,q_6,List.replicate,I_0,W_2,bb5,bb4,kn3,O,z]
theorem aS2 {f:Fold} (hf:f.ok) {a:Int} (h:Win f a) (k:Str) {L:List Th} (ht:∀ u∈L,0<=u.t):vw f L k a=(L.filter (pK k (f.b a) (f.e a))).map (·.v):=by
 unfold vw
 congr 1
 refine List.filter_congr λ u z=>?_
 unfold pW pK;have:=U_2 hf h (ht u z);rw[Bool.eq_iff_iff,decide_eq_true_iff,decide_eq_true_iff,this]
noncomputable def Tb (B:List Bx) (k:Str) (P:Int->Int->Prop):Prop:=∃ x∈B,aD7 x.ki k=true/\∃ t v,x.b<=t/\t<x.e/\x.s.has v/\P t v
abbrev aK8:D:=.tup [.str "in",.str "x",.tup [],.tup [.non,.non]]
abbrev O_4 (f:Fold) (bd:Bd):D:=.lst [aK8,f.D',askD bd]
abbrev wQ:Str:=Str.ofString "q"
theorem aJ2 (kind:Str) (rest:List D) (bd:D):e_4 [.lst [aK8,rowD kind rest,.tup [.str "ask",.str "q",.tup [.str "f"],bd]],.str wQ]=some (.tup [.str "ask",.str "q",.tup [.str "f"],bd]):=by kernel_rfl
theorem aJ3 (kind:Str) (rest:List D) (bd:D):e_4 [.lst [aK8,rowD kind rest,.tup [.str "ask",.str "q",.tup [.str "f"],bd]],.str "f"]=some (rowD kind rest):=by kernel_rfl
theorem aG6 (kind:Str) (rest:List D) (bd:D):p_8 [.lst [aK8,rowD kind rest,.tup [.str "ask",.str "q",.tup [.str "f"],bd]],.str wQ]=some (.tup [.tup [.str "ask",.str "q",.tup [.str "f"],bd],rowD kind rest,aK8]):=by kernel_rfl
section
variable {f:Fold} (hf:f.ok) {bd:Bd} (hb:BdOk f.word bd) {k:Str} (hk:IsK k) {a:Int} (ha:Win f a) {L:List Th} (hl:L.length<64) (ht:∀ u∈L,0<=u.t) {B:List Bx} (hB:∀ x∈B,x.Ok) (lB:B.length<=100)
include hf hk ha
theorem aO7:i_9 [f.D',.str k,.int a]=some (.bl true):=by
 have e3:x_0 [.str k]=some (.bl true):=by rcases hk with rfl | rfl | rfl <;> kernel_rfl
 have S:=ag6 hf ha k;have Y:=ha.1;cases f with
 |ever w =>
  have:=ha.2 w rfl;subst this;show i_9 [rowD _ _,_,_]=_;unfold rowD;simp[i_9,x_8,e3,o_3,u_5,I_0]
 |fixed s w =>
  have O:¬ Str.ofString "fixed"=Str.ofString "gaps":=by decide +kernel
  have z:b_6 [.tup [.str "fixed",.str "f",.tup [.str "x"],.tup [.int s,.str w]],.str k,.int a]=_:=S;show i_9 [rowD _ _,_,_]=_;unfold rowD;simp[i_9,x_8,e3,o_3,u_5,I_0,kn4,O,z]
 |slide wd s w =>
  have O:¬ Str.ofString "slide"=Str.ofString "gaps":=by decide +kernel
  have z:b_6 [.tup [.str "slide",.str "f",.tup [.str "x"],.tup [.int wd,.int s,.str w]],.str k,.int a]=_:=S;show i_9 [rowD _ _,_,_]=_;unfold rowD;simp[i_9,x_8,e3,o_3,u_5,I_0,kn5,O,z]
theorem ay0 (bd:Bd):m_8 [O_4 f bd,.str wQ,.str k,.int a]=some .non:=by
 have S:=aO7 hf hk ha;obtain⟨kind,rest,w1,_,_⟩:=v_4 f;unfold O_4;rw[w1] at S ⊢;have e1:=aJ2 kind rest (bdD bd);have e2:=aJ3 kind rest (bdD bd);have O:b_1 (askD bd) (.int 2)=some (.tup [.str "f"]):=rfl;have Y:b_1 (.tup [.str "f"]) (.int 0)=some (.str "f"):=rfl;have z:b_1 (askD bd) (.int 0)=some (.str "ask"):=rfl;unfold askD at O z ⊢
 generalize Z:D.tup [.str "ask",.str "q",.tup [.str "f"],bdD bd]=A at *
 have nn:dIs A .non=some (.bl false):=by rw[<- Z];rfl
 generalize D.lst [aK8,rowD kind rest,A]=W at *
 generalize rowD kind rest=R at *
 simp[m_8,A_7,List.replicate,e1,e2,S,O,Y,z,nn]
include hb hl ht hB lB
theorem aF2:∃ z:Bool,j_0 [O_4 f bd,.str wQ,.str k,.int a,.lst (L.map tD),.lst (B.map Bx.D)]=some (.bl z)/\(z=true↔Tb B k λ t v=>inW f a t/\Tw f.word bd (amO f.word (vw f L k a)) v):=by
 obtain⟨p0,lt⟩:=aA2 hf ha;have Z:=ay0 hf hk ha bd;have wb:=ag6 hf ha k;have am:=T_3 f hf k (f.b a) (f.e a) (L:=L) (by omega)
 rw[<- aS2 hf ha k ht] at am;have me:=aZ7 hk p0 (f.e a) hB (by omega)
 obtain⟨fs,et,_,aa⟩:=bh7 (f.isW hf) hb (amO f.word (vw f L k a)) k (f.b a) (f.e a) hB lB
 have S:fs≠[]↔Tb B k λ t v=>inW f a t/\Tw f.word bd (amO f.word (vw f L k a)) v:=by
  rw[aa];constructor
  ·rintro ⟨x,O,⟨h1,h2⟩,v,h3,h4⟩
   have ok:=hB x O;have b0:=ok.b0;obtain⟨h5,h6⟩:=lt_min.mp h2;exact⟨x,O,h1,max x.b (f.b a),v,by omega,h5,h3,(U_2 hf ha (by omega)).mpr ⟨by omega,h6⟩,h4⟩
  ·rintro ⟨x,O,h1,t,v,h2,h3,h4,h5,h6⟩
   have b0:=(hB x O).b0;obtain⟨h7,h8⟩:=(U_2 hf ha (show 0<=t by omega)).mp h5
   refine⟨x,O,⟨h1,lt_min.mpr ⟨by omega,?_⟩⟩,v,h4,h6⟩
   cases hq:f.e a with
   |none=>exact trivial
   |some q=>rw[hq] at h8;have h8:t<q:=h8;show max x.b (f.b a)<q;omega
 obtain⟨kind,rest,w1,w2,w3⟩:=v_4 f;unfold O_4 at Z ⊢;rw[w1] at Z wb am ⊢;have er:=aG6 kind rest (bdD bd)
 have e1:e_7 [askD bd,rowD kind rest,kbD k (f.b a) (f.e a),.lst (L.map tD),.lst (B.map Bx.D)]=some (.lst fs):=by
  have i3:b_1 (rowD kind rest) (.int 3)=some (.tup rest):=rfl
  generalize rowD kind rest=R at *
  generalize askD bd=A at *
  generalize kbD k (f.b a) (f.e a)=X at *
  simp[e_7,s_3,i3,w2,am,me,et]
 have e2:g_7 [askD bd,rowD kind rest,.str k,.int a,.lst (L.map tD),.lst (B.map Bx.D)]=some (.lst fs):=by
  have i0:b_1 (rowD kind rest) (.int 0)=some (.str kind):=rfl
  generalize rowD kind rest=R at *
  generalize askD bd=A at *
  simp[g_7,t_9,i0,w3,wb,e1]
 refine⟨decide (0<fs.length),?_,by rw[<- S,decide_eq_true_iff];exact List.length_pos_iff⟩
 have w4:¬ Str.ofString "in"=Str.ofString "pair":=by decide +kernel
 unfold askD at er Z e2 ⊢
 generalize D.lst [aK8,rowD kind rest,D.tup [.str "ask",.str "q",.tup [.str "f"],bdD bd]]=W at *
 generalize D.tup [.str "ask",.str "q",.tup [.str "f"],bdD bd]=A at *
 generalize D.lst (L.map tD)=X at *
 generalize D.lst (B.map Bx.D)=Y at *
 generalize rowD kind rest=R at *
 simp[j_0,A_8,List.replicate,Z,er,am0,al9,al8,z_6,w4,e2]
end
theorem ac6 {α:Type} (f:α->D) (xs:List α) {i:Int} (z:0<=i) (h1:i<xs.length):∃ x,x∈xs/\atD (xs.map f) i=some (f x):=by
 have hi:i.toNat<xs.length:=by omega
 refine⟨xs[i.toNat],List.getElem_mem hi,?_⟩;unfold atD dPl;rw[List.length_map,if_pos z,if_pos h1];show (xs.map f)[i.toNat]?=_;rw[List.getElem?_map,List.getElem?_eq_getElem hi];rfl
noncomputable def qL:List Int->List D
 |[]=>[]
 |q::qs=>qL qs++[.int q]
theorem ai6:∀ xs:List Int,xs.map D.int=qL xs.reverse
 |[]=>rfl
 |x::xs=>by
  have h:∀ (a b:List Int),qL (a++b)=qL b++qL a:=λ a=>by
   induction a with
   |nil=>intro b;rw[List.nil_append];show _=qL b++[];rw[List.append_nil]
   |cons y a z=>intro b;rw[List.cons_append];show qL (a++b)++[_]=qL b++(qL a++[_]);rw[z,List.append_assoc]
  rw[List.map_cons,List.reverse_cons,h,ai6 xs];rfl
@[simp] theorem bH4 (i:Nat) (ρ:En) (b:Bool) (q:Int) (qs:List Int):eQa i ρ (some (b,qL (q::qs)))=some (.int q,ρ.set i (.ow b (.lst (qL qs)))):=bp2 i ρ b (qL qs) (.int q)
theorem q3:z_4 3=true:=z_3 (by decide) (by decide)
theorem Y_6 (c:Int):∀ (n:Nat) (lo:Int) (xs:List Int) (r:Int) (O:Sl),xs.length+n<=1000->∃ (ys:List Int) (S:Int) (z:Sl),ys.length=xs.length+n/\fGo (gN 5) k_9 (o_9 lo n) [.im (.int c),.im (.int 120),.ow false (.lst (xs.map .int)),.no,.no,O,.im (.int r)]=some (.nx [.im (.int c),.im (.int 120),.ow false (.lst (ys.map .int)),.no,.no,z,.im (.int S)])
 |0,lo,xs,r,O,_=>⟨xs,r,O,rfl,rfl⟩
 |n+1,lo,xs,r,O,hl=>by
  have Z:gN 5 (.int lo) [.im (.int c),.im (.int 120),.ow false (.lst (xs.map .int)),.no,.no,O,.im (.int r)]=some [.im (.int c),.im (.int 120),.ow false (.lst (xs.map .int)),.no,.no,.im (.int lo),.im (.int r)]:=rfl;have q:xs.length<1000000:=by omega
  have d:z_4 10000019=true:=z_3 (by decide) (by decide)
  have b:k_9 [.im (.int c),.im (.int 120),.ow false (.lst (xs.map .int)),.no,.no,.im (.int lo),.im (.int r)]=some (.nx [.im (.int c),.im (.int 120),.ow false (.lst ((xs++[r.fmod 10000019]).map .int)),.no,.no,.im (.int lo),.im (.int (r.fdiv 10000019))]):=by
   simp[k_9,q,d]
  obtain⟨ys,S,z,l,Y⟩:=Y_6 c n (lo+1) (xs++[r.fmod 10000019]) (r.fdiv 10000019) (.im (.int lo)) (by rw[List.length_append,List.length_singleton];omega)
  refine⟨ys,S,z,by rw[l,List.length_append,List.length_singleton];omega,?_⟩
  rw[show o_9 lo (n+1)=.int lo::o_9 (lo+1) n from rfl,r_4,Z,r_5,b,s_7,Y]
theorem Y_5 (c:Int):∀ (n:Nat) (lo:Int) (xs:List Int) (a b:Int) (O:Sl),0<=lo->lo+n<=1000->0<=a->a<2147490000->xs.length+n<=1000->∃ (ys:List Int) (Y S:Int) (z:Sl),ys.length=xs.length+n/\fGo (gN 5) k_8 (o_9 lo n) [.im (.int c),.im (.int 120),.ow false (.lst (xs.map .int)),.im (.int a),.im (.int b),O,.no]=some (.nx [.im (.int c),.im (.int 120),.ow false (.lst (ys.map .int)),.im (.int Y),.im (.int S),z,.no])
 |0,lo,xs,a,b,O,_,_,_,_,_=>⟨xs,a,b,O,rfl,rfl⟩
 |n+1,lo,xs,a,b,O,l0,l1,a0,a1,hl=>by
  have gg:gN 5 (.int lo) [.im (.int c),.im (.int 120),.ow false (.lst (xs.map .int)),.im (.int a),.im (.int b),O,.no]=some [.im (.int c),.im (.int 120),.ow false (.lst (xs.map .int)),.im (.int a),.im (.int b),.im (.int lo),.no]:=rfl;have q:xs.length<1000000:=by omega
  have d:z_4 1009=true:=z_3 (by decide) (by decide)
  have m1:∀ x:Int,v_6 a x=true:=λ x=>aI8 (by omega)
  have m2:v_6 b 48271=true:=E_5 (by decide)
  have f0:=Int.fmod_nonneg_of_pos (a*(a.fdiv 1009+69621)) (b:=2147483647) (by decide)
  have f1:=Int.fmod_lt_of_pos (a*(a.fdiv 1009+69621)) (b:=2147483647) (by decide)
  have bb:k_8 [.im (.int c),.im (.int 120),.ow false (.lst (xs.map .int)),.im (.int a),.im (.int b),.im (.int lo),.no]=some (.nx [.im (.int c),.im (.int 120),.ow false (.lst ((xs++[(a*(a.fdiv 1009+69621)).fmod 2147483647+lo+1+(b*48271).fmod 2147483629]).map .int)),.im (.int ((a*(a.fdiv 1009+69621)).fmod 2147483647+lo+1)),.im (.int ((b*48271).fmod 2147483629)),.im (.int lo),.no]):=by
   simp[k_8,q,d,m1,m2]
  obtain⟨ys,Y,S,z,l,Z⟩:=Y_5 c n (lo+1) (xs++[(a*(a.fdiv 1009+69621)).fmod 2147483647+lo+1+(b*48271).fmod 2147483629]) ((a*(a.fdiv 1009+69621)).fmod 2147483647+lo+1) ((b*48271).fmod 2147483629) (.im (.int lo)) (by omega) (by omega) (by omega) (by omega) (by rw[List.length_append,List.length_singleton];omega)
  refine⟨ys,Y,S,z,by rw[l,List.length_append,List.length_singleton];omega,?_⟩
  rw[show o_9 lo (n+1)=.int lo::o_9 (lo+1) n from rfl,r_4,gg,r_5,bb,s_7,Z]
theorem ah9 (c:Int):∃ qs:List Int,h_0 [.int c,.int 120]=some (.lst (qL qs))/\qs.length=120:=by
 have Y:z_4 7=true:=z_3 (by decide) (by decide)
 have m1:∀ x:Int,v_6 x 48271=true:=λ x=>E_5 (by decide)
 have m2:∀ x:Int,v_6 x 69621=true:=λ x=>E_5 (by decide)
 have Z:=Int.fmod_nonneg_of_pos ((c.fmod 2147483647+1)*48271) (b:=2147483647) (by decide)
 have f1:=Int.fmod_lt_of_pos ((c.fmod 2147483647+1)*48271) (b:=2147483647) (by decide)
 obtain⟨ys,r',s5,l1,e1⟩:=Y_6 c 120 0 [] (c.fdiv 7) .no (by decide)
 obtain⟨zs,a',b',aa,l2,e2⟩:=Y_5 c 120 0 [] (((c.fmod 2147483647+1)*48271).fmod 2147483647) (((c.fmod 1000003+1)*69621).fmod 2147483629) .no (by decide) (by decide) Z (by omega) (by decide)
 have O:fGo (gN 5) k_9 (o_9 0 120) [.im (.int c),.im (.int 120),.ow false (.lst []),.no,.no,.no,.im (.int (c.fdiv 7))]=_:=e1;have z:fGo (gN 5) k_8 (o_9 0 120) [.im (.int c),.im (.int 120),.ow false (.lst []),.im (.int (((c.fmod 2147483647+1)*48271).fmod 2147483647)),.im (.int (((c.fmod 1000003+1)*69621).fmod 2147483629)),.no,.no]=_:=e2;have S:br3 (.int 10) (.int 40)=some (.int 10000000000000000000000000000000000000000):=by kernel_rfl
 by_cases h:(10000000000000000000000000000000000000000:Int)<=c
 ·refine⟨ys,?_,by simpa using l1⟩
  have rv:(ys.map D.int).reverse=qL ys:=by rw[<- List.map_reverse,ai6,List.reverse_reverse]
  simp[h_0,t_8,List.replicate,S,h,Y,O,rv]
 ·refine⟨zs.reverse,?_,by rw[List.length_reverse];simpa using l2⟩
  simp[h_0,t_8,List.replicate,S,h,m1,m2,z,ai6]
structure Gd (u:Th):Prop where
 t0:0<=u.t
 t8:u.t<8
 k:u.k=kA\/u.k=kB
 v0:-2<=u.v
 v3:u.v<=3
theorem aS5 {qs:List Int} (h:3<=qs.length):∃ a b c r,qs=a::b::c::r:=by
 match qs,h with
 |a::b::c::r,_=>exact⟨a,b,c,r,rfl⟩
theorem ah5:∀ (n:Nat) (lo:Int) (L:List Th) (qs:List Int) (S:Sl),3*n<=qs.length->L.length+n<=100->(∀ u∈L,Gd u) ->
  ∃ (Y:List Th) (z:List Int) (O:Sl),fGo (gN 3) k_7 (o_9 lo n) [.ow true (.lst (qL qs)),.im (.int 6),.ow false (.lst (L.map tD)),S]=some (.nx [.ow true (.lst (qL z)),.im (.int 6),.ow false (.lst (Y.map tD)),O])/\Y.length=L.length+n/\qs.length=z.length+3*n/\∀ u∈Y,Gd u
 |0,lo,L,qs,S,_,_,h=>⟨L,qs,S,rfl,rfl,rfl,h⟩
 |n+1,lo,L,qs,S,hq,hl,h=>by
  obtain⟨a,b,c,r,rfl⟩:=aS5 (qs:=qs) (by omega)
  have gg:gN 3 (.int lo) [.ow true (.lst (qL (a::b::c::r))),.im (.int 6),.ow false (.lst (L.map tD)),S]=some [.ow true (.lst (qL (a::b::c::r))),.im (.int 6),.ow false (.lst (L.map tD)),.im (.int lo)]:=rfl;have f1:=Int.fmod_nonneg_of_pos (a.fdiv 3) (b:=8) (by decide)
  have f2:=Int.fmod_lt_of_pos (a.fdiv 3) (b:=8) (by decide)
  have f3:=Int.fmod_nonneg_of_pos (c.fdiv 3) (b:=6) (by decide)
  have f4:=Int.fmod_lt_of_pos (c.fdiv 3) (b:=6) (by decide)
  obtain⟨k,hk,ek⟩:=ac6 D.str [kA,kB] (i:=(b.fdiv 3).fmod 2) (Int.fmod_nonneg_of_pos _ (by decide)) (Int.fmod_lt_of_pos _ (by decide))
  have aa:atD [.str kA,.str kB] ((b.fdiv 3).fmod 2)=some (.str k):=ek;have ql:L.length<1000000:=by omega
  have bb:k_7 [.ow true (.lst (qL (a::b::c::r))),.im (.int 6),.ow false (.lst (L.map tD)),.im (.int lo)]=some (.nx [.ow true (.lst (qL r)),.im (.int 6),.ow false (.lst ((L++[Th.mk ((a.fdiv 3).fmod 8) k ((c.fdiv 3).fmod 6-2)]).map tD)),.im (.int lo)]):=by
   simp[k_7,q3,aa,ql,tD]
  obtain⟨Y,z,O,ih,l1,l2,g⟩:=ah5 n (lo+1) (L++[Th.mk ((a.fdiv 3).fmod 8) k ((c.fdiv 3).fmod 6-2)]) r (.im (.int lo)) (by simp only[List.length_cons] at hq;omega) (by rw[List.length_append,List.length_singleton];omega) (λ u Z=>by
   rcases qw Z with Z | Z
   ·exact h u Z
   ·cases List.mem_singleton.mp Z
    exact⟨f1,f2,by simpa using hk,by dsimp only;omega,by dsimp only;omega⟩)
  refine⟨Y,z,O,?_,by rw[l1,List.length_append,List.length_singleton];omega,by simp only[List.length_cons];omega,g⟩
  rw[show o_9 lo (n+1)=.int lo::o_9 (lo+1) n from rfl,r_4,gg,r_5,bb,s_7,ih]
theorem ah4 {qs:List Int} (h:16<=qs.length):∃ (L:List Th) (O:List Int),i_7 (.lst (qL qs)) [.int 6]=some (.lst (L.map tD),.lst (qL O))/\L.length<6/\qs.length<=O.length+16/\(∀ u∈L,Gd u):=by
 obtain⟨a,r,rfl⟩:=List.exists_cons_of_ne_nil (l:=qs) (λ z=>by rw[z] at h;exact absurd h (by decide))
 have f1:=Int.fmod_nonneg_of_pos (a.fdiv 3) (b:=6) (by decide)
 have f2:=Int.fmod_lt_of_pos (a.fdiv 3) (b:=6) (by decide)
 rw[List.length_cons] at h;obtain⟨L,O,s3,e,l1,l2,g⟩:=ah5 ((a.fdiv 3).fmod 6).toNat 0 [] r .no (by omega) (by simp;omega) (λ u Y=>nomatch Y)
 have l1:L.length=0+((a.fdiv 3).fmod 6).toNat:=l1;have e':fGo (gN 3) k_7 (o_9 0 ((a.fdiv 3).fmod 6).toNat) [.ow true (.lst (qL r)),.im (.int 6),.ow false (.lst []),.no]=_:=e;obtain⟨S,hS,pm⟩:=ai0 L;have Z:=ac5 L (by omega)
 rw[hS] at Z;have r1:(a.fdiv 3).fmod 6<4611686018427387904:=by omega
 have r2:-4611686018427387904<=(a.fdiv 3).fmod 6:=by omega
 refine⟨S,O,?_,by rw[pm.length_eq];omega,by rw[List.length_cons];omega,λ u Y=>g u (pm.mem_iff.mp Y)⟩
 simp[i_7,A_4,List.replicate,q3,r1,r2,e',Z]
theorem bm9 {i:Int} (z:0<=i) (h1:i<5):∃ j:Nat,j<5/\atD [.tup [.str J_9,.tup [.str kA]],.tup [.str U_3,.tup []],.tup [.str U_3,.tup [.str kA]],.tup [.str J_9,.tup [.str kA,.str kB]],.tup [.str U_3,.tup [.str kC]]] i=some (kyD j):=by
 have c:i=0\/i=1\/i=2\/i=3\/i=4:=by omega
 rcases c with rfl | rfl | rfl | rfl | rfl
 ·exact⟨0,by decide,rfl⟩
 ·exact⟨1,by decide,rfl⟩
 ·exact⟨2,by decide,rfl⟩
 ·exact⟨3,by decide,rfl⟩
 ·exact⟨4,by decide,rfl⟩
theorem ba4 (j:Nat):∃ l,kyD j=.tup l:=by
 match j with
 |0=>exact⟨_,rfl⟩
 |1=>exact⟨_,rfl⟩
 |2=>exact⟨_,rfl⟩
 |3=>exact⟨_,rfl⟩
 |j+4=>exact⟨_,rfl⟩
theorem bj0 {qs:List Int} (h:7<=qs.length):∃ a b c d e f g r,qs=a::b::c::d::e::f::g::r:=by
 match qs,h with
 |a::b::c::d::e::f::g::r,_=>exact⟨a,b,c,d,e,f,g,r,rfl⟩
noncomputable def E13 (qs:List Int) (B:List Bx) (s4 s5 Y s7 Z s9 O z S:Sl):En:=[.ow true (.lst (qL qs)),.im (.int 3),.im (.int 6),.ow false (.lst (B.map Bx.D)),s4,s5,Y,s7,Z,s9,O,z,S]
theorem az1 (B:List Bx) (hB:∀ x∈B,x.Ok) (hl:B.length<=100) (a b c d e f g:Int) (r:List Int) (s4 s5 s6 s7 s8 s9 ah af ak:Sl) :
  ∃ B' ag ad aj ae ac aa Z ab,k_0 (E13 (a::b::c::d::e::f::g::r) B s4 s5 s6 s7 s8 s9 ah af ak)=some (.nx (E13 r B' s4 ag ad aj ae ac aa Z ab))/\B'.length<=B.length+1/\∀ x∈B',x.Ok:=by
 have S:∀ (x m:Int),0<m->0<=(x.fdiv 3).fmod m/\(x.fdiv 3).fmod m<m:=λ x m h=>⟨Int.fmod_nonneg_of_pos _ h,Int.fmod_lt_of_pos _ h⟩
 have f1:=S a 5 (by decide)
 have f2:=S b 9 (by decide)
 have f3:=S c 6 (by decide)
 have f4:=S d 7 (by decide)
 have f5:=S e 3 (by decide)
 have f6:=S f 6 (by decide)
 obtain⟨j,hj,ej⟩:=bm9 f1.1 f1.2;obtain⟨kl,ek⟩:=ba4 j
 generalize ha:(a.fdiv 3).fmod 5=ai at *
 generalize hb:(b.fdiv 3).fmod 9=z at *
 generalize hc:(c.fdiv 3).fmod 6=O at *
 generalize hd:(d.fdiv 3).fmod 7=di at *
 generalize he:(e.fdiv 3).fmod 3=Y at *
 generalize hf:(f.fdiv 3).fmod 6=fi at *
 have i3:I13 (1+Y):=by unfold I13;omega
 have f7:=S g (1+Y) (by omega)
 generalize hg:(g.fdiv 3).fmod (1+Y)=gi at *
 have nz:¬ 1+Y=0:=by omega
 have ql:B.length<1000000:=by omega
 rcases aJ6 (di-3) (wd:=fi) i3 f7.1 f7.2 (by omega) with em | ⟨s,sok,sb,em⟩
 ·refine⟨B,.im (.lst [.tup [.str J_9,.tup [.str kA]],.tup [.str U_3,.tup []],.tup [.str U_3,.tup [.str kA]],.tup [.str J_9,.tup [.str kA,.str kB]],.tup [.str U_3,.tup [.str kC]]]),.im (kyD j),.im (.int z),.im (.int (z+1+O)),.im (.int (di-3)),.im (.int (1+Y)),.im .non,.im .non,?_,Nat.le_succ _,hB⟩
  have bm:b_3 [kyD j,.int z,.int (z+1+O),.non]=some .non:=by
   rw[ek];simp[b_3,k_1]
  simp[k_0,E13,q3,ha,ej,hb,hc,hd,he,hf,hg,nz,em,bm]
 ·have ok:Bx.Ok ⟨j,z,z+1+O,s⟩:=⟨hj,f2.1,by dsimp only;omega,by dsimp only;omega,by dsimp only;omega,by dsimp only;omega,sok⟩
  refine⟨B++[⟨j,z,z+1+O,s⟩],.im (.lst [.tup [.str J_9,.tup [.str kA]],.tup [.str U_3,.tup []],.tup [.str U_3,.tup [.str kA]],.tup [.str J_9,.tup [.str kA,.str kB]],.tup [.str U_3,.tup [.str kC]]]),.im (kyD j),.im (.int z),.im (.int (z+1+O)),.im (.int (di-3)),.im (.int (1+Y)),.im s.D,.im (Bx.D ⟨j,z,z+1+O,s⟩),?_,by rw[List.length_append];exact qj _,λ x hx=>?_⟩
  ·have bm:b_3 [kyD j,.int z,.int (z+1+O),s.D]=some (Bx.D ⟨j,z,z+1+O,s⟩):=by
    have c1:max z 0=z:=by omega
    have c2:¬ z+1+O<=z:=by omega
    show _=some (D.tup [kyD j,.int z,.int (z+1+O),s.D]);rw[ek];simp[b_3,k_1,E_8,c1,c2]
   simp[k_0,E13,q3,ha,ej,hb,hc,hd,he,hf,hg,nz,em,bm,ql]
  ·rcases qw hx with hx | hx
   ·exact hB x hx
   ·cases List.mem_singleton.mp hx;exact ok
theorem ac2:∀ (n:Nat) (lo:Int) (B:List Bx) (qs:List Int) (s4 s5 s6 Z s8 s9 O z S:Sl),7*n<=qs.length->B.length+n<=100->(∀ x∈B,x.Ok) ->
  ∃ B' Y ag aj ah ar ai af ab aa ac,fGo (gN 4) k_0 (o_9 lo n) (E13 qs B s4 s5 s6 Z s8 s9 O z S)=some (.nx (E13 Y B' ag aj ah ar ai af ab aa ac))/\B'.length<=B.length+n/\qs.length=Y.length+7*n/\∀ x∈B',x.Ok
 |0,lo,B,qs,s4,s5,s6,Z,s8,s9,O,z,S,_,_,h=>⟨B,qs,s4,s5,s6,Z,s8,s9,O,z,S,rfl,qj _,rfl,h⟩
 |n+1,lo,B,qs,s4,s5,s6,Z,s8,s9,O,z,S,hq,hl,h=>by
  obtain⟨a,b,c,d,e,f,g,r,rfl⟩:=bj0 (qs:=qs) (by omega)
  obtain⟨B1,t5,t6,t7,t8,t9,ad,al,ak,e1,l1,an⟩:=az1 B h (by omega) a b c d e f g r (.im (.int lo)) s5 s6 Z s8 s9 O z S
  obtain⟨B',Y,u4,u5,u6,u7,u8,u9,ae,aq,am,ih,l2,l3,ao⟩:=ac2 n (lo+1) B1 r (.im (.int lo)) t5 t6 t7 t8 t9 ad al ak (by simp only[List.length_cons] at hq;omega) (by omega) an
  refine⟨B',Y,u4,u5,u6,u7,u8,u9,ae,aq,am,?_,by omega,by simp only[List.length_cons];omega,ao⟩
  have gg:gN 4 (.int lo) (E13 (a::b::c::d::e::f::g::r) B s4 s5 s6 Z s8 s9 O z S)=some (E13 (a::b::c::d::e::f::g::r) B (.im (.int lo)) s5 s6 Z s8 s9 O z S):=rfl;rw[show o_9 lo (n+1)=.int lo::o_9 (lo+1) n from rfl,r_4,gg,r_5,e1,s_7,ih]
theorem az0 {qs:List Int} (h:15<=qs.length):∃ (B:List Bx) (O:List Int),l_4 (.lst (qL qs)) [.int 3,.int 6]=some (.lst (B.map Bx.D),.lst (qL O))/\B.length<3/\qs.length<=O.length+15/\(∀ x∈B,x.Ok):=by
 obtain⟨a,r,rfl⟩:=List.exists_cons_of_ne_nil (l:=qs) (λ z=>by rw[z] at h;exact absurd h (by decide))
 have f1:=Int.fmod_nonneg_of_pos (a.fdiv 3) (b:=3) (by decide)
 have f2:=Int.fmod_lt_of_pos (a.fdiv 3) (b:=3) (by decide)
 rw[List.length_cons] at h;obtain⟨B,O,u4,u5,u6,u7,u8,u9,Z,aa,ab,e,S,l2,ok⟩:=ac2 ((a.fdiv 3).fmod 3).toNat 0 [] r .no .no .no .no .no .no .no .no .no (by omega) (by simp;omega) (λ x hx=>nomatch hx)
 have S:B.length<=0+((a.fdiv 3).fmod 3).toNat:=S;have e':fGo (gN 4) k_0 (o_9 0 ((a.fdiv 3).fmod 3).toNat) [.ow true (.lst (qL r)),.im (.int 3),.im (.int 6),.ow false (.lst []),.no,.no,.no,.no,.no,.no,.no,.no,.no]=_:=e;have r1:(a.fdiv 3).fmod 3<4611686018427387904:=by omega
 have Y:-4611686018427387904<=(a.fdiv 3).fmod 3:=by omega
 refine⟨B,O,?_,by omega,by rw[List.length_cons];omega,ok⟩
 simp[l_4,G_4,List.replicate,q3,r1,Y,e',E13]
abbrev E9 (B:Sl) (k:Str) (T:List Th) (O Y s5 z Z S:Sl):En:=[B,.im (.str k),.ow false (.lst (T.map tD)),O,Y,s5,z,Z,S]
theorem ah0 {s:St} (h:s.Ok) (B:Sl) (k:Str) (t:Int) (S Y Z:Sl):∀ (n:Nat) (lo:Int) (T:List Th) (s8:Sl),T.length+n<=1000 ->
  ∃ (V:List Th) (O:Sl),fGo (gN 8) e_8 (o_9 lo n) (E9 B k T S Y Z (.im s.D) (.im (.int t)) s8)=some (.nx (E9 B k (T++V) S Y Z (.im s.D) (.im (.int t)) O))/\V.length<=n/\∀ r,r∈V↔r.k=k/\r.t=t/\lo<=r.v/\r.v<lo+n/\r.v % s.st=s.re
 |0,lo,T,s8,_=>⟨[],s8,by rw[List.append_nil];rfl,qj _,λ r=>⟨λ z=>(nomatch z),λ z=>by omega⟩⟩
 |n+1,lo,T,s8,hl=>by
  have gg:gN 8 (.int lo) (E9 B k T S Y Z (.im s.D) (.im (.int t)) s8)=some (E9 B k T S Y Z (.im s.D) (.im (.int t)) (.im (.int lo))):=rfl;have nz:¬ s.st=0:=by have:=h.r0;have:=h.r1;omega
  have em:=aL6 h.s3 lo;have ql:T.length<1000000:=by omega
  by_cases c:lo % s.st=s.re
  ·have b:e_8 (E9 B k T S Y Z (.im s.D) (.im (.int t)) (.im (.int lo)))=some (.nx (E9 B k (T++[⟨t,k,lo⟩]) S Y Z (.im s.D) (.im (.int t)) (.im (.int lo)))):=by
    simp[e_8,z_5,t_3,nz,em,c,ql,tD]
   obtain⟨V,O,ih,l,aa⟩:=ah0 h B k t S Y Z n (lo+1) (T++[⟨t,k,lo⟩]) (.im (.int lo)) (by rw[List.length_append,List.length_singleton];omega)
   refine⟨⟨t,k,lo⟩::V,O,?_,by rw[List.length_cons];omega,λ r=>?_⟩
   ·rw[show o_9 lo (n+1)=.int lo::o_9 (lo+1) n from rfl,r_4,gg,r_5,b,s_7,ih,List.append_assoc];rfl
   ·rw[List.mem_cons,aa]
    constructor
    ·rintro (rfl | ⟨h1,h2,h3,h4,h5⟩)
     ·exact⟨rfl,rfl,Int.le_refl _,by dsimp only;omega,c⟩
     ·exact⟨h1,h2,by omega,by omega,h5⟩
    ·rintro ⟨h1,h2,h3,h4,h5⟩
     by_cases z:r.v=lo
     ·left;cases r;subst h1 h2 z;rfl
     ·right;exact⟨h1,h2,by omega,by omega,h5⟩
  ·have b:e_8 (E9 B k T S Y Z (.im s.D) (.im (.int t)) (.im (.int lo)))=some (.nx (E9 B k T S Y Z (.im s.D) (.im (.int t)) (.im (.int lo)))):=by
    simp[e_8,z_5,t_3,nz,em,c]
   obtain⟨V,O,ih,l,aa⟩:=ah0 h B k t S Y Z n (lo+1) T (.im (.int lo)) (by omega)
   refine⟨V,O,?_,by omega,λ r=>?_⟩
   ·rw[show o_9 lo (n+1)=.int lo::o_9 (lo+1) n from rfl,r_4,gg,r_5,b,s_7,ih]
   ·rw[aa]
    constructor
    ·rintro ⟨h1,h2,h3,h4,h5⟩
     exact⟨h1,h2,by omega,by omega,h5⟩
    ·rintro ⟨h1,h2,h3,h4,h5⟩
     have z:r.v≠lo:=λ z=>c (by rw[<- z];exact h5)
     exact⟨h1,h2,by omega,by omega,h5⟩
theorem aB0 {s:St} (h:s.Ok) (sm:-1000<=s.lo/\s.hi<=1000) (B:Sl) (k:Str) (S Z O:Sl):∀ (n:Nat) (lo:Int) (T:List Th) (s7 Y:Sl),T.length+6*n<=1000 ->
  ∃ (V:List Th) (ac aa:Sl),fGo (gN 7) l_0 (o_9 lo n) (E9 B k T S Z O (.im s.D) s7 Y)=some (.nx (E9 B k (T++V) S Z O (.im s.D) ac aa))/\V.length<=6*n/\∀ r,r∈V↔r.k=k/\lo<=r.t/\r.t<lo+n/\s.has r.v
 |0,lo,T,s7,Y,_=>⟨[],s7,Y,by rw[List.append_nil];rfl,qj _,λ r=>⟨λ z=>(nomatch z),λ z=>by omega⟩⟩
 |n+1,lo,T,s7,Y,hl=>by
  have gg:gN 7 (.int lo) (E9 B k T S Z O (.im s.D) s7 Y)=some (E9 B k T S Z O (.im s.D) (.im (.int lo)) Y):=rfl;have sh:=h.sh;have le:=h.le;obtain⟨V1,u8,e1,l1,i1⟩:=ah0 h B k lo S Z O (s.hi+1-s.lo).toNat s.lo T Y (by omega)
  have r1:-4611686018427387904<=s.lo:=by omega
  have r2:s.lo<4611686018427387904:=by omega
  have r3:-4611686018427387904<=s.hi+1:=by omega
  have r4:s.hi+1<4611686018427387904:=by omega
  have b:l_0 (E9 B k T S Z O (.im s.D) (.im (.int lo)) Y)=some (.nx (E9 B k (T++V1) S Z O (.im s.D) (.im (.int lo)) u8)):=by
   simp[l_0,z_6,C_1,r1,r2,r3,r4,e1]
  obtain⟨V2,u7,ab,ih,l2,i2⟩:=aB0 h sm B k S Z O n (lo+1) (T++V1) (.im (.int lo)) u8 (by rw[List.length_append];omega)
  refine⟨V1++V2,u7,ab,?_,by rw[List.length_append];omega,λ r=>?_⟩
  ·rw[show o_9 lo (n+1)=.int lo::o_9 (lo+1) n from rfl,r_4,gg,r_5,b,s_7,ih,List.append_assoc]
  ·rw[List.mem_append,i1,i2]
   unfold St.has;constructor
   ·rintro (⟨h1,h2,h3,h4,h5⟩ | ⟨h1,h2,h3,h4⟩)
    ·exact⟨h1,by omega,by omega,h3,by omega,h5⟩
    ·exact⟨h1,by omega,by omega,h4⟩
   ·rintro ⟨h1,h2,h3,h4,h5,h6⟩
    by_cases z:r.t=lo
    ·left;exact⟨h1,z,h4,by omega,h6⟩
    ·right;exact⟨h1,by omega,by omega,h4,h5,h6⟩
theorem aK2 {i:Nat} (hi:i<5) {k:Str} (hk:IsK k) (B:Sl) (T:List Th) (S Z z Y O:Sl):tB (e2 dEq (e2 aO6 (eV 1) (e2 b_1 (eV 3) (zI 1))) (e2 dEq (e2 b_1 (eV 3) (zI 0)) (zT "only"))) (E9 B k T (.im (kyD i)) S Z z Y O)=some (aD7 i k,E9 B k T (.im (kyD i)) S Z z Y O):=by
 have c:i=0\/i=1\/i=2\/i=3\/i=4:=by omega
 rcases hk with rfl | rfl | rfl <;> rcases c with rfl | rfl | rfl | rfl | rfl <;> kernel_rfl
theorem aq3 {k:Str} (hk:IsK k) (Y:Sl):∀ (B:List Bx) (T:List Th) (s3 s4 s5 s6 S Z:Sl),(∀ x∈B,x.Ok)->T.length+36*B.length<=1000 ->
  ∃ (V:List Th) (ae aa ad ab af ac:Sl),fGo (gT [3,4,5,6]) d_7 (B.map Bx.D) (E9 Y k T s3 s4 s5 s6 S Z)=some (.nx (E9 Y k (T++V) ae aa ad ab af ac))/\V.length<=36*B.length/\∀ r,r∈V↔r.k=k/\∃ x∈B,aD7 x.ki k=true/\x.b<=r.t/\r.t<x.e/\x.s.has r.v
 |[],T,s3,s4,s5,s6,S,Z,_,_=>⟨[],s3,s4,s5,s6,S,Z,by rw[List.append_nil];rfl,qj _,λ r=>⟨λ z=>(nomatch z),fun⟨_,x,hx,_⟩=>(nomatch hx)⟩⟩
 |x::B,T,s3,s4,s5,s6,S,Z,h,hl=>by
  rw[List.length_cons] at hl;have ok:=h x qg;have be:=ok.be;have e6:=ok.e6;have b0:=ok.b0;have sb:=ok.b9;have gg:gT [3,4,5,6] x.D (E9 Y k T s3 s4 s5 s6 S Z)=some (E9 Y k T (.im (kyD x.ki)) (.im (.int x.b)) (.im (.int x.e)) (.im x.s.D) S Z):=rfl;have tt:=aK2 ok.ki hk Y T (.im (.int x.b)) (.im (.int x.e)) (.im x.s.D) S Z
  by_cases c:aD7 x.ki k=true
  ·obtain⟨V1,u7,u8,e1,l1,i1⟩:=aB0 ok.s ok.sm Y k (.im (kyD x.ki)) (.im (.int x.b)) (.im (.int x.e)) (x.e-x.b).toNat x.b T S Z (by omega)
   have r1:-4611686018427387904<=x.b:=by omega
   have r2:x.b<4611686018427387904:=by omega
   have r3:-4611686018427387904<=x.e:=by omega
   have r4:x.e<4611686018427387904:=by omega
   have b:d_7 (E9 Y k T (.im (kyD x.ki)) (.im (.int x.b)) (.im (.int x.e)) (.im x.s.D) S Z)=some (.nx (E9 Y k (T++V1) (.im (kyD x.ki)) (.im (.int x.b)) (.im (.int x.e)) (.im x.s.D) u7 u8)):=by
    unfold d_7;rw[bt8,tt,c];simp[r1,r2,r3,r4,e1]
   obtain⟨V2,v3,v4,v5,v6,v7,v8,ih,l2,i2⟩:=aq3 hk Y B (T++V1) (.im (kyD x.ki)) (.im (.int x.b)) (.im (.int x.e)) (.im x.s.D) u7 u8 (λ y O=>h y (qh _ O)) (by rw[List.length_append];omega)
   refine⟨V1++V2,v3,v4,v5,v6,v7,v8,?_,by rw[List.length_append,List.length_cons];omega,λ r=>?_⟩
   ·rw[List.map_cons,r_4,gg,r_5,b,s_7,ih,List.append_assoc]
   ·rw[List.mem_append,i1,i2]
    constructor
    ·rintro (⟨h1,h2,h3,h4⟩ | ⟨h1,y,O,q⟩)
     ·exact⟨h1,x,qg,c,h2,by omega,h4⟩
     ·exact⟨h1,y,qh _ O,q⟩
    ·rintro ⟨h1,y,O,q⟩
     rcases qt O with rfl | O
     ·left;exact⟨h1,q.2.1,by omega,q.2.2.2⟩
     ·right;exact⟨h1,y,O,q⟩
  ·have c':aD7 x.ki k=false:=Bool.eq_false_iff.mpr c
   have b:d_7 (E9 Y k T (.im (kyD x.ki)) (.im (.int x.b)) (.im (.int x.e)) (.im x.s.D) S Z)=some (.nx (E9 Y k T (.im (kyD x.ki)) (.im (.int x.b)) (.im (.int x.e)) (.im x.s.D) S Z)):=by
    unfold d_7;rw[bt8,tt,c'];simp
   obtain⟨V2,v3,v4,v5,v6,v7,v8,ih,l2,i2⟩:=aq3 hk Y B T (.im (kyD x.ki)) (.im (.int x.b)) (.im (.int x.e)) (.im x.s.D) S Z (λ y O=>h y (qh _ O)) (by omega)
   refine⟨V2,v3,v4,v5,v6,v7,v8,?_,by rw[List.length_cons];omega,λ r=>?_⟩
   ·rw[List.map_cons,r_4,gg,r_5,b,s_7,ih]
   ·rw[i2]
    constructor
    ·rintro ⟨h1,y,O,q⟩
     exact⟨h1,y,qh _ O,q⟩
    ·rintro ⟨h1,y,O,q⟩
     rcases qt O with rfl | O
     ·exact absurd q.1 c
     ·exact⟨h1,y,O,q⟩
theorem W_3 {k:Str} (hk:IsK k) {B:List Bx} (h:∀ x∈B,x.Ok) (hl:B.length<3):∃ T:List Th,f_6 [.lst (B.map Bx.D),.str k]=some (.lst (T.map tD))/\T.length<=72/\(∀ r∈T,r.k=k)/\Sm T/\∀ P:Int->Int->Prop,(Tb B k P↔∃ r∈T,P r.t r.v):=by
 obtain⟨T,v3,v4,v5,Y,Z,v8,e,l,i⟩:=aq3 hk (.im (.lst (B.map Bx.D))) B [] .no .no .no .no .no .no h (by simp;omega)
 rw[List.nil_append] at e;have e':fGo (gT [3,4,5,6]) d_7 (B.map Bx.D) [.im (.lst (B.map Bx.D)),.im (.str k),.ow false (.lst []),.no,.no,.no,.no,.no,.no]=_:=e;refine⟨T,?_,by omega,λ r z=>((i r).mp z).1,λ r z=>?_,λ P=>⟨fun⟨x,O,c,t,v,h1,h2,S,p⟩=>⟨⟨t,k,v⟩,(i _).mpr ⟨rfl,x,O,c,h1,h2,S⟩,p⟩,fun⟨r,z,p⟩=>?_⟩⟩
 ·generalize B.map Bx.D=X at *
  simp[f_6,v_3,List.replicate,e']
 ·obtain⟨_,x,O,c,h1,h2,S⟩:=(i r).mp z
  have ok:=h x O;have:=ok.b0;have:=ok.b9;have:=ok.e6;have e:=((i r).mp z).1;exact⟨by omega,by omega,by rw[e];exact hk⟩
 ·obtain⟨_,x,O,c,h1,h2,S⟩:=(i r).mp z
  exact⟨x,O,c,r.t,r.v,h1,h2,S,p⟩
theorem fm3 (x:Int) {m:Int} (h:0<m):0<=(x.fdiv 3).fmod m/\(x.fdiv 3).fmod m<m:=⟨Int.fmod_nonneg_of_pos _ h,Int.fmod_lt_of_pos _ h⟩
theorem bH0 {qs:List Int} (h:4<=qs.length):∃ a b c d r,qs=a::b::c::d::r:=by
 match qs,h with
 |a::b::c::d::r,_=>exact⟨a,b,c,d,r,rfl⟩
theorem aL5 {qs:List Int} (h:4 ≤ qs.length):∃ (f:Fold) (S:List Int),j_8 (.lst (qL qs)) [.str "f",.str "x"]=some (f.D',.lst (qL S)) ∧ f.ok ∧ qs.length ≤ S.length+4:=by
 obtain⟨q1,Z,z,Y,r,rfl⟩:=bH0 h;have f1:=fm3 q1 (m:=4) (by decide)
 have f2:=fm3 Z (m:=3) (by decide)
 have f3:=fm3 z (m:=5) (by decide)
 have f5:=fm3 z (m:=3) (by decide)
 have f4:=fm3 Y (m:=4) (by decide)
 obtain⟨w,aa,ew⟩:=ac6 D.str [wC,wS,wM,wL] (i:=(q1.fdiv 3).fmod 4) f1.1 f1.2;have hw:IsW w:=by simpa using aa
 have O:atD [.str wC,.str wS,.str wM,.str wL] ((q1.fdiv 3).fmod 4)=some (.str w):=ew;have c:(Z.fdiv 3).fmod 3=0\/(Z.fdiv 3).fmod 3=1\/(Z.fdiv 3).fmod 3=2:=by omega
 rcases c with c | c | c
 ·have i:atD [.str "fixed",.str "slide",.str "ever"] 0=some (.str "fixed"):=rfl
  refine⟨.fixed (1+(z.fdiv 3).fmod 5) w,Y::r,?_,⟨hw,by omega,by omega⟩,by simp only[List.length_cons];omega⟩
  show _=some (rowD _ _,_);unfold rowD;simp[j_8,u_4,List.replicate,q3,O,c,i]
 ·have i:atD [.str "fixed",.str "slide",.str "ever"] 1=some (.str "slide"):=rfl
  refine⟨.slide (1+(z.fdiv 3).fmod 3+1+(Y.fdiv 3).fmod 4) (1+(z.fdiv 3).fmod 3) w,r,?_,⟨hw,by omega,by omega,by omega,by omega⟩,by simp only[List.length_cons];omega⟩
  show _=some (rowD _ _,_);unfold rowD;simp[j_8,u_4,List.replicate,q3,O,c,i,kn3]
 ·have i:atD [.str "fixed",.str "slide",.str "ever"] 2=some (.str "ever"):=rfl
  refine⟨.ever w,z::Y::r,?_,hw,by simp only[List.length_cons];omega⟩
  show _=some (rowD _ _,_);unfold rowD;simp[j_8,u_4,List.replicate,q3,O,c,i,kn1,kn2]
theorem six {qs:List Int} (h:6<=qs.length):∃ a b c d e f r,qs=a::b::c::d::e::f::r:=by
 match qs,h with
 |a::b::c::d::e::f::r,_=>exact⟨a,b,c,d,e,f,r,rfl⟩
theorem ap8 {f:Fold} (hf:f.ok) {qs:List Int} (h:6<=qs.length):∃ (bd:Bd) (O:List Int),b_4 (.lst (qL qs)) [f.D']=some (bdD bd,.lst (qL O))/\BdOk f.word bd/\qs.length<=O.length+6:=by
 obtain⟨a,b,c,d,e,g,r,rfl⟩:=six h;obtain⟨kind,rest,w1,w2,_⟩:=v_4 f;have Z:b_1 (rowD kind rest) (.int 3)=some (.tup rest):=rfl;rw[w1];have hw:=f.isW hf
 generalize f.word=w at *
 generalize rowD kind rest=R at *
 have nil:∀ q:List Int,b_4 (.lst (qL (a::b::c::d::e::g::r))) [R]=some (.tup [],.lst (qL q))->(a::b::c::d::e::g::r).length<=q.length+6->∃ (bd:Bd) (O:List Int),b_4 (.lst (qL (a::b::c::d::e::g::r))) [R]=some (bdD bd,.lst (qL O))/\BdOk w bd/\(a::b::c::d::e::g::r).length<=O.length+6:=λ q e l =>
  ⟨none,q,e,⟨λ _=>rfl,λ _ l h z=>nomatch z⟩,l⟩
 by_cases S:w=wS
 ·subst S
  exact nil (a::b::c::d::e::g::r) (by simp[b_4,f_2,List.replicate,Z,w2]) (by omega)
 by_cases c0:(a.fdiv 3).fmod 2=0
 ·exact nil (b::c::d::e::g::r) (by simp[b_4,f_2,List.replicate,Z,w2,S,q3,c0]) (by simp)
 by_cases hc:w=wC
 ·subst hc
  have f3:=fm3 c (m:=4) (by decide)
  have f4:=fm3 d (m:=4) (by decide)
  by_cases c5:(e.fdiv 3).fmod 4=0
  ·refine⟨some (some (1+(c.fdiv 3).fmod 4),none),r,?_,⟨λ z=>absurd z S,λ _ l h z=>?_⟩,by simp⟩
   ·show _=some (D.tup [.int _,.non],_)
    by_cases Y:(g.fdiv 3).fmod 4=0 <;> simp[b_4,f_2,List.replicate,Z,w2,n1,q3,c0,c5,Y]
   ·cases z;exact⟨_,rfl,by omega,by omega,λ y z=>nomatch z⟩
  ·refine⟨some (some (1+(c.fdiv 3).fmod 4),some (1+(c.fdiv 3).fmod 4+(d.fdiv 3).fmod 4)),r,?_,⟨λ z=>absurd z S,λ _ l h z=>?_⟩,by simp⟩
   ·show _=some (D.tup [.int _,.int _],_)
    by_cases Y:(g.fdiv 3).fmod 4=0 <;> simp[b_4,f_2,List.replicate,Z,w2,n1,q3,c0,c5,Y]
   ·cases z;exact⟨_,rfl,by omega,by omega,λ y z=>by cases z;omega⟩
 ·have ok:∀ bd,BdOk w bd:=λ bd=>⟨λ z=>absurd z S,λ z=>absurd z hc⟩
  by_cases c5:(d.fdiv 3).fmod 4=0 <;> by_cases Y:(e.fdiv 3).fmod 4=0
  ·exact⟨some (none,none),g::r,by show _=some (D.tup [.non,.non],_);simp[b_4,f_2,List.replicate,Z,w2,S,hc,q3,c0,c5,Y],ok _,by simp⟩
  ·exact⟨some (some ((b.fdiv 3).fmod 6-2),none),g::r,by show _=some (D.tup [.int _,.non],_);simp[b_4,f_2,List.replicate,Z,w2,S,hc,q3,c0,c5,Y],ok _,by simp⟩
  ·exact⟨some (none,some ((b.fdiv 3).fmod 6-2+(c.fdiv 3).fmod 4)),g::r,by show _=some (D.tup [.non,.int _],_);simp[b_4,f_2,List.replicate,Z,w2,S,hc,q3,c0,c5,Y],ok _,by simp⟩
  ·exact⟨some (some ((b.fdiv 3).fmod 6-2),some ((b.fdiv 3).fmod 6-2+(c.fdiv 3).fmod 4)),g::r,by show _=some (D.tup [.int _,.int _],_);simp[b_4,f_2,List.replicate,Z,w2,S,hc,q3,c0,c5,Y],ok _,by simp⟩
noncomputable def bd2 (js:List Nat) (i q:Nat) (T:FT) (F:FE) (o:Option (List D×En)):Option (D×En):=bnd o λ p=>lcB js i q T F p.1 p.2
@[simp] theorem bH8 (js:List Nat) (i q:Nat) (R:FA) (T:FT) (F:FE) (ρ:En):bg5 js i q R T F ρ=bd2 js i q T F (R ρ):=zR rfl
@[simp] theorem bp8 (js:List Nat) (i q:Nat) (T:FT) (F:FE) (xs:List D) (ρ:En):bd2 js i q T F (some (xs,ρ))=lcB js i q T F xs ρ:=zR rfl
theorem bq9 (o:Option Int):dpD (oD o)<=30:=by cases o <;> simp[oD]
theorem bx1 (o o':Option Int):eqD (oD o) (oD o')=decide (o=o'):=by
 cases o with
 |none=>cases o' <;> rfl
 |some m =>
  cases o' with
  |none=>rfl
  |some n=>by_cases h:m=n <;> simp[oD,h]
theorem aS3 (f:Fold) (L R:List Th) (k:Str) (a:Int):vw f (L++R) k a=vw f L k a++vw f R k a:=by
 unfold vw;rw[List.filter_append,List.map_append]
theorem ag7 (f:Fold) {r:Th}{k:Str} (e:r.k=k) (a:Int):∀ j:Nat,vw f (List.replicate j r) k a=if inW f a r.t then List.replicate j r.v else []
 |0=>by split <;> rfl
 |j+1=>by
  have O:=ag7 f e a j;unfold vw at O ⊢;rw[List.replicate_succ]
  by_cases c:inW f a r.t
  ·rw[if_pos c] at O ⊢
   rw[List.filter_cons_of_pos (p:=pW f k a) (decide_eq_true ⟨e,c⟩),List.map_cons,O];rfl
  ·rw[if_neg c] at O ⊢
   rw[List.filter_cons_of_neg (p:=pW f k a) (λ z=>c (of_decide_eq_true z).2),O]
section
variable {f:Fold} (hf:f.ok) {bd:Bd} (hb:BdOk f.word bd) {L:List Th} (hl:L.length<=5) (sL:Sm L) {k:Str}{a:Int}
include hf hl sL
theorem ac7 {R:List Th} (hR:R.length<=9) (Y:Sm R):∃ S:List Th,A_9 [.lst (L.map tD++R.map tD)]=some (.lst (S.map tD))/\d_3 [askD bd,f.D',.lst (S.map tD),.tup [.str k,.int a]]=some (oD (o_7 bd (amO f.word (vw f L k a++vw f R k a)))):=by
 obtain⟨S,Z,z⟩:=ai0 (L++R);have O:=ac5 (L++R) (by rw[List.length_append];omega)
 rw[Z,List.map_append] at O
 have e:=aq8 f hf bd (L:=S) (by rw[z.length_eq,List.length_append];omega) (λ x hx=>by
  rcases qw (z.mem_iff.mp hx) with h | h
  ·exact sL x h
  ·exact Y x h) k a
 have p:(vw f S k a).Perm (vw f L k a++vw f R k a):=by rw[<- aS3];exact (z.filter _).map _
 rw[az8 p] at e;exact⟨S,O,e⟩
abbrev E8 (f:Fold) (bd:Bd) (L:List Th) (k:Str) (a:Int) (th:Sl) (z O:Sl):En:=[.im (askD bd),.im f.D',.im (.lst (L.map tD)),.im (.tup [.str k,.int a]),th,.im (oD (o_7 bd (amO f.word (vw f L k a)))),z,O]
theorem J_0 (th:Sl) {r:Th} (sr:0<=r.t/\r.t<15/\IsK r.k):∀ (js:List Int) (Z:Sl),(∀ j∈js,1<=j/\j<=4) ->
  ((∀ j∈js,o_7 bd (amO f.word (vw f L k a++vw f (List.replicate j.toNat r) k a))=o_7 bd (amO f.word (vw f L k a)))/\∃ Y,fGo (gN 7) e_1 (js.map .int) (E8 f bd L k a th (.im (tD r)) Z)=some (.nx (E8 f bd L k a th (.im (tD r)) Y))) \/
  ((∃ j∈js,o_7 bd (amO f.word (vw f L k a++vw f (List.replicate j.toNat r) k a))≠o_7 bd (amO f.word (vw f L k a)))/\∃ z,fGo (gN 7) e_1 (js.map .int) (E8 f bd L k a th (.im (tD r)) Z)=some (.rt (.bl true) z))
 |[],Z,_=>.inl ⟨λ j hj=>(nomatch hj),Z,rfl⟩
 |j::js,Z,h=>by
  obtain⟨j1,j4⟩:=h j qg;obtain⟨S,so,e⟩:=ac7 hf hl sL (bd:=bd) (k:=k) (a:=a) (R:=List.replicate j.toNat r) (by rw[List.length_replicate];omega) (λ u hu=>by rw[(List.mem_replicate.mp hu).2];exact sr)
  rw[List.map_replicate] at so;have gg:gN 7 (.int j) (E8 f bd L k a th (.im (tD r)) Z)=some (E8 f bd L k a th (.im (tD r)) (.im (.int j))):=rfl;have n1:=bq9 (o_7 bd (amO f.word (vw f L k a++vw f (List.replicate j.toNat r) k a)));have n2:=bq9 (o_7 bd (amO f.word (vw f L k a)));have n3:=bx1 (o_7 bd (amO f.word (vw f L k a++vw f (List.replicate j.toNat r) k a))) (o_7 bd (amO f.word (vw f L k a)));have sl:L.length+j.toNat<=sizeLine:=l_6 (by omega)
  have jm:j<=1000:=by omega
  by_cases c:o_7 bd (amO f.word (vw f L k a++vw f (List.replicate j.toNat r) k a))=o_7 bd (amO f.word (vw f L k a))
  ·have b:e_1 (E8 f bd L k a th (.im (tD r)) (.im (.int j)))=some (.nx (E8 f bd L k a th (.im (tD r)) (.im (.int j)))):=by
    rw[decide_eq_true c] at n3
    generalize oD (o_7 bd (amO f.word (vw f L k a++vw f (List.replicate j.toNat r) k a)))=X at *
    simp[e_1,j1,jm,sl,so,e,n1,n2,n3]
   rcases J_0 th sr js (.im (.int j)) λ x O=>h x (qh _ O) with ⟨h1,Y,h2⟩ | ⟨⟨x,O,h1⟩,z,h2⟩
   ·exact .inl ⟨λ x O=>by
     rcases qt O with rfl | O
     ·exact c
     ·exact h1 x O,Y,by rw[List.map_cons,r_4,gg,r_5,b,s_7,h2]⟩
   ·exact .inr ⟨⟨x,qh _ O,h1⟩,z,by rw[List.map_cons,r_4,gg,r_5,b,s_7,h2]⟩
  ·have b:e_1 (E8 f bd L k a th (.im (tD r)) (.im (.int j)))=some (.rt (.bl true) (E8 f bd L k a th (.im (tD r)) (.im (.int j)))):=by
    rw[decide_eq_false c] at n3
    generalize oD (o_7 bd (amO f.word (vw f L k a++vw f (List.replicate j.toNat r) k a)))=X at *
    simp[e_1,j1,jm,sl,so,e,n1,n2,n3]
   exact .inr ⟨⟨j,qg,c⟩,_,by rw[List.map_cons,r_4,gg,r_5,b,bc6]⟩
include hb
theorem J_1 (th:Sl):∀ (T:List Th),Sm T->(∀ r∈T,r.k=k)->∀ (s6 S:Sl),
  ((∀ r∈T,¬ (inW f a r.t/\Tw f.word bd (amO f.word (vw f L k a)) r.v))/\∃ ad Y,fGo (gN 6) e_0 (T.map tD) (E8 f bd L k a th s6 S)=some (.nx (E8 f bd L k a th ad Y))) \/
  ((∃ r∈T,inW f a r.t/\Tw f.word bd (amO f.word (vw f L k a)) r.v)/\∃ O,fGo (gN 6) e_0 (T.map tD) (E8 f bd L k a th s6 S)=some (.rt (.bl true) O))
 |[],_,_,s6,S=>.inl ⟨λ r hr=>(nomatch hr),s6,S,rfl⟩
 |r::T,sT,kT,s6,S=>by
  have gg:gN 6 (tD r) (E8 f bd L k a th s6 S)=some (E8 f bd L k a th (.im (tD r)) S):=rfl;have ek:=kT r qg
  rcases J_0 hf hl sL (bd:=bd) (k:=k) (a:=a) th (sT r qg) [1,2,3,4] S (by decide) with ⟨h1,Y,h2⟩ | ⟨⟨j,hj,h1⟩,O,h2⟩
  ·have no:¬ (inW f a r.t/\Tw f.word bd (amO f.word (vw f L k a)) r.v):=λ ab=>by
    obtain⟨z1,z2⟩:=ab;obtain⟨j,j1,j4,z⟩:=bh6 (f.isW hf) hb z2;refine z ?_
    have:=h1 (j:Int) (by
     have:j=1\/j=2\/j=3\/j=4:=by omega
     rcases this with rfl | rfl | rfl | rfl <;> decide)
    rw[ag7 f ek,if_pos z1] at this;exact this
   have b:e_0 (E8 f bd L k a th (.im (tD r)) S)=some (.nx (E8 f bd L k a th (.im (tD r)) Y)):=by
    have aa:fGo (gN 7) e_1 [.int 1,.int 2,.int 3,.int 4] (E8 f bd L k a th (.im (tD r)) S)=_:=h2;simp[e_0,aa]
   rcases J_1 th T (λ x Z=>sT x (qh _ Z)) (λ x Z=>kT x (qh _ Z)) (.im (tD r)) Y with ⟨g1,u6,u7,g2⟩ | ⟨⟨x,Z,g1⟩,O,g2⟩
   ·exact .inl ⟨λ x Z=>by
     rcases qt Z with rfl | Z
     ·exact no
     ·exact g1 x Z,u6,u7,by rw[List.map_cons,r_4,gg,r_5,b,s_7,g2]⟩
   ·exact .inr ⟨⟨x,qh _ Z,g1⟩,O,by rw[List.map_cons,r_4,gg,r_5,b,s_7,g2]⟩
  ·have ac:inW f a r.t/\Tw f.word bd (amO f.word (vw f L k a)) r.v:=by
    refine Classical.byContradiction λ z=>h1 ?_
    rw[ag7 f ek]
    by_cases c:inW f a r.t
    ·rw[if_pos c]
     exact aT6 (f.isW hf) _ λ v hv y=>z ⟨c,by rw[(List.mem_replicate.mp hv).2] at y;exact y⟩
    ·rw[if_neg c,List.append_nil]
   have b:e_0 (E8 f bd L k a th (.im (tD r)) S)=some (.rt (.bl true) O):=by
    have aa:fGo (gN 7) e_1 [.int 1,.int 2,.int 3,.int 4] (E8 f bd L k a th (.im (tD r)) S)=_:=h2;simp[e_0,aa]
   exact .inr ⟨⟨r,qg,ac⟩,O,by rw[List.map_cons,r_4,gg,r_5,b,bc6]⟩
theorem aw2 {T:List Th} (sT:Sm T) (kT:∀ r∈T,r.k=k):∃ z:Bool,i_8 [askD bd,f.D',.lst (L.map tD),.tup [.str k,.int a],.lst (T.map tD)]=some (.bl z)/\(z=true↔∃ r∈T,inW f a r.t/\Tw f.word bd (amO f.word (vw f L k a)) r.v):=by
 have S:=aq8 f hf bd (L:=L) (by omega) sL k a
 rcases J_1 hf hb hl sL (k:=k) (a:=a) (.im (.lst (T.map tD))) T sT kT .no .no with ⟨h1,u6,u7,h2⟩ | ⟨h1,ρ',h2⟩
 ·refine⟨false,?_,λ z=>(nomatch z),fun⟨r,hr,z⟩=>absurd z (h1 r hr)⟩
  have O:fGo (gN 6) e_0 (T.map tD) [.im (askD bd),.im f.D',.im (.lst (L.map tD)),.im (.tup [.str k,.int a]),.im (.lst (T.map tD)),.im (oD (o_7 bd (amO f.word (vw f L k a)))),.no,.no]=_:=h2
  generalize oD (o_7 bd (amO f.word (vw f L k a)))=Y at *
  simp[i_8,w_4,List.replicate,S,O]
 ·refine⟨true,?_,λ _=>h1,λ _=>rfl⟩
  have O:fGo (gN 6) e_0 (T.map tD) [.im (askD bd),.im f.D',.im (.lst (L.map tD)),.im (.tup [.str k,.int a]),.im (.lst (T.map tD)),.im (oD (o_7 bd (amO f.word (vw f L k a)))),.no,.no]=_:=h2
  generalize oD (o_7 bd (amO f.word (vw f L k a)))=Y at *
  simp[i_8,w_4,List.replicate,S,O]
end
noncomputable section
noncomputable def t_law:FS :=
 (b_2 (d_4 9 (l_2 (aC (eF X_1 (aC (eV 5) aN)) (aC (eF X_1 (aC (eV 6) aN)) aN))))
 (b_2 (d_4 10 (eF j_0 (aC (eV 4) (aC (zT "q") (aC (eV 7) (aC (eV 8) (aC (e2 b_1 (eV 9) (zI 0)) (aC (e2 b_1 (eV 9) (zI 1)) aN))))))))
 (b_2 (sIf (tOr (tNot (tV (eTy .bool (eV 10)))) (tB (e2 dNe (eV 9) (l_2 (aC (eV 5) (aC (eV 6) aN))))))
 (d_8 (eC (.bl false)))
 sN)
 (b_2 (d_4 11 (eF f_6 (aC (eV 6) (aC (eV 7) aN))))
 (b_2 (sIf (tB (e2 dNe (eV 10) (eF i_8 (aC (eV 3) (aC (eV 2) (aC (eV 5) (aC (l_2 (aC (eV 7) (aC (eV 8) aN))) (aC (eV 11) aN))))))))
 (d_8 (eC (.bl false)))
 sN)
 (b_2 (sIf (tOr (tV (eV 10)) (tB (e2 dEq (eV 11) (w_7 aN))))
 (d_8 (eC (.bl true)))
 sN)
 (d_8 (eFb 1 d_5 (aC (eV 3) (aC (eV 2) (aC (eV 5) (aC (l_2 (aC (eV 7) (aC (eV 8) aN))) (aC (eV 11) aN)))))))))))))
noncomputable def aI3 (R:FS):FS :=
 (b_2 (aU3 1 h_0 (aC (eF f_0 (aC (eV 0) (aC (zI 0) aN))) (aC (zI 120) aN)))
 (b_2 (d_4 2 (eFb 1 j_8 (aC (zT "f") (aC (zT "x") aN))))
 (b_2 (d_4 3 (l_2 (aC (zT "ask") (aC (zT "q") (aC (l_2 (aC (zT "f") aN)) (aC (eFb 1 b_4 (aC (eV 2) aN)) aN))))))
 (b_2 (d_4 4 (w_7 (aC (l_2 (aC (zT "in") (aC (zT "x") (aC (l_2 aN) (aC (l_2 (aC (eC .non) (aC (eC .non) aN))) aN))))) (aC (eV 2) (aC (eV 3) aN)))))
 (b_2 (d_4 5 (eFb 1 i_7 (aC (zI 6) aN)))
 (b_2 (d_4 6 (eFb 1 l_4 (aC (zI 3) (aC (zI 6) aN))))
 (b_2 (d_4 7 (e2 b_1 (w_7 (aC (zT "a") (aC (zT "b") (aC (zT "zz") aN)))) (e2 p_7 (e2 q_4 (eQ 1) (zI 3)) (zI 3))))
 (b_2 (d_4 8 (e2 p_7 (e2 q_4 (eQ 1) (zI 3)) (zI 5)))
 (b_2 (sIf (tB (e2 dEq (e2 b_1 (eV 2) (zI 0)) (zT "ever")))
 (d_4 8 (zI 0))
 sN)
 R)))))))))
theorem al2:aP3=aI3 t_law:=rfl
end
theorem aB7 {T:List Th} (hT:T≠[]) (lT:T.length<=1000) (ρ:En) (Z:slI ρ[4]?=some (.im (.lst (T.map tD)))):∀ (n:Nat) (lo:Int) (qs:List Int),n<=qs.length->∃ (R:List Th) (O:List Int),ac1 tYes (e2 b_1 (eV 1) (e2 p_7 (e2 q_4 (eQ 2) (zI 3)) (eF G_7 (aC (eV 1) aN)))) ρ 5 [4,5] 1 (.lst (qL qs)) (o_9 lo n)=some (R.map tD,.lst (qL O))/\R.length=n/\qs.length=O.length+n/\∀ r∈R,r∈T
 |0,lo,qs,_=>⟨[],qs,rfl,rfl,rfl,λ r hr=>nomatch hr⟩
 |n+1,lo,qs,h=>by
  obtain⟨q,r,rfl⟩:=List.exists_cons_of_ne_nil (l:=qs) (λ z=>by rw[z] at h;exact absurd h (by simp))
  rw[List.length_cons] at h;have Y:(0:Int)<T.length:=by have:=List.length_pos_iff.mpr hT;omega
  obtain⟨u,hu,eu⟩:=ac6 tD T (i:=(q.fdiv 3).fmod T.length) (Int.fmod_nonneg_of_pos _ Y) (Int.fmod_lt_of_pos _ Y)
  have fr:ao0 ρ 5 (.lst (qL (q::r))) [4,5]=some [.im (.lst (T.map tD)),.ow true (.lst (qL (q::r)))]:=by
   unfold ao0;rw[if_neg (by decide),Z];rfl
  have e:(e2 b_1 (eV 1) (e2 p_7 (e2 q_4 (eQ 2) (zI 3)) (eF G_7 (aC (eV 1) aN)))) [.im (.int lo),.im (.lst (T.map tD)),.ow true (.lst (qL (q::r)))]=some (tD u,[.im (.int lo),.im (.lst (T.map tD)),.ow true (.lst (qL r))]):=by
   simp[q3,hT,eu]
  obtain⟨R,O,ih,l1,l2,m⟩:=aB7 hT lT ρ Z n (lo+1) r (by omega)
  refine⟨u::R,O,?_,by rw[List.length_cons,l1],by rw[List.length_cons];omega,λ x S=>?_⟩
  ·rw[show o_9 lo (n+1)=.int lo::o_9 (lo+1) n from rfl,S_6,fr,N_5,show tYes [.im (.int lo),.im (.lst (T.map tD)),.ow true (.lst (qL (q::r)))]=some (true,[.im (.int lo),.im (.lst (T.map tD)),.ow true (.lst (qL (q::r)))]) from rfl,N_5,if_pos rfl,e,N_5]
   show bnd (ac1 _ _ ρ 5 [4,5] 1 (.lst (qL r)) (o_9 (lo+1) n)) _=_;rw[ih];rfl
  ·rcases qt S with rfl | S
   ·exact hu
   ·exact m x S
section
variable {f:Fold} (hf:f.ok) {bd:Bd}{L:List Th} (hl:L.length<=5) (sL:Sm L) {k:Str}{a:Int}{T:List Th} (hT:T≠[]) (lT:T.length<=72) (sT:Sm T) (kT:∀ r∈T,r.k=k) (no:∀ r∈T,¬ (inW f a r.t/\Tw f.word bd (amO f.word (vw f L k a)) r.v))
include hf hl sL hT lT sT kT no
abbrev E9' (f:Fold) (bd:Bd) (L:List Th) (k:Str) (a:Int) (T:List Th) (qs:List Int) (z O:Sl):En:=[.im (askD bd),.im f.D',.im (.lst (L.map tD)),.im (.tup [.str k,.int a]),.im (.lst (T.map tD)),.ow true (.lst (qL qs)),.im (oD (o_7 bd (amO f.word (vw f L k a)))),z,O]
theorem ad8 (qs:List Int) (hq:10<=qs.length) (Z s8:Sl):∃ (O:List Int) (aa:Sl),f_1 (E9' f bd L k a T qs Z s8)=some (.nx (E9' f bd L k a T O Z aa))/\qs.length<=O.length+10:=by
 obtain⟨q,r,rfl⟩:=List.exists_cons_of_ne_nil (l:=qs) (λ z=>by rw[z] at hq;exact absurd hq (by decide))
 rw[List.length_cons] at hq;have f1:=Int.fmod_nonneg_of_pos (q.fdiv 3) (b:=9) (by decide)
 have f2:=Int.fmod_lt_of_pos (q.fdiv 3) (b:=9) (by decide)
 obtain⟨R,O,er,l1,l2,mR⟩:=aB7 hT (by omega) (E9' f bd L k a T r Z s8) rfl (1+(q.fdiv 3).fmod 9).toNat 0 r (by omega)
 obtain⟨S,so,e⟩:=ac7 hf hl sL (bd:=bd) (k:=k) (a:=a) (R:=R) (by omega) (λ u Y=>sT u (mR u Y))
 have st:o_7 bd (amO f.word (vw f L k a++vw f R k a))=o_7 bd (amO f.word (vw f L k a)):=aT6 (f.isW hf) _ λ v hv y=>by
  obtain⟨u,Y,rfl⟩:=List.mem_map.mp hv;obtain⟨h1,h2⟩:=List.mem_filter.mp Y;exact no u (mR u h1) ⟨(of_decide_eq_true h2).2,y⟩
 rw[st] at e;have r1:1+(q.fdiv 3).fmod 9<4611686018427387904:=by omega
 have r2:-4611686018427387904<=1+(q.fdiv 3).fmod 9:=by omega
 have sl:L.length+R.length<=sizeLine:=l_6 (by omega)
 have rl:(o_9 0 (1+(q.fdiv 3).fmod 9).toNat).length<=sizeLine:=by
  have:∀ (m:Nat) (lo:Int),(o_9 lo m).length=m:=by
   intro m;induction m with
   |zero=>intro _;rfl
   |succ m ih=>intro lo;show (o_9 (lo+1) m).length+1=_;rw[ih]
  rw[this];exact l_6 (by omega)
 have n1:=bq9 (o_7 bd (amO f.word (vw f L k a)));have n2:=bx1 (o_7 bd (amO f.word (vw f L k a))) (o_7 bd (amO f.word (vw f L k a)));rw[decide_eq_true rfl] at n2;refine⟨O,.im (.lst (R.map tD)),?_,by rw[List.length_cons];omega⟩
 simp[f_1,q3,r1,r2,er,rl,so,sl,e,n1,n2]
theorem I_4:∀ (n:Nat) (lo:Int) (qs:List Int) (O z:Sl),10*n<=qs.length->∃ (Z:List Int) (Y S:Sl),fGo (gN 7) f_1 (o_9 lo n) (E9' f bd L k a T qs O z)=some (.nx (E9' f bd L k a T Z Y S))
 |0,lo,qs,O,z,_=>⟨qs,O,z,rfl⟩
 |n+1,lo,qs,O,z,hq=>by
  obtain⟨q1,u8,e1,l1⟩:=ad8 hf hl sL hT lT sT kT no qs (by omega) (.im (.int lo)) z
  obtain⟨q2,u7,v8,ih⟩:=I_4 n (lo+1) q1 (.im (.int lo)) u8 (by omega)
  have gg:gN 7 (.int lo) (E9' f bd L k a T qs O z)=some (E9' f bd L k a T qs (.im (.int lo)) z):=rfl;exact⟨q2,u7,v8,by rw[show o_9 lo (n+1)=.int lo::o_9 (lo+1) n from rfl,r_4,gg,r_5,e1,s_7,ih]⟩
theorem at7 (qs:List Int) (hq:40<=qs.length):∃ z:List Int,d_5 (.lst (qL qs)) [askD bd,f.D',.lst (L.map tD),.tup [.str k,.int a],.lst (T.map tD)]=some (.bl true,.lst (qL z)):=by
 have Y:=aq8 f hf bd (L:=L) (by omega) sL k a
 obtain⟨z,Z,u8,S⟩:=I_4 hf hl sL hT lT sT kT no 4 0 qs .no .no (by omega)
 have O:fGo (gN 7) f_1 (o_9 0 4) [.im (askD bd),.im f.D',.im (.lst (L.map tD)),.im (.tup [.str k,.int a]),.im (.lst (T.map tD)),.ow true (.lst (qL qs)),.im (oD (o_7 bd (amO f.word (vw f L k a)))),.no,.no]=_:=S;refine⟨z,?_⟩;simp[d_5,s_4,List.replicate,Y,O]
end
theorem bq8:∀ x:List Th,S_2 (x.map tD)<=1
 |[]=>by decide
 |a::r=>by
  have:=bq8 r;rw[List.map_cons,x_3];have:dpD (tD a)=1:=rfl;omega
theorem bp0 (x:List Th):x_2 (x.map tD) []=decide (x=[]):=by
 cases x with
 |nil=>simp
 |cons a r=>simp
theorem aB2:∀ x:List Th,x_2 (x.map tD) (x.map tD)=true
 |[]=>by simp
 |a::r=>by rw[List.map_cons,ao4,aB2 r];simp[tD]
theorem ba5 (i:Nat):dpD (kyD i)<=2/\eqD (kyD i) (kyD i)=true:=by
 match i with
 |0=>exact⟨by decide,by kernel_rfl⟩
 |1=>exact⟨by decide,by kernel_rfl⟩
 |2=>exact⟨by decide,by kernel_rfl⟩
 |3=>exact⟨by decide,by kernel_rfl⟩
 |i+4=>exact⟨by show dpD (.tup [.str U_3,.tup [.str kC]])<=2;decide,by show eqD (.tup [.str U_3,.tup [.str kC]]) (.tup [.str U_3,.tup [.str kC]])=true;kernel_rfl⟩
theorem dpb:∀ x:List Bx,S_2 (x.map Bx.D)<=3
 |[]=>by decide
 |a::r=>by
  have:=dpb r;have:=(ba5 a.ki).1;rw[List.map_cons,x_3];have:dpD a.D<=3:=by simp;omega
  omega
theorem aB3:∀ x:List Bx,x_2 (x.map Bx.D) (x.map Bx.D)=true
 |[]=>by simp
 |a::r=>by rw[List.map_cons,ao4,aB3 r];simp[(ba5 a.ki).2]
abbrev E12 (sc:Sl) (qs:List Int) (f:Fold) (bd:Bd) (L:List Th) (B:List Bx) (k:Str) (a:Int) (S O z:Sl):En:=[sc,.ow false (.lst (qL qs)),.im f.D',.im (askD bd),.im (O_4 f bd),.im (.lst (L.map tD)),.im (.lst (B.map Bx.D)),.im (.str k),.im (.int a),S,O,z]
theorem ah7 {f:Fold} (hf:f.ok) {bd:Bd} (hb:BdOk f.word bd) {L:List Th} (hl:L.length<=5) (hL:∀ u∈L,Gd u) {B:List Bx} (hB:∀ x∈B,x.Ok) (lB:B.length<3) {k:Str} (hk:IsK k) {a:Int} (ha:Win f a) (sc:Sl) (qs:List Int) (hq:40<=qs.length):fnA (t_law (E12 sc qs f bd L B k a .no .no .no))=some (.bl true):=by
 have sL:Sm L:=λ u S=>⟨(hL u S).t0,by have:=(hL u S).t8;omega,by rcases (hL u S).k with z | z;exact .inl z;exact .inr (.inl z)⟩
 obtain⟨z,et,hz⟩:=aF2 hf hb hk ha (L:=L) (by omega) (λ u S=>(hL u S).t0) hB (by omega)
 obtain⟨T,ei,lT,kT,sT,ab⟩:=W_3 hk hB lB;have Z:=hz.trans (ab _);obtain⟨y,em,hy⟩:=aw2 hf hb hl sL (k:=k) (a:=a) sT kT;have zy:y=z:=by rw[Bool.eq_iff_iff,Z,hy]
 subst zy;have Y:L.length<=sizeLine:=l_6 (by omega)
 have aa:B.length<=sizeLine:=l_6 (by omega)
 have d1:=bq8 L;have d2:=dpb B;have d3:=bq8 T;have s1:=aB2 L;have s2:=aB3 B;have eT:=bp0 T;have dT:S_2 (T.map tD)+1<=30:=by omega
 have t1:tOr (tNot (tV (eTy .bool (eV 10)))) (tB (e2 dNe (eV 9) (l_2 (aC (eV 5) (aC (eV 6) aN))))) (E12 sc qs f bd L B k a (.im (.tup [.lst (L.map tD),.lst (B.map Bx.D)])) (.im (.bl y)) .no)=some (false,E12 sc qs f bd L B k a (.im (.tup [.lst (L.map tD),.lst (B.map Bx.D)])) (.im (.bl y)) .no):=by
  have q:max (S_2 (L.map tD)) (S_2 (B.map Bx.D))<=28:=by omega
  simp[s1,s2,q]
 have O:∀ b:Bool,(y=true\/T=[]↔b=true)->tOr (tV (eV 10)) (tB (e2 dEq (eV 11) (w_7 aN))) (E12 sc qs f bd L B k a (.im (.tup [.lst (L.map tD),.lst (B.map Bx.D)])) (.im (.bl y)) (.im (.lst (T.map tD))))=some (b,E12 sc qs f bd L B k a (.im (.tup [.lst (L.map tD),.lst (B.map Bx.D)])) (.im (.bl y)) (.im (.lst (T.map tD)))):=λ b hb=>by
  cases y with
  |true=>rw[hb.mp (.inl rfl)];simp
  |false =>
   by_cases c:T=[]
   ·rw[hb.mp (.inr c)];simp[dT,eT,c]
   ·have:b=false:=Bool.eq_false_iff.mpr λ z=>by rcases hb.mpr z with h | h;cases h;exact c h
    rw[this];simp[dT,eT,c]
 by_cases c:y=true\/T=[]
 ·have O:=O true ⟨λ _=>rfl,λ _=>c⟩
  simp[-bt4,t_law,E12,Y,aa,R_7,F_2,et,t1,ei,em,O]
 ·have O:=O false ⟨λ z=>absurd z c,λ z=>nomatch z⟩
  obtain⟨ac,er⟩:=at7 hf hl sL (λ z=>c (.inr z)) lT sT kT (λ r hr z=>c (.inl (Z.mpr ⟨r,hr,z⟩))) qs hq
  simp[-bt4,t_law,E12,Y,aa,R_7,F_2,et,t1,ei,em,O,er]
theorem af3 (z:List Int):∃ c:Int,f_0 [.lst (z.map .int),.int 0]=some (.int c):=by
 cases z with
 |nil=>exact⟨0,by simp[f_0,r_8]⟩
 |cons x r =>
  have a:atD ((x::r).map D.int) 0=some (.int x):=by
   unfold atD dPl;rw[if_pos (by decide),if_pos (by simp)];rfl
  have h:(0:Int)<((x::r).length:Int):=by rw[List.length_cons];omega
  generalize O:(x::r).map D.int=X at *
  have hl:X.length=(x::r).length:=by rw[<- O,List.length_map]
  exact⟨x,by simp[f_0,r_8,a,hl,h]⟩
theorem law_true (S:List Int) (hl:S.length<=63):ak6 [.lst (S.map .int)]=some (.bl true):=by
 obtain⟨c,ec⟩:=af3 S;obtain⟨qs,es,lq⟩:=ah9 c;obtain⟨f,Y,ef,hf,l1⟩:=aL5 (qs:=qs) (by omega)
 obtain⟨bd,ac,eb,hb,l2⟩:=ap8 hf (qs:=Y) (by omega)
 obtain⟨L,aa,eL,lL,l3,hL⟩:=ah4 (qs:=ac) (by omega)
 obtain⟨B,ab,eB,lB,l4,hB⟩:=az0 (qs:=aa) (by omega)
 obtain⟨q1,q2,Z,r,rfl⟩:=aS5 (qs:=ab) (by omega)
 simp only[List.length_cons] at l4;have f3:=fm3 q1 (m:=3) (by decide)
 have f4:=fm3 q2 (m:=5) (by decide)
 obtain⟨k,ad,ek⟩:=ac6 D.str [kA,kB,kZ] (i:=(q1.fdiv 3).fmod 3) f3.1 f3.2;have hk:IsK k:=by unfold IsK;simpa using ad
 have O:atD [.str kA,.str kB,.str kZ] ((q1.fdiv 3).fmod 3)=some (.str k):=ek;have T:∀ a:Int,Win f a->fnA (t_law (E12 (.im (.lst (S.map .int))) (Z::r) f bd L B k a .no .no .no))=some (.bl true):=λ a ha=>ah7 hf hb (by omega) hL hB lB hk ha _ _ (by simp only[List.length_cons];omega)
 show fnD 1 11 aP3 _=_;rw[al2]
 generalize t_law=R at T
 obtain⟨kind,rest,z,_,_⟩:=v_4 f;have i0:b_1 f.D' (.int 0)=some (.str kind):=by rw[z];rfl
 by_cases c1:kind=Str.ofString "ever"
 ·have T':=T 0 ⟨Int.le_refl _,λ w e=>rfl⟩
  simp[aI3,List.replicate,ec,es,ef,eb,eL,eB,q3,O,i0,c1,T']
 ·have T':=T ((q2.fdiv 3).fmod 5) ⟨f4.1,λ w e=>absurd (by subst e;have z:rowD (Str.ofString "ever") [.str w]=rowD kind rest:=z;unfold rowD at z;injection z with z;injection z with z _;injection z with z;exact z.symm) c1⟩
  simp[aI3,List.replicate,ec,es,ef,eb,eL,eB,q3,O,i0,c1,T']
end Fx
namespace Fx
open PySem PySem.Spec PyProof.Rows L2
theorem P_0 {K:Frag}{H:Hp}:∀ z:List Int,Reps K H (z.map D.int) (z.map V.int)
 |[]=>Reps.nil_
 |n::r=>Reps.cons (h_1 H n) (P_0 r)
theorem us1 {P:List Value->Prop} (h:∀ O,P [O]):∀ z:List Value,z.length=1->P z
 |[_],_=>h ..
theorem us2 {P:List Value->Prop} (h:∀ O S,P [O,S]):∀ z:List Value,z.length=2->P z
 |[_,_],_=>h ..
theorem us3 {P:List Value->Prop} (h:∀ S Y O,P [S,Y,O]):∀ z:List Value,z.length=3->P z
 |[_,_,_],_=>h ..
theorem us4 {P:List Value->Prop} (h:∀ Y Z O S,P [Y,Z,O,S]):∀ z:List Value,z.length=4->P z
 |[_,_,_,_],_=>h ..
theorem us5 {P:List Value->Prop} (h:∀ Z a1 S Y O,P [Z,a1,S,Y,O]):∀ z:List Value,z.length=5->P z
 |[_,_,_,_,_],_=>h ..
theorem us6 {P:List Value->Prop} (h:∀ Z a1 S Y O a5,P [Z,a1,S,Y,O,a5]):∀ z:List Value,z.length=6->P z
 |[_,_,_,_,_,_],_=>h ..
theorem all_mk {l:OpenLaw}{w:World}{K:Frag}{h:Heap}{mg:Str → Option Value} (X:K.In h) (G:h.Ns mainGlobals mg) (o2:mg "law"=some (.ref fa))
  {ru mo:Option Addr}{nz vr ox ua ma tr:Value}
  (a1:nsIn K mainGlobals "is_key"=some (some (.ref f1))) (l1:K.lookup f1=some ⟨nz,ru,.func (fnOf "is_key" "is_key" (a_6 q_2) (a_4 q_2) (a_0 q_2) .none vr ox ua mo ma tr),sl1⟩) (c1:codeIn K ma "is_key"=true) (k1:keepIn K (.ref f1)=true)
  {vg si:Option Addr}{pu ul na vc fx o0:Value}
  (a2:nsIn K mainGlobals "keys_hold"=some (some (.ref f2))) (l2:K.lookup f2=some ⟨pu,vg,.func (fnOf "keys_hold" "keys_hold" (a_6 n_9) (a_4 n_9) (a_0 n_9) .none ul na vc si fx o0),sl2⟩) (c2:codeIn K fx "keys_hold"=true) (k2:keepIn K (.ref f2)=true)
  {rx pd:Option Addr}{mn u0 t8 sj iy us:Value}
  (a3:nsIn K mainGlobals "keys_meet"=some (some (.ref f3))) (l3:K.lookup f3=some ⟨mn,rx,.func (fnOf "keys_meet" "keys_meet" (a_6 c_9) (a_4 c_9) (a_0 c_9) .none u0 t8 sj pd iy us),sl3⟩) (c3:codeIn K iy "keys_meet"=true) (k3:keepIn K (.ref f3)=true)
  {re nr:Option Addr}{pv t0 oa ql k0 mv:Value}
  (a4:nsIn K mainGlobals "stretch_made"=some (some (.ref f4))) (l4:K.lookup f4=some ⟨pv,re,.func (fnOf "stretch_made" "stretch_made" (a_6 h_7) (a_4 h_7) (a_0 h_7) .none t0 oa ql nr k0 mv),sl4⟩) (c4:codeIn K k0 "stretch_made"=true) (k4:keepIn K (.ref f4)=true)
  {t2 ns:Option Addr}{pw mm pj uq cb pa:Value}
  (a5:nsIn K mainGlobals "is_between"=some (some (.ref f5))) (l5:K.lookup f5=some ⟨pw,t2,.func (fnOf "is_between" "is_between" (a_6 m_3) (a_4 m_3) (a_0 m_3) .none mm pj uq ns cb pa),sl5⟩) (c5:codeIn K cb "is_between"=true) (k5:keepIn K (.ref f5)=true)
  {vu ts:Option Addr}{vl ot sa nh kf sq:Value}
  (a6:nsIn K mainGlobals "stretch_has"=some (some (.ref f6))) (l6:K.lookup f6=some ⟨vl,vu,.func (fnOf "stretch_has" "stretch_has" (a_6 j_4) (a_4 j_4) (a_0 j_4) .none ot sa nh ts kf sq),sl6⟩) (c6:codeIn K kf "stretch_has"=true) (k6:keepIn K (.ref f6)=true)
  {q5 sh:Option Addr}{vn pg v3 qv ib oe:Value}
  (a7:nsIn K mainGlobals "lower_bound"=some (some (.ref f7))) (l7:K.lookup f7=some ⟨vn,q5,.func (fnOf "lower_bound" "lower_bound" (a_6 j_5) (a_4 j_5) (a_0 j_5) .none pg v3 qv sh ib oe),sl7⟩) (c7:codeIn K ib "lower_bound"=true) (k7:keepIn K (.ref f7)=true)
  {o7 ov:Option Addr}{u6 u9 v0 vx lm q6:Value}
  (a8:nsIn K mainGlobals "upper_bound"=some (some (.ref f8))) (l8:K.lookup f8=some ⟨u6,o7,.func (fnOf "upper_bound" "upper_bound" (a_6 j_2) (a_4 j_2) (a_0 j_2) .none u9 v0 vx ov lm q6),sl8⟩) (c8:codeIn K lm "upper_bound"=true) (k8:keepIn K (.ref f8)=true)
  {tq p6:Option Addr}{t9 mw r9 o5 km up:Value}
  (a9:nsIn K mainGlobals "stretch_between"=some (some (.ref f9))) (l9:K.lookup f9=some ⟨t9,tq,.func (fnOf "stretch_between" "stretch_between" (a_6 e_3) (a_4 e_3) (a_0 e_3) .none mw r9 o5 p6 km up),sl9⟩) (c9:codeIn K km "stretch_between"=true) (k9:keepIn K (.ref f9)=true)
  {gv gu:Option Addr}{h4 e6 g9 ea bn gz:Value}
  (rg:nsIn K mainGlobals "stretch_above"=some (some (.ref f10))) (o6:K.lookup f10=some ⟨h4,gv,.func (fnOf "stretch_above" "stretch_above" (a_6 g_3) (a_4 g_3) (a_0 g_3) .none e6 g9 ea gu bn gz),sl10⟩) (ol:codeIn K bn "stretch_above"=true) (sy:keepIn K (.ref f10)=true)
  {du dl:Option Addr}{eu gg h5 dh ak j5:Value}
  (ne:nsIn K mainGlobals "stretch_below"=some (some (.ref f11))) (oc:K.lookup f11=some ⟨eu,du,.func (fnOf "stretch_below" "stretch_below" (a_6 g_2) (a_4 g_2) (a_0 g_2) .none gg h5 dh dl ak j5),sl11⟩) (vp:codeIn K ak "stretch_below"=true) (og:keepIn K (.ref f11)=true)
  {ik cf:Option Addr}{dv fe d9 jo br kk:Value}
  (n0:nsIn K mainGlobals "stretch_moved"=some (some (.ref f12))) (sb:K.lookup f12=some ⟨dv,ik,.func (fnOf "stretch_moved" "stretch_moved" (a_6 d_0) (a_4 d_0) (a_0 d_0) .none fe d9 jo cf br kk),sl12⟩) (po:codeIn K br "stretch_moved"=true) (u8:keepIn K (.ref f12)=true)
  {ko hp:Option Addr}{kv e5 hm g2 bf ls:Value}
  (vz:nsIn K mainGlobals "divisor_and_factor"=some (some (.ref f13))) (q0:K.lookup f13=some ⟨kv,ko,.func (fnOf "divisor_and_factor" "divisor_and_factor" (a_6 c_4) (a_4 c_4) (a_0 c_4) .none e5 hm g2 hp bf ls),sl13⟩) (sl:codeIn K bf "divisor_and_factor"=true) (t7:keepIn K (.ref f13)=true)
  {dg dc:Option Addr}{kr h6 d7 dx au d0:Value}
  (vh:nsIn K mainGlobals "stretch_back"=some (some (.ref f14))) (u2:K.lookup f14=some ⟨kr,dg,.func (fnOf "stretch_back" "stretch_back" (a_6 h_8) (a_4 h_8) (a_0 h_8) .none h6 d7 dx dc au d0),sl14⟩) (uh:codeIn K au "stretch_back"=true) (uf:keepIn K (.ref f14)=true)
  {il jf:Option Addr}{d6 i1 et i5 ay cw:Value}
  (oy:nsIn K mainGlobals "stretch_meet"=some (some (.ref f15))) (nj:K.lookup f15=some ⟨d6,il,.func (fnOf "stretch_meet" "stretch_meet" (a_6 h_6) (a_4 h_6) (a_0 h_6) .none i1 et i5 jf ay cw),sl15⟩) (rs:codeIn K ay "stretch_meet"=true) (s7:keepIn K (.ref f15)=true)
  {hu eo:Option Addr}{hq kx dn el bm gd:Value}
  (va:nsIn K mainGlobals "box_made"=some (some (.ref f16))) (vt:K.lookup f16=some ⟨hq,hu,.func (fnOf "box_made" "box_made" (a_6 p_6) (a_4 p_6) (a_0 p_6) .none kx dn el eo bm gd),sl16⟩) (p3:codeIn K bm "box_made"=true) (t5:keepIn K (.ref f16)=true)
  {go kq:Option Addr}{cr gs lh fv bv ih:Value}
  (q4:nsIn K mainGlobals "box_has"=some (some (.ref f17))) (ue:K.lookup f17=some ⟨cr,go,.func (fnOf "box_has" "box_has" (a_6 r_3) (a_4 r_3) (a_0 r_3) .none gs lh fv kq bv ih),sl17⟩) (pz:codeIn K bv "box_has"=true) (u3:keepIn K (.ref f17)=true)
  {lx cy:Option Addr}{ce ly ie gf aa lz:Value}
  (m5:nsIn K mainGlobals "box_meet"=some (some (.ref f18))) (mj:K.lookup f18=some ⟨ce,lx,.func (fnOf "box_meet" "box_meet" (a_6 p_5) (a_4 p_5) (a_0 p_5) .none ly ie gf cy aa lz),sl18⟩) (rv:codeIn K aa "box_meet"=true) (mt:keepIn K (.ref f18)=true)
  {lr cz:Option Addr}{gq cx h0 eh ar ki:Value}
  (nf:nsIn K mainGlobals "boxes_met"=some (some (.ref f19))) (q2:K.lookup f19=some ⟨gq,lr,.func (fnOf "boxes_met" "boxes_met" (a_6 f_4) (a_4 f_4) (a_0 f_4) .none cx h0 eh cz ar ki),sl19⟩) (mr:codeIn K ar "boxes_met"=true) (ng:keepIn K (.ref f19)=true)
  {jp g0:Option Addr}{g6 dd dm jm bo cl:Value}
  (om:nsIn K mainGlobals "row_named"=some (some (.ref f20))) (oj:K.lookup f20=some ⟨g6,jp,.func (fnOf "row_named" "row_named" (a_6 n_6) (a_4 n_6) (a_0 n_6) .none dd dm jm g0 bo cl),sl20⟩) (vf:codeIn K bo "row_named"=true) (uo:keepIn K (.ref f20)=true)
  {ig d2:Option Addr}{e7 je jj cv ah i8:Value}
  (vy:nsIn K mainGlobals "is_whole"=some (some (.ref f21))) (m0:K.lookup f21=some ⟨e7,ig,.func (fnOf "is_whole" "is_whole" (a_6 p_4) (a_4 p_4) (a_0 p_4) .none je jj cv d2 ah i8),sl21⟩) (ny:codeIn K ah "is_whole"=true) (sv:keepIn K (.ref f21)=true)
  {hg hc:Option Addr}{kb ev ji cc bc cn:Value}
  (ro:nsIn K mainGlobals "windows_of"=some (some (.ref f22))) (vq:K.lookup f22=some ⟨kb,hg,.func (fnOf "windows_of" "windows_of" (a_6 l_7) (a_4 l_7) (a_0 l_7) .none ev ji cc hc bc cn),sl22⟩) (rz:codeIn K bc "windows_of"=true) (tn:keepIn K (.ref f22)=true)
  {gl fo:Option Addr}{lk f0 jq db az h7:Value}
  (pi:nsIn K mainGlobals "amount_of"=some (some (.ref f23))) (vm:K.lookup f23=some ⟨lk,gl,.func (fnOf "amount_of" "amount_of" (a_6 o_1) (a_4 o_1) (a_0 o_1) .none f0 jq db fo az h7),sl23⟩) (ni:codeIn K az "amount_of"=true) (nw:keepIn K (.ref f23)=true)
  {jg jt:Option Addr}{ld ei g5 c0 aw hx:Value}
  (qq:nsIn K mainGlobals "window_cells"=some (some (.ref f24))) (q8:K.lookup f24=some ⟨ld,jg,.func (fnOf "window_cells" "window_cells" (a_6 e_2) (a_4 e_2) (a_0 e_2) .none ei g5 c0 jt aw hx),sl24⟩) (pq:codeIn K aw "window_cells"=true) (p7:keepIn K (.ref f24)=true)
  {cu li:Option Addr}{i2 ey gm ju ax j0:Value}
  (nb:nsIn K mainGlobals "fold_cells"=some (some (.ref f25))) (sk:K.lookup f25=some ⟨i2,cu,.func (fnOf "fold_cells" "fold_cells" (a_6 m_4) (a_4 m_4) (a_0 m_4) .none ey gm ju li ax j0),sl25⟩) (tp:codeIn K ax "fold_cells"=true) (qu:keepIn K (.ref f25)=true)
  {fg dw:Option Addr}{ll fu me ix bl ff:Value}
  (mk:nsIn K mainGlobals "told_answer"=some (some (.ref f26))) (uy:K.lookup f26=some ⟨ll,fg,.func (fnOf "told_answer" "told_answer" (a_6 j_3) (a_4 j_3) (a_0 j_3) .none fu me ix dw bl ff),sl26⟩) (pe:codeIn K bl "told_answer"=true) (p9:keepIn K (.ref f26)=true)
  {cj i9:Option Addr}{gp kz gx h3 bw lf:Value}
  (r8:nsIn K mainGlobals "key_box"=some (some (.ref f27))) (mp:K.lookup f27=some ⟨gp,cj,.func (fnOf "key_box" "key_box" (a_6 r_1) (a_4 r_1) (a_0 r_1) .none kz gx h3 i9 bw lf),sl27⟩) (o8:codeIn K bw "key_box"=true) (pm:keepIn K (.ref f27)=true)
  {ee co:Option Addr}{ka iz la ja ai g7:Value}
  (r6:nsIn K mainGlobals "window_box"=some (some (.ref f28))) (mq:K.lookup f28=some ⟨ka,ee,.func (fnOf "window_box" "window_box" (a_6 l_8) (a_4 l_8) (a_0 l_8) .none iz la ja co ai g7),sl28⟩) (nv:codeIn K ai "window_box"=true) (vi:keepIn K (.ref f28)=true)
  {jz ii:Option Addr}{lb dj iq d5 al kj:Value}
  (s3:nsIn K mainGlobals "is_cell"=some (some (.ref f29))) (nt:K.lookup f29=some ⟨lb,jz,.func (fnOf "is_cell" "is_cell" (a_6 r_2) (a_4 r_2) (a_0 r_2) .none dj iq d5 ii al kj),sl29⟩) (s0:codeIn K al "is_cell"=true) (nc:keepIn K (.ref f29)=true)
  {ir gk:Option Addr}{en lg im lc ag fz:Value}
  (v6:nsIn K mainGlobals "check_cell"=some (some (.ref f30))) (tj:K.lookup f30=some ⟨en,ir,.func (fnOf "check_cell" "check_cell" (a_6 m_5) (a_4 m_5) (a_0 m_5) .none lg im lc gk ag fz),sl30⟩) (np:codeIn K ag "check_cell"=true) (s4:keepIn K (.ref f30)=true)
  {gn iu:Option Addr}{j3 di g4 fj as ho:Value}
  (t6:nsIn K mainGlobals "things_in"=some (some (.ref f31))) (ry:K.lookup f31=some ⟨j3,gn,.func (fnOf "things_in" "things_in" (a_6 i_5) (a_4 i_5) (a_0 i_5) .none di g4 fj iu as ho),sl31⟩) (rp:codeIn K as "things_in"=true) (nl:keepIn K (.ref f31)=true)
  {ek gj:Option Addr}{eg d3 ft ez bj jr:Value}
  (uu:nsIn K mainGlobals "amount_in"=some (some (.ref f32))) (sm:K.lookup f32=some ⟨eg,ek,.func (fnOf "amount_in" "amount_in" (a_6 i_6) (a_4 i_6) (a_0 i_6) .none d3 ft ez gj bj jr),sl32⟩) (p1:codeIn K bj "amount_in"=true) (tu:keepIn K (.ref f32)=true)
  {e0 gb:Option Addr}{jb er cm kd ao dz:Value}
  (qa:nsIn K mainGlobals "values_beyond"=some (some (.ref f33))) (uc:K.lookup f33=some ⟨jb,e0,.func (fnOf "values_beyond" "values_beyond" (a_6 g_0) (a_4 g_0) (a_0 g_0) .none er cm kd gb ao dz),sl33⟩) (o3:codeIn K ao "values_beyond"=true) (p4:keepIn K (.ref f33)=true)
  {d8 ia:Option Addr}{jd lw ga j4 af ca:Value}
  (t3:nsIn K mainGlobals "turning_values"=some (some (.ref f34))) (pk:K.lookup f34=some ⟨jd,d8,.func (fnOf "turning_values" "turning_values" (a_6 c_5) (a_4 c_5) (a_0 c_5) .none lw ga j4 ia af ca),sl34⟩) (q1:codeIn K af "turning_values"=true) (ml:keepIn K (.ref f34)=true)
  {ky gw:Option Addr}{g1 cq hv hh aq gt:Value}
  (m4:nsIn K mainGlobals "turning_boxes"=some (some (.ref f35))) (v5:K.lookup f35=some ⟨g1,ky,.func (fnOf "turning_boxes" "turning_boxes" (a_6 g_1) (a_4 g_1) (a_0 g_1) .none cq hv hh gw aq gt),sl35⟩) (u5:codeIn K aq "turning_boxes"=true) (v4:keepIn K (.ref f35)=true)
  {gy fi:Option Addr}{i3 i0 e4 ew an ic:Value}
  (m7:nsIn K mainGlobals "window_turning"=some (some (.ref f36))) (qy:K.lookup f36=some ⟨i3,gy,.func (fnOf "window_turning" "window_turning" (a_6 e_6) (a_4 e_6) (a_0 e_6) .none i0 e4 ew fi an ic),sl36⟩) (nq:codeIn K an "window_turning"=true) (mf:keepIn K (.ref f36)=true)
  {l0 da:Option Addr}{io ci gh ge av jl:Value}
  (r2:nsIn K mainGlobals "chain_turning"=some (some (.ref f37))) (oi:K.lookup f37=some ⟨io,l0,.func (fnOf "chain_turning" "chain_turning" (a_6 g_4) (a_4 g_4) (a_0 g_4) .none ci gh ge da av jl),sl37⟩) (ud:codeIn K av "chain_turning"=true) (on:keepIn K (.ref f37)=true)
  {e8 fm:Option Addr}{jy lv i6 fl bu bz:Value}
  (r1:nsIn K mainGlobals "cell_rows"=some (some (.ref f38))) (sf:K.lookup f38=some ⟨jy,e8,.func (fnOf "cell_rows" "cell_rows" (a_6 o_0) (a_4 o_0) (a_0 o_0) .none lv i6 fl fm bu bz),sl38⟩) (uz:codeIn K bu "cell_rows"=true) (mz:keepIn K (.ref f38)=true)
  {ej ip:Option Addr}{i4 j6 iv gi ab dt:Value}
  (m2:nsIn K mainGlobals "boxes_turn"=some (some (.ref f39))) (ve:K.lookup f39=some ⟨i4,ej,.func (fnOf "boxes_turn" "boxes_turn" (a_6 m_6) (a_4 m_6) (a_0 m_6) .none j6 iv gi ip ab dt),sl39⟩) (tw:codeIn K ab "boxes_turn"=true) (uk:keepIn K (.ref f39)=true)
  {mb ke:Option Addr}{h9 lu dq fh ad eb:Value}
  (ri:nsIn K mainGlobals "_law_cell_at"=some (some (.ref f40))) (pl:K.lookup f40=some ⟨h9,mb,.func (fnOf "_law_cell_at" "_law_cell_at" (a_6 j_6) (a_4 j_6) (a_0 j_6) .none lu dq fh ke ad eb),sl40⟩) (s8:codeIn K ad "_law_cell_at"=true) (s9:keepIn K (.ref f40)=true)
  {hr hy:Option Addr}{jv mc fp dr bh jc:Value}
  (ou:nsIn K mainGlobals "_law_stream"=some (some (.ref f41))) (q9:K.lookup f41=some ⟨jv,hr,.func (fnOf "_law_stream" "_law_stream" (a_6 m_0) (a_4 m_0) (a_0 m_0) .none mc fp dr hy bh jc),sl41⟩) (su:codeIn K bh "_law_stream"=true) (m1:keepIn K (.ref f41)=true)
  {kp dy:Option Addr}{fw fq jk hn bt df:Value}
  (mh:nsIn K mainGlobals "_law_fold"=some (some (.ref f42))) (se:K.lookup f42=some ⟨fw,kp,.func (fnOf "_law_fold" "_law_fold" (a_6 p_3) (a_4 p_3) (a_0 p_3) .none fq jk hn dy bt df),sl42⟩) (oh:codeIn K bt "_law_fold"=true) (pf:keepIn K (.ref f42)=true)
  {cd ed:Option Addr}{j7 gc gr d4 am cs:Value}
  (qe:nsIn K mainGlobals "_law_bounds"=some (some (.ref f43))) (t1:K.lookup f43=some ⟨j7,cd,.func (fnOf "_law_bounds" "_law_bounds" (a_6 m_1) (a_4 m_1) (a_0 m_1) .none gc gr d4 ed am cs),sl43⟩) (pb:codeIn K am "_law_bounds"=true) (m3:keepIn K (.ref f43)=true)
  {cg lj:Option Addr}{dk kl ef fk ba e9:Value}
  (nn:nsIn K mainGlobals "_law_things"=some (some (.ref f44))) (o1:K.lookup f44=some ⟨dk,cg,.func (fnOf "_law_things" "_law_things" (a_6 l_9) (a_4 l_9) (a_0 l_9) .none kl ef fk lj ba e9),sl44⟩) (o4:codeIn K ba "_law_things"=true) (os:keepIn K (.ref f44)=true)
  {fy j1:Option Addr}{kw kg j2 hs bg jx:Value}
  (vk:nsIn K mainGlobals "_law_boxes"=some (some (.ref f45))) (rl:K.lookup f45=some ⟨kw,fy,.func (fnOf "_law_boxes" "_law_boxes" (a_6 n_8) (a_4 n_8) (a_0 n_8) .none kg j2 hs j1 bg jx),sl45⟩) (rq:codeIn K bg "_law_boxes"=true) (t4:keepIn K (.ref f45)=true)
  {j8 ln:Option Addr}{lq g3 jh dp ae ck:Value}
  (tz:nsIn K mainGlobals "_law_in_boxes"=some (some (.ref f46))) (vo:K.lookup f46=some ⟨lq,j8,.func (fnOf "_law_in_boxes" "_law_in_boxes" (a_6 h_9) (a_4 h_9) (a_0 h_9) .none g3 jh dp ln ae ck),sl46⟩) (q7:codeIn K ae "_law_in_boxes"=true) (um:keepIn K (.ref f46)=true)
  {hd eq:Option Addr}{jw i7 kh fc bp lp:Value}
  (qn:nsIn K mainGlobals "_law_answer"=some (some (.ref f47))) (sx:K.lookup f47=some ⟨jw,hd,.func (fnOf "_law_answer" "_law_answer" (a_6 m_2) (a_4 m_2) (a_0 m_2) .none i7 kh fc eq bp lp),sl47⟩) (rm:codeIn K bp "_law_answer"=true) (uv:keepIn K (.ref f47)=true)
  {em fb:Option Addr}{j9 jn bx he aj b0:Value}
  (vd:nsIn K mainGlobals "_law_moved"=some (some (.ref f48))) (ra:K.lookup f48=some ⟨j9,em,.func (fnOf "_law_moved" "_law_moved" (a_6 n_7) (a_4 n_7) (a_0 n_7) .none jn bx he fb aj b0),sl48⟩) (oq:codeIn K aj "_law_moved"=true) (pp:keepIn K (.ref f48)=true)
  {ij md:Option Addr}{kn g8 de h8 bb d1:Value}
  (oz:nsIn K mainGlobals "_law_rows_still"=some (some (.ref f49))) (qz:K.lookup f49=some ⟨kn,ij,.func (fnOf "_law_rows_still" "_law_rows_still" (a_6 c_6) (a_4 c_6) (a_0 c_6) .none g8 de h8 md bb d1),sl49⟩) (vb:codeIn K bb "_law_rows_still"=true) (ug:keepIn K (.ref f49)=true)
  {ec be:Option Addr}{iw ac bi a0 z bq:Value}
  (uj:nsIn K mainGlobals "law"=some (some (.ref f50))) (ub:K.lookup f50=some ⟨iw,ec,.func (fnOf "law" "law" (a_6 K_3) (a_4 K_3) (a_0 K_3) .none ac bi a0 be z bq),sl50⟩) (nu:codeIn K z "law"=true) (qx:keepIn K (.ref f50)=true)
  (y1:nsIn K mainGlobals "LETTERS"=some (some (.str "abcdefghijklmnopqrstuvwxyz" tc1))) (y2:nsIn K mainGlobals "LONGEST"=some (some (.int 8 tc2))) (ku:K.lookup ec3=some ⟨.type "tuple",none,.seq #[.none,.none,.int 1 tec32,.int 0 tec33] nec3,slec3⟩) (y3:nsIn K mainGlobals "EVERY_VALUE"=some (some (.ref ec3)))
  (S:K.lookup ed0_0=some ⟨.type "tuple",none,.seq #[.int (1) ted0_0_0,.int (1) ted0_0_1] ned0_0,sled0_0⟩) (Y:K.lookup ed0_1=some ⟨.type "tuple",none,.seq #[.int (1) ted0_1_0,.int (-1) ted0_1_1] ned0_1,sled0_1⟩) (Z:K.lookup ed0_2=some ⟨.type "tuple",none,.seq #[.int (1) ted0_2_0,.int (0) ted0_2_1] ned0_2,sled0_2⟩) (O:K.lookup ed0_3=some ⟨.type "tuple",none,.seq #[.int (0) ted0_3_0,.int (1) ted0_3_1] ned0_3,sled0_3⟩) (kc:K.lookup ed0=some {cls:=.type "dict",data:=.dict #[⟨PyData.keyHash w.params (Str.ofString "sum"),.str "sum" tk0_0,.ref ed0_0⟩,⟨PyData.keyHash w.params (Str.ofString "less"),.str "less" tk0_1,.ref ed0_1⟩,⟨PyData.keyHash w.params (Str.ofString "left"),.str "left" tk0_2,.ref ed0_2⟩,⟨PyData.keyHash w.params (Str.ofString "right"),.str "right" tk0_3,.ref ed0_3⟩] ned0}) (hj:(ed0==sysModules)=false) (pc:nsIn K mainGlobals "SHARES"=some (some (.ref ed0)))
  (z1:nsIn K mainGlobals "abs"=some none) (z2:nsIn K mainGlobals "len"=some none) (z3:nsIn K mainGlobals "max"=some none) (z4:nsIn K mainGlobals "min"=some none) (z5:nsIn K mainGlobals "any"=some none) (z6:nsIn K mainGlobals "all"=some none) (z7:nsIn K mainGlobals "range"=some none) (z8:nsIn K mainGlobals "isinstance"=some none) (z9:nsIn K mainGlobals "int"=some none) (m6:nsIn K mainGlobals "bool"=some none) (mx:nsIn K mainGlobals "str"=some none) (uw:nsIn K mainGlobals "tuple"=some none) (rf:nsIn K mainGlobals "list"=some none) (o9:nsIn K mainGlobals "sorted"=some none) (nk:nsIn K mainGlobals "dict"=some none) (ms:nsIn K mainGlobals "set"=some none) (tf:nsIn K mainGlobals "sum"=some none) (sg:nsIn K mainGlobals "zip"=some none) (s5:nsIn K mainGlobals "enumerate"=some none) (rn:nsIn K mainGlobals "reversed"=some none) :
  ∃ fd:FuncData,(∀ (s:Shared) (v:Value),BindsTo s fd ⟨[v],[]⟩ [("_law_script",v)]) ∧ ∀ base:Heap,K.In base → base.Ns mainGlobals mg → FnOk l.prog w K mg base CX0 10 fa fd ["_law_script"] (spP K ak6):=by
 have e:=o2.symm.trans (mg_of X G uj);cases e;have M:∀ {x},nsIn K mainGlobals x=some none->mg x=none:=mg_none_of X G;have N:∀ {x v},nsIn K mainGlobals x=some (some v)->mg x=some v:=mg_of X G;have T:Blt w K mg:=⟨M z1,M z2,M z3,M z4,M z5,M z6,M z7,M z8,M z9,M m6,M mx,M uw,M rf,M o9,M nk,M ms,M tf,M sg,M s5,M rn,⟨_,N y1⟩,⟨_,N y2⟩,⟨_,N y3,(R_6 ku (by simp) (l_1 aD1 (l_1 aD1 (l_1 v_0 (l_1 v_0 F_1)))))⟩,⟨_,N pc,_,_,kc,hj,(.cons (R_6 S (by simp) (l_1 v_0 (l_1 v_0 F_1))) (.cons (R_6 Y (by simp) (l_1 v_0 (l_1 v_0 F_1))) (.cons (R_6 Z (by simp) (l_1 v_0 (l_1 v_0 F_1))) (.cons (R_6 O (by simp) (l_1 v_0 (l_1 v_0 F_1))) .nil)))),by decide⟩⟩
 have F1:=b_5 (st:=q_2) l1 c1 k1;have b1:=F1.binds (ps:=["x"]) λ _ _ _ _ _ _=>us1 λ _=>rfl
 have F2:=b_5 (st:=n_9) l2 c2 k2;have b2:=F2.binds (ps:=["keys","key"]) λ _ _ _ _ _ _=>us2 λ _ _=>rfl
 have F3:=b_5 (st:=c_9) l3 c3 k3;have b3:=F3.binds (ps:=["one","other"]) λ _ _ _ _ _ _=>us2 λ _ _=>rfl
 have F4:=b_5 (st:=h_7) l4 c4 k4;have b4:=F4.binds (ps:=["low","high","step","rest"]) λ _ _ _ _ _ _=>us4 λ _ _ _ _=>rfl
 have F5:=b_5 (st:=m_3) l5 c5 k5;have b5:=F5.binds (ps:=["v","low","high"]) λ _ _ _ _ _ _=>us3 λ _ _ _=>rfl
 have F6:=b_5 (st:=j_4) l6 c6 k6;have b6:=F6.binds (ps:=["one","v"]) λ _ _ _ _ _ _=>us2 λ _ _=>rfl
 have F7:=b_5 (st:=j_5) l7 c7 k7;have b7:=F7.binds (ps:=["one","other"]) λ _ _ _ _ _ _=>us2 λ _ _=>rfl
 have F8:=b_5 (st:=j_2) l8 c8 k8;have b8:=F8.binds (ps:=["one","other"]) λ _ _ _ _ _ _=>us2 λ _ _=>rfl
 have F9:=b_5 (st:=e_3) l9 c9 k9;have b9:=F9.binds (ps:=["one","low","high"]) λ _ _ _ _ _ _=>us3 λ _ _ _=>rfl
 have F10:=b_5 (st:=g_3) o6 ol sy;have p8:=F10.binds (ps:=["one","c"]) λ _ _ _ _ _ _=>us2 λ _ _=>rfl
 have F11:=b_5 (st:=g_2) oc vp og;have r5:=F11.binds (ps:=["one","c"]) λ _ _ _ _ _ _=>us2 λ _ _=>rfl
 have F12:=b_5 (st:=d_0) sb po u8;have rh:=F12.binds (ps:=["one","a","b"]) λ _ _ _ _ _ _=>us3 λ _ _ _=>rfl
 have F13:=b_5 (st:=c_4) q0 sl t7;have rj:=F13.binds (ps:=["a","m"]) λ _ _ _ _ _ _=>us2 λ _ _=>rfl
 have F14:=b_5 (st:=h_8) u2 uh uf;have qf:=F14.binds (ps:=["one","a","b"]) λ _ _ _ _ _ _=>us3 λ _ _ _=>rfl
 have F15:=b_5 (st:=h_6) nj rs s7;have ui:=F15.binds (ps:=["one","other"]) λ _ _ _ _ _ _=>us2 λ _ _=>rfl
 have F16:=b_5 (st:=p_6) vt p3 t5;have sn:=F16.binds (ps:=["keys","begin","end","stretch"]) λ _ _ _ _ _ _=>us4 λ _ _ _ _=>rfl
 have F17:=b_5 (st:=r_3) ue pz u3;have vv:=F17.binds (ps:=["box","thing"]) λ _ _ _ _ _ _=>us2 λ _ _=>rfl
 have F18:=b_5 (st:=p_5) mj rv mt;have r4:=F18.binds (ps:=["one","other"]) λ _ _ _ _ _ _=>us2 λ _ _=>rfl
 have F19:=b_5 (st:=f_4) q2 mr ng;have so:=F19.binds (ps:=["boxes","other"]) λ _ _ _ _ _ _=>us2 λ _ _=>rfl
 have F20:=b_5 (st:=n_6) oj vf uo;have rb:=F20.binds (ps:=["works","name"]) λ _ _ _ _ _ _=>us2 λ _ _=>rfl
 have F21:=b_5 (st:=p_4) m0 ny sv;have s1:=F21.binds (ps:=["x"]) λ _ _ _ _ _ _=>us1 λ _=>rfl
 have F22:=b_5 (st:=l_7) vq rz tn;have r7:=F22.binds (ps:=["row","time"]) λ _ _ _ _ _ _=>us2 λ _ _=>rfl
 have F23:=b_5 (st:=o_1) vm ni nw;have u7:=F23.binds (ps:=["fold_word","values"]) λ _ _ _ _ _ _=>us2 λ _ _=>rfl
 have F24:=b_5 (st:=e_2) q8 pq p7;have u1:=F24.binds (ps:=["row","things"]) λ _ _ _ _ _ _=>us2 λ _ _=>rfl
 have F25:=b_5 (st:=m_4) sk tp qu;have mu:=F25.binds (ps:=["row","things"]) λ _ _ _ _ _ _=>us2 λ _ _=>rfl
 have F26:=b_5 (st:=j_3) uy pe p9;have r0:=F26.binds (ps:=["row","amount"]) λ _ _ _ _ _ _=>us2 λ _ _=>rfl
 have F27:=b_5 (st:=r_1) mp o8 pm;have u4:=F27.binds (ps:=["key","begin","end"]) λ _ _ _ _ _ _=>us3 λ _ _ _=>rfl
 have F28:=b_5 (st:=l_8) mq nv vi;have ow:=F28.binds (ps:=["fold","key","window"]) λ _ _ _ _ _ _=>us3 λ _ _ _=>rfl
 have F29:=b_5 (st:=r_2) nt s0 nc;have ur:=F29.binds (ps:=["fold","key","window"]) λ _ _ _ _ _ _=>us3 λ _ _ _=>rfl
 have F30:=b_5 (st:=m_5) tj np s4;have rr:=F30.binds (ps:=["works","ask","key","window"]) λ _ _ _ _ _ _=>us4 λ _ _ _ _=>rfl
 have F31:=b_5 (st:=i_5) ry rp nl;have s2:=F31.binds (ps:=["box","things"]) λ _ _ _ _ _ _=>us2 λ _ _=>rfl
 have F32:=b_5 (st:=i_6) sm p1 tu;have m9:=F32.binds (ps:=["fold","box","things"]) λ _ _ _ _ _ _=>us3 λ _ _ _=>rfl
 have F33:=b_5 (st:=g_0) uc o3 p4;have sr:=F33.binds (ps:=["fold_word","amount","stretch"]) λ _ _ _ _ _ _=>us3 λ _ _ _=>rfl
 have F34:=b_5 (st:=c_5) pk q1 ml;have my:=F34.binds (ps:=["ask_row","fold_word","amount","stretch"]) λ _ _ _ _ _ _=>us4 λ _ _ _ _=>rfl
 have F35:=b_5 (st:=g_1) v5 u5 v4;have sw:=F35.binds (ps:=["ask_row","fold_word","amount","boxes"]) λ _ _ _ _ _ _=>us4 λ _ _ _ _=>rfl
 have F36:=b_5 (st:=e_6) qy nq mf;have sd:=F36.binds (ps:=["ask_row","fold","box","there","boxes"]) λ _ _ _ _ _ _=>us5 λ _ _ _ _ _=>rfl
 have F37:=b_5 (st:=g_4) oi ud on;have m8:=F37.binds (ps:=["ask_row","fold","key","window","there","boxes"]) λ _ _ _ _ _ _=>us6 λ _ _ _ _ _ _=>rfl
 have F38:=b_5 (st:=o_0) sf uz mz;have tm:=F38.binds (ps:=["works","ask"]) λ _ _ _ _ _ _=>us2 λ _ _=>rfl
 have F39:=b_5 (st:=m_6) ve tw uk;have ph:=F39.binds (ps:=["works","ask","key","window","there","boxes"]) λ _ _ _ _ _ _=>us6 λ _ _ _ _ _ _=>rfl
 have F40:=b_5 (st:=j_6) pl s8 s9;have p5:=F40.binds (ps:=["_law_script","_law_k"]) λ _ _ _ _ _ _=>us2 λ _ _=>rfl
 have F41:=b_5 (st:=m_0) q9 su m1;have ut:=F41.binds (ps:=["_law_cell","_law_size"]) λ _ _ _ _ _ _=>us2 λ _ _=>rfl
 have F42:=b_5 (st:=p_3) se oh pf;have oo:=F42.binds (ps:=["_law_xs","_law_name","_law_below"]) λ _ _ _ _ _ _=>us3 λ _ _ _=>rfl
 have F43:=b_5 (st:=m_1) t1 pb m3;have mi:=F43.binds (ps:=["_law_xs","_law_fold_here"]) λ _ _ _ _ _ _=>us2 λ _ _=>rfl
 have F44:=b_5 (st:=l_9) o1 o4 os;have ob:=F44.binds (ps:=["_law_xs","_law_most"]) λ _ _ _ _ _ _=>us2 λ _ _=>rfl
 have F45:=b_5 (st:=n_8) rl rq t4;have vj:=F45.binds (ps:=["_law_xs","_law_most","_law_far"]) λ _ _ _ _ _ _=>us3 λ _ _ _=>rfl
 have F46:=b_5 (st:=h_9) vo q7 um;have ux:=F46.binds (ps:=["_law_boxes_here","_law_key"]) λ _ _ _ _ _ _=>us2 λ _ _=>rfl
 have F47:=b_5 (st:=m_2) sx rm uv;have s6:=F47.binds (ps:=["_law_ask","_law_fold_here","_law_things_here","_law_cell"]) λ _ _ _ _ _ _=>us4 λ _ _ _ _=>rfl
 have F48:=b_5 (st:=n_7) ra oq pp;have rc:=F48.binds (ps:=["_law_ask","_law_fold_here","_law_there","_law_cell","_law_things_here"]) λ _ _ _ _ _ _=>us5 λ _ _ _ _ _=>rfl
 have F49:=b_5 (st:=c_6) qz vb ug;have pr:=F49.binds (ps:=["_law_ask","_law_fold_here","_law_there","_law_cell","_law_things_here","_law_xs"]) λ _ _ _ _ _ _=>us6 λ _ _ _ _ _ _=>rfl
 have F50:=b_5 (st:=K_3) ub nu qx;have v7:=F50.binds (ps:=["_law_script"]) λ _ _ _ _ _ _=>us1 λ _=>rfl
 refine⟨fnOf "law" "law" (a_6 K_3) (a_4 K_3) (a_0 K_3) .none ac bi a0 be z bq,λ s v=>.of_eq rfl,λ base _ _=>?_⟩
 have G1:DefOk l.prog w K mg base 1 "is_key" x_0:=aj7 F1 b1 (N a1) T;have G2:DefOk l.prog w K mg base 1 "keys_hold" d_6:=Q_3 F2 b2 (N a2) T;have G4:DefOk l.prog w K mg base 1 "stretch_made" a_9:=E_2 F4 b4 (N a4) T;have G5:DefOk l.prog w K mg base 1 "is_between" b_7:=L_7 F5 b5 (N a5) T;have G7:DefOk l.prog w K mg base 1 "lower_bound" d_9:=H_2 F7 b7 (N a7) T;have G8:DefOk l.prog w K mg base 1 "upper_bound" b_8:=G_9 F8 b8 (N a8) T;have G13:DefOk l.prog w K mg base 1 "divisor_and_factor" f_9:=t_1 F13 rj (N vz) T;have G16:DefOk l.prog w K mg base 1 "box_made" b_3:=V_3 F16 sn (N va) T;have G20:DefOk l.prog w K mg base 1 "row_named" e_4:=P_9 F20 rb (N om) T;have G21:DefOk l.prog w K mg base 1 "is_whole" o_3:=V_1 F21 s1 (N vy) T;have G22:DefOk l.prog w K mg base 1 "windows_of" e_9:=L_1 F22 r7 (N ro) T;have G23:DefOk l.prog w K mg base 1 "amount_of" c_0:=Q_6 F23 u7 (N pi) T;have G40:DefOk l.prog w K mg base 1 "_law_cell_at" f_0:=H_3 F40 p5 (N ri) T;have G41:DefN l.prog w K mg base 1 "_law_stream" h_0:=L_4 F41 ut (N ou) T;have G42:DefB l.prog w K mg base 1 "_law_fold" j_8:=V_0 F42 oo (N mh) T;have G43:DefB l.prog w K mg base 1 "_law_bounds" b_4:=L_5 F43 mi (N qe) T;have G44:DefB l.prog w K mg base 1 "_law_things" i_7:=L_3 F44 ob (N nn) T;have G46:DefOk l.prog w K mg base 1 "_law_in_boxes" f_6:=E_4 F46 ux (N tz) T;have G6:DefOk l.prog w K mg base 2 "stretch_has" j_7:=H_1 F6 b6 (N a6) T G5;have G9:DefOk l.prog w K mg base 2 "stretch_between" a_5:=w_9 F9 b9 (N a9) T G7 G4 G8;have G12:DefOk l.prog w K mg base 2 "stretch_moved" g_6:=B_6 F12 rh (N n0) T G4;have G14:DefOk l.prog w K mg base 2 "stretch_back" i_2:=E_3 F14 qf (N vh) T G13 G4;have G24:DefOk l.prog w K mg base 2 "window_cells" i_0:=E_0 F24 u1 (N qq) T G23 G22;have G26:DefOk l.prog w K mg base 2 "told_answer" b_9:=H_0 F26 r0 (N mk) T G5;have G27:DefOk l.prog w K mg base 2 "key_box" h_4:=ae3 F27 u4 (N r8) T G16;have G38:DefOk l.prog w K mg base 2 "cell_rows" p_8:=Q_4 F38 tm (N r1) T G20;have G45:DefB l.prog w K mg base 2 "_law_boxes" l_4:=Q_1 F45 vj (N vk) T G16 G4;have G10:DefOk l.prog w K mg base 3 "stretch_above" d_2:=B_8 F10 p8 (N rg) T G9;have G11:DefOk l.prog w K mg base 3 "stretch_below" d_1:=B_7 F11 r5 (N ne) T G9;have G15:DefOk l.prog w K mg base 3 "stretch_meet" i_1:=E_1 F15 ui (N oy) T G14 G9 G12;have G17:DefOk l.prog w K mg base 3 "box_has" h_5:=ae5 F17 vv (N q4) T G2 G6;have G25:DefOk l.prog w K mg base 3 "fold_cells" m_7:=L_8 F25 mu (N nb) T G24;have G28:DefOk l.prog w K mg base 3 "window_box" b_6:=L_2 F28 ow (N r6) T G27;have G3:DefOk l.prog w K mg base 4 "keys_meet" o_2:=Q_2 F3 b3 (N a3) T G2;have G29:DefOk l.prog w K mg base 4 "is_cell" i_9:=ae4 F29 ur (N s3) T G1 G21 G28;have G31:DefOk l.prog w K mg base 4 "things_in" l_3:=P_8 F31 s2 (N t6) T G17;have G33:DefOk l.prog w K mg base 4 "values_beyond" c_3:=B_4 F33 sr (N qa) T G10 G11;have G47:DefOk l.prog w K mg base 4 "_law_answer" d_3:=L_6 F47 s6 (N qn) T G25 G26;have G18:DefOk l.prog w K mg base 5 "box_meet" i_3:=V_2 F18 r4 (N m5) T G16 G3 G15 G8
 have G30:DefOk l.prog w K mg base 5 "check_cell" m_8:=L_9 F30 rr (N v6) T G29 G20;have G32:DefOk l.prog w K mg base 5 "amount_in" l_5:=Q_7 F32 m9 (N uu) T G23 G31;have G34:DefOk l.prog w K mg base 5 "turning_values" a_2:=z_1 F34 my (N t3) T G10 G11 G9 G26 G33;have G48:DefOk l.prog w K mg base 5 "_law_moved" i_8:=Q_0 F48 rc (N vd) T G47;have G49:DefL l.prog w K mg base 5 "_law_rows_still" d_5:=z_2 F49 pr (N oz) T G47;have G19:DefOk l.prog w K mg base 6 "boxes_met" o_4:=Q_5 F19 so (N nf) T G18;have G35:DefOk l.prog w K mg base 6 "turning_boxes" g_5:=B_5 F35 sw (N m4) T G16 G34;have G36:DefOk l.prog w K mg base 7 "window_turning" e_7:=z_0 F36 sd (N m7) T G32 G19 G35;have G37:DefOk l.prog w K mg base 8 "chain_turning" g_7:=B_9 F37 m8 (N r2) T G28 G36;have G39:DefOk l.prog w K mg base 9 "boxes_turn" j_0:=M_0 F39 ph (N m2) T G38 G37 G30;exact bc3 F50 T G43 G45 G40 G42 G46 G48 G49 G41 G44 G39
theorem walk {l:OpenLaw}{q:Program}{O:List Str}{XP:(Str->Option Value)->Heap->Prop}{YP:World->Heap->Prop}{d:DefRec}{K:Params->Frag} (hn:l.most=some 63) (Z:d.params.defaults=[])
  (hY:∀ (w:World) (h:Heap),YP w h->(K w.params).In h)
  (F:∀ (w:World) (mg:Str->Option Value) (fa:Addr) (h:Heap),(K w.params).In h->h.Ns mainGlobals mg->mg d.name=some (.ref fa) ->
   ∃ fd:FuncData,(∀ (s:Shared) (u:Value),BindsTo s fd ⟨[u],[]⟩ [("_law_script",u)]) ∧ ∀ base:Heap,(K w.params).In base → base.Ns mainGlobals mg → FnOk l.prog w (K w.params) mg base CX0 10 fa fd ["_law_script"] (spP (K w.params) ak6)) :
  PySem.W.WalkO q O XP YP l.row.toRowW d [] (λ f vs=>PySem.call f vs) :=
 L2.walk_of (n:=63) (k:=10) (x:="_law_script") (CX:=λ _=>CX0) (sp:=λ w=>spP (K w.params) ak6) hn (by decide) Z ⟨rfl,by decide,by decide⟩ hY F
  (λ w H a Y hl _ hS=>⟨H,[.lst (Y.map .int)],.bl true,Same.refl _,Reps.one (by unfold Rep;exact⟨a,_,rfl,hS,P_0 Y⟩),law_true Y hl,λ v Hi' H' S r=>by unfold Rep at r;exact r⟩) λ _ _ _ _ _ z=>z
end Fx
open PySem PySem.W PyProof.Rows
def PySem.W.Fast.tw4314633193186632925:=0
def PySem.W.Fast.tw3506991433687903382:=0
def PySem.W.Fast.tw2485483647802839157:=0
def PySem.W.Fast.tw7954861193312847841:=0
def PySem.W.Fast.tw6460590471833185002:=0
def PySem.W.Fast.tw12677722066711051579:=0
def PySem.W.Fast.tw13503207668277707542:=0
def PySem.W.Fast.tw14103706911215360338:=0
def PySem.W.Fast.tw16750339384408758524:=0
def PySem.W.Fast.tw13260245651735597209:=0
def PySem.W.Fast.tw14133404250383170496:=0
def PySem.W.Fast.tw2530053475780457144:=0
def PySem.W.Fast.tw11071321479473343615:=0
def PySem.W.Fast.tw11814502567214937755:=0
def PySem.W.Fast.tw13496925550745283391:=0
def PySem.W.Fast.tw7859138718428895155:=0
def PySem.W.Fast.tw11086517775672667164:=0
def PySem.W.Fast.tw4871847368696496470:=0
def PySem.W.Fast.tw11916180777608855312:=0
def PySem.W.Fast.tw14284740333928230688:=0
def PySem.W.Fast.tw18001272572329379201:=0
def PySem.W.Fast.tw15146227027188662487:=0
def PySem.W.Fast.tw10515872917831245441:=0
def PySem.W.Fast.tw8397674968648170353:=0
def PySem.W.Fast.tw5357112134576000150:=0
def PySem.W.Fast.tw17043035576224070542:=0
def PySem.W.Fast.tw15495445896005112987:=0
def PySem.W.Fast.tw14178400301347661047:=0
def PySem.W.Fast.tw17514791758488431606:=0
def PySem.W.Fast.tw8540148308665720446:=0
def PySem.W.Fast.tw36494964213674318:=0
def PySem.W.Fast.tw1877509947107754103:=0
def PySem.W.Fast.tw16929438983698793390:=0
def PySem.W.Fast.tw7168059293779551297:=0
def PySem.W.Fast.tw279110164901581447:=0
def PySem.W.Fast.tw9857104631996805106:=0
def PySem.W.Fast.tw6257760401902228139:=0
def PySem.W.Fast.tw18388547717265629451:=0
def PySem.W.Fast.tw10596871939571965020:=0
def PySem.W.Fast.tw9703055492186785962:=0
def PySem.W.Fast.tw6841798324356165092:=0
def PySem.W.Fast.tw14973351025797754635:=0
def PySem.W.Fast.tw19403684979833714:=0
def PySem.W.Fast.tw8293830241132631764:=0
def PySem.W.Fast.tw15303348852902591014:=0
def PySem.W.Fast.tw2208192525455459456:=0
def PySem.W.Fast.tw2565857264221280721:=0
def PySem.W.Fast.tw12968324454394074972:=0
def PySem.W.Fast.tw6206870556509279074:=0
def PySem.W.Fast.tw13789614717105819807:=0
def PySem.W.Fast.tw9765306430199169562:=0
def PySem.W.Fast.tw3574736630235251925:=0
def PySem.W.Fast.tw18227505618326110177:=0
def PySem.W.Fast.tw13786879283413937517:=0
def PySem.W.Fast.tw13378155005925632673:=0
def PySem.W.Fast.tw10079224363734403364:=0
def PySem.W.Fast.tw17693519907035869462:=0
def PySem.W.Fast.tw4043272387920248562:=0
def PySem.W.Fast.tw12948024259677082141:=0
def PySem.W.Fast.tw9585442230362038265:=0
def PySem.W.Fast.tw12831025323465456693:=0
def PySem.W.Fast.tw5907036614212509110:=0
def PySem.W.Fast.tw7623007288981899520:=0
def PySem.W.Fast.tw10943289986141182815:=0
set_option maxRecDepth 100000 in
set_option maxHeartbeats 0 in
theorem PySem.Challenge.cw_latewell_k51_windows_turned_by_boxes_holds : PySem.Challenge.rw_latewell_k51_windows_turned_by_boxes.Holds := by
 w_on;o_law;k_head;(case hw=>w_witness2)
 k_fill
 refine Fx.walk (l:=PySem.Challenge.rw_latewell_k51_windows_turned_by_boxes) rfl rfl (λ w h Y=>PySem.W.km_in_of Y) ?F
 case F =>
  intro w mg fa h KX G hmg;refine' Fx.all_mk KX G hmg ?a1 ?l1 ?c1 ?k1 ?a2 ?l2 ?c2 ?k2 ?a3 ?l3 ?c3 ?k3 ?a4 ?l4 ?c4 ?k4 ?a5 ?l5 ?c5 ?k5 ?a6 ?l6 ?c6 ?k6 ?a7 ?l7 ?c7 ?k7 ?a8 ?l8 ?c8 ?k8 ?a9 ?l9 ?c9 ?k9 ?a10 ?l10 ?c10 ?k10 ?a11 ?l11 ?c11 ?k11 ?a12 ?l12 ?c12 ?k12 ?a13 ?l13 ?c13 ?k13 ?a14 ?l14 ?c14 ?k14 ?a15 ?l15 ?c15 ?k15 ?a16 ?l16 ?c16 ?k16 ?a17 ?l17 ?c17 ?k17 ?a18 ?l18 ?c18 ?k18 ?a19 ?l19 ?c19 ?k19 ?a20 ?l20 ?c20 ?k20 ?a21 ?l21 ?c21 ?k21 ?a22 ?l22 ?c22 ?k22 ?a23 ?l23 ?c23 ?k23 ?a24 ?l24 ?c24 ?k24 ?a25 ?l25 ?c25 ?k25 ?a26 ?l26 ?c26 ?k26 ?a27 ?l27 ?c27 ?k27 ?a28 ?l28 ?c28 ?k28 ?a29 ?l29 ?c29 ?k29 ?a30 ?l30 ?c30 ?k30 ?a31 ?l31 ?c31 ?k31 ?a32 ?l32 ?c32 ?k32 ?a33 ?l33 ?c33 ?k33 ?a34 ?l34 ?c34 ?k34 ?a35 ?l35 ?c35 ?k35 ?a36 ?l36 ?c36 ?k36 ?a37 ?l37 ?c37 ?k37 ?a38 ?l38 ?c38 ?k38 ?a39 ?l39 ?c39 ?k39 ?a40 ?l40 ?c40 ?k40 ?a41 ?l41 ?c41 ?k41 ?a42 ?l42 ?c42 ?k42 ?a43 ?l43 ?c43 ?k43 ?a44 ?l44 ?c44 ?k44 ?a45 ?l45 ?c45 ?k45 ?a46 ?l46 ?c46 ?k46 ?a47 ?l47 ?c47 ?k47 ?a48 ?l48 ?c48 ?k48 ?a49 ?l49 ?c49 ?k49 ?a50 ?l50 ?c50 ?k50 ?y1 ?y2 ?lec3 ?y3 ?led0_0 ?led0_1 ?led0_2 ?led0_3 ?led0 ?ysd0 ?yd0 ?z1 ?z2 ?z3 ?z4 ?z5 ?z6 ?z7 ?z8 ?z9 ?z10 ?z11 ?z12 ?z13 ?z14 ?z15 ?z16 ?z17 ?z18 ?z19 ?z20
  (case a1 | l1 | c1 | k1 | a2 | l2 | c2 | k2 | a3 | l3 | c3 | k3 | a4 | l4 | c4 | k4 | a5 | l5 | c5 | k5 | a6 | l6 | c6 | k6 | a7 | l7 | c7 | k7 | a8 | l8 | c8 | k8 | a9 | l9 | c9 | k9 | a10 | l10 | c10 | k10 | a11 | l11 | c11 | k11 | a12 | l12 | c12 | k12 | a13 | l13 | c13 | k13 | a14 | l14 | c14 | k14 | a15 | l15 | c15 | k15 | a16 | l16 | c16 | k16 | a17 | l17 | c17 | k17 | a18 | l18 | c18 | k18 | a19 | l19 | c19 | k19 | a20 | l20 | c20 | k20 | a21 | l21 | c21 | k21 | a22 | l22 | c22 | k22 | a23 | l23 | c23 | k23 | a24 | l24 | c24 | k24 | a25 | l25 | c25 | k25 | a26 | l26 | c26 | k26 | a27 | l27 | c27 | k27 | a28 | l28 | c28 | k28 | a29 | l29 | c29 | k29 | a30 | l30 | c30 | k30 | a31 | l31 | c31 | k31 | a32 | l32 | c32 | k32 | a33 | l33 | c33 | k33 | a34 | l34 | c34 | k34 | a35 | l35 | c35 | k35 | a36 | l36 | c36 | k36 | a37 | l37 | c37 | k37 | a38 | l38 | c38 | k38 | a39 | l39 | c39 | k39 | a40 | l40 | c40 | k40 | a41 | l41 | c41 | k41 | a42 | l42 | c42 | k42 | a43 | l43 | c43 | k43 | a44 | l44 | c44 | k44 | a45 | l45 | c45 | k45 | a46 | l46 | c46 | k46 | a47 | l47 | c47 | k47 | a48 | l48 | c48 | k48 | a49 | l49 | c49 | k49 | a50 | l50 | c50 | k50 | y1 | y2 | y3 | lec3 | yd0=>k_is)
  (case ysd0=>rfl)
  (case led0 | led0_0 | led0_1 | led0_2 | led0_3 | z1 | z2 | z3 | z4 | z5 | z6 | z7 | z8 | z9 | z10 | z11 | z12 | z13 | z14 | z15 | z16 | z17 | z18 | z19 | z20=>k_is)
