import PyProof.Rows.All
import Wide.All
import OpenK.AllK
import Wide.FinOn
import Lean
import PyProof.EqAt
import PyProof.EqKinds
import PyProof.TupleCall
import PySem.Sem
import PySem.Builtin.Int.W1All
import PyProof.StrBlockI
import PyProof.Rows.SortStr
import PyProof.TupleOfSeq
import PyProof.AttrMissHeap
import PyProof.TupleIter
import PyProof.DictUpdate
import PyProof.ListNew
import KE.KDictOf
import PyProof.StrBlock2
import KE.KDictLaws
import KE.KSortTup
import PyProof.Rows.SumAny
import PyProof.Rows.TupTab
import PyProof.DictItems
import KE.KPairComp
import PyProof.ListRange
import KE.KxMul
import PyProof.MaxThree
import PyProof.Rows.TupAdd
import PySem.Challenge.RW_latewell_k53_pairs_turned_by_boxes
set_option Elab.async false
set_option linter.all false
set_option maxRecDepth 100000
set_option maxHeartbeats 4000000
noncomputable section
open PySem.W (Frag nsIn mg_of mg_none_of fnOf codeIn keepIn OpenLaw)
section
open PySem PyProof.Rows
abbrev qc:=@wpAny_bind
abbrev qd:=@wpAny_pure
abbrev qf:=@Heap.get?_push_of_some
abbrev qg:=@List.mem_cons_self
abbrev qh:=@List.mem_cons_of_mem
abbrev qi:=@Option.some.inj
abbrev qj:=@Nat.le_refl
abbrev qk:=@Heap.get?_push_size
abbrev qm:=@Heap.lt_size
abbrev qo:=@List.mem_append_right
abbrev qp:=@List.mem_append_left
abbrev qq:=@Bool.false_ne_true
abbrev qr:=@Nat.lt_of_lt_of_le
abbrev qt:=@Nat.ne_of_lt
theorem qw{α:Type _}{a b:α}{l:List α}(h:a∈b::l):a=b\/a∈l:=List.mem_cons.mp h
theorem qz{α:Type _}{a:α}{l k:List α}(h:a∈l++k):a∈l\/a∈k:=List.mem_append.mp h
abbrev Qa:=@List.map_cons
abbrev Qb:=@List.size_toArray
abbrev Qc:=@List.length_cons
abbrev Qd:=@List.length_append
abbrev Qg:=@List.length_map
abbrev Qh:=@decide_eq_false
abbrev Qi:=@Bool.false_ne_true
abbrev Qj:=@List.filter_cons_of_pos
abbrev Qk:=@decide_eq_true
abbrev Ql:=@List.getElem?_set_self
abbrev Qm:=@List.getElem?_eq_getElem
abbrev Qn:=@List.getElem?_set_ne
abbrev Qo:=@List.filter_cons_of_neg
abbrev Qp:=@List.getElem?_map
abbrev Qq:=@Nat.le_trans
abbrev Qr:=@List.append_nil
abbrev Qs:=@List.length_singleton
abbrev Qt:=@Int.fdiv_eq_ediv_of_nonneg
abbrev Qu:=@Array.length_toList
abbrev Qv:=@Int.le_refl
abbrev Qw:=@Nat.zero_le
abbrev Qx:=@Bool.and_eq_true
abbrev Qy:=@List.map_append
abbrev Qz:=@List.length_set
abbrev Q0:=@List.getElem?_append_left
abbrev Q1:=@of_decide_eq_true
abbrev Q2:=@List.find?_cons
abbrev Q3:=@List.append_assoc
abbrev Q4:=@List.getElem?_append_right
abbrev Q5:=@Array.getD_eq_getD_getElem?
abbrev Q6:=@PySem.wpAny_mono
abbrev Q7:=@Int.fmod_nonneg_of_pos
abbrev Q8:=@List.length_filter_le
abbrev Q9:=@Int.emod_one
abbrev Za:=@List.mem_map_of_mem
abbrev Zb:=@Ne.symm
abbrev Zc:=@List.cons_lt_cons_iff
abbrev Zd:=@Array.getElem?_toList
abbrev Ze:=@Int.fmod_lt_of_pos
abbrev Zf:=@Nat.lt_irrefl
abbrev Zg:=@PySem.wpAny_truthy_bool
abbrev Zh:=@PySem.wpAny_newObj_type
abbrev Zi:=@Nat.le_of_lt
abbrev Zj:=@PyProof.Rows.boot_max
abbrev Zk:=@List.filter_append
abbrev Zl:=@List.mem_of_getElem?
abbrev Zm:=@decide_eq_true_eq
abbrev Zn:=@PySem.mem_of_lookup
abbrev Zo:=@List.drop_eq_nil_of_le
abbrev Zp:=@List.lookup_cons
abbrev Zq:=@congrArg
abbrev Zr:=@PySem.F.slot_dict_keyiterator_next
abbrev Zs:=@List.exists_cons_of_ne_nil
abbrev Zt:=@PySem.Calls.spliced_cons
abbrev Zu:=@PySem.W.kia_one
abbrev Zv:=@PySem.PassesOwn.never
abbrev Zw:=@PySem.lookup_relabel_local
abbrev Zx:=@eq_false
abbrev Zy:=@List.map_map
abbrev Zz:=@PySem.wpAny_holding
abbrev Z0:=@PyProof.Rows.boot_sorted
abbrev Z3:=@List.isEmpty_iff_length_eq_zero
abbrev Z4:=@Nat.le_of_not_lt
abbrev Z5:=@List.lt_irrefl
abbrev Z6:=@List.getElem?_replicate
abbrev Z7:=@PySem.wpAny_typeNameOfWhole_keyiter
abbrev Z8:=@List.zip_cons_cons
abbrev Z9:=@PySem.Calls.callWith_builtin
abbrev Ya:=@PySem.wpAny_passesOwn
abbrev Yb:=@PySem.F.slot_dict_setdefault
abbrev Yc:=@List.nil_append
abbrev Yd:=@List.mem_cons
abbrev Ye:=@List.mem_cons_of_mem
abbrev Yf:=@List.getElem_mem
abbrev Yg:=@PySem.Heap.SameBut.update
abbrev Yh:=@List.any_cons
abbrev Yi:=@PySem.wpAny_loadPart'
abbrev Yj:=@List.length_nil
abbrev Yk:=@PySem.F.plainAttrs_list
abbrev Yl:=@PySem.F.plain_min_loop
abbrev Ym:=@PyProof.Rows.boot_list
abbrev Yn:=@Nat.le_succ_of_le
abbrev Yo:=@List.reverse_cons
abbrev Yp:=@List.nodup_nil
abbrev Yq:=@Bool.beq_eq_decide_eq
abbrev Yr:=@PySem.wpAny_call_entry
abbrev Ys:=@PyProof.Rows.intsAre_of
abbrev Yt:=@True.intro
abbrev Yu:=@List.cons_append
abbrev Yv:=@PySem.Calls.evalArgs_plain
abbrev Yw:=@List.nodup_cons
abbrev Yx:=@Int.zero_lt_one
abbrev Yy:=@List.map_congr_left
abbrev Yz:=@List.filterMap_cons
abbrev Y3:=@PyProof.Rows.callWith_type1
abbrev Y4:=@Int.sub_emod
abbrev Y5:=@PySem.wpAny_Call_Name_kw
abbrev Y6:=@decide_eq_true_iff
abbrev Y7:=@PySem.SeqAt.EqAt.int_int
abbrev Y8:=@Nat.lt_of_le_of_lt
abbrev Y9:=@List.getD_eq_getElem?_getD
abbrev Ja:=@List.Perm.refl
abbrev Jb:=@Int.fmod_eq_emod_of_nonneg
abbrev Jc:=@PySem.wpAny_dictEntries
abbrev Jd:=@Sum.inr.inj
abbrev Je:=@List.nodup_append
abbrev Jf:=@PySem.Calls.spliced_nil
abbrev Jg:=@PySem.wpAny_comprehension_free
abbrev Jh:=@PySem.F.type_list_append
abbrev Ji:=@PySem.F.slot_list_append
abbrev Jj:=@PySem.F.args_tuple_add_2
abbrev Jk:=@PySem.Paired.length
abbrev Jl:=@List.all_cons
abbrev Jm:=@decide_eq_false_iff_not
abbrev Jn:=@PySem.F.plainAttrs_dict
abbrev Jo:=@PySem.F.entry_tuple_add
abbrev Jp:=@List.pairwise_singleton
abbrev Jq:=@List.ext_getElem
abbrev Jr:=@List.countP_cons_of_pos
abbrev Js:=@PySem.W.cellsFrom_some
abbrev Jt:=@PySem.F.slot_tuple_add
abbrev Ju:=@Nat.ne_of_gt
abbrev Jv:=@Int.le_ediv_iff_mul_le
abbrev Jw:=@PySem.Heap.get?_update_other
abbrev Jx:=@PySem.wpAny_execs_nil
abbrev Jy:=@PySem.SeqAt.EqAt.same
abbrev Jz:=@Option.map_some
abbrev J0:=@List.of_mem_zip
abbrev J1:=@List.mem_append
abbrev J2:=@Int.emod_nonneg
abbrev J3:=@Int.ediv_nonneg
abbrev J4:=@Bool.eq_iff_iff
abbrev J5:=@PySem.F.slot_dict_get
abbrev J6:=@PyProof.Rows.boot_min
abbrev J7:=@PyProof.Rows.boot_abs
abbrev J8:=@List.length_replicate
abbrev J9:=@List.getElem?_toArray
abbrev Ua:=@List.getElem?_eq_none
abbrev Ub:=@PySem.wpAny_tryCatch
abbrev Uc:=@PySem.boot_len
abbrev Ud:=@List.getElem?_of_mem
abbrev Ue:=@Int.mul_nonneg
abbrev Uf:=@PySem.F.args_list_append_2
abbrev Ug:=@PySem.F.args_dict_keyiterator_next_1
abbrev Uh:=@PySem.F.entry_list_append
abbrev Ui:=@PySem.wpAny_standAt
abbrev Uj:=@PySem.intBits_le_64
abbrev Uk:=@PySem.F.entry_dict_keyiterator_next
abbrev Ul:=@Int.emod_emod
abbrev Um:=@List.mem_cons_self
abbrev Uo:=@if_true
abbrev Up:=@if_false
abbrev Uq:=@PySem.list_append
abbrev Ur:=@Nat.sub_self
abbrev Us:=@Int.ne_of_gt
abbrev Ut:=@Int.le_of_lt
abbrev Uu:=@PyProof.Rows.slot_tuple_getitem
abbrev Uv:=@PySem.IsL.update
abbrev Uw:=@PySem.F.args_dict_setdefault_3
abbrev Ux:=@List.not_mem_nil
abbrev Uy:=@List.length_take
abbrev Uz:=@List.all_eq_true
abbrev U0:=@Int.ediv_le_ediv
end
namespace L2
open PySem PySem.Spec PyProof.Rows
noncomputable abbrev Key:=Sum Int Str
def ao1:Key->Value->Bool
 |.inl k,v=>Value.isInt k v
 |.inr x,v=>Value.isStrOf x v
def bX2 (w:World):Key->Int
 |.inl k=>hashInt k
 |.inr x=>hashStr w x
theorem i_5:∀ {k:Key}{v:Value},ao1 k v=true->(∃ i t,k=Sum.inl i/\v=Value.int i t)\/(∃ x t,k=Sum.inr x/\v=Value.str x t)
 |.inl i,v,h=>by
  obtain⟨t,e⟩:=Value.isInt_shape (k:=i) (v:=v) h;exact .inl ⟨i,t,rfl,e⟩
 |.inr x,v,h=>by
  obtain⟨t,e⟩:=Value.isStrOf_shape (x:=x) (v:=v) h;exact .inr ⟨x,t,rfl,e⟩
theorem ax0 (i:Int) (t:Tok):ao1 (.inl i) (.int i t)=true:=by simp[ao1,Value.isInt]
theorem aw9 (x:Str) (t:Tok):ao1 (.inr x) (.str x t)=true:=by simp[ao1,Value.isStrOf]
theorem bp2 (a b:Int):decide ((Sum.inl a:Key)=Sum.inl b)=(a==b):=by
 by_cases e:a=b
 ·subst e;simp
 ·have h:¬ (Sum.inl a:Key)=Sum.inl b:=λ q=>e (Sum.inl.inj q);rw[Qh h];exact (beq_eq_false_iff_ne.mpr e).symm
theorem bo9 (a b:Str):decide ((Sum.inr a:Key)=Sum.inr b)=decide (a=b):=by
 by_cases e:a=b
 ·subst e;simp
 ·have h:¬ (Sum.inr a:Key)=Sum.inr b:=λ q=>e (Jd q);rw[Qh h,Qh e]
theorem bp1 (a:Int) (b:Str):decide ((Sum.inl a:Key)=Sum.inr b)=false:=Qh (λ q=>nomatch q)
theorem bp0 (a:Str) (b:Int):decide ((Sum.inr a:Key)=Sum.inl b)=false:=Qh (λ q=>nomatch q)
def c_9 (prog:Program) (w:World):PySem.KeyKind prog w Key where
 is:=ao1
 hash:=bX2 w
 inj:=λ v a b ha M=>by
  rcases i_5 ha with ⟨i,t,rfl,rfl⟩ | ⟨x,t,rfl,rfl⟩
  ·rcases i_5 M with ⟨j,u,rfl,e⟩ | ⟨y,u,rfl,e⟩
   ·injection e with e1 _;rw[e1]
   ·exact nomatch e
  ·rcases i_5 M with ⟨j,u,rfl,e⟩ | ⟨y,u,rfl,e⟩
   ·exact nomatch e
   ·injection e with e1 _;rw[e1]
 byValue:=λ k v h=>by
  rcases i_5 h with ⟨i,t,rfl,rfl⟩ | ⟨x,t,rfl,rfl⟩ <;> rfl
 pyHash:=λ z h=>by
  rcases i_5 z with ⟨i,t,rfl,rfl⟩ | ⟨x,t,rfl,rfl⟩
  ·exact wpAny_pyHash_int h
  ·exact wpAny_pyHash_str h
 eqBool:=λ O z h=>by
  rcases i_5 O with ⟨i,t,rfl,rfl⟩ | ⟨x,t,rfl,rfl⟩
  ·rcases i_5 z with ⟨j,u,rfl,rfl⟩ | ⟨y,u,rfl,rfl⟩
   ·rw[bp2] at h;exact wpAny_eqBool_int h
   ·rw[bp1] at h;exact SeqAt.EqAt.int_str i t y u _ _ _ _ h
  ·rcases i_5 z with ⟨j,u,rfl,rfl⟩ | ⟨y,u,rfl,rfl⟩
   ·rw[bp0] at h;exact SeqAt.EqAt.str_int x t j u _ _ _ _ h
   ·rw[bo9] at h;exact wpAny_eqBool_str h
 «strs»:=λ k x t v h=>by
  rcases i_5 h with ⟨i,u,rfl,e⟩ | ⟨y,u,rfl,e⟩
  ·exact nomatch e
  ·injection e with e1 _
   subst e1;cases v <;> rfl
theorem ae2 (prog:Program) (w:World) (i:Int) (t:Tok):(c_9 prog w).is (.inl i) (.int i t)=true:=ax0 i t
theorem A_9 (prog:Program) (w:World) (x:Str) (t:Tok):(c_9 prog w).is (.inr x) (.str x t)=true:=aw9 x t
inductive V where
 |non | bl (b:Bool) | int (i:Int) | str (x:Str) | byt (b:Array UInt8) | flt (b:UInt64) | ref (a:Addr) | ty (n:String)
 deriving DecidableEq
noncomputable def RelV:V->Value->Prop
 |.non,u=>u=Value.none
 |.bl b,u=>u=Value.bool b
 |.int i,u=>∃ t,u=Value.int i t
 |.str x,u=>∃ t,u=Value.str x t
 |.byt b,u=>∃ t,u=Value.bytes b t
 |.flt b,u=>∃ t,u=Value.float b t
 |.ref a,u=>u=Value.ref a
 |.ty n,u=>u=Value.type n
abbrev Vals:List V->List Value->Prop:=Paired RelV
theorem Vals.length {xs:List V}{us:List Value} (r:Vals xs us):xs.length=us.length:=Jk r
theorem Vals.get:∀ {xs:List V}{us:List Value}{i:Nat}{x:V},Vals xs us->xs[i]?=some x->∃ u,us[i]?=some u/\RelV x u
 |_,_,_,_,.nil,e=>by simp at e
 |_,_,0,_,.cons r _,e=>by simp at e;subst e;exact⟨_,rfl,r⟩
 |_,_,i+1,x,.cons _ t,e=>by
  obtain⟨u,h1,h2⟩:=Vals.get (i:=i) (x:=x) t (by simpa using e);exact⟨u,by simpa using h1,h2⟩
theorem Vals.set {x:V}{u:Value} (r:RelV x u):∀ {xs:List V}{us:List Value} (i:Nat),Vals xs us->Vals (xs.set i x) (us.set i u)
 |_,_,_,.nil=>.nil
 |_,_,0,.cons _ t=>.cons r t
 |_,_,i+1,.cons q t=>.cons q (Vals.set r i t)
theorem Vals.append:∀ {xs ys:List V}{us z:List Value},Vals xs us->Vals ys z->Vals (xs++ys) (us++z)
 |_,_,_,_,.nil,s=>s
 |_,_,_,_,.cons r t,s=>.cons r (Vals.append t s)
theorem Vals.take:∀ {xs:List V}{us:List Value} (n:Nat),Vals xs us->Vals (xs.take n) (us.take n)
 |_,_,0,_=>.nil
 |_,_,_+1,.nil=>.nil
 |_,_,n+1,.cons r t=>.cons r (Vals.take n t)
theorem Vals.drop:∀ {xs:List V}{us:List Value} (n:Nat),Vals xs us->Vals (xs.drop n) (us.drop n)
 |_,_,0,r=>r
 |_,_,_+1,.nil=>.nil
 |_,_,n+1,.cons _ t=>Vals.drop n t
theorem Vals.none_of:∀ {xs:List V}{us:List Value}{i:Nat},Vals xs us->xs[i]?=none->us[i]?=none:=λ {xs us i} r e=>by
 have h1:=r.length;have h2:xs.length<=i:=List.getElem?_eq_none_iff.mp e;exact List.getElem?_eq_none_iff.mpr (by omega)
def RelO:Option V->Option Value->Prop
 |some v,some u=>RelV v u
 |none,none=>True
 |_,_=>False
def KV {κ:Type}:List (κ×V)->List (κ×Value)->Prop:=Paired λ (p:κ×V) (q:κ×Value)=>p.1=q.1/\RelV p.2 q.2
def kV:Key->V
 |.inl i=>.int i
 |.inr x=>.str x
inductive HO where
 |lst (xs:List V)
 |tup (xs:List V)
 |dK (kvs:List (Key×V)) | dT (kvs:List (List Key×V))
 |set (S:Int->Bool) (n:Nat)
 |ins (C dx:Addr) (fs:List (Str×V))
 |own (x:Addr)
 |xd (fs:List (Str×V))
 |met (f x:Addr)
 |rng (lo hi:Int)
 |frz (o:Obj) (u:HO)
 |tbl (q:Str)
 |cod (q:Str)
 |ext (φ:Program->World->Heap->Prop)
noncomputable abbrev Hp:=Addr->Option HO
noncomputable def TabP:Addr:=116
noncomputable def D_0:Str:="nearest.<locals>.<lambda>"
def upd (H:Hp) (a:Addr) (o:HO):Hp:=λ b=>if b=a then some o else H b
theorem a_8 {H:Hp}{a:Addr}{o:HO}:upd H a o a=some o:=by unfold upd;rw[if_pos rfl]
theorem a_4 {H:Hp}{a b:Addr}{o:HO} (h:b≠a):upd H a o b=H b:=by unfold upd;rw[if_neg h]
theorem bW6 {H:Hp}{a b:Addr}{o u:HO} (h:H a=some o) (h':H b=some u) (d:o≠u):a≠b:=by intro e;subst e;rw[h] at h';exact d (qi h')
theorem b_1 {H:Hp}{a b:Addr}{o:HO} (h:H a=some o) (h':H b=none):a≠b:=by intro e;subst e;rw[h] at h';cases h'
def IsTuN (h:Heap) (a:Addr) (items:Array Value):Prop:=∃ o,h.get? a=some o ∧ o.cls=.type "tuple" ∧ (∃ n,o.data=.seq items n) ∧ o.dict=none
theorem IsTuN.tup {h:Heap}{a:Addr}{items:Array Value} (x:IsTuN h a items):IsTup h a items:=let ⟨o,p,q,⟨n,r⟩,_⟩:=x;⟨o,p,q,n,r⟩
theorem IsTuN.new (h:Heap) (items:Array Value):IsTuN (h.push {cls:=.type "tuple",data:=.seq items}) h.objs.size items:=⟨_,qk _ rfl,rfl,⟨0,rfl⟩,rfl⟩
section
variable (P:Program) (w:World)
def ObjOk (H:Hp) (h:Heap) (a:Addr):HO->Prop
 |.lst xs=>xs.length ≤ sizeLine ∧ ∃ (z:List Value) (n:Nat),Vals xs z ∧ h.get? a=some {cls:=.type "list",data:=.seq z.toArray n}
 |.tup xs=>xs.length<=sizeLine/\∃ z:List Value,Vals xs z/\IsTuN h a z.toArray
 |.dK M=>M.length<=sizeLine/\(a==sysModules)=false/\∃ vs,KV M vs/\h.DictOf (c_9 P w) a vs
 |.dT M=>M.length<=sizeLine/\(a==sysModules)=false/\∃ xs:List (List Key×Addr×Value),
   Paired (λ (p:List Key×V) (q:List Key×Addr×Value)=>p.1=q.1/\H q.2.1=some (.tup (p.1.map kV))/\RelV p.2 q.2.2) M xs /\
   ∃ o es ep,h.get? a=some o/\o.ExactDict/\o.data=.dict es ep/\es.toList=xs.map (entryOfKey (tupleKind (c_9 P w)))/\(xs.map (·.1)).Nodup
 |.set S n=>h.SetOf (intKind P w) a S n
 |.ins C Y fs=>H Y=some (.own a)/\fs.length<=1000/\Y≠a/\h.get? a=some (PySem.W.instObj C Y) /\
   ∃ O,h.Ns1 Y O/\(∀ f,RelO (fs.lookup f) (O f))/\PySem.Within O (fs.map (·.1))
 |.own _=>∃ o,h.get? a=some o
 |.xd fs=>∃ O,h.Ns1 a O/\∀ f,RelO (fs.lookup f) (O f)
 |.rng lo hi=>∃ t u v,h.get? a=some {cls:=.type "range",data:=.fields #[.int lo t,.int hi u,.int 1 v]}
 |.frz o u=>h.get? a=some o/\ObjOk H h a u
 |.tbl q=>∃ ps,h.get? a=some (PySem.W.tabObj ps)/\TriplesOk ps.toList/\∀ pos,codeAmong pos ps.toList=none\/∃ c',codeAmong pos ps.toList=some (.ref c')/\H c'=some (.cod q)
 |.cod q=>h.CodeRec (.ref a) q
 |.met f x=>h.get? a=some (PySem.W.methodObj (.ref f) (.ref x))
 |.ext Z=>Z P w h/\(∃ o,h.get? a=some o)/\∀ h1 h2:Heap,Z P w h1->(∀ o,h1.get? a=some o->h2.get? a=some o)->Z P w h2
def HOk (H:Hp) (h:Heap):Prop:=∀ a o,H a=some o->ObjOk P w H h a o
end
section
variable {P:Program}{w:World}{H H':Hp}{h h':Heap}{a:Addr}{o:HO}
theorem ObjOk.lt (x:ObjOk P w H h a o):a<h.objs.size:=by
 cases o with
 |lst xs=>obtain⟨_,_,_,_,e⟩:=x;exact qm e
 |tup xs=>obtain⟨_,_,_,p⟩:=x;exact p.tup.lt
 |dK z=>obtain⟨_,_,_,_,o,_,_,e,_⟩:=x;exact qm e
 |dT z=>obtain⟨_,_,_,_,o,_,_,e,_⟩:=x;exact qm e
 |set S n=>obtain⟨o,_,_,_,e,_⟩:=x;exact qm e
 |ins C O fs=>obtain⟨_,_,_,e,_⟩:=x;exact qm e
 |own y=>obtain⟨_,e⟩:=x;exact qm e
 |xd fs=>obtain⟨_,⟨_,_,_,e,_⟩,_⟩:=x;exact qm e
 |rng lo hi=>obtain⟨_,_,_,e⟩:=x;exact qm e
 |frz M u=>obtain⟨e,_⟩:=x;exact qm e
 |tbl q=>obtain⟨_,e,_⟩:=x;exact qm e
 |cod q=>obtain⟨_,_,_,_,e,e2,_⟩:=x;cases e;exact qm e2
 |met f y=>exact qm (show h.get? a=some _ from x)
 |ext Y=>obtain⟨_,⟨_,e⟩,_⟩:=x;exact qm e
theorem Paired.mapP {α O:Type}{F G:α->O->Prop}:∀ {M:List α}{z:List O},Paired F M z->(∀ a b,F a b->G a b)->Paired G M z
 |_,_,.nil,_=>.nil
 |_,_,.cons r t,f=>.cons (f _ _ r) (Paired.mapP t f)
theorem ObjOk.stay (x:ObjOk P w H h a o) (k:∀ b u,(b=a\/H b=some (.own a))->h.get? b=some u->h'.get? b=some u)
  (ho:∀ b,H b=some (.own a)->H' b=some (.own a)) (ht:∀ b xs,H b=some (.tup xs)->H' b=some (.tup xs)) (hc:∀ b q,H b=some (.cod q)->H' b=some (.cod q)):ObjOk P w H' h' a o:=by
 induction o with
 |lst xs=>obtain⟨z,O,n,r,e⟩:=x;exact⟨z,O,n,r,k _ _ (.inl rfl) e⟩
 |tup xs=>obtain⟨z,O,r,M,e,c⟩:=x;exact⟨z,O,r,M,k _ _ (.inl rfl) e,c⟩
 |dK Z=>obtain⟨z,y,vs,r,M,es,ep,e,c⟩:=x;exact⟨z,y,vs,r,M,es,ep,k _ _ (.inl rfl) e,c⟩
 |dT Z =>
  obtain⟨z,y,xs,r,M,es,ep,e,c⟩:=x;exact⟨z,y,xs,Paired.mapP r λ p q z=>⟨z.1,ht _ _ z.2.1,z.2.2⟩,M,es,ep,k _ _ (.inl rfl) e,c⟩
 |set S n=>obtain⟨M,es,ep,t,e,c⟩:=x;exact⟨M,es,ep,t,k _ _ (.inl rfl) e,c⟩
 |ins C dx fs =>
  obtain⟨d,z,ne,e,Y,⟨od,es,ep,e2,c⟩,r⟩:=x;exact⟨ho _ d,z,ne,k _ _ (.inl rfl) e,Y,⟨od,es,ep,k _ _ (.inr d) e2,c⟩,r⟩
 |own y=>obtain⟨M,e⟩:=x;exact⟨M,k _ _ (.inl rfl) e⟩
 |xd fs=>obtain⟨Y,⟨od,es,ep,e,c⟩,r⟩:=x;exact⟨Y,⟨od,es,ep,k _ _ (.inl rfl) e,c⟩,r⟩
 |rng lo hi=>obtain⟨t,u,v,e⟩:=x;exact⟨t,u,v,k _ _ (.inl rfl) e⟩
 |frz M u ih=>obtain⟨e,q⟩:=x;exact⟨k _ _ (.inl rfl) e,ih q⟩
 |tbl q =>
  obtain⟨ps,e,tr,al⟩:=x;refine⟨ps,k _ _ (.inl rfl) e,tr,λ pos=>?_⟩;rcases al pos with z | ⟨c',z,y⟩
  ·exact .inl z
  ·exact .inr ⟨c',z,hc _ _ y⟩
 |cod q=>obtain⟨c,oc,vs,t,e,e2,r⟩:=x;cases e;exact⟨_,oc,vs,t,rfl,k _ _ (.inl rfl) e2,r⟩
 |met f y =>
  have e:h.get? a=some (PySem.W.methodObj (.ref f) (.ref y)):=x;show h'.get? a=some (PySem.W.methodObj (.ref f) (.ref y));exact k a _ (.inl rfl) e
 |ext φ=>obtain⟨p,⟨o,e⟩,st⟩:=x;exact⟨st _ _ p λ o q=>k _ _ (.inl rfl) q,⟨o,k _ _ (.inl rfl) e⟩,st⟩
theorem HOk.lt (x:HOk P w H h) (e:H a=some o):a<h.objs.size:=(x a o e).lt
theorem HOk.fresh (x:HOk P w H h) (e:h.objs.size<=a):H a=none:=by
 cases q:H a with
 |none=>rfl
 |some u=>exact absurd (qr (x.lt q) e) (Zf _)
theorem HOk.kept (x:HOk P w H h) (k:∀ b u,h.get? b=some u->h'.get? b=some u):HOk P w H h':=λ a o e =>
 (x a o e).stay (λ b u _ q=>k b u q) (λ _ q=>q) (λ _ _ q=>q) λ _ _ q=>q
theorem HOk.laid (x:HOk P w H h) (k:∀ b u,h.get? b=some u->h'.get? b=some u) (hp:h.objs.size<=a) (new:ObjOk P w (upd H a o) h' a o):HOk P w (upd H a o) h':=λ b u e=>by
 have z:=x.fresh hp;by_cases M:b=a
 ·subst M;rw[a_8] at e;cases e;exact new
 ·rw[a_4 M] at e;exact (x b u e).stay (λ c v _ q=>k c v q) (λ c q=>by rw[a_4 (b_1 q z)];exact q) (λ c xs q=>by rw[a_4 (b_1 q z)];exact q) λ c xs q=>by rw[a_4 (b_1 q z)];exact q
end
def Rd (H:Hp) (a:Addr) (u:HO):Prop:=H a=some u\/∃ o,H a=some (.frz o u)
theorem Rd.of {H:Hp}{a:Addr}{u:HO} (h:H a=some u):Rd H a u:=.inl h
theorem Rd.ok {P:Program}{w:World}{H:Hp}{h:Heap}{a:Addr}{u:HO} (r:Rd H a u) (x:HOk P w H h):ObjOk P w H h a u:=by
 rcases r with r | ⟨o,r⟩
 ·exact x a u r
 ·obtain⟨_,q⟩:=x a _ r;exact q
noncomputable def Mut:Option HO->Prop
 |some (.lst _)=>True
 |some (.dK _)=>True
 |some (.dT _)=>True
 |some (.set _ _)=>True
 |some (.ins _ _ _)=>True
 |some (.ext _)=>True
 |_=>False
section
variable {P:Program}{w:World}{H:Hp}{h h':Heap}{x e:Addr}{o':HO}
theorem HOk.write (ok:HOk P w H h) (Y:Mut (H x)) (he:e=x\/H e=some (.own x)) (k:∀ b u,b≠e->h.get? b=some u->h'.get? b=some u) (ab:∃ u,h'.get? e=some u)
  (new:ObjOk P w (upd H x o') h' x o'):HOk P w (upd H x o') h':=λ b u q=>by
 have O:∀ c y,H c=some (.own y)->c≠x:=λ c y r z=>by subst z;rw[r] at Y;exact Y
 have aa:∀ c xs,H c=some (.tup xs)->c≠x:=λ c xs r z=>by subst z;rw[r] at Y;exact Y
 have Z:∀ c xs,H c=some (.cod xs)->c≠x:=λ c xs r z=>by subst z;rw[r] at Y;exact Y
 by_cases hb:b=x
 ·subst hb;rw[a_8] at q;cases q;exact new
 ·rw[a_4 hb] at q;by_cases M:b=e
  ·have q':H b=some (.own x):=by
    rcases he with z | z
    ·exact absurd (M.trans z) hb
    ·rw[M];exact z
   rw[q] at q';cases q';obtain⟨v,hv⟩:=ab;exact⟨v,by rw[M];exact hv⟩
  ·refine (ok b u q).stay (λ c v hc r=>k c v ?_ r) (λ c r=>by rw[a_4 (O c b r)];exact r) (λ c xs r=>by rw[a_4 (aa c xs r)];exact r) λ c xs r=>by rw[a_4 (Z c xs r)];exact r
   rcases hc with rfl | hc
   ·exact M
   ·rintro rfl;rcases he with z | z
    ·exact O c b hc z
    ·rw[hc] at z;cases z;exact hb rfl
end
structure Un (fs ex:List Addr) (H H':Hp) (h h':Heap):Prop where
 keep:∀ b o,h.get? b=some o->H b=none->b∉fs->b∉ex->h'.get? b=some o
 slot:∀ b o,h.get? b=some o->H b=none->b∈fs->b∉ex->∃ sl,h'.get? b=some {o with slots:=sl}
 free:∀ b o,h.get? b=some o->H b=none->b∉ex->H' b=none
 there:∀ b o,h.get? b=some o->b∉ex->∃ o',h'.get? b=some o'
 tups:∀ b xs,H b=some (.tup xs)->H' b=some (.tup xs)
 frzs:∀ b o u,H b=some (.frz o u)->H' b=some (.frz o u)
 tbls:∀ b q,H b=some (.tbl q)->H' b=some (.tbl q)
section
variable {fs fs' ex ex':List Addr}{H H1 H2:Hp}{h h1 h2 h':Heap}{a x e:Addr}{o:HO}
theorem Un.any (u:Un fs ex H H1 h h1) {b:Addr}{z:Obj} (q:h.get? b=some z) (n:H b=none) (M:b∉ex):∃ Y,h1.get? b=some {z with slots:=Y}:=by
 by_cases O:b∈fs
 ·exact u.slot b z q n O M
 ·exact⟨z.slots,u.keep b z q n O M⟩
theorem Un.kept (k:∀ b u,h.get? b=some u->h'.get? b=some u):Un fs ex H H h h' :=
 ⟨λ b z q _ _ _=>k b z q,λ b z q _ _ _=>⟨z.slots,k b z q⟩,λ _ _ _ n _=>n,λ b z q _=>⟨z,k b z q⟩,λ _ _ q=>q,λ _ _ _ q=>q,λ _ _ q=>q⟩
theorem Un.refl:Un fs ex H H h h:=Un.kept λ _ _ q=>q
theorem Un.laid (k:∀ b u,h.get? b=some u->h'.get? b=some u) (hp:h.objs.size<=a) (z:H a=none):Un fs ex H (upd H a o) h h' where
 keep:=λ b u q _ _ _=>k b u q
 slot:=λ b u q _ _ _=>⟨u.slots,k b u q⟩
 free:=λ b u q n _=>by rw[a_4 (Nat.ne_of_lt (Nat.lt_of_lt_of_le (Heap.lt_size q) hp))];exact n
 there:=λ b u q _=>⟨u,k b u q⟩
 tups:=λ b xs q=>by rw[a_4 (b_1 q z)];exact q
 frzs:=λ b u xs q=>by rw[a_4 (b_1 q z)];exact q
 tbls:=λ b xs q=>by rw[a_4 (b_1 q z)];exact q
theorem Un.write (O:Mut (H x)) (he:e=x\/H e=some (.own x)) (k:∀ b u,b≠e->h.get? b=some u->h'.get? b=some u) (Y:∃ u,h'.get? e=some u):Un fs ex H (upd H x o) h h':=by
 have hx:∀ b,H b=none->b≠x:=λ b n z=>by subst z;rw[n] at O;exact O
 have hb:∀ b,H b=none->b≠e:=λ b n z=>by
  subst z;rcases he with r | r
  ·exact hx b n r
  ·rw[n] at r;cases r
 have Z:∀ b u,H b=some u->¬ Mut (some u)->b≠x:=λ b u q nm z=>by subst z;rw[q] at O;exact nm O
 refine⟨λ b u q n _ _=>k b u (hb b n) q,λ b u q n _ _=>⟨u.slots,k b u (hb b n) q⟩,λ b u q n _=>by rw[a_4 (hx b n)];exact n,λ b u q _=>?_,
  λ b xs q=>by rw[a_4 (Z b _ q λ z=>z)];exact q,λ b u xs q=>by rw[a_4 (Z b _ q λ z=>z)];exact q,λ b xs q=>by rw[a_4 (Z b _ q λ z=>z)];exact q⟩
 by_cases M:b=e
 ·subst M;exact Y
 ·exact⟨u,k b u M q⟩
theorem Un.mono (u:Un fs ex H H1 h h1) (hs:∀ b∈fs,b∈fs') (Y:∀ b∈ex,b∈ex'):Un fs' ex' H H1 h h1 :=
 ⟨λ b O q n Z M=>u.keep b O q n (λ z=>Z (hs b z)) λ z=>M (Y b z),λ _ _ q n _ M=>u.any q n λ z=>M (Y _ z),λ b O q n M=>u.free b O q n λ z=>M (Y b z),λ b O q M=>u.there b O q λ z=>M (Y b z),u.tups,u.frzs,u.tbls⟩
end
def trk (h:Heap) (H:Hp):List Addr:=(List.range h.objs.size).filter λ a=>(H a).isSome
def aH9 (h:Heap) (H:Hp):Heap:=PySem.W.hideAll h (trk h H)
theorem ax5 (h:Heap) (H:Hp):(aH9 h H).objs.size=h.objs.size:=PySem.W.hideAll_size _ _
theorem aH8 {h:Heap}{H:Hp}{b:Addr}{o:Obj} (e:h.get? b=some o) (n:H b=none):(aH9 h H).get? b=some o :=
 PySem.W.hideAll_get _ e λ z=>by
  have q:(H b).isSome=true:=(List.mem_filter.mp z).2;rw[n] at q;simp at q
theorem aV6 {h:Heap}{H:Hp}{b:Addr}{o:Obj} (e:(aH9 h H).get? b=some o):h.get? b=some o/\H b=none:=by
 have e':h.get? b=some o:=PySem.W.of_hideAll (trk h H) e;refine⟨e',?_⟩;cases q:H b with
 |none=>rfl
 |some x =>
  have M:b∈trk h H:=List.mem_filter.mpr ⟨List.mem_range.mpr (qm e'),by simp[q]⟩;have z:(aH9 h H).get? b=none:=PySem.W.hideAll_none (trk h H) M;rw[z] at e;cases e
noncomputable def bd7 (g h:Heap) (L:Addr):List (Addr×Obj):=(List.range h.objs.size).filterMap λ a=>if a=L\/(g.get? a).isSome=true then none else (h.get? a).map λ o=>(a,o)
def rest (g h:Heap) (L d:Addr):List (Addr×Obj):=(bd7 g h L).filter λ p=>decide (p.1≠d)
structure Mod (K:Frag) (mg:Str->Option Value) (base:Heap):Prop where
 kin:K.In base
 glob:base.Ns mainGlobals mg
 blt:∃ mb,base.Ns builtinsNs mb ∧ ∀ x:Str,x≠"__name__" → mb x=bootBuiltins x
 nolimit:base.NoLimit
 bm:∃ bm ob,mg "__builtins__"=some (.ref bm) ∧ bm≠builtinsNs ∧ base.get? bm=some ob ∧ ob.cls=.type "module" ∧ ob.dict=some builtinsNs ∧ ob.data=.plain
structure Cx where
 prog:Program
 w:World
 K:Frag
 mg:Str->Option Value
 base:Heap
 A:Around
 N:List Str
 s₀:Shared
 H₀:Hp
 env:Env
 outer:List Env
 stack:List Env
 ex:List Addr
 fn:Str->Bool
 calm:Bool
 pn:List (Addr×Obj)
 xe:Value->Shared->Prop
noncomputable def frs (l:List Env):List Addr:=l.filterMap (·.frame)
abbrev Cx.fs (X:Cx):List Addr:=frs X.outer
def Vis (sc:Scope) (x:Str):Prop:=sc.names.lookup x=some .local\/sc.names.lookup x=some .cell\/sc.names.lookup x=some .free
def Loc (sc:Scope) (x:Str):Prop:=sc.names.lookup x=some .local\/sc.names.lookup x=some .cell
def cb7 (env:Env) (h:Heap) (m:Str->Option Value) (x:Str) (u:Value):Prop :=
 (env.kindOf x=some .local/\m x=some u)\/((env.kindOf x=some .cell\/env.kindOf x=some .free)/\∃ c,env.cells.lookup x=some c/\h.IsCell c (some u))
structure Cx.Ok (X:Cx):Prop where
 mod:Mod X.K X.mg X.base
 kind:X.env.scope.kind=.function
 glob:X.env.globals=mainGlobals
 blt:X.env.builtins=builtinsNs
 above:X.s₀.heap.objs.size<=X.env.locals
 inj:∀ x y c,X.env.cells.lookup x=some c->X.env.cells.lookup y=some c->x=y
 has:∀ x,(X.env.kindOf x=some .cell\/X.env.kindOf x=some .free)->∃ c,X.env.cells.lookup x=some c
 cab:∀ x c,X.fn x=true->X.env.cells.lookup x=some c->X.s₀.heap.objs.size<=c
 hd:X.calm=true->X.A.handled=none
 frames:X.A.frames=some X.stack
 stk:X.stack=X.outer\/(X.stack=X.env::X.outer/\X.env.frame=some X.env.locals)
 exf:∀ b∈X.ex,b≠X.env.locals/\∀ x c,X.env.cells.lookup x=some c->c≠b
 bs:∀ b o,X.base.get? b=some o->X.s₀.heap.get? b=some o/\X.H₀ b=none
 bsz:X.base.objs.size<=X.s₀.heap.objs.size
 noex:∀ b o,X.base.get? b=some o->b∉X.ex
 exfs:∀ b∈X.ex,b∉X.fs
 funs:X.s₀.heap.FunFrames X.base X.outer
 frf:∀ b∈X.fs,X.H₀ b=none
 tab:X.H₀ TabP=some (.tbl D_0)
structure Inv (X:Cx) (pins:List (Addr×Obj)) (σ:List (Option V)) (H:Hp) (s:Shared):Prop where
 ok:X.Ok
 os:s.os=X.s₀.os
 bare:AllBare s.gens
 base:Un X.fs X.ex X.H₀ H X.s₀.heap s.heap
 loc:∃ m,s.heap.Ns X.env.locals m/\∀ (i:Nat) (x:Str) (v:V),X.N[i]?=some x->σ[i]?=some (some v)->Vis X.env.scope x->∃ u,RelV v u/\cb7 X.env s.heap m x u
 cell:∀ x c,X.env.cells.lookup x=some c->∃ v,s.heap.IsCell c v
 free:H X.env.locals=none
 freeC:∀ x c,X.env.cells.lookup x=some c->H c=none
 pin:∀ p∈X.pn++pins,s.heap.get? p.1=some p.2/\H p.1=none/\p.1≠X.env.locals/\p.1∉X.fs/\∀ v,p.2.data≠.cell v
 hok:HOk X.prog X.w H s.heap
 len:σ.length=X.N.length
section
variable {X:Cx}{pins:List (Addr×Obj)}{σ:List (Option V)}{H H':Hp}{s:Shared}{h':Heap}
theorem Cx.Ok.nofr (ok:X.Ok) {b:Addr}{o:Obj} (e:X.base.get? b=some o):b∉X.fs:=λ z=>by
 have:=(ok.funs.mem z).1;rw[e] at this;cases this
theorem Inv.bs (I:Inv X pins σ H s):∀ b o,X.base.get? b=some o->s.heap.get? b=some o/\H b=none:=λ b o e =>
 ⟨I.base.keep b o (I.ok.bs b o e).1 (I.ok.bs b o e).2 (I.ok.nofr e) (I.ok.noex b o e),I.base.free b o (I.ok.bs b o e).1 (I.ok.bs b o e).2 (I.ok.noex b o e)⟩
theorem Inv.bk (I:Inv X pins σ H s):∀ b o,X.base.get? b=some o->s.heap.get? b=some o:=λ b o e=>(I.bs b o e).1
theorem Inv.mod (I:Inv X pins σ H s):Mod X.K X.mg X.base:=I.ok.mod
theorem Inv.kIn (I:Inv X pins σ H s):X.K.In s.heap:=I.ok.mod.kin.keeps I.bk
theorem Inv.nolimit (I:Inv X pins σ H s):s.heap.NoLimit:=I.ok.mod.nolimit.keeps I.bk
theorem Inv.fr (I:Inv X pins σ H s):∃ m,Fr X.base X.env.locals s.heap m :=
 let ⟨m,hn,_⟩:=I.loc
 ⟨m,hn,I.bk,Qq I.ok.bsz I.ok.above⟩
theorem Inv.lt (I:Inv X pins σ H s):X.env.locals<s.heap.objs.size:=let ⟨_,hn,_⟩:=I.loc;hn.lt
theorem Inv.sz (I:Inv X pins σ H s):X.s₀.heap.objs.size<=s.heap.objs.size:=Qq I.ok.above (Zi I.lt)
theorem Inv.nofs (I:Inv X pins σ H s) {a:Addr} (h:s.heap.objs.size<=a):a∉X.fs:=λ z=>by
 obtain⟨_,o,M,_⟩:=I.ok.funs.mem z;exact absurd (qr (qm M) (Qq I.sz h)) (Zf _)
theorem Inv.cne (I:Inv X pins σ H s):∀ x c,X.env.cells.lookup x=some c->c≠X.env.locals:=λ x c e z=>by
 obtain⟨v,o,Z,Y⟩:=I.cell x c e;obtain⟨m,⟨o',es,ep,M,O,_⟩,_⟩:=I.loc;rw[z,M] at Z;cases Z;rw[O] at Y;cases Y
theorem Inv.funs (I:Inv X pins σ H s):s.heap.FunFrames X.base X.outer:=by
 have all:∀ (l:List Env),(∀ b∈frs l,b∈X.fs)->X.s₀.heap.FunFrames X.base l->s.heap.FunFrames X.base l:=by
  intro l;induction l with
  |nil=>intro _ _;trivial
  |cons env r ih =>
   intro hs Y;obtain⟨hk,⟨L,o,hf,Z,ho,hd⟩,hr⟩:=Y;have M:L∈X.fs:=hs L (by unfold frs;rw[Yz,hf];exact qg);obtain⟨sl,e⟩:=I.base.slot L o ho (I.ok.frf L M) M λ z=>I.ok.exfs L z M;exact⟨hk,⟨L,_,hf,Z,e,hd⟩,ih (λ b O=>hs b (by unfold frs;rw[Yz,hf];exact qh _ O)) hr⟩
 exact all X.outer (λ _ O=>O) I.ok.funs
theorem Inv.stack (I:Inv X pins σ H s):s.heap.FunFrames X.base X.stack:=by
 rcases I.ok.stk with e | ⟨e,hf⟩
 ·rw[e];exact I.funs
 ·rw[e];obtain⟨m,z,_⟩:=I.loc;refine .cons (by rw[I.ok.kind];decide) hf z ?_ I.funs;exact Heap.get?_none_of_le (Qq I.ok.bsz I.ok.above)
theorem Inv.stkSub (I:Inv X pins σ H s):∀ b∈frs X.stack,b∈X.env.locals::X.fs:=λ b z=>by
 rcases I.ok.stk with e | ⟨e,hf⟩
 ·rw[e] at z;exact qh _ z
 ·rw[e] at z;unfold frs at z;rw[Yz,hf] at z;exact z
theorem Inv.stkFree (I:Inv X pins σ H s):∀ b∈frs X.stack,H b=none:=λ b M=>by
 rcases qw (I.stkSub b M) with e | M
 ·rw[e];exact I.free
 ·obtain⟨_,o,O,_⟩:=I.ok.funs.mem M;exact I.base.free b o O (I.ok.frf b M) λ z=>I.ok.exfs b z M
theorem Inv.step {g':Array GenState}{t':Nat}{d':Drawn}{ch:List Addr} (I:Inv X pins σ H s)
  (Y:∀ b∈ch,(b∈X.ex\/X.s₀.heap.objs.size<=b)/\b≠X.env.locals/\(∀ x c,X.env.cells.lookup x=some c->c≠b)/\∀ p∈X.pn++pins,p.1≠b)
  (keep:∀ b o,b≠X.env.locals->b∉X.fs->b∉ch->s.heap.get? b=some o->H b=none->h'.get? b=some o)
  (slot:∀ b o,b≠X.env.locals->b∈X.fs->b∉ch->s.heap.get? b=some o->H b=none->∃ sl,h'.get? b=some {o with slots:=sl}) (free:∀ b o,b∉ch->s.heap.get? b=some o->H b=none->H' b=none)
  (there:∀ b o,b∉ch->s.heap.get? b=some o->∃ o',h'.get? b=some o')
  (tups:∀ b xs,H b=some (.tup xs)->H' b=some (.tup xs)) (frzs:∀ b o u,H b=some (.frz o u)->H' b=some (.frz o u)) (tbls:∀ b q,H b=some (.tbl q)->H' b=some (.tbl q))
  (ns:∀ m,s.heap.Ns X.env.locals m->h'.Ns X.env.locals m) (ae:HOk X.prog X.w H' h') (hg:AllBare g') :
  Inv X pins σ H' {s with heap:=h',gens:=g',drawn:=d',toks:=t'}:=by
 have ab:∀ b o,X.s₀.heap.get? b=some o->b≠X.env.locals:=λ b o e=>qt (qr (qm e) I.ok.above);have aa:∀ b o,X.s₀.heap.get? b=some o->b∉X.ex->b∉ch:=λ b o e M hb=>by
  rcases (Y b hb).1 with z | z
  ·exact M z
  ·exact absurd (qr (qm e) z) (Zf _)
 have Z:∀ x c,X.env.cells.lookup x=some c->∀ v,s.heap.IsCell c v->h'.IsCell c v:=λ x c e v ac=>by
  obtain⟨o,ho,hd⟩:=ac;have O:c∉ch:=λ z=>(Y c z).2.2.1 x c e rfl;by_cases hc:c∈X.fs
  ·obtain⟨sl,q⟩:=slot c o (I.cne x c e) hc O ho (I.freeC x c e);exact⟨_,q,hd⟩
  ·exact⟨o,keep c o (I.cne x c e) hc O ho (I.freeC x c e),hd⟩
 refine⟨I.ok,I.os,hg,⟨λ b o e n hb M=>?_,λ b o e n hb M=>?_,λ b o e n M=>?_,λ b o e M=>?_,λ b xs e=>tups b xs (I.base.tups b xs e),λ b o xs e=>frzs b o xs (I.base.frzs b o xs e),λ b xs e=>tbls b xs (I.base.tbls b xs e)⟩,?_,λ x c e=>?_,?_,λ x c e=>?_,λ p hp=>?_,ae,I.len⟩
 ·exact keep b o (ab b o e) hb (aa b o e M) (I.base.keep b o e n hb M) (I.base.free b o e n M)
 ·obtain⟨sl,e1⟩:=I.base.slot b o e n hb M;obtain⟨ad,e2⟩:=slot b _ (ab b o e) hb (aa b o e M) e1 (I.base.free b o e n M);exact⟨ad,e2⟩
 ·obtain⟨o',e1⟩:=I.base.there b o e M;exact free b o' (aa b o e M) e1 (I.base.free b o e n M)
 ·obtain⟨o',e1⟩:=I.base.there b o e M;exact there b o' (aa b o e M) e1
 ·obtain⟨m,hn,hl⟩:=I.loc;refine⟨m,ns m hn,λ i x v e1 e2 e3=>?_⟩;obtain⟨u,r,l⟩:=hl i x v e1 e2 e3;refine⟨u,r,?_⟩;rcases l with l | ⟨k,c,e,z⟩
  ·exact .inl l
  ·exact .inr ⟨k,c,e,Z x c e _ z⟩
 ·obtain⟨v,z⟩:=I.cell x c e;exact⟨v,Z x c e v z⟩
 ·obtain⟨m,⟨o,_,_,ho,_⟩,_⟩:=I.loc;exact free _ o (λ z=>(Y _ z).2.1 rfl) ho I.free
 ·obtain⟨v,o,ho,hd⟩:=I.cell x c e;exact free c o (λ z=>(Y c z).2.2.1 x c e rfl) ho (I.freeC x c e)
 ·obtain⟨e,n,ne,nf,d⟩:=I.pin p hp;have O:p.1∉ch:=λ z=>(Y p.1 z).2.2.2 p hp rfl;exact⟨keep p.1 p.2 ne nf O e n,free p.1 p.2 O e n,ne,nf,d⟩
theorem Inv.un {t':Nat} (I:Inv X pins σ H s) (u:Un X.fs [] H H' s.heap h') (O:HOk X.prog X.w H' h'):Inv X pins σ H' {s with heap:=h',toks:=t'}:=by
 obtain⟨m,⟨o,es,ep,ho,r⟩,_⟩:=id I.loc;obtain⟨sl,hL⟩:=u.any ho I.free (by simp);exact I.step (g':=s.gens) (d':=s.drawn) (ch:=[]) (λ _ z=>nomatch z) (λ b o _ hb _ e n=>u.keep b o e n hb (by simp)) (λ b o _ hb _ e n=>u.slot b o e n hb (by simp)) (λ b o _ e n=>u.free b o e n (by simp)) (λ b o _ e=>u.there b o e (by simp)) u.tups u.frzs u.tbls (λ m' hm=>by
  obtain⟨o',Z,Y,M,r'⟩:=hm;rw[ho] at M;cases M;exact⟨_,Z,Y,hL,r'⟩) O I.bare
theorem Inv.call {g':Array GenState}{t':Nat}{d':Drawn}{ch:List Addr} (I:Inv X pins σ H s) (u:Un (frs X.stack) ch H H' s.heap h') (Z:HOk X.prog X.w H' h') (hg:AllBare g')
  (O:∀ b∈ch,(b∈X.ex\/X.s₀.heap.objs.size<=b)/\b≠X.env.locals/\(∀ x c,X.env.cells.lookup x=some c->c≠b)/\∀ p∈X.pn++pins,p.1≠b) :
  Inv X pins σ H' {s with heap:=h',gens:=g',drawn:=d',toks:=t'}:=by
 obtain⟨m,⟨o,es,ep,ho,r⟩,_⟩:=id I.loc;obtain⟨sl,hL⟩:=u.any ho I.free λ z=>(O _ z).2.1 rfl;exact I.step (ch:=ch) O (λ b o hL hb M e n=>u.keep b o e n (λ z=>(qw (I.stkSub b z)).elim hL hb) M) (λ b o _ _ M e n=>u.any e n M) (λ b o M e n=>u.free b o e n M) (λ b o M e=>u.there b o e M) u.tups u.frzs u.tbls (λ m' hm=>by
  obtain⟨o',ab,aa,Y,r'⟩:=hm;rw[ho] at Y;cases Y;exact⟨_,ab,aa,hL,r'⟩) Z hg
theorem Inv.turned {t':Nat}{it:Addr} (I:Inv X pins σ H s) (k:∀ b o,b≠it->s.heap.get? b=some o->h'.get? b=some o) (hn:H it=none) (Y:it≠X.env.locals)
  (h1:it∈X.ex\/X.s₀.heap.objs.size<=it) (h2:∀ x c,X.env.cells.lookup x=some c->c≠it) (Z:∀ p∈X.pn++pins,p.1≠it):Inv X pins σ H {s with heap:=h',toks:=t'}:=by
 have O:∀ b u,H b=some u->b≠it:=λ b u e z=>by rw[z,hn] at e;cases e
 refine I.step (g':=s.gens) (d':=s.drawn) (ch:=[it]) (λ b hb=>?_) (λ b o _ _ M e _=>k b o (λ z=>M (by simp[z])) e) (λ b o _ _ M e _=>⟨o.slots,k b o (λ z=>M (by simp[z])) e⟩) (λ _ _ _ _ n=>n)
  (λ b o M e=>⟨o,k b o (λ z=>M (by simp[z])) e⟩) (λ _ _ e=>e) (λ _ _ _ e=>e) (λ _ _ e=>e) (λ m hm=>?_) (λ b u e=>?_) I.bare
 ·have e:b=it:=by simpa using hb
  subst e;exact⟨h1,Y,h2,Z⟩
 ·obtain⟨o,es,ep,ho,r⟩:=hm;exact⟨o,es,ep,k _ o (Zb Y) ho,r⟩
 ·refine (I.hok b u e).stay (λ c v M q=>k c v ?_ q) (λ _ q=>q) (λ _ _ q=>q) λ _ _ q=>q;rcases M with z | z
  ·rw[z];exact O b u e
  ·exact O c _ z
theorem Inv.tok (I:Inv X pins σ H s) (t:Nat):Inv X pins σ H {s with toks:=t}:=I.un (h':=s.heap) (t':=t) Un.refl I.hok
theorem Inv.kept {t':Nat} (I:Inv X pins σ H s) (k:∀ b u,s.heap.get? b=some u->h'.get? b=some u):Inv X pins σ H {s with heap:=h',toks:=t'}:=I.un (Un.kept k) (I.hok.kept k)
theorem Inv.laid {a:Addr}{o:HO}{t':Nat} (I:Inv X pins σ H s) (k:∀ b u,s.heap.get? b=some u->h'.get? b=some u) (hp:s.heap.objs.size<=a) (new:ObjOk X.prog X.w (upd H a o) h' a o) :
  Inv X pins σ (upd H a o) {s with heap:=h',toks:=t'}:=I.un (Un.laid k hp (I.hok.fresh hp)) (I.hok.laid k hp new)
theorem Inv.write {x e:Addr}{o:HO}{t':Nat} (I:Inv X pins σ H s) (O:Mut (H x)) (M:e=x\/H e=some (.own x)) (k:∀ b u,b≠e->s.heap.get? b=some u->h'.get? b=some u) (z:∃ u,h'.get? e=some u)
  (new:ObjOk X.prog X.w (upd H x o) h' x o):Inv X pins σ (upd H x o) {s with heap:=h',toks:=t'}:=I.un (Un.write O M k z) (I.hok.write O M k z new)
theorem Inv.weak {z:List (Option V)} (I:Inv X pins σ H s) (M:z.length=σ.length) (w:∀ (i:Nat) v,z[i]?=some (some v)->σ[i]?=some (some v)):Inv X pins z H s :=
 ⟨I.ok,I.os,I.bare,I.base,let ⟨m,hn,hl'⟩:=I.loc;⟨m,hn,λ i x v e1 e2 e3=>hl' i x v e1 (w i v e2) e3⟩,I.cell,I.free,I.freeC,I.pin,I.hok,M.trans I.len⟩
theorem Inv.pins_of {M:List (Addr×Obj)} (I:Inv X pins σ H s) (h:∀ p∈M,s.heap.get? p.1=some p.2/\H p.1=none/\p.1≠X.env.locals/\p.1∉X.fs/\∀ v,p.2.data≠.cell v):Inv X M σ H s :=
 ⟨I.ok,I.os,I.bare,I.base,I.loc,I.cell,I.free,I.freeC,λ p hp=>(qz hp).elim (λ z=>I.pin p (qp _ z)) (h p),I.hok,I.len⟩
theorem aj1 {N:List Str} (z:N.Nodup) {i j:Nat}{x:Str} (a:N[i]?=some x) (b:N[j]?=some x):i=j:=by obtain⟨h1,e1⟩:=List.getElem?_eq_some_iff.mp a;obtain⟨h2,e2⟩:=List.getElem?_eq_some_iff.mp b;exact (List.getElem_inj z).mp (e1.trans e2.symm)
theorem H_5 {M:Model}{A:Around}{E:Value->Shared->Prop}{i:Nat}{x:Str}{v:V}{u:Value}{Q:Unit->Shared->Prop} (I:Inv X pins σ H s) (hN:X.N.Nodup) (hi:X.N[i]?=some x) (Z:Loc X.env.scope x) (r:RelV v u)
  (h:∀ s',Inv X pins (σ.set i (some v)) H s'->(∃ a,Heap.SameBut a s.heap s'.heap/\(a=X.env.locals\/X.env.cells.lookup x=some a))->Q () s') (hf:X.fn x=true\/X.env.scope.names.lookup x=some .local:=by first | exact .inl rfl | exact .inr rfl | assumption):wpAny M A (storeName X.env x u) Q E s:=by
 obtain⟨m,hn,hl⟩:=id I.loc;have ad:(X.env.scope.kind==.class||(X.env.scope.kind==.module&&X.env.locals != X.env.globals))=false:=by rw[I.ok.kind];rfl
 have ab:i<σ.length:=by rw[I.len];exact (List.getElem?_eq_some_iff.mp hi).1
 have cne:=I.cne;have O:∀ {a:Addr}{h':Heap},(∃ o,s.heap.get? a=some o/\H a=none)->Heap.SameBut a s.heap h'->HOk X.prog X.w H h':=λ {a h'} ha hs b ob e=>by
  obtain⟨_,_,aa⟩:=ha;refine (I.hok b ob e).stay (λ c w' Y q=>(hs.2 c ?_).trans q) (λ _ q=>q) (λ _ _ q=>q) λ _ _ q=>q;rintro rfl;rcases Y with rfl | Y
  ·rw[aa] at e;cases e
  ·rw[aa] at Y;cases Y
 rcases Z with hk | hk
 ·refine wpAny_storeName_local hk hn (λ h' aj hs=>?_) ad;obtain⟨oL,_,_,ai,_⟩:=id hn;refine h _ ⟨I.ok,I.os,I.bare,⟨λ b o e n hb Z=>?_,λ b o e n hb Z=>?_,I.base.free,λ b o e Z=>?_,I.base.tups,I.base.frzs,I.base.tbls⟩,⟨_,aj,λ j y v' e1 e2 e3=>?_⟩,λ y c e=>?_,I.free,I.freeC,λ p hp=>?_,O ⟨oL,ai,I.free⟩ hs,by simpa using I.len⟩ ⟨_,hs,.inl rfl⟩
  ·exact (hs.2 b (qt (qr (qm e) I.ok.above))).trans (I.base.keep b o e n hb Z)
  ·obtain⟨sl,e1⟩:=I.base.slot b o e n hb Z;exact⟨sl,(hs.2 b (qt (qr (qm e) I.ok.above))).trans e1⟩
  ·obtain⟨o',e1⟩:=I.base.there b o e Z;exact⟨o',(hs.2 b (qt (qr (qm e) I.ok.above))).trans e1⟩
  ·by_cases hj:j=i
   ·subst hj;rw[hi] at e1;cases e1;rw[Ql ab] at e2;cases e2;exact⟨u,r,.inl ⟨hk,by simp⟩⟩
   ·rw[Qn (Zb hj)] at e2;obtain⟨u',r',q⟩:=hl j y v' e1 e2 e3;refine⟨u',r',?_⟩;rcases q with ⟨k,e⟩ | ⟨k,c,e,z⟩
    ·refine .inl ⟨k,?_⟩;have:y≠x:=λ e=>hj (aj1 hN e1 (e▸hi));simp[this,e]
    ·exact .inr ⟨k,c,e,z.sameBut hs (cne y c e)⟩
  ·obtain⟨w',z⟩:=I.cell y c e;exact⟨w',z.sameBut hs (cne y c e)⟩
  ·obtain⟨e,n,ne,nf,d⟩:=I.pin p hp;exact⟨(hs.2 p.1 ne).trans e,n,ne,nf,d⟩
 ·have ac:X.fn x=true:=by
   rcases hf with z | z
   ·exact z
   ·rw[z] at hk;cases hk
  obtain⟨c,Y⟩:=I.ok.has x (.inl hk);obtain⟨w',z⟩:=I.cell x c Y;refine wpAny_storeName_cell I.ok.kind hk Y z (λ h' ag hs=>?_);obtain⟨oc,af,ae⟩:=id z;refine h {s with heap:=h'} ⟨I.ok,I.os,I.bare,⟨λ b o e n hb Z=>?_,λ b o e n hb Z=>?_,I.base.free,λ b o e Z=>?_,I.base.tups,I.base.frzs,I.base.tbls⟩,⟨m,hn.sameBut hs (Zb (cne x c Y)),λ j y v' e1 e2 e3=>?_⟩,λ y c' e=>?_,I.free,I.freeC,λ p hp=>?_,O ⟨oc,af,I.freeC x c Y⟩ hs,by simpa using I.len⟩ ⟨c,hs,.inr Y⟩
  ·exact (hs.2 b (qt (qr (qm e) (I.ok.cab x c ac Y)))).trans (I.base.keep b o e n hb Z)
  ·obtain⟨sl,e1⟩:=I.base.slot b o e n hb Z;exact⟨sl,(hs.2 b (qt (qr (qm e) (I.ok.cab x c ac Y)))).trans e1⟩
  ·obtain⟨o',e1⟩:=I.base.there b o e Z;exact⟨o',(hs.2 b (qt (qr (qm e) (I.ok.cab x c ac Y)))).trans e1⟩
  ·by_cases hj:j=i
   ·subst hj;rw[hi] at e1;cases e1;rw[Ql ab] at e2;cases e2;exact⟨u,r,.inr ⟨.inl hk,c,Y,ag⟩⟩
   ·rw[Qn (Zb hj)] at e2;obtain⟨u',r',q⟩:=hl j y v' e1 e2 e3;refine⟨u',r',?_⟩;rcases q with q | ⟨k,c',e,z'⟩
    ·exact .inl q
    ·refine .inr ⟨k,c',e,z'.sameBut hs ?_⟩;rintro rfl;exact hj (aj1 hN e1 (I.ok.inj _ _ _ e Y▸hi))
  ·by_cases ah:c'=c
   ·subst ah;exact⟨_,ag⟩
   ·obtain⟨w2,z2⟩:=I.cell y c' e;exact⟨w2,z2.sameBut hs ah⟩
  ·obtain⟨e,n,ne,nf,d⟩:=I.pin p hp;refine⟨(hs.2 p.1 ?_).trans e,n,ne,nf,d⟩;intro q;rw[q,af] at e;have q':oc=p.2:=qi e;exact d w' (by rw[<- q'];exact ae)
theorem ah2 {M:Model}{A:Around}{E:Value->Shared->Prop}{i:Nat}{x:Str}{v:V}{u:Value}{Q:Unit->Shared->Prop} (I:Inv X pins σ H s) (O:X.N.Nodup) (hi:X.N[i]?=some x) (z:Loc X.env.scope x) (r:RelV v u)
  (h:∀ s',Inv X pins (σ.set i (some v)) H s'->Q () s') (hf:X.fn x=true\/X.env.scope.names.lookup x=some .local:=by first | exact .inl rfl | exact .inr rfl | assumption):wpAny M A (storeName X.env x u) Q E s :=
 H_5 I O hi z r (λ s' Y _=>h s' Y) hf
theorem Inv.call' {s':Shared}{ch:List Addr} (I:Inv X pins σ H s) (Y:s'.os=s.os) (u:Un (frs X.stack) ch H H' s.heap s'.heap) (z:HOk X.prog X.w H' s'.heap) (O:AllBare s'.gens)
  (M:∀ b∈ch,(b∈X.ex\/X.s₀.heap.objs.size<=b)/\b≠X.env.locals/\(∀ x c,X.env.cells.lookup x=some c->c≠b)/\∀ p∈X.pn++pins,p.1≠b):Inv X pins σ H' s':=by
 obtain⟨h',g',d',t',o'⟩:=s';have e:o'=s.os:=Y;subst e;exact I.call (g':=g') (t':=t') (d':=d') u z O M
end
abbrev XK:=Value->Option Addr->Hp->Prop
noncomputable abbrev St:=List (Option V)
abbrev VK:=V->Hp->Prop
abbrev TE:=St->Hp->VK->Prop
abbrev TT:=St->Hp->(Bool->Hp->Prop)->Prop
abbrev TA:=St->Hp->(List V->Hp->Prop)->Prop
structure Ends where
 nx:St->Hp->Prop
 rt:VK
 bk:St->Hp->Prop:=λ _ _=>False
 ct:St->Hp->Prop:=λ _ _=>False
abbrev TS:=Ends->St->Hp->Prop
def EP (X:Cx) (pins:List (Addr×Obj)) (σ:St) (Q:VK) (u:Value) (s':Shared):Prop:=∃ v H',Inv X pins σ H' s'/\RelV v u/\Q v H'
def TP (X:Cx) (pins:List (Addr×Obj)) (σ:St) (Q:Bool->Hp->Prop) (b:Bool) (s':Shared):Prop:=∃ H',Inv X pins σ H' s'/\Q b H'
def AP (X:Cx) (pins:List (Addr×Obj)) (σ:St) (Q:List V->Hp->Prop) (us:List Value) (s':Shared):Prop:=∃ vs H',Inv X pins σ H' s'/\Vals vs us/\Q vs H'
def SP (X:Cx) (pins:List (Addr×Obj)) (D:Ends) (f:Flow) (s':Shared):Prop :=
 match f with
 |.next=>∃ z H',Inv X pins z H' s'/\D.nx z H'
 |.brk=>∃ z H',Inv X pins z H' s'/\D.bk z H'
 |.cont=>∃ z H',Inv X pins z H' s'/\D.ct z H'
 |.ret u=>∃ v z H',Inv X pins z H' s'/\RelV v u/\D.rt v H'
def PE (X:Cx) (e:Expr) (t:TE):Prop :=
 ∀ (pins:List (Addr×Obj)) (s:Shared) (σ:St) (H:Hp) (Q:VK),Inv X pins σ H s->t σ H Q->wpAny (model X.prog X.w) X.A (eval e X.env) (EP X pins σ Q) X.xe s
def PT (X:Cx) (e:Expr) (t:TT):Prop :=
 ∀ (pins:List (Addr×Obj)) (s:Shared) (σ:St) (H:Hp) (Q:Bool->Hp->Prop),Inv X pins σ H s->t σ H Q->wpAny (model X.prog X.w) X.A (isTrue e X.env (eval e X.env)) (TP X pins σ Q) X.xe s
def PW (X:Cx) (e:Expr) (t:TT):Prop :=
 ∀ (z:Sem Value) (pins:List (Addr×Obj)) (s:Shared) (σ:St) (H:Hp) (Q:Bool->Hp->Prop),Inv X pins σ H s->t σ H Q->wpAny (model X.prog X.w) X.A (isTrue e X.env z) (TP X pins σ Q) X.xe s
theorem PW.pt {X:Cx}{e:Expr}{t:TT} (h:PW X e t):PT X e t:=h _
def PA (X:Cx) (es:List Expr) (t:TA):Prop :=
 ∀ (pos:Pos) (pins:List (Addr×Obj)) (s:Shared) (σ:St) (H:Hp) (Q:List V->Hp->Prop),Inv X pins σ H s->t σ H Q->wpAny (model X.prog X.w) X.A (spliced (backTo pos (starEach es X.env))) (AP X pins σ Q) X.xe s
def PS (X:Cx) (st:Stmt) (t:TS):Prop :=
 ∀ (pins:List (Addr×Obj)) (s:Shared) (σ:St) (H:Hp) (D:Ends),Inv X pins σ H s->t D σ H->wpAny (model X.prog X.w) X.A (exec st X.env) (SP X pins D) X.xe s
def PSs (X:Cx) (st:List Stmt) (t:TS):Prop :=
 ∀ (pins:List (Addr×Obj)) (s:Shared) (σ:St) (H:Hp) (D:Ends),Inv X pins σ H s->t D σ H->wpAny (model X.prog X.w) X.A (execs st X.env) (SP X pins D) X.xe s
theorem thn {α:Type}{t:Sem α}{Q z:α->Shared->Prop}{M:Model}{A:Around}{E:Value->Shared->Prop}{s:Shared} (h:wpAny M A t Q E s) (O:∀ a s,Q a s->z a s):wpAny M A t z E s:=Q6 h O λ _ _ x=>x
section
variable {X:Cx}
def aD6 (i:Nat):TE:=λ σ H Q=>∃ v,σ[i]?=some (some v)/\Q v H
def tC (v:V):TE:=λ _ H Q=>Q v H
theorem t_1 {i:Nat}{x:Str}{pos:Pos} (Y:X.N[i]?=some x) (hv:Vis X.env.scope x) (M:(x==("__debug__":Str))=false:=by decide) (z:(x==("__classdict__":Str))=false:=by decide):PE X (.Name x pos) (aD6 i):=by
 intro pins s σ H Q I h;obtain⟨v,e,h⟩:=h;obtain⟨m,Z,O⟩:=I.loc;obtain⟨u,r,l⟩:=O i x v Y e hv;have fin:EP X pins σ Q u s:=⟨v,H,I,r,h⟩;rcases l with ⟨hk,hm⟩ | ⟨hk,c,hc,hcell⟩
 ·exact wpAny_Name (wpAny_loadName_local I.ok.kind hk Z hm fin) M
 ·rcases hk with hk | hk
  ·exact wpAny_Name (wpAny_loadName_cell I.ok.kind hk hc hcell fin) M
  ·exact wpAny_Name (wpAny_loadName_free I.ok.kind hk hc hcell fin z) M
theorem W_5 {i j pos}:PE X (.Constant (.int i) j pos) (tC (.int i)):=λ _ _ _ H _ I h=>wpAny_Constant_int ⟨.int i,H,I.tok _,⟨_,rfl⟩,h⟩
theorem bB7 {b j pos}:PE X (.Constant (.bool b) j pos) (tC (.bl b)):=λ _ _ _ H _ I h=>Constant_bool ⟨.bl b,H,I,rfl,h⟩
theorem aN8 {j pos}:PE X (.Constant .none j pos) (tC .non):=λ _ _ _ H _ I h=>Constant_none ⟨.non,H,I,rfl,h⟩
theorem bl5 {x j pos}:PE X (.Constant (.str x) j pos) (tC (.str x)):=λ _ _ _ H _ I h=>Calls.Constant_str ⟨.str x,H,I.tok _,⟨_,rfl⟩,h⟩
def Gl (X:Cx) (x:Str):Prop:=X.env.kindOf x=some .globalImplicit
theorem ae7 {E:Value->Shared->Prop}{pins:List (Addr×Obj)}{s:Shared}{σ:St}{H:Hp}{x:Str}{u:Value}{pos:Pos}{Q:Value->Shared->Prop} (I:Inv X pins σ H s) (z:Gl X x) (O:X.mg x=some u) (h:Q u s)
  (M:(x==("__debug__":Str))=false:=by decide):wpAny (model X.prog X.w) X.A (eval (.Name x pos) X.env) Q E s :=
 Calls.Name_function_global I.ok.kind z (Calls.loadGlobal_global (by rw[I.ok.glob];exact I.mod.glob.keeps I.bk) O h) M
theorem P_1 {E:Value->Shared->Prop}{pins:List (Addr×Obj)}{s:Shared}{σ:St}{H:Hp}{x:Str}{u:Value}{pos:Pos}{Q:Value->Shared->Prop} (I:Inv X pins σ H s) (M:Gl X x) (O:X.mg x=none) (Z:bootBuiltins x=some u) (h:Q u s)
  (z:x≠"__name__":=by decide) (Y:(x==("__debug__":Str))=false:=by decide):wpAny (model X.prog X.w) X.A (eval (.Name x pos) X.env) Q E s:=by
 obtain⟨mb,h1,h2⟩:=I.mod.blt;exact Calls.Name_function_global I.ok.kind M (Calls.loadGlobal_builtin (by rw[I.ok.glob];exact I.mod.glob.keeps I.bk) O (by rw[I.ok.blt];exact h1.keeps I.bk) ((h2 x z).trans Z) h) Y
theorem ad0 {x:Str}{v:V}{u:Value}{pos:Pos} (z:Gl X x) (O:X.mg x=some u) (r:RelV v u) (M:(x==("__debug__":Str))=false:=by decide):PE X (.Name x pos) (tC v) :=
 λ _ _ _ H _ I h=>ae7 I z O ⟨v,H,I,r,h⟩ M
theorem aU8 {x:Str}{v:V}{u:Value}{pos:Pos} (M:Gl X x) (O:X.mg x=none) (Z:bootBuiltins x=some u) (r:RelV v u) (z:x≠"__name__":=by decide) (Y:(x==("__debug__":Str))=false:=by decide):PE X (.Name x pos) (tC v) :=
 λ _ _ _ H _ I h=>P_1 I M O Z ⟨v,H,I,r,h⟩ z Y
variable {a b:Expr}{ta tb:TE}{pos:Pos}
def tB (t:TE):TT:=λ σ H Q=>t σ H λ x H1=>∃ c,x=.bl c/\Q c H1
variable {tA tB':TT}{rest:List Expr}
def tAnd (t u:TT):TT:=λ σ H Q=>t σ H λ c H1=>if c=true then u σ H1 Q else Q false H1
def tOr (t u:TT):TT:=λ σ H Q=>t σ H λ c H1=>if c=true then Q true H1 else u σ H1 Q
def tNot (t:TT):TT:=λ σ H Q=>t σ H λ c H1=>Q (!c) H1
theorem aT7 (ha:PT X a tA):PW X (.BoolOp .And [a] pos) tA:=by
 intro M pins s σ H Q I h;refine isTrue_and (thn (ha pins s σ H Q I h) λ c z e=>?_);cases c with
 |true=>exact isTrue_and_nil e
 |false=>exact e
theorem bk2 (ha:PT X a tA):PW X (.BoolOp .Or [a] pos) tA:=by
 intro M pins s σ H Q I h;refine isTrue_or (thn (ha pins s σ H Q I h) λ c z e=>?_);cases c with
 |false=>exact isTrue_or_nil e
 |true=>exact e
theorem bk3 (ha:PT X a tA) (Z:PW X (.BoolOp .And (b::rest) pos) tB'):PW X (.BoolOp .And (a::b::rest) pos) (tAnd tA tB'):=by
 intro wh pins s σ H Q I h;refine isTrue_and (thn (ha pins s σ H _ I h) λ c Y z=>?_);obtain⟨H1,O,M⟩:=z;cases c with
 |true=>exact Z wh pins Y σ H1 Q O M
 |false=>exact⟨H1,O,M⟩
theorem bB3 (ha:PT X a tA) (Z:PW X (.BoolOp .Or (b::rest) pos) tB'):PW X (.BoolOp .Or (a::b::rest) pos) (tOr tA tB'):=by
 intro wh pins s σ H Q I h;refine isTrue_or (thn (ha pins s σ H _ I h) λ c Y z=>?_);obtain⟨H1,O,M⟩:=z;cases c with
 |true=>exact⟨H1,O,M⟩
 |false=>exact Z wh pins Y σ H1 Q O M
theorem bk5 (ha:PT X a tA):PT X (.UnaryOp .Not a pos) (tNot tA):=by intro pins s σ H Q I h;exact isTrue_not (ha pins s σ H (λ c H1=>Q (!c) H1) I h)
def by6 (ta tb:TE):TE:=λ σ H Q=>ta σ H λ x H1=>∃ c,x=.bl c/\if c=true then tb σ H1 Q else Q (.bl false) H1
def bT2 (ta tb:TE):TE:=λ σ H Q=>ta σ H λ x H1=>∃ c,x=.bl c/\if c=true then Q (.bl true) H1 else tb σ H1 Q
def bx9 (ta:TE):TE:=λ σ H Q=>ta σ H λ x H1=>∃ c,x=.bl c/\Q (.bl (!c)) H1
theorem bl8 {op}{t:TE} (h:PE X a t):PE X (.BoolOp op [a] pos) t:=λ pins s σ H Q I z=>BoolOp_one (h pins s σ H Q I z)
theorem bm3 (ha:PE X a ta) (Z:PE X (.BoolOp .And (b::rest) pos) tb):PE X (.BoolOp .And (a::b::rest) pos) (by6 ta tb):=by
 intro pins s σ H Q I h;refine BoolOp_and (thn (ha pins s σ H _ I h) λ v Y z=>?_);obtain⟨x,H1,O,r1,M⟩:=z;obtain⟨c,rfl,M⟩:=M;cases r1;refine Zg ?_;cases c with
 |true=>exact Z pins Y σ H1 Q O M
 |false=>exact⟨.bl false,H1,O,rfl,M⟩
theorem bB5 (ha:PE X a ta) (Z:PE X (.BoolOp .Or (b::rest) pos) tb):PE X (.BoolOp .Or (a::b::rest) pos) (bT2 ta tb):=by
 intro pins s σ H Q I h;refine BoolOp_or (thn (ha pins s σ H _ I h) λ v Y z=>?_);obtain⟨x,H1,O,r1,M⟩:=z;obtain⟨c,rfl,M⟩:=M;cases r1;refine Zg ?_;cases c with
 |false=>exact Z pins Y σ H1 Q O M
 |true=>exact⟨.bl true,H1,O,rfl,M⟩
theorem bl9 (ha:PE X a ta):PE X (.UnaryOp .Not a pos) (bx9 ta):=by intro pins s σ H Q I h;refine UnaryOp_ (thn (ha pins s σ H _ I h) λ v Z z=>?_);obtain⟨x,H1,Y,O,M⟩:=z;obtain⟨c,rfl,M⟩:=M;cases O;exact not_of (Zg ⟨.bl (!c),H1,Y,rfl,M⟩)
def tIf (t:TT) (ta tb:TE):TE:=λ σ H Q=>t σ H λ c H1=>if c=true then ta σ H1 Q else tb σ H1 Q
theorem ai5 {c:Expr} (Z:PT X c tA) (ha:PE X a ta) (hb:PE X b tb):PE X (.IfExp c a b pos) (tIf tA ta tb):=by
 intro pins s σ H Q I h;refine wpAny_IfExp (thn (Z pins s σ H _ I h) λ d M z=>?_);obtain⟨H1,Y,O⟩:=z;cases d with
 |true=>exact ha pins M σ H1 Q Y O
 |false=>exact hb pins M σ H1 Q Y O
end
def SqL (K:Frag) (H:Hp) (a:Addr) (xs:List V):Prop :=
 Rd H a (.lst xs) \/
  ∃ (o:Obj) (z:Array Value) (n:Nat),K.lookup a=some o ∧ o.cls=.type "list" ∧ o.dict=none ∧ o.data=.seq z n ∧ z.size ≤ sizeLine ∧ Vals xs z.toList
def SqT (K:Frag) (H:Hp) (a:Addr) (xs:List V):Prop :=
 Rd H a (.tup xs) \/
  ∃ (o:Obj) (z:Array Value) (n:Nat),K.lookup a=some o ∧ o.cls=.type "tuple" ∧ o.dict=none ∧ o.data=.seq z n ∧ z.size ≤ sizeLine ∧ Vals xs z.toList
noncomputable def cb3:Value->Option V
 |.none=>some .non
 |.bool b=>some (.bl b)
 |.int i _=>some (.int i)
 |.str x _=>some (.str x)
 |.bytes b _=>some (.byt b)
 |.float b _=>some (.flt b)
 |.ref a=>some (.ref a)
 |.type n=>some (.ty n)
 |_=>none
theorem RelV.abs {x:V}{u:Value} (r:RelV x u):cb3 u=some x:=by
 cases x with
 |non=>cases r;rfl
 |bl _=>cases r;rfl
 |int _=>obtain⟨t,rfl⟩:=r;rfl
 |str _=>obtain⟨t,rfl⟩:=r;rfl
 |byt _=>obtain⟨t,rfl⟩:=r;rfl
 |flt _=>obtain⟨t,rfl⟩:=r;rfl
 |ref _=>cases r;rfl
 |ty _=>cases r;rfl
theorem RelV.inj {x y:V}{u:Value} (r:RelV x u) (q:RelV y u):x=y:=qi (r.abs.symm.trans q.abs)
theorem Vals.inj:∀ {xs ys:List V}{us:List Value},Vals xs us->Vals ys us->xs=ys
 |_,_,_,.nil,.nil=>rfl
 |_,_,_,.cons r t,.cons r' t'=>by rw[r.inj r',Vals.inj t t']
section
variable {X:Cx}{pins:List (Addr×Obj)}{σ:St}{H:Hp}{s:Shared}{a:Addr}{xs ys:List V}
theorem SqL.of {K:Frag} (h:H a=some (.lst xs)):SqL K H a xs:=.inl (.inl h)
theorem SqT.of {K:Frag} (h:H a=some (.tup xs)):SqT K H a xs:=.inl (.inl h)
theorem Inv.list (I:Inv X pins σ H s) (h:SqL X.K H a xs):∃ M:List Value,Vals xs M/\PlainL s.heap a M.toArray/\xs.length<=sizeLine:=by
 rcases h with h | ⟨o,M,n,hk,hc,hd,hs,hz,r⟩
 ·obtain⟨z,M,n,r,e⟩:=h.ok I.hok;exact⟨M,r,⟨_,n,e,rfl,rfl,rfl⟩,z⟩
 ·refine⟨M.toList,r,⟨o,n,I.kIn a o hk,hc,hd,by simpa using hs⟩,?_⟩;have e:=r.length;simp only[Qu] at e;omega
theorem Inv.tuple (I:Inv X pins σ H s) (h:SqT X.K H a xs):∃ M:List Value,Vals xs M/\IsTup s.heap a M.toArray/\xs.length<=sizeLine:=by
 rcases h with h | ⟨o,M,n,hk,hc,_,hs,hz,r⟩
 ·obtain⟨z,M,r,p⟩:=h.ok I.hok;exact⟨M,r,p.tup,z⟩
 ·refine⟨M.toList,r,⟨o,I.kIn a o hk,hc,n,by simpa using hs⟩,?_⟩;have e:=r.length;simp only[Qu] at e;omega
theorem Inv.tupleN (I:Inv X pins σ H s) (h:SqT X.K H a xs):∃ M:List Value,Vals xs M/\IsTuN s.heap a M.toArray/\xs.length<=sizeLine:=by
 rcases h with h | ⟨o,M,n,hk,hc,hd,hs,hz,r⟩
 ·obtain⟨z,M,r,p⟩:=h.ok I.hok;exact⟨M,r,p,z⟩
 ·refine⟨M.toList,r,⟨o,I.kIn a o hk,hc,⟨n,by simpa using hs⟩,hd⟩,?_⟩;have e:=r.length;simp only[Qu] at e;omega
theorem Inv.list_inj (I:Inv X pins σ H s) (h:SqL X.K H a xs) (h':SqL X.K H a ys):xs=ys:=by
 obtain⟨z,r,⟨o,n,e,_,_,d⟩,_⟩:=I.list h;obtain⟨its',M,⟨o',O,e',_,_,d'⟩,_⟩:=I.list h';rw[e] at e';cases e';rw[d] at d';injection d' with d1 _
 have:z=its':=by simpa using Zq Array.toList d1
 subst this;exact r.inj M
theorem Inv.tuple_inj (I:Inv X pins σ H s) (h:SqT X.K H a xs) (h':SqT X.K H a ys):xs=ys:=by
 obtain⟨z,r,⟨o,e,_,n,d⟩,_⟩:=I.tuple h;obtain⟨its',M,⟨o',e',_,O,d'⟩,_⟩:=I.tuple h';rw[e] at e';cases e';rw[d] at d';injection d' with d1 _
 have:z=its':=by simpa using Zq Array.toList d1
 subst this;exact r.inj M
end
noncomputable abbrev Cx.wish (X:Cx) (E:Value->Shared->Prop):Cx:={X with xe:=E}
abbrev Cx.nox (X:Cx):Cx:=X.wish λ _ _=>False
theorem Cx.Ok.wish {X:Cx} (ok:X.Ok) (E:Value->Shared->Prop):(X.wish E).Ok :=
 ⟨ok.mod,ok.kind,ok.glob,ok.blt,ok.above,ok.inj,ok.has,ok.cab,ok.hd,ok.frames,ok.stk,ok.exf,ok.bs,ok.bsz,ok.noex,ok.exfs,ok.funs,ok.frf,ok.tab⟩
theorem Cx.Ok.unwish {X:Cx}{E:Value->Shared->Prop} (ok:(X.wish E).Ok):X.Ok :=
 ⟨ok.mod,ok.kind,ok.glob,ok.blt,ok.above,ok.inj,ok.has,ok.cab,ok.hd,ok.frames,ok.stk,ok.exf,ok.bs,ok.bsz,ok.noex,ok.exfs,ok.funs,ok.frf,ok.tab⟩
section
variable {X:Cx}{pins:List (Addr×Obj)}{σ:St}{H:Hp}{s:Shared}{E:Value->Shared->Prop}
theorem Inv.wish (I:Inv X pins σ H s) (E:Value->Shared->Prop):Inv (X.wish E) pins σ H s:=⟨I.ok.wish E,I.os,I.bare,I.base,I.loc,I.cell,I.free,I.freeC,I.pin,I.hok,I.len⟩
theorem Inv.unwish (I:Inv (X.wish E) pins σ H s):Inv X pins σ H s:=⟨I.ok.unwish,I.os,I.bare,I.base,I.loc,I.cell,I.free,I.freeC,I.pin,I.hok,I.len⟩
theorem SP.unwish {D:Ends}{f:Flow}{s':Shared} (h:SP (X.wish E) pins D f s'):SP X pins D f s':=by
 cases f with
 |next=>obtain⟨z,H',I,q⟩:=h;exact⟨z,H',I.unwish,q⟩
 |brk=>obtain⟨z,H',I,q⟩:=h;exact⟨z,H',I.unwish,q⟩
 |cont=>obtain⟨z,H',I,q⟩:=h;exact⟨z,H',I.unwish,q⟩
 |ret u=>obtain⟨v,z,H',I,r,q⟩:=h;exact⟨v,z,H',I.unwish,r,q⟩
theorem PE.nox {e:Expr}{t:TE} (h:PE X.nox e t):PE X e t:=λ pins s σ H Q I O =>
 Q6 (h pins s σ H Q (I.wish _) O) (λ _ _ ⟨v,H',M,r,q⟩=>⟨v,H',M.unwish,r,q⟩) λ _ _ z=>False.elim z
theorem PT.nox {e:Expr}{t:TT} (h:PT X.nox e t):PT X e t:=λ pins s σ H Q I O =>
 Q6 (h pins s σ H Q (I.wish _) O) (λ _ _ ⟨H',M,q⟩=>⟨H',M.unwish,q⟩) λ _ _ z=>False.elim z
theorem PSs.nox {st:List Stmt}{t:TS} (h:PSs X.nox st t):PSs X st t:=λ pins s σ H D I M =>
 Q6 (h pins s σ H D (I.wish _) M) (λ _ _ q=>q.unwish) λ _ _ z=>False.elim z
end
section
variable {X:Cx}{st:Stmt}{rest:List Stmt}{t u:TS}{e:Expr}{te:TE}{pos:Pos}
def by0:TS:=λ D σ H=>D.nx σ H
def bS9 (t u:TS):TS:=λ D σ H=>t {D with nx:=u D} σ H
theorem as9:PSs X [] by0:=λ _ _ σ H _ I h=>Jx ⟨σ,H,I,h⟩
theorem Q_5 (h1:PS X st t) (h2:PSs X rest u):PSs X (st::rest) (bS9 t u):=by
 intro pins s σ H D I h;refine wpAny_execs_cons (thn (h1 pins s σ H {D with nx:=u D} I h) λ f O q=>?_);cases f with
 |next =>
  obtain⟨z,H',M,q⟩:=q;exact h2 pins O z H' D M q
 |ret v=>exact q
 |brk=>exact q
 |cont=>exact q
theorem D_6 (h1:PS X st t):PSs X [st] t:=by
 intro pins s σ H D I h;refine wpAny_execs_cons (thn (h1 pins s σ H D I h) λ f z q=>?_);cases f with
 |next=>exact Jx q
 |ret v=>exact q
 |brk=>exact q
 |cont=>exact q
theorem Inv.quiet {pins:List (Addr×Obj)}{σ:St}{H:Hp}{s:Shared} (I:Inv X pins σ H s):interactive X.env=false:=by simp[interactive,I.ok.kind]
def aS0 (te:TE):TS:=λ D σ H=>te σ H λ _ H1=>D.nx σ H1
theorem Q_6 (z:PE X e te) (hs:swapsWith e none pos.line X.env=pure false:=by rfl):PS X (.Expr e pos) (aS0 te):=by intro pins s σ H D I h;exact wpAny_Expr_any (thn (z pins s σ H _ I h) λ v Y ⟨x,H1,O,Z,M⟩=>⟨σ,H1,O,M⟩) I.quiet hs
def bT0 (te:TE):TS:=λ D σ H=>te σ H D.rt
theorem at4 (z:PE X e te):PS X (.Return (some e) pos) (bT0 te):=by intro pins s σ H D I h;exact wpAny_Return_some (thn (z pins s σ H _ I h) λ v Z ⟨x,H1,Y,O,M⟩=>⟨x,σ,H1,Y,O,M⟩)
def bT4 (c:TT) (t u:TS):TS:=λ D σ H=>c σ H λ b H1=>if b=true then t D σ H1 else u D σ H1
theorem bk6 {c:Expr}{a b:List Stmt}{tc:TT} (Z:PT X c tc) (ha:PSs X a t) (hb:PSs X b u):PS X (.If c a b pos) (bT4 tc t u):=by
 intro pins s σ H D I h;refine wpAny_If (thn (Z pins s σ H _ I h) λ d M z=>?_);obtain⟨H1,Y,O⟩:=z;cases d with
 |true=>exact ha pins M σ H1 D Y O
 |false=>exact hb pins M σ H1 D Y O
end
abbrev TG:=V->St->Hp->(St->Hp->Prop)->Prop
abbrev TGs:=List V->St->Hp->(St->Hp->Prop)->Prop
def PG (X:Cx) (z:Expr) (t:TG):Prop :=
 ∀ (pins:List (Addr×Obj)) (s:Shared) (σ:St) (H:Hp) (v:V) (u:Value) (Q:St->Hp->Prop),Inv X pins σ H s->RelV v u->t v σ H Q ->
  wpAny (model X.prog X.w) X.A (assign z X.env u) (λ _ s'=>∃ M H',Inv X pins M H' s'/\Q M H') X.xe s
def PGs (X:Cx) (M:List Expr) (t:TGs):Prop :=
 ∀ (pins:List (Addr×Obj)) (s:Shared) (σ:St) (H:Hp) (vs:List V) (us:List Value) (Q:St->Hp->Prop),Inv X pins σ H s->Vals vs us->t vs σ H Q ->
  wpAny (model X.prog X.w) X.A (assignInOrder ((assignEach M X.env).map (·.2)) us) (λ _ s'=>∃ z H',Inv X pins z H' s'/\Q z H') X.xe s
section
variable {X:Cx}{pos:Pos}
def aI2 (i:Nat):TG:=λ v σ H Q=>Q (σ.set i (some v)) H
theorem A_5 {i:Nat}{x:Str} (M:X.N.Nodup) (hi:X.N[i]?=some x) (z:Loc X.env.scope x) (hf:X.fn x=true\/X.env.scope.names.lookup x=some .local:=by first | exact .inl rfl | exact .inr rfl | assumption):PG X (.Name x pos) (aI2 i):=by intro pins s σ H v u Q I r h;exact wpAny_assign_Name (ah2 I M hi z r (λ s' O=>⟨_,H,O,h⟩) hf)
def bX7:TGs:=λ vs σ H Q=>vs=[]/\Q σ H
def bE6 (t:TG) (u:TGs):TGs:=λ vs σ H Q=>∃ v r,vs=v::r/\t v σ H λ z H'=>u r z H' Q
theorem au0:PGs X [] bX7:=by intro pins s σ H vs us Q I r h;obtain⟨e,h⟩:=h;subst e;cases r;exact assignInOrder_nil ⟨σ,H,I,h⟩
theorem R_0 {e:Expr}{es:List Expr}{t:TG}{u:TGs} (h1:PG X e t) (h2:PGs X es u)
  (hs:(assignEach (e::es) X.env).map (·.2)=assign e X.env::(assignEach es X.env).map (·.2):=by rfl):PGs X (e::es) (bE6 t u):=by
 intro pins s σ H vs us Q I r h;obtain⟨v,vr,e1,h⟩:=h;subst e1;cases r with
 |cons r Z =>
  rw[hs];refine assignInOrder_cons (thn (h1 pins s σ H _ _ _ I r h) λ _ O z=>?_);obtain⟨M,H1,I1,Y⟩:=z;exact h2 pins O M H1 _ _ Q I1 Z Y
def bX6 (K:Frag) (n:Nat) (t:TGs):TG:=λ v σ H Q=>∃ a xs,v=.ref a/\SqT K H a xs/\xs.length=n/\t xs σ H Q
theorem aN6 {es:List Expr}{k:Nat}{t:TGs}{n:Nat} (hc:X.calm=true) (h:PGs X es t)
  (hn:(assignEach es X.env).length=n:=by rfl) (z:(assignEach es X.env).findIdx? (·.1)=none:=by rfl):PG X (.Tuple es k pos) (bX6 X.K n t):=by
 intro pins s σ H v u Q I r M;obtain⟨a,xs,e1,hq,Z,M⟩:=M;subst e1;cases r;obtain⟨Y,O,ht,hz⟩:=I.tuple hq;refine assign_Tuple_tuple (I.ok.hd hc) ht (by simp[hn,<- Z,O.length]) z λ h' hx=>?_;have I1:Inv X pins σ H {s with heap:=h'}:=I.kept (t':=s.toks) λ b o e=>hx b o (qt (qm e)) e;exact h pins _ σ H xs _ Q I1 (by simpa using O) M
def bT7 (te:TE) (g:TG):TS:=λ D σ H=>te σ H λ x H1=>g x σ H1 D.nx
theorem W_4 {i:Nat}{x:Str}{e:Expr}{te:TE}{pos':Pos} (Y:X.N.Nodup) (hi:X.N[i]?=some x) (hx:Loc X.env.scope x) (O:PE X e te) (hs:swapsWith e (some (.Name x pos')) pos.line X.env=pure false:=by rfl) (hf:X.fn x=true\/X.env.scope.names.lookup x=some .local:=by first | exact .inl rfl | exact .inr rfl | assumption) :
  PS X (.Assign [.Name x pos'] e pos) (bT7 te (aI2 i)):=by
 intro pins s σ H D I h;refine wpAny_Assign_Name (thn (O pins s σ H _ I h) λ v s1 z=>?_) hs;obtain⟨y,H1,I1,r1,Z⟩:=z;exact ah2 I1 Y hi hx r1 (λ s2 M=>⟨_,H1,M,Z⟩) hf
end
section
variable {X:Cx}{pos:Pos}
def bh3 (c:TT) (tb:TS):TS:=λ D σ H=>∃ W:Nat->St->Hp->Prop,(∃ m,W m σ H)/\∀ m σ H,W m σ H ->
 c σ H λ b H1=>if b=true then ∃ N:St->Hp->Prop,(∀ z H',N z H'->∃ M,M<m/\W M z H')/\tb {D with nx:=N,ct:=N,bk:=D.nx} σ H1 else D.nx σ H1
theorem aE8 {c:Expr}{body:List Stmt}{tc:TT}{tb:TS} (hp:PassesOwn (model X.prog X.w) X.A X.env X.xe) (hc:PT X c tc) (hb:PSs X body tb):PS X (.While c body [] pos) (bh3 tc tb):=by
 intro pins s σ H D I h;obtain⟨W,⟨m0,w0⟩,Z⟩:=h;refine wpAny_While (codeAny_whileLoop (λ n s'=>∃ Y H',Inv X pins Y H' s'/\W n Y H') ?_ m0 ⟨σ,H,I,w0⟩);rintro n s1 ⟨M,H1,I1,w1⟩;refine Ya hp (thn (hc pins s1 M H1 _ I1 (Z n M H1 w1)) λ b s2 aa=>?_);obtain⟨H2,I2,q2⟩:=aa;cases b with
 |true =>
  obtain⟨N,hN,q2⟩:=q2;rw[if_pos rfl];refine Ya hp (thn (hb pins s2 M H2 _ I2 q2) λ f s3 q3=>?_);cases f with
  |next =>
   obtain⟨z,O,I3,n3⟩:=q3;obtain⟨m',hm,w3⟩:=hN z O n3;exact⟨m',hm,z,O,I3,w3⟩
  |cont =>
   obtain⟨z,O,I3,n3⟩:=q3;obtain⟨m',hm,w3⟩:=hN z O n3;exact⟨m',hm,z,O,I3,w3⟩
  |brk=>exact q3
  |ret v=>exact q3
 |false =>
  rw[if_neg Qi];exact Jx ⟨M,H2,I2,q2⟩
end
structure It where
 go:Nat->Hp->Prop
 yld:Nat->Hp->V->Hp->Prop
 stop:Nat->Hp->Prop
def ap7 (X:Cx) (pins:List (Addr×Obj)) (H:Hp) (b:Addr):Prop :=
 H b=none/\b≠X.env.locals/\b∉X.fs/\(b∈X.ex\/X.s₀.heap.objs.size<=b)/\(∀ x c,X.env.cells.lookup x=some c->c≠b)/\∀ p∈X.pn++pins,p.1≠b
theorem Inv.fpOk {X:Cx}{pins:List (Addr×Obj)}{σ:St}{H H':Hp}{s:Shared}{b:Addr} (I:Inv X pins σ H s) (M:s.heap.objs.size<=b) (O:H' b=none):ap7 X pins H' b:=by
 refine⟨O,Ju (qr I.lt M),I.nofs M,.inr (Qq I.sz M),λ x c e z=>?_,λ p hp z=>?_⟩
 ·obtain⟨v,q⟩:=I.cell x c e;exact absurd (qr q.lt (by rw[z];exact M)) (Zf _)
 ·exact absurd (qr (qm (I.pin p hp).1) (by rw[z];exact M)) (Zf _)
structure Turn (P:Program) (w:World) (K:Frag) (tg:Expr) (J:It) (fp:List Addr) (it:Addr) (tn:Nat->Heap->Prop):Prop where
 mem:it∈fp
 obj:∀ i h,tn i h->∀ b∈fp,∃ o,h.get? b=some o/\∀ v,o.data≠.cell v
 keep:∀ i h h',tn i h->(∀ b∈fp,∀ o,h.get? b=some o->h'.get? b=some o)->tn i h'
 item:∀ (X:Cx),X.prog=P->X.w=w->X.K=K->X.calm=true->∀ (i:Nat) (pins:List (Addr×Obj)) (s:Shared) (σ:St) (H:Hp) (E:Value->Shared->Prop),Inv X pins σ H s->(∀ b∈fp,ap7 X pins H b)->tn i s.heap->J.go i H ->
  wpAny (model P w) X.A (pyNext (.ref it)) (λ r s1=>∃ u,r=some u /\
   wpAny (model P w) X.A (letOwnedTupleGo tg (.ref it) u) (λ _ s2=>∃ x H',Inv X pins σ H' s2/\RelV x u/\J.yld i H x H'/\tn (i+1) s2.heap/\∀ b∈fp,H' b=none) E s1) E s
 done:∀ (X:Cx),X.prog=P->X.w=w->X.K=K->X.calm=true->∀ (i:Nat) (pins:List (Addr×Obj)) (s:Shared) (σ:St) (H:Hp) (E:Value->Shared->Prop),Inv X pins σ H s->(∀ b∈fp,ap7 X pins H b)->tn i s.heap->J.stop i H ->
  wpAny (model P w) X.A (pyNext (.ref it)) (λ r s1=>r=none/\Inv X pins σ H s1) E s
 self:∀ (A:Around) (i:Nat) (s:Shared) (Q:Value->Shared->Prop) (E:Value->Shared->Prop),tn i s.heap->Q (.ref it) s->wpAny (model P w) A (pyIter (.ref it)) Q E s
abbrev TI:=St->Hp->(It->Hp->Prop)->Prop
def PIE (X:Cx) (pins:List (Addr×Obj)) (σ:St) (tg:Expr) (R:It->Hp->Prop) (z:Value) (O:Shared):Prop :=
 ∃ (it:Addr) (fp:List Addr) (M:Nat->Heap->Prop) (J:It) (H':Hp),z=.ref it/\Inv X pins σ H' O/\Turn X.prog X.w X.K tg J fp it M/\M 0 O.heap/\(∀ b∈fp,ap7 X pins H' b)/\R J H'
def PI (X:Cx) (tg iter:Expr) (M:TI):Prop :=
 ∀ (pins:List (Addr×Obj)) (s:Shared) (σ:St) (H:Hp) (R:It->Hp->Prop),Inv X pins σ H s->M σ H R ->
  wpAny (model X.prog X.w) X.A (eval iter X.env) (λ v z=>wpAny (model X.prog X.w) X.A (pyIter v) (PIE X pins σ tg R) X.xe z) X.xe s
theorem ay1 {M:Model}{A:Around}{E:Value->Shared->Prop}{s:Shared}{tg:Expr}{it:Addr}{u:Value}{o:Obj}{n:String}{vs:Array Value}{Q:Unit->Shared->Prop} (ho:s.heap.get? it=some o) (Y:o.cls=.type n) (Z:o.data=.fields vs)
  (O:["enumerate","zip","dict_itemiterator","dict_reverseitemiterator","odict_iterator","itertools.zip_longest","itertools.pairwise"].contains n=false) (z:Q () s):wpAny M A (letOwnedTupleGo tg (.ref it) u) Q E s:=by
 unfold letOwnedTupleGo;cases tg <;> first
  |exact qd z
  |(cases u <;> first
    |exact qd z
    |(refine qc (wpAny_load ho ?_);rw[Y,Z];show wpAny M A (if (["enumerate","zip","dict_itemiterator","dict_reverseitemiterator","odict_iterator","itertools.zip_longest","itertools.pairwise"].contains n&&vs[0]?==some (rawInt _))=true then _ else _) Q E s;rw[if_neg (by intro h;rw[O,Bool.false_and] at h;cases h)];exact qd z))
noncomputable def Itl (K:Frag) (a:Addr):It :=
 ⟨λ i H=>∃ xs x,SqL K H a xs/\xs[i]?=some x,λ i H x H'=>H'=H/\∀ xs,SqL K H a xs->xs[i]?=some x,λ i H=>∃ xs,SqL K H a xs/\xs.length<=i⟩
noncomputable def Itt (K:Frag) (a:Addr):It :=
 ⟨λ i H=>∃ xs x,SqT K H a xs/\xs[i]?=some x,λ i H x H'=>H'=H/\∀ xs,SqT K H a xs->xs[i]?=some x,λ i H=>∃ xs,SqT K H a xs/\xs.length<=i⟩
noncomputable def Itr (lo:Int) (n:Nat):It:=⟨λ i _=>i<n,λ i H x H'=>H'=H/\x=.int (lo+i),λ i _=>n<=i⟩
theorem aq9 {P:Program}{w:World}{K:Frag}{tg:Expr} (a it:Addr):Turn P w K tg (Itl K a) [it] it (λ i h=>h.IsListIter it a i) where
 mem:=by simp
 obj:=λ i h st b M=>by
  have e:b=it:=by simpa using M
  subst e;obtain⟨o,e,c,d⟩:=st;exact⟨o,e,λ v z=>by rw[d] at z;cases z⟩
 keep:=λ i h h' st k=>st.at λ o e=>k it (by simp) o e
 item:=by
  intro X hP hw Y hc i pins s σ H E I hf st hg;subst hP hw Y;obtain⟨xs,x,hq,Z⟩:=hg;obtain⟨aa,rv,p,hz⟩:=I.list hq;obtain⟨u,hu,ru⟩:=rv.get Z;obtain⟨f0,f1,f2,f3,f4,f5⟩:=hf it (by simp);refine wpAny_pyNext_list_item st p.isList (x:=u) (by simpa using hu) λ h' O sb=>?_;have I1:Inv X pins σ H {s with heap:=h'}:=I.turned (t':=s.toks) (λ b o M e=>(sb.2 b M).trans e) f0 f1 f3 f4 f5;obtain⟨o,e,c,d⟩:=id O;exact⟨u,rfl,ay1 (s:={s with heap:=h'}) e c d (by decide) ⟨x,H,I1,ru,⟨rfl,λ ys hy=>by rw[I.list_inj hy hq];exact Z⟩,O,λ b M=>(hf b M).1⟩⟩
 done:=by
  intro X hP hw Y hc i pins s σ H E I hf st hg;subst hP hw Y;obtain⟨xs,hq,Z⟩:=hg;obtain⟨aa,rv,p,hz⟩:=I.list hq;obtain⟨f0,f1,f2,f3,f4,f5⟩:=hf it (by simp);have hl:=rv.length;exact wpAny_pyNext_list_end (I.ok.hd hc) st p.isList (by simp;omega) λ h' eb=>⟨rfl,I.turned (t':=s.toks) (λ b o M e=>eb b o M e) f0 f1 f3 f4 f5⟩
 self:=λ _ _ _ _ _ st h=>wpAny_pyIter_listiter st h
theorem al9 {P:Program}{w:World}{K:Frag}{tg:Expr} (a it:Addr):Turn P w K tg (Itt K a) [it] it (λ i h=>h.IsTupleIter it a i) where
 mem:=by simp
 obj:=λ i h st b M=>by
  have e:b=it:=by simpa using M
  subst e;obtain⟨o,e,c,d⟩:=st;exact⟨o,e,λ v z=>by rw[d] at z;cases z⟩
 keep:=λ i h h' st k=>st.at λ o e=>k it (by simp) o e
 item:=by
  intro X hP hw Z hc i pins s σ H E I hf st hg;subst hP hw Z;obtain⟨xs,x,hq,hx⟩:=hg;obtain⟨O,rv,p,hz⟩:=I.tuple hq;obtain⟨u,hu,ru⟩:=rv.get hx;obtain⟨f0,f1,f2,f3,f4,f5⟩:=hf it (by simp);refine wpAny_pyNext_tuple_item st (show s.heap.IsTuple a O.toArray from p) (x:=u) (by simpa using hu) λ h' Y sb=>?_;have I1:Inv X pins σ H {s with heap:=h'}:=I.turned (t':=s.toks) (λ b o M e=>(sb.2 b M).trans e) f0 f1 f3 f4 f5;obtain⟨o,e,c,d⟩:=id Y;exact⟨u,rfl,ay1 (s:={s with heap:=h'}) e c d (by decide) ⟨x,H,I1,ru,⟨rfl,λ ys hy=>by rw[I.tuple_inj hy hq];exact hx⟩,Y,λ b M=>(hf b M).1⟩⟩
 done:=by
  intro X hP hw Z hc i pins s σ H E I hf st hg;subst hP hw Z;obtain⟨xs,hq,hx⟩:=hg;obtain⟨O,rv,p,hz⟩:=I.tuple hq;obtain⟨f0,f1,f2,f3,f4,f5⟩:=hf it (by simp);have hl:=rv.length;exact wpAny_pyNext_tuple_end (I.ok.hd hc) st (show s.heap.IsTuple a O.toArray from p) (by simp;omega) λ h' eb=>⟨rfl,I.turned (t':=s.toks) (λ b o M e=>eb b o M e) f0 f1 f3 f4 f5⟩
 self:=λ _ _ _ _ _ st h=>wpAny_pyIter_tupleiter st h
theorem am0 {P:Program}{w:World}{K:Frag}{tg:Expr} (it:Addr) (lo:Int) (n:Nat):Turn P w K tg (Itr lo n) [it] it (λ i h=>IsRangeIter h it (lo+(i:Nat)*1) ((n:Int)-(i:Nat)) 1) where
 mem:=by simp
 obj:=λ i h st b M=>by
  have e:b=it:=by simpa using M
  subst e;exact⟨_,st,λ v z=>by
   have z':Data.fields _=Data.cell v:=z;cases z'⟩
 keep:=λ i h h' st k=>k it (by simp) _ st
 item:=by
  intro X hP hw hK hc i pins s σ H E I hf st hg;subst hP hw hK;obtain⟨f0,f1,f2,Z,Y,f5⟩:=hf it (by simp);have W:=Walks.range (prog:=X.prog) (w:=X.w) (I.ok.hd hc) it lo 1 n;refine W.item i s _ _ hg st λ v h' tk hv O kk=>?_;obtain⟨t,rfl⟩:=hv;have I1:Inv X pins σ H {s with heap:=h',toks:=tk}:=I.turned (λ b o M e=>kk b o (by simpa using M) e) f0 f1 Z Y f5;refine⟨_,rfl,ay1 (s:={s with heap:=h',toks:=tk}) (n:="range_iterator") O rfl rfl (by decide) ⟨.int (lo+i),H,I1,⟨t,?_⟩,⟨rfl,rfl⟩,O,λ b M=>(hf b M).1⟩⟩;rw[Int.mul_one]
 done:=by
  intro X hP hw hK hc i pins s σ H E I hf st hg;subst hP hw hK;obtain⟨f0,f1,f2,Z,Y,f5⟩:=hf it (by simp);exact wpAny_pyNext_range_end (I.ok.hd hc) st (by have:n<=i:=hg;omega) λ h' eb=>⟨rfl,I.turned (t':=s.toks) (λ b o M e=>eb b o M e) f0 f1 Z Y f5⟩
 self:=λ _ _ _ _ _ st h=>wpAny_pyIter_rangeiter st h
section
variable {X:Cx}{tg:Expr}
def aH7 (K:Frag) (tl:TE):TI:=λ σ H R=>tl σ H λ x H1=>∃ a,x=.ref a/\(∃ xs,SqL K H1 a xs)/\R (Itl K a) H1
def bM6 (K:Frag) (tl:TE):TI:=λ σ H R=>tl σ H λ x H1=>∃ a,x=.ref a/\(∃ xs,SqT K H1 a xs)/\R (Itt K a) H1
theorem Q_9 {l:Expr}{tl:TE} (Z:PE X l tl):PI X tg l (aH7 X.K tl):=by
 intro pins s σ H R I h;refine thn (Z pins s σ H _ I h) λ v M z=>?_;obtain⟨x,H1,O,r1,q1⟩:=z;obtain⟨a,e,⟨xs,hq⟩,q⟩:=q1;subst e;cases r1;obtain⟨Y,rv,p,hz⟩:=O.list hq;refine wpAny_pyIter_list p.isList ?_;refine⟨M.heap.objs.size,[M.heap.objs.size],_,_,H1,rfl,O.kept (t':=M.toks) λ b o e=>qf _ e,aq9 a _,⟨_,qk _ rfl,rfl,rfl⟩,λ b hb=>?_,q⟩;have e:b=M.heap.objs.size:=by simpa using hb
 subst e;exact O.fpOk (qj _) (O.hok.fresh (qj _))
theorem bk9 {l:Expr}{tl:TE} (Z:PE X l tl):PI X tg l (bM6 X.K tl):=by
 intro pins s σ H R I h;refine thn (Z pins s σ H _ I h) λ v z M=>?_;obtain⟨x,H1,O,r1,q1⟩:=M;obtain⟨a,e,⟨xs,hq⟩,q⟩:=q1;subst e;cases r1;obtain⟨Y,rv,p,hz⟩:=O.tuple hq;refine wpAny_pyIter_tuple (show z.heap.IsTuple a Y.toArray from p) ?_;refine⟨z.heap.objs.size,[z.heap.objs.size],_,_,H1,rfl,O.kept (t':=z.toks) λ b o e=>qf _ e,al9 a _,⟨_,qk _ rfl,rfl,rfl⟩,λ b hb=>?_,q⟩;have e:b=z.heap.objs.size:=by simpa using hb
 subst e;exact O.fpOk (qj _) (O.hok.fresh (qj _))
theorem ai1 {pins:List (Addr×Obj)}{σ:St}{H:Hp}{s:Shared}{R:It->Hp->Prop}{E:Value->Shared->Prop}{lo hi:Int}{t u v:Tok}{tk:Nat} (I:Inv X pins σ H s) (h1:-(2 ^ 62)<=lo) (h2:lo<2 ^ 62) (M:-(2 ^ 62)<=hi) (O:hi<2 ^ 62)
  (q:R (Itr lo (hi-lo).toNat) H):wpAny (model X.prog X.w) X.A (pyIter (.ref s.heap.objs.size)) (PIE X pins σ tg R) E {s with heap:=s.heap.push {cls:=.type "range",data:=.fields #[.int lo t,.int hi u,.int 1 v]},toks:=tk}:=by
 refine wpAny_pyIter_range (IsRange.new ..) (small_one h1 h2 M O) ?_;have z:Inv X pins σ H {s with heap:=s.heap.push {cls:=.type "range",data:=.fields #[.int lo t,.int hi u,.int 1 v]},toks:=tk}:=I.kept λ b o e=>qf _ e;refine⟨(s.heap.push {cls:=.type "range",data:=.fields #[.int lo t,.int hi u,.int 1 v]}).objs.size,[(s.heap.push {cls:=.type "range",data:=.fields #[.int lo t,.int hi u,.int 1 v]}).objs.size],_,_,H,rfl,
  z.kept (t':=tk) λ b o e=>qf _ e,am0 _ lo (hi-lo).toNat,?_,λ b Y=>?_,q⟩
 ·have e1:lo+((0:Nat):Int)*1=lo:=by simp
  have e2:(((hi-lo).toNat:Nat):Int)-((0:Nat):Int)=Builtin.Range.rangeSize lo hi 1:=by rw[rangeSize_one];split <;> omega
  show IsRangeIter _ _ (lo+((0:Nat):Int)*1) ((((hi-lo).toNat:Nat):Int)-((0:Nat):Int)) 1;rw[e1,e2];exact qk _ rfl
 ·have e:b=(s.heap.push {cls:=.type "range",data:=.fields #[.int lo t,.int hi u,.int 1 v]}).objs.size:=by simpa using Y
  subst e;exact z.fpOk (qj _) (z.hok.fresh (qj _))
def bE5 (ta:TA):TI:=λ σ H R=>ta σ H λ vs H1=>∃ j:Int,vs=[.int j]/\-(2 ^ 62)<=j/\j<2 ^ 62/\R (Itr 0 j.toNat) H1
def bE4 (ta:TA):TI:=λ σ H R=>ta σ H λ vs H1=>∃ i j:Int,vs=[.int i,.int j]/\(-(2 ^ 62)<=i/\i<2 ^ 62/\-(2 ^ 62)<=j/\j<2 ^ 62)/\R (Itr i (j-i).toNat) H1
theorem at9 {a:Expr}{ta:TA}{p pos:Pos} (Y:Gl X "range") (hm:X.mg "range"=none) (ha:PA X [a] ta) (hs:starEach [a] X.env=[(false,eval a X.env)]:=by rfl):PI X tg (.Call (.Name "range" p) [a] [] pos) (bE5 ta):=by
 intro pins s σ H R I h;refine Call_ (P_1 I Y hm boot_range (Y3 (thn (ha pos pins s σ H _ I h) λ us s1 z=>?_) hs rfl));obtain⟨vs,H1,I1,r1,M⟩:=z;obtain⟨j,e,M,O,q⟩:=M;subst e;cases r1 with
 |cons r Z =>
  cases Z;obtain⟨t,rfl⟩:=r;exact call_range_1 (ai1 I1 (by omega) (by omega) M O (by simpa using q))
theorem at8 {a b:Expr}{ta:TA}{p pos:Pos} (hg:Gl X "range") (hm:X.mg "range"=none) (ha:PA X [a,b] ta) (hs:starEach [a,b] X.env=[(false,eval a X.env),(false,eval b X.env)]:=by rfl) (z:starEach [b] X.env=[(false,eval b X.env)]:=by rfl) :
  PI X tg (.Call (.Name "range" p) [a,b] [] pos) (bE4 ta):=by
 intro pins s σ H R I h;refine Call_ (P_1 I hg hm boot_range (Y3 (thn (ha pos pins s σ H _ I h) λ us s1 M=>?_) (by rw[hs,z]) (by rw[z];rfl)));obtain⟨vs,H1,I1,r1,O⟩:=M;obtain⟨i,j,e,⟨O,Z,q3,q4⟩,q⟩:=O;subst e;cases r1 with
 |cons r Y =>
  cases Y with
  |cons r' Y =>
   cases Y;obtain⟨t,rfl⟩:=r;obtain⟨t',rfl⟩:=r';exact call_range_2 (ai1 I1 O Z q3 q4 q)
def by2 (Y:TI) (g:TG) (tb:TS):TS:=λ D σ H=>Y σ H λ J H1=>∃ W:Nat->Nat->St->Hp->Prop,(∃ m,W 0 m σ H1)/\∀ i m σ H,W i m σ H ->
 (J.stop i H/\D.nx σ H)\/(J.go i H/\∃ N:St->Hp->Prop,(∀ z H',N z H'->∃ O,O<m/\W (i+1) O z H')/\∀ x H',J.yld i H x H'->g x σ H' λ M H2=>tb {D with nx:=N,ct:=N,bk:=D.nx} M H2)
noncomputable def O_5 (fp:List Addr) (h:Heap):List (Addr×Obj):=fp.filterMap λ b=>(h.get? b).map λ o=>(b,o)
theorem t_0 {fp:List Addr}{h:Heap}{b:Addr}{o:Obj} (z:b∈fp) (e:h.get? b=some o):(b,o)∈O_5 fp h:=List.mem_filterMap.mpr ⟨b,z,by rw[e];rfl⟩
theorem av0 {fp:List Addr}{h:Heap}{p:Addr×Obj} (hp:p∈O_5 fp h):p.1∈fp/\h.get? p.1=some p.2:=by
 obtain⟨b,z,e⟩:=List.mem_filterMap.mp hp;cases q:h.get? b with
 |none=>rw[q] at e;cases e
 |some o =>
  rw[q] at e;have e':(b,o)=p:=qi e;subst e';exact⟨z,q⟩
theorem Inv.pinned {pins:List (Addr×Obj)}{σ:St}{H:Hp}{s:Shared}{fp:List Addr} (I:Inv X pins σ H s) (hf:∀ b∈fp,ap7 X pins H b) (ho:∀ b∈fp,∃ o,s.heap.get? b=some o/\∀ v,o.data≠.cell v):Inv X (pins++O_5 fp s.heap) σ H s :=
 I.pins_of λ p hp=>(qz hp).elim (λ z=>I.pin p (qo _ z)) λ z=>by
  obtain⟨M,e⟩:=av0 z;obtain⟨Y,Z,O,_⟩:=hf p.1 M;obtain⟨o,e',d⟩:=ho p.1 M;rw[e] at e';cases e';exact⟨e,Y,Z,O,d⟩
theorem Inv.unpinned {pins z:List (Addr×Obj)}{σ:St}{H:Hp}{s:Shared} (I:Inv X (pins++z) σ H s):Inv X pins σ H s:=I.pins_of λ p hp=>I.pin p (qo _ (qp _ hp))
theorem O_4 {iter:Expr}{body:List Stmt}{wi:TI}{g:TG}{tb:TS}{pos:Pos} (hp:PassesOwn (model X.prog X.w) X.A X.env X.xe) (hc:X.calm=true) (hi:PI X tg iter wi) (hg:PG X tg g) (O:PSs X body tb)
  (hs:∀ x,foldedSetIterable iter X.env x=pure x:=by intro _;rfl):PS X (.For tg iter body [] pos) (by2 wi g tb):=by
 intro pins s σ H D I h;refine wpAny_For (thn (hi pins s σ H _ I h) λ v s1 h1=>thn h1 λ ak s2 h2=>?_) hs;obtain⟨it,fp,tn,J,H2,e,I2,T,aj,f2,W,⟨m0,w0⟩,af⟩:=h2;subst e;have ab:∀ {H':Hp},(∀ b∈fp,H' b=none)->∀ b∈fp,ap7 X pins H' b:=λ hn b O=>⟨hn b O,(f2 b O).2⟩
 refine codeAny_forLoop_any (λ n s'=>∃ i aa H',Inv X pins aa H' s'/\tn i s'.heap/\(∀ b∈fp,H' b=none)/\W i n aa H') ?_ m0 ⟨0,σ,H2,I2,aj,λ b O=>(f2 b O).1,w0⟩;rintro n s3 ⟨i,Z,H3,I3,ag,ae,w3⟩;rcases af i n Z H3 w3 with ⟨stop,qn⟩ | ⟨go,N,hN,step⟩
 ·refine Ya hp (thn (T.done X rfl rfl rfl hc i pins s3 Z H3 X.xe I3 (ab ae) ag stop) λ r s4 M=>?_);obtain⟨hr,I4⟩:=M;subst hr;exact Jx ⟨Z,H3,I4,qn⟩
 ·refine Ya hp (thn (T.item X rfl rfl rfl hc i pins s3 Z H3 X.xe I3 (ab ae) ag go) λ r s4 M=>?_);obtain⟨u,hr,h4⟩:=M;subst hr;refine Ya hp (thn h4 λ _ s5 M=>?_);obtain⟨x,H5,I5,r5,y5,ad,ah⟩:=M;have I5':=I5.pinned (ab ah) (T.obj _ _ ad);refine Ya hp (thn (hg _ s5 Z H5 x u _ I5' r5 (step x H5 y5)) λ _ s6 M=>?_);obtain⟨ai,H6,I6,q6⟩:=M;refine Ya hp (thn (O _ s6 ai H6 _ I6 q6) λ f s7 q7=>?_);have ac:∀ {z:St}{Y:Hp},Inv X (pins++O_5 fp s5.heap) z Y s7->N z Y->∃ m,m<n/\∃ i aa H',Inv X pins aa H' s7/\tn i s7.heap/\(∀ b∈fp,H' b=none)/\W i m aa H':=λ {z Y} I7 n7=>by
   obtain⟨m',hm,w7⟩:=hN z Y n7;refine⟨m',hm,i+1,z,Y,I7.unpinned,T.keep _ _ _ ad λ b O o e=>(I7.pin (b,o) (qo _ (qo _ (t_0 O e)))).1,λ b O=>?_,w7⟩;obtain⟨o,e,d⟩:=T.obj _ _ ad b O;exact (I7.pin (b,o) (qo _ (qo _ (t_0 O e)))).2.1
  cases f with
  |next=>obtain⟨z,Y,I7,n7⟩:=q7;exact ac I7 n7
  |cont=>obtain⟨z,Y,I7,n7⟩:=q7;exact ac I7 n7
  |brk=>obtain⟨z,Y,I7,q7⟩:=q7;exact⟨z,Y,I7.unpinned,q7⟩
  |ret v=>obtain⟨x7,z,Y,I7,r7,q7⟩:=q7;exact⟨x7,z,Y,I7.unpinned,r7,q7⟩
end
abbrev R2:=V->V->Hp->VK->Prop
def OpR (X:Cx) (f:Value->Value->Sem Value) (r:R2):Prop :=
 ∀ (pins:List (Addr×Obj)) (s:Shared) (σ:St) (H:Hp) (x y:V) (v u:Value) (Q:VK),Inv X pins σ H s->RelV x v->RelV y u->r x y H Q ->
  wpAny (model X.prog X.w) X.A (f v u) (EP X pins σ Q) X.xe s
def UnR (X:Cx) (f:Value->Sem Value) (r:V->Hp->VK->Prop):Prop :=
 ∀ (pins:List (Addr×Obj)) (s:Shared) (σ:St) (H:Hp) (x:V) (v:Value) (Q:VK),Inv X pins σ H s->RelV x v->r x H Q ->
  wpAny (model X.prog X.w) X.A (f v) (EP X pins σ Q) X.xe s
def CallR (X:Cx) (f:Value) (r:List V->Hp->VK->Prop):Prop :=
 ∀ (pins:List (Addr×Obj)) (s:Shared) (σ:St) (H:Hp) (xs:List V) (us:List Value) (Q:VK),Inv X pins σ H s->Vals xs us->r xs H Q ->
  wpAny (model X.prog X.w) X.A (call f us) (EP X pins σ Q) X.xe s
def cb6 (X:Cx) (r:V->Hp->(Bool->Hp->Prop)->Prop):Prop :=
 ∀ (pins:List (Addr×Obj)) (s:Shared) (σ:St) (H:Hp) (x:V) (v:Value) (Q:Bool->Hp->Prop),Inv X pins σ H s->RelV x v->r x H Q ->
  wpAny (model X.prog X.w) X.A (truthy v) (TP X pins σ Q) X.xe s
def tOp (r:R2) (ta tb:TE):TE:=λ σ H Q=>ta σ H λ x H1=>tb σ H1 λ y H2=>r x y H2 Q
def tUn (r:V->Hp->VK->Prop) (ta:TE):TE:=λ σ H Q=>ta σ H λ x H1=>r x H1 Q
def rI (C:Int->Int->Prop) (g:Int->Int->V):R2:=λ x y H Q=>∃ i j,x=.int i/\y=.int j/\C i j/\Q (g i j) H
def rI0 (g:Int->Int->V):R2:=λ x y H Q=>∃ i j,x=.int i/\y=.int j/\Q (g i j) H
def rU (g:Int->V):V->Hp->VK->Prop:=λ x H Q=>∃ i,x=.int i/\Q (g i) H
section
variable {X:Cx}{a b c:Expr}{ta tb tc:TE}{pos:Pos}
theorem bI4 (ha:PE X a ta) (hb:PE X b tb) {pins:List (Addr×Obj)}{s:Shared}{σ:St}{H:Hp}{R:V->V->Hp->Prop} (I:Inv X pins σ H s)
  (h:ta σ H λ x H1=>tb σ H1 λ y H2=>R x y H2) {Q:Value->Shared->Prop}{f:Value->Value->Sem Value}
  (hf:∀ v u Y x y H2,Inv X pins σ H2 Y->RelV x v->RelV y u->R x y H2->wpAny (model X.prog X.w) X.A (f v u) Q X.xe Y) :
  wpAny (model X.prog X.w) X.A (eval a X.env) (λ v O=>wpAny (model X.prog X.w) X.A (eval b X.env) (λ u M=>wpAny (model X.prog X.w) X.A (f v u) Q X.xe M) X.xe O) X.xe s:=by
 refine thn (ha pins s σ H _ I h) λ v s1 z=>?_;obtain⟨x,H1,I1,r1,q1⟩:=z;refine thn (hb pins s1 σ H1 _ I1 q1) λ u Y z=>?_;obtain⟨y,H2,Z,r2,q2⟩:=z;exact hf v u Y x y H2 Z r1 r2 q2
theorem bB6 {op:Operator}{r:R2} (ho:OpR X (binaryOp op) r) (ha:PE X a ta) (Z:PE X b tb):PE X (.BinOp a op b pos) (tOp r ta tb):=by intro pins s σ H Q I h;exact wpAny_BinOp (bI4 ha Z I h λ v u Y x y H2 M z O q=>ho pins Y σ H2 x y v u Q M z O q)
theorem bl3 {op:UnaryOp}{r:V->Hp->VK->Prop} (Z:UnR X (unaryOp op) r) (ha:PE X a ta):PE X (.UnaryOp op a pos) (tUn r ta):=by intro pins s σ H Q I h;exact UnaryOp_ (thn (ha pins s σ H _ I h) λ v M ⟨x,H1,z,Y,O⟩=>Z pins M σ H1 x v Q z Y O)
theorem opI {f:Value->Value->Sem Value}{C:Int->Int->Prop}{g:Int->Int->Int}
  (z:∀ (i j:Int) (t u:Tok) (s:Shared) (Q:Value->Shared->Prop) (E:Value->Shared->Prop),C i j->Q (.int (g i j) s.toks) {s with toks:=s.toks+1}->wpAny (model X.prog X.w) X.A (f (.int i t) (.int j u)) Q E s) :
  OpR X f (rI C λ i j=>.int (g i j)):=by
 intro pins s σ H x y v u Q I O Y h;obtain⟨i,j,rfl,rfl,M,q⟩:=h;obtain⟨t,rfl⟩:=O;obtain⟨t',rfl⟩:=Y;exact z i j t t' s _ _ M ⟨.int (g i j),H,I.tok _,⟨_,rfl⟩,q⟩
theorem bL2 {f:Value->Value->Sem Value}{g:Int->Int->Int}
  (z:∀ (i j:Int) (t u:Tok) (s:Shared) (Q:Value->Shared->Prop) (E:Value->Shared->Prop),Q (.int (g i j) s.toks) {s with toks:=s.toks+1}->wpAny (model X.prog X.w) X.A (f (.int i t) (.int j u)) Q E s) :
  OpR X f (rI0 λ i j=>.int (g i j)):=by
 intro pins s σ H x y v u Q I M O h;obtain⟨i,j,rfl,rfl,q⟩:=h;obtain⟨t,rfl⟩:=M;obtain⟨t',rfl⟩:=O;exact z i j t t' s _ _ ⟨.int (g i j),H,I.tok _,⟨_,rfl⟩,q⟩
theorem bv8 {f:Value->Value->Sem Value}{g:Int->Int->Bool}
  (z:∀ (i j:Int) (t u:Tok) (s:Shared) (Q:Value->Shared->Prop) (E:Value->Shared->Prop),Q (.bool (g i j)) s->wpAny (model X.prog X.w) X.A (f (.int i t) (.int j u)) Q E s) :
  OpR X f (rI0 λ i j=>.bl (g i j)):=by
 intro pins s σ H x y v u Q I M O h;obtain⟨i,j,rfl,rfl,q⟩:=h;obtain⟨t,rfl⟩:=M;obtain⟨t',rfl⟩:=O;exact z i j t t' s _ _ ⟨.bl (g i j),H,I,rfl,q⟩
def cb8 (i j:Int):Prop:=0<=j/\j<=1000000/\i.natAbs<2 ^ 64
def CMul (i j:Int):Prop:=(-(2 ^ 64)<i/\i<2 ^ 64)\/(-(2 ^ 64)<j/\j<2 ^ 64)
theorem CMul.ok {i j:Int} (h:CMul i j):IntMulOk i j:=by
 rcases h with ⟨h1,h2⟩ | ⟨h1,h2⟩
 ·exact .of_left (Uj h1 h2)
 ·exact .of_right (Uj h1 h2)
theorem op_add:OpR X (binaryOp .Add) (rI0 λ i j=>.int (i+j)):=bL2 λ _ _ _ _ _ _ _ q=>add_int q
theorem bm7:OpR X (binaryOp .Sub) (rI0 λ i j=>.int (i-j)):=bL2 λ _ _ _ _ _ _ _ q=>sub_int q
theorem aV2:OpR X (binaryOp .Mod) (rI (λ _ j=>j≠0) λ i j=>.int (i.fmod j)):=opI λ _ _ _ _ _ _ _ z q=>mod_int' z q
theorem bm8:OpR X (binaryOp .Pow) (rI cb8 λ i j=>.int (i ^ j.toNat)):=opI λ _ _ _ _ _ _ _ z q=>pow_int_small z.1 z.2.1 z.2.2 q
theorem unI {f:Value->Sem Value}{g:Int->Int}
  (z:∀ (i:Int) (t:Tok) (s:Shared) (Q:Value->Shared->Prop) (E:Value->Shared->Prop),Q (.int (g i) s.toks) {s with toks:=s.toks+1}->wpAny (model X.prog X.w) X.A (f (.int i t)) Q E s) :
  UnR X f (rU λ i=>.int (g i)):=by
 intro pins s σ H x v Q I M h;obtain⟨i,rfl,q⟩:=h;obtain⟨t,rfl⟩:=M;exact z i t s _ _ ⟨.int (g i),H,I.tok _,⟨_,rfl⟩,q⟩
theorem aM2:UnR X (unaryOp .USub) (rU λ i=>.int (-i)):=unI λ _ _ _ _ _ q=>neg_int q
end
section
variable {X:Cx}{a b c:Expr}{ta tb tc:TE}{pos:Pos}
theorem ay6 {pins:List (Addr×Obj)}{σ:St}{H:Hp}{s:Shared}{Q:VK}{k z:Bool} (I:Inv X pins σ H s) (q:Q (.bl k) H) (e:k=z):EP X pins σ Q (.bool z) s:=by subst e;exact⟨.bl k,H,I,rfl,q⟩
theorem bC0:OpR X (compareOp .Lt) (rI0 λ i j=>.bl (decide (i<j))):=bv8 λ _ _ _ _ _ _ _ q=>lt_int q
theorem bC1:OpR X (compareOp .LtE) (rI0 λ i j=>.bl (decide (i<=j))):=bv8 λ _ _ _ _ _ _ _ q=>le_int q
theorem bC2:OpR X (compareOp .Gt) (rI0 λ i j=>.bl (decide (j<i))):=bv8 λ _ _ _ _ _ _ _ q=>gt_int q
theorem bC3:OpR X (compareOp .GtE) (rI0 λ i j=>.bl (decide (j<=i))):=bv8 λ _ _ _ _ _ _ _ q=>ge_int q
theorem au6:OpR X (compareOp .In) (λ x y H Q=>∃ i j,x=.str i/\y=.str j/\Q (.bl (!(Builtin.Str.occurrences j i 0 j.length 1).isEmpty)) H):=by intro pins s σ H x y v u Q I z M h;obtain⟨i,j,rfl,rfl,q⟩:=h;obtain⟨t,rfl⟩:=z;obtain⟨t',rfl⟩:=M;exact in_str (ay6 I q rfl)
theorem bn0:OpR X (compareOp .Is) (λ x y H Q=>y=.non/\Q (.bl (decide (x=.non))) H):=by
 intro pins s σ H x y v u Q I z M h;obtain⟨rfl,q⟩:=h;cases M;refine is_none_gen (ay6 I q ?_);cases x <;> first
  |(cases z;rfl)
  |(obtain⟨t,rfl⟩:=z;rfl)
theorem aV1:OpR X (compareOp .IsNot) (λ x y H Q=>y=.non/\Q (.bl (!decide (x=.non))) H):=by
 intro pins s σ H x y v u Q I z M h;obtain⟨rfl,q⟩:=h;cases M;refine isnot_none_gen (ay6 I q ?_);cases x <;> first
  |(cases z;rfl)
  |(obtain⟨t,rfl⟩:=z;rfl)
theorem OpR.or {f:Value->Value->Sem Value}{r O:R2} (h:OpR X f r) (h':OpR X f O):OpR X f (λ x y H Q=>r x y H Q\/O x y H Q):=by
 intro pins s σ H x y v u Q I z M q;rcases q with q | q
 ·exact h pins s σ H x y v u Q I z M q
 ·exact h' pins s σ H x y v u Q I z M q
theorem aO0 (b:Expr) {op:CmpOp} (h:op≠.In:=by decide) (h2:op≠.NotIn:=by decide):behindInMarks op b=false:=by
 have e1:(op==CmpOp.In)=false:=by cases op <;> first | rfl | exact absurd rfl h
 have e2:(op==CmpOp.NotIn)=false:=by cases op <;> first | rfl | exact absurd rfl h2
 cases b <;> simp[behindInMarks,e1,e2]
theorem aU6 {op:CmpOp}{r:R2} (ho:OpR X (compareOp op) r) (ha:PE X a ta) (Z:PE X b tb) (hm:behindInMarks op b=false):PE X (.Compare a [op] [b] pos) (tOp r ta tb):=by intro pins s σ H Q I h;exact wpAny_Compare1 (bI4 ha Z I h λ v u Y x y H2 M z O q=>ho pins Y σ H2 x y v u Q M z O q) hm
def aR7 (t:TE):TT:=λ σ H Q=>t σ H λ x H'=>∃ k,x=.bl k/\Q k H'
theorem aU1 {op:CmpOp}{r:R2} (M:OpR X (compareOp op) r) (ha:PE X a ta) (hb:PE X b tb) (hm:behindInMarks op b=false):PT X (.Compare a [op] [b] pos) (aR7 (tOp r ta tb)):=by
 intro pins s σ H Q I h;refine wpAny_isTrue_Compare1 (thn (ha pins s σ H _ I h) λ v Z ⟨x,H1,I1,r1,q1⟩=>thn (hb pins Z σ H1 _ I1 q1) λ u s2 ⟨y,H2,O,r2,Y⟩ =>
  thn (M pins s2 σ H2 x y v u _ O r1 r2 Y) λ c s3 ⟨z,H3,I3,r3,k,e,q3⟩=>?_) hm
 subst e;cases r3;exact Zg ⟨H3,I3,q3⟩
def aN0 (r Y:R2) (ta tb tc:TE):TE:=λ σ H Q=>ta σ H λ x H1=>tb σ H1 λ y H2=>r x y H2 λ z M=>∃ k,z=.bl k /\
 (if k=true then tc σ M λ O Z=>Y y O Z Q else Q (.bl false) M)
theorem aE7 {op M:CmpOp}{r r':R2} (ho:OpR X (compareOp op) r) (Y:OpR X (compareOp M) r') (ha:PE X a ta) (hb:PE X b tb) (hc:PE X c tc)
  (hm:lastMarks [op,M] [b,c]=false:=by with_unfolding_all rfl):PT X (.Compare a [op,M] [b,c] pos) (aR7 (aN0 r r' ta tb tc)):=by
 intro pins s σ H Q I h;refine isTrue_chain (thn (ha pins s σ H _ I h) λ v s1 ⟨x,H1,I1,r1,q1⟩=>test_link (thn (hb pins s1 σ H1 _ I1 q1) λ u s2 ⟨y,H2,I2,r2,q2⟩ =>
  thn (ho pins s2 σ H2 x y v u _ I2 r1 r2 q2) λ d s3 ⟨z,Z,I3,r3,k,e,q3⟩=>?_)) hm
 subst e;cases r3;refine Zg ?_;cases k with
 |false =>
  obtain⟨k',e',q'⟩:=q3;cases e';exact ite_ff ⟨Z,I3,q'⟩
 |true =>
  refine ite_tt (test_last (thn (hc pins s3 σ Z _ I3 q3) λ w' s4 ⟨z',H4,I4,r4,q4⟩=>thn (Y pins s4 σ H4 y z' u w' _ I4 r2 r4 q4) λ d' s5 O=>?_));obtain⟨z2,H5,I5,r5,k2,e2,q5⟩:=O;subst e2;cases r5;exact Zg ⟨H5,I5,q5⟩
def bw5 (K:Frag) (x:V) (H:Hp) (k:Bool):Prop :=
 match x with
 |.non=>k=false
 |.bl b=>k=b
 |.int i=>k=(i != 0)
 |.str y=>y.length<=sizeLine/\k=((y.length:Int) != 0)
 |.byt y=>y.size<=sizeLine/\k=((y.size:Int) != 0)
 |.ref p=>(∃ xs,SqL K H p xs/\k=!xs.isEmpty)\/(∃ xs,SqT K H p xs/\k=!xs.isEmpty)\/∃ z,H p=some (.dK z)/\k=!z.isEmpty
 |_=>False
theorem ao5 {κ:Type}{z:List (κ×V)}{vs:List (κ×Value)} (r:KV z vs):(!vs.isEmpty)=!z.isEmpty:=by cases r <;> rfl
theorem P_5 {xs:List V}{z:List Value} (r:Vals xs z):(!z.toArray.isEmpty)=!xs.isEmpty:=by cases r <;> simp
theorem O_9:(sizeLine:Nat)<2 ^ 63:=by rw[sizeLine_eq];decide
theorem aM6:cb6 X (λ x H Q=>∃ k,bw5 X.K x H k/\Q k H):=by
 intro pins s σ H x v Q I O h;obtain⟨k,e,q⟩:=h;have hl:=O_9;have hs:sizeLine=16777216:=sizeLine_eq;cases x with
 |non =>
  cases O;have e':k=false:=e;subst e';exact truthy_none ⟨H,I,q⟩
 |bl b =>
  cases O;have e':k=b:=e;subst e';exact Zg ⟨H,I,q⟩
 |int i =>
  obtain⟨t,rfl⟩:=O;have e':k=(i != 0):=e;subst e';exact PySem.P.truthy_int ⟨H,I,q⟩
 |str y =>
  obtain⟨t,rfl⟩:=O;obtain⟨hy,e'⟩:y.length<=sizeLine/\k=((y.length:Int) != 0):=e;subst e';exact PySem.P.truthy_str (by omega) ⟨H,I.tok _,q⟩
 |byt y =>
  obtain⟨t,rfl⟩:=O;obtain⟨hy,e'⟩:y.size<=sizeLine/\k=((y.size:Int) != 0):=e;subst e';exact PySem.W.truthy_bytes (by omega) ⟨H,I.tok _,q⟩
 |ref p =>
  cases O;have e':(∃ xs,SqL X.K H p xs/\k=!xs.isEmpty)\/(∃ xs,SqT X.K H p xs/\k=!xs.isEmpty)\/∃ z,H p=some (.dK z)/\k=!z.isEmpty:=e;rcases e' with ⟨xs,hx,e'⟩ | ⟨xs,hx,e'⟩ | ⟨z,hx,e'⟩
  ·subst e';obtain⟨Y,r,Z,hz⟩:=I.list hx;have M:=r.length;exact wpAny_truthy_list Z.isList (by simp only[Qb];omega) ⟨H,I.tok _,by rw[P_5 r];exact q⟩
  ·subst e';obtain⟨Y,r,Z,hz⟩:=I.tuple hx;have M:=r.length;exact truthy_tuple Z (by simp only[Qb];omega) ⟨H,I.tok _,by rw[P_5 r];exact q⟩
  ·subst e';obtain⟨hz,hS,vs,r,m⟩:z.length<=sizeLine/\(p==sysModules)=false/\∃ vs,KV z vs/\s.heap.DictOf (c_9 X.prog X.w) p vs:=I.hok p _ hx;have M:z.length=vs.length:=Jk r;exact wpAny_truthy_dict hS m (by omega) ⟨H,I.tok _,by rw[ao5 r];exact q⟩
 |_=>exact (show False from e).elim
theorem aE6 (ha:PE X a ta) (M:∀ z,isTrue a X.env z=(do let v <- z;standAt a.pos;holding [v] (truthy v))) :
  PT X a (λ σ H Q=>ta σ H λ x H'=>∃ k,bw5 X.K x H' k/\Q k H'):=by
 intro pins s σ H Q I h;exact isTrue_plain (thn (ha pins s σ H _ I h) λ v O ⟨x,H1,I1,Z,Y⟩=>aM6 pins O σ H1 x v Q I1 Z Y) (M _)
theorem op_add_str:OpR X (binaryOp .Add) (λ x y H Q=>∃ i j,x=.str i/\y=.str j/\i.length+j.length<=sizeLine/\Q (.str (i++j)) H):=by intro pins s σ H x y v u Q I z M h;obtain⟨i,j,rfl,rfl,hz,q⟩:=h;obtain⟨t,rfl⟩:=z;obtain⟨t',rfl⟩:=M;exact add_str (λ t' tk=>⟨.str (i++j),H,I.tok _,⟨_,rfl⟩,q⟩) hz
theorem D_4 {x:V}{us:List Value} (r:Vals [x] us):∃ u,us=[u]/\RelV x u:=by
 cases r with
 |cons M z=>cases z;exact⟨_,rfl,M⟩
theorem aq6 {x y:V}{us:List Value} (r:Vals [x,y] us):∃ u z,us=[u,z]/\RelV x u/\RelV y z:=by
 cases r with
 |cons O M =>
  cases M with
  |cons r3 Y=>cases Y;exact⟨_,_,rfl,O,r3⟩
theorem aK2:CallR X (.builtin "abs") (λ xs H Q=>∃ i,xs=[.int i] ∧ Q (.int (if i<0 then -i else i)) H):=by
 intro pins s σ H xs us Q I r h;obtain⟨i,rfl,q⟩:=h;obtain⟨u,rfl,t,rfl⟩:=D_4 r;exact call_abs_int λ u tk=>⟨.int (if i<0 then -i else i),H,I.tok _,⟨_,rfl⟩,q⟩
theorem aA0 (M:X.calm=true):CallR X (.builtin "max") (λ xs H Q=>∃ i j,xs=[.int i,.int j] ∧ Q (.int (if j > i then j else i)) H):=by
 intro pins s σ H xs us Q I r h;obtain⟨i,j,rfl,q⟩:=h;obtain⟨u,O,rfl,⟨t,rfl⟩,⟨t',rfl⟩⟩:=aq6 r;refine max_two_ints (I.ok.hd M) λ h' tk k=>⟨_,H,I.kept k,?_,q⟩
 by_cases z:j > i
 ·rw[if_pos z,if_pos z];exact⟨_,rfl⟩
 ·rw[if_neg z,if_neg z];exact⟨_,rfl⟩
theorem az7 (M:X.calm=true):CallR X (.builtin "min") (λ xs H Q=>∃ i j,xs=[.int i,.int j] ∧ Q (.int (if j<i then j else i)) H):=by
 intro pins s σ H xs us Q I r h;obtain⟨i,j,rfl,q⟩:=h;obtain⟨u,O,rfl,⟨t,rfl⟩,⟨t',rfl⟩⟩:=aq6 r;refine min_two_ints (I.ok.hd M) λ h' tk k=>⟨_,H,I.kept k,?_,q⟩
 by_cases z:j<i
 ·rw[if_pos z,if_pos z];exact⟨_,rfl⟩
 ·rw[if_neg z,if_neg z];exact⟨_,rfl⟩
end
structure ObjM (h:Heap) (x dx C:Addr) (mA:Str->Option Value):Prop where
 obj:h.get? x=some (PySem.W.instObj C dx)
 ns:h.Ns1 dx mA
 ne:dx≠x
theorem RelO.some_of {v:V}{o:Option Value} (r:RelO (some v) o):∃ u,o=some u/\RelV v u:=by
 cases o with
 |none=>exact (show False from r).elim
 |some u=>exact⟨u,rfl,r⟩
theorem RelO.none_of {o:Option Value} (r:RelO none o):o=none:=by
 cases o with
 |none=>rfl
 |some u=>exact (show False from r).elim
structure Cls (K:Frag) (C:Addr):Prop where
 pg:PySem.W.plainGet K C Str.empty=true
 hd:PySem.W.hasDictIn K C=true
 po:PySem.W.plainOver K C=true
 sa:PySem.W.findIn K (.ref C) "__setattr__"=some (some (.builtin "object.__setattr__"))
theorem Cls.get {K:Frag}{C:Addr} (c:Cls K C) (f:Str):PySem.W.plainGet K C f=true:=c.pg
structure Con (K:Frag) (C:Addr) (f:Str) (v:V) (u:Value):Prop where
 at_:PySem.W.findIn K (.ref C) f=some (some u)
 rel:RelV v u
 get:PySem.W.specialIn K u "__get__"=some none
 cp:PySem.W.copiedNames.contains f=false
structure Meth (K:Frag) (C:Addr) (m:Str) (f:Addr):Prop where
 at_:PySem.W.findIn K (.ref C) m=some (some (.ref f))
 fn:PySem.W.isFn K (.ref f)=true
 kp:keepIn K (.ref f)=true
section
variable {X:Cx}{pins:List (Addr×Obj)}{σ:St}{H:Hp}{s:Shared}{A:Around}{E:Value->Shared->Prop}{Q:Value->Shared->Prop}{c:Value}{b:Bool}
inductive TyOf (K:Frag) (H:Hp):V->Value->Prop where
 |non:TyOf K H .non (.type "NoneType")
 |bl (x:Bool):TyOf K H (.bl x) (.type "bool")
 |int (i:Int):TyOf K H (.int i) (.type "int")
 |str (x:Str):TyOf K H (.str x) (.type "str")
 |flt (x:UInt64):TyOf K H (.flt x) (.type "float")
 |lst {a:Addr}{xs:List V} (e:H a=some (.lst xs)):TyOf K H (.ref a) (.type "list")
 |frz {a:Addr}{o:Obj}{xs:List V} (e:H a=some (.frz o (.lst xs))):TyOf K H (.ref a) (.type "list")
 |tup {a:Addr}{xs:List V} (e:H a=some (.tup xs)):TyOf K H (.ref a) (.type "tuple")
 |dK {a:Addr}{kvs:List (Key×V)} (e:H a=some (.dK kvs)):TyOf K H (.ref a) (.type "dict")
 |dT {a:Addr}{kvs:List (List Key×V)} (e:H a=some (.dT kvs)):TyOf K H (.ref a) (.type "dict")
 |ins {a C dx:Addr}{fs:List (Str×V)} (e:H a=some (.ins C dx fs)) (cl:Cls K C) (ha:PySem.W.findIn K (.ref C) "__class__"=some (some (.builtin "object.__class__")))
   (hn:PySem.W.specialIn K (.builtin "object.__class__") "__get__"=some (some (.builtin "getset_descriptor.__get__"))) (htk:PySem.W.takesIn K (.builtin "object.__class__")=some true)
   (hm:PySem.W.mroIn K C (.type "object")=some true):TyOf K H (.ref a) (.ref C)
end
structure Room (k:Nat) (A:Around):Prop where
 hd:A.handled=none
 dp:A.depth+3*k+5<recursionLimit
 un:A.units+16*k+200<cLine
theorem Room.mono {j k:Nat}{A:Around} (r:Room k A) (h:j<=k):Room j A:=⟨r.hd,by have:=r.dp;omega,by have:=r.un;omega⟩
theorem Room.deeper {k:Nat}{A:Around} (r:Room (k+1) A) (env:Env):Room k (A.deeper env) :=
 ⟨r.hd,by have:=r.dp;show A.depth+1+3*k+5<_;omega,by have:=r.un;show A.units+3+16*k+200<_;omega⟩
theorem Room.in1 {k:Nat}{A:Around} (r:Room (k+1) A):Room k A.in1 :=
 ⟨r.hd,by have:=r.dp;show A.depth+3*k+5<_;omega,by have:=r.un;show A.units+1+16*k+200<_;omega⟩
theorem Room.depth {k:Nat}{A:Around} (r:Room k A):A.depth<recursionLimit:=by have:=r.dp;omega
theorem Room.units {k:Nat}{A:Around} (r:Room k A):A.units+64<cLine:=by have:=r.un;omega
def be6:TA:=λ _ H Q=>Q [] H
def ar4 (ta:TE) (z:TA):TA:=λ σ H Q=>ta σ H λ x H1=>z σ H1 λ xs H2=>Q (x::xs) H2
section
variable {X:Cx}{e:Expr}{es:List Expr}{te:TE}{t:TA}{pos:Pos}
theorem x_8:PA X [] be6:=λ _ _ _ _ H Q I h=>Jf ⟨[],H,I,.nil,h⟩
theorem q_0 (ha:PE X e te) (hr:PA X es t) (hs:starEach (e::es) X.env=(false,eval e X.env)::starEach es X.env:=by rfl):PA X (e::es) (ar4 te t):=by
 intro pos pins s σ H Q I h;rw[hs];show wpAny _ _ (spliced ((false,eval e X.env)::backTo pos (starEach es X.env))) _ _ s;refine Zt (thn (ha pins s σ H _ I h) λ u Y z=>?_);obtain⟨x,H1,I1,r1,Z⟩:=z;exact thn (hr pos pins Y σ H1 _ I1 Z) λ us s2 ⟨xs,H2,M,r2,O⟩=>⟨x::xs,H2,M,.cons r1 r2,O⟩
def bJ4 (t:TA):TE:=λ σ H Q=>t σ H λ xs H1=>xs.length<=sizeLine/\∀ p,H1 p=none->Q (.ref p) (upd H1 p (.tup xs))
def by1 (t:TA):TE:=λ σ H Q=>t σ H λ xs H1=>xs.length<=sizeLine/\∀ p,H1 p=none->Q (.ref p) (upd H1 p (.lst xs))
theorem aN7 {x1} (h:PA X es t):PE X (.Tuple es x1 pos) (bJ4 t):=by intro pins s σ H Q I hq;refine wpAny_Tuple_spliced (thn (h pos pins s σ H _ I hq) λ us M ⟨xs,H1,O,r,z,q⟩=>⟨by rw[<- r.length];exact z,?_⟩);have hf:H1 M.heap.objs.size=none:=O.hok.fresh (qj _);refine⟨.ref M.heap.objs.size,upd H1 M.heap.objs.size (.tup xs),O.laid (t':=M.toks) (λ b u e=>qf _ e) (qj _) ?_,rfl,q _ hf⟩;exact⟨z,us,r,⟨_,qk _ rfl,rfl,⟨_,rfl⟩,rfl⟩⟩
theorem ai4 (h:PA X es t):PE X (.List es pos) (by1 t):=by intro pins s σ H Q I hq;refine wpAny_List_spliced (thn (h pos pins s σ H _ I hq) λ us M ⟨xs,H1,O,r,z,q⟩=>⟨by rw[<- r.length];exact z,?_⟩);have hf:H1 M.heap.objs.size=none:=O.hok.fresh (qj _);refine⟨.ref M.heap.objs.size,upd H1 M.heap.objs.size (.lst xs),O.laid (t':=M.toks) (λ b u e=>qf _ e) (qj _) ?_,rfl,q _ hf⟩;exact⟨z,us,0,r,qk _ rfl⟩
end
abbrev Sp:=List V->Hp->VK->XK->Prop
abbrev CXT:=List Env->Hp->Shared->XK->Value->Shared->Prop
structure Env0 (P:Program) (w:World) (K:Frag) (mg:Str->Option Value) (base:Heap) (A:Around) (outer:List Env) (s:Shared) (H:Hp):Prop where
 frames:A.frames=some outer
 mod:Mod K mg base
 bs:∀ b o,base.get? b=some o->s.heap.get? b=some o/\H b=none
 bsz:base.objs.size<=s.heap.objs.size
 funs:s.heap.FunFrames base outer
 frf:∀ b∈frs outer,H b=none
 hok:HOk P w H s.heap
 bare:AllBare s.gens
 tab:H TabP=some (.tbl D_0)
def CE (outer:List Env) (P:Program) (w:World) (H:Hp) (s:Shared) (Q:VK) (u:Value) (s':Shared):Prop :=
 ∃ v H',s'.os=s.os/\AllBare s'.gens/\Un (frs outer) [] H H' s.heap s'.heap/\HOk P w H' s'.heap/\RelV v u/\Q v H'
def CR (CX:CXT) (outer:List Env) (P:Program) (w:World) (H:Hp) (s:Shared) (Q:VK) (E:XK) (r:Result) (s':Shared):Prop :=
 match r with
 |.ok (.ret u)=>CE outer P w H s Q u s'
 |.ok _=>False
 |.error e=>CX outer H s E e s'
structure FnOk (P:Program) (w:World) (K:Frag) (mg:Str->Option Value) (base:Heap) (CX:CXT) (k:Nat) (f:Addr) (fd:FuncData) (ps:List Str) (sp:Sp):Prop where
 len:∀ vs H Q E,sp vs H Q E->vs.length=ps.length
 run:∀ (A:Around) (outer:List Env) (s:Shared) (H:Hp) (args:Args) (us:List Value) (vs:List V) (Q:VK) (E:XK),Room k A->Env0 P w K mg base A outer s H->BindsTo s fd args (ps.zip us)->Vals vs us->sp vs H Q E ->
  codeAny (model P w) A (.call (.ref f) args) (CR CX outer P w H s Q E) s
theorem FnOk.mono {P:Program}{w:World}{K:Frag}{mg:Str->Option Value}{base:Heap}{CX:CXT}{j k:Nat}{f:Addr}{fd:FuncData}{ps:List Str}{sp:Sp} (F:FnOk P w K mg base CX j f fd ps sp) (h:j<=k) :
  FnOk P w K mg base CX k f fd ps sp:=⟨F.len,λ A outer s H args us vs Q E hr=>F.run A outer s H args us vs Q E (hr.mono h)⟩
theorem FnOk.imp {P:Program}{w:World}{K:Frag}{mg:Str->Option Value}{base:Heap}{CX:CXT}{k:Nat}{f:Addr}{fd:FuncData}{ps:List Str}{sp z:Sp} (F:FnOk P w K mg base CX k f fd ps sp)
  (h:∀ vs H Q E,z vs H Q E->sp vs H Q E):FnOk P w K mg base CX k f fd ps z :=
 ⟨λ vs H Q E q=>F.len vs H Q E (h _ _ _ _ q),λ A outer s H args us vs Q E hr M O Y hs=>F.run A outer s H args us vs Q E hr M O Y (h _ _ _ _ hs)⟩
theorem Env0.in1 {P:Program}{w:World}{K:Frag}{mg:Str->Option Value}{base:Heap}{A:Around}{outer:List Env}{s:Shared}{H:Hp} (e:Env0 P w K mg base A outer s H) :
  Env0 P w K mg base A.in1 outer s H:=⟨e.frames,e.mod,e.bs,e.bsz,e.funs,e.frf,e.hok,e.bare,e.tab⟩
section
variable {X:Cx}{pins:List (Addr×Obj)}{σ:St}{H:Hp}{s s':Shared}
theorem Inv.env0 (I:Inv X pins σ H s):Env0 X.prog X.w X.K X.mg X.base X.A X.stack s H :=
 ⟨I.ok.frames,I.ok.mod,I.bs,Qq I.ok.bsz I.sz,I.stack,I.stkFree,I.hok,I.bare,I.base.tbls _ _ I.ok.tab⟩
theorem Inv.after {Q:VK}{u:Value} (I:Inv X pins σ H s) (h:CE X.stack X.prog X.w H s Q u s'):EP X pins σ Q u s':=by obtain⟨v,H',os,M,un,O,r,q⟩:=h;obtain⟨Z,g,d,t,Y⟩:=s';obtain rfl:Y=s.os:=os;exact⟨v,H',I.call (h':=Z) (g':=g) (d':=d) (t':=t) (ch:=[]) un O M (λ b z=>absurd z (by simp)),r,q⟩
end
def by3 (sp:Sp) (dvs:List V) (E:XK) (t:TA):TE:=λ σ H Q=>t σ H λ vs H1=>sp (vs++dvs) H1 Q E
def Binds (K:Frag) (fd:FuncData) (ps:List Str) (ds:List Value):Prop :=
 ∀ (s:Shared) (us:List Value),K.In s.heap->(us++ds).length=ps.length->BindsTo s fd ⟨us,[]⟩ (ps.zip (us++ds))
theorem Binds.all {K:Frag}{fd:FuncData}{ps:List Str} (h:∀ us:List Value,us.length=ps.length->bindArgs fd ⟨us,[]⟩=pure (ps.zip us)):Binds K fd ps []:=λ s us _ z=>by
 rw[Qr] at z ⊢;exact .of_eq (h us z)
def aC1 (CX:CXT) (X:Cx) (E:XK):Prop:=∀ (pins:List (Addr×Obj)) (σ:St) (H:Hp) (s:Shared) (e:Value) (s':Shared),Inv X pins σ H s->CX X.stack H s E e s'->X.xe e s'
section
variable {X:Cx}{CX:CXT}{k:Nat}{f C:Addr}{fd:FuncData}{ps:List Str}{sp:Sp}{dvs:List V}{ds:List Value}{E:XK}{x m:Str}{p pos apos:Pos}{e o:Expr}{es:List Expr}{ta:TE}{t:TA}
theorem bj1 {pins:List (Addr×Obj)}{σ:St}{H:Hp}{s:Shared}{Q:VK}{us:List Value}{vs:List V} (F:FnOk X.prog X.w X.K X.mg X.base CX k f fd ps sp) (hr:Room k X.A) (Y:Binds X.K fd ps ds) (hd:Vals dvs ds) (O:aC1 CX X E)
  (I:Inv X pins σ H s) (r:Vals vs us) (h:sp (vs++dvs) H Q E):wpAny (model X.prog X.w) X.A (call (.ref f) us) (EP X pins σ Q) X.xe s:=by
 have z:Vals (vs++dvs) (us++ds):=r.append hd;have M:(us++ds).length=ps.length:=by rw[<- z.length];exact F.len _ _ _ _ h
 refine wpAny_call (codeAny_mono (F.run X.A X.stack s H ⟨us,[]⟩ (us++ds) (vs++dvs) Q E hr I.env0 (Y s us I.kIn M) z h) λ r s' hq=>?_);cases r with
 |error e=>exact O pins σ H s e s' I hq
 |ok Z =>
  cases Z with
  |ret u=>exact I.after hq
  |next=>exact False.elim hq
  |brk=>exact False.elim hq
  |cont=>exact False.elim hq
theorem ad1 (F:FnOk X.prog X.w X.K X.mg X.base CX k f fd ps sp) (hr:Room k X.A) (Z:Gl X x) (hm:X.mg x=some (.ref f)) (hk:keepIn X.K (.ref f)=true) (hb:Binds X.K fd ps ds) (hd:Vals dvs ds) (hx:aC1 CX X E)
  (ha:PA X (e::es) t) (z:(x==("__debug__":Str))=false:=by decide) (Y:starEach (e::es) X.env=(false,eval e X.env)::starEach es X.env:=by rfl) (M:(backTo pos (starEach es X.env)).any (·.1)=false:=by rfl) :
  PE X (.Call (.Name x p) (e::es) [] pos) (by3 sp dvs E t):=by
 intro pins s σ H Q I h;refine Y5 (ae7 I Z hm ?_ z);refine PySem.W.callWith_K (h₀:=X.base) I.ok.mod.kin hk (thn (ha pos pins s σ H _ I h) λ us s1 ⟨vs,H1,O,r,q⟩=>⟨O.kIn,?_⟩) Y M;exact bj1 F hr hb hd hx O r q
structure Mk (K:Frag) (C f:Addr):Prop where
 makes:PySem.W.makesIn K C=true
 init:PySem.W.findIn K (.ref C) "__init__"=some (some (.ref f))
 fn:PySem.W.isFn K (.ref f)=true
 kp:keepIn K (.ref C)=true
end
section
variable {X:Cx}{CX:CXT}{k:Nat}{f C:Addr}{fd:FuncData}{ps ks:List Str}{sp:Sp}{E:XK}{x m:Str}{p pos apos kpos:Pos}{e o:Expr}{es:List Expr}{kws:List Keyword}{te ta:TE}{t tk:TA}{nm:Option Str}
structure KBinds (K:Frag) (fd:FuncData) (ps ks:List Str) (g:List Value->List Value->List Value) (gV:List V->List V->List V):Prop where
 to:∀ (s:Shared) (us ws:List Value),K.In s.heap->(g us ws).length=ps.length->BindsTo s fd ⟨us,ks.zip ws⟩ (ps.zip (g us ws))
 rel:∀ {vs:List V}{us:List Value}{zs:List V}{ws:List Value},Vals vs us->Vals zs ws->Vals (gV vs zs) (g us ws)
variable {g:List Value->List Value->List Value}{gV:List V->List V->List V}
end
structure FnScope (N P:List Str) (sc:Scope):Prop where
 kind:sc.kind=.function
 co:sc.isCoroutine=false
 gen:sc.isGenerator=false
 nd:N.Nodup
 pre:N.take P.length=P
 par:∀ x∈P,sc.names.lookup x=some .local\/sc.names.lookup x=some .cell
 nofree:∀ y∈sc.names,y.2≠.free
theorem aa4 {z:Str->Option NameKind}{x:Str}:∀ {binds:List (Str×Value)}{m:Str->Option Value},(∀ v,(x,v)∉binds)->bindL z binds m x=m x
 |[],_,_=>rfl
 |(n,v)::r,m,h=>by
  unfold bindL;rw[aa4 λ w M=>h w (Ye _ M)];split
  ·have:x≠n:=by rintro rfl;exact h v qg
   simp[this]
  ·rfl
theorem aa6 {z:Str->Option NameKind}{x:Str}:∀ {binds:List (Str×Value)}{m:Str->Option Value},(∀ v,(x,v)∉binds)->bindC z binds m x=m x
 |[],_,_=>rfl
 |(n,v)::r,m,h=>by
  unfold bindC;rw[aa6 λ w M=>h w (Ye _ M)];split
  ·rfl
  ·have:x≠n:=by rintro rfl;exact h v qg
   simp[this]
theorem aa5 {z:Str->Option NameKind}{x:Str}{v:Value}:∀ {P:List Str}{vs:List Value}{i:Nat}{m:Str->Option Value},P.Nodup->P[i]?=some x->vs[i]?=some v->z x=some .local ->
  bindL z (P.zip vs) m x=some v
 |[],_,_,_,_,h,_,_=>by simp at h
 |_::_,[],_,_,_,_,h,_=>by simp at h
 |p::P,w::vs,0,m,nd,h1,h2,hk=>by
  simp at h1 h2;subst h1;subst h2;show bindL z ((p,w)::P.zip vs) m p=_;unfold bindL;rw[aa4 λ v M=>(List.nodup_cons.mp nd).1 (J0 M).1,if_pos hk];simp
 |p::P,w::vs,i+1,m,nd,h1,h2,hk=>by
  show bindL z ((p,w)::P.zip vs) m x=_;unfold bindL;exact aa5 (i:=i) (List.nodup_cons.mp nd).2 (by simpa using h1) (by simpa using h2) hk
theorem aa7 {z:Str->Option NameKind}{x:Str}{v:Value}:∀ {P:List Str}{vs:List Value}{i:Nat}{m:Str->Option Value},P.Nodup->P[i]?=some x->vs[i]?=some v->z x≠some .local ->
  bindC z (P.zip vs) m x=some v
 |[],_,_,_,_,h,_,_=>by simp at h
 |_::_,[],_,_,_,_,h,_=>by simp at h
 |p::P,w::vs,0,m,nd,h1,h2,hk=>by
  simp at h1 h2;subst h1;subst h2;show bindC z ((p,w)::P.zip vs) m p=_;unfold bindC;rw[aa6 λ v M=>(List.nodup_cons.mp nd).1 (J0 M).1,if_neg hk];simp
 |p::P,w::vs,i+1,m,nd,h1,h2,hk=>by
  show bindC z ((p,w)::P.zip vs) m x=_;unfold bindC;exact aa7 (i:=i) (List.nodup_cons.mp nd).2 (by simpa using h1) (by simpa using h2) hk
def start (N:List Str) (vs:List V):St:=vs.map some++List.replicate (N.length-vs.length) none
def ak0 (CX:CXT) (P:Program) (w:World) (K:Frag) (mg:Str->Option Value) (base:Heap) (N:List Str) (z:Str) (scope:Scope) (f:Addr) (O:Value) (A:Around) (outer:List Env) (s:Shared) (H:Hp) (E:XK):Cx where
 prog:=P
 w:=w
 K:=K
 mg:=mg
 base:=base
 A:=A.deeper (envOfC z scope s.heap.objs.size f O)
 N:=N
 s₀:=s
 H₀:=H
 env:=envOfC z scope s.heap.objs.size f O
 outer:=outer
 stack:=envOfC z scope s.heap.objs.size f O::outer
 ex:=[]
 calm:=true
 fn:=λ _=>true
 pn:=[]
 xe:=λ e s'=>wpAny (model P w) (A.deeper (envOfC z scope s.heap.objs.size f O)) (leaving (envOfC z scope s.heap.objs.size f O) e) (λ _ M=>CX outer H s E e M) (λ e' M=>CX outer H s E e' M) s'
theorem ak4 {sc:Scope}{n:Nat}{x:Str} (h:sc.names.lookup x=some .cell):∃ c,(cellsFrom n sc.names []).lookup x=some c:=by have q:=Js sc.names n [] (.inl h);exact Option.isSome_iff_exists.mp q
theorem Y_6 {CX:CXT}{P:Program}{w:World}{K:Frag}{mg:Str->Option Value}{base:Heap}{N ps:List Str}{M:Str}{scope:Scope}{f:Addr}{cd:Value}{A:Around}{outer:List Env}{s s1:Shared}{H:Hp}{E:XK}{us:List Value}{vs:List V}
  (S:FnScope N ps scope) (hd:A.handled=none) (O:Env0 P w K mg base A outer s H) (hl:vs.length=ps.length) (r:Vals vs us)
  (x:InCallC s s.heap.objs.size (bindL (envOfC M scope s.heap.objs.size f cd).kindOf (ps.zip us) λ _=>none) (cellsFrom (s.heap.objs.size+1) scope.names []) (bindC (envOfC M scope s.heap.objs.size f cd).kindOf (ps.zip us) λ _=>none) s1) :
  Inv (ak0 CX P w K mg base N M scope f cd A outer s H E) [] (start N vs) H s1:=by
 have ab:ps.length<=N.length:=by have:=Zq List.length S.pre;rw[Uy] at this;omega
 obtain⟨h1,tk,rfl,hk⟩:=x.done;have Y:∀ b:Addr,b∉(ak0 CX P w K mg base N M scope f cd A outer s H E).ex:=λ b z=>absurd (show b∈([]:List Addr) from z) (by simp);refine⟨⟨O.mod,S.kind,rfl,rfl,qj _,λ y z c h1 h2=>?_,λ y Z=>?_,λ y c _ h=>?_,λ _=>hd,Around.frames_deeper O.frames,.inr ⟨rfl,rfl⟩,λ b z=>absurd z (Y b),O.bs,O.bsz,λ b _ _=>Y b,λ b z=>absurd z (Y b),O.funs,O.frf,O.tab⟩,
  rfl,O.bare,Un.kept hk,⟨_,x.toInCall.ns,λ i y v h1 h2 h3=>?_⟩,λ y c h=>⟨_,x.cell y c h⟩,O.hok.fresh (qj _),λ y c h=>?_,λ p hp=>absurd (show p∈([]:List (Addr×Obj)) from hp) (by simp),O.hok.kept hk,?_⟩
 ·exact name_of_addr x.apart (Zn h1) (Zn h2)
 ·have Z:scope.names.lookup y=some .cell\/scope.names.lookup y=some .free:=Z;rcases Z with Z | Z
  ·exact ak4 Z
  ·exact absurd rfl (S.nofree _ (Zn Z))
 ·exact Zi (x.above y c (Zn h))
 ·have hi:i<vs.length:=by
   unfold start at h2;by_cases hi:i<vs.length
   ·exact hi
   ·rw[Q4 (by simpa using hi)] at h2;rw[Z6] at h2;split at h2 <;> cases h2
  have ha:vs[i]?=some v:=by
   unfold start at h2;rw[Q0 (by simpa using hi),Qp] at h2;cases e:vs[i]? with
   |none=>rw[e] at h2;cases h2
   |some a=>rw[e] at h2;cases h2;rfl
  obtain⟨u,hu,rv⟩:=r.get ha;have hp:ps[i]?=some y:=by rw[<- S.pre,List.getElem?_take_of_lt (by omega)];exact h1
  have aa:ps.Nodup:=by rw[<- S.pre];exact S.nd.sublist (List.take_sublist _ _)
  refine⟨u,rv,?_⟩;rcases S.par y (Zl hp) with k | k
  ·exact .inl ⟨k,aa5 aa hp hu k⟩
  ·obtain⟨c,e⟩:=ak4 (n:=s.heap.objs.size+1) k;refine .inr ⟨.inl k,c,e,?_⟩;have q:=x.cell y c e;rw[aa7 aa hp hu (by show scope.names.lookup y≠_;rw[k];decide)] at q;exact q
 ·exact O.hok.fresh (Zi (x.above y c (Zn h)))
 ·unfold start;show _=N.length;rw[Qd,Qg,J8];omega
theorem bq8 {CX:CXT}{P:Program}{w:World}{K:Frag}{mg:Str->Option Value}{base:Heap}{k:Nat}{f:Addr}{name z:Str}{O:Arguments}{body:List Stmt}{scope:Scope}{dV kV ab pm M ct oc:Value}{an od:Option Addr}
  {ag:Array (Option Value)}{N ps:List Str}{sp:Sp} (lk:K.lookup f=some ⟨oc,od,.func (fnOf name z O body scope dV kV ab pm an M ct),ag⟩) (af:codeIn K M z=true) (S:FnScope N ps scope)
  (ac:∀ vs H Q E,sp vs H Q E->vs.length=ps.length)
  (Z:∀ (A:Around) (outer:List Env) (s:Shared) (H:Hp) (vs:List V) (Q:VK) (E:XK),Room k (A.deeper (envOfC z scope s.heap.objs.size f M))->sp vs H Q E ->
   ∃ t,PSs (ak0 CX P w K mg base N z scope f M A outer s H E) body t/\t {nx:=λ _ H'=>Q .non H',rt:=Q} (start N vs) H) :
  FnOk P w K mg base CX (k+1) f (fnOf name z O body scope dV kV ab pm an M ct) ps sp:=by
 refine⟨ac,λ A outer s H args us vs Q E hr e0 hb r ad=>?_⟩;have hl:=ac _ _ _ _ ad;have KX:K.In s.heap:=e0.mod.kin.keeps λ b o e=>(e0.bs b o e).1;have ah:s.heap.NoLimit:=e0.mod.nolimit.keeps λ b o e=>(e0.bs b o e).1;have aa:∀ y∈ps.zip us,scope.names.lookup y.1=some .local\/(scope.names.lookup y.1=some .cell/\((cellsFrom (s.heap.objs.size+1) scope.names []).lookup y.1).isSome=true):=λ ae hy=>by
  obtain⟨n,v⟩:=ae;rcases S.par n (J0 hy).1 with q | q
  ·exact .inl q
  ·exact .inr ⟨q,Js _ _ _ (.inl q)⟩
 refine codeAny_call_function hr.depth (KX _ _ lk) rfl S.co S.gen rfl (PySem.W.codeRec_of KX af) (hb _ _ _ _ ?_);refine wpAny_newFunctionEnv_cells S.kind aa λ env he s1 x=>?_;subst he;refine⟨ah.keeps x.toInCall.keep,codeAny_func ?_⟩;obtain⟨t,ht,hq⟩:=Z A outer s H vs Q E (hr.deeper _) ad;have I:Inv (ak0 CX P w K mg base N z scope f M A outer s H E) [] (start N vs) H s1:=Y_6 S hr.hd e0 hl r x;refine Q6 (ht [] s1 (start N vs) H _ I hq) (λ fl s' hs=>?_) λ e s' hs=>hs;have fin:∀ {Y:St}{H':Hp}{v:V}{u:Value},Inv (ak0 CX P w K mg base N z scope f M A outer s H E) [] Y H' s'->RelV v u->Q v H'->CE outer P w H s Q u s' :=
  λ {Y H' v u} J rv q=>⟨v,H',J.os,J.bare,J.base,J.hok,rv,q⟩
 cases fl with
 |ret u =>
  obtain⟨v,Y,H',J,rv,q⟩:=hs;exact fin J rv q
 |next =>
  obtain⟨Y,H',J,q⟩:=hs;exact fin (v:=V.non) (u:=Value.none) J rfl q
 |brk =>
  obtain⟨_,_,_,q⟩:=hs;exact False.elim q
 |cont =>
  obtain⟨_,_,_,q⟩:=hs;exact False.elim q
section
variable {X:Cx}{x:Str}{p pos:Pos}{e:Expr}{es:List Expr}{t:TA}{id T:String}{r:List V->Hp->VK->Prop}
def tCB (r:List V->Hp->VK->Prop) (t:TA):TE:=λ σ H Q=>t σ H λ vs H1=>r vs H1 Q
theorem ai6 (Z:CallR X (.builtin id) r) (hg:Gl X x) (hm:X.mg x=none) (hv:bootBuiltins x=some (.builtin id)) (ha:PA X (e::es) t) (Y:x≠"__name__":=by decide) (z:(x==("__debug__":Str))=false:=by decide)
  (O:starEach (e::es) X.env=(false,eval e X.env)::starEach es X.env:=by rfl) (M:(backTo pos (starEach es X.env)).any (·.1)=false:=by rfl):PE X (.Call (.Name x p) (e::es) [] pos) (tCB r t):=by
 intro pins s σ H Q I h;refine Y5 (P_1 I hg hm hv ?_ Y z);exact PyProof.Rows.callWith_builtin1 (thn (ha pos pins s σ H _ I h) λ us s1 ⟨vs,H1,I1,r1,q1⟩=>Z pins s1 σ H1 vs us Q I1 r1 q1) O M
theorem H_9 (Z:CallR X (.type T) r) (hg:Gl X x) (hm:X.mg x=none) (hv:bootBuiltins x=some (.type T)) (ha:PA X (e::es) t) (Y:x≠"__name__":=by decide) (z:(x==("__debug__":Str))=false:=by decide)
  (O:starEach (e::es) X.env=(false,eval e X.env)::starEach es X.env:=by rfl) (M:(backTo pos (starEach es X.env)).any (·.1)=false:=by rfl):PE X (.Call (.Name x p) (e::es) [] pos) (tCB r t):=by
 intro pins s σ H Q I h;refine Y5 (P_1 I hg hm hv ?_ Y z);exact Y3 (thn (ha pos pins s σ H _ I h) λ us s1 ⟨vs,H1,I1,r1,q1⟩=>Z pins s1 σ H1 vs us Q I1 r1 q1) O M
end
end L2
namespace HT
open PySem PyProof.Rows
noncomputable def lexLt:List Int->List Int->Bool
 |[],[]=>false
 |[],_::_=>true
 |_::_,[]=>false
 |x::xs,y::ys=>if x=y then lexLt xs ys else decide (x<y)
theorem lexLt_cons (x y:Int) (xs ys:List Int):lexLt (x::xs) (y::ys)=if x=y then lexLt xs ys else decide (x<y):=rfl
theorem lexLt_nil_nil:lexLt [] []=false:=rfl
theorem N_1 (y:Int) (ys:List Int):lexLt [] (y::ys)=true:=rfl
theorem N_2 (x:Int) (xs:List Int):lexLt (x::xs) []=false:=rfl
theorem aI6 (A:Around) (s:Shared) (a:Int) (t:Tok) (c:Int) (u:Tok):∃ e,SeqAt.EqAt A s (.int a t) (.int c u) e/\(e=true↔a=c) :=
 ⟨(a==c),Y7 a t c u,by simp⟩
theorem aE1 (A:Around) (s:Shared) (a:Int) (t:Tok) (c:Int) (u:Tok) (prog:Program) (w:World) (E:Value->Shared->Prop) (Q:Value->Shared->Prop) (h:Q (.bool (decide (a<c))) s) :
  wpAny (model prog w) A (richCompare .Lt (.int a t) (.int c u)) Q E s :=
 (PyProof.Rows.lt_int h:wpAny (model prog w) A (compareOp .Lt (.int a t) (.int c u)) Q E s)
section
open PySem.SeqAt
open PySem.AutoSeq1 (wpAny_loadPart')
open PySem.MeetsSeq PySem.MeetsSeq2 PySem.MeetsSeq3
theorem Q_0 (l b:Addr) (items z:Array Value) (n n2:Nat) (dd af:Option Addr) (sl ag:Array (Option Value)) (ns ms:List Int) (hi:IntsAre items.toList ns) (hj:IntsAre z.toList ms) :
  Meets (Builtin.«tuple.__lt__» ⟨[.ref l,.ref b],[]⟩)
   (λ _ R s=>s.heap.get? l=some {cls:=.type "tuple",dict:=dd,data:=.seq items n,slots:=sl} ∧ s.heap.get? b=some {cls:=.type "tuple",dict:=af,data:=.seq z n2,slots:=ag} ∧
    R (.ok (.ret (.bool (lexLt ns ms)))) s) :=
 .of_wp λ prog w A R s h=>by
  obtain⟨hp,g,d,tk,os⟩:=s;obtain⟨hl,hb,h⟩:=h;have f2:=AutoSeq1.sub_tuple_tuple;have z1:items.size=ns.length:=by rw[<- hi.length];simp
  have z2:z.size=ms.length:=by rw[<- hj.length];simp
  wp_walk using Yi hl,Yi hb,wpAny_forIn_list _ (λ rest b s'=>b.1=none/\s'=⟨hp,g,d,tk,os⟩/\∃ (vs ws:List Value) (Y O:List Int),rest=vs.zip ws /\
   IntsAre vs Y/\IntsAre ws O/\Y.length+z.size=O.length+items.size/\R (.ok (.ret (.bool (lexLt Y O)))) ⟨hp,g,d,tk,os⟩) _
  case turn =>
   rintro ⟨y,x⟩ rest b s' ⟨ab,rfl,vs,ws,Y,O,hz,ac,Z,M,hR⟩;cases ac with
   |nil=>rw[List.zip_nil_left] at hz;cases hz
   |cons a t ae =>
    cases Z with
    |nil=>rw[List.zip_nil_right] at hz;cases hz
    |cons c u ad =>
     rw[Z8] at hz;injection hz with hyx hrest
     injection hyx with hy hx
     subst hy hx;rw[lexLt_cons] at hR;simp only[Qc] at M;obtain⟨e,he,aa⟩:=aI6 A.in1 ⟨hp,g,d,tk,os⟩ a t c u;refine qc (he prog w _ _ ?_);cases e with
     |true =>
      rw[if_pos (aa.mp rfl)] at hR;wp_walk;exact⟨rfl,rfl,_,_,_,_,hrest,ae,ad,by omega,hR⟩
     |false =>
      rw[if_neg (λ q=>absurd (aa.mpr q) Qi)] at hR;have ah:=aE1 A.in1 ⟨hp,g,d,tk,os⟩ a t c u prog w;wp_walk using ah;exact⟨_,rfl,by simpa using hR⟩
  case fin =>
   rintro ⟨b1,b2⟩ s' ⟨ab,rfl,vs,ws,Y,O,hz,ac,Z,M,hR⟩;simp only at ab;subst ab;have hv:lexLt Y O=decide (items.size<z.size):=by
    cases ac with
    |nil =>
     cases Z with
     |nil =>
      simp only[Yj] at M;rw[lexLt_nil_nil];exact (Qh (by omega)).symm
     |cons c u hw =>
      simp only[Yj,Qc] at M;rw[N_1];exact (Qk (by omega)).symm
    |cons a t hv =>
     cases Z with
     |nil =>
      simp only[Yj,Qc] at M;rw[N_2];exact (Qh (by omega)).symm
     |cons c u hw =>
      rw[Z8] at hz;cases hz
   rw[hv] at hR;wp_walk;exact⟨_,rfl,by simpa [Builtin.Tuple.tupleCompareSizes] using hR⟩
  case h =>
   exact⟨rfl,rfl,items.toList,z.toList,ns,ms,rfl,hi,hj,by omega,h⟩
end
section
variable {prog:Program}{w:World}{A:Around}{E:Value->Shared->Prop}{s:Shared}
theorem lt_tupInts {l b:Addr}{items z:Array Value}{ns M:List Int}{Q:Value->Shared->Prop} (hl:IsTup s.heap l items) (hb:IsTup s.heap b z) (hi:IntsAre items.toList ns) (hj:IntsAre z.toList M)
  (hu:A.units<cLine) (h:Q (.bool (lexLt ns M)) s):wpAny (model prog w) A (compareOp .Lt (.ref l) (.ref b)) Q E s:=by
 obtain⟨⟨cls,dd,data,sl⟩,ho,hc,n,hd⟩:=id hl;obtain⟨⟨ad,ab,aa,ac⟩,Y,Z,n2,O⟩:=id hb;simp only at hc hd Z O;subst hc hd Z O;exact richCompare_meets_room (op:=.Lt) ⟨_,ho,rfl⟩ ⟨_,Y,rfl⟩ PySem.F.slot_tuple_lt PySem.F.entry_tuple_lt (PySem.F.args_tuple_lt_2 _ _) (Q_0 l b items z n n2 dd ab sl ac ns M hi hj)
  ⟨ho,Y,show Value.bool (lexLt ns M)≠Value.notImplemented/\Q (.bool (lexLt ns M)) s from ⟨(λ x=>nomatch x),h⟩⟩ hu
theorem cat_tup {t b:Addr}{vs z:List Value}{Q:Value->Shared->Prop} (ht:IsTup s.heap t vs.toArray) (hb:IsTup s.heap b z.toArray) (hv:vs≠[])
  (h1:z=[] → Q (.ref t) s) (h2:z≠[] → Q (.ref s.heap.objs.size) {s with heap:=s.heap.push {cls:=.type "tuple",data:=.seq (vs++z).toArray}})
  (ab:vs.length+z.length<=sizeLine):wpAny (model prog w) A (binaryOp .Add (.ref t) (.ref b)) Q E s:=by
 obtain⟨⟨cls,dd,data,sl⟩,ho,hc,n,hd⟩:=id ht;obtain⟨⟨ad,Y,ac,aa⟩,M,Z,n2,O⟩:=id hb;simp only at hc hd Z O;subst hc hd Z O;have e:vs.toArray++z.toArray=(vs++z).toArray:=by simp
 by_cases hw:z=[]
 ·exact concat_meets ⟨_,ho,rfl⟩ ⟨_,M,rfl⟩ noFill_tuple_add seq_tuple_add Jt Jo (Jj _ _)
   (tuple_addW1 t b vs.toArray z.toArray n n2 dd Y sl aa (by simpa using hv) (by simp[hw])) ⟨ho,M,h1 hw⟩
 ·refine concat_meets ⟨_,ho,rfl⟩ ⟨_,M,rfl⟩ noFill_tuple_add seq_tuple_add Jt Jo (Jj _ _)
   (tuple_addW2 t b vs.toArray z.toArray n n2 dd Y sl aa (by simpa using hv) (by simpa using hw) (by rw[Qb,Qb];exact ab)) ⟨ho,M,?_⟩
  rw[e];exact h2 hw
noncomputable def sIx (n d:Nat):Option Int->Nat
 |none=>d
 |some v=>if v<0 then (v+(n:Int)).toNat else min v.toNat n
theorem bi7 (n d:Nat) (M:d<=n) (o:Option Int):sIx n d o<=n:=by
 cases o with
 |none=>exact M
 |some v =>
  show (if v<0 then (v+(n:Int)).toNat else min v.toNat n)<=n;by_cases z:v<0
  ·rw[if_pos z];omega
  ·rw[if_neg z];exact Nat.min_le_right _ _
theorem az4 (v:Int) (n d:Nat):(if v<0 then max (v+(n:Int)) 0 else min v (n:Int))=((sIx n d (some v):Nat):Int):=by
 show (if v<0 then max (v+(n:Int)) 0 else min v (n:Int))=(((if v<0 then (v+(n:Int)).toNat else min v.toNat n):Nat):Int);by_cases z:v<0
 ·simp only[if_pos z];omega
 ·simp only[if_neg z];omega
theorem ap5 (lo hi:Option Int) (n:Nat):Builtin.Slice.sliceAdjust lo hi 1 (n:Int)=(((sIx n 0 lo:Nat):Int),((sIx n n hi:Nat):Int)):=by
 have h1:¬ ((1:Int)<0):=by omega
 unfold Builtin.Slice.sliceAdjust;simp only[h1,Up];refine Prod.ext ?_ ?_
 ·cases lo with
  |none=>rfl
  |some v=>exact az4 v n 0
 ·cases hi with
  |none=>rfl
  |some v=>exact az4 v n n
theorem am4 (i j:Nat):Builtin.Slice.slicePlaces (i:Int) (j:Int) 1=j-i:=by
 unfold Builtin.Slice.slicePlaces;have h1:(1:Int) > 0:=by omega
 simp only[h1,Uo,Int.ediv_one];split <;> omega
theorem O_1 {v:Value}{o:Option Int}{Q:Option Int->Shared->Prop} (p:IsPart v o) (h:Q o s):wpAny (model prog w) A (Builtin.Slice.slicePartIndex v) Q E s:=by
 cases p with
 |none=>exact slicePart_none h
 |int i t=>exact slicePart_int h
theorem F_3 {Z:Addr}{O Y:Value}{lo hi:Option Int}{n:Nat}{Q:Int×Int×Nat->Shared->Prop} (hs:s.heap.IsSliceOf Z O Y .none) (pl:IsPart O lo) (pu:IsPart Y hi)
  (h:Q (((sIx n 0 lo:Nat):Int),1,sIx n n hi-sIx n 0 lo) s):wpAny (model prog w) A (Builtin.Slice.sliceApplied (.ref Z) (pure (n:Int))) Q E s:=by
 obtain⟨os,M,aa,z⟩:=id hs;unfold Builtin.Slice.sliceApplied Builtin.Slice.sliceFields;refine qc (qc (wpAny_field M z (x:=O) rfl (qc (wpAny_field M z (x:=Y) rfl (qc (wpAny_field M z (x:=.none) rfl (qd ?_)))))));refine qc (slicePart_none ?_);show wpAny _ _ (if ((1:Int)==0)=true then _ else _) _ _ s;rw[if_neg (by decide)];refine qc (O_1 pl (qc (O_1 pu (qc (qd ?_)))));show wpAny _ _ (match Builtin.Slice.sliceAdjust lo hi 1 (n:Int) with | (lo,hi)=>pure (lo,(1:Int),Builtin.Slice.slicePlaces lo hi 1)) _ _ s;rw[ap5 lo hi n];show wpAny _ _ (pure (((sIx n 0 lo:Nat):Int),(1:Int),Builtin.Slice.slicePlaces ((sIx n 0 lo:Nat):Int) ((sIx n n hi:Nat):Int) 1)) _ _ s;rw[am4];exact qd h
theorem aF2 (xs:Array Value) (i k:Nat):((List.range k).filterMap λ (m:Nat)=>xs[((i:Int)+(m:Int)*1).toNat]?).toArray=((xs.toList.drop i).take k).toArray:=by
 have e:(λ (m:Nat)=>xs[((i:Int)+(m:Int)*1).toNat]?)=λ m=>xs[i+m]?:=by
  funext m;have:((i:Int)+(m:Int)*1).toNat=i+m:=by omega
  rw[this]
 rw[e];have:=pick_run xs i k;rw[List.filterMap_map] at this;have e2:((λ x=>xs[x]?) ∘ λ x=>i+x)=λ m=>xs[i+m]?:=rfl;rw[e2] at this;rw[this]
theorem getItem_tuple_cut {t Y:Addr}{items:Array Value}{vl vu:Value}{lo hi:Option Int}{Q:Value->Shared->Prop} (M:IsTup s.heap t items) (hs:s.heap.IsSliceOf Y vl vu .none) (pl:IsPart vl lo) (pu:IsPart vu hi)
  (hw:¬ (sIx items.size 0 lo=0/\sIx items.size items.size hi=items.size))
  (h:Q (.ref s.heap.objs.size) {s with heap:=s.heap.push {cls:=.type "tuple",data:=.seq ((items.toList.drop (sIx items.size 0 lo)).take (sIx items.size items.size hi-sIx items.size 0 lo)).toArray}})
  (ad:items.size<=sizeLine):wpAny (model prog w) A (getItem (.ref t) (.ref Y)) Q E s:=by
 have z:sizeOk (.seq ((items.toList.drop (sIx items.size 0 lo)).take (sIx items.size items.size hi-sIx items.size 0 lo)).toArray):=by show ((items.toList.drop (sIx items.size 0 lo)).take (sIx items.size items.size hi-sIx items.size 0 lo)).toArray.size<=sizeLine;rw[Qb,Uy,List.length_drop,Qu];omega
 have hj:sIx items.size items.size hi<=items.size:=bi7 _ _ (qj _) hi;obtain⟨os,O,Z,ac⟩:=id hs;have aa:s.TypeIs (.ref Y) "slice":=⟨os,O,Z⟩;unfold getItem
 try with_reducible refine Zz ?_
 first | refine qc (qd ?_) | skip
 refine qc (wpAny_sequenceKey M.typeIs (by decide) ?_);refine qc (wpAny_callSpecial?_slot (name:=Str.ofString "__getitem__") M.typeIs Uu
  (Yr Uu M.typeIs entry_tuple_getitem ?_ (args_tuple_getitem _ _)))
 show wpAny _ _ (Builtin.Tuple.tupleItemsOf (.ref t) >>= _) _ _ s;refine qc (tupleItemsOf_ M ?_);refine qc (wpAny_typeOf aa ?_);rw[if_pos (by decide)];refine qc (F_3 hs pl pu ?_);have ab:¬ ((((sIx items.size 0 lo:Nat):Int)==0&&(1:Int)==1&&(sIx items.size items.size hi-sIx items.size 0 lo)==items.size)=true):=by intro q;rw[Qx,Qx] at q;have q1:((sIx items.size 0 lo:Nat):Int)=0:=eq_of_beq q.1.1;have q2:sIx items.size items.size hi-sIx items.size 0 lo=items.size:=eq_of_beq q.2;exact hw ⟨by omega,by omega⟩
 show wpAny _ _ (if (((sIx items.size 0 lo:Nat):Int)==0&&(1:Int)==1&&(sIx items.size items.size hi-sIx items.size 0 lo)==items.size)=true then _ else _) _ _ s;rw[if_neg ab,aF2]
 first
  |exact qc (m:=Builtin.Tuple.tupleExact _) (Zh (qd ⟨_,rfl,qd h⟩) z)
  |exact qc (m:=Builtin.Tuple.tupleExact _) (Zh (qc (qd (qd ⟨_,rfl,qd h⟩))) z)
  |exact qc (qc (m:=Builtin.Tuple.tupleExact _) (Zh (qd (qd ⟨_,rfl,qd h⟩)) z))
  |exact qc (qc (m:=Builtin.Tuple.tupleExact _) (Zh (qd ⟨_,rfl,qd h⟩) z))
end
end HT
namespace L2
open PySem PySem.Spec PyProof.Rows
abbrev TO:=St->Hp->(Option Int->Hp->Prop)->Prop
def PO (X:Cx) (e:Option Expr) (t:TO):Prop :=
 ∀ (pins:List (Addr×Obj)) (s:Shared) (σ:St) (H:Hp) (Q:Option Int->Hp->Prop),Inv X pins σ H s->t σ H Q ->
  wpAny (model X.prog X.w) X.A (evalPart e X.env) (λ u s'=>∃ o H',Inv X pins σ H' s'/\IsPart u o/\Q o H') X.xe s
def aR9:TO:=λ _ H Q=>Q none H
def bx6 (t:TE):TO:=λ σ H Q=>t σ H λ x H1=>∃ i,x=.int i/\Q (some i) H1
theorem Ys {ns:List Int}:∀ {us:List Value},Vals (ns.map V.int) us->IntsAre us ns:=by
 induction ns with
 |nil=>intro us r;rw[List.map_nil] at r;cases r;exact .nil
 |cons n ns O =>
  intro us r;rw[Qa] at r;cases r with
  |cons M z =>
   obtain⟨t,e⟩:=M;subst e;exact .cons n t (O z)
section
variable {X:Cx}{e:Expr}{te:TE}{lo hi:Option Expr}{tl th:TO}{pos p2:Pos}
theorem aU4:PO X none aR9:=by intro pins s σ H Q I h;rw[evalPart_none];exact qd ⟨none,H,I,.none,h⟩
theorem aU3 (h:PE X e te):PO X (some e) (bx6 te):=by
 intro pins s σ H Q I O;rw[evalPart_some];refine thn (h pins s σ H _ I O) λ u s1 z=>?_;obtain⟨x,H1,Z,Y,M⟩:=z;obtain⟨i,rfl,q⟩:=M;obtain⟨t,rfl⟩:=Y;exact⟨some i,H1,Z,.int i t,q⟩
def SlR (X:Cx) (r:V->Option Int->Option Int->Hp->VK->Prop):Prop :=
 ∀ (pins:List (Addr×Obj)) (s:Shared) (σ:St) (H:Hp) (x:V) (v z O:Value) (lo hi:Option Int) (M:Addr) (Q:VK),Inv X pins σ H s->RelV x v->s.heap.IsSliceOf M z O .none->IsPart z lo->IsPart O hi->r x lo hi H Q ->
  ∃ T id,typeLookup (.type T) "__getitem__"=pure (some (.builtin id)) ∧ s.TypeIs v T ∧ wpAny (model X.prog X.w) X.A (getItem v (.ref M)) (EP X pins σ Q) X.xe s
theorem SlR.or {r r':V->Option Int->Option Int->Hp->VK->Prop} (h:SlR X r) (h':SlR X r'):SlR X (λ x lo hi H Q=>r x lo hi H Q\/r' x lo hi H Q):=by
 intro pins s σ H x v Z vu lo hi M Q I z hs O Y q;rcases q with q | q
 ·exact h pins s σ H x v Z vu lo hi M Q I z hs O Y q
 ·exact h' pins s σ H x v Z vu lo hi M Q I z hs O Y q
def tSl (r:V->Option Int->Option Int->Hp->VK->Prop) (te:TE) (tl th:TO):TE:=λ σ H Q=>te σ H λ x H1=>tl σ H1 λ l H2=>th σ H2 λ u z=>r x l u z Q
theorem aF5 {r:V->Option Int->Option Int->Hp->VK->Prop} (hr:SlR X r) (he:PE X e te) (hl:PO X lo tl) (hu:PO X hi th):PE X (.Subscript e (.Slice lo hi none p2) pos) (tSl r te tl th):=by
 intro pins s σ H Q I h;refine Subscript_ (thn (he pins s σ H _ I h) λ v s1 z=>?_);obtain⟨x,H1,I1,r1,q1⟩:=z;refine wpAny_Slice (thn (hl pins s1 σ H1 _ I1 q1) λ O s2 ⟨l,H2,I2,pl,q2⟩=>thn (hu pins s2 σ H2 _ I2 q2) λ Y M z=>?_);obtain⟨u,Z,I3,pu,q3⟩:=z;rw[evalPart_none];refine qd ?_;have I4:Inv X pins σ Z {M with heap:=M.heap.push {cls:=.type "slice",data:=.fields #[O,Y,.none]}}:=I3.kept (t':=M.toks) λ b ob q=>qf _ q;obtain⟨T,id,hT,ht,hg⟩:=hr pins {M with heap:=M.heap.push {cls:=.type "slice",data:=.fields #[O,Y,.none]}} σ Z x v O Y l u M.heap.objs.size Q I4 r1 (Heap.IsSliceOf.new ..) pl pu q3;show wpAny (model X.prog X.w) X.A (subscriptTail e (.Slice lo hi none p2) v (.ref M.heap.objs.size)) (EP X pins σ Q) X.xe {M with heap:=M.heap.push {cls:=.type "slice",data:=.fields #[O,Y,.none]}};exact tail_any (ops:=[.ref M.heap.objs.size,v]) ht hT hg (by with_unfolding_all rfl)
def aC6 (xs:List V) (lo hi:Option Int):List V:=(xs.drop (HT.sIx xs.length 0 lo)).take (HT.sIx xs.length xs.length hi-HT.sIx xs.length 0 lo)
theorem K_7 (xs:List V) (lo hi:Option Int):(aC6 xs lo hi).length<=xs.length:=by unfold aC6;rw[Uy,List.length_drop];omega
def bV3 (K:Frag):V->Option Int->Option Int->Hp->VK->Prop:=λ x lo hi H Q=>∃ a xs,x=.ref a/\SqT K H a xs /\
 ¬ (HT.sIx xs.length 0 lo=0/\HT.sIx xs.length xs.length hi=xs.length)/\∀ p,H p=none->Q (.ref p) (upd H p (.tup (aC6 xs lo hi)))
theorem bi0:SlR X (bV3 X.K):=by
 intro pins s σ H x v vl vu lo hi sl Q I Y hs Z pu h;obtain⟨a,xs,rfl,hx,hw,q⟩:=h;cases Y;obtain⟨M,r,O,hz⟩:=I.tuple hx;have z:M.toArray.size=xs.length:=by rw[Qb];exact r.length.symm
 refine⟨"tuple",_,PyProof.Rows.slot_tuple_getitem.lookup,O.typeIs,?_⟩;refine HT.getItem_tuple_cut O hs Z pu (by rw[z];exact hw) ?_ (by rw[z];exact hz);rw[z];refine⟨.ref s.heap.objs.size,_,I.laid (t':=s.toks) (o:=.tup (aC6 xs lo hi)) (λ b ob q=>qf _ q) (qj _) ?_,rfl,q _ (I.hok.fresh (qj _))⟩;exact⟨Qq (K_7 xs lo hi) hz,_,(r.drop (HT.sIx xs.length 0 lo)).take (HT.sIx xs.length xs.length hi-HT.sIx xs.length 0 lo),IsTuN.new _ _⟩
def bB1 (K:Frag):R2:=λ x y H Q=>∃ a b xs ys,x=.ref a/\y=.ref b/\SqT K H a xs/\SqT K H b ys/\xs≠[]/\xs.length+ys.length<=sizeLine /\
 (ys=[]->Q (.ref a) H)/\(ys≠[]->∀ p,H p=none->Q (.ref p) (upd H p (.tup (xs++ys))))
theorem Vals.nil_iff {xs:List V}{us:List Value} (r:Vals xs us):us=[]↔xs=[]:=by
 cases r with
 |nil=>simp
 |cons _ _=>simp
theorem aV3:OpR X (binaryOp .Add) (bB1 X.K):=by intro pins s σ H x y v u Q I rx ry h;obtain⟨a,b,xs,ys,rfl,rfl,ha,hb,hx,hz,q1,q2⟩:=h;cases rx;cases ry;obtain⟨Z,O,p1,_⟩:=I.tuple ha;obtain⟨Y,M,p2,_⟩:=I.tuple hb;refine HT.cat_tup p1 p2 (λ z=>hx (O.nil_iff.mp z)) (λ z=>⟨.ref a,H,I,rfl,q1 (M.nil_iff.mp z)⟩) (λ z=>?_) (by rw[<- O.length,<- M.length];exact hz);refine⟨.ref s.heap.objs.size,_,I.laid (t':=s.toks) (o:=.tup (xs++ys)) (λ b ob q=>qf _ q) (qj _) ?_,rfl,q2 (λ w=>z (M.nil_iff.mpr w)) _ (I.hok.fresh (qj _))⟩;exact⟨by rw[Qd];exact hz,_,O.append M,IsTuN.new _ _⟩
end
noncomputable def ixN (n:Nat) (i:Int):Option Nat:=if 0<=i then (if i<n then some i.toNat else none) else if -(n:Int)<=i then some (i+n).toNat else none
def atI {α:Type} (xs:List α) (i:Int):Option α:=(ixN xs.length i).bind λ j=>xs[j]?
theorem aX7 {n:Nat}{i:Int}{j:Nat} (h:ixN n i=some j):seqIndex? i n=some j/\j<n/\-(n:Int)<=i/\i<n:=by
 unfold ixN at h;by_cases z:0<=i
 ·rw[if_pos z] at h;by_cases h1:i<n
  ·rw[if_pos h1] at h;have e:i.toNat=j:=qi h;exact⟨by rw[seqIndex_of z h1,e],by omega,by omega,h1⟩
  ·rw[if_neg h1] at h;cases h
 ·rw[if_neg z] at h;by_cases h1:-(n:Int)<=i
  ·rw[if_pos h1] at h;have e:(i+n).toNat=j:=qi h;exact⟨by rw[seqIndex_neg (by omega) h1,e],by omega,h1,by omega⟩
  ·rw[if_neg h1] at h;cases h
theorem af8 {α:Type}{xs:List α}{i:Int}{v:α} (h:atI xs i=some v):∃ j,seqIndex? i xs.length=some j/\xs[j]?=some v/\j<xs.length/\-(xs.length:Int)<=i/\i<xs.length:=by
 unfold atI at h;cases e:ixN xs.length i with
 |none=>rw[e] at h;cases h
 |some j =>
  rw[e] at h;obtain⟨h1,h2,z,M⟩:=aX7 e;exact⟨j,h1,h,h2,z,M⟩
def ag0 (b:Expr):Prop:=∀ o i,subscripted b false o i=operate [o,i] (getItem o i)
def IxR (X:Cx) (r:R2):Prop :=
 ∀ (value z:Expr) (pins:List (Addr×Obj)) (s:Shared) (σ:St) (H:Hp) (x y:V) (v u:Value) (Q:VK),Inv X pins σ H s->RelV x v->RelV y u->r x y H Q ->
  subscripted z false v u=operate [v,u] (getItem v u)->wpAny (model X.prog X.w) X.A (subscriptTail value z v u) (EP X pins σ Q) X.xe s
def MtR (X:Cx) (id:String) (r:V->List V->Hp->VK->Prop):Prop :=
 ∀ (pins:List (Addr×Obj)) (s:Shared) (σ:St) (H:Hp) (x:V) (xs:List V) (v:Value) (us:List Value) (Q:VK),Inv X pins σ H s->RelV x v->Vals xs us->r x xs H Q ->
  wpAny (model X.prog X.w) X.A (call (.builtin id) (v::us)) (EP X pins σ Q) X.xe s
section
variable {X:Cx}{a b:Expr}{ta tb:TE}{pos:Pos}
theorem IxR.or {r Y:R2} (h:IxR X r) (h':IxR X Y):IxR X (λ x y H Q=>r x y H Q\/Y x y H Q):=by
 intro value z pins s σ H x y v u Q I M O q hs;rcases q with q | q
 ·exact h value z pins s σ H x y v u Q I M O q hs
 ·exact h' value z pins s σ H x y v u Q I M O q hs
theorem MtR.or {id:String}{r O:V->List V->Hp->VK->Prop} (h:MtR X id r) (h':MtR X id O):MtR X id (λ x xs H Q=>r x xs H Q\/O x xs H Q):=by
 intro pins s σ H x xs v us Q I M z q;rcases q with q | q
 ·exact h pins s σ H x xs v us Q I M z q
 ·exact h' pins s σ H x xs v us Q I M z q
theorem aF6 {r:R2} (hr:IxR X r) (ha:PE X a ta) (Z:PE X b tb) (hs:ag0 b):PE X (.Subscript a b pos) (tOp r ta tb):=by intro pins s σ H Q I h;exact Subscript_ (bI4 ha Z I h λ v u Y x y H2 M z O q=>hr a b pins Y σ H2 x y v u Q M z O q (hs _ _))
def bK8 (K:Frag):R2:=λ x y H Q=>∃ p xs i v,x=.ref p/\y=.int i/\SqL K H p xs/\atI xs i=some v/\Q v H
def bj8 (K:Frag):R2:=λ x y H Q=>∃ p xs i v,x=.ref p/\y=.int i/\SqT K H p xs/\atI xs i=some v/\Q v H
def bK7:R2:=λ x y H Q=>∃ z i c,x=.str z/\y=.int i/\z.length<=sizeLine/\atI z.cps.toList i=some c/\Q (.str ⟨#[c]⟩) H
theorem ix_list:IxR X (bK8 X.K):=by
 intro value Y pins s σ H x y v u Q I rx ry h hs;obtain⟨p,xs,i,z,rfl,rfl,hq,he,q⟩:=h;cases rx;obtain⟨t,rfl⟩:=ry;obtain⟨M,r,O,hz⟩:=I.list hq;obtain⟨j,h1,h2,h3,h4,h5⟩:=af8 he;obtain⟨w,ew,Z⟩:=r.get h2;have hl:=r.length;have hn:=O_9;have fin:EP X pins σ Q w s:=⟨z,H,I,Z,q⟩;by_cases h0:0<=i
 ·have hj:i.toNat=j:=by rw[seqIndex_of h0 h5] at h1;exact qi h1
  exact item_listR O.isList h0 (by omega) (by rw[hj];simpa using ew) fin hs
 ·have hj:(i+(M.toArray.size:Int)).toNat=j:=by rw[seqIndex_neg (by omega) h4] at h1;rw[Qb,<- hl];exact qi h1
  exact subscriptTail_builtinR (x:=w) O.isList.typeIs slot_list_getitem.lookup
   (wpAny_getItem_list_neg (Q:=λ r s'=>r=w/\EP X pins σ Q r s') O.isList (by omega) (by rw[Qb] <;> omega) (by omega) (by rw[hj];simpa using ew) ⟨rfl,fin⟩) hs
theorem ix_tup:IxR X (bj8 X.K):=by
 intro value M pins s σ H x y v u Q I rx ry h hs;obtain⟨p,xs,i,z,rfl,rfl,hq,he,q⟩:=h;cases rx;obtain⟨t,rfl⟩:=ry;obtain⟨Z,r,Y,hz⟩:=I.tuple hq;obtain⟨j,h1,h2,h3,h4,h5⟩:=af8 he;obtain⟨w,ew,O⟩:=r.get h2;have hl:=r.length;have hn:=O_9;have fin:EP X pins σ Q w s:=⟨z,H,I,O,q⟩;exact subscriptTail_builtinR (x:=w) Y.typeIs slot_tuple_getitem.lookup
  (getItem_tuple (j:=j) (Q:=λ r s'=>r=w/\EP X pins σ Q r s') Y (by omega) (by omega) (by rw[Qb,<- hl];exact h1) (by simpa using ew) ⟨rfl,fin⟩) hs
theorem bp8:IxR X bK7:=by
 intro value M pins s σ H x y v u Q I O ry h hs;obtain⟨z,i,c,rfl,rfl,hz,Z,q⟩:=h;obtain⟨t,rfl⟩:=O;obtain⟨t',rfl⟩:=ry;obtain⟨j,h1,h2,h3,h4,h5⟩:=af8 Z;have Y:z.cps.toList.length=z.length:=by simp[Str.length]
 rw[Y] at h1 h4 h5;have hn:=O_9;exact tail_any (typeIs_str s z t) slot_str_getitem.lookup (getItem_str (c:=c) (by
  have e1:decide (i < -(2 ^ 63:Int))=false:=Qh (by omega);have e2:decide (i>=2 ^ 63)=false:=Qh (by omega);rw[e1,e2,Bool.or_false]) (by rw[h1];simpa using h2) ⟨.str ⟨#[c]⟩,H,I.tok _,⟨_,rfl⟩,q⟩) hs
def rIx (K:Frag):R2:=λ x y H Q=>bK8 K x y H Q\/bj8 K x y H Q\/bK7 x y H Q
theorem bp9:IxR X (rIx X.K):=ix_list.or (ix_tup.or bp8)
theorem Inv.lst {pins:List (Addr×Obj)}{σ:St}{H:Hp}{s:Shared}{p:Addr}{xs:List V} (I:Inv X pins σ H s) (h:H p=some (.lst xs)) :
  ∃ (M:List Value) (n:Nat),Vals xs M ∧ s.heap.get? p=some {cls:=.type "list",data:=.seq M.toArray n} ∧ xs.length ≤ sizeLine:=by
 obtain⟨z,M,n,r,e⟩:=I.hok p _ h;exact⟨M,n,r,e,z⟩
theorem V_7 (lo hi:Option Int) (n:Nat):(sliceBounds lo hi none n).1=((HT.sIx n 0 lo:Nat):Int)/\(sliceBounds lo hi none n).2.1=((HT.sIx n n hi:Nat):Int)/\(sliceBounds lo hi none n).2.2=1:=by
 refine⟨?_,?_,rfl⟩
 ·cases lo with
  |none=>simp[sliceBounds,HT.sIx]
  |some i =>
   simp only[sliceBounds,HT.sIx,Option.getD_none,show (1:Int) > 0 by decide,Uo];by_cases h:i<0
   ·simp only[h,Uo] <;> omega
   ·simp only[h,Up] <;> omega
 ·cases hi with
  |none=>simp[sliceBounds,HT.sIx]
  |some i =>
   simp only[sliceBounds,HT.sIx,Option.getD_none,show (1:Int) > 0 by decide,Uo];by_cases h:i<0
   ·simp only[h,Uo] <;> omega
   ·simp only[h,Up] <;> omega
theorem Q_2 (z:List Value) (lo hi:Option Int):slicePick z.toArray lo hi none=((z.drop (HT.sIx z.length 0 lo)).take (HT.sIx z.length z.length hi-HT.sIx z.length 0 lo)).toArray:=by obtain⟨h1,h2,M⟩:=V_7 lo hi z.toArray.size;unfold slicePick;rw[h1,h2,M];simp only[sliceRange_one,pick_run,Qb] <;> rfl
def bV5 (K:Frag):V->Option Int->Option Int->Hp->VK->Prop:=λ x lo hi H Q=>∃ a xs,x=.ref a/\SqL K H a xs/\∀ p,H p=none->Q (.ref p) (upd H p (.lst (aC6 xs lo hi)))
theorem sl_list:SlR X (bV5 X.K):=by intro pins s σ H x v vl vu lo hi sl Q I Y hs Z pu h;obtain⟨a,xs,rfl,hx,q⟩:=h;cases Y;obtain⟨O,r,M,hz⟩:=I.list hx;have z:=r.length;refine⟨"list",_,slot_list_getitem.lookup,M.isList.typeIs,?_⟩;refine wpAny_getItem_list_slice M.isList hs Z pu .none (by simp) ?_ (by rw[Qb] <;> omega);rw[Q_2,<- z];refine⟨.ref s.heap.objs.size,_,I.laid (t':=s.toks) (o:=.lst (aC6 xs lo hi)) (λ b ob q=>qf _ q) (qj _) ?_,rfl,q _ (I.hok.fresh (qj _))⟩;exact⟨Qq (K_7 xs lo hi) hz,_,0,(r.drop (HT.sIx xs.length 0 lo)).take (HT.sIx xs.length xs.length hi-HT.sIx xs.length 0 lo),qk _ rfl⟩
noncomputable def N_5:V->Bool
 |.non=>true
 |.bl _=>true
 |.int _=>true
 |.str _=>true
 |_=>false
noncomputable def eqV:V->V->Bool
 |.non,.non=>true
 |.bl a,.bl b=>a==b
 |.bl a,.int b=>(if a then 1 else 0)==b
 |.int a,.bl b=>a==(if b then 1 else 0)
 |.int a,.int b=>a==b
 |.str a,.str b=>a==b
 |_,_=>false
theorem br4 {A:Around}{s:Shared}{y x:V}{u v:Value} (M:RelV y u) (z:RelV x v) (Y:N_5 y=true) (O:N_5 x=true):SeqAt.EqAt A s u v (eqV y x):=by
 cases y with
 |non =>
  cases M;cases x with
  |non=>cases z;exact Jy _
  |bl b=>cases z;exact SeqAt.EqAt.none_bool b
  |int b=>obtain⟨t,rfl⟩:=z;exact SeqAt.EqAt.none_int b t
  |str b=>obtain⟨t,rfl⟩:=z;exact SeqAt.EqAt.none_str b t
  |_=>exact absurd (show false=true from O) qq
 |bl a =>
  cases M;cases x with
  |non=>cases z;exact SeqAt.EqAt.bool_none a
  |bl b=>cases z;exact SeqAt.EqAt.bool_bool a b
  |int b=>obtain⟨t,rfl⟩:=z;exact SeqAt.EqAt.bool_int a b t
  |str b=>obtain⟨t,rfl⟩:=z;exact SeqAt.EqAt.bool_str a b t
  |_=>exact absurd (show false=true from O) qq
 |int a =>
  obtain⟨t',rfl⟩:=M;cases x with
  |non=>cases z;exact SeqAt.EqAt.int_none a t'
  |bl b=>cases z;exact SeqAt.EqAt.int_bool a t' b
  |int b=>obtain⟨t,rfl⟩:=z;exact Y7 a t' b t
  |str b=>obtain⟨t,rfl⟩:=z;exact SeqAt.EqAt.int_str a t' b t
  |_=>exact absurd (show false=true from O) qq
 |str a =>
  obtain⟨t',rfl⟩:=M;cases x with
  |non=>cases z;exact SeqAt.EqAt.str_none a t'
  |bl b=>cases z;exact SeqAt.EqAt.str_bool a t' b
  |int b=>obtain⟨t,rfl⟩:=z;exact SeqAt.EqAt.str_int a t' b t
  |str b=>obtain⟨t,rfl⟩:=z;exact SeqAt.EqAt.str_str a t' b t
  |_=>exact absurd (show false=true from O) qq
 |_=>exact absurd (show false=true from Y) qq
def eqU (x:V) (u:Value):Bool:=match u with
 |.none=>eqV .non x
 |.bool b=>eqV (.bl b) x
 |.int i _=>eqV (.int i) x
 |.str z _=>eqV (.str z) x
 |_=>false
theorem aP6 {x y:V}{u:Value} (r:RelV y u) (f:N_5 y=true):eqU x u=eqV y x:=by
 cases y with
 |non=>cases r;rfl
 |bl b=>cases r;rfl
 |int i=>obtain⟨t,rfl⟩:=r;rfl
 |str z=>obtain⟨t,rfl⟩:=r;rfl
 |_=>exact absurd (show false=true from f) qq
theorem af9 {x:V}:∀ {xs:List V}{us:List Value},Vals xs us->xs.all N_5=true->us.any (eqU x)=xs.any λ y=>eqV y x
 |_,_,.nil,_=>rfl
 |y::xs,u::us,.cons r t,f=>by
  rw[Jl,Qx] at f;rw[Yh,Yh,aP6 r f.1,af9 t f.2]
theorem S_5 {A:Around}{s:Shared}{x:V}{v:Value} (M:RelV x v) (O:N_5 x=true):∀ {xs:List V}{us:List Value},Vals xs us->xs.all N_5=true->∀ u∈us,SeqAt.EqAt A s u v (eqU x u)
 |_,_,.nil,_=>λ u z=>by cases z
 |y::xs,u::us,.cons r t,f=>λ Y z=>by
  rw[Jl,Qx] at f;rcases qw z with rfl | z
  ·rw[aP6 r f.1];exact br4 r M f.1 O
  ·exact S_5 M O t f.2 Y z
def inV (x:V) (xs:List V):Bool:=xs.any λ y=>eqV y x
def rIn (K:Frag) (z:Bool):R2:=λ x y H Q=>∃ p xs,y=.ref p/\(SqL K H p xs\/SqT K H p xs)/\N_5 x=true/\xs.all N_5=true/\Q (.bl (if z then !inV x xs else inV x xs)) H
theorem au7:OpR X (compareOp .In) (rIn X.K false):=by
 intro pins s σ H x y v u Q I Y ry h;obtain⟨p,xs,rfl,hq,Z,fs,q⟩:=h;cases ry;rcases hq with hq | hq
 ·obtain⟨z,r,M,hz⟩:=I.list hq;refine SeqAt.in_listAt (eqU x) M.isList (λ w O=>S_5 Y Z r fs w (by simpa using O)) ⟨.bl _,H,I,rfl,?_⟩;rw[show z.toArray.any (eqU x)=z.any (eqU x) by simp,af9 r fs];exact q
 ·obtain⟨z,r,M,hz⟩:=I.tuple hq;refine SeqAt.in_tupleAt (eqU x) M (λ w O=>S_5 Y Z r fs w (by simpa using O)) ⟨.bl _,H,I,rfl,?_⟩;rw[show z.toArray.any (eqU x)=z.any (eqU x) by simp,af9 r fs];exact q
theorem call_len_seq:CallR X (.builtin "len") (λ xs H Q=>∃ p ys,xs=[.ref p] ∧ (SqL X.K H p ys ∨ SqT X.K H p ys) ∧ Q (.int ys.length) H):=by
 intro pins s σ H xs us Q I r h;obtain⟨p,ys,rfl,hq,q⟩:=h;obtain⟨u,rfl,Z⟩:=D_4 r;cases Z;have hn:=O_9;rcases hq with hq | hq
 ·obtain⟨M,Y,O,hz⟩:=I.list hq;have z:=Y.length;exact Calls.call_len_list O.isList (by simp only[Qb] <;> omega) ⟨.int ys.length,H,I.tok _,⟨s.toks+1,by rw[Qb,z]⟩,q⟩
 ·obtain⟨M,Y,O,hz⟩:=I.tuple hq;have z:=Y.length;exact len_tuple O (by simp only[Qb] <;> omega) ⟨.int ys.length,H,I.tok _,⟨s.toks+1,by rw[Qb,z]⟩,q⟩
theorem Z_9:CallR X (.builtin "len") (λ xs H Q=>∃ z,xs=[.str z] ∧ z.length ≤ sizeLine ∧ Q (.int z.length) H):=by intro pins s σ H xs us Q I r h;obtain⟨z,rfl,hz,q⟩:=h;obtain⟨u,rfl,t,rfl⟩:=D_4 r;have M:=O_9;exact len_str (by omega) ⟨.int z.length,H,I.tok _,⟨_,rfl⟩,q⟩
theorem CallR.or {f:Value}{r M:List V->Hp->VK->Prop} (h:CallR X f r) (h':CallR X f M):CallR X f (λ xs H Q=>r xs H Q\/M xs H Q):=by
 intro pins s σ H xs us Q I z q;rcases q with q | q
 ·exact h pins s σ H xs us Q I z q
 ·exact h' pins s σ H xs us Q I z q
theorem Z_8:CallR X (.type "list") (λ xs H Q=>∃ p ys,xs=[.ref p] ∧ (SqL X.K H p ys ∨ SqT X.K H p ys) ∧ ∀ l,H l=none → Q (.ref l) (upd H l (.lst ys))):=by
 intro pins s σ H xs us Q I r h;obtain⟨p,ys,rfl,hq,q⟩:=h;obtain⟨u,rfl,rx⟩:=D_4 r;cases rx;have fin:∀ (z:List Value),Vals ys z->ys.length<=sizeLine->∀ (h':Heap) (c':Nat),(∀ b o',s.heap.get? b=some o'->h'.get? b=some o') ->
   h'.get? s.heap.objs.size=some {cls:=.type "list",dict:=none,data:=.seq z.toArray c',slots:=#[]} → EP X pins σ Q (.ref s.heap.objs.size) {s with heap:=h'}:=λ z M hz h' c' Y e =>
  ⟨.ref s.heap.objs.size,_,I.laid (t':=s.toks) Y (qj _) (show ObjOk X.prog X.w _ h' _ (.lst ys) from ⟨hz,z,c',M,e⟩),rfl,q _ (I.hok.fresh (qj _))⟩
 rcases hq with hq | hq
 ·obtain⟨z,M,Z,hz⟩:=I.list hq;have O:=M.length;obtain⟨o,ho,hc,n,hd⟩:=Z.isList;exact call_list_seq p (.inl rfl) ho hc hd (λ h' c' Y e=>fin z M hz h' c' Y e) (by simp only[Qb] <;> omega)
 ·obtain⟨z,M,Z,hz⟩:=I.tuple hq;have O:=M.length;obtain⟨o,ho,hc,n,hd⟩:=Z;exact call_list_seq p (.inr rfl) ho hc hd (λ h' c' Y e=>fin z M hz h' c' Y e) (by simp only[Qb] <;> omega)
theorem U_1:CallR X (.type "tuple") (λ xs H Q=>∃ p ys,xs=[.ref p] ∧ ((SqL X.K H p ys ∧ ∀ l,H l=none → Q (.ref l) (upd H l (.tup ys))) ∨ (SqT X.K H p ys ∧ Q (.ref p) H))):=by
 intro pins s σ H xs us Q I r h;obtain⟨p,ys,rfl,h⟩:=h;obtain⟨u,rfl,rx⟩:=D_4 r;cases rx;rcases h with ⟨hq,q⟩ | ⟨hq,q⟩
 ·obtain⟨z,O,M,hz⟩:=I.list hq;have Y:=O.length;refine call_tuple_list M.isList (λ h' kp=>?_) (by simp only[Qb] <;> omega);have Z:Inv X pins σ H {s with heap:=h'}:=I.kept (t':=s.toks) kp;have I2:Inv X pins σ (upd H h'.objs.size (.tup ys)) {s with heap:=h'.push {cls:=.type "tuple",data:=.seq z.toArray}} :=
   Z.laid (t':=s.toks) (λ b o e=>qf _ e) (qj _) (show ObjOk X.prog X.w _ _ _ (.tup ys) from ⟨hz,z,O,IsTuN.new _ _⟩)
  exact⟨.ref h'.objs.size,_,I2,rfl,q _ (Z.hok.fresh (qj _))⟩
 ·obtain⟨z,O,M,hz⟩:=I.tuple hq;exact call_tuple_same M ⟨.ref p,H,I,rfl,q⟩
def tyV (K:Frag) (T:String) (x:V) (H:Hp):Prop:=match x with
 |.str _=>T="str"
 |.int _=>T="int"
 |.ref p=>(T="list" ∧ ∃ xs,SqL K H p xs) ∨ (T="tuple" ∧ ∃ o,K.lookup p=some o ∧ o.cls=.type "tuple" ∧ o.dict=none) ∨
   (T="dict" ∧ ((∃ z,H p=some (.dK z)) ∨ ∃ z,H p=some (.dT z))) ∨ (T="set" ∧ ∃ S n,H p=some (.set S n))
 |_=>False
theorem aM3 {pins:List (Addr×Obj)}{σ:St}{H:Hp}{s:Shared}{T:String}{x:V}{v:Value} (I:Inv X pins σ H s) (r:RelV x v) (ty:tyV X.K T x H) :
  s.TypeIs v T/\∀ a,v=.ref a->∃ O,s.heap.get? a=some O/\O.dict=none:=by
 cases x with
 |str z =>
  obtain⟨t,rfl⟩:=r;cases (show T="str" from ty);exact⟨typeIs_str s z t,λ _ e=>nomatch e⟩
 |int i =>
  obtain⟨t,rfl⟩:=r;cases (show T="int" from ty);exact⟨typeIs_int s i t,λ _ e=>nomatch e⟩
 |ref p =>
  cases r;rcases ty with ⟨rfl,xs,hq⟩ | ⟨rfl,o,hk,hc,M⟩ | ⟨rfl,hk⟩ | ⟨rfl,S,n,hk⟩
  ·obtain⟨Z,_,Y,_⟩:=I.list hq;refine⟨Y.isList.typeIs,λ a e=>?_⟩;cases e;obtain⟨o,n,e,c,M,_⟩:=Y;exact⟨o,e,M⟩
  ·refine⟨⟨o,I.kIn p o hk,hc⟩,λ a e=>?_⟩;cases e;exact⟨o,I.kIn _ o hk,M⟩
  ·have z:∃ o,s.heap.get? p=some o/\o.ExactDict:=by
    rcases hk with ⟨kvs,hk⟩ | ⟨kvs,hk⟩
    ·obtain⟨_,_,_,_,o,_,_,e,ex,_⟩:=I.hok p _ hk;exact⟨o,e,ex⟩
    ·obtain⟨_,_,_,_,o,_,_,e,ex,_⟩:=I.hok p _ hk;exact⟨o,e,ex⟩
   obtain⟨o,e,ex⟩:=z;refine⟨⟨o,e,ex.1⟩,λ a e2=>?_⟩;cases e2;exact⟨o,e,ex.2.1⟩
  ·obtain⟨o,_,_,_,e,ex,_⟩:=I.hok p _ hk;refine⟨⟨o,e,ex.1⟩,λ a e2=>?_⟩;cases e2;exact⟨o,e,ex.2.1⟩
 |_=>exact False.elim ty
def bT6 (K:Frag) (T:String) (r:V->List V->Hp->VK->Prop) (to:TE):TE:=λ σ H Q=>to σ H λ x H1=>tyV K T x H1/\r x [] H1 Q
def tBM (K:Frag) (T:String) (r:V->List V->Hp->VK->Prop) (to:TE) (t:TA):TE:=λ σ H Q=>to σ H λ x H1=>tyV K T x H1/\t σ H1 λ xs H2=>r x xs H2 Q
variable {o e:Expr}{es:List Expr}{to:TE}{t:TA}{name:Str}{apos cpos:Pos}{T id:String}{r:V->List V->Hp->VK->Prop}
theorem bm2 (pa:PlainAttrs T) (slot:Slot T name id) (Y:typeOf (.builtin id)=pure (.type "method_descriptor")) (hm:MtR X id r) (ho:PE X o to)
  (z:attributeBase o name X.env (eval o X.env)=eval o X.env:=by rfl) (M:(apos.endLine==cpos.line)=true:=by rfl):PE X (.Call (.Attribute o name apos) [] [] cpos) (bT6 X.K T r to):=by
 intro pins s σ H Q I h;refine wpAny_Call_method0_late z M (thn (ho pins s σ H _ I h) λ v s1 O=>?_);obtain⟨x,H1,I1,Z,ty,q1⟩:=O;obtain⟨h1,h2⟩:=aM3 I1 Z ty;exact⟨T,id,pa,slot,Y,h1,h2,Z9 rfl (PySem.evalArgs_none (hm pins s1 σ H1 x [] v [] Q I1 Z .nil q1))⟩
theorem aU7 (pa:PlainAttrs T) (slot:Slot T name id) (aa:typeOf (.builtin id)=pure (.type "method_descriptor")) (hm:MtR X id r) (ho:PE X o to) (ha:PA X (e::es) t)
  (O:attributeBase o name X.env (eval o X.env)=eval o X.env:=by rfl)
  (Y:((backTo cpos (starEach (e::es) X.env)).all (λ x=>!x.1)&&(backToKw cpos (keywordEach [] X.env)).all (λ x=>x.1.isSome)
   && decide ((e::es).length+([]:List Keyword).length+(if ([]:List Keyword).isEmpty then 0 else 1)<30))=true:=by rfl)
  (M:(apos.endLine==cpos.line)=true:=by rfl) (hs:starEach (e::es) X.env=(false,eval e X.env)::starEach es X.env:=by rfl) (z:(backTo cpos (starEach es X.env)).any (·.1)=false:=by rfl) :
  PE X (.Call (.Attribute o name apos) (e::es) [] cpos) (tBM X.K T r to t):=by
 intro pins s σ H Q I h;refine wpAny_Call_method_late O Y M rfl (thn (ho pins s σ H _ I h) λ v s1 Z=>?_);obtain⟨x,H1,I1,r1,ty,q1⟩:=Z;obtain⟨h1,h2⟩:=aM3 I1 r1 ty;refine⟨T,id,pa,slot,aa,h1,h2,?_⟩;have hA:=ha cpos pins s1 σ H1 _ I1 q1;rw[hs] at hA ⊢;refine Z9 (by show (false||(backTo cpos (starEach es X.env)).any (·.1))=false;rw[z] <;> rfl) (Yv ?_);exact thn hA λ us s2 ⟨vs,H2,I2,r2,q2⟩=>hm pins s2 σ H2 x vs v us Q I2 r1 r2 q2
end
def MtM (X:Cx) (id:String) (r:V->List V->Hp->VK->Prop):Prop :=
 ∀ (pins:List (Addr×Obj)) (s:Shared) (σ:St) (H:Hp) (x:V) (xs:List V) (v:Value) (us:List Value) (Q:VK),Inv X pins σ H s->RelV x v->Vals xs us->r x xs H Q ->
  wpAny (model X.prog X.w) X.A (call (.builtin id) (v::us)) (EP X pins σ Q) X.xe s
theorem Vals.one:∀ {x:V}{us:List Value},Vals [x] us->∃ u,us=[u]/\RelV x u
 |_,_,h=>by
  cases h with
  |cons r t=>cases t;exact⟨_,rfl,r⟩
theorem Vals.two:∀ {x y:V}{us:List Value},Vals [x,y] us->∃ u v,us=[u,v]/\RelV x u/\RelV y v
 |_,_,_,h=>by
  cases h with
  |cons r t =>
   cases t with
   |cons q z=>cases z;exact⟨_,_,rfl,r,q⟩
theorem Vals.zero:∀ {us:List Value},Vals [] us->us=[]
 |_,.nil=>rfl
theorem Vals.dropLast {xs:List V}{us:List Value} (h:Vals xs us):Vals xs.dropLast us.dropLast:=by
 induction h with
 |nil=>exact .nil
 |cons r t z =>
  cases t with
  |nil=>exact .nil
  |cons q t'=>exact .cons r z
theorem Vals.eraseIdx:∀ {xs:List V}{us:List Value} (i:Nat),Vals xs us->Vals (xs.eraseIdx i) (us.eraseIdx i)
 |_,_,_,.nil=>.nil
 |_,_,0,.cons _ t=>t
 |_,_,i+1,.cons r t=>.cons r (Vals.eraseIdx i t)
theorem Vals.reverse {xs:List V}{us:List Value} (h:Vals xs us):Vals xs.reverse us.reverse:=by
 induction h with
 |nil=>exact .nil
 |cons r t z=>rw[Yo,Yo];exact Vals.append z (.cons r .nil)
theorem Vals.rep {xs:List V}{us:List Value} (h:Vals xs us):∀ k:Nat,Vals (List.replicate k xs).flatten (List.replicate k us).flatten
 |0=>.nil
 |k+1=>by
  rw[List.replicate_succ,List.replicate_succ,List.flatten_cons,List.flatten_cons];exact Vals.append h (Vals.rep h k)
theorem ao9 {α:Type} (l:List α):l.eraseIdx (l.length-1)=l.dropLast:=by
 induction l with
 |nil=>rfl
 |cons a r z =>
  cases r with
  |nil=>rfl
  |cons b r =>
   have e:(a::b::r).length-1=((b::r).length-1)+1:=by have h1:(a::b::r).length=r.length+2:=rfl;have h2:(b::r).length=r.length+1:=rfl;omega
   rw[e,List.eraseIdx_cons_succ,z]
   all_goals rfl
section
variable {X:Cx}{pins:List (Addr×Obj)}{σ:St}{H:Hp}{s:Shared}{l b:Addr}{xs ys zs:List V}
theorem Inv.lset {z its':List Value}{n:Nat}{f:Array Value->Array Value}{t':Nat} (I:Inv X pins σ H s) (M:H l=some (.lst xs))
  (e:s.heap.get? l=some {cls:=.type "list",data:=.seq z.toArray n}) (hf:f z.toArray=its'.toArray) (Z:Vals ys its') (hz:ys.length ≤ sizeLine) :
  Inv X pins σ (upd H l (.lst ys)) {s with heap:=s.heap.update l (Obj.mapSeq f),toks:=t'}:=by
 have q:=Uv e f;rw[hf] at q;refine I.write (x:=l) (e:=l) (by rw[M];exact trivial) (.inl rfl) (λ b' u O Y=>(Jw s.heap (Obj.mapSeq f) (Zb O)).trans Y) ⟨_,q⟩ ?_;exact⟨hz,its',_,Z,q⟩
theorem Inv.lnew {z:List Value}{t':Nat} (I:Inv X pins σ H s) (M:Vals ys z) (hz:ys.length<=sizeLine) :
  Inv X pins σ (upd H s.heap.objs.size (.lst ys)) {s with heap:=s.heap.push {cls:=.type "list",data:=.seq z.toArray},toks:=t'} :=
 I.laid (λ _ _ q=>qf _ q) (qj _) ⟨hz,z,0,M,qk _ rfl⟩
theorem Inv.fresh (I:Inv X pins σ H s):H s.heap.objs.size=none:=I.hok.fresh (qj _)
theorem Inv.lstM (I:Inv X pins σ H s) (O:H l=some (.lst xs)):xs.length ≤ sizeLine ∧ ∃ (M:List Value) (n:Nat),Vals xs M ∧ xs.length=M.length ∧ s.heap.get? l=some {cls:=.type "list",data:=.seq M.toArray n}:=by obtain⟨z,M,n,r,e⟩:=I.hok l _ O;exact⟨z,M,n,r,r.length,e⟩
end
section
variable {X:Cx}
def ac8:V->List V->Hp->VK->Prop:=λ x vs H Q=>∃ l xs y,x=.ref l/\vs=[y]/\H l=some (.lst xs)/\xs.length<sizeLine/\Q .non (upd H l (.lst (xs++[y])))
theorem J_3:MtM X "list.append" ac8:=by intro pins s σ H x vs v us Q I Z rv h;obtain⟨l,xs,y,rfl,rfl,O,hz,q⟩:=h;cases Z;obtain⟨u,rfl,Y⟩:=rv.one;obtain⟨z,M,n,r,hl,e⟩:=I.lstM O;refine call_meets F.slot_list_append ⟨_,e,rfl⟩ Uh (Uf _ _) (Uq l M.toArray n u (by rw[Qb];omega)) ⟨e,?_⟩;refine⟨.non,_,I.lset (its':=M++[u]) O e (by simp) (r.append (.cons Y .nil)) ?_,rfl,q⟩;rw[Qd,Qs];omega
def bV7:V->List V->Hp->VK->Prop:=λ x vs H Q=>∃ l xs y,x=.ref l/\vs=[]/\H l=some (.lst xs)/\xs[xs.length-1]?=some y/\Q y (upd H l (.lst xs.dropLast))
theorem bn9:MtM X "list.pop" bV7:=by
 intro pins s σ H x vs v us Q I rx rv h;obtain⟨l,xs,y,rfl,rfl,Z,hy,q⟩:=h;cases rx;have O:=rv.zero;subst O;obtain⟨z,M,n,r,hl,e⟩:=I.lstM Z;obtain⟨u,hu,ru⟩:=r.get hy;have Y:M.toArray[M.toArray.size-1]?=some u:=by show M.toArray[M.length-1]?=some u;rw[<- Zd,<- hl];exact hu
 refine call_meets F.slot_list_pop ⟨_,e,rfl⟩ F.entry_list_pop (F.args_list_pop_1 _) (MeetsSeq.list_pop_last l M.toArray n u Y (by rw[Qb];omega)) ⟨e,?_⟩;refine⟨y,_,I.lset (its':=M.dropLast) Z e ?_ r.dropLast ?_,ru,q⟩
 ·show M.toArray.eraseIdxIfInBounds (M.toArray.size-1)=M.dropLast.toArray;rw[Qb,List.eraseIdxIfInBounds_toArray,ao9]
 ·rw[List.length_dropLast];omega
end
end L2
namespace Att
open PySem PySem.W PySem.Calls PyProof.Rows
theorem J_9 {P:Params}{h:Heap}:∀ (ns:List Int) (vs:List Value),WellAll P h vs (ns.map WData.int)->IntsAre vs ns:=by
 intro ns;induction ns with
 |nil =>
  intro vs w;rw[List.map_nil] at w;cases w;exact .nil
 |cons n ns z =>
  intro vs w;rw[Qa] at w;cases w with
  |cons a b =>
   cases a;exact .cons _ _ (z _ b)
theorem as0 {l:OpenLaw}{n:Nat} (hn:l.most=some n) {P:Params}{h:Heap}{args:List WData}{vals:List Value}
  (z:l.row.toRowW.claim.pre args=true) (aa:WellAll P h vals args) :
  ∃ a vs ns,vals=[Value.ref a] ∧ args=[WData.list (ns.map WData.int)] ∧ h.get? a=some {cls:=.type "list",data:=.seq vs.toArray} ∧ IntsAre vs ns ∧ ns.length ≤ n:=by
 have ab:WShape.hasAll [] args [.list .int]=true:=(pre_splitW z).1;have hc:l.pre.holds [] {args:=args}=true:=(pre_splitW z).2;obtain⟨d,r,rfl,h1,h2⟩:=hasAllW_cons ab;obtain rfl:=hasAllW_nil h2;obtain⟨xs,rfl,h3⟩:=hasW_list h1;obtain⟨ns,rfl⟩:=items_int h3;have O:ns.length<=n:=by
  unfold OpenLaw.pre at hc;have Z:(WTm.not (.lt (.lit (.int (n:Int))) (.len (.arg 0)))).holds [] {args:=[.list (ns.map .int)]}=true:=by have Z:=(holds_andW hc).1;rw[hn] at Z;exact Z
  have Y:=condW_of Z (w_not (w_lt w_lit (w_len_list (w_arg rfl))));rw[Qg] at Y;refine Z4 λ q=>?_;have q':(n:Int)<((ns.length:Nat):Int):=by omega
  first
   |(rw[Qk q'] at Y;exact absurd Y (by decide))
   |(simp at Y;omega)
 cases aa with
 |cons w1 w2 =>
  cases w2;cases w1 with
  |list ho M=>exact⟨_,_,ns,rfl,rfl,ho,J_9 ns _ M,O⟩
theorem at6 (l:OpenLaw) (args:List WData):l.row.toRowW.claim.post args (.bool true) args=true :=
 postW_of (r:=l.row.toRowW) (X:=(true==true))
  (show WShape.has [] (.bool true) .bool=true by first | rfl | decide | simp[WShape.has,WShape.arms,WShape.armsAll])
  (show (WTm.eq .res (.lit (.bool true))).value [] {args:=args,res:=some (.bool true),after:=args}=some (.bool (true==true)) from w_eq_bool (w_res rfl) w_lit) rfl
theorem attach_call {l:OpenLaw}{n:Nat}{q:Program}{M:List Str}{XP:(Str->Option Value)->Heap->Prop}{YP:World->Heap->Prop}{d:DefRec}
  (hn:l.most=some n) (af:d.params.defaults=[])
  (call:∀ (w:World) (s₀ z:Shared) (mg mb:Str->Option Value) (fa:Addr) (o:Obj) (pm cd Z:Value) (a:Addr) (vs:List Value) (ns:List Int),
   Ground q M [] XP w s₀ mg mb z.heap->YP w z.heap ->
   z.heap.get? fa=some o->o.data=.func (docDef d.name d.params d.body d.scope pm cd Z)->z.heap.CodeRec cd d.name->mg d.name=some (.ref fa) ->
   z.heap.get? a=some {cls:=.type "list",data:=.seq vs.toArray} → IntsAre vs ns → ns.length ≤ n → z.gens=#[] →
   codeAny (model l.prog w) callerA (.call (.ref fa) ⟨[.ref a],[]⟩) (λ r s'=>r=.ok (.ret (.bool true))/\OldK z.heap s'.heap/\s'.os=z.os/\AllBare s'.gens) z) :
  WalkO q M XP YP l.row.toRowW d [] (λ f vs=>PySem.call f vs):=by
 intro w s₀ z mg mb G Y fa o pm cd Z dV kV ho hd ad hD ae hg args vals as aa ah aj ag ai;obtain rfl:dV=.none:=Dflts.none hD af;obtain rfl:kV=.none:=Dflts.noKw hD;obtain⟨a,vs,ns,rfl,rfl,ac,O,ab⟩:=as0 hn aa ag;refine enter_call (codeAny_mono (call w s₀ z mg mb fa o pm cd Z a vs ns G Y ho (fd_plain hd) ad ae ac O ab hg) λ r s' hq=>?_);obtain⟨rfl,h2,h3,h4⟩:=hq;exact⟨.inl ⟨.bool true,.bool true,[],rfl,λ _=>rfl,.bool true,at6 l _,λ _=>⟨List.Pairwise.nil,λ _ hm=>(nomatch hm)⟩⟩,h2,h3,h4⟩
end Att
namespace L2
open PySem PySem.Spec PyProof.Rows
theorem V_2:∀ {vs:List Value}{ns:List Int},IntsAre vs ns->Vals (ns.map V.int) vs
 |_,_,.nil=>.nil
 |_,_,.cons n t h=>.cons ⟨t,rfl⟩ (V_2 h)
noncomputable def a_7 (s:Stmt):Arguments:=match s with
 |.FunctionDef _ a _ _ _ _ _ _ _ _=>a
 |_=>{posonlyargs:=[],args:=[],vararg:=none,kwonlyargs:=[],kw_defaults:=[],kwarg:=none,defaults:=[]}
noncomputable def a_6 (s:Stmt):List Stmt:=match s with
 |.FunctionDef _ _ b _ _ _ _ _ _ _=>b
 |_=>[]
noncomputable def a_0 (s:Stmt):Scope:=match s with
 |.FunctionDef _ _ _ _ _ _ sc _ _ _=>sc
 |_=>{kind:=.function,names:=[],isGenerator:=false,isCoroutine:=false}
abbrev CX0:CXT:=λ _ _ _ _ _ _=>False
abbrev E0:XK:=λ _ _ _=>False
theorem aU9 {X:Cx}:aC1 CX0 X E0:=λ _ _ _ _ _ _ _ h=>h.elim
structure Fun (K:Frag) (x qual:Str) (st:Stmt) (f:Addr) (fd:FuncData):Prop where
 ex:∃ (oc:Value) (od:Option Addr) (kV doc pm:Value) (an:Option Addr) (cdv ct:Value) (osl:Array (Option Value)),
  fd=fnOf x qual (a_7 st) (a_6 st) (a_0 st) .none kV doc pm an cdv ct/\K.lookup f=some ⟨oc,od,.func fd,osl⟩/\codeIn K cdv qual=true
 kp:keepIn K (.ref f)=true
section
variable {P:Program}{w:World}{K:Frag}{mg:Str->Option Value}{base:Heap}
theorem Fun.ok {x z:Str}{st:Stmt}{f:Addr}{fd:FuncData}{N ps:List Str}{k:Nat}{sp:Sp} (F:Fun K x z st f fd) (S:FnScope N ps (a_0 st)) (Z:∀ vs H Q E,sp vs H Q E->vs.length=ps.length)
  (O:∀ (M:Value) (A:Around) (outer:List Env) (s:Shared) (H:Hp) (vs:List V) (Q:VK) (E:XK),Room k (A.deeper (envOfC z (a_0 st) s.heap.objs.size f M))->sp vs H Q E ->
   ∃ t,PSs (ak0 CX0 P w K mg base N z (a_0 st) f M A outer s H E).nox (a_6 st) t/\t {nx:=λ _ H'=>Q .non H',rt:=Q} (start N vs) H):FnOk P w K mg base CX0 (k+1) f fd ps sp:=by
 obtain⟨oc,od,kV,ab,pm,an,M,ct,ac,rfl,lk,Y⟩:=F.ex;refine bq8 lk Y S Z λ A outer s H vs Q E hr aa=>?_;obtain⟨t,h,q⟩:=O M A outer s H vs Q E hr aa;exact⟨t,h.nox,q⟩
theorem Fun.binds {x z:Str}{st:Stmt}{f:Addr}{fd:FuncData}{ps:List Str} (F:Fun K x z st f fd)
  (h:∀ (kV O Y:Value) (Z:Option Addr) (M ct:Value) (us:List Value),us.length=ps.length->bindArgs (fnOf x z (a_7 st) (a_6 st) (a_0 st) .none kV O Y Z M ct) ⟨us,[]⟩=pure (ps.zip us)):Binds K fd ps []:=by
 obtain⟨oc,od,kV,O,Y,Z,M,ct,ab,rfl,lk,aa⟩:=F.ex;exact .all (h kV O Y Z M ct)
theorem b_5 {x z:Str}{st:Stmt}{f:Addr}{oc:Value}{od an:Option Addr}{Y:Array (Option Value)}{kV O Z M ct:Value} (l:K.lookup f=some ⟨oc,od,.func (fnOf x z (a_7 st) (a_6 st) (a_0 st) .none kV O Z an M ct),Y⟩)
  (c:codeIn K M z=true) (k:keepIn K (.ref f)=true):Fun K x z st f (fnOf x z (a_7 st) (a_6 st) (a_0 st) .none kV O Z an M ct):=⟨⟨oc,od,kV,O,Z,an,M,ct,Y,rfl,l,c⟩,k⟩
end
theorem aY5 {A:Around}{k:Nat} (hr:Room k A):A.units+1<cLine:=Y8 (Nat.add_le_add_left (by decide:1<=64) _) hr.units
theorem V_6 {n:Nat} (h:n<=1000):n<sizeLine:=Y8 h (by decide)
section
variable {X:Cx}
theorem pv (i:Nat) {x:Str}{pos:Pos} (O:X.N[i]?=some x:=by rfl) (M:Vis X.env.scope x:=by first | exact Or.inl rfl | exact Or.inr (Or.inl rfl) | exact Or.inr (Or.inr rfl)) (Y:(x==("__debug__":Str))=false:=by decide)
  (z:(x==("__classdict__":Str))=false:=by decide):PE X (.Name x pos) (aD6 i):=t_1 O M Y z
end
def Same (H H':Hp):Prop:=∀ b o,H b=some o->H' b=some o
theorem Same.refl (H:Hp):Same H H:=λ _ _ h=>h
theorem Same.trans {H H1 H2:Hp} (a:Same H H1) (b:Same H1 H2):Same H H2:=λ c o h=>b c o (a c o h)
theorem Same.free {H H':Hp} (e:Same H H') {l:Addr} (h:H' l=Option.none):H l=Option.none:=by
 cases q:H l with
 |none=>rfl
 |some o =>
  rw[e l o q] at h;cases h
theorem Same.seq {K:Frag}{H H':Hp}{a:Addr}{xs:List V} (e:Same H H') (h:SqL K H a xs):SqL K H' a xs:=by
 rcases h with (h | ⟨o,h⟩) | h
 ·exact .inl (.inl (e _ _ h))
 ·exact .inl (.inr ⟨o,e _ _ h⟩)
 ·exact .inr h
section
variable {κ:Type} [DecidableEq κ]
noncomputable def valV (z:List (κ×V)) (k:κ):Option V:=(z.find? λ M=>decide (M.1=k)).map (·.2)
noncomputable def W_3 (z:List (κ×V)) (k:κ) (v:V):List (κ×V) :=
 if (z.any λ M=>decide (M.1=k))=true then z.map (λ M=>if M.1=k then (M.1,v) else M) else z++[(k,v)]
noncomputable def ca0 (z:List (κ×V)) (k:κ):List (κ×V):=z.filter λ M=>decide (M.1≠k)
theorem l_6 {p:κ×V}{r:List (κ×V)}{k:κ} (e:p.1=k):valV (p::r) k=some p.2:=by simp[valV,Q2,e]
theorem k_4 {p:κ×V}{r:List (κ×V)}{k:κ} (e:¬ p.1=k):valV (p::r) k=valV r k:=by simp[valV,Q2,e]
theorem B_6 (k:κ):∀ z:List (κ×V),(z.any λ M=>decide (M.1=k))=(valV z k).isSome
 |[]=>rfl
 |p::r=>by
  rw[Yh];by_cases e:p.1=k
  ·simp only[l_6 e,Qk e,Bool.true_or,Option.isSome_some]
  ·rw[k_4 e,Qh e,Bool.false_or];exact B_6 k r
theorem ag5 (k j:κ) (y:V):∀ M:List (κ×V),valV (M.map λ O=>if O.1=k then (O.1,y) else O) j=(valV M j).map λ x=>if j=k then y else x
 |[]=>rfl
 |p::r=>by
  have Y:=ag5 k j y r;rw[Qa];by_cases h:p.1=k
  ·rw[if_pos h];by_cases e:p.1=j
   ·rw[l_6 (p:=(p.1,y)) e,l_6 e,Jz,if_pos (e.symm.trans h)]
   ·rw[k_4 (p:=(p.1,y)) e,k_4 e,Y]
  ·rw[if_neg h];by_cases e:p.1=j
   ·rw[l_6 (p:=p) e,l_6 e,Jz,if_neg (λ z=>h (e.trans z))]
   ·rw[k_4 (p:=p) e,k_4 e,Y]
theorem V_3 (k j:κ) (y:V):∀ M:List (κ×V),valV M k=none->valV (M++[(k,y)]) j=if j=k then some y else valV M j
 |[],_=>by
  by_cases e:k=j
  ·rw[if_pos e.symm];exact l_6 (p:=(k,y)) e
  ·rw[if_neg (λ z=>e z.symm)];exact k_4 (p:=(k,y)) e
 |p::r,hn=>by
  rw[Yu];have hk:¬ p.1=k:=λ z=>by rw[l_6 z] at hn;cases hn
  rw[k_4 hk] at hn;have O:=V_3 k j y r hn;by_cases e:p.1=j
  ·rw[l_6 e,l_6 e,if_neg (λ z=>hk (e.trans z))]
  ·rw[k_4 e,k_4 e,O]
theorem bu9 (z:List (κ×V)) (k j:κ) (y:V):valV (W_3 z k y) j=if j=k then some y else valV z j:=by
 unfold W_3;by_cases a:(z.any λ O=>decide (O.1=k))=true
 ·rw[if_pos a,ag5];rw[B_6] at a;by_cases e:j=k
  ·obtain⟨x,M⟩:=Option.isSome_iff_exists.mp a;rw[if_pos e,e,M,Jz,if_pos rfl]
  ·rw[if_neg e];cases valV z j with
   |none=>rfl
   |some x=>rw[Jz,if_neg e]
 ·rw[if_neg a];refine V_3 k j y z ?_;rw[B_6] at a;cases q:valV z k with
  |none=>rfl
  |some x=>rw[q] at a;exact (a rfl).elim
theorem ae6 (z:List (κ×V)) (k:κ) (v:V):(W_3 z k v).length<=z.length+1:=by
 unfold W_3;split
 ·rw[Qg];omega
 ·rw[Qd,Qc,Yj];omega
theorem aE4 {z:List (κ×V)}{k:κ} (v:V) (h:valV z k=none):W_3 z k v=z++[(k,v)]:=by unfold W_3;rw[B_6,h];exact if_neg (by decide)
theorem RelO.isSome_eq {o:Option V}{u:Option Value} (r:RelO o u):o.isSome=u.isSome:=by
 cases o with
 |none=>cases u with
  |none=>rfl
  |some _=>exact (show False from r).elim
 |some _=>cases u with
  |none=>exact (show False from r).elim
  |some _=>rfl
theorem RelO.getD {o:Option V}{u:Option Value}{d:V}{d':Value} (r:RelO o u) (rd:RelV d d'):RelV (o.getD d) (u.getD d'):=by
 cases o with
 |none=>cases u with
  |none=>exact rd
  |some _=>exact (show False from r).elim
 |some _=>cases u with
  |none=>exact (show False from r).elim
  |some _=>exact r
theorem KV.val {M:List (κ×V)}{vs:List (κ×Value)} (r:KV M vs) (k:κ):RelO (valV M k) (valueAt vs k):=by
 unfold KV at r;induction r with
 |nil=>exact Yt
 |@cons p q ps qs h t O =>
  obtain⟨h1,h2⟩:=h;by_cases e:p.1=k
  ·have e':q.1=k:=h1.symm.trans e;have b:valueAt (q::qs) k=some q.2:=by simp[valueAt,Q2,e']
   rw[l_6 e,b];exact h2
  ·have e':¬ q.1=k:=λ z=>e (h1.trans z);have b:valueAt (q::qs) k=valueAt qs k:=by simp[valueAt,Q2,e']
   rw[k_4 e,b];exact O
theorem KV.any {z:List (κ×V)}{vs:List (κ×Value)} (r:KV z vs) (k:κ):(z.any λ M=>decide (M.1=k))=vs.any λ M=>decide (M.1=k):=by
 unfold KV at r;induction r with
 |nil=>rfl
 |cons h t O=>rw[Yh,Yh,O,h.1]
theorem KV.repl {O:List (κ×V)}{vs:List (κ×Value)} (r:KV O vs) (k:κ) {y:V}{u:Value} (Y:RelV y u) :
  KV (O.map λ M=>if M.1=k then (M.1,y) else M) (vs.map λ M=>if M.1=k then (M.1,u) else M):=by
 unfold KV at r ⊢;induction r with
 |nil=>exact .nil
 |@cons p q ps qs h t Z =>
  rw[Qa,Qa];refine .cons ?_ Z;obtain⟨h1,h2⟩:=h;by_cases e:p.1=k
  ·rw[if_pos e,if_pos (h1.symm.trans e)];exact⟨h1,Y⟩
  ·rw[if_neg e,if_neg (λ z=>e (h1.trans z))];exact⟨h1,h2⟩
theorem KV.put {z:List (κ×V)}{vs:List (κ×Value)} (r:KV z vs) (k:κ) {y:V}{u:Value} (M:RelV y u):KV (W_3 z k y) (stored vs k u):=by
 unfold W_3 stored;rw[r.any k];by_cases e:(vs.any λ O=>decide (O.1=k))=true
 ·rw[if_pos e,if_pos e];exact r.repl k M
 ·rw[if_neg e,if_neg e];exact Paired.snoc r ⟨rfl,M⟩
theorem KV.keys {z:List (κ×V)}{vs:List (κ×Value)} (r:KV z vs):z.map (·.1)=vs.map (·.1):=by
 unfold KV at r;induction r with
 |nil=>rfl
 |cons h t M=>rw[Qa,Qa,M,h.1]
theorem KV.length {z:List (κ×V)}{vs:List (κ×Value)} (r:KV z vs):z.length=vs.length:=Jk r
end
theorem aH4 {P:Program}{w:World}{k:Key}{u:Value} (r:RelV (kV k) u):(c_9 P w).is k u=true:=by
 cases k with
 |inl i=>obtain⟨t,e⟩:=(show ∃ t,u=Value.int i t from r);subst e;exact ae2 P w i t
 |inr x=>obtain⟨t,e⟩:=(show ∃ t,u=Value.str x t from r);subst e;exact A_9 P w x t
theorem J_8 {P:Program}{w:World}:∀ {ks:List Key}{us:List Value},Vals (ks.map kV) us->ItemsAre (c_9 P w) ks us
 |[],_,r=>by rw[List.map_nil] at r;cases r;exact .nil
 |k::ks,_,r=>by
  rw[Qa] at r;cases r with
  |cons h t=>exact .cons (aH4 h) (J_8 t)
abbrev KT (H:Hp):List (List Key×V)->List (List Key×Addr×Value)->Prop:=Paired λ p q=>p.1=q.1/\H q.2.1=some (.tup (p.1.map kV))/\RelV p.2 q.2.2
theorem KT.val {H:Hp}{M:List (List Key×V)}{xs:List (List Key×Addr×Value)} (r:KT H M xs) (k:List Key):RelO (valV M k) ((atKey xs k).map (·.2)):=by
 induction r with
 |nil=>exact Yt
 |@cons p q ps qs h t O =>
  obtain⟨h1,_,h2⟩:=h;by_cases e:p.1=k
  ·have e':q.1=k:=h1.symm.trans e;have b:atKey (q::qs) k=some q.2:=by simp[atKey,Q2,e']
   rw[l_6 e,b];exact h2
  ·have e':¬ q.1=k:=λ z=>e (h1.trans z);have b:atKey (q::qs) k=atKey qs k:=by simp[atKey,Q2,e']
   rw[k_4 e,b];exact O
theorem KT.repl {H:Hp}{M:List (List Key×V)}{xs:List (List Key×Addr×Value)} (r:KT H M xs) (k:List Key) {y:V}{u:Value} (Z:RelV y u) :
  KT H (M.map λ O=>if O.1=k then (O.1,y) else O) (xs.map (putAt k u)):=by
 induction r with
 |nil=>exact .nil
 |@cons p q ps qs h t ih =>
  rw[Qa,Qa];refine .cons ?_ ih;obtain⟨h1,h2,Y⟩:=h;unfold putAt;by_cases e:p.1=k
  ·rw[if_pos e,if_pos (h1.symm.trans e)];exact⟨h1,h2,Z⟩
  ·rw[if_neg e,if_neg (λ z=>e (h1.trans z))];exact⟨h1,h2,Y⟩
theorem KT.put {H:Hp}{z:List (List Key×V)}{xs:List (List Key×Addr×Value)} (r:KT H z xs) (k:List Key) {b:Addr}{y:V}{u:Value} (O:H b=some (.tup (k.map kV))) (M:RelV y u) :
  KT H (W_3 z k y) (storedH xs k b u):=by
 have e:(z.any λ Y=>decide (Y.1=k))=(atKey xs k).isSome:=by rw[B_6,(r.val k).isSome_eq,Option.isSome_map]
 unfold W_3 storedH;rw[e];by_cases q:(atKey xs k).isSome=true
 ·rw[if_pos q,if_pos q];exact r.repl k M
 ·rw[if_neg q,if_neg q];exact Paired.snoc r ⟨rfl,O,M⟩
theorem KT.keeps {H H':Hp}{M:List (List Key×V)}{xs:List (List Key×Addr×Value)} (r:KT H M xs) (O:∀ b ys,H b=some (.tup ys)->H' b=some (.tup ys)):KT H' M xs :=
 Paired.mapP r λ _ _ z=>⟨z.1,O _ _ z.2.1,z.2.2⟩
section
variable {P:Program}{w:World}{H:Hp}{h:Heap}{a:Addr}
theorem bj5 {u:HO} (ok:HOk P w H h) (e:Rd H a u):ObjOk P w H h a u:=e.ok ok
theorem bc4 {z:List (Key×V)} (ok:HOk P w H h) (e:Rd H a (.dK z)):z.length<=sizeLine/\(a==sysModules)=false/\∃ vs,KV z vs/\h.DictOf (c_9 P w) a vs :=
 show ObjOk P w H h a (.dK z) from bj5 ok e
theorem bH9 {z:List (Key×V)} (ok:HOk P w H h) (e:H a=some (.dK z)):z.length<=sizeLine/\(a==sysModules)=false/\∃ vs,KV z vs/\h.DictOf (c_9 P w) a vs:=bc4 ok (.inl e)
theorem aw8 {ks:List Key} (ok:HOk P w H h) (e:H a=some (.tup (ks.map kV))):(tupleKind (c_9 P w)).is h ks a:=by obtain⟨_,z,r,o,h1,h2,⟨n,M⟩,_⟩:=(show ObjOk P w H h a (.tup (ks.map kV)) from ok a _ e);exact⟨o,z.toArray,n,h1,h2,M,by simpa using J_8 r⟩
theorem bs2 {M:List (List Key×V)} (ok:HOk P w H h) (e:Rd H a (.dT M)):M.length<=sizeLine/\(a==sysModules)=false /\
  ∃ xs,KT H M xs/\h.DictOfH (tupleKind (c_9 P w)) a xs:=by
 obtain⟨z,y,xs,r,o,es,ep,h1,h2,Y,h4,Z⟩:=(show ObjOk P w H h a (.dT M) from bj5 ok e);refine⟨z,y,xs,r,o,es,ep,h1,h2,Y,h4,λ x O=>?_,Z⟩;have all:∀ {l:List (List Key×V)}{m:List (List Key×Addr×Value)},KT H l m->∀ x∈m,(tupleKind (c_9 P w)).is h x.1 x.2.1:=by
  intro l m q;induction q with
  |nil=>intro x O;exact nomatch O
  |@cons p q ps qs hq t ih =>
   intro x O;rcases qw O with e | O
   ·subst e;exact aw8 ok (by rw[<- hq.1];exact hq.2.1)
   ·exact ih x O
 exact all r x O
end
def DGet (H:Hp) (a:Addr) (y:V) (r:Option V):Prop :=
 (∃ z k,Rd H a (.dK z)/\y=kV k/\r=valV z k)\/∃ z k b,Rd H a (.dT z)/\y=.ref b/\H b=some (.tup (k.map kV))/\r=valV z k
def DPut (H:Hp) (a:Addr) (y v:V) (H':Hp):Prop :=
 (∃ z k,H a=some (.dK z)/\y=kV k/\z.length<sizeLine/\H'=upd H a (.dK (W_3 z k v))) \/
 ∃ z k b,H a=some (.dT z)/\y=.ref b/\H b=some (.tup (k.map kV))/\z.length<sizeLine/\H'=upd H a (.dT (W_3 z k v))
theorem DGet.k {H:Hp}{a:Addr}{z:List (Key×V)}{k:Key} (e:H a=some (.dK z)):DGet H a (kV k) (valV z k):=.inl ⟨z,k,.inl e,rfl,rfl⟩
theorem DGet.t {H:Hp}{a b:Addr}{z:List (List Key×V)}{k:List Key} (e:H a=some (.dT z)) (M:H b=some (.tup (k.map kV))):DGet H a (.ref b) (valV z k):=.inr ⟨z,k,b,.inl e,rfl,M,rfl⟩
theorem DPut.k {H:Hp}{a:Addr}{z:List (Key×V)}{k:Key}{v:V} (e:H a=some (.dK z)) (M:z.length<sizeLine):DPut H a (kV k) v (upd H a (.dK (W_3 z k v))):=.inl ⟨z,k,e,rfl,M,rfl⟩
theorem DPut.t {H:Hp}{a b:Addr}{z:List (List Key×V)}{k:List Key}{v:V} (e:H a=some (.dT z)) (O:H b=some (.tup (k.map kV))) (M:z.length<sizeLine) :
  DPut H a (.ref b) v (upd H a (.dT (W_3 z k v))):=.inr ⟨z,k,b,e,rfl,O,M,rfl⟩
section
variable {X:Cx}{pins:List (Addr×Obj)}{σ:St}{H:Hp}{s:Shared}{a:Addr}{y v:V}{u r:Value}{o:Option V}{A:Around}{E:Value->Shared->Prop}
theorem Inv.big (I:Inv X pins σ H s):sysModules<s.heap.objs.size:=by have h:mainGlobals<s.heap.objs.size:=(I.mod.glob.keeps I.bk).lt;exact Nat.lt_trans (by decide) h
theorem az1 {h':Heap}{t':Nat}{M:HO} (I:Inv X pins σ H s) (Z:Mut (H a)) (hs:Heap.SameBut a s.heap h') (O:∃ q,h'.get? a=some q) (new:ObjOk X.prog X.w (upd H a M) h' a M) :
  Inv X pins σ (upd H a M) {s with heap:=h',toks:=t'} :=
 I.write (x:=a) (e:=a) Z (.inl rfl) (λ b q Y z=>(hs.2 b Y).trans z) O new
theorem bs3 {P:Program}{w:World}{H':Hp}{h':Heap}{M:List (Key×V)}{vs:List (Key×Value)} (z:M.length<=sizeLine) (Y:(a==sysModules)=false) (O:KV M vs) (Z:h'.DictOf (c_9 P w) a vs) :
  ObjOk P w H' h' a (.dK M):=⟨z,Y,vs,O,Z⟩
end
def bw6 (i:Expr):Prop:=∀ z M,subscripted i false z M=operate [z,M] (getItem z M)
theorem ar5 {prog:Program}{w:World}{A:Around}{E:Value->Shared->Prop}{s:Shared}{env:Env}{value z:Expr}{pos:Pos}{T id:String}{Q:Value->Shared->Prop}
  (hl:typeLookup (.type T) "__getitem__"=pure (some (.builtin id))) (hs:bw6 z)
  (h:wpAny (model prog w) A (eval value env) (λ o Z=>wpAny (model prog w) A (eval z env) (λ i M=>M.TypeIs o T/\wpAny (model prog w) A (getItem o i) Q E M) E Z) E s) :
  wpAny (model prog w) A (eval (.Subscript value z pos) env) Q E s:=by
 refine Subscript_ (Q6 h (λ o Z aa=>Q6 aa (λ i M O=>?_) λ _ _ x=>x) λ _ _ x=>x);obtain⟨hT,O⟩:=O;unfold subscriptTail;refine qc ?_;rw[getitemInPython_of_ne hT.not_modules];refine qc (wpAny_specialOf hT hl ?_);have fin:wpAny (model prog w) A (subscripted z false o i) (λ r Y=>wpAny (model prog w) A (letTemporaryGo value o r >>= λ _=>pure r) Q E Y) E M:=by rw[hs o i];exact wpAny_operating (Q6 O (λ r Y ab=>qc (wpAny_letTemporaryGo (qd ab))) λ _ _ x=>x)
 first
  |exact qd (qc fin)
  |exact qc (qd (qc fin))
  |exact qc fin
theorem aJ5 {P:Program}{w:World}{H:Hp} (h:Heap) (z:sysModules<h.objs.size):ObjOk P w H (h.push {cls:=.type "dict",data:=.dict #[]}) h.objs.size (.dK []) :=
 ⟨Qw _,beq_eq_false_iff_ne.mpr (Zb (qt z)),[],.nil,Heap.DictOf.new h⟩
def bh7:TE:=λ _ H Q=>∀ p,H p=none->Q (.ref p) (upd H p (.dK []))
section
variable {X:Cx}{pos:Pos}
theorem aF7:PE X (.Dict [] [] pos) bh7:=λ pins s σ H Q I h =>
 wpAny_Dict_empty ⟨.ref s.heap.objs.size,_,I.laid (a:=s.heap.objs.size) (o:=.dK []) (t':=s.toks) (λ _ _ q=>qf _ q) (qj _) (aJ5 s.heap I.big),rfl,h _ (I.hok.fresh (qj _))⟩
end
structure M1 (X:Cx) (o:Expr) (m:Str) (apos:Pos) (e:Expr) (cpos:Pos):Prop where
 base:attributeBase o m X.env (eval o X.env)=eval o X.env
 few:((backTo cpos (starEach [e] X.env)).all (λ x=>!x.1)&&(backToKw cpos (keywordEach [] X.env)).all (λ x=>x.1.isSome)
  && decide (([e]:List Expr).length+([]:List Keyword).length+(if ([]:List Keyword).isEmpty then 0 else 1)<30))=true
 line:(apos.endLine==cpos.line)=true
 trees:backTo cpos (starEach [e] X.env)=[(false,eval e X.env)]
structure M2 (X:Cx) (o:Expr) (m:Str) (apos:Pos) (e f:Expr) (cpos:Pos):Prop where
 base:attributeBase o m X.env (eval o X.env)=eval o X.env
 few:((backTo cpos (starEach [e,f] X.env)).all (λ x=>!x.1)&&(backToKw cpos (keywordEach [] X.env)).all (λ x=>x.1.isSome)
  && decide (([e,f]:List Expr).length+([]:List Keyword).length+(if ([]:List Keyword).isEmpty then 0 else 1)<30))=true
 line:(apos.endLine==cpos.line)=true
 trees:backTo cpos (starEach [e,f] X.env)=[(false,eval e X.env),(false,eval f X.env)]
def IsD (H:Hp) (a:Addr):Prop:=(∃ z,Rd H a (.dK z))\/∃ z,Rd H a (.dT z)
theorem aP1 {X:Cx}{pins:List (Addr×Obj)}{σ:St}{H:Hp}{s:Shared}{a:Addr} (I:Inv X pins σ H s) (d:IsD H a) :
  s.TypeIs (.ref a) "dict" ∧ (∀ b,Value.ref a=.ref b → ∃ z,s.heap.get? b=some z ∧ z.dict=none) ∧ (a==sysModules)=false:=by
 rcases d with ⟨kvs,e⟩ | ⟨kvs,e⟩
 ·obtain⟨_,O,vs,_,M⟩:=bc4 I.hok e;refine⟨M.typeIs,λ b q=>?_,O⟩;cases q;obtain⟨z,_,_,h1,h2,_⟩:=M;exact⟨z,h1,h2.2.1⟩
 ·obtain⟨_,O,xs,_,M⟩:=bs2 I.hok e;refine⟨M.typeIs,λ b q=>?_,O⟩;cases q;obtain⟨z,_,_,h1,h2,_⟩:=M;exact⟨z,h1,h2.2.1⟩
section
variable {X:Cx}{pins:List (Addr×Obj)}{σ:St}{H:Hp}{s:Shared}{a:Addr}{y d:V}{u r:Value}{o:Option V}{A:Around}{E:Value->Shared->Prop}
theorem bs4 {Q:Value->Shared->Prop} (hu:A.units+1<cLine) (I:Inv X pins σ H s) (g:DGet H a y o) (ry:RelV y u) (rd:RelV d r) (h:∀ Z s',Inv X pins σ H s'->RelV (o.getD d) Z->Q Z s') :
  wpAny (model X.prog X.w) A (call (.builtin "dict.get") [.ref a,u,r]) Q E s:=by
 rcases g with ⟨kvs,k,e,ey,l⟩ | ⟨kvs,k,b,e,ey,eb,l⟩
 ·subst ey;obtain⟨z,Y,vs,M,O⟩:=bc4 I.hok e;refine call_meetsIn J5 O.typeIs PySem.F.entry_dict_get (PySem.F.args_dict_get_3 _ _ _) (meets_dict_get_default (c_9 X.prog X.w) a (aH4 ry) Y r) ⟨_,O.mapOf,h _ _ (I.tok _) ?_⟩;rw[l];exact (M.val k).getD rd
 ·subst ey;cases (show u=Value.ref b from ry);obtain⟨z,Y,xs,M,O⟩:=bs2 I.hok e;refine call_meetsIn J5 O.typeIs PySem.F.entry_dict_get (PySem.F.args_dict_get_3 _ _ _) (meetsH_dict_get_default (tupleKind (c_9 X.prog X.w)) a b Y r) ⟨tupleKind_room_in1 hu,k,xs,aw8 I.hok eb,O,h _ _ (I.tok _) ?_⟩;rw[l];exact (M.val k).getD rd
end
def bh8 (td ty tx:TE):TE:=λ σ H Q=>td σ H λ x H1=>∃ a,x=.ref a/\IsD H1 a/\ty σ H1 λ y H2=>tx σ H2 λ z M=>∃ o,DGet M a y o/\Q (o.getD z) M
section
variable {X:Cx}{o e f:Expr}{apos cpos:Pos}{td ty tx:TE}
theorem aF8 (hu:X.A.units+1<cLine) (ho:PE X o td) (he:PE X e ty) (hf:PE X f tx) (m:M2 X o "get" apos e f cpos):PE X (.Call (.Attribute o "get" apos) [e,f] [] cpos) (bh8 td ty tx):=by
 intro pins s σ H Q I h;refine wpAny_Call_method m.base m.few m.line Jn J5 PySem.F.type_dict_get (thn (ho pins s σ H _ I h) λ u s1 M=>?_);obtain⟨x,H1,Y,rx,a,ex,d,q1⟩:=M;subst ex;obtain rfl:u=Value.ref a:=rx;obtain⟨t1,t2,_⟩:=aP1 Y d;refine⟨t1,t2,?_⟩;rw[m.trees];refine Z9 rfl (Yv (Zt (thn (he pins s1 σ H1 _ Y q1) λ iv s2 ⟨y,H2,Z,ry,q2⟩ =>
  Zt (thn (hf pins s2 σ H2 _ Z q2) λ fv s3 ⟨z,H3,I3,rz,ov,g,q3⟩=>Jf ?_))))
 exact bs4 hu I3 g ry rz λ w' s4 I4 O=>⟨_,H3,I4,O,q3⟩
end
end L2
namespace Att
open PySem PySem.W PySem.Calls PyProof.Rows
end Att
namespace L2
open PySem PySem.Spec PyProof.Rows
section
variable {κ:Type} [DecidableEq κ]
theorem ae0:∀ {l:List κ}{k:κ},l.Nodup->¬ k∈l->(l++[k]).Nodup
 |[],k,_,_=>by simp
 |a::r,k,h,hk=>by
  obtain⟨h1,h2⟩:=List.nodup_cons.mp h;show (a::(r++[k])).Nodup;refine List.nodup_cons.mpr ⟨λ m=>?_,ae0 h2 λ m=>hk (List.mem_cons.mpr (Or.inr m))⟩;rcases qz m with q | q
  ·exact h1 q
  ·exact hk (List.mem_cons.mpr (Or.inl (List.mem_singleton.mp q).symm))
end
theorem v_8 {a b:Addr}{n:Nat} (h:a<n) (h':n<=b):a≠b:=qt (qr h h')
theorem aj2 {a b:Addr}{n:Nat} (h:a<n) (h':n<=b):b≠a:=(v_8 h h').symm
noncomputable def U_0 (cells:List (Str×Addr)):List (Str×NameKind)->List (Str×Addr)->List (Str×Addr)
 |[],acc=>acc
 |(n,k)::r,acc=>U_0 cells r (if (k==NameKind.free)=true then (n,(cells.lookup n).getD 0)::acc else acc)
theorem E_2 {env:Env}:∀ (l:List (Str×NameKind)) (z:List (Str×Addr)),(∀ y∈l,y.2=.free->∃ c,env.cells.lookup y.1=some c) ->
  (forIn l z λ (y:Str×NameKind) (O:List (Str×Addr))=>(match y with
   |(name,kind)=>if (kind==NameKind.free)=true then do let c <- cellOf env name;pure (ForInStep.yield ((name,c)::O)) else pure (ForInStep.yield O):Sem _))=pure (U_0 env.cells l z)
 |[],z,_=>rfl
 |(n,k)::r,z,h=>by
  rw[List.forIn_cons];unfold U_0;by_cases e:(k==NameKind.free)=true
  ·have e':k=NameKind.free:=by simpa using e
   obtain⟨c,Y⟩:=h (n,k) qg e';simp only[e,Uo,cellOf,Y,pure_bind,Option.getD_some];exact E_2 r _ λ y M=>h y (qh _ M)
  ·simp only[e,Up,pure_bind];exact E_2 r _ λ y M=>h y (qh _ M)
theorem E_3 {sc:Scope}{env:Env} (h:∀ y∈sc.names,y.2=.free->∃ c,env.cells.lookup y.1=some c):closureFor sc env=pure (U_0 env.cells sc.names []):=by have e:=E_2 (env:=env) sc.names [] h;simp only[closureFor];exact (bind_pure _).trans e
theorem G_9 {cells:List (Str×Addr)}{y:Str}{c:Addr}:∀ (l:List (Str×NameKind)) (M:List (Str×Addr)),(∀ y∈l,y.2=.free->∃ c,cells.lookup y.1=some c) ->
  (U_0 cells l M).lookup y=some c->cells.lookup y=some c\/M.lookup y=some c
 |[],M,_,e=>.inr e
 |(n,k)::r,M,h,e=>by
  unfold U_0 at e;have hr:∀ y∈r,y.2=.free->∃ c,cells.lookup y.1=some c:=λ y hy=>h y (qh _ hy);rcases G_9 r _ hr e with q | q
  ·exact .inl q
  ·by_cases z:(k==NameKind.free)=true
   ·rw[if_pos z] at q;rw[Zp] at q;cases Z:y==n with
    |true =>
     rw[Z] at q;obtain⟨c',Y⟩:=h (n,k) qg (by simpa using z);have O:cells.lookup n=some c':=Y;rw[O] at q;have e1:y=n:=by simpa using Z
     have q':c'=c:=qi q;exact .inl (by rw[e1,O,q'])
    |false =>
     rw[Z] at q;exact .inr q
   ·rw[if_neg z] at q;exact .inr q
theorem C_3 {cells:List (Str×Addr)}{y:Str}:∀ (l:List (Str×NameKind)) (z:List (Str×Addr)),((y,NameKind.free)∈l\/∃ c,z.lookup y=some c)->∃ c,(U_0 cells l z).lookup y=some c
 |[],z,h=>by
  rcases h with h | h
  ·cases h
  ·exact h
 |(n,k)::r,z,h=>by
  unfold U_0;have M:∀ v:Addr,(∃ c,z.lookup y=some c)->∃ c,((n,v)::z).lookup y=some c:=λ v O=>by
   obtain⟨c,Y⟩:=O;rw[Zp];cases y==n with
   |true=>exact⟨v,rfl⟩
   |false=>exact⟨c,Y⟩
  rcases h with h | h
  ·rcases qw h with e | h
   ·have e1:y=n:=Zq Prod.fst e;have e2:NameKind.free=k:=Zq Prod.snd e;subst e1 e2;refine C_3 r _ (.inr ?_);rw[if_pos (by rfl)];refine⟨(cells.lookup y).getD 0,?_⟩;rw[Zp];simp
   ·exact C_3 r _ (.inl h)
  ·refine C_3 r _ (.inr ?_);split
   ·exact M _ h
   ·exact h
theorem V_9 {scope:Scope}{env:Env}{y:Str}{k:NameKind} (Y:∀ z∈scope.names,z.2≠.cell) (h:(relabel scope env).names.lookup y=some k) (hk:k=.cell\/k=.free):(y,NameKind.free)∈scope.names:=by
 have m:=Zn h;unfold relabel at m;obtain⟨⟨n,O⟩,M,e⟩:=List.mem_map.mp m;dsimp only at e;split at e
 ·rename_i z;have e1:n=y:=Zq Prod.fst e;have Z:O=NameKind.free:=by simp only[Qx] at z;simpa using z.1.1
  subst e1 Z;exact M
 ·have e1:n=y:=Zq Prod.fst e;have e2:O=k:=Zq Prod.snd e;subst e1 e2;rcases hk with z | z
  ·exact absurd z (Y _ M)
  ·rw[z] at M;exact M
theorem O_3 {env:Env} (hf:env.scope.kind=.function):∀ {names:List (Str×NameKind)}{y:Str},names.lookup y=some .free->env.kindOf y=some .cell ->
  (names.map λ (n,k)=>if (k==NameKind.free&&env.scope.kind==.function&&env.kindOf n==some .cell) then (n,NameKind.cell) else (n,k)).lookup y=some .cell
 |[],_,h,_=>by simp at h
 |(n,k)::r,y,h,hk=>by
  have O:=@O_3 env hf r y;rw[Qa];cases M:y==n with
  |true =>
   have e:y=n:=by simpa using M
   subst e;rw[Zp,M] at h;have h':k=NameKind.free:=qi h;subst h';simp[hf,hk,Zp]
  |false =>
   rw[Zp,M] at h;show List.lookup y ((if (k==NameKind.free&&env.scope.kind==.function&&env.kindOf n==some .cell)=true then (n,NameKind.cell) else (n,k))::_)=_;by_cases z:(k==NameKind.free&&env.scope.kind==.function&&env.kindOf n==some .cell)=true
   ·rw[if_pos z,Zp,M];exact O h hk
   ·rw[if_neg z,Zp,M];exact O h hk
structure ScB (N:List Str) (sc scope:Scope) (x:Str) (frees:List Str) (js:List Nat):Prop where
 kind:scope.kind=.function
 fk:sc.kind=.function
 cells:∀ y∈scope.names,y.2≠.cell
 locs:∀ y∈scope.names,y.2=.local->scope.names.lookup y.1=some .local
 own:scope.names.lookup x=some .local
 fr:∀ y∈scope.names,y.2=.free->sc.names.lookup y.1=some .cell
 nd:(x::frees).Nodup
 ln:frees.length=js.length
 zp:∀ p∈frees.zip js,N[p.2]?=some p.1/\sc.names.lookup p.1=some .cell/\scope.names.lookup p.1=some .free
def cxB (X:Cx) (N:List Str) (scope:Scope) (s:Shared) (H:Hp) (C:Addr) (fp:List Addr):Cx where
 prog:=X.prog
 w:=X.w
 K:=X.K
 mg:=X.mg
 base:=X.base
 A:=X.A
 N:=N
 s₀:=s
 H₀:=H
 env:=compEnvC scope (U_0 X.env.cells scope.names []) C X.env
 outer:=X.stack
 stack:=X.stack
 ex:=fp
 fn:=λ _=>false
 calm:=X.calm
 pn:=[]
 xe:=λ _ _=>False
def frv (σ:St) (js:List Nat):St:=js.map λ j=>(σ[j]?).join
def PTs (X:Cx) (ifs:List Expr) (t:TT):Prop :=
 ∀ (pins:List (Addr×Obj)) (s:Shared) (σ:St) (H:Hp) (Q:Bool->Hp->Prop),Inv X pins σ H s->t σ H Q ->
  wpAny (model X.prog X.w) X.A (forIn ifs true λ c r=>if r=true then do let ok <- isTrue c X.env (eval c X.env);pure (ForInStep.yield ok) else pure (ForInStep.yield r)) (TP X pins σ Q) X.xe s
def tYes:TT:=λ _ H Q=>Q true H
theorem aU0 {X:Cx}:PTs X [] tYes:=λ _ _ _ H _ I h=>wpAny_tests_nil ⟨H,I,h⟩
theorem aT9 {X:Cx}{c:Expr}{t:TT} (h:PT X c t):PTs X [c] t:=λ pins s σ H Q I q=>wpAny_tests_one (h pins s σ H Q I q)
def LcW (js:List Nat) (tt:TT) (te:TE) (σ:St) (Q:List V->Hp->Prop) (J:It) (H1:Hp):Prop :=
 ∃ W:Nat->Nat->List V->Hp->Prop,(∃ m,W 0 m [] H1)/\∀ i m ys H,W i m ys H ->
  (J.stop i H/\ys.length<=sizeLine/\Q ys H) \/
  (J.go i H/\ys.length<sizeLine/\∀ x H',J.yld i H x H'->tt (some x::frv σ js) H' λ b H2 =>
   if b=true then te (some x::frv σ js) H2 λ v M=>∃ z,z<m/\W (i+1) z (ys++[v]) M else ∃ z,z<m/\W (i+1) z ys H2)
section
variable {X:Cx}{pins:List (Addr×Obj)}{σ:St}{H:Hp}{s:Shared}{x:Str}{scope sc:Scope}{frees:List Str}{js:List Nat}
theorem P_2 (I:Inv X pins σ H s) (z:X.env.scope=sc) (B:ScB X.N sc scope x frees js):∀ y∈scope.names,y.2=.free->∃ c,X.env.cells.lookup y.1=some c:=λ y M hf =>
 I.ok.has y.1 (.inl (show X.env.scope.names.lookup y.1=some .cell by rw[z];exact B.fr y M hf))
theorem ap9 {α z:Type}:∀ {l:List α}{r:List z}{k:Nat}{a:α},l.length=r.length->l[k]?=some a->∃ b,r[k]?=some b/\(a,b)∈l.zip r
 |[],_,_,_,_,h=>by simp at h
 |_::_,[],_,_,hl,_=>by simp at hl
 |a'::l,b'::r,0,a,_,h=>by
  simp at h;subst h;exact⟨b',rfl,by simp⟩
 |a'::l,b'::r,k+1,a,hl,h=>by
  obtain⟨b,h1,h2⟩:=ap9 (l:=l) (r:=r) (k:=k) (a:=a) (by simpa using hl) (by simpa using h);exact⟨b,by simpa using h1,by rw[Z8];exact qh _ h2⟩
theorem aa3 {fp:List Addr}{M:Heap}{C D:Addr}{tk:Nat}{mC:Str->Option Value}{oD:Obj} (I:Inv X pins σ H s) (Z:X.env.scope=sc) (B:ScB X.N sc scope x frees js) (hf:∀ b∈fp,ap7 X pins H b) (ae:∀ b∈fp,b<s.heap.objs.size)
  (hC:s.heap.objs.size<=C) (hD:s.heap.objs.size<=D) (ac:D≠C) (O:∀ b o,s.heap.get? b=some o->M.get? b=some o) (ns:M.Ns C mC) (gD:M.get? D=some oD) (nD:∀ v,oD.data≠.cell v) :
  Inv (cxB X (x::frees) scope s H C fp) (pins++[(D,oD)]) (none::frv σ js) H {s with heap:=M,toks:=tk}:=by
 have lc:=P_2 I Z B;have sub:∀ y c,(U_0 X.env.cells scope.names []).lookup y=some c->X.env.cells.lookup y=some c:=λ y c e=>by
  rcases G_9 scope.names [] lc e with q | q
  ·exact q
  ·cases q
 have ah:∀ y c,X.env.cells.lookup y=some c->c<s.heap.objs.size:=λ y c e=>by
  obtain⟨v,q⟩:=I.cell y c e;exact q.lt
 have af:∀ b∈fp,(b∈X.ex\/X.s₀.heap.objs.size<=b):=λ b Y=>(hf b Y).2.2.2.1;obtain⟨m,hn,hl⟩:=I.loc;refine⟨⟨I.ok.mod,B.kind,I.ok.glob,I.ok.blt,hC,?_,?_,?_,I.ok.hd,I.ok.frames,.inl rfl,?_,?_,Qq I.ok.bsz I.sz,?_,?_,I.stack,I.stkFree,I.base.tbls _ _ I.ok.tab⟩,rfl,I.bare,Un.kept O,⟨mC,ns,?_⟩,?_,I.hok.fresh hC,?_,?_,I.hok.kept O,?_⟩
 ·exact λ y z c e1 e2=>I.ok.inj y z c (sub y c e1) (sub z c e2)
 ·intro y hy;have hm:(y,NameKind.free)∈scope.names:=by
   rcases hy with q | q
   ·exact V_9 (env:=X.env) B.cells q (.inl rfl)
   ·exact V_9 (env:=X.env) B.cells q (.inr rfl)
  exact C_3 scope.names [] (.inl hm)
 ·exact λ y c z _=>absurd z qq
 ·intro b Y;refine⟨λ z=>?_,λ y c e z=>(hf b Y).2.2.2.2.1 y c (sub y c e) z⟩;have z':b=C:=z;exact absurd (qr (ae b Y) hC) (by rw[z'];exact Zf _)
 ·exact λ b o e=>I.bs b o e
 ·intro b o e Y;rcases af b Y with z | z
  ·exact I.ok.noex b o e z
  ·exact absurd (qr (qm (I.ok.bs b o e).1) z) (Zf _)
 ·intro b Y z;rcases qw (I.stkSub b z) with e | e
  ·exact (hf b Y).2.1 e
  ·exact (hf b Y).2.2.1 e
 ·intro i y v e1 e2 e3;cases i with
  |zero=>simp at e2
  |succ k =>
   have ag:frees[k]?=some y:=by have e0:(x::frees)[k+1]?=some y:=e1;simpa using e0
   obtain⟨j,hj,hz⟩:=ap9 B.ln ag;obtain⟨z1,z2,z3⟩:=B.zp _ hz;have aa:(frv σ js)[k]?=some (some v):=by simpa using e2
   have e4:σ[j]?=some (some v):=by
    unfold frv at aa;rw[Qp,hj] at aa;have e5:(σ[j]?).join=some v:=qi aa;cases q:σ[j]? with
    |none=>rw[q] at e5;cases e5
    |some w'=>rw[q] at e5;cases w' with
     |none=>cases e5
     |some w2=>cases e5;rfl
   have kX:X.env.kindOf y=some .cell:=by show X.env.scope.names.lookup y=_;rw[Z];exact z2
   obtain⟨u,r,q⟩:=hl j y v z1 e4 (.inr (.inl kX));refine⟨u,r,?_⟩;rcases q with ⟨q,_⟩ | ⟨_,c,ec,ic⟩
   ·rw[kX] at q;cases q
   ·have kY:(compEnvC scope (U_0 X.env.cells scope.names []) C X.env).kindOf y=some .cell:=O_3 (env:=X.env) (by rw[Z];exact B.fk) z3 kX;refine .inr ⟨.inl kY,c,?_,?_⟩
    ·obtain⟨c',ab⟩:=C_3 (cells:=X.env.cells) scope.names [] (.inl (Zn z3));have:=sub y c' ab;rw[ec] at this;cases this;exact ab
    ·obtain⟨o,ho,hd⟩:=ic;exact⟨o,O c o ho,hd⟩
 ·intro y c e;obtain⟨v,o,ho,hd⟩:=I.cell y c (sub y c e);exact⟨v,o,O c o ho,hd⟩
 ·exact λ y c e=>I.freeC y c (sub y c e)
 ·intro p hp;have ad:p∈pins++[(D,oD)]:=by simpa [cxB] using hp
  rcases qz ad with z | z
  ·obtain⟨a1,a2,a3,a4,a5⟩:=I.pin p (qo _ z);refine⟨O _ _ a1,a2,λ e=>?_,λ e=>?_,a5⟩
   ·exact absurd (qr (qm a1) hC) (by rw[show p.1=C from e];exact Zf _)
   ·rcases qw (I.stkSub p.1 e) with e | e
    ·exact a3 e
    ·exact a4 e
  ·have z':p=(D,oD):=by simpa using z
   subst z';refine⟨gD,I.hok.fresh hD,ac,λ e=>?_,nD⟩;rcases qw (I.stkSub D e) with e | e
   ·exact absurd (qr I.lt hD) (by rw[show D=X.env.locals from e];exact Zf _)
   ·exact I.nofs hD e
 ·show (none::frv σ js).length=(x::frees).length;rw[Qc,Qc,B.ln,frv,Qg]
end
theorem P_6 {prog:Program}{w:World}{A:Around}{R:Result->Shared->Prop}{s:Shared}{elt M iter:Expr}{ifs:List Expr}{scope:Scope}{pos:Pos}{it O:Value}{env:Env} (I:Nat->Shared->Prop)
  (Y:∀ n s,I n s->wpAny (model prog w) A (pyNext it) (λ r Z=>match r with
   |none=>R (.ok .next) Z
   |some v=>wpAny (model prog w) A (letOwnedTupleGo M it v) (λ _ s2=>wpAny (model prog w) A (assign M env v) (λ _ s3 =>
     wpAny (model prog w) A (forIn ifs true λ c r=>if r=true then do let ok <- isTrue c env (eval c env);pure (ForInStep.yield ok) else pure (ForInStep.yield r)) (λ ok s4 =>
      if ok=true then wpAny (model prog w) A (eval elt env) (λ y s5=>wpAny (model prog w) A (call (.builtin "list.append") [O,y]) (λ _ s6=>∃ m,m<n ∧ I m s6) (λ _ _=>False) s5) (λ _ _=>False) s4
      else ∃ m,m<n/\I m s4) (λ _ _=>False) s3) (λ _ _=>False) s2) (λ _ _=>False) Z) (λ _ _=>False) s)
  (n:Nat) (h:I n s):codeAny (model prog w) A (.compLoop (.ListComp elt [⟨M,iter,ifs,0⟩] scope pos) 0 it O env) R s:=by
 refine codeAny_loop rfl I (λ n s hI=>?_) n h;show wpAny _ A ((compTurn (.ListComp elt [⟨M,iter,ifs,0⟩] scope pos) 0 it O env).onRaise (λ x=>do noteFrame x env;theTreesLotGoes x)) _ _ s;refine wpAny_noted ?_;rw[compTurn_list];refine qc (Ui (qc (Q6 (Y n s hI) (λ r Z h1=>?_) λ _ _ z=>z.elim)));cases r with
 |none=>exact qd h1
 |some v =>
  refine qc (Q6 h1 (λ _ s2 h2=>?_) λ _ _ z=>z.elim);refine qc (Q6 h2 (λ _ s3 h3=>?_) λ _ _ z=>z.elim);refine qc (Q6 h3 (λ ok s4 h4=>?_) λ _ _ z=>z.elim);cases ok with
  |false=>exact qd ⟨rfl,h4⟩
  |true =>
   refine qc (qc (Q6 h4 (λ y s5 h5=>?_) λ _ _ z=>z.elim));exact qc (Q6 h5 (λ _ s6 h6=>qd (qd ⟨rfl,h6⟩)) λ _ _ z=>z.elim)
section
variable {X:Cx}{pins:List (Addr×Obj)}{σ:St}{H:Hp}{s:Shared}{x:Str}{scope sc:Scope}{frees:List Str}{js:List Nat}{elt iter:Expr}{ifs:List Expr}{px pos:Pos}{tt:TT}{te:TE}{E:Value->Shared->Prop}
noncomputable abbrev M_9 (z:List Value) (n:Nat):Obj:={cls:=.type "list",data:=.seq z.toArray n}
theorem aO6 {it:Addr}{fp:List Addr}{tn:Nat->Heap->Prop}{J:It}{Qe:List V->Hp->Prop}{RR:Value->Addr->Result->Shared->Prop} (I:Inv X pins σ H s) (hc:X.calm=true) (aw:X.env.scope=sc) (B:ScB X.N sc scope x frees js)
  (T:Turn X.prog X.w X.K (.Name x px) J fp it tn) (st:tn 0 s.heap) (f:∀ b∈fp,ap7 X pins H b) (hW:LcW js tt te σ Qe J H)
  (ht:∀ s H C fp,PTs (cxB X (x::frees) scope s H C fp) ifs tt) (he:∀ s H C fp,PE (cxB X (x::frees) scope s H C fp) elt te)
  (hR:∀ (D C:Addr) (s':Shared) (H':Hp) (ys:List V) (M:List Value) (n:Nat),s.heap.objs.size<=D->s.heap.objs.size<=C->D≠C->Inv (cxB X (x::frees) scope s H C fp) pins (none::frv σ js) H' s'->H' D=none ->
   Vals ys M->s'.heap.get? D=some (M_9 M n)->ys.length<=sizeLine->Qe ys H'->RR (.ref D) C (.ok .next) s') :
  wpAny (model X.prog X.w) X.A (newList []) (λ a9 s3=>wpAny (model X.prog X.w) X.A (newFunctionEnv scope X.env.globals (U_0 X.env.cells scope.names []) [] X.env.qual none .none (some X.env)) (λ ao s4 =>
   codeAny (model X.prog X.w) X.A (.compStart (.ListComp elt [⟨.Name x px,iter,ifs,0⟩] scope pos) 0 (.ref it) a9 {ao with scope:=relabel scope X.env}) (RR a9 ao.locals) s4) E s3) E s:=by
 obtain⟨W,⟨m0,w0⟩,au⟩:=hW;refine Zh (wpAny_newFunctionEnv B.cells (by intro y hy;simp at hy) (λ ae Z O=>?_) B.kind);dsimp only at Z O ⊢;generalize hG:s.heap.push {cls:=.type "list",dict:=none,data:=.seq ([]:List Value).toArray}=G at Z O ⊢;have ay:G.objs.size=s.heap.objs.size+1:=by rw[<- hG,Heap.size_push]
 have al:s.heap.objs.size<=G.objs.size:=by rw[ay];exact Nat.le_succ _
 have an:s.heap.objs.size≠G.objs.size:=by rw[ay];exact qt (Nat.lt_succ_self _)
 obtain⟨C,bc⟩:∃ C:Addr,C=G.objs.size:=⟨_,rfl⟩;obtain⟨D,ai⟩:∃ D:Addr,D=s.heap.objs.size:=⟨_,rfl⟩;rw[<- bc] at Z O an al ⊢;have ac:s.heap.objs.size<=D:=by rw[ai];exact qj _
 have ah:s.heap.objs.size<=C:=al;have af:D≠C:=by rw[ai];exact an
 have az:∀ b o,s.heap.get? b=some o->ae.get? b=some o:=λ b o e=>by
  refine O.extBut b o (v_8 (qm e) ah) (qf _ ?_);rw[<- hG];exact qf _ e
 have gD:ae.get? D=some (M_9 [] 0):=by refine O.extBut D _ af (qf _ ?_);rw[<- hG,ai];exact qk _ rfl
 have ar:∀ b∈fp,b<s.heap.objs.size:=λ b hb=>by
  obtain⟨o,e,_⟩:=T.obj 0 _ st b hb;exact qm e
 show codeAny (model X.prog X.w) X.A (.compStart (.ListComp elt [⟨.Name x px,iter,ifs,0⟩] scope pos) 0 (.ref it) (.ref s.heap.objs.size) (compEnvC scope (U_0 X.env.cells scope.names []) C X.env)) (RR (.ref s.heap.objs.size) C) _;rw[<- ai];have bd:D∉fp:=λ z=>v_8 (ar D z) ac rfl;have Y0:=aa3 (tk:=s.toks+([]:List (Str×Value)).length) (x:=x) I aw B f ar ah ac af az Z gD (λ v z=>nomatch z);have ax:tn 0 ae:=T.keep 0 _ _ st λ b _ o e=>az b o e;have sub:∀ y c,(U_0 X.env.cells scope.names []).lookup y=some c->X.env.cells.lookup y=some c:=λ y c e=>by
  rcases G_9 scope.names [] (P_2 I aw B) e with q | q
  ·exact q
  ·cases q
 have a8:∀ p∈pins,p.1<s.heap.objs.size:=λ p hp=>qm (I.pin p (qo _ hp)).1;have ag:∀ {H':Hp}{o:Obj},(∀ b∈fp,H' b=none)->∀ b∈fp,ap7 (cxB X (x::frees) scope s H C fp) (pins++[(D,o)]) H' b:=λ {H' o} hn b hb=>by
  obtain⟨_,a2,a3,a4,a5,a6⟩:=f b hb;have lt:=ar b hb;refine⟨hn b hb,?_,λ z=>?_,.inl hb,λ y c e=>a5 y c (sub y c e),λ p hp=>?_⟩
  ·exact v_8 lt ah
  ·rcases qw (I.stkSub b z) with e | e
   ·exact a2 e
   ·exact a3 e
  ·have aq:p∈pins++[(D,o)]:=by simpa [cxB] using hp
   rcases qz aq with z | z
   ·exact a6 p (qo _ z)
   ·have z':p=(D,o):=by simpa using z
    subst z';exact aj2 lt ac
 have am:∀ s3:Shared,s3={s with heap:=ae,toks:=s.toks+([]:List (Str×Value)).length} ->
   codeAny (model X.prog X.w) X.A (.compLoop (.ListComp elt [⟨.Name x px,iter,ifs,0⟩] scope pos) 0 (.ref it) (.ref D) (compEnvC scope (U_0 X.env.cells scope.names []) C X.env)) (RR (.ref D) C) s3:=by
  rintro s3 rfl;refine P_6 (λ n s'=>∃ i ys M k H',Inv (cxB X (x::frees) scope s H C fp) (pins++[(D,M_9 M k)]) (none::frv σ js) H' s'/\tn i s'.heap/\(∀ b∈fp,H' b=none)/\Vals ys M/\W i n ys H') ?_ m0
   ⟨0,[],[],0,H,Y0,ax,λ b hb=>(f b hb).1,.nil,w0⟩
  rintro n s4 ⟨i,ys,M,k,H4,I4,a0,av,rv,w4⟩;have pD:∀ {pl:List (Addr×Obj)}{ab:St}{H':Hp}{s':Shared},Inv (cxB X (x::frees) scope s H C fp) (pins++[(D,M_9 M k)]++pl) ab H' s'->s'.heap.get? D=some (M_9 M k)/\H' D=none:=λ I'=>by
   have q:=I'.pin (D,M_9 M k) (qo _ (qp _ (qo _ qg)));exact⟨q.1,q.2.1⟩
  have aa:∀ {pl:List (Addr×Obj)}{ab:St}{H':Hp}{s':Shared},Inv (cxB X (x::frees) scope s H C fp) (pins++pl) ab H' s'->Inv (cxB X (x::frees) scope s H C fp) pins ab H' s':=λ I'=>I'.unpinned;rcases au i n ys H4 w4 with ⟨stop,lz,qe⟩ | ⟨go,lz,step⟩
  ·refine thn (T.done (cxB X (x::frees) scope s H C fp) rfl rfl rfl hc i _ s4 _ H4 (λ _ _=>False) I4 (ag av) a0 stop) λ r s5 Y=>?_;obtain⟨hr,I5⟩:=Y;subst hr;have I5':Inv (cxB X (x::frees) scope s H C fp) (pins++[(D,M_9 M k)]++[]) (none::frv σ js) H4 s5:=by simpa using I5
   exact hR D C s5 H4 ys M k ac ah af (aa I5) (pD I5').2 rv (pD I5').1 lz qe
  ·refine thn (T.item (cxB X (x::frees) scope s H C fp) rfl rfl rfl hc i _ s4 _ H4 (λ _ _=>False) I4 (ag av) a0 go) λ r s5 Y=>?_;obtain⟨u,hr,h5⟩:=Y;subst hr;refine thn h5 λ _ s6 Y=>?_;obtain⟨y,H6,I6,r6,y6,aj,bb⟩:=Y;have I6':=I6.pinned (ag bb) (T.obj _ _ aj);have hx:Loc (cxB X (x::frees) scope s H C fp).env.scope x:=.inl (Zw B.own);have ba:D∉(cxB X (x::frees) scope s H C fp).fs:=λ z=>by
    rcases qw (I.stkSub D z) with e | e
    ·exact v_8 I.lt ac e.symm
    ·exact I.nofs ac e
   refine thn (A_5 (X:=cxB X (x::frees) scope s H C fp) (i:=0) B.nd rfl hx (.inr (Zw B.own)) _ s6 _ H6 y u (λ ab H'=>ab=some y::frv σ js/\tt ab H' λ b H2 =>
    if b=true then te (some y::frv σ js) H2 λ v H3=>∃ m',m'<n/\W (i+1) m' (ys++[v]) H3 else ∃ m',m'<n/\W (i+1) m' ys H2) I6' r6 ⟨rfl,step y H6 y6⟩) λ _ s7 ⟨bf,H7,I7,e7,q7⟩=>?_
   subst e7;have ak:∀ {ab:St}{H':Hp}{s':Shared},Inv (cxB X (x::frees) scope s H C fp) (pins++[(D,M_9 M k)]++O_5 fp s6.heap) ab H' s'->(∀ b∈fp,∀ o,s6.heap.get? b=some o->s'.heap.get? b=some o)/\∀ b∈fp,H' b=none:=λ {ab H' s'} I' =>
    ⟨λ b hb o e=>(I'.pin (b,o) (qo _ (qo _ (t_0 hb e)))).1,λ b hb=>by
     obtain⟨o,e,_⟩:=T.obj _ _ aj b hb;exact (I'.pin (b,o) (qo _ (qo _ (t_0 hb e)))).2.1⟩
   have ad:∀ {pl:List (Addr×Obj)}{H':Hp}{s':Shared},Inv (cxB X (x::frees) scope s H C fp) pl (some y::frv σ js) H' s'->Inv (cxB X (x::frees) scope s H C fp) pl (none::frv σ js) H' s':=λ I' =>
    I'.weak rfl λ j v e=>by
     cases j with
     |zero=>simp at e
     |succ j=>simpa using e
   refine thn (ht s H C fp _ s7 _ H7 _ I7 q7) λ ok s8 Y=>?_;obtain⟨H8,I8,q8⟩:=Y;cases ok with
   |false =>
    rw[if_neg Qi] at q8 ⊢;obtain⟨m',hm,w8⟩:=q8;obtain⟨b1,b2⟩:=ak I8;exact⟨m',hm,i+1,ys,M,k,H8,ad I8.unpinned,T.keep _ _ _ aj b1,b2,rv,w8⟩
   |true =>
    rw[if_pos rfl] at q8 ⊢;refine thn (he s H C fp _ s8 _ H8 _ I8 q8) λ v s9 Y=>?_;obtain⟨vv,H9,I9,r9,m',hm,w9⟩:=Y;obtain⟨as,a7⟩:=pD I9;obtain⟨b1,b2⟩:=ak I9;have be:=rv.length;refine call_meets F.slot_list_append ⟨_,as,rfl⟩ Uh (Uf _ _) (Uq D M.toArray k v (by rw[Qb];omega)) ⟨as,?_⟩;have ea:M.toArray.push v=(M++[v]).toArray:=by simp
    obtain⟨k',q⟩:∃ k',(s9.heap.update D (Obj.mapSeq (·.push v))).get? D=some (M_9 (M++[v]) k'):=by have q0:=Uv as (·.push v);rw[ea] at q0;exact⟨_,q0⟩
    have a1:∀ b o,b≠D->s9.heap.get? b=some o->(s9.heap.update D (Obj.mapSeq (·.push v))).get? b=some o:=λ b o hb e=>(Jw s9.heap (Obj.mapSeq (·.push v)) (Zb hb)).trans e;have I10:Inv (cxB X (x::frees) scope s H C fp) pins (some y::frv σ js) H9 {s9 with heap:=s9.heap.update D (Obj.mapSeq (·.push v))} :=
     (aa I9.unpinned).turned (t':=s9.toks) (it:=D) a1 a7 af (.inr ac) (λ y' c e z=>by
      obtain⟨w',q'⟩:=I.cell y' c (sub y' c e);exact v_8 q'.lt ac z) (λ p hp z=>by
      have aq:p∈pins:=by simpa [cxB] using hp
      exact v_8 (a8 p aq) ac z)
    refine⟨m',hm,i+1,ys++[vv],M++[v],k',H9,ad (I10.pins_of λ p hp=>?_),T.keep _ _ _ aj λ b hb o e=>a1 b o (λ z=>bd (z▸hb)) (b1 b hb o e),b2,rv.append (.cons r9 .nil),w9⟩;rcases qz hp with z | z
    ·exact I10.pin p (qo _ z)
    ·have z':p=(D,M_9 (M++[v]) k'):=List.mem_singleton.mp z;subst z';exact⟨q,a7,af,ba,λ w' z2=>nomatch z2⟩
 exact codeAny_compStart_list (am _ rfl) (T.self _ 0 _ _ _ ax (am _ rfl))
theorem S_9 {fp:List Addr}{D C:Addr}{s':Shared}{H':Hp}{ys:List V}{z:List Value}{n:Nat} (I:Inv X pins σ H s) (f:∀ b∈fp,ap7 X pins H b) (hD:s.heap.objs.size<=D) (J:Inv (cxB X (x::frees) scope s H C fp) pins (none::frv σ js) H' s') (M:H' D=none) (rv:Vals ys z)
  (gD:s'.heap.get? D=some (M_9 z n)) (hz:ys.length<=sizeLine):Inv X pins σ (upd H' D (.lst ys)) s':=by
 have u:Un (frs X.stack) fp H H' s.heap s'.heap:=J.base;have hk:HOk X.prog X.w H' s'.heap:=J.hok;refine I.call' (ch:=fp) J.os ⟨u.keep,u.slot,λ b o e Z hx=>?_,u.there,λ b xs e=>?_,λ b o v e=>?_,λ b ps e=>?_⟩ (λ b o e=>?_) J.bare λ b O=>?_
 ·rw[a_4 (v_8 (Heap.lt_size e) hD)];exact u.free b o e Z hx
 ·have q:=u.tups b xs e;rw[a_4 (b_1 q M)];exact q
 ·have q:=u.frzs b o v e;rw[a_4 (b_1 q M)];exact q
 ·have q:=u.tbls b ps e;rw[a_4 (b_1 q M)];exact q
 ·by_cases O:b=D
  ·subst O;rw[a_8] at e;cases e;exact⟨hz,z,n,rv,gD⟩
  ·rw[a_4 O] at e;exact (hk b o e).stay (λ c v _ q=>q) (λ c q=>by rw[a_4 (b_1 q M)];exact q) (λ c xs q=>by rw[a_4 (b_1 q M)];exact q) λ c xs q=>by rw[a_4 (b_1 q M)];exact q
 ·obtain⟨_,a2,a3,a4,Y,a6⟩:=f b O;exact⟨a4,a2,Y,a6⟩
theorem aX3 {C:Addr}{s':Shared}{H':Hp}{M:St}{h':Heap} (I:Inv X pins σ H s) (J:Inv X pins M H' s') (hC:s.heap.objs.size<=C) (O:H' C=none) (hs:Heap.SameBut C s'.heap h'):Inv X pins M H' {s' with heap:=h'}:=by
 refine J.turned (t':=s'.toks) (it:=C) (λ b o Y e=>(hs.2 b Y).trans e) O (λ z=>?_) (.inr (Qq I.sz hC)) (λ y c e z=>?_) λ p hp z=>?_
 ·exact v_8 I.lt hC z.symm
 ·obtain⟨v,q⟩:=I.cell y c e;exact v_8 q.lt hC z
 ·exact v_8 (qm (I.pin p hp).1) hC z
def tLC (z:TI) (js:List Nat) (tt:TT) (te:TE):TE:=λ σ H Q=>z σ H (LcW js tt te σ λ ys H'=>∀ D,H' D=none->Q (.ref D) (upd H' D (.lst ys)))
theorem bm0 {wi:TI} (hc:X.calm=true) (z:X.env.scope=sc) (B:ScB X.N sc scope x frees js) (hi:PI X (.Name x px) iter wi) (ht:∀ s H C fp,PTs (cxB X (x::frees) scope s H C fp) ifs tt) (he:∀ s H C fp,PE (cxB X (x::frees) scope s H C fp) elt te)
  (hs:∀ v,foldedSetIterable iter X.env v=pure v:=by intro _;rfl):PE X (.ListComp elt [⟨.Name x px,iter,ifs,0⟩] scope pos) (tLC wi js tt te):=by
 intro pins s σ H Q I h;rw[eval_ListComp];refine Jg (use:=none) rfl hs (E_3 (P_2 I z B)) B.kind B.locs (thn (hi pins s σ H _ I h) λ v s1 h1=>thn h1 λ ad s2 h2=>?_);obtain⟨it,fp,tn,J,H2,e,O,T,Z,f2,hW⟩:=h2;subst e;refine aO6 (RR:=λ ab C=>compPost (model X.prog X.w) X.A X.xe none (EP X pins σ Q) ab C) O hc z B T Z f2 hW ht he ?_;intro D C s' H' ys ac n hD hC M Y nD rv gD hz q;obtain⟨m,hn,_⟩:=Y.loc;refine⟨m,hn,λ h' aa=>?_⟩;have A1:=S_9 O f2 hD Y nD rv gD hz;have nC:(upd H' D (.lst ys)) C=none:=by rw[a_4 (Zb M)];exact Y.free
 exact⟨.ref D,_,aX3 O A1 hC nC aa,rfl,q D nD⟩
def bh5 (i:Nat) (z:TI) (js:List Nat) (tt:TT) (te:TE):TS:=λ D σ H=>z σ H (LcW js tt te σ λ ys H'=>∀ a,H' a=none->D.nx (σ.set i (some (.ref a))) (upd H' a (.lst ys)))
theorem aE9 {wi:TI}{i:Nat}{y:Str}{py M:Pos} (hN:X.N.Nodup) (ac:X.N[i]?=some y) (hy:X.env.scope.names.lookup y=some .local) (hc:X.calm=true) (Y:X.env.scope=sc) (B:ScB X.N sc scope x frees js) (hi:PI X (.Name x px) iter wi)
  (ht:∀ s H C fp,PTs (cxB X (x::frees) scope s H C fp) ifs tt) (he:∀ s H C fp,PE (cxB X (x::frees) scope s H C fp) elt te)
  (aa:swapsWith (.ListComp elt [⟨.Name x px,iter,ifs,0⟩] scope pos) (some (.Name y py)) M.line X.env=pure true:=by rfl)
  (hs:∀ v,foldedSetIterable iter X.env v=pure v:=by intro _;rfl):PS X (.Assign [.Name y py] (.ListComp elt [⟨.Name x px,iter,ifs,0⟩] scope pos) M) (bh5 i wi js tt te):=by
 intro pins s σ H D I h;rw[exec_Assign_Name_used _ _ _ _ aa];refine qc (Ui (qc ?_));show wpAny _ X.A (do let _ <- comprehension (.ListComp elt [⟨.Name x px,iter,ifs,0⟩] scope pos) scope X.env _ (newList []) false (eval iter X.env) (some (assign (.Name y py) X.env))) _ _ s;refine qc (Q6 (Jg (use:=some (assign (.Name y py) X.env)) (Q:=λ _ s'=>SP X pins D .next s') rfl hs (E_3 (P_2 I Y B)) B.kind B.locs
  (thn (hi pins s σ H _ I h) λ v s1 h1=>thn h1 λ ah s2 h2=>?_)) (λ _ s' q=>qd (qd q)) λ _ _ z=>z)
 obtain⟨it,fp,tn,J,H2,e,O,T,ad,f2,hW⟩:=h2;subst e;refine aO6 (RR:=λ af C=>compPost (model X.prog X.w) X.A X.xe (some (assign (.Name y py) X.env)) (λ _ s'=>SP X pins D .next s') af C) O hc Y B T ad f2 hW ht he ?_;intro a C s' H' ys ag n hD hC ab J' nD rv gD hz q;have A1:=S_9 O f2 hD J' nD rv gD hz;have nC:(upd H' a (.lst ys)) C=none:=by rw[a_4 (Zb ab)];exact J'.free
 obtain⟨m,hn,_⟩:=J'.loc;have hL:C≠X.env.locals:=aj2 O.lt hC;show wpAny _ X.A (assign (.Name y py) X.env (.ref a)) _ _ s';refine wpAny_assign_Name (H_5 A1 hN ac (.inl hy) (v:=.ref a) rfl (λ s3 I3 Z=>?_) (.inr hy));obtain⟨b,sb,hb⟩:=Z;have nb:C≠b:=by
  rcases hb with z | z
  ·rw[z];exact hL
  ·intro e;obtain⟨v,q'⟩:=O.cell y b z;exact v_8 q'.lt hC e.symm
 obtain⟨o,es,ep,ho,r⟩:=hn;refine⟨m,⟨o,es,ep,(sb.2 C nb).trans ho,r⟩,λ h' ae=>?_⟩;exact⟨_,_,aX3 O I3 hC nC ae,q a nD⟩
end
end L2
namespace Fx
open PySem
inductive D where
 |non | bl (b:Bool) | int (i:Int) | str (x:Str) | tup (xs:List D) | lst (xs:List D)
 |opq (ks:List (Str×Int)) (vs:List D)
 |dct (ks:List Str) (vs:List D)
inductive MO where
 |lst (xs:List D) | dic (kvs:List (Str×D)) | dtu (kvs:List ((Str×Int)×D))
inductive Sl where
 |no | im (d:D) | ow (b:Bool) (o:MO)
noncomputable abbrev En:=List Sl
inductive Res where
 |nx (ρ:En) | rt (d:D) (ρ:En) | bk (ρ:En) | ct (ρ:En)
abbrev FE:=En->Option (D×En)
abbrev FT:=En->Option (Bool×En)
abbrev FA:=En->Option (List D×En)
abbrev FS:=En->Option Res
noncomputable def bnd {α z:Type} (x:Option α) (f:α->Option z):Option z:=x.bind f
theorem ak7 {α z:Type} (a:α) (f:α->Option z):bnd (some a) f=f a:=rfl
mutual
noncomputable def eqD:D->D->Bool
 |.non,.non=>true
 |.bl a,.bl b=>a==b
 |.bl a,.int b=>(if a then 1 else 0)==b
 |.int a,.bl b=>a==(if b then 1 else 0)
 |.int a,.int b=>a==b
 |.str a,.str b=>a==b
 |.tup a,.tup b=>D_2 a b
 |.lst a,.lst b=>D_2 a b
 |_,_=>false
noncomputable def D_2:List D->List D->Bool
 |[],[]=>true
 |a::r,b::t=>eqD a b&&D_2 r t
 |_,_=>false
end
@[simp] theorem ba7 :eqD .non .non=true:=by rw[eqD]
@[simp] theorem bf2 (y:Bool):eqD .non (.bl y)=false:=by simp[eqD]
@[simp] theorem ba9 (y:Int):eqD .non (.int y)=false:=by simp[eqD]
@[simp] theorem ba6 (y:Str):eqD .non (.str y)=false:=by simp[eqD]
@[simp] theorem ba5 (y:List D):eqD .non (.tup y)=false:=by simp[eqD]
@[simp] theorem ba8 (y:List D):eqD .non (.lst y)=false:=by simp[eqD]
@[simp] theorem bf7 (x:Bool):eqD (.bl x) .non=false:=by simp[eqD]
@[simp] theorem br3 (x:Bool) (y:Bool):eqD (.bl x) (.bl y)=decide (x=y):=by rw[eqD];exact Yq _ _
@[simp] theorem bf9 (x:Bool) (y:Int):eqD (.bl x) (.int y)=((if x then 1 else 0)==y):=by rw[eqD]
@[simp] theorem bf6 (x:Bool) (y:Str):eqD (.bl x) (.str y)=false:=by simp[eqD]
@[simp] theorem bf5 (x:Bool) (y:List D):eqD (.bl x) (.tup y)=false:=by simp[eqD]
@[simp] theorem bf8 (x:Bool) (y:List D):eqD (.bl x) (.lst y)=false:=by simp[eqD]
@[simp] theorem bb7 (x:Int):eqD (.int x) .non=false:=by simp[eqD]
@[simp] theorem bf4 (x:Int) (y:Bool):eqD (.int x) (.bl y)=(x==(if y then 1 else 0)):=by rw[eqD]
@[simp] theorem bb9 (x:Int) (y:Int):eqD (.int x) (.int y)=decide (x=y):=by rw[eqD];exact Yq _ _
@[simp] theorem bb6 (x:Int) (y:Str):eqD (.int x) (.str y)=false:=by simp[eqD]
@[simp] theorem bb5 (x:Int) (y:List D):eqD (.int x) (.tup y)=false:=by simp[eqD]
@[simp] theorem bb8 (x:Int) (y:List D):eqD (.int x) (.lst y)=false:=by simp[eqD]
@[simp] theorem ba2 (x:Str):eqD (.str x) .non=false:=by simp[eqD]
@[simp] theorem bf1 (x:Str) (y:Bool):eqD (.str x) (.bl y)=false:=by simp[eqD]
@[simp] theorem ba4 (x:Str) (y:Int):eqD (.str x) (.int y)=false:=by simp[eqD]
@[simp] theorem ba1 (x:Str) (y:Str):eqD (.str x) (.str y)=decide (x=y):=by rw[eqD];exact Yq _ _
@[simp] theorem ba0 (x:Str) (y:List D):eqD (.str x) (.tup y)=false:=by simp[eqD]
@[simp] theorem ba3 (x:Str) (y:List D):eqD (.str x) (.lst y)=false:=by simp[eqD]
@[simp] theorem aZ7 (x:List D):eqD (.tup x) .non=false:=by simp[eqD]
@[simp] theorem bf0 (x:List D) (y:Bool):eqD (.tup x) (.bl y)=false:=by simp[eqD]
@[simp] theorem aZ9 (x:List D) (y:Int):eqD (.tup x) (.int y)=false:=by simp[eqD]
@[simp] theorem aZ6 (x:List D) (y:Str):eqD (.tup x) (.str y)=false:=by simp[eqD]
@[simp] theorem B_1 (x:List D) (y:List D):eqD (.tup x) (.tup y)=D_2 x y:=by rw[eqD]
@[simp] theorem aZ8 (x:List D) (y:List D):eqD (.tup x) (.lst y)=false:=by simp[eqD]
@[simp] theorem bb2 (x:List D):eqD (.lst x) .non=false:=by simp[eqD]
@[simp] theorem bf3 (x:List D) (y:Bool):eqD (.lst x) (.bl y)=false:=by simp[eqD]
@[simp] theorem bb4 (x:List D) (y:Int):eqD (.lst x) (.int y)=false:=by simp[eqD]
@[simp] theorem bb1 (x:List D) (y:Str):eqD (.lst x) (.str y)=false:=by simp[eqD]
@[simp] theorem bb0 (x:List D) (y:List D):eqD (.lst x) (.tup y)=false:=by simp[eqD]
@[simp] theorem bb3 (x:List D) (y:List D):eqD (.lst x) (.lst y)=D_2 x y:=by rw[eqD]
@[simp] theorem bE9:D_2 [] []=true:=by rw[D_2]
@[simp] theorem ay9 (a b:D) (r t:List D):D_2 (a::r) (b::t)=(eqD a b&&D_2 r t):=by rw[D_2]
@[simp] theorem bF0 (b:D) (t:List D):D_2 [] (b::t)=false:=by simp[D_2]
@[simp] theorem bF1 (b:D) (t:List D):D_2 (b::t) []=false:=by simp[D_2]
mutual
noncomputable def dpD:D->Nat
 |.tup xs=>U_8 xs+1
 |.lst xs=>U_8 xs+1
 |.opq _ _=>1000
 |.dct _ _=>1000
 |_=>0
noncomputable def U_8:List D->Nat
 |[]=>0
 |d::r=>max (dpD d) (U_8 r)
end
@[simp] theorem d_9 (ks:List (Str×Int)) (vs:List D):dpD (.opq ks vs)=1000:=rfl
@[simp] theorem e_0 (ks:List Str) (vs:List D):dpD (.dct ks vs)=1000:=rfl
@[simp] theorem bH7:dpD .non=0:=rfl
@[simp] theorem bP4 (b:Bool):dpD (.bl b)=0:=rfl
@[simp] theorem bH8 (i:Int):dpD (.int i)=0:=rfl
@[simp] theorem bH6 (x:Str):dpD (.str x)=0:=rfl
@[simp] theorem m_9 (xs:List D):dpD (.tup xs)=U_8 xs+1:=rfl
@[simp] theorem n_0 (xs:List D):dpD (.lst xs)=U_8 xs+1:=rfl
@[simp] theorem bw1:U_8 []=0:=rfl
@[simp] theorem C_2 (d:D) (r:List D):U_8 (d::r)=max (dpD d) (U_8 r):=rfl
noncomputable def bI5 (i:Int):Bool:=decide (i.natAbs<2 ^ 1000)
def x_1 (i j:Int):Bool:=decide (i.natAbs<2 ^ 64)||decide (j.natAbs<2 ^ 64)||(bI5 i&&bI5 j)
noncomputable def A_6 (j:Int):Bool:=decide (j≠0)&&decide (j.natAbs<2 ^ 1000)
noncomputable def y_8:D->D->Option D
 |.int i,.int j=>some (.int (i+j))
 |.str a,.str b=>if a.length+b.length<=sizeLine then some (.str (a++b)) else none
 |.lst a,.lst b=>if a.length+b.length<=sizeLine then some (.lst (a++b)) else none
 |_,_=>none
noncomputable def Z_5:D->D->Option D
 |.int i,.int j=>some (.int (i-j))
 |_,_=>none
def T_8:D->D->Option D
 |.int i,.int j=>if x_1 i j=true then some (.int (i*j)) else none
 |_,_=>none
def v_6:D->D->Option D
 |.int i,.int j=>if A_6 j=true then some (.int (i.fdiv j)) else none
 |_,_=>none
noncomputable def u_3:D->D->Option D
 |.int i,.int j=>if j≠0 then some (.int (i.fmod j)) else none
 |_,_=>none
noncomputable def bI0:D->D->Option D
 |.int i,.int j=>if 0<=j/\j<=64/\i.natAbs<2 ^ 64 then some (.int (i ^ j.toNat)) else none
 |_,_=>none
noncomputable def Z_6:D->Option D
 |.int i=>some (.int (-i))
 |_=>none
noncomputable def bt0 (p:Int->Int->Bool):D->D->Option D
 |.int i,.int j=>some (.bl (p i j))
 |_,_=>none
def dLt:D->D->Option D:=bt0 λ i j=>decide (i<j)
def dLe:D->D->Option D:=bt0 λ i j=>decide (i<=j)
def dGt:D->D->Option D:=bt0 λ i j=>decide (j<i)
def dGe:D->D->Option D:=bt0 λ i j=>decide (j<=i)
def dEq (x y:D):Option D:=if dpD x<=30/\dpD y<=30 then some (.bl (eqD x y)) else none
def dNe (x y:D):Option D:=if dpD x<=30/\dpD y<=30 then some (.bl (!eqD x y)) else none
noncomputable def isN:D->Bool
 |.non=>true
 |_=>false
@[simp] theorem bD9 (ks:List (Str×Int)) (vs:List D):isN (.opq ks vs)=false:=rfl
@[simp] theorem bE3 (ks:List Str) (vs:List D):isN (.dct ks vs)=false:=rfl
@[simp] theorem bE0:isN .non=true:=rfl
@[simp] theorem bM3 (b:Bool):isN (.bl b)=false:=rfl
@[simp] theorem bE2 (b:Int):isN (.int b)=false:=rfl
@[simp] theorem bD8 (b:Str):isN (.str b)=false:=rfl
@[simp] theorem bD7 (b:List D):isN (.tup b)=false:=rfl
@[simp] theorem bE1 (b:List D):isN (.lst b)=false:=rfl
def dIs (x y:D):Option D:=match y with
 |.non=>some (.bl (isN x))
 |_=>none
def h_2 (x y:D):Option D:=match y with
 |.non=>some (.bl (!isN x))
 |_=>none
noncomputable def az2:D->Option Bool
 |.non=>some false
 |.bl b=>some b
 |.int i=>some (i != 0)
 |.lst xs=>some (!xs.isEmpty)
 |.tup xs=>some (!xs.isEmpty)
 |_=>none
noncomputable def dPl (n:Nat) (i:Int):Option Nat:=if 0<=i then (if i<n then some i.toNat else none) else if -(n:Int)<=i then some (i+n).toNat else none
def atD (xs:List D) (i:Int):Option D:=(dPl xs.length i).bind λ j=>xs[j]?
noncomputable def U_9 (n d:Nat):Option Int->Nat
 |none=>d
 |some v=>(if v<0 then max (v+(n:Int)) 0 else min v (n:Int)).toNat
def aC5 (xs:List D) (lo hi:Option Int):List D:=(xs.drop (U_9 xs.length 0 lo)).take (U_9 xs.length xs.length hi-U_9 xs.length 0 lo)
noncomputable def bd6:List D->Option D
 |[.int i]=>some (.int (if i<0 then -i else i))
 |_=>none
def y_2:List D->Option (List Int)
 |[]=>some []
 |.int i::r=>bnd (y_2 r) λ is=>some (i::is)
 |_=>none
theorem K_0 (i:Int) (r:List D):y_2 (.int i::r)=bnd (y_2 r) λ is=>some (i::is):=rfl
noncomputable def M_7:Int->List Int->Int
 |m,[]=>m
 |m,x::r=>M_7 (if x<m then x else m) r
noncomputable def M_8:Int->List Int->Int
 |m,[]=>m
 |m,x::r=>M_8 (if m<x then x else m) r
noncomputable def aB0 (f:Int->List Int->Int):List Int->Option D
 |[]=>none
 |i::r=>some (.int (f i r))
def aB5:List D->Option D
 |[.int i,.int j]=>some (.int (if j > i then j else i))
 |[.lst xs]=>bnd (y_2 xs) λ is=>aB0 M_8 is
 |_=>none
def bd4:List D->Option D
 |[.int i,.int j]=>some (.int (if j<i then j else i))
 |[.lst xs]=>bnd (y_2 xs) λ is=>aB0 M_7 is
 |_=>none
def aA9:List D->Option (List Bool)
 |[]=>some []
 |.bl b::r=>bnd (aA9 r) λ bs=>some (b::bs)
 |_=>none
theorem ap4 (b:Bool) (r:List D):aA9 (.bl b::r)=bnd (aA9 r) λ bs=>some (b::bs):=rfl
def bI7:List D->Option D
 |[.lst xs]=>bnd (aA9 xs) λ bs=>some (.bl (bs.all id))
 |_=>none
inductive Ty where
 |int | bool | str | tuple | list
noncomputable def aC4:Ty->D->Bool
 |.int,.int _=>true
 |.int,.bl _=>true
 |.bool,.bl _=>true
 |.str,.str _=>true
 |.tuple,.tup _=>true
 |.list,.lst _=>true
 |_,_=>false
def slV (ρ:En):Option Sl->Option (D×En)
 |some (.im d)=>some (d,ρ)
 |_=>none
def eV (i:Nat) (ρ:En):Option (D×En):=slV ρ ρ[i]?
def Z_4:FE:=λ _=>none
def eC (d:D) (ρ:En):Option (D×En):=some (d,ρ)
abbrev zI (n:Int):=eC (.int n)
abbrev zT (x:Str):=eC (.str x)
theorem zR{α:Sort _}{a b:α}(h:a=b):a=b:=h
def e1 (op:D->Option D) (F:FE) (ρ:En):Option (D×En):=bnd (F ρ) λ p=>bnd (op p.1) λ d=>some (d,p.2)
def e2 (op:D->D->Option D) (F G:FE) (ρ:En):Option (D×En):=bnd (F ρ) λ p=>bnd (G p.2) λ q=>bnd (op p.1 q.1) λ d=>some (d,q.2)
noncomputable def blB:D->Option Bool
 |.bl b=>some b
 |_=>none
def e3 (op M:D->D->Option D) (F G L:FE) (ρ:En):Option (D×En):=bnd (F ρ) λ p=>bnd (G p.2) λ q=>bnd (op p.1 q.1) λ z=>bnd (blB z) λ b =>
 if b=true then bnd (L q.2) λ r=>bnd (M q.1 r.1) λ d=>some (d,r.2) else some (.bl false,q.2)
def aN (ρ:En):Option (List D×En):=some ([],ρ)
def aC (F:FE) (A:FA) (ρ:En):Option (List D×En):=bnd (F ρ) λ p=>bnd (A p.2) λ q=>some (p.1::q.1,q.2)
def e_1 (A:FA) (ρ:En):Option (D×En):=bnd (A ρ) λ p=>if p.1.length<=1000 then some (.tup p.1,p.2) else none
def x_6 (A:FA) (ρ:En):Option (D×En):=bnd (A ρ) λ p=>if p.1.length<=1000 then some (.lst p.1,p.2) else none
def eF (g:List D->Option D) (A:FA) (ρ:En):Option (D×En):=bnd (A ρ) λ p=>bnd (g p.1) λ d=>some (d,p.2)
def eTy (t:Ty) (F:FE) (ρ:En):Option (D×En):=bnd (F ρ) λ p=>some (.bl (aC4 t p.1),p.2)
abbrev FO:=En->Option (Option Int×En)
noncomputable def aP2:D->Option Int
 |.int i=>some i
 |_=>none
def oN (ρ:En):Option (Option Int×En):=some (none,ρ)
def oS (F:FE) (ρ:En):Option (Option Int×En):=bnd (F ρ) λ p=>bnd (aP2 p.1) λ i=>some (some i,p.2)
def tB (F:FE) (ρ:En):Option (Bool×En):=bnd (F ρ) λ p=>bnd (blB p.1) λ b=>some (b,p.2)
def tV (F:FE) (ρ:En):Option (Bool×En):=bnd (F ρ) λ p=>bnd (az2 p.1) λ b=>some (b,p.2)
def tAnd (T U:FT) (ρ:En):Option (Bool×En):=bnd (T ρ) λ p=>if p.1=true then U p.2 else some (false,p.2)
def tOr (T U:FT) (ρ:En):Option (Bool×En):=bnd (T ρ) λ p=>if p.1=true then some (true,p.2) else U p.2
def tNot (T:FT) (ρ:En):Option (Bool×En):=bnd (T ρ) λ p=>some (!p.1,p.2)
def tYes (ρ:En):Option (Bool×En):=some (true,ρ)
def eIf (T:FT) (F G:FE) (ρ:En):Option (D×En):=bnd (T ρ) λ p=>if p.1=true then F p.2 else G p.2
def aJ4 (F G:FE) (ρ:En):Option (D×En):=bnd (F ρ) λ p=>bnd (blB p.1) λ b=>if b=true then G p.2 else some (.bl false,p.2)
def eOr (F G:FE) (ρ:En):Option (D×En):=bnd (F ρ) λ p=>bnd (blB p.1) λ b=>if b=true then some (.bl true,p.2) else G p.2
def bv9 (F:FE) (ρ:En):Option (D×En):=bnd (F ρ) λ p=>bnd (blB p.1) λ b=>some (.bl (!b),p.2)
noncomputable def slI:Option Sl->Option Sl
 |some (.im d)=>some (.im d)
 |_=>none
def Y_8 (ρ:En):List Nat->Option En
 |[]=>some []
 |j::js=>bnd (slI ρ[j]?) λ s=>bnd (Y_8 ρ js) λ r=>some (s::r)
theorem ax4 (ρ:En) (j:Nat) (js:List Nat):Y_8 ρ (j::js)=bnd (slI ρ[j]?) λ s=>bnd (Y_8 ρ js) λ r=>some (s::r):=rfl
def cGo (T:FT) (F:FE) (fr:En):List D->Option (List D)
 |[]=>some []
 |d::r=>bnd (T (.im d::fr)) λ p=>if p.1=true then bnd (F p.2) λ q=>bnd (cGo T F fr r) λ t=>some (q.1::t) else cGo T F fr r
theorem bd0 (T:FT) (F:FE) (fr:En):cGo T F fr []=some []:=rfl
theorem aK4 (T:FT) (F:FE) (fr:En) (d:D) (r:List D):cGo T F fr (d::r)=bnd (T (.im d::fr)) λ p=>if p.1=true then bnd (F p.2) λ q=>bnd (cGo T F fr r) λ t=>some (q.1::t) else cGo T F fr r:=rfl
noncomputable def chS (c:Nat):Str:=⟨#[c]⟩
def chs (z:Str):List D:=z.cps.toList.map λ c=>.str (chS c)
def items:D->Option (List D)
 |.lst xs=>some xs
 |.tup xs=>some xs
 |.str z=>some (chs z)
 |_=>none
def eLC (js:List Nat) (I:FE) (T:FT) (F:FE) (ρ:En):Option (D×En):=bnd (I ρ) λ p=>bnd (items p.1) λ xs=>bnd (Y_8 p.2 js) λ fr=>bnd (cGo T F fr xs) λ ys=>if xs.length<=sizeLine then some (.lst ys,p.2) else none
def sN (ρ:En):Option Res:=some (.nx ρ)
def nxR (G:FS):Res->Option Res
 |.nx z=>G z
 |.rt d ρ=>some (.rt d ρ)
 |.bk ρ=>some (.bk ρ)
 |.ct ρ=>some (.ct ρ)
def b_7 (F G:FS) (ρ:En):Option Res:=bnd (F ρ) λ r=>nxR G r
def c_8 (i:Nat) (F:FE) (ρ:En):Option Res:=bnd (F ρ) λ p=>some (.nx (p.2.set i (.im p.1)))
def O_2:List Nat->List D->En->En
 |i::is,d::ds,ρ=>O_2 is ds (ρ.set i (.im d))
 |_,_,ρ=>ρ
theorem ac4 (i:Nat) (is:List Nat) (d:D) (ds:List D) (ρ:En):O_2 (i::is) (d::ds) ρ=O_2 is ds (ρ.set i (.im d)):=rfl
theorem am2 (ds:List D) (ρ:En):O_2 [] ds ρ=ρ:=by cases ds <;> rfl
noncomputable def bS4:D->Option (List D)
 |.tup xs=>some xs
 |.lst xs=>some xs
 |_=>none
def gN (i:Nat) (d:D) (ρ:En):Option En:=some (ρ.set i (.im d))
def gT (is:List Nat) (d:D) (ρ:En):Option En:=bnd (bS4 d) λ xs=>if xs.length=is.length then some (O_2 is xs ρ) else none
def sIf (T:FT) (F G:FS) (ρ:En):Option Res:=bnd (T ρ) λ p=>if p.1=true then F p.2 else G p.2
def e_5 (F:FE) (ρ:En):Option Res:=bnd (F ρ) λ p=>some (.rt p.1 p.2)
def goR (G:FS):Res->Option Res
 |.nx ρ=>G ρ
 |.ct ρ=>G ρ
 |.bk ρ=>some (.nx ρ)
 |.rt d ρ=>some (.rt d ρ)
def fGo (g:D->En->Option En) (B:FS):List D->FS
 |[],ρ=>some (.nx ρ)
 |d::r,ρ=>bnd (g d ρ) λ M=>bnd (B M) λ z=>goR (fGo g B r) z
theorem aZ5 (g:D->En->Option En) (B:FS) (ρ:En):fGo g B [] ρ=some (.nx ρ):=rfl
theorem aI5 (g:D->En->Option En) (B:FS) (d:D) (r:List D) (ρ:En):fGo g B (d::r) ρ=bnd (g d ρ) λ M=>bnd (B M) λ z=>goR (fGo g B r) z:=rfl
def U_7 (g:D->En->Option En) (F:FE) (B:FS) (ρ:En):Option Res:=bnd (F ρ) λ p=>bnd (items p.1) λ xs=>fGo g B xs p.2
noncomputable def u_8 (lo:Int):Nat->List D
 |0=>[]
 |n+1=>.int lo::u_8 (lo+1) n
def aN5 (F:FE) (ρ:En):Option (List D×En):=bnd (F ρ) λ p=>bnd (aP2 p.1) λ j=>if -(2 ^ 62)<=j/\j<2 ^ 62 then some (u_8 0 j.toNat,p.2) else none
def aN4 (F G:FE) (ρ:En):Option (List D×En):=bnd (F ρ) λ p=>bnd (G p.2) λ q=>bnd (aP2 p.1) λ i=>bnd (aP2 q.1) λ j =>
 if -(2 ^ 62)<=i/\i<2 ^ 62/\-(2 ^ 62)<=j/\j<2 ^ 62 then some (u_8 i (j-i).toNat,q.2) else none
def F_5 (g:D->En->Option En) (R:FA) (B:FS) (ρ:En):Option Res:=bnd (R ρ) λ p=>fGo g B p.1 p.2
def wGo (T:FT) (B:FS):Nat->FS
 |0,_=>none
 |n+1,ρ=>bnd (T ρ) λ p=>if p.1=true then bnd (B p.2) λ z=>goR (wGo T B n) z else some (.nx p.2)
theorem aD0 (T:FT) (B:FS) (n:Nat) (ρ:En):wGo T B (n+1) ρ=bnd (T ρ) λ p=>if p.1=true then bnd (B p.2) λ z=>goR (wGo T B n) z else some (.nx p.2):=rfl
def aN1 (z:En->Nat) (T:FT) (B:FS) (ρ:En):Option Res:=wGo T B (z ρ) ρ
def av1 (A:FA) (ρ:En):Option (List D×En):=bnd (A ρ) λ p=>if p.1.length<=1000 then some p else none
def oIf (T:FT) (A B:FA) (ρ:En):Option (List D×En):=bnd (T ρ) λ p=>if p.1=true then A p.2 else B p.2
def aC3 (i:Nat) (A:FA) (ρ:En):Option Res:=bnd (A ρ) λ p=>some (.nx (p.2.set i (.ow false (.lst p.1))))
noncomputable def owL:Option Sl->Option (List D)
 |some (.ow false (.lst ds))=>some ds
 |_=>none
def as3 (i:Nat) (F:FE) (ρ:En):Option Res:=bnd (owL ρ[i]?) λ _=>bnd (F ρ) λ p=>bnd (owL p.2[i]?) λ ds=>if ds.length<1000000 then some (.nx (p.2.set i (.ow false (.lst (ds++[p.1]))))) else none
def frz (i:Nat) (ρ:En):En:=match ρ[i]? with
 |some (.ow false (.lst ds))=>ρ.set i (.im (.lst ds))
 |_=>ρ
def aD9 (i:Nat) (F:FS) (ρ:En):Option Res:=F (frz i ρ)
noncomputable def bv6:Res->Option D
 |.rt d _=>some d
 |.nx _=>some .non
 |_=>none
def fnD (n k:Nat) (B:FS) (ds:List D):Option D:=if ds.length=n then bnd (B (ds.map .im++List.replicate k .no)) λ r=>bv6 r else none
end Fx
namespace Fx
open PySem PySem.Spec PyProof.Rows L2
noncomputable abbrev Tab (α:Type):=List ((Str×Int)×Addr×α)
def kTI (k:Str×Int):List Key:=[.inr k.1,.inl k.2]
def al8 (x:(Str×Int)×Addr×Value):List Key×Addr×Value:=(kTI x.1,x.2.1,x.2.2)
structure TD (P:Program) (w:World) (o:Obj) (tab:Tab V):Prop where
 ex:o.ExactDict
 es:∃ es ep xs,o.data=.dict es ep/\es.toList=(xs.map al8).map (entryOfKey (tupleKind (c_9 P w)))/\Paired (λ (p:(Str×Int)×Addr×V) (q:(Str×Int)×Addr×Value)=>p.1=q.1/\p.2.1=q.2.1/\RelV p.2.2 q.2.2) tab xs
 nd:(tab.map (·.1)).Nodup
 few:tab.length<=sizeLine
def tdO (a:Addr) (tab:Tab V):HO:=.ext λ P w h=>(a==sysModules)=false/\∃ o,h.get? a=some o/\TD P w o tab
def tdF (a:Addr) (o:Obj) (tab:Tab V):HO:=.ext λ P w h=>(a==sysModules)=false/\h.get? a=some o/\TD P w o tab
def KsAt (H:Hp) (tab:Tab V):Prop:=∀ x∈tab,H x.2.1=some (.tup [.str x.1.1,.int x.1.2])
mutual
noncomputable def Rep (K:Frag) (H:Hp):D->V->Prop
 |.non,v=>v=.non
 |.bl b,v=>v=.bl b
 |.int i,v=>v=.int i
 |.str x,v=>v=.str x
 |.tup ds,v=>∃ a vs,v=.ref a/\SqT K H a vs/\Reps K H ds vs
 |.lst ds,v=>∃ a vs,v=.ref a/\SqL K H a vs/\Reps K H ds vs
 |.opq ks ds,v=>∃ a o tab,v=.ref a/\H a=some (tdF a o tab)/\ks=tab.map (·.1)/\KsAt H tab/\Reps K H ds (tab.map (·.2.2))
 |.dct ks ds,v=>∃ a o vs,v=.ref a/\H a=some (.frz o (.dK ((ks.map Sum.inr).zip vs)))/\Reps K H ds vs/\ks.length=ds.length
noncomputable def Reps (K:Frag) (H:Hp):List D->List V->Prop
 |[],vs=>vs=[]
 |d::ds,vs=>∃ v r,vs=v::r/\Rep K H d v/\Reps K H ds r
end
theorem Same.rd {H H':Hp}{a:Addr}{u:HO} (e:Same H H') (h:Rd H a u):Rd H' a u:=by
 rcases h with h | ⟨o,h⟩
 ·exact .inl (e _ _ h)
 ·exact .inr ⟨o,e _ _ h⟩
theorem Same.seqT {K:Frag}{H H':Hp}{a:Addr}{xs:List V} (e:Same H H') (h:SqT K H a xs):SqT K H' a xs:=by
 rcases h with h | h
 ·exact .inl (Same.rd e h)
 ·exact .inr h
section
variable {K:Frag}{H H':Hp}
mutual
theorem Rep.mono (e:Same H H'):∀ (d:D) {v:V},Rep K H d v->Rep K H' d v
 |.non,_,h=>h
 |.bl _,_,h=>h
 |.int _,_,h=>h
 |.str _,_,h=>h
 |.tup ds,_,h=>by
  unfold Rep at h ⊢;obtain⟨a,vs,q,s,r⟩:=h;exact⟨a,vs,q,Same.seqT e s,Reps.mono e ds r⟩
 |.lst ds,_,h=>by
  unfold Rep at h ⊢;obtain⟨a,vs,q,s,r⟩:=h;exact⟨a,vs,q,Same.seq e s,Reps.mono e ds r⟩
 |.opq ks ds,_,h=>by
  unfold Rep at h ⊢;obtain⟨a,o,tab,q,s,z,k,r⟩:=h;exact⟨a,o,tab,q,e _ _ s,z,λ x M=>e _ _ (k x M),Reps.mono e ds r⟩
 |.dct ks ds,_,h=>by
  unfold Rep at h ⊢;obtain⟨a,o,vs,q,s,r,l⟩:=h;exact⟨a,o,vs,q,e _ _ s,Reps.mono e ds r,l⟩
theorem Reps.mono (e:Same H H'):∀ (ds:List D) {vs:List V},Reps K H ds vs->Reps K H' ds vs
 |[],_,h=>h
 |d::ds,_,h=>by
  unfold Reps at h ⊢;obtain⟨v,r,q,s,t⟩:=h;exact⟨v,r,q,Rep.mono e d s,Reps.mono e ds t⟩
end
theorem Reps.length:∀ {ds:List D}{vs:List V},Reps K H ds vs->ds.length=vs.length
 |[],_,h=>by unfold Reps at h;rw[h];rfl
 |d::ds,_,h=>by
  unfold Reps at h;obtain⟨v,r,q,_,t⟩:=h;rw[q,Qc,Qc,Reps.length t]
theorem Reps.get:∀ {ds:List D}{vs:List V}{i:Nat}{d:D},Reps K H ds vs->ds[i]?=some d->∃ v,vs[i]?=some v/\Rep K H d v
 |[],_,_,_,_,e=>by simp at e
 |d::ds,_,0,_,h,e=>by
  unfold Reps at h;obtain⟨v,r,rfl,s,_⟩:=h;simp at e;subst e;exact⟨v,rfl,s⟩
 |d::ds,_,i+1,d',h,e=>by
  unfold Reps at h;obtain⟨v,r,rfl,_,t⟩:=h;obtain⟨w,a,b⟩:=Reps.get (i:=i) (d:=d') t (by simpa using e);exact⟨w,by simpa using a,b⟩
theorem Reps.app:∀ {ds es:List D}{vs z:List V},Reps K H ds vs->Reps K H es z->Reps K H (ds++es) (vs++z)
 |[],_,_,_,h,h'=>by unfold Reps at h;rw[h];exact h'
 |d::ds,es,_,z,h,h'=>by
  unfold Reps at h;obtain⟨v,r,rfl,s,t⟩:=h;show Reps K H (d::(ds++es)) (v::(r++z));unfold Reps;exact⟨v,r++z,rfl,s,Reps.app t h'⟩
theorem Reps.take:∀ {ds:List D}{vs:List V} (n:Nat),Reps K H ds vs->Reps K H (ds.take n) (vs.take n)
 |[],_,n,h=>by unfold Reps at h;rw[h];simp[Reps]
 |d::ds,vs,0,h=>by simp[Reps]
 |d::ds,_,n+1,h=>by
  unfold Reps at h;obtain⟨v,r,rfl,s,t⟩:=h;show Reps K H (d::ds.take n) (v::r.take n);unfold Reps;exact⟨v,r.take n,rfl,s,Reps.take n t⟩
theorem Reps.drop:∀ {ds:List D}{vs:List V} (n:Nat),Reps K H ds vs->Reps K H (ds.drop n) (vs.drop n)
 |[],_,n,h=>by unfold Reps at h;rw[h];simp[Reps]
 |d::ds,vs,0,h=>by simpa using h
 |d::ds,_,n+1,h=>by
  unfold Reps at h;obtain⟨v,r,rfl,s,t⟩:=h;simpa using Reps.drop n t
theorem Reps.one {d:D}{v:V} (h:Rep K H d v):Reps K H [d] [v]:=by unfold Reps Reps;exact⟨v,[],rfl,h,rfl⟩
theorem Reps.cons {d:D}{ds:List D}{v:V}{vs:List V} (h:Rep K H d v) (t:Reps K H ds vs):Reps K H (d::ds) (v::vs):=by unfold Reps;exact⟨v,vs,rfl,h,t⟩
theorem Reps.nil_:Reps K H [] []:=by unfold Reps;rfl
end
structure FC where
 Hi:Hp
 He:Hp
 Ap:List Addr
def OwOk (K:Frag) (H0 H:Hp) (a:Addr):MO->Prop
 |.lst ds=>∃ vs,H a=some (.lst vs)/\Reps K H0 ds vs
 |.dic kds=>∃ ks vs,H a=some (.dK ((ks.map Sum.inr).zip vs))/\ks=kds.map (·.1)/\Reps K H0 (kds.map (·.2)) vs
 |.dtu kds=>∃ tab,H a=some (tdO a tab)/\tab.map (·.1)=kds.map (·.1)/\KsAt H0 tab/\Reps K H0 (kds.map (·.2)) (tab.map (·.2.2))
structure RS (K:Frag) (c:FC) (H0 H:Hp) (ρ:En) (σ:L2.St):Prop where
 same:Same H0 H
 init:Same c.Hi H0
 fresh:∀ b o,H0 b=some o->c.Hi b=some o\/c.He b=none
 keep:∀ b o,c.He b=some o->b∉c.Ap->H b=some o
 apt:∀ a∈c.Ap,H a≠none
 len:ρ.length=σ.length
 im:∀ (i:Nat) (d:D),ρ[i]?=some (.im d)->∃ v,σ[i]?=some (some v)/\Rep K H0 d v
 ow:∀ (i:Nat) (b:Bool) (o:MO),ρ[i]?=some (.ow b o)->∃ a,σ[i]?=some (some (.ref a))/\H0 a=none/\(if b=true then a∈c.Ap else c.He a=none)/\OwOk K H0 H a o
 ne:∀ (i j:Nat) (b b':Bool) (o o':MO) (a:Addr),ρ[i]?=some (.ow b o)->ρ[j]?=some (.ow b' o')->σ[i]?=some (some (.ref a))->σ[j]?=some (some (.ref a))->i=j
section
variable {K:Frag}{c:FC}{H0 H H0' H':Hp}{ρ:En}{σ:L2.St}
theorem OwOk.some {a:Addr}{o:MO} (h:OwOk K H0 H a o):∃ u,H a=Option.some u:=by
 cases o with
 |lst ds=>obtain⟨vs,e,_⟩:=h;exact⟨_,e⟩
 |dic ds=>obtain⟨ks,vs,e,_⟩:=h;exact⟨_,e⟩
 |dtu ds=>obtain⟨tab,e,_⟩:=h;exact⟨_,e⟩
theorem OwOk.step {a:Addr}{o:MO} (h:OwOk K H0 H a o) (M:Same H0 H0') (s:∀ u,H a=Option.some u->H' a=Option.some u):OwOk K H0' H' a o:=by
 cases o with
 |lst ds=>obtain⟨vs,e,r⟩:=h;exact⟨vs,s _ e,Reps.mono M ds r⟩
 |dic ds=>obtain⟨ks,vs,e,q,r⟩:=h;exact⟨ks,vs,s _ e,q,Reps.mono M _ r⟩
 |dtu ds=>obtain⟨tab,e,z,q,r⟩:=h;exact⟨tab,s _ e,z,λ x O=>M _ _ (q x O),Reps.mono M _ r⟩
structure Step (H0 H H0' H':Hp):Prop where
 s0:Same H0 H0'
 s:Same H H'
 s':Same H0' H'
 fr:∀ b o,H0' b=some o->H0 b=some o\/H b=none
theorem RS.after (R:RS K c H0 H ρ σ) (S:Step H0 H H0' H'):RS K c H0' H' ρ σ:=by
 refine⟨S.s',R.init.trans S.s0,λ b o e=>?_,λ b o e n=>S.s _ _ (R.keep b o e n),λ a ha e=>?_,R.len,λ i d e=>?_,λ i b o e=>?_,R.ne⟩
 ·rcases S.fr b o e with h | h
  ·exact R.fresh b o h
  ·refine .inr ?_;cases q:c.He b with
   |none=>rfl
   |some u =>
    by_cases M:b∈c.Ap
    ·exact absurd h (R.apt b M)
    ·rw[R.keep b u q M] at h;cases h
 ·cases q:H a with
  |none=>exact R.apt a ha q
  |some u=>rw[S.s _ _ q] at e;cases e
 ·obtain⟨v,a,b⟩:=R.im i d e;exact⟨v,a,Rep.mono S.s0 d b⟩
 ·obtain⟨a,x,y,z,w⟩:=R.ow i b o e;refine⟨a,x,?_,z,w.step S.s0 λ u q=>S.s _ _ q⟩;obtain⟨u,q⟩:=w.some;cases t:H0' a with
  |none=>rfl
  |some o' =>
   rcases S.fr a o' t with h | h
   ·rw[y] at h;cases h
   ·rw[q] at h;cases h
theorem Step.alloc {p:Addr}{o:HO} (s:Same H0 H) (hp:H p=none):Step H0 H (upd H0 p o) (upd H p o):=by
 have M:H0 p=none:=s.free hp;refine⟨λ b u e=>by rw[a_4 (b_1 e M)];exact e,λ b u e=>by rw[a_4 (b_1 e hp)];exact e,λ b u e=>?_,λ b u e=>?_⟩
 ·by_cases z:b=p
  ·subst z;rw[a_8] at e ⊢;exact e
  ·rw[a_4 z] at e ⊢;exact s _ _ e
 ·by_cases z:b=p
  ·subst z;exact .inr hp
  ·rw[a_4 z] at e;exact .inl e
end
def tE (K:Frag) (F:FE):TE:=λ σ H Q=>∃ c H0 ρ d z,RS K c H0 H ρ σ/\F ρ=some (d,z)/\∀ v H0' H',Same H0 H0'->RS K c H0' H' z σ->Rep K H0' d v->Q v H'
def tTt (K:Frag) (F:FT):TT:=λ σ H Q=>∃ c H0 ρ b z,RS K c H0 H ρ σ/\F ρ=some (b,z)/\∀ H0' H',Same H0 H0'->RS K c H0' H' z σ->Q b H'
def tAa (K:Frag) (F:FA):TA:=λ σ H Q=>∃ c H0 ρ ds z,RS K c H0 H ρ σ/\F ρ=some (ds,z)/\∀ vs H0' H',Same H0 H0'->RS K c H0' H' z σ->Reps K H0' ds vs->Q vs H'
def tOo (K:Frag) (F:FO):TO:=λ σ H Q=>∃ c H0 ρ o z,RS K c H0 H ρ σ/\F ρ=some (o,z)/\∀ H0' H',Same H0 H0'->RS K c H0' H' z σ->Q o H'
def XE (X:Cx) (e:Expr) (F:FE):Prop:=PE X e (tE X.K F)
def XT (X:Cx) (e:Expr) (F:FT):Prop:=PT X e (tTt X.K F)
def XW (X:Cx) (e:Expr) (F:FT):Prop:=PW X e (tTt X.K F)
def XA (X:Cx) (es:List Expr) (F:FA):Prop:=PA X es (tAa X.K F)
def XO (X:Cx) (e:Option Expr) (F:FO):Prop:=PO X e (tOo X.K F)
theorem a_1 {α z:Type}{x:Option α}{f:α->Option z}{b:z} (h:bnd x f=some b):∃ a,x=some a/\f a=some b:=by
 cases x with
 |none=>cases h
 |some a=>exact⟨a,rfl,h⟩
theorem PE.wk {X:Cx}{e:Expr}{t t':TE} (h:PE X e t) (w:∀ σ H Q,t' σ H Q->t σ H Q):PE X e t':=λ pins s σ H Q I q=>h pins s σ H Q I (w σ H Q q)
theorem PT.wk {X:Cx}{e:Expr}{t t':TT} (h:PT X e t) (w:∀ σ H Q,t' σ H Q->t σ H Q):PT X e t':=λ pins s σ H Q I q=>h pins s σ H Q I (w σ H Q q)
theorem PW.wk {X:Cx}{e:Expr}{t t':TT} (h:PW X e t) (w:∀ σ H Q,t' σ H Q->t σ H Q):PW X e t':=λ z pins s σ H Q I q=>h z pins s σ H Q I (w σ H Q q)
theorem PA.wk {X:Cx}{e:List Expr}{t t':TA} (h:PA X e t) (w:∀ σ H Q,t' σ H Q->t σ H Q):PA X e t':=λ pos pins s σ H Q I q=>h pos pins s σ H Q I (w σ H Q q)
theorem PS.wk {X:Cx}{e:Stmt}{t t':TS} (h:PS X e t) (w:∀ D σ H,t' D σ H->t D σ H):PS X e t':=λ pins s σ H D I q=>h pins s σ H D I (w D σ H q)
theorem PSs.wk {X:Cx}{e:List Stmt}{t t':TS} (h:PSs X e t) (w:∀ D σ H,t' D σ H->t D σ H):PSs X e t':=λ pins s σ H D I q=>h pins s σ H D I (w D σ H q)
section
variable {X:Cx}{pos:Pos}{a b e:Expr}{F G L:FE}{T U:FT}
theorem xv (i:Nat) {x:Str} (hN:X.N[i]?=some x:=by rfl) (hv:Vis X.env.scope x:=by first | exact Or.inl rfl | exact Or.inr (Or.inl rfl) | exact Or.inr (Or.inr rfl)) (hd:(x==("__debug__":Str))=false:=by decide)
  (O:(x==("__classdict__":Str))=false:=by decide):XE X (.Name x pos) (eV i) :=
 PE.wk (t_1 hN hv hd O) λ σ H Q M=>by
  obtain⟨c,H0,ρ,d,Y,R,f,q⟩:=M;unfold eV at f;cases z:ρ[i]? with
  |none=>rw[z] at f;cases f
  |some Z =>
   rw[z] at f;cases Z with
   |no=>cases f
   |ow b o=>cases f
   |im d' =>
    have f':some (d',ρ)=some (d,Y):=f;cases f';obtain⟨v,e1,e2⟩:=R.im i _ z;exact⟨v,e1,q v H0 H (Same.refl _) R e2⟩
theorem ag2:XE X e Z_4:=λ pins s σ H Q I z=>by obtain⟨c,H0,ρ,d,M,R,f,q⟩:=z;cases f
theorem K_5 {d d':D}{ρ z:En} (h:eC d ρ=some (d',z)):d'=d/\z=ρ:=by have h':some (d,ρ)=some (d',z):=h;cases h';exact⟨rfl,rfl⟩
theorem a_3 {i:Int}{j}:XE X (.Constant (.int i) j pos) (zI i):=PE.wk W_5 λ σ H Q z=>by
 obtain⟨c,H0,ρ,d,M,R,f,q⟩:=z;obtain⟨rfl,rfl⟩:=K_5 f;exact q _ H0 H (Same.refl _) R (by unfold Rep;rfl)
theorem xbl {i:Bool}{j}:XE X (.Constant (.bool i) j pos) (eC (.bl i)):=PE.wk bB7 λ σ H Q z=>by
 obtain⟨c,H0,ρ,d,M,R,f,q⟩:=z;obtain⟨rfl,rfl⟩:=K_5 f;exact q _ H0 H (Same.refl _) R (by unfold Rep;rfl)
theorem g_9 {j}:XE X (.Constant .none j pos) (eC .non):=PE.wk aN8 λ σ H Q z=>by
 obtain⟨c,H0,ρ,d,M,R,f,q⟩:=z;obtain⟨rfl,rfl⟩:=K_5 f;exact q _ H0 H (Same.refl _) R (by unfold Rep;rfl)
theorem i_8 {x:Str}{j}:XE X (.Constant (.str x) j pos) (eC (.str x)):=PE.wk bl5 λ σ H Q z=>by
 obtain⟨c,H0,ρ,d,M,R,f,q⟩:=z;obtain⟨rfl,rfl⟩:=K_5 f;exact q _ H0 H (Same.refl _) R (by unfold Rep;rfl)
abbrev Aft (K:Frag) (c:FC) (H0:Hp) (ρ:En) (σ:L2.St) (d:D) (Q:VK):Prop:=∀ v H0' H',Same H0 H0'->RS K c H0' H' ρ σ->Rep K H0' d v->Q v H'
def OpD (K:Frag) (r:R2) (op:D->D->Option D):Prop:=∀ (c:FC) (H0 H:Hp) (ρ:En) (σ:L2.St) (x y d:D) (z M:V) (Q:VK),RS K c H0 H ρ σ->Rep K H0 x z->Rep K H0 y M->op x y=some d->Aft K c H0 ρ σ d Q->r z M H Q
def U_5 (X:Cx) (op:Operator) (f:D->D->Option D):Prop:=∃ r,OpR X (binaryOp op) r/\OpD X.K r f
def E_6 (X:Cx) (op:CmpOp) (f:D->D->Option D):Prop:=∃ r,OpR X (compareOp op) r/\OpD X.K r f
theorem aP7 {op:D->D->Option D}{ρ O:En}{d:D} (h:e2 op F G ρ=some (d,O)):∃ x M y,F ρ=some (x,M)/\G M=some (y,O)/\op x y=some d:=by unfold e2 at h;obtain⟨⟨x,M⟩,h1,h⟩:=a_1 h;obtain⟨⟨y,Y⟩,h2,h⟩:=a_1 h;obtain⟨z,Z,h⟩:=a_1 h;have h':some (z,Y)=some (d,O):=h;cases h';exact⟨x,M,y,h1,h2,Z⟩
theorem ag6 {K:Frag}{op:D->D->Option D}{r:R2} (o:OpD K r op) {σ:L2.St}{H:Hp}{Q:VK} (h:tE K (e2 op F G) σ H Q):tOp r (tE K F) (tE K G) σ H Q:=by
 obtain⟨c,H0,ρ,d,M,R,f,q⟩:=h;obtain⟨x,z,y,h1,h2,Z⟩:=aP7 f;refine⟨c,H0,ρ,x,z,R,h1,λ vx H1 Hh s1 R1 r1=>?_⟩;refine⟨c,H1,z,y,M,R1,h2,λ vy H2 Hh2 O R2 r2=>?_⟩;exact o c H2 Hh2 M σ x y d vx vy Q R2 (Rep.mono O x r1) r2 Z λ v H3 Hh3 Y R3 r3=>q v H3 Hh3 (s1.trans (O.trans Y)) R3 r3
theorem xb {op:Operator}{f:D->D->Option D} (o:U_5 X op f) (ha:XE X a F) (z:XE X b G):XE X (.BinOp a op b pos) (e2 f F G):=by
 obtain⟨r,h1,h2⟩:=o;exact PE.wk (bB6 h1 ha z) λ σ H Q h=>ag6 h2 h
theorem L_7 {op:CmpOp}{f:D->D->Option D} (o:E_6 X op f) (ha:XE X a F) (z:XE X b G) (M:behindInMarks op b=false:=by first | exact aO0 _ | with_unfolding_all rfl):XE X (.Compare a [op] [b] pos) (e2 f F G):=by
 obtain⟨r,h1,h2⟩:=o;exact PE.wk (aU6 h1 ha z M) λ σ H Q h=>ag6 h2 h
theorem bh9 {K:Frag}{t:TE}{σ:L2.St}{H:Hp}{Q:Bool->Hp->Prop} (w:∀ Q,tE K F σ H Q->t σ H Q) (h:tTt K (tB F) σ H Q):aR7 t σ H Q:=by
 obtain⟨c,H0,ρ,b,M,R,f,q⟩:=h;unfold tB at f;obtain⟨⟨d,z⟩,h1,f⟩:=a_1 f;obtain⟨Z,h2,f⟩:=a_1 f;have f':some (Z,z)=some (b,M):=f;cases f';refine w _ ⟨c,H0,ρ,d,_,R,h1,λ v H1 Y s1 R1 O=>?_⟩;cases d with
 |bl k =>
  have e:k=b:=qi h2;unfold Rep at O;exact⟨k,O,by rw[e];exact q H1 Y s1 R1⟩
 |_=>cases h2
theorem xt {op:CmpOp}{f:D->D->Option D} (o:E_6 X op f) (ha:XE X a F) (z:XE X b G) (M:behindInMarks op b=false:=by first | exact aO0 _ | with_unfolding_all rfl):XT X (.Compare a [op] [b] pos) (tB (e2 f F G)):=by
 obtain⟨r,h1,h2⟩:=o;exact PT.wk (aU1 h1 ha z M) λ σ H Q h=>bh9 (λ Q h=>ag6 h2 h) h
theorem aD4 {K:Frag}{op Y:D->D->Option D}{r r':R2} (o:OpD K r op) (o':OpD K r' Y) {σ:L2.St}{H:Hp}{Q:VK} (h:tE K (e3 op Y F G L) σ H Q):aN0 r r' (tE K F) (tE K G) (tE K L) σ H Q:=by
 obtain⟨c,H0,ρ,d,Z,R,f,q⟩:=h;unfold e3 at f;obtain⟨⟨x,O⟩,h1,f⟩:=a_1 f;obtain⟨⟨y,M⟩,h2,f⟩:=a_1 f;obtain⟨z,h3,f⟩:=a_1 f;obtain⟨k,h4,f⟩:=a_1 f;dsimp only at h2 h3 h4 f;refine⟨c,H0,ρ,x,O,R,h1,λ vx H1 Hh s1 R1 r1=>?_⟩;refine⟨c,H1,O,y,M,R1,h2,λ vy H2 Hh2 s2 R2 r2=>?_⟩;refine o c H2 Hh2 M σ x y z vx vy _ R2 (Rep.mono s2 x r1) r2 h3 λ v H3 Hh3 s3 R3 r3=>?_;cases z with
 |bl k' =>
  have e:k'=k:=qi h4;subst e;unfold Rep at r3;refine⟨k',r3,?_⟩;cases k' with
  |false =>
   rw[if_neg Qi] at f ⊢;have f':some (D.bl false,M)=some (d,Z):=f;cases f';exact q _ H3 Hh3 (s1.trans (s2.trans s3)) R3 (by unfold Rep;rfl)
  |true =>
   rw[if_pos rfl] at f ⊢;obtain⟨⟨w,aa⟩,h5,f⟩:=a_1 f;obtain⟨d',h6,f⟩:=a_1 f;dsimp only at h6 f;have f':some (d',aa)=some (d,Z):=f;cases f';refine⟨c,H3,M,w,_,R3,h5,λ vw H4 Hh4 s4 R4 r4=>?_⟩;exact o' c H4 Hh4 _ σ y w d vy vw Q R4 (Rep.mono s4 y (Rep.mono s3 y r2)) r4 h6 λ v H5 Hh5 s5 R5 r5=>q v H5 Hh5 (s1.trans (s2.trans (s3.trans (s4.trans s5)))) R5 r5
 |_=>cases h4
theorem xt3 {op z:CmpOp}{f Y:D->D->Option D}{m:Expr} (o:E_6 X op f) (o':E_6 X z Y) (ha:XE X a F) (hb:XE X b G) (Z:XE X m L) (hm:lastMarks [op,z] [b,m]=false:=by with_unfolding_all rfl):XT X (.Compare a [op,z] [b,m] pos) (tB (e3 f Y F G L)):=by
 obtain⟨r,h1,h2⟩:=o;obtain⟨r',M,O⟩:=o';exact PT.wk (aE7 h1 M ha hb Z hm) λ σ H Q h=>bh9 (λ Q h=>aD4 h2 O h) h
theorem xif {c:Expr} (hc:XT X c T) (ha:XE X a F) (hb:XE X b G):XE X (.IfExp c a b pos) (eIf T F G):=PE.wk (ai5 hc ha hb) λ σ H Q O=>by
 obtain⟨c,H0,ρ,d,M,R,f,q⟩:=O;unfold eIf at f;obtain⟨⟨k,z⟩,h1,f⟩:=a_1 f;dsimp only at f;refine⟨c,H0,ρ,k,z,R,h1,λ H1 Hh s1 R1=>?_⟩;cases k with
 |true =>
  rw[if_pos rfl] at f ⊢;exact⟨c,H1,z,d,M,R1,f,λ v H2 Hh2 Y R2 Z=>q v H2 Hh2 (s1.trans Y) R2 Z⟩
 |false =>
  rw[if_neg Qi] at f ⊢;exact⟨c,H1,z,d,M,R1,f,λ v H2 Hh2 Y R2 Z=>q v H2 Hh2 (s1.trans Y) R2 Z⟩
theorem aq1 {op} (h:XE X a F):XE X (.BoolOp op [a] pos) F:=bl8 h
variable {rest:List Expr}
theorem be5 (ha:XE X a F) (hb:XE X (.BoolOp .And (b::rest) pos) G):XE X (.BoolOp .And (a::b::rest) pos) (aJ4 F G):=PE.wk (bm3 ha hb) λ σ H Q Y=>by
 obtain⟨c,H0,ρ,d,O,R,f,q⟩:=Y;unfold aJ4 at f;obtain⟨⟨z,M⟩,h1,f⟩:=a_1 f;obtain⟨k,h2,f⟩:=a_1 f;dsimp only at h2 f;refine⟨c,H0,ρ,z,M,R,h1,λ v H1 Hh s1 R1 r1=>?_⟩;cases z with
 |bl Z =>
  have e:Z=k:=qi h2;subst e;unfold Rep at r1;refine⟨Z,r1,?_⟩;cases Z with
  |true =>
   rw[if_pos rfl] at f ⊢;exact⟨c,H1,M,d,O,R1,f,λ v H2 Hh2 s2 R2 r2=>q v H2 Hh2 (s1.trans s2) R2 r2⟩
  |false =>
   rw[if_neg Qi] at f ⊢;have f':some (D.bl false,M)=some (d,O):=f;cases f';exact q _ H1 Hh s1 R1 (by unfold Rep;rfl)
 |_=>cases h2
theorem xor (ha:XE X a F) (hb:XE X (.BoolOp .Or (b::rest) pos) G):XE X (.BoolOp .Or (a::b::rest) pos) (eOr F G):=PE.wk (bB5 ha hb) λ σ H Q Y=>by
 obtain⟨c,H0,ρ,d,O,R,f,q⟩:=Y;unfold eOr at f;obtain⟨⟨z,M⟩,h1,f⟩:=a_1 f;obtain⟨k,h2,f⟩:=a_1 f;dsimp only at h2 f;refine⟨c,H0,ρ,z,M,R,h1,λ v H1 Hh s1 R1 r1=>?_⟩;cases z with
 |bl Z =>
  have e:Z=k:=qi h2;subst e;unfold Rep at r1;refine⟨Z,r1,?_⟩;cases Z with
  |true =>
   rw[if_pos rfl] at f ⊢;have f':some (D.bl true,M)=some (d,O):=f;cases f';exact q _ H1 Hh s1 R1 (by unfold Rep;rfl)
  |false =>
   rw[if_neg Qi] at f ⊢;exact⟨c,H1,M,d,O,R1,f,λ v H2 Hh2 s2 R2 r2=>q v H2 Hh2 (s1.trans s2) R2 r2⟩
 |_=>cases h2
theorem bR5 (ha:XE X a F):XE X (.UnaryOp .Not a pos) (bv9 F):=PE.wk (bl9 ha) λ σ H Q M=>by
 obtain⟨c,H0,ρ,d,Y,R,f,q⟩:=M;unfold bv9 at f;obtain⟨⟨z,O⟩,h1,f⟩:=a_1 f;obtain⟨k,h2,f⟩:=a_1 f;dsimp only at h2 f;have f':some (D.bl (!k),O)=some (d,Y):=f;cases f';refine⟨c,H0,ρ,z,_,R,h1,λ v H1 Hh s1 R1 r1=>?_⟩;cases z with
 |bl Z =>
  have e:Z=k:=qi h2;subst e;unfold Rep at r1;exact⟨Z,r1,q _ H1 Hh s1 R1 (by unfold Rep;rfl)⟩
 |_=>cases h2
theorem xw (h:XW X a T):XT X a T:=PW.pt h
theorem H_3 (ha:XT X a T):XW X (.BoolOp .And [a] pos) T:=aT7 ha
theorem L_6 (ha:XT X a T):XW X (.BoolOp .Or [a] pos) T:=bk2 ha
theorem ab9 (ha:XT X a T) (hb:XW X (.BoolOp .And (b::rest) pos) U):XW X (.BoolOp .And (a::b::rest) pos) (tAnd T U):=PW.wk (bk3 ha hb) λ σ H Q O=>by
 obtain⟨c,H0,ρ,k,M,R,f,q⟩:=O;unfold tAnd at f;obtain⟨⟨Y,z⟩,h1,f⟩:=a_1 f;dsimp only at f;refine⟨c,H0,ρ,Y,z,R,h1,λ H1 Hh Z R1=>?_⟩;cases Y with
 |true =>
  rw[if_pos rfl] at f ⊢;exact⟨c,H1,z,k,M,R1,f,λ H2 Hh2 s2 R2=>q H2 Hh2 (Z.trans s2) R2⟩
 |false =>
  rw[if_neg Qi] at f ⊢;have f':some (false,z)=some (k,M):=f;cases f';exact q H1 Hh Z R1
theorem ap8 (ha:XT X a T) (hb:XW X (.BoolOp .Or (b::rest) pos) U):XW X (.BoolOp .Or (a::b::rest) pos) (tOr T U):=PW.wk (bB3 ha hb) λ σ H Q O=>by
 obtain⟨c,H0,ρ,k,M,R,f,q⟩:=O;unfold tOr at f;obtain⟨⟨Y,z⟩,h1,f⟩:=a_1 f;dsimp only at f;refine⟨c,H0,ρ,Y,z,R,h1,λ H1 Hh Z R1=>?_⟩;cases Y with
 |true =>
  rw[if_pos rfl] at f ⊢;have f':some (true,z)=some (k,M):=f;cases f';exact q H1 Hh Z R1
 |false =>
  rw[if_neg Qi] at f ⊢;exact⟨c,H1,z,k,M,R1,f,λ H2 Hh2 s2 R2=>q H2 Hh2 (Z.trans s2) R2⟩
theorem V_0 (ha:XT X a T):XT X (.UnaryOp .Not a pos) (tNot T):=PT.wk (bk5 ha) λ σ H Q z=>by
 obtain⟨c,H0,ρ,k,O,R,f,q⟩:=z;unfold tNot at f;obtain⟨⟨Y,M⟩,h1,f⟩:=a_1 f;have f':some (!Y,M)=some (k,O):=f;cases f';exact⟨c,H0,ρ,Y,_,R,h1,λ H1 Z s1 R1=>q H1 Z s1 R1⟩
theorem aM7 {K:Frag}{H0 H:Hp}{d:D}{v:V}{k:Bool} (s:Same H0 H) (r:Rep K H0 d v) (h:az2 d=some k):bw5 K v H k:=by
 cases d with
 |non=>unfold Rep at r;subst r;cases h;rfl
 |bl b=>unfold Rep at r;subst r;cases h;rfl
 |int i=>unfold Rep at r;subst r;cases h;rfl
 |str x=>cases h
 |opq=>cases h
 |dct ks vs=>cases h
 |tup ds =>
  unfold Rep at r;obtain⟨p,vs,rfl,q,t⟩:=r;have e:(!ds.isEmpty)=k:=qi h;have e2:ds.isEmpty=vs.isEmpty:=by rw[J4,Z3,Z3,t.length]
  exact .inr (.inl ⟨vs,Same.seqT s q,by rw[<- e2];exact e.symm⟩)
 |lst ds =>
  unfold Rep at r;obtain⟨p,vs,rfl,q,t⟩:=r;have e:(!ds.isEmpty)=k:=qi h;have e2:ds.isEmpty=vs.isEmpty:=by rw[J4,Z3,Z3,t.length]
  exact .inl ⟨vs,Same.seq s q,by rw[<- e2];exact e.symm⟩
theorem xtv (ha:XE X a F) (he:∀ z,isTrue a X.env z=(do let v <- z;standAt a.pos;holding [v] (truthy v))):XT X a (tV F):=PT.wk (aE6 ha he) λ σ H Q M=>by
 obtain⟨c,H0,ρ,k,Y,R,f,q⟩:=M;unfold tV at f;obtain⟨⟨d,O⟩,h1,f⟩:=a_1 f;obtain⟨k',h2,f⟩:=a_1 f;have f':some (k',O)=some (k,Y):=f;cases f';exact⟨c,H0,ρ,d,_,R,h1,λ v H1 Hh s1 Z r1=>⟨k,aM7 Z.same r1 h2,q H1 Hh s1 Z⟩⟩
theorem xaN:XA X [] aN:=PA.wk x_8 λ σ H Q z=>by
 obtain⟨c,H0,ρ,ds,M,R,f,q⟩:=z;have O:some (([]:List D),ρ)=some (ds,M):=f;cases O;exact q [] H0 H (Same.refl _) R Reps.nil_
theorem xaC {es:List Expr}{A:FA} (ha:XE X e F) (hr:XA X es A) (hs:starEach (e::es) X.env=(false,eval e X.env)::starEach es X.env:=by rfl):XA X (e::es) (aC F A):=PA.wk (q_0 ha hr hs) λ σ H Q M=>by
 obtain⟨c,H0,ρ,ds,Y,R,f,q⟩:=M;unfold aC at f;obtain⟨⟨d,z⟩,h1,f⟩:=a_1 f;obtain⟨⟨r,O⟩,h2,f⟩:=a_1 f;have f':some (d::r,O)=some (ds,Y):=f;cases f';refine⟨c,H0,ρ,d,z,R,h1,λ v H1 Hh s1 R1 r1=>?_⟩;refine⟨c,H1,z,r,_,R1,h2,λ vs H2 Hh2 Z R2 r2=>?_⟩;exact q _ H2 Hh2 (s1.trans Z) R2 (Reps.cons (Rep.mono Z d r1) r2)
theorem aS2 {n:Nat} (h:n<=1000):n<=sizeLine:=Zi (V_6 h)
theorem z_4 {es:List Expr}{A:FA}{x1} (h:XA X es A):XE X (.Tuple es x1 pos) (e_1 A):=PE.wk (aN7 h) λ σ H Q z=>by
 obtain⟨c,H0,ρ,d,aa,R,f,q⟩:=z;unfold e_1 at f;obtain⟨⟨ds,Z⟩,h1,f⟩:=a_1 f;dsimp only at f;split at f
 ·rename_i Y;cases f;refine⟨c,H0,ρ,ds,_,R,h1,λ vs H1 Hh s1 O M=>⟨by rw[<- M.length];exact aS2 Y,λ p hp=>?_⟩⟩;have S:=Step.alloc (o:=.tup vs) O.same hp;refine q _ _ _ (s1.trans S.s0) (O.after S) ?_;unfold Rep;exact⟨p,vs,rfl,.inl (.inl a_8),Reps.mono S.s0 ds M⟩
 ·cases f
theorem U_6 {es:List Expr}{A:FA} (h:XA X es A):XE X (.List es pos) (x_6 A):=PE.wk (ai4 h) λ σ H Q z=>by
 obtain⟨c,H0,ρ,d,aa,R,f,q⟩:=z;unfold x_6 at f;obtain⟨⟨ds,Z⟩,h1,f⟩:=a_1 f;dsimp only at f;split at f
 ·rename_i Y;cases f;refine⟨c,H0,ρ,ds,_,R,h1,λ vs H1 Hh s1 O M=>⟨by rw[<- M.length];exact aS2 Y,λ p hp=>?_⟩⟩;have S:=Step.alloc (o:=.lst vs) O.same hp;refine q _ _ _ (s1.trans S.s0) (O.after S) ?_;unfold Rep;exact⟨p,vs,rfl,.inl (.inl a_8),Reps.mono S.s0 ds M⟩
 ·cases f
theorem bs5:@dPl=@ixN:=rfl
theorem bt8 {K:Frag}{H:Hp}{ds:List D}{vs:List V}{i:Int}{d:D} (r:Reps K H ds vs) (h:atD ds i=some d):∃ v,atI vs i=some v/\Rep K H d v:=by unfold atD at h;obtain⟨j,h1,h2⟩:=a_1 (x:=dPl ds.length i) (f:=λ j=>ds[j]?) h;obtain⟨v,e1,e2⟩:=r.get h2;refine⟨v,?_,e2⟩;unfold atI;rw[<- r.length,<- bs5,h1];exact e1
theorem PO.wk {X:Cx}{e:Option Expr}{t t':TO} (h:PO X e t) (w:∀ σ H Q,t' σ H Q->t σ H Q):PO X e t':=λ pins s σ H Q I q=>h pins s σ H Q I (w σ H Q q)
theorem xoN:XO X none oN:=PO.wk aU4 λ σ H Q z=>by
 obtain⟨c,H0,ρ,o,M,R,f,q⟩:=z;have O:some ((none:Option Int),ρ)=some (o,M):=f;cases O;exact q H0 H (Same.refl _) R
theorem xoS (h:XE X e F):XO X (some e) (oS F):=PO.wk (aU3 h) λ σ H Q z=>by
 obtain⟨c,H0,ρ,o,O,R,f,q⟩:=z;unfold oS at f;obtain⟨⟨d,M⟩,h1,f⟩:=a_1 f;obtain⟨i,h2,f⟩:=a_1 f;dsimp only at h2 f;have f':some (some i,M)=some (o,O):=f;cases f';refine⟨c,H0,ρ,d,_,R,h1,λ v H1 Z s1 R1 Y=>?_⟩;cases d with
 |int j =>
  have e:j=i:=qi h2;subst e;unfold Rep at Y;exact⟨j,Y,q H1 Z s1 R1⟩
 |_=>cases h2
theorem T_9 (n d:Nat) (o:Option Int):U_9 n d o=HT.sIx n d o:=by
 cases o with
 |none=>rfl
 |some v =>
  show (if v<0 then max (v+(n:Int)) 0 else min v (n:Int)).toNat=if v<0 then (v+(n:Int)).toNat else min v.toNat n
  split <;> omega
theorem aP8 {K:Frag}{H:Hp}{ds:List D}{vs:List V} (r:Reps K H ds vs) (lo hi:Option Int):Reps K H (aC5 ds lo hi) (aC6 vs lo hi):=by unfold aC5 aC6;rw[T_9,T_9,r.length];exact (r.drop _).take _
end
section
variable {X:Cx}{K:Frag}
theorem R_1 {C:Int->Int->Prop}{g:Int->Int->V}{f:D->D->Option D} (h:∀ x y d,f x y=some d->∃ i j,x=.int i/\y=.int j/\C i j/\∀ H,Rep K H d (g i j)):OpD K (rI C g) f:=λ c H0 H ρ σ x y d Y Z Q R M z e q=>by
 obtain⟨i,j,rfl,rfl,O,hr⟩:=h x y d e;unfold Rep at M z;exact⟨i,j,M,z,O,q _ H0 H (Same.refl _) R (hr H0)⟩
theorem aj0 {g:Int->Int->V}{f:D->D->Option D} (h:∀ x y d,f x y=some d->∃ i j,x=.int i/\y=.int j/\∀ H,Rep K H d (g i j)):OpD K (rI0 g) f:=λ c H0 H ρ σ x y d O Y Q R M z e q=>by
 obtain⟨i,j,rfl,rfl,hr⟩:=h x y d e;unfold Rep at M z;exact⟨i,j,M,z,q _ H0 H (Same.refl _) R (hr H0)⟩
theorem g_0 (H:Hp) (i:Int):Rep K H (.int i) (.int i):=by unfold Rep;rfl
theorem z_5 (H:Hp) (i:Bool):Rep K H (.bl i) (.bl i):=by unfold Rep;rfl
theorem ifs {c:Prop} [Decidable c] {α:Type}{a d:α} (h:(if c then some a else none)=some d):c/\a=d:=by
 by_cases z:c
 ·rw[if_pos z] at h;exact⟨z,qi h⟩
 ·rw[if_neg z] at h;cases h
theorem ad8:U_5 X .Sub Z_5:=⟨_,bm7,aj0 λ x y d e=>by
 cases x <;> cases y <;> cases e
 exact⟨_,_,rfl,rfl,λ H=>g_0 H _⟩⟩
def CMulD (i j:Int):Prop:=x_1 i j=true
theorem E_7 {i:Int} (h:bI5 i=true):Builtin.Int.intBits i<=1000:=by
 have h:i.natAbs<2 ^ 1000:=Q1 h;unfold Builtin.Int.intBits;split
 ·exact Qw _
 ·rename_i hz;have hz:i≠0:=by simpa using hz
  have z:i.natAbs≠0:=by omega
  have:=(Nat.log2_lt z).mpr h;omega
theorem CMulD.ok {i j:Int} (h:CMulD i j):IntMulOk i j:=by
 unfold CMulD x_1 at h;simp only[Bool.or_eq_true,Qx,Zm] at h;rcases h with (h | h) | ⟨h1,h2⟩
 ·exact IntMulOk.of_left (Uj (by omega) (by omega))
 ·exact IntMulOk.of_right (Uj (by omega) (by omega))
 ·unfold IntMulOk;have M:=E_7 h1;have z:=E_7 h2;have:Builtin.Int.intTooBig ((Builtin.Int.intBits i:Int)+(Builtin.Int.intBits j:Int))=false:=by
   unfold Builtin.Int.intTooBig;refine Qh ?_;have:(2000:Int)<=bitsLine:=by decide
   omega
  simp[this]
theorem X_9:U_5 X .Mult T_8:=⟨rI CMulD λ i j=>.int (i*j),opI λ _ _ _ _ _ _ _ z q=>mul_int q z.ok,R_1 λ x y d e=>by
 cases x with
 |int i =>
  cases y with
  |int j =>
   obtain⟨h,rfl⟩:=ifs (c:=x_1 i j=true) e;exact⟨_,_,rfl,rfl,h,λ H=>g_0 H _⟩
  |_=>cases e
 |_=>cases y <;> cases e⟩
def bu5 (i j:Int):Prop:=A_6 j=true
theorem z_2:U_5 X .FloorDiv v_6:=⟨rI bu5 λ i j=>.int (i.fdiv j),opI λ i j _ _ _ _ _ z q=>by
  unfold bu5 A_6 at z;simp only[Qx,Zm] at z;refine floordiv_int z.1 q (.inl (PyProof.noPylong_of_log2 ?_));have M:j.natAbs≠0:=by have:=z.1;omega
  have:=(Nat.log2_lt M).mpr z.2;omega,R_1 λ x y d e=>by
 cases x with
 |int i =>
  cases y with
  |int j =>
   obtain⟨h,rfl⟩:=ifs (c:=A_6 j=true) e;exact⟨_,_,rfl,rfl,h,λ H=>g_0 H _⟩
  |_=>cases e
 |_=>cases y <;> cases e⟩
theorem x_2:U_5 X .Mod u_3:=⟨_,aV2,R_1 λ x y d e=>by
 cases x with
 |int i =>
  cases y with
  |int j =>
   obtain⟨h,rfl⟩:=ifs (c:=j≠0) e;exact⟨_,_,rfl,rfl,h,λ H=>g_0 H _⟩
  |_=>cases e
 |_=>cases y <;> cases e⟩
theorem bW4:U_5 X .Pow bI0:=⟨_,bm8,R_1 λ x y d e=>by
 cases x with
 |int i =>
  cases y with
  |int j =>
   obtain⟨h,rfl⟩:=ifs (c:=0<=j/\j<=64/\i.natAbs<2 ^ 64) e;exact⟨_,_,rfl,rfl,⟨h.1,by omega,h.2.2⟩,λ H=>g_0 H _⟩
  |_=>cases e
 |_=>cases y <;> cases e⟩
def bk0 (K:Frag):R2:=λ x y H Q=>∃ l b xs zs,x=.ref l/\y=.ref b/\SqL K H l xs/\SqL K H b zs/\xs.length+zs.length<=sizeLine/\∀ p,H p=none->Q (.ref p) (upd H p (.lst (xs++zs)))
theorem aV4:OpR X (binaryOp .Add) (bk0 X.K):=by
 intro pins s σ H x y v u Q I rx ry h;obtain⟨l,b,xs,zs,rfl,rfl,hH,hB,hz,q⟩:=h;cases rx;cases ry;obtain⟨M,r,pl,_⟩:=I.list hH;obtain⟨z,r2,aa,_⟩:=I.list hB;have hl:=r.length;have af:=r2.length;obtain⟨⟨cls,dd,data,sl⟩,ho,hc,n,hd⟩:=pl.isList;obtain⟨⟨ae,ab,ad,ac⟩,O,Z,n2,Y⟩:=aa.isList;simp only at hc hd Z Y;subst hc hd Z Y;have e:M.toArray++z.toArray=(M++z).toArray:=by simp
 refine concat_meets ⟨_,ho,rfl⟩ ⟨_,O,rfl⟩ noFill_list_add seq_list_add PySem.F.slot_list_add PySem.F.entry_list_add (PySem.F.args_list_add_2 _ _) (list_addW l b M.toArray z.toArray n n2 dd ab sl ac (by rw[Qb,Qb];omega)) ⟨ho,O,?_⟩;rw[e];exact⟨.ref _,_,I.lnew (t':=s.toks) (r.append r2) (by rw[Qd];omega),rfl,q _ I.fresh⟩
def bB2 (K:Frag):R2:=λ x y H Q=>rI0 (λ i j=>.int (i+j)) x y H Q\/((∃ i j,x=.str i/\y=.str j/\i.length+j.length<=sizeLine/\Q (.str (i++j)) H)\/bk0 K x y H Q)
theorem A_7:U_5 X .Add y_8:=⟨bB2 X.K,op_add.or (op_add_str.or aV4),λ c H0 H ρ σ x y d vx vy Q R M z e q=>by
 cases x with
 |int i =>
  cases y with
  |int j =>
   cases e;unfold Rep at M z;exact .inl ⟨_,_,M,z,q _ H0 H (Same.refl _) R (g_0 H0 _)⟩
  |_=>cases e
 |str i =>
  cases y with
  |str j =>
   obtain⟨h,rfl⟩:=ifs (c:=i.length+j.length<=sizeLine) e;unfold Rep at M z;exact .inr (.inl ⟨_,_,M,z,h,q _ H0 H (Same.refl _) R (by unfold Rep;rfl)⟩)
  |_=>cases e
 |lst ds =>
  cases y with
  |lst es =>
   obtain⟨h,rfl⟩:=ifs (c:=ds.length+es.length<=sizeLine) e;unfold Rep at M z;obtain⟨p,vs,rfl,s,t⟩:=M;obtain⟨p2,O,rfl,s2,Y⟩:=z;refine .inr (.inr ⟨p,p2,vs,O,rfl,rfl,Same.seq R.same s,Same.seq R.same s2,by rw[<- t.length,<- Y.length];exact h,λ Z hp=>?_⟩);have S:=Step.alloc (o:=.lst (vs++O)) R.same hp;refine q _ _ _ S.s0 (R.after S) ?_;unfold Rep;exact⟨Z,_,rfl,.inl (.inl a_8),Reps.mono S.s0 _ (t.app Y)⟩
  |_=>cases e
 |_=>cases y <;> cases e⟩
theorem aL5 {a:Expr}{F:FE}{pos:Pos} (ha:XE X a F):XE X (.UnaryOp .USub a pos) (e1 Z_6 F):=PE.wk (bl3 aM2 ha) λ σ H Q z=>by
 obtain⟨c,H0,ρ,d,O,R,f,q⟩:=z;unfold e1 at f;obtain⟨⟨x,M⟩,h1,f⟩:=a_1 f;obtain⟨d',h2,f⟩:=a_1 f;dsimp only at h2 f;have f':some (d',M)=some (d,O):=f;cases f';refine⟨c,H0,ρ,x,_,R,h1,λ v H1 Z s1 R1 Y=>?_⟩;cases x with
 |int i =>
  have e:D.int (-i)=d:=qi h2;subst e;unfold Rep at Y;exact⟨i,Y,q _ H1 Z s1 R1 (g_0 _ _)⟩
 |_=>cases h2
theorem bw3 {p:Int->Int->Bool}:OpD K (rI0 λ i j=>.bl (p i j)) (bt0 p):=aj0 λ x y d e=>by
 cases x <;> cases y <;> cases e
 exact⟨_,_,rfl,rfl,λ H=>z_5 H _⟩
theorem cLt:E_6 X .Lt dLt:=⟨_,bC0,bw3⟩
theorem cLe:E_6 X .LtE dLe:=⟨_,bC1,bw3⟩
theorem cGt:E_6 X .Gt dGt:=⟨_,bC2,bw3⟩
theorem cGe:E_6 X .GtE dGe:=⟨_,bC3,bw3⟩
theorem aP0 {H:Hp}{x:D}{v:V} (r:Rep K H x v):isN x=decide (v=.non):=by
 cases x with
 |non=>unfold Rep at r;subst r;rfl
 |bl b=>unfold Rep at r;subst r;rfl
 |int b=>unfold Rep at r;subst r;rfl
 |str b=>unfold Rep at r;subst r;rfl
 |tup ds=>unfold Rep at r;obtain⟨p,vs,rfl,_⟩:=r;rfl
 |opq ks vs=>unfold Rep at r;obtain⟨p,o,tab,rfl,_⟩:=r;rfl
 |dct ks vs=>unfold Rep at r;obtain⟨p,o,us,rfl,_⟩:=r;rfl
 |lst ds=>unfold Rep at r;obtain⟨p,vs,rfl,_⟩:=r;rfl
theorem cIs:E_6 X .Is dIs:=⟨_,bn0,λ c H0 H ρ σ x y d O Y Q R M z e q=>by
 cases y with
 |non =>
  have e':D.bl (isN x)=d:=by cases x <;> exact qi e
  subst e';unfold Rep at z;exact⟨z,by rw[<- aP0 M];exact q _ H0 H (Same.refl _) R (z_5 _ _)⟩
 |_=>cases x <;> cases e⟩
theorem q_3:E_6 X .IsNot h_2:=⟨_,aV1,λ c H0 H ρ σ x y d O Y Q R M z e q=>by
 cases y with
 |non =>
  have e':D.bl (!isN x)=d:=by cases x <;> exact qi e
  subst e';unfold Rep at z;exact⟨z,by rw[<- aP0 M];exact q _ H0 H (Same.refl _) R (z_5 _ _)⟩
 |_=>cases x <;> cases e⟩
end
theorem y_7:∀ (ds es:List D),D_2 ds es=((List.range (min ds.length es.length)).all (λ j=>eqD (ds.getD j .non) (es.getD j .non))&&ds.length==es.length)
 |[],[]=>by simp[D_2]
 |[],e::es=>by simp[D_2]
 |d::ds,[]=>by simp[D_2]
 |d::ds,e::es=>by
  rw[D_2,y_7 ds es];have h:min (d::ds).length (e::es).length=min ds.length es.length+1:=by simp only[Qc];omega
  rw[h,List.range_succ_eq_map,Jl,List.all_map];have h2:((d::ds).length==(e::es).length)=(ds.length==es.length):=by simp
  rw[h2,Bool.and_assoc];rfl
theorem u_6:∀ {ds:List D}{n:Nat}{j:Nat}{d:D},U_8 ds<=n->ds[j]?=some d->dpD d<=n
 |[],_,_,_,_,e=>by simp at e
 |d::ds,n,0,_,h,e=>by
  rw[C_2] at h;simp at e;subst e;omega
 |d::ds,n,j+1,d',h,e=>by
  rw[C_2] at h;exact u_6 (ds:=ds) (n:=n) (j:=j) (by omega) (by simpa using e)
section
variable {X:Cx}{pins:List (Addr×Obj)}{σ:L2.St}{H:Hp}{s:Shared}
theorem ay8 {ds es:List D}{vs:List V} (Z:Reps X.K H ds vs) (Y:Reps X.K H es vs) (h:∀ (j:Nat) (d e:D) (v:V),ds[j]?=some d->es[j]?=some e->Rep X.K H d v->Rep X.K H e v->eqD d e=true):D_2 ds es=true:=by
 rw[y_7];have l1:=Z.length;have l2:=Y.length;rw[Qx,Uz];refine⟨λ j hj=>?_,by simp;omega⟩;have M:j<ds.length:=by have:=List.mem_range.mp hj;omega
 have z:j<es.length:=by omega
 obtain⟨v,a1,a2⟩:=Z.get (i:=j) (d:=ds[j]) (by simp[M]);obtain⟨v',O,b2⟩:=Y.get (i:=j) (d:=es[j]) (by simp[z]);rw[a1] at O;cases O;have:=h j ds[j] es[j] v (by simp[M]) (by simp[z]) a2 b2;simpa [List.getD,M,z] using this
theorem bn4 (I:Inv X pins σ H s) {a:Addr}{xs ys:List V} (h:SqT X.K H a xs) (h':SqL X.K H a ys):False:=by
 obtain⟨_,_,⟨o,e,c,_⟩,_⟩:=I.tuple h;obtain⟨_,_,⟨o',n,e',c',_⟩,_⟩:=I.list h';rw[e] at e';cases e';have z:=c.symm.trans c';injection z with z
 exact absurd z (by decide)
theorem ac7 (I:Inv X pins σ H s):∀ (n:Nat) (d e:D) (v:V),dpD d<=n->dpD d<1000->dpD e<1000->Rep X.K H d v->Rep X.K H e v->eqD d e=true
 |n,d,e,v,hn,hz1,hz2,r1,r2=>by
  cases d with
  |opq=>exact absurd hz1 (by rw[d_9];omega)
  |dct Y O=>exact absurd hz1 (by rw[e_0];omega)
  |non =>
   cases e with
   |opq=>exact absurd hz2 (by rw[d_9];omega)
   |dct Y O=>exact absurd hz2 (by rw[e_0];omega)
   |non=>unfold Rep at r1 r2;rw[r1] at r2;first | (cases r2;simp[eqD]) | cases r2
   |bl M=>unfold Rep at r1 r2;rw[r1] at r2;first | (cases r2;simp[eqD]) | cases r2
   |int M=>unfold Rep at r1 r2;rw[r1] at r2;first | (cases r2;simp[eqD]) | cases r2
   |str M=>unfold Rep at r1 r2;rw[r1] at r2;first | (cases r2;simp[eqD]) | cases r2
   |tup es=>unfold Rep at r1 r2;obtain⟨p,vs,z,_⟩:=r2;rw[r1] at z;cases z
   |lst es=>unfold Rep at r1 r2;obtain⟨p,vs,z,_⟩:=r2;rw[r1] at z;cases z
  |bl b1 =>
   cases e with
   |opq=>exact absurd hz2 (by rw[d_9];omega)
   |dct Y O=>exact absurd hz2 (by rw[e_0];omega)
   |non=>unfold Rep at r1 r2;rw[r1] at r2;first | (cases r2;simp[eqD]) | cases r2
   |bl M=>unfold Rep at r1 r2;rw[r1] at r2;first | (cases r2;simp[eqD]) | cases r2
   |int M=>unfold Rep at r1 r2;rw[r1] at r2;first | (cases r2;simp[eqD]) | cases r2
   |str M=>unfold Rep at r1 r2;rw[r1] at r2;first | (cases r2;simp[eqD]) | cases r2
   |tup es=>unfold Rep at r1 r2;obtain⟨p,vs,z,_⟩:=r2;rw[r1] at z;cases z
   |lst es=>unfold Rep at r1 r2;obtain⟨p,vs,z,_⟩:=r2;rw[r1] at z;cases z
  |int b1 =>
   cases e with
   |opq=>exact absurd hz2 (by rw[d_9];omega)
   |dct Y O=>exact absurd hz2 (by rw[e_0];omega)
   |non=>unfold Rep at r1 r2;rw[r1] at r2;first | (cases r2;simp[eqD]) | cases r2
   |bl M=>unfold Rep at r1 r2;rw[r1] at r2;first | (cases r2;simp[eqD]) | cases r2
   |int M=>unfold Rep at r1 r2;rw[r1] at r2;first | (cases r2;simp[eqD]) | cases r2
   |str M=>unfold Rep at r1 r2;rw[r1] at r2;first | (cases r2;simp[eqD]) | cases r2
   |tup es=>unfold Rep at r1 r2;obtain⟨p,vs,z,_⟩:=r2;rw[r1] at z;cases z
   |lst es=>unfold Rep at r1 r2;obtain⟨p,vs,z,_⟩:=r2;rw[r1] at z;cases z
  |str b1 =>
   cases e with
   |opq=>exact absurd hz2 (by rw[d_9];omega)
   |dct Y O=>exact absurd hz2 (by rw[e_0];omega)
   |non=>unfold Rep at r1 r2;rw[r1] at r2;first | (cases r2;simp[eqD]) | cases r2
   |bl M=>unfold Rep at r1 r2;rw[r1] at r2;first | (cases r2;simp[eqD]) | cases r2
   |int M=>unfold Rep at r1 r2;rw[r1] at r2;first | (cases r2;simp[eqD]) | cases r2
   |str M=>unfold Rep at r1 r2;rw[r1] at r2;first | (cases r2;simp[eqD]) | cases r2
   |tup es=>unfold Rep at r1 r2;obtain⟨p,vs,z,_⟩:=r2;rw[r1] at z;cases z
   |lst es=>unfold Rep at r1 r2;obtain⟨p,vs,z,_⟩:=r2;rw[r1] at z;cases z
  |tup ds =>
   cases e with
   |opq=>exact absurd hz2 (by rw[d_9];omega)
   |dct Y O=>exact absurd hz2 (by rw[e_0];omega)
   |non=>unfold Rep at r1 r2;obtain⟨p,vs,z,_⟩:=r1;rw[r2] at z;cases z
   |bl M=>unfold Rep at r1 r2;obtain⟨p,vs,z,_⟩:=r1;rw[r2] at z;cases z
   |int M=>unfold Rep at r1 r2;obtain⟨p,vs,z,_⟩:=r1;rw[r2] at z;cases z
   |str M=>unfold Rep at r1 r2;obtain⟨p,vs,z,_⟩:=r1;rw[r2] at z;cases z
   |tup es =>
    unfold Rep at r1 r2;obtain⟨p,vs,z,s1,q1⟩:=r1;obtain⟨p',aa,Z,s2,q2⟩:=r2;rw[z] at Z;cases Z;have e:=I.tuple_inj s1 s2;subst e;cases n with
    |zero=>rw[m_9] at hn;omega
    |succ n =>
     rw[m_9] at hn;rw[eqD];exact ay8 q1 q2 λ j d e v h1 h2=>ac7 I n d e v (u_6 (by omega) h1) (by have z:=u_6 (n:=998) (by first | (rw[m_9] at hz1;omega) | (rw[n_0] at hz1;omega)) h1;omega) (by have z:=u_6 (n:=998) (by first | (rw[m_9] at hz2;omega) | (rw[n_0] at hz2;omega)) h2;omega)
   |lst es=>unfold Rep at r1 r2;obtain⟨p,vs,z,s1,_⟩:=r1;obtain⟨p',aa,Z,s2,_⟩:=r2;rw[z] at Z;cases Z;exact (bn4 I s1 s2).elim
  |lst ds =>
   cases e with
   |opq=>exact absurd hz2 (by rw[d_9];omega)
   |dct Y O=>exact absurd hz2 (by rw[e_0];omega)
   |non=>unfold Rep at r1 r2;obtain⟨p,vs,z,_⟩:=r1;rw[r2] at z;cases z
   |bl M=>unfold Rep at r1 r2;obtain⟨p,vs,z,_⟩:=r1;rw[r2] at z;cases z
   |int M=>unfold Rep at r1 r2;obtain⟨p,vs,z,_⟩:=r1;rw[r2] at z;cases z
   |str M=>unfold Rep at r1 r2;obtain⟨p,vs,z,_⟩:=r1;rw[r2] at z;cases z
   |tup es=>unfold Rep at r1 r2;obtain⟨p,vs,z,s1,_⟩:=r1;obtain⟨p',aa,Z,s2,_⟩:=r2;rw[z] at Z;cases Z;exact (bn4 I s2 s1).elim
   |lst es =>
    unfold Rep at r1 r2;obtain⟨p,vs,z,s1,q1⟩:=r1;obtain⟨p',aa,Z,s2,q2⟩:=r2;rw[z] at Z;cases Z;have e:=I.list_inj s1 s2;subst e;cases n with
    |zero=>rw[n_0] at hn;omega
    |succ n =>
     rw[n_0] at hn;rw[eqD];exact ay8 q1 q2 λ j d e v h1 h2=>ac7 I n d e v (u_6 (by omega) h1) (by have z:=u_6 (n:=998) (by first | (rw[m_9] at hz1;omega) | (rw[n_0] at hz1;omega)) h1;omega) (by have z:=u_6 (n:=998) (by first | (rw[m_9] at hz2;omega) | (rw[n_0] at hz2;omega)) h2;omega)
def RcN (X:Cx) (H:Hp) (s:Shared) (n:Nat):Prop:=∀ (A:Around) (d e:D) (x y:V) (u v:Value),dpD d<=n->dpD d<1000->dpD e<1000->A.units+n<cLine->Rep X.K H d x->RelV x u->Rep X.K H e y->RelV y v->SeqAt.RcAt A s u v (eqD d e)
def EqN (X:Cx) (H:Hp) (s:Shared) (n:Nat):Prop:=∀ (A:Around) (d e:D) (x y:V) (u v:Value),dpD d<=n->dpD d<1000->dpD e<1000->A.units+n<cLine->Rep X.K H d x->RelV x u->Rep X.K H e y->RelV y v->SeqAt.EqAt A s u v (eqD d e)
theorem br2 (I:Inv X pins σ H s) {n:Nat} (rc:RcN X H s n):EqN X H s n:=by
 intro A d e x y u v hn aj aa hA O w1 M w2;have hu:A.units<cLine:=by omega
 have key:=rc A d e x y u v hn aj aa hA O w1 M w2;have one:x=y->eqD d e=true:=λ z=>ac7 I _ d e x (qj _) aj aa O (z▸M);cases d with
 |opq=>exact absurd aj (by rw[d_9];omega)
 |dct ai ah=>exact absurd aj (by rw[e_0];omega)
 |non =>
  cases e with
  |opq=>exact absurd aa (by rw[d_9];omega)
  |dct ai ah=>exact absurd aa (by rw[e_0];omega)
  |non=>unfold Rep at O;subst O;cases (show u=Value.none from w1);unfold Rep at M;subst M;cases (show v=Value.none from w2);exact Jy _
  |bl b2=>unfold Rep at O;subst O;cases (show u=Value.none from w1);unfold Rep at M;subst M;cases (show v=Value.bool _ from w2);exact SeqAt.EqAt.none_bool _
  |int b2=>unfold Rep at O;subst O;cases (show u=Value.none from w1);unfold Rep at M;subst M;obtain⟨t2,z2⟩:=w2;subst z2;exact SeqAt.EqAt.none_int _ _
  |str b2=>unfold Rep at O;subst O;cases (show u=Value.none from w1);unfold Rep at M;subst M;obtain⟨t2,z2⟩:=w2;subst z2;exact SeqAt.EqAt.none_str _ _
  |tup es=>unfold Rep at O;subst O;cases (show u=Value.none from w1);unfold Rep at M;obtain⟨p2,ae,y2,s2,q2⟩:=M;subst y2;cases (show v=Value.ref _ from w2);obtain⟨ab,ag,Y,_⟩:=I.tuple s2;exact SeqAt.EqAt.none_tuple Y hu
  |lst es=>unfold Rep at O;subst O;cases (show u=Value.none from w1);unfold Rep at M;obtain⟨p2,ae,y2,s2,q2⟩:=M;subst y2;cases (show v=Value.ref _ from w2);obtain⟨ab,ag,Y,_⟩:=I.list s2;have Y:=Y.isList;exact SeqAt.EqAt.none_list Y hu
 |bl b1 =>
  cases e with
  |opq=>exact absurd aa (by rw[d_9];omega)
  |dct ai ah=>exact absurd aa (by rw[e_0];omega)
  |non=>unfold Rep at O;subst O;cases (show u=Value.bool _ from w1);unfold Rep at M;subst M;cases (show v=Value.none from w2);exact SeqAt.EqAt.bool_none _
  |bl b2=>unfold Rep at O;subst O;cases (show u=Value.bool _ from w1);unfold Rep at M;subst M;cases (show v=Value.bool _ from w2);exact SeqAt.EqAt.bool_bool _ _
  |int b2=>unfold Rep at O;subst O;cases (show u=Value.bool _ from w1);unfold Rep at M;subst M;obtain⟨t2,z2⟩:=w2;subst z2;exact SeqAt.EqAt.bool_int _ _ _
  |str b2=>unfold Rep at O;subst O;cases (show u=Value.bool _ from w1);unfold Rep at M;subst M;obtain⟨t2,z2⟩:=w2;subst z2;exact SeqAt.EqAt.bool_str _ _ _
  |tup es=>unfold Rep at O;subst O;cases (show u=Value.bool _ from w1);unfold Rep at M;obtain⟨p2,ae,y2,s2,q2⟩:=M;subst y2;cases (show v=Value.ref _ from w2);obtain⟨ab,ag,Y,_⟩:=I.tuple s2;exact SeqAt.EqAt.bool_tuple _ Y hu
  |lst es=>unfold Rep at O;subst O;cases (show u=Value.bool _ from w1);unfold Rep at M;obtain⟨p2,ae,y2,s2,q2⟩:=M;subst y2;cases (show v=Value.ref _ from w2);obtain⟨ab,ag,Y,_⟩:=I.list s2;have Y:=Y.isList;exact SeqAt.EqAt.bool_list _ Y hu
 |int b1 =>
  cases e with
  |opq=>exact absurd aa (by rw[d_9];omega)
  |dct ai ah=>exact absurd aa (by rw[e_0];omega)
  |non=>unfold Rep at O;subst O;obtain⟨t1,z1⟩:=w1;subst z1;unfold Rep at M;subst M;cases (show v=Value.none from w2);exact SeqAt.EqAt.int_none _ _
  |bl b2=>unfold Rep at O;subst O;obtain⟨t1,z1⟩:=w1;subst z1;unfold Rep at M;subst M;cases (show v=Value.bool _ from w2);exact SeqAt.EqAt.int_bool _ _ _
  |int b2=>unfold Rep at O;subst O;obtain⟨t1,z1⟩:=w1;subst z1;unfold Rep at M;subst M;obtain⟨t2,z2⟩:=w2;subst z2;exact Y7 _ _ _ _
  |str b2=>unfold Rep at O;subst O;obtain⟨t1,z1⟩:=w1;subst z1;unfold Rep at M;subst M;obtain⟨t2,z2⟩:=w2;subst z2;exact SeqAt.EqAt.int_str _ _ _ _
  |tup es=>unfold Rep at O;subst O;obtain⟨t1,z1⟩:=w1;subst z1;unfold Rep at M;obtain⟨p2,ae,y2,s2,q2⟩:=M;subst y2;cases (show v=Value.ref _ from w2);obtain⟨ab,ag,Y,_⟩:=I.tuple s2;exact SeqAt.EqAt.int_tuple _ _ Y hu
  |lst es=>unfold Rep at O;subst O;obtain⟨t1,z1⟩:=w1;subst z1;unfold Rep at M;obtain⟨p2,ae,y2,s2,q2⟩:=M;subst y2;cases (show v=Value.ref _ from w2);obtain⟨ab,ag,Y,_⟩:=I.list s2;have Y:=Y.isList;exact SeqAt.EqAt.int_list _ _ Y hu
 |str b1 =>
  cases e with
  |opq=>exact absurd aa (by rw[d_9];omega)
  |dct ai ah=>exact absurd aa (by rw[e_0];omega)
  |non=>unfold Rep at O;subst O;obtain⟨t1,z1⟩:=w1;subst z1;unfold Rep at M;subst M;cases (show v=Value.none from w2);exact SeqAt.EqAt.str_none _ _
  |bl b2=>unfold Rep at O;subst O;obtain⟨t1,z1⟩:=w1;subst z1;unfold Rep at M;subst M;cases (show v=Value.bool _ from w2);exact SeqAt.EqAt.str_bool _ _ _
  |int b2=>unfold Rep at O;subst O;obtain⟨t1,z1⟩:=w1;subst z1;unfold Rep at M;subst M;obtain⟨t2,z2⟩:=w2;subst z2;exact SeqAt.EqAt.str_int _ _ _ _
  |str b2=>unfold Rep at O;subst O;obtain⟨t1,z1⟩:=w1;subst z1;unfold Rep at M;subst M;obtain⟨t2,z2⟩:=w2;subst z2;exact SeqAt.EqAt.str_str _ _ _ _
  |tup es=>unfold Rep at O;subst O;obtain⟨t1,z1⟩:=w1;subst z1;unfold Rep at M;obtain⟨p2,ae,y2,s2,q2⟩:=M;subst y2;cases (show v=Value.ref _ from w2);obtain⟨ab,ag,Y,_⟩:=I.tuple s2;exact SeqAt.EqAt.str_tuple _ _ Y hu
  |lst es=>unfold Rep at O;subst O;obtain⟨t1,z1⟩:=w1;subst z1;unfold Rep at M;obtain⟨p2,ae,y2,s2,q2⟩:=M;subst y2;cases (show v=Value.ref _ from w2);obtain⟨ab,ag,Y,_⟩:=I.list s2;have Y:=Y.isList;exact SeqAt.EqAt.str_list _ _ Y hu
 |tup ds =>
  cases e with
  |opq=>exact absurd aa (by rw[d_9];omega)
  |dct ai ah=>exact absurd aa (by rw[e_0];omega)
  |non=>unfold Rep at O;obtain⟨p1,ad,y1,s1,q1⟩:=O;subst y1;cases (show u=Value.ref _ from w1);obtain⟨ac,af,Z,_⟩:=I.tuple s1;unfold Rep at M;subst M;cases (show v=Value.none from w2);exact SeqAt.EqAt.tuple_none Z hu
  |bl b2=>unfold Rep at O;obtain⟨p1,ad,y1,s1,q1⟩:=O;subst y1;cases (show u=Value.ref _ from w1);obtain⟨ac,af,Z,_⟩:=I.tuple s1;unfold Rep at M;subst M;cases (show v=Value.bool _ from w2);exact SeqAt.EqAt.tuple_bool _ Z hu
  |int b2=>unfold Rep at O;obtain⟨p1,ad,y1,s1,q1⟩:=O;subst y1;cases (show u=Value.ref _ from w1);obtain⟨ac,af,Z,_⟩:=I.tuple s1;unfold Rep at M;subst M;obtain⟨t2,z2⟩:=w2;subst z2;exact SeqAt.EqAt.tuple_int _ _ Z hu
  |str b2=>unfold Rep at O;obtain⟨p1,ad,y1,s1,q1⟩:=O;subst y1;cases (show u=Value.ref _ from w1);obtain⟨ac,af,Z,_⟩:=I.tuple s1;unfold Rep at M;subst M;obtain⟨t2,z2⟩:=w2;subst z2;exact SeqAt.EqAt.tuple_str _ _ Z hu
  |tup es =>
   unfold Rep at O M;obtain⟨p1,ad,y1,_⟩:=O;obtain⟨p2,ae,y2,_⟩:=M;subst y1 y2;cases (show u=Value.ref _ from w1);cases (show v=Value.ref _ from w2);by_cases h:p1=p2
   ·rw[one (by rw[h]),h];exact Jy _
   ·exact SeqAt.EqAt.of_refs h key
  |lst es=>unfold Rep at O;obtain⟨p1,ad,y1,s1,q1⟩:=O;subst y1;cases (show u=Value.ref _ from w1);obtain⟨ac,af,Z,_⟩:=I.tuple s1;unfold Rep at M;obtain⟨p2,ae,y2,s2,q2⟩:=M;subst y2;cases (show v=Value.ref _ from w2);obtain⟨ab,ag,Y,_⟩:=I.list s2;have Y:=Y.isList;exact SeqAt.EqAt.tuple_list Z Y hu
 |lst ds =>
  cases e with
  |opq=>exact absurd aa (by rw[d_9];omega)
  |dct ai ah=>exact absurd aa (by rw[e_0];omega)
  |non=>unfold Rep at O;obtain⟨p1,ad,y1,s1,q1⟩:=O;subst y1;cases (show u=Value.ref _ from w1);obtain⟨ac,af,Z,_⟩:=I.list s1;have Z:=Z.isList;unfold Rep at M;subst M;cases (show v=Value.none from w2);exact SeqAt.EqAt.list_none Z hu
  |bl b2=>unfold Rep at O;obtain⟨p1,ad,y1,s1,q1⟩:=O;subst y1;cases (show u=Value.ref _ from w1);obtain⟨ac,af,Z,_⟩:=I.list s1;have Z:=Z.isList;unfold Rep at M;subst M;cases (show v=Value.bool _ from w2);exact SeqAt.EqAt.list_bool _ Z hu
  |int b2=>unfold Rep at O;obtain⟨p1,ad,y1,s1,q1⟩:=O;subst y1;cases (show u=Value.ref _ from w1);obtain⟨ac,af,Z,_⟩:=I.list s1;have Z:=Z.isList;unfold Rep at M;subst M;obtain⟨t2,z2⟩:=w2;subst z2;exact SeqAt.EqAt.list_int _ _ Z hu
  |str b2=>unfold Rep at O;obtain⟨p1,ad,y1,s1,q1⟩:=O;subst y1;cases (show u=Value.ref _ from w1);obtain⟨ac,af,Z,_⟩:=I.list s1;have Z:=Z.isList;unfold Rep at M;subst M;obtain⟨t2,z2⟩:=w2;subst z2;exact SeqAt.EqAt.list_str _ _ Z hu
  |tup es=>unfold Rep at O;obtain⟨p1,ad,y1,s1,q1⟩:=O;subst y1;cases (show u=Value.ref _ from w1);obtain⟨ac,af,Z,_⟩:=I.list s1;have Z:=Z.isList;unfold Rep at M;obtain⟨p2,ae,y2,s2,q2⟩:=M;subst y2;cases (show v=Value.ref _ from w2);obtain⟨ab,ag,Y,_⟩:=I.tuple s2;exact SeqAt.EqAt.list_tuple Z Y hu
  |lst es =>
   unfold Rep at O M;obtain⟨p1,ad,y1,_⟩:=O;obtain⟨p2,ae,y2,_⟩:=M;subst y1 y2;cases (show u=Value.ref _ from w1);cases (show v=Value.ref _ from w2);by_cases h:p1=p2
   ·rw[one (by rw[h]),h];exact Jy _
   ·exact SeqAt.EqAt.of_refs h key
theorem aB7 {z:List Value}{j:Nat} (h:j<z.toArray.size):z[j]?=some z.toArray[j]:=by
 have h':j<z.length:=by simpa using h
 simp[h']
theorem T_1 {A:Around}{n:Nat} (Z:EqN X H s n) {ds es:List D}{vs Y:List V}{M its':List Value} (hn:U_8 ds<=n) (ab:U_8 ds<1000) (aa:U_8 es<1000) (hA:A.in1.units+n<cLine) (q1:Reps X.K H ds vs) (q2:Reps X.K H es Y) (rv:Vals vs M) (O:Vals Y its')
  (j:Nat) (h1:j<M.toArray.size) (h2:j<its'.toArray.size):SeqAt.EqAt A.in1 s M.toArray[j] its'.toArray[j] (eqD (ds.getD j .non) (es.getD j .non)):=by
 have l1:=q1.length;have l2:=q2.length;have m1:=rv.length;have m2:=O.length;have k1:j<ds.length:=by rw[Qb] at h1;omega
 have k2:j<es.length:=by rw[Qb] at h2;omega
 have e1:ds[j]?=some ds[j]:=by simp[k1]
 have e2:es[j]?=some es[j]:=by simp[k2]
 obtain⟨v,a1,a2⟩:=q1.get e1;obtain⟨v',b1,b2⟩:=q2.get e2;obtain⟨u,c1,c2⟩:=rv.get a1;obtain⟨u',d1,d2⟩:=O.get b1;rw[aB7 h1] at c1;rw[aB7 h2] at d1;have g1:ds.getD j .non=ds[j]:=by simp[List.getD,k1]
 have g2:es.getD j .non=es[j]:=by simp[List.getD,k2]
 rw[g1,g2,Option.some.inj c1,Option.some.inj d1];exact Z A.in1 ds[j] es[j] v v' u u' (u_6 hn e1) (by have z:=u_6 (n:=999) (by omega) e1;omega) (by have z:=u_6 (n:=999) (by omega) e2;omega) hA a2 c2 b2 d2
theorem rcS (I:Inv X pins σ H s) (n:Nat) (ih:∀ m,m<n->EqN X H s m):RcN X H s n:=by
  intro A d e x y u v hn aj ac hA Z w1 Y w2;have hu:A.units<cLine:=by omega
  cases d with
  |opq=>exact absurd aj (by rw[d_9];omega)
  |dct ai ah=>exact absurd aj (by rw[e_0];omega)
  |non =>
   cases e with
   |opq=>exact absurd ac (by rw[d_9];omega)
   |dct ai ah=>exact absurd ac (by rw[e_0];omega)
   |non=>unfold Rep at Z;subst Z;cases (show u=Value.none from w1);unfold Rep at Y;subst Y;cases (show v=Value.none from w2);exact SeqAt.RcAt.none_none
   |bl b2=>unfold Rep at Z;subst Z;cases (show u=Value.none from w1);unfold Rep at Y;subst Y;cases (show v=Value.bool _ from w2);exact SeqAt.RcAt.none_bool _
   |int b2=>unfold Rep at Z;subst Z;cases (show u=Value.none from w1);unfold Rep at Y;subst Y;obtain⟨t2,z2⟩:=w2;subst z2;exact SeqAt.RcAt.none_int _ _
   |str b2=>unfold Rep at Z;subst Z;cases (show u=Value.none from w1);unfold Rep at Y;subst Y;obtain⟨t2,z2⟩:=w2;subst z2;exact SeqAt.RcAt.none_str _ _
   |tup es=>unfold Rep at Z;subst Z;cases (show u=Value.none from w1);unfold Rep at Y;obtain⟨p2,ag,y2,s2,q2⟩:=Y;subst y2;cases (show v=Value.ref _ from w2);obtain⟨aa,ae,M,_⟩:=I.tuple s2;exact SeqAt.RcAt.none_tuple M hu
   |lst es=>unfold Rep at Z;subst Z;cases (show u=Value.none from w1);unfold Rep at Y;obtain⟨p2,ag,y2,s2,q2⟩:=Y;subst y2;cases (show v=Value.ref _ from w2);obtain⟨aa,ae,M,_⟩:=I.list s2;have M:=M.isList;exact SeqAt.RcAt.none_list M hu
  |bl b1 =>
   cases e with
   |opq=>exact absurd ac (by rw[d_9];omega)
   |dct ai ah=>exact absurd ac (by rw[e_0];omega)
   |non=>unfold Rep at Z;subst Z;cases (show u=Value.bool _ from w1);unfold Rep at Y;subst Y;cases (show v=Value.none from w2);exact SeqAt.RcAt.bool_none _
   |bl b2=>unfold Rep at Z;subst Z;cases (show u=Value.bool _ from w1);unfold Rep at Y;subst Y;cases (show v=Value.bool _ from w2);exact SeqAt.RcAt.bool_bool _ _
   |int b2=>unfold Rep at Z;subst Z;cases (show u=Value.bool _ from w1);unfold Rep at Y;subst Y;obtain⟨t2,z2⟩:=w2;subst z2;exact SeqAt.RcAt.bool_int _ _ _
   |str b2=>unfold Rep at Z;subst Z;cases (show u=Value.bool _ from w1);unfold Rep at Y;subst Y;obtain⟨t2,z2⟩:=w2;subst z2;exact SeqAt.RcAt.bool_str _ _ _
   |tup es=>unfold Rep at Z;subst Z;cases (show u=Value.bool _ from w1);unfold Rep at Y;obtain⟨p2,ag,y2,s2,q2⟩:=Y;subst y2;cases (show v=Value.ref _ from w2);obtain⟨aa,ae,M,_⟩:=I.tuple s2;exact SeqAt.RcAt.bool_tuple _ M hu
   |lst es=>unfold Rep at Z;subst Z;cases (show u=Value.bool _ from w1);unfold Rep at Y;obtain⟨p2,ag,y2,s2,q2⟩:=Y;subst y2;cases (show v=Value.ref _ from w2);obtain⟨aa,ae,M,_⟩:=I.list s2;have M:=M.isList;exact SeqAt.RcAt.bool_list _ M hu
  |int b1 =>
   cases e with
   |opq=>exact absurd ac (by rw[d_9];omega)
   |dct ai ah=>exact absurd ac (by rw[e_0];omega)
   |non=>unfold Rep at Z;subst Z;obtain⟨t1,z1⟩:=w1;subst z1;unfold Rep at Y;subst Y;cases (show v=Value.none from w2);exact SeqAt.RcAt.int_none _ _
   |bl b2=>unfold Rep at Z;subst Z;obtain⟨t1,z1⟩:=w1;subst z1;unfold Rep at Y;subst Y;cases (show v=Value.bool _ from w2);exact SeqAt.RcAt.int_bool _ _ _
   |int b2=>unfold Rep at Z;subst Z;obtain⟨t1,z1⟩:=w1;subst z1;unfold Rep at Y;subst Y;obtain⟨t2,z2⟩:=w2;subst z2;exact SeqAt.RcAt.int_int _ _ _ _
   |str b2=>unfold Rep at Z;subst Z;obtain⟨t1,z1⟩:=w1;subst z1;unfold Rep at Y;subst Y;obtain⟨t2,z2⟩:=w2;subst z2;exact SeqAt.RcAt.int_str _ _ _ _
   |tup es=>unfold Rep at Z;subst Z;obtain⟨t1,z1⟩:=w1;subst z1;unfold Rep at Y;obtain⟨p2,ag,y2,s2,q2⟩:=Y;subst y2;cases (show v=Value.ref _ from w2);obtain⟨aa,ae,M,_⟩:=I.tuple s2;exact SeqAt.RcAt.int_tuple _ _ M hu
   |lst es=>unfold Rep at Z;subst Z;obtain⟨t1,z1⟩:=w1;subst z1;unfold Rep at Y;obtain⟨p2,ag,y2,s2,q2⟩:=Y;subst y2;cases (show v=Value.ref _ from w2);obtain⟨aa,ae,M,_⟩:=I.list s2;have M:=M.isList;exact SeqAt.RcAt.int_list _ _ M hu
  |str b1 =>
   cases e with
   |opq=>exact absurd ac (by rw[d_9];omega)
   |dct ai ah=>exact absurd ac (by rw[e_0];omega)
   |non=>unfold Rep at Z;subst Z;obtain⟨t1,z1⟩:=w1;subst z1;unfold Rep at Y;subst Y;cases (show v=Value.none from w2);exact SeqAt.RcAt.str_none _ _
   |bl b2=>unfold Rep at Z;subst Z;obtain⟨t1,z1⟩:=w1;subst z1;unfold Rep at Y;subst Y;cases (show v=Value.bool _ from w2);exact SeqAt.RcAt.str_bool _ _ _
   |int b2=>unfold Rep at Z;subst Z;obtain⟨t1,z1⟩:=w1;subst z1;unfold Rep at Y;subst Y;obtain⟨t2,z2⟩:=w2;subst z2;exact SeqAt.RcAt.str_int _ _ _ _
   |str b2=>unfold Rep at Z;subst Z;obtain⟨t1,z1⟩:=w1;subst z1;unfold Rep at Y;subst Y;obtain⟨t2,z2⟩:=w2;subst z2;exact SeqAt.RcAt.str_str _ _ _ _
   |tup es=>unfold Rep at Z;subst Z;obtain⟨t1,z1⟩:=w1;subst z1;unfold Rep at Y;obtain⟨p2,ag,y2,s2,q2⟩:=Y;subst y2;cases (show v=Value.ref _ from w2);obtain⟨aa,ae,M,_⟩:=I.tuple s2;exact SeqAt.RcAt.str_tuple _ _ M hu
   |lst es=>unfold Rep at Z;subst Z;obtain⟨t1,z1⟩:=w1;subst z1;unfold Rep at Y;obtain⟨p2,ag,y2,s2,q2⟩:=Y;subst y2;cases (show v=Value.ref _ from w2);obtain⟨aa,ae,M,_⟩:=I.list s2;have M:=M.isList;exact SeqAt.RcAt.str_list _ _ M hu
  |tup ds =>
   cases e with
   |opq=>exact absurd ac (by rw[d_9];omega)
   |dct ai ah=>exact absurd ac (by rw[e_0];omega)
   |non=>unfold Rep at Z;obtain⟨p1,af,y1,s1,q1⟩:=Z;subst y1;cases (show u=Value.ref _ from w1);obtain⟨ab,ad,O,_⟩:=I.tuple s1;unfold Rep at Y;subst Y;cases (show v=Value.none from w2);exact SeqAt.RcAt.tuple_none O hu
   |bl b2=>unfold Rep at Z;obtain⟨p1,af,y1,s1,q1⟩:=Z;subst y1;cases (show u=Value.ref _ from w1);obtain⟨ab,ad,O,_⟩:=I.tuple s1;unfold Rep at Y;subst Y;cases (show v=Value.bool _ from w2);exact SeqAt.RcAt.tuple_bool _ O hu
   |int b2=>unfold Rep at Z;obtain⟨p1,af,y1,s1,q1⟩:=Z;subst y1;cases (show u=Value.ref _ from w1);obtain⟨ab,ad,O,_⟩:=I.tuple s1;unfold Rep at Y;subst Y;obtain⟨t2,z2⟩:=w2;subst z2;exact SeqAt.RcAt.tuple_int _ _ O hu
   |str b2=>unfold Rep at Z;obtain⟨p1,af,y1,s1,q1⟩:=Z;subst y1;cases (show u=Value.ref _ from w1);obtain⟨ab,ad,O,_⟩:=I.tuple s1;unfold Rep at Y;subst Y;obtain⟨t2,z2⟩:=w2;subst z2;exact SeqAt.RcAt.tuple_str _ _ O hu
   |tup es =>
     rw[m_9] at hn;unfold Rep at Z;obtain⟨p1,af,y1,s1,q1⟩:=Z;subst y1;cases (show u=Value.ref _ from w1);obtain⟨ab,ad,O,_⟩:=I.tuple s1;unfold Rep at Y;obtain⟨p2,ag,y2,s2,q2⟩:=Y;subst y2;cases (show v=Value.ref _ from w2);obtain⟨aa,ae,M,_⟩:=I.tuple s2;have hi:A.in1.units+(n-1)<cLine:=by show A.units+1+(n-1)<cLine;omega
     have z:=SeqAt.RcAt.tuples (e:=λ j=>eqD (ds.getD j .non) (es.getD j .non)) O M hu (T_1 (A:=A) (ih (n-1) (by omega)) (by omega) (by first | (rw[m_9] at aj;omega) | (rw[n_0] at aj;omega)) (by first | (rw[m_9] at ac;omega) | (rw[n_0] at ac;omega)) hi q1 q2 ad ae);rw[Qb,Qb,<- ad.length,<- ae.length,<- q1.length,<- q2.length] at z;rw[eqD,y_7];exact z
   |lst es=>unfold Rep at Z;obtain⟨p1,af,y1,s1,q1⟩:=Z;subst y1;cases (show u=Value.ref _ from w1);obtain⟨ab,ad,O,_⟩:=I.tuple s1;unfold Rep at Y;obtain⟨p2,ag,y2,s2,q2⟩:=Y;subst y2;cases (show v=Value.ref _ from w2);obtain⟨aa,ae,M,_⟩:=I.list s2;have M:=M.isList;exact SeqAt.RcAt.tuple_list O M hu
  |lst ds =>
   cases e with
   |opq=>exact absurd ac (by rw[d_9];omega)
   |dct ai ah=>exact absurd ac (by rw[e_0];omega)
   |non=>unfold Rep at Z;obtain⟨p1,af,y1,s1,q1⟩:=Z;subst y1;cases (show u=Value.ref _ from w1);obtain⟨ab,ad,O,_⟩:=I.list s1;have O:=O.isList;unfold Rep at Y;subst Y;cases (show v=Value.none from w2);exact SeqAt.RcAt.list_none O hu
   |bl b2=>unfold Rep at Z;obtain⟨p1,af,y1,s1,q1⟩:=Z;subst y1;cases (show u=Value.ref _ from w1);obtain⟨ab,ad,O,_⟩:=I.list s1;have O:=O.isList;unfold Rep at Y;subst Y;cases (show v=Value.bool _ from w2);exact SeqAt.RcAt.list_bool _ O hu
   |int b2=>unfold Rep at Z;obtain⟨p1,af,y1,s1,q1⟩:=Z;subst y1;cases (show u=Value.ref _ from w1);obtain⟨ab,ad,O,_⟩:=I.list s1;have O:=O.isList;unfold Rep at Y;subst Y;obtain⟨t2,z2⟩:=w2;subst z2;exact SeqAt.RcAt.list_int _ _ O hu
   |str b2=>unfold Rep at Z;obtain⟨p1,af,y1,s1,q1⟩:=Z;subst y1;cases (show u=Value.ref _ from w1);obtain⟨ab,ad,O,_⟩:=I.list s1;have O:=O.isList;unfold Rep at Y;subst Y;obtain⟨t2,z2⟩:=w2;subst z2;exact SeqAt.RcAt.list_str _ _ O hu
   |tup es=>unfold Rep at Z;obtain⟨p1,af,y1,s1,q1⟩:=Z;subst y1;cases (show u=Value.ref _ from w1);obtain⟨ab,ad,O,_⟩:=I.list s1;have O:=O.isList;unfold Rep at Y;obtain⟨p2,ag,y2,s2,q2⟩:=Y;subst y2;cases (show v=Value.ref _ from w2);obtain⟨aa,ae,M,_⟩:=I.tuple s2;exact SeqAt.RcAt.list_tuple O M hu
   |lst es =>
     rw[n_0] at hn;unfold Rep at Z;obtain⟨p1,af,y1,s1,q1⟩:=Z;subst y1;cases (show u=Value.ref _ from w1);obtain⟨ab,ad,O,_⟩:=I.list s1;have O:=O.isList;unfold Rep at Y;obtain⟨p2,ag,y2,s2,q2⟩:=Y;subst y2;cases (show v=Value.ref _ from w2);obtain⟨aa,ae,M,_⟩:=I.list s2;have M:=M.isList;have hi:A.in1.units+(n-1)<cLine:=by show A.units+1+(n-1)<cLine;omega
     have l1:ab.toArray.size=ds.length:=by rw[Qb,<- ad.length,<- q1.length]
     have l2:aa.toArray.size=es.length:=by rw[Qb,<- ae.length,<- q2.length]
     rw[eqD,y_7];by_cases hl:ds.length=es.length
     ·have z:=SeqAt.RcAt.lists (e:=λ j=>eqD (ds.getD j .non) (es.getD j .non)) O M (by rw[l1,l2];exact hl) hu (T_1 (A:=A) (ih (n-1) (by omega)) (by omega) (by first | (rw[m_9] at aj;omega) | (rw[n_0] at aj;omega)) (by first | (rw[m_9] at ac;omega) | (rw[n_0] at ac;omega)) hi q1 q2 ad ae);rw[l1] at z;rw[show min ds.length es.length=ds.length by omega,show (ds.length==es.length)=true by simp[hl],Bool.and_true];exact z
     ·rw[show (ds.length==es.length)=false by simp[hl],Bool.and_false];exact SeqAt.RcAt.lists_lengths O M (by rw[l1,l2];simp[hl]) hu
theorem Z_2 (I:Inv X pins σ H s) (n:Nat):EqN X H s n:=by
 induction n using Nat.strongRecOn with
 |ind n z=>exact br2 I (rcS I n z)
theorem rcN (I:Inv X pins σ H s) (n:Nat):RcN X H s n:=rcS I n λ m _=>Z_2 I m
def bK9 (K:Frag):R2:=λ x y H Q=>∃ d e,Rep K H d x/\Rep K H e y/\dpD d<=30/\dpD e<=30/\Q (.bl (eqD d e)) H
theorem bn1 (hu:X.A.units+64<cLine):OpR X (compareOp .Eq) (bK9 X.K):=by intro pins s σ H x y v u Q I z M h;obtain⟨d,e,O,Z,hd,Y,q⟩:=h;exact rcN I 30 X.A d e x y v u hd (by omega) (by omega) (by omega) O z Z M X.prog X.w X.xe _ ⟨.bl _,H,I,rfl,q⟩
theorem bE8 {K:Frag}:OpD K (bK9 K) dEq:=λ c H0 H ρ σ x y d Y Z Q R M O e q=>by
 unfold dEq at e;split at e
 ·rename_i z;cases e;exact⟨x,y,Rep.mono R.same x M,Rep.mono R.same y O,z.1,z.2,q _ H0 H (Same.refl _) R (z_5 _ _)⟩
 ·cases e
theorem cEq (z:X.A.units+64<cLine):E_6 X .Eq dEq:=⟨_,bn1 z,bE8⟩
theorem neN (I:Inv X pins σ H s) (n:Nat) (A:Around) (d e:D) (x y:V) (u v:Value) (hn:dpD d<=n) (aj:dpD d<1000) (ac:dpD e<1000) (hA:A.units+n<cLine) (Z:Rep X.K H d x) (w1:RelV x u) (Y:Rep X.K H e y) (w2:RelV y v):SeqAt.RcNeAt A s u v (!eqD d e):=by
  have hu:A.units<cLine:=by omega
  cases d with
  |opq=>exact absurd aj (by rw[d_9];omega)
  |dct ai ah=>exact absurd aj (by rw[e_0];omega)
  |non =>
   cases e with
   |opq=>exact absurd ac (by rw[d_9];omega)
   |dct ai ah=>exact absurd ac (by rw[e_0];omega)
   |non=>unfold Rep at Z;subst Z;cases (show u=Value.none from w1);unfold Rep at Y;subst Y;cases (show v=Value.none from w2);exact SeqAt.RcNeAt.none_none
   |bl b2=>unfold Rep at Z;subst Z;cases (show u=Value.none from w1);unfold Rep at Y;subst Y;cases (show v=Value.bool _ from w2);exact SeqAt.RcNeAt.none_bool _
   |int b2=>unfold Rep at Z;subst Z;cases (show u=Value.none from w1);unfold Rep at Y;subst Y;obtain⟨t2,z2⟩:=w2;subst z2;exact SeqAt.RcNeAt.none_int _ _
   |str b2=>unfold Rep at Z;subst Z;cases (show u=Value.none from w1);unfold Rep at Y;subst Y;obtain⟨t2,z2⟩:=w2;subst z2;exact SeqAt.RcNeAt.none_str _ _
   |tup es=>unfold Rep at Z;subst Z;cases (show u=Value.none from w1);unfold Rep at Y;obtain⟨p2,ag,y2,s2,q2⟩:=Y;subst y2;cases (show v=Value.ref _ from w2);obtain⟨aa,ae,M,_⟩:=I.tuple s2;exact SeqAt.RcNeAt.none_tuple M hu
   |lst es=>unfold Rep at Z;subst Z;cases (show u=Value.none from w1);unfold Rep at Y;obtain⟨p2,ag,y2,s2,q2⟩:=Y;subst y2;cases (show v=Value.ref _ from w2);obtain⟨aa,ae,M,_⟩:=I.list s2;have M:=M.isList;exact SeqAt.RcNeAt.none_list M hu
  |bl b1 =>
   cases e with
   |opq=>exact absurd ac (by rw[d_9];omega)
   |dct ai ah=>exact absurd ac (by rw[e_0];omega)
   |non=>unfold Rep at Z;subst Z;cases (show u=Value.bool _ from w1);unfold Rep at Y;subst Y;cases (show v=Value.none from w2);exact SeqAt.RcNeAt.bool_none _
   |bl b2=>unfold Rep at Z;subst Z;cases (show u=Value.bool _ from w1);unfold Rep at Y;subst Y;cases (show v=Value.bool _ from w2);exact SeqAt.RcNeAt.bool_bool _ _
   |int b2=>unfold Rep at Z;subst Z;cases (show u=Value.bool _ from w1);unfold Rep at Y;subst Y;obtain⟨t2,z2⟩:=w2;subst z2;exact SeqAt.RcNeAt.bool_int _ _ _
   |str b2=>unfold Rep at Z;subst Z;cases (show u=Value.bool _ from w1);unfold Rep at Y;subst Y;obtain⟨t2,z2⟩:=w2;subst z2;exact SeqAt.RcNeAt.bool_str _ _ _
   |tup es=>unfold Rep at Z;subst Z;cases (show u=Value.bool _ from w1);unfold Rep at Y;obtain⟨p2,ag,y2,s2,q2⟩:=Y;subst y2;cases (show v=Value.ref _ from w2);obtain⟨aa,ae,M,_⟩:=I.tuple s2;exact SeqAt.RcNeAt.bool_tuple _ M hu
   |lst es=>unfold Rep at Z;subst Z;cases (show u=Value.bool _ from w1);unfold Rep at Y;obtain⟨p2,ag,y2,s2,q2⟩:=Y;subst y2;cases (show v=Value.ref _ from w2);obtain⟨aa,ae,M,_⟩:=I.list s2;have M:=M.isList;exact SeqAt.RcNeAt.bool_list _ M hu
  |int b1 =>
   cases e with
   |opq=>exact absurd ac (by rw[d_9];omega)
   |dct ai ah=>exact absurd ac (by rw[e_0];omega)
   |non=>unfold Rep at Z;subst Z;obtain⟨t1,z1⟩:=w1;subst z1;unfold Rep at Y;subst Y;cases (show v=Value.none from w2);exact SeqAt.RcNeAt.int_none _ _
   |bl b2=>unfold Rep at Z;subst Z;obtain⟨t1,z1⟩:=w1;subst z1;unfold Rep at Y;subst Y;cases (show v=Value.bool _ from w2);exact SeqAt.RcNeAt.int_bool _ _ _
   |int b2=>unfold Rep at Z;subst Z;obtain⟨t1,z1⟩:=w1;subst z1;unfold Rep at Y;subst Y;obtain⟨t2,z2⟩:=w2;subst z2;exact SeqAt.RcNeAt.int_int _ _ _ _
   |str b2=>unfold Rep at Z;subst Z;obtain⟨t1,z1⟩:=w1;subst z1;unfold Rep at Y;subst Y;obtain⟨t2,z2⟩:=w2;subst z2;exact SeqAt.RcNeAt.int_str _ _ _ _
   |tup es=>unfold Rep at Z;subst Z;obtain⟨t1,z1⟩:=w1;subst z1;unfold Rep at Y;obtain⟨p2,ag,y2,s2,q2⟩:=Y;subst y2;cases (show v=Value.ref _ from w2);obtain⟨aa,ae,M,_⟩:=I.tuple s2;exact SeqAt.RcNeAt.int_tuple _ _ M hu
   |lst es=>unfold Rep at Z;subst Z;obtain⟨t1,z1⟩:=w1;subst z1;unfold Rep at Y;obtain⟨p2,ag,y2,s2,q2⟩:=Y;subst y2;cases (show v=Value.ref _ from w2);obtain⟨aa,ae,M,_⟩:=I.list s2;have M:=M.isList;exact SeqAt.RcNeAt.int_list _ _ M hu
  |str b1 =>
   cases e with
   |opq=>exact absurd ac (by rw[d_9];omega)
   |dct ai ah=>exact absurd ac (by rw[e_0];omega)
   |non=>unfold Rep at Z;subst Z;obtain⟨t1,z1⟩:=w1;subst z1;unfold Rep at Y;subst Y;cases (show v=Value.none from w2);exact SeqAt.RcNeAt.str_none _ _
   |bl b2=>unfold Rep at Z;subst Z;obtain⟨t1,z1⟩:=w1;subst z1;unfold Rep at Y;subst Y;cases (show v=Value.bool _ from w2);exact SeqAt.RcNeAt.str_bool _ _ _
   |int b2=>unfold Rep at Z;subst Z;obtain⟨t1,z1⟩:=w1;subst z1;unfold Rep at Y;subst Y;obtain⟨t2,z2⟩:=w2;subst z2;exact SeqAt.RcNeAt.str_int _ _ _ _
   |str b2=>unfold Rep at Z;subst Z;obtain⟨t1,z1⟩:=w1;subst z1;unfold Rep at Y;subst Y;obtain⟨t2,z2⟩:=w2;subst z2;exact SeqAt.RcNeAt.str_str _ _ _ _
   |tup es=>unfold Rep at Z;subst Z;obtain⟨t1,z1⟩:=w1;subst z1;unfold Rep at Y;obtain⟨p2,ag,y2,s2,q2⟩:=Y;subst y2;cases (show v=Value.ref _ from w2);obtain⟨aa,ae,M,_⟩:=I.tuple s2;exact SeqAt.RcNeAt.str_tuple _ _ M hu
   |lst es=>unfold Rep at Z;subst Z;obtain⟨t1,z1⟩:=w1;subst z1;unfold Rep at Y;obtain⟨p2,ag,y2,s2,q2⟩:=Y;subst y2;cases (show v=Value.ref _ from w2);obtain⟨aa,ae,M,_⟩:=I.list s2;have M:=M.isList;exact SeqAt.RcNeAt.str_list _ _ M hu
  |tup ds =>
   cases e with
   |opq=>exact absurd ac (by rw[d_9];omega)
   |dct ai ah=>exact absurd ac (by rw[e_0];omega)
   |non=>unfold Rep at Z;obtain⟨p1,af,y1,s1,q1⟩:=Z;subst y1;cases (show u=Value.ref _ from w1);obtain⟨ab,ad,O,_⟩:=I.tuple s1;unfold Rep at Y;subst Y;cases (show v=Value.none from w2);exact SeqAt.RcNeAt.tuple_none O hu
   |bl b2=>unfold Rep at Z;obtain⟨p1,af,y1,s1,q1⟩:=Z;subst y1;cases (show u=Value.ref _ from w1);obtain⟨ab,ad,O,_⟩:=I.tuple s1;unfold Rep at Y;subst Y;cases (show v=Value.bool _ from w2);exact SeqAt.RcNeAt.tuple_bool _ O hu
   |int b2=>unfold Rep at Z;obtain⟨p1,af,y1,s1,q1⟩:=Z;subst y1;cases (show u=Value.ref _ from w1);obtain⟨ab,ad,O,_⟩:=I.tuple s1;unfold Rep at Y;subst Y;obtain⟨t2,z2⟩:=w2;subst z2;exact SeqAt.RcNeAt.tuple_int _ _ O hu
   |str b2=>unfold Rep at Z;obtain⟨p1,af,y1,s1,q1⟩:=Z;subst y1;cases (show u=Value.ref _ from w1);obtain⟨ab,ad,O,_⟩:=I.tuple s1;unfold Rep at Y;subst Y;obtain⟨t2,z2⟩:=w2;subst z2;exact SeqAt.RcNeAt.tuple_str _ _ O hu
   |tup es =>
     rw[m_9] at hn;unfold Rep at Z;obtain⟨p1,af,y1,s1,q1⟩:=Z;subst y1;cases (show u=Value.ref _ from w1);obtain⟨ab,ad,O,_⟩:=I.tuple s1;unfold Rep at Y;obtain⟨p2,ag,y2,s2,q2⟩:=Y;subst y2;cases (show v=Value.ref _ from w2);obtain⟨aa,ae,M,_⟩:=I.tuple s2;have hi:A.in1.units+(n-1)<cLine:=by show A.units+1+(n-1)<cLine;omega
     have z:=SeqAt.RcNeAt.tuples (e:=λ j=>eqD (ds.getD j .non) (es.getD j .non)) O M hu (T_1 (A:=A) (Z_2 I (n-1)) (by omega) (by first | (rw[m_9] at aj;omega) | (rw[n_0] at aj;omega)) (by first | (rw[m_9] at ac;omega) | (rw[n_0] at ac;omega)) hi q1 q2 ad ae);rw[Qb,Qb,<- ad.length,<- ae.length,<- q1.length,<- q2.length] at z;rw[eqD,y_7];exact z
   |lst es=>unfold Rep at Z;obtain⟨p1,af,y1,s1,q1⟩:=Z;subst y1;cases (show u=Value.ref _ from w1);obtain⟨ab,ad,O,_⟩:=I.tuple s1;unfold Rep at Y;obtain⟨p2,ag,y2,s2,q2⟩:=Y;subst y2;cases (show v=Value.ref _ from w2);obtain⟨aa,ae,M,_⟩:=I.list s2;have M:=M.isList;exact SeqAt.RcNeAt.tuple_list O M hu
  |lst ds =>
   cases e with
   |opq=>exact absurd ac (by rw[d_9];omega)
   |dct ai ah=>exact absurd ac (by rw[e_0];omega)
   |non=>unfold Rep at Z;obtain⟨p1,af,y1,s1,q1⟩:=Z;subst y1;cases (show u=Value.ref _ from w1);obtain⟨ab,ad,O,_⟩:=I.list s1;have O:=O.isList;unfold Rep at Y;subst Y;cases (show v=Value.none from w2);exact SeqAt.RcNeAt.list_none O hu
   |bl b2=>unfold Rep at Z;obtain⟨p1,af,y1,s1,q1⟩:=Z;subst y1;cases (show u=Value.ref _ from w1);obtain⟨ab,ad,O,_⟩:=I.list s1;have O:=O.isList;unfold Rep at Y;subst Y;cases (show v=Value.bool _ from w2);exact SeqAt.RcNeAt.list_bool _ O hu
   |int b2=>unfold Rep at Z;obtain⟨p1,af,y1,s1,q1⟩:=Z;subst y1;cases (show u=Value.ref _ from w1);obtain⟨ab,ad,O,_⟩:=I.list s1;have O:=O.isList;unfold Rep at Y;subst Y;obtain⟨t2,z2⟩:=w2;subst z2;exact SeqAt.RcNeAt.list_int _ _ O hu
   |str b2=>unfold Rep at Z;obtain⟨p1,af,y1,s1,q1⟩:=Z;subst y1;cases (show u=Value.ref _ from w1);obtain⟨ab,ad,O,_⟩:=I.list s1;have O:=O.isList;unfold Rep at Y;subst Y;obtain⟨t2,z2⟩:=w2;subst z2;exact SeqAt.RcNeAt.list_str _ _ O hu
   |tup es=>unfold Rep at Z;obtain⟨p1,af,y1,s1,q1⟩:=Z;subst y1;cases (show u=Value.ref _ from w1);obtain⟨ab,ad,O,_⟩:=I.list s1;have O:=O.isList;unfold Rep at Y;obtain⟨p2,ag,y2,s2,q2⟩:=Y;subst y2;cases (show v=Value.ref _ from w2);obtain⟨aa,ae,M,_⟩:=I.tuple s2;exact SeqAt.RcNeAt.list_tuple O M hu
   |lst es =>
     rw[n_0] at hn;unfold Rep at Z;obtain⟨p1,af,y1,s1,q1⟩:=Z;subst y1;cases (show u=Value.ref _ from w1);obtain⟨ab,ad,O,_⟩:=I.list s1;have O:=O.isList;unfold Rep at Y;obtain⟨p2,ag,y2,s2,q2⟩:=Y;subst y2;cases (show v=Value.ref _ from w2);obtain⟨aa,ae,M,_⟩:=I.list s2;have M:=M.isList;have hi:A.in1.units+(n-1)<cLine:=by show A.units+1+(n-1)<cLine;omega
     have l1:ab.toArray.size=ds.length:=by rw[Qb,<- ad.length,<- q1.length]
     have l2:aa.toArray.size=es.length:=by rw[Qb,<- ae.length,<- q2.length]
     rw[eqD,y_7];by_cases hl:ds.length=es.length
     ·have z:=SeqAt.RcNeAt.lists (e:=λ j=>eqD (ds.getD j .non) (es.getD j .non)) O M (by rw[l1,l2];exact hl) hu (T_1 (A:=A) (Z_2 I (n-1)) (by omega) (by first | (rw[m_9] at aj;omega) | (rw[n_0] at aj;omega)) (by first | (rw[m_9] at ac;omega) | (rw[n_0] at ac;omega)) hi q1 q2 ad ae);rw[l1] at z;rw[show min ds.length es.length=ds.length by omega,show (ds.length==es.length)=true by simp[hl],Bool.and_true];exact z
     ·rw[show (ds.length==es.length)=false by simp[hl],Bool.and_false];exact SeqAt.RcNeAt.lists_lengths O M (by rw[l1,l2];simp[hl]) hu
def bK6 (K:Frag):R2:=λ x y H Q=>∃ d e,Rep K H d x/\Rep K H e y/\dpD d<=30/\dpD e<=30/\Q (.bl (!eqD d e)) H
theorem bm9 (hu:X.A.units+64<cLine):OpR X (compareOp .NotEq) (bK6 X.K):=by intro pins s σ H x y v u Q I z M h;obtain⟨d,e,O,Z,hd,Y,q⟩:=h;exact neN I 30 X.A d e x y v u hd (by omega) (by omega) (by omega) O z Z M X.prog X.w X.xe _ ⟨.bl _,H,I,rfl,q⟩
theorem bC6 {K:Frag}:OpD K (bK6 K) dNe:=λ c H0 H ρ σ x y d Y Z Q R M O e q=>by
 unfold dNe at e;split at e
 ·rename_i z;cases e;exact⟨x,y,Rep.mono R.same x M,Rep.mono R.same y O,z.1,z.2,q _ H0 H (Same.refl _) R (z_5 _ _)⟩
 ·cases e
theorem cNe (z:X.A.units+64<cLine):E_6 X .NotEq dNe:=⟨_,bm9 z,bC6⟩
end
section
variable {X:Cx}
def BOk (X:Cx) (f:Value) (g:List D->Option D):Prop:=∃ r,CallR X f r/\∀ (c:FC) (H0 H:Hp) (ρ:En) (σ:L2.St) (ds:List D) (d:D) (vs:List V) (Q:VK),RS X.K c H0 H ρ σ->Reps X.K H0 ds vs->g ds=some d->Aft X.K c H0 ρ σ d Q->r vs H Q
theorem bs1 {g:List D->Option D}{A:FA}{r:List V->Hp->VK->Prop} (o:∀ (c:FC) (H0 H:Hp) (ρ:En) (σ:L2.St) (ds:List D) (d:D) (vs:List V) (Q:VK),RS X.K c H0 H ρ σ->Reps X.K H0 ds vs->g ds=some d->Aft X.K c H0 ρ σ d Q->r vs H Q)
  {σ:L2.St}{H:Hp}{Q:VK} (h:tE X.K (eF g A) σ H Q):tCB r (tAa X.K A) σ H Q:=by
 obtain⟨c,H0,ρ,d,M,R,f,q⟩:=h;unfold eF at f;obtain⟨⟨ds,z⟩,h1,f⟩:=a_1 f;obtain⟨d',h2,f⟩:=a_1 f;have f':some (d',z)=some (d,M):=f;cases f';exact⟨c,H0,ρ,ds,_,R,h1,λ vs H1 O Y R1 r1=>o c H1 O _ σ ds d vs Q R1 r1 h2 λ v H2 Hh2 Z R2 r2=>q v H2 Hh2 (Y.trans Z) R2 r2⟩
theorem xB {id:String}{g:List D → Option D}{A:FA}{x:Str}{p pos:Pos}{e:Expr}{es:List Expr} (o:BOk X (.builtin id) g) (Z:Gl X x) (hm:X.mg x=none) (hv:bootBuiltins x=some (.builtin id)) (ha:XA X (e::es) A) (Y:x≠"__name__":=by decide) (z:(x==("__debug__":Str))=false:=by decide)
  (O:starEach (e::es) X.env=(false,eval e X.env)::starEach es X.env:=by rfl) (M:(backTo pos (starEach es X.env)).any (·.1)=false:=by rfl):XE X (.Call (.Name x p) (e::es) [] pos) (eF g A):=by
 obtain⟨r,h1,h2⟩:=o;exact PE.wk (ai6 h1 Z hm hv ha Y z O M) λ σ H Q h=>bs1 h2 h
theorem Reps.v1 {K:Frag}{H:Hp}{d:D}{vs:List V} (h:Reps K H [d] vs):∃ v,vs=[v]/\Rep K H d v:=by unfold Reps at h;obtain⟨v,r,e,a,b⟩:=h;unfold Reps at b;exact⟨v,by rw[e,b],a⟩
theorem Reps.v2 {K:Frag}{H:Hp}{d d':D}{vs:List V} (h:Reps K H [d,d'] vs):∃ v z,vs=[v,z]/\Rep K H d v/\Rep K H d' z:=by unfold Reps at h;obtain⟨v,r,e,a,b⟩:=h;obtain⟨z,e',M⟩:=Reps.v1 b;exact⟨v,z,by rw[e,e'],a,M⟩
theorem aL1 {ds:List D}{d:D} (h:bd6 ds=some d):∃ i,ds=[.int i]/\d=.int (if i<0 then -i else i):=by
 unfold bd6 at h;split at h
 ·cases h;exact⟨_,rfl,rfl⟩
 ·cases h
theorem af2:BOk X (.builtin "abs") bd6:=⟨_,aK2,λ c H0 H ρ σ ds d vs Q R r e q=>by
 obtain⟨i,rfl,rfl⟩:=aL1 e;obtain⟨v,rfl,z⟩:=Reps.v1 r;unfold Rep at z;subst z;exact⟨i,rfl,q _ H0 H (Same.refl _) R (g_0 _ _)⟩⟩
theorem G_7 {K:Frag}{H:Hp}:∀ {ds:List D}{is:List Int}{vs:List V},y_2 ds=some is->Reps K H ds vs->vs=is.map V.int
 |[],_,_,e,r=>by
  have e':([]:List Int)=_:=qi e;unfold Reps at r;rw[r,<- e'];rfl
 |d::ds,_,_,e,r=>by
  cases d with
  |int i =>
   rw[K_0] at e;obtain⟨is,e1,e2⟩:=a_1 e;cases e2;unfold Reps at r;obtain⟨v,z,rfl,a,t⟩:=r;unfold Rep at a;rw[a,G_7 e1 t];rfl
  |_=>cases e
theorem Ys:∀ {is:List Int}{us:List Value},Vals (is.map V.int) us->IntsAre us is:=by
 intro is;induction is with
 |nil=>intro us h;cases h;exact .nil
 |cons b r z =>
  intro us h;cases h with
  |cons a t=>obtain⟨tk,rfl⟩:=(show ∃ t,_=Value.int b t from a);exact .cons b tk (z t)
theorem Y_0:∀ (r:List Int) (m:Int),(M_7 m r=m\/M_7 m r∈r)/\M_7 m r<=m/\∀ a∈r,M_7 m r<=a
 |[],m=>⟨.inl rfl,Qv _,λ a h=>by cases h⟩
 |x::r,m=>by
  obtain⟨h1,h2,z⟩:=Y_0 r (if x<m then x else m);rw[show M_7 m (x::r)=M_7 (if x<m then x else m) r from rfl];by_cases h:x<m
  ·rw[if_pos h] at h1 h2 z ⊢;refine⟨.inr ?_,by omega,λ a ha=>?_⟩
   ·rcases h1 with e | e
    ·rw[e];exact qg
    ·exact qh _ e
   ·rcases qw ha with rfl | ha
    ·exact h2
    ·exact z a ha
  ·rw[if_neg h] at h1 h2 z ⊢;refine⟨?_,h2,λ a ha=>?_⟩
   ·rcases h1 with e | e
    ·exact .inl e
    ·exact .inr (qh _ e)
   ·rcases qw ha with rfl | ha
    ·omega
    ·exact z a ha
theorem Y_1:∀ (r:List Int) (m:Int),(M_8 m r=m\/M_8 m r∈r)/\m<=M_8 m r/\∀ a∈r,a<=M_8 m r
 |[],m=>⟨.inl rfl,Qv _,λ a h=>by cases h⟩
 |x::r,m=>by
  obtain⟨h1,h2,z⟩:=Y_1 r (if m<x then x else m);rw[show M_8 m (x::r)=M_8 (if m<x then x else m) r from rfl];by_cases h:m<x
  ·rw[if_pos h] at h1 h2 z ⊢;refine⟨.inr ?_,by omega,λ a ha=>?_⟩
   ·rcases h1 with e | e
    ·rw[e];exact qg
    ·exact qh _ e
   ·rcases qw ha with rfl | ha
    ·exact h2
    ·exact z a ha
  ·rw[if_neg h] at h1 h2 z ⊢;refine⟨?_,h2,λ a ha=>?_⟩
   ·rcases h1 with e | e
    ·exact .inl e
    ·exact .inr (qh _ e)
   ·rcases qw ha with rfl | ha
    ·omega
    ·exact z a ha
theorem av5 {i M:Int}{r:List Int} (h:M∈i::r) (h':∀ a∈i::r,M<=a):M=M_7 i r:=by
 obtain⟨h1,h2,z⟩:=Y_0 r i;have Y:M_7 i r<=M:=by
  rcases qw h with rfl | h
  ·exact h2
  ·exact z _ h
 have O:M<=M_7 i r:=by
  rcases h1 with e | e
  ·rw[e];exact h' _ qg
  ·exact h' _ (qh _ e)
 omega
theorem av7 {i M:Int}{r:List Int} (h:M∈i::r) (h':∀ a∈i::r,a<=M):M=M_8 i r:=by
 obtain⟨h1,h2,z⟩:=Y_1 r i;have Y:M<=M_8 i r:=by
  rcases qw h with rfl | h
  ·exact h2
  ·exact z _ h
 have O:M_8 i r<=M:=by
  rcases h1 with e | e
  ·rw[e];exact h' _ qg
  ·exact h' _ (qh _ e)
 omega
theorem az6 (hc:X.calm=true):CallR X (.builtin "min") (λ xs H Q=>∃ (p:Addr) (i:Int) (r:List Int),xs=[.ref p] ∧ SqL X.K H p ((i::r).map V.int) ∧ Q (.int (M_7 i r)) H):=by
 intro pins s σ H xs us Q I r h;obtain⟨l,i,is,rfl,hl,q⟩:=h;obtain⟨u,rfl,Z⟩:=D_4 r;cases Z;obtain⟨aa,rv,pl,hz⟩:=I.list hl;have hi:=Ys rv;have Y:=pl.isList;obtain⟨ys,e⟩:=hi.allInts.items;have z:i::is=ys.toList.map (·.1):=by rw[<- hi.numsOf,<- nums_intItems,<- e]
 have M:0<ys.size:=by have O:0<(i::is).length:=Nat.succ_pos _;rw[z,Qg,Qu] at O;exact O
 rw[e] at Y;refine min_intList (I.ok.hd hc) Y M λ v h' tk hv hk=>?_;obtain⟨t,rfl⟩:=intItems_at hv;obtain⟨h1,h2⟩:=argBest_lt (numAt ys) (ys.size-1);refine⟨_,H,I.kept hk,?_,q⟩;have:numAt ys (argBest (λ i j=>decide (numAt ys i<numAt ys j)) (ys.size-1))=M_7 i is:=av5 (by rw[z,numAt_eq];exact getD_mem (by rw[Qg,Qu];omega)) λ a ha=>by
  rw[z] at ha;obtain⟨j,hj,rfl⟩:=mem_getD ha;rw[Qg,Qu] at hj;rw[<- numAt_eq];exact h2 j (by omega)
 rw[this];exact⟨_,rfl⟩
theorem az8 (hc:X.calm=true):CallR X (.builtin "max") (λ xs H Q=>∃ (p:Addr) (i:Int) (r:List Int),xs=[.ref p] ∧ SqL X.K H p ((i::r).map V.int) ∧ Q (.int (M_8 i r)) H):=by
 intro pins s σ H xs us Q I r h;obtain⟨l,i,is,rfl,hl,q⟩:=h;obtain⟨u,rfl,Z⟩:=D_4 r;cases Z;obtain⟨aa,rv,pl,hz⟩:=I.list hl;have hi:=Ys rv;have Y:=pl.isList;obtain⟨ys,e⟩:=hi.allInts.items;have z:i::is=ys.toList.map (·.1):=by rw[<- hi.numsOf,<- nums_intItems,<- e]
 have M:0<ys.size:=by have O:0<(i::is).length:=Nat.succ_pos _;rw[z,Qg,Qu] at O;exact O
 rw[e] at Y;refine max_intList (I.ok.hd hc) Y M λ v h' tk hv hk=>?_;obtain⟨t,rfl⟩:=intItems_at hv;obtain⟨h1,h2⟩:=argBest_gt (numAt ys) (ys.size-1);refine⟨_,H,I.kept hk,?_,q⟩;have:numAt ys (argBest (λ i j=>decide (numAt ys i > numAt ys j)) (ys.size-1))=M_8 i is:=av7 (by rw[z,numAt_eq];exact getD_mem (by rw[Qg,Qu];omega)) λ a ha=>by
  rw[z] at ha;obtain⟨j,hj,rfl⟩:=mem_getD ha;rw[Qg,Qu] at hj;rw[<- numAt_eq];exact h2 j (by omega)
 rw[this];exact⟨_,rfl⟩
theorem CallR.or {X:Cx}{f:Value}{r M:List V->Hp->VK->Prop} (h:CallR X f r) (h':CallR X f M):CallR X f (λ xs H Q=>r xs H Q\/M xs H Q) :=
 λ pins s σ H xs us Q I v z=>z.elim (λ a=>h pins s σ H xs us Q I v a) (λ a=>h' pins s σ H xs us Q I v a)
theorem aa8 {f:Int->List Int->Int}{is:List Int}{d:D} (h:aB0 f is=some d):∃ i r,is=i::r/\d=.int (f i r):=by
 cases is with
 |nil=>cases h
 |cons i r=>cases h;exact⟨i,r,rfl,rfl⟩
theorem E_4 (z:X.calm=true):BOk X (.builtin "max") aB5:=⟨_,(aA0 z).or (az8 z),λ c H0 H ρ σ ds d vs Q R r e q=>by
 unfold aB5 at e;split at e
 ·cases e;obtain⟨v,Z,rfl,Y,O⟩:=Reps.v2 r;unfold Rep at Y O;subst Y O;exact .inl ⟨_,_,rfl,q _ H0 H (Same.refl _) R (g_0 _ _)⟩
 ·obtain⟨is,e1,e2⟩:=a_1 e;obtain⟨i,is,rfl,rfl⟩:=aa8 e2;obtain⟨v,rfl,M⟩:=Reps.v1 r;unfold Rep at M;obtain⟨p,ws,rfl,s,t⟩:=M;have:=G_7 e1 t;subst this;exact .inr ⟨p,i,is,rfl,Same.seq R.same s,q _ H0 H (Same.refl _) R (g_0 _ _)⟩
 ·cases e⟩
theorem aA4 (z:X.calm=true):BOk X (.builtin "min") bd4:=⟨_,(az7 z).or (az6 z),λ c H0 H ρ σ ds d vs Q R r e q=>by
 unfold bd4 at e;split at e
 ·cases e;obtain⟨v,Z,rfl,Y,O⟩:=Reps.v2 r;unfold Rep at Y O;subst Y O;exact .inl ⟨_,_,rfl,q _ H0 H (Same.refl _) R (g_0 _ _)⟩
 ·obtain⟨is,e1,e2⟩:=a_1 e;obtain⟨i,is,rfl,rfl⟩:=aa8 e2;obtain⟨v,rfl,M⟩:=Reps.v1 r;unfold Rep at M;obtain⟨p,ws,rfl,s,t⟩:=M;have:=G_7 e1 t;subst this;exact .inr ⟨p,i,is,rfl,Same.seq R.same s,q _ H0 H (Same.refl _) R (g_0 _ _)⟩
 ·cases e⟩
theorem aa2 {K:Frag}{H:Hp}:∀ {ds:List D}{bs:List Bool}{vs:List V},aA9 ds=some bs->Reps K H ds vs->vs=bs.map V.bl
 |[],_,_,e,r=>by
  have e':([]:List Bool)=_:=qi e;unfold Reps at r;rw[r,<- e'];rfl
 |d::ds,_,_,e,r=>by
  cases d with
  |bl b =>
   rw[ap4] at e;obtain⟨bs,e1,e2⟩:=a_1 e;cases e2;unfold Reps at r;obtain⟨v,z,rfl,a,t⟩:=r;unfold Rep at a;rw[a,aa2 e1 t];rfl
  |_=>cases e
theorem af3:∀ {bs:List Bool}{us:List Value},Vals (bs.map V.bl) us->LSm.BoolsAre us bs:=by
 intro bs;induction bs with
 |nil=>intro us h;cases h;exact .nil
 |cons b r z =>
  intro us h;cases h with
  |cons a t=>cases (show _=Value.bool b from a);exact .cons b (z t)
theorem aA1 (hc:X.calm=true):CallR X (.builtin "all") (λ xs H Q=>∃ (p:Addr) (bs:List Bool),xs=[.ref p] ∧ SqL X.K H p (bs.map V.bl) ∧ Q (.bl (bs.all id)) H):=by
 intro pins s σ H xs us Q I r h;obtain⟨l,bs,rfl,M,q⟩:=h;obtain⟨u,rfl,ru⟩:=D_4 r;cases ru;obtain⟨z,rv,pl,hz⟩:=I.list M;have Y:=af3 rv;have M:=pl.isList;have O:l<s.heap.objs.size:=by obtain⟨_,e,_⟩:=M;exact qm e
 refine call_all_walk (wpAny_pyIter_list M ?_);refine⟨s.heap.objs.size,[s.heap.objs.size,l],[s.heap.objs.size],z.toArray.size,_,_,λ i=>(bs[i]?).getD true,rfl,Walks.list (A:=X.A.in1) (I.ok.hd hc) _ l (qt O) z.toArray,
  ⟨⟨_,qk _ rfl,rfl,rfl⟩,M.push _⟩,λ i v s' Q' E' hP Z=>?_,λ h' tk hk=>?_⟩
 ·obtain⟨b,e,rfl⟩:=Y.get i v (by simpa using hP);simp only[e,Option.getD_some] at Z;exact Zg Z
 ·have e:((List.range z.toArray.size).all λ i=>(bs[i]?).getD true)=bs.all id:=by rw[Qb,Y.length];exact LSm.range_all bs
  rw[e];exact⟨.bl _,H,I.kept (t':=tk) (LSm.kept_iter hk),rfl,q⟩
theorem bc9 (M:X.calm=true):BOk X (.builtin "all") bI7:=⟨_,aA1 M,λ c H0 H ρ σ ds d vs Q R r e q=>by
 unfold bI7 at e;split at e
 ·obtain⟨bs,e1,e2⟩:=a_1 e;cases e2;obtain⟨v,rfl,z⟩:=Reps.v1 r;unfold Rep at z;obtain⟨p,O,rfl,s,t⟩:=z;have:=aa2 e1 t;subst this;exact⟨p,bs,rfl,Same.seq R.same s,q _ H0 H (Same.refl _) R (z_5 _ _)⟩
 ·cases e⟩
noncomputable def tyN:Ty->String
 |.int=>"int" | .bool=>"bool" | .str=>"str" | .tuple=>"tuple" | .list=>"list"
noncomputable def tyV (d:D):Value:=match d with
 |.non=>.type "NoneType" | .bl _=>.type "bool" | .int _=>.type "int" | .str _=>.type "str" | .tup _=>.type "tuple" | .lst _=>.type "list" | .opq _ _=>.type "dict" | .dct _ _=>.type "dict"
theorem bo7 (K:Frag) (t:Ty) (d:D):PySem.W.kitOne K (tyV d) (.type (tyN t))=some (aC4 t d):=by cases t <;> cases d <;> rfl
theorem aK1 (t:Ty):CallR X (.builtin "isinstance") (λ xs H Q=>∃ d x,xs=[x,.ty (tyN t)] ∧ Rep X.K H d x ∧ Q (.bl (aC4 t d)) H):=by
 intro pins s σ H xs us Q I r h;obtain⟨d,x,rfl,M,q⟩:=h;obtain⟨u,w,rfl,O,Z⟩:=aq6 r;cases (show w=Value.type _ from Z);have k:=bo7 X.K t d;have fin:∀ tk,EP X pins σ Q (.bool (aC4 t d)) {s with toks:=tk}:=λ tk=>⟨.bl _,H,I.tok tk,rfl,q⟩
 cases d with
 |non=>unfold Rep at M;subst M;cases (show u=Value.none from O);exact Zu PySem.W.kitx_none I.kIn Yt k (λ z=>nomatch z) fin
 |bl y=>unfold Rep at M;subst M;cases (show u=Value.bool y from O);exact Zu PySem.W.kitx_bool I.kIn Yt k (λ z=>nomatch z) fin
 |int i=>unfold Rep at M;subst M;obtain⟨t,z⟩:=(show ∃ t,u=Value.int i t from O);cases z;exact Zu PySem.W.kitx_int I.kIn Yt k (λ z=>nomatch z) fin
 |str y=>unfold Rep at M;subst M;obtain⟨t,z⟩:=(show ∃ t,u=Value.str y t from O);cases z;exact Zu PySem.W.kitx_str I.kIn Yt k (λ z=>nomatch z) fin
 |tup ds =>
  unfold Rep at M;obtain⟨a,vs,rfl,s1,_⟩:=M;cases (show u=Value.ref a from O);obtain⟨_,_,⟨o,h1,h2,_⟩,_⟩:=I.tuple s1;exact Zu PySem.W.kitx_tuple I.kIn ⟨o,h1,h2⟩ k (λ z=>nomatch z) fin
 |dct ks ds =>
  unfold Rep at M;obtain⟨a,ob,us,rfl,Y,_⟩:=M;cases (show u=Value.ref a from O);obtain⟨_,_,_,vs,_,pp⟩:=(show ObjOk X.prog X.w H s.heap a (.frz ob (.dK _)) from I.hok a _ Y);obtain⟨o,es,ep,h1,h2,_⟩:=pp;exact Zu PySem.W.kitx_dict I.kIn ⟨o,h1,h2.1⟩ k (λ z=>nomatch z) fin
 |opq ks ds =>
  unfold Rep at M;obtain⟨a,o,tab,rfl,Y,_⟩:=M;cases (show u=Value.ref a from O);obtain⟨⟨_,h1,h2⟩,_⟩:=(show ObjOk X.prog X.w H s.heap a (tdF a o tab) from I.hok a _ Y);exact Zu PySem.W.kitx_dict I.kIn ⟨o,h1,h2.ex.1⟩ k (λ z=>nomatch z) fin
 |lst ds =>
  unfold Rep at M;obtain⟨a,vs,rfl,s1,_⟩:=M;cases (show u=Value.ref a from O);obtain⟨_,_,⟨o,n,h1,h2,_⟩,_⟩:=I.list s1;exact Zu PySem.W.kitx_list I.kIn ⟨o,h1,h2⟩ k (λ z=>nomatch z) fin
theorem xty {t:Ty}{T:Str}{p z pos:Pos}{e:Expr}{F:FE} (hi:X.mg "isinstance"=none) (hm:X.mg T=none) (hT:bootBuiltins T=some (.type (tyN t))) (ha:XE X e F) (hg:Gl X "isinstance":=by rfl) (O:Gl X T:=by rfl)
  (hn:T≠"__name__":=by decide) (hd:(T==("__debug__":Str))=false:=by decide) (hs:starEach [e,.Name T z] X.env=(false,eval e X.env)::starEach [.Name T z] X.env:=by rfl) (aa:starEach [.Name T z] X.env=[(false,eval (.Name T z) X.env)]:=by rfl)
  (ab:(backTo pos (starEach [.Name T z] X.env)).any (·.1)=false:=by rfl):XE X (.Call (.Name "isinstance" p) [e,.Name T z] [] pos) (eTy t F) :=
 PE.wk (ai6 (aK1 t) hg hi PyProof.Rows.boot_isinstance (q_0 ha (q_0 (aU8 (v:=.ty (tyN t)) O hm hT rfl hn hd) x_8 aa) hs) (by decide) (by decide) hs ab) λ σ H Q M=>by
  obtain⟨c,H0,ρ,d,Z,R,f,q⟩:=M;unfold eTy at f;obtain⟨⟨x,Y⟩,h1,f⟩:=a_1 f;have f':some (D.bl (aC4 t x),Y)=some (d,Z):=f;cases f';exact⟨c,H0,ρ,x,_,R,h1,λ v H1 Hh s1 R1 r1=>⟨x,v,rfl,Rep.mono R1.same x r1,q _ H1 Hh s1 R1 (z_5 _ _)⟩⟩
def spP (K:Frag) (g:List D->Option D):Sp:=λ vs H Q _=>∃ z ds d,Same z H/\Reps K z ds vs/\g ds=some d/\∀ v Hi' H',Step z H Hi' H'->Rep K Hi' d v->Q v H'
structure DefOk (P:Program) (w:World) (K:Frag) (mg:Str->Option Value) (base:Heap) (k:Nat) (x:Str) (g:List D->Option D):Prop where
 ex:∃ f fd ps,FnOk P w K mg base CX0 k f fd ps (spP K g)/\Binds K fd ps []/\keepIn K (.ref f)=true/\mg x=some (.ref f)
theorem xF {k:Nat}{x:Str}{g:List D → Option D}{A:FA}{p pos:Pos}{e:Expr}{es:List Expr} (G:DefOk X.prog X.w X.K X.mg X.base k x g) (hr:Room k X.A) (ha:XA X (e::es) A) (hg:Gl X x:=by rfl) (Z:(x==("__debug__":Str))=false:=by decide)
  (he:starEach (e::es) X.env=(false,eval e X.env)::starEach es X.env:=by rfl) (aa:(backTo pos (starEach es X.env)).any (·.1)=false:=by rfl):XE X (.Call (.Name x p) (e::es) [] pos) (eF g A):=by
 obtain⟨f,fd,ps,F,hb,hk,hm⟩:=G.ex;refine PE.wk (ad1 F hr hg hm hk hb .nil aU9 ha Z he aa) λ σ H Q M=>?_;obtain⟨c,H0,ρ,d,Y,R,z,q⟩:=M;unfold eF at z;obtain⟨⟨ds,O⟩,h1,z⟩:=a_1 z;obtain⟨d',h2,z⟩:=a_1 z;have z':some (d',O)=some (d,Y):=z;cases z';exact⟨c,H0,ρ,ds,_,R,h1,λ vs H1 Hh s1 R1 r1=>⟨H1,ds,d,R1.same,by rw[Qr];exact r1,h2,λ v Hi' H' S rv=>q v Hi' H' (s1.trans S.s0) (R1.after S) rv⟩⟩
end
def C_9 (K:Frag) (J:It) (H1:Hp) (xs:List D):Prop:=∀ (H0 H:Hp) (i:Nat),Same H1 H0->Same H0 H ->
 (∀ d,xs[i]?=some d->J.go i H/\∀ x H',J.yld i H x H'->H'=H/\Rep K H0 d x)/\(xs.length<=i->J.stop i H)
theorem ab8 {K:Frag}{H1:Hp}{a:Addr}{vs:List V}{xs:List D} (rd:SqL K H1 a vs) (r:Reps K H1 xs vs):C_9 K (Itl K a) H1 xs:=λ H0 H i s s'=>by
 have z:SqL K H a vs:=Same.seq (s.trans s') rd;refine⟨λ d e=>?_,λ h=>⟨vs,z,by rw[<- r.length];exact h⟩⟩;obtain⟨v,e1,e2⟩:=r.get e;refine⟨⟨vs,v,z,e1⟩,λ x H' ⟨h1,h2⟩=>⟨h1,?_⟩⟩;have:=h2 vs z;rw[e1] at this;cases this;exact Rep.mono s d e2
theorem al5 {K:Frag}{H1:Hp}{a:Addr}{vs:List V}{xs:List D} (rd:SqT K H1 a vs) (r:Reps K H1 xs vs):C_9 K (Itt K a) H1 xs:=λ H0 H i s s'=>by
 have z:SqT K H a vs:=Same.seqT (s.trans s') rd;refine⟨λ d e=>?_,λ h=>⟨vs,z,by rw[<- r.length];exact h⟩⟩;obtain⟨v,e1,e2⟩:=r.get e;refine⟨⟨vs,v,z,e1⟩,λ x H' ⟨h1,h2⟩=>⟨h1,?_⟩⟩;have:=h2 vs z;rw[e1] at this;cases this;exact Rep.mono s d e2
theorem A_4:∀ (n:Nat) (lo:Int),(u_8 lo n).length=n
 |0,_=>rfl
 |n+1,lo=>by show (u_8 (lo+1) n).length+1=n+1;rw[A_4 n]
theorem ah7:∀ (n:Nat) (lo:Int) (i:Nat) (d:D),(u_8 lo n)[i]?=some d->d=.int (lo+i)/\i<n
 |0,lo,i,d,h=>by simp[u_8] at h
 |n+1,lo,0,d,h=>by
  simp[u_8] at h;exact⟨by rw[<- h];simp,by omega⟩
 |n+1,lo,i+1,d,h=>by
  have h':(u_8 (lo+1) n)[i]?=some d:=by simpa [u_8] using h
  obtain⟨a,b⟩:=ah7 n (lo+1) i d h';refine⟨by rw[a];congr 1;push_cast;omega,by omega⟩
theorem N_8 {K:Frag}{H1:Hp} (lo:Int) (n:Nat):C_9 K (Itr lo n) H1 (u_8 lo n):=λ H0 H i s s'=>by
 refine⟨λ d e=>?_,λ h=>by rw[A_4] at h;exact h⟩;obtain⟨rfl,hi⟩:=ah7 n lo i d e;refine⟨hi,λ x H' ⟨h1,h2⟩=>⟨h1,?_⟩⟩;unfold Rep;exact h2
def Its (z:Str):It:=⟨λ i _=>i<z.cps.size,λ i H x H'=>H'=H/\∃ c,z.cps[i]?=some c/\x=.str (chS c),λ i _=>z.cps.size<=i⟩
theorem ag7 {P:Program}{w:World}{K:Frag}{tg:Expr}{n:String} (z:Str) (t:Tok) (it:Addr) (hn:["enumerate","zip","dict_itemiterator","dict_reverseitemiterator","odict_iterator","itertools.zip_longest","itertools.pairwise"].contains n=false)
  (W:∀ A:Around,A.handled=none->Walks P w A it [it] [it] z.cps.size (SignAt z) (λ i h=>h.IsStrIter it n z t i)) (fin:∀ (A:Around) (s:Shared) (i:Nat) (Q:Option Value->Shared->Prop) (E:Value->Shared->Prop),A.handled=none->s.heap.IsStrIter it n z t i->z.cps[i]?=none->(∀ h',Heap.ExtBut it s.heap h'->Q none {s with heap:=h'})->wpAny (model P w) A (pyNext (.ref it)) Q E s)
  (aa:∀ (A:Around) (i:Nat) (s:Shared) (Q:Value->Shared->Prop) (E:Value->Shared->Prop),s.heap.IsStrIter it n z t i->Q (.ref it) s->wpAny (model P w) A (pyIter (.ref it)) Q E s) :
  Turn P w K tg (Its z) [it] it (λ i h=>h.IsStrIter it n z t i) where
 mem:=by simp
 obj:=λ i h st b M=>by
  have e:b=it:=by simpa using M
  subst e;obtain⟨o,e,c,d⟩:=st;exact⟨o,e,λ v z=>by rw[d] at z;cases z⟩
 keep:=λ i h h' st k=>let ⟨o,e,r⟩:=st;⟨o,k it (by simp) o e,r⟩
 item:=by
  intro X hP hw Z hc i pins s σ H E I hf st Y;subst hP hw Z;obtain⟨f0,f1,f2,f3,f4,f5⟩:=hf it (by simp);refine (W X.A (I.ok.hd hc)).item i s _ _ Y st λ v h' tk hv O kk=>?_;obtain⟨ch,u,e1,rfl⟩:=hv;have I1:Inv X pins σ H {s with heap:=h',toks:=tk}:=I.turned (λ b o M e=>kk b o (by simpa using M) e) f0 f1 f3 f4 f5;obtain⟨o,e,c,d⟩:=id O;exact⟨_,rfl,ay1 (s:={s with heap:=h',toks:=tk}) e c d hn ⟨.str (chS ch),H,I1,⟨u,rfl⟩,⟨rfl,ch,e1,rfl⟩,O,λ b M=>(hf b M).1⟩⟩
 done:=by
  intro X hP hw Z hc i pins s σ H E I hf st Y;subst hP hw Z;obtain⟨f0,f1,f2,f3,f4,f5⟩:=hf it (by simp);have Y:z.cps.size<=i:=Y;exact fin X.A s i _ _ (I.ok.hd hc) st (by simp[Y]) λ h' eb=>⟨rfl,I.turned (t':=s.toks) (λ b o M e=>eb b o M e) f0 f1 f3 f4 f5⟩
 self:=λ A i s Q E st h=>aa A i s Q E st h
def bM7 (t:TE):TI:=λ σ H R=>t σ H λ x H1=>∃ z,x=.str z/\R (Its z) H1
def iSq (K:Frag) (t:TE):TI:=λ σ H R=>aH7 K t σ H R\/bM6 K t σ H R\/bM7 t σ H R
theorem bl1 {X:Cx}{tg l:Expr}{tl:TE} (hl:PE X l tl):PI X tg l (bM7 tl):=by
 intro pins s σ H R I h;refine thn (hl pins s σ H _ I h) λ v M Y=>?_;obtain⟨x,H1,Z,r1,q1⟩:=Y;obtain⟨z,e,q⟩:=q1;subst e;obtain⟨t,rfl⟩:=r1;have fp:∀ (o:Obj),∀ b∈[M.heap.objs.size],ap7 X pins H1 b:=λ o b hb=>by
  have e:b=M.heap.objs.size:=by simpa using hb
  subst e;exact Z.fpOk (qj _) (Z.hok.fresh (qj _))
 cases ha:z.cps.all (·<128)
 ·refine wpAny_pyIter_wide ha ?_;exact⟨M.heap.objs.size,[M.heap.objs.size],_,_,H1,rfl,Z.kept (t':=M.toks) λ b o e=>qf _ e,ag7 (n:="str_iterator") z t _ (by decide) (λ A O=>Walks.strWide O _ z t) (λ A s i Q E O st hx hQ=>wpAny_pyNext_wide_end O st hx hQ) (λ _ _ _ _ _ st h=>wpAny_pyIter_striter_wide st h),⟨_,qk _ rfl,rfl,rfl⟩,fp {cls:=.none,data:=.fields #[]},q⟩
 ·refine wpAny_pyIter_ascii ha ?_;exact⟨M.heap.objs.size,[M.heap.objs.size],_,_,H1,rfl,Z.kept (t':=M.toks) λ b o e=>qf _ e,ag7 (n:="str_ascii_iterator") z t _ (by decide) (λ A O=>Walks.strAscii O _ z t) (λ A s i Q E O st hx hQ=>wpAny_pyNext_ascii_end O st hx hQ) (λ _ _ _ _ _ st h=>wpAny_pyIter_striter_ascii st h),⟨_,qk _ rfl,rfl,rfl⟩,fp {cls:=.none,data:=.fields #[]},q⟩
theorem al6 {K:Frag}{H1:Hp} (z:Str):C_9 K (Its z) H1 (chs z):=λ H0 H i s s'=>by
 have M:(chs z).length=z.cps.size:=by unfold chs;rw[Qg,Qu]
 refine⟨λ d e=>?_,λ h=>by rw[M] at h;exact h⟩;have hi:i<z.cps.size:=by rw[<- M];exact (List.getElem?_eq_some_iff.mp e).1
 refine⟨hi,λ x H' ⟨h1,ch,h2,O⟩=>⟨h1,?_⟩⟩;unfold chs at e;rw[Qp,Zd,h2] at e;have e':D.str (chS ch)=d:=qi e;subst e';unfold Rep;exact O
theorem aF3 {X:Cx}{tg l:Expr}{tl:TE} (z:PE X l tl):PI X tg l (iSq X.K tl):=λ pins s σ H R I h=>by
 rcases h with h | h | h
 ·exact Q_9 z pins s σ H R I h
 ·exact bk9 z pins s σ H R I h
 ·exact bl1 z pins s σ H R I h
theorem u_0 {K:Frag}{F:FE}{σ:L2.St}{H:Hp}{R:It->Hp->Prop}{c:FC}{H0:Hp}{ρ M:En}{d:D}{xs:List D} (rs:RS K c H0 H ρ σ) (f:F ρ=some (d,M)) (hx:items d=some xs)
  (h:∀ J H1 O,Same H0 H1->RS K c H1 O M σ->C_9 K J H1 xs->R J O):iSq K (tE K F) σ H R:=by
 cases d with
 |lst ds =>
  have e:ds=xs:=qi hx;subst e;refine .inl ⟨c,H0,ρ,_,M,rs,f,λ v H1 O s1 Z Y=>?_⟩;unfold Rep at Y;obtain⟨a,vs,rfl,rd,r⟩:=Y;exact⟨a,rfl,⟨vs,Same.seq Z.same rd⟩,h _ H1 O s1 Z (ab8 rd r)⟩
 |tup ds =>
  have e:ds=xs:=qi hx;subst e;refine .inr (.inl ⟨c,H0,ρ,_,M,rs,f,λ v H1 O s1 Z Y=>?_⟩);unfold Rep at Y;obtain⟨a,vs,rfl,rd,r⟩:=Y;exact⟨a,rfl,⟨vs,Same.seqT Z.same rd⟩,h _ H1 O s1 Z (al5 rd r)⟩
 |str z =>
  have e:chs z=xs:=qi hx;subst e;refine .inr (.inr ⟨c,H0,ρ,_,M,rs,f,λ v H1 O s1 Z Y=>?_⟩);unfold Rep at Y;exact⟨z,Y,h _ H1 O s1 Z (al6 z)⟩
 |_=>cases hx
theorem aj6 {ρ:En}:∀ {js:List Nat}{fr:En},Y_8 ρ js=some fr->fr.length=js.length/\∀ (k:Nat) (s:Sl),fr[k]?=some s->∃ j d,js[k]?=some j/\ρ[j]?=some (.im d)/\s=.im d
 |[],_,h=>by
  have h':([]:En)=_:=qi h;subst h';exact⟨rfl,λ k s e=>by simp at e⟩
 |j::js,_,h=>by
  rw[ax4] at h;obtain⟨s,h1,h⟩:=a_1 h;obtain⟨r,h2,h⟩:=a_1 h;cases h;obtain⟨a,b⟩:=aj6 h2;refine⟨by rw[Qc,Qc,a],λ k s' e=>?_⟩;cases k with
  |zero =>
   simp at e;subst e;cases z:ρ[j]? with
   |none=>rw[z] at h1;cases h1
   |some Y =>
    rw[z] at h1;cases Y with
    |im d=>exact⟨j,d,rfl,z,(qi h1).symm⟩
    |_=>cases h1
  |succ k =>
   obtain⟨M,d,O,x2,Z⟩:=b k s' (by simpa using e);exact⟨M,d,by simpa using O,x2,Z⟩
theorem RS.block {K:Frag}{c:FC}{H0 H:Hp}{ρ:En}{σ:L2.St}{js:List Nat}{fr:En}{d:D}{x:V} (R:RS K c H0 H ρ σ) (hf:Y_8 ρ js=some fr) (O:Rep K H0 d x):RS K ⟨H0,H,[]⟩ H0 H (.im d::fr) (some x::frv σ js):=by
 obtain⟨l,g⟩:=aj6 hf;refine⟨R.same,Same.refl _,λ b o e=>.inl e,λ b o e _=>e,λ a h=>(by cases h),?_,λ i d' e=>?_,λ i b o e=>?_,λ i j b b' o o' a e=>?_⟩
 ·rw[Qc,Qc,l,frv,Qg]
 ·cases i with
  |zero=>simp at e;subst e;exact⟨x,rfl,O⟩
  |succ k =>
   obtain⟨j,M,x1,x2,z⟩:=g k _ (by simpa using e);cases z;obtain⟨v,Z,Y⟩:=R.im j d' x2;refine⟨v,?_,Y⟩;show (frv σ js)[k]?=some (some v);unfold frv;rw[Qp,x1];show some (σ[j]?).join=some (some v);rw[Z];rfl
 ·cases i with
  |zero=>simp at e
  |succ k =>
   obtain⟨j,M,_,_,z⟩:=g k _ (by simpa using e);cases z
 ·cases i with
  |zero=>simp at e
  |succ k =>
   obtain⟨j,M,_,_,z⟩:=g k _ (by simpa using e);cases z
theorem RS.step {K:Frag}{z M H0 H:Hp}{ρ:En}{σ:L2.St} (R:RS K ⟨z,M,[]⟩ H0 H ρ σ):Step z M H0 H :=
 ⟨R.init,λ b o e=>R.keep b o e (by simp),R.same,R.fresh⟩
theorem E_1 {α:Type}{xs:List α}{i:Nat}{d:α} (h:xs[i]?=some d):xs.drop i=d::xs.drop (i+1):=by obtain⟨hi,e⟩:=List.getElem?_eq_some_iff.mp h;rw[<- e];exact List.drop_eq_getElem_cons hi
theorem aX2 {K:Frag}{c:FC}{H1 Hh:Hp}{ρ:En}{σ:L2.St}{js:List Nat}{fr:En}{T:FT}{F:FE}{xs out:List D}{J:It}{Qf:List V->Hp->Prop} (R:RS K c H1 Hh ρ σ) (hf:Y_8 ρ js=some fr) (hc:cGo T F fr xs=some out) (hz:xs.length<=sizeLine) (hy:C_9 K J H1 xs)
  (q:∀ ys H0 H,Same H1 H0->RS K c H0 H ρ σ->Reps K H0 out ys->Qf ys H):LcW js (tTt K T) (tE K F) σ Qf J Hh:=by
 refine⟨λ i m ys H=>m=xs.length-i/\i<=xs.length/\∃ H0,Same H1 H0/\RS K c H0 H ρ σ/\∃ O rest,Reps K H0 O ys/\O.length<=i/\cGo T F fr (xs.drop i)=some rest/\O++rest=out,⟨xs.length,by simp,Qw _,H1,Same.refl _,R,[],out,Reps.nil_,Qw _,by simpa using hc,rfl⟩,?_⟩;rintro i m ys H ⟨rfl,hi,H0,s0,R0,O,rest,rp,lp,M,e⟩;obtain⟨y1,y2⟩:=hy H0 H i s0 R0.same;by_cases Z:i<xs.length
 ·have hd:xs[i]?=some xs[i]:=by simp[Z]
  obtain⟨go,yl⟩:=y1 _ hd;refine .inr ⟨go,by rw[<- rp.length];omega,λ x H' hx=>?_⟩;obtain⟨rfl,rx⟩:=yl x H' hx;rw[E_1 hd,aK4] at M;obtain⟨⟨b,aa⟩,g1,M⟩:=a_1 M;dsimp only at M;refine⟨⟨H0,H',[]⟩,H0,_,b,aa,R0.block hf rx,g1,λ H2 Hh2 s2 R2=>?_⟩;cases b with
  |false =>
   rw[if_neg Qi] at M ⊢;have S:=R2.step;exact⟨xs.length-(i+1),by omega,rfl,Z,H2,s0.trans S.s0,R0.after S,O,rest,Reps.mono S.s0 _ rp,by omega,M,e⟩
  |true =>
   rw[if_pos rfl] at M ⊢;obtain⟨⟨z,ab⟩,g2,M⟩:=a_1 M;obtain⟨t,g3,M⟩:=a_1 M;dsimp only at M;have Y:some (z::t)=some rest:=M;cases Y;refine⟨⟨H0,H',[]⟩,H2,aa,z,ab,R2,g2,λ v H3 Hh3 s3 R3 r3=>?_⟩;have S:=R3.step;refine⟨xs.length-(i+1),by omega,rfl,Z,H3,s0.trans S.s0,R0.after S,O++[z],t,(Reps.mono S.s0 _ rp).app (Reps.one r3),?_,g3,?_⟩
   ·rw[Qd,Qs];omega
   ·rw[Q3];exact e
 ·have ei:i=xs.length:=by omega
  have hn:xs.drop i=[]:=Zo (by omega);rw[hn,bd0] at M;have Y:([]:List D)=rest:=qi M;subst Y;rw[Qr] at e;subst e;exact .inl ⟨y2 (by omega),by rw[<- rp.length];omega,q ys H0 H s0 R0 rp⟩
def XTs (X:Cx) (ifs:List Expr) (T:FT):Prop:=PTs X ifs (tTt X.K T)
theorem PTs.wk {X:Cx}{e:List Expr}{t t':TT} (h:PTs X e t) (w:∀ σ H Q,t' σ H Q->t σ H Q):PTs X e t':=λ pins s σ H Q I q=>h pins s σ H Q I (w σ H Q q)
theorem A_3 {X:Cx}:XTs X [] Fx.tYes:=PTs.wk aU0 λ σ H Q z=>by
 obtain⟨c,H0,ρ,b,M,R,f,q⟩:=z;have O:some (true,ρ)=some (b,M):=f;cases O;exact q H0 H (Same.refl _) R
theorem D_3 {X:Cx}{c:Expr}{T:FT} (h:XT X c T):XTs X [c] T:=aT9 h
section
variable {X:Cx}{scope sc:Scope}{x:Str}{frees:List Str}{js:List Nat}{px pos:Pos}{elt iter:Expr}{ifs:List Expr}{I F:FE}{T:FT}
theorem az0 {ρ M:En}{d:D} (h:eLC js I T F ρ=some (d,M)):∃ z xs fr ys,I ρ=some (z,M)/\items z=some xs/\Y_8 M js=some fr/\cGo T F fr xs=some ys/\xs.length<=sizeLine/\d=.lst ys:=by
 unfold eLC at h;obtain⟨⟨z,Z⟩,h1,h⟩:=a_1 h;obtain⟨xs,h2,h⟩:=a_1 h;obtain⟨fr,O,h⟩:=a_1 h;obtain⟨ys,Y,h⟩:=a_1 h;dsimp only at h2 O Y h;split at h
 ·rename_i hz;cases h;exact⟨z,xs,fr,ys,h1,h2,O,Y,hz,rfl⟩
 ·cases h
theorem xlc (hc:X.calm=true) (O:X.env.scope=sc) (B:ScB X.N sc scope x frees js) (hi:XE X iter I) (ht:∀ s H C fp,XTs (cxB X (x::frees) scope s H C fp) ifs T) (he:∀ s H C fp,XE (cxB X (x::frees) scope s H C fp) elt F)
  (hs:∀ v,foldedSetIterable iter X.env v=pure v:=by intro _;rfl):XE X (.ListComp elt [⟨.Name x px,iter,ifs,0⟩] scope pos) (eLC js I T F) :=
 PE.wk (bm0 (tt:=tTt X.K T) (te:=tE X.K F) hc O B (aF3 hi) ht he hs) λ σ H Q M=>by
  obtain⟨c,H0,ρ,d,Z,R,f,q⟩:=M;obtain⟨z,xs,fr,ys,h1,h2,Y,h4,hz,rfl⟩:=az0 f;refine u_0 R h1 h2 λ J H1 Hh s1 R1 hy=>?_;refine aX2 R1 Y h4 hz hy λ vs H2 Hh2 s2 R2 r2=>λ p hp=>?_;have S:=Step.alloc (o:=.lst vs) R2.same hp;refine q _ _ _ (s1.trans (s2.trans S.s0)) (R2.after S) ?_;unfold Rep;exact⟨p,vs,rfl,.inl (.inl a_8),Reps.mono S.s0 _ r2⟩
end
def Post (K:Frag) (c:FC) (O:Ends) (H0:Hp):Res->Prop
 |.nx M=>∀ z H0' H',Same H0 H0'->RS K c H0' H' M z->O.nx z H'
 |.rt d M=>∀ v z H0' H',Same H0 H0'->RS K c H0' H' M z->Rep K H0' d v->O.rt v H'
 |.bk M=>∀ z H0' H',Same H0 H0'->RS K c H0' H' M z->O.bk z H'
 |.ct M=>∀ z H0' H',Same H0 H0'->RS K c H0' H' M z->O.ct z H'
def tS (K:Frag) (F:FS):TS:=λ z σ H=>∃ c H0 ρ r,RS K c H0 H ρ σ/\F ρ=some r/\Post K c z H0 r
def XS (X:Cx) (st:Stmt) (F:FS):Prop:=PS X st (tS X.K F)
def XSs (X:Cx) (z:List Stmt) (F:FS):Prop:=PSs X z (tS X.K F)
theorem Post.mono {K:Frag}{c:FC}{O:Ends}{H0 H1:Hp} (s:Same H0 H1):∀ {r:Res},Post K c O H0 r->Post K c O H1 r
 |.nx _,h=>λ M H0' H' z=>h M H0' H' (s.trans z)
 |.rt _ _,h=>λ v M H0' H' z=>h v M H0' H' (s.trans z)
 |.bk _,h=>λ M H0' H' z=>h M H0' H' (s.trans z)
 |.ct _,h=>λ M H0' H' z=>h M H0' H' (s.trans z)
theorem RS.set {K:Frag}{c:FC}{H0 H:Hp}{ρ:En}{σ:L2.St}{d:D}{v:V} (R:RS K c H0 H ρ σ) (i:Nat) (r:Rep K H0 d v):RS K c H0 H (ρ.set i (.im d)) (σ.set i (some v)):=by
 have hl:=R.len;have M:∀ (j:Nat) (Z:Sl),j≠i->(ρ.set i (.im d))[j]?=some Z->ρ[j]?=some Z:=λ j Z O e=>by rwa [Qn (Zb O)] at e
 have z:∀ (j:Nat),j≠i->(σ.set i (some v))[j]?=σ[j]?:=λ j O=>Qn (Zb O);have Y:∀ (Z:Sl),(ρ.set i (.im d))[i]?=some Z->Z=.im d/\i<ρ.length:=λ Z e=>by
  by_cases hi:i<ρ.length
  ·rw[Ql hi] at e;exact⟨(qi e).symm,hi⟩
  ·rw[Ua (by rw[Qz];omega)] at e;cases e
 refine⟨R.same,R.init,R.fresh,R.keep,R.apt,by rw[Qz,Qz,hl],λ j d' e=>?_,λ j bb o e=>?_,λ j k b1 b2 o o' a e1 e2 e3 e4=>?_⟩
 ·by_cases O:j=i
  ·subst O;obtain⟨e',hi⟩:=Y _ e;cases e';exact⟨v,by rw[Ql (by omega)],r⟩
  ·rw[z j O];exact R.im j d' (M j _ O e)
 ·by_cases O:j=i
  ·subst O;obtain⟨e',_⟩:=Y _ e;cases e'
  ·rw[z j O];exact R.ow j bb o (M j _ O e)
 ·by_cases O:j=i
  ·subst O;obtain⟨e',_⟩:=Y _ e1;cases e'
  ·by_cases hk:k=i
   ·subst hk;obtain⟨e',_⟩:=Y _ e2;cases e'
   ·rw[z j O] at e3;rw[z k hk] at e4;exact R.ne j k b1 b2 o o' a (M j _ O e1) (M k _ hk e2) e3 e4
section
variable {X:Cx}{pos:Pos}{e:Expr}{F:FE}{T:FT}{A B:FS}
theorem xsN:XSs X [] sN:=PSs.wk as9 λ O σ H z=>by
 obtain⟨c,H0,ρ,r,R,f,q⟩:=z;have M:some (Res.nx ρ)=some r:=f;cases M;exact q σ H0 H (Same.refl _) R
theorem xs1 {st:Stmt} (h:XS X st A):XSs X [st] A:=D_6 h
theorem xsC {st:Stmt}{rest:List Stmt} (h1:XS X st A) (h2:XSs X rest B):XSs X (st::rest) (b_7 A B):=PSs.wk (Q_5 h1 h2) λ Dn σ H Y=>by
 obtain⟨c,H0,ρ,r,R,f,q⟩:=Y;unfold b_7 at f;obtain⟨z,h,f⟩:=a_1 f;refine⟨c,H0,ρ,z,R,h,?_⟩;cases z with
 |nx M=>exact λ aa H0' H' s Z=>⟨c,H0',M,r,Z,f,q.mono s⟩
 |rt d M=>have O:some (Res.rt d M)=some r:=f;cases O;exact q
 |bk M=>have O:some (Res.bk M)=some r:=f;cases O;exact q
 |ct M=>have O:some (Res.ct M)=some r:=f;cases O;exact q
theorem n_7 (i:Nat) {x:Str}{pos':Pos} (Y:X.N.Nodup) (Z:XE X e F) (hi:X.N[i]?=some x:=by rfl) (hx:Loc X.env.scope x:=by first | exact Or.inl rfl | exact Or.inr rfl) (hs:swapsWith e (some (.Name x pos')) pos.line X.env=pure false:=by rfl)
  (hf:X.fn x=true\/X.env.scope.names.lookup x=some .local:=by first | exact .inl rfl | exact .inr rfl):XS X (.Assign [.Name x pos'] e pos) (c_8 i F):=PS.wk (W_4 Y hi hx Z hs hf) λ Dn σ H M=>by
 obtain⟨c,H0,ρ,r,R,f,q⟩:=M;unfold c_8 at f;obtain⟨⟨d,z⟩,h1,f⟩:=a_1 f;have f':some (Res.nx (z.set i (.im d)))=some r:=f;cases f';exact⟨c,H0,ρ,d,z,R,h1,λ v H1 O s1 R1 r1=>q _ H1 O s1 (R1.set i r1)⟩
theorem aq0 (i:Nat) {y x:Str}{py px M:Pos}{scope sc:Scope}{frees:List Str}{js:List Nat}{elt iter:Expr}{ifs:List Expr}{I:FE} (hN:X.N.Nodup) (hc:X.calm=true) (aa:X.env.scope=sc) (Bk:ScB X.N sc scope x frees js) (hi:XE X iter I)
  (ht:∀ s H C fp,XTs (cxB X (x::frees) scope s H C fp) ifs T) (he:∀ s H C fp,XE (cxB X (x::frees) scope s H C fp) elt F) (Z:X.N[i]?=some y:=by rfl) (hy:X.env.scope.names.lookup y=some .local:=by rfl)
  (Y:swapsWith (.ListComp elt [⟨.Name x px,iter,ifs,0⟩] scope pos) (some (.Name y py)) M.line X.env=pure true:=by rfl)
  (hs:∀ v,foldedSetIterable iter X.env v=pure v:=by intro _;rfl):XS X (.Assign [.Name y py] (.ListComp elt [⟨.Name x px,iter,ifs,0⟩] scope pos) M) (c_8 i (eLC js I T F)) :=
 PS.wk (aE9 (tt:=tTt X.K T) (te:=tE X.K F) hN Z hy hc aa Bk (aF3 hi) ht he Y hs) λ Dn σ H O=>by
  obtain⟨c,H0,ρ,r,R,f,q⟩:=O;unfold c_8 at f;obtain⟨⟨d,ab⟩,h1,f⟩:=a_1 f;have f':some (Res.nx (ab.set i (.im d)))=some r:=f;cases f';obtain⟨z,xs,fr,ys,h0,h2,h3,h4,hz,rfl⟩:=az0 h1;refine u_0 R h0 h2 λ J H1 Hh s1 R1 hy=>?_;refine aX2 R1 h3 h4 hz hy λ vs H2 Hh2 s2 R2 r2=>λ p hp=>?_;have S:=Step.alloc (o:=.lst vs) R2.same hp;refine q _ _ _ (s1.trans (s2.trans S.s0)) ((R2.after S).set i ?_);unfold Rep;exact⟨p,vs,rfl,.inl (.inl a_8),Reps.mono S.s0 _ r2⟩
theorem s_4 {c:Expr}{a b:List Stmt} (Z:XT X c T) (ha:XSs X a A) (hb:XSs X b B):XS X (.If c a b pos) (sIf T A B):=PS.wk (bk6 Z ha hb) λ Dn σ H M=>by
 obtain⟨c,H0,ρ,r,R,f,q⟩:=M;unfold sIf at f;obtain⟨⟨k,z⟩,h1,f⟩:=a_1 f;dsimp only at f;refine⟨c,H0,ρ,k,z,R,h1,λ H1 Hh O Y=>?_⟩;cases k with
 |true =>
  rw[if_pos rfl] at f ⊢;exact⟨c,H1,z,r,Y,f,q.mono O⟩
 |false =>
  rw[if_neg Qi] at f ⊢;exact⟨c,H1,z,r,Y,f,q.mono O⟩
theorem f_8 (Y:XE X e F):XS X (.Return (some e) pos) (e_5 F):=PS.wk (at4 Y) λ Dn σ H M=>by
 obtain⟨c,H0,ρ,r,R,f,q⟩:=M;unfold e_5 at f;obtain⟨⟨d,z⟩,h1,f⟩:=a_1 f;have f':some (Res.rt d z)=some r:=f;cases f';exact⟨c,H0,ρ,d,z,R,h1,λ v H1 O Z R1 r1=>q v σ H1 O Z R1 r1⟩
abbrev GD:=D->En->Option En
def tG (K:Frag) (g:GD):TG:=λ v σ H Q=>∃ c H0 ρ d z,RS K c H0 H ρ σ/\Rep K H0 d v/\g d ρ=some z/\∀ M H0' H',Same H0 H0'->RS K c H0' H' z M->Q M H'
def tGs (K:Frag) (is:List Nat):TGs:=λ vs σ H Q=>∃ c H0 ρ ds,RS K c H0 H ρ σ/\Reps K H0 ds vs/\ds.length=is.length/\∀ z H0' H',Same H0 H0'->RS K c H0' H' (O_2 is ds ρ) z->Q z H'
def XG (X:Cx) (tg:Expr) (g:GD):Prop:=PG X tg (tG X.K g)
def XGs (X:Cx) (z:List Expr) (is:List Nat):Prop:=PGs X z (tGs X.K is)
theorem xgN (i:Nat) {x:Str} (O:X.N.Nodup) (hi:X.N[i]?=some x:=by rfl) (Z:Loc X.env.scope x:=by first | exact Or.inl rfl | exact Or.inr rfl) (hf:X.fn x=true\/X.env.scope.names.lookup x=some .local:=by first | exact .inl rfl | exact .inr rfl):XG X (.Name x pos) (gN i) :=
 λ pins s σ H v u Q I Y z=>by obtain⟨c,H0,ρ,d,M,R,r,f,q⟩:=z;exact A_5 O hi Z hf pins s σ H v u Q I Y (by
  have f':some (ρ.set i (.im d))=some M:=f;cases f';exact q _ H0 H (Same.refl _) (R.set i r))
theorem bJ1:XGs X [] []:=λ pins s σ H vs us Q I M z=>by obtain⟨c,H0,ρ,ds,R,r,l,q⟩:=z;exact au0 pins s σ H vs us Q I M (by
 have e:ds=[]:=List.length_eq_zero_iff.mp l;subst e;unfold Reps at r;exact⟨r,q σ H0 H (Same.refl _) (by simpa [am2] using R)⟩)
theorem be3 {e:Expr}{es:List Expr}{i:Nat}{is:List Nat} (h1:XG X e (gN i)) (h2:XGs X es is) (hs:(assignEach (e::es) X.env).map (·.2)=assign e X.env::(assignEach es X.env).map (·.2):=by rfl):XGs X (e::es) (i::is) :=
 λ pins s σ H vs us Q I rv z=>by obtain⟨c,H0,ρ,ds,R,r,l,q⟩:=z;exact R_0 h1 h2 hs pins s σ H vs us Q I rv (by
  cases ds with
  |nil=>simp at l
  |cons d ds =>
   unfold Reps at r;obtain⟨v,Z,rfl,r1,r2⟩:=r;refine⟨v,Z,rfl,c,H0,ρ,d,_,R,r1,rfl,λ Y H1 Hh O R1=>?_⟩;exact⟨c,H1,_,ds,R1,Reps.mono O _ r2,by simpa using l,λ M H2 Hh2 s2 R2=>q M H2 Hh2 (O.trans s2) (by simpa [ac4] using R2)⟩)
theorem E_5 {X:Cx}{s:Shared}{E:Value->Shared->Prop}{z:List Expr}{k:Nat}{l:Addr}{items:Array Value}{Q:Unit->Shared->Prop} (Y:X.A.handled=none) (O:s.heap.IsList l items)
  (Z:(assignEach z X.env).length=items.size) (M:(assignEach z X.env).findIdx? (·.1)=none)
  (h:∀ h',Heap.ExtBut s.heap.objs.size s.heap h'->wpAny (model X.prog X.w) X.A (assignInOrder ((assignEach z X.env).map (·.2)) items.toList) Q E {s with heap:=h'}) :
  wpAny (model X.prog X.w) X.A (assign (.Tuple z k pos) X.env (.ref l)) Q E s:=by
 rw[assign_Tuple];refine qc (Ui ?_);unfold unpack;rw[Z,M];exact qc (Zz (PySem.W.kun_itemsOf Y O h))
def bX8 (K:Frag) (n:Nat) (t:TGs):TG:=λ v σ H Q=>∃ a xs,v=.ref a/\SqL K H a xs/\xs.length=n/\t xs σ H Q
theorem bl2 {es:List Expr}{k:Nat}{t:TGs}{n:Nat} (hc:X.calm=true) (h:PGs X es t)
  (hn:(assignEach es X.env).length=n:=by rfl) (z:(assignEach es X.env).findIdx? (·.1)=none:=by rfl):PG X (.Tuple es k pos) (bX8 X.K n t):=by
 intro pins s σ H v u Q I r M;obtain⟨a,xs,e1,hq,Z,M⟩:=M;subst e1;cases r;obtain⟨Y,O,pl,hz⟩:=I.list hq;refine E_5 (I.ok.hd hc) pl.isList (by simp[hn,<- Z,O.length]) z λ h' hx=>?_;have I1:Inv X pins σ H {s with heap:=h'}:=I.kept (t':=s.toks) λ b o e=>hx b o (qt (qm e)) e;exact h pins _ σ H xs _ Q I1 (by simpa using O) M
theorem xgT {es:List Expr}{k:Nat}{is:List Nat} (h:XGs X es is) (hc:X.calm=true:=by rfl) (Z:(assignEach es X.env).length=is.length:=by rfl) (z:(assignEach es X.env).findIdx? (·.1)=none:=by rfl):XG X (.Tuple es k pos) (gT is) :=
 λ pins s σ H v u Q I rv M=>by
  obtain⟨c,H0,ρ,d,aa,R,r,f,q⟩:=M;unfold gT at f;obtain⟨xs,h1,f⟩:=a_1 f;split at f
  ·rename_i O;cases f;cases d with
   |tup ds =>
    refine aN6 hc h Z z pins s σ H v u Q I rv ?_;have e:ds=xs:=qi h1;subst e;unfold Rep at r;obtain⟨a,vs,rfl,Y,r⟩:=r;exact⟨a,vs,rfl,Same.seqT R.same Y,by rw[<- r.length];exact O,c,H0,ρ,ds,R,r,O,q⟩
   |lst ds =>
    refine bl2 hc h Z z pins s σ H v u Q I rv ?_;have e:ds=xs:=qi h1;subst e;unfold Rep at r;obtain⟨a,vs,rfl,Y,r⟩:=r;exact⟨a,vs,rfl,Same.seq R.same Y,by rw[<- r.length];exact O,c,H0,ρ,ds,R,r,O,q⟩
   |_=>cases h1
  ·cases f
theorem ay4 {K:Frag}{c:FC}{H1 Hh:Hp}{ρ:En}{σ:L2.St}{g:GD}{B:FS}{xs:List D}{J:It}{Dn:Ends}{r:Res} (R:RS K c H1 Hh ρ σ) (hf:fGo g B xs ρ=some r) (hy:C_9 K J H1 xs) (q:Post K c Dn H1 r) :
  ∃ W:Nat->Nat->L2.St->Hp->Prop,(∃ m,W 0 m σ Hh)/\∀ i m σ H,W i m σ H ->
   (J.stop i H/\Dn.nx σ H)\/(J.go i H/\∃ N:L2.St->Hp->Prop,(∀ M H',N M H'->∃ m',m'<m/\W (i+1) m' M H')/\∀ x H',J.yld i H x H'->tG K g x σ H' λ ac H2=>tS K B {Dn with nx:=N,ct:=N,bk:=Dn.nx} ac H2):=by
 refine⟨λ i m σ H=>m=xs.length-i/\i<=xs.length/\∃ H0 ρ,Same H1 H0/\RS K c H0 H ρ σ/\fGo g B (xs.drop i) ρ=some r,⟨xs.length,by simp,Qw _,H1,ρ,Same.refl _,R,by simpa using hf⟩,?_⟩;rintro i m σ H ⟨rfl,hi,H0,ρ,s0,R0,Y⟩;obtain⟨y1,y2⟩:=hy H0 H i s0 R0.same;by_cases aa:i<xs.length
 ·have hd:xs[i]?=some xs[i]:=by simp[aa]
  obtain⟨go,yl⟩:=y1 _ hd;refine .inr ⟨go,λ M H'=>∃ m',m'<xs.length-i/\m'=xs.length-(i+1)/\i+1<=xs.length/\∃ H0 ρ,Same H1 H0/\RS K c H0 H' ρ M/\fGo g B (xs.drop (i+1)) ρ=some r,λ M H' ⟨m',a,b⟩=>⟨m',a,b⟩,λ x H' hx=>?_⟩;obtain⟨rfl,rx⟩:=yl x H' hx;rw[E_1 hd,aI5] at Y;obtain⟨ab,g1,Y⟩:=a_1 Y;obtain⟨z,g2,Y⟩:=a_1 Y;refine⟨c,H0,ρ,_,ab,R0,rx,g1,λ ad H2 Hh2 s2 R2=>⟨c,H2,ab,z,R2,g2,?_⟩⟩;cases z with
  |nx O=>exact λ M H3 Hh3 s3 R3=>⟨_,by omega,rfl,aa,H3,O,s0.trans (s2.trans s3),R3,Y⟩
  |ct O=>exact λ M H3 Hh3 s3 R3=>⟨_,by omega,rfl,aa,H3,O,s0.trans (s2.trans s3),R3,Y⟩
  |bk O =>
   have Z:some (Res.nx O)=some r:=Y;cases Z;exact λ M H3 Hh3 s3 R3=>q M H3 Hh3 (s0.trans (s2.trans s3)) R3
  |rt d O =>
   have Z:some (Res.rt d O)=some r:=Y;cases Z;exact λ v M H3 Hh3 s3 R3 r3=>q v M H3 Hh3 (s0.trans (s2.trans s3)) R3 r3
 ·have hn:xs.drop i=[]:=Zo (by omega);rw[hn,aZ5] at Y;have Z:some (Res.nx ρ)=some r:=Y;cases Z;exact .inl ⟨y2 (by omega),q σ H0 H s0 R0⟩
theorem aR0 {tg iter:Expr}{body:List Stmt}{g:GD} (Z:XG X tg g) (hi:XE X iter F) (hb:XSs X body B) (hp:PassesOwn (model X.prog X.w) X.A X.env X.xe:=by exact Zv) (O:X.calm=true:=by rfl) (hs:∀ x,foldedSetIterable iter X.env x=pure x:=by intro _;rfl) :
  XS X (.For tg iter body [] pos) (U_7 g F B):=PS.wk (O_4 hp O (aF3 hi) Z hb hs) λ Dn σ H z=>by
 obtain⟨c,H0,ρ,r,R,f,q⟩:=z;unfold U_7 at f;obtain⟨⟨d,M⟩,h1,f⟩:=a_1 f;obtain⟨xs,h2,f⟩:=a_1 f;exact u_0 R h1 h2 λ J H1 Hh Y R1 hy=>ay4 R1 f hy (q.mono Y)
theorem ag3 {tg a:Expr}{body:List Stmt}{g:GD}{p pos':Pos} (hm:X.mg "range"=none) (hg:XG X tg g) (ha:XE X a F) (hb:XSs X body B) (O:Gl X "range":=by rfl) (hp:PassesOwn (model X.prog X.w) X.A X.env X.xe:=by exact Zv) (hc:X.calm=true:=by rfl)
  (z:starEach [a] X.env=[(false,eval a X.env)]:=by rfl) (hs:∀ x,foldedSetIterable (.Call (.Name "range" p) [a] [] pos') X.env x=pure x:=by intro _;rfl) :
  XS X (.For tg (.Call (.Name "range" p) [a] [] pos') body [] pos) (F_5 g (aN5 F) B):=PS.wk (O_4 hp hc (at9 O hm (q_0 ha x_8 z) z) hg hb hs) λ Dn σ H M=>by
 obtain⟨c,H0,ρ,r,R,f,q⟩:=M;unfold F_5 aN5 at f;obtain⟨⟨xs,aa⟩,h1,f⟩:=a_1 f;obtain⟨⟨d,ab⟩,h2,h1⟩:=a_1 h1;obtain⟨j,Y,h1⟩:=a_1 h1;dsimp only at h1 Y f;split at h1
 ·rename_i Z;cases h1;refine⟨c,H0,ρ,d,_,R,h2,λ v H1 Hh s1 R1 r1=>?_⟩;cases d with
  |int k =>
   have e:k=j:=qi Y;subst e;unfold Rep at r1;subst r1;exact⟨k,rfl,Z.1,Z.2,ay4 R1 f (N_8 0 k.toNat) (q.mono s1)⟩
  |_=>cases Y
 ·cases h1
theorem aL6 {tg a b:Expr}{body:List Stmt}{g:GD}{G:FE}{p pos':Pos} (hm:X.mg "range"=none) (hg:XG X tg g) (ha:XE X a F) (aa:XE X b G) (hb:XSs X body B) (ab:Gl X "range":=by rfl) (hp:PassesOwn (model X.prog X.w) X.A X.env X.xe:=by exact Zv) (hc:X.calm=true:=by rfl)
  (M:starEach [a,b] X.env=[(false,eval a X.env),(false,eval b X.env)]:=by rfl) (z:starEach [b] X.env=[(false,eval b X.env)]:=by rfl) (hs:∀ x,foldedSetIterable (.Call (.Name "range" p) [a,b] [] pos') X.env x=pure x:=by intro _;rfl) :
  XS X (.For tg (.Call (.Name "range" p) [a,b] [] pos') body [] pos) (F_5 g (aN4 F G) B):=PS.wk (O_4 hp hc (at8 ab hm (q_0 ha (q_0 aa x_8 z) (by rw[M,z])) M z) hg hb hs) λ Dn σ H Y=>by
 obtain⟨c,H0,ρ,r,R,f,q⟩:=Y;unfold F_5 aN4 at f;obtain⟨⟨xs,ad⟩,h1,f⟩:=a_1 f;obtain⟨⟨d,O⟩,h2,h1⟩:=a_1 h1;obtain⟨⟨d',ac⟩,h3,h1⟩:=a_1 h1;obtain⟨i,h4,h1⟩:=a_1 h1;obtain⟨j,Z,h1⟩:=a_1 h1;dsimp only at h1 h3 h4 Z f;split at h1
 ·rename_i hj;cases h1;refine⟨c,H0,ρ,d,O,R,h2,λ v H1 Hh s1 R1 r1=>?_⟩;refine⟨c,H1,O,d',_,R1,h3,λ v' H2 Hh2 s2 R2 r2=>?_⟩;cases d with
  |int k =>
   cases d' with
   |int k' =>
    have e:k=i:=qi h4;have e':k'=j:=qi Z;subst e e';unfold Rep at r1 r2;subst r1 r2;exact⟨k,k',rfl,hj,ay4 R2 f (N_8 k (k'-k).toNat) (q.mono (s1.trans s2))⟩
   |_=>cases Z
  |_=>cases h4
 ·cases h1
theorem bg4 {c:Expr}{body:List Stmt}{aa:En->Nat} (hc:XT X c T) (hb:XSs X body B) (hp:PassesOwn (model X.prog X.w) X.A X.env X.xe:=by exact Zv):XS X (.While c body [] pos) (aN1 aa T B):=PS.wk (aE8 hp hc hb) λ Dn σ H ac=>by
 obtain⟨c,H0,ρ,r,R,f,q⟩:=ac;refine⟨λ m σ H=>∃ H1 ρ,Same H0 H1/\RS X.K c H1 H ρ σ/\wGo T B m ρ=some r,⟨aa ρ,H0,ρ,Same.refl _,R,f⟩,?_⟩;rintro m ad Hh ⟨H1,ae,s1,R1,Y⟩;cases m with
 |zero=>cases Y
 |succ m =>
  rw[aD0] at Y;obtain⟨⟨b,ab⟩,h1,Y⟩:=a_1 Y;dsimp only at Y;refine⟨c,H1,ae,b,ab,R1,h1,λ H2 Hh2 s2 R2=>?_⟩;cases b with
  |false =>
   rw[if_neg Qi] at Y ⊢;have Z:some (Res.nx ab)=some r:=Y;cases Z;exact q ad H2 Hh2 (s1.trans s2) R2
  |true =>
   rw[if_pos rfl] at Y ⊢;obtain⟨z,h2,Y⟩:=a_1 Y;refine⟨λ M H'=>∃ m',m'<m+1/\∃ H1 ρ,Same H0 H1/\RS X.K c H1 H' ρ M/\wGo T B m' ρ=some r,λ M H' h=>h,⟨c,H2,ab,z,R2,h2,?_⟩⟩;cases z with
   |nx O=>exact λ M H3 Hh3 s3 R3=>⟨m,by omega,H3,O,s1.trans (s2.trans s3),R3,Y⟩
   |ct O=>exact λ M H3 Hh3 s3 R3=>⟨m,by omega,H3,O,s1.trans (s2.trans s3),R3,Y⟩
   |bk O =>
    have Z:some (Res.nx O)=some r:=Y;cases Z;exact λ M H3 Hh3 s3 R3=>q M H3 Hh3 (s1.trans (s2.trans s3)) R3
   |rt d O =>
    have Z:some (Res.rt d O)=some r:=Y;cases Z;exact λ v M H3 Hh3 s3 R3 r3=>q v M H3 Hh3 (s1.trans (s2.trans s3)) R3 r3
end
theorem RS.start {K:Frag}{M H:Hp}{ds:List D}{vs:List V}{m n:Nat} (s:Same M H) (r:Reps K M ds vs) (Y:n-vs.length=m):RS K ⟨M,H,[]⟩ M H (ds.map .im++List.replicate m .no) (vs.map some++List.replicate (n-vs.length) none):=by
 have O:=r.length;refine⟨s,Same.refl _,λ b o e=>.inl e,λ b o e _=>e,λ a h=>(by cases h),?_,λ i d e=>?_,λ i b o e=>?_,λ i j b Z o o' a e=>?_⟩
 ·rw[Qd,Qd,Qg,Qg,J8,J8,O,Y]
 ·by_cases hi:i<ds.length
  ·rw[Q0 (by simpa using hi),Qp] at e;cases z:ds[i]? with
   |none=>rw[z] at e;cases e
   |some d' =>
    rw[z] at e;have e':d'=d:=by have:=qi e;injection this
    subst e';obtain⟨v,a,b⟩:=r.get z;exact⟨v,by rw[Q0 (by simp;omega),Qp,a];rfl,b⟩
  ·rw[Q4 (by simpa using Z4 hi),Z6] at e;split at e <;> cases e
 ·by_cases hi:i<ds.length
  ·rw[Q0 (by simpa using hi),Qp] at e;cases z:ds[i]? with
   |none=>rw[z] at e;cases e
   |some d'=>rw[z] at e;cases e
  ·rw[Q4 (by simpa using Z4 hi),Z6] at e;split at e <;> cases e
 ·by_cases hi:i<ds.length
  ·rw[Q0 (by simpa using hi),Qp] at e;cases z:ds[i]? with
   |none=>rw[z] at e;cases e
   |some d'=>rw[z] at e;cases e
  ·rw[Q4 (by simpa using Z4 hi),Z6] at e;split at e <;> cases e
theorem d_8 {P:Program}{w:World}{K:Frag}{mg:Str->Option Value}{base:Heap}{x z:Str}{st:Stmt}{f:Addr}{fd:FuncData}{N ps:List Str}{k n m:Nat}{B:FS} (F:Fun K x z st f fd) (S:FnScope N ps (a_0 st)) (hn:ps.length=n) (hN:N.length=n+m)
  (hb:∀ (M:Value) (A:Around) (outer:List Env) (s:Shared) (H:Hp) (E:XK),Room k (A.deeper (envOfC z (a_0 st) s.heap.objs.size f M))->XSs (ak0 CX0 P w K mg base N z (a_0 st) f M A outer s H E).nox (a_6 st) B) :
  FnOk P w K mg base CX0 (k+1) f fd ps (spP K (fnD n m B)):=by
 have Y:∀ {ds:List D}{d:D},fnD n m B ds=some d->ds.length=n/\∃ r,B (ds.map .im++List.replicate m .no)=some r/\bv6 r=some d:=λ {ds d} h=>by
  unfold fnD at h;split at h
  ·rename_i hl;obtain⟨r,h1,h2⟩:=a_1 h;exact⟨hl,r,h1,h2⟩
  ·cases h
 refine F.ok S (λ vs H Q E h=>?_) (λ M A outer s H vs Q E hr h=>?_)
 ·obtain⟨Z,ds,d,_,r,e,_⟩:=h;rw[hn,<- r.length];exact (Y e).1
 ·obtain⟨Z,ds,d,hs,r,e,q⟩:=h;obtain⟨hl,res,h1,h2⟩:=Y e;refine⟨_,hb M A outer s H E hr,⟨Z,H,[]⟩,Z,_,res,RS.start (n:=N.length) (m:=m) hs r (by rw[<- r.length];omega),h1,?_⟩;cases res with
  |nx O =>
   have e':D.non=d:=qi h2;subst e';exact λ aa H0' H' s0 R=>q .non H0' H' R.step (by unfold Rep;rfl)
  |rt d' O =>
   have e':d'=d:=qi h2;subst e';exact λ v aa H0' H' s0 R rv=>q v H0' H' R.step rv
  |bk O=>cases h2
  |ct O=>cases h2
end Fx
namespace Fx
open PySem
@[simp] theorem bQ9 (i j:Int):y_8 (.int i) (.int j)=some (.int (i+j)):=zR rfl
@[simp] theorem bQ8 (a b:List D):y_8 (.lst a) (.lst b)=if a.length+b.length<=sizeLine then some (.lst (a++b)) else none:=zR rfl
@[simp] theorem bP9 (i j:Int):Z_5 (.int i) (.int j)=some (.int (i-j)):=zR rfl
@[simp] theorem bQ2 (i j:Int):T_8 (.int i) (.int j)=if x_1 i j=true then some (.int (i*j)) else none:=zR rfl
@[simp] theorem bQ7 (i j:Int):v_6 (.int i) (.int j)=if A_6 j=true then some (.int (i.fdiv j)) else none:=zR rfl
@[simp] theorem bQ3 (i j:Int):u_3 (.int i) (.int j)=if j≠0 then some (.int (i.fmod j)) else none:=zR rfl
@[simp] theorem bQ1 (i:Int):Z_6 (.int i)=some (.int (-i)):=zR rfl
@[simp] theorem ca3 (i j:Int):dLt (.int i) (.int j)=some (.bl (decide (i<j))):=zR rfl
@[simp] theorem ca4 (i j:Int):dLe (.int i) (.int j)=some (.bl (decide (i<=j))):=zR rfl
@[simp] theorem ca6 (i j:Int):dGt (.int i) (.int j)=some (.bl (decide (j<i))):=zR rfl
@[simp] theorem ca7 (i j:Int):dGe (.int i) (.int j)=some (.bl (decide (j<=i))):=zR rfl
@[simp] theorem ce5 (x y:D):dEq x y=if dpD x<=30/\dpD y<=30 then some (.bl (eqD x y)) else none:=zR rfl
@[simp] theorem ce3 (x y:D):dNe x y=if dpD x<=30/\dpD y<=30 then some (.bl (!eqD x y)) else none:=zR rfl
@[simp] theorem ce4 (x:D):dIs x .non=some (.bl (isN x)):=zR rfl
@[simp] theorem bI1 (x:D):h_2 x .non=some (.bl (!isN x)):=zR rfl
@[simp] theorem bP6 :az2 .non=some false:=zR rfl
@[simp] theorem bP8 (b:Bool):az2 (.bl b)=some b:=zR rfl
@[simp] theorem bP7 (xs:List D):az2 (.lst xs)=some (!xs.isEmpty):=zR rfl
@[simp] theorem bP5 (xs:List D):az2 (.tup xs)=some (!xs.isEmpty):=zR rfl
@[simp] theorem cb1 (i:Int):bd6 [.int i]=some (.int (i.natAbs:Int)):=Zq (λ z=>some (D.int z)) (show (if i<0 then -i else i)=(i.natAbs:Int) by split <;> omega)
theorem bt7 (xs:List D):aB5 [.lst xs]=bnd (y_2 xs) λ is=>aB0 M_8 is:=rfl
theorem bt6 (xs:List D):bd4 [.lst xs]=bnd (y_2 xs) λ is=>aB0 M_7 is:=rfl
@[simp] theorem cb0 (i j:Int):aB5 [.int i,.int j]=some (.int (if j > i then j else i)):=zR rfl
@[simp] theorem ca9 (i j:Int):bd4 [.int i,.int j]=some (.int (if j<i then j else i)):=zR rfl
def bR0 {α:Type} (x:α) (o:Option (List α)):Option (List α):=bnd o λ t=>some (x::t)
@[simp] theorem bt1 {α:Type} (x:α) (t:List α):bR0 x (some t)=some (x::t):=zR rfl
@[simp] theorem aO8 (b:Int):aC4 .int (.int b)=true:=zR rfl
@[simp] theorem aO9 (b:Bool):aC4 .bool (.bl b)=true:=zR rfl
@[simp] theorem aH5 (b:Int):aC4 .bool (.int b)=false:=zR rfl
def mkP (o:Option D) (ρ:En):Option (D×En):=bnd o λ d=>some (d,ρ)
@[simp] theorem bW9 (d:D) (ρ:En):mkP (some d) ρ=some (d,ρ):=zR rfl
@[simp] theorem bT9 (ρ:En) (d:D):slV ρ (some (.im d))=some (d,ρ):=zR rfl
@[simp] theorem eV_ (i:Nat) (ρ:En):eV i ρ=slV ρ ρ[i]?:=zR rfl
@[simp] theorem eC_ (d:D) (ρ:En):eC d ρ=some (d,ρ):=zR rfl
def e1a (op:D->Option D) (o:Option (D×En)):Option (D×En):=bnd o λ p=>bnd (op p.1) λ d=>some (d,p.2)
@[simp] theorem e1_ (op:D->Option D) (F:FE) (ρ:En):e1 op F ρ=e1a op (F ρ):=zR rfl
@[simp] theorem bZ9 (op:D->Option D) (x:D) (ρ:En):e1a op (some (x,ρ))=mkP (op x) ρ:=zR rfl
def e2b (op:D->D->Option D) (x:D) (o:Option (D×En)):Option (D×En):=bnd o λ q=>bnd (op x q.1) λ d=>some (d,q.2)
def e2a (op:D->D->Option D) (G:FE) (o:Option (D×En)):Option (D×En):=bnd o λ p=>bnd (G p.2) λ q=>bnd (op p.1 q.1) λ d=>some (d,q.2)
@[simp] theorem e2_ (op:D->D->Option D) (F G:FE) (ρ:En):e2 op F G ρ=e2a op G (F ρ):=zR rfl
@[simp] theorem bZ8 (op:D->D->Option D) (G:FE) (x:D) (ρ:En):e2a op G (some (x,ρ))=e2b op x (G ρ):=zR rfl
@[simp] theorem bZ7 (op:D->D->Option D) (x y:D) (ρ:En):e2b op x (some (y,ρ))=mkP (op x y) ρ:=zR rfl
def e3c (M:D->D->Option D) (L:FE) (y:D) (ρ:En) (o:Option D):Option (D×En):=bnd o λ z=>bnd (blB z) λ b=>if b=true then bnd (L ρ) λ r=>bnd (M y r.1) λ d=>some (d,r.2) else some (.bl false,ρ)
def e3b (op M:D->D->Option D) (L:FE) (x:D) (o:Option (D×En)):Option (D×En):=bnd o λ q=>bnd (op x q.1) λ z=>bnd (blB z) λ b=>if b=true then bnd (L q.2) λ r=>bnd (M q.1 r.1) λ d=>some (d,r.2) else some (.bl false,q.2)
def e3a (op M:D->D->Option D) (G L:FE) (o:Option (D×En)):Option (D×En):=bnd o λ p=>bnd (G p.2) λ q=>bnd (op p.1 q.1) λ z=>bnd (blB z) λ b=>if b=true then bnd (L q.2) λ r=>bnd (M q.1 r.1) λ d=>some (d,r.2) else some (.bl false,q.2)
@[simp] theorem e3_ (op z:D->D->Option D) (F G L:FE) (ρ:En):e3 op z F G L ρ=e3a op z G L (F ρ):=zR rfl
@[simp] theorem bZ6 (op z:D->D->Option D) (G L:FE) (x:D) (ρ:En):e3a op z G L (some (x,ρ))=e3b op z L x (G ρ):=zR rfl
@[simp] theorem bZ5 (op z:D->D->Option D) (L:FE) (x y:D) (ρ:En):e3b op z L x (some (y,ρ))=e3c z L y ρ (op x y):=zR rfl
@[simp] theorem bZ4 (z:D->D->Option D) (L:FE) (y:D) (ρ:En):e3c z L y ρ (some (.bl true))=e2b z y (L ρ):=zR rfl
@[simp] theorem aN_ (ρ:En):aN ρ=some ([],ρ):=zR rfl
def aCb (x:D) (o:Option (List D×En)):Option (List D×En):=bnd o λ q=>some (x::q.1,q.2)
def aCa (A:FA) (o:Option (D×En)):Option (List D×En):=bnd o λ p=>bnd (A p.2) λ q=>some (p.1::q.1,q.2)
@[simp] theorem aC_ (F:FE) (A:FA) (ρ:En):aC F A ρ=aCa A (F ρ):=zR rfl
@[simp] theorem cb5 (A:FA) (x:D) (ρ:En):aCa A (some (x,ρ))=aCb x (A ρ):=zR rfl
@[simp] theorem cb4 (x:D) (xs:List D) (ρ:En):aCb x (some (xs,ρ))=some (x::xs,ρ):=zR rfl
def bJ3 (o:Option (List D×En)):Option (D×En):=bnd o λ p=>if p.1.length<=1000 then some (.tup p.1,p.2) else none
@[simp] theorem bY4 (A:FA) (ρ:En):e_1 A ρ=bJ3 (A ρ):=zR rfl
@[simp] theorem bJ2 (xs:List D) (ρ:En):bJ3 (some (xs,ρ))=if xs.length<=1000 then some (.tup xs,ρ) else none:=zR rfl
def bM2 (o:Option (List D×En)):Option (D×En):=bnd o λ p=>if p.1.length<=1000 then some (.lst p.1,p.2) else none
@[simp] theorem bY9 (A:FA) (ρ:En):x_6 A ρ=bM2 (A ρ):=zR rfl
@[simp] theorem bM1 (xs:List D) (ρ:En):bM2 (some (xs,ρ))=if xs.length<=1000 then some (.lst xs,ρ) else none:=zR rfl
def eFa (g:List D->Option D) (o:Option (List D×En)):Option (D×En):=bnd o λ p=>bnd (g p.1) λ d=>some (d,p.2)
@[simp] theorem eF_ (g:List D->Option D) (A:FA) (ρ:En):eF g A ρ=eFa g (A ρ):=zR rfl
@[simp] theorem bZ1 (g:List D->Option D) (xs:List D) (ρ:En):eFa g (some (xs,ρ))=mkP (g xs) ρ:=zR rfl
def bN3 (t:Ty) (o:Option (D×En)):Option (D×En):=bnd o λ p=>some (.bl (aC4 t p.1),p.2)
@[simp] theorem cd0 (t:Ty) (F:FE) (ρ:En):eTy t F ρ=bN3 t (F ρ):=zR rfl
@[simp] theorem bN2 (t:Ty) (x:D) (ρ:En):bN3 t (some (x,ρ))=some (.bl (aC4 t x),ρ):=zR rfl
@[simp] theorem oN_ (ρ:En):oN ρ=some (none,ρ):=zR rfl
def oSa (o:Option (D×En)):Option (Option Int×En):=bnd o λ p=>bnd (aP2 p.1) λ i=>some (some i,p.2)
@[simp] theorem oS_ (F:FE) (ρ:En):oS F ρ=oSa (F ρ):=zR rfl
@[simp] theorem bW3 (i:Int) (ρ:En):oSa (some (.int i,ρ))=some (some i,ρ):=zR rfl
def mkB (o:Option Bool) (ρ:En):Option (Bool×En):=bnd o λ b=>some (b,ρ)
@[simp] theorem bX0 (b:Bool) (ρ:En):mkB (some b) ρ=some (b,ρ):=zR rfl
def tBa (o:Option (D×En)):Option (Bool×En):=bnd o λ p=>bnd (blB p.1) λ b=>some (b,p.2)
@[simp] theorem tB_ (F:FE) (ρ:En):tB F ρ=tBa (F ρ):=zR rfl
@[simp] theorem bT5 (b:Bool) (ρ:En):tBa (some (.bl b,ρ))=some (b,ρ):=zR rfl
def tVa (o:Option (D×En)):Option (Bool×En):=bnd o λ p=>bnd (az2 p.1) λ b=>some (b,p.2)
@[simp] theorem tV_ (F:FE) (ρ:En):tV F ρ=tVa (F ρ):=zR rfl
@[simp] theorem bS8 (x:D) (ρ:En):tVa (some (x,ρ))=mkB (az2 x) ρ:=zR rfl
def aS1 (U:FT) (o:Option (Bool×En)):Option (Bool×En):=bnd o λ p=>if p.1=true then U p.2 else some (false,p.2)
def bx7 (U:FT) (o:Option (Bool×En)):Option (Bool×En):=bnd o λ p=>if p.1=true then some (true,p.2) else U p.2
def bh6 (o:Option (Bool×En)):Option (Bool×En):=bnd o λ p=>some (!p.1,p.2)
@[simp] theorem bT8 (T U:FT) (ρ:En):tAnd T U ρ=aS1 U (T ρ):=zR rfl
@[simp] theorem by4 (U:FT) (ρ:En):aS1 U (some (true,ρ))=U ρ:=zR rfl
@[simp] theorem by5 (U:FT) (ρ:En):aS1 U (some (false,ρ))=some (false,ρ):=zR rfl
@[simp] theorem bT1 (T U:FT) (ρ:En):tOr T U ρ=bx7 U (T ρ):=zR rfl
@[simp] theorem bJ6 (U:FT) (ρ:En):bx7 U (some (true,ρ))=some (true,ρ):=zR rfl
@[simp] theorem bJ7 (U:FT) (ρ:En):bx7 U (some (false,ρ))=U ρ:=zR rfl
@[simp] theorem bT3 (T:FT) (ρ:En):tNot T ρ=bh6 (T ρ):=zR rfl
@[simp] theorem bx8 (b:Bool) (ρ:En):bh6 (some (b,ρ))=some (!b,ρ):=zR rfl
@[simp] theorem bS7 (ρ:En):tYes ρ=some (true,ρ):=zR rfl
def bG4 (F G:FE) (o:Option (Bool×En)):Option (D×En):=bnd o λ p=>if p.1=true then F p.2 else G p.2
@[simp] theorem ce1 (T:FT) (F G:FE) (ρ:En):eIf T F G ρ=bG4 F G (T ρ):=zR rfl
@[simp] theorem bO6 (F G:FE) (ρ:En):bG4 F G (some (true,ρ))=F ρ:=zR rfl
@[simp] theorem bO7 (F G:FE) (ρ:En):bG4 F G (some (false,ρ))=G ρ:=zR rfl
def bc3 (G:FE) (o:Option (D×En)):Option (D×En):=bnd o λ p=>bnd (blB p.1) λ b=>if b=true then G p.2 else some (.bl false,p.2)
def bF6 (G:FE) (o:Option (D×En)):Option (D×En):=bnd o λ p=>bnd (blB p.1) λ b=>if b=true then some (.bl true,p.2) else G p.2
def br9 (o:Option (D×En)):Option (D×En):=bnd o λ p=>bnd (blB p.1) λ b=>some (.bl (!b),p.2)
@[simp] theorem bZ3 (F G:FE) (ρ:En):aJ4 F G ρ=bc3 G (F ρ):=zR rfl
@[simp] theorem bH3 (G:FE) (ρ:En):bc3 G (some (.bl true,ρ))=G ρ:=zR rfl
@[simp] theorem bH4 (G:FE) (ρ:En):bc3 G (some (.bl false,ρ))=some (.bl false,ρ):=zR rfl
@[simp] theorem bN6 (F G:FE) (ρ:En):eOr F G ρ=bF6 G (F ρ):=zR rfl
@[simp] theorem bN4 (G:FE) (ρ:En):bF6 G (some (.bl true,ρ))=some (.bl true,ρ):=zR rfl
@[simp] theorem bN5 (G:FE) (ρ:En):bF6 G (some (.bl false,ρ))=G ρ:=zR rfl
@[simp] theorem bY8 (F:FE) (ρ:En):bv9 F ρ=br9 (F ρ):=zR rfl
@[simp] theorem bF9 (b:Bool) (ρ:En):br9 (some (.bl b,ρ))=some (.bl (!b),ρ):=zR rfl
def imA (o:Option Sl) (q:Option En):Option En:=bnd o λ s=>bnd q λ r=>some (s::r)
@[simp] theorem bX4 (s:Sl) (r:En):imA (some s) (some r)=some (s::r):=zR rfl
@[simp] theorem bU0 (d:D):slI (some (.im d))=some (.im d):=zR rfl
@[simp] theorem bM4 (ρ:En):Y_8 ρ []=some []:=zR rfl
@[simp] theorem bM5 (ρ:En) (j:Nat) (js:List Nat):Y_8 ρ (j::js)=imA (slI ρ[j]?) (Y_8 ρ js):=zR rfl
def cGb (T:FT) (F:FE) (fr:En) (r:List D) (o:Option (D×En)):Option (List D):=bnd o λ q=>bnd (cGo T F fr r) λ t=>some (q.1::t)
def cGa (T:FT) (F:FE) (fr:En) (r:List D) (o:Option (Bool×En)):Option (List D):=bnd o λ p=>if p.1=true then bnd (F p.2) λ q=>bnd (cGo T F fr r) λ t=>some (q.1::t) else cGo T F fr r
@[simp] theorem ca8 (T:FT) (F:FE) (fr:En):cGo T F fr []=some []:=zR rfl
@[simp] theorem aA5 (T:FT) (F:FE) (fr:En) (d:D) (r:List D):cGo T F fr (d::r)=cGa T F fr r (T (.im d::fr)):=zR rfl
@[simp] theorem aA8 (T:FT) (F:FE) (fr:En) (r:List D) (ρ:En):cGa T F fr r (some (true,ρ))=cGb T F fr r (F ρ):=zR rfl
@[simp] theorem bt3 (T:FT) (F:FE) (fr:En) (r:List D) (ρ:En):cGa T F fr r (some (false,ρ))=cGo T F fr r:=zR rfl
@[simp] theorem aA7 (T:FT) (F:FE) (fr:En) (r:List D) (x:D) (ρ:En):cGb T F fr r (some (x,ρ))=bR0 x (cGo T F fr r):=zR rfl
@[simp] theorem bD6 (xs:List D):items (.lst xs)=some xs:=zR rfl
@[simp] theorem bD5 (xs:List D):items (.tup xs)=some xs:=zR rfl
def bG1 (ρ:En) (xs:List D) (o:Option (List D)):Option (D×En):=bnd o λ ys=>if xs.length<=sizeLine then some (.lst ys,ρ) else none
def bG2 (T:FT) (F:FE) (ρ:En) (xs:List D) (o:Option En):Option (D×En):=bnd o λ fr=>bG1 ρ xs (cGo T F fr xs)
def bG3 (js:List Nat) (T:FT) (F:FE) (ρ:En) (o:Option (List D)):Option (D×En):=bnd o λ xs=>bG2 T F ρ xs (Y_8 ρ js)
def bO5 (js:List Nat) (T:FT) (F:FE) (o:Option (D×En)):Option (D×En):=bnd o λ p=>bG3 js T F p.2 (items p.1)
@[simp] theorem ce0 (js:List Nat) (I:FE) (T:FT) (F:FE) (ρ:En):eLC js I T F ρ=bO5 js T F (I ρ):=zR rfl
@[simp] theorem bO4 (js:List Nat) (T:FT) (F:FE) (x:D) (ρ:En):bO5 js T F (some (x,ρ))=bG3 js T F ρ (items x):=zR rfl
@[simp] theorem bO3 (js:List Nat) (T:FT) (F:FE) (ρ:En) (xs:List D):bG3 js T F ρ (some xs)=bG2 T F ρ xs (Y_8 ρ js):=zR rfl
@[simp] theorem bO2 (T:FT) (F:FE) (ρ:En) (xs:List D) (fr:En):bG2 T F ρ xs (some fr)=bG1 ρ xs (cGo T F fr xs):=zR rfl
@[simp] theorem bO1 (ρ:En) (xs ys:List D):bG1 ρ xs (some ys)=if xs.length<=sizeLine then some (.lst ys,ρ) else none:=zR rfl
@[simp] theorem sN_ (ρ:En):sN ρ=some (.nx ρ):=zR rfl
def aS7 (G:FS) (o:Option Res):Option Res:=bnd o λ r=>nxR G r
@[simp] theorem bU3 (F G:FS) (ρ:En):b_7 F G ρ=aS7 G (F ρ):=zR rfl
@[simp] theorem bz1 (G:FS) (ρ:En):aS7 G (some (.nx ρ))=G ρ:=zR rfl
@[simp] theorem bz0 (G:FS) (d:D) (ρ:En):aS7 G (some (.rt d ρ))=some (.rt d ρ):=zR rfl
def bi2 (i:Nat) (o:Option (D×En)):Option Res:=bnd o λ p=>some (.nx (p.2.set i (.im p.1)))
@[simp] theorem bU2 (i:Nat) (F:FE) (ρ:En):c_8 i F ρ=bi2 i (F ρ):=zR rfl
@[simp] theorem by9 (i:Nat) (x:D) (ρ:En):bi2 i (some (x,ρ))=some (.nx (ρ.set i (.im x))):=zR rfl
def bz6 (F G:FS) (o:Option (Bool×En)):Option Res:=bnd o λ p=>if p.1=true then F p.2 else G p.2
@[simp] theorem bK1 (T:FT) (F G:FS) (ρ:En):sIf T F G ρ=bz6 F G (T ρ):=zR rfl
@[simp] theorem bJ9 (F G:FS) (ρ:En):bz6 F G (some (true,ρ))=F ρ:=zR rfl
@[simp] theorem bK0 (F G:FS) (ρ:En):bz6 F G (some (false,ρ))=G ρ:=zR rfl
def bi3 (o:Option (D×En)):Option Res:=bnd o λ p=>some (.rt p.1 p.2)
@[simp] theorem bU4 (F:FE) (ρ:En):e_5 F ρ=bi3 (F ρ):=zR rfl
@[simp] theorem bz2 (x:D) (ρ:En):bi3 (some (x,ρ))=some (.rt x ρ):=zR rfl
def fGb (g:D->En->Option En) (B:FS) (r:List D) (o:Option Res):Option Res:=bnd o λ z=>goR (fGo g B r) z
def fGa (g:D->En->Option En) (B:FS) (r:List D) (o:Option En):Option Res:=bnd o λ z=>fGb g B r (B z)
theorem br1 (g:D->En->Option En) (B:FS) (ρ:En):fGo g B [] ρ=some (.nx ρ):=zR rfl
theorem r_5 (g:D->En->Option En) (B:FS) (d:D) (r:List D) (ρ:En):fGo g B (d::r) ρ=fGa g B r (g d ρ):=zR rfl
@[simp] theorem r_6 (g:D->En->Option En) (B:FS) (r:List D) (ρ:En):fGa g B r (some ρ)=fGb g B r (B ρ):=zR rfl
@[simp] theorem t_9 (g:D->En->Option En) (B:FS) (r:List D) (ρ:En):fGb g B r (some (.nx ρ))=fGo g B r ρ:=zR rfl
@[simp] theorem ay7 (g:D->En->Option En) (B:FS) (r:List D) (d:D) (ρ:En):fGb g B r (some (.rt d ρ))=some (.rt d ρ):=zR rfl
def aS9 (g:D->En->Option En) (B:FS) (ρ:En) (o:Option (List D)):Option Res:=bnd o λ xs=>fGo g B xs ρ
def bi9 (g:D->En->Option En) (B:FS) (o:Option (D×En)):Option Res:=bnd o λ p=>aS9 g B p.2 (items p.1)
@[simp] theorem bA2 (g:D->En->Option En) (F:FE) (B:FS) (ρ:En):U_7 g F B ρ=bi9 g B (F ρ):=zR rfl
@[simp] theorem bA1 (g:D->En->Option En) (B:FS) (x:D) (ρ:En):bi9 g B (some (x,ρ))=aS9 g B ρ (items x):=zR rfl
@[simp] theorem bA0 (g:D->En->Option En) (B:FS) (ρ:En) (xs:List D):aS9 g B ρ (some xs)=fGo g B xs ρ:=zR rfl
def bj3 (o:Option (D×En)):Option (List D×En):=bnd o λ p=>bnd (aP2 p.1) λ j=>if -(2 ^ 62)<=j/\j<2 ^ 62 then some (u_8 0 j.toNat,p.2) else none
@[simp] theorem bV2 (F:FE) (ρ:En):aN5 F ρ=bj3 (F ρ):=zR rfl
@[simp] theorem bA8 (j:Int) (ρ:En):bj3 (some (.int j,ρ))=if -(2 ^ 62)<=j/\j<2 ^ 62 then some (u_8 0 j.toNat,ρ) else none:=zR rfl
def aT4 (x:D) (o:Option (D×En)):Option (List D×En):=bnd o λ q=>bnd (aP2 x) λ i=>bnd (aP2 q.1) λ j=>if -(2 ^ 62)<=i/\i<2 ^ 62/\-(2 ^ 62)<=j/\j<2 ^ 62 then some (u_8 i (j-i).toNat,q.2) else none
def bj2 (G:FE) (o:Option (D×En)):Option (List D×En):=bnd o λ p=>aT4 p.1 (G p.2)
@[simp] theorem bV1 (F G:FE) (ρ:En):aN4 F G ρ=bj2 G (F ρ):=zR rfl
@[simp] theorem bA7 (G:FE) (x:D) (ρ:En):bj2 G (some (x,ρ))=aT4 x (G ρ):=zR rfl
@[simp] theorem bA6 (i j:Int) (ρ:En):aT4 (.int i) (some (.int j,ρ))=if -(2 ^ 62)<=i/\i<2 ^ 62/\-(2 ^ 62)<=j/\j<2 ^ 62 then some (u_8 i (j-i).toNat,ρ) else none:=zR rfl
def aN2 (g:D->En->Option En) (B:FS) (o:Option (List D×En)):Option Res:=bnd o λ p=>fGo g B p.1 p.2
@[simp] theorem bK4 (g:D->En->Option En) (X:FA) (B:FS) (ρ:En):F_5 g X B ρ=aN2 g B (X ρ):=zR rfl
@[simp] theorem bv4 (g:D->En->Option En) (B:FS) (xs:List D) (ρ:En):aN2 g B (some (xs,ρ))=fGo g B xs ρ:=zR rfl
def fnA (o:Option Res):Option D:=bnd o λ r=>bv6 r
@[simp] theorem bY0 (d:D) (ρ:En):fnA (some (.rt d ρ))=some d:=zR rfl
@[simp] theorem bY1 (ρ:En):fnA (some (.nx ρ))=some .non:=zR rfl
@[simp] theorem cc8 (n k:Nat) (B:FS) (ds:List D):fnD n k B ds=if ds.length=n then fnA (B (ds.map .im++List.replicate k .no)) else none:=zR rfl
def bn2 (o:Option (List D×En)):Option (List D×En):=bnd o λ p=>if p.1.length<=1000 then some p else none
@[simp] theorem bW5 (A:FA) (ρ:En):av1 A ρ=bn2 (A ρ):=zR rfl
@[simp] theorem bC4 (xs:List D) (ρ:En):bn2 (some (xs,ρ))=if xs.length<=1000 then some (xs,ρ) else none:=zR rfl
def bC5 (A B:FA) (o:Option (Bool×En)):Option (List D×En):=bnd o λ p=>if p.1=true then A p.2 else B p.2
@[simp] theorem cc3 (T:FT) (A B:FA) (ρ:En):oIf T A B ρ=bC5 A B (T ρ):=zR rfl
@[simp] theorem bL3 (A B:FA) (ρ:En):bC5 A B (some (true,ρ))=A ρ:=zR rfl
@[simp] theorem bL4 (A B:FA) (ρ:En):bC5 A B (some (false,ρ))=B ρ:=zR rfl
def bi4 (i:Nat) (o:Option (List D×En)):Option Res:=bnd o λ p=>some (.nx (p.2.set i (.ow false (.lst p.1))))
@[simp] theorem bU5 (i:Nat) (A:FA) (ρ:En):aC3 i A ρ=bi4 i (A ρ):=zR rfl
@[simp] theorem bz3 (i:Nat) (xs:List D) (ρ:En):bi4 i (some (xs,ρ))=some (.nx (ρ.set i (.ow false (.lst xs)))):=zR rfl
@[simp] theorem bW1 (ds:List D):owL (some (.ow false (.lst ds)))=some ds:=zR rfl
def aT0 (i:Nat) (x:D) (ρ:En) (o:Option (List D)):Option Res:=bnd o λ ds=>if ds.length<1000000 then some (.nx (ρ.set i (.ow false (.lst (ds++[x]))))) else none
def aT1 (i:Nat) (o:Option (D×En)):Option Res:=bnd o λ p=>aT0 i p.1 p.2 (owL p.2[i]?)
def bj0 (i:Nat) (F:FE) (ρ:En) (o:Option (List D)):Option Res:=bnd o λ _=>aT1 i (F ρ)
@[simp] theorem bU9 (i:Nat) (F:FE) (ρ:En):as3 i F ρ=bj0 i F ρ (owL ρ[i]?):=zR rfl
@[simp] theorem bA5 (i:Nat) (F:FE) (ρ:En) (ds:List D):bj0 i F ρ (some ds)=aT1 i (F ρ):=zR rfl
@[simp] theorem bA4 (i:Nat) (x:D) (ρ:En):aT1 i (some (x,ρ))=aT0 i x ρ (owL ρ[i]?):=zR rfl
@[simp] theorem bA3 (i:Nat) (x:D) (ρ:En) (ds:List D):aT0 i x ρ (some ds)=if ds.length<1000000 then some (.nx (ρ.set i (.ow false (.lst (ds++[x]))))) else none:=zR rfl
def bE7 (i:Nat) (ρ:En):Option Sl->En
 |some (.ow false (.lst ds))=>ρ.set i (.im (.lst ds))
 |_=>ρ
@[simp] theorem cc6 (i:Nat) (ρ:En):frz i ρ=bE7 i ρ ρ[i]?:=by unfold frz bE7;split <;> simp_all
@[simp] theorem bM8 (i:Nat) (ρ:En) (ds:List D):bE7 i ρ (some (.ow false (.lst ds)))=ρ.set i (.im (.lst ds)):=zR rfl
@[simp] theorem bU8 (i:Nat) (F:FS) (ρ:En):aD9 i F ρ=F (frz i ρ):=zR rfl
end Fx
namespace Fx
open PySem PySem.Spec PyProof.Rows L2
theorem RS.heNone {K:Frag}{c:FC}{H0 H:Hp}{ρ:En}{σ:L2.St} (R:RS K c H0 H ρ σ) {p:Addr} (hp:H p=none):c.He p=none:=by
 cases q:c.He p with
 |none=>rfl
 |some u =>
  by_cases z:p∈c.Ap
  ·exact absurd hp (R.apt p z)
  ·rw[R.keep p u q z] at hp;cases hp
theorem RS.setOwn {K:Frag}{c:FC}{H0 H:Hp}{ρ:En}{σ:L2.St}{p:Addr}{u:HO}{o:MO} (R:RS K c H0 H ρ σ) (i:Nat) (hp:H p=none) (r:OwOk K H0 (upd H p u) p o) :
  RS K c H0 (upd H p u) (ρ.set i (.ow false o)) (σ.set i (some (.ref p))):=by
 have hl:=R.len;have h0:H0 p=none:=R.same.free hp;have he:=R.heNone hp;have up:∀ b v,H b=some v->(upd H p u) b=some v:=λ b v e=>by rw[a_4 (b_1 e hp)];exact e
 have O:∀ (j:Nat) (sl:Sl),j≠i->(ρ.set i (.ow false o))[j]?=some sl->ρ[j]?=some sl:=λ j sl Y e=>by rwa [Qn (Zb Y)] at e
 have M:∀ (j:Nat),j≠i->(σ.set i (some (V.ref p)))[j]?=σ[j]?:=λ j Y=>Qn (Zb Y);have Z:∀ (sl:Sl),(ρ.set i (.ow false o))[i]?=some sl->sl=.ow false o/\i<ρ.length:=λ sl e=>by
  by_cases hi:i<ρ.length
  ·rw[Ql hi] at e;exact⟨(qi e).symm,hi⟩
  ·rw[Ua (by rw[Qz];omega)] at e;cases e
 have aa:∀ (j:Nat) (b:Bool) (o:MO) (a:Addr),ρ[j]?=some (.ow b o)->σ[j]?=some (some (.ref a))->a≠p:=λ j b o a e1 e2=>by
  obtain⟨a',x,_,_,w⟩:=R.ow j b o e1;rw[x] at e2;cases e2;obtain⟨u,q⟩:=w.some;exact b_1 q hp
 refine⟨λ b u e=>up b u (R.same b u e),R.init,R.fresh,λ b o e n=>up b o (R.keep b o e n),λ a ha e=>?_,by rw[Qz,Qz,hl],λ j d' e=>?_,λ j bb o' e=>?_,λ j k b1 b2 o1 o2 a e1 e2 e3 e4=>?_⟩
 ·cases q:H a with
  |none=>exact R.apt a ha q
  |some v=>rw[up a v q] at e;cases e
 ·by_cases Y:j=i
  ·subst Y;obtain⟨e',_⟩:=Z _ e;cases e'
  ·rw[M j Y];exact R.im j d' (O j _ Y e)
 ·by_cases Y:j=i
  ·subst Y;obtain⟨e',hi⟩:=Z _ e;cases e';exact⟨p,by rw[Ql (by omega)],h0,he,r⟩
  ·rw[M j Y];obtain⟨a,x,y,z,w⟩:=R.ow j bb o' (O j _ Y e);exact⟨a,x,y,z,w.step (Same.refl _) λ v q=>up a v q⟩
 ·by_cases Y:j=i
  ·by_cases hk:k=i
   ·omega
   ·subst Y;obtain⟨_,hi⟩:=Z _ e1;rw[Ql (by omega)] at e3;cases e3;rw[M k hk] at e4;exact absurd rfl (aa k b2 o2 _ (O k _ hk e2) e4)
  ·by_cases hk:k=i
   ·subst hk;obtain⟨_,hi⟩:=Z _ e2;rw[Ql (by omega)] at e4;cases e4;rw[M j Y] at e3;exact absurd rfl (aa j b1 o1 _ (O j _ Y e1) e3)
   ·rw[M j Y] at e3;rw[M k hk] at e4;exact R.ne j k b1 b2 o1 o2 a (O j _ Y e1) (O k _ hk e2) e3 e4
theorem RS.lent {K:Frag}{c:FC}{H0 H H0' H':Hp}{ρ:En}{σ:L2.St}{a:Addr}{b:Bool}{o o':MO} (R:RS K c H0 H ρ σ) {i:Nat} (hi:ρ[i]?=some (.ow b o)) (ha:σ[i]?=some (some (.ref a)))
  (s0:Same H0 H0') (s':Same H0' H') (kp:∀ x u,H x=some u->x≠a->H' x=some u) (fr:∀ x u,H0' x=some u->H0 x=some u\/H x=none) (r:OwOk K H0' H' a o') :
  RS K c H0' H' (ρ.set i (.ow b o')) σ:=by
 obtain⟨a',x,y,z,w⟩:=R.ow i b o hi;rw[ha] at x;cases x;obtain⟨ua,qa⟩:=w.some;have il:i<ρ.length:=(List.getElem?_eq_some_iff.mp hi).1;have n0:∀ x,H0 x=none->H x≠none->H0' x=none:=λ x h1 h2=>by
  cases q:H0' x with
  |none=>rfl
  |some u =>
   rcases fr x u q with h | h
   ·rw[h1] at h;cases h
   ·exact absurd h h2
 have M:∀ (j:Nat) (sl:Sl),j≠i->(ρ.set i (.ow b o'))[j]?=some sl->ρ[j]?=some sl:=λ j sl O e=>by rwa [Qn (Zb O)] at e
 have Y:∀ (sl:Sl),(ρ.set i (.ow b o'))[i]?=some sl->sl=.ow b o':=λ sl e=>by
  rw[Ql il] at e;exact (qi e).symm
 have aa:∀ (j:Nat) (Z:Bool) (oo:MO),(ρ.set i (.ow b o'))[j]?=some (.ow Z oo)->∃ Z ab,ρ[j]?=some (.ow Z ab):=λ j Z oo e=>by
  by_cases O:j=i
  ·exact⟨b,o,by rw[O];exact hi⟩
  ·exact⟨Z,oo,M j _ O e⟩
 refine⟨s',R.init.trans s0,λ x u e=>?_,λ x u e n=>?_,λ x hx e=>?_,by rw[Qz];exact R.len,λ j d' e=>?_,λ j Z oo e=>?_,λ j k b1 b2 o1 o2 x e1 e2 e3 e4=>?_⟩
 ·rcases fr x u e with h | h
  ·exact R.fresh x u h
  ·exact .inr (R.heNone h)
 ·have:x≠a:=λ h=>by
   cases b with
   |true=>exact n (h▸z)
   |false =>
    have z':c.He a=none:=z;rw[h,z'] at e;cases e
  exact kp x u (R.keep x u e n) this
 ·by_cases h:x=a
  ·obtain⟨u,q⟩:=r.some;rw[h,q] at e;cases e
  ·cases q:H x with
   |none=>exact R.apt x hx q
   |some u=>rw[kp x u q h] at e;cases e
 ·by_cases O:j=i
  ·subst O;cases Y _ e
  ·obtain⟨v,a1,a2⟩:=R.im j d' (M j _ O e);exact⟨v,a1,Rep.mono s0 _ a2⟩
 ·by_cases O:j=i
  ·subst O;cases Y _ e;exact⟨a,ha,n0 a y (by rw[qa];intro h;cases h),z,r⟩
  ·have q':=M j _ O e;obtain⟨x,x1,y1,z1,w1⟩:=R.ow j Z oo q';have nx:x≠a:=λ h=>O (R.ne j i Z b oo o x q' hi x1 (by rw[h];exact ha));obtain⟨u,qu⟩:=w1.some;exact⟨x,x1,n0 x y1 (by rw[qu];intro h;cases h),z1,w1.step s0 λ v q=>kp x v q nx⟩
 ·obtain⟨_,p,e1⟩:=aa j b1 o1 e1;obtain⟨_,q,e2⟩:=aa k b2 o2 e2;exact R.ne j k _ _ p q x e1 e2 e3 e4
theorem RS.mutOwn {K:Frag}{c:FC}{H0 H:Hp}{ρ:En}{σ:L2.St}{a:Addr}{b:Bool}{o o':MO}{u:HO} (R:RS K c H0 H ρ σ) {i:Nat} (hi:ρ[i]?=some (.ow b o)) (ha:σ[i]?=some (some (.ref a))) (r:OwOk K H0 (upd H a u) a o') :
  RS K c H0 (upd H a u) (ρ.set i (.ow b o')) σ:=by
 obtain⟨M,x,y,z,w⟩:=R.ow i b o hi;rw[ha] at x;cases x;refine R.lent hi ha (Same.refl _) (λ x v e=>?_) (λ x v e n=>by rw[a_4 n];exact e) (λ x v e=>.inl e) r;have:x≠a:=λ h=>by rw[h,y] at e;cases e
 rw[a_4 this];exact R.same x v e
theorem RS.freeze {K:Frag}{c:FC}{H0 H:Hp}{ρ:En}{σ:L2.St}{ds:List D} (R:RS K c H0 H ρ σ) {i:Nat} (hi:ρ[i]?=some (.ow false (.lst ds))) :
  ∃ H0',Same H0 H0'/\RS K c H0' H (ρ.set i (.im (.lst ds))) σ:=by
 obtain⟨a,x,y,z,vs,e,r⟩:=R.ow i _ _ hi;have he:c.He a=none:=z;have il:i<ρ.length:=(List.getElem?_eq_some_iff.mp hi).1;have s0:Same H0 (upd H0 a (.lst vs)):=λ b u q=>by rw[a_4 (b_1 q y)];exact q
 have M:∀ (j:Nat) (Z:Sl),j≠i->(ρ.set i (.im (.lst ds)))[j]?=some Z->ρ[j]?=some Z:=λ j Z Y e=>by rwa [Qn (Zb Y)] at e
 have O:∀ (Z:Sl),(ρ.set i (.im (.lst ds)))[i]?=some Z->Z=.im (.lst ds):=λ Z e=>by
  rw[Ql il] at e;exact (qi e).symm
 refine⟨upd H0 a (.lst vs),s0,λ b u q=>?_,R.init.trans s0,λ b u q=>?_,R.keep,R.apt,by rw[Qz];exact R.len,λ j d' q=>?_,λ j bb o' q=>?_,λ j k b1 b2 o' aa b e1 e2 e3 e4=>?_⟩
 ·by_cases h:b=a
  ·subst h;rw[a_8] at q;cases q;exact e
  ·rw[a_4 h] at q;exact R.same b u q
 ·by_cases h:b=a
  ·subst h;exact .inr he
  ·rw[a_4 h] at q;exact R.fresh b u q
 ·by_cases Y:j=i
  ·subst Y;cases O _ q;refine⟨.ref a,x,?_⟩;unfold Rep;exact⟨a,vs,rfl,.inl (.inl a_8),Reps.mono s0 _ r⟩
  ·obtain⟨v,a1,a2⟩:=R.im j d' (M j _ Y q);exact⟨v,a1,Rep.mono s0 _ a2⟩
 ·by_cases Y:j=i
  ·subst Y;cases O _ q
  ·have q':=M j _ Y q;obtain⟨b,x1,y1,z1,w1⟩:=R.ow j bb o' q';have nb:b≠a:=λ h=>Y (R.ne j i bb false o' _ b q' hi x1 (by rw[h];exact x));exact⟨b,x1,by rw[a_4 nb];exact y1,z1,w1.step s0 λ u q=>q⟩
 ·by_cases Y:j=i
  ·subst Y;cases O _ e1
  ·by_cases hk:k=i
   ·subst hk;cases O _ e2
   ·exact R.ne j k b1 b2 o' aa b (M j _ Y e1) (M k _ hk e2) e3 e4
def tEo (K:Frag) (A:FA):TE:=λ σ H Q=>∃ c H0 ρ ds z,RS K c H0 H ρ σ/\A ρ=some (ds,z)/\∀ p vs H0' H',Same H0 H0'->RS K c H0' H' z σ->H' p=none->Reps K H0' ds vs->Q (.ref p) (upd H' p (.lst vs))
def XO' (X:Cx) (e:Expr) (A:FA):Prop:=PE X e (tEo X.K A)
theorem au3 {o:Option Sl}{ds:List D} (h:owL o=some ds):o=some (.ow false (.lst ds)):=by
 unfold owL at h;split at h
 ·cases h;rfl
 ·cases h
section
variable {X:Cx}{pos:Pos}{e:Expr}{F:FE}{T:FT}{A B:FA}
theorem V_1 {es:List Expr} (h:XA X es A):XO' X (.List es pos) (av1 A):=PE.wk (ai4 h) λ σ H Q z=>by
 obtain⟨c,H0,ρ,ds,aa,R,f,q⟩:=z;unfold av1 at f;obtain⟨⟨ab,Z⟩,h1,f⟩:=a_1 f;obtain⟨O,f'⟩:=ifs f;cases f';exact⟨c,H0,ρ,ds,_,R,h1,λ vs H1 Y s1 R1 M=>⟨by rw[<- M.length];exact aS2 O,λ p hp=>q p vs H1 Y s1 R1 hp M⟩⟩
theorem bR4 {c a b:Expr} (hc:XT X c T) (ha:XO' X a A) (hb:XO' X b B):XO' X (.IfExp c a b pos) (oIf T A B):=PE.wk (ai5 hc ha hb) λ σ H Q O=>by
 obtain⟨c,H0,ρ,d,M,R,f,q⟩:=O;unfold oIf at f;obtain⟨⟨k,z⟩,h1,f⟩:=a_1 f;dsimp only at f;refine⟨c,H0,ρ,k,z,R,h1,λ H1 Hh Z R1=>?_⟩;cases k with
 |true =>
  rw[if_pos rfl] at f ⊢;exact⟨c,H1,z,d,M,R1,f,λ p vs H2 Hh2 Y R2=>q p vs H2 Hh2 (Z.trans Y) R2⟩
 |false =>
  rw[if_neg Qi] at f ⊢;exact⟨c,H1,z,d,M,R1,f,λ p vs H2 Hh2 Y R2=>q p vs H2 Hh2 (Z.trans Y) R2⟩
theorem aQ9 (i:Nat) {x:Str}{pos':Pos} (O:X.N.Nodup) (Y:XO' X e A) (hi:X.N[i]?=some x:=by rfl) (hx:Loc X.env.scope x:=by first | exact Or.inl rfl | exact Or.inr rfl) (hs:swapsWith e (some (.Name x pos')) pos.line X.env=pure false:=by rfl)
  (hf:X.fn x=true\/X.env.scope.names.lookup x=some .local:=by first | exact .inl rfl | exact .inr rfl):XS X (.Assign [.Name x pos'] e pos) (aC3 i A):=PS.wk (W_4 O hi hx Y hs hf) λ Dn σ H M=>by
 obtain⟨c,H0,ρ,r,R,f,q⟩:=M;unfold aC3 at f;obtain⟨⟨ds,z⟩,h1,f⟩:=a_1 f;have f':some (Res.nx (z.set i (.ow false (.lst ds))))=some r:=f;cases f';exact⟨c,H0,ρ,ds,z,R,h1,λ p vs H1 Hh Z R1 hp r1=>q _ H1 _ Z (R1.setOwn (o:=.lst ds) (u:=.lst vs) i hp ⟨vs,a_8,r1⟩)⟩
theorem aL7 (i:Nat) {x:Str}{p1 p2 O:Pos} (ha:XA X [e] (aC F aN)) (hN:X.N[i]?=some x:=by rfl) (hv:Vis X.env.scope x:=by first | exact Or.inl rfl | exact Or.inr (Or.inl rfl) | exact Or.inr (Or.inr rfl)) (hd:(x==("__debug__":Str))=false:=by decide)
  (aa:(x==("__classdict__":Str))=false:=by decide) (z:attributeBase (.Name x p1) "append" X.env (eval (.Name x p1) X.env)=eval (.Name x p1) X.env:=by rfl)
  (Y:((backTo O (starEach [e] X.env)).all (λ x=>!x.1)&&(backToKw O (keywordEach [] X.env)).all (λ x=>x.1.isSome)&&decide ([e].length+([]:List Keyword).length+(if ([]:List Keyword).isEmpty then 0 else 1)<30))=true:=by rfl)
  (M:(p2.endLine==O.line)=true:=by rfl) (ab:starEach [e] X.env=(false,eval e X.env)::starEach [] X.env:=by rfl) (ae:(backTo O (starEach [] X.env)).any (·.1)=false:=by rfl)
  (hs:swapsWith (.Call (.Attribute (.Name x p1) "append" p2) [e] [] O) none pos.line X.env=pure false:=by rfl) :
  XS X (.Expr (.Call (.Attribute (.Name x p1) "append" p2) [e] [] O) pos) (as3 i F) :=
 PS.wk (Q_6 (aU7 Yk Ji Jh J_3 (t_1 hN hv hd aa) ha z Y M ab ae) hs) λ Dn σ H Z=>by
  obtain⟨c,H0,ρ,r,R,f,q⟩:=Z;unfold as3 at f;obtain⟨af,h0,f⟩:=a_1 f;obtain⟨⟨d,ac⟩,h1,f⟩:=a_1 f;obtain⟨ds,h2,f⟩:=a_1 f;dsimp only at h2 f;obtain⟨hl,f'⟩:=ifs f;cases f';obtain⟨a,x1,_,_,ad,y1,_⟩:=R.ow i _ _ (au3 h0);refine⟨.ref a,x1,.inl ⟨rfl,ad,SqL.of y1⟩,c,H0,ρ,[d],ac,R,by unfold aC aN;rw[h1];rfl,λ vs H1 Hh s1 R1 r1=>?_⟩;obtain⟨v,rfl,rv⟩:=Reps.v1 r1;obtain⟨a',x2,_,_,ws,y2,z2⟩:=R1.ow i _ _ (au3 h2);rw[x1] at x2;cases x2;refine⟨a,ws,v,rfl,rfl,y2,?_,?_⟩
  ·rw[<- z2.length];exact qr hl (by rw[sizeLine_eq];decide)
  ·exact q σ H1 _ s1 (R1.mutOwn (o':=.lst (ds++[d])) (u:=.lst (ws++[v])) (au3 h2) x1 ⟨_,a_8,z2.app (Reps.one rv)⟩)
theorem be4 (i:Nat) {st:Stmt}{G:FS} (h:XS X st G):XS X st (aD9 i G):=PS.wk h λ Dn σ H M=>by
 obtain⟨c,H0,ρ,r,R,f,q⟩:=M;unfold aD9 frz at f;cases z:ρ[i]? with
 |none=>rw[z] at f;exact⟨c,H0,ρ,r,R,f,q⟩
 |some O =>
  rw[z] at f;cases O with
  |no=>exact⟨c,H0,ρ,r,R,f,q⟩
  |im d=>exact⟨c,H0,ρ,r,R,f,q⟩
  |ow b o =>
   cases b with
   |true=>exact⟨c,H0,ρ,r,R,f,q⟩
   |false =>
   cases o with
   |dic kds=>exact⟨c,H0,ρ,r,R,f,q⟩
   |dtu kds=>exact⟨c,H0,ρ,r,R,f,q⟩
   |lst ds =>
    obtain⟨H0',Z,Y⟩:=R.freeze z;exact⟨c,H0',_,r,Y,f,q.mono Z⟩
end
end Fx
namespace Fx
open PySem
def atS (z:Str) (i:Int):Option D:=if z.length<=sizeLine then bnd (bnd (dPl z.cps.toList.length i) λ j=>z.cps.toList[j]?) λ c=>some (.str (chS c)) else none
def a_9:D->D->Option D
 |.tup xs,.int i=>atD xs i
 |.lst xs,.int i=>atD xs i
 |.str z,.int i=>atS z i
 |_,_=>none
noncomputable def aa9:List D->Option D
 |[.lst xs]=>some (.int xs.length)
 |[.tup xs]=>some (.int xs.length)
 |[.str z]=>if z.length<=sizeLine then some (.int z.length) else none
 |_=>none
noncomputable def Z_1:D->Bool
 |.opq _ _=>false
 |.dct _ _=>false
 |.tup _=>false
 |.lst _=>false
 |_=>true
def inD (x:D) (xs:List D):Bool:=xs.any λ y=>eqD y x
def ab4 (x:D) (xs:List D):Bool:=Z_1 x&&xs.all Z_1
def dIn:D->D->Option D
 |x,.tup xs=>if ab4 x xs=true then some (.bl (inD x xs)) else none
 |x,.lst xs=>if ab4 x xs=true then some (.bl (inD x xs)) else none
 |_,_=>none
noncomputable def ak9:List D->Option D
 |[.lst xs]=>some (.tup xs)
 |[.tup xs]=>some (.tup xs)
 |_=>none
noncomputable def L_4:List D->Option D
 |[.lst xs]=>some (.lst xs)
 |[.tup xs]=>some (.lst xs)
 |_=>none
@[simp] theorem bQ5 (xs:List D) (i:Int):a_9 (.tup xs) (.int i)=atD xs i:=zR rfl
@[simp] theorem bQ6 (xs:List D) (i:Int):a_9 (.lst xs) (.int i)=atD xs i:=zR rfl
@[simp] theorem bd5 (xs:List D):aa9 [.lst xs]=some (.int xs.length):=zR rfl
@[simp] theorem bI6 (xs:List D):L_4 [.lst xs]=some (.lst xs):=zR rfl
end Fx
namespace Fx
open PySem PySem.Spec PyProof.Rows L2
section
variable {X:Cx}{K:Frag}
theorem ac6 (H:Hp) (x:Str):Rep K H (.str x) (.str x):=by unfold Rep;rfl
theorem bX3:OpD K (rIx K) a_9:=λ c H0 H ρ σ x y d Y Z Q R M O e q=>by
 cases y with
 |int i =>
  unfold Rep at O;subst O;cases x with
  |tup ds =>
   unfold Rep at M;obtain⟨p,vs,rfl,s,t⟩:=M;obtain⟨v,e1,e2⟩:=bt8 t e;exact .inr (.inl ⟨p,vs,i,v,rfl,rfl,Same.seqT R.same s,e1,q v H0 H (Same.refl _) R e2⟩)
  |lst ds =>
   unfold Rep at M;obtain⟨p,vs,rfl,s,t⟩:=M;obtain⟨v,e1,e2⟩:=bt8 t e;exact .inl ⟨p,vs,i,v,rfl,rfl,Same.seq R.same s,e1,q v H0 H (Same.refl _) R e2⟩
  |str z =>
   unfold Rep at M;subst M;have e:atS z i=some d:=e;unfold atS at e;by_cases hz:z.length<=sizeLine
   ·rw[if_pos hz] at e;obtain⟨ch,e1,e2⟩:=a_1 e;have e2:some (D.str (chS ch))=some d:=e2;cases e2;exact .inr (.inr ⟨z,i,ch,rfl,rfl,hz,e1,q _ H0 H (Same.refl _) R (ac6 H0 (chS ch))⟩)
   ·rw[if_neg hz] at e;cases e
  |_=>cases e
 |_=>cases x <;> cases e
variable {a b:Expr}{F G:FE}{pos:Pos}
theorem b_3 (ha:XE X a F) (z:XE X b G) (hs:ag0 b:=by intro _ _;rfl):XE X (.Subscript a b pos) (e2 a_9 F G):=PE.wk (aF6 bp9 ha z hs) λ σ H Q h=>ag6 bX3 h
theorem H_1:BOk X (.builtin "len") aa9:=⟨_,call_len_seq.or Z_9,λ c H0 H ρ σ ds d vs Q R r e q=>by
 unfold aa9 at e;split at e
 ·cases e;obtain⟨v,rfl,M⟩:=Reps.v1 r;unfold Rep at M;obtain⟨p,O,rfl,s,t⟩:=M;exact .inl ⟨p,O,rfl,.inl (Same.seq R.same s),by rw[<- t.length];exact q _ H0 H (Same.refl _) R (g_0 _ _)⟩
 ·cases e;obtain⟨v,rfl,M⟩:=Reps.v1 r;unfold Rep at M;obtain⟨p,O,rfl,s,t⟩:=M;exact .inl ⟨p,O,rfl,.inr (Same.seqT R.same s),by rw[<- t.length];exact q _ H0 H (Same.refl _) R (g_0 _ _)⟩
 ·rename_i z;obtain⟨hz,rfl⟩:=ifs e;obtain⟨v,rfl,M⟩:=Reps.v1 r;unfold Rep at M;subst M;exact .inr ⟨z,rfl,hz,q _ H0 H (Same.refl _) R (g_0 _ _)⟩
 ·cases e⟩
theorem xTy {T:String}{g:List D → Option D}{A:FA}{x:Str}{p:Pos}{e:Expr}{es:List Expr} (o:BOk X (.type T) g) (Z:Gl X x) (hm:X.mg x=none) (hv:bootBuiltins x=some (.type T)) (ha:XA X (e::es) A) (Y:x≠"__name__":=by decide) (z:(x==("__debug__":Str))=false:=by decide)
  (O:starEach (e::es) X.env=(false,eval e X.env)::starEach es X.env:=by rfl) (M:(backTo pos (starEach es X.env)).any (·.1)=false:=by rfl):XE X (.Call (.Name x p) (e::es) [] pos) (eF g A):=by
 obtain⟨r,h1,h2⟩:=o;exact PE.wk (H_9 h1 Z hm hv ha Y z O M) λ σ H Q h=>bs1 h2 h
theorem H_0:BOk X (.type "list") L_4:=⟨_,Z_8,λ c H0 H ρ σ ds d vs Q R r e q=>by
 unfold L_4 at e;split at e
 ·cases e;obtain⟨v,rfl,M⟩:=Reps.v1 r;unfold Rep at M;obtain⟨p,z,rfl,s,t⟩:=M;refine⟨p,z,rfl,.inl (Same.seq R.same s),λ l O=>?_⟩;have S:=Step.alloc (o:=.lst z) R.same O;refine q _ _ _ S.s0 (R.after S) ?_;unfold Rep;exact⟨l,_,rfl,.inl (.inl a_8),Reps.mono S.s0 _ t⟩
 ·cases e;obtain⟨v,rfl,M⟩:=Reps.v1 r;unfold Rep at M;obtain⟨p,z,rfl,s,t⟩:=M;refine⟨p,z,rfl,.inr (Same.seqT R.same s),λ l O=>?_⟩;have S:=Step.alloc (o:=.lst z) R.same O;refine q _ _ _ S.s0 (R.after S) ?_;unfold Rep;exact⟨l,_,rfl,.inl (.inl a_8),Reps.mono S.s0 _ t⟩
 ·cases e⟩
theorem aa0:BOk X (.type "tuple") ak9:=⟨_,U_1,λ c H0 H ρ σ ds d vs Q R r e q=>by
 unfold ak9 at e;split at e
 ·cases e;obtain⟨v,rfl,z⟩:=Reps.v1 r;unfold Rep at z;obtain⟨p,M,rfl,s,t⟩:=z;refine⟨p,M,rfl,.inl ⟨Same.seq R.same s,λ l Y=>?_⟩⟩;have S:=Step.alloc (o:=.tup M) R.same Y;refine q _ _ _ S.s0 (R.after S) ?_;unfold Rep;exact⟨l,_,rfl,.inl (.inl a_8),Reps.mono S.s0 _ t⟩
 ·cases e;obtain⟨v,rfl,z⟩:=Reps.v1 r;have O:=z;unfold Rep at z;obtain⟨p,M,rfl,s,t⟩:=z;exact⟨p,M,rfl,.inr ⟨Same.seqT R.same s,q _ H0 H (Same.refl _) R O⟩⟩
 ·cases e⟩
theorem T_6 {H:Hp}{d:D}{v:V} (h:Z_1 d=true) (r:Rep K H d v):N_5 v=true/\∀ d' z,Z_1 d'=true->Rep K H d' z->eqV v z=eqD d d':=by
 cases d with
 |tup xs=>cases h
 |lst xs=>cases h
 |opq=>cases h
 |dct ks vs=>cases h
 |_ =>
  unfold Rep at r;subst r;refine⟨rfl,λ d' z h' M=>?_⟩;cases d' with
  |tup xs=>cases h'
  |lst xs=>cases h'
  |opq=>cases h'
  |dct ks vs=>cases h'
  |_ =>
   unfold Rep at M;subst M
   first
    |(simp[eqV];done)
    |(simp[eqV,eqD];done)
    |(simp[eqV,eqD,Yq];done)
    |(unfold eqV;simp)
theorem ax3 {H:Hp}{x:D}{v:V} (z:Z_1 x=true) (r:Rep K H x v):∀ {ds:List D}{vs:List V},ds.all Z_1=true->Reps K H ds vs->vs.all N_5=true/\inV v vs=inD x ds
 |[],vs,_,t=>by
  unfold Reps at t;subst t;exact⟨rfl,rfl⟩
 |d::ds,vs,h,t=>by
  unfold Reps at t;obtain⟨u,us,rfl,t1,Z⟩:=t;rw[Jl,Qx] at h;obtain⟨M,Y⟩:=ax3 z r h.2 Z;obtain⟨f1,O⟩:=T_6 h.1 t1;refine⟨by rw[Jl,f1,M];rfl,?_⟩;unfold inV inD at *;rw[Yh,Yh,O x v z r,Y]
theorem bq2 {z:Bool}{f:D->D->Option D} (hf:∀ x y d,f x y=some d->∃ xs,(y=.tup xs\/y=.lst xs)/\ab4 x xs=true/\d=.bl (if z then !inD x xs else inD x xs)):OpD K (rIn K z) f:=λ c H0 H ρ σ x y d vx vy Q R M O e q=>by
 obtain⟨xs,hy,ok,rfl⟩:=hf x y d e;unfold ab4 at ok;rw[Qx] at ok;rcases hy with rfl | rfl
 ·unfold Rep at O;obtain⟨p,Z,rfl,s,t⟩:=O;obtain⟨Y,i2⟩:=ax3 ok.1 M ok.2 t;exact⟨p,Z,rfl,.inr (Same.seqT R.same s),(T_6 ok.1 M).1,Y,by rw[i2];exact q _ H0 H (Same.refl _) R (z_5 _ _)⟩
 ·unfold Rep at O;obtain⟨p,Z,rfl,s,t⟩:=O;obtain⟨Y,i2⟩:=ax3 ok.1 M ok.2 t;exact⟨p,Z,rfl,.inl (Same.seq R.same s),(T_6 ok.1 M).1,Y,by rw[i2];exact q _ H0 H (Same.refl _) R (z_5 _ _)⟩
end
end Fx
namespace Fx
open PySem
noncomputable def Z_0 (k:Str):List (Str×D)->Option D
 |[]=>none
 |q::r=>if q.1=k then some q.2 else Z_0 k r
noncomputable def owO:Option Sl->Option (Bool×MO)
 |some (.ow b o)=>some (b,o)
 |_=>none
noncomputable def owD:Option Sl->Option (Bool×List (Str×D))
 |some (.ow b (.dic kds))=>some (b,kds)
 |_=>none
def eFb (i:Nat) (g:MO->List D->Option (D×MO)) (A:FA) (ρ:En):Option (D×En):=bnd (owO ρ[i]?) λ _=>bnd (A ρ) λ p=>bnd (owO p.2[i]?) λ q=>bnd (g q.2 p.1) λ z=>some (z.1,p.2.set i (.ow q.1 z.2))
def bB0:Res->Option (D×MO)
 |.rt d ρ=>bnd (owO ρ[0]?) λ q=>if q.1=true then some (d,q.2) else none
 |.nx ρ=>bnd (owO ρ[0]?) λ q=>if q.1=true then some (.non,q.2) else none
 |_=>none
def fnB (n k:Nat) (B:FS) (o:MO) (ds:List D):Option (D×MO):=if ds.length=n then bnd (B (.ow true o::(ds.map .im++List.replicate k .no))) λ r=>bB0 r else none
noncomputable def ad9:Sl->Bool
 |.ow _ _=>false
 |_=>true
def aG2 (A:FS) (F:En->Option MO) (ρ:En):Option MO:=bnd (A ρ) λ r=>match r with
 |.nx z=>F z
 |_=>none
def fnN (n k:Nat) (F:En->Option MO) (ds:List D):Option MO:=if ds.length=n then F (ds.map .im++List.replicate k .no) else none
def bi6 (i:Nat) (g:List D->Option MO) (A:FA) (ρ:En):Option Res:=bnd (A ρ) λ p=>bnd (g p.1) λ o=>some (.nx (p.2.set i (.ow false o)))
@[simp] theorem bW0 (b:Bool) (o:MO):owO (some (.ow b o))=some (b,o):=zR rfl
@[simp] theorem bW2 (b:Bool) (o:List (Str×D)):owD (some (.ow b (.dic o)))=some (b,o):=zR rfl
def bG5 (i:Nat) (ρ:En) (b:Bool) (o:Option (D×MO)):Option (D×En):=bnd o λ z=>some (z.1,ρ.set i (.ow b z.2))
def bG6 (i:Nat) (g:MO->List D->Option (D×MO)) (ds:List D) (ρ:En) (o:Option (Bool×MO)):Option (D×En):=bnd o λ q=>bG5 i ρ q.1 (g q.2 ds)
def bG7 (i:Nat) (g:MO->List D->Option (D×MO)) (o:Option (List D×En)):Option (D×En):=bnd o λ p=>bG6 i g p.1 p.2 (owO p.2[i]?)
def bP2 (i:Nat) (g:MO->List D->Option (D×MO)) (A:FA) (ρ:En) (o:Option (Bool×MO)):Option (D×En):=bnd o λ _=>bG7 i g (A ρ)
@[simp] theorem ce2 (i:Nat) (g:MO->List D->Option (D×MO)) (A:FA) (ρ:En):eFb i g A ρ=bP2 i g A ρ (owO ρ[i]?):=zR rfl
@[simp] theorem bP1 (i:Nat) (g:MO->List D->Option (D×MO)) (A:FA) (ρ:En) (q:Bool×MO):bP2 i g A ρ (some q)=bG7 i g (A ρ):=zR rfl
@[simp] theorem bP0 (i:Nat) (g:MO->List D->Option (D×MO)) (ds:List D) (ρ:En):bG7 i g (some (ds,ρ))=bG6 i g ds ρ (owO ρ[i]?):=zR rfl
@[simp] theorem bO9 (i:Nat) (g:MO->List D->Option (D×MO)) (ds:List D) (ρ:En) (b:Bool) (o:MO):bG6 i g ds ρ (some (b,o))=bG5 i ρ b (g o ds):=zR rfl
@[simp] theorem bO8 (i:Nat) (ρ:En) (b:Bool) (d:D) (o:MO):bG5 i ρ b (some (d,o))=some (d,ρ.set i (.ow b o)):=zR rfl
def aS8 (i:Nat) (ρ:En) (o:Option MO):Option Res:=bnd o λ o=>some (.nx (ρ.set i (.ow false o)))
def bi5 (i:Nat) (g:List D->Option MO) (o:Option (List D×En)):Option Res:=bnd o λ p=>aS8 i p.2 (g p.1)
@[simp] theorem bU6 (i:Nat) (g:List D->Option MO) (A:FA) (ρ:En):bi6 i g A ρ=bi5 i g (A ρ):=zR rfl
@[simp] theorem bz5 (i:Nat) (g:List D->Option MO) (ds:List D) (ρ:En):bi5 i g (some (ds,ρ))=aS8 i ρ (g ds):=zR rfl
@[simp] theorem bz4 (i:Nat) (ρ:En) (o:MO):aS8 i ρ (some o)=some (.nx (ρ.set i (.ow false o))):=zR rfl
end Fx
namespace Fx
open PySem PySem.Spec PyProof.Rows L2
def ab7 (ks:List Str) (vs:List V):List (Key×V):=(ks.map Sum.inr).zip vs
theorem H_2 (k:Str) (ks:List Str) (v:V) (vs:List V):ab7 (k::ks) (v::vs)=(Sum.inr k,v)::ab7 ks vs:=rfl
section
variable {K:Frag}{H:Hp}
theorem aM0 {k:Str}{d:D}:∀ {kds:List (Str×D)}{vs:List V},Reps K H (kds.map (·.2)) vs->Z_0 k kds=some d->∃ v,valV (ab7 (kds.map (·.1)) vs) (.inr k)=some v/\Rep K H d v
 |[],_,_,e=>by cases e
 |q::r,vs,t,e=>by
  rw[Qa] at t;unfold Reps at t;obtain⟨v,Y,rfl,O,M⟩:=t;rw[Qa,H_2];unfold Z_0 at e;by_cases hk:q.1=k
  ·rw[if_pos hk] at e;cases e;exact⟨v,l_6 (by rw[hk]),O⟩
  ·rw[if_neg hk] at e;obtain⟨u,e1,e2⟩:=aM0 M e;exact⟨u,by rw[k_4 λ z=>hk (Jd z)];exact e1,e2⟩
end
theorem au4 {o:Option Sl}{q:Bool×List (Str×D)} (h:owD o=some q):o=some (.ow q.1 (.dic q.2)):=by
 unfold owD at h;split at h
 ·cases h;rfl
 ·cases h
theorem ai9 {o:Option Sl}{q:Bool×MO} (h:owO o=some q):o=some (.ow q.1 q.2):=by
 unfold owO at h;split at h
 ·cases h;rfl
 ·cases h
section
variable {X:Cx}{pos:Pos}{e:Expr}{F:FE}{A:FA}
def spB (K:Frag) (g:MO->List D->Option (D×MO)):Sp:=λ vs H Q _=>∃ z a o M ds d o',vs=.ref a::M/\Same z H/\z a=none/\OwOk K z H a o/\Reps K z ds M/\g o ds=some (d,o') /\
 ∀ v Hi' H',Same z Hi'->Same Hi' H'->(∀ b u,H b=some u->b≠a->H' b=some u)->(∀ b u,Hi' b=some u->z b=some u\/H b=none)->OwOk K Hi' H' a o'->Rep K Hi' d v->Q v H'
structure DefB (P:Program) (w:World) (K:Frag) (mg:Str->Option Value) (base:Heap) (k:Nat) (x:Str) (g:MO->List D->Option (D×MO)):Prop where
 ex:∃ f fd ps,FnOk P w K mg base CX0 k f fd ps (spB K g)/\Binds K fd ps []/\keepIn K (.ref f)=true/\mg x=some (.ref f)
theorem xFb (i:Nat) {k:Nat}{x y:Str}{g:MO->List D->Option (D×MO)}{p py pos:Pos}{es:List Expr} (G:DefB X.prog X.w X.K X.mg X.base k x g) (hr:Room k X.A) (ha:XA X es A) (hN:X.N[i]?=some y:=by rfl) (hg:Gl X x:=by rfl)
  (hv:Vis X.env.scope y:=by first | exact Or.inl rfl | exact Or.inr (Or.inl rfl) | exact Or.inr (Or.inr rfl)) (ad:(x==("__debug__":Str))=false:=by decide) (hd:(y==("__debug__":Str))=false:=by decide) (Z:(y==("__classdict__":Str))=false:=by decide)
  (ab:(backTo pos (starEach es X.env)).any (·.1)=false:=by rfl):XE X (.Call (.Name x p) (.Name y py::es) [] pos) (eFb i g A):=by
 obtain⟨f,fd,ps,F,hb,hk,hm⟩:=G.ex;refine PE.wk (ad1 F hr hg hm hk hb .nil aU9 (q_0 (t_1 hN hv hd Z) ha rfl) ad rfl ab) λ σ H Q Y=>?_;obtain⟨c,H0,ρ,d,ac,R,z,q⟩:=Y;unfold eFb at z;obtain⟨⟨b0,o0⟩,h0,z⟩:=a_1 z;obtain⟨⟨ds,M⟩,h1,z⟩:=a_1 z;obtain⟨⟨b,o⟩,h2,z⟩:=a_1 z;obtain⟨⟨d',o'⟩,h3,z⟩:=a_1 z;have z':some (d',M.set i (.ow b o'))=some (d,ac):=z;cases z';obtain⟨a,e1,_⟩:=R.ow i b0 o0 (ai9 h0);refine⟨_,e1,c,H0,ρ,ds,M,R,h1,λ vs H1 Hh s1 R1 r1=>?_⟩;have y2:=ai9 h2;obtain⟨a',O,aa,ae,w'⟩:=R1.ow i b o y2;rw[e1] at O;cases O;refine⟨H1,a,o,vs,ds,d,o',by rw[Qr],R1.same,aa,w',r1,h3,λ v Hi' H' s2 s3 kp fr ok rv=>?_⟩;exact q v Hi' H' (s1.trans s2) (R1.lent y2 e1 s2 s3 kp fr ok) rv
end
theorem RS.startB {K:Frag}{O H:Hp}{ds:List D}{vs:List V}{a:Addr}{o:MO}{m n:Nat} (s:Same O H) (h0:O a=none) (ok:OwOk K O H a o) (r:Reps K O ds vs) (hn:n-(vs.length+1)=m) :
  RS K ⟨O,H,[a]⟩ O H (.ow true o::(ds.map .im++List.replicate m .no)) (some (.ref a)::(vs.map some++List.replicate (n-(vs.length+1)) none)):=by
 have R:=RS.start (n:=n-1) (m:=m) s r (by omega);have Y:n-1-vs.length=n-(vs.length+1):=by omega
 rw[Y] at R;have M:∀ (i:Nat) (b:Bool) (o:MO),¬ (ds.map Sl.im++List.replicate m Sl.no)[i]?=some (.ow b o):=λ i b o e=>by
  by_cases hi:i<ds.length
  ·rw[Q0 (by simpa using hi),Qp] at e;cases z:ds[i]? with
   |none=>rw[z] at e;cases e
   |some d'=>rw[z] at e;cases e
  ·rw[Q4 (by simpa using Z4 hi),Z6] at e;split at e <;> cases e
 refine⟨s,Same.refl _,λ b o e=>.inl e,λ b o e _=>e,λ b Z e=>?_,?_,λ i d e=>?_,λ i b o' e=>?_,λ i j b b' o1 o2 x e1 e2 e3 e4=>?_⟩
 ·obtain⟨u,hu⟩:=ok.some;have:b=a:=by simpa using Z
  have e:H b=none:=e;rw[this,hu] at e;cases e
 ·rw[Qc,Qc,R.len]
 ·cases i with
  |zero=>cases e
  |succ i=>exact R.im i d e
 ·cases i with
  |zero =>
   have e':Sl.ow true o=Sl.ow b o':=qi e;cases e';exact⟨a,rfl,h0,by rw[if_pos rfl];exact List.mem_singleton.mpr rfl,ok⟩
  |succ i=>exact absurd e (M i b o')
 ·cases i with
  |zero =>
   cases j with
   |zero=>rfl
   |succ j=>exact absurd e2 (M j _ _)
  |succ i=>exact absurd e1 (M i _ _)
theorem ay5 {P:Program}{w:World}{K:Frag}{mg:Str->Option Value}{base:Heap}{x Y:Str}{st:Stmt}{f:Addr}{fd:FuncData}{N ps:List Str}{k n m:Nat}{B:FS} (F:Fun K x Y st f fd) (S:FnScope N ps (a_0 st)) (hn:ps.length=n+1) (hN:N.length=n+1+m)
  (hb:∀ (Z:Value) (A:Around) (outer:List Env) (s:Shared) (H:Hp) (E:XK),Room k (A.deeper (envOfC Y (a_0 st) s.heap.objs.size f Z))->XSs (ak0 CX0 P w K mg base N Y (a_0 st) f Z A outer s H E).nox (a_6 st) B) :
  FnOk P w K mg base CX0 (k+1) f fd ps (spB K (fnB n m B)):=by
 have ab:∀ {o:MO}{ds:List D}{z:D×MO},fnB n m B o ds=some z->ds.length=n/\∃ r,B (.ow true o::(ds.map .im++List.replicate m .no))=some r/\bB0 r=some z:=λ {o ds z} h=>by
  unfold fnB at h;split at h
  ·rename_i hl;obtain⟨r,h1,h2⟩:=a_1 h;exact⟨hl,r,h1,h2⟩
  ·cases h
 have fin:∀ {Hi H H0' H':Hp}{a:Addr}{o':MO}{M:En}{aa:L2.St},RS K ⟨Hi,H,[a]⟩ H0' H' M aa->M[0]?=some (.ow true o')->Same Hi H0'/\Same H0' H'/\(∀ b u,H b=some u->b≠a->H' b=some u)/\(∀ b u,H0' b=some u->Hi b=some u\/H b=none)/\OwOk K H0' H' a o' :=
  λ {Hi H H0' H' a o' M aa} R e=>by
   obtain⟨a',_,_,z,ok⟩:=R.ow 0 true o' e;rw[if_pos rfl] at z;have za:a'=a:=by simpa using z
   subst za;exact⟨R.init,R.same,λ b u h n=>R.keep b u h (by simpa using n),R.fresh,ok⟩
 refine F.ok S (λ vs H Q E h=>?_) (λ Z A outer s H vs Q E hr h=>?_)
 ·obtain⟨Hi,a,o,vr,ds,d,o',rfl,_,_,_,r,e,_⟩:=h;rw[hn,Qc,<- r.length,(ab e).1]
 ·obtain⟨Hi,a,o,vr,ds,d,o',rfl,hs,h0,ok,r,e,q⟩:=h;obtain⟨hl,res,h1,h2⟩:=ab e;have ac:=r.length;have R:=RS.startB (n:=N.length) (m:=m) hs h0 ok r (by omega);refine⟨_,hb Z A outer s H E hr,⟨Hi,H,[a]⟩,Hi,_,res,R,h1,?_⟩;cases res with
  |nx M =>
   obtain⟨⟨b,oo⟩,z1,z2⟩:=a_1 (show bnd (owO M[0]?) (λ q=>if q.1=true then some (D.non,q.2) else none)=some (d,o') from h2);obtain⟨O,z3⟩:=ifs z2;cases z3;have O:b=true:=O;subst O;exact λ aa H0' H' s0 R=>let ⟨x1,x2,x3,x4,x5⟩:=fin R (ai9 z1);q .non H0' H' x1 x2 x3 x4 x5 (by unfold Rep;rfl)
  |rt d' M =>
   obtain⟨⟨b,oo⟩,z1,z2⟩:=a_1 (show bnd (owO M[0]?) (λ q=>if q.1=true then some (d',q.2) else none)=some (d,o') from h2);obtain⟨O,z3⟩:=ifs z2;cases z3;have O:b=true:=O;subst O;exact λ v aa H0' H' s0 R rv=>let ⟨x1,x2,x3,x4,x5⟩:=fin R (ai9 z1);q v H0' H' x1 x2 x3 x4 x5 rv
  |bk M=>cases h2
  |ct M=>cases h2
def be0 (K:Frag) (z H:Hp) (o:MO) (a:Addr) (Hi' H':Hp):Prop :=
 Same z Hi'/\Same Hi' H'/\Same H H'/\(∀ b u,Hi' b=some u->z b=some u\/H b=none)/\Hi' a=none/\H a=none/\OwOk K Hi' H' a o
def spN (K:Frag) (g:List D->Option MO):Sp:=λ vs H Q _=>∃ z ds o,Same z H/\Reps K z ds vs/\g ds=some o/\∀ a Hi' H',be0 K z H o a Hi' H'->Q (.ref a) H'
structure DefN (P:Program) (w:World) (K:Frag) (mg:Str->Option Value) (base:Heap) (k:Nat) (x:Str) (g:List D->Option MO):Prop where
 ex:∃ f fd ps,FnOk P w K mg base CX0 k f fd ps (spN K g)/\Binds K fd ps []/\keepIn K (.ref f)=true/\mg x=some (.ref f)
theorem RS.got {K:Frag}{c:FC}{H0 H H0' H':Hp}{ρ:En}{σ:L2.St}{a:Addr}{o:MO} (R:RS K c H0 H ρ σ) (i:Nat) (h:be0 K H0 H o a H0' H'):RS K c H0' H' (ρ.set i (.ow false o)) (σ.set i (some (.ref a))):=by
 obtain⟨s0,s',s,fr,Z,Y,ok⟩:=h;obtain⟨u,hu⟩:=ok.some;have R2:RS K c H0' (λ b=>if b=a then none else H' b) ρ σ:=R.after ⟨s0,λ b v e=>by
  have:b≠a:=λ z=>by rw[z,Y] at e;cases e
  show (if b=a then none else H' b)=some v;rw[if_neg this];exact s b v e,λ b v e=>by
  have:b≠a:=λ z=>by rw[z,Z] at e;cases e
  show (if b=a then none else H' b)=some v;rw[if_neg this];exact s' b v e,fr⟩
 have M:upd (λ b=>if b=a then none else H' b) a u=H':=by
  funext b;by_cases O:b=a
  ·rw[O,a_8,hu]
  ·rw[a_4 O];exact if_neg O
 have:=R2.setOwn (u:=u) (o:=o) (p:=a) i (if_pos rfl) (by rw[M];exact ok);rw[M] at this;exact this
section
variable {X:Cx}{pos:Pos}{e:Expr}{F:FE}{A:FA}
theorem bR6 (i:Nat) {k:Nat}{x y:Str}{g:List D->Option MO}{p pos' cpos:Pos}{es:List Expr} (hN:X.N.Nodup) (G:DefN X.prog X.w X.K X.mg X.base k x g) (hr:Room k X.A) (ha:XA X (e::es) A) (hi:X.N[i]?=some y:=by rfl) (hx:Loc X.env.scope y:=by first | exact Or.inl rfl | exact Or.inr rfl)
  (hs:swapsWith (.Call (.Name x p) (e::es) [] cpos) (some (.Name y pos')) pos.line X.env=pure false:=by rfl) (hf:X.fn y=true\/X.env.scope.names.lookup y=some .local:=by first | exact .inl rfl | exact .inr rfl)
  (hg:Gl X x:=by rfl) (O:(x==("__debug__":Str))=false:=by decide) (he:starEach (e::es) X.env=(false,eval e X.env)::starEach es X.env:=by rfl) (Y:(backTo cpos (starEach es X.env)).any (·.1)=false:=by rfl) :
  XS X (.Assign [.Name y pos'] (.Call (.Name x p) (e::es) [] cpos) pos) (bi6 i g A):=by
 obtain⟨f,fd,ps,F,hb,hk,hm⟩:=G.ex;refine PS.wk (W_4 hN hi hx (ad1 F hr hg hm hk hb .nil aU9 ha O he Y) hs hf) λ Dn σ H M=>?_;obtain⟨c,H0,ρ,r,R,f,q⟩:=M;unfold bi6 at f;obtain⟨⟨ds,z⟩,h1,f⟩:=a_1 f;obtain⟨o,h2,f⟩:=a_1 f;have f':some (Res.nx (z.set i (.ow false o)))=some r:=f;cases f';exact⟨c,H0,ρ,ds,z,R,h1,λ vs H1 Hh s1 R1 r1=>⟨H1,ds,o,R1.same,by rw[Qr];exact r1,h2,λ a Hi' H' Z=>q _ Hi' H' (s1.trans Z.1) (R1.got i Z)⟩⟩
def tN (K:Frag) (F:En->Option MO):TS:=λ O σ H=>∃ M z H0 ρ o,RS K ⟨M,z,[]⟩ H0 H ρ σ/\F ρ=some o/\∀ a H0' H',be0 K M z o a H0' H'->O.rt (.ref a) H'
def XN (X:Cx) (z:List Stmt) (F:En->Option MO):Prop:=PSs X z (tN X.K F)
theorem xnC {st:Stmt}{rest:List Stmt}{B:FS}{N:En->Option MO} (h1:PS X st (λ Dn σ H=>∃ O Y H0 ρ r,RS X.K ⟨O,Y,[]⟩ H0 H ρ σ/\B ρ=some r/\Post X.K ⟨O,Y,[]⟩ Dn H0 r)) (h2:XN X rest N):XN X (st::rest) (aG2 B N) :=
 PSs.wk (Q_5 h1 h2) λ Dn σ H Z=>by
  obtain⟨O,Y,H0,ρ,o,R,f,q⟩:=Z;unfold aG2 at f;obtain⟨z,h,f⟩:=a_1 f;refine⟨O,Y,H0,ρ,z,R,h,?_⟩;cases z with
  |nx M=>exact λ aa H0' H' s R'=>⟨O,Y,H0',M,o,R',f,q⟩
  |rt d M=>cases f
  |bk M=>cases f
  |ct M=>cases f
theorem xnS {st:Stmt}{B:FS} (h:XS X st B):PS X st (λ O σ H=>∃ M z H0 ρ r,RS X.K ⟨M,z,[]⟩ H0 H ρ σ/\B ρ=some r/\Post X.K ⟨M,z,[]⟩ O H0 r) :=
 PS.wk h λ O σ H ⟨M,z,H0,ρ,r,R,f,q⟩=>⟨⟨M,z,[]⟩,H0,ρ,r,R,f,q⟩
end
theorem br0 {P:Program}{w:World}{K:Frag}{mg:Str->Option Value}{base:Heap}{x z:Str}{st:Stmt}{f:Addr}{fd:FuncData}{N ps:List Str}{k n m:Nat}{B:En->Option MO} (F:Fun K x z st f fd) (S:FnScope N ps (a_0 st)) (Z:ps.length=n) (hN:N.length=n+m)
  (hb:∀ (M:Value) (A:Around) (outer:List Env) (s:Shared) (H:Hp) (E:XK),Room k (A.deeper (envOfC z (a_0 st) s.heap.objs.size f M))->XN (ak0 CX0 P w K mg base N z (a_0 st) f M A outer s H E).nox (a_6 st) B) :
  FnOk P w K mg base CX0 (k+1) f fd ps (spN K (fnN n m B)):=by
 refine F.ok S (λ vs H Q E h=>?_) (λ M A outer s H vs Q E hr h=>?_)
 ·obtain⟨O,ds,o,_,r,e,_⟩:=h;unfold fnN at e;split at e
  ·rename_i Y;rw[Z,<- r.length];exact Y
  ·cases e
 ·obtain⟨O,ds,o,hs,r,e,q⟩:=h;unfold fnN at e;split at e
  ·rename_i Y;exact⟨_,hb M A outer s H E hr,O,H,O,_,o,RS.start (n:=N.length) (m:=m) hs r (by rw[<- r.length];omega),e,q⟩
  ·cases e
end Fx
namespace Fx
open PySem
def bg2:D->Option Int->Option Int->Option D
 |.lst xs,lo,hi=>some (.lst (aC5 xs lo hi))
 |.tup xs,lo,hi=>if U_9 xs.length 0 lo=0/\U_9 xs.length xs.length hi=xs.length then none else some (.tup (aC5 xs lo hi))
 |.str z,lo,hi=>if z.length<=sizeLine then some (.str (Txt.slice z lo hi)) else none
 |_,_,_=>none
def aI7 (F:FE) (lo hi:FO) (ρ:En):Option (D×En):=bnd (F ρ) λ p=>bnd (lo p.2) λ l=>bnd (hi l.2) λ h=>bnd (bg2 p.1 l.1 h.1) λ d=>some (d,h.2)
noncomputable def inS (x z:Str):Bool:=!(Builtin.Str.occurrences z x 0 z.length 1).isEmpty
def bc6:D->D->Option D
 |x,.tup xs=>if ab4 x xs=true then some (.bl (inD x xs)) else none
 |x,.lst xs=>if ab4 x xs=true then some (.bl (inD x xs)) else none
 |.str x,.str z=>some (.bl (inS x z))
 |_,_=>none
def az3:D->D->Option D
 |x,.tup xs=>if ab4 x xs=true then some (.bl (!inD x xs)) else none
 |x,.lst xs=>if ab4 x xs=true then some (.bl (!inD x xs)) else none
 |.str x,.str z=>some (.bl (!inS x z))
 |_,_=>none
def br5 (x:D) (l:Option Int) (o:Option (Option Int×En)):Option (D×En):=bnd o λ h=>bnd (bg2 x l h.1) λ d=>some (d,h.2)
def br6 (hi:FO) (x:D) (o:Option (Option Int×En)):Option (D×En):=bnd o λ l=>bnd (hi l.2) λ h=>bnd (bg2 x l.1 h.1) λ d=>some (d,h.2)
def br7 (lo hi:FO) (o:Option (D×En)):Option (D×En):=bnd o λ p=>bnd (lo p.2) λ l=>bnd (hi l.2) λ h=>bnd (bg2 p.1 l.1 h.1) λ d=>some (d,h.2)
@[simp] theorem bY5 (F:FE) (lo hi:FO) (ρ:En):aI7 F lo hi ρ=br7 lo hi (F ρ):=zR rfl
@[simp] theorem bF4 (lo hi:FO) (x:D) (ρ:En):br7 lo hi (some (x,ρ))=br6 hi x (lo ρ):=zR rfl
@[simp] theorem bF3 (hi:FO) (x:D) (l:Option Int) (ρ:En):br6 hi x (some (l,ρ))=br5 x l (hi ρ):=zR rfl
@[simp] theorem bF2 (x:D) (l h:Option Int) (ρ:En):br5 x l (some (h,ρ))=mkP (bg2 x l h) ρ:=zR rfl
@[simp] theorem bQ0 (xs:List D) (lo hi:Option Int):bg2 (.tup xs) lo hi=if U_9 xs.length 0 lo=0/\U_9 xs.length xs.length hi=xs.length then none else some (.tup (aC5 xs lo hi)):=zR rfl
@[simp] theorem bs8 (x:D) (xs:List D):bc6 x (.tup xs)=if ab4 x xs=true then some (.bl (inD x xs)) else none:=by cases x <;> rfl
@[simp] theorem bs9 (x:D) (xs:List D):bc6 x (.lst xs)=if ab4 x xs=true then some (.bl (inD x xs)) else none:=by cases x <;> rfl
@[simp] theorem bs6 (x:D) (xs:List D):az3 x (.tup xs)=if ab4 x xs=true then some (.bl (!inD x xs)) else none:=by cases x <;> rfl
@[simp] theorem bs7 (x:D) (xs:List D):az3 x (.lst xs)=if ab4 x xs=true then some (.bl (!inD x xs)) else none:=by cases x <;> rfl
end Fx
namespace Fx
open PySem PySem.Spec PyProof.Rows L2
section
variable {X:Cx}{K:Frag}{pos:Pos}{e:Expr}{F:FE}
def bV4:V->Option Int->Option Int->Hp->VK->Prop:=λ x lo hi H Q=>∃ z,x=.str z/\z.length<=sizeLine/\Q (.str (Txt.slice z lo hi)) H
theorem bm4 {v:Value}{o:Option Int} (p:IsPart v o):∃ l:Option (Int×Tok),v=partValue l/\l.map (·.1)=o:=by
 cases p with
 |none=>exact⟨none,rfl,rfl⟩
 |int i t=>exact⟨some (i,t),rfl,rfl⟩
theorem bi1:SlR X bV4:=by intro pins s σ H x v vl vu lo hi Z Q I M hs O Y h;obtain⟨z,rfl,hz,q⟩:=h;obtain⟨t,rfl⟩:=M;obtain⟨l,rfl,rfl⟩:=bm4 O;obtain⟨u,rfl,rfl⟩:=bm4 Y;refine⟨"str",_,slot_str_getitem.lookup,typeIs_str _ _ _,wpAny_getItem_str_slice (l:=l) (u:=u) (st:=none) hs rfl ?_⟩;exact post_val_or_str ⟨Qq (Txt.slice_le z _ _) hz,λ t' k=>⟨.str (Txt.slice z (l.map (·.1)) (u.map (·.1))),H,I.tok _,⟨_,rfl⟩,q⟩⟩
theorem bu8 {lo hi:Option Expr}{A B:FO}{p2:Pos} (he:XE X e F) (hl:XO X lo A) (hh:XO X hi B):XE X (.Subscript e (.Slice lo hi none p2) pos) (aI7 F A B):=PE.wk (aF5 ((sl_list.or bi0).or bi1) he hl hh) λ σ H Q aa=>by
 obtain⟨c,H0,ρ,d,ac,R,f,q⟩:=aa;unfold aI7 at f;obtain⟨⟨x,O⟩,h1,f⟩:=a_1 f;obtain⟨⟨l,Z⟩,h2,f⟩:=a_1 f;obtain⟨⟨u,ab⟩,h3,f⟩:=a_1 f;obtain⟨d',Y,f⟩:=a_1 f;dsimp only at h2 h3 Y f;have f':some (d',ab)=some (d,ac):=f;cases f';refine⟨c,H0,ρ,x,O,R,h1,λ v H1 Hh s1 R1 r1=>?_⟩;refine⟨c,H1,O,l,Z,R1,h2,λ H2 Hh2 s2 R2=>?_⟩;refine⟨c,H2,Z,u,_,R2,h3,λ H3 Hh3 s3 M=>?_⟩;have r3:=Rep.mono s3 x (Rep.mono s2 x r1);cases x with
 |lst ds =>
  have e:D.lst (aC5 ds l u)=d:=qi Y;subst e;unfold Rep at r3;obtain⟨p,vs,rfl,s,t⟩:=r3;refine .inl (.inl ⟨p,vs,rfl,Same.seq M.same s,λ p' hp=>?_⟩);have S:=Step.alloc (o:=.lst (aC6 vs l u)) M.same hp;refine q _ _ _ (s1.trans (s2.trans (s3.trans S.s0))) (M.after S) ?_;unfold Rep;exact⟨p',_,rfl,.inl (.inl a_8),Reps.mono S.s0 _ (aP8 t l u)⟩
 |tup ds =>
  have h5:(if U_9 ds.length 0 l=0/\U_9 ds.length ds.length u=ds.length then none else some (D.tup (aC5 ds l u)))=some d:=Y;by_cases hn:U_9 ds.length 0 l=0/\U_9 ds.length ds.length u=ds.length
  ·rw[if_pos hn] at h5;cases h5
  ·rw[if_neg hn] at h5;cases h5;unfold Rep at r3;obtain⟨p,vs,rfl,s,t⟩:=r3;refine .inl (.inr ⟨p,vs,rfl,Same.seqT M.same s,?_,λ p' hp=>?_⟩)
   ·rw[<- T_9,<- T_9,<- t.length];exact hn
   have S:=Step.alloc (o:=.tup (aC6 vs l u)) M.same hp;refine q _ _ _ (s1.trans (s2.trans (s3.trans S.s0))) (M.after S) ?_;unfold Rep;exact⟨p',_,rfl,.inl (.inl a_8),Reps.mono S.s0 _ (aP8 t l u)⟩
 |str z =>
  obtain⟨hz,rfl⟩:=ifs (c:=z.length<=sizeLine) Y;unfold Rep at r3;exact .inr ⟨z,r3,hz,q _ H3 Hh3 (s1.trans (s2.trans s3)) M (ac6 H3 _)⟩
 |_=>cases Y
theorem OpR.or {f:Value->Value->Sem Value}{r O:R2} (h:OpR X f r) (h':OpR X f O):OpR X f (λ x y H Q=>r x y H Q\/O x y H Q):=by
 intro pins s σ H x y v u Q I z M q;rcases q with q | q
 ·exact h pins s σ H x y v u Q I z M q
 ·exact h' pins s σ H x y v u Q I z M q
theorem bq1:OpD K (rIn K false) dIn:=bq2 λ x y d e=>by
 cases y with
 |tup xs=>obtain⟨h,rfl⟩:=ifs (c:=ab4 x xs=true) e;exact⟨xs,.inl rfl,h,rfl⟩
 |lst xs=>obtain⟨h,rfl⟩:=ifs (c:=ab4 x xs=true) e;exact⟨xs,.inr rfl,h,rfl⟩
 |_=>cases e
theorem bI3:E_6 X .In bc6:=⟨_,OpR.or au7 au6,λ c H0 H ρ σ x y d O Y Q R M z e q=>by
 cases y with
 |tup xs=>rw[bs8] at e;exact .inl (bq1 c H0 H ρ σ x (.tup xs) d O Y Q R M z e q)
 |lst xs=>rw[bs9] at e;exact .inl (bq1 c H0 H ρ σ x (.lst xs) d O Y Q R M z e q)
 |str b =>
  cases x with
  |str a =>
   have e':some (D.bl (inS a b))=some d:=e;cases e';unfold Rep at M z;subst M z;exact .inr ⟨a,b,rfl,rfl,q _ H0 H (Same.refl _) R (z_5 _ _)⟩
  |_=>cases e
 |_=>cases x <;> cases e⟩
end
section
variable {X:Cx}{pos:Pos}
theorem bS2 {x:Str}{i:Int} (h:∃ t,X.mg x=some (.int i t)) (M:Gl X x:=by rfl) (Y:(x==("__debug__":Str))=false:=by decide):XE X (.Name x pos) (zI i):=by
 obtain⟨t,h⟩:=h;exact PE.wk (ad0 M h (v:=.int i) ⟨t,rfl⟩ Y) λ σ H Q z=>by
  obtain⟨c,H0,ρ,d,O,R,f,q⟩:=z;obtain⟨rfl,rfl⟩:=K_5 f;exact q _ H0 H (Same.refl _) R (g_0 _ _)
theorem bS1 {x z:Str} (h:∃ t,X.mg x=some (.str z t)) (O:Gl X x:=by rfl) (Z:(x==("__debug__":Str))=false:=by decide):XE X (.Name x pos) (eC (.str z)):=by
 obtain⟨t,h⟩:=h;exact PE.wk (ad0 O h (v:=.str z) ⟨t,rfl⟩ Z) λ σ H Q M=>by
  obtain⟨c,H0,ρ,d,Y,R,f,q⟩:=M;obtain⟨rfl,rfl⟩:=K_5 f;exact q _ H0 H (Same.refl _) R (ac6 _ _)
end
end Fx
namespace Fx
open PySem
section
variable {prog:Program}{w:World}{K:Type} [DecidableEq K] {knd:KeyKind prog w K}{A:Around}{E:Value->Shared->Prop}{s:Shared}
inductive PairsAt (knd:KeyKind prog w K) (h:Heap):List Value->List (K×Value)->Prop
 |nil:PairsAt knd h [] []
 |cons {p:Addr}{u v:Value}{k:K}{us:List Value}{kvs:List (K×Value)} (a:h.IsTuple p #[u,v]) (b:knd.is k u=true) (r:PairsAt knd h us kvs):PairsAt knd h (.ref p::us) ((k,v)::kvs)
end
end Fx
namespace Fx
open PySem PySem.Spec PyProof.Rows L2
def KV1 (K:Frag) (d:D) (u:Value):Prop:=∃ v,RelV v u/\∀ H,Rep K H d v
def KVs (K:Frag) (ds:List D) (us:List Value):Prop:=∃ vs,Vals vs us/\∀ H,Reps K H ds vs
section
variable {K:Frag}
theorem aO7:KV1 K .non .none:=⟨.non,rfl,λ H=>by unfold Rep;rfl⟩
theorem z_7 {i:Int}{t:Tok}:KV1 K (.int i) (.int i t):=⟨.int i,⟨t,rfl⟩,λ H=>g_0 H i⟩
theorem J_7:KVs K [] []:=⟨[],.nil,λ H=>Reps.nil_⟩
theorem n_9 {d:D}{ds:List D}{u:Value}{us:List Value} (a:KV1 K d u) (b:KVs K ds us):KVs K (d::ds) (u::us):=by obtain⟨v,r,p⟩:=a;obtain⟨vs,z,ps⟩:=b;exact⟨v::vs,.cons r z,λ H=>Reps.cons (p H) (ps H)⟩
theorem Y_5 {a:Addr}{us:List Value}{n:Nat}{M:Array (Option Value)}{ds:List D} (l:K.lookup a=some ⟨.type "tuple",none,.seq us.toArray n,M⟩) (hz:us.length ≤ 1000) (h:KVs K ds us):KV1 K (.tup ds) (.ref a):=by
 obtain⟨vs,z,ps⟩:=h;refine⟨.ref a,rfl,λ H=>?_⟩;unfold Rep;refine⟨a,vs,rfl,.inr ⟨_,us.toArray,n,l,rfl,rfl,rfl,?_,?_⟩,ps H⟩
 ·rw[Qb];exact Zi (V_6 hz)
 ·exact z
end
inductive PV (K:Frag) (H:Hp):List V->List (Key×V)->Prop
 |nil:PV K H [] []
 |cons {a:Addr}{k:Str}{v:V}{vs:List V}{kvs:List (Key×V)} (p:SqT K H a [.str k,v]) (r:PV K H vs kvs):PV K H (.ref a::vs) ((.inr k,v)::kvs)
section
variable {X:Cx}
theorem bx1 {x:Str}{d:D}{pos:Pos} (h:∃ a,X.mg x=some (.ref a) ∧ KV1 X.K d (.ref a)) (Y:Gl X x:=by rfl) (hd:(x==("__debug__":Str))=false:=by decide):XE X (.Name x pos) (eC d):=by
 obtain⟨a,h,v,Z,O⟩:=h;exact PE.wk (ad0 Y h (v:=v) Z hd) λ σ H Q z=>by
  obtain⟨c,H0,ρ,d,M,R,f,q⟩:=z;obtain⟨rfl,rfl⟩:=K_5 f;exact q _ H0 H (Same.refl _) R (O H0)
end
structure YE (X:Cx) (e:Expr) (F:FE):Prop where
 go:XE X e F
structure YA (X:Cx) (es:List Expr) (F:FA):Prop where
 go:XA X es F
structure YS (X:Cx) (st:Stmt) (F:FS):Prop where
 go:XS X st F
structure YSs (X:Cx) (st:List Stmt) (F:FS):Prop where
 go:XSs X st F
section
variable {X:Cx}{a b e:Expr}{es:List Expr}{F G:FE}{A:FA}{pos:Pos}{st:Stmt}{ss body:List Stmt}{B C:FS}{T:FT}
theorem ye (h:XE X e F):YE X e F:=⟨h⟩
theorem yb {op:Operator}{f:D->D->Option D} (o:U_5 X op f) (ha:YE X a F) (z:YE X b G):YE X (.BinOp a op b pos) (e2 f F G):=⟨xb o ha.go z.go⟩
theorem yix (ha:YE X a F) (z:YE X b G) (hs:ag0 b:=by intro _ _;rfl):YE X (.Subscript a b pos) (e2 a_9 F G):=⟨b_3 ha.go z.go hs⟩
theorem aC8 (h:YA X es A):YE X (.List es pos) (x_6 A):=⟨U_6 h.go⟩
theorem v_7 {x1} (h:YA X es A):YE X (.Tuple es x1 pos) (e_1 A):=⟨z_4 h.go⟩
theorem yaN:YA X [] aN:=⟨xaN⟩
theorem yaC (ha:YE X e F) (hr:YA X es A) (hs:starEach (e::es) X.env=(false,eval e X.env)::starEach es X.env:=by rfl):YA X (e::es) (aC F A):=⟨xaC ha.go hr.go hs⟩
theorem yx (h:XS X st B):YS X st B:=⟨h⟩
theorem ysN:YSs X [] sN:=⟨xsN⟩
theorem ys1 (h:YS X st B):YSs X [st] B:=⟨xs1 h.go⟩
theorem ysC (h:YS X st B) (k:YSs X ss C):YSs X (st::ss) (b_7 B C):=⟨xsC h.go k.go⟩
theorem x_5 (i:Nat) {x:Str}{pos':Pos} (O:X.N.Nodup) (M:YE X e F) (hi:X.N[i]?=some x:=by rfl) (z:Loc X.env.scope x:=by first | exact Or.inl rfl | exact Or.inr rfl) (hs:swapsWith e (some (.Name x pos')) pos.line X.env=pure false:=by rfl)
  (hf:X.fn x=true\/X.env.scope.names.lookup x=some .local:=by first | exact .inl rfl | exact .inr rfl):YS X (.Assign [.Name x pos'] e pos) (c_8 i F):=⟨n_7 i O M.go hi z hs hf⟩
theorem aQ7 (z:YE X e F):YS X (.Return (some e) pos) (e_5 F):=⟨f_8 z.go⟩
theorem yif (z:XT X e T) (ha:YSs X ss B) (M:YSs X body C):YS X (.If e ss body pos) (sIf T B C):=⟨s_4 z ha.go M.go⟩
theorem bu7 {g:GD} (M:XG X a g) (hi:YE X b F) (O:YSs X body B) (hp:PassesOwn (model X.prog X.w) X.A X.env X.xe:=by exact Zv) (z:X.calm=true:=by rfl) (hs:∀ x,foldedSetIterable b X.env x=pure x:=by intro _;rfl) :
  YS X (.For a b body [] pos) (U_7 g F B):=⟨aR0 M hi.go O.go hp z hs⟩
theorem bg3 {g:GD}{p pos':Pos} (hm:X.mg "range"=none) (O:XG X b g) (ha:XE X a F) (Z:YSs X body B) (z:Gl X "range":=by rfl) (hp:PassesOwn (model X.prog X.w) X.A X.env X.xe:=by exact Zv) (Y:X.calm=true:=by rfl)
  (M:starEach [a] X.env=[(false,eval a X.env)]:=by rfl) (hs:∀ x,foldedSetIterable (.Call (.Name "range" p) [a] [] pos') X.env x=pure x:=by intro _;rfl):YS X (.For b (.Call (.Name "range" p) [a] [] pos') body [] pos) (F_5 g (aN5 F) B):=⟨ag3 hm O ha Z.go z hp Y M hs⟩
end
end Fx
namespace Fx
open PySem
noncomputable def kS:D->Option Str
 |.str k=>some k
 |_=>none
@[simp] theorem cc5 (k:Str):kS (.str k)=some k:=zR rfl
def sDN (i:Nat) (ρ:En):Option Res:=some (.nx (ρ.set i (.ow false (.dic []))))
@[simp] theorem cc2 (i:Nat) (ρ:En):sDN i ρ=some (.nx (ρ.set i (.ow false (.dic [])))):=zR rfl
noncomputable def nOw:Option Sl->Option MO
 |some (.ow false o)=>some o
 |_=>none
@[simp] theorem bW8 (o:MO):nOw (some (.ow false o))=some o:=zR rfl
def aG5 (i:Nat) (ρ:En):Option MO:=nOw ρ[i]?
@[simp] theorem bL7 (i:Nat) (ρ:En):aG5 i ρ=nOw ρ[i]?:=zR rfl
def sXa (o:Option (D×En)):Option Res:=bnd o λ p=>some (.nx p.2)
def sX (F:FE) (ρ:En):Option Res:=sXa (F ρ)
@[simp] theorem sX_ (F:FE) (ρ:En):sX F ρ=sXa (F ρ):=zR rfl
@[simp] theorem bU1 (d:D) (ρ:En):sXa (some (d,ρ))=some (.nx ρ):=zR rfl
mutual
noncomputable def nd:D->Bool
 |.opq _ _=>false
 |.dct _ _=>false
 |.tup xs=>nds xs
 |.lst xs=>nds xs
 |_=>true
noncomputable def nds:List D->Bool
 |[]=>true
 |d::r=>nd d&&nds r
end
def sNo:FS:=λ _=>none
end Fx
namespace Fx
open PySem PySem.Spec PyProof.Rows L2
section
variable {K:Frag}{H:Hp}
theorem aM1 {k:Str}:∀ {kds:List (Str×D)}{vs:List V},Reps K H (kds.map (·.2)) vs->Z_0 k kds=none->valV (ab7 (kds.map (·.1)) vs) (.inr k)=none
 |[],_,_,_=>rfl
 |q::r,vs,t,e=>by
  rw[Qa] at t;unfold Reps at t;obtain⟨v,O,rfl,_,M⟩:=t;rw[Qa,H_2];unfold Z_0 at e;by_cases hk:q.1=k
  ·rw[if_pos hk] at e;cases e
  ·rw[if_neg hk] at e;rw[k_4 λ z=>hk (Jd z)];exact aM1 M e
end
section
variable {X:Cx}{pos:Pos}{e:Expr}{F G:FE}{A:FA}
theorem xdn (i:Nat) {x:Str}{p p2:Pos} (M:X.N.Nodup) (hi:X.N[i]?=some x:=by rfl) (O:Loc X.env.scope x:=by first | exact Or.inl rfl | exact Or.inr rfl) (hs:swapsWith (.Dict [] [] p2) (some (.Name x p)) pos.line X.env=pure false:=by rfl)
  (hf:X.fn x=true\/X.env.scope.names.lookup x=some .local:=by first | exact .inl rfl | exact .inr rfl):XS X (.Assign [.Name x p] (.Dict [] [] p2) pos) (sDN i) :=
 PS.wk (W_4 M hi O aF7 hs hf) λ Z σ H z=>by
  obtain⟨c,H0,ρ,r,R,f,q⟩:=z;have Y:some (Res.nx (ρ.set i (.ow false (.dic []))))=some r:=f;cases Y;exact λ a ha=>q _ H0 _ (Same.refl _) (R.setOwn (o:=.dic []) (u:=.dK []) i ha ⟨[],[],by rw[a_8];rfl,rfl,Reps.nil_⟩)
theorem xsx (Y:XE X e F) (hs:swapsWith e none pos.line X.env=pure false:=by rfl):XS X (.Expr e pos) (sX F):=PS.wk (Q_6 Y hs) λ Dn σ H M=>by
 obtain⟨c,H0,ρ,r,R,f,q⟩:=M;unfold sX sXa at f;obtain⟨⟨d,z⟩,h1,f⟩:=a_1 f;have f':some (Res.nx z)=some r:=f;cases f';exact⟨c,H0,ρ,d,z,R,h1,λ v H1 O Z R1 _=>q σ H1 O Z R1⟩
theorem xnO (i:Nat) {x:Str}{p z:Pos} (Y:X.N[i]?=some x:=by rfl) (hv:Vis X.env.scope x:=by first | exact Or.inl rfl | exact Or.inr (Or.inl rfl) | exact Or.inr (Or.inr rfl)) (Z:(x==("__debug__":Str))=false:=by decide) (O:(x==("__classdict__":Str))=false:=by decide) :
  XN X [.Return (some (.Name x p)) z] (aG5 i) :=
 PSs.wk (D_6 (at4 (t_1 Y hv Z O))) λ Dn σ H M=>by
  obtain⟨Hi,He,H0,ρ,o,R,f,q⟩:=M;unfold aG5 nOw at f;split at f
  ·rename_i o' hz;cases f;obtain⟨a,e1,e2,e3,ok⟩:=R.ow i false _ hz;exact⟨_,e1,q a H0 H ⟨R.init,R.same,λ b u h=>R.keep b u h (by simp),R.fresh,e2,e3,ok⟩⟩
  ·cases f
end
end Fx
namespace Fx
open PySem
def bg0 (F G:FE) (ρ:En):Option (D×En):=bnd (F ρ) λ p=>bnd (az2 p.1) λ b=>if b=true then some p else G p.2
def bc2 (x:D) (ρ:En) (G:FE) (o:Option Bool):Option (D×En):=bnd o λ b=>if b=true then some (x,ρ) else G ρ
def br8 (G:FE) (o:Option (D×En)):Option (D×En):=bnd o λ p=>bc2 p.1 p.2 G (az2 p.1)
@[simp] theorem bY7 (F G:FE) (ρ:En):bg0 F G ρ=br8 G (F ρ):=zR rfl
@[simp] theorem bF8 (G:FE) (x:D) (ρ:En):br8 G (some (x,ρ))=bc2 x ρ G (az2 x):=zR rfl
@[simp] theorem bF7 (x:D) (ρ:En) (G:FE) (b:Bool):bc2 x ρ G (some b)=if b=true then some (x,ρ) else G ρ:=zR rfl
noncomputable abbrev Ky:=List (List Int)
mutual
noncomputable def fK:D->Ky
 |.int i=>[[i]]
 |.str s=>[s.cps.toList.map Int.ofNat]
 |.tup xs=>fKs xs
 |_=>[]
noncomputable def fKs:List D->Ky
 |[]=>[]
 |d::r=>fK d++fKs r
end
def ltK (a b:D):Bool:=decide (fK a<fK b)
def aH6 (x:D):List D->List D
 |[]=>[x]
 |y::r=>if ltK y x=true then y::aH6 x r else x::y::r
def sortT:List D->List D
 |[]=>[]
 |x::r=>aH6 x (sortT r)
theorem mem_insT {x y:D}:∀ {l:List D},y∈aH6 x l↔y=x\/y∈l
 |[]=>by simp[aH6]
 |z::r=>by
  unfold aH6;split
  ·rw[Yd,mem_insT,Yd];exact⟨λ h=>by rcases h with h | h | h;exact .inr (.inl h);exact .inl h;exact .inr (.inr h),λ h=>by rcases h with h | h | h;exact .inr (.inl h);exact .inl h;exact .inr (.inr h)⟩
  ·rw[Yd]
theorem insT_perm {x:D}:∀ {l:List D},(aH6 x l).Perm (x::l)
 |[]=>Ja _
 |y::r=>by
  unfold aH6;split
  ·exact ((insT_perm (l:=r)).cons y).trans (List.Perm.swap x y r)
  ·exact Ja _
theorem q_4:∀ l:List D,(sortT l).Perm l
 |[]=>Ja _
 |x::r=>by unfold sortT;exact insT_perm.trans ((q_4 r).cons x)
theorem aw0 {a b c:Ky} (h1:¬ b<a) (h2:¬ c<b):¬ c<a:=List.not_lt.mpr (List.le_trans (List.not_lt.mp h1) (List.not_lt.mp h2))
theorem ax2 {x:D}:∀ {l:List D},(l.Pairwise λ a b=>ltK b a=false)->(aH6 x l).Pairwise λ a b=>ltK b a=false
 |[],_=>Jp _ _
 |y::r,h=>by
  unfold aH6;obtain⟨h1,h2⟩:=List.pairwise_cons.mp h;by_cases q:ltK y x=true
  ·rw[if_pos q];refine List.pairwise_cons.mpr ⟨λ z hz=>?_,ax2 h2⟩;rcases mem_insT.mp hz with rfl | hz
   ·unfold ltK at q ⊢;rw[Zm] at q;rw[Jm];exact List.not_lt.mpr (List.le_of_lt q)
   ·exact h1 z hz
  ·rw[if_neg q];have q:ltK y x=false:=by simpa using q
   refine List.pairwise_cons.mpr ⟨λ z hz=>?_,h⟩;rcases qw hz with rfl | hz
   ·exact q
   ·have M:=h1 z hz;unfold ltK at q M ⊢;rw[Jm] at q M ⊢;exact aw0 q M
theorem ah4:∀ l:List D,(sortT l).Pairwise λ a b=>ltK b a=false
 |[]=>List.Pairwise.nil
 |x::r=>by unfold sortT;exact ax2 (ah4 r)
theorem O_0 {l t:List D} (inj:∀ a b,a∈l->b∈l->fK a=fK b->a=b) (hp:t.Perm l) (hs:t.Pairwise λ a b=>ltK b a=false):t=sortT l:=by refine List.Perm.eq_of_pairwise (le:=λ a b=>ltK b a=false) (λ a b ha z p q=>?_) hs (ah4 l) (hp.trans (q_4 l).symm);unfold ltK at p q;rw[Jm] at p q;exact inj a b (hp.mem_iff.mp ha) ((q_4 l).mem_iff.mp z) (List.le_antisymm (List.not_lt.mp p) (List.not_lt.mp q))
theorem ak1 {p q:Nat->Bool}:∀ {l:List Nat},(∀ x,p x=true->q x=true)->(∃ x∈l,q x=true/\p x=false)->l.countP p<l.countP q
 |[],_,h=>by obtain⟨x,h,_⟩:=h;cases h
 |y::r,hi,h=>by
  have le:r.countP p<=r.countP q:=List.countP_mono_left λ x _=>hi x;obtain⟨x,z,h1,h2⟩:=h;rcases qw z with rfl | z
  ·rw[List.countP_cons_of_neg (by rw[h2];exact qq),Jr h1];omega
  ·have M:=ak1 hi ⟨x,z,h1,h2⟩;cases hp:p y with
   |true=>rw[Jr hp,Jr (hi y hp)];omega
   |false =>
    rw[List.countP_cons_of_neg (by rw[hp];exact qq)];exact qr M (by rw[List.countP_cons];omega)
def am3 (n:Nat) (key:Nat->Ky) (i:Nat):Nat:=(List.range n).countP λ k=>decide (key k<key i)
theorem G_4 {n:Nat}{key:Nat->Ky}{i j:Nat} (hi:i<n):am3 n key i<am3 n key j↔key i<key j:=by
 constructor
 ·intro h;by_cases c:key i<key j
  ·exact c
  ·have le:am3 n key j<=am3 n key i:=List.countP_mono_left λ x _ M=>by
    rw[Zm] at M ⊢;refine Decidable.byContradiction λ z=>c (List.lt_of_le_of_lt (List.not_lt.mp z) M)
   omega
 ·intro c;refine ak1 (λ x M=>?_) ⟨i,List.mem_range.mpr hi,Qk c,Qh (Z5 _)⟩;rw[Zm] at M ⊢;exact List.lt_trans M c
noncomputable def r3:D->Bool
 |.tup [.int _,.str _,.int _]=>true
 |_=>false
noncomputable def r22:D->Bool
 |.tup [.tup [.str _,.int _],.tup [.int _,.int _]]=>true
 |_=>false
def C_7:List D->Option D
 |[.lst xs]=>if xs.length<64/\(xs.all r3=true\/xs.all r22=true) then some (.lst (sortT xs)) else none
 |_=>none
@[simp] theorem aK9 (xs:List D):C_7 [.lst xs]=if xs.length<64/\(xs.all r3=true\/xs.all r22=true) then some (.lst (sortT xs)) else none:=zR rfl
def bt5:List D->Option D
 |[.lst xs]=>bnd (y_2 xs) λ is=>some (.int is.sum)
 |_=>none
theorem bt4 (xs:List D):bt5 [.lst xs]=bnd (y_2 xs) λ is=>some (.int is.sum):=rfl
noncomputable def two:D->Option (D×D)
 |.tup [a,b]=>some (a,b)
 |_=>none
def aA6 (T:FT) (F:FE) (fr:En):List D->Option (List D)
 |[]=>some []
 |d::r=>bnd (two d) λ q=>bnd (T (.im q.1::.im q.2::fr)) λ p=>if p.1=true then bnd (F p.2) λ z=>bnd (aA6 T F fr r) λ t=>some (z.1::t) else aA6 T F fr r
theorem aK5 (T:FT) (F:FE) (fr:En):aA6 T F fr []=some []:=rfl
theorem aa1 (T:FT) (F:FE) (fr:En) (d:D) (r:List D):aA6 T F fr (d::r)=bnd (two d) λ q=>bnd (T (.im q.1::.im q.2::fr)) λ p=>if p.1=true then bnd (F p.2) λ z=>bnd (aA6 T F fr r) λ t=>some (z.1::t) else aA6 T F fr r:=rfl
def bs0 (js:List Nat) (I:FE) (T:FT) (F:FE) (ρ:En):Option (D×En):=bnd (I ρ) λ p=>bnd (items p.1) λ xs=>bnd (Y_8 p.2 js) λ fr=>bnd (aA6 T F fr xs) λ ys=>if xs.length<=sizeLine then some (.lst ys,p.2) else none
noncomputable def be8:D->Option Str
 |.tup [.int _,.str k,.int _]=>some k
 |_=>none
def dKx (kds:List (Str×D)):D->Option D
 |.str k=>Z_0 k kds
 |_=>none
@[simp] theorem ca5 (kds:List (Str×D)) (k:Str):dKx kds (.str k)=Z_0 k kds:=zR rfl
def aI9 (ρ:En) (k:Str) (d:D) (o:Option (Bool×List (Str×D))):Option (D×En):=bnd o λ q=>some ((Z_0 k q.2).getD d,ρ)
def aJ0 (i:Nat) (k:Str) (o:Option (D×En)):Option (D×En):=bnd o λ p=>aI9 p.2 k p.1 (owD p.2[i]?)
def aJ1 (i:Nat) (F:FE) (ρ:En) (o:Option Str):Option (D×En):=bnd o λ k=>aJ0 i k (F ρ)
def aJ2 (i:Nat) (F:FE) (o:Option (D×En)):Option (D×En):=bnd o λ p=>aJ1 i F p.2 (kS p.1)
def aJ3 (i:Nat) (G F:FE) (ρ:En) (o:Option (Bool×List (Str×D))):Option (D×En):=bnd o λ _=>aJ2 i F (G ρ)
def bg1 (i:Nat) (G F:FE) (ρ:En):Option (D×En):=aJ3 i G F ρ (owD ρ[i]?)
@[simp] theorem bZ2 (i:Nat) (G F:FE) (ρ:En):bg1 i G F ρ=aJ3 i G F ρ (owD ρ[i]?):=zR rfl
@[simp] theorem bH2 (i:Nat) (G F:FE) (ρ:En) (q:Bool×List (Str×D)):aJ3 i G F ρ (some q)=aJ2 i F (G ρ):=zR rfl
@[simp] theorem bH1 (i:Nat) (F:FE) (d:D) (ρ:En):aJ2 i F (some (d,ρ))=aJ1 i F ρ (kS d):=zR rfl
@[simp] theorem bH0 (i:Nat) (F:FE) (ρ:En) (k:Str):aJ1 i F ρ (some k)=aJ0 i k (F ρ):=zR rfl
@[simp] theorem bG9 (i:Nat) (k:Str) (d:D) (ρ:En):aJ0 i k (some (d,ρ))=aI9 ρ k d (owD ρ[i]?):=zR rfl
@[simp] theorem bG8 (ρ:En) (k:Str) (d:D) (b:Bool) (kds:List (Str×D)):aI9 ρ k d (some (b,kds))=some ((Z_0 k kds).getD d,ρ):=zR rfl
noncomputable def N_7 (k:Str) (d:D):List (Str×List D)->List (Str×List D)
 |[]=>[(k,[d])]
 |q::r=>if q.1=k then (q.1,q.2++[d])::r else q::N_7 k d r
def E_0:List D->List (Str×List D)->Option (List (Str×List D))
 |[],g=>some g
 |d::r,g=>bnd (be8 d) λ k=>E_0 r (N_7 k d g)
noncomputable def K_3 (g:List (Str×List D)):List (Str×D):=g.map λ q=>(q.1,.lst q.2)
def w_9 (j:Nat) (xs:List D) (ρ:En):En:=match xs.getLast? with
 |some d=>ρ.set j (.im d)
 |none=>ρ
def as1 (j i:Nat) (xs:List D) (ρ:En) (o:Option (List (Str×List D))):Option Res:=bnd o λ g=>some (.nx (w_9 j xs (ρ.set i (.ow false (.dic (K_3 g))))))
def as2 (j i:Nat) (xs:List D) (ρ:En) (o:Option (Bool×List (Str×D))):Option Res:=bnd o λ q=>if q.1=false/\q.2=[]/\xs.length<=1000/\j≠i/\j<ρ.length then as1 j i xs ρ (E_0 xs []) else none
def aD8 (j i:Nat) (o:Option (D×En)):Option Res:=bnd o λ p=>match p.1 with
 |.lst xs=>as2 j i xs p.2 (owD p.2[i]?)
 |_=>none
def bv1 (j i:Nat) (F:FE) (ρ:En):Option Res:=aD8 j i (F ρ)
@[simp] theorem bU7 (j i:Nat) (F:FE) (ρ:En):bv1 j i F ρ=aD8 j i (F ρ):=zR rfl
@[simp] theorem bz9 (j i:Nat) (xs:List D) (ρ:En):aD8 j i (some (.lst xs,ρ))=as2 j i xs ρ (owD ρ[i]?):=zR rfl
@[simp] theorem bz8 (j i:Nat) (xs:List D) (ρ:En) (b:Bool) (kds:List (Str×D)):as2 j i xs ρ (some (b,kds))=if b=false/\kds=[]/\xs.length<=1000/\j≠i/\j<ρ.length then as1 j i xs ρ (E_0 xs []) else none:=zR rfl
@[simp] theorem bz7 (j i:Nat) (xs:List D) (ρ:En) (g:List (Str×List D)):as1 j i xs ρ (some g)=some (.nx (w_9 j xs (ρ.set i (.ow false (.dic (K_3 g)))))):=zR rfl
noncomputable def bm6:Option Sl->Option (List D)
 |some (.ow false (.lst ds))=>some ds
 |_=>none
@[simp] theorem bL1 (ds:List D):bm6 (some (.ow false (.lst ds)))=some ds:=zR rfl
end Fx
namespace Fx
open PySem PySem.Spec PyProof.Rows L2
inductive KEnt (w:World) (K:Frag):List DictEntry->List (Str×D)->Prop
 |nil:KEnt w K [] []
 |cons {k:Str}{d:D}{t:Tok}{v:Value}{es:List DictEntry}{kds:List (Str×D)}:KV1 K d v->KEnt w K es kds->KEnt w K (⟨hashStr w k,.str k t,v⟩::es) ((k,d)::kds)
def bR2 (w:World) (K:Frag) (a:Addr) (kds:List (Str×D)):Prop:=∃ es n,K.lookup a=some {cls:=.type "dict",data:=.dict es n} ∧ (a==sysModules)=false ∧ KEnt w K es.toList kds ∧ (kds.map (·.1)).Nodup
theorem KEnt.all {w:World}{K:Frag}:∀ {es:List DictEntry}{kds:List (Str×D)},KEnt w K es kds->∃ vs:List (Key×Value),vs.map (·.1)=kds.map (λ q=>Sum.inr q.1) /\
  (∀ (P:Program),PySem.Pairs (c_9 P w) es vs)/\(∀ (P:Program),∀ e∈es,∃ k,(c_9 P w).is k e.key=true/\e.hash=(c_9 P w).hash k) /\
  ∀ k d,Z_0 k kds=some d->∃ u,valueAt vs (.inr k)=some u/\KV1 K d u
 |_,_,.nil=>⟨[],rfl,λ _=>.nil,λ _ e h=>(by cases h),λ k d h=>(by cases h)⟩
 |_,_,.cons (k:=k) (d:=d) (t:=t) (v:=v) (es:=es) (kds:=kds) h r=>by
  obtain⟨vs,e1,e2,e3,Y⟩:=r.all;refine⟨(.inr k,v)::vs,by rw[Qa,Qa,e1],λ P=>.cons (A_9 P w k t) rfl (e2 P),λ P e M=>?_,λ O d' hk=>?_⟩
  ·rcases qw M with rfl | M
   ·exact⟨.inr k,A_9 P w k t,rfl⟩
   ·exact e3 P e M
  ·unfold Z_0 at hk;unfold valueAt;rw[Q2];by_cases z:k=O
   ·subst z;rw[if_pos rfl] at hk;cases hk;exact⟨v,by simp,h⟩
   ·rw[if_neg z] at hk;obtain⟨u,e5,Z⟩:=Y O d' hk;refine⟨u,?_,Z⟩;rw[Qh (λ y=>z (Jd y))];exact e5
section
variable {X:Cx}{pos:Pos}{e k:Expr}{F G:FE}{A:FA}
theorem xkd {x:Str}{kds:List (Str×D)}{p:Pos} (h:∃ a,X.mg x=some (.ref a) ∧ bR2 X.w X.K a kds) (hk:XE X k G) (hg:Gl X x:=by rfl) (hd:(x==("__debug__":Str))=false:=by decide) (hs:bw6 k:=by exact λ _ _=>rfl) :
  XE X (.Subscript (.Name x p) k pos) (e1 (dKx kds) G):=by
 obtain⟨a,hm,es,n,hl,lo,ke,nd⟩:=h;obtain⟨vs,af,ad,aa,ae⟩:=ke.all;intro pins s σ H Q I ⟨c,H0,ρ,d,O,R,f,q⟩;unfold e1 at f;obtain⟨⟨y,ab⟩,h1,f⟩:=a_1 f;obtain⟨d',h2,f⟩:=a_1 f;have f':some (d',ab)=some (d,O):=f;cases f';refine ar5 PySem.F.slot_dict_getitem.lookup hs (ae7 I hg hm (thn (hk pins s σ H (λ v M=>∃ H1,Same H0 H1/\RS X.K c H1 M O σ/\Rep X.K H1 y v) I ⟨c,H0,ρ,y,_,R,h1,λ v H1 M s1 R1 Z=>⟨H1,s1,R1,Z⟩⟩) λ iv s2 Y=>?_) hd);obtain⟨v,M,I2,rv,H1,s1,R1,Z⟩:=Y;cases y with
 |str kk =>
  unfold Rep at Z;subst Z;obtain⟨u,e5,w,rw,rp⟩:=ae kk d h2;have dd:s2.heap.DictOf (c_9 X.prog X.w) a vs:=⟨_,es,n,I2.kIn a _ hl,⟨rfl,rfl,rfl⟩,rfl,λ e he=>aa X.prog e (by simpa using he),ad X.prog,by
   rw[af];exact List.pairwise_map.mpr ((List.pairwise_map.mp nd).imp λ ac z=>ac (Jd z))⟩
  exact⟨dd.typeIs,wpAny_getItem_of (aH4 (k:=.inr kk) rv) dd.mapOf e5 ⟨w,M,I2.tok _,rw,q w H1 M s1 R1 (rp H1)⟩⟩
 |_=>cases h2
end
theorem bD3 {d:D}{k:Str} (h:kS d=some k):d=.str k:=by
 cases d with
 |str z=>cases h;rfl
 |_=>cases h
section
variable {X:Cx}{pos:Pos}{e k:Expr}{F G:FE}{A:FA}
theorem bS3 (i:Nat) {x:Str}{p ap cp:Pos} (hu:X.A.units+1<cLine) (hk:XE X k G) (he:XE X e F) (m:M2 X (.Name x p) "get" ap k e cp:=by exact⟨rfl,rfl,rfl,rfl⟩) (hN:X.N[i]?=some x:=by rfl) (hv:Vis X.env.scope x:=by first | exact Or.inl rfl | exact Or.inr (Or.inl rfl) | exact Or.inr (Or.inr rfl)) (hd:(x==("__debug__":Str))=false:=by decide)
  (aa:(x==("__classdict__":Str))=false:=by decide):XE X (.Call (.Attribute (.Name x p) "get" ap) [k,e] [] cp) (bg1 i G F) :=
 PE.wk (aF8 hu (t_1 hN hv hd aa) hk he m) λ σ H Q Z=>by
  obtain⟨c,H0,ρ,d,ad,R,f,q⟩:=Z;unfold bg1 aJ3 at f;obtain⟨⟨b0,ae⟩,h1,f⟩:=a_1 f;unfold aJ2 at f;obtain⟨⟨y,Y⟩,h2,f⟩:=a_1 f;unfold aJ1 at f;obtain⟨O,h3,f⟩:=a_1 f;unfold aJ0 at f;obtain⟨⟨z,ac⟩,h4,f⟩:=a_1 f;unfold aI9 at f;obtain⟨⟨b,kds⟩,h5,f⟩:=a_1 f;have f':some ((Z_0 O kds).getD z,ac)=some (d,ad):=f;cases f';have hy:y=.str O:=bD3 h3;subst hy;obtain⟨a,e1,_,_,ag,af,ab,rfl,t0⟩:=R.ow i b0 _ (au4 h1);refine⟨_,e1,a,rfl,.inl ⟨_,.inl ab⟩,c,H0,ρ,_,Y,R,h2,λ v H1 Hh s1 R1 r1=>⟨c,H1,Y,z,_,R1,h4,λ u H2 Hh2 s2 R2 r2=>?_⟩⟩;unfold Rep at r1;subst r1;obtain⟨a2,e2,_,_,ks,vs,e4,rfl,t⟩:=R2.ow i b _ (au4 h5);rw[e1] at e2;cases e2;refine⟨_,DGet.k (k:=.inr O) e4,q _ H2 Hh2 (s1.trans s2) R2 ?_⟩;cases g:Z_0 O kds with
  |some d' =>
   obtain⟨v,w1,w2⟩:=aM0 t g;have M:valV ((List.map Sum.inr (kds.map (·.1))).zip vs) (Sum.inr O)=some v:=w1;rw[M];exact w2
  |none =>
   have M:valV ((List.map Sum.inr (kds.map (·.1))).zip vs) (Sum.inr O)=none:=aM1 t g;rw[M];exact r2
end
def bJ8 (td ty tx:TE):TE:=λ σ H Q=>td σ H λ x H1=>∃ a,x=.ref a/\IsD H1 a/\ty σ H1 λ y H2=>tx σ H2 λ z O=>∃ M k,O a=some (.dK M)/\y=kV k/\M.length<sizeLine /\
 (∀ v,valV M k=some v->Q v O)/\(valV M k=none->Q z (upd O a (.dK (W_3 M k z))))
theorem bm1 {X:Cx}{o e f:Expr}{apos cpos:Pos}{td ty tx:TE} (ho:PE X o td) (he:PE X e ty) (hf:PE X f tx) (m:M2 X o "setdefault" apos e f cpos):PE X (.Call (.Attribute o "setdefault" apos) [e,f] [] cpos) (bJ8 td ty tx):=by
 intro pins s σ H Q I h;refine wpAny_Call_method m.base m.few m.line Jn Yb PySem.F.type_dict_setdefault (thn (ho pins s σ H _ I h) λ u s1 aa=>?_);obtain⟨x,H1,I1,rx,a,ex,d,q1⟩:=aa;subst ex;obtain rfl:u=Value.ref a:=rx;obtain⟨t1,t2,_⟩:=aP1 I1 d;refine⟨t1,t2,?_⟩;rw[m.trees];refine Z9 rfl (Yv (Zt (thn (he pins s1 σ H1 _ I1 q1) λ iv s2 ⟨y,H2,I2,ry,q2⟩ =>
  Zt (thn (hf pins s2 σ H2 _ I2 q2) λ fv s3 ⟨z,H3,I3,rz,M,k,ea,ey,lz,q3,q4⟩=>Jf ?_))))
 subst ey;obtain⟨zz,hd,vs,O,dd⟩:=bH9 I3.hok ea;refine call_meetsIn Yb dd.typeIs PySem.F.entry_dict_setdefault (Uw _ _ _) (kt_meets_setdefault (c_9 X.prog X.w) a (aH4 ry) hd fv) ⟨vs,dd,by rw[<- O.length];exact zz,λ v hv=>?_,λ hn h' Z hs=>?_⟩
 ·have hr:=O.val k;cases l:valV M k with
  |none=>rw[l] at hr;have:=RelO.none_of hr;rw[this] at hv;cases hv
  |some x =>
   rw[l] at hr;obtain⟨w',hw,Y⟩:=RelO.some_of hr;rw[hw] at hv;cases hv;exact⟨x,H3,I3.tok _,Y,q3 x l⟩
 ·have l:valV M k=none:=by
   cases l:valV M k with
   |none=>rfl
   |some x =>
    have hr:=O.val k;rw[l] at hr;obtain⟨w',hw,Y⟩:=RelO.some_of hr;rw[hw] at hn;cases hn
  have hz:(W_3 M k z).length<=sizeLine:=by have:=ae6 M k z;omega
  have he:∃ q,h'.get? a=some q:=let ⟨q,_,_,hq,_⟩:=Z;⟨q,hq⟩;exact⟨z,_,az1 (t':=s3.toks+1) I3 (by rw[ea];exact Yt) hs he (bs3 hz hd (O.put k rz) Z),rz,q4 l⟩
noncomputable def F_4:D->D->Bool
 |.int _,.int _=>true
 |.str _,.str _=>true
 |_,_=>false
def h_9:List D->List D->Bool
 |[],[]=>true
 |d::r,e::t=>F_4 d e&&h_9 r t
 |_,_=>false
noncomputable def ltF:D->D->Bool
 |.int i,.int j=>decide (i<j)
 |.str a,.str b=>decide (a.cps.toList<b.cps.toList)
 |_,_=>false
def N_3:List D->List D->Bool
 |d::r,e::t=>if eqD d e=true then N_3 r t else ltF d e
 |_,_=>false
theorem aO3:∀ (l m:List Nat),(l.map Int.ofNat<m.map Int.ofNat)↔l<m
 |[],[]=>by simp
 |[],_::_=>by simp
 |_::_,[]=>by simp
 |a::l,b::m=>by
  rw[Qa,Qa,Zc,Zc,aO3 l m];have h1:(Int.ofNat a<Int.ofNat b)↔a<b:=Int.ofNat_lt;have h2:(Int.ofNat a=Int.ofNat b)↔a=b:=Int.ofNat_inj;rw[h1,h2]
theorem au8 (a b:List Int):([a]:Ky)<[b]↔a<b:=by rw[Zc];exact⟨λ h=>h.elim id λ z=>absurd z.2 (Z5 _),.inl⟩
theorem G_3 {d e:D} (h:F_4 d e=true):(eqD d e=true↔d=e)/\(fK d=fK e↔d=e)/\(ltF d e=true↔fK d<fK e)/\(∃ k,fK d=[k])/\∃ k,fK e=[k]:=by
 cases d with
 |int i =>
  cases e with
  |int j =>
   have e1:fK (.int i)=[[i]]:=by unfold fK;rfl
   have e2:fK (.int j)=[[j]]:=by unfold fK;rfl
   rw[e1,e2];refine⟨by simp,by simp,?_,⟨_,rfl⟩,_,rfl⟩;rw[au8,Zc];show decide (i<j)=true↔_;rw[Zm];exact⟨.inl,λ z=>z.elim id λ y=>absurd y.2 (Z5 _)⟩
  |_=>cases h
 |str a =>
  cases e with
  |str b =>
   have e1:fK (.str a)=[a.cps.toList.map Int.ofNat]:=by unfold fK;rfl
   have e2:fK (.str b)=[b.cps.toList.map Int.ofNat]:=by unfold fK;rfl
   rw[e1,e2];refine⟨by simp,?_,?_,⟨_,rfl⟩,_,rfl⟩
   ·constructor
    ·intro z;have O:a.cps.toList.map Int.ofNat=b.cps.toList.map Int.ofNat:=(List.cons.inj z).1;have M:a.cps.toList=b.cps.toList:=List.map_inj_right (λ x y q=>Int.ofNat.inj q) |>.mp O
     obtain⟨⟨Y⟩⟩:=a;obtain⟨⟨Z⟩⟩:=b;cases M;rfl
    ·intro z;cases z;rfl
   ·rw[au8,aO3];show decide (a.cps.toList<b.cps.toList)=true↔_;rw[Zm]
  |_=>cases h
 |_=>cases h
theorem i_6 (d:D) (r:List D):fKs (d::r)=fK d++fKs r:=by rw[fKs]
theorem v_0:∀ {ds es:List D},h_9 ds es=true->ds.length=es.length/\(fKs ds).length=(fKs es).length
 |[],[],_=>⟨rfl,rfl⟩
 |[],_::_,h=>by cases h
 |_::_,[],h=>by cases h
 |d::r,e::t,h=>by
  unfold h_9 at h;rw[Qx] at h;obtain⟨_,_,_,⟨k,e1⟩,z,e2⟩:=G_3 h.1;obtain⟨h1,h2⟩:=v_0 h.2;exact⟨by simp[h1],by rw[i_6,i_6,e1,e2];simp[h2]⟩
theorem q_5:∀ {ds es:List D},h_9 ds es=true->(fKs ds=fKs es↔ds=es)
 |[],[],_=>by simp
 |[],_::_,h=>by cases h
 |_::_,[],h=>by cases h
 |d::r,e::t,h=>by
  unfold h_9 at h;rw[Qx] at h;obtain⟨_,q,_,⟨k,e1⟩,Y,e2⟩:=G_3 h.1;have O:=q_5 h.2;rw[i_6,i_6];constructor
  ·intro z;rw[e1,e2] at z;have M:k::fKs r=Y::fKs t:=z;injection M with z1 z2
   rw[q.mp (by rw[e1,e2,z1]),O.mp z2]
  ·intro z;cases z;rfl
theorem J_6:∀ {ds es:List D},h_9 ds es=true->N_3 ds es=decide (fKs ds<fKs es)
 |[],[],_=>by
  have:fKs []=[]:=by rw[fKs]
  rw[this];exact (Qh (Z5 _)).symm
 |[],_::_,h=>by cases h
 |_::_,[],h=>by cases h
 |d::r,e::t,h=>by
  unfold h_9 at h;rw[Qx] at h;obtain⟨Y,q2,q3,⟨k,e1⟩,M,e2⟩:=G_3 h.1;have ih:=J_6 h.2;unfold N_3;rw[i_6,i_6,e1,e2];show _=decide (k::fKs r<M::fKs t);by_cases z:eqD d e=true
  ·have:k=M:=by have:=Y.mp z;subst this;rw[e1] at e2;exact (List.cons.inj e2).1
   subst this;rw[if_pos z,ih];refine decide_eq_decide.mpr ?_;rw[Zc];exact⟨λ y=>.inr ⟨rfl,y⟩,λ y=>y.elim (λ y=>absurd y (Z5 _)) (·.2)⟩
  ·rw[if_neg z];have ne:k≠M:=λ y=>z (Y.mpr (q2.mp (by rw[e1,e2,y])));have e3:ltF d e=decide (k<M):=by
    have Z:ltF d e=true↔k<M:=by rw[q3,e1,e2,au8]
    cases O:ltF d e with
    |true=>exact (Qk (Z.mp O)).symm
    |false=>exact (Qh λ y=>by rw[Z.mpr y] at O;cases O).symm
   rw[e3];refine decide_eq_decide.mpr ?_;rw[Zc];exact⟨.inl,λ y=>y.elim id λ y=>absurd y.1 ne⟩
end Fx
namespace Fx
open PySem PySem.W PyProof.Rows
noncomputable def WpT {α:Type} (lt:Nat->Nat->Bool) (n:Nat) (P:α->Prop):KasT α->Prop
 |.ret a=>P a
 |.ask i j k=>i<n/\j<n/\WpT lt n P (k (lt i j))
theorem WpT.bind {α M:Type}{lt:Nat->Nat->Bool}{n:Nat}{P:α->Prop}{z:M->Prop}{f:α->KasT M} (h:∀ a,P a->WpT lt n z (f a)):∀ t:KasT α,WpT lt n P t->WpT lt n z (t.bind f)
 |.ret a,q=>h a q
 |.ask i j k,q=>⟨q.1,q.2.1,WpT.bind h (k (lt i j)) q.2.2⟩
theorem WpT.run {α:Type}{lt:Nat->Nat->Bool}{n:Nat}{P:α->Prop}{J:Shared->Prop}{z:Nat->Nat->(Bool->Shared->Prop)->Shared->Prop}{Q:α->Shared->Prop}
  (O:∀ i j C s,i<n->j<n->J s->(∀ s',J s'->C (lt i j) s')->z i j C s) (hq:∀ a s,P a->J s->Q a s):∀ (t:KasT α) (s:Shared),WpT lt n P t->J s->t.kasWp z Q s
 |.ret a,s,h,j=>hq a s h j
 |.ask i j k,s,h,js=>O i j _ s h.1 h.2.1 js λ s' M=>WpT.run O hq (k (lt i j)) s' h.2.2 M
section
variable {n:Nat}{r:Nat->Nat}
noncomputable abbrev ltR (r:Nat->Nat) (i j:Nat):Bool:=decide (r i<r j)
structure OkP (n:Nat) (p:Array Nat):Prop where
 size:p.size=n
 perm:p.toList.Perm (List.range n)
noncomputable def KP (r:Nat->Nat) (p:Array Nat) (k:Nat):Nat:=r (p.getD k 0)
theorem OkP.lt {p:Array Nat} (h:OkP n p) (z:0<n) (k:Nat):p.getD k 0<n:=by
 by_cases hk:k<p.size
 ·rw[Q5,getElem?_pos p k hk];have:p[k]∈p.toList:=by simp
  exact List.mem_range.mp (h.perm.mem_iff.mp this)
 ·rw[Q5,getElem?_neg p k hk];exact z
theorem D_1 {p q:Array Nat}{i j:Nat} (h:p[i]?=q[j]?):KP r p i=KP r q j:=by unfold KP;rw[Q5,Q5,h]
theorem OkP.rev {p:Array Nat} (h:OkP n p) (i j:Nat):OkP n (kas_rev p i j):=⟨(mirror_size _ _ _ _).trans h.size,(Array.perm_iff_toList_perm.mp (mirror_perm _ _ _ _)).trans h.perm⟩
theorem OkP.bub {p:Array Nat} (h:OkP n p) (k d:Nat):OkP n (bubble p k d):=⟨(bubble_size _ _ _).trans h.size,(Array.perm_iff_toList_perm.mp (bubble_perm _ _ _)).trans h.perm⟩
theorem aC2 {p:Array Nat}{i j:Nat} (z:j<=p.size) (k:Nat):KP r (kas_rev p i j) k=if i<=k/\k<j then KP r p (i+j-1-k) else KP r p k:=by
 have e:=getElem?_mirror_all (xs:=p) (i:=i) z k;by_cases h1:i<=k/\k<j
 ·rw[if_pos h1] at e ⊢;exact D_1 e
 ·rw[if_neg h1] at e ⊢;exact D_1 e
theorem aQ6 {p:Array Nat}{k d:Nat} (hs:k<p.size) (z:d<=k) (i:Nat):KP r (bubble p k d) i=if i=k-d then KP r p k else if k-d<i/\i<=k then KP r p (i-1) else KP r p i:=by
 have e:=getElem?_bubble hs d z i;by_cases h1:i=k-d
 ·rw[if_pos h1] at e ⊢;exact D_1 e
 ·rw[if_neg h1] at e ⊢;by_cases h2:k-d<i/\i<=k
  ·rw[if_pos h2] at e ⊢;exact D_1 e
  ·rw[if_neg h2] at e ⊢;exact D_1 e
def ab6 (r:Nat->Nat) (p:Array Nat) (m:Nat):Prop:=∀ i j,i<=j->j<m->KP r p i<=KP r p j
def bu6 (r:Nat->Nat) (p:Array Nat) (m:Nat):Prop:=∀ i j,i<=j->j<m->KP r p j<=KP r p i
def Eqs (r:Nat->Nat) (p:Array Nat) (a b:Nat):Prop:=∀ i,a<=i->i<b->KP r p i=KP r p (b-1)
theorem L_5 {p:Array Nat}{i j:Nat} (z:j<=p.size) (e:Eqs r p i j) (k:Nat):KP r (kas_rev p i j) k=KP r p k:=by
 rw[aC2 z];split
 ·rw[e _ (by omega) (by omega),e k (by omega) (by omega)]
 ·rfl
theorem aB6 {p:Array Nat} (hp:OkP n p):∀ f m,1<=m->m+f<=n->ab6 r p m->WpT (ltR r) n (λ M=>m<=M/\M<=m+f/\ab6 r p M/\(M<m+f->KP r p M<KP r p (M-1))) (kas_asc p f m)
 |0,m,h1,h2,h3=>⟨qj _,qj _,h3,λ z=>absurd z (Zf _)⟩
 |f+1,m,h1,h2,h3=>by
  refine⟨hp.lt (by omega) _,hp.lt (by omega) _,?_⟩;by_cases c:KP r p m<KP r p (m-1)
  ·rw[show ltR r (p.getD m 0) (p.getD (m-1) 0)=true from Qk c];dsimp only;rw[if_pos rfl];exact⟨qj _,by omega,h3,λ _=>c⟩
  ·rw[show ltR r (p.getD m 0) (p.getD (m-1) 0)=false from Qh c];dsimp only;rw[if_neg Qi];have Z:ab6 r p (m+1):=λ i j Y hj=>by
    by_cases z:j<m
    ·exact h3 i j Y z
    ·have:j=m:=by omega
     subst this;by_cases w:i=j
     ·subst w;exact qj _
     ·exact Qq (h3 i (j-1) (by omega) (by omega)) (Z4 c)
   have O:=aB6 hp f (m+1) (by omega) (by omega) Z;rw[show m+1+f=m+(f+1) by omega] at O;have mono:∀ (t:KasT Nat),WpT (ltR r) n (λ M=>m+1<=M/\M<=m+(f+1)/\ab6 r p M/\(M<m+(f+1)->KP r p M<KP r p (M-1))) t->WpT (ltR r) n (λ M=>m<=M/\M<=m+(f+1)/\ab6 r p M/\(M<m+(f+1)->KP r p M<KP r p (M-1))) t:=by
    intro t;induction t with
    |ret a=>exact λ h=>⟨by have:=h.1;omega,h.2⟩
    |ask i j k O=>exact λ h=>⟨h.1,h.2.1,O _ h.2.2⟩
   exact mono _ O
def bu4 (n:Nat) (r:Nat->Nat) (z:Array Nat×Nat×Nat):Prop:=OkP n z.1/\1<=z.2.1/\z.2.1<=n/\z.2.2+1<=z.2.1/\bu6 r z.1 z.2.1/\Eqs r z.1 (z.2.1-(z.2.2+1)) z.2.1
theorem T_7:∀ f (p:Array Nat) m q,OkP n p->q+1<=m->m+f<=n->bu6 r p m->Eqs r p (m-(q+1)) m->WpT (ltR r) n (bu4 n r) (kas_desc f p m q)
 |0,p,m,q,hp,h1,h2,h3,h4=>⟨hp,(show 1<=m by omega),(show m<=n by omega),h1,h3,h4⟩
 |f+1,p,m,q,hp,h1,h2,h3,h4=>by
  have sz:=hp.size;have one:∀ M:Array Nat,Eqs r M (m+1-(0+1)) (m+1):=λ M i a b=>by rw[show i=m+1-1 by omega]
  have more:∀ M:Array Nat,(∀ k,KP r M k=KP r p k)->KP r p m<=KP r p (m-1)->bu6 r M (m+1):=λ M e c i j O Z=>by
   rw[e,e];by_cases z:j<m
   ·exact h3 i j O z
   ·have:j=m:=by omega
    subst this;by_cases w:i=j
    ·subst w;exact qj _
    ·exact Qq c (h3 i (j-1) (by omega) (by omega))
  refine⟨hp.lt (by omega) _,hp.lt (by omega) _,?_⟩;by_cases c:KP r p m<KP r p (m-1)
  ·rw[show ltR r (p.getD m 0) (p.getD (m-1) 0)=true from Qk c];dsimp only;rw[if_pos rfl];split
   ·have e:=L_5 (r:=r) (p:=p) (i:=m-(q+1)) (j:=m) (by omega) h4;exact T_7 f _ (m+1) 0 (hp.rev _ _) (by omega) (by omega) (more _ e (Zi c)) (one _)
   ·exact T_7 f p (m+1) 0 hp (by omega) (by omega) (more p (λ _=>rfl) (Zi c)) (one _)
  ·rw[show ltR r (p.getD m 0) (p.getD (m-1) 0)=false from Qh c];dsimp only;rw[if_neg Qi];refine⟨hp.lt (by omega) _,hp.lt (by omega) _,?_⟩;by_cases d:KP r p (m-1)<KP r p m
   ·rw[show ltR r (p.getD (m-1) 0) (p.getD m 0)=true from Qk d];dsimp only;rw[if_pos rfl];exact⟨hp,(show 1<=m by omega),(show m<=n by omega),h1,h3,h4⟩
   ·rw[show ltR r (p.getD (m-1) 0) (p.getD m 0)=false from Qh d];dsimp only;rw[if_neg Qi];have Y:KP r p m=KP r p (m-1):=by omega
    refine T_7 f p (m+1) (q+1) hp (by omega) (by omega) (more p (λ _=>rfl) (by omega)) λ i a b=>?_;rw[show m+1-1=m by omega];by_cases z:i<m
    ·rw[h4 i (by omega) z,Y]
    ·rw[show i=m by omega]
def be2 (n:Nat) (r:Nat->Nat) (z:Nat×Array Nat):Prop:=OkP n z.2/\1<=z.1/\z.1<=n/\ab6 r z.2 z.1
theorem ag9 {p:Array Nat}{m:Nat} (hp:OkP n p) (h1:1<=m) (h2:m<=n) (M:bu6 r p m):WpT (ltR r) n (be2 n r) (kas_tail3 m n p):=by
 have sz:=hp.size;have O:ab6 r (kas_rev p 0 m) m:=λ i j z hj=>by
  rw[aC2 (by omega),aC2 (by omega),if_pos ⟨by omega,by omega⟩,if_pos ⟨by omega,by omega⟩];exact M _ _ (by omega) (by omega)
 refine WpT.bind (λ a h=>?_) _ (aB6 (hp.rev 0 m) (n-m) m h1 (by omega) O);obtain⟨g1,Z,Y,_⟩:=h;exact⟨hp.rev _ _,(show 1<=a by omega),(show a<=n by omega),Y⟩
theorem K_6 {p:Array Nat}{m:Nat} (hp:OkP n p) (h2:m+1<=n) (h3:bu6 r p (m+1)):WpT (ltR r) n (be2 n r) (kas_descPart m n p):=by
 refine WpT.bind (λ z h=>?_) _ (T_7 (n-(m+1)) p (m+1) 0 hp (by omega) (by omega) h3 λ i a b=>by rw[show i=m+1-1 by omega]);obtain⟨O,Y,g3,g4,Z,g6⟩:=h;have sz:=O.size;split
 ·have e:=L_5 (r:=r) (p:=z.1) (i:=z.2.1-(z.2.2+1)) (j:=z.2.1) (by omega) g6;exact ag9 (O.rev _ _) Y g3 λ i j M hj=>by rw[e,e];exact Z i j M hj
 ·exact ag9 O Y g3 Z
theorem aJ7 {p:Array Nat} (hn:1<=n) (hp:OkP n p):WpT (ltR r) n (be2 n r) (kas_count n p):=by
 have sz:=hp.size;refine WpT.bind (λ m h=>?_) _ (aB6 (r:=r) hp (n-1) 1 (qj _) (by omega) λ i j M Z=>by rw[show i=j by omega];exact qj _);obtain⟨g1,g2,O,g4⟩:=h;by_cases e:m=n
 ·rw[if_pos (by rw[e];exact beq_self_eq_true _)];exact⟨hp,g1,by omega,O⟩
 ·rw[if_neg (by simpa using e)];have c:=g4 (by omega);split
  ·refine⟨hp.lt (by omega) _,hp.lt (by omega) _,?_⟩;by_cases d:KP r p 0<KP r p (m-1)
   ·rw[show ltR r (p.getD 0 0) (p.getD (m-1) 0)=true from Qk d];dsimp only;rw[if_pos rfl];exact⟨hp,g1,by omega,O⟩
   ·rw[show ltR r (p.getD 0 0) (p.getD (m-1) 0)=false from Qh d];dsimp only;rw[if_neg Qi];have all:Eqs r p 0 m:=λ i _ b=>by
     have a1:=O 0 i (Qw _) b;have a2:=O i (m-1) (by omega) (by omega);omega
    have Y:=L_5 (r:=r) (p:=p) (i:=0) (j:=m) (by omega) all;refine K_6 (hp.rev _ _) (by omega) λ i j M Z=>?_;rw[Y,Y];by_cases z:j<m
    ·rw[all i (Qw _) (by omega),all j (Qw _) z];exact qj _
    ·have:j=m:=by omega
     subst this;by_cases w:i<j
     ·rw[all i (Qw _) w];exact Zi c
     ·rw[show i=j by omega];exact qj _
  ·have:m=1:=by omega
   subst this;refine K_6 hp (by omega) λ i j M Z=>?_;by_cases z:i=j
   ·rw[z];exact qj _
   ·rw[show i=0 by omega,show j=1 by omega];exact Zi c
theorem Q_8 {p:Array Nat}{k:Nat} (hp:OkP n p) (hk:k<n) (h:ab6 r p k):∀ f l q,l<=q->q<=k->q<=l+f->(∀ i,i<l->KP r p i<=KP r p k)->(∀ i,q<=i->i<k->KP r p k<KP r p i) ->
  WpT (ltR r) n (λ l=>l<=k/\(∀ i,i<l->KP r p i<=KP r p k)/\∀ i,l<=i->i<k->KP r p k<KP r p i) (kas_place p k f l q)
 |0,l,q,h1,h2,h3,h4,h5=>⟨by omega,h4,λ i a b=>h5 i (by omega) b⟩
 |f+1,l,q,h1,h2,h3,h4,h5=>by
  unfold kas_place;split
  ·exact⟨by omega,h4,λ i a b=>h5 i (by omega) b⟩
  ·refine⟨hp.lt (by omega) _,hp.lt (by omega) _,?_⟩;by_cases c:KP r p k<KP r p ((l+q) / 2)
   ·rw[show ltR r (p.getD k 0) (p.getD ((l+q) / 2) 0)=true from Qk c];dsimp only;rw[if_pos rfl];exact Q_8 hp hk h f l ((l+q) / 2) (by omega) (by omega) (by omega) h4 λ i a b=>qr c (h _ i a b)
   ·rw[show ltR r (p.getD k 0) (p.getD ((l+q) / 2) 0)=false from Qh c];dsimp only;rw[if_neg Qi];exact Q_8 hp hk h f ((l+q) / 2+1) q (by omega) h2 (by omega) (λ i a=>Qq (h i ((l+q) / 2) (by omega) (by omega)) (Z4 c)) h5
theorem aQ0:∀ f (p:Array Nat) k,OkP n p->k+f=n->ab6 r p k->WpT (ltR r) n (λ p=>OkP n p/\ab6 r p n) (kas_bin f p k)
 |0,p,k,hp,h1,h2=>⟨hp,by rw[show n=k by omega];exact h2⟩
 |f+1,p,k,hp,h1,h2=>by
  have sz:=hp.size;refine WpT.bind (λ l h=>?_) _ (Q_8 hp (by omega) h2 k 0 k (Qw _) (qj _) (by omega) (λ i z=>absurd z (Nat.not_lt_zero _)) λ i a b=>absurd b (by omega));obtain⟨g1,g2,g3⟩:=h;refine aQ0 f _ (k+1) (hp.bub _ _) (by omega) λ i j O hj=>?_;have bi:=aQ6 (r:=r) (p:=p) (k:=k) (d:=k-l) (by omega) (by omega) i;have bj:=aQ6 (r:=r) (p:=p) (k:=k) (d:=k-l) (by omega) (by omega) j;rw[show k-(k-l)=l by omega] at bi bj;rw[bi,bj];by_cases Y:i=l
  ·rw[if_pos Y];by_cases M:j=l
   ·rw[if_pos M];exact qj _
   ·rw[if_neg M,if_pos ⟨by omega,by omega⟩];exact Zi (g3 (j-1) (by omega) (by omega))
  ·rw[if_neg Y];by_cases Z:l<i/\i<=k
   ·rw[if_pos Z,if_neg (by omega),if_pos ⟨by omega,by omega⟩];exact h2 _ _ (by omega) (by omega)
   ·rw[if_neg Z];by_cases M:j=l
    ·rw[if_pos M];exact g2 i (by omega)
    ·rw[if_neg M];by_cases j2:l<j/\j<=k
     ·rw[if_pos j2];exact h2 _ _ (by omega) (by omega)
     ·rw[if_neg j2];exact h2 _ _ O (by omega)
theorem X_8:OkP n (List.toArray (List.range n)):=⟨by simp,by simp⟩
theorem aS3 (h2:1<=n):WpT (ltR r) n (λ p=>OkP n p/\ab6 r p n) (kas_sort n):=by
 refine WpT.bind (λ z h=>?_) _ (aJ7 h2 X_8);obtain⟨M,Y,Z,O⟩:=h;split
 ·rw[show max z.1 1=z.1 by omega];exact aQ0 _ _ _ M (by omega) O
 ·exact⟨M,by rw[show n=z.1 by omega];exact O⟩
end
end Fx
namespace Fx
open PySem PySem.Spec PyProof.Rows L2
noncomputable def bd9:D->Value->Prop
 |.int i,v=>∃ t,v=.int i t
 |.str a,v=>∃ t,v=.str a t
 |_,_=>False
inductive Flats:List D->List Value->Prop
 |nil:Flats [] []
 |cons {d:D}{u:Value}{ds:List D}{us:List Value} (h:bd9 d u) (r:Flats ds us):Flats (d::ds) (u::us)
theorem Flats.length {ds:List D}{us:List Value} (h:Flats ds us):ds.length=us.length:=by
 induction h with
 |nil=>rfl
 |cons _ _ z=>simp[z]
theorem Z_3 (A:Around) (s:Shared) {d e:D}{u v:Value} (h:F_4 d e=true) (M:bd9 d u) (z:bd9 e v):SeqAt.EqAt A s u v (eqD d e):=by
 cases d with
 |int i =>
  cases e with
  |int j =>
   obtain⟨t,rfl⟩:=M;obtain⟨w,rfl⟩:=z;rw[show eqD (.int i) (.int j)=(i==j) by rw[eqD]];exact Y7 i t j w
  |_=>cases h
 |str a =>
  cases e with
  |str b =>
   obtain⟨t,rfl⟩:=M;obtain⟨w,rfl⟩:=z;rw[show eqD (.str a) (.str b)=(a==b) by rw[eqD]];exact SeqAt.EqAt.str_str a t b w
  |_=>cases h
 |_=>cases h
theorem W_0 (A:Around) (s:Shared) {d e:D}{u v:Value} (h:F_4 d e=true) (O:bd9 d u) (M:bd9 e v) (prog:Program) (w:World) (E:Value->Shared->Prop) (Q:Value->Shared->Prop) (q:Q (.bool (ltF d e)) s) :
  wpAny (model prog w) A (richCompare .Lt u v) Q E s:=by
 cases d with
 |int i =>
  cases e with
  |int j =>
   obtain⟨t,rfl⟩:=O;obtain⟨z,rfl⟩:=M;exact (PyProof.Rows.lt_int q:wpAny (model prog w) A (compareOp .Lt (.int i t) (.int j z)) Q E s)
  |_=>cases h
 |str a =>
  cases e with
  |str b =>
   obtain⟨t,rfl⟩:=O;obtain⟨z,rfl⟩:=M;exact (PyProof.Rows.lt_str (by simpa [ltF] using q):wpAny (model prog w) A (compareOp .Lt (.str a t) (.str b z)) Q E s)
  |_=>cases h
 |_=>cases h
section
open PySem.SeqAt
open PySem.AutoSeq1 (wpAny_loadPart')
open PySem.MeetsSeq PySem.MeetsSeq2 PySem.MeetsSeq3
theorem Q_1 (l b:Addr) (items z:Array Value) (n n2:Nat) (dd ag:Option Addr) (sl ah:Array (Option Value)) (ds es:List D) (hi:Flats ds items.toList) (hj:Flats es z.toList) (hs:h_9 ds es=true) :
  Meets (Builtin.«tuple.__lt__» ⟨[.ref l,.ref b],[]⟩)
   (λ _ R s=>s.heap.get? l=some {cls:=.type "tuple",dict:=dd,data:=.seq items n,slots:=sl} ∧ s.heap.get? b=some {cls:=.type "tuple",dict:=ag,data:=.seq z n2,slots:=ah} ∧
    R (.ok (.ret (.bool (N_3 ds es)))) s) :=
 .of_wp λ prog w A R s h=>by
  obtain⟨hp,g,d,tk,os⟩:=s;obtain⟨hl,hb,h⟩:=h;have f2:=AutoSeq1.sub_tuple_tuple;have z1:items.size=ds.length:=by rw[hi.length];simp
  have z2:z.size=es.length:=by rw[hj.length];simp
  have z3:=(v_0 hs).1;wp_walk using Yi hl,Yi hb,wpAny_forIn_list _ (λ rest b s'=>b.1=none/\s'=⟨hp,g,d,tk,os⟩/\∃ (vs ws:List Value) (M O:List D),rest=vs.zip ws /\
   Flats M vs/\Flats O ws/\h_9 M O=true/\R (.ok (.ret (.bool (N_3 M O)))) ⟨hp,g,d,tk,os⟩) _
  case turn =>
   rintro ⟨y,x⟩ rest b s' ⟨aa,rfl,vs,ws,M,O,hz,ac,ab,Y,Z⟩;cases ac with
   |nil=>rw[List.zip_nil_left] at hz;cases hz
   |@cons dx ux aj ak hd ae =>
    cases ab with
    |nil=>rw[List.zip_nil_right] at hz;cases hz
    |@cons ex vx am al af ad =>
     rw[Z8] at hz;injection hz with hyx hrest
     injection hyx with hy hx
     subst hy hx;unfold h_9 at Y;rw[Qx] at Y;unfold N_3 at Z;refine qc (Z_3 A.in1 ⟨hp,g,d,tk,os⟩ Y.1 hd af prog w _ _ ?_);cases hq:eqD dx ex with
     |true =>
      rw[hq,if_pos rfl] at Z;wp_walk;exact⟨rfl,rfl,_,_,_,_,hrest,ae,ad,Y.2,Z⟩
     |false =>
      rw[hq,if_neg Qi] at Z;have ai:=W_0 A.in1 ⟨hp,g,d,tk,os⟩ Y.1 hd af prog w;wp_walk using ai;exact⟨_,rfl,by simpa using Z⟩
  case fin =>
   rintro ⟨b1,b2⟩ s' ⟨aa,rfl,vs,ws,M,O,hz,ac,ab,Y,Z⟩;simp only at aa;subst aa;have hv:N_3 M O=decide (items.size<z.size):=by
    rw[Qh (by omega)];cases ac with
    |nil=>unfold N_3;rfl
    |cons a hv =>
     cases ab with
     |nil=>unfold N_3;rfl
     |cons c hw=>rw[Z8] at hz;cases hz
   rw[hv] at Z;wp_walk;exact⟨_,rfl,by simpa [Builtin.Tuple.tupleCompareSizes] using Z⟩
  case h =>
   exact⟨rfl,rfl,items.toList,z.toList,ds,es,rfl,hi,hj,hs,h⟩
end
theorem O_8 {prog:Program}{w:World}{A:Around}{E:Value->Shared->Prop}{s:Shared}{l b:Addr}{items z:Array Value}{ds es:List D}{Q:Value->Shared->Prop} (hl:IsTup s.heap l items) (hb:IsTup s.heap b z) (hi:Flats ds items.toList) (hj:Flats es z.toList) (hs:h_9 ds es=true)
  (hu:A.units<cLine) (h:Q (.bool (N_3 ds es)) s):wpAny (model prog w) A (compareOp .Lt (.ref l) (.ref b)) Q E s:=by
 obtain⟨⟨cls,dd,data,sl⟩,ho,hc,n,hd⟩:=id hl;obtain⟨⟨ac,aa,Z,ab⟩,O,Y,n2,M⟩:=id hb;simp only at hc hd Y M;subst hc hd Y M;exact richCompare_meets_room (op:=.Lt) ⟨_,ho,rfl⟩ ⟨_,O,rfl⟩ PySem.F.slot_tuple_lt PySem.F.entry_tuple_lt (PySem.F.args_tuple_lt_2 _ _) (Q_1 l b items z n n2 dd aa sl ab ds es hi hj hs)
  ⟨ho,O,show Value.bool (N_3 ds es)≠Value.notImplemented/\Q (.bool (N_3 ds es)) s from ⟨(λ x=>nomatch x),h⟩⟩ hu
end Fx
namespace Fx
open PySem PySem.W PySem.Spec PyProof.Rows
section
variable {prog:Program}{w:World}{A:Around}{E:Value->Shared->Prop}{s:Shared}
structure Asks (prog:Program) (w:World) (A:Around) (s:Shared) (a:Addr) (vs:List Value) (κ:SortKind) (r:Nat->Nat):Prop where
 kind:2<=vs.length->∀ h',(∀ b o,b≠a->s.heap.get? b=some o->h'.get? b=some o)->∀ Q:SortKind->Shared->Prop,Q κ {s with heap:=h'}->wpAny (model prog w) A (keyKind' vs.toArray) Q (λ _ _=>False) {s with heap:=h'}
 ask:∀ h',(∀ b o,b≠a->s.heap.get? b=some o->h'.get? b=some o)->∀ i j,i<vs.length->j<vs.length->∀ C:Bool->Shared->Prop,C (ltR r i j) {s with heap:=h'}->kas_ask prog w A κ vs i j C {s with heap:=h'}
theorem ao7 (vs:List Value):(List.range vs.length).map (λ i=>vs.getD i Value.none)=vs:=by
 refine Jq (by simp) λ i h1 h2=>?_;simp[h2]
theorem N_0 {a:Addr}{vs:List Value}{n:Nat}{κ:SortKind}{r:Nat → Nat}{P:PySem.Fin → Shared → Prop} (ho:s.heap.get? a=some (seqObj "list" vs.toArray n)) (ad:vs.length<64) (k:Asks prog w A s a vs κ r)
  (fin:∀ p:Array Nat,OkP vs.length p->ab6 r p vs.length->P (.done (.ret .none)) {s with heap:=sortedHeap s.heap a vs (p.toList.map λ i=>vs.getD i Value.none).toArray}) :
  wpAny (model prog w) A (Builtin.«list.sort» ⟨[.ref a],[]⟩) P E s:=by
 rw[list_sort_plain];have ha:a<s.heap.objs.size:=qm ho;have big:(64:Nat)<=sizeLine:=by decide
 have af:vs.toArray.size=vs.length:=by simp
 refine qc (listItems_at ho rfl ?_);refine qc (listUpdate_at ho rfl ?_ (by omega) (Qw _));obtain⟨e1,ab⟩:∃ e1,(s.heap.update a (Obj.mapSeq λ _=>#[])).get? a=some (seqObj "list" #[] e1):=⟨_,get?_update_seq ho (λ _=>#[])⟩;refine qc (seqEpoch_at ab rfl ?_);refine qc (wpAny_newTuple ?_ (show vs.length<=_ by omega));refine qc (wpAny_newList ?_ (Qw _));refine Zz ?_;have up:∀ b o,b<s.heap.objs.size → (s.heap.update a (Obj.mapSeq λ _=>#[])).get? b=some o → (((s.heap.update a (Obj.mapSeq λ _=>#[])).push (seqObj "tuple" vs.toArray 0)).push (seqObj "list" #[] 0)).get? b=some o:=λ b o hb q=>qf _ (qf _ q);have ac:=up a _ ha ab;have keep:∀ b o,b≠a → s.heap.get? b=some o → (((s.heap.update a (Obj.mapSeq λ _=>#[])).push (seqObj "tuple" vs.toArray 0)).push (seqObj "list" #[] 0)).get? b=some o:=λ b o hb q =>
  up b o (qm q) (by rw[Heap.get?_update_ne _ _ _ _ hb];exact q)
 show wpAny (model prog w) A _ P E {s with heap:=((s.heap.update a (Obj.mapSeq λ _=>#[])).push (seqObj "tuple" vs.toArray 0)).push (seqObj "list" #[] 0)};dsimp only;have Z:∀ (p:Array Nat) (st:SortSt),OkP vs.length p->ab6 r p vs.length->(arrOf st).map (·.2)=(p.toList.map λ i=>vs.getD i Value.none).toArray->failedOf st=none->wpAny (model prog w) A (do
   let Y:=(<- seqEpoch a) != e1
   Builtin.List.listUpdate (.ref a) λ _=>(arrOf st).map (·.2)
   if let some e:=failedOf st then rule "list.sort.comparison-raised";throw e
   if Y then rule "list.sort.modified";raiseError "ValueError" "list modified during sort"
   ret .none) P E {s with heap:=((s.heap.update a (Obj.mapSeq λ _=>#[])).push (seqObj "tuple" vs.toArray 0)).push (seqObj "list" #[] 0)}:=λ p st op mo ar fa=>by
  refine qc (seqEpoch_at ac rfl ?_);rw[ar];have z:(p.toList.map λ i=>vs.getD i Value.none).toArray.size=vs.length:=by rw[Qb,Qg,Qu,op.size]
  refine qc (listUpdate_at ac rfl ?_ (Qw _) (by rw[z];omega));rw[fa];simp only[bne_self_eq_false,Bool.false_eq_true,Up];exact qd (fin p op mo)
 by_cases h2:vs.toArray.size<2
 ·rw[if_pos h2,if_pos h2];refine qc (qd ?_);rw[StateT.run_pure];refine qc (qd ?_);refine Z (List.toArray (List.range vs.length)) _ X_8 (λ i j ae hj=>by rw[show i=j by omega];exact qj _) ?_ rfl;show ((vs.toArray.zip vs.toArray).map (·.2))=_;rw[show (List.toArray (List.range vs.length)).toList=List.range vs.length from rfl,ao7];apply Array.toList_inj.mp;rw[Array.toList_map];simp[List.map_snd_zip]
 ·rw[if_neg h2,if_neg h2];refine qc (Q6 (k.kind (by omega) _ keep (λ aa s'=>aa=κ ∧ s'={s with heap:=((s.heap.update a (Obj.mapSeq λ _=>#[])).push (seqObj "tuple" vs.toArray 0)).push (seqObj "list" #[] 0)}) ⟨rfl,rfl⟩) (λ aa s' hk=>?_) λ _ _ x=>x.elim);obtain⟨rfl,rfl⟩:=hk;refine qc (Q6 (kat_run (Q:=λ O s'=>s'={s with heap:=((s.heap.update a (Obj.mapSeq λ _=>#[])).push (seqObj "tuple" vs.toArray 0)).push (seqObj "list" #[] 0)} ∧ ∃ p:Array Nat,OkP vs.length p ∧ ab6 r p vs.length ∧ arrOf O=p.map (kas_item (vs.toArray.zip vs.toArray)) ∧ failedOf O=none)
   (G:=λ p s'=>s'={s with heap:=((s.heap.update a (Obj.mapSeq λ _=>#[])).push (seqObj "tuple" vs.toArray 0)).push (seqObj "list" #[] 0)} ∧ OkP vs.length p ∧ ab6 r p vs.length) rfl (by omega) ad (λ p O s' _ a2 a3 a4=>⟨a4.1,p,a4.2.1,a4.2.2,a2,a3⟩)
   (WpT.run (lt:=ltR r) (n:=vs.length) (J:=λ s'=>s'={s with heap:=((s.heap.update a (Obj.mapSeq λ _=>#[])).push (seqObj "tuple" vs.toArray 0)).push (seqObj "list" #[] 0)}) (λ i j C s' hi hj M hC=>?_) (λ p s' hp M=>⟨M,hp.1,hp.2⟩) _ _ (aS3 (by omega)) rfl)) ?_ λ _ _ e=>e)
  ·subst M;exact k.ask _ keep i j hi hj C (hC _ rfl)
  ·rintro ⟨⟨⟩,O⟩ s' ⟨M,p,h1,h3,h4,h5⟩;dsimp only at M h4 h5;subst M;exact Z p O h1 h3 (kat_snds rfl h4) h5
theorem H_6 {it:Addr}{O:Obj}{n:Nat}{us:List Value}{κ:SortKind}{Q:Value → Shared → Prop}{r:Nat → Nat} (ho:s.heap.get? it=some O) (hc:O.cls=.type "list") (hd:O.data=.seq us.toArray n) (M:us.length<64)
  (k:∀ (h1:Heap) (a:Addr),(∀ b o,s.heap.get? b=some o->h1.get? b=some o)->s.heap.get? a=none->Asks prog w A.in1.in1 {s with heap:=h1} a us κ r)
  (fin:∀ (h1 h2:Heap) (p:Array Nat) (e:Nat),OkP us.length p → ab6 r p us.length → (∀ b o',s.heap.get? b=some o' → h1.get? b=some o') → (∀ b o',h1.get? b=some o' → h2.get? b=some o') → h2.get? h1.objs.size=some (seqObj "list" (p.toList.map λ i=>us.getD i Value.none).toArray e) → Q (.ref h1.objs.size) {s with heap:=h2}) :
  wpAny (model prog w) A (call (.builtin "sorted") [.ref it]) Q E s:=by
 refine Calls.call_function_entry kind_sorted plain_sorted entry_sorted (args_sorted1 _) ?_;unfold Builtin.«sorted»;refine qc (m:=checkCount "sorted" 1 1 _) (qd ?_);have hz:us.toArray.size<=sizeLine:=by rw[Qb,sizeLine_eq];omega
 refine qc (wpAny_collect_seq it (.inl rfl) ho hc hd (λ h1 Z=>?_) hz);refine qc (wpAny_newList ?_);have z:(h1.push (seqObj "list" us.toArray 0)).get? h1.objs.size=some (seqObj "list" us.toArray 0):=qk _ rfl;have Y:∀ b o,s.heap.get? b=some o → (h1.push (seqObj "list" us.toArray 0)).get? b=some o:=λ b o q=>qf _ (Z b o q);have new:s.heap.get? h1.objs.size=none:=by
  cases q:s.heap.get? h1.objs.size with
  |none=>rfl
  |some o=>exact absurd (qm (Z _ o q)) (Zf _)
 refine qc (Zz (Yr slot_list_sort ⟨_,z,rfl⟩ entry_list_sort (N_0 (s:={s with heap:=h1.push (seqObj "list" us.toArray 0)}) z M (k _ _ Y new) λ p op mo=>⟨_,rfl,?_⟩) (args_list_sort _)));obtain⟨e,he⟩:=sortedHeap_at (out:=(p.toList.map λ i=>us.getD i Value.none).toArray) z;refine qd ⟨_,rfl,fin h1 _ p e op mo Z (λ b o' hb=>?_) he⟩;have lt:b<h1.objs.size:=qm hb;show (sortedHeap (h1.push (seqObj "list" us.toArray 0)) h1.objs.size us (p.toList.map λ i=>us.getD i Value.none).toArray).get? b=some o';rw[sortedHeap_old (Nat.ne_of_lt lt) (by rw[size_push'];exact Nat.lt_succ_of_lt lt)];exact qf _ hb
end
end Fx
namespace Fx
open PySem PySem.W PySem.Spec PyProof.Rows L2
section
variable {prog:Program}{w:World}{A:Around}{E:Value->Shared->Prop}{s:Shared}{b:Bool}{Q:Bool->Shared->Prop}
theorem G_6 {p q:Value}{r:List (Value×Value)}{i:Nat}{e l:Bool}{fin:Bool} (Y:SeqAt.EqAt A s p q e) (O:∀ M:Bool->Shared->Prop,M l s->wpAny (model prog w) A (oneLt' (b&&i==0) p q) M (λ _ _=>False) s)
  (h1:e=true->KatLex prog w A b fin Q r (i+1) s) (h2:e=false->Q l s):KatLex prog w A b fin Q ((p,q)::r) i s :=
 kat_cons (Y prog w _ _ (kat_go (λ z=>kat_yes (h1 z)) λ z=>kat_no (O Q (h2 z))))
theorem am5 (c:Bool) {d e:D}{u v:Value} (h:F_4 d e=true) (z:bd9 d u) (M:bd9 e v) (O:Bool->Shared->Prop) (q:O (ltF d e) s):wpAny (model prog w) A (oneLt' c u v) O E s:=by
 cases c with
 |false=>exact kat_one u v (W_0 A s h z M prog w E _ q)
 |true =>
  cases d with
  |int i =>
   cases e with
   |int j=>obtain⟨t,rfl⟩:=z;obtain⟨Y,rfl⟩:=M;exact oneLt_int q
   |_=>cases h
  |str a =>
   cases e with
   |str b=>obtain⟨t,rfl⟩:=z;obtain⟨Y,rfl⟩:=M;exact oneLt_str q
   |_=>cases h
  |_=>cases h
theorem B_0:∀ (ds es:List D) {us vs:List Value}{i:Nat},h_9 ds es=true->Flats ds us->Flats es vs->Q (N_3 ds es) s->KatLex prog w A b false Q (us.zip vs) i s
 |[],[],_,_,i,h,f1,f2,q=>by
  cases f1;cases f2;unfold N_3 at q;exact kat_nil q
 |[],_::_,_,_,i,h,_,_,q=>by cases h
 |_::_,[],_,_,i,h,_,_,q=>by cases h
 |d::ds,e::es,_,_,i,h,f1,f2,q=>by
  cases f1 with
  |cons a r =>
   cases f2 with
   |cons M Y =>
    unfold h_9 at h;rw[Qx] at h;unfold N_3 at q;rw[Z8];refine G_6 (Z_3 A s h.1 a M) (λ O=>am5 _ h.1 a M O) (λ z=>?_) λ z=>?_
    ·rw[if_pos z] at q;exact B_0 ds es h.2 r Y q
    ·rw[if_neg (by rw[z];exact qq)] at q;exact q
end
theorem aQ2:∀ {a c:Ky}{x y:Ky},a.length=c.length->(a++x<c++y↔a<c\/(a=c/\x<y))
 |[],[],x,y,_=>by simp
 |[],_::_,_,_,h=>by cases h
 |_::_,[],_,_,h=>by cases h
 |k::a,l::c,x,y,h=>by
  rw[Yu,Yu,Zc,Zc,aQ2 (by simpa using h)];constructor
  ·rintro (z | ⟨rfl,z | ⟨rfl,z⟩⟩)
   ·exact .inl (.inl z)
   ·exact .inl (.inr ⟨rfl,z⟩)
   ·exact .inr ⟨rfl,z⟩
  ·rintro ((z | ⟨rfl,z⟩) | ⟨z,M⟩)
   ·exact .inl z
   ·exact .inr ⟨rfl,.inl z⟩
   ·injection z with z3 z4;subst z3 z4;exact .inr ⟨rfl,.inr ⟨rfl,M⟩⟩
theorem s_1 (xs:List D):fK (.tup xs)=fKs xs:=by rw[fK]
theorem K_4:fKs []=[]:=by rw[fKs]
theorem C_1:∀ {ds es:List D},h_9 ds es=true->(D_2 ds es=true↔ds=es)
 |[],[],_=>by simp
 |[],_::_,h=>by cases h
 |_::_,[],h=>by cases h
 |d::r,e::t,h=>by
  unfold h_9 at h;rw[Qx] at h;have q:=(G_3 h.1).1;have z:=C_1 h.2;rw[show D_2 (d::r) (e::t)=(eqD d e&&D_2 r t) by simp[D_2],Qx,q,z];simp
theorem aM4 {O Y Z M:List D} (h1:h_9 O Z=true) (h2:h_9 Y M=true):(if eqD (.tup O) (.tup Z)=true then (if eqD (.tup Y) (.tup M)=true then false else N_3 Y M) else N_3 O Z)=decide (fK (.tup [.tup O,.tup Y])<fK (.tup [.tup Z,.tup M])):=by
 have e:∀ x y:List D,fK (.tup [.tup x,.tup y])=fKs x++fKs y:=λ x y=>by rw[s_1,i_6,i_6,s_1,s_1,K_4,Qr]
 rw[e,e,J_6 h1,J_6 h2,B_1,B_1];have l:=aQ2 (a:=fKs O) (c:=fKs Z) (x:=fKs Y) (y:=fKs M) (v_0 h1).2;by_cases z:D_2 O Z=true
 ·rw[if_pos z];have z':=(C_1 h1).mp z;subst z';have l2:(fKs O++fKs Y<fKs O++fKs M)↔fKs Y<fKs M:=by rw[l];exact⟨λ y=>y.elim (λ y=>absurd y (Z5 _)) (·.2),λ y=>.inr ⟨rfl,y⟩⟩
  by_cases z2:D_2 Y M=true
  ·rw[if_pos z2];have aa:=(C_1 h2).mp z2;subst aa;exact (Qh (Z5 _)).symm
  ·rw[if_neg z2];exact decide_eq_decide.mpr l2.symm
 ·rw[if_neg z];refine decide_eq_decide.mpr ?_;rw[l];exact⟨.inl,λ y=>y.elim id λ y=>absurd ((C_1 h1).mpr ((q_5 h1).mp y.1)) z⟩
theorem as6 {d:D} (h:r3 d=true):∃ i a j,d=.tup [.int i,.str a,.int j]:=by
 unfold r3 at h;split at h
 ·exact⟨_,_,_,rfl⟩
 ·cases h
theorem W_1 {d:D} (h:r22 d=true):∃ a i j k,d=.tup [.tup [.str a,.int i],.tup [.int j,.int k]]:=by
 unfold r22 at h;split at h
 ·exact⟨_,_,_,_,rfl⟩
 ·cases h
section
variable {X:Cx}{pins:List (Addr×Obj)}{σ:L2.St}{H:Hp}{s:Shared}
theorem s_2 {K:Frag}:∀ {ds:List D}{vs:List V}{us:List Value},(∀ d∈ds,∃ e,F_4 d e=true)->Reps K H ds vs->Vals vs us->Flats ds us
 |[],vs,us,_,r,v=>by unfold Reps at r;subst r;cases v;exact .nil
 |d::ds,vs,us,h,r,v=>by
  unfold Reps at r;obtain⟨x,vr,rfl,z,Z⟩:=r;cases v with
  |cons O Y =>
   refine .cons ?_ (s_2 (λ e M=>h e (qh _ M)) Z Y);obtain⟨e,M⟩:=h d qg;cases d with
   |int i=>unfold Rep at z;subst z;exact O
   |str a=>unfold Rep at z;subst z;exact O
   |_=>cases e <;> cases M
theorem u_9 (I:Inv X pins σ H s) {ds:List D}{v:V}{u:Value} (r:Rep X.K H (.tup ds) v) (O:RelV v u):∃ a M z,u=.ref a/\IsTup s.heap a (List.toArray z)/\Reps X.K H ds M/\Vals M z:=by unfold Rep at r;obtain⟨a,M,rfl,sq,rr⟩:=r;obtain⟨z,Z,Y,_⟩:=I.tuple sq;exact⟨a,M,z,O,Y,rr,Z⟩
theorem u_2 {K:Frag}:∀ {ds:List D}{vs:List V}{us:List Value}{i:Nat},Reps K H ds vs->Vals vs us->i<ds.length->∃ v,Rep K H (ds.getD i .non) v/\RelV v (us.getD i Value.none)
 |[],_,_,_,_,_,h=>by cases h
 |d::ds,vs,us,i,r,v,h=>by
  unfold Reps at r;obtain⟨x,Z,rfl,Y,O⟩:=r;cases v with
  |cons z M =>
   cases i with
   |zero=>exact⟨x,Y,z⟩
   |succ i=>exact u_2 (i:=i) O M (by simpa using h)
theorem H_7 {K:Frag}{ds:List D}{vs:List V}{us:List Value} (r:Reps K H ds vs) (v:Vals vs us):∀ {is:List Nat},(∀ i∈is,i<ds.length)->∃ z,Reps K H (is.map λ i=>ds.getD i .non) z/\Vals z (is.map λ i=>us.getD i Value.none)
 |[],_=>⟨[],by unfold Reps;rfl,.nil⟩
 |i::is,h=>by
  obtain⟨x,Y,M⟩:=u_2 r v (h i qg);obtain⟨z,r3,Z⟩:=H_7 r v (is:=is) λ j O=>h j (qh _ O);exact⟨x::z,Reps.cons Y r3,.cons M Z⟩
end
section
variable {X:Cx}{pins:List (Addr×Obj)}{σ:L2.St}{H:Hp}{s:Shared}
theorem bM0 {P:D->Prop}{a:D} (h:P a):∀ d∈[a],P d:=λ d z=>by rw[List.mem_singleton.mp z];exact h
theorem cb2 {A:Around}{b:Bool}{Q:Bool->Shared->Prop}{E:Value->Shared->Prop} (I:Inv X pins σ H s) {d e:D} (M:r3 d=true) (he:r3 e=true) {x y:V}{u v:Value} (r1:Rep X.K H d x) (v1:RelV x u) (r2:Rep X.K H e y) (v2:RelV y v)
  (q:Q (decide (fK d<fK e)) s):wpAny (model X.prog X.w) A (keyLt' (tuples' b) u v) Q E s:=by
 obtain⟨i,a,j,rfl⟩:=as6 M;obtain⟨i',a',j',rfl⟩:=as6 he;obtain⟨p1,ws,Y,rfl,⟨o,ho,hc,n,ab⟩,rr,rv⟩:=u_9 I r1 v1;obtain⟨p2,ac,its',rfl,⟨o',Z,ad,n',z⟩,O,aa⟩:=u_9 I r2 v2;have sm:h_9 [.int i,.str a,.int j] [.int i',.str a',.int j']=true:=rfl;have fl:∀ (i:Int) (a:Str) (j:Int),∀ d∈[D.int i,.str a,.int j],∃ e,F_4 d e=true:=λ i a j d M=>by
  simp only[Yd,Ux,or_false] at M;rcases M with rfl | rfl | rfl
  ·exact⟨.int 0,rfl⟩
  ·exact⟨.str a,rfl⟩
  ·exact⟨.int 0,rfl⟩
 have f1:=s_2 (fl i a j) rr rv;have f2:=s_2 (fl i' a' j') O aa;have l1:=f1.length;have l2:=f2.length;rw[s_1,s_1,<- J_6 sm] at q;refine kat_lt ho ab Z z ?_;rw[show decide ((List.toArray Y).size<(List.toArray its').size)=false from Qh (by rw[Qb,Qb,<- l1,<- l2];exact Zf _)];exact B_0 _ _ sm f1 f2 q
theorem bI8 {A:Around}{Q:Bool->Shared->Prop}{E:Value->Shared->Prop} (hA:A.units+8<cLine) (I:Inv X pins σ H s) {d e:D} (hd:r22 d=true) (he:r22 e=true) {x y:V}{u v:Value} (r1:Rep X.K H d x) (v1:RelV x u) (r2:Rep X.K H e y) (v2:RelV y v)
  (q:Q (decide (fK d<fK e)) s):wpAny (model X.prog X.w) A (keyLt' (tuples' false) u v) Q E s:=by
 obtain⟨a,i,j,k,rfl⟩:=W_1 hd;obtain⟨a',i',j',k',rfl⟩:=W_1 he;obtain⟨p1,ws,ah,rfl,⟨o,ho,hc,n,af⟩,Y,rv⟩:=u_9 I r1 v1;obtain⟨p2,ag,its',rfl,⟨o',ae,ai,n',ab⟩,M,O⟩:=u_9 I r2 v2;have s1:h_9 [.str a,.int i] [.str a',.int i']=true:=rfl;have s2:h_9 [.int j,.int k] [.int j',.int k']=true:=rfl;have fl:∀ (a:Str) (i:Int),∀ d∈[D.str a,.int i],∃ e,F_4 d e=true:=λ a i d hd=>by
  simp only[Yd,Ux,or_false] at hd;rcases hd with rfl | rfl
  ·exact⟨.str a,rfl⟩
  ·exact⟨.int 0,rfl⟩
 have fm:∀ (j k:Int),∀ d∈[D.int j,.int k],∃ e,F_4 d e=true:=λ j k d hd=>by
  simp only[Yd,Ux,or_false] at hd;rcases hd with rfl | rfl
  ·exact⟨.int 0,rfl⟩
  ·exact⟨.int 0,rfl⟩
 rw[<- aM4 s1 s2] at q;unfold Reps at Y M;obtain⟨x1,t1,rfl,q1,Y⟩:=Y;obtain⟨y1,t2,rfl,q2,M⟩:=M;unfold Reps at Y M;obtain⟨x2,t3,rfl,q3,Y⟩:=Y;obtain⟨y2,t4,rfl,q4,M⟩:=M;unfold Reps at Y M;subst Y M;cases rv with
 |cons c1 rv =>
  cases rv with
  |cons c2 rv =>
   cases rv;cases O with
   |cons c3 O =>
    cases O with
    |cons c4 O =>
     cases O;rename_i u1 u2 w1 w2;have aa:=Z_2 I 3;have E1:SeqAt.EqAt A s u1 w1 (eqD (.tup [.str a,.int i]) (.tup [.str a',.int i'])):=aa A _ _ x1 y1 u1 w1 (by simp) (by simp) (by simp) (by omega) q1 c1 q2 c3;have E2:SeqAt.EqAt A s u2 w2 (eqD (.tup [.int j,.int k]) (.tup [.int j',.int k'])):=aa A _ _ x2 y2 u2 w2 (by simp) (by simp) (by simp) (by omega) q3 c2 q4 c4;have T:∀ {ds es:List D}{x y:V}{u v:Value},h_9 ds es=true->(∀ d∈ds,∃ e,F_4 d e=true)->(∀ d∈es,∃ e,F_4 d e=true)->Rep X.K H (.tup ds) x->RelV x u->Rep X.K H (.tup es) y->RelV y v->∀ Z:Bool->Shared->Prop,Z (N_3 ds es) s->wpAny (model X.prog X.w) A (oneLt' false u v) Z (λ _ _=>False) s:=λ {ds es x y u v} sm g1 g2 ra rb rc rd Z q'=>by
      obtain⟨a1,_,i1,rfl,ad,m1,m2⟩:=u_9 I ra rb;obtain⟨a2,_,i2,rfl,ac,m3,m4⟩:=u_9 I rc rd;exact kat_one _ _ (O_8 ad ac (s_2 g1 m1 m2) (s_2 g2 m3 m4) sm (by omega) q')
     refine kat_lt ho af ae ab (G_6 E1 (λ Z=>T s1 (fl a i) (fl a' i') q1 c1 q2 c3 Z) (λ z=>G_6 E2 (λ Z=>T s2 (fm j k) (fm j' k') q3 c2 q4 c4 Z) (λ z2=>kat_nil ?_) λ z2=>?_) λ z=>?_)
     ·rw[if_pos z,if_pos z2] at q;exact q
     ·rw[if_pos z,if_neg (by rw[z2];exact qq)] at q;exact q
     ·rw[if_neg (by rw[z];exact qq)] at q;exact q
theorem aj9 {T:Value} (I:Inv X pins σ H s):∀ {ds:List D}{vs:List V}{us:List Value},(∀ d∈ds,∃ e r,d=.tup (e::r)/\∀ (x:V) (u:Value),Rep X.K H e x->RelV x u->Looks (model X.prog X.w) s.heap (typeOf u) T)->Reps X.K H ds vs->Vals vs us ->
  ∃ fs:List Value,KatTups s.heap us fs/\fs.length=ds.length/\∀ v∈fs,Looks (model X.prog X.w) s.heap (typeOf v) T
 |[],vs,us,_,r,v=>by unfold Reps at r;subst r;cases v;exact⟨[],.nil,rfl,λ _ h=>by cases h⟩
 |d::ds,vs,us,h,r,v=>by
  unfold Reps at r;obtain⟨x,vr,rfl,r1,Z⟩:=r;cases v with
  |cons rx O =>
   obtain⟨fs,k1,k2,k3⟩:=aj9 I (λ e he=>h e (qh _ he)) Z O;obtain⟨e,rr,rfl,hT⟩:=h d qg;obtain⟨a,ws,aa,rfl,⟨o,ho,hc,n,hd⟩,r3,Y⟩:=u_9 I r1 rx;unfold Reps at r3;obtain⟨x1,wr,rfl,r4,_⟩:=r3;cases Y with
   |@cons _ u1 _ l1 M ab =>
    refine⟨u1::fs,.cons ho hc hd (by simp) k1,by simp[k2],λ z hz=>?_⟩;rcases qw hz with rfl | hz
    ·exact hT _ _ r4 M
    ·exact k3 z hz
theorem aw1 {M:Model}{h:Heap}{i:Int}{t:Tok}:Looks M h (typeOf (.int i t)) (.type "int"):=.now
theorem Y_2 {M:Model}{h:Heap}{a:Addr}{z:Array Value} (x:IsTup h a z):Looks M h (typeOf (.ref a)) (.type "tuple"):=by obtain⟨o,Y,O,_⟩:=x;rw[<- O];exact (Looks.ld Y).andThen .now
def bj6 (K:Frag):List V->Hp->VK->Prop:=λ xs H Q=>∃ p ds vs H0,xs=[.ref p]/\SqL K H p vs/\Same H0 H/\Reps K H0 ds vs/\ds.length<64/\(ds.all r3=true\/ds.all r22=true)/\∀ l z,H l=none->Reps K H0 (sortT ds) z->Q (.ref l) (upd H l (.lst z))
theorem bk1 {a b:D} (ha:r3 a=true) (O:r3 b=true) (h:fK a=fK b):a=b:=by obtain⟨i,x,j,rfl⟩:=as6 ha;obtain⟨Y,z,M,rfl⟩:=as6 O;rw[s_1,s_1] at h;rw[(q_5 (ds:=[.int i,.str x,.int j]) (es:=[.int Y,.str z,.int M]) rfl).mp h]
theorem aT5 {a b:D} (ha:r22 a=true) (Y:r22 b=true) (h:fK a=fK b):a=b:=by
 obtain⟨x,i,j,k,rfl⟩:=W_1 ha;obtain⟨z,M,Z,O,rfl⟩:=W_1 Y;have e:∀ x y:List D,fK (.tup [.tup x,.tup y])=fKs x++fKs y:=λ x y=>by rw[s_1,i_6,i_6,s_1,s_1,K_4,Qr]
 rw[e,e] at h;obtain⟨h1,h2⟩:=List.append_inj h (v_0 (ds:=[.str x,.int i]) (es:=[.str z,.int M]) rfl).2;rw[(q_5 (ds:=[.str x,.int i]) (es:=[.str z,.int M]) rfl).mp h1,(q_5 (ds:=[.int j,.int k]) (es:=[.int Z,.int O]) rfl).mp h2]
theorem ap2 (hu:X.A.units+64<cLine):CallR X (.builtin "sorted") (bj6 X.K):=by
 intro pins s σ H xs us Q I r h;obtain⟨p,ds,vs,H0,rfl,sq,sm,aa,ah,M,q⟩:=h;have rp:Reps X.K H ds vs:=Reps.mono sm _ aa;obtain⟨u,rfl,ru⟩:=D_4 r;cases ru;obtain⟨Z,rv,⟨ob,n,h1,h2,h3,h4⟩,_⟩:=I.list sq;have ad:Z.length=ds.length:=by rw[<- rv.length,<- rp.length]
 have ab:X.A.in1.in1.units+8<cLine:=by
  have e:X.A.in1.in1.units<=X.A.units+2:=by simp[Around.in1,Around.units]
  omega
 have inj:∀ a b,a∈ds->b∈ds->fK a=fK b->a=b:=λ a b ha hb e=>by
  rcases M with M | M
  ·exact bk1 (List.all_eq_true.mp M a ha) (List.all_eq_true.mp M b hb) e
  ·exact aT5 (List.all_eq_true.mp M a ha) (List.all_eq_true.mp M b hb) e
 have mem:∀ i,i<ds.length->ds.getD i .non∈ds:=λ i hi=>by
  rw[Y9,Qm hi];exact Yf hi
 obtain⟨κ,kd,ak⟩:∃ κ:SortKind,(∀ (pins:List (Addr×Obj)) (s:Shared),Inv X pins σ H s->2<=Z.length->∀ Q:SortKind->Shared->Prop,Q κ s->wpAny (model X.prog X.w) X.A.in1.in1 (keyKind' Z.toArray) Q (λ _ _=>False) s) /\
   ∀ (pins:List (Addr×Obj)) (s:Shared),Inv X pins σ H s->∀ i j,i<ds.length->j<ds.length->∀ Q:Bool->Shared->Prop,Q (decide (fK (ds.getD i .non)<fK (ds.getD j .non))) s->kas_ask X.prog X.w X.A.in1.in1 κ Z i j Q s:=by
  rcases M with M | M
  ·refine⟨tuples' (Value.type "int" != Value.type "tuple"),λ pins s I' l2 Q q=>?_,λ pins s I' i j hi Y Q q=>?_⟩
   ·obtain⟨fs,k1,k2,k3⟩:=aj9 (T:=.type "int") I' (λ d hd=>by
     obtain⟨i,a,j,rfl⟩:=as6 (List.all_eq_true.mp M d hd);refine⟨_,_,rfl,λ x u rx ru=>?_⟩;unfold Rep at rx;subst rx;obtain⟨t,rfl⟩:=ru;exact aw1) rp rv
    exact kat_kind k1 (by omega) k3 rfl q
   ·obtain⟨x,rx,ux⟩:=u_2 rp rv hi;obtain⟨y,ry,uy⟩:=u_2 rp rv Y;exact cb2 I' (List.all_eq_true.mp M _ (mem i hi)) (List.all_eq_true.mp M _ (mem j Y)) rx ux ry uy q
  ·refine⟨tuples' (Value.type "tuple" != Value.type "tuple"),λ pins s I' l2 Q q=>?_,λ pins s I' i j hi Y Q q=>?_⟩
   ·obtain⟨fs,k1,k2,k3⟩:=aj9 (T:=.type "tuple") I' (λ d hd=>by
     obtain⟨a,i,j,k,rfl⟩:=W_1 (List.all_eq_true.mp M d hd);refine⟨_,_,rfl,λ x u rx ru=>?_⟩;obtain⟨_,_,_,rfl,tp,_⟩:=u_9 I' rx ru;exact Y_2 tp) rp rv
    exact kat_kind k1 (by omega) k3 rfl q
   ·obtain⟨x,rx,ux⟩:=u_2 rp rv hi;obtain⟨y,ry,uy⟩:=u_2 rp rv Y;exact bI8 ab I' (List.all_eq_true.mp M _ (mem i hi)) (List.all_eq_true.mp M _ (mem j Y)) rx ux ry uy q
 refine H_6 (κ:=κ) (r:=am3 ds.length λ i=>fK (ds.getD i .non)) h1 h2 h4 (by omega) (λ g a kp na=>?_) λ g1 g2 pm e op mo k1 k2 ac=>?_
 ·have up:∀ g':Heap,(∀ b o,b≠a->g.get? b=some o->g'.get? b=some o)->∀ b o,s.heap.get? b=some o->g'.get? b=some o:=λ g' k b o z=>k b o (λ y=>by rw[y,na] at z;cases z) (kp b o z);refine⟨λ l2 g' k Q q=>kd pins _ (I.kept (t':=s.toks) (up g' k)) l2 Q q,λ g' k i j hi Y C q=>ak pins _ (I.kept (t':=s.toks) (up g' k)) i j (by omega) (by omega) C ?_⟩;have ri:=G_4 (n:=ds.length) (key:=λ i=>fK (ds.getD i .non)) (i:=i) (j:=j) (by omega);rw[<- decide_eq_decide.mpr ri];exact q
 ·have I1:Inv X pins σ H {s with heap:=g1}:=I.kept (t':=s.toks) k1;rw[ad] at op mo;have O:∀ i∈pm.toList,i<ds.length:=λ i hi=>List.mem_range.mp (op.perm.mem_iff.mp hi);obtain⟨ws,w1,w2⟩:=H_7 aa rv O;have ae:(pm.toList.map λ i=>ds.getD i .non)=sortT ds:=by
   refine O_0 inj ?_ ?_
   ·have e1:=op.perm.map λ i=>ds.getD i .non;have e2:(List.range ds.length).map (λ i=>ds.getD i .non)=ds:=by
     refine Jq (by simp) λ i h1 h2=>?_;simp[h2]
    rw[e2] at e1;exact e1
   ·rw[List.pairwise_map,List.pairwise_iff_getElem];intro i j hi Y af;have ag:pm.toList.length=ds.length:=by rw[Qu,op.size]
    have m1:=mo i j (Zi af) (by omega);have gi:pm.getD i 0=pm.toList[i]:=by rw[Q5,<- Zd,Qm hi];rfl
    have gj:pm.getD j 0=pm.toList[j]:=by rw[Q5,<- Zd,Qm Y];rfl
    unfold KP at m1;rw[gi,gj] at m1;refine Qh λ z=>?_;have:=(G_4 (n:=ds.length) (key:=λ i=>fK (ds.getD i .non)) (i:=pm.toList[j]) (j:=pm.toList[i]) (O _ (Yf Y))).mpr z;omega
  rw[ae] at w1;have hz:ws.length<=sizeLine:=by
   have:=w1.length;rw[(q_4 ds).length_eq] at this;have big:(64:Nat)<=sizeLine:=by decide
   omega
  exact⟨.ref g1.objs.size,_,I1.laid (t':=s.toks) (o:=.lst ws) k2 (qj _) ⟨hz,_,e,w2,ac⟩,rfl,q _ _ (I1.hok.fresh (qj _)) w1⟩
theorem C_4 (hu:X.A.units+64<cLine):BOk X (.builtin "sorted") C_7:=⟨_,ap2 hu,λ c H0 H ρ σ ds d vs Q R r e q=>by
 unfold C_7 at e;split at e
 ·rename_i xs;obtain⟨⟨M,sh⟩,rfl⟩:=ifs e;obtain⟨v,rfl,O⟩:=Reps.v1 r;unfold Rep at O;obtain⟨p,Z,rfl,sq,t⟩:=O;refine⟨p,xs,Z,H0,rfl,Same.seq R.same sq,R.same,t,M,sh,λ l z Y r'=>?_⟩;have S:=Step.alloc (o:=.lst z) R.same Y;refine q _ _ _ S.s0 (R.after S) ?_;unfold Rep;exact⟨l,z,rfl,.inl (.inl a_8),Reps.mono S.s0 _ r'⟩
 ·cases e⟩
end
end Fx
namespace Fx
open PySem PySem.Spec PyProof.Rows L2
section
variable {X:Cx}{pos:Pos}{e:Expr}{F:FE}
theorem az5 (hc:X.calm=true):CallR X (.builtin "sum") (λ xs H Q=>∃ (p:Addr) (is:List Int),xs=[.ref p] ∧ SqL X.K H p (is.map V.int) ∧ Q (.int is.sum) H):=by
 intro pins s σ H xs us Q I r h;obtain⟨l,is,rfl,Z,q⟩:=h;obtain⟨u,rfl,O⟩:=D_4 r;cases O;obtain⟨Y,rv,pl,hz⟩:=I.list Z;have hi:=Ys rv;have M:=pl.isList;obtain⟨ys,e⟩:=hi.allInts.items;have z:is=ys.toList.map (·.1):=by rw[<- hi.numsOf,<- nums_intItems,<- e]
 rw[e] at M;refine PySem.sum_intListG (I.ok.hd hc) M λ h' tk t' hk=>⟨.int is.sum,H,I.kept (t':=tk) hk,?_,q⟩
 rw[preSum_eq,List.take_of_length_le (by simp),<- z];exact⟨t',rfl⟩
theorem bc8 (M:X.calm=true):BOk X (.builtin "sum") bt5:=⟨_,az5 M,λ c H0 H ρ σ ds d vs Q R r e q=>by
 unfold bt5 at e;split at e
 ·obtain⟨is,e1,e2⟩:=a_1 e;cases e2;obtain⟨v,rfl,z⟩:=Reps.v1 r;unfold Rep at z;obtain⟨p,O,rfl,s,t⟩:=z;have:=G_7 e1 t;subst this;exact⟨p,is,rfl,Same.seq R.same s,q _ H0 H (Same.refl _) R (g_0 _ _)⟩
 ·cases e⟩
theorem aP5 {α z:Type}{f:α->Option z}{g:α->z}:∀ l:List α,(∀ k∈l,f k=some (g k))->l.filterMap f=l.map g
 |[],_=>rfl
 |k::r,h=>by rw[Yz,h k Um,Qa,aP5 r λ x M=>h x (Ye _ M)]
theorem aF1 (z:List Value):slicePick z.toArray none none (some (-1))=z.reverse.toArray:=by
 unfold slicePick;have b:sliceBounds none none (some (-1)) z.toArray.size=((z.length:Int)-1,-1,-1):=by unfold sliceBounds;simp
 rw[b];have r:sliceRange ((z.length:Int)-1) (-1) (-1)=(List.range z.length).map λ k=>z.length-1-k:=by
  unfold sliceRange;have c:(if (-1:Int) > 0 then (if (z.length:Int)-1 < -1 then (-1-((z.length:Int)-1)+-1-1) / -1 else 0) else (if (z.length:Int)-1 > -1 then ((z.length:Int)-1 - -1 - -1-1) / (- -1) else 0)).toNat=z.length:=by
   rw[if_neg (by decide)];by_cases h:(z.length:Int)-1 > -1
   ·rw[if_pos h,show (- -1:Int)=1 by decide,Int.ediv_one];omega
   ·rw[if_neg h];omega
  simp only[c];refine Yy λ k hk=>?_;have:=List.mem_range.mp hk;omega
 show ((sliceRange ((z.length:Int)-1) (-1) (-1)).filterMap (z.toArray[·]?)).toArray=_;rw[r,List.filterMap_map];congr 1;have e:((List.range z.length).filterMap λ k=>z.toArray[z.length-1-k]?)=(List.range z.length).map λ k=>z.getD (z.length-1-k) Value.none:=by
  refine aP5 _ λ k hk=>?_;have:=List.mem_range.mp hk;rw[J9,Qm (by omega)];simp[show z.length-1-k<z.length by omega]
 refine Eq.trans ?_ (e.trans ?_)
 ·rfl
 ·refine Jq (by simp) λ i h1 h2=>?_;have hi:i<z.length:=by simpa using h1
  rw[List.getElem_map,List.getElem_range,List.getElem_reverse];simp[show z.length-1-i<z.length by omega]
theorem bl6 {te:TE}{p2 Y O:Pos}{k:Nat} (he:PE X e te):PE X (.Subscript e (.Slice none none (some (.UnaryOp .USub (.Constant (.int 1) k Y) O)) p2) pos) (λ σ H Q=>te σ H λ x H1=>∃ a xs,x=.ref a/\SqL X.K H1 a xs/\∀ p,H1 p=none->Q (.ref p) (upd H1 p (.lst xs.reverse))):=by
 intro pins s σ H Q I h;refine Subscript_ (thn (he pins s σ H _ I h) λ v s1 z=>?_);obtain⟨x,H1,I1,r1,a,xs,ex,sq,q⟩:=z;subst ex;cases r1;refine wpAny_Slice ?_;rw[evalPart_none];refine qd (qd ?_);rw[evalPart_some];refine thn (bl3 (X:=X) aM2 (W_5 (i:=1) (j:=k) (pos:=Y)) (pos:=O) pins s1 σ H1 (λ y H'=>y=.int (-1)/\H'=H1) I1 ⟨1,rfl,rfl,rfl⟩) λ st M z=>?_;obtain⟨y,H2,I2,ry,ey,eH⟩:=z;subst ey eH;obtain⟨t,rfl⟩:=ry;have Z:Inv X pins σ H2 {M with heap:=M.heap.push {cls:=.type "slice",data:=.fields #[.none,.none,.int (-1) t]}}:=I2.kept (t':=M.toks) λ b ob q=>qf _ q;obtain⟨ab,rv,ht,hz⟩:=Z.list sq;have aa:=rv.length;show wpAny (model X.prog X.w) X.A (subscriptTail e (.Slice none none (some (.UnaryOp .USub (.Constant (.int 1) k Y) O)) p2) (.ref a) (.ref M.heap.objs.size)) (EP X pins σ Q) X.xe {M with heap:=M.heap.push {cls:=.type "slice",data:=.fields #[.none,.none,.int (-1) t]}};refine tail_any (ops:=[.ref a,.ref M.heap.objs.size]) ht.isList.typeIs slot_list_getitem.lookup ?_ (by with_unfolding_all rfl);refine wpAny_getItem_list_slice ht.isList (Heap.IsSliceOf.new ..) .none .none (.int (-1) t) (by simp) ?_ (by rw[Qb] <;> omega);rw[aF1];refine⟨.ref _,_,Z.laid (t':=M.toks) (o:=.lst xs.reverse) (λ b ob q=>qf _ q) (qj _) ?_,rfl,q _ (Z.hok.fresh (qj _))⟩;exact⟨by rw[List.length_reverse];exact hz,_,0,Vals.reverse rv,qk _ rfl⟩
theorem ai0 {K:Frag}{H:Hp}:∀ {ds:List D}{vs:List V},Reps K H ds vs->Reps K H ds.reverse vs.reverse
 |[],vs,r=>by unfold Reps at r;subst r;exact Reps.nil_
 |d::ds,vs,r=>by
  unfold Reps at r;obtain⟨v,O,rfl,M,z⟩:=r;rw[Yo,Yo];exact (ai0 z).app (Reps.one M)
end
end Fx
namespace L2
open PySem PySem.Spec PyProof.Rows
def bJ0 (K:Frag) (js:List Nat) (tt:TT) (te:TE) (σ:St) (Q:List V->Hp->Prop) (J:It) (H1:Hp):Prop :=
 ∃ W:Nat->Nat->List V->Hp->Prop,(∃ m,W 0 m [] H1)/\∀ i m ys H,W i m ys H ->
  (J.stop i H/\ys.length<=sizeLine/\Q ys H) \/
  (J.go i H/\ys.length<sizeLine/\∀ x H',J.yld i H x H'->∃ ta v1 v2,x=.ref ta/\SqT K H' ta [v1,v2]/\tt (some v1::some v2::frv σ js) H' λ b H2 =>
   if b=true then te (some v1::some v2::frv σ js) H2 λ v M=>∃ z,z<m/\W (i+1) z (ys++[v]) M else ∃ z,z<m/\W (i+1) z ys H2)
section
variable {X:Cx}{scope:Scope}{s:Shared}{H:Hp}{C:Addr}{fp:List Addr}{pins:List (Addr×Obj)}{H':Hp}{s':Shared}
theorem Y_7 {N M:List Str}{σ z:St} (I:Inv (cxB X N scope s H C fp) pins σ H' s') (O:z.length=M.length) (h:∀ (i:Nat) (x:Str) (v:V),M[i]?=some x->z[i]?=some (some v)->∃ j:Nat,N[j]?=some x/\σ[j]?=some (some v)):Inv (cxB X M scope s H C fp) pins z H' s' :=
 let k:=I.ok
 ⟨⟨k.mod,k.kind,k.glob,k.blt,k.above,k.inj,k.has,k.cab,k.hd,k.frames,k.stk,k.exf,k.bs,k.bsz,k.noex,k.exfs,k.funs,k.frf,k.tab⟩,I.os,I.bare,I.base,by
  obtain⟨m,Z,hv⟩:=I.loc;refine⟨m,Z,λ i x v e1 e2 e3=>?_⟩;obtain⟨j,Y,a2⟩:=h i x v e1 e2;exact hv j x v Y a2 e3,I.cell,I.free,I.freeC,I.pin,I.hok,O⟩
theorem aY0 {x x2:Str}{frees:List Str}{z:St} (I:Inv (cxB X (x::frees) scope s H C fp) pins (none::z) H' s'):Inv (cxB X (x::x2::frees) scope s H C fp) pins (none::none::z) H' s' :=
 Y_7 I (by have:(none::z).length=(x::frees).length:=I.len;simp at this;simp[this]) λ i y v e1 e2=>by
  match i,e1,e2 with
  |0,_,e2=>simp at e2
  |1,_,e2=>simp at e2
  |i+2,e1,e2=>exact⟨i+1,by simpa using e1,by simpa using e2⟩
theorem aY1 {x x2:Str}{frees:List Str}{z:St} (I:Inv (cxB X (x::x2::frees) scope s H C fp) pins (none::none::z) H' s'):Inv (cxB X (x::frees) scope s H C fp) pins (none::z) H' s' :=
 Y_7 I (by have:(none::none::z).length=(x::x2::frees).length:=I.len;simp at this;simp[this]) λ i y v e1 e2=>by
  match i,e1,e2 with
  |0,_,e2=>simp at e2
  |i+1,e1,e2=>exact⟨i+2,by simpa using e1,by simpa using e2⟩
end
section
variable {X:Cx}{pins:List (Addr×Obj)}{σ:St}{H:Hp}{s:Shared}{x x2:Str}{scope sc:Scope}{frees:List Str}{js:List Nat}{elt iter:Expr}{ifs:List Expr}{px py pt pos:Pos}{kt:Nat}{tt:TT}{te:TE}{E:Value->Shared->Prop}
theorem aX0 {it:Addr}{fp:List Addr}{tn:Nat->Heap->Prop}{J:It}{Qe:List V->Hp->Prop}{RR:Value->Addr->Result->Shared->Prop} (I:Inv X pins σ H s) (hc:X.calm=true) (ax:X.env.scope=sc) (B:ScB X.N sc scope x frees js) (ak:scope.names.lookup x2=some .local) (ay:(x::x2::frees).Nodup)
  (T:Turn X.prog X.w X.K (.Tuple [.Name x px,.Name x2 py] kt pt) J fp it tn) (st:tn 0 s.heap) (f:∀ b∈fp,ap7 X pins H b) (hW:bJ0 X.K js tt te σ Qe J H)
  (ht:∀ s H C fp,PTs (cxB X (x::x2::frees) scope s H C fp) ifs tt) (he:∀ s H C fp,PE (cxB X (x::x2::frees) scope s H C fp) elt te)
  (hR:∀ (D C:Addr) (s':Shared) (H':Hp) (ys:List V) (M:List Value) (n:Nat),s.heap.objs.size<=D->s.heap.objs.size<=C->D≠C->Inv (cxB X (x::x2::frees) scope s H C fp) pins (none::none::frv σ js) H' s'->H' D=none ->
   Vals ys M->s'.heap.get? D=some (M_9 M n)->ys.length<=sizeLine->Qe ys H'->RR (.ref D) C (.ok .next) s') :
  wpAny (model X.prog X.w) X.A (newList []) (λ bb s3=>wpAny (model X.prog X.w) X.A (newFunctionEnv scope X.env.globals (U_0 X.env.cells scope.names []) [] X.env.qual none .none (some X.env)) (λ aq s4 =>
   codeAny (model X.prog X.w) X.A (.compStart (.ListComp elt [⟨.Tuple [.Name x px,.Name x2 py] kt pt,iter,ifs,0⟩] scope pos) 0 (.ref it) bb {aq with scope:=relabel scope X.env}) (RR bb aq.locals) s4) E s3) E s:=by
 obtain⟨W,⟨m0,w0⟩,av⟩:=hW;refine Zh (wpAny_newFunctionEnv B.cells (by intro y hy;simp at hy) (λ ae Z Y=>?_) B.kind);dsimp only at Z Y ⊢;generalize hG:s.heap.push {cls:=.type "list",dict:=none,data:=.seq ([]:List Value).toArray}=G at Z Y ⊢;have a0:G.objs.size=s.heap.objs.size+1:=by rw[<- hG,Heap.size_push]
 have am:s.heap.objs.size<=G.objs.size:=by rw[a0];exact Nat.le_succ _
 have ao:s.heap.objs.size≠G.objs.size:=by rw[a0];exact qt (Nat.lt_succ_self _)
 obtain⟨C,bg⟩:∃ C:Addr,C=G.objs.size:=⟨_,rfl⟩;obtain⟨D,ai⟩:∃ D:Addr,D=s.heap.objs.size:=⟨_,rfl⟩;rw[<- bg] at Z Y ao am ⊢;have ac:s.heap.objs.size<=D:=by rw[ai];exact qj _
 have ah:s.heap.objs.size<=C:=am;have af:D≠C:=by rw[ai];exact ao
 have a1:∀ b o,s.heap.get? b=some o->ae.get? b=some o:=λ b o e=>by
  refine Y.extBut b o (v_8 (qm e) ah) (qf _ ?_);rw[<- hG];exact qf _ e
 have gD:ae.get? D=some (M_9 [] 0):=by refine Y.extBut D _ af (qf _ ?_);rw[<- hG,ai];exact qk _ rfl
 have as:∀ b∈fp,b<s.heap.objs.size:=λ b hb=>by
  obtain⟨o,e,_⟩:=T.obj 0 _ st b hb;exact qm e
 show codeAny (model X.prog X.w) X.A (.compStart (.ListComp elt [⟨.Tuple [.Name x px,.Name x2 py] kt pt,iter,ifs,0⟩] scope pos) 0 (.ref it) (.ref s.heap.objs.size) (compEnvC scope (U_0 X.env.cells scope.names []) C X.env)) (RR (.ref s.heap.objs.size) C) _;rw[<- ai];have bh:D∉fp:=λ z=>v_8 (as D z) ac rfl;have Y0:=aY0 (x2:=x2) (aa3 (tk:=s.toks+([]:List (Str×Value)).length) (x:=x) I ax B f as ah ac af a1 Z gD (λ v z=>nomatch z));have az:tn 0 ae:=T.keep 0 _ _ st λ b _ o e=>a1 b o e;have sub:∀ y c,(U_0 X.env.cells scope.names []).lookup y=some c->X.env.cells.lookup y=some c:=λ y c e=>by
  rcases G_9 scope.names [] (P_2 I ax B) e with q | q
  ·exact q
  ·cases q
 have ba:∀ p∈pins,p.1<s.heap.objs.size:=λ p hp=>qm (I.pin p (qo _ hp)).1;have ag:∀ {H':Hp}{o:Obj},(∀ b∈fp,H' b=none)->∀ b∈fp,ap7 (cxB X (x::x2::frees) scope s H C fp) (pins++[(D,o)]) H' b:=λ {H' o} hn b hb=>by
  obtain⟨_,a2,a3,a4,a5,a6⟩:=f b hb;have lt:=as b hb;refine⟨hn b hb,?_,λ z=>?_,.inl hb,λ y c e=>a5 y c (sub y c e),λ p hp=>?_⟩
  ·exact v_8 lt ah
  ·rcases qw (I.stkSub b z) with e | e
   ·exact a2 e
   ·exact a3 e
  ·have ar:p∈pins++[(D,o)]:=by simpa [cxB] using hp
   rcases qz ar with z | z
   ·exact a6 p (qo _ z)
   ·have z':p=(D,o):=by simpa using z
    subst z';exact aj2 lt ac
 have an:∀ s3:Shared,s3={s with heap:=ae,toks:=s.toks+([]:List (Str×Value)).length} ->
   codeAny (model X.prog X.w) X.A (.compLoop (.ListComp elt [⟨.Tuple [.Name x px,.Name x2 py] kt pt,iter,ifs,0⟩] scope pos) 0 (.ref it) (.ref D) (compEnvC scope (U_0 X.env.cells scope.names []) C X.env)) (RR (.ref D) C) s3:=by
  rintro s3 rfl;refine P_6 (λ n s'=>∃ i ys M k H',Inv (cxB X (x::x2::frees) scope s H C fp) (pins++[(D,M_9 M k)]) (none::none::frv σ js) H' s'/\tn i s'.heap/\(∀ b∈fp,H' b=none)/\Vals ys M/\W i n ys H') ?_ m0
   ⟨0,[],[],0,H,Y0,az,λ b hb=>(f b hb).1,.nil,w0⟩
  rintro n s4 ⟨i,ys,M,k,H4,I4,a7,aw,rv,w4⟩;have pD:∀ {pl:List (Addr×Obj)}{ab:St}{H':Hp}{s':Shared},Inv (cxB X (x::x2::frees) scope s H C fp) (pins++[(D,M_9 M k)]++pl) ab H' s'->s'.heap.get? D=some (M_9 M k)/\H' D=none:=λ I'=>by
   have q:=I'.pin (D,M_9 M k) (qo _ (qp _ (qo _ qg)));exact⟨q.1,q.2.1⟩
  have aa:∀ {pl:List (Addr×Obj)}{ab:St}{H':Hp}{s':Shared},Inv (cxB X (x::x2::frees) scope s H C fp) (pins++pl) ab H' s'->Inv (cxB X (x::x2::frees) scope s H C fp) pins ab H' s':=λ I'=>I'.unpinned;rcases av i n ys H4 w4 with ⟨stop,lz,qe⟩ | ⟨go,lz,step⟩
  ·refine thn (T.done (cxB X (x::x2::frees) scope s H C fp) rfl rfl rfl hc i _ s4 _ H4 (λ _ _=>False) I4 (ag aw) a7 stop) λ r s5 O=>?_;obtain⟨hr,I5⟩:=O;subst hr;have I5':Inv (cxB X (x::x2::frees) scope s H C fp) (pins++[(D,M_9 M k)]++[]) (none::none::frv σ js) H4 s5:=by simpa using I5
   exact hR D C s5 H4 ys M k ac ah af (aa I5) (pD I5').2 rv (pD I5').1 lz qe
  ·refine thn (T.item (cxB X (x::x2::frees) scope s H C fp) rfl rfl rfl hc i _ s4 _ H4 (λ _ _=>False) I4 (ag aw) a7 go) λ r s5 O=>?_;obtain⟨u,hr,h5⟩:=O;subst hr;refine thn h5 λ _ s6 O=>?_;obtain⟨y,H6,I6,r6,y6,aj,bf⟩:=O;have I6':=I6.pinned (ag bf) (T.obj _ _ aj);have hx:Loc (cxB X (x::x2::frees) scope s H C fp).env.scope x:=.inl (Zw B.own);have bc:Loc (cxB X (x::x2::frees) scope s H C fp).env.scope x2:=.inl (Zw ak);have bd:D∉(cxB X (x::x2::frees) scope s H C fp).fs:=λ z=>by
    rcases qw (I.stkSub D z) with e | e
    ·exact v_8 I.lt ac e.symm
    ·exact I.nofs ac e
   obtain⟨ta,v1,v2,ey,sq,be⟩:=step y H6 y6;subst ey;refine thn (aN6 (X:=cxB X (x::x2::frees) scope s H C fp) (pos:=pt) (k:=kt) hc (R_0 (A_5 (i:=0) ay rfl hx (.inr (Zw B.own))) (R_0 (A_5 (i:=1) ay rfl bc (.inr (Zw ak))) au0)) rfl rfl _ s6 _ H6 (.ref ta) u (λ ab H'=>ab=some v1::some v2::frv σ js/\tt ab H' λ b H2 =>
    if b=true then te (some v1::some v2::frv σ js) H2 λ v H3=>∃ m',m'<n/\W (i+1) m' (ys++[v]) H3 else ∃ m',m'<n/\W (i+1) m' ys H2) I6' r6 ⟨ta,[v1,v2],rfl,sq,rfl,v1,[v2],rfl,v2,[],rfl,rfl,rfl,be⟩) λ _ s7 ⟨bj,H7,I7,e7,q7⟩=>?_
   subst e7;have al:∀ {ab:St}{H':Hp}{s':Shared},Inv (cxB X (x::x2::frees) scope s H C fp) (pins++[(D,M_9 M k)]++O_5 fp s6.heap) ab H' s'->(∀ b∈fp,∀ o,s6.heap.get? b=some o->s'.heap.get? b=some o)/\∀ b∈fp,H' b=none:=λ {ab H' s'} I' =>
    ⟨λ b hb o e=>(I'.pin (b,o) (qo _ (qo _ (t_0 hb e)))).1,λ b hb=>by
     obtain⟨o,e,_⟩:=T.obj _ _ aj b hb;exact (I'.pin (b,o) (qo _ (qo _ (t_0 hb e)))).2.1⟩
   have ad:∀ {pl:List (Addr×Obj)}{H':Hp}{s':Shared},Inv (cxB X (x::x2::frees) scope s H C fp) pl (some v1::some v2::frv σ js) H' s'->Inv (cxB X (x::x2::frees) scope s H C fp) pl (none::none::frv σ js) H' s':=λ I' =>
    I'.weak rfl λ j v e=>by
     match j,e with
     |0,e=>simp at e
     |1,e=>simp at e
     |j+2,e=>simpa using e
   refine thn (ht s H C fp _ s7 _ H7 _ I7 q7) λ ok s8 O=>?_;obtain⟨H8,I8,q8⟩:=O;cases ok with
   |false =>
    rw[if_neg Qi] at q8 ⊢;obtain⟨m',hm,w8⟩:=q8;obtain⟨b1,b2⟩:=al I8;exact⟨m',hm,i+1,ys,M,k,H8,ad I8.unpinned,T.keep _ _ _ aj b1,b2,rv,w8⟩
   |true =>
    rw[if_pos rfl] at q8 ⊢;refine thn (he s H C fp _ s8 _ H8 _ I8 q8) λ v s9 O=>?_;obtain⟨vv,H9,I9,r9,m',hm,w9⟩:=O;obtain⟨au,a9⟩:=pD I9;obtain⟨b1,b2⟩:=al I9;have bi:=rv.length;refine call_meets F.slot_list_append ⟨_,au,rfl⟩ Uh (Uf _ _) (Uq D M.toArray k v (by rw[Qb];omega)) ⟨au,?_⟩;have ea:M.toArray.push v=(M++[v]).toArray:=by simp
    obtain⟨k',q⟩:∃ k',(s9.heap.update D (Obj.mapSeq (·.push v))).get? D=some (M_9 (M++[v]) k'):=by have q0:=Uv au (·.push v);rw[ea] at q0;exact⟨_,q0⟩
    have a8:∀ b o,b≠D->s9.heap.get? b=some o->(s9.heap.update D (Obj.mapSeq (·.push v))).get? b=some o:=λ b o hb e=>(Jw s9.heap (Obj.mapSeq (·.push v)) (Zb hb)).trans e;have I10:Inv (cxB X (x::x2::frees) scope s H C fp) pins (some v1::some v2::frv σ js) H9 {s9 with heap:=s9.heap.update D (Obj.mapSeq (·.push v))} :=
     (aa I9.unpinned).turned (t':=s9.toks) (it:=D) a8 a9 af (.inr ac) (λ y' c e z=>by
      obtain⟨w',q'⟩:=I.cell y' c (sub y' c e);exact v_8 q'.lt ac z) (λ p hp z=>by
      have ar:p∈pins:=by simpa [cxB] using hp
      exact v_8 (ba p ar) ac z)
    refine⟨m',hm,i+1,ys++[vv],M++[v],k',H9,ad (I10.pins_of λ p hp=>?_),T.keep _ _ _ aj λ b hb o e=>a8 b o (λ z=>bh (z▸hb)) (b1 b hb o e),b2,rv.append (.cons r9 .nil),w9⟩;rcases qz hp with z | z
    ·exact I10.pin p (qo _ z)
    ·have z':p=(D,M_9 (M++[v]) k'):=List.mem_singleton.mp z;subst z';exact⟨q,a9,af,bd,λ w' z2=>nomatch z2⟩
 exact codeAny_compStart_list (an _ rfl) (T.self _ 0 _ _ _ az (an _ rfl))
end
end L2
namespace Fx
open PySem PySem.Spec PyProof.Rows L2
theorem RS.block2 {K:Frag}{c:FC}{H0 H:Hp}{ρ:En}{σ:L2.St}{js:List Nat}{fr:En}{d e:D}{x y:V} (R:RS K c H0 H ρ σ) (hf:Y_8 ρ js=some fr) (Z:Rep K H0 d x) (ry:Rep K H0 e y):RS K ⟨H0,H,[]⟩ H0 H (.im d::.im e::fr) (some x::some y::frv σ js):=by
 have B:=R.block hf ry;have M:∀ (i:Nat) (b:Bool) (o:MO),(Sl.im e::fr)[i]?≠some (.ow b o):=λ i b o z=>by
  obtain⟨a,_,y1,Y,w1⟩:=B.ow i b o z;cases b with
  |true=>exact absurd Y (by simp)
  |false =>
   have z2:H a=none:=Y;obtain⟨u,O⟩:=w1.some;rw[z2] at O;cases O
 refine⟨B.same,B.init,B.fresh,B.keep,B.apt,by have:=B.len;simp at this;simp[this],λ i d' q=>?_,λ i b o q=>?_,λ i j b b' o o' a q=>?_⟩
 ·match i,q with
  |0,q=>cases q;exact⟨x,rfl,Z⟩
  |i+1,q=>exact B.im i d' (by simpa using q)
 ·match i,q with
  |0,q=>cases q
  |i+1,q=>exact absurd (by simpa using q) (M i b o)
 ·match i,q with
  |0,q=>cases q
  |i+1,q=>exact absurd (by simpa using q) (M i b o)
theorem aR4 {d:D}{q:D×D} (h:two d=some q):d=.tup [q.1,q.2]:=by
 unfold two at h;split at h
 ·cases h;rfl
 ·cases h
theorem aX1 {K:Frag}{c:FC}{H1 Hh:Hp}{ρ:En}{σ:L2.St}{js:List Nat}{fr:En}{T:FT}{F:FE}{xs out:List D}{J:It}{Qf:List V->Hp->Prop} (R:RS K c H1 Hh ρ σ) (hf:Y_8 ρ js=some fr) (hc:aA6 T F fr xs=some out) (hz:xs.length<=sizeLine) (hy:C_9 K J H1 xs)
  (q:∀ ys H0 H,Same H1 H0->RS K c H0 H ρ σ->Reps K H0 out ys->Qf ys H):bJ0 K js (tTt K T) (tE K F) σ Qf J Hh:=by
 refine⟨λ i m ys H=>m=xs.length-i/\i<=xs.length/\∃ H0,Same H1 H0/\RS K c H0 H ρ σ/\∃ O rest,Reps K H0 O ys/\O.length<=i/\aA6 T F fr (xs.drop i)=some rest/\O++rest=out,⟨xs.length,by simp,Qw _,H1,Same.refl _,R,[],out,Reps.nil_,Qw _,by simpa using hc,rfl⟩,?_⟩;rintro i m ys H ⟨rfl,hi,H0,s0,R0,O,rest,rp,lp,M,e⟩;obtain⟨y1,y2⟩:=hy H0 H i s0 R0.same;by_cases Z:i<xs.length
 ·have hd:xs[i]?=some xs[i]:=by simp[Z]
  obtain⟨go,yl⟩:=y1 _ hd;refine .inr ⟨go,by rw[<- rp.length];omega,λ x H' hx=>?_⟩;obtain⟨rfl,rx⟩:=yl x H' hx;rw[E_1 hd,aa1] at M;obtain⟨⟨d1,d2⟩,g0,M⟩:=a_1 M;rw[aR4 g0] at rx;unfold Rep at rx;obtain⟨ta,ws,rfl,sq,Y⟩:=rx;unfold Reps at Y;obtain⟨v1,w1,rfl,q1,Y⟩:=Y;unfold Reps at Y;obtain⟨v2,w2,rfl,q2,Y⟩:=Y;unfold Reps at Y;subst Y;refine⟨ta,v1,v2,rfl,Same.seqT R0.same sq,?_⟩;obtain⟨⟨b,aa⟩,g1,M⟩:=a_1 M;dsimp only at M;refine⟨⟨H0,H',[]⟩,H0,_,b,aa,R0.block2 hf q1 q2,g1,λ H2 Hh2 s2 R2=>?_⟩;cases b with
  |false =>
   rw[if_neg Qi] at M ⊢;have S:=R2.step;exact⟨xs.length-(i+1),by omega,rfl,Z,H2,s0.trans S.s0,R0.after S,O,rest,Reps.mono S.s0 _ rp,by omega,M,e⟩
  |true =>
   rw[if_pos rfl] at M ⊢;obtain⟨⟨z,ab⟩,g2,M⟩:=a_1 M;obtain⟨t,g3,M⟩:=a_1 M;dsimp only at M;have ac:some (z::t)=some rest:=M;cases ac;refine⟨⟨H0,H',[]⟩,H2,aa,z,ab,R2,g2,λ v H3 Hh3 s3 R3 r3=>?_⟩;have S:=R3.step;refine⟨xs.length-(i+1),by omega,rfl,Z,H3,s0.trans S.s0,R0.after S,O++[z],t,(Reps.mono S.s0 _ rp).app (Reps.one r3),?_,g3,?_⟩
   ·rw[Qd,Qs];omega
   ·rw[Q3];exact e
 ·have hn:xs.drop i=[]:=Zo (by omega);rw[hn,aK5] at M;cases M;rw[Qr] at e;subst e;exact .inl ⟨y2 (by omega),by rw[<- rp.length];omega,q ys H0 H s0 R0 rp⟩
structure ScB2 (N:List Str) (sc scope:Scope) (x x2:Str) (frees:List Str) (js:List Nat):Prop where
 B:ScB N sc scope x frees js
 own2:scope.names.lookup x2=some .local
 nd2:(x::x2::frees).Nodup
theorem bp3 {K:Frag}{O H:Hp}{t u:Int}{k:Str}{v:V} (M:Rep K O (.tup [.int t,.str k,.int u]) v) (s:Same O H):∃ a,v=.ref a/\SqT K H a [.int t,.str k,.int u]:=by unfold Rep at M;obtain⟨a,Z,rfl,Y,r⟩:=M;unfold Reps at r;obtain⟨x,r1,rfl,e1,r⟩:=r;unfold Reps at r;obtain⟨y,r2,rfl,e2,r⟩:=r;unfold Reps at r;obtain⟨z,r3,rfl,e3,r⟩:=r;unfold Reps at r;subst r;unfold Rep at e1 e2 e3;subst e1 e2 e3;exact⟨a,rfl,Same.seqT s Y⟩
structure GS (K:Frag) (H0 Hs H:Hp) (T:Addr) (g:List (Str×List D)) (refs:List Addr):Prop where
 old:∀ b u,Hs b=some u->b≠T->H b=some u
 hT:H T=some (.dK (ab7 (g.map (·.1)) (refs.map V.ref)))
 len:g.length=refs.length
 ats:∀ (i:Nat) a q,refs[i]?=some a->g[i]?=some q->Hs a=none/\∃ ws,H a=some (.lst ws)/\Reps K H0 q.2 ws
 nd:refs.Nodup
theorem af0 (d:D) (k:Str):∀ (g:List (Str×List D)) (refs:List Addr),g.length=refs.length ->
  (valV (ab7 (g.map (·.1)) (refs.map V.ref)) (.inr k)=none/\N_7 k d g=g++[(k,[d])]) \/
  ∃ i a ds,refs[i]?=some a/\g[i]?=some (k,ds)/\valV (ab7 (g.map (·.1)) (refs.map V.ref)) (.inr k)=some (.ref a)/\N_7 k d g=g.set i (k,ds++[d])
 |[],[],_=>.inl ⟨rfl,rfl⟩
 |[],_::_,e=>by cases e
 |_::_,[],e=>by cases e
 |q::g,a::refs,e=>by
  rw[Qa,Qa,H_2];by_cases hk:q.1=k
  ·refine .inr ⟨0,a,q.2,rfl,by rw[<- hk];rfl,l_6 (by rw[hk]),?_⟩;show (if q.1=k then (q.1,q.2++[d])::g else q::N_7 k d g)=_;rw[if_pos hk,hk];rfl
  ·have M:valV ((Sum.inr q.1,V.ref a)::ab7 (g.map (·.1)) (refs.map V.ref)) (.inr k)=valV (ab7 (g.map (·.1)) (refs.map V.ref)) (.inr k):=k_4 λ z=>hk (Jd z);have ha:N_7 k d (q::g)=q::N_7 k d g:=by show (if q.1=k then (q.1,q.2++[d])::g else q::N_7 k d g)=_;rw[if_neg hk]
   rw[M,ha];rcases af0 d k g refs (by simpa using e) with ⟨h1,h2⟩ | ⟨i,b,ds,h1,h2,h3,h4⟩
   ·exact .inl ⟨h1,by rw[h2];rfl⟩
   ·exact .inr ⟨i+1,b,ds,by simpa using h1,by simpa using h2,h3,by rw[h4];rfl⟩
theorem as5 {α:Type}{l:List α}{i:Nat}{a:α} (h:l[i]?=some a):i<l.length:=(List.getElem?_eq_some_iff.mp h).1
section
variable {K:Frag}{H0 Hs H H':Hp}{T p:Addr}{g:List (Str×List D)}{refs:List Addr}{k:Str}{d:D}{v:V}
theorem GS.mem (h:GS K H0 Hs H T g refs) {a:Addr} (ha:a∈refs):Hs a=none/\∃ z,H a=some (.lst z):=by
 obtain⟨i,hi,e⟩:=List.getElem_of_mem ha;have h1:refs[i]?=some a:=by rw[Qm hi,e]
 have M:i<g.length:=by rw[h.len];exact hi
 have h2:g[i]?=some g[i]:=Qm M;obtain⟨x,z,y,_⟩:=h.ats i a _ h1 h2;exact⟨x,z,y⟩
theorem GS.new (h:GS K H0 Hs H T g refs) (Y:Hs T≠none) (hp:H p=none) (rv:Rep K H0 d v)
  (e1:H' T=some (.dK (ab7 ((g++[(k,[d])]).map (·.1)) ((refs++[p]).map V.ref)))) (e2:H' p=some (.lst [v])) (e3:∀ b,b≠T->b≠p->H' b=H b):GS K H0 Hs H' T (g++[(k,[d])]) (refs++[p]):=by
 have Tp:T≠p:=λ z=>by rw[<- z,h.hT] at hp;cases hp
 have M:Hs p=none:=by
  cases z:Hs p with
  |none=>rfl
  |some u=>have:=h.old p u z (Zb Tp);rw[hp] at this;cases this
 refine⟨λ b u e n=>?_,e1,by rw[Qd,Qd,h.len];rfl,λ i a q ha hq=>?_,?_⟩
 ·have n2:b≠p:=λ z=>by rw[z,M] at e;cases e
  rw[e3 b n n2];exact h.old b u e n
 ·by_cases hi:i<refs.length
  ·rw[Q0 hi] at ha;rw[Q0 (by rw[h.len];exact hi)] at hq;obtain⟨x,Z,y,r⟩:=h.ats i a q ha hq;have n1:a≠T:=λ z=>Y (z▸x);have n2:a≠p:=λ z=>by rw[z,hp] at y;cases y
   exact⟨x,Z,by rw[e3 a n1 n2];exact y,r⟩
  ·have O:i<(refs++[p]).length:=as5 ha;have ie:i=refs.length:=by rw[Qd,Qs] at O;omega
   subst ie;rw[Q4 (Nat.le_refl _),Ur] at ha;rw[Q4 (by rw[h.len];exact qj _),h.len,Ur] at hq;cases ha;cases hq;exact⟨M,[v],e2,Reps.one rv⟩
 ·rw[Je];refine⟨h.nd,by simp,λ a ha b hb z=>?_⟩;rw[List.mem_singleton.mp hb] at z;obtain⟨_,Z,y⟩:=h.mem ha;rw[z,hp] at y;cases y
theorem GS.app (h:GS K H0 Hs H T g refs) (Z:Hs T≠none) (hp:H p=none) {i:Nat}{a:Addr}{ds:List D}{ws:List V} (ha:refs[i]?=some a) (Y:g[i]?=some (k,ds)) (hw:H a=some (.lst ws)) (rv:Rep K H0 d v) :
  GS K H0 Hs (upd (upd H p (.lst [])) a (.lst (ws++[v]))) T (g.set i (k,ds++[d])) refs:=by
 have Tp:T≠p:=λ z=>by rw[<- z,h.hT] at hp;cases hp
 obtain⟨x,ab,y,r⟩:=h.ats i a _ ha Y;rw[hw] at y;cases y;have aT:a≠T:=λ z=>Z (z▸x);have ap:a≠p:=λ z=>by rw[z,hp] at hw;cases hw
 have il:i<g.length:=as5 Y;have km:(g.set i (k,ds++[d])).map (·.1)=g.map (·.1):=by
  refine List.ext_getElem? λ n=>?_;rw[Qp,Qp];by_cases z:i=n
  ·subst z;rw[Ql il,Y];rfl
  ·rw[Qn z]
 refine⟨λ b u e n=>?_,?_,by rw[Qz,h.len],λ n b q M hq=>?_,h.nd⟩
 ·have n1:b≠a:=λ z=>by rw[z,x] at e;cases e
  have e':=h.old b u e n;have n2:b≠p:=λ z=>by rw[z,hp] at e';cases e'
  rw[a_4 n1,a_4 n2];exact e'
 ·rw[a_4 (Zb aT),a_4 Tp,km];exact h.hT
 ·by_cases z:i=n
  ·subst z;rw[ha] at M;cases M;rw[Ql il] at hq;cases hq;exact⟨x,_,a_8,r.app (Reps.one rv)⟩
  ·rw[Qn z] at hq;obtain⟨x2,aa,O,r2⟩:=h.ats n b q M hq;have n1:b≠a:=λ w=>z ((List.getElem?_inj (as5 ha) h.nd).mp (by rw[ha,M,w]));have n2:b≠p:=λ w=>by rw[w,hp] at O;cases O
   exact⟨x2,aa,by rw[a_4 n1,a_4 n2];exact O,r2⟩
end
def bu3 (n:Nat) (g:List (Str×List D)):Prop:=g.length<=n/\∀ q∈g,q.2.length<=n
theorem aZ3 {n:Nat} (k:Str) (d:D):∀ (g:List (Str×List D)),bu3 n g->bu3 (n+1) (N_7 k d g):=λ g h=>by
 have O:(N_7 k d g).length<=g.length+1:=by
  induction g with
  |nil=>exact qj _
  |cons q r M =>
   show (if q.1=k then (q.1,q.2++[d])::r else q::N_7 k d r).length<=_;have:=M ⟨by have:=h.1;simp at this;omega,λ x z=>h.2 x (qh _ z)⟩;split
   ·simp
   ·simp;omega
 have Y:∀ q∈N_7 k d g,q.2.length<=n+1:=by
  have h2:=h.2;clear h O;induction g with
  |nil=>intro q hq;rw[List.mem_singleton.mp hq];simp
  |cons x r M =>
   intro q hq;have hq:q∈(if x.1=k then (x.1,x.2++[d])::r else x::N_7 k d r):=hq;split at hq
   ·rcases qw hq with rfl | hq
    ·have:=h2 x qg;simp;omega
    ·have:=h2 q (qh _ hq);omega
   ·rcases qw hq with rfl | hq
    ·have:=h2 q qg;omega
    ·exact M (λ x z=>h2 x (qh _ z)) q hq
 exact⟨by have:=h.1;omega,Y⟩
abbrev tbG (K:Frag) (i j:Nat):TS:=aS0 (tBM K "list" ac8 (bJ8 (aD6 i) (tOp (bj8 K) (aD6 j) (tC (.int 1))) (by1 be6)) (ar4 (aD6 j) be6))
theorem aX5 {d:D}{k:Str} (h:be8 d=some k):∃ t u,d=.tup [.int t,.str k,.int u]:=by
 unfold be8 at h;split at h
 ·cases h;exact⟨_,_,rfl⟩
 ·cases h
theorem aI1 {K:Frag}{H0 Hs H:Hp}{T:Addr}{g:List (Str×List D)}{refs:List Addr}{k:Str}{d:D}{v:V}{i j n:Nat}{σ:L2.St} (h:GS K H0 Hs H T g refs) (s0:Same H0 H) (Z:Hs T≠none) (Y:bu3 n g) (hn:n<=1000) (rv:Rep K H0 d v) (hk:be8 d=some k)
  (hi:σ[i]?=some (some (.ref T))) (hj:σ[j]?=some (some v)) (Dn:Ends) (q:∀ H' O,GS K H0 Hs H' T (N_7 k d g) O->Dn.nx σ H'):tbG K i j Dn σ H:=by
 have big:(2000:Nat)<=sizeLine:=by decide
 obtain⟨t,u,rfl⟩:=aX5 hk;obtain⟨a,rfl,sq⟩:=bp3 rv s0;have aa:(ab7 (g.map (·.1)) (refs.map V.ref)).length=g.length:=by unfold ab7;rw[List.length_zip,Qg,Qg,Qg,h.len,Nat.min_self]
 refine⟨.ref T,hi,T,rfl,.inl ⟨_,.inl h.hT⟩,.ref a,hj,a,_,1,.str k,rfl,rfl,sq,rfl,by show 0<=sizeLine;exact Qw _,λ p hp=>?_⟩;have Tp:T≠p:=λ z=>by rw[<- z,h.hT] at hp;cases hp
 refine⟨ab7 (g.map (·.1)) (refs.map V.ref),.inr k,by rw[a_4 Tp];exact h.hT,rfl,by rw[aa];have:=Y.1;omega,λ w M=>?_,λ M=>?_⟩
 ·rcases af0 (.tup [.int t,.str k,.int u]) k g refs h.len with ⟨h1,h2⟩ | ⟨i',b,ds,h1,h2,h3,h4⟩
  ·rw[h1] at M;cases M
  ·rw[h3] at M;cases M;obtain⟨x,ws,y,r⟩:=h.ats i' b _ h1 h2;have bp:b≠p:=λ z=>by rw[z,hp] at y;cases y
   have eb:(upd H p (.lst [])) b=some (.lst ws):=by rw[a_4 bp];exact y
   refine⟨.inl ⟨rfl,_,SqL.of eb⟩,.ref a,hj,b,ws,.ref a,rfl,rfl,eb,?_,q _ refs ?_⟩
   ·rw[<- r.length];have:=Y.2 _ (Zl h2);omega
   ·rw[h4];exact h.app Z hp h1 h2 y rv
 ·rcases af0 (.tup [.int t,.str k,.int u]) k g refs h.len with ⟨h1,h2⟩ | ⟨i',b,ds,h1,h2,h3,h4⟩
  ·have ep:(upd (upd H p (.lst [])) T (.dK (W_3 (ab7 (g.map (·.1)) (refs.map V.ref)) (.inr k) (.ref p)))) p=some (.lst []):=by rw[a_4 (Zb Tp),a_8]
   refine⟨.inl ⟨rfl,_,SqL.of ep⟩,.ref a,hj,p,[],.ref a,rfl,rfl,ep,by show 0<sizeLine;omega,q _ (refs++[p]) ?_⟩;rw[h2];refine h.new Z hp rv ?_ a_8 λ b n1 n2=>by rw[a_4 n2,a_4 n1,a_4 n2]
   rw[a_4 Tp,a_8,aE4 _ h1,Qy,Qy];unfold ab7;rw[Qy,List.zip_append (by rw[Qg,Qg,Qg,h.len])];rfl
  ·rw[h3] at M;cases M
theorem ao6 {d:D}{r:List D}{g fin:List (Str×List D)} (h:E_0 (d::r) g=some fin):∃ k,be8 d=some k/\E_0 r (N_7 k d g)=some fin:=a_1 (show bnd (be8 d) (λ k=>E_0 r (N_7 k d g))=some fin from h)
section
variable {X:Cx}{pos:Pos}{iter:Expr}{F:FE}
theorem ag1 {K:Frag}{H:Hp}:∀ (g:List (Str×List D)) (refs:List Addr),g.length=refs.length->(∀ (i:Nat) a q,refs[i]?=some a->g[i]?=some q->Rep K H (.lst q.2) (.ref a))->Reps K H ((K_3 g).map (·.2)) (refs.map V.ref)
 |[],[],_,_=>Reps.nil_
 |[],_::_,e,_=>by cases e
 |_::_,[],e,_=>by cases e
 |q::g,a::refs,e,h=>by
  show Reps K H (.lst q.2::(K_3 g).map (·.2)) (.ref a::refs.map V.ref);exact Reps.cons (h 0 a q rfl rfl) (ag1 g refs (by simpa using e) λ i b x M z=>h (i+1) b x (by simpa using M) (by simpa using z))
theorem GS.fin {K:Frag}{c:FC}{H0 Hs H:Hp}{ρ:En}{σ:L2.St}{T:Addr}{g:List (Str×List D)}{refs:List Addr}{i:Nat}{m:MO} (R:RS K c H0 Hs ρ σ) (hi:ρ[i]?=some (.ow false m)) (O:σ[i]?=some (some (.ref T))) (h:GS K H0 Hs H T g refs) :
  ∃ H0',Same H0 H0'/\RS K c H0' H (ρ.set i (.ow false (.dic (K_3 g)))) σ:=by
 obtain⟨T',x,y,z,w⟩:=R.ow i _ _ hi;rw[O] at x;cases x;obtain⟨u,hu⟩:=w.some;have aa:Hs T≠none:=λ z=>by rw[hu] at z;cases z
 have M:Same H0 (λ b=>if b∈refs then H b else H0 b):=λ b o e=>by
  have:¬ b∈refs:=λ z=>by
   have e1:=(h.mem z).1;rw[R.same b o e] at e1;cases e1
  show (if b∈refs then H b else H0 b)=some o;rw[if_neg this];exact e
 refine⟨_,M,R.lent hi O M (λ b o e=>?_) h.old (λ b o e=>?_) ⟨g.map (λ (x:Str×List D)=>x.1),refs.map V.ref,h.hT,by unfold K_3;rw[Zy];rfl,ag1 g refs h.len λ i a q ha hq=>?_⟩⟩
 ·have e':(if b∈refs then H b else H0 b)=some o:=e;by_cases z:b∈refs
  ·rw[if_pos z] at e';exact e'
  ·rw[if_neg z] at e';refine h.old b o (R.same b o e') λ Z=>?_;rw[Z,y] at e';cases e'
 ·have e':(if b∈refs then H b else H0 b)=some o:=e;by_cases z:b∈refs
  ·exact .inr (h.mem z).1
  ·rw[if_neg z] at e';exact .inl e'
 ·obtain⟨_,Y,e1,r⟩:=h.ats i a q ha hq;unfold Rep;refine⟨a,Y,rfl,.inl (.inl ?_),Reps.mono M _ r⟩;show (if a∈refs then H a else H0 a)=_;rw[if_pos (Zl ha)];exact e1
theorem bS0 (j i:Nat) {x y:Str}{px p1 p2 p3 p4 p5 p6 p7 p8 p9 au Y:Pos}{jj:Nat} (hN:X.N.Nodup) (hi:XE X iter F) (hx:X.N[j]?=some x:=by rfl) (a0:Loc X.env.scope x:=by first | exact Or.inl rfl | exact Or.inr rfl)
  (a3:X.fn x=true ∨ X.env.scope.names.lookup x=some .local:=by first | exact .inl rfl | exact .inr rfl) (as:Vis X.env.scope x:=by first | exact Or.inl rfl | exact Or.inr (Or.inl rfl) | exact Or.inr (Or.inr rfl)) (am:(x==("__debug__":Str))=false:=by decide) (aq:(x==("__classdict__":Str))=false:=by decide)
  (hy:X.N[i]?=some y:=by rfl) (a2:Vis X.env.scope y:=by first | exact Or.inl rfl | exact Or.inr (Or.inl rfl) | exact Or.inr (Or.inr rfl)) (a7:(y==("__debug__":Str))=false:=by decide) (a4:(y==("__classdict__":Str))=false:=by decide)
  (m:M2 X (.Name y p1) "setdefault" p2 (.Subscript (.Name x p3) (.Constant (.int 1) jj p4) Y) (.List [] p5) p6:=by exact⟨rfl,rfl,rfl,rfl⟩)
  (ag:attributeBase (.Call (.Attribute (.Name y p1) "setdefault" p2) [.Subscript (.Name x p3) (.Constant (.int 1) jj p4) Y,.List [] p5] [] p6) "append" X.env (eval (.Call (.Attribute (.Name y p1) "setdefault" p2) [.Subscript (.Name x p3) (.Constant (.int 1) jj p4) Y,.List [] p5] [] p6) X.env)=eval (.Call (.Attribute (.Name y p1) "setdefault" p2) [.Subscript (.Name x p3) (.Constant (.int 1) jj p4) Y,.List [] p5] [] p6) X.env:=by rfl)
  (ar:((backTo p9 (starEach [.Name x p8] X.env)).all (λ x=>!x.1)&&(backToKw p9 (keywordEach [] X.env)).all (λ x=>x.1.isSome)&&decide ([Expr.Name x p8].length+([]:List Keyword).length+(if ([]:List Keyword).isEmpty then 0 else 1)<30))=true:=by rfl)
  (ai:(p7.endLine==p9.line)=true:=by rfl) (an:starEach [.Name x p8] X.env=(false,eval (.Name x p8) X.env)::starEach [] X.env:=by rfl) (aw:(backTo p9 (starEach [] X.env)).any (·.1)=false:=by rfl)
  (ba:swapsWith (.Call (.Attribute (.Call (.Attribute (.Name y p1) "setdefault" p2) [.Subscript (.Name x p3) (.Constant (.int 1) jj p4) Y,.List [] p5] [] p6) "append" p7) [.Name x p8] [] p9) none au.line X.env=pure false:=by rfl)
  (hp:PassesOwn (model X.prog X.w) X.A X.env X.xe:=by exact Zv) (hc:X.calm=true:=by rfl) (hs:∀ x,foldedSetIterable iter X.env x=pure x:=by intro _;rfl) :
  XS X (.For (.Name x px) iter [.Expr (.Call (.Attribute (.Call (.Attribute (.Name y p1) "setdefault" p2) [.Subscript (.Name x p3) (.Constant (.int 1) jj p4) Y,.List [] p5] [] p6) "append" p7) [.Name x p8] [] p9) au] [] pos) (bv1 j i F) :=
 PS.wk (O_4 hp hc (Q_9 hi) (A_5 hN hx a0 a3) (D_6 (Q_6 (aU7 Yk Ji Jh J_3 (bm1 (t_1 hy a2 a7 a4) (aF6 ix_tup (t_1 hx as am aq) W_5 (λ _ _=>rfl)) (ai4 x_8) m) (q_0 (t_1 hx as am aq) x_8 an) ag ar ai an aw) ba)) hs) λ Dn σ H Z=>by
  obtain⟨c,H0,ρ,r,R,f,q⟩:=Z;unfold bv1 aD8 at f;obtain⟨⟨d,M⟩,h1,f⟩:=a_1 f;cases d with
  |lst xs =>
   have f1:as2 j i xs M (owD M[i]?)=some r:=f;unfold as2 at f1;obtain⟨⟨b,kds⟩,h2,f2⟩:=a_1 f1;have aa:(if b=false/\kds=[]/\xs.length<=1000/\j≠i/\j<M.length then as1 j i xs M (E_0 xs []) else none)=some r:=f2;by_cases ah:b=false/\kds=[]/\xs.length<=1000/\j≠i/\j<M.length
   case neg=>rw[if_neg ah] at aa;cases aa
   rw[if_pos ah] at aa;have f3:=aa;obtain⟨hb,ak,hl,av,ax⟩:=ah;have hb:b=false:=hb;have ak:kds=[]:=ak;subst hb ak;unfold as1 at f3;obtain⟨fin,h3,f4⟩:=a_1 f3;cases f4;refine⟨c,H0,ρ,_,M,R,h1,λ v H1 Hh s1 R1 r1=>?_⟩;unfold Rep at r1;obtain⟨l,ws,rfl,sq,rs⟩:=r1;have z:=au4 h2;obtain⟨T,ht,az,_,ks,bc,e4,ek,t0⟩:=R1.ow i _ _ z;have ek:ks=[]:=ek;subst ek;have e4:Hh T=some (.dK []):=e4;have a9:Hh T≠none:=λ z=>by rw[e4] at z;cases z
   have a6:=rs.length;have jl:j<σ.length:=by rw[<- R1.len];exact ax
   have seq:∀ {H':Hp}{g:List (Str×List D)}{refs:List Addr},GS X.K H1 Hh H' T g refs->Same H1 H':=λ h b o e=>h.old b o (R1.same b o e) λ zz=>by rw[zz,az] at e;cases e
   refine⟨l,rfl,⟨ws,Same.seq R1.same sq⟩,λ n m O H'=>m=xs.length-n/\n<=xs.length/\(∃ g refs,E_0 (xs.drop n) g=some fin/\GS X.K H1 Hh H' T g refs/\bu3 n g)/\((n=0/\O=σ)\/∃ v d,0<n/\xs[n-1]?=some d/\Rep X.K H1 d v/\O=σ.set j (some v)),⟨xs.length,by simp,Qw _,⟨[],[],by simpa using h3,⟨λ b u e n=>e,e4,rfl,λ i a q e=>(by cases e),Yp⟩,qj _,λ q hq=>(by cases hq)⟩,.inl ⟨rfl,rfl⟩⟩,?_⟩;rintro n m O H' ⟨rfl,hn,⟨g,refs,hg,ae,al⟩,ad⟩;have ab:=seq ae;have bb:O[i]?=some (some (.ref T)):=by
    rcases ad with ⟨_,rfl⟩ | ⟨v,d,_,_,_,rfl⟩
    ·exact ht
    ·rw[Qn av];exact ht
   by_cases ao:n<xs.length
   ·have hd:xs[n]?=some xs[n]:=Qm ao;obtain⟨v,hv,rv⟩:=rs.get hd;rw[E_1 hd] at hg;obtain⟨k,hk,hg⟩:=ao6 hg;refine .inr ⟨⟨ws,v,Same.seq ab sq,hv⟩,λ ac H''=>ac=σ.set j (some v)/\∃ g refs,E_0 (xs.drop (n+1)) g=some fin/\GS X.K H1 Hh H'' T g refs/\bu3 (n+1) g,λ ac H'' ⟨a,b⟩=>⟨xs.length-(n+1),by omega,rfl,ao,b,.inr ⟨v,_,Nat.succ_pos _,by rw[Nat.add_sub_cancel];exact hd,rv,a⟩⟩,λ x H'' Z=>?_⟩;obtain⟨e1,e2⟩:=Z;have:=e2 ws (Same.seq ab sq);rw[hv] at this;cases this;subst e1;have ay:O.set j (some v)=σ.set j (some v):=by
     rcases ad with ⟨_,rfl⟩ | ⟨v,d,_,_,_,rfl⟩
     ·rfl
     ·rw[List.set_set]
    show tbG X.K i j _ (O.set j (some v)) _;rw[ay];exact aI1 ae ab a9 al (by omega) rv hk (by rw[Qn av];exact ht) (by rw[Ql jl]) _ λ H3 af hh=>⟨rfl,_,af,hg,hh,aZ3 k _ g al⟩
   ·have a1:xs.drop n=[]:=Zo (by omega);rw[a1] at hg;have a8:some g=some fin:=hg;cases a8;have ne:n=xs.length:=by omega
    obtain⟨H0',s3,R3⟩:=GS.fin R1 z ht ae;refine .inl ⟨⟨ws,Same.seq ab sq,by rw[<- a6];omega⟩,?_⟩;rcases ad with ⟨n0,rfl⟩ | ⟨v,d,np,hd,rv,rfl⟩
    ·have a5:xs=[]:=List.eq_nil_of_length_eq_zero (by omega);subst a5;exact q _ H0' H' (s1.trans s3) R3
    ·have aj:xs.getLast?=some d:=by rw[List.getLast?_eq_getElem?,<- ne];exact hd
     have:=R3.set j (Rep.mono s3 _ rv);refine q _ H0' H' (s1.trans s3) ?_;unfold w_9;rw[aj];exact this
  |_=>cases f
end
end Fx
namespace Fx
open PySem PySem.W PyProof.Rows
def leR (z:Keyed->Nat) (x y:Keyed):Prop:=z x<=z y
noncomputable def Rk (z:Keyed->Nat) (xs:Array Keyed) (i:Nat):Nat:=match xs[i]? with
 |some x=>z x
 |none=>0
def Kp (lo:Nat) (a xs:Array Keyed):Prop:=xs.Perm a/\∀ i,i<lo->xs[i]?=a[i]?
theorem Kp.size {lo:Nat}{a xs:Array Keyed} (h:Kp lo a xs):xs.size=a.size:=h.1.size_eq
def UpO (z:Keyed->Nat) (xs:Array Keyed) (lo m:Nat):Prop:=∀ i j,i<=j->j<m->Rk z xs (lo+i)<=Rk z xs (lo+j)
noncomputable def bV0:List (List Keyed×Nat)->Nat->List (Nat×Nat×Nat)
 |[],_=>[]
 |r::t,o=>(o,r.1.length,r.2)::bV0 t (o+r.1.length)
noncomputable def bY2 (z:List (List Keyed×Nat)):List Keyed:=(z.map (·.1)).flatten
end Fx
namespace Fx
open PySem PySem.Spec PyProof.Rows L2
theorem aV0 {o:Option Sl}{ds:List D} (h:bm6 o=some ds):o=some (.ow false (.lst ds)):=by
 unfold bm6 at h;split at h
 ·cases h;rfl
 ·cases h
section
variable {P:Program}{w:World}{κ:Type} [DecidableEq κ] {knd:HeapKind P w κ}{A:Around}{E:Value->Shared->Prop}{s:Shared}{d a:Addr}{xs:List (κ×Addr×Value)}{k:κ}{v:Value}
theorem aG0 {h:Heap}{o:Obj}{es:Array DictEntry}{ep:Nat} (e1:h.get? d=some o) (e2:o.ExactDict) (e3:o.data=.dict es ep) (Z:es.toList=xs.map (entryOfKey knd)) (e5:∀ x∈xs,knd.is h x.1 x.2.1) (e6:(xs.map (·.1)).Nodup)
  (hk:knd.is h k a) (no:∀ (j:Nat) (p:Addr×Value),xs[j]?≠some (k,p)) :
  (h.update d (Obj.mapDictKeys (λ q=>q.push ⟨knd.hash k,.ref a,v⟩))).DictOfH knd d (xs++[(k,a,v)]):=by
 have new:¬ k∈xs.map (·.1):=λ z=>by
  obtain⟨x,M,ex⟩:=List.mem_map.mp z;obtain⟨j,hj⟩:=Ud M;exact no j x.2 (by rw[hj,<- ex])
 have Y:Heap.SameBut d h (h.update d (Obj.mapDictKeys (λ q=>q.push ⟨knd.hash k,.ref a,v⟩))):=Yg ..;have O:=Obj.data_mapDictKeys e3 (λ q=>q.push ⟨knd.hash k,.ref a,v⟩);refine⟨_,_,_,Heap.get?_update_self _ e1 (Obj.isFreed_of_dict O),e2.mapDictKeys _,O,?_,λ x M=>?_,?_⟩
 ·rw[Array.toList_push,Z,Qy];rfl
 ·cases qz M with
  |inl M=>exact knd.keeps (e5 x M) e1 e3 Y
  |inr M=>cases List.mem_singleton.mp M;exact knd.keeps hk e1 e3 Y
 ·rw[Qy];exact ae0 e6 new
theorem aS6 {Q:Value->Shared->Prop} (hu:knd.room A) (hk:knd.is s.heap k a) (hm:s.heap.DictOfH knd d xs) (hz:xs.length<sizeLine)
  (M:∀ (j:Nat) (p:Addr×Value),xs[j]?=some (k,p)->Q p.2 {s with toks:=s.toks+knd.draws k})
  (new:(∀ (j:Nat) (p:Addr×Value),xs[j]?≠some (k,p))->∀ h',h'.DictOfH knd d (xs++[(k,a,v)])->Heap.SameBut d s.heap h'->Q v {s with heap:=h',toks:=s.toks+knd.draws k}) :
  wpAny (model P w) A (dictSetDefault d (.ref a) v) Q E s:=by
 obtain⟨o,es,ep,e1,e2,e3,z,Y,O⟩:=hm;have aa:=size_of_entries z;unfold dictSetDefault;refine Zz (qc (knd.pyHash hu hk (qc (wpAny_dictFind_heap (s:={s with toks:=s.toks+knd.draws k}) hu hk e1 e3 z Y O (λ no=>?_) λ j p Z=>?_))))
 ·exact qc (wpAny_rule (qc (wpAny_updateDictKeys (hz:=by omega) (s:={s with toks:=s.toks+knd.draws k}) e1 e3 (qd (new no _ (aG0 e1 e2 e3 z Y O hk no) (Yg ..))))))
 ·refine qc (Jc (s:={s with toks:=s.toks+knd.draws k}) e1 e3 ?_);rw[entry_at z j,Z];exact qc (wpAny_rule (qd (M j p Z)))
end
section
variable {P:Program}{w:World}{A:Around}{E:Value->Shared->Prop}{s:Shared}{d it:Addr}{od:Obj}{es:Array DictEntry}{i ep:Nat}
theorem aV7 {n:Nat}:((n:Int)+1)=((n+1:Nat):Int):=by omega
theorem av2 {n:Nat}:¬ ((n:Int)<0):=by omega
theorem aX8 {Q:Value->Shared->Prop} (M:(d==sysModules)=false) (h1:s.heap.get? d=some od) (h2:od.ExactDict) (z:od.data=.dict es ep)
  (q:∀ h',(∀ b o,s.heap.get? b=some o->h'.get? b=some o)->h'.IsKeyIter s.heap.objs.size d 0 es.size ep->h'.objs.size=s.heap.objs.size+1->Q (.ref s.heap.objs.size) {s with heap:=h'}):wpAny (model P w) A (pyIter (.ref d)) Q E s:=by
 have ty:s.TypeIs (.ref d) "dict":=⟨od,h1,h2.1⟩;refine wpAny_pyIter_slot ty PySem.F.slot_dict_iter (Yr PySem.F.slot_dict_iter ty PySem.F.entry_dict_iter (qc ?_) (PySem.F.args_dict_iter_1 _));unfold Builtin.Dict.dictSlotNone;refine qc (wpAny_notOrdered_dict ty (show wpAny _ _ (pure (Value.ref d)) _ _ s from qd (show wpAny _ _ (Builtin.Dict.showsAll d >>= _) _ _ s from ?_)));unfold Builtin.Dict.showsAll;rw[M];refine qc (qd (qc (Jc h1 z (qc (wpAny_dictEpoch h1 z (qc (Zh (qd ⟨_,rfl,"dict_keyiterator",_,⟨_,qk _ rfl,rfl⟩,PySem.F.slot_dict_keyiterator_next.lookup,?_⟩))))))));exact q _ (λ b o e=>qf _ e) ⟨_,qk _ rfl,rfl,rfl⟩ (Heap.size_push ..)
theorem aG1 {e:DictEntry}{Q:Option Value->Shared->Prop} (z:s.heap.IsKeyIter it d i es.size ep) (h1:s.heap.get? d=some od) (O:od.data=.dict es ep) (Y:es[i]?=some e)
  (q:∀ h',h'.IsKeyIter it d (i+1) es.size ep->Heap.SameBut it s.heap h'->Q (some e.key) {s with heap:=h'}):wpAny (model P w) A (pyNext (.ref it)) Q E s:=by
 have ty:=z.typeIs;obtain⟨o,e1,e2,e3⟩:=id z;have M:(s.heap.update it (Obj.mapFields (·.setIfInBounds 1 (rawInt ((i:Int)+1))))).IsKeyIter it d (i+1) es.size ep :=
  ⟨_,Heap.get?_update_self _ e1 (Obj.isFreed_of_fields (Obj.data_mapFields e3 _)),e2▸Obj.cls_mapFields ..,by rw[Obj.data_mapFields e3,aV7];rfl⟩
 unfold pyNext;refine qc (wpAny_attempt (wpAny_callSpecial?_slot (name:=Str.ofString "__next__") ty Zr (Yr Zr ty Uk (qc (qd (qc (qc (qc (Z7 ty (qd (qc (wpAny_fieldsOf e1 e3 ?_)))))))) ) (Ug _))));refine show wpAny _ _ (if (Value.ref d==Value.none)=true then _ else _) _ _ s from ?_;have Z:(Value.ref d==Value.none)=false:=rfl;rw[Z];refine qc (qd (qc (Jc h1 O ?_)));rw[if_neg (by simp)]
 refine qc (qd (qc (wpAny_dictEpoch h1 O ?_)));rw[if_neg (by simp)];refine qd ?_;dsimp only;rw[if_neg av2,Int.toNat_natCast,Y];refine qc (qc (Z7 ty (qd (qc (wpAny_isOneOf_keyiter ty (show wpAny _ _ (setField (.ref it) 1 (rawInt ((i:Int)+1)) >>= _) _ _ s from qc (wpAny_setField e1 e3 (by simp) (qc (Zz (qc (wpAny_isOneOf_keyiter (Heap.IsKeyIter.typeIs (s:={s with heap:=s.heap.update it (Obj.mapFields (·.setIfInBounds 1 (rawInt ((i:Int)+1))))}) M) ?_)))))))))));exact qd (qd ⟨_,rfl,qd (q _ M (Yg ..))⟩)
theorem am1 {Q:Option Value->Shared->Prop}{h:Heap}{g:Shared} (z:A.handled=none) (q:∀ h',(∀ b o,h.get? b=some o->h'.get? b=some o)->Q none {g with heap:=h'}) :
  wpAny (model P w) A.in1 (newExc (.type "StopIteration") [] >>= λ x=>(raiseNew x:Sem Fin)) (λ fin s'=>False)
   (λ e s'=>wpAny (model P w) A (isInstance e (Value.type "StopIteration") >>= λ b=>if b=true then pure none else throw e) Q E s') {g with heap:=h}:=by
 simp only[newExc,newTuple];refine qc (qc (Zh (qc (m:=firstArgMember _ _) (wpAny_of_eq (a:=Value.none) (by first | rfl | (simp only[firstArgMember];rfl)) (Zh ?_ (by size_fits)))) (by size_fits)));unfold raiseNew;refine qc (wpAny_handled ?_);rw[show A.in1.handled=none from z];refine qc (qd (wpAny_throw ?_));refine qc (wpAny_isInstance (T:="StopIteration") (b:=true) ⟨_,qk _ rfl,rfl⟩ isSubtype_stop ?_);exact qd (q _ λ b o e=>qf _ (qf _ e))
theorem bc1 {Q:Option Value->Shared->Prop} (Z:A.handled=none) (M:s.heap.IsKeyIter it d i es.size ep) (h1:s.heap.get? d=some od) (O:od.data=.dict es ep) (Y:es.size<=i)
  (q:∀ h',Heap.ExtBut it s.heap h'->Q none {s with heap:=h'}):wpAny (model P w) A (pyNext (.ref it)) Q E s:=by
 have ty:=M.typeIs;obtain⟨o,e1,e2,e3⟩:=id M;unfold pyNext;refine qc (wpAny_attempt (wpAny_callSpecial?_slot (name:=Str.ofString "__next__") ty Zr (Yr Zr ty Uk (qc (qd (qc (qc (qc (Z7 ty (qd (qc (wpAny_fieldsOf e1 e3 ?_)))))))) ) (Ug _))));refine show wpAny _ _ (if (Value.ref d==Value.none)=true then _ else _) _ _ s from ?_;have nn:(Value.ref d==Value.none)=false:=rfl;rw[nn];refine qc (qd (qc (Jc h1 O ?_)));rw[if_neg (by simp)]
 refine qc (qd (qc (wpAny_dictEpoch h1 O ?_)));rw[if_neg (by simp)];refine qd ?_;dsimp only;rw[if_neg av2,Int.toNat_natCast,Array.getElem?_eq_none Y];refine qc (qc (Z7 ty (qd (show wpAny _ _ (setField (.ref it) 0 .none >>= _) _ _ s from qc (wpAny_setField e1 e3 (by simp) ?_)))));exact Q6 (am1 (g:=s) (E:=E) (Q:=Q) Z λ h' k=>q h' λ b o n e=>k b o ((Yg ..).extBut b o n e)) (λ _ _ f=>f.elim) λ _ _ z=>z
end
def q_1 (tab:Tab V) (k:Str×Int):Option V:=(tab.find? λ x=>decide (x.1=k)).map (·.2.2)
noncomputable def bv7 (k:Str×Int) (v:V) (x:(Str×Int)×Addr×V):(Str×Int)×Addr×V:=if x.1=k then (x.1,x.2.1,v) else x
def bk4 (tab:Tab V) (k:Str×Int) (b:Addr) (v:V):Tab V:=if (q_1 tab k).isSome then tab.map (bv7 k v) else tab++[(k,b,v)]
abbrev aQ5:(Str×Int)×Addr×V->(Str×Int)×Addr×Value->Prop:=λ p q=>p.1=q.1/\p.2.1=q.2.1/\RelV p.2.2 q.2.2
theorem ax1 {a b:Str×Int} (h:kTI a=kTI b):a=b:=by
 unfold kTI at h;injection h with h1 h2
 injection h2 with h3 _
 injection h1 with h1
 injection h3 with h3
 exact Prod.ext h1 h3
theorem bc5 (a b:Str×Int):decide (kTI a=kTI b)=decide (a=b):=by
 by_cases e:a=b
 ·rw[e];simp
 ·rw[Qh e,Qh λ z=>e (ax1 z)]
theorem aX6 (k:Str×Int):(kTI k).map kV=[.str k.1,.int k.2]:=rfl
theorem aj5:∀ {tab:Tab V}{xs:Tab Value},Paired aQ5 tab xs->(xs.map al8).map (·.1)=(tab.map (·.1)).map kTI
 |_,_,.nil=>rfl
 |_,_,.cons r t=>by rw[Qa,Qa,Qa,Qa,aj5 t,r.1];rfl
theorem G_5 {k:Str×Int}:∀ {tab:Tab V}{xs:Tab Value},Paired aQ5 tab xs->RelO (q_1 tab k) ((atKey (xs.map al8) (kTI k)).map (·.2))
 |_,_,.nil=>trivial
 |_,_,.cons (a:=x) (b:=y) r t=>by
  have z:=G_5 (k:=k) t;unfold q_1 atKey at z ⊢;rw[Qa,Q2,Q2];have e:decide ((al8 y).1=kTI k)=decide (x.1=k):=by rw[r.1];exact bc5 _ _
  rw[e];cases decide (x.1=k) with
  |true=>exact r.2.2
  |false=>exact z
theorem aO1 {tab:Tab V}{xs:Tab Value} (r:Paired aQ5 tab xs) (n:(tab.map (·.1)).Nodup):((xs.map al8).map (·.1)).Nodup:=by rw[aj5 r];exact List.pairwise_map.mpr (n.imp λ M z=>M (ax1 z))
theorem O_6 {α z:Type}{F:α->z->Prop}{a:α}{b:z} (h:F a b):∀ {l:List α}{m:List z},Paired F l m->Paired F (l++[a]) (m++[b])
 |_,_,.nil=>.cons h .nil
 |_,_,.cons r t=>.cons r (O_6 h t)
theorem aE5 (k:Str×Int) (v:V) (tab:Tab V):(tab.map (bv7 k v)).map (·.1)=tab.map (·.1):=by
 rw[Zy];refine Yy λ x _=>?_;show (bv7 k v x).1=x.1;unfold bv7;split <;> rfl
theorem aw2 {tab:Tab V}{k:Str×Int} (h:q_1 tab k=none):¬ k∈tab.map (·.1):=λ z=>by
 obtain⟨x,M,e⟩:=List.mem_map.mp z;unfold q_1 at h;rw[Option.map_eq_none_iff,List.find?_eq_none] at h;exact h x M (by simpa using e)
theorem aE3 {tab:Tab V}{k:Str×Int}{b:Addr}{v:V}:(bk4 tab k b v).map (·.1)=if (q_1 tab k).isSome then tab.map (·.1) else tab.map (·.1)++[k]:=by
 unfold bk4;split
 ·exact aE5 k v tab
 ·rw[Qy];rfl
theorem aT8 {tab:Tab V}{k:Str×Int}{b:Addr}{v:V} (n:(tab.map (·.1)).Nodup):((bk4 tab k b v).map (·.1)).Nodup:=by
 rw[aE3];split
 ·exact n
 ·rename_i h;exact ae0 n (aw2 (by simpa using h))
theorem KsAt.mono {H H':Hp}{tab:Tab V} (h:KsAt H tab) (s:Same H H'):KsAt H' tab:=λ x z=>s _ _ (h x z)
section
variable {P:Program}{w:World}{H:Hp}{h:Heap}{a:Addr}{o:Obj}{tab:Tab V}
theorem KsAt.is (ok:HOk P w H h) {k:Str×Int}{b:Addr} (e:H b=some (.tup [.str k.1,.int k.2])):(tupleKind (c_9 P w)).is h (kTI k) b:=aw8 ok (by rw[aX6];exact e)
theorem aw7 (ok:HOk P w H h):∀ {tab:Tab V}{xs:Tab Value},Paired aQ5 tab xs->KsAt H tab->∀ x∈xs.map al8,(tupleKind (c_9 P w)).is h x.1 x.2.1
 |_,_,.nil,_,x,z=>nomatch z
 |_,_,.cons (a:=p) (b:=q) r t,ks,x,z=>by
  rw[Qa] at z;rcases qw z with e | z
  ·rw[e];have:=KsAt.is ok (ks p qg);show (tupleKind (c_9 P w)).is h (kTI q.1) q.2.1;rw[<- r.1,<- r.2.1];exact this
  ·exact aw7 ok t (λ y M=>ks y (qh _ M)) x z
theorem TD.of (ok:HOk P w H h) (td:TD P w o tab) (ks:KsAt H tab) (e:h.get? a=some o):∃ xs,Paired aQ5 tab xs/\h.DictOfH (tupleKind (c_9 P w)) a (xs.map al8):=by obtain⟨ex,⟨es,ep,xs,h1,h2,z⟩,nd,M⟩:=td;exact⟨xs,z,o,es,ep,e,ex,h1,h2,aw7 ok z ks,aO1 z nd⟩
theorem TD.mk' {xs:Tab Value} (r:Paired aQ5 tab xs) (d:h.DictOfH (tupleKind (c_9 P w)) a (xs.map al8)) (nd:(tab.map (·.1)).Nodup) (z:tab.length<=sizeLine):∃ o,h.get? a=some o/\TD P w o tab:=by obtain⟨o,es,ep,e1,e2,e3,M,_,_⟩:=d;exact⟨o,e1,e2,⟨es,ep,xs,e3,M,r⟩,nd,z⟩
theorem aM8 (M:(a==sysModules)=false) (e:∃ o,h.get? a=some o/\TD P w o tab):ObjOk P w H h a (tdO a tab):=by obtain⟨o,e1,e2⟩:=e;exact⟨⟨M,o,e1,e2⟩,⟨o,e1⟩,λ h1 h2 ⟨x,q,y,z⟩ k=>⟨x,q,k _ y,z⟩⟩
theorem bh1 (M:(a==sysModules)=false) (e1:h.get? a=some o) (e2:TD P w o tab):ObjOk P w H h a (tdF a o tab):=⟨⟨M,e1,e2⟩,⟨o,e1⟩,λ h1 h2 ⟨x,y,z⟩ k=>⟨x,k _ y,z⟩⟩
def TAt (H:Hp) (a:Addr) (tab:Tab V):Prop:=(H a=some (tdO a tab)\/∃ o,H a=some (tdF a o tab))/\KsAt H tab
theorem TAt.obj (ok:HOk P w H h) (t:TAt H a tab):(a==sysModules)=false/\∃ o,h.get? a=some o/\TD P w o tab:=by
 rcases t with ⟨t | ⟨o,t⟩,_⟩
 ·obtain⟨⟨z,o,e1,e2⟩,_⟩:=(show ObjOk P w H h a (tdO a tab) from ok a _ t);exact⟨z,o,e1,e2⟩
 ·obtain⟨⟨z,e1,e2⟩,_⟩:=(show ObjOk P w H h a (tdF a o tab) from ok a _ t);exact⟨z,o,e1,e2⟩
end
end Fx
namespace Fx
open PySem
noncomputable def J_5 (k:Str×Int) (kds:List ((Str×Int)×D)):Option D:=(kds.find? λ x=>decide (x.1=k)).map (·.2)
noncomputable def owU:Option Sl->Option (List ((Str×Int)×D))
 |some (.ow false (.dtu kds))=>some kds
 |_=>none
@[simp] theorem bV9 (kds:List ((Str×Int)×D)):owU (some (.ow false (.dtu kds)))=some kds:=zR rfl
noncomputable def ti:List D->Option (Str×Int)
 |[.str s,.int i]=>some (s,i)
 |_=>none
def sTN (i:Nat) (ρ:En):Option Res:=some (.nx (ρ.set i (.ow false (.dtu []))))
@[simp] theorem cb9 (i:Nat) (ρ:En):sTN i ρ=some (.nx (ρ.set i (.ow false (.dtu [])))):=zR rfl
noncomputable def asT (kds:List ((Str×Int)×D)):D:=.opq (kds.map (·.1)) (kds.map (·.2))
def bv5 (i:Nat) (B:FS) (ρ:En) (o:Option (List ((Str×Int)×D))):Option Res:=bnd o λ kds=>B (ρ.set i (.im (asT kds)))
def sFT (i:Nat) (B:FS) (ρ:En):Option Res:=bv5 i B ρ (owU ρ[i]?)
@[simp] theorem cc1 (i:Nat) (B:FS) (ρ:En):sFT i B ρ=bv5 i B ρ (owU ρ[i]?):=zR rfl
@[simp] theorem bK5 (i:Nat) (B:FS) (ρ:En) (kds:List ((Str×Int)×D)):bv5 i B ρ (some kds)=B (ρ.set i (.im (asT kds))):=zR rfl
def aJ6:D->D->Option D
 |.opq ks vs,.tup [.str s,.int i]=>J_5 (s,i) (ks.zip vs)
 |_,_=>none
@[simp] theorem bQ4 (ks:List (Str×Int)) (vs:List D) (s:Str) (i:Int):aJ6 (.opq ks vs) (.tup [.str s,.int i])=J_5 (s,i) (ks.zip vs):=zR rfl
noncomputable def kD (k:Str×Int):D:=.tup [.str k.1,.int k.2]
noncomputable def bB9:D->Option (List (Str×Int)×List D)
 |.opq ks vs=>some (ks,vs)
 |_=>none
def bN8 (ρ:En) (n:Nat) (o:Option (List D)):Option (D×En):=bnd o λ ys=>if n<=sizeLine then some (.lst ys,ρ) else none
def bN9 (ks:List (Str×Int)) (T:FT) (F:FE) (ρ:En) (o:Option En):Option (D×En):=bnd o λ fr=>bN8 ρ ks.length (cGo T F fr (ks.map kD))
def bO0 (js:List Nat) (T:FT) (F:FE) (ρ:En) (o:Option (List (Str×Int)×List D)):Option (D×En):=bnd o λ q=>bN9 q.1 T F ρ (Y_8 ρ js)
def bN7 (js:List Nat) (T:FT) (F:FE) (o:Option (D×En)):Option (D×En):=bnd o λ p=>bO0 js T F p.2 (bB9 p.1)
def eLK (js:List Nat) (I:FE) (T:FT) (F:FE) (ρ:En):Option (D×En):=bN7 js T F (I ρ)
noncomputable def be9:D->D->Option ((Str×Int)×D)
 |.tup [.int _,.str s,e],.int w=>some ((s,w),e)
 |_,_=>none
noncomputable def w_5 (k:Str×Int) (e:D):List ((Str×Int)×List D)->List ((Str×Int)×List D)
 |[]=>[(k,[e])]
 |q::r=>if q.1=k then (q.1,q.2++[e])::r else q::w_5 k e r
def ax7 (d:D):List D->Nat->List ((Str×Int)×List D)->Option (Nat×List ((Str×Int)×List D))
 |[],n,g=>some (n,g)
 |w::r,n,g=>bnd (be9 d w) λ q=>if n<1000 then ax7 d r (n+1) (w_5 q.1 q.2 g) else none
noncomputable def lsX:D->Option (List D)
 |.lst xs=>some xs
 |_=>none
@[simp] theorem bX1 (xs:List D):lsX (.lst xs)=some xs:=zR rfl
def n_1 (l:Nat) (z:List D) (ρ:En):En:=match z.getLast? with
 |some d=>ρ.set l (.im d)
 |none=>ρ
def T_2 (j l:Nat) (G:FE):List D->En->Nat->List ((Str×Int)×List D)->Option (En×List ((Str×Int)×List D))
 |[],ρ,_,g=>some (ρ,g)
 |d::r,ρ,n,g=>bnd (G (ρ.set j (.im d))) λ p=>bnd (lsX p.1) λ z=>bnd (ax7 d z n g) λ q=>T_2 j l G r (n_1 l z (ρ.set j (.im d))) q.1 q.2
noncomputable def gtD (g:List ((Str×Int)×List D)):List ((Str×Int)×D):=g.map λ q=>(q.1,.lst q.2)
def bi8 (i j l:Nat) (ρ:En) (xs:List D) (G:FE):Option Res:=if j≠i/\l≠i/\j≠l/\i<ρ.length/\j<ρ.length/\l<ρ.length/\(ρ.set i .no).all ad9=true then bnd (T_2 j l G xs (ρ.set i .no) 0 []) λ q=>some (.nx (q.1.set i (.ow false (.dtu (gtD q.2))))) else none
def bv3 (i j l:Nat) (G:FE) (ρ:En) (o:Option (List D)) (u:Option (List ((Str×Int)×D))):Option Res:=bnd o λ xs=>bnd u λ kds=>match kds with
 |[]=>bi8 i j l ρ xs G
 |_=>none
def bv2 (i j l:Nat) (G:FE) (o:Option (D×En)):Option Res:=bnd o λ p=>bv3 i j l G p.2 (lsX p.1) (owU p.2[i]?)
def sGT (i j l:Nat) (F G:FE) (ρ:En):Option Res:=bv2 i j l G (F ρ)
@[simp] theorem cc0 (i j l:Nat) (F G:FE) (ρ:En):sGT i j l F G ρ=bv2 i j l G (F ρ):=zR rfl
@[simp] theorem bK2 (i j l:Nat) (G:FE) (d:D) (ρ:En):bv2 i j l G (some (d,ρ))=bv3 i j l G ρ (lsX d) (owU ρ[i]?):=zR rfl
@[simp] theorem bK3 (i j l:Nat) (G:FE) (ρ:En) (xs:List D):bv3 i j l G ρ (some xs) (some [])=bi8 i j l ρ xs G:=zR rfl
noncomputable def r21:D->Bool
 |.tup [.tup [.str _,.int _],.int _]=>true
 |_=>false
def aB4 (z:D->Bool):List D->Option D
 |[.lst xs]=>if xs.length<64/\xs.all z=true then some (.lst (sortT xs)) else none
 |_=>none
def aI8 (o:Option (List D×En)):Option (D×En):=bnd o λ p=>if p.1.length<=1000 then some (.lst p.1,p.2) else none
def bw0 (F G:FE) (ρ:En):Option (D×En):=aI8 (aN4 F G ρ)
@[simp] theorem bZ0 (F G:FE) (ρ:En):bw0 F G ρ=aI8 (aN4 F G ρ):=zR rfl
@[simp] theorem bG0 (xs:List D) (ρ:En):aI8 (some (xs,ρ))=if xs.length<=1000 then some (.lst xs,ρ) else none:=zR rfl
def aB3:List D->Option D:=aB4 r21
@[simp] theorem bw4 (xs:List D):aB3 [.lst xs]=if xs.length<64/\xs.all r21=true then some (.lst (sortT xs)) else none:=zR rfl
end Fx
namespace Fx
open PySem PySem.Spec PyProof.Rows L2
section
variable {P:Program}{w:World}{κ:Type} [DecidableEq κ] {d b:Addr}{v:Value}
theorem av6 (knd:HeapKind P w κ) (hd:(d==sysModules)=false):MeetsIn P w (Builtin.«dict.setdefault» ⟨[.ref d,.ref b,v],[]⟩) (λ A R s=>knd.room A.in1/\∃ k xs,knd.is s.heap k b/\s.heap.DictOfH knd d xs/\xs.length<sizeLine /\
  (∀ (j:Nat) (p:Addr×Value),xs[j]?=some (k,p)->R (.ok (.ret p.2)) {s with toks:=s.toks+knd.draws k}) /\
  ((∀ (j:Nat) (p:Addr×Value),xs[j]?≠some (k,p))->∀ h',h'.DictOfH knd d (xs++[(k,b,v)])->Heap.SameBut d s.heap h'->R (.ok (.ret v)) {s with heap:=h',toks:=s.toks+knd.draws k})) :=
 .of_wp λ A R s z=>by
  obtain⟨hu,k,xs,hk,M,hz,Y,O⟩:=z;unfold Builtin.«dict.setdefault» Builtin.Dict.keyAndDefault;refine qc (qc (wpAny_notOrdered_dict M.typeIs (show wpAny _ _ (pure (d,Value.ref b,some v)) _ _ s from qd (show wpAny _ _ (if (d==sysModules)=true then _ else _) _ _ s from ?_))));rw[hd];refine qc (aS6 hu hk M hz (λ j p Z=>?_) λ no h' h1 h2=>?_)
  ·exact qd ⟨_,rfl,Y j p Z⟩
  ·exact qd ⟨_,rfl,O no h' h1 h2⟩
end
section
variable {X:Cx}{pins:List (Addr×Obj)}{σ:L2.St}{H:Hp}{s:Shared}{a b:Addr}{tab:Tab V}{k:Str×Int}{v d:V}{u r:Value}{A:Around}{E:Value->Shared->Prop}
theorem TAt.ty (I:Inv X pins σ H s) (t:TAt H a tab):s.TypeIs (.ref a) "dict" ∧ (∀ b,Value.ref a=.ref b → ∃ z,s.heap.get? b=some z ∧ z.dict=none):=by obtain⟨M,o,e1,td⟩:=t.obj I.hok;exact⟨⟨o,e1,td.ex.1⟩,λ b q=>by cases q;exact⟨o,e1,td.ex.2.1⟩⟩
theorem bo8 (I:Inv X pins σ H s) (h:SqT X.K H b [.str k.1,.int k.2]):(tupleKind (c_9 X.prog X.w)).is s.heap (kTI k) b:=by obtain⟨z,r,⟨o,h1,h2,⟨n,M⟩,_⟩,_⟩:=I.tupleN h;exact⟨o,z.toArray,n,h1,h2,M,by simpa using J_8 (ks:=kTI k) r⟩
theorem bh2 {Q:Value->Shared->Prop} (hu:A.units+1<cLine) (I:Inv X pins σ H s) (t:TAt H a tab) (kb:SqT X.K H b [.str k.1,.int k.2]) (l:q_1 tab k=some v) (h:∀ z s',Inv X pins σ H s'->RelV v z->Q z s') :
  wpAny (model X.prog X.w) A (getItem (.ref a) (.ref b)) Q E s:=by
 obtain⟨hd,o,e1,td⟩:=t.obj I.hok;obtain⟨xs,M,Z⟩:=td.of I.hok t.2 e1;obtain⟨z,hw,O⟩:=RelO.some_of (v:=v) (by rw[<- l];exact G_5 M);obtain⟨p,hp,Y⟩:=Option.map_eq_some_iff.mp hw;refine wpAny_getItem_heap (tupleKind_room_in1 hu) (bo8 I kb) Z hp ?_;rw[Y];exact h z _ (I.tok _) O
theorem aW9 {tab:Tab V}{xs:Tab Value} (M:Paired aQ5 tab xs) (nd:(tab.map (·.1)).Nodup) {j:Nat}{p:Addr×Value} (O:(xs.map al8)[j]?=some (kTI k,p)):∃ v,q_1 tab k=some v/\RelV v p.2:=by
 have e:=atKey_of_get (aO1 M nd) O;have l:=G_5 (k:=k) M;rw[e] at l;cases z:q_1 tab k with
 |none=>rw[z] at l;exact l.elim
 |some v=>rw[z] at l;exact⟨v,rfl,l⟩
theorem aW8 {tab:Tab V}{xs:Tab Value} (M:Paired aQ5 tab xs) (no:∀ (j:Nat) (p:Addr×Value),(xs.map al8)[j]?≠some (kTI k,p)):q_1 tab k=none:=by
 have e:=atKey_none_of_get no;have l:=G_5 (k:=k) M;rw[e] at l;cases z:q_1 tab k with
 |none=>rfl
 |some v=>rw[z] at l;exact l.elim
theorem aE2 {tab:Tab V}{k:Str×Int}{b:Addr}{v:V} (h:q_1 tab k=none):bk4 tab k b v=tab++[(k,b,v)]:=by unfold bk4;rw[h];rfl
theorem bS6 {Q:Value->Shared->Prop} (hu:A.units+1<cLine) (I:Inv X pins σ H s) (e:H a=some (tdO a tab)) (ks:KsAt H tab) (kb:H b=some (.tup [.str k.1,.int k.2])) (O:tab.length<sizeLine) (rd:RelV d r)
  (h1:∀ v Y s',q_1 tab k=some v->Inv X pins σ H s'->RelV v Y->Q Y s') (h2:∀ s',q_1 tab k=none->Inv X pins σ (upd H a (tdO a (tab++[(k,b,d)]))) s'->Q r s') :
  wpAny (model X.prog X.w) A (call (.builtin "dict.setdefault") [.ref a,.ref b,r]) Q E s:=by
 obtain⟨hd,o,e1,td⟩:=TAt.obj I.hok ⟨.inl e,ks⟩;obtain⟨xs,z,Z⟩:=td.of I.hok ks e1;have aa:=Jk z;refine call_meetsIn Yb Z.typeIs PySem.F.entry_dict_setdefault (Uw _ _ _) (av6 (tupleKind (c_9 X.prog X.w)) hd) ⟨tupleKind_room_in1 hu,kTI k,xs.map al8,KsAt.is I.hok kb,Z,by rw[Qg];omega,λ j p hj=>?_,λ no h' M hs=>?_⟩
 ·obtain⟨v,l,rv⟩:=aW9 z td.nd hj;exact h1 v _ _ l (I.tok _) rv
 ·have l:=aW8 z no;have nd:=aT8 (k:=k) (b:=b) (v:=d) td.nd;rw[aE2 l] at nd;refine h2 _ l (az1 I (by rw[e];exact Yt) hs (let ⟨q,_,_,hq,_⟩:=M;⟨q,hq⟩) (aM8 hd (TD.mk' (xs:=xs++[(k,b,r)]) (O_6 ⟨rfl,rfl,rd⟩ z) (by rw[Qy];exact M) nd (by rw[Qd];exact O))))
end
def bh4 (K:Frag) (td ty:TE):TE:=λ σ H Q=>td σ H λ x H1=>ty σ H1 λ y H2=>∃ a tab k b v,x=.ref a/\TAt H2 a tab/\y=.ref b/\SqT K H2 b [.str k.1,.int k.2]/\q_1 tab k=some v/\Q v H2
def bJ5 (td ty tx:TE):TE:=λ σ H Q=>td σ H λ x H1=>∃ a,x=.ref a/\(∃ tab,TAt H1 a tab)/\ty σ H1 λ y H2=>tx σ H2 λ z M=>∃ tab k b,M a=some (tdO a tab)/\KsAt M tab/\y=.ref b/\M b=some (.tup [.str k.1,.int k.2])/\tab.length<sizeLine /\
 (∀ v,q_1 tab k=some v->Q v M)/\(q_1 tab k=none->Q z (upd M a (tdO a (tab++[(k,b,z)]))))
def bx5:TE:=λ _ H Q=>∀ p,H p=none->Q (.ref p) (upd H p (tdO p []))
section
variable {X:Cx}{o i e f value:Expr}{apos cpos pos pos':Pos}{td ty tx tv:TE}
theorem bl4 (hu:X.A.units+1<cLine) (ho:PE X o td) (he:PE X e ty) (hf:PE X f tx) (m:M2 X o "setdefault" apos e f cpos):PE X (.Call (.Attribute o "setdefault" apos) [e,f] [] cpos) (bJ5 td ty tx):=by
 intro pins s σ H Q I h;refine wpAny_Call_method m.base m.few m.line Jn Yb PySem.F.type_dict_setdefault (thn (ho pins s σ H _ I h) λ u s1 M=>?_);obtain⟨x,H1,Z,rx,a,ex,⟨tab,d⟩,q1⟩:=M;subst ex;obtain rfl:u=Value.ref a:=rx;refine⟨(d.ty Z).1,(d.ty Z).2,?_⟩;rw[m.trees];refine Z9 rfl (Yv (Zt (thn (he pins s1 σ H1 _ Z q1) λ iv s2 ⟨y,H2,I2,ry,q2⟩ =>
  Zt (thn (hf pins s2 σ H2 _ I2 q2) λ fv s3 ⟨z,H3,I3,rz,aa,k,b,ea,ks,ey,kb,O,q3,q4⟩=>Jf ?_))))
 subst ey;obtain rfl:iv=Value.ref b:=ry;exact bS6 hu I3 ea ks kb O rz (λ v w' s4 l Y rv=>⟨v,H3,Y,rv,q3 v l⟩) λ s4 l Y=>⟨z,_,Y,rz,q4 l⟩
theorem aF4 (hu:X.A.units+1<cLine) (ho:PE X o td) (hi:PE X i ty) (hs:bw6 i):PE X (.Subscript o i pos) (bh4 X.K td ty):=by intro pins s σ H Q I h;refine ar5 PySem.F.slot_dict_getitem.lookup hs (thn (ho pins s σ H _ I h) λ u s1 ⟨x,H1,I1,Y,q1⟩=>thn (hi pins s1 σ H1 _ I1 q1) λ iv s2 z=>?_);obtain⟨y,H2,O,Z,a,tab,k,b,v,ex,g,ey,kb,l,q2⟩:=z;subst ex ey;obtain rfl:u=Value.ref a:=Y;obtain rfl:iv=Value.ref b:=Z;exact⟨(g.ty O).1,bh2 hu O g kb l λ w' s3 I3 M=>⟨v,H2,I3,M,q2⟩⟩
theorem aU5:PE X (.Dict [] [] pos) bx5:=λ pins s σ H Q I h=>by
 have nd:(s.heap.push {cls:=.type "dict",data:=.dict #[]}).DictOfH (tupleKind (c_9 X.prog X.w)) s.heap.objs.size (([]:Tab Value).map al8):=Heap.DictOfH.new s.heap;exact wpAny_Dict_empty ⟨.ref s.heap.objs.size,_,I.laid (a:=s.heap.objs.size) (o:=tdO s.heap.objs.size []) (t':=s.toks) (λ _ _ q=>qf _ q) (qj _) (aM8 (beq_eq_false_iff_ne.mpr (Zb (qt I.big))) (TD.mk' .nil nd Yp (Qw _))),rfl,h _ (I.hok.fresh (qj _))⟩
end
theorem ai8 {α z:Type}{F:α->z->Prop}:∀ {l:List α}{m:List z},Paired F l m->∀ {i:Nat}{x:α},l[i]?=some x->∃ y,m[i]?=some y/\F x y
 |_,_,.nil,i,x,h=>by simp at h
 |_,_,.cons r t,0,x,h=>by cases h;exact⟨_,rfl,r⟩
 |_,_,.cons r t,i+1,x,h=>ai8 t (by simpa using h)
theorem TD.entry {P:Program}{w:World}{o:Obj}{tab:Tab V}{es:Array DictEntry}{ep:Nat} (td:TD P w o tab) (h:o.data=.dict es ep):es.size=tab.length/\∀ (i:Nat) (x:(Str×Int)×Addr×V),tab[i]?=some x->∃ e,es[i]?=some e/\e.key=.ref x.2.1/\RelV x.2.2 e.val:=by
 obtain⟨Y,O,xs,h1,h2,M⟩:=td.es;rw[h] at h1;cases h1;have z:=Jk M;refine⟨by rw[<- Qu,h2,Qg,Qg,z],λ i x Z=>?_⟩;obtain⟨y,hy,r⟩:=ai8 M Z;have e:es[i]?=some (entryOfKey (tupleKind (c_9 P w)) (al8 y)):=by rw[<- Zd,h2,Qp,Qp,hy];rfl
 exact⟨_,e,by rw[r.2.1];rfl,r.2.2⟩
def Itk (a:Addr) (o:Obj) (tab:Tab V):It :=
 ⟨λ i H=>i<tab.length/\H a=some (tdF a o tab),λ i H x H'=>H'=H/\∃ r,tab[i]?=some r/\x=.ref r.2.1,λ i H=>tab.length<=i/\H a=some (tdF a o tab)⟩
theorem ar1 {X:Cx}{pins:List (Addr×Obj)}{σ:L2.St}{H:Hp}{s:Shared}{a:Addr}{o:Obj}{tab:Tab V} (I:Inv X pins σ H s) (e:H a=some (tdF a o tab)):(a==sysModules)=false/\s.heap.get? a=some o/\TD X.prog X.w o tab :=
 let ⟨q,_⟩:=(show ObjOk X.prog X.w H s.heap a (tdF a o tab) from I.hok a _ e);q
theorem aD1 {P:Program}{w:World}{K:Frag}{tg:Expr} (a it:Addr) (o:Obj) (tab:Tab V) (es:Array DictEntry) (ep:Nat) (O:o.data=.dict es ep):Turn P w K tg (Itk a o tab) [it] it (λ i h=>h.IsKeyIter it a i es.size ep) where
 mem:=List.mem_singleton.mpr rfl
 obj:=λ i h st b Y=>by
  obtain⟨q,e,c,d⟩:=st;rw[List.mem_singleton.mp Y];exact⟨q,e,λ v z=>by rw[d] at z;cases z⟩
 keep:=λ i h h' st k=>st.at λ o e=>k it (List.mem_singleton.mpr rfl) o e
 item:=λ X hP hw hK hc i pins s σ H E I hf st M=>by
  obtain⟨hi,ea⟩:=M;subst hP hw hK;obtain⟨f0,f1,f2,f3,f4,f5⟩:=hf it (List.mem_singleton.mpr rfl);obtain⟨hd,eo,td⟩:=ar1 I ea;obtain⟨e,he,ek,_⟩:=(td.entry O).2 i _ (Qm hi);refine aG1 st eo O he λ h' Z sb=>?_;have I1:Inv X pins σ H {s with heap:=h'}:=I.turned (t':=s.toks) (λ b o Y e=>(sb.2 b Y).trans e) f0 f1 f3 f4 f5;obtain⟨q,e1,c,d⟩:=id Z;exact⟨_,rfl,ay1 (s:={s with heap:=h'}) e1 c d (by decide) ⟨.ref tab[i].2.1,H,I1,by rw[ek];rfl,⟨rfl,_,Qm hi,rfl⟩,Z,λ b Y=>(hf b Y).1⟩⟩
 done:=λ X hP hw hK hc i pins s σ H E I hf st M=>by
  obtain⟨hi,ea⟩:=M;subst hP hw hK;obtain⟨f0,f1,f2,f3,f4,f5⟩:=hf it (List.mem_singleton.mpr rfl);obtain⟨hd,eo,td⟩:=ar1 I ea;exact bc1 (I.ok.hd hc) st eo O (by rw[(td.entry O).1];exact hi) λ h' eb=>⟨rfl,I.turned (t':=s.toks) (λ b o Y e=>eb b o Y e) f0 f1 f3 f4 f5⟩
 self:=λ _ _ _ _ _ st h=>wpAny_pyIter_keyiter st h
def bX5 (t:TE):TI:=λ σ H R=>t σ H λ x H1=>∃ a o tab,x=.ref a/\H1 a=some (tdF a o tab)/\R (Itk a o tab) H1
theorem bl0 {X:Cx}{tg l:Expr}{tl:TE} (Z:PE X l tl):PI X tg l (bX5 tl):=by
 intro pins s σ H R I h;refine thn (Z pins s σ H _ I h) λ v Y M=>?_;obtain⟨x,H1,O,r1,q1⟩:=M;obtain⟨a,o,tab,e,ea,q⟩:=q1;subst e;cases r1;obtain⟨hd,eo,td⟩:=ar1 O ea;obtain⟨es,ep,xs,z,_⟩:=td.es;refine aX8 hd eo td.ex z λ h' k st sz=>?_;refine⟨Y.heap.objs.size,[Y.heap.objs.size],_,_,H1,rfl,O.kept (t':=Y.toks) k,aD1 a _ o tab es ep z,st,λ b hb=>?_,q⟩;rw[List.mem_singleton.mp hb];exact O.fpOk (qj _) (O.hok.fresh (qj _))
theorem aN9 {o:Option Sl}{q:List ((Str×Int)×D)} (h:owU o=some q):o=some (.ow false (.dtu q)):=by
 unfold owU at h;split at h
 ·cases h;rfl
 ·cases h
theorem reps_ti {K:Frag}{H:Hp}{k:Str×Int}{vs:List V} (h:Reps K H [.str k.1,.int k.2] vs):vs=[.str k.1,.int k.2]:=by unfold Reps at h;obtain⟨v,r,rfl,a,h⟩:=h;unfold Reps at h;obtain⟨u,z,rfl,b,h⟩:=h;unfold Reps at h;unfold Rep at a b;subst h a b;rfl
section
variable {K:Frag}{H:Hp}{k:Str×Int}{d:D}{v:V}{b:Addr}
theorem Y_3:∀ (kds:List ((Str×Int)×D)) (tab:Tab V),tab.map (·.1)=kds.map (·.1)->Reps K H (kds.map (·.2)) (tab.map (·.2.2)) ->
  (∃ d v,J_5 k kds=some d/\q_1 tab k=some v/\Rep K H d v)\/(J_5 k kds=none/\q_1 tab k=none)
 |[],[],_,_=>.inr ⟨rfl,rfl⟩
 |[],_::_,e,_=>by cases e
 |_::_,[],e,_=>by cases e
 |x::kds,y::tab,e,r=>by
  rw[Qa,Qa] at e r;injection e with e1 e2
  unfold Reps at r;obtain⟨v,q,e3,O,r⟩:=r;injection e3 with e3 e4
  subst e4;by_cases z:x.1=k
  ·refine .inl ⟨x.2,y.2.2,?_,?_,by rw[e3];exact O⟩
   ·unfold J_5;rw[Q2,Qk z];rfl
   ·unfold q_1;rw[Q2,e1,Qk z];rfl
  ·have Y:J_5 k (x::kds)=J_5 k kds:=by unfold J_5;rw[Q2,Qh z]
   have M:q_1 (y::tab) k=q_1 tab k:=by unfold q_1;rw[Q2,e1,Qh z]
   rw[Y,M];exact Y_3 kds tab e2 r
end
theorem lt_size {n m:Nat} (h:n<1000) (e:m=n):m<sizeLine:=by
 have:(1000:Nat)<=sizeLine:=by decide
 omega
section
variable {X:Cx}{pos:Pos}{e:Expr}{es:List Expr}{F G:FE}{A:FA}
theorem xtn (i:Nat) {x:Str}{p p2:Pos} (O:X.N.Nodup) (hi:X.N[i]?=some x:=by rfl) (M:Loc X.env.scope x:=by first | exact Or.inl rfl | exact Or.inr rfl) (hs:swapsWith (.Dict [] [] p2) (some (.Name x p)) pos.line X.env=pure false:=by rfl)
  (hf:X.fn x=true\/X.env.scope.names.lookup x=some .local:=by first | exact .inl rfl | exact .inr rfl):XS X (.Assign [.Name x p] (.Dict [] [] p2) pos) (sTN i) :=
 PS.wk (W_4 O hi M aU5 hs hf) λ Z σ H z=>by
  obtain⟨c,H0,ρ,r,R,f,q⟩:=z;have Y:some (Res.nx (ρ.set i (.ow false (.dtu []))))=some r:=f;cases Y;exact λ a ha=>q _ H0 _ (Same.refl _) (R.setOwn (o:=.dtu []) (u:=tdO a []) i ha ⟨[],a_8,rfl,(λ x M=>by cases M),Reps.nil_⟩)
end
theorem RS.frozen {K:Frag}{c:FC}{H0 H:Hp}{ρ:En}{σ:L2.St}{m:MO}{a:Addr}{u:HO}{d:D} (R:RS K c H0 H ρ σ) {i:Nat} (hi:ρ[i]?=some (.ow false m)) (hx:σ[i]?=some (some (.ref a)))
  (rep:∀ H',Same H0 H'->H' a=some u->Rep K H' d (.ref a)):∃ H0',Same H0 H0'/\RS K c H0' (upd H a u) (ρ.set i (.im d)) σ:=by
 obtain⟨a',x,y,z,w⟩:=R.ow i _ _ hi;rw[hx] at x;cases x;have he:c.He a=none:=z;have il:i<ρ.length:=(List.getElem?_eq_some_iff.mp hi).1;have Z:Same H0 (upd H0 a u):=λ b o q=>by rw[a_4 (b_1 q y)];exact q
 have O:∀ {j:Nat}{Y:Sl},j≠i->(ρ.set i (.im d))[j]?=some Y->ρ[j]?=some Y:=λ M e=>by rwa [Qn (Zb M)] at e
 have on:∀ {Y:Sl},(ρ.set i (.im d))[i]?=some Y->Y=.im d:=λ e=>by rw[Ql il] at e;exact (qi e).symm
 refine⟨upd H0 a u,Z,⟨λ b o q=>?_,R.init.trans Z,λ b o q=>?_,λ b o q n=>?_,λ b hb q=>?_,by rw[Qz];exact R.len,λ j d' q=>?_,λ j bb o q=>?_,λ j k b1 b2 o o' b e1 e2 e3 e4=>?_⟩⟩
 ·by_cases h:b=a
  ·rw[h,a_8] at q ⊢;exact q
  ·rw[a_4 h] at q ⊢;exact R.same b o q
 ·by_cases h:b=a
  ·rw[h];exact .inr he
  ·rw[a_4 h] at q;exact R.fresh b o q
 ·rw[a_4 λ h=>by rw[h,he] at q;cases q];exact R.keep b o q n
 ·by_cases h:b=a
  ·rw[h,a_8] at q;cases q
  ·rw[a_4 h] at q;exact R.apt b hb q
 ·by_cases M:j=i
  ·subst M;cases on q;exact⟨.ref a,hx,rep _ Z a_8⟩
  ·obtain⟨v,a1,a2⟩:=R.im j d' (O M q);exact⟨v,a1,Rep.mono Z _ a2⟩
 ·by_cases M:j=i
  ·subst M;cases on q
  ·have q':=O M q;obtain⟨b,x1,y1,z1,w1⟩:=R.ow j bb o q';have nb:b≠a:=λ h=>M (R.ne j i bb false o _ b q' hi x1 (by rw[h];exact hx));exact⟨b,x1,by rw[a_4 nb];exact y1,z1,w1.step Z λ t q=>by rw[a_4 nb];exact q⟩
 ·by_cases M:j=i
  ·subst M;cases on e1
  ·by_cases hk:k=i
   ·subst hk;cases on e2
   ·exact R.ne j k b1 b2 o o' b (O M e1) (O hk e2) e3 e4
theorem bq0 {X:Cx}{pins:List (Addr×Obj)}{σ:L2.St}{H:Hp}{s:Shared}{a:Addr}{tab:Tab V} (I:Inv X pins σ H s) (e:H a=some (tdO a tab)):∃ o,Inv X pins σ (upd H a (tdF a o tab)) s:=by obtain⟨⟨z,o,e1,td⟩,_⟩:=(show ObjOk X.prog X.w H s.heap a (tdO a tab) from I.hok a _ e);exact⟨o,I.write (t':=s.toks) (h':=s.heap) (x:=a) (e:=a) (by rw[e];trivial) (.inl rfl) (λ _ _ _ q=>q) ⟨o,e1⟩ (bh1 z e1 td)⟩
def bS5 (i:Nat) (t:TS):TS:=λ D σ H=>∃ a tab,σ[i]?=some (some (.ref a))/\H a=some (tdO a tab)/\∀ o,t D σ (upd H a (tdF a o tab))
section
variable {X:Cx}{pos:Pos}{e e':Expr}{st:Stmt}{F G I:FE}{B:FS}{T:FT}
theorem bB4 (i:Nat) {t:TS} (h:PS X st t):PS X st (bS5 i t):=λ pins s σ H D I z=>by
 obtain⟨a,tab,_,M,q⟩:=z;obtain⟨o,O⟩:=bq0 I M;exact h pins s σ _ D O (q o)
theorem xft (i:Nat) (h:XS X st B):XS X st (sFT i B):=PS.wk (bB4 i h) λ Dn σ H M=>by
 obtain⟨c,H0,ρ,r,R,f,q⟩:=M;unfold sFT bv5 at f;obtain⟨kds,h1,f⟩:=a_1 f;have z:=aN9 h1;obtain⟨a,e1,y,_,tab,O,Y,ks,t⟩:=R.ow i false _ z;refine⟨a,tab,e1,O,λ o=>?_⟩;obtain⟨H0',s0,R'⟩:=R.frozen (u:=tdF a o tab) (d:=asT kds) z e1 λ H' s Z=>by
  unfold asT Rep;exact⟨a,o,tab,rfl,Z,Y.symm,ks.mono s,Reps.mono s _ t⟩
 exact⟨c,H0',_,r,R',f,q.mono s0⟩
theorem bR9 (hu:X.A.units+1<cLine) (h1:XE X e F) (h2:XE X e' G) (hs:bw6 e'):XE X (.Subscript e e' pos) (e2 aJ6 F G) :=
 PE.wk (aF4 hu h1 h2 hs) λ σ H Q O=>by
  obtain⟨c,H0,ρ,d,Z,R,f,q⟩:=O;obtain⟨x,M,y,g1,g2,z⟩:=aP7 f;refine⟨c,H0,ρ,x,M,R,g1,λ v H1 Hh s1 R1 r1=>⟨c,H1,M,y,Z,R1,g2,λ u H2 Hh2 Y R2 r2=>?_⟩⟩;unfold aJ6 at z;split at z
  ·rename_i ks vs s i;unfold Rep at r1 r2;obtain⟨a,o,tab,rfl,ea,ek,ka,t⟩:=r1;obtain⟨b,ws,rfl,sq,rs⟩:=r2;cases reps_ti (k:=(s,i)) rs;have aa:ks.length=vs.length:=by have:=t.length;rw[ek,this];simp
   have e1:(ks.zip vs).map (·.1)=ks:=List.map_fst_zip (by omega);have e2:(ks.zip vs).map (·.2)=vs:=List.map_snd_zip (by omega);rcases Y_3 (K:=X.K) (H:=H1) (k:=(s,i)) (ks.zip vs) tab (by rw[e1];exact ek.symm) (by rw[e2];exact t) with ⟨d',v',a1,a2,a3⟩ | ⟨a1,a2⟩
   ·rw[z] at a1;cases a1;exact⟨a,tab,(s,i),b,v',rfl,⟨.inr ⟨o,R2.same _ _ (Y _ _ ea)⟩,ka.mono (Y.trans R2.same)⟩,rfl,Same.seqT R2.same sq,a2,q _ H2 Hh2 (s1.trans Y) R2 (Rep.mono Y _ a3)⟩
   ·rw[z] at a1;cases a1
  ·cases z
end
theorem opqX_eq {d:D}{q:List (Str×Int)×List D} (h:bB9 d=some q):d=.opq q.1 q.2:=by
 unfold bB9 at h;split at h
 ·cases h;rfl
 ·cases h
theorem bp4 {K:Frag}{H:Hp}{k:Str×Int}{b:Addr} (h:H b=some (.tup [.str k.1,.int k.2])):Rep K H (kD k) (.ref b):=by unfold kD Rep;refine⟨b,_,rfl,.inl (.inl h),?_⟩;refine Reps.cons ?_ (Reps.cons ?_ Reps.nil_) <;> (unfold Rep;rfl)
theorem aC9 {K:Frag}{H1:Hp}{a:Addr}{o:Obj}{tab:Tab V} (Y:H1 a=some (tdF a o tab)) (ks:KsAt H1 tab):C_9 K (Itk a o tab) H1 ((tab.map (·.1)).map kD):=λ H0 H i s s'=>by
 have M:=s' _ _ (s _ _ Y);refine⟨λ d e=>?_,λ h=>⟨by simpa using h,M⟩⟩;rw[Qp,Qp] at e;cases z:tab[i]? with
 |none=>rw[z] at e;cases e
 |some r =>
  rw[z] at e;cases e;refine⟨⟨(List.getElem?_eq_some_iff.mp z).1,M⟩,λ x H' ⟨h1,Z,h2,O⟩=>⟨h1,?_⟩⟩;rw[z] at h2;cases h2;rw[O];exact bp4 (s _ _ (ks _ (Zl z)))
section
variable {X:Cx}{scope sc:Scope}{x x2:Str}{frees:List Str}{js:List Nat}{px py pt pos ap cp:Pos}{kt:Nat}{elt iter:Expr}{ifs:List Expr}{I F:FE}{T:FT}
theorem xlk (hc:X.calm=true) (Y:X.env.scope=sc) (B:ScB X.N sc scope x frees js) (hi:XE X iter I) (ht:∀ s H C fp,XTs (cxB X (x::frees) scope s H C fp) ifs T) (he:∀ s H C fp,XE (cxB X (x::frees) scope s H C fp) elt F)
  (hs:∀ v,foldedSetIterable iter X.env v=pure v:=by intro _;rfl):XE X (.ListComp elt [⟨.Name x px,iter,ifs,0⟩] scope pos) (eLK js I T F) :=
 PE.wk (bm0 (tt:=tTt X.K T) (te:=tE X.K F) hc Y B (bl0 hi) ht he hs) λ σ H Q M=>by
  obtain⟨c,H0,ρ,d,aa,R,f,q⟩:=M;unfold eLK bN7 at f;obtain⟨⟨z,Z⟩,h1,f⟩:=a_1 f;unfold bO0 at f;obtain⟨⟨ks,ds⟩,g1,f⟩:=a_1 f;unfold bN9 at f;obtain⟨fr,h3,f⟩:=a_1 f;unfold bN8 at f;obtain⟨ys,h4,f⟩:=a_1 f;obtain⟨hz,f⟩:=Fx.ifs f;cases f;cases opqX_eq g1;refine⟨c,H0,ρ,_,Z,R,h1,λ v H1 Hh s1 R1 r1=>?_⟩;unfold Rep at r1;obtain⟨a,o,tab,rfl,ea,O,ka,t⟩:=r1;have O:ks=tab.map (·.1):=O;subst O;refine⟨a,o,tab,rfl,R1.same _ _ ea,?_⟩;refine aX2 R1 h3 h4 (by rw[Qg];exact hz) (aC9 ea ka) λ vs H2 Hh2 s2 R2 r2=>λ p hp=>?_;have S:=Step.alloc (o:=.lst vs) R2.same hp;refine q _ _ _ (s1.trans (s2.trans S.s0)) (R2.after S) ?_;unfold Rep;exact⟨p,vs,rfl,.inl (.inl a_8),Reps.mono S.s0 _ r2⟩
end
structure GT (K:Frag) (c:FC) (H0 H:Hp) (T:Addr) (g:List ((Str×Int)×List D)) (tab:Tab V):Prop where
 hT:H T=some (tdO T tab)
 nT:H0 T=none
 eT:c.He T=none
 keys:tab.map (·.1)=g.map (·.1)
 ka:KsAt H0 tab
 ats:∀ (i:Nat) (r:(Str×Int)×Addr×V) (q:(Str×Int)×List D),tab[i]?=some r->g[i]?=some q->∃ a ws,r.2.2=.ref a/\H a=some (.lst ws)/\Reps K H0 q.2 ws/\H0 a=none/\c.He a=none
 nd:(tab.map (·.2.2)).Nodup
theorem T_3 (e:D) (k:Str×Int):∀ (g:List ((Str×Int)×List D)) (tab:Tab V),tab.map (·.1)=g.map (·.1) ->
  (q_1 tab k=none/\w_5 k e g=g++[(k,[e])])\/∃ i r ds,tab[i]?=some r/\g[i]?=some (k,ds)/\q_1 tab k=some r.2.2/\w_5 k e g=g.set i (k,ds++[e])
 |[],[],_=>.inl ⟨rfl,rfl⟩
 |[],_::_,z=>by cases z
 |_::_,[],z=>by cases z
 |q::g,r::tab,z=>by
  rw[Qa,Qa] at z;injection z with z1 O
  by_cases hk:q.1=k
  ·refine .inr ⟨0,r,q.2,rfl,by rw[<- hk];rfl,?_,?_⟩
   ·unfold q_1;rw[Q2,z1,Qk hk];rfl
   ·show (if q.1=k then (q.1,q.2++[e])::g else q::w_5 k e g)=_;rw[if_pos hk,hk];rfl
  ·have Y:w_5 k e (q::g)=q::w_5 k e g:=if_neg hk;have M:q_1 (r::tab) k=q_1 tab k:=by unfold q_1;rw[Q2,z1,Qh hk]
   rw[Y,M];rcases T_3 e k g tab O with ⟨h1,h2⟩ | ⟨i,r',ds,h1,h2,h3,h4⟩
   ·exact .inl ⟨h1,by rw[h2];rfl⟩
   ·exact .inr ⟨i+1,r',ds,by simpa using h1,by simpa using h2,h3,by rw[h4];rfl⟩
section
variable {K:Frag}{c:FC}{H0 H H0' H':Hp}{T p b:Addr}{g:List ((Str×Int)×List D)}{tab:Tab V}{k:Str×Int}{e:D}{v:V}{ρ:En}{σ:L2.St}
theorem GT.step (h:GT K c H0 H T g tab) (S:Step H0 H H0' H'):GT K c H0' H' T g tab:=by
 have fr:∀ {x:Addr}{u:HO},H0 x=none->H x=some u->H0' x=none:=λ n q=>by
  rename_i x u;cases z:H0' x with
  |none=>rfl
  |some o =>
   rcases S.fr x o z with y | y
   ·rw[n] at y;cases y
   ·rw[q] at y;cases y
 refine⟨S.s _ _ h.hT,fr h.nT h.hT,h.eT,h.keys,h.ka.mono S.s0,λ i r q hr hq=>?_,h.nd⟩;obtain⟨a,Y,h1,h2,M,O,Z⟩:=h.ats i r q hr hq;exact⟨a,Y,h1,S.s _ _ h2,Reps.mono S.s0 _ M,fr O h2,Z⟩
theorem RS.move (R:RS K c H0 H ρ σ) (no:∀ (i:Nat) (b:Bool) (o:MO),ρ[i]?≠some (.ow b o)) (m:∀ x u,H x=some u->(H0 x=some u\/c.He x=some u)->H' x=some u) (t:∀ x,H x≠none->H' x≠none):RS K c H0 H' ρ σ :=
 ⟨λ b o q=>m b o (R.same b o q) (.inl q),R.init,R.fresh,λ b o q n=>m b o (R.keep b o q n) (.inr q),λ a ha=>t a (R.apt a ha),R.len,R.im,λ i b o q=>absurd q (no i b o),λ i j b z o o' a q=>absurd q (no i b o)⟩
theorem GT.lst {i:Nat}{r:(Str×Int)×Addr×V} (h:GT K c H0 H T g tab) (hr:tab[i]?=some r):∃ a z,r.2.2=.ref a/\H a=some (.lst z)/\H0 a=none/\c.He a=none:=by
 have hi:=(List.getElem?_eq_some_iff.mp hr).1;have O:tab.length=g.length:=by have:=Zq List.length h.keys;simpa using this
 have hq:g[i]?=some g[i]:=Qm (by omega);obtain⟨a,z,h1,h2,Z,Y,M⟩:=h.ats i r _ hr hq;exact⟨a,z,h1,h2,Y,M⟩
theorem D_5 {T:Addr}{tab:Tab V}{z:List V} (h:(some (tdO T tab):Option HO)=some (.lst z)):False:=by cases h
theorem GT.new (h:GT K c H0 H T g tab) (hp:H p=none) (ep:c.He p=none) (hb:H0 b=some (.tup [.str k.1,.int k.2])) (rv:Rep K H0 e v)
  (e1:H' T=some (tdO T (tab++[(k,b,.ref p)]))) (e2:H' p=some (.lst [v])) (e3:∀ x,x≠T->x≠p->H' x=H x) (h0:H0 p=none):GT K c H0 H' T (g++[(k,[e])]) (tab++[(k,b,.ref p)]):=by
 have O:tab.length=g.length:=by have:=Zq List.length h.keys;simpa using this
 refine⟨e1,h.nT,h.eT,by rw[Qy,Qy,h.keys];rfl,λ x M=>?_,λ i r q hr hq=>?_,?_⟩
 ·rcases qz M with M | M
  ·exact h.ka x M
  ·rw[List.mem_singleton.mp M];exact hb
 ·by_cases hi:i<tab.length
  ·rw[Q0 hi] at hr;rw[Q0 (by omega)] at hq;obtain⟨a,ws,h1,h2,h3,h4,h5⟩:=h.ats i r q hr hq;have n1:a≠T:=λ z=>by rw[z,h.hT] at h2;exact D_5 h2
   have n2:a≠p:=λ z=>by rw[z,hp] at h2;cases h2
   exact⟨a,ws,h1,by rw[e3 a n1 n2];exact h2,h3,h4,h5⟩
  ·have Y:=(List.getElem?_eq_some_iff.mp hr).1;rw[Qd,Qs] at Y;have ie:i=tab.length:=by omega
   subst ie;rw[Q4 (Nat.le_refl _),Ur] at hr;rw[Q4 (by omega),O,Ur] at hq;cases hr;cases hq;exact⟨p,[v],rfl,e2,Reps.one rv,h0,ep⟩
 ·rw[Qy,Je];refine⟨h.nd,by simp,λ x M y hy z=>?_⟩;have Z:y=.ref p:=List.mem_singleton.mp hy;rw[Z] at z;obtain⟨r,hr,er⟩:=List.mem_map.mp M;obtain⟨i,hi⟩:=Ud hr;obtain⟨a,ws,h1,h2,_⟩:=h.lst hi;rw[<- er,h1] at z;cases z;rw[hp] at h2;cases h2
theorem GT.app (h:GT K c H0 H T g tab) {i:Nat}{r:(Str×Int)×Addr×V}{ds:List D}{a:Addr}{ws:List V} (hr:tab[i]?=some r) (Z:g[i]?=some (k,ds)) (Y:r.2.2=.ref a) (O:H a=some (.lst ws)) (rv:Rep K H0 e v)
  (e2:H' a=some (.lst (ws++[v]))) (e3:∀ x u,H x=some u->x≠a->H' x=some u):GT K c H0 H' T (g.set i (k,ds++[e])) tab:=by
 obtain⟨a',ab,h1,h2,h3,h4,h5⟩:=h.ats i r _ hr Z;rw[Y] at h1;cases h1;rw[O] at h2;cases h2;have aT:a≠T:=λ z=>by rw[z,h.hT] at O;exact D_5 O
 have il:i<g.length:=(List.getElem?_eq_some_iff.mp Z).1;have km:(g.set i (k,ds++[e])).map (·.1)=g.map (·.1):=by
  refine List.ext_getElem? λ n=>?_;rw[Qp,Qp];by_cases z:i=n
  ·subst z;rw[Ql il,Z];rfl
  ·rw[Qn z]
 refine⟨e3 _ _ h.hT (Zb aT),h.nT,h.eT,by rw[km];exact h.keys,h.ka,λ n r' q M hq=>?_,h.nd⟩;by_cases z:i=n
 ·subst z;rw[hr] at M;cases M;rw[Ql il] at hq;cases hq;exact⟨a,_,Y,e2,h3.app (Reps.one rv),h4,h5⟩
 ·rw[Qn z] at hq;obtain⟨a2,aa,k1,k2,k3,k4,k5⟩:=h.ats n r' q M hq;have n1:a2≠a:=λ w=>z (by
   have e1:(tab.map (·.2.2))[i]?=some (.ref a):=by rw[Qp,hr];exact Zq some Y
   have e2:(tab.map (·.2.2))[n]?=some (.ref a):=by rw[Qp,M];show some r'.2.2=_;rw[k1,w]
   exact (List.getElem?_inj (List.getElem?_eq_some_iff.mp e1).1 h.nd).mp (e1.trans e2.symm))
  exact⟨a2,aa,k1,e3 _ _ k2 n1,k3,k4,k5⟩
end
def aL4 (n:Nat) (g:List ((Str×Int)×List D)):Prop:=g.length<=n/\∀ q∈g,q.2.length<=n
theorem ag8 {n:Nat} (k:Str×Int) (e:D):∀ (g:List ((Str×Int)×List D)),aL4 n g->aL4 (n+1) (w_5 k e g)
 |[],h=>⟨Nat.succ_le_succ (Qw _),λ q hq=>by rw[List.mem_singleton.mp hq];exact Nat.succ_le_succ (Qw _)⟩
 |q::g,h=>by
  by_cases hk:q.1=k
  ·have a:w_5 k e (q::g)=(q.1,q.2++[e])::g:=if_pos hk;rw[a];refine⟨Yn h.1,λ x z=>?_⟩;rcases qw z with rfl | z
   ·have:=h.2 q qg;show (q.2++[e]).length<=_;rw[Qd,Qs];omega
   ·exact Yn (h.2 x (qh _ z))
  ·have a:w_5 k e (q::g)=q::w_5 k e g:=if_neg hk;rw[a];cases n with
   |zero=>have:=h.1;simp at this
   |succ m =>
    have h1:g.length<=m:=by have:=h.1;simp at this;exact this
    have O:(w_5 k e g).length<=g.length+1:=by
     clear h h1 a hk;induction g with
     |nil=>exact qj _
     |cons r g Y =>
      show (if r.1=k then (r.1,r.2++[e])::g else r::w_5 k e g).length<=_;split
      ·simp
      ·simp;omega
    have M:=(ag8 k e g ⟨Yn h1,λ x z=>h.2 x (qh _ z)⟩).2;refine⟨by simp;omega,λ x z=>?_⟩;rcases qw z with rfl | z
    ·exact Yn (h.2 _ qg)
    ·exact M x z
theorem aZ1 {d w:D}{q:(Str×Int)×D} (h:be9 d w=some q):∃ t,d=.tup [.int t,.str q.1.1,q.2]/\w=.int q.1.2:=by
 unfold be9 at h;split at h
 ·cases h;exact⟨_,rfl,rfl⟩
 ·cases h
theorem aD5 {K:Frag}{H:Hp}{t:Int}{s:Str}{e:D}{v:V} (h:Rep K H (.tup [.int t,.str s,e]) v):∃ a u,v=.ref a/\SqT K H a [.int t,.str s,u]/\Rep K H e u:=by unfold Rep at h;obtain⟨a,vs,rfl,Y,r⟩:=h;unfold Reps at r;obtain⟨v1,r1,rfl,M,r⟩:=r;unfold Reps at r;obtain⟨v2,Z,rfl,z,r⟩:=r;unfold Reps at r;obtain⟨O,r3,rfl,q3,r⟩:=r;unfold Reps at r;unfold Rep at M z;subst M z r;exact⟨a,O,rfl,Y,q3⟩
abbrev tbT (K:Frag) (i j l:Nat):TS:=aS0 (tBM K "list" ac8 (bJ5 (aD6 i) (bJ4 (ar4 (tOp (bj8 K) (aD6 j) (tC (.int 1))) (ar4 (aD6 l) be6))) (by1 be6)) (ar4 (tOp (bj8 K) (aD6 j) (tC (.int 2))) be6))
theorem ax9 {K:Frag}{c:FC}{H0 H:Hp}{T:Addr}{g:List ((Str×Int)×List D)}{tab:Tab V}{d wd:D}{q0:(Str×Int)×D}{v vw:V}{i j l n:Nat}{ρ:En}{σ:L2.St} (h:GT K c H0 H T g tab) (R:RS K c H0 H ρ σ) (no:∀ (i:Nat) (b:Bool) (o:MO),ρ[i]?≠some (.ow b o))
  (ab:aL4 n g) (hn:n<1000) (rv:Rep K H0 d v) (aa:Rep K H0 wd vw) (hk:be9 d wd=some q0) (hi:σ[i]?=some (some (.ref T))) (hj:σ[j]?=some (some v)) (hl:σ[l]?=some (some vw)) (Dn:Ends)
  (q:∀ H0' H' ad,Same H0 H0'->GT K c H0' H' T (w_5 q0.1 q0.2 g) ad->RS K c H0' H' ρ σ->Dn.nx σ H'):tbT K i j l Dn σ H:=by
 obtain⟨t,rfl,rfl⟩:=aZ1 hk;obtain⟨k,e⟩:=q0;unfold Rep at aa;subst aa;obtain⟨a,u,rfl,sq,ru⟩:=aD5 rv;have big:(1000:Nat)<=sizeLine:=by decide
 have ai:tab.length=g.length:=by have:=Zq List.length h.keys;simpa using this
 refine⟨.ref T,hi,T,rfl,⟨tab,.inl h.hT,h.ka.mono R.same⟩,.ref a,hj,a,_,1,.str k.1,rfl,rfl,Same.seqT R.same sq,rfl,.int k.2,hl,by show (2:Nat)<=sizeLine;decide,λ b hb=>⟨Qw _,λ p hp=>?_⟩⟩;have S1:=Step.alloc (o:=.tup [.str k.1,.int k.2]) R.same hb;have M:=R.after S1;have h1:=h.step S1;have O:=Rep.mono S1.s0 _ ru;have Z:SqT K (upd H b (.tup [.str k.1,.int k.2])) a [.int t,.str k.1,u]:=Same.seqT (S1.s0.trans S1.s') sq;have Tp:T≠p:=λ z=>by rw[<- z,h1.hT] at hp;cases hp
 have bp:b≠p:=λ z=>by rw[<- z,a_8] at hp;cases hp
 have ep:c.He p=none:=by
  cases z:c.He p with
  |none=>rfl
  |some o =>
   by_cases hA:p∈c.Ap
   ·exact absurd hp (M.apt p hA)
   ·rw[M.keep p o z hA] at hp;cases hp
 have ae:upd H0 b (.tup [.str k.1,.int k.2]) p=none:=by
  cases z:upd H0 b (.tup [.str k.1,.int k.2]) p with
  |none=>rfl
  |some o=>rw[M.same p o z] at hp;cases hp
 generalize ah:upd H b (.tup [.str k.1,.int k.2])=H1 at M h1 Z hp;generalize ag:upd H0 b (.tup [.str k.1,.int k.2])=G0 at M h1 O ae;have ac:G0 b=some (.tup [.str k.1,.int k.2]):=by rw[<- ag,a_8]
 have af:Same H0 G0:=by rw[<- ag];exact S1.s0
 have pn:∀ {x:Addr}{w:HO},H1 x=some w->x≠p:=λ q z=>by rw[z,hp] at q;cases q
 refine⟨tab,k,b,by rw[a_4 Tp];exact h1.hT,λ x hx=>by rw[a_4 (pn (M.same _ _ (h1.ka x hx)))];exact M.same _ _ (h1.ka x hx),rfl,by rw[a_4 bp];exact M.same _ _ ac,by have:=ab.1;omega,λ w Y=>?_,λ Y=>?_⟩
 ·rcases T_3 e k g tab h.keys with ⟨g1,g2⟩ | ⟨i',r,ds,g1,g2,g3,g4⟩
  ·rw[g1] at Y;cases Y
  ·rw[g3] at Y;cases Y;obtain⟨x,ws,k1,k2,k3,k4,k5⟩:=h1.ats i' r _ g1 g2;have xp:=pn k2;have xw:(upd H1 p (.lst [])) x=some (.lst ws):=by rw[a_4 xp];exact k2
   rw[k1];refine⟨.inl ⟨rfl,_,SqL.of xw⟩,.ref a,hj,a,[.int t,.str k.1,u],2,u,rfl,rfl,?_,rfl,x,ws,u,rfl,rfl,xw,?_,q G0 _ tab af ?_ ?_⟩
   ·refine Same.seqT (λ y o e=>?_) Z;rw[a_4 (pn e)];exact e
   ·rw[<- k3.length];have:=ab.2 _ (Zl g2);have this:ds.length<=n:=this;show ds.length<_;omega
   ·rw[g4];refine h1.app g1 g2 k1 k2 O a_8 λ y o e ne=>?_;rw[a_4 ne,a_4 (pn e)];exact e
   ·refine M.move no (λ y o e f=>?_) λ y e z=>?_
    ·have ne:y≠x:=λ z=>by
      rw[z] at f;rcases f with f | f
      ·rw[k4] at f;cases f
      ·rw[k5] at f;cases f
     rw[a_4 ne,a_4 (pn e)];exact e
    ·by_cases y1:y=x
     ·rw[y1,a_8] at z;cases z
     ·rw[a_4 y1] at z;by_cases y2:y=p
      ·rw[y2,a_8] at z;cases z
      ·rw[a_4 y2] at z;exact e z
 ·rcases T_3 e k g tab h.keys with ⟨g1,g2⟩ | ⟨i',r,ds,g1,g2,g3,g4⟩
  ·have e1:(upd (upd H1 p (.lst [])) T (tdO T (tab++[(k,b,V.ref p)]))) p=some (.lst []):=by rw[a_4 (Zb Tp),a_8]
   refine⟨.inl ⟨rfl,_,SqL.of e1⟩,.ref a,hj,a,[.int t,.str k.1,u],2,u,rfl,rfl,?_,rfl,p,[],u,rfl,rfl,e1,by show 0<sizeLine;omega,q G0 _ (tab++[(k,b,.ref p)]) af ?_ ?_⟩
   ·rcases Z with (z | ⟨o,z⟩) | z
    ·refine .inl (.inl ?_);have aT:a≠T:=λ y=>by rw[y,h1.hT] at z;cases z
     rw[a_4 aT,a_4 (pn z)];exact z
    ·refine .inl (.inr ⟨o,?_⟩);have aT:a≠T:=λ y=>by rw[y,h1.hT] at z;cases z
     rw[a_4 aT,a_4 (pn z)];exact z
    ·exact .inr z
   ·rw[g2];refine h1.new hp ep ac O (by rw[a_4 Tp,a_8]) a_8 (λ x n1 n2=>by rw[a_4 n2,a_4 n1,a_4 n2]) ae
   ·refine M.move no (λ y o e f=>?_) λ y e z=>?_
    ·have ne:y≠T:=λ z=>by
      rw[z] at f;rcases f with f | f
      ·rw[h1.nT] at f;cases f
      ·rw[h1.eT] at f;cases f
     rw[a_4 (pn e),a_4 ne,a_4 (pn e)];exact e
    ·by_cases y1:y=p
     ·rw[y1,a_8] at z;cases z
     ·rw[a_4 y1] at z;by_cases y2:y=T
      ·rw[y2,a_8] at z;cases z
      ·rw[a_4 y2,a_4 y1] at z;exact e z
  ·rw[g3] at Y;cases Y
theorem P_8 {ρ:En} (h:ρ.all ad9=true):∀ (i:Nat) (b:Bool) (o:MO),ρ[i]?≠some (.ow b o):=λ i b o q=>by
 have:=List.all_eq_true.mp h _ (Zl q);cases this
theorem aB8 {ρ:En}{j:Nat}{d:D} (h:ρ.all ad9=true):(ρ.set j (.im d)).all ad9=true:=by
 refine List.all_eq_true.mpr λ x z=>?_;rcases List.mem_or_eq_of_mem_set z with z | rfl
 ·exact List.all_eq_true.mp h x z
 ·rfl
section
variable {K:Frag}{c:FC}{H0 H:Hp}{ρ:En}{σ:L2.St}{T:Addr}{g:List ((Str×Int)×List D)}{tab:Tab V}{i j l n:Nat}
theorem RS.lone (R:RS K c H0 H ρ σ) (no:ρ.all ad9=true):RS K ⟨H0,H,[]⟩ H0 H ρ σ :=
 ⟨R.same,Same.refl _,λ b o q=>.inl q,λ b o q _=>q,λ a ha=>by simp at ha,R.len,R.im,λ i b o q=>absurd q (P_8 no i b o),λ i j b z o o' a q=>absurd q (P_8 no i b o)⟩
theorem ae8 {z:List D}{m:Nat}{w:D} (h:z[m]?=some w) (ρ:En):(n_1 l (z.take m) ρ).set l (.im w)=n_1 l (z.take (m+1)) ρ:=by
 have e:z.take (m+1)=z.take m++[w]:=by rw[List.take_succ,h];rfl
 have e2:n_1 l (z.take (m+1)) ρ=ρ.set l (.im w):=by unfold n_1;rw[e,List.getLast?_append];rfl
 rw[e2];unfold n_1;split
 ·rw[List.set_set]
 ·rfl
theorem Y_4 {z:List D}{ρ:En} (h:ρ.all ad9=true):(n_1 l z ρ).all ad9=true:=by
 unfold n_1;split
 ·exact aB8 h
 ·exact h
theorem aw6 {z:List D}{ρ:En} (h:j≠l):(n_1 l z ρ)[j]?=ρ[j]?:=by
 unfold n_1;split
 ·rw[Qn (Zb h)]
 ·rfl
theorem P_3 {z:List D}{ρ:En}:(n_1 l z ρ).length=ρ.length:=by
 unfold n_1;split
 ·rw[Qz]
 ·rfl
theorem aY8 {G:FE}{ag:En}{d:D}{O:List D}{n':Nat}{g':List ((Str×Int)×List D)} (h:GT K c H0 H T g tab) (R:RS K c H0 H ρ σ) (no:ρ.all ad9=true) (aj:aL4 n g) (hd:ρ[j]?=some (.im d)) (hG:G ρ=some (.lst O,ag)) (hg:ax7 d O n g=some (n',g'))
  (an:j≠l) (af:l≠i) (ll:l<ρ.length) (hi:σ[i]?=some (some (.ref T))) (Dn:Ends)
  (q:∀ H0' H' z M,Same H0 H0'->GT K c H0' H' T g' z->aL4 n' g'->RS K c H0' H' (n_1 l O ρ) M->M[i]?=some (some (.ref T))->Dn.nx M H'):by2 (aH7 K (tE K G)) (aI2 l) (tbT K i j l) Dn σ H:=by
 refine⟨⟨H0,H,[]⟩,H0,ρ,.lst O,ag,R.lone no,hG,λ v H1 Hh s1 R1 r1=>?_⟩;have S:=R1.step;unfold Rep at r1;obtain⟨l',us,rfl,sq,rs⟩:=r1;have am:=rs.length;refine⟨l',rfl,⟨us,Same.seq R1.same sq⟩,λ m mm M H'=>mm=O.length-m/\m<=O.length/\∃ H0' z g1 n1,Same H1 H0'/\GT K c H0' H' T g1 z/\aL4 n1 g1/\ax7 d (O.drop m) n1 g1=some (n',g')/\RS K c H0' H' (n_1 l (O.take m) ρ) M/\M[i]?=some (some (.ref T)),
  ⟨O.length,rfl,Qw _,H1,tab,g,n,Same.refl _,h.step S,aj,hg,R.after S,hi⟩,?_⟩
 rintro m mm M H' ⟨rfl,hm,H0',z,g1,n1,s',h1,Z,Y,R2,ac⟩;have ad:SqL K H' l' us:=Same.seq (s'.trans R2.same) sq;by_cases ah:m<O.length
 ·have hw:O[m]?=some O[m]:=Qm ah;obtain⟨u,hu,ru⟩:=rs.get hw;rw[E_1 hw] at Y;obtain⟨⟨k,e⟩,hk,Y⟩:=a_1 Y;have ab:(if n1<1000 then ax7 d (O.drop (m+1)) (n1+1) (w_5 k e g1) else none)=some (n',g'):=Y;by_cases hn:n1<1000
  case neg=>rw[if_neg hn] at ab;cases ab
  rw[if_pos hn] at ab;clear Y;have Y:=ab;refine .inr ⟨⟨us,u,ad,hu⟩,λ aa H''=>∃ H0' z g1 n1,Same H1 H0'/\GT K c H0' H'' T g1 z/\aL4 n1 g1/\ax7 d (O.drop (m+1)) n1 g1=some (n',g')/\RS K c H0' H'' (n_1 l (O.take (m+1)) ρ) aa/\aa[i]?=some (some (.ref T)),
   λ aa H'' ⟨a1,a2,a3,a4,a5⟩=>⟨O.length-(m+1),by omega,rfl,ah,a1,a2,a3,a4,a5⟩,λ x H'' hx=>?_⟩
  obtain⟨rfl,hx⟩:=hx;have:=hx us ad;rw[hu] at this;cases this;show tbT K i j l _ (M.set l (some u)) H'';have R3:=R2.set l (Rep.mono s' _ ru);rw[ae8 hw] at R3;have ao:(n_1 l (O.take (m+1)) ρ).all ad9=true:=Y_4 no;obtain⟨vd,ar,al⟩:=R3.im j d (by rw[aw6 an];exact hd);have as:l<M.length:=by rw[<- R2.len,P_3];exact ll
  refine ax9 h1 R3 (P_8 ao) Z hn al (Rep.mono s' _ ru) hk (by rw[Qn af];exact ac) ar (by rw[Ql as]) _ λ H0'' H3 ae ai h2 R4=>?_;exact⟨H0'',ae,_,_,s'.trans ai,h2,ag8 k e g1 Z,Y,R4,by rw[Qn af];exact ac⟩
 ·have ne:m=O.length:=by omega
  have ak:O.drop m=[]:=Zo (by omega);rw[ak] at Y;have aq:some (n1,g1)=some (n',g'):=Y;cases aq;refine .inl ⟨⟨us,ad,by rw[<- am];omega⟩,?_⟩;rw[ne,List.take_length] at R2;exact q H0' H' z M (s1.trans s') h1 Z R2 ac
theorem RS.no (R:RS K c H0 H ρ σ) (i:Nat):RS K c H0 H (ρ.set i .no) σ:=by
 have M:∀ {j:Nat}{O:Sl},O≠.no->(ρ.set i .no)[j]?=some O->ρ[j]?=some O:=λ {j O} ne e=>by
  by_cases Y:i=j
  ·subst Y;by_cases Z:i<ρ.length
   ·rw[Ql Z] at e;cases e;exact absurd rfl ne
   ·rw[Ua (by rw[Qz];omega)] at e;cases e
  ·rwa [Qn Y] at e
 exact⟨R.same,R.init,R.fresh,R.keep,R.apt,by rw[Qz];exact R.len,λ j d q=>R.im j d (M (λ z=>nomatch z) q),λ j b o q=>R.ow j b o (M (λ z=>nomatch z) q),λ j k b b' o o' a q1 q2=>R.ne j k b b' o o' a (M (λ z=>nomatch z) q1) (M (λ z=>nomatch z) q2)⟩
noncomputable def adr:V->Option Addr
 |.ref a=>some a
 |_=>none
def F_6 (tab:Tab V):List Addr:=tab.filterMap λ r=>adr r.2.2
theorem H_8 {a:Addr} (h:a∈F_6 tab):∃ (i:Nat) (r:(Str×Int)×Addr×V),tab[i]?=some r/\r.2.2=.ref a:=by
 obtain⟨r,hr,e⟩:=List.mem_filterMap.mp h;obtain⟨i,hi⟩:=Ud hr;refine⟨i,r,hi,?_⟩;unfold adr at e;split at e
 ·rename_i h;cases e;exact h
 ·cases e
theorem aE0 {i:Nat}{r:(Str×Int)×Addr×V}{a:Addr} (h:tab[i]?=some r) (e:r.2.2=.ref a):a∈F_6 tab:=List.mem_filterMap.mpr ⟨r,Zl h,by rw[e];rfl⟩
theorem ah8 {H':Hp}:∀ (g:List ((Str×Int)×List D)) (tab:Tab V),tab.map (·.1)=g.map (·.1)->(∀ (i:Nat) r q,tab[i]?=some r->g[i]?=some q->Rep K H' (.lst q.2) r.2.2)->Reps K H' ((gtD g).map (·.2)) (tab.map (·.2.2))
 |[],[],_,_=>Reps.nil_
 |[],_::_,e,_=>by cases e
 |_::_,[],e,_=>by cases e
 |q::g,r::tab,e,h=>by
  rw[Qa,Qa] at e;injection e with e1 e2
  exact Reps.cons (h 0 r q rfl rfl) (ah8 g tab e2 λ i M z hr hq=>h (i+1) M z (by simpa using hr) (by simpa using hq))
theorem GT.fin (h:GT K c H0 H T g tab) (R:RS K c H0 H ρ σ) (no:ρ.all ad9=true) (hi:σ[i]?=some (some (.ref T))):∃ H0',Same H0 H0'/\RS K c H0' H (ρ.set i (.ow false (.dtu (gtD g)))) σ:=by
 have s0:Same H0 (λ b=>if b∈F_6 tab then H b else H0 b):=λ b o e=>by
  have:¬ b∈F_6 tab:=λ z=>by
   obtain⟨n,r,hr,er⟩:=H_8 z;obtain⟨a,ws,h1,h2,Z,h4⟩:=h.lst hr;rw[er] at h1;cases h1;rw[Z] at e;cases e
  show (if b∈F_6 tab then H b else H0 b)=some o;rw[if_neg this];exact e
 have ab:¬ T∈F_6 tab:=λ z=>by
  obtain⟨n,r,hr,er⟩:=H_8 z;obtain⟨a,ws,h1,h2,Z,h4⟩:=h.lst hr;rw[er] at h1;cases h1;rw[h.hT] at h2;exact D_5 h2
 have aa:ρ.length=σ.length:=R.len;have il:i<ρ.length:=by rw[aa];exact (List.getElem?_eq_some_iff.mp hi).1
 have O:∀ {j:Nat}{Y:Sl},j≠i->(ρ.set i (.ow false (.dtu (gtD g))))[j]?=some Y->ρ[j]?=some Y:=λ M e=>by rwa [Qn (Zb M)] at e
 have on:∀ {Y:Sl},(ρ.set i (.ow false (.dtu (gtD g))))[i]?=some Y->Y=.ow false (.dtu (gtD g)):=λ e=>by rw[Ql il] at e;exact (qi e).symm
 refine⟨_,s0,⟨λ b o e=>?_,R.init.trans s0,λ b o e=>?_,R.keep,R.apt,by rw[Qz];exact aa,λ j d e=>?_,λ j b o e=>?_,λ j k b b' o o' a e1 e2 _ _=>?_⟩⟩
 ·have e':(if b∈F_6 tab then H b else H0 b)=some o:=e;by_cases z:b∈F_6 tab
  ·rw[if_pos z] at e';exact e'
  ·rw[if_neg z] at e';exact R.same b o e'
 ·have e':(if b∈F_6 tab then H b else H0 b)=some o:=e;by_cases z:b∈F_6 tab
  ·obtain⟨n,r,hr,er⟩:=H_8 z;obtain⟨a,ws,h1,h2,Z,h4⟩:=h.lst hr;rw[er] at h1;cases h1;exact .inr h4
  ·rw[if_neg z] at e';exact R.fresh b o e'
 ·by_cases M:j=i
  ·subst M;cases on e
  ·obtain⟨v,a1,a2⟩:=R.im j d (O M e);exact⟨v,a1,Rep.mono s0 _ a2⟩
 ·by_cases M:j=i
  ·subst M;cases on e;refine⟨T,hi,?_,h.eT,tab,h.hT,by rw[h.keys];unfold gtD;rw[Zy];rfl,h.ka.mono s0,ah8 g tab h.keys λ n r q hr hq=>?_⟩
   ·show (if T∈F_6 tab then H T else H0 T)=none;rw[if_neg ab];exact h.nT
   ·obtain⟨a,ws,h1,h2,Z,_,_⟩:=h.ats n r q hr hq;rw[h1];unfold Rep;refine⟨a,ws,rfl,.inl (.inl ?_),Reps.mono s0 _ Z⟩;show (if a∈F_6 tab then H a else H0 a)=_;rw[if_pos (aE0 hr h1)];exact h2
  ·exact absurd (O M e) (P_8 no j b o)
 ·by_cases M:j=i
  ·by_cases hk:k=i
   ·rw[M,hk]
   ·exact absurd (O hk e2) (P_8 no k b' o')
  ·exact absurd (O M e1) (P_8 no j b o)
end
theorem aO4 {d:D}{xs:List D} (h:lsX d=some xs):d=.lst xs:=by
 unfold lsX at h;split at h
 ·cases h;rfl
 ·cases h
section
variable {X:Cx}{pos pos2:Pos}{iter iter2:Expr}{F G:FE}{body:List Stmt}
theorem bx0 (i j l:Nat) {x y:Str}{px py:Pos} (hN:X.N.Nodup) (hi:XE X iter F) (ac:XE X iter2 G) (hb:PSs X body (tbT X.K i j l)) (hx:X.N[j]?=some x:=by rfl) (aw:Loc X.env.scope x:=by first | exact Or.inl rfl | exact Or.inr rfl)
  (a8:X.fn x=true\/X.env.scope.names.lookup x=some .local:=by first | exact .inl rfl | exact .inr rfl) (hy:X.N[l]?=some y:=by rfl) (ay:Loc X.env.scope y:=by first | exact Or.inl rfl | exact Or.inr rfl)
  (as:X.fn y=true\/X.env.scope.names.lookup y=some .local:=by first | exact .inl rfl | exact .inr rfl) (hp:PassesOwn (model X.prog X.w) X.A X.env X.xe:=by exact Zv) (hc:X.calm=true:=by rfl)
  (hs:∀ x,foldedSetIterable iter X.env x=pure x:=by intro _;rfl) (bc:∀ x,foldedSetIterable iter2 X.env x=pure x:=by intro _;rfl) :
  XS X (.For (.Name x px) iter [.For (.Name y py) iter2 body [] pos2] [] pos) (sGT i j l F G) :=
 PS.wk (O_4 hp hc (Q_9 hi) (A_5 hN hx aw a8) (D_6 (O_4 hp hc (Q_9 ac) (A_5 hN hy ay as) hb bc)) hs) λ Dn σ H am=>by
  obtain⟨c,H0,ρ,r,R,f,q⟩:=am;unfold sGT bv2 at f;obtain⟨⟨dd,O⟩,h1,f⟩:=a_1 f;unfold bv3 at f;obtain⟨xs,h2,f⟩:=a_1 f;obtain⟨kds,h3,f⟩:=a_1 f;cases kds with
  |cons _ _=>cases f
  |nil =>
  have f0:bi8 i j l O xs G=some r:=f;unfold bi8 at f0;by_cases af:j≠i/\l≠i/\j≠l/\i<O.length/\j<O.length/\l<O.length/\(O.set i .no).all ad9=true
  case neg=>rw[if_neg af] at f0;cases f0
  rw[if_pos af] at f0;obtain⟨a0,bb,ar,il,jl,ll,no⟩:=af;obtain⟨⟨aa,gF⟩,h4,f1⟩:=a_1 f0;have f2:some (Res.nx (aa.set i (.ow false (.dtu (gtD gF)))))=some r:=f1;cases f2;have hd:=aO4 h2;have hd:dd=.lst xs:=hd;subst hd;refine⟨c,H0,ρ,_,O,R,h1,λ v H1 Hh s1 R1 r1=>?_⟩;unfold Rep at r1;obtain⟨a,ws,rfl,sq,rs⟩:=r1;have z:=aN9 h3;obtain⟨T,ht,au,eT,ad,e4,ek,_,_⟩:=R1.ow i _ _ z;have t0:ad=[]:=by cases ad with
   |nil=>rfl
   |cons _ _=>cases ek
  subst t0;have a9:=rs.length;have g0:GT X.K c H1 Hh T [] []:=⟨e4,au,eT,rfl,(λ x hx=>by cases hx),(λ i r q hr=>by simp at hr),Yp⟩;refine⟨a,rfl,⟨ws,Same.seq R1.same sq⟩,λ n m ab H'=>m=xs.length-n/\n<=xs.length/\∃ H0' Y g1 n1 M,Same H1 H0'/\GT X.K c H0' H' T g1 Y/\aL4 n1 g1/\T_2 j l G (xs.drop n) M n1 g1=some (aa,gF)/\RS X.K c H0' H' M ab/\M.all ad9=true/\M.length=O.length/\ab[i]?=some (some (.ref T)),
   ⟨xs.length,rfl,Qw _,H1,[],[],0,O.set i .no,Same.refl _,g0,⟨qj _,λ q hq=>by cases hq⟩,h4,R1.no i,no,Qz ..,ht⟩,?_⟩
  rintro n m ab H' ⟨rfl,hn,H0',Y,g1,n1,M,s',h5,ao,hg,R2,ak,al,ac⟩;have ag:SqL X.K H' a ws:=Same.seq (s'.trans R2.same) sq;by_cases ah:n<xs.length
  ·have hw:xs[n]?=some xs[n]:=Qm ah;obtain⟨u,hu,ru⟩:=rs.get hw;rw[E_1 hw] at hg;obtain⟨⟨dw,bd⟩,k1,hg⟩:=a_1 hg;obtain⟨wl,k2,a7⟩:=a_1 hg;obtain⟨⟨n2,g2⟩,k3,az⟩:=a_1 a7;have aq:dw=.lst wl:=aO4 k2;subst aq;refine .inr ⟨⟨ws,u,ag,hu⟩,λ Z H''=>∃ H0' Y g1 n1 M,Same H1 H0'/\GT X.K c H0' H'' T g1 Y/\aL4 n1 g1/\T_2 j l G (xs.drop (n+1)) M n1 g1=some (aa,gF)/\RS X.K c H0' H'' M Z/\M.all ad9=true/\M.length=O.length/\Z[i]?=some (some (.ref T)),
    λ Z H'' ⟨a1,a2,a3,a4,a5,a6⟩=>⟨xs.length-(n+1),by omega,rfl,ah,a1,a2,a3,a4,a5,a6⟩,λ x H'' hx=>?_⟩
   obtain⟨rfl,hx⟩:=hx;have:=hx ws ag;rw[hu] at this;cases this;have R3:=R2.set j (Rep.mono s' _ ru);have ai:(M.set j (.im xs[n])).all ad9=true:=aB8 ak;show by2 (aH7 X.K (tE X.K G)) (aI2 l) (tbT X.K i j l) _ (ab.set j (some u)) H'';refine aY8 h5 R3 ai ao (by rw[Ql (by omega)]) k1 k3 ar bb (by rw[Qz];omega) (by rw[Qn a0];exact ac) _ λ H0'' H3 ae be an h6 aj R4 av=>?_;exact⟨H0'',ae,g2,n2,_,s'.trans an,h6,aj,az,R4,Y_4 ai,by rw[P_3,Qz];exact al,av⟩
  ·have ax:xs.drop n=[]:=Zo (by omega);rw[ax] at hg;have ba:some (M,g1)=some (aa,gF):=hg;cases ba;obtain⟨H0'',s3,R3⟩:=h5.fin R2 ak ac;exact .inl ⟨⟨ws,ag,by rw[<- a9];omega⟩,q _ H0'' H' (s1.trans (s'.trans s3)) R3⟩
theorem bg5 (i j l:Nat) {x y z:Str}{p1 p2 p3 p4 p5 p6 p7 p8 p9 ac Z O Y M ad:Pos}{c1 c2 x1:Nat} (hu:X.A.units+1<cLine)
  (hx:X.N[j]?=some x:=by rfl) (ah:Vis X.env.scope x:=by first | exact Or.inl rfl | exact Or.inr (Or.inl rfl) | exact Or.inr (Or.inr rfl)) (af:(x==("__debug__":Str))=false:=by decide) (ae:(x==("__classdict__":Str))=false:=by decide)
  (hy:X.N[l]?=some y:=by rfl) (aq:Vis X.env.scope y:=by first | exact Or.inl rfl | exact Or.inr (Or.inl rfl) | exact Or.inr (Or.inr rfl)) (as:(y==("__debug__":Str))=false:=by decide) (an:(y==("__classdict__":Str))=false:=by decide)
  (hz:X.N[i]?=some z:=by rfl) (al:Vis X.env.scope z:=by first | exact Or.inl rfl | exact Or.inr (Or.inl rfl) | exact Or.inr (Or.inr rfl)) (am:(z==("__debug__":Str))=false:=by decide) (ak:(z==("__classdict__":Str))=false:=by decide)
  (m:M2 X (.Name z p1) "setdefault" p2 (.Tuple [.Subscript (.Name x p3) (.Constant (.int 1) c1 p4) p5,.Name y p6] x1 p7) (.List [] p8) p9:=by exact⟨rfl,rfl,rfl,rfl⟩)
  (ao:starEach [.Subscript (.Name x p3) (.Constant (.int 1) c1 p4) p5,.Name y p6] X.env=(false,eval (.Subscript (.Name x p3) (.Constant (.int 1) c1 p4) p5) X.env)::starEach [.Name y p6] X.env:=by rfl)
  (au:starEach [.Name y p6] X.env=(false,eval (.Name y p6) X.env)::starEach [] X.env:=by rfl)
  (aa:attributeBase (.Call (.Attribute (.Name z p1) "setdefault" p2) [.Tuple [.Subscript (.Name x p3) (.Constant (.int 1) c1 p4) p5,.Name y p6] x1 p7,.List [] p8] [] p9) "append" X.env (eval (.Call (.Attribute (.Name z p1) "setdefault" p2) [.Tuple [.Subscript (.Name x p3) (.Constant (.int 1) c1 p4) p5,.Name y p6] x1 p7,.List [] p8] [] p9) X.env)=eval (.Call (.Attribute (.Name z p1) "setdefault" p2) [.Tuple [.Subscript (.Name x p3) (.Constant (.int 1) c1 p4) p5,.Name y p6] x1 p7,.List [] p8] [] p9) X.env:=by rfl)
  (ai:((backTo M (starEach [.Subscript (.Name x Z) (.Constant (.int 2) c2 O) Y] X.env)).all (λ x=>!x.1)&&(backToKw M (keywordEach [] X.env)).all (λ x=>x.1.isSome)&&decide ([Expr.Subscript (.Name x Z) (.Constant (.int 2) c2 O) Y].length+([]:List Keyword).length+(if ([]:List Keyword).isEmpty then 0 else 1)<30))=true:=by rfl)
  (ab:(ac.endLine==M.line)=true:=by rfl) (ag:starEach [.Subscript (.Name x Z) (.Constant (.int 2) c2 O) Y] X.env=(false,eval (.Subscript (.Name x Z) (.Constant (.int 2) c2 O) Y) X.env)::starEach [] X.env:=by rfl) (ar:(backTo M (starEach [] X.env)).any (·.1)=false:=by rfl)
  (aj:swapsWith (.Call (.Attribute (.Call (.Attribute (.Name z p1) "setdefault" p2) [.Tuple [.Subscript (.Name x p3) (.Constant (.int 1) c1 p4) p5,.Name y p6] x1 p7,.List [] p8] [] p9) "append" ac) [.Subscript (.Name x Z) (.Constant (.int 2) c2 O) Y] [] M) none ad.line X.env=pure false:=by rfl) :
  PSs X [.Expr (.Call (.Attribute (.Call (.Attribute (.Name z p1) "setdefault" p2) [.Tuple [.Subscript (.Name x p3) (.Constant (.int 1) c1 p4) p5,.Name y p6] x1 p7,.List [] p8] [] p9) "append" ac) [.Subscript (.Name x Z) (.Constant (.int 2) c2 O) Y] [] M) ad] (tbT X.K i j l) :=
 D_6 (Q_6 (aU7 Yk Ji Jh J_3 (bl4 hu (t_1 hz al am ak) (aN7 (q_0 (aF6 ix_tup (t_1 hx ah af ae) W_5 (λ _ _=>rfl)) (q_0 (t_1 hy aq as an) x_8 au) ao)) (ai4 x_8) m)
  (q_0 (aF6 ix_tup (t_1 hx ah af ae) W_5 (λ _ _=>rfl)) x_8 ag) aa ai ab ag ar) aj)
end
end Fx
namespace Fx
open PySem PySem.W PySem.Spec PyProof.Rows L2
section
variable {X:Cx}{pins:List (Addr×Obj)}{σ:L2.St}{H:Hp}{s:Shared}
def bj7 (K:Frag) (M:D->Bool):List V->Hp->VK->Prop:=λ xs H Q=>∃ p ds vs H0,xs=[.ref p]/\SqL K H p vs/\Same H0 H/\Reps K H0 ds vs/\ds.length<64/\ds.all M=true/\∀ l z,H l=none->Reps K H0 (sortT ds) z->Q (.ref l) (upd H l (.lst z))
structure SortSh (X:Cx) (sh:D->Bool):Prop where
 inj:∀ {a b:D},sh a=true->sh b=true->fK a=fK b->a=b
 asks:∀ {σ:L2.St}{H:Hp}{ds:List D}{vs:List V}{its:List Value},ds.all sh=true->Reps X.K H ds vs->Vals vs its->∃ κ:SortKind,(∀ (pins:List (Addr×Obj)) (s:Shared),Inv X pins σ H s->2<=its.length->∀ Q:SortKind->Shared->Prop,Q κ s->wpAny (model X.prog X.w) X.A.in1.in1 (keyKind' its.toArray) Q (λ _ _=>False) s) /\
   ∀ (pins:List (Addr×Obj)) (s:Shared),Inv X pins σ H s->∀ i j,i<ds.length->j<ds.length->∀ Q:Bool->Shared->Prop,Q (decide (fK (ds.getD i .non)<fK (ds.getD j .non))) s->kas_ask X.prog X.w X.A.in1.in1 κ its i j Q s
theorem ap3 {sh:D → Bool} (S:SortSh X sh):CallR X (.builtin "sorted") (bj7 X.K sh):=by
 intro pins s σ H xs us Q I r h;obtain⟨p,ds,vs,H0,rfl,sq,sm,Y,ag,al,q⟩:=h;have rp:Reps X.K H ds vs:=Reps.mono sm _ Y;obtain⟨u,rfl,ru⟩:=D_4 r;cases ru;obtain⟨ab,rv,⟨ob,n,h1,h2,h3,h4⟩,_⟩:=I.list sq;have ac:ab.length=ds.length:=by rw[<- rv.length,<- rp.length]
 have inj:∀ a b,a∈ds->b∈ds->fK a=fK b->a=b:=λ a b ha hb e=>S.inj (List.all_eq_true.mp al a ha) (List.all_eq_true.mp al b hb) e;have mem:∀ i,i<ds.length->ds.getD i .non∈ds:=λ i hi=>by
  rw[Y9,Qm hi];exact Yf hi
 obtain⟨κ,kd,ak⟩:=S.asks (σ:=σ) al rp rv;have big:(1000:Nat)<=sizeLine:=by decide
 refine H_6 (κ:=κ) (r:=am3 ds.length λ i=>fK (ds.getD i .non)) h1 h2 h4 (by omega) (λ g a kp na=>?_) λ g1 g2 O e op mo k1 k2 aa=>?_
 ·have up:∀ g':Heap,(∀ b o,b≠a->g.get? b=some o->g'.get? b=some o)->∀ b o,s.heap.get? b=some o->g'.get? b=some o:=λ g' k b o z=>k b o (λ y=>by rw[y,na] at z;cases z) (kp b o z);refine⟨λ l2 g' k Q q=>kd pins _ (I.kept (t':=s.toks) (up g' k)) l2 Q q,λ g' k i j hi Z C q=>ak pins _ (I.kept (t':=s.toks) (up g' k)) i j (by omega) (by omega) C ?_⟩;have ri:=G_4 (n:=ds.length) (key:=λ i=>fK (ds.getD i .non)) (i:=i) (j:=j) (by omega);rw[<- decide_eq_decide.mpr ri];exact q
 ·have I1:Inv X pins σ H {s with heap:=g1}:=I.kept (t':=s.toks) k1;rw[ac] at op mo;have M:∀ i∈O.toList,i<ds.length:=λ i hi=>List.mem_range.mp (op.perm.mem_iff.mp hi);obtain⟨ws,w1,w2⟩:=H_7 Y rv M;have ad:(O.toList.map λ i=>ds.getD i .non)=sortT ds:=by
   refine O_0 inj ?_ ?_
   ·have e1:=op.perm.map λ i=>ds.getD i .non;have e2:(List.range ds.length).map (λ i=>ds.getD i .non)=ds:=by
     refine Jq (by simp) λ i h1 h2=>?_;simp[h2]
    rw[e2] at e1;exact e1
   ·rw[List.pairwise_map,List.pairwise_iff_getElem];intro i j hi Z ae;have af:O.toList.length=ds.length:=by rw[Qu,op.size]
    have m1:=mo i j (Zi ae) (by omega);have gi:O.getD i 0=O.toList[i]:=by rw[Q5,<- Zd,Qm hi];rfl
    have gj:O.getD j 0=O.toList[j]:=by rw[Q5,<- Zd,Qm Z];rfl
    unfold KP at m1;rw[gi,gj] at m1;refine Qh λ z=>?_;have:=(G_4 (n:=ds.length) (key:=λ i=>fK (ds.getD i .non)) (i:=O.toList[j]) (j:=O.toList[i]) (M _ (Yf Z))).mpr z;omega
  rw[ad] at w1;have hz:ws.length<=sizeLine:=by have:=w1.length;rw[(q_4 ds).length_eq] at this;omega
  exact⟨.ref g1.objs.size,_,I1.laid (t':=s.toks) (o:=.lst ws) k2 (qj _) ⟨hz,_,e,w2,aa⟩,rfl,q _ _ (I1.hok.fresh (qj _)) w1⟩
theorem aA3 {Y:D → Bool} (S:SortSh X Y):BOk X (.builtin "sorted") (aB4 Y):=⟨_,ap3 S,λ c H0 H ρ σ ds d vs Q R r e q=>by
 unfold aB4 at e;split at e
 ·rename_i xs;obtain⟨⟨M,al⟩,rfl⟩:=ifs e;obtain⟨v,rfl,O⟩:=Reps.v1 r;unfold Rep at O;obtain⟨p,ws,rfl,sq,t⟩:=O;refine⟨p,xs,ws,H0,rfl,Same.seq R.same sq,R.same,t,M,al,λ l z Z r'=>?_⟩;have S:=Step.alloc (o:=.lst z) R.same Z;refine q _ _ _ S.s0 (R.after S) ?_;unfold Rep;exact⟨l,z,rfl,.inl (.inl a_8),Reps.mono S.s0 _ r'⟩
 ·cases e⟩
theorem W_2 {d:D} (h:r21 d=true):∃ a i j,d=.tup [.tup [.str a,.int i],.int j]:=by
 unfold r21 at h;split at h
 ·exact⟨_,_,_,rfl⟩
 ·cases h
theorem aI4 (x:List D) (j:Int):fK (.tup [.tup x,.int j])=fK (.tup [.tup x,.tup [.int j]]):=by
 have e:∀ y:D,fK (.tup [.tup x,y])=fKs x++fK y:=λ y=>by rw[s_1,i_6,i_6,s_1,K_4,Qr]
 have e2:fK (.tup [.int j])=fK (.int j):=by rw[s_1,i_6,K_4,Qr]
 rw[e,e,e2]
theorem aT6 {a b:D} (ha:r21 a=true) (Y:r21 b=true) (h:fK a=fK b):a=b:=by
 obtain⟨x,i,j,rfl⟩:=W_2 ha;obtain⟨z,M,Z,rfl⟩:=W_2 Y;have e:∀ x y:List D,fK (.tup [.tup x,.tup y])=fKs x++fKs y:=λ x y=>by rw[s_1,i_6,i_6,s_1,s_1,K_4,Qr]
 rw[aI4,aI4,e,e] at h;obtain⟨h1,h2⟩:=List.append_inj h (v_0 (ds:=[.str x,.int i]) (es:=[.str z,.int M]) rfl).2;have O:=(q_5 (ds:=[.int j]) (es:=[.int Z]) rfl).mp h2;rw[(q_5 (ds:=[.str x,.int i]) (es:=[.str z,.int M]) rfl).mp h1,(List.cons.inj O).1]
theorem bo4 {x y:List D}{j M:Int} (h:h_9 x y=true):(if eqD (.tup x) (.tup y)=true then N_3 [.int j] [.int M] else N_3 x y)=decide (fK (.tup [.tup x,.int j])<fK (.tup [.tup y,.int M])):=by
 rw[aI4,aI4,<- aM4 h (show h_9 [.int j] [.int M]=true from rfl)];split
 ·split
  ·rename_i z;rw[B_1] at z;have:=(C_1 (show h_9 [.int j] [.int M]=true from rfl)).mp z;rw[this,J_6 (show h_9 [.int M] [.int M]=true from rfl)];exact Qh (Z5 _)
  ·rfl
 ·rfl
theorem bI9 {A:Around}{Q:Bool->Shared->Prop}{E:Value->Shared->Prop} (hA:A.units+8<cLine) (I:Inv X pins σ H s) {d e:D} (Z:r21 d=true) (he:r21 e=true) {x y:V}{u v:Value} (r1:Rep X.K H d x) (v1:RelV x u) (r2:Rep X.K H e y) (v2:RelV y v)
  (q:Q (decide (fK d<fK e)) s):wpAny (model X.prog X.w) A (keyLt' (tuples' false) u v) Q E s:=by
 obtain⟨a,i,j,rfl⟩:=W_2 Z;obtain⟨a',i',j',rfl⟩:=W_2 he;obtain⟨p1,ws,ag,rfl,⟨o,ho,hc,n,ae⟩,rr,Y⟩:=u_9 I r1 v1;obtain⟨p2,af,its',rfl,⟨o',ad,ah,n',O⟩,aa,M⟩:=u_9 I r2 v2;have s1:h_9 [.str a,.int i] [.str a',.int i']=true:=rfl;have fl:∀ (a:Str) (i:Int),∀ d∈[D.str a,.int i],∃ e,F_4 d e=true:=λ a i d Z=>by
  rcases qw Z with rfl | Z
  ·exact⟨.str a,rfl⟩
  ·rw[List.mem_singleton.mp Z];exact⟨.int 0,rfl⟩
 rw[<- bo4 s1] at q;obtain⟨x1,x2,rfl,q1,q3⟩:=Reps.v2 rr;obtain⟨y1,y2,rfl,q2,q4⟩:=Reps.v2 aa;cases Y with
 |cons c1 Y =>
  cases Y with
  |cons c2 Y =>
   cases Y;cases M with
   |cons c3 M =>
    cases M with
    |cons c4 M =>
     cases M;rename_i u1 u2 w1 w2;have E1:SeqAt.EqAt A s u1 w1 (eqD (.tup [.str a,.int i]) (.tup [.str a',.int i'])):=Z_2 I 3 A _ _ x1 y1 u1 w1 (by simp) (by simp) (by simp) (by omega) q1 c1 q2 c3;have f1:=s_2 (bM0 ⟨.int 0,rfl⟩) (Reps.one q3) (Paired.cons c2 .nil);have f2:=s_2 (bM0 ⟨.int 0,rfl⟩) (Reps.one q4) (Paired.cons c4 .nil);refine kat_lt ho ae ad O (G_6 (l:=N_3 [.str a,.int i] [.str a',.int i']) (fin:=false) E1 (λ Q' q'=>?_) (λ z=>B_0 [.int j] [.int j'] rfl f1 f2 ?_) λ z=>?_)
     ·obtain⟨a1,_,i1,rfl,ac,m1,m2⟩:=u_9 I q1 c1;obtain⟨a2,_,i2,rfl,ab,m3,m4⟩:=u_9 I q2 c3;exact kat_one _ _ (O_8 ac ab (s_2 (fl a i) m1 m2) (s_2 (fl a' i') m3 m4) s1 (by omega) q')
     ·rw[if_pos z] at q;exact q
     ·rw[if_neg (by rw[z];exact qq)] at q;exact q
theorem by7 (hu:X.A.units+64<cLine):SortSh X r21 where
 inj:=aT6
 asks:=λ {σ H ds vs aa} Z M O=>by
  have Y:X.A.in1.in1.units+8<cLine:=by
   have e:X.A.in1.in1.units<=X.A.units+2:=by simp[Around.in1,Around.units]
   omega
  have ab:aa.length=ds.length:=by rw[<- O.length,<- M.length]
  have mem:∀ i,i<ds.length->ds.getD i .non∈ds:=λ i hi=>by
   rw[Y9,Qm hi];exact Yf hi
  refine⟨tuples' (Value.type "tuple" != Value.type "tuple"),λ pins s z l2 Q q=>?_,λ pins s z i j hi hj Q q=>?_⟩
  ·obtain⟨fs,k1,k2,k3⟩:=aj9 (T:=.type "tuple") z (λ d hd=>by
    obtain⟨a,i,j,rfl⟩:=W_2 (List.all_eq_true.mp Z d hd);refine⟨_,_,rfl,λ x u rx ru=>?_⟩;obtain⟨_,_,_,rfl,tp,_⟩:=u_9 z rx ru;exact Y_2 tp) M O
   exact kat_kind k1 (by omega) k3 rfl q
  ·obtain⟨x,rx,ux⟩:=u_2 M O hi;obtain⟨y,ry,uy⟩:=u_2 M O hj;exact bI9 Y z (List.all_eq_true.mp Z _ (mem i hi)) (List.all_eq_true.mp Z _ (mem j hj)) rx ux ry uy q
end
end Fx
namespace Fx
open PySem PySem.Spec PyProof.Rows L2
def bV6:List V->Hp->VK->Prop:=λ xs H Q=>∃ i j:Int,xs=[.int i,.int j]/\∀ p,H p=none->Q (.ref p) (upd H p (.rng i j))
def bV8:List V->Hp->VK->Prop:=λ xs H Q=>∃ (p:Addr) (i j:Int),xs=[.ref p]/\H p=some (.rng i j)/\(-(2 ^ 62)<=i/\i<2 ^ 62/\-(2 ^ 62)<=j/\j<2 ^ 62)/\(j-i).toNat<=1000 /\
 ∀ l,H l=none->Q (.ref l) (upd H l (.lst ((List.range (j-i).toNat).map λ k:Nat=>V.int (i+k))))
theorem aq5:∀ {xs:List V}{us:List Value},xs.length=us.length->(∀ (n:Nat) x u,xs[n]?=some x->us[n]?=some u->RelV x u)->Vals xs us
 |[],[],_,_=>.nil
 |[],_::_,e,_=>by cases e
 |_::_,[],e,_=>by cases e
 |x::xs,u::us,e,h=>.cons (h 0 x u rfl rfl) (aq5 (by simpa using e) λ n y v a b=>h (n+1) y v (by simpa using a) (by simpa using b))
section
variable {X:Cx}
theorem aJ9:CallR X (.type "range") bV6:=λ pins s σ H xs us Q I r h=>by
 obtain⟨i,j,rfl,q⟩:=h;obtain⟨u,w,rfl,⟨t,rfl⟩,⟨t',rfl⟩⟩:=aq6 r;exact call_range_2 ⟨.ref s.heap.objs.size,_,I.laid (o:=.rng i j) (λ b o e=>qf _ e) (qj _) (show ObjOk X.prog X.w _ _ _ (.rng i j) from ⟨t,t',s.toks,qk _ rfl⟩),rfl,q _ (I.hok.fresh (qj _))⟩
theorem aK0 (hc:X.calm=true):CallR X (.type "list") bV8:=λ pins s σ H xs us Q I r h=>by
 obtain⟨p,i,j,rfl,ep,⟨b1,b2,b3,b4⟩,hz,q⟩:=h;obtain⟨u,rfl,Z⟩:=D_4 r;cases Z;obtain⟨t1,t2,t3,eo⟩:=(show ObjOk X.prog X.w H s.heap p (.rng i j) from I.hok p _ ep);have sz:Builtin.Range.rangeSize i j 1=((j-i).toNat:Int):=by rw[rangeSize_one];split <;> omega
 have O:(1000:Nat)<=2 ^ 24:=by decide
 refine call_list_range (I.ok.hd hc) (show IsRange s.heap p i j 1 t1 t2 t3 from eo) (small_one b1 b2 b3 b4) sz (Qq hz O) λ h' tk M c' k1 k2 Y=>?_;have big:(1000:Nat)<=sizeLine:=by decide
 refine⟨.ref s.heap.objs.size,_,I.laid (o:=.lst ((List.range (j-i).toNat).map λ k:Nat=>V.int (i+k))) k1 (qj _) ⟨by rw[Qg,List.length_range];omega,M.toList,c',aq5 ?_ λ n x u ex eu=>?_,by simpa using k2⟩,rfl,q _ (I.hok.fresh (qj _))⟩
 ·rw[Qg,List.length_range,Qu,Y.1]
 ·rw[Qp] at ex;cases z:(List.range (j-i).toNat)[n]? with
  |none=>rw[z] at ex;cases ex
  |some m =>
   rw[z] at ex;cases ex;obtain⟨hn,e⟩:=List.getElem?_eq_some_iff.mp z;rw[List.getElem_range] at e;subst e;obtain⟨t,rfl⟩:=Y.2 n u (by rw[<- Zd];exact eu);exact⟨t,by rw[Int.mul_one]⟩
theorem ah9 {K:Frag}{H:Hp}:∀ (n:Nat) (lo:Int),Reps K H (u_8 lo n) ((List.range n).map λ k:Nat=>V.int (lo+k))
 |0,lo=>Reps.nil_
 |n+1,lo=>by
  rw[List.range_succ_eq_map,Qa,Zy];refine Reps.cons ?_ ?_
  ·unfold Rep;simp
  ·have:=ah9 (K:=K) (H:=H) n (lo+1);have e:((λ k:Nat=>V.int (lo+k)) ∘ Nat.succ)=λ k:Nat=>V.int (lo+1+k):=by funext k;show V.int (lo+((k+1:Nat):Int))=_;congr 1;omega
   rw[e];exact this
variable {a b:Expr}{F G:FE}{p p2 pos pos':Pos}
theorem bR8 (hm:X.mg "list"=none) (Z:X.mg "range"=none) (ha:XE X a F) (hb:XE X b G) (hg:Gl X "list":=by rfl) (ab:Gl X "range":=by rfl) (hc:X.calm=true:=by rfl)
  (st:starEach [a,b] X.env=(false,eval a X.env)::starEach [b] X.env:=by rfl) (ac:starEach [b] X.env=(false,eval b X.env)::starEach [] X.env:=by rfl) (pl:(backTo pos' (starEach [b] X.env)).any (·.1)=false:=by rfl)
  (O:starEach [.Call (.Name "range" p2) [a,b] [] pos'] X.env=(false,eval (.Call (.Name "range" p2) [a,b] [] pos') X.env)::starEach [] X.env:=by rfl) (aa:(backTo pos (starEach [] X.env)).any (·.1)=false:=by rfl) :
  XE X (.Call (.Name "list" p) [.Call (.Name "range" p2) [a,b] [] pos'] [] pos) (bw0 F G) :=
 PE.wk (H_9 (aK0 hc) hg hm boot_list (q_0 (H_9 aJ9 ab Z boot_range (q_0 ha (q_0 hb x_8 ac) st) (by decide) (by decide) st pl) x_8 O) (by decide) (by decide) O aa) λ σ H Q Y=>by
  obtain⟨c,H0,ρ,d,af,R,f,q⟩:=Y;unfold bw0 aI8 at f;obtain⟨⟨xs,ae⟩,h1,f⟩:=a_1 f;obtain⟨hz,f⟩:=ifs f;cases f;unfold aN4 at h1;obtain⟨⟨d1,M⟩,h2,h1⟩:=a_1 h1;obtain⟨⟨d2,ad⟩,h3,h1⟩:=a_1 h1;obtain⟨i,h4,h1⟩:=a_1 h1;obtain⟨j,h5,h1⟩:=a_1 h1;obtain⟨hj,h1⟩:=ifs h1;cases h1;refine⟨c,H0,ρ,d1,M,R,h2,λ v H1 Hh s1 R1 r1=>⟨c,H1,M,d2,_,R1,h3,λ v' H2 Hh2 s2 R2 r2=>?_⟩⟩;cases d1 with
  |int k =>
   cases d2 with
   |int z =>
    have e:k=i:=qi h4;have e':z=j:=qi h5;subst e e';unfold Rep at r1 r2;subst r1 r2;refine⟨k,z,rfl,λ p hp=>⟨p,k,z,rfl,a_8,hj,by rw[A_4] at hz;exact hz,λ l hl=>?_⟩⟩;have S1:=Step.alloc (o:=.rng k z) R2.same hp;have R3:=R2.after S1;have S2:=Step.alloc (o:=.lst ((List.range (z-k).toNat).map λ n:Nat=>V.int (k+n))) R3.same hl;refine q _ _ _ (s1.trans (s2.trans (S1.s0.trans S2.s0))) (R3.after S2) ?_;unfold Rep;exact⟨l,_,rfl,.inl (.inl a_8),ah9 _ _⟩
   |_=>cases h5
  |_=>cases h4
end
section
variable {X:Cx}{pos:Pos}{e:Expr}{F:FE}{A:FA}{T:FT}
theorem aA2 (z:X.A.units+64<cLine):BOk X (.builtin "sorted") aB3:=aA3 (by7 z)
end
end Fx
namespace Fx
open PySem
noncomputable def bm5:Option Sl->Option (Bool×List D)
 |some (.ow b (.lst ds))=>some (b,ds)
 |_=>none
@[simp] theorem bL0 (b:Bool) (ds:List D):bm5 (some (.ow b (.lst ds)))=some (b,ds):=zR rfl
def eQb (i:Nat) (ρ:En) (b:Bool) (ds:List D) (o:Option D):Option (D×En):=bnd o λ d=>some (d,ρ.set i (.ow b (.lst ds.dropLast)))
def eQa (i:Nat) (ρ:En) (o:Option (Bool×List D)):Option (D×En):=bnd o λ p=>eQb i ρ p.1 p.2 p.2[p.2.length-1]?
def eQ (i:Nat) (ρ:En):Option (D×En):=eQa i ρ (bm5 ρ[i]?)
@[simp] theorem eQ_ (i:Nat) (ρ:En):eQ i ρ=eQa i ρ (bm5 ρ[i]?):=zR rfl
theorem bF5 (i:Nat) (ρ:En) (b:Bool) (ds:List D) (d:D):eQa i ρ (some (b,ds++[d]))=some (d,ρ.set i (.ow b (.lst ds))):=by show eQb i ρ b (ds++[d]) (ds++[d])[(ds++[d]).length-1]?=_;rw[Qd,Qs,Nat.add_sub_cancel,List.getElem?_concat_length];show some (d,ρ.set i (.ow b (.lst (ds++[d]).dropLast)))=_;rw[List.dropLast_concat]
def bn7 (A B:En->Option MO) (o:Option (Bool×En)):Option MO:=bnd o λ p=>if p.1=true then A p.2 else B p.2
def nIf (T:FT) (A B:En->Option MO) (ρ:En):Option MO:=bn7 A B (T ρ)
@[simp] theorem cc4 (T:FT) (A B:En->Option MO) (ρ:En):nIf T A B ρ=bn7 A B (T ρ):=zR rfl
@[simp] theorem bL8 (A B:En->Option MO) (ρ:En):bn7 A B (some (true,ρ))=A ρ:=zR rfl
@[simp] theorem bL9 (A B:En->Option MO) (ρ:En):bn7 A B (some (false,ρ))=B ρ:=zR rfl
def aG4 (ρ:En) (o:Option (List D)):Option MO:=bnd o λ ds=>some (.lst ds.reverse)
def aG3 (i:Nat) (ρ:En):Option MO:=aG4 ρ (bm6 ρ[i]?)
@[simp] theorem bL6 (i:Nat) (ρ:En):aG3 i ρ=aG4 ρ (bm6 ρ[i]?):=zR rfl
@[simp] theorem bC8 (ρ:En) (ds:List D):aG4 ρ (some ds)=some (.lst ds.reverse):=zR rfl
end Fx
namespace Fx
open PySem PySem.Spec PyProof.Rows L2
theorem Reps.dropLast {K:Frag}{H:Hp}:∀ {ds:List D}{vs:List V},Reps K H ds vs->Reps K H ds.dropLast vs.dropLast
 |[],vs,h=>by unfold Reps at h;subst h;exact Reps.nil_
 |[d],vs,h=>by
  unfold Reps at h;obtain⟨v,r,rfl,_,h2⟩:=h;unfold Reps at h2;subst h2;exact Reps.nil_
 |d::e::ds,vs,h=>by
  unfold Reps at h;obtain⟨v,r,rfl,h1,h2⟩:=h;have z:=Reps.dropLast h2;unfold Reps at h2;obtain⟨M,O,rfl,_,_⟩:=h2;exact Reps.cons h1 z
theorem au2 {o:Option Sl}{q:Bool×List D} (h:bm5 o=some q):o=some (.ow q.1 (.lst q.2)):=by
 unfold bm5 at h;split at h
 ·cases h;rfl
 ·cases h
section
variable {X:Cx}{pos:Pos}
theorem xq (i:Nat) {x:Str}{p1 p2:Pos} (hN:X.N[i]?=some x:=by rfl) (hv:Vis X.env.scope x:=by first | exact Or.inl rfl | exact Or.inr (Or.inl rfl) | exact Or.inr (Or.inr rfl)) (hd:(x==("__debug__":Str))=false:=by decide)
  (Y:(x==("__classdict__":Str))=false:=by decide) (z:attributeBase (.Name x p1) "pop" X.env (eval (.Name x p1) X.env)=eval (.Name x p1) X.env:=by rfl)
  (M:(p2.endLine==pos.line)=true:=by rfl) :
  XE X (.Call (.Attribute (.Name x p1) "pop" p2) [] [] pos) (eQ i) :=
 PE.wk (bm2 Yk PySem.F.slot_list_pop PySem.F.type_list_pop bn9 (t_1 hN hv hd Y) z M) λ σ H Q O=>by
  obtain⟨c,H0,ρ,d,Z,R,f,q⟩:=O;unfold eQ eQa at f;obtain⟨⟨b,ds⟩,h0,f⟩:=a_1 f;unfold eQb at f;obtain⟨d',h1,f⟩:=a_1 f;have f':some (d',ρ.set i (.ow b (.lst ds.dropLast)))=some (d,Z):=f;cases f';obtain⟨a,x1,_,_,vs,y1,z1⟩:=R.ow i _ _ (au2 h0);have hl:=z1.length;obtain⟨y,e1,e2⟩:=z1.get h1;rw[hl] at e1;refine⟨.ref a,x1,.inl ⟨rfl,vs,SqL.of y1⟩,a,vs,y,rfl,rfl,y1,e1,?_⟩;exact q y H0 _ (Same.refl _) (R.mutOwn (o':=.lst ds.dropLast) (u:=.lst vs.dropLast) (au2 h0) x1 ⟨_,a_8,Reps.dropLast z1⟩) e2
theorem bR7 {c:Expr}{a rest:List Stmt}{T:FT}{A B:En->Option MO} (hc:XT X c T) (ha:XN X a A) (hb:XN X rest B):XN X (.If c a [] pos::rest) (nIf T A B) :=
 PSs.wk (Q_5 (bk6 hc ha as9) hb) λ Dn σ H M=>by
  obtain⟨O,Y,H0,ρ,o,R,f,q⟩:=M;unfold nIf bn7 at f;obtain⟨⟨k,z⟩,h1,f⟩:=a_1 f;dsimp only at f;refine⟨⟨O,Y,[]⟩,H0,ρ,k,z,R,h1,λ H1 Hh s1 Z=>?_⟩;cases k with
  |true =>
   rw[if_pos rfl] at f ⊢;exact⟨O,Y,H1,z,o,Z,f,q⟩
  |false =>
   rw[if_neg Qi] at f ⊢;exact⟨O,Y,H1,z,o,Z,f,q⟩
theorem bw8 (i:Nat) {x:Str}{p p2 p3 p4 M z:Pos}{k:Nat} (hN:X.N[i]?=some x:=by rfl) (hv:Vis X.env.scope x:=by first | exact Or.inl rfl | exact Or.inr (Or.inl rfl) | exact Or.inr (Or.inr rfl)) (hd:(x==("__debug__":Str))=false:=by decide) (Z:(x==("__classdict__":Str))=false:=by decide) :
  XN X [.Return (some (.Subscript (.Name x p) (.Slice none none (some (.UnaryOp .USub (.Constant (.int 1) k p3) p4)) p2) M)) z] (aG3 i) :=
 PSs.wk (D_6 (at4 (bl6 (t_1 hN hv hd Z)))) λ Dn σ H O=>by
  obtain⟨Hi,He,H0,ρ,o,R,f,q⟩:=O;unfold aG3 aG4 at f;obtain⟨ds,h0,f⟩:=a_1 f;have f':some (MO.lst ds.reverse)=some o:=f;cases f';obtain⟨a,x1,_,_,vs,y1,z1⟩:=R.ow i _ _ (aV0 h0);refine⟨.ref a,x1,a,vs,rfl,SqL.of y1,λ l Y=>?_⟩;refine q l H0 _ ⟨R.init,λ b u e=>?_,λ b u e=>?_,R.fresh,R.same.free Y,R.heNone Y,vs.reverse,a_8,ai0 z1⟩
  ·have:=R.same b u e;rw[a_4 (b_1 this Y)];exact this
  ·have:=R.keep b u e (by simp);rw[a_4 (b_1 this Y)];exact this
end
section
variable {X:Cx}{a b:Expr}{F G:FE}{y:Str}{py pos:Pos}{rest:List Expr}
theorem bl7 {ta tb:TE} (ha:PE X a ta) (hb:PE X (.BoolOp .Or (b::rest) pos) tb):PE X (.BoolOp .Or (a::b::rest) pos) (λ σ H Q=>ta σ H λ x H1=>∃ k,bw5 X.K x H1 k/\if k=true then Q x H1 else tb σ H1 Q):=by
 intro pins s σ H Q I h;refine BoolOp_or (thn (ha pins s σ H _ I h) λ v s1 z=>?_);obtain⟨x,H1,I1,Y,k,Z,q1⟩:=z;refine thn (aM6 pins s1 σ H1 x v (λ k H=>if k=true then Q x H else tb σ H Q) I1 Y ⟨k,Z,q1⟩) λ k' s2 z=>?_;obtain⟨H2,O,M⟩:=z;cases k' with
 |false=>rw[if_neg Qi] at M;exact hb pins s2 σ H2 Q O M
 |true=>rw[if_pos rfl] at M;exact⟨x,H2,O,Y,M⟩
theorem bw7 (ha:XE X a F) (hb:XE X (.BoolOp .Or (b::rest) pos) G):XE X (.BoolOp .Or (a::b::rest) pos) (bg0 F G):=PE.wk (bl7 ha hb) λ σ H Q O=>by
 obtain⟨c,H0,ρ,d,Y,R,f,q⟩:=O;unfold bg0 at f;obtain⟨⟨z,M⟩,h1,f⟩:=a_1 f;obtain⟨k,h2,f⟩:=a_1 f;dsimp only at h2 f;refine⟨c,H0,ρ,z,M,R,h1,λ v H1 Hh s1 Z r1=>⟨k,aM7 Z.same r1 h2,?_⟩⟩;cases k with
 |true =>
  rw[if_pos rfl] at f ⊢;cases f;exact q _ H1 Hh s1 Z r1
 |false =>
  rw[if_neg Qi] at f ⊢;exact⟨c,H1,M,d,Y,Z,f,λ v H2 Hh2 s2 R2 r2=>q v H2 Hh2 (s1.trans s2) R2 r2⟩
end
section
variable {X:Cx}
theorem bR3 {st:Stmt}:XS X st sNo:=λ _ _ _ _ _ _ ⟨_,_,_,_,_,f,_⟩=>nomatch f
end
end Fx
namespace L2
open PySem PySem.Spec PyProof.Rows
theorem z_8 {pos:Pos}{a b:Int}{c:Value}:∀ l:List Value,TriplesOk l ->
  codeAmong pos (l++[rawInt a,rawInt b,c])=codeAmong pos l\/(codeAmong pos l=none/\codeAmong pos (l++[rawInt a,rawInt b,c])=some c)
 |[],_=>by
  simp only[Yc,codeAmong,rawInt];split
  ·exact .inr ⟨trivial,rfl⟩
  ·exact .inl rfl
 |[x],h=>by cases x <;> exact False.elim h
 |[x,y],h=>by cases x <;> first | exact False.elim h | (cases y <;> exact False.elim h)
 |x::y::z::r,h=>by
  cases x with
  |int i t =>
   cases y with
   |int k u =>
    simp only[Yu,codeAmong];split
    ·exact .inl rfl
    ·exact z_8 r h
   |_=>exact False.elim h
  |_=>exact False.elim h
abbrev P_4 (z:Arguments) (body:Expr) (scope:Scope) (O:Value) (c':Addr) (M:Value):Obj:=PySem.W.kla_obj "<lambda>" D_0 z body scope [] O c' M
theorem bo0 {X:Cx}{pins:List (Addr×Obj)}{σ:St}{H:Hp}{s:Shared}{M:Model}{A:Around}{E:Value->Shared->Prop}{c:Addr}{O:Arguments}{body:Expr}{scope:Scope}{pos:Pos}{fl:Nat}{Q:Value->Shared->Prop}
  (I:Inv X pins σ H s) (hc:X.env.code=.ref c) (C:PySem.W.CodeHd X.base c TabP) (ae:closureFor scope X.env=pure [])
  (h:∀ (f c':Addr) (H':Hp) (s':Shared) (pm aa:Value),Inv X ((f,P_4 O body scope pm c' aa)::pins) σ H' s'->Same H H'->H' c'=some (.cod D_0)->X.s₀.heap.objs.size<=f->Q (.ref f) s') :
  wpAny M A (makeFunction "<lambda>" D_0 O (.expr body) scope X.env [] [] [] pos fl) Q E s:=by
 have ab:=I.base.tbls _ _ I.ok.tab;obtain⟨ps,hP,tr,al⟩:=(show ObjOk X.prog X.w H s.heap TabP (.tbl D_0) from I.hok _ _ ab);have hg:s.heap.Ns mainGlobals X.mg:=I.ok.mod.glob.keeps I.bk;obtain⟨bm,ob,b1,b2,b3,b4,b5,b6⟩:=I.ok.mod.bm;have ac:=I.bk _ _ b3;have am:bm≠TabP:=λ q=>by rw[q,hP] at ac;cases ac;cases b4
 have an:mainGlobals≠TabP:=λ q=>by
  obtain⟨o,es,ep,e,hd,_⟩:=hg;rw[q,hP] at e;cases e;cases hd
 have af:bm≠mainGlobals:=λ q=>by
  obtain⟨o,es,ep,e,hd,_⟩:=hg;rw[<- q,ac] at e;cases e;rw[hd] at b6;cases b6
 have hB:s.heap.BuiltinsAt X.mg TabP:=⟨bm,ob,b1,b2,af,am,ac,b4,b5,b6⟩;rcases al pos with z | ⟨c',z,y⟩
 ·refine PySem.W.kla_makeFunction ae I.ok.glob hg hc (C.keeps I.bk) hP tr z an hB λ c' aa h' tk hx ad aj ai ag=>?_;have Z:H c'=none:=I.hok.fresh ad;have Y:s.heap.objs.size<=h'.objs.size:=Zi (Y8 ad aj);have nP:∀ b,H b=none->b≠TabP:=λ b n q=>by rw[q,ab] at n;cases n
  let oF:Obj:=P_4 O body scope ((X.mg "__name__").getD .none) c' aa
  have up:∀ b o,h'.get? b=some o->(h'.push oF).get? b=some o:=λ b o e=>qf _ e;have ah:HOk X.prog X.w (upd H c' (.cod D_0)) (h'.push oF):=λ b o e=>by
   by_cases hb:b=c'
   ·subst hb;rw[a_8] at e;cases e;obtain⟨d,oc,vs,t,e1,e2,r⟩:=ai;cases e1;exact⟨_,oc,vs,t,rfl,up _ _ e2,r⟩
   ·rw[a_4 hb] at e;by_cases ak:b=TabP
    ·subst ak;rw[ab] at e;cases e;refine⟨_,up _ _ ag,?_,λ pos'=>?_⟩
     ·have:=TriplesOk_snoc pos.line pos.col (.ref c') ps.toList tr;simpa using this
     ·have q:(ps++#[rawInt pos.line,rawInt pos.col,.ref c']).toList=ps.toList++[rawInt pos.line,rawInt pos.col,.ref c']:=by simp
      rw[q];rcases z_8 (pos:=pos') (a:=pos.line) (b:=pos.col) (c:=.ref c') ps.toList tr with w | ⟨_,w⟩
      ·rw[w];rcases al pos' with v | ⟨c2,v,v2⟩
       ·exact .inl v
       ·exact .inr ⟨c2,v,by rw[a_4 (b_1 v2 Z)];exact v2⟩
      ·exact .inr ⟨c',w,a_8⟩
    ·refine (I.hok b o e).stay (λ d v hd q=>up _ _ (hx d v ?_ q)) (λ d q=>by rw[a_4 (b_1 q Z)];exact q) (λ d xs q=>by rw[a_4 (b_1 q Z)];exact q) λ d xs q=>by rw[a_4 (b_1 q Z)];exact q
     rcases hd with rfl | hd
     ·exact ak
     ·intro w;rw[w,ab] at hd;cases hd
  have u:Un X.fs [] H (upd H c' (.cod D_0)) s.heap (h'.push oF):=by
   refine⟨λ b o e n _ _=>up _ _ (hx b o (nP b n) e),λ b o e n _ _=>⟨o.slots,up _ _ (hx b o (nP b n) e)⟩,λ b o e n _=>?_,λ b o e _=>?_,λ b xs q=>by rw[a_4 (b_1 q Z)];exact q,λ b o xs q=>by rw[a_4 (b_1 q Z)];exact q,λ b xs q=>by rw[a_4 (b_1 q Z)];exact q⟩
   ·rw[a_4 (Nat.ne_of_lt (Nat.lt_of_lt_of_le (Heap.lt_size e) ad))];exact n
   ·by_cases hb:b=TabP
    ·exact⟨_,up _ _ (by rw[hb];exact ag)⟩
    ·exact⟨o,up _ _ (hx b o hb e)⟩
  have I1:Inv X pins σ (upd H c' (.cod D_0)) {s with heap:=h'.push oF,toks:=tk}:=I.un u ah;refine h h'.objs.size c' _ _ ((X.mg "__name__").getD .none) aa (I1.pins_of λ p hp=>?_) (λ b o e=>by rw[a_4 (b_1 e Z)];exact e) a_8 (Qq I.sz Y);rcases qw hp with rfl | hp
  ·refine⟨qk _ rfl,?_,Ju (qr I.lt Y),I.nofs Y,λ v=>by nofun⟩;show upd H c' (.cod D_0) h'.objs.size=none;rw[a_4 (Ju aj)];exact I.hok.fresh Y
  ·exact I1.pin p (qo _ hp)
 ·refine PySem.W.kla_makeFunctionHit ae I.ok.glob hg hc (C.keeps I.bk) hP tr z hB λ aa h' tk hk Y=>?_;have I1:Inv X pins σ H {s with heap:=h'.push (P_4 O body scope ((X.mg "__name__").getD .none) c' aa),toks:=tk}:=I.kept (λ b u e=>qf _ (hk b u e));refine h h'.objs.size c' H _ ((X.mg "__name__").getD .none) aa (I1.pins_of λ p hp=>?_) (Same.refl _) y (Qq I.sz Y);rcases qw hp with rfl | hp
  ·exact⟨qk _ rfl,I.hok.fresh Y,Ju (qr I.lt Y),I.nofs Y,λ v=>by nofun⟩
  ·exact I1.pin p (qo _ hp)
theorem aT2 {CX:CXT}{P:Program}{w:World}{K:Frag}{mg:Str->Option Value}{base:Heap}{A:Around}{outer:List Env}{s:Shared}{H:Hp}{k:Nat}{f c':Addr}{z:Arguments}{body:Expr}{scope:Scope}{pm Y:Value}{N ps:List Str}{us:List Value}{vs:List V}{Q:VK}{E:XK}{args:Args}
  (hr:Room (k+1) A) (e0:Env0 P w K mg base A outer s H) (hf:s.heap.get? f=some (P_4 z body scope pm c' Y)) (hc:H c'=some (.cod D_0)) (S:FnScope N ps scope)
  (hb:BindsTo s (PySem.W.kla_fn "<lambda>" D_0 z body scope [] pm (.ref c') Y) args (ps.zip us)) (hl:vs.length=ps.length) (r:Vals vs us)
  (O:Room k (A.deeper (envOfC D_0 scope s.heap.objs.size f (.ref c')))->∃ t,PE (ak0 CX P w K mg base N D_0 scope f (.ref c') A outer s H E) body t/\t (start N vs) H Q) :
  codeAny (model P w) A (.call (.ref f) args) (CR CX outer P w H s Q E) s:=by
 have ab:s.heap.NoLimit:=e0.mod.nolimit.keeps λ b o e=>(e0.bs b o e).1;have aa:s.heap.CodeRec (.ref c') D_0:=e0.hok c' _ hc;have M:∀ y∈ps.zip us,scope.names.lookup y.1=some .local\/(scope.names.lookup y.1=some .cell/\((cellsFrom (s.heap.objs.size+1) scope.names []).lookup y.1).isSome=true):=λ Z hy=>by
  obtain⟨n,v⟩:=Z;rcases S.par n (J0 hy).1 with q | q
  ·exact .inl q
  ·exact .inr ⟨q,Js _ _ _ (.inl q)⟩
 refine PySem.W.kla_callFunE hr.depth hf rfl S.co S.gen rfl aa (hb _ _ _ _ ?_);refine wpAny_newFunctionEnv_cells S.kind M λ env he s1 x=>?_;subst he;refine⟨ab.keeps x.toInCall.keep,PySem.W.kla_codeExpr ?_⟩;obtain⟨t,ht,hq⟩:=O (hr.deeper _);have I:Inv (ak0 CX P w K mg base N D_0 scope f (.ref c') A outer s H E) [] (start N vs) H s1:=Y_6 S hr.hd e0 hl r x;refine Q6 (ht [] s1 (start N vs) H _ I hq) (λ u s' hs=>?_) λ e s' hs=>hs;obtain⟨v,H',J,rv,q⟩:=hs;exact⟨v,H',J.os,J.bare,J.base,J.hok,rv,q⟩
section
variable {X:Cx}{ps qs:List (Addr×Obj)}{σ:St}{H:Hp}{s:Shared}
theorem Inv.sub (I:Inv X ps σ H s) (h:∀ q∈qs,q∈ps):Inv X qs σ H s :=
 I.pins_of λ q hq=>I.pin q (List.mem_append.mpr (.inr (h q hq)))
theorem Inv.obj (I:Inv X ps σ H s) {a:Addr}{o:Obj} (h:(a,o)∈ps):s.heap.get? a=some o:=(I.pin (a,o) (List.mem_append.mpr (.inr h))).1
structure Young (X:Cx) (ps:List (Addr×Obj)) (a:Addr):Prop where
 age:X.s₀.heap.objs.size<=a
 one:∀ p,p∈X.pn\/p∈ps->p.1≠a
theorem Young.fresh (I:Inv X ps σ H s) {a:Addr} (h:s.heap.objs.size<=a):Young X ps a :=
 ⟨Qq I.sz h,λ p hp e=>by
  have:=qm (I.pin p (List.mem_append.mpr hp)).1;rw[e] at this;exact absurd this (Nat.not_lt.mpr h)⟩
theorem Young.more {a b:Addr}{o:Obj} (y:Young X ps a) (h:b≠a):Young X ((b,o)::ps) a :=
 ⟨y.age,λ p hp=>by
  rcases hp with h1 | h1
  ·exact y.one p (.inl h1)
  ·cases h1 with
   |head=>exact h
   |tail _ h2=>exact y.one p (.inr h2)⟩
theorem Inv.became {a:Addr}{o u:Obj}{g:Heap}{n:Nat} (I:Inv X ((a,o)::ps) σ H s) (y:Young X ps a) (k:∀ b v,b≠a->s.heap.get? b=some v->g.get? b=some v) (e:g.get? a=some u) (d:∀ v,u.data≠.cell v) :
  Inv X ((a,u)::ps) σ H {s with heap:=g,toks:=n}:=by
 have P:=I.pin (a,o) (List.mem_append.mpr (.inr (.head _)));have C:∀ x c,X.env.cells.lookup x=some c->c≠a:=λ x c q z=>by
  obtain⟨v,w,h1,h2⟩:=I.cell x c q;have M:w=o:=by rw[z,P.1] at h1;exact (qi h1).symm
  exact P.2.2.2.2 v (by rw[<- M];exact h2)
 have J:Inv X ps σ H {s with heap:=g,toks:=n}:=(I.sub λ q h=>.tail _ h).turned k P.2.1 P.2.2.1 (.inr y.age) C λ p hp=>y.one p (qz hp);refine J.pins_of λ q hq=>?_;cases hq with
 |head=>exact⟨e,P.2.1,P.2.2.1,P.2.2.2.1,d⟩
 |tail _ h=>exact J.pin q (List.mem_append.mpr (.inr h))
theorem Inv.pinNew {a:Addr}{o:Obj} (I:Inv X ps σ H s) (z:H a=none) (e:s.heap.get? a=some o) (d:∀ v,o.data≠.cell v) (l:a≠X.env.locals) (f:a∉X.fs):Inv X ((a,o)::ps) σ H s :=
 I.pins_of λ q hq=>by
  cases hq with
  |head=>exact⟨e,z,l,f,d⟩
  |tail _ h=>exact I.pin q (List.mem_append.mpr (.inr h))
end
abbrev aX9 (l:Addr) (j:Nat) (o:Obj):Prop:=o.cls=.type "list_iterator" ∧ o.data=.fields #[.ref l,.int j 0]
theorem V_5 {X:Cx}{A:Around}{ps:List (Addr×Obj)}{σ:St}{H:Hp}{s:Shared}{It l:Addr}{o:Obj}{j:Nat}{ns:List Int}{Q:Option Value->Shared->Prop}{E:Value->Shared->Prop}
  (hd:A.handled=none) (y:Young X ps It) (I:Inv X ((It,o)::ps) σ H s) (io:aX9 l j o) (sq:SqL X.K H l (ns.map V.int))
  (O:ns[j]?=none->∀ s',Inv X ps σ H s'->Q none s')
  (go:∀ n t o' s',ns[j]?=some n->aX9 l (j+1) o'->Inv X ((It,o')::ps) σ H s'->Q (some (.int n t)) s'):wpAny (model X.prog X.w) A (pyNext (.ref It)) Q E s:=by
 obtain⟨vs,rv,Z,_⟩:=I.list sq;have M:s.heap.IsListIter It l j:=⟨o,I.obj (.head _),io.1,io.2⟩;have Y:vs.length=ns.length:=by rw[<- rv.length,Qg]
 cases q:ns[j]? with
 |none =>
  have q':vs.toArray[j]?=none:=by rw[J9,List.getElem?_eq_none_iff,Y];exact List.getElem?_eq_none_iff.mp q
  refine wpAny_pyNext_list_end hd M Z.isList q' λ g x=>O q _ ?_;have P:=I.pin (It,o) (List.mem_append.mpr (.inr (.head _)));exact (I.sub λ r h=>.tail _ h).turned (t':=s.toks) x P.2.1 P.2.2.1 (.inr y.age) (λ a c e z=>by
   obtain⟨v,w,h1,h2⟩:=I.cell a c e;rw[z,P.1] at h1;exact P.2.2.2.2 v (by rw[Option.some.inj h1];exact h2)) λ p hp=>y.one p (qz hp)
 |some n =>
  obtain⟨t,ht⟩:=(Ys rv).get j n q;refine wpAny_pyNext_list_item M Z.isList (x:=.int n t) (by rw[J9];exact ht) λ g st x=>?_;obtain⟨o',e',c',d'⟩:=st;exact go n t o' _ q ⟨c',d'⟩ (I.became (n:=s.toks) y (λ b v hb e=>(x.2 b hb).trans e) e' λ v=>by rw[d'];nofun)
theorem ac9 {X:Cx}{M:Model}{A:Around}{ps:List (Addr×Obj)}{σ:St}{H:Hp}{s:Shared}{S:Addr}{xs ys:Array Value}{c:Nat}{Q:Unit->Shared->Prop}{E:Value->Shared->Prop} (z:xs.size<=2) (O:ys.size<=2)
  (y:Young X ps S) (I:Inv X ((S,seqObj "list" xs c)::ps) σ H s) (h:∀ c' s',Inv X ((S,seqObj "list" ys c')::ps) σ H s' → Q () s'):wpAny M A (updateSeq S λ _=>ys) Q E s:=by
 have e:=I.obj (.head _);have Z:=Yg s.heap S (Obj.mapSeq λ _=>ys);have big:2<=sizeLine:=by decide
 exact wpAny_updateSeq e rfl (h _ _ (I.became (n:=s.toks) y (λ b v Y q=>(Z.2 b Y).trans q) (get?_update_seq e λ _=>ys) λ v=>by nofun)) (Qq z big) (Qq O (Yn big))
def kLt (a b:Int×Int):Bool:=HT.lexLt [a.1,a.2] [b.1,b.2]
theorem aw3 {X:Cx}{A:Around}{ps:List (Addr×Obj)}{σ:St}{H:Hp}{s:Shared}{a b:Addr}{k m:Int×Int}{Q:Value->Shared->Prop}{E:Value->Shared->Prop} (Z:A.units<cLine) (I:Inv X ps σ H s)
  (ha:SqT X.K H a [.int k.1,.int k.2]) (M:SqT X.K H b [.int m.1,.int m.2]) (h:Q (.bool (kLt k m)) s):wpAny (model X.prog X.w) A (richCompare .Lt (.ref a) (.ref b)) Q E s:=by
 obtain⟨us,r1,O,_⟩:=I.tuple ha;obtain⟨ws,Y,z,_⟩:=I.tuple M;exact HT.lt_tupInts O z (Ys (ns:=[k.1,k.2]) r1) (Ys (ns:=[m.1,m.2]) Y) Z h
def w_8 (g:Int->Int×Int):Option Int->List Int->Option Int
 |o,[]=>o
 |none,n::r=>w_8 g (some n) r
 |some b,n::r=>w_8 g (some (if kLt (g n) (g b)=true then n else b)) r
def be1 (X:Cx) (A:Around) (σ:St) (f c':Addr) (fo:Obj) (g:Int->Int×Int):Prop :=
 ∀ (ps:List (Addr×Obj)) (H:Hp) (s:Shared) (n:Int) (t:Tok),Inv X ps σ H s->(f,fo)∈ps->H c'=some (.cod D_0) ->
  wpAny (model X.prog X.w) A (call (.ref f) [.int n t]) (λ u s'=>∃ z H',u=.ref z/\Inv X ps σ H' s'/\Same H H'/\SqT X.K H' z [.int (g n).1,.int (g n).2]) (λ _ _=>False) s
inductive Holds4 (K:Frag) (g:Int->Int×Int) (H:Hp):Option Int->Array Value->Prop
 |no:Holds4 K g H none #[]
 |yes (b:Int) (t:Tok) (k:Addr) (h:SqT K H k [.int (g b).1,.int (g b).2]):Holds4 K g H (some b) #[.int b t,.ref k]
noncomputable def bB8:Option Int->Value->Prop
 |none,v=>v=.none
 |some b,v=>∃ t,v=.int b t
section
variable {X:Cx}{A:Around}{σ:St}{ps:List (Addr×Obj)}{f c' l S It:Addr}{fo:Obj}{g:Int->Int×Int}{ns:List Int}
theorem an0 (hd:A.handled=none) (hu:A.in1.units<cLine) (fm:(f,fo)∈ps) (yS:Young X ps S) (yI:Young X ps It) (ne:S≠It) (key:be1 X A.in1 σ f c' fo g) (R:Result->Shared->Prop) :
  ∀ (r:List Int) (j:Nat) (o:Option Int) (xs:Array Value) (c:Nat) (oi:Obj) (H:Hp) (s:Shared),ns.drop j=r → Inv X ((It,oi)::(S,seqObj "list" xs c)::ps) σ H s → aX9 l j oi → SqL X.K H l (ns.map V.int) → H c'=some (.cod D_0) → Holds4 X.K g H o xs →
   (∀ H' s' v,Inv X ps σ H' s'->Same H H'->bB8 (w_8 g o r) v->R (.ok (.ret v)) s') ->
   codeAny (model X.prog X.w) A (.builtin "min.loop" ⟨[.ref It,.ref f,.ref S],[(Str.ofString "default",.none)]⟩) R s:=by
 have nm:(toString "min"++toString ".loop":String)="min.loop":=by decide
 intro r;induction r with
 |nil =>
  intro j o xs c oi H s dr I io sq hc hh out;have O:ns[j]?=none:=List.getElem?_eq_none_iff.mpr (List.drop_eq_nil_iff.mp dr);apply codeAny_builtin PySem.F.entry_min_loop;rw[show A.under (.builtin "min.loop" ⟨[.ref It,.ref f,.ref S],[(Str.ofString "default",.none)]⟩)=A.in1 from Around.under_plainId Yl _];change wpAny (model X.prog X.w) A.in1 (seqItems? (.ref S) >>= _) _ _ s;apply qc;apply wpAny_seqItems (I.obj (.tail _ (.head _))) rfl;change wpAny (model X.prog X.w) A.in1 (tryCatch (pyNext (.ref It)) _ >>= _) _ _ s;apply qc;apply Ub;refine V_5 (A:=A.in1) hd (yI.more ne) I io sq (λ _ s1 I1=>?_) λ n _ _ _ e=>by rw[O] at e;cases e
  cases hh with
  |no=>exact qc (wpAny_rule (qd (out H s1 .none (I1.sub λ q h=>.tail _ h) (Same.refl _) rfl)))
  |yes b t k q =>
   apply qc;refine ac9 (xs:=#[.int b t,.ref k]) (ys:=#[]) (qj _) (Qw _) yS I1 λ _ s2 I2=>?_;exact qc (wpAny_letGo (qd (out H s2 (.int b t) (I2.sub λ q h=>.tail _ h) (Same.refl _) ⟨t,rfl⟩)))
 |cons n r ih =>
  intro j o xs c oi H s dr I io sq hc hh out;have lt:j<ns.length:=by
   cases Nat.lt_or_ge j ns.length with
   |inl h=>exact h
   |inr h=>rw[List.drop_eq_nil_iff.mpr h] at dr;cases dr
  have two:ns[j]?=some n/\ns.drop (j+1)=r:=by
   rw[List.drop_eq_getElem_cons lt] at dr;injection dr with h1 h2
   exact⟨by rw[Qm lt,h1],h2⟩
  apply codeAny_builtin PySem.F.entry_min_loop;rw[show A.under (.builtin "min.loop" ⟨[.ref It,.ref f,.ref S],[(Str.ofString "default",.none)]⟩)=A.in1 from Around.under_plainId Yl _];change wpAny (model X.prog X.w) A.in1 (seqItems? (.ref S) >>= _) _ _ s;apply qc;apply wpAny_seqItems (I.obj (.tail _ (.head _))) rfl;change wpAny (model X.prog X.w) A.in1 (tryCatch (pyNext (.ref It)) _ >>= _) _ _ s;apply qc;apply Ub;refine V_5 (A:=A.in1) hd (yI.more ne) I io sq (λ e=>by rw[two.1] at e;cases e) λ m t oj s1 e ac I1=>?_;have mn:n=m:=qi (two.1.symm.trans e);subst mn;change wpAny (model X.prog X.w) A.in1 (tryCatch (holding [.int n t] (call (.ref f) [.int n t])) _ >>= _) _ _ s1;apply qc;apply Ub;apply Zz;refine Q6 (key _ H s1 n t I1 (.tail _ (.tail _ fm)) hc) (λ u s2 w=>?_) λ _ _ z=>z.elim;obtain⟨ka,H2,rfl,I2,sm,kq⟩:=w;have I3:Inv X ((S,seqObj "list" xs c)::(It,oj)::ps) σ H2 s2:=I2.sub λ q h=>by
   cases h with
   |head=>exact .tail _ (.head _)
   |tail _ h=>cases h with
    |head=>exact .head _
    |tail _ h=>exact .tail _ (.tail _ h)
  have M:∀ (o':Option Int) (ys:Array Value) (c2:Nat) (Z:Shared),Inv X ((S,seqObj "list" ys c2)::(It,oj)::ps) σ H2 Z → Holds4 X.K g H2 o' ys → w_8 g o (n::r)=w_8 g o' r →
    codeAny (model X.prog X.w) A (.builtin "min.loop" ⟨[.ref It,.ref f,.ref S],[(Str.ofString "default",.none)]⟩) R Z:=λ o' ys c2 Z I4 h4 aa =>
   ih (j+1) o' ys c2 oj H2 Z two.2 (I4.sub λ q h=>by
    cases h with
    |head=>exact .tail _ (.head _)
    |tail _ h=>cases h with
     |head=>exact .head _
     |tail _ h=>exact .tail _ (.tail _ h)) ac (sm.seq sq) (sm _ _ hc) h4 λ H' s' v J ab ov=>out H' s' v J (sm.trans ab) (by rw[aa];exact ov)
  have quiet:(Code.builtin "min.loop" ⟨[.ref It,.ref f,.ref S],[(Str.ofString "default",.none)]⟩).quiet=true:=plainId_quiet Yl _;cases hh with
  |no =>
   apply qc;refine ac9 (xs:=#[]) (ys:=#[.int n t,.ref ka]) (Qw _) (qj _) (yS.more (Zb ne)) I3 λ c2 Z I4=>?_;rw[nm];exact qd ⟨quiet,M (some n) _ c2 Z I4 (.yes n t ka kq) rfl⟩
  |yes b tb kb hb =>
   change wpAny (model X.prog X.w) A.in1 (tryCatch (holding [.int n t,.ref ka] (richCompare .Lt (.ref ka) (.ref kb) >>= _)) _ >>= _) _ _ s2;apply qc;apply Ub;apply Zz;apply qc;refine aw3 hu I2 kq (Fx.Same.seqT sm hb) ?_;apply qc;apply Zz;apply Zg;apply qc;apply wpAny_letGo;apply qd;cases Y:kLt (g n) (g b) with
   |true =>
    rw[if_pos rfl];apply qc;refine ac9 (xs:=#[.int b tb,.ref kb]) (ys:=#[.int n t,.ref ka]) (qj _) (qj _) (yS.more (Zb ne)) I3 λ c2 Z I4=>?_;rw[nm];exact qc (wpAny_letGo (qd ⟨quiet,M (some n) _ c2 Z I4 (.yes n t ka kq) (by rw[w_8,Y,if_pos rfl])⟩))
   |false =>
    rw[if_neg Qi,nm];exact qc (wpAny_letGo (qd ⟨quiet,M (some b) _ c s2 I3 (.yes b tb kb (Fx.Same.seqT sm hb)) (by rw[w_8,Y,if_neg Qi])⟩))
theorem aG9 (a v u:Value):argsOk "min" ⟨[a],[(Str.ofString "key",v),(Str.ofString "default",u)]⟩:=by unfold argsOk;kernel_rfl
theorem aG8 {H:Hp}{s:Shared}{Q:Value->Shared->Prop}{E:Value->Shared->Prop} (hd:A.handled=none) (hu:A.in1.units<cLine) (fm:(f,fo)∈ps) (I:Inv X ps σ H s) (M:SqL X.K H l (ns.map V.int)) (hc:H c'=some (.cod D_0)) (key:be1 X A.in1 σ f c' fo g)
  (out:∀ H' s' v,Inv X ps σ H' s'->Same H H'->bB8 (w_8 g none ns) v->Q v s') :
  wpAny (model X.prog X.w) A (call (.builtin "min") [.ref l] [(Str.ofString "key",.ref f),(Str.ofString "default",.none)]) Q E s:=by
 have nm:(toString "min"++toString ".loop":String)="min.loop":=by decide
 obtain⟨vs,_,Y,_⟩:=I.list M
 let z:Obj:={cls:=.type "list_iterator",data:=.fields #[.ref l,.int 0 0]}
 let h1:=s.heap.push z
 let h2:=h1.push (seqObj "list" #[] 0)
 have up:∀ b u,s.heap.get? b=some u->h2.get? b=some u:=λ b u e=>qf _ (qf _ e);have n1:h1.objs.size=s.heap.objs.size+1:=size_push' ..;have le:s.heap.objs.size<=h1.objs.size:=by rw[n1];exact Nat.le_succ _
 have I0:Inv X ps σ H {s with heap:=h2}:=I.kept (t':=s.toks) up;have put:∀ {qs:List (Addr×Obj)}{a:Addr}{o:Obj},Inv X qs σ H {s with heap:=h2}->s.heap.objs.size<=a->h2.get? a=some o->(∀ v,o.data≠.cell v)->Inv X ((a,o)::qs) σ H {s with heap:=h2}:=λ J h e d =>
  J.pinNew (I.hok.fresh h) e d (Ju (qr I.lt h)) (I.nofs h)
 have I1:=put (put I0 (a:=h1.objs.size) (o:=seqObj "list" #[] 0) le (qk _ rfl) (λ v=>by nofun)) (a:=s.heap.objs.size) (o:=z) (qj _) (qf _ (qk _ rfl)) λ v=>by nofun
 apply kmk_tree PySem.F.kind_min PySem.F.plain_min PySem.F.entry_min (aG9 _ _ _);change wpAny (model X.prog X.w) A.in1 (Builtin.Builtins.bindParams "min" ["key","default"] 0 ⟨[],[(Str.ofString "key",.ref f),(Str.ofString "default",.none)]⟩ >>= _) _ _ s;apply qc;rw[show Builtin.Builtins.bindParams "min" ["key","default"] 0 ⟨[],[(Str.ofString "key",.ref f),(Str.ofString "default",.none)]⟩=pure [some (.ref f),some .none] from rfl];apply qd;apply qc;apply qd;apply qc;apply wpAny_pyIter_list Y.isList;apply qc;refine wpAny_newList (items:=[]) ?_ (Qw sizeLine);rw[nm];apply qd;exact⟨plainId_quiet Yl _,an0 (ns:=ns) hd hu fm (Young.fresh I le) (Young.fresh I (qj _)) (by rw[n1];exact Nat.succ_ne_self _) key _ ns 0 none #[] 0 z H _ rfl I1 ⟨rfl,rfl⟩ M hc .no λ H' s' v J O Z=>out H' s' v J O Z⟩
end
end L2
namespace Fx
open PySem
noncomputable def N_6:List D->Option (List Int)
 |[]=>some []
 |.int i::r=>(N_6 r).map (i::·)
 |_::_=>none
noncomputable def aC7 (n:Int):Int:=if n<0 then -n else n
def nLt (n b:Int):Bool:=if aC7 n=aC7 b then decide (b<n) else decide (aC7 n<aC7 b)
def ae1:Int->List Int->Int
 |b,[]=>b
 |b,n::r=>ae1 (if nLt n b=true then n else b) r
def av4:List Int->D
 |[]=>.non
 |n::r=>.int (ae1 n r)
def af7:List D->Option D
 |[.lst ds]=>(N_6 ds).map av4
 |_=>none
end Fx
namespace Fx
open PySem PySem.Spec PyProof.Rows L2
def T_4 (n:Int):Int×Int:=(aC7 n,-n)
theorem aV8 (n b:Int):kLt (T_4 n) (T_4 b)=nLt n b:=by
 unfold kLt T_4 nLt;rw[HT.lexLt_cons,HT.lexLt_cons,HT.lexLt_nil_nil];by_cases h:aC7 n=aC7 b
 ·rw[if_pos h,if_pos h];by_cases h2:-n=-b
  ·rw[if_pos h2];exact (Qh (by omega)).symm
  ·rw[if_neg h2,decide_eq_decide];omega
 ·rw[if_neg h,if_neg h]
theorem P_0:∀ (l:List Int) (b:Int),w_8 T_4 (some b) l=some (ae1 b l)
 |[],b=>rfl
 |n::r,b=>by
  rw[w_8,aV8,P_0 r];rfl
theorem aH1 (l:List Int) {v:Value} (h:bB8 (w_8 T_4 none l) v):∃ x:V,RelV x v/\∀ (K:Frag) (H:Hp),Rep K H (av4 l) x:=by
 cases l with
 |nil=>exact⟨.non,h,λ K H=>by unfold av4 Rep;rfl⟩
 |cons n r =>
  rw[w_8,P_0] at h;exact⟨.int (ae1 n r),h,λ K H=>by unfold av4;exact g_0 H _⟩
theorem Z_7:∀ {ds:List D}{l:List Int},N_6 ds=some l->ds=l.map D.int
 |[],l,h=>by cases (show some []=some l from h);rfl
 |d::r,l,h=>by
  cases d with
  |int i =>
   unfold N_6 at h;cases e:N_6 r with
   |none=>rw[e] at h;cases h
   |some m =>
    rw[e] at h;cases (show some (i::m)=some l from h);rw[Z_7 e];rfl
  |_=>cases h
theorem ac5 {K:Frag}{H:Hp}:∀ {l:List Int}{vs:List V},Reps K H (l.map D.int) vs->vs=l.map V.int
 |[],vs,h=>by unfold Reps at h;exact h
 |i::r,vs,h=>by
  unfold Reps at h;obtain⟨v,q,rfl,h1,h2⟩:=h;unfold Rep at h1;rw[h1,ac5 h2];rfl
abbrev aZ4:FE:=e_1 (aC (eF bd6 (aC (eV 0) aN)) (aC (e1 Z_6 (eV 0)) aN))
theorem aH3 {X:Cx}{σ:L2.St}{z:Arguments}{body:Expr}{scope:Scope}{f c':Addr}{pm M:Value} (hr:Room 2 X.A) (S:FnScope ["v"] ["v"] scope)
  (hb:∀ (u pm c M:Value),bindArgs (PySem.W.kla_fn "<lambda>" D_0 z body scope [] pm c M) ⟨[u],[]⟩=pure [(Str.ofString "v",u)])
  (O:∀ (f:Addr) (c:Value) (A:Around) (outer:List Env) (s:Shared) (H:Hp) (E:XK),XE (ak0 CX0 X.prog X.w X.K X.mg X.base ["v"] D_0 scope f c A outer s H E) body aZ4) :
  be1 X X.A.in1 σ f c' (P_4 z body scope pm c' M) T_4:=by
 intro pins H s n t I hm hc;have hf:=(I.pin _ (qo _ hm)).1;have hF:aZ4 [.im (.int n)]=some (.tup [.int (aC7 n),.int (-n)],[.im (.int n)]):=by rfl
 refine wpAny_call (codeAny_mono (aT2 (CX:=CX0) (k:=0) (N:=["v"]) (ps:=["v"]) (us:=[.int n t]) (vs:=[.int n]) (Q:=λ v H'=>∃ Y,v=.ref Y ∧ Same H H' ∧ SqT X.K H' Y [.int (T_4 n).1,.int (T_4 n).2]) (E:=E0) hr.in1 I.env0.in1 hf hc S (.of_eq (hb _ _ _ _)) rfl (.cons ⟨t,rfl⟩ .nil)
  λ _=>⟨_,O f (.ref c') X.A.in1 X.stack s H E0,⟨λ _=>none,H,[]⟩,λ _=>none,[.im (.int n)],_,_,RS.start (ds:=[.int n]) (vs:=[.int n]) (m:=0) (n:=1) (λ b o e=>nomatch e) (Reps.one (g_0 _ _)) rfl,hF,λ v H0' H' sm R Z=>?_⟩) λ r s' h=>?_)
 ·unfold Rep at Z;obtain⟨Y,vs,rfl,sq,rr⟩:=Z;have:vs=[.int (aC7 n),.int (-n)]:=ac5 (l:=[aC7 n,-n]) rr;subst this;exact⟨Y,rfl,λ b o e=>R.keep b o e (by simp),Same.seqT R.same sq⟩
 ·cases r with
  |error e=>exact False.elim h
  |ok fl =>
   cases fl with
   |ret u =>
    obtain⟨v,H',I',Z,Y,rfl,sm,sq⟩:=I.after h;exact⟨Y,H',Z,I',sm,sq⟩
   |next=>exact False.elim h
   |brk=>exact False.elim h
   |cont=>exact False.elim h
theorem bw9 {X:Cx}{e:Expr}{A:FA}{M:Arguments}{lb:Expr}{scope:Scope}{ad ai am p pos cp:Pos}{j} (hr:Room 2 X.A) (ag:∃ c,X.env.code=.ref c ∧ PySem.W.codeHdIn X.K c TabP=true) (S:FnScope ["v"] ["v"] scope)
  (hb:∀ (u pm c ab:Value),bindArgs (PySem.W.kla_fn "<lambda>" D_0 M lb scope [] pm c ab) ⟨[u],[]⟩=pure [(Str.ofString "v",u)])
  (aa:∀ (f:Addr) (c:Value) (A:Around) (outer:List Env) (s:Shared) (H:Hp) (E:XK),XE (ak0 CX0 X.prog X.w X.K X.mg X.base ["v"] D_0 scope f c A outer s H E) lb aZ4)
  (hm:X.mg "min"=none) (ha:XA X [e] A) (hq:X.env.qual++"<lambda>"=D_0:=by rfl) (ah:closureFor scope X.env=pure []:=by rfl) (ae:defaultsOf M X.env=([],[]):=by rfl) (hg:Gl X "min":=by rfl)
  (he:backTo pos (starEach [e] X.env)=(false,eval e X.env)::backTo pos (starEach [] X.env):=by rfl) (an:(backTo pos (starEach [e] X.env)).any (·.1)=false:=by rfl) :
  XE X (.Call (.Name "min" p) [e] [⟨some "key",.Lambda M lb scope ad,ai⟩,⟨some "default",.Constant .none j cp,am⟩] pos) (eF af7 A):=by
 intro pins s σ H Q I hQ;obtain⟨c,H0,ρ,d,af,R,z,q⟩:=hQ;unfold eF at z;obtain⟨⟨ds,aj⟩,h1,z⟩:=a_1 z;obtain⟨d',h2,z⟩:=a_1 z;have z':some (d',aj)=some (d,af):=z;cases z';obtain⟨cc,aq,ak⟩:=ag;refine Y5 (P_1 I hg hm (u:=.builtin "min") J6 ?_);refine callWith_kw (thn (ha pos pins s σ H (λ vs H'=>∃ H0',Same H0 H0'/\RS X.K c H0' H' af σ/\Reps X.K H0' ds vs) I ⟨c,H0,ρ,ds,_,R,h1,λ vs H0' H' sm R1 r1=>⟨H0',sm,R1,r1⟩⟩) λ us s1 Y=>?_) he an;obtain⟨vs,Hh,I1,rv,H1,ar,R1,r1⟩:=Y;refine kws_cons (PySem.W.kla_eval ae ?_);rw[hq];refine bo0 I1 aq (PySem.W.codeHd_of_K I1.ok.mod.kin ak) ah λ f c' H2 s2 pm ab I2 ac ao au=>?_;refine kws_cons (thn (aN8 _ s2 σ H2 (λ v H3=>v=.non/\H3=H2) I2 ⟨rfl,rfl⟩) λ u s3 Y=>?_);obtain⟨v3,H3,I3,al,e3,e4⟩:=Y;subst e3 e4;obtain rfl:u=Value.none:=al;refine kws_nil ?_;have hl:∃ (l:Addr) (is:List Int),us=[.ref l]/\SqL X.K Hh l (is.map V.int)/\d=av4 is:=by
  obtain⟨xs,e6,h3⟩:∃ xs,ds=[.lst xs]/\(N_6 xs).map av4=some d:=by
   have O:af7 ds=some d:=h2;unfold af7 at O;split at O
   ·exact⟨_,rfl,O⟩
   ·cases O
  subst e6;cases e5:N_6 xs with
  |none=>rw[e5] at h3;cases h3
  |some is =>
   rw[e5] at h3;have O:av4 is=d:=qi h3;rw[Z_7 e5] at r1;unfold Reps at r1;obtain⟨v,r,rfl,r2,r3⟩:=r1;unfold Reps at r3;subst r3;unfold Rep at r2;obtain⟨l,as,rfl,sq,r4⟩:=r2;rw[ac5 r4] at sq;obtain⟨u,rfl,ru⟩:=D_4 rv;exact⟨l,is,by cases ru;rfl,R1.same.seq sq,O.symm⟩
 obtain⟨l,is,rfl,sq,rfl⟩:=hl;have fin:∀ {v:V}{u:Value}{H4:Hp}{s4:Shared},Inv X ((f,P_4 M lb scope pm c' ab)::pins) σ H4 s4->Same H3 H4->RelV v u->Rep X.K H1 (av4 is) v->EP X pins σ Q u s4:=λ {v u H4 s4} I4 Z ru rp =>
  ⟨v,H4,I4.sub λ q h=>.tail _ h,ru,q v H1 H4 ar (R1.after ⟨Same.refl _,ac.trans Z,R1.same.trans (ac.trans Z),λ b o e=>.inl e⟩) rp⟩
 refine aG8 (X:=X) (A:=X.A) (ns:=is) (g:=T_4) hr.hd ?_ (.head _) I3 (ac.seq sq) ao (aH3 hr S hb aa) λ H4 s4 v I4 Z ov=>?_
 ·have:=hr.units;show X.A.units+1<cLine;omega
 ·obtain⟨x,rx,px⟩:=aH1 is ov;exact fin (v:=x) I4 Z rx (px X.K H1)
theorem bq7 {P:Program}{w:World}{K:Frag}{mg:Str->Option Value}{base:Heap}{x z:Str}{st:Stmt}{f:Addr}{fd:FuncData}{N ps:List Str}{k n m:Nat}{B:FS} (F:Fun K x z st f fd) (S:FnScope N ps (a_0 st)) (hn:ps.length=n) (hN:N.length=n+m)
  (hb:∀ (M:Value) (A:Around) (outer:List Env) (s:Shared) (H:Hp) (E:XK),fd.code=M->Room k (A.deeper (envOfC z (a_0 st) s.heap.objs.size f M))->XSs (ak0 CX0 P w K mg base N z (a_0 st) f M A outer s H E).nox (a_6 st) B) :
  FnOk P w K mg base CX0 (k+1) f fd ps (spP K (fnD n m B)):=by
 obtain⟨oc,od,kV,aa,pm,an,M,ct,ac,rfl,lk,Z⟩:=F.ex;have F':Fun K x z st f (fnOf x z (a_7 st) (a_6 st) (a_0 st) .none kV aa pm an M ct):=F;have Y:∀ {ds:List D}{d:D},fnD n m B ds=some d->ds.length=n/\∃ r,B (ds.map .im++List.replicate m .no)=some r/\bv6 r=some d:=λ {ds d} h=>by
  unfold fnD at h;split at h
  ·rename_i hl;obtain⟨r,h1,h2⟩:=a_1 h;exact⟨hl,r,h1,h2⟩
  ·cases h
 refine bq8 lk Z S (λ vs H Q E h=>?_) λ A outer s H vs Q E hr h=>?_
 ·obtain⟨Hi,ds,d,_,r,e,_⟩:=h;rw[hn,<- r.length];exact (Y e).1
 ·obtain⟨Hi,ds,d,hs,r,e,q⟩:=h;obtain⟨hl,res,h1,h2⟩:=Y e;refine⟨_,PSs.nox (hb M A outer s H E rfl hr),⟨Hi,H,[]⟩,Hi,_,res,RS.start (n:=N.length) (m:=m) hs r (by rw[<- r.length];omega),h1,?_⟩;cases res with
  |nx O =>
   have e':D.non=d:=qi h2;subst e';exact λ ab H0' H' s0 R=>q .non H0' H' R.step (by unfold Rep;rfl)
  |rt d' O =>
   have e':d'=d:=qi h2;subst e';exact λ v ab H0' H' s0 R rv=>q v H0' H' R.step rv
  |bk O=>cases h2
  |ct O=>cases h2
end Fx
namespace L2
open PySem PySem.Spec PyProof.Rows
theorem aw5 {P:Program}{w:World}{K:Frag}{mg mb:Str->Option Value}{CX:CXT}{k:Nat}{fa a cT:Addr}{fd:FuncData}{x:Str}{sp:Sp}{M:Shared}{vs:List Value}{ns:List Int}
  (KX:K.In M.heap) (hT:M.heap.get? TabP=some (PySem.W.tabObj #[])) (av:K.lookup TabP=none) (as:PySem.W.CodeHd M.heap cT TabP) (ag:M.heap.Ns mainGlobals mg) (O:M.heap.Ns builtinsNs mb) (ax:∀ x:Str,x≠"__name__" → mb x=bootBuiltins x) (aj:M.heap.NoLimit) (hg:M.gens=#[])
  (ar:∃ bm ob,mg "__builtins__"=some (.ref bm) ∧ bm≠builtinsNs ∧ M.heap.get? bm=some ob ∧ ob.cls=.type "module" ∧ ob.dict=some builtinsNs ∧ ob.data=.plain)
  (ha:M.heap.get? a=some {cls:=.type "list",data:=.seq vs.toArray}) (hi:IntsAre vs ns) (hl:ns.length ≤ sizeLine) (hr:Room k callerA)
  (F:∀ base:Heap,K.In base->base.Ns mainGlobals mg->FnOk P w K mg base CX k fa fd [x] sp) (ad:∀ (s:Shared) (u:Value),BindsTo s fd ⟨[u],[]⟩ [(x,u)])
  (aw:∀ H:Hp,SqL K H a (ns.map V.int)->sp [.ref a] H (λ v _=>v=.bl true) λ _ _ _=>False)
  (aq:∀ H e s',CX [] H M (λ _ _ _=>False) e s'->False) :
  codeAny (model P w) callerA (.call (.ref fa) ⟨[.ref a],[]⟩) (λ r s'=>r=.ok (.ret (.bool true))/\OldK M.heap s'.heap/\s'.os=M.os/\AllBare s'.gens) M:=by
 have rv:=V_2 hi;have am:=hi.length;have af:a≠TabP:=λ e=>by rw[e,hT] at ha;cases ha
 have ac:∀ H:Hp,H TabP=some (.tbl D_0)->(∀ b,b≠TabP->H b=none\/∃ o xs,H b=some (.frz o (.lst xs)))->SqL K H a (ns.map V.int)->HOk P w H M.heap->(∀ b,H b≠none->b=a\/b=TabP)->(H a≠none->K.lookup a=none) ->
   codeAny (model P w) callerA (.call (.ref fa) ⟨[.ref a],[]⟩) (λ r s'=>r=.ok (.ret (.bool true))/\OldK M.heap s'.heap/\s'.os=M.os/\AllBare s'.gens) M:=by
  intro H ai hO hS al hA hK;have Y:∀ {b:Addr}{o:Obj},M.heap.get? b=some o->H b=none->(aH9 M.heap H).get? b=some o:=λ e n=>aH8 e n;have ae:∀ {b:Addr}{o:Obj},M.heap.get? b=some o->(∀ it n,o.data≠.seq it n)->(∀ it,o.data≠.fields it)->H b=none:=λ {b o} e d1 d2=>by
   cases q:H b with
   |none=>rfl
   |some u =>
    rcases hA b (by rw[q];simp) with e' | e'
    ·subst e';rw[ha] at e;cases e;exact absurd rfl (d1 _ _)
    ·subst e';rw[hT] at e;cases e;exact absurd rfl (d2 _)
  have au:∀ {b:Addr}{o:Obj}{es:Array DictEntry}{ep:Nat},M.heap.get? b=some o->o.data=.dict es ep->H b=none:=λ {b o es ep} e d=>ae e (by rw[d];nofun) (by rw[d];nofun);have aa:∀ {b:Addr}{m:Str->Option Value},M.heap.Ns b m->(aH9 M.heap H).Ns b m:=λ {b m} ⟨o,es,ep,e,d,r⟩=>⟨o,es,ep,Y e (au e d),d,r⟩
  have ah:K.In (aH9 M.heap H):=λ b o e=>Y (KX b o e) (by
   cases q:H b with
   |none=>rfl
   |some u =>
    rcases hA b (by rw[q];simp) with e' | e'
    ·subst e';rw[hK (by rw[q];simp)] at e;cases e
    ·subst e';rw[av] at e;cases e)
  obtain⟨bm,ob,b1,b2,b3,b4,b5,b6⟩:=ar;have hM:Mod K mg (aH9 M.heap H):=⟨ah,aa ag,⟨mb,aa O,ax⟩,(let ⟨mc,h1,h2⟩:=aj;⟨mc,aa h1,h2⟩),⟨bm,ob,b1,b2,Y b3 (ae b3 (by rw[b6];nofun) (by rw[b6];nofun)),b4,b5,b6⟩⟩;have e0:Env0 P w K mg (aH9 M.heap H) callerA [] M H:=⟨rfl,hM,λ b o e=>aV6 e,Nat.le_of_eq (ax5 _ _),trivial,λ b O=>absurd (show b∈([]:List Addr) from O) (by simp),al,.of_eq hg,ai⟩;refine codeAny_mono ((F _ ah (aa ag)).run callerA [] M H ⟨[.ref a],[]⟩ [.ref a] [.ref a] _ _ hr e0 (ad M (.ref a)) (.cons rfl .nil) (aw H hS)) λ r s' h=>?_;cases r with
  |error e=>exact (aq H e s' h).elim
  |ok fl =>
   cases fl with
   |next=>exact False.elim h
   |brk=>exact False.elim h
   |cont=>exact False.elim h
   |ret u =>
    obtain⟨v,H',os,ao,un,ab,r',q⟩:=h;have q':v=.bl true:=q;subst q';obtain rfl:u=Value.bool true:=r';obtain⟨ps,hP,_⟩:=(show ObjOk P w H' s'.heap TabP (.tbl D_0) from ab _ _ (un.tbls _ _ ai));have keep:∀ b o,b≠TabP->M.heap.get? b=some o->s'.heap.get? b=some o:=λ b o O e=>by
     cases q:H b with
     |none=>exact un.keep b o e q (by intro z;exact absurd (show b∈([]:List Addr) from z) (by simp)) (by simp)
     |some u =>
      rcases hO b O with z | ⟨ob,xs,z⟩
      ·rw[q] at z;cases z
      ·have z2:=un.frzs b ob _ z;obtain⟨e1,_⟩:=al b _ z;obtain⟨e2,_⟩:=ab b _ z2;rw[e] at e1;cases e1;exact e2
    refine⟨rfl,⟨λ b o e=>?_,λ b o e=>?_⟩,os,ao⟩
    ·by_cases O:b=TabP
     ·subst O;rw[hT] at e;cases e;exact .inr (.inl ⟨(as.tab hT).isCodeTable,rfl,#[],ps,rfl,by rw[Array.empty_append];exact hP⟩)
     ·exact .inl (keep b o O e)
    ·by_cases O:b=TabP
     ·subst O;exact⟨_,hP⟩
     ·exact⟨o,keep b o O e⟩
 have ak:∀ H:Hp,ObjOk P w H M.heap TabP (.tbl D_0):=λ H=>⟨#[],hT,trivial,λ pos=>.inl rfl⟩
 cases hk:K.lookup a with
 |some o =>
  have e:=KX a o hk;rw[ha] at e;cases e;refine ac (λ b=>if b=TabP then some (.tbl D_0) else none) (if_pos rfl) (λ b O=>.inl (if_neg O)) (.inr ⟨_,vs.toArray,_,hk,rfl,rfl,rfl,by rw[Qb,am];exact hl,by simpa using rv⟩) (λ b u z=>?_) (λ b z=>?_) λ z=>absurd (if_neg af) z
  ·by_cases O:b=TabP
   ·have z':=(if_pos O).symm.trans z;cases z';subst O;exact ak _
   ·have z':=(if_neg O).symm.trans z;cases z'
  ·by_cases O:b=TabP
   ·exact .inr O
   ·exact absurd (if_neg O) z
 |none =>
  refine ac (λ b=>if b=TabP then some (.tbl D_0) else if b=a then some (.frz {cls:=.type "list",data:=.seq vs.toArray} (.lst (ns.map V.int))) else none) (if_pos rfl) (λ b O=>?_) (.inl (.inr ⟨{cls:=.type "list",data:=.seq vs.toArray},(if_neg af).trans (if_pos rfl)⟩)) (λ b u z=>?_) (λ b z=>?_) λ _=>hk
  ·by_cases an:b=a
   ·exact .inr ⟨_,_,(if_neg O).trans (if_pos an)⟩
   ·exact .inl ((if_neg O).trans (if_neg an))
  ·by_cases Z:b=TabP
   ·have z':=(if_pos Z).symm.trans z;cases z';subst Z;exact ak _
   ·by_cases O:b=a
    ·have z':=((if_neg Z).trans (if_pos O)).symm.trans z;cases z';subst O;exact⟨ha,by rw[Qg];exact hl,vs,_,rv,ha⟩
    ·have z':=((if_neg Z).trans (if_neg O)).symm.trans z;cases z'
  ·by_cases Z:b=TabP
   ·exact .inr Z
   ·by_cases O:b=a
    ·exact .inl O
    ·exact absurd ((if_neg Z).trans (if_neg O)) z
theorem walk_of2 {l:OpenLaw}{n k:Nat}{q:Program}{O:List Str}{XP:(Str->Option Value)->Heap->Prop}{YP:World->Heap->Prop}{d:DefRec}{K:Params->Frag}{CX:World->CXT}{sp:World->Sp}{x:Str}
  (hn:l.most=some n) (ac:n<=sizeLine) (af:d.params.defaults=[]) (hr:Room k callerA)
  (hY:∀ (w:World) (h:Heap),YP w h->(K w.params).In h) (ab:∀ (w:World) (h:Heap),YP w h->h.get? TabP=some (PySem.W.tabObj #[])) (ag:∀ w:World,(K w.params).lookup TabP=none) (hC:∀ w:World,∃ c,PySem.W.codeHdIn (K w.params) c TabP=true)
  (F:∀ (w:World) (mg:Str->Option Value) (fa:Addr) (h:Heap),(K w.params).In h->h.Ns mainGlobals mg->mg d.name=some (.ref fa) ->
   ∃ fd:FuncData,(∀ (s:Shared) (u:Value),BindsTo s fd ⟨[u],[]⟩ [(x,u)]) /\
    ∀ base:Heap,(K w.params).In base->base.Ns mainGlobals mg->FnOk l.prog w (K w.params) mg base (CX w) k fa fd [x] (sp w))
  (ah:∀ (w:World) (H:Hp) (a:Addr) (ns:List Int),ns.length<=n->SqL (K w.params) H a (ns.map V.int)->sp w [.ref a] H (λ v _=>v=.bl true) λ _ _ _=>False)
  (ae:∀ (w:World) (H:Hp) (s:Shared) (e:Value) (s':Shared),CX w [] H s (λ _ _ _=>False) e s'->False) :
  PySem.W.WalkO q O XP YP l.row.toRowW d [] (λ f vs=>PySem.call f vs):=by
 refine Att.attach_call hn af λ w s₀ aa mg mb fa o pm cd aj a vs ns G Y ho hd ai ad Z M z hg=>?_;have KX:=hY w _ Y;obtain⟨fd,hb,hF⟩:=F w mg fa _ KX G.T.g ad;obtain⟨c,hc⟩:=hC w;exact aw5 KX (ab w _ Y) (ag w) (PySem.W.codeHd_of_K KX hc) G.T.g G.T.b G.T.builtins G.T.nolimit hg G.T.bmain Z M (Qq z ac) hr hF hb (λ H hS=>ah w H a ns z hS) λ H e s'=>ae w H aa e s'
end L2
namespace Fx
open PySem
noncomputable def ap0:D->D->Option D
 |.tup a,.tup b=>if a.length+b.length<=1000/\0<b.length then some (.tup (a++b)) else none
 |_,_=>none
@[simp] theorem bI2 (a b:List D):ap0 (.tup a) (.tup b)=if a.length+b.length<=1000/\0<b.length then some (.tup (a++b)) else none:=zR rfl
noncomputable def aL0:List D->Option D
 |[.int a,.int b,.int c]=>some (.int (if b > a then (if c > b then c else b) else (if c > a then c else a)))
 |_=>none
@[simp] theorem bR1 (a b c:Int):aL0 [.int a,.int b,.int c]=some (.int (if b > a then (if c > b then c else b) else (if c > a then c else a))):=zR rfl
end Fx
namespace Fx
open PySem PySem.Spec PyProof.Rows L2
section
variable {X:Cx}
def bj9 (K:Frag):R2:=λ x y H Q=>∃ a b xs ys,x=.ref a/\y=.ref b/\SqT K H a xs/\SqT K H b ys/\ys≠[]/\xs.length+ys.length<=sizeLine/\(xs=[]->Q (.ref b) H)/\(xs≠[]->∀ p,H p=none->Q (.ref p) (upd H p (.tup (xs++ys))))
theorem aF9:OpR X (binaryOp .Add) (bj9 X.K):=by
 intro pins s σ H x y v u Q I rx ry h;obtain⟨a,b,xs,ys,rfl,rfl,ha,hb,hy,hz,q1,q2⟩:=h;by_cases hx:xs=[]
 ·cases rx;cases ry;obtain⟨ae,r1,p1,_⟩:=I.tuple ha;obtain⟨Z,r2,p2,_⟩:=I.tuple hb;subst hx;cases r1;obtain⟨⟨cls,dd,data,sl⟩,ho,hc,n,hd⟩:=id p1;obtain⟨⟨ad,aa,ac,ab⟩,M,Y,n2,O⟩:=id p2;simp only at hc hd Y O;subst hc hd Y O;exact concat_meets ⟨_,ho,rfl⟩ ⟨_,M,rfl⟩ noFill_tuple_add seq_tuple_add Jt Jo (Jj _ _) (tuple_addW0 a b #[] Z.toArray n n2 dd aa sl ab (by simp)) ⟨ho,M,.ref b,H,I,rfl,q1 rfl⟩
 ·exact aV3 pins s σ H (.ref a) (.ref b) v u Q I rx ry ⟨a,b,xs,ys,rfl,rfl,ha,hb,hx,hz,λ z=>absurd z hy,λ _=>q2 hx⟩
theorem bn3:U_5 X .Add ap0:=⟨_,aF9,λ c H0 H ρ σ x y d vx vy Q R r1 M e q=>by
 cases x with
 |tup Y =>
  cases y with
  |tup bs =>
   obtain⟨⟨hl,hb⟩,rfl⟩:=ifs (show (if Y.length+bs.length<=1000/\0<bs.length then some (D.tup (Y++bs)) else none)=some d from e);have O:=M;unfold Rep at r1 M;obtain⟨a,xs,rfl,s1,t1⟩:=r1;obtain⟨b,ys,rfl,s2,Z⟩:=M;have big:(1000:Nat)<=sizeLine:=by decide
   have l1:=t1.length;have l2:=Z.length;refine⟨a,b,xs,ys,rfl,rfl,Same.seqT R.same s1,Same.seqT R.same s2,λ z=>?_,by omega,λ z=>?_,λ _ p hp=>?_⟩
   ·rw[z,Yj] at l2;omega
   ·have:Y=[]:=by rw[z,Yj] at l1;exact List.length_eq_zero_iff.mp l1
    subst this;exact q _ H0 H (Same.refl _) R O
   ·have S:=Step.alloc (o:=.tup (xs++ys)) R.same hp;refine q _ _ _ S.s0 (R.after S) ?_;unfold Rep;exact⟨p,_,rfl,.inl (.inl a_8),Reps.mono S.s0 _ (t1.app Z)⟩
  |_=>cases e
 |_=>cases y <;> cases e⟩
theorem az9 (Y:X.calm=true):CallR X (.builtin "max") (λ xs H Q=>∃ i j k,xs=[.int i,.int j,.int k] ∧ Q (.int (if j > i then (if k > j then k else j) else (if k > i then k else i))) H):=by
 intro pins s σ H xs us Q I r h;obtain⟨i,j,k,rfl,q⟩:=h;obtain⟨u,z,rfl,⟨t,rfl⟩,Z⟩:∃ u z,us=u::z/\RelV (.int i) u/\Vals [.int j,.int k] z:=by cases r with | cons a b=>exact⟨_,_,rfl,a,b⟩
 obtain⟨u',w',rfl,⟨t',rfl⟩,⟨t2,rfl⟩⟩:=aq6 Z;refine max_three_ints (I.ok.hd Y) λ h' tk M=>⟨_,H,I.kept M,?_,q⟩
 by_cases h1:j > i <;> by_cases h2:k > j <;> by_cases O:k > i <;> simp only[h1,h2,O,Uo,Up] <;> exact⟨_,rfl⟩
theorem aK3 (Y:X.calm=true):BOk X (.builtin "max") aL0:=⟨_,az9 Y,λ c H0 H ρ σ ds d vs Q R r e q=>by
 unfold aL0 at e;split at e
 ·cases e;obtain⟨v,z,rfl,O,r⟩:∃ v z,vs=v::z/\_/\_:=by unfold Reps at r;exact r
  obtain⟨v2,Z,rfl,M,r3⟩:=Reps.v2 r;unfold Rep at O M r3;subst O M r3;exact⟨_,_,_,rfl,q _ H0 H (Same.refl _) R (g_0 _ _)⟩
 ·cases e⟩
end
end Fx
namespace L2
open PySem PySem.Spec PyProof.Rows
section
variable {X:Cx}{x x2:Str}{scope sc:Scope}{frees:List Str}{js:List Nat}{elt iter:Expr}{ifs:List Expr}{px px2 pt pos:Pos}{kt:Nat}{tt:TT}{te:TE}
def aR8 (K:Frag) (i:Nat) (z:TI) (js:List Nat) (tt:TT) (te:TE):TS:=λ D σ H=>z σ H (bJ0 K js tt te σ λ ys H'=>∀ a,H' a=none->D.nx (σ.set i (some (.ref a))) (upd H' a (.lst ys)))
theorem at3 {wi:TI}{i:Nat}{y:Str}{py M:Pos} (hN:X.N.Nodup) (ad:X.N[i]?=some y) (hy:X.env.scope.names.lookup y=some .local) (hc:X.calm=true) (Y:X.env.scope=sc) (B:ScB X.N sc scope x frees js) (Z:scope.names.lookup x2=some .local) (ae:(x::x2::frees).Nodup) (hi:PI X (.Tuple [.Name x px,.Name x2 px2] kt pt) iter wi)
  (ht:∀ s H C fp,PTs (cxB X (x::x2::frees) scope s H C fp) ifs tt) (he:∀ s H C fp,PE (cxB X (x::x2::frees) scope s H C fp) elt te)
  (ab:swapsWith (.ListComp elt [⟨.Tuple [.Name x px,.Name x2 px2] kt pt,iter,ifs,0⟩] scope pos) (some (.Name y py)) M.line X.env=pure true:=by rfl)
  (hs:∀ v,foldedSetIterable iter X.env v=pure v:=by intro _;rfl):PS X (.Assign [.Name y py] (.ListComp elt [⟨.Tuple [.Name x px,.Name x2 px2] kt pt,iter,ifs,0⟩] scope pos) M) (aR8 X.K i wi js tt te):=by
 intro pins s σ H D I h;rw[exec_Assign_Name_used _ _ _ _ ab];refine qc (Ui (qc ?_));show wpAny _ X.A (do let _ <- comprehension (.ListComp elt [⟨.Tuple [.Name x px,.Name x2 px2] kt pt,iter,ifs,0⟩] scope pos) scope X.env _ (newList []) false (eval iter X.env) (some (assign (.Name y py) X.env))) _ _ s;refine qc (Q6 (Jg (use:=some (assign (.Name y py) X.env)) (Q:=λ _ s'=>SP X pins D .next s') rfl hs (E_3 (P_2 I Y B)) B.kind B.locs
  (thn (hi pins s σ H _ I h) λ v s1 h1=>thn h1 λ aj s2 h2=>?_)) (λ _ s' q=>qd (qd q)) λ _ _ z=>z)
 obtain⟨it,fp,tn,J,H2,e,O,T,af,f2,hW⟩:=h2;subst e;refine aX0 (RR:=λ ah C=>compPost (model X.prog X.w) X.A X.xe (some (assign (.Name y py) X.env)) (λ _ s'=>SP X pins D .next s') ah C) O hc Y B Z ae T af f2 hW ht he ?_;intro a C s' H' ys ai n hD hC ac J' nD rv gD hz q;have A1:=S_9 O f2 hD (aY1 J') nD rv gD hz;have nC:(upd H' a (.lst ys)) C=none:=by rw[a_4 (Zb ac)];exact J'.free
 obtain⟨m,hn,_⟩:=J'.loc;have hL:C≠X.env.locals:=aj2 O.lt hC;show wpAny _ X.A (assign (.Name y py) X.env (.ref a)) _ _ s';refine wpAny_assign_Name (H_5 A1 hN ad (.inl hy) (v:=.ref a) rfl (λ s3 I3 aa=>?_) (.inr hy));obtain⟨b,sb,hb⟩:=aa;have nb:C≠b:=by
  rcases hb with z | z
  ·rw[z];exact hL
  ·intro e;obtain⟨v,q'⟩:=O.cell y b z;exact v_8 q'.lt hC e.symm
 obtain⟨o,es,ep,ho,r⟩:=hn;refine⟨m,⟨o,es,ep,(sb.2 C nb).trans ho,r⟩,λ h' ag=>?_⟩;exact⟨_,_,aX3 O I3 hC nC ag,q a nD⟩
end
end L2
namespace Fx
open PySem PySem.Spec PyProof.Rows L2
section
variable {X:Cx}{x x2:Str}{scope sc:Scope}{frees:List Str}{js:List Nat}{elt iter:Expr}{ifs:List Expr}{px px2 pt pos:Pos}{kt:Nat}{I F:FE}{T:FT}
theorem aQ8 (i:Nat) {y:Str}{py M:Pos} (hN:X.N.Nodup) (hc:X.calm=true) (aa:X.env.scope=sc) (B:ScB2 X.N sc scope x x2 frees js) (hi:XE X iter I) (ht:∀ s H C fp,XTs (cxB X (x::x2::frees) scope s H C fp) ifs T) (he:∀ s H C fp,XE (cxB X (x::x2::frees) scope s H C fp) elt F)
  (Z:X.N[i]?=some y:=by rfl) (hy:X.env.scope.names.lookup y=some .local:=by rfl)
  (Y:swapsWith (.ListComp elt [⟨.Tuple [.Name x px,.Name x2 px2] kt pt,iter,ifs,0⟩] scope pos) (some (.Name y py)) M.line X.env=pure true:=by rfl)
  (hs:∀ v,foldedSetIterable iter X.env v=pure v:=by intro _;rfl):XS X (.Assign [.Name y py] (.ListComp elt [⟨.Tuple [.Name x px,.Name x2 px2] kt pt,iter,ifs,0⟩] scope pos) M) (c_8 i (bs0 js I T F)) :=
 PS.wk (at3 (tt:=tTt X.K T) (te:=tE X.K F) hN Z hy hc aa B.B B.own2 B.nd2 (aF3 hi) ht he Y hs) λ Dn σ H O=>by
  obtain⟨c,H0,ρ,r,R,f,q⟩:=O;unfold c_8 at f;obtain⟨⟨d,ab⟩,h0,f⟩:=a_1 f;have f':some (Res.nx (ab.set i (.im d)))=some r:=f;cases f';unfold bs0 at h0;obtain⟨⟨z,ac⟩,h1,f⟩:=a_1 h0;obtain⟨xs,h2,f⟩:=a_1 f;obtain⟨fr,h3,f⟩:=a_1 f;obtain⟨ys,h4,f⟩:=a_1 f;obtain⟨hz,f⟩:=Fx.ifs f;cases f;refine u_0 R h1 h2 λ J H1 Hh s1 R1 hy=>?_;refine aX1 R1 h3 h4 hz hy λ vs H2 Hh2 s2 R2 r2=>λ p hp=>?_;have S:=Step.alloc (o:=.lst vs) R2.same hp;refine q _ _ _ (s1.trans (s2.trans S.s0)) ((R2.after S).set i ?_);unfold Rep;exact⟨p,vs,rfl,.inl (.inl a_8),Reps.mono S.s0 _ r2⟩
end
end Fx
namespace Fx
open PySem
noncomputable section
def aK8:FS :=
 (b_7 (sIf (tOr (tNot (tV (eTy .str (eV 0)))) (tNot (tB (e3 dLe dLe (zI 1) (eF aa9 (aC (eV 0) aN)) (zI 8)))))
 (e_5 (eC (.bl false)))
 sN)
 (e_5 (eF bI7 (aC (eLC [] (eV 0) tYes (e2 bc6 (eV 0) (zT "abcdefghijklmnopqrstuvwxyz"))) aN))))
def C_0:List D->Option D:=fnD 1 0 aK8
def B_3:FS :=
 (e_5 (e2 dEq (e2 bc6 (eV 1) (e2 a_9 (eV 0) (zI 1))) (e2 dEq (e2 a_9 (eV 0) (zI 0)) (zT "only"))))
def e_9:List D->Option D:=fnD 2 0 B_3
def w_1:List D->Option D:=fnD 2 1 λ _=>none
def U_2:FS :=
 (b_7 (sIf (tAnd (tB (e2 dEq (e2 a_9 (eV 0) (zI 0)) (zT "but"))) (tB (e2 dEq (e2 a_9 (eV 1) (zI 0)) (zT "but"))))
 (e_5 Z_4)
 sN)
 (b_7 (sIf (tB (e2 dEq (e2 a_9 (eV 0) (zI 0)) (zT "but")))
 (e_5 (eF w_1 (aC (eV 1) (aC (eV 0) aN))))
 sN)
 (b_7 (c_8 2 (eF ak9 (aC (eLC [1] (e2 a_9 (eV 0) (zI 1)) (tV (eF e_9 (aC (eV 1) (aC (eV 0) aN)))) (eV 0)) aN)))
 (e_5 (eIf (tV (eV 2)) (e_1 (aC (zT "only") (aC (eV 2) aN))) (eC .non))))))
def w_0:List D->Option D:=fnD 2 1 U_2
def af5:FS :=
 (b_7 (sIf (tAnd (tB (e2 dEq (e2 a_9 (eV 0) (zI 0)) (zT "but"))) (tB (e2 dEq (e2 a_9 (eV 1) (zI 0)) (zT "but"))))
 (e_5 Z_4)
 sN)
 (b_7 (sIf (tB (e2 dEq (e2 a_9 (eV 0) (zI 0)) (zT "but")))
 (e_5 (eF w_0 (aC (eV 1) (aC (eV 0) aN))))
 sN)
 (b_7 (c_8 2 (eF ak9 (aC (eLC [1] (e2 a_9 (eV 0) (zI 1)) (tV (eF e_9 (aC (eV 1) (aC (eV 0) aN)))) (eV 0)) aN)))
 (e_5 (eIf (tV (eV 2)) (e_1 (aC (zT "only") (aC (eV 2) aN))) (eC .non))))))
def r_3:List D->Option D:=fnD 2 1 af5
def h_1:FS :=
 (b_7 (sIf (tNot (tB (e3 dLe dLt (zI 0) (eV 3) (eV 2))))
 (e_5 (eC .non))
 sN)
 (b_7 (c_8 4 (eIf (tB (e2 dIs (eV 0) (eC .non))) (eC .non) (e2 y_8 (eV 0) (e2 u_3 (e2 Z_5 (eV 3) (eV 0)) (eV 2)))))
 (b_7 (c_8 5 (eIf (tB (e2 dIs (eV 1) (eC .non))) (eC .non) (e2 Z_5 (eV 1) (e2 u_3 (e2 Z_5 (eV 1) (eV 3)) (eV 2)))))
 (b_7 (sIf (tOr (tB (e2 dIs (eV 4) (eC .non))) (tB (e2 dIs (eV 5) (eC .non))))
 (e_5 (e_1 (aC (eV 4) (aC (eV 5) (aC (eV 2) (aC (eV 3) aN))))))
 sN)
 (b_7 (sIf (tB (e2 dGt (eV 4) (eV 5)))
 (e_5 (eC .non))
 sN)
 (b_7 (sIf (tB (e2 dEq (eV 4) (eV 5)))
 (e_5 (e_1 (aC (eV 4) (aC (eV 5) (aC (zI 1) (aC (zI 0) aN))))))
 sN)
 (e_5 (e_1 (aC (eV 4) (aC (eV 5) (aC (eV 2) (aC (eV 3) aN))))))))))))
def a_2:List D->Option D:=fnD 4 2 h_1
def l_5:FS :=
 (e_5 (aJ4 (eOr (e2 dIs (eV 1) (eC .non)) (e2 dLe (eV 1) (eV 0))) (eOr (e2 dIs (eV 2) (eC .non)) (e2 dLe (eV 0) (eV 2)))))
def d_7:List D->Option D:=fnD 3 0 l_5
def i_7:FS :=
 (e_5 (aJ4 (eF d_7 (aC (eV 1) (aC (e2 a_9 (eV 0) (zI 0)) (aC (e2 a_9 (eV 0) (zI 1)) aN)))) (e2 dEq (e2 u_3 (eV 1) (e2 a_9 (eV 0) (zI 2))) (e2 a_9 (eV 0) (zI 3)))))
def b_9:List D->Option D:=fnD 2 0 i_7
def g_8:FS :=
 (b_7 (sIf (tOr (tB (e2 dIs (eV 0) (eC .non))) (tB (e2 dIs (eV 1) (eC .non))))
 (e_5 (eIf (tB (e2 dIs (eV 0) (eC .non))) (eV 1) (eV 0)))
 sN)
 (e_5 (eF aB5 (aC (eV 0) (aC (eV 1) aN)))))
def c_4:List D->Option D:=fnD 2 0 g_8
def f_2:FS :=
 (b_7 (sIf (tOr (tB (e2 dIs (eV 0) (eC .non))) (tB (e2 dIs (eV 1) (eC .non))))
 (e_5 (eIf (tB (e2 dIs (eV 0) (eC .non))) (eV 1) (eV 0)))
 sN)
 (e_5 (eF bd4 (aC (eV 0) (aC (eV 1) aN)))))
def b_2:List D->Option D:=fnD 2 0 f_2
def c_7:FS :=
 (e_5 (eF a_2 (aC (eF c_4 (aC (e2 a_9 (eV 0) (zI 0)) (aC (eV 1) aN))) (aC (eF b_2 (aC (e2 a_9 (eV 0) (zI 1)) (aC (eV 2) aN))) (aC (e2 a_9 (eV 0) (zI 2)) (aC (e2 a_9 (eV 0) (zI 3)) aN))))))
def a_5:List D->Option D:=fnD 3 0 c_7
def t_7:FS :=
 (e_5 (eF a_5 (aC (eV 0) (aC (e2 y_8 (eV 1) (zI 1)) (aC (eC .non) aN)))))
def c_2:List D->Option D:=fnD 2 0 t_7
def t_6:FS :=
 (e_5 (eF a_5 (aC (eV 0) (aC (eC .non) (aC (e2 Z_5 (eV 1) (zI 1)) aN)))))
def c_1:List D->Option D:=fnD 2 0 t_6
def q_2:FS :=
 (b_7 (c_8 3 (eLC [2,1] (aI7 (eV 0) oN (oS (zI 2))) tYes (eIf (tB (e2 dIs (eV 0) (eC .non))) (eC .non) (e2 y_8 (e2 T_8 (eV 2) (eV 0)) (eV 1)))))
 (b_7 (sIf (tB (e2 dLt (eV 1) (zI 0)))
 (c_8 3 (x_6 (aC (e2 a_9 (eV 3) (zI 1)) (aC (e2 a_9 (eV 3) (zI 0)) aN))))
 sN)
 (b_7 (c_8 4 (e2 T_8 (eF bd6 (aC (eV 1) aN)) (e2 a_9 (eV 0) (zI 2))))
 (e_5 (eF a_2 (aC (e2 a_9 (eV 3) (zI 0)) (aC (e2 a_9 (eV 3) (zI 1)) (aC (eV 4) (aC (e2 u_3 (e2 y_8 (e2 T_8 (eV 1) (e2 a_9 (eV 0) (zI 3))) (eV 2)) (eV 4)) aN)))))))))
def b_8:List D->Option D:=fnD 3 2 q_2
abbrev x_4:FS :=
 (b_7 (c_8 6 (e2 v_6 (eV 2) (eV 4)))
 (b_7 (c_8 7 (e2 Z_5 (eV 2) (e2 T_8 (eV 6) (eV 4))))
 (b_7 (c_8 2 (eV 4))
 (b_7 (c_8 4 (eV 7))
 (b_7 (c_8 7 (e2 Z_5 (eV 3) (e2 T_8 (eV 6) (eV 5))))
 (b_7 (c_8 3 (eV 5))
 (c_8 5 (eV 7))))))))
abbrev x_3:FT :=
 (tB (e2 dNe (eV 4) (zI 0)))
def z_3:FS :=
 (b_7 (c_8 2 (e2 u_3 (eV 0) (eV 1)))
 (b_7 (c_8 3 (zI 1))
 (b_7 (c_8 4 (eV 1))
 (b_7 (c_8 5 (zI 0))
 (b_7 (aN1 (λ ρ=>match ρ[1]? with | some (Sl.im (D.int m))=>m.toNat+2 | _=>0) x_3
 x_4)
 (e_5 (e_1 (aC (eV 2) (aC (eV 3) aN)))))))))
def f_1:List D->Option D:=fnD 2 6 z_3
def f_6:FS :=
 (b_7 (sIf (tB (e2 dEq (eV 1) (zI 0)))
 (e_5 (eIf (tV (eF b_9 (aC (eV 0) (aC (eV 2) aN)))) (eC (.tup [.non,.non,(.int 1),(.int 0)])) (eC .non)))
 sN)
 (b_7 (c_8 3 (eF f_1 (aC (eV 1) (aC (e2 a_9 (eV 0) (zI 2)) aN))))
 (b_7 (c_8 4 (e2 a_9 (eV 3) (zI 0)))
 (b_7 (c_8 5 (e2 Z_5 (e2 a_9 (eV 0) (zI 3)) (eV 2)))
 (b_7 (sIf (tB (e2 dNe (e2 u_3 (eV 5) (eV 4)) (zI 0)))
 (e_5 (eC .non))
 sN)
 (b_7 (c_8 6 (e2 v_6 (e2 a_9 (eV 0) (zI 2)) (eV 4)))
 (b_7 (c_8 7 (eIf (tB (e2 dGt (eV 1) (zI 0))) (x_6 (aC (e2 a_9 (eV 0) (zI 0)) (aC (e2 a_9 (eV 0) (zI 1)) aN))) (x_6 (aC (e2 a_9 (eV 0) (zI 1)) (aC (e2 a_9 (eV 0) (zI 0)) aN)))))
 (b_7 (c_8 8 (eIf (tB (e2 dIs (e2 a_9 (eV 7) (zI 0)) (eC .non))) (eC .non) (e1 Z_6 (e2 v_6 (e2 Z_5 (eV 2) (e2 a_9 (eV 7) (zI 0))) (eV 1)))))
 (b_7 (c_8 9 (eIf (tB (e2 dIs (e2 a_9 (eV 7) (zI 1)) (eC .non))) (eC .non) (e2 v_6 (e2 Z_5 (e2 a_9 (eV 7) (zI 1)) (eV 2)) (eV 1))))
 (e_5 (eF a_2 (aC (eV 8) (aC (eV 9) (aC (eV 6) (aC (e2 u_3 (e2 T_8 (e2 v_6 (eV 5) (eV 4)) (e2 a_9 (eV 3) (zI 1))) (eV 6)) aN)))))))))))))))
def b_0:List D->Option D:=fnD 3 7 f_6
def n_6:FS :=
 (b_7 (c_8 2 (eF b_0 (aC (eV 1) (aC (e2 a_9 (eV 0) (zI 2)) (aC (e2 a_9 (eV 0) (zI 3)) aN)))))
 (b_7 (sIf (tB (e2 dIs (eV 2) (eC .non)))
 (e_5 (eC .non))
 sN)
 (e_5 (eF a_5 (aC (eF b_8 (aC (eV 2) (aC (e2 a_9 (eV 0) (zI 2)) (aC (e2 a_9 (eV 0) (zI 3)) aN)))) (aC (e2 a_9 (eV 0) (zI 0)) (aC (e2 a_9 (eV 0) (zI 1)) aN)))))))
def b_4:List D->Option D:=fnD 2 1 n_6
def C_5:FS :=
 (e_5 (eF af7 (aC (eV 0) aN)))
def t_2:List D->Option D:=fnD 1 0 C_5
def r_8:FS :=
 (b_7 (c_8 1 (eF c_2 (aC (eV 0) (aC (e1 Z_6 (zI 1)) aN))))
 (b_7 (c_8 2 (eF c_1 (aC (eV 0) (aC (zI 0) aN))))
 (b_7 (aC3 3 (oIf (tB (e2 dIs (eV 1) (eC .non))) (av1 aN) (av1 (aC (e2 a_9 (eV 1) (zI 0)) aN))))
 (b_7 (sIf (tB (e2 h_2 (eV 2) (eC .non)))
 (as3 3 (e2 a_9 (eV 2) (zI 1)))
 sN)
 (aD9 3 (e_5 (eF t_2 (aC (eV 3) aN))))))))
def d_0:List D->Option D:=fnD 1 3 r_8
def h_8:FS :=
 (b_7 (sIf (tOr (tB (e2 dIs (eV 0) (eC .non))) (tB (e2 dIs (eV 3) (eC .non))))
 (e_5 (eC .non))
 sN)
 (b_7 (c_8 1 (eF aB5 (aC (eV 1) (aC (zI 0) aN))))
 (b_7 (sIf (tAnd (tB (e2 h_2 (eV 2) (eC .non))) (tB (e2 dLe (eV 2) (eV 1))))
 (e_5 (eC .non))
 sN)
 (e_5 (e_1 (aC (eV 0) (aC (eV 1) (aC (eV 2) (aC (eV 3) aN)))))))))
def b_6:List D->Option D:=fnD 4 0 h_8
def y_6:FS :=
 (b_7 (c_8 2 (e2 a_9 (eV 1) (zI 0)))
 (b_7 (sIf (tOr (tB (e2 dLt (eV 2) (e2 a_9 (eV 0) (zI 1)))) (tAnd (tB (e2 h_2 (e2 a_9 (eV 0) (zI 2)) (eC .non))) (tB (e2 dGe (eV 2) (e2 a_9 (eV 0) (zI 2))))))
 (e_5 (eC (.bl false)))
 sN)
 (e_5 (aJ4 (eF e_9 (aC (e2 a_9 (eV 0) (zI 0)) (aC (e2 a_9 (eV 1) (zI 1)) aN))) (eF b_9 (aC (e2 a_9 (eV 0) (zI 3)) (aC (e2 a_9 (eV 1) (zI 2)) aN)))))))
def j_0:List D->Option D:=fnD 2 1 y_6
def z_1:FS :=
 (b_7 (c_8 2 (eF r_3 (aC (e2 a_9 (eV 0) (zI 0)) (aC (e2 a_9 (eV 1) (zI 0)) aN))))
 (b_7 (c_8 3 (eF b_4 (aC (e2 a_9 (eV 0) (zI 3)) (aC (e2 a_9 (eV 1) (zI 3)) aN))))
 (e_5 (eF b_6 (aC (eV 2) (aC (eF aB5 (aC (e2 a_9 (eV 0) (zI 1)) (aC (e2 a_9 (eV 1) (zI 1)) aN))) (aC (eF b_2 (aC (e2 a_9 (eV 0) (zI 2)) (aC (e2 a_9 (eV 1) (zI 2)) aN))) (aC (eV 3) aN))))))))
def e_7:List D->Option D:=fnD 2 2 z_1
def K_9:FS :=
 (e_5 (eF b_6 (aC (e_1 (aC (zT "only") (aC (e_1 (aC (e2 a_9 (eV 0) (zI 1)) aN)) aN))) (aC (e2 a_9 (eV 0) (zI 0)) (aC (e2 y_8 (e2 a_9 (eV 0) (zI 0)) (zI 1)) (aC (eF a_2 (aC (e2 a_9 (eV 0) (zI 2)) (aC (e2 a_9 (eV 0) (zI 2)) (aC (zI 1) (aC (zI 0) aN))))) aN))))))
def l_0:List D->Option D:=fnD 1 0 K_9
abbrev T_0:FS :=
 (sIf (tB (e2 dEq (e2 a_9 (eV 2) (zI 1)) (eV 1)))
 (e_5 (eV 2))
 sN)
def af4:FS :=
 (b_7 (U_7 (gN 2) (eV 0)
 T_0)
 (e_5 (eC .non)))
def f_9:List D->Option D:=fnD 2 1 af4
def z_0:FS :=
 (e_5 (aJ4 (eTy .int (eV 0)) (bv9 (eTy .bool (eV 0)))))
def r_4:List D->Option D:=fnD 1 0 z_0
noncomputable abbrev lit0:List (Str×D):=[((Str.ofString "sum"),(.tup [(.int 1),(.int 1)])),((Str.ofString "less"),(.tup [(.int 1),(.int (-1))])),((Str.ofString "left"),(.tup [(.int 1),(.int 0)])),((Str.ofString "right"),(.tup [(.int 0),(.int 1)]))]
def A_1:FS :=
 (b_7 (c_8 3 (e1 (dKx lit0) (eV 0)))
 (e_5 (e2 y_8 (e2 T_8 (e2 a_9 (eV 3) (zI 0)) (eV 1)) (e2 T_8 (e2 a_9 (eV 3) (zI 1)) (eV 2)))))
def k_2:List D->Option D:=fnD 3 1 A_1
abbrev p_9:FS :=
 (sIf (tB (e2 dLe (eF bd6 (aC (e2 Z_5 (e2 a_9 (eV 8) (zI 0)) (e2 a_9 (eV 6) (zI 0))) aN)) (eV 3)))
 (as3 7 (e_1 (aC (eF aB5 (aC (e2 a_9 (eV 8) (zI 0)) (aC (e2 a_9 (eV 6) (zI 0)) aN))) (aC (e2 a_9 (eV 8) (zI 1)) (aC (eF k_2 (aC (eV 4) (aC (e2 a_9 (eV 8) (zI 2)) (aC (e2 a_9 (eV 6) (zI 2)) aN)))) aN)))))
 sN)
abbrev r_9:FS :=
 (U_7 (gN 6) (bg1 5 (e2 a_9 (eV 8) (zI 1)) (x_6 aN))
 p_9)
def P_7:FS :=
 (b_7 (c_8 3 (e2 a_9 (e2 a_9 (eV 0) (zI 3)) (zI 0)))
 (b_7 (c_8 4 (e2 a_9 (e2 a_9 (eV 0) (zI 3)) (zI 1)))
 (b_7 (sDN 5)
 (b_7 (bv1 6 5 (eV 2))
 (b_7 (aC3 7 (av1 aN))
 (b_7 (U_7 (gN 8) (eV 1)
 r_9)
 (aD9 7 (e_5 (eF C_7 (aC (eV 7) aN))))))))))
def p_5:List D->Option D:=fnD 3 6 P_7
def u_4:FS :=
 (b_7 (c_8 2 (e2 a_9 (eV 0) (zI 3)))
 (b_7 (sIf (tB (e2 dEq (e2 a_9 (eV 0) (zI 0)) (zT "fixed")))
 (e_5 (x_6 (aC (e2 v_6 (eV 1) (e2 a_9 (eV 2) (zI 0))) aN)))
 sN)
 (b_7 (sIf (tB (e2 dEq (e2 a_9 (eV 0) (zI 0)) (zT "slide")))
 (e_5 (bw0 (e2 y_8 (e2 v_6 (e2 Z_5 (eV 1) (e2 a_9 (eV 2) (zI 0))) (e2 a_9 (eV 2) (zI 1))) (zI 1)) (e2 y_8 (e2 v_6 (eV 1) (e2 a_9 (eV 2) (zI 1))) (zI 1))))
 sN)
 (e_5 (x_6 (aC (zI 0) aN))))))
def g_4:List D->Option D:=fnD 2 1 u_4
def t_8:FS :=
 (b_7 (sIf (tB (e2 dEq (eV 0) (zT "count")))
 (e_5 (eF aa9 (aC (eV 1) aN)))
 sN)
 (b_7 (sIf (tB (e2 dEq (eV 0) (zT "sum")))
 (e_5 (eF bt5 (aC (eV 1) aN)))
 sN)
 (e_5 (eIf (tB (e2 dEq (eV 0) (zT "most"))) (eF aB5 (aC (eV 1) aN)) (eF bd4 (aC (eV 1) aN))))))
def c_5:List D->Option D:=fnD 2 0 t_8
def z_9:FS :=
 (b_7 (sTN 2)
 (b_7 (sGT 2 3 4 (eV 1) (eF g_4 (aC (eV 0) (aC (e2 a_9 (eV 3) (zI 0)) aN))))
 (sFT 2 (e_5 (eLK [2,0] (eV 2) tYes (e_1 (aC (eV 0) (aC (eF c_5 (aC (e2 a_9 (e2 a_9 (eV 2) (zI 3)) (e1 Z_6 (zI 1))) (aC (e2 aJ6 (eV 1) (eV 0)) aN))) aN))))))))
def k_0:List D->Option D:=fnD 2 3 z_9
def E_9:FS :=
 (e_5 (eF aB3 (aC (eIf (tB (e2 dEq (e2 a_9 (eV 0) (zI 0)) (zT "gaps"))) Z_4 (eF k_0 (aC (eV 0) (aC (eV 1) aN)))) aN)))
def p_6:List D->Option D:=fnD 2 0 E_9
def w_3:FS :=
 (b_7 (sIf (tOr (tB (e2 dIs (eV 1) (eC .non))) (tOr (tNot (tV (e2 a_9 (eV 0) (zI 3)))) (tV (eF d_7 (aC (eV 1) (aC (e2 a_9 (e2 a_9 (eV 0) (zI 3)) (zI 0)) (aC (e2 a_9 (e2 a_9 (eV 0) (zI 3)) (zI 1)) aN)))))))
 (e_5 (eV 1))
 sN)
 (e_5 (eC .non)))
def m_4:List D->Option D:=fnD 2 0 w_3
def L_3:FS :=
 (e_5 (eF b_6 (aC (e_1 (aC (zT "only") (aC (e_1 (aC (eV 0) aN)) aN))) (aC (eV 1) (aC (eV 2) (aC (eC (.tup [.non,.non,(.int 1),(.int 0)])) aN))))))
def i_9:List D->Option D:=fnD 3 0 L_3
def u_5:FS :=
 (b_7 (c_8 3 (e2 a_9 (eV 0) (zI 3)))
 (b_7 (sIf (tB (e2 dEq (e2 a_9 (eV 0) (zI 0)) (zT "fixed")))
 (e_5 (eF i_9 (aC (eV 1) (aC (e2 T_8 (eV 2) (e2 a_9 (eV 3) (zI 0))) (aC (e2 T_8 (e2 y_8 (eV 2) (zI 1)) (e2 a_9 (eV 3) (zI 0))) aN)))))
 sN)
 (b_7 (sIf (tB (e2 dEq (e2 a_9 (eV 0) (zI 0)) (zT "slide")))
 (e_5 (eF i_9 (aC (eV 1) (aC (e2 T_8 (eV 2) (e2 a_9 (eV 3) (zI 1))) (aC (e2 y_8 (e2 T_8 (eV 2) (e2 a_9 (eV 3) (zI 1))) (e2 a_9 (eV 3) (zI 0))) aN)))))
 sN)
 (e_5 (eF i_9 (aC (eV 1) (aC (zI 0) (aC (eC .non) aN))))))))
def c_0:List D->Option D:=fnD 3 1 u_5
def C_6:FS :=
 (b_7 (sIf (tOr (tNot (tV (eF C_0 (aC (eV 1) aN)))) (tNot (tV (eF r_4 (aC (eV 2) aN)))))
 (e_5 (eC (.bl false)))
 sN)
 (b_7 (sIf (tB (e2 dEq (e2 a_9 (eV 0) (zI 0)) (zT "ever")))
 (e_5 (e2 dEq (eV 2) (zI 0)))
 sN)
 (b_7 (sIf (tB (e2 dEq (e2 a_9 (eV 0) (zI 0)) (zT "gaps")))
 (e_5 (e2 dGe (eV 2) (zI 0)))
 sN)
 (e_5 (e2 h_2 (eF c_0 (aC (eV 0) (aC (eV 1) (aC (eV 2) aN)))) (eC .non))))))
def l_2:List D->Option D:=fnD 3 0 C_6
def F_1:FS :=
 (b_7 (c_8 4 (eF f_9 (aC (eV 0) (aC (eV 1) aN))))
 (sIf (tOr (tB (e2 dIs (eV 4) (eC .non))) (tOr (tB (e2 dNe (e2 a_9 (eV 4) (zI 0)) (zT "ask"))) (tNot (tV (eF l_2 (aC (eF f_9 (aC (eV 0) (aC (e2 a_9 (e2 a_9 (eV 4) (zI 2)) (zI 0)) aN))) (aC (eV 2) (aC (eV 3) aN))))))))
 sNo
 sN))
def p_8:List D->Option D:=fnD 4 1 F_1
def K_8:FS :=
 (b_7 (sIf (tB (e2 dIs (eV 0) (eC .non)))
 (e_5 (x_6 aN))
 sN)
 (e_5 (eLC [0] (eV 1) (tV (eF j_0 (aC (eV 1) (aC (eV 0) aN)))) (eV 0))))
def h_0:List D->Option D:=fnD 2 0 K_8
def B_4:FS :=
 (b_7 (c_8 3 (eLC [] (eF h_0 (aC (eV 1) (aC (eV 2) aN))) tYes (e2 a_9 (eV 0) (zI 2))))
 (e_5 (eIf (tV (eV 3)) (eF c_5 (aC (e2 a_9 (e2 a_9 (eV 0) (zI 3)) (e1 Z_6 (zI 1))) (aC (eV 3) aN))) (eC .non))))
def o_3:List D->Option D:=fnD 3 1 B_4
def t_4:FS :=
 (b_7 (sIf (tB (e2 dIs (eV 1) (eC .non)))
 (e_5 (eV 2))
 sN)
 (e_5 (eIf (tB (e2 dEq (eV 0) (zT "most"))) (eF c_2 (aC (eV 2) (aC (eV 1) aN))) (eF c_1 (aC (eV 2) (aC (eV 1) aN))))))
def h_7:List D->Option D:=fnD 3 0 t_4
def o_0:FS :=
 (b_7 (c_8 4 (bg0 (e2 a_9 (eV 0) (zI 3)) (e_1 (aC (eC .non) (aC (eC .non) aN)))))
 (b_7 (sIf (tB (e2 dEq (eV 1) (zT "count")))
 (b_7 (c_8 6 (aJ4 (e2 h_2 (eV 2) (eC .non)) (aJ4 (e2 h_2 (e2 a_9 (eV 4) (zI 1)) (eC .non)) (e2 dGt (eV 2) (e2 a_9 (eV 4) (zI 1))))))
 (e_5 (eIf (tV (eV 6)) (x_6 aN) (x_6 (aC (eV 3) aN)))))
 sN)
 (b_7 (sIf (tAnd (tB (e2 dEq (eV 1) (zT "sum"))) (tB (e2 dIs (eV 2) (eC .non))))
 (e_5 (x_6 (aC (eV 3) aN)))
 sN)
 (b_7 (sIf (tB (e2 dEq (eV 1) (zT "sum")))
 (b_7 (c_8 7 (x_6 (aC (eF c_2 (aC (eV 3) (aC (zI 0) aN))) (aC (eF c_1 (aC (eV 3) (aC (zI 0) aN))) aN))))
 (e_5 (eLC [] (eV 7) (tB (e2 h_2 (eV 0) (eC .non))) (eV 0))))
 sN)
 (b_7 (c_8 5 (eF h_7 (aC (eV 1) (aC (eV 2) (aC (eV 3) aN)))))
 (b_7 (sIf (tAnd (tB (e2 h_2 (eV 5) (eC .non))) (tB (e2 dIs (eF m_4 (aC (eV 0) (aC (eV 2) aN))) (eC .non))))
 (c_8 5 (eF a_5 (aC (eV 5) (aC (e2 a_9 (eV 4) (zI 0)) (aC (e2 a_9 (eV 4) (zI 1)) aN)))))
 sN)
 (e_5 (eIf (tB (e2 dIs (eV 5) (eC .non))) (x_6 aN) (x_6 (aC (eV 5) aN))))))))))
def d_6:List D->Option D:=fnD 4 4 o_0
def r_7:FS :=
 (e_5 (eIf (tB (e2 dIs (eV 0) (eC .non))) (eC .non) (e_1 (aC (e2 a_9 (eV 0) (zI 1)) (aC (e2 a_9 (eV 0) (zI 0)) aN)))))
def c_3:List D->Option D:=fnD 1 0 r_7
def F_0:FS :=
 (e_5 (eF b_2 (aC (e2 a_9 (eV 1) (zI 2)) (aC (eIf (tB (e2 dIs (e2 a_9 (eV 2) (zI 2)) (eC .non))) (eC .non) (e2 y_8 (e2 a_9 (eV 2) (zI 2)) (eV 0))) aN))))
def p_7:List D->Option D:=fnD 3 0 F_0
def u_7:FS :=
 (b_7 (c_8 4 (eF aL0 (aC (e2 a_9 (eV 2) (zI 1)) (aC (e2 Z_5 (e2 a_9 (eV 3) (zI 1)) (eV 0)) (aC (eV 1) aN)))))
 (b_7 (c_8 5 (eF p_7 (aC (eV 0) (aC (eV 2) (aC (eV 3) aN)))))
 (b_7 (sIf (tAnd (tB (e2 h_2 (eV 5) (eC .non))) (tB (e2 dGe (eV 4) (eV 5))))
 (e_5 (eC .non))
 sN)
 (e_5 (e_1 (aC (eV 4) (aC (eF aB5 (aC (e2 a_9 (eV 3) (zI 1)) (aC (e2 Z_5 (eV 4) (eV 0)) aN))) aN)))))))
def f_4:List D->Option D:=fnD 4 2 u_7
def y_3:FS :=
 (e_5 (bg0 (eF f_4 (aC (eV 0) (aC (eV 1) (aC (eV 2) (aC (eV 3) aN))))) (eF c_3 (aC (eF f_4 (aC (eV 0) (aC (eV 1) (aC (eV 3) (aC (eV 2) aN))))) aN))))
def k_9:List D->Option D:=fnD 4 0 y_3
def x_0:FS :=
 (b_7 (c_8 1 (eLC [] (aI7 (eV 0) oN (oS (zI 2))) (tB (e2 h_2 (eV 0) (eC .non))) (eV 0)))
 (e_5 (eIf (tV (eV 1)) (eV 1) (x_6 (aC (eF d_0 (aC (eV 0) aN)) aN)))))
def g_1:List D->Option D:=fnD 1 1 x_0
abbrev c_6:FS :=
 (b_7 (c_8 5 (eF b_0 (aC (eV 1) (aC (e2 a_9 (eV 0) (zI 0)) (aC (e2 T_8 (e2 a_9 (eV 0) (zI 1)) (eV 4)) aN)))))
 (b_7 (c_8 6 (eIf (tB (e2 dIs (eV 5) (eC .non))) (eC .non) (eF b_4 (aC (eV 2) (aC (eV 5) aN)))))
 (sIf (tB (e2 h_2 (eV 6) (eC .non)))
 (e_5 (e_1 (aC (eF d_0 (aC (eV 6) aN)) (aC (eV 4) aN))))
 sN)))
def t_5:FS :=
 (b_7 (U_7 (gN 4) (eF g_1 (aC (eV 3) aN))
 c_6)
 (e_5 (eC .non)))
def d_1:List D->Option D:=fnD 4 3 t_5
def w_2:FS :=
 (b_7 (c_8 4 (e1 (dKx lit0) (eV 0)))
 (b_7 (c_8 5 (eF d_1 (aC (eV 4) (aC (eV 1) (aC (eV 2) (aC (eV 3) aN))))))
 (e_5 (bg0 (eV 5) (eF c_3 (aC (eF d_1 (aC (eF c_3 (aC (eV 4) aN)) (aC (eV 1) (aC (eV 3) (aC (eV 2) aN))))) aN))))))
def i_2:List D->Option D:=fnD 4 2 w_2
def s_3:FS :=
 (b_7 (c_8 5 (eF k_9 (aC (e2 a_9 (e2 a_9 (eV 0) (zI 3)) (zI 0)) (aC (eV 1) (aC (eV 3) (aC (eV 4) aN))))))
 (b_7 (sIf (tB (e2 dIs (eV 5) (eC .non)))
 (e_5 (eC .non))
 sN)
 (b_7 (c_8 6 (eF i_2 (aC (e2 a_9 (e2 a_9 (eV 0) (zI 3)) (zI 1)) (aC (eV 2) (aC (e2 a_9 (eV 3) (zI 3)) (aC (e2 a_9 (eV 4) (zI 3)) aN))))))
 (b_7 (sIf (tB (e2 dIs (eV 6) (eC .non)))
 (e_5 (eC .non))
 sN)
 (b_7 (c_8 7 (e2 a_9 (e2 a_9 (e2 a_9 (eV 3) (zI 0)) (zI 1)) (zI 0)))
 (e_5 (e_1 (aC (e_1 (aC (e2 a_9 (eV 5) (zI 0)) (aC (eV 7) (aC (e2 a_9 (eV 6) (zI 0)) aN)))) (aC (e_1 (aC (e2 a_9 (eV 5) (zI 1)) (aC (eV 7) (aC (e2 a_9 (eV 6) (zI 1)) aN)))) aN)))))))))
def g_5:List D->Option D:=fnD 5 3 s_3
def L_1:FS :=
 (b_7 (c_8 3 (bs0 [0] (eV 2) tYes (e_1 (aC (eF e_7 (aC (eV 0) (aC (eV 2) aN))) (aC (eV 1) aN)))))
 (e_5 (e2 y_8 (eLC [] (eV 3) (tB (e2 h_2 (e2 a_9 (eV 0) (zI 0)) (eC .non))) (eV 0)) (eLC [] (eV 1) tYes (e_1 (aC (eF l_0 (aC (eV 0) aN)) (aC (eC .non) aN)))))))
def o_2:List D->Option D:=fnD 3 1 L_1
abbrev g_2:FS :=
 (b_7 (c_8 15 (eOr (e2 h_2 (e2 a_9 (eV 13) (zI 1)) (eC .non)) (e2 h_2 (e2 a_9 (eV 14) (zI 1)) (eC .non))))
 (b_7 (c_8 16 (eIf (tV (eV 15)) (eF g_5 (aC (eV 2) (aC (e2 a_9 (eV 3) (zI 1)) (aC (eV 10) (aC (e2 a_9 (eV 13) (zI 0)) (aC (e2 a_9 (eV 14) (zI 0)) aN)))))) (eC .non)))
 (sIf (tB (e2 h_2 (eV 16) (eC .non)))
 (as3 12 (e_1 (aC (eV 13) (aC (eV 14) (aC (eV 16) aN)))))
 sN)))
abbrev s_0:FS :=
 (U_7 (gN 14) (eV 11)
 g_2)
def A_0:FS :=
 (b_7 (c_8 6 (eF b_6 (aC (e2 a_9 (eV 3) (zI 0)) (aC (zI 0) (aC (e2 a_9 (eV 3) (zI 2)) (aC (e2 a_9 (eV 3) (zI 3)) aN))))))
 (b_7 (c_8 7 (eF h_0 (aC (eV 6) (aC (e2 a_9 (eV 4) (zI 0)) aN))))
 (b_7 (c_8 8 (eF h_0 (aC (eV 6) (aC (e2 a_9 (eV 4) (zI 1)) aN))))
 (b_7 (c_8 9 (eF o_3 (aC (eV 1) (aC (eV 3) (aC (eF p_5 (aC (eV 2) (aC (eV 7) (aC (eV 8) aN)))) aN)))))
 (b_7 (c_8 10 (e2 a_9 (eF d_6 (aC (eV 0) (aC (e2 a_9 (e2 a_9 (eV 1) (zI 3)) (e1 Z_6 (zI 1))) (aC (eV 9) (aC (eC (.tup [.non,.non,(.int 1),(.int 0)])) aN))))) (zI 0)))
 (b_7 (c_8 11 (eF o_2 (aC (eV 6) (aC (eV 8) (aC (e2 a_9 (eV 5) (zI 1)) aN)))))
 (b_7 (aC3 12 (av1 aN))
 (b_7 (U_7 (gN 13) (eF o_2 (aC (eV 6) (aC (eV 7) (aC (e2 a_9 (eV 5) (zI 0)) aN))))
 s_0)
 (aD9 12 (e_5 (eV 12)))))))))))
def k_1:List D->Option D:=fnD 6 11 A_0
def L_0:FS :=
 (e_5 (eLC [] (eV 0) tYes (e_1 (aC (eV 0) (aC (eC (.bl true)) aN)))))
def o_1:List D->Option D:=fnD 1 0 L_0
def af6:FS :=
 (b_7 (c_8 2 (eF f_9 (aC (eV 0) (aC (eV 1) aN))))
 (b_7 (c_8 3 (eF f_9 (aC (eV 0) (aC (e2 a_9 (e2 a_9 (eV 2) (zI 2)) (zI 0)) aN))))
 (e_5 (e_1 (aC (eV 2) (aC (eV 3) (aC (eF f_9 (aC (eV 0) (aC (e2 a_9 (e2 a_9 (eV 3) (zI 2)) (zI 0)) aN))) aN)))))))
def t_3:List D->Option D:=fnD 2 2 af6
def F_2:FS :=
 (b_7 (sX (eF p_8 (aC (eV 0) (aC (eV 1) (aC (eV 2) (aC (eV 3) aN))))))
 (b_7 (c_8 6 (eF t_3 (aC (eV 0) (aC (eV 1) aN))))
 (b_7 (sIf (tB (e2 dEq (e2 a_9 (e2 a_9 (eV 6) (zI 2)) (zI 0)) (zT "pair")))
 (b_7 (c_8 7 (e_1 (aC (eF o_1 (aC (e2 a_9 (eV 5) (zI 0)) aN)) (aC (eF o_1 (aC (e2 a_9 (eV 5) (zI 1)) aN)) aN))))
 (c_8 8 (eF k_1 (aC (e2 a_9 (eV 6) (zI 0)) (aC (e2 a_9 (eV 6) (zI 1)) (aC (e2 a_9 (eV 6) (zI 2)) (aC (eF c_0 (aC (e2 a_9 (eV 6) (zI 1)) (aC (eV 2) (aC (eV 3) aN)))) (aC (eV 4) (aC (eV 7) aN)))))))))
 (c_8 8 Z_4))
 (e_5 (e2 dGt (eF aa9 (aC (eV 8) aN)) (zI 0))))))
def l_3:List D->Option D:=fnD 6 3 F_2
def w_4:FS :=
 (b_7 (sIf (tB (e2 dLt (eV 1) (eF aa9 (aC (eV 0) aN))))
 (e_5 (e2 a_9 (eV 0) (eV 1)))
 sN)
 (e_5 (zI 0)))
def g_7:List D->Option D:=fnD 2 0 w_4
abbrev n_4:FS :=
 (b_7 (as3 2 (e2 u_3 (eV 6) (zI 10000019)))
 (c_8 6 (e2 v_6 (eV 6) (zI 10000019))))
abbrev n_3:FS :=
 (b_7 (c_8 3 (e2 y_8 (e2 y_8 (e2 u_3 (e2 T_8 (eV 3) (e2 y_8 (e2 v_6 (eV 3) (zI 1009)) (zI 69621))) (zI 2147483647)) (eV 5)) (zI 1)))
 (b_7 (c_8 4 (e2 u_3 (e2 T_8 (eV 4) (zI 48271)) (zI 2147483629)))
 (as3 2 (e2 y_8 (eV 3) (eV 4)))))
def y_4:En->Option MO :=
 (aG2 (aC3 2 (av1 aN))
 (nIf (tB (e2 dGe (eV 0) (e2 bI0 (zI 10) (zI 40))))
 (aG2 (c_8 6 (e2 v_6 (eV 0) (zI 7)))
 (aG2 (F_5 (gN 5) (aN5 (eV 1)) n_4)
 (aG3 2)))
 (aG2 (c_8 3 (e2 u_3 (e2 T_8 (e2 y_8 (e2 u_3 (eV 0) (zI 2147483647)) (zI 1)) (zI 48271)) (zI 2147483647)))
 (aG2 (c_8 4 (e2 u_3 (e2 T_8 (e2 y_8 (e2 u_3 (eV 0) (zI 1000003)) (zI 1)) (zI 69621)) (zI 2147483629)))
 (aG2 (F_5 (gN 5) (aN5 (eV 1)) n_3)
 (aG5 2))))))
def i_0:List D->Option MO:=fnN 2 5 y_4
def y_9:FS :=
 (b_7 (c_8 3 (e2 a_9 (x_6 (aC (zT "count") (aC (zT "sum") (aC (zT "most") (aC (zT "least") aN))))) (e2 u_3 (e2 v_6 (eQ 0) (zI 3)) (zI 4))))
 (b_7 (c_8 4 (e2 a_9 (x_6 (aC (zT "fixed") (aC (zT "slide") (aC (zT "ever") aN)))) (e2 u_3 (e2 v_6 (eQ 0) (zI 3)) (zI 3))))
 (b_7 (sIf (tB (e2 dEq (eV 4) (zT "fixed")))
 (e_5 (e_1 (aC (zT "fixed") (aC (eV 1) (aC (e_1 (aC (eV 2) aN)) (aC (e_1 (aC (e2 y_8 (zI 1) (e2 u_3 (e2 v_6 (eQ 0) (zI 3)) (zI 5))) (aC (eV 3) aN))) aN))))))
 sN)
 (b_7 (sIf (tB (e2 dEq (eV 4) (zT "slide")))
 (b_7 (c_8 5 (e2 y_8 (zI 1) (e2 u_3 (e2 v_6 (eQ 0) (zI 3)) (zI 3))))
 (e_5 (e_1 (aC (zT "slide") (aC (eV 1) (aC (e_1 (aC (eV 2) aN)) (aC (e_1 (aC (e2 y_8 (e2 y_8 (eV 5) (zI 1)) (e2 u_3 (e2 v_6 (eQ 0) (zI 3)) (zI 4))) (aC (eV 5) (aC (eV 3) aN)))) aN)))))))
 sN)
 (e_5 (e_1 (aC (zT "ever") (aC (eV 1) (aC (e_1 (aC (eV 2) aN)) (aC (e_1 (aC (eV 3) aN)) aN))))))))))
def m_5:MO->List D->Option (D×MO):=fnB 2 3 y_9
abbrev n_2:FS :=
 (as3 2 (e_1 (aC (e2 u_3 (e2 v_6 (eQ 0) (zI 3)) (zI 8)) (aC (e2 a_9 (x_6 (aC (zT "a") (aC (zT "b") aN))) (e2 u_3 (e2 v_6 (eQ 0) (zI 3)) (zI 2))) (aC (e2 Z_5 (e2 u_3 (e2 v_6 (eQ 0) (zI 3)) (zI 6)) (zI 2)) aN)))))
def E_8:FS :=
 (b_7 (aC3 2 (av1 aN))
 (b_7 (F_5 (gN 3) (aN5 (e2 u_3 (e2 v_6 (eQ 0) (zI 3)) (eV 1))) n_2)
 (aD9 2 (e_5 (eF C_7 (aC (eV 2) aN))))))
def g_6:MO->List D->Option (D×MO):=fnB 1 2 E_8
abbrev m_6:FS :=
 (b_7 (c_8 5 (x_6 (aC (e_1 (aC (zT "only") (aC (e_1 (aC (zT "a") aN)) aN))) (aC (e_1 (aC (zT "but") (aC (e_1 aN) aN))) (aC (e_1 (aC (zT "but") (aC (e_1 (aC (zT "a") aN)) aN))) (aC (e_1 (aC (zT "only") (aC (e_1 (aC (zT "a") (aC (zT "b") aN))) aN))) (aC (e_1 (aC (zT "but") (aC (e_1 (aC (zT "c") aN)) aN))) aN)))))))
 (b_7 (c_8 6 (e2 a_9 (eV 5) (e2 u_3 (e2 v_6 (eQ 0) (zI 3)) (zI 5))))
 (b_7 (c_8 7 (e2 u_3 (e2 v_6 (eQ 0) (zI 3)) (zI 9)))
 (b_7 (c_8 8 (e2 y_8 (e2 y_8 (eV 7) (zI 1)) (e2 u_3 (e2 v_6 (eQ 0) (zI 3)) (eV 2))))
 (b_7 (c_8 9 (e2 Z_5 (e2 u_3 (e2 v_6 (eQ 0) (zI 3)) (zI 7)) (zI 3)))
 (b_7 (c_8 10 (e2 y_8 (zI 1) (e2 u_3 (e2 v_6 (eQ 0) (zI 3)) (zI 3))))
 (b_7 (c_8 11 (eF a_2 (aC (eV 9) (aC (e2 y_8 (eV 9) (e2 u_3 (e2 v_6 (eQ 0) (zI 3)) (eV 2))) (aC (eV 10) (aC (e2 u_3 (e2 v_6 (eQ 0) (zI 3)) (eV 10)) aN))))))
 (b_7 (c_8 12 (eF b_6 (aC (eV 6) (aC (eV 7) (aC (eV 8) (aC (eV 11) aN))))))
 (sIf (tB (e2 h_2 (eV 12) (eC .non)))
 (as3 3 (eV 12))
 sN)))))))))
def L_2:FS :=
 (b_7 (aC3 3 (av1 aN))
 (b_7 (F_5 (gN 4) (aN5 (e2 u_3 (e2 v_6 (eQ 0) (zI 3)) (eV 1))) m_6)
 (aD9 3 (e_5 (eV 3)))))
def i_3:MO->List D->Option (D×MO):=fnB 2 10 L_2
abbrev g_3:FS :=
 (sIf (tB (e2 dEq (e2 u_3 (eV 8) (e2 a_9 (eV 6) (zI 2))) (e2 a_9 (eV 6) (zI 3))))
 (as3 2 (e_1 (aC (eV 7) (aC (eV 1) (aC (eV 8) aN)))))
 sN)
abbrev n_8:FS :=
 (F_5 (gN 8) (aN4 (e2 a_9 (eV 6) (zI 0)) (e2 y_8 (e2 a_9 (eV 6) (zI 1)) (zI 1))) g_3)
abbrev f_0:FS :=
 (sIf (tB (e2 dEq (e2 bc6 (eV 1) (e2 a_9 (eV 3) (zI 1))) (e2 dEq (e2 a_9 (eV 3) (zI 0)) (zT "only"))))
 (F_5 (gN 7) (aN4 (eV 4) (eV 5)) n_8)
 sN)
def A_2:FS :=
 (b_7 (aC3 2 (av1 aN))
 (b_7 (U_7 (gT [3,4,5,6]) (eV 0)
 f_0)
 (aD9 2 (e_5 (eV 2)))))
def e_4:List D->Option D:=fnD 2 7 A_2
abbrev f_5:FS :=
 (sIf (tB (e2 dEq (eV 5) (eV 4)))
 (e_5 (eV 6))
 sN)
def y_5:FS :=
 (b_7 (U_7 (gT [5,6]) (eF p_6 (aC (eV 1) (aC (eF p_5 (aC (eV 0) (aC (eV 2) (aC (eV 3) aN)))) aN)))
 f_5)
 (e_5 (eC .non)))
def i_1:List D->Option D:=fnD 5 2 y_5
abbrev d_2:FS :=
 (b_7 (c_8 8 (e2 a_9 (eV 2) (zI 0)))
 (b_7 (c_8 9 (e2 a_9 (eV 2) (zI 1)))
 (b_7 (sIf (tB (e2 h_2 (eV 6) (eC .non)))
 (c_8 8 (eF C_7 (aC (e2 y_8 (eV 8) (x_6 (aC (eV 6) aN))) aN)))
 sN)
 (b_7 (sIf (tB (e2 h_2 (eV 7) (eC .non)))
 (c_8 9 (eF C_7 (aC (e2 y_8 (eV 9) (x_6 (aC (eV 7) aN))) aN)))
 sN)
 (sIf (tB (e2 dNe (eF i_1 (aC (eV 0) (aC (eV 1) (aC (eV 8) (aC (eV 9) (aC (eV 4) aN)))))) (eV 5)))
 (e_5 (eC (.bl true)))
 sN)))))
abbrev i_4:FS :=
 (U_7 (gN 7) (e2 y_8 (e2 a_9 (eV 3) (zI 1)) (x_6 (aC (eC .non) aN)))
 d_2)
def B_2:FS :=
 (b_7 (c_8 5 (eF i_1 (aC (eV 0) (aC (eV 1) (aC (e2 a_9 (eV 2) (zI 0)) (aC (e2 a_9 (eV 2) (zI 1)) (aC (eV 4) aN)))))))
 (b_7 (U_7 (gN 6) (e2 y_8 (e2 a_9 (eV 3) (zI 0)) (x_6 (aC (eC .non) aN)))
 i_4)
 (e_5 (eC (.bl false)))))
def l_1:List D->Option D:=fnD 5 5 B_2
def t_law:FS :=
 (b_7 (c_8 9 (e_1 (aC (e_1 (aC (eF L_4 (aC (e2 a_9 (eV 5) (zI 0)) aN)) (aC (eF L_4 (aC (e2 a_9 (eV 5) (zI 1)) aN)) aN))) (aC (e_1 (aC (eF L_4 (aC (e2 a_9 (eV 6) (zI 0)) aN)) (aC (eF L_4 (aC (e2 a_9 (eV 6) (zI 1)) aN)) aN))) aN))))
 (b_7 (c_8 10 (eF l_3 (aC (eV 4) (aC (zT "q") (aC (eV 7) (aC (eV 8) (aC (e2 a_9 (eV 9) (zI 0)) (aC (e2 a_9 (eV 9) (zI 1)) aN))))))))
 (b_7 (sIf (tOr (tNot (tV (eTy .bool (eV 10)))) (tB (e2 dNe (eV 9) (e_1 (aC (eV 5) (aC (eV 6) aN))))))
 (e_5 (eC (.bl false)))
 sN)
 (b_7 (c_8 11 (e_1 (aC (eF e_4 (aC (e2 a_9 (eV 6) (zI 0)) (aC (eV 7) aN))) (aC (eF e_4 (aC (e2 a_9 (eV 6) (zI 1)) (aC (eV 7) aN))) aN))))
 (e_5 (e2 dEq (eV 10) (eF l_1 (aC (eV 3) (aC (eV 2) (aC (eV 5) (aC (eV 11) (aC (e_1 (aC (eV 7) (aC (eV 8) aN))) aN))))))))))))
def O_7 (R:FS):FS :=
 (b_7 (c_8 3 (e_1 (aC (zT "pair") (aC (zT "p") (aC (e_1 (aC (zT "x") (aC (zT "y") aN))) (aC (e_1 (aC (e2 u_3 (e2 v_6 (eQ 1) (zI 3)) (zI 5)) (aC (e2 a_9 (x_6 (aC (zT "sum") (aC (zT "less") (aC (zT "left") (aC (zT "right") aN))))) (e2 u_3 (e2 v_6 (eQ 1) (zI 3)) (zI 4))) aN))) aN))))))
 (b_7 (c_8 4 (x_6 (aC (e_1 (aC (zT "in") (aC (zT "x") (aC (e_1 aN) (aC (e_1 (aC (eC .non) (aC (eC .non) aN))) aN))))) (aC (e_1 (aC (zT "in") (aC (zT "y") (aC (e_1 aN) (aC (e_1 (aC (eC .non) (aC (eC .non) aN))) aN))))) (aC (eV 3) (aC (eV 2) (aC (e_1 (aC (zT "ask") (aC (zT "q") (aC (e_1 (aC (zT "f") aN)) (aC (e_1 aN) aN))))) aN)))))))
 (b_7 (c_8 5 (e_1 (aC (eFb 1 g_6 (aC (zI 5) aN)) (aC (eFb 1 g_6 (aC (zI 5) aN)) aN))))
 (b_7 (c_8 6 (e_1 (aC (eFb 1 i_3 (aC (zI 2) (aC (zI 3) aN))) (aC (eFb 1 i_3 (aC (zI 2) (aC (zI 3) aN))) aN))))
 (b_7 (c_8 7 (e2 a_9 (x_6 (aC (zT "a") (aC (zT "b") (aC (zT "zz") aN)))) (e2 u_3 (e2 v_6 (eQ 1) (zI 3)) (zI 3))))
 (b_7 (c_8 8 (e2 u_3 (e2 v_6 (eQ 1) (zI 3)) (zI 5)))
 (b_7 (sIf (tB (e2 dEq (e2 a_9 (eV 2) (zI 0)) (zT "ever")))
 (c_8 8 (zI 0))
 sN)
 R)))))))
def au1 (R:FS):FS :=
 (b_7 (bi6 1 i_0 (aC (eF g_7 (aC (eV 0) (aC (zI 0) aN))) (aC (zI 120) aN)))
 (b_7 (c_8 2 (eFb 1 m_5 (aC (zT "f") (aC (zT "p") aN))))
 (b_7 (sIf (tB (e2 dEq (e2 a_9 (e2 a_9 (eV 2) (zI 3)) (e1 Z_6 (zI 1))) (zT "sum")))
 (c_8 2 (e2 ap0 (aI7 (eV 2) oN (oS (zI 3))) (e_1 (aC (e2 ap0 (aI7 (e2 a_9 (eV 2) (zI 3)) oN (oS (e1 Z_6 (zI 1)))) (e_1 (aC (e2 a_9 (x_6 (aC (zT "count") (aC (zT "most") (aC (zT "least") aN)))) (e2 u_3 (e2 v_6 (eQ 1) (zI 3)) (zI 3))) aN))) aN))))
 sN)
 (O_7 R))))
def bd3:FS:=au1 t_law
def av9:List D->Option D:=fnD 1 11 bd3
end
end Fx
namespace Fx
open PySem PySem.Spec PyProof.Rows L2
noncomputable def top (i:Nat):Stmt:=PySem.Challenge.pw_latewell_k53_pairs_turned_by_boxes.main.body.getD i (.Pass ⟨0,0,0,0⟩)
theorem xG {X:Cx}{k j:Nat}{x:Str}{g:List D → Option D}{A:FA}{p pos:Pos}{e:Expr}{es:List Expr} (G:DefOk X.prog X.w X.K X.mg X.base k x g) (hr:Room j X.A) (ha:XA X (e::es) A) (hk:k ≤ j:=by decide) (O:Gl X x:=by rfl) (M:(x==("__debug__":Str))=false:=by decide)
  (Y:starEach (e::es) X.env=(false,eval e X.env)::starEach es X.env:=by rfl) (z:(backTo pos (starEach es X.env)).any (·.1)=false:=by rfl):XE X (.Call (.Name x p) (e::es) [] pos) (eF g A):=xF G (hr.mono hk) ha O M Y z
theorem scO {N P:List Str}{sc:Scope} (a:sc.kind=.function:=by rfl) (b:sc.isCoroutine=false:=by rfl) (c:sc.isGenerator=false:=by rfl) (d:N.Nodup:=by decide +kernel) (e:N.take P.length=P:=by rfl) (f:∀ x∈P,sc.names.lookup x=some .local\/sc.names.lookup x=some .cell:=by decide +kernel) (g:∀ y∈sc.names,y.2≠.free:=by decide +kernel):FnScope N P sc:=⟨a,b,c,d,e,f,g⟩
theorem scB {N:List Str}{sc scope:Scope}{x:Str}{frees:List Str}{js:List Nat} (a:scope.kind=.function:=by rfl) (b:sc.kind=.function:=by rfl) (c:∀ y∈scope.names,y.2≠.cell:=by decide +kernel) (d:∀ y∈scope.names,y.2=.local->scope.names.lookup y.1=some .local:=by decide +kernel) (e:scope.names.lookup x=some .local:=by rfl) (f:∀ y∈scope.names,y.2=.free->sc.names.lookup y.1=some .cell:=by decide +kernel) (g:(x::frees).Nodup:=by decide +kernel) (h:frees.length=js.length:=by rfl) (i:∀ p∈frees.zip js,N[p.2]?=some p.1/\sc.names.lookup p.1=some .cell/\scope.names.lookup p.1=some .free:=by decide +kernel):ScB N sc scope x frees js:=⟨a,b,c,d,e,f,g,h,i⟩
structure Blt (w:World) (K:Frag) (mg:Str->Option Value):Prop where
 z_abs:mg "abs"=none
 z_len:mg "len"=none
 z_max:mg "max"=none
 z_min:mg "min"=none
 z_any:mg "any"=none
 z_all:mg "all"=none
 z_range:mg "range"=none
 z_isinstance:mg "isinstance"=none
 z_int:mg "int"=none
 z_bool:mg "bool"=none
 z_str:mg "str"=none
 z_tuple:mg "tuple"=none
 z_list:mg "list"=none
 z_sorted:mg "sorted"=none
 z_dict:mg "dict"=none
 z_set:mg "set"=none
 z_sum:mg "sum"=none
 z_zip:mg "zip"=none
 z_enumerate:mg "enumerate"=none
 z_reversed:mg "reversed"=none
 c_LETTERS:∃ t,mg "LETTERS"=some (.str "abcdefghijklmnopqrstuvwxyz" t)
 c_LONGEST:∃ t,mg "LONGEST"=some (.int 8 t)
 c_EVERY_VALUE:∃ a,mg "EVERY_VALUE"=some (.ref a) ∧ KV1 K (.tup [.non,.non,(.int 1),(.int 0)]) (.ref a)
 c_SHARES:∃ a,mg "SHARES"=some (.ref a) ∧ bR2 w K a lit0
section
variable {P:Program}{w:World}{K:Frag}{mg:Str->Option Value}{base:Heap}
abbrev u_1:Stmt:=top 3
noncomputable abbrev aj3:List Str:=["x"]
theorem S00:FnScope aj3 ["x"] (a_0 u_1):=scO
theorem au9 {f:Addr}{fd:FuncData} (F:Fun K "is_key" "is_key" u_1 f fd) (O:Binds K fd ["x"] []) (M:mg "is_key"=some (.ref f)) (T:Blt w K mg) :DefOk P w K mg base 1 "is_key" C_0 :=
 ⟨f,fd,["x"],d_8 F S00 rfl rfl (λ z A outer s H E hr =>
 (xsC (s_4 (xw (ap8 (V_0 (xtv (xty (t:=.str) T.z_isinstance T.z_str PyProof.Rows.boot_str (xv 0)) (λ _=>rfl))) (L_6 (V_0 (xt3 cLe cLe a_3 (xB H_1 rfl T.z_len Uc (xaC (xv 0) xaN)) (bS2 T.c_LONGEST))))))
 (xs1 (f_8 xbl))
 xsN)
 (xs1 (f_8 (xB (bc9 rfl) rfl T.z_all PyProof.Rows.boot_all (xaC (xlc (sc:=a_0 u_1) rfl rfl (by show ScB aj3 (a_0 u_1) _ "sign" [] [];exact scB) (xv 0) (λ _ _ _ _=>A_3) (λ _ _ _ _=>(L_7 bI3 (xv 0) (bS1 T.c_LETTERS)))) xaN)))))),O,F.kp,M⟩
abbrev r_0:Stmt:=top 4
theorem S01:FnScope ["keys","key"] ["keys","key"] (a_0 r_0):=scO
theorem X_4 {f:Addr}{fd:FuncData} (F:Fun K "keys_hold" "keys_hold" r_0 f fd) (O:Binds K fd ["keys","key"] []) (M:mg "keys_hold"=some (.ref f)) (T:Blt w K mg) :DefOk P w K mg base 1 "keys_hold" e_9 :=
 ⟨f,fd,["keys","key"],d_8 F S01 rfl rfl (λ z A outer s H E hr =>
 (xs1 (f_8 (L_7 (cEq hr.units) (L_7 bI3 (xv 1) (b_3 (xv 0) a_3)) (L_7 (cEq hr.units) (b_3 (xv 0) a_3) i_8))))),O,F.kp,M⟩
abbrev e_3:Stmt:=top 5
noncomputable abbrev A_8:List Str:=["one","other","names"]
theorem S02:FnScope A_8 ["one","other"] (a_0 e_3):=scO
theorem M_6 {f:Addr}{fd:FuncData} (F:Fun K "keys_meet" "keys_meet" e_3 f fd) (Y:Binds K fd ["one","other"] []) (O:mg "keys_meet"=some (.ref f)) (T:Blt w K mg):DefOk P w K mg base 2 "keys_meet" w_1 :=
 ⟨f,fd,["one","other"],d_8 F S02 rfl rfl (λ M A outer s H E hr=>λ _ _ _ _ _ _ z=>by obtain⟨_,_,_,_,_,e,_⟩:=z;exact nomatch e),Y,F.kp,O⟩
theorem M_5 {f:Addr}{fd:FuncData} (F:Fun K "keys_meet" "keys_meet" e_3 f fd) (Y:Binds K fd ["one","other"] []) (Z:mg "keys_meet"=some (.ref f)) (T:Blt w K mg) (M:DefOk P w K mg base 2 "keys_meet" w_1) (z:DefOk P w K mg base 1 "keys_hold" e_9):DefOk P w K mg base 3 "keys_meet" w_0 :=
 ⟨f,fd,["one","other"],d_8 F S02 rfl rfl (λ O A outer s H E hr =>
 (xsC (s_4 (xw (ab9 (xt (cEq hr.units) (b_3 (xv 0) a_3) i_8) (H_3 (xt (cEq hr.units) (b_3 (xv 1) a_3) i_8))))
 (xs1 (f_8 ag2))
 xsN)
 (xsC (s_4 (xt (cEq hr.units) (b_3 (xv 0) a_3) i_8)
 (xs1 (f_8 (xG M hr (xaC (xv 1) (xaC (xv 0) xaN)))))
 xsN)
 (xsC (n_7 2 S02.nd (xTy aa0 rfl T.z_tuple PyProof.Rows.boot_tuple (xaC (xlc (sc:=a_0 e_3) rfl rfl (by show ScB A_8 (a_0 e_3) _ "name" ["other"] [1];exact scB) (b_3 (xv 0) a_3) (λ _ _ _ _=>(D_3 (xtv (xG z hr (xaC (xv 1) (xaC (xv 0) xaN))) (λ _=>rfl)))) (λ _ _ _ _=>(xv 0))) xaN)))
 (xs1 (f_8 (xif (xtv (xv 2) (λ _=>rfl)) (z_4 (xaC i_8 (xaC (xv 2) xaN))) g_9))))))),Y,F.kp,Z⟩
theorem R_2 {f:Addr}{fd:FuncData} (F:Fun K "keys_meet" "keys_meet" e_3 f fd) (Y:Binds K fd ["one","other"] []) (Z:mg "keys_meet"=some (.ref f)) (T:Blt w K mg) (M:DefOk P w K mg base 3 "keys_meet" w_0) (z:DefOk P w K mg base 1 "keys_hold" e_9):DefOk P w K mg base 4 "keys_meet" r_3 :=
 ⟨f,fd,["one","other"],d_8 F S02 rfl rfl (λ O A outer s H E hr =>
 (xsC (s_4 (xw (ab9 (xt (cEq hr.units) (b_3 (xv 0) a_3) i_8) (H_3 (xt (cEq hr.units) (b_3 (xv 1) a_3) i_8))))
 (xs1 (f_8 ag2))
 xsN)
 (xsC (s_4 (xt (cEq hr.units) (b_3 (xv 0) a_3) i_8)
 (xs1 (f_8 (xG M hr (xaC (xv 1) (xaC (xv 0) xaN)))))
 xsN)
 (xsC (n_7 2 S02.nd (xTy aa0 rfl T.z_tuple PyProof.Rows.boot_tuple (xaC (xlc (sc:=a_0 e_3) rfl rfl (by show ScB A_8 (a_0 e_3) _ "name" ["other"] [1];exact scB) (b_3 (xv 0) a_3) (λ _ _ _ _=>(D_3 (xtv (xG z hr (xaC (xv 1) (xaC (xv 0) xaN))) (λ _=>rfl)))) (λ _ _ _ _=>(xv 0))) xaN)))
 (xs1 (f_8 (xif (xtv (xv 2) (λ _=>rfl)) (z_4 (xaC i_8 (xaC (xv 2) xaN))) g_9))))))),Y,F.kp,Z⟩
theorem X_3 {f:Addr}{fd:FuncData} (F:Fun K "keys_meet" "keys_meet" e_3 f fd) (O:Binds K fd ["one","other"] []) (M:mg "keys_meet"=some (.ref f)) (T:Blt w K mg) (z:DefOk P w K mg base 1 "keys_hold" e_9):DefOk P w K mg base 4 "keys_meet" r_3:=R_2 F O M T (M_5 F O M T (M_6 F O M T) z) z
abbrev j_6:Stmt:=top 8
theorem S03:FnScope ["low","high","step","rest","first","last"] ["low","high","step","rest"] (a_0 j_6):=scO
theorem I_6 {f:Addr}{fd:FuncData} (F:Fun K "stretch_made" "stretch_made" j_6 f fd) (O:Binds K fd ["low","high","step","rest"] []) (M:mg "stretch_made"=some (.ref f)) (T:Blt w K mg) :DefOk P w K mg base 1 "stretch_made" a_2 :=
 ⟨f,fd,["low","high","step","rest"],d_8 F S03 rfl rfl (λ z A outer s H E hr =>
 (xsC (s_4 (V_0 (xt3 cLe cLt a_3 (xv 3) (xv 2)))
 (xs1 (f_8 g_9))
 xsN)
 (xsC (n_7 4 S03.nd (xif (xt cIs (xv 0) g_9) g_9 (xb A_7 (xv 0) (xb x_2 (xb ad8 (xv 3) (xv 0)) (xv 2)))))
 (xsC (n_7 5 S03.nd (xif (xt cIs (xv 1) g_9) g_9 (xb ad8 (xv 1) (xb x_2 (xb ad8 (xv 1) (xv 3)) (xv 2)))))
 (xsC (s_4 (xw (ap8 (xt cIs (xv 4) g_9) (L_6 (xt cIs (xv 5) g_9))))
 (xs1 (f_8 (z_4 (xaC (xv 4) (xaC (xv 5) (xaC (xv 2) (xaC (xv 3) xaN)))))))
 xsN)
 (xsC (s_4 (xt cGt (xv 4) (xv 5))
 (xs1 (f_8 g_9))
 xsN)
 (xsC (s_4 (xt (cEq hr.units) (xv 4) (xv 5))
 (xs1 (f_8 (z_4 (xaC (xv 4) (xaC (xv 5) (xaC a_3 (xaC a_3 xaN)))))))
 xsN)
 (xs1 (f_8 (z_4 (xaC (xv 4) (xaC (xv 5) (xaC (xv 2) (xaC (xv 3) xaN)))))))))))))),O,F.kp,M⟩
abbrev p_0:Stmt:=top 9
theorem S04:FnScope ["v","low","high"] ["v","low","high"] (a_0 p_0):=scO
theorem R_9 {f:Addr}{fd:FuncData} (F:Fun K "is_between" "is_between" p_0 f fd) (O:Binds K fd ["v","low","high"] []) (M:mg "is_between"=some (.ref f)) (T:Blt w K mg) :DefOk P w K mg base 1 "is_between" d_7 :=
 ⟨f,fd,["v","low","high"],d_8 F S04 rfl rfl (λ z A outer s H E hr =>
 (xs1 (f_8 (be5 (xor (L_7 cIs (xv 1) g_9) (aq1 (L_7 cLe (xv 1) (xv 0)))) (aq1 (xor (L_7 cIs (xv 2) g_9) (aq1 (L_7 cLe (xv 0) (xv 2))))))))),O,F.kp,M⟩
abbrev m_1:Stmt:=top 10
theorem S05:FnScope ["one","v"] ["one","v"] (a_0 m_1):=scO
theorem M_2 {f:Addr}{fd:FuncData} (F:Fun K "stretch_has" "stretch_has" m_1 f fd) (Y:Binds K fd ["one","v"] []) (O:mg "stretch_has"=some (.ref f)) (T:Blt w K mg) (z:DefOk P w K mg base 1 "is_between" d_7):DefOk P w K mg base 2 "stretch_has" b_9 :=
 ⟨f,fd,["one","v"],d_8 F S05 rfl rfl (λ M A outer s H E hr =>
 (xs1 (f_8 (be5 (xG z hr (xaC (xv 1) (xaC (b_3 (xv 0) a_3) (xaC (b_3 (xv 0) a_3) xaN)))) (aq1 (L_7 (cEq hr.units) (xb x_2 (xv 1) (b_3 (xv 0) a_3)) (b_3 (xv 0) a_3))))))),Y,F.kp,O⟩
abbrev m_2:Stmt:=top 11
theorem S06:FnScope ["one","other"] ["one","other"] (a_0 m_2):=scO
theorem M_3 {f:Addr}{fd:FuncData} (F:Fun K "lower_bound" "lower_bound" m_2 f fd) (O:Binds K fd ["one","other"] []) (M:mg "lower_bound"=some (.ref f)) (T:Blt w K mg) :DefOk P w K mg base 1 "lower_bound" c_4 :=
 ⟨f,fd,["one","other"],d_8 F S06 rfl rfl (λ z A outer s H E hr =>
 (xsC (s_4 (xw (ap8 (xt cIs (xv 0) g_9) (L_6 (xt cIs (xv 1) g_9))))
 (xs1 (f_8 (xif (xt cIs (xv 0) g_9) (xv 1) (xv 0))))
 xsN)
 (xs1 (f_8 (xB (E_4 rfl) rfl T.z_max Zj (xaC (xv 0) (xaC (xv 1) xaN))))))),O,F.kp,M⟩
abbrev l_8:Stmt:=top 12
theorem S07:FnScope ["one","other"] ["one","other"] (a_0 l_8):=scO
theorem L_9 {f:Addr}{fd:FuncData} (F:Fun K "upper_bound" "upper_bound" l_8 f fd) (O:Binds K fd ["one","other"] []) (M:mg "upper_bound"=some (.ref f)) (T:Blt w K mg) :DefOk P w K mg base 1 "upper_bound" b_2 :=
 ⟨f,fd,["one","other"],d_8 F S07 rfl rfl (λ z A outer s H E hr =>
 (xsC (s_4 (xw (ap8 (xt cIs (xv 0) g_9) (L_6 (xt cIs (xv 1) g_9))))
 (xs1 (f_8 (xif (xt cIs (xv 0) g_9) (xv 1) (xv 0))))
 xsN)
 (xs1 (f_8 (xB (aA4 rfl) rfl T.z_min J6 (xaC (xv 0) (xaC (xv 1) xaN))))))),O,F.kp,M⟩
abbrev f_7:Stmt:=top 13
theorem S08:FnScope ["one","low","high"] ["one","low","high"] (a_0 f_7):=scO
theorem B_8 {f:Addr}{fd:FuncData} (F:Fun K "stretch_between" "stretch_between" f_7 f fd) (Z:Binds K fd ["one","low","high"] []) (mF:mg "stretch_between"=some (.ref f)) (T:Blt w K mg) (M:DefOk P w K mg base 1 "lower_bound" c_4) (z:DefOk P w K mg base 1 "stretch_made" a_2) (O:DefOk P w K mg base 1 "upper_bound" b_2):DefOk P w K mg base 2 "stretch_between" a_5 :=
 ⟨f,fd,["one","low","high"],d_8 F S08 rfl rfl (λ Y A outer s H E hr =>
 (xs1 (f_8 (xG z hr (xaC (xG M hr (xaC (b_3 (xv 0) a_3) (xaC (xv 1) xaN))) (xaC (xG O hr (xaC (b_3 (xv 0) a_3) (xaC (xv 2) xaN))) (xaC (b_3 (xv 0) a_3) (xaC (b_3 (xv 0) a_3) xaN)))))))),Z,F.kp,mF⟩
abbrev h_6:Stmt:=top 14
theorem S09:FnScope ["one","c"] ["one","c"] (a_0 h_6):=scO
theorem G_1 {f:Addr}{fd:FuncData} (F:Fun K "stretch_above" "stretch_above" h_6 f fd) (Y:Binds K fd ["one","c"] []) (O:mg "stretch_above"=some (.ref f)) (T:Blt w K mg) (z:DefOk P w K mg base 2 "stretch_between" a_5):DefOk P w K mg base 3 "stretch_above" c_2 :=
 ⟨f,fd,["one","c"],d_8 F S09 rfl rfl (λ M A outer s H E hr =>
 (xs1 (f_8 (xG z hr (xaC (xv 0) (xaC (xb A_7 (xv 1) a_3) (xaC g_9 xaN))))))),Y,F.kp,O⟩
abbrev h_5:Stmt:=top 15
theorem S0a:FnScope ["one","c"] ["one","c"] (a_0 h_5):=scO
theorem G_0 {f:Addr}{fd:FuncData} (F:Fun K "stretch_below" "stretch_below" h_5 f fd) (Y:Binds K fd ["one","c"] []) (O:mg "stretch_below"=some (.ref f)) (T:Blt w K mg) (z:DefOk P w K mg base 2 "stretch_between" a_5):DefOk P w K mg base 3 "stretch_below" c_1 :=
 ⟨f,fd,["one","c"],d_8 F S0a rfl rfl (λ M A outer s H E hr =>
 (xs1 (f_8 (xG z hr (xaC (xv 0) (xaC g_9 (xaC (xb ad8 (xv 1) a_3) xaN))))))),Y,F.kp,O⟩
abbrev e_6:Stmt:=top 16
noncomputable abbrev y_1:List Str:=["one","a","b","ends","step"]
theorem S0b:FnScope y_1 ["one","a","b"] (a_0 e_6):=scO
theorem F_9 {f:Addr}{fd:FuncData} (F:Fun K "stretch_moved" "stretch_moved" e_6 f fd) (Y:Binds K fd ["one","a","b"] []) (O:mg "stretch_moved"=some (.ref f)) (T:Blt w K mg) (z:DefOk P w K mg base 1 "stretch_made" a_2):DefOk P w K mg base 2 "stretch_moved" b_8 :=
 ⟨f,fd,["one","a","b"],d_8 F S0b rfl rfl (λ M A outer s H E hr =>
 (xsC (aq0 3 S0b.nd (sc:=a_0 e_6) rfl rfl (by show ScB y_1 (a_0 e_6) _ "end" ["b","a"] [2,1];exact scB) (bu8 (xv 0) xoN (xoS a_3)) (λ _ _ _ _=>A_3) (λ _ _ _ _=>(xif (xt cIs (xv 0) g_9) g_9 (xb A_7 (xb X_9 (xv 2) (xv 0)) (xv 1)))))
 (xsC (s_4 (xt cLt (xv 1) a_3)
 (xs1 (n_7 3 S0b.nd (U_6 (xaC (b_3 (xv 3) a_3) (xaC (b_3 (xv 3) a_3) xaN)))))
 xsN)
 (xsC (n_7 4 S0b.nd (xb X_9 (xB af2 rfl T.z_abs J7 (xaC (xv 1) xaN)) (b_3 (xv 0) a_3)))
 (xs1 (f_8 (xG z hr (xaC (b_3 (xv 3) a_3) (xaC (b_3 (xv 3) a_3) (xaC (xv 4) (xaC (xb x_2 (xb A_7 (xb X_9 (xv 1) (b_3 (xv 0) a_3)) (xv 2)) (xv 4)) xaN))))))))))),Y,F.kp,O⟩
abbrev d_3:Stmt:=top 17
theorem S0c:FnScope ["a","m","g","s","other","t","times","less"] ["a","m"] (a_0 d_3):=scO
theorem x_9 {f:Addr}{fd:FuncData} (F:Fun K "divisor_and_factor" "divisor_and_factor" d_3 f fd) (O:Binds K fd ["a","m"] []) (M:mg "divisor_and_factor"=some (.ref f)) (T:Blt w K mg) :DefOk P w K mg base 1 "divisor_and_factor" f_1 :=
 ⟨f,fd,["a","m"],d_8 F S0c rfl rfl (λ z A outer s H E hr =>
 (xsC (n_7 2 S0c.nd (xb x_2 (xv 0) (xv 1)))
 (xsC (n_7 3 S0c.nd a_3)
 (xsC (n_7 4 S0c.nd (xv 1))
 (xsC (n_7 5 S0c.nd a_3)
 (xsC (bg4 (xt (cNe hr.units) (xv 4) a_3)
 (xsC (n_7 6 S0c.nd (xb z_2 (xv 2) (xv 4)))
 (xsC (n_7 7 S0c.nd (xb ad8 (xv 2) (xb X_9 (xv 6) (xv 4))))
 (xsC (n_7 2 S0c.nd (xv 4))
 (xsC (n_7 4 S0c.nd (xv 7))
 (xsC (n_7 7 S0c.nd (xb ad8 (xv 3) (xb X_9 (xv 6) (xv 5))))
 (xsC (n_7 3 S0c.nd (xv 5))
 (xs1 (n_7 5 S0c.nd (xv 7))))))))))
 (xs1 (f_8 (z_4 (xaC (xv 2) (xaC (xv 3) xaN))))))))))),O,F.kp,M⟩
abbrev j_7:Stmt:=top 18
theorem S0d:FnScope ["one","a","b","found","divisor","away","step","ends","low","high"] ["one","a","b"] (a_0 j_7):=scO
theorem I_7 {f:Addr}{fd:FuncData} (F:Fun K "stretch_back" "stretch_back" j_7 f fd) (Z:Binds K fd ["one","a","b"] []) (mF:mg "stretch_back"=some (.ref f)) (T:Blt w K mg) (z:DefOk P w K mg base 1 "divisor_and_factor" f_1) (O:DefOk P w K mg base 2 "stretch_has" b_9) (M:DefOk P w K mg base 1 "stretch_made" a_2):DefOk P w K mg base 3 "stretch_back" b_0 :=
 ⟨f,fd,["one","a","b"],d_8 F S0d rfl rfl (λ Y A outer s H E hr =>
 (xsC (s_4 (xt (cEq hr.units) (xv 1) a_3)
 (xs1 (f_8 (xif (xtv (xG O hr (xaC (xv 0) (xaC (xv 2) xaN))) (λ _=>rfl)) (bx1 T.c_EVERY_VALUE) g_9)))
 xsN)
 (xsC (n_7 3 S0d.nd (xG z hr (xaC (xv 1) (xaC (b_3 (xv 0) a_3) xaN))))
 (xsC (n_7 4 S0d.nd (b_3 (xv 3) a_3))
 (xsC (n_7 5 S0d.nd (xb ad8 (b_3 (xv 0) a_3) (xv 2)))
 (xsC (s_4 (xt (cNe hr.units) (xb x_2 (xv 5) (xv 4)) a_3)
 (xs1 (f_8 g_9))
 xsN)
 (xsC (n_7 6 S0d.nd (xb z_2 (b_3 (xv 0) a_3) (xv 4)))
 (xsC (n_7 7 S0d.nd (xif (xt cGt (xv 1) a_3) (U_6 (xaC (b_3 (xv 0) a_3) (xaC (b_3 (xv 0) a_3) xaN))) (U_6 (xaC (b_3 (xv 0) a_3) (xaC (b_3 (xv 0) a_3) xaN)))))
 (xsC (n_7 8 S0d.nd (xif (xt cIs (b_3 (xv 7) a_3) g_9) g_9 (aL5 (xb z_2 (xb ad8 (xv 2) (b_3 (xv 7) a_3)) (xv 1)))))
 (xsC (n_7 9 S0d.nd (xif (xt cIs (b_3 (xv 7) a_3) g_9) g_9 (xb z_2 (xb ad8 (b_3 (xv 7) a_3) (xv 2)) (xv 1))))
 (xs1 (f_8 (xG M hr (xaC (xv 8) (xaC (xv 9) (xaC (xv 6) (xaC (xb x_2 (xb X_9 (xb z_2 (xv 5) (xv 4)) (b_3 (xv 3) a_3)) (xv 6)) xaN))))))))))))))))),Z,F.kp,mF⟩
abbrev j_5:Stmt:=top 19
theorem S0e:FnScope ["one","other","turns"] ["one","other"] (a_0 j_5):=scO
theorem I_5 {f:Addr}{fd:FuncData} (F:Fun K "stretch_meet" "stretch_meet" j_5 f fd) (Z:Binds K fd ["one","other"] []) (mF:mg "stretch_meet"=some (.ref f)) (T:Blt w K mg) (O:DefOk P w K mg base 3 "stretch_back" b_0) (z:DefOk P w K mg base 2 "stretch_between" a_5) (M:DefOk P w K mg base 2 "stretch_moved" b_8):DefOk P w K mg base 4 "stretch_meet" b_4 :=
 ⟨f,fd,["one","other"],d_8 F S0e rfl rfl (λ Y A outer s H E hr =>
 (xsC (n_7 2 S0e.nd (xG O hr (xaC (xv 1) (xaC (b_3 (xv 0) a_3) (xaC (b_3 (xv 0) a_3) xaN)))))
 (xsC (s_4 (xt cIs (xv 2) g_9)
 (xs1 (f_8 g_9))
 xsN)
 (xs1 (f_8 (xG z hr (xaC (xG M hr (xaC (xv 2) (xaC (b_3 (xv 0) a_3) (xaC (b_3 (xv 0) a_3) xaN)))) (xaC (b_3 (xv 0) a_3) (xaC (b_3 (xv 0) a_3) xaN))))))))),Z,F.kp,mF⟩
abbrev v_1:Stmt:=top 20
theorem S0f:FnScope ["values"] ["values"] (a_0 v_1):=scO
theorem am6 {f:Addr}{fd:FuncData} (F:Fun K "nearest" "nearest" v_1 f fd) (Y:Binds K fd ["values"] []) (O:mg "nearest"=some (.ref f)) (T:Blt w K mg) (hC:∃ c,fd.code=.ref c ∧ PySem.W.codeHdIn K c L2.TabP=true) :DefOk P w K mg base 3 "nearest" t_2 :=
 ⟨f,fd,["values"],bq7 F S0f rfl rfl (λ M A outer s H E z hr =>
 (xs1 (f_8 (bw9 (hr.mono (by decide)) (by obtain⟨c,h1,h2⟩:=hC;exact⟨c,z.symm.trans h1,h2⟩) (by exact⟨rfl,rfl,rfl,by decide +kernel,rfl,by decide +kernel,by decide +kernel⟩) (by intros;rfl) (by intro f c A outer s H E;exact (z_4 (xaC (xB af2 rfl T.z_abs J7 (xaC (xv 0) xaN)) (xaC (aL5 (xv 0)) xaN)))) T.z_min (xaC (xv 0) xaN))))),Y,F.kp,O⟩
abbrev j_4:Stmt:=top 21
theorem S0g:FnScope ["one","above","below","ends"] ["one"] (a_0 j_4):=scO
theorem I_4 {f:Addr}{fd:FuncData} (F:Fun K "stretch_some" "stretch_some" j_4 f fd) (Z:Binds K fd ["one"] []) (mF:mg "stretch_some"=some (.ref f)) (T:Blt w K mg) (O:DefOk P w K mg base 3 "nearest" t_2) (z:DefOk P w K mg base 3 "stretch_above" c_2) (M:DefOk P w K mg base 3 "stretch_below" c_1):DefOk P w K mg base 4 "stretch_some" d_0 :=
 ⟨f,fd,["one"],d_8 F S0g rfl rfl (λ Y A outer s H E hr =>
 (xsC (n_7 1 S0g.nd (xG z hr (xaC (xv 0) (xaC (aL5 a_3) xaN))))
 (xsC (n_7 2 S0g.nd (xG M hr (xaC (xv 0) (xaC a_3 xaN))))
 (xsC (aQ9 3 S0g.nd (bR4 (xt cIs (xv 1) g_9) (V_1 xaN) (V_1 (xaC (b_3 (xv 1) a_3) xaN))))
 (xsC (s_4 (xt q_3 (xv 2) g_9)
 (xs1 (aL7 3 (xaC (b_3 (xv 2) a_3) xaN)))
 xsN)
 (xs1 (be4 3 (f_8 (xG O hr (xaC (xv 3) xaN)))))))))),Z,F.kp,mF⟩
abbrev s_9:Stmt:=top 23
theorem S0h:FnScope ["keys","begin","end","stretch"] ["keys","begin","end","stretch"] (a_0 s_9):=scO
theorem ad6 {f:Addr}{fd:FuncData} (F:Fun K "box_made" "box_made" s_9 f fd) (O:Binds K fd ["keys","begin","end","stretch"] []) (M:mg "box_made"=some (.ref f)) (T:Blt w K mg) :DefOk P w K mg base 1 "box_made" b_6 :=
 ⟨f,fd,["keys","begin","end","stretch"],d_8 F S0h rfl rfl (λ z A outer s H E hr =>
 (xsC (s_4 (xw (ap8 (xt cIs (xv 0) g_9) (L_6 (xt cIs (xv 3) g_9))))
 (xs1 (f_8 g_9))
 xsN)
 (xsC (n_7 1 S0h.nd (xB (E_4 rfl) rfl T.z_max Zj (xaC (xv 1) (xaC a_3 xaN))))
 (xsC (s_4 (xw (ab9 (xt q_3 (xv 2) g_9) (H_3 (xt cLe (xv 2) (xv 1)))))
 (xs1 (f_8 g_9))
 xsN)
 (xs1 (f_8 (z_4 (xaC (xv 0) (xaC (xv 1) (xaC (xv 2) (xaC (xv 3) xaN))))))))))),O,F.kp,M⟩
abbrev v_4:Stmt:=top 24
theorem S0i:FnScope ["box","thing","time"] ["box","thing"] (a_0 v_4):=scO
theorem am9 {f:Addr}{fd:FuncData} (F:Fun K "box_has" "box_has" v_4 f fd) (Y:Binds K fd ["box","thing"] []) (Z:mg "box_has"=some (.ref f)) (T:Blt w K mg) (M:DefOk P w K mg base 1 "keys_hold" e_9) (z:DefOk P w K mg base 2 "stretch_has" b_9):DefOk P w K mg base 3 "box_has" j_0 :=
 ⟨f,fd,["box","thing"],d_8 F S0i rfl rfl (λ O A outer s H E hr =>
 (xsC (n_7 2 S0i.nd (b_3 (xv 1) a_3))
 (xsC (s_4 (xw (ap8 (xt cLt (xv 2) (b_3 (xv 0) a_3)) (L_6 (xw (ab9 (xt q_3 (b_3 (xv 0) a_3) g_9) (H_3 (xt cGe (xv 2) (b_3 (xv 0) a_3))))))))
 (xs1 (f_8 xbl))
 xsN)
 (xs1 (f_8 (be5 (xG M hr (xaC (b_3 (xv 0) a_3) (xaC (b_3 (xv 1) a_3) xaN))) (aq1 (xG z hr (xaC (b_3 (xv 0) a_3) (xaC (b_3 (xv 1) a_3) xaN)))))))))),Y,F.kp,Z⟩
abbrev s_8:Stmt:=top 25
theorem S0j:FnScope ["one","other","keys","stretch"] ["one","other"] (a_0 s_8):=scO
theorem ad5 {f:Addr}{fd:FuncData} (F:Fun K "box_meet" "box_meet" s_8 f fd) (bF:Binds K fd ["one","other"] []) (mF:mg "box_meet"=some (.ref f)) (T:Blt w K mg) (Y:DefOk P w K mg base 1 "box_made" b_6) (O:DefOk P w K mg base 4 "keys_meet" r_3) (z:DefOk P w K mg base 4 "stretch_meet" b_4) (M:DefOk P w K mg base 1 "upper_bound" b_2):DefOk P w K mg base 5 "box_meet" e_7 :=
 ⟨f,fd,["one","other"],d_8 F S0j rfl rfl (λ Z A outer s H E hr =>
 (xsC (n_7 2 S0j.nd (xG O hr (xaC (b_3 (xv 0) a_3) (xaC (b_3 (xv 1) a_3) xaN))))
 (xsC (n_7 3 S0j.nd (xG z hr (xaC (b_3 (xv 0) a_3) (xaC (b_3 (xv 1) a_3) xaN))))
 (xs1 (f_8 (xG Y hr (xaC (xv 2) (xaC (xB (E_4 rfl) rfl T.z_max Zj (xaC (b_3 (xv 0) a_3) (xaC (b_3 (xv 1) a_3) xaN))) (xaC (xG M hr (xaC (b_3 (xv 0) a_3) (xaC (b_3 (xv 1) a_3) xaN))) (xaC (xv 3) xaN)))))))))),bF,F.kp,mF⟩
abbrev q_6:Stmt:=top 26
theorem S0k:FnScope ["thing"] ["thing"] (a_0 q_6):=scO
theorem W_7 {f:Addr}{fd:FuncData} (F:Fun K "thing_box" "thing_box" q_6 f fd) (Y:Binds K fd ["thing"] []) (Z:mg "thing_box"=some (.ref f)) (T:Blt w K mg) (M:DefOk P w K mg base 1 "box_made" b_6) (z:DefOk P w K mg base 1 "stretch_made" a_2):DefOk P w K mg base 2 "thing_box" l_0 :=
 ⟨f,fd,["thing"],d_8 F S0k rfl rfl (λ O A outer s H E hr =>
 (xs1 (f_8 (xG M hr (xaC (z_4 (xaC i_8 (xaC (z_4 (xaC (b_3 (xv 0) a_3) xaN)) xaN))) (xaC (b_3 (xv 0) a_3) (xaC (xb A_7 (b_3 (xv 0) a_3) a_3) (xaC (xG z hr (xaC (b_3 (xv 0) a_3) (xaC (b_3 (xv 0) a_3) (xaC a_3 (xaC a_3 xaN))))) xaN)))))))),Y,F.kp,Z⟩
abbrev q_7:Stmt:=top 32
theorem S0l:FnScope ["works","name","row"] ["works","name"] (a_0 q_7):=scO
theorem X_0 {f:Addr}{fd:FuncData} (F:Fun K "row_named" "row_named" q_7 f fd) (O:Binds K fd ["works","name"] []) (M:mg "row_named"=some (.ref f)) (T:Blt w K mg) :DefOk P w K mg base 1 "row_named" f_9 :=
 ⟨f,fd,["works","name"],d_8 F S0l rfl rfl (λ z A outer s H E hr =>
 (xsC (aR0 (xgN 2 S0l.nd) (xv 0)
 (xs1 (s_4 (xt (cEq hr.units) (b_3 (xv 2) a_3) (xv 1))
 (xs1 (f_8 (xv 2)))
 xsN)))
 (xs1 (f_8 g_9)))),O,F.kp,M⟩
abbrev s_7:Stmt:=top 34
theorem S0m:FnScope ["x"] ["x"] (a_0 s_7):=scO
theorem ad4 {f:Addr}{fd:FuncData} (F:Fun K "is_whole" "is_whole" s_7 f fd) (O:Binds K fd ["x"] []) (M:mg "is_whole"=some (.ref f)) (T:Blt w K mg) :DefOk P w K mg base 1 "is_whole" r_4 :=
 ⟨f,fd,["x"],d_8 F S0m rfl rfl (λ z A outer s H E hr =>
 (xs1 (f_8 (be5 (xty (t:=.int) T.z_isinstance T.z_int PyProof.Rows.boot_int (xv 0)) (aq1 (bR5 (xty (t:=.bool) T.z_isinstance T.z_bool PyProof.Rows.boot_bool (xv 0)))))))),O,F.kp,M⟩
abbrev j_8:Stmt:=top 37
theorem S0n:FnScope ["how","left","right","shares"] ["how","left","right"] (a_0 j_8):=scO
theorem I_8 {f:Addr}{fd:FuncData} (F:Fun K "paired_value" "paired_value" j_8 f fd) (O:Binds K fd ["how","left","right"] []) (M:mg "paired_value"=some (.ref f)) (T:Blt w K mg) :DefOk P w K mg base 1 "paired_value" k_2 :=
 ⟨f,fd,["how","left","right"],d_8 F S0n rfl rfl (λ z A outer s H E hr =>
 (xsC (n_7 3 S0n.nd (xkd T.c_SHARES (xv 0)))
 (xs1 (f_8 (xb A_7 (xb X_9 (b_3 (xv 3) a_3) (xv 1)) (xb X_9 (b_3 (xv 3) a_3) (xv 2))))))),O,F.kp,M⟩
abbrev s_5:Stmt:=top 38
theorem S0o:FnScope ["row","lefts","rights","reach","how","by_key","right","pairs","left"] ["row","lefts","rights"] (a_0 s_5):=scO
theorem ad2 {f:Addr}{fd:FuncData} (F:Fun K "pairs_of" "pairs_of" s_5 f fd) (Y:Binds K fd ["row","lefts","rights"] []) (O:mg "pairs_of"=some (.ref f)) (T:Blt w K mg) (z:DefOk P w K mg base 1 "paired_value" k_2):DefOk P w K mg base 2 "pairs_of" p_5 :=
 ⟨f,fd,["row","lefts","rights"],d_8 F S0o rfl rfl (λ M A outer s H E hr =>
 (xsC (n_7 3 S0o.nd (b_3 (b_3 (xv 0) a_3) a_3))
 (xsC (n_7 4 S0o.nd (b_3 (b_3 (xv 0) a_3) a_3))
 (xsC (xdn 5 S0o.nd)
 (xsC (bS0 6 5 S0o.nd (xv 2))
 (xsC (aQ9 7 S0o.nd (V_1 xaN))
 (xsC (aR0 (xgN 8 S0o.nd) (xv 1)
 (xs1 (aR0 (xgN 6 S0o.nd) (bS3 5 (aY5 hr) (b_3 (xv 8) a_3) (U_6 xaN))
 (xs1 (s_4 (xt cLe (xB af2 rfl T.z_abs J7 (xaC (xb ad8 (b_3 (xv 8) a_3) (b_3 (xv 6) a_3)) xaN)) (xv 3))
 (xs1 (aL7 7 (xaC (z_4 (xaC (xB (E_4 rfl) rfl T.z_max Zj (xaC (b_3 (xv 8) a_3) (xaC (b_3 (xv 6) a_3) xaN))) (xaC (b_3 (xv 8) a_3) (xaC (xG z hr (xaC (xv 4) (xaC (b_3 (xv 8) a_3) (xaC (b_3 (xv 6) a_3) xaN)))) xaN)))) xaN)))
 xsN)))))
 (xs1 (be4 7 (f_8 (xB (C_4 hr.units) rfl T.z_sorted Z0 (xaC (xv 7) xaN)))))))))))),Y,F.kp,O⟩
abbrev o_4:Stmt:=top 39
theorem S0p:FnScope ["row","time","rest"] ["row","time"] (a_0 o_4):=scO
theorem R_3 {f:Addr}{fd:FuncData} (F:Fun K "windows_of" "windows_of" o_4 f fd) (O:Binds K fd ["row","time"] []) (M:mg "windows_of"=some (.ref f)) (T:Blt w K mg) :DefOk P w K mg base 1 "windows_of" g_4 :=
 ⟨f,fd,["row","time"],d_8 F S0p rfl rfl (λ z A outer s H E hr =>
 (xsC (n_7 2 S0p.nd (b_3 (xv 0) a_3))
 (xsC (s_4 (xt (cEq hr.units) (b_3 (xv 0) a_3) i_8)
 (xs1 (f_8 (U_6 (xaC (xb z_2 (xv 1) (b_3 (xv 2) a_3)) xaN))))
 xsN)
 (xsC (s_4 (xt (cEq hr.units) (b_3 (xv 0) a_3) i_8)
 (xs1 (f_8 (bR8 T.z_list T.z_range (xb A_7 (xb z_2 (xb ad8 (xv 1) (b_3 (xv 2) a_3)) (b_3 (xv 2) a_3)) a_3) (xb A_7 (xb z_2 (xv 1) (b_3 (xv 2) a_3)) a_3))))
 xsN)
 (xs1 (f_8 (U_6 (xaC a_3 xaN)))))))),O,F.kp,M⟩
abbrev r_2:Stmt:=top 40
theorem S0q:FnScope ["fold_word","values"] ["fold_word","values"] (a_0 r_2):=scO
theorem X_6 {f:Addr}{fd:FuncData} (F:Fun K "amount_of" "amount_of" r_2 f fd) (O:Binds K fd ["fold_word","values"] []) (M:mg "amount_of"=some (.ref f)) (T:Blt w K mg) :DefOk P w K mg base 1 "amount_of" c_5 :=
 ⟨f,fd,["fold_word","values"],d_8 F S0q rfl rfl (λ z A outer s H E hr =>
 (xsC (s_4 (xt (cEq hr.units) (xv 0) i_8)
 (xs1 (f_8 (xB H_1 rfl T.z_len Uc (xaC (xv 1) xaN))))
 xsN)
 (xsC (s_4 (xt (cEq hr.units) (xv 0) i_8)
 (xs1 (f_8 (xB (bc8 rfl) rfl T.z_sum PyProof.Rows.boot_sum (xaC (xv 1) xaN))))
 xsN)
 (xs1 (f_8 (xif (xt (cEq hr.units) (xv 0) i_8) (xB (E_4 rfl) rfl T.z_max Zj (xaC (xv 1) xaN)) (xB (aA4 rfl) rfl T.z_min J6 (xaC (xv 1) xaN)))))))),O,F.kp,M⟩
abbrev f_3:Stmt:=top 41
noncomputable abbrev z_6:List Str:=["row","things","values","thing","window"]
theorem S0r:FnScope z_6 ["row","things"] (a_0 f_3):=scO
theorem I_0 {f:Addr}{fd:FuncData} (F:Fun K "window_cells" "window_cells" f_3 f fd) (Y:Binds K fd ["row","things"] []) (Z:mg "window_cells"=some (.ref f)) (T:Blt w K mg) (M:DefOk P w K mg base 1 "amount_of" c_5) (z:DefOk P w K mg base 1 "windows_of" g_4):DefOk P w K mg base 2 "window_cells" k_0 :=
 ⟨f,fd,["row","things"],d_8 F S0r rfl rfl (λ O A outer s H E hr =>
 (xsC (xtn 2 S0r.nd)
 (xsC (bx0 2 3 4 S0r.nd (xv 1) (xG z hr (xaC (xv 0) (xaC (b_3 (xv 3) a_3) xaN))) (bg5 2 3 4 (aY5 hr)))
 (xs1 (xft 2 (f_8 (xlk (sc:=a_0 f_3) rfl rfl (by show ScB z_6 (a_0 f_3) _ "cell" ["values","row"] [2,0];exact scB) (xv 2) (λ _ _ _ _=>A_3) (λ _ _ _ _=>(z_4 (xaC (xv 0) (xaC (xG M hr (xaC (b_3 (b_3 (xv 2) a_3) (aL5 a_3)) (xaC (bR9 (aY5 hr) (xv 1) (xv 0) (λ _ _=>rfl)) xaN))) xaN))))))))))),Y,F.kp,Z⟩
abbrev p_1:Stmt:=top 44
theorem S0s:FnScope ["row","things"] ["row","things"] (a_0 p_1):=scO
theorem S_0 {f:Addr}{fd:FuncData} (F:Fun K "fold_cells" "fold_cells" p_1 f fd) (Y:Binds K fd ["row","things"] []) (O:mg "fold_cells"=some (.ref f)) (T:Blt w K mg) (z:DefOk P w K mg base 2 "window_cells" k_0):DefOk P w K mg base 3 "fold_cells" p_6 :=
 ⟨f,fd,["row","things"],d_8 F S0s rfl rfl (λ M A outer s H E hr =>
 (xs1 (f_8 (xB (aA2 hr.units) rfl T.z_sorted Z0 (xaC (xif (xt (cEq hr.units) (b_3 (xv 0) a_3) i_8) ag2 (xG z hr (xaC (xv 0) (xaC (xv 1) xaN)))) xaN))))),Y,F.kp,O⟩
abbrev m_0:Stmt:=top 45
theorem S0t:FnScope ["row","amount"] ["row","amount"] (a_0 m_0):=scO
theorem M_1 {f:Addr}{fd:FuncData} (F:Fun K "told_answer" "told_answer" m_0 f fd) (Y:Binds K fd ["row","amount"] []) (O:mg "told_answer"=some (.ref f)) (T:Blt w K mg) (z:DefOk P w K mg base 1 "is_between" d_7):DefOk P w K mg base 2 "told_answer" m_4 :=
 ⟨f,fd,["row","amount"],d_8 F S0t rfl rfl (λ M A outer s H E hr =>
 (xsC (s_4 (xw (ap8 (xt cIs (xv 1) g_9) (ap8 (V_0 (xtv (b_3 (xv 0) a_3) (λ _=>rfl))) (L_6 (xtv (xG z hr (xaC (xv 1) (xaC (b_3 (b_3 (xv 0) a_3) a_3) (xaC (b_3 (b_3 (xv 0) a_3) a_3) xaN)))) (λ _=>rfl))))))
 (xs1 (f_8 (xv 1)))
 xsN)
 (xs1 (f_8 g_9)))),Y,F.kp,O⟩
abbrev v_2:Stmt:=top 47
theorem S0u:FnScope ["key","begin","end"] ["key","begin","end"] (a_0 v_2):=scO
theorem am7 {f:Addr}{fd:FuncData} (F:Fun K "key_box" "key_box" v_2 f fd) (Y:Binds K fd ["key","begin","end"] []) (O:mg "key_box"=some (.ref f)) (T:Blt w K mg) (z:DefOk P w K mg base 1 "box_made" b_6):DefOk P w K mg base 2 "key_box" i_9 :=
 ⟨f,fd,["key","begin","end"],d_8 F S0u rfl rfl (λ M A outer s H E hr =>
 (xs1 (f_8 (xG z hr (xaC (z_4 (xaC i_8 (xaC (z_4 (xaC (xv 0) xaN)) xaN))) (xaC (xv 1) (xaC (xv 2) (xaC (bx1 T.c_EVERY_VALUE) xaN)))))))),Y,F.kp,O⟩
abbrev o_5:Stmt:=top 48
theorem S0v:FnScope ["fold","key","window","rest"] ["fold","key","window"] (a_0 o_5):=scO
theorem R_4 {f:Addr}{fd:FuncData} (F:Fun K "window_box" "window_box" o_5 f fd) (Y:Binds K fd ["fold","key","window"] []) (O:mg "window_box"=some (.ref f)) (T:Blt w K mg) (z:DefOk P w K mg base 2 "key_box" i_9):DefOk P w K mg base 3 "window_box" c_0 :=
 ⟨f,fd,["fold","key","window"],d_8 F S0v rfl rfl (λ M A outer s H E hr =>
 (xsC (n_7 3 S0v.nd (b_3 (xv 0) a_3))
 (xsC (s_4 (xt (cEq hr.units) (b_3 (xv 0) a_3) i_8)
 (xs1 (f_8 (xG z hr (xaC (xv 1) (xaC (xb X_9 (xv 2) (b_3 (xv 3) a_3)) (xaC (xb X_9 (xb A_7 (xv 2) a_3) (b_3 (xv 3) a_3)) xaN))))))
 xsN)
 (xsC (s_4 (xt (cEq hr.units) (b_3 (xv 0) a_3) i_8)
 (xs1 (f_8 (xG z hr (xaC (xv 1) (xaC (xb X_9 (xv 2) (b_3 (xv 3) a_3)) (xaC (xb A_7 (xb X_9 (xv 2) (b_3 (xv 3) a_3)) (b_3 (xv 3) a_3)) xaN))))))
 xsN)
 (xs1 (f_8 (xG z hr (xaC (xv 1) (xaC a_3 (xaC g_9 xaN)))))))))),Y,F.kp,O⟩
abbrev v_3:Stmt:=top 49
theorem S0w:FnScope ["fold","key","window"] ["fold","key","window"] (a_0 v_3):=scO
theorem am8 {f:Addr}{fd:FuncData} (F:Fun K "is_cell" "is_cell" v_3 f fd) (Z:Binds K fd ["fold","key","window"] []) (mF:mg "is_cell"=some (.ref f)) (T:Blt w K mg) (O:DefOk P w K mg base 1 "is_key" C_0) (M:DefOk P w K mg base 1 "is_whole" r_4) (z:DefOk P w K mg base 3 "window_box" c_0):DefOk P w K mg base 4 "is_cell" l_2 :=
 ⟨f,fd,["fold","key","window"],d_8 F S0w rfl rfl (λ Y A outer s H E hr =>
 (xsC (s_4 (xw (ap8 (V_0 (xtv (xG O hr (xaC (xv 1) xaN)) (λ _=>rfl))) (L_6 (V_0 (xtv (xG M hr (xaC (xv 2) xaN)) (λ _=>rfl))))))
 (xs1 (f_8 xbl))
 xsN)
 (xsC (s_4 (xt (cEq hr.units) (b_3 (xv 0) a_3) i_8)
 (xs1 (f_8 (L_7 (cEq hr.units) (xv 2) a_3)))
 xsN)
 (xsC (s_4 (xt (cEq hr.units) (b_3 (xv 0) a_3) i_8)
 (xs1 (f_8 (L_7 cGe (xv 2) a_3)))
 xsN)
 (xs1 (f_8 (L_7 q_3 (xG z hr (xaC (xv 0) (xaC (xv 1) (xaC (xv 2) xaN)))) g_9))))))),Z,F.kp,mF⟩
abbrev p_3:Stmt:=top 50
theorem S0x:FnScope ["works","ask","key","window","row"] ["works","ask","key","window"] (a_0 p_3):=scO
theorem S_2 {f:Addr}{fd:FuncData} (F:Fun K "check_cell" "check_cell" p_3 f fd) (Y:Binds K fd ["works","ask","key","window"] []) (Z:mg "check_cell"=some (.ref f)) (T:Blt w K mg) (M:DefOk P w K mg base 4 "is_cell" l_2) (z:DefOk P w K mg base 1 "row_named" f_9):DefOk P w K mg base 5 "check_cell" p_8 :=
 ⟨f,fd,["works","ask","key","window"],d_8 F S0x rfl rfl (λ O A outer s H E hr =>
 (xsC (n_7 4 S0x.nd (xG z hr (xaC (xv 0) (xaC (xv 1) xaN))))
 (xs1 (s_4 (xw (ap8 (xt cIs (xv 4) g_9) (ap8 (xt (cNe hr.units) (b_3 (xv 4) a_3) i_8) (L_6 (V_0 (xtv (xG M hr (xaC (xG z hr (xaC (xv 0) (xaC (b_3 (b_3 (xv 4) a_3) a_3) xaN))) (xaC (xv 2) (xaC (xv 3) xaN)))) (λ _=>rfl)))))))
 (xs1 bR3)
 xsN)))),Y,F.kp,Z⟩
abbrev k_6:Stmt:=top 51
noncomputable abbrev J_0:List Str:=["box","things"]
theorem S0y:FnScope J_0 ["box","things"] (a_0 k_6):=scO
theorem W_6 {f:Addr}{fd:FuncData} (F:Fun K "things_in" "things_in" k_6 f fd) (Y:Binds K fd ["box","things"] []) (O:mg "things_in"=some (.ref f)) (T:Blt w K mg) (z:DefOk P w K mg base 3 "box_has" j_0):DefOk P w K mg base 4 "things_in" h_0 :=
 ⟨f,fd,["box","things"],d_8 F S0y rfl rfl (λ M A outer s H E hr =>
 (xsC (s_4 (xt cIs (xv 0) g_9)
 (xs1 (f_8 (U_6 xaN)))
 xsN)
 (xs1 (f_8 (xlc (sc:=a_0 k_6) rfl rfl (by show ScB J_0 (a_0 k_6) _ "thing" ["box"] [0];exact scB) (xv 1) (λ _ _ _ _=>(D_3 (xtv (xG z hr (xaC (xv 1) (xaC (xv 0) xaN))) (λ _=>rfl)))) (λ _ _ _ _=>(xv 0))))))),Y,F.kp,O⟩
abbrev k_8:Stmt:=top 52
noncomputable abbrev J_2:List Str:=["fold","box","things","values"]
theorem S0z:FnScope J_2 ["fold","box","things"] (a_0 k_8):=scO
theorem X_7 {f:Addr}{fd:FuncData} (F:Fun K "amount_in" "amount_in" k_8 f fd) (Y:Binds K fd ["fold","box","things"] []) (Z:mg "amount_in"=some (.ref f)) (T:Blt w K mg) (z:DefOk P w K mg base 1 "amount_of" c_5) (M:DefOk P w K mg base 4 "things_in" h_0):DefOk P w K mg base 5 "amount_in" o_3 :=
 ⟨f,fd,["fold","box","things"],d_8 F S0z rfl rfl (λ O A outer s H E hr =>
 (xsC (aq0 3 S0z.nd (sc:=a_0 k_8) rfl rfl (by show ScB J_2 (a_0 k_8) _ "thing" [] [];exact scB) (xG M hr (xaC (xv 1) (xaC (xv 2) xaN))) (λ _ _ _ _=>A_3) (λ _ _ _ _=>(b_3 (xv 0) a_3)))
 (xs1 (f_8 (xif (xtv (xv 3) (λ _=>rfl)) (xG z hr (xaC (b_3 (b_3 (xv 0) a_3) (aL5 a_3)) (xaC (xv 3) xaN))) g_9))))),Y,F.kp,Z⟩
abbrev h_3:Stmt:=top 53
theorem S10:FnScope ["fold_word","amount","stretch"] ["fold_word","amount","stretch"] (a_0 h_3):=scO
theorem F_7 {f:Addr}{fd:FuncData} (F:Fun K "values_beyond" "values_beyond" h_3 f fd) (Y:Binds K fd ["fold_word","amount","stretch"] []) (Z:mg "values_beyond"=some (.ref f)) (T:Blt w K mg) (z:DefOk P w K mg base 3 "stretch_above" c_2) (M:DefOk P w K mg base 3 "stretch_below" c_1):DefOk P w K mg base 4 "values_beyond" h_7 :=
 ⟨f,fd,["fold_word","amount","stretch"],d_8 F S10 rfl rfl (λ O A outer s H E hr =>
 (xsC (s_4 (xt cIs (xv 1) g_9)
 (xs1 (f_8 (xv 2)))
 xsN)
 (xs1 (f_8 (xif (xt (cEq hr.units) (xv 0) i_8) (xG z hr (xaC (xv 2) (xaC (xv 1) xaN))) (xG M hr (xaC (xv 2) (xaC (xv 1) xaN)))))))),Y,F.kp,Z⟩
abbrev d_5:Stmt:=top 54
noncomputable abbrev w_7:List Str:=["ask_row","fold_word","amount","stretch","bounds","part","passed","parts"]
theorem S11:FnScope w_7 ["ask_row","fold_word","amount","stretch"] (a_0 d_5):=scO
theorem D_8 {f:Addr}{fd:FuncData} (F:Fun K "turning_values" "turning_values" d_5 f fd) (bF:Binds K fd ["ask_row","fold_word","amount","stretch"] []) (mF:mg "turning_values"=some (.ref f)) (T:Blt w K mg) (M:DefOk P w K mg base 3 "stretch_above" c_2) (O:DefOk P w K mg base 3 "stretch_below" c_1) (z:DefOk P w K mg base 2 "stretch_between" a_5) (Z:DefOk P w K mg base 2 "told_answer" m_4) (Y:DefOk P w K mg base 4 "values_beyond" h_7):DefOk P w K mg base 5 "turning_values" d_6 :=
 ⟨f,fd,["ask_row","fold_word","amount","stretch"],d_8 F S11 rfl rfl (λ aa A outer s H E hr =>
 (xsC (n_7 4 S11.nd (bw7 (b_3 (xv 0) a_3) (aq1 (z_4 (xaC g_9 (xaC g_9 xaN))))))
 (xsC (s_4 (xt (cEq hr.units) (xv 1) i_8)
 (xsC (n_7 6 S11.nd (be5 (L_7 q_3 (xv 2) g_9) (be5 (L_7 q_3 (b_3 (xv 4) a_3) g_9) (aq1 (L_7 cGt (xv 2) (b_3 (xv 4) a_3))))))
 (xs1 (f_8 (xif (xtv (xv 6) (λ _=>rfl)) (U_6 xaN) (U_6 (xaC (xv 3) xaN))))))
 xsN)
 (xsC (s_4 (xw (ab9 (xt (cEq hr.units) (xv 1) i_8) (H_3 (xt cIs (xv 2) g_9))))
 (xs1 (f_8 (U_6 (xaC (xv 3) xaN))))
 xsN)
 (xsC (s_4 (xt (cEq hr.units) (xv 1) i_8)
 (xsC (n_7 7 S11.nd (U_6 (xaC (xG M hr (xaC (xv 3) (xaC a_3 xaN))) (xaC (xG O hr (xaC (xv 3) (xaC a_3 xaN))) xaN))))
 (xs1 (f_8 (xlc (sc:=a_0 d_5) rfl rfl (by show ScB w_7 (a_0 d_5) _ "part" [] [];exact scB) (xv 7) (λ _ _ _ _=>(D_3 (xt q_3 (xv 0) g_9))) (λ _ _ _ _=>(xv 0))))))
 xsN)
 (xsC (n_7 5 S11.nd (xG Y hr (xaC (xv 1) (xaC (xv 2) (xaC (xv 3) xaN)))))
 (xsC (s_4 (xw (ab9 (xt q_3 (xv 5) g_9) (H_3 (xt cIs (xG Z hr (xaC (xv 0) (xaC (xv 2) xaN))) g_9))))
 (xs1 (n_7 5 S11.nd (xG z hr (xaC (xv 5) (xaC (b_3 (xv 4) a_3) (xaC (b_3 (xv 4) a_3) xaN))))))
 xsN)
 (xs1 (f_8 (xif (xt cIs (xv 5) g_9) (U_6 xaN) (U_6 (xaC (xv 5) xaN)))))))))))),bF,F.kp,mF⟩
abbrev j_2:Stmt:=top 59
theorem S12:FnScope ["two"] ["two"] (a_0 j_2):=scO
theorem I_2 {f:Addr}{fd:FuncData} (F:Fun K "turned_round" "turned_round" j_2 f fd) (O:Binds K fd ["two"] []) (M:mg "turned_round"=some (.ref f)) (T:Blt w K mg) :DefOk P w K mg base 1 "turned_round" c_3 :=
 ⟨f,fd,["two"],d_8 F S12 rfl rfl (λ z A outer s H E hr =>
 (xs1 (f_8 (xif (xt cIs (xv 0) g_9) g_9 (z_4 (xaC (b_3 (xv 0) a_3) (xaC (b_3 (xv 0) a_3) xaN))))))),O,F.kp,M⟩
abbrev p_2:Stmt:=top 60
theorem S13:FnScope ["reach","one","other"] ["reach","one","other"] (a_0 p_2):=scO
theorem S_1 {f:Addr}{fd:FuncData} (F:Fun K "end_beside" "end_beside" p_2 f fd) (Y:Binds K fd ["reach","one","other"] []) (O:mg "end_beside"=some (.ref f)) (T:Blt w K mg) (z:DefOk P w K mg base 1 "upper_bound" b_2):DefOk P w K mg base 2 "end_beside" p_7 :=
 ⟨f,fd,["reach","one","other"],d_8 F S13 rfl rfl (λ M A outer s H E hr =>
 (xs1 (f_8 (xG z hr (xaC (b_3 (xv 1) a_3) (xaC (xif (xt cIs (b_3 (xv 2) a_3) g_9) g_9 (xb A_7 (b_3 (xv 2) a_3) (xv 0))) xaN)))))),Y,F.kp,O⟩
abbrev j_3:Stmt:=top 61
theorem S14:FnScope ["reach","begin","one","other","first","end"] ["reach","begin","one","other"] (a_0 j_3):=scO
theorem I_3 {f:Addr}{fd:FuncData} (F:Fun K "times_beside" "times_beside" j_3 f fd) (Y:Binds K fd ["reach","begin","one","other"] []) (O:mg "times_beside"=some (.ref f)) (T:Blt w K mg) (z:DefOk P w K mg base 2 "end_beside" p_7):DefOk P w K mg base 3 "times_beside" f_4 :=
 ⟨f,fd,["reach","begin","one","other"],d_8 F S14 rfl rfl (λ M A outer s H E hr =>
 (xsC (n_7 4 S14.nd (xB (aK3 rfl) rfl T.z_max Zj (xaC (b_3 (xv 2) a_3) (xaC (xb ad8 (b_3 (xv 3) a_3) (xv 0)) (xaC (xv 1) xaN)))))
 (xsC (n_7 5 S14.nd (xG z hr (xaC (xv 0) (xaC (xv 2) (xaC (xv 3) xaN)))))
 (xsC (s_4 (xw (ab9 (xt q_3 (xv 5) g_9) (H_3 (xt cGe (xv 4) (xv 5)))))
 (xs1 (f_8 g_9))
 xsN)
 (xs1 (f_8 (z_4 (xaC (xv 4) (xaC (xB (E_4 rfl) rfl T.z_max Zj (xaC (b_3 (xv 3) a_3) (xaC (xb ad8 (xv 4) (xv 0)) xaN))) xaN))))))))),Y,F.kp,O⟩
abbrev o_6:Stmt:=top 62
theorem S15:FnScope ["reach","begin","left","right"] ["reach","begin","left","right"] (a_0 o_6):=scO
theorem R_5 {f:Addr}{fd:FuncData} (F:Fun K "times_into" "times_into" o_6 f fd) (Y:Binds K fd ["reach","begin","left","right"] []) (Z:mg "times_into"=some (.ref f)) (T:Blt w K mg) (z:DefOk P w K mg base 3 "times_beside" f_4) (M:DefOk P w K mg base 1 "turned_round" c_3):DefOk P w K mg base 4 "times_into" k_9 :=
 ⟨f,fd,["reach","begin","left","right"],d_8 F S15 rfl rfl (λ O A outer s H E hr =>
 (xs1 (f_8 (bw7 (xG z hr (xaC (xv 0) (xaC (xv 1) (xaC (xv 2) (xaC (xv 3) xaN))))) (aq1 (xG M hr (xaC (xG z hr (xaC (xv 0) (xaC (xv 1) (xaC (xv 3) (xaC (xv 2) xaN))))) xaN))))))),Y,F.kp,Z⟩
abbrev d_4:Stmt:=top 63
noncomputable abbrev w_6:List Str:=["stretch","ends"]
theorem S16:FnScope w_6 ["stretch"] (a_0 d_4):=scO
theorem D_7 {f:Addr}{fd:FuncData} (F:Fun K "values_at_ends" "values_at_ends" d_4 f fd) (Y:Binds K fd ["stretch"] []) (O:mg "values_at_ends"=some (.ref f)) (T:Blt w K mg) (z:DefOk P w K mg base 4 "stretch_some" d_0):DefOk P w K mg base 5 "values_at_ends" g_1 :=
 ⟨f,fd,["stretch"],d_8 F S16 rfl rfl (λ M A outer s H E hr =>
 (xsC (aq0 1 S16.nd (sc:=a_0 d_4) rfl rfl (by show ScB w_6 (a_0 d_4) _ "end" [] [];exact scB) (bu8 (xv 0) xoN (xoS a_3)) (λ _ _ _ _=>(D_3 (xt q_3 (xv 0) g_9))) (λ _ _ _ _=>(xv 0)))
 (xs1 (f_8 (xif (xtv (xv 1) (λ _=>rfl)) (xv 1) (U_6 (xaC (xG z hr (xaC (xv 0) xaN)) xaN))))))),Y,F.kp,O⟩
abbrev h_4:Stmt:=top 64
theorem S17:FnScope ["shares","wanted","one","other","value","fit","met"] ["shares","wanted","one","other"] (a_0 h_4):=scO
theorem F_8 {f:Addr}{fd:FuncData} (F:Fun K "values_beside" "values_beside" h_4 f fd) (bF:Binds K fd ["shares","wanted","one","other"] []) (mF:mg "values_beside"=some (.ref f)) (T:Blt w K mg) (O:DefOk P w K mg base 3 "stretch_back" b_0) (M:DefOk P w K mg base 4 "stretch_meet" b_4) (Y:DefOk P w K mg base 4 "stretch_some" d_0) (z:DefOk P w K mg base 5 "values_at_ends" g_1):DefOk P w K mg base 6 "values_beside" d_1 :=
 ⟨f,fd,["shares","wanted","one","other"],d_8 F S17 rfl rfl (λ Z A outer s H E hr =>
 (xsC (aR0 (xgN 4 S17.nd) (xG z hr (xaC (xv 3) xaN))
 (xsC (n_7 5 S17.nd (xG O hr (xaC (xv 1) (xaC (b_3 (xv 0) a_3) (xaC (xb X_9 (b_3 (xv 0) a_3) (xv 4)) xaN)))))
 (xsC (n_7 6 S17.nd (xif (xt cIs (xv 5) g_9) g_9 (xG M hr (xaC (xv 2) (xaC (xv 5) xaN)))))
 (xs1 (s_4 (xt q_3 (xv 6) g_9)
 (xs1 (f_8 (z_4 (xaC (xG Y hr (xaC (xv 6) xaN)) (xaC (xv 4) xaN)))))
 xsN)))))
 (xs1 (f_8 g_9)))),bF,F.kp,mF⟩
abbrev l_7:Stmt:=top 65
theorem S18:FnScope ["how","wanted","left","right","shares","found"] ["how","wanted","left","right"] (a_0 l_7):=scO
theorem L_8 {f:Addr}{fd:FuncData} (F:Fun K "values_into" "values_into" l_7 f fd) (Y:Binds K fd ["how","wanted","left","right"] []) (Z:mg "values_into"=some (.ref f)) (T:Blt w K mg) (M:DefOk P w K mg base 1 "turned_round" c_3) (z:DefOk P w K mg base 6 "values_beside" d_1):DefOk P w K mg base 7 "values_into" i_2 :=
 ⟨f,fd,["how","wanted","left","right"],d_8 F S18 rfl rfl (λ O A outer s H E hr =>
 (xsC (n_7 4 S18.nd (xkd T.c_SHARES (xv 0)))
 (xsC (n_7 5 S18.nd (xG z hr (xaC (xv 4) (xaC (xv 1) (xaC (xv 2) (xaC (xv 3) xaN))))))
 (xs1 (f_8 (bw7 (xv 5) (aq1 (xG M hr (xaC (xG z hr (xaC (xG M hr (xaC (xv 4) xaN)) (xaC (xv 1) (xaC (xv 3) (xaC (xv 2) xaN))))) xaN))))))))),Y,F.kp,Z⟩
abbrev l_9:Stmt:=top 66
theorem S19:FnScope ["pair","begin","wanted","left","right","times","values","key"] ["pair","begin","wanted","left","right"] (a_0 l_9):=scO
theorem M_0 {f:Addr}{fd:FuncData} (F:Fun K "turning_two" "turning_two" l_9 f fd) (Y:Binds K fd ["pair","begin","wanted","left","right"] []) (Z:mg "turning_two"=some (.ref f)) (T:Blt w K mg) (M:DefOk P w K mg base 4 "times_into" k_9) (z:DefOk P w K mg base 7 "values_into" i_2):DefOk P w K mg base 8 "turning_two" g_5 :=
 ⟨f,fd,["pair","begin","wanted","left","right"],d_8 F S19 rfl rfl (λ O A outer s H E hr =>
 (xsC (n_7 5 S19.nd (xG M hr (xaC (b_3 (b_3 (xv 0) a_3) a_3) (xaC (xv 1) (xaC (xv 3) (xaC (xv 4) xaN))))))
 (xsC (s_4 (xt cIs (xv 5) g_9)
 (xs1 (f_8 g_9))
 xsN)
 (xsC (n_7 6 S19.nd (xG z hr (xaC (b_3 (b_3 (xv 0) a_3) a_3) (xaC (xv 2) (xaC (b_3 (xv 3) a_3) (xaC (b_3 (xv 4) a_3) xaN))))))
 (xsC (s_4 (xt cIs (xv 6) g_9)
 (xs1 (f_8 g_9))
 xsN)
 (xsC (n_7 7 S19.nd (b_3 (b_3 (b_3 (xv 3) a_3) a_3) a_3))
 (xs1 (f_8 (z_4 (xaC (z_4 (xaC (b_3 (xv 5) a_3) (xaC (xv 7) (xaC (b_3 (xv 6) a_3) xaN)))) (xaC (z_4 (xaC (b_3 (xv 5) a_3) (xaC (xv 7) (xaC (b_3 (xv 6) a_3) xaN)))) xaN))))))))))),Y,F.kp,Z⟩
abbrev e_8:Stmt:=top 67
noncomputable abbrev v_9:List Str:=["near","there","ways","side"]
theorem S1a:FnScope v_9 ["near","there","ways"] (a_0 e_8):=scO
theorem W_9 {f:Addr}{fd:FuncData} (F:Fun K "side_near" "side_near" e_8 f fd) (Y:Binds K fd ["near","there","ways"] []) (Z:mg "side_near"=some (.ref f)) (T:Blt w K mg) (M:DefOk P w K mg base 5 "box_meet" e_7) (z:DefOk P w K mg base 2 "thing_box" l_0):DefOk P w K mg base 6 "side_near" o_2 :=
 ⟨f,fd,["near","there","ways"],d_8 F S1a rfl rfl (λ O A outer s H E hr =>
 (xsC (aQ8 3 S1a.nd (sc:=a_0 e_8) rfl rfl (by show ScB2 v_9 (a_0 e_8) _ "box" "way" ["near"] [0];exact⟨scB,rfl,by decide +kernel⟩) (xv 2) (λ _ _ _ _=>A_3) (λ _ _ _ _=>(z_4 (xaC (xG M hr (xaC (xv 0) (xaC (xv 2) xaN))) (xaC (xv 1) xaN)))))
 (xs1 (f_8 (xb A_7 (xlc (sc:=a_0 e_8) rfl rfl (by show ScB v_9 (a_0 e_8) _ "one" [] [];exact scB) (xv 3) (λ _ _ _ _=>(D_3 (xt q_3 (b_3 (xv 0) a_3) g_9))) (λ _ _ _ _=>(xv 0))) (xlc (sc:=a_0 e_8) rfl rfl (by show ScB v_9 (a_0 e_8) _ "thing" [] [];exact scB) (xv 1) (λ _ _ _ _=>A_3) (λ _ _ _ _=>(z_4 (xaC (xG z hr (xaC (xv 0) xaN)) (xaC g_9 xaN)))))))))),Y,F.kp,Z⟩
abbrev j_1:Stmt:=top 68
theorem S1b:FnScope ["ask_row","fold","pair","box","there","ways","near","lefts","rights","amount","wanted","any_rights","found","left","right","new","things"] ["ask_row","fold","pair","box","there","ways"] (a_0 j_1):=scO
theorem I_1 {f:Addr}{fd:FuncData} (F:Fun K "turning_twos" "turning_twos" j_1 f fd) (bF:Binds K fd ["ask_row","fold","pair","box","there","ways"] []) (mF:mg "turning_twos"=some (.ref f)) (T:Blt w K mg) (Z:DefOk P w K mg base 5 "amount_in" o_3) (aa:DefOk P w K mg base 1 "box_made" b_6) (ab:DefOk P w K mg base 2 "pairs_of" p_5) (z:DefOk P w K mg base 6 "side_near" o_2) (M:DefOk P w K mg base 4 "things_in" h_0) (Y:DefOk P w K mg base 8 "turning_two" g_5) (O:DefOk P w K mg base 5 "turning_values" d_6):DefOk P w K mg base 9 "turning_twos" k_1 :=
 ⟨f,fd,["ask_row","fold","pair","box","there","ways"],d_8 F S1b rfl rfl (λ ac A outer s H E hr =>
 (@YSs.go _ _ _ (ysC (x_5 6 S1b.nd (ye (xG aa hr (xaC (b_3 (xv 3) a_3) (xaC a_3 (xaC (b_3 (xv 3) a_3) (xaC (b_3 (xv 3) a_3) xaN))))))) (ysC (x_5 7 S1b.nd (ye (xG M hr (xaC (xv 6) (xaC (b_3 (xv 4) a_3) xaN))))) (ysC (x_5 8 S1b.nd (ye (xG M hr (xaC (xv 6) (xaC (b_3 (xv 4) a_3) xaN))))) (ysC (x_5 9 S1b.nd (ye (xG Z hr (xaC (xv 1) (xaC (xv 3) (xaC (xG ab hr (xaC (xv 2) (xaC (xv 7) (xaC (xv 8) xaN)))) xaN)))))) (ysC (x_5 10 S1b.nd (yix (ye (xG O hr (xaC (xv 0) (xaC (b_3 (b_3 (xv 1) a_3) (aL5 a_3)) (xaC (xv 9) (xaC (bx1 T.c_EVERY_VALUE) xaN)))))) (ye a_3))) (ysC (x_5 11 S1b.nd (ye (xG z hr (xaC (xv 6) (xaC (xv 8) (xaC (b_3 (xv 5) a_3) xaN)))))) (ysC (yx (aQ9 12 S1b.nd (V_1 xaN))) (ysC (bu7 (xgN 13 S1b.nd) (ye (xG z hr (xaC (xv 6) (xaC (xv 7) (xaC (b_3 (xv 5) a_3) xaN)))))
 (ys1 (bu7 (xgN 14 S1b.nd) (ye (xv 11))
 (ysC (x_5 15 S1b.nd (ye (xor (L_7 q_3 (b_3 (xv 13) a_3) g_9) (aq1 (L_7 q_3 (b_3 (xv 14) a_3) g_9))))) (ysC (x_5 16 S1b.nd (ye (xif (xtv (xv 15) (λ _=>rfl)) (xG Y hr (xaC (xv 2) (xaC (b_3 (xv 3) a_3) (xaC (xv 10) (xaC (b_3 (xv 13) a_3) (xaC (b_3 (xv 14) a_3) xaN)))))) g_9))) (ys1 (yif (xt q_3 (xv 16) g_9)
 (ys1 (yx (aL7 12 (xaC (z_4 (xaC (xv 13) (xaC (xv 14) (xaC (xv 16) xaN)))) xaN))))
 ysN))))))) (ys1 (yx (be4 12 (f_8 (xv 12))))))))))))))),bF,F.kp,mF⟩
abbrev k_7:Stmt:=top 69
noncomputable abbrev J_1:List Str:=["boxes"]
theorem S1c:FnScope J_1 ["boxes"] (a_0 k_7):=scO
theorem W_8 {f:Addr}{fd:FuncData} (F:Fun K "still_new" "still_new" k_7 f fd) (O:Binds K fd ["boxes"] []) (M:mg "still_new"=some (.ref f)) (T:Blt w K mg) :DefOk P w K mg base 1 "still_new" o_1 :=
 ⟨f,fd,["boxes"],d_8 F S1c rfl rfl (λ z A outer s H E hr =>
 (xs1 (f_8 (xlc (sc:=a_0 k_7) rfl rfl (by show ScB J_1 (a_0 k_7) _ "box" [] [];exact scB) (xv 0) (λ _ _ _ _=>A_3) (λ _ _ _ _=>(z_4 (xaC (xv 0) (xaC xbl xaN)))))))),O,F.kp,M⟩
abbrev r_1:Stmt:=top 70
theorem S1d:FnScope ["works","ask","ask_row","fold"] ["works","ask"] (a_0 r_1):=scO
theorem X_5 {f:Addr}{fd:FuncData} (F:Fun K "cell_rows" "cell_rows" r_1 f fd) (Y:Binds K fd ["works","ask"] []) (O:mg "cell_rows"=some (.ref f)) (T:Blt w K mg) (z:DefOk P w K mg base 1 "row_named" f_9):DefOk P w K mg base 2 "cell_rows" t_3 :=
 ⟨f,fd,["works","ask"],d_8 F S1d rfl rfl (λ M A outer s H E hr =>
 (xsC (n_7 2 S1d.nd (xG z hr (xaC (xv 0) (xaC (xv 1) xaN))))
 (xsC (n_7 3 S1d.nd (xG z hr (xaC (xv 0) (xaC (b_3 (b_3 (xv 2) a_3) a_3) xaN))))
 (xs1 (f_8 (z_4 (xaC (xv 2) (xaC (xv 3) (xaC (xG z hr (xaC (xv 0) (xaC (b_3 (b_3 (xv 3) a_3) a_3) xaN))) xaN))))))))),Y,F.kp,O⟩
abbrev p_4:Stmt:=top 71
theorem S1e:FnScope ["works","ask","key","window","there","boxes","rows","ways","found"] ["works","ask","key","window","there","boxes"] (a_0 p_4):=scO
theorem S_3 {f:Addr}{fd:FuncData} (F:Fun K "boxes_turn" "boxes_turn" p_4 f fd) (bF:Binds K fd ["works","ask","key","window","there","boxes"] []) (mF:mg "boxes_turn"=some (.ref f)) (T:Blt w K mg) (Z:DefOk P w K mg base 2 "cell_rows" t_3) (Y:DefOk P w K mg base 5 "check_cell" p_8) (z:DefOk P w K mg base 1 "still_new" o_1) (M:DefOk P w K mg base 9 "turning_twos" k_1) (O:DefOk P w K mg base 3 "window_box" c_0):DefOk P w K mg base 10 "boxes_turn" l_3 :=
 ⟨f,fd,["works","ask","key","window","there","boxes"],d_8 F S1e rfl rfl (λ aa A outer s H E hr =>
 (xsC (xsx (xG Y hr (xaC (xv 0) (xaC (xv 1) (xaC (xv 2) (xaC (xv 3) xaN))))))
 (xsC (n_7 6 S1e.nd (xG Z hr (xaC (xv 0) (xaC (xv 1) xaN))))
 (xsC (s_4 (xt (cEq hr.units) (b_3 (b_3 (xv 6) a_3) a_3) i_8)
 (xsC (n_7 7 S1e.nd (z_4 (xaC (xG z hr (xaC (b_3 (xv 5) a_3) xaN)) (xaC (xG z hr (xaC (b_3 (xv 5) a_3) xaN)) xaN))))
 (xs1 (n_7 8 S1e.nd (xG M hr (xaC (b_3 (xv 6) a_3) (xaC (b_3 (xv 6) a_3) (xaC (b_3 (xv 6) a_3) (xaC (xG O hr (xaC (b_3 (xv 6) a_3) (xaC (xv 2) (xaC (xv 3) xaN)))) (xaC (xv 4) (xaC (xv 7) xaN))))))))))
 (xs1 (n_7 8 S1e.nd ag2)))
 (xs1 (f_8 (L_7 cGt (xB H_1 rfl T.z_len Uc (xaC (xv 8) xaN)) a_3))))))),bF,F.kp,mF⟩
abbrev m_3:Stmt:=top 73
theorem S1f:FnScope ["_law_script","_law_k"] ["_law_script","_law_k"] (a_0 m_3):=scO
theorem M_4 {f:Addr}{fd:FuncData} (F:Fun K "_law_cell_at" "_law_cell_at" m_3 f fd) (O:Binds K fd ["_law_script","_law_k"] []) (M:mg "_law_cell_at"=some (.ref f)) (T:Blt w K mg) :DefOk P w K mg base 1 "_law_cell_at" g_7 :=
 ⟨f,fd,["_law_script","_law_k"],d_8 F S1f rfl rfl (λ z A outer s H E hr =>
 (xsC (s_4 (xt cLt (xv 1) (xB H_1 rfl T.z_len Uc (xaC (xv 0) xaN)))
 (xs1 (f_8 (b_3 (xv 0) (xv 1))))
 xsN)
 (xs1 (f_8 a_3)))),O,F.kp,M⟩
abbrev o_8:Stmt:=top 74
theorem S1g:FnScope ["_law_cell","_law_size","_law_found","_law_number","_law_other","_law_k","_law_rest"] ["_law_cell","_law_size"] (a_0 o_8):=scO
theorem R_7 {f:Addr}{fd:FuncData} (F:Fun K "_law_stream" "_law_stream" o_8 f fd) (O:Binds K fd ["_law_cell","_law_size"] []) (M:mg "_law_stream"=some (.ref f)) (T:Blt w K mg) :DefN P w K mg base 1 "_law_stream" i_0 :=
 ⟨f,fd,["_law_cell","_law_size"],br0 F S1g rfl rfl (λ z A outer s H E hr =>
 (xnC (xnS (aQ9 2 S1g.nd (V_1 xaN)))
 (bR7 (xt cGe (xv 0) (xb bW4 a_3 a_3))
 (xnC (xnS (n_7 6 S1g.nd (xb z_2 (xv 0) a_3)))
 (xnC (xnS (ag3 T.z_range (xgN 5 S1g.nd) (xv 1) (xsC (aL7 2 (xaC (xb x_2 (xv 6) a_3) xaN))
 (xs1 (n_7 6 S1g.nd (xb z_2 (xv 6) a_3))))))
 (bw8 2)))
 (xnC (xnS (n_7 3 S1g.nd (xb x_2 (xb X_9 (xb A_7 (xb x_2 (xv 0) a_3) a_3) a_3) a_3)))
 (xnC (xnS (n_7 4 S1g.nd (xb x_2 (xb X_9 (xb A_7 (xb x_2 (xv 0) a_3) a_3) a_3) a_3)))
 (xnC (xnS (ag3 T.z_range (xgN 5 S1g.nd) (xv 1) (xsC (n_7 3 S1g.nd (xb A_7 (xb A_7 (xb x_2 (xb X_9 (xv 3) (xb A_7 (xb z_2 (xv 3) a_3) a_3)) a_3) (xv 5)) a_3))
 (xsC (n_7 4 S1g.nd (xb x_2 (xb X_9 (xv 4) a_3) a_3))
 (xs1 (aL7 2 (xaC (xb A_7 (xv 3) (xv 4)) xaN)))))))
 (xnO 2))))))),O,F.kp,M⟩
abbrev s_6:Stmt:=top 75
theorem S1h:FnScope ["_law_xs","_law_name","_law_below","_law_amount","_law_word","_law_step"] ["_law_xs","_law_name","_law_below"] (a_0 s_6):=scO
theorem ad3 {f:Addr}{fd:FuncData} (F:Fun K "_law_fold" "_law_fold" s_6 f fd) (O:Binds K fd ["_law_xs","_law_name","_law_below"] []) (M:mg "_law_fold"=some (.ref f)) (T:Blt w K mg) :DefB P w K mg base 1 "_law_fold" m_5 :=
 ⟨f,fd,["_law_xs","_law_name","_law_below"],ay5 F S1h rfl rfl (λ z A outer s H E hr =>
 (@YSs.go _ _ _ (ysC (x_5 3 S1h.nd (yix (aC8 (yaC (ye i_8) (yaC (ye i_8) (yaC (ye i_8) (yaC (ye i_8) yaN))))) (yb x_2 (yb z_2 (ye (xq 0)) (ye a_3)) (ye a_3)))) (ysC (x_5 4 S1h.nd (yix (aC8 (yaC (ye i_8) (yaC (ye i_8) (yaC (ye i_8) yaN)))) (yb x_2 (yb z_2 (ye (xq 0)) (ye a_3)) (ye a_3)))) (ysC (yif (xt (cEq hr.units) (xv 4) i_8)
 (ys1 (aQ7 (v_7 (yaC (ye i_8) (yaC (ye (xv 1)) (yaC (v_7 (yaC (ye (xv 2)) yaN)) (yaC (v_7 (yaC (yb A_7 (ye a_3) (yb x_2 (yb z_2 (ye (xq 0)) (ye a_3)) (ye a_3))) (yaC (ye (xv 3)) yaN))) yaN)))))))
 ysN) (ysC (yif (xt (cEq hr.units) (xv 4) i_8)
 (ysC (x_5 5 S1h.nd (yb A_7 (ye a_3) (yb x_2 (yb z_2 (ye (xq 0)) (ye a_3)) (ye a_3)))) (ys1 (aQ7 (v_7 (yaC (ye i_8) (yaC (ye (xv 1)) (yaC (v_7 (yaC (ye (xv 2)) yaN)) (yaC (v_7 (yaC (yb A_7 (yb A_7 (ye (xv 5)) (ye a_3)) (yb x_2 (yb z_2 (ye (xq 0)) (ye a_3)) (ye a_3))) (yaC (ye (xv 5)) (yaC (ye (xv 3)) yaN)))) yaN))))))))
 ysN) (ys1 (aQ7 (v_7 (yaC (ye i_8) (yaC (ye (xv 1)) (yaC (v_7 (yaC (ye (xv 2)) yaN)) (yaC (v_7 (yaC (ye (xv 3)) yaN)) yaN))))))))))))),O,F.kp,M⟩
abbrev o_7:Stmt:=top 77
theorem S1i:FnScope ["_law_xs","_law_most","_law_things_here","_law_k"] ["_law_xs","_law_most"] (a_0 o_7):=scO
theorem R_6 {f:Addr}{fd:FuncData} (F:Fun K "_law_things" "_law_things" o_7 f fd) (O:Binds K fd ["_law_xs","_law_most"] []) (M:mg "_law_things"=some (.ref f)) (T:Blt w K mg) :DefB P w K mg base 1 "_law_things" g_6 :=
 ⟨f,fd,["_law_xs","_law_most"],ay5 F S1i rfl rfl (λ z A outer s H E hr =>
 (xsC (aQ9 2 S1i.nd (V_1 xaN))
 (xsC (ag3 T.z_range (xgN 3 S1i.nd) (xb x_2 (xb z_2 (xq 0) a_3) (xv 1)) (xs1 (aL7 2 (xaC (z_4 (xaC (xb x_2 (xb z_2 (xq 0) a_3) a_3) (xaC (b_3 (U_6 (xaC i_8 (xaC i_8 xaN))) (xb x_2 (xb z_2 (xq 0) a_3) a_3)) (xaC (xb ad8 (xb x_2 (xb z_2 (xq 0) a_3) a_3) a_3) xaN)))) xaN))))
 (xs1 (be4 2 (f_8 (xB (C_4 hr.units) rfl T.z_sorted Z0 (xaC (xv 2) xaN)))))))),O,F.kp,M⟩
abbrev q_9:Stmt:=top 78
theorem S1j:FnScope ["_law_xs","_law_most","_law_far","_law_boxes_here","_law_k","_law_some","_law_keys","_law_begin","_law_end","_law_low","_law_step","_law_stretch","_law_box"] ["_law_xs","_law_most","_law_far"] (a_0 q_9):=scO
theorem X_2 {f:Addr}{fd:FuncData} (F:Fun K "_law_boxes" "_law_boxes" q_9 f fd) (Y:Binds K fd ["_law_xs","_law_most","_law_far"] []) (Z:mg "_law_boxes"=some (.ref f)) (T:Blt w K mg) (M:DefOk P w K mg base 1 "box_made" b_6) (z:DefOk P w K mg base 1 "stretch_made" a_2):DefB P w K mg base 2 "_law_boxes" i_3 :=
 ⟨f,fd,["_law_xs","_law_most","_law_far"],ay5 F S1j rfl rfl (λ O A outer s H E hr =>
 (@YSs.go _ _ _ (ysC (yx (aQ9 3 S1j.nd (V_1 xaN))) (ysC (bg3 T.z_range (xgN 4 S1j.nd) (xb x_2 (xb z_2 (xq 0) a_3) (xv 1))
 (ysC (x_5 5 S1j.nd (aC8 (yaC (v_7 (yaC (ye i_8) (yaC (v_7 (yaC (ye i_8) yaN)) yaN))) (yaC (v_7 (yaC (ye i_8) (yaC (v_7 yaN) yaN))) (yaC (v_7 (yaC (ye i_8) (yaC (v_7 (yaC (ye i_8) yaN)) yaN))) (yaC (v_7 (yaC (ye i_8) (yaC (v_7 (yaC (ye i_8) (yaC (ye i_8) yaN))) yaN))) (yaC (v_7 (yaC (ye i_8) (yaC (v_7 (yaC (ye i_8) yaN)) yaN))) yaN))))))) (ysC (x_5 6 S1j.nd (yix (ye (xv 5)) (yb x_2 (yb z_2 (ye (xq 0)) (ye a_3)) (ye a_3)))) (ysC (x_5 7 S1j.nd (yb x_2 (yb z_2 (ye (xq 0)) (ye a_3)) (ye a_3))) (ysC (x_5 8 S1j.nd (yb A_7 (yb A_7 (ye (xv 7)) (ye a_3)) (yb x_2 (yb z_2 (ye (xq 0)) (ye a_3)) (ye (xv 2))))) (ysC (x_5 9 S1j.nd (yb ad8 (yb x_2 (yb z_2 (ye (xq 0)) (ye a_3)) (ye a_3)) (ye a_3))) (ysC (x_5 10 S1j.nd (yb A_7 (ye a_3) (yb x_2 (yb z_2 (ye (xq 0)) (ye a_3)) (ye a_3)))) (ysC (x_5 11 S1j.nd (ye (xG z hr (xaC (xv 9) (xaC (xb A_7 (xv 9) (xb x_2 (xb z_2 (xq 0) a_3) (xv 2))) (xaC (xv 10) (xaC (xb x_2 (xb z_2 (xq 0) a_3) (xv 10)) xaN))))))) (ysC (x_5 12 S1j.nd (ye (xG M hr (xaC (xv 6) (xaC (xv 7) (xaC (xv 8) (xaC (xv 11) xaN))))))) (ys1 (yif (xt q_3 (xv 12) g_9)
 (ys1 (yx (aL7 3 (xaC (xv 12) xaN))))
 ysN))))))))))) (ys1 (yx (be4 3 (f_8 (xv 3))))))))),Y,F.kp,Z⟩
abbrev j_9:Stmt:=top 79
theorem S1k:FnScope ["_law_boxes_here","_law_key","_law_things_here","_law_keys","_law_begin","_law_end","_law_stretch","_law_time","_law_value"] ["_law_boxes_here","_law_key"] (a_0 j_9):=scO
theorem I_9 {f:Addr}{fd:FuncData} (F:Fun K "_law_in_boxes" "_law_in_boxes" j_9 f fd) (O:Binds K fd ["_law_boxes_here","_law_key"] []) (M:mg "_law_in_boxes"=some (.ref f)) (T:Blt w K mg) :DefOk P w K mg base 1 "_law_in_boxes" e_4 :=
 ⟨f,fd,["_law_boxes_here","_law_key"],d_8 F S1k rfl rfl (λ z A outer s H E hr =>
 (xsC (aQ9 2 S1k.nd (V_1 xaN))
 (xsC (aR0 (xgT (be3 (xgN 3 S1k.nd) (be3 (xgN 4 S1k.nd) (be3 (xgN 5 S1k.nd) (be3 (xgN 6 S1k.nd) bJ1))))) (xv 0)
 (xs1 (s_4 (xt (cEq hr.units) (L_7 bI3 (xv 1) (b_3 (xv 3) a_3)) (L_7 (cEq hr.units) (b_3 (xv 3) a_3) i_8))
 (xs1 (aL6 T.z_range (xgN 7 S1k.nd) (xv 4) (xv 5) (xs1 (aL6 T.z_range (xgN 8 S1k.nd) (b_3 (xv 6) a_3) (xb A_7 (b_3 (xv 6) a_3) a_3) (xs1 (s_4 (xt (cEq hr.units) (xb x_2 (xv 8) (b_3 (xv 6) a_3)) (b_3 (xv 6) a_3))
 (xs1 (aL7 2 (xaC (z_4 (xaC (xv 7) (xaC (xv 1) (xaC (xv 8) xaN)))) xaN)))
 xsN))))))
 xsN)))
 (xs1 (be4 2 (f_8 (xv 2))))))),O,F.kp,M⟩
abbrev o_9:Stmt:=top 80
theorem S1l:FnScope ["_law_pair","_law_fold_here","_law_lefts","_law_rights","_law_cell","_law_one","_law_found"] ["_law_pair","_law_fold_here","_law_lefts","_law_rights","_law_cell"] (a_0 o_9):=scO
theorem R_8 {f:Addr}{fd:FuncData} (F:Fun K "_law_answer" "_law_answer" o_9 f fd) (Y:Binds K fd ["_law_pair","_law_fold_here","_law_lefts","_law_rights","_law_cell"] []) (Z:mg "_law_answer"=some (.ref f)) (T:Blt w K mg) (z:DefOk P w K mg base 3 "fold_cells" p_6) (M:DefOk P w K mg base 2 "pairs_of" p_5):DefOk P w K mg base 4 "_law_answer" i_1 :=
 ⟨f,fd,["_law_pair","_law_fold_here","_law_lefts","_law_rights","_law_cell"],d_8 F S1l rfl rfl (λ O A outer s H E hr =>
 (xsC (aR0 (xgT (be3 (xgN 5 S1l.nd) (be3 (xgN 6 S1l.nd) bJ1))) (xG z hr (xaC (xv 1) (xaC (xG M hr (xaC (xv 0) (xaC (xv 2) (xaC (xv 3) xaN)))) xaN)))
 (xs1 (s_4 (xt (cEq hr.units) (xv 5) (xv 4))
 (xs1 (f_8 (xv 6)))
 xsN)))
 (xs1 (f_8 g_9)))),Y,F.kp,Z⟩
abbrev q_8:Stmt:=top 81
theorem S1m:FnScope ["_law_pair","_law_fold_here","_law_there","_law_news","_law_cell","_law_now","_law_left","_law_right","_law_lefts","_law_rights"] ["_law_pair","_law_fold_here","_law_there","_law_news","_law_cell"] (a_0 q_8):=scO
theorem X_1 {f:Addr}{fd:FuncData} (F:Fun K "_law_moved" "_law_moved" q_8 f fd) (Y:Binds K fd ["_law_pair","_law_fold_here","_law_there","_law_news","_law_cell"] []) (O:mg "_law_moved"=some (.ref f)) (T:Blt w K mg) (z:DefOk P w K mg base 4 "_law_answer" i_1):DefOk P w K mg base 5 "_law_moved" l_1 :=
 ⟨f,fd,["_law_pair","_law_fold_here","_law_there","_law_news","_law_cell"],d_8 F S1m rfl rfl (λ M A outer s H E hr =>
 (@YSs.go _ _ _ (ysC (x_5 5 S1m.nd (ye (xG z hr (xaC (xv 0) (xaC (xv 1) (xaC (b_3 (xv 2) a_3) (xaC (b_3 (xv 2) a_3) (xaC (xv 4) xaN)))))))) (ysC (bu7 (xgN 6 S1m.nd) (yb A_7 (yix (ye (xv 3)) (ye a_3)) (aC8 (yaC (ye g_9) yaN)))
 (ys1 (bu7 (xgN 7 S1m.nd) (yb A_7 (yix (ye (xv 3)) (ye a_3)) (aC8 (yaC (ye g_9) yaN)))
 (ysC (x_5 8 S1m.nd (yix (ye (xv 2)) (ye a_3))) (ysC (x_5 9 S1m.nd (yix (ye (xv 2)) (ye a_3))) (ysC (yif (xt q_3 (xv 6) g_9)
 (ys1 (x_5 8 S1m.nd (ye (xB (C_4 hr.units) rfl T.z_sorted Z0 (xaC (xb A_7 (xv 8) (U_6 (xaC (xv 6) xaN))) xaN)))))
 ysN) (ysC (yif (xt q_3 (xv 7) g_9)
 (ys1 (x_5 9 S1m.nd (ye (xB (C_4 hr.units) rfl T.z_sorted Z0 (xaC (xb A_7 (xv 9) (U_6 (xaC (xv 7) xaN))) xaN)))))
 ysN) (ys1 (yif (xt (cNe hr.units) (xG z hr (xaC (xv 0) (xaC (xv 1) (xaC (xv 8) (xaC (xv 9) (xaC (xv 4) xaN)))))) (xv 5))
 (ys1 (aQ7 (ye xbl)))
 ysN))))))))) (ys1 (aQ7 (ye xbl))))))),Y,F.kp,O⟩
abbrev Q_3:Stmt:=top 82
theorem S1n:FnScope ["_law_script","_law_xs","_law_fold_here","_law_pair","_law_works","_law_there","_law_boxes_here","_law_key","_law_window","_law_handed","_law_found","_law_news"] ["_law_script"] (a_0 Q_3):=scO
theorem bq9 {f:Addr}{fd:FuncData} (F:Fun K "law" "law" Q_3 f fd) (T:Blt w K mg) (O:DefB P w K mg base 2 "_law_boxes" i_3) (Y:DefOk P w K mg base 1 "_law_cell_at" g_7) (ac:DefB P w K mg base 1 "_law_fold" m_5) (z:DefOk P w K mg base 1 "_law_in_boxes" e_4) (ab:DefOk P w K mg base 5 "_law_moved" l_1) (Z:DefN P w K mg base 1 "_law_stream" i_0) (M:DefB P w K mg base 1 "_law_things" g_6) (aa:DefOk P w K mg base 10 "boxes_turn" l_3):FnOk P w K mg base CX0 11 f fd ["_law_script"] (spP K av9) :=
 d_8 F S1n rfl rfl (λ ad A outer s H E hr =>
 (@YSs.go _ _ _ (ysC (yx (bR6 1 S1n.nd Z (hr.mono (by decide)) (xaC (xG Y hr (xaC (xv 0) (xaC a_3 xaN))) (xaC a_3 xaN)))) (ysC (x_5 2 S1n.nd (ye (xFb 1 ac (hr.mono (by decide)) (xaC i_8 (xaC i_8 xaN))))) (ysC (yif (xt (cEq hr.units) (b_3 (b_3 (xv 2) a_3) (aL5 a_3)) i_8)
 (ys1 (x_5 2 S1n.nd (yb bn3 (ye (bu8 (xv 2) xoN (xoS a_3))) (v_7 (yaC (yb bn3 (ye (bu8 (b_3 (xv 2) a_3) xoN (xoS (aL5 a_3)))) (v_7 (yaC (yix (aC8 (yaC (ye i_8) (yaC (ye i_8) (yaC (ye i_8) yaN)))) (yb x_2 (yb z_2 (ye (xq 1)) (ye a_3)) (ye a_3))) yaN))) yaN)))))
 ysN) (ysC (x_5 3 S1n.nd (v_7 (yaC (ye i_8) (yaC (ye i_8) (yaC (v_7 (yaC (ye i_8) (yaC (ye i_8) yaN))) (yaC (v_7 (yaC (yb x_2 (yb z_2 (ye (xq 1)) (ye a_3)) (ye a_3)) (yaC (yix (aC8 (yaC (ye i_8) (yaC (ye i_8) (yaC (ye i_8) (yaC (ye i_8) yaN))))) (yb x_2 (yb z_2 (ye (xq 1)) (ye a_3)) (ye a_3))) yaN))) yaN)))))) (ysC (x_5 4 S1n.nd (aC8 (yaC (v_7 (yaC (ye i_8) (yaC (ye i_8) (yaC (v_7 yaN) (yaC (v_7 (yaC (ye g_9) (yaC (ye g_9) yaN))) yaN))))) (yaC (v_7 (yaC (ye i_8) (yaC (ye i_8) (yaC (v_7 yaN) (yaC (v_7 (yaC (ye g_9) (yaC (ye g_9) yaN))) yaN))))) (yaC (ye (xv 3)) (yaC (ye (xv 2)) (yaC (v_7 (yaC (ye i_8) (yaC (ye i_8) (yaC (v_7 (yaC (ye i_8) yaN)) (yaC (v_7 yaN) yaN))))) yaN))))))) (ysC (x_5 5 S1n.nd (v_7 (yaC (ye (xFb 1 M (hr.mono (by decide)) (xaC a_3 xaN))) (yaC (ye (xFb 1 M (hr.mono (by decide)) (xaC a_3 xaN))) yaN)))) (ysC (x_5 6 S1n.nd (v_7 (yaC (ye (xFb 1 O (hr.mono (by decide)) (xaC a_3 (xaC a_3 xaN)))) (yaC (ye (xFb 1 O (hr.mono (by decide)) (xaC a_3 (xaC a_3 xaN)))) yaN)))) (ysC (x_5 7 S1n.nd (yix (aC8 (yaC (ye i_8) (yaC (ye i_8) (yaC (ye i_8) yaN)))) (yb x_2 (yb z_2 (ye (xq 1)) (ye a_3)) (ye a_3)))) (ysC (x_5 8 S1n.nd (yb x_2 (yb z_2 (ye (xq 1)) (ye a_3)) (ye a_3))) (ysC (yif (xt (cEq hr.units) (b_3 (xv 2) a_3) i_8)
 (ys1 (x_5 8 S1n.nd (ye a_3)))
 ysN) (ysC (x_5 9 S1n.nd (v_7 (yaC (v_7 (yaC (ye (xTy H_0 rfl T.z_list Ym (xaC (b_3 (xv 5) a_3) xaN))) (yaC (ye (xTy H_0 rfl T.z_list Ym (xaC (b_3 (xv 5) a_3) xaN))) yaN))) (yaC (v_7 (yaC (ye (xTy H_0 rfl T.z_list Ym (xaC (b_3 (xv 6) a_3) xaN))) (yaC (ye (xTy H_0 rfl T.z_list Ym (xaC (b_3 (xv 6) a_3) xaN))) yaN))) yaN)))) (ysC (x_5 10 S1n.nd (ye (xG aa hr (xaC (xv 4) (xaC i_8 (xaC (xv 7) (xaC (xv 8) (xaC (b_3 (xv 9) a_3) (xaC (b_3 (xv 9) a_3) xaN))))))))) (ysC (yif (xw (ap8 (V_0 (xtv (xty (t:=.bool) T.z_isinstance T.z_bool PyProof.Rows.boot_bool (xv 10)) (λ _=>rfl))) (L_6 (xt (cNe hr.units) (xv 9) (z_4 (xaC (xv 5) (xaC (xv 6) xaN)))))))
 (ys1 (aQ7 (ye xbl)))
 ysN) (ysC (x_5 11 S1n.nd (v_7 (yaC (ye (xG z hr (xaC (b_3 (xv 6) a_3) (xaC (xv 7) xaN)))) (yaC (ye (xG z hr (xaC (b_3 (xv 6) a_3) (xaC (xv 7) xaN)))) yaN)))) (ys1 (aQ7 (ye (L_7 (cEq hr.units) (xv 10) (xG ab hr (xaC (xv 3) (xaC (xv 2) (xaC (xv 5) (xaC (xv 11) (xaC (z_4 (xaC (xv 7) (xaC (xv 8) xaN))) xaN))))))))))))))))))))))))))
end
end Fx
namespace Fx
open PySem
noncomputable abbrev kA:Str:=Str.ofString "a"
noncomputable abbrev kB:Str:=Str.ofString "b"
noncomputable abbrev kZ:Str:=Str.ofString "zz"
def IsK (k:Str):Prop:=k=kA\/k=kB\/k=kZ
structure Th where
 t:Int
 k:Str
 v:Int
 deriving DecidableEq
noncomputable def tD (x:Th):D:=.tup [.int x.t,.str x.k,.int x.v]
noncomputable def unT:D->Th
 |.tup [.int t,.str k,.int v]=>⟨t,k,v⟩
 |_=>⟨0,Str.empty,0⟩
theorem bg8 (x:Th):unT (tD x)=x:=rfl
theorem bo3 (L:List Th):(L.map tD).map unT=L:=by rw[Zy];exact (Yy λ x _=>bg8 x).trans (List.map_id L)
theorem ac3 (L:List Th):∃ S:List Th,sortT (L.map tD)=S.map tD/\S.Perm L:=by
 have z:=q_4 (L.map tD);have e:sortT (L.map tD)=((sortT (L.map tD)).map unT).map tD:=by rw[Zy];refine ((Yy (g:=id) λ d M=>?_).trans (List.map_id _)).symm;obtain⟨x,_,rfl⟩:=List.mem_map.mp (z.mem_iff.mp M);rfl
 refine⟨(sortT (L.map tD)).map unT,e,?_⟩;have:=z.map unT;rw[bo3] at this;exact this
noncomputable abbrev wC:Str:=Str.ofString "count"
noncomputable abbrev wS:Str:=Str.ofString "sum"
noncomputable abbrev wM:Str:=Str.ofString "most"
noncomputable abbrev wL:Str:=Str.ofString "least"
theorem n1:(wC=wS)=False:=Zx (by decide +kernel)
theorem n2:(wC=wM)=False:=Zx (by decide +kernel)
theorem n3:(wS=wC)=False:=Zx (by decide +kernel)
theorem n4:(wM=wC)=False:=Zx (by decide +kernel)
theorem n5:(wM=wS)=False:=Zx (by decide +kernel)
theorem n7:(wL=wC)=False:=Zx (by decide +kernel)
theorem n8:(wL=wS)=False:=Zx (by decide +kernel)
theorem n9:(wL=wM)=False:=Zx (by decide +kernel)
abbrev IsW (w:Str):Prop:=w=wC\/w=wS\/w=wM\/w=wL
theorem S_6:∀ (r:List Int) (m:Int),M_8 m r∈m::r
 |[],m=>qg
 |x::r,m=>by
  show M_8 (if m<x then x else m) r∈_;have:=S_6 r (if m<x then x else m);rcases qw this with h | h
  ·rw[h];split <;> simp
  ·exact qh _ (qh _ h)
theorem ae4:∀ (r:List Int) (m:Int),∀ x∈m::r,x<=M_8 m r
 |[],m,x,h=>by rw[List.mem_singleton.mp h];exact Qv _
 |y::r,m,x,h=>by
  show x<=M_8 (if m<y then y else m) r;have g:=ae4 r (if m<y then y else m);have z:=g _ qg;have M:m<=(if m<y then y else m):=by split <;> omega
  have O:y<=(if m<y then y else m):=by split <;> omega
  generalize (if m<y then y else m)=q at *;rcases qw h with rfl | h
  ·omega
  ·rcases qw h with rfl | h
   ·omega
   ·exact g x (qh _ h)
theorem S_4:∀ (r:List Int) (m:Int),M_7 m r∈m::r
 |[],m=>qg
 |x::r,m=>by
  show M_7 (if x<m then x else m) r∈_;have:=S_4 r (if x<m then x else m);rcases qw this with h | h
  ·rw[h];split <;> simp
  ·exact qh _ (qh _ h)
theorem ae3:∀ (r:List Int) (m:Int),∀ x∈m::r,M_7 m r<=x
 |[],m,x,h=>by rw[List.mem_singleton.mp h];exact Qv _
 |y::r,m,x,h=>by
  show M_7 (if y<m then y else m) r<=x;have g:=ae3 r (if y<m then y else m);have z:=g _ qg;have M:(if y<m then y else m)<=m:=by split <;> omega
  have O:(if y<m then y else m)<=y:=by split <;> omega
  generalize (if y<m then y else m)=q at *;rcases qw h with rfl | h
  ·omega
  ·rcases qw h with rfl | h
   ·omega
   ·exact g x (qh _ h)
def mxL:List Int->Int
 |[]=>0 | a::r=>M_8 a r
def mnL:List Int->Int
 |[]=>0 | a::r=>M_7 a r
theorem bC9 {vs:List Int}{m:Int} (h:m∈vs) (g:∀ x∈vs,x<=m):mxL vs=m:=by
 cases vs with
 |nil=>cases h
 |cons a r =>
  have:=ae4 r a m h;have:=g _ (S_6 r a);show M_8 a r=m;omega
theorem bD1 {vs:List Int}{m:Int} (h:m∈vs) (g:∀ x∈vs,m<=x):mnL vs=m:=by
 cases vs with
 |nil=>cases h
 |cons a r =>
  have:=ae3 r a m h;have:=g _ (S_4 r a);show M_7 a r=m;omega
theorem aW1 {vs:List Int} (h:vs≠[]):mxL vs∈vs/\∀ x∈vs,x<=mxL vs:=by
 cases vs with
 |nil=>exact absurd rfl h
 |cons a r=>exact⟨S_6 r a,ae4 r a⟩
theorem aW3 {vs:List Int} (h:vs≠[]):mnL vs∈vs/\∀ x∈vs,mnL vs<=x:=by
 cases vs with
 |nil=>exact absurd rfl h
 |cons a r=>exact⟨S_4 r a,ae3 r a⟩
theorem aD7 {a b:List Int} (p:a.Perm b):a.sum=b.sum:=by
 induction p with
 |nil=>rfl
 |cons x _ z=>rw[List.sum_cons,List.sum_cons,z]
 |swap x y l=>simp only[List.sum_cons];omega
 |trans _ _ h1 h2=>exact h1.trans h2
def amt (w:Str) (vs:List Int):Int:=if w=wC then (vs.length:Int) else if w=wS then vs.sum else if w=wM then mxL vs else mnL vs
theorem aL2 {w:Str}{a b:List Int} (p:a.Perm b):amt w a=amt w b:=by
 by_cases h:a=[]
 ·subst h;rw[List.nil_perm.mp p]
 ·have m1:=aW1 h;have m2:=aW3 h;unfold amt;rw[p.length_eq,aD7 p,<- bC9 (p.mem_iff.mp m1.1) λ x z=>m1.2 x (p.mem_iff.mpr z),<- bD1 (p.mem_iff.mp m2.1) λ x z=>m2.2 x (p.mem_iff.mpr z)]
def Sm (L:List Th):Prop:=∀ u∈L,0<=u.t/\u.t<15/\IsK u.k
theorem bn5 {α:Type} [DecidableEq α]:∀ (l m:List α),l.Nodup->(∀ x∈l,x∈m)->l.length<=m.length
 |[],m,_,_=>Qw _
 |x::l,m,nd,h=>by
  rw[Yw] at nd;have:=bn5 l (m.erase x) nd.2 λ y M=>(List.mem_erase_of_ne λ z=>nd.1 (by rw[<- z];exact M)).mpr (h y (qh _ M));rw[List.length_erase_of_mem (h x Um)] at this;have:=List.length_pos_of_mem (h x qg);rw[Qc];omega
def bN0 (o:Option Res):Option (D×MO):=bnd o λ r=>bB0 r
def bj4 (d:D) (o:Option (Bool×MO)):Option (D×MO):=bnd o λ q=>if q.1=true then some (d,q.2) else none
@[simp] theorem cc9 (n k:Nat) (B:FS) (o:MO) (ds:List D):fnB n k B o ds=if ds.length=n then bN0 (B (.ow true o::(ds.map .im++List.replicate k .no))) else none:=zR rfl
@[simp] theorem bM9 (d:D) (ρ:En):bN0 (some (.rt d ρ))=bj4 d (owO ρ[0]?):=zR rfl
@[simp] theorem bA9 (d:D) (o:MO):bj4 d (some (true,o))=some (d,o):=zR rfl
@[simp] theorem cc7 (n k:Nat) (F:En->Option MO) (ds:List D):fnN n k F ds=if ds.length=n then F (ds.map .im++List.replicate k .no) else none:=zR rfl
def bn6 (F:En->Option MO) (o:Option Res):Option MO:=bnd o λ r=>match r with
 |.nx z=>F z
 |_=>none
@[simp] theorem bW7 (A:FS) (F:En->Option MO) (ρ:En):aG2 A F ρ=bn6 F (A ρ):=zR rfl
@[simp] theorem bC7 (F:En->Option MO) (ρ:En):bn6 F (some (.nx ρ))=F ρ:=zR rfl
theorem D_9 {i j:Int} (h:j.natAbs<2 ^ 64):x_1 i j=true:=by unfold x_1;rw[Qk h];simp
theorem ad7 {i j:Int} (h:i.natAbs<2 ^ 64):x_1 i j=true:=by unfold x_1;rw[Qk h];simp
theorem y_0 {j:Int} (z:j≠0) (h:j.natAbs<2 ^ 64):A_6 j=true:=by unfold A_6;rw[Qk z,Qk (Nat.lt_trans h (Nat.pow_lt_pow_right (by decide) (by decide)))];rfl
theorem e_2 {n:Nat} (h:n<=1000):n<=sizeLine:=Qq h (by decide)
theorem G_8:∀ vs:List Int,y_2 (vs.map D.int)=some vs
 |[]=>rfl
 |v::r=>by rw[Qa,K_0,G_8 r];rfl
theorem ab1 {w:Str} (O:IsW w) {vs:List Int} (Y:vs≠[]):c_5 [.str w,.lst (vs.map .int)]=some (.int (amt w vs)):=by
 obtain⟨a,r,rfl⟩:=Zs Y;have es:bt5 [.lst ((a::r).map .int)]=some (.int (a::r).sum):=by rw[bt4,G_8];rfl
 have ex:aB5 [.lst ((a::r).map .int)]=some (.int (M_8 a r)):=by rw[bt7,G_8];rfl
 have M:bd4 [.lst ((a::r).map .int)]=some (.int (M_7 a r)):=by rw[bt6,G_8];rfl
 have z:aa9 [.lst ((a::r).map .int)]=some (.int (a::r).length):=by rw[bd5,Qg]
 unfold amt;generalize D.lst ((a::r).map .int)=x at *;rcases O with rfl | rfl | rfl | rfl
 ·simp[c_5,t_8,z]
 ·simp[c_5,t_8,es,n3]
 ·simp[c_5,t_8,ex,n4,n5,mxL]
 ·simp[c_5,t_8,M,n7,n8,n9,mnL]
theorem ao4 (a b c:D):atD [a,b,c] 0=some a:=rfl
theorem ao3 (a b c:D):atD [a,b,c] 1=some b:=rfl
theorem ao2 (a b c:D):atD [a,b,c] 2=some c:=rfl
theorem m_7 (a b c d:D):atD [a,b,c,d] 0=some a:=rfl
theorem k_3 (a b c d:D):atD [a,b,c,d] 3=some d:=rfl
theorem m_8 (a b:D):atD [a,b] 0=some a:=rfl
theorem l_4 (a b:D):atD [a,b] 1=some b:=rfl
theorem k_5 (a b c d:D):atD [a,b,c,d] 1=some b:=rfl
theorem n_5 (a b c d:D):atD [a,b,c,d] 2=some c:=rfl
theorem bt9 (L:List Th):(L.map tD).all r3=true:=by rw[Uz];intro d z;obtain⟨x,_,rfl⟩:=List.mem_map.mp z;rfl
theorem U_3 (L:List Th) (z:L.length<64):C_7 [.lst (L.map tD)]=some (.lst (sortT (L.map tD))):=by rw[aK9,if_pos ⟨by rw[Qg];exact z,.inl (bt9 L)⟩]
def rowD (kind:Str) (rest:List D):D:=.tup [.str kind,.str "f",.tup [.str "p"],.tup rest]
inductive Fold where
 |ever (w:Str) | fixed (s:Int) (w:Str) | slide (wd s:Int) (w:Str)
def Fold.D':Fold->D
 |.ever w=>rowD (Str.ofString "ever") [.str w]
 |.fixed s w=>rowD (Str.ofString "fixed") [.int s,.str w]
 |.slide wd s w=>rowD (Str.ofString "slide") [.int wd,.int s,.str w]
noncomputable def Fold.ok:Fold->Prop
 |.ever w=>IsW w
 |.fixed s w=>IsW w/\1<=s/\s<=100000000000
 |.slide wd s w=>IsW w/\1<=s/\s<=3/\s<wd/\wd<=s+4
noncomputable def ah6 (lo:Int):Nat->List Int
 |0=>[]
 |n+1=>lo::ah6 (lo+1) n
theorem aN3:∀ (n:Nat) (lo:Int),u_8 lo n=(ah6 lo n).map .int
 |0,lo=>rfl
 |n+1,lo=>by
  show D.int lo::u_8 (lo+1) n=_;rw[aN3 n];rfl
def Fold.wins (f:Fold) (t:Int):List Int:=match f with
 |.ever _=>[0]
 |.fixed s _=>[t.fdiv s]
 |.slide wd s _=>ah6 ((t-wd).fdiv s+1) (t.fdiv s+1-((t-wd).fdiv s+1)).toNat
theorem kn1:(Str.ofString "ever"=Str.ofString "fixed")=False:=Zx (by decide +kernel)
theorem kn2:(Str.ofString "ever"=Str.ofString "slide")=False:=Zx (by decide +kernel)
theorem kn3:(Str.ofString "slide"=Str.ofString "fixed")=False:=Zx (by decide +kernel)
theorem kn4:(Str.ofString "fixed"=Str.ofString "ever")=False:=Zx (by decide +kernel)
theorem kn5:(Str.ofString "slide"=Str.ofString "ever")=False:=Zx (by decide +kernel)
theorem N_4 (a b c d:D):atD [a,b,c,d] 0=some a:=rfl
theorem ae9 (a b c d:D):atD [a,b,c,d] 3=some d:=rfl
theorem bD4 (a:D):atD [a] 0=some a:=rfl
theorem bp7 (a b:D):atD [a,b] 0=some a:=rfl
theorem bp6 (a b c:D):atD [a,b,c] 0=some a:=rfl
theorem bp5 (a b c:D):atD [a,b,c] 1=some b:=rfl
theorem Q_4:∀ (n:Nat) (lo:Int),(ah6 lo n).length=n
 |0,_=>rfl
 |n+1,lo=>by show (ah6 (lo+1) n).length+1=n+1;rw[Q_4 n]
theorem N_9 (f:Fold) (hf:f.ok) (t:Int) (Y:0<=t) (h1:t<1000000000000):g_4 [f.D',.int t]=some (.lst ((f.wins t).map .int))/\(f.wins t).length<=20:=by
 cases f with
 |ever w=>exact⟨by simp[g_4,u_4,Fold.D',rowD,Fold.wins,N_4,ae9,kn1,kn2],by show (1:Nat)<=20;decide⟩
 |fixed s w =>
  obtain⟨hw,Z,s1⟩:=hf;have z:A_6 s=true:=y_0 (by omega) (by omega);exact⟨by simp[g_4,u_4,Fold.D',rowD,Fold.wins,N_4,ae9,bp7,z],by show (1:Nat)<=20;decide⟩
 |slide wd s w =>
  obtain⟨hw,Z,s1,s2,s3⟩:=hf;have z:A_6 s=true:=y_0 (by omega) (by omega);have O:t.fdiv s=t / s:=Qt _ (by omega);have M:(t-wd).fdiv s=(t-wd) / s:=Qt _ (by omega);have b1:0<=t / s:=J3 Y (by omega);have b2:t / s<=t:=Int.ediv_le_self _ Y;have b3:-800000000001<=(t-wd) / s:=by
   rw[Jv (by omega)];have:-800000000001*s<=-800000000001:=by omega
   omega
  have b4:(t-wd) / s<=1000000000000:=Int.le_trans (U0 (by omega) (show t-wd<=t by omega)) (by omega);have b5:t / s-(t-wd) / s<=20:=by
   have:(t-20*s) / s<=(t-wd) / s:=U0 (by omega) (by omega);have e:(t-20*s) / s=t / s-20:=by rw[show t-20*s=t+(-20)*s by omega,Int.add_mul_ediv_right _ _ (by omega)];omega
   omega
  have ln:(t.fdiv s+1-((t-wd).fdiv s+1)).toNat<=20:=by rw[O,M];omega
  refine⟨?_,?_⟩
  ·have c1:(ah6 ((t-wd).fdiv s+1) (t.fdiv s+1-((t-wd).fdiv s+1)).toNat).length<=1000:=by rw[Q_4];omega
   have r1:-4611686018427387904<=(t-wd).fdiv s+1:=by rw[M];omega
   have r2:(t-wd).fdiv s+1<4611686018427387904:=by rw[M];omega
   have r3:-4611686018427387904<=t.fdiv s+1:=by rw[O];omega
   have r4:t.fdiv s+1<4611686018427387904:=by rw[O];omega
   simp[g_4,u_4,Fold.D',rowD,Fold.wins,N_4,ae9,bp6,bp5,z,kn3,r1,r2,r3,r4,c1,aN3]
  ·show (ah6 _ _).length<=20;rw[Q_4];exact ln
noncomputable abbrev Grp:=List ((Str×Int)×List Int)
def ab5 (k:Str×Int) (v:Int):Grp->Grp
 |[]=>[(k,[v])]
 |q::r=>if q.1=k then (q.1,q.2++[v])::r else q::ab5 k v r
def gD (g:Grp):List ((Str×Int)×List D):=g.map λ q=>(q.1,q.2.map .int)
theorem aC0 (k:Str×Int) (v:Int):∀ g:Grp,w_5 k (.int v) (gD g)=gD (ab5 k v g)
 |[]=>rfl
 |q::r=>by
  show (if q.1=k then (q.1,q.2.map D.int++[.int v])::gD r else (q.1,q.2.map .int)::w_5 k (.int v) (gD r))=gD (if q.1=k then (q.1,q.2++[v])::r else q::ab5 k v r);split
  ·simp[gD]
  ·rw[aC0 k v r];rfl
def G_2 (k:Str) (v:Int) (z:List Int) (g:Grp):Grp:=z.foldl (λ g w=>ab5 (k,w) v g) g
def grp (f:Fold) (L:List Th) (g:Grp):Grp:=L.foldl (λ g x=>G_2 x.k x.v (f.wins x.t) g) g
theorem ax6 (x:Th):∀ (z:List Int) (n:Nat) (g:Grp),n+z.length<=1000->ax7 (tD x) (z.map .int) n (gD g)=some (n+z.length,gD (G_2 x.k x.v z g))
 |[],n,g,_=>rfl
 |w::r,n,g,h=>by
  show bnd (be9 (tD x) (.int w)) (λ q=>if n<1000 then ax7 (tD x) (r.map .int) (n+1) (w_5 q.1 q.2 (gD g)) else none)=_;have e:be9 (tD x) (.int w)=some ((x.k,w),.int x.v):=rfl;rw[e];show (if n<1000 then ax7 (tD x) (r.map .int) (n+1) (w_5 (x.k,w) (.int x.v) (gD g)) else none)=_;rw[Qc] at h;rw[if_pos (by omega),aC0,ax6 x r (n+1) _ (by omega)];rw[Qc,show n+1+r.length=n+(r.length+1) by omega];rfl
theorem aj8 (f:Fold) (M:D) {G:FE} (hG:∀ (x:Th) (th:D) (O:Sl),0<=x.t->x.t<1000000000000->∃ aa,G [.im M,.im th,.no,.im (tD x),O]=some (.lst ((f.wins x.t).map .int),aa)) (hw:∀ t,0<=t->t<1000000000000->(f.wins t).length<=20) (th:D) :
  ∀ (L:List Th) (n:Nat) (g:Grp) (Z O:Sl),(∀ x∈L,0<=x.t/\x.t<1000000000000)->n+20*L.length<=1000->Z≠.ow true (.lst []) ->
  ∃ ab Y:Sl,T_2 3 4 G (L.map tD) [.im M,.im th,.no,Z,O] n (gD g)=some ([.im M,.im th,.no,ab,Y],gD (grp f L g))
 |[],n,g,Z,O,_,_,_=>⟨Z,O,rfl⟩
 |x::L,n,g,Z,O,hb,hn,h3=>by
  obtain⟨t0,t1⟩:=hb x qg;obtain⟨aa,e⟩:=hG x th O t0 t1;have ac:=hw x.t t0 t1;rw[Qc] at hn;have e2:=ax6 x (f.wins x.t) n g (by omega);obtain⟨Y,hl⟩:∃ Y,n_1 4 ((f.wins x.t).map D.int) [.im M,.im th,.no,.im (tD x),O]=[.im M,.im th,.no,.im (tD x),Y]:=by
   unfold n_1;split
   ·exact⟨_,rfl⟩
   ·exact⟨_,rfl⟩
  obtain⟨a3,a4,ih⟩:=aj8 f M hG hw th L (n+(f.wins x.t).length) (G_2 x.k x.v (f.wins x.t) g) (.im (tD x)) Y (λ y hy=>hb y (qh _ hy)) (by omega) (λ z=>nomatch z);refine⟨a3,a4,?_⟩;show bnd (G [.im M,.im th,.no,.im (tD x),O]) (λ p=>bnd (lsX p.1) λ ws=>bnd (ax7 (tD x) ws n (gD g)) λ q=>T_2 3 4 G (L.map tD) (n_1 4 ws [.im M,.im th,.no,.im (tD x),O]) q.1 q.2)=_;rw[e];show bnd (ax7 (tD x) ((f.wins x.t).map .int) n (gD g)) (λ q=>T_2 3 4 G (L.map tD) (n_1 4 ((f.wins x.t).map .int) [.im M,.im th,.no,.im (tD x),O]) q.1 q.2)=_;rw[e2];show T_2 3 4 G (L.map tD) (n_1 4 ((f.wins x.t).map .int) [.im M,.im th,.no,.im (tD x),O]) (n+(f.wins x.t).length) (gD (G_2 x.k x.v (f.wins x.t) g))=_;rw[hl];exact ih
def gOk (g:Grp):Prop:=(g.map (·.1)).Nodup/\∀ q∈g,q.2≠[]
theorem C_8 (k:Str×Int) (v:Int):∀ g:Grp,(ab5 k v g).map (·.1)=if k∈g.map (·.1) then g.map (·.1) else g.map (·.1)++[k]
 |[]=>rfl
 |q::r=>by
  show ((if q.1=k then (q.1,q.2++[v])::r else q::ab5 k v r)).map (·.1)=_;by_cases h:q.1=k
  ·rw[if_pos h,if_pos (by rw[<- h];exact qg)];rfl
  ·rw[if_neg h,Qa,C_8 k v r,Qa];by_cases z:k∈r.map (·.1)
   ·rw[if_pos z,if_pos (Ye _ z)]
   ·rw[if_neg z,if_neg (λ y=>by rcases List.mem_cons.mp y with y | y;exact h y.symm;exact z y)];rfl
theorem bd8 {k:Str×Int}{v:Int}{g:Grp} (h:gOk g):gOk (ab5 k v g):=by
 refine⟨?_,?_⟩
 ·rw[C_8];split
  ·exact h.1
  ·rename_i z;rw[Je];exact⟨h.1,by simp,λ a ha b O e=>z (by rw[<- List.mem_singleton.mp O,<- e];exact ha)⟩
 ·have h2:=h.2;clear h;induction g with
  |nil=>intro q hq;rw[List.mem_singleton.mp hq];simp
  |cons x r Y =>
   intro q hq;have hq:q∈(if x.1=k then (x.1,x.2++[v])::r else x::ab5 k v r):=hq;split at hq
   ·rcases qw hq with rfl | hq
    ·simp
    ·exact h2 q (qh _ hq)
   ·rcases qw hq with rfl | hq
    ·exact h2 _ qg
    ·exact Y (λ y M=>h2 y (qh _ M)) q hq
theorem al2 {k:Str}{v:Int}:∀ (z:List Int) {g:Grp},gOk g->gOk (G_2 k v z g)
 |[],_,h=>h
 |w::r,g,h=>al2 (k:=k) (v:=v) r (bd8 h)
theorem aP4 (f:Fold):∀ (L:List Th) {g:Grp},gOk g->gOk (grp f L g)
 |[],_,h=>h
 |x::L,g,h=>aP4 f L (al2 _ h)
theorem aH0 {g:List ((Str×Int)×D)} (nd:(g.map (·.1)).Nodup) {q:(Str×Int)×D} (hq:q∈g):J_5 q.1 g=some q.2:=by
 induction g with
 |nil=>cases hq
 |cons x r z =>
  rw[Qa,Yw] at nd;unfold J_5;rw[Q2];rcases qw hq with rfl | hq
  ·simp
  ·have M:¬ x.1=q.1:=λ e=>nd.1 (by rw[e];exact Za hq);rw[Qh M];exact z nd.2 hq
noncomputable def Fold.word:Fold->Str
 |.ever w=>w | .fixed _ w=>w | .slide _ _ w=>w
theorem Fold.isW {f:Fold} (h:f.ok):IsW f.word:=by
 cases f with
 |ever w=>exact h
 |fixed s w=>exact h.1
 |slide wd s w=>exact h.1
def v_5 (w:Str) (q:(Str×Int)×List Int):D:=.tup [kD q.1,.int (amt w q.2)]
theorem x_7 (f:Fold):∃ kind rest,f.D'=rowD kind rest ∧ atD rest (-1)=some (.str f.word) ∧ (kind=Str.ofString "gaps")=False:=by
 cases f with
 |ever w=>exact⟨_,_,rfl,rfl,Zx (by decide +kernel)⟩
 |fixed s w=>exact⟨_,_,rfl,rfl,Zx (by decide +kernel)⟩
 |slide wd s w=>exact⟨_,_,rfl,rfl,Zx (by decide +kernel)⟩
theorem ak2 (f:Fold) (hf:f.ok) (G:List ((Str×Int)×D)):∀ (g:Grp),(∀ q∈g,q.2≠[]/\J_5 q.1 G=some (.lst (q.2.map .int))) ->
  cGo tYes (e_1 (aC (eV 0) (aC (eF c_5 (aC (e2 a_9 (e2 a_9 (eV 2) (zI 3)) (e1 Z_6 (zI 1))) (aC (e2 aJ6 (eV 1) (eV 0)) aN))) aN))) [.im (.opq (G.map (·.1)) (G.map (·.2))),.im f.D'] ((g.map (·.1)).map kD)=some (g.map (v_5 f.word))
 |[],_=>rfl
 |q::g,h=>by
  obtain⟨h1,h2⟩:=h q qg;obtain⟨kind,rest,Y,w2,_⟩:=x_7 f;have M:=ak2 f hf G g λ x hx=>h x (qh _ hx);have O:=ab1 (f.isW hf) h1;have ez:(G.map (·.1)).zip (G.map (·.2))=G:=by
   clear h h2 M;induction G with
   |nil=>rfl
   |cons x r M=>simp[M]
  generalize Z:e_1 (aC (eV 0) (aC (eF c_5 (aC (e2 a_9 (e2 a_9 (eV 2) (zI 3)) (e1 Z_6 (zI 1))) (aC (e2 aJ6 (eV 1) (eV 0)) aN))) aN))=E at M ⊢;have hs:E [.im (kD q.1),.im (.opq (G.map (·.1)) (G.map (·.2))),.im f.D']=some (v_5 f.word q,[.im (kD q.1),.im (.opq (G.map (·.1)) (G.map (·.2))),.im f.D']):=by rw[<- Z,Y];unfold kD rowD v_5 kD;simp[ae9,w2,ez,h2,O]
  show bnd (E [.im (kD q.1),.im (.opq (G.map (·.1)) (G.map (·.2))),.im f.D']) (λ z=>bnd (cGo tYes E [.im (.opq (G.map (·.1)) (G.map (·.2))),.im f.D'] ((g.map (·.1)).map kD)) λ t=>some (z.1::t))=_;rw[hs,M];rfl
theorem aZ0:gOk []:=⟨Yp,λ q hq=>by cases hq⟩
theorem aP3 (g:Grp):gtD (gD g)=g.map λ q=>(q.1,D.lst (q.2.map .int)):=by unfold gtD gD;rw[Zy];rfl
theorem al4 (k:Str×Int) (v:Int):∀ g:Grp,(ab5 k v g).length<=g.length+1
 |[]=>qj _
 |q::r=>by
  show (if q.1=k then (q.1,q.2++[v])::r else q::ab5 k v r).length<=_;have:=al4 k v r;split <;> simp <;> omega
theorem ab3 (k:Str) (v:Int):∀ (z:List Int) (g:Grp),(G_2 k v z g).length<=g.length+z.length
 |[],g=>qj _
 |w::r,g=>by
  have:=ab3 k v r (ab5 (k,w) v g);have:=al4 (k,w) v g;show (G_2 k v r (ab5 (k,w) v g)).length<=g.length+(r.length+1);omega
theorem ax8 (f:Fold) (z:∀ t,0<=t->t<1000000000000->(f.wins t).length<=20):∀ (L:List Th) (g:Grp),(∀ x∈L,0<=x.t/\x.t<1000000000000)->(grp f L g).length<=g.length+20*L.length
 |[],g,_=>qj _
 |x::L,g,h=>by
  obtain⟨M,Y⟩:=h x qg;have a:=ax8 f z L (G_2 x.k x.v (f.wins x.t) g) λ y O=>h y (qh _ O);have b:=ab3 x.k x.v (f.wins x.t) g;have c:=z x.t M Y;show (grp f L (G_2 x.k x.v (f.wins x.t) g)).length<=_;rw[Qc];omega
theorem H_4 (f:Fold) (hf:f.ok) (L:List Th) (hL:L.length<=30) (hb:∀ x∈L,0<=x.t/\x.t<1000000000000) :
  k_0 [f.D',.lst (L.map tD)]=some (.lst ((grp f L []).map (v_5 f.word))):=by
 have hw:∀ t,0<=t->t<1000000000000->(f.wins t).length<=20:=λ t a b=>(N_9 f hf t a b).2;generalize hG:eF g_4 (aC (eV 0) (aC (e2 a_9 (eV 3) (zI 0)) aN))=G;have Y:∀ (x:Th) (th:D) (M:Sl),0<=x.t->x.t<1000000000000->∃ ab,G [.im f.D',.im th,.no,.im (tD x),M]=some (.lst ((f.wins x.t).map .int),ab):=λ x th M a b=>by
  have e:=(N_9 f hf x.t a b).1;have j:atD [.int x.t,.str x.k,.int x.v] 0=some (.int x.t):=rfl;refine⟨[.im f.D',.im th,.no,.im (tD x),M],?_⟩;rw[<- hG];unfold tD;simp[j,e]
 obtain⟨O,M,q1⟩:=aj8 f f.D' Y hw (.lst (L.map tD)) L 0 [] .no .no hb (by omega) (λ z=>nomatch z);have ok:=aP4 f L aZ0;have ln:=ax8 f hw L [] hb;have big:(1000:Nat)<=sizeLine:=by decide
 generalize hg:grp f L []=g at q1 ok ln;have q2:=ak2 f hf (gtD (gD g)) g λ q hq=>⟨ok.2 q hq,by
  rw[aP3];exact aH0 (g:=g.map λ q=>(q.1,D.lst (q.2.map .int))) (by rw[Zy];exact ok.1) (q:=(q.1,.lst (q.2.map .int))) (Za (f:=λ q:(Str×Int)×List Int=>(q.1,D.lst (q.2.map .int))) hq)⟩
 have ks:(gtD (gD g)).map (·.1)=g.map (·.1):=by rw[aP3,Zy];rfl
 have l1:(g.map (·.1)).length<=sizeLine:=by rw[Qg];simp at ln;omega
 have Z:T_2 3 4 G (L.map tD) [.im f.D',.im (.lst (L.map tD)),.no,.no,.no] 0 []=some ([.im f.D',.im (.lst (L.map tD)),.no,O,M],gD g):=q1;have sg:sGT 2 3 4 (eV 1) G [.im f.D',.im (.lst (L.map tD)),.ow false (.dtu []),.no,.no]=some (.nx [.im f.D',.im (.lst (L.map tD)),.ow false (.dtu (gtD (gD g))),O,M]):=by simp[bi8,Z,ad9,bnd]
 have aa:cGo tYes (e_1 (aC (eV 0) (aC (eF c_5 (aC (e2 a_9 (e2 a_9 (eV 2) (zI 3)) (e1 Z_6 (zI 1))) (aC (e2 aJ6 (eV 1) (eV 0)) aN))) aN))) [.im (asT (gtD (gD g))),.im f.D'] (((gtD (gD g)).map (·.1)).map kD)=some (g.map (v_5 f.word)):=by rw[ks];exact q2
 have l2:((gtD (gD g)).map (·.1)).length<=sizeLine:=by rw[ks];exact l1
 have lk:eLK [2,0] (eV 2) tYes (e_1 (aC (eV 0) (aC (eF c_5 (aC (e2 a_9 (e2 a_9 (eV 2) (zI 3)) (e1 Z_6 (zI 1))) (aC (e2 aJ6 (eV 1) (eV 0)) aN))) aN))) [.im f.D',.im (.lst (L.map tD)),.im (asT (gtD (gD g))),O,M]=some (.lst (g.map (v_5 f.word)),[.im f.D',.im (.lst (L.map tD)),.im (asT (gtD (gD g))),O,M]):=by show bnd (cGo tYes _ [.im (asT (gtD (gD g))),.im f.D'] (((gtD (gD g)).map (·.1)).map kD)) (λ ys=>if ((gtD (gD g)).map (·.1)).length<=sizeLine then some (D.lst ys,_) else none)=_;rw[aa];show (if ((gtD (gD g)).map (·.1)).length<=sizeLine then some (D.lst (g.map (v_5 f.word)),_) else none)=_;rw[if_pos l2]
 generalize hE:eLK [2,0] (eV 2) tYes (e_1 (aC (eV 0) (aC (eF c_5 (aC (e2 a_9 (e2 a_9 (eV 2) (zI 3)) (e1 Z_6 (zI 1))) (aC (e2 aJ6 (eV 1) (eV 0)) aN))) aN)))=E at lk;generalize hS:sGT 2 3 4 (eV 1) G=S at sg;unfold k_0 z_9;rw[hG,hE,hS];simp[List.replicate,sg,lk]
theorem as7 (w:Str) (g:Grp):(g.map (v_5 w)).all r21=true:=by rw[Uz];intro x z;obtain⟨q,_,rfl⟩:=List.mem_map.mp z;rfl
noncomputable abbrev Ev:=(Str×Int)×Int
def evs (f:Fold) (L:List Th):List Ev:=L.flatMap λ x=>(f.wins x.t).map λ w=>((x.k,w),x.v)
def ap6 (es:List Ev) (g:Grp):Grp:=es.foldl (λ g e=>ab5 e.1 e.2 g) g
theorem aB9 (k:Str) (v:Int) (z:List Int) (g:Grp):G_2 k v z g=ap6 (z.map λ w=>((k,w),v)) g:=by unfold G_2 ap6;rw[List.foldl_map]
theorem af1 (f:Fold):∀ (L:List Th) (g:Grp),grp f L g=ap6 (evs f L) g
 |[],g=>rfl
 |x::L,g=>by
  show grp f L (G_2 x.k x.v (f.wins x.t) g)=_;rw[af1 f L,aB9];show _=ap6 (((f.wins x.t).map λ w=>((x.k,w),x.v))++evs f L) g;unfold ap6;rw[List.foldl_append]
def vals (k:Str×Int) (es:List Ev):List Int:=(es.filter λ e=>decide (e.1=k)).map (·.2)
structure GI (es:List Ev) (g:Grp):Prop where
 nd:(g.map (·.1)).Nodup
 ks:∀ k,k∈g.map (·.1)↔k∈es.map (·.1)
 vs:∀ q∈g,q.2=vals q.1 es
theorem al3 {k:Str×Int}{v:Int}:∀ {g:Grp},(g.map (·.1)).Nodup->∀ {q},q∈ab5 k v g->(q.1≠k/\q∈g)\/(q.1=k/\((∃ u,(k,u)∈g/\q.2=u++[v])\/(k∉g.map (·.1)/\q.2=[v])))
 |[],_,q,hq=>by rw[List.mem_singleton.mp hq];exact .inr ⟨rfl,.inr ⟨by simp,rfl⟩⟩
 |x::r,nd,q,hq=>by
  rw[Qa,Yw] at nd;have hq:q∈(if x.1=k then (x.1,x.2++[v])::r else x::ab5 k v r):=hq;by_cases h:x.1=k
  ·rw[if_pos h] at hq;rcases qw hq with rfl | hq
   ·exact .inr ⟨h,.inl ⟨x.2,by rw[<- h];exact qg,rfl⟩⟩
   ·exact .inl ⟨λ e=>nd.1 (by rw[h,<- e];exact Za hq),qh _ hq⟩
  ·rw[if_neg h] at hq;rcases qw hq with rfl | hq
   ·exact .inl ⟨h,qg⟩
   ·rcases al3 nd.2 hq with ⟨a,b⟩ | ⟨a,⟨u,b,c⟩ | ⟨b,c⟩⟩
    ·exact .inl ⟨a,qh _ b⟩
    ·exact .inr ⟨a,.inl ⟨u,qh _ b,c⟩⟩
    ·exact .inr ⟨a,.inr ⟨λ z=>by rcases qw z with z | z;exact h z.symm;exact b z,c⟩⟩
theorem aq4 (k:Str×Int) (es:List Ev) (e:Ev):vals k (es++[e])=vals k es++(if e.1=k then [e.2] else []):=by
 unfold vals;rw[Zk,Qy];congr 1;by_cases h:e.1=k
 ·simp[h]
 ·simp[h]
theorem GI.add {es:List Ev}{g:Grp} (h:GI es g) (e:Ev):GI (es++[e]) (ab5 e.1 e.2 g) where
 nd:=by
  rw[C_8];split
  ·exact h.nd
  ·rename_i z;rw[Je];exact⟨h.nd,by simp,λ a ha b O q=>z (by rw[<- List.mem_singleton.mp O,<- q];exact ha)⟩
 ks:=λ k=>by
  rw[C_8,Qy,J1,<- h.ks k];split
  ·rename_i z;constructor
   ·exact .inl
   ·rintro (y | y)
    ·exact y
    ·simp at y;rw[y];exact z
  ·rw[J1];simp
 vs:=λ q hq=>by
  rw[aq4];rcases al3 h.nd hq with ⟨a,b⟩ | ⟨a,⟨u,b,c⟩ | ⟨b,c⟩⟩
  ·rw[if_neg λ z=>a z.symm,Qr];exact h.vs q b
  ·have:=h.vs _ b;rw[if_pos a.symm,c,a];congr 1
  ·rw[if_pos a.symm,c,a];have:vals e.1 es=[]:=by
    unfold vals;rw[List.map_eq_nil_iff,List.filter_eq_nil_iff];intro x M;simp only[Zm];exact λ z=>b ((h.ks e.1).mpr (by rw[<- z];exact Za M))
   rw[this];rfl
theorem GI.all:∀ (es:List Ev) {d:List Ev}{g:Grp},GI d g->GI (d++es) (ap6 es g)
 |[],d,g,h=>by rw[Qr];exact h
 |e::r,d,g,h=>by
  have:=GI.all r (h.add e);rw[Q3] at this;exact this
theorem GI.nil:GI [] []:=⟨Yp,λ k=>Iff.rfl,λ q hq=>by cases hq⟩
theorem B_7 {k:Int}:∀ (n:Nat) (lo:Int),k∈ah6 lo n↔lo<=k/\k<lo+n
 |0,lo=>⟨λ z=>(nomatch z),λ z=>by omega⟩
 |n+1,lo=>by
  show k∈lo::ah6 (lo+1) n↔_;rw[Yd,B_7 n];omega
theorem aR2 {f:Fold} (hf:f.ok) {t a:Int} (z:0<=t) (t1:t<15) (h:a∈f.wins t):-4<=a/\a<15:=by
 cases f with
 |ever w=>have:a=0:=List.mem_singleton.mp h;omega
 |fixed s w =>
  obtain⟨_,M,_⟩:=hf;have h:a=t.fdiv s:=List.mem_singleton.mp h;rw[h,Qt _ (by omega)];have:=J3 z (show 0<=s by omega);have:=Int.ediv_le_self s z;omega
 |slide wd s w =>
  obtain⟨_,M,Y,Z,O⟩:=hf;have h:a∈ah6 ((t-wd).fdiv s+1) (t.fdiv s+1-((t-wd).fdiv s+1)).toNat:=h;rw[B_7,Qt _ (by omega),Qt _ (by omega)] at h;have c:s=1\/s=2\/s=3:=by omega
  rcases c with rfl | rfl | rfl <;> omega
theorem aY7 (f:Fold) (hf:f.ok) {L:List Th} (O:Sm L):(grp f L []).length<64:=by
 have G:=GI.all (evs f L) GI.nil;rw[Yc,<- af1 f L []] at G;have:((grp f L []).map (·.1)).length<=([kA,kB,kZ].flatMap λ k=>(ah6 (-4) 19).map λ a=>(k,a)).length:=bn5 _ _ G.nd λ x hx=>by
  obtain⟨ev,z,rfl⟩:=List.mem_map.mp ((G.ks x).mp hx);obtain⟨u,hu,M⟩:=List.mem_flatMap.mp z;obtain⟨a,ha,rfl⟩:=List.mem_map.mp M;obtain⟨Y,Z,k⟩:=O u hu;have:=aR2 hf Y Z ha;refine List.mem_flatMap.mpr ⟨u.k,?_,List.mem_map.mpr ⟨a,(B_7 19 (-4)).mpr (by omega),rfl⟩⟩;rcases k with k | k | k <;> rw[k] <;> simp
 rw[Qg] at this;exact Y8 this (by decide)
theorem T_5 (f:Fold) (hf:f.ok) (L:List Th) (O:L.length<=30) (z:Sm L) :
  p_6 [f.D',.lst (L.map tD)]=some (.lst (sortT ((grp f L []).map (v_5 f.word)))):=by
 have Z:∀ x∈L,0<=x.t/\x.t<1000000000000:=λ x hx=>by have:=z x hx;omega
 have M:=aY7 f hf z;have e:=H_4 f hf L O Z;have r:=as7 f.word (grp f L []);have cl:((grp f L []).map (v_5 f.word)).length<64:=by rw[Qg];exact M
 generalize (grp f L []).map (v_5 f.word)=C at *;obtain⟨kind,rest,Y,_,hk⟩:=x_7 f;rw[Y] at e ⊢;unfold rowD at e ⊢;simp[p_6,E_9,N_4,hk,e,r,cl]
noncomputable def pr (p q:Int) (l r:Th):Th:=⟨if r.t > l.t then r.t else l.t,l.k,p*l.v+q*r.v⟩
noncomputable def clo (reach:Int) (l r:Th):Bool:=decide (((l.t-r.t).natAbs:Int)<=reach)
noncomputable def kyq (l r:Th):Bool:=decide (r.k=l.k)
def prL (p q:Int) (reach:Int) (L R:List Th):List Th:=L.flatMap λ l=>((R.filter (kyq l)).filter (clo reach l)).map (pr p q l)
noncomputable abbrev kxL:List (Str×D):=[(Str.ofString "sum",.tup [.int 1,.int 1]),(Str.ofString "less",.tup [.int 1,.int (-1)]),(Str.ofString "left",.tup [.int 1,.int 0]),(Str.ofString "right",.tup [.int 0,.int 1])]
def PQ (p q:Int):Prop:=(p=1/\q=1)\/(p=1/\q=-1)\/(p=1/\q=0)\/(p=0/\q=1)
structure IsH (how:Str) (p q:Int):Prop where
 kx:Z_0 how kxL=some (.tup [.int p,.int q])
 pq:PQ p q
theorem aV5 {p:Int} (h:p=1\/p=-1\/p=0) (x:Int):x_1 p x=true:=ad7 (by rcases h with rfl | rfl | rfl <;> decide)
theorem IsH.p1 {how:Str}{p q:Int} (h:IsH how p q):(p=1\/p=-1\/p=0)/\(q=1\/q=-1\/q=0):=by have:=h.pq;unfold PQ at this;omega
theorem IsH.pv {how:Str}{p q:Int} (h:IsH how p q) (x y:Int):k_2 [.str how,.int x,.int y]=some (.int (p*x+q*y)):=by have m1:=aV5 h.p1.1 x;have m2:=aV5 h.p1.2 y;have z:=h.kx;simp[k_2,A_1,List.replicate,z,m1,m2,m_8,l_4]
theorem bq4 {i:Int} (z:0 ≤ i) (h1:i<4):∃ how p q,atD [.str "sum",.str "less",.str "left",.str "right"] i=some (.str how) ∧ IsH how p q:=by
 have c:i=0\/i=1\/i=2\/i=3:=by omega
 rcases c with rfl | rfl | rfl | rfl
 ·exact⟨_,1,1,rfl,by kernel_rfl,.inl ⟨rfl,rfl⟩⟩
 ·exact⟨_,1,-1,rfl,by kernel_rfl,.inr (.inl ⟨rfl,rfl⟩)⟩
 ·exact⟨_,1,0,rfl,by kernel_rfl,.inr (.inr (.inl ⟨rfl,rfl⟩))⟩
 ·exact⟨_,0,1,rfl,by kernel_rfl,.inr (.inr (.inr ⟨rfl,rfl⟩))⟩
noncomputable def glk (k:Str):List (Str×List D)->List D
 |[]=>[]
 |q::r=>if q.1=k then q.2 else glk k r
theorem ay2 (k M:Str) (d:D):∀ g:List (Str×List D),glk M (N_7 k d g)=if k=M then glk M g++[d] else glk M g
 |[]=>by
  show (if k=M then [d] else [])=_;split <;> rfl
 |q::r=>by
  have O:=ay2 k M d r;show glk M (if q.1=k then (q.1,q.2++[d])::r else q::N_7 k d r)=_;by_cases h:q.1=k
  ·rw[if_pos h];show (if q.1=M then q.2++[d] else glk M r)=if k=M then (if q.1=M then q.2 else glk M r)++[d] else (if q.1=M then q.2 else glk M r)
   by_cases h2:k=M
   ·rw[if_pos (h.trans h2),if_pos h2,if_pos (h.trans h2)]
   ·rw[if_neg (λ z=>h2 (h.symm.trans z)),if_neg h2,if_neg (λ z=>h2 (h.symm.trans z))]
  ·rw[if_neg h];show (if q.1=M then q.2 else glk M (N_7 k d r))=if k=M then (if q.1=M then q.2 else glk M r)++[d] else (if q.1=M then q.2 else glk M r);rw[O]
   by_cases h2:k=M
   ·rw[if_pos h2,if_pos h2,if_neg (λ z=>h (z.trans h2.symm)),if_neg (λ z=>h (z.trans h2.symm))]
   ·rw[if_neg h2,if_neg h2]
theorem ay3 (k:Str):∀ g:List (Str×List D),(Z_0 k (K_3 g)).getD (.lst [])=.lst (glk k g)
 |[]=>rfl
 |q::r=>by
  have z:=ay3 k r;show (if q.1=k then some (D.lst q.2) else Z_0 k (K_3 r)).getD (.lst [])=D.lst (if q.1=k then q.2 else glk k r);by_cases h:q.1=k
  ·rw[if_pos h,if_pos h];rfl
  ·rw[if_neg h,if_neg h];exact z
theorem ay0:∀ (R:List Th) (g:List (Str×List D)),∃ g',E_0 (R.map tD) g=some g'/\∀ k,glk k g'=glk k g++(R.filter λ r=>decide (r.k=k)).map tD
 |[],g=>⟨g,rfl,λ k=>by simp⟩
 |r::R,g=>by
  obtain⟨g',e,h⟩:=ay0 R (N_7 r.k (tD r) g);refine⟨g',?_,λ k=>?_⟩
  ·show bnd (some r.k) (λ k=>E_0 (R.map tD) (N_7 k (tD r) g))=_;rw[ak7];exact e
  ·rw[h k,ay2];by_cases hk:r.k=k
   ·rw[if_pos hk,Qj (by simpa using hk)];simp
   ·rw[if_neg hk,Qo (by simpa using hk)]
theorem aY9 {R:List Th}{g:List (Str×List D)} (e:E_0 (R.map tD) []=some g) (l:Th):(Z_0 l.k (K_3 g)).getD (.lst [])=.lst ((R.filter (kyq l)).map tD):=by obtain⟨g',e',h⟩:=ay0 R [];rw[e] at e';cases e';rw[ay3,h];rfl
abbrev EP (a b c:D) (reach:Int) (how:Str) (gd:List (Str×D)) (O:Sl) (z:List Th) (M:Sl):En:=[.im a,.im b,.im c,.im (.int reach),.im (.str how),.ow false (.dic gd),O,.ow false (.lst (z.map tD)),M]
section
variable {how:Str}{p q reach:Int}{a b c:D}{gd:List (Str×D)}
theorem aF0 (h:IsH how p q) (l r:Th) (M:List Th) (Y:M.length<1000):p_9 (EP a b c reach how gd (.im (tD r)) M (.im (tD l)))=some (.nx (EP a b c reach how gd (.im (tD r)) (M++if clo reach l r=true then [pr p q l r] else []) (.im (tD l)))):=by
 have pv:=h.pv l.v r.v;have hz:M.length<1000000:=by omega
 by_cases O:((l.t-r.t).natAbs:Int)<=reach
 ·rw[if_pos (show clo reach l r=true from Qk O)];simp[p_9,EP,tD,O,pv,hz,atD,dPl,pr]
 ·rw[if_neg (show ¬ clo reach l r=true from λ z=>O (Q1 z)),Qr];simp[p_9,EP,tD,O,atD,dPl]
theorem at7 (h:IsH how p q) (l:Th):∀ (Rk z:List Th) (Y:Sl),z.length+Rk.length<1000->∃ M,fGo (gN 6) p_9 (Rk.map tD) (EP a b c reach how gd Y z (.im (tD l)))=some (.nx (EP a b c reach how gd M (z++(Rk.filter (clo reach l)).map (pr p q l)) (.im (tD l))))
 |[],z,Y,_=>⟨Y,by simp[br1]⟩
 |r::Rk,z,Y,hl=>by
  rw[Qc] at hl;have hs:=aF0 (a:=a) (b:=b) (c:=c) (reach:=reach) (gd:=gd) h l r z (by omega);obtain⟨M,e⟩:=at7 h l Rk (z++if clo reach l r=true then [pr p q l r] else []) (.im (tD r)) (by split <;> simp <;> omega);refine⟨M,?_⟩;rw[Qa,r_5];show fGa _ _ _ (some (EP a b c reach how gd (.im (tD r)) z (.im (tD l))))=_;rw[r_6,hs,t_9,e];by_cases O:clo reach l r=true
  ·rw[if_pos O,Qj O];simp
  ·rw[if_neg O,Qo O];simp
theorem ai3 (h:IsH how p q) {R:List Th}{g:List (Str×List D)} (eg:E_0 (R.map tD) []=some g) (hR:R.length<=20):∀ (L z:List Th) (O s8:Sl),z.length+20*L.length<900->∃ M aa,fGo (gN 8) r_9 (L.map tD) (EP a b c reach how (K_3 g) O z s8)=some (.nx (EP a b c reach how (K_3 g) M (z++prL p q reach L R) aa))
 |[],z,O,s8,_=>⟨O,s8,by simp[br1,prL]⟩
 |l::L,z,O,s8,hl=>by
  rw[Qc] at hl;have fl:(R.filter (kyq l)).length<=20:=Qq (Q8 _ _) hR;obtain⟨M,e⟩:=at7 (a:=a) (b:=b) (c:=c) (reach:=reach) (gd:=K_3 g) h l (R.filter (kyq l)) z O (by omega);have ga:=aY9 eg l;have ab:(((R.filter (kyq l)).filter (clo reach l)).map (pr p q l)).length<=20:=by rw[Qg];exact Qq (Q8 _ _) fl
  obtain⟨Y,Z,E2⟩:=ai3 h eg hR L (z++((R.filter (kyq l)).filter (clo reach l)).map (pr p q l)) M (.im (tD l)) (by rw[Qd];omega);refine⟨Y,Z,?_⟩;rw[Qa,r_5];show fGa _ _ _ (some (EP a b c reach how (K_3 g) O z (.im (tD l))))=_;rw[r_6];have es:r_9 (EP a b c reach how (K_3 g) O z (.im (tD l)))=some (.nx (EP a b c reach how (K_3 g) M (z++((R.filter (kyq l)).filter (clo reach l)).map (pr p q l)) (.im (tD l)))):=by
   rw[<- e];have hi:bg1 5 (e2 a_9 (eV 8) (zI 1)) (x_6 aN) (EP a b c reach how (K_3 g) O z (.im (tD l)))=some (.lst ((R.filter (kyq l)).map tD),EP a b c reach how (K_3 g) O z (.im (tD l))):=by rw[<- ga];simp[EP,tD,atD,dPl]
   show U_7 (gN 6) (bg1 5 (e2 a_9 (eV 8) (zI 1)) (x_6 aN)) p_9 _=_;unfold U_7;rw[hi];rfl
  rw[es,t_9,E2];simp[prL]
end
theorem Q_7 {p q reach:Int}{n:Nat}{R:List Th} (z:R.length<=n):∀ L:List Th,(prL p q reach L R).length<=n*L.length
 |[]=>by simp[prL]
 |l::L=>by
  have:=Q_7 (p:=p) (q:=q) (reach:=reach) z L;have h2:(((R.filter (kyq l)).filter (clo reach l)).map (pr p q l)).length<=n:=by rw[Qg];exact Qq (Q8 _ _) (Qq (Q8 _ _) z)
  have e:prL p q reach (l::L) R=((R.filter (kyq l)).filter (clo reach l)).map (pr p q l)++prL p q reach L R:=rfl;rw[e,Qd,Qc,Nat.mul_add];omega
noncomputable abbrev rowP (reach:Int) (how:Str):D:=.tup [.str "pair",.str "p",.tup [.str "x",.str "y"],.tup [.int reach,.str how]]
theorem ai7 {how:Str}{p q:Int} (h:IsH how p q) (reach:Int) (L R:List Th) (hL:L.length<=5) (Z:R.length<=5):∃ S:List Th,p_5 [rowP reach how,.lst (L.map tD),.lst (R.map tD)]=some (.lst (S.map tD))/\S.Perm (prL p q reach L R):=by
 obtain⟨g,z,_⟩:=ay0 R [];obtain⟨Y,O,e⟩:=ai3 (a:=rowP reach how) (b:=.lst (L.map tD)) (c:=.lst (R.map tD)) (reach:=reach) h z (by omega) L [] (match (R.map tD).getLast? with | some d=>.im d | none=>.no) .no (by simp;omega);have e':fGo (gN 8) r_9 (L.map tD) (w_9 6 (R.map tD) [.im (rowP reach how),.im (.lst (L.map tD)),.im (.lst (R.map tD)),.im (.int reach),.im (.str how),.ow false (.dic (K_3 g)),.no,.ow false (.lst []),.no])=some (.nx (EP (rowP reach how) (.lst (L.map tD)) (.lst (R.map tD)) reach how (K_3 g) Y ([]++prL p q reach L R) O)):=by rw[<- e];unfold w_9;cases (R.map tD).getLast? <;> rfl
 have cm:∀ (xs:List D) (ρ:En) (s:Sl),(w_9 6 xs ρ).set 7 s=w_9 6 xs (ρ.set 7 s):=λ xs ρ s=>by
  unfold w_9;cases xs.getLast? with
  |none=>rfl
  |some d=>exact List.set_comm _ _ (by decide)
 have aa:=Q_7 (p:=p) (q:=q) (reach:=reach) Z L;have rl:R.length<=1000:=by omega
 have pl:(prL p q reach L R).length<=1000:=by omega
 have e1:U_7 (gN 8) (eV 1) r_9 (w_9 6 (R.map tD) [.im (rowP reach how),.im (.lst (L.map tD)),.im (.lst (R.map tD)),.im (.int reach),.im (.str how),.ow false (.dic (K_3 g)),.no,.ow false (.lst []),.no])=some (.nx (EP (rowP reach how) (.lst (L.map tD)) (.lst (R.map tD)) reach how (K_3 g) Y (prL p q reach L R) O)):=by
  have ev:eV 1 (w_9 6 (R.map tD) [.im (rowP reach how),.im (.lst (L.map tD)),.im (.lst (R.map tD)),.im (.int reach),.im (.str how),.ow false (.dic (K_3 g)),.no,.ow false (.lst []),.no])=some (.lst (L.map tD),w_9 6 (R.map tD) [.im (rowP reach how),.im (.lst (L.map tD)),.im (.lst (R.map tD)),.im (.int reach),.im (.str how),.ow false (.dic (K_3 g)),.no,.ow false (.lst []),.no]):=by unfold w_9;cases (R.map tD).getLast? <;> rfl
  unfold U_7;rw[ev];exact e'
 unfold EP at e1;obtain⟨S,hS,pm⟩:=ac3 (prL p q reach L R);have M:=U_3 (prL p q reach L R) (by omega);rw[hS] at M;refine⟨S,?_,pm⟩;generalize (prL p q reach L R).map tD=X at *;simp[p_5,P_7,List.replicate,k_3,m_8,l_4,rl,z,cm,-bA2,e1,M]
theorem mem_pr {p q reach:Int}{L R:List Th}{u:Th}:u∈prL p q reach L R↔∃ l∈L,∃ r∈R,r.k=l.k/\((l.t-r.t).natAbs:Int)<=reach/\u=pr p q l r:=by
 unfold prL;simp only[List.mem_flatMap,List.mem_map,List.mem_filter,kyq,clo,Y6];constructor
 ·rintro ⟨l,z,r,⟨⟨hr,h1⟩,h2⟩,rfl⟩;exact⟨l,z,r,hr,h1,h2,rfl⟩
 ·rintro ⟨l,z,r,hr,h1,h2,rfl⟩;exact⟨l,z,r,⟨⟨hr,h1⟩,h2⟩,rfl⟩
theorem bk7 (p q reach:Int) (A R:List Th) (L:List Th):prL p q reach (L++A) R=prL p q reach L R++prL p q reach A R:=by unfold prL;rw[List.flatMap_append]
theorem at5 (p q reach:Int) (R B:List Th):∀ L:List Th,(prL p q reach L (R++B)).Perm (prL p q reach L R++prL p q reach L B)
 |[]=>Ja _
 |l::L=>by
  have z:=at5 p q reach R B L;have e:∀ X,prL p q reach (l::L) X=((X.filter (kyq l)).filter (clo reach l)).map (pr p q l)++prL p q reach L X:=λ X=>rfl;rw[e,e,e,Zk,Zk,Qy,Q3,Q3];refine List.Perm.append_left _ ?_;refine (List.Perm.append_left _ z).trans ?_;rw[<- Q3,<- Q3];exact List.Perm.append_right _ List.perm_append_comm
theorem ai2 (p q reach:Int) {R S:List Th} (h:R.Perm S):∀ L:List Th,(prL p q reach L R).Perm (prL p q reach L S)
 |[]=>Ja _
 |l::L=>List.Perm.append (((h.filter _).filter _).map _) (ai2 p q reach h L)
theorem aU2 (p q reach:Int) {L K R S:List Th} (h:L.Perm K) (h2:R.Perm S):(prL p q reach L R).Perm (prL p q reach K S):=(List.Perm.flatMap_right _ h).trans (ai2 p q reach h2 K)
noncomputable def oD:Option Int->D
 |none=>.non
 |some m=>.int m
theorem be7 (m:Int):oD (some m)=.int m:=rfl
theorem bL5:oD none=.non:=rfl
def amO (w:Str) (vs:List Int):Option Int:=if vs=[] then none else some (amt w vs)
theorem U_4 {w:Str}{a b:List Int} (p:a.Perm b):amO w a=amO w b:=by
 unfold amO;by_cases h:a=[]
 ·subst h;rw[List.nil_perm.mp p]
 ·have:b≠[]:=λ z=>h (by rw[z] at p;exact List.perm_nil.mp p);rw[if_neg h,if_neg this,aL2 p]
def inW (f:Fold) (a t:Int):Prop:=a∈f.wins t
instance (f:Fold) (a t:Int):Decidable (inW f a t):=inferInstanceAs (Decidable (_∈_))
noncomputable def pW (f:Fold) (k:Str) (a:Int) (u:Th):Bool:=decide (u.k=k/\inW f a u.t)
def vw (f:Fold) (L:List Th) (k:Str) (a:Int):List Int:=(L.filter (pW f k a)).map (·.v)
theorem as4:∀ (n:Nat) (lo:Int),(ah6 lo n).Nodup
 |0,_=>Yp
 |n+1,lo=>by
  show (lo::ah6 (lo+1) n).Nodup;rw[Yw,B_7];exact⟨by omega,as4 n _⟩
theorem aR1 (f:Fold) (t:Int):(f.wins t).Nodup:=by
 cases f with
 |ever w=>exact Jp _ _
 |fixed s w=>exact Jp _ _
 |slide wd s w=>exact as4 _ _
theorem ag4 (x:Th) (k:Str) (a:Int):∀ M:List Int,M.Nodup->vals (k,a) (M.map λ w=>((x.k,w),x.v))=if x.k=k/\a∈M then [x.v] else []
 |[],_=>by rw[if_neg λ z=>nomatch z.2];rfl
 |w::M,nd=>by
  rw[Yw] at nd;have Y:=ag4 x k a M nd.2;unfold vals at Y ⊢;rw[Qa];by_cases c:x.k=k/\w=a
  ·obtain⟨rfl,rfl⟩:=c;rw[Qj (by simp),if_pos ⟨rfl,Um⟩,Qa,Y,if_neg λ z=>nd.1 z.2]
  ·rw[Qo (by simpa using λ z1 Z=>c ⟨z1,Z⟩),Y];by_cases O:x.k=k/\a∈M
   ·rw[if_pos O,if_pos ⟨O.1,Ye _ O.2⟩]
   ·rw[if_neg O,if_neg λ z=>?_];rcases qw z.2 with h | h
    ·exact c ⟨z.1,h.symm⟩
    ·exact O ⟨z.1,h⟩
theorem ac2 (f:Fold) (k:Str) (a:Int):∀ L:List Th,vals (k,a) (evs f L)=vw f L k a
 |[]=>rfl
 |x::L=>by
  have e:vals (k,a) (evs f (x::L))=vals (k,a) ((f.wins x.t).map λ w=>((x.k,w),x.v))++vals (k,a) (evs f L):=by unfold evs vals;rw[List.flatMap_cons,Zk,Qy]
  rw[e,ag4 x k a _ (aR1 f x.t),ac2 f k a L];unfold vw;by_cases c:x.k=k/\a∈f.wins x.t
  ·rw[if_pos c,Qj (p:=pW f k a) (Qk c)];rfl
  ·rw[if_neg c,Qo (p:=pW f k a) (λ z=>c (Q1 z))];rfl
theorem ab2 {w:Str}{vs:List Int} (h:vs≠[]):amO w vs=some (amt w vs):=if_neg h
theorem ak3 {w:Str}{p q:(Str×Int)×List Int} (h:v_5 w p=v_5 w q):p.1=q.1:=by
 have h:D.tup [kD p.1,.int (amt w p.2)]=D.tup [kD q.1,.int (amt w q.2)]:=h;injection h with h
 injection h with h _
 unfold kD at h;injection h with h
 injection h with h1 h3
 injection h3 with h3 _
 injection h1 with h1
 injection h3 with h3
 exact Prod.ext h1 h3
theorem al1 (O Y a2 Z:Sl) (k:Str) (a:Int) (w:Str) (vs:List Int):∀ (C:List D),(∀ c∈C,∃ q:(Str×Int)×List Int,c=v_5 w q/\(q.1=(k,a)->q.2=vs))->∀ (s5 s6:Sl),
  ((∃ q:(Str×Int)×List Int,v_5 w q∈C/\q.1=(k,a))/\∃ M,fGo (gT [5,6]) f_5 C [O,Y,a2,Z,.im (.tup [.str k,.int a]),s5,s6]=some (.rt (.int (amt w vs)) M)) \/
  ((¬ ∃ q:(Str×Int)×List Int,v_5 w q∈C/\q.1=(k,a))/\∃ M,fGo (gT [5,6]) f_5 C [O,Y,a2,Z,.im (.tup [.str k,.int a]),s5,s6]=some (.nx M))
 |[],_,s5,s6=>.inr ⟨fun⟨q,z,_⟩=>(nomatch z),_,rfl⟩
 |c::C,h,s5,s6=>by
  obtain⟨q,rfl,hq⟩:=h c qg;have gg:gT [5,6] (v_5 w q) [O,Y,a2,Z,.im (.tup [.str k,.int a]),s5,s6]=some [O,Y,a2,Z,.im (.tup [.str k,.int a]),.im (kD q.1),.im (.int (amt w q.2))]:=rfl;by_cases e:q.1=(k,a)
  ·have b:f_5 [O,Y,a2,Z,.im (.tup [.str k,.int a]),.im (kD q.1),.im (.int (amt w q.2))]=some (.rt (.int (amt w vs)) [O,Y,a2,Z,.im (.tup [.str k,.int a]),.im (kD q.1),.im (.int (amt w q.2))]):=by rw[hq e,e];simp[f_5,kD]
   exact .inl ⟨⟨q,qg,e⟩,_,by rw[r_5,gg,r_6,b,ay7]⟩
  ·have b:f_5 [O,Y,a2,Z,.im (.tup [.str k,.int a]),.im (kD q.1),.im (.int (amt w q.2))]=some (.nx [O,Y,a2,Z,.im (.tup [.str k,.int a]),.im (kD q.1),.im (.int (amt w q.2))]):=by
    obtain⟨⟨q1,q2⟩,qv⟩:=q;by_cases e1:q1=k
    ·have e2:¬ q2=a:=λ z=>e (by rw[<- e1,<- z]);simp[f_5,kD,e1,e2]
    ·simp[f_5,kD,e1]
   rcases al1 O Y a2 Z k a w vs C (λ x hx=>h x (qh _ hx)) (.im (kD q.1)) (.im (.int (amt w q.2))) with ⟨⟨p,h1,h2⟩,M,ih⟩ | ⟨no,M,ih⟩
   ·exact .inl ⟨⟨p,qh _ h1,h2⟩,M,by rw[r_5,gg,r_6,b,t_9,ih]⟩
   ·refine .inr ⟨λ aa=>?_,M,by rw[r_5,gg,r_6,b,t_9,ih]⟩;obtain⟨p,h1,h2⟩:=aa;rcases qw h1 with h1 | h1
    ·exact e ((ak3 h1).symm.trans h2)
    ·exact no ⟨p,h1,h2⟩
theorem aQ3 (f:Fold) (hf:f.ok) {how:Str}{p q:Int} (h:IsH how p q) (reach:Int) {L R:List Th} (hL:L.length<=5) (hR:R.length<=5) (sm:Sm (prL p q reach L R)) (k:Str) (a:Int):i_1 [rowP reach how,f.D',.lst (L.map tD),.lst (R.map tD),.tup [.str k,.int a]]=some (oD (amO f.word (vw f (prL p q reach L R) k a))):=by
 obtain⟨S,ep,O⟩:=ai7 h reach L R hL hR;have aa:=Q_7 (p:=p) (q:=q) (reach:=reach) hR L;have e1:=T_5 f hf S (by rw[O.length_eq];omega) (λ x hx=>sm x (O.mem_iff.mp hx));have pv:(vw f S k a).Perm (vw f (prL p q reach L R) k a):=(O.filter _).map _;rw[<- U_4 pv];have G:=GI.all (evs f S) GI.nil;rw[Yc,<- af1 f S []] at G;generalize grp f S []=g at e1 G;have Z:=q_4 (g.map (v_5 f.word));generalize sortT (g.map (v_5 f.word))=C at e1 Z;have iff:(∃ q:(Str×Int)×List Int,v_5 f.word q∈C/\q.1=(k,a))↔vw f S k a≠[]:=by
  rw[<- ac2];constructor
  ·rintro ⟨q,hq,e⟩ z;obtain⟨p,hp,ep⟩:=List.mem_map.mp (Z.mem_iff.mp hq);have e':p.1=(k,a):=(ak3 ep).trans e;have m:(k,a)∈(evs f S).map (·.1):=(G.ks _).mp (by rw[<- e'];exact Za hp);obtain⟨ev,M,ee⟩:=List.mem_map.mp m;have:ev.2∈vals (k,a) (evs f S):=List.mem_map.mpr ⟨ev,List.mem_filter.mpr ⟨M,Qk ee⟩,rfl⟩;rw[z] at this;cases this
  ·intro z;obtain⟨v,hv⟩:=List.exists_mem_of_ne_nil _ z;obtain⟨ev,M,_⟩:=List.mem_map.mp hv;obtain⟨h1,h2⟩:=List.mem_filter.mp M;have m:(k,a)∈g.map (·.1):=(G.ks _).mpr (List.mem_map.mpr ⟨ev,h1,Q1 h2⟩);obtain⟨q,hq,eq⟩:=List.mem_map.mp m;exact⟨q,Z.mem_iff.mpr (Za hq),eq⟩
 rcases al1 (.im (rowP reach how)) (.im f.D') (.im (.lst (L.map tD))) (.im (.lst (R.map tD))) k a f.word (vw f S k a) C (λ c hc=>by
  obtain⟨q,hq,rfl⟩:=List.mem_map.mp (Z.mem_iff.mp hc);exact⟨q,rfl,λ z=>by rw[G.vs q hq,z,ac2]⟩) .no .no with ⟨y,ρ',lp⟩ | ⟨n,ρ',lp⟩
 ·rw[ab2 (iff.mp y),be7];generalize D.lst (L.map tD)=X at *;generalize D.lst (R.map tD)=Y at *;generalize f.D'=F at *;generalize rowP reach how=P at *;simp[i_1,y_5,List.replicate,ep,e1,lp]
 ·rw[show amO f.word (vw f S k a)=none from if_pos (Classical.byContradiction λ z=>n (iff.mpr z)),bL5];generalize D.lst (L.map tD)=X at *;generalize D.lst (R.map tD)=Y at *;generalize f.D'=F at *;generalize rowP reach how=P at *;simp[i_1,y_5,List.replicate,ep,e1,lp]
def Tw (w:Str) (o:Option Int) (v:Int):Prop:=w=wC\/∀ m,o=some m->if w=wM then m<v else v<m
theorem aD2 {w:Str} (hw:IsW w) (hs:w≠wS) (vs new:List Int):amO w (vs++new)≠amO w vs↔∃ v∈new,Tw w (amO w vs) v:=by
 by_cases Y:new=[]
 ·subst Y;rw[Qr];exact⟨λ z=>absurd rfl z,fun⟨v,M,_⟩=>nomatch M⟩
 obtain⟨v0,Z⟩:=List.exists_mem_of_ne_nil _ Y;have ne:vs++new≠[]:=λ z=>Y (List.append_eq_nil_iff.mp z).2;by_cases M:vs=[]
 ·subst M;rw[Yc,ab2 Y,show amO w ([]:List Int)=none from rfl];exact⟨λ _=>⟨v0,Z,.inr λ m e=>nomatch e⟩,λ _ z=>nomatch z⟩
 rw[ab2 ne,ab2 M];unfold Tw;have a1:=aW1 M;have a2:=aW3 M;have b1:=aW1 ne;have b2:=aW3 ne;rcases hw with rfl | rfl | rfl | rfl
 ·refine⟨λ _=>⟨v0,Z,.inl rfl⟩,λ _ z=>?_⟩;injection z with z
  have:0<new.length:=List.length_pos_iff.mpr Y;simp[amt] at z;omega
 ·exact absurd rfl hs
 ·have e:∀ x,amt wM x=mxL x:=λ x=>by unfold amt;rw[if_neg (by rw[n4];exact id),if_neg (by rw[n5];exact id),if_pos rfl]
  rw[e,e];constructor
  ·intro z;rcases qz b1.1 with h | h
   ·have:=a1.2 _ h;have:=b1.2 _ (qp _ a1.1);exact absurd (Zq some (show mxL (vs++new)=mxL vs by omega)) z
   ·refine⟨_,h,.inr λ m O=>?_⟩;injection O with O
    rw[if_pos rfl,<- O];have:=b1.2 _ (qp new a1.1);have:mxL (vs++new)≠mxL vs:=λ y=>z (Zq some y);omega
  ·rintro ⟨v,M,h⟩ z;rcases h with h | h
   ·exact absurd h (by rw[n4];exact id)
   ·have h:=h _ rfl;rw[if_pos rfl] at h;injection z with z
    have:=b1.2 v (qo _ M);omega
 ·have e:∀ x,amt wL x=mnL x:=λ x=>by unfold amt;rw[if_neg (by rw[n7];exact id),if_neg (by rw[n8];exact id),if_neg (by rw[n9];exact id)]
  rw[e,e];constructor
  ·intro z;rcases qz b2.1 with h | h
   ·have:=a2.2 _ h;have:=b2.2 _ (qp _ a2.1);exact absurd (Zq some (show mnL (vs++new)=mnL vs by omega)) z
   ·refine⟨_,h,.inr λ m O=>?_⟩;injection O with O
    rw[if_neg (by rw[n9];exact id),<- O];have:=b2.2 _ (qp new a2.1);have:mnL (vs++new)≠mnL vs:=λ y=>z (Zq some y);omega
  ·rintro ⟨v,M,h⟩ z;rcases h with h | h
   ·exact absurd h (by rw[n7];exact id)
   ·have h:=h _ rfl;rw[if_neg (by rw[n9];exact id)] at h;injection z with z
    have:=b2.2 v (qo _ M);omega
noncomputable abbrev Bd:=Option (Option Int×Option Int)
def bq3:Bd->Int->Prop
 |none,_=>True
 |some (l,h),m=>(∀ x,l=some x->x<=m)/\∀ x,h=some x->m<=x
noncomputable abbrev stD (lo hi st re:Int):D:=.tup [.int lo,.int hi,.int st,.int re]
noncomputable abbrev evD:D:=.tup [.non,.non,.int 1,.int 0]
def mkS (f b st re:Int):D:=if b<f then .non else if f=b then stD f b 1 0 else stD f b st re
def I13 (st:Int):Prop:=st=1\/st=2\/st=3
theorem ao8 {st:Int} (h:I13 st) (x:Int):x.fmod st=x % st:=Jb _ (by rcases h with rfl | rfl | rfl <;> decide)
theorem J_4 (l h:Int) {st re:Int} (s:I13 st) (z:0<=re) (M:re<st):a_2 [.int l,.int h,.int st,.int re]=some (mkS (l+(re-l) % st) (h-(h-re) % st) st re):=by
 have O:¬ st=0:=by rcases s with rfl | rfl | rfl <;> decide
 rw[<- ao8 s,<- ao8 s];unfold mkS;by_cases Z:h-(h-re).fmod st<l+(re-l).fmod st
 ·simp[a_2,h_1,List.replicate,z,M,O,Z]
 ·by_cases Y:l+(re-l).fmod st=h-(h-re).fmod st
  ·have c3:¬ h-(h-re).fmod st<h-(h-re).fmod st:=Int.lt_irrefl _;simp[a_2,h_1,List.replicate,z,M,O,Y,c3]
  ·simp[a_2,h_1,List.replicate,z,M,O,Z,Y]
theorem mlo {n r A v:Int} (h:0<n) (e:v%n=r):A+(r-A)%n<=v↔A<=v:=by
 have q:(r-A)%n=(v-A)%n:=by rw[← e,Y4,Ul,← Y4]
 rw[q];have a:=J2 (v-A) (Us h);refine⟨fun _=>by omega,fun k=>?_⟩;have b:=Int.mul_ediv_add_emod (v-A) n;have:=Ue (Ut h) (J3 (show 0<=v-A by omega) (Ut h));omega
theorem mhi {n r B v:Int} (h:0<n) (e:v%n=r):v<=B-(B-r)%n↔v<=B:=by
 have q:(B-r)%n=(B-v)%n:=by rw[← e,Y4,Ul,← Y4]
 rw[q];have a:=J2 (B-v) (Us h);refine⟨fun _=>by omega,fun k=>?_⟩;have b:=Int.mul_ediv_add_emod (B-v) n;have:=Ue (Ut h) (J3 (show 0<=B-v by omega) (Ut h));omega
theorem mlr {n r A:Int} (a:0<=r) (b:r<n):(A+(r-A)%n)%n=r:=by rw[Int.add_emod,Ul,← Int.add_emod,show A+(r-A)=r by omega,Int.emod_eq_of_lt a b]
theorem mhr {n r B:Int} (a:0<=r) (b:r<n):(B-(B-r)%n)%n=r:=by rw[Y4,Ul,← Y4,show B-(B-r)=r by omega,Int.emod_eq_of_lt a b]
structure St where
 lo:Int
 hi:Int
 st:Int
 re:Int
abbrev St.D (s:St):D:=stD s.lo s.hi s.st s.re
structure St.Ok (s:St):Prop where
 le:s.lo<=s.hi
 sh:s.hi-s.lo<=5
 s3:I13 s.st
 r0:0<=s.re
 r1:s.re<s.st
 lm:s.lo % s.st=s.re
 hm:s.hi % s.st=s.re
 eq:s.lo=s.hi->s.st=1/\s.re=0
def St.has (s:St) (v:Int):Prop:=s.lo<=v/\v<=s.hi/\v % s.st=s.re
theorem aW7 (l:Int) {wd st re:Int} (s:I13 st) (O:0<=re) (Y:re<st) (Z:wd<=5):a_2 [.int l,.int (l+wd),.int st,.int re]=some .non\/∃ s:St,s.Ok/\(l<=s.lo/\s.hi<=l+wd)/\a_2 [.int l,.int (l+wd),.int st,.int re]=some s.D:=by
 rw[J_4 l (l+wd) s O Y];unfold mkS;split
 ·exact .inl rfl
 ·rename_i c1;split
  ·rename_i M;refine .inr ⟨⟨_,_,1,0⟩,⟨by dsimp only;omega,by dsimp only;omega,.inl rfl,Qv _,Yx,Q9 _,Q9 _,λ _=>⟨rfl,rfl⟩⟩,⟨?_,?_⟩,rfl⟩ <;> dsimp only <;> rcases s with rfl | rfl | rfl <;> omega
  ·rename_i M;refine .inr ⟨⟨_,_,st,re⟩,⟨by dsimp only;omega,?_,s,O,Y,?_,?_,λ z=>absurd z M⟩,⟨?_,?_⟩,rfl⟩ <;> dsimp only <;> rcases s with rfl | rfl | rfl <;> omega
theorem aO5 (a b:Int):c_4 [.int a,.int b]=some (.int (if a<b then b else a)):=by simp[c_4,g_8]
theorem aj7 (a b:Int):b_2 [.int a,.int b]=some (.int (if b<a then b else a)):=by simp[b_2,f_2]
section
variable {s:St} (h:s.Ok)
include h
theorem av8:a_2 [.int s.lo,.int s.hi,.int s.st,.int s.re]=some s.D:=by
 rw[J_4 _ _ h.s3 h.r0 h.r1];have e1:s.lo+(s.re-s.lo) % s.st=s.lo:=by have:=h.lm;rcases h.s3 with e | e | e <;> rw[e] at this ⊢ <;> omega
 have e2:s.hi-(s.hi-s.re) % s.st=s.hi:=by have:=h.hm;rcases h.s3 with e | e | e <;> rw[e] at this ⊢ <;> omega
 rw[e1,e2];unfold mkS;rw[if_neg (by have:=h.le;omega)];split
 ·rename_i z;obtain⟨O,M⟩:=h.eq z;unfold St.D;rw[O,M]
 ·rfl
theorem bd1:b_0 [evD,.int s.st,.int s.re]=some evD/\b_8 [evD,.int s.st,.int s.re]=some (.tup [.non,.non,.int s.st,.int s.re]):=by
 have M:=h.r0;have z:=h.r1;have a:∀ re:Int,0<=re->re<1->re=0:=λ re _ _=>by omega
 have b:∀ re:Int,0<=re->re<2->re=0\/re=1:=λ re _ _=>by omega
 have c:∀ re:Int,0<=re->re<3->re=0\/re=1\/re=2:=λ re _ _=>by omega
 rcases h.s3 with e | e | e <;> rw[e] at z ⊢
 ·rw[a _ M z];exact⟨by kernel_rfl,by kernel_rfl⟩
 ·rcases b _ M z with e | e <;> rw[e] <;> exact⟨by kernel_rfl,by kernel_rfl⟩
 ·rcases c _ M z with e | e | e <;> rw[e] <;> exact⟨by kernel_rfl,by kernel_rfl⟩
theorem aW5:b_4 [s.D,evD]=some s.D:=by obtain⟨e1,e2⟩:=bd1 h;have e3:=av8 h;have z:b_0 [.tup [.non,.non,.int 1,.int 0],.int s.st,.int s.re]=some (.tup [.non,.non,.int 1,.int 0]):=e1;have M:b_8 [.tup [.non,.non,.int 1,.int 0],.int s.st,.int s.re]=some (.tup [.non,.non,.int s.st,.int s.re]):=e2;simp[b_4,n_6,List.replicate,m_7,k_5,n_5,k_3,z,M,a_5,c_7,c_4,g_8,b_2,f_2,e3]
theorem aP9 (l r:Option Int):∃ x,a_5 [s.D,oD l,oD r]=some x/\((x=.non/\¬ ∃ v,s.has v/\bq3 (some (l,r)) v)\/∃ s':St,s'.Ok/\x=s'.D/\∀ v,s'.has v↔s.has v/\bq3 (some (l,r)) v):=by
 obtain⟨A,eA,hA⟩:∃ A,c_4 [.int s.lo,oD l]=some (.int A)/\∀ v,A<=v↔s.lo<=v/\∀ x,l=some x->x<=v:=by
  cases l with
  |none=>exact⟨s.lo,by simp[c_4,g_8,oD],λ v=>⟨λ h=>⟨h,λ x e=>nomatch e⟩,λ h=>h.1⟩⟩
  |some x =>
   refine⟨_,aO5 s.lo x,λ v=>⟨λ h=>?_,λ h=>?_⟩⟩
   ·have:s.lo<=v/\x<=v:=by split at h <;> omega
    exact⟨this.1,λ y e=>by cases e;exact this.2⟩
   ·have:=h.2 x rfl;have:=h.1;split <;> omega
 obtain⟨B,eB,hB⟩:∃ B,b_2 [.int s.hi,oD r]=some (.int B)/\∀ v,v<=B↔v<=s.hi/\∀ x,r=some x->v<=x:=by
  cases r with
  |none=>exact⟨s.hi,by simp[b_2,f_2,oD],λ v=>⟨λ h=>⟨h,λ x e=>nomatch e⟩,λ h=>h.1⟩⟩
  |some x =>
   refine⟨_,aj7 s.hi x,λ v=>⟨λ h=>?_,λ h=>?_⟩⟩
   ·have:v<=s.hi/\v<=x:=by split at h <;> omega
    exact⟨this.1,λ y e=>by cases e;exact this.2⟩
   ·have:=h.2 x rfl;have:=h.1;split <;> omega
 have e:=J_4 A B h.s3 h.r0 h.r1;have r0:=h.r0;have O:=h.r1;have a1:=((hA A).mp (Qv _)).1;have b1:=((hB B).mp (Qv _)).1;have sh:=h.sh;have iff:∀ v,(s.has v/\bq3 (some (l,r)) v)↔A<=v/\v<=B/\v % s.st=s.re:=λ v=>by
  rw[hA,hB];exact⟨fun⟨⟨h1,h2,M⟩,h4,h5⟩=>⟨⟨h1,h4⟩,⟨h2,h5⟩,M⟩,fun⟨⟨h1,h4⟩,⟨h2,h5⟩,M⟩=>⟨⟨h1,h2,M⟩,h4,h5⟩⟩
 refine⟨_,by simp[a_5,c_7,m_7,k_5,n_5,k_3,eA,eB,e];rfl,?_⟩;have h0:0<s.st:=by omega
 have key:∀ v,(A<=v/\v<=B/\v % s.st=s.re)↔A+(s.re-A) % s.st<=v/\v<=B-(B-s.re) % s.st/\v % s.st=s.re:=λ v=>⟨fun⟨a,b,c⟩=>⟨(mlo h0 c).2 a,(mhi h0 c).2 b,c⟩,fun⟨a,b,c⟩=>⟨(mlo h0 c).1 a,(mhi h0 c).1 b,c⟩⟩
 have ea:=mlr (A:=A) r0 O;have eb:=mhr (B:=B) r0 O;have na:=J2 (s.re-A) (Us h0);have nb:=J2 (B-s.re) (Us h0);simp only[iff];simp only[key];unfold mkS;split
 ·rename_i c1;exact .inl ⟨rfl,fun⟨v,h1,h2,_⟩=>by omega⟩
 ·rename_i c1;split
  ·rename_i Z;refine .inr ⟨⟨_,_,1,0⟩,⟨by dsimp only;omega,by dsimp only;omega,.inl rfl,Qv _,Yx,Q9 _,Q9 _,λ _=>⟨rfl,rfl⟩⟩,rfl,λ v=>⟨fun⟨a,b,_⟩=>?_,fun⟨a,b,_⟩=>⟨a,by dsimp only;omega,Q9 _⟩⟩⟩;dsimp only at a b;exact⟨a,by omega,(show v=A+(s.re-A) % s.st by omega)▸ea⟩
  ·rename_i Z;exact .inr ⟨⟨A+(s.re-A) % s.st,B-(B-s.re) % s.st,s.st,s.re⟩,⟨by dsimp only;omega,by dsimp only;omega,h.s3,r0,O,ea,eb,λ z=>absurd z Z⟩,rfl,λ _=>Iff.rfl⟩
theorem aL3 (c:Int):∃ x,c_2 [s.D,.int c]=some x/\((x=.non/\¬ ∃ v,s.has v/\c<v)\/∃ s':St,s'.Ok/\x=s'.D/\∀ v,s'.has v↔s.has v/\c<v):=by
 obtain⟨x,e,q⟩:=aP9 h (some (c+1)) none;have e':a_5 [s.D,.int (c+1),.non]=some x:=e;have iff:∀ v,bq3 (some (some (c+1),none)) v↔c<v:=λ v=>⟨λ h=>by have:=h.1 _ rfl;omega,λ h=>⟨λ x e=>by cases e;omega,λ x e=>nomatch e⟩⟩
 simp only[iff] at q;exact⟨x,by simp[c_2,t_7,e'],q⟩
theorem aK7 (c:Int):∃ x,c_1 [s.D,.int c]=some x/\((x=.non/\¬ ∃ v,s.has v/\v<c)\/∃ s':St,s'.Ok/\x=s'.D/\∀ v,s'.has v↔s.has v/\v<c):=by
 obtain⟨x,e,q⟩:=aP9 h none (some (c-1));have e':a_5 [s.D,.non,.int (c-1)]=some x:=e;have iff:∀ v,bq3 (some (none,some (c-1))) v↔v<c:=λ v=>⟨λ h=>by have:=h.2 _ rfl;omega,λ h=>⟨λ x e=>(nomatch e),λ x e=>by cases e;omega⟩⟩
 simp only[iff] at q;exact⟨x,by simp[c_1,t_6,e'],q⟩
theorem St.Ok.has_lo:s.has s.lo:=⟨Qv _,h.le,h.lm⟩
end
inductive HL where
 |all | ge (c:Int) | le (c:Int)
noncomputable def HL.D:HL->D
 |.all=>.tup [.non,.non,.int 1,.int 0]
 |.ge c=>.tup [.int c,.non,.int 1,.int 0]
 |.le c=>.tup [.non,.int c,.int 1,.int 0]
noncomputable def HL.has:HL->Int->Prop
 |.all,_=>True
 |.ge c,v=>c<=v
 |.le c,v=>v<=c
theorem fm1 (x:Int):x.fmod 1=0:=by rw[Jb _ (by decide)];omega
theorem fd1 (x:Int):x.fdiv 1=x:=by rw[Qt _ (by decide)];omega
theorem bN1 (x:Int):x.fdiv (-1)=-x:=by rw[Int.fdiv_eq_ediv_of_dvd ⟨-x,by omega⟩];simp
theorem S_8 (a:Int) {st re:Int} (s:I13 st) (z:0<=re) (M:re<st) (h:a % st=re):a_2 [.int a,.non,.int st,.int re]=some (.tup [.int a,.non,.int st,.int re]):=by
 have O:¬ st=0:=by rcases s with rfl | rfl | rfl <;> decide
 have e:(re-a).fmod st=0:=by rw[ao8 s];rcases s with rfl | rfl | rfl <;> omega
 simp[a_2,h_1,List.replicate,z,M,O,e]
theorem S_7 (a:Int) {st re:Int} (s:I13 st) (z:0<=re) (M:re<st) (h:a % st=re):a_2 [.non,.int a,.int st,.int re]=some (.tup [.non,.int a,.int st,.int re]):=by
 have O:¬ st=0:=by rcases s with rfl | rfl | rfl <;> decide
 have e:(a-re).fmod st=0:=by rw[ao8 s];rcases s with rfl | rfl | rfl <;> omega
 simp[a_2,h_1,List.replicate,z,M,O,e]
theorem ae5 {st re:Int} (z:0<=re) (M:re<st):a_2 [.non,.non,.int st,.int re]=some (.tup [.non,.non,.int st,.int re]):=by simp[a_2,h_1,List.replicate,z,M]
noncomputable def K_2 (p c:Int):HL->HL
 |.all=>.all
 |.ge a=>if 0<p then .ge (-((c-a).fdiv p)) else .le ((a-c).fdiv p)
 |.le a=>if 0<p then .le ((a-c).fdiv p) else .ge (-((c-a).fdiv p))
theorem Y_9 {p:Int} (hp:I13 p\/p=-1) (c:Int) (H:HL) (x:Int):(K_2 p c H).has x↔H.has (p*x+c):=by
 have M:∀ x:Int,x.fdiv 1=x / 1:=λ x=>Qt _ (by decide);have O:∀ x:Int,x.fdiv 2=x / 2:=λ x=>Qt _ (by decide);have z:∀ x:Int,x.fdiv 3=x / 3:=λ x=>Qt _ (by decide);cases H with
 |all=>exact Iff.rfl
 |ge a =>
  unfold K_2;dsimp only;rcases hp with (rfl | rfl | rfl) | rfl
  ·rw[if_pos (by decide),M];show -((c-a) / 1)<=x↔a<=1*x+c;omega
  ·rw[if_pos (by decide),O];show -((c-a) / 2)<=x↔a<=2*x+c;omega
  ·rw[if_pos (by decide),z];show -((c-a) / 3)<=x↔a<=3*x+c;omega
  ·rw[if_neg (by decide),bN1];show x<=-(a-c)↔a<=-1*x+c;omega
 |le a =>
  unfold K_2;dsimp only;rcases hp with (rfl | rfl | rfl) | rfl
  ·rw[if_pos (by decide),M];show x<=(a-c) / 1↔1*x+c<=a;omega
  ·rw[if_pos (by decide),O];show x<=(a-c) / 2↔2*x+c<=a;omega
  ·rw[if_pos (by decide),z];show x<=(a-c) / 3↔3*x+c<=a;omega
  ·rw[if_neg (by decide),bN1];show - -(c-a)<=x↔-1*x+c<=a;omega
theorem ca1 {p:Int} (hp:I13 p\/p=-1):f_1 [.int p,.int 1]=some (.tup [.int 1,.int 0]):=by rcases hp with (rfl | rfl | rfl) | rfl <;> kernel_rfl
theorem aB1 {p:Int} (hp:I13 p\/p=-1) (c:Int) (H:HL):b_0 [H.D,.int p,.int c]=some (K_2 p c H).D:=by
 have Y:=ca1 hp;have i1:I13 1:=.inl rfl;have M:∀ x:Int,x_1 x 0=true:=λ x=>D_9 (by decide);have Z:A_6 1=true:=y_0 (by decide) (by decide);have op:A_6 p=true:=by rcases hp with (rfl | rfl | rfl) | rfl <;> exact y_0 (by decide) (by decide)
 have p0:¬ p=0:=by rcases hp with (rfl | rfl | rfl) | rfl <;> decide
 have O:(0:Int)<1:=by decide
 cases H with
 |all =>
  have e:=ae5 (st:=1) (re:=0) (by decide) O;unfold K_2 HL.D;by_cases z:0<p <;> simp[b_0,f_6,List.replicate,m_7,k_5,n_5,k_3,m_8,l_4,Y,M,Z,op,p0,fm1,fd1,z,e]
 |ge a =>
  unfold K_2 HL.D;by_cases z:0<p
  ·have e:=S_8 (-((c-a).fdiv p)) i1 (Qv 0) O (Q9 _);simp[b_0,f_6,List.replicate,m_7,k_5,n_5,k_3,m_8,l_4,Y,M,Z,op,p0,fm1,fd1,z,e]
  ·have e:=S_7 ((a-c).fdiv p) i1 (Qv 0) O (Q9 _);simp[b_0,f_6,List.replicate,m_7,k_5,n_5,k_3,m_8,l_4,Y,M,Z,op,p0,fm1,fd1,z,e]
 |le a =>
  unfold K_2 HL.D;by_cases z:0<p
  ·have e:=S_7 ((a-c).fdiv p) i1 (Qv 0) O (Q9 _);simp[b_0,f_6,List.replicate,m_7,k_5,n_5,k_3,m_8,l_4,Y,M,Z,op,p0,fm1,fd1,z,e]
  ·have e:=S_8 (-((c-a).fdiv p)) i1 (Qv 0) O (Q9 _);simp[b_0,f_6,List.replicate,m_7,k_5,n_5,k_3,m_8,l_4,Y,M,Z,op,p0,fm1,fd1,z,e]
instance (H:HL) (v:Int):Decidable (H.has v):=match H with
 |.all=>inferInstanceAs (Decidable True)
 |.ge c=>inferInstanceAs (Decidable (c<=v))
 |.le c=>inferInstanceAs (Decidable (v<=c))
theorem bq6 (H:HL) (c:Int):b_9 [H.D,.int c]=some (.bl (decide (H.has c))):=by
 cases H with
 |all=>rw[Qk (show HL.all.has c from trivial)];unfold HL.D;simp[b_9,i_7,m_7,k_5,n_5,k_3,d_7,l_5,fm1]
 |ge a =>
  by_cases z:a<=c
  ·rw[Qk (show (HL.ge a).has c from z)];unfold HL.D;simp[b_9,i_7,m_7,k_5,n_5,k_3,d_7,l_5,fm1,z]
  ·rw[Qh (show ¬ (HL.ge a).has c from z)];unfold HL.D;simp[b_9,i_7,m_7,k_5,n_5,k_3,d_7,l_5,fm1,z]
 |le a =>
  by_cases z:c<=a
  ·rw[Qk (show (HL.le a).has c from z)];unfold HL.D;simp[b_9,i_7,m_7,k_5,n_5,k_3,d_7,l_5,fm1,z]
  ·rw[Qh (show ¬ (HL.le a).has c from z)];unfold HL.D;simp[b_9,i_7,m_7,k_5,n_5,k_3,d_7,l_5,fm1,z]
theorem bd2 {p:Int} (hp:p=1\/p=-1\/p=0) (c:Int) (H:HL):(b_0 [H.D,.int p,.int c]=some .non/\∀ x,¬ H.has (p*x+c))\/∃ H':HL,b_0 [H.D,.int p,.int c]=some H'.D/\∀ x,H'.has x↔H.has (p*x+c):=by
 by_cases O:p=0
 ·subst O;have e:=bq6 H c;by_cases z:H.has c
  ·rw[Qk z] at e;refine .inr ⟨.all,?_,λ x=>⟨λ _=>by rw[Int.zero_mul,Int.zero_add];exact z,λ _=>trivial⟩⟩;generalize H.D=X at *;unfold HL.D;simp[b_0,f_6,List.replicate,e]
  ·rw[Qh z] at e;refine .inl ⟨?_,λ x y=>z (by rw[Int.zero_mul,Int.zero_add] at y;exact y)⟩;generalize H.D=X at *;simp[b_0,f_6,List.replicate,e]
 ·have M:I13 p\/p=-1:=by rcases hp with h | h | h;exact .inl (.inl h);exact .inr h;exact absurd h O
  exact .inr ⟨_,aB1 M c H,Y_9 M c H⟩
theorem bo1 {A B st re:Int} (s:I13 st) (Y:0<=re) (Z:re<st) (w:B-A<=5):(a_2 [.int A,.int B,.int st,.int re]=some .non/\¬ ∃ v,A<=v/\v<=B/\v % st=re)\/∃ s':St,s'.Ok/\a_2 [.int A,.int B,.int st,.int re]=some s'.D/\∃ v,A<=v/\v<=B/\v % st=re:=by
 rw[J_4 A B s Y Z];unfold mkS;split
 ·rename_i c1;refine .inl ⟨rfl,λ M=>?_⟩;obtain⟨v,h1,h2,h3⟩:=M;rcases s with rfl | rfl | rfl <;> omega
 ·rename_i c1;split
  ·rename_i O;refine .inr ⟨⟨_,_,1,0⟩,⟨?_,?_,.inl rfl,Qv _,Yx,Q9 _,Q9 _,λ _=>⟨rfl,rfl⟩⟩,rfl,A+(re-A) % st,?_⟩
   ·dsimp only;omega
   ·dsimp only;omega
   ·rcases s with rfl | rfl | rfl <;> omega
  ·rename_i O;refine .inr ⟨⟨A+(re-A) % st,B-(B-re) % st,st,re⟩,⟨?_,?_,s,Y,Z,?_,?_,λ z=>absurd z O⟩,rfl,A+(re-A) % st,?_⟩
   ·dsimp only;omega
   ·dsimp only;rcases s with rfl | rfl | rfl <;> omega
   ·dsimp only;rcases s with rfl | rfl | rfl <;> omega
   ·dsimp only;rcases s with rfl | rfl | rfl <;> omega
   ·rcases s with rfl | rfl | rfl <;> omega
theorem bv0:2<=sizeLine:=by decide
theorem d02:¬ (U_9 4 0 none=0/\U_9 4 4 (some 2)=4):=by decide
theorem bw2 (a b c d:D):aC5 [a,b,c,d] none (some 2)=[a,b]:=rfl
theorem aG6 {st re:Int} (s:I13 st) (M:0<=re) (Z:re<st) (H:HL):b_8 [H.D,.int st,.int re]=some (match H with
  |.all=>.tup [.non,.non,.int st,.int re] | .ge m=>.tup [.int (st*m+re),.non,.int st,.int re] | .le m=>.tup [.non,.int (st*m+re),.int st,.int re]):=by
 have s0:¬ st=0:=by rcases s with rfl | rfl | rfl <;> decide
 have z:¬ st<0:=by rcases s with rfl | rfl | rfl <;> decide
 have Y:((st.natAbs:Nat):Int)=st:=by rcases s with rfl | rfl | rfl <;> rfl
 have m1:∀ x:Int,x_1 st x=true:=λ x=>ad7 (by rcases s with rfl | rfl | rfl <;> decide);have O:re.fmod st=re:=by rw[ao8 s];rcases s with rfl | rfl | rfl <;> omega
 cases H with
 |all =>
  have e:=ae5 (st:=st) (re:=re) M Z;unfold HL.D;simp[b_8,q_2,List.replicate,m_7,k_5,n_5,k_3,m_8,l_4,d02,bw2,bv0,s0,z,Y,m1,O,e]
 |ge m =>
  have e:=S_8 (st*m+re) s M Z (by rcases s with rfl | rfl | rfl <;> omega);unfold HL.D;simp[b_8,q_2,List.replicate,m_7,k_5,n_5,k_3,m_8,l_4,d02,bw2,bv0,s0,z,Y,m1,O,e]
 |le m =>
  have e:=S_7 (st*m+re) s M Z (by rcases s with rfl | rfl | rfl <;> omega);unfold HL.D;simp[b_8,q_2,List.replicate,m_7,k_5,n_5,k_3,m_8,l_4,d02,bw2,bv0,s0,z,Y,m1,O,e]
theorem aW4 {s:St} (h:s.Ok) (H:HL):(b_4 [s.D,H.D]=some .non/\¬ ∃ v,s.has v/\H.has v)\/∃ s':St,s'.Ok/\b_4 [s.D,H.D]=some s'.D/\∃ v,s.has v/\H.has v:=by
 have e1:=aB1 (.inl h.s3) s.re H;have e2:=aG6 h.s3 h.r0 h.r1 (K_2 s.st s.re H);have hi:=Y_9 (.inl h.s3) s.re H;have sh:=h.sh;have sp:0<s.st:=by have:=h.r0;have:=h.r1;omega
 have nn:∀ H:HL,dIs H.D .non=some (.bl false):=λ H=>by cases H <;> rfl
 have key:∀ A B:Int,B-A<=5->(∀ v,s.has v/\H.has v↔A<=v/\v<=B/\v % s.st=s.re)->(∀ x,a_2 [.int A,.int B,.int s.st,.int s.re]=some x->b_4 [s.D,H.D]=some x)->(b_4 [s.D,H.D]=some .non/\¬ ∃ v,s.has v/\H.has v)\/∃ s':St,s'.Ok/\b_4 [s.D,H.D]=some s'.D/\∃ v,s.has v/\H.has v:=λ A B w iff e=>by
  simp only[iff];rcases bo1 h.s3 h.r0 h.r1 w with ⟨a,b⟩ | ⟨s',a,b,c⟩
  ·exact .inl ⟨e _ a,b⟩
  ·exact .inr ⟨s',a,e _ b,c⟩
 have Z:=nn (K_2 s.st s.re H);have O:∀ x v:Int,v % s.st=s.re->(s.st*x+s.re<=v↔x<=(v-s.re) / s.st)/\(v<=s.st*x+s.re↔(v-s.re) / s.st<=x)/\s.st*((v-s.re) / s.st)+s.re=v:=λ x v hv=>by
  rcases h.s3 with e | e | e <;> rw[e] at hv ⊢ <;> omega
 cases H with
 |all =>
  refine key s.lo s.hi sh (λ v=>⟨fun⟨⟨a,b,c⟩,_⟩=>⟨a,b,c⟩,fun⟨a,b,c⟩=>⟨⟨a,b,c⟩,trivial⟩⟩) λ x ex=>?_;have aa:b_0 [HL.all.D,.int s.st,.int s.re]=some HL.all.D:=e1;have M:b_8 [HL.all.D,.int s.st,.int s.re]=some (.tup [.non,.non,.int s.st,.int s.re]):=e2;have ab:dIs HL.all.D .non=_:=Z;generalize HL.all.D=X at *;simp[b_4,n_6,List.replicate,m_7,k_5,n_5,k_3,aa,M,ab,a_5,c_7,c_4,g_8,b_2,f_2,ex]
 |ge a =>
  have e0:K_2 s.st s.re (.ge a)=.ge (-((s.re-a).fdiv s.st)):=if_pos sp;rw[e0] at e1 e2 hi Z;generalize -((s.re-a).fdiv s.st)=m at *;have M:b_8 [(HL.ge m).D,.int s.st,.int s.re]=some (.tup [.int (s.st*m+s.re),.non,.int s.st,.int s.re]):=e2;refine key (if s.st*m+s.re<s.lo then s.lo else s.st*m+s.re) s.hi (by split <;> omega) (λ v=>?_) λ x ex=>?_
  ·have hi:∀ x,m<=x↔a<=s.st*x+s.re:=hi;show (s.lo<=v/\v<=s.hi/\v % s.st=s.re)/\a<=v↔_;have O:=O m v;have hi:=hi ((v-s.re) / s.st);by_cases c:v % s.st=s.re
   ·obtain⟨a1,a2,a3⟩:=O c;rw[a3,<- a1] at hi;split <;> omega
   ·exact⟨λ z=>absurd z.1.2.2 c,λ z=>absurd z.2.2 c⟩
  ·generalize (HL.ge m).D=X at *;generalize (HL.ge a).D=Y at *;have lm:=aO5 (s.st*m+s.re) s.lo;simp[b_4,n_6,List.replicate,m_7,k_5,n_5,k_3,e1,M,Z,a_5,c_7,lm,b_2,f_2,ex]
 |le a =>
  have e0:K_2 s.st s.re (.le a)=.le ((a-s.re).fdiv s.st):=if_pos sp;rw[e0] at e1 e2 hi Z;generalize (a-s.re).fdiv s.st=m at *;have M:b_8 [(HL.le m).D,.int s.st,.int s.re]=some (.tup [.non,.int (s.st*m+s.re),.int s.st,.int s.re]):=e2;refine key s.lo (if s.hi<s.st*m+s.re then s.hi else s.st*m+s.re) (by split <;> omega) (λ v=>?_) λ x ex=>?_
  ·have hi:∀ x,x<=m↔s.st*x+s.re<=a:=hi;show (s.lo<=v/\v<=s.hi/\v % s.st=s.re)/\v<=a↔_;have O:=O m v;have hi:=hi ((v-s.re) / s.st);by_cases c:v % s.st=s.re
   ·obtain⟨a1,a2,a3⟩:=O c;rw[a3,<- a2] at hi;split <;> omega
   ·exact⟨λ z=>absurd z.1.2.2 c,λ z=>absurd z.2.2 c⟩
  ·generalize (HL.le m).D=X at *;generalize (HL.le a).D=Y at *;have lm:=aj7 (s.st*m+s.re) s.hi;simp[b_4,n_6,List.replicate,m_7,k_5,n_5,k_3,e1,M,Z,a_5,c_7,lm,c_4,g_8,ex]
theorem aS4 {s:St} (h:s.Ok):∃ m,d_0 [s.D]=some (.int m):=by
 obtain⟨x,e1,z⟩:=aL3 h (-1);obtain⟨y,e2,M⟩:=aK7 h 0;have lo:=h.has_lo;rcases z with ⟨rfl,z⟩ | ⟨s1,_,rfl,_⟩ <;> rcases M with ⟨rfl,M⟩ | ⟨s2,_,rfl,_⟩
 ·by_cases c:-1<s.lo
  ·exact absurd ⟨_,lo,c⟩ z
  ·exact absurd ⟨_,lo,by omega⟩ M
 ·exact⟨s2.hi,by simp[d_0,r_8,List.replicate,e1,e2,m_7,k_5,t_2,C_5,af7,N_6,av4,ae1]⟩
 ·exact⟨s1.lo,by simp[d_0,r_8,List.replicate,e1,e2,m_7,k_5,t_2,C_5,af7,N_6,av4,ae1]⟩
 ·exact⟨_,by simp[d_0,r_8,List.replicate,e1,e2,m_7,k_5,t_2,C_5,af7,N_6,av4,ae1];rfl⟩
noncomputable abbrev P_9:Str:=Str.ofString "only"
noncomputable abbrev ac1:Str:=Str.ofString "but"
noncomputable abbrev kC:Str:=Str.ofString "c"
def kyD:Nat->D
 |0=>.tup [.str P_9,.tup [.str kA]]
 |1=>.tup [.str ac1,.tup []]
 |2=>.tup [.str ac1,.tup [.str kA]]
 |3=>.tup [.str P_9,.tup [.str kA,.str kB]]
 |_=>.tup [.str ac1,.tup [.str kC]]
def aI0:Nat->Str->Bool
 |0,k=>decide (k=kA)
 |1,_=>true
 |2,k=>!decide (k=kA)
 |3,k=>decide (k=kA)||decide (k=kB)
 |_,k=>!decide (k=kC)
abbrev onD (k:Str):D:=.tup [.str P_9,.tup [.str k]]
structure Bx where
 ki:Nat
 b:Int
 e:Int
 s:St
abbrev Bx.D (x:Bx):D:=.tup [kyD x.ki,.int x.b,.int x.e,x.s.D]
structure Bx.Ok (x:Bx):Prop where
 ki:x.ki<5
 b0:0<=x.b
 be:x.b<x.e
 e6:x.e<=x.b+6
 b9:x.b<=8
 sm:-1000<=x.s.lo/\x.s.hi<=1000
 s:x.s.Ok
theorem aH2 {i:Nat} (hi:i<5) {k:Str} (hk:IsK k):r_3 [kyD i,onD k]=some (if aI0 i k=true then onD k else .non):=by
 have c:i=0\/i=1\/i=2\/i=3\/i=4:=by omega
 rcases hk with rfl | rfl | rfl <;> rcases c with rfl | rfl | rfl | rfl | rfl <;> kernel_rfl
theorem B_9 (a b:Int):(if b > a then b else a)=max a b:=by omega
theorem bo2 (a b:Int):(if b<a then b else a)=min a b:=by omega
noncomputable def ltO (x:Int):Option Int->Prop
 |none=>True
 |some q=>x<q
instance (x:Int) (q:Option Int):Decidable (ltO x q):=match q with
 |none=>inferInstanceAs (Decidable True)
 |some q=>inferInstanceAs (Decidable (x<q))
noncomputable def aj4 (e:Int):Option Int->Int
 |none=>e
 |some q=>min e q
abbrev kbD (k:Str) (p:Int) (q:Option Int):D:=.tup [onD k,.int p,oD q,evD]
theorem ao0 (k:Str) {p:Int} (O:0<=p) {q:Option Int} (h:ltO p q):i_9 [.str k,.int p,oD q]=some (kbD k p q):=by
 have z:max p 0=p:=by omega
 cases q with
 |none=>simp[i_9,L_3,b_6,h_8,B_9,z,oD]
 |some q =>
  have M:¬ q<=p:=Int.not_le.mpr h;simp[i_9,L_3,b_6,h_8,B_9,z,M,oD]
theorem bx2 (e:Int) (q:Option Int):b_2 [.int e,oD q]=some (.int (aj4 e q)):=by
 cases q with
 |none=>simp[b_2,f_2,oD,aj4]
 |some q=>rw[be7,aj7,bo2];rfl
theorem lt_min {x e:Int}{q:Option Int}:x<aj4 e q↔x<e/\ltO x q:=by
 cases q with
 |none=>exact⟨λ h=>⟨h,trivial⟩,λ h=>h.1⟩
 |some q=>show x<min e q↔x<e/\x<q;omega
def inB (x:Bx) (k:Str) (p:Int) (q:Option Int):Prop:=aI0 x.ki k=true/\max x.b p<aj4 x.e q
instance (x:Bx) (k:Str) (p:Int) (q:Option Int):Decidable (inB x k p q):=inferInstanceAs (Decidable (_/\_))
abbrev mtD (x:Bx) (k:Str) (p:Int) (q:Option Int):D:=.tup [onD k,.int (max x.b p),.int (aj4 x.e q),x.s.D]
theorem aW6 {x:Bx} (h:x.Ok) {k:Str} (hk:IsK k) {p:Int} (Y:0<=p) (q:Option Int):e_7 [x.D,kbD k p q]=some (if inB x k p q then mtD x k p q else .non):=by
 have e1:=aH2 h.ki hk;have e2:=aW5 h.s;have Z:=h.b0;have e3:=bx2 x.e q;unfold inB;by_cases c:aI0 x.ki k=true
 ·rw[if_pos c] at e1;have O:max (max x.b p) 0=max x.b p:=by omega
  by_cases M:max x.b p<aj4 x.e q
  ·have z:¬ aj4 x.e q<=max x.b p:=by omega
   simp[e_7,z_1,List.replicate,m_7,k_5,n_5,k_3,e1,e2,e3,B_9,b_6,h_8,c,M,z,O]
  ·have z:aj4 x.e q<=max x.b p:=by omega
   simp[e_7,z_1,List.replicate,m_7,k_5,n_5,k_3,e1,e2,e3,B_9,b_6,h_8,c,M,z,O]
 ·rw[if_neg c] at e1;simp[e_7,z_1,List.replicate,m_7,k_5,n_5,k_3,e1,e2,e3,B_9,b_6,h_8,c]
theorem bc0 (s:St):g_1 [s.D]=some (.lst [.int s.lo,.int s.hi]):=by simp[g_1,x_0,List.replicate,d02,bw2,bv0]
theorem bq5 (H:HL):dIs H.D .non=some (.bl false):=by cases H <;> rfl
def Nt (x:D) (P:Prop):Prop:=(x=.non/\¬ P)\/((∃ a b,x=.tup [a,b])/\P)
theorem Nt.iff {x:D}{P Q:Prop} (h:Nt x P) (e:P↔Q):Nt x Q:=by unfold Nt at h ⊢;rw[<- e];exact h
theorem ah5 {x:D}{P:Prop} (h:Nt x P):∃ y,c_3 [x]=some y/\Nt y P:=by
 rcases h with ⟨rfl,n⟩ | ⟨⟨a,b,rfl⟩,y⟩
 ·exact⟨.non,by simp[c_3,r_7],.inl ⟨rfl,n⟩⟩
 ·exact⟨.tup [b,a],by simp[c_3,r_7,m_8,l_4],.inr ⟨⟨b,a,rfl⟩,y⟩⟩
section
variable {s:St} (hs:s.Ok) (o:D) {p q:Int} (hp:p=1\/p=-1\/p=0) (hq:q=1\/q=-1\/q=0) (H:HL)
include hs hp hq
theorem ak8 (y:Int) (s5 s6:Sl):(¬ (∃ x,s.has x/\H.has (p*x+q*y))/\∃ Z O,c_6 [.im (.tup [.int p,.int q]),.im H.D,.im s.D,.im o,.im (.int y),s5,s6]=some (.nx [.im (.tup [.int p,.int q]),.im H.D,.im s.D,.im o,.im (.int y),Z,O]))\/((∃ x,s.has x/\H.has (p*x+q*y))/\∃ m M,c_6 [.im (.tup [.int p,.int q]),.im H.D,.im s.D,.im o,.im (.int y),s5,s6]=some (.rt (.tup [.int m,.int y]) M)):=by
 have m1:=aV5 hq y;rcases bd2 hp (q*y) H with ⟨e,n⟩ | ⟨H',e,iff⟩
 ·refine .inl ⟨fun⟨x,_,z⟩=>n x z,.im .non,.im .non,?_⟩;generalize H.D=X at *;simp[c_6,m_8,l_4,m1,e]
 ·simp only[<- iff];have nn:=bq5 H';rcases aW4 hs H' with ⟨em,n⟩ | ⟨s',ok,em,y1⟩
  ·refine .inl ⟨n,.im H'.D,.im .non,?_⟩;generalize H.D=X at *;generalize H'.D=Y at *;simp[c_6,m_8,l_4,m1,e,nn,em]
  ·obtain⟨m,es⟩:=aS4 ok;refine .inr ⟨y1,m,[.im (.tup [.int p,.int q]),.im H.D,.im s.D,.im o,.im (.int y),.im H'.D,.im s'.D],?_⟩;generalize H.D=X at *;generalize H'.D=Y at *;simp[c_6,m_8,l_4,m1,e,nn,em,es]
theorem aQ1 (t:St):∃ X,d_1 [.tup [.int p,.int q],H.D,s.D,t.D]=some X/\Nt X (∃ x,s.has x/\(H.has (p*x+q*t.lo)\/H.has (p*x+q*t.hi))):=by
 have Z:=bc0 t;have g:∀ (y:Int) (s4 O M:Sl),gN 4 (.int y) [.im (.tup [.int p,.int q]),.im H.D,.im s.D,.im t.D,s4,O,M]=some [.im (.tup [.int p,.int q]),.im H.D,.im s.D,.im t.D,.im (.int y),O,M]:=λ _ _ _ _=>rfl;have fin:∀ d z,fGo (gN 4) c_6 [.int t.lo,.int t.hi] [.im (.tup [.int p,.int q]),.im H.D,.im s.D,.im t.D,.no,.no,.no]=some (.rt d z)->d_1 [.tup [.int p,.int q],H.D,s.D,t.D]=some d:=λ d z Y=>by
  generalize H.D=X at *;simp[d_1,t_5,List.replicate,Z,Y]
 rcases ak8 hs t.D hp hq H t.lo .no .no with ⟨n1,O,M,e1⟩ | ⟨⟨x,h1,h2⟩,m,z,e1⟩
 ·rcases ak8 hs t.D hp hq H t.hi O M with ⟨n2,s5',s6',e2⟩ | ⟨⟨x,h1,h2⟩,m,z,e2⟩
  ·refine⟨.non,?_,.inl ⟨rfl,fun⟨x,h1,h2⟩=>?_⟩⟩
   ·have Y:fGo (gN 4) c_6 [.int t.lo,.int t.hi] [.im (.tup [.int p,.int q]),.im H.D,.im s.D,.im t.D,.no,.no,.no]=some (.nx [.im (.tup [.int p,.int q]),.im H.D,.im s.D,.im t.D,.im (.int t.hi),s5',s6']):=by rw[r_5,g,r_6,e1,t_9,r_5,g,r_6,e2,t_9];rfl
    generalize H.D=X at *;simp[d_1,t_5,List.replicate,Z,Y]
   ·rcases h2 with h2 | h2
    ·exact n1 ⟨x,h1,h2⟩
    ·exact n2 ⟨x,h1,h2⟩
  ·exact⟨.tup [.int m,.int t.hi],fin _ z (by rw[r_5,g,r_6,e1,t_9,r_5,g,r_6,e2,ay7]),.inr ⟨⟨_,_,rfl⟩,x,h1,.inr h2⟩⟩
 ·exact⟨.tup [.int m,.int t.lo],fin _ z (by rw[r_5,g,r_6,e1,ay7]),.inr ⟨⟨_,_,rfl⟩,x,h1,.inl h2⟩⟩
end
theorem aY2 {how:Str}{p q:Int} (h:IsH how p q) (H:HL) {s t:St} (hs:s.Ok) (O:t.Ok):∃ X,i_2 [.str how,H.D,s.D,t.D]=some X/\Nt X (∃ x y,s.has x/\t.has y/\H.has (p*x+q*y)):=by
 obtain⟨hp,hq⟩:=h.p1;have kx:=h.kx;obtain⟨X,e1,n1⟩:=aQ1 hs hp hq H t;obtain⟨Y,e2,n2⟩:=aQ1 O hq hp H s;obtain⟨Z,e3,n3⟩:=ah5 n2;have r0:c_3 [.tup [.int p,.int q]]=some (.tup [.int q,.int p]):=by simp[c_3,r_7,m_8,l_4]
 have tl:t.has t.lo:=O.has_lo;have th:t.has t.hi:=⟨O.le,Qv _,O.hm⟩;have sl:s.has s.lo:=hs.has_lo;have sh:s.has s.hi:=⟨hs.le,Qv _,hs.hm⟩;have i1:(∃ x,s.has x/\(H.has (p*x+q*t.lo)\/H.has (p*x+q*t.hi)))↔∃ x y,s.has x/\t.has y/\H.has (p*x+q*y):=by
  constructor
  ·rintro ⟨x,h1,h2 | h2⟩
   ·exact⟨x,_,h1,tl,h2⟩
   ·exact⟨x,_,h1,th,h2⟩
  ·rintro ⟨x,y,h1,⟨h2,h3,_⟩,M⟩;refine⟨x,h1,?_⟩;cases H with
   |all=>exact .inl trivial
   |ge c =>
    have M:c<=p*x+q*y:=M;show c<=p*x+q*t.lo\/c<=p*x+q*t.hi;generalize p*x=z at *;rcases hq with rfl | rfl | rfl <;> omega
   |le c =>
    have M:p*x+q*y<=c:=M;show p*x+q*t.lo<=c\/p*x+q*t.hi<=c;generalize p*x=z at *;rcases hq with rfl | rfl | rfl <;> omega
 have n1:=n1.iff i1;rcases n1 with ⟨rfl,no⟩ | ⟨⟨a,b,rfl⟩,yes⟩
 ·refine⟨Z,?_,?_⟩
  ·generalize H.D=W at *;simp[i_2,w_2,List.replicate,kx,e1,r0,e2,e3]
  ·rcases n3 with ⟨rfl,_⟩ | ⟨_,x,h1,h2⟩
   ·exact .inl ⟨rfl,no⟩
   ·refine absurd ?_ no;rcases h2 with h2 | h2
    ·exact⟨_,x,sl,h1,by rw[Int.add_comm];exact h2⟩
    ·exact⟨_,x,sh,h1,by rw[Int.add_comm];exact h2⟩
 ·refine⟨.tup [a,b],?_,.inr ⟨⟨a,b,rfl⟩,yes⟩⟩;generalize H.D=W at *;simp[i_2,w_2,List.replicate,kx,e1]
abbrev bxD (k:Str) (b e:Int) (s:D):D:=.tup [.tup [.str "only",.tup [.str k]],.int b,.int e,s]
theorem ar2 (k:Str) {reach:Int} (hr:0<=reach) (g b e z e':Int) (h:b<e) (h':z<e') (s s':D):∃ X,f_4 [.int reach,.int g,bxD k b e s,bxD k z e' s']=some X/\Nt X (∃ t u,b<=t/\t<e/\z<=u/\u<e'/\((t-u).natAbs:Int)<=reach/\g<=t):=by
 have Y:p_7 [.int reach,bxD k b e s,bxD k z e' s']=some (.int (if e'+reach<e then e'+reach else e)):=by have:=aj7 e (e'+reach);simp[p_7,F_0,n_5,this]
 generalize hE:(if e'+reach<e then e'+reach else e)=E at Y;generalize O:(if z-reach > b then (if g > z-reach then g else z-reach) else (if g > b then g else b))=A;have Z:E<=e/\E<=e'+reach/\(E=e\/E=e'+reach):=by rw[<- hE];split <;> omega
 have aa:b<=A/\z-reach<=A/\g<=A/\(A=b\/A=z-reach\/A=g):=by rw[<- O];split <;> split <;> omega
 by_cases c:E<=A
 ·refine⟨.non,?_,.inl ⟨rfl,λ M=>by obtain⟨t,u,h1,h2,h3,h4,h5,h6⟩:=M;omega⟩⟩;simp[f_4,u_7,List.replicate,k_5,Y,O,c]
 ·refine⟨_,?_,.inr ⟨⟨.int A,.int (if A-reach > z then A-reach else z),rfl⟩,A,if A-reach > z then A-reach else z,by omega,by omega,by split <;> omega,by split <;> omega,by split <;> omega,by omega⟩⟩;simp[f_4,u_7,List.replicate,k_5,Y,O,c]
theorem aD3 (k:Str) {reach:Int} (hr:0<=reach) (g b e b' e':Int) (h:b<e) (h':b'<e') (s s':D):∃ X,k_9 [.int reach,.int g,bxD k b e s,bxD k b' e' s']=some X/\Nt X (∃ t u,b<=t/\t<e/\b'<=u/\u<e'/\((t-u).natAbs:Int)<=reach/\(g<=t\/g<=u)):=by
 obtain⟨X,e1,n1⟩:=ar2 k hr g b e b' e' h h' s s';obtain⟨Y,e2,n2⟩:=ar2 k hr g b' e' b e h' h s' s;obtain⟨Z,e3,n3⟩:=ah5 n2;rcases n1 with ⟨rfl,no⟩ | ⟨⟨x,y,rfl⟩,t,u,h1,h2,M,O,h5,z⟩
 ·refine⟨Z,by simp[k_9,y_3,e1,e2,e3],?_⟩;rcases n3 with ⟨rfl,no2⟩ | ⟨q,t,u,h1,h2,M,O,h5,z⟩
  ·exact .inl ⟨rfl,λ aa=>by
    obtain⟨t,u,h1,h2,M,O,h5,z⟩:=aa;rcases z with z | z
    ·exact no ⟨t,u,h1,h2,M,O,h5,z⟩
    ·exact no2 ⟨u,t,M,O,h1,h2,by omega,z⟩⟩
  ·exact .inr ⟨q,u,t,M,O,h1,h2,by omega,.inr z⟩
 ·exact⟨.tup [x,y],by simp[k_9,y_3,e1],.inr ⟨⟨_,_,rfl⟩,t,u,h1,h2,M,O,h5,.inl z⟩⟩
structure Sd where
 b:Int
 e:Int
 s:St
 nw:Bool
def fD (n:Bool):D:=if n=true then .bl true else .non
def Sd.D (k:Str) (x:Sd):D:=.tup [bxD k x.b x.e x.s.D,fD x.nw]
def Sd.at (x:Sd) (t v:Int):Prop:=x.b<=t/\t<x.e/\x.s.has v
structure Sd.Ok (x:Sd):Prop where
 be:x.b<x.e
 s:x.s.Ok
theorem aR6 (u:Th) (h:0<=u.t):l_0 [tD u]=some (bxD u.k u.t (u.t+1) (stD u.v u.v 1 0)):=by
 have e:=J_4 u.v u.v (st:=1) (re:=0) (.inl rfl) (Qv _) Yx;have e1:u.v+(0-u.v) % 1=u.v:=by omega
 have e2:u.v-(u.v-0) % 1=u.v:=by omega
 rw[e1,e2] at e;unfold mkS at e;rw[if_neg (Int.lt_irrefl _),if_pos rfl] at e;have M:max u.t 0=u.t:=by omega
 have z:¬ u.t+1<=u.t:=by omega
 unfold tD;simp[l_0,K_9,ao4,ao3,ao2,e,b_6,h_8,B_9,M,z]
abbrev wyD (x:Bx):D:=.tup [x.D,.bl true]
section
variable {k:Str} (hk:IsK k) (q:Option Int)
include hk
theorem aL9:∀ B:List Bx,(∀ x∈B,x.Ok)->aA6 tYes (e_1 (aC (eF e_7 (aC (eV 0) (aC (eV 2) aN))) (aC (eV 1) aN))) [.im (kbD k 0 q)] (B.map wyD)=some (B.map λ x=>.tup [if inB x k 0 q then mtD x k 0 q else .non,.bl true])
 |[],_=>rfl
 |x::B,h=>by
  have e:=aW6 (h x qg) hk (Qv 0) q;have M:=aL9 B λ y z=>h y (qh _ z);have e1:e_1 (aC (eF e_7 (aC (eV 0) (aC (eV 2) aN))) (aC (eV 1) aN)) [.im x.D,.im (.bl true),.im (kbD k 0 q)]=some (.tup [if inB x k 0 q then mtD x k 0 q else .non,.bl true],[.im x.D,.im (.bl true),.im (kbD k 0 q)]):=by simp[e]
  rw[Qa,aa1];show bnd (e_1 (aC (eF e_7 (aC (eV 0) (aC (eV 2) aN))) (aC (eV 1) aN)) [.im x.D,.im (.bl true),.im (kbD k 0 q)]) _=_;rw[e1,ak7,M];rfl
omit hk in
theorem aq3:∀ B:List Bx,cGo (tB (e2 h_2 (e2 a_9 (eV 0) (zI 0)) (eC .non))) (eV 0) [] (B.map λ x=>.tup [if inB x k 0 q then mtD x k 0 q else .non,.bl true])=some (((B.filter λ x=>decide (inB x k 0 q)).map λ x=>Sd.mk (max x.b 0) (aj4 x.e q) x.s true).map (Sd.D k))
 |[]=>rfl
 |x::B=>by
  have z:=aq3 B;rw[Qa,aA5];by_cases c:inB x k 0 q
  ·rw[if_pos c,Qj (p:=λ x=>decide (inB x k 0 q)) (Qk c)];have t:tB (e2 h_2 (e2 a_9 (eV 0) (zI 0)) (eC .non)) [.im (.tup [mtD x k 0 q,.bl true])]=some (true,[.im (.tup [mtD x k 0 q,.bl true])]):=by simp[m_8]
   rw[t,aA8,show eV 0 [.im (.tup [mtD x k 0 q,.bl true])]=some (.tup [mtD x k 0 q,.bl true],[.im (.tup [mtD x k 0 q,.bl true])]) from rfl,aA7,z];rfl
  ·rw[if_neg c,Qo (p:=λ x=>decide (inB x k 0 q)) (by simp[c])];have t:tB (e2 h_2 (e2 a_9 (eV 0) (zI 0)) (eC .non)) [.im (.tup [.non,.bl true])]=some (false,[.im (.tup [.non,.bl true])]):=by simp[m_8]
   rw[t,bt3,z]
omit hk in
theorem bh0:∀ L:List Th,(∀ u∈L,u.k=k/\0<=u.t)->cGo tYes (e_1 (aC (eF l_0 (aC (eV 0) aN)) (aC (eC .non) aN))) [] (L.map tD)=some ((L.map λ u=>Sd.mk u.t (u.t+1) ⟨u.v,u.v,1,0⟩ false).map (Sd.D k))
 |[],_=>rfl
 |u::L,h=>by
  obtain⟨z,Y⟩:=h u qg;have e:=aR6 u Y;rw[z] at e;have O:=bh0 L λ y M=>h y (qh _ M);have e1:e_1 (aC (eF l_0 (aC (eV 0) aN)) (aC (eC .non) aN)) [.im (tD u)]=some (.tup [bxD k u.t (u.t+1) (stD u.v u.v 1 0),.non],[.im (tD u)]):=by simp[e]
  rw[Qa,aA5,show tYes [.im (tD u)]=some (true,[.im (tD u)]) from rfl,aA8,e1,aA7,O];rfl
theorem ar7 {B:List Bx} (hB:∀ x∈B,x.Ok) (lB:B.length<=5) {L:List Th} (hL:∀ u∈L,u.k=k/\0<=u.t) (lL:L.length<=5):∃ S:List Sd,o_2 [kbD k 0 q,.lst (L.map tD),.lst (B.map wyD)]=some (.lst (S.map (Sd.D k)))/\S.length<=10/\(∀ d∈S,d.Ok) /\
  (∀ t v,(∃ d∈S,d.nw=true/\d.at t v)↔∃ x∈B,aI0 x.ki k=true/\x.b<=t/\t<x.e/\ltO t q/\x.s.has v)/\∀ t v,(∃ d∈S,d.nw=false/\d.at t v)↔∃ u∈L,u.t=t/\u.v=v:=by
 have g1:=aL9 hk q B hB;have g2:=aq3 (k:=k) q B;have g3:=bh0 L hL;refine⟨((B.filter λ x=>decide (inB x k 0 q)).map λ x=>Sd.mk (max x.b 0) (aj4 x.e q) x.s true)++(L.map λ u=>Sd.mk u.t (u.t+1) ⟨u.v,u.v,1,0⟩ false),?_,?_,λ d hd=>?_,λ t v=>?_,λ t v=>?_⟩
 ·have s1:(B.map wyD).length<=sizeLine:=by rw[Qg];exact e_2 (by omega)
  have s2:(B.map λ x=>D.tup [if inB x k 0 q then mtD x k 0 q else .non,.bl true]).length<=sizeLine:=by rw[Qg];exact e_2 (by omega)
  have s3:L.length<=sizeLine:=e_2 (by omega);have s4:((B.filter λ x=>decide (inB x k 0 q)).map λ x=>Sd.mk (max x.b 0) (aj4 x.e q) x.s true).length+(L.map λ u=>Sd.mk u.t (u.t+1) ⟨u.v,u.v,1,0⟩ false).length<=sizeLine:=by have:=Q8 (λ x=>decide (inB x k 0 q)) B;rw[Qg,Qg];exact e_2 (by omega)
  rw[Qy];generalize ((B.filter λ x=>decide (inB x k 0 q)).map λ x=>Sd.mk (max x.b 0) (aj4 x.e q) x.s true)=Y1 at *;generalize (L.map λ u=>Sd.mk u.t (u.t+1) ⟨u.v,u.v,1,0⟩ false)=Y2 at *;generalize (B.map λ x=>D.tup [if inB x k 0 q then mtD x k 0 q else .non,.bl true])=X at *;generalize B.map wyD=W at *;have e1:bs0 [0] (eV 2) tYes (e_1 (aC (eF e_7 (aC (eV 0) (aC (eV 2) aN))) (aC (eV 1) aN))) [.im (kbD k 0 q),.im (.lst (L.map tD)),.im (.lst W),.no]=some (.lst X,[.im (kbD k 0 q),.im (.lst (L.map tD)),.im (.lst W),.no]):=by show bnd (aA6 tYes (e_1 (aC (eF e_7 (aC (eV 0) (aC (eV 2) aN))) (aC (eV 1) aN))) [.im (kbD k 0 q)] W) (λ ys=>if W.length<=sizeLine then some (D.lst ys,_) else none)=_;rw[g1];show (if W.length<=sizeLine then some (D.lst X,_) else none)=_;rw[if_pos s1]
  generalize hE:bs0 [0] (eV 2) tYes (e_1 (aC (eF e_7 (aC (eV 0) (aC (eV 2) aN))) (aC (eV 1) aN)))=E at e1;unfold o_2 L_1;rw[hE];simp[List.replicate,e1,g2,g3,s2,s3,s4]
 ·have:=Q8 (λ x=>decide (inB x k 0 q)) B;rw[Qd,Qg,Qg];omega
 ·rcases qz hd with h | h
  ·obtain⟨x,z,rfl⟩:=List.mem_map.mp h;obtain⟨h1,h2⟩:=List.mem_filter.mp z;exact⟨(Q1 h2).2,(hB x h1).s⟩
  ·obtain⟨u,Z,rfl⟩:=List.mem_map.mp h;exact⟨by dsimp only;omega,⟨Qv _,by dsimp only;omega,.inl rfl,Qv _,Yx,Q9 _,Q9 _,λ _=>⟨rfl,rfl⟩⟩⟩
 ·constructor
  ·rintro ⟨d,hd,hn,h1,h2,O⟩;rcases qz hd with h | h
   ·obtain⟨x,z,rfl⟩:=List.mem_map.mp h;obtain⟨Y,M⟩:=List.mem_filter.mp z;have M:=Q1 M;have h1:max x.b 0<=t:=h1;obtain⟨h6,h7⟩:=lt_min.mp h2;exact⟨x,Y,M.1,by omega,h6,h7,O⟩
   ·obtain⟨u,Z,rfl⟩:=List.mem_map.mp h;exact absurd hn qq
  ·rintro ⟨x,z,h1,h2,O,Y,M⟩;have b0:=(hB x z).b0;refine⟨⟨max x.b 0,aj4 x.e q,x.s,true⟩,qp _ (Za (f:=λ x:Bx=>Sd.mk (max x.b 0) (aj4 x.e q) x.s true) (List.mem_filter.mpr ⟨z,Qk ⟨h1,?_⟩⟩)),rfl,by show max x.b 0<=t;omega,lt_min.mpr ⟨O,Y⟩,M⟩;have:=lt_min.mpr ⟨O,Y⟩;omega
 ·constructor
  ·rintro ⟨d,hd,hn,h1,h2,O,Y,M⟩;rcases qz hd with h | h
   ·obtain⟨x,z,rfl⟩:=List.mem_map.mp h;exact absurd hn.symm qq
   ·obtain⟨u,Z,rfl⟩:=List.mem_map.mp h;dsimp only at h1 h2 O Y;exact⟨u,Z,by omega,by omega⟩
  ·rintro ⟨u,Z,rfl,rfl⟩;exact⟨⟨u.t,u.t+1,⟨u.v,u.v,1,0⟩,false⟩,qo _ (Za (f:=λ u:Th=>Sd.mk u.t (u.t+1) ⟨u.v,u.v,1,0⟩ false) Z),rfl,Qv _,by dsimp only;omega,Qv _,Qv _,Q9 _⟩
end
def Tm (reach g:Int) (l r:Sd):Prop:=∃ t u,l.b<=t/\t<l.e/\r.b<=u/\u<r.e/\((t-u).natAbs:Int)<=reach/\(g<=t\/g<=u)
def Vl (p q:Int) (H:HL) (l r:Sd):Prop:=∃ x y,l.s.has x/\r.s.has y/\H.has (p*x+q*y)
section
variable {how:Str}{p q:Int} (h:IsH how p q) {reach:Int} (hr:0<=reach) (g:Int) (qe:Option Int) (H:HL) (k:Str)
include h hr
theorem bg9 {l r:Sd} (O:l.Ok) (M:r.Ok):∃ X,g_5 [rowP reach how,.int g,H.D,bxD k l.b l.e l.s.D,bxD k r.b r.e r.s.D]=some X/\Nt X (Tm reach g l r/\Vl p q H l r):=by
 obtain⟨X,e1,n1⟩:=aD3 k hr g l.b l.e r.b r.e O.be M.be l.s.D r.s.D;obtain⟨Y,e2,n2⟩:=aY2 h H O.s M.s;generalize H.D=W at *;rcases n1 with ⟨rfl,no⟩ | ⟨⟨a,b,rfl⟩,y1⟩
 ·exact⟨.non,by simp[g_5,s_3,List.replicate,k_3,m_8,l_4,e1],.inl ⟨rfl,λ z=>no z.1⟩⟩
 ·rcases n2 with ⟨rfl,no⟩ | ⟨⟨c,d,rfl⟩,y2⟩
  ·exact⟨.non,by simp[g_5,s_3,List.replicate,k_3,m_8,l_4,e1,e2],.inl ⟨rfl,λ z=>no z.2⟩⟩
  ·exact⟨.tup [.tup [a,.str k,c],.tup [b,.str k,d]],by simp[g_5,s_3,List.replicate,m_7,k_3,m_8,l_4,bD4,e1,e2],.inr ⟨⟨_,_,rfl⟩,y1,y2⟩⟩
abbrev E17 (how:Str) (reach g:Int) (qe:Option Int) (H:HL) (k:Str) (c0 c1 c4 c5 c6 c7 c8 c9 M:Sl) (aa:List D) (O Y z Z:Sl):En:=[c0,c1,.im (rowP reach how),.im (kbD k g qe),c4,c5,c6,c7,c8,c9,.im H.D,M,.ow false (.lst aa),O,Y,z,Z]
def Gt (p q:Int) (reach g:Int) (H:HL) (l r:Sd):Prop:=(l.nw=true\/r.nw=true)/\Tm reach g l r/\Vl p q H l r
theorem aM5 (c0 c1 c4 c5 c6 c7 c8 c9 Z:Sl) {l:Sd} (hl:l.Ok):∀ (R:List Sd),(∀ r∈R,r.Ok)->∀ (M:List D) (aa Y O:Sl),M.length+R.length<=1000 ->
  ∃ fs ad af ae,fGo (gN 14) g_2 (R.map (Sd.D k)) (E17 how reach g qe H k c0 c1 c4 c5 c6 c7 c8 c9 Z M (.im (l.D k)) aa Y O)=some (.nx (E17 how reach g qe H k c0 c1 c4 c5 c6 c7 c8 c9 Z (M++fs) (.im (l.D k)) ad af ae))/\fs.length<=R.length/\(fs≠[]↔∃ r∈R,Gt p q reach g H l r)
 |[],_,M,aa,Y,O,_=>⟨[],aa,Y,O,by rw[Qr];rfl,qj _,λ z=>absurd rfl z,fun⟨x,hx,_⟩=>nomatch hx⟩
 |r::R,hR,M,aa,Y,O,len=>by
  rw[Qc] at len;have ok:=hR r qg;obtain⟨X,eX,nX⟩:=bg9 h hr g H k hl ok;have q1:M.length<1000000:=by omega
  have gg:gN 14 (r.D k) (E17 how reach g qe H k c0 c1 c4 c5 c6 c7 c8 c9 Z M (.im (l.D k)) aa Y O)=some (E17 how reach g qe H k c0 c1 c4 c5 c6 c7 c8 c9 Z M (.im (l.D k)) (.im (r.D k)) Y O):=rfl;have st:∃ fs ac ab,g_2 (E17 how reach g qe H k c0 c1 c4 c5 c6 c7 c8 c9 Z M (.im (l.D k)) (.im (r.D k)) Y O)=some (.nx (E17 how reach g qe H k c0 c1 c4 c5 c6 c7 c8 c9 Z (M++fs) (.im (l.D k)) (.im (r.D k)) ac ab))/\fs.length<=1/\(fs≠[]↔Gt p q reach g H l r):=by
   by_cases c:l.nw=true\/r.nw=true
   ·have fl:∀ O,eOr (e2 h_2 (e2 a_9 (eV 13) (zI 1)) (eC .non)) (e2 h_2 (e2 a_9 (eV 14) (zI 1)) (eC .non)) (E17 how reach g qe H k c0 c1 c4 c5 c6 c7 c8 c9 Z M (.im (l.D k)) (.im (r.D k)) Y O)=some (.bl true,E17 how reach g qe H k c0 c1 c4 c5 c6 c7 c8 c9 Z M (.im (l.D k)) (.im (r.D k)) Y O):=λ O=>by
     unfold Sd.D fD;cases e1:l.nw <;> cases e2:r.nw <;> rw[e1,e2] at c <;> first | (exfalso;exact absurd c (by decide)) | simp[l_4]
    have i1:a_9 (l.D k) (.int 0)=some (bxD k l.b l.e l.s.D):=rfl;have i2:a_9 (r.D k) (.int 0)=some (bxD k r.b r.e r.s.D):=rfl;generalize l.D k=LD at *;generalize r.D k=RD at *;generalize bxD k l.b l.e l.s.D=LB at *;generalize bxD k r.b r.e r.s.D=RB at *;rcases nX with ⟨rfl,no⟩ | ⟨⟨a,b,rfl⟩,yes⟩
    ·refine⟨[],.im (.bl true),.im .non,?_,by simp,λ z=>absurd rfl z,λ z=>absurd z.2 no⟩;unfold E17 at fl ⊢;generalize H.D=W at *;generalize rowP reach how=P at *;simp[g_2,-bN6,fl,i1,i2,k_5,eX]
    ·refine⟨[.tup [LD,RD,.tup [a,b]]],.im (.bl true),.im (.tup [a,b]),?_,by simp,λ _=>⟨c,yes⟩,λ _ z=>nomatch z⟩;unfold E17 at fl ⊢;generalize H.D=W at *;generalize rowP reach how=P at *;simp[g_2,-bN6,fl,i1,i2,k_5,eX,q1]
   ·have e1:l.nw=false:=Bool.eq_false_iff.mpr λ z=>c (.inl z);have e2:r.nw=false:=Bool.eq_false_iff.mpr λ z=>c (.inr z);refine⟨[],.im (.bl false),.im .non,?_,by simp,λ z=>absurd rfl z,λ z=>absurd z.1 c⟩;unfold Sd.D fD;rw[e1,e2];generalize H.D=W at *;generalize rowP reach how=P at *;simp[g_2,l_4]
  obtain⟨f1,ac,ab,e1,l1,i1⟩:=st;obtain⟨f2,ah,ag,ai,e2,l2,i2⟩:=aM5 c0 c1 c4 c5 c6 c7 c8 c9 Z hl R (λ y hy=>hR y (qh _ hy)) (M++f1) (.im (r.D k)) ac ab (by rw[Qd];omega);refine⟨f1++f2,ah,ag,ai,?_,by rw[Qd,Qc];omega,λ z=>?_,fun⟨y,hy,gy⟩ z=>?_⟩
  ·rw[Qa,r_5,gg,r_6,e1,t_9,e2,Q3]
  ·by_cases c:f1=[]
   ·obtain⟨y,hy,gy⟩:=i2.mp λ z'=>z (by rw[c,z'];rfl);exact⟨y,qh _ hy,gy⟩
   ·exact⟨r,qg,i1.mp c⟩
  ·obtain⟨z1,z2⟩:=List.append_eq_nil_iff.mp z;rcases qw hy with rfl | hy
   ·exact i1.mpr gy z1
   ·exact i2.mpr ⟨y,hy,gy⟩ z2
theorem aq8 (c0 c1 c4 c5 c6 c7 c8 c9:Sl) {R:List Sd} (hR:∀ r∈R,r.Ok) (lR:R.length<=10):∀ (L:List Sd),(∀ l∈L,l.Ok)->∀ (M:List D) (aa Z O Y:Sl),M.length+10*L.length<=900 ->
  ∃ fs ae ab ad ac,fGo (gN 13) s_0 (L.map (Sd.D k)) (E17 how reach g qe H k c0 c1 c4 c5 c6 c7 c8 c9 (.im (.lst (R.map (Sd.D k)))) M aa Z O Y)=some (.nx (E17 how reach g qe H k c0 c1 c4 c5 c6 c7 c8 c9 (.im (.lst (R.map (Sd.D k)))) (M++fs) ae ab ad ac))/\fs.length<=10*L.length/\(fs≠[]↔∃ l∈L,∃ r∈R,Gt p q reach g H l r)
 |[],_,M,aa,Z,O,Y,_=>⟨[],aa,Z,O,Y,by rw[Qr];rfl,qj _,λ z=>absurd rfl z,fun⟨x,hx,_⟩=>nomatch hx⟩
 |l::L,hL,M,aa,Z,O,Y,len=>by
  rw[Qc] at len;obtain⟨f1,ah,aj,af,e1,l1,i1⟩:=aM5 h hr g qe H k c0 c1 c4 c5 c6 c7 c8 c9 (.im (.lst (R.map (Sd.D k)))) (hL l qg) R hR M Z O Y (by omega);have gg:gN 13 (l.D k) (E17 how reach g qe H k c0 c1 c4 c5 c6 c7 c8 c9 (.im (.lst (R.map (Sd.D k)))) M aa Z O Y)=some (E17 how reach g qe H k c0 c1 c4 c5 c6 c7 c8 c9 (.im (.lst (R.map (Sd.D k)))) M (.im (l.D k)) Z O Y):=rfl;have st:s_0 (E17 how reach g qe H k c0 c1 c4 c5 c6 c7 c8 c9 (.im (.lst (R.map (Sd.D k)))) M (.im (l.D k)) Z O Y)=_:=e1;obtain⟨f2,al,ai,ag,ak,e2,l2,i2⟩:=aq8 c0 c1 c4 c5 c6 c7 c8 c9 hR lR L (λ y hy=>hL y (qh _ hy)) (M++f1) (.im (l.D k)) ah aj af (by rw[Qd];omega);refine⟨f1++f2,al,ai,ag,ak,?_,by rw[Qd,Qc];omega,λ z=>?_,fun⟨y,hy,gy⟩ z=>?_⟩
  ·rw[Qa,r_5,gg,r_6,st,t_9,e2,Q3]
  ·by_cases c:f1=[]
   ·obtain⟨y,hy,gy⟩:=i2.mp λ z'=>z (by rw[c,z'];rfl);exact⟨y,qh _ hy,gy⟩
   ·exact⟨l,qg,i1.mp c⟩
  ·obtain⟨z1,z2⟩:=List.append_eq_nil_iff.mp z;rcases qw hy with rfl | hy
   ·exact i1.mpr gy z1
   ·exact i2.mpr ⟨y,hy,gy⟩ z2
end
theorem aY6 {k:Str}{P:Int}{q:Option Int} (u:Th):j_0 [kbD k P q,tD u]=some (.bl (decide (u.k=k/\P<=u.t/\ltO u.t q))):=by
 have f1:u.v.fmod 1=0:=by rw[Jb _ (by decide)];omega
 have et:tD u=.tup [.int u.t,.str u.k,.int u.v]:=rfl;rw[et];have hk:e_9 [onD k,.str u.k]=some (.bl (decide (u.k=k))):=by
  by_cases c:u.k=k
  ·simp[e_9,B_3,m_8,l_4,inD,ab4,Z_1,c]
  ·have c':¬ k=u.k:=λ z=>c z.symm;simp[e_9,B_3,m_8,l_4,inD,ab4,Z_1,c,c']
 have sh:b_9 [evD,.int u.v]=some (.bl true):=by simp[b_9,i_7,m_7,k_5,n_5,k_3,d_7,l_5,f1]
 by_cases c1:u.t<P
 ·have O:¬ P<=u.t:=by omega
  simp[j_0,y_6,List.replicate,ao4,ao3,ao2,m_7,k_5,n_5,k_3,c1,O]
 ·have O:P<=u.t:=by omega
  by_cases Y:ltO u.t q
  ·have fin:j_0 [kbD k P q,.tup [.int u.t,.str u.k,.int u.v]]=some (.bl (decide (u.k=k))):=by
    cases q with
    |none =>
     cases hd:decide (u.k=k) <;> rw[hd] at hk <;> simp[j_0,y_6,List.replicate,oD,ao4,ao3,ao2,m_7,k_5,n_5,k_3,c1,hk,sh]
    |some q =>
     have M:¬ q<=u.t:=Int.not_le.mpr Y;cases hd:decide (u.k=k) <;> rw[hd] at hk <;> simp[j_0,y_6,List.replicate,oD,ao4,ao3,ao2,m_7,k_5,n_5,k_3,c1,M,hk,sh]
   rw[fin];by_cases Z:u.k=k
   ·rw[Qk Z,Qk ⟨Z,O,Y⟩]
   ·rw[Qh Z,Qh λ z=>Z z.1]
  ·rw[Qh λ z=>Y z.2.2];cases q with
   |none=>exact absurd trivial Y
   |some q =>
    have M:q<=u.t:=Int.not_lt.mp Y;simp[j_0,y_6,List.replicate,oD,ao4,ao3,ao2,m_7,k_5,n_5,k_3,c1,M]
def pK (k:Str) (P:Int) (q:Option Int) (u:Th):Bool:=decide (u.k=k/\P<=u.t/\ltO u.t q)
theorem aY3 (k:Str) (P:Int) (q:Option Int):∀ L:List Th,cGo (tV (eF j_0 (aC (eV 1) (aC (eV 0) aN)))) (eV 0) [.im (kbD k P q)] (L.map tD)=some ((L.filter (pK k P q)).map tD)
 |[]=>rfl
 |u::L=>by
  have e:=aY6 (k:=k) (P:=P) (q:=q) u;have t:tV (eF j_0 (aC (eV 1) (aC (eV 0) aN))) [.im (tD u),.im (kbD k P q)]=some (pK k P q u,[.im (tD u),.im (kbD k P q)]):=by unfold pK;simp[e]
  have e':eV 0 [.im (tD u),.im (kbD k P q)]=some (tD u,[.im (tD u),.im (kbD k P q)]):=rfl;rw[Qa,aA5,t];cases c:pK k P q u with
  |true=>rw[aA8,e',aA7,aY3 k P q L,Qj c];rfl
  |false=>rw[bt3,aY3 k P q L,Qo (by rw[c];exact qq)]
theorem bt2:∀ x:List Th,cGo tYes (e2 a_9 (eV 0) (zI 2)) [] (x.map tD)=some ((x.map (·.v)).map .int)
 |[]=>rfl
 |a::r=>by
  rw[Qa,aA5];have t:tYes [.im (tD a)]=some (true,[.im (tD a)]):=rfl;have e:e2 a_9 (eV 0) (zI 2) [.im (tD a)]=some (.int a.v,[.im (tD a)]):=rfl;rw[t,aA8,e,aA7,bt2 r,bt1];rfl
theorem aY4 (k:Str) (P:Int) (q:Option Int) {L:List Th} (z:L.length<=1000):h_0 [kbD k P q,.lst (L.map tD)]=some (.lst ((L.filter (pK k P q)).map tD)):=by have g:=aY3 k P q L;have M:L.length<=sizeLine:=e_2 z;simp[h_0,K_8,g,M]
theorem ab0 (f:Fold) (hf:f.ok) (k:Str) (P:Int) (q:Option Int) {L:List Th} (Y:L.length<=1000):o_3 [f.D',kbD k P q,.lst (L.map tD)]=some (oD (amO f.word ((L.filter (pK k P q)).map (·.v)))):=by
 have sl:L.length<=sizeLine:=e_2 Y;have ti:=aY4 k P q Y;have cv:=bt2 (L.filter (pK k P q));have sx:(L.filter (pK k P q)).length<=sizeLine:=Qq (Q8 _ _) sl;obtain⟨kind,rest,w1,w2,_⟩:=x_7 f;generalize L.filter (pK k P q)=X at *;rw[w1];unfold rowD;by_cases Z:X=[]
 ·subst Z;have z:cGo tYes (e2 a_9 (eV 0) (zI 2)) [] []=some []:=rfl;have M:h_0 [kbD k P q,.lst (L.map tD)]=some (.lst []):=ti;rw[show amO f.word (([]:List Th).map (·.v))=none from rfl,bL5];simp[o_3,B_4,List.replicate,M,z]
 ·have O:X.map (·.v)≠[]:=by simpa using Z
  have ea:=ab1 (f.isW hf) O;rw[ab2 O,be7];obtain⟨x0,xr,ex⟩:=Zs O;generalize X.map (·.v)=V at *;have ie:V.isEmpty=false:=by rw[ex];rfl
  simp[o_3,B_4,List.replicate,ti,cv,sx,k_3,w2,ea,ie]
noncomputable def Fold.b:Fold->Int->Int
 |.ever _,_=>0 | .fixed s _,a=>a*s | .slide _ s _,a=>a*s
noncomputable def Fold.e:Fold->Int->Option Int
 |.ever _,_=>none | .fixed s _,a=>some ((a+1)*s) | .slide wd s _,a=>some (a*s+wd)
def Win (f:Fold) (a:Int):Prop:=0<=a/\∀ w,f=.ever w->a=0
theorem aL8 {f:Fold} (hf:f.ok) {a:Int} (h:Win f a):0<=f.b a/\ltO (f.b a) (f.e a):=by
 cases f with
 |ever w=>exact⟨Qv _,trivial⟩
 |fixed s w =>
  obtain⟨_,z,_⟩:=hf;refine⟨Ue h.1 (by omega),?_⟩;show a*s<(a+1)*s;rw[Int.add_mul];omega
 |slide wd s w =>
  obtain⟨_,z,_,M,_⟩:=hf;refine⟨Ue h.1 (by omega),?_⟩;show a*s<a*s+wd;omega
theorem ac0 {f:Fold} (hf:f.ok) {a:Int} (h:Win f a) {t:Int} (O:0<=t):inW f a t↔f.b a<=t/\ltO t (f.e a):=by
 cases f with
 |ever w =>
  have:=h.2 w rfl;subst this;exact⟨λ _=>⟨O,trivial⟩,λ _=>List.mem_singleton.mpr rfl⟩
 |fixed s w =>
  obtain⟨_,Y,_⟩:=hf;show a∈[t.fdiv s]↔a*s<=t/\t<(a+1)*s;rw[List.mem_singleton,Qt _ (by omega)];have z:a*s<=t↔a<=t / s:=(Jv (by omega)).symm;have M:t / s<a+1↔t<(a+1)*s:=Int.ediv_lt_iff_lt_mul (by omega);rw[z,<- M];omega
 |slide wd s w =>
  obtain⟨_,Y,_,Z,_⟩:=hf;show a∈ah6 ((t-wd).fdiv s+1) (t.fdiv s+1-((t-wd).fdiv s+1)).toNat↔a*s<=t/\t<a*s+wd;rw[B_7,Qt _ (by omega),Qt _ (by omega)];have z:a*s<=t↔a<=t / s:=(Jv (by omega)).symm;have M:(t-wd) / s<a↔t-wd<a*s:=Int.ediv_lt_iff_lt_mul (by omega);have q3:(t-wd) / s<=t / s:=U0 (by omega) (by omega);rw[z];omega
theorem aq2 {f:Fold} (hf:f.ok) {a:Int} (h:Win f a) (k:Str):c_0 [f.D',.str k,.int a]=some (kbD k (f.b a) (f.e a)):=by
 obtain⟨Y,lt⟩:=aL8 hf h;have M:=ao0 k Y lt;cases f with
 |ever w =>
  have z:i_9 [.str k,.int 0,.non]=some (kbD k 0 none):=M;show c_0 [rowD _ _,_,_]=some (kbD k 0 none);unfold rowD;simp[c_0,u_5,List.replicate,N_4,ae9,kn1,kn2,z]
 |fixed s w =>
  obtain⟨_,Z,O⟩:=hf;have m1:∀ x:Int,x_1 x s=true:=λ x=>D_9 (by omega);have z:i_9 [.str k,.int (a*s),.int ((a+1)*s)]=some (kbD k (a*s) (some ((a+1)*s))):=M;show c_0 [rowD _ _,_,_]=some (kbD k (a*s) (some ((a+1)*s)));unfold rowD;simp[c_0,u_5,List.replicate,N_4,ae9,bp7,m1,z]
 |slide wd s w =>
  obtain⟨_,Z,O,_,_⟩:=hf;have m1:∀ x:Int,x_1 x s=true:=λ x=>D_9 (by omega);have z:i_9 [.str k,.int (a*s),.int (a*s+wd)]=some (kbD k (a*s) (some (a*s+wd))):=M;show c_0 [rowD _ _,_,_]=some (kbD k (a*s) (some (a*s+wd)));unfold rowD;simp[c_0,u_5,List.replicate,N_4,ae9,bp6,bp5,kn3,m1,z]
theorem bg6 {f:Fold} (hf:f.ok) {a:Int} (h:Win f a) (k:Str) {L:List Th} (M:∀ u∈L,0<=u.t):vw f L k a=(L.filter (pK k (f.b a) (f.e a))).map (·.v):=by
 unfold vw;congr 1;refine List.filter_congr λ u z=>?_;unfold pW pK;have:=ac0 hf h (M u z);rw[J4,Y6,Y6,this]
noncomputable abbrev wQ:Str:=Str.ofString "q"
abbrev askD:D:=.tup [.str "ask",.str wQ,.tup [.str "f"],.tup []]
abbrev inX (n:Str):D:=.tup [.str "in",.str n,.tup [],.tup [.non,.non]]
abbrev worksD (r:D) (f:D):D:=.lst [inX (Str.ofString "x"),inX (Str.ofString "y"),r,f,askD]
theorem aV9 (kind:Str) (rest:List D) (reach:Int) (how:Str):f_9 [worksD (rowP reach how) (rowD kind rest),.str wQ]=some askD:=by kernel_rfl
theorem aW0 (kind:Str) (rest:List D) (reach:Int) (how:Str):f_9 [worksD (rowP reach how) (rowD kind rest),.str "f"]=some (rowD kind rest):=by kernel_rfl
theorem aT3 (kind:Str) (rest:List D) (reach:Int) (how:Str):t_3 [worksD (rowP reach how) (rowD kind rest),.str wQ]=some (.tup [askD,rowD kind rest,rowP reach how]):=by kernel_rfl
section
variable {f:Fold} (hf:f.ok) {k:Str} (hk:IsK k) {a:Int} (ha:Win f a)
include hf hk ha
theorem bc7:l_2 [f.D',.str k,.int a]=some (.bl true):=by
 have e3:C_0 [.str k]=some (.bl true):=by rcases hk with rfl | rfl | rfl <;> kernel_rfl
 have O:=aq2 hf ha k;have Y:=ha.1;cases f with
 |ever w =>
  have:=ha.2 w rfl;subst this;show l_2 [rowD _ _,_,_]=_;unfold rowD;simp[l_2,C_6,e3,r_4,z_0,N_4]
 |fixed s w =>
  have M:¬ Str.ofString "fixed"=Str.ofString "gaps":=by decide +kernel
  have z:c_0 [.tup [.str "fixed",.str "f",.tup [.str "p"],.tup [.int s,.str w]],.str k,.int a]=_:=O;show l_2 [rowD _ _,_,_]=_;unfold rowD;simp[l_2,C_6,e3,r_4,z_0,N_4,kn4,M,z]
 |slide wd s w =>
  have M:¬ Str.ofString "slide"=Str.ofString "gaps":=by decide +kernel
  have z:c_0 [.tup [.str "slide",.str "f",.tup [.str "p"],.tup [.int wd,.int s,.str w]],.str k,.int a]=_:=O;show l_2 [rowD _ _,_,_]=_;unfold rowD;simp[l_2,C_6,e3,r_4,z_0,N_4,kn5,M,z]
theorem aJ8 (reach:Int) (how:Str):p_8 [worksD (rowP reach how) f.D',.str wQ,.str k,.int a]=some .non:=by have z:=bc7 hf hk ha;obtain⟨kind,rest,O,_,_⟩:=x_7 f;rw[O] at z ⊢;have e1:=aV9 kind rest reach how;have e2:=aW0 kind rest reach how;have Z:a_9 askD (.int 2)=some (.tup [.str "f"]):=rfl;have Y:a_9 (.tup [.str "f"]) (.int 0)=some (.str "f"):=rfl;have M:a_9 askD (.int 0)=some (.str "ask"):=rfl;have nn:dIs askD .non=some (.bl false):=rfl;unfold worksD at e1 e2 ⊢;generalize askD=A at *;generalize hR:rowD kind rest=R at *;generalize D.lst [inX (Str.ofString "x"),inX (Str.ofString "y"),rowP reach how,R,A]=W at *;simp[p_8,F_1,List.replicate,e1,e2,z,Z,Y,M,nn]
end
def B_5 (w:Str):Option Int->HL
 |none=>.all
 |some m=>if w=wC then .all else if w=wM then .ge (m+1) else .le (m-1)
theorem al7 {w:Str} (o:Option Int) (v:Int):(B_5 w o).has v↔Tw w o v:=by
 cases o with
 |none=>exact⟨λ _=>.inr λ m e=>(nomatch e),λ _=>trivial⟩
 |some m =>
  unfold B_5 Tw;dsimp only;by_cases c:w=wC
  ·rw[if_pos c];exact⟨λ _=>.inl c,λ _=>trivial⟩
  ·rw[if_neg c];by_cases z:w=wM
   ·rw[if_pos z];exact⟨λ h=>.inr λ x e=>by cases e;rw[if_pos z];have h:m+1<=v:=h;omega,λ h=>by
     rcases h with h | h
     ·exact absurd h c
     ·have:=h m rfl;rw[if_pos z] at this;show m+1<=v;omega⟩
   ·rw[if_neg z];exact⟨λ h=>.inr λ x e=>by cases e;rw[if_neg z];have h:v<=m-1:=h;omega,λ h=>by
     rcases h with h | h
     ·exact absurd h c
     ·have:=h m rfl;rw[if_neg z] at this;show v<=m-1;omega⟩
theorem bx3 {w:Str} (Z:IsW w) (hs:w≠wS) (o:Option Int):d_6 [askD,.str w,oD o,evD]=some (.lst [(B_5 w o).D]):=by
 have O:(0:Int)<1:=by decide
 have Y:I13 1:=.inl rfl;have me:=ae5 (st:=1) (re:=0) (by decide) O;cases o with
 |none =>
  rcases Z with rfl | rfl | rfl | rfl
  ·kernel_rfl
  ·exact absurd rfl hs
  ·kernel_rfl
  ·kernel_rfl
 |some m =>
  have M:atD [.str "ask",.str wQ,.tup [.str "f"],.tup []] 3=some (.tup []):=rfl;rcases Z with rfl | rfl | rfl | rfl
  ·rw[be7];unfold B_5;dsimp only;rw[if_pos rfl];unfold HL.D;simp[d_6,o_0,List.replicate,M,m_8,l_4]
  ·exact absurd rfl hs
  ·have z:=S_8 (m+1) Y (Qv 0) O (Q9 _);rw[be7];unfold B_5;dsimp only;rw[if_neg (by rw[n4];exact id),if_pos rfl];unfold HL.D;simp[d_6,o_0,List.replicate,M,m_8,l_4,n4,n5,h_7,t_4,c_2,t_7,a_5,c_7,c_4,g_8,b_2,f_2,m_7,k_5,n_5,k_3,z,m_4,w_3]
  ·have z:=S_7 (m-1) Y (Qv 0) O (Q9 _);rw[be7];unfold B_5;dsimp only;rw[if_neg (by rw[n7];exact id),if_neg (by rw[n9];exact id)];unfold HL.D;simp[d_6,o_0,List.replicate,M,m_8,l_4,n7,n8,n9,h_7,t_4,c_1,t_6,a_5,c_7,c_4,g_8,b_2,f_2,m_7,k_5,n_5,k_3,z,m_4,w_3]
section
variable {p q reach:Int}{k:Str}{P:Int} (P0:0<=P) {e:Option Int}
theorem ltO_max {a b:Int}:ltO (if b > a then b else a) e↔ltO a e/\ltO b e:=by
 cases e with
 |none=>exact⟨λ _=>⟨trivial,trivial⟩,λ _=>trivial⟩
 |some x=>show (if b > a then b else a)<x↔a<x/\b<x;split <;> omega
theorem bk8 {l r:Th} (hk:r.k=l.k) (Y:0<=l.t) (hr:0<=r.t) (h:pK k P e (pr p q l r)=true):pK k 0 e l=true/\pK k 0 e r=true:=by obtain⟨h1,h2,z⟩:=Q1 h;obtain⟨M,O⟩:=ltO_max.mp z;exact⟨Qk ⟨h1,Y,M⟩,Qk ⟨hk.trans h1,hr,O⟩⟩
theorem blk {l:Th} (hl:0<=l.t):∀ R:List Th,(∀ u∈R,0<=u.t)->((((R.filter (pK k 0 e)).filter (kyq l)).filter (clo reach l)).map (pr p q l)).filter (pK k P e)=(((R.filter (kyq l)).filter (clo reach l)).map (pr p q l)).filter (pK k P e)
 |[],_=>rfl
 |r::R,h=>by
  have ih:=blk hl R λ u hu=>h u (qh _ hu);by_cases O:kyq l r=true
  ·by_cases Z:clo reach l r=true
   ·by_cases M:pK k 0 e r=true
    ·rw[Qj M,Qj O,Qj Z,Qj O,Qj Z,Qa,Qa];by_cases Y:pK k P e (pr p q l r)=true
     ·rw[Qj Y,Qj Y,ih]
     ·rw[Qo Y,Qo Y,ih]
    ·have Y:¬ pK k P e (pr p q l r)=true:=λ z=>M (bk8 (Q1 O) hl (h r qg) z).2;rw[Qo M,Qj O,Qj Z,Qa,Qo Y,ih]
   ·rw[Qj (l:=R) O,Qo (l:=R.filter (kyq l)) Z,<- ih];by_cases M:pK k 0 e r=true
    ·rw[Qj M,Qj O,Qo Z]
    ·rw[Qo M]
  ·rw[Qo (l:=R) O,<- ih];by_cases M:pK k 0 e r=true
   ·rw[Qj M,Qo O]
   ·rw[Qo M]
theorem av3 {R:List Th} (M:∀ u∈R,0<=u.t):∀ L:List Th,(∀ u∈L,0<=u.t)->(prL p q reach (L.filter (pK k 0 e)) (R.filter (pK k 0 e))).filter (pK k P e)=(prL p q reach L R).filter (pK k P e)
 |[],_=>rfl
 |l::L,h=>by
  have Y:=av3 M L λ u O=>h u (qh _ O);have Z:=h l qg;have ap:∀ (L R:List Th),prL p q reach (l::L) R=((R.filter (kyq l)).filter (clo reach l)).map (pr p q l)++prL p q reach L R:=λ L R=>rfl;by_cases c:pK k 0 e l=true
  ·rw[Qj c,ap,ap,Zk,Zk,Y,blk Z R M]
  ·rw[Qo c,ap,Zk,Y];have:(((R.filter (kyq l)).filter (clo reach l)).map (pr p q l)).filter (pK k P e)=[]:=List.filter_eq_nil_iff.mpr λ u O z=>by
    obtain⟨r,hr,rfl⟩:=List.mem_map.mp O;obtain⟨h1,_⟩:=List.mem_filter.mp hr;obtain⟨h2,h3⟩:=List.mem_filter.mp h1;exact c (bk8 (Q1 h3) Z (M r h2) z).1
   rw[this];rfl
end
theorem ah3 {B:List Bx} (lB:B.length<=5):o_1 [.lst (B.map Bx.D)]=some (.lst (B.map wyD)):=by
 have g:∀ B:List Bx,cGo tYes (e_1 (aC (eV 0) (aC (eC (.bl true)) aN))) [] (B.map Bx.D)=some (B.map wyD):=λ B=>by
  induction B with
  |nil=>rfl
  |cons x B M =>
   rw[Qa,aA5,show tYes [.im x.D]=some (true,[.im x.D]) from rfl,aA8,show e_1 (aC (eV 0) (aC (eC (.bl true)) aN)) [.im x.D]=some (wyD x,[.im x.D]) by simp,aA7,M];rfl
 have g:=g B;have z:(B.map Bx.D).length<=sizeLine:=by rw[Qg];exact e_2 (by omega)
 generalize B.map Bx.D=X at *;simp[o_1,L_0,g,z]
def Mv (f:Fold) (p q reach:Int) (k:Str) (a:Int) (L R T1 T2:List Th):Prop:=∃ l r,((l∈T1/\(r∈T2\/r∈R))\/(l∈L/\r∈T2))/\r.k=l.k/\((l.t-r.t).natAbs:Int)<=reach/\l.k=k/\inW f a (pr p q l r).t/\Tw f.word (amO f.word (vw f (prL p q reach L R) k a)) (pr p q l r).v
def InB (B:List Bx) (k:Str) (r:Th):Prop:=r.k=k/\∃ x∈B,aI0 x.ki k=true/\x.b<=r.t/\r.t<x.e/\x.s.has r.v
section
variable {f:Fold} (hf:f.ok) (hs:f.word≠wS) {how:Str}{p q:Int} (h:IsH how p q) {reach:Int} (hr:0<=reach) {k:Str} (hk:IsK k) {a:Int} (ha:Win f a) {L R:List Th} (lL:L.length<=4) (lR:R.length<=4) (tL:∀ u∈L,0<=u.t) (tR:∀ u∈R,0<=u.t) {B C:List Bx} (hB:∀ x∈B,x.Ok) (hC:∀ x∈C,x.Ok) (lB:B.length<=1) (lC:C.length<=1) {T1 T2:List Th} (m1:∀ r,r∈T1↔InB B k r) (m2:∀ r,r∈T2↔InB C k r)
include hf hs h hr hk ha lL lR tL tR hB hC lB lC m1 m2
theorem aR3:∃ fs:List D,k_1 [askD,f.D',rowP reach how,kbD k (f.b a) (f.e a),.tup [.lst (L.map tD),.lst (R.map tD)],.tup [.lst (B.map wyD),.lst (C.map wyD)]]=some (.lst fs)/\fs.length<=1000/\(fs≠[]↔Mv f p q reach k a L R T1 T2):=by
 obtain⟨b0,lt⟩:=aL8 hf ha;have ah:ltO 0 (f.e a):=by
  cases he:f.e a with
  |none=>exact trivial
  |some z=>rw[he] at lt;have lt:f.b a<z:=lt;show 0<z;omega
 have ao:b_6 [onD k,.int 0,oD (f.e a),evD]=some (kbD k 0 (f.e a)):=by
  cases he:f.e a with
  |none=>simp[b_6,h_8,B_9,oD]
  |some z =>
   rw[he] at ah;have c:¬ z<=0:=Int.not_le.mpr ah;simp[b_6,h_8,B_9,oD,c]
 have e1:=aY4 k 0 (f.e a) (L:=L) (by omega);have e2:=aY4 k 0 (f.e a) (L:=R) (by omega);have au:(L.filter (pK k 0 (f.e a))).length<=4:=Qq (Q8 _ _) lL;have al:(R.filter (pK k 0 (f.e a))).length<=4:=Qq (Q8 _ _) lR;obtain⟨S,ep,pm⟩:=ai7 h reach (L.filter (pK k 0 (f.e a))) (R.filter (pK k 0 (f.e a))) (by omega) (by omega);have an:S.length<=1000:=by have:=Q_7 (p:=p) (q:=q) (reach:=reach) al (L.filter (pK k 0 (f.e a)));rw[pm.length_eq];omega
 have am:=ab0 f hf k (f.b a) (f.e a) (L:=S) an;have pT:∀ u∈prL p q reach L R,0<=u.t:=λ u hu=>by
  obtain⟨l,Z,r,hr,_,_,rfl⟩:=mem_pr.mp hu;have:=tL l Z;have:=tR r hr;show 0<=if r.t > l.t then r.t else l.t
  split <;> omega
 have nw:amO f.word ((S.filter (pK k (f.b a) (f.e a))).map (·.v))=amO f.word (vw f (prL p q reach L R) k a):=by rw[bg6 hf ha k pT,<- av3 tR L tL];exact U_4 ((pm.filter _).map _)
 rw[nw] at am;have tv:=bx3 (f.isW hf) hs (amO f.word (vw f (prL p q reach L R) k a));have hw:=al7 (w:=f.word) (amO f.word (vw f (prL p q reach L R) k a));have fk:∀ (X:List Th),(∀ u∈X,0<=u.t)->∀ u∈X.filter (pK k 0 (f.e a)),u.k=k/\0<=u.t:=λ X hX u hu=>by
  obtain⟨h1,h2⟩:=List.mem_filter.mp hu;obtain⟨O,Y,_⟩:=Q1 h2;exact⟨O,Y⟩
 obtain⟨SL,s1,ax,as,ag,ai⟩:=ar7 hk (f.e a) hB (by omega) (fk L tL) (by omega);obtain⟨SR,s2,aq,ar,ak,aj⟩:=ar7 hk (f.e a) hC (by omega) (fk R tR) (by omega);generalize ae:amO f.word (vw f (prL p q reach L R) k a)=ac at *;obtain⟨fs,az,av,aw,ay,lp,lf,iff⟩:=aq8 h hr (f.b a) (f.e a) (B_5 f.word ac) k (.im askD) (.im f.D') (.im (.tup [.lst (L.map tD),.lst (R.map tD)])) (.im (.tup [.lst (B.map wyD),.lst (C.map wyD)])) (.im (kbD k 0 (f.e a))) (.im (.lst ((L.filter (pK k 0 (f.e a))).map tD))) (.im (.lst ((R.filter (pK k 0 (f.e a))).map tD))) (.im (oD ac)) ar aq SL as [] .no .no .no .no (by simp;omega);rw[Yc] at lp;refine⟨fs,?_,by omega,?_⟩
 ·obtain⟨kind,rest,w1,w2,_⟩:=x_7 f;have i3:a_9 f.D' (.int 3)=some (.tup rest):=by rw[w1];rfl
  unfold E17 at lp;generalize (B_5 f.word ac).D=W at *;generalize oD ac=N at *;generalize D.lst ((L.filter (pK k 0 (f.e a))).map tD)=X1 at *;generalize D.lst ((R.filter (pK k 0 (f.e a))).map tD)=X2 at *;generalize D.lst (L.map tD)=Y1 at *;generalize D.lst (R.map tD)=Y2 at *;generalize D.lst (B.map wyD)=Z1 at *;generalize D.lst (C.map wyD)=Z2 at *;generalize D.lst (S.map tD)=V at *;generalize SL.map (Sd.D k)=U1 at *;generalize SR.map (Sd.D k)=U2 at *;generalize rowP reach how=P at *;generalize f.D'=F at *;generalize askD=A at *;have a0:∀ x:D,atD [x] 0=some x:=λ _=>rfl;simp[k_1,A_0,List.replicate,m_7,n_5,k_3,m_8,l_4,ao,e1,e2,ep,am,i3,w2,tv,a0,s1,s2,lp]
 ·rw[iff];have aa:∀ t x,((∃ d∈SL,d.nw=true/\d.at t x)↔InB B k ⟨t,k,x⟩/\ltO t (f.e a))/\((∃ d∈SL,d.nw=false/\d.at t x)↔(⟨t,k,x⟩:Th)∈L/\ltO t (f.e a)):=λ t x=>by
   refine⟨(ag t x).trans ⟨fun⟨y,hy,h1,h2,O,Y,h5⟩=>⟨⟨rfl,y,hy,h1,h2,O,h5⟩,Y⟩,fun⟨⟨_,y,hy,h1,h2,O,h5⟩,Y⟩=>⟨y,hy,h1,h2,O,Y,h5⟩⟩,(ai t x).trans ⟨λ ad=>?_,fun⟨h1,h2⟩=>⟨_,List.mem_filter.mpr ⟨h1,Qk ⟨rfl,tL _ h1,h2⟩⟩,rfl,rfl⟩⟩⟩;obtain⟨u,hu,h1,h2⟩:=ad;obtain⟨O,Y⟩:=List.mem_filter.mp hu;obtain⟨h5,_,h6⟩:=Q1 Y;subst h1 h2 h5;exact⟨O,h6⟩
  have ab:∀ t x,((∃ d∈SR,d.nw=true/\d.at t x)↔InB C k ⟨t,k,x⟩/\ltO t (f.e a))/\((∃ d∈SR,d.nw=false/\d.at t x)↔(⟨t,k,x⟩:Th)∈R/\ltO t (f.e a)):=λ t x=>by
   refine⟨(ak t x).trans ⟨fun⟨y,hy,h1,h2,O,Y,h5⟩=>⟨⟨rfl,y,hy,h1,h2,O,h5⟩,Y⟩,fun⟨⟨_,y,hy,h1,h2,O,h5⟩,Y⟩=>⟨y,hy,h1,h2,O,Y,h5⟩⟩,(aj t x).trans ⟨λ ad=>?_,fun⟨h1,h2⟩=>⟨_,List.mem_filter.mpr ⟨h1,Qk ⟨rfl,tR _ h1,h2⟩⟩,rfl,rfl⟩⟩⟩;obtain⟨u,hu,h1,h2⟩:=ad;obtain⟨O,Y⟩:=List.mem_filter.mp hu;obtain⟨h5,_,h6⟩:=Q1 Y;subst h1 h2 h5;exact⟨O,h6⟩
  have t0:∀ {X:List Bx},(∀ x∈X,x.Ok)->∀ {r:Th},InB X k r->0<=r.t:=λ {X} hX {r} z=>by obtain⟨_,x,hx,_,h1,_⟩:=z;have:=(hX x hx).b0;omega
  constructor
  ·rintro ⟨l,Z,r,M,hn,⟨t,u,g1,g2,g3,g4,g5,g6⟩,x,y,v1,v2,v3⟩;have A1:l.at t x:=⟨g1,g2,v1⟩;have A2:r.at u y:=⟨g3,g4,v2⟩;have B1:(l.nw=true/\InB B k ⟨t,k,x⟩\/l.nw=false/\(⟨t,k,x⟩:Th)∈L)/\ltO t (f.e a)/\0<=t:=by
    cases hc:l.nw with
    |true =>
     obtain⟨z1,z2⟩:=(aa t x).1.mp ⟨l,Z,hc,A1⟩;exact⟨.inl ⟨rfl,z1⟩,z2,t0 hB z1⟩
    |false =>
     obtain⟨z1,z2⟩:=(aa t x).2.mp ⟨l,Z,hc,A1⟩;exact⟨.inr ⟨rfl,z1⟩,z2,tL _ z1⟩
   have B2:(r.nw=true/\InB C k ⟨u,k,y⟩\/r.nw=false/\(⟨u,k,y⟩:Th)∈R)/\ltO u (f.e a)/\0<=u:=by
    cases hc:r.nw with
    |true =>
     obtain⟨z1,z2⟩:=(ab u y).1.mp ⟨r,M,hc,A2⟩;exact⟨.inl ⟨rfl,z1⟩,z2,t0 hC z1⟩
    |false =>
     obtain⟨z1,z2⟩:=(ab u y).2.mp ⟨r,M,hc,A2⟩;exact⟨.inr ⟨rfl,z1⟩,z2,tR _ z1⟩
   refine⟨⟨t,k,x⟩,⟨u,k,y⟩,?_,rfl,g5,rfl,(ac0 hf ha ?_).mpr ⟨?_,ltO_max.mpr ⟨B1.2.1,B2.2.1⟩⟩,by rw[ae];exact (hw _).mp v3⟩
   ·rw[m1,m2];rcases B1.1 with ⟨_,z⟩ | ⟨n1,z⟩ <;> rcases B2.1 with ⟨_,y⟩ | ⟨n2,y⟩
    ·exact .inl ⟨z,.inl y⟩
    ·exact .inl ⟨z,.inr y⟩
    ·exact .inr ⟨z,y⟩
    ·rw[n1,n2] at hn;exact absurd hn (by decide)
   ·show 0<=if u > t then u else t
    have:=B1.2.2;have:=B2.2.2;split <;> omega
   ·show f.b a<=if u > t then u else t
    split <;> omega
  ·rintro ⟨⟨t,k1,x⟩,⟨u,k2,y⟩,af,E1,E2,E3,E4,E5⟩;dsimp only at E1 E2 E3;have E3:=E3.symm;subst E3;have E1:=E1.symm;subst E1;rw[m1,m2] at af;have z0:0<=t/\0<=u:=by
    rcases af with ⟨z,y | y⟩ | ⟨z,y⟩
    ·exact⟨t0 hB z,t0 hC y⟩
    ·exact⟨t0 hB z,tR _ y⟩
    ·exact⟨tL _ z,t0 hC y⟩
   obtain⟨w1,w2⟩:=(ac0 hf ha (show 0<=(pr p q ⟨t,k,x⟩ ⟨u,k,y⟩).t by show 0<=if u > t then u else t;split <;> omega)).mp E4;obtain⟨w3,w4⟩:=ltO_max.mp w2;have w1:f.b a<=if u > t then u else t:=w1;have w5:f.b a<=t\/f.b a<=u:=by split at w1 <;> omega
   rw[ae] at E5;have v3:=(hw _).mpr E5;have fin:∀ l∈SL,∀ r∈SR,l.at t x->r.at u y->(l.nw=true\/r.nw=true)->∃ l∈SL,∃ r∈SR,Gt p q reach (f.b a) (B_5 f.word ac) l r:=λ l Z r M ⟨g1,g2,v1⟩ ⟨g3,g4,v2⟩ n=>⟨l,Z,r,M,n,⟨t,u,g1,g2,g3,g4,E2,w5⟩,x,y,v1,v2,v3⟩
   rcases af with ⟨z,y' | y'⟩ | ⟨z,y'⟩
   ·obtain⟨l,Z,n,A1⟩:=(aa t x).1.mpr ⟨z,w3⟩;obtain⟨r,M,_,A2⟩:=(ab u y).1.mpr ⟨y',w4⟩;exact fin l Z r M A1 A2 (.inl n)
   ·obtain⟨l,Z,n,A1⟩:=(aa t x).1.mpr ⟨z,w3⟩;obtain⟨r,M,_,A2⟩:=(ab u y).2.mpr ⟨y',w4⟩;exact fin l Z r M A1 A2 (.inl n)
   ·obtain⟨l,Z,_,A1⟩:=(aa t x).2.mpr ⟨z,w3⟩;obtain⟨r,M,n,A2⟩:=(ab u y).1.mpr ⟨y',w4⟩;exact fin l Z r M A1 A2 (.inr n)
theorem aR5:∃ z:Bool,l_3 [worksD (rowP reach how) f.D',.str wQ,.str k,.int a,.tup [.lst (L.map tD),.lst (R.map tD)],.tup [.lst (B.map Bx.D),.lst (C.map Bx.D)]]=some (.bl z)/\(z=true↔Mv f p q reach k a L R T1 T2):=by have M:=aJ8 hf hk ha reach how;have O:=aq2 hf ha k;obtain⟨fs,Y,lf,iff⟩:=aR3 hf hs h hr hk ha lL lR tL tR hB hC lB lC m1 m2;have n1:=ah3 (B:=B) (by omega);have n2:=ah3 (B:=C) (by omega);refine⟨decide (0<fs.length),?_,by rw[<- iff,Y6];exact List.length_pos_iff⟩;obtain⟨kind,rest,Z,w2,_⟩:=x_7 f;rw[Z] at M O Y ⊢;have er:=aT3 kind rest reach how;have i0:a_9 (rowP reach how) (.int 0)=some (.str "pair"):=rfl;generalize worksD (rowP reach how) (rowD kind rest)=W at *;generalize rowD kind rest=F at *;generalize rowP reach how=P at *;generalize askD=A at *;generalize kbD k (f.b a) (f.e a)=K at *;generalize D.lst (L.map tD)=Y1 at *;generalize D.lst (R.map tD)=Y2 at *;generalize D.lst (B.map Bx.D)=X1 at *;generalize D.lst (C.map Bx.D)=X2 at *;generalize D.lst (B.map wyD)=Z1 at *;generalize D.lst (C.map wyD)=Z2 at *;simp[l_3,F_2,List.replicate,M,er,ao4,ao3,ao2,m_8,l_4,i0,n1,n2,O,Y]
end
theorem al0 {α:Type} (f:α->D) (xs:List α) {i:Int} (z:0<=i) (h1:i<xs.length):∃ x,x∈xs/\atD (xs.map f) i=some (f x):=by
 have hi:i.toNat<xs.length:=by omega
 refine⟨xs[i.toNat],Yf hi,?_⟩;unfold atD dPl;rw[Qg,if_pos z,if_pos h1];show (xs.map f)[i.toNat]?=_;rw[Qp,Qm hi];rfl
def qL:List Int->List D
 |[]=>[]
 |q::qs=>qL qs++[.int q]
theorem as8:∀ xs:List Int,xs.map D.int=qL xs.reverse
 |[]=>rfl
 |x::xs=>by
  have h:∀ (a b:List Int),qL (a++b)=qL b++qL a:=λ a=>by
   induction a with
   |nil=>intro b;rw[Yc];show _=qL b++[];rw[Qr]
   |cons y a z=>intro b;rw[Yu];show qL (a++b)++[_]=qL b++(qL a++[_]);rw[z,Q3]
  rw[Qa,Yo,h,as8 xs];rfl
@[simp] theorem bY6 (i:Nat) (ρ:En) (b:Bool) (q:Int) (qs:List Int):eQa i ρ (some (b,qL (q::qs)))=some (.int q,ρ.set i (.ow b (.lst (qL qs)))):=bF5 i ρ b (qL qs) (.int q)
theorem q3:A_6 3=true:=y_0 (by decide) (by decide)
theorem ah1 (c:Int):∀ (n:Nat) (lo:Int) (xs:List Int) (r:Int) (M:Sl),xs.length+n<=1000->∃ (ys:List Int) (O:Int) (z:Sl),ys.length=xs.length+n/\fGo (gN 5) n_4 (u_8 lo n) [.im (.int c),.im (.int 120),.ow false (.lst (xs.map .int)),.no,.no,M,.im (.int r)]=some (.nx [.im (.int c),.im (.int 120),.ow false (.lst (ys.map .int)),.no,.no,z,.im (.int O)])
 |0,lo,xs,r,M,_=>⟨xs,r,M,rfl,rfl⟩
 |n+1,lo,xs,r,M,hl=>by
  have Y:gN 5 (.int lo) [.im (.int c),.im (.int 120),.ow false (.lst (xs.map .int)),.no,.no,M,.im (.int r)]=some [.im (.int c),.im (.int 120),.ow false (.lst (xs.map .int)),.no,.no,.im (.int lo),.im (.int r)]:=rfl;have q:xs.length<1000000:=by omega
  have d:A_6 10000019=true:=y_0 (by decide) (by decide);have b:n_4 [.im (.int c),.im (.int 120),.ow false (.lst (xs.map .int)),.no,.no,.im (.int lo),.im (.int r)]=some (.nx [.im (.int c),.im (.int 120),.ow false (.lst ((xs++[r.fmod 10000019]).map .int)),.no,.no,.im (.int lo),.im (.int (r.fdiv 10000019))]):=by simp[n_4,q,d]
  obtain⟨ys,O,z,l,Z⟩:=ah1 c n (lo+1) (xs++[r.fmod 10000019]) (r.fdiv 10000019) (.im (.int lo)) (by rw[Qd,Qs];omega);refine⟨ys,O,z,by rw[l,Qd,Qs];omega,?_⟩;rw[show u_8 lo (n+1)=.int lo::u_8 (lo+1) n from rfl,r_5,Y,r_6,b,t_9,Z]
theorem ah0 (c:Int):∀ (n:Nat) (lo:Int) (xs:List Int) (a b:Int) (M:Sl),0<=lo->lo+n<=1000->0<=a->a<2147490000->xs.length+n<=1000->∃ (ys:List Int) (Y O:Int) (z:Sl),ys.length=xs.length+n/\fGo (gN 5) n_3 (u_8 lo n) [.im (.int c),.im (.int 120),.ow false (.lst (xs.map .int)),.im (.int a),.im (.int b),M,.no]=some (.nx [.im (.int c),.im (.int 120),.ow false (.lst (ys.map .int)),.im (.int Y),.im (.int O),z,.no])
 |0,lo,xs,a,b,M,_,_,_,_,_=>⟨xs,a,b,M,rfl,rfl⟩
 |n+1,lo,xs,a,b,M,l0,l1,a0,a1,hl=>by
  have Z:gN 5 (.int lo) [.im (.int c),.im (.int 120),.ow false (.lst (xs.map .int)),.im (.int a),.im (.int b),M,.no]=some [.im (.int c),.im (.int 120),.ow false (.lst (xs.map .int)),.im (.int a),.im (.int b),.im (.int lo),.no]:=rfl;have q:xs.length<1000000:=by omega
  have d:A_6 1009=true:=y_0 (by decide) (by decide);have m1:∀ x:Int,x_1 a x=true:=λ x=>ad7 (by omega);have m2:x_1 b 48271=true:=D_9 (by decide);have f0:=Q7 (a*(a.fdiv 1009+69621)) (b:=2147483647) (by decide);have f1:=Ze (a*(a.fdiv 1009+69621)) (b:=2147483647) (by decide);have bb:n_3 [.im (.int c),.im (.int 120),.ow false (.lst (xs.map .int)),.im (.int a),.im (.int b),.im (.int lo),.no]=some (.nx [.im (.int c),.im (.int 120),.ow false (.lst ((xs++[(a*(a.fdiv 1009+69621)).fmod 2147483647+lo+1+(b*48271).fmod 2147483629]).map .int)),.im (.int ((a*(a.fdiv 1009+69621)).fmod 2147483647+lo+1)),.im (.int ((b*48271).fmod 2147483629)),.im (.int lo),.no]):=by simp[n_3,q,d,m1,m2]
  obtain⟨ys,Y,O,z,l,ih⟩:=ah0 c n (lo+1) (xs++[(a*(a.fdiv 1009+69621)).fmod 2147483647+lo+1+(b*48271).fmod 2147483629]) ((a*(a.fdiv 1009+69621)).fmod 2147483647+lo+1) ((b*48271).fmod 2147483629) (.im (.int lo)) (by omega) (by omega) (by omega) (by omega) (by rw[Qd,Qs];omega);refine⟨ys,Y,O,z,by rw[l,Qd,Qs];omega,?_⟩;rw[show u_8 lo (n+1)=.int lo::u_8 (lo+1) n from rfl,r_5,Z,r_6,bb,t_9,ih]
theorem ar6 (c:Int):∃ qs:List Int,i_0 [.int c,.int 120]=some (.lst (qL qs))/\qs.length=120:=by
 have Y:A_6 7=true:=y_0 (by decide) (by decide);have m1:∀ x:Int,x_1 x 48271=true:=λ x=>D_9 (by decide);have m2:∀ x:Int,x_1 x 69621=true:=λ x=>D_9 (by decide);have Z:=Q7 ((c.fmod 2147483647+1)*48271) (b:=2147483647) (by decide);have f1:=Ze ((c.fmod 2147483647+1)*48271) (b:=2147483647) (by decide);obtain⟨ys,r',s5,l1,e1⟩:=ah1 c 120 0 [] (c.fdiv 7) .no (by decide);obtain⟨zs,a',b',aa,l2,e2⟩:=ah0 c 120 0 [] (((c.fmod 2147483647+1)*48271).fmod 2147483647) (((c.fmod 1000003+1)*69621).fmod 2147483629) .no (by decide) (by decide) Z (by omega) (by decide);have z:fGo (gN 5) n_4 (u_8 0 120) [.im (.int c),.im (.int 120),.ow false (.lst []),.no,.no,.no,.im (.int (c.fdiv 7))]=_:=e1;have M:fGo (gN 5) n_3 (u_8 0 120) [.im (.int c),.im (.int 120),.ow false (.lst []),.im (.int (((c.fmod 2147483647+1)*48271).fmod 2147483647)),.im (.int (((c.fmod 1000003+1)*69621).fmod 2147483629)),.no,.no]=_:=e2;have O:bI0 (.int 10) (.int 40)=some (.int 10000000000000000000000000000000000000000):=by kernel_rfl
 by_cases h:(10000000000000000000000000000000000000000:Int)<=c
 ·refine⟨ys,?_,by simpa using l1⟩;have rv:(ys.map D.int).reverse=qL ys:=by rw[<- List.map_reverse,as8,List.reverse_reverse]
  simp[i_0,y_4,List.replicate,O,h,Y,z,rv]
 ·refine⟨zs.reverse,?_,by rw[List.length_reverse];simpa using l2⟩;simp[i_0,y_4,List.replicate,O,h,m1,m2,M,as8]
structure Gd (u:Th):Prop where
 t0:0<=u.t
 t8:u.t<8
 k:u.k=kA\/u.k=kB
 v0:-2<=u.v
 v3:u.v<=3
theorem bx4 {qs:List Int} (h:3<=qs.length):∃ a b c r,qs=a::b::c::r:=by
 match qs,h with
 |a::b::c::r,_=>exact⟨a,b,c,r,rfl⟩
theorem ar0:∀ (n:Nat) (lo:Int) (L:List Th) (qs:List Int) (O:Sl),3*n<=qs.length->L.length+n<=100->(∀ u∈L,Gd u) ->
  ∃ (Z:List Th) (z:List Int) (M:Sl),fGo (gN 3) n_2 (u_8 lo n) [.ow true (.lst (qL qs)),.im (.int 5),.ow false (.lst (L.map tD)),O]=some (.nx [.ow true (.lst (qL z)),.im (.int 5),.ow false (.lst (Z.map tD)),M])/\Z.length=L.length+n/\qs.length=z.length+3*n/\∀ u∈Z,Gd u
 |0,lo,L,qs,O,_,_,h=>⟨L,qs,O,rfl,rfl,rfl,h⟩
 |n+1,lo,L,qs,O,hq,hl,h=>by
  obtain⟨a,b,c,r,rfl⟩:=bx4 (qs:=qs) (by omega);have gg:gN 3 (.int lo) [.ow true (.lst (qL (a::b::c::r))),.im (.int 5),.ow false (.lst (L.map tD)),O]=some [.ow true (.lst (qL (a::b::c::r))),.im (.int 5),.ow false (.lst (L.map tD)),.im (.int lo)]:=rfl;have f1:=Q7 (a.fdiv 3) (b:=8) (by decide);have f2:=Ze (a.fdiv 3) (b:=8) (by decide);have f3:=Q7 (c.fdiv 3) (b:=6) (by decide);have f4:=Ze (c.fdiv 3) (b:=6) (by decide);obtain⟨k,hk,ek⟩:=al0 D.str [kA,kB] (i:=(b.fdiv 3).fmod 2) (Q7 _ (by decide)) (Ze _ (by decide));have aa:atD [.str kA,.str kB] ((b.fdiv 3).fmod 2)=some (.str k):=ek;have ql:L.length<1000000:=by omega
  have bb:n_2 [.ow true (.lst (qL (a::b::c::r))),.im (.int 5),.ow false (.lst (L.map tD)),.im (.int lo)]=some (.nx [.ow true (.lst (qL r)),.im (.int 5),.ow false (.lst ((L++[Th.mk ((a.fdiv 3).fmod 8) k ((c.fdiv 3).fmod 6-2)]).map tD)),.im (.int lo)]):=by simp[n_2,q3,aa,ql,tD]
  obtain⟨Z,z,M,ih,l1,l2,g⟩:=ar0 n (lo+1) (L++[Th.mk ((a.fdiv 3).fmod 8) k ((c.fdiv 3).fmod 6-2)]) r (.im (.int lo)) (by simp only[Qc] at hq;omega) (by rw[Qd,Qs];omega) (λ u Y=>by
   rcases qz Y with Y | Y
   ·exact h u Y
   ·cases List.mem_singleton.mp Y;exact⟨f1,f2,by simpa using hk,by dsimp only;omega,by dsimp only;omega⟩)
  refine⟨Z,z,M,?_,by rw[l1,Qd,Qs];omega,by simp only[Qc];omega,g⟩;rw[show u_8 lo (n+1)=.int lo::u_8 (lo+1) n from rfl,r_5,gg,r_6,bb,t_9,ih]
theorem V_4 {qs:List Int} (h:13<=qs.length):∃ (L:List Th) (M:List Int),g_6 (.lst (qL qs)) [.int 5]=some (.lst (L.map tD),.lst (qL M))/\L.length<5/\qs.length<=M.length+13/\(∀ u∈L,Gd u):=by
 obtain⟨a,r,rfl⟩:=Zs (l:=qs) (λ z=>by rw[z] at h;exact absurd h (by decide));have f1:=Q7 (a.fdiv 3) (b:=5) (by decide);have f2:=Ze (a.fdiv 3) (b:=5) (by decide);rw[Qc] at h;obtain⟨L,M,s3,e,l1,l2,g⟩:=ar0 ((a.fdiv 3).fmod 5).toNat 0 [] r .no (by omega) (by simp;omega) (λ u O=>nomatch O);have l1:L.length=0+((a.fdiv 3).fmod 5).toNat:=l1;have e':fGo (gN 3) n_2 (u_8 0 ((a.fdiv 3).fmod 5).toNat) [.ow true (.lst (qL r)),.im (.int 5),.ow false (.lst []),.no]=_:=e;obtain⟨S,hS,Y⟩:=ac3 L;have Z:=U_3 L (by omega);rw[hS] at Z;have r1:(a.fdiv 3).fmod 5<4611686018427387904:=by omega
 have r2:-4611686018427387904<=(a.fdiv 3).fmod 5:=by omega
 refine⟨S,M,?_,by rw[Y.length_eq];omega,by rw[Qc];omega,λ u O=>g u (Y.mem_iff.mp O)⟩;simp[g_6,E_8,List.replicate,q3,r1,r2,e',Z]
theorem bD2 {i:Int} (z:0<=i) (h1:i<5):∃ j:Nat,j<5/\atD [.tup [.str P_9,.tup [.str kA]],.tup [.str ac1,.tup []],.tup [.str ac1,.tup [.str kA]],.tup [.str P_9,.tup [.str kA,.str kB]],.tup [.str ac1,.tup [.str kC]]] i=some (kyD j):=by
 have c:i=0\/i=1\/i=2\/i=3\/i=4:=by omega
 rcases c with rfl | rfl | rfl | rfl | rfl
 ·exact⟨0,by decide,rfl⟩
 ·exact⟨1,by decide,rfl⟩
 ·exact⟨2,by decide,rfl⟩
 ·exact⟨3,by decide,rfl⟩
 ·exact⟨4,by decide,rfl⟩
theorem bo5 (j:Nat):∃ l,kyD j=.tup l:=by
 match j with
 |0=>exact⟨_,rfl⟩
 |1=>exact⟨_,rfl⟩
 |2=>exact⟨_,rfl⟩
 |3=>exact⟨_,rfl⟩
 |j+4=>exact⟨_,rfl⟩
theorem cns {n:Nat}{l:List Int} (h:n+1<=l.length):∃ a r,l=a::r/\n<=r.length:=by
 cases l with
 |nil=>cases h
 |cons a r=>exact⟨a,r,rfl,Nat.le_of_succ_le_succ h⟩
theorem by8 {qs:List Int} (h:7<=qs.length):∃ a b c d e f g r,qs=a::b::c::d::e::f::g::r:=by obtain⟨a,_,rfl,i⟩:=cns h;obtain⟨b,_,rfl,j⟩:=cns i;obtain⟨c,_,rfl,k⟩:=cns j;obtain⟨d,_,rfl,l⟩:=cns k;obtain⟨e,_,rfl,m⟩:=cns l;obtain⟨f,_,rfl,n⟩:=cns m;obtain⟨g,r,rfl,_⟩:=cns n;exact⟨a,b,c,d,e,f,g,r,rfl⟩
def E13 (qs:List Int) (B:List Bx) (s4 s5 s6 s7 Z Y z O M:Sl):En:=[.ow true (.lst (qL qs)),.im (.int 2),.im (.int 3),.ow false (.lst (B.map Bx.D)),s4,s5,s6,s7,Z,Y,z,O,M]
theorem aK6 (B:List Bx) (hB:∀ x∈B,x.Ok) (hl:B.length<=100) (a b c d e f g:Int) (r:List Int) (s4 s5 s6 s7 s8 s9 ae ak ag:Sl) :
  ∃ B' aj ad al ah af ab aa ac,m_6 (E13 (a::b::c::d::e::f::g::r) B s4 s5 s6 s7 s8 s9 ae ak ag)=some (.nx (E13 r B' s4 aj ad al ah af ab aa ac))/\B'.length<=B.length+1/\∀ x∈B',x.Ok:=by
 have O:∀ (x m:Int),0<m->0<=(x.fdiv 3).fmod m/\(x.fdiv 3).fmod m<m:=λ x m h=>⟨Q7 _ h,Ze _ h⟩
 have f1:=O a 5 (by decide);have f2:=O b 9 (by decide);have f3:=O c 3 (by decide);have f4:=O d 7 (by decide);have f5:=O e 3 (by decide);have f6:=O f 3 (by decide);obtain⟨j,hj,ej⟩:=bD2 f1.1 f1.2;obtain⟨kl,ek⟩:=bo5 j;generalize ha:(a.fdiv 3).fmod 5=ai at *;generalize hb:(b.fdiv 3).fmod 9=z at *;generalize hc:(c.fdiv 3).fmod 3=M at *;generalize hd:(d.fdiv 3).fmod 7=di at *;generalize he:(e.fdiv 3).fmod 3=Y at *;generalize hf:(f.fdiv 3).fmod 3=fi at *;have i3:I13 (1+Y):=by unfold I13;omega
 have f7:=O g (1+Y) (by omega);generalize hg:(g.fdiv 3).fmod (1+Y)=gi at *;have nz:¬ 1+Y=0:=by omega
 have ql:B.length<1000000:=by omega
 rcases aW7 (di-3) (wd:=fi) i3 f7.1 f7.2 (by omega) with em | ⟨s,sok,sb,em⟩
 ·refine⟨B,.im (.lst [.tup [.str P_9,.tup [.str kA]],.tup [.str ac1,.tup []],.tup [.str ac1,.tup [.str kA]],.tup [.str P_9,.tup [.str kA,.str kB]],.tup [.str ac1,.tup [.str kC]]]),.im (kyD j),.im (.int z),.im (.int (z+1+M)),.im (.int (di-3)),.im (.int (1+Y)),.im .non,.im .non,?_,Nat.le_succ _,hB⟩;have bm:b_6 [kyD j,.int z,.int (z+1+M),.non]=some .non:=by rw[ek];simp[b_6,h_8]
  simp[m_6,E13,q3,ha,ej,hb,hc,hd,he,hf,hg,nz,em,bm]
 ·have ok:Bx.Ok ⟨j,z,z+1+M,s⟩:=⟨hj,f2.1,by dsimp only;omega,by dsimp only;omega,by dsimp only;omega,by dsimp only;omega,sok⟩;refine⟨B++[⟨j,z,z+1+M,s⟩],.im (.lst [.tup [.str P_9,.tup [.str kA]],.tup [.str ac1,.tup []],.tup [.str ac1,.tup [.str kA]],.tup [.str P_9,.tup [.str kA,.str kB]],.tup [.str ac1,.tup [.str kC]]]),.im (kyD j),.im (.int z),.im (.int (z+1+M)),.im (.int (di-3)),.im (.int (1+Y)),.im s.D,.im (Bx.D ⟨j,z,z+1+M,s⟩),?_,by rw[Qd];exact qj _,λ x Z=>?_⟩
  ·have bm:b_6 [kyD j,.int z,.int (z+1+M),s.D]=some (Bx.D ⟨j,z,z+1+M,s⟩):=by
    have c1:max z 0=z:=by omega
    have c2:¬ z+1+M<=z:=by omega
    show _=some (D.tup [kyD j,.int z,.int (z+1+M),s.D]);rw[ek];simp[b_6,h_8,B_9,c1,c2]
   simp[m_6,E13,q3,ha,ej,hb,hc,hd,he,hf,hg,nz,em,bm,ql]
  ·rcases qz Z with Z | Z
   ·exact hB x Z
   ·cases List.mem_singleton.mp Z;exact ok
theorem ak6:∀ (n:Nat) (lo:Int) (B:List Bx) (qs:List Int) (s4 s5 s6 s7 s8 Z z O M:Sl),7*n<=qs.length->B.length+n<=100->(∀ x∈B,x.Ok) ->
  ∃ B' Y aj an ae ar al ak ab aa ac,fGo (gN 4) m_6 (u_8 lo n) (E13 qs B s4 s5 s6 s7 s8 Z z O M)=some (.nx (E13 Y B' aj an ae ar al ak ab aa ac))/\B'.length<=B.length+n/\qs.length=Y.length+7*n/\∀ x∈B',x.Ok
 |0,lo,B,qs,s4,s5,s6,s7,s8,Z,z,O,M,_,_,h=>⟨B,qs,s4,s5,s6,s7,s8,Z,z,O,M,rfl,qj _,rfl,h⟩
 |n+1,lo,B,qs,s4,s5,s6,s7,s8,Z,z,O,M,hq,hl,h=>by
  obtain⟨a,b,c,d,e,f,g,r,rfl⟩:=by8 (qs:=qs) (by omega);obtain⟨B1,t5,t6,t7,t8,t9,ad,af,ag,e1,l1,am⟩:=aK6 B h (by omega) a b c d e f g r (.im (.int lo)) s5 s6 s7 s8 Z z O M;obtain⟨B',Y,u4,u5,u6,u7,u8,u9,aq,ai,ao,ih,l2,l3,ah⟩:=ak6 n (lo+1) B1 r (.im (.int lo)) t5 t6 t7 t8 t9 ad af ag (by simp only[Qc] at hq;omega) (by omega) am;refine⟨B',Y,u4,u5,u6,u7,u8,u9,aq,ai,ao,?_,by omega,by simp only[Qc];omega,ah⟩;have gg:gN 4 (.int lo) (E13 (a::b::c::d::e::f::g::r) B s4 s5 s6 s7 s8 Z z O M)=some (E13 (a::b::c::d::e::f::g::r) B (.im (.int lo)) s5 s6 s7 s8 Z z O M):=rfl;rw[show u_8 lo (n+1)=.int lo::u_8 (lo+1) n from rfl,r_5,gg,r_6,e1,t_9,ih]
theorem ak5 {qs:List Int} (h:8<=qs.length):∃ (B:List Bx) (M:List Int),i_3 (.lst (qL qs)) [.int 2,.int 3]=some (.lst (B.map Bx.D),.lst (qL M))/\B.length<2/\qs.length<=M.length+8/\(∀ x∈B,x.Ok):=by
 obtain⟨a,r,rfl⟩:=Zs (l:=qs) (λ z=>by rw[z] at h;exact absurd h (by decide));have f1:=Q7 (a.fdiv 3) (b:=2) (by decide);have f2:=Ze (a.fdiv 3) (b:=2) (by decide);rw[Qc] at h;obtain⟨B,M,u4,u5,u6,u7,u8,u9,ab,Y,aa,e,O,l2,ok⟩:=ak6 ((a.fdiv 3).fmod 2).toNat 0 [] r .no .no .no .no .no .no .no .no .no (by omega) (by simp;omega) (λ x hx=>nomatch hx);have O:B.length<=0+((a.fdiv 3).fmod 2).toNat:=O;have e':fGo (gN 4) m_6 (u_8 0 ((a.fdiv 3).fmod 2).toNat) [.ow true (.lst (qL r)),.im (.int 2),.im (.int 3),.ow false (.lst []),.no,.no,.no,.no,.no,.no,.no,.no,.no]=_:=e;have r1:(a.fdiv 3).fmod 2<4611686018427387904:=by omega
 have Z:-4611686018427387904<=(a.fdiv 3).fmod 2:=by omega
 refine⟨B,M,?_,by omega,by rw[Qc];omega,ok⟩;simp[i_3,L_2,List.replicate,q3,r1,Z,e',E13]
abbrev E9 (B:Sl) (k:Str) (T:List Th) (z Z Y O s7 M:Sl):En:=[B,.im (.str k),.ow false (.lst (T.map tD)),z,Z,Y,O,s7,M]
theorem aq7 {s:St} (h:s.Ok) (B:Sl) (k:Str) (t:Int) (O Z Y:Sl):∀ (n:Nat) (lo:Int) (T:List Th) (s8:Sl),T.length+n<=1000 ->
  ∃ (V:List Th) (M:Sl),fGo (gN 8) g_3 (u_8 lo n) (E9 B k T O Z Y (.im s.D) (.im (.int t)) s8)=some (.nx (E9 B k (T++V) O Z Y (.im s.D) (.im (.int t)) M))/\V.length<=n/\∀ r,r∈V↔r.k=k/\r.t=t/\lo<=r.v/\r.v<lo+n/\r.v % s.st=s.re
 |0,lo,T,s8,_=>⟨[],s8,by rw[Qr];rfl,qj _,λ r=>⟨λ z=>(nomatch z),λ z=>by omega⟩⟩
 |n+1,lo,T,s8,hl=>by
  have gg:gN 8 (.int lo) (E9 B k T O Z Y (.im s.D) (.im (.int t)) s8)=some (E9 B k T O Z Y (.im s.D) (.im (.int t)) (.im (.int lo))):=rfl;have nz:¬ s.st=0:=by have:=h.r0;have:=h.r1;omega
  have em:=ao8 h.s3 lo;have ql:T.length<1000000:=by omega
  by_cases c:lo % s.st=s.re
  ·have b:g_3 (E9 B k T O Z Y (.im s.D) (.im (.int t)) (.im (.int lo)))=some (.nx (E9 B k (T++[⟨t,k,lo⟩]) O Z Y (.im s.D) (.im (.int t)) (.im (.int lo)))):=by simp[g_3,n_5,k_3,nz,em,c,ql,tD]
   obtain⟨V,M,ih,l,iff⟩:=aq7 h B k t O Z Y n (lo+1) (T++[⟨t,k,lo⟩]) (.im (.int lo)) (by rw[Qd,Qs];omega);refine⟨⟨t,k,lo⟩::V,M,?_,by rw[Qc];omega,λ r=>?_⟩
   ·rw[show u_8 lo (n+1)=.int lo::u_8 (lo+1) n from rfl,r_5,gg,r_6,b,t_9,ih,Q3];rfl
   ·rw[Yd,iff];constructor
    ·rintro (rfl | ⟨h1,h2,h3,h4,h5⟩)
     ·exact⟨rfl,rfl,Qv _,by dsimp only;omega,c⟩
     ·exact⟨h1,h2,by omega,by omega,h5⟩
    ·rintro ⟨h1,h2,h3,h4,h5⟩;by_cases z:r.v=lo
     ·left;cases r;subst h1 h2 z;rfl
     ·right;exact⟨h1,h2,by omega,by omega,h5⟩
  ·have b:g_3 (E9 B k T O Z Y (.im s.D) (.im (.int t)) (.im (.int lo)))=some (.nx (E9 B k T O Z Y (.im s.D) (.im (.int t)) (.im (.int lo)))):=by simp[g_3,n_5,k_3,nz,em,c]
   obtain⟨V,M,ih,l,iff⟩:=aq7 h B k t O Z Y n (lo+1) T (.im (.int lo)) (by omega);refine⟨V,M,?_,by omega,λ r=>?_⟩
   ·rw[show u_8 lo (n+1)=.int lo::u_8 (lo+1) n from rfl,r_5,gg,r_6,b,t_9,ih]
   ·rw[iff];constructor
    ·rintro ⟨h1,h2,h3,h4,h5⟩;exact⟨h1,h2,by omega,by omega,h5⟩
    ·rintro ⟨h1,h2,h3,h4,h5⟩;have z:r.v≠lo:=λ z=>c (by rw[<- z];exact h5);exact⟨h1,h2,by omega,by omega,h5⟩
theorem aM9 {s:St} (h:s.Ok) (sm:-1000<=s.lo/\s.hi<=1000) (B:Sl) (k:Str) (Y O M:Sl):∀ (n:Nat) (lo:Int) (T:List Th) (s7 Z:Sl),T.length+6*n<=1000 ->
  ∃ (V:List Th) (ac ab:Sl),fGo (gN 7) n_8 (u_8 lo n) (E9 B k T Y O M (.im s.D) s7 Z)=some (.nx (E9 B k (T++V) Y O M (.im s.D) ac ab))/\V.length<=6*n/\∀ r,r∈V↔r.k=k/\lo<=r.t/\r.t<lo+n/\s.has r.v
 |0,lo,T,s7,Z,_=>⟨[],s7,Z,by rw[Qr];rfl,qj _,λ r=>⟨λ z=>(nomatch z),λ z=>by omega⟩⟩
 |n+1,lo,T,s7,Z,hl=>by
  have gg:gN 7 (.int lo) (E9 B k T Y O M (.im s.D) s7 Z)=some (E9 B k T Y O M (.im s.D) (.im (.int lo)) Z):=rfl;have sh:=h.sh;have le:=h.le;obtain⟨V1,u8,e1,l1,i1⟩:=aq7 h B k lo Y O M (s.hi+1-s.lo).toNat s.lo T Z (by omega);have r1:-4611686018427387904<=s.lo:=by omega
  have r2:s.lo<4611686018427387904:=by omega
  have r3:-4611686018427387904<=s.hi+1:=by omega
  have r4:s.hi+1<4611686018427387904:=by omega
  have b:n_8 (E9 B k T Y O M (.im s.D) (.im (.int lo)) Z)=some (.nx (E9 B k (T++V1) Y O M (.im s.D) (.im (.int lo)) u8)):=by simp[n_8,m_7,k_5,r1,r2,r3,r4,e1]
  obtain⟨V2,u7,aa,ih,l2,i2⟩:=aM9 h sm B k Y O M n (lo+1) (T++V1) (.im (.int lo)) u8 (by rw[Qd];omega);refine⟨V1++V2,u7,aa,?_,by rw[Qd];omega,λ r=>?_⟩
  ·rw[show u_8 lo (n+1)=.int lo::u_8 (lo+1) n from rfl,r_5,gg,r_6,b,t_9,ih,Q3]
  ·rw[J1,i1,i2];unfold St.has;constructor
   ·rintro (⟨h1,h2,h3,h4,h5⟩ | ⟨h1,h2,h3,h4⟩)
    ·exact⟨h1,by omega,by omega,h3,by omega,h5⟩
    ·exact⟨h1,by omega,by omega,h4⟩
   ·rintro ⟨h1,h2,h3,h4,h5,h6⟩;by_cases z:r.t=lo
    ·left;exact⟨h1,z,h4,by omega,h6⟩
    ·right;exact⟨h1,by omega,by omega,h4,h5,h6⟩
theorem aX4 {i:Nat} (hi:i<5) {k:Str} (hk:IsK k) (B:Sl) (T:List Th) (Y O M Z z:Sl):tB (e2 dEq (e2 bc6 (eV 1) (e2 a_9 (eV 3) (zI 1))) (e2 dEq (e2 a_9 (eV 3) (zI 0)) (zT "only"))) (E9 B k T (.im (kyD i)) Y O M Z z)=some (aI0 i k,E9 B k T (.im (kyD i)) Y O M Z z):=by
 have c:i=0\/i=1\/i=2\/i=3\/i=4:=by omega
 rcases hk with rfl | rfl | rfl <;> rcases c with rfl | rfl | rfl | rfl | rfl <;> kernel_rfl
theorem aB2 {k:Str} (hk:IsK k) (O:Sl):∀ (B:List Bx) (T:List Th) (s3 s4 s5 s6 Y Z:Sl),(∀ x∈B,x.Ok)->T.length+36*B.length<=1000 ->
  ∃ (V:List Th) (ac ab af aa ae ad:Sl),fGo (gT [3,4,5,6]) f_0 (B.map Bx.D) (E9 O k T s3 s4 s5 s6 Y Z)=some (.nx (E9 O k (T++V) ac ab af aa ae ad))/\V.length<=36*B.length/\∀ r,r∈V↔r.k=k/\∃ x∈B,aI0 x.ki k=true/\x.b<=r.t/\r.t<x.e/\x.s.has r.v
 |[],T,s3,s4,s5,s6,Y,Z,_,_=>⟨[],s3,s4,s5,s6,Y,Z,by rw[Qr];rfl,qj _,λ r=>⟨λ z=>(nomatch z),fun⟨_,x,hx,_⟩=>(nomatch hx)⟩⟩
 |x::B,T,s3,s4,s5,s6,Y,Z,h,hl=>by
  rw[Qc] at hl;have ok:=h x qg;have be:=ok.be;have e6:=ok.e6;have b0:=ok.b0;have sb:=ok.b9;have gg:gT [3,4,5,6] x.D (E9 O k T s3 s4 s5 s6 Y Z)=some (E9 O k T (.im (kyD x.ki)) (.im (.int x.b)) (.im (.int x.e)) (.im x.s.D) Y Z):=rfl;have tt:=aX4 ok.ki hk O T (.im (.int x.b)) (.im (.int x.e)) (.im x.s.D) Y Z;by_cases c:aI0 x.ki k=true
  ·obtain⟨V1,u7,u8,e1,l1,i1⟩:=aM9 ok.s ok.sm O k (.im (kyD x.ki)) (.im (.int x.b)) (.im (.int x.e)) (x.e-x.b).toNat x.b T Y Z (by omega);have r1:-4611686018427387904<=x.b:=by omega
   have r2:x.b<4611686018427387904:=by omega
   have r3:-4611686018427387904<=x.e:=by omega
   have r4:x.e<4611686018427387904:=by omega
   have b:f_0 (E9 O k T (.im (kyD x.ki)) (.im (.int x.b)) (.im (.int x.e)) (.im x.s.D) Y Z)=some (.nx (E9 O k (T++V1) (.im (kyD x.ki)) (.im (.int x.b)) (.im (.int x.e)) (.im x.s.D) u7 u8)):=by unfold f_0;rw[bK1,tt,c];simp[r1,r2,r3,r4,e1]
   obtain⟨V2,v3,v4,v5,v6,v7,v8,ih,l2,i2⟩:=aB2 hk O B (T++V1) (.im (kyD x.ki)) (.im (.int x.b)) (.im (.int x.e)) (.im x.s.D) u7 u8 (λ y M=>h y (qh _ M)) (by rw[Qd];omega);refine⟨V1++V2,v3,v4,v5,v6,v7,v8,?_,by rw[Qd,Qc];omega,λ r=>?_⟩
   ·rw[Qa,r_5,gg,r_6,b,t_9,ih,Q3]
   ·rw[J1,i1,i2];constructor
    ·rintro (⟨h1,h2,h3,h4⟩ | ⟨h1,y,M,q⟩)
     ·exact⟨h1,x,qg,c,h2,by omega,h4⟩
     ·exact⟨h1,y,qh _ M,q⟩
    ·rintro ⟨h1,y,M,q⟩;rcases qw M with rfl | M
     ·left;exact⟨h1,q.2.1,by omega,q.2.2.2⟩
     ·right;exact⟨h1,y,M,q⟩
  ·have c':aI0 x.ki k=false:=Bool.eq_false_iff.mpr c;have b:f_0 (E9 O k T (.im (kyD x.ki)) (.im (.int x.b)) (.im (.int x.e)) (.im x.s.D) Y Z)=some (.nx (E9 O k T (.im (kyD x.ki)) (.im (.int x.b)) (.im (.int x.e)) (.im x.s.D) Y Z)):=by unfold f_0;rw[bK1,tt,c'];simp
   obtain⟨V2,v3,v4,v5,v6,v7,v8,ih,l2,i2⟩:=aB2 hk O B T (.im (kyD x.ki)) (.im (.int x.b)) (.im (.int x.e)) (.im x.s.D) Y Z (λ y M=>h y (qh _ M)) (by omega);refine⟨V2,v3,v4,v5,v6,v7,v8,?_,by rw[Qc];omega,λ r=>?_⟩
   ·rw[Qa,r_5,gg,r_6,b,t_9,ih]
   ·rw[i2];constructor
    ·rintro ⟨h1,y,M,q⟩;exact⟨h1,y,qh _ M,q⟩
    ·rintro ⟨h1,y,M,q⟩;rcases qw M with rfl | M
     ·exact absurd q.1 c
     ·exact⟨h1,y,M,q⟩
theorem K_1 {k:Str} (hk:IsK k) {B:List Bx} (h:∀ x∈B,x.Ok) (z:B.length<2):∃ T:List Th,e_4 [.lst (B.map Bx.D),.str k]=some (.lst (T.map tD))/\T.length<=36/\∀ r,r∈T↔InB B k r:=by obtain⟨T,Y,v4,O,Z,v7,M,e,l,i⟩:=aB2 hk (.im (.lst (B.map Bx.D))) B [] .no .no .no .no .no .no h (by simp;omega);rw[Yc] at e;have e':fGo (gT [3,4,5,6]) f_0 (B.map Bx.D) [.im (.lst (B.map Bx.D)),.im (.str k),.ow false (.lst []),.no,.no,.no,.no,.no,.no]=_:=e;refine⟨T,?_,by omega,i⟩;generalize B.map Bx.D=X at *;simp[e_4,A_2,List.replicate,e']
theorem bP3 (o:Option Int):dpD (oD o)<=30:=by cases o <;> simp[oD]
theorem bY3 (o o':Option Int):eqD (oD o) (oD o')=decide (o=o'):=by
 cases o with
 |none=>cases o' <;> rfl
 |some m =>
  cases o' with
  |none=>rfl
  |some n=>by_cases h:m=n <;> simp[oD,h]
theorem bg7 (f:Fold) (L R:List Th) (k:Str) (a:Int):vw f (L++R) k a=vw f L k a++vw f R k a:=by unfold vw;rw[Zk,Qy]
theorem fm3 (x:Int) {m:Int} (h:0<m):0<=(x.fdiv 3).fmod m/\(x.fdiv 3).fmod m<m:=⟨Q7 _ h,Ze _ h⟩
theorem bX9 {qs:List Int} (h:4<=qs.length):∃ a b c d r,qs=a::b::c::d::r:=by
 match qs,h with
 |a::b::c::d::r,_=>exact⟨a,b,c,d,r,rfl⟩
theorem aZ2 {qs:List Int} (h:4 ≤ qs.length):∃ (f:Fold) (O:List Int),m_5 (.lst (qL qs)) [.str "f",.str "p"]=some (f.D',.lst (qL O)) ∧ f.ok ∧ qs.length ≤ O.length+4:=by
 obtain⟨q1,Y,z,Z,r,rfl⟩:=bX9 h;have f1:=fm3 q1 (m:=4) (by decide);have f2:=fm3 Y (m:=3) (by decide);have f3:=fm3 z (m:=5) (by decide);have f5:=fm3 z (m:=3) (by decide);have f4:=fm3 Z (m:=4) (by decide);obtain⟨w,aa,ew⟩:=al0 D.str [wC,wS,wM,wL] (i:=(q1.fdiv 3).fmod 4) f1.1 f1.2;have hw:IsW w:=by simpa using aa
 have M:atD [.str wC,.str wS,.str wM,.str wL] ((q1.fdiv 3).fmod 4)=some (.str w):=ew;have c:(Y.fdiv 3).fmod 3=0\/(Y.fdiv 3).fmod 3=1\/(Y.fdiv 3).fmod 3=2:=by omega
 rcases c with c | c | c
 ·have i:atD [.str "fixed",.str "slide",.str "ever"] 0=some (.str "fixed"):=rfl;refine⟨.fixed (1+(z.fdiv 3).fmod 5) w,Z::r,?_,⟨hw,by omega,by omega⟩,by simp only[Qc];omega⟩;show _=some (rowD _ _,_);unfold rowD;simp[m_5,y_9,List.replicate,q3,M,c,i]
 ·have i:atD [.str "fixed",.str "slide",.str "ever"] 1=some (.str "slide"):=rfl;refine⟨.slide (1+(z.fdiv 3).fmod 3+1+(Z.fdiv 3).fmod 4) (1+(z.fdiv 3).fmod 3) w,r,?_,⟨hw,by omega,by omega,by omega,by omega⟩,by simp only[Qc];omega⟩;show _=some (rowD _ _,_);unfold rowD;simp[m_5,y_9,List.replicate,q3,M,c,i,kn3]
 ·have i:atD [.str "fixed",.str "slide",.str "ever"] 2=some (.str "ever"):=rfl;refine⟨.ever w,z::Z::r,?_,hw,by simp only[Qc];omega⟩;show _=some (rowD _ _,_);unfold rowD;simp[m_5,y_9,List.replicate,q3,M,c,i,kn1,kn2]
theorem bu0 {p q reach:Int}{L R:List Th} (O:Sm L) (z:Sm R):Sm (prL p q reach L R):=λ u Z=>by
 obtain⟨l,M,r,hr,_,_,rfl⟩:=mem_pr.mp Z;obtain⟨a1,a2,Y⟩:=O l M;obtain⟨b1,b2,_⟩:=z r hr;refine⟨?_,?_,Y⟩
 ·show 0<=if r.t > l.t then r.t else l.t
  split <;> omega
 ·show (if r.t > l.t then r.t else l.t)<15;split <;> omega
def xD:Option Th->D
 |none=>.non
 |some u=>tD u
theorem aQ4 {L:List Th} (Y:L.length<=4) (x:Option Th):∃ S:List Th,(∀ u,x=some u->C_7 [.lst (L.map tD++[tD u])]=some (.lst (S.map tD)))/\(x=none->S=L)/\S.Perm (L++x.toList):=by
 cases x with
 |none=>exact⟨L,λ u e=>(nomatch e),λ _=>rfl,by rw[show (none:Option Th).toList=[] from rfl,Qr]⟩
 |some u =>
  obtain⟨S,O,M⟩:=ac3 (L++[u]);have z:=U_3 (L++[u]) (by rw[Qd,Qs];omega);rw[O,Qy] at z;exact⟨S,λ v e=>by cases e;exact z,λ e=>(nomatch e),M⟩
section
variable {f:Fold} (hf:f.ok) (hs:f.word≠wS) {how:Str}{p q:Int} (h:IsH how p q) {reach:Int}{k:Str}{a:Int}{L R:List Th} (lL:L.length<=4) (lR:R.length<=4) (sL:Sm L) (sR:Sm R)
def Mq (f:Fold) (p q reach:Int) (k:Str) (a:Int) (L R:List Th) (x y:Option Th):Prop:=∃ v∈vw f (prL p q reach L y.toList++prL p q reach x.toList (R++y.toList)) k a,Tw f.word (amO f.word (vw f (prL p q reach L R) k a)) v
abbrev Ea (f:Fold) (p q reach:Int) (how:Str) (k:Str) (a:Int) (L R:List Th) (z Y Z O M:Sl):En:=[.im (rowP reach how),.im f.D',.im (.tup [.lst (L.map tD),.lst (R.map tD)]),z,.im (.tup [.str k,.int a]),.im (oD (amO f.word (vw f (prL p q reach L R) k a))),Y,Z,O,M]
include hf hs h lL lR sL sR
theorem aW2 (M:Sl) (x y:Option Th) (hx:∀ u,x=some u->Sm [u]) (hy:∀ u,y=some u->Sm [u]) (s8 s9:Sl) :
  (¬ Mq f p q reach k a L R x y/\∃ ad ac,d_2 (Ea f p q reach how k a L R M (.im (xD x)) (.im (xD y)) s8 s9)=some (.nx (Ea f p q reach how k a L R M (.im (xD x)) (.im (xD y)) ad ac))) \/
  (Mq f p q reach k a L R x y/\∃ ae,d_2 (Ea f p q reach how k a L R M (.im (xD x)) (.im (xD y)) s8 s9)=some (.rt (.bl true) ae)):=by
 obtain⟨S1,a1,a2,a3⟩:=aQ4 lL x;obtain⟨O,Y,Z,b3⟩:=aQ4 lR y;have m1:Sm S1:=λ u hu=>by
  rcases qz (a3.mem_iff.mp hu) with z | z
  ·exact sL u z
  ·cases x with
   |none=>cases z
   |some w=>exact hx w rfl u z
 have m2:Sm O:=λ u hu=>by
  rcases qz (b3.mem_iff.mp hu) with z | z
  ·exact sR u z
  ·cases y with
   |none=>cases z
   |some w=>exact hy w rfl u z
 have xl:x.toList.length<=1:=by cases x <;> simp
 have yl:y.toList.length<=1:=by cases y <;> simp
 have an:=aQ3 f hf h reach (L:=S1) (R:=O) (by rw[a3.length_eq,Qd];omega) (by rw[b3.length_eq,Qd];omega) (bu0 m1 m2) k a;have pm:(prL p q reach S1 O).Perm (prL p q reach L R++(prL p q reach L y.toList++prL p q reach x.toList (R++y.toList))):=by refine (aU2 p q reach a3 b3).trans ?_;rw[bk7,<- Q3];exact List.Perm.append_right _ (at5 p q reach R y.toList L)
 have pv:(vw f (prL p q reach S1 O) k a).Perm (vw f (prL p q reach L R) k a++vw f (prL p q reach L y.toList++prL p q reach x.toList (R++y.toList)) k a):=by rw[<- bg7];exact (pm.filter _).map _
 rw[U_4 pv] at an;have ti:=aD2 (f.isW hf) hs (vw f (prL p q reach L R) k a) (vw f (prL p q reach L y.toList++prL p q reach x.toList (R++y.toList)) k a);have n1:=bP3 (amO f.word (vw f (prL p q reach L R) k a++vw f (prL p q reach L y.toList++prL p q reach x.toList (R++y.toList)) k a));have n2:=bP3 (amO f.word (vw f (prL p q reach L R) k a));have n3:=bY3 (amO f.word (vw f (prL p q reach L R) k a++vw f (prL p q reach L y.toList++prL p q reach x.toList (R++y.toList)) k a)) (amO f.word (vw f (prL p q reach L R) k a));have aa:L.length+1<=sizeLine:=e_2 (by omega);have ab:R.length+1<=sizeLine:=e_2 (by omega);have ev:∀ c:Bool,eqD (oD (amO f.word (vw f (prL p q reach L R) k a++vw f (prL p q reach L y.toList++prL p q reach x.toList (R++y.toList)) k a))) (oD (amO f.word (vw f (prL p q reach L R) k a)))=c->d_2 (Ea f p q reach how k a L R M (.im (xD x)) (.im (xD y)) s8 s9)=some (if c=true then .nx (Ea f p q reach how k a L R M (.im (xD x)) (.im (xD y)) (.im (.lst (S1.map tD))) (.im (.lst (O.map tD)))) else .rt (.bl true) (Ea f p q reach how k a L R M (.im (xD x)) (.im (xD y)) (.im (.lst (S1.map tD))) (.im (.lst (O.map tD))))):=λ c hc=>by
  clear n3 ti pv pm;generalize oD (amO f.word (vw f (prL p q reach L R) k a++vw f (prL p q reach L y.toList++prL p q reach x.toList (R++y.toList)) k a))=N1 at *;unfold Ea;generalize oD (amO f.word (vw f (prL p q reach L R) k a))=N2 at *;generalize f.D'=F at *;generalize rowP reach how=P at *;cases x with
  |none =>
   have a2:=a2 rfl;subst a2;cases y with
   |none =>
    have Z:=Z rfl;subst Z;cases c <;> simp[d_2,xD,m_8,l_4,an,n1,n2,hc]
   |some v =>
    have Y:=Y v rfl;have tv:h_2 (tD v) .non=some (.bl true):=rfl;cases c <;> simp[d_2,xD,m_8,l_4,an,n1,n2,hc,Y,ab,tv]
  |some u =>
   have a1:=a1 u rfl;have tu:h_2 (tD u) .non=some (.bl true):=rfl;cases y with
   |none =>
    have Z:=Z rfl;subst Z;cases c <;> simp[d_2,xD,m_8,l_4,an,n1,n2,hc,a1,aa,tu]
   |some v =>
    have Y:=Y v rfl;have tv:h_2 (tD v) .non=some (.bl true):=rfl;cases c <;> simp[d_2,xD,m_8,l_4,an,n1,n2,hc,a1,aa,tu,Y,ab,tv]
 by_cases c:amO f.word (vw f (prL p q reach L R) k a++vw f (prL p q reach L y.toList++prL p q reach x.toList (R++y.toList)) k a)=amO f.word (vw f (prL p q reach L R) k a)
 ·rw[Qk c] at n3;exact .inl ⟨λ z=>ti.mpr z c,_,_,ev true n3⟩
 ·rw[Qh c] at n3;exact .inr ⟨ti.mp c,_,ev false n3⟩
theorem bn8 (Z:Sl) (x:Option Th) (hx:∀ u,x=some u->Sm [u]):∀ (ys:List (Option Th)),(∀ y∈ys,∀ u,y=some u->Sm [u])->∀ (s7 Y O:Sl),
  ((∀ y∈ys,¬ Mq f p q reach k a L R x y)/\∃ ac ab aa,fGo (gN 7) d_2 (ys.map xD) (Ea f p q reach how k a L R Z (.im (xD x)) s7 Y O)=some (.nx (Ea f p q reach how k a L R Z (.im (xD x)) ac ab aa))) \/
  ((∃ y∈ys,Mq f p q reach k a L R x y)/\∃ M,fGo (gN 7) d_2 (ys.map xD) (Ea f p q reach how k a L R Z (.im (xD x)) s7 Y O)=some (.rt (.bl true) M))
 |[],_,s7,Y,O=>.inl ⟨λ r hr=>(nomatch hr),s7,Y,O,rfl⟩
 |y::ys,hy,s7,Y,O=>by
  have gg:gN 7 (xD y) (Ea f p q reach how k a L R Z (.im (xD x)) s7 Y O)=some (Ea f p q reach how k a L R Z (.im (xD x)) (.im (xD y)) Y O):=rfl;rcases aW2 hf hs h lL lR sL sR (k:=k) (a:=a) (reach:=reach) Z x y hx (hy y qg) Y O with ⟨no,t8,t9,e⟩ | ⟨yes,M,e⟩
  ·rcases bn8 Z x hx ys (λ z hz=>hy z (qh _ hz)) (.im (xD y)) t8 t9 with ⟨h1,u7,u8,u9,h2⟩ | ⟨⟨z,hz,h1⟩,M,h2⟩
   ·exact .inl ⟨λ z hz=>by
     rcases qw hz with rfl | hz
     ·exact no
     ·exact h1 z hz,u7,u8,u9,by rw[Qa,r_5,gg,r_6,e,t_9,h2]⟩
   ·exact .inr ⟨⟨z,qh _ hz,h1⟩,M,by rw[Qa,r_5,gg,r_6,e,t_9,h2]⟩
  ·exact .inr ⟨⟨y,qg,yes⟩,M,by rw[Qa,r_5,gg,r_6,e,ay7]⟩
theorem au5 (T:List Th):T.map tD++[D.non]=(T.map some++[none]).map xD:=by rw[Qy,Zy];rfl
theorem aO2 (T1:D) {T2:List Th} (l2:T2.length<=100) (s2:Sm T2):∀ (xs:List (Option Th)),(∀ x∈xs,∀ u,x=some u->Sm [u])->∀ (s6 M Z Y:Sl),
  ((∀ x∈xs,∀ y∈T2.map some++[none],¬ Mq f p q reach k a L R x y)/\∃ aa ad ac ab,fGo (gN 6) i_4 (xs.map xD) (Ea f p q reach how k a L R (.im (.tup [T1,.lst (T2.map tD)])) s6 M Z Y)=some (.nx (Ea f p q reach how k a L R (.im (.tup [T1,.lst (T2.map tD)])) aa ad ac ab))) \/
  ((∃ x∈xs,∃ y∈T2.map some++[none],Mq f p q reach k a L R x y)/\∃ O,fGo (gN 6) i_4 (xs.map xD) (Ea f p q reach how k a L R (.im (.tup [T1,.lst (T2.map tD)])) s6 M Z Y)=some (.rt (.bl true) O))
 |[],_,s6,M,Z,Y=>.inl ⟨λ r hr=>(nomatch hr),s6,M,Z,Y,rfl⟩
 |x::xs,hx,s6,M,Z,Y=>by
  have gg:gN 6 (xD x) (Ea f p q reach how k a L R (.im (.tup [T1,.lst (T2.map tD)])) s6 M Z Y)=some (Ea f p q reach how k a L R (.im (.tup [T1,.lst (T2.map tD)])) (.im (xD x)) M Z Y):=rfl;have om:=au5 hf hs h lL lR sL sR T2;have sl:T2.length+1<=sizeLine:=e_2 (by omega);have st:∀ M,i_4 (Ea f p q reach how k a L R (.im (.tup [T1,.lst (T2.map tD)])) (.im (xD x)) M Z Y)=fGo (gN 7) d_2 ((T2.map some++[none]).map xD) (Ea f p q reach how k a L R (.im (.tup [T1,.lst (T2.map tD)])) (.im (xD x)) M Z Y):=λ M=>by
   rw[<- om];simp[i_4,l_4,sl]
  rcases bn8 hf hs h lL lR sL sR (k:=k) (a:=a) (reach:=reach) (.im (.tup [T1,.lst (T2.map tD)])) x (hx x qg) (T2.map some++[none]) (λ y hy u e=>by
   rcases qz hy with hy | hy
   ·obtain⟨v,hv,rfl⟩:=List.mem_map.mp hy;cases e;exact λ z hz=>by rw[List.mem_singleton.mp hz];exact s2 _ hv
   ·rw[List.mem_singleton.mp hy] at e;cases e) M Z Y with ⟨no,t7,t8,t9,e⟩ | ⟨yes,O,e⟩
  ·rcases aO2 T1 l2 s2 xs (λ z hz=>hx z (qh _ hz)) (.im (xD x)) t7 t8 t9 with ⟨h1,u6,u7,u8,u9,h2⟩ | ⟨⟨z,hz,h1⟩,O,h2⟩
   ·exact .inl ⟨λ z hz=>by
     rcases qw hz with rfl | hz
     ·exact no
     ·exact h1 z hz,u6,u7,u8,u9,by rw[Qa,r_5,gg,r_6,st,e,t_9,h2]⟩
   ·exact .inr ⟨⟨z,qh _ hz,h1⟩,O,by rw[Qa,r_5,gg,r_6,st,e,t_9,h2]⟩
  ·exact .inr ⟨⟨x,qg,yes⟩,O,by rw[Qa,r_5,gg,r_6,st,e,ay7]⟩
omit hf hs h lL lR sL sR in
theorem bD0 {T1 T2:List Th}:(∃ x∈T1.map some++[none],∃ y∈T2.map some++[none],Mq f p q reach k a L R x y)↔Mv f p q reach k a L R T1 T2:=by
 have vm:∀ (N:List Th) (v:Int),v∈vw f N k a↔∃ u∈N,u.k=k/\inW f a u.t/\u.v=v:=λ N v=>by
  unfold vw;rw[List.mem_map];exact⟨λ Y=>by obtain⟨u,M,e⟩:=Y;obtain⟨h1,h2⟩:=List.mem_filter.mp M;exact⟨u,h1,(Q1 h2).1,(Q1 h2).2,e⟩,fun⟨u,M,h1,h2,e⟩=>⟨u,List.mem_filter.mpr ⟨M,Qk ⟨h1,h2⟩⟩,e⟩⟩
 have om:∀ (T:List Th) (x:Option Th),x∈T.map some++[none]->∀ u∈x.toList,u∈T:=λ T x O u M=>by
  rcases qz O with z | z
  ·obtain⟨v,hv,rfl⟩:=List.mem_map.mp z;rw[List.mem_singleton.mp M];exact hv
  ·rw[List.mem_singleton.mp z] at M;cases M
 constructor
 ·rintro ⟨x,O,y,hy,v,hv,ht⟩;obtain⟨u,M,h1,h2,rfl⟩:=(vm _ v).mp hv;rcases qz M with M | M
  ·obtain⟨l,hl,r,hr,e1,e2,rfl⟩:=mem_pr.mp M;exact⟨l,r,.inr ⟨hl,om T2 y hy r hr⟩,e1,e2,h1,h2,ht⟩
  ·obtain⟨l,hl,r,hr,e1,e2,rfl⟩:=mem_pr.mp M;refine⟨l,r,.inl ⟨om T1 x O l hl,?_⟩,e1,e2,h1,h2,ht⟩;rcases qz hr with hr | hr
   ·exact .inr hr
   ·exact .inl (om T2 y hy r hr)
 ·rintro ⟨l,r,aa,e1,e2,e3,e4,e5⟩;have fin:∀ x∈T1.map some++[none],∀ y∈T2.map some++[none],pr p q l r∈prL p q reach L y.toList++prL p q reach x.toList (R++y.toList)->∃ x∈T1.map some++[none],∃ y∈T2.map some++[none],Mq f p q reach k a L R x y:=λ x O y hy hm=>⟨x,O,y,hy,(pr p q l r).v,(vm _ _).mpr ⟨_,hm,e3,e4,rfl⟩,e5⟩
  have Z:∀ {T:List Th}{u:Th},u∈T->some u∈T.map some++[none]:=λ h=>qp _ (Za h);have nn:∀ {T:List Th},(none:Option Th)∈T.map some++[none]:=qo _ (List.mem_singleton.mpr rfl);have me:∀ u:Th,u∈(some u).toList:=λ u=>List.mem_singleton.mpr rfl;rcases aa with ⟨h1,h2 | h2⟩ | ⟨h1,h2⟩
  ·exact fin _ (Z h1) _ (Z h2) (qo _ (mem_pr.mpr ⟨l,me l,r,qo _ (me r),e1,e2,rfl⟩))
  ·exact fin _ (Z h1) _ nn (qo _ (mem_pr.mpr ⟨l,me l,r,qp _ h2,e1,e2,rfl⟩))
  ·exact fin _ nn _ (Z h2) (qp _ (mem_pr.mpr ⟨l,h1,r,me r,e1,e2,rfl⟩))
theorem aG7 {T1 T2:List Th} (l1:T1.length<=100) (l2:T2.length<=100) (s1:Sm T1) (s2:Sm T2):∃ z:Bool,l_1 [rowP reach how,f.D',.tup [.lst (L.map tD),.lst (R.map tD)],.tup [.lst (T1.map tD),.lst (T2.map tD)],.tup [.str k,.int a]]=some (.bl z)/\(z=true↔Mv f p q reach k a L R T1 T2):=by
 have Y:=aQ3 f hf h reach (L:=L) (R:=R) (by omega) (by omega) (bu0 sL sR) k a;have om:=au5 hf hs h lL lR sL sR T1;have O:T1.length+1<=sizeLine:=e_2 (by omega);have Z:=aO2 hf hs h lL lR sL sR (k:=k) (a:=a) (reach:=reach) (.lst (T1.map tD)) l2 s2 (T1.map some++[none]) (λ y M u e=>by
   rcases qz M with M | M
   ·obtain⟨v,hv,rfl⟩:=List.mem_map.mp M;cases e;exact λ z hz=>by rw[List.mem_singleton.mp hz];exact s1 _ hv
   ·rw[List.mem_singleton.mp M] at e;cases e) .no .no .no .no
 rw[<- om] at Z;rw[<- bD0];rcases Z with ⟨no,u6,u7,u8,u9,e⟩ | ⟨yes,ρ',e⟩
 ·refine⟨false,?_,λ z=>(nomatch z),fun⟨x,hx,y,M,z⟩=>absurd z (no x hx y M)⟩;have e':fGo (gN 6) i_4 (T1.map tD++[.non]) [.im (rowP reach how),.im f.D',.im (.tup [.lst (L.map tD),.lst (R.map tD)]),.im (.tup [.lst (T1.map tD),.lst (T2.map tD)]),.im (.tup [.str k,.int a]),.im (oD (amO f.word (vw f (prL p q reach L R) k a))),.no,.no,.no,.no]=_:=e;generalize oD (amO f.word (vw f (prL p q reach L R) k a))=N at *;generalize f.D'=F at *;generalize rowP reach how=P at *;simp[l_1,B_2,List.replicate,m_8,l_4,Y,O,e']
 ·refine⟨true,?_,λ _=>yes,λ _=>rfl⟩;have e':fGo (gN 6) i_4 (T1.map tD++[.non]) [.im (rowP reach how),.im f.D',.im (.tup [.lst (L.map tD),.lst (R.map tD)]),.im (.tup [.lst (T1.map tD),.lst (T2.map tD)]),.im (.tup [.str k,.int a]),.im (oD (amO f.word (vw f (prL p q reach L R) k a))),.no,.no,.no,.no]=_:=e;generalize oD (amO f.word (vw f (prL p q reach L R) k a))=N at *;generalize f.D'=F at *;generalize rowP reach how=P at *;simp[l_1,B_2,List.replicate,m_8,l_4,Y,O,e']
end
noncomputable section
theorem aw4:bd3=au1 t_law:=rfl
end
theorem bH5:∀ x:List Th,U_8 (x.map tD)<=1
 |[]=>by decide
 |a::r=>by
  have:=bH5 r;rw[Qa,C_2];have:dpD (tD a)=1:=rfl;omega
theorem ar8:∀ x:List Th,D_2 (x.map tD) (x.map tD)=true
 |[]=>by simp
 |a::r=>by rw[Qa,ay9,ar8 r];simp[tD]
theorem bo6 (i:Nat):dpD (kyD i)<=2/\eqD (kyD i) (kyD i)=true:=by
 match i with
 |0=>exact⟨by decide,by kernel_rfl⟩
 |1=>exact⟨by decide,by kernel_rfl⟩
 |2=>exact⟨by decide,by kernel_rfl⟩
 |3=>exact⟨by decide,by kernel_rfl⟩
 |i+4=>exact⟨by show dpD (.tup [.str ac1,.tup [.str kC]])<=2;decide,by show eqD (.tup [.str ac1,.tup [.str kC]]) (.tup [.str ac1,.tup [.str kC]])=true;kernel_rfl⟩
theorem dpb:∀ x:List Bx,U_8 (x.map Bx.D)<=3
 |[]=>by decide
 |a::r=>by
  have:=dpb r;have:=(bo6 a.ki).1;rw[Qa,C_2];have:dpD a.D<=3:=by simp;omega
  omega
theorem ar9:∀ x:List Bx,D_2 (x.map Bx.D) (x.map Bx.D)=true
 |[]=>by simp
 |a::r=>by rw[Qa,ay9,ar9 r];simp[(bo6 a.ki).2]
noncomputable def Fold.setW:Fold->Str->Fold
 |.ever _,w=>.ever w
 |.fixed s _,w=>.fixed s w
 |.slide wd s _,w=>.slide wd s w
theorem aS5 {f:Fold} (h:f.ok) {w:Str} (z:IsW w):(f.setW w).ok/\(f.setW w).word=w:=by
 cases f with
 |ever _=>exact⟨z,rfl⟩
 |fixed s _=>exact⟨⟨z,h.2⟩,rfl⟩
 |slide wd s _=>exact⟨⟨z,h.2⟩,rfl⟩
theorem aI3 (f:Fold) (w:Str):∃ kind rest z,f.D'=.tup [.str kind,.str "f",.tup [.str "p"],.tup rest] ∧ (f.setW w).D'=.tup [.str kind,.str "f",.tup [.str "p"],.tup (z++[.str w])] ∧ aC5 rest none (some (-1))=z ∧ atD rest (-1)=some (.str f.word) ∧ ¬ (U_9 rest.length 0 none=0 ∧ U_9 rest.length rest.length (some (-1))=rest.length) ∧ z.length ≤ 2:=by
 cases f with
 |ever _=>exact⟨_,_,[],rfl,rfl,rfl,rfl,by simp;decide,by simp⟩
 |fixed s _=>exact⟨_,_,[.int s],rfl,rfl,rfl,rfl,by simp;decide,by simp⟩
 |slide wd s _=>exact⟨_,_,[.int wd,.int s],rfl,rfl,rfl,rfl,by simp;decide,by simp⟩
abbrev E12 (sc:Sl) (qs:List Int) (f:Fold) (reach:Int) (how:Str) (L R:List Th) (B C:List Bx) (k:Str) (a:Int) (O z M:Sl):En:=[sc,.ow false (.lst (qL qs)),.im f.D',.im (rowP reach how),.im (worksD (rowP reach how) f.D'),.im (.tup [.lst (L.map tD),.lst (R.map tD)]),.im (.tup [.lst (B.map Bx.D),.lst (C.map Bx.D)]),.im (.str k),.im (.int a),O,z,M]
theorem bu2 {L:List Th} (O:∀ u∈L,Gd u):Sm L:=λ u M=>⟨(O u M).t0,by have:=(O u M).t8;omega,by rcases (O u M).k with z | z;exact .inl z;exact .inr (.inl z)⟩
theorem bu1 {B:List Bx} (hB:∀ x∈B,x.Ok) {k:Str} (hk:IsK k) {T:List Th} (m:∀ r,r∈T↔InB B k r):Sm T:=λ r hr=>by
 obtain⟨e,x,z,_,h1,h2,_⟩:=(m r).mp hr;have ok:=hB x z;have:=ok.b0;have:=ok.b9;have:=ok.e6;exact⟨by omega,by omega,by rw[e];exact hk⟩
theorem ar3 {f:Fold} (hf:f.ok) (hs:f.word≠wS) {how:Str}{p q:Int} (h:IsH how p q) {reach:Int} (hr:0<=reach) {L R:List Th} (lL:L.length<=4) (lR:R.length<=4) (hL:∀ u∈L,Gd u) (hR:∀ u∈R,Gd u) {B C:List Bx} (hB:∀ x∈B,x.Ok) (hC:∀ x∈C,x.Ok) (lB:B.length<2) (lC:C.length<2) {k:Str} (hk:IsK k) {a:Int} (ha:Win f a) (sc:Sl) (qs:List Int):fnA (t_law (E12 sc qs f reach how L R B C k a .no .no .no))=some (.bl true):=by
 obtain⟨T1,ab,l1,m1⟩:=K_1 hk hB lB;obtain⟨T2,Z,l2,m2⟩:=K_1 hk hC lC;obtain⟨z,et,hz⟩:=aR5 hf hs h hr hk ha lL lR (λ u hu=>(hL u hu).t0) (λ u hu=>(hR u hu).t0) hB hC (by omega) (by omega) m1 m2;obtain⟨y,em,hy⟩:=aG7 hf hs h lL lR (bu2 hL) (bu2 hR) (k:=k) (a:=a) (reach:=reach) (T1:=T1) (T2:=T2) (by omega) (by omega) (bu1 hB hk m1) (bu1 hC hk m2);have zy:y=z:=by rw[J4,hz,hy]
 subst zy;have O:L.length<=sizeLine:=e_2 (by omega);have aa:R.length<=sizeLine:=e_2 (by omega);have Y:B.length<=sizeLine:=e_2 (by omega);have M:C.length<=sizeLine:=e_2 (by omega);have d1:=bH5 L;have d2:=bH5 R;have d3:=dpb B;have d4:=dpb C;have t1:tOr (tNot (tV (eTy .bool (eV 10)))) (tB (e2 dNe (eV 9) (e_1 (aC (eV 5) (aC (eV 6) aN))))) (E12 sc qs f reach how L R B C k a (.im (.tup [.tup [.lst (L.map tD),.lst (R.map tD)],.tup [.lst (B.map Bx.D),.lst (C.map Bx.D)]])) (.im (.bl y)) .no)=some (false,E12 sc qs f reach how L R B C k a (.im (.tup [.tup [.lst (L.map tD),.lst (R.map tD)],.tup [.lst (B.map Bx.D),.lst (C.map Bx.D)]])) (.im (.bl y)) .no):=by
  have q1:max (U_8 (L.map tD)) (max (U_8 (R.map tD)) (max (U_8 (B.map Bx.D)) (U_8 (C.map Bx.D))))<=27:=by omega
  have r1:=ar8 L;have r2:=ar8 R;have r3:=ar9 B;have r4:=ar9 C;simp[r1,r2,r3,r4,q1]
 unfold E12 at t1 ⊢;generalize f.D'=F at *;generalize rowP reach how=P at *;simp[-bT1,t_law,O,aa,Y,M,m_8,l_4,et,t1,ab,Z,em]
theorem ap1 (ns:List Int):∃ c:Int,g_7 [.lst (ns.map .int),.int 0]=some (.int c):=by
 cases ns with
 |nil=>exact⟨0,by simp[g_7,w_4]⟩
 |cons x r =>
  have a:atD ((x::r).map D.int) 0=some (.int x):=by unfold atD dPl;rw[if_pos (by decide),if_pos (by simp)];rfl
  have h:(0:Int)<((x::r).length:Int):=by rw[Qc];omega
  generalize M:(x::r).map D.int=X at *;have z:X.length=(x::r).length:=by rw[<- M,Qg]
  exact⟨x,by simp[g_7,w_4,a,z,h]⟩
theorem d43:¬ (U_9 4 0 none=0/\U_9 4 4 (some 3)=4):=by decide
theorem ca2 (a b c d:D):aC5 [a,b,c,d] none (some 3)=[a,b,c]:=rfl
theorem law_true (ns:List Int) (hl:ns.length<=63):av9 [.lst (ns.map .int)]=some (.bl true):=by
 obtain⟨c,ec⟩:=ap1 ns;obtain⟨qs,es,lq⟩:=ar6 c;obtain⟨f,ai,ef,hf,l1⟩:=aZ2 (qs:=qs) (by omega);obtain⟨q0,r0,rfl⟩:=Zs (l:=ai) (λ z=>by rw[z] at l1;simp at l1;omega);rw[Qc] at l1;obtain⟨O,Y,ab,aj,ae,key⟩:∃ (O:Fold) (Y:List Int),O.ok/\O.word≠wS/\r0.length<=Y.length/\∀ R:FS,fnA (au1 R [.im (.lst (ns.map .int)),.no,.no,.no,.no,.no,.no,.no,.no,.no,.no,.no])=fnA (O_7 R [.im (.lst (ns.map .int)),.ow false (.lst (qL Y)),.im O.D',.no,.no,.no,.no,.no,.no,.no,.no,.no]):=by
  by_cases hw:f.word=wS
  ·have f3:=fm3 q0 (m:=3) (by decide);obtain⟨w,ah,ew⟩:=al0 D.str [wC,wM,wL] (i:=(q0.fdiv 3).fmod 3) f3.1 f3.2;have ad:atD [.str wC,.str wM,.str wL] ((q0.fdiv 3).fmod 3)=some (.str w):=ew;have iw:IsW w/\w≠wS:=by
    have:w=wC\/w=wM\/w=wL:=by simpa using ah
    rcases this with rfl | rfl | rfl
    ·exact⟨.inl rfl,by rw[Ne,n1];exact id⟩
    ·exact⟨.inr (.inr (.inl rfl)),by rw[Ne,n5];exact id⟩
    ·exact⟨.inr (.inr (.inr rfl)),by rw[Ne,n8];exact id⟩
   obtain⟨so,sw⟩:=aS5 hf iw.1;obtain⟨kind,rest,af,M,w2,w3,w4,w5,w6⟩:=aI3 f w;refine⟨f.setW w,r0,so,by rw[sw];exact iw.2,qj _,λ R=>?_⟩;rw[M] at ef;rw[w2];rw[hw] at w4;have c1:af.length<=999:=by omega
   simp[au1,O_7,ec,es,ef,k_3,w4,d43,ca2,w5,w3,q3,ad,c1]
  ·obtain⟨kind,rest,M,w2,_⟩:=x_7 f;have i3:a_9 f.D' (.int 3)=some (.tup rest):=by rw[M];rfl
   refine⟨f,q0::r0,hf,hw,by simp,λ R=>?_⟩;generalize f.D'=F at *;simp[au1,O_7,ec,es,ef,i3,w2,hw]
 obtain⟨qa,qb,r1,rfl⟩:∃ a b r,Y=a::b::r:=by
  match Y,show 2<=Y.length by omega with
  |a::b::r,_=>exact⟨a,b,r,rfl⟩
 simp only[Qc] at ae;have f5:=fm3 qa (m:=5) (by decide);have f4:=fm3 qb (m:=4) (by decide);obtain⟨how,p,q,eh,ih⟩:=bq4 f4.1 f4.2;obtain⟨L,q2,eL,lL,l3,hL⟩:=V_4 (qs:=r1) (by omega);obtain⟨R,ag,eR,lR,l4,hR⟩:=V_4 (qs:=q2) (by omega);obtain⟨B,q4,eB,lB,l5,hB⟩:=ak5 (qs:=ag) (by omega);obtain⟨C,q5,eC,lC,l6,hC⟩:=ak5 (qs:=q4) (by omega);obtain⟨qx,qy,r,rfl⟩:∃ a b r,q5=a::b::r:=by
  match q5,show 2<=q5.length by omega with
  |a::b::r,_=>exact⟨a,b,r,rfl⟩
 have g3:=fm3 qx (m:=3) (by decide);have g4:=fm3 qy (m:=5) (by decide);obtain⟨k,ac,ek⟩:=al0 D.str [kA,kB,kZ] (i:=(qx.fdiv 3).fmod 3) g3.1 g3.2;have hk:IsK k:=by unfold IsK;simpa using ac
 have aa:atD [.str kA,.str kB,.str kZ] ((qx.fdiv 3).fmod 3)=some (.str k):=ek;have T:∀ a:Int,Win O a->fnA (t_law (E12 (.im (.lst (ns.map .int))) r O ((qa.fdiv 3).fmod 5) how L R B C k a .no .no .no))=some (.bl true):=λ a ha=>ar3 ab aj ih f5.1 (by omega) (by omega) hL hR hB hC lB lC hk ha _ _;show fnA (bd3 _)=_;rw[aw4];show fnA (au1 t_law [.im (.lst (ns.map .int)),.no,.no,.no,.no,.no,.no,.no,.no,.no,.no,.no])=_;rw[key];generalize t_law=Rst at T;obtain⟨kind,rest,M,_,_⟩:=x_7 O;have i0:a_9 O.D' (.int 0)=some (.str kind):=by rw[M];rfl
 by_cases c1:kind=Str.ofString "ever"
 ·have Z:=T 0 ⟨Qv _,λ w e=>rfl⟩;unfold E12 at Z;generalize O.D'=F at *;simp[O_7,q3,eh,eL,eR,eB,eC,aa,i0,c1,Z]
 ·have Z:=T ((qy.fdiv 3).fmod 5) ⟨g4.1,λ w e=>absurd (by subst e;have M:rowD (Str.ofString "ever") [.str w]=rowD kind rest:=M;unfold rowD at M;injection M with M;injection M with M _;injection M with M;exact M.symm) c1⟩;unfold E12 at Z;generalize O.D'=F at *;simp[O_7,q3,eh,eL,eR,eB,eC,aa,i0,c1,Z]
end Fx
namespace Fx
open PySem PySem.Spec PyProof.Rows L2
theorem V_8 {K:Frag}{H:Hp}:∀ ns:List Int,Reps K H (ns.map D.int) (ns.map V.int)
 |[]=>Reps.nil_
 |n::r=>Reps.cons (g_0 H n) (V_8 r)
theorem usN {P:List Value->Prop} (h:P []):∀ us:List Value,us.length=0->P us:=by
 intro us e;cases us with
 |nil=>exact h
 |cons=>cases e
theorem usS {P:List Value->Prop}{n:Nat} (h:∀ x t,t.length=n->P (x::t)):∀ us:List Value,us.length=n+1->P us:=by
 intro us e;cases us with
 |nil=>cases e
 |cons x t=>exact h x t (Nat.succ.inj e)
theorem us1 {P:List Value->Prop} (h:∀ z,P [z]):∀ us:List Value,us.length=1->P us:=usS λ _=>usN (h ..)
theorem us2 {P:List Value->Prop} (h:∀ M z,P [M,z]):∀ us:List Value,us.length=2->P us:=usS λ _=>usS λ _=>usN (h ..)
theorem us3 {P:List Value->Prop} (h:∀ M O z,P [M,O,z]):∀ us:List Value,us.length=3->P us:=usS λ _=>usS λ _=>usS λ _=>usN (h ..)
theorem us4 {P:List Value->Prop} (h:∀ O Y z M,P [O,Y,z,M]):∀ us:List Value,us.length=4->P us:=usS λ _=>usS λ _=>usS λ _=>usS λ _=>usN (h ..)
theorem us5 {P:List Value->Prop} (h:∀ M z Z Y O,P [M,z,Z,Y,O]):∀ us:List Value,us.length=5->P us:=usS λ _=>usS λ _=>usS λ _=>usS λ _=>usS λ _=>usN (h ..)
theorem us6 {P:List Value->Prop} (h:∀ M z a2 Z Y O,P [M,z,a2,Z,Y,O]):∀ us:List Value,us.length=6->P us:=usS λ _=>usS λ _=>usS λ _=>usS λ _=>usS λ _=>usS λ _=>usN (h ..)
abbrev nI (K:Frag) (n:Str) (f:Addr):Prop:=nsIn K mainGlobals n=some (some (.ref f))
abbrev lI (K:Frag) (f:Addr) (n:Str) (s:Stmt) (c:Value) (d:Option Addr) (v w p:Value) (o:Option Addr) (q r:Value) (l:Array (Option Value)):Prop:=K.lookup f=some ⟨c,d,.func (fnOf n n (a_7 s) (a_6 s) (a_0 s) .none v w p o q r),l⟩
abbrev kI (K:Frag) (f:Addr):Prop:=keepIn K (.ref f)=true
theorem all_mk {l:OpenLaw}{w:World}{K:Frag}{h:Heap}{mg:Str → Option Value} (X:K.In h) (G:h.Ns mainGlobals mg) (ru:mg "law"=some (.ref fa))
  {od1 an1:Option Addr}{pw rn zh tf mi w1:Value}
  (a1:nI K "is_key" f1) (l1:lI K f1 "is_key" u_1 pw od1 rn zh tf an1 mi w1 sl1) (c1:codeIn K mi "is_key"=true) (k1:kI K f1)
  {q0 zd:Option Addr}{v8 q4 zr vo ot qu:Value}
  (a2:nI K "keys_hold" f2) (l2:lI K f2 "keys_hold" r_0 v8 q0 q4 zr vo zd ot qu sl2) (c2:codeIn K ot "keys_hold"=true) (k2:kI K f2)
  {p4 wr:Option Addr}{vc xp s1 qx em s8:Value}
  (a3:nI K "keys_meet" f3) (l3:lI K f3 "keys_meet" e_3 vc p4 xp s1 qx wr em s8 sl3) (c3:codeIn K em "keys_meet"=true) (k3:kI K f3)
  {vt xz:Option Addr}{oc4 za qn wq ey p0:Value}
  (a4:nI K "stretch_made" f4) (l4:lI K f4 "stretch_made" j_6 oc4 vt za qn wq xz ey p0 sl4) (c4:codeIn K ey "stretch_made"=true) (k4:kI K f4)
  {ur s4:Option Addr}{se zm uu pe ni ct5:Value}
  (a5:nI K "is_between" f5) (l5:lI K f5 "is_between" p_0 se ur zm uu pe s4 ni ct5 sl5) (c5:codeIn K ni "is_between"=true) (k5:kI K f5)
  {xr w5:Option Addr}{pj sn ub y9 hu vz:Value}
  (a6:nI K "stretch_has" f6) (l6:lI K f6 "stretch_has" m_1 pj xr sn ub y9 w5 hu vz sl6) (c6:codeIn K hu "stretch_has"=true) (k6:kI K f6)
  {rs x5:Option Addr}{tu yi xn vq g9 zb:Value}
  (a7:nI K "lower_bound" f7) (l7:lI K f7 "lower_bound" m_2 tu rs yi xn vq x5 g9 zb sl7) (c7:codeIn K g9 "lower_bound"=true) (k7:kI K f7)
  {u8 zz:Option Addr}{vp kV8 wi wb gg yy:Value}
  (a8:nI K "upper_bound" f8) (l8:lI K f8 "upper_bound" l_8 vp u8 kV8 wi wb zz gg yy sl8) (c8:codeIn K gg "upper_bound"=true) (k8:kI K f8)
  {yz vm:Option Addr}{v3 ui v9 uk jf s7:Value}
  (a9:nI K "stretch_between" f9) (l9:lI K f9 "stretch_between" f_7 v3 yz ui v9 uk vm jf s7 sl9) (c9:codeIn K jf "stretch_between"=true) (k9:kI K f9)
  {eu o0:Option Addr}{lr h3 ih jz an ik:Value}
  (zo:nI K "stretch_above" f10) (sg:lI K f10 "stretch_above" h_6 lr eu h3 ih jz o0 an ik sl10) (yl:codeIn K an "stretch_above"=true) (u9:kI K f10)
  {e0 m8:Option Addr}{dd jl dm my ay m7:Value}
  (wj:nI K "stretch_below" f11) (r6:lI K f11 "stretch_below" h_5 dd e0 jl dm my m8 ay m7 sl11) (c11:codeIn K ay "stretch_below"=true) (yw:kI K f11)
  {j5 ck:Option Addr}{de nc gk ed b0 o1:Value}
  (xj:nI K "stretch_moved" f12) (u3:lI K f12 "stretch_moved" e_6 de j5 nc gk ed ck b0 o1 sl12) (vf:codeIn K b0 "stretch_moved"=true) (pc:kI K f12)
  {oi fx:Option Addr}{io ew on cz bm eq:Value}
  (ph:nI K "divisor_and_factor" f13) (rc:lI K f13 "divisor_and_factor" d_3 io oi ew on cz fx bm eq sl13) (t2:codeIn K bm "divisor_and_factor"=true) (ut:kI K f13)
  {ij ln:Option Addr}{hn fy lb d7 aw cl:Value}
  (vv:nI K "stretch_back" f14) (s9:lI K f14 "stretch_back" j_7 hn ij fy lb d7 ln aw cl sl14) (xi:codeIn K aw "stretch_back"=true) (wl:kI K f14)
  {os eh:Option Addr}{i6 dk dj co be mp:Value}
  (xg:nI K "stretch_meet" f15) (uy:lI K f15 "stretch_meet" j_5 i6 os dk dj co eh be mp sl15) (rr:codeIn K be "stretch_meet"=true) (s3:kI K f15)
  {hg kj:Option Addr}{nj na je fc O j4:Value}
  (xo:nI K "nearest" f16) (r7:lI K f16 "nearest" v_1 nj hg na je fc kj O j4 sl16) (zc:codeIn K O "nearest"=true) (y6:kI K f16)
  {ez iq:Option Addr}{d2 df di hm ai i7:Value}
  (uq:nI K "stretch_some" f17) (p8:lI K f17 "stretch_some" j_4 d2 ez df di hm iq ai i7 sl17) (vx:codeIn K ai "stretch_some"=true) (ud:kI K f17)
  {me l0:Option Addr}{ki ei j9 nl bz dl:Value}
  (rj:nI K "box_made" f18) (su:lI K f18 "box_made" s_9 ki me ei j9 nl l0 bz dl sl18) (pq:codeIn K bz "box_made"=true) (vh:kI K f18)
  {d4 hx:Option Addr}{fm mm n0 ib bn im:Value}
  (wc:nI K "box_has" f19) (pf:lI K f19 "box_has" v_4 fm d4 mm n0 ib hx bn im sl19) (wt:codeIn K bn "box_has"=true) (zv:kI K f19)
  {fb g7:Option Addr}{ft dn lc gy am gz:Value}
  (u7:nI K "box_meet" f20) (t4:lI K f20 "box_meet" s_8 ft fb dn lc gy g7 am gz sl20) (p7:codeIn K am "box_meet"=true) (r1:kI K f20)
  {mn nq:Option Addr}{i2 iu d5 j6 bw g3:Value}
  (pb:nI K "thing_box" f21) (zu:lI K f21 "thing_box" q_6 i2 mn iu d5 j6 nq bw g3 sl21) (x6:codeIn K bw "thing_box"=true) (q6:kI K f21)
  {o2 ia:Option Addr}{ea kx ht oe ba i3:Value}
  (a22:nI K "row_named" f22) (tj:lI K f22 "row_named" q_7 ea o2 kx ht oe ia ba i3 sl22) (ux:codeIn K ba "row_named"=true) (pk:kI K f22)
  {ov ob:Option Addr}{e8 lz f0 jg ah h5:Value}
  (tm:nI K "is_whole" f23) (y5:lI K f23 "is_whole" s_7 e8 ov lz f0 jg ob ah h5 sl23) (rx:codeIn K ah "is_whole"=true) (v0:kI K f23)
  {jp i4:Option Addr}{hy jj ma dq ca nr:Value}
  (zp:nI K "paired_value" f24) (vr:lI K f24 "paired_value" j_8 hy jp jj ma dq i4 ca nr sl24) (r8:codeIn K ca "paired_value"=true) (t0:kI K f24)
  {dz go:Option Addr}{e6 ho nh ka bj ci:Value}
  (wf:nI K "pairs_of" f25) (rp:lI K f25 "pairs_of" s_5 e6 dz ho nh ka go bj ci sl25) (zi:codeIn K bj "pairs_of"=true) (qy:kI K f25)
  {o5 o4:Option Addr}{j7 cr oz i1 bi kc:Value}
  (so:nI K "windows_of" f26) (t7:lI K f26 "windows_of" o_4 j7 o5 cr oz i1 o4 bi kc sl26) (r2:codeIn K bi "windows_of"=true) (sq:kI K f26)
  {et ff:Option Addr}{lq hw ec ge cc il:Value}
  (yt:nI K "amount_of" f27) (u5:lI K f27 "amount_of" r_2 lq et hw ec ge ff cc il sl27) (c27:codeIn K cc "amount_of"=true) (rz:kI K f27)
  {oq g2:Option Addr}{om kw m5 hj cb mc:Value}
  (p6:nI K "window_cells" f28) (xd:lI K f28 "window_cells" f_3 om oq kw m5 hj g2 cb mc sl28) (u0:codeIn K cb "window_cells"=true) (rh:kI K f28)
  {mu m3:Option Addr}{lv mv mo ek ce jb:Value}
  (vu:nI K "fold_cells" f29) (z0:lI K f29 "fold_cells" p_1 lv mu mv mo ek m3 ce jb sl29) (wz:codeIn K ce "fold_cells"=true) (wa:kI K f29)
  {cn jq:Option Addr}{ls gu cu lu bc fv:Value}
  (ym:nI K "told_answer" f30) (l30:lI K f30 "told_answer" m_0 ls cn gu cu lu jq bc fv sl30) (wy:codeIn K bc "told_answer"=true) (x7:kI K f30)
  {cv ly:Option Addr}{nu hv c0 lf ae md:Value}
  (yc:nI K "key_box" f31) (va:lI K f31 "key_box" v_2 nu cv hv c0 lf ly ae md sl31) (t8:codeIn K ae "key_box"=true) (q1:kI K f31)
  {fz o6:Option Addr}{h0 jn dg dx ax ir:Value}
  (s5:nI K "window_box" f32) (rf:lI K f32 "window_box" o_5 h0 fz jn dg dx o6 ax ir sl32) (yj:codeIn K ax "window_box"=true) (q8:kI K f32)
  {lw np:Option Addr}{jv dp fk oj ad jx:Value}
  (wp:nI K "is_cell" f33) (sa:lI K f33 "is_cell" v_3 jv lw dp fk oj np ad jx sl33) (wu:codeIn K ad "is_cell"=true) (sf:kI K f33)
  {fq ji:Option Addr}{ml kr lk e9 ar cj:Value}
  (w6:nI K "check_cell" f34) (v6:lI K f34 "check_cell" p_3 ml fq kr lk e9 ji ar cj sl34) (sr:codeIn K ar "check_cell"=true) (v4:kI K f34)
  {jk jo:Option Addr}{pa kg gc g1 ao g0:Value}
  (ya:nI K "things_in" f35) (x1:lI K f35 "things_in" k_6 pa jk kg gc g1 jo ao g0 sl35) (sh:codeIn K ao "things_in"=true) (sv:kI K f35)
  {iz mr:Option Addr}{jd hd jh m4 av j0:Value}
  (a36:nI K "amount_in" f36) (l36:lI K f36 "amount_in" k_8 jd iz hd jh m4 mr av j0 sl36) (xy:codeIn K av "amount_in"=true) (uj:kI K f36)
  {km ee:Option Addr}{er ef ny dt bh kp:Value}
  (ze:nI K "values_beyond" f37) (po:lI K f37 "values_beyond" h_3 er km ef ny dt ee bh kp sl37) (u1:codeIn K bh "values_beyond"=true) (ws:kI K f37)
  {fl ne:Option Addr}{kn gj mj mf cg da:Value}
  (q9:nI K "turning_values" f38) (yo:lI K f38 "turning_values" d_5 kn fl gj mj mf ne cg da sl38) (xk:codeIn K cg "turning_values"=true) (uz:kI K f38)
  {gh iy:Option Addr}{kq e4 nt lx bf i5:Value}
  (wn:nI K "turned_round" f39) (sb:lI K f39 "turned_round" j_2 kq gh e4 nt lx iy bf i5 sl39) (ua:codeIn K bf "turned_round"=true) (y7:kI K f39)
  {i9 d1:Option Addr}{eg kl fw cm bo n6:Value}
  (uc:nI K "end_beside" f40) (uo:lI K f40 "end_beside" p_2 eg i9 kl fw cm d1 bo n6 sl40) (pg:codeIn K bo "end_beside"=true) (sy:kI K f40)
  {jm m0:Option Addr}{ga hb ow nv a0 g8:Value}
  (p5:nI K "times_beside" f41) (xf:lI K f41 "times_beside" j_3 ga jm hb ow nv m0 a0 g8 sl41) (rq:codeIn K a0 "times_beside"=true) (zw:kI K f41)
  {cq o7:Option Addr}{ie gs nn mw cd gv:Value}
  (a42:nI K "times_into" f42) (l42:lI K f42 "times_into" o_6 ie cq gs nn mw o7 cd gv sl42) (zx:codeIn K cd "times_into"=true) (w0:kI K f42)
  {ej la:Option Addr}{nk j2 nf ev bt cy:Value}
  (vl:nI K "values_at_ends" f43) (s2:lI K f43 "values_at_ends" d_4 nk ej j2 nf ev la bt cy sl43) (zg:codeIn K bt "values_at_ends"=true) (pl:kI K f43)
  {nz d3:Option Addr}{j1 d9 ic kv bu mz:Value}
  (tn:nI K "values_beside" f44) (qb:lI K f44 "values_beside" h_4 j1 nz d9 ic kv d3 bu mz sl44) (x9:codeIn K bu "values_beside"=true) (xc:kI K f44)
  {gx g6:Option Addr}{mh lp d8 fj bx dh:Value}
  (pm:nI K "values_into" f45) (qv:lI K f45 "values_into" l_7 mh gx lp d8 fj g6 bx dh sl45) (vn:codeIn K bx "values_into"=true) (tz:kI K f45)
  {eo gl:Option Addr}{en ip nb h8 az ko:Value}
  (xu:nI K "turning_two" f46) (v5:lI K f46 "turning_two" l_9 en eo ip nb h8 gl az ko sl46) (w7:codeIn K az "turning_two"=true) (yp:kI K f46)
  {k0 gp:Option Addr}{fe jr eb jw ag j8:Value}
  (a47:nI K "side_near" f47) (vy:lI K f47 "side_near" e_8 fe k0 jr eb jw gp ag j8 sl47) (t3:codeIn K ag "side_near"=true) (ug:kI K f47)
  {ju ii:Option Addr}{i0 gt dw oo bd hc:Value}
  (a48:nI K "turning_twos" f48) (u6:lI K f48 "turning_twos" j_1 i0 ju gt dw oo ii bd hc sl48) (q7:codeIn K bd "turning_twos"=true) (s6:kI K f48)
  {kz lj:Option Addr}{dc gr ig mk aq d0:Value}
  (r4:nI K "still_new" f49) (sx:lI K f49 "still_new" k_7 dc kz gr ig mk lj aq d0 sl49) (x3:codeIn K aq "still_new"=true) (sw:kI K f49)
  {ll kf:Option Addr}{oh gw jc g4 br nw:Value}
  (rm:nI K "cell_rows" f50) (uv:lI K f50 "cell_rows" r_1 oh ll gw jc g4 kf br nw sl50) (c50:codeIn K br "cell_rows"=true) (rg:kI K f50)
  {ol lg:Option Addr}{ix ms j3 i8 bq e5:Value}
  (we:nI K "boxes_turn" f51) (x8:lI K f51 "boxes_turn" p_4 ix ol ms j3 i8 lg bq e5 sl51) (yq:codeIn K bq "boxes_turn"=true) (vj:kI K f51)
  {hl du:Option Addr}{gq h4 fh ox ac cx:Value}
  (r9:nI K "_law_cell_at" f52) (xx:lI K f52 "_law_cell_at" m_3 gq hl h4 fh ox du ac cx sl52) (ro:codeIn K ac "_law_cell_at"=true) (x0:kI K f52)
  {mx gn:Option Addr}{hh ky iw dy bl o8:Value}
  (sd:nI K "_law_stream" f53) (ql:lI K f53 "_law_stream" o_8 hh mx ky iw dy gn bl o8 sl53) (r0:codeIn K bl "_law_stream"=true) (y0:kI K f53)
  {ku ja:Option Addr}{jt o3 dv ld bg gb:Value}
  (rl:nI K "_law_fold" f54) (u2:lI K f54 "_law_fold" s_6 jt ku o3 dv ld ja bg gb sl54) (uw:codeIn K bg "_law_fold"=true) (zf:kI K f54)
  {mb h6:Option Addr}{fu dr kh db bb he:Value}
  (r5:nI K "_law_things" f55) (ra:lI K f55 "_law_things" o_7 fu mb dr kh db h6 bb he sl55) (zy:codeIn K bb "_law_things"=true) (uh:kI K f55)
  {el g5:Option Addr}{gi cw og fg bv mq:Value}
  (q5:nI K "_law_boxes" f56) (w8:lI K f56 "_law_boxes" q_9 gi el cw og fg g5 bv mq sl56) (pi:codeIn K bv "_law_boxes"=true) (wo:kI K f56)
  {oy oa:Option Addr}{kb kk e7 gm cf m9:Value}
  (ts:nI K "_law_in_boxes" f57) (t5:lI K f57 "_law_in_boxes" j_9 kb oy kk e7 gm oa cf m9 sl57) (pu:codeIn K cf "_law_in_boxes"=true) (vg:kI K f57)
  {li m6:Option Addr}{gf ou oc ng ak lh:Value}
  (yf:nI K "_law_answer" f58) (pp:lI K f58 "_law_answer" o_9 gf li ou oc ng m6 ak lh sl58) (si:codeIn K ak "_law_answer"=true) (sm:kI K f58)
  {kd cs:Option Addr}{fi d6 lm iv au h7:Value}
  (ry:nI K "_law_moved" f59) (zk:lI K f59 "_law_moved" q_8 fi kd d6 lm iv cs au h7 sl59) (c59:codeIn K au "_law_moved"=true) (t1:kI K f59)
  {mt al:Option Addr}{ke af as bp z aj:Value}
  (rk:nI K "law" f60) (l60:lI K f60 "law" Q_3 ke mt af as bp al z aj sl60) (um:codeIn K z "law"=true) (sj:kI K f60)
  (y1:nsIn K mainGlobals "LETTERS"=some (some (.str "abcdefghijklmnopqrstuvwxyz" tc1))) (y2:nsIn K mainGlobals "LONGEST"=some (some (.int 8 tc2))) (jy:K.lookup ec3=some ⟨.type "tuple",none,.seq #[.none,.none,.int 1 tec32,.int 0 tec33] nec3,slec3⟩) (y3:nI K "EVERY_VALUE" ec3)
  (eL:O=.ref cL) (hL:PySem.W.codeHdIn K cL L2.TabP=true)
  (ab:K.lookup ed0_0=some ⟨.type "tuple",none,.seq #[.int (1) ted0_0_0,.int (1) ted0_0_1] ned0_0,sled0_0⟩) (Z:K.lookup ed0_1=some ⟨.type "tuple",none,.seq #[.int (1) ted0_1_0,.int (-1) ted0_1_1] ned0_1,sled0_1⟩) (aa:K.lookup ed0_2=some ⟨.type "tuple",none,.seq #[.int (1) ted0_2_0,.int (0) ted0_2_1] ned0_2,sled0_2⟩) (Y:K.lookup ed0_3=some ⟨.type "tuple",none,.seq #[.int (0) ted0_3_0,.int (1) ted0_3_1] ned0_3,sled0_3⟩) (h9:K.lookup ed0=some {cls:=.type "dict",data:=.dict #[⟨PyData.keyHash w.params (Str.ofString "sum"),.str "sum" tk0_0,.ref ed0_0⟩,⟨PyData.keyHash w.params (Str.ofString "less"),.str "less" tk0_1,.ref ed0_1⟩,⟨PyData.keyHash w.params (Str.ofString "left"),.str "left" tk0_2,.ref ed0_2⟩,⟨PyData.keyHash w.params (Str.ofString "right"),.str "right" tk0_3,.ref ed0_3⟩] ned0}) (o9:(ed0==sysModules)=false) (ul:nI K "SHARES" ed0)
  (z1:nsIn K mainGlobals "abs"=some none) (z2:nsIn K mainGlobals "len"=some none) (z3:nsIn K mainGlobals "max"=some none) (z4:nsIn K mainGlobals "min"=some none) (z5:nsIn K mainGlobals "any"=some none) (z6:nsIn K mainGlobals "all"=some none) (z7:nsIn K mainGlobals "range"=some none) (z8:nsIn K mainGlobals "isinstance"=some none) (z9:nsIn K mainGlobals "int"=some none) (ri:nsIn K mainGlobals "bool"=some none) (pz:nsIn K mainGlobals "str"=some none) (wh:nsIn K mainGlobals "tuple"=some none) (yr:nsIn K mainGlobals "list"=some none) (q2:nsIn K mainGlobals "sorted"=some none) (yd:nsIn K mainGlobals "dict"=some none) (yh:nsIn K mainGlobals "set"=some none) (yu:nsIn K mainGlobals "sum"=some none) (wg:nsIn K mainGlobals "zip"=some none) (pd:nsIn K mainGlobals "enumerate"=some none) (tp:nsIn K mainGlobals "reversed"=some none) :
  ∃ fd:FuncData,(∀ (s:Shared) (v:Value),BindsTo s fd ⟨[v],[]⟩ [("_law_script",v)]) ∧ ∀ base:Heap,K.In base → base.Ns mainGlobals mg → FnOk l.prog w K mg base CX0 11 fa fd ["_law_script"] (spP K av9):=by
 have e:=ru.symm.trans (mg_of X G rk);cases e;have M:∀ {x},nsIn K mainGlobals x=some none->mg x=none:=mg_none_of X G;have N:∀ {x v},nsIn K mainGlobals x=some (some v)->mg x=some v:=mg_of X G;have T:Blt w K mg:=⟨M z1,M z2,M z3,M z4,M z5,M z6,M z7,M z8,M z9,M ri,M pz,M wh,M yr,M q2,M yd,M yh,M yu,M wg,M pd,M tp,⟨_,N y1⟩,⟨_,N y2⟩,⟨_,N y3,(Y_5 jy (by simp) (n_9 aO7 (n_9 aO7 (n_9 z_7 (n_9 z_7 J_7)))))⟩,⟨_,N ul,_,_,h9,o9,(.cons (Y_5 ab (by simp) (n_9 z_7 (n_9 z_7 J_7))) (.cons (Y_5 Z (by simp) (n_9 z_7 (n_9 z_7 J_7))) (.cons (Y_5 aa (by simp) (n_9 z_7 (n_9 z_7 J_7))) (.cons (Y_5 Y (by simp) (n_9 z_7 (n_9 z_7 J_7))) .nil)))),by decide⟩⟩;have F1:=b_5 (st:=u_1) l1 c1 k1;have b1:=F1.binds (ps:=["x"]) λ _ _ _ _ _ _=>us1 λ _=>rfl;have F2:=b_5 (st:=r_0) l2 c2 k2;have b2:=F2.binds (ps:=["keys","key"]) λ _ _ _ _ _ _=>us2 λ _ _=>rfl;have F3:=b_5 (st:=e_3) l3 c3 k3;have b3:=F3.binds (ps:=["one","other"]) λ _ _ _ _ _ _=>us2 λ _ _=>rfl;have F4:=b_5 (st:=j_6) l4 c4 k4;have b4:=F4.binds (ps:=["low","high","step","rest"]) λ _ _ _ _ _ _=>us4 λ _ _ _ _=>rfl;have F5:=b_5 (st:=p_0) l5 c5 k5;have b5:=F5.binds (ps:=["v","low","high"]) λ _ _ _ _ _ _=>us3 λ _ _ _=>rfl;have F6:=b_5 (st:=m_1) l6 c6 k6;have b6:=F6.binds (ps:=["one","v"]) λ _ _ _ _ _ _=>us2 λ _ _=>rfl;have F7:=b_5 (st:=m_2) l7 c7 k7;have b7:=F7.binds (ps:=["one","other"]) λ _ _ _ _ _ _=>us2 λ _ _=>rfl;have F8:=b_5 (st:=l_8) l8 c8 k8;have b8:=F8.binds (ps:=["one","other"]) λ _ _ _ _ _ _=>us2 λ _ _=>rfl;have F9:=b_5 (st:=f_7) l9 c9 k9;have b9:=F9.binds (ps:=["one","low","high"]) λ _ _ _ _ _ _=>us3 λ _ _ _=>rfl;have F10:=b_5 (st:=h_6) sg yl u9;have rb:=F10.binds (ps:=["one","c"]) λ _ _ _ _ _ _=>us2 λ _ _=>rfl;have F11:=b_5 (st:=h_5) r6 c11 yw;have vd:=F11.binds (ps:=["one","c"]) λ _ _ _ _ _ _=>us2 λ _ _=>rfl;have F12:=b_5 (st:=e_6) u3 vf pc;have b12:=F12.binds (ps:=["one","a","b"]) λ _ _ _ _ _ _=>us3 λ _ _ _=>rfl;have F13:=b_5 (st:=d_3) rc t2 ut;have zn:=F13.binds (ps:=["a","m"]) λ _ _ _ _ _ _=>us2 λ _ _=>rfl;have F14:=b_5 (st:=j_7) s9 xi wl;have u4:=F14.binds (ps:=["one","a","b"]) λ _ _ _ _ _ _=>us3 λ _ _ _=>rfl;have F15:=b_5 (st:=j_5) uy rr s3;have yv:=F15.binds (ps:=["one","other"]) λ _ _ _ _ _ _=>us2 λ _ _=>rfl;have F16:=b_5 (st:=v_1) r7 zc y6;have yg:=F16.binds (ps:=["values"]) λ _ _ _ _ _ _=>us1 λ _=>rfl;have F17:=b_5 (st:=j_4) p8 vx ud;have zt:=F17.binds (ps:=["one"]) λ _ _ _ _ _ _=>us1 λ _=>rfl;have F18:=b_5 (st:=s_9) su pq vh;have y4:=F18.binds (ps:=["keys","begin","end","stretch"]) λ _ _ _ _ _ _=>us4 λ _ _ _ _=>rfl;have F19:=b_5 (st:=v_4) pf wt zv;have w2:=F19.binds (ps:=["box","thing"]) λ _ _ _ _ _ _=>us2 λ _ _=>rfl;have F20:=b_5 (st:=s_8) t4 p7 r1;have b20:=F20.binds (ps:=["one","other"]) λ _ _ _ _ _ _=>us2 λ _ _=>rfl;have F21:=b_5 (st:=q_6) zu x6 q6;have p3:=F21.binds (ps:=["thing"]) λ _ _ _ _ _ _=>us1 λ _=>rfl;have F22:=b_5 (st:=q_7) tj ux pk;have xh:=F22.binds (ps:=["works","name"]) λ _ _ _ _ _ _=>us2 λ _ _=>rfl;have F23:=b_5 (st:=s_7) y5 rx v0;have up:=F23.binds (ps:=["x"]) λ _ _ _ _ _ _=>us1 λ _=>rfl;have F24:=b_5 (st:=j_8) vr r8 t0;have vb:=F24.binds (ps:=["how","left","right"]) λ _ _ _ _ _ _=>us3 λ _ _ _=>rfl;have F25:=b_5 (st:=s_5) rp zi qy;have wv:=F25.binds (ps:=["row","lefts","rights"]) λ _ _ _ _ _ _=>us3 λ _ _ _=>rfl;have F26:=b_5 (st:=o_4) t7 r2 sq;have w9:=F26.binds (ps:=["row","time"]) λ _ _ _ _ _ _=>us2 λ _ _=>rfl;have F27:=b_5 (st:=r_2) u5 c27 rz;have w4:=F27.binds (ps:=["fold_word","values"]) λ _ _ _ _ _ _=>us2 λ _ _=>rfl;have F28:=b_5 (st:=f_3) xd u0 rh;have ve:=F28.binds (ps:=["row","things"]) λ _ _ _ _ _ _=>us2 λ _ _=>rfl;have F29:=b_5 (st:=p_1) z0 wz wa;have xl:=F29.binds (ps:=["row","things"]) λ _ _ _ _ _ _=>us2 λ _ _=>rfl;have F30:=b_5 (st:=m_0) l30 wy x7;have vi:=F30.binds (ps:=["row","amount"]) λ _ _ _ _ _ _=>us2 λ _ _=>rfl;have F31:=b_5 (st:=v_2) va t8 q1;have yn:=F31.binds (ps:=["key","begin","end"]) λ _ _ _ _ _ _=>us3 λ _ _ _=>rfl;have F32:=b_5 (st:=o_5) rf yj q8;have tw:=F32.binds (ps:=["fold","key","window"]) λ _ _ _ _ _ _=>us3 λ _ _ _=>rfl;have F33:=b_5 (st:=v_3) sa wu sf;have zl:=F33.binds (ps:=["fold","key","window"]) λ _ _ _ _ _ _=>us3 λ _ _ _=>rfl
 have F34:=b_5 (st:=p_3) v6 sr v4;have y8:=F34.binds (ps:=["works","ask","key","window"]) λ _ _ _ _ _ _=>us4 λ _ _ _ _=>rfl;have F35:=b_5 (st:=k_6) x1 sh sv;have vk:=F35.binds (ps:=["box","things"]) λ _ _ _ _ _ _=>us2 λ _ _=>rfl;have F36:=b_5 (st:=k_8) l36 xy uj;have sl:=F36.binds (ps:=["fold","box","things"]) λ _ _ _ _ _ _=>us3 λ _ _ _=>rfl;have F37:=b_5 (st:=h_3) po u1 ws;have wx:=F37.binds (ps:=["fold_word","amount","stretch"]) λ _ _ _ _ _ _=>us3 λ _ _ _=>rfl;have F38:=b_5 (st:=d_5) yo xk uz;have rv:=F38.binds (ps:=["ask_row","fold_word","amount","stretch"]) λ _ _ _ _ _ _=>us4 λ _ _ _ _=>rfl;have F39:=b_5 (st:=j_2) sb ua y7;have v7:=F39.binds (ps:=["two"]) λ _ _ _ _ _ _=>us1 λ _=>rfl;have F40:=b_5 (st:=p_2) uo pg sy;have b40:=F40.binds (ps:=["reach","one","other"]) λ _ _ _ _ _ _=>us3 λ _ _ _=>rfl;have F41:=b_5 (st:=j_3) xf rq zw;have ue:=F41.binds (ps:=["reach","begin","one","other"]) λ _ _ _ _ _ _=>us4 λ _ _ _ _=>rfl;have F42:=b_5 (st:=o_6) l42 zx w0;have uf:=F42.binds (ps:=["reach","begin","left","right"]) λ _ _ _ _ _ _=>us4 λ _ _ _ _=>rfl;have F43:=b_5 (st:=d_4) s2 zg pl;have zj:=F43.binds (ps:=["stretch"]) λ _ _ _ _ _ _=>us1 λ _=>rfl;have F44:=b_5 (st:=h_4) qb x9 xc;have sk:=F44.binds (ps:=["shares","wanted","one","other"]) λ _ _ _ _ _ _=>us4 λ _ _ _ _=>rfl;have F45:=b_5 (st:=l_7) qv vn tz;have t9:=F45.binds (ps:=["how","wanted","left","right"]) λ _ _ _ _ _ _=>us4 λ _ _ _ _=>rfl;have F46:=b_5 (st:=l_9) v5 w7 yp;have tq:=F46.binds (ps:=["pair","begin","wanted","left","right"]) λ _ _ _ _ _ _=>us5 λ _ _ _ _ _=>rfl;have F47:=b_5 (st:=e_8) vy t3 ug;have t6:=F47.binds (ps:=["near","there","ways"]) λ _ _ _ _ _ _=>us3 λ _ _ _=>rfl;have F48:=b_5 (st:=j_1) u6 q7 s6;have s0:=F48.binds (ps:=["ask_row","fold","pair","box","there","ways"]) λ _ _ _ _ _ _=>us6 λ _ _ _ _ _ _=>rfl;have F49:=b_5 (st:=k_7) sx x3 sw;have tr:=F49.binds (ps:=["boxes"]) λ _ _ _ _ _ _=>us1 λ _=>rfl;have F50:=b_5 (st:=r_1) uv c50 rg;have xa:=F50.binds (ps:=["works","ask"]) λ _ _ _ _ _ _=>us2 λ _ _=>rfl;have F51:=b_5 (st:=p_4) x8 yq vj;have wm:=F51.binds (ps:=["works","ask","key","window","there","boxes"]) λ _ _ _ _ _ _=>us6 λ _ _ _ _ _ _=>rfl;have F52:=b_5 (st:=m_3) xx ro x0;have zq:=F52.binds (ps:=["_law_script","_law_k"]) λ _ _ _ _ _ _=>us2 λ _ _=>rfl;have F53:=b_5 (st:=o_8) ql r0 y0;have yk:=F53.binds (ps:=["_law_cell","_law_size"]) λ _ _ _ _ _ _=>us2 λ _ _=>rfl;have F54:=b_5 (st:=s_6) u2 uw zf;have w3:=F54.binds (ps:=["_law_xs","_law_name","_law_below"]) λ _ _ _ _ _ _=>us3 λ _ _ _=>rfl;have F55:=b_5 (st:=o_7) ra zy uh;have ww:=F55.binds (ps:=["_law_xs","_law_most"]) λ _ _ _ _ _ _=>us2 λ _ _=>rfl;have F56:=b_5 (st:=q_9) w8 pi wo;have x4:=F56.binds (ps:=["_law_xs","_law_most","_law_far"]) λ _ _ _ _ _ _=>us3 λ _ _ _=>rfl;have F57:=b_5 (st:=j_9) t5 pu vg;have p9:=F57.binds (ps:=["_law_boxes_here","_law_key"]) λ _ _ _ _ _ _=>us2 λ _ _=>rfl;have F58:=b_5 (st:=o_9) pp si sm;have xm:=F58.binds (ps:=["_law_pair","_law_fold_here","_law_lefts","_law_rights","_law_cell"]) λ _ _ _ _ _ _=>us5 λ _ _ _ _ _=>rfl;have F59:=b_5 (st:=q_8) zk c59 t1;have qa:=F59.binds (ps:=["_law_pair","_law_fold_here","_law_there","_law_news","_law_cell"]) λ _ _ _ _ _ _=>us5 λ _ _ _ _ _=>rfl;have F60:=b_5 (st:=Q_3) l60 um sj;have b60:=F60.binds (ps:=["_law_script"]) λ _ _ _ _ _ _=>us1 λ _=>rfl;refine⟨fnOf "law" "law" (a_7 Q_3) (a_6 Q_3) (a_0 Q_3) .none af as bp al z aj,λ s v=>.of_eq rfl,λ base _ _=>?_⟩;have G1:DefOk l.prog w K mg base 1 "is_key" C_0:=au9 F1 b1 (N a1) T;have G2:DefOk l.prog w K mg base 1 "keys_hold" e_9:=X_4 F2 b2 (N a2) T;have G4:DefOk l.prog w K mg base 1 "stretch_made" a_2:=I_6 F4 b4 (N a4) T;have G5:DefOk l.prog w K mg base 1 "is_between" d_7:=R_9 F5 b5 (N a5) T;have G7:DefOk l.prog w K mg base 1 "lower_bound" c_4:=M_3 F7 b7 (N a7) T;have G8:DefOk l.prog w K mg base 1 "upper_bound" b_2:=L_9 F8 b8 (N a8) T;have G13:DefOk l.prog w K mg base 1 "divisor_and_factor" f_1:=x_9 F13 zn (N ph) T;have G18:DefOk l.prog w K mg base 1 "box_made" b_6:=ad6 F18 y4 (N rj) T;have G22:DefOk l.prog w K mg base 1 "row_named" f_9:=X_0 F22 xh (N a22) T;have G23:DefOk l.prog w K mg base 1 "is_whole" r_4:=ad4 F23 up (N tm) T;have G24:DefOk l.prog w K mg base 1 "paired_value" k_2:=I_8 F24 vb (N zp) T;have G26:DefOk l.prog w K mg base 1 "windows_of" g_4:=R_3 F26 w9 (N so) T;have G27:DefOk l.prog w K mg base 1 "amount_of" c_5:=X_6 F27 w4 (N yt) T;have G39:DefOk l.prog w K mg base 1 "turned_round" c_3:=I_2 F39 v7 (N wn) T;have G49:DefOk l.prog w K mg base 1 "still_new" o_1:=W_8 F49 tr (N r4) T;have G52:DefOk l.prog w K mg base 1 "_law_cell_at" g_7:=M_4 F52 zq (N r9) T;have G53:DefN l.prog w K mg base 1 "_law_stream" i_0:=R_7 F53 yk (N sd) T;have G54:DefB l.prog w K mg base 1 "_law_fold" m_5:=ad3 F54 w3 (N rl) T;have G55:DefB l.prog w K mg base 1 "_law_things" g_6:=R_6 F55 ww (N r5) T;have G57:DefOk l.prog w K mg base 1 "_law_in_boxes" e_4:=I_9 F57 p9 (N ts) T;have G6:DefOk l.prog w K mg base 2 "stretch_has" b_9:=M_2 F6 b6 (N a6) T G5;have G9:DefOk l.prog w K mg base 2 "stretch_between" a_5:=B_8 F9 b9 (N a9) T G7 G4 G8;have G12:DefOk l.prog w K mg base 2 "stretch_moved" b_8:=F_9 F12 b12 (N xj) T G4;have G21:DefOk l.prog w K mg base 2 "thing_box" l_0:=W_7 F21 p3 (N pb) T G18 G4;have G25:DefOk l.prog w K mg base 2 "pairs_of" p_5:=ad2 F25 wv (N wf) T G24;have G28:DefOk l.prog w K mg base 2 "window_cells" k_0:=I_0 F28 ve (N p6) T G27 G26;have G30:DefOk l.prog w K mg base 2 "told_answer" m_4:=M_1 F30 vi (N ym) T G5;have G31:DefOk l.prog w K mg base 2 "key_box" i_9:=am7 F31 yn (N yc) T G18;have G40:DefOk l.prog w K mg base 2 "end_beside" p_7:=S_1 F40 b40 (N uc) T G8;have G50:DefOk l.prog w K mg base 2 "cell_rows" t_3:=X_5 F50 xa (N rm) T G22;have G56:DefB l.prog w K mg base 2 "_law_boxes" i_3:=X_2 F56 x4 (N q5) T G18 G4;have G10:DefOk l.prog w K mg base 3 "stretch_above" c_2:=G_1 F10 rb (N zo) T G9;have G11:DefOk l.prog w K mg base 3 "stretch_below" c_1:=G_0 F11 vd (N wj) T G9;have G14:DefOk l.prog w K mg base 3 "stretch_back" b_0:=I_7 F14 u4 (N vv) T G13 G6 G4;have G16:DefOk l.prog w K mg base 3 "nearest" t_2:=am6 F16 yg (N xo) T ⟨cL,eL,hL⟩;have G19:DefOk l.prog w K mg base 3 "box_has" j_0:=am9 F19 w2 (N wc) T G2 G6;have G29:DefOk l.prog w K mg base 3 "fold_cells" p_6:=S_0 F29 xl (N vu) T G28;have G32:DefOk l.prog w K mg base 3 "window_box" c_0:=R_4 F32 tw (N s5) T G31;have G41:DefOk l.prog w K mg base 3 "times_beside" f_4:=I_3 F41 ue (N p5) T G40
 have G3:DefOk l.prog w K mg base 4 "keys_meet" r_3:=X_3 F3 b3 (N a3) T G2;have G15:DefOk l.prog w K mg base 4 "stretch_meet" b_4:=I_5 F15 yv (N xg) T G14 G9 G12;have G17:DefOk l.prog w K mg base 4 "stretch_some" d_0:=I_4 F17 zt (N uq) T G16 G10 G11;have G33:DefOk l.prog w K mg base 4 "is_cell" l_2:=am8 F33 zl (N wp) T G1 G23 G32;have G35:DefOk l.prog w K mg base 4 "things_in" h_0:=W_6 F35 vk (N ya) T G19;have G37:DefOk l.prog w K mg base 4 "values_beyond" h_7:=F_7 F37 wx (N ze) T G10 G11;have G42:DefOk l.prog w K mg base 4 "times_into" k_9:=R_5 F42 uf (N a42) T G41 G39;have G58:DefOk l.prog w K mg base 4 "_law_answer" i_1:=R_8 F58 xm (N yf) T G29 G25;have G20:DefOk l.prog w K mg base 5 "box_meet" e_7:=ad5 F20 b20 (N u7) T G18 G3 G15 G8;have G34:DefOk l.prog w K mg base 5 "check_cell" p_8:=S_2 F34 y8 (N w6) T G33 G22;have G36:DefOk l.prog w K mg base 5 "amount_in" o_3:=X_7 F36 sl (N a36) T G27 G35;have G38:DefOk l.prog w K mg base 5 "turning_values" d_6:=D_8 F38 rv (N q9) T G10 G11 G9 G30 G37;have G43:DefOk l.prog w K mg base 5 "values_at_ends" g_1:=D_7 F43 zj (N vl) T G17;have G59:DefOk l.prog w K mg base 5 "_law_moved" l_1:=X_1 F59 qa (N ry) T G58;have G44:DefOk l.prog w K mg base 6 "values_beside" d_1:=F_8 F44 sk (N tn) T G14 G15 G17 G43;have G47:DefOk l.prog w K mg base 6 "side_near" o_2:=W_9 F47 t6 (N a47) T G20 G21;have G45:DefOk l.prog w K mg base 7 "values_into" i_2:=L_8 F45 t9 (N pm) T G39 G44;have G46:DefOk l.prog w K mg base 8 "turning_two" g_5:=M_0 F46 tq (N xu) T G42 G45;have G48:DefOk l.prog w K mg base 9 "turning_twos" k_1:=I_1 F48 s0 (N a48) T G36 G18 G25 G47 G35 G46 G38;have G51:DefOk l.prog w K mg base 10 "boxes_turn" l_3:=S_3 F51 wm (N we) T G50 G34 G49 G48 G32;exact bq9 F60 T G56 G52 G54 G57 G59 G53 G55 G51
theorem walk {l:OpenLaw}{q:Program}{M:List Str}{XP:(Str->Option Value)->Heap->Prop}{O:World->Heap->Prop}{d:DefRec}{K:Params->Frag} (hn:l.most=some 63) (aa:d.params.defaults=[])
  (hY:∀ (w:World) (h:Heap),O w h->(K w.params).In h)
  (Y:∀ (w:World) (h:Heap),O w h->h.get? L2.TabP=some (PySem.W.tabObj #[])) (Z:∀ w:World,(K w.params).lookup L2.TabP=none) (hC:∀ w:World,∃ c,PySem.W.codeHdIn (K w.params) c L2.TabP=true)
  (F:∀ (w:World) (mg:Str->Option Value) (fa:Addr) (h:Heap),(K w.params).In h->h.Ns mainGlobals mg->mg d.name=some (.ref fa) ->
   ∃ fd:FuncData,(∀ (s:Shared) (u:Value),BindsTo s fd ⟨[u],[]⟩ [("_law_script",u)]) ∧ ∀ base:Heap,(K w.params).In base → base.Ns mainGlobals mg → FnOk l.prog w (K w.params) mg base CX0 11 fa fd ["_law_script"] (spP (K w.params) av9)) :
  PySem.W.WalkO q M XP O l.row.toRowW d [] (λ f vs=>PySem.call f vs) :=
 L2.walk_of2 (n:=63) (k:=11) (x:="_law_script") (CX:=λ _=>CX0) (sp:=λ w=>spP (K w.params) av9) hn (by decide) aa ⟨rfl,by decide,by decide⟩ hY Y Z hC F
  (λ w H a ns hl hS=>⟨H,[.lst (ns.map .int)],.bl true,Same.refl _,Reps.one (by unfold Rep;exact⟨a,_,rfl,hS,V_8 ns⟩),law_true ns hl,λ v Hi' H' S r=>by unfold Rep at r;exact r⟩) λ _ _ _ _ _ z=>z
end Fx
open PySem PySem.W PyProof.Rows
def PySem.W.Fast.tw14684247288696204142:=0
def PySem.W.Fast.tw6429205837052256985:=0
def PySem.W.Fast.tw15832417550954960941:=0
def PySem.W.Fast.tw8296648104920490574:=0
def PySem.W.Fast.tw12136195819969792637:=0
def PySem.W.Fast.tw4449061775643697748:=0
def PySem.W.Fast.tw559125642255629956:=0
def PySem.W.Fast.tw17693513211566346645:=0
def PySem.W.Fast.tw8396859729789912723:=0
def PySem.W.Fast.tw11329028398148077910:=0
def PySem.W.Fast.tw8789004945211531687:=0
def PySem.W.Fast.tw7641451386393032015:=0
def PySem.W.Fast.tw10655566572428200168:=0
def PySem.W.Fast.tw1998874298301837492:=0
def PySem.W.Fast.tw8380760577319970728:=0
def PySem.W.Fast.tw6024773487837447452:=0
def PySem.W.Fast.tw858789373392902323:=0
def PySem.W.Fast.tw9579381818083088537:=0
def PySem.W.Fast.tw17326352359096144119:=0
def PySem.W.Fast.tw2351900514871288071:=0
def PySem.W.Fast.tw6780943018970089966:=0
def PySem.W.Fast.tw9306681725306890736:=0
def PySem.W.Fast.tw6146115776613967052:=0
def PySem.W.Fast.tw11476365214933227758:=0
def PySem.W.Fast.tw10051503253367793056:=0
def PySem.W.Fast.tw18015508994824088542:=0
def PySem.W.Fast.tw728157690653086388:=0
def PySem.W.Fast.tw17782838469221483280:=0
def PySem.W.Fast.tw10527732580607032889:=0
def PySem.W.Fast.tw10195707947136407825:=0
def PySem.W.Fast.tw1688547196092457185:=0
def PySem.W.Fast.tw10898475912291110800:=0
def PySem.W.Fast.tw15729680815447703105:=0
def PySem.W.Fast.tw13423837507396230574:=0
def PySem.W.Fast.tw11428333373383608373:=0
def PySem.W.Fast.tw14450710522077707460:=0
def PySem.W.Fast.tw9389365786141575460:=0
def PySem.W.Fast.tw8599214171108198973:=0
def PySem.W.Fast.tw2945584042889096907:=0
def PySem.W.Fast.tw2012181264650773284:=0
def PySem.W.Fast.tw11575835449934019765:=0
def PySem.W.Fast.tw9796155948119427259:=0
def PySem.W.Fast.tw2247517126502933865:=0
def PySem.W.Fast.tw6818907023979800167:=0
def PySem.W.Fast.tw16761324903799892030:=0
def PySem.W.Fast.tw9981246991076436558:=0
def PySem.W.Fast.tw16355098261113200907:=0
def PySem.W.Fast.tw2629152069609476083:=0
def PySem.W.Fast.tw5926959588024669349:=0
def PySem.W.Fast.tw418267694011576840:=0
def PySem.W.Fast.tw15919715962497968301:=0
def PySem.W.Fast.tw14472436359673944210:=0
def PySem.W.Fast.tw14612791688732936154:=0
def PySem.W.Fast.tw12865833624877861390:=0
def PySem.W.Fast.tw18363966659379224153:=0
def PySem.W.Fast.tw12211403708877377845:=0
def PySem.W.Fast.tw2083112848948654218:=0
def PySem.W.Fast.tw860974559487251638:=0
def PySem.W.Fast.tw8237747151232078834:=0
def PySem.W.Fast.tw16011105700882644729:=0
def PySem.W.Fast.tw2929164742977800679:=0
def PySem.W.Fast.tw8141314075887836360:=0
def PySem.W.Fast.tw3951502597528851553:=0
def PySem.W.Fast.tw3528734451575158196:=0
def PySem.W.Fast.tw11085048820456290586:=0
def PySem.W.Fast.tw16834460917242324847:=0
def PySem.W.Fast.tw5840972091029610068:=0
def PySem.W.Fast.tw3112870888922207481:=0
def PySem.W.Fast.tw13013110500738930796:=0
def PySem.W.Fast.tw14425194505489701695:=0
def PySem.W.Fast.tw14868385809477300720:=0
def PySem.W.Fast.tw7461090018922053447:=0
def PySem.W.Fast.tw2496740738220837280:=0
def PySem.W.Fast.tw14870521238142365454:=0
def PySem.W.Fast.tw12340283821576361255:=0
def PySem.W.Fast.tw15451078102361301273:=0
def PySem.W.Fast.tw2544982535451050186:=0
def PySem.W.Fast.tw9872727287723788859:=0
def PySem.W.Fast.tw490456086485717296:=0
def PySem.W.Fast.tw7029762002651608432:=0
def PySem.W.Fast.tw17947946935345805249:=0
def PySem.W.Fast.tw13127943109955266095:=0
def PySem.W.Fast.tw7414318186187251919:=0
def PySem.W.Fast.tw16743402835063845942:=0
def PySem.W.Fast.tw17309965110527541514:=0
def PySem.W.Fast.tw924519919924127082:=0
def PySem.W.Fast.tw6895784351485928453:=0
def PySem.W.Fast.tw15882987671719103293:=0
def PySem.W.Fast.tw1714585577942308068:=0
def PySem.W.Fast.tw13704524218447140868:=0
def PySem.W.Fast.tw54607808586077068:=0
def PySem.W.Fast.tw8654927936722471659:=0
def PySem.W.Fast.tw3125408575628086602:=0
def PySem.W.Fast.tw14059787874481560880:=0
def PySem.W.Fast.tw10943723323919594246:=0
def PySem.W.Fast.tw5002595512820763397:=0
def PySem.W.Fast.tw12826647095428091914:=0
def PySem.W.Fast.tw12710247626881695027:=0
def PySem.W.Fast.tw9995637103817965581:=0
def PySem.W.Fast.tw6239324531869216903:=0
def PySem.W.Fast.tw2572808671071651005:=0
def PySem.W.Fast.tw11500189920012342389:=0
def PySem.W.Fast.tw4158992559006393620:=0
def PySem.W.Fast.tw851419509534508183:=0
def PySem.W.Fast.tw3171905139268857209:=0
def PySem.W.Fast.tw13835180424480745037:=0
def PySem.W.Fast.tw3182884118430871896:=0
def PySem.W.Fast.tw2605078002974142241:=0
def PySem.W.Fast.tw7051112584086332420:=0
def PySem.W.Fast.tw13310609634517618178:=0
def PySem.W.Fast.tw16515471565132839857:=0
def PySem.W.Fast.tw16204285476661127404:=0
def PySem.W.Fast.tw12453956697812015645:=0
def PySem.W.Fast.tw2175099986214934576:=0
def PySem.W.Fast.tw16462925654886996721:=0
def PySem.W.Fast.tw11509081333306869106:=0
def PySem.W.Fast.tw16714642666067212411:=0
def PySem.W.Fast.tw12219078218650629279:=0
def PySem.W.Fast.tw13630972896585018249:=0
def PySem.W.Fast.tw8017101617863512729:=0
def PySem.W.Fast.tw5345556373912685299:=0
def PySem.W.Fast.tw16956271314345911389:=0
def PySem.W.Fast.tw6189855038980227838:=0
def PySem.W.Fast.tw12814239926652389156:=0
def PySem.W.Fast.tw14429178813509660860:=0
def PySem.W.Fast.tw7248591098680668606:=0
def PySem.W.Fast.tw15702273167712276300:=0
def PySem.W.Fast.tw11179069253997250020:=0
def PySem.W.Fast.tw12831243772863028378:=0
def PySem.W.Fast.tw8341649893519774546:=0
def PySem.W.Fast.tw396103358380661294:=0
def PySem.W.Fast.tw15592356063328031293:=0
def PySem.W.Fast.tw12356061917831926344:=0
def PySem.W.Fast.tw420039070524670689:=0
def PySem.W.Fast.tw3911450800350311064:=0
def PySem.W.Fast.tw9949308581409948100:=0
def PySem.W.Fast.tw7893143218099422725:=0
def PySem.W.Fast.tw13411769465466624030:=0
def PySem.W.Fast.tw5576814722601159431:=0
def PySem.W.Fast.tw7467763682138613532:=0
def PySem.W.Fast.tw17444982233341891462:=0
def PySem.W.Fast.tw3222404135825836345:=0
def PySem.W.Fast.tw9728743535919080419:=0
def PySem.W.Fast.tw18348060312230809936:=0
def PySem.W.Fast.tw14490863540946046929:=0
def PySem.W.Fast.tw6374911911210368122:=0
def PySem.W.Fast.tw15216115637460776075:=0
def PySem.W.Fast.tw1408382394655906628:=0
def PySem.W.Fast.tw8591268500280347067:=0
def PySem.W.Fast.tw6132749329477374319:=0
def PySem.W.Fast.tw1392319800558140234:=0
def PySem.W.Fast.tw18022197956848809496:=0
def PySem.W.Fast.tw17177168788271726450:=0
def PySem.W.Fast.tw4686025590529450932:=0
def PySem.W.Fast.tw6595963705178781779:=0
def PySem.W.Fast.tw11138139570759061822:=0
def PySem.W.Fast.tw15722006023294962540:=0
def PySem.W.Fast.tw13167330226862839608:=0
def PySem.W.Fast.tw6328406052668537325:=0
def PySem.W.Fast.tw16777531908641961291:=0
def PySem.W.Fast.tw12690619644491199532:=0
def PySem.W.Fast.tw15620029917408378236:=0
def PySem.W.Fast.tw8492821489936787308:=0
def PySem.W.Fast.tw11152802070530910103:=0
def PySem.W.Fast.tw18237613573295384988:=0
def PySem.W.Fast.tw8904306309615983735:=0
def PySem.W.Fast.tw7474324209009406514:=0
def PySem.W.Fast.tw5365242729639641779:=0
def PySem.W.Fast.tw8102715524010474904:=0
def PySem.W.Fast.tw4262913029303823911:=0
def PySem.W.Fast.tw2858939386430746015:=0
def PySem.W.Fast.tw15660980659175613605:=0
def PySem.W.Fast.tw12402953274672171486:=0
def PySem.W.Fast.tw347014164205330522:=0
def PySem.W.Fast.tw5765862101179807653:=0
def PySem.W.Fast.tw2424630013383955513:=0
def PySem.W.Fast.tw9978047789507227836:=0
def PySem.W.Fast.tw10458390883331609961:=0
def PySem.W.Fast.tw9951415406048690953:=0
def PySem.W.Fast.tw6894186942167169401:=0
def PySem.W.Fast.tw15159344347025815620:=0
def PySem.W.Fast.tw15136288969000344256:=0
def PySem.W.Fast.tw13116286799449061099:=0
def PySem.W.Fast.tw10968110831229205962:=0
def PySem.W.Fast.tw9195067649563758786:=0
def PySem.W.Fast.tw10516371731376604300:=0
def PySem.W.Fast.tw5830865288015782166:=0
def PySem.W.Fast.tw342622094214395571:=0
def PySem.W.Fast.tw17300886168968987986:=0
def PySem.W.Fast.tw10481030818058298287:=0
def PySem.W.Fast.tw12567167688871232458:=0
def PySem.W.Fast.tw4466784509648105110:=0
def PySem.W.Fast.tw8324416828477808085:=0
def PySem.W.Fast.tw7919085007444281701:=0
def PySem.W.Fast.tw429255960106999930:=0
def PySem.W.Fast.tw3002449838150734918:=0
def PySem.W.Fast.tw17355537375104853687:=0
def PySem.W.Fast.tw16159614681326669689:=0
def PySem.W.Fast.tw15943692142993863527:=0
def PySem.W.Fast.tw12856987135852261788:=0
set_option maxRecDepth 100000 in
set_option maxHeartbeats 0 in
theorem PySem.Challenge.cw_latewell_k53_pairs_turned_by_boxes_holds : PySem.Challenge.rw_latewell_k53_pairs_turned_by_boxes.Holds := by
 w_on;o_law;k_head;(case hw=>w_witness2)
 k_fill
 refine Fx.walk (l:=PySem.Challenge.rw_latewell_k53_pairs_turned_by_boxes) rfl rfl (λ w h Y=>PySem.W.km_in_of Y) (λ w h Y=>PySem.W.km_tabs_of Y _ (List.mem_singleton.mpr rfl)) (λ w=>by kernel_rfl) (λ w=>⟨120,by kernel_rfl⟩) ?F
 case F =>
  intro w mg fa h KX G hmg;refine' Fx.all_mk KX G hmg ?a1 ?l1 ?c1 ?k1 ?a2 ?l2 ?c2 ?k2 ?a3 ?l3 ?c3 ?k3 ?a4 ?l4 ?c4 ?k4 ?a5 ?l5 ?c5 ?k5 ?a6 ?l6 ?c6 ?k6 ?a7 ?l7 ?c7 ?k7 ?a8 ?l8 ?c8 ?k8 ?a9 ?l9 ?c9 ?k9 ?a10 ?l10 ?c10 ?k10 ?a11 ?l11 ?c11 ?k11 ?a12 ?l12 ?c12 ?k12 ?a13 ?l13 ?c13 ?k13 ?a14 ?l14 ?c14 ?k14 ?a15 ?l15 ?c15 ?k15 ?a16 ?l16 ?c16 ?k16 ?a17 ?l17 ?c17 ?k17 ?a18 ?l18 ?c18 ?k18 ?a19 ?l19 ?c19 ?k19 ?a20 ?l20 ?c20 ?k20 ?a21 ?l21 ?c21 ?k21 ?a22 ?l22 ?c22 ?k22 ?a23 ?l23 ?c23 ?k23 ?a24 ?l24 ?c24 ?k24 ?a25 ?l25 ?c25 ?k25 ?a26 ?l26 ?c26 ?k26 ?a27 ?l27 ?c27 ?k27 ?a28 ?l28 ?c28 ?k28 ?a29 ?l29 ?c29 ?k29 ?a30 ?l30 ?c30 ?k30 ?a31 ?l31 ?c31 ?k31 ?a32 ?l32 ?c32 ?k32 ?a33 ?l33 ?c33 ?k33 ?a34 ?l34 ?c34 ?k34 ?a35 ?l35 ?c35 ?k35 ?a36 ?l36 ?c36 ?k36 ?a37 ?l37 ?c37 ?k37 ?a38 ?l38 ?c38 ?k38 ?a39 ?l39 ?c39 ?k39 ?a40 ?l40 ?c40 ?k40 ?a41 ?l41 ?c41 ?k41 ?a42 ?l42 ?c42 ?k42 ?a43 ?l43 ?c43 ?k43 ?a44 ?l44 ?c44 ?k44 ?a45 ?l45 ?c45 ?k45 ?a46 ?l46 ?c46 ?k46 ?a47 ?l47 ?c47 ?k47 ?a48 ?l48 ?c48 ?k48 ?a49 ?l49 ?c49 ?k49 ?a50 ?l50 ?c50 ?k50 ?a51 ?l51 ?c51 ?k51 ?a52 ?l52 ?c52 ?k52 ?a53 ?l53 ?c53 ?k53 ?a54 ?l54 ?c54 ?k54 ?a55 ?l55 ?c55 ?k55 ?a56 ?l56 ?c56 ?k56 ?a57 ?l57 ?c57 ?k57 ?a58 ?l58 ?c58 ?k58 ?a59 ?l59 ?c59 ?k59 ?a60 ?l60 ?c60 ?k60 ?y1 ?y2 ?lec3 ?y3 ?eL ?hL ?led0_0 ?led0_1 ?led0_2 ?led0_3 ?led0 ?ysd0 ?yd0 ?z1 ?z2 ?z3 ?z4 ?z5 ?z6 ?z7 ?z8 ?z9 ?z10 ?z11 ?z12 ?z13 ?z14 ?z15 ?z16 ?z17 ?z18 ?z19 ?z20
  (case a1 | l1 | c1 | k1 | a2 | l2 | c2 | k2 | a3 | l3 | c3 | k3 | a4 | l4 | c4 | k4 | a5 | l5 | c5 | k5 | a6 | l6 | c6 | k6 | a7 | l7 | c7 | k7 | a8 | l8 | c8 | k8 | a9 | l9 | c9 | k9 | a10 | l10 | c10 | k10 | a11 | l11 | c11 | k11 | a12 | l12 | c12 | k12 | a13 | l13 | c13 | k13 | a14 | l14 | c14 | k14 | a15 | l15 | c15 | k15 | a16 | l16 | c16 | k16 | a17 | l17 | c17 | k17 | a18 | l18 | c18 | k18 | a19 | l19 | c19 | k19 | a20 | l20 | c20 | k20 | a21 | l21 | c21 | k21 | a22 | l22 | c22 | k22 | a23 | l23 | c23 | k23 | a24 | l24 | c24 | k24 | a25 | l25 | c25 | k25 | a26 | l26 | c26 | k26 | a27 | l27 | c27 | k27 | a28 | l28 | c28 | k28 | a29 | l29 | c29 | k29 | a30 | l30 | c30 | k30 | a31 | l31 | c31 | k31 | a32 | l32 | c32 | k32 | a33 | l33 | c33 | k33 | a34 | l34 | c34 | k34 | a35 | l35 | c35 | k35 | a36 | l36 | c36 | k36 | a37 | l37 | c37 | k37 | a38 | l38 | c38 | k38 | a39 | l39 | c39 | k39 | a40 | l40 | c40 | k40 | a41 | l41 | c41 | k41 | a42 | l42 | c42 | k42 | a43 | l43 | c43 | k43 | a44 | l44 | c44 | k44 | a45 | l45 | c45 | k45 | a46 | l46 | c46 | k46 | a47 | l47 | c47 | k47 | a48 | l48 | c48 | k48 | a49 | l49 | c49 | k49 | a50 | l50 | c50 | k50 | a51 | l51 | c51 | k51 | a52 | l52 | c52 | k52 | a53 | l53 | c53 | k53 | a54 | l54 | c54 | k54 | a55 | l55 | c55 | k55 | a56 | l56 | c56 | k56 | a57 | l57 | c57 | k57 | a58 | l58 | c58 | k58 | a59 | l59 | c59 | k59 | a60 | l60 | c60 | k60 | y1 | y2 | y3 | lec3=>(try delta Fx.nI Fx.lI Fx.kI);k_is)
  (case eL=>rfl)
  (case hL=>kernel_rfl)
  (case yd0=>(try delta Fx.nI Fx.lI Fx.kI);k_is)
  (case ysd0=>rfl)
  (case led0 | led0_0 | led0_1 | led0_2 | led0_3 | z1 | z2 | z3 | z4 | z5 | z6 | z7 | z8 | z9 | z10 | z11 | z12 | z13 | z14 | z15 | z16 | z17 | z18 | z19 | z20=>(try delta Fx.nI Fx.lI Fx.kI);k_is)
