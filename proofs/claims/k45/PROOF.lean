import PyProof.Rows.All
import Wide.All
import OpenK.AllK
import Wide.FinOn
import Lean
import PyProof.EqAt
import PyProof.EqKinds
import PyProof.TupleCall
import PySem.Sem
import PySem.Builtin.Int.W1All
import PyProof.StrBlockI
import PyProof.StrBlock2
import KE.KEqDict
import KE.KDictOf
import PyProof.Rows.SortStr
import PyProof.TupleOfSeq
import PyProof.AttrMissHeap
import PyProof.TupleIter
import PyProof.DictUpdate
import PyProof.ListNew
import PyProof.InstStoreFacts
import PyProof.LayNew
import PyProof.ExcInit
import PyProof.ExcClass3
import KE.KSortTup
import KE.KIntText
import PyProof.Rows.StrNews
import PyProof.Rows.StrItems
import PyProof.EnumMake
import PyProof.EnumFor
import PyProof.EnumStmt
import PyProof.EnumIter
import KE.KRevIter
import KE.KDictList
import PyProof.SetKind
import PyProof.DictKinds
import PyProof.SeqWrite
import PyProof.CollectWalk
import PyProof.FactsAll.set_1
import PyProof.FactsAll.set_2
import PyProof.FactsAll.set_3
import PyProof.Rows.SetFrom
import PyProof.Walks
import PyProof.WalksS
import PyProof.FactsAll.tuple_iterator
import PyProof.SetRoads
import PyProof.ZipIter
import PyProof.Rows.TupIter
import PyProof.TupleOfGen
import PyProof.Rows.SumAny
import KE.KDictLaws
import PyProof.Rows.SortWalk
import PyProof.AutoSeq1
import PySem.Challenge.RW_latewell_k45_works_refused
set_option compiler.extract_closed false
set_option genSizeOfSpec false
set_option genSizeOf false
set_option genInjectivity false
set_option Elab.async false
set_option linter.all false
set_option maxRecDepth 100000
set_option maxHeartbeats 4000000
noncomputable section
open PySem.W (Frag nsIn mg_of mg_none_of fnOf codeIn keepIn OpenLaw)
section
open PySem PyProof.Rows
abbrev qb:=@wpAny_bind
abbrev qc:=@wpAny_pure
abbrev qd:=@Heap.get?_push_of_some
abbrev qg:=@List.mem_cons_self
abbrev qh:=@List.mem_cons_of_mem
abbrev qi:=@Option.some.inj
abbrev qj:=@Nat.le_refl
abbrev qk:=@Heap.get?_push_size
abbrev qm:=@Heap.lt_size
abbrev qo:=@List.mem_append_right
abbrev qp:=@List.mem_append_left
abbrev qr:=@Nat.lt_of_lt_of_le
abbrev qt:=@Nat.ne_of_lt
theorem qv(h:a∈b::l):a=b\/a∈l:=List.mem_cons.mp h
theorem qw(h:a∈[b]):a=b:=List.mem_singleton.mp h
theorem qx{a:α}{l k:List α}(h:a∈l++k):a∈l\/a∈k:=List.mem_append.mp h
abbrev qy:=@List.length_map
abbrev zb:=@Array.length_toList
abbrev zc:=@List.length_append
abbrev zd:=@List.map_cons
abbrev ze:=@List.size_toArray
abbrev zf:=@Nat.le_trans
abbrev zg:=@List.length_cons
abbrev zh:=@List.getElem?_set_ne
abbrev zi:=@List.getElem?_set_self
abbrev zj:=@List.mem_cons
abbrev zk:=@List.not_mem_nil
abbrev zl:=@List.getElem?_map
abbrev zm:=@List.append_nil
abbrev zn:=@Bool.and_eq_true
abbrev zo:=@Bool.false_ne_true
abbrev zq:=@List.getElem?_append_left
abbrev zr:=@PySem.wpAny_setState_of
abbrev zt:=@PySem.Heap.get?_update_self
abbrev zu:=@List.map_append
abbrev zv:=@Ne.symm
abbrev zw:=@PySem.wpAny_holding
abbrev zx:=@List.mem_of_getElem?
abbrev zy:=@List.length_set
abbrev zz:=@List.map_nil
abbrev yd:=@List.getElem?_eq_getElem
abbrev ye:=@PySem.wpAny_ite_split
abbrev yf:=@Nat.zero_le
abbrev yg:=@PySem.wpAny_mono
abbrev yh:=@decide_eq_true
abbrev yi:=@List.getElem?_append_right
abbrev yj:=@decide_eq_false
abbrev yk:=@PySem.Heap.get?_update_other
abbrev yn:=@List.length_singleton
abbrev yo:=@Array.getElem?_eq_getElem
abbrev yp:=@or_false
abbrev yq:=@PySem.Heap.SameBut.update
abbrev yr:=@PySem.wpAny_newObj_type
abbrev yt:=@List.append_assoc
abbrev yu:=@Int.fdiv_eq_ediv_of_nonneg
abbrev yv:=@Int.fmod_nonneg_of_pos
abbrev yx:=@List.nodup_nil
abbrev yy:=@List.length_nil
abbrev yz:=@Bool.eq_iff_iff
abbrev y7:=@decide_eq_true_iff
abbrev y8:=@PySem.wpAny_askSetting
abbrev y9:=@PySem.Heap.get?_none_of_le
abbrev ja:=@Int.mul_assoc
abbrev jb:=@List.nodup_append
abbrev jc:=@Int.le_refl
abbrev jd:=@List.length_filter_le
abbrev je:=@Array.getElem?_toList
abbrev jf:=@List.getElem?_take
abbrev jg:=@List.cons_append
abbrev jh:=@Int.emod_lt_of_pos
abbrev ji:=@Nat.lt_irrefl
abbrev jj:=@PySem.Around.under_plainId
abbrev jk:=@PySem.wpAny_truthy_bool
abbrev jm:=@List.nil_append
abbrev jn:=@Int.emod_nonneg
abbrev jo:=@PySem.mem_of_lookup
abbrev jp:=@List.drop_eq_nil_of_le
abbrev jq:=@List.length_take
abbrev jr:=@List.Perm.refl
abbrev jt:=@Int.fmod_lt_of_pos
abbrev ju:=@List.getElem?_eq_none
abbrev jv:=@PySem.codeAny_builtin
abbrev jw:=@PySem.wpAny_field
abbrev jx:=@Int.emod_eq_of_lt
abbrev jy:=@List.isEmpty_iff_length_eq_zero
abbrev jz:=@PySem.wpAny_setEntries_of
abbrev j0:=@PySem.wpAny_call_entry
abbrev j6:=@decide_eq_false_iff_not
abbrev j7:=@PyProof.Rows.boot_tuple
abbrev j8:=@List.lookup_cons
abbrev j9:=@List.getElem?_replicate
abbrev Qa:=@PySem.sizeLine_eq
abbrev Qb:=@Int.mul_sub
abbrev Qc:=@Int.mul_neg
abbrev Qd:=@Nat.lt_of_le_of_lt
abbrev Qg:=@List.take_of_length_le
abbrev Qh:=@Int.mul_comm
abbrev Qi:=@PySem.wpAny_passesOwn
abbrev Qj:=@PySem.wpAny_execs_nil
abbrev Qk:=@congrArg
abbrev Ql:=@List.any_cons
abbrev Qm:=@Int.dvd_trans
abbrev Qn:=@of_decide_eq_true
abbrev Qo:=@PySem.fits_of_scanBound
abbrev Qp:=@Int.toNat_natCast
abbrev Qq:=@Int.natAbs_sub_le
abbrev Qr:=@PySem.wpAny_setField
abbrev Qs:=@List.mem_of_mem_take
abbrev Qt:=@Int.add_mul_emod_self_left
abbrev Qu:=@PySem.codeAny_mono
abbrev Qv:=@Int.natAbs_ediv_le_natAbs
abbrev Qw:=@PyProof.Rows.F.plain_set_update_loop
abbrev Qx:=@PySem.wpAny_standAt
abbrev Qy:=@PySem.plainId_quiet
abbrev Qz:=@Int.mul_ediv_cancel_left
abbrev Q0:=@PySem.putSet_of
abbrev Q5:=@Nat.le_succ
abbrev Q6:=@List.filter_cons_of_pos
abbrev Q7:=@List.filter_cons_of_neg
abbrev Q8:=@PySem.wpAny_storeSet_of
abbrev Q9:=@PySem.wpAny_loadPart_at
abbrev Za:=@Nat.succ_pos
abbrev Zb:=@Nat.le_of_lt
abbrev Zc:=@Int.ne_of_gt
abbrev Zd:=@PySem.Heap.SameBut.refl
abbrev Ze:=@Int.mul_ediv_add_emod
abbrev Zf:=@Bool.beq_eq_decide_eq
abbrev Zg:=@PySem.wpAny_call
abbrev Zh:=@decide_eq_decide
abbrev Zi:=@Nat.le_of_not_lt
abbrev Zj:=@Int.dvd_mul_left
abbrev Zk:=@Array.isEmpty_iff_size_eq_zero
abbrev Zl:=@List.all_cons
abbrev Zm:=@PySem.codeAny_call_builtin
abbrev Zn:=@Int.mul_one
abbrev Zo:=@List.filterMap_cons
abbrev Zp:=@PySem.wpAny_typeOf
abbrev Zq:=@PyProof.Rows.callWith_type1
abbrev Zr:=@Array.getD_eq_getD_getElem?
abbrev Zs:=@PySem.wpAny_Call_Name_kw
abbrev Zt:=@List.perm_ext_iff_of_nodup
abbrev Zu:=@Bool.and_false
abbrev Zv:=@decide_eq_true_eq
abbrev Zw:=@Sum.inr.inj
abbrev Zx:=@Nat.pow_add
abbrev Zy:=@List.take_sublist
abbrev Zz:=@List.ext_getElem?
abbrev Z0:=@PySem.Value.ref.inj
abbrev Z1:=@List.map_take
abbrev Z2:=@Int.pos_of_mul_pos_right
abbrev Z3:=@PySem.wpAny_pyNext_tuple_item
abbrev Z4:=@PySem.wpAny_isInstance
abbrev Z5:=@PySem.wpAny_execs_cons
abbrev Z6:=@Nat.lt_succ_self
abbrev Z7:=@List.map_fst_zip
abbrev Z8:=@PySem.wpAny_pyNext_tuple_end
abbrev Z9:=@PySem.Txt.slice_le
abbrev Ya:=@True.intro
abbrev Yb:=@Nat.zero_add
abbrev Yc:=@Nat.pow_succ
abbrev Yd:=@Nat.ne_of_lt
abbrev Ye:=@Nat.ne_of_gt
abbrev Yf:=@List.set_set
abbrev Yg:=@Array.getElem?_eq_none
abbrev Yh:=@PySem.PassesOwn.never
abbrev Yi:=@List.mem_append
abbrev Yj:=@List.length_zip
abbrev Yk:=@Int.ediv_nonneg
abbrev Yl:=@PySem.builtinLookup_eq_fast
abbrev Ym:=@List.length_replicate
abbrev Yn:=@PySem.wpAny_of_eq
abbrev Yo:=@PySem.wpAny_fieldsOf
abbrev Yp:=@PySem.isSubtype_type
abbrev Yq:=@Nat.pow_lt_pow_right
abbrev Yr:=@Nat.pow_le_pow_right
abbrev Ys:=@Nat.mul_le_mul_right
abbrev Yt:=@Int.natAbs_mul
abbrev Yu:=@PySem.Heap.size_push
abbrev Yv:=@Array.size_map
abbrev Yw:=@if_true
abbrev Yx:=@PyProof.Rows.F.entry_set_update_loop
abbrev Yy:=@PySem.wpAny_attempt
abbrev Yz:=@PySem.Paired.length
abbrev Y1:=@Int.le_of_dvd
abbrev Y2:=@beq_iff_eq
abbrev Y3:=@Nat.one_le_two_pow
abbrev Y4:=@List.zip_cons_cons
abbrev Y5:=@List.mem_singleton
abbrev Y6:=@Nat.lt_succ_of_lt
abbrev Y7:=@Nat.add_comm
abbrev Y8:=@List.map_set
abbrev Y9:=@List.length_range
abbrev Ja:=@List.Pairwise.nil
abbrev Jb:=@PyProof.Rows.slot_tuple_getitem
abbrev Jc:=@List.take_append
abbrev Jd:=@List.getElem_mem
abbrev Je:=@List.all_eq_true
end
namespace L2
open PySem PySem.Spec PyProof.Rows
noncomputable abbrev Key:=Sum Int Str
def ad0:Key->Value->Bool
 |.inl k,v=>Value.isInt k v
 |.inr x,v=>Value.isStrOf x v
def cb5 (w:World):Key->Int
 |.inl k=>hashInt k
 |.inr x=>hashStr w x
theorem g_5:∀ {k:Key}{v:Value},ad0 k v=true->(∃ i t,k=Sum.inl i/\v=Value.int i t)\/(∃ x t,k=Sum.inr x/\v=Value.str x t)
 |.inl i,v,h=>by
  obtain⟨t,e⟩:=Value.isInt_shape h;exact .inl ⟨i,t,rfl,e⟩
 |.inr x,v,h=>by
  obtain⟨t,e⟩:=Value.isStrOf_shape h;exact .inr ⟨x,t,rfl,e⟩
theorem az7 (i:Int) (t:Tok):ad0 (.inl i) (.int i t)=true:=by simp[ad0,Value.isInt]
theorem az6 (x:Str) (t:Tok):ad0 (.inr x) (.str x t)=true:=by simp[ad0,Value.isStrOf]
theorem br0 (a b:Int):decide ((Sum.inl a:Key)=Sum.inl b)=(a==b):=by
 by_cases e:a=b
 ·subst e;simp
 ·have h:¬ (Sum.inl a:Key)=Sum.inl b:=λ q=>e (Sum.inl.inj q);rw[yj h];exact (beq_eq_false_iff_ne.mpr e).symm
theorem bq7 (a b:Str):decide ((Sum.inr a:Key)=Sum.inr b)=decide (a=b):=by
 by_cases e:a=b
 ·subst e;simp
 ·have h:¬ (Sum.inr a:Key)=Sum.inr b:=λ q=>e (Zw q);rw[yj h,yj e]
theorem bq9 (a:Int) (b:Str):decide ((Sum.inl a:Key)=Sum.inr b)=false:=yj (λ q=>nomatch q)
theorem bq8 (a:Str) (b:Int):decide ((Sum.inr a:Key)=Sum.inl b)=false:=yj (λ q=>nomatch q)
def g_3 (prog:Program) (w:World):PySem.KeyKind prog w Key where
 is:=ad0
 hash:=cb5 w
 inj:=λ v a b Y J=>by
  rcases g_5 Y with ⟨i,t,rfl,rfl⟩ | ⟨x,t,rfl,rfl⟩
  ·rcases g_5 J with ⟨j,u,rfl,e⟩ | ⟨y,u,rfl,e⟩
   ·injection e with e1 _;rw[e1]
   ·exact nomatch e
  ·rcases g_5 J with ⟨j,u,rfl,e⟩ | ⟨y,u,rfl,e⟩
   ·exact nomatch e
   ·injection e with e1 _;rw[e1]
 byValue:=λ k v h=>by
  rcases g_5 h with ⟨i,t,rfl,rfl⟩ | ⟨x,t,rfl,rfl⟩ <;> rfl
 pyHash:=λ q h=>by
  rcases g_5 q with ⟨i,t,rfl,rfl⟩ | ⟨x,t,rfl,rfl⟩
  ·exact wpAny_pyHash_int h
  ·exact wpAny_pyHash_str h
 eqBool:=λ O q h=>by
  rcases g_5 O with ⟨i,t,rfl,rfl⟩ | ⟨x,t,rfl,rfl⟩
  ·rcases g_5 q with ⟨j,u,rfl,rfl⟩ | ⟨y,u,rfl,rfl⟩
   ·rw[br0] at h;exact wpAny_eqBool_int h
   ·rw[bq9] at h;exact SeqAt.EqAt.int_str i t y u _ _ _ _ h
  ·rcases g_5 q with ⟨j,u,rfl,rfl⟩ | ⟨y,u,rfl,rfl⟩
   ·rw[bq8] at h;exact SeqAt.EqAt.str_int x t j u _ _ _ _ h
   ·rw[bq7] at h;exact wpAny_eqBool_str h
 «strs»:=λ k x t v h=>by
  rcases g_5 h with ⟨i,u,rfl,e⟩ | ⟨y,u,rfl,e⟩
  ·exact nomatch e
  ·injection e with e1 _
   subst e1;cases v <;> rfl
theorem ac4 (prog:Program) (w:World) (i:Int) (t:Tok):(g_3 prog w).is (.inl i) (.int i t)=true:=az7 i t
theorem ac3 (prog:Program) (w:World) (x:Str) (t:Tok):(g_3 prog w).is (.inr x) (.str x t)=true:=az6 x t
inductive V where
 |non | bl (b:Bool) | int (i:Int) | str (x:Str) | byt (b:Array UInt8) | flt (b:UInt64) | ref (a:Addr) | ty (n:String)
 deriving DecidableEq
noncomputable def RelV:V->Value->Prop
 |.non,u=>u=Value.none
 |.bl b,u=>u=Value.bool b
 |.int i,u=>∃ t,u=Value.int i t
 |.str x,u=>∃ t,u=Value.str x t
 |.byt b,u=>∃ t,u=Value.bytes b t
 |.flt b,u=>∃ t,u=Value.float b t
 |.ref a,u=>u=Value.ref a
 |.ty n,u=>u=Value.type n
abbrev Vals:List V->List Value->Prop:=Paired RelV
theorem Vals.length  (r:Vals xs us):xs.length=us.length:=Yz r
theorem Vals.get:∀ {xs:List V}{us:List Value}{i:Nat}{x:V},Vals xs us->xs[i]?=some x->∃ u,us[i]?=some u/\RelV x u
 |_,_,_,_,.nil,e=>by simp at e
 |_,_,0,_,.cons r _,e=>by simp at e;subst e;exact⟨_,rfl,r⟩
 |_,_,i+1,x,.cons _ t,e=>by
  obtain⟨u,h1,h2⟩:=Vals.get t (by simpa using e);exact⟨u,by simpa using h1,h2⟩
theorem Vals.set  (r:RelV x u):∀ {xs:List V}{us:List Value} (i:Nat),Vals xs us->Vals (xs.set i x) (us.set i u)
 |_,_,_,.nil=>.nil
 |_,_,0,.cons _ t=>.cons r t
 |_,_,i+1,.cons q t=>.cons q (Vals.set r i t)
theorem Vals.append:∀ {xs ys:List V}{us q:List Value},Vals xs us->Vals ys q->Vals (xs++ys) (us++q)
 |_,_,_,_,.nil,s=>s
 |_,_,_,_,.cons r t,s=>.cons r (Vals.append t s)
theorem Vals.take:∀ {xs:List V}{us:List Value} (n:Nat),Vals xs us->Vals (xs.take n) (us.take n)
 |_,_,0,_=>.nil
 |_,_,_+1,.nil=>.nil
 |_,_,n+1,.cons r t=>.cons r (Vals.take n t)
theorem Vals.drop:∀ {xs:List V}{us:List Value} (n:Nat),Vals xs us->Vals (xs.drop n) (us.drop n)
 |_,_,0,r=>r
 |_,_,_+1,.nil=>.nil
 |_,_,n+1,.cons _ t=>Vals.drop n t
def RelO:Option V->Option Value->Prop
 |some v,some u=>RelV v u
 |none,none=>True
 |_,_=>False
def KV {κ:Type}:List (κ×V)->List (κ×Value)->Prop:=Paired λ (p:κ×V) (q:κ×Value)=>p.1=q.1/\RelV p.2 q.2
def kV:Key->V
 |.inl i=>.int i
 |.inr x=>.str x
inductive HO where
 |lst (xs:List V)
 |tup (xs:List V)
 |dK (kvs:List (Key×V)) | dT (kvs:List (List Key×V))
 |set (S:Int->Bool) (n:Nat)
 |ins (C dx:Addr) (fs:List (Str×V))
 |own (x:Addr)
 |xd (fs:List (Str×V))
 |met (f x:Addr)
 |rng (lo hi:Int)
 |frz (o:Obj) (u:HO)
 |tbl (ps:Array Value)
 |ext (φ:Heap->Prop)
noncomputable abbrev Hp:=Addr->Option HO
def upd (H:Hp) (a:Addr) (o:HO):Hp:=λ b=>if b=a then some o else H b
theorem a_3 :upd H a o a=some o:=by unfold upd;rw[if_pos rfl]
theorem b_2  (h:b≠a):upd H a o b=H b:=by unfold upd;rw[if_neg h]
theorem ne_of {H:Hp} (h:H a=some o) (h':H b=some u) (d:o≠u):a≠b:=by intro e;subst e;rw[h] at h';exact d (qi h')
theorem c_6 {H:Hp} (h:H a=some o) (h':H b=none):a≠b:=by intro e;subst e;rw[h] at h';cases h'
def IsTuN (h:Heap) (a:Addr) (items:Array Value):Prop:=∃ o,h.get? a=some o ∧ o.cls=.type "tuple" ∧ (∃ n,o.data=.seq items n) ∧ o.dict=none
theorem IsTuN.tup  (x:IsTuN h a items):IsTup h a items:=let ⟨o,p,q,⟨n,r⟩,_⟩:=x;⟨o,p,q,n,r⟩
theorem IsTuN.new (h:Heap) (items:Array Value):IsTuN (h.push {cls:=.type "tuple",data:=.seq items}) h.objs.size items:=⟨_,qk _ rfl,rfl,⟨0,rfl⟩,rfl⟩
section
variable (P:Program) (w:World)
def ObjOk (H:Hp) (h:Heap) (a:Addr):HO->Prop
 |.lst xs=>xs.length ≤ sizeLine ∧ ∃ (J:List Value) (n:Nat),Vals xs J ∧ h.get? a=some {cls:=.type "list",data:=.seq J.toArray n}
 |.tup xs=>xs.length<=sizeLine/\∃ J:List Value,Vals xs J/\IsTuN h a J.toArray
 |.dK kvs=>kvs.length<=sizeLine/\(a==sysModules)=false/\∃ vs,KV kvs vs/\h.DictOf (g_3 P w) a vs
 |.dT kvs=>kvs.length<=sizeLine/\(a==sysModules)=false/\∃ xs:List (List Key×Addr×Value),
   Paired (λ (p:List Key×V) (q:List Key×Addr×Value)=>p.1=q.1/\H q.2.1=some (.tup (p.1.map kV))/\RelV p.2 q.2.2) kvs xs /\
   ∃ o es ep,h.get? a=some o/\o.ExactDict/\o.data=.dict es ep/\es.toList=xs.map (entryOfKey (tupleKind (g_3 P w)))/\(xs.map (·.1)).Nodup
 |.set S n=>h.SetOf (intKind P w) a S n
 |.ins C dx fs=>H dx=some (.own a)/\fs.length<=1000/\dx≠a/\h.get? a=some (PySem.W.instObj C dx) /\
   ∃ O,h.Ns1 dx O/\(∀ f,RelO (fs.lookup f) (O f))/\PySem.Within O (fs.map (·.1))
 |.own _=>∃ o,h.get? a=some o
 |.xd fs=>∃ O,h.Ns1 a O/\∀ f,RelO (fs.lookup f) (O f)
 |.rng lo hi=>∃ t u v,h.get? a=some {cls:=.type "range",data:=.fields #[.int lo t,.int hi u,.int 1 v]}
 |.frz o u=>h.get? a=some o/\ObjOk H h a u
 |.tbl ps=>h.get? a=some {cls:=.none,data:=.fields ps}
 |.met f x=>h.get? a=some (PySem.W.methodObj (.ref f) (.ref x))
 |.ext Y=>Y h/\(∃ o,h.get? a=some o)/\∀ h1 h2:Heap,Y h1->(∀ o,h1.get? a=some o->h2.get? a=some o)->Y h2
def HOk (H:Hp) (h:Heap):Prop:=∀ a o,H a=some o->ObjOk P w H h a o
end
section
theorem ObjOk.lt (x:ObjOk P w H h a o):a<h.objs.size:=by
 cases o with
 |lst xs=>obtain⟨_,_,_,_,e⟩:=x;exact qm e
 |tup xs=>obtain⟨_,_,_,p⟩:=x;exact p.tup.lt
 |dK kvs=>obtain⟨_,_,_,_,o,_,_,e,_⟩:=x;exact qm e
 |dT kvs=>obtain⟨_,_,_,_,o,_,_,e,_⟩:=x;exact qm e
 |set S n=>obtain⟨o,_,_,_,e,_⟩:=x;exact qm e
 |ins C dx fs=>obtain⟨_,_,_,e,_⟩:=x;exact qm e
 |own y=>obtain⟨_,e⟩:=x;exact qm e
 |xd fs=>obtain⟨_,⟨_,_,_,e,_⟩,_⟩:=x;exact qm e
 |rng lo hi=>obtain⟨_,_,_,e⟩:=x;exact qm e
 |frz ob u=>obtain⟨e,_⟩:=x;exact qm e
 |tbl ps=>exact qm (show h.get? a=some _ from x)
 |met f y=>exact qm (show h.get? a=some _ from x)
 |ext q=>obtain⟨_,⟨_,e⟩,_⟩:=x;exact qm e
theorem Paired.mapP :∀ {q:List α}{J:List O},Paired F q J->(∀ a b,F a b->G a b)->Paired G q J
 |[],_,h,_=>by cases h;exact .nil
 |x::l,_,h,f=>by
  cases h with
  |cons r t=>exact .cons (f _ _ r) (Paired.mapP t f)
theorem ObjOk.stay (x:ObjOk P w H h a o) (k:∀ b u,(b=a\/H b=some (.own a))->h.get? b=some u->h'.get? b=some u)
  (ho:∀ b,H b=some (.own a)->H' b=some (.own a)) (Y:∀ b xs,H b=some (.tup xs)->H' b=some (.tup xs)):ObjOk P w H' h' a o:=by
 induction o with
 |lst xs=>obtain⟨z,J,n,r,e⟩:=x;exact⟨z,J,n,r,k _ _ (.inl rfl) e⟩
 |tup xs=>obtain⟨z,J,r,ob,e,c⟩:=x;exact⟨z,J,r,ob,k _ _ (.inl rfl) e,c⟩
 |dK kvs=>obtain⟨z,y,vs,r,ob,es,ep,e,c⟩:=x;exact⟨z,y,vs,r,ob,es,ep,k _ _ (.inl rfl) e,c⟩
 |dT kvs =>
  obtain⟨z,y,xs,r,ob,es,ep,e,c⟩:=x;exact⟨z,y,xs,Paired.mapP r λ p q z=>⟨z.1,Y _ _ z.2.1,z.2.2⟩,ob,es,ep,k _ _ (.inl rfl) e,c⟩
 |set S n=>obtain⟨ob,es,ep,t,e,c⟩:=x;exact⟨ob,es,ep,t,k _ _ (.inl rfl) e,c⟩
 |ins C dx fs =>
  obtain⟨d,z,ne,e,O,⟨od,es,ep,e2,c⟩,r⟩:=x;exact⟨ho _ d,z,ne,k _ _ (.inl rfl) e,O,⟨od,es,ep,k _ _ (.inr d) e2,c⟩,r⟩
 |own y=>obtain⟨ob,e⟩:=x;exact⟨ob,k _ _ (.inl rfl) e⟩
 |xd fs=>obtain⟨O,⟨od,es,ep,e,c⟩,r⟩:=x;exact⟨O,⟨od,es,ep,k _ _ (.inl rfl) e,c⟩,r⟩
 |rng lo hi=>obtain⟨t,u,v,e⟩:=x;exact⟨t,u,v,k _ _ (.inl rfl) e⟩
 |frz ob u Z=>obtain⟨e,q⟩:=x;exact⟨k _ _ (.inl rfl) e,Z q⟩
 |tbl ps =>
  have e:=x;exact k a _ (.inl rfl) e
 |met f y =>
  have e:=x;exact k a _ (.inl rfl) e
 |ext φ=>obtain⟨p,⟨o,e⟩,st⟩:=x;exact⟨st _ _ p λ o q=>k _ _ (.inl rfl) q,⟨o,k _ _ (.inl rfl) e⟩,st⟩
theorem HOk.lt (x:HOk P w H h) (e:H a=some o):a<h.objs.size:=(x a o e).lt
theorem HOk.fresh (x:HOk P w H h) (e:h.objs.size<=a):H a=none:=by
 cases q:H a with
 |none=>rfl
 |some u=>exact absurd (qr (x.lt q) e) (ji _)
theorem HOk.kept (x:HOk P w H h) (k:∀ b u,h.get? b=some u->h'.get? b=some u):HOk P w H h':=λ a o e =>
 (x a o e).stay (λ b u _ q=>k b u q) (λ _ q=>q) λ _ _ q=>q
theorem HOk.laid (x:HOk P w H h) (k:∀ b u,h.get? b=some u->h'.get? b=some u) (Y:h.objs.size<=a) (new:ObjOk P w (upd H a o) h' a o):HOk P w (upd H a o) h':=λ b u e=>by
 have O:=x.fresh Y;by_cases J:b=a
 ·subst J;rw[a_3] at e;cases e;exact new
 ·rw[b_2 J] at e;exact (x b u e).stay (λ c v _ q=>k c v q) (λ c q=>by rw[b_2 (c_6 q O)];exact q) λ c xs q=>by rw[b_2 (c_6 q O)];exact q
end
def Rd (H:Hp) (a:Addr) (u:HO):Prop:=H a=some u\/∃ o,H a=some (.frz o u)
theorem Rd.ok  (r:Rd H a u) (x:HOk P w H h):ObjOk P w H h a u:=by
 rcases r with r | ⟨o,r⟩
 ·exact x a u r
 ·obtain⟨_,q⟩:=x a _ r;exact q
noncomputable def Mut:Option HO->Prop
 |some (.lst _)=>True
 |some (.dK _)=>True
 |some (.dT _)=>True
 |some (.set _ _)=>True
 |some (.ins _ _ _)=>True
 |some (.ext _)=>True
 |_=>False
section
theorem HOk.write (ok:HOk P w H h) (Z:Mut (H x)) (he:e=x\/H e=some (.own x)) (k:∀ b u,b≠e->h.get? b=some u->h'.get? b=some u) (aa:∃ u,h'.get? e=some u)
  (new:ObjOk P w (upd H x o') h' x o'):HOk P w (upd H x o') h':=λ b u q=>by
 have O:∀ c y,H c=some (.own y)->c≠x:=λ c y r z=>by subst z;rw[r] at Z;exact Z
 have Y:∀ c xs,H c=some (.tup xs)->c≠x:=λ c xs r z=>by subst z;rw[r] at Z;exact Z
 by_cases hb:b=x
 ·subst hb;rw[a_3] at q;cases q;exact new
 ·rw[b_2 hb] at q;by_cases J:b=e
  ·have q':H b=some (.own x):=by
    rcases he with z | z
    ·exact absurd (J.trans z) hb
    ·rw[J];exact z
   rw[q] at q';cases q';obtain⟨v,hv⟩:=aa;exact⟨v,by rw[J];exact hv⟩
  ·refine (ok b u q).stay (λ c v hc r=>k c v ?_ r) (λ c r=>by rw[b_2 (O c b r)];exact r) λ c xs r=>by rw[b_2 (Y c xs r)];exact r
   rcases hc with rfl | hc
   ·exact J
   ·rintro rfl;rcases he with z | z
    ·exact O c b hc z
    ·rw[hc] at z;cases z;exact hb rfl
end
structure Un (fs ex:List Addr) (H H':Hp) (h h':Heap):Prop where
 keep:∀ b o,h.get? b=some o->H b=none->b∉fs->b∉ex->h'.get? b=some o
 slot:∀ b o,h.get? b=some o->H b=none->b∈fs->b∉ex->∃ sl,h'.get? b=some {o with slots:=sl}
 free:∀ b o,h.get? b=some o->H b=none->b∉ex->H' b=none
 there:∀ b o,h.get? b=some o->b∉ex->∃ o',h'.get? b=some o'
 tups:∀ b xs,H b=some (.tup xs)->H' b=some (.tup xs)
 frzs:∀ b o u,H b=some (.frz o u)->H' b=some (.frz o u)
 tbls:∀ b ps,H b=some (.tbl ps)->∃ more,H' b=some (.tbl (ps++more))
section
theorem Un.any (u:Un fs ex H H1 h h1)  (q:h.get? b=some ob) (n:H b=none) (hx:b∉ex):∃ O,h1.get? b=some {ob with slots:=O}:=by
 by_cases J:b∈fs
 ·exact u.slot b ob q n J hx
 ·exact⟨ob.slots,u.keep b ob q n J hx⟩
theorem Un.kept (k:∀ b u,h.get? b=some u->h'.get? b=some u):Un fs ex H H h h' :=
 ⟨λ b ob q _ _ _=>k b ob q,λ b ob q _ _ _=>⟨ob.slots,k b ob q⟩,λ _ _ _ n _=>n,λ b ob q _=>⟨ob,k b ob q⟩,λ _ _ q=>q,λ _ _ _ q=>q,λ _ ps q=>⟨#[],by rw[q];simp⟩⟩
theorem Un.refl:Un fs ex H H h h:=Un.kept λ _ _ q=>q
theorem Un.laid (k:∀ b u,h.get? b=some u->h'.get? b=some u) (O:h.objs.size<=a) (J:H a=none):Un fs ex H (upd H a o) h h' where
 keep:=λ b u q _ _ _=>k b u q
 slot:=λ b u q _ _ _=>⟨u.slots,k b u q⟩
 free:=λ b u q n _=>by rw[b_2 (Yd (Nat.lt_of_lt_of_le (Heap.lt_size q) O))];exact n
 there:=λ b u q _=>⟨u,k b u q⟩
 tups:=λ b xs q=>by rw[b_2 (c_6 q J)];exact q
 frzs:=λ b u xs q=>by rw[b_2 (c_6 q J)];exact q
 tbls:=λ b ps q=>⟨#[],by rw[b_2 (c_6 q J),q];simp⟩
theorem Un.write (O:Mut (H x)) (he:e=x\/H e=some (.own x)) (k:∀ b u,b≠e->h.get? b=some u->h'.get? b=some u) (Z:∃ u,h'.get? e=some u):Un fs ex H (upd H x o) h h':=by
 have hx:∀ b,H b=none->b≠x:=λ b n z=>by subst z;rw[n] at O;exact O
 have hb:∀ b,H b=none->b≠e:=λ b n z=>by
  subst z;rcases he with r | r
  ·exact hx b n r
  ·rw[n] at r;cases r
 have Y:∀ b u,H b=some u->¬ Mut (some u)->b≠x:=λ b u q nm z=>by subst z;rw[q] at O;exact nm O
 refine⟨λ b u q n _ _=>k b u (hb b n) q,λ b u q n _ _=>⟨u.slots,k b u (hb b n) q⟩,λ b u q n _=>by rw[b_2 (hx b n)];exact n,λ b u q _=>?_,
  λ b xs q=>by rw[b_2 (Y b _ q λ z=>z)];exact q,λ b u xs q=>by rw[b_2 (Y b _ q λ z=>z)];exact q,λ b ps q=>⟨#[],by rw[b_2 (Y b _ q λ z=>z),q];simp⟩⟩
 by_cases J:b=e
 ·subst J;exact Z
 ·exact⟨u,k b u J q⟩
end
def trk (h:Heap) (H:Hp):List Addr:=(List.range h.objs.size).filter λ a=>(H a).isSome
def aK6 (h:Heap) (H:Hp):Heap:=PySem.W.hideAll h (trk h H)
theorem aA2 (h:Heap) (H:Hp):(aK6 h H).objs.size=h.objs.size:=PySem.W.hideAll_size _ _
theorem aK5  (e:h.get? b=some o) (n:H b=none):(aK6 h H).get? b=some o :=
 PySem.W.hideAll_get _ e λ J=>by
  have q:=(List.mem_filter.mp J).2;rw[n] at q;simp at q
theorem ba2  (e:(aK6 h H).get? b=some o):h.get? b=some o/\H b=none:=by
 have J:=PySem.W.of_hideAll (trk h H) e;refine⟨J,?_⟩;cases q:H b with
 |none=>rfl
 |some x =>
  have O:b∈trk h H:=List.mem_filter.mpr ⟨List.mem_range.mpr (qm J),by simp[q]⟩;have z:(aK6 h H).get? b=none:=PySem.W.hideAll_none (trk h H) O;rw[z] at e;cases e
structure Mod (K:Frag) (mg:Str->Option Value) (base:Heap):Prop where
 kin:K.In base
 glob:base.Ns mainGlobals mg
 blt:∃ mb,base.Ns builtinsNs mb ∧ ∀ x:Str,x≠"__name__" → mb x=bootBuiltins x
 nolimit:base.NoLimit
structure Cx where
 prog:Program
 w:World
 K:Frag
 mg:Str->Option Value
 base:Heap
 A:Around
 N:List Str
 s₀:Shared
 H₀:Hp
 env:Env
 outer:List Env
 stack:List Env
 ex:List Addr
 fn:Str->Bool
 calm:Bool
 pn:List (Addr×Obj)
 xe:Value->Shared->Prop
noncomputable def frs (l:List Env):List Addr:=l.filterMap (·.frame)
abbrev Cx.fs (X:Cx):List Addr:=frs X.outer
def Vis (sc:Scope) (x:Str):Prop:=sc.names.lookup x=some .local\/sc.names.lookup x=some .cell\/sc.names.lookup x=some .free
def Loc (sc:Scope) (x:Str):Prop:=sc.names.lookup x=some .local\/sc.names.lookup x=some .cell
def cg3 (env:Env) (h:Heap) (m:Str->Option Value) (x:Str) (u:Value):Prop :=
 (env.kindOf x=some .local/\m x=some u)\/((env.kindOf x=some .cell\/env.kindOf x=some .free)/\∃ c,env.cells.lookup x=some c/\h.IsCell c (some u))
structure Cx.Ok (X:Cx):Prop where
 mod:Mod X.K X.mg X.base
 kind:X.env.scope.kind=.function
 glob:X.env.globals=mainGlobals
 blt:X.env.builtins=builtinsNs
 above:X.s₀.heap.objs.size<=X.env.locals
 inj:∀ x y c,X.env.cells.lookup x=some c->X.env.cells.lookup y=some c->x=y
 has:∀ x,(X.env.kindOf x=some .cell\/X.env.kindOf x=some .free)->∃ c,X.env.cells.lookup x=some c
 cab:∀ x c,X.fn x=true->X.env.cells.lookup x=some c->X.s₀.heap.objs.size<=c
 hd:X.calm=true->X.A.handled=none
 frames:X.A.frames=some X.stack
 stk:X.stack=X.outer\/(X.stack=X.env::X.outer/\X.env.frame=some X.env.locals)
 exf:∀ b∈X.ex,b≠X.env.locals/\∀ x c,X.env.cells.lookup x=some c->c≠b
 bs:∀ b o,X.base.get? b=some o->X.s₀.heap.get? b=some o/\X.H₀ b=none
 bsz:X.base.objs.size<=X.s₀.heap.objs.size
 noex:∀ b o,X.base.get? b=some o->b∉X.ex
 exfs:∀ b∈X.ex,b∉X.fs
 funs:X.s₀.heap.FunFrames X.base X.outer
 frf:∀ b∈X.fs,X.H₀ b=none
structure Inv (X:Cx) (pins:List (Addr×Obj)) (σ:List (Option V)) (H:Hp) (s:Shared):Prop where
 ok:X.Ok
 os:s.os=X.s₀.os
 bare:AllBare s.gens
 base:Un X.fs X.ex X.H₀ H X.s₀.heap s.heap
 loc:∃ m,s.heap.Ns X.env.locals m/\∀ (i:Nat) (x:Str) (v:V),X.N[i]?=some x->σ[i]?=some (some v)->Vis X.env.scope x->∃ u,RelV v u/\cg3 X.env s.heap m x u
 cell:∀ x c,X.env.cells.lookup x=some c->∃ v,s.heap.IsCell c v
 free:H X.env.locals=none
 freeC:∀ x c,X.env.cells.lookup x=some c->H c=none
 pin:∀ p∈X.pn++pins,s.heap.get? p.1=some p.2/\H p.1=none/\p.1≠X.env.locals/\p.1∉X.fs/\∀ v,p.2.data≠.cell v
 hok:HOk X.prog X.w H s.heap
 len:σ.length=X.N.length
section
variable {X:Cx}{pins:List (Addr×Obj)}{σ:List (Option V)}{H H':Hp}{s:Shared}{h':Heap}
theorem Cx.Ok.nofr (ok:X.Ok)  (e:X.base.get? b=some o):b∉X.fs:=λ q=>by
 have:=(ok.funs.mem q).1;rw[e] at this;cases this
theorem Inv.bs (I:Inv X pins σ H s):∀ b o,X.base.get? b=some o->s.heap.get? b=some o/\H b=none:=λ b o e =>
 ⟨I.base.keep b o (I.ok.bs b o e).1 (I.ok.bs b o e).2 (I.ok.nofr e) (I.ok.noex b o e),I.base.free b o (I.ok.bs b o e).1 (I.ok.bs b o e).2 (I.ok.noex b o e)⟩
theorem Inv.bk (I:Inv X pins σ H s):∀ b o,X.base.get? b=some o->s.heap.get? b=some o:=λ b o e=>(I.bs b o e).1
theorem Inv.mod (I:Inv X pins σ H s):Mod X.K X.mg X.base:=I.ok.mod
theorem Inv.kIn (I:Inv X pins σ H s):X.K.In s.heap:=I.ok.mod.kin.keeps I.bk
theorem Inv.lt (I:Inv X pins σ H s):X.env.locals<s.heap.objs.size:=let ⟨_,hn,_⟩:=I.loc;hn.lt
theorem Inv.sz (I:Inv X pins σ H s):X.s₀.heap.objs.size<=s.heap.objs.size:=zf I.ok.above (Zb I.lt)
theorem Inv.nofs (I:Inv X pins σ H s)  (h:s.heap.objs.size<=a):a∉X.fs:=λ J=>by
 obtain⟨_,o,q,_⟩:=I.ok.funs.mem J;exact absurd (qr (qm q) (zf I.sz h)) (ji _)
theorem Inv.cne (I:Inv X pins σ H s):∀ x c,X.env.cells.lookup x=some c->c≠X.env.locals:=λ x c e z=>by
 obtain⟨v,o,O,hd⟩:=I.cell x c e;obtain⟨m,⟨o',es,ep,q,J,_⟩,_⟩:=I.loc;rw[z,q] at O;cases O;rw[J] at hd;cases hd
theorem Inv.funs (I:Inv X pins σ H s):s.heap.FunFrames X.base X.outer:=by
 have all:∀ (l:List Env),(∀ b∈frs l,b∈X.fs)->X.s₀.heap.FunFrames X.base l->s.heap.FunFrames X.base l:=by
  intro l;induction l with
  |nil=>intro _ _;trivial
  |cons env r ih =>
   intro Y Z;obtain⟨hk,⟨L,o,q,hn,ho,hd⟩,hr⟩:=Z;have J:=Y L (by unfold frs;rw[Zo,q];exact qg);obtain⟨sl,e⟩:=I.base.slot L o ho (I.ok.frf L J) J λ z=>I.ok.exfs L z J;exact⟨hk,⟨L,_,q,hn,e,hd⟩,ih (λ b O=>Y b (by unfold frs;rw[Zo,q];exact qh _ O)) hr⟩
 exact all X.outer (λ _ O=>O) I.ok.funs
theorem Inv.stack (I:Inv X pins σ H s):s.heap.FunFrames X.base X.stack:=by
 rcases I.ok.stk with e | ⟨e,hf⟩
 ·rw[e];exact I.funs
 ·rw[e];obtain⟨m,q,_⟩:=I.loc;refine .cons (by rw[I.ok.kind];decide) hf q ?_ I.funs;exact y9 (zf I.ok.bsz I.ok.above)
theorem Inv.stkSub (I:Inv X pins σ H s):∀ b∈frs X.stack,b∈X.env.locals::X.fs:=λ b q=>by
 rcases I.ok.stk with e | ⟨e,hf⟩
 ·rw[e] at q;exact qh _ q
 ·rw[e] at q;unfold frs at q;rw[Zo,hf] at q;exact q
theorem Inv.stkFree (I:Inv X pins σ H s):∀ b∈frs X.stack,H b=none:=λ b q=>by
 rcases qv (I.stkSub b q) with e | q
 ·rw[e];exact I.free
 ·obtain⟨_,o,J,_⟩:=I.ok.funs.mem q;exact I.base.free b o J (I.ok.frf b q) λ z=>I.ok.exfs b z q
theorem Inv.step {ch:List Addr} (I:Inv X pins σ H s)
  (J:∀ b∈ch,(b∈X.ex\/X.s₀.heap.objs.size<=b)/\b≠X.env.locals/\(∀ x c,X.env.cells.lookup x=some c->c≠b)/\∀ p∈X.pn++pins,p.1≠b)
  (keep:∀ b o,b≠X.env.locals->b∉X.fs->b∉ch->s.heap.get? b=some o->H b=none->h'.get? b=some o)
  (slot:∀ b o,b≠X.env.locals->b∈X.fs->b∉ch->s.heap.get? b=some o->H b=none->∃ sl,h'.get? b=some {o with slots:=sl}) (free:∀ b o,b∉ch->s.heap.get? b=some o->H b=none->H' b=none)
  (there:∀ b o,b∉ch->s.heap.get? b=some o->∃ o',h'.get? b=some o')
  (tups:∀ b xs,H b=some (.tup xs)->H' b=some (.tup xs)) (frzs:∀ b o u,H b=some (.frz o u)->H' b=some (.frz o u)) (tbls:∀ b ps,H b=some (.tbl ps)->∃ more,H' b=some (.tbl (ps++more)))
  (ns:∀ m,s.heap.Ns X.env.locals m->h'.Ns X.env.locals m) (ae:HOk X.prog X.w H' h') (hg:AllBare g') :
  Inv X pins σ H' {s with heap:=h',gens:=g',drawn:=d',toks:=t'}:=by
 have ac:∀ b o,X.s₀.heap.get? b=some o->b≠X.env.locals:=λ b o e=>qt (qr (qm e) I.ok.above);have Z:∀ b o,X.s₀.heap.get? b=some o->b∉X.ex->b∉ch:=λ b o e hx hb=>by
  rcases (J b hb).1 with z | z
  ·exact hx z
  ·exact absurd (qr (qm e) z) (ji _)
 have Y:∀ x c,X.env.cells.lookup x=some c->∀ v,s.heap.IsCell c v->h'.IsCell c v:=λ x c e v aa=>by
  obtain⟨o,ho,hd⟩:=aa;have O:=λ z=>(J c z).2.2.1 x c e rfl;by_cases hc:c∈X.fs
  ·obtain⟨sl,q⟩:=slot c o (I.cne x c e) hc O ho (I.freeC x c e);exact⟨_,q,hd⟩
  ·exact⟨o,keep c o (I.cne x c e) hc O ho (I.freeC x c e),hd⟩
 refine⟨I.ok,I.os,hg,⟨λ b o e n hb hx=>?_,λ b o e n hb hx=>?_,λ b o e n hx=>?_,λ b o e hx=>?_,λ b xs e=>tups b xs (I.base.tups b xs e),λ b o xs e=>frzs b o xs (I.base.frzs b o xs e),λ b ps e=>?_⟩,?_,λ x c e=>?_,?_,λ x c e=>?_,λ p hp=>?_,ae,I.len⟩
 ·exact keep b o (ac b o e) hb (Z b o e hx) (I.base.keep b o e n hb hx) (I.base.free b o e n hx)
 ·obtain⟨sl,e1⟩:=I.base.slot b o e n hb hx;obtain⟨ad,e2⟩:=slot b _ (ac b o e) hb (Z b o e hx) e1 (I.base.free b o e n hx);exact⟨ad,e2⟩
 ·obtain⟨o',e1⟩:=I.base.there b o e hx;exact free b o' (Z b o e hx) e1 (I.base.free b o e n hx)
 ·obtain⟨o',e1⟩:=I.base.there b o e hx;exact there b o' (Z b o e hx) e1
 ·obtain⟨m1,e1⟩:=I.base.tbls b ps e;obtain⟨m2,e2⟩:=tbls b _ e1;exact⟨m1++m2,by rw[e2,Array.append_assoc]⟩
 ·obtain⟨m,hn,hl⟩:=I.loc;refine⟨m,ns m hn,λ i x v e1 e2 e3=>?_⟩;obtain⟨u,r,l⟩:=hl i x v e1 e2 e3;refine⟨u,r,?_⟩;rcases l with l | ⟨k,c,e,z⟩
  ·exact .inl l
  ·exact .inr ⟨k,c,e,Y x c e _ z⟩
 ·obtain⟨v,z⟩:=I.cell x c e;exact⟨v,Y x c e v z⟩
 ·obtain⟨m,⟨o,_,_,ho,_⟩,_⟩:=I.loc;exact free _ o (λ z=>(J _ z).2.1 rfl) ho I.free
 ·obtain⟨v,o,ho,hd⟩:=I.cell x c e;exact free c o (λ z=>(J c z).2.2.1 x c e rfl) ho (I.freeC x c e)
 ·obtain⟨e,n,ne,nf,d⟩:=I.pin p hp;have O:=λ z=>(J p.1 z).2.2.2 p hp rfl;exact⟨keep p.1 p.2 ne nf O e n,free p.1 p.2 O e n,ne,nf,d⟩
theorem Inv.un  (I:Inv X pins σ H s) (u:Un X.fs [] H H' s.heap h') (Y:HOk X.prog X.w H' h'):Inv X pins σ H' {s with heap:=h',toks:=t'}:=by
 obtain⟨m,⟨o,es,ep,ho,r⟩,_⟩:=id I.loc;obtain⟨sl,hL⟩:=u.any ho I.free (by simp);exact I.step (ch:=[]) (λ _ z=>nomatch z) (λ b o _ Z _ e n=>u.keep b o e n Z (by simp)) (λ b o _ Z _ e n=>u.slot b o e n Z (by simp)) (λ b o _ e n=>u.free b o e n (by simp)) (λ b o _ e=>u.there b o e (by simp)) u.tups u.frzs u.tbls (λ m' hm=>by
  obtain⟨o',O,J,q,r'⟩:=hm;rw[ho] at q;cases q;exact⟨_,O,J,hL,r'⟩) Y I.bare
theorem Inv.call  (I:Inv X pins σ H s) (u:Un (frs X.stack) ch H H' s.heap h') (aa:HOk X.prog X.w H' h') (hg:AllBare g')
  (J:∀ b∈ch,(b∈X.ex\/X.s₀.heap.objs.size<=b)/\b≠X.env.locals/\(∀ x c,X.env.cells.lookup x=some c->c≠b)/\∀ p∈X.pn++pins,p.1≠b) :
  Inv X pins σ H' {s with heap:=h',gens:=g',drawn:=d',toks:=t'}:=by
 obtain⟨m,⟨o,es,ep,ho,r⟩,_⟩:=id I.loc;obtain⟨sl,hL⟩:=u.any ho I.free λ z=>(J _ z).2.1 rfl;exact I.step J (λ b o hL hb q e n=>u.keep b o e n (λ z=>(qv (I.stkSub b z)).elim hL hb) q) (λ b o _ _ q e n=>u.any e n q) (λ b o q e n=>u.free b o e n q) (λ b o q e=>u.there b o e q) u.tups u.frzs u.tbls (λ m' hm=>by
  obtain⟨o',Z,Y,O,r'⟩:=hm;rw[ho] at O;cases O;exact⟨_,Z,Y,hL,r'⟩) aa hg
theorem Inv.turned  (I:Inv X pins σ H s) (k:∀ b o,b≠it->s.heap.get? b=some o->h'.get? b=some o) (hn:H it=none) (Y:it≠X.env.locals)
  (h1:it∈X.ex\/X.s₀.heap.objs.size<=it) (h2:∀ x c,X.env.cells.lookup x=some c->c≠it) (h3:∀ p∈X.pn++pins,p.1≠it):Inv X pins σ H {s with heap:=h',toks:=t'}:=by
 have O:∀ b u,H b=some u->b≠it:=λ b u e z=>by rw[z,hn] at e;cases e
 refine I.step (ch:=[it]) (λ b hb=>?_) (λ b o _ _ J e _=>k b o (λ z=>J (by simp[z])) e) (λ b o _ _ J e _=>⟨o.slots,k b o (λ z=>J (by simp[z])) e⟩) (λ _ _ _ _ n=>n)
  (λ b o J e=>⟨o,k b o (λ z=>J (by simp[z])) e⟩) (λ _ _ e=>e) (λ _ _ _ e=>e) (λ b ps e=>⟨#[],by rw[e];simp⟩) (λ m Z=>?_) (λ b u e=>?_) I.bare
 ·have e:b=it:=by simpa using hb
  subst e;exact⟨h1,Y,h2,h3⟩
 ·obtain⟨o,es,ep,ho,r⟩:=Z;exact⟨o,es,ep,k _ o (zv Y) ho,r⟩
 ·refine (I.hok b u e).stay (λ c v J q=>k c v ?_ q) (λ _ q=>q) λ _ _ q=>q;rcases J with z | z
  ·rw[z];exact O b u e
  ·exact O c _ z
theorem Inv.tok (I:Inv X pins σ H s) (t:Nat):Inv X pins σ H {s with toks:=t}:=I.un Un.refl I.hok
theorem Inv.kept  (I:Inv X pins σ H s) (k:∀ b u,s.heap.get? b=some u->h'.get? b=some u):Inv X pins σ H {s with heap:=h',toks:=t'}:=I.un (Un.kept k) (I.hok.kept k)
theorem Inv.laid  (I:Inv X pins σ H s) (k:∀ b u,s.heap.get? b=some u->h'.get? b=some u) (q:s.heap.objs.size<=a) (new:ObjOk X.prog X.w (upd H a o) h' a o) :
  Inv X pins σ (upd H a o) {s with heap:=h',toks:=t'}:=I.un (Un.laid k q (I.hok.fresh q)) (I.hok.laid k q new)
theorem Inv.write  (I:Inv X pins σ H s) (O:Mut (H x)) (J:e=x\/H e=some (.own x)) (k:∀ b u,b≠e->s.heap.get? b=some u->h'.get? b=some u) (q:∃ u,h'.get? e=some u)
  (new:ObjOk X.prog X.w (upd H x o) h' x o):Inv X pins σ (upd H x o) {s with heap:=h',toks:=t'}:=I.un (Un.write O J k q) (I.hok.write O J k q new)
theorem Inv.weak  (I:Inv X pins σ H s) (J:q.length=σ.length) (w:∀ (i:Nat) v,q[i]?=some (some v)->σ[i]?=some (some v)):Inv X pins q H s :=
 ⟨I.ok,I.os,I.bare,I.base,let ⟨m,hn,hl'⟩:=I.loc;⟨m,hn,λ i x v e1 e2 e3=>hl' i x v e1 (w i v e2) e3⟩,I.cell,I.free,I.freeC,I.pin,I.hok,J.trans I.len⟩
theorem Inv.pins_of  (I:Inv X pins σ H s) (h:∀ p∈pins',s.heap.get? p.1=some p.2/\H p.1=none/\p.1≠X.env.locals/\p.1∉X.fs/\∀ v,p.2.data≠.cell v):Inv X pins' σ H s :=
 ⟨I.ok,I.os,I.bare,I.base,I.loc,I.cell,I.free,I.freeC,λ p q=>(qx q).elim (λ z=>I.pin p (qp _ z)) (h p),I.hok,I.len⟩
theorem P_3 {N:List Str} (q:N.Nodup) {i j:Nat} (a:N[i]?=some x) (b:N[j]?=some x):i=j:=by obtain⟨h1,e1⟩:=List.getElem?_eq_some_iff.mp a;obtain⟨h2,e2⟩:=List.getElem?_eq_some_iff.mp b;exact (List.getElem_inj q).mp (e1.trans e2.symm)
theorem U_1 {M:Model}{A:Around}{E:Value->Shared->Prop}{i:Nat}{x:Str}{v:V}{u:Value}{Q:Unit->Shared->Prop} (I:Inv X pins σ H s) (hN:X.N.Nodup) (hi:X.N[i]?=some x) (hx:Loc X.env.scope x) (r:RelV v u)
  (h:∀ s',Inv X pins (σ.set i (some v)) H s'->(∃ a,Heap.SameBut a s.heap s'.heap/\(a=X.env.locals\/X.env.cells.lookup x=some a))->Q () s') (hf:X.fn x=true\/X.env.scope.names.lookup x=some .local):wpAny M A (storeName X.env x u) Q E s:=by
 obtain⟨m,hn,hl⟩:=id I.loc;have ag:(X.env.scope.kind==.class||(X.env.scope.kind==.module&&X.env.locals != X.env.globals))=false:=by rw[I.ok.kind];rfl
 have aa:i<σ.length:=by rw[I.len];exact (List.getElem?_eq_some_iff.mp hi).1
 have cne:=I.cne;have O:∀ {a:Addr}{h':Heap},(∃ o,s.heap.get? a=some o/\H a=none)->Heap.SameBut a s.heap h'->HOk X.prog X.w H h':=λ {a h'} ha J b ob e=>by
  obtain⟨_,_,Z⟩:=ha;refine (I.hok b ob e).stay (λ c w' Y q=>(J.2 c ?_).trans q) (λ _ q=>q) λ _ _ q=>q;rintro rfl;rcases Y with rfl | Y
  ·rw[Z] at e;cases e
  ·rw[Z] at Y;cases Y
 rcases hx with hk | hk
 ·refine wpAny_storeName_local hk hn (λ h' aj J=>?_) ag;obtain⟨oL,_,_,ai,_⟩:=id hn;refine h _ ⟨I.ok,I.os,I.bare,⟨λ b o e n hb hx=>?_,λ b o e n hb hx=>?_,I.base.free,λ b o e hx=>?_,I.base.tups,I.base.frzs,I.base.tbls⟩,⟨_,aj,λ j y v' e1 e2 e3=>?_⟩,λ y c e=>?_,I.free,I.freeC,λ p hp=>?_,O ⟨oL,ai,I.free⟩ J,by simpa using I.len⟩ ⟨_,J,.inl rfl⟩
  ·exact (J.2 b (qt (qr (qm e) I.ok.above))).trans (I.base.keep b o e n hb hx)
  ·obtain⟨sl,e1⟩:=I.base.slot b o e n hb hx;exact⟨sl,(J.2 b (qt (qr (qm e) I.ok.above))).trans e1⟩
  ·obtain⟨o',e1⟩:=I.base.there b o e hx;exact⟨o',(J.2 b (qt (qr (qm e) I.ok.above))).trans e1⟩
  ·by_cases hj:j=i
   ·subst hj;rw[hi] at e1;cases e1;rw[zi aa] at e2;cases e2;exact⟨u,r,.inl ⟨hk,by simp⟩⟩
   ·rw[zh (zv hj)] at e2;obtain⟨u',r',q⟩:=hl j y v' e1 e2 e3;refine⟨u',r',?_⟩;rcases q with ⟨k,e⟩ | ⟨k,c,e,z⟩
    ·refine .inl ⟨k,?_⟩;have:y≠x:=λ e=>hj (P_3 hN e1 (e▸hi));simp[this,e]
    ·exact .inr ⟨k,c,e,z.sameBut J (cne y c e)⟩
  ·obtain⟨w',z⟩:=I.cell y c e;exact⟨w',z.sameBut J (cne y c e)⟩
  ·obtain⟨e,n,ne,nf,d⟩:=I.pin p hp;exact⟨(J.2 p.1 ne).trans e,n,ne,nf,d⟩
 ·have ac:X.fn x=true:=by
   rcases hf with z | z
   ·exact z
   ·rw[z] at hk;cases hk
  obtain⟨c,Y⟩:=I.ok.has x (.inl hk);obtain⟨w',z⟩:=I.cell x c Y;refine wpAny_storeName_cell I.ok.kind hk Y z (λ h' ah J=>?_);obtain⟨oc,ae,af⟩:=id z;refine h {s with heap:=h'} ⟨I.ok,I.os,I.bare,⟨λ b o e n hb hx=>?_,λ b o e n hb hx=>?_,I.base.free,λ b o e hx=>?_,I.base.tups,I.base.frzs,I.base.tbls⟩,⟨m,hn.sameBut J (zv (cne x c Y)),λ j y v' e1 e2 e3=>?_⟩,λ y c' e=>?_,I.free,I.freeC,λ p hp=>?_,O ⟨oc,ae,I.freeC x c Y⟩ J,by simpa using I.len⟩ ⟨c,J,.inr Y⟩
  ·exact (J.2 b (qt (qr (qm e) (I.ok.cab x c ac Y)))).trans (I.base.keep b o e n hb hx)
  ·obtain⟨sl,e1⟩:=I.base.slot b o e n hb hx;exact⟨sl,(J.2 b (qt (qr (qm e) (I.ok.cab x c ac Y)))).trans e1⟩
  ·obtain⟨o',e1⟩:=I.base.there b o e hx;exact⟨o',(J.2 b (qt (qr (qm e) (I.ok.cab x c ac Y)))).trans e1⟩
  ·by_cases hj:j=i
   ·subst hj;rw[hi] at e1;cases e1;rw[zi aa] at e2;cases e2;exact⟨u,r,.inr ⟨.inl hk,c,Y,ah⟩⟩
   ·rw[zh (zv hj)] at e2;obtain⟨u',r',q⟩:=hl j y v' e1 e2 e3;refine⟨u',r',?_⟩;rcases q with q | ⟨k,c',e,z'⟩
    ·exact .inl q
    ·refine .inr ⟨k,c',e,z'.sameBut J ?_⟩;rintro rfl;exact hj (P_3 hN e1 (I.ok.inj _ _ _ e Y▸hi))
  ·by_cases ad:c'=c
   ·subst ad;exact⟨_,ah⟩
   ·obtain⟨w2,z2⟩:=I.cell y c' e;exact⟨w2,z2.sameBut J ad⟩
  ·obtain⟨e,n,ne,nf,d⟩:=I.pin p hp;refine⟨(J.2 p.1 ?_).trans e,n,ne,nf,d⟩;intro q;rw[q,ae] at e;have q':oc=p.2:=qi e;exact d w' (by rw[<- q'];exact af)
theorem D_8 {M:Model}{A:Around}{E:Value->Shared->Prop}{i:Nat}{x:Str}{v:V}{u:Value}{Q:Unit->Shared->Prop} (I:Inv X pins σ H s) (q:X.N.Nodup) (hi:X.N[i]?=some x) (hx:Loc X.env.scope x) (r:RelV v u)
  (h:∀ s',Inv X pins (σ.set i (some v)) H s'->Q () s') (J:X.fn x=true\/X.env.scope.names.lookup x=some .local):wpAny M A (storeName X.env x u) Q E s :=
 U_1 I q hi hx r (λ s' O _=>h s' O) J
theorem Inv.call'  (I:Inv X pins σ H s) (O:s'.os=s.os) (u:Un (frs X.stack) ch H H' s.heap s'.heap) (q:HOk X.prog X.w H' s'.heap) (Y:AllBare s'.gens)
  (J:∀ b∈ch,(b∈X.ex\/X.s₀.heap.objs.size<=b)/\b≠X.env.locals/\(∀ x c,X.env.cells.lookup x=some c->c≠b)/\∀ p∈X.pn++pins,p.1≠b):Inv X pins σ H' s':=by
 obtain⟨h',g',d',t',o'⟩:=s';have e:=O;subst e;exact I.call u q Y J
end
abbrev XK:=Value->Option Addr->Hp->Prop
noncomputable abbrev St:=List (Option V)
abbrev VK:=V->Hp->Prop
abbrev TE:=St->Hp->VK->Prop
abbrev TT:=St->Hp->(Bool->Hp->Prop)->Prop
abbrev TA:=St->Hp->(List V->Hp->Prop)->Prop
structure Ends where
 nx:St->Hp->Prop
 rt:VK
 bk:St->Hp->Prop:=λ _ _=>False
 ct:St->Hp->Prop:=λ _ _=>False
abbrev TS:=Ends->St->Hp->Prop
def EP (X:Cx) (pins:List (Addr×Obj)) (σ:St) (Q:VK) (u:Value) (s':Shared):Prop:=∃ v H',Inv X pins σ H' s'/\RelV v u/\Q v H'
def TP (X:Cx) (pins:List (Addr×Obj)) (σ:St) (Q:Bool->Hp->Prop) (b:Bool) (s':Shared):Prop:=∃ H',Inv X pins σ H' s'/\Q b H'
def AP (X:Cx) (pins:List (Addr×Obj)) (σ:St) (Q:List V->Hp->Prop) (us:List Value) (s':Shared):Prop:=∃ vs H',Inv X pins σ H' s'/\Vals vs us/\Q vs H'
def SP (X:Cx) (pins:List (Addr×Obj)) (D:Ends) (f:Flow) (s':Shared):Prop :=
 match f with
 |.next=>∃ q H',Inv X pins q H' s'/\D.nx q H'
 |.brk=>∃ q H',Inv X pins q H' s'/\D.bk q H'
 |.cont=>∃ q H',Inv X pins q H' s'/\D.ct q H'
 |.ret u=>∃ v q H',Inv X pins q H' s'/\RelV v u/\D.rt v H'
def PE (X:Cx) (e:Expr) (t:TE):Prop :=
 ∀ (pins:List (Addr×Obj)) (s:Shared) (σ:St) (H:Hp) (Q:VK),Inv X pins σ H s->t σ H Q->wpAny (model X.prog X.w) X.A (eval e X.env) (EP X pins σ Q) X.xe s
def PT (X:Cx) (e:Expr) (t:TT):Prop :=
 ∀ (pins:List (Addr×Obj)) (s:Shared) (σ:St) (H:Hp) (Q:Bool->Hp->Prop),Inv X pins σ H s->t σ H Q->wpAny (model X.prog X.w) X.A (isTrue e X.env (eval e X.env)) (TP X pins σ Q) X.xe s
def PW (X:Cx) (e:Expr) (t:TT):Prop :=
 ∀ (q:Sem Value) (pins:List (Addr×Obj)) (s:Shared) (σ:St) (H:Hp) (Q:Bool->Hp->Prop),Inv X pins σ H s->t σ H Q->wpAny (model X.prog X.w) X.A (isTrue e X.env q) (TP X pins σ Q) X.xe s
theorem PW.pt  (h:PW X e t):PT X e t:=h _
def PA (X:Cx) (es:List Expr) (t:TA):Prop :=
 ∀ (pos:Pos) (pins:List (Addr×Obj)) (s:Shared) (σ:St) (H:Hp) (Q:List V->Hp->Prop),Inv X pins σ H s->t σ H Q->wpAny (model X.prog X.w) X.A (spliced (backTo pos (starEach es X.env))) (AP X pins σ Q) X.xe s
def PS (X:Cx) (st:Stmt) (t:TS):Prop :=
 ∀ (pins:List (Addr×Obj)) (s:Shared) (σ:St) (H:Hp) (D:Ends),Inv X pins σ H s->t D σ H->wpAny (model X.prog X.w) X.A (exec st X.env) (SP X pins D) X.xe s
def PSs (X:Cx) (st:List Stmt) (t:TS):Prop :=
 ∀ (pins:List (Addr×Obj)) (s:Shared) (σ:St) (H:Hp) (D:Ends),Inv X pins σ H s->t D σ H->wpAny (model X.prog X.w) X.A (execs st X.env) (SP X pins D) X.xe s
theorem ex5 {A B C:α->q->Prop}{P:Prop} (h:∀ x y,A x y->B x y->C x y->P) (e:∃ x y,A x y/\B x y/\C x y):P:=by obtain⟨x,y,a,b,c⟩:=e;exact h x y a b c
theorem thn  (h:wpAny M A t Q E s) (J:∀ a s,Q a s->q a s):wpAny M A t q E s:=yg h J λ _ _ x=>x
section
variable {X:Cx}
def bN2 (i:Nat):TE:=λ σ H Q=>∃ v,σ[i]?=some (some v)/\Q v H
def tC (v:V):TE:=λ _ H Q=>Q v H
theorem i_4 {i:Nat}{x:Str}{pos:Pos} (Y:X.N[i]?=some x) (hv:Vis X.env.scope x) (hd:(x==("__debug__":Str))=false) (J:(x==("__classdict__":Str))=false):PE X (.Name x pos) (bN2 i):=by
 intro pins s σ H Q I h;obtain⟨v,e,h⟩:=h;obtain⟨m,Z,O⟩:=I.loc;obtain⟨u,r,l⟩:=O i x v Y e hv;have fin:EP X pins σ Q u s:=⟨v,H,I,r,h⟩;rcases l with ⟨q,hm⟩ | ⟨q,c,hc,hcell⟩
 ·exact wpAny_Name (wpAny_loadName_local I.ok.kind q Z hm fin) hd
 ·rcases q with q | q
  ·exact wpAny_Name (wpAny_loadName_cell I.ok.kind q hc hcell fin) hd
  ·exact wpAny_Name (wpAny_loadName_free I.ok.kind q hc hcell fin J) hd
theorem K_4 :PE X (.Constant (.int i) j pos) (tC (.int i)):=λ _ _ _ H _ I h=>wpAny_Constant_int ⟨.int i,H,I.tok _,⟨_,rfl⟩,h⟩
theorem bG2 :PE X (.Constant (.bool b) j pos) (tC (.bl b)):=λ _ _ _ H _ I h=>Constant_bool ⟨.bl b,H,I,rfl,h⟩
theorem bn8 :PE X (.Constant .none j pos) (tC .non):=λ _ _ _ H _ I h=>Constant_none ⟨.non,H,I,rfl,h⟩
theorem V_2 :PE X (.Constant (.str x) j pos) (tC (.str x)):=λ _ _ _ H _ I h=>Calls.Constant_str ⟨.str x,H,I.tok _,⟨_,rfl⟩,h⟩
def Gl (X:Cx) (x:Str):Prop:=X.env.kindOf x=some .globalImplicit
theorem A_2 {E:Value->Shared->Prop}{pins:List (Addr×Obj)}{s:Shared}{σ:St}{H:Hp}{x:Str}{u:Value}{pos:Pos}{Q:Value->Shared->Prop} (I:Inv X pins σ H s) (q:Gl X x) (J:X.mg x=some u) (h:Q u s)
  (hd:(x==("__debug__":Str))=false):wpAny (model X.prog X.w) X.A (eval (.Name x pos) X.env) Q E s :=
 Calls.Name_function_global I.ok.kind q (Calls.loadGlobal_global (by rw[I.ok.glob];exact I.mod.glob.keeps I.bk) J h) hd
theorem X_0  (I:Inv X pins σ H s) (Y:Gl X x) (q:X.mg x=none) (O:bootBuiltins x=some u) (h:Q u s)
  (J:x≠"__name__":=by decide) (hd:(x==("__debug__":Str))=false:=by decide):wpAny (model X.prog X.w) X.A (eval (.Name x pos) X.env) Q E s:=by
 obtain⟨Z,h1,h2⟩:=I.mod.blt;exact Calls.Name_function_global I.ok.kind Y (Calls.loadGlobal_builtin (by rw[I.ok.glob];exact I.mod.glob.keeps I.bk) q (by rw[I.ok.blt];exact h1.keeps I.bk) ((h2 x J).trans O) h) hd
theorem aY9 {x:Str}{v:V}{u:Value}{pos:Pos} (q:Gl X x) (J:X.mg x=some u) (r:RelV v u) (hd:(x==("__debug__":Str))=false):PE X (.Name x pos) (tC v) :=
 λ _ _ _ H _ I h=>A_2 I q J ⟨v,H,I,r,h⟩ hd
theorem aZ2  (J:Gl X x) (O:X.mg x=none) (q:bootBuiltins x=some u) (r:RelV v u) (Y:x≠"__name__":=by decide) (hd:(x==("__debug__":Str))=false:=by decide):PE X (.Name x pos) (tC v) :=
 λ _ _ _ H _ I h=>X_0 I J O q ⟨v,H,I,r,h⟩ Y hd
variable {a b:Expr}{ta tb:TE}{pos:Pos}
def tB (t:TE):TT:=λ σ H Q=>t σ H λ x H1=>∃ c,x=.bl c/\Q c H1
theorem bm9  (h:PE X e t) (Y:∀ J,isTrue e X.env J=(do let v <- J;standAt e.pos;holding [v] (truthy v)):=by intro _;rfl):PT X e (tB t):=by intro pins s σ H Q I O;refine isTrue_plain (thn (h pins s σ H _ I O) λ v s1=>ex5 λ x H1 Z r1 q1=>?_) (Y _);obtain⟨d,rfl,q⟩:=q1;cases r1;exact jk ⟨H1,Z,q⟩
variable {tA tB':TT}{rest:List Expr}
def tAnd (t u:TT):TT:=λ σ H Q=>t σ H λ c H1=>if c=true then u σ H1 Q else Q false H1
def tOr (t u:TT):TT:=λ σ H Q=>t σ H λ c H1=>if c=true then Q true H1 else u σ H1 Q
def tNot (t:TT):TT:=λ σ H Q=>t σ H λ c H1=>Q (!c) H1
theorem aX6 (q:PT X a tA):PW X (.BoolOp .And [a] pos) tA:=by
 intro J pins s σ H Q I h;refine isTrue_and (thn (q pins s σ H Q I h) λ c s1 e=>?_);cases c with
 |true=>exact isTrue_and_nil e
 |false=>exact e
theorem bm4 (q:PT X a tA):PW X (.BoolOp .Or [a] pos) tA:=by
 intro J pins s σ H Q I h;refine isTrue_or (thn (q pins s σ H Q I h) λ c s1 e=>?_);cases c with
 |false=>exact isTrue_or_nil e
 |true=>exact e
theorem bm5 (Z:PT X a tA) (hb:PW X (.BoolOp .And (b::rest) pos) tB'):PW X (.BoolOp .And (a::b::rest) pos) (tAnd tA tB'):=by
 intro Y pins s σ H Q I h;refine isTrue_and (thn (Z pins s σ H _ I h) λ c s1 q=>?_);obtain⟨H1,J,O⟩:=q;cases c with
 |true=>exact hb Y pins s1 σ H1 Q J O
 |false=>exact⟨H1,J,O⟩
theorem bF9 (Z:PT X a tA) (hb:PW X (.BoolOp .Or (b::rest) pos) tB'):PW X (.BoolOp .Or (a::b::rest) pos) (tOr tA tB'):=by
 intro Y pins s σ H Q I h;refine isTrue_or (thn (Z pins s σ H _ I h) λ c s1 q=>?_);obtain⟨H1,J,O⟩:=q;cases c with
 |true=>exact⟨H1,J,O⟩
 |false=>exact hb Y pins s1 σ H1 Q J O
theorem bn0 (q:PT X a tA):PT X (.UnaryOp .Not a pos) (tNot tA):=by intro pins s σ H Q I h;exact isTrue_not (q pins s σ H (λ c H1=>Q (!c) H1) I h)
def bC0 (ta tb:TE):TE:=λ σ H Q=>ta σ H λ x H1=>∃ c,x=.bl c/\if c=true then tb σ H1 Q else Q (.bl false) H1
def bX0 (ta tb:TE):TE:=λ σ H Q=>ta σ H λ x H1=>∃ c,x=.bl c/\if c=true then Q (.bl true) H1 else tb σ H1 Q
def bB1 (ta:TE):TE:=λ σ H Q=>ta σ H λ x H1=>∃ c,x=.bl c/\Q (.bl (!c)) H1
theorem bn6  (h:PE X a t):PE X (.BoolOp op [a] pos) t:=λ pins s σ H Q I q=>BoolOp_one (h pins s σ H Q I q)
theorem bo1 (O:PE X a ta) (Y:PE X (.BoolOp .And (b::rest) pos) tb):PE X (.BoolOp .And (a::b::rest) pos) (bC0 ta tb):=by
 intro pins s σ H Q I h;refine BoolOp_and (thn (O pins s σ H _ I h) λ v s1=>ex5 λ x H1 J r1 q=>?_);obtain⟨c,rfl,q⟩:=q;cases r1;refine jk ?_;cases c with
 |true=>exact Y pins s1 σ H1 Q J q
 |false=>exact⟨.bl false,H1,J,rfl,q⟩
theorem bG1 (O:PE X a ta) (Y:PE X (.BoolOp .Or (b::rest) pos) tb):PE X (.BoolOp .Or (a::b::rest) pos) (bX0 ta tb):=by
 intro pins s σ H Q I h;refine BoolOp_or (thn (O pins s σ H _ I h) λ v s1=>ex5 λ x H1 J r1 q=>?_);obtain⟨c,rfl,q⟩:=q;cases r1;refine jk ?_;cases c with
 |false=>exact Y pins s1 σ H1 Q J q
 |true=>exact⟨.bl true,H1,J,rfl,q⟩
theorem bn7 (O:PE X a ta):PE X (.UnaryOp .Not a pos) (bB1 ta):=by intro pins s σ H Q I h;refine UnaryOp_ (thn (O pins s σ H _ I h) λ v s1=>ex5 λ x H1 J r1 q=>?_);obtain⟨c,rfl,q⟩:=q;cases r1;exact not_of (jk ⟨.bl (!c),H1,J,rfl,q⟩)
def tIf (t:TT) (ta tb:TE):TE:=λ σ H Q=>t σ H λ c H1=>if c=true then ta σ H1 Q else tb σ H1 Q
theorem aI5  (hc:PT X c tA) (Y:PE X a ta) (Z:PE X b tb):PE X (.IfExp c a b pos) (tIf tA ta tb):=by
 intro pins s σ H Q I h;refine wpAny_IfExp (thn (hc pins s σ H _ I h) λ d s1 q=>?_);obtain⟨H1,O,J⟩:=q;cases d with
 |true=>exact Y pins s1 σ H1 Q O J
 |false=>exact Z pins s1 σ H1 Q O J
end
def SqL (K:Frag) (H:Hp) (a:Addr) (xs:List V):Prop :=
 Rd H a (.lst xs) \/
  ∃ (o:Obj) (q:Array Value) (n:Nat),K.lookup a=some o ∧ o.cls=.type "list" ∧ o.dict=none ∧ o.data=.seq q n ∧ q.size ≤ sizeLine ∧ Vals xs q.toList
def SqT (K:Frag) (H:Hp) (a:Addr) (xs:List V):Prop :=
 Rd H a (.tup xs) \/
  ∃ (o:Obj) (q:Array Value) (n:Nat),K.lookup a=some o ∧ o.cls=.type "tuple" ∧ o.dict=none ∧ o.data=.seq q n ∧ q.size ≤ sizeLine ∧ Vals xs q.toList
noncomputable def cf9:Value->Option V
 |.none=>some .non
 |.bool b=>some (.bl b)
 |.int i _=>some (.int i)
 |.str x _=>some (.str x)
 |.bytes b _=>some (.byt b)
 |.float b _=>some (.flt b)
 |.ref a=>some (.ref a)
 |.type n=>some (.ty n)
 |_=>none
theorem RelV.abs  (r:RelV x u):cf9 u=some x:=by
 cases x with
 |non=>cases r;rfl
 |bl _=>cases r;rfl
 |int _=>obtain⟨t,rfl⟩:=r;rfl
 |str _=>obtain⟨t,rfl⟩:=r;rfl
 |byt _=>obtain⟨t,rfl⟩:=r;rfl
 |flt _=>obtain⟨t,rfl⟩:=r;rfl
 |ref _=>cases r;rfl
 |ty _=>cases r;rfl
theorem RelV.inj  (r:RelV x u) (q:RelV y u):x=y:=qi (r.abs.symm.trans q.abs)
theorem Vals.inj:∀ {xs ys:List V}{us:List Value},Vals xs us->Vals ys us->xs=ys
 |[],ys,us,h,k=>by cases h;cases k;rfl
 |x::xs,ys,us,h,k=>by
  cases h with
  |cons r t =>
   cases k with
   |cons q t'=>rw[r.inj q,Vals.inj t t']
section
variable {X:Cx}{pins:List (Addr×Obj)}{σ:St}{H:Hp}{s:Shared}{a:Addr}{xs ys:List V}
theorem SqL.of {K:Frag} (h:H a=some (.lst xs)):SqL K H a xs:=.inl (.inl h)
theorem Inv.list (I:Inv X pins σ H s) (h:SqL X.K H a xs):∃ q:List Value,Vals xs q/\PlainL s.heap a q.toArray/\xs.length<=sizeLine:=by
 rcases h with h | ⟨o,q,n,hk,hc,hd,hs,hz,r⟩
 ·obtain⟨z,q,n,r,e⟩:=h.ok I.hok;exact⟨q,r,⟨_,n,e,rfl,rfl,rfl⟩,z⟩
 ·refine⟨q.toList,r,⟨o,n,I.kIn a o hk,hc,hd,by simpa using hs⟩,?_⟩;have e:=r.length;simp only[zb] at e;omega
theorem Inv.tuple (I:Inv X pins σ H s) (h:SqT X.K H a xs):∃ q:List Value,Vals xs q/\IsTup s.heap a q.toArray/\xs.length<=sizeLine:=by
 rcases h with h | ⟨o,q,n,hk,hc,_,hs,hz,r⟩
 ·obtain⟨z,q,r,p⟩:=h.ok I.hok;exact⟨q,r,p.tup,z⟩
 ·refine⟨q.toList,r,⟨o,I.kIn a o hk,hc,n,by simpa using hs⟩,?_⟩;have e:=r.length;simp only[zb] at e;omega
theorem Inv.tupleN (I:Inv X pins σ H s) (h:SqT X.K H a xs):∃ q:List Value,Vals xs q/\IsTuN s.heap a q.toArray/\xs.length<=sizeLine:=by
 rcases h with h | ⟨o,q,n,hk,hc,hd,hs,hz,r⟩
 ·obtain⟨z,q,r,p⟩:=h.ok I.hok;exact⟨q,r,p,z⟩
 ·refine⟨q.toList,r,⟨o,I.kIn a o hk,hc,⟨n,by simpa using hs⟩,hd⟩,?_⟩;have e:=r.length;simp only[zb] at e;omega
theorem Inv.list_inj (I:Inv X pins σ H s) (h:SqL X.K H a xs) (h':SqL X.K H a ys):xs=ys:=by
 obtain⟨q,r,⟨o,n,e,_,_,d⟩,_⟩:=I.list h;obtain⟨its',O,⟨o',Y,J,_,_,d'⟩,_⟩:=I.list h';rw[e] at J;cases J;rw[d] at d';injection d' with d1 _
 have:q=its':=by simpa using Qk Array.toList d1
 subst this;exact r.inj O
theorem Inv.tuple_inj (I:Inv X pins σ H s) (h:SqT X.K H a xs) (h':SqT X.K H a ys):xs=ys:=by
 obtain⟨q,r,⟨o,e,_,n,d⟩,_⟩:=I.tuple h;obtain⟨its',O,⟨o',J,_,Y,d'⟩,_⟩:=I.tuple h';rw[e] at J;cases J;rw[d] at d';injection d' with d1 _
 have:q=its':=by simpa using Qk Array.toList d1
 subst this;exact r.inj O
end
noncomputable abbrev Cx.wish (X:Cx) (E:Value->Shared->Prop):Cx:={X with xe:=E}
abbrev Cx.nox (X:Cx):Cx:=X.wish λ _ _=>False
theorem Cx.Ok.wish {X:Cx} (ok:X.Ok) (E:Value->Shared->Prop):(X.wish E).Ok :=
 ⟨ok.mod,ok.kind,ok.glob,ok.blt,ok.above,ok.inj,ok.has,ok.cab,ok.hd,ok.frames,ok.stk,ok.exf,ok.bs,ok.bsz,ok.noex,ok.exfs,ok.funs,ok.frf⟩
theorem Cx.Ok.unwish {X:Cx} (ok:(X.wish E).Ok):X.Ok :=
 ⟨ok.mod,ok.kind,ok.glob,ok.blt,ok.above,ok.inj,ok.has,ok.cab,ok.hd,ok.frames,ok.stk,ok.exf,ok.bs,ok.bsz,ok.noex,ok.exfs,ok.funs,ok.frf⟩
section
variable {X:Cx}{pins:List (Addr×Obj)}{σ:St}{H:Hp}{s:Shared}{E:Value->Shared->Prop}
theorem Inv.wish (I:Inv X pins σ H s) (E:Value->Shared->Prop):Inv (X.wish E) pins σ H s:=⟨I.ok.wish E,I.os,I.bare,I.base,I.loc,I.cell,I.free,I.freeC,I.pin,I.hok,I.len⟩
theorem Inv.unwish (I:Inv (X.wish E) pins σ H s):Inv X pins σ H s:=⟨I.ok.unwish,I.os,I.bare,I.base,I.loc,I.cell,I.free,I.freeC,I.pin,I.hok,I.len⟩
theorem SP.unwish  (h:SP (X.wish E) pins D f s'):SP X pins D f s':=by
 cases f with
 |next=>obtain⟨J,H',I,q⟩:=h;exact⟨J,H',I.unwish,q⟩
 |brk=>obtain⟨J,H',I,q⟩:=h;exact⟨J,H',I.unwish,q⟩
 |cont=>obtain⟨J,H',I,q⟩:=h;exact⟨J,H',I.unwish,q⟩
 |ret u=>obtain⟨v,J,H',I,r,q⟩:=h;exact⟨v,J,H',I.unwish,r,q⟩
theorem PSs.nox {st:List Stmt} (h:PSs X.nox st t):PSs X st t:=λ pins s σ H D I J =>
 yg (h pins s σ H D (I.wish _) J) (λ _ _ q=>q.unwish) λ _ _ z=>False.elim z
end
section
variable {st:Stmt}{rest:List Stmt}
def bB2:TS:=λ D σ H=>D.nx σ H
def bW8 (t u:TS):TS:=λ D σ H=>t {D with nx:=u D} σ H
theorem au8:PSs X [] bB2:=λ _ _ σ H _ I h=>Qj ⟨σ,H,I,h⟩
theorem k_9 (h1:PS X st t) (h2:PSs X rest u):PSs X (st::rest) (bW8 t u):=by
 intro pins s σ H D I h;refine Z5 (thn (h1 pins s σ H {D with nx:=u D} I h) λ f s1 q=>?_);cases f with
 |next =>
  obtain⟨J,H',O,q⟩:=q;exact h2 pins s1 J H' D O q
 |ret v=>exact q
 |brk=>exact q
 |cont=>exact q
theorem s_8 (h1:PS X st t):PSs X [st] t:=by
 intro pins s σ H D I h;refine Z5 (thn (h1 pins s σ H D I h) λ f s1 q=>?_);cases f with
 |next=>exact Qj q
 |ret v=>exact q
 |brk=>exact q
 |cont=>exact q
theorem Inv.quiet  (I:Inv X pins σ H s):interactive X.env=false:=by simp[interactive,I.ok.kind]
def bB3 (te:TE):TS:=λ D σ H=>te σ H λ _ H1=>D.nx σ H1
theorem av1 (q:PE X e te) (J:swapsWith e none pos.line X.env=pure false):PS X (.Expr e pos) (bB3 te):=by intro pins s σ H D I h;exact wpAny_Expr_any (thn (q pins s σ H _ I h) λ v s1=>ex5 λ x H1 O r1 Y=>⟨σ,H1,O,Y⟩) I.quiet J
def bW9 (te:TE):TS:=λ D σ H=>te σ H D.rt
theorem au9 (J:PE X e te):PS X (.Return (some e) pos) (bW9 te):=by intro pins s σ H D I h;exact wpAny_Return_some (thn (J pins s σ H _ I h) λ v s1=>ex5 λ x H1 q r1 O=>⟨x,σ,H1,q,r1,O⟩)
def bX4 (c:TT) (t u:TS):TS:=λ D σ H=>c σ H λ b H1=>if b=true then t D σ H1 else u D σ H1
theorem aY1  (hc:PT X c tc) (Y:PSs X a t) (Z:PSs X b u):PS X (.If c a b pos) (bX4 tc t u):=by
 intro pins s σ H D I h;refine wpAny_If (thn (hc pins s σ H _ I h) λ d s1 q=>?_);obtain⟨H1,O,J⟩:=q;cases d with
 |true=>exact Y pins s1 σ H1 D O J
 |false=>exact Z pins s1 σ H1 D O J
end
abbrev TG:=V->St->Hp->(St->Hp->Prop)->Prop
abbrev TGs:=List V->St->Hp->(St->Hp->Prop)->Prop
def PG (X:Cx) (q:Expr) (t:TG):Prop :=
 ∀ (pins:List (Addr×Obj)) (s:Shared) (σ:St) (H:Hp) (v:V) (u:Value) (Q:St->Hp->Prop),Inv X pins σ H s->RelV v u->t v σ H Q ->
  wpAny (model X.prog X.w) X.A (assign q X.env u) (λ _ s'=>∃ J H',Inv X pins J H' s'/\Q J H') X.xe s
def PGs (X:Cx) (ts:List Expr) (t:TGs):Prop :=
 ∀ (pins:List (Addr×Obj)) (s:Shared) (σ:St) (H:Hp) (vs:List V) (us:List Value) (Q:St->Hp->Prop),Inv X pins σ H s->Vals vs us->t vs σ H Q ->
  wpAny (model X.prog X.w) X.A (assignInOrder ((assignEach ts X.env).map (·.2)) us) (λ _ s'=>∃ q H',Inv X pins q H' s'/\Q q H') X.xe s
abbrev bM3:=V->V->V->Hp->(Hp->Prop)->Prop
def bV6 (X:Cx) (t:bM3):Prop :=
 ∀ (pins:List (Addr×Obj)) (s:Shared) (σ:St) (H:Hp) (o i v:V) (q J u:Value) (Q:Hp->Prop),Inv X pins σ H s->RelV o q->RelV i J->RelV v u->t o i v H Q ->
  wpAny (model X.prog X.w) X.A (setItem q J u) (λ _ s'=>∃ H',Inv X pins σ H' s'/\Q H') X.xe s
section
def bc8 (i:Nat):TG:=λ v σ H Q=>Q (σ.set i (some v)) H
theorem av9 {i:Nat}{x:Str} (q:X.N.Nodup) (hi:X.N[i]?=some x) (hx:Loc X.env.scope x) (J:X.fn x=true\/X.env.scope.names.lookup x=some .local):PG X (.Name x pos) (bc8 i):=by intro pins s σ H v u Q I r h;exact wpAny_assign_Name (D_8 I q hi hx r (λ s' O=>⟨_,H,O,h⟩) J)
def cc6:TGs:=λ vs σ H Q=>vs=[]/\Q σ H
def bI3 (t:TG) (u:TGs):TGs:=λ vs σ H Q=>∃ v r,vs=v::r/\t v σ H λ q H'=>u r q H' Q
theorem aY8:PGs X [] cc6:=by intro pins s σ H vs us Q I r h;obtain⟨e,h⟩:=h;subst e;cases r;exact assignInOrder_nil ⟨σ,H,I,h⟩
theorem aI3 {e:Expr}{es:List Expr}{t:TG}{u:TGs} (h1:PG X e t) (h2:PGs X es u)
  (Y:(assignEach (e::es) X.env).map (·.2)=assign e X.env::(assignEach es X.env).map (·.2)):PGs X (e::es) (bI3 t u):=by
 intro pins s σ H vs us Q I r h;obtain⟨v,vr,e1,h⟩:=h;subst e1;cases r with
 |cons r Z =>
  rw[Y];refine assignInOrder_cons (thn (h1 pins s σ H _ _ _ I r h) λ _ s1 q=>?_);obtain⟨J,H1,I1,O⟩:=q;exact h2 pins s1 J H1 _ _ Q I1 Z O
def cc3 (K:Frag) (n:Nat) (t:TGs):TG:=λ v σ H Q=>∃ a xs,v=.ref a/\SqT K H a xs/\xs.length=n/\t xs σ H Q
theorem bn4 {es:List Expr}{k:Nat}{t:TGs}{n:Nat} (Z:X.calm=true) (h:PGs X es t)
  (hn:(assignEach es X.env).length=n) (q:(assignEach es X.env).findIdx? (·.1)=none):PG X (.Tuple es k pos) (cc3 X.K n t):=by
 intro pins s σ H v u Q I r J;obtain⟨a,xs,e1,Y,hl,J⟩:=J;subst e1;cases r;obtain⟨aa,O,ht,hz⟩:=I.tuple Y;refine assign_Tuple_tuple (I.ok.hd Z) ht (by simp[hn,<- hl,O.length]) q λ h' hx=>?_;have I1:Inv X pins σ H {s with heap:=h'}:=I.kept (t':=s.toks) λ b o e=>hx b o (qt (qm e)) e;exact h pins _ σ H xs _ Q I1 (by simpa using O) J
def cc5 (to q:TE) (t:bM3):TG:=λ v σ H Q=>to σ H λ o H1=>q σ H1 λ i H2=>t o i v H2 λ J=>Q σ J
theorem aQ0  (ho:PE X o to) (hi:PE X i Y) (hs:bV6 X t)
  (ha:∀ v,assign (.Subscript o i pos) X.env v=(do
   let q <- holding [v] (eval o X.env)
   let O <- holding [v,q] (eval i X.env)
   standAt pos
   holding [v,q,O] (setItem q O v)
   release [v,q,O] []):=by intro _;rfl):PG X (.Subscript o i pos) (cc5 to Y t):=by
 intro pins s σ H v u Q I r h;rw[ha];refine qb (zw (thn (ho pins s σ H _ I h) λ q s1=>ex5 λ x H1 I1 r1 q1=>?_));refine qb (zw (thn (hi pins s1 σ H1 _ I1 q1) λ O s2=>ex5 λ y H2 I2 r2 q2=>?_));refine qb (Qx (qb (zw (thn (hs pins s2 σ H2 x y v q O u _ I2 r1 r2 r q2) λ _ s3 J=>?_))));obtain⟨Z,I3,q3⟩:=J;exact wpAny_release ⟨σ,Z,I3,q3⟩
def bN5 (te:TE) (g:TG):TS:=λ D σ H=>te σ H λ x H1=>g x σ H1 D.nx
theorem av2  (Y:PE X e te) (Z:PG X tg g) (J:swapsWithSole [tg] e pos.line X.env=pure false:=by rfl) (O:swappedStores [tg] e X.env=pure none:=by rfl)
  (h1:(assignEach [tg] X.env).map (·.2)=[assign tg X.env]:=by rfl):PS X (.Assign [tg] e pos) (bN5 te g):=by
 intro pins s σ H D I h;refine wpAny_Assign_stores (thn (Y pins s σ H _ I h) λ v s1=>ex5 λ x H1 I1 r1 q1=>?_) J O;rw[h1];exact thn (Z pins s1 σ H1 x v _ I1 r1 q1) λ _ s2 q=>q
theorem x_7  (O:X.N.Nodup) (hi:X.N[i]?=some x) (hx:Loc X.env.scope x) (Z:PE X e te) (q:swapsWith e (some (.Name x pos')) pos.line X.env=pure false:=by rfl) (Y:X.fn x=true\/X.env.scope.names.lookup x=some .local:=by first | exact .inl rfl | exact .inr rfl | assumption) :
  PS X (.Assign [.Name x pos'] e pos) (bN5 te (bc8 i)):=by
 intro pins s σ H D I h;refine wpAny_Assign_Name (thn (Z pins s σ H _ I h) λ v s1=>ex5 λ y H1 I1 r1 q1=>?_) q;exact D_8 I1 O hi hx r1 (λ s2 J=>⟨_,H1,J,q1⟩) Y
end
section
def bk4 (c:TT) (tb:TS):TS:=λ D σ H=>∃ W:Nat->St->Hp->Prop,(∃ m,W m σ H)/\∀ m σ H,W m σ H ->
 c σ H λ b H1=>if b=true then ∃ N:St->Hp->Prop,(∀ q H',N q H'->∃ J,J<m/\W J q H')/\tb {D with nx:=N,ct:=N,bk:=D.nx} σ H1 else D.nx σ H1
theorem aI0  (hp:PassesOwn (model X.prog X.w) X.A X.env X.xe) (hc:PT X c tc) (hb:PSs X body tb):PS X (.While c body [] pos) (bk4 tc tb):=by
 intro pins s σ H D I h;obtain⟨W,⟨m0,w0⟩,turn⟩:=h;refine wpAny_While (codeAny_whileLoop (λ n s'=>∃ Y H',Inv X pins Y H' s'/\W n Y H') ?_ m0 ⟨σ,H,I,w0⟩);rintro n s1 ⟨J,H1,I1,w1⟩;refine Qi hp (thn (hc pins s1 J H1 _ I1 (turn n J H1 w1)) λ b s2 O=>?_);obtain⟨H2,I2,q2⟩:=O;cases b with
 |true =>
  obtain⟨N,hN,q2⟩:=q2;rw[if_pos rfl];refine Qi hp (thn (hb pins s2 J H2 _ I2 q2) λ f s3 q3=>?_);cases f with
  |next =>
   obtain⟨q,Z,I3,n3⟩:=q3;obtain⟨m',hm,w3⟩:=hN q Z n3;exact⟨m',hm,q,Z,I3,w3⟩
  |cont =>
   obtain⟨q,Z,I3,n3⟩:=q3;obtain⟨m',hm,w3⟩:=hN q Z n3;exact⟨m',hm,q,Z,I3,w3⟩
  |brk=>exact q3
  |ret v=>exact q3
 |false =>
  rw[if_neg zo];exact Qj ⟨J,H2,I2,q2⟩
end
structure It where
 go:Nat->Hp->Prop
 yld:Nat->Hp->V->Hp->Prop
 stop:Nat->Hp->Prop
def FpOk (X:Cx) (pins:List (Addr×Obj)) (H:Hp) (b:Addr):Prop :=
 H b=none/\b≠X.env.locals/\b∉X.fs/\(b∈X.ex\/X.s₀.heap.objs.size<=b)/\(∀ x c,X.env.cells.lookup x=some c->c≠b)/\∀ p∈X.pn++pins,p.1≠b
theorem Inv.fpOk  (I:Inv X pins σ H s) (J:s.heap.objs.size<=b) (Y:H' b=none):FpOk X pins H' b:=by
 refine⟨Y,Ye (qr I.lt J),I.nofs J,.inr (zf I.sz J),λ x c e z=>?_,λ p O z=>?_⟩
 ·obtain⟨v,q⟩:=I.cell x c e;exact absurd (qr q.lt (by rw[z];exact J)) (ji _)
 ·exact absurd (qr (qm (I.pin p O).1) (by rw[z];exact J)) (ji _)
structure Turn (P:Program) (w:World) (K:Frag) (tg:Expr) (J:It) (fp:List Addr) (it:Addr) (tn:Nat->Heap->Prop):Prop where
 mem:it∈fp
 obj:∀ i h,tn i h->∀ b∈fp,∃ o,h.get? b=some o/\∀ v,o.data≠.cell v
 keep:∀ i h h',tn i h->(∀ b∈fp,∀ o,h.get? b=some o->h'.get? b=some o)->tn i h'
 item:∀ (X:Cx),X.prog=P->X.w=w->X.K=K->X.calm=true->∀ (i:Nat) (pins:List (Addr×Obj)) (s:Shared) (σ:St) (H:Hp) (E:Value->Shared->Prop),Inv X pins σ H s->(∀ b∈fp,FpOk X pins H b)->tn i s.heap->J.go i H ->
  wpAny (model P w) X.A (pyNext (.ref it)) (λ r s1=>∃ u,r=some u /\
   wpAny (model P w) X.A (letOwnedTupleGo tg (.ref it) u) (λ _ s2=>∃ x H',Inv X pins σ H' s2/\RelV x u/\J.yld i H x H'/\tn (i+1) s2.heap/\∀ b∈fp,H' b=none) E s1) E s
 done:∀ (X:Cx),X.prog=P->X.w=w->X.K=K->X.calm=true->∀ (i:Nat) (pins:List (Addr×Obj)) (s:Shared) (σ:St) (H:Hp) (E:Value->Shared->Prop),Inv X pins σ H s->(∀ b∈fp,FpOk X pins H b)->tn i s.heap->J.stop i H ->
  wpAny (model P w) X.A (pyNext (.ref it)) (λ r s1=>r=none/\Inv X pins σ H s1) E s
 self:∀ (A:Around) (i:Nat) (s:Shared) (Q:Value->Shared->Prop) (E:Value->Shared->Prop),tn i s.heap->Q (.ref it) s->wpAny (model P w) A (pyIter (.ref it)) Q E s
abbrev TI:=St->Hp->(It->Hp->Prop)->Prop
def PIE (X:Cx) (pins:List (Addr×Obj)) (σ:St) (tg:Expr) (R:It->Hp->Prop) (q:Value) (s2:Shared):Prop :=
 ∃ (it:Addr) (O:List Addr) (Y:Nat->Heap->Prop) (J:It) (H':Hp),q=.ref it/\Inv X pins σ H' s2/\Turn X.prog X.w X.K tg J O it Y/\Y 0 s2.heap/\(∀ b∈O,FpOk X pins H' b)/\R J H'
def PI (X:Cx) (tg iter:Expr) (q:TI):Prop :=
 ∀ (pins:List (Addr×Obj)) (s:Shared) (σ:St) (H:Hp) (R:It->Hp->Prop),Inv X pins σ H s->q σ H R ->
  wpAny (model X.prog X.w) X.A (eval iter X.env) (λ v s1=>wpAny (model X.prog X.w) X.A (pyIter v) (PIE X pins σ tg R) X.xe s1) X.xe s
theorem aA3  (O:s.heap.get? it=some o) (Y:o.cls=.type n) (hd:o.data=.fields vs)
  (J:["enumerate","zip","dict_itemiterator","dict_reverseitemiterator","odict_iterator","itertools.zip_longest","itertools.pairwise"].contains n=false) (q:Q () s):wpAny M A (letOwnedTupleGo tg (.ref it) u) Q E s:=by
 cases tg <;> first
  |exact qc q
  |(cases u <;> first
    |exact qc q
    |(refine qb (wpAny_load O ?_);rw[Y,hd];show wpAny M A (if (["enumerate","zip","dict_itemiterator","dict_reverseitemiterator","odict_iterator","itertools.zip_longest","itertools.pairwise"].contains n&&vs[0]?==some (rawInt _))=true then _ else _) Q E s;rw[if_neg (by intro h;rw[J,Bool.false_and] at h;cases h)];exact qc q))
noncomputable def Itl (K:Frag) (a:Addr):It :=
 ⟨λ i H=>∃ xs x,SqL K H a xs/\xs[i]?=some x,λ i H x H'=>H'=H/\∀ xs,SqL K H a xs->xs[i]?=some x,λ i H=>∃ xs,SqL K H a xs/\xs.length<=i⟩
noncomputable def Itt (K:Frag) (a:Addr):It :=
 ⟨λ i H=>∃ xs x,SqT K H a xs/\xs[i]?=some x,λ i H x H'=>H'=H/\∀ xs,SqT K H a xs->xs[i]?=some x,λ i H=>∃ xs,SqT K H a xs/\xs.length<=i⟩
noncomputable def Itr (lo:Int) (n:Nat):It:=⟨λ i _=>i<n,λ i H x H'=>H'=H/\x=.int (lo+i),λ i _=>n<=i⟩
theorem ar8 {K:Frag} (a it:Addr):Turn P w K tg (Itl K a) [it] it (λ i h=>h.IsListIter it a i) where
 mem:=by simp
 obj:=λ i h st b q=>by
  have e:b=it:=by simpa using q
  subst e;obtain⟨o,e,c,d⟩:=st;exact⟨o,e,λ v z=>by rw[d] at z;cases z⟩
 keep:=λ i h h' st k=>st.at λ o e=>k it (by simp) o e
 item:=by
  intro X Z hw hK hc i pins s σ H E I O st hg;subst Z hw hK;obtain⟨xs,x,Y,hx⟩:=hg;obtain⟨aa,rv,p,hz⟩:=I.list Y;obtain⟨u,hu,ru⟩:=rv.get hx;obtain⟨f0,f1,f2,f3,f4,f5⟩:=O it (by simp);refine wpAny_pyNext_list_item st p.isList (by simpa using hu) λ h' J sb=>?_;have I1:=I.turned (t':=s.toks) (λ b o q e=>(sb.2 b q).trans e) f0 f1 f3 f4 f5;obtain⟨o,e,c,d⟩:=id J;exact⟨u,rfl,aA3 e c d (by decide) ⟨x,H,I1,ru,⟨rfl,λ ys hy=>by rw[I.list_inj hy Y];exact hx⟩,J,λ b q=>(O b q).1⟩⟩
 done:=by
  intro X Z hw hK hc i pins s σ H E I O st hg;subst Z hw hK;obtain⟨xs,Y,hx⟩:=hg;obtain⟨aa,rv,p,hz⟩:=I.list Y;obtain⟨f0,f1,f2,f3,f4,f5⟩:=O it (by simp);have hl:=rv.length;exact wpAny_pyNext_list_end (I.ok.hd hc) st p.isList (by simp;omega) λ h' eb=>⟨rfl,I.turned (λ b o q e=>eb b o q e) f0 f1 f3 f4 f5⟩
 self:=λ _ _ _ _ _ st h=>wpAny_pyIter_listiter st h
theorem an1 {K:Frag} (a it:Addr):Turn P w K tg (Itt K a) [it] it (λ i h=>h.IsTupleIter it a i) where
 mem:=by simp
 obj:=λ i h st b J=>by
  have e:b=it:=by simpa using J
  subst e;obtain⟨o,e,c,d⟩:=st;exact⟨o,e,λ v z=>by rw[d] at z;cases z⟩
 keep:=λ i h h' st k=>st.at λ o e=>k it (by simp) o e
 item:=by
  intro X hP hw hK hc i pins s σ H E I Y st hg;subst hP hw hK;obtain⟨xs,x,Z,hx⟩:=hg;obtain⟨q,rv,p,hz⟩:=I.tuple Z;obtain⟨u,hu,ru⟩:=rv.get hx;obtain⟨f0,f1,f2,f3,f4,f5⟩:=Y it (by simp);refine Z3 st (show s.heap.IsTuple a q.toArray from p) (by simpa using hu) λ h' O sb=>?_;have I1:=I.turned (t':=s.toks) (λ b o J e=>(sb.2 b J).trans e) f0 f1 f3 f4 f5;obtain⟨o,e,c,d⟩:=id O;exact⟨u,rfl,aA3 e c d (by decide) ⟨x,H,I1,ru,⟨rfl,λ ys hy=>by rw[I.tuple_inj hy Z];exact hx⟩,O,λ b J=>(Y b J).1⟩⟩
 done:=by
  intro X hP hw hK hc i pins s σ H E I Y st hg;subst hP hw hK;obtain⟨xs,Z,hx⟩:=hg;obtain⟨q,rv,p,hz⟩:=I.tuple Z;obtain⟨f0,f1,f2,f3,f4,f5⟩:=Y it (by simp);have hl:=rv.length;exact Z8 (I.ok.hd hc) st (show s.heap.IsTuple a q.toArray from p) (by simp;omega) λ h' eb=>⟨rfl,I.turned (λ b o J e=>eb b o J e) f0 f1 f3 f4 f5⟩
 self:=λ _ _ _ _ _ st h=>wpAny_pyIter_tupleiter st h
theorem an2 {K:Frag} (it:Addr) (lo:Int) (n:Nat):Turn P w K tg (Itr lo n) [it] it (λ i h=>IsRangeIter h it (lo+(i:Nat)*1) ((n:Int)-(i:Nat)) 1) where
 mem:=by simp
 obj:=λ i h st b q=>by
  have e:b=it:=by simpa using q
  subst e;exact⟨_,st,λ v z=>by
   have z':=z;cases z'⟩
 keep:=λ i h h' st k=>k it (by simp) _ st
 item:=by
  intro X Z hw hK hc i pins s σ H E I O st hg;subst Z hw hK;obtain⟨f0,f1,f2,Y,f4,f5⟩:=O it (by simp);have W:=Walks.range (prog:=X.prog) (w:=X.w) (I.ok.hd hc) it lo 1 n;refine W.item i s _ _ hg st λ v h' tk hv J kk=>?_;obtain⟨t,rfl⟩:=hv;have I1:Inv X pins σ H {s with heap:=h',toks:=tk}:=I.turned (λ b o q e=>kk b o (by simpa using q) e) f0 f1 Y f4 f5;refine⟨_,rfl,aA3 J rfl rfl (by decide) ⟨.int (lo+i),H,I1,⟨t,?_⟩,⟨rfl,rfl⟩,J,λ b q=>(O b q).1⟩⟩;rw[Zn]
 done:=by
  intro X Z hw hK hc i pins s σ H E I O st hg;subst Z hw hK;obtain⟨f0,f1,f2,Y,f4,f5⟩:=O it (by simp);exact wpAny_pyNext_range_end (I.ok.hd hc) st (by have:n<=i:=hg;omega) λ h' eb=>⟨rfl,I.turned (λ b o q e=>eb b o q e) f0 f1 Y f4 f5⟩
 self:=λ _ _ _ _ _ st h=>wpAny_pyIter_rangeiter st h
section
def br8 (K:Frag) (tl:TE):TI:=λ σ H R=>tl σ H λ x H1=>∃ a,x=.ref a/\(∃ xs,SqL K H1 a xs)/\R (Itl K a) H1
def bQ7 (K:Frag) (tl:TE):TI:=λ σ H R=>tl σ H λ x H1=>∃ a,x=.ref a/\(∃ xs,SqT K H1 a xs)/\R (Itt K a) H1
theorem ab1  (O:PE X l tl):PI X tg l (br8 X.K tl):=by
 intro pins s σ H R I h;refine thn (O pins s σ H _ I h) λ v s1=>ex5 λ x H1 J r1 q1=>?_;obtain⟨a,e,⟨xs,hq⟩,q⟩:=q1;subst e;cases r1;obtain⟨Z,rv,p,hz⟩:=J.list hq;refine wpAny_pyIter_list p.isList ?_;refine⟨s1.heap.objs.size,[s1.heap.objs.size],_,_,H1,rfl,J.kept λ b o e=>qd _ e,ar8 a _,⟨_,qk _ rfl,rfl,rfl⟩,λ b Y=>?_,q⟩;have e:b=s1.heap.objs.size:=by simpa using Y
 subst e;exact J.fpOk (qj _) (J.hok.fresh (qj _))
theorem bn1  (Y:PE X l tl):PI X tg l (bQ7 X.K tl):=by
 intro pins s σ H R I h;refine thn (Y pins s σ H _ I h) λ v s1=>ex5 λ x H1 J r1 q1=>?_;obtain⟨a,e,⟨xs,hq⟩,q⟩:=q1;subst e;cases r1;obtain⟨O,rv,p,hz⟩:=J.tuple hq;refine wpAny_pyIter_tuple (show s1.heap.IsTuple a O.toArray from p) ?_;refine⟨s1.heap.objs.size,[s1.heap.objs.size],_,_,H1,rfl,J.kept λ b o e=>qd _ e,an1 a _,⟨_,qk _ rfl,rfl,rfl⟩,λ b Z=>?_,q⟩;have e:b=s1.heap.objs.size:=by simpa using Z
 subst e;exact J.fpOk (qj _) (J.hok.fresh (qj _))
theorem aH4 {lo hi:Int} (I:Inv X pins σ H s) (h1:-(2 ^ 62)<=lo) (h2:lo<2 ^ 62) (O:-(2 ^ 62)<=hi) (Y:hi<2 ^ 62)
  (q:R (Itr lo (hi-lo).toNat) H):wpAny (model X.prog X.w) X.A (pyIter (.ref s.heap.objs.size)) (PIE X pins σ tg R) E {s with heap:=s.heap.push {cls:=.type "range",data:=.fields #[.int lo t,.int hi u,.int 1 v]},toks:=tk}:=by
 refine wpAny_pyIter_range (IsRange.new ..) (small_one h1 h2 O Y) ?_;have J:Inv X pins σ H {s with heap:=s.heap.push {cls:=.type "range",data:=.fields #[.int lo t,.int hi u,.int 1 v]},toks:=tk}:=I.kept λ b o e=>qd _ e;refine⟨(s.heap.push {cls:=.type "range",data:=.fields #[.int lo t,.int hi u,.int 1 v]}).objs.size,[(s.heap.push {cls:=.type "range",data:=.fields #[.int lo t,.int hi u,.int 1 v]}).objs.size],_,_,H,rfl,
  J.kept λ b o e=>qd _ e,an2 _ lo (hi-lo).toNat,?_,λ b Z=>?_,q⟩
 ·have e1:lo+((0:Nat):Int)*1=lo:=by simp
  have e2:(((hi-lo).toNat:Nat):Int)-((0:Nat):Int)=Builtin.Range.rangeSize lo hi 1:=by rw[rangeSize_one];split <;> omega
  rw[e1,e2];exact qk _ rfl
 ·have e:b=(s.heap.push {cls:=.type "range",data:=.fields #[.int lo t,.int hi u,.int 1 v]}).objs.size:=by simpa using Z
  subst e;exact J.fpOk (qj _) (J.hok.fresh (qj _))
def bI2 (ta:TA):TI:=λ σ H R=>ta σ H λ vs H1=>∃ j:Int,vs=[.int j]/\-(2 ^ 62)<=j/\j<2 ^ 62/\R (Itr 0 j.toNat) H1
theorem av7 {a:Expr}{ta:TA}{p pos:Pos} (hg:Gl X "range") (O:X.mg "range"=none) (Y:PA X [a] ta) (hs:starEach [a] X.env=[(false,eval a X.env)]):PI X tg (.Call (.Name "range" p) [a] [] pos) (bI2 ta):=by
 intro pins s σ H R I h;refine Call_ (X_0 I hg O boot_range (Zq (thn (Y pos pins s σ H _ I h) λ us s1=>ex5 λ vs H1 I1 r1 J=>?_) hs rfl));obtain⟨j,e,J,Z,q⟩:=J;subst e;cases r1 with
 |cons r rr =>
  cases rr;obtain⟨t,rfl⟩:=r;exact call_range_1 (aH4 I1 (by omega) (by omega) J Z (by simpa using q))
def bX5 (Z:TI) (g:TG) (tb:TS):TS:=λ D σ H=>Z σ H λ J H1=>∃ W:Nat->Nat->St->Hp->Prop,(∃ m,W 0 m σ H1)/\∀ i m σ H,W i m σ H ->
 (J.stop i H/\D.nx σ H)\/(J.go i H/\∃ N:St->Hp->Prop,(∀ q H',N q H'->∃ Y,Y<m/\W (i+1) Y q H')/\∀ x H',J.yld i H x H'->g x σ H' λ O H2=>tb {D with nx:=N,ct:=N,bk:=D.nx} O H2)
noncomputable def V_0 (q:List Addr) (h:Heap):List (Addr×Obj):=q.filterMap λ b=>(h.get? b).map λ o=>(b,o)
theorem u_2  (J:b∈q) (e:h.get? b=some o):(b,o)∈V_0 q h:=List.mem_filterMap.mpr ⟨b,J,by rw[e];rfl⟩
theorem ax2  (O:p∈V_0 J h):p.1∈J/\h.get? p.1=some p.2:=by
 obtain⟨b,Z,e⟩:=List.mem_filterMap.mp O;cases q:h.get? b with
 |none=>rw[q] at e;cases e
 |some o =>
  rw[q] at e;have Y:=qi e;subst Y;exact⟨Z,q⟩
theorem Inv.pinned  (I:Inv X pins σ H s) (hf:∀ b∈q,FpOk X pins H b) (ho:∀ b∈q,∃ o,s.heap.get? b=some o/\∀ v,o.data≠.cell v):Inv X (pins++V_0 q s.heap) σ H s :=
 I.pins_of λ p Y=>(qx Y).elim (λ z=>I.pin p (qo _ z)) λ z=>by
  obtain⟨O,e⟩:=ax2 z;obtain⟨f0,f1,Z,_⟩:=hf p.1 O;obtain⟨o,J,d⟩:=ho p.1 O;rw[e] at J;cases J;exact⟨e,f0,f1,Z,d⟩
theorem Inv.unpinned  (I:Inv X (pins++q) σ H s):Inv X pins σ H s:=I.pins_of λ p J=>I.pin p (qo _ (qp _ J))
theorem ah6 {iter:Expr}{body:List Stmt}{wi:TI}{g:TG}{tb:TS}{pos:Pos} (hp:PassesOwn (model X.prog X.w) X.A X.env X.xe) (hc:X.calm=true) (hi:PI X tg iter wi) (hg:PG X tg g) (hb:PSs X body tb)
  (hs:∀ x,foldedSetIterable iter X.env x=pure x):PS X (.For tg iter body [] pos) (bX5 wi g tb):=by
 intro pins s σ H D I h;refine wpAny_For (thn (hi pins s σ H _ I h) λ v s1 h1=>thn h1 λ ak s2 h2=>?_) hs;obtain⟨it,fp,tn,J,H2,e,I2,T,ah,f2,W,⟨m0,w0⟩,turn⟩:=h2;subst e;have aa:∀ {H':Hp},(∀ b∈fp,H' b=none)->∀ b∈fp,FpOk X pins H' b:=λ hn b hb=>⟨hn b hb,(f2 b hb).2⟩
 refine codeAny_forLoop_any (λ n s'=>∃ i ac H',Inv X pins ac H' s'/\tn i s'.heap/\(∀ b∈fp,H' b=none)/\W i n ac H') ?_ m0 ⟨0,σ,H2,I2,ah,λ b hb=>(f2 b hb).1,w0⟩;rintro n s3 ⟨i,ad,H3,I3,ag,af,w3⟩;rcases turn i n ad H3 w3 with ⟨stop,qn⟩ | ⟨go,N,hN,step⟩
 ·refine Qi hp (thn (T.done X rfl rfl rfl hc i pins s3 ad H3 X.xe I3 (aa af) ag stop) λ r s4 O=>?_);obtain⟨hr,I4⟩:=O;subst hr;exact Qj ⟨ad,H3,I4,qn⟩
 ·refine Qi hp (thn (T.item X rfl rfl rfl hc i pins s3 ad H3 X.xe I3 (aa af) ag go) λ r s4 O=>?_);obtain⟨u,hr,h4⟩:=O;subst hr;refine Qi hp (thn h4 λ _ s5 O=>?_);obtain⟨x,H5,I5,r5,y5,ae,ai⟩:=O;have I5':=I5.pinned (aa ai) (T.obj _ _ ae);refine Qi hp (thn (hg _ s5 ad H5 x u _ I5' r5 (step x H5 y5)) λ _ s6 O=>?_);obtain⟨aj,H6,I6,q6⟩:=O;refine Qi hp (thn (hb _ s6 aj H6 _ I6 q6) λ f s7 q7=>?_);have Z:∀ {q:St}{H7:Hp},Inv X (pins++V_0 fp s5.heap) q H7 s7->N q H7->∃ m,m<n/\∃ i ac H',Inv X pins ac H' s7/\tn i s7.heap/\(∀ b∈fp,H' b=none)/\W i m ac H':=λ {q H7} Y n7=>by
   obtain⟨m',hm,w7⟩:=hN q H7 n7;refine⟨m',hm,i+1,q,H7,Y.unpinned,T.keep _ _ _ ae λ b hb o e=>(Y.pin (b,o) (qo _ (qo _ (u_2 hb e)))).1,λ b hb=>?_,w7⟩;obtain⟨o,e,d⟩:=T.obj _ _ ae b hb;exact (Y.pin (b,o) (qo _ (qo _ (u_2 hb e)))).2.1
  cases f with
  |next=>obtain⟨q,H7,Y,n7⟩:=q7;exact Z Y n7
  |cont=>obtain⟨q,H7,Y,n7⟩:=q7;exact Z Y n7
  |brk=>obtain⟨q,H7,Y,q7⟩:=q7;exact⟨q,H7,Y.unpinned,q7⟩
  |ret v=>obtain⟨x7,q,H7,Y,r7,q7⟩:=q7;exact⟨x7,q,H7,Y.unpinned,r7,q7⟩
end
abbrev R2:=V->V->Hp->VK->Prop
def OpR (X:Cx) (f:Value->Value->Sem Value) (r:R2):Prop :=
 ∀ (pins:List (Addr×Obj)) (s:Shared) (σ:St) (H:Hp) (x y:V) (v u:Value) (Q:VK),Inv X pins σ H s->RelV x v->RelV y u->r x y H Q ->
  wpAny (model X.prog X.w) X.A (f v u) (EP X pins σ Q) X.xe s
def UnR (X:Cx) (f:Value->Sem Value) (r:V->Hp->VK->Prop):Prop :=
 ∀ (pins:List (Addr×Obj)) (s:Shared) (σ:St) (H:Hp) (x:V) (v:Value) (Q:VK),Inv X pins σ H s->RelV x v->r x H Q ->
  wpAny (model X.prog X.w) X.A (f v) (EP X pins σ Q) X.xe s
def CallR (X:Cx) (f:Value) (r:List V->Hp->VK->Prop):Prop :=
 ∀ (pins:List (Addr×Obj)) (s:Shared) (σ:St) (H:Hp) (xs:List V) (us:List Value) (Q:VK),Inv X pins σ H s->Vals xs us->r xs H Q ->
  wpAny (model X.prog X.w) X.A (call f us) (EP X pins σ Q) X.xe s
def cg2 (X:Cx) (r:V->Hp->(Bool->Hp->Prop)->Prop):Prop :=
 ∀ (pins:List (Addr×Obj)) (s:Shared) (σ:St) (H:Hp) (x:V) (v:Value) (Q:Bool->Hp->Prop),Inv X pins σ H s->RelV x v->r x H Q ->
  wpAny (model X.prog X.w) X.A (truthy v) (TP X pins σ Q) X.xe s
def tOp (r:R2) (ta tb:TE):TE:=λ σ H Q=>ta σ H λ x H1=>tb σ H1 λ y H2=>r x y H2 Q
def tUn (r:V->Hp->VK->Prop) (ta:TE):TE:=λ σ H Q=>ta σ H λ x H1=>r x H1 Q
def rI (C:Int->Int->Prop) (g:Int->Int->V):R2:=λ x y H Q=>∃ i j,x=.int i/\y=.int j/\C i j/\Q (g i j) H
def rI0 (g:Int->Int->V):R2:=λ x y H Q=>∃ i j,x=.int i/\y=.int j/\Q (g i j) H
def rU (g:Int->V):V->Hp->VK->Prop:=λ x H Q=>∃ i,x=.int i/\Q (g i) H
section
theorem bL8 (ha:PE X a ta) (hb:PE X b tb) {R:V->V->Hp->Prop} (I:Inv X pins σ H s)
  (h:ta σ H λ x H1=>tb σ H1 λ y H2=>R x y H2) {f:Value->Value->Sem Value}
  (Z:∀ v u s2 x y H2,Inv X pins σ H2 s2->RelV x v->RelV y u->R x y H2->wpAny (model X.prog X.w) X.A (f v u) Q X.xe s2) :
  wpAny (model X.prog X.w) X.A (eval a X.env) (λ v J=>wpAny (model X.prog X.w) X.A (eval b X.env) (λ u q=>wpAny (model X.prog X.w) X.A (f v u) Q X.xe q) X.xe J) X.xe s:=by
 refine thn (ha pins s σ H _ I h) λ v s1=>ex5 λ x H1 I1 r1 q1=>?_;refine thn (hb pins s1 σ H1 _ I1 q1) λ u s2=>ex5 λ y H2 O r2 Y=>?_;exact Z v u s2 x y H2 O r1 r2 Y
theorem aI4  (Z:OpR X (binaryOp op) r) (ha:PE X a ta) (hb:PE X b tb):PE X (.BinOp a op b pos) (tOp r ta tb):=by intro pins s σ H Q I h;exact wpAny_BinOp (bL8 ha hb I h λ v u s2 x y H2 O J Y q=>Z pins s2 σ H2 x y v u Q O J Y q)
theorem bG0  (O:UnR X (unaryOp op) r) (J:PE X a ta):PE X (.UnaryOp op a pos) (tUn r ta):=by intro pins s σ H Q I h;exact UnaryOp_ (thn (J pins s σ H _ I h) λ v s1=>ex5 λ x H1 q r1 Y=>O pins s1 σ H1 x v Q q r1 Y)
theorem opI {g:Int->Int->Int}
  (J:∀ (i j:Int) (t u:Tok) (s:Shared) (Q:Value->Shared->Prop) (E:Value->Shared->Prop),C i j->Q (.int (g i j) s.toks) {s with toks:=s.toks+1}->wpAny (model X.prog X.w) X.A (f (.int i t) (.int j u)) Q E s) :
  OpR X f (rI C λ i j=>.int (g i j)):=by
 intro pins s σ H x y v u Q I Y O h;obtain⟨i,j,rfl,rfl,Z,q⟩:=h;obtain⟨t,rfl⟩:=Y;obtain⟨t',rfl⟩:=O;exact J i j t t' s _ _ Z ⟨.int (g i j),H,I.tok _,⟨_,rfl⟩,q⟩
theorem bP8 {g:Int->Int->Int}
  (J:∀ (i j:Int) (t u:Tok) (s:Shared) (Q:Value->Shared->Prop) (E:Value->Shared->Prop),Q (.int (g i j) s.toks) {s with toks:=s.toks+1}->wpAny (model X.prog X.w) X.A (f (.int i t) (.int j u)) Q E s) :
  OpR X f (rI0 λ i j=>.int (g i j)):=by
 intro pins s σ H x y v u Q I Y O h;obtain⟨i,j,rfl,rfl,q⟩:=h;obtain⟨t,rfl⟩:=Y;obtain⟨t',rfl⟩:=O;exact J i j t t' s _ _ ⟨.int (g i j),H,I.tok _,⟨_,rfl⟩,q⟩
theorem bG8 {g:Int->Int->Bool}
  (J:∀ (i j:Int) (t u:Tok) (s:Shared) (Q:Value->Shared->Prop) (E:Value->Shared->Prop),Q (.bool (g i j)) s->wpAny (model X.prog X.w) X.A (f (.int i t) (.int j u)) Q E s) :
  OpR X f (rI0 λ i j=>.bl (g i j)):=by
 intro pins s σ H x y v u Q I Y O h;obtain⟨i,j,rfl,rfl,q⟩:=h;obtain⟨t,rfl⟩:=Y;obtain⟨t',rfl⟩:=O;exact J i j t t' s _ _ ⟨.bl (g i j),H,I,rfl,q⟩
def cg4 (i j:Int):Prop:=0<=j/\j<=1000000/\i.natAbs<2 ^ 64
theorem op_add:OpR X (binaryOp .Add) (rI0 λ i j=>.int (i+j)):=bP8 λ _ _ _ _ _ _ _ q=>add_int q
theorem bo5:OpR X (binaryOp .Sub) (rI0 λ i j=>.int (i-j)):=bP8 λ _ _ _ _ _ _ _ q=>sub_int q
theorem aZ9:OpR X (binaryOp .Mod) (rI (λ _ j=>j≠0) λ i j=>.int (i.fmod j)):=opI λ _ _ _ _ _ _ _ J q=>mod_int' J q
theorem bo6:OpR X (binaryOp .Pow) (rI cg4 λ i j=>.int (i ^ j.toNat)):=opI λ _ _ _ _ _ _ _ J q=>pow_int_small J.1 J.2.1 J.2.2 q
theorem unI {g:Int->Int}
  (J:∀ (i:Int) (t:Tok) (s:Shared) (Q:Value->Shared->Prop) (E:Value->Shared->Prop),Q (.int (g i) s.toks) {s with toks:=s.toks+1}->wpAny (model X.prog X.w) X.A (f (.int i t)) Q E s) :
  UnR X f (rU λ i=>.int (g i)):=by
 intro pins s σ H x v Q I O h;obtain⟨i,rfl,q⟩:=h;obtain⟨t,rfl⟩:=O;exact J i t s _ _ ⟨.int (g i),H,I.tok _,⟨_,rfl⟩,q⟩
theorem bj9:UnR X (unaryOp .USub) (rU λ i=>.int (-i)):=unI λ _ _ _ _ _ q=>neg_int q
end
section
variable {X:Cx}{a b c:Expr}{ta tb tc:TE}{pos:Pos}
theorem aB0  (I:Inv X pins σ H s) (q:Q (.bl k) H) (e:k=J):EP X pins σ Q (.bool J) s:=by subst e;exact⟨.bl k,H,I,rfl,q⟩
theorem bG5:OpR X (compareOp .Lt) (rI0 λ i j=>.bl (decide (i<j))):=bG8 λ _ _ _ _ _ _ _ q=>lt_int q
theorem bG6:OpR X (compareOp .LtE) (rI0 λ i j=>.bl (decide (i<=j))):=bG8 λ _ _ _ _ _ _ _ q=>le_int q
theorem bG7:OpR X (compareOp .Gt) (rI0 λ i j=>.bl (decide (j<i))):=bG8 λ _ _ _ _ _ _ _ q=>gt_int q
theorem aw7:OpR X (compareOp .In) (λ x y H Q=>∃ i j,x=.str i/\y=.str j/\Q (.bl (!(Builtin.Str.occurrences j i 0 j.length 1).isEmpty)) H):=by intro pins s σ H x y v u Q I O J h;obtain⟨i,j,rfl,rfl,q⟩:=h;obtain⟨t,rfl⟩:=O;obtain⟨t',rfl⟩:=J;exact in_str (aB0 I q rfl)
theorem bo8:OpR X (compareOp .Is) (λ x y H Q=>y=.non/\Q (.bl (decide (x=.non))) H):=by
 intro pins s σ H x y v u Q I J O h;obtain⟨rfl,q⟩:=h;cases O;refine is_none_gen (aB0 I q ?_);cases x <;> first
  |(cases J;rfl)
  |(obtain⟨t,rfl⟩:=J;rfl)
theorem aZ8:OpR X (compareOp .IsNot) (λ x y H Q=>y=.non/\Q (.bl (!decide (x=.non))) H):=by
 intro pins s σ H x y v u Q I J O h;obtain⟨rfl,q⟩:=h;cases O;refine isnot_none_gen (aB0 I q ?_);cases x <;> first
  |(cases J;rfl)
  |(obtain⟨t,rfl⟩:=J;rfl)
theorem OpR.or  (h:OpR X f r) (h':OpR X f J):OpR X f (λ x y H Q=>r x y H Q\/J x y H Q):=by
 intro pins s σ H x y v u Q I Y O q;rcases q with q | q
 ·exact h pins s σ H x y v u Q I Y O q
 ·exact h' pins s σ H x y v u Q I Y O q
theorem ax3 (b:Expr)  (h:op≠.In:=by decide) (h2:op≠.NotIn:=by decide):behindInMarks op b=false:=by
 have e1:(op==CmpOp.In)=false:=by cases op <;> first | rfl | exact absurd rfl h
 have e2:(op==CmpOp.NotIn)=false:=by cases op <;> first | rfl | exact absurd rfl h2
 cases b <;> simp[behindInMarks,e1,e2]
theorem aZ1  (ho:OpR X (compareOp op) r) (ha:PE X a ta) (hb:PE X b tb) (O:behindInMarks op b=false):PE X (.Compare a [op] [b] pos) (tOp r ta tb):=by intro pins s σ H Q I h;exact wpAny_Compare1 (bL8 ha hb I h λ v u s2 x y H2 Y J Z q=>ho pins s2 σ H2 x y v u Q Y J Z q) O
def aV4 (t:TE):TT:=λ σ H Q=>t σ H λ x H'=>∃ k,x=.bl k/\Q k H'
theorem au7  (ho:OpR X (compareOp op) r) (ha:PE X a ta) (hb:PE X b tb) (J:behindInMarks op b=false):PT X (.Compare a [op] [b] pos) (aV4 (tOp r ta tb)):=by
 intro pins s σ H Q I h;refine wpAny_isTrue_Compare1 (thn (ha pins s σ H _ I h) λ v s1=>ex5 λ x H1 I1 r1 Y=>thn (hb pins s1 σ H1 _ I1 Y) λ u s2=>ex5 λ y H2 O r2 Z =>
  thn (ho pins s2 σ H2 x y v u _ O r1 r2 Z) λ c s3 ⟨z,q,I3,r3,k,e,q3⟩=>?_) J
 subst e;cases r3;exact jk ⟨q,I3,q3⟩
def aO9 (r Y:R2) (ta tb tc:TE):TE:=λ σ H Q=>ta σ H λ x H1=>tb σ H1 λ y H2=>r x y H2 λ z q=>∃ k,z=.bl k /\
 (if k=true then tc σ q λ J O=>Y y J O Q else Q (.bl false) q)
theorem aH9 {op q:CmpOp}{r r':R2} (ho:OpR X (compareOp op) r) (O:OpR X (compareOp q) r') (ha:PE X a ta) (hb:PE X b tb) (hc:PE X c tc)
  (hm:lastMarks [op,q] [b,c]=false):PT X (.Compare a [op,q] [b,c] pos) (aV4 (aO9 r r' ta tb tc)):=by
 intro pins s σ H Q I h;refine isTrue_chain (thn (ha pins s σ H _ I h) λ v s1=>ex5 λ x H1 I1 r1 q1=>test_link (thn (hb pins s1 σ H1 _ I1 q1) λ u s2=>ex5 λ y H2 I2 Y q2 =>
  thn (ho pins s2 σ H2 x y v u _ I2 r1 Y q2) λ d s3 ⟨z,Z,I3,r3,k,e,q3⟩=>?_)) hm
 subst e;cases r3;refine jk ?_;cases k with
 |false =>
  obtain⟨k',e',q'⟩:=q3;cases e';exact ite_ff ⟨Z,I3,q'⟩
 |true =>
  refine ite_tt (test_last (thn (hc pins s3 σ Z _ I3 q3) λ w' s4=>ex5 λ z' H4 I4 r4 q4=>thn (O pins s4 σ H4 y z' u w' _ I4 Y r4 q4) λ d' s5 J=>?_));obtain⟨z2,H5,I5,r5,k2,e2,q5⟩:=J;subst e2;cases r5;exact jk ⟨H5,I5,q5⟩
def bM2 (K:Frag) (x:V) (H:Hp) (k:Bool):Prop :=
 match x with
 |.non=>k=false
 |.bl b=>k=b
 |.int i=>k=(i != 0)
 |.str y=>y.length<=sizeLine/\k=((y.length:Int) != 0)
 |.byt y=>y.size<=sizeLine/\k=((y.size:Int) != 0)
 |.ref p=>(∃ xs,SqL K H p xs/\k=!xs.isEmpty)\/(∃ xs,SqT K H p xs/\k=!xs.isEmpty)\/∃ kvs,H p=some (.dK kvs)/\k=!kvs.isEmpty
 |_=>False
theorem ap4  (r:KV kvs vs):(!vs.isEmpty)=!kvs.isEmpty:=by cases r <;> rfl
theorem L_0  (r:Vals xs q):(!q.toArray.isEmpty)=!xs.isEmpty:=by cases r <;> simp
theorem G_9:(sizeLine:Nat)<2 ^ 63:=by rw[Qa];decide
theorem bk1:cg2 X (λ x H Q=>∃ k,bM2 X.K x H k/\Q k H):=by
 intro pins s σ H x v Q I Y h;obtain⟨k,e,q⟩:=h;have hs:=Qa;cases x with
 |non =>
  cases Y;have J:=e;subst J;exact truthy_none ⟨H,I,q⟩
 |bl b =>
  cases Y;have J:=e;subst J;exact jk ⟨H,I,q⟩
 |int i =>
  obtain⟨t,rfl⟩:=Y;have J:=e;subst J;exact PySem.P.truthy_int ⟨H,I,q⟩
 |str y =>
  obtain⟨t,rfl⟩:=Y;obtain⟨hy,J⟩:=e;subst J;exact PySem.P.truthy_str (by omega) ⟨H,I.tok _,q⟩
 |byt y =>
  obtain⟨t,rfl⟩:=Y;obtain⟨hy,J⟩:=e;subst J;exact PySem.W.truthy_bytes (by omega) ⟨H,I.tok _,q⟩
 |ref p =>
  cases Y;have J:=e;rcases J with ⟨xs,hx,J⟩ | ⟨xs,hx,J⟩ | ⟨kvs,hx,J⟩
  ·subst J;obtain⟨aa,r,Z,hz⟩:=I.list hx;have O:=r.length;exact wpAny_truthy_list Z.isList (by simp only[ze];omega) ⟨H,I.tok _,by rw[L_0 r];exact q⟩
  ·subst J;obtain⟨aa,r,Z,hz⟩:=I.tuple hx;have O:=r.length;exact truthy_tuple Z (by simp only[ze];omega) ⟨H,I.tok _,by rw[L_0 r];exact q⟩
  ·subst J;obtain⟨hz,hS,vs,r,m⟩:=I.hok p _ hx;have O:=Yz r;exact wpAny_truthy_dict hS m (by omega) ⟨H,I.tok _,by rw[ap4 r];exact q⟩
 |_=>exact (show False from e).elim
theorem aH8 (Y:PE X a ta) (J:∀ q,isTrue a X.env q=(do let v <- q;standAt a.pos;holding [v] (truthy v))) :
  PT X a (λ σ H Q=>ta σ H λ x H'=>∃ k,bM2 X.K x H' k/\Q k H'):=by
 intro pins s σ H Q I h;exact isTrue_plain (thn (Y pins s σ H _ I h) λ v s1=>ex5 λ x H1 O r1 Z=>bk1 pins s1 σ H1 x v Q O r1 Z) (J _)
theorem op_add_str:OpR X (binaryOp .Add) (λ x y H Q=>∃ i j,x=.str i/\y=.str j/\i.length+j.length<=sizeLine/\Q (.str (i++j)) H):=by intro pins s σ H x y v u Q I O J h;obtain⟨i,j,rfl,rfl,hz,q⟩:=h;obtain⟨t,rfl⟩:=O;obtain⟨t',rfl⟩:=J;exact add_str (λ t' tk=>⟨.str (i++j),H,I.tok _,⟨_,rfl⟩,q⟩) hz
theorem v_5  (r:Vals [x] us):∃ u,us=[u]/\RelV x u:=by
 cases r with
 |cons r1 q=>cases q;exact⟨_,rfl,r1⟩
theorem aF5  (r:Vals [x,y] us):∃ u q,us=[u,q]/\RelV x u/\RelV y q:=by
 cases r with
 |cons r1 O =>
  cases O with
  |cons r3 J=>cases J;exact⟨_,_,rfl,r1,r3⟩
theorem aN3:CallR X (.builtin "abs") (λ xs H Q=>∃ i,xs=[.int i] ∧ Q (.int (if i<0 then -i else i)) H):=by
 intro pins s σ H xs us Q I r h;obtain⟨i,rfl,q⟩:=h;obtain⟨u,rfl,t,rfl⟩:=v_5 r;exact call_abs_int λ u tk=>⟨.int (if i<0 then -i else i),H,I.tok _,⟨_,rfl⟩,q⟩
theorem aD5 (O:X.calm=true):CallR X (.builtin "max") (λ xs H Q=>∃ i j,xs=[.int i,.int j] ∧ Q (.int (if j > i then j else i)) H):=by
 intro pins s σ H xs us Q I r h;obtain⟨i,j,rfl,q⟩:=h;obtain⟨u,Y,rfl,⟨t,rfl⟩,⟨t',rfl⟩⟩:=aF5 r;refine max_two_ints (I.ok.hd O) λ h' tk k=>⟨_,H,I.kept k,?_,q⟩
 by_cases J:j > i
 ·rw[if_pos J,if_pos J];exact⟨_,rfl⟩
 ·rw[if_neg J,if_neg J];exact⟨_,rfl⟩
theorem aD3 (O:X.calm=true):CallR X (.builtin "min") (λ xs H Q=>∃ i j,xs=[.int i,.int j] ∧ Q (.int (if j<i then j else i)) H):=by
 intro pins s σ H xs us Q I r h;obtain⟨i,j,rfl,q⟩:=h;obtain⟨u,Y,rfl,⟨t,rfl⟩,⟨t',rfl⟩⟩:=aF5 r;refine min_two_ints (I.ok.hd O) λ h' tk k=>⟨_,H,I.kept k,?_,q⟩
 by_cases J:j<i
 ·rw[if_pos J,if_pos J];exact⟨_,rfl⟩
 ·rw[if_neg J,if_neg J];exact⟨_,rfl⟩
theorem aD6:CallR X (.type "int") (λ xs H Q=>(∃ i,xs=[.int i] ∧ Q (.int i) H) ∨ ∃ k,xs=[.bl k] ∧ Q (.int (if k then 1 else 0)) H):=by
 intro pins s σ H xs us Q I r h;rcases h with ⟨i,rfl,q⟩ | ⟨k,rfl,q⟩
 ·obtain⟨u,rfl,t,rfl⟩:=v_5 r;exact call_int_int ⟨.int i,H,I,⟨_,rfl⟩,q⟩
 ·obtain⟨u,rfl,r1⟩:=v_5 r;cases r1;exact call_int_bool ⟨.int (if k then 1 else 0),H,I.tok _,⟨_,rfl⟩,q⟩
end
theorem RelO.some_of  (r:RelO (some v) o):∃ u,o=some u/\RelV v u:=by
 cases o with
 |none=>exact (show False from r).elim
 |some u=>exact⟨u,rfl,r⟩
section
variable {X:Cx}{pins:List (Addr×Obj)}{σ:St}{H:Hp}{s:Shared}{a C dx:Addr}{fs:List (Str×V)}{f:Str}{v:V}{A:Around}{E:Value->Shared->Prop}
theorem bg9  (J:attributeBase e f env (eval e env)=eval e env)
  (h:wpAny (model prog w) A (eval e env) (λ o q=>wpAny (model prog w) A (getAttr o f true) Q E q) E s):wpAny (model prog w) A (eval (.Attribute e f pos) env) Q E s :=
 Attribute_any_ h (by rw[arm_eval_Attribute,J])
end
structure Room (k:Nat) (A:Around):Prop where
 hd:A.handled=none
 dp:A.depth+3*k+5<recursionLimit
 un:A.units+16*k+200<cLine
theorem Room.mono  (r:Room k A) (h:j<=k):Room j A:=⟨r.hd,by have:=r.dp;omega,by have:=r.un;omega⟩
theorem Room.deeper  (r:Room (k+1) A) (env:Env):Room k (A.deeper env) :=
 ⟨r.hd,by have:=r.dp;show A.depth+1+3*k+5<_;omega,by have:=r.un;show A.units+3+16*k+200<_;omega⟩
theorem ap1 {A:Around}:(A.under (.builtin "type.__call__" ⟨.ref C::us,q⟩)).depth=A.depth+1:=by
 first | rfl | simp[Around.under,Code.weight,Code.isCreation,Code.isGuard,Code.isCaller,Code.frames,Code.isFrame,guardIds]
theorem ap0 {A:Around}:(A.under (.builtin "type.__call__" ⟨.ref C::us,q⟩)).units=A.units+1:=by
 first | rfl | simp[Around.under,Code.cUnits,Code.frames,Code.isFrame]
theorem Room.make  (r:Room (k+1) A) (C:Addr) (us:List Value) (q:List (Str×Value)):Room k (A.under (.builtin "type.__call__" ⟨.ref C::us,q⟩)) :=
 ⟨r.hd,by have:=r.dp;rw[ap1];omega,by have:=r.un;rw[ap0];omega⟩
theorem Room.depth  (r:Room k A):A.depth<recursionLimit:=by have:=r.dp;omega
theorem Room.units  (r:Room k A):A.units+64<cLine:=by have:=r.un;omega
def bX2:TA:=λ _ H Q=>Q [] H
def bB6 (ta:TE) (q:TA):TA:=λ σ H Q=>ta σ H λ x H1=>q σ H1 λ xs H2=>Q (x::xs) H2
section
theorem l_0:PA X [] bX2:=λ _ _ _ _ H Q I h=>Calls.spliced_nil ⟨[],H,I,.nil,h⟩
theorem c_5 (ha:PE X e te) (J:PA X es t) (q:starEach (e::es) X.env=(false,eval e X.env)::starEach es X.env:=by rfl):PA X (e::es) (bB6 te t):=by
 intro pos pins s σ H Q I h;rw[q];refine Calls.spliced_cons (thn (ha pins s σ H _ I h) λ u s1=>ex5 λ x H1 Z r1 q1=>?_);exact thn (J pos pins s1 σ H1 _ Z q1) λ us s2=>ex5 λ xs H2 O r2 Y=>⟨x::xs,H2,O,.cons r1 r2,Y⟩
def bW7 (t:TA):TE:=λ σ H Q=>t σ H λ xs H1=>xs.length<=sizeLine/\∀ p,H1 p=none->Q (.ref p) (upd H1 p (.tup xs))
def bX3 (t:TA):TE:=λ σ H Q=>t σ H λ xs H1=>xs.length<=sizeLine/\∀ p,H1 p=none->Q (.ref p) (upd H1 p (.lst xs))
theorem ah7  (h:PA X es t):PE X (.Tuple es x1 pos) (bW7 t):=by intro pins s σ H Q I O;refine wpAny_Tuple_spliced (thn (h pos pins s σ H _ I O) λ us s1 ⟨xs,H1,J,r,z,q⟩=>⟨by rw[<- r.length];exact z,?_⟩);have Y:=J.hok.fresh (qj _);refine⟨.ref s1.heap.objs.size,upd H1 s1.heap.objs.size (.tup xs),J.laid (λ b u e=>qd _ e) (qj _) ?_,rfl,q _ Y⟩;exact⟨z,us,r,⟨_,qk _ rfl,rfl,⟨_,rfl⟩,rfl⟩⟩
theorem ah9 (h:PA X es t):PE X (.List es pos) (bX3 t):=by intro pins s σ H Q I O;refine wpAny_List_spliced (thn (h pos pins s σ H _ I O) λ us s1 ⟨xs,H1,J,r,z,q⟩=>⟨by rw[<- r.length];exact z,?_⟩);have Y:=J.hok.fresh (qj _);refine⟨.ref s1.heap.objs.size,upd H1 s1.heap.objs.size (.lst xs),J.laid (λ b u e=>qd _ e) (qj _) ?_,rfl,q _ Y⟩;exact⟨z,us,0,r,qk _ rfl⟩
end
abbrev Sp:=List V->Hp->VK->XK->Prop
abbrev CXT:=List Env->Hp->Shared->XK->Value->Shared->Prop
structure Env0 (P:Program) (w:World) (K:Frag) (mg:Str->Option Value) (base:Heap) (A:Around) (outer:List Env) (s:Shared) (H:Hp):Prop where
 frames:A.frames=some outer
 mod:Mod K mg base
 bs:∀ b o,base.get? b=some o->s.heap.get? b=some o/\H b=none
 bsz:base.objs.size<=s.heap.objs.size
 funs:s.heap.FunFrames base outer
 frf:∀ b∈frs outer,H b=none
 hok:HOk P w H s.heap
 bare:AllBare s.gens
def CE (outer:List Env) (P:Program) (w:World) (H:Hp) (s:Shared) (Q:VK) (u:Value) (s':Shared):Prop :=
 ∃ v H',s'.os=s.os/\AllBare s'.gens/\Un (frs outer) [] H H' s.heap s'.heap/\HOk P w H' s'.heap/\RelV v u/\Q v H'
def CR (CX:CXT) (outer:List Env) (P:Program) (w:World) (H:Hp) (s:Shared) (Q:VK) (E:XK) (r:Result) (s':Shared):Prop :=
 match r with
 |.ok (.ret u)=>CE outer P w H s Q u s'
 |.ok _=>False
 |.error e=>CX outer H s E e s'
structure FnOk (P:Program) (w:World) (K:Frag) (mg:Str->Option Value) (base:Heap) (CX:CXT) (k:Nat) (f:Addr) (fd:FuncData) (ps:List Str) (sp:Sp):Prop where
 len:∀ vs H Q E,sp vs H Q E->vs.length=ps.length
 run:∀ (A:Around) (outer:List Env) (s:Shared) (H:Hp) (args:Args) (us:List Value) (vs:List V) (Q:VK) (E:XK),Room k A->Env0 P w K mg base A outer s H->BindsTo s fd args (ps.zip us)->Vals vs us->sp vs H Q E ->
  codeAny (model P w) A (.call (.ref f) args) (CR CX outer P w H s Q E) s
theorem Env0.make {K:Frag} (e:Env0 P w K mg base A outer s H) (C:Addr) (us:List Value) (q:List (Str×Value)) :
  Env0 P w K mg base (A.under (.builtin "type.__call__" ⟨.ref C::us,q⟩)) outer s H:=⟨by first | exact e.frames | (simpa [Around.under,Code.envs,Code.isFrame,pushEnvs] using e.frames),e.mod,e.bs,e.bsz,e.funs,e.frf,e.hok,e.bare⟩
section
variable {X:Cx}{pins:List (Addr×Obj)}{σ:St}{H:Hp}{s s':Shared}
theorem Inv.env0 (I:Inv X pins σ H s):Env0 X.prog X.w X.K X.mg X.base X.A X.stack s H :=
 ⟨I.ok.frames,I.ok.mod,I.bs,zf I.ok.bsz I.sz,I.stack,I.stkFree,I.hok,I.bare⟩
theorem Inv.after  (I:Inv X pins σ H s) (h:CE X.stack X.prog X.w H s Q u s'):EP X pins σ Q u s':=by obtain⟨v,H',os,J,un,O,r,q⟩:=h;obtain⟨Z,g,d,t,Y⟩:=s';obtain rfl:Y=s.os:=os;exact⟨v,H',I.call un O J (λ b z=>absurd z (by simp)),r,q⟩
end
def bB7 (sp:Sp) (dvs:List V) (E:XK) (t:TA):TE:=λ σ H Q=>t σ H λ vs H1=>sp (vs++dvs) H1 Q E
def Binds (K:Frag) (fd:FuncData) (ps:List Str) (ds:List Value):Prop :=
 ∀ (s:Shared) (us:List Value),K.In s.heap->(us++ds).length=ps.length->BindsTo s fd ⟨us,[]⟩ (ps.zip (us++ds))
theorem Binds.all {K:Frag} (h:∀ us:List Value,us.length=ps.length->bindArgs fd ⟨us,[]⟩=pure (ps.zip us)):Binds K fd ps []:=λ s us _ q=>by
 rw[zm] at q ⊢;exact .of_eq (h us q)
def Passes (CX:CXT) (X:Cx) (E:XK):Prop:=∀ (pins:List (Addr×Obj)) (σ:St) (H:Hp) (s:Shared) (e:Value) (s':Shared),Inv X pins σ H s->CX X.stack H s E e s'->X.xe e s'
section
theorem bl7  (F:FnOk X.prog X.w X.K X.mg X.base CX k f fd ps sp) (Y:Room k X.A) (hb:Binds X.K fd ps ds) (hd:Vals dvs ds) (hx:Passes CX X E)
  (I:Inv X pins σ H s) (r:Vals vs us) (h:sp (vs++dvs) H Q E):wpAny (model X.prog X.w) X.A (call (.ref f) us) (EP X pins σ Q) X.xe s:=by
 have J:=r.append hd;have O:(us++ds).length=ps.length:=by rw[<- J.length];exact F.len _ _ _ _ h
 refine Zg (Qu (F.run X.A X.stack s H ⟨us,[]⟩ (us++ds) (vs++dvs) Q E Y I.env0 (hb s us I.kIn O) J h) λ r s' q=>?_);cases r with
 |error e=>exact hx pins σ H s e s' I q
 |ok Z =>
  cases Z with
  |ret u=>exact I.after q
  |next=>exact False.elim q
  |brk=>exact False.elim q
  |cont=>exact False.elim q
theorem N_7 (F:FnOk X.prog X.w X.K X.mg X.base CX k f fd ps sp) (hr:Room k X.A) (hg:Gl X x) (hm:X.mg x=some (.ref f)) (hk:keepIn X.K (.ref f)=true) (hb:Binds X.K fd ps ds) (hd:Vals dvs ds) (hx:Passes CX X E)
  (ha:PA X (e::es) t) (J:(x==("__debug__":Str))=false) (Z:starEach (e::es) X.env=(false,eval e X.env)::starEach es X.env) (O:(backTo pos (starEach es X.env)).any (·.1)=false) :
  PE X (.Call (.Name x p) (e::es) [] pos) (bB7 sp dvs E t):=by
 intro pins s σ H Q I h;refine Zs (A_2 I hg hm ?_ J);refine PySem.W.callWith_K (h₀:=X.base) I.ok.mod.kin hk (thn (ha pos pins s σ H _ I h) λ us s1=>ex5 λ vs H1 Y r q=>⟨Y.kIn,?_⟩) Z O;exact bl7 F hr hb hd hx Y r q
end
structure FnScope (N P:List Str) (sc:Scope):Prop where
 kind:sc.kind=.function
 co:sc.isCoroutine=false
 gen:sc.isGenerator=false
 nd:N.Nodup
 pre:N.take P.length=P
 par:∀ x∈P,sc.names.lookup x=some .local\/sc.names.lookup x=some .cell
 nofree:∀ y∈sc.names,y.2≠.free
theorem Y_8 :∀ {binds:List (Str×Value)}{m:Str->Option Value},(∀ v,(x,v)∉binds)->bindL q binds m x=m x
 |[],_,_=>rfl
 |(n,v)::r,m,h=>by
  unfold bindL;rw[Y_8 λ w J=>h w (List.mem_cons_of_mem _ J)];split
  ·have:x≠n:=by rintro rfl;exact h v qg
   simp[this]
  ·rfl
theorem Z_0 :∀ {binds:List (Str×Value)}{m:Str->Option Value},(∀ v,(x,v)∉binds)->bindC q binds m x=m x
 |[],_,_=>rfl
 |(n,v)::r,m,h=>by
  unfold bindC;rw[Z_0 λ w J=>h w (List.mem_cons_of_mem _ J)];split
  ·rfl
  ·have:x≠n:=by rintro rfl;exact h v qg
   simp[this]
theorem Y_9 :∀ {P:List Str}{vs:List Value}{i:Nat}{m:Str->Option Value},P.Nodup->P[i]?=some x->vs[i]?=some v->q x=some .local ->
  bindL q (P.zip vs) m x=some v
 |[],_,_,_,_,h,_,_=>by simp at h
 |_::_,[],_,_,_,_,h,_=>by simp at h
 |p::P,w::vs,0,m,nd,h1,h2,hk=>by
  simp at h1 h2;subst h1;subst h2;show bindL q ((p,w)::P.zip vs) m p=_;unfold bindL;rw[Y_8 λ v J=>(List.nodup_cons.mp nd).1 (List.of_mem_zip J).1,if_pos hk];simp
 |p::P,w::vs,i+1,m,nd,h1,h2,hk=>by
  show bindL q ((p,w)::P.zip vs) m x=_;exact Y_9 (List.nodup_cons.mp nd).2 (by simpa using h1) (by simpa using h2) hk
theorem Z_1 :∀ {P:List Str}{vs:List Value}{i:Nat}{m:Str->Option Value},P.Nodup->P[i]?=some x->vs[i]?=some v->q x≠some .local ->
  bindC q (P.zip vs) m x=some v
 |[],_,_,_,_,h,_,_=>by simp at h
 |_::_,[],_,_,_,_,h,_=>by simp at h
 |p::P,w::vs,0,m,nd,h1,h2,hk=>by
  simp at h1 h2;subst h1;subst h2;show bindC q ((p,w)::P.zip vs) m p=_;unfold bindC;rw[Z_0 λ v J=>(List.nodup_cons.mp nd).1 (List.of_mem_zip J).1,if_neg hk];simp
 |p::P,w::vs,i+1,m,nd,h1,h2,hk=>by
  show bindC q ((p,w)::P.zip vs) m x=_;exact Z_1 (List.nodup_cons.mp nd).2 (by simpa using h1) (by simpa using h2) hk
def start (N:List Str) (vs:List V):St:=vs.map some++List.replicate (N.length-vs.length) none
def R_5 (CX:CXT) (P:Program) (w:World) (K:Frag) (mg:Str->Option Value) (base:Heap) (N:List Str) (qual:Str) (scope:Scope) (f:Addr) (cd:Value) (A:Around) (outer:List Env) (s:Shared) (H:Hp) (E:XK):Cx where
 prog:=P
 w:=w
 K:=K
 mg:=mg
 base:=base
 A:=A.deeper (envOfC qual scope s.heap.objs.size f cd)
 N:=N
 s₀:=s
 H₀:=H
 env:=envOfC qual scope s.heap.objs.size f cd
 outer:=outer
 stack:=envOfC qual scope s.heap.objs.size f cd::outer
 ex:=[]
 calm:=true
 fn:=λ _=>true
 pn:=[]
 xe:=λ e s'=>wpAny (model P w) (A.deeper (envOfC qual scope s.heap.objs.size f cd)) (leaving (envOfC qual scope s.heap.objs.size f cd) e) (λ _ q=>CX outer H s E e q) (λ J q=>CX outer H s E J q) s'
theorem am0 {sc:Scope} (h:sc.names.lookup x=some .cell):∃ c,(cellsFrom n sc.names []).lookup x=some c:=by have q:=PySem.W.cellsFrom_some sc.names n [] (.inl h);exact Option.isSome_iff_exists.mp q
theorem aA0 {K:Frag}
  (S:FnScope N ps scope) (hd:A.handled=none) (e0:Env0 P w K mg base A outer s H) (hl:vs.length=ps.length) (r:Vals vs us)
  (x:InCallC s s.heap.objs.size (bindL (envOfC qual scope s.heap.objs.size f cd).kindOf (ps.zip us) λ _=>none) (cellsFrom (s.heap.objs.size+1) scope.names []) (bindC (envOfC qual scope s.heap.objs.size f cd).kindOf (ps.zip us) λ _=>none) s1) :
  Inv (R_5 CX P w K mg base N qual scope f cd A outer s H E) [] (start N vs) H s1:=by
 have aa:ps.length<=N.length:=by have:=Qk List.length S.pre;rw[jq] at this;omega
 obtain⟨h1,tk,rfl,hk⟩:=x.done;have O:∀ b:Addr,b∉(R_5 CX P w K mg base N qual scope f cd A outer s H E).ex:=λ b z=>absurd (show b∈([]:List Addr) from z) (by simp);refine⟨⟨e0.mod,S.kind,rfl,rfl,qj _,λ y z c h1 h2=>?_,λ y J=>?_,λ y c _ h=>?_,λ _=>hd,Around.frames_deeper e0.frames,.inr ⟨rfl,rfl⟩,λ b z=>absurd z (O b),e0.bs,e0.bsz,λ b _ _=>O b,λ b z=>absurd z (O b),e0.funs,e0.frf⟩,
  rfl,e0.bare,Un.kept hk,⟨_,x.toInCall.ns,λ i y v h1 h2 h3=>?_⟩,λ y c h=>⟨_,x.cell y c h⟩,e0.hok.fresh (qj _),λ y c h=>?_,λ p Y=>absurd (show p∈([]:List (Addr×Obj)) from Y) (by simp),e0.hok.kept hk,?_⟩
 ·exact name_of_addr x.apart (jo h1) (jo h2)
 ·have J:=J;rcases J with J | J
  ·exact am0 J
  ·exact absurd rfl (S.nofree _ (jo J))
 ·exact Zb (x.above y c (jo h))
 ·have hi:i<vs.length:=by
   unfold start at h2;by_cases hi:i<vs.length
   ·exact hi
   ·rw[yi (by simpa using hi)] at h2;rw[j9] at h2;split at h2 <;> cases h2
  have ha:vs[i]?=some v:=by
   unfold start at h2;rw[zq (by simpa using hi),zl] at h2;cases e:vs[i]? with
   |none=>rw[e] at h2;cases h2
   |some a=>rw[e] at h2;cases h2;rfl
  obtain⟨u,hu,rv⟩:=r.get ha;have Y:ps[i]?=some y:=by rw[<- S.pre,List.getElem?_take_of_lt (by omega)];exact h1
  have Z:ps.Nodup:=by rw[<- S.pre];exact S.nd.sublist (Zy _ _)
  refine⟨u,rv,?_⟩;rcases S.par y (zx Y) with k | k
  ·exact .inl ⟨k,Y_9 Z Y hu k⟩
  ·obtain⟨c,e⟩:=am0 k;refine .inr ⟨.inl k,c,e,?_⟩;have q:=x.cell y c e;rw[Z_1 Z Y hu (by show scope.names.lookup y≠_;rw[k];decide)] at q;exact q
 ·exact e0.hok.fresh (Zb (x.above y c (jo h)))
 ·unfold start;show _=N.length;rw[zc,qy,Ym];omega
theorem bd1 {K:Frag}{dV kV ae pm O ct oc:Value}
   (lk:K.lookup f=some ⟨oc,od,.func (fnOf name qual Y body scope dV kV ae pm an O ct),ag⟩) (ah:codeIn K O qual=true) (S:FnScope N ps scope)
  (len:∀ vs H Q E,sp vs H Q E->vs.length=ps.length)
  (aa:∀ (A:Around) (outer:List Env) (s:Shared) (H:Hp) (vs:List V) (Q:VK) (E:XK),Room k (A.deeper (envOfC qual scope s.heap.objs.size f O))->sp vs H Q E ->
   ∃ t,PSs (R_5 CX P w K mg base N qual scope f O A outer s H E) body t/\t {nx:=λ _ H'=>Q .non H',rt:=Q} (start N vs) H) :
  FnOk P w K mg base CX (k+1) f (fnOf name qual Y body scope dV kV ae pm an O ct) ps sp:=by
 refine⟨len,λ A outer s H args us vs Q E hr e0 hb r af=>?_⟩;have hl:=len _ _ _ _ af;have KX:=e0.mod.kin.keeps λ b o e=>(e0.bs b o e).1;have ai:=e0.mod.nolimit.keeps λ b o e=>(e0.bs b o e).1;have ac:∀ y∈ps.zip us,scope.names.lookup y.1=some .local\/(scope.names.lookup y.1=some .cell/\((cellsFrom (s.heap.objs.size+1) scope.names []).lookup y.1).isSome=true):=λ ad hy=>by
  obtain⟨n,v⟩:=ad;rcases S.par n (List.of_mem_zip hy).1 with q | q
  ·exact .inl q
  ·exact .inr ⟨q,PySem.W.cellsFrom_some _ _ _ (.inl q)⟩
 refine codeAny_call_function hr.depth (KX _ _ lk) rfl S.co S.gen rfl (PySem.W.codeRec_of KX ah) (hb _ _ _ _ ?_);refine wpAny_newFunctionEnv_cells S.kind ac λ env he s1 x=>?_;subst he;refine⟨ai.keeps x.toInCall.keep,codeAny_func ?_⟩;obtain⟨t,ht,hq⟩:=aa A outer s H vs Q E (hr.deeper _) af;have I:Inv (R_5 CX P w K mg base N qual scope f O A outer s H E) [] (start N vs) H s1:=aA0 S hr.hd e0 hl r x;refine yg (ht [] s1 (start N vs) H _ I hq) (λ fl s' hs=>?_) λ e s' hs=>hs;have fin:∀ {Z:St}{H':Hp}{v:V}{u:Value},Inv (R_5 CX P w K mg base N qual scope f O A outer s H E) [] Z H' s'->RelV v u->Q v H'->CE outer P w H s Q u s' :=
  λ {Z H' v u} J rv q=>⟨v,H',J.os,J.bare,J.base,J.hok,rv,q⟩
 cases fl with
 |ret u =>
  obtain⟨v,Z,H',J,rv,q⟩:=hs;exact fin J rv q
 |next =>
  obtain⟨Z,H',J,q⟩:=hs;exact fin (v:=V.non) J rfl q
 |brk =>
  obtain⟨_,_,_,q⟩:=hs;exact False.elim q
 |cont =>
  obtain⟨_,_,_,q⟩:=hs;exact False.elim q
section
variable {id T:String}
def tCB (r:List V->Hp->VK->Prop) (t:TA):TE:=λ σ H Q=>t σ H λ vs H1=>r vs H1 Q
theorem n_6 (hc:CallR X (.builtin id) r) (hg:Gl X x) (O:X.mg x=none) (hv:bootBuiltins x=some (.builtin id)) (ha:PA X (e::es) t) (Z:x≠"__name__":=by decide) (J:(x==("__debug__":Str))=false:=by decide)
  (he:starEach (e::es) X.env=(false,eval e X.env)::starEach es X.env:=by rfl) (q:(backTo pos (starEach es X.env)).any (·.1)=false:=by rfl):PE X (.Call (.Name x p) (e::es) [] pos) (tCB r t):=by
 intro pins s σ H Q I h;refine Zs (X_0 I hg O hv ?_ Z J);exact PyProof.Rows.callWith_builtin1 (thn (ha pos pins s σ H _ I h) λ us s1=>ex5 λ vs H1 I1 r1 Y=>hc pins s1 σ H1 vs us Q I1 r1 Y) he q
theorem x_8 (hc:CallR X (.type T) r) (hg:Gl X x) (Z:X.mg x=none) (hv:bootBuiltins x=some (.type T)) (ha:PA X (e::es) t) (hn:x≠"__name__") (q:(x==("__debug__":Str))=false)
  (O:starEach (e::es) X.env=(false,eval e X.env)::starEach es X.env) (J:(backTo pos (starEach es X.env)).any (·.1)=false):PE X (.Call (.Name x p) (e::es) [] pos) (tCB r t):=by
 intro pins s σ H Q I h;refine Zs (X_0 I hg Z hv ?_ hn q);exact Zq (thn (ha pos pins s σ H _ I h) λ us s1=>ex5 λ vs H1 I1 r1 Y=>hc pins s1 σ H1 vs us Q I1 r1 Y) O J
end
end L2
namespace HT
open PySem PyProof.Rows
section
variable {prog:Program}{w:World}{A:Around}{E:Value->Shared->Prop}{s:Shared}
noncomputable def sIx (n d:Nat):Option Int->Nat
 |none=>d
 |some v=>if v<0 then (v+(n:Int)).toNat else min v.toNat n
theorem bl4 (n d:Nat) (hd:d<=n) (o:Option Int):sIx n d o<=n:=by
 cases o with
 |none=>exact hd
 |some v =>
  show (if v<0 then (v+(n:Int)).toNat else min v.toNat n)<=n;by_cases q:v<0
  ·rw[if_pos q];omega
  ·rw[if_neg q];exact Nat.min_le_right _ _
theorem aC9 (v:Int) (n d:Nat):(if v<0 then max (v+(n:Int)) 0 else min v (n:Int))=((sIx n d (some v):Nat):Int):=by
 show (if v<0 then max (v+(n:Int)) 0 else min v (n:Int))=(((if v<0 then (v+(n:Int)).toNat else min v.toNat n):Nat):Int);by_cases q:v<0
 ·simp only[if_pos q];omega
 ·simp only[if_neg q];omega
theorem aq6 (lo hi:Option Int) (n:Nat):Builtin.Slice.sliceAdjust lo hi 1 (n:Int)=(((sIx n 0 lo:Nat):Int),((sIx n n hi:Nat):Int)):=by
 have h1:¬ ((1:Int)<0):=by omega
 unfold Builtin.Slice.sliceAdjust;refine Prod.ext ?_ ?_
 ·cases lo with
  |none=>rfl
  |some v=>exact aC9 v n 0
 ·cases hi with
  |none=>rfl
  |some v=>exact aC9 v n n
theorem ao1 (i j:Nat):Builtin.Slice.slicePlaces (i:Int) (j:Int) 1=j-i:=by
 unfold Builtin.Slice.slicePlaces;have h1:(1:Int) > 0:=by omega
 split <;> omega
theorem K_2  (p:IsPart v o) (h:Q o s):wpAny (model prog w) A (Builtin.Slice.slicePartIndex v) Q E s:=by
 cases p with
 |none=>exact slicePart_none h
 |int i t=>exact slicePart_int h
theorem C_8 {lo hi:Option Int}{n:Nat} (hs:s.heap.IsSliceOf Z Y O .none) (pl:IsPart Y lo) (pu:IsPart O hi)
  (h:Q (((sIx n 0 lo:Nat):Int),1,sIx n n hi-sIx n 0 lo) s):wpAny (model prog w) A (Builtin.Slice.sliceApplied (.ref Z) (pure (n:Int))) Q E s:=by
 obtain⟨os,J,aa,q⟩:=id hs;refine qb (qb (jw J q rfl (qb (jw J q rfl (qb (jw J q rfl (qc ?_)))))));refine qb (slicePart_none ?_);rw[if_neg (by decide)];refine qb (K_2 pl (qb (K_2 pu (qb (qc ?_)))));show wpAny _ _ (match Builtin.Slice.sliceAdjust lo hi 1 (n:Int) with | (lo,hi)=>pure (lo,(1:Int),Builtin.Slice.slicePlaces lo hi 1)) _ _ s;rw[aq6 lo hi n];show wpAny _ _ (pure (((sIx n 0 lo:Nat):Int),(1:Int),Builtin.Slice.slicePlaces ((sIx n 0 lo:Nat):Int) ((sIx n n hi:Nat):Int) 1)) _ _ s;rw[ao1];exact qc h
theorem aI2 (xs:Array Value) (i k:Nat):((List.range k).filterMap λ (m:Nat)=>xs[((i:Int)+(m:Int)*1).toNat]?).toArray=((xs.toList.drop i).take k).toArray:=by
 have e:(λ (m:Nat)=>xs[((i:Int)+(m:Int)*1).toNat]?)=λ m=>xs[i+m]?:=by
  funext m;have:((i:Int)+(m:Int)*1).toNat=i+m:=by omega
  rw[this]
 rw[e];have:=pick_run xs i k;rw[List.filterMap_map] at this;have e2:((λ x=>xs[x]?) ∘ λ x=>i+x)=λ m=>xs[i+m]?:=rfl;rw[e2] at this;rw[this]
theorem getItem_tuple_cut {lo hi:Option Int} (O:IsTup s.heap t items) (hs:s.heap.IsSliceOf Y vl vu .none) (pl:IsPart vl lo) (pu:IsPart vu hi)
  (hw:¬ (sIx items.size 0 lo=0/\sIx items.size items.size hi=items.size))
  (h:Q (.ref s.heap.objs.size) {s with heap:=s.heap.push {cls:=.type "tuple",data:=.seq ((items.toList.drop (sIx items.size 0 lo)).take (sIx items.size items.size hi-sIx items.size 0 lo)).toArray}})
  (hsz:items.size<=sizeLine):wpAny (model prog w) A (getItem (.ref t) (.ref Y)) Q E s:=by
 have J:sizeOk (.seq ((items.toList.drop (sIx items.size 0 lo)).take (sIx items.size items.size hi-sIx items.size 0 lo)).toArray):=by show ((items.toList.drop (sIx items.size 0 lo)).take (sIx items.size items.size hi-sIx items.size 0 lo)).toArray.size<=sizeLine;rw[ze,jq,List.length_drop,zb];omega
 have hj:sIx items.size items.size hi<=items.size:=bl4 _ _ (qj _) hi;obtain⟨os,Z,ac,ae⟩:=id hs;have aa:s.TypeIs (.ref Y) "slice":=⟨os,Z,ac⟩;unfold getItem
 try with_reducible refine zw ?_
 first | refine qb (qc ?_) | skip
 refine qb (wpAny_sequenceKey O.typeIs (by decide) ?_);refine qb (wpAny_callSpecial?_slot O.typeIs Jb
  (j0 Jb O.typeIs entry_tuple_getitem ?_ (args_tuple_getitem _ _)))
 show wpAny _ _ (Builtin.Tuple.tupleItemsOf (.ref t) >>= _) _ _ s;refine qb (tupleItemsOf_ O ?_);refine qb (Zp aa ?_);rw[if_pos (by decide)];refine qb (C_8 hs pl pu ?_);have ad:¬ ((((sIx items.size 0 lo:Nat):Int)==0&&(1:Int)==1&&(sIx items.size items.size hi-sIx items.size 0 lo)==items.size)=true):=by intro q;rw[zn,zn] at q;have q1:=eq_of_beq q.1.1;have q2:=eq_of_beq q.2;exact hw ⟨by omega,by omega⟩
 show wpAny _ _ (if (((sIx items.size 0 lo:Nat):Int)==0&&(1:Int)==1&&(sIx items.size items.size hi-sIx items.size 0 lo)==items.size)=true then _ else _) _ _ s;rw[if_neg ad,aI2]
 first
  |exact qb (yr (qc ⟨_,rfl,qc h⟩) J)
  |exact qb (yr (qb (qc (qc ⟨_,rfl,qc h⟩))) J)
  |exact qb (qb (yr (qc (qc ⟨_,rfl,qc h⟩)) J))
  |exact qb (qb (yr (qc ⟨_,rfl,qc h⟩) J))
end
end HT
namespace L2
open PySem PySem.Spec PyProof.Rows
abbrev TO:=St->Hp->(Option Int->Hp->Prop)->Prop
def PO (X:Cx) (e:Option Expr) (t:TO):Prop :=
 ∀ (pins:List (Addr×Obj)) (s:Shared) (σ:St) (H:Hp) (Q:Option Int->Hp->Prop),Inv X pins σ H s->t σ H Q ->
  wpAny (model X.prog X.w) X.A (evalPart e X.env) (λ u s'=>∃ o H',Inv X pins σ H' s'/\IsPart u o/\Q o H') X.xe s
def aV5:TO:=λ _ H Q=>Q none H
def bA8 (t:TE):TO:=λ σ H Q=>t σ H λ x H1=>∃ i,x=.int i/\Q (some i) H1
theorem intsAre_of :∀ {us:List Value},Vals (ns.map V.int) us->IntsAre us ns:=by
 induction ns with
 |nil=>intro us r;rw[zz] at r;cases r;exact .nil
 |cons n ns q =>
  intro us r;rw[zd] at r;cases r with
  |cons r1 J =>
   obtain⟨t,e⟩:=r1;subst e;exact .cons n t (q J)
section
variable {lo hi:Option Expr}
theorem aY7:PO X none aV5:=by intro pins s σ H Q I h;rw[evalPart_none];exact qc ⟨none,H,I,.none,h⟩
theorem aY6 (h:PE X e te):PO X (some e) (bA8 te):=by
 intro pins s σ H Q I J;rw[evalPart_some];refine thn (h pins s σ H _ I J) λ u s1=>ex5 λ x H1 O r1 Y=>?_;obtain⟨i,rfl,q⟩:=Y;obtain⟨t,rfl⟩:=r1;exact⟨some i,H1,O,.int i t,q⟩
def SlR (X:Cx) (r:V->Option Int->Option Int->Hp->VK->Prop):Prop :=
 ∀ (pins:List (Addr×Obj)) (s:Shared) (σ:St) (H:Hp) (x:V) (v O J:Value) (lo hi:Option Int) (q:Addr) (Q:VK),Inv X pins σ H s->RelV x v->s.heap.IsSliceOf q O J .none->IsPart O lo->IsPart J hi->r x lo hi H Q ->
  ∃ T id,typeLookup (.type T) "__getitem__"=pure (some (.builtin id)) ∧ s.TypeIs v T ∧ wpAny (model X.prog X.w) X.A (getItem v (.ref q)) (EP X pins σ Q) X.xe s
theorem SlR.or  (h:SlR X r) (h':SlR X r'):SlR X (λ x lo hi H Q=>r x lo hi H Q\/r' x lo hi H Q):=by
 intro pins s σ H x v vl Z lo hi J Q I Y O pl pu q;rcases q with q | q
 ·exact h pins s σ H x v vl Z lo hi J Q I Y O pl pu q
 ·exact h' pins s σ H x v vl Z lo hi J Q I Y O pl pu q
def tSl (r:V->Option Int->Option Int->Hp->VK->Prop) (te:TE) (tl th:TO):TE:=λ σ H Q=>te σ H λ x H1=>tl σ H1 λ l H2=>th σ H2 λ u q=>r x l u q Q
theorem ah8  (hr:SlR X r) (he:PE X e te) (hl:PO X lo tl) (hu:PO X hi th):PE X (.Subscript e (.Slice lo hi none p2) pos) (tSl r te tl th):=by
 intro pins s σ H Q I h;refine Subscript_ (thn (he pins s σ H _ I h) λ v s1=>ex5 λ x H1 I1 r1 q1=>?_);refine wpAny_Slice (thn (hl pins s1 σ H1 _ I1 q1) λ Y s2=>ex5 λ l H2 I2 pl q2=>thn (hu pins s2 σ H2 _ I2 q2) λ O J=>ex5 λ u Z I3 pu q3=>?_);rw[evalPart_none];refine qc ?_;have I4:Inv X pins σ Z {J with heap:=J.heap.push {cls:=.type "slice",data:=.fields #[Y,O,.none]}}:=I3.kept λ b ob q=>qd _ q;obtain⟨T,id,hT,ht,hg⟩:=hr pins {J with heap:=J.heap.push {cls:=.type "slice",data:=.fields #[Y,O,.none]}} σ Z x v Y O l u J.heap.objs.size Q I4 r1 (Heap.IsSliceOf.new ..) pl pu q3;exact tail_any ht hT hg (by with_unfolding_all rfl)
def aF0 (xs:List V) (lo hi:Option Int):List V:=(xs.drop (HT.sIx xs.length 0 lo)).take (HT.sIx xs.length xs.length hi-HT.sIx xs.length 0 lo)
theorem H_4 (xs:List V) (lo hi:Option Int):(aF0 xs lo hi).length<=xs.length:=by unfold aF0;rw[jq,List.length_drop];omega
def bZ3 (K:Frag):V->Option Int->Option Int->Hp->VK->Prop:=λ x lo hi H Q=>∃ a xs,x=.ref a/\SqT K H a xs /\
 ¬ (HT.sIx xs.length 0 lo=0/\HT.sIx xs.length xs.length hi=xs.length)/\∀ p,H p=none->Q (.ref p) (upd H p (.tup (aF0 xs lo hi)))
theorem aP2:SlR X (bZ3 X.K):=by
 intro pins s σ H x v vl vu lo hi sl Q I rx Z pl pu h;obtain⟨a,xs,rfl,hx,hw,q⟩:=h;cases rx;obtain⟨O,r,Y,hz⟩:=I.tuple hx;have J:O.toArray.size=xs.length:=by rw[ze];exact r.length.symm
 refine⟨"tuple",_,PyProof.Rows.slot_tuple_getitem.lookup,Y.typeIs,?_⟩;refine HT.getItem_tuple_cut Y Z pl pu (by rw[J];exact hw) ?_ (by rw[J];exact hz);rw[J];refine⟨.ref s.heap.objs.size,_,I.laid (λ b ob q=>qd _ q) (qj _) ?_,rfl,q _ (I.hok.fresh (qj _))⟩;exact⟨zf (H_4 xs lo hi) hz,_,(r.drop (HT.sIx xs.length 0 lo)).take (HT.sIx xs.length xs.length hi-HT.sIx xs.length 0 lo),IsTuN.new _ _⟩
end
noncomputable def ixN (n:Nat) (i:Int):Option Nat:=if 0<=i then (if i<n then some i.toNat else none) else if -(n:Int)<=i then some (i+n).toNat else none
def atI {α:Type} (xs:List α) (i:Int):Option α:=(ixN xs.length i).bind λ j=>xs[j]?
theorem az8  (h:ixN n i=some j):seqIndex? i n=some j/\j<n/\-(n:Int)<=i/\i<n:=by
 unfold ixN at h;by_cases q:0<=i
 ·rw[if_pos q] at h;by_cases h1:i<n
  ·rw[if_pos h1] at h;have e:=qi h;exact⟨by rw[seqIndex_of q h1,e],by omega,by omega,h1⟩
  ·rw[if_neg h1] at h;cases h
 ·rw[if_neg q] at h;by_cases h1:-(n:Int)<=i
  ·rw[if_pos h1] at h;have e:=qi h;exact⟨by rw[seqIndex_neg (by omega) h1,e],by omega,h1,by omega⟩
  ·rw[if_neg h1] at h;cases h
theorem af2  (h:atI xs i=some v):∃ j,seqIndex? i xs.length=some j/\xs[j]?=some v/\j<xs.length/\-(xs.length:Int)<=i/\i<xs.length:=by
 unfold atI at h;cases e:ixN xs.length i with
 |none=>rw[e] at h;cases h
 |some j =>
  rw[e] at h;obtain⟨h1,h2,q,J⟩:=az8 e;exact⟨j,h1,h,h2,q,J⟩
theorem atI_nat {xs:List α}{j:Nat}{v:α} (h:xs[j]?=some v):atI xs (j:Int)=some v:=by
 have q:=(List.getElem?_eq_some_iff.mp h).1;have e:ixN xs.length (j:Int)=some j:=by unfold ixN;rw[if_pos (by omega),if_pos (by omega)];simp
 unfold atI;rw[e];exact h
def T_1 (b:Expr):Prop:=∀ o i,subscripted b false o i=operate [o,i] (getItem o i)
def IxR (X:Cx) (r:R2):Prop :=
 ∀ (value q:Expr) (pins:List (Addr×Obj)) (s:Shared) (σ:St) (H:Hp) (x y:V) (v u:Value) (Q:VK),Inv X pins σ H s->RelV x v->RelV y u->r x y H Q ->
  subscripted q false v u=operate [v,u] (getItem v u)->wpAny (model X.prog X.w) X.A (subscriptTail value q v u) (EP X pins σ Q) X.xe s
def MtR (X:Cx) (id:String) (r:V->List V->Hp->VK->Prop):Prop :=
 ∀ (pins:List (Addr×Obj)) (s:Shared) (σ:St) (H:Hp) (x:V) (xs:List V) (v:Value) (us:List Value) (Q:VK),Inv X pins σ H s->RelV x v->Vals xs us->r x xs H Q ->
  wpAny (model X.prog X.w) X.A (call (.builtin id) (v::us)) (EP X pins σ Q) X.xe s
section
variable {X:Cx}{a b:Expr}{ta tb:TE}{pos:Pos}
theorem IxR.or  (h:IxR X r) (h':IxR X r'):IxR X (λ x y H Q=>r x y H Q\/r' x y H Q):=by
 intro value J pins s σ H x y v u Q I Y Z q O;rcases q with q | q
 ·exact h value J pins s σ H x y v u Q I Y Z q O
 ·exact h' value J pins s σ H x y v u Q I Y Z q O
theorem ab2  (Y:IxR X r) (ha:PE X a ta) (hb:PE X b tb) (J:T_1 b):PE X (.Subscript a b pos) (tOp r ta tb):=by intro pins s σ H Q I h;exact Subscript_ (bL8 ha hb I h λ v u s2 x y H2 Z O ry q=>Y a b pins s2 σ H2 x y v u Q Z O ry q (J _ _))
def bP3 (K:Frag):R2:=λ x y H Q=>∃ p xs i v,x=.ref p/\y=.int i/\SqL K H p xs/\atI xs i=some v/\Q v H
def bP1 (K:Frag):R2:=λ x y H Q=>∃ p xs i v,x=.ref p/\y=.int i/\SqT K H p xs/\atI xs i=some v/\Q v H
def bP2:R2:=λ x y H Q=>∃ z i c,x=.str z/\y=.int i/\z.length<=sizeLine/\atI z.cps.toList i=some c/\Q (.str ⟨#[c]⟩) H
theorem ix_list:IxR X (bP3 X.K):=by
 intro value O pins s σ H x y v u Q I rx ry h hs;obtain⟨p,xs,i,z,rfl,rfl,hq,he,q⟩:=h;cases rx;obtain⟨t,rfl⟩:=ry;obtain⟨Z,r,pl,hz⟩:=I.list hq;obtain⟨j,h1,h2,h3,h4,h5⟩:=af2 he;obtain⟨w,ew,J⟩:=r.get h2;have hl:=r.length;have hn:=G_9;have fin:EP X pins σ Q w s:=⟨z,H,I,J,q⟩;by_cases h0:0<=i
 ·have Y:i.toNat=j:=by rw[seqIndex_of h0 h5] at h1;exact qi h1
  exact item_listR pl.isList h0 (by omega) (by rw[Y];simpa using ew) fin hs
 ·have Y:(i+(Z.toArray.size:Int)).toNat=j:=by rw[seqIndex_neg (by omega) h4] at h1;rw[ze,<- hl];exact qi h1
  exact subscriptTail_builtinR pl.isList.typeIs slot_list_getitem.lookup
   (wpAny_getItem_list_neg pl.isList (by omega) (by rw[ze] <;> omega) (by omega) (by rw[Y];simpa using ew) ⟨rfl,fin⟩) hs
theorem ix_tup:IxR X (bP1 X.K):=by
 intro value O pins s σ H x y v u Q I rx ry h hs;obtain⟨p,xs,i,z,rfl,rfl,hq,he,q⟩:=h;cases rx;obtain⟨t,rfl⟩:=ry;obtain⟨aa,r,Y,hz⟩:=I.tuple hq;obtain⟨j,h1,h2,h3,h4,h5⟩:=af2 he;obtain⟨w,ew,J⟩:=r.get h2;have Z:=r.length;have hn:=G_9;have fin:EP X pins σ Q w s:=⟨z,H,I,J,q⟩;exact subscriptTail_builtinR Y.typeIs slot_tuple_getitem.lookup
  (getItem_tuple Y (by omega) (by omega) (by rw[ze,<- Z];exact h1) (by simpa using ew) ⟨rfl,fin⟩) hs
theorem br1:IxR X bP2:=by
 intro value J pins s σ H x y v u Q I rx ry h Y;obtain⟨z,i,c,rfl,rfl,hz,he,q⟩:=h;obtain⟨t,rfl⟩:=rx;obtain⟨t',rfl⟩:=ry;obtain⟨j,h1,h2,h3,Z,h5⟩:=af2 he;have O:z.cps.toList.length=z.length:=by simp[Str.length]
 rw[O] at h1 Z h5;have hn:=G_9;exact tail_any (typeIs_str s z t) slot_str_getitem.lookup (getItem_str (by
  have e1:decide (i < -(2 ^ 63:Int))=false:=yj (by omega);have e2:decide (i>=2 ^ 63)=false:=yj (by omega);rw[e1,e2,Bool.or_false]) (by rw[h1];simpa using h2) ⟨.str ⟨#[c]⟩,H,I.tok _,⟨_,rfl⟩,q⟩) Y
def rIx (K:Frag):R2:=λ x y H Q=>bP3 K x y H Q\/bP1 K x y H Q\/bP2 x y H Q
theorem br2:IxR X (rIx X.K):=ix_list.or (ix_tup.or br1)
theorem ao9 (q:List Value) (n j:Nat) (u:Value):Obj.mapSeq (·.setIfInBounds j u) {cls:=.type "list",data:=.seq q.toArray n}={cls:=.type "list",data:=.seq (q.set j u).toArray n}:=by simp[Obj.mapSeq]
theorem Inv.lst  (I:Inv X pins σ H s) (h:H p=some (.lst xs)) :
  ∃ (q:List Value) (n:Nat),Vals xs q ∧ s.heap.get? p=some {cls:=.type "list",data:=.seq q.toArray n} ∧ xs.length ≤ sizeLine:=by
 obtain⟨z,q,n,r,e⟩:=I.hok p _ h;exact⟨q,n,r,e,z⟩
theorem Inv.lstUpd {J its':List Value} (I:Inv X pins σ H s) (h:H p=some (.lst xs))
  (Z:s.heap.get? p=some {cls:=.type "list",data:=.seq J.toArray n}) (Y:f {cls:=.type "list",data:=.seq J.toArray n}={cls:=.type "list",data:=.seq its'.toArray O}) (r:Vals ys its') (hz:ys.length ≤ sizeLine) (t:Nat) :
  Inv X pins σ (upd H p (.lst ys)) {s with heap:=s.heap.update p f,toks:=t}:=by
 have e:(s.heap.update p f).get? p=some {cls:=.type "list",data:=.seq its'.toArray O}:=by rw[zt f Z (by rw[Y] <;> rfl),Y]
 refine I.write (by rw[h];trivial) (.inl rfl) (λ b u hb q=>(yk _ _ (zv hb)).trans q) ⟨_,e⟩ ?_;exact⟨hz,its',O,r,e⟩
def bF4:V->V->V->Hp->(Hp->Prop)->Prop:=λ o i v H Q=>∃ p xs k j,o=.ref p/\i=.int k/\H p=some (.lst xs)/\ixN xs.length k=some j/\Q (upd H p (.lst (xs.set j v)))
theorem ag6:bV6 X bF4:=by
 intro pins s σ H o i v ov iv u Q I ro ri rv h;obtain⟨p,xs,k,j,rfl,rfl,hp,hj,q⟩:=h;cases ro;obtain⟨t,rfl⟩:=ri;obtain⟨J,n,r,Y,hz⟩:=I.lst hp;obtain⟨h1,h2,h3,h4⟩:=az8 hj;have O:=r.length;have hn:=G_9;have I':=
  I.lstUpd hp Y (ao9 J n j u) (r.set rv j) (by rw[zy];exact hz) s.toks
 by_cases h0:0<=k
 ·have Z:k.toNat=j:=by rw[seqIndex_of h0 h4] at h1;exact qi h1
  exact PySem.W.ki_setAt Y h0 (by omega) (by rw[ze,<- O];exact h4) (by rw[Z];exact⟨_,I',q⟩)
 ·have Z:(k+(J.toArray.size:Int)).toNat=j:=by rw[seqIndex_neg (by omega) h3] at h1;rw[ze,<- O];exact qi h1
  exact PySem.W.ki_setBack Y (by omega) (by rw[ze,<- O];exact h3) (by omega) (by rw[Z];exact⟨_,I',q⟩)
theorem U_3 (lo hi:Option Int) (n:Nat):(sliceBounds lo hi none n).1=((HT.sIx n 0 lo:Nat):Int)/\(sliceBounds lo hi none n).2.1=((HT.sIx n n hi:Nat):Int)/\(sliceBounds lo hi none n).2.2=1:=by
 refine⟨?_,?_,rfl⟩
 ·cases lo with
  |none=>simp[sliceBounds,HT.sIx]
  |some i =>
   simp only[sliceBounds,HT.sIx,Option.getD_none,show (1:Int) > 0 by decide,Yw];by_cases h:i<0
   ·simp only[h,Yw] <;> omega
   ·simp only[h,if_false] <;> omega
 ·cases hi with
  |none=>simp[sliceBounds,HT.sIx]
  |some i =>
   simp only[sliceBounds,HT.sIx,Option.getD_none,show (1:Int) > 0 by decide,Yw];by_cases h:i<0
   ·simp only[h,Yw] <;> omega
   ·simp only[h,if_false] <;> omega
theorem N_1 (q:List Value) (lo hi:Option Int):slicePick q.toArray lo hi none=((q.drop (HT.sIx q.length 0 lo)).take (HT.sIx q.length q.length hi-HT.sIx q.length 0 lo)).toArray:=by obtain⟨h1,h2,J⟩:=U_3 lo hi q.toArray.size;unfold slicePick;rw[h1,h2,J];simp only[sliceRange_one,pick_run,ze] <;> rfl
def bZ5 (K:Frag):V->Option Int->Option Int->Hp->VK->Prop:=λ x lo hi H Q=>∃ a xs,x=.ref a/\SqL K H a xs/\∀ p,H p=none->Q (.ref p) (upd H p (.lst (aF0 xs lo hi)))
theorem sl_list:SlR X (bZ5 X.K):=by intro pins s σ H x v vl vu lo hi sl Q I Z Y pl pu h;obtain⟨a,xs,rfl,hx,q⟩:=h;cases Z;obtain⟨aa,r,O,hz⟩:=I.list hx;have J:=r.length;refine⟨"list",_,slot_list_getitem.lookup,O.isList.typeIs,?_⟩;refine wpAny_getItem_list_slice O.isList Y pl pu .none (by simp) ?_ (by rw[ze] <;> omega);rw[N_1,<- J];refine⟨.ref s.heap.objs.size,_,I.laid (λ b ob q=>qd _ q) (qj _) ?_,rfl,q _ (I.hok.fresh (qj _))⟩;exact⟨zf (H_4 xs lo hi) hz,_,0,(r.drop (HT.sIx xs.length 0 lo)).take (HT.sIx xs.length xs.length hi-HT.sIx xs.length 0 lo),qk _ rfl⟩
noncomputable def J_5:V->Bool
 |.non=>true
 |.bl _=>true
 |.int _=>true
 |.str _=>true
 |_=>false
noncomputable def eqV:V->V->Bool
 |.non,.non=>true
 |.bl a,.bl b=>a==b
 |.bl a,.int b=>(if a then 1 else 0)==b
 |.int a,.bl b=>a==(if b then 1 else 0)
 |.int a,.int b=>a==b
 |.str a,.str b=>a==b
 |_,_=>false
theorem bt6  (J:RelV y u) (q:RelV x v) (Y:J_5 y=true) (O:J_5 x=true):SeqAt.EqAt A s u v (eqV y x):=by
 cases y with
 |non =>
  cases J;cases x with
  |non=>cases q;exact SeqAt.EqAt.same _
  |bl b=>cases q;exact SeqAt.EqAt.none_bool b
  |int b=>obtain⟨t,rfl⟩:=q;exact SeqAt.EqAt.none_int b t
  |str b=>obtain⟨t,rfl⟩:=q;exact SeqAt.EqAt.none_str b t
  |_=>exact absurd (show false=true from O) zo
 |bl a =>
  cases J;cases x with
  |non=>cases q;exact SeqAt.EqAt.bool_none a
  |bl b=>cases q;exact SeqAt.EqAt.bool_bool a b
  |int b=>obtain⟨t,rfl⟩:=q;exact SeqAt.EqAt.bool_int a b t
  |str b=>obtain⟨t,rfl⟩:=q;exact SeqAt.EqAt.bool_str a b t
  |_=>exact absurd (show false=true from O) zo
 |int a =>
  obtain⟨t',rfl⟩:=J;cases x with
  |non=>cases q;exact SeqAt.EqAt.int_none a t'
  |bl b=>cases q;exact SeqAt.EqAt.int_bool a t' b
  |int b=>obtain⟨t,rfl⟩:=q;exact SeqAt.EqAt.int_int a t' b t
  |str b=>obtain⟨t,rfl⟩:=q;exact SeqAt.EqAt.int_str a t' b t
  |_=>exact absurd (show false=true from O) zo
 |str a =>
  obtain⟨t',rfl⟩:=J;cases x with
  |non=>cases q;exact SeqAt.EqAt.str_none a t'
  |bl b=>cases q;exact SeqAt.EqAt.str_bool a t' b
  |int b=>obtain⟨t,rfl⟩:=q;exact SeqAt.EqAt.str_int a t' b t
  |str b=>obtain⟨t,rfl⟩:=q;exact SeqAt.EqAt.str_str a t' b t
  |_=>exact absurd (show false=true from O) zo
 |_=>exact absurd (show false=true from Y) zo
def eqU (x:V) (u:Value):Bool:=match u with
 |.none=>eqV .non x
 |.bool b=>eqV (.bl b) x
 |.int i _=>eqV (.int i) x
 |.str z _=>eqV (.str z) x
 |_=>false
theorem aS5  (r:RelV y u) (f:J_5 y=true):eqU x u=eqV y x:=by
 cases y with
 |non=>cases r;rfl
 |bl b=>cases r;rfl
 |int i=>obtain⟨t,rfl⟩:=r;rfl
 |str z=>obtain⟨t,rfl⟩:=r;rfl
 |_=>exact absurd (show false=true from f) zo
theorem I_2 :∀ {xs:List V}{us:List Value},Vals xs us->xs.all J_5=true->us.any (eqU x)=xs.any λ y=>eqV y x
 |_,_,.nil,_=>rfl
 |y::xs,u::us,.cons r t,f=>by
  rw[Zl,zn] at f;rw[Ql,Ql,aS5 r f.1,I_2 t f.2]
theorem y_3  (O:RelV x v) (J:J_5 x=true):∀ {xs:List V}{us:List Value},Vals xs us->xs.all J_5=true->∀ u∈us,SeqAt.EqAt A s u v (eqU x u)
 |_,_,.nil,_=>λ u q=>by cases q
 |y::xs,u::us,.cons r t,f=>λ Y q=>by
  rw[Zl,zn] at f;rcases qv q with rfl | q
  ·rw[aS5 r f.1];exact bt6 r O f.1 J
  ·exact y_3 O J t f.2 Y q
def inV (x:V) (xs:List V):Bool:=xs.any λ y=>eqV y x
def rIn (K:Frag) (q:Bool):R2:=λ x y H Q=>∃ p xs,y=.ref p/\(SqL K H p xs\/SqT K H p xs)/\J_5 x=true/\xs.all J_5=true/\Q (.bl (if q then !inV x xs else inV x xs)) H
theorem aw8:OpR X (compareOp .In) (rIn X.K false):=by
 intro pins s σ H x y v u Q I rx ry h;obtain⟨p,xs,rfl,O,fx,fs,q⟩:=h;cases ry;rcases O with O | O
 ·obtain⟨J,r,Z,hz⟩:=I.list O;refine SeqAt.in_listAt (eqU x) Z.isList (λ w Y=>y_3 rx fx r fs w (by simpa using Y)) ⟨.bl _,H,I,rfl,?_⟩;rw[show J.toArray.any (eqU x)=J.any (eqU x) by simp,I_2 r fs];exact q
 ·obtain⟨J,r,Z,hz⟩:=I.tuple O;refine SeqAt.in_tupleAt (eqU x) Z (λ w Y=>y_3 rx fx r fs w (by simpa using Y)) ⟨.bl _,H,I,rfl,?_⟩;rw[show J.toArray.any (eqU x)=J.any (eqU x) by simp,I_2 r fs];exact q
theorem V_4:OpR X (compareOp .NotIn) (rIn X.K true):=by
 intro pins s σ H x y v u Q I rx ry h;obtain⟨p,xs,rfl,O,fx,fs,q⟩:=h;cases ry;rcases O with O | O
 ·obtain⟨J,r,Z,hz⟩:=I.list O;refine SeqAt.notIn_listAt (eqU x) Z.isList (λ w Y=>y_3 rx fx r fs w (by simpa using Y)) ⟨.bl _,H,I,rfl,?_⟩;rw[show J.toArray.any (eqU x)=J.any (eqU x) by simp,I_2 r fs];exact q
 ·obtain⟨J,r,Z,hz⟩:=I.tuple O;refine SeqAt.notIn_tupleAt (eqU x) Z (λ w Y=>y_3 rx fx r fs w (by simpa using Y)) ⟨.bl _,H,I,rfl,?_⟩;rw[show J.toArray.any (eqU x)=J.any (eqU x) by simp,I_2 r fs];exact q
theorem call_len_seq:CallR X (.builtin "len") (λ xs H Q=>∃ p ys,xs=[.ref p] ∧ (SqL X.K H p ys ∨ SqT X.K H p ys) ∧ Q (.int ys.length) H):=by
 intro pins s σ H xs us Q I r h;obtain⟨p,ys,rfl,O,q⟩:=h;obtain⟨u,rfl,rx⟩:=v_5 r;cases rx;have hn:=G_9;rcases O with O | O
 ·obtain⟨aa,Z,Y,hz⟩:=I.list O;have J:=Z.length;exact Calls.call_len_list Y.isList (by simp only[ze] <;> omega) ⟨.int ys.length,H,I.tok _,⟨s.toks+1,by rw[ze,J]⟩,q⟩
 ·obtain⟨aa,Z,Y,hz⟩:=I.tuple O;have J:=Z.length;exact len_tuple Y (by simp only[ze] <;> omega) ⟨.int ys.length,H,I.tok _,⟨s.toks+1,by rw[ze,J]⟩,q⟩
theorem Y_5:CallR X (.builtin "len") (λ xs H Q=>∃ z,xs=[.str z] ∧ z.length ≤ sizeLine ∧ Q (.int z.length) H):=by intro pins s σ H xs us Q I r h;obtain⟨z,rfl,hz,q⟩:=h;obtain⟨u,rfl,t,rfl⟩:=v_5 r;have J:=G_9;exact len_str (by omega) ⟨.int z.length,H,I.tok _,⟨_,rfl⟩,q⟩
theorem CallR.or  (h:CallR X f r) (h':CallR X f J):CallR X f (λ xs H Q=>r xs H Q\/J xs H Q):=by
 intro pins s σ H xs us Q I O q;rcases q with q | q
 ·exact h pins s σ H xs us Q I O q
 ·exact h' pins s σ H xs us Q I O q
theorem C_0:CallR X (.type "list") (λ xs H Q=>∃ p ys,xs=[.ref p] ∧ (SqL X.K H p ys ∨ SqT X.K H p ys) ∧ ∀ l,H l=none → Q (.ref l) (upd H l (.lst ys))):=by
 intro pins s σ H xs us Q I r h;obtain⟨p,ys,rfl,hq,q⟩:=h;obtain⟨u,rfl,rx⟩:=v_5 r;cases rx;have fin:∀ (J:List Value),Vals ys J->ys.length<=sizeLine->∀ (h':Heap) (Y:Nat),(∀ b o',s.heap.get? b=some o'->h'.get? b=some o') ->
   h'.get? s.heap.objs.size=some {cls:=.type "list",dict:=none,data:=.seq J.toArray Y,slots:=#[]} → EP X pins σ Q (.ref s.heap.objs.size) {s with heap:=h'}:=λ J O hz h' Y kp e =>
  ⟨.ref s.heap.objs.size,_,I.laid kp (qj _) (show ObjOk X.prog X.w _ h' _ (.lst ys) from ⟨hz,J,Y,O,e⟩),rfl,q _ (I.hok.fresh (qj _))⟩
 rcases hq with hq | hq
 ·obtain⟨J,O,pl,hz⟩:=I.list hq;have Z:=O.length;obtain⟨o,ho,hc,n,hd⟩:=pl.isList;exact call_list_seq p (.inl rfl) ho hc hd (λ h' Y kp e=>fin J O hz h' Y kp e) (by simp only[ze] <;> omega)
 ·obtain⟨J,O,pl,hz⟩:=I.tuple hq;have Z:=O.length;obtain⟨o,ho,hc,n,hd⟩:=pl;exact call_list_seq p (.inr rfl) ho hc hd (λ h' Y kp e=>fin J O hz h' Y kp e) (by simp only[ze] <;> omega)
theorem R_8:CallR X (.type "tuple") (λ xs H Q=>∃ p ys,xs=[.ref p] ∧ ((SqL X.K H p ys ∧ ∀ l,H l=none → Q (.ref l) (upd H l (.tup ys))) ∨ (SqT X.K H p ys ∧ Q (.ref p) H))):=by
 intro pins s σ H xs us Q I r h;obtain⟨p,ys,rfl,h⟩:=h;obtain⟨u,rfl,rx⟩:=v_5 r;cases rx;rcases h with ⟨hq,q⟩ | ⟨hq,q⟩
 ·obtain⟨J,O,Y,hz⟩:=I.list hq;have Z:=O.length;refine call_tuple_list Y.isList (λ h' kp=>?_) (by simp only[ze] <;> omega);have I1:=I.kept (t':=s.toks) kp;have I2:=
   I1.laid (t':=s.toks) (λ b o e=>qd _ e) (qj _) (show ObjOk X.prog X.w _ _ _ (.tup ys) from ⟨hz,J,O,IsTuN.new _ _⟩)
  exact⟨.ref h'.objs.size,_,I2,rfl,q _ (I1.hok.fresh (qj _))⟩
 ·obtain⟨J,O,Y,hz⟩:=I.tuple hq;exact call_tuple_same Y ⟨.ref p,H,I,rfl,q⟩
def tyV (K:Frag) (T:String) (x:V) (H:Hp):Prop:=match x with
 |.str _=>T="str"
 |.int _=>T="int"
 |.ref p=>(T="list" ∧ ∃ xs,SqL K H p xs) ∨ (T="tuple" ∧ ∃ o,K.lookup p=some o ∧ o.cls=.type "tuple" ∧ o.dict=none) ∨
   (T="dict" ∧ ((∃ kvs,H p=some (.dK kvs)) ∨ ∃ kvs,H p=some (.dT kvs))) ∨ (T="set" ∧ ∃ S n,H p=some (.set S n))
 |_=>False
theorem bk0  (I:Inv X pins σ H s) (r:RelV x v) (ty:tyV X.K T x H) :
  s.TypeIs v T/\∀ a,v=.ref a->∃ ob,s.heap.get? a=some ob/\ob.dict=none:=by
 cases x with
 |str z =>
  obtain⟨t,rfl⟩:=r;cases (show T="str" from ty);exact⟨typeIs_str s z t,λ _ e=>nomatch e⟩
 |int i =>
  obtain⟨t,rfl⟩:=r;cases (show T="int" from ty);exact⟨typeIs_int s i t,λ _ e=>nomatch e⟩
 |ref p =>
  cases r;rcases ty with ⟨rfl,xs,hq⟩ | ⟨rfl,o,q,hc,hd⟩ | ⟨rfl,q⟩ | ⟨rfl,S,n,q⟩
  ·obtain⟨O,_,J,_⟩:=I.list hq;refine⟨J.isList.typeIs,λ a e=>?_⟩;cases e;obtain⟨o,n,e,c,hd,_⟩:=J;exact⟨o,e,hd⟩
  ·refine⟨⟨o,I.kIn p o q,hc⟩,λ a e=>?_⟩;cases e;exact⟨o,I.kIn _ o q,hd⟩
  ·have z:∃ o,s.heap.get? p=some o/\o.ExactDict:=by
    rcases q with ⟨kvs,q⟩ | ⟨kvs,q⟩
    ·obtain⟨_,_,_,_,o,_,_,e,ex,_⟩:=I.hok p _ q;exact⟨o,e,ex⟩
    ·obtain⟨_,_,_,_,o,_,_,e,ex,_⟩:=I.hok p _ q;exact⟨o,e,ex⟩
   obtain⟨o,e,ex⟩:=z;refine⟨⟨o,e,ex.1⟩,λ a e2=>?_⟩;cases e2;exact⟨o,e,ex.2.1⟩
  ·obtain⟨o,_,_,_,e,ex,_⟩:=I.hok p _ q;refine⟨⟨o,e,ex.1⟩,λ a e2=>?_⟩;cases e2;exact⟨o,e,ex.2.1⟩
 |_=>exact False.elim ty
def tBM (K:Frag) (T:String) (r:V->List V->Hp->VK->Prop) (to:TE) (t:TA):TE:=λ σ H Q=>to σ H λ x H1=>tyV K T x H1/\t σ H1 λ xs H2=>r x xs H2 Q
variable {T id:String}
theorem bo0 (pa:PlainAttrs T) (slot:Slot T name id) (aa:typeOf (.builtin id)=pure (.type "method_descriptor")) (hm:MtR X id r) (ho:PE X o to) (ha:PA X (e::es) t)
  (O:attributeBase o name X.env (eval o X.env)=eval o X.env)
  (Y:((backTo cpos (starEach (e::es) X.env)).all (λ x=>!x.1)&&(backToKw cpos (keywordEach [] X.env)).all (λ x=>x.1.isSome)
   && decide ((e::es).length+([]:List Keyword).length+(if ([]:List Keyword).isEmpty then 0 else 1)<30))=true)
  (J:(apos.endLine==cpos.line)=true) (hs:starEach (e::es) X.env=(false,eval e X.env)::starEach es X.env) (q:(backTo cpos (starEach es X.env)).any (·.1)=false) :
  PE X (.Call (.Attribute o name apos) (e::es) [] cpos) (tBM X.K T r to t):=by
 intro pins s σ H Q I h;refine wpAny_Call_method_late O Y J rfl (thn (ho pins s σ H _ I h) λ v s1 Z=>?_);obtain⟨x,H1,I1,r1,ty,q1⟩:=Z;obtain⟨h1,h2⟩:=bk0 I1 r1 ty;refine⟨T,id,pa,slot,aa,h1,h2,?_⟩;have hA:=ha cpos pins s1 σ H1 _ I1 q1;rw[hs] at hA ⊢;refine Calls.callWith_builtin (by show (false||(backTo cpos (starEach es X.env)).any (·.1))=false;rw[q] <;> rfl) (Calls.evalArgs_plain ?_);exact thn hA λ us s2=>ex5 λ vs H2 I2 r2 q2=>hm pins s2 σ H2 x vs v us Q I2 r1 r2 q2
end
def MtM (X:Cx) (id:String) (r:V->List V->Hp->VK->Prop):Prop :=
 ∀ (pins:List (Addr×Obj)) (s:Shared) (σ:St) (H:Hp) (x:V) (xs:List V) (v:Value) (us:List Value) (Q:VK),Inv X pins σ H s->RelV x v->Vals xs us->r x xs H Q ->
  wpAny (model X.prog X.w) X.A (call (.builtin id) (v::us)) (EP X pins σ Q) X.xe s
theorem Vals.one:∀ {x:V}{us:List Value},Vals [x] us->∃ u,us=[u]/\RelV x u
 |_,_,h=>by
  cases h with
  |cons r t=>cases t;exact⟨_,rfl,r⟩
section
variable {X:Cx}{pins:List (Addr×Obj)}{σ:St}{H:Hp}{s:Shared}{l b:Addr}{xs ys zs:List V}
theorem Inv.lset {J its':List Value} (I:Inv X pins σ H s) (O:H l=some (.lst xs))
  (e:s.heap.get? l=some {cls:=.type "list",data:=.seq J.toArray n}) (Z:f J.toArray=its'.toArray) (Y:Vals ys its') (hz:ys.length ≤ sizeLine) :
  Inv X pins σ (upd H l (.lst ys)) {s with heap:=s.heap.update l (Obj.mapSeq f),toks:=t'}:=by
 have q:=PySem.IsL.update e f;rw[Z] at q;refine I.write (by rw[O];exact trivial) (.inl rfl) (λ b' u hb hu=>(yk s.heap (Obj.mapSeq f) (zv hb)).trans hu) ⟨_,q⟩ ?_;exact⟨hz,its',_,Y,q⟩
theorem Inv.lnew  (I:Inv X pins σ H s) (O:Vals ys J) (hz:ys.length<=sizeLine) :
  Inv X pins σ (upd H s.heap.objs.size (.lst ys)) {s with heap:=s.heap.push {cls:=.type "list",data:=.seq J.toArray},toks:=t'} :=
 I.laid (λ _ _ q=>qd _ q) (qj _) ⟨hz,J,0,O,qk _ rfl⟩
theorem Inv.fresh (I:Inv X pins σ H s):H s.heap.objs.size=none:=I.hok.fresh (qj _)
theorem Inv.lstM (I:Inv X pins σ H s) (J:H l=some (.lst xs)):xs.length ≤ sizeLine ∧ ∃ (q:List Value) (n:Nat),Vals xs q ∧ xs.length=q.length ∧ s.heap.get? l=some {cls:=.type "list",data:=.seq q.toArray n}:=by obtain⟨z,q,n,r,e⟩:=I.hok l _ J;exact⟨z,q,n,r,r.length,e⟩
theorem aI8  (h:n<=sizeLine):Builtin.List.listTooLong n=false:=by exact yj (by omega)
end
section
def aX5:V->List V->Hp->VK->Prop:=λ x vs H Q=>∃ l xs y,x=.ref l/\vs=[y]/\H l=some (.lst xs)/\xs.length<sizeLine/\Q .non (upd H l (.lst (xs++[y])))
theorem ax6:MtM X "list.append" aX5:=by intro pins s σ H x vs v us Q I Y rv h;obtain⟨l,xs,y,rfl,rfl,O,hz,q⟩:=h;cases Y;obtain⟨u,rfl,Z⟩:=rv.one;obtain⟨z,J,n,r,hl,e⟩:=I.lstM O;refine call_meets F.slot_list_append ⟨_,e,rfl⟩ F.entry_list_append (F.args_list_append_2 _ _) (PySem.list_append l J.toArray n u (by rw[ze];omega)) ⟨e,?_⟩;refine⟨.non,_,I.lset O e (by simp) (r.append (.cons Z .nil)) ?_,rfl,q⟩;rw[zc,yn];omega
def bZ7:R2:=λ x y H Q=>∃ l b xs zs,x=.ref l/\y=.ref b/\H l=some (.lst xs)/\H b=some (.lst zs)/\xs.length+zs.length<=sizeLine/\∀ p,H p=none->Q (.ref p) (upd H p (.lst (xs++zs)))
theorem bp0:OpR X (binaryOp .Add) bZ7:=by
 intro pins s σ H x y v u Q I Z ry h;obtain⟨l,b,xs,zs,rfl,rfl,Y,hB,hz,q⟩:=h;cases Z;cases ry;obtain⟨z,O,n,r,hl,e⟩:=I.lstM Y;obtain⟨z2,J,n2,r2,aa,e2⟩:=I.lstM hB;refine PySem.P.add_list e e2 ?_ (by rw[ze,ze];omega);have ea:O.toArray++J.toArray=(O++J).toArray:=by simp
 rw[ea];exact⟨.ref _,_,I.lnew (r.append r2) (by rw[zc];omega),rfl,q _ I.fresh⟩
end
end L2
namespace Att
open PySem PySem.W PySem.Calls PyProof.Rows
theorem H_0 :∀ (ns:List Int) (vs:List Value),WellAll P h vs (ns.map WData.int)->IntsAre vs ns:=by
 intro ns;induction ns with
 |nil =>
  intro vs w;rw[zz] at w;cases w;exact .nil
 |cons n ns q =>
  intro vs w;rw[zd] at w;cases w with
  |cons a b =>
   cases a;exact .cons _ _ (q _ b)
theorem at4 {l:OpenLaw} (hn:l.most=some n) 
  (O:l.row.toRowW.claim.pre args=true) (aa:WellAll P h J args) :
  ∃ a vs ns,J=[Value.ref a] ∧ args=[WData.list (ns.map WData.int)] ∧ h.get? a=some {cls:=.type "list",data:=.seq vs.toArray} ∧ IntsAre vs ns ∧ ns.length ≤ n:=by
 have ac:=(pre_splitW O).1;have hc:l.pre.holds [] {args:=args}=true:=(pre_splitW O).2;obtain⟨d,r,rfl,h1,h2⟩:=hasAllW_cons ac;obtain rfl:=hasAllW_nil h2;obtain⟨xs,rfl,h3⟩:=hasW_list h1;obtain⟨ns,rfl⟩:=items_int h3;have Y:ns.length<=n:=by
  have h4:(WTm.not (.lt (.lit (.int (n:Int))) (.len (.arg 0)))).holds [] {args:=[.list (ns.map .int)]}=true:=by have h4:=(holds_andW hc).1;rw[hn] at h4;exact h4
  have h5:=condW_of h4 (w_not (w_lt w_lit (w_len_list (w_arg rfl))));rw[qy] at h5;refine Zi λ q=>?_;have q':(n:Int)<((ns.length:Nat):Int):=by omega
  first
   |(rw[yh q'] at h5;exact absurd h5 (by decide))
   |(simp at h5;omega)
 cases aa with
 |cons w1 w2 =>
  cases w2;cases w1 with
  |list ho Z=>exact⟨_,_,ns,rfl,rfl,ho,H_0 ns _ Z,Y⟩
theorem av4 (l:OpenLaw) (args:List WData):l.row.toRowW.claim.post args (.bool true) args=true :=
 postW_of
  (show WShape.has [] (.bool true) .bool=true by first | rfl | decide | simp[WShape.has,WShape.arms,WShape.armsAll])
  (show (WTm.eq .res (.lit (.bool true))).value [] {args:=args,res:=some (.bool true),after:=args}=some (.bool (true==true)) from w_eq_bool (w_res rfl) w_lit) rfl
theorem attach_call {l:OpenLaw}
  (hn:l.most=some n) (ag:d.params.defaults=[])
  (call:∀ (w:World) (s₀ J:Shared) (mg mb:Str->Option Value) (fa:Addr) (o:Obj) (pm cd Z:Value) (a:Addr) (vs:List Value) (ns:List Int),
   Ground q O [] XP w s₀ mg mb J.heap->YP w J.heap ->
   J.heap.get? fa=some o->o.data=.func (docDef d.name d.params d.body d.scope pm cd Z)->J.heap.CodeRec cd d.name->mg d.name=some (.ref fa) ->
   J.heap.get? a=some {cls:=.type "list",data:=.seq vs.toArray} → IntsAre vs ns → ns.length ≤ n → J.gens=#[] →
   codeAny (model l.prog w) callerA (.call (.ref fa) ⟨[.ref a],[]⟩) (λ r s'=>r=.ok (.ret (.bool true))/\OldK J.heap s'.heap/\s'.os=J.os/\AllBare s'.gens) J) :
  WalkO q O XP YP l.row.toRowW d [] (λ f vs=>PySem.call f vs):=by
 intro w s₀ J mg mb G Y fa o pm cd Z dV kV ho hd ai hD af hg args aj as ac ak am ah al;obtain rfl:dV=.none:=Dflts.none hD ag;obtain rfl:kV=.none:=Dflts.noKw hD;obtain⟨a,vs,ns,rfl,rfl,ae,aa,ad⟩:=at4 hn ac ah;refine enter_call (Qu (call w s₀ J mg mb fa o pm cd Z a vs ns G Y ho (fd_plain hd) ai af ae aa ad hg) λ r s' hq=>?_);obtain⟨rfl,h2,h3,h4⟩:=hq;exact⟨.inl ⟨.bool true,.bool true,[],rfl,λ _=>rfl,.bool true,av4 l _,λ _=>⟨Ja,λ _ hm=>(nomatch hm)⟩⟩,h2,h3,h4⟩
end Att
namespace L2
open PySem PySem.Spec PyProof.Rows
theorem vals_ints:∀ {vs:List Value}{ns:List Int},IntsAre vs ns->Vals (ns.map V.int) vs
 |_,_,.nil=>.nil
 |_,_,.cons n t h=>.cons ⟨t,rfl⟩ (vals_ints h)
def bM4 (H:Hp):Prop:=∀ b,H b=none\/∃ o xs,H b=some (.frz o (.lst xs))
theorem aJ9 {K:Frag}
  (KX:K.In J.heap) (ah:J.heap.Ns mainGlobals mg) (Y:J.heap.Ns builtinsNs mb) (al:∀ x:Str,x≠"__name__" → mb x=bootBuiltins x) (ai:J.heap.NoLimit) (hg:J.gens=#[])
  (ha:J.heap.get? a=some {cls:=.type "list",data:=.seq vs.toArray}) (hi:IntsAre vs ns) (hl:ns.length ≤ sizeLine) (hr:Room k callerA)
  (F:∀ base:Heap,K.In base->base.Ns mainGlobals mg->FnOk P w K mg base CX k fa fd [x] sp) (ac:∀ (s:Shared) (u:Value),BindsTo s fd ⟨[u],[]⟩ [(x,u)])
  (an:∀ H:Hp,bM4 H->SqL K H a (ns.map V.int)->sp [.ref a] H (λ v _=>v=.bl true) λ _ _ _=>False)
  (am:∀ H e s',CX [] H J (λ _ _ _=>False) e s'->False) :
  codeAny (model P w) callerA (.call (.ref fa) ⟨[.ref a],[]⟩) (λ r s'=>r=.ok (.ret (.bool true))/\OldK J.heap s'.heap/\s'.os=J.os/\AllBare s'.gens) J:=by
 have rv:=vals_ints hi;have ad:=hi.length;have aa:∀ H:Hp,bM4 H->SqL K H a (ns.map V.int)->HOk P w H J.heap->(∀ b,H b≠none->b=a)->(H a≠none->K.lookup a=none) ->
   codeAny (model P w) callerA (.call (.ref fa) ⟨[.ref a],[]⟩) (λ r s'=>r=.ok (.ret (.bool true))/\OldK J.heap s'.heap/\s'.os=J.os/\AllBare s'.gens) J:=by
  intro H hO hS af hA hK;have O:∀ {b:Addr}{o:Obj},J.heap.get? b=some o->H b=none->(aK6 J.heap H).get? b=some o:=λ e n=>aK5 e n;have ak:∀ {b:Addr}{o:Obj}{es:Array DictEntry}{ep:Nat},J.heap.get? b=some o->o.data=.dict es ep->H b=none:=λ {b o es ep} e d=>by
   cases q:H b with
   |none=>rfl
   |some u =>
    have e':=hA b (by rw[q];simp);subst e';rw[ha] at e;cases e;have d':=d;cases d'
  have Z:∀ {b:Addr}{m:Str->Option Value},J.heap.Ns b m->(aK6 J.heap H).Ns b m:=λ {b m} ⟨o,es,ep,e,d,r⟩=>⟨o,es,ep,O e (ak e d),d,r⟩
  have aj:=λ b o e=>O (KX b o e) (by
   cases q:H b with
   |none=>rfl
   |some u =>
    have e':=hA b (by rw[q];simp);subst e';rw[hK (by rw[q];simp)] at e;cases e)
  have hM:Mod K mg (aK6 J.heap H):=⟨aj,Z ah,⟨mb,Z Y,al⟩,let ⟨mc,h1,h2⟩:=ai;⟨mc,Z h1,h2⟩⟩;have e0:Env0 P w K mg (aK6 J.heap H) callerA [] J H:=⟨rfl,hM,λ b o e=>ba2 e,Nat.le_of_eq (aA2 _ _),trivial,λ b Y=>absurd (show b∈([]:List Addr) from Y) (by simp),af,.of_eq hg⟩;refine Qu ((F _ aj (Z ah)).run callerA [] J H ⟨[.ref a],[]⟩ [.ref a] [.ref a] _ _ hr e0 (ac J (.ref a)) (.cons rfl .nil) (an H hO hS)) λ r s' h=>?_;cases r with
  |error e=>exact (am H e s' h).elim
  |ok fl =>
   cases fl with
   |next=>exact False.elim h
   |brk=>exact False.elim h
   |cont=>exact False.elim h
   |ret u =>
    obtain⟨v,H',os,ae,un,ag,r',q⟩:=h;have q':=q;subst q';obtain rfl:u=Value.bool true:=r';refine⟨rfl,OldK.of_keep λ b o e=>?_,os,ae⟩;cases q:H b with
    |none=>exact un.keep b o e q (by intro z;exact absurd (show b∈([]:List Addr) from z) (by simp)) (by simp)
    |some u =>
     rcases hO b with z | ⟨ob,xs,z⟩
     ·rw[q] at z;cases z
     ·have z2:=un.frzs b ob _ z;obtain⟨e1,_⟩:=af b _ z;obtain⟨e2,_⟩:=ag b _ z2;rw[e] at e1;cases e1;exact e2
 cases hk:K.lookup a with
 |some o =>
  have e:=KX a o hk;rw[ha] at e;cases e;refine aa (λ _=>none) (λ _=>.inl rfl) (.inr ⟨_,vs.toArray,_,hk,rfl,rfl,rfl,by rw[ze,ad];exact hl,by simpa using rv⟩) (λ b u z=>by have z':=z;cases z') (λ b z=>absurd rfl z) λ z=>absurd rfl z
 |none =>
  refine aa (λ b=>if b=a then some (.frz {cls:=.type "list",data:=.seq vs.toArray} (.lst (ns.map V.int))) else none) (λ b=>?_) (.inl (.inr ⟨{cls:=.type "list",data:=.seq vs.toArray},if_pos rfl⟩)) (λ b u z=>?_) (λ b z=>?_) λ _=>hk
  ·by_cases Y:b=a
   ·exact .inr ⟨_,_,if_pos Y⟩
   ·exact .inl (if_neg Y)
  ·by_cases Y:b=a
   ·have z':=(if_pos Y).symm.trans z;cases z';subst Y;exact⟨ha,by rw[qy];exact hl,vs,_,rv,ha⟩
   ·have z':=(if_neg Y).symm.trans z;cases z'
  ·by_cases Y:b=a
   ·exact Y
   ·exact absurd (if_neg Y) z
theorem walk_of {l:OpenLaw}{K:Params->Frag}{CX:World->CXT}{sp:World->Sp}
  (hn:l.most=some n) (ag:n<=sizeLine) (ae:d.params.defaults=[]) (hr:Room k callerA)
  (hY:∀ (w:World) (h:Heap),YP w h->(K w.params).In h)
  (F:∀ (w:World) (mg:Str->Option Value) (fa:Addr) (h:Heap),(K w.params).In h->h.Ns mainGlobals mg->mg d.name=some (.ref fa) ->
   ∃ fd:FuncData,(∀ (s:Shared) (u:Value),BindsTo s fd ⟨[u],[]⟩ [(x,u)]) /\
    ∀ base:Heap,(K w.params).In base->base.Ns mainGlobals mg->FnOk l.prog w (K w.params) mg base (CX w) k fa fd [x] (sp w))
  (ah:∀ (w:World) (H:Hp) (a:Addr) (ns:List Int),ns.length<=n->bM4 H->SqL (K w.params) H a (ns.map V.int)->sp w [.ref a] H (λ v _=>v=.bl true) λ _ _ _=>False)
  (af:∀ (w:World) (H:Hp) (s:Shared) (e:Value) (s':Shared),CX w [] H s (λ _ _ _=>False) e s'->False) :
  PySem.W.WalkO q O XP YP l.row.toRowW d [] (λ f vs=>PySem.call f vs):=by
 refine Att.attach_call hn ae λ w s₀ aa mg mb fa o pm cd ai a vs ns G Y ho hd aj ad ac Z J hg=>?_;have KX:=hY w _ Y;obtain⟨fd,hb,hF⟩:=F w mg fa _ KX G.T.g ad;exact aJ9 KX G.T.g G.T.b G.T.builtins G.T.nolimit hg ac Z (zf J ag) hr hF hb (λ H hO hS=>ah w H a ns J hO hS) λ H e s'=>af w H aa e s'
noncomputable def w_4 (s:Stmt):Arguments:=match s with
 |.FunctionDef _ a _ _ _ _ _ _ _ _=>a
 |_=>{posonlyargs:=[],args:=[],vararg:=none,kwonlyargs:=[],kw_defaults:=[],kwarg:=none,defaults:=[]}
noncomputable def k_2 (s:Stmt):List Stmt:=match s with
 |.FunctionDef _ _ b _ _ _ _ _ _ _=>b
 |_=>[]
noncomputable def a_2 (s:Stmt):Scope:=match s with
 |.FunctionDef _ _ _ _ _ _ sc _ _ _=>sc
 |_=>{kind:=.function,names:=[],isGenerator:=false,isCoroutine:=false}
abbrev CX0:CXT:=λ _ _ _ _ _ _=>False
abbrev E0:XK:=λ _ _ _=>False
theorem aI6 :Passes CX0 X E0:=λ _ _ _ _ _ _ _ h=>h.elim
structure Fun (K:Frag) (x qual:Str) (st:Stmt) (f:Addr) (fd:FuncData):Prop where
 ex:∃ (oc:Value) (od:Option Addr) (kV doc pm:Value) (an:Option Addr) (cdv ct:Value) (osl:Array (Option Value)),
  fd=fnOf x qual (w_4 st) (k_2 st) (a_2 st) .none kV doc pm an cdv ct/\K.lookup f=some ⟨oc,od,.func fd,osl⟩/\codeIn K cdv qual=true
 kp:keepIn K (.ref f)=true
section
variable {K:Frag}
theorem Fun.ok {st:Stmt} (F:Fun K x qual st f fd) (S:FnScope N ps (a_2 st)) (len:∀ vs H Q E,sp vs H Q E->vs.length=ps.length)
  (O:∀ (J:Value) (A:Around) (outer:List Env) (s:Shared) (H:Hp) (vs:List V) (Q:VK) (E:XK),Room k (A.deeper (envOfC qual (a_2 st) s.heap.objs.size f J))->sp vs H Q E ->
   ∃ t,PSs (R_5 CX0 P w K mg base N qual (a_2 st) f J A outer s H E).nox (k_2 st) t/\t {nx:=λ _ H'=>Q .non H',rt:=Q} (start N vs) H):FnOk P w K mg base CX0 (k+1) f fd ps sp:=by
 obtain⟨oc,od,kV,ac,pm,an,J,ct,aa,rfl,lk,Y⟩:=F.ex;refine bd1 lk Y S len λ A outer s H vs Q E hr Z=>?_;obtain⟨t,h,q⟩:=O J A outer s H vs Q E hr Z;exact⟨t,h.nox,q⟩
theorem Fun.binds {st:Stmt} (F:Fun K x qual st f fd)
  (h:∀ (kV J Y:Value) (O:Option Addr) (q ct:Value) (us:List Value),us.length=ps.length->bindArgs (fnOf x qual (w_4 st) (k_2 st) (a_2 st) .none kV J Y O q ct) ⟨us,[]⟩=pure (ps.zip us)):Binds K fd ps []:=by
 obtain⟨oc,od,kV,J,Y,O,q,ct,aa,rfl,lk,Z⟩:=F.ex;exact .all (h kV J Y O q ct)
theorem d_4 {st:Stmt}{kV J Z q ct:Value} (l:K.lookup f=some ⟨oc,od,.func (fnOf x qual (w_4 st) (k_2 st) (a_2 st) .none kV J Z Y q ct),O⟩)
  (c:codeIn K q qual=true) (k:keepIn K (.ref f)=true):Fun K x qual st f (fnOf x qual (w_4 st) (k_2 st) (a_2 st) .none kV J Z Y q ct):=⟨⟨oc,od,kV,J,Z,Y,q,ct,O,rfl,l,c⟩,k⟩
end
theorem o_7  (q:Room k A):A.units+1<cLine:=Qd (Nat.add_le_add_left (by decide:1<=64) _) q.units
theorem F_1  (h:n<=1000):n<sizeLine:=Qd h (by decide)
section
theorem pv (i:Nat)  (J:X.N[i]?=some x:=by rfl) (O:Vis X.env.scope x:=by first | exact Or.inl rfl | exact Or.inr (Or.inl rfl) | exact Or.inr (Or.inr rfl)) (hd:(x==("__debug__":Str))=false:=by decide)
  (q:(x==("__classdict__":Str))=false:=by decide):PE X (.Name x pos) (bN2 i):=i_4 J O hd q
end
theorem cb7 {A B:Prop} (h:A):if true=true then A else B:=by rw[if_pos rfl];exact h
def Same (H H':Hp):Prop:=∀ b o,H b=some o->H' b=some o
theorem Same.refl (H:Hp):Same H H:=λ _ _ h=>h
theorem Same.trans  (a:Same H H1) (b:Same H1 H2):Same H H2:=λ c o h=>b c o (a c o h)
theorem Same.free  (e:Same H H')  (h:H' l=Option.none):H l=Option.none:=by
 cases q:H l with
 |none=>rfl
 |some o =>
  rw[e l o q] at h;cases h
theorem Same.seq {K:Frag} (e:Same H H') (h:SqL K H a xs):SqL K H' a xs:=by
 rcases h with (h | ⟨o,h⟩) | h
 ·exact .inl (.inl (e _ _ h))
 ·exact .inl (.inr ⟨o,e _ _ h⟩)
 ·exact .inr h
section
variable [DecidableEq κ]
noncomputable def M_5 (kvs:List (κ×V)) (k:κ):Option V:=(kvs.find? λ q=>decide (q.1=k)).map (·.2)
noncomputable def I_7 (kvs:List (κ×V)) (k:κ) (v:V):List (κ×V) :=
 if (kvs.any λ q=>decide (q.1=k))=true then kvs.map (λ q=>if q.1=k then (q.1,v) else q) else kvs++[(k,v)]
theorem D_5 {k:κ} (e:p.1=k):M_5 (p::r) k=some p.2:=by simp[M_5,e]
theorem w_8 {k:κ} (e:¬ p.1=k):M_5 (p::r) k=M_5 r k:=by simp[M_5,e]
theorem w_9 (k:κ):∀ kvs:List (κ×V),(kvs.any λ q=>decide (q.1=k))=(M_5 kvs k).isSome
 |[]=>rfl
 |p::r=>by
  rw[Ql];by_cases e:p.1=k
  ·simp only[D_5 e,yh e,Bool.true_or,Option.isSome_some]
  ·rw[w_8 e,yj e,Bool.false_or];exact w_9 k r
theorem w_0 (kvs:List (κ×V)) (k:κ) (v:V):(I_7 kvs k v).length<=kvs.length+1:=by
 unfold I_7;split
 ·rw[qy];omega
 ·rw[zc,zg,yy];omega
theorem aH7 {k:κ} (v:V) (h:M_5 kvs k=none):I_7 kvs k v=kvs++[(k,v)]:=by unfold I_7;rw[w_9,h];exact if_neg (by decide)
theorem RelO.isSome_eq  (r:RelO o u):o.isSome=u.isSome:=by
 cases o with
 |none=>cases u with
  |none=>rfl
  |some _=>exact (show False from r).elim
 |some _=>cases u with
  |none=>exact (show False from r).elim
  |some _=>rfl
theorem KV.val  (r:KV kvs vs) (k:κ):RelO (M_5 kvs k) (valueAt vs k):=by
 induction r with
 |nil=>exact Ya
 |@cons p q ps J h t Y =>
  obtain⟨h1,h2⟩:=h;by_cases e:p.1=k
  ·have O:=h1.symm.trans e;have b:valueAt (q::J) k=some q.2:=by simp[valueAt,O]
   rw[D_5 e,b];exact h2
  ·have O:¬ q.1=k:=λ z=>e (h1.trans z);have b:valueAt (q::J) k=valueAt J k:=by simp[valueAt,O]
   rw[w_8 e,b];exact Y
theorem KV.any  (r:KV kvs vs) (k:κ):(kvs.any λ q=>decide (q.1=k))=vs.any λ q=>decide (q.1=k):=by
 induction r with
 |nil=>rfl
 |cons h t J=>rw[Ql,Ql,J,h.1]
theorem KV.repl  (r:KV kvs vs) (k:κ)  (O:RelV y u) :
  KV (kvs.map λ J=>if J.1=k then (J.1,y) else J) (vs.map λ J=>if J.1=k then (J.1,u) else J):=by
 induction r with
 |nil=>exact .nil
 |@cons p q ps Z h t Y =>
  rw[zd,zd];refine .cons ?_ Y;obtain⟨h1,h2⟩:=h;by_cases e:p.1=k
  ·rw[if_pos e,if_pos (h1.symm.trans e)];exact⟨h1,O⟩
  ·rw[if_neg e,if_neg (λ z=>e (h1.trans z))];exact⟨h1,h2⟩
theorem KV.put  (r:KV kvs vs) (k:κ)  (q:RelV y u):KV (I_7 kvs k y) (stored vs k u):=by
 unfold I_7 stored;rw[r.any k];by_cases e:(vs.any λ J=>decide (J.1=k))=true
 ·rw[if_pos e,if_pos e];exact r.repl k q
 ·rw[if_neg e,if_neg e];exact Paired.snoc r ⟨rfl,q⟩
theorem KV.length  (r:KV kvs vs):kvs.length=vs.length:=Yz r
end
theorem ap2  (r:RelV (kV k) u):(g_3 P w).is k u=true:=by
 cases k with
 |inl i=>obtain⟨t,e⟩:=(show ∃ t,u=Value.int i t from r);subst e;exact ac4 P w i t
 |inr x=>obtain⟨t,e⟩:=(show ∃ t,u=Value.str x t from r);subst e;exact ac3 P w x t
theorem X_2 :∀ {ks:List Key}{us:List Value},Vals (ks.map kV) us->ItemsAre (g_3 P w) ks us
 |[],_,r=>by rw[zz] at r;cases r;exact .nil
 |k::ks,_,r=>by
  rw[zd] at r;cases r with
  |cons h t=>exact .cons (ap2 h) (X_2 t)
abbrev KT (H:Hp):List (List Key×V)->List (List Key×Addr×Value)->Prop:=Paired λ p q=>p.1=q.1/\H q.2.1=some (.tup (p.1.map kV))/\RelV p.2 q.2.2
theorem KT.val  (r:KT H kvs xs) (k:List Key):RelO (M_5 kvs k) ((atKey xs k).map (·.2)):=by
 induction r with
 |nil=>exact Ya
 |@cons p q ps J h t Y =>
  obtain⟨h1,_,h2⟩:=h;by_cases e:p.1=k
  ·have O:=h1.symm.trans e;have b:atKey (q::J) k=some q.2:=by simp[atKey,O]
   rw[D_5 e,b];exact h2
  ·have O:¬ q.1=k:=λ z=>e (h1.trans z);have b:atKey (q::J) k=atKey J k:=by simp[atKey,O]
   rw[w_8 e,b];exact Y
theorem KT.repl  (r:KT H kvs xs) (k:List Key)  (O:RelV y u) :
  KT H (kvs.map λ J=>if J.1=k then (J.1,y) else J) (xs.map (putAt k u)):=by
 induction r with
 |nil=>exact .nil
 |@cons p q ps qs h t Y =>
  rw[zd,zd];refine .cons ?_ Y;obtain⟨h1,h2,Z⟩:=h;unfold putAt;by_cases e:p.1=k
  ·rw[if_pos e,if_pos (h1.symm.trans e)];exact⟨h1,h2,O⟩
  ·rw[if_neg e,if_neg (λ z=>e (h1.trans z))];exact⟨h1,h2,Z⟩
theorem KT.put  (r:KT H kvs xs) (k:List Key)  (Y:H b=some (.tup (k.map kV))) (J:RelV y u) :
  KT H (I_7 kvs k y) (storedH xs k b u):=by
 have e:(kvs.any λ O=>decide (O.1=k))=(atKey xs k).isSome:=by rw[w_9,(r.val k).isSome_eq,Option.isSome_map]
 unfold I_7 storedH;rw[e];by_cases q:(atKey xs k).isSome=true
 ·rw[if_pos q,if_pos q];exact r.repl k J
 ·rw[if_neg q,if_neg q];exact Paired.snoc r ⟨rfl,Y,J⟩
theorem KT.keeps  (r:KT H kvs xs) (q:∀ b ys,H b=some (.tup ys)->H' b=some (.tup ys)):KT H' kvs xs :=
 Paired.mapP r λ _ _ z=>⟨z.1,q _ _ z.2.1,z.2.2⟩
section
theorem bm0  (ok:HOk P w H h) (e:Rd H a u):ObjOk P w H h a u:=e.ok ok
theorem aM2  (ok:HOk P w H h) (e:Rd H a (.dK kvs)):kvs.length<=sizeLine/\(a==sysModules)=false/\∃ vs,KV kvs vs/\h.DictOf (g_3 P w) a vs :=
 show ObjOk P w H h a (.dK kvs) from bm0 ok e
theorem bu7  (ok:HOk P w H h) (e:H a=some (.dK kvs)):kvs.length<=sizeLine/\(a==sysModules)=false/\∃ vs,KV kvs vs/\h.DictOf (g_3 P w) a vs:=aM2 ok (.inl e)
theorem aj5  (ok:HOk P w H h) (e:H a=some (.tup (ks.map kV))):(tupleKind (g_3 P w)).is h ks a:=by obtain⟨_,q,r,o,h1,h2,⟨n,J⟩,_⟩:=(show ObjOk P w H h a (.tup (ks.map kV)) from ok a _ e);exact⟨o,q.toArray,n,h1,h2,J,by simpa using X_2 r⟩
theorem aM0  (ok:HOk P w H h) (e:Rd H a (.dT kvs)):kvs.length<=sizeLine/\(a==sysModules)=false /\
  ∃ xs,KT H kvs xs/\h.DictOfH (tupleKind (g_3 P w)) a xs:=by
 obtain⟨z,y,xs,r,o,es,ep,h1,h2,h3,O,Z⟩:=(show ObjOk P w H h a (.dT kvs) from bm0 ok e);refine⟨z,y,xs,r,o,es,ep,h1,h2,h3,O,λ x hx=>?_,Z⟩;have all:∀ {l:List (List Key×V)}{m:List (List Key×Addr×Value)},KT H l m->∀ x∈m,(tupleKind (g_3 P w)).is h x.1 x.2.1:=by
  intro l m q;induction q with
  |nil=>intro x hx;exact nomatch hx
  |@cons p q ps qs J t Y =>
   intro x hx;rcases qv hx with e | hx
   ·subst e;exact aj5 ok (by rw[<- J.1];exact J.2.1)
   ·exact Y x hx
 exact all r x hx
theorem bK9  (ok:HOk P w H h) (e:H a=some (.dT kvs)):kvs.length<=sizeLine/\(a==sysModules)=false /\
  ∃ xs,KT H kvs xs/\h.DictOfH (tupleKind (g_3 P w)) a xs:=aM0 ok (.inl e)
end
def DGet (H:Hp) (a:Addr) (y:V) (r:Option V):Prop :=
 (∃ kvs k,Rd H a (.dK kvs)/\y=kV k/\r=M_5 kvs k)\/∃ kvs k b,Rd H a (.dT kvs)/\y=.ref b/\H b=some (.tup (k.map kV))/\r=M_5 kvs k
def DPut (H:Hp) (a:Addr) (y v:V) (H':Hp):Prop :=
 (∃ kvs k,H a=some (.dK kvs)/\y=kV k/\kvs.length<sizeLine/\H'=upd H a (.dK (I_7 kvs k v))) \/
 ∃ kvs k b,H a=some (.dT kvs)/\y=.ref b/\H b=some (.tup (k.map kV))/\kvs.length<sizeLine/\H'=upd H a (.dT (I_7 kvs k v))
theorem DGet.k {H:Hp}{a:Addr}{kvs:List (Key×V)}{k:Key} (e:H a=some (.dK kvs)):DGet H a (kV k) (M_5 kvs k):=.inl ⟨kvs,k,.inl e,rfl,rfl⟩
theorem DPut.k {H:Hp}{a:Addr}{kvs:List (Key×V)}{k:Key}{v:V} (e:H a=some (.dK kvs)) (q:kvs.length<sizeLine):DPut H a (kV k) v (upd H a (.dK (I_7 kvs k v))):=.inl ⟨kvs,k,e,rfl,q,rfl⟩
section
variable {X:Cx}{pins:List (Addr×Obj)}{σ:St}{H:Hp}{s:Shared}{a:Addr}{y v:V}{u r:Value}{o:Option V}{A:Around}{E:Value->Shared->Prop}
theorem Inv.big (I:Inv X pins σ H s):sysModules<s.heap.objs.size:=by have h:=(I.mod.glob.keeps I.bk).lt;exact Nat.lt_trans (by decide) h
theorem aC6  (hu:A.units+1<cLine) (I:Inv X pins σ H s) (g:DGet H a y (some v)) (ry:RelV y u) (h:∀ O s',Inv X pins σ H s'->RelV v O->Q O s') :
  wpAny (model X.prog X.w) A (getItem (.ref a) u) Q E s:=by
 rcases g with ⟨kvs,k,e,ey,l⟩ | ⟨kvs,k,b,e,ey,eb,l⟩
 ·subst ey;obtain⟨z,hd,vs,q,dd⟩:=aM2 I.hok e;obtain⟨O,Z,J⟩:=RelO.some_of (by rw[l];exact q.val k);exact wpAny_getItem_of (ap2 ry) dd.mapOf Z (h O _ (I.tok _) J)
 ·subst ey;cases (show u=Value.ref b from ry);obtain⟨z,hd,xs,q,dd⟩:=aM0 I.hok e;obtain⟨O,Z,J⟩:=RelO.some_of (by rw[l];exact q.val k);obtain⟨p,hp,Y⟩:=Option.map_eq_some_iff.mp Z;refine wpAny_getItem_heap (tupleKind_room_in1 hu) (aj5 I.hok eb) dd hp ?_;rw[Y];exact h O _ (I.tok _) J
theorem bf7  (Y:A.units+1<cLine) (I:Inv X pins σ H s) (g:DGet H a y o) (O:RelV y u) (h:∀ s',Inv X pins σ H s'->Q (.bool (!o.isSome)) s') :
  wpAny (model X.prog X.w) A (compareOp .NotIn u (.ref a)) Q E s:=by
 rcases g with ⟨kvs,k,e,ey,l⟩ | ⟨kvs,k,b,e,ey,eb,l⟩
 ·subst ey;obtain⟨z,hd,vs,J,dd⟩:=aM2 I.hok e;refine wpAny_notIn_of (ap2 O) hd dd.mapOf ?_;rw[<- (J.val k).isSome_eq,<- l];exact h _ (I.tok _)
 ·subst ey;cases (show u=Value.ref b from O);obtain⟨z,hd,xs,J,dd⟩:=aM0 I.hok e;refine wpAny_notIn_heap (tupleKind_room_in1 Y) (aj5 I.hok eb) hd dd ?_;have q:=(J.val k).isSome_eq;rw[Option.isSome_map] at q;rw[<- q,<- l];exact h _ (I.tok _)
theorem ae5  (I:Inv X pins σ H s) (Y:Mut (H a)) (J:Heap.SameBut a s.heap h') (O:∃ q,h'.get? a=some q) (new:ObjOk X.prog X.w (upd H a ob) h' a ob) :
  Inv X pins σ (upd H a ob) {s with heap:=h',toks:=t'} :=
 I.write Y (.inl rfl) (λ b q Z z=>(J.2 b Z).trans z) O new
theorem aC3  (z:kvs.length<=sizeLine) (hd:(a==sysModules)=false) (q:KV kvs vs) (dd:h'.DictOf (g_3 P w) a vs) :
  ObjOk P w H' h' a (.dK kvs):=⟨z,hd,vs,q,dd⟩
theorem aC5  (hu:A.units+1<cLine) (I:Inv X pins σ H s) (g:DPut H a y v H') (ry:RelV y u) (rv:RelV v r) (h:∀ s',Inv X pins σ H' s'->Q () s') :
  wpAny (model X.prog X.w) A (setItem (.ref a) u r) Q E s:=by
 rcases g with ⟨kvs,k,e,ey,l,eH⟩ | ⟨kvs,k,b,e,ey,eb,l,eH⟩
 ·subst ey eH;obtain⟨z,hd,vs,J,dd⟩:=bu7 I.hok e;have hz:vs.length<=sizeLine:=by rw[<- J.length];exact z
  have Z:(I_7 kvs k v).length<=sizeLine:=by have:=w_0 kvs k v;omega
  refine wpAny_setItem_pairs (ap2 ry) dd λ h' O hs=>h _ ?_;have he:∃ q,h'.get? a=some q:=let ⟨q,_,_,Y,_⟩:=O;⟨q,Y⟩;exact ae5 I (by rw[e];exact Ya) hs he (aC3 Z hd (J.put k rv) O)
 ·subst ey eH;cases (show u=Value.ref b from ry);obtain⟨z,hd,xs,J,dd⟩:=bK9 I.hok e;have hz:xs.length<=sizeLine:=by rw[<- Yz J];exact z
  have Z:(I_7 kvs k v).length<=sizeLine:=by have:=w_0 kvs k v;omega
  refine wpAny_setItem_heap (tupleKind_room_in1 hu) (aj5 I.hok eb) dd λ h' O hs=>h _ ?_;obtain⟨q,es,ep,Y,h2,h3,h4,_,h5⟩:=O;refine ae5 I (by rw[e];exact Ya) hs ⟨q,Y⟩ ⟨Z,hd,_,(J.put k eb rv).keeps λ c ys ec=>?_,q,es,ep,Y,h2,h3,h4,h5⟩;rw[b_2 (ne_of ec e (λ z=>nomatch z))];exact ec
end
def bM5 (i:Expr):Prop:=∀ q J,subscripted i false q J=operate [q,J] (getItem q J)
theorem aV9 {T id:String}
  (hl:typeLookup (.type T) "__getitem__"=pure (some (.builtin id))) (hs:bM5 q)
  (h:wpAny (model prog w) A (eval value env) (λ o Z=>wpAny (model prog w) A (eval q env) (λ i J=>J.TypeIs o T/\wpAny (model prog w) A (getItem o i) Q E J) E Z) E s) :
  wpAny (model prog w) A (eval (.Subscript value q pos) env) Q E s:=by
 refine Subscript_ (yg h (λ o Z aa=>yg aa (λ i J O=>?_) λ _ _ x=>x) λ _ _ x=>x);obtain⟨hT,O⟩:=O;refine qb ?_;rw[getitemInPython_of_ne hT.not_modules];refine qb (wpAny_specialOf hT hl ?_);have fin:wpAny (model prog w) A (subscripted q false o i) (λ r Y=>wpAny (model prog w) A (letTemporaryGo value o r >>= λ _=>pure r) Q E Y) E J:=by rw[hs o i];exact wpAny_operating (yg O (λ r Y ac=>qb (wpAny_letTemporaryGo (qc ac))) λ _ _ x=>x)
 first
  |exact qc (qb fin)
  |exact qb (qc (qb fin))
  |exact qb fin
theorem ae4  (I:Inv X pins σ H s) (g:DGet H a y o):s.TypeIs (.ref a) "dict":=by
 rcases g with ⟨kvs,k,e,_,_⟩ | ⟨kvs,k,b,e,_,_,_⟩
 ·obtain⟨_,_,vs,_,dd⟩:=aM2 I.hok e;exact dd.typeIs
 ·obtain⟨_,_,xs,_,dd⟩:=aM0 I.hok e;exact dd.typeIs
def bB5 (td ty:TE):TE:=λ σ H Q=>td σ H λ x H1=>ty σ H1 λ y H2=>∃ a v,x=.ref a/\DGet H2 a y (some v)/\Q v H2
def bE1 (td ty tv:TE):TS:=λ D σ H=>tv σ H λ v H1=>td σ H1 λ x H2=>ty σ H2 λ y J=>∃ a q,x=.ref a/\DPut J a y v q/\D.nx σ q
section
theorem aw1 (hu:X.A.units+1<cLine) (ho:PE X o td) (hi:PE X i ty) (Y:bM5 i):PE X (.Subscript o i pos) (bB5 td ty):=by intro pins s σ H Q I h;refine aV9 PySem.F.slot_dict_getitem.lookup Y (thn (ho pins s σ H _ I h) λ u s1 ⟨x,H1,I1,Z,q1⟩=>thn (hi pins s1 σ H1 _ I1 q1) λ iv s2 q=>?_);obtain⟨y,H2,O,ry,a,v,ex,g,q2⟩:=q;subst ex;obtain rfl:u=Value.ref a:=Z;exact⟨ae4 O g,aC6 hu O g ry λ w' s3 I3 J=>⟨v,H2,I3,J,q2⟩⟩
theorem aY3 (hu:X.A.units+1<cLine) (ho:PE X o td) (hi:PE X i ty) (hv:PE X value tv) (hs:swapsWith value (some (.Subscript o i pos')) pos.line X.env=pure false) :
  PS X (.Assign [.Subscript o i pos'] value pos) (bE1 td ty tv):=by
 intro pins s σ H D I h;refine wpAny_Assign_Subscript (thn (hv pins s σ H _ I h) λ r s1 ⟨v,H1,J,rv,O⟩=>thn (ho pins s1 σ H1 _ J O) λ u s2 ⟨x,H2,I2,Y,q2⟩=>thn (hi pins s2 σ H2 _ I2 q2) λ iv s3 q=>?_) hs;obtain⟨y,H3,I3,ry,a,H4,ex,g,q3⟩:=q;subst ex;obtain rfl:u=Value.ref a:=Y;exact aC5 hu I3 g ry rv λ s4 Z=>⟨σ,H4,Z,q3⟩
end
theorem aM3  (h:Heap) (q:sysModules<h.objs.size):ObjOk P w H (h.push {cls:=.type "dict",data:=.dict #[]}) h.objs.size (.dK []) :=
 ⟨yf _,beq_eq_false_iff_ne.mpr (zv (qt q)),[],.nil,Heap.DictOf.new h⟩
def ag1:List (TE×TE)->St->Hp->(List (V×V)->Hp->Prop)->Prop
 |[],_,H,Q=>Q [] H
 |(tk,tv)::r,σ,H,Q=>tk σ H λ x H1=>tv σ H1 λ y H2=>ag1 r σ H2 λ ps q=>Q ((x,y)::ps) q
abbrev VV:List (V×V)->List (Value×Value)->Prop:=Paired λ p q=>RelV p.1 q.1/\RelV p.2 q.2
def PPs (X:Cx) (pos:Pos) (keys:List (Option Expr)) (q:List Expr) (J:List (TE×TE)):Prop :=
 ∀ (pins:List (Addr×Obj)) (s:Shared) (σ:St) (H:Hp) (Q:List (V×V)->Hp->Prop),Inv X pins σ H s->ag1 J σ H Q ->
  wpAny (model X.prog X.w) X.A (evalPairs (pairTrees keys q X.env pos)) (λ vs s'=>∃ ps H',Inv X pins σ H' s'/\VV ps vs/\Q ps H') X.xe s
theorem aY4 :PPs X pos [] [] []:=λ pins s σ H Q I h=>pairTrees_nil_walk ⟨[],H,I,.nil,h⟩
theorem aI1  (hk:PE X k tk) (hv:PE X v tv) (Z:PPs X pos ks vs q) :
  PPs X pos (some k::ks) (v::vs) ((tk,tv)::q):=λ pins s σ H Q I h =>
 pairTrees_cons_walk (thn (hk pins s σ H _ I h) λ u s1 ⟨x,H1,I1,Y,q1⟩=>thn (hv pins s1 σ H1 _ I1 q1) λ w2 s2 ⟨y,H2,I2,ry,q2⟩ =>
  thn (Z pins s2 σ H2 _ I2 q2) λ ws s3 ⟨ps,O,I3,J,q3⟩=>⟨(x,y)::ps,O,I3,.cons ⟨Y,ry⟩ J,q3⟩)
def B_7 (kvs more:List (Key×V)):List (Key×V):=more.foldl (λ acc q=>I_7 acc q.1 q.2) kvs
theorem KV.merge:∀ {more:List (Key×V)}{J:List (Key×Value)}{kvs:List (Key×V)}{vs:List (Key×Value)},KV more J->KV kvs vs->KV (B_7 kvs more) (merged vs J):=by
 intro more J kvs vs r;induction r generalizing kvs vs with
 |nil=>intro q;exact q
 |@cons p q ps Y h t O =>
  intro r0;have e:KV (I_7 kvs p.1 p.2) (stored vs q.1 q.2):=by have:=r0.put p.1 h.2;rw[<- h.1];exact this
  exact O e
theorem y_6:∀ (more kvs:List (Key×V)),(B_7 kvs more).length<=kvs.length+more.length
 |[],kvs=>by show kvs.length<=kvs.length+0;omega
 |p::r,kvs=>by
  have h1:=y_6 r (I_7 kvs p.1 p.2);have h2:=w_0 kvs p.1 p.2;show (B_7 (I_7 kvs p.1 p.2) r).length<=_;rw[zg];omega
theorem L_8 :∀ {kvs:List (Key×V)}{Y:List (Value×Value)},VV (kvs.map λ O=>(kV O.1,O.2)) Y->∃ J,Carries (g_3 P w) Y J/\KV kvs J
 |[],_,r=>by rw[zz] at r;cases r;exact⟨[],Ya,.nil⟩
 |p::kvs,_,r=>by
  rw[zd] at r;cases r with
  |@cons a b as bs h t =>
   obtain⟨J,c,q⟩:=L_8 t;obtain⟨b1,Z⟩:=b;exact⟨(p.1,Z)::J,⟨ap2 h.1,rfl,c⟩,.cons ⟨rfl,h.2⟩ q⟩
def bB4 (q:List (TE×TE)):TE:=λ σ H Q=>∀ p,H p=none->ag1 q σ (upd H p (.dK [])) λ ps H2=>H2 p=some (.dK [])/\∃ kvs:List (Key×V),ps=kvs.map (λ J=>(kV J.1,J.2))/\kvs.length<=15/\Q (.ref p) (upd H2 p (.dK (B_7 [] kvs)))
theorem aZ0  (h:PPs X pos keys J Y) (Z:keys.all (·.isSome)=true) (hl:keys.length=J.length) (h0:keys≠[])
  (ad:keys.length<=15):PE X (.Dict keys J pos) (bB4 Y):=by
 intro pins s σ H Q I q;have hn:=I.hok.fresh (qj s.heap.objs.size);have I1:=I.laid (t':=s.toks) (λ _ _ q=>qd _ q) (qj _) (aM3 s.heap I.big);refine wpAny_Dict_walk (knd:=g_3 X.prog X.w) Z hl h0 ad (thn (h pins _ σ _ _ I1 (q _ hn)) λ ws s2 O=>?_);obtain⟨ps,H2,I2,ac,e,kvs,ep,lk,q2⟩:=O;subst ep;obtain⟨rs,c,rk⟩:=L_8 ac;obtain⟨z,hd,ae,r0,dd⟩:=bu7 I2.hok e;cases r0;refine⟨rs,c,dd,λ h' aa hs=>⟨.ref s.heap.objs.size,_,?_,rfl,q2⟩⟩;have hz:(B_7 [] kvs).length<=sizeLine:=by have h1:=y_6 kvs [];rw[yy] at h1;rw[Qa];omega
 have he:∃ q,h'.get? s.heap.objs.size=some q:=let ⟨q,_,_,hq,_⟩:=aa;⟨q,hq⟩;exact ae5 I2 (by rw[e];exact Ya) hs he (aC3 hz hd (rk.merge .nil) aa)
end L2
namespace Att
open PySem PySem.W PySem.Calls PyProof.Rows
end Att
namespace L2
open PySem PySem.Spec PyProof.Rows
section
variable {κ:Type} [DecidableEq κ]
theorem aU9 {k:κ} (h:M_5 kvs k=some v):k∈kvs.map (·.1):=by
 have q:(kvs.any λ J=>decide (J.1=k))=true:=by
  rw[w_9,h]
  all_goals rfl
 obtain⟨p,O,e⟩:=List.any_eq_true.mp q;exact List.mem_map.mpr ⟨p,O,Qn e⟩
end
theorem D_2 {n:Nat} (h:a<n) (h':n<=b):a≠b:=qt (qr h h')
theorem aQ4 {n:Nat} (h:a<n) (h':n<=b):b≠a:=(D_2 h h').symm
noncomputable def aa0 (cells:List (Str×Addr)):List (Str×NameKind)->List (Str×Addr)->List (Str×Addr)
 |[],acc=>acc
 |(n,k)::r,acc=>aa0 cells r (if (k==NameKind.free)=true then (n,(cells.lookup n).getD 0)::acc else acc)
theorem A_6 :∀ (l:List (Str×NameKind)) (acc:List (Str×Addr)),(∀ y∈l,y.2=.free->∃ c,env.cells.lookup y.1=some c) ->
  (forIn l acc λ y (J:List (Str×Addr))=>(match y with
   |(name,kind)=>if (kind==NameKind.free)=true then do let c <- cellOf env name;pure (ForInStep.yield ((name,c)::J)) else pure (ForInStep.yield J):Sem _))=pure (aa0 env.cells l acc)
 |[],acc,_=>rfl
 |(n,k)::r,acc,h=>by
  rw[List.forIn_cons];unfold aa0;by_cases e:(k==NameKind.free)=true
  ·have O:k=NameKind.free:=by simpa using e
   obtain⟨c,Y⟩:=h (n,k) qg O;simp only[e,Yw,cellOf,Y,pure_bind,Option.getD_some];exact A_6 r _ λ y q=>h y (qh _ q)
  ·simp only[e,if_false];exact A_6 r _ λ y q=>h y (qh _ q)
theorem L_6  (h:∀ y∈sc.names,y.2=.free->∃ c,env.cells.lookup y.1=some c):closureFor sc env=pure (aa0 env.cells sc.names []):=by have e:=A_6 sc.names [] h;exact (bind_pure _).trans e
theorem R_6 :∀ (l:List (Str×NameKind)) (acc:List (Str×Addr)),(∀ y∈l,y.2=.free->∃ c,cells.lookup y.1=some c) ->
  (aa0 cells l acc).lookup y=some c->cells.lookup y=some c\/acc.lookup y=some c
 |[],acc,_,e=>.inr e
 |(n,k)::r,acc,h,e=>by
  have hr:=λ y hy=>h y (qh _ hy);rcases R_6 r _ hr e with q | q
  ·exact .inl q
  ·by_cases z:(k==NameKind.free)=true
   ·rw[if_pos z] at q;rw[j8] at q;cases Y:y==n with
    |true =>
     rw[Y] at q;obtain⟨Z,O⟩:=h (n,k) qg (by simpa using z);have J:=O;rw[J] at q;have e1:y=n:=by simpa using Y
     have q':Z=c:=qi q;exact .inl (by rw[e1,J,q'])
    |false =>
     rw[Y] at q;exact .inr q
   ·rw[if_neg z] at q;exact .inr q
theorem z_2 :∀ (l:List (Str×NameKind)) (acc:List (Str×Addr)),((y,NameKind.free)∈l\/∃ c,acc.lookup y=some c)->∃ c,(aa0 cells l acc).lookup y=some c
 |[],acc,h=>by
  rcases h with h | h
  ·cases h
  ·exact h
 |(n,k)::r,acc,h=>by
  have q:∀ v:Addr,(∃ c,acc.lookup y=some c)->∃ c,((n,v)::acc).lookup y=some c:=λ v J=>by
   obtain⟨c,O⟩:=J;rw[j8];cases y==n with
   |true=>exact⟨v,rfl⟩
   |false=>exact⟨c,O⟩
  rcases h with h | h
  ·rcases qv h with e | h
   ·have e1:=Qk Prod.fst e;have e2:=Qk Prod.snd e;subst e1 e2;refine z_2 r _ (.inr ?_);rw[if_pos (by rfl)];refine⟨(cells.lookup y).getD 0,?_⟩;rw[j8];simp
   ·exact z_2 r _ (.inl h)
  ·refine z_2 r _ (.inr ?_);split
   ·exact q _ h
   ·exact h
theorem U_9  (Z:∀ z∈scope.names,z.2≠.cell) (h:(relabel scope env).names.lookup y=some k) (Y:k=.cell\/k=.free):(y,NameKind.free)∈scope.names:=by
 have m:=jo h;obtain⟨⟨n,J⟩,q,e⟩:=List.mem_map.mp m;dsimp only at e;split at e
 ·rename_i z;have e1:=Qk Prod.fst e;have O:J=NameKind.free:=by simp only[zn] at z;simpa using z.1.1
  subst e1 O;exact q
 ·have e1:=Qk Prod.fst e;have e2:J=k:=Qk Prod.snd e;subst e1 e2;rcases Y with z | z
  ·exact absurd z (Z _ q)
  ·rw[z] at q;exact q
theorem K_3 {env:Env} (O:env.scope.kind=.function):∀ {names:List (Str×NameKind)}{y:Str},names.lookup y=some .free->env.kindOf y=some .cell ->
  (names.map λ (n,k)=>if (k==NameKind.free&&env.scope.kind==.function&&env.kindOf n==some .cell) then (n,NameKind.cell) else (n,k)).lookup y=some .cell
 |[],_,h,_=>by simp at h
 |(n,k)::r,y,h,hk=>by
  have J:=@K_3 env O r y;rw[zd];cases q:y==n with
  |true =>
   have e:y=n:=by simpa using q
   subst e;rw[j8,q] at h;have h':=qi h;subst h';simp[O,hk]
  |false =>
   rw[j8,q] at h;show List.lookup y ((if (k==NameKind.free&&env.scope.kind==.function&&env.kindOf n==some .cell)=true then (n,NameKind.cell) else (n,k))::_)=_;by_cases z:(k==NameKind.free&&env.scope.kind==.function&&env.kindOf n==some .cell)=true
   ·rw[if_pos z,j8,q];exact J h hk
   ·rw[if_neg z,j8,q];exact J h hk
structure ScB (N:List Str) (sc scope:Scope) (x:Str) (frees:List Str) (js:List Nat):Prop where
 kind:scope.kind=.function
 fk:sc.kind=.function
 cells:∀ y∈scope.names,y.2≠.cell
 locs:∀ y∈scope.names,y.2=.local->scope.names.lookup y.1=some .local
 own:scope.names.lookup x=some .local
 fr:∀ y∈scope.names,y.2=.free->sc.names.lookup y.1=some .cell
 nd:(x::frees).Nodup
 ln:frees.length=js.length
 zp:∀ p∈frees.zip js,N[p.2]?=some p.1/\sc.names.lookup p.1=some .cell/\scope.names.lookup p.1=some .free
def cxB (X:Cx) (N:List Str) (scope:Scope) (s:Shared) (H:Hp) (C:Addr) (q:List Addr):Cx where
 prog:=X.prog
 w:=X.w
 K:=X.K
 mg:=X.mg
 base:=X.base
 A:=X.A
 N:=N
 s₀:=s
 H₀:=H
 env:=compEnvC scope (aa0 X.env.cells scope.names []) C X.env
 outer:=X.stack
 stack:=X.stack
 ex:=q
 fn:=λ _=>false
 calm:=X.calm
 pn:=[]
 xe:=λ _ _=>False
def frv (σ:St) (js:List Nat):St:=js.map λ j=>(σ[j]?).join
def PTs (X:Cx) (ifs:List Expr) (t:TT):Prop :=
 ∀ (pins:List (Addr×Obj)) (s:Shared) (σ:St) (H:Hp) (Q:Bool->Hp->Prop),Inv X pins σ H s->t σ H Q ->
  wpAny (model X.prog X.w) X.A (forIn ifs true λ c r=>if r=true then do let ok <- isTrue c X.env (eval c X.env);pure (ForInStep.yield ok) else pure (ForInStep.yield r)) (TP X pins σ Q) X.xe s
def tYes:TT:=λ _ H Q=>Q true H
theorem aX8 :PTs X [] tYes:=λ _ _ _ H _ I h=>wpAny_tests_nil ⟨H,I,h⟩
theorem aX7  (h:PT X c t):PTs X [c] t:=λ pins s σ H Q I q=>wpAny_tests_one (h pins s σ H Q I q)
def LcW (js:List Nat) (tt:TT) (te:TE) (σ:St) (Q:List V->Hp->Prop) (J:It) (H1:Hp):Prop :=
 ∃ W:Nat->Nat->List V->Hp->Prop,(∃ m,W 0 m [] H1)/\∀ i m ys H,W i m ys H ->
  (J.stop i H/\ys.length<=sizeLine/\Q ys H) \/
  (J.go i H/\ys.length<sizeLine/\∀ x H',J.yld i H x H'->tt (some x::frv σ js) H' λ b H2 =>
   if b=true then te (some x::frv σ js) H2 λ v O=>∃ q,q<m/\W (i+1) q (ys++[v]) O else ∃ q,q<m/\W (i+1) q ys H2)
section
variable {X:Cx}{pins:List (Addr×Obj)}{σ:St}{H:Hp}{s:Shared}{x:Str}{scope sc:Scope}{frees:List Str}{js:List Nat}
theorem aj2 (I:Inv X pins σ H s) (q:X.env.scope=sc) (B:ScB X.N sc scope x frees js):∀ y∈scope.names,y.2=.free->∃ c,X.env.cells.lookup y.1=some c:=λ y J O =>
 I.ok.has y.1 (.inl (show X.env.scope.names.lookup y.1=some .cell by rw[q];exact B.fr y J O))
theorem ar1 :∀ {l:List α}{r:List q}{k:Nat}{a:α},l.length=r.length->l[k]?=some a->∃ b,r[k]?=some b/\(a,b)∈l.zip r
 |[],_,_,_,_,h=>by simp at h
 |_::_,[],_,_,hl,_=>by simp at hl
 |a'::l,b'::r,0,a,_,h=>by
  simp at h;subst h;exact⟨b',rfl,by simp⟩
 |a'::l,b'::r,k+1,a,hl,h=>by
  obtain⟨b,h1,h2⟩:=ar1 (by simpa using hl) (by simpa using h);exact⟨b,by simpa using h1,by rw[Y4];exact qh _ h2⟩
theorem aE3  (I:Inv X pins σ H s) (aa:X.env.scope=sc) (B:ScB X.N sc scope x frees js) (hf:∀ b∈fp,FpOk X pins H b) (ad:∀ b∈fp,b<s.heap.objs.size)
  (hC:s.heap.objs.size<=C) (hD:s.heap.objs.size<=D) (ah:D≠C) (O:∀ b o,s.heap.get? b=some o->J.get? b=some o) (ns:J.Ns C mC) (gD:J.get? D=some oD) (nD:∀ v,oD.data≠.cell v) :
  Inv (cxB X (x::frees) scope s H C fp) (pins++[(D,oD)]) (none::frv σ js) H {s with heap:=J,toks:=tk}:=by
 have lc:=aj2 I aa B;have sub:∀ y c,(aa0 X.env.cells scope.names []).lookup y=some c->X.env.cells.lookup y=some c:=λ y c e=>by
  rcases R_6 scope.names [] lc e with q | q
  ·exact q
  ·cases q
 have ag:=λ b Y=>(hf b Y).2.2.2.1;obtain⟨m,hn,hl⟩:=I.loc;refine⟨⟨I.ok.mod,B.kind,I.ok.glob,I.ok.blt,hC,?_,?_,?_,I.ok.hd,I.ok.frames,.inl rfl,?_,?_,zf I.ok.bsz I.sz,?_,?_,I.stack,I.stkFree⟩,rfl,I.bare,Un.kept O,⟨mC,ns,?_⟩,?_,I.hok.fresh hC,?_,?_,I.hok.kept O,?_⟩
 ·exact λ y z c e1 e2=>I.ok.inj y z c (sub y c e1) (sub z c e2)
 ·intro y hy;have hm:(y,NameKind.free)∈scope.names:=by
   rcases hy with q | q
   ·exact U_9 B.cells q (.inl rfl)
   ·exact U_9 B.cells q (.inr rfl)
  exact z_2 scope.names [] (.inl hm)
 ·exact λ y c z _=>absurd z zo
 ·intro b Y;refine⟨λ z=>?_,λ y c e z=>(hf b Y).2.2.2.2.1 y c (sub y c e) z⟩;have z':=z;exact absurd (qr (ad b Y) hC) (by rw[z'];exact ji _)
 ·exact λ b o e=>I.bs b o e
 ·intro b o e Y;rcases ag b Y with z | z
  ·exact I.ok.noex b o e z
  ·exact absurd (qr (qm (I.ok.bs b o e).1) z) (ji _)
 ·intro b Y z;rcases qv (I.stkSub b z) with e | e
  ·exact (hf b Y).2.1 e
  ·exact (hf b Y).2.2.1 e
 ·intro i y v e1 e2 e3;cases i with
  |zero=>simp at e2
  |succ k =>
   have af:frees[k]?=some y:=by have e0:(x::frees)[k+1]?=some y:=e1;simpa using e0
   obtain⟨j,hj,hz⟩:=ar1 B.ln af;obtain⟨z1,z2,z3⟩:=B.zp _ hz;have Z:(frv σ js)[k]?=some (some v):=by simpa using e2
   have e4:σ[j]?=some (some v):=by
    unfold frv at Z;rw[zl,hj] at Z;have e5:(σ[j]?).join=some v:=qi Z;cases q:σ[j]? with
    |none=>rw[q] at e5;cases e5
    |some w'=>rw[q] at e5;cases w' with
     |none=>cases e5
     |some w2=>cases e5;rfl
   have kX:X.env.kindOf y=some .cell:=by show X.env.scope.names.lookup y=_;rw[aa];exact z2
   obtain⟨u,r,q⟩:=hl j y v z1 e4 (.inr (.inl kX));refine⟨u,r,?_⟩;rcases q with ⟨q,_⟩ | ⟨_,c,ec,ic⟩
   ·rw[kX] at q;cases q
   ·have kY:=K_3 (by rw[aa];exact B.fk) z3 kX;refine .inr ⟨.inl kY,c,?_,?_⟩
    ·obtain⟨c',ac⟩:=z_2 scope.names [] (.inl (jo z3));have:=sub y c' ac;rw[ec] at this;cases this;exact ac
    ·obtain⟨o,ho,hd⟩:=ic;exact⟨o,O c o ho,hd⟩
 ·intro y c e;obtain⟨v,o,ho,hd⟩:=I.cell y c (sub y c e);exact⟨v,o,O c o ho,hd⟩
 ·exact λ y c e=>I.freeC y c (sub y c e)
 ·intro p hp;have ae:p∈pins++[(D,oD)]:=by simpa [cxB] using hp
  rcases qx ae with z | z
  ·obtain⟨a1,a2,a3,a4,a5⟩:=I.pin p (qo _ z);refine⟨O _ _ a1,a2,λ e=>?_,λ e=>?_,a5⟩
   ·exact absurd (qr (qm a1) hC) (by rw[show p.1=C from e];exact ji _)
   ·rcases qv (I.stkSub p.1 e) with e | e
    ·exact a3 e
    ·exact a4 e
  ·have z':p=(D,oD):=by simpa using z
   subst z';refine⟨gD,I.hok.fresh hD,ah,λ e=>?_,nD⟩;rcases qv (I.stkSub D e) with e | e
   ·exact absurd (qr I.lt hD) (by rw[show D=X.env.locals from e];exact ji _)
   ·exact I.nofs hD e
 ·show (none::frv σ js).length=(x::frees).length;rw[zg,zg,B.ln,frv,qy]
end
theorem ap9  (I:Nat->Shared->Prop)
  (turn:∀ n s,I n s->wpAny (model prog w) A (pyNext it) (λ r s1=>match r with
   |none=>R (.ok .next) s1
   |some v=>wpAny (model prog w) A (letOwnedTupleGo q it v) (λ _ s2=>wpAny (model prog w) A (assign q env v) (λ _ Z =>
     wpAny (model prog w) A (forIn ifs true λ c r=>if r=true then do let ok <- isTrue c env (eval c env);pure (ForInStep.yield ok) else pure (ForInStep.yield r)) (λ ok J =>
      if ok=true then wpAny (model prog w) A (eval elt env) (λ y Y=>wpAny (model prog w) A (call (.builtin "list.append") [acc,y]) (λ _ s6=>∃ m,m<n ∧ I m s6) (λ _ _=>False) Y) (λ _ _=>False) J
      else ∃ m,m<n/\I m J) (λ _ _=>False) Z) (λ _ _=>False) s2) (λ _ _=>False) s1) (λ _ _=>False) s)
  (n:Nat) (h:I n s):codeAny (model prog w) A (.compLoop (.ListComp elt [⟨q,iter,ifs,0⟩] scope pos) 0 it acc env) R s:=by
 refine codeAny_loop rfl I (λ n s hI=>?_) n h;refine wpAny_noted ?_;rw[compTurn_list];refine qb (Qx (qb (yg (turn n s hI) (λ r s1 h1=>?_) λ _ _ z=>z.elim)));cases r with
 |none=>exact qc h1
 |some v =>
  refine qb (yg h1 (λ _ s2 h2=>?_) λ _ _ z=>z.elim);refine qb (yg h2 (λ _ Z h3=>?_) λ _ _ z=>z.elim);refine qb (yg h3 (λ ok J O=>?_) λ _ _ z=>z.elim);cases ok with
  |false=>exact qc ⟨rfl,O⟩
  |true =>
   refine qb (qb (yg O (λ y Y h5=>?_) λ _ _ z=>z.elim));exact qb (yg h5 (λ _ s6 h6=>qc (qc ⟨rfl,h6⟩)) λ _ _ z=>z.elim)
section
variable {X:Cx}{pins:List (Addr×Obj)}{σ:St}{H:Hp}{s:Shared}{x:Str}{scope sc:Scope}{frees:List Str}{js:List Nat}{elt iter:Expr}{ifs:List Expr}{px pos:Pos}{tt:TT}{te:TE}{E:Value->Shared->Prop}
noncomputable abbrev aq9 (q:List Value) (n:Nat):Obj:={cls:=.type "list",data:=.seq q.toArray n}
def LcG (tg:TG) (Y:St) (tt:TT) (te:TE) (Q:List V->Hp->Prop) (J:It) (H1:Hp):Prop :=
 ∃ W:Nat->Nat->List V->Hp->Prop,(∃ m,W 0 m [] H1)/\∀ i m ys H,W i m ys H ->
  (J.stop i H/\ys.length<=sizeLine/\Q ys H) \/
  (J.go i H/\ys.length<sizeLine/\∀ x H',J.yld i H x H'->tg x Y H' λ q H'=>(Y.length=q.length/\∀ (j:Nat) v,Y[j]?=some (some v)->q[j]?=some (some v))/\tt q H' λ b H2 =>
   if b=true then te q H2 λ v Z=>∃ O,O<m/\W (i+1) O (ys++[v]) Z else ∃ O,O<m/\W (i+1) O ys H2)
theorem bb7 {RR:Value->Addr->Result->Shared->Prop} (I:Inv X pins σ H s) (hc:X.calm=true) (a8:X.env.scope=sc) (B:ScB X.N sc scope x frees js)
  (T:Turn X.prog X.w X.K aj J Z it tn) (st:tn 0 s.heap) (f:∀ b∈Z,FpOk X pins H b) (S0:∀ {C pl H' s'},Inv (cxB X (x::frees) scope s H C Z) pl (none::frv σ js) H' s'->Inv (cxB X N' scope s H C Z) pl τ H' s') (hg:∀ C,PG (cxB X N' scope s H C Z) aj tg) (hW:LcG tg τ tt te Qe J H)
  (ht:∀ s H C Z,PTs (cxB X N' scope s H C Z) ifs tt) (he:∀ s H C Z,PE (cxB X N' scope s H C Z) elt te)
  (hR:∀ (D C:Addr) (s':Shared) (H':Hp) (ys:List V) (O:List Value) (n:Nat),s.heap.objs.size<=D->s.heap.objs.size<=C->D≠C->Inv (cxB X N' scope s H C Z) pins τ H' s'->H' D=none ->
   Vals ys O->s'.heap.get? D=some (aq9 O n)->ys.length<=sizeLine->Qe ys H'->RR (.ref D) C (.ok .next) s') :
  wpAny (model X.prog X.w) X.A (newList []) (λ acc s3=>wpAny (model X.prog X.w) X.A (newFunctionEnv scope X.env.globals (aa0 X.env.cells scope.names []) [] X.env.qual none .none (some X.env)) (λ as s4 =>
   codeAny (model X.prog X.w) X.A (.compStart (.ListComp elt [⟨aj,iter,ifs,0⟩] scope pos) 0 (.ref it) acc {as with scope:=relabel scope X.env}) (RR acc as.locals) s4) E s3) E s:=by
 obtain⟨W,⟨m0,w0⟩,turn⟩:=hW;refine yr (wpAny_newFunctionEnv B.cells (by intro y hy;simp at hy) (λ ag ac aa=>?_) B.kind);generalize hG:s.heap.push {cls:=.type "list",dict:=none,data:=.seq ([]:List Value).toArray}=G at ac aa ⊢;have bb:G.objs.size=s.heap.objs.size+1:=by rw[<- hG,Yu]
 have ap:s.heap.objs.size<=G.objs.size:=by rw[bb];exact Q5 _
 have ar:s.heap.objs.size≠G.objs.size:=by rw[bb];exact qt (Z6 _)
 obtain⟨C,bf⟩:∃ C:Addr,C=G.objs.size:=⟨_,rfl⟩;obtain⟨D,an⟩:∃ D:Addr,D=s.heap.objs.size:=⟨_,rfl⟩;rw[<- bf] at ac aa ar ap ⊢;have ae:s.heap.objs.size<=D:=by rw[an];exact qj _
 have am:=ap;have ak:D≠C:=by rw[an];exact ar
 have ax:∀ b o,s.heap.get? b=some o->ag.get? b=some o:=λ b o e=>by
  refine aa.extBut b o (D_2 (qm e) am) (qd _ ?_);rw[<- hG];exact qd _ e
 have gD:ag.get? D=some (aq9 [] 0):=by refine aa.extBut D _ ak (qd _ ?_);rw[<- hG,an];exact qk _ rfl
 have au:∀ b∈Z,b<s.heap.objs.size:=λ b hb=>by
  obtain⟨o,e,_⟩:=T.obj 0 _ st b hb;exact qm e
 rw[<- an];have be:=λ z=>D_2 (au D z) ae rfl;have Y0:=S0 (aE3 (tk:=s.toks+([]:List (Str×Value)).length) I a8 B f au am ae ak ax ac gD (λ v z=>nomatch z));have ba:=T.keep 0 _ _ st λ b _ o e=>ax b o e;have sub:∀ y c,(aa0 X.env.cells scope.names []).lookup y=some c->X.env.cells.lookup y=some c:=λ y c e=>by
  rcases R_6 scope.names [] (aj2 I a8 B) e with q | q
  ·exact q
  ·cases q
 have az:=λ p hp=>qm (I.pin p (qo _ hp)).1;have ai:∀ {H':Hp}{o:Obj},(∀ b∈Z,H' b=none)->∀ b∈Z,FpOk (cxB X N' scope s H C Z) (pins++[(D,o)]) H' b:=λ {H' o} hn b hb=>by
  obtain⟨_,a2,a3,a4,a5,a6⟩:=f b hb;have lt:=au b hb;refine⟨hn b hb,?_,λ z=>?_,.inl hb,λ y c e=>a5 y c (sub y c e),λ p hp=>?_⟩
  ·exact D_2 lt am
  ·rcases qv (I.stkSub b z) with e | e
   ·exact a2 e
   ·exact a3 e
  ·have aw:p∈pins++[(D,o)]:=by simpa [cxB] using hp
   rcases qx aw with z | z
   ·exact a6 p (qo _ z)
   ·have z':p=(D,o):=by simpa using z
    subst z';exact aQ4 lt ae
 have ao:∀ s3:Shared,s3={s with heap:=ag,toks:=s.toks+([]:List (Str×Value)).length} ->
   codeAny (model X.prog X.w) X.A (.compLoop (.ListComp elt [⟨aj,iter,ifs,0⟩] scope pos) 0 (.ref it) (.ref D) (compEnvC scope (aa0 X.env.cells scope.names []) C X.env)) (RR (.ref D) C) s3:=by
  rintro s3 rfl;refine ap9 (λ n s'=>∃ i ys O k H',Inv (cxB X N' scope s H C Z) (pins++[(D,aq9 O k)]) τ H' s'/\tn i s'.heap/\(∀ b∈Z,H' b=none)/\Vals ys O/\W i n ys H') ?_ m0
   ⟨0,[],[],0,H,Y0,ba,λ b hb=>(f b hb).1,.nil,w0⟩
  rintro n s4 ⟨i,ys,O,k,H4,I4,a7,a0,rv,w4⟩;have pD:∀ {pl:List (Addr×Obj)}{af:St}{H':Hp}{s':Shared},Inv (cxB X N' scope s H C Z) (pins++[(D,aq9 O k)]++pl) af H' s'->s'.heap.get? D=some (aq9 O k)/\H' D=none:=λ I'=>by
   have q:=I'.pin (D,aq9 O k) (qo _ (qp _ (qo _ qg)));exact⟨q.1,q.2.1⟩
  have ad:∀ {pl:List (Addr×Obj)}{af:St}{H':Hp}{s':Shared},Inv (cxB X N' scope s H C Z) (pins++pl) af H' s'->Inv (cxB X N' scope s H C Z) pins af H' s':=λ I'=>I'.unpinned;rcases turn i n ys H4 w4 with ⟨stop,lz,qe⟩ | ⟨go,lz,step⟩
  ·refine thn (T.done (cxB X N' scope s H C Z) rfl rfl rfl hc i _ s4 _ H4 (λ _ _=>False) I4 (ai a0) a7 stop) λ r s5 Y=>?_;obtain⟨hr,I5⟩:=Y;subst hr;have I5':Inv (cxB X N' scope s H C Z) (pins++[(D,aq9 O k)]++[]) τ H4 s5:=by simpa using I5
   exact hR D C s5 H4 ys O k ae am ak (ad I5) (pD I5').2 rv (pD I5').1 lz qe
  ·refine thn (T.item (cxB X N' scope s H C Z) rfl rfl rfl hc i _ s4 _ H4 (λ _ _=>False) I4 (ai a0) a7 go) λ r s5 Y=>?_;obtain⟨u,hr,h5⟩:=Y;subst hr;refine thn h5 λ _ s6 Y=>?_;obtain⟨y,H6,I6,r6,y6,al,bg⟩:=Y;have I6':=I6.pinned (ai bg) (T.obj _ _ al);have bc:D∉(cxB X N' scope s H C Z).fs:=λ z=>by
    rcases qv (I.stkSub D z) with e | e
    ·exact D_2 I.lt ae e.symm
    ·exact I.nofs ae e
   refine thn (hg C _ s6 _ H6 y u _ I6' r6 (step y H6 y6)) λ _ s7 Y=>?_;obtain⟨ay,H7,I7,e7,q7⟩:=Y;have aq:∀ {af:St}{H':Hp}{s':Shared},Inv (cxB X N' scope s H C Z) (pins++[(D,aq9 O k)]++V_0 Z s6.heap) af H' s'->(∀ b∈Z,∀ o,s6.heap.get? b=some o->s'.heap.get? b=some o)/\∀ b∈Z,H' b=none:=λ {af H' s'} I' =>
    ⟨λ b hb o e=>(I'.pin (b,o) (qo _ (qo _ (u_2 hb e)))).1,λ b hb=>by
     obtain⟨o,e,_⟩:=T.obj _ _ al b hb;exact (I'.pin (b,o) (qo _ (qo _ (u_2 hb e)))).2.1⟩
   have ah:∀ {pl:List (Addr×Obj)}{H':Hp}{s':Shared},Inv (cxB X N' scope s H C Z) pl ay H' s'->Inv (cxB X N' scope s H C Z) pl τ H' s':=λ I'=>I'.weak e7.1 e7.2;refine thn (ht s H C Z _ s7 _ H7 _ I7 q7) λ ok s8 Y=>?_;obtain⟨H8,I8,q8⟩:=Y;cases ok with
   |false =>
    rw[if_neg zo] at q8 ⊢;obtain⟨m',hm,w8⟩:=q8;obtain⟨b1,b2⟩:=aq I8;exact⟨m',hm,i+1,ys,O,k,H8,ah I8.unpinned,T.keep _ _ _ al b1,b2,rv,w8⟩
   |true =>
    rw[if_pos rfl] at q8 ⊢;refine thn (he s H C Z _ s8 _ H8 _ I8 q8) λ v s9 Y=>?_;obtain⟨vv,H9,I9,r9,m',hm,w9⟩:=Y;obtain⟨av,a9⟩:=pD I9;obtain⟨b1,b2⟩:=aq I9;have bh:=rv.length;refine call_meets F.slot_list_append ⟨_,av,rfl⟩ F.entry_list_append (F.args_list_append_2 _ _) (PySem.list_append D O.toArray k v (by rw[ze];omega)) ⟨av,?_⟩;have ea:O.toArray.push v=(O++[v]).toArray:=by simp
    obtain⟨k',q⟩:∃ k',(s9.heap.update D (Obj.mapSeq (·.push v))).get? D=some (aq9 (O++[v]) k'):=by have q0:=PySem.IsL.update av (·.push v);rw[ea] at q0;exact⟨_,q0⟩
    have a1:∀ b o,b≠D->s9.heap.get? b=some o->(s9.heap.update D (Obj.mapSeq (·.push v))).get? b=some o:=λ b o hb e=>(yk s9.heap (Obj.mapSeq (·.push v)) (zv hb)).trans e;have I10:Inv (cxB X N' scope s H C Z) pins ay H9 {s9 with heap:=s9.heap.update D (Obj.mapSeq (·.push v))} :=
     (ad I9.unpinned).turned a1 a9 ak (.inr ae) (λ y' c e z=>by
      obtain⟨w',q'⟩:=I.cell y' c (sub y' c e);exact D_2 q'.lt ae z) (λ p hp z=>by
      have aw:p∈pins:=by simpa [cxB] using hp
      exact D_2 (az p aw) ae z)
    refine⟨m',hm,i+1,ys++[vv],O++[v],k',H9,ah (I10.pins_of λ p hp=>?_),T.keep _ _ _ al λ b hb o e=>a1 b o (λ z=>be (z▸hb)) (b1 b hb o e),b2,rv.append (.cons r9 .nil),w9⟩;rcases qx hp with z | z
    ·exact I10.pin p (qo _ z)
    ·have z':=qw z;subst z';exact⟨q,a9,ak,bc,λ w' z2=>nomatch z2⟩
 exact codeAny_compStart_list (ao _ rfl) (T.self _ 0 _ _ _ ba (ao _ rfl))
theorem aR1 {RR:Value->Addr->Result->Shared->Prop} (I:Inv X pins σ H s) (hc:X.calm=true) (Z:X.env.scope=sc) (B:ScB X.N sc scope x frees js)
  (T:Turn X.prog X.w X.K (.Name x px) J O it tn) (st:tn 0 s.heap) (f:∀ b∈O,FpOk X pins H b) (hW:LcW js tt te σ Qe J H)
  (ht:∀ s H C O,PTs (cxB X (x::frees) scope s H C O) ifs tt) (he:∀ s H C O,PE (cxB X (x::frees) scope s H C O) elt te)
  (hR:∀ (D C:Addr) (s':Shared) (H':Hp) (ys:List V) (Y:List Value) (n:Nat),s.heap.objs.size<=D->s.heap.objs.size<=C->D≠C->Inv (cxB X (x::frees) scope s H C O) pins (none::frv σ js) H' s'->H' D=none ->
   Vals ys Y->s'.heap.get? D=some (aq9 Y n)->ys.length<=sizeLine->Qe ys H'->RR (.ref D) C (.ok .next) s') :
  wpAny (model X.prog X.w) X.A (newList []) (λ acc s3=>wpAny (model X.prog X.w) X.A (newFunctionEnv scope X.env.globals (aa0 X.env.cells scope.names []) [] X.env.qual none .none (some X.env)) (λ q s4 =>
   codeAny (model X.prog X.w) X.A (.compStart (.ListComp elt [⟨.Name x px,iter,ifs,0⟩] scope pos) 0 (.ref it) acc {q with scope:=relabel scope X.env}) (RR acc q.locals) s4) E s3) E s:=by
 refine bb7 (tg:=bc8 0) I hc Z B T st f (λ h=>h) (λ C=>av9 B.nd rfl (.inl (lookup_relabel_local B.own)) (.inr (lookup_relabel_local B.own))) ?_ ht he hR;obtain⟨W,w0,turn⟩:=hW;refine⟨W,w0,λ i m ys H w=>?_⟩;rcases turn i m ys H w with h | ⟨go,lz,step⟩
 ·exact .inl h
 ·exact .inr ⟨go,lz,λ y H' yl=>⟨⟨rfl,λ j v e=>by
   cases j with
   |zero=>simp at e
   |succ j=>simpa using e⟩,step y H' yl⟩⟩
theorem aj3  (I:Inv X pins σ H s) (f:∀ b∈Z,FpOk X pins H b) (hD:s.heap.objs.size<=D) (J:Inv (cxB X (x::frees) scope s H C Z) pins (none::frv σ js) H' s') (Y:H' D=none) (rv:Vals ys O)
  (gD:s'.heap.get? D=some (aq9 O n)) (hz:ys.length<=sizeLine):Inv X pins σ (upd H' D (.lst ys)) s':=by
 have u:=J.base;have hk:=J.hok;refine I.call' J.os ⟨u.keep,u.slot,λ b o e n' hx=>?_,u.there,λ b xs e=>?_,λ b o v e=>?_,λ b ps e=>?_⟩ (λ b o e=>?_) J.bare λ b hb=>?_
 ·rw[b_2 (D_2 (Heap.lt_size e) hD)];exact u.free b o e n' hx
 ·have q:=u.tups b xs e;rw[b_2 (c_6 q Y)];exact q
 ·have q:=u.frzs b o v e;rw[b_2 (c_6 q Y)];exact q
 ·obtain⟨more,q⟩:=u.tbls b ps e;exact⟨more,by rw[b_2 (c_6 q Y)];exact q⟩
 ·by_cases hb:b=D
  ·subst hb;rw[a_3] at e;cases e;exact⟨hz,O,n,rv,gD⟩
  ·rw[b_2 hb] at e;exact (hk b o e).stay (λ c v _ q=>q) (λ c q=>by rw[b_2 (c_6 q Y)];exact q) λ c xs q=>by rw[b_2 (c_6 q Y)];exact q
 ·obtain⟨_,a2,a3,a4,a5,a6⟩:=f b hb;exact⟨a4,a2,a5,a6⟩
theorem bq1  (I:Inv X pins σ H s) (J:Inv X pins O H' s') (Y:s.heap.objs.size<=C) (nC:H' C=none) (Z:Heap.SameBut C s'.heap h'):Inv X pins O H' {s' with heap:=h'}:=by
 refine J.turned (λ b o hb e=>(Z.2 b hb).trans e) nC (λ z=>?_) (.inr (zf I.sz Y)) (λ y c e z=>?_) λ p hp z=>?_
 ·exact D_2 I.lt Y z.symm
 ·obtain⟨v,q⟩:=I.cell y c e;exact D_2 q.lt Y z
 ·exact D_2 (qm (I.pin p hp).1) Y z
def tLC (q:TI) (js:List Nat) (tt:TT) (te:TE):TE:=λ σ H Q=>q σ H (LcW js tt te σ λ ys H'=>∀ D,H' D=none->Q (.ref D) (upd H' D (.lst ys)))
theorem bn9 {wi:TI} (hc:X.calm=true) (O:X.env.scope=sc) (B:ScB X.N sc scope x frees js) (hi:PI X (.Name x px) iter wi) (ht:∀ s H C Y,PTs (cxB X (x::frees) scope s H C Y) ifs tt) (he:∀ s H C Y,PE (cxB X (x::frees) scope s H C Y) elt te)
  (hs:∀ v,foldedSetIterable iter X.env v=pure v):PE X (.ListComp elt [⟨.Name x px,iter,ifs,0⟩] scope pos) (tLC wi js tt te):=by
 intro pins s σ H Q I h;rw[eval_ListComp];refine wpAny_comprehension_free (use:=none) rfl hs (L_6 (aj2 I O B)) B.kind B.locs (thn (hi pins s σ H _ I h) λ v s1 h1=>thn h1 λ ad s2 h2=>?_);obtain⟨it,Y,tn,J,H2,e,I2,T,aa,f2,hW⟩:=h2;subst e;refine aR1 (RR:=λ acc C=>compPost (model X.prog X.w) X.A X.xe none (EP X pins σ Q) acc C) I2 hc O B T aa f2 hW ht he ?_;intro D C s' H' ys ae n hD hC ac J' nD rv gD hz q;obtain⟨m,hn,_⟩:=J'.loc;refine⟨m,hn,λ h' Z=>?_⟩;have A1:=aj3 I2 f2 hD J' nD rv gD hz;have nC:(upd H' D (.lst ys)) C=none:=by rw[b_2 (zv ac)];exact J'.free
 exact⟨.ref D,_,bq1 I2 A1 hC nC Z,rfl,q D nD⟩
def bk5 (i:Nat) (q:TI) (js:List Nat) (tt:TT) (te:TE):TS:=λ D σ H=>q σ H (LcW js tt te σ λ ys H'=>∀ a,H' a=none->D.nx (σ.set i (some (.ref a))) (upd H' a (.lst ys)))
theorem x_6 {wi:TI}{i:Nat}{y:Str}{py spos:Pos} (hN:X.N.Nodup) (ad:X.N[i]?=some y) (hy:X.env.scope.names.lookup y=some .local) (hc:X.calm=true) (O:X.env.scope=sc) (B:ScB X.N sc scope x frees js) (hi:PI X (.Name x px) iter wi)
  (ht:∀ s H C fp,PTs (cxB X (x::frees) scope s H C fp) ifs tt) (he:∀ s H C fp,PE (cxB X (x::frees) scope s H C fp) elt te)
  (ae:swapsWith (.ListComp elt [⟨.Name x px,iter,ifs,0⟩] scope pos) (some (.Name y py)) spos.line X.env=pure true)
  (hs:∀ v,foldedSetIterable iter X.env v=pure v):PS X (.Assign [.Name y py] (.ListComp elt [⟨.Name x px,iter,ifs,0⟩] scope pos) spos) (bk5 i wi js tt te):=by
 intro pins s σ H D I h;rw[exec_Assign_Name_used _ _ _ _ ae];refine qb (Qx (qb ?_));show wpAny _ X.A (do let _ <- comprehension (.ListComp elt [⟨.Name x px,iter,ifs,0⟩] scope pos) scope X.env _ (newList []) false (eval iter X.env) (some (assign (.Name y py) X.env))) _ _ s;refine qb (yg (wpAny_comprehension_free (use:=some (assign (.Name y py) X.env)) (Q:=λ _ s'=>SP X pins D .next s') rfl hs (L_6 (aj2 I O B)) B.kind B.locs
  (thn (hi pins s σ H _ I h) λ v s1 h1=>thn h1 λ ag s2 h2=>?_)) (λ _ s' q=>qc (qc q)) λ _ _ z=>z)
 obtain⟨it,fp,tn,J,H2,e,Y,T,ac,f2,hW⟩:=h2;subst e;refine aR1 (RR:=λ acc C=>compPost (model X.prog X.w) X.A X.xe (some (assign (.Name y py) X.env)) (λ _ s'=>SP X pins D .next s') acc C) Y hc O B T ac f2 hW ht he ?_;intro a C s' H' ys ah n hD hC af J' nD rv gD hz q;have A1:=aj3 Y f2 hD J' nD rv gD hz;have nC:(upd H' a (.lst ys)) C=none:=by rw[b_2 (zv af)];exact J'.free
 obtain⟨m,hn,_⟩:=J'.loc;have hL:C≠X.env.locals:=aQ4 Y.lt hC;show wpAny _ X.A (assign (.Name y py) X.env (.ref a)) _ _ s';refine wpAny_assign_Name (U_1 A1 hN ad (.inl hy) (v:=.ref a) rfl (λ s3 I3 Z=>?_) (.inr hy));obtain⟨b,sb,hb⟩:=Z;have nb:C≠b:=by
  rcases hb with z | z
  ·rw[z];exact hL
  ·intro e;obtain⟨v,q'⟩:=Y.cell y b z;exact D_2 q'.lt hC e.symm
 obtain⟨o,es,ep,ho,r⟩:=hn;refine⟨m,⟨o,es,ep,(sb.2 C nb).trans ho,r⟩,λ h' aa=>?_⟩;exact⟨_,_,bq1 Y I3 hC nC aa,q a nD⟩
end
end L2
namespace Fx
open PySem
set_option genInjectivity true
inductive D where
 |non | bl (b:Bool) | int (i:Int) | str (x:Str) | tup (xs:List D) | lst (xs:List D)
 |opq
 |dct (ks:List Str) (vs:List D)
inductive MO where
 |lst (xs:List D) | dic (kvs:List (Str×D))
inductive Sl where
 |no | im (d:D) | ow (b:Bool) (o:MO)
noncomputable abbrev En:=List Sl
inductive Res where
 |nx (ρ:En) | rt (d:D) (ρ:En) | bk (ρ:En) | ct (ρ:En)
abbrev FE:=En->Option (D×En)
abbrev FT:=En->Option (Bool×En)
abbrev FA:=En->Option (List D×En)
abbrev FS:=En->Option Res
noncomputable def bnd {α q:Type} (x:Option α) (f:α->Option q):Option q:=x.bind f
theorem b_3  (a:α) (f:α->Option q):bnd (some a) f=f a:=rfl
mutual
noncomputable def eqD:D->D->Bool
 |.non,.non=>true
 |.bl a,.bl b=>a==b
 |.bl a,.int b=>(if a then 1 else 0)==b
 |.int a,.bl b=>a==(if b then 1 else 0)
 |.int a,.int b=>a==b
 |.str a,.str b=>a==b
 |.tup a,.tup b=>R_0 a b
 |.lst a,.lst b=>R_0 a b
 |_,_=>false
noncomputable def R_0:List D->List D->Bool
 |[],[]=>true
 |a::r,b::t=>eqD a b&&R_0 r t
 |_,_=>false
end
@[simp] theorem bd8 :eqD .non .non=true:=by rw[eqD]
@[simp] theorem bi1:eqD .non (.bl y)=false:=by simp[eqD]
@[simp] theorem bd9:eqD .non (.int y)=false:=by simp[eqD]
@[simp] theorem bd7:eqD .non (.str y)=false:=by simp[eqD]
@[simp] theorem bi4:eqD (.bl x) .non=false:=by simp[eqD]
@[simp] theorem bt5:eqD (.bl x) (.bl y)=decide (x=y):=by rw[eqD];exact Zf _ _
@[simp] theorem bi5:eqD (.bl x) (.int y)=((if x then 1 else 0)==y):=by rw[eqD]
@[simp] theorem bi3:eqD (.bl x) (.str y)=false:=by simp[eqD]
@[simp] theorem be1:eqD (.int x) .non=false:=by simp[eqD]
@[simp] theorem bi2:eqD (.int x) (.bl y)=(x==(if y then 1 else 0)):=by rw[eqD]
@[simp] theorem be2:eqD (.int x) (.int y)=decide (x=y):=by rw[eqD];exact Zf _ _
@[simp] theorem be0:eqD (.int x) (.str y)=false:=by simp[eqD]
@[simp] theorem bd5:eqD (.str x) .non=false:=by simp[eqD]
@[simp] theorem bi0:eqD (.str x) (.bl y)=false:=by simp[eqD]
@[simp] theorem bd6:eqD (.str x) (.int y)=false:=by simp[eqD]
@[simp] theorem ae2:eqD (.str x) (.str y)=decide (x=y):=by rw[eqD];exact Zf _ _
@[simp] theorem ae1 (x:List D) (y:List D):eqD (.tup x) (.tup y)=R_0 x y:=by rw[eqD]
@[simp] theorem ae3 (x:List D) (y:List D):eqD (.lst x) (.lst y)=R_0 x y:=by rw[eqD]
@[simp] theorem bI5:R_0 [] []=true:=by rw[R_0]
@[simp] theorem bI6:R_0 (a::r) (b::t)=(eqD a b&&R_0 r t):=by rw[R_0]
mutual
@[simp] noncomputable def dpD:D->Nat
 |.tup xs=>B_9 xs+1
 |.lst xs=>B_9 xs+1
 |.opq=>1000
 |.dct _ _=>1000
 |_=>0
@[simp] noncomputable def B_9:List D->Nat
 |[]=>0
 |d::r=>max (dpD d) (B_9 r)
end
@[simp] theorem bf4:dpD .opq=1000:=rfl
@[simp] theorem bf5:dpD (.dct ks vs)=1000:=rfl
@[simp] theorem R_1:dpD (.tup xs)=B_9 xs+1:=rfl
@[simp] theorem R_2:dpD (.lst xs)=B_9 xs+1:=rfl
@[simp] theorem Y_0:B_9 (d::r)=max (dpD d) (B_9 r):=rfl
noncomputable def ar0 (i:Int):Bool:=decide (i.natAbs<2 ^ 1000)
def j_7 (i j:Int):Bool:=decide (i.natAbs<2 ^ 64)||decide (j.natAbs<2 ^ 64)||(ar0 i&&ar0 j)
noncomputable def z_8 (j:Int):Bool:=decide (j≠0)&&decide (j.natAbs<2 ^ 1000)
noncomputable def bh9:D->Option Int
 |.int i=>some i
 |_=>none
def onI (g:Int->Int->Option D) (x y:D):Option D:=bnd (bh9 x) λ i=>bnd (bh9 y) (g i)
theorem K_6  (e:onI g x y=some d):∃ i j,x=.int i/\y=.int j/\g i j=some d:=by
 cases x with
 |int i =>
  cases y with
  |int j=>exact⟨i,j,rfl,rfl,e⟩
  |_=>cases e
 |_=>cases e
noncomputable def i_1:D->D->Option D
 |.int i,.int j=>some (.int (i+j))
 |.str a,.str b=>if a.length+b.length<=sizeLine then some (.str (a++b)) else none
 |.lst a,.lst b=>if a.length+b.length<=sizeLine then some (.lst (a++b)) else none
 |_,_=>none
def L_5:D->D->Option D:=onI λ i j=>some (.int (i-j))
def Y_1:D->D->Option D:=onI λ i j=>if j_7 i j=true then some (.int (i*j)) else none
def aM8:D->D->Option D:=onI λ i j=>if z_8 j=true then some (.int (i.fdiv j)) else none
def i_7:D->D->Option D:=onI λ i j=>if j≠0 then some (.int (i.fmod j)) else none
def bL0:D->D->Option D:=onI λ i j=>if 0<=j/\j<=64/\i.natAbs<2 ^ 64 then some (.int (i ^ j.toNat)) else none
noncomputable def aT1:D->Option D
 |.int i=>some (.int (-i))
 |_=>none
def bz0 (p:Int->Int->Bool):D->D->Option D:=onI λ i j=>some (.bl (p i j))
def dLt:D->D->Option D:=bz0 λ i j=>decide (i<j)
def dLe:D->D->Option D:=bz0 λ i j=>decide (i<=j)
def dGt:D->D->Option D:=bz0 λ i j=>decide (j<i)
def dEq (x y:D):Option D:=if dpD x<=30/\dpD y<=30 then some (.bl (eqD x y)) else none
def dNe (x y:D):Option D:=if dpD x<=30/\dpD y<=30 then some (.bl (!eqD x y)) else none
noncomputable def isN:D->Bool
 |.non=>true
 |_=>false
def dIs (x y:D):Option D:=match y with
 |.non=>some (.bl (isN x))
 |_=>none
def Y_2 (x y:D):Option D:=match y with
 |.non=>some (.bl (!isN x))
 |_=>none
noncomputable def bf8:D->Option Bool
 |.non=>some false
 |.bl b=>some b
 |.int i=>some (i != 0)
 |.lst xs=>some (!xs.isEmpty)
 |.tup xs=>some (!xs.isEmpty)
 |_=>none
noncomputable def dPl (n:Nat) (i:Int):Option Nat:=if 0<=i then (if i<n then some i.toNat else none) else if -(n:Int)<=i then some (i+n).toNat else none
def atD (xs:List D) (i:Int):Option D:=(dPl xs.length i).bind λ j=>xs[j]?
noncomputable def T_3 (n d:Nat):Option Int->Nat
 |none=>d
 |some v=>if v<0 then (v+(n:Int)).toNat else min v.toNat n
theorem aM7 (n d k:Nat):T_3 n d (some (k:Int))=min k n:=by show (if (k:Int)<0 then ((k:Int)+(n:Int)).toNat else min (k:Int).toNat n)=_;exact if_neg (Int.not_lt.mpr (Int.natCast_nonneg k))
def R_4 (xs:List D) (lo hi:Option Int):List D:=(xs.drop (T_3 xs.length 0 lo)).take (T_3 xs.length xs.length hi-T_3 xs.length 0 lo)
noncomputable def aO0:List D->Option D
 |[.int i]=>some (.int (if i<0 then -i else i))
 |_=>none
def L_2:List D->Option (List Int)
 |[]=>some []
 |.int i::r=>bnd (L_2 r) λ is=>some (i::is)
 |_=>none
theorem ad1 (i:Int) (r:List D):L_2 (.int i::r)=bnd (L_2 r) λ is=>some (i::is):=rfl
noncomputable def ao6:Int->List Int->Int
 |m,[]=>m
 |m,x::r=>ao6 (if x<m then x else m) r
noncomputable def ao8:Int->List Int->Int
 |m,[]=>m
 |m,x::r=>ao8 (if m<x then x else m) r
noncomputable def bg5 (f:Int->List Int->Int):List Int->Option D
 |[]=>none
 |i::r=>some (.int (f i r))
def bi7:List D->Option D
 |[.int i,.int j]=>some (.int (if j > i then j else i))
 |[.lst xs]=>bnd (L_2 xs) λ is=>bg5 ao8 is
 |_=>none
def bw2:List D->Option D
 |[.int i,.int j]=>some (.int (if j<i then j else i))
 |[.lst xs]=>bnd (L_2 xs) λ is=>bg5 ao6 is
 |_=>none
def slV (ρ:En):Option Sl->Option (D×En)
 |some (.im d)=>some (d,ρ)
 |_=>none
def eV (i:Nat) (ρ:En):Option (D×En):=slV ρ ρ[i]?
def aS6:FE:=λ _=>none
def eC (d:D) (ρ:En):Option (D×En):=some (d,ρ)
abbrev zI (n:Int):=eC (.int n)
abbrev zR (x:Str):=eC (.str x)
theorem yI(h:a=b):a=b:=h
def e1 (op:D->Option D) (F:FE) (ρ:En):Option (D×En):=bnd (F ρ) λ p=>bnd (op p.1) λ d=>some (d,p.2)
def e2 (op:D->D->Option D) (F G:FE) (ρ:En):Option (D×En):=bnd (F ρ) λ p=>bnd (G p.2) λ q=>bnd (op p.1 q.1) λ d=>some (d,q.2)
noncomputable def blB:D->Option Bool
 |.bl b=>some b
 |_=>none
def e3 (op J:D->D->Option D) (F G L:FE) (ρ:En):Option (D×En):=bnd (F ρ) λ p=>bnd (G p.2) λ q=>bnd (op p.1 q.1) λ z=>bnd (blB z) λ b =>
 if b=true then bnd (L q.2) λ r=>bnd (J q.1 r.1) λ d=>some (d,r.2) else some (.bl false,q.2)
def aN (ρ:En):Option (List D×En):=some ([],ρ)
def aC (F:FE) (A:FA) (ρ:En):Option (List D×En):=bnd (F ρ) λ p=>bnd (A p.2) λ q=>some (p.1::q.1,q.2)
def c_0 (A:FA) (ρ:En):Option (D×En):=bnd (A ρ) λ p=>if p.1.length<=1000 then some (.tup p.1,p.2) else none
def s_3 (A:FA) (ρ:En):Option (D×En):=bnd (A ρ) λ p=>if p.1.length<=1000 then some (.lst p.1,p.2) else none
def eF (g:List D->Option D) (A:FA) (ρ:En):Option (D×En):=bnd (A ρ) λ p=>bnd (g p.1) λ d=>some (d,p.2)
abbrev FO:=En->Option (Option Int×En)
def oN (ρ:En):Option (Option Int×En):=some (none,ρ)
def oS (F:FE) (ρ:En):Option (Option Int×En):=bnd (F ρ) λ p=>bnd (bh9 p.1) λ i=>some (some i,p.2)
def tB (F:FE) (ρ:En):Option (Bool×En):=bnd (F ρ) λ p=>bnd (blB p.1) λ b=>some (b,p.2)
def tV (F:FE) (ρ:En):Option (Bool×En):=bnd (F ρ) λ p=>bnd (bf8 p.1) λ b=>some (b,p.2)
def tAnd (T U:FT) (ρ:En):Option (Bool×En):=bnd (T ρ) λ p=>if p.1=true then U p.2 else some (false,p.2)
def tOr (T U:FT) (ρ:En):Option (Bool×En):=bnd (T ρ) λ p=>if p.1=true then some (true,p.2) else U p.2
def tNot (T:FT) (ρ:En):Option (Bool×En):=bnd (T ρ) λ p=>some (!p.1,p.2)
def tYes (ρ:En):Option (Bool×En):=some (true,ρ)
def eIf (T:FT) (F G:FE) (ρ:En):Option (D×En):=bnd (T ρ) λ p=>if p.1=true then F p.2 else G p.2
def aL9 (F G:FE) (ρ:En):Option (D×En):=bnd (F ρ) λ p=>bnd (blB p.1) λ b=>if b=true then G p.2 else some (.bl false,p.2)
def eOr (F G:FE) (ρ:En):Option (D×En):=bnd (F ρ) λ p=>bnd (blB p.1) λ b=>if b=true then some (.bl true,p.2) else G p.2
noncomputable def slI:Option Sl->Option Sl
 |some (.im d)=>some (.im d)
 |_=>none
def L_3 (ρ:En):List Nat->Option En
 |[]=>some []
 |j::js=>bnd (slI ρ[j]?) λ s=>bnd (L_3 ρ js) λ r=>some (s::r)
theorem aA1 (ρ:En) (j:Nat) (js:List Nat):L_3 ρ (j::js)=bnd (slI ρ[j]?) λ s=>bnd (L_3 ρ js) λ r=>some (s::r):=rfl
def cGo (T:FT) (F:FE) (fr:En):List D->Option (List D)
 |[]=>some []
 |d::r=>bnd (T (.im d::fr)) λ p=>if p.1=true then bnd (F p.2) λ q=>bnd (cGo T F fr r) λ t=>some (q.1::t) else cGo T F fr r
theorem aD9 (T:FT) (F:FE) (fr:En):cGo T F fr []=some []:=rfl
theorem am1 (T:FT) (F:FE) (fr:En) (d:D) (r:List D):cGo T F fr (d::r)=bnd (T (.im d::fr)) λ p=>if p.1=true then bnd (F p.2) λ q=>bnd (cGo T F fr r) λ t=>some (q.1::t) else cGo T F fr r:=rfl
noncomputable def chS (c:Nat):Str:=⟨#[c]⟩
def chs (z:Str):List D:=z.cps.toList.map λ c=>.str (chS c)
def items:D->Option (List D)
 |.lst xs=>some xs
 |.tup xs=>some xs
 |.str z=>some (chs z)
 |_=>none
def eLC (js:List Nat) (I:FE) (T:FT) (F:FE) (ρ:En):Option (D×En):=bnd (I ρ) λ p=>bnd (items p.1) λ xs=>bnd (L_3 p.2 js) λ fr=>bnd (cGo T F fr xs) λ ys=>if xs.length<=sizeLine then some (.lst ys,p.2) else none
def sN (ρ:En):Option Res:=some (.nx ρ)
def nxR (G:FS):Res->Option Res
 |.nx q=>G q
 |.rt d ρ=>some (.rt d ρ)
 |.bk ρ=>some (.bk ρ)
 |.ct ρ=>some (.ct ρ)
def b_7 (F G:FS) (ρ:En):Option Res:=bnd (F ρ) λ r=>nxR G r
def d_5 (i:Nat) (F:FE) (ρ:En):Option Res:=bnd (F ρ) λ p=>some (.nx (p.2.set i (.im p.1)))
def x_4:List Nat->List D->En->En
 |i::is,d::ds,ρ=>x_4 is ds (ρ.set i (.im d))
 |_,_,ρ=>ρ
theorem aa7 (i:Nat) (is:List Nat) (d:D) (ds:List D) (ρ:En):x_4 (i::is) (d::ds) ρ=x_4 is ds (ρ.set i (.im d)):=rfl
theorem an5 (ds:List D) (ρ:En):x_4 [] ds ρ=ρ:=by cases ds <;> rfl
noncomputable def bA6:D->Option (List D)
 |.tup xs=>some xs
 |.lst xs=>some xs
 |_=>none
def gN (i:Nat) (d:D) (ρ:En):Option En:=some (ρ.set i (.im d))
def gT (is:List Nat) (d:D) (ρ:En):Option En:=bnd (bA6 d) λ xs=>if xs.length=is.length then some (x_4 is xs ρ) else none
def bx0 (is:List Nat) (F:FE) (ρ:En):Option Res:=bnd (F ρ) λ p=>bnd (gT is p.1 p.2) λ q=>some (.nx q)
def sIf (T:FT) (F G:FS) (ρ:En):Option Res:=bnd (T ρ) λ p=>if p.1=true then F p.2 else G p.2
def g_0 (F:FE) (ρ:En):Option Res:=bnd (F ρ) λ p=>some (.rt p.1 p.2)
def goR (G:FS):Res->Option Res
 |.nx ρ=>G ρ
 |.ct ρ=>G ρ
 |.bk ρ=>some (.nx ρ)
 |.rt d ρ=>some (.rt d ρ)
def fGo (g:D->En->Option En) (B:FS):List D->FS
 |[],ρ=>some (.nx ρ)
 |d::r,ρ=>bnd (g d ρ) λ q=>bnd (B q) λ z=>goR (fGo g B r) z
theorem aB1 (g:D->En->Option En) (B:FS) (ρ:En):fGo g B [] ρ=some (.nx ρ):=rfl
theorem ak9 (g:D->En->Option En) (B:FS) (d:D) (r:List D) (ρ:En):fGo g B (d::r) ρ=bnd (g d ρ) λ q=>bnd (B q) λ z=>goR (fGo g B r) z:=rfl
def bh4 (g:D->En->Option En) (F:FE) (B:FS) (ρ:En):Option Res:=bnd (F ρ) λ p=>bnd (items p.1) λ xs=>fGo g B xs p.2
noncomputable def C_9 (lo:Int):Nat->List D
 |0=>[]
 |n+1=>.int lo::C_9 (lo+1) n
def aH3 (F:FE) (ρ:En):Option (List D×En):=bnd (F ρ) λ p=>bnd (bh9 p.1) λ j=>if -(2 ^ 62)<=j/\j<2 ^ 62 then some (C_9 0 j.toNat,p.2) else none
def N_3 (g:D->En->Option En) (R:FA) (B:FS) (ρ:En):Option Res:=bnd (R ρ) λ p=>fGo g B p.1 p.2
def wGo (T:FT) (B:FS):Nat->FS
 |0,_=>none
 |n+1,ρ=>bnd (T ρ) λ p=>if p.1=true then bnd (B p.2) λ z=>goR (wGo T B n) z else some (.nx p.2)
theorem aF4 (T:FT) (B:FS) (n:Nat) (ρ:En):wGo T B (n+1) ρ=bnd (T ρ) λ p=>if p.1=true then bnd (B p.2) λ z=>goR (wGo T B n) z else some (.nx p.2):=rfl
def ag8 (q:En->Nat) (T:FT) (B:FS) (ρ:En):Option Res:=wGo T B (q ρ) ρ
def bh7 (A:FA) (ρ:En):Option (List D×En):=bnd (A ρ) λ p=>if p.1.length<=1000 then some p else none
def at5 (i:Nat) (A:FA) (ρ:En):Option Res:=bnd (A ρ) λ p=>some (.nx (p.2.set i (.ow false (.lst p.1))))
noncomputable def owL:Option Sl->Option (List D)
 |some (.ow false (.lst ds))=>some ds
 |_=>none
def an7 (i:Nat) (F:FE) (ρ:En):Option Res:=bnd (owL ρ[i]?) λ _=>bnd (F ρ) λ p=>bnd (owL p.2[i]?) λ ds=>if ds.length<1000000 then some (.nx (p.2.set i (.ow false (.lst (ds++[p.1]))))) else none
def frz (i:Nat) (ρ:En):En:=match ρ[i]? with
 |some (.ow false (.lst ds))=>ρ.set i (.im (.lst ds))
 |_=>ρ
def an6 (i:Nat) (F:FS) (ρ:En):Option Res:=F (frz i ρ)
noncomputable def bx9:Res->Option D
 |.rt d _=>some d
 |.nx _=>some .non
 |_=>none
def fnD (n k:Nat) (B:FS) (ds:List D):Option D:=if ds.length=n then bnd (B (ds.map .im++List.replicate k .no)) λ r=>bx9 r else none
end Fx
namespace Fx
open PySem PySem.Spec PyProof.Rows L2
mutual
noncomputable def Rep (K:Frag) (H:Hp):D->V->Prop
 |.non,v=>v=.non
 |.bl b,v=>v=.bl b
 |.int i,v=>v=.int i
 |.str x,v=>v=.str x
 |.tup ds,v=>∃ a vs,v=.ref a/\SqT K H a vs/\Reps K H ds vs
 |.lst ds,v=>∃ a vs,v=.ref a/\SqL K H a vs/\Reps K H ds vs
 |.opq,v=>∃ a q,v=.ref a/\H a=some (.dK q)
 |.dct ks ds,v=>∃ a o vs,v=.ref a/\H a=some (.frz o (.dK ((ks.map Sum.inr).zip vs)))/\Reps K H ds vs/\ks.length=ds.length
noncomputable def Reps (K:Frag) (H:Hp):List D->List V->Prop
 |[],vs=>vs=[]
 |d::ds,vs=>∃ v r,vs=v::r/\Rep K H d v/\Reps K H ds r
end
theorem Same.rd  (e:Same H H') (h:Rd H a u):Rd H' a u:=by
 rcases h with h | ⟨o,h⟩
 ·exact .inl (e _ _ h)
 ·exact .inr ⟨o,e _ _ h⟩
theorem Same.seqT {K:Frag} (e:Same H H') (h:SqT K H a xs):SqT K H' a xs:=by
 rcases h with h | h
 ·exact .inl (Same.rd e h)
 ·exact .inr h
section
variable {K:Frag}
mutual
theorem Rep.mono (e:Same H H'):∀ (d:D) {v:V},Rep K H d v->Rep K H' d v
 |.non,_,h=>h
 |.bl _,_,h=>h
 |.int _,_,h=>h
 |.str _,_,h=>h
 |.tup ds,_,h=>by
  unfold Rep at h ⊢;obtain⟨a,vs,q,s,r⟩:=h;exact⟨a,vs,q,Same.seqT e s,Reps.mono e ds r⟩
 |.lst ds,_,h=>by
  unfold Rep at h ⊢;obtain⟨a,vs,q,s,r⟩:=h;exact⟨a,vs,q,Same.seq e s,Reps.mono e ds r⟩
 |.opq,_,h=>by
  unfold Rep at h ⊢;obtain⟨a,J,q,s⟩:=h;exact⟨a,J,q,e _ _ s⟩
 |.dct ks ds,_,h=>by
  unfold Rep at h ⊢;obtain⟨a,o,vs,q,s,r,l⟩:=h;exact⟨a,o,vs,q,e _ _ s,Reps.mono e ds r,l⟩
theorem Reps.mono (e:Same H H'):∀ (ds:List D) {vs:List V},Reps K H ds vs->Reps K H' ds vs
 |[],_,h=>h
 |d::ds,_,h=>by
  unfold Reps at h ⊢;obtain⟨v,r,q,s,t⟩:=h;exact⟨v,r,q,Rep.mono e d s,Reps.mono e ds t⟩
end
theorem Reps.length:∀ {ds:List D}{vs:List V},Reps K H ds vs->ds.length=vs.length
 |[],_,h=>by rw[h];rfl
 |d::ds,_,h=>by
  obtain⟨v,r,q,_,t⟩:=h;rw[q,zg,zg,Reps.length t]
theorem Reps.get:∀ {ds:List D}{vs:List V}{i:Nat}{d:D},Reps K H ds vs->ds[i]?=some d->∃ v,vs[i]?=some v/\Rep K H d v
 |[],_,_,_,_,e=>by simp at e
 |d::ds,_,0,_,h,e=>by
  obtain⟨v,r,rfl,s,_⟩:=h;simp at e;subst e;exact⟨v,rfl,s⟩
 |d::ds,_,i+1,d',h,e=>by
  obtain⟨v,r,rfl,_,t⟩:=h;obtain⟨w,a,b⟩:=Reps.get t (by simpa using e);exact⟨w,by simpa using a,b⟩
theorem Reps.app:∀ {ds es:List D}{vs q:List V},Reps K H ds vs->Reps K H es q->Reps K H (ds++es) (vs++q)
 |[],_,_,_,h,h'=>by rw[h];exact h'
 |d::ds,es,_,q,h,h'=>by
  obtain⟨v,r,rfl,s,t⟩:=h;exact⟨v,r++q,rfl,s,Reps.app t h'⟩
theorem Reps.take:∀ {ds:List D}{vs:List V} (n:Nat),Reps K H ds vs->Reps K H (ds.take n) (vs.take n)
 |[],_,n,h=>by rw[h];simp[Reps]
 |d::ds,vs,0,h=>by simp[Reps]
 |d::ds,_,n+1,h=>by
  obtain⟨v,r,rfl,s,t⟩:=h;exact⟨v,r.take n,rfl,s,Reps.take n t⟩
theorem Reps.drop:∀ {ds:List D}{vs:List V} (n:Nat),Reps K H ds vs->Reps K H (ds.drop n) (vs.drop n)
 |[],_,n,h=>by rw[h];simp[Reps]
 |d::ds,vs,0,h=>by simpa using h
 |d::ds,_,n+1,h=>by
  obtain⟨v,r,rfl,s,t⟩:=h;simpa using Reps.drop n t
theorem Reps.one  (h:Rep K H d v):Reps K H [d] [v]:=by exact⟨v,[],rfl,h,rfl⟩
theorem Reps.cons  (h:Rep K H d v) (t:Reps K H ds vs):Reps K H (d::ds) (v::vs):=by exact⟨v,vs,rfl,h,t⟩
theorem Reps.nil_:Reps K H [] []:=by rfl
end
structure FC where
 Hi:Hp
 He:Hp
 Ap:List Addr
def OwOk (K:Frag) (H0 H:Hp) (a:Addr):MO->Prop
 |.lst ds=>∃ vs,H a=some (.lst vs)/\Reps K H0 ds vs
 |.dic q=>∃ ks vs,H a=some (.dK ((ks.map Sum.inr).zip vs))/\ks=q.map (·.1)/\Reps K H0 (q.map (·.2)) vs
structure RS (K:Frag) (c:FC) (H0 H:Hp) (ρ:En) (σ:L2.St):Prop where
 same:Same H0 H
 init:Same c.Hi H0
 fresh:∀ b o,H0 b=some o->c.Hi b=some o\/c.He b=none
 keep:∀ b o,c.He b=some o->b∉c.Ap->H b=some o
 apt:∀ a∈c.Ap,H a≠none
 len:ρ.length=σ.length
 im:∀ (i:Nat) (d:D),ρ[i]?=some (.im d)->∃ v,σ[i]?=some (some v)/\Rep K H0 d v
 ow:∀ (i:Nat) (b:Bool) (o:MO),ρ[i]?=some (.ow b o)->∃ a,σ[i]?=some (some (.ref a))/\H0 a=none/\(if b=true then a∈c.Ap else c.He a=none)/\OwOk K H0 H a o
 ne:∀ (i j:Nat) (b b':Bool) (o o':MO) (a:Addr),ρ[i]?=some (.ow b o)->ρ[j]?=some (.ow b' o')->σ[i]?=some (some (.ref a))->σ[j]?=some (some (.ref a))->i=j
section
variable {K:Frag}
theorem OwOk.some  (h:OwOk K H0 H a o):∃ u,H a=Option.some u:=by
 cases o with
 |lst ds=>obtain⟨vs,e,_⟩:=h;exact⟨_,e⟩
 |dic ds=>obtain⟨ks,vs,e,_⟩:=h;exact⟨_,e⟩
theorem OwOk.step  (h:OwOk K H0 H a o) (J:Same H0 H0') (s:∀ u,H a=Option.some u->H' a=Option.some u):OwOk K H0' H' a o:=by
 cases o with
 |lst ds=>obtain⟨vs,e,r⟩:=h;exact⟨vs,s _ e,Reps.mono J ds r⟩
 |dic ds=>obtain⟨ks,vs,e,q,r⟩:=h;exact⟨ks,vs,s _ e,q,Reps.mono J _ r⟩
structure Step (H0 H H0' H':Hp):Prop where
 s0:Same H0 H0'
 s:Same H H'
 s':Same H0' H'
 fr:∀ b o,H0' b=some o->H0 b=some o\/H b=none
theorem RS.after (R:RS K c H0 H ρ σ) (S:Step H0 H H0' H'):RS K c H0' H' ρ σ:=by
 refine⟨S.s',R.init.trans S.s0,λ b o e=>?_,λ b o e n=>S.s _ _ (R.keep b o e n),λ a O e=>?_,R.len,λ i d e=>?_,λ i b o e=>?_,R.ne⟩
 ·rcases S.fr b o e with h | h
  ·exact R.fresh b o h
  ·refine .inr ?_;cases q:c.He b with
   |none=>rfl
   |some u =>
    by_cases J:b∈c.Ap
    ·exact absurd h (R.apt b J)
    ·rw[R.keep b u q J] at h;cases h
 ·cases q:H a with
  |none=>exact R.apt a O q
  |some u=>rw[S.s _ _ q] at e;cases e
 ·obtain⟨v,a,b⟩:=R.im i d e;exact⟨v,a,Rep.mono S.s0 d b⟩
 ·obtain⟨a,x,y,z,w⟩:=R.ow i b o e;refine⟨a,x,?_,z,w.step S.s0 λ u q=>S.s _ _ q⟩;obtain⟨u,q⟩:=w.some;cases t:H0' a with
  |none=>rfl
  |some o' =>
   rcases S.fr a o' t with h | h
   ·rw[y] at h;cases h
   ·rw[q] at h;cases h
theorem Step.trans  (x:Step H0 H H0' H') (y:Step H0' H' A B):Step H0 H A B:=by
 refine⟨x.s0.trans y.s0,x.s.trans y.s,y.s',λ b o e=>?_⟩;rcases y.fr b o e with h | h
 ·exact x.fr b o h
 ·exact .inr (x.s.free h)
theorem Step.alloc  (s:Same H0 H) (J:H p=none):Step H0 H (upd H0 p o) (upd H p o):=by
 have O:=s.free J;refine⟨λ b u e=>by rw[b_2 (c_6 e O)];exact e,λ b u e=>by rw[b_2 (c_6 e J)];exact e,λ b u e=>?_,λ b u e=>?_⟩
 ·by_cases q:b=p
  ·subst q;rw[a_3] at e ⊢;exact e
  ·rw[b_2 q] at e ⊢;exact s _ _ e
 ·by_cases q:b=p
  ·subst q;exact .inr J
  ·rw[b_2 q] at e;exact .inl e
end
def tE (K:Frag) (F:FE):TE:=λ σ H Q=>∃ c H0 ρ d q,RS K c H0 H ρ σ/\F ρ=some (d,q)/\∀ v H0' H',Same H0 H0'->RS K c H0' H' q σ->Rep K H0' d v->Q v H'
def tTt (K:Frag) (F:FT):TT:=λ σ H Q=>∃ c H0 ρ b q,RS K c H0 H ρ σ/\F ρ=some (b,q)/\∀ H0' H',Same H0 H0'->RS K c H0' H' q σ->Q b H'
def tAa (K:Frag) (F:FA):TA:=λ σ H Q=>∃ c H0 ρ ds q,RS K c H0 H ρ σ/\F ρ=some (ds,q)/\∀ vs H0' H',Same H0 H0'->RS K c H0' H' q σ->Reps K H0' ds vs->Q vs H'
def tOo (K:Frag) (F:FO):TO:=λ σ H Q=>∃ c H0 ρ o q,RS K c H0 H ρ σ/\F ρ=some (o,q)/\∀ H0' H',Same H0 H0'->RS K c H0' H' q σ->Q o H'
def XE (X:Cx) (e:Expr) (F:FE):Prop:=PE X e (tE X.K F)
def XT (X:Cx) (e:Expr) (F:FT):Prop:=PT X e (tTt X.K F)
def XW (X:Cx) (e:Expr) (F:FT):Prop:=PW X e (tTt X.K F)
def XA (X:Cx) (es:List Expr) (F:FA):Prop:=PA X es (tAa X.K F)
def XO (X:Cx) (e:Option Expr) (F:FO):Prop:=PO X e (tOo X.K F)
theorem a_0  (h:bnd x f=some b):∃ a,x=some a/\f a=some b:=by
 cases x with
 |none=>cases h
 |some a=>exact⟨a,rfl,h⟩
theorem PE.wk  (h:PE X e t) (w:∀ σ H Q,t' σ H Q->t σ H Q):PE X e t':=λ pins s σ H Q I q=>h pins s σ H Q I (w σ H Q q)
theorem PT.wk  (h:PT X e t) (w:∀ σ H Q,t' σ H Q->t σ H Q):PT X e t':=λ pins s σ H Q I q=>h pins s σ H Q I (w σ H Q q)
theorem PW.wk  (h:PW X e t) (w:∀ σ H Q,t' σ H Q->t σ H Q):PW X e t':=λ J pins s σ H Q I q=>h J pins s σ H Q I (w σ H Q q)
theorem PA.wk  (h:PA X e t) (w:∀ σ H Q,t' σ H Q->t σ H Q):PA X e t':=λ pos pins s σ H Q I q=>h pos pins s σ H Q I (w σ H Q q)
theorem PS.wk  (h:PS X e t) (w:∀ D σ H,t' D σ H->t D σ H):PS X e t':=λ pins s σ H D I q=>h pins s σ H D I (w D σ H q)
theorem PSs.wk  (h:PSs X e t) (w:∀ D σ H,t' D σ H->t D σ H):PSs X e t':=λ pins s σ H D I q=>h pins s σ H D I (w D σ H q)
section
theorem xv (i:Nat)  (hN:X.N[i]?=some x:=by rfl) (hv:Vis X.env.scope x:=by first | exact Or.inl rfl | exact Or.inr (Or.inl rfl) | exact Or.inr (Or.inr rfl)) (hd:(x==("__debug__":Str))=false:=by decide)
  (O:(x==("__classdict__":Str))=false:=by decide):XE X (.Name x pos) (eV i) :=
 PE.wk (i_4 hN hv hd O) λ σ H Q J=>by
  obtain⟨c,H0,ρ,d,Y,R,f,q⟩:=J;unfold eV at f;cases z:ρ[i]? with
  |none=>rw[z] at f;cases f
  |some Z =>
   rw[z] at f;cases Z with
   |no=>cases f
   |ow b o=>cases f
   |im d' =>
    have f':=f;cases f';obtain⟨v,e1,e2⟩:=R.im i _ z;exact⟨v,e1,q v H0 H (Same.refl _) R e2⟩
theorem bj5:XE X e aS6:=λ pins s σ H Q I J=>by obtain⟨c,H0,ρ,d,O,R,f,q⟩:=J;cases f
theorem X_9  (h:eC d ρ=some (d',q)):d'=d/\q=ρ:=by have h':=h;cases h';exact⟨rfl,rfl⟩
theorem a_4 :XE X (.Constant (.int i) j pos) (zI i):=PE.wk K_4 λ σ H Q J=>by
 obtain⟨c,H0,ρ,d,O,R,f,q⟩:=J;obtain⟨rfl,rfl⟩:=X_9 f;exact q _ H0 H (Same.refl _) R (by rfl)
theorem xbl :XE X (.Constant (.bool i) j pos) (eC (.bl i)):=PE.wk bG2 λ σ H Q J=>by
 obtain⟨c,H0,ρ,d,O,R,f,q⟩:=J;obtain⟨rfl,rfl⟩:=X_9 f;exact q _ H0 H (Same.refl _) R (by rfl)
theorem l_4 :XE X (.Constant .none j pos) (eC .non):=PE.wk bn8 λ σ H Q J=>by
 obtain⟨c,H0,ρ,d,O,R,f,q⟩:=J;obtain⟨rfl,rfl⟩:=X_9 f;exact q _ H0 H (Same.refl _) R (by rfl)
theorem d_0 :XE X (.Constant (.str x) j pos) (eC (.str x)):=PE.wk V_2 λ σ H Q J=>by
 obtain⟨c,H0,ρ,d,O,R,f,q⟩:=J;obtain⟨rfl,rfl⟩:=X_9 f;exact q _ H0 H (Same.refl _) R (by rfl)
abbrev Aft (K:Frag) (c:FC) (H0:Hp) (ρ:En) (σ:L2.St) (d:D) (Q:VK):Prop:=∀ v H0' H',Same H0 H0'->RS K c H0' H' ρ σ->Rep K H0' d v->Q v H'
def OpD (K:Frag) (r:R2) (op:D->D->Option D):Prop:=∀ (c:FC) (H0 H:Hp) (ρ:En) (σ:L2.St) (x y d:D) (J q:V) (Q:VK),RS K c H0 H ρ σ->Rep K H0 x J->Rep K H0 y q->op x y=some d->Aft K c H0 ρ σ d Q->r J q H Q
def Z_7 (X:Cx) (op:Operator) (f:D->D->Option D):Prop:=∃ r,OpR X (binaryOp op) r/\OpD X.K r f
def B_1 (X:Cx) (op:CmpOp) (f:D->D->Option D):Prop:=∃ r,OpR X (compareOp op) r/\OpD X.K r f
theorem aS7  (h:e2 op F G ρ=some (d,J)):∃ x q y,F ρ=some (x,q)/\G q=some (y,J)/\op x y=some d:=by obtain⟨⟨x,q⟩,h1,h⟩:=a_0 h;obtain⟨⟨y,O⟩,h2,h⟩:=a_0 h;obtain⟨z,Y,h⟩:=a_0 h;have h':=h;cases h';exact⟨x,q,y,h1,h2,Y⟩
theorem af9 {K:Frag} (o:OpD K r op)  (h:tE K (e2 op F G) σ H Q):tOp r (tE K F) (tE K G) σ H Q:=by
 obtain⟨c,H0,ρ,d,O,R,f,q⟩:=h;obtain⟨x,J,y,h1,h2,h3⟩:=aS7 f;refine⟨c,H0,ρ,x,J,R,h1,λ vx H1 Hh s1 Z r1=>?_⟩;refine⟨c,H1,J,y,O,Z,h2,λ vy H2 Hh2 s2 R2 r2=>?_⟩;exact o c H2 Hh2 O σ x y d vx vy Q R2 (Rep.mono s2 x r1) r2 h3 λ v Y Hh3 s3 R3 r3=>q v Y Hh3 (s1.trans (s2.trans s3)) R3 r3
theorem xb  (o:Z_7 X op f) (q:XE X a F) (J:XE X b G):XE X (.BinOp a op b pos) (e2 f F G):=by
 obtain⟨r,h1,h2⟩:=o;exact PE.wk (aI4 h1 q J) λ σ H Q h=>af9 h2 h
theorem Z_8  (o:B_1 X op f) (q:XE X a F) (O:XE X b G) (J:behindInMarks op b=false:=by first | exact ax3 _ | with_unfolding_all rfl):XE X (.Compare a [op] [b] pos) (e2 f F G):=by
 obtain⟨r,h1,h2⟩:=o;exact PE.wk (aZ1 h1 q O J) λ σ H Q h=>af9 h2 h
theorem aV6 {K:Frag} (w:∀ Q,tE K F σ H Q->t σ H Q) (h:tTt K (tB F) σ H Q):aV4 t σ H Q:=by
 obtain⟨c,H0,ρ,b,O,R,f,q⟩:=h;obtain⟨⟨d,J⟩,h1,f⟩:=a_0 f;obtain⟨Y,h2,f⟩:=a_0 f;have Z:=f;cases Z;refine w _ ⟨c,H0,ρ,d,_,R,h1,λ v H1 Hh s1 R1 r1=>?_⟩;cases d with
 |bl k =>
  have e:=qi h2;exact⟨k,r1,by rw[e];exact q H1 Hh s1 R1⟩
 |_=>cases h2
theorem xt  (o:B_1 X op f) (q:XE X a F) (O:XE X b G) (J:behindInMarks op b=false:=by first | exact ax3 _ | with_unfolding_all rfl):XT X (.Compare a [op] [b] pos) (tB (e2 f F G)):=by
 obtain⟨r,h1,h2⟩:=o;exact PT.wk (au7 h1 q O J) λ σ H Q h=>aV6 (λ Q h=>af9 h2 h) h
theorem aG2 {K:Frag} (o:OpD K r op) (o':OpD K r' O)  (h:tE K (e3 op O F G L) σ H Q):aO9 r r' (tE K F) (tE K G) (tE K L) σ H Q:=by
 obtain⟨c,H0,ρ,d,Y,R,f,q⟩:=h;obtain⟨⟨x,Z⟩,h1,f⟩:=a_0 f;obtain⟨⟨y,J⟩,h2,f⟩:=a_0 f;obtain⟨z,h3,f⟩:=a_0 f;obtain⟨k,h4,f⟩:=a_0 f;refine⟨c,H0,ρ,x,Z,R,h1,λ vx H1 Hh s1 R1 r1=>?_⟩;refine⟨c,H1,Z,y,J,R1,h2,λ vy H2 Hh2 s2 R2 r2=>?_⟩;refine o c H2 Hh2 J σ x y z vx vy _ R2 (Rep.mono s2 x r1) r2 h3 λ v H3 Hh3 s3 R3 r3=>?_;cases z with
 |bl k' =>
  have e:=qi h4;subst e;refine⟨k',r3,?_⟩;cases k' with
  |false =>
   rw[if_neg zo] at f ⊢;have f':=f;cases f';exact q _ H3 Hh3 (s1.trans (s2.trans s3)) R3 (by rfl)
  |true =>
   rw[if_pos rfl] at f ⊢;obtain⟨⟨w,aa⟩,h5,f⟩:=a_0 f;obtain⟨d',h6,f⟩:=a_0 f;have f':=f;cases f';refine⟨c,H3,J,w,_,R3,h5,λ vw H4 Hh4 s4 R4 r4=>?_⟩;exact o' c H4 Hh4 _ σ y w d vy vw Q R4 (Rep.mono s4 y (Rep.mono s3 y r2)) r4 h6 λ v H5 Hh5 s5 R5 r5=>q v H5 Hh5 (s1.trans (s2.trans (s3.trans (s4.trans s5)))) R5 r5
 |_=>cases h4
theorem xt3 {op q:CmpOp}{f Y:D->D->Option D}{m:Expr} (o:B_1 X op f) (o':B_1 X q Y) (ha:XE X a F) (hb:XE X b G) (hc:XE X m L) (Z:lastMarks [op,q] [b,m]=false):XT X (.Compare a [op,q] [b,m] pos) (tB (e3 f Y F G L)):=by
 obtain⟨r,h1,h2⟩:=o;obtain⟨r',J,O⟩:=o';exact PT.wk (aH9 h1 J ha hb hc Z) λ σ H Q h=>aV6 (λ Q h=>aG2 h2 O h) h
theorem xif  (hc:XT X c T) (ha:XE X a F) (hb:XE X b G):XE X (.IfExp c a b pos) (eIf T F G):=PE.wk (aI5 hc ha hb) λ σ H Q Y=>by
 obtain⟨c,H0,ρ,d,O,R,f,q⟩:=Y;obtain⟨⟨k,J⟩,h1,f⟩:=a_0 f;refine⟨c,H0,ρ,k,J,R,h1,λ H1 Hh s1 R1=>?_⟩;cases k with
 |true =>
  rw[if_pos rfl] at f ⊢;exact⟨c,H1,J,d,O,R1,f,λ v H2 Hh2 s2 R2 Z=>q v H2 Hh2 (s1.trans s2) R2 Z⟩
 |false =>
  rw[if_neg zo] at f ⊢;exact⟨c,H1,J,d,O,R1,f,λ v H2 Hh2 s2 R2 Z=>q v H2 Hh2 (s1.trans s2) R2 Z⟩
theorem bj3  (h:XE X a F):XE X (.BoolOp op [a] pos) F:=bn6 h
variable {rest:List Expr}
theorem bw8 (ha:XE X a F) (hb:XE X (.BoolOp .And (b::rest) pos) G):XE X (.BoolOp .And (a::b::rest) pos) (aL9 F G):=PE.wk (bo1 ha hb) λ σ H Q O=>by
 obtain⟨c,H0,ρ,d,Y,R,f,q⟩:=O;obtain⟨⟨z,J⟩,h1,f⟩:=a_0 f;obtain⟨k,h2,f⟩:=a_0 f;refine⟨c,H0,ρ,z,J,R,h1,λ v H1 Hh s1 R1 r1=>?_⟩;cases z with
 |bl Z =>
  have e:=qi h2;subst e;refine⟨Z,r1,?_⟩;cases Z with
  |true =>
   rw[if_pos rfl] at f ⊢;exact⟨c,H1,J,d,Y,R1,f,λ v H2 Hh2 s2 R2 r2=>q v H2 Hh2 (s1.trans s2) R2 r2⟩
  |false =>
   rw[if_neg zo] at f ⊢;have f':=f;cases f';exact q _ H1 Hh s1 R1 (by rfl)
 |_=>cases h2
theorem xor (ha:XE X a F) (hb:XE X (.BoolOp .Or (b::rest) pos) G):XE X (.BoolOp .Or (a::b::rest) pos) (eOr F G):=PE.wk (bG1 ha hb) λ σ H Q O=>by
 obtain⟨c,H0,ρ,d,Y,R,f,q⟩:=O;obtain⟨⟨z,J⟩,h1,f⟩:=a_0 f;obtain⟨k,h2,f⟩:=a_0 f;refine⟨c,H0,ρ,z,J,R,h1,λ v H1 Hh s1 R1 r1=>?_⟩;cases z with
 |bl Z =>
  have e:=qi h2;subst e;refine⟨Z,r1,?_⟩;cases Z with
  |true =>
   rw[if_pos rfl] at f ⊢;have f':=f;cases f';exact q _ H1 Hh s1 R1 (by rfl)
  |false =>
   rw[if_neg zo] at f ⊢;exact⟨c,H1,J,d,Y,R1,f,λ v H2 Hh2 s2 R2 r2=>q v H2 Hh2 (s1.trans s2) R2 r2⟩
 |_=>cases h2
theorem xw (h:XW X a T):XT X a T:=PW.pt h
theorem v_0 (q:XT X a T):XW X (.BoolOp .And [a] pos) T:=aX6 q
theorem aa3 (q:XT X a T):XW X (.BoolOp .Or [a] pos) T:=bm4 q
theorem E_8 (ha:XT X a T) (hb:XW X (.BoolOp .And (b::rest) pos) U):XW X (.BoolOp .And (a::b::rest) pos) (tAnd T U):=PW.wk (bm5 ha hb) λ σ H Q Y=>by
 obtain⟨c,H0,ρ,k,O,R,f,q⟩:=Y;obtain⟨⟨k',J⟩,h1,f⟩:=a_0 f;refine⟨c,H0,ρ,k',J,R,h1,λ H1 Hh s1 Z=>?_⟩;cases k' with
 |true =>
  rw[if_pos rfl] at f ⊢;exact⟨c,H1,J,k,O,Z,f,λ H2 Hh2 s2 R2=>q H2 Hh2 (s1.trans s2) R2⟩
 |false =>
  rw[if_neg zo] at f ⊢;have f':=f;cases f';exact q H1 Hh s1 Z
theorem aT7 (ha:XT X a T) (hb:XW X (.BoolOp .Or (b::rest) pos) U):XW X (.BoolOp .Or (a::b::rest) pos) (tOr T U):=PW.wk (bF9 ha hb) λ σ H Q Y=>by
 obtain⟨c,H0,ρ,k,O,R,f,q⟩:=Y;obtain⟨⟨k',J⟩,h1,f⟩:=a_0 f;refine⟨c,H0,ρ,k',J,R,h1,λ H1 Hh s1 Z=>?_⟩;cases k' with
 |true =>
  rw[if_pos rfl] at f ⊢;have f':=f;cases f';exact q H1 Hh s1 Z
 |false =>
  rw[if_neg zo] at f ⊢;exact⟨c,H1,J,k,O,Z,f,λ H2 Hh2 s2 R2=>q H2 Hh2 (s1.trans s2) R2⟩
theorem aT9 (ha:XT X a T):XT X (.UnaryOp .Not a pos) (tNot T):=PT.wk (bn0 ha) λ σ H Q J=>by
 obtain⟨c,H0,ρ,k,Y,R,f,q⟩:=J;obtain⟨⟨Z,O⟩,h1,f⟩:=a_0 f;have f':=f;cases f';exact⟨c,H0,ρ,Z,_,R,h1,λ H1 Hh s1 R1=>q H1 Hh s1 R1⟩
theorem bk2 {K:Frag} (s:Same H0 H) (r:Rep K H0 d v) (h:bf8 d=some k):bM2 K v H k:=by
 cases d with
 |non=>unfold Rep at r;subst r;cases h;rfl
 |bl b=>unfold Rep at r;subst r;cases h;rfl
 |int i=>unfold Rep at r;subst r;cases h;rfl
 |str x=>cases h
 |opq=>cases h
 |dct ks vs=>cases h
 |tup ds =>
  obtain⟨p,vs,rfl,q,t⟩:=r;have e:=qi h;have e2:ds.isEmpty=vs.isEmpty:=by rw[yz,jy,jy,t.length]
  exact .inr (.inl ⟨vs,Same.seqT s q,by rw[<- e2];exact e.symm⟩)
 |lst ds =>
  obtain⟨p,vs,rfl,q,t⟩:=r;have e:=qi h;have e2:ds.isEmpty=vs.isEmpty:=by rw[yz,jy,jy,t.length]
  exact .inl ⟨vs,Same.seq s q,by rw[<- e2];exact e.symm⟩
theorem xtv (ha:XE X a F) (he:∀ J,isTrue a X.env J=(do let v <- J;standAt a.pos;holding [v] (truthy v))):XT X a (tV F):=PT.wk (aH8 ha he) λ σ H Q O=>by
 obtain⟨c,H0,ρ,k,Z,R,f,q⟩:=O;obtain⟨⟨d,Y⟩,h1,f⟩:=a_0 f;obtain⟨k',h2,f⟩:=a_0 f;have f':=f;cases f';exact⟨c,H0,ρ,d,_,R,h1,λ v H1 Hh s1 R1 r1=>⟨k,bk2 R1.same r1 h2,q H1 Hh s1 R1⟩⟩
theorem xaN:XA X [] aN:=PA.wk l_0 λ σ H Q J=>by
 obtain⟨c,H0,ρ,ds,O,R,f,q⟩:=J;have Y:=f;cases Y;exact q [] H0 H (Same.refl _) R Reps.nil_
theorem xaC  (ha:XE X e F) (hr:XA X es A) (hs:starEach (e::es) X.env=(false,eval e X.env)::starEach es X.env:=by rfl):XA X (e::es) (aC F A):=PA.wk (c_5 ha hr hs) λ σ H Q J=>by
 obtain⟨c,H0,ρ,ds,Z,R,f,q⟩:=J;obtain⟨⟨d,O⟩,h1,f⟩:=a_0 f;obtain⟨⟨r,Y⟩,h2,f⟩:=a_0 f;have f':=f;cases f';refine⟨c,H0,ρ,d,O,R,h1,λ v H1 Hh s1 R1 r1=>?_⟩;refine⟨c,H1,O,r,_,R1,h2,λ vs H2 Hh2 s2 R2 r2=>?_⟩;exact q _ H2 Hh2 (s1.trans s2) R2 (Reps.cons (Rep.mono s2 d r1) r2)
theorem aV8  (h:n<=1000):n<=sizeLine:=Zb (F_1 h)
theorem l_8  (h:XA X es A):XE X (.Tuple es x1 pos) (c_0 A):=PE.wk (ah7 h) λ σ H Q J=>by
 obtain⟨c,H0,ρ,d,ac,R,f,q⟩:=J;obtain⟨⟨ds,aa⟩,h1,f⟩:=a_0 f;split at f
 ·rename_i Y;cases f;refine⟨c,H0,ρ,ds,_,R,h1,λ vs H1 Hh s1 O r1=>⟨by rw[<- r1.length];exact aV8 Y,λ p Z=>?_⟩⟩;have S:=Step.alloc (o:=.tup vs) O.same Z;refine q _ _ _ (s1.trans S.s0) (O.after S) ?_;exact⟨p,vs,rfl,.inl (.inl a_3),Reps.mono S.s0 ds r1⟩
 ·cases f
theorem J_8  (h:XA X es A):XE X (.List es pos) (s_3 A):=PE.wk (ah9 h) λ σ H Q J=>by
 obtain⟨c,H0,ρ,d,ac,R,f,q⟩:=J;obtain⟨⟨ds,aa⟩,h1,f⟩:=a_0 f;split at f
 ·rename_i Y;cases f;refine⟨c,H0,ρ,ds,_,R,h1,λ vs H1 Hh s1 O r1=>⟨by rw[<- r1.length];exact aV8 Y,λ p Z=>?_⟩⟩;have S:=Step.alloc (o:=.lst vs) O.same Z;refine q _ _ _ (s1.trans S.s0) (O.after S) ?_;exact⟨p,vs,rfl,.inl (.inl a_3),Reps.mono S.s0 ds r1⟩
 ·cases f
theorem bv0:@dPl=@ixN:=rfl
theorem bw3 {K:Frag} (r:Reps K H ds vs) (h:atD ds i=some d):∃ v,atI vs i=some v/\Rep K H d v:=by obtain⟨j,h1,h2⟩:=a_0 h;obtain⟨v,e1,e2⟩:=r.get h2;refine⟨v,?_,e2⟩;unfold atI;rw[<- r.length,<- bv0,h1];exact e1
theorem PO.wk  (h:PO X e t) (w:∀ σ H Q,t' σ H Q->t σ H Q):PO X e t':=λ pins s σ H Q I q=>h pins s σ H Q I (w σ H Q q)
theorem xoN:XO X none oN:=PO.wk aY7 λ σ H Q J=>by
 obtain⟨c,H0,ρ,o,O,R,f,q⟩:=J;have Y:=f;cases Y;exact q H0 H (Same.refl _) R
theorem xoS (h:XE X e F):XO X (some e) (oS F):=PO.wk (aY6 h) λ σ H Q J=>by
 obtain⟨c,H0,ρ,o,Y,R,f,q⟩:=J;obtain⟨⟨d,O⟩,h1,f⟩:=a_0 f;obtain⟨i,h2,f⟩:=a_0 f;have Z:=f;cases Z;refine⟨c,H0,ρ,d,_,R,h1,λ v H1 Hh s1 R1 r1=>?_⟩;cases d with
 |int j =>
  have e:=qi h2;subst e;exact⟨j,r1,q H1 Hh s1 R1⟩
 |_=>cases h2
theorem R_3 (n d:Nat) (o:Option Int):T_3 n d o=HT.sIx n d o:=by cases o <;> rfl
theorem aC8 {K:Frag} (r:Reps K H ds vs) (lo hi:Option Int):Reps K H (R_4 ds lo hi) (aF0 vs lo hi):=by unfold R_4 aF0;rw[R_3,R_3,r.length];exact (r.drop _).take _
end
section
variable {K:Frag}
theorem N_8  (h:∀ x y d,f x y=some d->∃ i j,x=.int i/\y=.int j/\C i j/\∀ H,Rep K H d (g i j)):OpD K (rI C g) f:=λ c H0 H ρ σ x y d Z vy Q R r1 J e q=>by
 obtain⟨i,j,rfl,rfl,Y,O⟩:=h x y d e;exact⟨i,j,r1,J,Y,q _ H0 H (Same.refl _) R (O H0)⟩
theorem ai3  (h:∀ x y d,f x y=some d->∃ i j,x=.int i/\y=.int j/\∀ H,Rep K H d (g i j)):OpD K (rI0 g) f:=λ c H0 H ρ σ x y d Z Y Q R r1 J e q=>by
 obtain⟨i,j,rfl,rfl,O⟩:=h x y d e;exact⟨i,j,r1,J,q _ H0 H (Same.refl _) R (O H0)⟩
theorem f_7 (H:Hp) (i:Int):Rep K H (.int i) (.int i):=by rfl
theorem o_5 (H:Hp) (i:Bool):Rep K H (.bl i) (.bl i):=by rfl
theorem ifs  [Decidable c]  (h:(if c then some a else none)=some d):c/\a=d:=by
 by_cases q:c
 ·rw[if_pos q] at h;exact⟨q,qi h⟩
 ·rw[if_neg q] at h;cases h
theorem T_2:Z_7 X .Sub L_5:=⟨_,bo5,ai3 λ x y d e=>by
 obtain⟨i,j,rfl,rfl,e⟩:=K_6 e;cases e;exact⟨_,_,rfl,rfl,λ H=>f_7 H _⟩⟩
def CMulD (i j:Int):Prop:=j_7 i j=true
theorem B_8  (h:ar0 i=true):Builtin.Int.intBits i<=1000:=by
 have h:=Qn h;unfold Builtin.Int.intBits;split
 ·exact yf _
 ·rename_i hz;have hz:i≠0:=by simpa using hz
  have q:i.natAbs≠0:=by omega
  have:=(Nat.log2_lt q).mpr h;omega
theorem CMulD.ok  (h:CMulD i j):IntMulOk i j:=by
 unfold CMulD j_7 at h;simp only[Bool.or_eq_true,zn,Zv] at h;rcases h with (h | h) | ⟨h1,h2⟩
 ·exact IntMulOk.of_left (intBits_le_64 (by omega) (by omega))
 ·exact IntMulOk.of_right (intBits_le_64 (by omega) (by omega))
 ·unfold IntMulOk;have J:=B_8 h1;have q:=B_8 h2;have:Builtin.Int.intTooBig ((Builtin.Int.intBits i:Int)+(Builtin.Int.intBits j:Int))=false:=by
   refine yj ?_;have:(2000:Int)<=bitsLine:=by decide
   omega
  simp[this]
theorem ac2:Z_7 X .Mult Y_1:=⟨rI CMulD λ i j=>.int (i*j),opI λ _ _ _ _ _ _ _ J q=>mul_int q J.ok,N_8 λ x y d e=>by
 obtain⟨i,j,rfl,rfl,e⟩:=K_6 e;obtain⟨h,rfl⟩:=ifs e;exact⟨_,_,rfl,rfl,h,λ H=>f_7 H _⟩⟩
def bw6 (i j:Int):Prop:=z_8 j=true
theorem ba3:Z_7 X .FloorDiv aM8:=⟨rI bw6 λ i j=>.int (i.fdiv j),opI λ i j _ _ _ _ _ J q=>by
  unfold bw6 z_8 at J;simp only[zn,Zv] at J;refine floordiv_int J.1 q (.inl (PyProof.noPylong_of_log2 ?_));have O:j.natAbs≠0:=by have:=J.1;omega
  have:=(Nat.log2_lt O).mpr J.2;omega,N_8 λ x y d e=>by
 obtain⟨i,j,rfl,rfl,e⟩:=K_6 e;obtain⟨h,rfl⟩:=ifs e;exact⟨_,_,rfl,rfl,h,λ H=>f_7 H _⟩⟩
theorem j_9:Z_7 X .Mod i_7:=⟨_,aZ9,N_8 λ x y d e=>by
 obtain⟨i,j,rfl,rfl,e⟩:=K_6 e;obtain⟨h,rfl⟩:=ifs e;exact⟨_,_,rfl,rfl,h,λ H=>f_7 H _⟩⟩
theorem ca4:Z_7 X .Pow bL0:=⟨_,bo6,N_8 λ x y d e=>by
 obtain⟨i,j,rfl,rfl,e⟩:=K_6 e;obtain⟨h,rfl⟩:=ifs e;exact⟨_,_,rfl,rfl,⟨h.1,by omega,h.2.2⟩,λ H=>f_7 H _⟩⟩
def bm3 (K:Frag):R2:=λ x y H Q=>∃ l b xs zs,x=.ref l/\y=.ref b/\SqL K H l xs/\SqL K H b zs/\xs.length+zs.length<=sizeLine/\∀ p,H p=none->Q (.ref p) (upd H p (.lst (xs++zs)))
theorem aw9:OpR X (binaryOp .Add) (bm3 X.K):=by
 intro pins s σ H x y v u Q I rx ry h;obtain⟨l,b,xs,zs,rfl,rfl,hH,hB,hz,q⟩:=h;cases rx;cases ry;obtain⟨O,r,pl,_⟩:=I.list hH;obtain⟨J,r2,ad,_⟩:=I.list hB;have hl:=r.length;have ah:=r2.length;obtain⟨⟨cls,dd,data,sl⟩,ho,hc,n,hd⟩:=pl.isList;obtain⟨⟨ag,ac,ae,af⟩,Z,Y,n2,aa⟩:=ad.isList;subst hc hd Y aa;have e:O.toArray++J.toArray=(O++J).toArray:=by simp
 refine concat_meets ⟨_,ho,rfl⟩ ⟨_,Z,rfl⟩ noFill_list_add seq_list_add PySem.F.slot_list_add PySem.F.entry_list_add (PySem.F.args_list_add_2 _ _) (list_addW l b O.toArray J.toArray n n2 dd ac sl af (by rw[ze,ze];omega)) ⟨ho,Z,?_⟩;rw[e];exact⟨.ref _,_,I.lnew (r.append r2) (by rw[zc];omega),rfl,q _ I.fresh⟩
def bF8 (K:Frag):R2:=λ x y H Q=>rI0 (λ i j=>.int (i+j)) x y H Q\/((∃ i j,x=.str i/\y=.str j/\i.length+j.length<=sizeLine/\Q (.str (i++j)) H)\/bm3 K x y H Q)
theorem l_5:Z_7 X .Add i_1:=⟨bF8 X.K,op_add.or (op_add_str.or aw9),λ c H0 H ρ σ x y d vx vy Q R r1 J e q=>by
 cases x with
 |int i =>
  cases y with
  |int j =>
   cases e;exact .inl ⟨_,_,r1,J,q _ H0 H (Same.refl _) R (f_7 H0 _)⟩
  |_=>cases e
 |str i =>
  cases y with
  |str j =>
   obtain⟨h,rfl⟩:=ifs e;exact .inr (.inl ⟨_,_,r1,J,h,q _ H0 H (Same.refl _) R (by rfl)⟩)
  |_=>cases e
 |lst ds =>
  cases y with
  |lst es =>
   obtain⟨h,rfl⟩:=ifs e;obtain⟨p,vs,rfl,s,t⟩:=r1;obtain⟨p2,O,rfl,s2,t2⟩:=J;refine .inr (.inr ⟨p,p2,vs,O,rfl,rfl,Same.seq R.same s,Same.seq R.same s2,by rw[<- t.length,<- t2.length];exact h,λ Z Y=>?_⟩);have S:=Step.alloc (o:=.lst (vs++O)) R.same Y;refine q _ _ _ S.s0 (R.after S) ?_;exact⟨Z,_,rfl,.inl (.inl a_3),Reps.mono S.s0 _ (t.app t2)⟩
  |_=>cases e
 |_=>cases y <;> cases e⟩
theorem bw7  (ha:XE X a F):XE X (.UnaryOp .USub a pos) (e1 aT1 F):=PE.wk (bG0 bj9 ha) λ σ H Q J=>by
 obtain⟨c,H0,ρ,d,Y,R,f,q⟩:=J;obtain⟨⟨x,O⟩,h1,f⟩:=a_0 f;obtain⟨d',h2,f⟩:=a_0 f;have Z:=f;cases Z;refine⟨c,H0,ρ,x,_,R,h1,λ v H1 Hh s1 R1 r1=>?_⟩;cases x with
 |int i =>
  have e:=qi h2;subst e;exact⟨i,r1,q _ H1 Hh s1 R1 (f_7 _ _)⟩
 |_=>cases h2
theorem bL3 :OpD K (rI0 λ i j=>.bl (p i j)) (bz0 p):=ai3 λ x y d e=>by
 obtain⟨i,j,rfl,rfl,e⟩:=K_6 e;cases e;exact⟨_,_,rfl,rfl,λ H=>o_5 H _⟩
theorem cLt:B_1 X .Lt dLt:=⟨_,bG5,bL3⟩
theorem cLe:B_1 X .LtE dLe:=⟨_,bG6,bL3⟩
theorem cGt:B_1 X .Gt dGt:=⟨_,bG7,bL3⟩
theorem aR7  (r:Rep K H x v):isN x=decide (v=.non):=by
 cases x with
 |non=>unfold Rep at r;subst r;rfl
 |bl b=>unfold Rep at r;subst r;rfl
 |int b=>unfold Rep at r;subst r;rfl
 |str b=>unfold Rep at r;subst r;rfl
 |tup ds=>unfold Rep at r;obtain⟨p,vs,rfl,_⟩:=r;rfl
 |opq=>unfold Rep at r;obtain⟨p,kvs,rfl,_⟩:=r;rfl
 |dct ks vs=>unfold Rep at r;obtain⟨p,o,us,rfl,_⟩:=r;rfl
 |lst ds=>unfold Rep at r;obtain⟨p,vs,rfl,_⟩:=r;rfl
theorem cIs:B_1 X .Is dIs:=⟨_,bo8,λ c H0 H ρ σ x y d Z Y Q R r1 J e q=>by
 cases y with
 |non =>
  have O:D.bl (isN x)=d:=by cases x <;> exact qi e
  subst O;exact⟨J,by rw[<- aR7 r1];exact q _ H0 H (Same.refl _) R (o_5 _ _)⟩
 |_=>cases x <;> cases e⟩
theorem aD8:B_1 X .IsNot Y_2:=⟨_,aZ8,λ c H0 H ρ σ x y d Z Y Q R r1 J e q=>by
 cases y with
 |non =>
  have O:D.bl (!isN x)=d:=by cases x <;> exact qi e
  subst O;exact⟨J,by rw[<- aR7 r1];exact q _ H0 H (Same.refl _) R (o_5 _ _)⟩
 |_=>cases x <;> cases e⟩
end
theorem u_6:∀ (ds es:List D),R_0 ds es=((List.range (min ds.length es.length)).all (λ j=>eqD (ds.getD j .non) (es.getD j .non))&&ds.length==es.length)
 |[],[]=>by simp[R_0]
 |[],e::es=>by simp[R_0]
 |d::ds,[]=>by simp[R_0]
 |d::ds,e::es=>by
  rw[R_0,u_6 ds es];have h:min (d::ds).length (e::es).length=min ds.length es.length+1:=Nat.succ_min_succ ..;rw[h,List.range_succ_eq_map,Zl,List.all_map];have h2:((d::ds).length==(e::es).length)=(ds.length==es.length):=by simp
  rw[h2,Bool.and_assoc];rfl
theorem A_5:∀ {ds:List D}{n:Nat}{j:Nat}{d:D},B_9 ds<=n->ds[j]?=some d->dpD d<=n
 |[],_,_,_,_,e=>by simp at e
 |d::ds,n,0,_,h,e=>by
  rw[Y_0] at h;simp at e;subst e;omega
 |d::ds,n,j+1,d',h,e=>by
  rw[Y_0] at h;exact A_5 (ds:=ds) (by omega) (by simpa using e)
section
variable {X:Cx}{pins:List (Addr×Obj)}{σ:L2.St}{H:Hp}{s:Shared}
theorem bd4  (hd:Reps X.K H ds vs) (Z:Reps X.K H es vs) (h:∀ (j:Nat) (d e:D) (v:V),vs[j]?=some v->ds[j]?=some d->es[j]?=some e->Rep X.K H d v->Rep X.K H e v->eqD d e=true):R_0 ds es=true:=by
 rw[u_6];have l1:=hd.length;have l2:=Z.length;rw[zn,Je];refine⟨λ j hj=>?_,by simp;omega⟩;have q:j<ds.length:=by have:=List.mem_range.mp hj;omega
 have J:j<es.length:=by omega
 obtain⟨v,O,a2⟩:=hd.get (i:=j) (d:=ds[j]) (by simp[q]);obtain⟨v',Y,b2⟩:=Z.get (i:=j) (d:=es[j]) (by simp[J]);rw[O] at Y;cases Y;have:=h j ds[j] es[j] v O (by simp[q]) (by simp[J]) a2 b2;simpa [List.getD,q,J] using this
theorem bp4 (I:Inv X pins σ H s)  (h:SqT X.K H a xs) (h':SqL X.K H a ys):False:=by
 obtain⟨_,_,⟨o,e,c,_⟩,_⟩:=I.tuple h;obtain⟨_,_,⟨o',n,q,J,_⟩,_⟩:=I.list h';rw[e] at q;cases q;have z:=c.symm.trans J;injection z with z
 exact absurd z (by decide)
theorem ce9  (h:dpD (.tup ds)<1000):B_9 ds<999:=by rw[R_1] at h;omega
theorem cf0  (h:dpD (.lst ds)<1000):B_9 ds<999:=by rw[R_2] at h;omega
theorem bT0  (h:B_9 ds<999) {j:Nat} (e:ds[j]?=some d):dpD d<1000:=by have:=A_5 (n:=998) (by omega) e;omega
inductive Sh (X:Cx) (H:Hp) (s:Shared):D->V->Value->Prop
 |non:Sh X H s .non .non .none
 |bl (b:Bool):Sh X H s (.bl b) (.bl b) (.bool b)
 |int (i:Int) (t:Tok):Sh X H s (.int i) (.int i) (.int i t)
 |str (x:Str) (t:Tok):Sh X H s (.str x) (.str x) (.str x t)
 |tup {ds:List D}{p:Addr}{vs:List V}{its:List Value} (s1:SqT X.K H p vs) (q:Reps X.K H ds vs) (rv:Vals vs its) (tp:IsTup s.heap p its.toArray) (z:B_9 ds<999):Sh X H s (.tup ds) (.ref p) (.ref p)
 |lst {ds:List D}{p:Addr}{vs:List V}{its:List Value} (s1:SqL X.K H p vs) (q:Reps X.K H ds vs) (rv:Vals vs its) (tp:s.heap.IsList p its.toArray) (z:B_9 ds<999):Sh X H s (.lst ds) (.ref p) (.ref p)
theorem U_4 (I:Inv X pins σ H s)  (hz:dpD d<1000) (r:Rep X.K H d x) (w:RelV x u):Sh X H s d x u:=by
 cases d with
 |opq=>exact absurd hz (by rw[bf4];omega)
 |dct ks vs=>exact absurd hz (by rw[bf5];omega)
 |non=>unfold Rep at r;subst r;cases (show u=Value.none from w);exact .non
 |bl b=>unfold Rep at r;subst r;cases (show u=Value.bool _ from w);exact .bl b
 |int i=>unfold Rep at r;subst r;obtain⟨t,rfl⟩:=w;exact .int i t
 |str i=>unfold Rep at r;subst r;obtain⟨t,rfl⟩:=w;exact .str i t
 |tup ds =>
  obtain⟨p,vs,rfl,s1,q⟩:=r;cases (show u=Value.ref _ from w);obtain⟨O,J,tp,_⟩:=I.tuple s1;exact .tup s1 q J tp (ce9 hz)
 |lst ds =>
  obtain⟨p,vs,rfl,s1,q⟩:=r;cases (show u=Value.ref _ from w);obtain⟨O,J,tp,_⟩:=I.list s1;exact .lst s1 q J tp.isList (cf0 hz)
theorem au1 (I:Inv X pins σ H s):∀ (n:Nat) (d e:D) (v:V) (u:Value),dpD d<=n->dpD d<1000->dpD e<1000->Rep X.K H d v->Rep X.K H e v->RelV v u->eqD d e=true:=by
  intro n;induction n using Nat.strongRecOn with | _ n ih=>?_
  intro d e v u O Y aa r1 r2 w;have go:∀ {ds es:List D}{vs:List V}{Z:List Value},B_9 ds+1<=n->B_9 ds<999->B_9 es<999->Reps X.K H ds vs->Reps X.K H es vs->Vals vs Z->R_0 ds es=true:=by
   intro ds es vs Z O z1 z2 q1 q2 J;cases n with
   |zero=>omega
   |succ n =>
    refine bd4 q1 q2 λ j d e v h0 h1 h2 a b=>?_;obtain⟨u,_,w⟩:=J.get h0;exact ih n (Z6 n) d e v u (A_5 (by omega) h1) (bT0 z1 h1) (bT0 z2 h2) a b w
  have k1:=U_4 I Y r1 w;have k2:=U_4 I aa r2 w;clear r1 r2 w Y aa;cases k1 with
  |tup s1 q J tp z=>cases k2 with
   |tup s2 q' ad ac z' =>
    cases I.tuple_inj s1 s2;rw[R_1] at O;rw[eqD];exact go O z z' q q' J
   |lst s2=>exact (bp4 I s1 s2).elim
  |lst s1 q J tp z=>cases k2 with
   |lst s2 q' ad ac z' =>
    cases I.list_inj s1 s2;rw[R_2] at O;rw[eqD];exact go O z z' q q' J
   |tup s2=>exact (bp4 I s2 s1).elim
  |_=>cases k2;simp[eqD]
def RcN (X:Cx) (H:Hp) (s:Shared) (n:Nat):Prop:=∀ (A:Around) (d e:D) (x y:V) (u v:Value),dpD d<=n->dpD d<1000->dpD e<1000->A.units+n<cLine->Rep X.K H d x->RelV x u->Rep X.K H e y->RelV y v->SeqAt.RcAt A s u v (eqD d e)
def EqN (X:Cx) (H:Hp) (s:Shared) (n:Nat):Prop:=∀ (A:Around) (d e:D) (x y:V) (u v:Value),dpD d<=n->dpD d<1000->dpD e<1000->A.units+n<cLine->Rep X.K H d x->RelV x u->Rep X.K H e y->RelV y v->SeqAt.EqAt A s u v (eqD d e)
theorem bt3 (I:Inv X pins σ H s)  (rc:RcN X H s n):EqN X H s n:=by
 intro A d e x y u v hn O Y hA r1 w1 r2 w2;have J:A.units<cLine:=by omega
 have Z:=rc A d e x y u v hn O Y hA r1 w1 r2 w2;have one:x=y->eqD d e=true:=λ z=>au1 I _ d e x u (qj _) O Y r1 (z▸r2) w1;have rf:∀ p1 p2,x=.ref p1->y=.ref p2->u=.ref p1->v=.ref p2->SeqAt.EqAt A s u v (eqD d e):=λ p1 p2 h1 h2 h3 h4=>by
  subst h1 h2 h3 h4;by_cases h:p1=p2
  ·rw[one (by rw[h]),h];exact SeqAt.EqAt.same _
  ·exact SeqAt.EqAt.of_refs h Z
 clear Z one;have k1:=U_4 I O r1 w1;have k2:=U_4 I Y r2 w2;cases k1 with
 |non=>cases k2;exact SeqAt.EqAt.same _;exact SeqAt.EqAt.none_bool _;exact SeqAt.EqAt.none_int _ _;exact SeqAt.EqAt.none_str _ _;exact SeqAt.EqAt.none_tuple ‹_› J;exact SeqAt.EqAt.none_list ‹_› J
 |bl=>cases k2;exact SeqAt.EqAt.bool_none _;exact SeqAt.EqAt.bool_bool _ _;exact SeqAt.EqAt.bool_int _ _ _;exact SeqAt.EqAt.bool_str _ _ _;exact SeqAt.EqAt.bool_tuple _ ‹_› J;exact SeqAt.EqAt.bool_list _ ‹_› J
 |int=>cases k2;exact SeqAt.EqAt.int_none _ _;exact SeqAt.EqAt.int_bool _ _ _;exact SeqAt.EqAt.int_int _ _ _ _;exact SeqAt.EqAt.int_str _ _ _ _;exact SeqAt.EqAt.int_tuple _ _ ‹_› J;exact SeqAt.EqAt.int_list _ _ ‹_› J
 |str=>cases k2;exact SeqAt.EqAt.str_none _ _;exact SeqAt.EqAt.str_bool _ _ _;exact SeqAt.EqAt.str_int _ _ _ _;exact SeqAt.EqAt.str_str _ _ _ _;exact SeqAt.EqAt.str_tuple _ _ ‹_› J;exact SeqAt.EqAt.str_list _ _ ‹_› J
 |tup s1 q1 aa q=>cases k2;exact SeqAt.EqAt.tuple_none q J;exact SeqAt.EqAt.tuple_bool _ q J;exact SeqAt.EqAt.tuple_int _ _ q J;exact SeqAt.EqAt.tuple_str _ _ q J;exact rf _ _ rfl rfl rfl rfl;exact rf _ _ rfl rfl rfl rfl
 |lst s1 q1 aa q=>cases k2;exact SeqAt.EqAt.list_none q J;exact SeqAt.EqAt.list_bool _ q J;exact SeqAt.EqAt.list_int _ _ q J;exact SeqAt.EqAt.list_str _ _ q J;exact rf _ _ rfl rfl rfl rfl;exact rf _ _ rfl rfl rfl rfl
theorem aE6 {q:List Value} (h:j<q.toArray.size):q[j]?=some q.toArray[j]:=by
 have h':j<q.length:=by simpa using h
 simp[h']
theorem Q_0 {A:Around} (Y:EqN X H s n)  (hn:B_9 ds<=n) (ac:B_9 ds<1000) (aa:B_9 es<1000) (hA:A.in1.units+n<cLine) (q1:Reps X.K H ds vs) (q2:Reps X.K H es J) (rv:Vals vs q) (O:Vals J its')
  (j:Nat) (h1:j<q.toArray.size) (h2:j<its'.toArray.size):SeqAt.EqAt A.in1 s q.toArray[j] its'.toArray[j] (eqD (ds.getD j .non) (es.getD j .non)):=by
 have l1:=q1.length;have l2:=q2.length;have m1:=rv.length;have m2:=O.length;have k1:j<ds.length:=by rw[ze] at h1;omega
 have k2:j<es.length:=by rw[ze] at h2;omega
 have e1:ds[j]?=some ds[j]:=by simp[k1]
 have e2:es[j]?=some es[j]:=by simp[k2]
 obtain⟨v,a1,a2⟩:=q1.get e1;obtain⟨v',b1,b2⟩:=q2.get e2;obtain⟨u,c1,c2⟩:=rv.get a1;obtain⟨u',Z,d2⟩:=O.get b1;rw[aE6 h1] at c1;rw[aE6 h2] at Z;have g1:ds.getD j .non=ds[j]:=by simp[List.getD,k1]
 have g2:es.getD j .non=es[j]:=by simp[List.getD,k2]
 rw[g1,g2,Option.some.inj c1,Option.some.inj Z];exact Y A.in1 ds[j] es[j] v v' u u' (A_5 hn e1) (by have z:=A_5 (n:=999) (by omega) e1;omega) (by have z:=A_5 (n:=999) (by omega) e2;omega) hA a2 c2 b2 d2
theorem rcS (I:Inv X pins σ H s) (n:Nat) (ih:∀ m,m<n->EqN X H s m):RcN X H s n:=by
 intro A d e x y u v hn aa ac hA r1 w1 r2 w2;have J:A.units<cLine:=by omega
 have hi:=λ _=>by show A.units+1+(n-1)<cLine;omega
 have k1:=U_4 I aa r1 w1;have k2:=U_4 I ac r2 w2;clear r1 r2 w1 w2;cases k1 with
 |non=>cases k2;exact SeqAt.RcAt.none_none;exact SeqAt.RcAt.none_bool _;exact SeqAt.RcAt.none_int _ _;exact SeqAt.RcAt.none_str _ _;exact SeqAt.RcAt.none_tuple ‹_› J;exact SeqAt.RcAt.none_list ‹_› J
 |bl=>cases k2;exact SeqAt.RcAt.bool_none _;exact SeqAt.RcAt.bool_bool _ _;exact SeqAt.RcAt.bool_int _ _ _;exact SeqAt.RcAt.bool_str _ _ _;exact SeqAt.RcAt.bool_tuple _ ‹_› J;exact SeqAt.RcAt.bool_list _ ‹_› J
 |int=>cases k2;exact SeqAt.RcAt.int_none _ _;exact SeqAt.RcAt.int_bool _ _ _;exact SeqAt.RcAt.int_int _ _ _ _;exact SeqAt.RcAt.int_str _ _ _ _;exact SeqAt.RcAt.int_tuple _ _ ‹_› J;exact SeqAt.RcAt.int_list _ _ ‹_› J
 |str=>cases k2;exact SeqAt.RcAt.str_none _ _;exact SeqAt.RcAt.str_bool _ _ _;exact SeqAt.RcAt.str_int _ _ _ _;exact SeqAt.RcAt.str_str _ _ _ _;exact SeqAt.RcAt.str_tuple _ _ ‹_› J;exact SeqAt.RcAt.str_list _ _ ‹_› J
 |@tup ds p1 _ Y s1 Z O q z1 =>
  cases k2
  case tup es p2 _ its2 s2 q2 rv2 tp2 z2 =>
   rw[R_1] at hn;have z:=SeqAt.RcAt.tuples q tp2 J (Q_0 (ih (n-1) (by omega)) (by omega) (by omega) (by omega) (hi (by omega)) Z q2 O rv2);rw[ze,ze,<- O.length,<- rv2.length,<- Z.length,<- q2.length] at z;rw[eqD,u_6];exact z
  exact SeqAt.RcAt.tuple_none q J;exact SeqAt.RcAt.tuple_bool _ q J;exact SeqAt.RcAt.tuple_int _ _ q J;exact SeqAt.RcAt.tuple_str _ _ q J;exact SeqAt.RcAt.tuple_list q ‹_› J
 |@lst ds p1 _ Y s1 Z O q z1 =>
  cases k2
  case lst es p2 _ its2 s2 q2 rv2 tp2 z2 =>
   rw[R_2] at hn;have l1:Y.toArray.size=ds.length:=by rw[ze,<- O.length,<- Z.length]
   have l2:its2.toArray.size=es.length:=by rw[ze,<- rv2.length,<- q2.length]
   rw[eqD,u_6];by_cases hl:ds.length=es.length
   ·have z:=SeqAt.RcAt.lists q tp2 (by rw[l1,l2];exact hl) J (Q_0 (ih (n-1) (by omega)) (by omega) (by omega) (by omega) (hi (by omega)) Z q2 O rv2);rw[l1] at z;rw[show min ds.length es.length=ds.length by omega,show (ds.length==es.length)=true by simp[hl],Bool.and_true];exact z
   ·rw[show (ds.length==es.length)=false by simp[hl],Zu];exact SeqAt.RcAt.lists_lengths q tp2 (by rw[l1,l2];simp[hl]) J
  exact SeqAt.RcAt.list_none q J;exact SeqAt.RcAt.list_bool _ q J;exact SeqAt.RcAt.list_int _ _ q J;exact SeqAt.RcAt.list_str _ _ q J;exact SeqAt.RcAt.list_tuple q ‹_› J
theorem aB6 (I:Inv X pins σ H s) (n:Nat):EqN X H s n:=by
 induction n using Nat.strongRecOn with
 |ind n q=>exact bt3 I (rcS I n q)
theorem rcN (I:Inv X pins σ H s) (n:Nat):RcN X H s n:=rcS I n λ m _=>aB6 I m
def bP5 (K:Frag):R2:=λ x y H Q=>∃ d e,Rep K H d x/\Rep K H e y/\dpD d<=30/\dpD e<=30/\Q (.bl (eqD d e)) H
theorem bo9 (hu:X.A.units+64<cLine):OpR X (compareOp .Eq) (bP5 X.K):=by intro pins s σ H x y v u Q I J O h;obtain⟨d,e,r1,Z,hd,Y,q⟩:=h;exact rcN I 30 X.A d e x y v u hd (by omega) (by omega) (by omega) r1 J Z O X.prog X.w X.xe _ ⟨.bl _,H,I,rfl,q⟩
theorem bI4 {K:Frag}:OpD K (bP5 K) dEq:=λ c H0 H ρ σ x y d Y O Q R r1 J e q=>by
 unfold dEq at e;split at e
 ·rename_i hd;cases e;exact⟨x,y,Rep.mono R.same x r1,Rep.mono R.same y J,hd.1,hd.2,q _ H0 H (Same.refl _) R (o_5 _ _)⟩
 ·cases e
theorem cEq (q:X.A.units+64<cLine):B_1 X .Eq dEq:=⟨_,bo9 q,bI4⟩
theorem neN (I:Inv X pins σ H s) (n:Nat) (A:Around) (d e:D) (x y:V) (u v:Value) (hn:dpD d<=n) (aa:dpD d<1000) (ac:dpD e<1000) (hA:A.units+n<cLine) (r1:Rep X.K H d x) (w1:RelV x u) (r2:Rep X.K H e y) (w2:RelV y v):SeqAt.RcNeAt A s u v (!eqD d e):=by
 have J:A.units<cLine:=by omega
 have hi:=λ _=>by show A.units+1+(n-1)<cLine;omega
 have k1:=U_4 I aa r1 w1;have k2:=U_4 I ac r2 w2;clear r1 r2 w1 w2;cases k1 with
 |non=>cases k2;exact SeqAt.RcNeAt.none_none;exact SeqAt.RcNeAt.none_bool _;exact SeqAt.RcNeAt.none_int _ _;exact SeqAt.RcNeAt.none_str _ _;exact SeqAt.RcNeAt.none_tuple ‹_› J;exact SeqAt.RcNeAt.none_list ‹_› J
 |bl=>cases k2;exact SeqAt.RcNeAt.bool_none _;exact SeqAt.RcNeAt.bool_bool _ _;exact SeqAt.RcNeAt.bool_int _ _ _;exact SeqAt.RcNeAt.bool_str _ _ _;exact SeqAt.RcNeAt.bool_tuple _ ‹_› J;exact SeqAt.RcNeAt.bool_list _ ‹_› J
 |int=>cases k2;exact SeqAt.RcNeAt.int_none _ _;exact SeqAt.RcNeAt.int_bool _ _ _;exact SeqAt.RcNeAt.int_int _ _ _ _;exact SeqAt.RcNeAt.int_str _ _ _ _;exact SeqAt.RcNeAt.int_tuple _ _ ‹_› J;exact SeqAt.RcNeAt.int_list _ _ ‹_› J
 |str=>cases k2;exact SeqAt.RcNeAt.str_none _ _;exact SeqAt.RcNeAt.str_bool _ _ _;exact SeqAt.RcNeAt.str_int _ _ _ _;exact SeqAt.RcNeAt.str_str _ _ _ _;exact SeqAt.RcNeAt.str_tuple _ _ ‹_› J;exact SeqAt.RcNeAt.str_list _ _ ‹_› J
 |@tup ds p1 _ Y s1 Z O q z1 =>
  cases k2
  case tup es p2 _ its2 s2 q2 rv2 tp2 z2 =>
   rw[R_1] at hn;have z:=SeqAt.RcNeAt.tuples q tp2 J (Q_0 (aB6 I (n-1)) (by omega) (by omega) (by omega) (hi (by omega)) Z q2 O rv2);rw[ze,ze,<- O.length,<- rv2.length,<- Z.length,<- q2.length] at z;rw[eqD,u_6];exact z
  exact SeqAt.RcNeAt.tuple_none q J;exact SeqAt.RcNeAt.tuple_bool _ q J;exact SeqAt.RcNeAt.tuple_int _ _ q J;exact SeqAt.RcNeAt.tuple_str _ _ q J;exact SeqAt.RcNeAt.tuple_list q ‹_› J
 |@lst ds p1 _ Y s1 Z O q z1 =>
  cases k2
  case lst es p2 _ its2 s2 q2 rv2 tp2 z2 =>
   rw[R_2] at hn;have l1:Y.toArray.size=ds.length:=by rw[ze,<- O.length,<- Z.length]
   have l2:its2.toArray.size=es.length:=by rw[ze,<- rv2.length,<- q2.length]
   rw[eqD,u_6];by_cases hl:ds.length=es.length
   ·have z:=SeqAt.RcNeAt.lists q tp2 (by rw[l1,l2];exact hl) J (Q_0 (aB6 I (n-1)) (by omega) (by omega) (by omega) (hi (by omega)) Z q2 O rv2);rw[l1] at z;rw[show min ds.length es.length=ds.length by omega,show (ds.length==es.length)=true by simp[hl],Bool.and_true];exact z
   ·rw[show (ds.length==es.length)=false by simp[hl],Zu];exact SeqAt.RcNeAt.lists_lengths q tp2 (by rw[l1,l2];simp[hl]) J
  exact SeqAt.RcNeAt.list_none q J;exact SeqAt.RcNeAt.list_bool _ q J;exact SeqAt.RcNeAt.list_int _ _ q J;exact SeqAt.RcNeAt.list_str _ _ q J;exact SeqAt.RcNeAt.list_tuple q ‹_› J
def bP0 (K:Frag):R2:=λ x y H Q=>∃ d e,Rep K H d x/\Rep K H e y/\dpD d<=30/\dpD e<=30/\Q (.bl (!eqD d e)) H
theorem bo7 (hu:X.A.units+64<cLine):OpR X (compareOp .NotEq) (bP0 X.K):=by intro pins s σ H x y v u Q I J O h;obtain⟨d,e,r1,Z,hd,Y,q⟩:=h;exact neN I 30 X.A d e x y v u hd (by omega) (by omega) (by omega) r1 J Z O X.prog X.w X.xe _ ⟨.bl _,H,I,rfl,q⟩
theorem bH3 {K:Frag}:OpD K (bP0 K) dNe:=λ c H0 H ρ σ x y d Y O Q R r1 J e q=>by
 unfold dNe at e;split at e
 ·rename_i hd;cases e;exact⟨x,y,Rep.mono R.same x r1,Rep.mono R.same y J,hd.1,hd.2,q _ H0 H (Same.refl _) R (o_5 _ _)⟩
 ·cases e
theorem cNe (q:X.A.units+64<cLine):B_1 X .NotEq dNe:=⟨_,bo7 q,bH3⟩
end
section
variable {X:Cx}
def BOk (X:Cx) (f:Value) (g:List D->Option D):Prop:=∃ r,CallR X f r/\∀ (c:FC) (H0 H:Hp) (ρ:En) (σ:L2.St) (ds:List D) (d:D) (vs:List V) (Q:VK),RS X.K c H0 H ρ σ->Reps X.K H0 ds vs->g ds=some d->Aft X.K c H0 ρ σ d Q->r vs H Q
theorem bu4  (o:∀ (c:FC) (H0 H:Hp) (ρ:En) (σ:L2.St) (ds:List D) (d:D) (vs:List V) (Q:VK),RS X.K c H0 H ρ σ->Reps X.K H0 ds vs->g ds=some d->Aft X.K c H0 ρ σ d Q->r vs H Q)
   (h:tE X.K (eF g A) σ H Q):tCB r (tAa X.K A) σ H Q:=by
 obtain⟨c,H0,ρ,d,O,R,f,q⟩:=h;obtain⟨⟨ds,J⟩,h1,f⟩:=a_0 f;obtain⟨d',h2,f⟩:=a_0 f;have Y:=f;cases Y;exact⟨c,H0,ρ,ds,_,R,h1,λ vs H1 Hh s1 Z r1=>o c H1 Hh _ σ ds d vs Q Z r1 h2 λ v H2 Hh2 s2 R2 r2=>q v H2 Hh2 (s1.trans s2) R2 r2⟩
theorem xB {id:String} (o:BOk X (.builtin id) g) (hg:Gl X x) (O:X.mg x=none) (Y:bootBuiltins x=some (.builtin id)) (ha:XA X (e::es) A) (Z:x≠"__name__":=by decide) (J:(x==("__debug__":Str))=false:=by decide)
  (he:starEach (e::es) X.env=(false,eval e X.env)::starEach es X.env:=by rfl) (q:(backTo pos (starEach es X.env)).any (·.1)=false:=by rfl):XE X (.Call (.Name x p) (e::es) [] pos) (eF g A):=by
 obtain⟨r,h1,h2⟩:=o;exact PE.wk (n_6 h1 hg O Y ha Z J he q) λ σ H Q h=>bu4 h2 h
theorem Reps.v1 {K:Frag} (h:Reps K H [d] vs):∃ v,vs=[v]/\Rep K H d v:=by obtain⟨v,r,e,a,b⟩:=h;exact⟨v,by rw[e,b],a⟩
theorem Reps.v2 {K:Frag} (h:Reps K H [d,d'] vs):∃ v q,vs=[v,q]/\Rep K H d v/\Rep K H d' q:=by obtain⟨v,r,e,a,b⟩:=h;obtain⟨q,O,J⟩:=Reps.v1 b;exact⟨v,q,by rw[e,O],a,J⟩
theorem aN9  (h:aO0 ds=some d):∃ i,ds=[.int i]/\d=.int (if i<0 then -i else i):=by
 unfold aO0 at h;split at h
 ·cases h;exact⟨_,rfl,rfl⟩
 ·cases h
theorem H_5:BOk X (.builtin "abs") aO0:=⟨_,aN3,λ c H0 H ρ σ ds d vs Q R r e q=>by
 obtain⟨i,rfl,rfl⟩:=aN9 e;obtain⟨v,rfl,J⟩:=Reps.v1 r;subst J;exact⟨i,rfl,q _ H0 H (Same.refl _) R (f_7 _ _)⟩⟩
theorem Q_1 {K:Frag}:∀ {ds:List D}{is:List Int}{vs:List V},L_2 ds=some is->Reps K H ds vs->vs=is.map V.int
 |[],_,_,e,r=>by
  have q:=qi e;rw[r,<- q];rfl
 |d::ds,_,_,e,r=>by
  cases d with
  |int i =>
   rw[ad1] at e;obtain⟨is,e1,e2⟩:=a_0 e;cases e2;obtain⟨v,J,rfl,a,t⟩:=r;rw[a,Q_1 e1 t];rfl
  |_=>cases e
theorem intsAre_of:∀ {is:List Int}{us:List Value},Vals (is.map V.int) us->IntsAre us is:=by
 intro is;induction is with
 |nil=>intro us h;cases h;exact .nil
 |cons b r q =>
  intro us h;cases h with
  |cons a t=>obtain⟨tk,rfl⟩:=(show ∃ t,_=Value.int b t from a);exact .cons b tk (q t)
theorem W_7:∀ (r:List Int) (m:Int),(ao6 m r=m\/ao6 m r∈r)/\ao6 m r<=m/\∀ a∈r,ao6 m r<=a
 |[],m=>⟨.inl rfl,jc _,λ a h=>by cases h⟩
 |x::r,m=>by
  obtain⟨h1,h2,J⟩:=W_7 r (if x<m then x else m);rw[show ao6 m (x::r)=ao6 (if x<m then x else m) r from rfl];by_cases h:x<m
  ·rw[if_pos h] at h1 h2 J ⊢;refine⟨.inr ?_,by omega,λ a q=>?_⟩
   ·rcases h1 with e | e
    ·rw[e];exact qg
    ·exact qh _ e
   ·rcases qv q with rfl | q
    ·exact h2
    ·exact J a q
  ·rw[if_neg h] at h1 h2 J ⊢;refine⟨?_,h2,λ a q=>?_⟩
   ·rcases h1 with e | e
    ·exact .inl e
    ·exact .inr (qh _ e)
   ·rcases qv q with rfl | q
    ·omega
    ·exact J a q
theorem W_9:∀ (r:List Int) (m:Int),(ao8 m r=m\/ao8 m r∈r)/\m<=ao8 m r/\∀ a∈r,a<=ao8 m r
 |[],m=>⟨.inl rfl,jc _,λ a h=>by cases h⟩
 |x::r,m=>by
  obtain⟨h1,h2,J⟩:=W_9 r (if m<x then x else m);rw[show ao8 m (x::r)=ao8 (if m<x then x else m) r from rfl];by_cases h:m<x
  ·rw[if_pos h] at h1 h2 J ⊢;refine⟨.inr ?_,by omega,λ a q=>?_⟩
   ·rcases h1 with e | e
    ·rw[e];exact qg
    ·exact qh _ e
   ·rcases qv q with rfl | q
    ·exact h2
    ·exact J a q
  ·rw[if_neg h] at h1 h2 J ⊢;refine⟨?_,h2,λ a q=>?_⟩
   ·rcases h1 with e | e
    ·exact .inl e
    ·exact .inr (qh _ e)
   ·rcases qv q with rfl | q
    ·omega
    ·exact J a q
theorem ax9  (h:M∈i::r) (h':∀ a∈i::r,M<=a):M=ao6 i r:=by
 obtain⟨h1,h2,q⟩:=W_7 r i;have O:ao6 i r<=M:=by
  rcases qv h with rfl | h
  ·exact h2
  ·exact q _ h
 have J:M<=ao6 i r:=by
  rcases h1 with e | e
  ·rw[e];exact h' _ qg
  ·exact h' _ (qh _ e)
 omega
theorem ay4  (h:M∈i::r) (h':∀ a∈i::r,a<=M):M=ao8 i r:=by
 obtain⟨h1,h2,q⟩:=W_9 r i;have O:M<=ao8 i r:=by
  rcases qv h with rfl | h
  ·exact h2
  ·exact q _ h
 have J:ao8 i r<=M:=by
  rcases h1 with e | e
  ·rw[e];exact h' _ qg
  ·exact h' _ (qh _ e)
 omega
theorem aD2 (hc:X.calm=true):CallR X (.builtin "min") (λ xs H Q=>∃ (p:Addr) (i:Int) (r:List Int),xs=[.ref p] ∧ SqL X.K H p ((i::r).map V.int) ∧ Q (.int (ao6 i r)) H):=by
 intro pins s σ H xs us Q I r h;obtain⟨l,i,is,rfl,hl,q⟩:=h;obtain⟨u,rfl,ru⟩:=v_5 r;cases ru;obtain⟨aa,rv,pl,hz⟩:=I.list hl;have hi:=intsAre_of rv;have O:=pl.isList;obtain⟨ys,e⟩:=hi.allInts.items;have J:i::is=ys.toList.map (·.1):=by rw[<- hi.numsOf,<- nums_intItems,<- e]
 have hsz:0<ys.size:=by have Y:0<(i::is).length:=Za _;rw[J,qy,zb] at Y;exact Y
 rw[e] at O;refine min_intList (I.ok.hd hc) O hsz λ v h' tk hv hk=>?_;obtain⟨t,rfl⟩:=intItems_at hv;obtain⟨h1,h2⟩:=argBest_lt (numAt ys) (ys.size-1);refine⟨_,H,I.kept hk,?_,q⟩;have:numAt ys (argBest (λ i j=>decide (numAt ys i<numAt ys j)) (ys.size-1))=ao6 i is:=ax9 (by rw[J,numAt_eq];exact getD_mem (by rw[qy,zb];omega)) λ a Z=>by
  rw[J] at Z;obtain⟨j,hj,rfl⟩:=mem_getD Z;rw[qy,zb] at hj;rw[<- numAt_eq];exact h2 j (by omega)
 rw[this];exact⟨_,rfl⟩
theorem aD4 (hc:X.calm=true):CallR X (.builtin "max") (λ xs H Q=>∃ (p:Addr) (i:Int) (r:List Int),xs=[.ref p] ∧ SqL X.K H p ((i::r).map V.int) ∧ Q (.int (ao8 i r)) H):=by
 intro pins s σ H xs us Q I r h;obtain⟨l,i,is,rfl,hl,q⟩:=h;obtain⟨u,rfl,ru⟩:=v_5 r;cases ru;obtain⟨aa,rv,pl,hz⟩:=I.list hl;have hi:=intsAre_of rv;have O:=pl.isList;obtain⟨ys,e⟩:=hi.allInts.items;have J:i::is=ys.toList.map (·.1):=by rw[<- hi.numsOf,<- nums_intItems,<- e]
 have hsz:0<ys.size:=by have Y:0<(i::is).length:=Za _;rw[J,qy,zb] at Y;exact Y
 rw[e] at O;refine max_intList (I.ok.hd hc) O hsz λ v h' tk hv hk=>?_;obtain⟨t,rfl⟩:=intItems_at hv;obtain⟨h1,h2⟩:=argBest_gt (numAt ys) (ys.size-1);refine⟨_,H,I.kept hk,?_,q⟩;have:numAt ys (argBest (λ i j=>decide (numAt ys i > numAt ys j)) (ys.size-1))=ao8 i is:=ay4 (by rw[J,numAt_eq];exact getD_mem (by rw[qy,zb];omega)) λ a Z=>by
  rw[J] at Z;obtain⟨j,hj,rfl⟩:=mem_getD Z;rw[qy,zb] at hj;rw[<- numAt_eq];exact h2 j (by omega)
 rw[this];exact⟨_,rfl⟩
theorem CallR.or  (h:CallR X f r) (h':CallR X f q):CallR X f (λ xs H Q=>r xs H Q\/q xs H Q) :=
 λ pins s σ H xs us Q I v z=>z.elim (λ a=>h pins s σ H xs us Q I v a) (λ a=>h' pins s σ H xs us Q I v a)
theorem Z_2  (h:bg5 f is=some d):∃ i r,is=i::r/\d=.int (f i r):=by
 cases is with
 |nil=>cases h
 |cons i r=>cases h;exact⟨i,r,rfl,rfl⟩
theorem ae7 (Y:X.calm=true):BOk X (.builtin "max") bi7:=⟨_,(aD5 Y).or (aD4 Y),λ c H0 H ρ σ ds d vs Q R r e q=>by
 unfold bi7 at e;split at e
 ·cases e;obtain⟨v,Z,rfl,r1,O⟩:=Reps.v2 r;subst r1 O;exact .inl ⟨_,_,rfl,q _ H0 H (Same.refl _) R (f_7 _ _)⟩
 ·obtain⟨is,e1,e2⟩:=a_0 e;obtain⟨i,is,rfl,rfl⟩:=Z_2 e2;obtain⟨v,rfl,J⟩:=Reps.v1 r;obtain⟨p,ws,rfl,s,t⟩:=J;have:=Q_1 e1 t;subst this;exact .inr ⟨p,i,is,rfl,Same.seq R.same s,q _ H0 H (Same.refl _) R (f_7 _ _)⟩
 ·cases e⟩
theorem aD7 (Y:X.calm=true):BOk X (.builtin "min") bw2:=⟨_,(aD3 Y).or (aD2 Y),λ c H0 H ρ σ ds d vs Q R r e q=>by
 unfold bw2 at e;split at e
 ·cases e;obtain⟨v,Z,rfl,r1,O⟩:=Reps.v2 r;subst r1 O;exact .inl ⟨_,_,rfl,q _ H0 H (Same.refl _) R (f_7 _ _)⟩
 ·obtain⟨is,e1,e2⟩:=a_0 e;obtain⟨i,is,rfl,rfl⟩:=Z_2 e2;obtain⟨v,rfl,J⟩:=Reps.v1 r;obtain⟨p,ws,rfl,s,t⟩:=J;have:=Q_1 e1 t;subst this;exact .inr ⟨p,i,is,rfl,Same.seq R.same s,q _ H0 H (Same.refl _) R (f_7 _ _)⟩
 ·cases e⟩
noncomputable def tyV (d:D):Value:=match d with
 |.non=>.type "NoneType" | .bl _=>.type "bool" | .int _=>.type "int" | .str _=>.type "str" | .tup _=>.type "tuple" | .lst _=>.type "list" | .opq=>.type "dict" | .dct _ _=>.type "dict"
def spP (K:Frag) (g:List D->Option D):Sp:=λ vs H Q _=>∃ q ds d,Same q H/\Reps K q ds vs/\g ds=some d/\∀ v Hi' H',Step q H Hi' H'->Rep K Hi' d v->Q v H'
structure DefOk (P:Program) (w:World) (K:Frag) (mg:Str->Option Value) (base:Heap) (k:Nat) (x:Str) (g:List D->Option D):Prop where
 ex:∃ f fd ps,FnOk P w K mg base CX0 k f fd ps (spP K g)/\Binds K fd ps []/\keepIn K (.ref f)=true/\mg x=some (.ref f)
theorem xF {k:Nat}{x:Str}{g:List D → Option D}{A:FA}{p pos:Pos}{e:Expr}{es:List Expr} (G:DefOk X.prog X.w X.K X.mg X.base k x g) (hr:Room k X.A) (ha:XA X (e::es) A) (hg:Gl X x) (O:(x==("__debug__":Str))=false)
  (he:starEach (e::es) X.env=(false,eval e X.env)::starEach es X.env) (Z:(backTo pos (starEach es X.env)).any (·.1)=false):XE X (.Call (.Name x p) (e::es) [] pos) (eF g A):=by
 obtain⟨f,fd,ps,F,hb,hk,hm⟩:=G.ex;refine PE.wk (N_7 F hr hg hm hk hb .nil aI6 ha O he Z) λ σ H Q J=>?_;obtain⟨c,H0,ρ,d,ρ',R,z,q⟩:=J;unfold eF at z;obtain⟨⟨ds,Y⟩,h1,z⟩:=a_0 z;obtain⟨d',h2,z⟩:=a_0 z;have z':some (d',Y)=some (d,ρ'):=z;cases z';exact⟨c,H0,ρ,ds,_,R,h1,λ vs H1 Hh s1 R1 r1=>⟨H1,ds,d,R1.same,by rw[zm];exact r1,h2,λ v Hi' H' S rv=>q v Hi' H' (s1.trans S.s0) (R1.after S) rv⟩⟩
end
def z_3 (K:Frag) (J:It) (H1:Hp) (xs:List D):Prop:=∀ (H0 H:Hp) (i:Nat),Same H1 H0->Same H0 H ->
 (∀ d,xs[i]?=some d->J.go i H/\∀ x H',J.yld i H x H'->H'=H/\Rep K H0 d x)/\(xs.length<=i->J.stop i H)
theorem aa2 {K:Frag} (rd:SqL K H1 a vs) (r:Reps K H1 xs vs):z_3 K (Itl K a) H1 xs:=λ H0 H i s s'=>by
 have q:=Same.seq (s.trans s') rd;refine⟨λ d e=>?_,λ h=>⟨vs,q,by rw[<- r.length];exact h⟩⟩;obtain⟨v,e1,e2⟩:=r.get e;refine⟨⟨vs,v,q,e1⟩,λ x H' ⟨h1,h2⟩=>⟨h1,?_⟩⟩;have:=h2 vs q;rw[e1] at this;cases this;exact Rep.mono s d e2
theorem am5 {K:Frag} (rd:SqT K H1 a vs) (r:Reps K H1 xs vs):z_3 K (Itt K a) H1 xs:=λ H0 H i s s'=>by
 have q:=Same.seqT (s.trans s') rd;refine⟨λ d e=>?_,λ h=>⟨vs,q,by rw[<- r.length];exact h⟩⟩;obtain⟨v,e1,e2⟩:=r.get e;refine⟨⟨vs,v,q,e1⟩,λ x H' ⟨h1,h2⟩=>⟨h1,?_⟩⟩;have:=h2 vs q;rw[e1] at this;cases this;exact Rep.mono s d e2
theorem F_4:∀ (n:Nat) (lo:Int),(C_9 lo n).length=n
 |0,_=>rfl
 |n+1,lo=>by show (C_9 (lo+1) n).length+1=n+1;rw[F_4 n]
theorem ah2:∀ (n:Nat) (lo:Int) (i:Nat) (d:D),(C_9 lo n)[i]?=some d->d=.int (lo+i)/\i<n
 |0,lo,i,d,h=>by simp[C_9] at h
 |n+1,lo,0,d,h=>by
  simp[C_9] at h;exact⟨by rw[<- h];simp,by omega⟩
 |n+1,lo,i+1,d,h=>by
  have h':(C_9 (lo+1) n)[i]?=some d:=by simpa [C_9] using h
  obtain⟨a,b⟩:=ah2 n (lo+1) i d h';refine⟨by rw[a];congr 1;push_cast;omega,by omega⟩
theorem am7 {K:Frag} (lo:Int) (n:Nat):z_3 K (Itr lo n) H1 (C_9 lo n):=λ H0 H i s s'=>by
 refine⟨λ d e=>?_,λ h=>by rw[F_4] at h;exact h⟩;obtain⟨rfl,hi⟩:=ah2 n lo i d e;refine⟨hi,λ x H' ⟨h1,h2⟩=>⟨h1,?_⟩⟩;exact h2
def Its (z:Str):It:=⟨λ i _=>i<z.cps.size,λ i H x H'=>H'=H/\∃ c,z.cps[i]?=some c/\x=.str (chS c),λ i _=>z.cps.size<=i⟩
theorem ag0 {K:Frag} (z:Str) (t:Tok) (it:Addr) (hn:["enumerate","zip","dict_itemiterator","dict_reverseitemiterator","odict_iterator","itertools.zip_longest","itertools.pairwise"].contains n=false)
  (W:∀ A:Around,A.handled=none->Walks P w A it [it] [it] z.cps.size (SignAt z) (λ i h=>h.IsStrIter it n z t i)) (fin:∀ (A:Around) (s:Shared) (i:Nat) (Q:Option Value->Shared->Prop) (E:Value->Shared->Prop),A.handled=none->s.heap.IsStrIter it n z t i->z.cps[i]?=none->(∀ h',Heap.ExtBut it s.heap h'->Q none {s with heap:=h'})->wpAny (model P w) A (pyNext (.ref it)) Q E s)
  (aa:∀ (A:Around) (i:Nat) (s:Shared) (Q:Value->Shared->Prop) (E:Value->Shared->Prop),s.heap.IsStrIter it n z t i->Q (.ref it) s->wpAny (model P w) A (pyIter (.ref it)) Q E s) :
  Turn P w K tg (Its z) [it] it (λ i h=>h.IsStrIter it n z t i) where
 mem:=by simp
 obj:=λ i h st b q=>by
  have e:b=it:=by simpa using q
  subst e;obtain⟨o,e,c,d⟩:=st;exact⟨o,e,λ v z=>by rw[d] at z;cases z⟩
 keep:=λ i h h' st k=>let ⟨o,e,r⟩:=st;⟨o,k it (by simp) o e,r⟩
 item:=by
  intro X Z hw hK hc i pins s σ H E I Y st J;subst Z hw hK;obtain⟨f0,f1,f2,f3,f4,f5⟩:=Y it (by simp);refine (W X.A (I.ok.hd hc)).item i s _ _ J st λ v h' tk hv O kk=>?_;obtain⟨ch,u,e1,rfl⟩:=hv;have I1:Inv X pins σ H {s with heap:=h',toks:=tk}:=I.turned (λ b o q e=>kk b o (by simpa using q) e) f0 f1 f3 f4 f5;obtain⟨o,e,c,d⟩:=id O;exact⟨_,rfl,aA3 e c d hn ⟨.str (chS ch),H,I1,⟨u,rfl⟩,⟨rfl,ch,e1,rfl⟩,O,λ b q=>(Y b q).1⟩⟩
 done:=by
  intro X Z hw hK hc i pins s σ H E I Y st J;subst Z hw hK;obtain⟨f0,f1,f2,f3,f4,f5⟩:=Y it (by simp);have J:z.cps.size<=i:=J;exact fin X.A s i _ _ (I.ok.hd hc) st (by simp[J]) λ h' eb=>⟨rfl,I.turned (λ b o q e=>eb b o q e) f0 f1 f3 f4 f5⟩
 self:=λ A i s Q E st h=>aa A i s Q E st h
def bQ8 (t:TE):TI:=λ σ H R=>t σ H λ x H1=>∃ z,x=.str z/\R (Its z) H1
def iSq (K:Frag) (t:TE):TI:=λ σ H R=>br8 K t σ H R\/bQ7 K t σ H R\/bQ8 t σ H R
theorem bn2  (hl:PE X l tl):PI X tg l (bQ8 tl):=by
 intro pins s σ H R I h;refine thn (hl pins s σ H _ I h) λ v s1=>ex5 λ x H1 O r1 q1=>?_;obtain⟨z,e,q⟩:=q1;subst e;obtain⟨t,rfl⟩:=r1;have Z:∀ (o:Obj),∀ b∈[s1.heap.objs.size],FpOk X pins H1 b:=λ o b hb=>by
  have e:b=s1.heap.objs.size:=by simpa using hb
  subst e;exact O.fpOk (qj _) (O.hok.fresh (qj _))
 cases ha:z.cps.all (·<128)
 ·refine wpAny_pyIter_wide ha ?_;exact⟨s1.heap.objs.size,[s1.heap.objs.size],_,_,H1,rfl,O.kept λ b o e=>qd _ e,ag0 z t _ (by decide) (λ A J=>Walks.strWide J _ z t) (λ A s i Q E J st hx Y=>wpAny_pyNext_wide_end J st hx Y) (λ _ _ _ _ _ st h=>wpAny_pyIter_striter_wide st h),⟨_,qk _ rfl,rfl,rfl⟩,Z {cls:=.none,data:=.fields #[]},q⟩
 ·refine wpAny_pyIter_ascii ha ?_;exact⟨s1.heap.objs.size,[s1.heap.objs.size],_,_,H1,rfl,O.kept λ b o e=>qd _ e,ag0 z t _ (by decide) (λ A J=>Walks.strAscii J _ z t) (λ A s i Q E J st hx Y=>wpAny_pyNext_ascii_end J st hx Y) (λ _ _ _ _ _ st h=>wpAny_pyIter_striter_ascii st h),⟨_,qk _ rfl,rfl,rfl⟩,Z {cls:=.none,data:=.fields #[]},q⟩
theorem am6 {K:Frag} (z:Str):z_3 K (Its z) H1 (chs z):=λ H0 H i s s'=>by
 have q:(chs z).length=z.cps.size:=by unfold chs;rw[qy,zb]
 refine⟨λ d e=>?_,λ h=>by rw[q] at h;exact h⟩;have hi:i<z.cps.size:=by rw[<- q];exact (List.getElem?_eq_some_iff.mp e).1
 refine⟨hi,λ x H' ⟨h1,ch,h2,J⟩=>⟨h1,?_⟩⟩;unfold chs at e;rw[zl,je,h2] at e;have O:=qi e;subst O;exact J
theorem av6  (q:PE X l tl):PI X tg l (iSq X.K tl):=λ pins s σ H R I h=>by
 rcases h with h | h | h
 ·exact ab1 q pins s σ H R I h
 ·exact bn1 q pins s σ H R I h
 ·exact bn2 q pins s σ H R I h
theorem m_8 {K:Frag} (Z:RS K c H0 H ρ σ) (f:F ρ=some (d,q)) (hx:items d=some xs)
  (h:∀ J H1 O,Same H0 H1->RS K c H1 O q σ->z_3 K J H1 xs->R J O):iSq K (tE K F) σ H R:=by
 cases d with
 |lst ds =>
  have e:=qi hx;subst e;refine .inl ⟨c,H0,ρ,_,q,Z,f,λ v H1 O s1 Y r1=>?_⟩;obtain⟨a,vs,rfl,rd,r⟩:=r1;exact⟨a,rfl,⟨vs,Same.seq Y.same rd⟩,h _ H1 O s1 Y (aa2 rd r)⟩
 |tup ds =>
  have e:=qi hx;subst e;refine .inr (.inl ⟨c,H0,ρ,_,q,Z,f,λ v H1 O s1 Y r1=>?_⟩);obtain⟨a,vs,rfl,rd,r⟩:=r1;exact⟨a,rfl,⟨vs,Same.seqT Y.same rd⟩,h _ H1 O s1 Y (am5 rd r)⟩
 |str z =>
  have e:=qi hx;subst e;refine .inr (.inr ⟨c,H0,ρ,_,q,Z,f,λ v H1 O s1 Y r1=>?_⟩);exact⟨z,r1,h _ H1 O s1 Y (am6 z)⟩
 |_=>cases hx
theorem ak2 :∀ {js:List Nat}{fr:En},L_3 ρ js=some fr->fr.length=js.length/\∀ (k:Nat) (s:Sl),fr[k]?=some s->∃ j d,js[k]?=some j/\ρ[j]?=some (.im d)/\s=.im d
 |[],_,h=>by
  have h':=qi h;subst h';exact⟨rfl,λ k s e=>by simp at e⟩
 |j::js,_,h=>by
  rw[aA1] at h;obtain⟨s,h1,h⟩:=a_0 h;obtain⟨r,h2,h⟩:=a_0 h;cases h;obtain⟨a,b⟩:=ak2 h2;refine⟨by rw[zg,zg,a],λ k s' e=>?_⟩;cases k with
  |zero =>
   simp at e;subst e;cases z:ρ[j]? with
   |none=>rw[z] at h1;cases h1
   |some q =>
    rw[z] at h1;cases q with
    |im d=>exact⟨j,d,rfl,z,(qi h1).symm⟩
    |_=>cases h1
  |succ k =>
   obtain⟨O,d,J,Y,Z⟩:=b k s' (by simpa using e);exact⟨O,d,by simpa using J,Y,Z⟩
theorem RS.block {K:Frag} (R:RS K c H0 H ρ σ) (hf:L_3 ρ js=some fr) (Y:Rep K H0 d x):RS K ⟨H0,H,[]⟩ H0 H (.im d::fr) (some x::frv σ js):=by
 obtain⟨l,g⟩:=ak2 hf;refine⟨R.same,Same.refl _,λ b o e=>.inl e,λ b o e _=>e,λ a h=>(by cases h),?_,λ i d' e=>?_,λ i b o e=>?_,λ i j b b' o o' a e=>?_⟩
 ·rw[zg,zg,l,frv,qy]
 ·cases i with
  |zero=>simp at e;subst e;exact⟨x,rfl,Y⟩
  |succ k =>
   obtain⟨j,J,Z,x2,q⟩:=g k _ (by simpa using e);cases q;obtain⟨v,O,y2⟩:=R.im j d' x2;refine⟨v,?_,y2⟩;show (frv σ js)[k]?=some (some v);unfold frv;rw[zl,Z];show some (σ[j]?).join=some (some v);rw[O];rfl
 ·cases i with
  |zero=>simp at e
  |succ k =>
   obtain⟨j,J,_,_,q⟩:=g k _ (by simpa using e);cases q
 ·cases i with
  |zero=>simp at e
  |succ k =>
   obtain⟨j,J,_,_,q⟩:=g k _ (by simpa using e);cases q
theorem RS.step {K:Frag} (R:RS K ⟨J,q,[]⟩ H0 H ρ σ):Step J q H0 H :=
 ⟨R.init,λ b o e=>R.keep b o e (by simp),R.same,R.fresh⟩
theorem A_4 {xs:List α}{d:α} (h:xs[i]?=some d):xs.drop i=d::xs.drop (i+1):=by obtain⟨hi,e⟩:=List.getElem?_eq_some_iff.mp h;rw[<- e];exact List.drop_eq_getElem_cons hi
theorem bb8 {K:Frag} (R:RS K c H1 Hh ρ σ) (hf:L_3 ρ js=some fr) (hc:cGo T F fr xs=some out) (hz:xs.length<=sizeLine) (hy:z_3 K J H1 xs)
  (q:∀ ys H0 H,Same H1 H0->RS K c H0 H ρ σ->Reps K H0 out ys->Qf ys H):LcW js (tTt K T) (tE K F) σ Qf J Hh:=by
 refine⟨λ i m ys H=>m=xs.length-i/\i<=xs.length/\∃ H0,Same H1 H0/\RS K c H0 H ρ σ/\∃ pre rest,Reps K H0 pre ys/\pre.length<=i/\cGo T F fr (xs.drop i)=some rest/\pre++rest=out,⟨xs.length,by simp,yf _,H1,Same.refl _,R,[],out,Reps.nil_,yf _,by simpa using hc,rfl⟩,?_⟩;rintro i m ys H ⟨rfl,hi,H0,s0,R0,pre,rest,rp,lp,O,e⟩;obtain⟨y1,y2⟩:=hy H0 H i s0 R0.same;by_cases Z:i<xs.length
 ·have hd:xs[i]?=some xs[i]:=by simp[Z]
  obtain⟨go,yl⟩:=y1 _ hd;refine .inr ⟨go,by rw[<- rp.length];omega,λ x H' hx=>?_⟩;obtain⟨rfl,rx⟩:=yl x H' hx;rw[A_4 hd,am1] at O;obtain⟨⟨b,aa⟩,g1,O⟩:=a_0 O;refine⟨⟨H0,H',[]⟩,H0,_,b,aa,R0.block hf rx,g1,λ H2 Hh2 s2 R2=>?_⟩;cases b with
  |false =>
   rw[if_neg zo] at O ⊢;have S:=R2.step;exact⟨xs.length-(i+1),by omega,rfl,Z,H2,s0.trans S.s0,R0.after S,pre,rest,Reps.mono S.s0 _ rp,by omega,O,e⟩
  |true =>
   rw[if_pos rfl] at O ⊢;obtain⟨⟨z,ac⟩,g2,O⟩:=a_0 O;obtain⟨t,g3,O⟩:=a_0 O;have Y:=O;cases Y;refine⟨⟨H0,H',[]⟩,H2,aa,z,ac,R2,g2,λ v H3 Hh3 s3 R3 r3=>?_⟩;have S:=R3.step;refine⟨xs.length-(i+1),by omega,rfl,Z,H3,s0.trans S.s0,R0.after S,pre++[z],t,(Reps.mono S.s0 _ rp).app (Reps.one r3),?_,g3,?_⟩
   ·rw[zc,yn];omega
   ·rw[yt];exact e
 ·have ei:i=xs.length:=by omega
  have hn:xs.drop i=[]:=jp (by omega);rw[hn,aD9] at O;have Y:=qi O;subst Y;rw[zm] at e;subst e;exact .inl ⟨y2 (by omega),by rw[<- rp.length];omega,q ys H0 H s0 R0 rp⟩
def XTs (X:Cx) (ifs:List Expr) (T:FT):Prop:=PTs X ifs (tTt X.K T)
theorem PTs.wk  (h:PTs X e t) (w:∀ σ H Q,t' σ H Q->t σ H Q):PTs X e t':=λ pins s σ H Q I q=>h pins s σ H Q I (w σ H Q q)
theorem z_4 :XTs X [] Fx.tYes:=PTs.wk aX8 λ σ H Q J=>by
 obtain⟨c,H0,ρ,b,O,R,f,q⟩:=J;have Y:=f;cases Y;exact q H0 H (Same.refl _) R
theorem E_9  (h:XT X c T):XTs X [c] T:=aX7 h
section
variable {ifs:List Expr}
theorem aB8  (h:eLC js I T F ρ=some (d,q)):∃ z xs fr ys,I ρ=some (z,q)/\items z=some xs/\L_3 q js=some fr/\cGo T F fr xs=some ys/\xs.length<=sizeLine/\d=.lst ys:=by
 obtain⟨⟨z,Y⟩,h1,h⟩:=a_0 h;obtain⟨xs,h2,h⟩:=a_0 h;obtain⟨fr,O,h⟩:=a_0 h;obtain⟨ys,J,h⟩:=a_0 h;split at h
 ·rename_i hz;cases h;exact⟨z,xs,fr,ys,h1,h2,O,J,hz,rfl⟩
 ·cases h
theorem xlc (hc:X.calm=true) (Z:X.env.scope=sc) (B:ScB X.N sc scope x frees js) (hi:XE X iter I) (ht:∀ s H C Y,XTs (cxB X (x::frees) scope s H C Y) ifs T) (he:∀ s H C Y,XE (cxB X (x::frees) scope s H C Y) elt F)
  (hs:∀ v,foldedSetIterable iter X.env v=pure v:=by intro _;rfl):XE X (.ListComp elt [⟨.Name x px,iter,ifs,0⟩] scope pos) (eLC js I T F) :=
 PE.wk (bn9 (tt:=tTt X.K T) (te:=tE X.K F) hc Z B (av6 hi) ht he hs) λ σ H Q O=>by
  obtain⟨c,H0,ρ,d,aa,R,f,q⟩:=O;obtain⟨z,xs,fr,ys,h1,h2,h3,h4,hz,rfl⟩:=aB8 f;refine m_8 R h1 h2 λ J H1 Hh s1 R1 hy=>?_;refine bb8 R1 h3 h4 hz hy λ vs H2 Hh2 s2 R2 r2=>λ p hp=>?_;have S:=Step.alloc (o:=.lst vs) R2.same hp;refine q _ _ _ (s1.trans (s2.trans S.s0)) (R2.after S) ?_;exact⟨p,vs,rfl,.inl (.inl a_3),Reps.mono S.s0 _ r2⟩
end
def Post (K:Frag) (c:FC) (O:Ends) (H0:Hp):Res->Prop
 |.nx J=>∀ q H0' H',Same H0 H0'->RS K c H0' H' J q->O.nx q H'
 |.rt d J=>∀ v q H0' H',Same H0 H0'->RS K c H0' H' J q->Rep K H0' d v->O.rt v H'
 |.bk J=>∀ q H0' H',Same H0 H0'->RS K c H0' H' J q->O.bk q H'
 |.ct J=>∀ q H0' H',Same H0 H0'->RS K c H0' H' J q->O.ct q H'
def tS (K:Frag) (F:FS):TS:=λ q σ H=>∃ c H0 ρ r,RS K c H0 H ρ σ/\F ρ=some r/\Post K c q H0 r
def XS (X:Cx) (st:Stmt) (F:FS):Prop:=PS X st (tS X.K F)
def XSs (X:Cx) (sts:List Stmt) (F:FS):Prop:=PSs X sts (tS X.K F)
theorem Post.mono {K:Frag} (s:Same H0 H1):∀ {r:Res},Post K c J H0 r->Post K c J H1 r
 |.nx _,h=>λ q H0' H' z=>h q H0' H' (s.trans z)
 |.rt _ _,h=>λ v q H0' H' z=>h v q H0' H' (s.trans z)
 |.bk _,h=>λ q H0' H' z=>h q H0' H' (s.trans z)
 |.ct _,h=>λ q H0' H' z=>h q H0' H' (s.trans z)
theorem RS.set {K:Frag} (R:RS K c H0 H ρ σ) (i:Nat) (r:Rep K H0 d v):RS K c H0 H (ρ.set i (.im d)) (σ.set i (some v)):=by
 have hl:=R.len;have J:∀ (j:Nat) (Y:Sl),j≠i->(ρ.set i (.im d))[j]?=some Y->ρ[j]?=some Y:=λ j Y O e=>by rwa [zh (zv O)] at e
 have q:∀ (j:Nat),j≠i->(σ.set i (some v))[j]?=σ[j]?:=λ j O=>zh (zv O);have same:∀ (Y:Sl),(ρ.set i (.im d))[i]?=some Y->Y=.im d/\i<ρ.length:=λ Y e=>by
  by_cases hi:i<ρ.length
  ·rw[zi hi] at e;exact⟨(qi e).symm,hi⟩
  ·rw[ju (by rw[zy];omega)] at e;cases e
 refine⟨R.same,R.init,R.fresh,R.keep,R.apt,by rw[zy,zy,hl],λ j d' e=>?_,λ j bb o e=>?_,λ j k b1 b2 o o' a e1 e2 e3 e4=>?_⟩
 ·by_cases O:j=i
  ·subst O;obtain⟨Z,hi⟩:=same _ e;cases Z;exact⟨v,by rw[zi (by omega)],r⟩
  ·rw[q j O];exact R.im j d' (J j _ O e)
 ·by_cases O:j=i
  ·subst O;obtain⟨Z,_⟩:=same _ e;cases Z
  ·rw[q j O];exact R.ow j bb o (J j _ O e)
 ·by_cases O:j=i
  ·subst O;obtain⟨Z,_⟩:=same _ e1;cases Z
  ·by_cases hk:k=i
   ·subst hk;obtain⟨Z,_⟩:=same _ e2;cases Z
   ·rw[q j O] at e3;rw[q k hk] at e4;exact R.ne j k b1 b2 o o' a (J j _ O e1) (J k _ hk e2) e3 e4
section
variable {X:Cx}{pos:Pos}{e:Expr}{F:FE}{T:FT}{A B:FS}
theorem xsN:XSs X [] sN:=PSs.wk au8 λ Y σ H J=>by
 obtain⟨c,H0,ρ,r,R,f,q⟩:=J;have O:=f;cases O;exact q σ H0 H (Same.refl _) R
theorem xs1 {st:Stmt} (h:XS X st A):XSs X [st] A:=s_8 h
theorem xsC {st:Stmt}{rest:List Stmt} (h1:XS X st A) (h2:XSs X rest B):XSs X (st::rest) (b_7 A B):=PSs.wk (k_9 h1 h2) λ Dn σ H Y=>by
 obtain⟨c,H0,ρ,r,R,f,q⟩:=Y;obtain⟨z,h,f⟩:=a_0 f;refine⟨c,H0,ρ,z,R,h,?_⟩;cases z with
 |nx J=>exact λ Z H0' H' s R'=>⟨c,H0',J,r,R',f,q.mono s⟩
 |rt d J=>have O:=f;cases O;exact q
 |bk J=>have O:=f;cases O;exact q
 |ct J=>have O:=f;cases O;exact q
theorem i_5 (i:Nat)  (hN:X.N.Nodup) (he:XE X e F) (hi:X.N[i]?=some x:=by rfl) (hx:Loc X.env.scope x:=by first | exact Or.inl rfl | exact Or.inr rfl) (Y:swapsWith e (some (.Name x pos')) pos.line X.env=pure false:=by rfl)
  (hf:X.fn x=true\/X.env.scope.names.lookup x=some .local:=by first | exact .inl rfl | exact .inr rfl):XS X (.Assign [.Name x pos'] e pos) (d_5 i F):=PS.wk (x_7 hN hi hx he Y hf) λ Dn σ H J=>by
 obtain⟨c,H0,ρ,r,R,f,q⟩:=J;obtain⟨⟨d,O⟩,h1,f⟩:=a_0 f;have Z:=f;cases Z;exact⟨c,H0,ρ,d,O,R,h1,λ v H1 Hh s1 R1 r1=>q _ H1 Hh s1 (R1.set i r1)⟩
theorem ar4 (i:Nat) {ifs:List Expr} (hN:X.N.Nodup) (hc:X.calm=true) (ad:X.env.scope=sc) (Bk:ScB X.N sc scope x frees js) (hi:XE X iter I)
  (ht:∀ s H C Z,XTs (cxB X (x::frees) scope s H C Z) ifs T) (he:∀ s H C Z,XE (cxB X (x::frees) scope s H C Z) elt F) (aa:X.N[i]?=some y:=by rfl) (Y:X.env.scope.names.lookup y=some .local:=by rfl)
  (ac:swapsWith (.ListComp elt [⟨.Name x px,iter,ifs,0⟩] scope pos) (some (.Name y py)) spos.line X.env=pure true:=by rfl)
  (hs:∀ v,foldedSetIterable iter X.env v=pure v:=by intro _;rfl):XS X (.Assign [.Name y py] (.ListComp elt [⟨.Name x px,iter,ifs,0⟩] scope pos) spos) (d_5 i (eLC js I T F)) :=
 PS.wk (x_6 (tt:=tTt X.K T) (te:=tE X.K F) hN aa Y hc ad Bk (av6 hi) ht he ac hs) λ Dn σ H O=>by
  obtain⟨c,H0,ρ,r,R,f,q⟩:=O;obtain⟨⟨d,ae⟩,h1,f⟩:=a_0 f;have f':=f;cases f';obtain⟨z,xs,fr,ys,h0,h2,h3,h4,hz,rfl⟩:=aB8 h1;refine m_8 R h0 h2 λ J H1 Hh s1 R1 Y=>?_;refine bb8 R1 h3 h4 hz Y λ vs H2 Hh2 s2 R2 r2=>λ p hp=>?_;have S:=Step.alloc (o:=.lst vs) R2.same hp;refine q _ _ _ (s1.trans (s2.trans S.s0)) ((R2.after S).set i ?_);exact⟨p,vs,rfl,.inl (.inl a_3),Reps.mono S.s0 _ r2⟩
theorem o_0  (hc:XT X c T) (ha:XSs X a A) (Z:XSs X b B):XS X (.If c a b pos) (sIf T A B):=PS.wk (aY1 hc ha Z) λ Dn σ H O=>by
 obtain⟨c,H0,ρ,r,R,f,q⟩:=O;obtain⟨⟨k,J⟩,h1,f⟩:=a_0 f;refine⟨c,H0,ρ,k,J,R,h1,λ H1 Hh s1 Y=>?_⟩;cases k with
 |true =>
  rw[if_pos rfl] at f ⊢;exact⟨c,H1,J,r,Y,f,q.mono s1⟩
 |false =>
  rw[if_neg zo] at f ⊢;exact⟨c,H1,J,r,Y,f,q.mono s1⟩
theorem i_6 (he:XE X e F):XS X (.Return (some e) pos) (g_0 F):=PS.wk (au9 he) λ Dn σ H J=>by
 obtain⟨c,H0,ρ,r,R,f,q⟩:=J;obtain⟨⟨d,O⟩,h1,f⟩:=a_0 f;have Y:=f;cases Y;exact⟨c,H0,ρ,d,O,R,h1,λ v H1 Hh s1 Z r1=>q v σ H1 Hh s1 Z r1⟩
abbrev GD:=D->En->Option En
def tG (K:Frag) (g:GD):TG:=λ v σ H Q=>∃ c H0 ρ d J,RS K c H0 H ρ σ/\Rep K H0 d v/\g d ρ=some J/\∀ q H0' H',Same H0 H0'->RS K c H0' H' J q->Q q H'
def tGs (K:Frag) (is:List Nat):TGs:=λ vs σ H Q=>∃ c H0 ρ ds,RS K c H0 H ρ σ/\Reps K H0 ds vs/\ds.length=is.length/\∀ q H0' H',Same H0 H0'->RS K c H0' H' (x_4 is ds ρ) q->Q q H'
def XG (X:Cx) (tg:Expr) (g:GD):Prop:=PG X tg (tG X.K g)
def XGs (X:Cx) (q:List Expr) (is:List Nat):Prop:=PGs X q (tGs X.K is)
theorem xgN (i:Nat)  (Z:X.N.Nodup) (hi:X.N[i]?=some x:=by rfl) (hx:Loc X.env.scope x:=by first | exact Or.inl rfl | exact Or.inr rfl) (hf:X.fn x=true\/X.env.scope.names.lookup x=some .local:=by first | exact .inl rfl | exact .inr rfl):XG X (.Name x pos) (gN i) :=
 λ pins s σ H v u Q I rv J=>by obtain⟨c,H0,ρ,d,O,R,r,f,q⟩:=J;exact av9 Z hi hx hf pins s σ H v u Q I rv (by
  have Y:=f;cases Y;exact q _ H0 H (Same.refl _) (R.set i r))
theorem bz5:XGs X [] []:=λ pins s σ H vs us Q I O J=>by obtain⟨c,H0,ρ,ds,R,r,l,q⟩:=J;exact aY8 pins s σ H vs us Q I O (by
 have e:=List.length_eq_zero_iff.mp l;subst e;exact⟨r,q σ H0 H (Same.refl _) (by simpa [an5] using R)⟩)
theorem bh3  (h1:XG X e (gN i)) (h2:XGs X es is) (Y:(assignEach (e::es) X.env).map (·.2)=assign e X.env::(assignEach es X.env).map (·.2):=by rfl):XGs X (e::es) (i::is) :=
 λ pins s σ H vs us Q I rv J=>by obtain⟨c,H0,ρ,ds,R,r,l,q⟩:=J;exact aI3 h1 h2 Y pins s σ H vs us Q I rv (by
  cases ds with
  |nil=>simp at l
  |cons d ds =>
   obtain⟨v,vr,rfl,r1,r2⟩:=r;refine⟨v,vr,rfl,c,H0,ρ,d,_,R,r1,rfl,λ aa H1 Hh s1 Z=>?_⟩;exact⟨c,H1,_,ds,Z,Reps.mono s1 _ r2,by simpa using l,λ O H2 Hh2 s2 R2=>q O H2 Hh2 (s1.trans s2) (by simpa [aa7] using R2)⟩)
theorem B_0 {items:Array Value} (Z:X.A.handled=none) (O:s.heap.IsList l items)
  (Y:(assignEach q X.env).length=items.size) (J:(assignEach q X.env).findIdx? (·.1)=none)
  (h:∀ h',Heap.ExtBut s.heap.objs.size s.heap h'->wpAny (model X.prog X.w) X.A (assignInOrder ((assignEach q X.env).map (·.2)) items.toList) Q E {s with heap:=h'}) :
  wpAny (model X.prog X.w) X.A (assign (.Tuple q k pos) X.env (.ref l)) Q E s:=by
 rw[assign_Tuple];refine qb (Qx ?_);unfold unpack;rw[Y,J];exact qb (zw (PySem.W.kun_itemsOf Z O h))
def cc7 (K:Frag) (n:Nat) (t:TGs):TG:=λ v σ H Q=>∃ a xs,v=.ref a/\SqL K H a xs/\xs.length=n/\t xs σ H Q
theorem bn5 {es:List Expr}{k:Nat}{t:TGs}{n:Nat} (hc:X.calm=true) (h:PGs X es t)
  (hn:(assignEach es X.env).length=n) (q:(assignEach es X.env).findIdx? (·.1)=none):PG X (.Tuple es k pos) (cc7 X.K n t):=by
 intro pins s σ H v u Q I r J;obtain⟨a,xs,e1,Z,hl,J⟩:=J;subst e1;cases r;obtain⟨aa,O,Y,hz⟩:=I.list Z;refine B_0 (I.ok.hd hc) Y.isList (by simp[hn,<- hl,O.length]) q λ h' hx=>?_;have I1:Inv X pins σ H {s with heap:=h'}:=I.kept (t':=s.toks) λ b o e=>hx b o (qt (qm e)) e;exact h pins _ σ H xs _ Q I1 (by simpa using O) J
theorem xgT  (h:XGs X es is) (hc:X.calm=true:=by rfl) (hn:(assignEach es X.env).length=is.length:=by rfl) (O:(assignEach es X.env).findIdx? (·.1)=none:=by rfl):XG X (.Tuple es k pos) (gT is) :=
 λ pins s σ H v u Q I rv J=>by
  obtain⟨c,H0,ρ,d,aa,R,r,f,q⟩:=J;obtain⟨xs,h1,f⟩:=a_0 f;split at f
  ·rename_i Y;cases f;cases d with
   |tup ds =>
    refine bn4 hc h hn O pins s σ H v u Q I rv ?_;have e:=qi h1;subst e;obtain⟨a,vs,rfl,Z,r⟩:=r;exact⟨a,vs,rfl,Same.seqT R.same Z,by rw[<- r.length];exact Y,c,H0,ρ,ds,R,r,Y,q⟩
   |lst ds =>
    refine bn5 hc h hn O pins s σ H v u Q I rv ?_;have e:=qi h1;subst e;obtain⟨a,vs,rfl,Z,r⟩:=r;exact⟨a,vs,rfl,Same.seq R.same Z,by rw[<- r.length];exact Y,c,H0,ρ,ds,R,r,Y,q⟩
   |_=>cases h1
  ·cases f
theorem aT8  (hg:XG X tg (gT is)) (he:XE X e F) (hs:swapsWithSole [tg] e pos.line X.env=pure false:=by rfl) (hw:swappedStores [tg] e X.env=pure none:=by rfl)
  (h1:(assignEach [tg] X.env).map (·.2)=[assign tg X.env]:=by rfl):XS X (.Assign [tg] e pos) (bx0 is F):=PS.wk (av2 he hg hs hw h1) λ Dn σ H J=>by
 obtain⟨c,H0,ρ,r,R,f,q⟩:=J;obtain⟨⟨d,Y⟩,h1,f⟩:=a_0 f;obtain⟨O,h2,f⟩:=a_0 f;have f':=f;cases f';exact⟨c,H0,ρ,d,Y,R,h1,λ v H1 Hh s1 R1 r1=>⟨c,H1,Y,d,O,R1,r1,h2,λ Z H2 Hh2 s2 R2=>q Z H2 Hh2 (s1.trans s2) R2⟩⟩
theorem aS2 {K:Frag} (R:RS K c H1 Hh ρ σ) (hf:fGo g B xs ρ=some r) (hy:z_3 K J H1 xs) (q:Post K c Dn H1 r) :
  ∃ W:Nat->Nat->L2.St->Hp->Prop,(∃ m,W 0 m σ Hh)/\∀ i m σ H,W i m σ H ->
   (J.stop i H/\Dn.nx σ H)\/(J.go i H/\∃ N:L2.St->Hp->Prop,(∀ O H',N O H'->∃ m',m'<m/\W (i+1) m' O H')/\∀ x H',J.yld i H x H'->tG K g x σ H' λ ae H2=>tS K B {Dn with nx:=N,ct:=N,bk:=Dn.nx} ae H2):=by
 refine⟨λ i m σ H=>m=xs.length-i/\i<=xs.length/\∃ H0 ρ,Same H1 H0/\RS K c H0 H ρ σ/\fGo g B (xs.drop i) ρ=some r,⟨xs.length,by simp,yf _,H1,ρ,Same.refl _,R,by simpa using hf⟩,?_⟩;rintro i m σ H ⟨rfl,hi,H0,ρ,s0,R0,Z⟩;obtain⟨y1,y2⟩:=hy H0 H i s0 R0.same;by_cases ac:i<xs.length
 ·have hd:xs[i]?=some xs[i]:=by simp[ac]
  obtain⟨go,yl⟩:=y1 _ hd;refine .inr ⟨go,λ O H'=>∃ m',m'<xs.length-i/\m'=xs.length-(i+1)/\i+1<=xs.length/\∃ H0 ρ,Same H1 H0/\RS K c H0 H' ρ O/\fGo g B (xs.drop (i+1)) ρ=some r,λ O H' ⟨m',a,b⟩=>⟨m',a,b⟩,λ x H' hx=>?_⟩;obtain⟨rfl,rx⟩:=yl x H' hx;rw[A_4 hd,ak9] at Z;obtain⟨ad,g1,Z⟩:=a_0 Z;obtain⟨z,g2,Z⟩:=a_0 Z;refine⟨c,H0,ρ,_,ad,R0,rx,g1,λ af H2 Hh2 s2 R2=>⟨c,H2,ad,z,R2,g2,?_⟩⟩;cases z with
  |nx Y=>exact λ O H3 Hh3 s3 R3=>⟨_,by omega,rfl,ac,H3,Y,s0.trans (s2.trans s3),R3,Z⟩
  |ct Y=>exact λ O H3 Hh3 s3 R3=>⟨_,by omega,rfl,ac,H3,Y,s0.trans (s2.trans s3),R3,Z⟩
  |bk Y =>
   have aa:=Z;cases aa;exact λ O H3 Hh3 s3 R3=>q O H3 Hh3 (s0.trans (s2.trans s3)) R3
  |rt d Y =>
   have aa:=Z;cases aa;exact λ v O H3 Hh3 s3 R3 r3=>q v O H3 Hh3 (s0.trans (s2.trans s3)) R3 r3
 ·have hn:xs.drop i=[]:=jp (by omega);rw[hn,aB1] at Z;have aa:=Z;cases aa;exact .inl ⟨y2 (by omega),q σ H0 H s0 R0⟩
theorem bz7  (hg:XG X tg g) (hi:XE X iter F) (hb:XSs X body B) (hp:PassesOwn (model X.prog X.w) X.A X.env X.xe:=by exact Yh) (hc:X.calm=true:=by rfl) (Z:∀ x,foldedSetIterable iter X.env x=pure x:=by intro _;rfl) :
  XS X (.For tg iter body [] pos) (bh4 g F B):=PS.wk (ah6 hp hc (av6 hi) hg hb Z) λ Dn σ H O=>by
 obtain⟨c,H0,ρ,r,R,f,q⟩:=O;obtain⟨⟨d,aa⟩,h1,f⟩:=a_0 f;obtain⟨xs,h2,f⟩:=a_0 f;exact m_8 R h1 h2 λ J H1 Hh s1 R1 Y=>aS2 R1 f Y (q.mono s1)
theorem T_5  (hm:X.mg "range"=none) (hg:XG X tg g) (ha:XE X a F) (hb:XSs X body B) (Y:Gl X "range":=by rfl) (hp:PassesOwn (model X.prog X.w) X.A X.env X.xe:=by exact Yh) (hc:X.calm=true:=by rfl)
  (O:starEach [a] X.env=[(false,eval a X.env)]:=by rfl) (hs:∀ x,foldedSetIterable (.Call (.Name "range" p) [a] [] pos') X.env x=pure x:=by intro _;rfl) :
  XS X (.For tg (.Call (.Name "range" p) [a] [] pos') body [] pos) (N_3 g (aH3 F) B):=PS.wk (ah6 hp hc (av7 Y hm (c_5 ha l_0 O) O) hg hb hs) λ Dn σ H J=>by
 obtain⟨c,H0,ρ,r,R,f,q⟩:=J;obtain⟨⟨xs,ac⟩,h1,f⟩:=a_0 f;obtain⟨⟨d,aa⟩,h2,h1⟩:=a_0 h1;obtain⟨j,Z,h1⟩:=a_0 h1;split at h1
 ·rename_i hj;cases h1;refine⟨c,H0,ρ,d,_,R,h2,λ v H1 Hh s1 R1 r1=>?_⟩;cases d with
  |int k =>
   have e:=qi Z;subst e;subst r1;exact⟨k,rfl,hj.1,hj.2,aS2 R1 f (am7 0 k.toNat) (q.mono s1)⟩
  |_=>cases Z
 ·cases h1
theorem aO5  (hc:XT X c T) (hb:XSs X body B) (hp:PassesOwn (model X.prog X.w) X.A X.env X.xe:=by exact Yh):XS X (.While c body [] pos) (ag8 aa T B):=PS.wk (aI0 hp hc hb) λ Dn σ H ad=>by
 obtain⟨c,H0,ρ,r,R,f,q⟩:=ad;refine⟨λ m σ H=>∃ H1 ρ,Same H0 H1/\RS X.K c H1 H ρ σ/\wGo T B m ρ=some r,⟨aa ρ,H0,ρ,Same.refl _,R,f⟩,?_⟩;rintro m ae Hh ⟨H1,af,s1,R1,Y⟩;cases m with
 |zero=>cases Y
 |succ m =>
  rw[aF4] at Y;obtain⟨⟨b,ac⟩,h1,Y⟩:=a_0 Y;refine⟨c,H1,af,b,ac,R1,h1,λ H2 Hh2 s2 R2=>?_⟩;cases b with
  |false =>
   rw[if_neg zo] at Y ⊢;have Z:=Y;cases Z;exact q ae H2 Hh2 (s1.trans s2) R2
  |true =>
   rw[if_pos rfl] at Y ⊢;obtain⟨z,h2,Y⟩:=a_0 Y;refine⟨λ J H'=>∃ m',m'<m+1/\∃ H1 ρ,Same H0 H1/\RS X.K c H1 H' ρ J/\wGo T B m' ρ=some r,λ J H' h=>h,⟨c,H2,ac,z,R2,h2,?_⟩⟩;cases z with
   |nx O=>exact λ J H3 Hh3 s3 R3=>⟨m,by omega,H3,O,s1.trans (s2.trans s3),R3,Y⟩
   |ct O=>exact λ J H3 Hh3 s3 R3=>⟨m,by omega,H3,O,s1.trans (s2.trans s3),R3,Y⟩
   |bk O =>
    have Z:=Y;cases Z;exact λ J H3 Hh3 s3 R3=>q J H3 Hh3 (s1.trans (s2.trans s3)) R3
   |rt d O =>
    have Z:=Y;cases Z;exact λ v J H3 Hh3 s3 R3 r3=>q v J H3 Hh3 (s1.trans (s2.trans s3)) R3 r3
end
theorem RS.start {K:Frag} (s:Same q H) (r:Reps K q ds vs) (O:n-vs.length=m):RS K ⟨q,H,[]⟩ q H (ds.map .im++List.replicate m .no) (vs.map some++List.replicate (n-vs.length) none):=by
 have J:=r.length;refine⟨s,Same.refl _,λ b o e=>.inl e,λ b o e _=>e,λ a h=>(by cases h),?_,λ i d e=>?_,λ i b o e=>?_,λ i j b Z o o' a e=>?_⟩
 ·rw[zc,zc,qy,qy,Ym,Ym,J,O]
 ·by_cases hi:i<ds.length
  ·rw[zq (by simpa using hi),zl] at e;cases z:ds[i]? with
   |none=>rw[z] at e;cases e
   |some d' =>
    rw[z] at e;have Y:d'=d:=by have:=qi e;injection this
    subst Y;obtain⟨v,a,b⟩:=r.get z;exact⟨v,by rw[zq (by simp;omega),zl,a];rfl,b⟩
  ·rw[yi (by simpa using Zi hi),j9] at e;split at e <;> cases e
 ·by_cases hi:i<ds.length
  ·rw[zq (by simpa using hi),zl] at e;cases z:ds[i]? with
   |none=>rw[z] at e;cases e
   |some d'=>rw[z] at e;cases e
  ·rw[yi (by simpa using Zi hi),j9] at e;split at e <;> cases e
 ·by_cases hi:i<ds.length
  ·rw[zq (by simpa using hi),zl] at e;cases z:ds[i]? with
   |none=>rw[z] at e;cases e
   |some d'=>rw[z] at e;cases e
  ·rw[yi (by simpa using Zi hi),j9] at e;split at e <;> cases e
theorem k_7 {K:Frag}{st:Stmt} (F:Fun K x qual st f fd) (S:FnScope N ps (a_2 st)) (hn:ps.length=n) (hN:N.length=n+m)
  (hb:∀ (J:Value) (A:Around) (outer:List Env) (s:Shared) (H:Hp) (E:XK),Room k (A.deeper (envOfC qual (a_2 st) s.heap.objs.size f J))->XSs (R_5 CX0 P w K mg base N qual (a_2 st) f J A outer s H E).nox (k_2 st) B) :
  FnOk P w K mg base CX0 (k+1) f fd ps (spP K (fnD n m B)):=by
 have Y:∀ {ds:List D}{d:D},fnD n m B ds=some d->ds.length=n/\∃ r,B (ds.map .im++List.replicate m .no)=some r/\bx9 r=some d:=λ {ds d} h=>by
  unfold fnD at h;split at h
  ·rename_i hl;obtain⟨r,h1,h2⟩:=a_0 h;exact⟨hl,r,h1,h2⟩
  ·cases h
 refine F.ok S (λ vs H Q E h=>?_) (λ J A outer s H vs Q E hr h=>?_)
 ·obtain⟨Hi,ds,d,_,r,e,_⟩:=h;rw[hn,<- r.length];exact (Y e).1
 ·obtain⟨Hi,ds,d,hs,r,e,q⟩:=h;obtain⟨hl,res,h1,h2⟩:=Y e;refine⟨_,hb J A outer s H E hr,⟨Hi,H,[]⟩,Hi,_,res,RS.start hs r (by rw[<- r.length];omega),h1,?_⟩;cases res with
  |nx O =>
   have e':=qi h2;subst e';exact λ Z H0' H' s0 R=>q .non H0' H' R.step (by rfl)
  |rt d' O =>
   have e':=qi h2;subst e';exact λ v Z H0' H' s0 R rv=>q v H0' H' R.step rv
  |bk O=>cases h2
  |ct O=>cases h2
end Fx
namespace Fx
open PySem
@[simp] theorem bV1:i_1 (.int i) (.int j)=some (.int (i+j)):=yI rfl
@[simp] theorem bV0:i_1 (.lst a) (.lst b)=if a.length+b.length<=sizeLine then some (.lst (a++b)) else none:=yI rfl
@[simp] theorem bU9:i_1 (.str a) (.str b)=if a.length+b.length<=sizeLine then some (.str (a++b)) else none:=yI rfl
@[simp] theorem bT6:L_5 (.int i) (.int j)=some (.int (i-j)):=yI rfl
@[simp] theorem bU2:Y_1 (.int i) (.int j)=if j_7 i j=true then some (.int (i*j)) else none:=yI rfl
@[simp] theorem bU8:aM8 (.int i) (.int j)=if z_8 j=true then some (.int (i.fdiv j)) else none:=yI rfl
@[simp] theorem bU3:i_7 (.int i) (.int j)=if j≠0 then some (.int (i.fmod j)) else none:=yI rfl
@[simp] theorem bU0:bL0 (.int i) (.int j)=if 0<=j/\j<=64/\i.natAbs<2 ^ 64 then some (.int (i ^ j.toNat)) else none:=yI rfl
@[simp] theorem bU1:aT1 (.int i)=some (.int (-i)):=yI rfl
@[simp] theorem cf1:dLt (.int i) (.int j)=some (.bl (decide (i<j))):=yI rfl
@[simp] theorem cf2:dLe (.int i) (.int j)=some (.bl (decide (i<=j))):=yI rfl
@[simp] theorem cf3:dGt (.int i) (.int j)=some (.bl (decide (j<i))):=yI rfl
@[simp] theorem ci1:dEq x y=if dpD x<=30/\dpD y<=30 then some (.bl (eqD x y)) else none:=yI rfl
@[simp] theorem ch9:dNe x y=if dpD x<=30/\dpD y<=30 then some (.bl (!eqD x y)) else none:=yI rfl
@[simp] theorem ci0:dIs x .non=some (.bl (isN x)):=yI rfl
@[simp] theorem bL1:Y_2 x .non=some (.bl (!isN x)):=yI rfl
@[simp] theorem bT5:bf8 (.bl b)=some b:=yI rfl
@[simp] theorem bT4:bf8 (.lst xs)=some (!xs.isEmpty):=yI rfl
@[simp] theorem bT3:bf8 (.tup xs)=some (!xs.isEmpty):=yI rfl
@[simp] theorem cf8:aO0 [.int i]=some (.int (i.natAbs:Int)):=Qk (λ z=>some (D.int z)) (show (if i<0 then -i else i)=(i.natAbs:Int) by split <;> omega)
@[simp] theorem cf7:bi7 [.int i,.int j]=some (.int (if j > i then j else i)):=yI rfl
@[simp] theorem cf6:bw2 [.int i,.int j]=some (.int (if j<i then j else i)):=yI rfl
def bV2 {α:Type} (x:α) (o:Option (List α)):Option (List α):=bnd o λ t=>some (x::t)
@[simp] theorem Y_4  (x:α) (t:List α):bV2 x (some t)=some (x::t):=yI rfl
def mkP (o:Option D) (ρ:En):Option (D×En):=bnd o λ d=>some (d,ρ)
@[simp] theorem ca7:mkP (some d) ρ=some (d,ρ):=yI rfl
@[simp] theorem bX8:slV ρ (some (.im d))=some (d,ρ):=yI rfl
@[simp] theorem eV_:eV i ρ=slV ρ ρ[i]?:=yI rfl
@[simp] theorem eC_:eC d ρ=some (d,ρ):=yI rfl
def e1a (op:D->Option D) (o:Option (D×En)):Option (D×En):=bnd o λ p=>bnd (op p.1) λ d=>some (d,p.2)
@[simp] theorem e1_:e1 op F ρ=e1a op (F ρ):=yI rfl
@[simp] theorem ce7:e1a op (some (x,ρ))=mkP (op x) ρ:=yI rfl
def e2b (op:D->D->Option D) (x:D) (o:Option (D×En)):Option (D×En):=bnd o λ q=>bnd (op x q.1) λ d=>some (d,q.2)
def e2a (op:D->D->Option D) (G:FE) (o:Option (D×En)):Option (D×En):=bnd o λ p=>bnd (G p.2) λ q=>bnd (op p.1 q.1) λ d=>some (d,q.2)
@[simp] theorem e2_:e2 op F G ρ=e2a op G (F ρ):=yI rfl
@[simp] theorem ce6:e2a op G (some (x,ρ))=e2b op x (G ρ):=yI rfl
@[simp] theorem ce5:e2b op x (some (y,ρ))=mkP (op x y) ρ:=yI rfl
def e3c (q:D->D->Option D) (L:FE) (y:D) (ρ:En) (o:Option D):Option (D×En):=bnd o λ z=>bnd (blB z) λ b=>if b=true then bnd (L ρ) λ r=>bnd (q y r.1) λ d=>some (d,r.2) else some (.bl false,ρ)
def e3b (op J:D->D->Option D) (L:FE) (x:D) (o:Option (D×En)):Option (D×En):=bnd o λ q=>bnd (op x q.1) λ z=>bnd (blB z) λ b=>if b=true then bnd (L q.2) λ r=>bnd (J q.1 r.1) λ d=>some (d,r.2) else some (.bl false,q.2)
def e3a (op J:D->D->Option D) (G L:FE) (o:Option (D×En)):Option (D×En):=bnd o λ p=>bnd (G p.2) λ q=>bnd (op p.1 q.1) λ z=>bnd (blB z) λ b=>if b=true then bnd (L q.2) λ r=>bnd (J q.1 r.1) λ d=>some (d,r.2) else some (.bl false,q.2)
@[simp] theorem e3_:e3 op q F G L ρ=e3a op q G L (F ρ):=yI rfl
@[simp] theorem ce4:e3a op q G L (some (x,ρ))=e3b op q L x (G ρ):=yI rfl
@[simp] theorem ce3:e3b op q L x (some (y,ρ))=e3c q L y ρ (op x y):=yI rfl
@[simp] theorem ce1:e3c q L y ρ (some (.bl true))=e2b q y (L ρ):=yI rfl
@[simp] theorem ce2:e3c q L y ρ (some (.bl false))=some (.bl false,ρ):=yI rfl
@[simp] theorem aN_:aN ρ=some ([],ρ):=yI rfl
def aCb (x:D) (o:Option (List D×En)):Option (List D×En):=bnd o λ q=>some (x::q.1,q.2)
def aCa (A:FA) (o:Option (D×En)):Option (List D×En):=bnd o λ p=>bnd (A p.2) λ q=>some (p.1::q.1,q.2)
@[simp] theorem aC_:aC F A ρ=aCa A (F ρ):=yI rfl
@[simp] theorem cg1:aCa A (some (x,ρ))=aCb x (A ρ):=yI rfl
@[simp] theorem cg0:aCb x (some (xs,ρ))=some (x::xs,ρ):=yI rfl
def bN1 (o:Option (List D×En)):Option (D×En):=bnd o λ p=>if p.1.length<=1000 then some (.tup p.1,p.2) else none
@[simp] theorem cd0:c_0 A ρ=bN1 (A ρ):=yI rfl
@[simp] theorem bN0:bN1 (some (xs,ρ))=if xs.length<=1000 then some (.tup xs,ρ) else none:=yI rfl
def bQ1 (o:Option (List D×En)):Option (D×En):=bnd o λ p=>if p.1.length<=1000 then some (.lst p.1,p.2) else none
@[simp] theorem cd2:s_3 A ρ=bQ1 (A ρ):=yI rfl
@[simp] theorem bQ0:bQ1 (some (xs,ρ))=if xs.length<=1000 then some (.lst xs,ρ) else none:=yI rfl
def eFa (g:List D->Option D) (o:Option (List D×En)):Option (D×En):=bnd o λ p=>bnd (g p.1) λ d=>some (d,p.2)
@[simp] theorem eF_:eF g A ρ=eFa g (A ρ):=yI rfl
@[simp] theorem cd9:eFa g (some (xs,ρ))=mkP (g xs) ρ:=yI rfl
@[simp] theorem oN_:oN ρ=some (none,ρ):=yI rfl
def oSa (o:Option (D×En)):Option (Option Int×En):=bnd o λ p=>bnd (bh9 p.1) λ i=>some (some i,p.2)
@[simp] theorem oS_:oS F ρ=oSa (F ρ):=yI rfl
@[simp] theorem ca3:oSa (some (.int i,ρ))=some (some i,ρ):=yI rfl
def mkB (o:Option Bool) (ρ:En):Option (Bool×En):=bnd o λ b=>some (b,ρ)
@[simp] theorem ca8:mkB (some b) ρ=some (b,ρ):=yI rfl
def tBa (o:Option (D×En)):Option (Bool×En):=bnd o λ p=>bnd (blB p.1) λ b=>some (b,p.2)
@[simp] theorem tB_:tB F ρ=tBa (F ρ):=yI rfl
@[simp] theorem bX6:tBa (some (.bl b,ρ))=some (b,ρ):=yI rfl
def tVa (o:Option (D×En)):Option (Bool×En):=bnd o λ p=>bnd (bf8 p.1) λ b=>some (b,p.2)
@[simp] theorem tV_:tV F ρ=tVa (F ρ):=yI rfl
@[simp] theorem bW6:tVa (some (x,ρ))=mkB (bf8 x) ρ:=yI rfl
def aV7 (U:FT) (o:Option (Bool×En)):Option (Bool×En):=bnd o λ p=>if p.1=true then U p.2 else some (false,p.2)
def bA9 (U:FT) (o:Option (Bool×En)):Option (Bool×En):=bnd o λ p=>if p.1=true then some (true,p.2) else U p.2
def bk6 (o:Option (Bool×En)):Option (Bool×En):=bnd o λ p=>some (!p.1,p.2)
@[simp] theorem bX7:tAnd T U ρ=aV7 U (T ρ):=yI rfl
@[simp] theorem bB8:aV7 U (some (true,ρ))=U ρ:=yI rfl
@[simp] theorem bB9:aV7 U (some (false,ρ))=some (false,ρ):=yI rfl
@[simp] theorem cg5:tOr T U ρ=bA9 U (T ρ):=yI rfl
@[simp] theorem bN3:bA9 U (some (true,ρ))=some (true,ρ):=yI rfl
@[simp] theorem bN4:bA9 U (some (false,ρ))=U ρ:=yI rfl
@[simp] theorem bX1:tNot T ρ=bk6 (T ρ):=yI rfl
@[simp] theorem bB0:bk6 (some (b,ρ))=some (!b,ρ):=yI rfl
@[simp] theorem bW5:tYes ρ=some (true,ρ):=yI rfl
def bK4 (F G:FE) (o:Option (Bool×En)):Option (D×En):=bnd o λ p=>if p.1=true then F p.2 else G p.2
@[simp] theorem cd8:eIf T F G ρ=bK4 F G (T ρ):=yI rfl
@[simp] theorem bS1:bK4 F G (some (true,ρ))=F ρ:=yI rfl
@[simp] theorem bS2:bK4 F G (some (false,ρ))=G ρ:=yI rfl
def bu5 (G:FE) (o:Option (D×En)):Option (D×En):=bnd o λ p=>bnd (blB p.1) λ b=>if b=true then G p.2 else some (.bl false,p.2)
@[simp] theorem ce0:aL9 F G ρ=bu5 G (F ρ):=yI rfl
@[simp] theorem bK8:bu5 G (some (.bl true,ρ))=G ρ:=yI rfl
def imA (o:Option Sl) (q:Option En):Option En:=bnd o λ s=>bnd q λ r=>some (s::r)
@[simp] theorem cb8:imA (some s) (some r)=some (s::r):=yI rfl
@[simp] theorem bX9:slI (some (.im d))=some (.im d):=yI rfl
@[simp] theorem bQ5:L_3 ρ []=some []:=yI rfl
@[simp] theorem bQ6:L_3 ρ (j::js)=imA (slI ρ[j]?) (L_3 ρ js):=yI rfl
def cGb (T:FT) (F:FE) (fr:En) (r:List D) (o:Option (D×En)):Option (List D):=bnd o λ q=>bnd (cGo T F fr r) λ t=>some (q.1::t)
def cGa (T:FT) (F:FE) (fr:En) (r:List D) (o:Option (Bool×En)):Option (List D):=bnd o λ p=>if p.1=true then bnd (F p.2) λ q=>bnd (cGo T F fr r) λ t=>some (q.1::t) else cGo T F fr r
@[simp] theorem cf5:cGo T F fr []=some []:=yI rfl
@[simp] theorem aE0:cGo T F fr (d::r)=cGa T F fr r (T (.im d::fr)):=yI rfl
@[simp] theorem aE2:cGa T F fr r (some (true,ρ))=cGb T F fr r (F ρ):=yI rfl
@[simp] theorem bg3:cGa T F fr r (some (false,ρ))=cGo T F fr r:=yI rfl
@[simp] theorem aE1:cGb T F fr r (some (x,ρ))=bV2 x (cGo T F fr r):=yI rfl
@[simp] theorem bI0:items (.lst xs)=some xs:=yI rfl
@[simp] theorem bH9:items (.str z)=some (chs z):=yI rfl
@[simp] theorem bH8:items (.tup xs)=some xs:=yI rfl
def bJ0 (ρ:En) (xs:List D) (o:Option (List D)):Option (D×En):=bnd o λ ys=>if xs.length<=sizeLine then some (.lst ys,ρ) else none
def bJ1 (T:FT) (F:FE) (ρ:En) (xs:List D) (o:Option En):Option (D×En):=bnd o λ fr=>bJ0 ρ xs (cGo T F fr xs)
def bJ2 (js:List Nat) (T:FT) (F:FE) (ρ:En) (o:Option (List D)):Option (D×En):=bnd o λ xs=>bJ1 T F ρ xs (L_3 ρ js)
def bS0 (js:List Nat) (T:FT) (F:FE) (o:Option (D×En)):Option (D×En):=bnd o λ p=>bJ2 js T F p.2 (items p.1)
@[simp] theorem ch6:eLC js I T F ρ=bS0 js T F (I ρ):=yI rfl
@[simp] theorem bR9:bS0 js T F (some (x,ρ))=bJ2 js T F ρ (items x):=yI rfl
@[simp] theorem bR8:bJ2 js T F ρ (some xs)=bJ1 T F ρ xs (L_3 ρ js):=yI rfl
@[simp] theorem bR7:bJ1 T F ρ xs (some fr)=bJ0 ρ xs (cGo T F fr xs):=yI rfl
@[simp] theorem bR6:bJ0 ρ xs (some ys)=if xs.length<=sizeLine then some (.lst ys,ρ) else none:=yI rfl
@[simp] theorem sN_:sN ρ=some (.nx ρ):=yI rfl
def aW8 (G:FS) (o:Option Res):Option Res:=bnd o λ r=>nxR G r
@[simp] theorem bY2:b_7 F G ρ=aW8 G (F ρ):=yI rfl
@[simp] theorem bC9:aW8 G (some (.nx ρ))=G ρ:=yI rfl
@[simp] theorem bC8:aW8 G (some (.rt d ρ))=some (.rt d ρ):=yI rfl
def bk9 (i:Nat) (o:Option (D×En)):Option Res:=bnd o λ p=>some (.nx (p.2.set i (.im p.1)))
@[simp] theorem bY1:d_5 i F ρ=bk9 i (F ρ):=yI rfl
@[simp] theorem bC7:bk9 i (some (x,ρ))=some (.nx (ρ.set i (.im x))):=yI rfl
@[simp] theorem bM9:bA6 (.lst xs)=some xs:=yI rfl
def gTa (is:List Nat) (ρ:En) (o:Option (List D)):Option En:=bnd o λ xs=>if xs.length=is.length then some (x_4 is xs ρ) else none
@[simp] theorem gT_:gT is d ρ=gTa is ρ (bA6 d):=yI rfl
@[simp] theorem cc4:gTa is ρ (some xs)=if xs.length=is.length then some (x_4 is xs ρ) else none:=yI rfl
def aW6 (o:Option En):Option Res:=bnd o λ ρ=>some (.nx ρ)
def bk8 (is:List Nat) (o:Option (D×En)):Option Res:=bnd o λ p=>aW6 (gT is p.1 p.2)
@[simp] theorem bY0:bx0 is F ρ=bk8 is (F ρ):=yI rfl
@[simp] theorem bC6:bk8 is (some (x,ρ))=aW6 (gT is x ρ):=yI rfl
@[simp] theorem bC5:aW6 (some ρ)=some (.nx ρ):=yI rfl
def bD7 (F G:FS) (o:Option (Bool×En)):Option Res:=bnd o λ p=>if p.1=true then F p.2 else G p.2
@[simp] theorem cg7:sIf T F G ρ=bD7 F G (T ρ):=yI rfl
@[simp] theorem bO0:bD7 F G (some (true,ρ))=F ρ:=yI rfl
@[simp] theorem bO1:bD7 F G (some (false,ρ))=G ρ:=yI rfl
def bl0 (o:Option (D×En)):Option Res:=bnd o λ p=>some (.rt p.1 p.2)
@[simp] theorem bY3:g_0 F ρ=bl0 (F ρ):=yI rfl
@[simp] theorem bD0:bl0 (some (x,ρ))=some (.rt x ρ):=yI rfl
def fGb (g:D->En->Option En) (B:FS) (r:List D) (o:Option Res):Option Res:=bnd o λ z=>goR (fGo g B r) z
def fGa (g:D->En->Option En) (B:FS) (r:List D) (o:Option En):Option Res:=bnd o λ q=>fGb g B r (B q)
theorem bt0 (g:D->En->Option En) (B:FS) (ρ:En):fGo g B [] ρ=some (.nx ρ):=yI rfl
theorem Q_6 (g:D->En->Option En) (B:FS) (d:D) (r:List D) (ρ:En):fGo g B (d::r) ρ=fGa g B r (g d ρ):=yI rfl
@[simp] theorem Q_7:fGa g B r (some ρ)=fGb g B r (B ρ):=yI rfl
@[simp] theorem X_7:fGb g B r (some (.nx ρ))=fGo g B r ρ:=yI rfl
@[simp] theorem aL1:fGb g B r (some (.rt d ρ))=some (.rt d ρ):=yI rfl
def aX0 (g:D->En->Option En) (B:FS) (ρ:En) (o:Option (List D)):Option Res:=bnd o λ xs=>fGo g B xs ρ
def bl5 (g:D->En->Option En) (B:FS) (o:Option (D×En)):Option Res:=bnd o λ p=>aX0 g B p.2 (items p.1)
@[simp] theorem bY8:bh4 g F B ρ=bl5 g B (F ρ):=yI rfl
@[simp] theorem bD9:bl5 g B (some (x,ρ))=aX0 g B ρ (items x):=yI rfl
@[simp] theorem bD8:aX0 g B ρ (some xs)=fGo g B xs ρ:=yI rfl
def bl8 (o:Option (D×En)):Option (List D×En):=bnd o λ p=>bnd (bh9 p.1) λ j=>if -(2 ^ 62)<=j/\j<2 ^ 62 then some (C_9 0 j.toNat,p.2) else none
@[simp] theorem bZ2:aH3 F ρ=bl8 (F ρ):=yI rfl
@[simp] theorem bF1:bl8 (some (.int j,ρ))=if -(2 ^ 62)<=j/\j<2 ^ 62 then some (C_9 0 j.toNat,ρ) else none:=yI rfl
def aP5 (g:D->En->Option En) (B:FS) (o:Option (List D×En)):Option Res:=bnd o λ p=>fGo g B p.1 p.2
@[simp] theorem bO2:N_3 g X B ρ=aP5 g B (X ρ):=yI rfl
@[simp] theorem bx5:aP5 g B (some (xs,ρ))=fGo g B xs ρ:=yI rfl
def wGb (T:FT) (B:FS) (n:Nat) (o:Option Res):Option Res:=bnd o λ z=>goR (wGo T B n) z
def wGa (T:FT) (B:FS) (n:Nat) (o:Option (Bool×En)):Option Res:=bnd o λ p=>if p.1=true then wGb T B n (B p.2) else some (.nx p.2)
theorem bj7 (T:FT) (B:FS) (n:Nat) (ρ:En):wGo T B (n+1) ρ=wGa T B n (T ρ):=yI rfl
@[simp] theorem bA3:wGa T B n (some (true,ρ))=wGb T B n (B ρ):=yI rfl
@[simp] theorem bA4:wGa T B n (some (false,ρ))=some (.nx ρ):=yI rfl
@[simp] theorem bA2:wGb T B n (some (.nx ρ))=wGo T B n ρ:=yI rfl
@[simp] theorem bC4:ag8 q T B ρ=wGo T B (q ρ) ρ:=yI rfl
def fnA (o:Option Res):Option D:=bnd o λ r=>bx9 r
@[simp] theorem cc8:fnA (some (.rt d ρ))=some d:=yI rfl
@[simp] theorem ch4:fnD n k B ds=if ds.length=n then fnA (B (ds.map .im++List.replicate k .no)) else none:=yI rfl
def bp3 (o:Option (List D×En)):Option (List D×En):=bnd o λ p=>if p.1.length<=1000 then some p else none
@[simp] theorem ca5:bh7 A ρ=bp3 (A ρ):=yI rfl
@[simp] theorem bH0:bp3 (some (xs,ρ))=if xs.length<=1000 then some (xs,ρ) else none:=yI rfl
def bl1 (i:Nat) (o:Option (List D×En)):Option Res:=bnd o λ p=>some (.nx (p.2.set i (.ow false (.lst p.1))))
@[simp] theorem bY4:at5 i A ρ=bl1 i (A ρ):=yI rfl
@[simp] theorem bD1:bl1 i (some (xs,ρ))=some (.nx (ρ.set i (.ow false (.lst xs)))):=yI rfl
@[simp] theorem ca0:owL (some (.ow false (.lst ds)))=some ds:=yI rfl
def aX2 (i:Nat) (x:D) (ρ:En) (o:Option (List D)):Option Res:=bnd o λ ds=>if ds.length<1000000 then some (.nx (ρ.set i (.ow false (.lst (ds++[x]))))) else none
def aX3 (i:Nat) (o:Option (D×En)):Option Res:=bnd o λ p=>aX2 i p.1 p.2 (owL p.2[i]?)
def bl6 (i:Nat) (F:FE) (ρ:En) (o:Option (List D)):Option Res:=bnd o λ _=>aX3 i (F ρ)
@[simp] theorem bZ0:an7 i F ρ=bl6 i F ρ (owL ρ[i]?):=yI rfl
@[simp] theorem bF0:bl6 i F ρ (some ds)=aX3 i (F ρ):=yI rfl
@[simp] theorem bE9:aX3 i (some (x,ρ))=aX2 i x ρ (owL ρ[i]?):=yI rfl
@[simp] theorem bE8:aX2 i x ρ (some ds)=if ds.length<1000000 then some (.nx (ρ.set i (.ow false (.lst (ds++[x]))))) else none:=yI rfl
def by6 (i:Nat) (ρ:En):Option Sl->En
 |some (.ow false (.lst ds))=>ρ.set i (.im (.lst ds))
 |_=>ρ
@[simp] theorem ch3:frz i ρ=by6 i ρ ρ[i]?:=by unfold frz by6;split <;> simp_all
@[simp] theorem bR0:by6 i ρ (some (.ow false (.lst ds)))=ρ.set i (.im (.lst ds)):=yI rfl
@[simp] theorem bR1:by6 i ρ (some (.im d))=ρ:=yI rfl
@[simp] theorem bY7:an6 i F ρ=F (frz i ρ):=yI rfl
end Fx
namespace Fx
open PySem PySem.Spec PyProof.Rows L2
theorem RS.heNone {K:Frag} (R:RS K c H0 H ρ σ)  (J:H p=none):c.He p=none:=by
 cases q:c.He p with
 |none=>rfl
 |some u =>
  by_cases O:p∈c.Ap
  ·exact absurd J (R.apt p O)
  ·rw[R.keep p u q O] at J;cases J
theorem RS.setOwn {K:Frag} (R:RS K c H0 H ρ σ) (i:Nat) (hp:H p=none) (r:OwOk K H0 (upd H p u) p o) :
  RS K c H0 (upd H p u) (ρ.set i (.ow false o)) (σ.set i (some (.ref p))):=by
 have hl:=R.len;have h0:=R.same.free hp;have he:=R.heNone hp;have up:∀ b v,H b=some v->(upd H p u) b=some v:=λ b v e=>by rw[b_2 (c_6 e hp)];exact e
 have O:∀ (j:Nat) (sl:Sl),j≠i->(ρ.set i (.ow false o))[j]?=some sl->ρ[j]?=some sl:=λ j sl Y e=>by rwa [zh (zv Y)] at e
 have J:∀ (j:Nat),j≠i->(σ.set i (some (V.ref p)))[j]?=σ[j]?:=λ j Y=>zh (zv Y);have same:∀ (sl:Sl),(ρ.set i (.ow false o))[i]?=some sl->sl=.ow false o/\i<ρ.length:=λ sl e=>by
  by_cases hi:i<ρ.length
  ·rw[zi hi] at e;exact⟨(qi e).symm,hi⟩
  ·rw[ju (by rw[zy];omega)] at e;cases e
 have Z:∀ (j:Nat) (b:Bool) (o:MO) (a:Addr),ρ[j]?=some (.ow b o)->σ[j]?=some (some (.ref a))->a≠p:=λ j b o a e1 e2=>by
  obtain⟨a',x,_,_,w⟩:=R.ow j b o e1;rw[x] at e2;cases e2;obtain⟨u,q⟩:=w.some;exact c_6 q hp
 refine⟨λ b u e=>up b u (R.same b u e),R.init,R.fresh,λ b o e n=>up b o (R.keep b o e n),λ a ha e=>?_,by rw[zy,zy,hl],λ j d' e=>?_,λ j bb o' e=>?_,λ j k b1 b2 o1 o2 a e1 e2 e3 e4=>?_⟩
 ·cases q:H a with
  |none=>exact R.apt a ha q
  |some v=>rw[up a v q] at e;cases e
 ·by_cases Y:j=i
  ·subst Y;obtain⟨e',_⟩:=same _ e;cases e'
  ·rw[J j Y];exact R.im j d' (O j _ Y e)
 ·by_cases Y:j=i
  ·subst Y;obtain⟨e',hi⟩:=same _ e;cases e';exact⟨p,by rw[zi (by omega)],h0,he,r⟩
  ·rw[J j Y];obtain⟨a,x,y,z,w⟩:=R.ow j bb o' (O j _ Y e);exact⟨a,x,y,z,w.step (Same.refl _) λ v q=>up a v q⟩
 ·by_cases Y:j=i
  ·by_cases hk:k=i
   ·omega
   ·subst Y;obtain⟨_,hi⟩:=same _ e1;rw[zi (by omega)] at e3;cases e3;rw[J k hk] at e4;exact absurd rfl (Z k b2 o2 _ (O k _ hk e2) e4)
  ·by_cases hk:k=i
   ·subst hk;obtain⟨_,hi⟩:=same _ e2;rw[zi (by omega)] at e4;cases e4;rw[J j Y] at e3;exact absurd rfl (Z j b1 o1 _ (O j _ Y e1) e3)
   ·rw[J j Y] at e3;rw[J k hk] at e4;exact R.ne j k b1 b2 o1 o2 a (O j _ Y e1) (O k _ hk e2) e3 e4
theorem RS.lent {K:Frag} (R:RS K c H0 H ρ σ)  (hi:ρ[i]?=some (.ow b o)) (ha:σ[i]?=some (some (.ref a)))
  (s0:Same H0 H0') (s':Same H0' H') (kp:∀ x u,H x=some u->x≠a->H' x=some u) (fr:∀ x u,H0' x=some u->H0 x=some u\/H x=none) (r:OwOk K H0' H' a o') :
  RS K c H0' H' (ρ.set i (.ow b o')) σ:=by
 obtain⟨a',x,y,z,w⟩:=R.ow i b o hi;rw[ha] at x;cases x;obtain⟨ua,qa⟩:=w.some;have il:=(List.getElem?_eq_some_iff.mp hi).1;have n0:∀ x,H0 x=none->H x≠none->H0' x=none:=λ x h1 h2=>by
  cases q:H0' x with
  |none=>rfl
  |some u =>
   rcases fr x u q with h | h
   ·rw[h1] at h;cases h
   ·exact absurd h h2
 have J:∀ (j:Nat) (Z:Sl),j≠i->(ρ.set i (.ow b o'))[j]?=some Z->ρ[j]?=some Z:=λ j Z O e=>by rwa [zh (zv O)] at e
 have same:∀ (Z:Sl),(ρ.set i (.ow b o'))[i]?=some Z->Z=.ow b o':=λ Z e=>by
  rw[zi il] at e;exact (qi e).symm
 have aa:∀ (j:Nat) (Y:Bool) (oo:MO),(ρ.set i (.ow b o'))[j]?=some (.ow Y oo)->∃ Y ac,ρ[j]?=some (.ow Y ac):=λ j Y oo e=>by
  by_cases O:j=i
  ·exact⟨b,o,by rw[O];exact hi⟩
  ·exact⟨Y,oo,J j _ O e⟩
 refine⟨s',R.init.trans s0,λ x u e=>?_,λ x u e n=>?_,λ x hx e=>?_,by rw[zy];exact R.len,λ j d' e=>?_,λ j Y oo e=>?_,λ j k b1 b2 o1 o2 x e1 e2 e3 e4=>?_⟩
 ·rcases fr x u e with h | h
  ·exact R.fresh x u h
  ·exact .inr (R.heNone h)
 ·have:x≠a:=λ h=>by
   cases b with
   |true=>exact n (h▸z)
   |false =>
    have z':=z;rw[h,z'] at e;cases e
  exact kp x u (R.keep x u e n) this
 ·by_cases h:x=a
  ·obtain⟨u,q⟩:=r.some;rw[h,q] at e;cases e
  ·cases q:H x with
   |none=>exact R.apt x hx q
   |some u=>rw[kp x u q h] at e;cases e
 ·by_cases O:j=i
  ·subst O;cases same _ e
  ·obtain⟨v,a1,a2⟩:=R.im j d' (J j _ O e);exact⟨v,a1,Rep.mono s0 _ a2⟩
 ·by_cases O:j=i
  ·subst O;cases same _ e;exact⟨a,ha,n0 a y (by rw[qa];intro h;cases h),z,r⟩
  ·have q':=J j _ O e;obtain⟨x,x1,y1,z1,w1⟩:=R.ow j Y oo q';have nx:x≠a:=λ h=>O (R.ne j i Y b oo o x q' hi x1 (by rw[h];exact ha));obtain⟨u,qu⟩:=w1.some;exact⟨x,x1,n0 x y1 (by rw[qu];intro h;cases h),z1,w1.step s0 λ v q=>kp x v q nx⟩
 ·obtain⟨_,p,e1⟩:=aa j b1 o1 e1;obtain⟨_,q,e2⟩:=aa k b2 o2 e2;exact R.ne j k _ _ p q x e1 e2 e3 e4
theorem RS.mutOwn {K:Frag} (R:RS K c H0 H ρ σ)  (hi:ρ[i]?=some (.ow b o)) (q:σ[i]?=some (some (.ref a))) (r:OwOk K H0 (upd H a u) a o') :
  RS K c H0 (upd H a u) (ρ.set i (.ow b o')) σ:=by
 obtain⟨J,x,y,z,w⟩:=R.ow i b o hi;rw[q] at x;cases x;refine R.lent hi q (Same.refl _) (λ x v e=>?_) (λ x v e n=>by rw[b_2 n];exact e) (λ x v e=>.inl e) r;have:x≠a:=λ h=>by rw[h,y] at e;cases e
 rw[b_2 this];exact R.same x v e
theorem RS.freeze {K:Frag} (R:RS K c H0 H ρ σ)  (hi:ρ[i]?=some (.ow false (.lst ds))) :
  ∃ H0',Same H0 H0'/\RS K c H0' H (ρ.set i (.im (.lst ds))) σ:=by
 obtain⟨a,x,y,z,vs,e,r⟩:=R.ow i _ _ hi;have he:=z;have il:=(List.getElem?_eq_some_iff.mp hi).1;have Z:Same H0 (upd H0 a (.lst vs)):=λ b u q=>by rw[b_2 (c_6 q y)];exact q
 have J:∀ (j:Nat) (Y:Sl),j≠i->(ρ.set i (.im (.lst ds)))[j]?=some Y->ρ[j]?=some Y:=λ j Y O e=>by rwa [zh (zv O)] at e
 have same:∀ (Y:Sl),(ρ.set i (.im (.lst ds)))[i]?=some Y->Y=.im (.lst ds):=λ Y e=>by
  rw[zi il] at e;exact (qi e).symm
 refine⟨upd H0 a (.lst vs),Z,λ b u q=>?_,R.init.trans Z,λ b u q=>?_,R.keep,R.apt,by rw[zy];exact R.len,λ j d' q=>?_,λ j bb o' q=>?_,λ j k b1 b2 o' aa b e1 e2 e3 e4=>?_⟩
 ·by_cases h:b=a
  ·subst h;rw[a_3] at q;cases q;exact e
  ·rw[b_2 h] at q;exact R.same b u q
 ·by_cases h:b=a
  ·subst h;exact .inr he
  ·rw[b_2 h] at q;exact R.fresh b u q
 ·by_cases O:j=i
  ·subst O;cases same _ q;refine⟨.ref a,x,?_⟩;exact⟨a,vs,rfl,.inl (.inl a_3),Reps.mono Z _ r⟩
  ·obtain⟨v,a1,a2⟩:=R.im j d' (J j _ O q);exact⟨v,a1,Rep.mono Z _ a2⟩
 ·by_cases O:j=i
  ·subst O;cases same _ q
  ·have q':=J j _ O q;obtain⟨b,x1,y1,z1,w1⟩:=R.ow j bb o' q';have nb:b≠a:=λ h=>O (R.ne j i bb false o' _ b q' hi x1 (by rw[h];exact x));exact⟨b,x1,by rw[b_2 nb];exact y1,z1,w1.step Z λ u q=>q⟩
 ·by_cases O:j=i
  ·subst O;cases same _ e1
  ·by_cases hk:k=i
   ·subst hk;cases same _ e2
   ·exact R.ne j k b1 b2 o' aa b (J j _ O e1) (J k _ hk e2) e3 e4
def tEo (K:Frag) (A:FA):TE:=λ σ H Q=>∃ c H0 ρ ds q,RS K c H0 H ρ σ/\A ρ=some (ds,q)/\∀ p vs H0' H',Same H0 H0'->RS K c H0' H' q σ->H' p=none->Reps K H0' ds vs->Q (.ref p) (upd H' p (.lst vs))
def XO' (X:Cx) (e:Expr) (A:FA):Prop:=PE X e (tEo X.K A)
theorem x_9  (h:owL o=some ds):o=some (.ow false (.lst ds)):=by
 unfold owL at h;split at h
 ·cases h;rfl
 ·cases h
section
theorem aU5  (h:XA X es A):XO' X (.List es pos) (bh7 A):=PE.wk (ah9 h) λ σ H Q J=>by
 obtain⟨c,H0,ρ,ds,ac,R,f,q⟩:=J;obtain⟨⟨Y,aa⟩,h1,f⟩:=a_0 f;obtain⟨O,Z⟩:=ifs f;cases Z;exact⟨c,H0,ρ,ds,_,R,h1,λ vs H1 Hh s1 R1 r1=>⟨by rw[<- r1.length];exact aV8 O,λ p hp=>q p vs H1 Hh s1 R1 hp r1⟩⟩
theorem bj2 (i:Nat)  (hN:X.N.Nodup) (he:XO' X e A) (hi:X.N[i]?=some x:=by rfl) (hx:Loc X.env.scope x:=by first | exact Or.inl rfl | exact Or.inr rfl) (Y:swapsWith e (some (.Name x pos')) pos.line X.env=pure false:=by rfl)
  (hf:X.fn x=true\/X.env.scope.names.lookup x=some .local:=by first | exact .inl rfl | exact .inr rfl):XS X (.Assign [.Name x pos'] e pos) (at5 i A):=PS.wk (x_7 hN hi hx he Y hf) λ Dn σ H J=>by
 obtain⟨c,H0,ρ,r,R,f,q⟩:=J;obtain⟨⟨ds,O⟩,h1,f⟩:=a_0 f;have Z:=f;cases Z;exact⟨c,H0,ρ,ds,O,R,h1,λ p vs H1 Hh s1 R1 hp r1=>q _ H1 _ s1 (R1.setOwn i hp ⟨vs,a_3,r1⟩)⟩
theorem aE8 (i:Nat)  (ha:XA X [e] (aC F aN)) (hN:X.N[i]?=some x:=by rfl) (hv:Vis X.env.scope x:=by first | exact Or.inl rfl | exact Or.inr (Or.inl rfl) | exact Or.inr (Or.inr rfl)) (hd:(x==("__debug__":Str))=false:=by decide)
  (ag:(x==("__classdict__":Str))=false:=by decide) (J:attributeBase (.Name x Z) "append" X.env (eval (.Name x Z) X.env)=eval (.Name x Z) X.env:=by rfl)
  (ac:((backTo Y (starEach [e] X.env)).all (λ x=>!x.1)&&(backToKw Y (keywordEach [] X.env)).all (λ x=>x.1.isSome)&&decide ([e].length+([]:List Keyword).length+(if ([]:List Keyword).isEmpty then 0 else 1)<30))=true:=by rfl)
  (O:(p2.endLine==Y.line)=true:=by rfl) (af:starEach [e] X.env=(false,eval e X.env)::starEach [] X.env:=by rfl) (ae:(backTo Y (starEach [] X.env)).any (·.1)=false:=by rfl)
  (hs:swapsWith (.Call (.Attribute (.Name x Z) "append" p2) [e] [] Y) none pos.line X.env=pure false:=by rfl) :
  XS X (.Expr (.Call (.Attribute (.Name x Z) "append" p2) [e] [] Y) pos) (an7 i F) :=
 PS.wk (av1 (bo0 PySem.F.plainAttrs_list PySem.F.slot_list_append PySem.F.type_list_append ax6 (i_4 hN hv hd ag) ha J ac O af ae) hs) λ Dn σ H aa=>by
  obtain⟨c,H0,ρ,r,R,f,q⟩:=aa;obtain⟨ai,h0,f⟩:=a_0 f;obtain⟨⟨d,ah⟩,h1,f⟩:=a_0 f;obtain⟨ds,h2,f⟩:=a_0 f;obtain⟨hl,f'⟩:=ifs f;cases f';obtain⟨a,x1,_,_,ad,y1,_⟩:=R.ow i _ _ (x_9 h0);refine⟨.ref a,x1,.inl ⟨rfl,ad,SqL.of y1⟩,c,H0,ρ,[d],ah,R,by unfold aC aN;rw[h1];rfl,λ vs H1 Hh s1 R1 r1=>?_⟩;obtain⟨v,rfl,rv⟩:=Reps.v1 r1;obtain⟨a',x2,_,_,ws,y2,z2⟩:=R1.ow i _ _ (x_9 h2);rw[x1] at x2;cases x2;refine⟨a,ws,v,rfl,rfl,y2,?_,?_⟩
  ·rw[<- z2.length];exact qr hl (by rw[Qa];decide)
  ·exact q σ H1 _ s1 (R1.mutOwn (x_9 h2) x1 ⟨_,a_3,z2.app (Reps.one rv)⟩)
theorem aO6 (i:Nat) {st:Stmt} (h:XS X st G):XS X st (an6 i G):=PS.wk h λ Dn σ H J=>by
 obtain⟨c,H0,ρ,r,R,f,q⟩:=J;unfold an6 frz at f;cases z:ρ[i]? with
 |none=>rw[z] at f;exact⟨c,H0,ρ,r,R,f,q⟩
 |some O =>
  rw[z] at f;cases O with
  |no=>exact⟨c,H0,ρ,r,R,f,q⟩
  |im d=>exact⟨c,H0,ρ,r,R,f,q⟩
  |ow b o =>
   cases b with
   |true=>exact⟨c,H0,ρ,r,R,f,q⟩
   |false =>
   cases o with
   |dic Z=>exact⟨c,H0,ρ,r,R,f,q⟩
   |lst ds =>
    obtain⟨H0',s0,Y⟩:=R.freeze z;exact⟨c,H0',_,r,Y,f,q.mono s0⟩
end
end Fx
namespace Fx
open PySem
def atS (z:Str) (i:Int):Option D:=if z.length<=sizeLine then bnd (bnd (dPl z.cps.toList.length i) λ j=>z.cps.toList[j]?) λ c=>some (.str (chS c)) else none
def b_5:D->D->Option D
 |.tup xs,.int i=>atD xs i
 |.lst xs,.int i=>atD xs i
 |.str z,.int i=>atS z i
 |_,_=>none
noncomputable def s_4:List D->Option D
 |[.lst xs]=>some (.int xs.length)
 |[.tup xs]=>some (.int xs.length)
 |[.str z]=>if z.length<=sizeLine then some (.int z.length) else none
 |_=>none
noncomputable def ad9:D->Bool
 |.opq=>false
 |.dct _ _=>false
 |.tup _=>false
 |.lst _=>false
 |_=>true
def inD (x:D) (xs:List D):Bool:=xs.any λ y=>eqD y x
def Z_9 (x:D) (xs:List D):Bool:=ad9 x&&xs.all ad9
def dIn:D->D->Option D
 |x,.tup xs=>if Z_9 x xs=true then some (.bl (inD x xs)) else none
 |x,.lst xs=>if Z_9 x xs=true then some (.bl (inD x xs)) else none
 |_,_=>none
noncomputable def bg7:List D->Option D
 |[.int i]=>some (.int i)
 |[.bl b]=>some (.int (if b then 1 else 0))
 |_=>none
noncomputable def q_1:List D->Option D
 |[.lst xs]=>some (.tup xs)
 |[.tup xs]=>some (.tup xs)
 |_=>none
noncomputable def af1:List D->Option D
 |[.lst xs]=>some (.lst xs)
 |[.tup xs]=>some (.lst xs)
 |_=>none
@[simp] theorem bU4:b_5 (.tup xs) (.int i)=atD xs i:=yI rfl
@[simp] theorem bU6:b_5 (.lst xs) (.int i)=atD xs i:=yI rfl
@[simp] theorem bU5:b_5 (.str z) (.int i)=atS z i:=yI rfl
@[simp] theorem bM1:s_4 [.lst xs]=some (.int xs.length):=yI rfl
@[simp] theorem bM0:s_4 [.str z]=if z.length<=sizeLine then some (.int z.length) else none:=yI rfl
@[simp] theorem bV5:bg7 [.bl b]=some (.int (if b then 1 else 0)):=yI rfl
@[simp] theorem bz1:q_1 [.lst xs]=some (.tup xs):=yI rfl
@[simp] theorem bL9:af1 [.lst xs]=some (.lst xs):=yI rfl
end Fx
namespace Fx
open PySem PySem.Spec PyProof.Rows L2
section
variable {K:Frag}
theorem F_5 (H:Hp) (x:Str):Rep K H (.str x) (.str x):=by rfl
theorem cb6:OpD K (rIx K) b_5:=λ c H0 H ρ σ x y d Y O Q R r1 J e q=>by
 cases y with
 |int i =>
  subst J;cases x with
  |tup ds =>
   obtain⟨p,vs,rfl,s,t⟩:=r1;obtain⟨v,e1,e2⟩:=bw3 t e;exact .inr (.inl ⟨p,vs,i,v,rfl,rfl,Same.seqT R.same s,e1,q v H0 H (Same.refl _) R e2⟩)
  |lst ds =>
   obtain⟨p,vs,rfl,s,t⟩:=r1;obtain⟨v,e1,e2⟩:=bw3 t e;exact .inl ⟨p,vs,i,v,rfl,rfl,Same.seq R.same s,e1,q v H0 H (Same.refl _) R e2⟩
  |str z =>
   subst r1;have e:atS z i=some d:=e;unfold atS at e;by_cases hz:z.length<=sizeLine
   ·rw[if_pos hz] at e;obtain⟨ch,e1,e2⟩:=a_0 e;have e2:=e2;cases e2;exact .inr (.inr ⟨z,i,ch,rfl,rfl,hz,e1,q _ H0 H (Same.refl _) R (F_5 H0 (chS ch))⟩)
   ·rw[if_neg hz] at e;cases e
  |_=>cases e
 |_=>cases x <;> cases e
theorem d_3 (q:XE X a F) (O:XE X b G) (J:T_1 b:=by intro _ _;rfl):XE X (.Subscript a b pos) (e2 b_5 F G):=PE.wk (ab2 br2 q O J) λ σ H Q h=>af9 cb6 h
theorem l_2:BOk X (.builtin "len") s_4:=⟨_,call_len_seq.or Y_5,λ c H0 H ρ σ ds d vs Q R r e q=>by
 unfold s_4 at e;split at e
 ·cases e;obtain⟨v,rfl,J⟩:=Reps.v1 r;obtain⟨p,O,rfl,s,t⟩:=J;exact .inl ⟨p,O,rfl,.inl (Same.seq R.same s),by rw[<- t.length];exact q _ H0 H (Same.refl _) R (f_7 _ _)⟩
 ·cases e;obtain⟨v,rfl,J⟩:=Reps.v1 r;obtain⟨p,O,rfl,s,t⟩:=J;exact .inl ⟨p,O,rfl,.inr (Same.seqT R.same s),by rw[<- t.length];exact q _ H0 H (Same.refl _) R (f_7 _ _)⟩
 ·rename_i z;obtain⟨hz,rfl⟩:=ifs e;obtain⟨v,rfl,J⟩:=Reps.v1 r;subst J;exact .inr ⟨z,rfl,hz,q _ H0 H (Same.refl _) R (f_7 _ _)⟩
 ·cases e⟩
theorem xTy  (o:BOk X (.type T) g) (hg:Gl X x) (O:X.mg x=none) (Y:bootBuiltins x=some (.type T)) (ha:XA X (e::es) A) (Z:x≠"__name__":=by decide) (J:(x==("__debug__":Str))=false:=by decide)
  (he:starEach (e::es) X.env=(false,eval e X.env)::starEach es X.env:=by rfl) (q:(backTo pos (starEach es X.env)).any (·.1)=false:=by rfl):XE X (.Call (.Name x p) (e::es) [] pos) (eF g A):=by
 obtain⟨r,h1,h2⟩:=o;exact PE.wk (x_8 h1 hg O Y ha Z J he q) λ σ H Q h=>bu4 h2 h
theorem S_1:BOk X (.type "int") bg7:=⟨_,aD6,λ c H0 H ρ σ ds d vs Q R r e q=>by
 unfold bg7 at e;split at e
 ·cases e;obtain⟨v,rfl,J⟩:=Reps.v1 r;subst J;exact .inl ⟨_,rfl,q _ H0 H (Same.refl _) R (f_7 _ _)⟩
 ·cases e;obtain⟨v,rfl,J⟩:=Reps.v1 r;subst J;exact .inr ⟨_,rfl,q _ H0 H (Same.refl _) R (f_7 _ _)⟩
 ·cases e⟩
theorem aN4:BOk X (.type "list") af1:=⟨_,C_0,λ c H0 H ρ σ ds d vs Q R r e q=>by
 unfold af1 at e;split at e
 ·cases e;obtain⟨v,rfl,J⟩:=Reps.v1 r;obtain⟨p,O,rfl,s,t⟩:=J;refine⟨p,O,rfl,.inl (Same.seq R.same s),λ l Y=>?_⟩;have S:=Step.alloc (o:=.lst O) R.same Y;refine q _ _ _ S.s0 (R.after S) ?_;exact⟨l,_,rfl,.inl (.inl a_3),Reps.mono S.s0 _ t⟩
 ·cases e;obtain⟨v,rfl,J⟩:=Reps.v1 r;obtain⟨p,O,rfl,s,t⟩:=J;refine⟨p,O,rfl,.inr (Same.seqT R.same s),λ l Y=>?_⟩;have S:=Step.alloc (o:=.lst O) R.same Y;refine q _ _ _ S.s0 (R.after S) ?_;exact⟨l,_,rfl,.inl (.inl a_3),Reps.mono S.s0 _ t⟩
 ·cases e⟩
theorem i_8:BOk X (.type "tuple") q_1:=⟨_,R_8,λ c H0 H ρ σ ds d vs Q R r e q=>by
 unfold q_1 at e;split at e
 ·cases e;obtain⟨v,rfl,J⟩:=Reps.v1 r;obtain⟨p,O,rfl,s,t⟩:=J;refine⟨p,O,rfl,.inl ⟨Same.seq R.same s,λ l Z=>?_⟩⟩;have S:=Step.alloc (o:=.tup O) R.same Z;refine q _ _ _ S.s0 (R.after S) ?_;exact⟨l,_,rfl,.inl (.inl a_3),Reps.mono S.s0 _ t⟩
 ·cases e;obtain⟨v,rfl,J⟩:=Reps.v1 r;have Y:=J;obtain⟨p,O,rfl,s,t⟩:=J;exact⟨p,O,rfl,.inr ⟨Same.seqT R.same s,q _ H0 H (Same.refl _) R Y⟩⟩
 ·cases e⟩
theorem E_3  (h:ad9 d=true) (r:Rep K H d v):J_5 v=true/\∀ d' q,ad9 d'=true->Rep K H d' q->eqV v q=eqD d d':=by
 cases d with
 |tup xs=>cases h
 |lst xs=>cases h
 |opq=>cases h
 |dct ks vs=>cases h
 |_ =>
  subst r;refine⟨rfl,λ d' q h' J=>?_⟩;cases d' with
  |tup xs=>cases h'
  |lst xs=>cases h'
  |opq=>cases h'
  |dct ks vs=>cases h'
  |_ =>
   subst J
   first
    |(simp[eqV];done)
    |(simp[eqV,eqD];done)
    |(simp[eqV,eqD,Zf];done)
    |(unfold eqV;simp)
theorem ak1  (hx:ad9 x=true) (r:Rep K H x v):∀ {ds:List D}{vs:List V},ds.all ad9=true->Reps K H ds vs->vs.all J_5=true/\inV v vs=inD x ds
 |[],vs,_,t=>by
  subst t;exact⟨rfl,rfl⟩
 |d::ds,vs,h,t=>by
  obtain⟨u,us,rfl,O,t2⟩:=t;rw[Zl,zn] at h;obtain⟨i1,i2⟩:=ak1 hx r h.2 t2;obtain⟨J,q⟩:=E_3 h.1 O;refine⟨by rw[Zl,J,i1];rfl,?_⟩;unfold inV inD at *;rw[Ql,Ql,q x v hx r,i2]
theorem br7  (hf:∀ x y d,f x y=some d->∃ xs,(y=.tup xs\/y=.lst xs)/\Z_9 x xs=true/\d=.bl (if J then !inD x xs else inD x xs)):OpD K (rIn K J) f:=λ c H0 H ρ σ x y d vx vy Q R r1 O e q=>by
 obtain⟨xs,Z,ok,rfl⟩:=hf x y d e;unfold Z_9 at ok;rw[zn] at ok;rcases Z with rfl | rfl
 ·obtain⟨p,Y,rfl,s,t⟩:=O;obtain⟨i1,i2⟩:=ak1 ok.1 r1 ok.2 t;exact⟨p,Y,rfl,.inr (Same.seqT R.same s),(E_3 ok.1 r1).1,i1,by rw[i2];exact q _ H0 H (Same.refl _) R (o_5 _ _)⟩
 ·obtain⟨p,Y,rfl,s,t⟩:=O;obtain⟨i1,i2⟩:=ak1 ok.1 r1 ok.2 t;exact⟨p,Y,rfl,.inl (Same.seq R.same s),(E_3 ok.1 r1).1,i1,by rw[i2];exact q _ H0 H (Same.refl _) R (o_5 _ _)⟩
end
end Fx
namespace Fx
open PySem
noncomputable def w_3 (k:Str):List (Str×D)->Option D
 |[]=>none
 |q::r=>if q.1=k then some q.2 else w_3 k r
noncomputable def an4 (k:Str) (d:D):List (Str×D)->List (Str×D)
 |[]=>[]
 |q::r=>(if q.1=k then (q.1,d) else q)::an4 k d r
noncomputable def owO:Option Sl->Option (Bool×MO)
 |some (.ow b o)=>some (b,o)
 |_=>none
noncomputable def owD:Option Sl->Option (Bool×List (Str×D))
 |some (.ow b (.dic kds))=>some (b,kds)
 |_=>none
def eDG (i:Nat) (k:Str) (ρ:En):Option (D×En):=bnd (owD ρ[i]?) λ p=>bnd (w_3 k p.2) λ d=>some (d,ρ)
def sDP (i:Nat) (k:Str) (F:FE) (ρ:En):Option Res:=bnd (F ρ) λ p=>bnd (owD p.2[i]?) λ q=>bnd (w_3 k q.2) λ _=>if q.2.length<100 then some (.nx (p.2.set i (.ow q.1 (.dic (an4 k p.1 q.2))))) else none
def eFb (i:Nat) (g:MO->List D->Option (D×MO)) (A:FA) (ρ:En):Option (D×En):=bnd (owO ρ[i]?) λ _=>bnd (A ρ) λ p=>bnd (owO p.2[i]?) λ q=>bnd (g q.2 p.1) λ z=>some (z.1,p.2.set i (.ow q.1 z.2))
def bF3:Res->Option (D×MO)
 |.rt d ρ=>bnd (owO ρ[0]?) λ q=>if q.1=true then some (d,q.2) else none
 |.nx ρ=>bnd (owO ρ[0]?) λ q=>if q.1=true then some (.non,q.2) else none
 |_=>none
def fnB (n k:Nat) (B:FS) (o:MO) (ds:List D):Option (D×MO):=if ds.length=n then bnd (B (.ow true o::(ds.map .im++List.replicate k .no))) λ r=>bF3 r else none
noncomputable def ao4:Sl->Bool
 |.ow _ _=>false
 |_=>true
def by4 (ks:List Str) (A:FA) (ρ:En):Option MO:=if ρ.all ao4=true then bnd (A ρ) λ p=>if p.1.length=ks.length/\ks.length<=15/\ks.Nodup then some (.dic (ks.zip p.1)) else none else none
def by3 (A:FS) (F:En->Option MO) (ρ:En):Option MO:=bnd (A ρ) λ r=>match r with
 |.nx q=>F q
 |_=>none
def fnN (n k:Nat) (F:En->Option MO) (ds:List D):Option MO:=if ds.length=n then F (ds.map .im++List.replicate k .no) else none
def bl3 (i:Nat) (g:List D->Option MO) (A:FA) (ρ:En):Option Res:=bnd (A ρ) λ p=>bnd (g p.1) λ o=>some (.nx (p.2.set i (.ow false o)))
@[simp] theorem bZ9:owO (some (.ow b o))=some (b,o):=yI rfl
@[simp] theorem ca1:owD (some (.ow b (.dic o)))=some (b,o):=yI rfl
def bS9 (k:Str) (ρ:En) (o:Option (Bool×List (Str×D))):Option (D×En):=bnd o λ p=>bnd (w_3 k p.2) λ d=>some (d,ρ)
@[simp] theorem ch8:eDG i k ρ=bS9 k ρ (owD ρ[i]?):=yI rfl
@[simp] theorem bS8:bS9 k ρ (some (b,q))=mkP (w_3 k q) ρ:=yI rfl
def bE2 (i:Nat) (k:Str) (d:D) (ρ:En) (b:Bool) (q:List (Str×D)) (o:Option D):Option Res:=bnd o λ _=>if q.length<100 then some (.nx (ρ.set i (.ow b (.dic (an4 k d q))))) else none
def bE3 (i:Nat) (k:Str) (d:D) (ρ:En) (o:Option (Bool×List (Str×D))):Option Res:=bnd o λ q=>bE2 i k d ρ q.1 q.2 (w_3 k q.2)
def bO7 (i:Nat) (k:Str) (o:Option (D×En)):Option Res:=bnd o λ p=>bE3 i k p.1 p.2 (owD p.2[i]?)
@[simp] theorem cg8:sDP i k F ρ=bO7 i k (F ρ):=yI rfl
@[simp] theorem bO6:bO7 i k (some (d,ρ))=bE3 i k d ρ (owD ρ[i]?):=yI rfl
@[simp] theorem bO5:bE3 i k d ρ (some (b,q))=bE2 i k d ρ b q (w_3 k q):=yI rfl
@[simp] theorem bO4:bE2 i k d ρ b q (some z)=if q.length<100 then some (.nx (ρ.set i (.ow b (.dic (an4 k d q))))) else none:=yI rfl
def bK5 (i:Nat) (ρ:En) (b:Bool) (o:Option (D×MO)):Option (D×En):=bnd o λ z=>some (z.1,ρ.set i (.ow b z.2))
def bK6 (i:Nat) (g:MO->List D->Option (D×MO)) (ds:List D) (ρ:En) (o:Option (Bool×MO)):Option (D×En):=bnd o λ q=>bK5 i ρ q.1 (g q.2 ds)
def bK7 (i:Nat) (g:MO->List D->Option (D×MO)) (o:Option (List D×En)):Option (D×En):=bnd o λ p=>bK6 i g p.1 p.2 (owO p.2[i]?)
def bS7 (i:Nat) (g:MO->List D->Option (D×MO)) (A:FA) (ρ:En) (o:Option (Bool×MO)):Option (D×En):=bnd o λ _=>bK7 i g (A ρ)
@[simp] theorem ch7:eFb i g A ρ=bS7 i g A ρ (owO ρ[i]?):=yI rfl
@[simp] theorem bS6:bS7 i g A ρ (some q)=bK7 i g (A ρ):=yI rfl
@[simp] theorem bS5:bK7 i g (some (ds,ρ))=bK6 i g ds ρ (owO ρ[i]?):=yI rfl
@[simp] theorem bS4:bK6 i g ds ρ (some (b,o))=bK5 i ρ b (g o ds):=yI rfl
@[simp] theorem bS3:bK5 i ρ b (some (d,o))=some (d,ρ.set i (.ow b o)):=yI rfl
def aW9 (i:Nat) (ρ:En) (o:Option MO):Option Res:=bnd o λ o=>some (.nx (ρ.set i (.ow false o)))
def bl2 (i:Nat) (g:List D->Option MO) (o:Option (List D×En)):Option Res:=bnd o λ p=>aW9 i p.2 (g p.1)
@[simp] theorem bY5:bl3 i g A ρ=bl2 i g (A ρ):=yI rfl
@[simp] theorem bD3:bl2 i g (some (ds,ρ))=aW9 i ρ (g ds):=yI rfl
@[simp] theorem bD2:aW9 i ρ (some o)=some (.nx (ρ.set i (.ow false o))):=yI rfl
end Fx
namespace Fx
open PySem PySem.Spec PyProof.Rows L2
def E_6 (ks:List Str) (vs:List V):List (Key×V):=(ks.map Sum.inr).zip vs
theorem w_7 (k:Str) (ks:List Str) (v:V) (vs:List V):E_6 (k::ks) (v::vs)=(Sum.inr k,v)::E_6 ks vs:=rfl
section
variable {K:Frag}
theorem af7 :∀ {J:List (Str×D)}{vs:List V},Reps K H (J.map (·.2)) vs->w_3 k J=some d->∃ v,M_5 (E_6 (J.map (·.1)) vs) (.inr k)=some v/\Rep K H d v
 |[],_,_,e=>by cases e
 |q::r,vs,t,e=>by
  rw[zd] at t;obtain⟨v,Z,rfl,Y,t2⟩:=t;rw[zd,w_7];unfold w_3 at e;by_cases O:q.1=k
  ·rw[if_pos O] at e;cases e;exact⟨v,D_5 (by rw[O]),Y⟩
  ·rw[if_neg O] at e;obtain⟨u,e1,e2⟩:=af7 t2 e;exact⟨u,by rw[w_8 λ z=>O (Zw z)];exact e1,e2⟩
theorem aQ6  (rv:Rep K H d v):∀ {O:List (Str×D)}{vs:List V},Reps K H (O.map (·.2)) vs->∃ J,(E_6 (O.map (·.1)) vs).map (λ Z=>if Z.1=Sum.inr k then (Z.1,v) else Z)=E_6 ((an4 k d O).map (·.1)) J/\Reps K H ((an4 k d O).map (·.2)) J
 |[],vs,t=>⟨[],rfl,Reps.nil_⟩
 |q::r,vs,t=>by
  rw[zd] at t;obtain⟨u,ur,rfl,t1,t2⟩:=t;obtain⟨J,e1,e2⟩:=aQ6 rv t2;unfold an4;rw[zd,w_7,zd,e1];by_cases Y:q.1=k
  ·refine⟨v::J,?_,?_⟩
   ·rw[if_pos (show (Sum.inr q.1:Key)=Sum.inr k by rw[Y]),if_pos Y];rfl
   ·rw[if_pos Y];exact Reps.cons rv e2
  ·refine⟨u::J,?_,?_⟩
   ·rw[if_neg (show ¬ (Sum.inr q.1:Key)=Sum.inr k from λ z=>Y (Zw z)),if_neg Y];rfl
   ·rw[if_neg Y];exact Reps.cons t1 e2
theorem bm7  (O:Rep K H d v) (t:Reps K H (q.map (·.2)) vs) (h:w_3 k q=some Y) :
  ∃ J,I_7 (E_6 (q.map (·.1)) vs) (.inr k) v=E_6 ((an4 k d q).map (·.1)) J/\Reps K H ((an4 k d q).map (·.2)) J:=by
 obtain⟨u,e,_⟩:=af7 t h;obtain⟨J,e1,e2⟩:=aQ6 O t;refine⟨J,?_,e2⟩;unfold I_7;rw[w_9,e,if_pos (show (some u).isSome=true from rfl)];exact e1
end
theorem aQ3  (h:owD o=some q):o=some (.ow q.1 (.dic q.2)):=by
 unfold owD at h;split at h
 ·cases h;rfl
 ·cases h
theorem B_4  (h:owO o=some q):o=some (.ow q.1 q.2):=by
 unfold owO at h;split at h
 ·cases h;rfl
 ·cases h
section
theorem xdg (i:Nat) {x k:Str}{j:Nat}{p p2:Pos} (hu:X.A.units+1<cLine) (Z:X.N[i]?=some x) (hv:Vis X.env.scope x) (hd:(x==("__debug__":Str))=false)
  (O:(x==("__classdict__":Str))=false):XE X (.Subscript (.Name x p) (.Constant (.str k) j p2) pos) (eDG i k) :=
 PE.wk (aw1 hu (i_4 Z hv hd O) V_2 (λ _ _=>rfl)) λ σ H Q J=>by
  obtain⟨c,H0,ρ,d,ρ',R,f,q⟩:=J;unfold eDG at f;obtain⟨⟨b,aa⟩,h1,f⟩:=a_0 f;obtain⟨d',h2,f⟩:=a_0 f;have f':some (d',ρ)=some (d,ρ'):=f;cases f';obtain⟨a,e1,e2,e3,ks,vs,Y,rfl,r⟩:=R.ow i b _ (aQ3 h1);obtain⟨v,w1,w2⟩:=af7 r h2;refine⟨_,e1,a,v,rfl,?_,q v H0 H (Same.refl _) R w2⟩;rw[<- w1];exact DGet.k (k:=.inr k) Y
theorem bH5  (h:n<100):n<sizeLine:=F_1 (by omega)
theorem aF1 {K:Frag}{q:List (Str×D)} (t:Reps K H (q.map (·.2)) vs):(E_6 (q.map (·.1)) vs).length=q.length:=by have J:=t.length;rw[qy] at J;unfold E_6;rw[Yj,qy,qy,<- J,Nat.min_self]
theorem xdp (i:Nat) {x k:Str}{j:Nat}{p p2 p3:Pos} (hu:X.A.units+1<cLine) (he:XE X e F) (hN:X.N[i]?=some x) (hv:Vis X.env.scope x) (hd:(x==("__debug__":Str))=false)
  (O:(x==("__classdict__":Str))=false) (hs:swapsWith e (some (.Subscript (.Name x p) (.Constant (.str k) j p2) p3)) pos.line X.env=pure false) :
  XS X (.Assign [.Subscript (.Name x p) (.Constant (.str k) j p2) p3] e pos) (sDP i k F) :=
 PS.wk (aY3 hu (i_4 hN hv hd O) V_2 he hs) λ Dn σ H J=>by
  obtain⟨c,H0,ρ,r,R,f,q⟩:=J;unfold sDP at f;obtain⟨⟨d,Y⟩,h1,f⟩:=a_0 f;obtain⟨⟨b,aa⟩,h2,f⟩:=a_0 f;obtain⟨d0,h3,f⟩:=a_0 f;obtain⟨h4,rfl⟩:=ifs f;refine⟨c,H0,ρ,d,Y,R,h1,λ v H1 Hh s1 R1 r1=>?_⟩;have z:=aQ3 h2;obtain⟨a,e1,e2,e3,ks,vs,e4,rfl,t⟩:=R1.ow i b _ z;obtain⟨Z,w1,w2⟩:=bm7 r1 t h3;refine⟨_,e1,a,_,rfl,DPut.k (k:=.inr k) e4 (by have:=aF1 t;unfold E_6 at this;rw[this];exact bH5 h4),?_⟩;exact q σ H1 _ s1 (R1.mutOwn z e1 ⟨_,Z,by rw[a_3];exact Qk (λ y=>some (HO.dK y)) w1,rfl,w2⟩)
def spB (K:Frag) (g:MO->List D->Option (D×MO)):Sp:=λ vs H Q _=>∃ q a o J ds d o',vs=.ref a::J/\Same q H/\q a=none/\OwOk K q H a o/\Reps K q ds J/\g o ds=some (d,o') /\
 ∀ v Hi' H',Same q Hi'->Same Hi' H'->(∀ b u,H b=some u->b≠a->H' b=some u)->(∀ b u,Hi' b=some u->q b=some u\/H b=none)->OwOk K Hi' H' a o'->Rep K Hi' d v->Q v H'
structure DefB (P:Program) (w:World) (K:Frag) (mg:Str->Option Value) (base:Heap) (k:Nat) (x:Str) (g:MO->List D->Option (D×MO)):Prop where
 ex:∃ f fd ps,FnOk P w K mg base CX0 k f fd ps (spB K g)/\Binds K fd ps []/\keepIn K (.ref f)=true/\mg x=some (.ref f)
theorem xFb (i:Nat)  (G:DefB X.prog X.w X.K X.mg X.base k x g) (hr:Room k X.A) (ha:XA X es A) (hN:X.N[i]?=some y:=by rfl) (hg:Gl X x:=by rfl)
  (hv:Vis X.env.scope y:=by first | exact Or.inl rfl | exact Or.inr (Or.inl rfl) | exact Or.inr (Or.inr rfl)) (Z:(x==("__debug__":Str))=false:=by decide) (hd:(y==("__debug__":Str))=false:=by decide) (ae:(y==("__classdict__":Str))=false:=by decide)
  (ad:(backTo pos (starEach es X.env)).any (·.1)=false:=by rfl):XE X (.Call (.Name x p) (.Name y py::es) [] pos) (eFb i g A):=by
 obtain⟨f,fd,ps,F,hb,hk,hm⟩:=G.ex;refine PE.wk (N_7 F hr hg hm hk hb .nil aI6 (c_5 (i_4 hN hv hd ae) ha rfl) Z rfl ad) λ σ H Q J=>?_;obtain⟨c,H0,ρ,d,aa,R,z,q⟩:=J;obtain⟨⟨b0,o0⟩,h0,z⟩:=a_0 z;obtain⟨⟨ds,Y⟩,h1,z⟩:=a_0 z;obtain⟨⟨b,o⟩,h2,z⟩:=a_0 z;obtain⟨⟨d',o'⟩,h3,z⟩:=a_0 z;have z':some (d',Y.set i (.ow b o'))=some (d,aa):=z;cases z';obtain⟨a,e1,_⟩:=R.ow i b0 o0 (B_4 h0);refine⟨_,e1,c,H0,ρ,ds,Y,R,h1,λ vs H1 Hh s1 R1 r1=>?_⟩;have y2:=B_4 h2;obtain⟨a',O,ac,af,w'⟩:=R1.ow i b o y2;rw[e1] at O;cases O;refine⟨H1,a,o,vs,ds,d,o',by rw[zm],R1.same,ac,w',r1,h3,λ v Hi' H' s2 s3 kp fr ok rv=>?_⟩;exact q v Hi' H' (s1.trans s2) (R1.lent y2 e1 s2 s3 kp fr ok) rv
end
theorem RS.startB {K:Frag} (s:Same J H) (Y:J a=none) (ok:OwOk K J H a o) (r:Reps K J ds vs) (hn:n-(vs.length+1)=m) :
  RS K ⟨J,H,[a]⟩ J H (.ow true o::(ds.map .im++List.replicate m .no)) (some (.ref a)::(vs.map some++List.replicate (n-(vs.length+1)) none)):=by
 have R:=RS.start (n:=n-1) (m:=m) s r (by omega);have O:n-1-vs.length=n-(vs.length+1):=by omega
 rw[O] at R;have q:∀ (i:Nat) (b:Bool) (o:MO),¬ (ds.map Sl.im++List.replicate m Sl.no)[i]?=some (.ow b o):=λ i b o e=>by
  by_cases hi:i<ds.length
  ·rw[zq (by simpa using hi),zl] at e;cases z:ds[i]? with
   |none=>rw[z] at e;cases e
   |some d'=>rw[z] at e;cases e
  ·rw[yi (by simpa using Zi hi),j9] at e;split at e <;> cases e
 refine⟨s,Same.refl _,λ b o e=>.inl e,λ b o e _=>e,λ b hb e=>?_,?_,λ i d e=>?_,λ i b o' e=>?_,λ i j b b' o1 o2 x e1 e2 e3 e4=>?_⟩
 ·obtain⟨u,hu⟩:=ok.some;have:b=a:=by simpa using hb
  have e:=e;rw[this,hu] at e;cases e
 ·rw[zg,zg,R.len]
 ·cases i with
  |zero=>cases e
  |succ i=>exact R.im i d e
 ·cases i with
  |zero =>
   have Z:=qi e;cases Z;exact⟨a,rfl,Y,by rw[if_pos rfl];exact List.mem_singleton.mpr rfl,ok⟩
  |succ i=>exact absurd e (q i b o')
 ·cases i with
  |zero =>
   cases j with
   |zero=>rfl
   |succ j=>exact absurd e2 (q j _ _)
  |succ i=>exact absurd e1 (q i _ _)
theorem y_9 {K:Frag}{st:Stmt} (F:Fun K x qual st f fd) (S:FnScope N ps (a_2 st)) (hn:ps.length=n+1) (hN:N.length=n+1+m)
  (hb:∀ (Z:Value) (A:Around) (outer:List Env) (s:Shared) (H:Hp) (E:XK),Room k (A.deeper (envOfC qual (a_2 st) s.heap.objs.size f Z))->XSs (R_5 CX0 P w K mg base N qual (a_2 st) f Z A outer s H E).nox (k_2 st) B) :
  FnOk P w K mg base CX0 (k+1) f fd ps (spB K (fnB n m B)):=by
 have aa:∀ {o:MO}{ds:List D}{z:D×MO},fnB n m B o ds=some z->ds.length=n/\∃ r,B (.ow true o::(ds.map .im++List.replicate m .no))=some r/\bF3 r=some z:=λ {o ds z} h=>by
  unfold fnB at h;split at h
  ·rename_i hl;obtain⟨r,h1,h2⟩:=a_0 h;exact⟨hl,r,h1,h2⟩
  ·cases h
 have fin:∀ {Hi H H0' H':Hp}{a:Addr}{o':MO}{J:En}{Y:L2.St},RS K ⟨Hi,H,[a]⟩ H0' H' J Y->J[0]?=some (.ow true o')->Same Hi H0'/\Same H0' H'/\(∀ b u,H b=some u->b≠a->H' b=some u)/\(∀ b u,H0' b=some u->Hi b=some u\/H b=none)/\OwOk K H0' H' a o' :=
  λ {Hi H H0' H' a o' J Y} R e=>by
   obtain⟨a',_,_,z,ok⟩:=R.ow 0 true o' e;rw[if_pos rfl] at z;have za:a'=a:=by simpa using z
   subst za;exact⟨R.init,R.same,λ b u h n=>R.keep b u h (by simpa using n),R.fresh,ok⟩
 refine F.ok S (λ vs H Q E h=>?_) (λ Z A outer s H vs Q E hr h=>?_)
 ·obtain⟨Hi,a,o,vr,ds,d,o',rfl,_,_,_,r,e,_⟩:=h;rw[hn,zg,<- r.length,(aa e).1]
 ·obtain⟨Hi,a,o,vr,ds,d,o',rfl,hs,h0,ok,r,e,q⟩:=h;obtain⟨hl,res,h1,h2⟩:=aa e;have ac:=r.length;have R:=RS.startB (n:=N.length) (m:=m) hs h0 ok r (by omega);refine⟨_,hb Z A outer s H E hr,⟨Hi,H,[a]⟩,Hi,_,res,R,h1,?_⟩;cases res with
  |nx J =>
   obtain⟨⟨b,oo⟩,z1,z2⟩:=a_0 (show bnd (owO J[0]?) (λ q=>if q.1=true then some (D.non,q.2) else none)=some (d,o') from h2);obtain⟨O,z3⟩:=ifs z2;cases z3;have O:=O;subst O;exact λ Y H0' H' s0 R=>let ⟨x1,x2,x3,x4,x5⟩:=fin R (B_4 z1);q .non H0' H' x1 x2 x3 x4 x5 (by rfl)
  |rt d' J =>
   obtain⟨⟨b,oo⟩,z1,z2⟩:=a_0 (show bnd (owO J[0]?) (λ q=>if q.1=true then some (d',q.2) else none)=some (d,o') from h2);obtain⟨O,z3⟩:=ifs z2;cases z3;have O:=O;subst O;exact λ v Y H0' H' s0 R rv=>let ⟨x1,x2,x3,x4,x5⟩:=fin R (B_4 z1);q v H0' H' x1 x2 x3 x4 x5 rv
  |bk J=>cases h2
  |ct J=>cases h2
def bh2 (K:Frag) (q H:Hp) (o:MO) (a:Addr) (Hi' H':Hp):Prop :=
 Same q Hi'/\Same Hi' H'/\Same H H'/\(∀ b u,Hi' b=some u->q b=some u\/H b=none)/\Hi' a=none/\H a=none/\OwOk K Hi' H' a o
def spN (K:Frag) (g:List D->Option MO):Sp:=λ vs H Q _=>∃ q ds o,Same q H/\Reps K q ds vs/\g ds=some o/\∀ a Hi' H',bh2 K q H o a Hi' H'->Q (.ref a) H'
structure DefN (P:Program) (w:World) (K:Frag) (mg:Str->Option Value) (base:Heap) (k:Nat) (x:Str) (g:List D->Option MO):Prop where
 ex:∃ f fd ps,FnOk P w K mg base CX0 k f fd ps (spN K g)/\Binds K fd ps []/\keepIn K (.ref f)=true/\mg x=some (.ref f)
theorem RS.got {K:Frag} (R:RS K c H0 H ρ σ) (i:Nat) (h:bh2 K H0 H o a H0' H'):RS K c H0' H' (ρ.set i (.ow false o)) (σ.set i (some (.ref a))):=by
 obtain⟨s0,s',s,fr,O,Z,ok⟩:=h;obtain⟨u,Y⟩:=ok.some;have R2:=R.after ⟨s0,λ b v e=>by
  have:b≠a:=λ z=>by rw[z,Z] at e;cases e
  show (if b=a then none else H' b)=some v;rw[if_neg this];exact s b v e,λ b v e=>by
  have:b≠a:=λ z=>by rw[z,O] at e;cases e
  rw[if_neg this];exact s' b v e,fr⟩
 have q:upd (λ b=>if b=a then none else H' b) a u=H':=by
  funext b;by_cases J:b=a
  ·rw[J,a_3,Y]
  ·rw[b_2 J];exact if_neg J
 have:=R2.setOwn i (if_pos rfl) (by rw[q];exact ok);rw[q] at this;exact this
section
theorem bW0 (i:Nat)  (hN:X.N.Nodup) (G:DefN X.prog X.w X.K X.mg X.base k x g) (hr:Room k X.A) (ha:XA X (e::es) A) (hi:X.N[i]?=some y:=by rfl) (hx:Loc X.env.scope y:=by first | exact Or.inl rfl | exact Or.inr rfl)
  (hs:swapsWith (.Call (.Name x p) (e::es) [] cpos) (some (.Name y pos')) pos.line X.env=pure false:=by rfl) (hf:X.fn y=true\/X.env.scope.names.lookup y=some .local:=by first | exact .inl rfl | exact .inr rfl)
  (hg:Gl X x:=by rfl) (Y:(x==("__debug__":Str))=false:=by decide) (he:starEach (e::es) X.env=(false,eval e X.env)::starEach es X.env:=by rfl) (Z:(backTo cpos (starEach es X.env)).any (·.1)=false:=by rfl) :
  XS X (.Assign [.Name y pos'] (.Call (.Name x p) (e::es) [] cpos) pos) (bl3 i g A):=by
 obtain⟨f,fd,ps,F,hb,hk,hm⟩:=G.ex;refine PS.wk (x_7 hN hi hx (N_7 F hr hg hm hk hb .nil aI6 ha Y he Z) hs hf) λ Dn σ H J=>?_;obtain⟨c,H0,ρ,r,R,f,q⟩:=J;obtain⟨⟨ds,O⟩,h1,f⟩:=a_0 f;obtain⟨o,h2,f⟩:=a_0 f;have f':=f;cases f';exact⟨c,H0,ρ,ds,O,R,h1,λ vs H1 Hh s1 R1 r1=>⟨H1,ds,o,R1.same,by rw[zm];exact r1,h2,λ a Hi' H' nw=>q _ Hi' H' (s1.trans nw.1) (R1.got i nw)⟩⟩
def tN (K:Frag) (F:En->Option MO):TS:=λ O σ H=>∃ J q H0 ρ o,RS K ⟨J,q,[]⟩ H0 H ρ σ/\F ρ=some o/\∀ a H0' H',bh2 K J q o a H0' H'->O.rt (.ref a) H'
def XN (X:Cx) (sts:List Stmt) (F:En->Option MO):Prop:=PSs X sts (tN X.K F)
theorem xnC {st:Stmt}{rest:List Stmt} (h1:PS X st (λ Dn σ H=>∃ Z Y H0 ρ r,RS X.K ⟨Z,Y,[]⟩ H0 H ρ σ/\B ρ=some r/\Post X.K ⟨Z,Y,[]⟩ Dn H0 r)) (h2:XN X rest N):XN X (st::rest) (by3 B N) :=
 PSs.wk (k_9 h1 h2) λ Dn σ H O=>by
  obtain⟨Z,Y,H0,ρ,o,R,f,q⟩:=O;obtain⟨z,h,f⟩:=a_0 f;refine⟨Z,Y,H0,ρ,z,R,h,?_⟩;cases z with
  |nx J=>exact λ aa H0' H' s R'=>⟨Z,Y,H0',J,o,R',f,q⟩
  |rt d J=>cases f
  |bk J=>cases f
  |ct J=>cases f
theorem xnS {st:Stmt} (h:XS X st B):PS X st (λ Y σ H=>∃ O J H0 ρ r,RS X.K ⟨O,J,[]⟩ H0 H ρ σ/\B ρ=some r/\Post X.K ⟨O,J,[]⟩ Y H0 r) :=
 PS.wk h λ Y σ H ⟨O,J,H0,ρ,r,R,f,q⟩=>⟨⟨O,J,[]⟩,H0,ρ,r,R,f,q⟩
def XPs (X:Cx) (pos:Pos) (ks:List Str) (keys:List (Option Expr)) (q:List Expr) (A:FA):Prop:=∃ J,PPs X pos keys q J/\ks.length=keys.length/\keys.length=q.length/\keys.all (·.isSome)=true /\
 ∀ (c:FC) (H0 H:Hp) (ρ O:En) (ds:List D) (σ:L2.St) (Q:List (V×V)->Hp->Prop),RS X.K c H0 H ρ σ->A ρ=some (ds,O)->(∀ vs H0' H',Same H0 H0'->RS X.K c H0' H' O σ->Reps X.K H0' ds vs->Q ((ks.map V.str).zip vs) H')->ag1 J σ H Q
theorem xp0:XPs X pos [] [] [] aN:=⟨[],aY4,rfl,rfl,rfl,λ c H0 H ρ J ds σ Q R f q=>by
 have O:=f;cases O;exact q [] H0 H (Same.refl _) R Reps.nil_⟩
theorem xpC  (he:XE X e F) (hr:XPs X pos ks keys J A):XPs X pos (k::ks) (some (.Constant (.str k) j p2)::keys) (e::J) (aC F A):=by
 obtain⟨Y,h1,h2,h3,h4,h5⟩:=hr;refine⟨(tC (.str k),tE X.K F)::Y,aI1 V_2 he h1,by rw[zg,zg,h2],by rw[zg,zg,h3],by rw[Zl,h4];rfl,λ c H0 H ρ aa ds σ Q R f q=>?_⟩;obtain⟨⟨d,O⟩,g1,f⟩:=a_0 f;obtain⟨⟨r,Z⟩,g2,f⟩:=a_0 f;have f':=f;cases f';refine⟨c,H0,ρ,d,O,R,g1,λ v H1 Hh s1 R1 r1=>?_⟩;exact h5 c H1 Hh O _ r σ _ R1 g2 λ vs H2 Hh2 s2 R2 r2=>q (v::vs) H2 Hh2 (s1.trans s2) R2 (Reps.cons (Rep.mono s2 d r1) r2)
theorem ai9:∀ (more kvs:List (Key×V)),((kvs++more).map (·.1)).Nodup->B_7 kvs more=kvs++more
 |[],kvs,_=>by rw[zm];rfl
 |p::r,kvs,h=>by
  have O:M_5 kvs p.1=none:=by
   cases q:M_5 kvs p.1 with
   |none=>rfl
   |some v =>
    have J:=aU9 q;rw[zu,zd,jb] at h;exact absurd rfl (h.2.2 _ J _ (qg ..))
  show B_7 (I_7 kvs p.1 p.2) r=_;rw[aH7 p.2 O,ai9 r _ (by simpa using h)];simp
theorem ar2:∀ (ks:List Str) (vs:List V),(ks.map V.str).zip vs=(E_6 ks vs).map λ q=>(kV q.1,q.2)
 |[],_=>rfl
 |_::_,[]=>rfl
 |k::ks,v::vs=>by
  rw[w_7,zd,zd,Y4,ar2 ks vs];rfl
theorem RS.fence {K:Frag} (R:RS K c H0 H ρ σ) (J:ρ.all ao4=true) (O:H p=none):RS K ⟨H0,upd H p u,[]⟩ H0 (upd H p u) ρ σ:=by
 have q:∀ (i:Nat) (b:Bool) (o:MO),¬ ρ[i]?=some (.ow b o):=λ i b o e=>by
  have:=List.all_eq_true.mp J _ (zx e);cases this
 refine⟨λ b v e=>?_,Same.refl _,λ b o e=>.inl e,λ b o e _=>e,λ a h=>(by cases h),R.len,R.im,λ i b o e=>absurd e (q i b o),λ i j b Y o o' a e=>absurd e (q i b o)⟩;have:b≠p:=λ z=>by rw[z,R.same.free O] at e;cases e
 rw[b_2 this];exact R.same b v e
theorem xn1  (h:XPs X pos ks keys J A) (h0:keys≠[]:=by simp) (ac:keys.length<=15:=by simp):XN X [.Return (some (.Dict keys J pos)) Z] (by4 ks A):=by
 obtain⟨ae,h1,h2,h3,h4,h5⟩:=h;refine PSs.wk (s_8 (au9 (aZ0 h1 h4 h3 h0 ac))) λ Dn σ H O=>?_;obtain⟨Hi,He,H0,ρ,o,R,f,q⟩:=O;unfold by4 at f;by_cases no:ρ.all ao4=true
 ·rw[if_pos no] at f;obtain⟨⟨ds,ad⟩,g1,f⟩:=a_0 f;obtain⟨⟨l1,l2,l3⟩,rfl⟩:=ifs f;have l1:ds.length=ks.length:=l1;intro p hp;refine h5 _ H0 _ ρ ad ds σ _ (R.fence no hp) g1 λ vs H1 Hh s1 R1 r1=>?_;have hl:=r1.length;have kp:=R1.keep p _ a_3 (by simp);refine⟨kp,E_6 ks vs,?_,?_,?_⟩
  ·exact ar2 ks vs
  ·unfold E_6;rw[Yj,qy];omega
  ·have nd:B_7 [] (E_6 ks vs)=E_6 ks vs:=by
    rw[ai9]
    ·rfl
    ·rw[jm];unfold E_6;rw[Z7 (by rw[qy];omega)];exact List.pairwise_map.mpr (l3.imp λ aa z=>aa (Zw z))
   rw[nd];have Y:=R.step;have S2:=R1.step;have p1:H1 p=none:=by
    cases z:H1 p with
    |none=>rfl
    |some v =>
     rcases S2.fr p v z with y | y
     ·rw[R.same.free hp] at y;cases y
     ·rw[a_3] at y;cases y
   refine q p H1 _ ⟨Y.s0.trans S2.s0,λ b v e=>?_,λ b v e=>?_,λ b v e=>?_,p1,Y.s.free hp,?_⟩
   ·have:b≠p:=λ z=>by rw[z,p1] at e;cases e
    rw[b_2 this];exact S2.s' b v e
   ·have e1:=Y.s b v e;have:b≠p:=λ z=>by rw[z,hp] at e1;cases e1
    rw[b_2 this];exact S2.s b v (by rw[b_2 this];exact e1)
   ·rcases S2.fr b v e with y | y
    ·exact Y.fr b v y
    ·have:b≠p:=λ z=>by rw[z,a_3] at y;cases y
     rw[b_2 this] at y;exact .inr (Y.s.free y)
   ·have e1:(ks.zip ds).map (·.1)=ks:=Z7 (by omega);have e2:(ks.zip ds).map (·.2)=ds:=List.map_snd_zip (by omega);exact⟨ks,vs,by rw[a_3];rfl,e1.symm,by rw[e2];exact r1⟩
 ·rw[if_neg no] at f;cases f
end
theorem bs7 {K:Frag}{st:Stmt} (F:Fun K x qual st f fd) (S:FnScope N ps (a_2 st)) (hn:ps.length=n) (hN:N.length=n+m)
  (hb:∀ (J:Value) (A:Around) (outer:List Env) (s:Shared) (H:Hp) (E:XK),Room k (A.deeper (envOfC qual (a_2 st) s.heap.objs.size f J))->XN (R_5 CX0 P w K mg base N qual (a_2 st) f J A outer s H E).nox (k_2 st) B) :
  FnOk P w K mg base CX0 (k+1) f fd ps (spN K (fnN n m B)):=by
 refine F.ok S (λ vs H Q E h=>?_) (λ J A outer s H vs Q E hr h=>?_)
 ·obtain⟨O,ds,o,_,r,e,_⟩:=h;unfold fnN at e;split at e
  ·rename_i Y;rw[hn,<- r.length];exact Y
  ·cases e
 ·obtain⟨O,ds,o,Z,r,e,q⟩:=h;unfold fnN at e;split at e
  ·rename_i Y;exact⟨_,hb J A outer s H E hr,O,H,O,_,o,RS.start Z r (by rw[<- r.length];omega),e,q⟩
  ·cases e
end Fx
namespace Fx
open PySem
def aT0:D->Option Int->Option Int->Option D
 |.lst xs,lo,hi=>some (.lst (R_4 xs lo hi))
 |.tup xs,lo,hi=>if T_3 xs.length 0 lo=0/\T_3 xs.length xs.length hi=xs.length then none else some (.tup (R_4 xs lo hi))
 |.str z,lo,hi=>if z.length<=sizeLine then some (.str (Txt.slice z lo hi)) else none
 |_,_,_=>none
def L_4 (F:FE) (lo hi:FO) (ρ:En):Option (D×En):=bnd (F ρ) λ p=>bnd (lo p.2) λ l=>bnd (hi l.2) λ h=>bnd (aT0 p.1 l.1 h.1) λ d=>some (d,h.2)
noncomputable def inS (x z:Str):Bool:=!(Builtin.Str.occurrences z x 0 z.length 1).isEmpty
def aE9:D->D->Option D
 |x,.tup xs=>if Z_9 x xs=true then some (.bl (inD x xs)) else none
 |x,.lst xs=>if Z_9 x xs=true then some (.bl (inD x xs)) else none
 |.str x,.str z=>some (.bl (inS x z))
 |_,_=>none
def bt7 (x:D) (l:Option Int) (o:Option (Option Int×En)):Option (D×En):=bnd o λ h=>bnd (aT0 x l h.1) λ d=>some (d,h.2)
def bt8 (hi:FO) (x:D) (o:Option (Option Int×En)):Option (D×En):=bnd o λ l=>bnd (hi l.2) λ h=>bnd (aT0 x l.1 h.1) λ d=>some (d,h.2)
def bt9 (lo hi:FO) (o:Option (D×En)):Option (D×En):=bnd o λ p=>bnd (lo p.2) λ l=>bnd (hi l.2) λ h=>bnd (aT0 p.1 l.1 h.1) λ d=>some (d,h.2)
@[simp] theorem cd1:L_4 F lo hi ρ=bt9 lo hi (F ρ):=yI rfl
@[simp] theorem bI9:bt9 lo hi (some (x,ρ))=bt8 hi x (lo ρ):=yI rfl
@[simp] theorem bI8:bt8 hi x (some (l,ρ))=bt7 x l (hi ρ):=yI rfl
@[simp] theorem bI7:bt7 x l (some (h,ρ))=mkP (aT0 x l h) ρ:=yI rfl
@[simp] theorem bT9:aT0 (.lst xs) lo hi=some (.lst (R_4 xs lo hi)):=yI rfl
@[simp] theorem bT7:aT0 (.tup xs) lo hi=if T_3 xs.length 0 lo=0/\T_3 xs.length xs.length hi=xs.length then none else some (.tup (R_4 xs lo hi)):=yI rfl
@[simp] theorem bT8:aT0 (.str z) lo hi=if z.length<=sizeLine then some (.str (Txt.slice z lo hi)) else none:=yI rfl
@[simp] theorem bv1:aE9 x (.tup xs)=if Z_9 x xs=true then some (.bl (inD x xs)) else none:=by cases x <;> rfl
@[simp] theorem bv2:aE9 x (.lst xs)=if Z_9 x xs=true then some (.bl (inD x xs)) else none:=by cases x <;> rfl
end Fx
namespace Fx
open PySem PySem.Spec PyProof.Rows L2
section
variable {K:Frag}
def bZ4:V->Option Int->Option Int->Hp->VK->Prop:=λ x lo hi H Q=>∃ z,x=.str z/\z.length<=sizeLine/\Q (.str (Txt.slice z lo hi)) H
theorem bo2  (p:IsPart v o):∃ l:Option (Int×Tok),v=partValue l/\l.map (·.1)=o:=by
 cases p with
 |none=>exact⟨none,rfl,rfl⟩
 |int i t=>exact⟨some (i,t),rfl,rfl⟩
theorem aP3:SlR X bZ4:=by intro pins s σ H x v vl vu lo hi sl Q I O J Z Y h;obtain⟨z,rfl,hz,q⟩:=h;obtain⟨t,rfl⟩:=O;obtain⟨l,rfl,rfl⟩:=bo2 Z;obtain⟨u,rfl,rfl⟩:=bo2 Y;refine⟨"str",_,slot_str_getitem.lookup,typeIs_str _ _ _,wpAny_getItem_str_slice (st:=none) J rfl ?_⟩;exact post_val_or_str ⟨zf (Z9 z _ _) hz,λ t' k=>⟨.str (Txt.slice z (l.map (·.1)) (u.map (·.1))),H,I.tok _,⟨_,rfl⟩,q⟩⟩
theorem aU0 {lo hi:Option Expr} (he:XE X e F) (hl:XO X lo A) (hh:XO X hi B):XE X (.Subscript e (.Slice lo hi none p2) pos) (L_4 F A B):=PE.wk (ah8 ((sl_list.or aP2).or aP3) he hl hh) λ σ H Q O=>by
 obtain⟨c,H0,ρ,d,ac,R,f,q⟩:=O;obtain⟨⟨x,aa⟩,h1,f⟩:=a_0 f;obtain⟨⟨l,Y⟩,h2,f⟩:=a_0 f;obtain⟨⟨u,ad⟩,h3,f⟩:=a_0 f;obtain⟨d',Z,f⟩:=a_0 f;have f':=f;cases f';refine⟨c,H0,ρ,x,aa,R,h1,λ v H1 Hh s1 R1 r1=>?_⟩;refine⟨c,H1,aa,l,Y,R1,h2,λ H2 Hh2 s2 R2=>?_⟩;refine⟨c,H2,Y,u,_,R2,h3,λ H3 Hh3 s3 J=>?_⟩;have r3:=Rep.mono s3 x (Rep.mono s2 x r1);cases x with
 |lst ds =>
  have e:=qi Z;subst e;obtain⟨p,vs,rfl,s,t⟩:=r3;refine .inl (.inl ⟨p,vs,rfl,Same.seq J.same s,λ p' hp=>?_⟩);have S:=Step.alloc (o:=.lst (aF0 vs l u)) J.same hp;refine q _ _ _ (s1.trans (s2.trans (s3.trans S.s0))) (J.after S) ?_;exact⟨p',_,rfl,.inl (.inl a_3),Reps.mono S.s0 _ (aC8 t l u)⟩
 |tup ds =>
  have h5:(if T_3 ds.length 0 l=0/\T_3 ds.length ds.length u=ds.length then none else some (D.tup (R_4 ds l u)))=some d:=Z;by_cases hn:T_3 ds.length 0 l=0/\T_3 ds.length ds.length u=ds.length
  ·rw[if_pos hn] at h5;cases h5
  ·rw[if_neg hn] at h5;cases h5;obtain⟨p,vs,rfl,s,t⟩:=r3;refine .inl (.inr ⟨p,vs,rfl,Same.seqT J.same s,?_,λ p' hp=>?_⟩)
   ·rw[<- R_3,<- R_3,<- t.length];exact hn
   have S:=Step.alloc (o:=.tup (aF0 vs l u)) J.same hp;refine q _ _ _ (s1.trans (s2.trans (s3.trans S.s0))) (J.after S) ?_;exact⟨p',_,rfl,.inl (.inl a_3),Reps.mono S.s0 _ (aC8 t l u)⟩
 |str z =>
  obtain⟨hz,rfl⟩:=ifs Z;exact .inr ⟨z,r3,hz,q _ H3 Hh3 (s1.trans (s2.trans s3)) J (F_5 H3 _)⟩
 |_=>cases Z
theorem OpR.or  (h:OpR X f r) (h':OpR X f J):OpR X f (λ x y H Q=>r x y H Q\/J x y H Q):=by
 intro pins s σ H x y v u Q I Y O q;rcases q with q | q
 ·exact h pins s σ H x y v u Q I Y O q
 ·exact h' pins s σ H x y v u Q I Y O q
theorem br5:OpD K (rIn K false) dIn:=br7 λ x y d e=>by
 cases y with
 |tup xs=>obtain⟨h,rfl⟩:=ifs e;exact⟨xs,.inl rfl,h,rfl⟩
 |lst xs=>obtain⟨h,rfl⟩:=ifs e;exact⟨xs,.inr rfl,h,rfl⟩
 |_=>cases e
theorem bL5:B_1 X .In aE9:=⟨_,OpR.or aw8 aw7,λ c H0 H ρ σ x y d Y O Q R r1 J e q=>by
 cases y with
 |tup xs=>rw[bv1] at e;exact .inl (br5 c H0 H ρ σ x (.tup xs) d Y O Q R r1 J e q)
 |lst xs=>rw[bv2] at e;exact .inl (br5 c H0 H ρ σ x (.lst xs) d Y O Q R r1 J e q)
 |str b =>
  cases x with
  |str a =>
   have Z:=e;cases Z;subst r1 J;exact .inr ⟨a,b,rfl,rfl,q _ H0 H (Same.refl _) R (o_5 _ _)⟩
  |_=>cases e
 |_=>cases x <;> cases e⟩
end
end Fx
namespace Fx
open PySem
noncomputable def owT:Option Sl->Option MO
 |some (.ow true o)=>some o
 |_=>none
def aA7 (ρ:En) (i:Nat) (o:MO):List Nat->Option En
 |[]=>some []
 |j::js=>bnd (if j=i then some (.ow true o) else slI ρ[j]?) λ s=>bnd (aA7 ρ i o js) λ r=>some (s::r)
def am2 (T:FT) (F:FE) (ρ:En) (i:Nat) (js:List Nat) (q:Nat):MO->List D->Option (List D×MO)
 |o,[]=>some ([],o)
 |o,d::r=>bnd (aA7 ρ i o js) λ fr=>bnd (T (.im d::fr)) λ p=>if p.1=true then bnd (F p.2) λ z=>bnd (owT z.2[q+1]?) λ o'=>bnd (am2 T F ρ i js q o' r) λ t=>some (z.1::t.1,t.2)
   else bnd (owT p.2[q+1]?) λ o'=>am2 T F ρ i js q o' r
theorem aN6 (T:FT) (F:FE) (ρ:En) (i:Nat) (js:List Nat) (q:Nat) (o:MO):am2 T F ρ i js q o []=some ([],o):=rfl
theorem H_6 (T:FT) (F:FE) (ρ:En) (i:Nat) (js:List Nat) (q:Nat) (o:MO) (d:D) (r:List D):am2 T F ρ i js q o (d::r)=bnd (aA7 ρ i o js) λ fr=>bnd (T (.im d::fr)) λ p=>if p.1=true then bnd (F p.2) λ z=>bnd (owT z.2[q+1]?) λ o'=>bnd (am2 T F ρ i js q o' r) λ t=>some (z.1::t.1,t.2)
   else bnd (owT p.2[q+1]?) λ o'=>am2 T F ρ i js q o' r:=rfl
def lcB (js:List Nat) (i q:Nat) (T:FT) (F:FE) (xs:List D) (ρ:En):Option (D×En):=bnd (owO ρ[i]?) λ w=>bnd (am2 T F ρ i js q w.2 xs) λ t=>if xs.length<=sizeLine/\js[q]?=some i/\js.Nodup then some (.lst t.1,ρ.set i (.ow w.1 t.2)) else none
def be7 (js:List Nat) (i q:Nat) (I:FE) (T:FT) (F:FE) (ρ:En):Option (D×En):=bnd (I ρ) λ p=>bnd (items p.1) λ xs=>lcB js i q T F xs p.2
end Fx
namespace Fx
open PySem PySem.Spec PyProof.Rows L2
theorem bo3  (h:owT s=some o):s=some (.ow true o):=by
 unfold owT at h;split at h
 ·cases h;rfl
 ·cases h
theorem ak6 :∀ {js:List Nat}{fr:En},aA7 ρ i o js=some fr->fr.length=js.length/\∀ (k:Nat) (s:Sl),fr[k]?=some s->∃ j,js[k]?=some j/\((j=i/\s=.ow true o)\/∃ d,ρ[j]?=some (.im d)/\s=.im d)
 |[],_,h=>by
  have h':=qi h;subst h';exact⟨rfl,λ k s e=>by simp at e⟩
 |j::js,_,h=>by
  obtain⟨s,h1,h⟩:=a_0 h;obtain⟨r,h2,h⟩:=a_0 h;cases h;obtain⟨a,b⟩:=ak6 h2;refine⟨by rw[zg,zg,a],λ k s' e=>?_⟩;cases k with
  |zero =>
   simp at e;subst e;refine⟨j,rfl,?_⟩;by_cases q:j=i
   ·rw[if_pos q] at h1;cases h1;exact .inl ⟨q,rfl⟩
   ·rw[if_neg q] at h1;cases z:ρ[j]? with
    |none=>rw[z] at h1;cases h1
    |some J =>
     rw[z] at h1;cases J with
     |im d=>exact .inr ⟨d,rfl,(qi h1).symm⟩
     |_=>cases h1
  |succ k =>
   obtain⟨Y,O,Z⟩:=b k s' (by simpa using e);exact⟨Y,by simpa using O,Z⟩
theorem ak5 :∀ js:List Nat,aA7 (ρ.set i s) i o js=aA7 ρ i o js
 |[]=>rfl
 |j::js=>by
  unfold aA7;rw[ak5 js];by_cases q:j=i
  ·rw[if_pos q,if_pos q]
  ·rw[if_neg q,if_neg q,zh (zv q)]
theorem aI9 {js:List Nat} (h:js.Nodup) {k l i:Nat} (a:js[k]?=some i) (b:js[l]?=some i):k=l:=by obtain⟨Y,q⟩:=List.getElem?_eq_some_iff.mp a;obtain⟨O,J⟩:=List.getElem?_eq_some_iff.mp b;exact (List.getElem_inj h).mp (q.trans J.symm)
theorem RS.blockB {K:Frag} (R:RS K c H0 H ρ σ) (hi:ρ[i]?=some (.ow b o)) (ha:σ[i]?=some (some (.ref a))) (nd:js.Nodup) (hf:aA7 ρ i o js=some fr) (rx:Rep K H0 d x) :
  RS K ⟨H0,H,[a]⟩ H0 H (.im d::fr) (some x::frv σ js):=by
 obtain⟨l,g⟩:=ak6 hf;obtain⟨a',y1,y2,y3,y4⟩:=R.ow i b o hi;rw[ha] at y1;cases y1;refine⟨R.same,Same.refl _,λ b o e=>.inl e,λ b o e _=>e,λ z hz e=>?_,?_,λ k d' e=>?_,λ k b' o' e=>?_,λ k k' b1 b2 o1 o2 z e1 e2 e3 e4=>?_⟩
 ·obtain⟨u,hu⟩:=y4.some;have Y:z=a:=by simpa using hz
  have e:=e;rw[Y,hu] at e;cases e
 ·rw[zg,zg,l,frv,qy]
 ·cases k with
  |zero=>simp at e;subst e;exact⟨x,rfl,rx⟩
  |succ k =>
   obtain⟨j,J,q⟩:=g k _ (by simpa using e);rcases q with ⟨_,x3⟩ | ⟨d2,q,x3⟩
   ·cases x3
   ·cases x3;obtain⟨v,w1,w2⟩:=R.im j d' q;refine⟨v,?_,w2⟩;show (frv σ js)[k]?=some (some v);unfold frv;rw[zl,J];show some (σ[j]?).join=some (some v);rw[w1];rfl
 ·cases k with
  |zero=>simp at e
  |succ k =>
   obtain⟨j,J,q⟩:=g k _ (by simpa using e);rcases q with ⟨hj,x3⟩ | ⟨d2,_,x3⟩
   ·cases x3;subst hj;refine⟨a,?_,y2,by rw[if_pos rfl];exact List.mem_singleton.mpr rfl,y4⟩;show (frv σ js)[k]?=some (some (.ref a));unfold frv;rw[zl,J];show some (σ[j]?).join=some (some (.ref a));rw[ha];rfl
   ·cases x3
 ·cases k with
  |zero=>simp at e1
  |succ k =>
   cases k' with
   |zero=>simp at e2
   |succ k' =>
    obtain⟨j,J,q⟩:=g k _ (by simpa using e1);obtain⟨j',O,Z⟩:=g k' _ (by simpa using e2);rcases q with ⟨hj,_⟩ | ⟨_,_,x3⟩
    ·rcases Z with ⟨hj',_⟩ | ⟨_,_,x3'⟩
     ·rw[hj] at J;rw[hj'] at O;rw[aI9 nd J O]
     ·cases x3'
    ·cases x3
theorem RS.unblock {K:Frag} (R:RS K c H0 H ρ σ) (hi:ρ[i]?=some (.ow b o)) (Z:σ[i]?=some (some (.ref a)))
  (R2:RS K ⟨H0,H,[a]⟩ H2 Hh2 J (some x::frv σ js)) (hq:owT J[q+1]?=some o'):RS K c H2 Hh2 (ρ.set i (.ow b o')) σ:=by
 obtain⟨Y,_,_,O,z4⟩:=R2.ow (q+1) true o' (bo3 hq);rw[if_pos rfl] at O;have e:Y=a:=by simpa using O
 subst e;exact R.lent hi Z R2.init R2.same (λ y u e n=>R2.keep y u e (by simpa using n)) R2.fresh z4
theorem aR3 {K:Frag} (R:RS K c H1 Hh ρ σ) (hi:ρ[i]?=some (.ow b o)) (nd:js.Nodup) (hc:am2 T F ρ i js q o xs=some (out,o')) (hz:xs.length<=sizeLine) (hy:z_3 K J H1 xs)
  (qf:∀ ys H0 H,Same H1 H0->RS K c H0 H (ρ.set i (.ow b o')) σ->Reps K H0 out ys->Qf ys H):LcW js (tTt K T) (tE K F) σ Qf J Hh:=by
 have il:=(List.getElem?_eq_some_iff.mp hi).1;obtain⟨a,ha,_⟩:=R.ow i b o hi;have aa:∀ o,(ρ.set i (.ow b o))[i]?=some (.ow b o):=λ o=>zi il;have e0:ρ.set i (.ow b o)=ρ:=by obtain⟨_,e⟩:=List.getElem?_eq_some_iff.mp hi;rw[<- e];exact List.set_getElem_self il
 refine⟨λ n m ys H=>m=xs.length-n/\n<=xs.length/\∃ H0 on,Same H1 H0/\RS K c H0 H (ρ.set i (.ow b on)) σ/\∃ pre rest,Reps K H0 pre ys/\pre.length<=n/\am2 T F ρ i js q on (xs.drop n)=some (rest,o')/\pre++rest=out,
  ⟨xs.length,by simp,yf _,H1,o,Same.refl _,by rw[e0];exact R,[],out,Reps.nil_,yf _,by simpa using hc,rfl⟩,?_⟩
 rintro n m ys H ⟨rfl,hn,H0,on,s0,R0,pre,rest,rp,lp,O,e⟩;obtain⟨y1,y2⟩:=hy H0 H n s0 R0.same;by_cases Z:n<xs.length
 ·have hd:xs[n]?=some xs[n]:=by simp[Z]
  obtain⟨go,yl⟩:=y1 _ hd;refine .inr ⟨go,by rw[<- rp.length];omega,λ x H' hx=>?_⟩;obtain⟨rfl,rx⟩:=yl x H' hx;rw[A_4 hd,H_6] at O;obtain⟨fr,g0,O⟩:=a_0 O;obtain⟨⟨bb,ac⟩,g1,O⟩:=a_0 O;have Rb:=R0.blockB (aa on) ha nd (by rw[ak5];exact g0) rx;refine⟨⟨H0,H',[a]⟩,H0,_,bb,ac,Rb,g1,λ H2 Hh2 s2 R2=>?_⟩;cases bb with
  |false =>
   rw[if_neg zo] at O ⊢;obtain⟨o2,g4,O⟩:=a_0 O;have R3:=R0.unblock (aa on) ha R2 g4;rw[Yf] at R3;exact⟨xs.length-(n+1),by omega,rfl,Z,H2,o2,s0.trans s2,R3,pre,rest,Reps.mono s2 _ rp,by omega,O,e⟩
  |true =>
   rw[if_pos rfl] at O ⊢;obtain⟨⟨z,ad⟩,g2,O⟩:=a_0 O;obtain⟨o2,g4,O⟩:=a_0 O;obtain⟨⟨t,ot⟩,g3,O⟩:=a_0 O;have Y:=O;cases Y;refine⟨⟨H0,H',[a]⟩,H2,ac,z,ad,R2,g2,λ v H3 Hh3 s3 R3 r3=>?_⟩;have R4:=R0.unblock (aa on) ha R3 g4;rw[Yf] at R4;refine⟨xs.length-(n+1),by omega,rfl,Z,H3,o2,s0.trans (s2.trans s3),R4,pre++[z],t,(Reps.mono (s2.trans s3) _ rp).app (Reps.one r3),?_,g3,?_⟩
   ·rw[zc,yn];omega
   ·rw[yt];exact e
 ·have ei:n=xs.length:=by omega
  have hn:xs.drop n=[]:=jp (by omega);rw[hn,aN6] at O;have Y:=O;cases Y;rw[zm] at e;subst e;exact .inl ⟨y2 (by omega),by rw[<- rp.length];omega,qf ys H0 H s0 R0 rp⟩
theorem az3  (h:lcB js i q T F xs ρ=some (d,J)):∃ b o ys o',ρ[i]?=some (.ow b o)/\am2 T F ρ i js q o xs=some (ys,o')/\xs.length<=sizeLine/\js.Nodup/\d=.lst ys/\J=ρ.set i (.ow b o'):=by obtain⟨⟨b,o⟩,h1,h⟩:=a_0 h;obtain⟨⟨ys,o'⟩,h2,h⟩:=a_0 h;obtain⟨⟨Y,Z,O⟩,h⟩:=ifs h;cases h;exact⟨b,o,ys,o',B_4 h1,h2,Y,O,rfl,rfl⟩
section
variable {ifs:List Expr}
theorem bW1 (i q:Nat) (hc:X.calm=true) (Z:X.env.scope=sc) (B:ScB X.N sc scope x frees js) (hi:XE X iter I) (ht:∀ s H C Y,XTs (cxB X (x::frees) scope s H C Y) ifs T) (he:∀ s H C Y,XE (cxB X (x::frees) scope s H C Y) elt F)
  (hs:∀ v,foldedSetIterable iter X.env v=pure v:=by intro _;rfl):XE X (.ListComp elt [⟨.Name x px,iter,ifs,0⟩] scope pos) (be7 js i q I T F) :=
 PE.wk (bn9 (tt:=tTt X.K T) (te:=tE X.K F) hc Z B (av6 hi) ht he hs) λ σ H Q O=>by
  obtain⟨c,H0,ρ,d,aa,R,f,qq⟩:=O;obtain⟨⟨z,ac⟩,h1,f⟩:=a_0 f;obtain⟨xs,h2,f⟩:=a_0 f;obtain⟨b,o,ys,o',k1,k2,k3,k4,rfl,rfl⟩:=az3 f;refine m_8 R h1 h2 λ J H1 Hh s1 R1 hy=>?_;refine aR3 R1 k1 k4 k2 k3 hy λ vs H2 Hh2 s2 R2 r2=>λ p hp=>?_;have S:=Step.alloc (o:=.lst vs) R2.same hp;refine qq _ _ _ (s1.trans (s2.trans S.s0)) (R2.after S) ?_;exact⟨p,vs,rfl,.inl (.inl a_3),Reps.mono S.s0 _ r2⟩
end
section
variable {ifs:List Expr}
theorem aU3 (n:Nat) (hN:X.N.Nodup) (i q:Nat) (hc:X.calm=true) (ad:X.env.scope=sc) (Bk:ScB X.N sc scope x frees js) (hi:XE X iter I)
  (ht:∀ s H C Z,XTs (cxB X (x::frees) scope s H C Z) ifs T) (he:∀ s H C Z,XE (cxB X (x::frees) scope s H C Z) elt F) (aa:X.N[n]?=some y:=by rfl) (Y:X.env.scope.names.lookup y=some .local:=by rfl)
  (ac:swapsWith (.ListComp elt [⟨.Name x px,iter,ifs,0⟩] scope pos) (some (.Name y py)) spos.line X.env=pure true:=by rfl)
  (hs:∀ v,foldedSetIterable iter X.env v=pure v:=by intro _;rfl):XS X (.Assign [.Name y py] (.ListComp elt [⟨.Name x px,iter,ifs,0⟩] scope pos) spos) (d_5 n (be7 js i q I T F)) :=
 PS.wk (x_6 (tt:=tTt X.K T) (te:=tE X.K F) hN aa Y hc ad Bk (av6 hi) ht he ac hs) λ Dn σ H O=>by
  obtain⟨c,H0,ρ,r,R,f,qq⟩:=O;obtain⟨⟨d,ae⟩,h1,f⟩:=a_0 f;have f':=f;cases f';obtain⟨⟨z,af⟩,h0,h1⟩:=a_0 h1;obtain⟨xs,h2,h1⟩:=a_0 h1;obtain⟨b,o,ys,o',k1,k2,k3,k4,rfl,rfl⟩:=az3 h1;refine m_8 R h0 h2 λ J H1 Hh s1 R1 Y=>?_;refine aR3 R1 k1 k4 k2 k3 Y λ vs H2 Hh2 s2 R2 r2=>λ p hp=>?_;have S:=Step.alloc (o:=.lst vs) R2.same hp;refine qq _ _ _ (s1.trans (s2.trans S.s0)) ((R2.after S).set n ?_);exact⟨p,vs,rfl,.inl (.inl a_3),Reps.mono S.s0 _ r2⟩
end
end Fx
namespace Fx
open PySem
noncomputable def ltS (a b:Str):Bool:=decide (a.cps.toList<b.cps.toList)
def aK3 (x:Str):List Str->List Str
 |[]=>[x]
 |y::r=>if ltS y x=true then y::aK3 x r else x::y::r
def g_2:List Str->List Str
 |[]=>[]
 |x::r=>aK3 x (g_2 r)
def aV1:List D->Option (List Str)
 |[]=>some []
 |.str x::r=>bnd (aV1 r) λ t=>some (x::t)
 |_=>none
theorem U_0 (x:Str) (r:List D):aV1 (.str x::r)=bnd (aV1 r) λ t=>some (x::t):=rfl
def I_5 (xs:List D):Option D:=bnd (aV1 xs) λ ss=>if ss.length<64 then some (.lst ((g_2 ss).map .str)) else none
def A_8:List D->Option D
 |[.tup xs]=>I_5 xs
 |[.lst xs]=>I_5 xs
 |_=>none
noncomputable def bC1:D->Option Str
 |.str x=>some x
 |_=>none
def B_3:List D->Option (List (Str×D))
 |[]=>some []
 |.tup [.str k,v]::r=>bnd (B_3 r) λ t=>some ((k,v)::t)
 |_=>none
theorem ab3 (k:Str) (v:D) (r:List D):B_3 (.tup [.str k,v]::r)=bnd (B_3 r) λ t=>some ((k,v)::t):=rfl
@[simp] theorem bw0:A_8 [.tup xs]=I_5 xs:=yI rfl
@[simp] theorem bw1:A_8 [.lst xs]=I_5 xs:=yI rfl
theorem mem_insS {x y:Str}:∀ {l:List Str},y∈aK3 x l↔y=x\/y∈l
 |[]=>by simp[aK3]
 |z::r=>by
  unfold aK3;split
  ·rw[zj,mem_insS,zj];exact⟨λ h=>by rcases h with h | h | h;exact .inr (.inl h);exact .inl h;exact .inr (.inr h),λ h=>by rcases h with h | h | h;exact .inr (.inl h);exact .inl h;exact .inr (.inr h)⟩
  ·rw[zj]
theorem D_7:∀ (ss:List Str),aV1 (ss.map .str)=some ss
 |[]=>rfl
 |x::r=>by rw[zd,U_0,D_7 r];rfl
noncomputable def T_4 (acc:List Str) (x:Str):List Str:=if x∈acc then acc else acc++[x]
def d_1 (acc:List Str) (xs:List Str):List Str:=xs.foldl T_4 acc
def x_1 (xs:List D):Option D:=bnd (aV1 xs) λ ss=>if ss.length<64 then some (.lst ((g_2 (d_1 [] ss)).map .str)) else none
theorem N_0 (ks:List Str) (h:ks.length<64):x_1 (ks.map .str)=some (.lst ((g_2 (d_1 [] ks)).map .str)):=by unfold x_1;rw[D_7,b_3,if_pos h]
theorem j_2 {y:Str}:∀ {xs acc:List Str},y∈d_1 acc xs↔y∈acc\/y∈xs
 |[],acc=>by simp[d_1]
 |x::r,acc=>by
  have J:=j_2 (y:=y) (xs:=r) (acc:=T_4 acc x);show y∈d_1 (T_4 acc x) r↔_;rw[J,zj];have:y∈T_4 acc x↔y∈acc\/y=x:=by
   unfold T_4;split
   ·rename_i h;exact⟨.inl,λ q=>q.elim id λ e=>e▸h⟩
   ·rw[Yi,Y5]
  rw[this];exact⟨λ q=>by rcases q with (q | q) | q;exact .inl q;exact .inr (.inl q);exact .inr (.inr q),λ q=>by rcases q with q | q | q;exact .inl (.inl q);exact .inl (.inr q);exact .inr q⟩
noncomputable def sqA:D->Option (List D)
 |.tup xs=>some xs
 |.lst xs=>some xs
 |_=>none
def A_9:List D->Option D
 |[x,y]=>bnd (sqA x) λ xs=>bnd (sqA y) λ ys=>if xs.length+ys.length<=60 then x_1 (xs++ys) else none
 |_=>none
@[simp] theorem bk7:sqA (.tup xs)=some xs:=yI rfl
theorem M_3 (x y:D):A_9 [x,y]=bnd (sqA x) λ xs=>bnd (sqA y) λ ys=>if xs.length+ys.length<=60 then x_1 (xs++ys) else none:=rfl
end Fx
namespace Fx
open PySem PySem.Spec PyProof.Rows L2
def less (H:Hp) (a:Addr):Hp:=λ b=>if b=a then none else H b
end Fx
namespace Fx
open PySem PySem.Spec PyProof.Rows
theorem K_0:∀ {x:Str}{l:List Str},risingS x l=true->(x::l).Pairwise λ a b=>ltS b a=false
 |x,[],_=>List.pairwise_singleton _ _
 |x,y::r,h=>by
  have h':(!ltCps y.cps.toList x.cps.toList&&risingS y r)=true:=h;rw[zn] at h';have Y:=K_0 h'.2;have J:ltS y x=false:=by have:=h'.1;rw[ltCps_eq] at this;simpa [ltS] using this
  refine List.pairwise_cons.mpr ⟨λ z hz=>?_,Y⟩;rcases qv hz with rfl | q
  ·exact J
  ·have O:=(List.pairwise_cons.mp Y).1 z q;unfold ltS at J O ⊢;rw[j6] at J O ⊢;exact List.not_lt.mpr (List.le_trans (List.not_lt.mp J) (List.not_lt.mp O))
theorem aR8 {x:Str}:∀ {l:List Str},(l.Pairwise λ a b=>ltS b a=false)->(aK3 x l).Pairwise λ a b=>ltS b a=false
 |[],_=>List.pairwise_singleton _ _
 |y::r,h=>by
  unfold aK3;obtain⟨h1,h2⟩:=List.pairwise_cons.mp h;by_cases q:ltS y x=true
  ·rw[if_pos q];refine List.pairwise_cons.mpr ⟨λ z hz=>?_,aR8 h2⟩;rcases mem_insS.mp hz with rfl | hz
   ·unfold ltS at q ⊢;rw[Zv] at q;rw[j6];exact List.not_lt.mpr (List.le_of_lt q)
   ·exact h1 z hz
  ·rw[if_neg q];have q:ltS y x=false:=by simpa using q
   refine List.pairwise_cons.mpr ⟨λ z hz=>?_,h⟩;rcases qv hz with rfl | hz
   ·exact q
   ·have J:=h1 z hz;unfold ltS at q J ⊢;rw[j6] at q J ⊢;exact List.not_lt.mpr (List.le_trans (List.not_lt.mp q) (List.not_lt.mp J))
theorem x_2:∀ l:List Str,(g_2 l).Pairwise λ a b=>ltS b a=false
 |[]=>Ja
 |x::r=>by exact aR8 (x_2 r)
theorem ins_perm {x:Str}:∀ {l:List Str},(aK3 x l).Perm (x::l)
 |[]=>jr _
 |y::r=>by
  unfold aK3;split
  ·exact ((ins_perm (l:=r)).cons y).trans (List.Perm.swap x y r)
  ·exact jr _
theorem d_2:∀ l:List Str,(g_2 l).Perm l
 |[]=>jr _
 |x::r=>by exact ins_perm.trans ((d_2 r).cons x)
theorem K_1 {l t:List Str} (O:t.Perm l) (J:sortedS t=true):t=g_2 l:=by
 have h1:t.Pairwise λ a b=>ltS b a=false:=by
  cases t with
  |nil=>exact Ja
  |cons x r=>exact K_0 J
 refine List.Perm.eq_of_pairwise (le:=λ a b=>ltS b a=false) (λ a b _ _ p q=>?_) h1 (x_2 l) (O.trans (d_2 l).symm);unfold ltS at p q;rw[j6] at p q;have:=List.le_antisymm (List.not_lt.mp p) (List.not_lt.mp q);obtain⟨⟨Z⟩⟩:=a;obtain⟨⟨Y⟩⟩:=b;cases this;rfl
section
variable {prog:Program}{w:World}{A:Around}{E:Value->Shared->Prop}{s:Shared}
theorem aa6 {it:Addr}{T:String}{ob:Obj}{n:Nat}{us:List Value}{ss:List Str}{Q:Value → Shared → Prop} (hT:T="list" ∨ T="tuple") (ho:s.heap.get? it=some ob) (hc:ob.cls=.type T) (hd:ob.data=.seq us.toArray n)
  (J:StrsAre us ss) (O:us.length<64)
  (k:∀ (h1 h2:Heap) (out:Array Value) (e:Nat),(∀ b o',s.heap.get? b=some o' → h1.get? b=some o') → (∀ b o',h1.get? b=some o' → h2.get? b=some o') → h2.get? h1.objs.size=some (seqObj "list" out e) → StrsAre out.toList (g_2 ss) →
   Q (.ref h1.objs.size) {s with heap:=h2}) :
  wpAny (model prog w) A (call (.builtin "sorted") [.ref it]) Q E s:=by
 refine Calls.call_function_entry kind_sorted plain_sorted entry_sorted (args_sorted1 _) ?_;unfold Builtin.«sorted»;refine qb (m:=checkCount "sorted" 1 1 _) (qc ?_);have hz:us.toArray.size<=sizeLine:=by rw[ze,Qa];omega
 refine qb (wpAny_collect_seq it hT ho hc hd (λ h1 kp=>?_) hz);refine qb (wpAny_newList ?_);have q:(h1.push (seqObj "list" us.toArray 0)).get? h1.objs.size=some (seqObj "list" us.toArray 0):=qk _ rfl;refine qb (zw (j0 slot_list_sort ⟨_,q,rfl⟩ entry_list_sort (list_sort_treeK strKind_oneLt q J.keysOf (λ v1 v2 r e=>keyKind_strs (by rw[<- e];exact J)) O λ st hp hs=>⟨_,rfl,?_⟩) (args_list_sort _)));obtain⟨t',Z,q2,q3⟩:=sorted_out_str J hp hs;obtain⟨e,he⟩:=sortedHeap_at (out:=(arrOf st).map (·.2)) q;rw[K_1 q2 q3] at Z;refine qc ⟨_,rfl,k h1 _ _ e kp (λ b o' Y=>?_) he Z⟩;have lt:b<h1.objs.size:=qm Y;rw[sortedHeap_old (Yd lt) (by rw[size_push'];exact Y6 lt)];exact qd _ Y
end
end Fx
namespace Fx
open PySem
theorem M_6:typeLookup (.type "tuple") "keys"=pure none:=by rw[typeLookup_type,Yl];kernel_rfl
set_option maxHeartbeats 4000000 in
theorem ac9 {prog:Program}{w:World}{A:Around}{E:Value->Shared->Prop}{s:Shared}{a:Addr}{ob:Obj}{us:Array Value}{n:Nat}{Q:Option Value->Shared->Prop}
  (ho:s.heap.get? a=some ob) (hc:ob.cls=.type "tuple") (O:ob.data=.seq us n) (J:ob.dict=none) (hh:A.handled=none)
  (k:∀ h' tk e,Heap.NewExcOf s.heap h' e "AttributeError" → Q none {s with heap:=h',toks:=tk}) :
  wpAny (model prog w) A (getAttr? (.ref a) "keys") Q E s:=by
 obtain⟨oc,od,aa,Y⟩:=ob;simp only at hc O J;subst hc O J;obtain⟨hp,gg,dd,tk,os⟩:=s;have ty:∀ q,(⟨hp,gg,dd,q,os⟩:Shared).TypeIs (.ref a) "tuple":=λ _=>⟨_,ho,rfl⟩
 have e1:=sub_AttributeError;have e3:=F.slot_tuple_getattribute.lookup;have e4:=F.slot_tuple_getattribute.bind (.ref a);have e5:=am_tuple_getattr_none;unfold getAttr? getAttrBy? getAttrBy
 repeat (any_goals (first | assumption | exact ty _ | ((with_reducible show wpAny _ _ (call (Value.builtin "tuple.__getattribute__") _ _) _ _ _);refine call_meets F.slot_tuple_getattribute (ty _) am_entry_tuple_getattribute (F.args_tuple_getattribute_2 _ _) (meets_getattribute_miss_tuple a us n Y "keys" _ M_6 (by decide) (by decide)) ⟨ho,hh,λ h' q e hx=>?_⟩) | wp_step))
 obtain⟨t1,u1,he⟩:=hx.there;have tx:∀ Z,(⟨h',gg,dd,Z,os⟩:Shared).TypeIs (.ref e) "AttributeError":=λ _=>⟨_,he,rfl⟩
 show wpAny _ _ (getattributeRaised _ _ _ _ _ _ _) _ _ _;unfold getattributeRaised
 repeat (any_goals (first | assumption | exact tx _ | wp_step))
 all_goals exact k _ _ _ hx.of
theorem v_3:entryFor table "dict.update.loop"=some Builtin.«dict.update.loop»:=entryFor_of_tree (by kernel_rfl)
theorem m_5:plainId "dict.update.loop"=true:=by decide +kernel
section
variable {prog:Program}{w:World}{K:Type} [DecidableEq K] {knd:KeyKind prog w K}{A:Around}{E:Value->Shared->Prop}{s:Shared}
inductive PairsAt (knd:KeyKind prog w K) (h:Heap):List Value->List (K×Value)->Prop
 |nil:PairsAt knd h [] []
 |cons {p:Addr}{u v:Value}{k:K}{us:List Value}{kvs:List (K×Value)} (a:h.IsTuple p #[u,v]) (b:knd.is k u=true) (r:PairsAt knd h us kvs):PairsAt knd h (.ref p::us) ((k,v)::kvs)
theorem aF7 {hI:Heap}{d it t:Addr}{all:List Value}{R:Result->Shared->Prop} (an:hI.get? d=none) (aj:hI.get? it=none) (aa:d≠it) (tu:hI.IsTuple t all.toArray) (hh:A.handled=none) :
  ∀ (us:List Value) (acc more:List (K×Value)) (s:Shared) (i:Nat) (tk:Tok),all.drop i=us->PairsAt knd hI us more->(∀ b o,hI.get? b=some o->s.heap.get? b=some o)->s.heap.IsTupleIter it t i->s.heap.DictOf knd d acc->acc.length+more.length<=sizeLine ->
   (∀ h' Y,(∀ b o,hI.get? b=some o->h'.get? b=some o)->h'.DictOf knd d (merged acc more)->R (.ok (.ret .none)) {s with heap:=h',toks:=Y}) ->
   codeAny (model prog w) A (.builtin "dict.update.loop" ⟨[.ref d,.ref it,.int i tk,.none],[]⟩) R s:=by
 intro us;induction us with
 |nil =>
  intro acc more s i tk e ps kp Z ad hz q;cases ps;refine jv v_3 ?_;rw[jj m_5 _];show wpAny _ A.in1 (pyNext (.ref it) >>= _) _ _ s;have ac:s.heap.IsTuple t all.toArray:=by obtain⟨o,ho,r⟩:=tu;exact⟨o,kp _ _ ho,r⟩
  have hx:all.toArray[i]?=none:=by
   have:all[i]?=none:=by
    have l:all.length<=i:=by simpa using e
    exact ju l
   simpa using this
  refine qb (Z8 hh Z ac hx λ h' eb=>?_);show wpAny _ _ (Builtin.Dict.addKeywords d [] >>= _) _ _ _;refine qb (qc (qc ?_));exact q h' s.toks (λ b o J=>eb b o (λ z=>by rw[z,aj] at J;cases J) (kp _ _ J)) (ad.extBut eb aa)
 |cons u us ih =>
  intro acc more s i tk e ps kp Z ad hz q;cases ps with
  |@cons p uk uv k _ kvs a b r =>
   refine jv v_3 ?_;rw[jj m_5 _];show wpAny _ A.in1 (pyNext (.ref it) >>= _) _ _ s;have ac:s.heap.IsTuple t all.toArray:=by obtain⟨o,ho,r⟩:=tu;exact⟨o,kp _ _ ho,r⟩
   have am:all[i]?=some (.ref p):=by have:=Qk (λ l=>l[0]?) e;simpa using this
   have hx:all.toArray[i]?=some (.ref p):=by simpa using am
   refine qb (Z3 Z ac hx λ h1 af ag=>?_);have ah:∀ b o,hI.get? b=some o->h1.get? b=some o:=λ b o J=>(ag.2 b (λ z=>by rw[z,aj] at J;cases J)).trans (kp _ _ J);have ao:h1.DictOf knd d acc:=by obtain⟨o,es,ep,ho,rr⟩:=ad;exact⟨o,es,ep,(ag.2 d aa).trans ho,rr⟩
   obtain⟨op,al,ap,on,ak⟩:=a;have O:=ah _ _ al;refine qb (zw (qb (wpAny_tryCatch ?_)));unfold Builtin.Dict.pairItems;refine qb (Zp (T:="tuple") ⟨op,O,ap⟩ ?_);rw[if_pos (by decide)];refine qb (wpAny_seqItems O ak ?_);refine qc ?_;show wpAny _ _ (holding [uk,uv] (dictSet d uk uv)) _ _ _;refine zw (wpAny_dictSet_pairs b ao (λ h2 ar ai=>?_) (by simp only[zg] at hz;omega));refine qc ⟨Qy m_5 _,?_⟩;have aq:∀ b o,hI.get? b=some o->h2.get? b=some o:=λ b o J=>(ai.2 b (λ z=>by rw[z,an] at J;cases J)).trans (ah _ _ J);have ae:h2.IsTupleIter it t (i+1):=by obtain⟨o,ho,rr⟩:=af;exact⟨o,(ai.2 it (zv aa)).trans ho,rr⟩
   have el:(stored acc k uv).length+kvs.length<=sizeLine:=by
    have:(stored acc k uv).length<=acc.length+1:=by
     unfold stored;split
     ·rw[qy];omega
     ·rw[zc];exact qj _
    simp only[zg] at hz;omega
   have:=ih (stored acc k uv) kvs {s with heap:=h2,toks:=s.toks+1} (i+1) 0 (by rw[<- List.drop_drop,e];rfl) r aq ae ar el (λ h' Y c1 c2=>q h' Y c1 c2);exact this
theorem ap8 {t:Addr}{ob:Obj}{n:Nat}{all:List Value}{kvs:List (K×Value)}{Q:Value → Shared → Prop} (ho:s.heap.get? t=some ob) (hc:ob.cls=.type "tuple") (O:ob.data=.seq all.toArray n) (ae:ob.dict=none) (hh:A.handled=none)
  (ps:PairsAt knd s.heap all kvs) (nd:(kvs.map (·.1)).Nodup) (hz:kvs.length<=sizeLine)
  (q:∀ h' tk,(∀ b o,s.heap.get? b=some o->h'.get? b=some o)->h'.DictOf knd s.heap.objs.size kvs->Q (.ref s.heap.objs.size) {s with heap:=h',toks:=tk}) :
  wpAny (model prog w) A (call (.type "dict") [.ref t]) Q E s:=by
 refine callType_codes (Q₁:=λ z s1=>z=.ref s.heap.objs.size ∧ s1={s with heap:=s.heap.push {cls:=.type "dict",data:=.dict #[]}}) F.kt_called_dict (F.kt_typeCall_dict_1 _) F.entry_dict_init (kt_code_dict_new _ ⟨rfl,rfl⟩) ?_;rintro z s1 ⟨rfl,rfl⟩;have dn:(s.heap.push {cls:=.type "dict",data:=.dict #[]}).DictOf knd s.heap.objs.size []:=Heap.DictOf.new s.heap;have J:(s.heap.push {cls:=.type "dict",data:=.dict #[]}).get? t=some ob:=qd _ ho;refine⟨dn.typeIs,F.args_dict_init_2 _ _,?_⟩;unfold Builtin.«dict.__init__»;refine qb ?_;unfold Builtin.Dict.selfAndRest;refine qb (wpAny_notOrdered_dict dn.typeIs (qc ?_));show wpAny _ _ (Builtin.Dict.updateFrom "dict.__init__" s.heap.objs.size (.ref t) [] .none) _ _ _;unfold Builtin.Dict.updateFrom;refine qb (Zp (T:="tuple") ⟨ob,J,hc⟩ ?_);rw[if_pos (by decide)];refine qb (ac9 (A:=A.in1.in1) J hc O ae hh λ h2 tk e hx=>?_);rw[if_pos (show (none:Option Value).isNone=true from rfl)];have ad:h2.get? t=some ob:=hx.keeps _ _ J;have Y:h2.DictOf knd s.heap.objs.size []:=by obtain⟨o,es,ep,h3,rr⟩:=dn;exact⟨o,es,ep,hx.keeps _ _ h3,rr⟩
 have Z:∀ b o,s.heap.get? b=some o->h2.get? b=some o:=λ b o hb=>hx.keeps _ _ (qd _ hb);refine qb (wpAny_rule (qb (wpAny_pyIter_tuple (items:=all.toArray) ⟨ob,ad,hc,n,O⟩ ?_)));refine qc ⟨Qy m_5 _,?_⟩;have d0:s.heap.get? s.heap.objs.size=none:=by
  cases z:s.heap.get? s.heap.objs.size with
  |none=>rfl
  |some o=>exact absurd (qm z) (ji _)
 have ac:s.heap.objs.size<h2.objs.size:=by obtain⟨o,es,ep,h3,rr⟩:=Y;exact qm h3
 have i0:s.heap.get? h2.objs.size=none:=by
  cases z:s.heap.get? h2.objs.size with
  |none=>rfl
  |some o=>exact absurd (qm (Z _ _ z)) (ji _)
 refine aF7 (A:=A.in1) (knd:=knd) (all:=all) (hI:=s.heap) (t:=t) d0 i0 (qt ac) ⟨ob,ho,hc,n,O⟩ hh all [] kvs {s with heap:=h2.push {cls:=.type "tuple_iterator",data:=.fields #[.ref t,.int 0 0]},toks:=tk} 0 0 rfl ps
  (λ b o hb=>qd _ (Z _ _ hb)) ⟨_,qk _ rfl,rfl,rfl⟩ (Y.push _) (by rw[yy,Yb];exact hz) λ h' aa c1 c2=>?_
 rw[merged_nil_of_nodup kvs nd] at c2;exact⟨rfl,q h' aa c1 c2⟩
end
end Fx
namespace Fx
open PySem PySem.Spec PyProof.Rows L2
def KV1 (K:Frag) (d:D) (u:Value):Prop:=∃ v,RelV v u/\∀ H,Rep K H d v
def KVs (K:Frag) (ds:List D) (us:List Value):Prop:=∃ vs,Vals vs us/\∀ H,Reps K H ds vs
section
variable {K:Frag}
theorem aR5:KV1 K .non .none:=⟨.non,rfl,λ H=>by rfl⟩
theorem aR6 :KV1 K (.int i) (.int i t):=⟨.int i,⟨t,rfl⟩,λ H=>f_7 H i⟩
theorem t_3 :KV1 K (.str x) (.str x t):=⟨.str x,⟨t,rfl⟩,λ H=>F_5 H x⟩
theorem P_9:KVs K [] []:=⟨[],.nil,λ H=>Reps.nil_⟩
theorem g_8  (a:KV1 K d u) (b:KVs K ds us):KVs K (d::ds) (u::us):=by obtain⟨v,r,p⟩:=a;obtain⟨vs,q,ps⟩:=b;exact⟨v::vs,.cons r q,λ H=>Reps.cons (p H) (ps H)⟩
theorem aj6  (l:K.lookup a=some ⟨.type "tuple",none,.seq us.toArray n,q⟩) (hz:us.length ≤ 1000) (h:KVs K ds us):KV1 K (.tup ds) (.ref a):=by
 obtain⟨vs,J,ps⟩:=h;refine⟨.ref a,rfl,λ H=>?_⟩;refine⟨a,vs,rfl,.inr ⟨_,us.toArray,n,l,rfl,rfl,rfl,?_,?_⟩,ps H⟩
 ·rw[ze];exact Zb (F_1 hz)
 ·exact J
end
theorem M_9:∀ {xs:List D}{ss:List Str},aV1 xs=some ss->xs=ss.map .str
 |[],ss,h=>by cases h;rfl
 |.str x::r,ss,h=>by
  rw[U_0] at h;obtain⟨t,e,f⟩:=a_0 h;cases f;rw[M_9 e];rfl
 |.non::_,_,h=>by cases h
 |.bl _::_,_,h=>by cases h
 |.int _::_,_,h=>by cases h
 |.tup _::_,_,h=>by cases h
 |.lst _::_,_,h=>by cases h
theorem x_5 {K:Frag}{H:Hp}:∀ ss:List Str,Reps K H (ss.map D.str) (ss.map V.str)
 |[]=>Reps.nil_
 |x::r=>Reps.cons (F_5 H x) (x_5 r)
theorem k_8 {K:Frag}{H:Hp}:∀ {ss:List Str}{vs:List V},Reps K H (ss.map D.str) vs->vs=ss.map V.str
 |[],vs,h=>by rw[zz] at h;unfold Reps at h;exact h
 |x::r,vs,h=>by
  rw[zd] at h;unfold Reps at h;obtain⟨v,t,rfl,a,b⟩:=h;unfold Rep at a;rw[a,k_8 b];rfl
theorem z_7:∀ {ss:List Str}{us:List Value},Vals (ss.map V.str) us->StrsAre us ss
 |[],us,h=>by rw[zz] at h;cases h;exact .nil
 |x::r,us,h=>by
  rw[zd] at h;cases h with
  |cons a b=>obtain⟨t,rfl⟩:=a;exact .cons x t (z_7 b)
theorem s_6:∀ {us:List Value}{ss:List Str},StrsAre us ss->Vals (ss.map V.str) us
 |_,_,.nil=>.nil
 |_,_,.cons x t h=>.cons ⟨t,rfl⟩ (s_6 h)
section
variable {X:Cx}
theorem D_3:CallR X (.builtin "sorted") (λ xs H Q=>∃ p ss,xs=[.ref p] ∧ (SqL X.K H p (ss.map V.str) ∨ SqT X.K H p (ss.map V.str)) ∧ ss.length<64 ∧ ∀ l,H l=none → Q (.ref l) (upd H l (.lst ((g_2 ss).map V.str)))):=by
 intro pins s σ H xs us Q I r h;obtain⟨p,ss,rfl,Y,ac,q⟩:=h;obtain⟨u,rfl,ru⟩:=v_5 r;cases ru;have fin:∀ (J:List Value) (T:String) (ob:Obj) (n:Nat),(T="list" ∨ T="tuple") → s.heap.get? p=some ob → ob.cls=.type T → ob.data=.seq J.toArray n → Vals (ss.map V.str) J →
   wpAny (model X.prog X.w) X.A (call (.builtin "sorted") [.ref p]) (EP X pins σ Q) X.xe s:=λ J T ob n hT ho hc hd O=>by
  have hl:=O.length;rw[qy] at hl;refine aa6 hT ho hc hd (z_7 O) (by omega) λ h1 h2 out e k1 k2 aa so=>?_;have I1:Inv X pins σ H {s with heap:=h1}:=I.kept (t':=s.toks) k1;have hz:((g_2 ss).map V.str).length<=sizeLine:=by rw[qy,(d_2 ss).length_eq,Qa];omega
  refine⟨.ref h1.objs.size,_,I1.laid (t':=s.toks) (o:=.lst ((g_2 ss).map V.str)) k2 (qj _) ⟨hz,out.toList,e,s_6 so,?_⟩,rfl,q _ (I1.hok.fresh (qj _))⟩;rw[aa]
 rcases Y with Y | Y
 ·obtain⟨J,O,⟨ob,n,h1,h2,h3,Z⟩,_⟩:=I.list Y;exact fin J "list" ob n (.inl rfl) h1 h2 Z O
 ·obtain⟨J,O,⟨ob,h1,h2,n,Z⟩,_⟩:=I.tuple Y;exact fin J "tuple" ob n (.inr rfl) h1 h2 Z O
theorem U_2  (h:I_5 xs=some d):∃ ss:List Str,xs=ss.map .str/\ss.length<64/\d=.lst ((g_2 ss).map .str):=by obtain⟨ss,e,f⟩:=a_0 h;obtain⟨l,rfl⟩:=ifs f;exact⟨ss,M_9 e,l,rfl⟩
theorem M_0:BOk X (.builtin "sorted") A_8:=⟨_,D_3,λ c H0 H ρ σ ds d vs Q R r e q=>by
 unfold A_8 at e;split at e
 ·obtain⟨ss,rfl,J,rfl⟩:=U_2 e;obtain⟨v,rfl,O⟩:=Reps.v1 r;unfold Rep at O;obtain⟨p,Z,rfl,s,t⟩:=O;rw[k_8 t] at s;refine⟨p,ss,rfl,.inr (Same.seqT R.same s),J,λ l Y=>?_⟩;have S:=Step.alloc (o:=.lst ((g_2 ss).map V.str)) R.same Y;refine q _ _ _ S.s0 (R.after S) ?_;unfold Rep;exact⟨l,_,rfl,.inl (.inl a_3),x_5 _⟩
 ·obtain⟨ss,rfl,J,rfl⟩:=U_2 e;obtain⟨v,rfl,O⟩:=Reps.v1 r;unfold Rep at O;obtain⟨p,Z,rfl,s,t⟩:=O;rw[k_8 t] at s;refine⟨p,ss,rfl,.inl (Same.seq R.same s),J,λ l Y=>?_⟩;have S:=Step.alloc (o:=.lst ((g_2 ss).map V.str)) R.same Y;refine q _ _ _ S.s0 (R.after S) ?_;unfold Rep;exact⟨l,_,rfl,.inl (.inl a_3),x_5 _⟩
 ·cases e⟩
end
inductive PV (K:Frag) (H:Hp):List V->List (Key×V)->Prop
 |nil:PV K H [] []
 |cons {a:Addr}{k:Str}{v:V}{vs:List V}{kvs:List (Key×V)} (p:SqT K H a [.str k,v]) (r:PV K H vs kvs):PV K H (.ref a::vs) ((.inr k,v)::kvs)
theorem aP8 {K:Frag}{H:Hp}:∀ {vs:List V}{kvs:List (Key×V)},PV K H vs kvs->kvs.length=vs.length
 |_,_,.nil=>rfl
 |_,_,.cons p r=>by rw[zg,zg,aP8 r]
section
variable {X:Cx}
theorem ai1 {pins:List (Addr×Obj)}{σ:L2.St}{H:Hp}{s:Shared} (I:Inv X pins σ H s):∀ {vs:List V}{kvs:List (Key×V)}{us:List Value},PV X.K H vs kvs->Vals vs us->∃ q:List (Key×Value),PairsAt (g_3 X.prog X.w) s.heap us q/\KV kvs q
 |_,_,us,.nil,h=>by cases h;exact⟨[],.nil,.nil⟩
 |_,_,us,.cons (a:=a) (k:=k) (v:=v) p r,h=>by
  cases h with
  |@cons x u xs aa h1 h2 =>
   cases h1;obtain⟨q,Y,Z⟩:=ai1 I r h2;obtain⟨ac,rv,tp,_⟩:=I.tuple p;obtain⟨O,J,rfl,r1,r2⟩:=aF5 rv;exact⟨(.inr k,J)::q,.cons (show s.heap.IsTuple a #[O,J] from tp) (ap2 (k:=.inr k) r1) Y,.cons ⟨rfl,r2⟩ Z⟩
theorem az5:∀ {kvs:List (Key×V)}{q:List (Key×Value)},KV kvs q->q.map (·.1)=kvs.map (·.1)
 |_,_,.nil=>rfl
 |_,_,.cons h t=>by rw[zd,zd,h.1,az5 t]
theorem aR4:∀ {kvs:List (Key×V)}{q:List (Key×Value)},KV kvs q->q.length=kvs.length
 |_,_,.nil=>rfl
 |_,_,.cons h t=>by rw[zg,zg,aR4 t]
end
theorem pairsD_inv:∀ {xs:List D}{kvs:List (Str×D)},B_3 xs=some kvs->xs=kvs.map λ q=>.tup [.str q.1,q.2]
 |[],kvs,h=>by cases h;rfl
 |x::r,kvs,h=>by
  unfold B_3 at h;split at h
  ·rename_i J;cases J
  ·rename_i k v O J;cases J;obtain⟨t,e,f⟩:=a_0 h;cases f;rw[pairsD_inv e];rfl
  ·cases h
theorem bm6 {K:Frag}{H0 H:Hp} (s:Same H0 H):∀ {kvs:List (Str×D)}{J:List V},Reps K H0 (kvs.map λ q=>.tup [.str q.1,q.2]) J->∃ vs,PV K H J (E_6 (kvs.map (·.1)) vs)/\Reps K H0 (kvs.map (·.2)) vs
 |[],J,h=>by
  rw[zz] at h;unfold Reps at h;subst h;exact⟨[],.nil,Reps.nil_⟩
 |q::r,J,h=>by
  rw[zd] at h;unfold Reps at h;obtain⟨v,t,rfl,a,b⟩:=h;obtain⟨vs,Y,p2⟩:=bm6 s b;unfold Rep at a;obtain⟨ad,us,rfl,O,Z⟩:=a;obtain⟨v1,v2,rfl,r1,r2⟩:=Reps.v2 Z;unfold Rep at r1;subst r1;exact⟨v2::vs,.cons (Same.seqT s O) Y,Reps.cons r2 p2⟩
theorem af8 {k:Str}:∀ {J:List (Str×D)}{vs:List V},J.length=vs.length->w_3 k J=none->M_5 (E_6 (J.map (·.1)) vs) (.inr k)=none
 |[],vs,_,_=>rfl
 |q::r,[],l,_=>by cases l
 |q::r,v::vs,l,h=>by
  unfold w_3 at h;by_cases O:q.1=k
  ·rw[if_pos O] at h;cases h
  ·rw[if_neg O] at h;rw[zd,w_7,w_8 λ z=>O (Zw z)];exact af8 (Nat.succ.inj l) h
section
variable {X:Cx}
theorem aF3  (h:∃ a,X.mg x=some (.ref a) ∧ KV1 X.K d (.ref a)) (Y:Gl X x:=by rfl) (hd:(x==("__debug__":Str))=false:=by decide):XE X (.Name x pos) (eC d):=by
 obtain⟨a,h,v,Z,O⟩:=h;exact PE.wk (aY9 Y h Z hd) λ σ H Q J=>by
  obtain⟨c,H0,ρ,d,aa,R,f,q⟩:=J;obtain⟨rfl,rfl⟩:=X_9 f;exact q _ H0 H (Same.refl _) R (O H0)
end
end Fx
namespace Fx
open PySem
noncomputable def bu9:D->Option (List Str×List D)
 |.dct ks vs=>some (ks,vs)
 |_=>none
def aq5:List D->Option D
 |[.tup xs]=>bnd (B_3 xs) λ kvs=>if kvs.length<=1000/\(kvs.map (·.1)).Nodup then some (.dct (kvs.map (·.1)) (kvs.map (·.2))) else none
 |_=>none
theorem bg8 (xs:List D):aq5 [.tup xs]=bnd (B_3 xs) λ kvs=>if kvs.length<=1000/\(kvs.map (·.1)).Nodup then some (.dct (kvs.map (·.1)) (kvs.map (·.2))) else none:=rfl
def bi6 (d k:D):Option D:=bnd (bu9 d) λ q=>bnd (bC1 k) λ s=>w_3 s (q.1.zip q.2)
def aC7 (k d:D):Option D:=bnd (bu9 d) λ q=>bnd (bC1 k) λ s=>some (.bl (!(w_3 s (q.1.zip q.2)).isSome))
@[simp] theorem cf4:bi6 (.dct ks vs) (.str k)=w_3 k (ks.zip vs):=yI rfl
@[simp] theorem bU7:aC7 (.str k) (.dct ks vs)=some (.bl (!(w_3 k (ks.zip vs)).isSome)):=yI rfl
def by8 (js:List Nat) (I:FE) (T:FT) (F:FE) (ρ:En):Option (D×En):=bnd (I ρ) λ p=>bnd (bu9 p.1) λ q=>bnd (L_3 p.2 js) λ fr=>bnd (cGo T F fr (q.1.map .str)) λ ys=>if q.1.length<=sizeLine then some (.lst ys,p.2) else none
def aB9 (n:Nat) (ρ:En) (o:Option (List D)):Option (D×En):=bnd o λ ys=>if n<=sizeLine then some (.lst ys,ρ) else none
def be5 (q:List Str) (T:FT) (F:FE) (ρ:En) (o:Option En):Option (D×En):=bnd o λ fr=>aB9 q.length ρ (cGo T F fr (q.map .str))
def bu1 (js:List Nat) (T:FT) (F:FE) (o:Option (D×En)):Option (D×En):=bnd o λ p=>bnd (bu9 p.1) λ q=>be5 q.1 T F p.2 (L_3 p.2 js)
@[simp] theorem cd4:by8 js I T F ρ=bu1 js T F (I ρ):=yI rfl
@[simp] theorem bJ7:bu1 js T F (some (.dct ks vs,ρ))=be5 ks T F ρ (L_3 ρ js):=yI rfl
@[simp] theorem bJ6:be5 q T F ρ (some fr)=aB9 q.length ρ (cGo T F fr (q.map .str)):=yI rfl
@[simp] theorem bJ5:aB9 n ρ (some ys)=if n<=sizeLine then some (.lst ys,ρ) else none:=yI rfl
noncomputable def aQ2:Option Sl->Option (List D)
 |some (.ow _ (.lst ds))=>some ds
 |_=>none
@[simp] theorem bP6:aQ2 (some (.ow b (.lst ds)))=some ds:=yI rfl
def be4 (js:List Nat) (i:Nat) (T:FT) (F:FE) (ρ:En):Option (D×En):=bnd (aQ2 ρ[i]?) λ ds=>bnd (L_3 ρ js) λ fr=>bnd (cGo T F fr ds) λ ys=>if ds.length<=sizeLine then some (.lst ys,ρ) else none
def be3 (ds:List D) (T:FT) (F:FE) (ρ:En) (o:Option En):Option (D×En):=bnd o λ fr=>aB9 ds.length ρ (cGo T F fr ds)
def bu0 (js:List Nat) (T:FT) (F:FE) (ρ:En) (o:Option (List D)):Option (D×En):=bnd o λ ds=>be3 ds T F ρ (L_3 ρ js)
@[simp] theorem cd3:be4 js i T F ρ=bu0 js T F ρ (aQ2 ρ[i]?):=yI rfl
@[simp] theorem bJ4:bu0 js T F ρ (some ds)=be3 ds T F ρ (L_3 ρ js):=yI rfl
@[simp] theorem bJ3:be3 ds T F ρ (some fr)=aB9 ds.length ρ (cGo T F fr ds):=yI rfl
def be9 (q:Bool) (F:FE) (i:Nat) (ρ:En):Option (D×En):=bnd (F ρ) λ p=>bnd (aQ2 p.2[i]?) λ ds=>if Z_9 p.1 ds=true then some (.bl (if q then !inD p.1 ds else inD p.1 ds),p.2) else none
def be8 (q:Bool) (x:D) (ρ:En) (o:Option (List D)):Option (D×En):=bnd o λ ds=>if Z_9 x ds=true then some (.bl (if q then !inD x ds else inD x ds),ρ) else none
def bu3 (q:Bool) (i:Nat) (o:Option (D×En)):Option (D×En):=bnd o λ p=>be8 q p.1 p.2 (aQ2 p.2[i]?)
@[simp] theorem cd7:be9 q F i ρ=bu3 q i (F ρ):=yI rfl
@[simp] theorem bK3:bu3 q i (some (x,ρ))=be8 q x ρ (aQ2 ρ[i]?):=yI rfl
@[simp] theorem bK2:be8 q x ρ (some ds)=if Z_9 x ds=true then some (.bl (if q then !inD x ds else inD x ds),ρ) else none:=yI rfl
end Fx
namespace Fx
open PySem PySem.Spec PyProof.Rows L2
theorem bI1  (h:(g_3 P w).is k u=true):RelV (kV k) u:=by
 rcases g_5 (show ad0 k u=true from h) with ⟨i,t,rfl,rfl⟩ | ⟨x,t,rfl,rfl⟩
 ·exact⟨t,rfl⟩
 ·exact⟨t,rfl⟩
theorem bq4:∀ {kvs:List (Key×V)}{J:List (Key×Value)}{i:Nat}{k:Key}{x:Value},KV kvs J->J[i]?=some (k,x)->∃ v,kvs[i]?=some (k,v)
 |_,_,_,_,_,.nil,e=>by simp at e
 |_,_,0,k,x,.cons (a:=p) (b:=q) h t,e=>by
  have e:q=(k,x):=by simpa using e
  subst e;exact⟨p.2,by rw[List.getElem?_cons_zero,<- show p.1=k from h.1]⟩
 |_,_,i+1,_,_,.cons h t,e=>by
  obtain⟨v,q⟩:=bq4 t (by simpa using e);exact⟨v,by simpa using q⟩
theorem dctX_inv  (h:bu9 d=some q):d=.dct q.1 q.2:=by
 cases d with
 |dct ks vs=>cases h;rfl
 |_=>cases h
def Itd (a:Addr) (ob:Obj) (kvs:List (Key×V)):It :=
 ⟨λ i H=>i<kvs.length/\H a=some (.frz ob (.dK kvs)),λ i H x H'=>H'=H/\∃ k v,kvs[i]?=some (k,v)/\x=kV k,λ i H=>kvs.length<=i/\H a=some (.frz ob (.dK kvs))⟩
theorem aG0 {K:Frag} (a it:Addr) (ob:Obj) (kvs:List (Key×V)) (es:Array DictEntry) (ep:Nat) (Y:ob.data=.dict es ep):Turn P w K tg (Itd a ob kvs) [it] it (λ i h=>h.IsKeyIter it a i kvs.length ep) where
 mem:=by simp
 obj:=λ i h st b hb=>by
  have e:b=it:=by simpa using hb
  subst e;obtain⟨o,e,c,d⟩:=st;exact⟨o,e,λ v z=>by rw[d] at z;cases z⟩
 keep:=λ i h h' st k=>st.at λ o e=>k it (by simp) o e
 item:=by
  intro X hP hw hK hc i pins s σ H E I hf st hg;subst hP hw hK;obtain⟨hi,ea⟩:=hg;obtain⟨f0,f1,f2,f3,f4,f5⟩:=hf it (by simp);obtain⟨eo,z,sm,vs,O,o',ae,af,aa,Z,J,hk,hp,hn⟩:=(show ObjOk X.prog X.w H s.heap a (.frz ob (.dK kvs)) from I.hok a _ ea);have e1:=qi (aa.symm.trans eo);subst e1;rw[Y] at J;cases J;have len:=O.length;have da:s.heap.DictAt (g_3 X.prog X.w) a vs ep:=⟨o',es,eo,Z,Y,hk,hp,hn⟩;obtain⟨⟨k,v⟩,hx⟩:∃ p,vs[i]?=some p:=⟨vs[i]'(by omega),by simp⟩;have ac:s.heap.IsKeyIter it a i vs.length ep:=by rw[<- len];exact st
  refine wpAny_pyNext_dict_item ac da hx λ ag h' ad q sb=>?_;have I1:=I.turned (t':=s.toks) (λ b o hb e=>(sb.2 b hb).trans e) f0 f1 f3 f4 f5;obtain⟨v',e3⟩:=bq4 O hx;obtain⟨o,e,c,d⟩:=id q;rw[<- len] at q;exact⟨ag,rfl,aA3 e c d (by decide) ⟨kV k,H,I1,bI1 ad,⟨rfl,k,v',e3,rfl⟩,q,λ b hb=>(hf b hb).1⟩⟩
 done:=by
  intro X hP hw hK hc i pins s σ H E I hf st hg;subst hP hw hK;obtain⟨hi,ea⟩:=hg;obtain⟨f0,f1,f2,f3,f4,f5⟩:=hf it (by simp);obtain⟨eo,z,sm,vs,O,o',ae,af,aa,Z,J,hk,hp,hn⟩:=(show ObjOk X.prog X.w H s.heap a (.frz ob (.dK kvs)) from I.hok a _ ea);have e1:=qi (aa.symm.trans eo);subst e1;rw[Y] at J;cases J;have len:=O.length;have da:s.heap.DictAt (g_3 X.prog X.w) a vs ep:=⟨o',es,eo,Z,Y,hk,hp,hn⟩;have ac:s.heap.IsKeyIter it a i vs.length ep:=by rw[<- len];exact st
  exact wpAny_pyNext_dict_end (I.ok.hd hc) ac da (by simp;omega) λ h' eb=>⟨rfl,I.turned (λ b o hb e=>eb b o hb e) f0 f1 f3 f4 f5⟩
 self:=λ _ _ _ _ _ st h=>wpAny_pyIter_keyiter st h
def cc2 (t:TE):TI:=λ σ H R=>t σ H λ x H1=>∃ a ob kvs,x=.ref a/\H1 a=some (.frz ob (.dK kvs))/\R (Itd a ob kvs) H1
theorem bn3  (hl:PE X l tl):PI X tg l (cc2 tl):=by
 intro pins s σ H R I h;refine thn (hl pins s σ H _ I h) λ v s1 O=>?_;obtain⟨x,H1,I1,r1,q1⟩:=O;obtain⟨a,ob,kvs,e,ea,q⟩:=q1;subst e;cases r1;obtain⟨eo,z,sm,vs,aa,o',Y,J,ac,ad,Z,hk,hp,hn⟩:=(show ObjOk X.prog X.w H1 s1.heap a (.frz ob (.dK kvs)) from I1.hok a _ ea);have e1:=qi (ac.symm.trans eo);subst e1;have len:=aa.length;have da:s1.heap.DictAt (g_3 X.prog X.w) a vs J:=⟨o',Y,eo,ad,Z,hk,hp,hn⟩;refine wpAny_pyIter_dict sm da ?_;refine⟨s1.heap.objs.size,[s1.heap.objs.size],_,_,H1,rfl,I1.kept λ b o e=>qd _ e,aG0 a _ o' kvs Y J Z,⟨_,qk _ rfl,rfl,by rw[len];rfl⟩,λ b hb=>?_,q⟩;have e:b=s1.heap.objs.size:=by simpa using hb
 subst e;exact I1.fpOk (qj _) (I1.hok.fresh (qj _))
theorem am8 {K:Frag}{ks:List Str} (Y:H1 a=some (.frz ob (.dK ((ks.map Sum.inr).zip vs)))) (l:ks.length=vs.length):z_3 K (Itd a ob ((ks.map Sum.inr).zip vs)) H1 (ks.map .str):=λ H0 H i s s'=>by
 have J:=s' _ _ (s _ _ Y);have q:((ks.map Sum.inr).zip vs:List (Key×V)).length=ks.length:=by rw[Yj,qy];omega
 refine⟨λ d e=>?_,λ h=>⟨by rw[q];simpa using h,J⟩⟩;rw[zl] at e;cases z:ks[i]? with
 |none=>rw[z] at e;cases e
 |some k =>
  rw[z] at e;cases e;have hi:=(List.getElem?_eq_some_iff.mp z).1;refine⟨⟨by rw[q];exact hi,J⟩,λ x H' ⟨h1,k',Z,h2,O⟩=>⟨h1,?_⟩⟩;rw[List.getElem?_zip_eq_some] at h2;obtain⟨h2,_⟩:=h2;rw[zl,z] at h2;cases h2;exact O
section
variable {ifs:List Expr}
theorem aU2 (i:Nat)  (hN:X.N.Nodup) (hc:X.calm=true) (ad:X.env.scope=sc) (Bk:ScB X.N sc scope x frees js) (hi:XE X iter I)
  (ht:∀ s H C Y,XTs (cxB X (x::frees) scope s H C Y) ifs T) (he:∀ s H C Y,XE (cxB X (x::frees) scope s H C Y) elt F) (Z:X.N[i]?=some y:=by rfl) (hy:X.env.scope.names.lookup y=some .local:=by rfl)
  (ac:swapsWith (.ListComp elt [⟨.Name x px,iter,ifs,0⟩] scope pos) (some (.Name y py)) spos.line X.env=pure true:=by rfl)
  (hs:∀ v,foldedSetIterable iter X.env v=pure v:=by intro _;rfl):XS X (.Assign [.Name y py] (.ListComp elt [⟨.Name x px,iter,ifs,0⟩] scope pos) spos) (d_5 i (by8 js I T F)) :=
 PS.wk (x_6 (tt:=tTt X.K T) (te:=tE X.K F) hN Z hy hc ad Bk (bn3 hi) ht he ac hs) λ Dn σ H O=>by
  obtain⟨c,H0,ρ,r,R,f,q⟩:=O;obtain⟨⟨d,aa⟩,J,f⟩:=a_0 f;have f':=f;cases f';obtain⟨⟨z,ae⟩,h1,J⟩:=a_0 J;obtain⟨⟨ks,ds⟩,g1,J⟩:=a_0 J;obtain⟨fr,h3,J⟩:=a_0 J;obtain⟨ys,h4,J⟩:=a_0 J;obtain⟨hz,J⟩:=Fx.ifs J;cases J;cases dctX_inv g1;refine⟨c,H0,ρ,_,ae,R,h1,λ v H1 Hh s1 R1 r1=>?_⟩;obtain⟨a,ob,vs,rfl,ea,t,l⟩:=r1;refine⟨a,ob,_,rfl,R1.same _ _ ea,?_⟩;refine bb8 R1 h3 h4 (by rw[qy];exact hz) (am8 ea (by rw[l,t.length])) λ vs H2 Hh2 s2 R2 r2=>λ p hp=>?_;have S:=Step.alloc (o:=.lst vs) R2.same hp;refine q _ _ _ (s1.trans (s2.trans S.s0)) ((R2.after S).set i ?_);exact⟨p,vs,rfl,.inl (.inl a_3),Reps.mono S.s0 _ r2⟩
end
end Fx
namespace Fx
open PySem PySem.W L2
structure XC (K:Frag) (C:Addr):Prop where
 is:(clsIn K C).isSome=true
 ga:findIn K (.ref C) "__getattribute__"=some (some (.builtin "BaseException.__getattribute__"))
 gh:findIn K (.ref C) "__getattr__"=some none
 cl:findIn K (.ref C) "__class__"=some (some (.builtin "object.__class__"))
 ge:specialIn K (.builtin "object.__class__") "__get__"=some (some (.builtin "getset_descriptor.__get__"))
 tk:takesIn K (.builtin "object.__class__")=some true
 mo:mroIn K C (.type "object")=some true
 mb:mroIn K C (.type "BaseException")=some true
section
theorem XC.ty  (f:XC K C) (X:K.In h):Looks M h (isType (.ref C)) true:=by
 obtain⟨cd,J⟩:=Option.isSome_iff_exists.mp f.is;revert J;unfold clsIn;intro J;split at J
 ·rename_i Z Y o3 o4 O;exact λ A Q E s k q=>qb (wpAny_loadPart (k C _ (X C _ O)) (qc q))
 ·exact nomatch J
theorem XC.ck {tk:Tok} (f:XC K C) (X:K.In s.heap) (I:InstAt s.heap x ox C od) (h:Q () s) :
  wpAny (model prog w) A (checkBuiltinCall "BaseException.__getattribute__" ⟨[.ref x,.str n tk],[]⟩) Q E s:=by
 have e1:builtinKind "BaseException.__getattribute__"=some .slot:=by decide +kernel
 have e2:splitId "BaseException.__getattribute__"=some ("BaseException","__getattribute__"):=by decide +kernel
 have e3:=F.args_bexc_ga (.ref x) (.str n tk);obtain⟨J,g,d,t,os⟩:=s;have q:Looks (model prog w) J (isInstance (.ref x) (.type "BaseException")) true:=(I.type).andThen (looks_mroIn X f.mb);refine qb (q.at ?_);rw[if_neg (by decide)];exact Yn e3 h
theorem XC.ca  (f:XC K C) (X:K.In s.heap) (I:InstAt s.heap x ox C od) (h:Q (some (.ref C)) {s with toks:=s.toks+1}) :
  wpAny (model prog w) A (getAttr? (.ref x) "__class__") Q E s:=by
 have O:findObj K C od "__class__"=some (.bind (.builtin "getset_descriptor.__get__") (.builtin "object.__class__")):=by obtain⟨cd,hc⟩:=Option.isSome_iff_exists.mp f.is;simp[findObj,hc,f.cl,f.ge,f.tk]
 obtain⟨hh,g,d,t,os⟩:=s;have q:=I.type (M:=model prog w);have Z:=looks_findIn (M:=model prog w) X f.ga;have L2:=looks_findIn (M:=model prog w) X f.gh;have J:=looks_find (M:=model prog w) X I O;have Y:(onTheHeap (.ref C)&&Value.builtin "BaseException.__getattribute__"==Value.builtin "object.__getattribute__")=false:=by rw[show (Value.builtin "BaseException.__getattribute__"==Value.builtin "object.__getattribute__")=false by decide +kernel];rfl
 refine qb (wpAny_mkText (qb (Yy ?_)));refine zw (qb (q.at (qb (Z.at ?_))));dsimp only;rw[Y,if_neg (by decide)];unfold getAttrByItsOwn hookBefore;refine qb ?_;rw[show onTheHeap (.ref C)=true from rfl,if_pos rfl];refine L2.at (qb (Yy (zw ?_)));unfold callGetattribute;rw[show (false&&onTheHeap (Value.builtin "BaseException.__getattribute__"))=false from rfl,if_neg (by decide)];refine qb (Yn (F.attr_ValueError.ga.bind (.ref x)) ?_);refine Zg (Zm F.attr_ValueError.ga.plain F.entry_bexc_ga (f.ck X I ?_));refine qb (qc (qb (qc (qb (q.at (qb (J.at ?_)))))));refine qb (zw (Zg (class_get X I f.mo (qc ?_))));exact handed_on rfl (qc h)
theorem XC.kitx (f:XC K C):KitX K (.ref x) (.ref C) (λ h=>InstAt h x ox C od) where
 ty:=λ _ _ _ I=>I.type
 it:=λ _ _ X _=>f.ty X
 ne:=λ h tp dd O n Z X e=>by
  obtain⟨cd,q⟩:=Option.isSome_iff_exists.mp f.is;cases Y:(Value.ref C==Value.ref tp) with
  |false=>rfl
  |true =>
   obtain rfl:C=tp:=Z0 (beq_iff_eq.mp Y);revert q;unfold clsIn;intro q;split at q
   ·rename_i o1 o2 o3 o4 J;exact nomatch (X C _ J).symm.trans e
   ·exact nomatch q
 ca:=λ X I k=>f.ca X I k
end
noncomputable def rcd (c:Value) (vs:Array Value) (dd:Option Addr:=none):Obj:={cls:=c,dict:=dd,data:=.fields vs,slots:=#[]}
theorem bw9  (q:s.heap.get? a=some (rcd c vs dd)) (J:k<vs.size)
  (h:∀ h',h'.get? a=some (rcd c (vs.setIfInBounds k x) dd)->Heap.SameBut a s.heap h'->Q () {s with heap:=h'}):wpAny (model prog w) A (setField (.ref a) k x) Q E s :=
 Qr q rfl J (h _ (zt _ q rfl) (yq s.heap a _))
def Aw (fs es:List Addr) (h h':Heap):Prop:=∀ b o,h.get? b=some o->b∉es->(b∉fs->h'.get? b=some o)/\∃ q,h'.get? b=some {o with slots:=q}
theorem Aw.of  (k:∀ b o,b∉es->h.get? b=some o->h'.get? b=some o):Aw fs es h h':=λ b o e n=>⟨λ _=>k b o n e,o.slots,k b o n e⟩
def Fly (h:Heap) (e T C:Addr) (dd:Option Addr) (q:Value):Prop:=T≠e ∧ (∃ vs,h.get? e=some (rcd (.ref C) vs dd) ∧ vs[1]?=some (.ref T)) ∧ ∃ ts,h.get? T=some (rcd (.type "traceback") ts) ∧ ts[3]?=some q
section
variable {s:Shared}{L e C T:Addr}
theorem ai5  (J:s.heap.FunFrames base l) (O:s.heap.get? e=some (rcd c vs dd)):e∉frs l:=λ z=>by
 obtain⟨_,o,q,Y⟩:=J.mem z;rw[O] at q;cases q;exact Y vs rfl
theorem al2  (Z:A.frames=some (env::outer)) (hl:s.heap.FunFrames base (env::outer)) (hf:env.frame=some L)
  (he:s.heap.get? e=some (rcd (.ref C) vs dd)) (h1:1<vs.size) (k:∀ h' T,Aw (frs (env::outer)) [e] s.heap h'->s.heap.objs.size<=T->Fly h' e T C dd (rawInt L)->Q () {s with heap:=h'}) :
  wpAny (model prog w) A (do setField (.ref e) 1 (<- EntryCells.newEntry J (<- frameOf env) .none (rawInt L) .none (<- entryPlaceOf L nx))) Q E s:=by
 refine qb (wpAny_frameOf_fun Z hl hf λ g O=>qb (wpAny_entryPlaceOf λ Y hp=>qb ?_));refine yr ?_ (hp.sizeOk5 J (.ref L) .none (rawInt L) .none);have hz:([J,.ref L,.none,rawInt L,.none]++(if Y.isEmpty then List.replicate 6 Value.none else Y)).toArray[3]?=some (rawInt L):=rfl;generalize ([J,.ref L,.none,rawInt L,.none]++(if Y.isEmpty then List.replicate 6 Value.none else Y)).toArray=ts at hz ⊢;have eg:=(O.2.1 e (ai5 hl he)).trans he;refine bw9 (qd _ eg) h1 λ h' e1 sb=>?_;have te:=Ye (qm eg);refine k h' g.objs.size (λ b o q n=>?_) (Nat.le_of_eq O.1.symm) ⟨te,⟨_,e1,by simp[h1]⟩,ts,?_,hz⟩
 ·have be:b≠e:=λ z=>n (by simp[z]);have up:∀ o',g.get? b=some o'->h'.get? b=some o':=λ o' z=>(sb.2 b be).trans (qd _ z);obtain⟨sl,z⟩:=O.2.2 b o q;exact⟨λ m=>up o ((O.2.1 b m).trans q),sl,up _ z⟩
 ·exact (sb.2 _ te).trans (qk _ rfl)
theorem K_7  (q:A.frames=some (env::outer)) (Y:s.heap.FunFrames base (env::outer)) (O:env.frame=some L)
  (J:s.heap.get? e=some (rcd (.ref C) vs dd)) (h1:vs[1]?=some .none) (k:∀ h' T,Aw (frs (env::outer)) [e] s.heap h'->s.heap.objs.size<=T->Fly h' e T C dd (rawInt L)->Q () {s with heap:=h'}) :
  wpAny (model prog w) A (noteFrame (.ref e) env) Q E s:=by
 simp only[noteFrame,O];refine qb (jw J rfl h1 ?_);rw[show (Value.none != Value.none)=false from rfl,if_neg (by decide)];exact al2 q Y O J (Array.getElem?_eq_some_iff.mp h1).1 k
theorem G_4 (Z:A.frames=some (env::outer)) (hl:s.heap.FunFrames base (env::outer)) (hf:env.frame=some L) (x:Fly s.heap e T C dd .none)
  (k:∀ h' O,Aw (frs (env::outer)) [e,T] s.heap h'->s.heap.objs.size<=O->Fly h' e O C dd (rawInt L)->Q () {s with heap:=h'}):wpAny (model prog w) A (noteFrame (.ref e) env) Q E s:=by
 obtain⟨te,⟨vs,he,h1⟩,ts,ht,h3⟩:=x;simp only[noteFrame,hf];refine qb (jw he rfl h1 ?_);rw[show (Value.ref T != Value.none)=true from rfl,if_pos rfl];refine qb (jw ht rfl h3 ?_);rw[show (Value.none==rawInt L)=false from rfl,if_neg (by decide)];refine qb (bw9 ht (Array.getElem?_eq_some_iff.mp h3).1 λ J e1 Y=>?_);have aa:=hl.of_keeps λ b o q n=>by
  have bt:b≠T:=λ z=>by subst z;rw[ht] at q;cases q;exact n ts rfl
  exact⟨o,(Y.2 b bt).trans q,rfl⟩
 refine al2 Z aa hf ((Y.2 e te.symm).trans he) (Array.getElem?_eq_some_iff.mp h1).1 λ h' O a z f=>k h' O (λ b o q n=>?_) (zf (Nat.le_of_eq Y.1.symm) z) f;simp only[zj,zk,yp,not_or] at n;exact a b o ((Y.2 b n.2).trans q) (by simp[n.1])
theorem P_8  (x:Fly s.heap e T C dd Z) (k:∀ h',Heap.SameBut T s.heap h'->Fly h' e T C dd .none->Q () {s with heap:=h'}):wpAny (model prog w) A (setFlight (.ref e) none) Q E s:=by
 obtain⟨te,⟨vs,J,h1⟩,ts,Y,h3⟩:=x;have O:=(Array.getElem?_eq_some_iff.mp h3).1;refine qb (jw J rfl h1 ?_);rw[show (Value.ref T != Value.none)=true from rfl,if_pos rfl];exact bw9 Y O λ h' e1 q=>k h' q ⟨te,⟨vs,(q.2 e te.symm).trans J,h1⟩,_,e1,by simp[O]⟩
theorem W_3 (q:env.frame=some L) (x:Fly s.heap e T C dd (rawInt L)) (k:Q () s):wpAny (model prog w) A (noteFrame (.ref e) env) Q E s:=by obtain⟨te,⟨vs,O,h1⟩,ts,J,Y⟩:=x;simp only[noteFrame,q];refine qb (jw O rfl h1 ?_);rw[show (Value.ref T != Value.none)=true from rfl,if_pos rfl];refine qb (jw J rfl Y ?_);rw[if_pos (beq_self_eq_true _)];exact qc k
theorem bs9  (x:Fly s.heap e T C dd Z) (k:∀ h',Heap.SameBut T s.heap h'->Fly h' e T C dd (rawInt L)->Q () {s with heap:=h'}) :
    wpAny (model prog w) A (do if (← field (.ref e) 1)==.none then unsupported "frame.own-activation:exception-without-traceback"
                               setFlight (.ref e) (some L)) Q E s:=by
  obtain⟨te,⟨vs,q,h1⟩,ts,Y,h3⟩:=x;have O:=(Array.getElem?_eq_some_iff.mp h3).1;refine qb (jw q rfl h1 ?_);rw[show (Value.ref T==Value.none)=false from rfl,if_neg (by decide)];refine qb (jw q rfl h1 ?_);rw[show (Value.ref T != Value.none)=true from rfl,if_pos rfl];exact bw9 Y O λ h' e1 J=>k h' J ⟨te,⟨vs,(J.2 e te.symm).trans q,h1⟩,_,e1,by simp[O]⟩
end
end Fx
namespace Fx
open PySem PySem.W PySem.Spec PyProof.Rows L2
def CXE (P:Program) (w:World):CXT:=λ outer H s E e s'=>∃ a T C dd H',e=.ref a/\s'.os=s.os/\AllBare s'.gens/\Un (frs outer) [] H H' s.heap s'.heap/\HOk P w H' s'.heap /\
 s.heap.get? a=none/\s.heap.get? T=none/\H' a=none/\H' T=none/\Fly s'.heap a T C dd .none/\E (.ref C) dd H'
theorem bb3 {P:Program}{w:World}{H:Hp}{h:Heap}{a:Addr}{o:HO} (k:ObjOk P w H h a o):∃ u,h.get? a=some u:=by
 cases o with
 |lst=>obtain⟨_,_,_,_,e⟩:=k;exact⟨_,e⟩
 |tup=>obtain⟨_,_,_,o,e,_⟩:=k;exact⟨_,e⟩
 |dK=>obtain⟨_,_,_,_,o,_,_,e,_⟩:=k;exact⟨_,e⟩
 |dT=>obtain⟨_,_,_,_,o,_,_,e,_⟩:=k;exact⟨_,e⟩
 |set=>obtain⟨_,_,_,_,e,_⟩:=k;exact⟨_,e⟩
 |ins=>obtain⟨_,_,_,e,_⟩:=k;exact⟨_,e⟩
 |own=>exact k
 |xd=>obtain⟨_,x,_⟩:=k;obtain⟨o,_,_,e,_⟩:=x;exact⟨_,e⟩
 |rng=>obtain⟨_,_,_,e⟩:=k;exact⟨_,e⟩
 |frz=>exact⟨_,k.1⟩
 |tbl=>exact⟨_,k⟩
 |met=>exact⟨_,k⟩
 |ext=>obtain⟨_,e,_⟩:=k;exact e
theorem z_1  (ok:HOk P w H h) (n:h.get? a=none):H a=none:=by
 cases e:H a with
 |none=>rfl
 |some o =>
  obtain⟨u,q⟩:=bb3 (ok a o e);rw[n] at q;cases q
section
variable {X:Cx}{pins:List (Addr×Obj)}{σ:L2.St}{H:Hp}{s:Shared}{h':Heap}{es:List Addr}
theorem aR9  (ok:HOk P w H h) (a:Aw fs es h h') (O:∀ b∈fs,H b=none) (Y:∀ b∈es,H b=none):HOk P w H h':=λ b o e=>by
 have out:∀ c,H c≠none->c∉fs/\c∉es:=λ c n=>⟨λ z=>n (O c z),λ z=>n (Y c z)⟩
 refine (ok b o e).stay (λ c u J q=>?_) (λ _ z=>z) (λ _ _ z=>z);have n:H c≠none:=by
  rcases J with rfl | J
  ·rw[e];exact Option.some_ne_none _
  ·rw[J];exact Option.some_ne_none _
 exact (a c u q (out c n).2).1 (out c n).1
def aq7 (X:Cx) (pins:List (Addr×Obj)) (H:Hp) (b:Addr):Prop :=
 H b=none/\b≠X.env.locals/\(b∈X.ex\/X.s₀.heap.get? b=none)/\(∀ x c,X.env.cells.lookup x=some c->c≠b)/\∀ p∈X.pn++pins,p.1≠b
theorem ax4  (I:Inv X pins σ H s) (n:s.heap.get? b=none) (J:H' b=none):aq7 X pins H' b:=by
 refine⟨J,λ z=>?_,?_,λ x c e z=>?_,λ p O z=>?_⟩
 ·obtain⟨m,⟨o,_,_,q,_⟩,_⟩:=I.loc;rw[<- z,n] at q;cases q
 ·by_cases hx:b∈X.ex
  ·exact .inl hx
  ·refine .inr ?_;cases e:X.s₀.heap.get? b with
   |none=>rfl
   |some o =>
    obtain⟨o',q⟩:=I.base.there b o e hx;rw[n] at q;cases q
 ·obtain⟨v,o,q,_⟩:=I.cell x c e;rw[z,n] at q;cases q
 ·have q:=(I.pin p O).1;rw[z,n] at q;cases q
theorem L_1  (I:Inv X pins σ H s) (a:Aw (frs X.stack) es s.heap h') (he:∀ b∈es,aq7 X pins H b):Inv X pins σ H {s with heap:=h',toks:=t'}:=by
 have J:∀ b o,X.s₀.heap.get? b=some o->b∉X.ex->b≠X.env.locals/\b∉es:=λ b o q hx=>by
  refine⟨qt (qr (qm q) I.ok.above),λ z=>?_⟩;rcases (he b z).2.2.1 with y | y
  ·exact hx y
  ·rw[q] at y;cases y
 have fr:∀ b,b≠X.env.locals->b∉X.fs->b∉frs X.stack:=λ b n m z=>(qv (I.stkSub b z)).elim n m;have un:=I.base;have O:∀ x c v,X.env.cells.lookup x=some c->s.heap.IsCell c v->h'.IsCell c v:=λ x c v e Y=>by
  obtain⟨o,q,d⟩:=Y;obtain⟨_,sl,q'⟩:=a c o q λ z=>(he c z).2.2.2.1 x c e rfl;exact⟨_,q',d⟩
 refine⟨I.ok,I.os,I.bare,⟨λ b o q n hb hx=>?_,λ b o q n hb hx=>?_,un.free,λ b o q hx=>?_,un.tups,un.frzs,un.tbls⟩,?_,λ x c e=>?_,I.free,I.freeC,λ p hp=>?_,aR9 I.hok a I.stkFree λ b z=>(he b z).1,I.len⟩
 ·exact (a b o (un.keep b o q n hb hx) (J b o q hx).2).1 (fr b (J b o q hx).1 hb)
 ·obtain⟨sl,q1⟩:=un.slot b o q n hb hx;obtain⟨_,Z,q2⟩:=a b _ q1 (J b o q hx).2;exact⟨Z,q2⟩
 ·obtain⟨o',q1⟩:=un.there b o q hx;obtain⟨_,Z,q2⟩:=a b _ q1 (J b o q hx).2;exact⟨_,q2⟩
 ·obtain⟨m,⟨o,aa,ep,q,r⟩,hl⟩:=I.loc;obtain⟨_,sl,q'⟩:=a _ o q λ z=>(he _ z).2.1 rfl;refine⟨m,⟨_,aa,ep,q',r⟩,λ i x v e1 e2 e3=>?_⟩;obtain⟨u,rv,l⟩:=hl i x v e1 e2 e3;refine⟨u,rv,l.imp id ?_⟩;rintro ⟨k,c,e,z⟩;exact⟨k,c,e,O x c _ e z⟩
 ·obtain⟨v,z⟩:=I.cell x c e;exact⟨v,O x c v e z⟩
 ·obtain⟨q,n,ne,nf,d⟩:=I.pin p hp;exact⟨(a p.1 p.2 q λ z=>(he _ z).2.2.2.2 p hp rfl).1 (fr p.1 ne nf),n,ne,nf,d⟩
end
section
variable {K:Frag}
theorem aJ6  (I:Inv (R_5 (CXE P w) P w K mg base N qual scope f cd A outer s H E) pins σ H1 s2)
  (fa:H1 a=none) (na:s.heap.get? a=none) (there:(∃ vs,s2.heap.get? a=some (rcd (.ref C) vs dd)/\vs[1]?=some .none)\/∃ T O,(O=.none\/O=rawInt s.heap.objs.size)/\H1 T=none/\s.heap.get? T=none/\Fly s2.heap a T C dd O) (e:E (.ref C) dd H1) :
  (R_5 (CXE P w) P w K mg base N qual scope f cd A outer s H E).xe (.ref a) s2:=by
 have ag:=I.stack;have af:=I.ok.frames;have un:=I.base;have ah:∀ b,s2.heap.get? b=none->s.heap.get? b=none:=λ b z=>by
  cases q:s.heap.get? b with
  |none=>rfl
  |some o =>
   obtain⟨o',q'⟩:=un.there b o q (by intro y;cases y);rw[z] at q';cases q'
 have hL:∀ b o,s.heap.get? b=some o->b≠s.heap.objs.size:=λ b o q=>qt (qm q);have fin:∀ (h':Heap) (T:Addr) (es:List Addr),Aw (frs (envOfC qual scope s.heap.objs.size f cd::outer)) es s2.heap h'->(∀ b∈es,H1 b=none/\s.heap.get? b=none)->T∈es->Fly h' a T C dd .none->CXE P w outer H s E (.ref a) {s2 with heap:=h'}:=by
  intro h' T es aw J hT O;have aa:∀ b o,s.heap.get? b=some o->b∉es:=λ b o q z=>by rw[(J b z).2] at q;cases q
  refine⟨a,T,C,dd,H1,rfl,I.os,I.bare,⟨λ b o q n hb _=>?_,λ b o q n hb _=>?_,λ b o q n hx=>un.free b o q n hx,λ b o q hx=>?_,un.tups,un.frzs,un.tbls⟩,aR9 I.hok aw (λ b z=>I.stkFree b z) (λ b z=>(J b z).1),
   na,(J T hT).2,fa,(J T hT).1,O,e⟩
  ·have Z:=un.keep b o q n hb (by intro z;cases z);refine (aw b o Z (aa b o q)).1 λ z=>?_;rcases qv (show b∈s.heap.objs.size::frs outer from z) with z | z
   ·exact hL b o q z
   ·exact hb z
  ·obtain⟨sl,Z⟩:=un.slot b o q n hb (by intro z;cases z);obtain⟨_,ae,q2⟩:=aw b _ Z (aa b o q);exact⟨ae,q2⟩
  ·obtain⟨o',Z⟩:=un.there b o q hx;obtain⟨_,ae,q2⟩:=aw b _ Z (aa b o q);exact⟨_,q2⟩
 have Y:∀ (h':Heap) (T:Addr) (es:List Addr),Aw (frs (envOfC qual scope s.heap.objs.size f cd::outer)) es s2.heap h'->s2.heap.objs.size<=T->(∀ b∈es,H1 b=none/\s.heap.get? b=none)->Fly h' a T C dd (rawInt s.heap.objs.size) ->
   wpAny (model P w) (A.deeper (envOfC qual scope s.heap.objs.size f cd)) (setFlight (.ref a) none) (λ _ ad=>CXE P w outer H s E (.ref a) ad) (λ e' ad=>CXE P w outer H s E e' ad) {s2 with heap:=h'}:=by
  intro h' T es aw zT J O;have dT:=y9 zT;refine P_8 O λ h2 sb ac=>fin h2 T (T::es) (λ b o q n=>?_) (λ b z=>?_) (by simp) ac
  ·simp only[zj,not_or] at n;obtain⟨p1,sl,Z⟩:=aw b o q n.2;exact⟨λ m=>(sb.2 b n.1).trans (p1 m),sl,(sb.2 b n.1).trans Z⟩
  ·rcases qv z with rfl | z
   ·exact⟨z_1 I.hok dT,ah _ dT⟩
   ·exact J b z
 show wpAny _ _ (leaving _ _) _ _ _;rcases there with ⟨vs,ea,h1⟩ | ⟨T,_,rfl | rfl,fT,nT,O⟩
 ·exact qb (K_7 af ag rfl ea h1 λ h' T a1 z O=>Y h' T [a] a1 z (by simpa using ⟨fa,na⟩) O)
 ·exact qb (G_4 af ag rfl O λ h' T' a1 z ai=>Y h' T' [a,T] a1 z (by simpa using ⟨⟨fa,na⟩,fT,nT⟩) ai)
 ·exact qb (W_3 rfl O (P_8 O λ h2 sb ac=>fin h2 T [T] (Aw.of λ b o n z=>(sb.2 b (by simpa using n)).trans z) (by simpa using ⟨fT,nT⟩) (by simp) ac))
def af5 (X:Cx) (E:XK):Prop:=∀ (pins:List (Addr×Obj)) (σ:L2.St) (H:Hp) (s:Shared) (e C:Addr) (dd:Option Addr) (vs:Array Value),Inv X pins σ H s->H e=none->X.s₀.heap.get? e=none->s.heap.get? e=some (rcd (.ref C) vs dd)->vs[1]?=some .none->E (.ref C) dd H->X.xe (.ref e) s
end
noncomputable abbrev bmV:List Value:=[.type "ValueError",.type "Exception",.type "BaseException",.type "object"]
end Fx
namespace Fx
open PySem
noncomputable abbrev XV:=Str×Option (Str×D)
inductive RX where
 |ok (r:Res) | ex (x:XV)
abbrev FX:=En->Option RX
noncomputable def okX (r:Res):Option RX:=some (.ok r)
def rS (A:FS) (ρ:En):Option RX:=bnd (A ρ) okX
def nxX (B:FX):RX->Option RX
 |.ok (.nx ρ)=>B ρ
 |r=>some r
def bF5 (A B:FX) (ρ:En):Option RX:=bnd (A ρ) (nxX B)
def ifX (A B:FX) (p:Bool×En):Option RX:=if p.1=true then A p.2 else B p.2
def rIf (T:FT) (A B:FX) (ρ:En):Option RX:=bnd (T ρ) (ifX A B)
def N_5 (x f:Str) (o:Option (D×En)):Option RX:=bnd o λ p=>some (.ex (x,some (f,p.1)))
def N_6 (x f:Str) (F:FE) (ρ:En):Option RX:=N_5 x f (F ρ)
@[simp] theorem by0:N_6 x f F ρ=N_5 x f (F ρ):=yI rfl
@[simp] theorem bm2:N_5 x f (some (d,ρ))=some (.ex (x,some (f,d))):=yI rfl
def bx8:RX->Option (D ⊕ XV)
 |.ok r=>bnd (bx9 r) λ d=>some (.inl d)
 |.ex x=>some (.inr x)
def fnX (n k:Nat) (B:FX) (ds:List D):Option (D ⊕ XV):=if ds.length=n then bnd (B (ds.map .im++List.replicate k .no)) bx8 else none
@[simp] theorem rS_:rS A ρ=bnd (A ρ) okX:=yI rfl
@[simp] theorem ch0:okX r=some (.ok r):=yI rfl
@[simp] theorem ca6:nxX B (.ok (.nx ρ))=B ρ:=yI rfl
@[simp] theorem bZ6:bF5 A B ρ=bnd (A ρ) (nxX B):=yI rfl
@[simp] theorem cb9:ifX A B (true,ρ)=A ρ:=yI rfl
@[simp] theorem cc0:ifX A B (false,ρ)=B ρ:=yI rfl
@[simp] theorem cg9:rIf T A B ρ=bnd (T ρ) (ifX A B):=yI rfl
@[simp] theorem bO9:bx8 (.ok (.nx ρ))=some (.inl .non):=yI rfl
@[simp] theorem bO8:bx8 (.ex x)=some (.inr x):=yI rfl
end Fx
namespace Fx
open PySem PySem.W PySem.Spec PyProof.Rows L2
def XD (K:Frag) (H0 H:Hp):Option (Str×D)->Option Addr->Prop
 |none,none=>True
 |some p,some dx=>∃ v,Rep K H0 p.2 v/\H dx=some (.xd [(p.1,v)])
 |_,_=>False
def PostX (K:Frag) (mg:Str->Option Value) (E:XK) (c:FC) (O:Ends) (H0:Hp):RX->Prop
 |.ok r=>Post K c O H0 r
 |.ex x=>∀ C dd J q H0' H',mg x.1=some (.ref C)->Same H0 H0'->RS K c H0' H' J q->XD K H0' H' x.2 dd->E (.ref C) dd H'
theorem PostX.mono {K:Frag} (s:Same H0 H1):∀ {r:RX},PostX K mg E c O H0 r->PostX K mg E c O H1 r
 |.ok _,h=>Post.mono s h
 |.ex _,h=>λ C dd J q H0' H' m z=>h C dd J q H0' H' m (s.trans z)
def tX (K:Frag) (mg:Str->Option Value) (E:XK) (F:FX):TS:=λ q σ H=>∃ c H0 ρ r,RS K c H0 H ρ σ/\F ρ=some r/\PostX K mg E c q H0 r
def XX1 (X:Cx) (E:XK) (st:Stmt) (F:FX):Prop:=PS X st (tX X.K X.mg E F)
def XX (X:Cx) (E:XK) (sts:List Stmt) (F:FX):Prop:=PSs X sts (tX X.K X.mg E F)
section
variable {st:Stmt}
theorem aP7  (h:rS S ρ=some r):∃ z,S ρ=some z/\r=.ok z:=by obtain⟨z,h1,h2⟩:=a_0 h;exact⟨z,h1,(qi h2).symm⟩
theorem xxs (h:XS X st S):XX1 X E st (rS S):=PS.wk h λ O σ H J=>by
 obtain⟨c,H0,ρ,r,R,f,q⟩:=J;obtain⟨z,h1,rfl⟩:=aP7 f;exact⟨c,H0,ρ,z,R,h1,q⟩
theorem bM7 (h:XSs X sts S):XX X E sts (rS S):=PSs.wk h λ O σ H J=>by
 obtain⟨c,H0,ρ,r,R,f,q⟩:=J;obtain⟨z,h1,rfl⟩:=aP7 f;exact⟨c,H0,ρ,z,R,h1,q⟩
theorem xx1 (h:XX1 X E st A):XX X E [st] A:=s_8 h
theorem xxC (h1:XX1 X E st A) (h2:XX X E sts B):XX X E (st::sts) (bF5 A B):=PSs.wk (k_9 h1 h2) λ Z σ H J=>by
 obtain⟨c,H0,ρ,r,R,f,q⟩:=J;obtain⟨z,h,f⟩:=a_0 f;refine⟨c,H0,ρ,z,R,h,?_⟩
 match z,f with
 |.ok (.nx ρ1),f=>exact λ Y H0' H' s O=>⟨c,H0',ρ1,r,O,f,q.mono s⟩
 |.ok (.rt _ _),f=>cases f;exact q
 |.ok (.bk _),f=>cases f;exact q
 |.ok (.ct _),f=>cases f;exact q
 |.ex _,f=>cases f;exact q
theorem bM8  (hc:XT X c T) (ha:XX X E a A) (Z:XX X E b B):XX1 X E (.If c a b pos) (rIf T A B):=PS.wk (aY1 hc ha Z) λ Dn σ H O=>by
 obtain⟨c,H0,ρ,r,R,f,q⟩:=O;obtain⟨⟨k,J⟩,h1,f⟩:=a_0 f;refine⟨c,H0,ρ,k,J,R,h1,λ H1 Hh s1 Y=>?_⟩;cases k with
 |true=>rw[if_pos rfl];exact⟨c,H1,J,r,Y,f,q.mono s1⟩
 |false=>rw[if_neg zo];exact⟨c,H1,J,r,Y,f,q.mono s1⟩
end
def cc9 (K:Frag) (mg:Str->Option Value) (q H:Hp) (Q:VK) (E:XK):D ⊕ XV->Prop
 |.inl d=>∀ v Hi' H',Step q H Hi' H'->Rep K Hi' d v->Q v H'
 |.inr x=>∀ C dd Hi' H',mg x.1=some (.ref C)->Step q H Hi' H'->XD K Hi' H' x.2 dd->E (.ref C) dd H'
def spX (K:Frag) (mg:Str->Option Value) (g:List D->Option (D ⊕ XV)):Sp:=λ vs H Q E=>∃ q ds r,Same q H/\Reps K q ds vs/\g ds=some r/\cc9 K mg q H Q E r
structure DefX (P:Program) (w:World) (K:Frag) (mg:Str->Option Value) (base:Heap) (k:Nat) (x:Str) (g:List D->Option (D ⊕ XV)):Prop where
 ex:∃ f fd ps,FnOk P w K mg base (CXE P w) k f fd ps (spX K mg g)/\Binds K fd ps []/\keepIn K (.ref f)=true/\mg x=some (.ref f)
theorem bs6 {K:Frag}{st:Stmt} (F:Fun K x qual st f fd) (S:FnScope N ps (a_2 st)) (hn:ps.length=n) (hN:N.length=n+m)
  (hb:∀ (J:Value) (A:Around) (outer:List Env) (s:Shared) (H:Hp) (E:XK),Room k (A.deeper (envOfC qual (a_2 st) s.heap.objs.size f J))->XX (R_5 (CXE P w) P w K mg base N qual (a_2 st) f J A outer s H E) E (k_2 st) B) :
  FnOk P w K mg base (CXE P w) (k+1) f fd ps (spX K mg (fnX n m B)):=by
 have Y:∀ {ds:List D}{r:D ⊕ XV},fnX n m B ds=some r->ds.length=n/\∃ z,B (ds.map .im++List.replicate m .no)=some z/\bx8 z=some r:=λ {ds r} h=>by
  unfold fnX at h;split at h
  ·rename_i hl;obtain⟨z,h1,h2⟩:=a_0 h;exact⟨hl,z,h1,h2⟩
  ·cases h
 obtain⟨oc,od,kV,ad,pm,an,J,ct,ac,rfl,lk,aa⟩:=F.ex;refine bd1 lk aa S (λ vs H Q E h=>?_) λ A outer s H vs Q E hr h=>?_
 ·obtain⟨Z,ds,d,_,r,e,_⟩:=h;rw[hn,<- r.length];exact (Y e).1
 ·obtain⟨Z,ds,d,hs,r,e,q⟩:=h;obtain⟨hl,z,h1,h2⟩:=Y e;refine⟨_,hb J A outer s H E hr,⟨Z,H,[]⟩,Z,_,z,RS.start hs r (by rw[<- r.length];omega),h1,?_⟩
  match z,h2 with
  |.ok (.nx _),h2=>cases h2;exact λ O H0' H' s0 R=>q .non H0' H' R.step (by rfl)
  |.ok (.rt _ _),h2=>cases h2;exact λ v O H0' H' s0 R rv=>q v H0' H' R.step rv
  |.ok (.bk _),h2=>cases h2
  |.ok (.ct _),h2=>cases h2
  |.ex _,h2=>cases h2;exact λ C dd ae O H0' H' m s0 R xd=>q C dd H0' H' m R.step xd
section
variable {X:Cx}{pins:List (Addr×Obj)}{σ:L2.St}{H:Hp}{s:Shared}{a:Addr}{o:Obj}
noncomputable abbrev q_9 (X:Cx) (a:Addr) (o:Obj):Cx:={X with pn:=(a,o)::X.pn}
theorem bG9 (k:X.Ok):(q_9 X a o).Ok:=⟨k.mod,k.kind,k.glob,k.blt,k.above,k.inj,k.has,k.cab,k.hd,k.frames,k.stk,k.exf,k.bs,k.bsz,k.noex,k.exfs,k.funs,k.frf⟩
theorem bA5 (k:(q_9 X a o).Ok):X.Ok:=⟨k.mod,k.kind,k.glob,k.blt,k.above,k.inj,k.has,k.cab,k.hd,k.frames,k.stk,k.exf,k.bs,k.bsz,k.noex,k.exfs,k.funs,k.frf⟩
theorem bh1 (I:Inv X pins σ H s) (q:s.heap.get? a=some o) (n:H a=none) (J:a≠X.env.locals) (O:a∉X.fs) (d:∀ v,o.data≠.cell v):Inv X ((a,o)::pins) σ H s :=
 ⟨I.ok,I.os,I.bare,I.base,I.loc,I.cell,I.free,I.freeC,λ p Y=>by
  rcases qx Y with z | z
  ·exact I.pin p (List.mem_append.mpr (.inl z))
  ·rcases qv z with rfl | z
   ·exact⟨q,n,J,O,d⟩
   ·exact I.pin p (List.mem_append.mpr (.inr z)),I.hok,I.len⟩
theorem bA7 (I:Inv X ((a,o)::pins) σ H s):Inv (q_9 X a o) pins σ H s :=
 ⟨bG9 I.ok,I.os,I.bare,I.base,I.loc,I.cell,I.free,I.freeC,λ p q=>I.pin p (by simp at q ⊢;rcases q with rfl | z | z <;> simp[*]),I.hok,I.len⟩
theorem bp2 (I:Inv (q_9 X a o) pins σ H s):Inv X pins σ H s :=
 ⟨bA5 I.ok,I.os,I.bare,I.base,I.loc,I.cell,I.free,I.freeC,λ p q=>I.pin p (qh _ q),I.hok,I.len⟩
noncomputable abbrev ad4 (X:Cx) (a:Addr) (E:Value->Shared->Prop):Cx:={X with A:=X.A.mark (some (.ref a)),calm:=false,xe:=E}
theorem ak0  (I:Inv X pins σ H s) (b:Addr):Inv (ad4 X b E) pins σ H s :=
 let k:=I.ok
 ⟨⟨k.mod,k.kind,k.glob,k.blt,k.above,k.inj,k.has,k.cab,(λ z=>nomatch z),k.frames,k.stk,k.exf,k.bs,k.bsz,k.noex,k.exfs,k.funs,k.frf⟩,I.os,I.bare,I.base,I.loc,I.cell,I.free,I.freeC,I.pin,I.hok,I.len⟩
theorem aF9  (ok:X.Ok) (I:Inv (ad4 X b E) pins σ H s):Inv X pins σ H s :=
 ⟨ok,I.os,I.bare,I.base,I.loc,I.cell,I.free,I.freeC,I.pin,I.hok,I.len⟩
theorem aK2  (I:Inv X pins σ H s) (hN:X.N.Nodup) (hi:X.N[i]?=some x) (hm:s.heap.Ns X.env.locals m) (hn:h'.Ns X.env.locals (λ y=>if y=x then v else m y)) (Y:Heap.SameBut X.env.locals s.heap h') :
  Inv X pins (σ.set i none) H {s with heap:=h',toks:=t'}:=by
 have O:∀ b o,X.s₀.heap.get? b=some o->b≠X.env.locals:=λ b o q=>qt (qr (qm q) I.ok.above);refine⟨I.ok,I.os,I.bare,⟨λ b o e n hb hx=>(Y.2 b (O b o e)).trans (I.base.keep b o e n hb hx),λ b o e n hb hx=>?_,I.base.free,λ b o e hx=>?_,I.base.tups,I.base.frzs,I.base.tbls⟩,?_,λ y c e=>?_,I.free,I.freeC,λ p hp=>?_,λ b u e=>?_,by simpa using I.len⟩
 ·obtain⟨sl,q⟩:=I.base.slot b o e n hb hx;exact⟨sl,(Y.2 b (O b o e)).trans q⟩
 ·obtain⟨o',q⟩:=I.base.there b o e hx;exact⟨o',(Y.2 b (O b o e)).trans q⟩
 ·obtain⟨m1,aa,hl⟩:=I.loc;obtain⟨oL,ac,ag,q1,d1,k1,f1⟩:=aa;obtain⟨af,ae,ad,q2,d2,k2,f2⟩:=hm;rw[q1] at q2;cases q2;rw[d1] at d2;cases d2;have mm:=funext λ y=>(f2 y).symm.trans (f1 y);subst mm;refine⟨_,hn,λ j y u e1 e2 e3=>?_⟩;by_cases hj:j=i
  ·subst hj;rw[zi (by rw[I.len];exact (List.getElem?_eq_some_iff.mp hi).1)] at e2;cases e2
  ·rw[zh (zv hj)] at e2;obtain⟨w,r,l⟩:=hl j y u e1 e2 e3;have ne:y≠x:=λ z=>hj (P_3 hN e1 (z▸hi));refine⟨w,r,?_⟩;rcases l with ⟨k,e⟩ | ⟨k,c,e,z⟩
   ·exact .inl ⟨k,by simp[ne,e]⟩
   ·exact .inr ⟨k,c,e,z.sameBut Y (I.cne y c e)⟩
 ·obtain⟨w,z⟩:=I.cell y c e;exact⟨w,z.sameBut Y (I.cne y c e)⟩
 ·obtain⟨q,n,ne,nf,d⟩:=I.pin p hp;exact⟨(Y.2 p.1 ne).trans q,n,ne,nf,d⟩
 ·refine (I.hok b u e).stay (λ c w Z q=>(Y.2 c λ z=>?_).trans q) (λ _ q=>q) λ _ _ q=>q;subst z;have J:=I.free;rcases Z with rfl | Z
  ·rw[J] at e;cases e
  ·rw[J] at Z;cases Z
end
section
variable {X:Cx}{k:Nat}{x:Str}{g:List D->Option (D ⊕ XV)}{e0:Expr}{es:List Expr}{A:FA}{p pos:Pos}
def bV7 (X:Cx) (pins:List (Addr×Obj)) (σ:L2.St) (c:FC) (H0:Hp) (q:En) (y:XV) (e:Value) (s':Shared):Prop :=
 ∃ C a T dd H0' H',X.mg y.1=some (.ref C)/\e=.ref a/\Inv X pins σ H' s'/\Same H0 H0'/\RS X.K c H0' H' q σ/\aq7 X pins H' a/\aq7 X pins H' T/\Fly s'.heap a T C dd .none/\XD X.K H0' H' y.2 dd
end
theorem bv5 {K:Frag} (h:mroIn K c v=some b):(clsIn K c).isSome=true:=by
 unfold mroIn at h;cases e:clsIn K c with
 |none=>rw[e] at h;cases h
 |some d=>rfl
def XTr (H:Hp):Option Addr->Prop
 |none=>True
 |some dx=>∃ fs,H dx=some (.xd fs)
section
theorem bc2  (I:Inv (q_9 X a (rcd (.ref C) vs dd)) pins σ H s) (t:XTr H dd):∃ od,InstAt s.heap a (rcd (.ref C) vs dd) C od:=by
 have q:=(I.pin (a,rcd (.ref C) vs dd) (qg)).1;cases dd with
 |none=>exact⟨none,q,rfl,rfl,trivial⟩
 |some dx =>
  obtain⟨fs,e⟩:=t;obtain⟨O,⟨o,_,_,J,_⟩,_⟩:=(show ObjOk _ _ H s.heap dx (.xd fs) from I.hok dx _ e);exact⟨some o,q,rfl,rfl,J⟩
theorem u_7  (f:XC X.K C) (O:∀ w,RelV v w → w=u) (hk:kitOne X.K (.ref C) u=some b):CallR (q_9 X a (rcd (.ref C) vs dd)) (.builtin "isinstance") (λ xs H Q=>xs=[.ref a,v] ∧ XTr H dd ∧ Q (.bl b) H):=by
 intro pins s σ H xs us Q I r h;obtain⟨rfl,xt,q⟩:=h;obtain⟨J,Z,rfl,r1,r2⟩:=aF5 r;obtain rfl:J=.ref a:=r1;obtain rfl:=O Z r2;obtain⟨od,Y⟩:=bc2 I xt;exact kia_one f.kitx I.kIn Y hk (λ z=>nomatch z) λ tk=>⟨.bl b,H,I.tok tk,rfl,q⟩
theorem V_3 {D:Addr} (J:Y.mg x=some (.ref D)) (q:Gl Y x:=by rfl) (hd:(x==("__debug__":Str))=false:=by decide):PE Y (.Name x p) (tC (.ref D)):=λ pins s σ H Q I h=>A_2 I q J ⟨.ref D,H,I,rfl,h⟩ hd
end
end Fx
namespace Fx
open PySem
def goX (G:FX):RX->Option RX
 |.ok (.nx ρ)=>G ρ
 |.ok (.ct ρ)=>G ρ
 |.ok (.bk ρ)=>some (.ok (.nx ρ))
 |z=>some z
def xGo (g:D->En->Option En) (B:FX):List D->FX
 |[],ρ=>some (.ok (.nx ρ))
 |d::r,ρ=>bnd (g d ρ) λ q=>bnd (B q) λ z=>goX (xGo g B r) z
theorem aU6 (g:D->En->Option En) (B:FX) (ρ:En):xGo g B [] ρ=some (.ok (.nx ρ)):=rfl
theorem af6 (g:D->En->Option En) (B:FX) (d:D) (r:List D) (ρ:En):xGo g B (d::r) ρ=bnd (g d ρ) λ q=>bnd (B q) λ z=>goX (xGo g B r) z:=rfl
end Fx
namespace Fx
open PySem PySem.W PySem.Spec PyProof.Rows L2
def Flt (X:Cx) (E:XK) (e:Value) (s':Shared):Prop:=∃ σ H1 a C dd,e=.ref a/\Inv X [] σ H1 s'/\H1 a=none/\X.s₀.heap.get? a=none /\
 ((∃ vs,s'.heap.get? a=some (rcd (.ref C) vs dd)/\vs[1]?=some .none)\/∃ T q,(q=.none\/q=rawInt X.env.locals)/\H1 T=none/\X.s₀.heap.get? T=none/\Fly s'.heap a T C dd q)/\E (.ref C) dd H1
section
theorem ai4  (Y:X.pn=[]) (I:Inv X [] σ H s) (q:s.heap.get? a=some (rcd c vs dd)) (h:H a=none) (n:X.s₀.heap.get? a=none):aq7 X [] H a:=by
 refine⟨h,λ z=>?_,.inr n,λ x O e z=>?_,λ p m=>?_⟩
 ·obtain⟨m,⟨o,es,ep,J,d,_⟩,_⟩:=I.loc;rw[<- z,q] at J;cases J;cases d
 ·obtain⟨v,o,J,d⟩:=I.cell x O e;rw[z,q] at J;cases J;cases d
 ·rw[Y] at m;cases m
theorem bd3 (O:X.stack=X.env::X.outer) (J:X.env.frame=some X.env.locals) (hx:X.ex=[]) (hp:X.pn=[]):PassesOwn (model X.prog X.w) X.A X.env (Flt X E):=by
 rintro e s' ⟨σ,H1,a,C,dd,rfl,I,fa,na,th,q⟩;have fr:=I.ok.frames;rw[O] at fr;have st:=I.stack;rw[O] at st;have Z:∀ b,s'.heap.get? b=none->X.s₀.heap.get? b=none:=λ b z=>by
  cases w:X.s₀.heap.get? b with
  |none=>rfl
  |some o =>
   obtain⟨o',w'⟩:=I.base.there b o w (by rw[hx];intro y;cases y);rw[z] at w';cases w'
 have on:∀ (h':Heap) (T:Addr),Inv X [] σ H1 {s' with heap:=h'}->H1 T=none->X.s₀.heap.get? T=none->Fly h' a T C dd (rawInt X.env.locals)->cameBackBy (model X.prog X.w) X.A X.env (Flt X E) (.ref a) {s' with heap:=h'}:=λ h' T I' fT nT Y=>by
  unfold cameBackBy;rw[J];refine bs9 Y λ h2 sb aa=>⟨σ,H1,a,C,dd,rfl,?_,fa,na,.inr ⟨T,_,.inr rfl,fT,nT,aa⟩,q⟩
  obtain⟨_,_,ts,ht,_⟩:=id Y;exact L_1 (es:=[T]) I' (Aw.of λ b o n z=>(sb.2 b (by simpa using n)).trans z) (by simpa using ai4 hp I' ht fT nT)
 rcases th with ⟨vs,ea,h1⟩ | ⟨T,_,rfl | rfl,fT,nT,Y⟩
 ·refine K_7 fr st J ea h1 λ h' T aw z Y=>?_;have dT:=y9 z;rw[<- O] at aw;exact on h' T (L_1 I aw (by simpa using ai4 hp I ea fa na)) (z_1 I.hok dT) (Z T dT) Y
 ·obtain⟨_,⟨vs,ea,_⟩,ts,ht,_⟩:=id Y;refine G_4 fr st J Y λ h' T' aw z ac=>?_;have dT:=y9 z;rw[<- O] at aw;exact on h' T' (L_1 I aw (by simpa using ⟨ai4 hp I ea fa na,ai4 hp I ht fT nT⟩)) (z_1 I.hok dT) (Z T' dT) ac
 ·exact W_3 J Y (on s'.heap T I fT nT Y)
end
section
variable {K:Frag}
abbrev cxY (P:Program) (w:World) (K:Frag) (mg:Str->Option Value) (base:Heap) (N:List Str) (qual:Str) (scope:Scope) (f:Addr) (cd:Value) (A:Around) (outer:List Env) (s:Shared) (H:Hp) (E:XK):Cx :=
 (R_5 (CXE P w) P w K mg base N qual scope f cd A outer s H E).wish (Flt (R_5 (CXE P w) P w K mg base N qual scope f cd A outer s H E) E)
theorem bG3:PassesOwn (model P w) (cxY P w K mg base N qual scope f cd A outer s H E).A (cxY P w K mg base N qual scope f cd A outer s H E).env (cxY P w K mg base N qual scope f cd A outer s H E).xe :=
 bd3 rfl rfl rfl rfl
theorem au2:af5 (cxY P w K mg base N qual scope f cd A outer s H E) E:=λ pins σ H1 s1 e C dd vs I O ne J h1 q=>⟨σ,H1,e,C,dd,rfl,(I.pins_of (pins':=[]) λ p z=>nomatch z).unwish,O,ne,.inl ⟨vs,J,h1⟩,q⟩
theorem bb5  (h:PSs (cxY P w K mg base N qual scope f cd A outer s H E) sts t):PSs (R_5 (CXE P w) P w K mg base N qual scope f cd A outer s H E) sts t:=λ pins s1 σ H1 D I O =>
 yg (h pins s1 σ H1 D (I.wish _) O) (λ _ _ q=>q.unwish) λ e s' J=>by
  obtain⟨σ,H1,a,C,dd,ea,I,Y,Z,th,q⟩:=J;subst ea;exact aJ6 I Y Z th q
end
theorem bs5 {K:Frag}{st:Stmt} (F:Fun K x qual st f fd) (S:FnScope N ps (a_2 st)) (Y:ps.length=n) (O:N.length=n+m)
  (Z:∀ (q:Value) (A:Around) (outer:List Env) (s:Shared) (H:Hp) (E:XK),Room k (A.deeper (envOfC qual (a_2 st) s.heap.objs.size f q))->XX (cxY P w K mg base N qual (a_2 st) f q A outer s H E) E (k_2 st) B) :
  FnOk P w K mg base (CXE P w) (k+1) f fd ps (spX K mg (fnX n m B)):=bs6 F S Y O λ q A outer s H E J=>bb5 (Z q A outer s H E J)
section
variable {X:Cx}{E:XK}{A:FA}{B:FX}{F:FE}{k:Nat}{x:Str}{g:List D->Option (D ⊕ XV)}{e0:Expr}{es:List Expr}{p pos p6:Pos}
theorem aZ4:Passes (CXE X.prog X.w) X E0:=λ _ _ _ _ _ _ _ q=>by
 obtain⟨_,_,_,_,_,_,_,_,_,_,_,_,_,_,_,q⟩:=q;exact q.elim
end
end Fx
namespace Fx
open PySem PySem.W PySem.Spec PyProof.Rows L2 Builtin.ObjectAttr
def ab4:List Value->Bool
 |[]=>false
 |v::r=>v::r==bmV||match v with
  |.ref _=>ab4 r
  |_=>false
theorem bp1  (h:ab4 (v::r)=true):v::r=bmV\/∃ c,v=.ref c/\ab4 r=true:=by
 rcases Bool.or_eq_true_iff.mp h with h | h
 ·exact .inl (beq_iff_eq.mp h)
 ·cases v with
  |ref c=>exact .inr ⟨c,rfl,h⟩
  |_=>cases h
theorem aQ1 (self:Value):∀ {l:List Value},ab4 l=true → refuseLoop self "__setattr__" l=pure () ∧ l.contains (.type "object")=true
 |[],e=>nomatch e
 |v::r,e=>by
  rcases bp1 e with h | ⟨c,rfl,h⟩
  ·rw[h];exact⟨PySem.F.store_ValueError.passes self,by decide⟩
  ·obtain⟨a,b⟩:=aQ1 self h;exact⟨(refuseLoop_ref ..).trans a,by rw[List.contains_cons,b,Bool.or_true]⟩
section
variable {K:Frag}
structure XS1 (K:Frag) (C:Addr) (name:Str):Prop where
 sa:findIn K (.ref C) "__setattr__"=some (some (.builtin "object.__setattr__"))
 na:findIn K (.ref C) name=some none
 cl:∃ cd,clsIn K C=some cd/\ab4 cd.mro=true/\cd.hasDict=true
theorem aB3  (X:K.In s.heap) (f:XS1 K C name) (Z:s.heap.get? e=some (rcd (.ref C) vs))
  (h:∀ h' dx tk,dx=s.heap.objs.size->h'.get? e=some (rcd (.ref C) vs (some dx))->h'.Ns1 dx (λ y=>if y=name then some v else none)->(∀ b o,b≠e->s.heap.get? b=some o->h'.get? b=some o)->dx≠e->Q () {s with heap:=h',toks:=tk}) :
  wpAny (model prog w) A (setAttr (.ref e) name v) Q E s:=by
 obtain⟨J,g,d,t,os⟩:=s;have I:InstAt J e (rcd (.ref C) vs) C none:=⟨Z,rfl,rfl,trivial⟩;obtain⟨cd,hc,ho,hd⟩:=f.cl;obtain⟨p1,p2⟩:=aQ1 (.ref e) ho;have ne:cd.mro.isEmpty=false:=by
  cases z:cd.mro with
  |nil=>rw[z] at ho;cases ho
  |cons _ _=>rfl
 have O:=PySem.F.store_object;have L0:=I.type (M:=model prog w);have Lc:=looks_clsIn (M:=model prog w) X hc;have sub:Looks (model prog w) J (isInstance (.ref e) (.type "object")) true:=L0.andThen (looks_mroIn X (by unfold mroIn;rw[hc,Option.bind_some,ne,p2];rfl));have hm:Looks (model prog w) J (mroOf (.ref C)) cd.mro:=Lc.andThen .now;have La:=looks_findIn (M:=model prog w) X f.na;refine set_plain X I f.sa ?_;refine Zm O.slot.plain O.entry (@check_slot (model prog w) _ _ ⟨J,g,d,t+1,os⟩ "object.__setattr__" "object" "__setattr__" (.ref e) [.str name t,v] [] _ O.kind O.split sub (O.args (.ref e) (.str name t) v) ?_);rw[osa_eq,refuse_eq];refine qb (qb (L0.at (qb (hm.at ?_))));rw[p1];refine qc (qb (L0.at (qb (La.at (qb (qc ?_))))));refine qb (qc (qb (qb (wpAny_loadPart Z (qb (Lc.at ?_))))));rw[hd];have big:=qt (qm Z);have Y:=qd {cls:=.type "dict",data:=.dict #[]} Z;refine qb (wpAny_alloc' (qb (wpAny_update' Y (qc ?_))));generalize hU:(J.push {cls:=.type "dict",data:=.dict #[]}).update e (λ o=>{o with dict:=some J.objs.size})=U;have gd:U.get? J.objs.size=some {cls:=.type "dict",data:=.dict #[]}:=by rw[<- hU];exact (Heap.get?_update_ne _ _ _ _ big.symm).trans (Heap.get?_push_at rfl rfl)
 have ge:U.get? e=some (rcd (.ref C) vs (some J.objs.size)):=by rw[<- hU];exact zt _ Y rfl
 have go:∀ b o,b≠e->J.get? b=some o->U.get? b=some o:=λ b o n q=>by
  rw[<- hU];exact (Heap.get?_update_ne _ _ _ _ n).trans (qd _ q)
 have nd:U.Ns J.objs.size (λ _=>none):=⟨_,#[],_,gd,rfl,λ _ z=>absurd z (by simp),λ _=>rfl⟩;show wpAny _ _ (storeInDict J.objs.size (.str name t) name v) _ _ _;refine qb (qc (qb (wpAny_nsSet1 (Heap.Ns1.of_empty nd) λ h' n1 sb=>?_)));obtain⟨oD,es,ep,q1,q2,q3⟩:=n1.count (Within.cons name v Within.nil);refine qb (wpAny_lookBehind q1 ?_ (qc ?_))
 ·rw[q2];exact pastItsLine_dict (zf q3 (show 1<=sizeLine+1 by decide))
 ·exact h h' J.objs.size _ rfl ((sb.2 e big).trans ge) n1 (λ b o n q=>(sb.2 b (qt (qm q))).trans (go b o n q)) big.symm
end
noncomputable abbrev ah3 (e:Addr) (o:Obj):HO:=.ext λ h=>h.get? e=some o
theorem aP6  (q:h.get? e=some o):ObjOk P w H h e (ah3 e o):=⟨q,⟨o,q⟩,λ _ _ a k=>k o a⟩
section
def bE0 (K:Frag) (ta tv:TE) (f:Str):TS:=λ q σ H=>tv σ H λ y H1=>ta σ H1 λ x H2=>∃ e C vs,x=.ref e/\XS1 K C f/\H2 e=some (ah3 e (rcd (.ref C) vs))/\∀ dx,H2 dx=none->dx≠e->q.nx σ (upd (upd H2 dx (.xd [(f,y)])) e (ah3 e (rcd (.ref C) vs (some dx))))
theorem aY2 (ha:PE X o ta) (hv:PE X value tv) (hs:swapsWith value (some (.Attribute o f pos')) pos.line X.env=pure false):PS X (.Assign [.Attribute o f pos'] value pos) (bE0 X.K ta tv f):=by
 intro pins s σ H D I h;refine plainObj_wpAny_Assign_Attribute (thn (hv pins s σ H _ I h) λ u s1=>ex5 λ y H1 I1 ry q=>thn (ha pins s1 σ H1 _ I1 q) λ ov s2=>ex5 λ x H2 J rx q2=>?_) hs;obtain⟨e,C,vs,rfl,c,O,q3⟩:=q2;obtain rfl:ov=.ref e:=rx;obtain⟨q,_,_⟩:=(show ObjOk _ _ H2 s2.heap e (ah3 e (rcd (.ref C) vs)) from J.hok e _ O);refine aB3 J.kIn c q λ h' dx tk ed Z g2 g3 ne=>?_;subst ed;have fr:=J.fresh;obtain⟨Y,es,ep,k1,k2⟩:=id g2;have J1:Inv X pins σ (upd H2 s2.heap.objs.size (.xd [(f,y)])) {s2 with heap:=s2.heap.push Y}:=by
  refine J.laid (t':=s2.toks) (λ b u z=>qd _ z) (qj _) ⟨_,⟨Y,es,ep,qk _ ?_,k2⟩,λ n=>?_⟩
  ·exact (Heap.get?_some_iff.mp k1).2
  ·by_cases z:n=f
   ·subst z;simpa [List.lookup,RelO] using ry
   ·simp[List.lookup,beq_false_of_ne z,z,RelO]
 have J2:=J1.write (t':=tk) (x:=e) (e:=e) (o:=ah3 e (rcd (.ref C) vs (some s2.heap.objs.size))) (h':=h') (by rw[b_2 ne.symm,O];trivial) (.inl rfl) (λ b u n z=>?_) ⟨_,Z⟩ (aP6 Z)
 ·exact⟨σ,_,J2,q3 _ fr ne⟩
 ·rcases Heap.get?_push_cases z with ⟨rfl,rfl⟩ | z
  ·exact k1
  ·exact g3 b u n z
end
end Fx
namespace Fx
open PySem PySem.W PySem.Spec PyProof.Rows L2
section
variable {prog:Program}{w:World}{A:Around}{E:Value->Shared->Prop}{h:Heap}{g:Array GenState}{d:Drawn}{t:Nat}{os:OsState}
variable {nm qn:Str}{C N fI:Addr}{bs bm:List Value}{hd:Bool}{sn:List Str}{sub:List Value}{ab:Bool}{col:Option Bool}{dd:Option Addr}{k0 k1 k2 k3 k5:Option Value}{mN:Str->Option Value}{oI:Obj}{us:List Value}
noncomputable abbrev clX (nm qn:Str) (C N:Addr) (bs bm:List Value) (hd:Bool) (sn:List Str) (sub:List Value) (ab:Bool) (col:Option Bool) (dd:Option Addr) (k0 k1 k2 k3 k5:Option Value):Obj:=excClassObj nm qn C N bs bm hd sn sub ab col dd k0 k1 k2 k3 k5 "ValueError.__new__"
theorem bk3  (T:OwnTail h bmV bm) (O:h.get? C=some (clX nm qn C N bs bm hd sn sub ab col dd k0 k1 k2 k3 k5)) (nN:h.Ns N mN) (hi:mN "__init__"=some (.ref fI)) (gI:h.get? fI=some oI) (cI:oI.cls=.type "function") (hz:us.length ≤ sizeLine)
  (go:∀ h' e,h.objs.size<=e->Heap.MadeExcOf h h' e (.ref C) us->wpAny (model prog w) A (call (.ref fI) (.ref e::us)) (λ r s'=>r=.none/\Q (.done (.ret (.ref e))) s') E ⟨h',g,d,t,os⟩) :
  wpAny (model prog w) A (Builtin.«type.__call__» ⟨.ref C::us,[]⟩) Q E ⟨h,g,d,t,os⟩:=by
 have B:=F.excBase_ValueError;have J:bmV.contains (.type "ValueError")=true:=by decide
 repeat (first
  |with_reducible refine Q9 O ?_
  |with_reducible refine wpAny_madeBy_exc O ?_
  |wp_step)
 refine codeAny_call_builtin_code (Code.quiet_builtin _ B.quiet) (wpAny_check_new_subU B J T O ?_);refine codeAny_exc_new_subU B J B T O ?_ hz;have up:∀ b o,h.get? b=some o → ((h.push {cls:=.type "tuple",data:=.seq us.toArray}).push {cls:=.ref C,data:=.fields #[.ref h.objs.size,.none,.none,.none,.bool false,.none]}).get? b=some o:=λ b o q=>qd _ (qd _ q);have Y:((h.push {cls:=.type "tuple",data:=.seq us.toArray}).push {cls:=.ref C,data:=.fields #[.ref h.objs.size,.none,.none,.none,.bool false,.none]}).get? (h.objs.size+1)=some {cls:=.ref C,data:=.fields #[.ref h.objs.size,.none,.none,.none,.bool false,.none]}:=Heap.get?_push_at (by rw[Yu]) rfl;have gt:((h.push {cls:=.type "tuple",data:=.seq us.toArray}).push {cls:=.ref C,data:=.fields #[.ref h.objs.size,.none,.none,.none,.bool false,.none]}).get? h.objs.size=some {cls:=.type "tuple",data:=.seq us.toArray}:=qd _ (qk _ rfl);generalize (h.push {cls:=.type "tuple",data:=.seq us.toArray}).push {cls:=.ref C,data:=.fields #[.ref h.objs.size,.none,.none,.none,.bool false,.none]}=U at *;have Z:=up _ _ O;have nU:U.Ns N mN:=let ⟨o,es,ep,q,r⟩:=nN;⟨o,es,ep,up _ _ q,r⟩;have TU:=T.keeps up;have self:(Value.ref C::bm).contains (.ref C)=true:=by simp
 repeat (first
  |with_reducible refine Q9 Y ?_
  |(with_reducible refine wpAny_isSubtype_exc Z ?_;rw[self])
  |wp_step)
 refine wpAny_typeLookup_tail Z nU TU B.mroIs B.init.lookup ?_;rw[hi];refine zw (qb ?_);refine qb (Zp ⟨_,up _ _ gI,cI⟩ ?_);rw[if_pos (by decide)];refine qc (qb (yg (go U (h.objs.size+1) (Q5 _) ⟨up,y9 (Q5 _),h.objs.size,Y,y9 (qj _),gt⟩) (λ r s' z=>?_) λ _ _ z=>z));obtain⟨rfl,z⟩:=z;wp_walk;exact z
theorem bL4  (T:OwnTail h bmV bm) (q:h.get? C=some (clX nm qn C N bs bm hd sn sub ab col dd k0 k1 k2 k3 k5)) (Y:h.Ns N mN) (hi:mN "__init__"=some (.ref fI)) (Z:h.get? fI=some oI) (J:oI.cls=.type "function") (hz:us.length ≤ sizeLine)
  (O:∀ h' e,h.objs.size ≤ e → Heap.MadeExcOf h h' e (.ref C) us → wpAny (model prog w) (A.under (.builtin "type.__call__" ⟨.ref C::us,[]⟩)) (call (.ref fI) (.ref e::us)) (λ r s'=>r=.none ∧ Q (.ref e) s') E ⟨h',g,d,t,os⟩) :
  wpAny (model prog w) A (call (.ref C) us) Q E ⟨h,g,d,t,os⟩:=by
 have l1:=tc_lookup;have l2:=tc_bind (.ref C);have ty:(⟨h,g,d,t,os⟩:Shared).TypeIs (.ref C) "type":=⟨_,q,rfl⟩;refine Zg (codeAny_of_tree ?_)
 repeat (any_goals (first
  |assumption
  |with_reducible refine Q9 q ?_
  |wp_step))
 refine⟨rfl,codeAny_call_builtin_at (Code.quiet_builtin _ (by decide +kernel)) entry_typeCall (wpAny_check_type_call_sub q (bk3 T q Y hi Z J hz λ h' e z m=>?_))⟩;exact O h' e z m
end
section
variable {sub:List Value}
theorem bZ1  (hb:bm.contains (.type "BaseException")=true) (hh:A.handled=none)
  (h:wpAny (model prog w) A x (λ v s1=>∃ e t od,v=.ref e/\s1.heap.get? C=some (clX nm qn C N bs bm hd sn sub ab col dd k0 k1 k2 k3 k5)/\s1.heap.get? e=some (rcd (.ref C) #[.ref t,.none,.none,.none,.bool false,.none] od)/\E (.ref e) s1) E s) :
  wpAny (model prog w) A (raiseStmt env (some x) none) Q E s:=by
 have Z:(Value.ref C::bm).contains (.type "BaseException")=true:=by rw[List.contains_cons,hb,Bool.or_true]
 refine qb (yg h (λ v s1 z=>?_) λ _ _ z=>z);obtain⟨e,t,od,rfl,O,J,q⟩:=z;obtain⟨Y,g,d,tk,os⟩:=s1;have J:Y.get? e=some {cls:=.ref C,dict:=od,data:=.fields #[.ref t,.none,.none,.none,.bool false,.none],slots:=#[]}:=J
 repeat (first
  |with_reducible refine Q9 J ?_
  |with_reducible refine Q9 O ?_
  |(with_reducible refine wpAny_isSubtype_exc O ?_;rw[Z])
  |wp_step)
 exact wpAny_raiseNew_none hh q
theorem bm1  (hb:bm.contains (.type "BaseException")=true) (hh:A.handled=none) (O:(backTo cpos (starEach args env)).any (·.1)=false)
  (h:wpAny (model prog w) A (eval (.Name x np) env) (λ f s1=>f=.ref C/\wpAny (model prog w) A (evalArgs (.ref C) true (backTo cpos (starEach args env)) [])
   (λ a s2=>a.kw=[] ∧ a.pos.length ≤ sizeLine ∧ s2.heap.get? C=some (clX nm qn C N bs bm hd sn sub ab col dd k0 k1 k2 k3 k5) ∧ s2.heap.Ns N mN ∧ mN "__init__"=some (.ref fI) ∧ s2.heap.get? fI=some oI ∧ oI.cls=.type "function" ∧ OwnTail s2.heap bmV bm ∧
    ∀ h' e,s2.heap.objs.size ≤ e → Heap.MadeExcOf s2.heap h' e (.ref C) a.pos → wpAny (model prog w) (A.under (.builtin "type.__call__" ⟨.ref C::a.pos,[]⟩)) (call (.ref fI) (.ref e::a.pos)) (λ r J=>r=.none ∧ J.heap.get? C=some (clX nm qn C N bs bm hd sn sub ab col dd k0 k1 k2 k3 k5) ∧
     (∃ t od,J.heap.get? e=some (rcd (.ref C) #[.ref t,.none,.none,.none,.bool false,.none] od))/\E (.ref e) J) E {s2 with heap:=h'}) E s1) E s) :
  wpAny (model prog w) A (exec (.Raise (some (.Call (.Name x np) args [] cpos)) none pos) env) Q E s:=by
 rw[arm_exec_Raise];refine qb (Qx (bZ1 hb hh (C:=C) (nm:=nm) (qn:=qn) (N:=N) (bs:=bs) (hd:=hd) (sn:=sn) (sub:=sub) (ab:=ab) (col:=col) (dd:=dd) (k0:=k0) (k1:=k1) (k2:=k2) (k3:=k3) (k5:=k5) ?_));refine qb (yg (wpAny_Call_ofName (yg h (λ f s1 z=>?_) λ _ _ z=>z)) (λ v J z=>qb (Qx (qc z))) λ _ _ z=>z);obtain⟨rfl,z⟩:=z;refine qb (zw (yg z (λ a s2 y=>qb (Qx ?_)) λ _ _ z=>z));obtain⟨us,kw⟩:=a;obtain⟨rfl,hz,Y,nN,hi,gI,Z,T,go⟩:=y;obtain⟨hp,g,d,tk,os⟩:=s2;simp only[O];refine qb (wpAny_keeperOf_exc Y (qb (bL4 T Y nN hi gI Z hz λ h' e y m=>yg (go h' e y m) (λ r J y=>⟨y.1,?_⟩) λ _ _ z=>z)));obtain⟨_,c3,⟨t,od,ge⟩,q⟩:=y;exact qb (zw (wpAny_point (qc ⟨e,t,od,rfl,c3,ge,q⟩)))
end
def ap6 (K:Frag) (C fI:Addr):Bool :=
 match K.lookup C with
 |some ⟨.type "type",_,.cls c,sl⟩ =>
  (match c.mro,sl.toList with
  |.ref C'::bm,[_,_,_,_,some (.builtin n),_]=>C'==C&&n=="ValueError.__new__"&&!c.hasDel&&tailIn K bmV bm&&nsOkIn K c.ns&&nsIn K c.ns "__init__"==some (some (.ref fI))&&(K.lookup fI).any λ o=>o.cls==.type "function"
  |_,_=>false)
 |_=>false
theorem bH1 {K:Frag} (X:K.In h) (G:h.Ns N m) (e:nsIn K N x=some (some v)):m x=some v:=by
 obtain⟨o,es,ep,O,hd,_,Y⟩:=G;unfold nsIn at e;split at e
 case h_2=>cases e
 case h_1 q =>
  have z:=X _ _ q;rw[O] at z;cases z;cases hd;split at e
  ·rename_i J;cases e;rw[<- Y];unfold nsFind findBy;rw[<- Array.find?_toList,J];rfl
  ·split at e <;> cases e
theorem aL3 {K:Frag} (X:K.In h) (x:ap6 K C fI=true):∃ bm N nm q bs hd sn sub ab col dd k0 k1 k2 k3 k5 m oI,h.get? C=some (clX nm q C N bs bm hd sn sub ab col dd k0 k1 k2 k3 k5) ∧ h.Ns N m ∧ m "__init__"=some (.ref fI) ∧ OwnTail h bmV bm ∧ h.get? fI=some oI ∧ oI.cls=.type "function":=by
 revert x;unfold ap6;intro x;split at x
 case h_2=>cases x
 case h_1 dd c Y l =>
  split at x
  case h_2=>cases x
  case h_1 C' bm k0 k1 k2 k3 n k5 e1 e2 =>
   simp only[zn,Y2,Bool.not_eq_true'] at x;obtain⟨⟨⟨⟨⟨⟨x1,x2⟩,x3⟩,x4⟩,x5⟩,x6⟩,x7⟩:=x;have J:=X C _ l;obtain⟨c1,c2,c3,c4,c5,c6,c7,c8,c9,Z,aa⟩:=c;obtain⟨Y⟩:=Y;cases e1;cases x1;cases x2;cases x3;cases (show Y=_ from e2);have O:∃ oI,h.get? fI=some oI ∧ oI.cls=.type "function":=by obtain⟨o,o1,o2⟩:=any_some x7;exact⟨o,X fI o o1,beq_iff_eq.mp o2⟩
   obtain⟨oI,O,f2⟩:=O;exact⟨bm,c4,c1,c5,c2,c6,c7,c8,c9,Z,dd,k0,k1,k2,k3,k5,h.nsMap c4,oI,J,.of_isNs (isNs_of_in X x5),bH1 X (.of_isNs (isNs_of_in X x5)) x6,tail_of_in X x4,O,f2⟩
def drp (H:Hp) (e:Addr):Hp:=λ b=>if b=e then none else H b
theorem aC0  (h:b≠e):drp H e b=H b:=if_neg h
theorem al5 :drp H e e=none:=if_pos rfl
section
variable {X:Cx}{pins:List (Addr×Obj)}{σ:L2.St}{H:Hp}{s:Shared}
theorem bc1  (I:Inv X pins σ H s) (he:H e=some (.ext O)):Inv X pins σ (drp H e) s:=by
 have un:=I.base;have J:∀ b,H b=none->drp H e b=none:=λ b z=>by unfold drp;split <;> first | rfl | exact z
 have is:∀ b u,H b=some u->(∀ ψ,u≠.ext ψ)->drp H e b=some u:=λ b u z n=>by
  rw[aC0 λ y=>by subst y;rw[he] at z;exact n O (qi z).symm];exact z
 refine⟨I.ok,I.os,I.bare,⟨un.keep,un.slot,λ b o q n x=>J b (un.free b o q n x),un.there,λ b xs q=>is b _ (un.tups b xs q) (λ _ z=>nomatch z),λ b o u q=>is b _ (un.frzs b o u q) (λ _ z=>nomatch z),λ b ps q=>?_⟩,I.loc,I.cell,J _ I.free,λ x c q=>J c (I.freeC x c q),λ p Y=>?_,λ b u q=>?_,I.len⟩
 ·obtain⟨more,Z⟩:=un.tbls b ps q;exact⟨more,is b _ Z λ _ z=>nomatch z⟩
 ·obtain⟨q,n,z⟩:=I.pin p Y;exact⟨q,J _ n,z⟩
 ·have ne:b≠e:=λ y=>by subst y;rw[al5] at q;cases q
  rw[aC0 ne] at q;exact (I.hok b u q).stay (λ _ _ _ z=>z) (λ c z=>is c _ z λ _ y=>nomatch y) λ c xs z=>is c _ z λ _ y=>nomatch y
end
def spI (K:Frag) (f:Str):Sp:=λ vs H Q _=>∃ e v C us,vs=[.ref e,v]/\XS1 K C f/\H e=some (ah3 e (rcd (.ref C) us))/\∀ dx,H dx=none->dx≠e->Q .non (upd (upd H dx (.xd [(f,v)])) e (ah3 e (rcd (.ref C) us (some dx))))
theorem bc3 {K:Frag}{st:Stmt} (Fu:Fun K x qual st fI fd) (S:FnScope ["self",f] ["self",f] (a_2 st)) (hn:("self":Str)≠f)
  (hb:k_2 st=[.Assign [.Attribute (.Name "self" Z) f p2] (.Name f p3) pos])
  (hs:∀ (J:Value) (A:Around) (outer:List Env) (s:Shared) (H:Hp) (E:XK),swapsWith (.Name f p3) (some (.Attribute (.Name "self" Z) f p2)) pos.line (R_5 CX P w K mg base ["self",f] qual (a_2 st) fI J A outer s H E).env=pure false)
  (h1:(f==("__debug__":Str))=false) (h2:(f==("__classdict__":Str))=false):FnOk P w K mg base CX 1 fI fd ["self",f] (spI K f):=by
 obtain⟨oc,od,kV,ac,pm,an,J,ct,aa,rfl,lk,Y⟩:=Fu.ex;refine bd1 lk Y S (λ vs H Q E h=>?_) λ A outer s H vs Q E hr h=>?_
 ·obtain⟨e,v,C,us,rfl,_⟩:=h;rfl
 ·obtain⟨e,v,C,us,rfl,c,he,q⟩:=h;rw[hb];have O:∀ y∈(["self",f]:List Str),Vis (R_5 CX P w K mg base ["self",f] qual (a_2 st) fI J A outer s H E).env.scope y:=λ y hy=>(S.par y hy).imp id .inl;refine⟨_,s_8 (aY2 (i_4 (i:=0) rfl (O _ (by simp)) (by decide) (by decide)) (i_4 (i:=1) rfl (O _ (by simp)) h1 h2) (hs ..)),?_⟩;exact⟨v,rfl,.ref e,rfl,e,C,us,rfl,c,he,λ dx n m=>q dx n m⟩
def bP9 (P:V->Hp->Prop):List V->Hp->Prop
 |[v],H=>P v H
 |_,_=>False
theorem ba1 :∀ {vs:List V},bP9 P vs H->∃ v,vs=[v]/\P v H
 |[v],h=>⟨v,rfl,h⟩
 |[],h=>h.elim
 |_::_::_,h=>h.elim
section
theorem av0 (hR:af5 X E) (hc:X.calm=true) (ac:X.ex=[]) (hm:X.mg x=some (.ref C)) (hx:ap6 X.K C fI=true) (h1:XS1 X.K C f) (Fk:FnOk X.prog X.w X.K X.mg X.base (CXE X.prog X.w) k fI fd ["self",f] (spI X.K f)) (hr:Room (k+1) X.A) (Y:Binds X.K fd ["self",f] [])
  (ha:PE X a ta) (hg:Gl X x) (hd:(x==("__debug__":Str))=false) (hs:starEach [a] X.env=[(false,eval a X.env)]) :
  PS X (.Raise (some (.Call (.Name x np) [a] [] cpos)) none pos) (λ _ σ H=>ta σ H λ v H1=>∀ dx,H1 dx=none->E (.ref C) (some dx) (upd H1 dx (.xd [(f,v)]))):=by
 intro pins s σ H D I q;obtain⟨bm,N,nm,qn,bs,h6,sn,sub,ab,col,dd,k0,k1,k2,k3,k5,m,oI,c1,c2,c3,c4,c5,c6⟩:=aL3 I.mod.kin hx;have ad:=hs▸c_5 ha l_0 hs cpos pins s σ H (bP9 λ v H'=>∀ dx,H' dx=none->E (.ref C) (some dx) (upd H' dx (.xd [(f,v)]))) I q;refine bm1 (nm:=nm) (qn:=qn) (N:=N) (bs:=bs) (hd:=h6) (sn:=sn) (sub:=sub) (ab:=ab) (col:=col) (dd:=dd) (k0:=k0) (k1:=k1) (k2:=k2) (k3:=k3) (k5:=k5) (fI:=fI) (oI:=oI) (mN:=m) (c4.hasType (by decide)) (I.ok.hd hc) (by rw[hs];rfl) (A_2 I hg hm ⟨rfl,hs▸Calls.evalArgs_plain (thn ad λ us s2 z=>?_)⟩ hd);obtain⟨vs,H2,O,r,z⟩:=z;obtain⟨v,rfl,q2⟩:=ba1 z;obtain⟨u,rfl,ru⟩:=v_5 r;refine⟨rfl,(show 1<=sizeLine by decide),O.bk C _ c1,c2.keeps O.bk,c3,O.bk fI _ c5,c6,c4.keeps O.bk,λ h' e z mk=>?_⟩;obtain⟨tp,ge,_,_⟩:=mk.there;have J:=O.laid (t':=s2.toks) mk.keeps z (aP6 ge);have e0:=O.hok.fresh z;have r2:Vals [V.ref e,v] [Value.ref e,u]:=.cons rfl (.cons ru .nil);have sp:spI X.K f [.ref e,v] (upd H2 e (ah3 e (rcd (.ref C) #[.ref tp,.none,.none,.none,.bool false,.none]))) (λ y H'=>y=.non/\∃ dx,H2 dx=none/\dx≠e/\H'=upd (upd (upd H2 e (ah3 e (rcd (.ref C) #[.ref tp,.none,.none,.none,.bool false,.none]))) dx (.xd [(f,v)])) e (ah3 e (rcd (.ref C) #[.ref tp,.none,.none,.none,.bool false,.none] (some dx)))) E0 :=
  ⟨e,v,C,_,rfl,h1,a_3,λ dx n ne=>⟨rfl,dx,by rwa [b_2 ne] at n,ne,rfl⟩⟩
 refine Zg (Qu (Fk.run _ X.stack _ _ ⟨[.ref e,u],[]⟩ [.ref e,u] _ _ E0 (hr.make C [u] []) (J.env0.make C [u] []) (Y _ [.ref e,u] J.kIn rfl) r2 sp) λ rr s' hq=>?_);cases rr with
 |error er=>exact aZ4 pins σ _ _ er s' J hq
 |ok fl =>
  cases fl with
  |ret y =>
   obtain⟨y',H',I3,rv,ey,dx,aa,ne,eH⟩:=J.after hq;subst ey eH;obtain rfl:y=.none:=rv;have Z:=(show ObjOk _ _ _ s'.heap e (ah3 e _) from I3.hok e _ a_3).1;have I4:=bc1 I3 a_3;have eH:drp (upd (upd (upd H2 e (ah3 e (rcd (.ref C) #[.ref tp,.none,.none,.none,.bool false,.none]))) dx (.xd [(f,v)])) e (ah3 e (rcd (.ref C) #[.ref tp,.none,.none,.none,.bool false,.none] (some dx)))) e=upd H2 dx (.xd [(f,v)]):=by
    funext b;by_cases Y:b=e
    ·subst Y;rw[al5,b_2 ne.symm,e0]
    ·rw[aC0 Y,b_2 Y];by_cases hd:b=dx
     ·subst hd;rw[a_3,a_3]
     ·rw[b_2 hd,b_2 hd,b_2 Y]
   rw[eH] at I4;refine⟨rfl,I4.bk C _ c1,⟨tp,some dx,Z⟩,hR pins σ _ s' e C (some dx) _ I4 (by rw[b_2 ne.symm];exact e0) ?_ Z rfl (q2 dx aa)⟩;cases w0:X.s₀.heap.get? e with
   |none=>rfl
   |some o =>
    obtain⟨o',w1⟩:=O.base.there e o w0 (by rw[ac];intro z;cases z);rw[y9 z] at w1;cases w1
  |next=>exact False.elim hq
  |brk=>exact False.elim hq
  |cont=>exact False.elim hq
end
end Fx
namespace Fx
open PySem
noncomputable def r3:D->Bool
 |.tup [.int _,.str _,.int _]=>true
 |_=>false
noncomputable def two:D->Option (D×D)
 |.tup [a,b]=>some (a,b)
 |_=>none
noncomputable def bG4:Option Sl->Option (List D)
 |some (.ow false (.lst ds))=>some ds
 |_=>none
def ax0 (i:Nat) (ρ:En):Bool:=(ρ.set i .no).all ao4
def lsA (o:Option (D×En)):Option (List D×En):=bnd o λ p=>match p.1 with
 |.lst ds=>some (ds,p.2)
 |_=>none
def oFr (F:FE) (ρ:En):Option (List D×En):=lsA (F ρ)
@[simp] theorem ch1:oFr F ρ=lsA (F ρ):=yI rfl
@[simp] theorem cb0:lsA (some (.lst ds,ρ))=some (ds,ρ):=yI rfl
noncomputable def lsX:D->Option (List D)
 |.lst xs=>some xs
 |_=>none
@[simp] theorem ca9:lsX (.lst xs)=some xs:=yI rfl
def at6 (i:Nat) (ρ:En) (xs:List D) (o:Option (List D)):Option Res:=bnd o λ ds=>if ds.length+xs.length<1000 then some (.nx (ρ.set i (.ow false (.lst (ds++xs))))) else none
def at7 (i:Nat) (ρ:En) (o:Option (List D)):Option Res:=bnd o λ xs=>at6 i ρ xs (owL ρ[i]?)
def at8 (i:Nat) (o:Option (D×En)):Option Res:=bnd o λ p=>at7 i p.2 (lsX p.1)
def at9 (i:Nat) (F:FE) (ρ:En) (o:Option (List D)):Option Res:=bnd o λ _=>at8 i (F ρ)
def aX1 (i:Nat) (F:FE) (ρ:En):Option Res:=at9 i F ρ (owL ρ[i]?)
@[simp] theorem bY9:aX1 i F ρ=at9 i F ρ (owL ρ[i]?):=yI rfl
@[simp] theorem bE7:at9 i F ρ (some ds)=at8 i (F ρ):=yI rfl
@[simp] theorem bE6:at8 i (some (d,ρ))=at7 i ρ (lsX d):=yI rfl
@[simp] theorem bE5:at7 i ρ (some xs)=at6 i ρ xs (owL ρ[i]?):=yI rfl
@[simp] theorem bE4:at6 i ρ xs (some ds)=if ds.length+xs.length<1000 then some (.nx (ρ.set i (.ow false (.lst (ds++xs))))) else none:=yI rfl
noncomputable def I_4:Nat->List D->List D
 |_,[]=>[]
 |k,d::r=>.tup [.int (k:Int),d]::I_4 (k+1) r
def ah0 (g:D->En->Option En) (B:FS) (ρ:En) (o:Option (List D)):Option Res:=bnd o λ xs=>fGo g B (I_4 0 xs) ρ
def ah1 (g:D->En->Option En) (B:FS) (o:Option (D×En)):Option Res:=bnd o λ p=>ah0 g B p.2 (lsX p.1)
def aH0 (g:D->En->Option En) (F:FE) (B:FS) (ρ:En):Option Res:=ah1 g B (F ρ)
@[simp] theorem bO3:aH0 g F B ρ=ah1 g B (F ρ):=yI rfl
@[simp] theorem bx7:ah1 g B (some (d,ρ))=ah0 g B ρ (lsX d):=yI rfl
@[simp] theorem bx6:ah0 g B ρ (some xs)=fGo g B (I_4 0 xs) ρ:=yI rfl
end Fx
namespace Fx
open PySem PySem.Spec PyProof.Rows L2
def lss (H:Hp) (a:Addr):Hp:=λ b=>if b=a then none else H b
theorem aQ8 :lss H a a=none:=if_pos rfl
theorem aj1  (h:b≠a):lss H a b=H b:=if_neg h
theorem aQ7  (h:lss H a b=some u):b≠a/\H b=some u:=by
 by_cases e:b=a
 ·rw[e,aQ8] at h;cases h
 ·exact⟨e,by rw[aj1 e] at h;exact h⟩
theorem aZ5  (h:bG4 o=some ds):o=some (.ow false (.lst ds)):=by
 unfold bG4 at h;split at h
 ·cases h;rfl
 ·cases h
section
variable {K:Frag}{c:FC}{H0 H:Hp}{ρ:En}{σ:L2.St}{i:Nat}{ds:List D}
theorem RS.asList (R:RS K c H0 H ρ σ) (hi:ρ[i]?=some (.ow false (.lst ds))) :
  ∃ a vs,σ[i]?=some (some (.ref a))/\H0 a=none/\c.He a=none/\H a=some (.lst vs)/\Reps K H0 ds vs/\Same H0 (upd H0 a (.lst vs))/\RS K c (upd H0 a (.lst vs)) H (ρ.set i (.im (.lst ds))) σ:=by
 obtain⟨a,x,y,z,vs,e,r⟩:=R.ow i _ _ hi;have he:=z;have il:=(List.getElem?_eq_some_iff.mp hi).1;have Y:Same H0 (upd H0 a (.lst vs)):=λ b u q=>by rw[b_2 (c_6 q y)];exact q
 have O:∀ {j:Nat}{Z:Sl},j≠i->(ρ.set i (.im (.lst ds)))[j]?=some Z->ρ[j]?=some Z:=λ J e=>by rwa [zh (zv J)] at e
 have on:∀ {Z:Sl},(ρ.set i (.im (.lst ds)))[i]?=some Z->Z=.im (.lst ds):=λ e=>by
  rw[zi il] at e;exact (qi e).symm
 refine⟨a,vs,x,y,he,e,r,Y,λ b u q=>?_,R.init.trans Y,λ b u q=>?_,R.keep,R.apt,by rw[zy];exact R.len,λ j d' q=>?_,λ j bb o' q=>?_,λ j k b1 b2 o' aa b e1 e2 e3 e4=>?_⟩
 ·by_cases h:b=a
  ·subst h;rw[a_3] at q;cases q;exact e
  ·rw[b_2 h] at q;exact R.same b u q
 ·by_cases h:b=a
  ·subst h;exact .inr he
  ·rw[b_2 h] at q;exact R.fresh b u q
 ·by_cases J:j=i
  ·subst J;cases on q;refine⟨.ref a,x,?_⟩;exact⟨a,vs,rfl,.inl (.inl a_3),Reps.mono Y _ r⟩
  ·obtain⟨v,a1,a2⟩:=R.im j d' (O J q);exact⟨v,a1,Rep.mono Y _ a2⟩
 ·by_cases J:j=i
  ·subst J;cases on q
  ·have q':=O J q;obtain⟨b,x1,y1,z1,w1⟩:=R.ow j bb o' q';have nb:b≠a:=λ h=>J (R.ne j i bb false o' _ b q' hi x1 (by rw[h];exact x));exact⟨b,x1,by rw[b_2 nb];exact y1,z1,w1.step Y λ u q=>q⟩
 ·by_cases J:j=i
  ·subst J;cases on e1
  ·by_cases hk:k=i
   ·subst hk;cases on e2
   ·exact R.ne j k b1 b2 o' aa b (O J e1) (O hk e2) e3 e4
theorem RS.backL  (R:RS K c H0 H ρ σ) (hi:ρ[i]?=some (.ow false (.lst ds))) (one:ax0 i ρ=true) (x:σ[i]?=some (some (.ref a))) (y:H0 a=none) (he:c.He a=none) (r:Reps K H0 ds vs)
  (Y:Same (upd H0 a (.lst vs)) H0') (J:RS K c H0' H' (ρ.set i (.im (.lst ds))) σ):Same H0 (lss H0' a)/\RS K c (lss H0' a) H' ρ σ:=by
 have O:Same H0 (lss H0' a):=λ b u q=>by
  have nb:b≠a:=λ h=>by rw[h,y] at q;cases q
  rw[aj1 nb];exact Y b u (by rw[b_2 nb];exact q)
 refine⟨O,λ b u q=>J.same b u (aQ7 q).2,λ b u q=>O b u (R.init b u q),λ b u q=>J.fresh b u (aQ7 q).2,J.keep,J.apt,R.len,λ j d q=>?_,λ j b o q=>?_,R.ne⟩
 ·obtain⟨v,a1,a2⟩:=R.im j d q;exact⟨v,a1,Rep.mono O _ a2⟩
 ·by_cases Z:j=i
  ·subst Z;rw[hi] at q;cases q;exact⟨a,x,aQ8,he,vs,J.same a _ (Y a _ a_3),Reps.mono O _ r⟩
  ·have:=List.all_eq_true.mp one (.ow b o) (zx (by rw[zh (zv Z)];exact q));cases this
end
section
theorem bW3 (i:Nat)  (hX:X.N.Nodup) (he:XE X e F) (hN:X.N[i]?=some x:=by rfl) (hx:Loc X.env.scope x:=by first | exact Or.inl rfl | exact Or.inr rfl) (hv:Vis X.env.scope x:=by first | exact Or.inl rfl | exact Or.inr (Or.inl rfl) | exact Or.inr (Or.inr rfl)) (hd:(x==("__debug__":Str))=false:=by decide)
  (Z:(x==("__classdict__":Str))=false:=by decide) (hs:swapsWith (.BinOp (.Name x p1) .Add e J) (some (.Name x pos')) pos.line X.env=pure false:=by rfl)
  (hf:X.fn x=true\/X.env.scope.names.lookup x=some .local:=by first | exact .inl rfl | exact .inr rfl) :
  XS X (.Assign [.Name x pos'] (.BinOp (.Name x p1) .Add e J) pos) (aX1 i F) :=
 PS.wk (x_7 hX hN hx (aI4 aw9 (i_4 hN hv hd Z) he) hs hf) λ Dn σ H O=>by
  obtain⟨c,H0,ρ,r,R,f,q⟩:=O;obtain⟨ac,h0,f⟩:=a_0 f;obtain⟨⟨d,aa⟩,h1,f⟩:=a_0 f;obtain⟨xs,h2,f⟩:=a_0 f;obtain⟨ds,h3,f⟩:=a_0 f;dsimp only at h2 h3 f;obtain⟨hl,f'⟩:=ifs f;cases f';obtain⟨a,x1,_,_,ad,y1,_⟩:=R.ow i _ _ (x_9 h0);refine⟨.ref a,x1,c,H0,ρ,d,aa,R,h1,λ v H1 Hh s1 Y rv=>?_⟩;unfold lsX at h2;split at h2
  rotate_left
  ·cases h2
  cases h2;obtain⟨b,zs,rfl,sb,rz⟩:=rv;obtain⟨a',x2,_,_,ws,y2,z2⟩:=Y.ow i _ _ (x_9 h3);rw[x1] at x2;cases x2;have l1:=z2.length;have l2:=rz.length;refine⟨a,b,ws,zs,rfl,rfl,SqL.of y2,Same.seq Y.same sb,?_,λ p hp=>?_⟩
  ·have:(1000:Nat)<=sizeLine:=by decide
   omega
  ·exact q _ H1 _ s1 (Y.setOwn i hp ⟨_,a_3,z2.app rz⟩)
end
end Fx
namespace L2
open PySem PySem.Spec PyProof.Rows
theorem Inv.turnedL {fs:List Addr} (I:Inv X pins σ H s) (k:∀ b o,b∉fs->s.heap.get? b=some o->h'.get? b=some o) (O:∀ b∈fs,FpOk X pins H b) :
  Inv X pins σ H {s with heap:=h',toks:=t'}:=by
 have out:∀ b u,H b=some u->b∉fs:=λ b u e z=>by rw[(O b z).1] at e;cases e
 refine I.step (λ b hb=>?_) (λ b o _ _ J e _=>k b o J e) (λ b o _ _ J e _=>⟨o.slots,k b o J e⟩) (λ _ _ _ _ n=>n)
  (λ b o J e=>⟨o,k b o J e⟩) (λ _ _ e=>e) (λ _ _ _ e=>e) (λ b ps e=>⟨#[],by rw[e];simp⟩) (λ m Y=>?_) (λ b u e=>?_) I.bare
 ·obtain⟨_,z1,_,z3,z4,Z⟩:=O b hb;exact⟨z3,z1,z4,Z⟩
 ·obtain⟨o,es,ep,ho,r⟩:=Y;exact⟨o,es,ep,k _ o (λ z=>(O _ z).2.1 rfl) ho,r⟩
 ·refine (I.hok b u e).stay (λ c v J q=>k c v ?_ q) (λ _ q=>q) λ _ _ q=>q;rcases J with z | z
  ·rw[z];exact out b u e
  ·exact out _ _ z
theorem FpOk.upd  (h:FpOk X pins H b) (n:b≠p):FpOk X pins (upd H p u) b:=⟨by rw[b_2 n];exact h.1,h.2⟩
end L2
namespace Fx
open PySem PySem.Spec PyProof.Rows L2
def af4 (K:Frag) (J:It) (H1:Hp) (xs:List D):Prop:=∀ (H0 H:Hp) (i:Nat),Same H1 H0->Same H0 H ->
 (∀ d,xs[i]?=some d->J.go i H/\∀ x H',J.yld i H x H'->∃ H0',Step H0 H H0' H'/\Rep K H0' d x)/\(xs.length<=i->J.stop i H)
theorem bd0 {K:Frag} (R:RS K c H1 Hh ρ σ) (hf:fGo g B xs ρ=some r) (hy:af4 K J H1 xs) (q:Post K c Dn H1 r) :
  ∃ W:Nat->Nat->L2.St->Hp->Prop,(∃ m,W 0 m σ Hh)/\∀ i m σ H,W i m σ H ->
   (J.stop i H/\Dn.nx σ H)\/(J.go i H/\∃ N:L2.St->Hp->Prop,(∀ O H',N O H'->∃ m',m'<m/\W (i+1) m' O H')/\∀ x H',J.yld i H x H'->tG K g x σ H' λ af H2=>tS K B {Dn with nx:=N,ct:=N,bk:=Dn.nx} af H2):=by
 refine⟨λ i m σ H=>m=xs.length-i/\i<=xs.length/\∃ H0 ρ,Same H1 H0/\RS K c H0 H ρ σ/\fGo g B (xs.drop i) ρ=some r,⟨xs.length,by simp,yf _,H1,ρ,Same.refl _,R,by simpa using hf⟩,?_⟩;rintro i m σ H ⟨rfl,hi,H0,ρ,s0,R0,Z⟩;obtain⟨y1,y2⟩:=hy H0 H i s0 R0.same;by_cases ad:i<xs.length
 ·have hd:xs[i]?=some xs[i]:=by simp[ad]
  obtain⟨go,yl⟩:=y1 _ hd;refine .inr ⟨go,λ O H'=>∃ m',m'<xs.length-i/\m'=xs.length-(i+1)/\i+1<=xs.length/\∃ H0 ρ,Same H1 H0/\RS K c H0 H' ρ O/\fGo g B (xs.drop (i+1)) ρ=some r,λ O H' ⟨m',a,b⟩=>⟨m',a,b⟩,λ x H' hx=>?_⟩;obtain⟨H0',S,rx⟩:=yl x H' hx;rw[A_4 hd,ak9] at Z;obtain⟨ae,g1,Z⟩:=a_0 Z;obtain⟨z,g2,Z⟩:=a_0 Z;refine⟨c,H0',ρ,_,ae,R0.after S,rx,g1,λ ag H2 Hh2 s2 R2=>⟨c,H2,ae,z,R2,g2,?_⟩⟩;have ac:=s0.trans S.s0;cases z with
  |nx Y=>exact λ O H3 Hh3 s3 R3=>⟨_,by omega,rfl,ad,H3,Y,ac.trans (s2.trans s3),R3,Z⟩
  |ct Y=>exact λ O H3 Hh3 s3 R3=>⟨_,by omega,rfl,ad,H3,Y,ac.trans (s2.trans s3),R3,Z⟩
  |bk Y =>
   have aa:=Z;cases aa;exact λ O H3 Hh3 s3 R3=>q O H3 Hh3 (ac.trans (s2.trans s3)) R3
  |rt d Y =>
   have aa:=Z;cases aa;exact λ v O H3 Hh3 s3 R3 r3=>q v O H3 Hh3 (ac.trans (s2.trans s3)) R3 r3
 ·have hn:xs.drop i=[]:=jp (by omega);rw[hn,aB1] at Z;have aa:=Z;cases aa;exact .inl ⟨y2 (by omega),q σ H0 H s0 R0⟩
def Ite (K:Frag) (l:Addr):It :=
 ⟨λ i H=>∃ xs x,SqL K H l xs/\xs[i]?=some x,λ i H x H'=>∃ v p,(∀ xs,SqL K H l xs->xs[i]?=some v)/\x=.ref p/\H p=none/\H'=upd H p (.tup [.int i,v]),λ i H=>∃ xs,SqL K H l xs/\xs.length<=i⟩
theorem ar9 {K:Frag} (l e it:Addr) (ne:e≠it):Turn P w K (.Tuple aa x1 pt) (Ite K l) [e,it] e (λ i h=>∃ Y,IsEnum h e it i Y/\h.IsListIter it l i) where
 mem:=qg
 obj:=λ i h J b O=>by
  obtain⟨Y,st,li⟩:=J;rcases qv O with rfl | O
  ·exact⟨_,st,λ v z=>by cases z⟩
  ·obtain⟨o,a,c,d⟩:=li;rw[List.mem_singleton.mp O];exact⟨o,a,λ v z=>by rw[d] at z;cases z⟩
 keep:=λ i h h' ⟨Y,st,li⟩ k=>⟨Y,k e (by simp) _ st,li.at λ o q=>k it (by simp) o q⟩
 item:=λ X hP hw hK hc i pins s σ H E I hf J Z=>by
  obtain⟨Y,st,li⟩:=J;obtain⟨xs,x,sq,hx⟩:=Z;subst hP hw hK;obtain⟨ad,rv,pl,hz⟩:=I.list sq;obtain⟨u,hu,ru⟩:=rv.get hx;have ae:=qm st;have ac:it<s.heap.objs.size:=by obtain⟨_,q,_⟩:=id li;exact qm q
  have hp:=I.hok.fresh (qj _);refine wpAny_pyNext_enum_item st li pl.isList (by simpa using hu) ne λ h1 k1 k2 k3 k4 k5=>⟨_,rfl,?_⟩
  refine wpAny_letOwnedTupleGo_enum k1 λ h2 e2 sb=>?_;have I0:=
   I.laid (t':=s.toks+1) (λ b o q=>qd _ q) (qj _) (show ObjOk X.prog X.w _ _ _ (.tup [.int i,x]) from ⟨by show (2:Nat)<=sizeLine;decide,[.int i s.toks,u],.cons ⟨_,rfl⟩ (.cons ru .nil),IsTuN.new _ _⟩)
  have fp:∀ b∈[e,it],FpOk X pins (upd H s.heap.objs.size (.tup [.int i,x])) b:=λ b O=>(hf b O).upd (by
   rcases qv O with rfl | O
   ·exact qt ae
   ·rw[List.mem_singleton.mp O];exact qt ac)
  have I2:Inv X pins σ (upd H s.heap.objs.size (.tup [.int i,x])) {s with heap:=h2,toks:=s.toks+1}:=Inv.turnedL (s:={s with heap:=s.heap.push {cls:=.type "tuple",data:=.seq #[.int i s.toks,u]},toks:=s.toks+1}) I0 (λ b q O z=>by
   have b1:b≠e:=λ y=>O (by simp[y]);have b2:b≠it:=λ y=>O (by simp[y]);refine (sb.2 b b1).trans ?_;rcases Heap.get?_push_cases z with ⟨z1,z2⟩ | z
   ·rw[z1,z2];exact k3
   ·exact k5 b q b1 b2 z) fp
  refine⟨.ref s.heap.objs.size,_,I2,rfl,⟨x,_,λ ys hy=>by rw[I.list_inj hy sq];exact hx,rfl,hp,rfl⟩,⟨_,by rw[show ((i+1:Nat):Int)=(i:Int)+1 by omega];exact e2,k2.at λ o q=>(sb.2 it (zv ne)).trans q⟩,λ b O=>(fp b O).1⟩
 done:=λ X hP hw hK hc i pins s σ H E I hf J Z=>by
  obtain⟨Y,st,li⟩:=J;obtain⟨xs,sq,hx⟩:=Z;subst hP hw hK;obtain⟨ad,rv,pl,hz⟩:=I.list sq;have hl:=rv.length;exact wpAny_pyNext_enum_end (I.ok.hd hc) st li pl.isList (by simp;omega) λ h' eb=>⟨rfl,I.turnedL (λ b o O q=>eb b o (λ y=>O (by simp[y])) q) hf⟩
 self:=λ _ _ _ _ _ ⟨_,st,_⟩ h=>wpAny_pyIter_enum st h
def cc1 (K:Frag) (t:TE):TI:=λ σ H R=>t σ H λ x H1=>∃ a xs,x=.ref a/\SqL K H1 a xs/\R (Ite K a) H1
theorem av8 {X:Cx}{O:List Expr}{x1:Nat}{pt:Pos}{l:Expr}{tl:TE}{p pos:Pos} (hg:Gl X "enumerate") (hm:X.mg "enumerate"=none) (hl:PE X l tl) (hs:starEach [l] X.env=[(false,eval l X.env)]):PI X (.Tuple O x1 pt) (.Call (.Name "enumerate" p) [l] [] pos) (cc1 X.K tl):=by
 intro pins s σ H R I h;refine Call_ (X_0 I hg hm (u:=.type "enumerate") (by decide +kernel) (Zq (thn (c_5 hl l_0 hs pos pins s σ H (λ vs H1=>match vs with | [x]=>(∃ a xs,x=.ref a ∧ SqL X.K H1 a xs ∧ R (Ite X.K a) H1) | _=>False) I h) λ us s1=>ex5 λ vs H1 J r1 Z=>?_) hs rfl))
 match vs,Z,r1 with
 |[x],Z,r1 =>
  obtain⟨a,xs,rfl,sq,q⟩:=Z;obtain⟨u,rfl,ru⟩:=v_5 r1;cases ru;obtain⟨aa,rv,pl,hz⟩:=J.list sq;refine call_enumerate_list pl.isList λ h' st li sz k=>?_;refine wpAny_pyIter_enum st ⟨s1.heap.objs.size+1,[s1.heap.objs.size+1,s1.heap.objs.size],_,_,H1,rfl,J.kept (t':=s1.toks) k,ar9 a (s1.heap.objs.size+1) s1.heap.objs.size (Nat.succ_ne_self _),⟨_,st,li⟩,λ b Y=>?_,q⟩;rcases qv Y with rfl | Y
  ·exact J.fpOk (Q5 _) (J.hok.fresh (Q5 _))
  ·rw[List.mem_singleton.mp Y];exact J.fpOk (qj _) (J.hok.fresh (qj _))
theorem al0:∀ (xs:List D) (k:Nat),(I_4 k xs).length=xs.length
 |[],_=>rfl
 |_::r,k=>by show (I_4 (k+1) r).length+1=r.length+1;rw[al0 r]
theorem al1:∀ (xs:List D) (k i:Nat) {d:D},(I_4 k xs)[i]?=some d->∃ y,xs[i]?=some y/\d=.tup [.int ((k+i:Nat):Int),y]
 |[],_,_,_,h=>by cases h
 |x::r,k,0,d,h=>by cases h;exact⟨x,rfl,rfl⟩
 |x::r,k,i+1,d,h=>by
  obtain⟨y,a,b⟩:=al1 r (k+1) i (show (I_4 (k+1) r)[i]?=some d from h);exact⟨y,a,by rw[b,show k+1+i=k+(i+1) by omega]⟩
theorem E_7 {K:Frag} (rd:SqL K H1 a vs) (r:Reps K H1 xs vs):af4 K (Ite K a) H1 (I_4 0 xs):=λ H0 H i s s'=>by
 have O:=Same.seq (s.trans s') rd;refine⟨λ d e=>?_,λ h=>⟨vs,O,by rw[<- r.length,<- al0 xs 0];exact h⟩⟩;obtain⟨y,e1,rfl⟩:=al1 xs 0 i e;obtain⟨v,e2,rv⟩:=r.get e1;refine⟨⟨vs,v,O,e2⟩,λ x H' q=>?_⟩;obtain⟨v',p,J,ex,Y,Z⟩:=q;have J:=J vs O;subst ex Z;rw[e2] at J;cases J;have S:=Step.alloc (o:=.tup [.int i,v]) s' Y;refine⟨_,S,?_⟩;rw[Yb];exact⟨p,_,rfl,.inl (.inl a_3),Reps.cons (f_7 _ _) (Reps.one (Rep.mono (s.trans S.s0) _ rv))⟩
section
theorem bz6  (hm:X.mg "enumerate"=none) (hg:XG X (.Tuple J x1 pt) g) (ha:XE X a F) (hb:XSs X body B) (Y:Gl X "enumerate":=by rfl)
  (hp:PassesOwn (model X.prog X.w) X.A X.env X.xe:=by exact Yh) (hc:X.calm=true:=by rfl) (Z:starEach [a] X.env=[(false,eval a X.env)]:=by rfl)
  (hs:∀ x,foldedSetIterable (.Call (.Name "enumerate" p) [a] [] pos') X.env x=pure x:=by intro _;rfl) :
  XS X (.For (.Tuple J x1 pt) (.Call (.Name "enumerate" p) [a] [] pos') body [] pos) (aH0 g F B):=PS.wk (ah6 hp hc (av8 Y hm ha Z) hg hb hs) λ Dn σ H O=>by
 obtain⟨c,H0,ρ,r,R,f,q⟩:=O;obtain⟨⟨d,aa⟩,h1,f⟩:=a_0 f;obtain⟨xs,h2,f⟩:=a_0 f;dsimp only at h2 f;unfold lsX at h2;split at h2
 rotate_left
 ·cases h2
 cases h2;refine⟨c,H0,ρ,_,aa,R,h1,λ v H1 Hh s1 R1 r1=>?_⟩;obtain⟨a,vs,rfl,sq,rs⟩:=r1;exact⟨a,vs,rfl,Same.seq R1.same sq,bd0 R1 f (E_7 sq rs) (q.mono s1)⟩
end
end Fx
namespace Fx
open PySem PySem.Spec
theorem A_3 :∀ {l:List α}{i:Nat} (h:i<l.length),(l[i]::l.eraseIdx i).Perm l
 |x::r,0,_=>jr _
 |x::r,i+1,h=>by
  have h':i<r.length:=by simpa using h
  exact (List.Perm.swap x r[i] _).trans ((A_3 h').cons x)
section
variable {M:Model}{A:Around}{E:Value->Shared->Prop}{s:Shared}
theorem am9 {src:Source}{n:Nat}{Q:Nat->Shared->Prop} (q:n≠0) (h:∀ i J,i<n->Q i {s with drawn:=J}):wpAny M A (choose src n) Q E s:=λ O p _=>by
 unfold choose;rw[Sem.wp_choose];exact⟨q,h _ _ (Nat.mod_lt _ (Nat.pos_of_ne_zero q))⟩
theorem o_4 :∀ (n:Nat) (xs:List α) (s:Shared) (Q:List α->Shared->Prop),n=xs.length->(∀ ys J,ys.Perm xs->Q ys {s with drawn:=J})->wpAny M A (drawOrder n xs) Q E s
 |0,xs,s,Q,e,h=>by
  have:=List.length_eq_zero_iff.mp e.symm;subst this;exact qc (h [] s.drawn (jr _))
 |n+1,[],s,Q,e,h=>by cases e
 |n+1,x::r,s,Q,e,h=>by
  refine qb (am9 (by simp) λ i J hi=>?_);have e1:=yd hi;rw[e1];refine qb (o_4 n ((x::r).eraseIdx i) _ _ ?_ λ ys q O=>qc ?_)
  ·rw[List.length_eraseIdx_of_lt hi];omega
  ·refine h _ q ?_;exact (O.cons _).trans (A_3 hi)
end
theorem V_1 {α:Type} (f:Nat->Nat):∀ (n k:Nat) (l:List α) (out:Array α),n=l.length->(pickOrder.go f n k l out).toList.Perm (out.toList++l)
 |0,k,l,out,e=>by
  have:l=[]:=List.length_eq_zero_iff.mp e.symm;subst this;unfold pickOrder.go;rw[zm]
 |n+1,k,l,out,e=>by
  unfold pickOrder.go;have q:f k % l.length<l.length:=Nat.mod_lt _ (by omega);rw[yd q];refine (V_1 f n (k+1) _ _ (by rw[List.length_eraseIdx_of_lt q];omega)).trans ?_;rw[Array.toList_push,yt];exact List.Perm.append_left _ (A_3 q)
theorem v_1 {α:Type} (f:Nat->Nat) (xs:Array α):(pickOrder f xs).toList.Perm xs.toList:=by unfold pickOrder;have:=V_1 f xs.size 0 xs.toList #[] (by simp);simpa using this
theorem X_1 (t:SetTable) (es:Array (Int×Value)) (h:Int) (x:Value):(layNew t es h x).2.1.led=t.led/\((layNew t es h x).2.1.plain=true->t.plain=true):=by
 have st:∀ (u:SetTable) (n:Nat),(u.standIn n).led=u.led/\(u.standIn n).plain=false:=λ u n=>⟨rfl,rfl⟩
 unfold layNew;split
 ·rename_i slot O _;have J:(t.put slot).1.led=t.led/\(t.put slot).1.plain=t.plain:=⟨rfl,rfl⟩;dsimp only;unfold SetTable.orStandIn;split
  ·exact⟨J.1,λ q=>by rw[<- J.2];exact q⟩
  ·exact⟨J.1,λ q=>by cases q⟩
 ·exact⟨rfl,λ q=>by cases q⟩
theorem I_6 (t:SetTable) (es:Array (Int×Value)) (n:Nat):(relayAll t es n).2.1.led=t.led/\((relayAll t es n).2.1.plain=true->t.plain=true):=by
 unfold relayAll;split
 ·rename_i t' J e;have m:t'.led=t.led/\t'.plain=t.plain:=by
   unfold SetTable.relaid SetTable.laid at e;cases z:SetTable.layClean (SetTable.sizeAbove n-1) (es.map (·.1)) with
   |none=>rw[z] at e;cases e
   |some ow=>rw[z] at e;cases e;exact⟨rfl,rfl⟩
  dsimp only;split
  ·exact⟨m.1,λ q=>by rw[<- m.2];exact q⟩
  ·exact⟨rfl,λ q=>by cases q⟩
 ·exact⟨rfl,λ q=>by cases q⟩
def SetS (P:Program) (w:World) (bt:Bool) (h:Heap) (a:Addr) (ss:List Str):Prop :=
 ∃ o es ep t,h.get? a=some o/\o.ExactSet/\o.data=.set es ep t/\ElemsOf (PySem.strKind P w) es.toList/\(es.toList.map λ e=>PyProof.Rows.strOf e.2).Perm ss/\ss.Nodup/\es.size<scanBound/\t.fits es.size=true /\
  (t.plain=true->es.size=0)/\(bt=false->t.led=true)
section
variable {P:Program}{w:World}{bt:Bool}{A:Around}{E:Value->Shared->Prop}{s:Shared}{a:Addr}{ss:List Str}
theorem z_0  (h:ElemsOf (PySem.strKind P w) es):∀ e∈es,∃ x t,e.2=.str x t/\e.1=(PySem.strKind P w).hash x:=λ e q=>by
 obtain⟨⟨k,J,Y⟩,_⟩:=h e q;obtain⟨t,O⟩:=Value.isStrOf_shape J;exact⟨k,t,O,Y⟩
theorem u_4 {x:Str}{v:Value}{y:Str}{t:Tok} (e:v=.str y t):(PySem.strKind P w).is x v=decide (x=y):=by
 subst e;have h:(PySem.strKind P w).is y (.str y t)=true:=by show Value.isStrOf y (.str y t)=true;simp[Value.isStrOf]
 exact KeyKind.is_eq_decide h x
theorem J_9 {x:Str}{tk:Tok}{Q:Bool->Shared->Prop} (hS:SetS P w bt s.heap a ss) (ah:ss.length+1<scanBound)
  (h:∀ h',Heap.SameBut a s.heap h'->SetS P w bt h' a (if x∈ss then ss else ss++[x])->Q (!decide (x∈ss)) {s with heap:=h'}) :
  wpAny (model P w) A (setAddHashed a (.str x tk) ((PySem.strKind P w).hash x)) Q E s:=by
 obtain⟨o,es,ep,t,ho,af,hd,Z,hp,al,hb,hf,ao,aa⟩:=hS;have ac:(PySem.strKind P w).is x (.str x tk)=true:=by rw[u_4 rfl];simp
 have ae:(Value.str x tk).scannable=true:=rfl;have hn:es.size=ss.length:=by have:=hp.length_eq;rw[qy,zb] at this;exact this
 have mem:(∃ e∈es.toList,(PySem.strKind P w).is x e.2=true)↔x∈ss:=by
  rw[<- hp.mem_iff,List.mem_map];constructor
  ·rintro ⟨e,he,q⟩;obtain⟨y,t,ey,_⟩:=z_0 Z e he;rw[u_4 ey,y7] at q;exact⟨e,he,by rw[ey,q];rfl⟩
  ·rintro ⟨e,he,q⟩;obtain⟨y,t,ey,_⟩:=z_0 Z e he;rw[ey] at q;exact⟨e,he,by rw[u_4 ey,y7,<- q];rfl⟩
 unfold setAddHashed setAddHashedIn;refine zw (qb (zr ho hd hf ?_));dsimp only;rw[byScan_of ae hb Z];simp only[↓reduceIte];unfold setAddByScan;refine qb (qb (wpAny_rule (qb (wpAny_setScan_of ac ho hd hf Z ?_))));cases hr:List.findIdx? (λ e=>(PySem.strKind P w).is x e.2) es.toList with
 |some j =>
  obtain⟨hj,aq,_⟩:=List.findIdx?_eq_some_iff_getElem.mp hr;have hx:x∈ss:=mem.mp ⟨es.toList[j],Jd hj,aq⟩;dsimp only;refine qc (qc ?_);have:=h s.heap (Zd a s.heap) (by rw[if_pos hx];exact⟨o,es,ep,t,ho,af,hd,Z,hp,al,hb,hf,ao,aa⟩);rw[yh hx] at this;exact this
 |none =>
  have hx:¬ x∈ss:=λ q=>by
   obtain⟨e,he,q⟩:=mem.mpr q;have:=List.findIdx?_eq_none_iff.mp hr e he;rw[q] at this;cases this
  dsimp only;have lp:=layNew_perm t es ((PySem.strKind P w).hash x) (.str x tk);have lf:=layNew_fits t es ((PySem.strKind P w).hash x) (.str x tk);have lm:=X_1 t es ((PySem.strKind P w).hash x) (.str x tk);generalize layNew t es ((PySem.strKind P w).hash x) (.str x tk)=L at lp lf lm ⊢;obtain⟨J,t1,wd,ar⟩:=L;dsimp only at lp lf lm ⊢;rw[Array.toList_push] at lp;have ad:ElemsOf (PySem.strKind P w) J.toList:=(Z.push ac ae).perm lp;have ak:(J.toList.map λ e=>PyProof.Rows.strOf e.2).Perm (ss++[x]):=by refine (lp.map _).trans ?_;rw[zu];exact hp.append (jr _)
  have aj:(ss++[x]).Nodup:=by rw[jb];exact⟨al,by simp,λ u hu v hv e=>by rw[Y5] at hv;subst hv;subst e;exact hx hu⟩
  have am:J.size=es.size+1:=by have:=lp.length_eq;rw[zc,zb,zb] at this;exact this
  have gw:∀ (b:Bool) (O:Shared) (Q':Unit → Shared → Prop),Q' () O → wpAny (model P w) A (match b with | true=>rule "set.scan.the-table-gave-way" | false=>pure ()) Q' E O :=
   λ b O Q' q=>by cases b <;> first | exact qc q | exact wpAny_rule q
  refine qb (gw _ _ _ ?_);have fin:∀ (g:Bool->Sem Unit),(∀ (b:Bool) (O:Shared) (Q':Unit->Shared->Prop),Q' () O->wpAny (model P w) A (g b) Q' E O)->∀ (R:Option Bool->Shared->Prop) (t2:SetTable),t2.fits J.size=true->t2.led=t.led->t2.plain=false ->
    (∀ h',Heap.SameBut a s.heap h'->SetS P w bt h' a (ss++[x])->R (some true) {s with heap:=h'}) ->
    wpAny (model P w) A (do
     storeSet a J t2
     if (!wd&&t2.tooFull)=true then do
       g (relayAll t2 J (SetTable.grown J.size)).2.2
       storeSet a (relayAll t2 J (SetTable.grown J.size)).1 (relayAll t2 J (SetTable.grown J.size)).2.1
       pure (some true)
      else pure (some true)) R E s:=λ g hg R t2 f2 l2 p2 k=>by
   have b1:J.size<scanBound:=by rw[am,hn];exact ah
   refine qb (Q8 ho hd ?_ (Qo b1));have ag:(s.heap.update a (Obj.putSet J t2)).get? a=some {o with data:=.set J (ep+1) t2}:=by have z:=zt (Obj.putSet J t2) ho (by rw[Q0 J t2 hd];rfl);rw[Q0 J t2 hd] at z;exact z
   have ai:=yq s.heap a (Obj.putSet J t2);split
   ·have rp:=relayAll_perm t2 J (SetTable.grown J.size);have rf:=relayAll_fits t2 J (SetTable.grown J.size);have rm:=I_6 t2 J (SetTable.grown J.size);generalize relayAll t2 J (SetTable.grown J.size)=Rl at rp rf rm ⊢;obtain⟨Y,t3,g2⟩:=Rl;dsimp only at rp rf rm ⊢;have ap:Y.size=J.size:=by rw[<- zb,rp.length_eq,zb]
    have b2:Y.size<scanBound:=by rw[ap];exact b1
    refine qb (hg _ _ _ (qb (Q8 ag rfl (qc (k _ (ai.trans (yq _ a _)) ?_)) (Qo b2))));have an:((s.heap.update a (Obj.putSet J t2)).update a (Obj.putSet Y t3)).get? a=some {o with data:=.set Y (ep+1+1) t3}:=by have z:=zt (Obj.putSet Y t3) ag (by rw[Q0 (es:=J) (ep:=ep+1) (t:=t2) Y t3 rfl];rfl);rw[Q0 (es:=J) (ep:=ep+1) (t:=t2) Y t3 rfl] at z;exact z
    exact⟨_,Y,ep+1+1,t3,an,af,rfl,ad.perm rp,(rp.map _).trans ak,aj,b2,rf,λ q=>(by rw[p2] at rm;exact absurd (rm.2 q) (by simp)),λ q=>by rw[rm.1,l2];exact aa q⟩
   ·exact qc (k _ ai ⟨_,J,ep+1,t2,ag,af,rfl,ad,ak,aj,b1,f2,λ q=>(by rw[p2] at q;cases q),λ q=>by rw[l2];exact aa q⟩)
  have done:∀ h',Heap.SameBut a s.heap h'->SetS P w bt h' a (ss++[x])->Q true {s with heap:=h'}:=λ h' c1 c2=>by
   have:=h h' c1 (by rw[if_neg hx];exact c2);rw[yj hx] at this;exact this
  split
  ·refine qb ?_;rw[hashByValue_scannable 8 ae];refine qc (fin _ gw _ _ ?_ ?_ ?_ λ h' c1 c2=>?_)
   ·exact SetTable.fits_plain_off lf
   ·exact lm.1
   ·rfl
   ·dsimp only;exact qc (done h' c1 c2)
  ·rename_i np;refine qb (qc ?_);simp only[↓reduceIte];refine fin _ gw _ _ lf lm.1 (by simpa using np) λ h' c1 c2=>?_;dsimp only;exact qc (done h' c1 c2)
end
theorem o_3:∀ (xs acc:List Str),(d_1 acc xs).length<=acc.length+xs.length
 |[],acc=>qj _
 |x::r,acc=>by
  have h:=o_3 r (T_4 acc x);have h2:(T_4 acc x).length<=acc.length+1:=by
   unfold T_4;split
   ·omega
   ·rw[zc];exact qj _
  show (d_1 (T_4 acc x) r).length<=_;rw[zg];omega
noncomputable def ItAt:Bool->Heap->Addr->Addr->Nat->Prop
 |true,h,it,c,i=>h.IsTupleIter it c i
 |false,h,it,c,i=>h.IsListIter it c i
noncomputable def SqAt:Bool->Heap->Addr->Array Value->Prop
 |true,h,c,us=>h.IsTuple c us
 |false,h,c,us=>h.IsList c us
section
variable {P:Program}{w:World}{A:Around}{E:Value->Shared->Prop}{s:Shared}{it c:Addr}{i:Nat}{us:Array Value}
theorem SqAt.keep  (q:SqAt T h c us) (k:∀ b o,h.get? b=some o->h'.get? b=some o):SqAt T h' c us:=by
 cases T with
 |true=>obtain⟨o,J,r⟩:=q;exact⟨o,k _ _ J,r⟩
 |false=>obtain⟨o,J,r⟩:=q;exact⟨o,k _ _ J,r⟩
theorem ax5  (a:ItAt T s.heap it c i) (b:SqAt T s.heap c us) (hx:us[i]?=some x)
  (k:∀ h',ItAt T h' it c (i+1)->Heap.SameBut it s.heap h'->Q (some x) {s with heap:=h'}):wpAny (model P w) A (pyNext (.ref it)) Q E s:=by
 cases T with
 |true=>exact Z3 a b hx k
 |false=>exact wpAny_pyNext_list_item a b hx k
theorem aJ0  (q:A.handled=none) (a:ItAt T s.heap it c i) (b:SqAt T s.heap c us) (hx:us[i]?=none)
  (k:∀ h',Heap.ExtBut it s.heap h'->Q none {s with heap:=h'}):wpAny (model P w) A (pyNext (.ref it)) Q E s:=by
 cases T with
 |true=>exact Z8 q a b hx k
 |false=>exact wpAny_pyNext_list_end q a b hx k
theorem ap3  (b:SqAt T s.heap c us)
  (k:∀ oI:Obj,ItAt T (s.heap.push oI) s.heap.objs.size c 0->Q (.ref s.heap.objs.size) {s with heap:=s.heap.push oI}):wpAny (model P w) A (pyIter (.ref c)) Q E s:=by
 cases T with
 |true=>exact wpAny_pyIter_tuple b (k _ ⟨_,qk _ rfl,rfl,rfl⟩)
 |false=>exact wpAny_pyIter_list b (k _ ⟨_,qk _ rfl,rfl,rfl⟩)
theorem ItAt.same  (q:ItAt T h it c i) (O:Heap.SameBut b h h') (ne:it≠b):ItAt T h' it c i:=by
 cases T with
 |true=>obtain⟨o,J,r⟩:=q;exact⟨o,(O.2 it ne).trans J,r⟩
 |false=>obtain⟨o,J,r⟩:=q;exact⟨o,(O.2 it ne).trans J,r⟩
theorem SetS.same  (q:SetS P w bt h a ss) (J:Heap.SameBut b h h') (ne:a≠b):SetS P w bt h' a ss:=by obtain⟨o,es,ep,t,O,r⟩:=q;exact⟨o,es,ep,t,(J.2 a ne).trans O,r⟩
theorem SetS.ext  (q:SetS P w bt h a ss) (J:Heap.ExtBut b h h') (ne:a≠b):SetS P w bt h' a ss:=by obtain⟨o,es,ep,t,O,r⟩:=q;exact⟨o,es,ep,t,J a _ ne O,r⟩
theorem SetS.keep  (q:SetS P w bt h a ss) (k:∀ b o,h.get? b=some o->h'.get? b=some o):SetS P w bt h' a ss:=by obtain⟨o,es,ep,t,J,r⟩:=q;exact⟨o,es,ep,t,k _ _ J,r⟩
theorem aW0  (h:PyProof.Rows.StrsAre all xs)  (e:xs.drop i=x::r):∃ tk,all[i]?=some (.str x tk):=by
 induction h generalizing i with
 |nil=>simp at e
 |cons y t h J =>
  cases i with
  |zero =>
   rw[List.drop_zero] at e;injection e with e1 e2
   subst e1;exact⟨t,rfl⟩
  |succ i =>
   rw[List.drop_succ_cons] at e;obtain⟨tk,q⟩:=J e;exact⟨tk,by simpa using q⟩
theorem aG4 {bt T:Bool}{hI:Heap}{a:Addr}{all:List Value}{O:List Str}{R:Result->Shared->Prop} (ak:hI.get? a=none) (ag:hI.get? it=none) (aa:a≠it) (sq:SqAt T hI c all.toArray) (sa:PyProof.Rows.StrsAre all O) (hh:A.handled=none) :
  ∀ (xs:List Str) (acc:List Str) (s:Shared) (i:Nat),O.drop i=xs->(∀ b o,hI.get? b=some o->s.heap.get? b=some o)->ItAt T s.heap it c i->SetS P w bt s.heap a acc->acc.length+xs.length+1<scanBound ->
   (∀ h' Y,(∀ b o,hI.get? b=some o->h'.get? b=some o)->SetS P w bt h' a (d_1 acc xs)->R (.ok (.ret .none)) {s with heap:=h',toks:=Y}) ->
   codeAny (model P w) A (.builtin "set.update.loop" ⟨[.ref a,.ref it],[]⟩) R s:=by
 intro xs;induction xs with
 |nil =>
  intro acc s i e kp Z hS hz q;refine jv Yx ?_;rw[jj Qw _];show wpAny _ A.in1 (pyNext (.ref it) >>= _) _ _ s;have hl:all.length=O.length:=by have:=sa.strs;rw[<- this,qy]
  have hx:all.toArray[i]?=none:=by have:all[i]?=none:=ju (by rw[hl];simpa using e);simpa using this
  refine qb (aJ0 hh Z (sq.keep kp) hx λ h' eb=>qc ?_);exact q h' s.toks (λ b o J=>eb b o (λ z=>by rw[z,ag] at J;cases J) (kp _ _ J)) (hS.ext eb aa)
 |cons x xs ih =>
  intro acc s i e kp Z hS hz q;refine jv Yx ?_;rw[jj Qw _];show wpAny _ A.in1 (pyNext (.ref it) >>= _) _ _ s;obtain⟨tk,ah⟩:=aW0 sa e;have hx:all.toArray[i]?=some (.str x tk):=by simpa using ah
  refine qb (ax5 Z (sq.keep kp) hx λ h1 ac ae=>?_);have ai:∀ b o,hI.get? b=some o->h1.get? b=some o:=λ b o J=>(ae.2 b (λ z=>by rw[z,ag] at J;cases J)).trans (kp _ _ J);show wpAny _ A.in1 (holding [Value.str x tk] (setAdd a (.str x tk)) >>= _) _ _ _;refine qb (zw ?_);unfold setAdd;have ad:(PySem.strKind P w).is x (.str x tk)=true:=by rw[u_4 rfl];simp
  refine zw (qb ((PySem.strKind P w).pyHash ad ?_));simp only[zg] at hz;refine J_9 (s:={s with heap:=h1,toks:=s.toks+1}) (hS.same ae aa) (by omega) λ h2 af aj=>?_;have al:∀ b o,hI.get? b=some o->h2.get? b=some o:=λ b o J=>(af.2 b (λ z=>by rw[z,ak] at J;cases J)).trans (ai _ _ J);have l2:(T_4 acc x).length<=acc.length+1:=by
   unfold T_4;split
   ·omega
   ·rw[zc];exact qj _
  refine qc ⟨Qy Qw _,?_⟩;exact ih (T_4 acc x) {s with heap:=h2,toks:=s.toks+1} (i+1) (by rw[<- List.drop_drop,e];rfl) al (ac.same af (zv aa)) aj (by omega) λ h' Y c1 c2=>q h' Y c1 c2
end
noncomputable abbrev byT (w:World):Bool:=w.params.followText "set-order"
abbrev newS (w:World):Obj:={cls:=.type "set",dict:=none,data:=.set #[] 0 (.fresh 0 0 (!byT w))}
theorem M_8:isSubtype (.type "tuple") (.type "set")=pure false:=by rw[Yp];kernel_rfl
theorem v_6:isSubtype (.type "tuple") (.type "frozenset")=pure false:=by rw[Yp];kernel_rfl
section
variable {P:Program}{w:World}{A:Around}{E:Value->Shared->Prop}{s:Shared}
theorem aG5 (h:Heap):SetS P w (byT w) (h.push (newS w)) h.objs.size [] :=
 ⟨_,#[],0,_,qk _ rfl,⟨rfl,rfl,rfl⟩,rfl,λ e q=>(by simp at q),jr _,yx,by decide,by rfl,λ _=>rfl,λ e=>by rw[e];rfl⟩
theorem aJ1  (h:Q (.ref s.heap.objs.size) {s with heap:=s.heap.push (newS w)}):wpAny (model P w) A (newSet (.type "set")) Q E s:=by refine qb (qb (y8 (qc ?_)));exact qb (wpAny_alloc (qc h))
theorem aq0 (v:Value)  (h:Q₁ (.ref s.heap.objs.size) {s with heap:=s.heap.push (newS w)}) :
  codeAny (model P w) A (.call (.builtin "set.__new__") ⟨[.type "set",v],[]⟩) (wants Q₁ E) s:=by
 refine codeAny_of_tree ?_;refine qb (Yn (F.newCall_set_1 v) (qc ⟨Qy F.plain_set_new _,jv F.entry_set_new ?_⟩));rw[jj F.plain_set_new _];have J:=sub_set_self;obtain⟨O,Z,q,k0,Y⟩:=s;wp_walk;refine y8 (qc ?_);exact qb (wpAny_alloc (qc (qc h)))
set_option maxHeartbeats 3200000 in
theorem aD1 {T:Bool}{c:Addr}{all:List Value}{xs:List Str}{Q:Value->Shared->Prop} (hh:A.handled=none) (sq:SqAt T s.heap c all.toArray) (sa:PyProof.Rows.StrsAre all xs) (hz:xs.length+1<scanBound)
  (k:∀ (h':Heap) (tk:Nat),(∀ b o,s.heap.get? b=some o->h'.get? b=some o)->SetS P w (byT w) h' s.heap.objs.size (d_1 [] xs)->Q (.ref s.heap.objs.size) {s with heap:=h',toks:=tk}) :
  wpAny (model P w) A (call (.type "set") [.ref c]) Q E s:=by
 obtain⟨mc,mt,mr⟩:=F.called_set.mro;have md:=F.called_set.made;have su:=F.called_set.sub;refine Zg (codeAny_of_tree ?_);show wpAny _ _ (callAny (.type "set") _) _ _ _;refine qc ⟨Code.quiet_builtin _ (by decide +kernel),jv F.entry_type_call ?_⟩;rw[Around.under_plain (weight_type_call_type "set" [.ref c] []) rfl];have f1:=F.called_set.notType;have f2:=F.called_set.canCreate;have f3:=F.typeCall_set_1 (.ref c)
 repeat (any_goals (first | assumption | wp_step))
 refine Qu (aq0 (.ref c) (E:=E) (Q₁:=λ z s1=>z=.ref s.heap.objs.size/\s1={s with heap:=s.heap.push (newS w)}) ⟨rfl,rfl⟩) λ r s1 Z=>?_;cases r with
 |error e=>exact Z
 |ok fl =>
  cases fl with
  |ret z =>
   obtain⟨rfl,rfl⟩:=Z;have ac:(s.heap.push (newS w)).get? s.heap.objs.size=some (newS w):=qk _ rfl;have ae:Shared.TypeIs {s with heap:=s.heap.push (newS w)} (.ref s.heap.objs.size) "set":=⟨_,ac,rfl⟩;have li:=F.called_set.init.lookup;have bi:=F.called_set.init.bind (.ref s.heap.objs.size)
   repeat (any_goals (first | assumption | wp_step))
   refine Qu (Zm (R:=wants (λ r s2=>r=.none/\∃ h' tk,s2={s with heap:=h',toks:=tk}/\(∀ b o,s.heap.get? b=some o->h'.get? b=some o)/\SetS P w (byT w) h' s.heap.objs.size (d_1 [] xs)) E) F.called_set.init.plain F.entry_set_init (check_set_init_1 ae ?_)) λ r2 s2 O=>?_
   ·have J:SqAt T (s.heap.push (newS w)) c all.toArray:=sq.keep λ b o e=>qd _ e;have e1:∃ TT:String,Shared.TypeIs {s with heap:=s.heap.push (newS w)} (.ref c) TT ∧ (isSubtype (.type TT) (.type "set")=pure false) ∧ (isSubtype (.type TT) (.type "frozenset")=pure false) ∧ (Value.type TT==Value.type "dict")=false:=by
     cases T with
     |true=>obtain⟨o,ho,hc,_⟩:=J;exact⟨"tuple",⟨o,ho,hc⟩,M_8,v_6,by decide⟩
     |false=>obtain⟨o,ho,hc,_⟩:=J;exact⟨"list",⟨o,ho,hc⟩,F.sub_list_set,F.sub_list_frozenset,by decide⟩
    obtain⟨TT,af,n1,n2,n3⟩:=e1;unfold Builtin.«set.__init__» noKeywords Builtin.Frozenset.updateFrom;generalize Y:pyIter=PI;wp_walk;subst Y;refine ap3 (s:={s with heap:=s.heap.push (newS w)}) J λ oI ad=>?_;have sz:(s.heap.push (newS w)).objs.size=s.heap.objs.size+1:=by rw[Yu]
    have q:∀ n,s.heap.objs.size<=n->s.heap.get? n=none:=λ n hn=>by
     cases z:s.heap.get? n with
     |none=>rfl
     |some o=>exact absurd (qm z) (Nat.not_lt.mpr hn)
    refine qb (wpAny_runValue ?_);refine aG4 (A:=A.in1.in1) (bt:=byT w) (hI:=s.heap) (q _ (qj _)) (q _ (by show s.heap.objs.size<=(s.heap.push (newS w)).objs.size;rw[sz];exact Q5 _)) (by show s.heap.objs.size≠(s.heap.push (newS w)).objs.size;rw[sz];exact qt (Z6 _)) sq sa hh
     xs [] {s with heap:=(s.heap.push (newS w)).push oI} 0 rfl (λ b o e=>qd _ (qd _ e)) ad ((aG5 s.heap).keep λ b o e=>qd _ e) (by rw[yy];omega) λ h' tk c1 c2=>?_
    refine qc (qc ?_);exact⟨rfl,h',tk,rfl,c1,c2⟩
   ·cases r2 with
    |error e=>exact O
    |ok aa =>
     cases aa with
     |ret r =>
      obtain⟨rfl,h',tk,rfl,c1,c2⟩:=O
      repeat (any_goals (first | assumption | wp_step))
      exact k _ _ c1 c2
     |_=>exact O.elim
  |_=>exact Z.elim
end
theorem slot_sit_next:Slot "set_iterator" "__next__" "set_iterator.__next__" :=
 .of (owner:="set_iterator") (n:="__next__") (by rw[typeLookup_type,Yl];kernel_rfl) (by decide +kernel) (by decide +kernel) (by decide +kernel) (by first | exact .inl (by decide +kernel) | exact .inr (by decide +kernel)) (by rw[Yp];kernel_rfl)
theorem x_3:Slot "set_iterator" "__iter__" "set_iterator.__iter__" :=
 .of (owner:="set_iterator") (n:="__iter__") (by rw[typeLookup_type,Yl];kernel_rfl) (by decide +kernel) (by decide +kernel) (by decide +kernel) (by first | exact .inl (by decide +kernel) | exact .inr (by decide +kernel)) (by rw[Yp];kernel_rfl)
theorem J_6:entryFor table "set_iterator.__next__"=some Builtin.«set_iterator.__next__»:=entryFor_of_tree (by kernel_rfl)
theorem J_7:entryFor table "set_iterator.__iter__"=some Builtin.«dict_keyiterator.__iter__» :=
 entryFor_alias (id':="dict_keyiterator.__iter__") (by kernel_rfl) (by first | rfl | decide +kernel) (by decide +kernel) (by kernel_rfl)
theorem H_3:entryFor table "set.__iter__"=some Builtin.«frozenset.__iter__» :=
 entryFor_alias (id':="frozenset.__iter__") (by kernel_rfl) (by first | rfl | decide +kernel) (by decide +kernel) (by kernel_rfl)
theorem S_6 (v:Value):argsOk "set_iterator.__next__" ⟨[v],[]⟩:=by kernel_rfl
theorem S_7 (v:Value):argsOk "set_iterator.__iter__" ⟨[v],[]⟩:=by kernel_rfl
noncomputable abbrev ag2 (first:Value) (i:Int) (a:Addr) (n ep:Nat):Obj:={cls:=.type "set_iterator",data:=.fields #[first,.int i 0,.ref a,.int n 0,.int ep 0]}
section
theorem N_2  (q:s.heap.get? it=some o) (J:o.cls=.type "set_iterator") (h:Q (.ref it) s):wpAny (model P w) A (pyIter (.ref it)) Q E s:=by have ty:s.TypeIs (.ref it) "set_iterator":=⟨o,q,J⟩;refine wpAny_pyIter_slot ty x_3 (j0 x_3 ty J_7 ?_ (S_7 _));exact qc ⟨_,rfl,"set_iterator",_,ty,slot_sit_next.lookup,h⟩
theorem E_2  (O:s.heap.get? it=some o) (Y:o.cls=.type "set_iterator")
  (h:wpAny (model P w) A.in1 (Builtin.«set_iterator.__next__» ⟨[.ref it],[]⟩) (λ fin s'=>∃ v,fin=.done (.ret v) ∧ Q (some v) s') (λ e s'=>∃ x J,e=.ref x ∧ s'.heap.get? x=some J ∧ J.cls=.type "StopIteration" ∧ Q none s') s) :
  wpAny (model P w) A (pyNext (.ref it)) Q E s:=by
 have ty:s.TypeIs (.ref it) "set_iterator":=⟨o,O,Y⟩;refine qb (Yy (wpAny_callSpecial?_slot ty slot_sit_next (j0 slot_sit_next ty J_6 (yg h (λ fin s' q=>?_) λ e s' q=>?_) (S_6 _))))
 ·obtain⟨v,rfl,q⟩:=q;exact⟨v,rfl,qc q⟩
 ·obtain⟨x,J,rfl,h1,h2,q⟩:=q;exact qb (Z4 ⟨J,h1,h2⟩ isSubtype_stop (qc q))
theorem aP1  (J:A.handled=none)
  (k:∀ (h':Heap) (x:Addr) (q:Obj),(∀ b o,s.heap.get? b=some o → h'.get? b=some o) → h'.get? x=some q → q.cls=.type "StopIteration" → E (.ref x) {s with heap:=h'}) :
  wpAny (model P w) A (newExc (.type "StopIteration") [] >>= λ e=>raiseNew e) Q E s:=by
 refine qb ?_;refine qb (yr ?_ (by size_fits));refine qb (Yn (by first | rfl | (simp only[firstArgMember];rfl)) (yr ?_ (by size_fits)));refine qb (wpAny_handled ?_);rw[J];exact qb (qc (wpAny_throw (k _ _ _ (λ b o e=>qd _ (qd _ e)) (qk _ rfl) rfl)))
end
section
structure SObj (h:Heap) (a:Addr) (es:Array (Int×Value)) (ep:Nat) (t:SetTable):Prop where
 at_:∃ o,h.get? a=some o/\o.ExactSet/\o.data=.set es ep t
 fits:t.fits es.size=true
theorem SObj.keep  (q:SObj h a es ep t) (k:∀ o,h.get? a=some o->h'.get? a=some o):SObj h' a es ep t:=by obtain⟨⟨o,h1,h2⟩,f⟩:=q;exact⟨⟨o,k o h1,h2⟩,f⟩
theorem ao5 {J:List Nat}{i p:Nat} (hI:s.heap.get? it=some (ag2 (.ref tp) i a es.size ep)) (hO:SObj s.heap a es ep t)
  (hT:s.heap.IsTuple tp (J.map λ q:Nat=>Value.int q 0).toArray) (hp:J[i]?=some p) (he:es[p]?=some e)
  (k:∀ h',h'.get? it=some (ag2 (.ref tp) (i+1:Nat) a es.size ep)->Heap.SameBut it s.heap h'->Q (some e.2) {s with heap:=h'}):wpAny (model P w) A (pyNext (.ref it)) Q E s:=by
 obtain⟨⟨o,h1,h2,Y⟩,O⟩:=hO;obtain⟨ot,Z,t2,tn,t3⟩:=hT;refine E_2 hI rfl ?_;show wpAny _ _ (fieldsOf (.ref it) >>= _) _ _ s;refine qb (Yo hI rfl ?_);refine qb (jz h1 Y O ?_);rw[if_neg (by simp)];refine qb (wpAny_seqItems Z t3 ?_);have pk:(J.map λ q:Nat=>Value.int q 0).toArray[((i:Nat):Int).toNat]?=some (.int p 0):=by simp[hp]
 dsimp only;rw[pk];refine qb ?_;refine qb (zr h1 Y O ?_);dsimp only;rw[if_neg (by simp)];have ek:es[((p:Nat):Int).toNat]?=some (e.1,e.2):=by simpa using he
 rw[ek];refine qc (qb (Qr hI rfl (by simp) (qc ⟨_,rfl,k _ ?_ (yq ..)⟩)));have z:=zt (Obj.mapFields (·.setIfInBounds 1 (rawInt (((i:Nat):Int)+1)))) hI rfl;rw[z];rfl
theorem aB7 {J:List Nat}{i:Nat} (hh:A.handled=none) (hI:s.heap.get? it=some (ag2 (.ref tp) i a es.size ep)) (hO:SObj s.heap a es ep t)
  (hT:s.heap.IsTuple tp (J.map λ q:Nat=>Value.int q 0).toArray) (hp:J[i]?=none)
  (k:∀ h',Heap.ExtBut it s.heap h'->Q none {s with heap:=h'}):wpAny (model P w) A (pyNext (.ref it)) Q E s:=by
 obtain⟨⟨o,h1,h2,h3⟩,hf⟩:=hO;obtain⟨ot,Y,t2,tn,Z⟩:=hT;refine E_2 hI rfl ?_;show wpAny _ _ (fieldsOf (.ref it) >>= _) _ _ s;refine qb (Yo hI rfl ?_);refine qb (jz h1 h3 hf ?_);rw[if_neg (by simp)];refine qb (wpAny_seqItems Y Z ?_);have pk:(J.map λ q:Nat=>Value.int q 0).toArray[((i:Nat):Int).toNat]?=none:=by simp[hp]
 dsimp only;rw[pk];refine qb (Qr hI rfl (by simp) ?_);have z:=zt (Obj.mapFields (·.setIfInBounds 0 (rawInt 0))) hI rfl;refine qb (Qr z rfl (by simp[ag2]) ?_);refine aP1 hh λ h' x oe kp hx hc=>⟨x,oe,rfl,hx,hc,k h' λ b ob O e=>kp b ob ?_⟩
 rw[yk _ _ (zv O),yk _ _ (zv O)];exact e
theorem W_4 {q nx i:Nat} (hI:s.heap.get? it=some (ag2 (.int q 0) i a es.size ep)) (hO:SObj s.heap a es ep t)
  (Y:∀ (O:Around) (J:Option (Value×Nat)->Shared->Prop) (Z:Value->Shared->Prop),J (some (v,nx)) s->wpAny (model P w) O (setNext a q i ep) J Z s)
  (k:∀ h',h'.get? it=some (ag2 (.int nx 0) (i+1:Nat) a es.size ep)->Heap.SameBut it s.heap h'->Q (some v) {s with heap:=h'}):wpAny (model P w) A (pyNext (.ref it)) Q E s:=by
 obtain⟨⟨o,h1,h2,h3⟩,hf⟩:=hO;refine E_2 hI rfl ?_;show wpAny _ _ (fieldsOf (.ref it) >>= _) _ _ s;refine qb (Yo hI rfl ?_);refine qb (jz h1 h3 hf ?_);rw[if_neg (by simp)];show wpAny _ _ (setNext a ((q:Nat):Int).toNat ((i:Nat):Int).toNat ((ep:Nat):Int).toNat >>= _) _ _ s;rw[Qp,Qp,Qp];refine qb (Y _ _ _ ?_);refine qb (Qr hI rfl (by simp) ?_);have z:=zt (Obj.mapFields (·.setIfInBounds 0 (rawInt (nx:Int)))) hI rfl;refine qb (Qr z rfl (by simp[ag2]) (qc ⟨_,rfl,k _ ?_ ((yq ..).trans (yq ..))⟩));have z2:=zt (Obj.mapFields (·.setIfInBounds 1 (rawInt (((i:Nat):Int)+1)))) z rfl;rw[z2];rfl
theorem al3 {q i:Nat} (Y:A.handled=none) (hI:s.heap.get? it=some (ag2 (.int q 0) i a es.size ep)) (hO:SObj s.heap a es ep t)
  (Z:∀ (O:Around) (J:Option (Value×Nat)->Shared->Prop) (E':Value->Shared->Prop),J none s->wpAny (model P w) O (setNext a q i ep) J E' s)
  (k:∀ h',Heap.ExtBut it s.heap h'->Q none {s with heap:=h'}):wpAny (model P w) A (pyNext (.ref it)) Q E s:=by
 obtain⟨⟨o,h1,h2,h3⟩,hf⟩:=hO;refine E_2 hI rfl ?_;show wpAny _ _ (fieldsOf (.ref it) >>= _) _ _ s;refine qb (Yo hI rfl ?_);refine qb (jz h1 h3 hf ?_);rw[if_neg (by simp)];show wpAny _ _ (setNext a ((q:Nat):Int).toNat ((i:Nat):Int).toNat ((ep:Nat):Int).toNat >>= _) _ _ s;rw[Qp,Qp,Qp];refine qb (Z _ _ _ ?_);refine qb (Qr hI rfl (by simp) ?_);refine aP1 Y λ h' x oe kp hx hc=>⟨x,oe,rfl,hx,hc,k h' λ b ob hb e=>kp b ob ?_⟩
 rw[yk _ _ (zv hb)];exact e
theorem U_5  (Z:SObj s.heap a es ep t) (bt:byT w=true)  (q:Q (((pickOrder (w.params.setOrder a ep) es)[i]?).map λ e=>(e.2,J)) s) :
  wpAny (model P w) A (setNext a J i ep) Q E s:=by
 obtain⟨⟨o,h1,h2,O⟩,Y⟩:=Z;refine qb (zr h1 O Y ?_);refine qb (qb (y8 (qc ?_)));split
 ·rw[if_neg (by simp)];refine qb (qb (zr h1 O Y ?_));refine qb (qb (y8 (qc ?_)));split
  ·exact qb (y8 (qc (qc q)))
  ·rename_i c;exact absurd bt c
 ·rename_i c;exact absurd bt c
theorem U_6  (hO:SObj s.heap a es ep t) (bt:byT w=false) (le:es.size<=1) (Y:t.led=true) 
  (q:Q (match es[SetTable.below t.place J]?,t.place[SetTable.below t.place J]? with | some (_,x),some j=>some (x,j+1) | _,_=>none) s) :
  wpAny (model P w) A (setNext a J i ep) Q E s:=by
 obtain⟨⟨o,h1,h2,h3⟩,hf⟩:=hO;refine qb (zr h1 h3 hf ?_);refine qb (qb (y8 (qc ?_)));split
 ·rename_i c;have c:byT w=true:=c;rw[bt] at c;cases c
 ·split
  ·rename_i c;have c:(!t.plain&&decide (es.size > 1))=true:=c;simp at c;omega
  ·have m:∀ (O:Unit → Shared → Prop),O () s → wpAny (model P w) A (if (!t.led&&!es.isEmpty)=true then unsupported "set:maker-not-led" else pure ()) O E s:=λ O Z=>by
    rw[if_neg (by simp[Y])];exact qc Z
   exact qb (m _ (qc q))
end
section
def aO3 (P:Program) (w:World) (X:Addr->Prop) (I:Addr) (vs:List Value) (h:Heap):Prop :=
 ∃ (q:List Addr) (St:Nat->Heap->Prop),(∀ A:Around,A.handled=none->Walks P w A I q [I] vs.length (λ i v=>vs[i]?=some v) St)/\St 0 h/\∀ b∈q,b<h.objs.size/\X b
theorem an9 (es:Array (Int×Value)):((List.range es.size).map λ p=>(es.getD p default).2)=es.toList.map (·.2):=by
 apply Zz;intro i;by_cases h:i<es.size
 ·simp[h,Array.getD]
 ·have h':=Nat.not_lt.mp h;simp[h']
theorem ab0 {J:List Nat} (hI:h.get? I=some (ag2 (.ref tp) 0 a es.size ep)) (hO:SObj h a es ep t)
  (hT:h.IsTuple tp (J.map λ q:Nat=>Value.int q 0).toArray) (hp:J.Perm (List.range es.size)) (n1:a≠I) (n2:tp≠I)  (xI:X I) (xa:X a) (xt:X tp):aO3 P w X I (J.map λ p=>(es.getD p default).2) h:=by
 refine⟨[I,a,tp],λ i h=>h.get? I=some (ag2 (.ref tp) (i:Nat) a es.size ep)/\SObj h a es ep t/\h.IsTuple tp (J.map λ q:Nat=>Value.int q 0).toArray,λ A hh=>?_,⟨hI,hO,hT⟩,λ b O=>?_⟩
 ·refine⟨λ b O=>(by simp at O;simp[O]),λ i h h' st k=>⟨k I (by simp) _ st.1,st.2.1.keep (k a (by simp)),?_⟩,λ i s Q E hi st q=>?_,λ s Q E st q=>?_,λ i s Q E st q=>N_2 st.1 rfl q⟩
  ·obtain⟨o,Z,r⟩:=st.2.2;exact⟨o,k tp (by simp) _ Z,r⟩
  ·rw[qy] at hi;have Y:=yd hi;have hm:J[i]<es.size:=by have:=hp.mem_iff.mp (Jd hi);simpa using this
   refine ao5 st.1 st.2.1 st.2.2 Y (e:=es[J[i]]) (by simp[hm]) λ h' c1 c2=>q _ h' s.toks ?_ ⟨c1,st.2.1.keep λ o e=>(c2.2 a n1).trans e,?_⟩ λ b o O e=>(c2.2 b λ z=>O (by simp[z])).trans e
   ·rw[zl,Y];simp[Array.getD,hm]
   ·obtain⟨o,Z,r⟩:=st.2.2;exact⟨o,(c2.2 tp n2).trans Z,r⟩
  ·rw[qy] at st;exact aB7 hh st.1 st.2.1 st.2.2 (ju (qj _)) λ h' c=>q h' s.toks λ b o O e=>c b o (λ z=>O (by simp[z])) e
 ·have:b=I\/b=a\/b=tp:=by simpa using O
  rcases this with rfl | rfl | rfl
  ·exact⟨qm hI,xI⟩
  ·obtain⟨⟨o,h1,_⟩,_⟩:=hO;exact⟨qm h1,xa⟩
  ·obtain⟨o,Z,_⟩:=hT;exact⟨qm Z,xt⟩
theorem an8  (bt:byT w=true) (hI:h.get? I=some (ag2 (.int 0 0) 0 a es.size ep)) (Y:SObj h a es ep t) (n1:a≠I)  (xI:X I) (xa:X a) :
  aO3 P w X I ((pickOrder (w.params.setOrder a ep) es).toList.map (·.2)) h:=by
 refine⟨[I,a],λ i h=>h.get? I=some (ag2 (.int ((0:Nat):Int) 0) (i:Nat) a es.size ep)/\SObj h a es ep t,λ A hh=>?_,⟨hI,Y⟩,λ b J=>?_⟩
 ·refine⟨λ b J=>(by simp at J;simp[J]),λ i h h' st k=>⟨k I (by simp) _ st.1,st.2.keep (k a (by simp))⟩,λ i s Q E hi st q=>?_,λ s Q E st q=>?_,λ i s Q E st q=>N_2 st.1 rfl q⟩
  ·rw[qy,zb] at hi;refine W_4 st.1 st.2 (λ A' Q' E' O=>U_5 st.2 bt (by rw[yo hi];exact O)) λ h' c1 Z=>q _ h' s.toks ?_ ⟨c1,st.2.keep λ o e=>(Z.2 a n1).trans e⟩ λ b o J e=>(Z.2 b λ z=>J (by simp[z])).trans e;rw[zl,je,yo hi];rfl
  ·rw[qy,zb] at st;exact al3 hh st.1 st.2 (λ A' Q' E' O=>U_5 st.2 bt (by rw[Yg (Nat.le_refl _)];exact O)) λ h' c=>q h' s.toks λ b o J e=>c b o (λ z=>J (by simp[z])) e
 ·have:b=I\/b=a:=by simpa using J
  rcases this with rfl | rfl
  ·exact⟨qm hI,xI⟩
  ·obtain⟨⟨o,h1,_⟩,_⟩:=Y;exact⟨qm h1,xa⟩
theorem ae8 (xs:Array Nat) (le:xs.size<=1):SetTable.below xs 0=0/\∀ j,xs[0]?=some j->SetTable.below xs (j+1)=1:=by
 obtain⟨l⟩:=xs
 match l,le with
 |[],_=>exact⟨rfl,λ j e=>by simp at e⟩
 |[x],_ =>
  refine⟨?_,λ j e=>?_⟩
  ·simp[SetTable.below,SetTable.below.go]
  ·have:x=j:=by simpa using e
   subst this;simp[SetTable.below,SetTable.below.go]
 |x::y::r,h=>simp at h
theorem aa9  (bt:byT w=false) (le:es.size<=1) (ld:t.led=true) (hI:h.get? I=some (ag2 (.int 0 0) 0 a es.size ep)) (hO:SObj h a es ep t) (n1:a≠I)  (xI:X I) (xa:X a) :
  aO3 P w X I (es.toList.map (·.2)) h:=by
 have ps:t.place.size=es.size:=by have:=hO.fits;unfold SetTable.fits at this;simp at this;exact this.1
 obtain⟨b0,b1⟩:=ae8 t.place (by omega);refine⟨[I,a],λ i h=>(∃ Y:Nat,h.get? I=some (ag2 (.int (Y:Int) 0) (i:Nat) a es.size ep)/\SetTable.below t.place Y=i)/\SObj h a es ep t,λ A hh=>?_,⟨⟨0,hI,b0⟩,hO⟩,λ b O=>?_⟩
 ·refine⟨λ b O=>(by simp at O;simp[O]),λ i h h' st k=>?_,λ i s Q E hi st q=>?_,λ s Q E st q=>?_,λ i s Q E st q=>?_⟩
  ·obtain⟨⟨Y,Z,c2⟩,J⟩:=st;exact⟨⟨Y,k I (by simp) _ Z,c2⟩,J.keep (k a (by simp))⟩
  ·obtain⟨⟨Y,Z,c2⟩,J⟩:=st;rw[qy,zb] at hi;have i0:i=0:=by omega
   subst i0;have aa:0<t.place.size:=by omega
   refine W_4 Z J (λ A' Q' E' q'=>U_6 J bt le ld (by rw[c2,yo hi,yo aa];exact q')) λ h' d1 d2=>q _ h' s.toks ?_ ⟨⟨_,d1,b1 _ (yo aa)⟩,J.keep λ o e=>(d2.2 a n1).trans e⟩ λ b o O e=>(d2.2 b λ z=>O (by simp[z])).trans e;rw[zl,je,yo hi];rfl
  ·rw[qy,zb] at st;obtain⟨⟨Y,Z,c2⟩,J⟩:=st;exact al3 hh Z J (λ A' Q' E' q'=>U_6 J bt le ld (by rw[c2,Yg (Nat.le_refl _)];exact q')) λ h' c=>q h' s.toks λ b o O e=>c b o (λ z=>O (by simp[z])) e
  ·obtain⟨⟨Y,Z,c2⟩,J⟩:=st;exact N_2 Z rfl q
 ·have:b=I\/b=a:=by simpa using O
  rcases this with rfl | rfl
  ·exact⟨qm hI,xI⟩
  ·obtain⟨⟨o,h1,_⟩,_⟩:=hO;exact⟨qm h1,xa⟩
end
section
theorem F_0 {es:Array (Int×Value)} (J:ElemsOf (PySem.strKind P w) es.toList) (O:(es.toList.map λ e=>PyProof.Rows.strOf e.2).Perm ss) (pv:vs.Perm (es.toList.map (·.2))):∃ ts,PyProof.Rows.StrsAre vs ts/\ts.Perm ss:=by
 refine⟨vs.map PyProof.Rows.strOf,PyProof.Rows.strsAre_map vs λ v Z=>?_,?_⟩
 ·obtain⟨e,Y,rfl⟩:=List.mem_map.mp (pv.mem_iff.mp Z);obtain⟨x,t,q,_⟩:=z_0 J e Y;exact⟨x,t,q⟩
 ·refine (pv.map _).trans ?_;rw[List.map_map];exact O
theorem az9  (hS:SetS P w (byT w) s.heap a ss)
  (k:∀ (I:Addr) (vs:List Value) (ts:List Str) (h':Heap) (dr:Drawn),(∀ b o,s.heap.get? b=some o->h'.get? b=some o)->s.heap.get? I=none->I<h'.objs.size->aO3 P w (λ b=>b=a\/s.heap.get? b=none) I vs h'->PyProof.Rows.StrsAre vs ts->ts.Perm ss->Q (.ref I) {s with heap:=h',drawn:=dr}) :
  wpAny (model P w) A (pyIter (.ref a)) Q E s:=by
 obtain⟨o,es,ep,t,Y,Z,hd,J,hp,ad,hb,hf,ac,aa⟩:=hS;have ty:s.TypeIs (.ref a) "set":=⟨o,Y,Z.1⟩;have hO:SObj s.heap a es ep t:=⟨⟨o,Y,Z,hd⟩,hf⟩;have fresh:∀ n,s.heap.objs.size<=n->s.heap.get? n=none:=λ n hn=>by
  cases z:s.heap.get? n with
  |none=>rfl
  |some o=>exact absurd (qm z) (Nat.not_lt.mpr hn)
 have al:=qm Y;refine wpAny_pyIter_slot ty PySem.F.slot_set_iter (j0 PySem.F.slot_set_iter ty H_3 ?_ (PySem.F.args_set_iter_1 _));refine qb (qc ?_);refine qb (qb (jz Y hd hf (qc ?_)));refine qb ?_;refine qb (zr Y hd hf ?_);refine qb (qb (y8 (qc (qc ?_))));split
 ·rename_i c;have c:=c;refine qb (o_4 _ _ _ _ (by simp) λ q dr pp=>?_);have ln:q.length=es.size:=by rw[pp.length_eq,Y9]
  have lz:(q.map λ i:Nat=>rawInt i).length<=sizeLine:=by rw[qy,ln];exact Qo hb
  refine qb (wpAny_newTuple ?_ lz);have O:∀ b o,s.heap.get? b=some o → (s.heap.push {cls:=.type "tuple",data:=.seq (q.map λ i:Nat=>rawInt i).toArray}).get? b=some o:=λ b o e=>qd _ e;obtain⟨o1,q1,q2,q3⟩:∃ o1,(s.heap.push {cls:=.type "tuple",data:=.seq (q.map λ i:Nat=>rawInt i).toArray}).get? a=some o1 ∧ o1.ExactSet ∧ o1.data=.set es ep t:=⟨o,O _ _ Y,Z,hd⟩;refine qb (wpAny_setEpoch_of q1 q3 hf ?_);refine qb (yr (qc ⟨_,rfl,"set_iterator",_,⟨_,qk _ rfl,rfl⟩,slot_sit_next.lookup,?_⟩));have sz:(s.heap.push {cls:=.type "tuple",data:=.seq (q.map λ i:Nat=>rawInt i).toArray}).objs.size=s.heap.objs.size+1:=by rw[Yu]
  obtain⟨ts,s1,s2⟩:=F_0 (vs:=q.map λ p=>(es.getD p default).2) J hp (by rw[<- an9];exact pp.map _);refine k _ _ ts _ dr (λ b o e=>qd _ (O b o e)) (fresh _ (by rw[sz];exact Q5 _)) (qm (qk _ rfl)) (ab0 (qk _ rfl) (hO.keep λ o e=>qd _ (O _ o e)) ⟨_,qd _ (qk _ rfl),rfl,0,rfl⟩ pp ?_ ?_ (.inr (fresh _ (by rw[sz];exact Q5 _))) (.inl rfl) (.inr (fresh _ (qj _)))) s1 s2
  ·rw[sz];exact qt (Y6 al)
  ·rw[sz];exact qt (Z6 _)
 ·rename_i c;have c:¬ (!byT w&&(!t.plain&&decide (es.size > 1)))=true:=c;refine qb (qc ?_);refine qb (wpAny_setEpoch_of Y hd hf ?_);refine qb (yr (qc ⟨_,rfl,"set_iterator",_,⟨_,qk _ rfl,rfl⟩,slot_sit_next.lookup,?_⟩));cases bt:byT w with
  |true =>
   obtain⟨ts,s1,s2⟩:=F_0 J hp ((v_1 _ es).map _);exact k _ _ ts _ s.drawn (λ b o e=>qd _ e) (fresh _ (qj _)) (qm (qk _ rfl)) (an8 bt (qk _ rfl) (hO.keep λ o e=>qd _ e) (qt al) (.inr (fresh _ (qj _))) (.inl rfl)) s1 s2
  |false =>
   have le:es.size<=1:=by
    rw[bt] at c;cases q:t.plain with
    |true=>have:=ac q;omega
    |false=>rw[q] at c;simp at c;exact c
   obtain⟨ts,s1,s2⟩:=F_0 J hp (jr _);exact k _ _ ts _ s.drawn (λ b o e=>qd _ e) (fresh _ (qj _)) (qm (qk _ rfl)) (aa9 bt le (aa bt) (qk _ rfl) (hO.keep λ o e=>qd _ e) (qt al) (.inr (fresh _ (qj _))) (.inl rfl)) s1 s2
end
section
theorem aK4  (ty:s.TypeIs (.ref a) "set") (q:Q false s):wpAny (model P w) A (Builtin.List.listLengthHint (.ref a)) Q E s:=by
 have sp:splitId "set.__len__"=some ("set","__len__"):=by decide +kernel
 have J:=sub_set_self;refine qb (wpAny_specialOf ty PySem.F.slot_set_len.lookup ?_);dsimp only;rw[sp];refine qb (Z4 ty J ?_);refine ye (λ z=>absurd z (by decide)) λ _=>ye (λ _=>?_) λ z=>absurd (by decide +kernel) z;exact qb (Zp ty (qc q))
theorem ae0  (hh:A.handled=none) (hS:SetS P w (byT w) s.heap a ss) (S:Addr) (nS:S≠a) (res:Value) (c0:Nat) (hL:s.heap.get? S=some {cls:=.type "list",data:=.seq #[] c0})
  (hR:∀ h' tk Y (acc:Array Value) O (ts:List Str),(∀ b o,b≠S → s.heap.get? b=some o → h'.get? b=some o) → h'.get? S=some {cls:=.type "list",dict:=none,data:=.seq acc O,slots:=#[]} → PyProof.Rows.StrsAre acc.toList ts → ts.Perm ss → R (.ok (.ret res)) {s with heap:=h',toks:=tk,drawn:=Y}) :
  wpAny (model P w) A.in1 (Builtin.List.listExtendWith (.ref S) (.ref a) res)
   (λ fin s'=>match fin with | .done f=>R (.ok f) s' | .again O=>O.quiet=true/\codeAny (model P w) A O R s') (λ e s'=>R (.error e) s') s:=by
 have ty:s.TypeIs (.ref a) "set":=by obtain⟨o,es,ep,t,ho,ac,_⟩:=hS;exact⟨o,ho,ac.1⟩
 have ae:ss.length<=sizeLine:=by obtain⟨o,es,ep,t,ho,ac,hd,ag,hp,ah,J,_⟩:=hS;have:=hp.length_eq;rw[qy,zb] at this;rw[<- this];exact Qo J
 refine qb (Zp ty ?_);have h1:Builtin.List.listSameRef (.ref S) (.ref a)=false:=by simp[Builtin.List.listSameRef,nS]
 have h2:(Value.type "set"==Value.type "list")=false:=by decide
 have h3:(Value.type "set"==Value.type "tuple")=false:=by decide
 simp only[h1,h2,h3,Bool.or_false,Bool.false_eq_true,if_false];refine qb (az9 hS λ I vs ts h' Y kp fI af rd sa pp=>?_);obtain⟨fp,St,W,st,lf⟩:=rd;have vl:vs.length=ss.length:=by
  have:=sa.strs;have q:vs.length=ts.length:=by rw[<- this,qy]
  rw[q,pp.length_eq]
 have Z:S∉fp:=λ m=>by
  rcases (lf S m).2 with z | z
  ·exact nS z
  ·rw[hL] at z;cases z
 have aa:∀ (h:Heap) (c1 tk:Nat),St 0 h → (∀ b o,b≠S → s.heap.get? b=some o → h.get? b=some o) → h.get? S=some {cls:=.type "list",data:=.seq #[] c1} →
   codeAny (model P w) A (.builtin "list.extend.loop" ⟨[.ref S,.ref I,res],[]⟩) R {s with heap:=h,toks:=tk,drawn:=Y}:=λ h c1 tk ad k0 l0=>by
  refine codeAny_extend_loopS (W A.in1 hh).toS (by rw[vl];exact ae) S Z res vs.length 0 _ #[] c1 rfl (yf _) ad l0 (ItemsOf.nil _) λ s' acc O hm l' ia=>?_;have ev:acc.toList=vs:=by
   apply Zz;intro j;rw[je];by_cases hj:j<acc.size
   ·rw[ia.2 j _ (yo hj),yo hj]
   ·rw[Yg (Nat.not_lt.mp hj),ju (by have:=ia.1;omega)]
  rw[Moved.eq_with hm];refine hR s'.heap s'.toks Y acc O ts (λ b o J e=>hm.heap b o (λ m=>?_) (k0 b o J e)) l' (by rw[ev];exact sa) pp;rcases qv m with z | m
  ·exact J z
  ·rw[List.mem_singleton.mp m,fI] at e;cases e
 have l1:=kp _ _ hL;refine qb (zw (aK4 ?_ ?_))
 ·obtain⟨o,ho,hc⟩:=ty;exact⟨o,kp _ _ ho,hc⟩
 refine ye (λ _=>?_) (λ _=>qc ⟨Qy PySem.F.plain_extend_loop _,aa _ c0 _ st (λ b o _ e=>kp _ _ e) l1⟩);refine qb (wpAny_rule (qb ?_));refine qb (wpAny_updateSeq l1 rfl ?_);have l2:=zt (Obj.mapSeq λ z=>z.push Value.none) l1 rfl;refine wpAny_updateSeq l2 rfl ?_;have l3:=zt (Obj.mapSeq λ z=>z.pop) l2 rfl;refine qc ⟨Qy PySem.F.plain_extend_loop _,aa _ _ _ ?_ (λ b o J e=>?_) l3⟩
 ·refine (W A.in1 hh).frame 0 _ _ st λ b J o e=>?_;have nb:S≠b:=λ z=>Z (by rw[z];exact J);exact (yk _ _ nb).trans ((yk _ _ nb).trans e)
 ·exact (yk _ _ (zv J)).trans ((yk _ _ (zv J)).trans (kp _ _ e))
end
end Fx
namespace Fx
open PySem PySem.Spec PyProof.Rows
section
theorem Y_3  (hh:A.handled=none) (hS:SetS P w (byT w) s.heap a ss)
  (k:∀ (h':Heap) (tk:Nat) (J:Drawn) (vs:List Value) (ts:List Str),(∀ b o,s.heap.get? b=some o->h'.get? b=some o)->StrsAre vs ts->ts.Perm ss->Q vs {s with heap:=h',toks:=tk,drawn:=J}) :
  wpAny (model P w) A (collect (.ref a)) Q E s:=by
 have al:a<s.heap.objs.size:=by obtain⟨o,es,ep,t,ho,_⟩:=hS;exact qm ho
 refine qb (wpAny_runValue (jv PySem.F.entry_proto_collect ?_));rw[jj PySem.F.plain_proto_collect _];refine qb (yr (qc ⟨Qy PySem.F.plain_list_iadd _,jv PySem.F.entry_list_iadd ?_⟩));rw[jj PySem.F.plain_list_iadd _];have l0:(s.heap.push {cls:=.type "list",data:=.seq ([]:List Value).toArray}).get? s.heap.objs.size=some {cls:=.type "list",data:=.seq #[]}:=qk _ rfl;have aa:=ae0 (s:={s with heap:=s.heap.push {cls:=.type "list",data:=.seq ([]:List Value).toArray}})
  (R:=λ q (s':Shared)=>∃ (h':Heap) (tk:Nat) (J:Drawn) (acc:Array Value) (c':Nat) (ts:List Str),q=.ok (.ret (.ref s.heap.objs.size))/\s'={s with heap:=h',toks:=tk,drawn:=J} /\
   (∀ b o,s.heap.get? b=some o → h'.get? b=some o) ∧ h'.get? s.heap.objs.size=some {cls:=.type "list",dict:=none,data:=.seq acc c',slots:=#[]} ∧ StrsAre acc.toList ts ∧ ts.Perm ss)
  hh (hS.keep λ b o e=>qd _ e) s.heap.objs.size (Ye al) (.ref s.heap.objs.size) 0 l0
  (λ h' tk J acc c' ts O c2 Y Z=>⟨h',tk,J,acc,c',ts,rfl,rfl,λ b o e=>O b o (qt (qm e)) (qd _ e),c2,Y,Z⟩)
 refine yg aa (λ fin s' x=>?_) λ e s' x=>?_
 ·cases fin with
  |done f =>
   obtain⟨h',tk,J,acc,c',ts,e,rfl,O,c2,Y,Z⟩:=x;cases e;exact qb (wpAny_load c2 (qc (k h' tk J acc.toList ts O Y Z)))
  |again ac =>
   refine⟨x.1,Qu x.2 λ q ad y=>?_⟩;obtain⟨h',tk,J,acc,c',ts,rfl,rfl,O,c2,Y,Z⟩:=y;exact qb (wpAny_load c2 (qc (k h' tk J acc.toList ts O Y Z)))
 ·obtain⟨_,_,_,_,_,_,e',_⟩:=x;cases e'
theorem s_2  (h:l.Perm m):g_2 l=g_2 m:=by refine List.Perm.eq_of_pairwise (λ a b _ _ p q=>?_) (x_2 l) (x_2 m) ((d_2 l).trans (h.trans (d_2 m).symm));unfold ltS at p q;rw[j6] at p q;have:=List.le_antisymm (List.not_lt.mp p) (List.not_lt.mp q);obtain⟨⟨O⟩⟩:=a;obtain⟨⟨J⟩⟩:=b;cases this;rfl
theorem aa5  (hh:A.handled=none) (hS:SetS P w (byT w) s.heap a ss) (Z:ss.length<64)
  (k:∀ (h1 h2:Heap) (tk:Nat) (Y:Drawn) (out:Array Value) (e:Nat),(∀ b o',s.heap.get? b=some o' → h1.get? b=some o') → (∀ b o',h1.get? b=some o' → h2.get? b=some o') → h2.get? h1.objs.size=some (seqObj "list" out e) → StrsAre out.toList (g_2 ss) →
   Q (.ref h1.objs.size) {s with heap:=h2,toks:=tk,drawn:=Y}) :
  wpAny (model P w) A (call (.builtin "sorted") [.ref a]) Q E s:=by
 refine Calls.call_function_entry kind_sorted plain_sorted entry_sorted (args_sorted1 _) ?_;refine qb (qc (qb (Y_3 hh hS λ h1 tk Y us ts kp O pp=>?_)));have ul:us.length=ss.length:=by have q:=O.strs;rw[<- pp.length_eq,<- q,qy]
 refine qb (wpAny_newList ?_ (by rw[ul,Qa];omega));have J:(h1.push (seqObj "list" us.toArray 0)).get? h1.objs.size=some (seqObj "list" us.toArray 0):=qk _ rfl;refine qb (zw (j0 slot_list_sort ⟨_,J,rfl⟩ entry_list_sort (list_sort_treeK strKind_oneLt J O.keysOf (λ v1 v2 r e=>keyKind_strs (by rw[<- e];exact O)) (by rw[ul];exact Z) λ st hp hs=>⟨_,rfl,?_⟩) (args_list_sort _)));obtain⟨t',q1,q2,q3⟩:=sorted_out_str O hp hs;obtain⟨e,he⟩:=sortedHeap_at J;rw[K_1 q2 q3,s_2 pp] at q1;refine qc ⟨_,rfl,k h1 _ tk Y _ e kp (λ b o' hb=>?_) he q1⟩;have lt:=qm hb;rw[sortedHeap_old (Yd lt) (by rw[size_push'];exact Y6 lt)];exact qd _ hb
end
end Fx
namespace Fx
open PySem PySem.Spec PyProof.Rows L2
def at3 (P:Program) (w:World) (a:Addr) (ss:List Str):HO:=.ext λ h=>SetS P w (byT w) h a ss
theorem as9  (q:SetS P w (byT w) h a ss):ObjOk P w H h a (at3 P w a ss):=by
 refine⟨q,?_,λ h1 h2 O k=>?_⟩
 ·obtain⟨o,es,ep,t,J,_⟩:=q;exact⟨o,J⟩
 ·obtain⟨o,es,ep,t,J,r⟩:=O;exact⟨o,es,ep,t,k _ J,r⟩
theorem Inv.drawn  (q:Drawn) (I:Inv X pins σ H s):Inv X pins σ H {s with drawn:=q} :=
 ⟨I.ok,I.os,I.bare,I.base,I.loc,I.cell,I.free,I.freeC,I.pin,I.hok,I.len⟩
theorem Step.side  (s:Same H0 H) (J:H p=none):Step H0 H H0 (upd H p o):=by refine⟨Same.refl _,λ b u e=>by rw[b_2 (c_6 e J)];exact e,λ b u e=>?_,λ b u e=>.inl e⟩;have q:=s _ _ e;rw[b_2 (c_6 q J)];exact q
section
theorem bC3  (I:Inv X pins σ H s) (J:SqL X.K H p xs\/SqT X.K H p xs):∃ (T:Bool) (q:List Value),Vals xs q/\SqAt T s.heap p q.toArray:=by
 rcases J with J | J
 ·obtain⟨q,O,Y,_⟩:=I.list J;exact⟨false,q,O,Y.isList⟩
 ·obtain⟨q,O,tp,_⟩:=I.tuple J;exact⟨true,q,O,tp⟩
theorem L_9 (hc:X.calm=true):CallR X (.type "set") (λ xs H Q=>∃ p ss,xs=[.ref p] ∧ (SqL X.K H p (ss.map V.str) ∨ SqT X.K H p (ss.map V.str)) ∧ ss.length<1000 ∧ ∀ l,H l=none → Q (.ref l) (upd H l (at3 X.prog X.w l (d_1 [] ss)))):=by
 intro pins s σ H xs us Q I r h;obtain⟨p,ss,rfl,hq,hz,q⟩:=h;obtain⟨u,rfl,Y⟩:=v_5 r;cases Y;obtain⟨T,Z,rv,O⟩:=bC3 I hq;refine aD1 (I.ok.hd hc) O (z_7 rv) (by unfold scanBound;omega) λ h' tk kp J=>?_;exact⟨.ref s.heap.objs.size,_,I.laid kp (qj _) (as9 J),rfl,q _ (I.hok.fresh (qj _))⟩
theorem R_9 (hc:X.calm=true):CallR X (.builtin "sorted") (λ xs H Q=>∃ p ss,xs=[.ref p] ∧ H p=some (at3 X.prog X.w p ss) ∧ ss.length<64 ∧ ∀ l,H l=none → Q (.ref l) (upd H l (.lst ((g_2 ss).map V.str)))):=by
 intro pins s σ H xs us Q I r h;obtain⟨p,ss,rfl,hq,O,q⟩:=h;obtain⟨u,rfl,ru⟩:=v_5 r;cases ru;have hS:=(I.hok p _ hq).1;refine aa5 (I.ok.hd hc) hS O λ h1 h2 tk Y out e k1 k2 J so=>?_;have Z:=Inv.drawn Y (I.kept (t':=tk) k1);have hz:((g_2 ss).map V.str).length<=sizeLine:=by rw[qy,(d_2 ss).length_eq,Qa];omega
 refine⟨.ref h1.objs.size,_,Z.laid (o:=.lst ((g_2 ss).map V.str)) k2 (qj _) ⟨hz,out.toList,e,s_6 so,?_⟩,rfl,q _ (Z.hok.fresh (qj _))⟩;rw[J]
end
open Sem (wp)
section
variable {prog:Program}{w:World}{A:Around}{E:Value->Shared->Prop}{s:Shared}
structure Nx (prog:Program) (w:World) (i:Addr) (fp:List Addr) (get:Nat->Option Value) (P:Nat->Heap->Prop):Prop where
 mem:i∈fp
 keep:∀ k h h',P k h->(∀ b∈fp,∀ o,h.get? b=some o->h'.get? b=some o)->P k h'
 there:∀ k h,P k h->∃ o vs,h.get? i=some o/\o.data=.fields vs
 draw:∀ (A:Around) (E:Value->Shared->Prop) (s:Shared) (Q:Value->Shared->Prop) (k:Nat) (x:Value),P k s.heap->get k=some x->(∀ h',P (k+1) h'->Heap.SameBut i s.heap h'->Q x {s with heap:=h'}) ->
  wpAny (model prog w) A (Builtin.SmallTypes.nextOf (.ref i)) Q E s
 over:∀ (A:Around) (E:Value->Shared->Prop) (s:Shared) (Q:Value->Shared->Prop) (k:Nat),A.handled=none->P k s.heap->get k=none ->
  (∀ h' e,Heap.ExtBut i s.heap h' → (∃ o,h'.get? e=some o ∧ o.cls=.type "StopIteration") → E (.ref e) {s with heap:=h'}) → wpAny (model prog w) A (Builtin.SmallTypes.nextOf (.ref i)) Q E s
end
end Fx
namespace L2
open PySem PySem.Spec PyProof.Rows
end L2
namespace L2
open PySem PySem.Spec PyProof.Rows
end L2
namespace Fx
open PySem PySem.Spec PyProof.Rows L2
theorem vals_ints:∀ {vs:List Value}{ns:List Int},IntsAre vs ns->Vals (ns.map V.int) vs
 |_,_,.nil=>.nil
 |_,_,.cons n t h=>.cons ⟨t,rfl⟩ (vals_ints h)
section
variable {X:Cx}
theorem aC4 {K:Frag}{ks:List Str} (s:Same H0 H) (Z:H0 a=some (.frz o (.dK ((ks.map Sum.inr).zip vs)))) (t:Reps K H0 ds vs) (l:ks.length=ds.length) :
  ∃ u,DGet H a (.str k) u/\(w_3 k (ks.zip ds)=none->u=none)/\∀ d,w_3 k (ks.zip ds)=some d->∃ v,u=some v/\Rep K H0 d v:=by
 have q:(ks.zip ds).map (·.1)=ks:=Z7 (by omega);have O:(ks.zip ds).map (·.2)=ds:=List.map_snd_zip (by omega);have ln:=t.length;refine⟨M_5 (E_6 ks vs) (.inr k),.inl ⟨_,.inr k,.inr ⟨o,s _ _ Z⟩,rfl,rfl⟩,λ h=>?_,λ d h=>?_⟩
 ·have:=af8 (vs:=vs) (by rw[Yj];omega) h;rw[q] at this;exact this
 ·obtain⟨v,J,Y⟩:=af7 (by rw[O];exact t) h;rw[q] at J;exact⟨v,J,Y⟩
theorem strX_inv  (h:bC1 d=some k):d=.str k:=by
 cases d with
 |str z=>cases h;rfl
 |_=>cases h
theorem ba0 (Z:X.A.units+1<cLine):OpR X (compareOp .NotIn) (λ y x H Q=>∃ a o,x=.ref a/\DGet H a y o/\Q (.bl (!o.isSome)) H):=by
 intro pins s σ H x y v u Q I Y O h;obtain⟨a,o,rfl,g,q⟩:=h;cases O;exact bf7 Z I g Y λ s' J=>⟨.bl (!o.isSome),H,J,rfl,q⟩
theorem bu8 {K:Frag} (s:Same H0 H) (r1:Rep K H0 (.str k) J) (O:Rep K H0 (.dct ks ds) q):∃ a o,q=.ref a/\DGet H a J o/\o.isSome=(w_3 k (ks.zip ds)).isSome:=by
 subst r1;obtain⟨a,ob,vs,rfl,ea,t,l⟩:=O;obtain⟨u,Z,hn,Y⟩:=aC4 s ea t l;refine⟨a,u,rfl,Z,?_⟩;cases z:w_3 k (ks.zip ds) with
 |none=>rw[hn z];rfl
 |some d=>obtain⟨v,e,_⟩:=Y d z;rw[e];rfl
theorem bL6 (Z:X.A.units+1<cLine):B_1 X .NotIn aC7:=⟨_,ba0 Z,λ c H0 H ρ σ x y d vx vy Q R r1 r2 e q=>by
 obtain⟨⟨ks,ds⟩,J,e⟩:=a_0 e;obtain⟨k,O,e⟩:=a_0 e;cases dctX_inv J;cases strX_inv O;cases e;obtain⟨a,o,rfl,Y,z⟩:=bu8 R.same r1 r2;exact⟨a,o,rfl,Y,by rw[z];exact q _ H0 H (Same.refl _) R (by rfl)⟩⟩
end
structure YE (X:Cx) (e:Expr) (F:FE):Prop where
 go:XE X e F
section
variable {X:Cx}{a b e:Expr}{es:List Expr}{F G:FE}{A:FA}{pos:Pos}{st:Stmt}{ss body:List Stmt}{B C:FS}{T:FT}
theorem yb  (o:Z_7 X op f) (q:YE X a F) (J:YE X b G):YE X (.BinOp a op b pos) (e2 f F G):=⟨xb o q.go J.go⟩
end
end Fx
namespace L2
open PySem PySem.Spec PyProof.Rows
end L2
namespace Fx
open PySem
noncomputable def ao2:Option Sl->Option (Bool×List D)
 |some (.ow b (.lst xs))=>some (b,xs)
 |_=>none
@[simp] theorem bP7:ao2 (some (.ow b (.lst xs)))=some (b,xs):=yI rfl
def al4 (ρ:En) (o:Option (Bool×List D)):Option (D×En):=bnd o λ q=>some (.int q.2.length,ρ)
def aL6 (i:Nat) (ρ:En):Option (D×En):=al4 ρ (ao2 ρ[i]?)
@[simp] theorem bR5:aL6 i ρ=al4 ρ (ao2 ρ[i]?):=yI rfl
@[simp] theorem by7:al4 ρ (some q)=some (.int q.2.length,ρ):=yI rfl
noncomputable def inQ:D->Option Int
 |.int k=>some k
 |_=>none
noncomputable def ixQ (xs:List D) (k:Int):Option D:=if 0<=k then xs[k.toNat]? else none
def aL7 (ρ:En) (k:Int) (o:Option (Bool×List D)):Option (D×En):=bnd o λ q=>bnd (ixQ q.2 k) λ d=>some (d,ρ)
def aL8 (i:Nat) (o:Option (D×En)):Option (D×En):=bnd o λ p=>bnd (inQ p.1) λ k=>aL7 p.2 k (ao2 p.2[i]?)
def by9 (i:Nat) (F:FE) (ρ:En):Option (D×En):=bnd (ao2 ρ[i]?) λ _=>aL8 i (F ρ)
@[simp] theorem cd6:by9 i F ρ=bnd (ao2 ρ[i]?) λ _=>aL8 i (F ρ):=yI rfl
@[simp] theorem bK1:aL8 i (some (.int k,ρ))=aL7 ρ k (ao2 ρ[i]?):=yI rfl
@[simp] theorem bK0:aL7 ρ k (some (b,xs))=bnd (ixQ xs k) λ d=>some (d,ρ):=yI rfl
def aG7 (i:Nat) (ρ:En) (d:D) (k:Int) (o:Option (Bool×List D)):Option Res:=bnd o λ q=>if 0<=k/\k.toNat<q.2.length then some (.nx (ρ.set i (.ow q.1 (.lst (q.2.set k.toNat d))))) else none
def aG8 (i:Nat) (d:D) (o:Option (D×En)):Option Res:=bnd o λ p=>bnd (inQ p.1) λ k=>aG7 i p.2 d k (ao2 p.2[i]?)
def aG9 (i:Nat) (I:FE) (o:Option (D×En)):Option Res:=bnd o λ p=>bnd (ao2 p.2[i]?) λ _=>aG8 i p.1 (I p.2)
def bx4 (i:Nat) (I F:FE) (ρ:En):Option Res:=aG9 i I (F ρ)
@[simp] theorem bY6:bx4 i I F ρ=aG9 i I (F ρ):=yI rfl
@[simp] theorem bD6:aG9 i I (some (d,ρ))=bnd (ao2 ρ[i]?) λ _=>aG8 i d (I ρ):=yI rfl
@[simp] theorem bD5:aG8 i d (some (.int k,ρ))=aG7 i ρ d k (ao2 ρ[i]?):=yI rfl
@[simp] theorem bD4:aG7 i ρ d k (some (b,xs))=if 0<=k/\k.toNat<xs.length then some (.nx (ρ.set i (.ow b (.lst (xs.set k.toNat d))))) else none:=yI rfl
def bs8 (n k:Nat) (F:En->Option (List D×MO)) (o:MO) (ds:List D):Option (List D×MO):=if ds.length=n then F (.ow true o::(ds.map .im++List.replicate k .no)) else none
def aN7 (j:Nat) (ρ:En):Option (List D×MO):=bnd (owL ρ[j]?) λ xs=>bnd (owO ρ[0]?) λ q=>if q.1=true then some (xs,q.2) else none
def bL7 (F:En->Option (List D×MO)):Res->Option (List D×MO)
 |.nx q=>F q
 |_=>none
def Y_6 (A:FS) (F:En->Option (List D×MO)) (ρ:En):Option (List D×MO):=bnd (A ρ) (bL7 F)
@[simp] theorem bV3:Y_6 A F ρ=bnd (A ρ) (bL7 F):=yI rfl
@[simp] theorem bV4:bL7 F (.nx ρ)=F ρ:=yI rfl
def bx1 (j i:Nat) (ρ:En) (b:Bool) (o:Option (List D×MO)):Option Res:=bnd o λ z=>some (.nx ((ρ.set i (.ow b z.2)).set j (.ow false (.lst z.1))))
def bx2 (j i:Nat) (g:MO->List D->Option (List D×MO)) (ds:List D) (ρ:En) (o:Option (Bool×MO)):Option Res:=bnd o λ q=>bx1 j i ρ q.1 (g q.2 ds)
def bx3 (j i:Nat) (g:MO->List D->Option (List D×MO)) (o:Option (List D×En)):Option Res:=bnd o λ p=>bx2 j i g p.1 p.2 (owO p.2[i]?)
def sNB (j i:Nat) (g:MO->List D->Option (List D×MO)) (A:FA) (ρ:En):Option Res:=bnd (owO ρ[i]?) λ _=>bx3 j i g (A ρ)
@[simp] theorem cg6:sNB j i g A ρ=bnd (owO ρ[i]?) λ _=>bx3 j i g (A ρ):=yI rfl
@[simp] theorem bN9:bx3 j i g (some (ds,ρ))=bx2 j i g ds ρ (owO ρ[i]?):=yI rfl
@[simp] theorem bN8:bx2 j i g ds ρ (some (b,o))=bx1 j i ρ b (g o ds):=yI rfl
@[simp] theorem bN7:bx1 j i ρ b (some (xs,o))=some (.nx ((ρ.set i (.ow b o)).set j (.ow false (.lst xs)))):=yI rfl
noncomputable def bb4 (ds:List D) (k:Int):Option (D×List D):=if 0<=k then match (ds[k.toNat]?:Option D),(ds[(0:Nat)]?:Option D) with
 |some (.tup (w::n::r)),some (.tup (_::m::_))=>some (.tup (w::n::r),ds.set k.toNat (.tup [.str "later",n,.tup [m],.tup [.int 1]]))
 |_,_=>none
 else none
noncomputable def by5:Option Sl->Bool
 |some .no=>true
 |_=>false
def U_7 (i ir:Nat) (ρ:En) (ds:List D) (E:FS):D ⊕ XV->Option Res
 |.inl _=>E ρ
 |.inr (x,some (f,.int k))=>if x=Str.ofString "NoWorks" ∧ f=Str.ofString "at" then bnd (bb4 ds k) λ q=>some (.nx ((ρ.set ir (.im q.1)).set i (.ow false (.lst q.2)))) else none
 |_=>none
def ag9 (i ir ik:Nat) (g:List D->Option (D ⊕ XV)) (E:FS) (ρ:En) (o:Option (List D)):Option Res:=bnd o λ ds=>if ax0 i ρ=true/\by5 ρ[ik]?=true/\ir<ρ.length then bnd (g [.lst ds]) (U_7 i ir ρ ds E) else none
def aW7 (i ir ik:Nat) (g:List D->Option (D ⊕ XV)) (E:FS) (ρ:En):Option Res:=ag9 i ir ik g E ρ (bG4 ρ[i]?)
def as0:D ⊕ XV->Option D
 |.inl d=>some (.tup [.str "done",d])
 |.inr (x,some (f,.int k))=>if x=Str.ofString "NoWorks" ∧ f=Str.ofString "at" then some (.tup [.bl true,.int k]) else none
 |_=>none
def as1 (g:List D->Option (D ⊕ XV)) (ds:List D):Option D:=if ds.length=1 then bnd (g ds) as0 else none
def ah4 (g:D->En->Option En) (B:FX) (ρ:En) (o:Option (List D)):Option RX:=bnd o λ xs=>xGo g B (I_4 0 xs) ρ
def ah5 (g:D->En->Option En) (B:FX) (o:Option (D×En)):Option RX:=bnd o λ p=>ah4 g B p.2 (lsX p.1)
def aH6 (g:D->En->Option En) (F:FE) (B:FX) (ρ:En):Option RX:=ah5 g B (F ρ)
@[simp] theorem bP4:aH6 g F B ρ=ah5 g B (F ρ):=yI rfl
@[simp] theorem by2:ah5 g B (some (x,ρ))=ah4 g B ρ (lsX x):=yI rfl
@[simp] theorem by1:ah4 g B ρ (some xs)=xGo g B (I_4 0 xs) ρ:=yI rfl
end Fx
namespace Fx
open PySem PySem.W PySem.Spec PyProof.Rows L2
theorem aK9 {K:Frag} (R:RS K c H1 Hh ρ σ) (hf:xGo g B xs ρ=some r) (hy:af4 K J H1 xs) (q:PostX K mg E c Dn H1 r) :
  ∃ W:Nat->Nat->L2.St->Hp->Prop,(∃ m,W 0 m σ Hh)/\∀ i m σ H,W i m σ H ->
   (J.stop i H/\Dn.nx σ H)\/(J.go i H/\∃ N:L2.St->Hp->Prop,(∀ O H',N O H'->∃ m',m'<m/\W (i+1) m' O H')/\∀ x H',J.yld i H x H'->tG K g x σ H' λ ae H2=>tX K mg E B {Dn with nx:=N,ct:=N,bk:=Dn.nx} ae H2):=by
 refine⟨λ i m σ H=>m=xs.length-i/\i<=xs.length/\∃ H0 ρ,Same H1 H0/\RS K c H0 H ρ σ/\xGo g B (xs.drop i) ρ=some r,⟨xs.length,by simp,yf _,H1,ρ,Same.refl _,R,by simpa using hf⟩,?_⟩;rintro i m σ H ⟨rfl,hi,H0,ρ,s0,R0,Y⟩;obtain⟨y1,y2⟩:=hy H0 H i s0 R0.same;by_cases aa:i<xs.length
 ·have hd:xs[i]?=some xs[i]:=by simp[aa]
  obtain⟨go,yl⟩:=y1 _ hd;refine .inr ⟨go,λ O H'=>∃ m',m'<xs.length-i/\m'=xs.length-(i+1)/\i+1<=xs.length/\∃ H0 ρ,Same H1 H0/\RS K c H0 H' ρ O/\xGo g B (xs.drop (i+1)) ρ=some r,λ O H' ⟨m',a,b⟩=>⟨m',a,b⟩,λ x H' hx=>?_⟩;obtain⟨H0',S,rx⟩:=yl x H' hx;rw[A_4 hd,af6] at Y;obtain⟨ac,g1,Y⟩:=a_0 Y;obtain⟨z,g2,Y⟩:=a_0 Y;have s0:=s0.trans S.s0;refine⟨c,H0',ρ,_,ac,R0.after S,rx,g1,λ af H2 Hh2 s2 R2=>⟨c,H2,ac,z,R2,g2,?_⟩⟩
  match z,Y with
  |.ok (.nx ρ2),Y=>exact λ O H3 Hh3 s3 Z=>⟨_,by omega,rfl,aa,H3,ρ2,s0.trans (s2.trans s3),Z,Y⟩
  |.ok (.ct ρ2),Y=>exact λ O H3 Hh3 s3 Z=>⟨_,by omega,rfl,aa,H3,ρ2,s0.trans (s2.trans s3),Z,Y⟩
  |.ok (.bk ρ2),Y=>cases Y;exact λ O H3 Hh3 s3 Z=>q O H3 Hh3 (s0.trans (s2.trans s3)) Z
  |.ok (.rt d ρ2),Y=>cases Y;exact λ v O H3 Hh3 s3 Z r3=>q v O H3 Hh3 (s0.trans (s2.trans s3)) Z r3
  |.ex y,Y=>cases Y;exact λ C dd ad O H3 Hh3 m s3 Z xd=>q C dd ad O H3 Hh3 m (s0.trans (s2.trans s3)) Z xd
 ·have hn:xs.drop i=[]:=jp (by omega);rw[hn,aU6] at Y;cases Y;exact .inl ⟨y2 (by omega),q σ H0 H s0 R0⟩
section
theorem aF2 (hR:af5 X E) (Z:X.mg x=some (.ref C)) (hx:ap6 X.K C fI=true) (h1:XS1 X.K C f) (Fk:FnOk X.prog X.w X.K X.mg X.base (CXE X.prog X.w) k fI fd ["self",f] (spI X.K f)) (hr:Room (k+1) X.A) (hb:Binds X.K fd ["self",f] [])
  (ha:XE X a F) (hc:X.calm=true:=by rfl) (Y:X.ex=[]:=by rfl) (hg:Gl X x:=by rfl) (hd:(x==("__debug__":Str))=false:=by decide) (hs:starEach [a] X.env=[(false,eval a X.env)]:=by rfl) :
  XX1 X E (.Raise (some (.Call (.Name x np) [a] [] cpos)) none pos) (N_6 x f F) :=
 PS.wk (av0 hR hc Y Z hx h1 Fk hr hb ha hg hd hs) λ Dn σ H J=>by
  obtain⟨c,H0,ρ,r,R,e,q⟩:=J;obtain⟨⟨d,O⟩,h2,e⟩:=a_0 e;cases e;refine⟨c,H0,ρ,d,O,R,h2,λ v H1 Hh s1 R1 rv dx hx=>?_⟩;have S:=Step.alloc (o:=.xd [(f,v)]) R1.same hx;exact q C (some dx) O σ _ _ Z (s1.trans S.s0) (R1.after S) ⟨v,Rep.mono S.s0 _ rv,a_3⟩
theorem bj0  (hp:PassesOwn (model X.prog X.w) X.A X.env X.xe) (hm:X.mg "enumerate"=none) (hg:XG X (.Tuple J x1 pt) g) (ha:XE X a F) (hb:XX X E body B) (Y:Gl X "enumerate":=by rfl)
  (hc:X.calm=true:=by rfl) (Z:starEach [a] X.env=[(false,eval a X.env)]:=by rfl) (hs:∀ x,foldedSetIterable (.Call (.Name "enumerate" p) [a] [] pos') X.env x=pure x:=by intro _;rfl) :
  XX1 X E (.For (.Tuple J x1 pt) (.Call (.Name "enumerate" p) [a] [] pos') body [] pos) (aH6 g F B):=PS.wk (ah6 hp hc (av8 Y hm ha Z) hg hb hs) λ Dn σ H O=>by
 obtain⟨c,H0,ρ,r,R,f,q⟩:=O;obtain⟨⟨d,aa⟩,h1,f⟩:=a_0 f;obtain⟨xs,h2,f⟩:=a_0 f;cases d with
 |lst ys =>
  cases h2;refine⟨c,H0,ρ,_,aa,R,h1,λ v H1 Hh s1 R1 r1=>?_⟩;obtain⟨a,vs,rfl,sq,rs⟩:=r1;exact⟨a,vs,rfl,Same.seq R1.same sq,aK9 R1 f (E_7 sq rs) (q.mono s1)⟩
 |_=>cases h2
end
section
variable {K:Frag}
theorem XC.fld  (f:XC K C) (g:XS1 K C name) (X:K.In s.heap) (I:InstAt s.heap x ox C (some od)) (J:lookIn name od=some (some v)) (hv:handedIn v=true) (h:Q v {s with toks:=s.toks+1}) :
  wpAny (model prog w) A (getAttr (.ref x) name true) Q E s:=by
 obtain⟨cd,hc,_,hd⟩:=g.cl;have Y:=findObj_own (by unfold hasDictIn;rw[hc];exact hd) g.na rfl J;obtain⟨hh,gs,d,t,os⟩:=s;have q:=I.type (M:=model prog w);have L1:=looks_findIn (M:=model prog w) X f.ga;have L2:=looks_findIn (M:=model prog w) X f.gh;have O:=looks_find (M:=model prog w) X I Y;have Z:(onTheHeap (.ref C)&&Value.builtin "BaseException.__getattribute__"==Value.builtin "object.__getattribute__")=false:=by rw[show (Value.builtin "BaseException.__getattribute__"==Value.builtin "object.__getattribute__")=false by decide +kernel];rfl
 refine qb (wpAny_mkText ?_);refine zw (qb (q.at (qb (L1.at ?_))));dsimp only;rw[Z,if_neg (by decide)];unfold getAttrByItsOwn hookBefore;refine qb ?_;rw[show onTheHeap (.ref C)=true from rfl,if_pos rfl];refine L2.at (qb (Yy (zw ?_)));unfold callGetattribute;rw[show (true&&onTheHeap (Value.builtin "BaseException.__getattribute__"))=false from rfl,if_neg (by decide)];refine qb (Yn (F.attr_ValueError.ga.bind (.ref x)) ?_);refine Zg (Zm F.attr_ValueError.ga.plain F.entry_bexc_ga (f.ck X I ?_));refine qb (qc (qb (qc (qb (q.at (qb (O.at ?_)))))));refine qc ?_;show wpAny _ _ (handedOut v) _ _ _;rw[handedOut_of hv];exact qc h
end
theorem bb2 {h:Heap} (n:h.Ns1 dx m) (e:m name=some u):∃ o,h.get? dx=some o/\lookIn name o=some (some u):=by
 obtain⟨o,es,ep,O,q,Z,Y,J⟩:=n;refine⟨o,O,?_⟩;unfold lookIn;rw[q];dsimp only;have z:=J name;rw[e] at z;unfold nsFind findBy at z;rw[<- Array.find?_toList] at z;cases w:es.toList.find? (λ e=>e.key.isStr name) with
 |none=>rw[w] at z;cases z
 |some k=>rw[w] at z;cases z;rfl
section
theorem aZ3 (c:XC X.K C) (g:XS1 X.K C f) (he:PE (q_9 X a (rcd (.ref C) vs (some dx))) e te) (hb:attributeBase e f X.env (eval e X.env)=eval e X.env) :
  PE (q_9 X a (rcd (.ref C) vs (some dx))) (.Attribute e f pos) (λ σ H Q=>te σ H λ x H1=>x=.ref a/\∃ n,H1 dx=some (.xd [(f,.int n)])/\Q (.int n) H1):=by
 intro pins s σ H Q I h;refine bg9 hb (thn (he pins s σ H _ I h) λ u s1=>ex5 λ x H1 O Z z=>?_);obtain⟨rfl,n,hx,q⟩:=z;obtain rfl:u=.ref a:=Z;obtain⟨m,ns,rl⟩:=(show ObjOk _ _ H1 s1.heap dx (.xd [(f,.int n)]) from O.hok dx _ hx);have J:=rl f;rw[show ([(f,V.int n)]:List (Str×V)).lookup f=some (.int n) by simp[List.lookup]] at J;cases Y:m f with
 |none=>rw[Y] at J;exact J.elim
 |some u =>
  rw[Y] at J;obtain⟨tk,rfl⟩:=J;obtain⟨o,q1,q2⟩:=bb2 ns Y;exact c.fld g O.kIn ⟨(O.pin (a,rcd (.ref C) vs (some dx)) (qg)).1,rfl,rfl,q1⟩ q2 rfl ⟨.int n,H1,O.tok _,⟨tk,rfl⟩,q⟩
end
def clV (K:Frag) (C:Addr):Bool:=(clsIn K C).any λ c=>ab4 c.mro&&c.hasDict
theorem bv6 {K:Frag} (h:clV K C=true):∃ cd,clsIn K C=some cd/\ab4 cd.mro=true/\cd.hasDict=true:=by obtain⟨cd,a,b⟩:=any_some h;obtain⟨b,c⟩:=(zn ..).mp b;exact⟨cd,a,b,c⟩
structure XIn (K:Frag) (mg:Str->Option Value) (x y f qual:Str) (st:Stmt) (c0 c2 fI:Addr) (fd:FuncData):Prop where
 m0:mg x=some (.ref c0)
 m2:mg y=some (.ref c2)
 x0:ap6 K c0 fI=true
 s1:XS1 K c0 f
 k0:XC K c0
 e0:exmOne K (.ref c0) (.ref c2)=some true
 t0:kitOne K (.ref c0) (.ref c0)=some true
 n0:kitOne K (.type "NoneType") (.ref c0)=some false
 fn:Fun K "__init__" qual st fI fd
 b0:Binds K fd ["self",f] []
end Fx
namespace Fx
open PySem PySem.SetTable
noncomputable def lp (m:Nat) (q:Nat×Nat):Nat×Nat:=leap m q.1 q.2
def lps (m:Nat):Nat->Nat×Nat->Nat×Nat
 |0,q=>q
 |n+1,q=>lps m n (lp m q)
theorem G_8 (m:Nat):∀ (a b:Nat) (q:Nat×Nat),lps m (a+b) q=lps m b (lps m a q)
 |0,b,q=>by rw[Yb];rfl
 |a+1,b,q=>by rw[Nat.add_right_comm];exact G_8 m a b (lp m q)
theorem bb0 (m:Nat):∀ (n:Nat) (q:Nat×Nat),(lps m n q).2=q.2 / 32 ^ n
 |0,q=>by simp[lps]
 |n+1,q=>by
  rw[lps,bb0 m n];show q.2 / 32 / 32 ^ n=_;rw[Nat.div_div_eq_div_mul,Yc,Nat.mul_comm]
theorem bp7 (m:Nat):∀ (n:Nat) (q:Nat×Nat),q.1<=m->(lps m n q).1<=m
 |0,q,h=>h
 |n+1,q,h=>bp7 m n (lp m q) (Nat.le_of_lt_succ (Nat.mod_lt _ (Za m)))
def aq8 (m:Nat):Prop:=∀ i j,i<=m->j<=m->∃ n,n<=m/\(lps m n (i,0)).1=j
noncomputable def orb (m:Nat):Nat->Nat->List Nat
 |0,_=>[]
 |n+1,i=>i::orb m n ((i*5+1) % (m+1))
theorem ay7 (m:Nat):∀ (n:Nat) (i:Nat),∀ j∈orb m n i,∃ k,k<n/\(lps m k (i,0)).1=j
 |0,i,j,h=>by cases h
 |n+1,i,j,h=>by
  rw[orb,zj] at h;rcases h with rfl | h
  ·exact⟨0,Za _,rfl⟩
  ·obtain⟨k,q,e⟩:=ay7 m n _ j h;refine⟨k+1,Nat.succ_lt_succ q,?_⟩;have z:lp m (i,0)=((i*5+1) % (m+1),0):=by show leap m i 0=_;unfold leap;simp
   rw[lps,z];exact e
theorem H_2  (h:(List.range (m+1)).all (λ j=>(orb m (m+1) 0).contains j)=true) (hz:lps m (m+1) (0,0)=(0,0)):aq8 m:=λ i j hi Y=>by
 rw[Je] at h;have q:∀ x,x<=m->∃ k,k<=m/\lps m k (0,0)=(x,0):=λ x hx=>by
  obtain⟨k,hk,e⟩:=ay7 m (m+1) 0 x (List.contains_iff_mem.mp (h x (List.mem_range.mpr (by omega))));have e2:(lps m k (0,0)).2=0:=by rw[bb0];simp
  exact⟨k,by omega,Prod.ext e e2⟩
 obtain⟨a,Z,J⟩:=q i hi;obtain⟨b,hb,O⟩:=q j Y;by_cases c:a<=b
 ·refine⟨b-a,by omega,?_⟩;rw[<- J,<- G_8,show a+(b-a)=b by omega,O]
 ·refine⟨m+1-a+b,by omega,?_⟩;rw[<- J,<- G_8,show a+(m+1-a+b)=(m+1)+b by omega,G_8,hz,O]
theorem br9:aq8 7:=H_2 (by decide +kernel) (by decide +kernel)
theorem bs2:aq8 15:=H_2 (by decide +kernel) (by decide +kernel)
theorem bs1:aq8 31:=H_2 (by decide +kernel) (by decide +kernel)
theorem bs0:aq8 63:=H_2 (by decide +kernel) (by decide +kernel)
theorem bc9:aq8 127:=H_2 (by decide +kernel) (by decide +kernel)
theorem bg4 (h:Int):bits h<2 ^ 64:=by unfold bits;have h1:=jn h (show (2 ^ 64:Int)≠0 by decide);omega
theorem bH4  (F:aq8 m)  (hi:i<=m) (q:p<2 ^ 64) (J:j<=m):∃ n,n<turns m/\(lps m n (i,p)).1=j:=by
 have e2:(lps m 13 (i,p)).2=0:=by rw[bb0];exact Nat.div_eq_of_lt (qr q (by decide))
 have e1:=bp7 m 13 (i,p) hi;obtain⟨n,O,e⟩:=F _ j e1 J;refine⟨13+n,by unfold turns;omega,?_⟩;rw[G_8];have:lps m 13 (i,p)=((lps m 13 (i,p)).1,0):=by rw[<- e2]
 rw[this];exact e
theorem aA6 :∀ (J i p:Nat),(∃ n,n<J/\ow.getD (lps m n (i,p)).1 (some 0)=none)->∃ j,layClean.free m ow J i p=some j/\ow.getD j (some 0)=none
 |0,i,p,⟨n,h,_⟩=>absurd h (Nat.not_lt_zero n)
 |J+1,i,p,⟨n,h,e⟩=>by
  unfold layClean.free;cases q:List.find? (λ k=>(ow.getD (i+k) (some 0)).isNone) (List.range (runEnd m i+1-i)) with
  |some k =>
   refine⟨i+k,rfl,?_⟩;have:=List.find?_some q;exact Option.isNone_iff_eq_none.mp this
  |none =>
   cases n with
   |zero =>
    have:=List.find?_eq_none.mp q 0 (List.mem_range.mpr (by unfold runEnd;split <;> omega));rw[Nat.add_zero] at this;have O:ow.getD i (some 0)=none:=e;rw[O] at this;exact absurd rfl this
   |succ n =>
    exact aA6 J _ _ ⟨n,Nat.lt_of_succ_lt_succ h,e⟩
noncomputable def stF (m:Nat) (acc:Option (Array (Option Nat)×Nat)) (h:Int):Option (Array (Option Nat)×Nat) :=
 acc.bind λ q=>(layClean.free m q.1 (turns m) (bits h % (m+1)) (bits h)).bind λ j=>some (q.1.setIfInBounds j (some q.2),q.2+1)
theorem bq3 (m:Nat) (q:Array Int):layClean m q=(q.foldl (stF m) (some (Array.replicate (m+1) none,0))).map (·.1):=rfl
theorem fmS (x:Nat) (r:List (Option Nat)):List.filterMap id (some x::r)=x::List.filterMap id r:=rfl
theorem fmN (r:List (Option Nat)):List.filterMap id (none::r)=List.filterMap id r:=rfl
def bi8 (m:Nat) (ow:Array (Option Nat)) (k:Nat):Prop:=ow.size=m+1/\(ow.toList.filterMap id).Perm (List.range k)
theorem aS3:∀ l:List (Option Nat),(∀ x∈l,x≠none)->(l.filterMap id).length=l.length
 |[],_=>rfl
 |none::r,h=>absurd rfl (h none (by simp))
 |some x::r,h=>by
  rw[fmS,zg,zg,aS3 r λ y q=>h y (by simp[q])]
theorem aA8:∀ (l:List (Option Nat)) (j k:Nat),l[j]?=some none->((l.set j (some k)).filterMap id).Perm (k::l.filterMap id)
 |[],j,k,h=>by simp at h
 |x::r,0,k,h=>by
  have e:x=none:=by simpa using h
  subst e;simp
 |none::r,j+1,k,h=>by
  rw[List.set_cons_succ,fmN,fmN];exact aA8 r j k (by simpa using h)
 |some x::r,j+1,k,h=>by
  rw[List.set_cons_succ,fmS,fmS];exact ((aA8 r j k (by simpa using h)).cons x).trans (List.Perm.swap k x _)
theorem getD_none {ow:Array (Option Nat)} (h:ow.getD j (some 0)=none):ow.toList[j]?=some none:=by
 rw[Zr] at h;cases q:ow[j]? with
 |none=>rw[q] at h;cases h
 |some x =>
  rw[q] at h;have:=h;subst this;rw[je];exact q
theorem bC2  (F:aq8 m)  (I:bi8 m ow k) (hk:k<=m) (h:Int):∃ q,stF m (some (ow,k)) h=some (q,k+1)/\bi8 m q (k+1):=by
 obtain⟨Y,Z⟩:=I;have fr:∃ j,j<=m/\ow.getD j (some 0)=none:=Classical.byContradiction λ no=>by
  have all:∀ x∈ow.toList,x≠none:=λ x hx e=>by
   obtain⟨j,J,O⟩:=List.mem_iff_getElem.mp hx;rw[zb] at J;refine no ⟨j,by omega,?_⟩;rw[Zr,<- je,yd (by rw[zb];exact J),O,e];rfl
  have l1:=aS3 _ all;rw[Z.length_eq,Y9,zb,Y] at l1;omega
 obtain⟨j,J,O⟩:=fr;obtain⟨n,hn,en⟩:=bH4 F (Nat.le_of_lt_succ (Nat.mod_lt _ (Za m))) (bg4 h) J;obtain⟨j',e',f'⟩:=aA6 (turns m) _ _ ⟨n,hn,by rw[en];exact O⟩;refine⟨ow.setIfInBounds j' (some k),?_,by rw[Array.size_setIfInBounds];exact Y,?_⟩
 ·show ((layClean.free m ow (turns m) (bits h % (m+1)) (bits h)).bind _)=_;rw[e'];rfl
 ·rw[Array.toList_setIfInBounds];refine (aA8 _ _ _ (getD_none f')).trans ((Z.cons k).trans ?_);rw[List.range_succ];exact (List.perm_append_singleton k (List.range k)).symm
theorem aP0  (F:aq8 m):∀ (l:List Int) (ow:Array (Option Nat)) (k:Nat),bi8 m ow k->k+l.length<=m+1->∃ q,l.foldl (stF m) (some (ow,k))=some (q,k+l.length)/\bi8 m q (k+l.length)
 |[],ow,k,I,_=>⟨ow,rfl,I⟩
 |h::r,ow,k,I,hk=>by
  rw[zg] at hk;obtain⟨O,e1,Z⟩:=bC2 F I (by omega) h;obtain⟨J,e2,Y⟩:=aP0 F r O (k+1) Z (by omega);refine⟨J,?_,?_⟩
  ·rw[List.foldl_cons,e1,e2,zg,Nat.add_assoc,Y7 1]
  ·rw[zg,<- Nat.add_assoc,Nat.add_right_comm];exact Y
theorem bq2  (F:aq8 m) (q:Array Int) (Y:q.size<=m+1):∃ ow,layClean m q=some ow/\bi8 m ow q.size:=by
 have O:bi8 m (Array.replicate (m+1) none) 0:=⟨Array.size_replicate,by
  rw[Array.toList_replicate];have:∀ n,List.filterMap id (List.replicate n (none:Option Nat))=[]:=λ n=>by induction n with
   |zero=>rfl
   |succ n J=>rw[List.replicate_succ,List.filterMap_cons_none rfl,J]
  rw[this];exact .refl _⟩
 obtain⟨ow,e,I⟩:=aP0 F q.toList _ 0 O (by rw[zb];omega);rw[zb,Yb] at I e;refine⟨ow,?_,I⟩;rw[bq3,<- Array.foldl_toList,e];rfl
theorem ay8 (ow:Array (Option Nat)):((List.range ow.size).filterMap λ j=>(ow.getD j none).map (j,·)).map (·.2)=ow.toList.filterMap id:=by
 rw[List.map_filterMap];have:∀ (l:List (Option Nat)),(List.range l.length).filterMap (λ j=>((l[j]?.getD none).map (j,·)).map (·.2))=l.filterMap id:=λ l=>by
  induction l with
  |nil=>rfl
  |cons x r J =>
   rw[zg,List.range_succ_eq_map,Zo,List.filterMap_map];have z:(λ j=>Option.map (λ x=>x.2) (Option.map (λ x=>(j,x)) ((x::r)[j]?.getD none))) ∘ Nat.succ=λ j=>((((r[j]?.getD none).map ((j+1),·)).map (·.2):Option Nat)):=by funext j;simp
   rw[z];have q:(λ j=>((((r[j]?.getD none).map ((j+1),·)).map (·.2):Option Nat)))=λ j=>((r[j]?.getD none).map (j,·)).map (·.2):=by funext j;cases r[j]?.getD none <;> rfl
   rw[q,J];cases x <;> rfl
 have t:=this ow.toList;rw[zb] at t;rw[<- t];congr 1;funext j;rw[Zr,je]
theorem az4  (F:aq8 m)  (J:Array Int) (O:J.size<=m):∃ t q,laid m fi mv l p J=some (t,q)/\q.toList.Perm (List.range J.size)/\t.fits J.size=true/\t.led=l/\t.plain=p/\t.mask=m/\t.dummies=#[]:=by
 obtain⟨ow,e,I⟩:=bq2 F J (by omega);refine⟨_,_,by unfold laid;rw[e];rfl,?_,?_,rfl,rfl,rfl,rfl⟩
 ·rw[<- I.1,ay8];exact I.2
 ·have sz:(((List.range (m+1)).filterMap λ j=>(ow.getD j none).map (j,·)).map (·.1)).length=J.size:=by rw[qy,<- qy,<- I.1,ay8,I.2.length_eq,Y9]
  unfold fits fill;simp only[ze,zn,Y2,Zv];refine⟨sz,?_⟩;rw[sz];exact O
end Fx
namespace Fx
open PySem PySem.Spec
theorem X_6 (n:Nat) (h:n<=120):aq8 (SetTable.sizeAbove n-1)/\n<=SetTable.sizeAbove n-1/\SetTable.sizeAbove n<=128:=by
 have q:∀ k<121,(SetTable.sizeAbove k=8\/SetTable.sizeAbove k=16\/SetTable.sizeAbove k=32\/SetTable.sizeAbove k=64\/SetTable.sizeAbove k=128)/\k<=SetTable.sizeAbove k-1:=by decide +kernel
 obtain⟨k1,k2⟩:=q n (by omega);refine⟨?_,k2,by omega⟩;rcases k1 with e | e | e | e | e <;> rw[e]
 ·exact br9
 ·exact bs2
 ·exact bs1
 ·exact bs0
 ·exact bc9
section
theorem K_5 {es:Array (Int×Value)}{q:Array Nat} (h:q.toList.Perm (List.range es.size)):(q.filterMap (es[·]?)).toList.Perm es.toList:=by rw[Array.toList_filterMap];exact (h.filterMap _).trans (by rw[filterMap_getElem?_range])
theorem B_2  (ho:s.heap.get? a=some o) (hd:o.data=.set es ep t) (hf:t.fits es.size=true) (hw:q<=120) (hz:es.size<=q)
  (h:∀ (Y:Array (Int×Value)) (t':SetTable),Y.toList.Perm es.toList->t'.fits Y.size=true->t'.led=t.led->t'.plain=t.plain->t'.mask=SetTable.sizeAbove q-1->t'.fill=Y.size ->
   Q () {s with heap:=s.heap.update a (Obj.putSet Y t')}):wpAny (model P w) A (setRelay a q) Q E s:=by
 obtain⟨F,f2,f3⟩:=X_6 q hw;refine qb (zr ho hd hf ?_);obtain⟨t',J,e,hp,O,hl,Z,hm,aa⟩:=az4 F (Array.map (λ x=>x.fst) es) (by rw[Yv];omega);rw[Yv] at hp O;have e':t.relaid (Array.map (λ x=>x.fst) es) q=some (t',J):=e;have pp:=K_5 hp;have sz:(J.filterMap (es[·]?)).size=es.size:=by rw[<- zb,pp.length_eq,zb]
 refine ye (λ c=>absurd c (by rw[Qa];omega)) λ _=>?_;rw[e'];refine qb (ye (λ c=>absurd sz (by simpa using c)) λ _=>qc ?_);refine Q8 ho hd (h _ _ pp (by rw[sz];exact O) hl Z hm ?_) (by rw[sz];have:=f2;rw[Qa];omega);unfold SetTable.fits at O;simp only[zn,Y2] at O;unfold SetTable.fill;rw[aa,sz,O.1];rfl
end
section
variable {ss os:List Str}
theorem aW5  (J:h.get? a=some (newS w)):SetS P w (byT w) h a [] :=
 ⟨_,#[],0,_,J,⟨rfl,rfl,rfl⟩,rfl,λ e q=>(by simp at q),jr _,yx,by decide,by rfl,λ _=>rfl,λ e=>by rw[e];rfl⟩
theorem K_9 {ah:Sem Unit}{h1:Heap}{oa:Obj}{ae:Nat}{Z:SetTable}{Q:Unit->Shared->Prop}{ob:Obj}{Y:Array (Int×Value)}{epb:Nat}{tb:SetTable}
  (ad:s.heap.get? a=some oa) (aj:oa.ExactSet) (ac:oa.data=.set #[] ae Z) (ap:Z.fits 0=true) (fi:Z.fill=0) (F:aq8 Z.mask) (hz:Y.size<=Z.mask)
  (af:byT w=false->Z.led=true)
  (ag:ElemsOf (PySem.strKind P w) Y.toList) (al:(Y.toList.map λ e=>PyProof.Rows.strOf e.2).Perm os) (an:os.Nodup) (am:Y.size<scanBound) (ar:tb.fits Y.size=true) (ak:tb.plain=true->Y.size=0) (aa:byT w=false->tb.led=true)
  (k:∀ h',Heap.SameBut a s.heap h'->SetS P w (byT w) h' a os->Q () {s with heap:=h'}) :
  wpAny (model P w) A (do
   let (_,_,ts) <- setState a
   match ts.road tb with
   |.slotForSlot=>storeSet a Y {tb with finger:=ts.finger,led:=ts.led&&tb.led,moves:=ts.moves,plain:=ts.plain&&tb.plain}
   |.clean =>
    let (es,t) <- (match SetTable.laid ts.mask ts.finger ts.moves (led:=ts.led&&tb.led) (plain:=ts.plain&&tb.plain) (Y.map (·.1)) with
     |some (t,O)=>if (O.filterMap (Y[·]?)).size != Y.size then (do unsupported "internal:set-table-lost-an-element";pure (O.filterMap (Y[·]?),t)) else pure (O.filterMap (Y[·]?),t)
     |_=>unsupported "internal:set-table-without-room":Sem (Array (Int×Value)×SetTable))
    storeSet a es t
   |.oneByOne=>ah) Q E s:=by
 refine qb (zr ad ac ap ?_);dsimp only;have done:∀ (J:Array (Int×Value)) (t':SetTable),J.toList.Perm Y.toList->t'.fits J.size=true->(t'.plain=true->tb.plain=true)->(byT w=false->t'.led=true)->wpAny (model P w) A (storeSet a J t') Q E s:=λ J t' pp ft pl ld=>by
  have sz:J.size=Y.size:=by rw[<- zb,pp.length_eq,zb]
  have b1:J.size<scanBound:=by rw[sz];exact am
  have aq:(s.heap.update a (Obj.putSet J t')).get? a=some {oa with data:=.set J (ae+1) t'}:=by have z:=zt (Obj.putSet J t') ad (by rw[Q0 J t' ac];rfl);rw[Q0 J t' ac] at z;exact z
  refine Q8 ad ac (k _ (yq _ a _) ?_) (Qo b1);exact⟨_,J,ae+1,t',aq,aj,rfl,ag.perm pp,(pp.map _).trans al,an,b1,ft,λ q=>by rw[sz];exact ak (pl q),ld⟩
 have rd:Z.road tb=if Z.mask==tb.mask&&tb.dummies.isEmpty then .slotForSlot else .clean:=by unfold SetTable.road;rw[fi];rfl
 rw[rd];by_cases c:(Z.mask==tb.mask&&tb.dummies.isEmpty)=true
 ·rw[if_pos c];dsimp only;exact done _ _ (.refl _) ar (λ q=>(Bool.and_eq_true_iff.mp q).2) λ q=>by show (Z.led&&tb.led)=true;rw[af q,aa q];rfl
 ·rw[if_neg c];dsimp only;obtain⟨t',O,e,hp,ai,hl,ao,hm,as⟩:=az4 F (fi:=Z.finger) (mv:=Z.moves) (l:=Z.led&&tb.led) (p:=Z.plain&&tb.plain) (Array.map (λ x=>x.fst) Y) (by rw[Yv];exact hz);rw[Yv] at hp ai;have pp:=K_5 hp;have sz:(O.filterMap (Y[·]?)).size=Y.size:=by rw[<- zb,pp.length_eq,zb]
  rw[e];refine qb (ye (λ c=>absurd sz (by simpa using c)) λ _=>qc ?_);dsimp only;exact done _ _ pp (by rw[sz];exact ai) (λ q=>(Bool.and_eq_true_iff.mp (ao▸q)).2) λ q=>by rw[hl,af q,aa q];rfl
theorem s_5  (al:a≠b) (ho:s.heap.get? a=some (newS w)) (hS:SetS P w (byT w) s.heap b os) (hz:os.length<=60)
  (k:∀ h',Heap.SameBut a s.heap h'->SetS P w (byT w) h' a os->(os≠[]\/h'=s.heap)->Q () {s with heap:=h'}):wpAny (model P w) A (setMerge a b af) Q E s:=by
 obtain⟨ob,eb,epb,tb,ak,an,ag,O,Z,ae,ad,ac,Y,J⟩:=hS;have hn:eb.size=os.length:=by have:=Z.length_eq;rw[qy,zb] at this;exact this
 unfold setMerge;have n1:(a==b)=false:=by simpa using al
 rw[n1];refine ye (λ c=>absurd c (by decide)) λ _=>?_;refine qb (zr ak ag ac ?_);refine ye (λ c=>?_) λ c=>?_
 ·have z:os=[]:=by rw[Zk,hn] at c;exact List.length_eq_zero_iff.mp c
  subst z;exact qc (k s.heap (Zd a _) (aW5 ho) (.inr rfl))
 ·have nz:os≠[]:=λ z=>by
   subst z;exact c (by rw[Zk];exact hn)
  refine qb ?_;refine qb (zr ho rfl rfl ?_);have rf:(SetTable.fresh 0 0 !byT w).roomFor eb.size=if (0+eb.size)*5>=7*3 then some ((0+eb.size)*2) else none:=rfl;rw[rf]
  by_cases c2:(0+eb.size)*5>=7*3
  ·rw[if_pos c2];have hw:(0+eb.size)*2<=120:=by omega
   obtain⟨F,f2,_⟩:=X_6 _ hw;refine B_2 ho rfl rfl hw (yf _) λ ah t' pp ft hl ao hm aj=>?_;have z:ah=#[]:=by have:=pp.length_eq;rw[zb,zb] at this;exact Array.eq_empty_of_size_eq_zero this
   subst z;have am:(s.heap.update a (Obj.putSet #[] t')).get? a=some {newS w with data:=.set #[] (0+1) t'}:=by have z:=zt (Obj.putSet #[] t') ho rfl;exact z
   have ai:=yq s.heap a (Obj.putSet #[] t');refine K_9 (h1:=s.heap) (ob:=ob) (epb:=epb) am ⟨rfl,rfl,rfl⟩ rfl ft aj (by rw[hm];exact F) (by rw[hm];omega) (λ q=>by rw[hl];rw[q];rfl) O Z ae ad ac Y J λ h' sb aa=>?_;exact k h' (ai.trans sb) aa (.inl nz)
  ·rw[if_neg c2];refine qc ?_;exact K_9 (h1:=s.heap) (ob:=ob) (epb:=epb) ho ⟨rfl,rfl,rfl⟩ rfl rfl rfl br9 (by show eb.size<=7;omega) (λ q=>by rw[q];rfl) O Z ae ad ac Y J λ h' sb aa=>k h' sb aa (.inl nz)
end
section
variable {ss os:List Str}
theorem z_5  (ha:SetS P w bt s.heap a ss) (hb:SetS P w bt s.heap b os) (q:Q true s):wpAny (model P w) A (setsQuiet [b,a]) Q E s:=by
 refine qb (wpAny_forIn_list _ (λ l acc s'=>(∀ c∈l,∃ xs,SetS P w bt s.heap c xs)/\acc=(none,())/\s=s') _ (λ c rest acc s' h=>?_) (λ acc s' h=>?_) _ _ ⟨λ c O=>?_,rfl,rfl⟩)
 ·obtain⟨J,rfl,Y⟩:=h;subst Y;obtain⟨xs,o,es,ep,t,ho,ae,hd,Z,hp,af,ad,hf,ac,aa⟩:=J c (by simp);refine qb (jz ho hd hf (qb ?_));refine wpAny_forIn_array' _ (λ l acc s'=>(∀ e∈l,∃ x t,e.2=Value.str x t)/\acc=(none,())/\s=s') _ (λ e rest acc s' h=>?_) (λ acc s' h=>?_) _ _ ⟨λ e he=>?_,rfl,rfl⟩
  ·obtain⟨J,rfl,Y⟩:=h;subst Y;obtain⟨h0,v⟩:=e;obtain⟨x,t,ex⟩:=J (h0,v) (by simp);have ex:=ex;subst ex;exact qc ⟨λ e he=>J e (by simp[he]),rfl,rfl⟩
  ·obtain⟨_,rfl,rfl⟩:=h;exact qc ⟨λ c O=>J c (by simp[O]),rfl,rfl⟩
  ·obtain⟨x,t,e1,_⟩:=z_0 Z e he;exact⟨x,t,e1⟩
 ·obtain⟨_,rfl,rfl⟩:=h;exact qc q
 ·rcases qv O with rfl | O
  ·exact⟨_,hb⟩
  ·rw[List.mem_singleton.mp O];exact⟨_,ha⟩
theorem as8  (ho:s.heap.get? a=some o) (hd:o.data=.set es ep t) (hf:t.fits es.size=true) (O:byT w=false->t.led=true)
  (q:∀ (J:Array (Int×Value)) (Z:Drawn),J.toList.Perm es.toList->Q J {s with drawn:=Z}):wpAny (model P w) A (setWalk a) Q E s:=by
 refine qb (zr ho hd hf ?_);refine qb (qb (y8 (qc ?_)));split
 ·exact qb (y8 (qc (q _ s.drawn (v_1 _ es))))
 ·rename_i c;have bf:byT w=false:=by cases z:byT w with
   |false=>rfl
   |true=>exact absurd z c
  split
  ·refine qb (o_4 _ _ _ _ (by simp) λ pl Z pp=>qc (q _ Z ?_));exact pp
  ·have m:∀ (Y:Unit → Shared → Prop),Y () s → wpAny (model P w) A (if (!t.led&&decide (es.size > 1))=true then unsupported "set:maker-not-led" else pure ()) Y E s:=λ Y q'=>by
    rw[if_neg (by simp[O bf])];exact qc q'
   exact qb (m _ (qc (q es s.drawn (.refl _))))
theorem SetS.perm  (S:SetS P w bt h a xs) (p:xs.Perm ys):SetS P w bt h a ys:=by obtain⟨o,es,ep,t,ho,Y,hd,O,hp,Z,hb,hf,J,q⟩:=S;exact⟨o,es,ep,t,ho,Y,hd,O,hp.trans p,p.nodup_iff.mp Z,hb,hf,J,q⟩
theorem C_6  (ha:SetS P w (byT w) s.heap a ss) (ak:SetS P w (byT w) s.heap b os) (ho:s.heap.get? b=some o) (hd:o.data=.set es ep t) (hf:t.fits es.size=true) (ae:byT w=false->t.led=true)
  (q:∀ (Y:Array (Int×Value)) (h':Heap) (dr:Drawn),Y.toList.Perm es.toList->Heap.SameBut a s.heap h'->SetS P w (byT w) h' a ss->Q Y {s with heap:=h',drawn:=dr}):wpAny (model P w) A (setWalkUnseen b [a] (some a)) Q E s:=by
 refine qb (zr ho hd hf ?_);refine qb (qb (y8 (qc ?_)));have walk:wpAny (model P w) A (setWalk b) Q E s:=as8 ho hd hf ae λ Y dr pp=>q Y s.heap dr pp (Zd a _) ha;refine ye (λ c=>walk) λ c=>?_;refine qb (z_5 ha ak ?_);refine ye (λ c=>absurd c (by decide)) λ _=>?_;refine qb (wpAny_rule ?_);obtain⟨oa,ea,ai,ta,Z,ad,J,ac,aj,af,ag,ah,aa,O⟩:=ha;refine qb (zr Z J ah ?_);refine ye (λ c2=>?_) λ _=>?_
 ·refine qb (Q8 Z J (qc (q es _ s.drawn (.refl _) (yq _ a _) ?_)) (Qo ag));generalize hT:({ta with led:=ta.led&&t.led,plain:=ta.plain&&t.plain}:SetTable)=t2;have al:(s.heap.update a (Obj.putSet ea t2)).get? a=some {oa with data:=.set ea (ai+1) t2}:=by have z:=zt (Obj.putSet ea t2) Z (by rw[Q0 ea t2 J];rfl);rw[Q0 ea t2 J] at z;exact z
  subst hT;exact⟨_,ea,ai+1,_,al,ad,rfl,ac,aj,af,ag,ah,λ z=>aa (Bool.and_eq_true_iff.mp z).1,λ z=>by rw[O z,ae z];rfl⟩
 ·exact qc (q es s.heap s.drawn (.refl _) (Zd a _) ⟨oa,ea,ai,ta,Z,ad,J,ac,aj,af,ag,ah,aa,O⟩)
end
section
variable {ss os:List Str}
theorem ao3  (h:acc.Nodup):(T_4 acc x).Nodup:=by
 unfold T_4;split
 ·exact h
 ·rename_i hx;rw[jb];exact⟨h,by simp,λ u J v q e=>by rw[Y5] at q;subst q;subst e;exact hx J⟩
theorem h_3:∀ (xs acc:List Str),acc.Nodup->(d_1 acc xs).Nodup
 |[],acc,h=>h
 |x::r,acc,h=>h_3 r (T_4 acc x) (ao3 h)
theorem af3  (h:acc.Nodup) (p:xs.Perm ys):(d_1 acc xs).Perm (d_1 acc ys) :=
 (Zt (h_3 xs acc h) (h_3 ys acc h)).mpr λ y=>by rw[j_2,j_2,p.mem_iff]
theorem W_5 {f g:Array (Int×Value)×Nat×SetTable->Sem Unit} (ai:a≠b) (ax:ss≠[]) (hA:SetS P w (byT w) s.heap a ss) (hB:SetS P w (byT w) s.heap b os)
  (af:s.heap.get? b=some ob) (ae:ob.data=.set eb epb tb) (al:tb.fits eb.size=true) (Z:byT w=false->tb.led=true) (ac:ElemsOf (PySem.strKind P w) eb.toList) (am:(eb.toList.map λ e=>PyProof.Rows.strOf e.2).Perm os) (hz:ss.length+os.length<=60)
  (aa:∀ (s':Shared) (Q':Unit->Shared->Prop),s'.heap.get? b=some ob->Q' () s'->wpAny (model P w) A O Q' E s')
  (k:∀ h' dr,Heap.SameBut a s.heap h'->SetS P w (byT w) h' a (d_1 ss os)->Q () {s with heap:=h',drawn:=dr}) :
  wpAny (model P w) A (do
   let sa <- setState a
   match sa.2.2.road tb with
   |.slotForSlot=>f sa
   |.clean=>g sa
   |.oneByOne=>do
    let q <- setWalkUnseen b [a] (some a)
    let _ <- forIn q PUnit.unit λ x (_:PUnit)=>do
     let _ <- holding [x.2] (setAddHashed a x.2 x.1)
     O
     let st <- setState b
     if (st.2.1 != epb)=true then do
       unsupported "set.changed-during-merge"
       pure (ForInStep.yield PUnit.unit)
      else pure (ForInStep.yield PUnit.unit)
    pure ()) Q E s:=by
 have an:=hA;obtain⟨oa,ea,a2,ta,au,a0,ao,az,ar,ak,a1,Y,ay,av⟩:=hA;have hn:ea.size=ss.length:=by have:=ar.length_eq;rw[qy,zb] at this;exact this
 refine qb (zr au ao Y ?_);have fi:ta.fill≠0:=by
  unfold SetTable.fits at Y;simp only[zn,Y2] at Y;unfold SetTable.fill;have:ss.length≠0:=λ z=>ax (List.length_eq_zero_iff.mp z);omega
 have rd:ta.road tb=.oneByOne:=by unfold SetTable.road;rw[if_pos (by simpa using fi)]
 rw[rd];refine qb (C_6 an hB af ae al Z λ q h1 dr pp aq aw=>qb ?_);have ap:=ac.perm pp;have aj:=(pp.map _).trans am;have ah:q.toList.length=os.length:=by rw[<- aj.length_eq,qy]
 refine wpAny_forIn_array' _ (λ l _ s'=>∃ h' xs,s'={s with heap:=h',drawn:=dr}/\Heap.SameBut a s.heap h'/\SetS P w (byT w) h' a xs/\(∀ e∈l,∃ x t,e.2=Value.str x t/\e.1=(PySem.strKind P w).hash x)/\xs.length+l.length<=60 /\
   d_1 xs (l.map λ e=>PyProof.Rows.strOf e.2)=d_1 ss (q.toList.map λ e=>PyProof.Rows.strOf e.2)) _ (λ e rest _ s' h=>?_) (λ _ s' h=>?_) _ _ ⟨h1,ss,rfl,aq,aw,z_0 ap,by rw[ah];exact hz,rfl⟩
 ·obtain⟨h',xs,rfl,sb,hS,hl,ad,J⟩:=h;obtain⟨x,tk,e2,e1⟩:=hl e (by simp);obtain⟨h0,v⟩:=e;subst e1;subst e2;rw[zg] at ad;refine qb (zw (J_9 hS (by unfold scanBound;omega) λ h2 ag as=>?_));have bb:h2.get? b=some ob:=by rw[ag.2 b (zv ai),sb.2 b (zv ai)];exact af
  refine qb (aa _ _ bb (qb (zr bb ae al ?_)));refine ye (λ c=>absurd c (by simp)) λ _=>qc ?_;refine⟨h2,T_4 xs x,rfl,sb.trans ag,as,λ e he=>hl e (by simp[he]),?_,J⟩;have l2:(T_4 xs x).length<=xs.length+1:=by
   unfold T_4;split
   ·omega
   ·rw[zc];exact qj _
  omega
 ·obtain⟨h',xs,rfl,sb,hS,_,_,J⟩:=h;have e:xs=d_1 ss (q.toList.map λ e=>PyProof.Rows.strOf e.2):=J;refine qc (k h' dr sb ?_);rw[e] at hS;exact hS.perm (af3 ak aj)
end
section
variable {P:Program}{w:World}{A:Around}{E:Value->Shared->Prop}{s:Shared}{a b:Addr}{ss os:List Str}
theorem C_7  (Z:a≠b) (am:ss≠[]) (hA:SetS P w (byT w) s.heap a ss) (hB:SetS P w (byT w) s.heap b os) (hz:ss.length+os.length<=60)
  (aa:∀ (s':Shared) (Q':Unit->Shared->Prop),s'.heap.get? b=s.heap.get? b->Q' () s'->wpAny (model P w) A af Q' E s')
  (k:∀ h' dr,Heap.SameBut a s.heap h'->SetS P w (byT w) h' a (d_1 ss os)->Q () {s with heap:=h',drawn:=dr}):wpAny (model P w) A (setMerge a b af) Q E s:=by
 have aq:=hB;obtain⟨ob,eb,epb,tb,Y,az,ai,ae,ag,a3,a1,ah,a0,ac⟩:=hB;have hn:eb.size=os.length:=by have:=ag.length_eq;rw[qy,zb] at this;exact this
 unfold setMerge;have n1:(a==b)=false:=by simpa using Z
 rw[n1];refine ye (λ c=>absurd c (by decide)) λ _=>?_;refine qb (zr Y ai ah ?_);refine ye (λ c=>?_) λ c=>?_
 ·have z:os=[]:=by rw[Zk,hn] at c;exact List.length_eq_zero_iff.mp c
  subst z;exact qc (k s.heap s.drawn (Zd a _) hA)
 ·refine qb ?_;have aw:=hA;obtain⟨oa,ea,as,ta,ak,ar,ad,ao,ap,au,av,O,an,al⟩:=hA;have ha:ea.size=ss.length:=by have:=ap.length_eq;rw[qy,zb] at this;exact this
  have pl:ta.place.size=ea.size:=by unfold SetTable.fits at O;simp only[zn,Y2] at O;exact O.1
  refine qb (zr ak ad O ?_);have rf:ta.roomFor eb.size=if (ta.fill+eb.size)*5>=ta.mask*3 then some ((ta.place.size+eb.size)*2) else none:=rfl;rw[rf]
  by_cases c2:(ta.fill+eb.size)*5>=ta.mask*3
  ·rw[if_pos c2];refine B_2 ak ad O (by omega) (by omega) λ J t' pp ft hl ax hm a2=>?_;have ay:(s.heap.update a (Obj.putSet J t')).get? a=some {oa with data:=.set J (as+1) t'}:=by have z:=zt (Obj.putSet J t') ak (by rw[Q0 J t' ad];rfl);rw[Q0 J t' ad] at z;exact z
   have sz:J.size=ea.size:=by rw[<- zb,pp.length_eq,zb]
   have aj:=yq s.heap a (Obj.putSet J t');have S1:SetS P w (byT w) (s.heap.update a (Obj.putSet J t')) a ss:=⟨_,J,as+1,t',ay,ar,rfl,ao.perm pp,(pp.map _).trans ap,au,by rw[sz];exact av,ft,λ q=>by rw[sz];exact an (ax▸q),λ q=>by rw[hl];exact al q⟩;have bb:(s.heap.update a (Obj.putSet J t')).get? b=some ob:=by rw[aj.2 b (zv Z)];exact Y
   exact W_5 Z am S1 (aq.same aj (zv Z)) bb ai ah ac ae ag hz (λ s' Q' e q=>aa s' Q' (by rw[e,Y]) q) λ h' dr sb hS=>k h' dr (aj.trans sb) hS
  ·rw[if_neg c2];exact qc (W_5 Z am aw aq Y ai ah ac ae ag hz (λ s' Q' e q=>aa s' Q' (by rw[e,Y]) q) k)
end
theorem X_8:entryFor table "set.__or__"=some Builtin.«frozenset.__or__» :=
 entryFor_alias (id':="frozenset.__or__") (by kernel_rfl) rfl (by decide +kernel) (by kernel_rfl)
section
variable {s:Shared}
theorem SetS.ty  (J:SetS P w bt s.heap a ss):s.TypeIs (.ref a) "set":=by obtain⟨o,es,ep,t,O,q,_⟩:=J;exact⟨o,O,q.1⟩
theorem S_9  (ty:s.TypeIs (.ref a) "set") (q:Q true s):wpAny (model P w) A (Builtin.Frozenset.isAnySet (.ref a)) Q E s:=by have J:=sub_set_self;refine qb (Z4 ty J ?_);exact qc q
theorem bv4  (J:SetS P w (byT w) s.heap a ss) (hz:ss.length<=60)
  (k:∀ h',(∀ b o,s.heap.get? b=some o->h'.get? b=some o)->SetS P w (byT w) h' s.heap.objs.size ss->(ss=[]->h'.get? s.heap.objs.size=some (newS w))->Q (.ref s.heap.objs.size) {s with heap:=h'}):wpAny (model P w) A (Builtin.Frozenset.copyOf a) Q E s:=by
 have Z:a<s.heap.objs.size:=by obtain⟨o,es,ep,t,ho,_⟩:=J;exact qm ho
 have su:=sub_set_self;refine qb (qb (Z4 J.ty su (qc (qb ?_))));refine aJ1 ?_;have q:(s.heap.push (newS w)).get? s.heap.objs.size=some (newS w):=qk _ rfl;refine qb (qc (qb ?_));refine s_5 (Ye Z) q (J.keep λ b o e=>qd _ e) hz λ h' Y O c=>qc (k h' (λ b o e=>?_) O λ z=>?_)
 ·rw[Y.2 b (Yd (Heap.lt_size e))];exact qd _ e
 ·rcases c with c | c
  ·exact absurd z c
  ·rw[c];exact q
end
section
variable {ss os:List Str}
theorem I_3 {ys:List Str} (h:ys.Nodup):ys.Perm (d_1 [] ys) :=
 (Zt h (h_3 ys [] yx)).mpr λ y=>by rw[j_2];simp
theorem aW2  (q:Q (u,v) s):wpAny (model P w) A (Builtin.Frozenset.slot1 "__or__" ⟨[u,v],[]⟩) Q E s :=
 qb (qc (qc q))
theorem aF6 {id:String} (Z:r≠b) (hR:SetS P w (byT w) s.heap r ss) (hN:ss=[]->s.heap.get? r=some (newS w)) (hB:SetS P w (byT w) s.heap b os) (hz:ss.length+os.length<=60)
  (k:∀ h' dr,Heap.SameBut r s.heap h'->SetS P w (byT w) h' r (d_1 ss os)->Q () {s with heap:=h',drawn:=dr}):wpAny (model P w) A (Builtin.Frozenset.updateFrom id r (.ref b)) Q E s:=by
 have J:=hB;obtain⟨ob,eb,epb,tb,Y,ae,O,af,ah,ac,ai,aa,ag,ad⟩:=hB;refine qb (S_9 J.ty ?_);rw[if_pos rfl];refine qb (qc ?_);refine qb (qb (zr Y O aa (qc ?_)));by_cases z:ss=[]
 ·subst z;refine s_5 Z (hN rfl) J (by rw[yy] at hz;omega) λ h' sb hS _=>k h' s.drawn sb (hS.perm (I_3 ac))
 ·refine C_7 Z z hR J hz (λ s' Q' e q=>?_) k;refine qb (qb (zr (e.trans Y) O aa (qc ?_)));refine ye (λ c=>absurd c (by simp)) λ _=>qc q
theorem ca2  (O:a≠b) (J:SetS P w (byT w) s.heap a ss) (q:SetS P w (byT w) s.heap b os) (hz:ss.length+os.length<=60)
  (k:∀ h' Y,(∀ b o,s.heap.get? b=some o->h'.get? b=some o)->SetS P w (byT w) h' s.heap.objs.size (d_1 ss os)->Q (.ref s.heap.objs.size) {s with heap:=h',drawn:=Y}) :
  wpAny (model P w) A (binaryOp .BitOr (.ref a) (.ref b)) Q E s:=by
 refine wpAny_binaryOp_same J.ty q.ty F.fills_set_or F.slot_set_or (j0 F.slot_set_or J.ty X_8 ?_ (F.args_set_or_2 _ _));refine qb (aW2 ?_);have bl:b<s.heap.objs.size:=by obtain⟨o,es,ep,t,ho,_⟩:=q;exact qm ho
 refine qb (qb (S_9 J.ty (S_9 q.ty ?_)));refine ye (λ c=>absurd c (by decide)) λ _=>?_;refine qb (qc (qb ?_));refine qb (bv4 J (by omega) λ h1 kp Z hN=>?_);have n1:(Value.ref b != Value.ref a)=true:=by simpa using (zv O)
 refine ye (λ _=>?_) λ c=>absurd n1 c;refine qb (qc (qb (zw ?_)));refine aF6 (Ye bl) Z hN (q.keep kp) hz λ h2 Y sb aa=>qc (qc ⟨_,rfl,by simp,k h2 Y (λ c o e=>?_) aa⟩);rw[sb.2 c (Yd (Heap.lt_size e))];exact kp c o e
end
end Fx
namespace Fx
open PySem PySem.Spec PyProof.Rows L2
section
variable {K:Frag}
theorem RS.holdF (R:RS K c H0 H ρ σ) (q:H l=none):l∉c.Ap/\c.He l=none/\H0 l=none:=by
 have J:=λ m=>R.apt l m q;refine⟨J,?_,?_⟩
 ·cases z:c.He l with
  |none=>rfl
  |some u=>have:=R.keep l u z J;rw[q] at this;cases this
 ·cases z:H0 l with
  |none=>rfl
  |some u=>have:=R.same l u z;rw[q] at this;cases this
theorem RS.hold (R:RS K c H0 H ρ σ) (J:H l=none):RS K ⟨c.Hi,upd c.He l o,c.Ap⟩ H0 (upd H l o) ρ σ:=by
 obtain⟨Y,n2,n3⟩:=R.holdF J;have ne_of:∀ {b:Addr}{u:HO},H b=some u->b≠l:=λ e z=>by rw[z,J] at e;cases e
 refine⟨λ b u e=>?_,R.init,λ b u e=>?_,λ b u e n=>?_,λ a O=>?_,R.len,R.im,λ i b o e=>?_,R.ne⟩
 ·have h:=R.same b u e;rw[b_2 (ne_of h)];exact h
 ·have h:=R.same b u e;rcases R.fresh b u e with q | q
  ·exact .inl q
  ·exact .inr (by show upd c.He l _ b=none;rw[b_2 (ne_of h)];exact q)
 ·by_cases z:b=l
  ·subst z;have e:upd c.He b _ b=some u:=e;rw[a_3] at e ⊢;exact e
  ·have e:upd c.He l _ b=some u:=e;rw[b_2 z] at e ⊢;exact R.keep b u e n
 ·by_cases z:a=l
  ·subst z;exact absurd O Y
  ·rw[b_2 z];exact R.apt a O
 ·obtain⟨a,e1,e2,e3,e4⟩:=R.ow i b o e;obtain⟨u,Z⟩:=e4.some;refine⟨a,e1,e2,?_,e4.step (Same.refl _) λ u h=>by rw[b_2 (ne_of h)];exact h⟩;cases b with
  |true=>exact e3
  |false =>
   have e3:=e3;show upd c.He l _ a=none;rw[b_2 (ne_of Z)];exact e3
theorem RS.unhold (R:RS K ⟨c.Hi,upd c.He l o,c.Ap⟩ H0 H ρ σ) (Y:l∉c.Ap) (O:c.He l=none):RS K c H0 H ρ σ/\H l=some o:=by
 have J:=R.keep l o a_3 Y;refine⟨⟨R.same,R.init,λ b u e=>?_,λ b u e n=>?_,R.apt,R.len,R.im,λ i b o e=>?_,R.ne⟩,J⟩
 ·rcases R.fresh b u e with q | q
  ·exact .inl q
  ·have q:upd c.He l _ b=none:=q;by_cases z:b=l
   ·subst z;rw[a_3] at q;cases q
   ·rw[b_2 z] at q;exact .inr q
 ·have z:b≠l:=λ z=>by rw[z,O] at e;cases e
  exact R.keep b u (by show upd c.He l _ b=some u;rw[b_2 z];exact e) n
 ·obtain⟨a,e1,e2,e3,e4⟩:=R.ow i b o e;refine⟨a,e1,e2,?_,e4⟩;cases b with
  |true=>exact e3
  |false =>
   have e3:upd c.He l _ a=none:=e3;by_cases z:a=l
   ·subst z;rw[a_3] at e3;cases e3
   ·rw[b_2 z] at e3;exact e3
end
section
theorem aZ7:OpR X (binaryOp .BitOr) (λ x y H Q=>∃ p q ss ys,x=.ref p/\y=.ref q/\p≠q/\H p=some (at3 X.prog X.w p ss)/\H q=some (at3 X.prog X.w q ys)/\ss.length+ys.length<=60/\∀ l,H l=none->Q (.ref l) (upd H l (at3 X.prog X.w l (d_1 ss ys)))):=by
 intro pins s σ H x y v u Q I Y ry h;obtain⟨p,q,ss,ys,rfl,rfl,J,Z,hq,hz,k⟩:=h;cases Y;cases ry;refine ca2 J (I.hok p _ Z).1 (I.hok q _ hq).1 hz λ h' dr kp O=>?_;exact⟨.ref s.heap.objs.size,_,Inv.drawn dr (I.laid kp (qj _) (as9 O)),rfl,k _ (I.hok.fresh (qj _))⟩
theorem as4 {K:Frag}{ss:List Str} (s:Same H0 H) (h:sqA d=some (ss.map .str)) (r:Rep K H0 d v):∃ q,v=.ref q/\(SqL K H q (ss.map V.str)\/SqT K H q (ss.map V.str)):=by
 unfold sqA at h;split at h
 ·cases h;obtain⟨q,O,rfl,J,t⟩:=r;rw[k_8 t] at J;exact⟨q,rfl,.inr (Same.seqT s J)⟩
 ·cases h;obtain⟨q,O,rfl,J,t⟩:=r;rw[k_8 t] at J;exact⟨q,rfl,.inl (Same.seq s J)⟩
 ·cases h
theorem aG3 (ss ys:List Str):g_2 (d_1 (d_1 [] ss) (d_1 [] ys))=g_2 (d_1 [] (ss++ys)) :=
 s_2 ((Zt (h_3 _ _ (h_3 _ _ yx)) (h_3 _ _ yx)).mpr λ y=>by
  rw[j_2,j_2,j_2,j_2,Yi];simp)
theorem S_3 {F G:FE}{ρ ρ':En}{d:D} (f:eF A_9 (aC F (aC G aN)) ρ=some (d,ρ')):∃ d1 J d2 l1 l2,F ρ=some (d1,J)/\G J=some (d2,ρ')/\sqA d1=some (List.map D.str l1)/\sqA d2=some (l2.map .str)/\l1.length+l2.length<=60/\.lst ((g_2 (d_1 [] (l1++l2))).map .str)=d:=by
 unfold eF at f;obtain⟨⟨ds,aa⟩,g1,f⟩:=a_0 f;obtain⟨d',q,f⟩:=a_0 f;have f':some (d',aa)=some (d,ρ'):=f;cases f';unfold aC at g1;obtain⟨⟨d1,J⟩,e1,g1⟩:=a_0 g1;obtain⟨⟨dr,ad⟩,O,g1⟩:=a_0 g1;obtain⟨⟨d2,ac⟩,e2,O⟩:=a_0 O;obtain⟨⟨dn,ae⟩,Y,O⟩:=a_0 O;unfold aN at Y;cases Y;cases O;cases g1;have e2:G J=some (d2,ac):=e2;have q:A_9 [d1,d2]=some d:=q;rw[M_3] at q;obtain⟨xs,x1,q⟩:=a_0 q;obtain⟨ys,y1,q⟩:=a_0 q;have Z:xs.length+ys.length<=60:=Classical.byContradiction λ z=>by rw[if_neg z] at q;cases q
 rw[if_pos Z] at q;unfold x_1 at q;obtain⟨zs,ez,q⟩:=a_0 q;obtain⟨af,ed⟩:=ifs q;have ea:=M_9 ez;obtain⟨l1,l2,rfl,ex,ey⟩:=List.append_eq_map_iff.mp ea;subst ex;subst ey;rw[qy,qy] at Z;exact⟨d1,J,d2,l1,l2,e1,e2,x1,y1,Z,ed⟩
theorem ar3 {a b:Expr}{F G:FE}{p p' p2 Y J O pos:Pos} (hm:X.mg "set"=none) (aj:X.mg "sorted"=none) (ha:XE X a F) (hb:XE X b G) (hc:X.calm=true:=by rfl) (hg:Gl X "set":=by rfl) (af:Gl X "sorted":=by rfl)
  (h1:starEach [a] X.env=[(false,eval a X.env)]:=by rfl) (ac:starEach [b] X.env=[(false,eval b X.env)]:=by rfl)
  (h2:starEach [.BinOp (.Call (.Name "set" p) [a] [] Y) .BitOr (.Call (.Name "set" p') [b] [] J) O] X.env=[(false,eval (.BinOp (.Call (.Name "set" p) [a] [] Y) .BitOr (.Call (.Name "set" p') [b] [] J) O) X.env)]:=by rfl) :
  XE X (.Call (.Name "sorted" p2) [.BinOp (.Call (.Name "set" p) [a] [] Y) .BitOr (.Call (.Name "set" p') [b] [] J) O] [] pos) (eF A_9 (aC F (aC G aN))) :=
 PE.wk (n_6 (R_9 hc) af aj PyProof.Rows.boot_sorted (c_5 (aI4 aZ7 (x_8 (L_9 hc) hg hm PyProof.Rows.boot_set (xaC ha xaN h1) (by decide) (by decide) h1 rfl) (x_8 (L_9 hc) hg hm PyProof.Rows.boot_set (xaC hb xaN ac) (by decide) (by decide) ac rfl)) l_0 h2) (by decide) (by decide) h2 rfl) λ σ H Q z=>by
  obtain⟨c,H0,ρ,d,ρ',R,f,q⟩:=z;obtain⟨d1,aa,d2,l1,Z,e1,e2,x1,y1,al,ed⟩:=S_3 f;have one:∀ {F:FE}{ρ ρ':En}{d:D},F ρ=some (d,ρ')->aC F aN ρ=some ([d],ρ'):=λ {F ρ ρ' d} e=>by unfold aC;rw[e];rfl
  have k1:=o_3 l1 [];have k2:=o_3 Z [];have k3:=o_3 (d_1 [] Z) (d_1 [] l1);rw[yy] at k1 k2;refine⟨c,H0,ρ,[d1],aa,R,one e1,λ vs H1 Hh s1 R1 r1=>?_⟩;obtain⟨v,rfl,rv⟩:=Reps.v1 r1;obtain⟨ad,rfl,sq⟩:=as4 R1.same x1 rv;refine⟨ad,l1,rfl,sq,by omega,λ l hl=>?_⟩;obtain⟨n1,n2,n3⟩:=R1.holdF hl;refine⟨⟨c.Hi,upd c.He l (at3 X.prog X.w l (d_1 [] l1)),c.Ap⟩,H1,aa,[d2],ρ',R1.hold hl,one e2,λ ak H2 Hh2 s2 R2 r2=>?_⟩;obtain⟨v2,rfl,ai⟩:=Reps.v1 r2;obtain⟨ag,rfl,ah⟩:=as4 R2.same y1 ai;obtain⟨R2',ae⟩:=R2.unhold n1 n2;refine⟨ag,Z,rfl,ah,by omega,λ m hm=>?_⟩;have lm:l≠m:=λ z=>by rw[<- z,ae] at hm;cases hm
  refine⟨l,m,d_1 [] l1,d_1 [] Z,rfl,rfl,lm,by rw[b_2 lm];exact ae,a_3,by omega,λ r hr=>?_⟩;refine⟨r,_,rfl,a_3,by omega,λ t ht=>?_⟩;have S1:=Step.side (o:=at3 X.prog X.w m (d_1 [] Z)) R2'.same hm;have S2:=Step.side (o:=at3 X.prog X.w r (d_1 (d_1 [] l1) (d_1 [] Z))) S1.s' hr;have S3:=Step.alloc (o:=.lst ((g_2 (d_1 (d_1 [] l1) (d_1 [] Z))).map V.str)) S2.s' ht;refine q _ _ _ (s1.trans (s2.trans ((S1.trans S2).trans S3).s0)) (R2'.after ((S1.trans S2).trans S3)) ?_;rw[<- ed,<- aG3];unfold Rep;exact⟨t,_,rfl,.inl (.inl a_3),x_5 _⟩
end
section
variable {X:Cx}
theorem S_0 (hc:X.calm=true):CallR X (.type "dict") (λ xs H Q=>∃ p Y kvs,xs=[.ref p] ∧ SqT X.K H p Y ∧ PV X.K H Y kvs ∧ (kvs.map (·.1)).Nodup ∧ ∀ l o,H l=none → Q (.ref l) (upd H l (.frz o (.dK kvs)))):=by
 intro pins s σ H xs us Q I r h;obtain⟨p,Y,kvs,rfl,hq,pv,nd,q⟩:=h;obtain⟨u,rfl,ru⟩:=v_5 r;cases ru;obtain⟨aa,rv,⟨ob,h1,h2,⟨n,h3⟩,h4⟩,hz⟩:=I.tupleN hq;obtain⟨rs,q1,O⟩:=ai1 I pv rv;have Z:kvs.length<=sizeLine:=by rw[aP8 pv];exact hz
 refine ap8 h1 h2 h3 h4 (I.ok.hd hc) q1 (by rw[az5 O];exact nd) (by rw[aR4 O];exact Z) λ h' tk kp dd=>?_;obtain⟨J,es,ep,eo,rest⟩:=id dd;exact⟨.ref s.heap.objs.size,_,I.laid (o:=.frz J (.dK kvs)) kp (qj _) ⟨eo,aC3 Z (beq_eq_false_iff_ne.mpr (zv (qt I.big))) O dd⟩,rfl,q _ _ (I.hok.fresh (qj _))⟩
theorem aN5 (hc:X.calm=true):BOk X (.type "dict") aq5:=⟨_,S_0 hc,λ c H0 H ρ σ ds d vs Q R r e q=>by
 unfold aq5 at e;split at e
 ·obtain⟨kvs,g6,e⟩:=a_0 e;obtain⟨⟨_,nd⟩,rfl⟩:=ifs e;cases pairsD_inv g6;obtain⟨v,rfl,Y⟩:=Reps.v1 r;obtain⟨ad,ws,rfl,sq,t⟩:=Y;obtain⟨J,p1,p2⟩:=bm6 R.same t;have ln:=p2.length;rw[qy] at ln;have kz:(E_6 (kvs.map (·.1)) J).map (·.1)=(kvs.map (·.1)).map Sum.inr:=by unfold E_6;rw[Z7 (by rw[qy,qy];omega)]
  have O:((E_6 (kvs.map (·.1)) J).map (·.1)).Nodup:=by rw[kz];exact List.Pairwise.map _ (λ x y h z=>h (Zw z)) nd
  refine⟨ad,ws,_,rfl,Same.seqT R.same sq,p1,O,λ l o Z=>?_⟩;have S:=Step.alloc (o:=.frz o (.dK (E_6 (kvs.map (·.1)) J))) R.same Z;refine q _ _ _ S.s0 (R.after S) ?_;exact⟨l,o,J,rfl,a_3,Reps.mono S.s0 _ p2,by rw[qy,qy]⟩
 ·cases e⟩
theorem bz9  (hu:X.A.units+1<cLine) (ho:XE X o F) (hi:XE X i G) (hs:bM5 i:=by exact λ _ _=>rfl):XE X (.Subscript o i pos) (e2 bi6 F G) :=
 PE.wk (aw1 hu ho hi hs) λ σ H Q Y=>by
  obtain⟨c,H0,ρ,d,aa,R,f,q⟩:=Y;obtain⟨x,Z,y,h1,h2,J⟩:=aS7 f;obtain⟨⟨ks,ds⟩,g1,J⟩:=a_0 J;obtain⟨k,g2,J⟩:=a_0 J;cases dctX_inv g1;cases strX_inv g2;refine⟨c,H0,ρ,_,Z,R,h1,λ vx H1 Hh s1 R1 r1=>⟨c,H1,Z,_,aa,R1,h2,λ vy H2 Hh2 s2 R2 r2=>?_⟩⟩;have O:=Rep.mono s2 _ r1;obtain⟨a,ob,vs,rfl,ea,t,l⟩:=O;subst r2;obtain⟨u,dg,_,hs⟩:=aC4 R2.same ea t l;obtain⟨v,rfl,rv⟩:=hs d J;exact⟨a,v,rfl,dg,q v H2 Hh2 (s1.trans s2) R2 rv⟩
end
theorem bq0 {K:Frag} (R:RS K c H1 Hh ρ σ) (hf:L_3 ρ js=some fr) (hc:cGo T F fr xs=some out) (hz:xs.length<=sizeLine) (hy:∀ (H0 H:Hp) (i:Nat),Same H1 H0->RS K c H0 H ρ σ->(∀ d,xs[i]?=some d->J.go i H/\∀ x H',J.yld i H x H'->H'=H/\Rep K H0 d x)/\(xs.length<=i->J.stop i H))
  (q:∀ ys H0 H,Same H1 H0->RS K c H0 H ρ σ->Reps K H0 out ys->Qf ys H):LcW js (tTt K T) (tE K F) σ Qf J Hh:=by
 refine⟨λ i m ys H=>m=xs.length-i/\i<=xs.length/\∃ H0,Same H1 H0/\RS K c H0 H ρ σ/\∃ pre rest,Reps K H0 pre ys/\pre.length<=i/\cGo T F fr (xs.drop i)=some rest/\pre++rest=out,⟨xs.length,by simp,yf _,H1,Same.refl _,R,[],out,Reps.nil_,yf _,by simpa using hc,rfl⟩,?_⟩;rintro i m ys H ⟨rfl,hi,H0,s0,R0,pre,rest,rp,lp,O,e⟩;obtain⟨y1,y2⟩:=hy H0 H i s0 R0;by_cases Z:i<xs.length
 ·have hd:xs[i]?=some xs[i]:=by simp[Z]
  obtain⟨go,yl⟩:=y1 _ hd;refine .inr ⟨go,by rw[<- rp.length];omega,λ x H' hx=>?_⟩;obtain⟨rfl,rx⟩:=yl x H' hx;rw[A_4 hd,am1] at O;obtain⟨⟨b,aa⟩,g1,O⟩:=a_0 O;refine⟨⟨H0,H',[]⟩,H0,_,b,aa,R0.block hf rx,g1,λ H2 Hh2 s2 R2=>?_⟩;cases b with
  |false =>
   rw[if_neg zo] at O ⊢;have S:=R2.step;exact⟨xs.length-(i+1),by omega,rfl,Z,H2,s0.trans S.s0,R0.after S,pre,rest,Reps.mono S.s0 _ rp,by omega,O,e⟩
  |true =>
   rw[if_pos rfl] at O ⊢;obtain⟨⟨z,ac⟩,g2,O⟩:=a_0 O;obtain⟨t,g3,O⟩:=a_0 O;have Y:=O;cases Y;refine⟨⟨H0,H',[]⟩,H2,aa,z,ac,R2,g2,λ v H3 Hh3 s3 R3 r3=>?_⟩;have S:=R3.step;refine⟨xs.length-(i+1),by omega,rfl,Z,H3,s0.trans S.s0,R0.after S,pre++[z],t,(Reps.mono S.s0 _ rp).app (Reps.one r3),?_,g3,?_⟩
   ·rw[zc,yn];omega
   ·rw[yt];exact e
 ·have ei:i=xs.length:=by omega
  have hn:xs.drop i=[]:=jp (by omega);rw[hn,aD9] at O;have Y:=qi O;subst Y;rw[zm] at e;subst e;exact .inl ⟨y2 (by omega),by rw[<- rp.length];omega,q ys H0 H s0 R0 rp⟩
theorem aw6  (h:aQ2 o=some ds):∃ b,o=some (.ow b (.lst ds)):=by
 unfold aQ2 at h;split at h
 ·cases h;exact⟨_,rfl⟩
 ·cases h
section
variable {X:Cx}
theorem br6  (h:tE X.K (be9 J F i) σ H Q):tE X.K F σ H λ Z H1=>∃ v,σ[i]?=some (some v)/\rIn X.K J Z v H1 Q:=by obtain⟨c,H0,ρ,d,aa,R,f,q⟩:=h;obtain⟨⟨x,O⟩,h1,f⟩:=a_0 f;obtain⟨ds,h2,f⟩:=a_0 f;obtain⟨ok,f⟩:=ifs f;cases f;refine⟨c,H0,ρ,x,O,R,h1,λ Z H1 Hh s1 Y r1=>?_⟩;obtain⟨bb,h2⟩:=aw6 h2;obtain⟨p,e1,_,_,vs,e4,t⟩:=Y.ow i bb _ h2;unfold Z_9 at ok;rw[zn] at ok;obtain⟨i1,i2⟩:=ak1 ok.1 r1 ok.2 t;exact⟨_,e1,p,vs,rfl,.inl (.inl (.inl e4)),(E_3 ok.1 r1).1,i1,by rw[i2];exact q _ H1 Hh s1 Y (o_5 _ _)⟩
theorem bj1 (i:Nat) (Z:XE X a F) (O:X.N[i]?=some y:=by rfl) (Y:Vis X.env.scope y:=by first | exact Or.inl rfl | exact Or.inr (Or.inl rfl) | exact Or.inr (Or.inr rfl)) (hd:(y==("__debug__":Str))=false:=by decide) (q:(y==("__classdict__":Str))=false:=by decide)
  (J:behindInMarks .NotIn (.Name y py)=false:=by first | exact ax3 _ | with_unfolding_all rfl):XT X (.Compare a [.NotIn] [.Name y py] pos) (tB (be9 true F i)) :=
 PT.wk (au7 V_4 Z (i_4 O Y hd q) J) λ σ H Q h=>aV6 (λ Q h=>br6 h) h
end
theorem F_6  (h:ao2 o=some q):o=some (.ow q.1 (.lst q.2)):=by
 unfold ao2 at h;split at h
 ·cases h;rfl
 ·cases h
theorem inQ_eq  (h:inQ d=some k):d=.int k:=by
 unfold inQ at h;split at h
 ·cases h;rfl
 ·cases h
theorem aX4 {K:Frag} (t:Reps K H ds vs) (h:ixQ ds k=some d):∃ v,atI vs k=some v/\Rep K H d v:=by
 unfold ixQ at h;split at h
 ·rename_i q;obtain⟨v,e,r⟩:=t.get h;refine⟨v,?_,r⟩;have J:=(List.getElem?_eq_some_iff.mp e).1;have e2:ixN vs.length k=some k.toNat:=by unfold ixN;simp only[q,Yw];rw[if_pos (by omega)]
  unfold atI;rw[e2];exact e
 ·cases h
section
theorem bz4 (i:Nat)  (Y:X.mg "len"=none) (Z:X.N[i]?=some x:=by rfl) (hv:Vis X.env.scope x:=by first | exact Or.inl rfl | exact Or.inr (Or.inl rfl) | exact Or.inr (Or.inr rfl)) (hd:(x==("__debug__":Str))=false:=by decide)
  (O:(x==("__classdict__":Str))=false:=by decide) (hg:Gl X "len":=by rfl):XE X (.Call (.Name "len" p) [.Name x p2] [] pos) (aL6 i) :=
 PE.wk (n_6 call_len_seq hg Y PySem.boot_len (c_5 (i_4 Z hv hd O) l_0)) λ σ H Q J=>by
  obtain⟨c,H0,ρ,d,aa,R,f,q⟩:=J;obtain⟨⟨b,xs⟩,h1,f⟩:=a_0 f;cases f;obtain⟨a,e1,_,_,vs,e4,t⟩:=R.ow i b _ (F_6 h1);exact⟨_,e1,a,vs,rfl,.inl (.inl (.inl e4)),by rw[<- t.length];exact q _ H0 H (Same.refl _) R (f_7 _ _)⟩
theorem bW2 (i:Nat)  (he:XE X e F) (hs:T_1 e:=by intro _ _;rfl) (hN:X.N[i]?=some x:=by rfl) (hv:Vis X.env.scope x:=by first | exact Or.inl rfl | exact Or.inr (Or.inl rfl) | exact Or.inr (Or.inr rfl)) (hd:(x==("__debug__":Str))=false:=by decide)
  (O:(x==("__classdict__":Str))=false:=by decide):XE X (.Subscript (.Name x p) e pos) (by9 i F) :=
 PE.wk (ab2 ix_list (i_4 hN hv hd O) he hs) λ σ H Q J=>by
  obtain⟨c,H0,ρ,d,ac,R,f,q⟩:=J;obtain⟨⟨b0,aa⟩,h0,f⟩:=a_0 f;obtain⟨⟨dk,ad⟩,h1,f⟩:=a_0 f;obtain⟨k,h2,f⟩:=a_0 f;obtain⟨⟨b,xs⟩,h3,f⟩:=a_0 f;obtain⟨d',h4,f⟩:=a_0 f;cases inQ_eq h2;cases f;obtain⟨a0,e1,_⟩:=R.ow i b0 _ (F_6 h0);refine⟨_,e1,c,H0,ρ,_,_,R,h1,λ v H1 Hh s1 Z r1=>?_⟩;subst r1;obtain⟨a,Y,_,_,vs,x4,t⟩:=Z.ow i b _ (F_6 h3);rw[e1] at Y;cases Y;obtain⟨w,w1,w2⟩:=aX4 t h4;exact⟨a0,vs,k,w,rfl,rfl,.inl (.inl x4),w1,q w H1 Hh s1 Z w2⟩
theorem N_4 {K:Frag} (r:Rep K H d v):∀ {ds:List D}{vs:List V} (n:Nat),Reps K H ds vs->Reps K H (ds.set n d) (vs.set n v)
 |[],vs,n,t=>by
  have:=t.length;cases vs with
  |nil=>exact t
  |cons=>cases this
 |x::ds,vs,n,t=>by
  obtain⟨u,J,rfl,q,t2⟩:=t;cases n with
  |zero=>exact Reps.cons r t2
  |succ n=>exact Reps.cons q (N_4 r n t2)
theorem bV8 (i:Nat)  (ha:XE X a I) (he:XE X e F) (hN:X.N[i]?=some x:=by rfl) (hv:Vis X.env.scope x:=by first | exact Or.inl rfl | exact Or.inr (Or.inl rfl) | exact Or.inr (Or.inr rfl)) (hd:(x==("__debug__":Str))=false:=by decide)
  (ac:(x==("__classdict__":Str))=false:=by decide) (hs:swapsWithSole [.Subscript (.Name x p) a J] e pos.line X.env=pure false:=by rfl) (hw:swappedStores [.Subscript (.Name x p) a J] e X.env=pure none:=by rfl)
  (h1:(assignEach [.Subscript (.Name x p) a J] X.env).map (·.2)=[assign (.Subscript (.Name x p) a J) X.env]:=by rfl)
  (hq:∀ v,assign (.Subscript (.Name x p) a J) X.env v=(do
   let ov <- holding [v] (eval (.Name x p) X.env)
   let iv <- holding [v,ov] (eval a X.env)
   standAt J
   holding [v,ov,iv] (setItem ov iv v)
   release [v,ov,iv] []):=by intro _;rfl) :
  XS X (.Assign [.Subscript (.Name x p) a J] e pos) (bx4 i I F) :=
 PS.wk (av2 he (aQ0 (i_4 hN hv hd ac) ha ag6 hq) hs hw h1) λ Dn σ H O=>by
  obtain⟨c,H0,ρ,r,R,f,q⟩:=O;obtain⟨⟨d,Z⟩,g1,f⟩:=a_0 f;obtain⟨⟨b0,ad⟩,g2,f⟩:=a_0 f;obtain⟨⟨dk,ae⟩,g3,f⟩:=a_0 f;obtain⟨k,g4,f⟩:=a_0 f;obtain⟨⟨b,xs⟩,g5,f⟩:=a_0 f;obtain⟨⟨aa,Y⟩,f⟩:=ifs f;cases f;cases inQ_eq g4;refine⟨c,H0,ρ,d,Z,R,g1,λ v H1 Hh s1 R1 r1=>?_⟩;obtain⟨a0,e1,_⟩:=R1.ow i b0 _ (F_6 g2);refine⟨_,e1,c,H1,Z,_,_,R1,g3,λ kv H2 Hh2 s2 R2 r2=>?_⟩;subst r2;have z:=F_6 g5;obtain⟨a,x1,_,_,vs,x4,t⟩:=R2.ow i b _ z;rw[e1] at x1;cases x1;have e2:ixN vs.length k=some k.toNat:=by unfold ixN;have Y:=Y;have:=t.length;simp only[show 0<=k from aa,Yw];rw[if_pos (by omega)]
  refine⟨a0,vs,k,k.toNat,rfl,rfl,x4,e2,q σ H2 _ (s1.trans s2) (R2.mutOwn z e1 ⟨_,a_3,N_4 (Rep.mono s2 _ r1) _ t⟩)⟩
end
section
theorem bV9 {lo hi:Option Expr} (he:XE X e F) (hl:XO X lo A) (hh:XO X hi B):XO' X (.Subscript e (.Slice lo hi none p2) pos) (oFr (L_4 F A B)):=PE.wk (ah8 ((sl_list.or aP2).or aP3) he hl hh) λ σ H Q J=>by
 obtain⟨c,H0,ρ,d,ad,R,f,q⟩:=J;obtain⟨⟨dd,aa⟩,f,f2⟩:=a_0 f;obtain⟨⟨x,Z⟩,h1,f⟩:=a_0 f;obtain⟨⟨l,O⟩,h2,f⟩:=a_0 f;obtain⟨⟨u,ac⟩,h3,f⟩:=a_0 f;obtain⟨d',Y,f⟩:=a_0 f;have f':=f;cases f';refine⟨c,H0,ρ,x,Z,R,h1,λ v H1 Hh s1 R1 r1=>?_⟩;refine⟨c,H1,Z,l,O,R1,h2,λ H2 Hh2 s2 R2=>?_⟩;refine⟨c,H2,O,u,_,R2,h3,λ H3 Hh3 s3 R3=>?_⟩;have r3:=Rep.mono s3 x (Rep.mono s2 x r1);cases x with
 |lst ds =>
  have e:=qi Y;subst e;cases f2;obtain⟨p,vs,rfl,s,t⟩:=r3;exact .inl (.inl ⟨p,vs,rfl,Same.seq R3.same s,λ p' hp=>q p' _ H3 Hh3 (s1.trans (s2.trans s3)) R3 hp (aC8 t l u)⟩)
 |tup ds =>
  have h5:(if T_3 ds.length 0 l=0/\T_3 ds.length ds.length u=ds.length then none else some (D.tup (R_4 ds l u)))=some dd:=Y;split at h5
  ·cases h5
  ·cases h5;cases f2
 |str z =>
  obtain⟨hz,rfl⟩:=ifs Y;cases f2
 |_=>cases Y
end
def bM6 (K:Frag) (q H:Hp) (a:Addr) (z:List D×MO) (l:Addr) (Hi' H':Hp):Prop :=
 Same q Hi'/\Same Hi' H'/\(∀ b u,H b=some u->b≠a->H' b=some u)/\(∀ b u,Hi' b=some u->q b=some u\/H b=none)/\OwOk K Hi' H' a z.2/\H l=none/\Hi' l=none/\OwOk K Hi' H' l (.lst z.1)
def bN6 (K:Frag) (g:MO->List D->Option (List D×MO)):Sp:=λ vs H Q _=>∃ q a o J ds z,vs=.ref a::J/\Same q H/\q a=none/\OwOk K q H a o/\Reps K q ds J/\g o ds=some z/\∀ l Hi' H',bM6 K q H a z l Hi' H'->Q (.ref l) H'
structure DefBN (P:Program) (w:World) (K:Frag) (mg:Str->Option Value) (base:Heap) (k:Nat) (x:Str) (g:MO->List D->Option (List D×MO)):Prop where
 ex:∃ f fd ps,FnOk P w K mg base CX0 k f fd ps (bN6 K g)/\Binds K fd ps []/\keepIn K (.ref f)=true/\mg x=some (.ref f)
theorem RS.gotB {K:Frag} (R:RS K c H0 H ρ σ) (j:Nat) (hi:ρ[i]?=some (.ow b o)) (ha:σ[i]?=some (some (.ref a))) (h:bM6 K H0 H a z l H0' H') :
  RS K c H0' H' ((ρ.set i (.ow b z.2)).set j (.ow false (.lst z.1))) (σ.set j (some (.ref l))):=by
 obtain⟨s0,s',kp,fr,ok,hl,aa,O⟩:=h;obtain⟨a',x1,_,_,w⟩:=R.ow i b o hi;rw[ha] at x1;cases x1;obtain⟨ua,Y⟩:=w.some;have Z:a≠l:=λ q=>by rw[q,hl] at Y;cases Y
 obtain⟨u,hu⟩:=O.some;have R2:=R.lent hi ha s0 (λ x v e=>by
  have:x≠l:=λ q=>by rw[q,aa] at e;cases e
  show (if x=l then none else H' x)=some v;rw[if_neg this];exact s' x v e) (λ x v e n=>by
  have:x≠l:=λ q=>by rw[q,hl] at e;cases e
  rw[if_neg this];exact kp x v e n) fr (ok.step (Same.refl _) λ v q=>by
   rw[if_neg Z];exact q)
 have J:upd (λ x=>if x=l then none else H' x) l u=H':=by
  funext x;by_cases hb:x=l
  ·rw[hb,a_3,hu]
  ·rw[b_2 hb];exact if_neg hb
 have:=R2.setOwn j (if_pos rfl) (by rw[J];exact O);rw[J] at this;exact this
section
theorem bz3 (j i:Nat)  (hN:X.N.Nodup) (G:DefBN X.prog X.w X.K X.mg X.base k x g) (hr:Room k X.A) (ha:XA X es A) (hj:X.N[j]?=some z:=by rfl) (hi:X.N[i]?=some y:=by rfl)
  (hx:Loc X.env.scope z:=by first | exact Or.inl rfl | exact Or.inr rfl) (hs:swapsWith (.Call (.Name x p) (.Name y py::es) [] cpos) (some (.Name z pos')) pos.line X.env=pure false:=by rfl) (hf:X.fn z=true\/X.env.scope.names.lookup z=some .local:=by first | exact .inl rfl | exact .inr rfl)
  (hg:Gl X x:=by rfl) (hv:Vis X.env.scope y:=by first | exact Or.inl rfl | exact Or.inr (Or.inl rfl) | exact Or.inr (Or.inr rfl)) (Y:(x==("__debug__":Str))=false:=by decide) (hd:(y==("__debug__":Str))=false:=by decide) (ac:(y==("__classdict__":Str))=false:=by decide)
  (aa:(backTo cpos (starEach es X.env)).any (·.1)=false:=by rfl):XS X (.Assign [.Name z pos'] (.Call (.Name x p) (.Name y py::es) [] cpos) pos) (sNB j i g A):=by
 obtain⟨f,fd,ps,F,hb,hk,hm⟩:=G.ex;refine PS.wk (x_7 hN hj hx (N_7 F hr hg hm hk hb .nil aI6 (c_5 (i_4 hi hv hd ac) ha rfl) Y rfl aa) hs hf) λ Dn σ H J=>?_;obtain⟨c,H0,ρ,r,R,f,q⟩:=J;obtain⟨⟨b0,o0⟩,h0,f⟩:=a_0 f;obtain⟨⟨ds,ad⟩,h1,f⟩:=a_0 f;obtain⟨⟨b,o⟩,h2,f⟩:=a_0 f;obtain⟨w,h3,f⟩:=a_0 f;cases f;obtain⟨a,e1,_⟩:=R.ow i b0 o0 (B_4 h0);refine⟨_,e1,c,H0,ρ,ds,ad,R,h1,λ vs H1 Hh s1 R1 r1=>?_⟩;have y2:=B_4 h2;obtain⟨a',O,Z,ae,w'⟩:=R1.ow i b o y2;rw[e1] at O;cases O;exact⟨H1,a,o,vs,ds,w,by rw[zm],R1.same,Z,w',r1,h3,λ l Hi' H' nw=>q _ Hi' H' (s1.trans nw.1) (R1.gotB j y2 e1 nw)⟩
def tBN (K:Frag) (F:En->Option (List D×MO)):TS:=λ O σ H=>∃ J q a H0 ρ z,RS K ⟨J,q,[a]⟩ H0 H ρ σ/\F ρ=some z/\∀ l H0' H',bM6 K J q a z l H0' H'->O.rt (.ref l) H'
def XBN (X:Cx) (sts:List Stmt) (F:En->Option (List D×MO)):Prop:=PSs X sts (tBN X.K F)
theorem bj6 {st:Stmt}{rest:List Stmt} (h1:XS X st B) (h2:XBN X rest N):XBN X (st::rest) (Y_6 B N) :=
 PSs.wk (k_9 h1 h2) λ Dn σ H O=>by
  obtain⟨Z,Y,a,H0,ρ,z,R,f,q⟩:=O;obtain⟨r,h,f⟩:=a_0 f;refine⟨⟨Z,Y,[a]⟩,H0,ρ,r,R,h,?_⟩;cases r with
  |nx J=>exact λ aa H0' H' s R'=>⟨Z,Y,a,H0',J,z,R',f,q⟩
  |rt d J=>cases f
  |bk J=>cases f
  |ct J=>cases f
theorem bW4 (j:Nat)  (hN:X.N[j]?=some x:=by rfl) (hv:Vis X.env.scope x:=by first | exact Or.inl rfl | exact Or.inr (Or.inl rfl) | exact Or.inr (Or.inr rfl)) (hd:(x==("__debug__":Str))=false:=by decide)
  (Y:(x==("__classdict__":Str))=false:=by decide):XBN X [.Return (some (.Name x p)) O] (aN7 j) :=
 PSs.wk (s_8 (au9 (i_4 hN hv hd Y))) λ Dn σ H J=>by
  obtain⟨Hi,He,a,H0,ρ,z,R,f,q⟩:=J;obtain⟨xs,h1,f⟩:=a_0 f;obtain⟨⟨b,o⟩,h2,f⟩:=a_0 f;obtain⟨hb,f⟩:=ifs f;cases f;have hb:=hb;subst hb;obtain⟨l,e1,e2,e3,Z⟩:=R.ow j false _ (x_9 h1);obtain⟨a',_,_,y3,ok⟩:=R.ow 0 true o (B_4 h2);rw[if_pos rfl] at y3;have za:a'=a:=by simpa using y3
  subst za;exact⟨_,e1,q l H0 H ⟨R.init,R.same,λ b u h n=>R.keep b u h (by simpa using n),R.fresh,ok,e3,e2,Z⟩⟩
end
theorem bd2 {K:Frag}{st:Stmt} (F:Fun K x qual st f fd) (S:FnScope N ps (a_2 st)) (hn:ps.length=n+1) (hN:N.length=n+1+m)
  (hb:∀ (J:Value) (A:Around) (outer:List Env) (s:Shared) (H:Hp) (E:XK),Room k (A.deeper (envOfC qual (a_2 st) s.heap.objs.size f J))->XBN (R_5 CX0 P w K mg base N qual (a_2 st) f J A outer s H E).nox (k_2 st) B) :
  FnOk P w K mg base CX0 (k+1) f fd ps (bN6 K (bs8 n m B)):=by
 have O:∀ {o:MO}{ds:List D}{z:List D×MO},bs8 n m B o ds=some z->ds.length=n/\B (.ow true o::(ds.map .im++List.replicate m .no))=some z:=λ {o ds z} h=>by
  unfold bs8 at h;split at h
  ·exact⟨by assumption,h⟩
  ·cases h
 refine F.ok S (λ vs H Q E h=>?_) (λ J A outer s H vs Q E hr h=>?_)
 ·obtain⟨Y,a,o,vr,ds,z,rfl,_,_,_,r,e,_⟩:=h;rw[hn,zg,<- r.length,(O e).1]
 ·obtain⟨Y,a,o,vr,ds,z,rfl,hs,h0,ok,r,e,q⟩:=h;obtain⟨hl,h1⟩:=O e;have Z:=r.length;have R:=RS.startB (n:=N.length) (m:=m) hs h0 ok r (by omega);exact⟨_,hb J A outer s H E hr,Y,H,a,Y,_,z,R,h1,q⟩
end Fx
namespace Fx
open PySem PySem.W PySem.Spec PyProof.Rows L2
abbrev as3 (X:Cx) (a:Addr) (o:Obj):Cx:=q_9 (ad4 X a λ _ _=>False) a o
section
variable {X:Cx}{k:Nat}{x:Str}{g:List D->Option (D ⊕ XV)}{e0:Expr}{es:List Expr}{A:FA}{p pos:Pos}
theorem aB4 (hf:∀ e s,X.xe e s → False) (G:DefX X.prog X.w X.K X.mg X.base k x g) (hr:Room k X.A) (ha:XA X (e0::es) A) (hg:Gl X x) (aa:(x==("__debug__":Str))=false)
  (he:starEach (e0::es) X.env=(false,eval e0 X.env)::starEach es X.env) (ad:(backTo pos (starEach es X.env)).any (·.1)=false)
   (I:Inv X pins σ H s) (R:RS X.K c H0 H ρ σ) (h1:A ρ=some (ds,q)) (h2:g ds=some r) :
  wpAny (model X.prog X.w) X.A (eval (.Call (.Name x p) (e0::es) [] pos) X.env) (λ u s'=>∃ d v H0' H',r=.inl d/\RelV v u/\Inv X pins σ H' s'/\Same H0 H0'/\RS X.K c H0' H' q σ/\Rep X.K H0' d v) (λ e s'=>∃ y,r=.inr y/\bV7 X pins σ c H0 q y e s') s:=by
 obtain⟨f,fd,ps,Fk,hb,hk,hm⟩:=G.ex;refine Zs (A_2 I hg hm ?_ aa);refine callWith_K I.ok.mod.kin hk (yg (ha pos pins s σ H (λ vs H'=>∃ H0',Same H0 H0'/\RS X.K c H0' H' q σ/\Reps X.K H0' ds vs) I ⟨c,H0,ρ,ds,q,R,h1,λ vs H0' H' a b d=>⟨H0',a,b,d⟩⟩) (λ us s1 h=>?_) λ e s1 z=>(hf e s1 z).elim) he ad;obtain⟨vs,H1,J,rv,H0',sm,R1,rp⟩:=h;refine⟨J.kIn,?_⟩;have sp:spX X.K X.mg g vs H1 (λ v H'=>∃ d H0'',r=.inl d/\Same H0 H0''/\RS X.K c H0'' H' q σ/\Rep X.K H0'' d v) (λ cl dd H'=>∃ y C H0'',r=.inr y/\X.mg y.1=some (.ref C)/\cl=.ref C/\Same H0 H0''/\RS X.K c H0'' H' q σ/\XD X.K H0'' H' y.2 dd):=by
  refine⟨H0',ds,r,R1.same,rp,h2,?_⟩;cases r with
  |inl d=>exact λ v Hi' H' S rv=>⟨d,Hi',rfl,sm.trans S.s0,R1.after S,rv⟩
  |inr y=>exact λ C dd Hi' H' m S xd=>⟨y,C,Hi',rfl,m,rfl,sm.trans S.s0,R1.after S,xd⟩
 have hl:us.length=ps.length:=by rw[<- rv.length];exact Fk.len _ _ _ _ sp
 have Y:=hb s1 us J.kIn (by rw[zm];exact hl);rw[zm] at Y;refine Zg (Qu (Fk.run X.A X.stack s1 H1 ⟨us,[]⟩ us vs _ _ hr J.env0 Y rv sp) λ z s' Z=>?_);cases z with
 |error e =>
  obtain⟨a,T,C,dd,H',rfl,os,gs,un,ok,na,nT,fa,fT,fl,y,C',H0'',hy,m,z,O,R',xd⟩:=Z;cases z;obtain⟨hh,gg,d,t,ac⟩:=s';obtain rfl:ac=s1.os:=os;have I2:=J.call (d':=d) (t':=t) un ok gs (λ b z=>absurd z (by simp));exact⟨y,hy,C,a,T,dd,H0'',H',m,rfl,I2,O,R',ax4 J na fa,ax4 J nT fT,fl,xd⟩
 |ok fl =>
  cases fl with
  |ret u =>
   obtain⟨v,H',I2,ae,d,H0'',e,O,R',rd⟩:=J.after Z;exact⟨d,v,H0'',H',e,ae,I2,O,R',rd⟩
  |next=>exact False.elim Z
  |brk=>exact False.elim Z
  |cont=>exact False.elim Z
def T_0 (X:Cx) (ik:Nat) (q:List Stmt) (Nx:L2.St->Hp->Prop) (σ:L2.St) (C:Addr) (dd:Option Addr) (H:Hp):Prop :=
 ∀ a vs,∃ t,PSs (as3 X a (rcd (.ref C) vs dd)) q t/\t {nx:=λ J H'=>Nx (J.set ik none) H',rt:=λ _ _=>False} (σ.set ik (some (.ref a))) H
theorem L_7 
  (J:X.stack=X.env::X.outer) (aj:X.env.frame=some X.env.locals) (hN:X.N.Nodup) (ad:X.N[ik]?=some xk) (lk:X.env.scope.names.lookup xk=some .local)
  (hg:Gl X wn) (hW:X.mg wn=some (.ref W)) (ai:(wn==("__debug__":Str))=false) (aq:(xk==("__debug__":Str))=false) (ar:(xk==("__classdict__":Str))=false) (am:∀ C,X.mg y.1=some (.ref C) → exmOne X.K (.ref C) (.ref W)=some true)
  (q:∀ C dd H0' H',X.mg y.1=some (.ref C)->Same H0 H0'->RS X.K c H0' H' Z σ->XD X.K H0' H' y.2 dd->T_0 X ik (b0::sr) Dn.nx σ C dd H') (h:bV7 X pins σ c H0 Z y e s) :
  wpAny (model X.prog X.w) X.A (noteFrame e X.env) (λ _ ac=>wpAny (model X.prog X.w) X.A (setFlight e none) (λ _ af =>
   wpAny (model X.prog X.w) X.A (handleBy e X.env [.ExceptHandler (some (.Name wn p1)) (some xk) (b0::sr) p5]) (SP X pins Dn) X.xe af) X.xe ac) X.xe s:=by
 obtain⟨C,a,T,dd,H0',H',m,rfl,O,sm,R,ya,yT,fl,xd⟩:=h;have fr:=O.ok.frames;rw[J] at fr;have st:=O.stack;rw[J] at st;refine G_4 fr st aj fl λ h2 T2 Y z2 ao=>?_;rw[<- J] at Y;have I2:=L_1 (t':=s.toks) O Y (by simpa using ⟨ya,yT⟩);have d2:=y9 z2;have y2:=ax4 O d2 (z_1 O.hok d2);refine P_8 ao λ h3 ak ae=>?_;have I3:=L_1 (t':=s.toks) (es:=[T2]) I2 (Aw.of λ b o n z=>(ak.2 b (by simpa using n)).trans z) (by simpa using y2);refine wpAny_handleBy_cons (codeAny_handlers_test (A_2 (ak0 (E:=X.xe) I3 a) hg hW ?_ ai)) (by intro z;cases z);have L0:Looks (model X.prog X.w) h3 (typeOf (.ref a)) (.ref C):=by obtain⟨_,⟨vs,q1,_⟩,_⟩:=ae;exact (Looks.ld q1).andThen .now
 refine (exm_one I3.kIn L0 (am C m)).at ?_;refine codeAny_handlers_suite_as (P_8 ae λ h4 al an=>?_);have I4:=L_1 (t':=s.toks) (es:=[T2]) I3 (Aw.of λ b o n z=>(al.2 b (by simpa using n)).trans z) (by simpa using y2);obtain⟨_,⟨vs,q4,_⟩,_⟩:=id an;have nf:=λ z=>ai5 I4.funs q4 z;have I5:=bh1 I4 q4 ya.1 ya.2.1 nf (λ v z=>nomatch z);refine D_8 (v:=.ref a) I5 hN ad (.inl lk) rfl (λ s5 I6=>?_) (.inr lk);obtain⟨t,ht,hq⟩:=q C dd H0' H' m sm R xd a vs;refine yg (ht pins s5 _ H' _ (bA7 (ak0 I6 a)) hq) (λ f s6 h6=>?_) λ _ _ z=>z.elim;cases f with
 |brk=>obtain⟨_,_,_,z⟩:=h6;exact z.elim
 |cont=>obtain⟨_,_,_,z⟩:=h6;exact z.elim
 |ret u=>obtain⟨_,_,_,_,_,z⟩:=h6;exact z.elim
 |next =>
  obtain⟨as,H6,I7,ah⟩:=h6;have I8:=aF9 O.ok (bp2 I7);obtain⟨m8,aa,_⟩:=id I8.loc;refine wpAny_nameGoes_keeps lk aa (by rw[I8.ok.kind];rfl) λ h9 v ap ag=>?_;exact⟨_,H6,aK2 I8 hN ad aa ap ag,ah⟩
theorem aX9 {OK:Str->Prop}{J xk:Str}{W:Addr}{ik:Nat}{b0:Stmt}{sr orelse:List Stmt}{tN:TS}{p1 p5 p6 p7:Pos} (hf:∀ e s,X.xe e s->False) (G:DefX X.prog X.w X.K X.mg X.base k x g) (hr:Room k X.A) (ha:XA X (e0::es) A)
  (ad:X.stack=X.env::X.outer) (ag:X.env.frame=some X.env.locals) (hN:X.N.Nodup) (ae:X.N[ik]?=some xk) (lk:X.env.scope.names.lookup xk=some .local)
  (Z:Gl X J) (hW:X.mg J=some (.ref W)) (ac:∀ y C,X.mg y=some (.ref C)->OK y->exmOne X.K (.ref C) (.ref W)=some true) (hs:PSs X orelse tN)
  (O:swapsWith (.Call (.Name x p) (e0::es) [] pos) none p6.line X.env=pure false:=by rfl)
  (ai:(J==("__debug__":Str))=false:=by decide) (af:(xk==("__debug__":Str))=false:=by decide) (aa:(xk==("__classdict__":Str))=false:=by decide) (hg:Gl X x:=by rfl) (Y:(x==("__debug__":Str))=false:=by decide)
  (he:starEach (e0::es) X.env=(false,eval e0 X.env)::starEach es X.env:=by rfl) (ah:(backTo pos (starEach es X.env)).any (·.1)=false:=by rfl) :
  PS X (.Try [.Expr (.Call (.Name x p) (e0::es) [] pos) p6] [.ExceptHandler (some (.Name J p1)) (some xk) (b0::sr) p5] orelse [] p7)
   (λ Dn σ H=>∃ c H0 ρ ds ρ' r,RS X.K c H0 H ρ σ/\A ρ=some (ds,ρ')/\g ds=some r/\match r with
    |.inl _=>∀ H0' H',Same H0 H0'->RS X.K c H0' H' ρ' σ->tN Dn σ H'
    |.inr y=>OK y.1/\∀ C dd H0' H',X.mg y.1=some (.ref C)->Same H0 H0'->RS X.K c H0' H' ρ' σ->XD X.K H0' H' y.2 dd->T_0 X ik (b0::sr) Dn.nx σ C dd H'):=by
 intro pins s σ H Dn I z;obtain⟨c,H0,ρ,ds,ρ',r,R,h1,h2,q⟩:=z;refine wpAny_Try_except (Z5 (wpAny_Expr_any (yg (aB4 hf G hr ha hg Y he ah I R h1 h2) (λ v s1 z=>?_) λ e s1 z=>?_) I.quiet O))
 ·obtain⟨d,_,H0',H',rfl,_,I1,sm,R1,_⟩:=z;exact Qj (hs pins s1 σ H' Dn I1 (q H0' H' sm R1))
 ·obtain⟨y,rfl,z⟩:=z;exact L_7 ad ag hN ae lk Z hW ai af aa (λ C m=>ac y.1 C m q.1) q.2 z
theorem aY0 {OK:Str->Prop}{J xk O:Str}{W:Addr}{ik iy:Nat}{b0:Stmt}{sr:List Stmt}{p1 p2 p5 p6 p7:Pos} (hf:∀ e s,X.xe e s->False) (G:DefX X.prog X.w X.K X.mg X.base k x g) (hr:Room k X.A) (ha:XA X (e0::es) A)
  (ae:X.stack=X.env::X.outer) (ai:X.env.frame=some X.env.locals) (hN:X.N.Nodup) (af:X.N[ik]?=some xk) (lk:X.env.scope.names.lookup xk=some .local) (ah:X.N[iy]?=some O) (ly:X.env.scope.names.lookup O=some .local)
  (aa:Gl X J) (hW:X.mg J=some (.ref W)) (ad:∀ y C,X.mg y=some (.ref C)->OK y->exmOne X.K (.ref C) (.ref W)=some true)
  (Y:swapsWith (.Call (.Name x p) (e0::es) [] pos) (some (.Name O p2)) p6.line X.env=pure false:=by rfl)
  (ak:(J==("__debug__":Str))=false:=by decide) (ag:(xk==("__debug__":Str))=false:=by decide) (ac:(xk==("__classdict__":Str))=false:=by decide) (hg:Gl X x:=by rfl) (Z:(x==("__debug__":Str))=false:=by decide)
  (he:starEach (e0::es) X.env=(false,eval e0 X.env)::starEach es X.env:=by rfl) (aj:(backTo pos (starEach es X.env)).any (·.1)=false:=by rfl) :
  PS X (.Try [.Assign [.Name O p2] (.Call (.Name x p) (e0::es) [] pos) p6] [.ExceptHandler (some (.Name J p1)) (some xk) (b0::sr) p5] [] [] p7)
   (λ Dn σ H=>∃ c H0 ρ ds ρ' r,RS X.K c H0 H ρ σ/\A ρ=some (ds,ρ')/\g ds=some r/\match r with
    |.inl d=>∀ v H0' H',Same H0 H0'->RS X.K c H0' H' ρ' σ->Rep X.K H0' d v->Dn.nx (σ.set iy (some v)) H'
    |.inr y=>OK y.1/\∀ C dd H0' H',X.mg y.1=some (.ref C)->Same H0 H0'->RS X.K c H0' H' ρ' σ->XD X.K H0' H' y.2 dd->T_0 X ik (b0::sr) Dn.nx σ C dd H'):=by
 intro pins s σ H Dn I z;obtain⟨c,H0,ρ,ds,ρ',r,R,h1,h2,q⟩:=z;refine wpAny_Try_except (Z5 (wpAny_Assign_Name (yg (aB4 hf G hr ha hg Z he aj I R h1 h2) (λ u s1 z=>?_) λ e s1 z=>?_) Y))
 ·obtain⟨d,v,H0',H',rfl,rv,I1,sm,R1,rd⟩:=z;exact D_8 I1 hN ah (.inl ly) rv (λ s2 I2=>Qj (Qj ⟨_,H',I2,q v H0' H' sm R1 rd⟩)) (.inr ly)
 ·obtain⟨y,rfl,z⟩:=z;exact L_7 ae ai hN af lk aa hW ak ag ac (λ C m=>ad y.1 C m q.1) q.2 z
end
theorem aJ5  (h:bb4 ds k=some q):∃ w n r J m r0,0 ≤ k ∧ ds[k.toNat]?=some (.tup (w::n::r)) ∧ ds[0]?=some (.tup (J::m::r0)) ∧ q=(.tup (w::n::r),ds.set k.toNat (.tup [.str "later",n,.tup [m],.tup [.int 1]])):=by
 unfold bb4 at h;split at h
 ·rename_i O;split at h
  ·rename_i w n r J m r0 e1 e2;cases h;exact⟨w,n,r,J,m,r0,O,e1,e2,rfl⟩
  ·cases h
 ·cases h
theorem RS.junk {K:Frag} (R:RS K c H0 H ρ σ)  (hi:by5 ρ[i]?=true) (v:Option V):RS K c H0 H ρ (σ.set i v):=by
 have q:∀ (j:Nat) (J:Sl),ρ[j]?=some J->J≠.no->j≠i:=λ j J e n z=>by
  subst z;rw[e] at hi;cases J with
  |no=>exact n rfl
  |im=>cases hi
  |ow=>cases hi
 refine⟨R.same,R.init,R.fresh,R.keep,R.apt,by rw[zy];exact R.len,λ j d e=>?_,λ j b o e=>?_,λ j k b O o o' a e1 e2 e3 e4=>?_⟩
 ·rw[zh (zv (q j _ e (λ z=>nomatch z)))];exact R.im j d e
 ·rw[zh (zv (q j _ e (λ z=>nomatch z)))];exact R.ow j b o e
 ·rw[zh (zv (q j _ e1 (λ z=>nomatch z)))] at e3;rw[zh (zv (q k _ e2 (λ z=>nomatch z)))] at e4;exact R.ne j k b O o o' a e1 e2 e3 e4
theorem atI_nat  (q:0<=k) (e:vs[k.toNat]?=some v):atI vs k=some v/\ixN vs.length k=some k.toNat:=by
 have J:=(List.getElem?_eq_some_iff.mp e).1;have e2:ixN vs.length k=some k.toNat:=by unfold ixN;simp only[q,Yw];rw[if_pos (by omega)]
 exact⟨by unfold atI;rw[e2];exact e,e2⟩
theorem v_2  (q:H p=none) (e:H b=some u):upd H p o b=some u:=by rw[b_2 (c_6 e q)];exact e
section
theorem as2 {Nx:L2.St → Hp → Prop} (k0:XC X.K c0) (s1:XS1 X.K c0 "at") (hN:X.N.Nodup) (hi:X.N[i]?=some y) (an:X.N[ir]?=some xr) (aj:X.N[ik]?=some xk)
  (n1:i≠ir) (n2:ik≠i) (n3:ik≠ir) (vy:X.env.scope.names.lookup y=some .local) (vr:X.env.scope.names.lookup xr=some .local) (vk:X.env.scope.names.lookup xk=some .local) (Y:(y==("__debug__":Str))=false) (ad:(y==("__classdict__":Str))=false) (au:(xr==("__debug__":Str))=false) (aq:(xr==("__classdict__":Str))=false) (ai:(xk==("__debug__":Str))=false) (am:(xk==("__classdict__":Str))=false)
  (ay:swapsWith (.Subscript (.Name y q2) (.Attribute (.Name xk q3) "at" q4) q5) (some (.Name xr q1)) q6.line X.env=pure false)
  (hs:swapsWithSole [.Subscript (.Name y q7) (.Attribute (.Name xk q8) "at" q9) q10] (.Tuple [.Constant (.str "later") j1 t1,.Subscript (.Name xr t2) (.Constant (.int 1) j2 t3) t4,.Tuple [.Subscript (.Subscript (.Name y t5) (.Constant (.int 0) j3 t6) t7) (.Constant (.int 1) j4 t8) t9] x1 ta,.Tuple [.Constant (.int 1) j5 tb] x2 tc] x3 td) te.line X.env=pure false)
  (hw:swappedStores [.Subscript (.Name y q7) (.Attribute (.Name xk q8) "at" q9) q10] (.Tuple [.Constant (.str "later") j1 t1,.Subscript (.Name xr t2) (.Constant (.int 1) j2 t3) t4,.Tuple [.Subscript (.Subscript (.Name y t5) (.Constant (.int 0) j3 t6) t7) (.Constant (.int 1) j4 t8) t9] x1 ta,.Tuple [.Constant (.int 1) j5 tb] x2 tc] x3 td) X.env=pure none)
  (R:RS X.K c H0 H ρ σ) (af:ρ[i]?=some (.ow false (.lst ds))) (aw:by5 ρ[ik]?=true) (ag:ir<ρ.length) (hx:H dx=some (.xd [("at",.int k)])) (hq:bb4 ds k=some q) (ap:ik<σ.length)
  (fin:∀ ah H0' H',Same H0 H0'->RS X.K c H0' H' ((ρ.set ir (.im q.1)).set i (.ow false (.lst q.2))) ah->Nx ah H') :
  T_0 X ik [.Assign [.Name xr q1] (.Subscript (.Name y q2) (.Attribute (.Name xk q3) "at" q4) q5) q6,
   .Assign [.Subscript (.Name y q7) (.Attribute (.Name xk q8) "at" q9) q10] (.Tuple [.Constant (.str "later") j1 t1,.Subscript (.Name xr t2) (.Constant (.int 1) j2 t3) t4,.Tuple [.Subscript (.Subscript (.Name y t5) (.Constant (.int 0) j3 t6) t7) (.Constant (.int 1) j4 t8) t9] x1 ta,.Tuple [.Constant (.int 1) j5 tb] x2 tc] x3 td) te] Nx σ c0 (some dx) H:=by
 obtain⟨w,n,r,w0,m,r0,h0,e1,e2,rfl⟩:=aJ5 hq;obtain⟨J,ea,a8,a2,vs,Z,t⟩:=R.ow i false _ af;obtain⟨a5,ek,rk⟩:=t.get e1;obtain⟨v0,ez,rz⟩:=t.get e2;have ar:=rk;obtain⟨O,ws,rfl,sk,tk⟩:=rk;obtain⟨az,us,rfl,sz,tz⟩:=rz;obtain⟨vw,wr,rfl,a1,al⟩:=tk;obtain⟨vn,a0,rfl,as,a3⟩:=al;obtain⟨uw,ur,rfl,a7,ao⟩:=tz;obtain⟨um,a4,rfl,av,a6⟩:=ao;intro a vx;refine⟨_,k_9 (x_7 hN an (.inl vr) (ab2 ix_list (i_4 hi (.inl vy) Y ad) (aZ3 k0 s1 (i_4 aj (.inl vk) ai am) rfl) (λ _ _=>rfl)) ay (.inr vr))
  (s_8 (av2 (ah7 (c_5 V_2 (c_5 (ab2 ix_tup (i_4 an (.inl vr) au aq) K_4 (λ _ _=>rfl)) (c_5 (ah7 (c_5 (ab2 ix_tup (ab2 ix_list (i_4 hi (.inl vy) Y ad) K_4 (λ _ _=>rfl)) K_4 (λ _ _=>rfl)) l_0)) (c_5 (ah7 (c_5 K_4 l_0)) l_0)))))
   (aQ0 (i_4 hi (.inl vy) Y ad) (aZ3 k0 s1 (i_4 aj (.inl vk) ai am) rfl) ag6) hs hw)),?_⟩
 have hl:=R.len;have ax:ir<(σ.set ik (some (V.ref a))).length:=by rw[zy,<- hl];exact ag
 have g1:(σ.set ik (some (V.ref a)))[i]?=some (some (.ref J)):=by rw[zh n2];exact ea
 have g2:(σ.set ik (some (V.ref a)))[ik]?=some (some (.ref a)):=zi ap;have g3:((σ.set ik (some (V.ref a))).set ir (some (.ref O)))[i]?=some (some (.ref J)):=by rw[zh (zv n1)];exact g1
 have g4:((σ.set ik (some (V.ref a))).set ir (some (.ref O)))[ik]?=some (some (.ref a)):=by rw[zh (zv n3)];exact g2
 have g5:((σ.set ik (some (V.ref a))).set ir (some (.ref O)))[ir]?=some (some (.ref O)):=zi ax;refine⟨.ref J,g1,.ref a,g2,rfl,k,hx,J,vs,k,.ref O,rfl,rfl,.inl (.inl Z),(atI_nat h0 ek).1,?_⟩;refine⟨.ref O,g5,O,_,1,vn,rfl,rfl,Same.seqT R.same sk,(atI_nat (by decide) rfl).1,?_⟩;refine⟨.ref J,g3,J,vs,0,.ref az,rfl,rfl,.inl (.inl Z),(atI_nat (by decide) ez).1,az,_,1,um,rfl,rfl,Same.seqT R.same sz,(atI_nat (by decide) rfl).1,(show 1<=sizeLine by decide),λ p1 ac=>⟨(show 1<=sizeLine by decide),λ p2 ae=>⟨(show 4<=sizeLine by decide),λ p3 aa=>?_⟩⟩⟩;have S1:=Step.alloc (o:=.tup [um]) R.same ac;have S2:=Step.alloc (o:=.tup [.int 1]) S1.s' ae;have S3:=Step.alloc (o:=.tup [.str "later",vn,.ref p1,.ref p2]) S2.s' aa;have S:=(S1.trans S2).trans S3;have R1:=R.after S;have k1:=atI_nat h0 ek;refine⟨.ref J,g3,.ref a,g4,rfl,k,v_2 aa (v_2 ae (v_2 ac hx)),J,vs,k,k.toNat,rfl,rfl,v_2 aa (v_2 ae (v_2 ac Z)),k1.2,?_⟩;have R2:=(R1.set ir (Rep.mono S.s0 _ ar));have R3:=R2.mutOwn (o':=.lst (ds.set k.toNat (.tup [.str "later",n,.tup [m],.tup [.int 1]]))) (by rw[zh (zv n1)];exact af) (by rw[zh (zv n1)];exact ea) ⟨_,a_3,N_4 (by
  refine⟨p3,_,rfl,.inl (.inl a_3),?_⟩;refine Reps.cons (F_5 _ _) (Reps.cons (Rep.mono S.s0 _ as) (Reps.cons ?_ (Reps.one ?_)))
  ·exact⟨p1,_,rfl,.inl (.inl (S3.s0 _ _ (S2.s0 _ _ a_3))),Reps.one (Rep.mono S.s0 _ av)⟩
  ·exact⟨p2,_,rfl,.inl (.inl (S3.s0 _ _ a_3)),Reps.one (f_7 _ _)⟩) _ (Reps.mono S.s0 _ t)⟩
 refine fin _ _ _ S.s0 ?_;have ej:((σ.set ik (some (V.ref a))).set ir (some (.ref O))).set ik none=(σ.set ir (some (.ref O))).set ik none:=by rw[List.set_comm _ _ n3,Yf]
 rw[ej];refine R3.junk ?_ none;rw[zh (zv n2),zh (zv n3)];exact aw
end
theorem bH7  [Decidable c]  (h:(if c then x else none)=some d):c/\x=some d:=by
 by_cases q:c
 ·rw[if_pos q] at h;exact⟨q,h⟩
 ·rw[if_neg q] at h;cases h
theorem aG6  (h:U_7 i ir ρ ds E (.inr y)=some r):∃ k q,y=(Str.ofString "NoWorks",some (Str.ofString "at",.int k)) ∧ bb4 ds k=some q ∧ r=.nx ((ρ.set ir (.im q.1)).set i (.ow false (.lst q.2))):=by
 unfold U_7 at h;split at h
 ·rename_i e;cases e
 ·rename_i x f k e;cases e;split at h
  ·rename_i J;obtain⟨rfl,rfl⟩:=J;obtain⟨q,h1,h2⟩:=a_0 h;cases h2;exact⟨k,q,rfl,h1,rfl⟩
  ·cases h
 ·cases h
section
variable {X:Cx}{xr xk y x:Str}{c0:Addr}{kk:Nat}{g:List D->Option (D ⊕ XV)}{E:FS}{orelse:List Stmt}
 {p py pos p1 p5 p6 p7 q1 q2 q3 q4 q5 q6 q7 q8 q9 q10 t1 t2 t3 t4 t5 t6 t7 t8 t9 ta tb tc td te tf:Pos}{j1 j2 j3 j4 j5 x1 x2 x3:Nat}
theorem bz2 (i ir ik:Nat) (hf:∀ e s,X.xe e s → False) (G:DefX X.prog X.w X.K X.mg X.base kk x g) (hr:Room kk X.A) (hE:XSs X orelse E) (hW:X.mg "NoWorks"=some (.ref c0)) (an:exmOne X.K (.ref c0) (.ref c0)=some true) (k0:XC X.K c0) (s1:XS1 X.K c0 "at")
  (aq:X.stack=X.env::X.outer) (ai:X.env.frame=some X.env.locals) (hN:X.N.Nodup) (ak:Gl X "NoWorks":=by rfl) (hi:X.N[i]?=some y:=by rfl) (ah:X.N[ir]?=some xr:=by rfl) (ad:X.N[ik]?=some xk:=by rfl)
  (n1:i≠ir:=by decide) (n2:ik≠i:=by decide) (n3:ik≠ir:=by decide) (vy:X.env.scope.names.lookup y=some .local:=by rfl) (vr:X.env.scope.names.lookup xr=some .local:=by rfl) (vk:X.env.scope.names.lookup xk=some .local:=by rfl)
  (aa:(y==("__debug__":Str))=false:=by decide) (ae:(y==("__classdict__":Str))=false:=by decide) (ap:(xr==("__debug__":Str))=false:=by decide) (af:(xr==("__classdict__":Str))=false:=by decide) (ac:(xk==("__debug__":Str))=false:=by decide) (Z:(xk==("__classdict__":Str))=false:=by decide)
  (al:swapsWith (.Subscript (.Name y q2) (.Attribute (.Name xk q3) "at" q4) q5) (some (.Name xr q1)) q6.line X.env=pure false:=by rfl)
  (hs:swapsWithSole [.Subscript (.Name y q7) (.Attribute (.Name xk q8) "at" q9) q10] (.Tuple [.Constant (.str "later") j1 t1,.Subscript (.Name xr t2) (.Constant (.int 1) j2 t3) t4,.Tuple [.Subscript (.Subscript (.Name y t5) (.Constant (.int 0) j3 t6) t7) (.Constant (.int 1) j4 t8) t9] x1 ta,.Tuple [.Constant (.int 1) j5 tb] x2 tc] x3 td) te.line X.env=pure false:=by rfl)
  (hw:swappedStores [.Subscript (.Name y q7) (.Attribute (.Name xk q8) "at" q9) q10] (.Tuple [.Constant (.str "later") j1 t1,.Subscript (.Name xr t2) (.Constant (.int 1) j2 t3) t4,.Tuple [.Subscript (.Subscript (.Name y t5) (.Constant (.int 0) j3 t6) t7) (.Constant (.int 1) j4 t8) t9] x1 ta,.Tuple [.Constant (.int 1) j5 tb] x2 tc] x3 td) X.env=pure none:=by rfl)
  (ao:swapsWith (.Call (.Name x p) [.Name y py] [] pos) none p6.line X.env=pure false:=by rfl) (hg:Gl X x:=by rfl) (ag:(x==("__debug__":Str))=false:=by decide) :
  XS X (.Try [.Expr (.Call (.Name x p) [.Name y py] [] pos) p6] [.ExceptHandler (some (.Name "NoWorks" p1)) (some xk) [.Assign [.Name xr q1] (.Subscript (.Name y q2) (.Attribute (.Name xk q3) "at" q4) q5) q6,
   .Assign [.Subscript (.Name y q7) (.Attribute (.Name xk q8) "at" q9) q10] (.Tuple [.Constant (.str "later") j1 t1,.Subscript (.Name xr t2) (.Constant (.int 1) j2 t3) t4,.Tuple [.Subscript (.Subscript (.Name y t5) (.Constant (.int 0) j3 t6) t7) (.Constant (.int 1) j4 t8) t9] x1 ta,.Tuple [.Constant (.int 1) j5 tb] x2 tc] x3 td) te] p5] orelse [] p7) (aW7 i ir ik g E):=by
 refine PS.wk (aX9 (OK:=λ y=>y="NoWorks") hf G hr (xaC (xv i hi (.inl vy) aa ae) xaN) aq ai hN ad vk ak hW (λ y C m hy=>?_) hE ao (by decide) ac Z hg ag) λ Dn σ H ⟨c,H0,ρ,r,R,f,q⟩=>?_
 ·subst hy;obtain rfl:c0=C:=Z0 (qi (hW.symm.trans m));exact an
 obtain⟨ds,h1,f⟩:=a_0 f;obtain⟨⟨one,O,rl⟩,f⟩:=bH7 f;obtain⟨z,h2,f⟩:=a_0 f;have J:=aZ5 h1;have il:=(List.getElem?_eq_some_iff.mp J).1;obtain⟨a,vs,ea,ya,he,_,r',_,R1⟩:=R.asList J;have hA:aC (eV i) aN (ρ.set i (.im (.lst ds)))=some ([.lst ds],ρ.set i (.im (.lst ds))):=by unfold aC eV;rw[zi il];rfl
 refine⟨c,_,_,_,_,z,R1,hA,h2,?_⟩;cases z with
 |inl d =>
  intro H0' H' sm R';obtain⟨s2,R2⟩:=R.backL J one ea ya he r' sm R';exact⟨c,_,ρ,r,R2,f,q.mono s2⟩
 |inr y =>
  obtain⟨k,w,rfl,hl,rfl⟩:=aG6 f;refine⟨rfl,λ C dd H0' H' m sm R' xd=>?_⟩;obtain rfl:c0=C:=Z0 (qi (hW.symm.trans m));cases dd with
  |none=>exact xd.elim
  |some dx =>
   obtain⟨v,rv,hx⟩:=xd;obtain rfl:v=.int k:=by exact rv
   obtain⟨s2,R2⟩:=R.backL J one ea ya he r' sm R';have Y:=R.len;have am:ik<σ.length:=by
    rw[<- Y];cases e:ρ[ik]? with
    |none=>rw[e] at O;cases O
    |some sl=>exact (List.getElem?_eq_some_iff.mp e).1
   exact as2 k0 s1 hN hi ah ad n1 n2 n3 vy vr vk aa ae ap af ac Z al hs hw R2 J O rl hx hl am λ aj H1 Hh s3 R3=>q aj H1 Hh (s2.trans s3) R3
end
end Fx
namespace L2
open PySem PySem.Spec PyProof.Rows
set_option maxRecDepth 8000 in
theorem aL2 (l:Addr) (xs:Array Value) (n:Nat) (b:Addr) (ys:Array Value) (m:Nat) (J:Array (Option Value))
  (Z:¬(!xs.isEmpty&&Builtin.List.listTooLong (xs.size+ys.size))=true) (h1:xs.size<=sizeLine) (h2:xs.size+ys.size<=sizeLine+1) :
  Meets (Builtin.«list.extend» ⟨[.ref l,.ref b],[]⟩) (λ _ R s=>s.heap.get? l=some {cls:=.type "list",data:=.seq xs n} ∧ s.heap.get? b=some {cls:=.type "list",dict:=none,data:=.seq ys m,slots:=J} ∧
   R (.ok (.ret Value.none)) {s with heap:=s.heap.update l (Obj.mapSeq λ x=>x++ys),toks:=s.toks}) :=
 .of_wp λ prog w A R s h=>by
  obtain⟨hp,g,d,tk,os⟩:=s;obtain⟨q,O,h⟩:=h;have Y:=AutoSeq1.sub_list_tuple;have t2:=AutoSeq1.sub_list_list;have hz:(xs++ys).size<=sizeLine+1:=Array.size_append▸h2;wp_walk using (wpAny_updateSeq q rfl (hz:=h1) (_hz':=hz)),wpAny_loadPart' q,wpAny_loadPart' O;exact⟨_,rfl,h⟩
section
variable {X:Cx}
def bF7 (K:Frag):V->List V->Hp->VK->Prop:=λ x vs H Q=>∃ l b xs zs,x=.ref l/\vs=[.ref b]/\H l=some (.lst xs)/\SqL K H b zs/\xs.length+zs.length<=sizeLine/\Q .non (upd H l (.lst (xs++zs)))
theorem ba4:MtM X "list.extend" (bF7 X.K):=by
 intro pins s σ H x vs v us Q I rx rv h;obtain⟨l,b,xs,zs,rfl,rfl,O,hB,hz,q⟩:=h;cases rx;obtain⟨u,rfl,ru⟩:=rv.one;cases ru;obtain⟨_,J,n,r,hl,e⟩:=I.lstM O;obtain⟨ys,Y,⟨⟨cl,dd,da,Z⟩,m,e2,hc,hd,hs⟩,_⟩:=I.list hB;cases hc;cases hd;cases hs;have aa:=Y.length;have big:J.toArray.size+ys.toArray.size<=sizeLine:=by rw[ze,ze];omega
 refine call_meets F.slot_list_extend ⟨_,e,rfl⟩ F.entry_list_extend (F.args_list_extend_2 _ _)
  (aL2 l J.toArray n b ys.toArray m Z (by rw[aI8 big,Zu];exact zo) (by rw[ze];omega) (by omega)) ⟨e,e2,?_⟩
 refine⟨.non,_,I.lset O e (by simp) (r.append Y) ?_,rfl,q⟩;rw[zc];omega
end
end L2
namespace Fx
open PySem PySem.Spec PyProof.Rows L2
section
theorem bz8 (i:Nat)  (he:XE X e F) (hN:X.N[i]?=some x:=by rfl) (hv:Vis X.env.scope x:=by first | exact Or.inl rfl | exact Or.inr (Or.inl rfl) | exact Or.inr (Or.inr rfl)) (hd:(x==("__debug__":Str))=false:=by decide)
  (ag:(x==("__classdict__":Str))=false:=by decide) (J:attributeBase (.Name x Z) "extend" X.env (eval (.Name x Z) X.env)=eval (.Name x Z) X.env:=by rfl)
  (ac:((backTo Y (starEach [e] X.env)).all (λ x=>!x.1)&&(backToKw Y (keywordEach [] X.env)).all (λ x=>x.1.isSome)&&decide ([e].length+([]:List Keyword).length+(if ([]:List Keyword).isEmpty then 0 else 1)<30))=true:=by rfl)
  (O:(p2.endLine==Y.line)=true:=by rfl) (ad:starEach [e] X.env=(false,eval e X.env)::starEach [] X.env:=by rfl) (af:(backTo Y (starEach [] X.env)).any (·.1)=false:=by rfl)
  (hs:swapsWith (.Call (.Attribute (.Name x Z) "extend" p2) [e] [] Y) none pos.line X.env=pure false:=by rfl) :
  XS X (.Expr (.Call (.Attribute (.Name x Z) "extend" p2) [e] [] Y) pos) (aX1 i F) :=
 PS.wk (av1 (bo0 PySem.F.plainAttrs_list PySem.F.slot_list_extend PySem.F.type_list_extend ba4 (i_4 hN hv hd ag) (c_5 he l_0 ad) J ac O ad af) hs) λ Dn σ H aa=>by
  obtain⟨c,H0,ρ,r,R,f,q⟩:=aa;obtain⟨ai,h0,f⟩:=a_0 f;obtain⟨⟨d,ah⟩,h1,f⟩:=a_0 f;obtain⟨xs,h2,f⟩:=a_0 f;obtain⟨ds,h3,f⟩:=a_0 f;obtain⟨hl,f'⟩:=ifs f;cases f';obtain⟨a,x1,_,_,ae,y1,_⟩:=R.ow i _ _ (x_9 h0);refine⟨.ref a,x1,.inl ⟨rfl,ae,SqL.of y1⟩,c,H0,ρ,d,ah,R,h1,λ v H1 Hh s1 R1 rv=>?_⟩;cases d with
  |lst zs =>
   cases h2;obtain⟨b,ws,rfl,sb,rz⟩:=rv;obtain⟨a',x2,_,_,vs,y2,z2⟩:=R1.ow i _ _ (x_9 h3);rw[x1] at x2;cases x2;have l1:=z2.length;have l2:=rz.length;refine⟨a,b,vs,ws,rfl,rfl,y2,Same.seq R1.same sb,?_,?_⟩
   ·have:(1000:Nat)<=sizeLine:=by decide
    omega
   ·exact q σ _ _ s1 (R1.mutOwn (x_9 h3) x1 ⟨_,a_3,z2.app rz⟩)
  |_=>cases h2
theorem bj4  (hm:X.mg "list"=none) (he:XE X e F) (hg:Gl X "list":=by rfl) (Y:starEach [e] X.env=(false,eval e X.env)::starEach [] X.env:=by rfl) (aa:(backTo pos (starEach [] X.env)).any (·.1)=false:=by rfl) :
  XO' X (.Call (.Name "list" p) [e] [] pos) (oFr (eF af1 (aC F aN))) :=
 PE.wk (x_8 C_0 hg hm PyProof.Rows.boot_list (c_5 he l_0 Y) (by decide) (by decide) Y aa) λ σ H Q J=>by
  obtain⟨c,H0,ρ,ds,ae,R,f,q⟩:=J;obtain⟨⟨d,ag⟩,f,f2⟩:=a_0 f;obtain⟨⟨as,ac⟩,h1,f⟩:=a_0 f;obtain⟨d',h2,f⟩:=a_0 f;cases f;obtain⟨⟨x,af⟩,h3,h1⟩:=a_0 h1;obtain⟨⟨ys,ad⟩,h4,h1⟩:=a_0 h1;cases h1;cases h4;refine⟨c,H0,ρ,x,_,R,h3,λ v H1 Hh s1 Z r1=>?_⟩;cases x with
  |lst xs =>
   cases h2;cases f2;obtain⟨a,O,rfl,s,t⟩:=r1;exact⟨a,O,rfl,.inl (Same.seq Z.same s),λ l hl=>q l O H1 Hh s1 Z hl t⟩
  |tup xs =>
   cases h2;cases f2;obtain⟨a,O,rfl,s,t⟩:=r1;exact⟨a,O,rfl,.inr (Same.seqT Z.same s),λ l hl=>q l O H1 Hh s1 Z hl t⟩
  |_=>cases h2
end
section
variable {X:Cx}{ifs:List Expr}
theorem aR2  (R:RS X.K c H0 H ρ σ) (f:be4 js i T F ρ=some (d,Y)) (q:∀ ds vs H2 Hh2,d=.lst ds->Y=ρ->Same H0 H2->RS X.K c H2 Hh2 ρ σ->Reps X.K H2 ds vs->Qf vs Hh2) :
  ∃ a,σ[i]?=some (some (.ref a))/\(∃ vs,SqL X.K H a vs)/\LcW js (tTt X.K T) (tE X.K F) σ Qf (Itl X.K a) H:=by
 obtain⟨ds,h1,f⟩:=a_0 f;obtain⟨fr,h3,f⟩:=a_0 f;obtain⟨ys,h4,f⟩:=a_0 f;obtain⟨hz,f⟩:=Fx.ifs f;cases f;obtain⟨b,h1⟩:=aw6 h1;obtain⟨a,e1,_,_,vs,e4,t⟩:=R.ow i b _ h1;refine⟨a,e1,⟨vs,.inl (.inl e4)⟩,?_⟩;refine bq0 R h3 h4 hz (λ H0' H' j s R'=>?_) λ vs H2 Hh2 s2 R2 r2=>q _ vs H2 Hh2 rfl rfl s2 R2 r2;obtain⟨a',O,_,_,J,aa,t'⟩:=R'.ow i b _ h1;have ea:a'=a:=by rw[e1] at O;have:=qi (qi O);cases this;rfl
 subst ea;have Z:SqL X.K H' a' J:=.inl (.inl aa);refine⟨λ d e=>?_,λ h=>⟨J,Z,by rw[<- t'.length];exact h⟩⟩;obtain⟨v,w1,w2⟩:=t'.get e;refine⟨⟨J,v,Z,w1⟩,λ x H'' ⟨k1,k2⟩=>⟨k1,?_⟩⟩;have:=k2 J Z;rw[w1] at this;cases this;exact w2
theorem aU1 (j i:Nat) (hN:X.N.Nodup) (hc:X.calm=true) (aa:X.env.scope=sc) (B:ScB X.N sc scope x frees js) (ht:∀ s H C O,XTs (cxB X (x::frees) scope s H C O) ifs T) (he:∀ s H C O,XE (cxB X (x::frees) scope s H C O) elt F)
  (hi:X.N[i]?=some y:=by rfl) (hv:Vis X.env.scope y:=by first | exact Or.inl rfl | exact Or.inr (Or.inl rfl) | exact Or.inr (Or.inr rfl)) (hd:(y==("__debug__":Str))=false:=by decide) (ac:(y==("__classdict__":Str))=false:=by decide) (hj:X.N[j]?=some z:=by rfl) (hz:X.env.scope.names.lookup z=some .local:=by rfl)
  (Z:swapsWith (.ListComp elt [⟨.Name x px,.Name y py,ifs,0⟩] scope pos) (some (.Name z pz)) spos.line X.env=pure true:=by rfl)
  (hs:∀ v,foldedSetIterable (.Name y py) X.env v=pure v:=by intro _;rfl):XS X (.Assign [.Name z pz] (.ListComp elt [⟨.Name x px,.Name y py,ifs,0⟩] scope pos) spos) (d_5 j (be4 js i T F)) :=
 PS.wk (x_6 (tt:=tTt X.K T) (te:=tE X.K F) hN hj hz hc aa B (ab1 (i_4 hi hv hd ac)) ht he Z hs) λ Dn σ H J=>by
  obtain⟨c,H0,ρ,r,R,f,q⟩:=J;obtain⟨⟨d,ad⟩,h1,f⟩:=a_0 f;have f':=f;cases f';obtain⟨a,e1,e2,e3⟩:=aR2 (Qf:=λ ys H'=>∀ a,H' a=none->Dn.nx (σ.set j (some (.ref a))) (upd H' a (.lst ys))) R h1 λ ds vs H2 Hh2 ed Y s2 R2 r2=>λ p hp=>by
   subst ed;subst Y;have S:=Step.alloc (o:=.lst vs) R2.same hp;refine q _ _ _ (s2.trans S.s0) ((R2.after S).set j ?_);exact⟨p,vs,rfl,.inl (.inl a_3),Reps.mono S.s0 _ r2⟩
  exact⟨_,e1,a,rfl,e2,e3⟩
theorem aU4 (j i:Nat) (hN:X.N.Nodup) (hc:X.calm=true) (af:X.env.scope=sc) (B:ScB X.N sc scope x frees js) (ht:∀ s H C Z,XTs (cxB X (x::frees) scope s H C Z) ifs T) (he:∀ s H C Z,XE (cxB X (x::frees) scope s H C Z) elt F)
  (hi:X.N[i]?=some y:=by rfl) (hv:Vis X.env.scope y:=by first | exact Or.inl rfl | exact Or.inr (Or.inl rfl) | exact Or.inr (Or.inr rfl)) (hd:(y==("__debug__":Str))=false:=by decide) (ag:(y==("__classdict__":Str))=false:=by decide) (hj:X.N[j]?=some z:=by rfl) (hz:X.env.scope.names.lookup z=some .local:=by rfl)
  (ae:swapsWith (.ListComp elt [⟨.Name x px,.Name y py,ifs,0⟩] scope pos) (some (.Name z pz)) spos.line X.env=pure true:=by rfl)
  (hs:∀ v,foldedSetIterable (.Name y py) X.env v=pure v:=by intro _;rfl):XS X (.Assign [.Name z pz] (.ListComp elt [⟨.Name x px,.Name y py,ifs,0⟩] scope pos) spos) (at5 j (oFr (be4 js i T F))) :=
 PS.wk (x_6 (tt:=tTt X.K T) (te:=tE X.K F) hN hj hz hc af B (ab1 (i_4 hi hv hd ag)) ht he ae hs) λ Dn σ H J=>by
  obtain⟨c,H0,ρ,r,R,f,q⟩:=J;obtain⟨⟨O,Y⟩,h1,f⟩:=a_0 f;obtain⟨⟨d,aa⟩,h1,h2⟩:=a_0 h1;have f':=f;cases f';obtain⟨a,e1,e2,e3⟩:=aR2 (Qf:=λ ys H'=>∀ a,H' a=none->Dn.nx (σ.set j (some (.ref a))) (upd H' a (.lst ys))) R h1 λ ds vs H2 Hh2 ed ac s2 R2 r2=>λ p hp=>by
   subst ed;subst ac;have ad:=h2;cases ad;exact q _ _ _ s2 (R2.setOwn j hp ⟨vs,a_3,r2⟩)
  exact⟨_,e1,a,rfl,e2,e3⟩
end
end Fx
namespace Fx
open PySem PySem.W PySem.Spec PyProof.Rows L2
structure XWk (K:Frag) (mg:Str → Option Value) (st:Stmt) (c0 c2 fI:Addr) (fd:FuncData) (d1 d2 d3 d4:Addr):Prop extends XIn K mg "NoWorks" "WellError" "at" "NoWorks.__init__" st c0 c2 fI fd where
 ee:exmOne K (.ref c0) (.ref c0)=some true
 m1:mg "NoText"=some (.ref d1)
 m2':mg "NoCell"=some (.ref d2)
 m3:mg "NoComing"=some (.ref d3)
 m4:mg "NoPaper"=some (.ref d4)
 k1:kitOne K (.ref c0) (.ref d1)=some false
 k2:kitOne K (.ref c0) (.ref d2)=some false
 k3:kitOne K (.ref c0) (.ref d3)=some false
 k4:kitOne K (.ref c0) (.ref d4)=some false
 kv:kitOne K (.ref c0) (.type "ValueError")=some true
 mv:mg "ValueError"=none
theorem T_7  (h:as1 g ds=some d):∃ q z,ds=[q]/\g [q]=some z/\as0 z=some d:=by
 obtain⟨J,h⟩:=bH7 h;obtain⟨z,h1,h2⟩:=a_0 h
 match ds,J with
 |[q],_=>exact⟨q,z,rfl,h1,h2⟩
theorem aV2  (h:as0 (.inr y)=some d):∃ k,y=(Str.ofString "NoWorks",some (Str.ofString "at",.int k)) ∧ d=.tup [.bl true,.int k]:=by
 unfold as0 at h;split at h
 ·rename_i e;cases e
 ·rename_i x f k e;cases e;obtain⟨⟨rfl,rfl⟩,h⟩:=bH7 h;cases h;exact⟨k,rfl,rfl⟩
 ·cases h
theorem RS.lay {K:Frag} (R:RS K c H0 H ρ σ)  (q:H p=none):Same H0 (upd H0 p o)/\RS K c (upd H0 p o) (upd H p o) ρ σ :=
 ⟨(Step.alloc R.same q).s0,R.after (Step.alloc R.same q)⟩
end Fx
namespace Fx
open PySem
noncomputable section
def I_0:FS :=
 (g_0 (e2 dEq (e2 aE9 (eV 1) (e2 b_5 (eV 0) (zI 1))) (e2 dEq (e2 b_5 (eV 0) (zI 0)) (zR "only"))))
def e_8:List D->Option D:=fnD 2 0 I_0
def r_7:List D->Option D:=fnD 2 1 λ _=>none
def s_1:FS :=
 (b_7 (sIf (tAnd (tB (e2 dEq (e2 b_5 (eV 0) (zI 0)) (zR "but"))) (tB (e2 dEq (e2 b_5 (eV 1) (zI 0)) (zR "but"))))
 (g_0 (c_0 (aC (zR "but") (aC (eF q_1 (aC (eF A_9 (aC (e2 b_5 (eV 0) (zI 1)) (aC (e2 b_5 (eV 1) (zI 1)) aN))) aN)) aN))))
 sN)
 (b_7 (sIf (tB (e2 dEq (e2 b_5 (eV 0) (zI 0)) (zR "but")))
 (g_0 (eF r_7 (aC (eV 1) (aC (eV 0) aN))))
 sN)
 (b_7 (d_5 2 (eF q_1 (aC (eLC [1] (e2 b_5 (eV 0) (zI 1)) (tV (eF e_8 (aC (eV 1) (aC (eV 0) aN)))) (eV 0)) aN)))
 (g_0 (eIf (tV (eV 2)) (c_0 (aC (zR "only") (aC (eV 2) aN))) (eC .non))))))
def j_3:List D->Option D:=fnD 2 1 s_1
def o_9:FS :=
 (b_7 (sIf (tAnd (tB (e2 dEq (e2 b_5 (eV 0) (zI 0)) (zR "but"))) (tB (e2 dEq (e2 b_5 (eV 1) (zI 0)) (zR "but"))))
 (g_0 (c_0 (aC (zR "but") (aC (eF q_1 (aC (eF A_9 (aC (e2 b_5 (eV 0) (zI 1)) (aC (e2 b_5 (eV 1) (zI 1)) aN))) aN)) aN))))
 sN)
 (b_7 (sIf (tB (e2 dEq (e2 b_5 (eV 0) (zI 0)) (zR "but")))
 (g_0 (eF j_3 (aC (eV 1) (aC (eV 0) aN))))
 sN)
 (b_7 (d_5 2 (eF q_1 (aC (eLC [1] (e2 b_5 (eV 0) (zI 1)) (tV (eF e_8 (aC (eV 1) (aC (eV 0) aN)))) (eV 0)) aN)))
 (g_0 (eIf (tV (eV 2)) (c_0 (aC (zR "only") (aC (eV 2) aN))) (eC .non))))))
def d_8:List D->Option D:=fnD 2 1 o_9
def o_8:FS :=
 (b_7 (d_5 2 (eF aq5 (aC (eV 1) aN)))
 (b_7 (d_5 3 (eLC [2] (e2 b_5 (eV 0) (zI 1)) (tB (e2 aC7 (eV 0) (eV 1))) (eV 0)))
 (b_7 (d_5 4 (by8 [2,0] (eV 2) (tB (e2 aE9 (e2 bi6 (eV 1) (eV 0)) (e2 b_5 (eV 2) (zI 1)))) (eV 0)))
 (b_7 (d_5 5 (eF q_1 (aC (eF A_8 (aC (e2 i_1 (eV 3) (eV 4)) aN)) aN)))
 (b_7 (sIf (tAnd (tB (e2 dEq (e2 b_5 (eV 0) (zI 0)) (zR "only"))) (tNot (tV (eV 5))))
 (g_0 (eC .non))
 sN)
 (g_0 (c_0 (aC (e2 b_5 (eV 0) (zI 0)) (aC (eV 5) aN)))))))))
def e_7:List D->Option D:=fnD 2 4 o_8
def e_3:FS :=
 (b_7 (sIf (tNot (tB (e3 dLe dLt (zI 0) (eV 3) (eV 2))))
 (g_0 (eC .non))
 sN)
 (b_7 (d_5 4 (eIf (tB (e2 dIs (eV 0) (eC .non))) (eC .non) (e2 i_1 (eV 0) (e2 i_7 (e2 L_5 (eV 3) (eV 0)) (eV 2)))))
 (b_7 (d_5 5 (eIf (tB (e2 dIs (eV 1) (eC .non))) (eC .non) (e2 L_5 (eV 1) (e2 i_7 (e2 L_5 (eV 1) (eV 3)) (eV 2)))))
 (b_7 (sIf (tOr (tB (e2 dIs (eV 4) (eC .non))) (tB (e2 dIs (eV 5) (eC .non))))
 (g_0 (c_0 (aC (eV 4) (aC (eV 5) (aC (eV 2) (aC (eV 3) aN))))))
 sN)
 (b_7 (sIf (tB (e2 dGt (eV 4) (eV 5)))
 (g_0 (eC .non))
 sN)
 (b_7 (sIf (tB (e2 dEq (eV 4) (eV 5)))
 (g_0 (c_0 (aC (eV 4) (aC (eV 5) (aC (zI 1) (aC (zI 0) aN))))))
 sN)
 (g_0 (c_0 (aC (eV 4) (aC (eV 5) (aC (eV 2) (aC (eV 3) aN))))))))))))
def a_5:List D->Option D:=fnD 4 2 e_3
def Z_6:FS :=
 (g_0 (aL9 (eOr (e2 dIs (eV 1) (eC .non)) (e2 dLe (eV 1) (eV 0))) (eOr (e2 dIs (eV 2) (eC .non)) (e2 dLe (eV 0) (eV 2)))))
def p_6:List D->Option D:=fnD 3 0 Z_6
def S_5:FS :=
 (g_0 (aL9 (eF p_6 (aC (eV 1) (aC (e2 b_5 (eV 0) (zI 0)) (aC (e2 b_5 (eV 0) (zI 1)) aN)))) (e2 dEq (e2 i_7 (eV 1) (e2 b_5 (eV 0) (zI 2))) (e2 b_5 (eV 0) (zI 3)))))
def y_5:List D->Option D:=fnD 2 0 S_5
def r_9:FS :=
 (b_7 (sIf (tOr (tB (e2 dIs (eV 0) (eC .non))) (tB (e2 dIs (eV 1) (eC .non))))
 (g_0 (eIf (tB (e2 dIs (eV 0) (eC .non))) (eV 1) (eV 0)))
 sN)
 (g_0 (eF bi7 (aC (eV 0) (aC (eV 1) aN)))))
def h_9:List D->Option D:=fnD 2 0 r_9
def r_8:FS :=
 (b_7 (sIf (tOr (tB (e2 dIs (eV 0) (eC .non))) (tB (e2 dIs (eV 1) (eC .non))))
 (g_0 (eIf (tB (e2 dIs (eV 0) (eC .non))) (eV 1) (eV 0)))
 sN)
 (g_0 (eF bw2 (aC (eV 0) (aC (eV 1) aN)))))
def e_9:List D->Option D:=fnD 2 0 r_8
def q_6:FS :=
 (g_0 (eF a_5 (aC (eF h_9 (aC (e2 b_5 (eV 0) (zI 0)) (aC (eV 1) aN))) (aC (eF e_9 (aC (e2 b_5 (eV 0) (zI 1)) (aC (eV 2) aN))) (aC (e2 b_5 (eV 0) (zI 2)) (aC (e2 b_5 (eV 0) (zI 3)) aN))))))
def f_3:List D->Option D:=fnD 3 0 q_6
def i_9:FS :=
 (b_7 (d_5 3 (eLC [2,1] (L_4 (eV 0) oN (oS (zI 2))) tYes (eIf (tB (e2 dIs (eV 0) (eC .non))) (eC .non) (e2 i_1 (e2 Y_1 (eV 2) (eV 0)) (eV 1)))))
 (b_7 (sIf (tB (e2 dLt (eV 1) (zI 0)))
 (d_5 3 (s_3 (aC (e2 b_5 (eV 3) (zI 1)) (aC (e2 b_5 (eV 3) (zI 0)) aN))))
 sN)
 (b_7 (d_5 4 (e2 Y_1 (eF aO0 (aC (eV 1) aN)) (e2 b_5 (eV 0) (zI 2))))
 (g_0 (eF a_5 (aC (e2 b_5 (eV 3) (zI 0)) (aC (e2 b_5 (eV 3) (zI 1)) (aC (eV 4) (aC (e2 i_7 (e2 i_1 (e2 Y_1 (eV 1) (e2 b_5 (eV 0) (zI 3))) (eV 2)) (eV 4)) aN)))))))))
def d_7:List D->Option D:=fnD 3 2 i_9
abbrev l_7:FS :=
 (b_7 (d_5 6 (e2 aM8 (eV 2) (eV 4)))
 (b_7 (d_5 7 (e2 L_5 (eV 2) (e2 Y_1 (eV 6) (eV 4))))
 (b_7 (d_5 2 (eV 4))
 (b_7 (d_5 4 (eV 7))
 (b_7 (d_5 7 (e2 L_5 (eV 3) (e2 Y_1 (eV 6) (eV 5))))
 (b_7 (d_5 3 (eV 5))
 (d_5 5 (eV 7))))))))
abbrev l_6:FT :=
 (tB (e2 dNe (eV 4) (zI 0)))
def m_9:FS :=
 (b_7 (d_5 2 (e2 i_7 (eV 0) (eV 1)))
 (b_7 (d_5 3 (zI 1))
 (b_7 (d_5 4 (eV 1))
 (b_7 (d_5 5 (zI 0))
 (b_7 (ag8 (λ ρ=>match ρ[1]? with | some (Sl.im (D.int m))=>m.toNat+2 | _=>0) l_6
 l_7)
 (g_0 (c_0 (aC (eV 2) (aC (eV 3) aN)))))))))
def e_0:List D->Option D:=fnD 2 6 m_9
def d_6:FS :=
 (b_7 (sIf (tB (e2 dEq (eV 1) (zI 0)))
 (g_0 aS6)
 sN)
 (b_7 (d_5 3 (eF e_0 (aC (eV 1) (aC (e2 b_5 (eV 0) (zI 2)) aN))))
 (b_7 (d_5 4 (e2 b_5 (eV 3) (zI 0)))
 (b_7 (d_5 5 (e2 L_5 (e2 b_5 (eV 0) (zI 3)) (eV 2)))
 (b_7 (sIf (tB (e2 dNe (e2 i_7 (eV 5) (eV 4)) (zI 0)))
 (g_0 (eC .non))
 sN)
 (b_7 (d_5 6 (e2 aM8 (e2 b_5 (eV 0) (zI 2)) (eV 4)))
 (b_7 (d_5 7 (eIf (tB (e2 dGt (eV 1) (zI 0))) (s_3 (aC (e2 b_5 (eV 0) (zI 0)) (aC (e2 b_5 (eV 0) (zI 1)) aN))) (s_3 (aC (e2 b_5 (eV 0) (zI 1)) (aC (e2 b_5 (eV 0) (zI 0)) aN)))))
 (b_7 (d_5 8 (eIf (tB (e2 dIs (e2 b_5 (eV 7) (zI 0)) (eC .non))) (eC .non) (e1 aT1 (e2 aM8 (e2 L_5 (eV 2) (e2 b_5 (eV 7) (zI 0))) (eV 1)))))
 (b_7 (d_5 9 (eIf (tB (e2 dIs (e2 b_5 (eV 7) (zI 1)) (eC .non))) (eC .non) (e2 aM8 (e2 L_5 (e2 b_5 (eV 7) (zI 1)) (eV 2)) (eV 1))))
 (g_0 (eF a_5 (aC (eV 8) (aC (eV 9) (aC (eV 6) (aC (e2 i_7 (e2 Y_1 (e2 aM8 (eV 5) (eV 4)) (e2 b_5 (eV 3) (zI 1))) (eV 6)) aN)))))))))))))))
def b_4:List D->Option D:=fnD 3 7 d_6
def q_4:FS :=
 (b_7 (d_5 2 (eF b_4 (aC (eV 1) (aC (e2 b_5 (eV 0) (zI 2)) (aC (e2 b_5 (eV 0) (zI 3)) aN)))))
 (b_7 (sIf (tB (e2 dIs (eV 2) (eC .non)))
 (g_0 (eC .non))
 sN)
 (g_0 (eF f_3 (aC (eF d_7 (aC (eV 2) (aC (e2 b_5 (eV 0) (zI 2)) (aC (e2 b_5 (eV 0) (zI 3)) aN)))) (aC (e2 b_5 (eV 0) (zI 0)) (aC (e2 b_5 (eV 0) (zI 1)) aN)))))))
def g_4:List D->Option D:=fnD 2 1 q_4
def o_2:FS :=
 (b_7 (sIf (tOr (tB (e2 dIs (eV 0) (eC .non))) (tB (e2 dIs (eV 3) (eC .non))))
 (g_0 (eC .non))
 sN)
 (b_7 (d_5 1 (eF bi7 (aC (eV 1) (aC (zI 0) aN))))
 (b_7 (sIf (tAnd (tB (e2 Y_2 (eV 2) (eC .non))) (tB (e2 dLe (eV 2) (eV 1))))
 (g_0 (eC .non))
 sN)
 (g_0 (c_0 (aC (eV 0) (aC (eV 1) (aC (eV 2) (aC (eV 3) aN)))))))))
def a_9:List D->Option D:=fnD 4 0 o_2
def M_2:FS :=
 (b_7 (d_5 2 (eF d_8 (aC (e2 b_5 (eV 0) (zI 0)) (aC (e2 b_5 (eV 1) (zI 0)) aN))))
 (b_7 (d_5 3 (eF g_4 (aC (e2 b_5 (eV 0) (zI 3)) (aC (e2 b_5 (eV 1) (zI 3)) aN))))
 (g_0 (eF a_9 (aC (eV 2) (aC (eF bi7 (aC (e2 b_5 (eV 0) (zI 1)) (aC (e2 b_5 (eV 1) (zI 1)) aN))) (aC (eF e_9 (aC (e2 b_5 (eV 0) (zI 2)) (aC (e2 b_5 (eV 1) (zI 2)) aN))) (aC (eV 3) aN))))))))
def f_5:List D->Option D:=fnD 2 2 M_2
def e_1:FS :=
 (b_7 (d_5 1 (e2 b_5 (eV 0) (zI 0)))
 (b_7 (d_5 2 (e2 b_5 (eV 0) (zI 3)))
 (b_7 (sIf (tB (e2 dEq (eV 1) (zR "time")))
 (g_0 (eF a_9 (aC (eC (.tup [(.str "but"),(.tup [])])) (aC (e2 b_5 (eV 2) (zI 0)) (aC (e2 b_5 (eV 2) (zI 1)) (aC (eC (.tup [.non,.non,(.int 1),(.int 0)])) aN))))))
 sN)
 (b_7 (sIf (tOr (tB (e2 dEq (eV 1) (zR "only"))) (tB (e2 dEq (eV 1) (zR "but"))))
 (g_0 (eF a_9 (aC (c_0 (aC (eV 1) (aC (eF q_1 (aC (eF A_8 (aC (eV 2) aN)) aN)) aN))) (aC (zI 0) (aC (eC .non) (aC (eC (.tup [.non,.non,(.int 1),(.int 0)])) aN))))))
 sN)
 (b_7 (sIf (tB (e2 dEq (eV 1) (zR "span")))
 (g_0 (eF a_9 (aC (eC (.tup [(.str "but"),(.tup [])])) (aC (zI 0) (aC (eC .non) (aC (eF a_5 (aC (e2 b_5 (eV 2) (zI 0)) (aC (e2 b_5 (eV 2) (zI 1)) (aC (zI 1) (aC (zI 0) aN))))) aN))))))
 sN)
 (b_7 (sIf (tB (e2 dEq (eV 1) (zR "rest")))
 (g_0 (eF a_9 (aC (eC (.tup [(.str "but"),(.tup [])])) (aC (zI 0) (aC (eC .non) (aC (eF a_5 (aC (eC .non) (aC (eC .non) (aC (e2 b_5 (eV 2) (zI 0)) (aC (e2 b_5 (eV 2) (zI 1)) aN))))) aN))))))
 sN)
 (g_0 (eC .non))))))))
def b_6:List D->Option D:=fnD 1 2 e_1
def w_6:FS :=
 (b_7 (d_5 2 (eIf (tB (e2 dIs (e2 b_5 (eV 0) (zI 2)) (eC .non))) (eC .non) (e2 i_1 (e2 b_5 (eV 0) (zI 2)) (eV 1))))
 (g_0 (eF a_9 (aC (e2 b_5 (eV 0) (zI 0)) (aC (e2 i_1 (e2 b_5 (eV 0) (zI 1)) (eV 1)) (aC (eV 2) (aC (e2 b_5 (eV 0) (zI 3)) aN)))))))
def k_1:List D->Option D:=fnD 2 1 w_6
def j_5:FS :=
 (b_7 (d_5 2 (eF b_6 (aC (eV 0) aN)))
 (b_7 (sIf (tB (e2 Y_2 (eV 2) (eC .non)))
 (g_0 (eF f_5 (aC (eV 2) (aC (eV 1) aN))))
 sN)
 (b_7 (d_5 3 (e2 b_5 (eV 0) (zI 3)))
 (b_7 (sIf (tB (e2 dEq (e2 b_5 (eV 0) (zI 0)) (zR "later")))
 (g_0 (eF k_1 (aC (eV 1) (aC (e1 aT1 (e2 b_5 (eV 3) (zI 0))) aN))))
 sN)
 (b_7 (sIf (tB (e2 dEq (e2 b_5 (eV 0) (zI 0)) (zR "turn")))
 (g_0 (eF a_9 (aC (e2 b_5 (eV 1) (zI 0)) (aC (e2 b_5 (eV 1) (zI 1)) (aC (e2 b_5 (eV 1) (zI 2)) (aC (eF b_4 (aC (e2 b_5 (eV 1) (zI 3)) (aC (e2 b_5 (eV 3) (zI 0)) (aC (e2 b_5 (eV 3) (zI 1)) aN)))) aN))))))
 sN)
 (g_0 (eF a_9 (aC (eF e_7 (aC (e2 b_5 (eV 1) (zI 0)) (aC (eV 3) aN))) (aC (e2 b_5 (eV 1) (zI 1)) (aC (e2 b_5 (eV 1) (zI 2)) (aC (e2 b_5 (eV 1) (zI 3)) aN)))))))))))
def b_9:List D->Option D:=fnD 2 2 j_5
abbrev j_4:FS :=
 (sIf (tB (e2 dEq (e2 b_5 (eV 2) (zI 1)) (eV 1)))
 (g_0 (eV 2))
 sN)
def H_8:FS :=
 (b_7 (bh4 (gN 2) (eV 0)
 j_4)
 (g_0 (eC .non)))
def h_8:List D->Option D:=fnD 2 1 H_8
def am3:FS :=
 (g_0 (eF a_9 (aC (eC (.tup [(.str "but"),(.tup [])])) (aC (eV 1) (aC (eC .non) (aC (eF a_5 (aC (e2 b_5 (e2 b_5 (eV 0) (zI 3)) (zI 0)) (aC (e2 b_5 (e2 b_5 (eV 0) (zI 3)) (zI 1)) (aC (zI 1) (aC (zI 0) aN))))) aN))))))
def p_7:List D->Option D:=fnD 2 0 am3
abbrev n_8 (FUEL_:List D->Option D):FS :=
 (aX1 5 (eF FUEL_ (aC (eV 0) (aC (eV 6) (aC (eV 4) aN)))))
def f_8 (FUEL_:List D->Option D):FS :=
 (b_7 (sIf (tB (e2 dIs (eV 2) (eC .non)))
 (g_0 (s_3 aN))
 sN)
 (b_7 (d_5 3 (eF h_8 (aC (eV 0) (aC (eV 1) aN))))
 (b_7 (sIf (tB (e2 dEq (e2 b_5 (eV 3) (zI 0)) (zR "in")))
 (b_7 (d_5 7 (eF f_5 (aC (eF p_7 (aC (eV 3) (aC (zI 0) aN))) (aC (eV 2) aN))))
 (g_0 (eIf (tB (e2 dIs (eV 7) (eC .non))) (s_3 aN) (s_3 (aC (c_0 (aC (eV 1) (aC (eV 7) aN))) aN)))))
 sN)
 (b_7 (d_5 4 (eIf (tB (e2 dEq (e2 b_5 (eV 3) (zI 0)) (zR "pour"))) (eV 2) (eF b_9 (aC (eV 3) (aC (eV 2) aN)))))
 (b_7 (at5 5 (bh7 aN))
 (b_7 (bh4 (gN 6) (e2 b_5 (eV 3) (zI 2))
 (n_8 FUEL_))
 (an6 5 (g_0 (eV 5)))))))))
def a_8:Nat->List D->Option D
 |0=>fnD 3 5 λ _=>none
 |n+1=>fnD 3 5 (f_8 (a_8 n))
def C_2:FS :=
 (g_0 (eF (a_8 24) (aC (eV 0) (aC (eV 1) (aC (eF a_9 (aC (eC (.tup [(.str "but"),(.tup [])])) (aC (zI 0) (aC (eC .non) (aC (eC (.tup [.non,.non,(.int 1),(.int 0)])) aN))))) aN)))))
def h_4:List D->Option D:=fnD 2 0 C_2
abbrev a_7:FS :=
 (sIf (tAnd (tB (e2 dEq (e2 b_5 (eV 2) (zI 0)) (e2 b_5 (eV 3) (zI 0)))) (tB (e2 Y_2 (eF f_5 (aC (e2 b_5 (eV 2) (zI 1)) (aC (e2 b_5 (eV 3) (zI 1)) aN))) (eC .non))))
 (g_0 (eC (.bl true)))
 sN)
abbrev c_4:FS :=
 (bh4 (gN 3) (L_4 (eV 0) oN (oS (eV 1)))
 a_7)
def m_1:FS :=
 (b_7 (aH0 (gT [1,2]) (eV 0)
 c_4)
 (g_0 (eC (.bl false))))
def c_7:List D->Option D:=fnD 1 3 m_1
abbrev b_0:FX :=
 (rIf (tB (e2 aE9 (e2 b_5 (eV 2) (zI 0)) (eC (.tup [(.str "in"),(.str "time"),(.str "only"),(.str "but"),(.str "span"),(.str "rest"),(.str "turn"),(.str "later"),(.str "put"),(.str "pour")]))))
 (bF5 (rS (d_5 3 (eF h_4 (aC (eV 0) (aC (e2 b_5 (eV 2) (zI 1)) aN)))))
 (rIf (tOr (tNot (tV (eV 3))) (tAnd (tB (e2 dEq (e2 b_5 (eV 2) (zI 0)) (zR "pour"))) (tV (eF c_7 (aC (eV 3) aN)))))
 (N_6 (Str.ofString "NoWorks") (Str.ofString "at") (eV 1))
 (rS sN)))
 (rS sN))
def q_3:FX:=(aH6 (gT [1,2]) (eV 0)
 b_0)
def c_1:List D->Option (D ⊕ XV):=fnX 1 3 q_3
def s_0:FS :=
 (b_7 (sIf (tB (e2 dLt (eV 1) (eF s_4 (aC (eV 0) aN))))
 (g_0 (e2 b_5 (eV 0) (eV 1)))
 sN)
 (g_0 (zI 0)))
def f_0:List D->Option D:=fnD 2 0 s_0
def w_5:FS :=
 (b_7 (d_5 2 (e2 i_7 (e2 Y_1 (e2 i_1 (e2 i_1 (eV 0) (e2 Y_1 (zI 7919) (eV 1))) (zI 1)) (zI 48271)) (zI 2147483647)))
 (g_0 (e2 i_7 (e2 Y_1 (eV 2) (e2 i_1 (e2 aM8 (eV 2) (zI 1009)) (zI 69621))) (zI 2147483647))))
def i_0:List D->Option D:=fnD 2 1 w_5
def H_9:En->Option MO :=
 (by3 (d_5 1 (eF f_0 (aC (eV 0) (aC (zI 0) aN)))) (by4 [(Str.ofString "script"),(Str.ofString "way"),(Str.ofString "left"),(Str.ofString "at"),(Str.ofString "number"),(Str.ofString "k")] (aC (eV 0) (aC (e2 i_7 (eV 1) (zI 2)) (aC (zI 0) (aC (zI 1) (aC (eV 1) (aC (zI 0) aN))))))))
def k_0:List D->Option MO:=fnN 1 1 H_9
abbrev p_9:FS :=
 (b_7 (sDP 0 (Str.ofString "left") (eF aO0 (aC (e2 b_5 (eDG 0 (Str.ofString "script")) (eDG 0 (Str.ofString "at"))) aN)))
 (sDP 0 (Str.ofString "at") (e2 i_1 (eDG 0 (Str.ofString "at")) (zI 1))))
abbrev h_7:FT :=
 (tAnd (tB (e2 dEq (eDG 0 (Str.ofString "way")) (zI 1))) (tAnd (tB (e2 dEq (eDG 0 (Str.ofString "left")) (zI 0))) (tB (e2 dLt (eDG 0 (Str.ofString "at")) (eF s_4 (aC (eDG 0 (Str.ofString "script")) aN))))))
def q_7:FS :=
 (b_7 (ag8 (λ _=>200) h_7
 p_9)
 (b_7 (sIf (tB (e2 dGt (eDG 0 (Str.ofString "left")) (zI 0)))
 (b_7 (d_5 2 (e2 i_7 (eDG 0 (Str.ofString "left")) (zI 1000003)))
 (b_7 (sDP 0 (Str.ofString "left") (e2 aM8 (eDG 0 (Str.ofString "left")) (zI 1000003)))
 (g_0 (eV 2))))
 sN)
 (b_7 (sDP 0 (Str.ofString "k") (e2 i_1 (eDG 0 (Str.ofString "k")) (zI 1)))
 (b_7 (d_5 1 (e2 i_1 (eDG 0 (Str.ofString "number")) (eF f_0 (aC (eDG 0 (Str.ofString "script")) (aC (eDG 0 (Str.ofString "k")) aN)))))
 (b_7 (sDP 0 (Str.ofString "number") (eF i_0 (aC (eV 1) (aC (eDG 0 (Str.ofString "k")) aN))))
 (g_0 (eF i_0 (aC (eDG 0 (Str.ofString "number")) (aC (zI 7) aN)))))))))
def a_1:MO->List D->Option (D×MO):=fnB 0 2 q_7
abbrev p_8:FS :=
 (d_5 2 (e2 i_1 (eV 2) (e2 b_5 (eV 1) (e2 i_7 (eFb 0 a_1 aN) (zI 26)))))
def M_1:FS :=
 (b_7 (d_5 1 (zR "abcdefghijklmnopqrstuvwxyz"))
 (b_7 (d_5 2 (zR ""))
 (b_7 (N_3 (gN 3) (aH3 (e2 i_1 (zI 1) (e2 i_7 (eFb 0 a_1 aN) (zI 8)))) p_8)
 (b_7 (d_5 4 (e2 i_7 (eFb 0 a_1 aN) (eF s_4 (aC (eV 2) aN))))
 (g_0 (eLC [2,4] (zR "abcdefghz") tYes (e2 i_1 (e2 i_1 (L_4 (eV 1) oN (oS (eV 2))) (eV 0)) (L_4 (eV 1) (oS (e2 i_1 (eV 2) (zI 1))) oN))))))))
def m_0:MO->List D->Option (D×MO):=fnB 0 4 M_1
abbrev m_6:FS :=
 (b_7 (d_5 5 (be7 [3] 3 0 (eV 1) (tB (be9 true (eV 0) 1)) (eV 0)))
 (an7 3 (e2 b_5 (eV 5) (e2 i_7 (eFb 0 a_1 aN) (eF s_4 (aC (eV 5) aN))))))
def C_3:FS :=
 (b_7 (at5 3 (bh7 aN))
 (b_7 (N_3 (gN 4) (aH3 (eV 2)) m_6)
 (an6 3 (g_0 (eV 3)))))
def e_6:MO->List D->Option (D×MO):=fnB 2 3 C_3
def g_1:FS :=
 (b_7 (d_5 1 (e2 L_5 (e2 i_7 (eFb 0 a_1 aN) (zI 41)) (zI 20)))
 (b_7 (sIf (tB (e2 dEq (e2 i_7 (eFb 0 a_1 aN) (zI 5)) (zI 1)))
 (d_5 1 (e2 Y_1 (eV 1) (e2 bL0 (zI 10) (zI 10))))
 sN)
 (b_7 (d_5 2 (e2 i_1 (eV 1) (e2 i_7 (eFb 0 a_1 aN) (zI 40))))
 (b_7 (sIf (tB (e2 dEq (e2 i_7 (eFb 0 a_1 aN) (zI 4)) (zI 1)))
 (d_5 2 (eC .non))
 sN)
 (b_7 (sIf (tB (e2 dEq (e2 i_7 (eFb 0 a_1 aN) (zI 4)) (zI 1)))
 (d_5 1 (eC .non))
 sN)
 (g_0 (c_0 (aC (eV 1) (aC (eV 2) aN)))))))))
def c_2:MO->List D->Option (D×MO):=fnB 0 2 g_1
def f_9:FS :=
 (b_7 (sIf (tB (e2 dEq (eV 1) (zR "time")))
 (b_7 (d_5 6 (e2 i_7 (eFb 0 a_1 aN) (zI 40)))
 (b_7 (d_5 7 (e2 i_1 (e2 i_1 (eV 6) (zI 1)) (e2 i_7 (eFb 0 a_1 aN) (zI 40))))
 (b_7 (sIf (tB (e2 dEq (e2 i_7 (eFb 0 a_1 aN) (zI 3)) (zI 1)))
 (d_5 7 (eC .non))
 sN)
 (g_0 (c_0 (aC (zR "time") (aC (eV 2) (aC (eV 3) (aC (c_0 (aC (eV 6) (aC (eV 7) aN))) aN)))))))))
 sN)
 (b_7 (sIf (tOr (tB (e2 dEq (eV 1) (zR "only"))) (tB (e2 dEq (eV 1) (zR "but"))))
 (g_0 (c_0 (aC (eV 1) (aC (eV 2) (aC (eV 3) (aC (eF q_1 (aC (eFb 0 e_6 (aC (eV 4) (aC (e2 i_1 (zI 1) (e2 i_7 (eFb 0 a_1 aN) (zI 8))) aN))) aN)) aN))))))
 sN)
 (b_7 (sIf (tB (e2 dEq (eV 1) (zR "span")))
 (g_0 (c_0 (aC (zR "span") (aC (eV 2) (aC (eV 3) (aC (eFb 0 c_2 aN) aN))))))
 sN)
 (b_7 (sIf (tB (e2 dEq (eV 1) (zR "rest")))
 (b_7 (d_5 8 (e2 i_1 (zI 2) (e2 i_7 (eFb 0 a_1 aN) (e2 b_5 (s_3 (aC (zI 4) (aC (zI 4) (aC (zI 999) aN)))) (e2 i_7 (eFb 0 a_1 aN) (zI 3))))))
 (g_0 (c_0 (aC (zR "rest") (aC (eV 2) (aC (eV 3) (aC (c_0 (aC (eV 8) (aC (e2 i_7 (eFb 0 a_1 aN) (eV 8)) aN))) aN)))))))
 sN)
 (b_7 (sIf (tB (e2 dEq (eV 1) (zR "turn")))
 (b_7 (d_5 9 (e2 i_1 (zI 1) (e2 i_7 (eFb 0 a_1 aN) (e2 b_5 (s_3 (aC (zI 3) (aC (zI 3) (aC (zI 1000) aN)))) (e2 i_7 (eFb 0 a_1 aN) (zI 3))))))
 (b_7 (sIf (tB (e2 dEq (e2 i_7 (eFb 0 a_1 aN) (zI 2)) (zI 1)))
 (d_5 9 (e2 L_5 (zI 0) (eV 9)))
 sN)
 (g_0 (c_0 (aC (zR "turn") (aC (eV 2) (aC (eV 3) (aC (c_0 (aC (eV 9) (aC (e2 L_5 (e2 i_7 (eFb 0 a_1 aN) (zI 31)) (zI 15)) aN))) aN))))))))
 sN)
 (b_7 (sIf (tB (e2 dEq (eV 1) (zR "later")))
 (g_0 (c_0 (aC (zR "later") (aC (eV 2) (aC (eV 3) (aC (c_0 (aC (e2 i_7 (eFb 0 a_1 aN) (e2 b_5 (s_3 (aC (zI 20) (aC (zI 20) (aC (zI 1000000) aN)))) (e2 i_7 (eFb 0 a_1 aN) (zI 3)))) aN)) aN))))))
 sN)
 (b_7 (d_5 5 (eFb 0 e_6 (aC (eV 4) (aC (e2 i_1 (zI 1) (e2 i_7 (eFb 0 a_1 aN) (zI 4))) aN))))
 (g_0 (c_0 (aC (zR "put") (aC (eV 2) (aC (eV 3) (aC (eF q_1 (aC (be7 [4,0] 0 1 (eV 5) tYes (c_0 (aC (eV 0) (aC (e2 b_5 (eV 1) (e2 i_7 (eFb 2 a_1 aN) (zI 9))) aN)))) aN)) aN)))))))))))))
def c_3:MO->List D->Option (D×MO):=fnB 4 5 f_9
abbrev b_8:FS :=
 (b_7 (d_5 9 (e2 b_5 (s_3 (aC (eC .non) (aC (e2 i_1 (e2 i_1 (eV 6) (e2 Y_1 (zI 4) (eV 8))) (zI 1)) aN))) (eF bg7 (aC (e2 dGt (eV 8) (zI 0)) aN))))
 (b_7 (d_5 10 (e2 b_5 (s_3 (aC (eC .non) (aC (e2 i_1 (e2 i_1 (eV 6) (e2 Y_1 (zI 4) (eV 8))) (zI 4)) aN))) (eF bg7 (aC (e2 dLt (e2 i_1 (eV 8) (zI 1)) (eV 5)) aN))))
 (b_7 (d_5 11 (e2 b_5 (s_3 (aC (zI 0) (aC (e2 Y_1 (e2 i_1 (eF aO0 (aC (eV 6) aN)) (zI 1)) (eV 8)) aN))) (eF bg7 (aC (e2 dGt (eV 8) (zI 0)) aN))))
 (b_7 (d_5 12 (e2 b_5 (s_3 (aC (eC .non) (aC (e2 Y_1 (e2 i_1 (eF aO0 (aC (eV 6) aN)) (zI 1)) (e2 i_1 (eV 8) (zI 1))) aN))) (eF bg7 (aC (e2 dLt (e2 i_1 (eV 8) (zI 1)) (eV 5)) aN))))
 (sIf (tB (e2 dEq (eV 4) (zI 0)))
 (an7 7 (c_0 (aC (zR "rest") (aC (e2 b_5 (eV 1) (eV 8)) (aC (c_0 (aC (eV 2) aN)) (aC (c_0 (aC (e2 i_1 (eV 5) (e2 i_7 (eF aO0 (aC (eV 6) aN)) (zI 4))) (aC (eV 8) aN))) aN))))))
 (sIf (tAnd (tB (e2 dEq (eV 4) (zI 1))) (tB (e2 dLt (e2 i_1 (eV 8) (zI 1)) (eV 5))))
 (an7 7 (c_0 (aC (zR "only") (aC (e2 b_5 (eV 1) (eV 8)) (aC (c_0 (aC (eV 2) aN)) (aC (c_0 (aC (e2 b_5 (eV 3) (eV 8)) aN)) aN))))))
 (sIf (tB (e2 dEq (eV 4) (zI 1)))
 (an7 7 (c_0 (aC (zR "but") (aC (e2 b_5 (eV 1) (eV 8)) (aC (c_0 (aC (eV 2) aN)) (aC (eF q_1 (aC (L_4 (eV 3) oN (oS (eV 8))) aN)) aN))))))
 (sIf (tB (e2 dEq (eV 4) (zI 2)))
 (an7 7 (c_0 (aC (zR "span") (aC (e2 b_5 (eV 1) (eV 8)) (aC (c_0 (aC (eV 2) aN)) (aC (c_0 (aC (eV 9) (aC (eV 10) aN))) aN))))))
 (an7 7 (c_0 (aC (zR "time") (aC (e2 b_5 (eV 1) (eV 8)) (aC (c_0 (aC (eV 2) aN)) (aC (c_0 (aC (eV 11) (aC (eV 12) aN))) aN))))))))))))))
def C_4:En->Option (List D×MO) :=
 (Y_6 (d_5 4 (e2 i_7 (eFb 0 a_1 aN) (zI 4)))
 (Y_6 (d_5 5 (e2 i_1 (zI 2) (e2 i_7 (eFb 0 a_1 aN) (zI 3))))
 (Y_6 (d_5 6 (e2 L_5 (e2 i_7 (eFb 0 a_1 aN) (zI 31)) (zI 10)))
 (Y_6 (at5 7 (bh7 aN))
 (Y_6 (N_3 (gN 8) (aH3 (eV 5)) b_8)
 (aN7 7))))))
def k_5:MO->List D->Option (List D×MO):=bs8 3 9 C_4
def q_0:FS :=
 (b_7 (sNB 5 0 k_5 (aC (eV 1) (aC (eV 2) (aC (eV 4) aN))))
 (b_7 (at5 6 (oFr (be4 [] 5 tYes (e2 b_5 (eV 0) (zI 1)))))
 (b_7 (d_5 7 (e2 i_7 (eFb 0 a_1 aN) (aL6 6)))
 (b_7 (d_5 8 (e2 b_5 (s_3 (aC (zR "turn") (aC (zR "later") (aC (zR "put") aN)))) (e2 i_7 (eFb 0 a_1 aN) (zI 3))))
 (b_7 (an7 5 (eFb 0 c_3 (aC (eV 8) (aC (e2 b_5 (eV 1) (zI 5)) (aC (c_0 (aC (by9 6 (eV 7)) aN)) (aC (eV 4) aN))))))
 (b_7 (bx4 6 (eV 7) (e2 b_5 (eV 1) (zI 5)))
 (b_7 (d_5 9 (e2 b_5 (eV 3) (e2 i_7 (eFb 0 a_1 aN) (eF s_4 (aC (eV 3) aN)))))
 (b_7 (sIf (tAnd (tB (e2 dEq (e2 i_7 (eFb 0 a_1 aN) (zI 2)) (zI 1))) (tB (e2 dNe (eV 9) (eV 2))))
 (an7 6 (eV 9))
 sN)
 (an6 5 (an6 6 (g_0 (e2 i_1 (eV 5) (s_3 (aC (c_0 (aC (zR "pour") (aC (e2 b_5 (eV 1) (zI 6)) (aC (eF q_1 (aC (eV 6) aN)) (aC (c_0 aN) aN))))) aN))))))))))))))
def f_1:MO->List D->Option (D×MO):=fnB 4 5 q_0
abbrev f_2:FS :=
 (b_7 (d_5 4 (be4 [] 2 tYes (e2 b_5 (eV 0) (zI 1))))
 (b_7 (d_5 5 (eLC [3] (zR "cdefghi") tYes (e2 i_1 (eV 0) (e2 b_5 (zR "klmnopq") (eV 1)))))
 (b_7 (d_5 6 (e2 b_5 (eV 4) (e2 i_7 (eFb 0 a_1 aN) (eF s_4 (aC (eV 4) aN)))))
 (b_7 (d_5 7 (e2 i_7 (eFb 0 a_1 aN) (zI 5)))
 (sIf (tB (e2 dEq (eV 7) (zI 0)))
 (aX1 2 (eFb 0 f_1 (aC (eV 5) (aC (eV 6) (aC (eV 4) (aC (eV 1) aN))))))
 (sIf (tAnd (tB (e2 dEq (eV 7) (zI 1))) (tB (e2 dGt (eF s_4 (aC (eV 4) aN)) (zI 1))))
 (b_7 (d_5 8 (eFb 0 e_6 (aC (eV 4) (aC (eF bw2 (aC (eF s_4 (aC (eV 4) aN)) (aC (e2 i_1 (zI 2) (e2 i_7 (eFb 0 a_1 aN) (zI 4))) aN))) aN))))
 (an7 2 (c_0 (aC (zR "pour") (aC (e2 b_5 (eV 5) (zI 0)) (aC (eF q_1 (aC (eV 8) aN)) (aC (c_0 aN) aN)))))))
 (b_7 (d_5 9 (s_3 (aC (zR "time") (aC (zR "only") (aC (zR "but") (aC (zR "span") (aC (zR "rest") (aC (zR "turn") (aC (zR "later") (aC (zR "put") aN))))))))))
 (an7 2 (eFb 0 c_3 (aC (e2 b_5 (eV 9) (e2 i_7 (eFb 0 a_1 aN) (zI 8))) (aC (e2 b_5 (eV 5) (zI 0)) (aC (c_0 (aC (eV 6) aN)) (aC (eV 1) aN)))))))))))))
def C_5:FS :=
 (b_7 (at5 2 (oFr (L_4 (s_3 (aC (c_0 (aC (zR "in") (aC (zR "a") (aC (c_0 aN) (aC (eFb 0 c_2 aN) aN))))) (aC (c_0 (aC (zR "in") (aC (zR "b") (aC (c_0 aN) (aC (eFb 0 c_2 aN) aN))))) aN))) oN (oS (e2 i_1 (zI 1) (e2 i_7 (eFb 0 a_1 aN) (zI 2)))))))
 (b_7 (N_3 (gN 3) (aH3 (e2 i_7 (eFb 0 a_1 aN) (zI 3))) f_2)
 (an6 2 (g_0 (eV 2)))))
def h_6:MO->List D->Option (D×MO):=fnB 1 8 C_5
abbrev i_2:FS :=
 (aW7 1 3 4 c_1 (an6 1 (g_0 (eV 1))))
def t_4:FS :=
 (b_7 (at5 1 (oFr (eF af1 (aC (eV 0) aN))))
 (b_7 (N_3 (gN 2) (aH3 (zI 25)) i_2)
 (an6 1 (an6 1 (g_0 (L_4 (eV 1) oN (oS (zI 1))))))))
def h_5:List D->Option D:=fnD 1 4 t_4
def k_6:FS :=
 (b_7 (d_5 3 (e2 i_7 (eFb 0 a_1 aN) (zI 7)))
 (b_7 (d_5 4 (e2 i_7 (eFb 0 a_1 aN) (zI 50)))
 (b_7 (sIf (tB (e2 dEq (eV 3) (zI 0)))
 (g_0 (s_3 (aC (c_0 (aC (zR "later") (aC (zR "xa") (aC (c_0 (aC (eV 1) aN)) (aC (c_0 (aC (e2 i_1 (eV 4) (zI 20)) aN)) aN))))) (aC (c_0 (aC (zR "time") (aC (zR "xb") (aC (c_0 (aC (zR "xa") aN)) (aC (c_0 (aC (zI 0) (aC (e2 i_1 (zI 1) (e2 i_7 (eFb 0 a_1 aN) (e2 i_1 (eV 4) (zI 20)))) aN))) aN))))) aN))))
 sN)
 (b_7 (sIf (tB (e2 dEq (eV 3) (zI 1)))
 (b_7 (bx0 [7,8] (eFb 0 e_6 (aC (eV 2) (aC (zI 2) aN))))
 (g_0 (s_3 (aC (c_0 (aC (zR "put") (aC (zR "xa") (aC (c_0 (aC (eV 1) aN)) (aC (c_0 (aC (c_0 (aC (eV 7) (aC (eV 8) aN))) aN)) aN))))) (aC (c_0 (aC (zR "only") (aC (zR "xb") (aC (c_0 (aC (zR "xa") aN)) (aC (c_0 (aC (eV 7) aN)) aN))))) aN)))))
 sN)
 (b_7 (sIf (tB (e2 dEq (eV 3) (zI 2)))
 (b_7 (d_5 5 (e2 Y_1 (zI 2) (e2 i_1 (zI 1) (e2 i_7 (eFb 0 a_1 aN) (zI 9)))))
 (g_0 (s_3 (aC (c_0 (aC (zR "turn") (aC (zR "xa") (aC (c_0 (aC (eV 1) aN)) (aC (c_0 (aC (eV 5) (aC (zI 1) aN))) aN))))) (aC (c_0 (aC (zR "rest") (aC (zR "xb") (aC (c_0 (aC (zR "xa") aN)) (aC (c_0 (aC (zI 2) (aC (zI 0) aN))) aN))))) aN)))))
 sN)
 (b_7 (sIf (tB (e2 dEq (eV 3) (zI 3)))
 (b_7 (d_5 5 (e2 i_1 (zI 3) (e2 i_7 (eFb 0 a_1 aN) (zI 900))))
 (b_7 (d_5 6 (e2 i_1 (e2 L_5 (zI 0) (eV 5)) (zI 1)))
 (g_0 (s_3 (aC (c_0 (aC (zR "turn") (aC (zR "xa") (aC (c_0 (aC (eV 1) aN)) (aC (c_0 (aC (eV 5) (aC (zI 0) aN))) aN))))) (aC (c_0 (aC (zR "span") (aC (zR "xb") (aC (c_0 (aC (zR "xa") aN)) (aC (c_0 (aC (eV 6) (aC (e2 L_5 (zI 0) (zI 1)) aN))) aN))))) aN))))))
 sN)
 (b_7 (sIf (tB (e2 dEq (eV 3) (zI 4)))
 (g_0 (s_3 (aC (c_0 (aC (zR "later") (aC (zR "xa") (aC (c_0 (aC (eV 1) aN)) (aC (c_0 (aC (e2 i_1 (eV 4) (zI 1)) aN)) aN))))) (aC (c_0 (aC (zR "time") (aC (zR "xb") (aC (c_0 (aC (zR "xa") aN)) (aC (c_0 (aC (zI 0) (aC (e2 i_1 (eV 4) (zI 1)) aN))) aN))))) aN))))
 sN)
 (b_7 (sIf (tB (e2 dEq (eV 3) (zI 5)))
 (b_7 (d_5 7 (e2 b_5 (eV 2) (e2 i_7 (eFb 0 a_1 aN) (zI 9))))
 (g_0 (s_3 (aC (c_0 (aC (zR "put") (aC (zR "xa") (aC (c_0 (aC (eV 1) aN)) (aC (c_0 (aC (c_0 (aC (eV 7) (aC (zR "q") aN))) aN)) aN))))) (aC (c_0 (aC (zR "only") (aC (zR "xb") (aC (c_0 (aC (zR "xa") aN)) (aC (c_0 (aC (eV 7) aN)) aN))))) aN)))))
 sN)
 (g_0 (s_3 (aC (c_0 (aC (zR "turn") (aC (zR "xa") (aC (c_0 (aC (eV 1) aN)) (aC (c_0 (aC (e2 L_5 (zI 0) (zI 4)) (aC (zI 2) aN))) aN))))) (aC (c_0 (aC (zR "rest") (aC (zR "xb") (aC (c_0 (aC (zR "xa") aN)) (aC (c_0 (aC (zI 4) (aC (e2 i_7 (eFb 0 a_1 aN) (zI 2)) aN))) aN))))) aN))))))))))))
def f_4:MO->List D->Option (D×MO):=fnB 2 6 k_6
def l_3:FS :=
 (b_7 (d_5 3 (e2 i_7 (eFb 0 a_1 aN) (zI 4)))
 (b_7 (sIf (tB (e2 dEq (eV 3) (zI 0)))
 (g_0 (s_3 (aC (c_0 (aC (zR "later") (aC (zR "xa") (aC (c_0 (aC (eV 1) aN)) (aC (c_0 (aC (e2 i_7 (eFb 0 a_1 aN) (zI 9)) aN)) aN))))) (aC (c_0 (aC (zR "pour") (aC (zR "xb") (aC (c_0 (aC (eV 1) (aC (zR "xa") aN))) (aC (c_0 aN) aN))))) aN))))
 sN)
 (b_7 (sIf (tB (e2 dEq (eV 3) (zI 1)))
 (g_0 (s_3 (aC (c_0 (aC (zR "turn") (aC (zR "xa") (aC (c_0 (aC (eV 1) aN)) (aC (c_0 (aC (e2 L_5 (zI 0) (zI 1)) (aC (zI 0) aN))) aN))))) (aC (c_0 (aC (zR "pour") (aC (zR "xb") (aC (c_0 (aC (zR "xa") (aC (eV 1) aN))) (aC (c_0 aN) aN))))) aN))))
 sN)
 (b_7 (sIf (tB (e2 dEq (eV 3) (zI 2)))
 (b_7 (d_5 4 (e2 b_5 (eV 2) (e2 i_7 (eFb 0 a_1 aN) (zI 9))))
 (g_0 (s_3 (aC (c_0 (aC (zR "put") (aC (zR "xa") (aC (c_0 (aC (eV 1) aN)) (aC (c_0 (aC (c_0 (aC (eV 4) (aC (zR "q") aN))) aN)) aN))))) (aC (c_0 (aC (zR "pour") (aC (zR "xb") (aC (c_0 (aC (eV 1) (aC (zR "xa") aN))) (aC (c_0 aN) aN))))) aN)))))
 sN)
 (g_0 (s_3 (aC (c_0 (aC (zR "later") (aC (zR "xa") (aC (c_0 (aC (eV 1) aN)) (aC (c_0 (aC (zI 3) aN)) aN))))) (aC (c_0 (aC (zR "later") (aC (zR "xc") (aC (c_0 (aC (eV 1) aN)) (aC (c_0 (aC (zI 5) aN)) aN))))) (aC (c_0 (aC (zR "pour") (aC (zR "xb") (aC (c_0 (aC (zR "xc") (aC (zR "xa") aN))) (aC (c_0 aN) aN))))) aN)))))))))
def e_2:MO->List D->Option (D×MO):=fnB 2 2 l_3
def c_8:List D->Option D:=as1 c_1
def bv9:FS :=
 (b_7 (bl3 1 k_0 (aC (eV 0) aN))
 (b_7 (d_5 2 (eFb 1 m_0 aN))
 (b_7 (d_5 3 (eF h_5 (aC (eFb 1 h_6 (aC (eV 2) aN)) aN)))
 (b_7 (d_5 4 (e2 b_5 (e2 b_5 (eV 3) (e2 i_7 (eFb 1 a_1 aN) (eF s_4 (aC (eV 3) aN)))) (zI 1)))
 (b_7 (d_5 5 (s_3 (aC (c_0 (aC (zR "ever") (aC (zR "ya") (aC (c_0 (aC (e2 b_5 (e2 b_5 (eV 3) (e1 aT1 (zI 1))) (zI 1)) aN)) (aC (c_0 (aC (zR "count") aN)) aN))))) (aC (c_0 (aC (zR "ask") (aC (zR "yb") (aC (c_0 (aC (zR "ya") aN)) (aC (c_0 aN) aN))))) aN))))
 (b_7 (sIf (tB (e2 dNe (eF c_8 (aC (e2 i_1 (eV 3) (eV 5)) aN)) (c_0 (aC (zR "done") (aC (eC .non) aN)))))
 (g_0 (eC (.bl false)))
 sN)
 (b_7 (sIf (tB (e2 dEq (e2 i_7 (eFb 1 a_1 aN) (zI 2)) (zI 1)))
 (d_5 10 (eFb 1 f_4 (aC (eV 4) (aC (eV 2) aN))))
 (d_5 10 (eFb 1 e_2 (aC (eV 4) (aC (eV 2) aN)))))
 (b_7 (d_5 6 (e2 L_5 (e2 i_1 (eF s_4 (aC (eV 3) aN)) (eF s_4 (aC (eV 10) aN))) (zI 1)))
 (b_7 (d_5 7 (e2 b_5 (s_3 (aC (c_0 (aC (zR "later") (aC (zR "xd") (aC (c_0 (aC (zR "xb") aN)) (aC (c_0 (aC (zI 1) aN)) aN))))) (aC (c_0 (aC (zR "pour") (aC (zR "xd") (aC (c_0 (aC (eV 4) (aC (zR "xb") aN))) (aC (c_0 aN) aN))))) aN))) (e2 i_7 (eFb 1 a_1 aN) (zI 2))))
 (b_7 (d_5 8 (e2 i_1 (e2 i_1 (eV 3) (eV 10)) (s_3 (aC (eV 7) aN))))
 (b_7 (sIf (tB (e2 dEq (e2 i_7 (eFb 1 a_1 aN) (zI 2)) (zI 1)))
 (b_7 (d_5 8 (e2 i_1 (e2 i_1 (eV 3) (eV 5)) (eV 10)))
 (d_5 6 (e2 i_1 (eV 6) (zI 2))))
 sN)
 (b_7 (d_5 9 (eF af1 (aC (eV 8) aN)))
 (g_0 (aL9 (e2 dEq (eF c_8 (aC (eV 8) aN)) (c_0 (aC (eC (.bl true)) (aC (eV 6) aN)))) (aL9 (e2 dEq (eV 8) (eV 9)) (e2 dEq (eF c_8 (aC (e2 i_1 (eV 3) (L_4 (eV 10) oN (oS (e1 aT1 (zI 1))))) aN)) (c_0 (aC (zR "done") (aC (eC .non) aN)))))))))))))))))))
def ac7:List D->Option D:=fnD 1 10 bv9
end
end Fx
namespace Fx
open PySem PySem.Spec PyProof.Rows L2
noncomputable def top (i:Nat):Stmt:=PySem.Challenge.pw_latewell_k45_works_refused.main.body.getD i (.Pass ⟨0,0,0,0⟩)
abbrev ag7:Stmt:=match top 28 with
 |.ClassDef _ _ _ b ..=>b.getD 0 (.Pass ⟨0,0,0,0⟩)
 |s=>s
theorem xG {X:Cx}{k j:Nat}{x:Str}{g:List D → Option D}{A:FA}{p pos:Pos}{e:Expr}{es:List Expr} (G:DefOk X.prog X.w X.K X.mg X.base k x g) (Y:Room j X.A) (ha:XA X (e::es) A) (O:k ≤ j:=by decide) (hg:Gl X x:=by rfl) (J:(x==("__debug__":Str))=false:=by decide)
  (Z:starEach (e::es) X.env=(false,eval e X.env)::starEach es X.env:=by rfl) (q:(backTo pos (starEach es X.env)).any (·.1)=false:=by rfl):XE X (.Call (.Name x p) (e::es) [] pos) (eF g A):=xF G (Y.mono O) ha hg J Z q
theorem scO {N P:List Str}{sc:Scope} (a:sc.kind=.function:=by rfl) (b:sc.isCoroutine=false:=by rfl) (c:sc.isGenerator=false:=by rfl) (d:N.Nodup:=by decide +kernel) (e:N.take P.length=P:=by rfl) (f:∀ x∈P,sc.names.lookup x=some .local\/sc.names.lookup x=some .cell:=by decide +kernel) (g:∀ y∈sc.names,y.2≠.free:=by decide +kernel):FnScope N P sc:=⟨a,b,c,d,e,f,g⟩
theorem scB {N:List Str}{sc scope:Scope}{x:Str}{frees:List Str}{js:List Nat} (a:scope.kind=.function:=by rfl) (b:sc.kind=.function:=by rfl) (c:∀ y∈scope.names,y.2≠.cell:=by decide +kernel) (d:∀ y∈scope.names,y.2=.local->scope.names.lookup y.1=some .local:=by decide +kernel) (e:scope.names.lookup x=some .local:=by rfl) (f:∀ y∈scope.names,y.2=.free->sc.names.lookup y.1=some .cell:=by decide +kernel) (g:(x::frees).Nodup:=by decide +kernel) (h:frees.length=js.length:=by rfl) (i:∀ p∈frees.zip js,N[p.2]?=some p.1/\sc.names.lookup p.1=some .cell/\scope.names.lookup p.1=some .free:=by decide +kernel):ScB N sc scope x frees js:=⟨a,b,c,d,e,f,g,h,i⟩
structure Blt (w:World) (K:Frag) (mg:Str->Option Value):Prop where
 z_abs:mg "abs"=none
 z_len:mg "len"=none
 z_max:mg "max"=none
 z_min:mg "min"=none
 z_any:mg "any"=none
 z_all:mg "all"=none
 z_range:mg "range"=none
 z_isinstance:mg "isinstance"=none
 z_int:mg "int"=none
 z_bool:mg "bool"=none
 z_str:mg "str"=none
 z_tuple:mg "tuple"=none
 z_list:mg "list"=none
 z_sorted:mg "sorted"=none
 z_dict:mg "dict"=none
 z_set:mg "set"=none
 z_sum:mg "sum"=none
 z_zip:mg "zip"=none
 z_enumerate:mg "enumerate"=none
 z_reversed:mg "reversed"=none
 c_EVERY_KEY:∃ a,mg "EVERY_KEY"=some (.ref a) ∧ KV1 K (.tup [(.str "but"),(.tup [])]) (.ref a)
 c_EVERY_VALUE:∃ a,mg "EVERY_VALUE"=some (.ref a) ∧ KV1 K (.tup [.non,.non,(.int 1),(.int 0)]) (.ref a)
 c_CHAINS:∃ a,mg "CHAINS"=some (.ref a) ∧ KV1 K (.tup [(.str "in"),(.str "time"),(.str "only"),(.str "but"),(.str "span"),(.str "rest"),(.str "turn"),(.str "later"),(.str "put"),(.str "pour")]) (.ref a)
 xn:∃ c0 c2 fI fd d1 d2 d3 d4,XWk K mg ag7 c0 c2 fI fd d1 d2 d3 d4
structure Pl (e:Expr):Prop where
 st:∀ es env,starEach (e::es) env=(false,eval e env)::starEach es env
 sw:∀ t l env,swapsWith e t l env=pure false
 im:∀ op,behindInMarks op e=false
 ix:T_1 e
noncomputable def plB:Expr->Bool
 |.Starred .. | .ListComp .. | .SetComp .. | .DictComp .. | .Set .. | .Slice ..=>false
 |_=>true
theorem S_2 (h:plB e=true):Pl e:=by cases e <;> first | exact⟨λ _ _=>rfl,λ _ _ _=>rfl,λ _=>rfl,λ _ _=>rfl⟩ | cases h
noncomputable abbrev Cal:=Str×((List D->Option D) ⊕ (MO->List D->Option (D×MO)))
def bi9 (X:Cx):Cal->Prop
 |(x,.inl g)=>∃ k,DefOk X.prog X.w X.K X.mg X.base k x g/\Room k X.A
 |(x,.inr g)=>∃ k,DefB X.prog X.w X.K X.mg X.base k x g/\Room k X.A
structure Ox (N:List Str) (sc:Scope) (C:List Cal) (X:Cx):Prop where
 n:X.N=N
 s:X.env.scope=sc
 ca:X.calm=true
 u:X.A.units+64<cLine
 t:Blt X.w X.K X.mg
 c:∀ c∈C,bi9 X c
noncomputable def ixO:(N:List Str)->(x:Str)->Option {i:Nat // N[i]?=some x}
 |[],_=>none
 |y::r,x=>if h:y=x then some ⟨0,by rw[h];rfl⟩ else (ixO r x).map λ i=>⟨i.1+1,i.2⟩
def fdC:(C:List Cal)->(x:Str)->Option {s:(List D->Option D) ⊕ (MO->List D->Option (D×MO)) // (x,s)∈C}
 |[],_=>none
 |(y,s)::r,x=>if h:y=x then some ⟨s,h▸.head _⟩ else (fdC r x).map λ d=>⟨d.1,.tail _ d.2⟩
def opO:(op:Operator)->Option {f:D->D->Option D // ∀ X,Z_7 X op f}
 |.Add=>some ⟨i_1,λ _=>l_5⟩
 |.Sub=>some ⟨L_5,λ _=>T_2⟩
 |.Mult=>some ⟨Y_1,λ _=>ac2⟩
 |.FloorDiv=>some ⟨aM8,λ _=>ba3⟩
 |.Mod=>some ⟨i_7,λ _=>j_9⟩
 |.Pow=>some ⟨bL0,λ _=>ca4⟩
 |_=>none
def cpO:(op:CmpOp)->Option {f:D->D->Option D // ∀ X:Cx,X.A.units+64<cLine->B_1 X op f}
 |.Is=>some ⟨dIs,λ _ _=>cIs⟩
 |.IsNot=>some ⟨Y_2,λ _ _=>aD8⟩
 |.Lt=>some ⟨dLt,λ _ _=>cLt⟩
 |.LtE=>some ⟨dLe,λ _ _=>cLe⟩
 |.Gt=>some ⟨dGt,λ _ _=>cGt⟩
 |.Eq=>some ⟨dEq,λ _=>cEq⟩
 |.NotEq=>some ⟨dNe,λ _=>cNe⟩
 |.In=>some ⟨aE9,λ _ _=>bL5⟩
 |_=>none
section
variable (N:List Str) (sc:Scope) (C:List Cal)
abbrev RE (e:Expr):={F:FE // ∀ X,Ox N sc C X->XE X e F}
abbrev RT (e:Expr):={F:FT // ∀ X,Ox N sc C X->XT X e F}
abbrev RW (e:Expr):={F:FT // ∀ X,Ox N sc C X->XW X e F}
abbrev RO (e:Option Expr):={F:FO // ∀ X,Ox N sc C X->XO X e F}
abbrev RA (es:List Expr):={F:FA // ∀ X,Ox N sc C X->XA X es F/\∀ pos env,(backTo pos (starEach es env)).any (·.1)=false}
abbrev Gk (x:Str):Prop:=sc.names.lookup x=some .globalImplicit ∧ (x==("__debug__":Str))=false
abbrev Vk (x:Str):Prop:=(sc.names.lookup x=some .local ∨ sc.names.lookup x=some .cell ∨ sc.names.lookup x=some .free) ∧ (x==("__debug__":Str))=false ∧ (x==("__classdict__":Str))=false
variable {N sc C}
theorem Ox.vv (k:Ox N sc C X) (i:{i:Nat // N[i]?=some x}) (h:Vk sc x):XE X (.Name x pos) (eV i.1):=xv i.1 (k.n▸i.2) (k.s▸h.1) h.2.1 h.2.2
theorem Ox.gl (k:Ox N sc C X) (h:Gk sc x):Gl X x:=by unfold Gl Env.kindOf;rw[k.s];exact h.1
theorem Ox.ff (k:Ox N sc C X) (m:(x,.inl g)∈C) (J:Gk sc x) (Z:XA X (e::es) A) (O:Pl e) (Y:∀ pos env,(backTo pos (starEach (e::es) env)).any (·.1)=false):XE X (.Call (.Name x p) (e::es) [] pos) (eF g A):=by obtain⟨j,G,r⟩:=k.c _ m;have q:=Y pos X.env;rw[O.st] at q;exact xF G r Z (k.gl J) J.2 (O.st ..) q
theorem Ox.bb (k:Ox N sc C X) (m:(x,.inr g)∈C) (q:Gk sc x) (i:{i:Nat // N[i]?=some y}) (h:Vk sc y) (O:XA X es A) (J:∀ pos env,(backTo pos (starEach es env)).any (·.1)=false):XE X (.Call (.Name x p) (.Name y py::es) [] pos) (eFb i.1 g A):=by obtain⟨j,G,r⟩:=k.c _ m;exact xFb i.1 G r O (k.n▸i.2) (k.gl q) (k.s▸h.1) q.2 h.2.1 h.2.2 (J ..)
def bv7 (X:Cx) (x:Str) (g:List D → Option D):Prop:=X.mg x=none ∧ x≠"__name__" ∧ ((∃ i,BOk X (.builtin i) g ∧ bootBuiltins x=some (.builtin i)) ∨ ∃ i,BOk X (.type i) g ∧ bootBuiltins x=some (.type i))
theorem Ox.kk (k:Ox N sc C X) (b:bv7 X x g) (J:Gk sc x) (Y:XA X (e::es) A) (O:Pl e) (Z:∀ pos env,(backTo pos (starEach (e::es) env)).any (·.1)=false):XE X (.Call (.Name x p) (e::es) [] pos) (eF g A):=by
 obtain⟨m,n,b⟩:=b;have q:=Z pos X.env;rw[O.st] at q;rcases b with ⟨i,o,v⟩ | ⟨i,o,v⟩
 ·exact xB o (k.gl J) m v Y n J.2 (O.st ..) q
 ·exact xTy o (k.gl J) m v Y n J.2 (O.st ..) q
def blO (x:Str):Option {g:List D->Option D // ∀ X:Cx,Blt X.w X.K X.mg->X.calm=true->bv7 X x g} :=
 if h:x="len" then some ⟨s_4,λ X t c=>h▸⟨t.z_len,by decide,.inl ⟨_,l_2,PySem.boot_len⟩⟩⟩ else
 if h:x="tuple" then some ⟨q_1,λ X t c=>h▸⟨t.z_tuple,by decide,.inr ⟨_,i_8,boot_tuple⟩⟩⟩ else
 if h:x="max" then some ⟨bi7,λ X t c=>h▸⟨t.z_max,by decide,.inl ⟨_,(ae7 c),boot_max⟩⟩⟩ else
 if h:x="min" then some ⟨bw2,λ X t c=>h▸⟨t.z_min,by decide,.inl ⟨_,(aD7 c),boot_min⟩⟩⟩ else
 if h:x="abs" then some ⟨aO0,λ X t c=>h▸⟨t.z_abs,by decide,.inl ⟨_,H_5,boot_abs⟩⟩⟩ else
 if h:x="int" then some ⟨bg7,λ X t c=>h▸⟨t.z_int,by decide,.inr ⟨_,S_1,boot_int⟩⟩⟩ else
 if h:x="list" then some ⟨af1,λ X t c=>h▸⟨t.z_list,by decide,.inr ⟨_,aN4,boot_list⟩⟩⟩ else
 if h:x="dict" then some ⟨aq5,λ X t c=>h▸⟨t.z_dict,by decide,.inr ⟨_,(aN5 c),boot_dict⟩⟩⟩ else
 if h:x="sorted" then some ⟨A_8,λ X t c=>h▸⟨t.z_sorted,by decide,.inl ⟨_,M_0,boot_sorted⟩⟩⟩ else
 none
def csO (x:Str) (p:Pos):Option (RE N sc C (.Name x p)) :=
 if h:x="EVERY_KEY" ∧ Gk sc x then some ⟨eC (.tup [(.str "but"),(.tup [])]),λ X k=>aF3 (h.1▸k.t.c_EVERY_KEY) (k.gl h.2) h.2.2⟩ else
 if h:x="EVERY_VALUE" ∧ Gk sc x then some ⟨eC (.tup [.non,.non,(.int 1),(.int 0)]),λ X k=>aF3 (h.1▸k.t.c_EVERY_VALUE) (k.gl h.2) h.2.2⟩ else
 if h:x="CHAINS" ∧ Gk sc x then some ⟨eC (.tup [(.str "in"),(.str "time"),(.str "only"),(.str "but"),(.str "span"),(.str "rest"),(.str "turn"),(.str "later"),(.str "put"),(.str "pour")]),λ X k=>aF3 (h.1▸k.t.c_CHAINS) (k.gl h.2) h.2.2⟩ else
 none
abbrev Sx (X:Cx):Prop:=Ox N sc C X/\X.N.Nodup/\∀ x,X.fn x=true
noncomputable abbrev Rkx {α:Type} (P:Cx->Prop) (Q:Cx->α->Prop):=Option {F:α // ∀ X,P X->Q X F}
variable {α β γ δ:Type}
def rk1 (x:Rkx P Q) (f:α->β) (h:∀ {X}{F:α},P X->Q X F->S X (f F)):Rkx P S:=x.map λ F=>⟨f F.1,λ X k=>h k (F.2 X k)⟩
def rk2 (x:Rkx P Q) (y:Rkx P R) (f:α->β->γ) (h:∀ {X}{F:α}{G:β},P X->Q X F->R X G->S X (f F G)):Rkx P S:=x.bind λ F=>rk1 y (f F.1) λ k=>h k (F.2 _ k)
def rk3 (x:Rkx P Q) (y:Rkx P R) (z:Rkx P S) (f:α->β->γ->δ) (h:∀ {X}{F:α}{G:β}{L:γ},P X->Q X F->R X G->S X L->U X (f F G L)):Rkx P U:=x.bind λ F=>rk2 y z (f F.1) λ k=>h k (F.2 _ k)
mutual
noncomputable def cE:Nat->(e:Expr)->Option (RE N sc C e)
 |n+1,.Name x p=>match ixO N x with
  |some i=>if h:Vk sc x then some ⟨eV i.1,λ _ k=>k.vv i h⟩ else none
  |none=>csO x p
 |n+1,.Constant (.int i) _ _=>some ⟨eC (.int i),λ _ _=>a_4⟩
 |n+1,.Constant (.str i) _ _=>some ⟨eC (.str i),λ _ _=>d_0⟩
 |n+1,.Constant (.bool i) _ _=>some ⟨eC (.bl i),λ _ _=>xbl⟩
 |n+1,.Constant .none _ _=>some ⟨eC .non,λ _ _=>l_4⟩
 |n+1,.BinOp a op b _=>(opO op).bind λ o=>rk2 (cE n a) (cE n b) (e2 o.1) λ _=>xb (o.2 _)
 |n+1,.Compare a [op] [b] _=>(cpO op).bind λ o=>if h:plB b=true then rk2 (cE n a) (cE n b) (e2 o.1) λ k x y=>Z_8 (o.2 _ k.u) x y ((S_2 h).im _) else none
 |n+1,.IfExp c a b _=>rk3 (cT n c) (cE n a) (cE n b) eIf λ _=>xif
 |n+1,.UnaryOp .USub a _=>rk1 (cE n a) (e1 aT1) λ _=>bw7
 |n+1,.BoolOp _ [a] _=>rk1 (cE n a) id λ _=>bj3
 |n+1,.BoolOp .And (a::b::r) p=>rk2 (cE n a) (cE n (.BoolOp .And (b::r) p)) aL9 λ _=>bw8
 |n+1,.BoolOp .Or (a::b::r) p=>rk2 (cE n a) (cE n (.BoolOp .Or (b::r) p)) eOr λ _=>xor
 |n+1,.Tuple es _ _=>rk1 (cA n es) c_0 λ _ x=>l_8 x.1
 |n+1,.List es _=>rk1 (cA n es) s_3 λ _ x=>J_8 x.1
 |n+1,.Subscript a (.Slice lo hi none _) _=>rk3 (cE n a) (cO n lo) (cO n hi) L_4 λ _=>aU0
 |n+1,.Subscript (.Name x _) (.Constant (.str s) _ _) _=>(ixO N x).bind λ i=>if h:Vk sc x then some ⟨eDG i.1 s,λ X k=>xdg i.1 (by have:=k.u;omega) (k.n▸i.2) (k.s▸h.1) h.2.1 h.2.2⟩ else none
 |n+1,.Subscript a b _=>if h:plB b=true then rk2 (cE n a) (cE n b) (e2 b_5) λ _ x y=>d_3 x y (S_2 h).ix else none
 |n+1,.Call (.Name x _) es [] _=>match fdC C x,es with
  |some ⟨.inl g,m⟩,e::r=>if h:plB e=true/\Gk sc x then rk1 (cA n (e::r)) (eF g) λ k a=>k.ff m h.2 a.1 (S_2 h.1) a.2 else none
  |some ⟨.inr g,m⟩,.Name y _::r=>(ixO N y).bind λ i=>if h:Gk sc x/\Vk sc y then rk1 (cA n r) (eFb i.1 g) λ k a=>k.bb m h.1 i h.2 a.1 a.2 else none
  |none,e::r=>(blO x).bind λ b=>if h:plB e=true/\Gk sc x then rk1 (cA n (e::r)) (eF b.1) λ k a=>k.kk (b.2 _ k.t k.ca) h.2 a.1 (S_2 h.1) a.2 else none
  |_,_=>none
 |_,_=>none
noncomputable def cT:Nat->(e:Expr)->Option (RT N sc C e)
 |n+1,.Compare a [op] [b] _=>(cpO op).bind λ o=>if h:plB b=true then rk2 (cE n a) (cE n b) (λ x y=>tB (e2 o.1 x y)) λ k x y=>xt (o.2 _ k.u) x y ((S_2 h).im _) else none
 |n+1,.Compare a [op,op'] [b,m] _=>(cpO op).bind λ o=>(cpO op').bind λ p=>if h:plB m=true then rk3 (cE n a) (cE n b) (cE n m) (λ x y z=>tB (e3 o.1 p.1 x y z)) λ k x y z=>xt3 (o.2 _ k.u) (p.2 _ k.u) x y z ((S_2 h).im _) else none
 |n+1,.BoolOp op l p=>rk1 (cW n (.BoolOp op l p)) id λ _=>xw
 |n+1,.UnaryOp .Not a _=>rk1 (cT n a) tNot λ _=>aT9
 |n+1,.Name x p=>rk1 (cE n (.Name x p)) tV λ _ x=>xtv x λ _=>rfl
 |n+1,.Call f l m p=>rk1 (cE n (.Call f l m p)) tV λ _ x=>xtv x λ _=>rfl
 |n+1,.Subscript a b p=>rk1 (cE n (.Subscript a b p)) tV λ _ x=>xtv x λ _=>rfl
 |_,_=>none
noncomputable def cW:Nat->(e:Expr)->Option (RW N sc C e)
 |n+1,.BoolOp .And [a] _=>rk1 (cT n a) id λ _=>v_0
 |n+1,.BoolOp .Or [a] _=>rk1 (cT n a) id λ _=>aa3
 |n+1,.BoolOp .And (a::b::r) p=>rk2 (cT n a) (cW n (.BoolOp .And (b::r) p)) tAnd λ _=>E_8
 |n+1,.BoolOp .Or (a::b::r) p=>rk2 (cT n a) (cW n (.BoolOp .Or (b::r) p)) tOr λ _=>aT7
 |_,_=>none
noncomputable def cO:Nat->(e:Option Expr)->Option (RO N sc C e)
 |n+1,some e=>rk1 (cE n e) oS λ _=>xoS
 |n+1,none=>some ⟨oN,λ _ _=>xoN⟩
 |_,_=>none
noncomputable def cA:Nat->(es:List Expr)->Option (RA N sc C es)
 |n+1,[]=>some ⟨aN,λ _ _=>⟨xaN,λ _ _=>rfl⟩⟩
 |n+1,e::es=>if h:plB e=true then rk2 (cE n e) (cA n es) aC λ _ x a=>⟨xaC x a.1 ((S_2 h).st ..),λ pos env=>by rw[(S_2 h).st];exact a.2 pos env⟩ else none
 |_,_=>none
noncomputable def cS:Nat->(s:Stmt)->Option {F:FS // ∀ X,Sx (N:=N) (sc:=sc) (C:=C) X->XS X s F}
 |n+1,.Assign [.Name x _] e _=>(ixO N x).bind λ i=>if h:plB e=true/\(sc.names.lookup x=some .local\/sc.names.lookup x=some .cell) then (cE n e).map λ F=>⟨d_5 i.1 F.1,λ X k=>i_5 i.1 k.2.1 (F.2 X k.1) (k.1.n▸i.2) (k.1.s▸h.2) ((S_2 h.1).sw ..) (.inl (k.2.2 x))⟩ else none
 |n+1,.Assign [.Subscript (.Name x _) (.Constant (.str s) _ _) _] e _=>(ixO N x).bind λ i=>if h:plB e=true/\Vk sc x then (cE n e).map λ F=>⟨sDP i.1 s F.1,λ X k=>xdp i.1 (by have:=k.1.u;omega) (F.2 X k.1) (k.1.n▸i.2) (k.1.s▸h.2.1) h.2.2.1 h.2.2.2 ((S_2 h.1).sw ..)⟩ else none
 |n+1,.Return (some e) _=>(cE n e).map λ F=>⟨g_0 F.1,λ X k=>i_6 (F.2 X k.1)⟩
 |n+1,.If c a b _=>(cT n c).bind λ T=>rk2 (cSs n a) (cSs n b) (sIf T.1) λ k=>o_0 (T.2 _ k.1)
 |_,_=>none
noncomputable def cSs:Nat->(s:List Stmt)->Option {F:FS // ∀ X,Sx (N:=N) (sc:=sc) (C:=C) X->XSs X s F}
 |n+1,[]=>some ⟨sN,λ _ _=>xsN⟩
 |n+1,[s]=>rk1 (cS n s) id λ _=>xs1
 |n+1,s::t::r=>rk2 (cS n s) (cSs n (t::r)) b_7 λ _=>xsC
 |_,_=>none
end
theorem go {o:Rkx P R}{F:α}{X:Cx} (k:P X) (h:o.map (·.1)=some F:=by kernel_rfl):R X F:=by
 cases o with
 |none=>cases h
 |some q=>cases h;exact q.2 X k
end
section
variable {P:Program}{w:World}{K:Frag}{mg:Str->Option Value}{base:Heap}
def aa1 (P:Program) (w:World) (K:Frag) (mg:Str->Option Value) (base:Heap) (j:Nat) (L:List Cal):Prop:=∀ c∈L,match c with
 |(x,.inl g)=>∃ k,k<=j/\DefOk P w K mg base k x g
 |(x,.inr g)=>∃ k,k<=j/\DefB P w K mg base k x g
theorem rf0:aa1 P w K mg base j []:=λ _ h=>nomatch h
theorem rf1 (G:DefOk P w K mg base k x g) (r:aa1 P w K mg base j L) (h:k<=j:=by first | decide | omega):aa1 P w K mg base j ((x,.inl g)::L):=List.forall_mem_cons.mpr ⟨⟨k,h,G⟩,r⟩
theorem rf2 (G:DefB P w K mg base k x g) (r:aa1 P w K mg base j L) (h:k<=j:=by first | decide | omega):aa1 P w K mg base j ((x,.inr g)::L):=List.forall_mem_cons.mpr ⟨⟨k,h,G⟩,r⟩
variable {X:Cx}{N:List Str}{sc:Scope}{C L:List Cal}{j:Nat}
theorem am4 {ps:List Str} (S:FnScope N ps sc) (T:Blt X.w X.K X.mg) (J:Room j X.A) (O:aa1 X.prog X.w X.K X.mg X.base j L) (n:X.N=N:=by rfl) (s:X.env.scope=sc:=by rfl) (ca:X.calm=true:=by rfl) (f:∀ x,X.fn x=true:=by intro;rfl):Sx (N:=N) (sc:=sc) (C:=L) X :=
 ⟨⟨n,s,ca,J.units,T,λ c m=>by
  have q:=O c m;obtain⟨x,g | g⟩:=c
  ·obtain⟨k,a,b⟩:=q;exact⟨k,b,J.mono a⟩
  ·obtain⟨k,a,b⟩:=q;exact⟨k,b,J.mono a⟩⟩,n▸S.nd,f⟩
theorem rfC {D:Addr} (k:Sx (N:=N) (sc:=sc) (C:=C) X):Ox N' (relabel scope X.env) C (cxB X N' scope s H D fp) :=
 ⟨rfl,rfl,k.1.ca,k.1.u,k.1.t,λ c m=>by
  have q:=k.1.c c m;obtain⟨x,g | g⟩:=c <;> exact q⟩
theorem rfE (k:Ox N sc C X) (h:(cE (N:=N) (sc:=sc) (C:=C) 99 e).map (·.1)=some F:=by kernel_rfl):XE X e F:=go k h
theorem rfT (k:Ox N sc C X) (h:(cT (N:=N) (sc:=sc) (C:=C) 99 e).map (·.1)=some F:=by kernel_rfl):XT X e F:=go k h
theorem rfA (k:Ox N sc C X) (h:(cA (N:=N) (sc:=sc) (C:=C) 99 e).map (·.1)=some F:=by kernel_rfl):XA X e F:=(go (R:=λ X F=>XA X e F/\∀ pos env,(backTo pos (starEach e env)).any (·.1)=false) k h).1
theorem rfS (k:Sx (N:=N) (sc:=sc) (C:=C) X) (h:(cS (N:=N) (sc:=sc) (C:=C) 99 e).map (·.1)=some F:=by kernel_rfl):XS X e F:=go k h
theorem rfB (k:Sx (N:=N) (sc:=sc) (C:=C) X) (h:(cSs (N:=N) (sc:=sc) (C:=C) 99 e).map (·.1)=some F:=by kernel_rfl):XSs X e F:=go k h
def Dn (K:Frag) (mg:Str->Option Value) (x:Str) (st:Stmt) (ps:List Str):Prop:=∃ f fd,Fun K x x st f fd/\Binds K fd ps []/\mg x=some (.ref f)
variable {x:Str}{st:Stmt}{ps:List Str}{n m:Nat}{B:FS}
theorem dnF (D:Dn K mg x st ps) (S:FnScope N ps (a_2 st)) (Y:∀ (f:Addr) (q:Value) (A:Around) (outer:List Env) (s:Shared) (H:Hp) (E:XK),Room j (A.deeper (envOfC x (a_2 st) s.heap.objs.size f q))->XSs (R_5 CX0 P w K mg base N x (a_2 st) f q A outer s H E).nox (k_2 st) B) (O:ps.length=n:=by rfl) (J:N.length=n+m:=by rfl):DefOk P w K mg base (j+1) x (fnD n m B):=by obtain⟨f,fd,F,b,h⟩:=D;exact⟨f,fd,ps,k_7 F S O J (Y f),b,F.kp,h⟩
theorem dnB (D:Dn K mg x st ps) (S:FnScope N ps (a_2 st)) (Y:∀ (f:Addr) (q:Value) (A:Around) (outer:List Env) (s:Shared) (H:Hp) (E:XK),Room j (A.deeper (envOfC x (a_2 st) s.heap.objs.size f q))->XSs (R_5 CX0 P w K mg base N x (a_2 st) f q A outer s H E).nox (k_2 st) B) (O:ps.length=n+1:=by rfl) (J:N.length=n+1+m:=by rfl):DefB P w K mg base (j+1) x (fnB n m B):=by obtain⟨f,fd,F,b,h⟩:=D;exact⟨f,fd,ps,y_9 F S O J (Y f),b,F.kp,h⟩
theorem rfD (D:Dn K mg x st ps) (S:FnScope N ps (a_2 st)) (T:Blt w K mg) (J:aa1 P w K mg base j L) (Y:ps.length=n:=by rfl) (O:N.length=n+m:=by rfl) (Z:(cSs (N:=N) (sc:=a_2 st) (C:=L) 99 (k_2 st)).map (·.1)=some B:=by kernel_rfl):DefOk P w K mg base (j+1) x (fnD n m B) :=
 dnF D S (λ _ _ _ _ _ _ _ q=>rfB (am4 S T q J) Z) Y O
theorem rfP (D:Dn K mg x st ps) (S:FnScope N ps (a_2 st)) (T:Blt w K mg) (J:aa1 P w K mg base j L) (Y:ps.length=n+1:=by rfl) (O:N.length=n+1+m:=by rfl) (Z:(cSs (N:=N) (sc:=a_2 st) (C:=L) 99 (k_2 st)).map (·.1)=some B:=by kernel_rfl):DefB P w K mg base (j+1) x (fnB n m B) :=
 dnB D S (λ _ _ _ _ _ _ _ q=>rfB (am4 S T q J) Z) Y O
theorem rfK (S:FnScope N ps sc) (T:Blt X.w X.K X.mg) (q:Room j X.A) (J:aa1 X.prog X.w X.K X.mg X.base j L) (f:Sx (N:=N) (sc:=sc) (C:=L) X->XSs X sts B) (n:X.N=N:=by rfl) (s:X.env.scope=sc:=by rfl) (ca:X.calm=true:=by rfl) (h:∀ x,X.fn x=true:=by intro;rfl):XSs X sts B:=f (am4 S T q J n s ca h)
theorem rfN {B:En->Option (List D×MO)} (S:FnScope N ps sc) (T:Blt X.w X.K X.mg) (q:Room j X.A) (J:aa1 X.prog X.w X.K X.mg X.base j L) (f:Sx (N:=N) (sc:=sc) (C:=L) X->XBN X sts B) (n:X.N=N:=by rfl) (s:X.env.scope=sc:=by rfl) (ca:X.calm=true:=by rfl) (h:∀ x,X.fn x=true:=by intro;rfl):XBN X sts B:=f (am4 S T q J n s ca h)
end
section
variable {P:Program}{w:World}{K:Frag}{mg:Str->Option Value}{base:Heap}
abbrev r_3:Stmt:=top 2
theorem S00:FnScope ["keys","key"] ["keys","key"] (a_2 r_3):=scO
theorem W_1 (F:Dn K mg "keys_hold" r_3 ["keys","key"]) (T:Blt w K mg) :DefOk P w K mg base 1 "keys_hold" e_8 :=
 rfD F S00 T rf0
abbrev f_6:Stmt:=top 3
noncomputable abbrev v_8:List Str:=["one","other","names"]
theorem S01:FnScope v_8 ["one","other"] (a_2 f_6):=scO
theorem J_4 (F:Dn K mg "keys_meet" f_6 ["one","other"]) (T:Blt w K mg):DefOk P w K mg base 2 "keys_meet" r_7 :=
 dnF F S01 (λ _ J A outer s H E O=>λ _ _ _ _ _ _ q=>by obtain⟨_,_,_,_,_,e,_⟩:=q;exact nomatch e)
theorem J_3 (F:Dn K mg "keys_meet" f_6 ["one","other"]) (T:Blt w K mg) (J:DefOk P w K mg base 2 "keys_meet" r_7) (q:DefOk P w K mg base 1 "keys_hold" e_8):DefOk P w K mg base 3 "keys_meet" j_3 :=
 dnF F S01 (λ _ Y A outer s H E O=>rfK S01 T O (rf1 J (rf1 q rf0)) λ k=>xsC (o_0 (rfT k.1) (xs1 (i_6 (l_8 (xaC d_0 (xaC (xTy i_8 rfl T.z_tuple j7 (xaC (ar3 T.z_set T.z_sorted (rfE k.1) (rfE k.1)) xaN)) xaN))))) xsN) (xsC (rfS k) (xsC (i_5 2 S01.nd (xTy i_8 rfl T.z_tuple j7 (xaC (xlc (sc:=a_2 f_6) rfl rfl (by show ScB v_8 (a_2 f_6) _ "name" ["other"] [1] ;exact scB) (rfE k.1) (λ _ _ _ _=>(E_9 (rfT (rfC k)))) (λ _ _ _ _=>(xv 0))) xaN))) (rfB k))))
theorem O_0 (F:Dn K mg "keys_meet" f_6 ["one","other"]) (T:Blt w K mg) (J:DefOk P w K mg base 3 "keys_meet" j_3) (q:DefOk P w K mg base 1 "keys_hold" e_8):DefOk P w K mg base 4 "keys_meet" d_8 :=
 dnF F S01 (λ _ Y A outer s H E O=>rfK S01 T O (rf1 J (rf1 q rf0)) λ k=>xsC (o_0 (rfT k.1) (xs1 (i_6 (l_8 (xaC d_0 (xaC (xTy i_8 rfl T.z_tuple j7 (xaC (ar3 T.z_set T.z_sorted (rfE k.1) (rfE k.1)) xaN)) xaN))))) xsN) (xsC (rfS k) (xsC (i_5 2 S01.nd (xTy i_8 rfl T.z_tuple j7 (xaC (xlc (sc:=a_2 f_6) rfl rfl (by show ScB v_8 (a_2 f_6) _ "name" ["other"] [1] ;exact scB) (rfE k.1) (λ _ _ _ _=>(E_9 (rfT (rfC k)))) (λ _ _ _ _=>(xv 0))) xaN))) (rfB k))))
theorem W_0 (F:Dn K mg "keys_meet" f_6 ["one","other"]) (T:Blt w K mg) (q:DefOk P w K mg base 1 "keys_hold" e_8):DefOk P w K mg base 4 "keys_meet" d_8:=O_0 F T (J_3 F T (J_4 F T) q) q
abbrev e_4:Stmt:=top 4
noncomputable abbrev o_6:List Str:=["keys","table","others","stay","become","names"]
theorem S02:FnScope o_6 ["keys","table"] (a_2 e_4):=scO
theorem D_1 (F:Dn K mg "keys_put_back" e_4 ["keys","table"]) (T:Blt w K mg) :DefOk P w K mg base 1 "keys_put_back" e_7 :=
 dnF F S02 (λ _ J A outer s H E q=>rfK S02 T q rf0 λ k=>xsC (rfS k) (xsC (ar4 3 S02.nd (sc:=a_2 e_4) rfl rfl (by show ScB o_6 (a_2 e_4) _ "name" ["others"] [2] ;exact scB) (rfE k.1) (λ _ _ _ _=>(E_9 (xt (bL6 (o_7 q)) (xv 0) (xv 1)))) (λ _ _ _ _=>(xv 0))) (xsC (aU2 4 S02.nd (sc:=a_2 e_4) rfl rfl (by show ScB o_6 (a_2 e_4) _ "key" ["others","keys"] [2,0] ;exact scB) (xv 2) (λ _ _ _ _=>(E_9 (xt bL5 (bz9 (o_7 q) (xv 1) (xv 0)) (rfE (rfC k))))) (λ _ _ _ _=>(xv 0))) (rfB k))))
abbrev m_3:Stmt:=top 7
theorem S03:FnScope ["low","high","step","rest","first","last"] ["low","high","step","rest"] (a_2 m_3):=scO
theorem F_9 (F:Dn K mg "stretch_made" m_3 ["low","high","step","rest"]) (T:Blt w K mg) :DefOk P w K mg base 1 "stretch_made" a_5 :=
 rfD F S03 T rf0
abbrev p_4:Stmt:=top 8
theorem S04:FnScope ["v","low","high"] ["v","low","high"] (a_2 p_4):=scO
theorem O_8 (F:Dn K mg "is_between" p_4 ["v","low","high"]) (T:Blt w K mg) :DefOk P w K mg base 1 "is_between" p_6 :=
 rfD F S04 T rf0
abbrev n_1:Stmt:=top 9
theorem S05:FnScope ["one","v"] ["one","v"] (a_2 n_1):=scO
theorem I_9 (F:Dn K mg "stretch_has" n_1 ["one","v"]) (T:Blt w K mg) (q:DefOk P w K mg base 1 "is_between" p_6):DefOk P w K mg base 2 "stretch_has" y_5 :=
 rfD F S05 T (rf1 q rf0)
abbrev n_2:Stmt:=top 10
theorem S06:FnScope ["one","other"] ["one","other"] (a_2 n_2):=scO
theorem J_0 (F:Dn K mg "lower_bound" n_2 ["one","other"]) (T:Blt w K mg) :DefOk P w K mg base 1 "lower_bound" h_9 :=
 rfD F S06 T rf0
abbrev n_0:Stmt:=top 11
theorem S07:FnScope ["one","other"] ["one","other"] (a_2 n_0):=scO
theorem I_8 (F:Dn K mg "upper_bound" n_0 ["one","other"]) (T:Blt w K mg) :DefOk P w K mg base 1 "upper_bound" e_9 :=
 rfD F S07 T rf0
abbrev j_0:Stmt:=top 12
theorem S08:FnScope ["one","low","high"] ["one","low","high"] (a_2 j_0):=scO
theorem y_1 (F:Dn K mg "stretch_between" j_0 ["one","low","high"]) (T:Blt w K mg) (J:DefOk P w K mg base 1 "lower_bound" h_9) (q:DefOk P w K mg base 1 "stretch_made" a_5) (O:DefOk P w K mg base 1 "upper_bound" e_9):DefOk P w K mg base 2 "stretch_between" f_3 :=
 rfD F S08 T (rf1 J (rf1 q (rf1 O rf0)))
abbrev g_9:Stmt:=top 13
noncomputable abbrev t_1:List Str:=["one","a","b","ends","step"]
theorem S09:FnScope t_1 ["one","a","b"] (a_2 g_9):=scO
theorem D_0 (F:Dn K mg "stretch_moved" g_9 ["one","a","b"]) (T:Blt w K mg) (q:DefOk P w K mg base 1 "stretch_made" a_5):DefOk P w K mg base 2 "stretch_moved" d_7 :=
 dnF F S09 (λ _ O A outer s H E J=>rfK S09 T J (rf1 q rf0) λ k=>xsC (ar4 3 S09.nd (sc:=a_2 g_9) rfl rfl (by show ScB t_1 (a_2 g_9) _ "end" ["b","a"] [2,1] ;exact scB) (rfE k.1) (λ _ _ _ _=>z_4) (λ _ _ _ _=>(rfE (rfC k)))) (rfB k))
abbrev g_7:Stmt:=top 14
theorem S0a:FnScope ["a","m","g","s","other","t","times","less"] ["a","m"] (a_2 g_7):=scO
theorem s_9 (F:Dn K mg "divisor_and_factor" g_7 ["a","m"]) (T:Blt w K mg) :DefOk P w K mg base 1 "divisor_and_factor" e_0 :=
 dnF F S0a (λ _ J A outer s H E q=>rfK S0a T q rf0 λ k=>xsC (rfS k) (xsC (rfS k) (xsC (rfS k) (xsC (rfS k) (xsC (aO5 (rfT k.1) (rfB k)) (rfB k))))))
abbrev m_4:Stmt:=top 15
theorem S0b:FnScope ["one","a","b","found","divisor","away","step","ends","low","high"] ["one","a","b"] (a_2 m_4):=scO
theorem G_0 (F:Dn K mg "stretch_back" m_4 ["one","a","b"]) (T:Blt w K mg) (q:DefOk P w K mg base 1 "divisor_and_factor" e_0) (J:DefOk P w K mg base 1 "stretch_made" a_5):DefOk P w K mg base 2 "stretch_back" b_4 :=
 dnF F S0b (λ _ Y A outer s H E O=>rfK S0b T O (rf1 q (rf1 J rf0)) λ k=>xsC (o_0 (rfT k.1) (xs1 (i_6 bj5)) xsN) (rfB k))
abbrev m_2:Stmt:=top 16
theorem S0c:FnScope ["one","other","turns"] ["one","other"] (a_2 m_2):=scO
theorem F_8 (F:Dn K mg "stretch_meet" m_2 ["one","other"]) (T:Blt w K mg) (O:DefOk P w K mg base 2 "stretch_back" b_4) (q:DefOk P w K mg base 2 "stretch_between" f_3) (J:DefOk P w K mg base 2 "stretch_moved" d_7):DefOk P w K mg base 3 "stretch_meet" g_4 :=
 rfD F S0c T (rf1 O (rf1 q (rf1 J rf0)))
abbrev u_0:Stmt:=top 18
theorem S0d:FnScope ["keys","begin","end","stretch"] ["keys","begin","end","stretch"] (a_2 u_0):=scO
theorem ac1 (F:Dn K mg "box_made" u_0 ["keys","begin","end","stretch"]) (T:Blt w K mg) :DefOk P w K mg base 1 "box_made" a_9 :=
 rfD F S0d T rf0
abbrev t_9:Stmt:=top 19
theorem S0e:FnScope ["one","other","keys","stretch"] ["one","other"] (a_2 t_9):=scO
theorem ac0 (F:Dn K mg "box_meet" t_9 ["one","other"]) (T:Blt w K mg) (Y:DefOk P w K mg base 1 "box_made" a_9) (O:DefOk P w K mg base 4 "keys_meet" d_8) (q:DefOk P w K mg base 3 "stretch_meet" g_4) (J:DefOk P w K mg base 1 "upper_bound" e_9):DefOk P w K mg base 5 "box_meet" f_5 :=
 rfD F S0e T (rf1 Y (rf1 O (rf1 q (rf1 J rf0))))
abbrev p_5:Stmt:=top 20
theorem S0f:FnScope ["row","word","rest"] ["row"] (a_2 p_5):=scO
theorem O_9 (F:Dn K mg "box_sieved" p_5 ["row"]) (T:Blt w K mg) (J:DefOk P w K mg base 1 "box_made" a_9) (q:DefOk P w K mg base 1 "stretch_made" a_5):DefOk P w K mg base 2 "box_sieved" b_6 :=
 rfD F S0f T (rf1 J (rf1 q rf0))
abbrev r_4:Stmt:=top 21
theorem S0g:FnScope ["box","c","end"] ["box","c"] (a_2 r_4):=scO
theorem W_2 (F:Dn K mg "box_later" r_4 ["box","c"]) (T:Blt w K mg) (q:DefOk P w K mg base 1 "box_made" a_9):DefOk P w K mg base 2 "box_later" k_1 :=
 rfD F S0g T (rf1 q rf0)
abbrev t_5:Stmt:=top 22
theorem S0h:FnScope ["row","box","sieve","rest"] ["row","box"] (a_2 t_5):=scO
theorem ab5 (F:Dn K mg "row_back" t_5 ["row","box"]) (T:Blt w K mg) (Y:DefOk P w K mg base 2 "box_later" k_1) (Z:DefOk P w K mg base 1 "box_made" a_9) (aa:DefOk P w K mg base 5 "box_meet" f_5) (O:DefOk P w K mg base 2 "box_sieved" b_6) (q:DefOk P w K mg base 1 "keys_put_back" e_7) (J:DefOk P w K mg base 2 "stretch_back" b_4):DefOk P w K mg base 6 "row_back" b_9 :=
 rfD F S0h T (rf1 Y (rf1 Z (rf1 aa (rf1 O (rf1 q (rf1 J rf0))))))
abbrev r_0:Stmt:=top 32
theorem S0i:FnScope ["works","name","row"] ["works","name"] (a_2 r_0):=scO
theorem V_6 (F:Dn K mg "row_named" r_0 ["works","name"]) (T:Blt w K mg) :DefOk P w K mg base 1 "row_named" h_8 :=
 dnF F S0i (λ _ J A outer s H E q=>rfK S0i T q rf0 λ k=>xsC (bz7 (xgN 2 S0i.nd) (xv 0) (rfB k)) (rfB k))
abbrev D_9:Stmt:=top 34
theorem S0j:FnScope ["row","mark"] ["row","mark"] (a_2 D_9):=scO
theorem ax1 (F:Dn K mg "in_box" D_9 ["row","mark"]) (T:Blt w K mg) (J:DefOk P w K mg base 1 "box_made" a_9) (q:DefOk P w K mg base 1 "stretch_made" a_5):DefOk P w K mg base 2 "in_box" p_7 :=
 rfD F S0j T (rf1 J (rf1 q rf0))
abbrev j_8:Stmt:=top 36
theorem S0k:FnScope ["works","name","box","row","below","ways","from_name","met"] ["works","name","box"] (a_2 j_8):=scO
theorem N_9 (F:Dn K mg "ways_back" j_8 ["works","name","box"]) (T:Blt w K mg):DefOk P w K mg base 7 "ways_back" (a_8 0):=by obtain⟨f,fd,F,O,J⟩:=F;exact   ⟨f,fd,_,k_7 F S0k rfl rfl (λ Y A outer s H E Z=>λ _ _ _ _ _ _ q=>by obtain⟨_,_,_,_,_,e,_⟩:=q;exact nomatch e),O,F.kp,J⟩
theorem P_0 (F:Dn K mg "ways_back" j_8 ["works","name","box"]) (T:Blt w K mg) {n:Nat}{g:List D → Option D} (hn:6 ≤ n) (J:DefOk P w K mg base n "ways_back" g) (Y:DefOk P w K mg base 5 "box_meet" f_5) (Z:DefOk P w K mg base 2 "in_box" p_7) (O:DefOk P w K mg base 6 "row_back" b_9) (q:DefOk P w K mg base 1 "row_named" h_8):DefOk P w K mg base (n+1) "ways_back" (fnD 3 5 (f_8 g)) :=
 dnF F S0k (λ _ aa A outer s H E hr=>rfK S0k T hr (rf1 J (rf1 Y (rf1 Z (rf1 O (rf1 q rf0))))) λ k=>xsC (rfS k) (xsC (rfS k) (xsC (rfS k) (xsC (rfS k) (xsC (bj2 5 S0k.nd (aU5 xaN)) (xsC (bz7 (xgN 6 S0k.nd) (rfE k.1) (xs1 (bz8 5 (rfE k.1)))) (xs1 (aO6 5 (rfS k)))))))))
theorem y_0 (F:Dn K mg "ways_back" j_8 ["works","name","box"]) (T:Blt w K mg) (J:DefOk P w K mg base 5 "box_meet" f_5) (Y:DefOk P w K mg base 2 "in_box" p_7) (O:DefOk P w K mg base 6 "row_back" b_9) (q:DefOk P w K mg base 1 "row_named" h_8):∀ n,DefOk P w K mg base (7+n) "ways_back" (a_8 n)
 |0=>N_9 F T
 |n+1=>P_0 (n:=7+n) F T (by omega) (y_0 F T J Y O q n) J Y O q
theorem V_5 (F:Dn K mg "ways_back" j_8 ["works","name","box"]) (T:Blt w K mg) (J:DefOk P w K mg base 5 "box_meet" f_5) (Y:DefOk P w K mg base 2 "in_box" p_7) (O:DefOk P w K mg base 6 "row_back" b_9) (q:DefOk P w K mg base 1 "row_named" h_8):DefOk P w K mg base 31 "ways_back" (a_8 24):=y_0 F T J Y O q 24
abbrev p_0:Stmt:=top 38
theorem S0l:FnScope ["works","name"] ["works","name"] (a_2 p_0):=scO
theorem O_1 (F:Dn K mg "origins_of" p_0 ["works","name"]) (T:Blt w K mg) (J:DefOk P w K mg base 1 "box_made" a_9) (q:DefOk P w K mg base 31 "ways_back" (a_8 24)):DefOk P w K mg base 32 "origins_of" h_4 :=
 rfD F S0l T (rf1 J (rf1 q rf0))
abbrev j_1:Stmt:=top 39
theorem S0m:FnScope ["origins","number","origin","other"] ["origins"] (a_2 j_1):=scO
theorem y_2 (F:Dn K mg "one_comes_twice" j_1 ["origins"]) (T:Blt w K mg) (q:DefOk P w K mg base 5 "box_meet" f_5):DefOk P w K mg base 6 "one_comes_twice" c_7 :=
 dnF F S0m (λ _ O A outer s H E J=>rfK S0m T J (rf1 q rf0) λ k=>xsC (bz6 T.z_enumerate (xgT (bh3 (xgN 1 S0m.nd) (bh3 (xgN 2 S0m.nd) bz5))) (xv 0) (xs1 (bz7 (xgN 3 S0m.nd) (rfE k.1) (rfB k)))) (rfB k))
abbrev n_5:Stmt:=top 40
theorem S0n:FnScope ["works","number","row","origins"] ["works"] (a_2 n_5):=scO
theorem S0o:FnScope ["self","at"] ["self","at"] (a_2 ag7):=scO
theorem G_1 (F:Dn K mg "check_works" n_5 ["works"]) (T:Blt w K mg) (q:DefOk P w K mg base 6 "one_comes_twice" c_7) (J:DefOk P w K mg base 32 "origins_of" h_4):DefX P w K mg base 33 "check_works" c_1:=by
 obtain⟨f,fd,F,bF,mF⟩:=F;obtain⟨c0,c2,fI,Y,d1,d2,d3,d4,Z⟩:=T.xn;have I:=bc3 (CX:=CXE P w) (P:=P) (w:=w) (mg:=mg) (base:=base) (f:="at") Z.fn S0o (by decide) rfl (λ _ _ _ _ _ _=>rfl) (by decide) (by decide);exact⟨f,fd,["works"],bs5 F S0n rfl rfl (λ aa A outer s H E O =>
 (xx1 (bj0 bG3 T.z_enumerate (xgT (bh3 (xgN 1 S0n.nd) (bh3 (xgN 2 S0n.nd) bz5))) (xv 0)
 (xx1 (bM8 (xt bL5 (d_3 (xv 2) a_4) (aF3 T.c_CHAINS))
 (xxC (xxs (i_5 3 S0n.nd (xG J O (xaC (xv 0) (xaC (d_3 (xv 2) a_4) xaN)))))
 (xx1 (bM8 (xw (aT7 (aT9 (xtv (xv 3) (λ _=>rfl))) (aa3 (xw (E_8 (xt (cEq O.units) (d_3 (xv 2) a_4) d_0) (v_0 (xtv (xG q O (xaC (xv 3) xaN)) (λ _=>rfl))))))))
 (xx1 (aF2 au2 Z.m0 Z.x0 Z.s1 I (O.mono (by decide)) Z.b0 (xv 1)))
 (bM7 xsN))))
 (bM7 xsN)))))),bF,F.kp,mF⟩
abbrev n_4:Stmt:=top 42
theorem S0p:FnScope ["_law_script","_law_k"] ["_law_script","_law_k"] (a_2 n_4):=scO
theorem J_2 (F:Dn K mg "_law_cell_at" n_4 ["_law_script","_law_k"]) (T:Blt w K mg) :DefOk P w K mg base 1 "_law_cell_at" f_0 :=
 rfD F S0p T rf0
abbrev r_1:Stmt:=top 43
theorem S0q:FnScope ["_law_cell","_law_k","_law_number"] ["_law_cell","_law_k"] (a_2 r_1):=scO
theorem V_8 (F:Dn K mg "_law_mixed" r_1 ["_law_cell","_law_k"]) (T:Blt w K mg) :DefOk P w K mg base 1 "_law_mixed" i_0 :=
 rfD F S0q T rf0
abbrev r_2:Stmt:=top 44
theorem S0r:FnScope ["_law_script","_law_first"] ["_law_script"] (a_2 r_2):=scO
theorem V_9 (F:Dn K mg "_law_draws" r_2 ["_law_script"]) (T:Blt w K mg) (q:DefOk P w K mg base 1 "_law_cell_at" f_0):DefN P w K mg base 2 "_law_draws" k_0:=by
 obtain⟨f,fd,F,Y,O⟩:=F;exact   ⟨f,fd,["_law_script"],bs7 F S0r rfl rfl (λ Z A outer s H E J =>
 (xnC (xnS (i_5 1 S0r.nd (xG q J (xaC (xv 0) (xaC a_4 xaN))))) (xn1 (xpC (xv 0) (xpC (xb j_9 (xv 1) a_4) (xpC a_4 (xpC a_4 (xpC (xv 1) (xpC a_4 xp0))))))))),Y,F.kp,O⟩
abbrev t_8:Stmt:=top 45
theorem S0s:FnScope ["_law_draws_here","_law_number","_law_found"] ["_law_draws_here"] (a_2 t_8):=scO
theorem ab9 (F:Dn K mg "_law_next" t_8 ["_law_draws_here"]) (T:Blt w K mg) (q:DefOk P w K mg base 1 "_law_cell_at" f_0) (J:DefOk P w K mg base 1 "_law_mixed" i_0):DefB P w K mg base 2 "_law_next" a_1 :=
 dnB F S0s (λ _ Y A outer s H E O=>rfK S0s T O (rf1 q (rf1 J rf0)) λ k=>xsC (aO5 (rfT k.1) (rfB k)) (rfB k))
abbrev o_1:Stmt:=top 46
noncomputable abbrev K_8:List Str:=["_law_draws_here","_law_some","_law_word","_law_k","_law_at"]
theorem S0t:FnScope K_8 ["_law_draws_here"] (a_2 o_1):=scO
theorem ab8 (F:Dn K mg "_law_pool" o_1 ["_law_draws_here"]) (T:Blt w K mg) (q:DefB P w K mg base 2 "_law_next" a_1):DefB P w K mg base 3 "_law_pool" m_0 :=
 dnB F S0t (λ _ O A outer s H E J=>rfK S0t T J (rf2 q rf0) λ k=>xsC (rfS k) (xsC (rfS k) (xsC (T_5 T.z_range (xgN 3 S0t.nd) (rfE k.1) (rfB k)) (xsC (rfS k) (xs1 (i_6 (xlc (sc:=a_2 o_1) rfl rfl (by show ScB K_8 (a_2 o_1) _ "_law_sign" ["_law_word","_law_at"] [2,4] ;exact scB) d_0 (λ _ _ _ _=>z_4) (λ _ _ _ _=>(rfE (rfC k))))))))))
abbrev k_3:Stmt:=top 48
noncomputable abbrev B_5:List Str:=["_law_draws_here","_law_names","_law_many","_law_found","_law_k","_law_left"]
theorem S0u:FnScope B_5 ["_law_draws_here","_law_names","_law_many"] (a_2 k_3):=scO
theorem O_2 (F:Dn K mg "_law_unlike" k_3 ["_law_draws_here","_law_names","_law_many"]) (T:Blt w K mg) (q:DefB P w K mg base 2 "_law_next" a_1):DefB P w K mg base 3 "_law_unlike" e_6 :=
 dnB F S0u (λ _ O A outer s H E J=>rfK S0u T J (rf2 q rf0) λ k=>xsC (bj2 3 S0u.nd (aU5 xaN)) (xsC (T_5 T.z_range (xgN 4 S0u.nd) (xv 2) (xsC (aU3 5 S0u.nd 3 0 (sc:=a_2 k_3) rfl rfl (by show ScB B_5 (a_2 k_3) _ "_law_name" ["_law_found"] [3] ;exact scB) (xv 1) (λ _ _ _ _=>(E_9 (bj1 1 (xv 0)))) (λ _ _ _ _=>(xv 0))) (xs1 (aE8 3 (rfA k.1))))) (xs1 (aO6 3 (rfS k)))))
abbrev p_3:Stmt:=top 49
theorem S0v:FnScope ["_law_draws_here","_law_low","_law_high"] ["_law_draws_here"] (a_2 p_3):=scO
theorem O_7 (F:Dn K mg "_law_bounds" p_3 ["_law_draws_here"]) (T:Blt w K mg) (q:DefB P w K mg base 2 "_law_next" a_1):DefB P w K mg base 3 "_law_bounds" c_2 :=
 rfP F S0v T (rf2 q rf0)
abbrev l_9:Stmt:=top 50
noncomputable abbrev G_5:List Str:=["_law_draws_here","_law_word","_law_name","_law_froms","_law_pool_here","_law_keys","_law_begin","_law_end","_law_step","_law_times"]
theorem S0w:FnScope G_5 ["_law_draws_here","_law_word","_law_name","_law_froms","_law_pool_here"] (a_2 l_9):=scO
theorem V_7 (F:Dn K mg "_law_sieve" l_9 ["_law_draws_here","_law_word","_law_name","_law_froms","_law_pool_here"]) (T:Blt w K mg) (J:DefB P w K mg base 3 "_law_bounds" c_2) (O:DefB P w K mg base 2 "_law_next" a_1) (q:DefB P w K mg base 3 "_law_unlike" e_6):DefB P w K mg base 4 "_law_sieve" c_3 :=
 dnB F S0w (λ _ Z A outer s H E Y=>rfK S0w T Y (rf2 J (rf2 O (rf2 q rf0))) λ k=>xsC (rfS k) (xsC (rfS k) (xsC (rfS k) (xsC (rfS k) (xsC (rfS k) (xsC (rfS k) (xsC (rfS k) (xs1 (i_6 (l_8 (xaC d_0 (xaC (xv 2) (xaC (xv 3) (xaC (xTy i_8 rfl T.z_tuple j7 (xaC (bW1 0 1 (sc:=a_2 l_9) rfl rfl (by show ScB G_5 (a_2 l_9) _ "_law_key" ["_law_pool_here","_law_draws_here"] [4,0] ;exact scB) (xv 5) (λ _ _ _ _=>z_4) (λ _ _ _ _=>(rfE (rfC k)))) xaN)) xaN))))))))))))))
abbrev p_1:Stmt:=top 51
theorem S0x:FnScope ["_law_draws_here","_law_names","_law_one","_law_pool_here","_law_form","_law_many","_law_cut","_law_rows","_law_k","_law_low","_law_high","_law_begin","_law_end"] ["_law_draws_here","_law_names","_law_one","_law_pool_here"] (a_2 p_1):=scO
theorem O_4 (F:Dn K mg "_law_parted" p_1 ["_law_draws_here","_law_names","_law_one","_law_pool_here"]) (T:Blt w K mg) (q:DefB P w K mg base 2 "_law_next" a_1):DefBN P w K mg base 3 "_law_parted" k_5:=by obtain⟨f,fd,F,Y,O⟩:=F;exact   ⟨f,fd,["_law_draws_here","_law_names","_law_one","_law_pool_here"],bd2 F S0x rfl rfl (λ Z A outer s H E J=>rfN S0x T J (rf2 q rf0) λ k=>bj6 (rfS k) (bj6 (rfS k) (bj6 (rfS k) (bj6 (bj2 7 S0x.nd (aU5 xaN)) (bj6 (T_5 T.z_range (xgN 8 S0x.nd) (xv 5) (xsC (rfS k) (xsC (rfS k) (xsC (rfS k) (xsC (rfS k) (xs1 (o_0 (rfT k.1) (xs1 (aE8 7 (rfA k.1))) (xs1 (o_0 (rfT k.1) (xs1 (aE8 7 (rfA k.1))) (xs1 (o_0 (rfT k.1) (xs1 (aE8 7 (rfA k.1))) (xs1 (o_0 (rfT k.1) (xs1 (aE8 7 (rfA k.1))) (xs1 (aE8 7 (rfA k.1)))))))))))))))) (bW4 7)))))),Y,F.kp,O⟩
abbrev k_4:Stmt:=top 52
noncomputable abbrev B_6:List Str:=["_law_draws_here","_law_names","_law_one","_law_chains_here","_law_pool_here","_law_rows","_law_froms","_law_at","_law_word","_law_other"]
theorem S0y:FnScope B_6 ["_law_draws_here","_law_names","_law_one","_law_chains_here","_law_pool_here"] (a_2 k_4):=scO
theorem O_3 (F:Dn K mg "_law_poured" k_4 ["_law_draws_here","_law_names","_law_one","_law_chains_here","_law_pool_here"]) (T:Blt w K mg) (O:DefB P w K mg base 2 "_law_next" a_1) (J:DefBN P w K mg base 3 "_law_parted" k_5) (q:DefB P w K mg base 4 "_law_sieve" c_3):DefB P w K mg base 5 "_law_poured" f_1 :=
 dnB F S0y (λ _ Z A outer s H E Y=>rfK S0y T Y (rf2 O (rf2 q rf0)) λ k=>xsC (bz3 5 0 S0y.nd J (Y.mono (by decide)) (rfA k.1)) (xsC (aU4 6 5 S0y.nd (sc:=a_2 k_4) rfl rfl (by show ScB B_6 (a_2 k_4) _ "_law_row" [] [] ;exact scB) (λ _ _ _ _=>z_4) (λ _ _ _ _=>(rfE (rfC k)))) (xsC (i_5 7 S0y.nd (xb j_9 (rfE k.1) (bz4 6 T.z_len))) (xsC (rfS k) (xsC (aE8 5 (xaC (xFb 0 q (Y.mono (by decide)) (xaC (xv 8) (xaC (rfE k.1) (xaC (l_8 (xaC (bW2 6 (xv 7)) xaN)) (rfA k.1))))) xaN)) (xsC (bV8 6 (xv 7) (rfE k.1)) (xsC (rfS k) (xsC (o_0 (rfT k.1) (xs1 (aE8 6 (rfA k.1))) xsN) (xs1 (aO6 5 (aO6 6 (rfS k))))))))))))
abbrev h_0:Stmt:=top 53
noncomputable abbrev t_2:List Str:=["_law_draws_here","_law_pool_here","_law_works","_law_k","_law_chains_here","_law_names","_law_one","_law_form","_law_froms","_law_words"]
theorem S0z:FnScope t_2 ["_law_draws_here","_law_pool_here"] (a_2 h_0):=scO
theorem O_6 (F:Dn K mg "_law_chains" h_0 ["_law_draws_here","_law_pool_here"]) (T:Blt w K mg) (J:DefB P w K mg base 3 "_law_bounds" c_2) (Z:DefB P w K mg base 2 "_law_next" a_1) (O:DefB P w K mg base 5 "_law_poured" f_1) (Y:DefB P w K mg base 4 "_law_sieve" c_3) (q:DefB P w K mg base 3 "_law_unlike" e_6):DefB P w K mg base 6 "_law_chains" h_6 :=
 dnB F S0z (λ _ aa A outer s H E hr=>rfK S0z T hr (rf2 J (rf2 Z (rf2 O (rf2 Y (rf2 q rf0))))) λ k=>xsC (bj2 2 S0z.nd (bV9 (rfE k.1) xoN (xoS (rfE k.1)))) (xsC (T_5 T.z_range (xgN 3 S0z.nd) (rfE k.1) (xsC (aU1 4 2 S0z.nd (sc:=a_2 h_0) rfl rfl (by show ScB t_2 (a_2 h_0) _ "_law_row" [] [] ;exact scB) (λ _ _ _ _=>z_4) (λ _ _ _ _=>(rfE (rfC k)))) (xsC (ar4 5 S0z.nd (sc:=a_2 h_0) rfl rfl (by show ScB t_2 (a_2 h_0) _ "_law_sign" ["_law_k"] [3] ;exact scB) d_0 (λ _ _ _ _=>z_4) (λ _ _ _ _=>(rfE (rfC k)))) (xsC (rfS k) (xsC (rfS k) (xs1 (o_0 (rfT k.1) (xs1 (bW3 2 S0z.nd (rfE k.1))) (xs1 (o_0 (rfT k.1) (xsC (rfS k) (xs1 (aE8 2 (rfA k.1)))) (xsC (rfS k) (xs1 (aE8 2 (rfA k.1))))))))))))) (xs1 (aO6 2 (rfS k)))))
abbrev p_2:Stmt:=top 54
theorem S10:FnScope ["_law_works","_law_found","_law_turn","_law_row","e"] ["_law_works"] (a_2 p_2):=scO
theorem O_5 (F:Dn K mg "_law_let_by" p_2 ["_law_works"]) (T:Blt w K mg) (O:DefX P w K mg base 33 "check_works" c_1):DefOk P w K mg base 34 "_law_let_by" h_5:=by obtain⟨c0,c2,fI,J,d1,d2,d3,d4,Z⟩:=T.xn;exact dnF F S10 (λ _ Y A outer s H E q=>rfK S10 T q rf0 λ k=>xsC (bj2 1 S10.nd (bj4 T.z_list (xv 0))) (xsC (T_5 T.z_range (xgN 2 S10.nd) a_4 (xs1 (bz2 1 3 4 (λ _ _ z=>z) O q (xs1 (aO6 1 (rfS k))) Z.m0 Z.ee Z.k0 Z.s1 rfl rfl S10.nd))) (xs1 (aO6 1 (aO6 1 (rfS k))))))
abbrev t_7:Stmt:=top 56
theorem S11:FnScope ["_law_draws_here","_law_one","_law_pool_here","_law_form","_law_low","_law_step","_law_bottom","_law_key","_law_other"] ["_law_draws_here","_law_one","_law_pool_here"] (a_2 t_7):=scO
theorem ab7 (F:Dn K mg "_law_shut" t_7 ["_law_draws_here","_law_one","_law_pool_here"]) (T:Blt w K mg) (J:DefB P w K mg base 2 "_law_next" a_1) (q:DefB P w K mg base 3 "_law_unlike" e_6):DefB P w K mg base 4 "_law_shut" f_4 :=
 dnB F S11 (λ _ Y A outer s H E O=>rfK S11 T O (rf2 J (rf2 q rf0)) λ k=>xsC (rfS k) (xsC (rfS k) (xsC (rfS k) (xsC (o_0 (rfT k.1) (xsC (aT8 (xgT (bh3 (xgN 7 S11.nd) (bh3 (xgN 8 S11.nd) bz5))) (rfE k.1)) (rfB k)) xsN) (rfB k)))))
abbrev n_3:Stmt:=top 57
theorem S12:FnScope ["_law_draws_here","_law_one","_law_pool_here","_law_form","_law_key"] ["_law_draws_here","_law_one","_law_pool_here"] (a_2 n_3):=scO
theorem J_1 (F:Dn K mg "_law_doubled" n_3 ["_law_draws_here","_law_one","_law_pool_here"]) (T:Blt w K mg) (q:DefB P w K mg base 2 "_law_next" a_1):DefB P w K mg base 3 "_law_doubled" e_2 :=
 rfP F S12 T (rf2 q rf0)
abbrev t_6:Stmt:=top 58
theorem S13:FnScope ["_law_works","_law_kinds","_law_at","_law_found","e"] ["_law_works"] (a_2 t_6):=scO
theorem bv8 {x y z w u:Option V}:∀ (l:L2.St),l.length=5->((((l.set 4 x).set 1 y).set 1 z).set 2 w).set 4 u=((l.set 1 z).set 2 w).set 4 u:=λ l _=>by
 rw[Yf,List.set_comm x z (by decide),List.set_comm x w (by decide),Yf]
theorem ab6 (F:Dn K mg "_law_told" t_6 ["_law_works"]) (T:Blt w K mg) (GX:DefX P w K mg base 33 "check_works" c_1):DefOk P w K mg base 34 "_law_told" c_8:=by
 obtain⟨f,fd,F,bF,mF⟩:=F;obtain⟨c0,c2,fI,ap,d1,d2,d3,d4,Z⟩:=T.xn;refine⟨f,fd,["_law_works"],F.ok S13 (λ vs H Q E h=>?_) (λ ar A outer s H vs Q E hr h=>?_),bF,F.kp,mF⟩
 ·obtain⟨Hi,ds,d,_,r,e,_⟩:=h;obtain⟨Y,z,rfl,_⟩:=T_7 e;rw[<- r.length];rfl
 ·obtain⟨Hi,ds,d,hs,r,e,q⟩:=h;obtain⟨Y,z,rfl,h1,h2⟩:=T_7 e;have R0:=RS.start (n:=5) (m:=4) hs r (by rw[<- r.length];rfl);refine⟨_,k_9 (i_5 1 S13.nd (J_8 xaN)) (k_9 (i_5 2 S13.nd (xb T_2 a_4 a_4)) (k_9 (i_5 3 S13.nd l_4)
   (k_9 (aY0 (OK:=λ y=>y="NoWorks") (ik:=4) (iy:=3) (λ _ _ z=>z) GX hr (xaC (xv 0) xaN) rfl rfl S13.nd rfl rfl rfl rfl rfl Z.m2 (λ y C m hy=>?_))
   (xsC (o_0 (xt (cEq hr.units) (xv 1) (J_8 xaN)) (xs1 (i_6 (l_8 (xaC d_0 (xaC (xv 3) xaN))))) xsN)
   (xs1 (i_6 (l_8 (xaC (Z_8 (cEq hr.units) (xv 1) (J_8 (xaC xbl (xaC xbl (xaC xbl (xaC xbl (xaC xbl (xaC xbl xaN))))))) ) (xaC (xv 2) xaN))))))))),?_⟩
  ·subst hy;obtain rfl:c0=C:=Z0 (qi (Z.m0.symm.trans m));exact Z.e0
  refine⟨_,Hi,[.im Y,.no,.no,.no,.no],.nx [.im Y,.im (.lst []),.no,.no,.no],R0,rfl,λ al H1 Hh1 s1 R1=>?_⟩;refine⟨_,H1,_,.nx [.im Y,.im (.lst []),.im (.int (0-1)),.no,.no],R1,rfl,λ an H2 Hh2 s2 R2=>?_⟩;refine⟨_,H2,_,.nx [.im Y,.im (.lst []),.im (.int (0-1)),.im .non,.no],R2,rfl,λ J H3 Hh3 s3 R3=>?_⟩;refine⟨_,H3,_,[Y],_,z,R3,rfl,h1,?_⟩;cases z with
  |inl dv =>
   obtain rfl:D.tup [.str "done",dv]=d:=qi h2;intro v H0' H' sm R' rd;exact⟨_,H0',[.im Y,.im (.lst []),.im (.int (0-1)),.im dv,.no],.rt (.tup [.str "done",dv]) [.im Y,.im (.lst []),.im (.int (0-1)),.im dv,.no],R'.set 3 rd,by kernel_rfl,λ v ak H5 Hh5 s5 R5 rv=>q v H5 Hh5 R5.step rv⟩
  |inr y =>
   obtain⟨k,rfl,rfl⟩:=aV2 h2;refine⟨rfl,λ C dd H0' H' m sm R' xd=>?_⟩;obtain rfl:c0=C:=Z0 (qi (Z.m0.symm.trans m));cases dd with
   |none=>exact xd.elim
   |some dx =>
    obtain⟨v,rv,hx⟩:=xd;obtain rfl:v=.int k:=by unfold Rep at rv;exact rv
    have len:J.length=5:=R'.len.symm;intro a vx;have g4:(J.set 4 (some (V.ref a)))[4]?=some (some (.ref a)):=zi (by rw[len];decide);refine⟨_,k_9 (x_7 (i:=1) S13.nd rfl (.inl rfl) (ah9 (c_5 (n_6 (u_7 (v:=.ref c0) Z.k0 (λ w r=>r) Z.t0) rfl T.z_isinstance rfl (c_5 (pv 4) (c_5 (V_3 Z.m0) l_0)))
     (c_5 (n_6 (u_7 (v:=.ref d1) Z.k0 (λ w r=>r) Z.k1) rfl T.z_isinstance rfl (c_5 (pv 4) (c_5 (V_3 Z.m1) l_0)))
     (c_5 (n_6 (u_7 (v:=.ref d2) Z.k0 (λ w r=>r) Z.k2) rfl T.z_isinstance rfl (c_5 (pv 4) (c_5 (V_3 Z.m2') l_0)))
     (c_5 (n_6 (u_7 (v:=.ref d3) Z.k0 (λ w r=>r) Z.k3) rfl T.z_isinstance rfl (c_5 (pv 4) (c_5 (V_3 Z.m3) l_0))) l_0))))))
     (k_9 (x_7 (i:=1) S13.nd rfl (.inl rfl) (aI4 bp0 (pv 1) (ah9 (c_5 (n_6 (u_7 (v:=.ref d4) Z.k0 (λ w r=>r) Z.k4) rfl T.z_isinstance rfl (c_5 (pv 4) (c_5 (V_3 Z.m4) l_0)))
     (c_5 (bn7 (n_6 (u_7 (v:=.ty "ValueError") Z.k0 (λ w r=>r) Z.kv) rfl T.z_isinstance rfl (c_5 (pv 4) (c_5 (aZ2 (v:=.ty "ValueError") (u:=.type "ValueError") rfl Z.mv rfl rfl) l_0)))) l_0)))))
     (s_8 (aY1 (bm9 (ab2 ix_list (pv 1) K_4 (λ _ _=>rfl))) (s_8 (x_7 (i:=2) S13.nd rfl (.inl rfl) (aZ3 Z.k0 Z.s1 (pv 4) rfl))) au8))),?_⟩
    refine⟨.ref a,g4,rfl,⟨_,hx⟩,.ref a,g4,rfl,⟨_,hx⟩,.ref a,g4,rfl,⟨_,hx⟩,.ref a,g4,rfl,⟨_,hx⟩,(show 4<=sizeLine by decide),λ p1 af=>?_⟩;obtain⟨am,Q1⟩:=R'.lay (o:=.lst [.bl true,.bl false,.bl false,.bl false]) af;have l1:1<(J.set 4 (some (V.ref a))).length:=by rw[zy,len];decide
    have ac:((J.set 4 (some (V.ref a))).set 1 (some (.ref p1)))[4]?=some (some (.ref a)):=by rw[zh (by decide)];exact g4
    have g1:((J.set 4 (some (V.ref a))).set 1 (some (.ref p1)))[1]?=some (some (.ref p1)):=zi l1;have ad:=v_2 (o:=.lst [.bl true,.bl false,.bl false,.bl false]) af hx;refine⟨.ref p1,g1,.ref a,ac,rfl,⟨_,ad⟩,.ref a,ac,rfl,⟨_,ad⟩,true,rfl,(show 2<=sizeLine by decide),λ p2 aa=>?_⟩;obtain⟨ao,Q2⟩:=Q1.lay (o:=.lst [.bl false,.bl false]) aa;have ag:=v_2 (o:=.lst [.bl false,.bl false]) aa ad;refine⟨p1,p2,_,_,rfl,rfl,v_2 aa a_3,a_3,(show 4+2<=sizeLine by decide),λ O ae=>?_⟩;obtain⟨aq,Q3⟩:=Q2.lay (o:=.lst [.bl true,.bl false,.bl false,.bl false,.bl false,.bl false]) ae;have ai:=v_2 (o:=.lst [.bl true,.bl false,.bl false,.bl false,.bl false,.bl false]) ae ag;have aj:(((J.set 4 (some (V.ref a))).set 1 (some (.ref p1))).set 1 (some (.ref O)))[1]?=some (some (.ref O)):=zi (by rw[zy];exact l1);have ah:(((J.set 4 (some (V.ref a))).set 1 (some (.ref p1))).set 1 (some (.ref O)))[4]?=some (some (.ref a)):=by rw[zh (by decide)];exact ac
    refine⟨.ref O,aj,O,_,0,.bl true,rfl,rfl,.inl (.inl a_3),(atI_nat (by decide) rfl).1,true,rfl,cb7 ⟨.ref a,ah,rfl,k,ai,?_⟩⟩;have rl:Rep K (upd (upd (upd H0' p1 (.lst [.bl true,.bl false,.bl false,.bl false])) p2 (.lst [.bl false,.bl false])) O (.lst [.bl true,.bl false,.bl false,.bl false,.bl false,.bl false])) (.lst [.bl true,.bl false,.bl false,.bl false,.bl false,.bl false]) (.ref O):=by unfold Rep;exact⟨O,_,rfl,.inl (.inl a_3),Reps.cons (o_5 _ _) (Reps.cons (o_5 _ _) (Reps.cons (o_5 _ _) (Reps.cons (o_5 _ _) (Reps.cons (o_5 _ _) (Reps.one (o_5 _ _))))))⟩
    have Q4:=((Q3.set 1 rl).set 2 (f_7 _ k)).junk (i:=4) rfl none;have ej:((((J.set 4 (some (V.ref a))).set 1 (some (.ref p1))).set 1 (some (.ref O))).set 2 (some (.int k))).set 4 none=((J.set 1 (some (.ref O))).set 2 (some (.int k))).set 4 none:=bv8 J len;rw[<- ej] at Q4;exact⟨_,_,_,.rt (.tup [.bl true,.int k]) [.im Y,.im (.lst [.bl true,.bl false,.bl false,.bl false,.bl false,.bl false]),.im (.int k),.im .non,.no],Q4,by kernel_rfl,λ v ak H5 Hh5 s5 R5 rv=>q v H5 Hh5 R5.step rv⟩
abbrev aa8:Stmt:=top 59
theorem S14:FnScope ["_law_script","_law_draws_here","_law_pool_here","_law_works","_law_one","_law_more","_law_at","_law_last","_law_handed","_law_copy","_law_wrong"] ["_law_script"] (a_2 aa8):=scO
theorem bs4 {f:Addr}{fd:FuncData} (F:Fun K "law" "law" aa8 f fd) (T:Blt w K mg) (O:DefB P w K mg base 6 "_law_chains" h_6) (q:DefB P w K mg base 3 "_law_doubled" e_2) (Y:DefN P w K mg base 2 "_law_draws" k_0) (J:DefOk P w K mg base 34 "_law_let_by" h_5) (ad:DefB P w K mg base 2 "_law_next" a_1) (Z:DefB P w K mg base 3 "_law_pool" m_0) (ac:DefB P w K mg base 4 "_law_shut" f_4) (aa:DefOk P w K mg base 34 "_law_told" c_8):FnOk P w K mg base CX0 35 f fd ["_law_script"] (spP K ac7) :=
 k_7 F S14 rfl rfl (λ ae A outer s H E hr=>rfK S14 T hr (rf2 O (rf2 q (rf1 J (rf2 ad (rf2 Z (rf2 ac (rf1 aa rf0))))))) λ k=>xsC (bW0 1 S14.nd Y (hr.mono (by decide)) (rfA k.1)) (rfB k))
end
end Fx
namespace Fx
open PySem
theorem r_6 {i j:Int} (h:j.natAbs<2 ^ 64):j_7 i j=true:=by unfold j_7;rw[yh h];simp
theorem G_2 {i j:Int} (h:i.natAbs<2 ^ 64):j_7 i j=true:=by unfold j_7;rw[yh h];simp
theorem P_1 {j:Int} (q:j≠0) (h:j.natAbs<2 ^ 64):z_8 j=true:=by unfold z_8;rw[yh q,yh (Nat.lt_trans h (Yq (by decide) (by decide)))];rfl
end Fx
namespace St
structure S where
 lo:Option Int
 hi:Option Int
 st:Int
 re:Int
 deriving DecidableEq
def leO (lo:Option Int) (v:Int):Prop:=∀ l,lo=some l->l<=v
def geO (hi:Option Int) (v:Int):Prop:=∀ h,hi=some h->v<=h
structure mem (s:S) (v:Int):Prop where
 l:leO s.lo v
 h:geO s.hi v
 r:v % s.st=s.re
structure Canon (s:S):Prop where
 pos:0<s.st
 r0:0<=s.re
 r1:s.re<s.st
 lo:∀ l,s.lo=some l->l % s.st=s.re
 hi:∀ h,s.hi=some h->h % s.st=s.re
 lh:∀ l h,s.lo=some l->s.hi=some h->l<h\/(l=h/\s.st=1/\s.re=0)
theorem cong {st x y:Int}:x % st=y % st↔st ∣ x-y:=by rw[Int.emod_eq_emod_iff_emod_sub_eq_zero];exact⟨Int.dvd_of_emod_eq_zero,Int.emod_eq_zero_of_dvd⟩
theorem bf9 {st re x:Int} (q:0<=re) (h1:re<st):x % st=re↔st ∣ x-re:=by rw[<- cong,jx q h1]
theorem far {st x y:Int} (h:x % st=y % st) (q:x<y):x+st<=y:=by have d:=cong.mp h.symm;have:=Y1 (by omega) d;omega
theorem up {l st re:Int} (q:0<st) (J:0<=re) (h1:re<st) :
  (l+(re-l) % st) % st=re/\l<=l+(re-l) % st/\∀ v,v % st=re->l<=v->l+(re-l) % st<=v:=by
 have a:=jn (re-l) (Zc q);have b:=jh (re-l) q;have e:(l+(re-l) % st) % st=re:=by rw[Int.add_emod_emod,show l+(re-l)=re by omega,jx J h1]
 refine⟨e,by omega,λ v O Z=>?_⟩;by_cases Y:v<l+(re-l) % st
 ·have:=far (O.trans e.symm) Y;omega
 ·omega
theorem down {h st re:Int} (q:0<st) (J:0<=re) (h1:re<st) :
  (h-(h-re) % st) % st=re/\h-(h-re) % st<=h/\∀ v,v % st=re->v<=h->v<=h-(h-re) % st:=by
 have a:=jn (h-re) (Zc q);have b:=jh (h-re) q;have e:(h-(h-re) % st) % st=re:=by rw[Int.sub_emod_emod,show h-(h-re)=re by omega,jx J h1]
 refine⟨e,by omega,λ v O Z=>?_⟩;by_cases Y:h-(h-re) % st<v
 ·have:=far (e.trans O.symm) Y;omega
 ·omega
noncomputable def first (lo:Option Int) (st re:Int):Option Int:=lo.map λ l=>l+(re-l) % st
noncomputable def last (hi:Option Int) (st re:Int):Option Int:=hi.map λ h=>h-(h-re) % st
noncomputable def made2 (f l:Option Int) (st re:Int):Option S :=
 match f,l with
 |some a,some b=>if b<a then none else if a=b then some ⟨some a,some b,1,0⟩ else some ⟨some a,some b,st,re⟩
 |f,l=>some ⟨f,l,st,re⟩
def made (lo hi:Option Int) (st re:Int):Option S :=
 if 0<=re/\re<st then made2 (first lo st re) (last hi st re) st re else none
structure Between (lo hi:Option Int) (st re v:Int):Prop where
 l:leO lo v
 h:geO hi v
 r:v % st=re
def Tells (r:Option S) (p:Int->Prop):Prop :=
 match r with
 |none=>∀ v,¬ p v
 |some s=>Canon s/\∀ v,mem s v↔p v
theorem az2 {lo:Option Int}{st re v:Int} (q:0<st) (J:0<=re) (h1:re<st) (O:v % st=re):leO (first lo st re) v↔leO lo v:=by
 cases lo with
 |none=>exact⟨λ _ l e=>(nomatch e),λ _ l e=>(nomatch e)⟩
 |some l =>
  obtain⟨_,a,b⟩:=up (l:=l) q J h1;constructor
  ·intro h x e;cases e;exact Int.le_trans a (h _ rfl)
  ·intro h x e;cases e;exact b v O (h _ rfl)
theorem aK8 {hi:Option Int}{st re v:Int} (q:0<st) (J:0<=re) (h1:re<st) (O:v % st=re):geO (last hi st re) v↔geO hi v:=by
 cases hi with
 |none=>exact⟨λ _ l e=>(nomatch e),λ _ l e=>(nomatch e)⟩
 |some l =>
  obtain⟨_,a,b⟩:=down (h:=l) q J h1;constructor
  ·intro h x e;cases e;exact Int.le_trans (h _ rfl) a
  ·intro h x e;cases e;exact b v O (h _ rfl)
theorem aA9 {lo:Option Int}{st re l:Int} (J:0<st) (q:0<=re) (h1:re<st) (e:first lo st re=some l):l % st=re:=by
 cases lo with
 |none=>cases e
 |some x=>cases e;exact (up J q h1).1
theorem aK0 {hi:Option Int}{st re l:Int} (J:0<st) (q:0<=re) (h1:re<st) (e:last hi st re=some l):l % st=re:=by
 cases hi with
 |none=>cases e
 |some x=>cases e;exact (down J q h1).1
theorem made_ok {lo hi:Option Int}{st re:Int} (O:0<st) (J:0<=re) (h1:re<st):Tells (made lo hi st re) (Between lo hi st re):=by
 unfold made;rw[if_pos ⟨J,h1⟩];have q:∀ v,v % st=re->((leO (first lo st re) v/\geO (last hi st re) v)↔(leO lo v/\geO hi v)):=λ v Y=>by
  rw[az2 O J h1 Y,aK8 O J h1 Y]
 have Z:=λ l=>aA9 (lo:=lo) (l:=l) O J h1;have lm:=λ l=>aK0 (hi:=hi) (l:=l) O J h1;generalize first lo st re=f at q Z
 generalize last hi st re=g at q lm;have plain:(∀ a b,f=some a->g=some b->a<b)->Tells (some ⟨f,g,st,re⟩) (Between lo hi st re):=λ aa=>by
  refine⟨⟨O,J,h1,Z,lm,λ l h e1 e2=>.inl (aa l h e1 e2)⟩,λ v=>⟨λ m=>?_,λ m=>?_⟩⟩
  ·have:=(q v m.r).mp ⟨m.l,m.h⟩;exact⟨this.1,this.2,m.r⟩
  ·have:=(q v m.r).mpr ⟨m.l,m.h⟩;exact⟨this.1,this.2,m.r⟩
 cases f with
 |none=>exact plain λ a b e=>nomatch e
 |some a =>
  cases g with
  |none=>exact plain λ a b _ e=>nomatch e
  |some b =>
   unfold made2;dsimp only;by_cases h2:b<a
   ·rw[if_pos h2];intro v m;obtain⟨x,y⟩:=(q v m.r).mpr ⟨m.l,m.h⟩;have:=x a rfl;have:=y b rfl;omega
   ·rw[if_neg h2];by_cases h3:a=b
    ·rw[if_pos h3];subst h3;refine⟨⟨Int.zero_lt_one,jc _,Int.zero_lt_one,λ l _=>by simp,λ l _=>by simp,λ l h e1 e2=>.inr ⟨by cases e1;cases e2;rfl,rfl,rfl⟩⟩,λ v=>⟨λ m=>?_,λ m=>?_⟩⟩
     ·have e:v=a:=by have:=m.l a rfl;have:=m.h a rfl;omega
      have Y:v % st=re:=by rw[e];exact Z a rfl
      have:=(q v Y).mp ⟨m.l,m.h⟩;exact⟨this.1,this.2,Y⟩
     ·have:=(q v m.r).mpr ⟨m.l,m.h⟩;exact⟨this.1,this.2,by simp⟩
    ·rw[if_neg h3];exact plain λ x y e1 e2=>by cases e1;cases e2;omega
theorem made_none {lo hi:Option Int}{st re:Int} (h:¬ (0<=re/\re<st)):made lo hi st re=none:=by unfold made;rw[if_neg h]
theorem made_st {lo hi:Option Int}{st re:Int}{s:S} (h:made lo hi st re=some s):s.st=st\/s.st=1:=by
 unfold made at h;split at h
 ·unfold made2 at h;split at h
  ·split at h
   ·cases h
   ·split at h
    ·cases h;exact .inr rfl
    ·cases h;exact .inl rfl
  ·cases h;exact .inl rfl
 ·cases h
theorem Canon.some {s:S} (c:Canon s):∃ v,mem s v:=by
 cases e:s.lo with
 |some l =>
  refine⟨l,λ x h=>by rw[e] at h;cases h;omega,λ h J=>?_,c.lo l e⟩;rcases c.lh l h e J with z | ⟨z,_⟩ <;> omega
 |none =>
  cases e2:s.hi with
  |some h=>exact⟨h,⟨λ x q=>(by rw[e] at q;cases q),λ x q=>(by rw[e2] at q;cases q;omega),c.hi h e2⟩⟩
  |none=>exact⟨s.re,⟨λ x q=>(by rw[e] at q;cases q),λ x q=>(by rw[e2] at q;cases q),jx c.r0 c.r1⟩⟩
theorem Canon.memLo {s:S} (c:Canon s) {l:Int} (e:s.lo=Option.some l):mem s l:=by refine⟨λ x h=>by rw[e] at h;cases h;omega,λ h q=>?_,c.lo l e⟩;rcases c.lh l h e q with z | ⟨z,_⟩ <;> omega
theorem Canon.memHi {s:S} (c:Canon s) {h:Int} (e:s.hi=Option.some h):mem s h:=by refine⟨λ x J=>?_,λ x q=>by rw[e] at q;cases q;omega,c.hi h e⟩;rcases c.lh x h J e with z | ⟨z,_⟩ <;> omega
theorem Canon.down {s:S} (c:Canon s) {v:Int} (m:mem s v) (h:leO s.lo (v-s.st)):mem s (v-s.st):=by have:=c.pos;refine⟨h,λ x e=>by have:=m.h x e;omega,?_⟩;rw[Int.sub_emod_right];exact m.r
theorem Canon.up {s:S} (c:Canon s) {v:Int} (m:mem s v) (h:geO s.hi (v+s.st)):mem s (v+s.st):=by have:=c.pos;refine⟨λ x e=>by have:=m.l x e;omega,h,?_⟩;rw[Int.add_emod_right];exact m.r
theorem Tells.imp {r:Option S}{p q:Int->Prop} (h:Tells r p) (e:∀ v,p v↔q v):Tells r q:=by
 cases r with
 |none=>exact λ v m=>h v ((e v).mpr m)
 |some s=>exact⟨h.1,λ v=>(h.2 v).trans (e v)⟩
noncomputable def ab (a:Int):Int:=if a<0 then -a else a
noncomputable def mv (a b:Int) (o:Option Int):Option Int:=o.map λ e=>a*e+b
def moved (s:S) (a b:Int):Option S :=
 if a<0 then made (mv a b s.hi) (mv a b s.lo) (ab a*s.st) ((a*s.re+b) % (ab a*s.st))
 else made (mv a b s.lo) (mv a b s.hi) (ab a*s.st) ((a*s.re+b) % (ab a*s.st))
theorem ab_pos {a:Int} (h:a≠0):0<ab a:=by unfold ab;split <;> omega
theorem z_9 {a x y:Int} (h:0<a):a*x<=a*y↔x<=y:=Int.mul_le_mul_left h
theorem v_9 {a x y:Int} (h:a<0):a*x<=a*y↔y<=x:=by have:=Int.mul_le_mul_left (a:=-a) (b:=y) (c:=x) (by omega);rw[<- this,Int.neg_mul,Int.neg_mul];omega
theorem aR0 {a b v:Int}{o:Option Int} (h:0<a):leO (mv a b o) (a*v+b)↔leO o v:=by
 cases o with
 |none=>exact⟨λ _ l e=>(nomatch e),λ _ l e=>(nomatch e)⟩
 |some l =>
  have k:=z_9 (x:=l) (y:=v) h;constructor
  ·intro z x e;cases e;have q:a*l+b<=a*v+b:=z _ rfl;exact k.mp (by omega)
  ·intro z x e;cases e;have:=k.mpr (z _ rfl);show a*l+b<=a*v+b;omega
theorem aS1 {a b v:Int}{o:Option Int} (h:0<a):geO (mv a b o) (a*v+b)↔geO o v:=by
 cases o with
 |none=>exact⟨λ _ l e=>(nomatch e),λ _ l e=>(nomatch e)⟩
 |some l =>
  have k:=z_9 (x:=v) (y:=l) h;constructor
  ·intro z x e;cases e;have q:a*v+b<=a*l+b:=z _ rfl;exact k.mp (by omega)
  ·intro z x e;cases e;have:=k.mpr (z _ rfl);show a*v+b<=a*l+b;omega
theorem az1 {a b v:Int}{o:Option Int} (h:a<0):leO (mv a b o) (a*v+b)↔geO o v:=by
 cases o with
 |none=>exact⟨λ _ l e=>(nomatch e),λ _ l e=>(nomatch e)⟩
 |some l =>
  have k:=v_9 (x:=l) (y:=v) h;constructor
  ·intro z x e;cases e;have q:a*l+b<=a*v+b:=z _ rfl;exact k.mp (by omega)
  ·intro z x e;cases e;have:=k.mpr (z _ rfl);show a*l+b<=a*v+b;omega
theorem aA4 {a b v:Int}{o:Option Int} (h:a<0):geO (mv a b o) (a*v+b)↔leO o v:=by
 cases o with
 |none=>exact⟨λ _ l e=>(nomatch e),λ _ l e=>(nomatch e)⟩
 |some l =>
  have k:=v_9 (x:=v) (y:=l) h;constructor
  ·intro z x e;cases e;have q:a*v+b<=a*l+b:=z _ rfl;exact k.mp (by omega)
  ·intro z x e;cases e;have:=k.mpr (z _ rfl);show a*v+b<=a*l+b;omega
theorem E_5 {a b st re w:Int} (O:0<st) (Y:a≠0) (q:0<=re) (h1:re<st) :
  w % (ab a*st)=(a*re+b) % (ab a*st)↔∃ v,v % st=re/\w=a*v+b:=by
 rw[cong];constructor
 ·rintro ⟨k,e⟩;refine⟨re+st*(if a<0 then -k else k),by rw[Qt,jx q h1],?_⟩;have e2:a*(st*(if a<0 then -k else k))=ab a*st*k:=by
   unfold ab;split
   ·simp only[Int.neg_mul,Qc,ja]
   ·simp only[ja]
  rw[Int.mul_add,e2,<- e];omega
 ·rintro ⟨v,J,rfl⟩;obtain⟨k,e⟩:=(bf9 q h1).mp J;refine⟨(if a<0 then -k else k),?_⟩;have e2:a*v+b-(a*re+b)=a*(st*k):=by rw[<- e,Qb];omega
  rw[e2];unfold ab;split
  ·simp only[Int.neg_mul,Qc,ja,Int.neg_neg]
  ·simp only[ja]
theorem ai7 {s:S}{a b:Int} (c:Canon s) (J:a≠0):Tells (moved s a b) (λ w=>∃ v,mem s v/\w=a*v+b):=by
 have O:0<ab a*s.st:=Int.mul_pos (ab_pos J) c.pos;have r0:=jn (a*s.re+b) (Zc O);have r1:=jh (a*s.re+b) O;unfold moved;split
 ·rename_i q;refine (made_ok O r0 r1).imp λ w=>⟨λ m=>?_,?_⟩
  ·obtain⟨v,Y,rfl⟩:=(E_5 c.pos J c.r0 c.r1).mp m.r;exact⟨v,⟨(aA4 q).mp m.h,(az1 q).mp m.l,Y⟩,rfl⟩
  ·rintro ⟨v,m,rfl⟩;exact⟨(az1 q).mpr m.h,(aA4 q).mpr m.l,(E_5 c.pos J c.r0 c.r1).mpr ⟨v,m.r,rfl⟩⟩
 ·have q:0<a:=by omega
  refine (made_ok O r0 r1).imp λ w=>⟨λ m=>?_,?_⟩
  ·obtain⟨v,Y,rfl⟩:=(E_5 c.pos J c.r0 c.r1).mp m.r;exact⟨v,⟨(aR0 q).mp m.l,(aS1 q).mp m.h,Y⟩,rfl⟩
  ·rintro ⟨v,m,rfl⟩;exact⟨(aR0 q).mpr m.l,(aS1 q).mpr m.h,(E_5 c.pos J c.r0 c.r1).mpr ⟨v,m.r,rfl⟩⟩
theorem Tells.some {r:Option S}{p:Int->Prop} (h:Tells r p) {v:Int} (q:p v):∃ t,r=Option.some t/\Canon t/\∀ v,mem t v↔p v:=by
 cases r with
 |none=>exact absurd q (h v)
 |some t=>exact⟨t,rfl,h.1,h.2⟩
theorem moved_some {s:S}{a b:Int} (c:Canon s) (q:a≠0):∃ t,moved s a b=some t/\Canon t/\(∀ w,mem t w↔∃ v,mem s v/\w=a*v+b)/\(t.st=ab a*s.st\/t.st=1):=by obtain⟨v,m⟩:=c.some;obtain⟨t,e,ct,h⟩:=(ai7 (b:=b) c q).some ⟨v,m,rfl⟩;refine⟨t,e,ct,h,?_⟩;unfold moved at e;split at e <;> exact made_st e
structure Euc (a m g f:Int):Prop where
 pos:0<g
 da:g ∣ a
 dm:g ∣ m
 inv:m ∣ a*f-g
noncomputable def bkLo (s:S) (a b:Int):Option Int:=(if 0<a then s.lo else s.hi).map λ e=>-((b-e).fdiv a)
noncomputable def bkHi (s:S) (a b:Int):Option Int:=(if 0<a then s.hi else s.lo).map λ e=>(e-b).fdiv a
def back2 (s:S) (a b g f:Int):Option S :=
 if (s.re-b) % g=0 then made (bkLo s a b) (bkHi s a b) (s.st / g) ((s.re-b) / g*f % (s.st / g)) else none
theorem A_1 {v x a:Int} (h:0<a):v<=x.fdiv a↔a*v<=x:=by rw[yu _ (by omega),Int.le_ediv_iff_mul_le h,Qh]
theorem u_3 {v x a:Int} (h:a<0):v<=x.fdiv a↔x<=a*v:=by rw[<- Int.neg_fdiv_neg,yu _ (by omega),Int.le_ediv_iff_mul_le (by omega),Qc,Qh];omega
theorem bb6 {o:Option Int}{f:Int->Int}{v:Int}{p:Prop}{u:Int} (q:∀ e,f e<=v↔e<=u):leO (o.map f) v↔leO o u:=by
 cases o with
 |none=>exact⟨λ _ l e=>(nomatch e),λ _ l e=>(nomatch e)⟩
 |some l =>
  constructor
  ·intro z x e;cases e;exact (q l).mp (z _ rfl)
  ·intro z x e;cases e;exact (q l).mpr (z _ rfl)
theorem aJ7 {o:Option Int}{f:Int->Int}{v:Int}{u:Int} (q:∀ e,f e<=v↔u<=e):leO (o.map f) v↔geO o u:=by
 cases o with
 |none=>exact⟨λ _ l e=>(nomatch e),λ _ l e=>(nomatch e)⟩
 |some l =>
  constructor
  ·intro z x e;cases e;exact (q l).mp (z _ rfl)
  ·intro z x e;cases e;exact (q l).mpr (z _ rfl)
theorem bc7 {o:Option Int}{f:Int->Int}{v:Int}{u:Int} (q:∀ e,v<=f e↔u<=e):geO (o.map f) v↔geO o u:=by
 cases o with
 |none=>exact⟨λ _ l e=>(nomatch e),λ _ l e=>(nomatch e)⟩
 |some l =>
  constructor
  ·intro z x e;cases e;exact (q l).mp (z _ rfl)
  ·intro z x e;cases e;exact (q l).mpr (z _ rfl)
theorem aK7 {o:Option Int}{f:Int->Int}{v:Int}{u:Int} (q:∀ e,v<=f e↔e<=u):geO (o.map f) v↔leO o u:=by
 cases o with
 |none=>exact⟨λ _ l e=>(nomatch e),λ _ l e=>(nomatch e)⟩
 |some l =>
  constructor
  ·intro z x e;cases e;exact (q l).mp (z _ rfl)
  ·intro z x e;cases e;exact (q l).mpr (z _ rfl)
theorem Y_7 {s:S}{a b v:Int} (q:a≠0):(leO (bkLo s a b) v/\geO (bkHi s a b) v)↔(leO s.lo (a*v+b)/\geO s.hi (a*v+b)):=by
 unfold bkLo bkHi;by_cases h:0<a
 ·rw[if_pos h,if_pos h];have e:a*-v=-(a*v):=Qc _ _;have k1:=bb6 (o:=s.lo) (f:=λ e=>-((b-e).fdiv a)) (v:=v) (u:=a*v+b) (p:=True) λ e=>by
   have:=A_1 (v:=-v) (x:=b-e) h;omega
  have k2:=bc7 (o:=s.hi) (f:=λ e=>(e-b).fdiv a) (v:=v) (u:=a*v+b) λ e=>by
   have:=A_1 (v:=v) (x:=e-b) h;omega
  rw[k1,k2]
 ·have h':a<0:=by omega
  rw[if_neg h,if_neg h];have e:a*-v=-(a*v):=Qc _ _;have k1:=aJ7 (o:=s.hi) (f:=λ e=>-((b-e).fdiv a)) (v:=v) (u:=a*v+b) λ e=>by
   have:=u_3 (v:=-v) (x:=b-e) h';omega
  have k2:=aK7 (o:=s.lo) (f:=λ e=>(e-b).fdiv a) (v:=v) (u:=a*v+b) λ e=>by
   have:=u_3 (v:=v) (x:=e-b) h';omega
  rw[k1,k2];exact And.comm
theorem back_ok  (c:Canon s) (ha:a≠0) (E:Euc a s.st g f):Tells (back2 s a b g f) (λ v=>mem s (a*v+b)):=by
 obtain⟨gp,⟨q,Y⟩,⟨J,O⟩,hi⟩:=E;unfold back2;by_cases h:(s.re-b) % g=0
 ·rw[if_pos h];obtain⟨w,ew⟩:=Int.dvd_of_emod_eq_zero h;have e1:s.st / g=J:=by rw[O];exact Qz _ (by omega)
  have e2:(s.re-b) / g=w:=by rw[ew];exact Qz _ (by omega)
  rw[e1,e2];have mp:0<J:=by have:=c.pos;rw[O] at this;exact Z2 this (by omega)
  have Z:J ∣ q*f-1:=by
   obtain⟨k,e⟩:=hi;refine⟨k,?_⟩;have:g*(q*f-1)=g*(J*k):=by rw[Qb,<- ja,<- Y,Zn,e,O,ja]
   exact Int.eq_of_mul_eq_mul_left (by omega) this
  have cls:∀ v,v % J=w*f % J↔(a*v+b) % s.st=s.re:=λ v=>by
   rw[cong,bf9 c.r0 c.r1];have e3:a*v+b-s.re=g*(q*v-w):=by rw[Qb,<- ew,<- ja,<- Y];omega
   rw[e3,O];constructor
   ·intro d;refine Int.mul_dvd_mul_left g ?_;have e4:q*v-w=q*(v-w*f)+w*(q*f-1):=by rw[Qb,Qb,Zn,show q*(w*f)=w*(q*f) by rw[<- ja,<- ja,Qh q w]];omega
    rw[e4];exact Int.dvd_add (Qm d (Zj _ _)) (Qm Z (Zj _ _))
   ·intro d;have d:=Int.dvd_of_mul_dvd_mul_left (by omega) d;have e4:v-w*f=f*(q*v-w)-v*(q*f-1):=by rw[Qb,Qb,Zn,show v*(q*f)=f*(q*v) by rw[Qh v,ja,Int.mul_left_comm],Qh w f];omega
    rw[e4];exact Int.dvd_sub (Qm d (Zj _ _)) (Qm Z (Zj _ _))
  refine (made_ok mp (jn _ (by omega)) (jh _ mp)).imp λ v=>⟨λ m=>?_,λ m=>?_⟩
  ·obtain⟨x,y⟩:=(Y_7 ha).mp ⟨m.l,m.h⟩;exact⟨x,y,(cls v).mp m.r⟩
  ·obtain⟨x,y⟩:=(Y_7 ha).mpr ⟨m.l,m.h⟩;exact⟨x,y,(cls v).mpr m.r⟩
 ·rw[if_neg h];intro v m;refine h (Int.emod_eq_zero_of_dvd ?_);have d:=Qm ⟨J,O⟩ ((bf9 c.r0 c.r1).mp m.r);have d2:g ∣ a*v:=⟨q*v,by rw[Y,ja]⟩;have:=Int.dvd_sub d2 d;rw[show a*v-(a*v+b-s.re)=s.re-b by omega] at this;exact this
structure EI (a m g o s t:Int):Prop where
 g0:0<=g
 o0:0<=o
 gm:g<=m
 om:o<=m
 go:0<g+o
 cs:m ∣ a*s-g
 ct:m ∣ a*t-o
 dv:∀ d,d ∣ g->d ∣ o->d ∣ a % m/\d ∣ m
 sm:s.natAbs<=m.toNat
 tm:t.natAbs<=m.toNat
 pr:s.natAbs*o.toNat+t.natAbs*g.toNat<=m.toNat
theorem EI.start  (q:0<m):EI a m (a % m) m 1 0:=by
 have J:=jn a (Zc q);have h1:=jh a q;refine⟨J,by omega,by omega,jc _,by omega,?_,?_,λ d x y=>⟨x,y⟩,?_,by simp,by simp⟩
 ·rw[Zn];exact Int.dvd_self_sub_emod
 ·rw[Int.mul_zero];exact⟨-1,by omega⟩
 ·omega
theorem EI.turn  (E:EI a m g o s t) (h:o≠0):EI a m o (g-g / o*o) t (s-g / o*t)/\(g-g / o*o).toNat<o.toNat:=by
 have:=E.o0;have op:0<o:=by omega
 have e:g-g / o*o=g % o:=by rw[Int.emod_def,Qh]
 have r0:=jn g (Zc op);have r1:=jh g op;have Y:=Yk E.g0 E.o0;have q:t.natAbs*(g % o).toNat+(s-g / o*t).natAbs*o.toNat<=m.toNat:=by
  have h1:(s-g / o*t).natAbs<=s.natAbs+(g / o).toNat*t.natAbs:=by refine zf (Qq _ _) ?_;rw[Yt,show (g / o).natAbs=(g / o).toNat by omega];exact qj _
  have h2:g.toNat=o.toNat*(g / o).toNat+(g % o).toNat:=by
   have:=Ze g o;have e1:((o.toNat*(g / o).toNat:Nat):Int)=o*(g / o):=by rw[Int.natCast_mul,Int.toNat_of_nonneg E.o0,Int.toNat_of_nonneg Y]
   omega
  have J:=E.pr;rw[h2] at J;have O:=Ys o.toNat h1;rw[Nat.add_mul] at O;rw[Nat.mul_add] at J;have Z:(g / o).toNat*t.natAbs*o.toNat=t.natAbs*(o.toNat*(g / o).toNat):=by rw[Nat.mul_comm _ t.natAbs,Nat.mul_assoc,Nat.mul_comm o.toNat]
  omega
 rw[e];refine⟨⟨E.o0,r0,E.om,by have:=E.om;omega,by omega,E.ct,?_,λ d x y=>?_,E.tm,?_,q⟩,by omega⟩
 ·rw[show a*(s-g / o*t)-g % o=(a*s-g)-g / o*(a*t-o) by
   rw[<- e,Qb,Qb,show a*(g / o*t)=g / o*(a*t) by rw[Int.mul_left_comm]];omega]
  exact Int.dvd_sub E.cs (Qm E.ct (Zj _ _))
 ·refine E.dv d ?_ x;have:=Ze g o;rw[<- this];exact Int.dvd_add (Qm x (Int.dvd_mul_right _ _)) y
 ·have:=zf (Nat.le_add_left _ _) q;exact zf (Nat.le_mul_of_pos_right _ (by omega)) this
theorem EI.fin  (q:0<m) (E:EI a m g 0 s t):Euc a m g s:=by obtain⟨h1,h2⟩:=E.dv g (Int.dvd_refl g) (Int.dvd_zero g);have:=E.g0;have:=E.go;refine⟨by omega,?_,h2,E.cs⟩;have:=Ze a m;rw[<- this];exact Int.dvd_add (Qm h2 (Int.dvd_mul_right _ _)) h1
structure Bd (s:S) (n:Nat):Prop where
 st:s.st.natAbs<=n
 re:s.re.natAbs<=n
 lo:∀ l,s.lo=some l->l.natAbs<=n
 hi:∀ l,s.hi=some l->l.natAbs<=n
def BdO (r:Option S) (n:Nat):Prop:=∀ s,r=some s->Bd s n
theorem Bd.mono  (b:Bd s n) (h:n<=m):Bd s m:=⟨zf b.st h,zf b.re h,λ l e=>zf (b.lo l e) h,λ l e=>zf (b.hi l e) h⟩
def OB (o:Option Int) (n:Nat):Prop:=∀ l,o=some l->l.natAbs<=n
theorem made_bd {lo hi:Option Int}{st re:Int}{n m:Nat} (h1:OB lo n) (h2:OB hi n) (h3:st.natAbs<=m) (Y:0<st):BdO (made lo hi st re) (n+m):=λ s e=>by
 unfold made at e;by_cases h:0<=re/\re<st
 ·rw[if_pos h] at e;have f1:OB (first lo st re) (n+m):=λ l q=>by
   cases lo with
   |none=>cases q
   |some x =>
    cases q;have:=h1 x rfl;have a:=jn (re-x) (Zc Y);have b:=jh (re-x) Y;exact zf (Int.natAbs_add_le _ _) (Nat.add_le_add this (by omega))
  have Z:OB (last hi st re) (n+m):=λ l q=>by
   cases hi with
   |none=>cases q
   |some x =>
    cases q;have:=h2 x rfl;have a:=jn (x-re) (Zc Y);have b:=jh (x-re) Y;exact zf (Qq _ _) (Nat.add_le_add this (by omega))
  generalize first lo st re=f at e f1
  generalize last hi st re=g at e Z;have fin:∀ J O,J.natAbs<=n+m->O.natAbs<=n+m->Bd ⟨f,g,J,O⟩ (n+m):=λ J O a b=>⟨a,b,f1,Z⟩
  unfold made2 at e;split at e
  ·split at e
   ·cases e
   ·split at e
    ·cases e;exact fin 1 0 (by show 1<=n+m;omega) (by show 0<=n+m;omega)
    ·cases e;exact fin st re (by omega) (by omega)
  ·cases e;exact fin st re (by omega) (by omega)
 ·rw[if_neg h] at e;cases e
theorem E_4 {x a:Int} (h:a≠0):(x.fdiv a).natAbs<=x.natAbs:=by
 by_cases q:0<a
 ·rw[yu _ (by omega)];exact Qv _ _
 ·rw[<- Int.neg_fdiv_neg,yu _ (by omega)];exact zf (Qv _ _) (by rw[Int.natAbs_neg];exact qj _)
theorem back_bd {s:S}{a b g f:Int}{n:Nat} (c:Canon s) (E:Euc a s.st g f) (J:a≠0) (bs:Bd s n) (Z:b.natAbs<=n):BdO (back2 s a b g f) (n+n+n):=by
 unfold back2;split
 ·have gp:=E.pos;have sp:0<s.st / g:=by obtain⟨Y,O⟩:=E.dm;rw[O,Qz _ (by omega)];have:=c.pos;rw[O] at this;exact Z2 this (by omega)
  refine made_bd (n:=n+n) (λ l e=>?_) (λ l e=>?_) ?_ sp
  ·unfold bkLo at e;cases q:(if 0<a then s.lo else s.hi) with
   |none=>rw[q] at e;cases e
   |some x =>
    rw[q] at e;cases e;have hx:x.natAbs<=n:=by
     split at q
     ·exact bs.lo x q
     ·exact bs.hi x q
    show (-(b-x).fdiv a).natAbs<=n+n;rw[Int.natAbs_neg];exact zf (E_4 J) (zf (Qq b x) (by omega))
  ·unfold bkHi at e;cases q:(if 0<a then s.hi else s.lo) with
   |none=>rw[q] at e;cases e
   |some x =>
    rw[q] at e;cases e;have hx:x.natAbs<=n:=by
     split at q
     ·exact bs.hi x q
     ·exact bs.lo x q
    exact zf (E_4 J) (zf (Qq x b) (by omega))
  ·exact zf (Qv _ _) bs.st
 ·intro s e;cases e
theorem aJ2  (h:OB o n) (q:a.natAbs<=m) (O:b.natAbs<=m):OB (mv a b o) (m*n+m):=λ l e=>by
 cases o with
 |none=>cases e
 |some x =>
  cases e;have h1:=h x rfl;have h2:=Int.natAbs_add_le (a*x) b;rw[Yt] at h2;have J:=Nat.mul_le_mul q h1;show (a*x+b).natAbs<=m*n+m;omega
theorem ab_abs (a:Int):(ab a).natAbs=a.natAbs:=by unfold ab;split <;> omega
theorem aJ3  (c:Canon s) (O:a≠0) (bs:Bd s n) (h1:a.natAbs<=m) (h2:b.natAbs<=m):BdO (moved s a b) (m*n+m+m*n):=by
 have J:=Int.mul_pos (ab_pos O) c.pos;have q:(ab a*s.st).natAbs<=m*n:=by rw[Yt,ab_abs];exact Nat.mul_le_mul h1 bs.st
 unfold moved;split
 ·exact made_bd (aJ2 bs.hi h1 h2) (aJ2 bs.lo h1 h2) q J
 ·exact made_bd (aJ2 bs.lo h1 h2) (aJ2 bs.hi h1 h2) q J
noncomputable def lowB (a b:Option Int):Option Int:=match a,b with
 |none,b=>b
 |a,none=>a
 |some x,some y=>some (if y > x then y else x)
noncomputable def uppB (a b:Option Int):Option Int:=match a,b with
 |none,b=>b
 |a,none=>a
 |some x,some y=>some (if y<x then y else x)
theorem lowB_iff :leO (lowB a b) v↔leO a v/\leO b v:=by
 cases a with
 |none=>exact⟨λ h=>⟨λ l e=>(nomatch e),h⟩,λ h=>h.2⟩
 |some x =>
  cases b with
  |none=>exact⟨λ h=>⟨h,λ l e=>(nomatch e)⟩,λ h=>h.1⟩
  |some y =>
   constructor
   ·intro h;have:=h _ rfl;refine⟨λ l e=>?_,λ l e=>?_⟩ <;> cases e <;> split at this <;> omega
   ·rintro ⟨h1,h2⟩ l e;cases e;have:=h1 x rfl;have:=h2 y rfl;split <;> omega
theorem uppB_iff :geO (uppB a b) v↔geO a v/\geO b v:=by
 cases a with
 |none=>exact⟨λ h=>⟨λ l e=>(nomatch e),h⟩,λ h=>h.2⟩
 |some x =>
  cases b with
  |none=>exact⟨λ h=>⟨h,λ l e=>(nomatch e)⟩,λ h=>h.1⟩
  |some y =>
   constructor
   ·intro h;have:=h _ rfl;refine⟨λ l e=>?_,λ l e=>?_⟩ <;> cases e <;> split at this <;> omega
   ·rintro ⟨h1,h2⟩ l e;cases e;have:=h1 x rfl;have:=h2 y rfl;split <;> omega
theorem bb1  (h1:OB a n) (h2:OB b n):OB (lowB a b) n:=λ l e=>by
 cases a with
 |none=>exact h2 l e
 |some x =>
  cases b with
  |none=>exact h1 l e
  |some y =>
   cases e;have:=h1 x rfl;have:=h2 y rfl;split <;> omega
theorem aV0  (h1:OB a n) (h2:OB b n):OB (uppB a b) n:=λ l e=>by
 cases a with
 |none=>exact h2 l e
 |some x =>
  cases b with
  |none=>exact h1 l e
  |some y =>
   cases e;have:=h1 x rfl;have:=h2 y rfl;split <;> omega
def between (s:S) (lo hi:Option Int):Option S:=made (lowB s.lo lo) (uppB s.hi hi) s.st s.re
theorem aq2  (c:Canon s):Tells (between s lo hi) (λ v=>mem s v/\leO lo v/\geO hi v):=by
 refine (made_ok c.pos c.r0 c.r1).imp λ v=>⟨λ m=>?_,fun⟨m,a,b⟩=>?_⟩
 ·obtain⟨a,b⟩:=lowB_iff.mp m.l;obtain⟨J,q⟩:=uppB_iff.mp m.h;exact⟨⟨a,J,m.r⟩,b,q⟩
 ·exact⟨lowB_iff.mpr ⟨m.l,a⟩,uppB_iff.mpr ⟨m.h,b⟩,m.r⟩
theorem aq4  (c:Canon s) (bs:Bd s n) (h1:OB lo n) (h2:OB hi n):BdO (between s lo hi) (n+n) :=
 made_bd (bb1 bs.lo h1) (aV0 bs.hi h2) bs.st c.pos
def meet2 (one q:S) (g f:Int):Option S:=match back2 q one.st one.re g f with
 |none=>none
 |some t=>match moved t one.st one.re with
  |none=>none
  |some u=>between u one.lo one.hi
theorem meet_ok  (Y:Canon one) (c2:Canon q) (E:Euc one.st q.st g f):Tells (meet2 one q g f) (λ v=>mem one v/\mem q v):=by
 have J:=back_ok (b:=one.re) c2 (by have:=Y.pos;omega) E;have cls:∀ v,v % one.st=one.re↔∃ k,v=one.st*k+one.re:=λ v=>by
  constructor
  ·intro h;refine⟨v / one.st,?_⟩;have:=Ze v one.st;omega
  ·rintro ⟨k,rfl⟩;rw[Int.mul_add_emod_self_left,jx Y.r0 Y.r1]
 unfold meet2;cases e:back2 q one.st one.re g f with
 |none =>
  rw[e] at J;intro v ⟨O,Z⟩;obtain⟨k,rfl⟩:=(cls v).mp O.r;exact J k Z
 |some t =>
  rw[e] at J;obtain⟨u,eu,cu,hu,_⟩:=moved_some J.1 (show one.st≠0 by have:=Y.pos;omega);dsimp only;rw[eu];refine (aq2 cu).imp λ v=>⟨fun⟨m,a,b⟩=>?_,fun⟨O,Z⟩=>?_⟩
  ·obtain⟨k,mk,rfl⟩:=(hu v).mp m;exact⟨⟨a,b,(cls _).mpr ⟨k,rfl⟩⟩,(J.2 k).mp mk⟩
  ·obtain⟨k,rfl⟩:=(cls v).mp O.r;exact⟨(hu _).mpr ⟨k,(J.2 k).mpr Z,rfl⟩,O.l,O.h⟩
theorem meet_bd  (c1:Canon one) (c2:Canon J) (E:Euc one.st J.st g f) (h1:1<=n) (O:Bd one n) (b2:Bd J n):BdO (meet2 one J g f) (16*(n*n)):=by
 have Z:one.st≠0:=by have:=c1.pos;omega
 have hb:=back_ok (b:=one.re) c2 Z E;have ac:=back_bd c2 E Z b2 O.re;have nn:=Nat.le_mul_of_pos_left n h1;intro s e;unfold meet2 at e;cases q:back2 J one.st one.re g f with
 |none=>rw[q] at e;cases e
 |some t =>
  rw[q] at e hb;have bt:=ac t q;dsimp only at e;cases Y:moved t one.st one.re with
  |none=>rw[Y] at e;cases e
  |some u =>
   rw[Y] at e;have bu:=aJ3 hb.1 Z bt O.st O.re u Y;have cu:Canon u:=by have:=ai7 (b:=one.re) hb.1 Z;rw[Y] at this;exact this.1
   have e1:n*(n+n+n)=n*n+n*n+n*n:=by rw[Nat.mul_add,Nat.mul_add]
   have aa:=bu.mono (m:=8*(n*n)) (by omega);refine (aq4 cu aa (λ l z=>zf (O.lo l z) (by omega)) (λ l z=>zf (O.hi l z) (by omega)) s e).mono (by omega)
end St
namespace Fx
open PySem
noncomputable def dO:Option Int->D
 |none=>.non
 |some i=>.int i
def dS (s:St.S):D:=.tup [dO s.lo,dO s.hi,.int s.st,.int s.re]
def dOS:Option St.S->D
 |none=>.non
 |some s=>dS s
@[simp] theorem i_3:dO none=.non:=rfl
@[simp] theorem q_2:dO (some i)=.int i:=rfl
@[simp] theorem aM6:dOS none=.non:=rfl
@[simp] theorem aM5:dOS (some s)=dS s:=rfl
@[simp] theorem aM4:dS ⟨lo,hi,st,re⟩=.tup [dO lo,dO hi,.int st,.int re]:=rfl
@[simp] abbrev iz1:=@isN.eq_1
@[simp] abbrev iz2:=@isN.eq_2
@[simp] abbrev iz3:=@eqD.eq_9
@[simp] abbrev iz4:=@R_0.eq_3
@[simp] theorem izS:isN (dS s)=false:=rfl
@[simp] theorem izO:isN (dO o)=o.isNone:=by cases o<;>rfl
theorem c_9 {a b:Int} (h:0<b):a.fmod b=a % b:=Int.fmod_eq_emod_of_nonneg a (by omega)
theorem A_0 (lo hi:Option Int) (st re:Int):a_5 [dO lo,dO hi,.int st,.int re]=some (dOS (St.made lo hi st re)):=by
 by_cases h:0<=re/\re<st
 ·have J:0<st:=by omega
  have q:¬ st=0:=by omega
  unfold St.made;rw[if_pos h];cases lo with
  |none =>
   cases hi with
   |none=>simp[a_5,e_3,h.1,h.2,St.made2,St.first,St.last]
   |some y=>simp[a_5,e_3,h.1,h.2,q,St.made2,St.first,St.last,c_9 J]
  |some x =>
   cases hi with
   |none=>simp[a_5,e_3,h.1,h.2,q,St.made2,St.first,St.last,c_9 J]
   |some y =>
    simp only[St.made2,St.first,St.last,Option.map_some];by_cases h1:y-(y-re) % st<x+(re-x) % st
    ·simp[a_5,e_3,h.1,h.2,q,c_9 J,h1]
    ·by_cases h2:x+(re-x) % st=y-(y-re) % st
     ·simp[a_5,e_3,h.1,h.2,q,c_9 J,h2]
     ·simp[a_5,e_3,h.1,h.2,q,c_9 J,h1,h2]
 ·rw[St.made_none h];by_cases h1:0<=re
  ·have h2:¬ re<st:=λ z=>h ⟨h1,z⟩;simp[a_5,e_3,h1,h2]
  ·simp[a_5,e_3,h1]
noncomputable def leB (lo:Option Int) (v:Int):Bool:=match lo with | none=>true | some l=>decide (l<=v)
noncomputable def geB (hi:Option Int) (v:Int):Bool:=match hi with | none=>true | some h=>decide (v<=h)
def hasB (s:St.S) (v:Int):Bool:=leB s.lo v&&geB s.hi v&&decide (v % s.st=s.re)
theorem ac8 :leB lo v=true↔St.leO lo v:=by
 cases lo with
 |none=>exact⟨λ _ l e=>(nomatch e),λ _=>rfl⟩
 |some l=>exact⟨λ h x e=>by cases e;exact Qn h,λ h=>yh (h l rfl)⟩
theorem ad7 :geB lo v=true↔St.geO lo v:=by
 cases lo with
 |none=>exact⟨λ _ l e=>(nomatch e),λ _=>rfl⟩
 |some l=>exact⟨λ h x e=>by cases e;exact Qn h,λ h=>yh (h l rfl)⟩
theorem hasB_iff :hasB s v=true↔St.mem s v:=by unfold hasB;rw[zn,zn,ac8,ad7,y7];exact⟨fun⟨⟨a,b⟩,c⟩=>⟨a,b,c⟩,λ m=>⟨⟨m.l,m.h⟩,m.r⟩⟩
theorem aO2 (a:Int):(a.natAbs:Int)=St.ab a:=by unfold St.ab;split <;> omega
theorem D_4 {F G:FS}{ρ ρ':En} (h:F ρ=some (.nx ρ')):b_7 F G ρ=G ρ':=by rw[bY2,h,bC9]
theorem ax7 {s:St.S} (hp:0<s.st) {a b:Int} (ha:a≠0) (ok:∀ x,(x=s.re\/s.lo=some x\/s.hi=some x)->j_7 a x=true) (q:j_7 (St.ab a) s.st=true):d_7 [dS s,.int a,.int b]=some (dOS (St.moved s a b)):=by
 obtain⟨lo,hi,st,re⟩:=s;have hp:0<st:=hp;have ad:j_7 a re=true:=ok re (.inl rfl);have q:j_7 (St.ab a) st=true:=q;have hS:0<St.ab a*st:=Int.mul_pos (St.ab_pos ha) hp;have hn:¬ St.ab a*st=0:=by omega
 have two:(2:Nat)<=sizeLine:=by decide
 have md:∀ lo hi,a_5 [dO lo,dO hi,.int (St.ab a*st),.int ((a*re+b) % (St.ab a*st))]=some (dOS (St.made lo hi (St.ab a*st) ((a*re+b) % (St.ab a*st)))):=λ lo hi=>A_0 _ _ _ _;have O:∀ x y:D,atD [x,y] 0=some x:=λ _ _=>rfl;have Y:∀ x y:D,atD [x,y] 1=some y:=λ _ _=>rfl;have ac:∀ x y z w:D,atD [x,y,z,w] 2=some z:=λ _ _ _ _=>rfl;have aa:∀ x y z w:D,atD [x,y,z,w] 3=some w:=λ _ _ _ _=>rfl;have cut:∀ x y z w:D,R_4 [x,y,z,w] none (some 2)=[x,y]:=λ _ _ _ _=>rfl;have e2:¬ (T_3 4 0 none=0/\T_3 4 4 (some 2)=4):=by decide
 obtain⟨p,J⟩:∃ p:Option Int,p=(if a<0 then hi else lo).map λ e=>a*e+b:=⟨_,rfl⟩;obtain⟨r,Z⟩:∃ p:Option Int,p=(if a<0 then lo else hi).map λ e=>a*e+b:=⟨_,rfl⟩;have ae:i_9 [.im (.tup [dO lo,dO hi,.int st,.int re]),.im (.int a),.im (.int b),.no,.no]=_:=(D_4 (ρ':=[.im (.tup [dO lo,dO hi,.int st,.int re]),.im (.int a),.im (.int b),.im (.lst [dO (lo.map λ e=>a*e+b),dO (hi.map λ e=>a*e+b)]),.no]) (by
   cases lo with
   |none =>
    cases hi with
    |none=>kernel_rfl
    |some y=>simp[cut,e2,two,ok y (.inr (.inr rfl))]
   |some x =>
    cases hi with
    |none=>simp[cut,e2,two,ok x (.inr (.inl rfl))]
    |some y=>simp[cut,e2,two,ok x (.inr (.inl rfl)),ok y (.inr (.inr rfl))])).trans ((D_4 (ρ':=[.im (.tup [dO lo,dO hi,.int st,.int re]),.im (.int a),.im (.int b),.im (.lst [dO p,dO r]),.no]) (by
   by_cases h:a<0 <;> simp[J,Z,h,O,Y])).trans (D_4 (ρ':=[.im (.tup [dO lo,dO hi,.int st,.int re]),.im (.int a),.im (.int b),.im (.lst [dO p,dO r]),.im (.int (St.ab a*st))]) (by simp[ac,q,aO2])))
 have fin:∀ {d ρ},i_9 [.im (.tup [dO lo,dO hi,.int st,.int re]),.im (.int a),.im (.int b),.no,.no]=some (.rt d ρ)->d_7 [dS ⟨lo,hi,st,re⟩,.int a,.int b]=some d:=λ h=>by
  show d_7 [.tup [dO lo,dO hi,.int st,.int re],.int a,.int b]=some _;simp[d_7,List.replicate,h]
 have e:St.moved ⟨lo,hi,st,re⟩ a b=St.made p r (St.ab a*st) ((a*re+b) % (St.ab a*st)):=by unfold St.moved;rw[J,Z];by_cases h:a<0 <;> simp[h,St.mv]
 rw[e];exact fin (ae.trans (by simp[O,Y,aa,ad,hn,c_9 hS,md];rfl))
theorem n_9 {a b:Int} (h:0<b):a.fdiv b=a / b:=yu a (by omega)
theorem C_1  (h:i.natAbs<=m) (q:m<2 ^ 1000):ar0 i=true:=yh (Qd h q)
theorem t_0  (h:ar0 i=true) (h':ar0 j=true):j_7 i j=true:=by unfold j_7;rw[h,h'];simp
theorem P_2  (h:j≠0) (h':ar0 j=true):z_8 j=true:=by unfold z_8;unfold ar0 at h';rw[h',yh h];rfl
abbrev eT:FT:=l_6
abbrev eB:FS:=l_7
abbrev eE (a m g s o t:Int) (x y:Sl):En:=[.im (.int a),.im (.int m),.im (.int g),.im (.int s),.im (.int o),.im (.int t),x,y]
theorem aS4  (J:m.toNat<2 ^ 1000):∀ (n:Nat) (g o s t:Int) (x y:Sl),St.EI a m g o s t->o.toNat<n ->
  ∃ g' s' t' x' y',wGo eT eB n (eE a m g s o t x y)=some (.nx (eE a m g' s' 0 t' x' y'))/\St.EI a m g' 0 s' t'
 |0,_,_,_,_,_,_,_,h=>by omega
 |n+1,g,o,s,t,x,y,E,h=>by
  rw[bj7];by_cases q:o=0
  ·subst q;refine⟨g,s,t,x,y,?_,E⟩;simp
  ·have:=E.o0;have:=E.g0;have:=E.gm;have:=E.om;have op:0<o:=by omega
   have Y:ar0 o=true:=C_1 (by omega) J;have q0:=Yk E.g0 E.o0;have q1:g / o<=g:=Int.ediv_le_self _ E.g0;have O:ar0 (g / o)=true:=C_1 (by omega) J;have bt:=C_1 E.tm J;have k1:=t_0 O Y;have k2:=t_0 O bt;have k3:=P_2 q Y;obtain⟨Z,l⟩:=E.turn q;obtain⟨g',s',t',x',y',e,E2⟩:=aS4 J n o (g-g / o*o) t (s-g / o*t) (.im (.int (g / o))) (.im (.int (s-g / o*t))) Z (by omega);refine⟨g',s',t',x',y',?_,E2⟩;rw[<- e];simp[q,k1,k2,k3,n_9 op]
theorem bt2  (q:0<m) (Y:m.toNat<2 ^ 1000):∃ g f,e_0 [.int a,.int m]=some (.tup [.int g,.int f])/\St.Euc a m g f/\f.natAbs<=m.toNat:=by
 obtain⟨g,f,t,x,y,e,E⟩:=aS4 Y (m.toNat+2) (a % m) m 1 0 .no .no (St.EI.start q) (by omega);refine⟨g,f,?_,E.fin q,E.sm⟩;have J:¬ m=0:=by omega
 have O:=e;simp[e_0,m_9,J,c_9 q,List.replicate,O]
theorem bZ8:(2:Nat) ^ 900+2 ^ 900<2 ^ 1000:=by have h1:=Yc 2 900;omega
theorem bh0 {T:FT}{A B:FS}{ρ:En} (h:T ρ=some (false,ρ)):b_7 (sIf T A sN) B ρ=B ρ:=D_4 (by simp[h])
theorem af0 {s:St.S} (q:0<s.st) (hb:s.st.toNat<2 ^ 900) (r0:0<=s.re) (r1:s.re<s.st) {a b:Int} (ha:a≠0) (ba:a.natAbs<2 ^ 900) (bb:b.natAbs<2 ^ 900) :
  ∃ g f,St.Euc a s.st g f/\b_4 [dS s,.int a,.int b]=some (dOS (St.back2 s a b g f)):=by
 obtain⟨lo,hi,st,re⟩:=s;have q:0<st:=q;have hb:st.toNat<2 ^ 900:=hb;have r0:0<=re:=r0;have r1:re<st:=r1;have p9:(2:Nat) ^ 900+2 ^ 900<2 ^ 1000:=bZ8;obtain⟨g,f,e,E,fm⟩:=bt2 (a:=a) q (m:=st) (by omega);refine⟨g,f,E,?_⟩;have gp:=E.pos;have gl:g<=st:=Y1 q E.dm;have gn:¬ g=0:=by omega
 have kg:=P_2 (j:=g) (by omega) (C_1 (m:=st.toNat) (by omega) (by omega));have ka:=P_2 (j:=a) ha (C_1 (m:=a.natAbs) (qj _) (by omega));have aw:((re-b) / g).natAbs<=2 ^ 900+2 ^ 900:=by
  have h1:(re-b).natAbs<=2 ^ 900+2 ^ 900:=by omega
  refine zf ?_ h1;exact Qv _ _
 have k1:=t_0 (i:=(re-b) / g) (j:=f) (C_1 aw (by omega)) (C_1 fm (by omega));have sp:0<st / g:=by obtain⟨m',em⟩:=E.dm;rw[em,Qz _ gn];rw[em] at q;exact Z2 q (by omega)
 have sn:¬ st / g=0:=by omega
 have J:∀ x y:D,atD [x,y] 0=some x:=λ _ _=>rfl;have Z:∀ x y:D,atD [x,y] 1=some y:=λ _ _=>rfl;have ae:∀ x y z w:D,atD [x,y,z,w] 0=some x:=λ _ _ _ _=>rfl;have af:∀ x y z w:D,atD [x,y,z,w] 1=some y:=λ _ _ _ _=>rfl;have O:∀ x y z w:D,atD [x,y,z,w] 2=some z:=λ _ _ _ _=>rfl;have ag:∀ x y z w:D,atD [x,y,z,w] 3=some w:=λ _ _ _ _=>rfl;have md:∀ lo hi,a_5 [dO lo,dO hi,.int (st / g),.int ((re-b) / g*f % (st / g))]=some (dOS (St.made lo hi (st / g) ((re-b) / g*f % (st / g)))):=λ lo hi=>A_0 _ _ _ _;obtain⟨p,ad⟩:∃ p:Option Int,p=if 0<a then lo else hi:=⟨_,rfl⟩;obtain⟨r,aa⟩:∃ p:Option Int,p=if 0<a then hi else lo:=⟨_,rfl⟩;unfold St.back2 St.bkLo St.bkHi;dsimp only;rw[<- ad,<- aa];have Y:d_6 [.im (.tup [dO lo,dO hi,.int st,.int re]),.im (.int a),.im (.int b),.no,.no,.no,.no,.no,.no,.no]=_:=(bh0 (by simp[ha])).trans ((D_4 (ρ':=[.im (.tup [dO lo,dO hi,.int st,.int re]),.im (.int a),.im (.int b),.im (.tup [.int g,.int f]),.no,.no,.no,.no,.no,.no]) (by simp[e,O])).trans ((D_4 (ρ':=[.im (.tup [dO lo,dO hi,.int st,.int re]),.im (.int a),.im (.int b),.im (.tup [.int g,.int f]),.im (.int g),.no,.no,.no,.no,.no]) (by kernel_rfl)).trans (D_4 (ρ':=[.im (.tup [dO lo,dO hi,.int st,.int re]),.im (.int a),.im (.int b),.im (.tup [.int g,.int f]),.im (.int g),.im (.int (re-b)),.no,.no,.no,.no]) (by simp[ag]))))
 have fin:∀ {d ρ},d_6 [.im (.tup [dO lo,dO hi,.int st,.int re]),.im (.int a),.im (.int b),.no,.no,.no,.no,.no,.no,.no]=some (.rt d ρ)->b_4 [dS ⟨lo,hi,st,re⟩,.int a,.int b]=some d:=λ h=>by
  show b_4 [.tup [dO lo,dO hi,.int st,.int re],.int a,.int b]=some _;simp[b_4,List.replicate,h]
 by_cases hd:(re-b) % g=0
 ·rw[if_pos hd];have ac:=Y.trans ((bh0 (by simp[gn,kg,c_9 gp,hd])).trans ((D_4 (ρ':=[.im (.tup [dO lo,dO hi,.int st,.int re]),.im (.int a),.im (.int b),.im (.tup [.int g,.int f]),.im (.int g),.im (.int (re-b)),.im (.int (st / g)),.no,.no,.no]) (by simp[O,gn,kg,n_9 gp])).trans ((D_4 (ρ':=[.im (.tup [dO lo,dO hi,.int st,.int re]),.im (.int a),.im (.int b),.im (.tup [.int g,.int f]),.im (.int g),.im (.int (re-b)),.im (.int (st / g)),.im (.lst [dO p,dO r]),.no,.no]) (by
   by_cases h:0<a <;> simp[ad,aa,h,ae,af])).trans ((D_4 (ρ':=[.im (.tup [dO lo,dO hi,.int st,.int re]),.im (.int a),.im (.int b),.im (.tup [.int g,.int f]),.im (.int g),.im (.int (re-b)),.im (.int (st / g)),.im (.lst [dO p,dO r]),.im (dO (p.map λ e=>-(b-e).fdiv a)),.no]) (by
   cases p <;> simp[J,ha,ka])).trans (D_4 (ρ':=[.im (.tup [dO lo,dO hi,.int st,.int re]),.im (.int a),.im (.int b),.im (.tup [.int g,.int f]),.im (.int g),.im (.int (re-b)),.im (.int (st / g)),.im (.lst [dO p,dO r]),.im (dO (p.map λ e=>-(b-e).fdiv a)),.im (dO (r.map λ e=>(e-b).fdiv a))]) (by cases r <;> simp[Z,ha,ka]))))))
  exact fin (ac.trans (by simp[Z,gn,kg,k1,sn,n_9 gp,c_9 sp,md];rfl))
 ·rw[if_neg hd];exact fin (Y.trans (by simp[gn,kg,c_9 gp,hd];rfl))
theorem y_7 (x y z w:D):atD [x,y,z,w] 0=some x:=rfl
theorem bc0 (x y z w:D):atD [x,y,z,w] 1=some y:=rfl
theorem aK1 (x y z w:D):atD [x,y,z,w] 2=some z:=rfl
theorem w_1 (x y z w:D):atD [x,y,z,w] 3=some w:=rfl
@[simp] theorem bT2:dpD (dO o)=0:=by cases o <;> rfl
theorem bp8 (a b:Option Int):h_9 [dO a,dO b]=some (dO (St.lowB a b)):=by
 cases a with
 |none=>cases b <;> simp[h_9,r_9,St.lowB]
 |some x=>cases b <;> simp[h_9,r_9,St.lowB]
theorem aO7 (a b:Option Int):e_9 [dO a,dO b]=some (dO (St.uppB a b)):=by
 cases a with
 |none=>cases b <;> simp[e_9,r_8,St.uppB]
 |some x=>cases b <;> simp[e_9,r_8,St.uppB]
theorem aq3 (s:St.S) (lo hi:Option Int):f_3 [dS s,dO lo,dO hi]=some (dOS (St.between s lo hi)):=by obtain⟨l,h,st,re⟩:=s;simp[f_3,q_6,y_7,bc0,aK1,w_1,bp8,aO7,A_0,St.between]
theorem A_7  (h:i.natAbs<=2 ^ k) (q:k<1000):ar0 i=true:=C_1 h (Yq (by decide) q)
theorem P_7  (h:n<=2 ^ k) (q:k<900):n<2 ^ 900:=Qd h (Yq (by decide) q)
theorem ba8  (c1:St.Canon one) (O:St.Canon J)  (hk:k<=450) (Y:St.Bd one (2 ^ k)) (b2:St.Bd J (2 ^ k)) :
  ∃ r,g_4 [dS one,dS J]=some (dOS r)/\St.Tells r (λ v=>St.mem one v/\St.mem J v)/\St.BdO r (2 ^ (2*k+4)):=by
 have Z:one.st≠0:=by have:=c1.pos;omega
 have p2:=O.pos;have s2:=b2.st;obtain⟨g,f,E,e1⟩:=af0 O.pos (P_7 (k:=k) (by omega) (by omega)) O.r0 O.r1 Z (P_7 Y.st (by omega)) (P_7 Y.re (by omega));have n1:1<=2 ^ k:=Y3;refine⟨St.meet2 one J g f,?_,St.meet_ok c1 O E,?_⟩
 ·have hb:=St.back_ok (b:=one.re) O Z E;have aa:=St.back_bd O E Z b2 Y.re;unfold St.meet2;cases q:St.back2 J one.st one.re g f with
  |none =>
   rw[q] at e1;obtain⟨l,h,st,re⟩:=one;simp[g_4,q_4,aK1,w_1,e1]
  |some t =>
   rw[q] at e1 hb;have bt:=(aa t q).mono (m:=2 ^ (k+2)) (by rw[Zx];omega);have e2:=ax7 (b:=one.re) hb.1.pos Z (λ x hx=>t_0 (A_7 Y.st (by omega)) (by
     rcases hx with z | z | z
     ·rw[z];exact A_7 bt.re (by omega)
     ·exact A_7 (bt.lo x z) (by omega)
     ·exact A_7 (bt.hi x z) (by omega))) (t_0 (by
     have:(St.ab one.st).natAbs<=2 ^ k:=by rw[St.ab_abs];exact Y.st
     exact A_7 this (by omega)) (A_7 bt.st (by omega)))
   dsimp only;obtain⟨u,eu,_⟩:=St.moved_some hb.1 Z;rw[eu] at e2 ⊢;have e3:=aq3 u one.lo one.hi;obtain⟨l,h,st,re⟩:=one;simp[g_4,q_4,y_7,bc0,aK1,w_1,e1,e2,e3]
 ·intro s e;refine (St.meet_bd c1 O E n1 Y b2 s e).mono ?_;rw[Zx,Nat.two_mul,Zx];omega
def bR3 (o:Option Res):Option (D×MO):=bnd o λ r=>bF3 r
def bl9 (d:D) (o:Option (Bool×MO)):Option (D×MO):=bnd o λ q=>if q.1=true then some (d,q.2) else none
@[simp] theorem ch5:fnB n k B o ds=if ds.length=n then bR3 (B (.ow true o::(ds.map .im++List.replicate k .no))) else none:=yI rfl
@[simp] theorem bR2:bR3 (some (.rt d ρ))=bl9 d (owO ρ[0]?):=yI rfl
@[simp] theorem bF2:bl9 d (some (true,o))=some (d,o):=yI rfl
def bH6 (js:List Nat) (i q:Nat) (ρ:En) (b:Bool) (xs:List D) (o:Option (List D×MO)):Option (D×En):=bnd o λ t=>if xs.length<=sizeLine/\js[q]?=some i/\js.Nodup then some (.lst t.1,ρ.set i (.ow b t.2)) else none
def bQ4 (js:List Nat) (i q:Nat) (T:FT) (F:FE) (xs:List D) (ρ:En) (o:Option (Bool×MO)):Option (D×En):=bnd o λ w=>bH6 js i q ρ w.1 xs (am2 T F ρ i js q w.2 xs)
@[simp] theorem ch2:lcB js i q T F xs ρ=bQ4 js i q T F xs ρ (owO ρ[i]?):=yI rfl
@[simp] theorem bQ3:bQ4 js i q T F xs ρ (some (b,o))=bH6 js i q ρ b xs (am2 T F ρ i js q o xs):=yI rfl
@[simp] theorem bQ2:bH6 js i q ρ b xs (some (ys,o))=if xs.length<=sizeLine/\js[q]?=some i/\js.Nodup then some (.lst ys,ρ.set i (.ow b o)) else none:=yI rfl
def be6 (js:List Nat) (i q:Nat) (T:FT) (F:FE) (ρ:En) (o:Option (List D)):Option (D×En):=bnd o λ xs=>lcB js i q T F xs ρ
def bu2 (js:List Nat) (i q:Nat) (T:FT) (F:FE) (o:Option (D×En)):Option (D×En):=bnd o λ p=>be6 js i q T F p.2 (items p.1)
@[simp] theorem cd5:be7 js i q I T F ρ=bu2 js i q T F (I ρ):=yI rfl
@[simp] theorem bJ9:bu2 js i q T F (some (x,ρ))=be6 js i q T F ρ (items x):=yI rfl
@[simp] theorem bJ8:be6 js i q T F ρ (some xs)=lcB js i q T F xs ρ:=yI rfl
noncomputable def drD (ns:List Int) (wy l a nb kk:Int):List (Str×D):=[(Str.ofString "script",.lst (ns.map .int)),(Str.ofString "way",.int wy),(Str.ofString "left",.int l),(Str.ofString "at",.int a),(Str.ofString "number",.int nb),(Str.ofString "k",.int kk)]
section
variable (ns:List Int) (wy l a nb kk:Int) (d:Int)
theorem drS:w_3 (Str.ofString "script") (drD ns wy l a nb kk)=some (.lst (ns.map .int)):=rfl
theorem drW:w_3 (Str.ofString "way") (drD ns wy l a nb kk)=some (.int wy):=rfl
theorem drL:w_3 (Str.ofString "left") (drD ns wy l a nb kk)=some (.int l):=rfl
theorem drA:w_3 (Str.ofString "at") (drD ns wy l a nb kk)=some (.int a):=rfl
theorem drN:w_3 (Str.ofString "number") (drD ns wy l a nb kk)=some (.int nb):=rfl
theorem drK:w_3 (Str.ofString "k") (drD ns wy l a nb kk)=some (.int kk):=rfl
theorem stL:an4 (Str.ofString "left") (.int d) (drD ns wy l a nb kk)=drD ns wy d a nb kk:=rfl
theorem stA:an4 (Str.ofString "at") (.int d) (drD ns wy l a nb kk)=drD ns wy l d nb kk:=rfl
theorem stN:an4 (Str.ofString "number") (.int d) (drD ns wy l a nb kk)=drD ns wy l a d kk:=rfl
theorem stK:an4 (Str.ofString "k") (.int d) (drD ns wy l a nb kk)=drD ns wy l a nb d:=rfl
theorem aC1:(drD ns wy l a nb kk).length=6:=rfl
end
theorem aE5 (ns:List Int) {i:Int} (q:0<=i) (h1:i<ns.length):∃ x:Int,atD (ns.map D.int) i=some (.int x):=by
 have hi:i.toNat<ns.length:=by omega
 refine⟨ns[i.toNat],?_⟩;unfold atD dPl;rw[qy,if_pos q,if_pos h1];show (ns.map D.int)[i.toNat]?=_;rw[zl,yd hi];rfl
theorem ae6 (ns:List Int)  (q:0<=k):∃ x:Int,f_0 [.lst (ns.map .int),.int k]=some (.int x):=by
 by_cases h:k<ns.length
 ·obtain⟨x,e⟩:=aE5 ns q h;exact⟨x,by simp[f_0,s_0,h,e]⟩
 ·exact⟨0,by simp[f_0,s_0,h]⟩
theorem ai8 (c k:Int):∃ r:Int,i_0 [.int c,.int k]=some (.int r)/\0<=r:=by
 have a:∀ x:Int,0<=Int.fmod x 2147483647/\Int.fmod x 2147483647<2147483647:=λ x=>⟨yv _ (by decide),jt _ (by decide)⟩
 have O:∀ x:Int,j_7 x 48271=true:=λ x=>r_6 (by decide);have J:j_7 7919 k=true:=G_2 (by decide);have Y:∀ x y:Int,j_7 (Int.fmod x 2147483647) y=true:=λ x y=>G_2 (by have:=a x;omega);have q:z_8 1009=true:=P_1 (by decide) (by decide);exact⟨_,by simp[i_0,w_5,O,J,Y,q];rfl,(a _).1⟩
abbrev drE (ns:List Int) (wy l a nb kk:Int) (s1 s2:Sl):En:=[.ow true (.dic (drD ns wy l a nb kk)),s1,s2]
theorem bg0  (h:¬ (wy=1/\l=0/\a<ns.length)):h_7 (drE ns wy l a nb kk s1 s2)=some (false,drE ns wy l a nb kk s1 s2):=by
 by_cases h1:wy=1
 ·by_cases h2:l=0
  ·have q:¬ a<ns.length:=λ z=>h ⟨h1,h2,z⟩;simp[h_7,drW,drL,drA,drS,h1,h2,q]
  ·simp[h_7,drW,drL,h1,h2]
 ·simp[h_7,drW,h1]
theorem aN0  (h1:wy=1) (h2:l=0) (q:a<ns.length):h_7 (drE ns wy l a nb kk s1 s2)=some (true,drE ns wy l a nb kk s1 s2):=by simp[h_7,drW,drL,drA,drS,h1,h2,q]
theorem ar7  (J:0<=a) (O:a<ns.length):∃ q:Int,p_9 (drE ns wy l a nb kk s1 s2)=some (.nx (drE ns wy q (a+1) nb kk s1 s2))/\0<=q:=by obtain⟨x,e⟩:=aE5 ns J O;refine⟨(x.natAbs:Int),?_,by omega⟩;simp[p_9,drL,drA,drS,e,aC1,stL,stA]
theorem z_6 (ns:List Int) (wy nb kk:Int) (s1 s2:Sl):∀ (m:Nat) (l a:Int),0<=l->1<=a->(ns.length:Int)-a<m->∀ f,m<f ->
  ∃ q O:Int,wGo h_7 p_9 f (drE ns wy l a nb kk s1 s2)=some (.nx (drE ns wy q O nb kk s1 s2))/\0<=q/\1<=O
 |m,l,a,hl,ha,hm,f,hf=>by
  obtain⟨f,rfl⟩:∃ g,f=g+1:=⟨f-1,by omega⟩;rw[bj7];by_cases h:wy=1/\l=0/\a<ns.length
  ·obtain⟨q,e,J⟩:=ar7 (show (0:Int)<=a by omega) h.2.2;rw[aN0 h.1 h.2.1 h.2.2,bA3,e,bA2]
   match m,hm,hf with
   |0,hm,_=>omega
   |m+1,hm,hf=>exact z_6 ns wy nb kk s1 s2 m q (a+1) J (by omega) (by omega) f (by omega)
  ·rw[bg0 h,bA4];exact⟨l,a,rfl,hl,ha⟩
def q_8 (ns:List Int) (o:MO):Prop:=∃ wy l a nb kk:Int,o=.dic (drD ns wy l a nb kk)/\0<=l/\1<=a/\0<=kk
theorem e_5  (hn:ns.length<=63)  (h:q_8 ns o):∃ (r:Int) (o':MO),a_1 o []=some (.int r,o')/\0<=r/\q_8 ns o':=by
 obtain⟨wy,l,a,nb,kk,rfl,hl,ha,hk⟩:=h;obtain⟨J,Z,e,Y,O⟩:=z_6 ns wy nb kk .no .no 64 l a hl ha (by omega) 200 (by decide);by_cases hp:0<J
 ·have d1:z_8 1000003=true:=P_1 (by decide) (by decide);have f0:=yv J (b:=1000003) (by decide);have q:J.fdiv 1000003=J / 1000003:=yu _ (by decide);refine⟨J.fmod 1000003,.dic (drD ns wy (J / 1000003) Z nb kk),?_,f0,wy,J / 1000003,Z,nb,kk,rfl,Yk Y (by decide),O,hk⟩;simp[a_1,q_7,List.replicate,e,drL,hp,d1,q,aC1,stL]
 ·obtain⟨x,ex⟩:=ae6 ns (k:=kk+1) (by omega);obtain⟨r1,e1,_⟩:=ai8 (nb+x) (kk+1);obtain⟨r2,e2,h2⟩:=ai8 r1 7;refine⟨r2,.dic (drD ns wy J Z r1 (kk+1)),?_,h2,wy,J,Z,r1,kk+1,rfl,Y,O,by omega⟩;simp[a_1,q_7,List.replicate,e,drL,hp,drK,drN,drS,aC1,stK,stN,ex,e1,e2]
noncomputable abbrev alpha:Str:=Str.ofString "abcdefghijklmnopqrstuvwxyz"
theorem aE7:alpha.length=26:=by decide +kernel
theorem aO1:∀ j:Nat,j<26->alpha.cps.toList[j]?=some (97+j):=by
 have e:alpha.cps.toList=List.range' 97 26:=by decide +kernel
 intro j q;rw[e,List.getElem?_range' q];simp
theorem a_6  (h:n<=1000):n<=sizeLine:=zf h (by decide)
theorem ay9  (q:0<=i) (h1:i<26):atS alpha i=some (.str (chS (97+i.toNat))):=by
 unfold atS;rw[if_pos (by rw[aE7];exact a_6 (by decide))];have l:alpha.cps.toList.length=26:=by decide +kernel
 unfold dPl;rw[l,if_pos q,if_pos (by exact_mod_cast h1),b_3,aO1 _ (by omega),b_3]
theorem bR4 (x:Int):0<=x.fmod 26/\x.fmod 26<26:=⟨yv _ (by decide),jt _ (by decide)⟩
def ltr (x:Int):Str:=chS (97+(x.fmod 26).toNat)
theorem bp6 (x:Int):atS alpha (x.fmod 26)=some (.str (ltr x)):=ay9 (bR4 x).1 (bR4 x).2
theorem ay6 (x:Int):(ltr x).length=1:=rfl
theorem S_8 (a b:Str):(a++b).length=a.length+b.length:=by show (a.cps++b.cps).size=_;rw[Array.size_append];rfl
theorem Q_5  (P:Nat->En->Prop):∀ (n:Nat) (lo:Int) (k:Nat) (ρ:En),(∀ (i:Nat) (v:Int) ρ,i<k+n->P i ρ->∃ Y J,g (.int v) ρ=some Y/\B Y=some (.nx J)/\P (i+1) J)->P k ρ->∃ O,fGo g B (C_9 lo n) ρ=some (.nx O)/\P (k+n) O
 |0,lo,k,ρ,_,p=>⟨ρ,rfl,p⟩
 |n+1,lo,k,ρ,h,p=>by
  obtain⟨Y,J,h1,h2,p2⟩:=h k lo ρ (by omega) p;obtain⟨O,e,Z⟩:=Q_5 P n (lo+1) (k+1) J (λ i v ρ hi q=>h i v ρ (by omega) q) p2;refine⟨O,?_,by rw[show k+(n+1)=k+1+n by omega];exact Z⟩;rw[show C_9 lo (n+1)=.int lo::C_9 (lo+1) n from rfl,Q_6,h1,Q_7,h2,X_7];exact e
theorem I_1  (f:α->D) (xs:List α) {i:Int} (q:0<=i) (h1:i<xs.length):∃ x,x∈xs/\atD (xs.map f) i=some (f x):=by
 have hi:i.toNat<xs.length:=by omega
 refine⟨xs[i.toNat],Jd hi,?_⟩;unfold atD dPl;rw[qy,if_pos q,if_pos h1];show (xs.map f)[i.toNat]?=_;rw[zl,yd hi];rfl
theorem av5  (hn:ns.length<=63) (Z:Sl) (i:Nat) (v:Int) (ρ:En) (hi:i<100) (p:∃ o q Y,q_8 ns o/\q.length=i/\ρ=[.ow true o,.im (.str alpha),.im (.str q),Y,Z]) :
  ∃ O J,gN 3 (.int v) ρ=some O/\p_8 O=some (.nx J)/\∃ o q Y,q_8 ns o/\q.length=i+1/\J=[.ow true o,.im (.str alpha),.im (.str q),Y,Z]:=by
 obtain⟨o,q,Y,ho,hl,rfl⟩:=p;obtain⟨r,o',e,hr,aa⟩:=e_5 hn ho;have lz:q.length+(ltr r).length<=sizeLine:=a_6 (by rw[ay6];omega);refine⟨_,[.ow true o',.im (.str alpha),.im (.str (q++ltr r)),.im (.int v),Z],rfl,?_,o',q++ltr r,_,aa,by rw[S_8,ay6,hl],rfl⟩;simp[p_8,e,bp6,lz]
def mkK (q:Str) (a:Int) (c:Nat):Str:=Txt.slice q none (some a)++chS c++Txt.slice q (some (a+1)) none
theorem ba6  (J:q.length<=100) (a:Int) (c:Nat):(mkK q a c).length<=300:=by have s1:=Z9 q none (some a);have s2:=Z9 q (some (a+1)) none;have O:(chS c).length=1:=rfl;unfold mkK;rw[S_8,S_8];omega
theorem ax8 (q:Str) (a:Int) (c:Nat):(mkK q a c).cps.toList=(Txt.slice q none (some a)).cps.toList++(c::(Txt.slice q (some (a+1)) none).cps.toList):=by show ((Txt.slice q none (some a)).cps++#[c]++(Txt.slice q (some (a+1)) none).cps).toList=_;simp
theorem ba7  (h:mkK q a c=mkK q a d):c=d:=by have e:=Qk (λ s:Str=>s.cps.toList) h;simp only[ax8] at e;exact (List.cons.inj (List.append_cancel_left e)).1
theorem ag3 (J:Str) (hw:J.length<=100) (q:Int):∀ O:List Nat,cGo tYes (e2 i_1 (e2 i_1 (L_4 (eV 1) oN (oS (eV 2))) (eV 0)) (L_4 (eV 1) (oS (e2 i_1 (eV 2) (zI 1))) oN)) [.im (.str J),.im (.int q)] (O.map λ c=>.str (chS c))=some ((O.map (mkK J q)).map .str)
 |[]=>rfl
 |c::r=>by
  have e:=ag3 J hw q r;have Y:J.length<=sizeLine:=a_6 (by omega);have s1:=Z9 J none (some q);have s2:=Z9 J (some (q+1)) none;have cl:(chS c).length=1:=rfl;have Z:(Txt.slice J none (some q)).length+(chS c).length<=sizeLine:=a_6 (by omega);have z2:(Txt.slice J none (some q)++chS c).length+(Txt.slice J (some (q+1)) none).length<=sizeLine:=a_6 (by rw[S_8];omega);rw[zd,aE0];show cGa _ _ _ _ (some (true,_))=_;have st:e2 i_1 (e2 i_1 (L_4 (eV 1) oN (oS (eV 2))) (eV 0)) (L_4 (eV 1) (oS (e2 i_1 (eV 2) (zI 1))) oN) [.im (.str (chS c)),.im (.str J),.im (.int q)]
    = some (.str (mkK J q c),[.im (.str (chS c)),.im (.str J),.im (.int q)]):=by
   simp[Y,Z,z2,mkK]
  rw[aE2,st,aE1,e,Y_4];rfl
structure Pool (ks:List Str):Prop where
 n9:ks.length=9
 len:∀ k∈ks,k.length<=300
 q:Str.ofString "q"∉ks
 nd:ks.Nodup
theorem aY5  (Y:ns.length<=63)  (ho:q_8 ns o):∃ (ks:List Str) (o':MO),m_0 o []=some (.lst (ks.map .str),o')/\Pool ks/\q_8 ns o':=by
 obtain⟨r1,o1,e1,h1,Z⟩:=e_5 Y ho;have f0:=yv r1 (b:=8) (by decide);have f1:=jt r1 (b:=8) (by decide);have el:(Str.ofString "").length=0:=by decide +kernel
 obtain⟨ag,aa,o2,q,s3,af,hl,rfl⟩:=Q_5 (λ i ρ=>∃ o q s3,q_8 ns o/\q.length=i/\ρ=[.ow true o,.im (.str alpha),.im (.str q),s3,.no]) (1+r1.fmod 8).toNat 0 0
  [.ow true o1,.im (.str alpha),.im (.str ""),.no,.no] (λ i v ρ hi p=>av5 Y .no i v ρ (by omega) p) ⟨o1,_,_,Z,el,rfl⟩
 have wz:q.length<=sizeLine:=a_6 (by omega);have q1:-4611686018427387904<=1+r1.fmod 8:=by omega
 have q2:1+r1.fmod 8<4611686018427387904:=by omega
 obtain⟨r3,o4,e4,h4,ac⟩:=e_5 Y af;have nz:¬ (q.length:Int)=0:=by omega
 have ae:¬ q.length=0:=by omega
 have wl:q.length<=100:=by omega
 have ek:=ag3 q wl (r3.fmod (q.length:Int)) (Str.ofString "abcdefghz").cps.toList;have sl:(Str.ofString "abcdefghz").cps.toList.length=9:=by decide +kernel
 have cl:(chs (Str.ofString "abcdefghz")).length ≤ sizeLine:=by unfold chs;rw[qy,sl];exact a_6 (by decide)
 have O:cGo tYes (e2 i_1 (e2 i_1 (L_4 (eV 1) oN (oS (eV 2))) (eV 0)) (L_4 (eV 1) (oS (e2 i_1 (eV 2) (zI 1))) oN)) [.im (.str q),.im (.int (r3.fmod (q.length:Int)))] (chs (Str.ofString "abcdefghz"))=some (((Str.ofString "abcdefghz").cps.toList.map (mkK q (r3.fmod (q.length:Int)))).map .str):=ek;have ad:(Str.ofString "abcdefghz").cps.toList.Nodup:=by decide +kernel
 refine⟨(Str.ofString "abcdefghz").cps.toList.map (mkK q (r3.fmod (q.length:Int))),o4,?_,⟨by rw[qy,sl],λ k hk=>?_,λ hq=>?_,?_⟩,ac⟩
 ·simp[m_0,M_1,List.replicate,e1,q1,q2,aa,e4,wz,ae,O,cl]
 ·obtain⟨c,_,rfl⟩:=List.mem_map.mp hk;exact ba6 wl _ _
 ·obtain⟨c,hc,e⟩:=List.mem_map.mp hq;have d:∀ c∈(Str.ofString "abcdefghz").cps.toList,¬ c∈(Str.ofString "q").cps.toList:=by decide +kernel
  refine d c hc ?_;rw[<- e,ax8];simp
 ·exact List.pairwise_map.mpr (ad.imp λ J z=>J (ba7 z))
noncomputable abbrev wO (o:Bool):Str:=if o then Str.ofString "only" else Str.ofString "but"
def KK (o:Bool) (ts:List Str):D:=.tup [.str (wO o),.tup (ts.map .str)]
noncomputable def inK (o:Bool) (ts:List Str) (k:Str):Bool:=decide (k∈ts)==o
theorem Q_2 (k:Str):∀ ts:List Str,inD (.str k) (ts.map .str)=decide (k∈ts)
 |[]=>rfl
 |t::r=>by
  have q:=Q_2 k r;unfold inD at q ⊢;rw[zd,Ql,q,ae2];by_cases h:t=k
  ·simp[h]
  ·have:¬ k=t:=λ e=>h e.symm;simp[h,this]
theorem G_3 (k:Str):∀ ks:List Str,Z_9 (.str k) (ks.map .str)=true:=λ ks=>by
 unfold Z_9;rw[show ad9 (.str k)=true from rfl,Bool.true_and,Je];intro x hx;obtain⟨y,_,rfl⟩:=List.mem_map.mp hx;rfl
theorem w_2 (a b:D):atD [a,b] 0=some a:=rfl
theorem u_9 (a b:D):atD [a,b] 1=some b:=rfl
theorem n_7:¬ (Str.ofString "but"=Str.ofString "only"):=by decide +kernel
theorem u_8:¬ (Str.ofString "only"=Str.ofString "but"):=by decide +kernel
theorem bc5 (o:Bool) (ts:List Str) (k:Str):e_8 [KK o ts,.str k]=some (.bl (inK o ts k)):=by have ok:=G_3 k ts;have e:=Q_2 k ts;cases o <;> by_cases h:k∈ts <;> simp[KK,inK,e_8,I_0,w_2,u_9,ok,e,h,n_7]
theorem ad5 (o:Bool) (ts:List Str):∀ ks:List Str,cGo (tV (eF e_8 (aC (eV 1) (aC (eV 0) aN)))) (eV 0) [.im (KK o ts)] (ks.map .str)=some ((ks.filter (inK o ts)).map .str)
 |[]=>rfl
 |k::r=>by
  have J:=ad5 o ts r;have h:=bc5 o ts k;rw[zd,aE0];cases q:inK o ts k with
  |false =>
   rw[q] at h;have t:tV (eF e_8 (aC (eV 1) (aC (eV 0) aN))) [.im (.str k),.im (KK o ts)]=some (false,[.im (.str k),.im (KK o ts)]):=by simp[h]
   rw[t,bg3,J,Q7 (by simp[q])]
  |true =>
   rw[q] at h;have t:tV (eF e_8 (aC (eV 1) (aC (eV 0) aN))) [.im (.str k),.im (KK o ts)]=some (true,[.im (.str k),.im (KK o ts)]):=by simp[h]
   have f:eV 0 [.im (.str k),.im (KK o ts)]=some (.str k,[.im (.str k),.im (KK o ts)]):=rfl;rw[t,aE2,f,aE1,J,Y_4,Q6 (by simp[q]),zd]
def P_6 (o:Bool) (q t2:List Str):D:=if q.filter (inK o t2)=[] then .non else KK true (q.filter (inK o t2))
theorem ac6 (o:Bool) (q t2:List Str) (h1:q.length<=100):j_3 [KK true q,KK o t2]=some (P_6 o q t2):=by
 have g:=ad5 o t2 q;have J:q.length<=sizeLine:=a_6 (by omega);have O:(q.filter (inK o t2)).length<=sizeLine:=a_6 (zf (jd _ _) (by omega));unfold P_6;unfold KK at g;by_cases z:q.filter (inK o t2)=[]
 ·rw[z] at g;rw[if_pos z];cases o <;> simp[KK,j_3,s_1,List.replicate,w_2,u_9,u_8,J,g]
 ·rw[if_neg z];have Y:=List.isEmpty_eq_false_iff.mpr z;cases o <;> simp[KK,j_3,s_1,List.replicate,w_2,u_9,u_8,J,g,Y]
theorem W_8 (o:Bool) (q t2:List Str) (h1:q.length<=100):d_8 [KK true q,KK o t2]=some (P_6 o q t2):=by
 have g:=ad5 o t2 q;have J:q.length<=sizeLine:=a_6 (by omega);have O:(q.filter (inK o t2)).length<=sizeLine:=a_6 (zf (jd _ _) (by omega));unfold P_6;unfold KK at g;by_cases z:q.filter (inK o t2)=[]
 ·rw[z] at g;rw[if_pos z];cases o <;> simp[KK,d_8,o_9,List.replicate,w_2,u_9,u_8,J,g]
 ·rw[if_neg z];have Y:=List.isEmpty_eq_false_iff.mpr z;cases o <;> simp[KK,d_8,o_9,List.replicate,w_2,u_9,u_8,J,g,Y]
theorem y_4 (q t2:List Str) (h2:t2.length<=100):d_8 [KK false q,KK true t2]=some (P_6 false t2 q):=by have g:=ac6 false t2 q h2;unfold KK at g;simp[KK,d_8,o_9,List.replicate,w_2,u_8,g]
def uni (q t2:List Str):List Str:=g_2 (d_1 [] (q++t2))
theorem G_6 (q t2:List Str) (h:q.length+t2.length<=60):d_8 [KK false q,KK false t2]=some (KK false (uni q t2)):=by
 have e:=N_0 (q++t2) (by rw[zc];omega);rw[zu] at e;have J:(g_2 (d_1 [] (q++t2))).length<=sizeLine:=a_6 (by
  rw[(d_2 _).length_eq];have:=o_3 (q++t2) [];rw[zc,yy] at this;omega)
 have O:A_9 [.tup (q.map .str),.tup (t2.map .str)]=some (.lst ((g_2 (d_1 [] (q++t2))).map .str)):=by rw[M_3,bk7,b_3,bk7,b_3,if_pos (by rw[qy,qy];exact h),e]
 simp[KK,uni,d_8,o_9,List.replicate,w_2,u_9,u_8,n_7,O]
theorem X_4 (ts:List Str) (k:Str):inK true ts k=decide (k∈ts):=by unfold inK;cases decide (k∈ts) <;> rfl
theorem X_5 (ts:List Str) (k:Str):inK false ts k=!decide (k∈ts):=by unfold inK;cases decide (k∈ts) <;> rfl
theorem mem_uni :x∈uni q t2↔x∈q\/x∈t2:=by unfold uni;rw[(d_2 _).mem_iff,j_2,Yi];simp
def dK:Option (Bool×List Str)->D
 |none=>.non
 |some (o,ts)=>KK o ts
def inR:Option (Bool×List Str)->Str->Bool
 |none,_=>false
 |some (o,ts),k=>inK o ts k
structure Bx where
 o:Bool
 ts:List Str
 bg:Int
 en:Option Int
 s:St.S
def dB (b:Bx):D:=.tup [KK b.o b.ts,.int b.bg,dO b.en,dS b.s]
def dBO:Option Bx->D
 |none=>.non
 |some b=>dB b
noncomputable def endB (q:Option Int) (t:Int):Bool:=match q with
 |none=>true
 |some e=>decide (t<e)
def hasX (b:Bx) (t:Int) (k:Str) (v:Int):Bool:=decide (b.bg<=t)&&endB b.en t&&inK b.o b.ts k&&hasB b.s v
def ad6:Option Bx->Int->Str->Int->Bool
 |none,_,_,_=>false
 |some b,t,k,v=>hasX b t k v
theorem aj7 (o:Bool) (ts:List Str):isN (KK o ts)=false:=rfl
theorem br4 (b:Bx):isN (dB b)=false:=rfl
def mkX (o:Bool) (ts:List Str) (q:Int) (J:Option Int) (s:St.S):Option Bx:=match J with
 |none=>some ⟨o,ts,if 0 > q then 0 else q,none,s⟩
 |some e=>if e<=(if 0 > q then 0 else q) then none else some ⟨o,ts,if 0 > q then 0 else q,some e,s⟩
theorem l_1 (o:Bool) (ts:List Str) (q:Int) (J:Option Int) (s:St.S):a_9 [KK o ts,.int q,dO J,dS s]=some (dBO (mkX o ts q J s)):=by
 cases J with
 |none=>kernel_rfl
 |some e =>
  unfold mkX;by_cases h:e<=(if 0 > q then 0 else q)
  ·simp at h;simp[a_9,o_2,aj7,dBO,h]
  ·simp at h;have h':¬ (e<=if q<0 then 0 else q):=by omega
   simp[a_9,o_2,aj7,dBO,dB,h']
theorem ay5 (x y z:D):a_9 [.non,x,y,z]=some .non:=by simp[a_9,o_2]
theorem ba9 (o:Bool) (ts:List Str) (x y:D):a_9 [KK o ts,x,y,.non]=some .non:=by simp[a_9,o_2,aj7]
noncomputable def mxI (a b:Int):Int:=if b > a then b else a
def mk2 (Y:Option (Bool×List Str)) (O:Int) (Z:Option Int) (J:Option St.S):Option Bx:=match Y with
 |none=>none
 |some q=>match J with
  |none=>none
  |some s=>mkX q.1 q.2 O Z s
theorem aj0 (O:Option (Bool×List Str)) (Y:Int) (Z:Option Int) (J:Option St.S):a_9 [dK O,.int Y,dO Z,dOS J]=some (dBO (mk2 O Y Z J)):=by
 cases O with
 |none=>exact ay5 _ _ _
 |some q =>
  cases J with
  |none=>exact ba9 _ _ _ _
  |some s=>exact l_1 _ _ _ _ _
theorem aL4 (a b:Option Int) (t:Int):endB (St.uppB a b) t=(endB a t&&endB b t):=by
 cases a with
 |none=>cases b <;> kernel_rfl
 |some x =>
  cases b with
  |none=>simp[St.uppB,endB]
  |some y =>
   simp only[St.uppB,endB];rw[yz];simp only[y7,zn];split <;> omega
theorem bc6  (Y:0<=J) (t:Int) (k:Str) (v:Int):ad6 (mkX o ts J O s) t k v=(decide (J<=t)&&endB O t&&inK o ts k&&hasB s v):=by
 have e:(if 0 > J then 0 else J)=J:=if_neg (by omega);cases O with
 |none=>simp only[mkX,e];rfl
 |some x =>
  simp only[mkX,e];by_cases h:x<=J
  ·rw[if_pos h];show false=_
   symm
   by_cases q:J<=t
   ·have:¬ t<x:=by omega
    simp[endB,this]
   ·simp[q]
  ·rw[if_neg h];rfl
theorem aS0  (p:Str->Bool) (h:∀ k,T (.im (.str k)::fr)=some (p k,.im (.str k)::fr)):∀ ks:List Str,cGo T (eV 0) fr (ks.map .str)=some ((ks.filter p).map .str)
 |[]=>rfl
 |k::r=>by
  have q:=aS0 p h r;rw[zd,aE0,h k];cases J:p k with
  |false=>rw[bg3,q,Q7 (by simp[J])]
  |true =>
   have f:eV 0 (.im (.str k)::fr)=some (.str k,.im (.str k)::fr):=rfl;rw[aE2,f,aE1,q,Y_4,Q6 (by simp[J]),zd]
def Can (ts:List Str):Prop:=ts.Pairwise (λ a b=>ltS b a=false)/\ts.Nodup
theorem aN2 (zs:List Str):Can (g_2 (d_1 [] zs)) :=
 ⟨x_2 _,(d_2 _).nodup_iff.mpr (h_3 _ _ yx)⟩
noncomputable abbrev Tb:=List (Str×Str)
def dT (tb:Tb):D:=.tup (tb.map λ p=>.tup [.str p.1,.str p.2])
def bec:Tb->Str->Str
 |[],k=>k
 |p::r,k=>if p.1=k then p.2 else bec r k
def fst (tb:Tb):List Str:=tb.map (·.1)
theorem ae9 :∀ {tb:Tb},k∉fst tb->bec tb k=k
 |[],_=>rfl
 |p::r,h=>by
  unfold fst at h;rw[zd,zj,not_or] at h;show (if p.1=k then p.2 else bec r k)=k;rw[if_neg (λ z=>h.1 z.symm)];exact ae9 h.2
theorem aT3 :∀ {tb:Tb},(fst tb).Nodup->(a,b)∈tb->bec tb a=b
 |[],_,h=>by cases h
 |p::r,nd,h=>by
  unfold fst at nd;rw[zd,List.nodup_cons] at nd;show (if p.1=a then p.2 else bec r a)=b;rcases qv h with e | h
  ·rw[<- e,if_pos rfl]
  ·have:¬ p.1=a:=λ z=>nd.1 (z▸List.mem_map.mpr ⟨(a,b),h,rfl⟩);rw[if_neg this];exact aT3 nd.2 h
def dTT (tb:Tb):D:=.dct (fst tb) (tb.map λ p=>.str p.2)
theorem aO4 (tb:Tb):(fst tb).zip (tb.map λ p=>D.str p.2)=tb.map λ p=>(p.1,D.str p.2):=by
 unfold fst;induction tb with
 |nil=>rfl
 |cons p r q=>rw[zd,zd,zd,Y4,q]
theorem Q_4 :∀ {tb:Tb},k∈fst tb->w_3 k (tb.map λ p=>(p.1,D.str p.2))=some (.str (bec tb k))
 |[],h=>by cases h
 |p::r,h=>by
  unfold fst at h;rw[zd,zj] at h;rw[zd];unfold w_3 bec;by_cases c:p.1=k
  ·rw[if_pos c,if_pos c]
  ·rw[if_neg c,if_neg c];exact Q_4 (h.resolve_left λ z=>c z.symm)
theorem ak3 :∀ {tb:Tb},k∉fst tb->w_3 k (tb.map λ p=>(p.1,D.str p.2))=none
 |[],h=>rfl
 |p::r,h=>by
  unfold fst at h;rw[zd,zj,not_or] at h;rw[zd];unfold w_3;rw[if_neg (λ z=>h.1 z.symm)];exact ak3 h.2
theorem ap5 (k:Str) (tb:Tb):(w_3 k (tb.map λ p=>(p.1,D.str p.2))).isSome=decide (k∈fst tb):=by
 by_cases c:k∈fst tb
 ·rw[Q_4 c];simp[c]
 ·rw[ak3 c];simp[c]
theorem ai0:∀ tb:Tb,B_3 (tb.map λ p=>.tup [.str p.1,.str p.2])=some (tb.map λ p=>(p.1,D.str p.2))
 |[]=>rfl
 |p::r=>by
  rw[zd,ab3,ai0 r];rfl
theorem bf6  (nd:(fst tb).Nodup) (q:tb.length<=9):aq5 [dT tb]=some (dTT tb):=by
 have e1:(tb.map λ p=>(p.1,D.str p.2)).map (·.1)=fst tb:=by rw[List.map_map];rfl
 have e2:(tb.map λ p=>(p.1,D.str p.2)).map (·.2)=tb.map λ p=>D.str p.2:=by rw[List.map_map];rfl
 unfold dT dTT;rw[bg8,ai0,b_3,if_pos ⟨by rw[qy];omega,by rw[e1];exact nd⟩,e1,e2]
theorem aW1 (tb:Tb) (ts:List Str):cGo (tB (e2 aC7 (eV 0) (eV 1))) (eV 0) [.im (dTT tb)] (ts.map .str)=some ((ts.filter λ k=>!decide (k∈fst tb)).map .str) :=
 aS0 _ (λ k=>by
  have g:=ap5 k tb;unfold dTT;simp[aO4,g]) ts
theorem Z_3  (o:Bool) (ts:List Str):∀ ks:List Str,(∀ k∈ks,k∈fst tb0)->cGo (tB (e2 aE9 (e2 bi6 (eV 1) (eV 0)) (e2 b_5 (eV 2) (zI 1)))) (eV 0) [.im (dTT tb0),.im (KK o ts)] (ks.map .str)=some ((ks.filter λ k=>decide (bec tb0 k∈ts)).map .str)
 |[],_=>rfl
 |k::r,h=>by
  have J:=Z_3 o ts r λ q O=>h q (qh _ O);have ok:=G_3 (bec tb0 k) ts;have e:=Q_2 (bec tb0 k) ts;have g:=Q_4 (h k qg);have t:tB (e2 aE9 (e2 bi6 (eV 1) (eV 0)) (e2 b_5 (eV 2) (zI 1))) [.im (.str k),.im (dTT tb0),.im (KK o ts)]=some (decide (bec tb0 k∈ts),[.im (.str k),.im (dTT tb0),.im (KK o ts)]):=by unfold KK dTT;simp[aO4,g,u_9,ok,e]
  rw[zd,aE0,t];by_cases c:bec tb0 k∈ts
  ·rw[yh c];have f:eV 0 [.im (.str k),.im (dTT tb0),.im (KK o ts)]=some (.str k,[.im (.str k),.im (dTT tb0),.im (KK o ts)]):=rfl;rw[aE2,f,aE1,J,Y_4,Q6 (by simp[c]),zd]
  ·rw[yj c,bg3,J,Q7 (by simp[c])]
def backL (tb:Tb) (ts:List Str):List Str:=g_2 ((ts.filter λ k=>!decide (k∈fst tb))++(fst tb).filter λ k=>decide (bec tb k∈ts))
def Z_5 (tb:Tb) (o:Bool) (ts:List Str):D:=if o=true/\backL tb ts=[] then .non else KK o (backL tb ts)
theorem Z_4 (tb:Tb) (ts:List Str):(backL tb ts).length<=ts.length+tb.length:=by unfold backL;rw[(d_2 _).length_eq,zc];have a:=jd (λ k=>!decide (k∈fst tb)) ts;have b:=jd (λ k=>decide (bec tb k∈ts)) (fst tb);unfold fst at b ⊢;unfold fst at a;rw[qy] at b;omega
theorem bm8  (nd:(fst tb).Nodup) (hl:tb.length<=9) (o:Bool)  (ht:ts.length<=30):e_7 [KK o ts,dT tb]=some (Z_5 tb o ts):=by
 have e1:aq5 [dT tb]=some (.dct (fst tb) (tb.map λ p=>.str p.2)):=bf6 nd hl;have e2:=aW1 tb ts;have e3:=Z_3 o ts (fst tb) λ k h=>h;have lf:(fst tb).length=tb.length:=by unfold fst;rw[qy]
 have a:=jd (λ k=>!decide (k∈fst tb)) ts;have b:=jd (λ k=>decide (bec tb k∈ts)) (fst tb);have bl:=Z_4 tb ts;have Z:ts.length<=sizeLine:=a_6 (by omega);have Y:(fst tb).length<=sizeLine:=a_6 (by omega);have J:(backL tb ts).length<=sizeLine:=a_6 (by omega);generalize hA:(ts.filter λ k=>!decide (k∈fst tb))=A at a e2;generalize hB:((fst tb).filter λ k=>decide (bec tb k∈ts))=B at b e3;have eb:backL tb ts=g_2 (A++B):=by unfold backL;rw[hA,hB]
 have O:A.length+B.length<=sizeLine:=a_6 (by omega);have e4:I_5 (A.map D.str++B.map D.str)=some (.lst ((g_2 (A++B)).map .str)):=by unfold I_5;rw[<- zu,D_7,b_3,if_pos (by rw[zc];omega)]
 unfold dTT at e2 e3;unfold Z_5;rw[eb] at J ⊢;unfold KK at e3;cases q:(g_2 (A++B)).isEmpty with
 |true =>
  have z:=List.isEmpty_iff.mp q;rw[z] at e4 ⊢;cases o <;> simp[KK,e_7,o_8,List.replicate,w_2,u_9,n_7,e1,e2,e3,e4,Z,Y,O]
 |false =>
  have z:=List.isEmpty_eq_false_iff.mp q;cases o <;> simp[KK,e_7,o_8,List.replicate,w_2,u_9,n_7,e1,e2,e3,e4,Z,Y,O,z,q]
theorem ay0 :k∈backL tb ts↔bec tb k∈ts:=by
 unfold backL;rw[(d_2 _).mem_iff,Yi,List.mem_filter,List.mem_filter];by_cases c:k∈fst tb
 ·simp[c]
 ·rw[ae9 c];simp[c]
theorem aE4 (tb:Tb) (o:Bool) (ts:List Str) (k:Str):inK o (backL tb ts) k=inK o ts (bec tb k):=by unfold inK;congr 1;rw[Zh];exact ay0
theorem y_8 (ts:List Str):∃ k:Str,k∉ts:=by
 have q:∀ ts:List Str,∃ n,∀ k∈ts,k.length<=n:=λ ts=>by
  induction ts with
  |nil=>exact⟨0,λ k h=>by cases h⟩
  |cons a r O =>
   obtain⟨n,h⟩:=O;refine⟨max n a.length,λ k J=>?_⟩;rcases qv J with rfl | J
   ·omega
   ·have:=h k J;omega
 obtain⟨n,h⟩:=q ts;refine⟨⟨Array.replicate (n+1) 97⟩,λ J=>?_⟩;have:=h _ J;have e:(⟨Array.replicate (n+1) 97⟩:Str).length=n+1:=Array.size_replicate;omega
theorem G_7 (o:Bool) (q t2:List Str):∃ r,P_6 o q t2=dK r/\(∀ k,inR r k=(inK true q k&&inK o t2 k))/\∀ o' ts,r=some (o',ts)->ts.length<=q.length/\∃ k,inK o' ts k=true:=by
 unfold P_6;by_cases z:q.filter (inK o t2)=[]
 ·refine⟨none,by rw[if_pos z];rfl,λ k=>?_,λ o' ts e=>by cases e⟩;rw[X_4];by_cases c:k∈q
  ·have:=List.filter_eq_nil_iff.mp z k c;have f:inK o t2 k=false:=by simpa using this
   rw[f,Zu];rfl
  ·simp[c,inR]
 ·refine⟨some (true,q.filter (inK o t2)),by rw[if_neg z];rfl,λ k=>?_,λ o' ts e=>?_⟩
  ·show inK true _ k=_;rw[X_4,X_4,yz];simp[List.mem_filter]
  ·cases e;obtain⟨k,J⟩:=List.exists_mem_of_ne_nil _ z;exact⟨jd _ _,k,by rw[X_4,y7];exact J⟩
theorem bq6 (O J:Bool) (q t2:List Str) (h:q.length+t2.length<=40) :
  ∃ r,d_8 [KK O q,KK J t2]=some (dK r)/\(∀ k,inR r k=(inK O q k&&inK J t2 k))/\∀ o ts,r=some (o,ts)->ts.length<=q.length+t2.length/\∃ k,inK o ts k=true:=by
 cases O with
 |true =>
  obtain⟨r,e,h1,h2⟩:=G_7 J q t2;exact⟨r,by rw[W_8 J q t2 (by omega),e],h1,λ o ts z=>⟨by have:=(h2 o ts z).1;omega,(h2 o ts z).2⟩⟩
 |false =>
  cases J with
  |true =>
   obtain⟨r,e,h1,h2⟩:=G_7 false t2 q;exact⟨r,by rw[y_4 q t2 (by omega),e],λ k=>by rw[h1 k,Bool.and_comm],λ o ts z=>⟨by have:=(h2 o ts z).1;omega,(h2 o ts z).2⟩⟩
  |false =>
   refine⟨some (false,uni q t2),G_6 q t2 (by omega),λ k=>?_,λ o ts z=>?_⟩
   ·show inK false _ k=_;rw[X_5,X_5,X_5,yz];simp[mem_uni]
   ·cases z;obtain⟨k,Y⟩:=y_8 (uni q t2);refine⟨?_,k,by rw[X_5];simp[Y]⟩;unfold uni;rw[(d_2 _).length_eq];have:=o_3 (q++t2) [];rw[zc,yy] at this;omega
theorem ba5  (h:mkX o ts q J s=some m):m=⟨o,ts,if 0 > q then 0 else q,J,s⟩/\∀ e,J=some e->(if 0 > q then 0 else q)<e:=by
 cases J with
 |none=>cases h;exact⟨rfl,λ e z=>by cases z⟩
 |some e =>
  simp only[mkX] at h;by_cases c:e<=(if 0 > q then 0 else q)
  ·rw[if_pos c] at h;cases h
  ·rw[if_neg c] at h;cases h;exact⟨rfl,λ e z=>by cases z;omega⟩
end Fx
namespace St
structure BB (s:S) (A B:Nat):Prop where
 st:s.st.natAbs<=B
 lo:∀ l,s.lo=some l->l.natAbs<=A
 hi:∀ l,s.hi=some l->l.natAbs<=A
theorem BB.mono  (b:BB s A B) (h:A<=q) (h':B<=J):BB s q J:=⟨zf b.st h',λ l e=>zf (b.lo l e) h,λ l e=>zf (b.hi l e) h⟩
theorem BB.bd  (c:Canon s) (b:BB s A B) (h:A<=n) (h':B<=n):Bd s n :=
 ⟨zf b.st h',by have:=c.r0;have:=c.r1;have:=b.st;omega,λ l e=>zf (b.lo l e) h,λ l e=>zf (b.hi l e) h⟩
theorem Canon.two  (c:Canon s):s.st=1\/∃ v,mem s v/\mem s (v+s.st):=by
 cases e:s.hi with
 |none =>
  obtain⟨v,O⟩:=c.some;exact .inr ⟨v,O,c.up O λ h z=>by rw[e] at z;cases z⟩
 |some h =>
  have J:=c.memHi e;cases e2:s.lo with
  |none =>
   refine .inr ⟨h-s.st,c.down J (λ l z=>by rw[e2] at z;cases z),?_⟩;rw[show h-s.st+s.st=h by omega];exact J
  |some l =>
   rcases c.lh l h e2 e with z | ⟨_,z,_⟩
   ·have:=far (by rw[c.lo l e2,c.hi h e]) z;exact .inr ⟨l,c.memLo e2,c.up (c.memLo e2) λ x q=>by rw[e] at q;cases q;exact this⟩
   ·exact .inl z
theorem aw0  (c:Canon s) (Z:0<M) (hB:M.natAbs<=B) (J:∀ v w,mem s v->mem s w->v<=w->v+M<=w->mem s (v+M))
  (Y:∀ v,mem s v->mem s (v-M)\/∃ x:Int,x.natAbs<=A/\v-M<=x/\x<=v) (up:∀ v,mem s v->mem s (v+M)\/∃ x:Int,x.natAbs<=A/\v<=x/\x<=v+M):BB s (A+B) B:=by
 have p:=c.pos;refine⟨?_,λ l e=>?_,λ h e=>?_⟩
 ·have:s.st<=M:=by
   rcases c.two with z | ⟨v,h1,h2⟩
   ·omega
   ·by_cases q:s.st<=M
    ·exact q
    ·have O:=J v _ h1 h2 (by omega) (by omega);have d:=cong.mp ((O.r).trans h1.r.symm);rw[show v+M-v=M by omega] at d;exact Y1 Z d
  omega
 ·rcases Y l (c.memLo e) with z | ⟨x,h1,h2,O⟩
  ·have:=z.l l e;omega
  ·omega
 ·rcases up h (c.memHi e) with z | ⟨x,h1,h2,O⟩
  ·have:=z.h h e;omega
  ·omega
theorem bb_meet  (c1:Canon one) (c2:Canon J) (c:Canon s) (h:∀ v,mem s v↔mem one v/\mem J v) (b1:BB one A B1) (b2:BB J A B2):BB s (A+B1*B2) (B1*B2):=by
 have hM:=Int.mul_pos c1.pos c2.pos;have r1:∀ v,(v+one.st*J.st) % one.st=v % one.st:=λ v=>Qt v _ _;have r2:∀ v,(v+one.st*J.st) % J.st=v % J.st:=λ v=>by rw[Qh];exact Qt v _ _
 have aa:∀ v,(v-one.st*J.st) % one.st=v % one.st:=λ v=>by rw[<- r1 (v-_)];congr 1;omega
 have ad:∀ v,(v-one.st*J.st) % J.st=v % J.st:=λ v=>by rw[<- r2 (v-_)];congr 1;omega
 generalize ac:one.st*J.st=M at *;refine aw0 c hM (by rw[<- ac,Yt];exact Nat.mul_le_mul b1.st b2.st) (λ v w Y hw _ q=>?_) (λ v Y=>?_) λ v Y=>?_
 ·obtain⟨v1,v2⟩:=(h v).mp Y;obtain⟨w1,w2⟩:=(h w).mp hw;exact (h _).mpr ⟨⟨λ l e=>by have:=v1.l l e;omega,λ l e=>by have:=w1.h l e;omega,by rw[r1];exact v1.r⟩,⟨λ l e=>by have:=v2.l l e;omega,λ l e=>by have:=w2.h l e;omega,by rw[r2];exact v2.r⟩⟩
 ·obtain⟨v1,v2⟩:=(h v).mp Y;by_cases Z:leO one.lo (v-M)
  ·by_cases O:leO J.lo (v-M)
   ·exact .inl ((h _).mpr ⟨⟨Z,λ l e=>by have:=v1.h l e;omega,by rw[aa];exact v1.r⟩,⟨O,λ l e=>by have:=v2.h l e;omega,by rw[ad];exact v2.r⟩⟩)
   ·obtain⟨x,q⟩:=Classical.not_forall.mp O;obtain⟨e,q⟩:=Classical.not_imp.mp q;exact .inr ⟨x,b2.lo x e,by omega,v2.l x e⟩
  ·obtain⟨x,q⟩:=Classical.not_forall.mp Z;obtain⟨e,q⟩:=Classical.not_imp.mp q;exact .inr ⟨x,b1.lo x e,by omega,v1.l x e⟩
 ·obtain⟨v1,v2⟩:=(h v).mp Y;by_cases Z:geO one.hi (v+M)
  ·by_cases O:geO J.hi (v+M)
   ·exact .inl ((h _).mpr ⟨⟨λ l e=>by have:=v1.l l e;omega,Z,by rw[r1];exact v1.r⟩,⟨λ l e=>by have:=v2.l l e;omega,O,by rw[r2];exact v2.r⟩⟩)
   ·obtain⟨x,q⟩:=Classical.not_forall.mp O;obtain⟨e,q⟩:=Classical.not_imp.mp q;exact .inr ⟨x,b2.hi x e,v2.h x e,by omega⟩
  ·obtain⟨x,q⟩:=Classical.not_forall.mp Z;obtain⟨e,q⟩:=Classical.not_imp.mp q;exact .inr ⟨x,b1.hi x e,v1.h x e,by omega⟩
theorem bb_back {s t:S}{a b:Int}{A B:Nat} (c:Canon s) (ct:Canon t) (ha:a≠0) (h:∀ v,mem t v↔mem s (a*v+b)) (bs:BB s A B):BB t (A+b.natAbs+B) B:=by
 have hM:=c.pos;have ex:∀ v:Int,a*(v+s.st)+b=a*v+b+s.st*a:=λ v=>by rw[Int.mul_add,Qh s.st a];omega
 have ex':∀ v:Int,a*(v-s.st)+b=a*v+b-s.st*a:=λ v=>by rw[Qb,Qh s.st a];omega
 have r1:∀ v,(a*(v+s.st)+b) % s.st=(a*v+b) % s.st:=λ v=>by rw[ex];exact Qt _ _ _
 have r2:∀ v,(a*(v-s.st)+b) % s.st=(a*v+b) % s.st:=λ v=>by
  rw[<- r1 (v-s.st)];congr 3;omega
 have O:∀ y,y.natAbs<=A->(-((b-y).fdiv a)).natAbs<=A+b.natAbs/\((y-b).fdiv a).natAbs<=A+b.natAbs:=λ y hy=>by
  exact⟨by rw[Int.natAbs_neg];exact zf (E_4 ha) (zf (Qq b y) (by omega)),zf (E_4 ha) (zf (Qq y b) (by omega))⟩
 rcases Int.lt_or_gt_of_ne ha with an | ap
 ·have mono:∀ x y:Int,x<=y->a*y<=a*x:=λ x y q=>(v_9 an).mpr q;refine aw0 ct hM bs.st (λ v w Y hw _ q=>?_) (λ v Y=>?_) λ v Y=>?_
  ·have J:=(h v).mp Y;have m2:=(h w).mp hw;have Z:=mono v (v+s.st) (by omega);have q2:=mono (v+s.st) w q;exact (h _).mpr ⟨λ l e=>by have:=m2.l l e;omega,λ l e=>by have:=J.h l e;omega,by rw[r1];exact J.r⟩
  ·have J:=(h v).mp Y;have Z:=mono (v-s.st) v (by omega);by_cases g:geO s.hi (a*(v-s.st)+b)
   ·exact .inl ((h _).mpr ⟨λ l e=>by have:=J.l l e;omega,g,by rw[r2];exact J.r⟩)
   ·obtain⟨y,g⟩:=Classical.not_forall.mp g;obtain⟨e,g⟩:=Classical.not_imp.mp g;have k1:=J.h y e;have i1:-v<=(b-y).fdiv a:=(u_3 an).mpr (by rw[Qc];omega);have i2:¬ -(v-s.st)<=(b-y).fdiv a:=λ z=>g (by have:=(u_3 an).mp z;rw[Qc] at this;omega);exact .inr ⟨_,(O y (bs.hi y e)).1,by omega,by omega⟩
  ·have J:=(h v).mp Y;have Z:=mono v (v+s.st) (by omega);by_cases g:leO s.lo (a*(v+s.st)+b)
   ·exact .inl ((h _).mpr ⟨g,λ l e=>by have:=J.h l e;omega,by rw[r1];exact J.r⟩)
   ·obtain⟨y,g⟩:=Classical.not_forall.mp g;obtain⟨e,g⟩:=Classical.not_imp.mp g;have k1:=J.l y e;have i1:v<=(y-b).fdiv a:=(u_3 an).mpr (by omega);have i2:¬ v+s.st<=(y-b).fdiv a:=λ z=>g (by have:=(u_3 an).mp z;omega);exact .inr ⟨_,(O y (bs.lo y e)).2,by omega,by omega⟩
 ·have mono:∀ x y:Int,x<=y->a*x<=a*y:=λ x y q=>(z_9 ap).mpr q;refine aw0 ct hM bs.st (λ v w Y hw _ q=>?_) (λ v Y=>?_) λ v Y=>?_
  ·have J:=(h v).mp Y;have m2:=(h w).mp hw;have Z:=mono v (v+s.st) (by omega);have q2:=mono (v+s.st) w q;exact (h _).mpr ⟨λ l e=>by have:=J.l l e;omega,λ l e=>by have:=m2.h l e;omega,by rw[r1];exact J.r⟩
  ·have J:=(h v).mp Y;have Z:=mono (v-s.st) v (by omega);by_cases g:leO s.lo (a*(v-s.st)+b)
   ·exact .inl ((h _).mpr ⟨g,λ l e=>by have:=J.h l e;omega,by rw[r2];exact J.r⟩)
   ·obtain⟨y,g⟩:=Classical.not_forall.mp g;obtain⟨e,g⟩:=Classical.not_imp.mp g;have k1:=J.l y e;have i1:-v<=(b-y).fdiv a:=(A_1 ap).mpr (by rw[Qc];omega);have i2:¬ -(v-s.st)<=(b-y).fdiv a:=λ z=>g (by have:=(A_1 ap).mp z;rw[Qc] at this;omega);exact .inr ⟨_,(O y (bs.lo y e)).1,by omega,by omega⟩
  ·have J:=(h v).mp Y;have Z:=mono v (v+s.st) (by omega);by_cases g:geO s.hi (a*(v+s.st)+b)
   ·exact .inl ((h _).mpr ⟨λ l e=>by have:=J.l l e;omega,g,by rw[r1];exact J.r⟩)
   ·obtain⟨y,g⟩:=Classical.not_forall.mp g;obtain⟨e,g⟩:=Classical.not_imp.mp g;have k1:=J.h y e;have i1:v<=(y-b).fdiv a:=(A_1 ap).mpr (by omega);have i2:¬ v+s.st<=(y-b).fdiv a:=λ z=>g (by have:=(A_1 ap).mp z;omega);exact .inr ⟨_,(O y (bs.hi y e)).2,by omega,by omega⟩
end St
namespace Fx
open PySem
structure KPl (P ts:List Str):Prop where
 nd:ts.Nodup
 sub:∀ k∈ts,k∈P
theorem aQ5:∀ (l P:List Str),l.Nodup->(∀ k∈l,k∈P)->l.length<=P.length
 |[],P,_,_=>yf _
 |a::l,P,h,s=>by
  obtain⟨h1,h2⟩:=List.nodup_cons.mp h;have q:=s a (qg ..);have:=aQ5 l (P.erase a) h2 λ k J=>(List.mem_erase_of_ne (λ z:k=a=>h1 (z▸J))).mpr (s k (qh _ J));have e:=List.length_erase_of_mem q;have p:=List.length_pos_of_mem q;rw[zg];omega
theorem KPl.len  (h:KPl P ts):ts.length<=P.length:=aQ5 ts P h.nd h.sub
theorem KPl.filter  (h:KPl P ts) (f:Str->Bool):KPl P (ts.filter f):=⟨h.nd.filter f,λ k q=>h.sub k (List.mem_filter.mp q).1⟩
theorem ay3  (o:Bool)  (h:KPl P J):∃ r,P_6 o J t2=dK r/\(∀ k,inR r k=(inK true J k&&inK o t2 k))/\∀ o' ts,r=some (o',ts)->KPl P ts/\∃ k,inK o' ts k=true:=by
 obtain⟨r,e,h1,h2⟩:=G_7 o J t2;refine⟨r,e,h1,λ o' ts z=>⟨?_,(h2 o' ts z).2⟩⟩;subst z;unfold P_6 at e;by_cases c:J.filter (inK o t2)=[]
 ·rw[if_pos c] at e;cases e
 ·rw[if_neg c] at e;have e:=e;have q:(J.filter (inK o t2)).map D.str=ts.map D.str:=by
   injection e with e
   injection e with _ e
   injection e with e _
   injection e
  have:=List.map_inj_right (λ _ _ z=>D.str.inj z) |>.mp q
  rw[<- this];exact h.filter _
theorem bq5  (o1 O:Bool) (hP:P.length<=10)  (h1:KPl P J) (h2:KPl P t2) :
  ∃ r,d_8 [KK o1 J,KK O t2]=some (dK r)/\(∀ k,inR r k=(inK o1 J k&&inK O t2 k))/\∀ o ts,r=some (o,ts)->KPl P ts/\∃ k,inK o ts k=true:=by
 have l1:=h1.len;have l2:=h2.len;cases o1 with
 |true =>
  obtain⟨r,e,Y,Z⟩:=ay3 O h1;exact⟨r,by rw[W_8 O J t2 (by omega),e],Y,Z⟩
 |false =>
  cases O with
  |true =>
   obtain⟨r,e,Y,Z⟩:=ay3 false h2;exact⟨r,by rw[y_4 J t2 (by omega),e],λ k=>by rw[Y k,Bool.and_comm],Z⟩
  |false =>
   obtain⟨r,e,Y,Z⟩:=bq6 false false J t2 (by omega);refine⟨some (false,uni J t2),G_6 J t2 (by omega),λ k=>?_,λ o ts z=>?_⟩
   ·rw[G_6 J t2 (by omega)] at e;have e:=qi e;rw[<- Y k];cases r with
    |none=>cases e
    |some p =>
     obtain⟨o,ts⟩:=p;have e:=e;cases o with
     |true=>cases e
     |false =>
      have q:(uni J t2).map D.str=ts.map D.str:=by
       injection e with e
       injection e with _ e
       injection e with e _
       injection e
      rw[List.map_inj_right (λ _ _ z=>D.str.inj z) |>.mp q]
   ·cases z;refine⟨⟨(aN2 _).2,λ k hk=>?_⟩,?_⟩
    ·rcases mem_uni.mp hk with z | z
     ·exact h1.sub k z
     ·exact h2.sub k z
    ·obtain⟨k,hk⟩:=y_8 (uni J t2);exact⟨k,by rw[X_5];simp[hk]⟩
structure XGb (P:List Str) (A B:Nat) (b:Bx):Prop where
 k:KPl P b.ts
 t0:0<=b.bg
 te:∀ e,b.en=some e->b.bg<e
 c:St.Canon b.s
 bb:St.BB b.s A B
 ke:∃ k,inK b.o b.ts k=true
theorem P_5  (h:mkX o ts q Y s=some m) (l:KPl P ts) (c:St.Canon s) (O:St.BB s A B) (J:∃ k,inK o ts k=true):XGb P A B m:=by obtain⟨rfl,te⟩:=ba5 h;exact⟨l,by show 0<=(if 0 > q then 0 else q);split <;> omega,te,c,O,J⟩
theorem XGb.mono  (w:XGb P A B b) (h:A<=q) (h':B<=J):XGb P q J b:=⟨w.k,w.t0,w.te,w.c,w.bb.mono h h',w.ke⟩
theorem XGb.some_thing  (w:XGb P A B b):∃ t k v,0<=t/\hasX b t k v=true:=by
 obtain⟨k,q⟩:=w.ke;obtain⟨v,J⟩:=w.c.some;refine⟨b.bg,k,v,w.t0,?_⟩;unfold hasX;have e1:endB b.en b.bg=true:=by
  cases e:b.en with
  |none=>rfl
  |some x=>exact yh (w.te x e)
 rw[yh (jc _),e1,q,hasB_iff.mpr J];rfl
theorem ay2  (hP:P.length<=10)  (h1:A<=2 ^ 450) (h2:B1<=2 ^ 450) (h3:B2<=2 ^ 450)  (Z:XGb P A B1 a) (Y:XGb P A B2 b):∃ r,f_5 [dB a,dB b]=some (dBO r)/\(∀ t k v,ad6 r t k v=(hasX a t k v&&hasX b t k v))/\∀ m,r=some m->XGb P (A+B1*B2) (B1*B2) m:=by
 obtain⟨kr,ek,J,aa⟩:=bq5 a.o b.o hP Z.k Y.k;obtain⟨sr,es,hs,_⟩:=ba8 Z.c Y.c (qj _) (Z.bb.bd Z.c h1 h2) (Y.bb.bd Y.c h1 h3);refine⟨mk2 kr (mxI a.bg b.bg) (St.uppB a.en b.en) sr,?_,λ t k v=>?_,λ m O=>?_⟩
 ·have O:=aj0 kr (mxI a.bg b.bg) (St.uppB a.en b.en) sr;have eu:=aO7 a.en b.en;unfold mxI at O ⊢;obtain⟨o,ts,bg,en,s⟩:=a;obtain⟨o',ae,ad,ac,s'⟩:=b;simp[f_5,M_2,dB,List.replicate,y_7,bc0,aK1,w_1,ek,es,eu,O]
 ·have h0:0<=mxI a.bg b.bg:=by have:=Z.t0;have:=Y.t0;unfold mxI;split <;> omega
  have mx:decide (mxI a.bg b.bg<=t)=(decide (a.bg<=t)&&decide (b.bg<=t)):=by rw[yz];simp only[y7,zn];unfold mxI;split <;> omega
  have J:=J k;have hv:∀ s,sr=some s->hasB s v=(hasB a.s v&&hasB b.s v):=λ s e=>by
   subst e;rw[yz,zn,hasB_iff,hasB_iff,hasB_iff];exact hs.2 v
  have hn:sr=none->(hasB a.s v&&hasB b.s v)=false:=λ e=>by
   subst e;rw[<- Bool.not_eq_true,zn,hasB_iff,hasB_iff];exact hs v
  unfold hasX;cases kr with
  |none =>
   have J:false=(inK a.o a.ts k&&inK b.o b.ts k):=J;show false=_
   symm
   cases h1:inK a.o a.ts k
   ·simp
   ·rw[h1,Bool.true_and] at J;rw[<- J];simp
  |some q =>
   have J:inK q.1 q.2 k=(inK a.o a.ts k&&inK b.o b.ts k):=J;cases sr with
   |none =>
    have hn:=hn rfl;show false=_
    symm
    cases h1:hasB a.s v
    ·simp
    ·rw[h1,Bool.true_and] at hn;rw[hn];simp
   |some s =>
    show ad6 (mkX q.1 q.2 _ _ s) t k v=_;rw[bc6 h0,mx,aL4,J,hv s rfl];generalize decide (a.bg<=t)=x1;generalize decide (b.bg<=t)=x2;generalize endB a.en t=x3;generalize endB b.en t=x4;generalize inK a.o a.ts k=x5;generalize inK b.o b.ts k=x6;generalize hasB a.s v=x7;generalize hasB b.s v=x8;revert x1 x2 x3 x4 x5 x6 x7 x8;decide
 ·cases kr with
  |none=>cases O
  |some q =>
   cases sr with
   |none=>cases O
   |some s =>
    have O:=O;obtain⟨l,ke⟩:=aa q.1 q.2 rfl;exact P_5 O l hs.1 (St.bb_meet Z.c Y.c hs.1 hs.2 Z.bb Y.bb) ke
inductive Rw where
 |time (b:Int) (e:Option Int)
 |keys (o:Bool) (l:List Str)
 |span (lo hi:Option Int)
 |rest (m r:Int)
 |turn (a b:Int)
 |later (c:Int)
 |put (tb:Tb)
def rwW:Rw->Str
 |.time _ _=>Str.ofString "time"
 |.keys o _=>wO o
 |.span _ _=>Str.ofString "span"
 |.rest _ _=>Str.ofString "rest"
 |.turn _ _=>Str.ofString "turn"
 |.later _=>Str.ofString "later"
 |.put _=>Str.ofString "put"
def rwR:Rw->D
 |.time b e=>.tup [.int b,dO e]
 |.keys _ l=>.tup (l.map .str)
 |.span lo hi=>.tup [dO lo,dO hi]
 |.rest m r=>.tup [.int m,.int r]
 |.turn a b=>.tup [.int a,.int b]
 |.later c=>.tup [.int c]
 |.put tb=>dT tb
def dRw (x y:D) (r:Rw):D:=.tup [.str (rwW r),x,y,rwR r]
structure ROk (P:List Str) (r:Rw):Prop where
 time:∀ b e,r=.time b e->0<=b/\∀ x,e=some x->b<x
 keys:∀ o l,r=.keys o l->KPl P l/\l≠[]
 span:∀ lo hi,r=.span lo hi->St.OB lo (2 ^ 40)/\St.OB hi (2 ^ 40)/\∀ a b,lo=some a->hi=some b->a<=b
 rest:∀ m x,r=.rest m x->2<=m/\m<=2000/\0<=x/\x<m
 turn:∀ a b,r=.turn a b->a≠0/\a.natAbs<=1000/\b.natAbs<=1000
 later:∀ c,r=.later c->0<=c
 put:∀ tb,r=.put tb->KPl P (fst tb)/\tb.length<=4
noncomputable abbrev Th:=Int×Str×Int
def thr:Rw->Th->Option Th
 |.time b e,x=>if b<=x.1/\endB e x.1=true then some x else none
 |.keys o l,x=>if inK o l x.2.1=true then some x else none
 |.span lo hi,x=>if leB lo x.2.2=true/\geB hi x.2.2=true then some x else none
 |.rest m r,x=>if x.2.2 % m=r then some x else none
 |.turn a b,x=>some (x.1,x.2.1,a*x.2.2+b)
 |.later c,x=>some (x.1+c,x.2.1,x.2.2)
 |.put tb,x=>some (x.1,bec tb x.2.1,x.2.2)
theorem aU8:wO true=Str.ofString "only":=rfl
theorem ar6:wO false=Str.ofString "but":=rfl
theorem br3 (x:D):atD [x] 0=some x:=rfl
theorem an0:(Str.ofString "time"=Str.ofString "only")=False ∧ (Str.ofString "time"=Str.ofString "but")=False ∧ (Str.ofString "time"=Str.ofString "span")=False ∧ (Str.ofString "time"=Str.ofString "rest")=False ∧ (Str.ofString "time"=Str.ofString "turn")=False ∧ (Str.ofString "time"=Str.ofString "later")=False ∧ (Str.ofString "time"=Str.ofString "put")=False ∧
  (Str.ofString "only"=Str.ofString "time")=False ∧ (Str.ofString "only"=Str.ofString "but")=False ∧ (Str.ofString "only"=Str.ofString "span")=False ∧ (Str.ofString "only"=Str.ofString "rest")=False ∧ (Str.ofString "only"=Str.ofString "turn")=False ∧ (Str.ofString "only"=Str.ofString "later")=False ∧ (Str.ofString "only"=Str.ofString "put")=False ∧
  (Str.ofString "but"=Str.ofString "time")=False ∧ (Str.ofString "but"=Str.ofString "only")=False ∧ (Str.ofString "but"=Str.ofString "span")=False ∧ (Str.ofString "but"=Str.ofString "rest")=False ∧ (Str.ofString "but"=Str.ofString "turn")=False ∧ (Str.ofString "but"=Str.ofString "later")=False ∧ (Str.ofString "but"=Str.ofString "put")=False ∧
  (Str.ofString "span"=Str.ofString "time")=False ∧ (Str.ofString "span"=Str.ofString "only")=False ∧ (Str.ofString "span"=Str.ofString "but")=False ∧ (Str.ofString "span"=Str.ofString "rest")=False ∧ (Str.ofString "span"=Str.ofString "turn")=False ∧ (Str.ofString "span"=Str.ofString "later")=False ∧ (Str.ofString "span"=Str.ofString "put")=False ∧
  (Str.ofString "rest"=Str.ofString "time")=False ∧ (Str.ofString "rest"=Str.ofString "only")=False ∧ (Str.ofString "rest"=Str.ofString "but")=False ∧ (Str.ofString "rest"=Str.ofString "span")=False ∧ (Str.ofString "rest"=Str.ofString "turn")=False ∧ (Str.ofString "rest"=Str.ofString "later")=False ∧ (Str.ofString "rest"=Str.ofString "put")=False ∧
  (Str.ofString "turn"=Str.ofString "time")=False ∧ (Str.ofString "turn"=Str.ofString "only")=False ∧ (Str.ofString "turn"=Str.ofString "but")=False ∧ (Str.ofString "turn"=Str.ofString "span")=False ∧ (Str.ofString "turn"=Str.ofString "rest")=False ∧ (Str.ofString "turn"=Str.ofString "later")=False ∧ (Str.ofString "turn"=Str.ofString "put")=False ∧
  (Str.ofString "later"=Str.ofString "time")=False ∧ (Str.ofString "later"=Str.ofString "only")=False ∧ (Str.ofString "later"=Str.ofString "but")=False ∧ (Str.ofString "later"=Str.ofString "span")=False ∧ (Str.ofString "later"=Str.ofString "rest")=False ∧ (Str.ofString "later"=Str.ofString "turn")=False ∧ (Str.ofString "later"=Str.ofString "put")=False ∧
  (Str.ofString "put"=Str.ofString "time")=False ∧ (Str.ofString "put"=Str.ofString "only")=False ∧ (Str.ofString "put"=Str.ofString "but")=False ∧ (Str.ofString "put"=Str.ofString "span")=False ∧ (Str.ofString "put"=Str.ofString "rest")=False ∧ (Str.ofString "put"=Str.ofString "turn")=False ∧ (Str.ofString "put"=Str.ofString "later")=False:=by
 repeat (first | exact eq_false (by decide +kernel) | refine⟨eq_false (by decide +kernel),?_⟩)
def evS:St.S:=⟨none,none,1,0⟩
theorem bt1 (v:Int):St.mem evS v:=⟨λ l e=>(by cases e),λ l e=>(by cases e),by show v % 1=0;omega⟩
theorem Q_8:St.Canon evS where
 pos:=by decide
 r0:=by decide
 r1:=by decide
 lo:=λ l e=>by cases e
 hi:=λ l e=>by cases e
 lh:=λ a b e=>by cases e
theorem ev_bb:St.BB evS (2 ^ 41) (2 ^ 11):=⟨by decide,(λ l e=>by cases e),(λ l e=>by cases e)⟩
theorem aB5 (v:Int):hasB evS v=true:=hasB_iff.mpr (bt1 v)
theorem m_7 (k:Str):inK false [] k=true:=by rw[X_5];simp
structure SvOk (P:List Str) (r:Rw) (s:Bx):Prop where
 w:XGb P (2 ^ 41) (2 ^ 11) s
 h:∀ t k v,0<=t->thr r (t,k,v)=if hasX s t k v=true then some (t,k,v) else none
theorem as5  (hP:P.length<=10) (x0 y0:D)  (ok:ROk P r):((∃ s,b_6 [dRw x0 y0 r]=some (dB s)/\SvOk P r s)\/(b_6 [dRw x0 y0 r]=some .non/\((∃ a b,r=.turn a b)\/(∃ c,r=.later c)\/∃ tb,r=.put tb))):=by
 have W:=an0;cases r with
 |time b e =>
  refine .inl ?_;obtain⟨b0,te⟩:=ok.time b e rfl;have J:=l_1 false [] b e evS;have z:(if 0 > b then 0 else b)=b:=if_neg (by omega);have em:mkX false [] b e evS=some ⟨false,[],b,e,evS⟩:=by
   cases e with
   |none=>simp only[mkX,z]
   |some x=>have:=te x rfl;simp only[mkX,z];rw[if_neg (by omega)]
  rw[em] at J;refine⟨⟨false,[],b,e,evS⟩,?_,⟨⟨yx,λ k O=>by cases O⟩,b0,te,Q_8,ev_bb,Str.ofString "a",m_7 _⟩,λ t k v Z=>?_⟩
  ·simp only[KK,ar6,evS,zz,aM4,i_3] at J;simp[b_6,e_1,dRw,rwW,rwR,List.replicate,y_7,w_1,w_2,u_9,J,dBO,evS]
  ·unfold thr hasX;rw[m_7,aB5];by_cases c:b<=t <;> cases q:endB e t <;> simp[c,q]
 |keys o l =>
  refine .inl ?_;obtain⟨l1,l0⟩:=ok.keys o l rfl;have l2:=l1.len;have J:=l_1 o (g_2 l) 0 none evS;have sl:=(d_2 l).length_eq;have sz:(g_2 l).length<=sizeLine:=a_6 (by omega);have e4:I_5 (l.map D.str)=some (.lst ((g_2 l).map .str)):=by unfold I_5;rw[D_7,b_3,if_pos (by omega)]
  have mem:∀ k,inK o (g_2 l) k=inK o l k:=λ k=>by
   unfold inK;congr 1;rw[Zh,(d_2 l).mem_iff]
  have ke:∃ k,inK o (g_2 l) k=true:=by
   cases o with
   |true =>
    cases l with
    |nil=>exact absurd rfl l0
    |cons a r=>exact⟨a,by rw[mem,X_4];simp⟩
   |false =>
    obtain⟨k,O⟩:=y_8 (g_2 l);exact⟨k,by rw[X_5];simp[O]⟩
  refine⟨⟨o,g_2 l,0,none,evS⟩,?_,⟨⟨(d_2 l).nodup_iff.mpr l1.nd,λ k O=>l1.sub k ((d_2 l).mem_iff.mp O)⟩,jc _,(λ e z=>by cases z),Q_8,ev_bb,ke⟩,λ t k v Z=>?_⟩
  ·simp only[KK,evS,aM4,i_3] at J;cases o with
   |true =>
    simp only[aU8] at J;simp[b_6,e_1,dRw,rwW,rwR,List.replicate,y_7,w_1,aU8,W,e4,J,dBO,mkX,evS]
   |false =>
    simp only[ar6] at J;simp[b_6,e_1,dRw,rwW,rwR,List.replicate,y_7,w_1,ar6,W,e4,J,dBO,mkX,evS]
  ·unfold thr hasX;dsimp only;rw[mem,aB5];cases q:inK o l k <;> simp[Z,endB]
 |span lo hi =>
  refine .inl ?_;obtain⟨o1,o2,aa⟩:=ok.span lo hi rfl;have Y:=A_0 lo hi 1 0;have T:=St.made_ok (lo:=lo) (hi:=hi) (st:=1) (re:=0) (by decide) (by decide) (by decide);have hv:∃ v,St.Between lo hi 1 0 v:=by
   cases lo with
   |some a=>exact⟨a,λ l e=>by cases e;exact jc _,λ h e=>aa a h rfl e,by omega⟩
   |none =>
    cases hi with
    |some b=>exact⟨b,λ l e=>(by cases e),λ h e=>by cases e;exact jc _,by omega⟩
    |none=>exact⟨0,λ l e=>(by cases e),λ l e=>(by cases e),by decide⟩
  obtain⟨v0,hv⟩:=hv;obtain⟨s,es,cs,hs⟩:=T.some hv;have bs:=St.made_bd o1 o2 (show (1:Int).natAbs<=2 ^ 40 from Y3) (by decide) s es;have b1:St.BB s (2 ^ 41) (2 ^ 11):=⟨by rcases St.made_st es with z | z <;> rw[z] <;> decide,bs.lo,bs.hi⟩;rw[es] at Y;have J:=l_1 false [] 0 none s;refine⟨⟨false,[],0,none,s⟩,?_,⟨⟨yx,λ k O=>by cases O⟩,jc _,(λ e z=>by cases z),cs,b1,Str.ofString "a",m_7 _⟩,λ t k v Z=>?_⟩
  ·simp only[KK,ar6,zz,i_3] at J;simp[b_6,e_1,dRw,rwW,rwR,List.replicate,y_7,w_1,w_2,u_9,W,Y,J,dBO,mkX,dB,KK,ar6]
  ·unfold thr hasX;dsimp only;rw[m_7];have e:hasB s v=(leB lo v&&geB hi v):=by rw[yz,hasB_iff,hs,zn,ac8,ad7];exact⟨λ h=>⟨h.1,h.2⟩,λ h=>⟨h.1,h.2,by omega⟩⟩
   rw[e];cases leB lo v <;> cases geB hi v <;> simp[Z,endB]
 |rest m x =>
  refine .inl ?_;obtain⟨m1,m2,x0,x1⟩:=ok.rest m x rfl;have Y:=A_0 none none m x;have T:=St.made_ok (lo:=none) (hi:=none) (by omega) x0 x1;have hv:St.Between none none m x x:=⟨λ l e=>(by cases e),λ l e=>(by cases e),jx x0 x1⟩;obtain⟨s,es,cs,hs⟩:=T.some hv;have bs:=St.made_bd (n:=0) (λ l e=>(by cases e)) (λ l e=>(by cases e)) (m:=2000) (by omega) (by omega) s es;have b1:St.BB s (2 ^ 41) (2 ^ 11):=⟨zf bs.st (by decide),λ l e=>zf (bs.lo l e) (by decide),λ l e=>zf (bs.hi l e) (by decide)⟩;rw[es] at Y;have J:=l_1 false [] 0 none s;refine⟨⟨false,[],0,none,s⟩,?_,⟨⟨yx,λ k O=>by cases O⟩,jc _,(λ e z=>by cases z),cs,b1,Str.ofString "a",m_7 _⟩,λ t k v Z=>?_⟩
  ·simp only[KK,ar6,zz,i_3] at J;simp only[dOS,i_3] at Y;simp[b_6,e_1,dRw,rwW,rwR,List.replicate,y_7,w_1,w_2,u_9,W,Y,J,dBO,mkX,dB,KK,ar6]
  ·unfold thr hasX;rw[m_7];have e:hasB s v=decide (v % m=x):=by rw[yz,hasB_iff,hs,y7];exact⟨λ h=>h.3,λ h=>⟨λ l e=>(by cases e),λ l e=>(by cases e),h⟩⟩
   rw[e];by_cases c:v % m=x <;> simp[c,Z,endB]
 |turn a b =>
  exact .inr ⟨by kernel_rfl,.inl ⟨a,b,rfl⟩⟩
 |later c =>
  exact .inr ⟨by kernel_rfl,.inr (.inl ⟨c,rfl⟩)⟩
 |put tb =>
  exact .inr ⟨by kernel_rfl,.inr (.inr ⟨tb,rfl⟩)⟩
theorem bf3 (b:Bx):b_5 (dB b) (.int 0)=some (KK b.o b.ts):=rfl
theorem bf2 (b:Bx):b_5 (dB b) (.int 1)=some (.int b.bg):=rfl
theorem bf1 (b:Bx):b_5 (dB b) (.int 2)=some (dO b.en):=rfl
theorem bf0 (b:Bx):b_5 (dB b) (.int 3)=some (dS b.s):=rfl
theorem aj4 (b:Bx) (c:Int):k_1 [dB b,.int c]=some (dBO (mkX b.o b.ts (b.bg+c) (b.en.map (·+c)) b.s)):=by
 have q:=l_1 b.o b.ts (b.bg+c) (b.en.map (·+c)) b.s;cases e:b.en with
 |none =>
  rw[e] at q;simp only[Option.map_none,i_3] at q;simp[k_1,w_6,List.replicate,bf3,bf2,bf1,bf0,e,q]
 |some x =>
  rw[e] at q;simp only[Option.map_some,q_2] at q;simp[k_1,w_6,List.replicate,bf3,bf2,bf1,bf0,e,q]
theorem Q_3  (t:Int) (Y:0<=t) (k:Str) (v:Int):ad6 (mkX o ts J O s) t k v=(decide (J<=t)&&endB O t&&inK o ts k&&hasB s v):=by
 have e:decide ((if 0 > J then 0 else J)<=t)=decide (J<=t):=by rw[Zh];split <;> omega
 cases O with
 |none =>
  show (decide ((if 0 > J then 0 else J)<=t)&&true&&_&&_)=_;rw[e];rfl
 |some x =>
  simp only[mkX];by_cases h:x<=(if 0 > J then 0 else J)
  ·rw[if_pos h];show false=_
   symm
   by_cases q:J<=t
   ·have:¬ t<x:=by split at h <;> omega
    simp[endB,this]
   ·simp[q]
  ·rw[if_neg h];show (decide ((if 0 > J then 0 else J)<=t)&&endB (some x) t&&_&&_)=_;rw[e]
abbrev bQ9 (b:Bx) (x:Th):Bool:=hasX b x.1 x.2.1 x.2.2
theorem hx (b:Bx) (t:Int) (k:Str) (v:Int):hasX b t k v=(decide (b.bg<=t)&&endB b.en t&&inK b.o b.ts k&&hasB b.s v):=rfl
theorem aL5 (q:Option Int) (c t:Int):endB (q.map (·+c)) t=endB q (t-c):=by
 cases q with
 |none=>rfl
 |some x =>
  show decide (t<x+c)=decide (t-c<x);rw[Zh];omega
theorem j_6  (h:a<=b):2 ^ a<=2 ^ b:=Yr (by decide) h
theorem S_4 {P:List Str} (hP:P.length<=10) (Y O:D) {r:Rw} (ok:ROk P r) {n:Nat} (n1:50<=n) (n2:n<=430) {b:Bx} (w:XGb P (2 ^ n) (2 ^ n) b):∃ q,b_9 [dRw Y O r,dB b]=some (dBO q) /\
  (∀ t k v,0<=t->ad6 q t k v=match thr r (t,k,v) with | none=>false | some y=>bQ9 b y)/\∀ m,q=some m->XGb P (2 ^ (n+12)) (2 ^ (n+12)) m:=by
 have W:=an0;have kl:=w.k.len;rcases as5 hP Y O ok with ⟨s,es,sv⟩ | ⟨es,hr⟩
 ·have p1:2 ^ 41<=2 ^ n:=j_6 (by omega);have p2:2 ^ n<=2 ^ 450:=j_6 (by omega);have p3:2 ^ 11*2 ^ n=2 ^ (n+11):=by rw[<- Zx,Y7]
  have p4:2 ^ (n+12)=2 ^ (n+11)+2 ^ (n+11):=by rw[Yc];omega
  have p5:2 ^ n<=2 ^ (n+11):=j_6 (by omega);obtain⟨q,e,h1,h2⟩:=ay2 hP p2 (j_6 (by decide)) p2 (sv.w.mono p1 (qj _)) w;refine⟨q,by simp[b_9,j_5,List.replicate,es,br4,e],λ t k v Z=>?_,λ m J=>(h2 m J).mono (by rw[p3];omega) (by rw[p3];omega)⟩;rw[h1,sv.h t k v Z];cases hasX s t k v <;> rfl
 ·rcases hr with ⟨a,c,rfl⟩ | ⟨c,rfl⟩ | ⟨tb,rfl⟩
  ·obtain⟨o1,o2,o3⟩:=ok.turn a c rfl;have s2:=w.bb.st;have pp:=w.c.pos;obtain⟨g,f,E,e1⟩:=af0 (a:=a) (b:=c) w.c.pos (P_7 (k:=n) (by omega) (by omega)) w.c.r0 w.c.r1 o1 (P_7 (k:=10) (by omega) (by decide)) (P_7 (k:=10) (by omega) (by decide));have T:=St.back_ok (b:=c) w.c o1 E;have e3:b_9 [dRw Y O (.turn a c),dB b]=some (dBO (mk2 (some (b.o,b.ts)) b.bg b.en (St.back2 b.s a c g f))):=by have J:=aj0 (some (b.o,b.ts)) b.bg b.en (St.back2 b.s a c g f);have J:a_9 [KK b.o b.ts,.int b.bg,dO b.en,dOS (St.back2 b.s a c g f)]=_:=J;have x0:b_5 (dRw Y O (.turn a c)) (.int 0)=some (.str "turn"):=rfl;have x3:b_5 (dRw Y O (.turn a c)) (.int 3)=some (.tup [.int a,.int c]):=rfl;simp[b_9,j_5,List.replicate,es,x0,x3,W,bf3,bf2,bf1,bf0,w_2,u_9,e1,J]
   refine⟨_,e3,λ t k v Z=>?_,λ m J=>?_⟩
   ·show _=hasX b t k (a*v+c);rw[hx];cases q:St.back2 b.s a c g f with
    |none =>
     rw[q] at T;have:hasB b.s (a*v+c)=false:=by rw[<- Bool.not_eq_true,hasB_iff];exact T v
     rw[this,Zu];rfl
    |some s =>
     rw[q] at T;have:hasB s v=hasB b.s (a*v+c):=by rw[yz,hasB_iff,hasB_iff];exact T.2 v
     show ad6 (mkX b.o b.ts b.bg b.en s) t k v=_;rw[Q_3 t Z,this]
   ·cases q:St.back2 b.s a c g f with
    |none=>rw[q] at J;cases J
    |some s =>
     rw[q] at J T;have J:mkX b.o b.ts b.bg b.en s=some m:=J;have p1:1000<=2 ^ n:=zf (by decide:1000<=2 ^ 50) (j_6 n1);have p2:2 ^ (n+12)=2 ^ n*4096:=by rw[Zx]
     exact P_5 J w.k T.1 ((St.bb_back w.c T.1 o1 T.2 w.bb).mono (by omega) (by omega)) w.ke
  ·have c0:=ok.later c rfl;have le:=aj4 b (-c);have x0:b_5 (dRw Y O (.later c)) (.int 0)=some (.str "later"):=rfl;have x3:b_5 (dRw Y O (.later c)) (.int 3)=some (.tup [.int c]):=rfl;refine⟨_,by simp[b_9,j_5,List.replicate,es,x0,x3,W,br3,le];rfl,λ t k v Z=>?_,λ m J=>?_⟩
   ·show _=hasX b (t+c) k v;rw[Q_3 t Z,hx,aL5];have e1:decide (b.bg+-c<=t)=decide (b.bg<=t+c):=by rw[Zh];omega
    have e2:t - -c=t+c:=by omega
    rw[e1,e2]
   ·exact P_5 J w.k w.c (w.bb.mono (j_6 (by omega)) (j_6 (by omega))) w.ke
  ·obtain⟨o1,o2⟩:=ok.put tb rfl;have pb:=bm8 o1.nd (by omega) b.o (ts:=b.ts) (by omega);have x0:b_5 (dRw Y O (.put tb)) (.int 0)=some (.str "put"):=rfl;have x3:b_5 (dRw Y O (.put tb)) (.int 3)=some (dT tb):=rfl;have bl:=Z_4 tb b.ts;by_cases z:b.o=true/\backL tb b.ts=[]
   ·have eb:Z_5 tb b.o b.ts=.non:=by unfold Z_5;rw[if_pos z]
    rw[eb] at pb;have J:=ay5 (.int b.bg) (dO b.en) (dS b.s);refine⟨none,by simp[b_9,j_5,List.replicate,es,x0,x3,W,bf3,bf2,bf1,bf0,pb,J,dBO],λ t k v Z=>?_,λ m J=>by cases J⟩;show false=hasX b t (bec tb k) v;have bi:=aE4 tb b.o b.ts k;rw[z.1,z.2,X_4] at bi;rw[hx,z.1,<- bi];simp
   ·have eb:Z_5 tb b.o b.ts=KK b.o (backL tb b.ts):=by unfold Z_5;rw[if_neg z]
    rw[eb] at pb;have J:=l_1 b.o (backL tb b.ts) b.bg b.en b.s;have ke:∃ k,inK b.o (backL tb b.ts) k=true:=by
     cases ho:b.o with
     |true =>
      obtain⟨k,hk⟩:=List.exists_mem_of_ne_nil _ (λ q=>z ⟨ho,q⟩);exact⟨k,by rw[X_4,y7];exact hk⟩
     |false =>
      obtain⟨k,hk⟩:=y_8 (backL tb b.ts);exact⟨k,by rw[X_5];simp[hk]⟩
    refine⟨mkX b.o (backL tb b.ts) b.bg b.en b.s,by simp[b_9,j_5,List.replicate,es,x0,x3,W,bf3,bf2,bf1,bf0,pb,J],λ t k v Z=>?_,λ m J=>?_⟩
    ·show _=hasX b t (bec tb k) v;rw[Q_3 t Z,hx,aE4]
    ·refine P_5 J ⟨?_,λ k hk=>?_⟩ w.c (w.bb.mono (j_6 (by omega)) (j_6 (by omega))) ke
     ·unfold backL;rw[(d_2 _).nodup_iff,jb];exact⟨w.k.nd.filter _,o1.nd.filter _,λ x hx y hy z=>by
       subst z;have q1:=(List.mem_filter.mp hx).2;have q2:=(List.mem_filter.mp hy).1;simp[q2] at q1⟩
     ·have q:=(d_2 _).mem_iff.mp hk;rcases qx q with z | z
      ·exact w.k.sub k (List.mem_filter.mp z).1
      ·exact o1.sub k (List.mem_filter.mp z).1
inductive RB where
 |inn (lo hi:Option Int)
 |one (f:Str) (r:Rw)
 |pour (fs:List Str)
 |oth (w:Str) (x y:D)
noncomputable def isC:RB->Bool
 |.oth _ _ _=>false
 |_=>true
structure Row where
 n:Str
 b:RB
 w:Nat
def b_1 (x:Row):D:=match x.b with
 |.inn lo hi=>.tup [.str "in",.str x.n,.tup [],.tup [dO lo,dO hi]]
 |.one f r=>dRw (.str x.n) (.tup [.str f]) r
 |.pour fs=>.tup [.str "pour",.str x.n,.tup (fs.map .str),.tup []]
 |.oth w a b=>.tup [.str w,.str x.n,a,b]
theorem bh5 (x:Row):b_5 (b_1 x) (.int 1)=some (.str x.n):=by obtain⟨n,b,w⟩:=x;cases b <;> rfl
structure RowOk (P:List Str) (up:List Row) (x:Row):Prop where
 inn:∀ lo hi,x.b=.inn lo hi->St.OB lo (2 ^ 40)/\St.OB hi (2 ^ 40)/\(∀ a b,lo=some a->hi=some b->a<=b)/\1<=x.w
 one:∀ f r,x.b=.one f r->ROk P r/\∃ y∈up,y.n=f/\y.w<=x.w/\isC y.b=true
 pour:∀ fs,x.b=.pour fs->∃ v,(∀ f∈fs,∃ y∈up,y.n=f/\y.w<=v/\isC y.b=true)/\fs.length*v<=x.w
 oth:∀ w a b,x.b=.oth w a b → w=Str.ofString "ever" ∨ w=Str.ofString "ask"
structure WOk (P:List Str) (rs:List Row):Prop where
 nd:(rs.map (·.n)).Nodup
 ok:∀ i x,rs[i]?=some x->RowOk P (rs.take i) x
theorem bv3  (h:l[i]?=some x):l=l.take i++x::l.drop (i+1):=by obtain⟨hi,e⟩:=List.getElem?_eq_some_iff.mp h;rw[<- e,List.getElem_cons_drop,List.take_append_drop]
theorem ai6 (wk:D) (nm:Str) (x:Row) (hx:x.n=nm) (rest:List D):∀ (pre:List Row) (s2:Sl),(∀ y∈pre,y.n≠nm) ->
  ∃ ρ,fGo (gN 2) j_4 (pre.map b_1++b_1 x::rest) [.im wk,.im (.str nm),s2]=some (.rt (b_1 x) ρ)
 |[],s2,_=>by
  refine⟨[.im wk,.im (.str nm),.im (b_1 x)],?_⟩;rw[zz,jm,Q_6];have e:j_4 [.im wk,.im (.str nm),.im (b_1 x)]=some (.rt (b_1 x) [.im wk,.im (.str nm),.im (b_1 x)]):=by simp[j_4,bh5,hx]
  show fGa _ _ _ (some [.im wk,.im (.str nm),.im (b_1 x)])=_;rw[Q_7,e,aL1]
 |y::pre,s2,h=>by
  obtain⟨ρ,e⟩:=ai6 wk nm x hx rest pre (.im (b_1 y)) λ z hz=>h z (qh _ hz);refine⟨ρ,?_⟩;have q:=h y (qg ..);rw[zd,jg,Q_6];have e1:j_4 [.im wk,.im (.str nm),.im (b_1 y)]=some (.nx [.im wk,.im (.str nm),.im (b_1 y)]):=by simp[j_4,bh5,q]
  show fGa _ _ _ (some [.im wk,.im (.str nm),.im (b_1 y)])=_;rw[Q_7,e1,X_7,e]
theorem u_1 {P:List Str}{q:List Row} (h:WOk P q) {i:Nat}{x:Row} (hx:q[i]?=some x) (more:List D):h_8 [.lst (q.map b_1++more),.str x.n]=some (b_1 x):=by
 have c:=bv3 hx;have J:=h.nd;rw[c,zu,zd,jb] at J;have ne:∀ y∈q.take i,y.n≠x.n:=λ y O z=>J.2.2 y.n (List.mem_map_of_mem O) x.n (qg ..) z;obtain⟨ρ,e⟩:=ai6 (.lst (q.map b_1++more)) x.n x rfl ((q.drop (i+1)).map b_1++more) (q.take i) .no ne;have e2:q.map b_1++more=(q.take i).map b_1++b_1 x::((q.drop (i+1)).map b_1++more):=by
  conv=>lhs;rw[c]
  simp
 rw[<- e2] at e;simp[h_8,H_8,List.replicate,e]
theorem X_3  (hb:x.b=.inn lo hi) (o1:St.OB lo (2 ^ 40)) (Z:St.OB hi (2 ^ 40)) (o3:∀ a b,lo=some a->hi=some b->a<=b) :
  ∃ s:Bx,p_7 [b_1 x,.int 0]=some (dB s)/\XGb P (2 ^ 41) (2 ^ 11) s/\∀ t k v,0<=t->hasX s t k v=(leB lo v&&geB hi v):=by
 have J:=A_0 lo hi 1 0;have T:=St.made_ok (lo:=lo) (hi:=hi) (st:=1) (re:=0) (by decide) (by decide) (by decide);have q:∃ O,St.Between lo hi 1 0 O:=by
  cases lo with
  |some a =>
   refine⟨a,λ l e=>by cases e;exact jc _,λ h e=>o3 a h rfl e,by omega⟩
  |none =>
   cases hi with
   |some b=>exact⟨b,λ l e=>(by cases e),λ h e=>by cases e;exact jc _,by omega⟩
   |none=>exact⟨0,λ l e=>(by cases e),λ l e=>(by cases e),by decide⟩
 obtain⟨O,q⟩:=q;obtain⟨s,es,cs,hs⟩:=T.some q;have bs:=St.made_bd o1 Z (show (1:Int).natAbs<=2 ^ 40 from Y3) (by decide) s es;have b1:St.BB s (2 ^ 41) (2 ^ 11):=⟨by rcases St.made_st es with z | z <;> rw[z] <;> decide,bs.lo,bs.hi⟩;rw[es] at J;have Y:=l_1 false [] 0 none s;refine⟨⟨false,[],0,none,s⟩,?_,⟨⟨yx,λ k hk=>by cases hk⟩,jc _,(λ e z=>by cases z),cs,b1,Str.ofString "a",m_7 _⟩,λ t k v t0=>?_⟩
 ·simp only[KK,ar6,zz,i_3] at Y;have x3:b_5 (b_1 x) (.int 3)=some (.tup [dO lo,dO hi]):=by obtain⟨n,b,w⟩:=x;cases hb;rfl
  simp[p_7,am3,List.replicate,x3,w_2,u_9,J,Y,dBO,mkX,dB,KK,ar6]
 ·unfold hasX;rw[m_7];have e:hasB s v=(leB lo v&&geB hi v):=by rw[yz,hasB_iff,hs,zn,ac8,ad7];exact⟨λ h=>⟨h.1,h.2⟩,λ h=>⟨h.1,h.2,by omega⟩⟩
  rw[e];simp[t0,endB]
def dWay (p:Str×Bx):D:=.tup [.str p.1,dB p.2]
abbrev GBx (P:List Str) (b:Bx):Prop:=XGb P (2 ^ 430) (2 ^ 430) b
theorem M_4 (k:Nat) (wk nm:D):a_8 (k+1) [wk,nm,.non]=some (.lst []):=by simp[a_8,f_8,List.replicate]
theorem ak7 {G:Str->List (Str×Bx)}:∀ fs:List Str,(∀ f∈fs,(G f).length<=v)->(fs.flatMap G).length<=fs.length*v
 |[],_=>yf _
 |f::fs,h=>by
  have h1:=h f (qg ..);have h2:=ak7 fs λ g q=>h g (qh _ q);rw[List.flatMap_cons,zc,zg,Nat.succ_mul];omega
theorem q_5  (s1 s2 Y O:Sl):∀ (fs:List Str) (q:List (Str×Bx)) (Z:Sl),(∀ f∈fs,FU [wk,.str f,bl]=some (.lst ((G f).map dWay))/\(G f).length<=v)->q.length+fs.length*v<=900 ->
  ∃ J:Sl,fGo (gN 6) (n_8 FU) (fs.map .str) [.im wk,s1,s2,Y,.im bl,.ow false (.lst (q.map dWay)),Z,O]=some (.nx [.im wk,s1,s2,Y,.im bl,.ow false (.lst ((q++fs.flatMap G).map dWay)),J,O])
 |[],q,Z,_,_=>⟨Z,by rw[zz,bt0,List.flatMap_nil,zm]⟩
 |f::fs,q,Z,h,hl=>by
  obtain⟨e1,l1⟩:=h f (qg ..);rw[zg,Nat.succ_mul] at hl;obtain⟨J,e⟩:=q_5 s1 s2 Y O fs (q++G f) (.im (.str f)) (λ g hg=>h g (qh _ hg)) (by rw[zc];omega);refine⟨J,?_⟩;rw[zd,Q_6];have q':q.length+(G f).length<1000:=by omega
  have st:n_8 FU [.im wk,s1,s2,Y,.im bl,.ow false (.lst (q.map dWay)),.im (.str f),O]=some (.nx [.im wk,s1,s2,Y,.im bl,.ow false (.lst ((q++G f).map dWay)),.im (.str f),O]):=by simp[n_8,e1,q']
  show fGa _ _ _ (some [.im wk,s1,s2,Y,.im bl,.ow false (.lst (q.map dWay)),.im (.str f),O])=_;rw[Q_7,st,X_7,e,yt,List.flatMap_cons]
theorem aV3 {q:List Row} (h:y∈q.take i):∃ j,j<i/\q[j]?=some y:=by
 obtain⟨j,e⟩:=List.mem_iff_getElem?.mp h;rw[jf] at e;split at e
 ·exact⟨j,by assumption,e⟩
 ·cases e
theorem ad3:¬ Str.ofString "pour"=Str.ofString "in":=by decide +kernel
theorem aH1 (r:Rw):¬ rwW r=Str.ofString "in":=by
 cases r with
 |keys o l=>cases o <;> simp only[rwW,wO] <;> decide +kernel
 |_=>simp only[rwW];decide +kernel
theorem F_2 (r:Rw):¬ rwW r=Str.ofString "pour":=by
 cases r with
 |keys o l=>cases o <;> simp only[rwW,wO] <;> decide +kernel
 |_=>simp only[rwW];decide +kernel
theorem aU7 {P:List Str} (hP:P.length<=10) {Z:List Row} (h:WOk P Z) (hw:∀ x∈Z,x.w<=100) (i:Nat):∀ (x:Row),Z[i]?=some x->isC x.b=true->∀ (n:Nat) (b:Bx),50<=n->n+12*(i+1)<=430->XGb P (2 ^ n) (2 ^ n) b ->
  ∃ L:List (Str×Bx),L.length<=x.w/\(∀ y∈L,GBx P y.2)/\∀ (more:List D) (J:Nat),i<J->a_8 J [.lst (Z.map b_1++more),.str x.n,dB b]=some (.lst (L.map dWay)):=by
 induction i using Nat.strongRecOn with
 |_ i IH =>
  intro x hx hc n b n1 n2 gb;have ok:=h.ok i x hx;have wx:=hw x (zx hx);have nm:∀ more,h_8 [.lst (Z.map b_1++more),.str x.n]=some (b_1 x):=λ more=>u_1 h hx more;have nb:isN (dB b)=false:=rfl;have aa:∀ (fs:List Str) (q:Option Bx) (k:Nat) (v:Nat),50 ≤ k → k+12*i ≤ 430 → (∀ m,q=some m → XGb P (2 ^ k) (2 ^ k) m) → (∀ f∈fs,∃ y∈Z.take i,y.n=f ∧ y.w ≤ v ∧ isC y.b=true) → fs.length*v ≤ x.w → b_5 (b_1 x) (.int 2)=some (.tup (fs.map .str)) → (∃ w,b_5 (b_1 x) (.int 0)=some (.str w) ∧ ¬ w=Str.ofString "in" ∧
    ∀ (more:List D),eIf (tB (e2 dEq (e2 b_5 (eV 3) (zI 0)) (zR "pour"))) (eV 2) (eF b_9 (aC (eV 3) (aC (eV 2) aN))) [.im (.lst (Z.map b_1++more)),.im (.str x.n),.im (dB b),.im (b_1 x),.no,.no,.no,.no]=some (dBO q,[.im (.lst (Z.map b_1++more)),.im (.str x.n),.im (dB b),.im (b_1 x),.no,.no,.no,.no])) →
    ∃ L:List (Str×Bx),L.length<=x.w/\(∀ y∈L,GBx P y.2)/\∀ (more:List D) (J:Nat),i<J->a_8 J [.lst (Z.map b_1++more),.str x.n,dB b]=some (.lst (L.map dWay)):=by
   intro fs q k v k1 k2 hq hf hv h2 ⟨w,h0,ag,he⟩;have ad:∀ f,∃ L:List (Str×Bx),f∈fs->L.length<=v/\(∀ y∈L,GBx P y.2)/\∀ (more:List D) (J:Nat),i<J+1->a_8 J [.lst (Z.map b_1++more),.str f,dBO q]=some (.lst (L.map dWay)):=λ f=>by
    by_cases O:f∈fs
    ·obtain⟨y,Y,rfl,yw,yc⟩:=hf f O;obtain⟨j,hj,ej⟩:=aV3 Y;cases q with
     |none =>
      refine⟨[],λ _=>⟨yf _,(λ y Y=>by cases Y),λ more J ac=>?_⟩⟩;cases J with
      |zero=>omega
      |succ J=>exact M_4 _ _ _
     |some m =>
      obtain⟨L,l1,l2,l3⟩:=IH j hj y ej yc k m k1 (by omega) (hq m rfl);exact⟨L,λ _=>⟨by omega,l2,λ more J ac=>l3 more J (by omega)⟩⟩
    ·exact⟨[],λ z=>absurd z O⟩
   obtain⟨G,hG⟩:=Classical.axiomOfChoice ad;refine⟨fs.flatMap G,zf (ak7 fs λ f O=>(hG f O).1) hv,λ y Y=>?_,λ more J ac=>?_⟩
   ·obtain⟨f,ah,ae⟩:=List.mem_flatMap.mp Y;exact (hG f ah).2.1 y ae
   ·cases J with
    |zero=>omega
    |succ J =>
     obtain⟨ai,e⟩:=q_5 (FU:=a_8 J) (wk:=.lst (Z.map b_1++more)) (bl:=dBO q) (v:=v) (G:=G) (.im (.str x.n)) (.im (dB b)) (.im (b_1 x)) .no fs [] .no (λ f O=>⟨(hG f O).2.2 more J ac,(hG f O).1⟩) (by rw[yy];omega);have he:=he more;rw[zz] at e;simp[a_8,f_8,List.replicate,nb,nm more,h0,ag,h2,-cd8,he,e]
  obtain⟨xn,xb,xw⟩:=x;cases xb with
  |oth w a b=>cases hc
  |inn lo hi =>
   obtain⟨o1,o2,o3,o4⟩:=ok.inn lo hi rfl;obtain⟨s,es,gs,_⟩:=X_3 (P:=P) (x:=⟨xn,.inn lo hi,xw⟩) rfl o1 o2 o3;have p1:2 ^ 41<=2 ^ n:=j_6 (by omega);have p2:2 ^ n<=2 ^ 450:=j_6 (by omega);obtain⟨r,er,_,hr⟩:=ay2 hP p2 (j_6 (by decide)) p2 (gs.mono p1 (qj _)) gb;have x0:b_5 (b_1 ⟨xn,.inn lo hi,xw⟩) (.int 0)=some (.str "in"):=rfl;cases r with
   |none =>
    refine⟨[],yf _,(λ y Y=>by cases Y),λ more J ac=>?_⟩;cases J with
    |zero=>omega
    |succ J =>
     have nm:=nm more;simp[a_8,f_8,List.replicate,nb,nm,x0,es,er,dBO]
   |some m =>
    have p3:2 ^ 11*2 ^ n=2 ^ (n+11):=by rw[<- Zx,Y7]
    have p5:2 ^ n<=2 ^ (n+11):=j_6 (by omega);have p6:2 ^ (n+12)=2 ^ (n+11)+2 ^ (n+11):=by rw[Yc];omega
    have p7:2 ^ (n+12)<=2 ^ 430:=j_6 (by omega);refine⟨[(xn,m)],o4,λ y Y=>?_,λ more J ac=>?_⟩
    ·cases qw Y;exact (hr m rfl).mono (by rw[p3];omega) (by rw[p3];omega)
    ·cases J with
     |zero=>omega
     |succ J =>
      have nm:=nm more;have af:isN (dB m)=false:=rfl;simp[a_8,f_8,List.replicate,nb,nm,x0,es,er,dBO,af,dWay]
  |one f r =>
   obtain⟨o1,y,Y,o2,o3,o4⟩:=ok.one f r rfl;obtain⟨q,e1,_,e3⟩:=S_4 hP (.str xn) (.tup [.str f]) o1 n1 (by omega) gb;refine aa [f] q (n+12) xw (by omega) (by omega) e3 (λ g hg=>?_) (by simp) rfl ⟨rwW r,rfl,aH1 r,λ more=>?_⟩
   ·cases qw hg;exact⟨y,Y,o2,o3,o4⟩
   ·have x0:b_5 (b_1 ⟨xn,.one f r,xw⟩) (.int 0)=some (.str (rwW r)):=rfl;have e1:b_9 [b_1 ⟨xn,.one f r,xw⟩,dB b]=some (dBO q):=e1;simp[x0,F_2 r,e1]
  |pour fs =>
   obtain⟨v,o1,o2⟩:=ok.pour fs rfl;refine aa fs (some b) n v n1 (by omega) (λ m em=>by cases em;exact gb) o1 o2 rfl ⟨_,rfl,ad3,λ more=>?_⟩;have x0:b_5 (b_1 ⟨xn,.pour fs,xw⟩) (.int 0)=some (.str "pour"):=rfl;kernel_rfl
theorem bL2 (n:Nat) (xs:List D):R_4 xs none (some (n:Int))=xs.take n:=by
 unfold R_4;rw[aM7];show (xs.drop 0).take (min n xs.length-0)=_;rw[List.drop_zero,Nat.sub_zero];by_cases h:n<=xs.length
 ·rw[Nat.min_eq_left h]
 ·rw[Nat.min_eq_right (by omega),Qg (Nat.le_refl _),Qg (by omega)]
theorem bh6:2 ^ 430<=2 ^ 450:=j_6 (by decide)
theorem bA1 (y:Str×Bx):b_5 (dWay y) (.int 0)=some (.str y.1):=rfl
theorem bA0 (y:Str×Bx):b_5 (dWay y) (.int 1)=some (dB y.2):=rfl
theorem ay1  (J:P.length<=10)  (g:GBx P b):∃ m,f_5 [dB b,dB b]=some (dB m):=by
 obtain⟨r,e,h,_⟩:=ay2 J bh6 bh6 bh6 g g;obtain⟨t,k,v,_,z⟩:=g.some_thing;have q:=h t k v;rw[z] at q;cases r with
 |none=>cases q
 |some m=>exact⟨m,e⟩
theorem aj8 {P:List Str} (hP:P.length<=10) (J:D) (k:Sl) {x:Str×Bx} (Z:GBx P x.2):∀ (ys:List (Str×Bx)) (O:Sl),(∀ y∈ys,GBx P y.2) ->
  (∃ ρ,fGo (gN 3) a_7 (ys.map dWay) [.im J,k,.im (dWay x),O]=some (.rt (.bl true) ρ))\/(x∉ys/\∃ Y,fGo (gN 3) a_7 (ys.map dWay) [.im J,k,.im (dWay x),O]=some (.nx [.im J,k,.im (dWay x),Y]))
 |[],O,_=>.inr ⟨zk,O,by rw[zz,bt0]⟩
 |y::ys,O,h=>by
  have gy:=h y (qg ..);have step:∀ o,a_7 [.im J,k,.im (dWay x),.im (dWay y)]=some o->fGo (gN 3) a_7 ((y::ys).map dWay) [.im J,k,.im (dWay x),O]=fGb (gN 3) a_7 (ys.map dWay) (some o):=λ o e=>by
   rw[zd,Q_6];show fGa _ _ _ (some [.im J,k,.im (dWay x),.im (dWay y)])=_;rw[Q_7,e]
  have go:x≠y->a_7 [.im J,k,.im (dWay x),.im (dWay y)]=some (.nx [.im J,k,.im (dWay x),.im (dWay y)]) ->
    (∃ ρ,fGo (gN 3) a_7 ((y::ys).map dWay) [.im J,k,.im (dWay x),O]=some (.rt (.bl true) ρ))\/(x∉y::ys/\∃ Y,fGo (gN 3) a_7 ((y::ys).map dWay) [.im J,k,.im (dWay x),O]=some (.nx [.im J,k,.im (dWay x),Y])):=λ ne e=>by
   rw[step _ e,X_7];rcases aj8 hP J k Z ys (.im (dWay y)) λ z hz=>h z (qh _ hz) with z | ⟨z1,z2⟩
   ·exact .inl z
   ·exact .inr ⟨λ q=>by rcases qv q with q | q;exact ne q;exact z1 q,z2⟩
  by_cases c:x.1=y.1
  ·obtain⟨r,e,hs,_⟩:=ay2 hP bh6 bh6 bh6 Z gy;cases r with
   |none =>
    refine go (λ z=>?_) (by simp[a_7,bA1,bA0,c,e,dBO]);obtain⟨m,em⟩:=ay1 hP Z;rw[<- z,em] at e;cases e
   |some m =>
    have nm:isN (dB m)=false:=rfl;have q:a_7 [.im J,k,.im (dWay x),.im (dWay y)]=some (.rt (.bl true) [.im J,k,.im (dWay x),.im (dWay y)]):=by simp[a_7,bA1,bA0,c,e,dBO,nm]
    exact .inl ⟨_,by rw[step _ q,aL1]⟩
  ·exact go (λ z=>c (by rw[z])) (by simp[a_7,bA1,bA0,c])
theorem ai2  (hP:P.length<=10)  (g:∀ y∈L,GBx P y.2):∀ (n:Nat) (J:List (Str×Bx)) (pre:List (Str×Bx)) (s1 s2 O:Sl),J.length=n->L=pre++J ->
  (∃ ρ,fGo (gT [1,2]) c_4 (I_4 pre.length (J.map dWay)) [.im (.lst (L.map dWay)),s1,s2,O]=some (.rt (.bl true) ρ))\/((∀ i x,J[i]?=some x->x∉L.take (pre.length+i))/\∃ ac aa Y,fGo (gT [1,2]) c_4 (I_4 pre.length (J.map dWay)) [.im (.lst (L.map dWay)),s1,s2,O]=some (.nx [.im (.lst (L.map dWay)),ac,aa,Y]))
 |n,[],pre,s1,s2,O,_,_=>.inr ⟨λ i x e=>by simp at e,s1,s2,O,by rw[zz];rfl⟩
 |0,x::J,_,_,_,_,e,_=>by cases e
 |n+1,x::J,pre,s1,s2,O,hn,hL=>by
  have gx:=g x (by rw[hL];simp);have tk:(L.map dWay).take pre.length=pre.map dWay:=by rw[hL,zu,List.take_left' (by rw[qy])]
  have tL:L.take pre.length=pre:=by rw[hL,List.take_left' rfl]
  have sub:=λ y Z=>g y (by rw[hL];exact qp _ Z);have st:∀ z,fGo (gN 3) a_7 (pre.map dWay) [.im (.lst (L.map dWay)),.im (.int (pre.length:Int)),.im (dWay x),O]=some z->fGo (gT [1,2]) c_4 (I_4 pre.length ((x::J).map dWay)) [.im (.lst (L.map dWay)),s1,s2,O]=fGb (gT [1,2]) c_4 (I_4 (pre.length+1) (J.map dWay)) (some z):=λ z e=>by
   rw[zd];show fGo _ _ (D.tup [.int (pre.length:Int),dWay x]::I_4 (pre.length+1) (J.map dWay)) _=_;rw[Q_6];show fGa _ _ _ (some [.im (.lst (L.map dWay)),.im (.int (pre.length:Int)),.im (dWay x),O])=_;rw[Q_7];congr 1;simp[c_4,bL2,tk,e]
  rcases aj8 hP (.lst (L.map dWay)) (.im (.int (pre.length:Int))) gx pre O sub with ⟨ρ,e⟩ | ⟨nx,Y,e⟩
  ·exact .inl ⟨ρ,by rw[st _ e,aL1]⟩
  ·rw[st _ e,X_7];rcases ai2 hP g n J (pre++[x]) (.im (.int (pre.length:Int))) (.im (dWay x)) Y (by simpa using hn) (by rw[hL];simp) with ⟨ρ,q⟩ | ⟨q1,q2⟩
   ·rw[zc,yn] at q;exact .inl ⟨ρ,q⟩
   ·rw[zc,yn] at q1 q2;refine .inr ⟨λ i y Z=>?_,q2⟩;cases i with
    |zero=>cases (show some x=some y from Z);rw[Nat.add_zero,tL];exact nx
    |succ i=>have:=q1 i y Z;rw[Nat.add_assoc,Y7 1 i] at this;exact this
theorem D_6 {P:List Str} (O:P.length<=10) {L:List (Str×Bx)} (g:∀ y∈L,GBx P y.2):∃ q:Bool,c_7 [.lst (L.map dWay)]=some (.bl q)/\∀ (i:Nat) x,L[i]?=some x->x∈L.take i->q=true:=by
 rcases ai2 O g L.length L [] .no .no .no rfl rfl with ⟨ρ,e⟩ | ⟨h,s1,s2,s3,e⟩
 ·have e:fGo (gT [1,2]) c_4 (I_4 0 (L.map dWay)) [.im (.lst (L.map dWay)),.no,.no,.no]=some (.rt (.bl true) ρ):=e;exact⟨true,by simp[c_7,m_1,List.replicate,e],λ _ _ _ _=>rfl⟩
 ·have e:fGo (gT [1,2]) c_4 (I_4 0 (L.map dWay)) [.im (.lst (L.map dWay)),.no,.no,.no]=some (.nx [.im (.lst (L.map dWay)),s1,s2,s3]):=e;refine⟨false,by simp[c_7,m_1,List.replicate,e],λ i x hx J=>?_⟩;have:=h i x hx;rw[yy,Yb] at this;exact absurd J this
def fullB:Bx:=⟨false,[],0,none,evS⟩
theorem ad8 (P:List Str):XGb P (2 ^ 50) (2 ^ 50) fullB:=⟨⟨yx,λ k q=>by cases q⟩,jc _,(λ e z=>by cases z),Q_8,ev_bb.mono (j_6 (by decide)) (j_6 (by decide)),Str.ofString "a",m_7 _⟩
theorem aA5:a_9 [.tup [.str "but",.tup []],.int 0,.non,.tup [.non,.non,.int 1,.int 0]]=some (dB fullB):=l_1 false [] 0 none evS
theorem aZ6  (h:a_8 24 [wk,nm,dB fullB]=some d):h_4 [wk,nm]=some d:=by have:=aA5;simp[h_4,C_2,List.replicate,this,h]
noncomputable abbrev CH:D:=.tup [(.str "in"),(.str "time"),(.str "only"),(.str "but"),(.str "span"),(.str "rest"),(.str "turn"),(.str "later"),(.str "put"),(.str "pour")]
noncomputable def isP:RB->Bool
 |.pour _=>true
 |_=>false
theorem aH2 (x:Row) (q:isC x.b=true):∃ w,b_5 (b_1 x) (.int 0)=some (.str w) ∧ aE9 (.str w) CH=some (.bl true) ∧ (w=Str.ofString "pour"↔isP x.b=true):=by
 obtain⟨n,b,w⟩:=x;cases b with
 |oth w a b=>cases q
 |inn lo hi=>exact⟨_,rfl,rfl,⟨λ z=>absurd z.symm ad3,λ z=>by cases z⟩⟩
 |pour fs=>exact⟨_,rfl,rfl,⟨λ _=>rfl,λ _=>rfl⟩⟩
 |one f r =>
  refine⟨rwW r,rfl,?_,⟨λ z=>absurd z (F_2 r),λ z=>by cases z⟩⟩;cases r with
  |keys o l=>cases o <;> rfl
  |_=>rfl
def aN8 (x:Row) (L:List (Str×Bx)) (q:Bool):Bool:=L.isEmpty||(isP x.b&&q)
theorem bg2  (J:isC x.b=false) (ho:∀ w a b,x.b=.oth w a b → w=Str.ofString "ever" ∨ w=Str.ofString "ask") (k:Nat) (O:Sl):b_0 [.im wk,.im (.int (k:Int)),.im (b_1 x),O]=some (.ok (.nx [.im wk,.im (.int (k:Int)),.im (b_1 x),O])):=by
 obtain⟨n,b,w⟩:=x;cases b with
 |oth q a b =>
  have Y:b_5 (b_1 ⟨n,.oth q a b,w⟩) (.int 0)=some (.str q):=rfl;have Z:aE9 (.str q) CH=some (.bl false):=by rcases ho q a b rfl with rfl | rfl <;> rfl
  simp[b_0,b_3,Y,Z]
 |inn=>cases J
 |one=>cases J
 |pour=>cases J
theorem bg1 {x:Row} (hc:isC x.b=true) (q:h_4 [wk,.str x.n]=some (.lst (L.map dWay))) (Z:c_7 [.lst (L.map dWay)]=some (.bl O)) (k:Nat) (s3:Sl) :
  (aN8 x L O=true ∧ b_0 [.im wk,.im (.int (k:Int)),.im (b_1 x),s3]=some (.ex (Str.ofString "NoWorks",some (Str.ofString "at",.int (k:Int))))) ∨ (aN8 x L O=false ∧ ∃ aa,b_0 [.im wk,.im (.int (k:Int)),.im (b_1 x),s3]=some (.ok (.nx [.im wk,.im (.int (k:Int)),.im (b_1 x),aa]))):=by
 obtain⟨w,J,h1,h2⟩:=aH2 x hc;have Y:=bh5 x;unfold aN8;cases L with
 |nil =>
  refine .inl ⟨rfl,?_⟩;rw[zz] at q;simp[b_0,b_3,J,h1,Y,q]
 |cons y L =>
  rw[zd] at q Z;by_cases c:isP x.b=true
  ·have c2:=h2.mpr c;subst c2;cases O with
   |true =>
    refine .inl ⟨by rw[c];rfl,?_⟩;simp[b_0,b_3,J,h1,Y,q,Z]
   |false =>
    refine .inr ⟨by rw[c];rfl,.im (.lst (dWay y::L.map dWay)),?_⟩;simp[b_0,b_3,J,h1,Y,q,Z]
  ·have c2:¬ w=Str.ofString "pour":=λ z=>c (h2.mp z);have c3:isP x.b=false:=by cases z:isP x.b;rfl;exact absurd z c
   refine .inr ⟨by rw[c3];rfl,.im (.lst (dWay y::L.map dWay)),?_⟩;simp[b_0,b_3,J,h1,Y,q,c2]
def Org (P:List Str) (J:List Row) (i:Nat) (x:Row) (L:List (Str×Bx)):Prop :=
 L.length<=x.w/\(∀ y∈L,GBx P y.2)/\(∀ (more:List D) (q:Nat),i<q->a_8 q [.lst (J.map b_1++more),.str x.n,dB fullB]=some (.lst (L.map dWay)))
theorem Org.is  (h:Org P q i x L) (hi:i<24) (more:List D):h_4 [.lst (q.map b_1++more),.str x.n]=some (.lst (L.map dWay)):=aZ6 (h.2.2 more 24 hi)
structure Wk (P:List Str) (rs:List Row):Prop where
 hP:P.length<=10
 ok:WOk P rs
 w:∀ x∈rs,x.w<=100
 len:rs.length<=24
theorem Wk.org  (h:Wk P q)  (hx:q[i]?=some x) (J:isC x.b=true):∃ L,Org P q i x L:=by have hi:=(List.getElem?_eq_some_iff.mp hx).1;have O:=h.len;exact aU7 h.hP h.ok h.w i x hx J 50 fullB (qj _) (by omega) (ad8 P)
def Judge (P:List Str) (J:List Row) (i:Nat) (x:Row) (b:Bool):Prop:=(isC x.b=false ∧ (∀ w a b,x.b=.oth w a b → w=Str.ofString "ever" ∨ w=Str.ofString "ask") ∧ b=false) ∨ isC x.b=true ∧ ∃ L q,Org P J i x L ∧ c_7 [.lst (L.map dWay)]=some (.bl q) ∧ (∀ (i:Nat) x,L[i]?=some x → x∈L.take i → q=true) ∧ aN8 x L q=b
theorem Wk.judge  (h:Wk P J)  (hx:J[i]?=some x):∃ b,Judge P J i x b:=by
 cases q:isC x.b with
 |false=>exact⟨false,.inl ⟨q,(h.ok.ok i x hx).oth,rfl⟩⟩
 |true =>
  obtain⟨L,O⟩:=h.org hx q;obtain⟨Y,e,f⟩:=D_6 h.hP O.2.1;exact⟨_,.inr ⟨q,L,Y,O,e,f,rfl⟩⟩
theorem Judge.run  (h:Judge P J i x b) (hi:i<24) (more:List D) (k:Nat) (q:Sl) :
  (b=true ∧ b_0 [.im (.lst (J.map b_1++more)),.im (.int (k:Int)),.im (b_1 x),q]=some (.ex (Str.ofString "NoWorks",some (Str.ofString "at",.int (k:Int))))) ∨ (b=false ∧ ∃ O,b_0 [.im (.lst (J.map b_1++more)),.im (.int (k:Int)),.im (b_1 x),q]=some (.ok (.nx [.im (.lst (J.map b_1++more)),.im (.int (k:Int)),.im (b_1 x),O]))):=by
 rcases h with ⟨hc,ho,rfl⟩ | ⟨hc,L,tw,ho,ht,_,rfl⟩
 ·exact .inr ⟨rfl,q,bg2 hc ho k q⟩
 ·exact bg1 hc (ho.is hi more) ht k q
abbrev xC (i:Nat) (l:List D) (ρ:En):Option RX:=xGo (gT [1,2]) b_0 (I_4 i l) ρ
noncomputable abbrev exN (k:Nat):RX:=.ex (Str.ofString "NoWorks",some (Str.ofString "at",.int (k:Int)))
theorem ar5 (k:Nat) (d:D) (l:List D) (w s1 s2 q:Sl):xC k (d::l) [w,s1,s2,q]=bnd (b_0 [w,.im (.int (k:Int)),.im d,q]) (goX (xGo (gT [1,2]) b_0 (I_4 (k+1) l))):=by show xGo _ _ (D.tup [.int (k:Int),d]::I_4 (k+1) l) _=_;rw[af6];rfl
theorem aT2  (h:Wk P Y):∀ (n:Nat) (O pre:List Row),O.length=n->Y=pre++O ->
  (∃ k x,Y[k]?=some x/\Judge P Y k x true/\(∀ j y,pre.length<=j->j<k->Y[j]?=some y->Judge P Y j y false)/\∀ more s1 s2 Z,xC pre.length (O.map b_1++more) [.im (.lst (Y.map b_1++more)),s1,s2,Z]=some (exN k)) \/
  ((∀ j y,pre.length<=j->Y[j]?=some y->Judge P Y j y false)/\∀ more s1 s2 Z,∃ ae ad aa,xC pre.length (O.map b_1++more) [.im (.lst (Y.map b_1++more)),s1,s2,Z]=xC Y.length more [.im (.lst (Y.map b_1++more)),ae,ad,aa])
 |n,[],pre,_,e=>by
  refine .inr ⟨λ j y hj hy=>?_,λ more s1 s2 Z=>⟨s1,s2,Z,?_⟩⟩
  ·rw[e,zm] at hy;have:=(List.getElem?_eq_some_iff.mp hy).1;omega
  ·rw[zz,jm,e,zm]
 |0,x::O,_,e,_=>by cases e
 |n+1,x::O,pre,hn,e=>by
  have hx:Y[pre.length]?=some x:=by rw[e];simp
  have hi:=qr (List.getElem?_eq_some_iff.mp hx).1 h.len;obtain⟨b,J⟩:=h.judge hx;cases b with
  |true =>
   refine .inl ⟨pre.length,x,hx,J,λ j y h1 h2=>by omega,λ more s1 s2 Z=>?_⟩;rcases J.run hi more pre.length Z with ⟨_,q⟩ | ⟨q,_⟩
   ·rw[zd,jg,ar5,q];rfl
   ·cases q
  |false =>
   have step:∀ more s1 s2 Z,∃ aa,xC pre.length ((x::O).map b_1++more) [.im (.lst (Y.map b_1++more)),s1,s2,Z]=xC (pre.length+1) (O.map b_1++more) [.im (.lst (Y.map b_1++more)),.im (.int (pre.length:Int)),.im (b_1 x),aa]:=λ more s1 s2 Z=>by
    rcases J.run hi more pre.length Z with ⟨q,_⟩ | ⟨_,aa,q⟩
    ·cases q
    ·exact⟨aa,by rw[zd,jg,ar5,q];rfl⟩
   have ac:∀ j y,pre.length<=j->¬ pre.length+1<=j->Y[j]?=some y->Judge P Y j y false:=λ j y h1 h2 hy=>by
    obtain rfl:j=pre.length:=by omega
    rw[hx] at hy;cases hy;exact J
   rcases aT2 h n O (pre++[x]) (by simpa using hn) (by rw[e];simp) with ⟨k,y,h1,h2,h3,h4⟩ | ⟨h1,h2⟩
   ·rw[zc,yn] at h3 h4;refine .inl ⟨k,y,h1,h2,λ j z a1 a2 a3=>?_,λ more s1 s2 Z=>?_⟩
    ·by_cases c:pre.length+1<=j
     ·exact h3 j z c a2 a3
     ·exact ac j z a1 c a3
    ·obtain⟨aa,q⟩:=step more s1 s2 Z;rw[q,h4]
   ·rw[zc,yn] at h1 h2;refine .inr ⟨λ j z a1 a3=>?_,λ more s1 s2 Z=>?_⟩
    ·by_cases c:pre.length+1<=j
     ·exact h1 j z c a3
     ·exact ac j z a1 c a3
    ·obtain⟨aa,q⟩:=step more s1 s2 Z;rw[q];exact h2 more _ _ _
def Passes (P:List Str) (q:List Row):Prop:=∀ j y,q[j]?=some y->Judge P q j y false
theorem aN1  (h:xC 0 l [.im (.lst l),.no,.no,.no]=some (exN k)):c_1 [.lst l]=some (.inr (Str.ofString "NoWorks",some (Str.ofString "at",.int (k:Int)))):=by have h:=h;simp[c_1,fnX,q_3,List.replicate,h,b_3]
theorem al8  (h:xC 0 l [.im (.lst l),.no,.no,.no]=some (.ok (.nx ρ))):c_1 [.lst l]=some (.inl .non):=by have h:=h;simp[c_1,fnX,q_3,List.replicate,h,b_3]
theorem R_7  (h:Wk P q) :
  (∃ k x,q[k]?=some x ∧ Judge P q k x true ∧ (∀ j y,j<k → q[j]?=some y → Judge P q j y false) ∧ ∀ more,c_1 [.lst (q.map b_1++more)]=some (.inr (Str.ofString "NoWorks",some (Str.ofString "at",.int (k:Int))))) ∨
  (Passes P q/\∀ more,∃ s1 s2 O,xC 0 (q.map b_1++more) [.im (.lst (q.map b_1++more)),.no,.no,.no]=xC q.length more [.im (.lst (q.map b_1++more)),s1,s2,O]):=by
 rcases aT2 h q.length q [] rfl rfl with ⟨k,x,h1,h2,h3,h4⟩ | ⟨h1,h2⟩
 ·exact .inl ⟨k,x,h1,h2,λ j y a b=>h3 j y (yf _) a b,λ more=>aN1 (h4 more .no .no .no)⟩
 ·exact .inr ⟨λ j y J=>h1 j y (yf _) J,λ more=>h2 more .no .no .no⟩
theorem Judge.one  (hi:i<24) (h1:Judge P J i x true) (h2:Judge P J i x false):False:=by
 rcases h1 with ⟨_,_,z⟩ | ⟨hc,L,tw,o,e,_,b⟩
 ·cases z
 rcases h2 with ⟨hc',_,_⟩ | ⟨_,L',tw',o',e',_,b'⟩
 ·rw[hc] at hc';cases hc'
 have q:=(o.is hi []).symm.trans (o'.is hi []);have q:L.map dWay=L'.map dWay:=by injection q with q;injection q
 rw[q,e'] at e;have t:tw'=tw:=by injection e with e;injection e
 have le:L.isEmpty=L'.isEmpty:=by
  have:=Qk List.isEmpty q
  rwa [List.isEmpty_map,List.isEmpty_map] at this
 unfold aN8 at b b';rw[le,<- t,b'] at b;cases b
theorem Org.more  (h:Org P J i x L) (ex:List Row):Org P (J++ex) i x L:=⟨h.1,h.2.1,λ more q O=>by rw[zu,yt];exact h.2.2 _ q O⟩
theorem Judge.more  (h:Judge P J i x b) (ex:List Row):Judge P (J++ex) i x b:=by
 rcases h with z | ⟨hc,L,tw,o,e,f,q⟩
 ·exact .inl z
 ·exact .inr ⟨hc,L,tw,o.more ex,e,f,q⟩
theorem r_5 {J:List Row} (h:Wk P J) {x y:Row}{r:Rw} (hx:J[i]?=some x) (Z:x.b=.one y.n r) (hj:j<i) (Y:y.w<=x.w) (O:Org P J j y L) (hr:b_9 [b_1 x,dB fullB]=some (dB fullB)):Org P J i x L:=by
 have wx:=h.w x (zx hx);refine⟨zf O.1 Y,O.2.1,λ more q ac=>?_⟩;cases q with
 |zero=>omega
 |succ q =>
  obtain⟨aa,e⟩:=q_5 (bl:=dB fullB) (G:=λ _=>L) (.im (.str x.n)) (.im (dB fullB)) (.im (b_1 x)) .no [y.n] [] .no (λ f hf=>by
   cases qw hf;exact⟨O.2.2 more q (by omega),zf O.1 Y⟩) (by simp;omega)
  have nm:=u_1 h.ok hx more;have nb:isN (dB fullB)=false:=rfl;have x0:b_5 (b_1 x) (.int 0)=some (.str (rwW r)):=by obtain⟨n,b,w⟩:=x;cases Z;rfl
  have x2:b_5 (b_1 x) (.int 2)=some (.tup [.str y.n]):=by obtain⟨n,b,w⟩:=x;cases Z;rfl
  simp at e;simp[a_8,f_8,List.replicate,nb,nm,x0,aH1 r,F_2 r,x2,hr,e]
theorem F_7 {P:List Str}{O:List Row} (h:Wk P O) {i j j':Nat}{x y y':Row}{L:List (Str×Bx)} (hx:O[i]?=some x) (hb:x.b=.pour [y.n,y'.n]) (hj:j<i) (ac:j'<i) (hw:L.length+L.length<=x.w) (ho:Org P O j y L) (Z:Org P O j' y' L):Org P O i x (L++L):=by
 have wx:=h.w x (zx hx);refine⟨by rw[zc];exact hw,λ z hz=>?_,λ more J ad=>?_⟩
 ·rcases qx hz with q | q <;> exact ho.2.1 z q
 cases J with
 |zero=>omega
 |succ J =>
  obtain⟨aa,e⟩:=q_5 (FU:=a_8 J) (bl:=dB fullB) (v:=x.w) (G:=λ _=>L) (.im (.str x.n)) (.im (dB fullB)) (.im (b_1 x)) .no [y.n,y'.n] [] .no (λ f Y=>by
   rcases qv Y with rfl | Y
   ·exact⟨ho.2.2 more J (by omega),by omega⟩
   ·cases qw Y;exact⟨Z.2.2 more J (by omega),by omega⟩) (by simp;omega)
  have nm:=u_1 h.ok hx more;have nb:isN (dB fullB)=false:=rfl;have x0:b_5 (b_1 x) (.int 0)=some (.str "pour"):=by obtain⟨n,b,w⟩:=x;cases hb;rfl
  have x2:b_5 (b_1 x) (.int 2)=some (.tup [.str y.n,.str y'.n]):=by obtain⟨n,b,w⟩:=x;cases hb;rfl
  simp at e;simp[a_8,f_8,List.replicate,nb,nm,x0,ad3,x2,e]
theorem aI7 {P:List Str}{O:List Row} (h:Wk P O) {i j:Nat}{x y:Row}{f:Str}{r J:Rw} (hx:O[i]?=some x) (hy:O[j]?=some y) (hb:x.b=.one y.n r) (Z:y.b=.one f J) (hj:j<i) (j1:1<=j) (hn:∀ t k v,0<=t->∀ z,thr J (t,k,v)=some z->thr r z=none):Org P O i x []:=by
 have ac:=((h.ok.ok i x hx).one y.n r hb).1;have ad:=((h.ok.ok j y hy).one f J Z).1;have ex:b_1 x=dRw (.str x.n) (.tup [.str y.n]) r:=by obtain⟨n,b,w⟩:=x;cases hb;rfl
 have ey:b_1 y=dRw (.str y.n) (.tup [.str f]) J:=by obtain⟨n,b,w⟩:=y;cases Z;rfl
 obtain⟨q1,e1,s1,g1⟩:=S_4 h.hP (.str x.n) (.tup [.str y.n]) ac (qj 50) (by decide) (ad8 P);rw[<- ex] at e1;have nb:isN (dB fullB)=false:=rfl;have nm:=λ more=>u_1 h.ok hx more;have x0:b_5 (b_1 x) (.int 0)=some (.str (rwW r)):=by rw[ex];rfl
 have x2:b_5 (b_1 x) (.int 2)=some (.tup [.str y.n]):=by rw[ex];rfl
 refine⟨yf _,(λ z hz=>by cases hz),λ more q ae=>?_⟩;cases q with
 |zero=>omega
 |succ q =>
  have Y:a_8 q [.lst (O.map b_1++more),.str y.n,dBO q1]=some (.lst []):=by
   cases q with
   |zero=>omega
   |succ q =>
    cases q1 with
    |none=>exact M_4 _ _ _
    |some m =>
     obtain⟨q2,e2,s2,g2⟩:=S_4 h.hP (.str y.n) (.tup [.str f]) ad (n:=62) (by decide) (by decide) (g1 m rfl);rw[<- ey] at e2;have hq:q2=none:=by
      cases q2 with
      |none=>rfl
      |some m2 =>
       obtain⟨t,k,v,t0,hv⟩:=(g2 m2 rfl).some_thing;have a:=s2 t k v t0;have hv:ad6 (some m2) t k v=true:=hv;rw[hv] at a;cases c:thr J (t,k,v) with
       |none=>rw[c] at a;cases a
       |some z =>
        rw[c] at a;have a:true=bQ9 m z:=a;have z0:0<=z.1:=by have:hasX m z.1 z.2.1 z.2.2=true:=a.symm;unfold hasX at this;simp only[zn,y7] at this;have:=(g1 m rfl).t0;omega
        have b:=s1 z.1 z.2.1 z.2.2 z0;have hz:=hn t k v t0 z c;have hz:thr r (z.1,z.2.1,z.2.2)=none:=hz;rw[hz] at b;have b:hasX m z.1 z.2.1 z.2.2=false:=b;have a:hasX m z.1 z.2.1 z.2.2=true:=a.symm;rw[b] at a;cases a
     subst hq;obtain⟨aa,e⟩:=q_5 (FU:=a_8 q) (wk:=.lst (O.map b_1++more)) (bl:=.non) (v:=0) (G:=λ _=>[]) (.im (.str y.n)) (.im (dB m)) (.im (b_1 y)) .no [f] [] .no (λ g _=>by
      cases q with
      |zero=>omega
      |succ q=>exact⟨M_4 _ _ _,qj _⟩) (by simp)
     have nb:isN (dB m)=false:=rfl;have nm:=u_1 h.ok hy more;have y0:b_5 (b_1 y) (.int 0)=some (.str (rwW J)):=by rw[ey];rfl
     have y2:b_5 (b_1 y) (.int 2)=some (.tup [.str f]):=by rw[ey];rfl
     simp at e;simp[a_8,f_8,List.replicate,nb,nm,y0,aH1 J,F_2 J,y2,e2,dBO,e]
  obtain⟨aa,e⟩:=q_5 (FU:=a_8 q) (wk:=.lst (O.map b_1++more)) (bl:=dBO q1) (v:=0) (G:=λ _=>[]) (.im (.str x.n)) (.im (dB fullB)) (.im (b_1 x)) .no [y.n] [] .no (λ g hg=>by
   cases qw hg;exact⟨Y,qj _⟩) (by simp)
  have nm:=nm more;simp at e;simp[a_8,f_8,List.replicate,nb,nm,x0,aH1 r,F_2 r,x2,e1,e]
theorem aj9 {P:List Str}{Y:List Row} (h:Wk P Y) {i:Nat}{x:Row} (hx:Y[i]?=some x) {lo hi:Option Int} (J:x.b=.inn lo hi):Judge P Y i x false:=by
 obtain⟨b,z | ⟨hc,L,tw,o,e,f,q⟩⟩:=h.judge hx
 ·have:=z.1;rw[J] at this;cases this
 obtain⟨o1,o2,o3,o4⟩:=(h.ok.ok i x hx).inn lo hi J;obtain⟨s,es,Z,hs⟩:=X_3 (P:=P) J o1 o2 o3;obtain⟨r,er,hr,_⟩:=ay2 h.hP (A:=2 ^ 50) (B1:=2 ^ 11) (B2:=2 ^ 50) (j_6 (by decide)) (j_6 (by decide)) (j_6 (by decide)) (Z.mono (j_6 (by decide)) (qj _)) (ad8 P);have ne:L≠[]:=λ z=>by
  subst z;obtain⟨t,k,v,t0,hv⟩:=Z.some_thing;have hf:hasX fullB t k v=true:=by unfold hasX fullB;dsimp only;rw[m_7,aB5];simp[t0,endB]
  have a:=hr t k v;rw[hv,hf] at a;cases r with
  |none=>cases a
  |some m =>
   have w:=o.2.2 [] (i+1) (by omega);have nm:=u_1 h.ok hx [];have nb:isN (dB fullB)=false:=rfl;have O:isN (dB m)=false:=rfl;have x0:b_5 (b_1 x) (.int 0)=some (.str "in"):=by obtain⟨n,b,w⟩:=x;cases J;rfl
   rw[zm] at w nm;simp[a_8,f_8,List.replicate,nb,nm,x0,es,er,dBO,O] at w
 have:aN8 x L tw=false:=by
  unfold aN8;rw[J];cases L with
  |nil=>exact absurd rfl ne
  |cons=>rfl
 exact .inr ⟨hc,L,tw,o,e,f,this⟩
theorem u_5 (x y:D) {c:Int} (h:0<=c):b_9 [dRw x y (.later c),dB fullB]=some (dB fullB):=by
 have W:=an0;have es:b_6 [dRw x y (.later c)]=some .non:=by kernel_rfl
 have le:=aj4 fullB (-c);have O:mkX fullB.o fullB.ts (fullB.bg+-c) (fullB.en.map (·+-c)) fullB.s=some fullB:=by show some (⟨false,[],if 0 > 0+-c then 0 else 0+-c,none,evS⟩:Bx)=some ⟨false,[],0,none,evS⟩;congr 2;split <;> omega
 rw[O] at le;have J:b_5 (dRw x y (.later c)) (.int 0)=some (.str "later"):=rfl;have q:b_5 (dRw x y (.later c)) (.int 3)=some (.tup [.int c]):=rfl;simp[b_9,j_5,List.replicate,es,J,q,W,br3,le,dBO]
theorem H_1 (x y:D) {a c:Int} (h:a≠0) (h1:a.natAbs<=1000) (h2:c.natAbs<=1000):b_9 [dRw x y (.turn a c),dB fullB]=some (dB fullB):=by
 have W:=an0;have es:b_6 [dRw x y (.turn a c)]=some .non:=by kernel_rfl
 obtain⟨g,f,E,e1⟩:=af0 (s:=evS) (a:=a) (b:=c) (by decide) (P_7 (k:=10) (by decide) (by decide)) (by decide) (by decide) h (P_7 (k:=10) (by omega) (by decide)) (P_7 (k:=10) (by omega) (by decide));have J:g=1:=by obtain⟨m,q⟩:=E.dm;have p:=E.pos;have:(1:Int)=g*m:=q;have:=Y1 (by decide) E.dm;have:g<=1:=this;omega
 subst J;have eb:St.back2 evS a c 1 f=some evS:=by
  unfold St.back2;rw[if_pos (by show (0-c) % 1=0;omega)];have Y:St.bkLo evS a c=none:=by unfold St.bkLo evS;split <;> rfl
  have b2:St.bkHi evS a c=none:=by unfold St.bkHi evS;split <;> rfl
  rw[Y,b2];show St.made none none 1 ((0-c) / 1*f % 1)=_;rw[show (0-c) / 1*f % 1=0 from Int.emod_one _];rfl
 rw[eb] at e1;have q:=l_1 false [] 0 none evS;have e1:b_4 [dS fullB.s,.int a,.int c]=some (dS evS):=e1;have q:a_9 [KK fullB.o fullB.ts,.int fullB.bg,dO fullB.en,dS evS]=some (dB fullB):=q;have O:b_5 (dRw x y (.turn a c)) (.int 0)=some (.str "turn"):=rfl;have Z:b_5 (dRw x y (.turn a c)) (.int 3)=some (.tup [.int a,.int c]):=rfl;simp[b_9,j_5,List.replicate,es,O,Z,W,bf3,bf2,bf1,bf0,w_2,u_9,e1,q]
theorem ak4 (x y:D) {tb:Tb} (nd:(fst tb).Nodup) (hl:tb.length<=4):b_9 [dRw x y (.put tb),dB fullB]=some (dB fullB):=by
 have W:=an0;have es:b_6 [dRw x y (.put tb)]=some .non:=by kernel_rfl
 have q:=bm8 nd (by omega) false (ts:=[]) (by simp);have Y:Z_5 tb false []=KK false []:=by
  unfold Z_5;rw[if_neg (by simp)];have:backL tb []=[]:=by unfold backL;have z:(fst tb).filter (λ k=>decide (bec tb k∈([]:List Str)))=[]:=List.filter_eq_nil_iff.mpr (by simp);rw[z];rfl
  rw[this]
 rw[Y] at q;have q:e_7 [KK fullB.o fullB.ts,dT tb]=some (KK false []):=q;have Z:a_9 [KK false [],.int fullB.bg,dO fullB.en,dS fullB.s]=some (dB fullB):=l_1 false [] 0 none evS;have J:b_5 (dRw x y (.put tb)) (.int 0)=some (.str "put"):=rfl;have O:b_5 (dRw x y (.put tb)) (.int 3)=some (dT tb):=rfl;simp[b_9,j_5,List.replicate,es,J,O,W,bf3,bf2,bf1,bf0,q,Z]
noncomputable abbrev bh8 (n f:Str) (w:Nat):Row:=⟨n,.one f (.later 1),w⟩
structure Gd (P:List Str) (rs:List Row):Prop where
 wk:Wk P rs
 w1:∀ x∈rs,1<=x.w
 c:∀ x∈rs,isC x.b=true
 w25:∀ x∈rs,x.w<=25
 l14:rs.length<=14
 z:∃ x lo hi,rs[0]?=some x/\x.b=.inn lo hi/\x.w=1
theorem F_3  (h:0<=c):ROk P (.later c):=⟨λ _ _ e=>(by cases e),λ _ _ e=>(by cases e),λ _ _ e=>(by cases e),λ _ _ e=>(by cases e),λ _ _ e=>(by cases e),λ _ e=>by cases e;exact h,λ _ e=>(by cases e)⟩
theorem T_9 {l:List α} (h:y∈l.take i):y∈(l.set k x').take i\/l[k]?=some y/\x'∈(l.set k x').take i:=by
 obtain⟨j,e⟩:=List.mem_iff_getElem?.mp h;rw[jf] at e;split at e
 ·rename_i q;by_cases c:k=j
  ·subst c;refine .inr ⟨e,List.mem_iff_getElem?.mpr ⟨k,?_⟩⟩;rw[jf,if_pos q,zi (List.getElem?_eq_some_iff.mp e).1]
  ·refine .inl (List.mem_iff_getElem?.mpr ⟨j,?_⟩);rw[jf,if_pos q,zh c];exact e
 ·cases e
theorem Gd.set  (h:Gd P O)  (hx:O[k]?=some x) (k1:1<=k) (Z:O[0]?=some f):Gd P (O.set k (bh8 x.n f.n x.w)):=by
 obtain⟨f',lo,hi,e1,e2,e3⟩:=h.z;rw[Z] at e1;cases e1;have kl:=(List.getElem?_eq_some_iff.mp hx).1;have up:∀ (i:Nat) (n:Str) (v:Nat),(∃ y∈O.take i,y.n=n/\y.w<=v/\isC y.b=true)->∃ y∈(O.set k (bh8 x.n f.n x.w)).take i,y.n=n/\y.w<=v/\isC y.b=true:=λ i n v Y=>by
  obtain⟨y,J,a,b,cc⟩:=Y;rcases T_9 J with q | ⟨q1,q2⟩
  ·exact⟨y,q,a,b,cc⟩
  ·rw[hx] at q1;cases q1;exact⟨_,q2,a,b,rfl⟩
 have mem:∀ y∈O.set k (bh8 x.n f.n x.w),1<=y.w/\y.w<=25/\isC y.b=true:=λ y J=>by
  rcases List.mem_or_eq_of_mem_set J with q | rfl
  ·exact⟨h.w1 y q,h.w25 y q,h.c y q⟩
  ·exact⟨h.w1 x (zx hx),h.w25 x (zx hx),rfl⟩
 have aa:(O.set k (bh8 x.n f.n x.w)).map (·.n)=O.map (·.n):=by
  rw[Y8];refine Zz λ j=>?_;by_cases c:k=j
  ·subst c;rw[zi (by simpa using kl),zl,hx];rfl
  ·rw[zh c]
 refine⟨⟨h.wk.hP,⟨by rw[aa];exact h.wk.ok.nd,λ i y J=>?_⟩,λ y J=>zf (mem y J).2.1 (by decide),by rw[zy];exact h.wk.len⟩,λ y J=>(mem y J).1,λ y J=>(mem y J).2.2,λ y J=>(mem y J).2.1,by rw[zy];exact h.l14,f,lo,hi,by rw[zh (by omega)];exact Z,e2,e3⟩;by_cases c:k=i
 ·subst c;rw[zi kl] at J;cases J;refine⟨λ _ _ e=>(by cases e),λ g r e=>?_,λ _ e=>(by cases e),λ _ _ _ e=>(by cases e)⟩;cases e;refine⟨F_3 (by decide),up k f.n x.w ⟨f,?_,rfl,by rw[e3];exact h.w1 x (zx hx),by rw[e2];rfl⟩⟩;exact List.mem_iff_getElem?.mpr ⟨0,by rw[jf,if_pos (by omega)];exact Z⟩
 ·rw[zh c] at J;have ok:=h.wk.ok.ok i y J;exact⟨ok.inn,λ g r e=>⟨(ok.one g r e).1,up i g y.w (ok.one g r e).2⟩,λ fs e=>by
   obtain⟨v,h1,h2⟩:=ok.pour fs e;exact⟨v,λ g hg=>up i g v (h1 g hg),h2⟩,ok.oth⟩
theorem al7 (x:Row):∃ w r,b_1 x=.tup (w::.str x.n::r):=by obtain⟨n,b,w⟩:=x;cases b <;> exact⟨_,_,rfl⟩
theorem aJ4 {P:List Str}{O:List Row} (h:Gd P O) (Z:D) (t:Sl) (Y:Sl) (n0:ao4 t=true) (n3:ao4 Y=true) :
  (Passes P O/\∃ ρ,i_2 [.im Z,.ow false (.lst (O.map b_1)),t,Y,.no]=some (.rt (.lst (O.map b_1)) ρ))\/∃ aa d,Gd P aa/\aa.map (·.n)=O.map (·.n)/\i_2 [.im Z,.ow false (.lst (O.map b_1)),t,Y,.no]=some (.nx [.im Z,.ow false (.lst (aa.map b_1)),t,.im d,.no]):=by
 have one:ax0 1 [.im Z,.ow false (.lst (O.map b_1)),t,Y,.no]=true:=by show (ao4 (.im Z)&&(ao4 .no&&(ao4 t&&(ao4 Y&&(ao4 .no&&true)))))=true;rw[n0,n3];rfl
 have ac:ax0 1 [.im Z,.ow false (.lst (O.map b_1)),t,Y,.no]=true/\by5 ([.im Z,.ow false (.lst (O.map b_1)),t,Y,.no]:En)[4]?=true/\3<([.im Z,.ow false (.lst (O.map b_1)),t,Y,.no]:En).length:=⟨one,rfl,qj 4 |> Nat.le_succ_of_le⟩;have un:i_2 [.im Z,.ow false (.lst (O.map b_1)),t,Y,.no]=bnd (c_1 [.lst (O.map b_1)]) (U_7 1 3 [.im Z,.ow false (.lst (O.map b_1)),t,Y,.no] (O.map b_1) (an6 1 (g_0 (eV 1)))):=by show ag9 1 3 4 c_1 (an6 1 (g_0 (eV 1))) _ (some (O.map b_1))=_;unfold ag9;rw[b_3,if_pos ac]
 rw[un];rcases R_7 h.wk with ⟨k,x,hx,J,_,e⟩ | ⟨hp,e⟩
 ·obtain⟨f,lo,hi,e1,e2,e3⟩:=h.z;have k1:1<=k:=by
   cases k with
   |zero =>
    rw[e1] at hx;cases hx;exact (J.one (by decide) (aj9 h.wk e1 e2)).elim
   |succ k=>omega
  have e:=e [];rw[zm] at e;obtain⟨w,r,ew⟩:=al7 x;obtain⟨wf,rf,ef⟩:=al7 f;have dk:(O.map b_1)[((k:Int)).toNat]?=some (.tup (w::.str x.n::r)):=by rw[show ((k:Int)).toNat=k from rfl,zl,hx,<- ew];rfl
  have d0:(O.map b_1)[(0:Nat)]?=some (.tup (wf::.str f.n::rf)):=by rw[zl,e1,<- ef];rfl
  have el:bb4 (O.map b_1) (k:Int)=some (.tup (w::.str x.n::r),(O.set k (bh8 x.n f.n x.w)).map b_1):=by unfold bb4;rw[if_pos (by omega),dk,d0];dsimp only;rw[Y8];rfl
  refine .inr ⟨_,.tup (w::.str x.n::r),h.set hx k1 e1,?_,?_⟩
  ·rw[Y8];refine Zz λ j=>?_;have kl:=(List.getElem?_eq_some_iff.mp hx).1;by_cases c:k=j
   ·subst c;rw[zi (by simpa using kl),zl,hx];rfl
   ·rw[zh c]
  ·rw[e,b_3];unfold U_7;dsimp only;rw[if_pos ⟨rfl,rfl⟩,el,b_3];rfl
 ·obtain⟨s1,s2,ad,q⟩:=e [];rw[zm] at q;rw[al8 (show xC 0 (O.map b_1) [.im (.lst (O.map b_1)),.no,.no,.no]=some (.ok (.nx _)) from q),b_3];exact .inl ⟨hp,_,rfl⟩
theorem aQ9 {P:List Str} (w0:D):∀ (m:Nat) (lo:Int) (Y:List Row) (t Z:Sl),Gd P Y->ao4 Z=true ->
  (∃ J ρ,Gd P J/\Passes P J/\J.map (·.n)=Y.map (·.n)/\fGo (gN 2) i_2 (C_9 lo m) [.im w0,.ow false (.lst (Y.map b_1)),t,Z,.no]=some (.rt (.lst (J.map b_1)) ρ)) \/
  ∃ J t' O,Gd P J/\J.map (·.n)=Y.map (·.n)/\fGo (gN 2) i_2 (C_9 lo m) [.im w0,.ow false (.lst (Y.map b_1)),t,Z,.no]=some (.nx [.im w0,.ow false (.lst (J.map b_1)),t',O,.no])
 |0,lo,Y,t,Z,h,_=>.inr ⟨Y,t,Z,h,rfl,rfl⟩
 |m+1,lo,Y,t,Z,h,n3=>by
  show (∃ J ρ,_/\_/\_/\fGo _ _ (D.int lo::C_9 (lo+1) m) _=_)\/∃ J t' O,_/\_/\fGo _ _ (D.int lo::C_9 (lo+1) m) _=_;rw[Q_6];show (∃ J ρ,_/\_/\_/\fGa _ _ _ (some [.im w0,.ow false (.lst (Y.map b_1)),.im (.int lo),Z,.no])=_)\/∃ J t' O,_/\_/\fGa _ _ _ (some [.im w0,.ow false (.lst (Y.map b_1)),.im (.int lo),Z,.no])=_;rw[Q_7];rcases aJ4 h w0 (.im (.int lo)) Z rfl n3 with ⟨hp,ρ,e⟩ | ⟨aa,d,g1,nm,e⟩
  ·exact .inl ⟨Y,ρ,h,hp,rfl,by rw[e,aL1]⟩
  ·rw[e,X_7];rcases aQ9 w0 m (lo+1) aa (.im (.int lo)) (.im d) g1 rfl with ⟨J,ρ,a,b,c,q⟩ | ⟨J,t',O,a,c,q⟩
   ·exact .inl ⟨J,ρ,a,b,c.trans nm,q⟩
   ·exact .inr ⟨J,t',O,a,c.trans nm,q⟩
theorem Gd.one {P:List Str}{q:List Row} (h:Gd P q):Gd P (q.take 1):=by
 obtain⟨f,lo,hi,e1,e2,e3⟩:=h.z;have z:(q.take 1)[0]?=some f:=by rw[jf,if_pos (by decide)];exact e1
 have sub:∀ x∈q.take 1,x∈q:=λ x hx=>Qs hx;refine⟨⟨h.wk.hP,⟨?_,λ i x hx=>?_⟩,λ x hx=>h.wk.w x (sub x hx),by rw[jq];have:=h.wk.len;omega⟩,λ x hx=>h.w1 x (sub x hx),λ x hx=>h.c x (sub x hx),λ x hx=>h.w25 x (sub x hx),by rw[jq];have:=h.l14;omega,f,lo,hi,z,e2,e3⟩
 ·rw[Z1];exact h.wk.ok.nd.sublist (Zy ..)
 ·rw[jf] at hx;split at hx
  ·obtain rfl:i=0:=by omega
   exact h.wk.ok.ok 0 x hx
  ·cases hx
theorem Gd.one_pass {P:List Str}{O:List Row} (h:Gd P O):Passes P (O.take 1):=λ j y J=>by
 obtain⟨f,lo,hi,e1,e2,e3⟩:=h.one.z;have q:=J;rw[jf] at J;split at J
 ·obtain rfl:j=0:=by omega
  rw[e1] at q;cases q;exact aj9 h.one.wk e1 e2
 ·cases J
theorem bp9 {P:List Str}{O:List Row} (h:Gd P O):∃ J,h_5 [.lst (O.map b_1)]=some (.lst (J.map b_1))/\Gd P J/\Passes P J/\∀ n∈J.map (·.n),n∈O.map (·.n):=by
 rcases aQ9 (.lst (O.map b_1)) 25 0 O .no .no h rfl with ⟨J,ρ,a,b,c,q⟩ | ⟨J,t',s3',a,c,q⟩
 ·refine⟨J,?_,a,b,λ n Y=>by rw[<- c];exact Y⟩;simp[h_5,t_4,List.replicate,q]
 ·refine⟨J.take 1,?_,a.one,a.one_pass,λ n Y=>?_⟩
  ·have ct:R_4 (J.map b_1) none (some 1)=(J.take 1).map b_1:=by rw[show (1:Int)=((1:Nat):Int) from rfl,bL2,Z1]
   simp[h_5,t_4,List.replicate,q,ct]
  ·rw[<- c];rw[Z1] at Y;exact Qs Y
def Rt (x:Option Res) (d:D) (o:MO):Prop:=∃ t,x=some (.rt d (.ow true o::t))
theorem Rt.seq {F G:FS}{ρ ρ':En}{d:D}{o:MO} (h:F ρ=some (.nx ρ')) (H:Rt (G ρ') d o):Rt (b_7 F G ρ) d o:=by obtain⟨t,e⟩:=H;exact⟨t,by rw[bY2,h,bC9,e]⟩
theorem Rt.no {T:FT}{A B:FS}{ρ:En}{d:D}{o:MO} (h:T ρ=some (false,ρ)) (H:Rt (B ρ) d o):Rt (b_7 (sIf T A sN) B ρ) d o:=.seq (by simp[h]) H
theorem Rt.yes {T:FT}{A B:FS}{ρ:En}{d:D}{o:MO} (h:T ρ=some (true,ρ)) (H:Rt (A ρ) d o):Rt (b_7 (sIf T A sN) B ρ) d o:=by obtain⟨t,e⟩:=H;exact⟨t,by simp[h,e]⟩
theorem Rt.ret {E:FE}{o o':MO}{t:En}{d:D} (h:E (.ow true o::t)=some (d,.ow true o'::t)):Rt (g_0 E (.ow true o::t)) d o':=⟨t,by simp[h]⟩
theorem Rt.fn {n k:Nat}{B:FS}{o o':MO}{ds:List D}{d:D} (q:ds.length=n) (h:Rt (B (.ow true o::(ds.map .im++List.replicate k .no))) d o'):fnB n k B o ds=some (d,o'):=by obtain⟨t,e⟩:=h;simp[q,e]
theorem aT4 {ρ:En}{i:Nat}{x y:Int} (h:ρ[i]?=some (.im (.int x))):tB (e2 dEq (eV i) (zI y)) ρ=some (decide (x=y),ρ):=by simp[h]
theorem az0 {ρ:En}{i:Nat}{x y:Str} (h:ρ[i]?=some (.im (.str x))):tB (e2 dEq (eV i) (eC (.str y))) ρ=some (decide (x=y),ρ):=by simp[h]
theorem Rt.noI {i:Nat}{x y:Int}{A B:FS}{ρ:En}{d:D}{o:MO} (h:ρ[i]?=some (.im (.int x))) (n:x≠y) (H:Rt (B ρ) d o):Rt (b_7 (sIf (tB (e2 dEq (eV i) (zI y))) A sN) B ρ) d o:=.no ((aT4 h).trans (by rw[yj n])) H
theorem Rt.yesI {i:Nat}{x y:Int}{A B:FS}{ρ:En}{d:D}{o:MO} (h:ρ[i]?=some (.im (.int x))) (n:x=y) (H:Rt (A ρ) d o):Rt (b_7 (sIf (tB (e2 dEq (eV i) (zI y))) A sN) B ρ) d o:=.yes ((aT4 h).trans (by rw[yh n])) H
theorem Rt.noS {i:Nat}{x y:Str}{A B:FS}{ρ:En}{d:D}{o:MO} (h:ρ[i]?=some (.im (.str x))) (n:x≠y) (H:Rt (B ρ) d o):Rt (b_7 (sIf (tB (e2 dEq (eV i) (eC (.str y)))) A sN) B ρ) d o:=.no ((az0 h).trans (by rw[yj n])) H
theorem Rt.yesS {i:Nat}{x y:Str}{A B:FS}{ρ:En}{d:D}{o:MO} (h:ρ[i]?=some (.im (.str x))) (n:x=y) (H:Rt (A ρ) d o):Rt (b_7 (sIf (tB (e2 dEq (eV i) (eC (.str y)))) A sN) B ρ) d o:=.yes ((az0 h).trans (by rw[yh n])) H
theorem g_6 {o q:MO}{r m:Int}{t:En}{j:Nat} (e:a_1 o []=some (.int r,q)) (J:m≠0):d_5 (j+1) (e2 i_7 (eFb 0 a_1 aN) (zI m)) (.ow true o::t)=some (.nx (.ow true q::t.set j (.im (.int (r.fmod m))))):=by simp[e,J]
theorem W_6 (c k:Int):∃ r:Int,i_0 [.int c,.int k]=some (.int r)/\0<=r/\r<2147483647:=by
 have a:∀ x:Int,0<=Int.fmod x 2147483647/\Int.fmod x 2147483647<2147483647:=λ x=>⟨yv _ (by decide),jt _ (by decide)⟩
 have O:∀ x:Int,j_7 x 48271=true:=λ x=>r_6 (by decide);have J:j_7 7919 k=true:=G_2 (by decide);have Y:∀ x y:Int,j_7 (Int.fmod x 2147483647) y=true:=λ x y=>G_2 (by have:=a x;omega);have q:z_8 1009=true:=P_1 (by decide) (by decide);exact⟨_,by simp[i_0,w_5,O,J,Y,q];rfl,(a _).1,(a _).2⟩
theorem v_7 {ns:List Int} (hn:ns.length<=63) {o:MO} (h:q_8 ns o):∃ (r:Int) (o':MO),a_1 o []=some (.int r,o')/\0<=r/\r<2147483647/\q_8 ns o':=by
 obtain⟨wy,l,a,nb,kk,rfl,hl,ha,hk⟩:=h;obtain⟨J,Z,e,Y,O⟩:=z_6 ns wy nb kk .no .no 64 l a hl ha (by omega) 200 (by decide);by_cases hp:0<J
 ·have d1:z_8 1000003=true:=P_1 (by decide) (by decide);have f0:=yv J (b:=1000003) (by decide);have f1:=jt J (b:=1000003) (by decide);have q:J.fdiv 1000003=J / 1000003:=yu _ (by decide);refine⟨J.fmod 1000003,.dic (drD ns wy (J / 1000003) Z nb kk),?_,f0,by omega,wy,J / 1000003,Z,nb,kk,rfl,Yk Y (by decide),O,hk⟩;simp[a_1,q_7,List.replicate,e,drL,hp,d1,q,aC1,stL]
 ·obtain⟨x,ex⟩:=ae6 ns (k:=kk+1) (by omega);obtain⟨r1,e1,_⟩:=W_6 (nb+x) (kk+1);obtain⟨r2,e2,h2,h3⟩:=W_6 r1 7;refine⟨r2,.dic (drD ns wy J Z r1 (kk+1)),?_,h2,h3,wy,J,Z,r1,kk+1,rfl,Y,O,by omega⟩;simp[a_1,q_7,List.replicate,e,drL,hp,drK,drN,drS,aC1,stK,stN,ex,e1,e2]
theorem d_9 (x:Int) {m:Int} (h:0<m):0<=x.fmod m/\x.fmod m<m:=⟨yv _ h,jt _ h⟩
theorem aO8 (fs:List Str) (ρ:En):∀ nm:List Str,am2 (tB (be9 true (eV 0) 1)) (eV 0) ρ 3 [3] 0 (.lst (fs.map .str)) (nm.map .str)=some ((nm.filter λ k=>!decide (k∈fs)).map .str,.lst (fs.map .str))
 |[]=>rfl
 |k::r=>by
  have q:=aO8 fs ρ r;have fr:aA7 ρ 3 (.lst (fs.map .str)) [3]=some [.ow true (.lst (fs.map .str))]:=rfl;have ok:=G_3 k fs;have e:=Q_2 k fs;have t:tB (be9 true (eV 0) 1) [.im (.str k),.ow true (.lst (fs.map .str))]=some (!decide (k∈fs),[.im (.str k),.ow true (.lst (fs.map .str))]):=by simp[ok,e]
  rw[zd,H_6,fr,b_3,t,b_3];by_cases c:k∈fs
  ·rw[yh c];show (if false=true then _ else bnd (some (MO.lst (fs.map .str))) _)=_;rw[if_neg (by simp),b_3,q,Q7 (by simp[c])]
  ·rw[yj c];have f:eV 0 [.im (.str k),.ow true (.lst (fs.map .str))]=some (.str k,[.im (.str k),.ow true (.lst (fs.map .str))]):=rfl;show (if true=true then bnd (eV 0 [.im (.str k),.ow true (.lst (fs.map .str))]) _ else _)=_;rw[if_pos rfl,f,b_3];show bnd (some (MO.lst (fs.map .str))) _=_;rw[b_3,q,b_3,Q6 (by simp[c]),zd]
theorem bj8 {nm fs:List Str} (nd:nm.Nodup) (J:fs.length<nm.length):(nm.filter λ k=>!decide (k∈fs))≠[]:=λ z=>by
 have h:∀ k∈nm,k∈fs:=λ k q=>by
  have:=List.filter_eq_nil_iff.mp z k q;simpa using this
 have:=List.Nodup.length_le_of_subset nd h;omega
theorem aF8 {ns:List Int} (hn:ns.length<=63) {nm:List Str} (nd:nm.Nodup) (hl:nm.length<=20) (many:D) (i:Nat) (v:Int) (ρ:En) (hi:i<nm.length) (p:∃ (o:MO) (fs:List Str) (x4 Z:Sl),q_8 ns o/\fs.length=i/\(fs.Nodup/\∀ k∈fs,k∈nm)/\ρ=[.ow true o,.im (.lst (nm.map .str)),.im many,.ow false (.lst (fs.map .str)),x4,Z]) :
  ∃ aa O,gN 4 (.int v) ρ=some aa/\m_6 aa=some (.nx O)/\∃ (o:MO) (fs:List Str) (x4 Z:Sl),q_8 ns o/\fs.length=i+1/\(fs.Nodup/\∀ k∈fs,k∈nm)/\O=[.ow true o,.im (.lst (nm.map .str)),.im many,.ow false (.lst (fs.map .str)),x4,Z]:=by
 obtain⟨o,fs,x4,Z,ho,hf,⟨fd,fm⟩,rfl⟩:=p;obtain⟨r1,o1,e1,l1,ad⟩:=e_5 hn ho;have lg:=aO8 fs [.ow true o,.im (.lst (nm.map .str)),.im many,.ow false (.lst (fs.map .str)),.im (.int v),Z] nm;have ne:=bj8 (fs:=fs) nd (by omega);have mem:∀ a∈nm.filter (λ k=>!decide (k∈fs)),a∉fs:=λ a J=>by
  simpa using (List.mem_filter.mp J).2
 have q:∀ a∈nm.filter (λ k=>!decide (k∈fs)),a∈nm:=λ a J=>(List.mem_filter.mp J).1;generalize nm.filter (λ k=>!decide (k∈fs))=left at lg ne mem q;have lp:0<left.length:=by
  cases left with
  |nil=>exact absurd rfl ne
  |cons a r=>exact Za _
 have ac:¬ (left.length:Int)=0:=by omega
 have Y:¬ left.length=0:=by omega
 have m1:0<=r1.fmod left.length/\r1.fmod left.length<left.length:=⟨yv _ (by omega),jt _ (by omega)⟩;obtain⟨a,J,ea⟩:=I_1 D.str left m1.1 m1.2;have lz:nm.length<=sizeLine:=a_6 (by omega);have tl:fs.length<1000000:=by omega
 refine⟨_,[.ow true o1,.im (.lst (nm.map .str)),.im many,.ow false (.lst (fs.map .str++[.str a])),.im (.int v),.im (.lst (left.map .str))],rfl,?_,o1,fs++[a],.im (.int v),.im (.lst (left.map .str)),ad,by rw[zc,hf];rfl,?_,?_⟩
 ·simp[m_6,lg,lz,e1,ac,Y,ea,tl]
 ·refine⟨?_,λ k hk=>?_⟩
  ·rw[jb];refine⟨fd,by simp,λ x hx y hy e=>?_⟩;have hy:y=a:=by simpa using hy
   subst e;subst hy;exact mem x J hx
  ·rcases qx hk with z | z
   ·exact fm k z
   ·have z:k=a:=by simpa using z
    subst z;exact q k J
 ·rw[zu];rfl
theorem x_0 {ns:List Int} (hn:ns.length<=63) {o:MO} (ho:q_8 ns o) {nm:List Str} (nd:nm.Nodup) (Y:nm.length<=20) {m:Int} (m0:0<=m) (m1:m<=nm.length):∃ (l:List Str) (o':MO),e_6 o [.lst (nm.map .str),.int m]=some (.lst (l.map .str),o')/\l.length=m.toNat/\l.Nodup/\(∀ k∈l,k∈nm)/\q_8 ns o':=by
 obtain⟨aa,Z,o2,fs,O,J,q,hf,⟨fd,fm⟩,rfl⟩:=Q_5 (g:=gN 4) (B:=m_6) (λ i ρ=>∃ (o:MO) (fs:List Str) (O J:Sl),q_8 ns o/\fs.length=i/\(fs.Nodup/\∀ k∈fs,k∈nm)/\ρ=[.ow true o,.im (.lst (nm.map .str)),.im (.int m),.ow false (.lst (fs.map .str)),O,J]) m.toNat 0 0
  [.ow true o,.im (.lst (nm.map .str)),.im (.int m),.ow false (.lst []),.no,.no] (λ i v ρ hi p=>aF8 hn nd Y _ i v ρ (by omega) p) ⟨o,[],.no,.no,ho,rfl,⟨yx,λ k hk=>by cases hk⟩,rfl⟩
 have q1:-4611686018427387904<=m:=by omega
 have q2:m<4611686018427387904:=by omega
 refine⟨fs,o2,?_,by omega,fd,fm,q⟩;simp[e_6,C_3,List.replicate,q1,q2,Z]
theorem T_8:(10:Int) ^ 10=10000000000:=by decide
theorem H_7 {ns:List Int} (hn:ns.length<=63) {o:MO} (ho:q_8 ns o):∃ (lo hi:Option Int) (o':MO),c_2 o []=some (.tup [dO lo,dO hi],o')/\St.OB lo (2 ^ 40)/\St.OB hi (2 ^ 40)/\(∀ a b,lo=some a->hi=some b->a<=b)/\q_8 ns o':=by
 obtain⟨r1,o1,e1,_,_,h1⟩:=v_7 hn ho;obtain⟨r2,o2,e2,_,_,h2⟩:=v_7 hn h1;obtain⟨r3,o3,e3,_,_,h3⟩:=v_7 hn h2;obtain⟨r4,o4,e4,_,_,h4⟩:=v_7 hn h3;obtain⟨r5,Y,e5,_,_,h5⟩:=v_7 hn h4;have aa:=d_9 r1 (m:=41) (by decide);have ac:=d_9 r3 (m:=40) (by decide);have q:(10:Int).natAbs<2 ^ 64:=by decide
 have Z:j_7 (r1.fmod 41-20) 10000000000=true:=r_6 (by decide);have bS:∀ x:Int,-200000000000<=x->x<=200000000040->St.OB (some x) (2 ^ 40):=λ x a b l e=>by cases e;rw[show (2:Nat) ^ 40=1099511627776 from rfl];omega
 by_cases c2:r2.fmod 5=1
 ·skip
  by_cases O:r4.fmod 4=1
  ·by_cases J:r5.fmod 4=1
   ·exact⟨none,none,Y,by simp[c_2,g_1,List.replicate,e1,e2,e3,e4,e5,c2,O,J,q,T_8,Z],(λ l e=>by cases e),(λ l e=>by cases e),(λ a b h=>by cases h),h5⟩
   ·exact⟨some ((r1.fmod 41-20)*10000000000),none,Y,by simp[c_2,g_1,List.replicate,e1,e2,e3,e4,e5,c2,O,J,q,T_8,Z],bS _ (by omega) (by omega),(λ l e=>by cases e),(λ a b _ h=>by cases h),h5⟩
  ·by_cases J:r5.fmod 4=1
   ·exact⟨none,some (((r1.fmod 41-20)*10000000000)+r3.fmod 40),Y,by simp[c_2,g_1,List.replicate,e1,e2,e3,e4,e5,c2,O,J,q,T_8,Z],(λ l e=>by cases e),bS _ (by omega) (by omega),(λ a b h=>by cases h),h5⟩
   ·exact⟨some ((r1.fmod 41-20)*10000000000),some (((r1.fmod 41-20)*10000000000)+r3.fmod 40),Y,by simp[c_2,g_1,List.replicate,e1,e2,e3,e4,e5,c2,O,J,q,T_8,Z],bS _ (by omega) (by omega),bS _ (by omega) (by omega),(λ a b h g=>by cases h;cases g;omega),h5⟩
 ·skip
  by_cases O:r4.fmod 4=1
  ·by_cases J:r5.fmod 4=1
   ·exact⟨none,none,Y,by simp[c_2,g_1,List.replicate,e1,e2,e3,e4,e5,c2,O,J,q,T_8,Z],(λ l e=>by cases e),(λ l e=>by cases e),(λ a b h=>by cases h),h5⟩
   ·exact⟨some (r1.fmod 41-20),none,Y,by simp[c_2,g_1,List.replicate,e1,e2,e3,e4,e5,c2,O,J,q,T_8,Z],bS _ (by omega) (by omega),(λ l e=>by cases e),(λ a b _ h=>by cases h),h5⟩
  ·by_cases J:r5.fmod 4=1
   ·exact⟨none,some ((r1.fmod 41-20)+r3.fmod 40),Y,by simp[c_2,g_1,List.replicate,e1,e2,e3,e4,e5,c2,O,J,q,T_8,Z],(λ l e=>by cases e),bS _ (by omega) (by omega),(λ a b h=>by cases h),h5⟩
   ·exact⟨some (r1.fmod 41-20),some ((r1.fmod 41-20)+r3.fmod 40),Y,by simp[c_2,g_1,List.replicate,e1,e2,e3,e4,e5,c2,O,J,q,T_8,Z],bS _ (by omega) (by omega),bS _ (by omega) (by omega),(λ a b h g=>by cases h;cases g;omega),h5⟩
theorem M_7 (a b c:Int) {i:Int} (q:0<=i) (h1:i<3):∃ x,atD [.int a,.int b,.int c] i=some (.int x)/\(x=a\/x=b\/x=c):=by
 have:i=0\/i=1\/i=2:=by omega
 rcases this with rfl | rfl | rfl
 ·exact⟨a,rfl,.inl rfl⟩
 ·exact⟨b,rfl,.inr (.inl rfl)⟩
 ·exact⟨c,rfl,.inr (.inr rfl)⟩
theorem ao0 {P:List Str}{b:Int}{e:Option Int} (h:0<=b/\∀ x,e=some x->b<x):ROk P (.time b e):=⟨λ _ _ z=>by cases z;exact h,λ _ _ z=>(by cases z),λ _ _ z=>(by cases z),λ _ _ z=>(by cases z),λ _ _ z=>(by cases z),λ _ z=>(by cases z),λ _ z=>(by cases z)⟩
theorem au6 {P:List Str}{o:Bool}{l:List Str} (h:KPl P l/\l≠[]):ROk P (.keys o l):=⟨λ _ _ z=>(by cases z),λ _ _ z=>by cases z;exact h,λ _ _ z=>(by cases z),λ _ _ z=>(by cases z),λ _ _ z=>(by cases z),λ _ z=>(by cases z),λ _ z=>(by cases z)⟩
theorem au4 {P:List Str}{lo hi:Option Int} (h:St.OB lo (2 ^ 40)/\St.OB hi (2 ^ 40)/\∀ a b,lo=some a->hi=some b->a<=b):ROk P (.span lo hi):=⟨λ _ _ z=>(by cases z),λ _ _ z=>(by cases z),λ _ _ z=>by cases z;exact h,λ _ _ z=>(by cases z),λ _ _ z=>(by cases z),λ _ z=>(by cases z),λ _ z=>(by cases z)⟩
theorem aH5 {P:List Str}{m x:Int} (h:2<=m/\m<=2000/\0<=x/\x<m):ROk P (.rest m x):=⟨λ _ _ z=>(by cases z),λ _ _ z=>(by cases z),λ _ _ z=>(by cases z),λ _ _ z=>by cases z;exact h,λ _ _ z=>(by cases z),λ _ z=>(by cases z),λ _ z=>(by cases z)⟩
theorem au3 {P:List Str}{a b:Int} (h:a≠0/\a.natAbs<=1000/\b.natAbs<=1000):ROk P (.turn a b):=⟨λ _ _ z=>(by cases z),λ _ _ z=>(by cases z),λ _ _ z=>(by cases z),λ _ _ z=>(by cases z),λ _ _ z=>by cases z;exact h,λ _ z=>(by cases z),λ _ z=>(by cases z)⟩
theorem au5 {P:List Str}{c:Int} (h:0<=c):ROk P (.later c):=⟨λ _ _ z=>(by cases z),λ _ _ z=>(by cases z),λ _ _ z=>(by cases z),λ _ _ z=>(by cases z),λ _ _ z=>(by cases z),λ _ z=>by cases z;exact h,λ _ z=>(by cases z)⟩
theorem bF6 {P:List Str}{tb:Tb} (h:KPl P (fst tb)/\tb.length<=4):ROk P (.put tb):=⟨λ _ _ z=>(by cases z),λ _ _ z=>(by cases z),λ _ _ z=>(by cases z),λ _ _ z=>(by cases z),λ _ _ z=>(by cases z),λ _ z=>(by cases z),λ _ z=>by cases z;exact h⟩
theorem aP9 {ns:List Int} (hn:ns.length<=63) {q:List Str} (hp:q.length=9) {ρ:En} (h4:ρ[4]?=some (.im (.lst (q.map .str)))):∀ (ks:List Str) (o:MO),q_8 ns o ->
  ∃ (tb:Tb) (o':MO),am2 tYes (c_0 (aC (eV 0) (aC (e2 b_5 (eV 1) (e2 i_7 (eFb 2 a_1 aN) (zI 9))) aN))) ρ 0 [4,0] 1 o (ks.map .str)=some (tb.map (λ p=>.tup [.str p.1,.str p.2]),o')/\fst tb=ks/\q_8 ns o'
 |[],o,ho=>⟨[],o,rfl,rfl,ho⟩
 |k::r,o,ho=>by
  obtain⟨x,J,e1,_,_,O⟩:=v_7 hn ho;obtain⟨tb,o2,Z,f2,Y⟩:=aP9 hn hp h4 r J O;have f9:=d_9 x (m:=9) (by decide);obtain⟨y,_,ey⟩:=I_1 D.str q f9.1 (by rw[hp];exact f9.2);refine⟨(k,y)::tb,o2,?_,by unfold fst at f2 ⊢;rw[zd,f2],Y⟩;have fr:aA7 ρ 0 o [4,0]=some [.im (.lst (q.map .str)),.ow true o]:=by show bnd (slI ρ[4]?) (λ s=>bnd (bnd (some (Sl.ow true o)) λ s=>bnd (some []) λ r=>some (s::r)) λ r=>some (s::r))=_;rw[h4];rfl
  have ev:c_0 (aC (eV 0) (aC (e2 b_5 (eV 1) (e2 i_7 (eFb 2 a_1 aN) (zI 9))) aN)) [.im (.str k),.im (.lst (q.map .str)),.ow true o]=some (.tup [.str k,.str y],[.im (.str k),.im (.lst (q.map .str)),.ow true J]):=by simp[e1,ey]
  rw[zd,H_6,fr,b_3];show bnd (some (true,_)) _=_;rw[b_3];show (if true=true then bnd (c_0 (aC (eV 0) (aC (e2 b_5 (eV 1) (e2 i_7 (eFb 2 a_1 aN) (zI 9))) aN)) [.im (.str k),.im (.lst (q.map .str)),.ow true o]) _ else _)=_;rw[if_pos rfl,ev,b_3];show bnd (some J) _=_;rw[b_3,Z,b_3];rfl
noncomputable abbrev wds:List Str:=[Str.ofString "time",Str.ofString "only",Str.ofString "but",Str.ofString "span",Str.ofString "rest",Str.ofString "turn",Str.ofString "later",Str.ofString "put"]
theorem ag4 {ns:List Int} (J:ns.length<=63) {o:MO} (ho:q_8 ns o) {q P:List Str} (hp:q.length=9) (nd:q.Nodup) (ac:∀ k∈q,k∈P) (aa Y:D) (wd:Str) (hw:wd∈wds) :
  ∃ (r:Rw) (o':MO),c_3 o [.str wd,aa,Y,.lst (q.map .str)]=some (dRw aa Y r,o')/\ROk P r/\q_8 ns o':=by
 have W:=an0;obtain⟨r1,o1,e1,_,_,h1⟩:=v_7 J ho;have O:∀ b:Bool,∃ (r:Rw) (o':MO),c_3 o [.str (wO b),aa,Y,.lst (q.map .str)]=some (dRw aa Y r,o')/\ROk P r/\q_8 ns o':=λ b=>by
  have f8:=d_9 r1 (m:=8) (by decide);obtain⟨l,Z,e2,hl,ln,lm,h2⟩:=x_0 J h1 nd (by omega) (m:=1+r1.fmod 8) (by omega) (by omega);have lz:l.length<=sizeLine:=a_6 (by omega);refine⟨.keys b l,Z,?_,au6 ⟨⟨ln,λ k hk=>ac k (lm k hk)⟩,λ z=>by rw[z] at hl;simp at hl;omega⟩,h2⟩;cases b with
  |true=>exact Rt.fn (B:=f_9) (k:=5) rfl (.noS rfl (by decide) (.yes (by kernel_rfl) ⟨_,by simp[W,aU8,e1,e2,lz,dRw,rwW,rwR,List.replicate];rfl⟩))
  |false=>exact Rt.fn (B:=f_9) (k:=5) rfl (.noS rfl (by decide) (.yes (by kernel_rfl) ⟨_,by simp[W,ar6,e1,e2,lz,dRw,rwW,rwR,List.replicate];rfl⟩))
 simp only[zj,zk,yp] at hw;rcases hw with rfl | rfl | rfl | rfl | rfl | rfl | rfl | rfl
 ·obtain⟨r2,Z,e2,_,_,h2⟩:=v_7 J h1;obtain⟨r3,o3,e3,_,_,h3⟩:=v_7 J h2;have f1:=d_9 r1 (m:=40) (by decide);have f2:=d_9 r2 (m:=40) (by decide);by_cases c:r3.fmod 3=1
  ·exact⟨.time (r1.fmod 40) none,o3,Rt.fn (B:=f_9) (k:=5) rfl (.yesS rfl rfl ⟨_,by simp[e1,e2,e3,c,dRw,rwW,rwR,List.replicate];rfl⟩),ao0 ⟨f1.1,λ x z=>by cases z⟩,h3⟩
  ·exact⟨.time (r1.fmod 40) (some (r1.fmod 40+1+r2.fmod 40)),o3,Rt.fn (B:=f_9) (k:=5) rfl (.yesS rfl rfl ⟨_,by simp[e1,e2,e3,c,dRw,rwW,rwR,List.replicate];rfl⟩),ao0 ⟨f1.1,λ x z=>by cases z;omega⟩,h3⟩
 ·exact O true
 ·exact O false
 ·obtain⟨lo,hi,Z,e2,b1,b2,b3,h2⟩:=H_7 J ho;exact⟨.span lo hi,Z,Rt.fn (B:=f_9) (k:=5) rfl (.noS rfl (by decide) (.no (by kernel_rfl) (.yesS rfl rfl ⟨_,by simp[W,e2,dRw,rwW,rwR,List.replicate];rfl⟩))),au4 ⟨b1,b2,b3⟩,h2⟩
 ·obtain⟨r2,Z,e2,_,_,h2⟩:=v_7 J h1;obtain⟨r3,o3,e3,_,_,h3⟩:=v_7 J h2;have f3:=d_9 r2 (m:=3) (by decide);obtain⟨x,ex,hx⟩:=M_7 4 4 999 f3.1 f3.2;have x0:0<x:=by omega
  have xz:¬ x=0:=by omega
  have fx:=d_9 r1 x0;have sz:¬ (2+r1.fmod x=0):=by omega
  have f4:=d_9 r3 (m:=2+r1.fmod x) (by omega);exact⟨.rest (2+r1.fmod x) (r3.fmod (2+r1.fmod x)),o3,Rt.fn (B:=f_9) (k:=5) rfl (.noS rfl (by decide) (.no (by kernel_rfl) (.noS rfl (by decide) (.yesS rfl rfl ⟨_,by simp[W,e1,e2,e3,ex,xz,sz,dRw,rwW,rwR,List.replicate];rfl⟩)))),aH5 ⟨by omega,by omega,f4.1,f4.2⟩,h3⟩
 ·obtain⟨r2,Z,e2,_,_,h2⟩:=v_7 J h1;obtain⟨r3,o3,e3,_,_,h3⟩:=v_7 J h2;obtain⟨r4,o4,e4,_,_,h4⟩:=v_7 J h3;have f3:=d_9 r2 (m:=3) (by decide);obtain⟨x,ex,hx⟩:=M_7 3 3 1000 f3.1 f3.2;have x0:0<x:=by omega
  have xz:¬ x=0:=by omega
  have fx:=d_9 r1 x0;have ad:=d_9 r4 (m:=31) (by decide);by_cases c:r3.fmod 2=1
  ·exact⟨.turn (0-(1+r1.fmod x)) (r4.fmod 31-15),o4,Rt.fn (B:=f_9) (k:=5) rfl (.noS rfl (by decide) (.no (by kernel_rfl) (.noS rfl (by decide) (.noS rfl (by decide) (.yesS rfl rfl ⟨_,by simp[W,e1,e2,e3,e4,ex,xz,c,dRw,rwW,rwR,List.replicate];rfl⟩))))),au3 ⟨by omega,by omega,by omega⟩,h4⟩
  ·exact⟨.turn (1+r1.fmod x) (r4.fmod 31-15),o4,Rt.fn (B:=f_9) (k:=5) rfl (.noS rfl (by decide) (.no (by kernel_rfl) (.noS rfl (by decide) (.noS rfl (by decide) (.yesS rfl rfl ⟨_,by simp[W,e1,e2,e3,e4,ex,xz,c,dRw,rwW,rwR,List.replicate];rfl⟩))))),au3 ⟨by omega,by omega,by omega⟩,h4⟩
 ·obtain⟨r2,Z,e2,_,_,h2⟩:=v_7 J h1;have f3:=d_9 r2 (m:=3) (by decide);obtain⟨x,ex,hx⟩:=M_7 20 20 1000000 f3.1 f3.2;have x0:0<x:=by omega
  have xz:¬ x=0:=by omega
  have fx:=d_9 r1 x0;exact⟨.later (r1.fmod x),Z,Rt.fn (B:=f_9) (k:=5) rfl (.noS rfl (by decide) (.no (by kernel_rfl) (.noS rfl (by decide) (.noS rfl (by decide) (.noS rfl (by decide) (.yesS rfl rfl ⟨_,by simp[W,e1,e2,ex,xz,dRw,rwW,rwR,List.replicate];rfl⟩)))))),au5 fx.1,h2⟩
 ·have f4:=d_9 r1 (m:=4) (by decide);obtain⟨l,Z,e2,hl,ld,lm,h2⟩:=x_0 J h1 nd (by omega) (m:=1+r1.fmod 4) (by omega) (by omega);obtain⟨tb,o3,e3,hf,h3⟩:=aP9 J hp (ρ:=[.ow true Z,.im (.str "put"),.im aa,.im Y,.im (.lst (q.map .str)),.im (.lst (l.map .str)),.no,.no,.no,.no]) rfl l Z h2;have lt:tb.length=l.length:=by rw[<- hf];unfold fst;rw[qy]
  have lz:l.length<=sizeLine:=a_6 (by omega);have tz:tb.length<=sizeLine:=a_6 (by omega);refine⟨.put tb,o3,?_,bF6 ⟨by rw[hf];exact⟨ld,λ k hk=>ac k (lm k hk)⟩,by omega⟩,h3⟩;exact Rt.fn (B:=f_9) (k:=5) rfl (.noS rfl (by decide) (.no (by kernel_rfl) (.noS rfl (by decide) (.noS rfl (by decide) (.noS rfl (by decide) (.noS rfl (by decide) ⟨_,by simp[W,e1,e2,e3,lz,tz,dRw,rwW,rwR,dT,List.replicate];rfl⟩))))))
theorem aT6 {xs:List D}{k:Nat}{d:D} (h:xs[k]?=some d):atD xs (k:Int)=some d:=by
 have q:k<xs.length:=(List.getElem?_eq_some_iff.mp h).1;unfold atD dPl;have:(0:Int)<=(k:Int):=by omega
 simp[q];exact (List.getElem?_eq_some_iff.mp h).2
theorem aT5 {nm:List Str}{k:Nat}{s:Str} (h:nm[k]?=some s):atD (nm.map D.str) (k:Int)=some (.str s):=aT6 (by rw[zl,h];rfl)
abbrev pE (o:MO) (nm:List Str) (one:Str) (J:List Str) (form many cut:Int) (q:List Row) (s8 s9 Y O Z:Sl):En:=[.ow true o,.im (.lst (nm.map .str)),.im (.str one),.im (.lst (J.map .str)),.im (.int form),.im (.int many),.im (.int cut),.ow false (.lst (q.map b_1)),s8,s9,Y,O,Z]
theorem aw4 {P nm J:List Str}{one:Str} (o:MO) {form many cut:Int}{k:Nat}{nk pk:Str} (hn:nm[k]?=some nk) (hp:J[k]?=some pk) (pn:J.Nodup) (sub:∀ k∈J,k∈P) (h1:(k:Int)<many) (h2:2<=many) (h3:many<=4) (f0:0<=form) (f1:form<=3) (c0:-10<=cut) (c1:cut<=20) (q:List Row) (hq:q.length<=10) (w:Nat) (s9 af aa O:Sl) :
  ∃ (r:Rw) (al ai aj ah:Sl),ROk P r/\b_8 (pE o nm one J form many cut q (.im (.int (k:Int))) s9 af aa O)=some (.nx (pE o nm one J form many cut (q++[⟨nk,.one one r,w⟩]) (.im (.int (k:Int))) al ai aj ah)):=by
 have an:=aT5 hn;have ap:=aT5 hp;have m1:j_7 4 (k:Int)=true:=r_6 (by omega);have m2:j_7 ((cut.natAbs:Int)+1) (k:Int)=true:=r_6 (by omega);have m3:j_7 ((cut.natAbs:Int)+1) ((k:Int)+1)=true:=r_6 (by omega);have tl:q.length<1000000:=by omega
 have ak:pk∈P:=sub pk (zx hp);have pt:(J.take k).length<=sizeLine:=by rw[jq];exact a_6 (by omega)
 have ct:R_4 (J.map D.str) none (some (k:Int))=(J.take k).map .str:=by rw[bL2,Z1]
 have pl:(J.take k).length<=1000:=by rw[jq];omega
 have i2:∀ (a b:D),atD [a,b] 0=some a/\atD [a,b] 1=some b:=λ a b=>⟨rfl,rfl⟩
 obtain⟨lo,ac⟩:∃ x:Option Int,x=if 0<k then some (cut+4*(k:Int)+1) else none:=⟨_,rfl⟩;obtain⟨hi,ad⟩:∃ x:Option Int,x=if (k:Int)+1<many then some (cut+4*(k:Int)+4) else none:=⟨_,rfl⟩;obtain⟨Z,ae⟩:∃ x:Int,x=if 0<k then ((cut.natAbs:Int)+1)*(k:Int) else 0:=⟨_,rfl⟩;obtain⟨en,ag⟩:∃ x:Option Int,x=if (k:Int)+1<many then some (((cut.natAbs:Int)+1)*((k:Int)+1)) else none:=⟨_,rfl⟩
 have Y:b_8 (pE o nm one J form many cut q (.im (.int (k:Int))) s9 af aa O)=_:=(D_4 (ρ':=pE o nm one J form many cut q (.im (.int (k:Int))) (.im (dO lo)) af aa O) (by
   rcases Nat.eq_zero_or_pos k with rfl | kp
   ·simp[ac,i2,show j_7 4 0=true from m1]
   ·simp[ac,i2,m1,kp])).trans ((D_4 (ρ':=pE o nm one J form many cut q (.im (.int (k:Int))) (.im (dO lo)) (.im (dO hi)) aa O) (by by_cases b:(k:Int)+1<many <;> simp[ad,i2,m1,b])).trans
  ((D_4 (ρ':=pE o nm one J form many cut q (.im (.int (k:Int))) (.im (dO lo)) (.im (dO hi)) (.im (.int Z)) O) (by
   rcases Nat.eq_zero_or_pos k with rfl | kp
   ·simp[ae,i2,show j_7 ((cut.natAbs:Int)+1) 0=true from m2]
   ·simp[ae,i2,m2,kp])).trans (D_4 (ρ':=pE o nm one J form many cut q (.im (.int (k:Int))) (.im (dO lo)) (.im (dO hi)) (.im (.int Z)) (.im (dO en))) (by by_cases b:(k:Int)+1<many <;> simp[ag,i2,m3,b]))))
 rcases (show form=0\/form=1\/form=2\/form=3 by omega) with rfl | rfl | rfl | rfl
 ·have f:=d_9 (cut.natAbs:Int) (m:=4) (by decide);exact⟨.rest (many+(cut.natAbs:Int).fmod 4) (k:Int),.im (dO lo),.im (dO hi),.im (.int Z),.im (dO en),aH5 ⟨by omega,by omega,by omega,by omega⟩,Y.trans (by simp[an,tl,b_1,dRw,rwW,rwR])⟩
 ·by_cases b:(k:Int)+1<many
  ·exact⟨.keys true [pk],.im (dO lo),.im (dO hi),.im (.int Z),.im (dO en),au6 ⟨⟨by simp,λ x hx=>by cases qw hx;exact ak⟩,by simp⟩,Y.trans (by simp[b,an,ap,tl,b_1,dRw,rwW,rwR,aU8])⟩
  ·have ne:J.take k≠[]:=λ z=>by
    have hl:=(List.getElem?_eq_some_iff.mp hp).1;have:=Qk List.length z;rw[jq,yy] at this;omega
   exact⟨.keys false (J.take k),.im (dO lo),.im (dO hi),.im (.int Z),.im (dO en),au6 ⟨⟨pn.sublist (Zy ..),λ x hx=>sub x (Qs hx)⟩,ne⟩,Y.trans (by simp[b,an,ct,pt,tl,b_1,dRw,rwW,rwR,ar6,-List.map_take])⟩
 ·refine⟨.span lo hi,.im (dO lo),.im (dO hi),.im (.int Z),.im (dO en),au4 ⟨λ l e=>?_,λ l e=>?_,λ x y e1 e2=>?_⟩,Y.trans (by simp[an,tl,b_1,dRw,rwW,rwR])⟩
  ·rw[ac] at e;split at e <;> cases e;rw[show (2:Nat) ^ 40=1099511627776 from rfl];omega
  ·rw[ad] at e;split at e <;> cases e;rw[show (2:Nat) ^ 40=1099511627776 from rfl];omega
  ·rw[ac] at e1;rw[ad] at e2;split at e1 <;> cases e1;split at e2 <;> cases e2;omega
 ·have p0:0<=((cut.natAbs:Int)+1)*(k:Int):=Int.mul_nonneg (by omega) (by omega);have p1:((cut.natAbs:Int)+1)*((k:Int)+1)=((cut.natAbs:Int)+1)*(k:Int)+((cut.natAbs:Int)+1):=by rw[Int.mul_add,Zn]
  have b0:0<=Z/\Z<=((cut.natAbs:Int)+1)*(k:Int):=by rw[ae];split <;> omega
  refine⟨.time Z en,.im (dO lo),.im (dO hi),.im (.int Z),.im (dO en),ao0 ⟨b0.1,λ x e=>?_⟩,Y.trans (by simp[an,tl,b_1,dRw,rwW,rwR])⟩;rw[ag] at e;split at e <;> cases e;omega
structure Pts (P nm:List Str) (one:Str) (w:Nat) (q:List Row):Prop where
 n:q.map (·.n)=nm.take q.length
 r:∀ x∈q,∃ r,x=⟨x.n,.one one r,w⟩/\ROk P r
theorem aw5 {P nm J:List Str}{one:Str} (o:MO) {form many cut:Int} (hn:nm.length=7) (hp:J.length=9) (pn:J.Nodup) (sub:∀ k∈J,k∈P) (h2:2<=many) (h3:many<=4) (f0:0<=form) (f1:form<=3) (c0:-10<=cut) (c1:cut<=20) (w:Nat) :
  ∀ (m k:Nat) (q:List Row) (s8 s9 Z O Y:Sl),(k:Int)+m=many->q.length=k->Pts P nm one w q ->
  ∃ (q':List Row) (t8 t9 aa ad ac:Sl),fGo (gN 8) b_8 (C_9 (k:Int) m) (pE o nm one J form many cut q s8 s9 Z O Y)=some (.nx (pE o nm one J form many cut q' t8 t9 aa ad ac))/\(q'.length:Int)=many/\Pts P nm one w q'
 |0,k,q,s8,s9,Z,O,Y,hk,hq,hP=>⟨q,s8,s9,Z,O,Y,rfl,by omega,hP⟩
 |m+1,k,q,s8,s9,Z,O,Y,hk,hq,hP=>by
  obtain⟨nk,en⟩:∃ x,nm[k]?=some x:=⟨_,yd (by omega)⟩;obtain⟨pk,ep⟩:∃ x,J[k]?=some x:=⟨_,yd (by omega)⟩;obtain⟨r,u9,af,ah,ae,ok,e⟩:=aw4 (one:=one) o en ep pn sub (by omega) h2 h3 f0 f1 c0 c1 q (by omega) w s9 Z O Y;have ag:Pts P nm one w (q++[⟨nk,.one one r,w⟩]):=by
   refine⟨?_,λ x hx=>?_⟩
   ·rw[zu,hP.n,zc,yn,hq,List.take_add_one,en];rfl
   ·rcases qx hx with z | z
    ·exact hP.r x z
    ·cases qw z;exact⟨r,rfl,ok⟩
  obtain⟨q',t8,t9,aa,ad,ac,e',l',P'⟩:=aw5 o hn hp pn sub h2 h3 f0 f1 c0 c1 w m (k+1) (q++[⟨nk,.one one r,w⟩]) (.im (.int (k:Int))) u9 af ah ae (by omega) (by rw[zc,hq];rfl) ag;refine⟨q',t8,t9,aa,ad,ac,?_,l',P'⟩;show fGo _ _ (D.int (k:Int)::C_9 ((k:Int)+1) m) _=_;rw[Q_6];show fGa _ _ _ (some (pE o nm one J form many cut q (.im (.int (k:Int))) s9 Z O Y))=_;rw[Q_7,e,X_7];exact e'
theorem aw3 {ns:List Int} (O:ns.length<=63) {o:MO} (ho:q_8 ns o) {P nm J:List Str} (one:Str) (hn:nm.length=7) (hp:J.length=9) (pn:J.Nodup) (sub:∀ k∈J,k∈P) (w:Nat) :
  ∃ (q:List Row) (o':MO),k_5 o [.lst (nm.map .str),.str one,.lst (J.map .str)]=some (q.map b_1,o')/\2<=q.length/\q.length<=4/\Pts P nm one w q/\q_8 ns o':=by
 obtain⟨r1,o1,e1,_,h1⟩:=e_5 O ho;obtain⟨Y,o2,e2,_,h2⟩:=e_5 O h1;obtain⟨r3,Z,e3,_,h3⟩:=e_5 O h2;have f1:=d_9 r1 (m:=4) (by decide);have f2:=d_9 Y (m:=3) (by decide);have f3:=d_9 r3 (m:=31) (by decide);obtain⟨q,t8,t9,aa,ad,ac,e,l,hP⟩:=aw5 (one:=one) (form:=r1.fmod 4) (many:=2+Y.fmod 3) (cut:=r3.fmod 31-10) Z hn hp pn sub (by omega) (by omega) f1.1 (by omega) (by omega) (by omega) w (2+Y.fmod 3).toNat 0 [] .no .no .no .no .no (by omega) rfl ⟨rfl,λ x hx=>by cases hx⟩;have q1:-4611686018427387904<=2+Y.fmod 3:=by omega
 have q2:2+Y.fmod 3<4611686018427387904:=by omega
 have e:fGo (gN 8) b_8 (C_9 0 (2+Y.fmod 3).toNat) [.ow true Z,.im (.lst (nm.map .str)),.im (.str one),.im (.lst (J.map .str)),.im (.int (r1.fmod 4)),.im (.int (2+Y.fmod 3)),.im (.int (r3.fmod 31-10)),.ow false (.lst []),.no,.no,.no,.no,.no]=_:=e;refine⟨q,Z,?_,by omega,by omega,hP,h3⟩;simp[k_5,bs8,C_4,List.replicate,e1,e2,e3,q1,q2,e,pE,aN7,b_3]
theorem ac5 {α:Type}{l m:List α}{x:α}{i:Nat} (h:x∈l) (hi:l.length<=i):x∈(l++m).take i:=by rw[Jc];exact qp _ (by rw[Qg hi];exact h)
theorem WOk.app {P:List Str}{q ex:List Row} (h:WOk P q) (J:(ex.map (·.n)).Nodup) (Z:∀ n∈ex.map (·.n),n∉q.map (·.n)) (ok:∀ i x,ex[i]?=some x->RowOk P (q++ex.take i) x):WOk P (q++ex):=by
 refine⟨?_,λ i x hx=>?_⟩
 ·rw[zu,jb];exact⟨h.nd,J,λ a O b Y e=>Z b Y (e▸O)⟩
 ·by_cases c:i<q.length
  ·rw[zq c] at hx;rw[List.take_append_of_le_length (Zb c)];exact h.ok i x hx
  ·rw[yi (by omega)] at hx;have:=ok _ x hx;rw[Jc,Qg (by omega)];exact this
theorem s_7 {P:List Str}{up:List Row}{n f:Str}{r:Rw}{w:Nat} (ok:ROk P r) (h:∃ y∈up,y.n=f/\y.w<=w/\isC y.b=true):RowOk P up ⟨n,.one f r,w⟩:=⟨λ _ _ e=>(by cases e),λ g s e=>by cases e;exact⟨ok,h⟩,λ _ e=>(by cases e),λ _ _ _ e=>(by cases e)⟩
theorem E_0 {P:List Str}{up:List Row}{n:Str}{fs:List Str}{w v:Nat} (h:∀ f∈fs,∃ y∈up,y.n=f/\y.w<=v/\isC y.b=true) (q:fs.length*v<=w):RowOk P up ⟨n,.pour fs,w⟩:=⟨λ _ _ e=>(by cases e),λ _ _ e=>(by cases e),λ J e=>by cases e;exact⟨v,h,q⟩,λ _ _ _ e=>(by cases e)⟩
theorem P_4:∀ q:List Row,cGo tYes (e2 b_5 (eV 0) (zI 1)) [] (q.map b_1)=some ((q.map (·.n)).map .str)
 |[]=>rfl
 |x::q=>by
  have J:=P_4 q;have st:e2 b_5 (eV 0) (zI 1) [.im (b_1 x)]=some (.str x.n,[.im (b_1 x)]):=by simp[bh5]
  rw[zd,aE0];show cGa _ _ _ _ (some (true,_))=_;rw[aE2,st,aE1,J,Y_4];rfl
theorem bb9 {xs:List D}{k:Nat}{d:D} (h:xs[k]?=some d):ixQ xs (k:Int)=some d:=by unfold ixQ;rw[if_pos (by omega)];exact h
structure Ext (P:List Str) (rs:List Row) (nm:List Str) (w:Nat) (ex:List Row):Prop where
 nd:(ex.map (·.n)).Nodup
 sub:∀ n∈ex.map (·.n),n∈nm
 len:ex.length<=6
 w1:∀ x∈ex,w<=x.w/\x.w<=5*w
 c:∀ x∈ex,isC x.b=true
 ok:∀ i x,ex[i]?=some x->RowOk P (rs++ex.take i) x
theorem av3 {ns:List Int} (aa:ns.length<=63) {o:MO} (ho:q_8 ns o) {P O:List Str} (hp:O.length=9) (pn:O.Nodup) (sub:∀ k∈O,k∈P) {rs:List Row}{w:Nat} (hw:∀ x∈rs,x.w<=w) (ah:∀ x∈rs,isC x.b=true) (rl:rs.length<=20)
  {n0 n1 n2 n3 n4 J Y:Str} (nd:[n0,n1,n2,n3,n4,J,Y].Nodup) {one:Str} (h1:one∈rs.map (·.n)) :
  ∃ (ex:List Row) (o':MO),f_1 o [.lst ([n0,n1,n2,n3,n4,J,Y].map .str),.str one,.lst ((rs.map (·.n)).map .str),.lst (O.map .str)]=some (.lst (ex.map b_1),o')/\Ext P rs [n0,n1,n2,n3,n4,J,Y] w ex/\q_8 ns o':=by
 obtain⟨q,o1,e1,l1,l2,hq,g1⟩:=aw3 aa ho one (nm:=[n0,n1,n2,n3,n4,J,Y]) rfl hp pn sub w;obtain⟨r2,o2,al,_,g2⟩:=e_5 aa g1;obtain⟨r3,o3,e3,_,g3⟩:=e_5 aa g2;have ql:(q.map (·.n)).length=q.length:=qy ..;have fa:=d_9 r2 (m:=(q.length:Int)) (by omega);obtain⟨k,hk⟩:∃ k:Nat,r2.fmod (q.length:Int)=(k:Int):=⟨(r2.fmod q.length).toNat,by omega⟩;rw[hk] at fa;have kl:k<q.length:=by omega
 obtain⟨f,ef⟩:∃ x,(q.map (·.n))[k]?=some x:=⟨_,yd (by omega)⟩;have f3:=d_9 r3 (m:=3) (by decide);obtain⟨wd,ew,ao⟩:∃ wd,atD [D.str "turn",.str "later",.str "put"] (r3.fmod 3)=some (.str wd) ∧ wd∈wds:=by
  rcases (show r3.fmod 3=0\/r3.fmod 3=1\/r3.fmod 3=2 by omega) with z | z | z <;> rw[z]
  ·exact⟨_,rfl,by simp⟩
  ·exact⟨_,rfl,by simp⟩
  ·exact⟨_,rfl,by simp⟩
 obtain⟨rv,o4,e4,aj,g4⟩:=ag4 aa g3 hp pn sub (.str J) (.tup [.str f]) wd ao;obtain⟨r5,o5,e5,_,g5⟩:=e_5 aa g4;obtain⟨r6,o6,e6,_,g6⟩:=e_5 aa g5;have rp:0<rs.length:=by
  cases rs with
  |nil=>cases h1
  |cons=>exact Za _
 have fo:=d_9 r5 (m:=(rs.length:Int)) (by omega);obtain⟨ot,ap,eo⟩:=I_1 D.str (rs.map (·.n)) fo.1 (by rw[qy];exact fo.2)
 let Z:List Str:=(q.map (·.n)).set k J
 have ae:∀ fs:List Str,(fs=Z\/fs=Z++[ot])->f_1 o [.lst ([n0,n1,n2,n3,n4,J,Y].map .str),.str one,.lst ((rs.map (·.n)).map .str),.lst (O.map .str)]=some (.lst ((q++[(⟨J,.one f rv,w⟩:Row),⟨Y,.pour fs,5*w⟩]).map b_1),o6) ->
   ∃ (ex:List Row) (o':MO),f_1 o [.lst ([n0,n1,n2,n3,n4,J,Y].map .str),.str one,.lst ((rs.map (·.n)).map .str),.lst (O.map .str)]=some (.lst (ex.map b_1),o')/\Ext P rs [n0,n1,n2,n3,n4,J,Y] w ex/\q_8 ns o':=λ fs ac e=>by
  have qn:∀ x∈q.map (·.n),x∈[n0,n1,n2,n3]:=λ x hx=>by
   rw[hq.n] at hx;have:x∈[n0,n1,n2,n3,n4,J,Y].take 4:=by rw[show [n0,n1,n2,n3,n4,J,Y].take q.length=([n0,n1,n2,n3,n4,J,Y].take 4).take q.length by rw[List.take_take,Nat.min_eq_left l2]] at hx;exact Qs hx
   exact this
  have d5:J∉[n0,n1,n2,n3]/\Y∉[n0,n1,n2,n3]/\J≠Y:=by simp only[List.nodup_cons,zj,zk,yp,not_or] at nd ⊢;obtain⟨⟨_,_,_,_,a5,a6⟩,⟨_,_,_,b5,b6⟩,⟨_,_,c5,c6⟩,⟨_,d5,d6⟩,_,e6,_⟩:=nd;exact⟨⟨zv a5,zv b5,zv c5,zv d5⟩,⟨zv a6,zv b6,zv c6,zv d6⟩,e6⟩
  have ag:Z.length=q.length:=by show ((q.map (·.n)).set k J).length=_;rw[zy,ql]
  refine⟨_,o6,e,⟨?_,?_,by rw[zc];simp;omega,?_,?_,?_⟩,g6⟩
  ·rw[zu,jb];refine⟨by rw[hq.n];exact nd.sublist (Zy ..),by simp[d5.2.2],λ a ha b hb z=>?_⟩;subst z;have:=qn a ha;simp only[zd,zz,zj,zk,yp] at hb;rcases hb with rfl | rfl
   ·exact d5.1 this
   ·exact d5.2.1 this
  ·intro n hn;rw[zu] at hn;rcases qx hn with z | z
   ·have:=qn n z;simp only[zj,zk,yp] at this ⊢;rcases this with h | h | h | h <;> simp[h]
   ·simp only[zd,zz,zj,zk,yp] at z;rcases z with rfl | rfl <;> simp
  ·intro x hx;rcases qx hx with z | z
   ·obtain⟨r,ex,_⟩:=hq.r x z;rw[ex];exact⟨qj _,by show w<=5*w;omega⟩
   ·simp only[zj,zk,yp] at z;rcases z with rfl | rfl
    ·exact⟨qj _,by show w<=5*w;omega⟩
    ·exact⟨by show w<=5*w;omega,qj _⟩
  ·intro x hx;rcases qx hx with z | z
   ·obtain⟨r,ex,_⟩:=hq.r x z;rw[ex];rfl
   ·simp only[zj,zk,yp] at z;rcases z with rfl | rfl <;> rfl
  ·obtain⟨y1,ad,ar⟩:=List.mem_map.mp h1;have af:∀ g∈q.map (·.n),∃ y∈q,y.n=g/\y.w<=w/\isC y.b=true:=λ g hg=>by
    obtain⟨y,hy,rfl⟩:=List.mem_map.mp hg;obtain⟨r,ey,_⟩:=hq.r y hy;exact⟨y,hy,rfl,by rw[ey];exact qj _,by rw[ey];rfl⟩
   intro i x hx;by_cases c:i<q.length
   ·rw[zq c] at hx;obtain⟨r,ex,ok⟩:=hq.r x (zx hx);rw[ex];exact s_7 ok ⟨y1,qp _ ad,ar,hw y1 ad,ah y1 ad⟩
   ·rw[yi (by omega)] at hx;obtain⟨j,ej⟩:∃ j,i-q.length=j:=⟨_,rfl⟩;rw[ej] at hx;have tk:∀ y∈q,y∈rs++(q++[(⟨J,.one f rv,w⟩:Row),⟨Y,.pour fs,5*w⟩]).take i:=λ y hy=>qo _ (ac5 hy (by omega))
    match j,hx with
    |0,hx =>
     cases hx;obtain⟨y,hy,a,b,cc⟩:=af f (zx ef);exact s_7 aj ⟨y,tk y hy,a,b,cc⟩
    |1,hx =>
     cases hx;refine E_0 (v:=w) (λ g hg=>?_) ?_
     ·have an:g∈Z\/g=ot:=by
       rcases ac with z | z
       ·rw[z] at hg;exact .inl hg
       ·rw[z] at hg;rcases qx hg with z | z
        ·exact .inl z
        ·exact .inr (qw z)
      rcases an with z | rfl
      ·rcases List.mem_or_eq_of_mem_set z with z | rfl
       ·obtain⟨y,hy,a,b,cc⟩:=af g z;exact⟨y,tk y hy,a,b,cc⟩
       ·refine⟨⟨g,.one f rv,w⟩,qo _ ?_,rfl,qj _,rfl⟩;have ei:i=q.length+1:=by omega
        rw[ei,Jc,Qg (by omega)];refine qo _ ?_;rw[show q.length+1-q.length=1 by omega];simp
      ·obtain⟨y,hy,rfl⟩:=List.mem_map.mp ap;exact⟨y,qp _ hy,rfl,hw y hy,ah y hy⟩
     ·have:fs.length<=5:=by
       rcases ac with z | z <;> rw[z]
       ·omega
       ·rw[zc,ag];simp;omega
      exact Ys _ this
    |j+2,hx=>cases hx
 have ng:=P_4 q;have qs:q.length<=sizeLine:=a_6 (by omega);have xk:=bb9 (xs:=(q.map (·.n)).map D.str) (k:=k) (d:=.str f) (by rw[zl,ef];rfl);have i5:atD [D.str n0,.str n1,.str n2,.str n3,.str n4,.str J,.str Y] 5=some (.str J):=rfl;have i6:atD [D.str n0,.str n1,.str n2,.str n3,.str n4,.str J,.str Y] 6=some (.str Y):=rfl;have t1:q.length<1000000:=by omega
 have rz:¬ (rs.length:Int)=0:=by omega
 have aq:¬ rs.length=0:=by omega
 have qz:¬ (q.length:Int)=0:=by omega
 have ai:¬ q.length=0:=by omega
 have st:((q.map (·.n)).map D.str).set k (.str J)=Z.map D.str:=by show _=((q.map (·.n)).set k J).map D.str;rw[Y8]
 have ag:Z.length=q.length:=by show ((q.map (·.n)).set k J).length=_;rw[zy,ql]
 simp only[zd,zz] at e1;have en:∀ fs:List Str,b_1 (⟨Y,.pour fs,5*w⟩:Row)=.tup [.str "pour",.str Y,.tup (fs.map .str),.tup []]:=λ _=>rfl;have am:b_1 (⟨J,.one f rv,w⟩:Row)=dRw (.str J) (.tup [.str f]) rv:=rfl;have fz:Z.length<=sizeLine:=a_6 (by omega);have as:Z.length+1<=sizeLine:=a_6 (by omega);have t2:Z.length<1000000:=by omega
 have ls:q.length+1+1<=sizeLine:=a_6 (by omega)
 let R:MO->Sl->Sl->Sl->Sl->Sl->En:=λ o a b c d e=>[.ow true o,.im (.lst ([n0,n1,n2,n3,n4,J,Y].map .str)),.im (.str one),.im (.lst ((rs.map (·.n)).map .str)),.im (.lst (O.map .str)),a,b,c,d,e]
 let A:Sl:=.ow false (.lst (q.map b_1))
 let A':Sl:=.ow false (.lst (q.map b_1++[dRw (.str J) (.tup [.str f]) rv]))
 let B:List Str->Sl:=λ x=>.ow false (.lst (x.map .str))
 let K:Sl:=.im (.int (k:Int))
 let W:Sl:=.im (.str wd)
 obtain⟨fs,ac,ak⟩:∃ fs:List Str,(fs=Z\/fs=Z++[ot])/\sIf (tAnd (tB (e2 dEq (e2 i_7 (eFb 0 a_1 aN) (zI 2)) (zI 1))) (tB (e2 dNe (eV 9) (eV 2)))) (an7 6 (eV 9)) sN (R o5 A' (B Z) K W (.im (.str ot)))=some (.nx (R o6 A' (B fs) K W (.im (.str ot)))):=by
  by_cases c:r6.fmod 2=1
  ·by_cases c':ot=one
   ·exact⟨Z,.inl rfl,by simp[R,B,e6,c,c']⟩
   ·exact⟨Z++[ot],.inr rfl,by simp[R,B,e6,c,c',t2]⟩
  ·exact⟨Z,.inl rfl,by simp[R,B,e6,c]⟩
 have fl:fs.length<=Z.length+1:=by rcases ac with rfl | rfl <;> simp
 have fz:fs.length<=sizeLine:=a_6 (by omega);exact ae fs ac (Rt.fn (B:=q_0) (k:=5) rfl (.seq (ρ':=R o1 A .no .no .no .no) (by simp[-List.map_map,b_3,R,A,List.replicate,e1]) (.seq (ρ':=R o1 A (B (q.map (·.n))) .no .no .no) (by simp[-List.map_map,b_3,R,A,B,ng,qs]) (.seq (ρ':=R o2 A (B (q.map (·.n))) K .no .no) (by simp[-List.map_map,b_3,R,A,B,K,al,hk,qz,ai])
  (.seq (ρ':=R o3 A (B (q.map (·.n))) K W .no) (by simp[-List.map_map,b_3,R,A,B,K,W,e3,ew]) (.seq (ρ':=R o4 A' (B (q.map (·.n))) K W .no) (by simp[-List.map_map,b_3,R,A,A',B,K,W,i5,xk,e4,t1]) (.seq (ρ':=R o4 A' (B Z) K W .no) (by simp[-List.map_map,b_3,R,A',B,K,W,i5,kl,st])
  (.seq (ρ':=R o5 A' (B Z) K W (.im (.str ot))) (by simp[-List.map_map,b_3,R,A',B,K,W,e5,rz,aq,eo]) (.seq ak ⟨_,by simp[-List.map_map,b_3,R,A',B,K,W,i6,ls,fz,en,am];rfl⟩)))))))))
noncomputable def sg (c:String) (k:Nat):Str:=Str.ofString c++(if k=0 then Str.ofString "k" else Str.ofString "l")
abbrev nmK (k:Nat):List Str:=[sg "c" k,sg "d" k,sg "e" k,sg "f" k,sg "g" k,sg "h" k,sg "i" k]
abbrev nm01:List Str:=nmK 0++nmK 1
noncomputable abbrev ab:List Str:=[Str.ofString "a",Str.ofString "b"]
theorem bH2 (k:Nat) (h:k<2):cGo tYes (e2 i_1 (eV 0) (e2 b_5 (zR "klmnopq") (eV 1))) [.im (.int (k:Int))] (chs (Str.ofString "cdefghi"))=some ((nmK k).map .str):=by rcases (show k=0\/k=1 by omega) with rfl | rfl <;> rfl
structure Wn (P:List Str) (k:Nat) (rs:List Row):Prop where
 ok:WOk P rs
 w:∀ x∈rs,1<=x.w/\x.w<=5 ^ k
 nm:∀ n∈rs.map (·.n),n∈ab++(nm01.take (7*k))
 len:rs.length<=2+6*k
 c:∀ x∈rs,isC x.b=true
 z:∃ x lo hi,rs[0]?=some x/\x.b=.inn lo hi/\x.w=1
theorem bs3 {k:Nat} (h:k<2):∀ n∈nmK k,n∉ab++nm01.take (7*k):=by rcases (show k=0\/k=1 by omega) with rfl | rfl <;> decide +kernel
theorem bc4 {k:Nat} (h:k<2):(∀ n∈nmK k,n∈ab++nm01.take (7*(k+1)))/\∀ n∈ab++nm01.take (7*k),n∈ab++nm01.take (7*(k+1)):=by rcases (show k=0\/k=1 by omega) with rfl | rfl <;> decide +kernel
theorem bp5 {k:Nat} (h:k<2):(nmK k).Nodup:=by rcases (show k=0\/k=1 by omega) with rfl | rfl <;> decide +kernel
theorem Wn.app {P:List Str}{k:Nat}{J ex:List Row} (h:Wn P k J) (O:k<2) (e:Ext P J (nmK k) (5 ^ k) ex):Wn P (k+1) (J++ex):=by
 have f:=bs3 O;obtain⟨i1,i2⟩:=bc4 O;refine⟨h.ok.app e.nd (λ n q Y=>f n (e.sub n q) (h.nm n Y)) e.ok,λ x hx=>?_,λ n q=>?_,by rw[zc];have:=h.len;have:=e.len;omega,λ x hx=>?_,?_⟩
 ·rcases qx hx with z | z
  ·have:=h.w x z;exact⟨this.1,zf this.2 (Yr (by decide) (by omega))⟩
  ·have:=e.w1 x z;have p:1<=5 ^ k:=Nat.one_le_pow _ _ (by decide);exact⟨by omega,by rw[Yc];omega⟩
 ·rw[zu] at q;rcases qx q with z | z
  ·exact i2 n (h.nm n z)
  ·exact i1 n (e.sub n z)
 ·rcases qx hx with z | z
  ·exact h.c x z
  ·exact e.c x z
 ·obtain⟨x,lo,hi,a,b,c⟩:=h.z;exact⟨x,lo,hi,by rw[zq (List.getElem?_eq_some_iff.mp a).1];exact a,b,c⟩
theorem aB2 {P nm:List Str}{O:List Row}{w:Nat}{x:Row} (Y:x.n∈nm) (Z:w<=x.w/\x.w<=5*w) (hc:isC x.b=true) (ok:RowOk P O x):Ext P O nm w [x]:=by
 refine⟨by simp,λ n J=>?_,by show 1<=6;decide,λ y q=>?_,λ y q=>?_,λ i y q=>?_⟩
 ·cases qw J;exact Y
 ·cases qw q;exact Z
 ·cases qw q;exact hc
 ·cases i with
  |zero=>cases q;rw[List.take_zero,zm];exact ok
  |succ i=>cases q
theorem aq1 {ns:List Int} (O:ns.length<=63) {o:MO} (ho:q_8 ns o) {P J:List Str} (hp:J.length=9) (pn:J.Nodup) (sub:∀ k∈J,k∈P) {k:Nat} (hk:k<2) {q:List Row} (h:Wn P k q) (s4 s5 s6 s7 s8 s9:Sl) :
  ∃ (ex:List Row) (o':MO) (t4 t5 t6 t7 t8 t9:Sl),f_2 [.ow true o,.im (.lst (J.map .str)),.ow false (.lst (q.map b_1)),.im (.int (k:Int)),s4,s5,s6,s7,s8,s9]=some (.nx [.ow true o',.im (.lst (J.map .str)),.ow false (.lst ((q++ex).map b_1)),.im (.int (k:Int)),t4,t5,t6,t7,t8,t9])/\Ext P q (nmK k) (5 ^ k) ex/\q_8 ns o':=by
 have ng:=P_4 q;have nk:=bH2 k hk;have rl:q.length<=14:=by have:=h.len;omega
 have Y:q.length<=sizeLine:=a_6 (by omega);have rp:0<q.length:=by obtain⟨x,_,_,a,_⟩:=h.z;exact Qd (yf _) (List.getElem?_eq_some_iff.mp a).1
 have rz:¬ (q.length:Int)=0:=by omega
 have aa:¬ q.length=0:=by omega
 have cz:(chs (Str.ofString "cdefghi")).length ≤ sizeLine:=a_6 (by decide +kernel);obtain⟨r1,o1,e1,_,g1⟩:=e_5 O ho;obtain⟨r2,o2,Z,_,g2⟩:=e_5 O g1;have fo:=d_9 r1 (m:=(q.length:Int)) (by omega);obtain⟨one,ac,eo⟩:=I_1 D.str (q.map (·.n)) fo.1 (by rw[qy];exact fo.2);have hw:∀ x∈q,x.w<=5 ^ k:=λ x hx=>(h.w x hx).2;have w0:5 ^ k<=5*5 ^ k:=by have:1<=5 ^ k:=Nat.one_le_pow _ _ (by decide);omega
 obtain⟨y1,ad,ai⟩:=List.mem_map.mp ac;have n0:∀ a b c d e f g:D,atD [a,b,c,d,e,f,g] 0=some a:=λ _ _ _ _ _ _ _=>rfl;have ag:(q.map (·.n)).Nodup:=h.ok.nd;have ae:(nmK k).map D.str=[.str (sg "c" k),.str (sg "d" k),.str (sg "e" k),.str (sg "f" k),.str (sg "g" k),.str (sg "h" k),.str (sg "i" k)]:=rfl;rw[ae] at nk;by_cases c0:r2.fmod 5=0
 ·obtain⟨ex,o3,e3,ext,g3⟩:=av3 O g2 hp pn sub hw h.c (by omega) (bp5 hk) ac;have xl:q.length+ex.length<1000:=by have:=ext.len;omega
  rw[ae] at e3;refine⟨ex,o3,(.im (.lst ((q.map (·.n)).map .str))),(.im (.lst [.str (sg "c" k),.str (sg "d" k),.str (sg "e" k),.str (sg "f" k),.str (sg "g" k),.str (sg "h" k),.str (sg "i" k)])),(.im (.str one)),(.im (.int (r2.fmod 5))),s8,s9,?_,ext,g3⟩;simp[-List.map_map,b_3,f_2,ng,Y,nk,cz,e1,rz,aa,eo,Z,c0,e3,xl]
 ·by_cases c1:r2.fmod 5=1/\1<q.length
  ·obtain⟨c1,c2⟩:=c1;obtain⟨r3,o3,e3,_,g3⟩:=e_5 O g2;have f4:=d_9 r3 (m:=4) (by decide);have m0:0<=(if 2+r3.fmod 4<(q.length:Int) then 2+r3.fmod 4 else (q.length:Int))/\(if 2+r3.fmod 4<(q.length:Int) then 2+r3.fmod 4 else (q.length:Int))<=q.length/\(if 2+r3.fmod 4<(q.length:Int) then 2+r3.fmod 4 else (q.length:Int))<=5:=by split <;> omega
   obtain⟨l,o4,e4,hl,ld,lm,g4⟩:=x_0 O g3 ag (by rw[qy];omega) (m:=if 2+r3.fmod 4<(q.length:Int) then 2+r3.fmod 4 else (q.length:Int)) m0.1 (by rw[qy];exact m0.2.1);have lz:l.length<=sizeLine:=a_6 (by omega);have ah:(1:Int)<(q.length:Int):=by omega
   have tl:q.length<1000000:=by omega
   refine⟨[⟨sg "c" k,.pour l,5*5 ^ k⟩],o4,(.im (.lst ((q.map (·.n)).map .str))),(.im (.lst [.str (sg "c" k),.str (sg "d" k),.str (sg "e" k),.str (sg "f" k),.str (sg "g" k),.str (sg "h" k),.str (sg "i" k)])),(.im (.str one)),(.im (.int (r2.fmod 5))),(.im (.lst (l.map .str))),s9,?_,aB2 (by simp) ⟨w0,qj _⟩ rfl (E_0 (v:=5 ^ k) (λ f hf=>?_) (Ys _ (by omega))),g4⟩
   ·simp[-List.map_map,b_3,f_2,ng,Y,nk,cz,e1,rz,aa,eo,Z,c0,c1,ah,e3,e4,lz,tl,n0,b_1]
   ·obtain⟨y,hy,rfl⟩:=List.mem_map.mp (lm f hf);exact⟨y,hy,rfl,hw y hy,h.c y hy⟩
  ·obtain⟨r3,o3,e3,_,g3⟩:=e_5 O g2;have f8:=d_9 r3 (m:=8) (by decide);obtain⟨wd,af,ew⟩:=I_1 D.str wds f8.1 f8.2;have ew:atD [D.str "time",.str "only",.str "but",.str "span",.str "rest",.str "turn",.str "later",.str "put"] (r3.fmod 8)=some (.str wd):=ew;obtain⟨r,o4,e4,ok,g4⟩:=ag4 O g3 hp pn sub (.str (sg "c" k)) (.tup [.str one]) wd af;have tl:q.length<1000000:=by omega
   refine⟨[⟨sg "c" k,.one one r,5 ^ k⟩],o4,(.im (.lst ((q.map (·.n)).map .str))),(.im (.lst [.str (sg "c" k),.str (sg "d" k),.str (sg "e" k),.str (sg "f" k),.str (sg "g" k),.str (sg "h" k),.str (sg "i" k)])),(.im (.str one)),(.im (.int (r2.fmod 5))),s8,(.im (.lst (wds.map .str))),?_,aB2 (by simp) ⟨qj _,w0⟩ rfl (s_7 ok ⟨y1,ad,ai,hw y1 ad,h.c y1 ad⟩),g4⟩;by_cases c2:r2.fmod 5=1
   ·have c3:¬ (1:Int)<(q.length:Int):=λ z=>c1 ⟨c2,by omega⟩;simp[-List.map_map,b_3,f_2,ng,Y,nk,cz,e1,rz,aa,eo,Z,c0,c2,c3,e3,ew,e4,tl,n0,b_1]
   ·simp[-List.map_map,b_3,f_2,ng,Y,nk,cz,e1,rz,aa,eo,Z,c0,c2,e3,ew,e4,tl,n0,b_1]
theorem al9 {ns:List Int} (aa:ns.length<=63) {P q:List Str} (hp:q.length=9) (pn:q.Nodup) (sub:∀ k∈q,k∈P):∀ (m k:Nat) (o:MO) (O:List Row) (s3 s4 Y s6 s7 Z s9:Sl),k+m<=2->q_8 ns o->Wn P k O ->
  ∃ (J:List Row) (o':MO) (t3 t4 t5 t6 t7 t8 t9:Sl) (k':Nat),fGo (gN 3) f_2 (C_9 (k:Int) m) [.ow true o,.im (.lst (q.map .str)),.ow false (.lst (O.map b_1)),s3,s4,Y,s6,s7,Z,s9]=some (.nx [.ow true o',.im (.lst (q.map .str)),.ow false (.lst (J.map b_1)),t3,t4,t5,t6,t7,t8,t9])/\k'<=2/\Wn P k' J/\q_8 ns o'
 |0,k,o,O,s3,s4,Y,s6,s7,Z,s9,hk,ho,h=>⟨O,o,s3,s4,Y,s6,s7,Z,s9,k,rfl,by omega,h,ho⟩
 |m+1,k,o,O,s3,s4,Y,s6,s7,Z,s9,hk,ho,h=>by
  obtain⟨ex,o1,t4,t5,t6,t7,t8,t9,e,ext,g1⟩:=aq1 aa ho hp pn sub (by omega) h s4 Y s6 s7 Z s9;obtain⟨J,o',u3,u4,u5,u6,u7,u8,u9,k',e',a,b,c⟩:=al9 aa hp pn sub m (k+1) o1 (O++ex) (.im (.int (k:Int))) t4 t5 t6 t7 t8 t9 (by omega) g1 (h.app (by omega) ext);refine⟨J,o',u3,u4,u5,u6,u7,u8,u9,k',?_,a,b,c⟩;show fGo _ _ (D.int (k:Int)::C_9 ((k:Int)+1) m) _=_;rw[Q_6];show fGa _ _ _ (some [.ow true o,.im (.lst (q.map .str)),.ow false (.lst (O.map b_1)),.im (.int (k:Int)),s4,Y,s6,s7,Z,s9])=_;rw[Q_7,e,X_7];exact e'
theorem au0 {P:List Str}{up:List Row}{n:Str}{lo hi:Option Int} (h:St.OB lo (2 ^ 40)/\St.OB hi (2 ^ 40)/\∀ a b,lo=some a->hi=some b->a<=b):RowOk P up ⟨n,.inn lo hi,1⟩:=⟨λ a b e=>by cases e;exact⟨h.1,h.2.1,h.2.2,qj _⟩,λ _ _ e=>(by cases e),λ _ e=>(by cases e),λ _ _ _ e=>(by cases e)⟩
theorem aD0 {ns:List Int} (O:ns.length<=63) {o:MO} (ho:q_8 ns o) {P q:List Str} (hP:P.length<=10) (hp:q.length=9) (pn:q.Nodup) (sub:∀ k∈q,k∈P) :
  ∃ (Y:List Row) (o':MO),h_6 o [.lst (q.map .str)]=some (.lst (Y.map b_1),o')/\Gd P Y/\(∀ n∈Y.map (·.n),n∈ab++nm01)/\q_8 ns o':=by
 obtain⟨Z,aa,o1,e1,a1,a2,a3,g1⟩:=H_7 O ho;obtain⟨ac,ad,o2,ag,b1,b2,b3,g2⟩:=H_7 O g1;obtain⟨r3,o3,e3,_,g3⟩:=e_5 O g2;obtain⟨r4,o4,e4,_,g4⟩:=e_5 O g3;have f2:=d_9 r3 (m:=2) (by decide);have f3:=d_9 r4 (m:=3) (by decide)
 let A:Row:=⟨Str.ofString "a",.inn Z aa,1⟩
 let B:Row:=⟨Str.ofString "b",.inn ac ad,1⟩
 have fin:∀ J:List Row,(J=[A]\/J=[A,B])->R_4 [b_1 A,b_1 B] none (some (1+r3.fmod 2))=J.map b_1 ->
   ∃ (Y:List Row) (o':MO),h_6 o [.lst (q.map .str)]=some (.lst (Y.map b_1),o')/\Gd P Y/\(∀ n∈Y.map (·.n),n∈ab++nm01)/\q_8 ns o':=λ J h0 ec=>by
  have W0:Wn P 0 J:=by
   have ae:RowOk P [] A:=au0 ⟨a1,a2,a3⟩;have af:RowOk P [A] B:=au0 ⟨b1,b2,b3⟩;rcases h0 with rfl | rfl
   ·exact⟨⟨by simp,λ i x hx=>by cases i with | zero=>cases hx;exact ae | succ i=>cases hx⟩,λ x hx=>by cases qw hx;exact⟨qj _,qj _⟩,λ n hn=>by cases qw hn;exact qp _ (qg ..),by show 1<=2;decide,λ x hx=>by cases qw hx;rfl,A,Z,aa,rfl,rfl,rfl⟩
   ·refine⟨⟨?_,λ i x hx=>?_⟩,λ x hx=>?_,λ n hn=>?_,by show 2<=2;decide,λ x hx=>?_,A,Z,aa,rfl,rfl,rfl⟩
    ·show [Str.ofString "a",Str.ofString "b"].Nodup;decide +kernel
    ·match i,hx with
     |0,hx=>cases hx;exact ae
     |1,hx=>cases hx;exact af
     |i+2,hx=>cases hx
    ·simp only[zj,zk,yp] at hx;rcases hx with rfl | rfl <;> exact⟨qj _,qj _⟩
    ·have hn:n∈[Str.ofString "a",Str.ofString "b"]:=hn;exact qp _ hn
    ·simp only[zj,zk,yp] at hx;rcases hx with rfl | rfl <;> rfl
  obtain⟨Y,o',t3,t4,t5,t6,t7,t8,t9,k',e,k2,w,g⟩:=al9 O hp pn sub (r4.fmod 3).toNat 0 o4 J .no .no .no .no .no .no .no (by omega) g4 W0;have e:fGo (gN 3) f_2 (C_9 0 (r4.fmod 3).toNat) [.ow true o4,.im (.lst (q.map .str)),.ow false (.lst (J.map b_1)),.no,.no,.no,.no,.no,.no,.no]=_:=e;have p5:5 ^ k'<=25:=zf (Yr (by decide) k2) (by decide);have wl:∀ x∈Y,x.w<=25:=λ x hx=>zf (w.w x hx).2 p5;refine⟨Y,o',?_,⟨⟨hP,w.ok,λ x hx=>zf (wl x hx) (by decide),by have:=w.len;omega⟩,λ x hx=>(w.w x hx).1,w.c,wl,by have:=w.len;omega,w.z⟩,λ n hn=>?_,g⟩
  ·have q1:-4611686018427387904<=r4.fmod 3:=by omega
   have q2:r4.fmod 3<4611686018427387904:=by omega
   have eA:b_1 A=.tup [.str "in",.str "a",.tup [],.tup [dO Z,dO aa]]:=rfl;have eB:b_1 B=.tup [.str "in",.str "b",.tup [],.tup [dO ac,dO ad]]:=rfl;rw[eA,eB] at ec;simp[h_6,C_5,List.replicate,e1,ag,e3,e4,ec,q1,q2,e]
  ·rcases qx (w.nm n hn) with z | z
   ·exact qp _ z
   ·exact qo _ (Qs z)
 rcases (show r3.fmod 2=0\/r3.fmod 2=1 by omega) with z | z
 ·exact fin [A] (.inl rfl) (by rw[z];rfl)
 ·exact fin [A,B] (.inr rfl) (by rw[z];rfl)
noncomputable abbrev nxa:Str:=Str.ofString "xa"
noncomputable abbrev nxb:Str:=Str.ofString "xb"
noncomputable abbrev nxc:Str:=Str.ofString "xc"
abbrev nxs:List Str:=[nxa,nxb,nxc,Str.ofString "xd",Str.ofString "ya",Str.ofString "yb"]
structure Wr (P:List Str) (rs pre:List Row) (b:Row):Prop where
 wk:Wk P (rs++(pre++[b]))
 p:∀ j y,pre[j]?=some y->Judge P (rs++(pre++[b])) (rs.length+j) y false
 f:Judge P (rs++(pre++[b])) (rs.length+pre.length) b true
theorem E_1 {P:List Str}{q:List Row}{i:Nat}{x:Row}{f:Str}{r:Rw}{L:List (Str×Bx)} (h:Wk P q) (o:Org P q i x L) (J:x.b=.one f r) (ne:L≠[]):Judge P q i x false:=by
 obtain⟨O,e,g⟩:=D_6 h.hP o.2.1;refine .inr ⟨by rw[J];rfl,L,O,o,e,g,?_⟩;unfold aN8;rw[J];cases L with
 |nil=>exact absurd rfl ne
 |cons=>rfl
theorem aL0 {P:List Str}{q:List Row}{i:Nat}{x:Row} (h:Wk P q) (o:Org P q i x []) (O:isC x.b=true):Judge P q i x true:=by obtain⟨J,e,g⟩:=D_6 h.hP o.2.1;exact .inr ⟨O,[],J,o,e,g,rfl⟩
theorem ak8 {P:List Str}{q:List Row}{i:Nat}{x:Row}{L:List (Str×Bx)}{fs:List Str} (h:Wk P q) (o:Org P q i x (L++L)) (O:x.b=.pour fs) (ne:L≠[]):Judge P q i x true:=by
 obtain⟨J,e,g⟩:=D_6 h.hP o.2.1;cases L with
 |nil=>exact absurd rfl ne
 |cons y L =>
  have t:J=true:=g (L.length+1) y (by simp) (by simp);refine .inr ⟨by rw[O];rfl,_,J,o,e,g,?_⟩;unfold aN8;rw[O,t];rfl
theorem bo4 {P:List Str}{q:List Row}{i:Nat}{x:Row} (J:isC x.b=true) (h:Judge P q i x false):∃ L,Org P q i x L/\L≠[]:=by
 rcases h with ⟨z,_⟩ | ⟨_,L,tw,o,_,_,b⟩
 ·rw[J] at z;cases z
 ·refine⟨L,o,λ z=>?_⟩;rw[z] at b;cases b
structure Bse (P:List Str) (rs mid:List Row):Prop where
 gd:Gd P rs
 ps:Passes P rs
 nn:∀ n∈rs.map (·.n),n∈ab++nm01
 m:mid=[] ∨ ∃ z:D,mid=[⟨Str.ofString "ya",.oth (Str.ofString "ever") z (.tup [.str "count"]),1⟩,⟨Str.ofString "yb",.oth (Str.ofString "ask") (.tup [.str "ya"]) (.tup []),1⟩]
theorem aa4:∀ n∈nxs,n∉ab++nm01:=by decide +kernel
theorem Bse.names {P:List Str}{Y J:List Row} (h:Bse P Y J):∀ n∈(Y++J).map (·.n),n∈ab++nm01 ∨ n=Str.ofString "ya" ∨ n=Str.ofString "yb":=λ n O=>by
 rw[zu] at O;rcases qx O with z | z
 ·exact .inl (h.nn n z)
 ·rcases h.m with q | ⟨d,q⟩
  ·rw[q] at z;cases z
  ·rw[q] at z;simp only[zd,zz,zj,zk,yp] at z;exact .inr z
theorem Bse.wok {P:List Str}{Z J:List Row} (h:Bse P Z J):WOk P (Z++J):=by
 rcases h.m with q | ⟨d,q⟩
 ·rw[q,zm];exact h.gd.wk.ok
 ·refine h.gd.wk.ok.app (by rw[q];show [Str.ofString "ya",Str.ofString "yb"].Nodup;decide +kernel) (λ n O Y=>?_) (λ i x hx=>?_)
  ·rw[q] at O;simp only[zd,zz,zj,zk,yp] at O;rcases O with rfl | rfl
   ·exact aa4 _ (by simp) (h.nn _ Y)
   ·exact aa4 _ (by simp) (h.nn _ Y)
  ·rw[q] at hx
   match i,hx with
   |0,hx=>cases hx;exact⟨λ _ _ e=>(by cases e),λ _ _ e=>(by cases e),λ _ e=>(by cases e),λ _ _ _ e=>by cases e;exact .inl rfl⟩
   |1,hx=>cases hx;exact⟨λ _ _ e=>(by cases e),λ _ _ e=>(by cases e),λ _ e=>(by cases e),λ _ _ _ e=>by cases e;exact .inr rfl⟩
   |i+2,hx=>cases hx
theorem Bse.mlen {P:List Str}{O J:List Row} (h:Bse P O J):J.length<=2/\∀ x∈J,x.w=1:=by
 rcases h.m with q | ⟨d,q⟩
 ·rw[q];exact⟨yf _,λ x hx=>by cases hx⟩
 ·rw[q];refine⟨qj _,λ x hx=>?_⟩;simp only[zj,zk,yp] at hx;rcases hx with rfl | rfl <;> rfl
theorem Bse.wk {P:List Str}{O q:List Row} (h:Bse P O q) {ex:List Row} (nd:(ex.map (·.n)).Nodup) (nn:∀ n∈ex.map (·.n),n∈[nxa,nxb,nxc]) (w:∀ x∈ex,x.w<=100) (l:ex.length<=4) (ok:∀ i x,ex[i]?=some x->RowOk P ((O++q)++ex.take i) x):Wk P ((O++q)++ex):=by
 refine⟨h.gd.wk.hP,h.wok.app nd (λ n Z Y=>?_) ok,λ x hx=>?_,by rw[zc,zc];have:=h.gd.l14;have:=h.mlen.1;omega⟩
 ·have J:=nn n Z;rcases h.names n Y with z | z | z
  ·exact aa4 n (by
    simp only[zj,zk,yp] at J;rcases J with rfl | rfl | rfl <;> simp) z
  ·rw[z] at J;revert J;decide +kernel
  ·rw[z] at J;revert J;decide +kernel
 ·rcases qx hx with z | z
  ·rcases qx z with z | z
   ·exact h.gd.wk.w x z
   ·rw[h.mlen.2 x z];decide
  ·exact w x z
def bw5 (r:Rw):Prop:=∀ x y,b_9 [dRw x y r,dB fullB]=some (dB fullB)
theorem bg6 {a b:Str} (h:b≠a) (k:Str):bec [(a,b)] k≠a:=λ z=>by
 by_cases c:k=a
 ·subst c;have:bec [(k,b)] k=b:=aT3 (by simp[fst]) (by simp);exact h (this.symm.trans z)
 ·have:bec [(a,b)] k=k:=ae9 (by simp[fst,c]);exact c (this.symm.trans z)
structure Shut (P:List Str) (r r':Rw):Prop where
 a:ROk P r
 a':ROk P r'
 f:bw5 r'
 n:∀ t k v,0<=t->∀ z,thr r' (t,k,v)=some z->thr r z=none
theorem ag5 {P:List Str}{c e:Int} (h:0<=c) (h1:0<e) (h2:e<=c):Shut P (.time 0 (some e)) (.later c):=⟨ao0 ⟨by decide,λ x z=>by cases z;exact h1⟩,au5 h,λ x y=>u_5 x y h,λ t k v q z hz=>by
 cases hz;have:¬ (t+c<e):=by omega
 simp[thr,endB,this]⟩
theorem aP4 {P:List Str}{a b:Str} (q:a∈P) (h:b≠a):Shut P (.keys true [a]) (.put [(a,b)]):=⟨au6 ⟨⟨by simp,λ x hx=>by cases qw hx;exact q⟩,by simp⟩,bF6 ⟨⟨by simp[fst],λ x hx=>by
  have:x=a:=by simpa [fst] using hx
  rw[this];exact q⟩,by show 1<=4;decide⟩,λ x y=>ak4 x y (by simp[fst]) (by show 1<=4;decide),λ t k v J z hz=>by
 cases hz;have:=bg6 h k;show (if inK true [a] (bec [(a,b)] k)=true then _ else none)=none;rw[X_4];simp[this]⟩
theorem as7 {P:List Str}{a c m r:Int} (h:a≠0) (h1:a.natAbs<=1000) (h2:c.natAbs<=1000) (q:2<=m/\m<=2000/\0<=r/\r<m) (J:∀ v:Int,¬ (a*v+c) % m=r):Shut P (.rest m r) (.turn a c):=⟨aH5 q,au3 ⟨h,h1,h2⟩,λ x y=>H_1 x y h h1 h2,λ t k v O z hz=>by
 cases hz;show (if (a*v+c) % m=r then _ else none)=none;rw[if_neg (J v)]⟩
theorem aW4 {P:List Str}{s:Int} (h:3<=s) (h1:s<=1000):Shut P (.span (some (0-s+1)) (some (-1))) (.turn s 0):=⟨au4 ⟨λ l e=>by cases e;rw[show (2:Nat) ^ 40=1099511627776 from rfl];omega,λ l e=>by cases e;decide,λ a b e1 e2=>by cases e1;cases e2;omega⟩,au3 ⟨by omega,by omega,by decide⟩,λ x y=>H_1 x y (by omega) (by omega) (by decide),λ t k v O z hz=>by
 cases hz;have:¬ (0-s+1<=s*v+0/\s*v+0<=-1):=λ J=>by
  obtain⟨a,b⟩:=J;by_cases q:v<0
  ·have:=Int.mul_le_mul_of_nonneg_left (show v<=-1 by omega) (show 0<=s by omega);rw[Qc,Zn] at this;omega
  ·have:=Int.mul_nonneg (show 0<=s by omega) (show 0<=v by omega);omega
 show (if leB (some (0-s+1)) (s*v+0)=true/\geB (some (-1)) (s*v+0)=true then _ else none)=none;rw[if_neg (λ z=>this ⟨Qn z.1,Qn z.2⟩)]⟩
theorem aW3 {ns:List Int} (Z:ns.length<=63) {o:MO} (ho:q_8 ns o) {P J:List Str} (hp:Pool J) (sub:∀ k∈J,k∈P) (one:Str) :
  ∃ (r r':Rw) (o':MO),f_4 o [.str one,.lst (J.map .str)]=some (.lst [dRw (.str nxa) (.tup [.str one]) r',dRw (.str nxb) (.tup [.str nxa]) r],o')/\Shut P r r'/\q_8 ns o':=by
 obtain⟨r1,o1,e1,_,g1⟩:=e_5 Z ho;obtain⟨Y,o2,O,_,g2⟩:=e_5 Z g1;have f1:=d_9 r1 (m:=7) (by decide);have f2:=d_9 Y (m:=50) (by decide);obtain⟨r3,o3,e3,_,g3⟩:=e_5 Z g2;rcases (show r1.fmod 7=0\/r1.fmod 7=1\/r1.fmod 7=2\/r1.fmod 7=3\/r1.fmod 7=4\/r1.fmod 7=5\/r1.fmod 7=6 by omega) with c | c | c | c | c | c | c
 ·have f3:=d_9 r3 (m:=Y.fmod 50+20) (by omega);have nz:¬ (Y.fmod 50+20=0):=by omega
  refine⟨.time 0 (some (1+r3.fmod (Y.fmod 50+20))),.later (Y.fmod 50+20),o3,?_,ag5 (by omega) (by omega) (by omega),g3⟩;exact Rt.fn (B:=k_6) (k:=6) rfl (.seq (g_6 e1 (by decide)) (.seq (g_6 O (by decide)) (.yesI rfl c (.ret (by simp[e3,nz,dRw,rwW,rwR])))))
 ·obtain⟨l,o4,e4,hl,ld,lm,g4⟩:=x_0 Z g2 hp.nd (by rw[hp.n9];decide) (m:=2) (by decide) (by rw[hp.n9];decide)
  match l,hl,ld,lm,e4 with
  |[a,b],_,ld,lm,e4 =>
   have ne:b≠a:=λ z=>by rw[z] at ld;simp at ld
   refine⟨.keys true [a],.put [(a,b)],o4,?_,aP4 (sub a (lm a (by simp))) ne,g4⟩;simp at e4;exact Rt.fn (B:=k_6) (k:=6) rfl (.seq (g_6 e1 (by decide)) (.seq (g_6 O (by decide)) (.noI rfl (by omega) (.yesI rfl c ⟨[.im (.str one),.im (.lst (J.map .str)),.im (.int (r1.fmod 7)),.im (.int (Y.fmod 50)),.no,.no,.im (.str a),.im (.str b)],by simp[e4,dRw,rwW,rwR,dT,aU8,x_4]⟩))))
 ·have f3:=d_9 r3 (m:=9) (by decide);have km:j_7 2 (1+r3.fmod 9)=true:=G_2 (by decide);refine⟨.rest 2 0,.turn (2*(1+r3.fmod 9)) 1,o3,?_,as7 (by omega) (by omega) (by decide) (by decide) (λ v z=>?_),g3⟩
  ·exact Rt.fn (B:=k_6) (k:=6) rfl (.seq (g_6 e1 (by decide)) (.seq (g_6 O (by decide)) (.noI rfl (by omega) (.noI rfl (by omega) (.yesI rfl c ⟨[.im (.str one),.im (.lst (J.map .str)),.im (.int (r1.fmod 7)),.im (.int (Y.fmod 50)),.im (.int (2*(1+r3.fmod 9))),.no,.no,.no],by simp[e3,km,dRw,rwW,rwR]⟩)))))
  ·rw[ja] at z;omega
 ·have f3:=d_9 r3 (m:=900) (by decide);refine⟨.span (some (0-(3+r3.fmod 900)+1)) (some (-1)),.turn (3+r3.fmod 900) 0,o3,?_,aW4 (by omega) (by omega),g3⟩;exact Rt.fn (B:=k_6) (k:=6) rfl (.seq (g_6 e1 (by decide)) (.seq (g_6 O (by decide)) (.noI rfl (by omega) (.noI rfl (by omega) (.noI rfl (by omega) (.yesI rfl c ⟨[.im (.str one),.im (.lst (J.map .str)),.im (.int (r1.fmod 7)),.im (.int (Y.fmod 50)),.im (.int (3+r3.fmod 900)),.im (.int (0-(3+r3.fmod 900)+1)),.no,.no],by simp[e3,dRw,rwW,rwR]⟩))))))
 ·refine⟨.time 0 (some (Y.fmod 50+1)),.later (Y.fmod 50+1),o2,?_,ag5 (by omega) (by omega) (by omega),g2⟩;exact Rt.fn (B:=k_6) (k:=6) rfl (.seq (g_6 e1 (by decide)) (.seq (g_6 O (by decide)) (.noI rfl (by omega) (.noI rfl (by omega) (.noI rfl (by omega) (.noI rfl (by omega) (.yesI rfl c (.ret (by kernel_rfl)))))))))
 ·have f3:=d_9 r3 (m:=9) (by decide);obtain⟨a,ha,ea⟩:=I_1 D.str J f3.1 (by rw[hp.n9];exact f3.2);refine⟨.keys true [a],.put [(a,Str.ofString "q")],o3,?_,aP4 (sub a ha) (λ z=>hp.q (z▸ha)),g3⟩;exact Rt.fn (B:=k_6) (k:=6) rfl (.seq (g_6 e1 (by decide)) (.seq (g_6 O (by decide)) (.noI rfl (by omega) (.noI rfl (by omega) (.noI rfl (by omega) (.noI rfl (by omega) (.noI rfl (by omega) (.yesI rfl c ⟨[.im (.str one),.im (.lst (J.map .str)),.im (.int (r1.fmod 7)),.im (.int (Y.fmod 50)),.no,.no,.im (.str a),.no],by simp[e3,ea,dRw,rwW,rwR,dT,aU8]⟩))))))))
 ·have f3:=d_9 r3 (m:=2) (by decide);refine⟨.rest 4 (r3.fmod 2),.turn (-4) 2,o3,?_,as7 (by decide) (by decide) (by decide) (by omega) (λ v z=>by omega),g3⟩;exact Rt.fn (B:=k_6) (k:=6) rfl (.seq (g_6 e1 (by decide)) (.seq (g_6 O (by decide)) (.noI rfl (by omega) (.noI rfl (by omega) (.noI rfl (by omega) (.noI rfl (by omega) (.noI rfl (by omega) (.noI rfl (by omega) (.ret (by simp[e3,dRw,rwW,rwR]))))))))))
def Dbl (P:List Str) (one:Str) (pre:List Row) (b:Row):Prop :=
 (∃ r,ROk P r/\bw5 r/\pre=[⟨nxa,.one one r,25⟩]/\(b=⟨nxb,.pour [one,nxa],50⟩\/b=⟨nxb,.pour [nxa,one],50⟩))\/pre=[⟨nxa,.one one (.later 3),25⟩,⟨nxc,.one one (.later 5),25⟩]/\b=⟨nxb,.pour [nxc,nxa],50⟩
theorem ap7 {ns:List Int} (J:ns.length<=63) {o:MO} (ho:q_8 ns o) {P q:List Str} (hp:Pool q) (sub:∀ k∈q,k∈P) (one:Str) :
  ∃ (pre:List Row) (b:Row) (o':MO),e_2 o [.str one,.lst (q.map .str)]=some (.lst ((pre++[b]).map b_1),o')/\Dbl P one pre b/\q_8 ns o':=by
 obtain⟨r1,o1,e1,_,Z⟩:=e_5 J ho;have f1:=d_9 r1 (m:=4) (by decide);obtain⟨r2,o2,O,_,g2⟩:=e_5 J Z;have Y:=d_9 r2 (m:=9) (by decide);rcases (show r1.fmod 4=0\/r1.fmod 4=1\/r1.fmod 4=2\/r1.fmod 4=3 by omega) with c | c | c | c
 ·refine⟨_,_,o2,?_,.inl ⟨.later (r2.fmod 9),au5 Y.1,λ x y=>u_5 x y Y.1,rfl,.inl rfl⟩,g2⟩;simp[e_2,l_3,List.replicate,e1,O,c,b_1,dRw,rwW,rwR]
 ·refine⟨_,_,o1,?_,.inl ⟨.turn (-1) 0,au3 ⟨by decide,by decide,by decide⟩,λ x y=>H_1 x y (by decide) (by decide) (by decide),rfl,.inr rfl⟩,Z⟩;simp[e_2,l_3,List.replicate,e1,c,b_1,dRw,rwW,rwR]
 ·obtain⟨a,ha,ea⟩:=I_1 D.str q Y.1 (by rw[hp.n9];exact Y.2);refine⟨_,_,o2,?_,.inl ⟨.put [(a,Str.ofString "q")],bF6 ⟨⟨by simp[fst],λ x hx=>by
   have:x=a:=by simpa [fst] using hx
   rw[this];exact sub a ha⟩,by show 1<=4;decide⟩,λ x y=>ak4 x y (by simp[fst]) (by show 1<=4;decide),rfl,.inl rfl⟩,g2⟩
  simp[e_2,l_3,List.replicate,e1,O,c,ea,b_1,dRw,rwW,rwR,dT]
 ·refine⟨_,_,o1,?_,.inr ⟨rfl,rfl⟩,Z⟩;simp[e_2,l_3,List.replicate,e1,c,b_1,dRw,rwW,rwR]
theorem Bse.src {P:List Str}{J q:List Row} (h:Bse P J q) {j:Nat}{y:Row} (Y:J[j]?=some y) (ex:List Row):∃ L,Org P ((J++q)++ex) j y L/\L≠[]/\L.length<=25/\j<(J++q).length/\y∈J++q/\isC y.b=true/\y.w<=25:=by have O:=zx Y;have Z:=h.gd.c y O;obtain⟨L,o,ne⟩:=bo4 Z (h.ps j y Y);have:=o.more (q++ex);rw[<- yt] at this;refine⟨L,this,ne,zf o.1 (h.gd.w25 y O),?_,qp _ O,Z,h.gd.w25 y O⟩;have:=(List.getElem?_eq_some_iff.mp Y).1;rw[zc];omega
theorem v_4 {α:Type} (l:List α) (ex:List α) (i:Nat):(l++ex)[l.length+i]?=ex[i]?:=by rw[yi (by omega)];congr 1;omega
theorem as6 {P:List Str}{J q:List Row} (h:Bse P J q) {j:Nat}{y:Row} (hy:J[j]?=some y) {r O:Rw} (s:Shut P r O):Wr P (J++q) [⟨nxa,.one y.n O,25⟩] ⟨nxb,.one nxa r,25⟩:=by
 obtain⟨L,o,ne,ll,jl,ym,yc,yw⟩:=h.src hy ([⟨nxa,.one y.n O,25⟩]++[⟨nxb,.one nxa r,25⟩]);have wk:Wk P ((J++q)++([⟨nxa,.one y.n O,25⟩]++[⟨nxb,.one nxa r,25⟩])):=by
  refine h.wk (by show [nxa,nxb].Nodup;decide +kernel) (λ n Y=>?_) (λ x hx=>?_) (by show 2<=4;decide) (λ i x hx=>?_)
  ·have Y:n∈[nxa,nxb]:=Y;simp only[zj,zk,yp] at Y ⊢;rcases Y with rfl | rfl <;> simp
  ·simp only[jg,jm,zj,zk,yp] at hx;rcases hx with rfl | rfl <;> (show 25<=100) <;> decide
  ·match i,hx with
   |0,hx=>cases hx;exact s_7 s.a' ⟨y,qp _ ym,rfl,yw,yc⟩
   |1,hx=>cases hx;exact s_7 s.a ⟨⟨nxa,.one y.n O,25⟩,qo _ (by simp),rfl,qj _,rfl⟩
   |i+2,hx=>cases hx
 have Z:((J++q)++([⟨nxa,.one y.n O,25⟩]++[⟨nxb,.one nxa r,25⟩]))[(J++q).length+0]?=some ⟨nxa,.one y.n O,25⟩:=by rw[v_4];rfl
 have xB:((J++q)++([⟨nxa,.one y.n O,25⟩]++[⟨nxb,.one nxa r,25⟩]))[(J++q).length+1]?=some ⟨nxb,.one nxa r,25⟩:=by rw[v_4];rfl
 have oA:=r_5 wk (x:=⟨nxa,.one y.n O,25⟩) Z rfl (by omega) yw o (s.f _ _);refine⟨wk,λ i x hx=>?_,?_⟩
 ·cases i with
  |zero=>cases hx;exact E_1 wk oA rfl ne
  |succ i=>cases hx
 ·have h1:(J++q).length+0<(J++q).length+1:=by omega
  have h2:1<=(J++q).length+0:=by omega
  exact aL0 wk (aI7 wk xB Z rfl rfl h1 h2 s.n) rfl
theorem aS9 {P:List Str}{J q:List Row} (h:Bse P J q) {j:Nat}{y:Row} (hy:J[j]?=some y) {pre:List Row}{b:Row} (d:Dbl P y.n pre b):Wr P (J++q) pre b:=by
 obtain⟨L,o,ne,ll,jl,ym,yc,Z⟩:=h.src hy (pre++[b]);rcases d with ⟨r,ok,fl,rfl,hb⟩ | ⟨rfl,rfl⟩
 ·obtain⟨fs,rfl,hf⟩:∃ fs,b=⟨nxb,.pour fs,50⟩/\(fs=[y.n,nxa]\/fs=[nxa,y.n]):=by
   rcases hb with z | z
   ·exact⟨_,z,.inl rfl⟩
   ·exact⟨_,z,.inr rfl⟩
  have wk:Wk P ((J++q)++([⟨nxa,.one y.n r,25⟩]++[⟨nxb,.pour fs,50⟩])):=by
   refine h.wk (by show [nxa,nxb].Nodup;decide +kernel) (λ n Y=>?_) (λ x hx=>?_) (by show 2<=4;decide) (λ i x hx=>?_)
   ·have Y:n∈[nxa,nxb]:=Y;simp only[zj,zk,yp] at Y ⊢;rcases Y with rfl | rfl <;> simp
   ·simp only[jg,jm,zj,zk,yp] at hx;rcases hx with rfl | rfl
    ·show 25<=100;decide
    ·show 50<=100;decide
   ·match i,hx with
    |0,hx=>cases hx;exact s_7 ok ⟨y,qp _ ym,rfl,Z,yc⟩
    |1,hx =>
     cases hx;have m1:∃ z∈(J++q)++([(⟨nxa,.one y.n r,25⟩:Row)]++[(⟨nxb,.pour fs,50⟩:Row)]).take 1,z.n=y.n/\z.w<=25/\isC z.b=true:=⟨y,qp _ ym,rfl,Z,yc⟩;have m2:∃ z∈(J++q)++([(⟨nxa,.one y.n r,25⟩:Row)]++[(⟨nxb,.pour fs,50⟩:Row)]).take 1,z.n=nxa/\z.w<=25/\isC z.b=true:=⟨⟨nxa,.one y.n r,25⟩,qo _ (by simp),rfl,qj _,rfl⟩;refine E_0 (v:=25) (λ f O=>?_) ?_
     ·rcases hf with rfl | rfl <;> simp only[zj,zk,yp] at O <;> rcases O with rfl | rfl
      ·exact m1
      ·exact m2
      ·exact m2
      ·exact m1
     ·rcases hf with rfl | rfl <;> (show 2*25<=50) <;> decide
    |i+2,hx=>cases hx
  have xA:((J++q)++([⟨nxa,.one y.n r,25⟩]++[⟨nxb,.pour fs,50⟩]))[(J++q).length+0]?=some ⟨nxa,.one y.n r,25⟩:=by rw[v_4];rfl
  have xB:((J++q)++([⟨nxa,.one y.n r,25⟩]++[⟨nxb,.pour fs,50⟩]))[(J++q).length+1]?=some ⟨nxb,.pour fs,50⟩:=by rw[v_4];rfl
  have oA:=r_5 wk (x:=⟨nxa,.one y.n r,25⟩) xA rfl (by omega) Z o (fl _ _);have oB:Org P ((J++q)++([⟨nxa,.one y.n r,25⟩]++[⟨nxb,.pour fs,50⟩])) ((J++q).length+1) ⟨nxb,.pour fs,50⟩ (L++L):=by
   rcases hf with rfl | rfl
   ·exact F_7 wk (y:=y) (y':=⟨nxa,.one y.n r,25⟩) xB rfl (by omega) (by omega) (by show _<=50;omega) o oA
   ·exact F_7 wk (y:=⟨nxa,.one y.n r,25⟩) (y':=y) xB rfl (by omega) (by omega) (by show _<=50;omega) oA o
  refine⟨wk,λ i x hx=>?_,ak8 wk oB rfl ne⟩;cases i with
  |zero=>cases hx;exact E_1 wk oA rfl ne
  |succ i=>cases hx
 ·have wk:Wk P ((J++q)++([⟨nxa,.one y.n (.later 3),25⟩,⟨nxc,.one y.n (.later 5),25⟩]++[⟨nxb,.pour [nxc,nxa],50⟩])):=by
   refine h.wk (by show [nxa,nxc,nxb].Nodup;decide +kernel) (λ n Y=>?_) (λ x hx=>?_) (by show 3<=4;decide) (λ i x hx=>?_)
   ·have Y:n∈[nxa,nxc,nxb]:=Y;simp only[zj,zk,yp] at Y ⊢;rcases Y with rfl | rfl | rfl <;> simp
   ·simp only[jg,jm,zj,zk,yp] at hx;rcases hx with rfl | rfl | rfl
    ·show 25<=100;decide
    ·show 25<=100;decide
    ·show 50<=100;decide
   ·match i,hx with
    |0,hx=>cases hx;exact s_7 (F_3 (by decide)) ⟨y,qp _ ym,rfl,Z,yc⟩
    |1,hx=>cases hx;exact s_7 (F_3 (by decide)) ⟨y,qp _ ym,rfl,Z,yc⟩
    |2,hx =>
     cases hx;refine E_0 (v:=25) (λ f O=>?_) (by show 2*25<=50;decide);simp only[zj,zk,yp] at O;rcases O with rfl | rfl
     ·exact⟨⟨nxc,.one y.n (.later 5),25⟩,qo _ (by simp),rfl,qj _,rfl⟩
     ·exact⟨⟨nxa,.one y.n (.later 3),25⟩,qo _ (by simp),rfl,qj _,rfl⟩
    |i+3,hx=>cases hx
  have xA:((J++q)++([⟨nxa,.one y.n (.later 3),25⟩,⟨nxc,.one y.n (.later 5),25⟩]++[⟨nxb,.pour [nxc,nxa],50⟩]))[(J++q).length+0]?=some ⟨nxa,.one y.n (.later 3),25⟩:=by rw[v_4];rfl
  have aa:((J++q)++([⟨nxa,.one y.n (.later 3),25⟩,⟨nxc,.one y.n (.later 5),25⟩]++[⟨nxb,.pour [nxc,nxa],50⟩]))[(J++q).length+1]?=some ⟨nxc,.one y.n (.later 5),25⟩:=by rw[v_4];rfl
  have xB:((J++q)++([⟨nxa,.one y.n (.later 3),25⟩,⟨nxc,.one y.n (.later 5),25⟩]++[⟨nxb,.pour [nxc,nxa],50⟩]))[(J++q).length+2]?=some ⟨nxb,.pour [nxc,nxa],50⟩:=by rw[v_4];rfl
  have oA:=r_5 wk (x:=⟨nxa,.one y.n (.later 3),25⟩) xA rfl (by omega) Z o (u_5 _ _ (by decide));have oC:=r_5 wk (x:=⟨nxc,.one y.n (.later 5),25⟩) aa rfl (by omega) Z o (u_5 _ _ (by decide));have oB:=F_7 wk (y:=⟨nxc,.one y.n (.later 5),25⟩) (y':=⟨nxa,.one y.n (.later 3),25⟩) (x:=⟨nxb,.pour [nxc,nxa],50⟩) xB rfl (by omega) (by omega) (by show _<=50;omega) oC oA;refine⟨wk,λ i x hx=>?_,ak8 wk oB rfl ne⟩
  match i,hx with
  |0,hx=>cases hx;exact E_1 wk oA rfl ne
  |1,hx=>cases hx;exact E_1 wk oC rfl ne
  |i+2,hx=>cases hx
theorem Wk.pre {P:List Str}{q ex:List Row} (h:Wk P (q++ex)):Wk P q:=by
 refine⟨h.hP,⟨?_,λ i x hx=>?_⟩,λ x hx=>h.w x (qp _ hx),by have:=h.len;rw[zc] at this;omega⟩
 ·have:=h.ok.nd;rw[zu,jb] at this;exact this.1
 ·have hi:=(List.getElem?_eq_some_iff.mp hx).1;have:=h.ok.ok i x (by rw[zq hi];exact hx)
  rwa [List.take_append_of_le_length (Zb hi)] at this
theorem Judge.less {P:List Str}{q ex:List Row} (h:Wk P q) {i:Nat}{x:Row}{v:Bool} (hx:q[i]?=some x) (J:Judge P (q++ex) i x v):Judge P q i x v:=by
 have hi:i<24:=qr (List.getElem?_eq_some_iff.mp hx).1 h.len;obtain⟨Z,O⟩:=h.judge hx;have Y:=O.more ex;cases v <;> cases Z
 ·exact O
 ·exact (Y.one hi J).elim
 ·exact (J.one hi Y).elim
 ·exact O
theorem T_6 {P:List Str}{R:List Row} (h:Wk P R) (ps:Passes P R):c_8 [.lst (R.map b_1)]=some (.tup [.str "done",.non]):=by
 rcases R_7 h with ⟨k,x,hx,J,_,_⟩ | ⟨_,e⟩
 ·exact (J.one (qr (List.getElem?_eq_some_iff.mp hx).1 h.len) (ps k x hx)).elim
 ·obtain⟨s1,s2,O,q⟩:=e [];rw[zm] at q;have:=al8 (show xC 0 (R.map b_1) [.im (.lst (R.map b_1)),.no,.no,.no]=some (.ok (.nx _)) from q);unfold c_8 as1;rw[if_pos (show [D.lst (R.map b_1)].length=1 from rfl),this];rfl
theorem aG1 {P:List Str}{base pre:List Row}{b:Row} (h:Wr P base pre b) (ps:∀ j y,base[j]?=some y->Judge P (base++(pre++[b])) j y false) (more:List D):c_8 [.lst ((base++(pre++[b])).map b_1++more)]=some (.tup [.bl true,.int ((base.length+pre.length:Nat):Int)]):=by
 have Y:=h.wk.len;have ll:(base++(pre++[b])).length=base.length+pre.length+1:=by simp;omega
 have O:(base++(pre++[b]))[base.length+pre.length]?=some b:=by rw[v_4];simp
 have all:∀ j y,(base++(pre++[b]))[j]?=some y->j<base.length+pre.length->Judge P (base++(pre++[b])) j y false:=λ j y q hj=>by
  by_cases c:j<base.length
  ·rw[zq c] at q;exact ps j y q
  ·obtain⟨i,rfl⟩:∃ i,j=base.length+i:=⟨j-base.length,by omega⟩;rw[v_4,zq (by omega)] at q;exact h.p i y q
 rcases R_7 h.wk with ⟨k,x,hx,J,_,e⟩ | ⟨hp,_⟩
 ·have kl:=(List.getElem?_eq_some_iff.mp hx).1;have Z:k=base.length+pre.length:=by
   by_cases c:k<base.length+pre.length
   ·exact (J.one (by omega) (all k x hx c)).elim
   ·omega
  subst Z;unfold c_8 as1;rw[if_pos (show [D.lst ((base++(pre++[b])).map b_1++more)].length=1 from rfl),e more,b_3];unfold as0;dsimp only;rw[if_pos ⟨rfl,rfl⟩]
 ·exact (h.f.one (by omega) (hp _ _ O)).elim
theorem Bse.pass {P:List Str}{Z J:List Row} (h:Bse P Z J) (ex:List Row):∀ j y,(Z++J)[j]?=some y->Judge P ((Z++J)++ex) j y false:=λ j y Y=>by
 by_cases c:j<Z.length
 ·rw[zq c] at Y;have:=(h.ps j y Y).more (J++ex)
  rwa [<- yt] at this
 ·rw[yi (by omega)] at Y;have O:=zx Y;rcases h.m with q | ⟨d,q⟩
  ·rw[q] at O;cases O
  ·rw[q] at O;simp only[zj,zk,yp] at O;rcases O with rfl | rfl
   ·exact .inl ⟨rfl,λ _ _ _ e=>by cases e;exact .inl rfl,rfl⟩
   ·exact .inl ⟨rfl,λ _ _ _ e=>by cases e;exact .inr rfl,rfl⟩
theorem Bse.done {P:List Str}{J q:List Row} (h:Bse P J q):c_8 [.lst ((J++q).map b_1)]=some (.tup [.str "done",.non]):=by
 have wk:=h.wk (ex:=[]) (by simp) (λ n Y=>by cases Y) (λ x hx=>by cases hx) (by decide) (λ i x hx=>by simp at hx);rw[zm] at wk;refine T_6 wk λ j y O=>?_;have:=h.pass [] j y O
 rwa [zm] at this
theorem Bse.bad {P:List Str}{J q pre:List Row}{b:Row} (h:Bse P J q) (w:Wr P (J++q) pre b) (more:List D):c_8 [.lst (((J++q)++(pre++[b])).map b_1++more)]=some (.tup [.bl true,.int (((J++q).length+pre.length:Nat):Int)]):=aG1 w (h.pass _) more
theorem Bse.almost {P:List Str}{J q pre:List Row}{b:Row} (h:Bse P J q) (w:Wr P (J++q) pre b):c_8 [.lst (((J++q)++pre).map b_1)]=some (.tup [.str "done",.non]):=by
 have wk:Wk P (((J++q)++pre)++[b]):=by rw[yt];exact w.wk
 refine T_6 wk.pre λ j y O=>Judge.less (ex:=[b]) wk.pre O ?_;rw[yt];by_cases c:j<(J++q).length
 ·rw[zq c] at O;exact h.pass _ j y O
 ·obtain⟨i,rfl⟩:∃ i,j=(J++q).length+i:=⟨j-(J++q).length,by omega⟩;rw[v_4] at O;exact w.p i y O
mutual
theorem bt4:∀ d:D,dpD d<=30->eqD d d=true
 |.non,_=>by simp
 |.bl _,_=>by simp
 |.int _,_=>by simp
 |.str _,_=>by simp
 |.tup l,h=>(ae1 l l).trans (Q_9 l (Nat.le_of_succ_le h))
 |.lst l,h=>(ae3 l l).trans (Q_9 l (Nat.le_of_succ_le h))
 |.opq,h=>absurd h (by decide)
 |.dct _ _,h=>absurd h (by show ¬ 1000<=30;decide)
theorem Q_9:∀ l:List D,B_9 l<=30->R_0 l l=true
 |[],_=>by simp
 |d::r,h=>by
  have h:max (dpD d) (B_9 r)<=30:=h;have a:=bt4 d (by omega);have b:=Q_9 r (by omega);simp[a,b]
end
theorem al6 {n:Nat}:∀ l:List D,(∀ d∈l,dpD d<=n)->B_9 l<=n
 |[],_=>yf _
 |d::r,h=>by
  have a:=h d (qg ..);have b:=al6 r λ x hx=>h x (qh _ hx);show max (dpD d) (B_9 r)<=n;omega
theorem aC2 (l:List Str):B_9 (l.map .str)<=0:=al6 _ λ d hd=>by
 obtain⟨s,_,rfl⟩:=List.mem_map.mp hd;exact qj _
theorem bT1 (o:Option Int):dpD (dO o)=0:=by cases o <;> rfl
theorem aS8 {x:Row} (h:isC x.b=true):dpD (b_1 x)<=5:=by
 obtain⟨n,b,w⟩:=x;cases b with
 |inn lo hi=>simp[b_1,bT1]
 |oth=>cases h
 |pour fs=>have:=aC2 fs;simp[b_1];omega
 |one f r =>
  cases r with
  |keys o l=>have:=aC2 l;simp[b_1,dRw,rwR];omega
  |put tb =>
   have:B_9 (tb.map λ p=>D.tup [.str p.1,.str p.2])<=1:=al6 _ λ d hd=>by
    obtain⟨p,_,rfl⟩:=List.mem_map.mp hd;simp
   simp[b_1,dRw,rwR,dT];omega
  |_=>simp[b_1,dRw,rwR,bT1]
theorem aM1 (ns:List Int):∃ o,k_0 [.lst (ns.map .int)]=some o/\q_8 ns o:=by obtain⟨x,e⟩:=ae6 ns (k:=0) (by decide);refine⟨.dic (drD ns (x.fmod 2) 0 1 x 0),?_,x.fmod 2,0,1,x,0,rfl,by decide,by decide,by decide⟩;simp[k_0,fnN,H_9,by3,by4,List.replicate,e,b_3,ao4,drD];decide +kernel
theorem aM9 (l:List D) (d:D):R_4 (l++[d]) none (some (-1))=l:=by unfold R_4 T_3;show ((l++[d]).drop 0).take (((-1:Int)+((l++[d]).length:Int)).toNat-0)=l;rw[List.drop_zero,Nat.sub_zero,zc,yn,show ((-1:Int)+((l.length+1:Nat):Int)).toNat=l.length by omega,List.take_left' rfl]
noncomputable abbrev ao7 (z:Str):List Row:=[⟨Str.ofString "ya",.oth (Str.ofString "ever") (.tup [.str z]) (.tup [.str "count"]),1⟩,⟨Str.ofString "yb",.oth (Str.ofString "ask") (.tup [.str "ya"]) (.tup []),1⟩]
theorem bu6 (z:Str):∀ x∈ao7 z,dpD (b_1 x)<=5:=λ x hx=>by
 simp only[zj,zk,yp] at hx;rcases hx with rfl | rfl <;> simp[b_1]
def an3:FS:=(b_7 (d_5 6 (e2 L_5 (e2 i_1 (eF s_4 (aC (eV 3) aN)) (eF s_4 (aC (eV 10) aN))) (zI 1))) (b_7 (d_5 7 (e2 b_5 (s_3 (aC (c_0 (aC (zR "later") (aC (zR "xd") (aC (c_0 (aC (zR "xb") aN)) (aC (c_0 (aC (zI 1) aN)) aN))))) (aC (c_0 (aC (zR "pour") (aC (zR "xd") (aC (c_0 (aC (eV 4) (aC (zR "xb") aN))) (aC (c_0 aN) aN))))) aN))) (e2 i_7 (eFb 1 a_1 aN) (zI 2)))) (b_7 (d_5 8 (e2 i_1 (e2 i_1 (eV 3) (eV 10)) (s_3 (aC (eV 7) aN)))) (b_7 (sIf (tB (e2 dEq (e2 i_7 (eFb 1 a_1 aN) (zI 2)) (zI 1))) (b_7 (d_5 8 (e2 i_1 (e2 i_1 (eV 3) (eV 5)) (eV 10))) (d_5 6 (e2 i_1 (eV 6) (zI 2)))) sN) (b_7 (d_5 9 (eF af1 (aC (eV 8) aN))) (g_0 (aL9 (e2 dEq (eF c_8 (aC (eV 8) aN)) (c_0 (aC (eC (.bl true)) (aC (eV 6) aN)))) (aL9 (e2 dEq (eV 8) (eV 9)) (e2 dEq (eF c_8 (aC (e2 i_1 (eV 3) (L_4 (eV 10) oN (oS (e1 aT1 (zI 1))))) aN)) (c_0 (aC (zR "done") (aC (eC .non) aN))))))))))))
theorem aJ8 {ns:List Int} (ad:ns.length<=63) {o:MO} (ho:q_8 ns o) {P:List Str}{J pre:List Row}{b:Row}{z one:Str} (h0:Bse P J []) (h2:Bse P J (ao7 z)) (w0:Wr P (J++[]) pre b) (w2:Wr P (J++ao7 z) pre b) (pc:∀ x∈pre++[b],isC x.b=true) (pl:pre.length<=2) (s2 s6 s7 s8 s9:Sl) (sc:Sl) :
  ∃ ρ,an3 [sc,.ow false o,s2,.im (.lst (J.map b_1)),.im (.str one),.im (.lst ((ao7 z).map b_1)),s6,s7,s8,s9,.im (.lst ((pre++[b]).map b_1))]=some (.rt (.bl true) ρ):=by
 obtain⟨r1,o1,e1,_,g1⟩:=e_5 ad ho;obtain⟨r2,o2,ac,_,g2⟩:=e_5 ad g1;have f1:=d_9 r1 (m:=2) (by decide);have ah:=h0.gd.l14;rw[zm] at w0;have done:=h0.almost (by rw[zm];exact w0);rw[zm] at done;have Z:=h0.bad (by rw[zm];exact w0);rw[zm] at Z;have Y:=h2.bad w2 [];rw[zm] at Y;obtain⟨O,el,ag⟩:∃ O:D,atD [.tup [.str "later",.str "xd",.tup [.str "xb"],.tup [.int 1]],.tup [.str "pour",.str "xd",.tup [.str one,.str "xb"],.tup []]] (r1.fmod 2)=some O ∧ dpD O ≤ 5:=by
  rcases (show r1.fmod 2=0\/r1.fmod 2=1 by omega) with c | c <;> rw[c]
  ·exact⟨_,rfl,by simp⟩
  ·exact⟨_,rfl,by simp⟩
 have dr:∀ l:List D,(∀ d∈l,dpD d<=5)->B_9 l<=29/\R_0 l l=true:=λ l hl=>by
  have:=al6 l hl;exact⟨by omega,Q_9 l (by omega)⟩
 have dA:∀ d∈J.map b_1,dpD d<=5:=λ d hd=>by
  obtain⟨x,hx,rfl⟩:=List.mem_map.mp hd;exact aS8 (h0.gd.c x hx)
 have dP:∀ d∈(pre++[b]).map b_1,dpD d<=5:=λ d hd=>by
  obtain⟨x,hx,rfl⟩:=List.mem_map.mp hd;exact aS8 (pc x hx)
 have dM:∀ d∈(ao7 z).map b_1,dpD d<=5:=λ d hd=>by
  obtain⟨x,hx,rfl⟩:=List.mem_map.mp hd;exact bu6 z x hx
 have lm:((ao7 z).map b_1).length=2:=rfl;have ct:R_4 ((pre++[b]).map b_1) none (some (-1))=pre.map b_1:=by rw[zu];exact aM9 _ _
 have lA:(J.map b_1).length=J.length:=qy ..;have lQ:((pre++[b]).map b_1).length=pre.length+1:=by rw[qy,zc];rfl
 have b0:c_8 [.lst (J.map b_1++(pre++[b]).map b_1++[O])]=some (.tup [.bl true,.int ((J.length+pre.length:Nat):Int)]):=by have:=Z [O];rw[zu] at this;exact this
 have b2:c_8 [.lst (J.map b_1++(ao7 z).map b_1++(pre++[b]).map b_1)]=some (.tup [.bl true,.int ((J.length+2+pre.length:Nat):Int)]):=by have q:=Y;rw[zu,zu,zc] at q;exact q
 have d0:c_8 [.lst (J.map b_1++pre.map b_1)]=some (.tup [.str "done",.non]):=by have q:=done;rw[zu] at q;exact q
 have r0:=dr (J.map b_1++(pre++[b]).map b_1++[O]) (λ d hd=>by
  rcases qx hd with q | q
  ·rcases qx q with q | q
   ·exact dA d q
   ·exact dP d q
  ·cases qw q;exact ag)
 have aa:=dr (J.map b_1++(ao7 z).map b_1++(pre++[b]).map b_1) (λ d hd=>by
  rcases qx hd with q | q
  ·rcases qx q with q | q
   ·exact dA d q
   ·exact dM d q
  ·exact dP d q)
 have lP:(pre.map b_1).length=pre.length:=qy ..;generalize J.map b_1=A at *;generalize (pre++[b]).map b_1=Q at *;generalize (ao7 z).map b_1=M at *;generalize pre.map b_1=Pm at *;generalize J.length=na at *;generalize pre.length=np at *;have z1:A.length+Q.length<=sizeLine:=a_6 (by omega);have z2:A.length+Q.length+1<=sizeLine:=a_6 (by omega);have z3:A.length+M.length<=sizeLine:=a_6 (by omega);have z4:A.length+M.length+Q.length<=sizeLine:=a_6 (by omega);have z5:A.length+Pm.length<=sizeLine:=a_6 (by omega);have i1:(na+np:Int)=(A.length:Int)+(Q.length:Int)-1:=by omega
 have i2:(na+2+np:Int)=(A.length:Int)+(Q.length:Int)-1+2:=by omega
 have af:((na+np:Nat):Int)=(A.length:Int)+(Q.length:Int)-1:=by omega
 have ae:((na+2+np:Nat):Int)=(A.length:Int)+(Q.length:Int)-1+2:=by omega
 rw[af] at b0;rw[ae] at b2;rw[yt] at b0 b2 r0 aa;by_cases c:r2.fmod 2=1
 ·refine⟨[sc,.ow false o2,s2,.im (.lst A),.im (.str one),.im (.lst M),.im (.int ((A.length:Int)+(Q.length:Int)-1+2)),.im O,.im (.lst (A++(M++Q))),.im (.lst (A++(M++Q))),.im (.lst Q)],?_⟩;simp[an3,e1,ac,c,el,z1,z2,z3,z4,z5,b2,aa.1,aa.2,d0,ct]
 ·refine⟨[sc,.ow false o2,s2,.im (.lst A),.im (.str one),.im (.lst M),.im (.int ((A.length:Int)+(Q.length:Int)-1)),.im O,.im (.lst (A++(Q++[O]))),.im (.lst (A++(Q++[O]))),.im (.lst Q)],?_⟩;simp[an3,e1,ac,c,el,z1,z2,z3,z4,z5,b0,r0.1,r0.2,d0,ct]
theorem law_true (ns:List Int) (O:ns.length<=63):ac7 [.lst (ns.map .int)]=some (.bl true):=by
 obtain⟨o0,e0,g0⟩:=aM1 ns;obtain⟨q,o1,e1,hp,g1⟩:=aY5 O g0;have sub:∀ k∈q,k∈q++[Str.ofString "q"]:=λ k hk=>qp _ hk;obtain⟨ai,o2,aa,ah,ag,g2⟩:=aD0 O g1 (P:=q++[Str.ofString "q"]) (by rw[zc,hp.n9];decide) hp.n9 hp.nd sub;obtain⟨J,e3,gd,ps,nn⟩:=bp9 ah;have nn:∀ n∈J.map (·.n),n∈ab++nm01:=λ n hn=>ag n (nn n hn);obtain⟨r4,o4,e4,_,g4⟩:=e_5 O g2;obtain⟨f0,_,_,af,_⟩:=gd.z;have rp:0<J.length:=Qd (yf _) (List.getElem?_eq_some_iff.mp af).1;have aj:=gd.l14;have rz:¬ (J.length:Int)=0:=by omega
 have ad:¬ J.length=0:=by omega
 have f4:=d_9 r4 (m:=(J.length:Int)) (by omega);obtain⟨j,hj⟩:∃ j:Nat,r4.fmod (J.length:Int)=(j:Int):=⟨(r4.fmod J.length).toNat,by omega⟩;obtain⟨y,hy⟩:∃ y,J[j]?=some y:=⟨_,yd (by omega)⟩;have a1:atD (J.map b_1) (j:Int)=some (b_1 y):=aT6 (by rw[zl,hy];rfl);obtain⟨Y,hz⟩:∃ z,J[J.length-1]?=some z:=⟨_,yd (by omega)⟩;have a2:atD (J.map b_1) (-1)=some (b_1 Y):=by
  unfold atD dPl;have:(J.map b_1)[J.length-1]?=some (b_1 Y):=by rw[zl,hz];rfl
  have h1:((-1:Int)+(J.length:Int)).toNat=J.length-1:=by omega
  have h3:(1:Int)<=(J.length:Int):=by omega
  simp[h1,h3,hz]
 have h0:Bse (q++[Str.ofString "q"]) J []:=⟨gd,ps,nn,.inl rfl⟩;have h2:Bse (q++[Str.ofString "q"]) J (ao7 Y.n):=⟨gd,ps,nn,.inr ⟨_,rfl⟩⟩;have d2:=h2.done;rw[zu] at d2;have em:(ao7 Y.n).map b_1=[.tup [.str "ever",.str "ya",.tup [.str Y.n],.tup [.str "count"]],.tup [.str "ask",.str "yb",.tup [.str "ya"],.tup []]]:=rfl;have z1:J.length+2<=sizeLine:=a_6 (by omega);have ry:=bh5 y;have ae:=bh5 Y;obtain⟨r5,o5,e5,_,g5⟩:=e_5 O g4;have tl:∀ (pre:List Row) (b:Row) (o:MO),q_8 ns o → Wr (q++[Str.ofString "q"]) (J++[]) pre b → Wr (q++[Str.ofString "q"]) (J++ao7 Y.n) pre b → (∀ x∈pre++[b],isC x.b=true) → pre.length ≤ 2 → ∃ ρ,an3 [.im (.lst (ns.map .int)),.ow false o,.im (.lst (q.map .str)),.im (.lst (J.map b_1)),.im (.str y.n),.im (.lst ((ao7 Y.n).map b_1)),.no,.no,.no,.no,.im (.lst ((pre++[b]).map b_1))]=some (.rt (.bl true) ρ) :=
  λ pre b o ho w0 w2 pc pl=>aJ8 O ho h0 h2 w0 w2 pc pl _ _ _ _ _ _
 have hb:bv9=b_7 (bl3 1 k_0 (aC (eV 0) aN)) (b_7 (d_5 2 (eFb 1 m_0 aN)) (b_7 (d_5 3 (eF h_5 (aC (eFb 1 h_6 (aC (eV 2) aN)) aN))) (b_7 (d_5 4 (e2 b_5 (e2 b_5 (eV 3) (e2 i_7 (eFb 1 a_1 aN) (eF s_4 (aC (eV 3) aN)))) (zI 1))) (b_7 (d_5 5 (s_3 (aC (c_0 (aC (zR "ever") (aC (zR "ya") (aC (c_0 (aC (e2 b_5 (e2 b_5 (eV 3) (Fx.e1 aT1 (zI 1))) (zI 1)) aN)) (aC (c_0 (aC (zR "count") aN)) aN))))) (aC (c_0 (aC (zR "ask") (aC (zR "yb") (aC (c_0 (aC (zR "ya") aN)) (aC (c_0 aN) aN))))) aN)))) (b_7 (sIf (tB (e2 dNe (eF c_8 (aC (e2 i_1 (eV 3) (eV 5)) aN)) (c_0 (aC (zR "done") (aC (eC .non) aN))))) (g_0 (eC (.bl false))) sN) (b_7 (sIf (tB (e2 dEq (e2 i_7 (eFb 1 a_1 aN) (zI 2)) (zI 1))) (d_5 10 (eFb 1 f_4 (aC (eV 4) (aC (eV 2) aN)))) (d_5 10 (eFb 1 e_2 (aC (eV 4) (aC (eV 2) aN))))) an3)))))):=rfl;rw[em] at d2 tl;by_cases c:r5.fmod 2=1
 ·obtain⟨r,r',o6,e6,sh,g6⟩:=aW3 O g5 hp sub y.n;obtain⟨ρ,Z⟩:=tl [⟨nxa,.one y.n r',25⟩] ⟨nxb,.one nxa r,25⟩ o6 g6 (as6 h0 hy sh) (as6 h2 hy sh) (λ x hx=>by
   simp only[jg,jm,zj,zk,yp] at hx;rcases hx with rfl | rfl <;> rfl) (by show 1<=2;decide)
  have Z:an3 [.im (.lst (ns.map .int)),.ow false o6,.im (.lst (q.map .str)),.im (.lst (J.map b_1)),.im (.str y.n),_,.no,.no,.no,.no,.im (.lst [dRw (.str nxa) (.tup [.str y.n]) r',dRw (.str nxb) (.tup [.str nxa]) r])]=some (.rt (.bl true) ρ):=Z;simp[ac7,hb,List.replicate,e0,e1,aa,e3,e4,rz,ad,hj,a1,ry,a2,ae,z1,d2,e5,c,e6,Z]
 ·obtain⟨pre,b,o6,e6,db,g6⟩:=ap7 O g5 hp sub y.n;have ac:(∀ x∈pre++[b],isC x.b=true)/\pre.length<=2:=by
   rcases db with ⟨r,_,_,rfl,hb⟩ | ⟨rfl,rfl⟩
   ·refine⟨λ x hx=>?_,by show 1<=2;decide⟩;simp only[jg,jm,zj,zk,yp] at hx;rcases hx with rfl | rfl
    ·rfl
    ·rcases hb with rfl | rfl <;> rfl
   ·refine⟨λ x hx=>?_,by show 2<=2;decide⟩;simp only[jg,jm,zj,zk,yp] at hx;rcases hx with rfl | rfl | rfl <;> rfl
  obtain⟨ρ,Z⟩:=tl pre b o6 g6 (aS9 h0 hy db) (aS9 h2 hy db) ac.1 ac.2;generalize (pre++[b]).map b_1=Q at e6 Z;simp[ac7,hb,List.replicate,e0,e1,aa,e3,e4,rz,ad,hj,a1,ry,a2,ae,z1,d2,e5,c,e6,Z]
end Fx
namespace Fx
open PySem PySem.Spec PyProof.Rows L2
theorem U_8 {K:Frag}{H:Hp}:∀ ns:List Int,Reps K H (ns.map D.int) (ns.map V.int)
 |[]=>Reps.nil_
 |n::r=>Reps.cons (f_7 H n) (U_8 r)
inductive EntF (K:Frag) (x:Str) (st:Stmt) (f:Addr):Prop
 |mk {od an:Option Addr}{sl:Array (Option Value)}{oc kV dc pm cd ct:Value} (a:nsIn K mainGlobals x=some (some (.ref f))) (l:K.lookup f=some ⟨oc,od,.func (fnOf x x (w_4 st) (k_2 st) (a_2 st) .none kV dc pm an cd ct),sl⟩) (c:codeIn K cd x=true) (k:keepIn K (.ref f)=true):EntF K x st f
inductive EntI (K:Frag) (st:Stmt) (f:Addr):Prop
 |mk {od an:Option Addr}{sl:Array (Option Value)}{oc kV dc pm cd ct:Value} (l:K.lookup f=some ⟨oc,od,.func (fnOf "__init__" "NoWorks.__init__" (w_4 st) (k_2 st) (a_2 st) .none kV dc pm an cd ct),sl⟩) (c:codeIn K cd "NoWorks.__init__"=true) (k:keepIn K (.ref f)=true):EntI K st f
theorem us0 {P:List Value->Prop} (h:P []) (us:List Value) (l:us.length=0):P us:=by
 cases us with
 |nil=>exact h
 |cons=>cases l
theorem usS {n:Nat}{P:List Value->Prop} (h:∀ a us,us.length=n->P (a::us)) (us:List Value) (l:us.length=n+1):P us:=by
 cases us with
 |nil=>cases l
 |cons a r=>exact h a r (Nat.succ.inj l)
theorem dn {K:Frag}{mg:Str->Option Value}{x:Str}{st:Stmt}{f:Addr}{ps:List Str} (N:∀ {x v},nsIn K mainGlobals x=some (some v)->mg x=some v) (e:EntF K x st f) (h:∀ (kV J Y:Value) (O:Option Addr) (q ct:Value) (us:List Value),us.length=ps.length->bindArgs (fnOf x x (w_4 st) (k_2 st) (a_2 st) .none kV J Y O q ct) ⟨us,[]⟩=pure (ps.zip us):=by intro _ _ _ _ _ _;(repeat' refine usS λ _=>?_);exact us0 rfl):Dn K mg x st ps:=by obtain⟨a,l,c,k⟩:=e;have F:=d_4 (st:=st) l c k;exact⟨_,_,F,F.binds h,N a⟩
theorem all_mk {l:OpenLaw}{w:World}{K:Frag}{h:Heap}{mg:Str → Option Value} (X:K.In h) (G:h.Ns mainGlobals mg) (ay:mg "law"=some (.ref fa))
  (e1:EntF K "keys_hold" r_3 f1)
  (e2:EntF K "keys_meet" f_6 f2)
  (e3:EntF K "keys_put_back" e_4 f3)
  (e4:EntF K "stretch_made" m_3 f4)
  (e5:EntF K "is_between" p_4 f5)
  (e6:EntF K "stretch_has" n_1 f6)
  (e7:EntF K "lower_bound" n_2 f7)
  (e8:EntF K "upper_bound" n_0 f8)
  (e9:EntF K "stretch_between" j_0 f9)
  (a9:EntF K "stretch_moved" g_9 f10)
  (b6:EntF K "divisor_and_factor" g_7 f11)
  (bw:EntF K "stretch_back" m_4 f12)
  (b2:EntF K "stretch_meet" m_2 f13)
  (cb:EntF K "box_made" u_0 f14)
  (al:EntF K "box_meet" t_9 f15)
  (bg:EntF K "box_sieved" p_5 f16)
  (b5:EntF K "box_later" r_4 f17)
  (bf:EntF K "row_back" t_5 f18)
  (as:EntF K "row_named" r_0 f19)
  (ao:EntF K "in_box" D_9 f20)
  (bo:EntF K "ways_back" j_8 f21)
  (ar:EntF K "origins_of" p_0 f22)
  (aw:EntF K "one_comes_twice" j_1 f23)
  (av:EntF K "check_works" n_5 f24)
  (ax:EntF K "_law_cell_at" n_4 f25)
  (bq:EntF K "_law_mixed" r_1 f26)
  (br:EntF K "_law_draws" r_2 f27)
  (bc:EntF K "_law_next" t_8 f28)
  (b3:EntF K "_law_pool" o_1 f29)
  (bx:EntF K "_law_unlike" k_3 f30)
  (ak:EntF K "_law_bounds" p_3 f31)
  (b7:EntF K "_law_sieve" l_9 f32)
  (bi:EntF K "_law_parted" p_1 f33)
  (bu:EntF K "_law_poured" k_4 f34)
  (bn:EntF K "_law_chains" h_0 f35)
  (bj:EntF K "_law_let_by" p_2 f36)
  (a7:EntF K "_law_shut" t_7 f37)
  (ba:EntF K "_law_doubled" n_3 f38)
  (be:EntF K "_law_told" t_6 f39)
  (a5:EntF K "law" aa8 f40)
  (q:K.lookup ec11=some ⟨.type "tuple",none,.seq #[] nec11,slec11⟩) (ag:K.lookup ec1=some ⟨.type "tuple",none,.seq #[.str "but" tec10,.ref ec11] nec1,slec1⟩) (y1:nsIn K mainGlobals "EVERY_KEY"=some (some (.ref ec1))) (Z:K.lookup ec2=some ⟨.type "tuple",none,.seq #[.none,.none,.int 1 tec22,.int 0 tec23] nec2,slec2⟩) (y2:nsIn K mainGlobals "EVERY_VALUE"=some (some (.ref ec2))) (af:K.lookup ec3=some ⟨.type "tuple",none,.seq #[.str "in" tec30,.str "time" tec31,.str "only" tec32,.str "but" tec33,.str "span" tec34,.str "rest" tec35,.str "turn" tec36,.str "later" tec37,.str "put" tec38,.str "pour" tec39] nec3,slec3⟩) (y3:nsIn K mainGlobals "CHAINS"=some (some (.ref ec3)))
  (q0:nsIn K mainGlobals "NoWorks"=some (some (.ref u0)))
  (q2:nsIn K mainGlobals "WellError"=some (some (.ref u2)))
  (q3:PySem.W.findIn K (.ref u0) "__init__"=some (some (.ref u3)))
  (q4:EntI K ag7 u3)
  (q5:ap6 K u0 u3=true)
  (q6:clV K u0=true)
  (q7:PySem.W.findIn K (.ref u0) "__setattr__"=some (some (.builtin "object.__setattr__")))
  (q8:PySem.W.findIn K (.ref u0) "at"=some none)
  (q9:PySem.W.findIn K (.ref u0) "__getattribute__"=some (some (.builtin "BaseException.__getattribute__")))
  (au:PySem.W.findIn K (.ref u0) "__getattr__"=some none)
  (b1:PySem.W.findIn K (.ref u0) "__class__"=some (some (.builtin "object.__class__")))
  (an:PySem.W.specialIn K (.builtin "object.__class__") "__get__"=some (some (.builtin "getset_descriptor.__get__")))
  (ap:PySem.W.takesIn K (.builtin "object.__class__")=some true)
  (ad:PySem.W.mroIn K u0 (.type "object")=some true)
  (ai:PySem.W.mroIn K u0 (.type "BaseException")=some true)
  (b9:PySem.W.exmOne K (.ref u0) (.ref u2)=some true)
  (a4:PySem.W.kitOne K (.ref u0) (.ref u0)=some true)
  (b4:PySem.W.kitOne K (.type "NoneType") (.ref u0)=some false)
  (a6:PySem.W.exmOne K (.ref u0) (.ref u0)=some true)
  (r1:nsIn K mainGlobals "NoText"=some (some (.ref v1)))
  (r2:nsIn K mainGlobals "NoCell"=some (some (.ref v2)))
  (r3:nsIn K mainGlobals "NoComing"=some (some (.ref v3)))
  (r4:nsIn K mainGlobals "NoPaper"=some (some (.ref v4)))
  (w1:PySem.W.kitOne K (.ref u0) (.ref v1)=some false)
  (w2:PySem.W.kitOne K (.ref u0) (.ref v2)=some false)
  (w3:PySem.W.kitOne K (.ref u0) (.ref v3)=some false)
  (w4:PySem.W.kitOne K (.ref u0) (.ref v4)=some false)
  (r8:PySem.W.kitOne K (.ref u0) (.type "ValueError")=some true)
  (r9:nsIn K mainGlobals "ValueError"=some none)
  (z1:nsIn K mainGlobals "abs"=some none) (z2:nsIn K mainGlobals "len"=some none) (z3:nsIn K mainGlobals "max"=some none) (z4:nsIn K mainGlobals "min"=some none) (z5:nsIn K mainGlobals "any"=some none) (z6:nsIn K mainGlobals "all"=some none) (z7:nsIn K mainGlobals "range"=some none) (z8:nsIn K mainGlobals "isinstance"=some none) (z9:nsIn K mainGlobals "int"=some none) (bh:nsIn K mainGlobals "bool"=some none) (bz:nsIn K mainGlobals "str"=some none) (aq:nsIn K mainGlobals "tuple"=some none) (a2:nsIn K mainGlobals "list"=some none) (am:nsIn K mainGlobals "sorted"=some none) (bv:nsIn K mainGlobals "dict"=some none) (az:nsIn K mainGlobals "set"=some none) (a8:nsIn K mainGlobals "sum"=some none) (a1:nsIn K mainGlobals "zip"=some none) (b0:nsIn K mainGlobals "enumerate"=some none) (aj:nsIn K mainGlobals "reversed"=some none) :
  ∃ fd:FuncData,(∀ (s:Shared) (v:Value),BindsTo s fd ⟨[v],[]⟩ [("_law_script",v)]) ∧ ∀ base:Heap,K.In base → base.Ns mainGlobals mg → FnOk l.prog w K mg base CX0 35 fa fd ["_law_script"] (spP K ac7):=by
 obtain @⟨ce,ae,cc,cf,ah,aa,Y,ac,J,b8,a0,bp,a3⟩:=a5;have e:=ay.symm.trans (mg_of X G b8);cases e;obtain⟨li,ci,ki⟩:=q4;have FI:=d_4 (st:=ag7) li ci ki;have bI:=FI.binds (ps:=["self","at"]) λ _ _ _ _ _ _=>usS λ _=>usS λ _=>us0 rfl;have M:∀ {x},nsIn K mainGlobals x=some none->mg x=none:=mg_none_of X G;have N:∀ {x v},nsIn K mainGlobals x=some (some v)->mg x=some v:=mg_of X G;have T:Blt w K mg:=⟨M z1,M z2,M z3,M z4,M z5,M z6,M z7,M z8,M z9,M bh,M bz,M aq,M a2,M am,M bv,M az,M a8,M a1,M b0,M aj,⟨_,N y1,(aj6 ag (by simp) (g_8 t_3 (g_8 (aj6 q (by simp) P_9) P_9)))⟩,⟨_,N y2,(aj6 Z (by simp) (g_8 aR5 (g_8 aR5 (g_8 aR6 (g_8 aR6 P_9)))))⟩,⟨_,N y3,(aj6 af (by simp) (g_8 t_3 (g_8 t_3 (g_8 t_3 (g_8 t_3 (g_8 t_3 (g_8 t_3 (g_8 t_3 (g_8 t_3 (g_8 t_3 (g_8 t_3 P_9)))))))))))⟩,⟨u0,u2,u3,_,v1,v2,v3,v4,⟨N q0,N q2,q5,⟨q7,q8,bv6 q6⟩,⟨bv5 ad,q9,au,b1,an,ap,ad,ai⟩,b9,a4,b4,FI,bI⟩,a6,N r1,N r2,N r3,N r4,w1,w2,w3,w4,r8,M r9⟩⟩;have F40:=d_4 (st:=aa8) a0 bp a3;refine⟨fnOf "law" "law" (w_4 aa8) (k_2 aa8) (a_2 aa8) .none ah aa Y ae ac J,λ s v=>.of_eq rfl,λ base _ _=>?_⟩
 let D:=DefOk l.prog w K mg base
 have G1:D _ _ _:=W_1 (dn N e1) T;have G3:D _ _ _:=D_1 (dn N e3) T;have O:D _ _ _:=F_9 (dn N e4) T;have G5:D _ _ _:=O_8 (dn N e5) T;have G7:D _ _ _:=J_0 (dn N e7) T;have G8:D _ _ _:=I_8 (dn N e8) T;have G11:D _ _ _:=s_9 (dn N b6) T;have G14:D _ _ _:=ac1 (dn N cb) T;have G19:D _ _ _:=V_6 (dn N as) T;have G25:D _ _ _:=J_2 (dn N ax) T;have G26:D _ _ _:=V_8 (dn N bq) T;have G6:D _ _ _:=I_9 (dn N e6) T G5;have G9:D _ _ _:=y_1 (dn N e9) T G7 O G8;have G10:D _ _ _:=D_0 (dn N a9) T O;have G12:D _ _ _:=G_0 (dn N bw) T G11 O;have G16:D _ _ _:=O_9 (dn N bg) T G14 O;have G17:D _ _ _:=W_2 (dn N b5) T G14;have G20:D _ _ _:=ax1 (dn N ao) T G14 O;have G27:DefN l.prog w K mg base 2 "_law_draws" k_0:=V_9 (dn N br) T G25;have G28:DefB l.prog w K mg base 2 "_law_next" a_1:=ab9 (dn N bc) T G25 G26;have G13:D _ _ _:=F_8 (dn N b2) T G12 G9 G10;have G29:DefB l.prog w K mg base 3 "_law_pool" m_0:=ab8 (dn N b3) T G28;have G30:DefB l.prog w K mg base 3 "_law_unlike" e_6:=O_2 (dn N bx) T G28;have G31:DefB l.prog w K mg base 3 "_law_bounds" c_2:=O_7 (dn N ak) T G28;have G33:DefBN l.prog w K mg base 3 "_law_parted" k_5:=O_4 (dn N bi) T G28;have G38:DefB l.prog w K mg base 3 "_law_doubled" e_2:=J_1 (dn N ba) T G28;have G2:D _ _ _:=W_0 (dn N e2) T G1;have G32:DefB l.prog w K mg base 4 "_law_sieve" c_3:=V_7 (dn N b7) T G31 G28 G30;have G37:DefB l.prog w K mg base 4 "_law_shut" f_4:=ab7 (dn N a7) T G28 G30;have G15:D _ _ _:=ac0 (dn N al) T G14 G2 G13 G8;have G34:DefB l.prog w K mg base 5 "_law_poured" f_1:=O_3 (dn N bu) T G28 G33 G32;have G18:D _ _ _:=ab5 (dn N bf) T G17 G14 G15 G16 G3 G12;have G23:D _ _ _:=y_2 (dn N aw) T G15;have G35:DefB l.prog w K mg base 6 "_law_chains" h_6:=O_6 (dn N bn) T G31 G28 G34 G32 G30;have G21:D _ _ _:=V_5 (dn N bo) T G15 G20 G18 G19;have G22:D _ _ _:=O_1 (dn N ar) T G14 G21;have G24:DefX l.prog w K mg base 33 "check_works" c_1:=G_1 (dn N av) T G23 G22;have G36:D _ _ _:=O_5 (dn N bj) T G24;have G39:D _ _ _:=ab6 (dn N be) T G24;exact bs4 F40 T G35 G38 G27 G36 G28 G29 G37 G39
theorem walk {l:OpenLaw}{q:Program}{J:List Str}{XP:(Str->Option Value)->Heap->Prop}{Y:World->Heap->Prop}{d:DefRec}{K:Params->Frag} (hn:l.most=some 63) (O:d.params.defaults=[])
  (hY:∀ (w:World) (h:Heap),Y w h->(K w.params).In h)
  (F:∀ (w:World) (mg:Str->Option Value) (Z:Addr) (h:Heap),(K w.params).In h->h.Ns mainGlobals mg->mg d.name=some (.ref Z) ->
   ∃ fd:FuncData,(∀ (s:Shared) (u:Value),BindsTo s fd ⟨[u],[]⟩ [("_law_script",u)]) ∧ ∀ base:Heap,(K w.params).In base → base.Ns mainGlobals mg → FnOk l.prog w (K w.params) mg base CX0 35 Z fd ["_law_script"] (spP (K w.params) ac7)) :
  PySem.W.WalkO q J XP Y l.row.toRowW d [] (λ f vs=>PySem.call f vs) :=
 L2.walk_of (n:=63) (k:=35) (x:="_law_script") (CX:=λ _=>CX0) (sp:=λ w=>spP (K w.params) ac7) hn (by decide) O ⟨rfl,by decide,by decide⟩ hY F
  (λ w H a ns hl _ hS=>⟨H,[.lst (ns.map .int)],.bl true,Same.refl _,Reps.one (by unfold Rep;exact⟨a,_,rfl,hS,U_8 ns⟩),law_true ns hl,λ v Hi' H' S r=>by unfold Rep at r;exact r⟩) λ _ _ _ _ _ z=>z
end Fx
open PySem PySem.W PyProof.Rows
def PySem.W.Fast.tw13161276243220843:=Nat
def PySem.W.Fast.tw4914381571614745308:=Nat
def PySem.W.Fast.tw14665377421563556380:=Nat
def PySem.W.Fast.tw6266649855402829345:=Nat
def PySem.W.Fast.tw15757096107153986951:=Nat
def PySem.W.Fast.tw7447208823844544947:=Nat
def PySem.W.Fast.tw11725925435156411472:=Nat
def PySem.W.Fast.tw2711461093841254263:=Nat
def PySem.W.Fast.tw5493620462446018141:=Nat
def PySem.W.Fast.tw5604828760866582871:=Nat
def PySem.W.Fast.tw12294139694142988235:=Nat
def PySem.W.Fast.tw16589594273348450746:=Nat
def PySem.W.Fast.tw14509462562803391503:=Nat
def PySem.W.Fast.tw15769866514291428266:=Nat
def PySem.W.Fast.tw16361474481444579101:=Nat
def PySem.W.Fast.tw14976277724931192333:=Nat
def PySem.W.Fast.tw1484237834998743580:=Nat
def PySem.W.Fast.tw9698893594882457627:=Nat
def PySem.W.Fast.tw393558766450346500:=Nat
def PySem.W.Fast.tw3105227517926814617:=Nat
def PySem.W.Fast.tw1965743285197033278:=Nat
def PySem.W.Fast.tw3849916419751243560:=Nat
def PySem.W.Fast.tw1859312299926868600:=Nat
def PySem.W.Fast.tw4718080946913237281:=Nat
def PySem.W.Fast.tw2518777939648636757:=Nat
def PySem.W.Fast.tw3113205856710706292:=Nat
def PySem.W.Fast.tw4474287542323146042:=Nat
def PySem.W.Fast.tw3423126901573279610:=Nat
def PySem.W.Fast.tw7064630380855155598:=Nat
def PySem.W.Fast.tw14829294956519833167:=Nat
def PySem.W.Fast.tw4934200303618255145:=Nat
def PySem.W.Fast.tw8249753294256352526:=Nat
def PySem.W.Fast.tw5855049809236568417:=Nat
def PySem.W.Fast.tw12907566803018828408:=Nat
def PySem.W.Fast.tw16064128241628510395:=Nat
def PySem.W.Fast.tw3388414257538823063:=Nat
def PySem.W.Fast.tw9518713811916771629:=Nat
def PySem.W.Fast.tw11019957508254964836:=Nat
def PySem.W.Fast.tw12729980092608434002:=Nat
def PySem.W.Fast.tw1641504278253059399:=Nat
def PySem.W.Fast.tw17468264609585750270:=Nat
def PySem.W.Fast.tw623782930266685169:=Nat
def PySem.W.Fast.tw12742623243989793884:=Nat
def PySem.W.Fast.tw15210090718258343789:=Nat
def PySem.W.Fast.tw10214815466806894090:=Nat
def PySem.W.Fast.tw18130931952566837779:=Nat
def PySem.W.Fast.tw14540363705125403458:=Nat
def PySem.W.Fast.tw4965468353086208344:=Nat
def PySem.W.Fast.tw10461950540081690144:=Nat
def PySem.W.Fast.tw6488014162035483681:=Nat
def PySem.W.Fast.tw9891547827460747290:=Nat
def PySem.W.Fast.tw6389248902994009273:=Nat
def PySem.W.Fast.tw17507089490254394355:=Nat
def PySem.W.Fast.tw11500899445117765101:=Nat
def PySem.W.Fast.tw18421525089040766167:=Nat
def PySem.W.Fast.tw15729936781253088296:=Nat
def PySem.W.Fast.tw11248438493987201245:=Nat
def PySem.W.Fast.tw7306395003864541417:=Nat
def PySem.W.Fast.tw8169377204494482487:=Nat
def PySem.W.Fast.tw6935901487012111898:=Nat
def PySem.W.Fast.tw328833314587038078:=Nat
def PySem.W.Fast.tw5856096546192286416:=Nat
def PySem.W.Fast.tw18394826196770402799:=Nat
def PySem.W.Fast.tw7312341442563679794:=Nat
def PySem.W.Fast.tw16995724727284982442:=Nat
def PySem.W.Fast.tw18013505009153709177:=Nat
def PySem.W.Fast.tw15401944060790720524:=Nat
def PySem.W.Fast.tw5048623589739080369:=Nat
def PySem.W.Fast.tw695412467020060920:=Nat
def PySem.W.Fast.tw18079190222468458270:=Nat
def PySem.W.Fast.tw4647523512940688409:=Nat
def PySem.W.Fast.tw16941851053705622946:=Nat
def PySem.W.Fast.tw7112147686743517124:=Nat
def PySem.W.Fast.tw13138170129354710201:=Nat
def PySem.W.Fast.tw13888425096101463639:=Nat
def PySem.W.Fast.tw1224059970678317848:=Nat
def PySem.W.Fast.tw6673650464937140988:=Nat
def PySem.W.Fast.tw9943696728520350301:=Nat
def PySem.W.Fast.tw14373821707912122120:=Nat
def PySem.W.Fast.tw15332285412819646129:=Nat
def PySem.W.Fast.tw17726219072450633637:=Nat
def PySem.W.Fast.tw13972252799808187351:=Nat
def PySem.W.Fast.tw572854818894497680:=Nat
def PySem.W.Fast.tw15744206404491004127:=Nat
def PySem.W.Fast.tw5768574349816231017:=Nat
def PySem.W.Fast.tw4564493131366465892:=Nat
def PySem.W.Fast.tw18005569788668643894:=Nat
def PySem.W.Fast.tw16213238229157836433:=Nat
def PySem.W.Fast.tw16930742340822124272:=Nat
def PySem.W.Fast.tw13714150362379649422:=Nat
def PySem.W.Fast.tw6554453369800488972:=Nat
def PySem.W.Fast.tw16947445824439122607:=Nat
def PySem.W.Fast.tw3180879724993874044:=Nat
def PySem.W.Fast.tw7783941066545542854:=Nat
def PySem.W.Fast.tw12471762000217353925:=Nat
def PySem.W.Fast.tw9235702905832759704:=Nat
def PySem.W.Fast.tw16628577733021826290:=Nat
def PySem.W.Fast.tw11436010848369152719:=Nat
def PySem.W.Fast.tw13304324413248749665:=Nat
def PySem.W.Fast.tw17872630928421652721:=Nat
def PySem.W.Fast.tw14446162829388204148:=Nat
def PySem.W.Fast.tw13759687181819254560:=Nat
def PySem.W.Fast.tw1502519776535902231:=Nat
def PySem.W.Fast.tw11351428843264599976:=Nat
def PySem.W.Fast.tw8271887179447568355:=Nat
def PySem.W.Fast.tw7402456102394717661:=Nat
def PySem.W.Fast.tw4615217836839836677:=Nat
def PySem.W.Fast.tw3926835888835424265:=Nat
def PySem.W.Fast.tw9504324184620576011:=Nat
def PySem.W.Fast.tw12944489182526851360:=Nat
def PySem.W.Fast.tw8058546674669940135:=Nat
def PySem.W.Fast.tw2932491838145011991:=Nat
def PySem.W.Fast.tw11515699975629221877:=Nat
def PySem.W.Fast.tw11494992395403141103:=Nat
def PySem.W.Fast.tw9554184344888977601:=Nat
def PySem.W.Fast.tw10203415754219733544:=Nat
def PySem.W.Fast.tw3530889160729310676:=Nat
def PySem.W.Fast.tw9933990170496031543:=Nat
def PySem.W.Fast.tw13577478062463630523:=Nat
def PySem.W.Fast.tw11869932572082462250:=Nat
def PySem.W.Fast.tw4908066750128909040:=Nat
def PySem.W.Fast.tw4204390393365749078:=Nat
def PySem.W.Fast.tw15637687422690571363:=Nat
def PySem.W.Fast.tw12438652507815260540:=Nat
def PySem.W.Fast.tw10403926540507088473:=Nat
def PySem.W.Fast.tw5385698207790579663:=Nat
def PySem.W.Fast.tw12039163775134127643:=Nat
def PySem.W.Fast.tw9619822671285786045:=Nat
def PySem.W.Fast.tw7019801119936232108:=Nat
def PySem.W.Fast.tw1946571991739290878:=Nat
def PySem.W.Fast.tw17542640126104069166:=Nat
def PySem.W.Fast.tw15575941427938233709:=Nat
def PySem.W.Fast.tw8861790276228615520:=Nat
def PySem.W.Fast.tw1910035284482379377:=Nat
def PySem.W.Fast.tw1421737472216297906:=Nat
def PySem.W.Fast.tw10074790781135180062:=Nat
def PySem.W.Fast.tw15012168917231756639:=Nat
def PySem.W.Fast.tw12455892097683070527:=Nat
def PySem.W.Fast.tw6620484416136663110:=Nat
def PySem.W.Fast.tw2575316654415854414:=Nat
def PySem.W.Fast.tw9526091719968597011:=Nat
def PySem.W.Fast.tw18219378357521128852:=Nat
def PySem.W.Fast.tw14360850381500012376:=Nat
def PySem.W.Fast.tw8275222612952680470:=Nat
def PySem.W.Fast.tw7382165484694056963:=Nat
def PySem.W.Fast.tw15701107733095224707:=Nat
def PySem.W.Fast.tw14558062705535637469:=Nat
def PySem.W.Fast.tw1310266581459458770:=Nat
def PySem.W.Fast.tw9869138861236046164:=Nat
def PySem.W.Fast.tw10240568285730361191:=Nat
def PySem.W.Fast.tw6182443963248507156:=Nat
def PySem.W.Fast.tw17615665608540180220:=Nat
def PySem.W.Fast.tw14849787161195021975:=Nat
def PySem.W.Fast.tw4531643968799016988:=Nat
def PySem.W.Fast.tw3936286521082938001:=Nat
def PySem.W.Fast.tw16497921191542481803:=Nat
def PySem.W.Fast.tw14887142731038817305:=Nat
def PySem.W.Fast.tw12977739008416933655:=Nat
def PySem.W.Fast.tw12862720588268203975:=Nat
def PySem.W.Fast.tw9063846157378035780:=Nat
def PySem.W.Fast.tw14133305522817288567:=Nat
def PySem.W.Fast.tw9928142181753349073:=Nat
def PySem.W.Fast.tw11331610962487472337:=Nat
def PySem.W.Fast.tw10761839518566190891:=Nat
def PySem.W.Fast.tw7728821691406659619:=Nat
def PySem.W.Fast.tw6688764954022049397:=Nat
def PySem.W.Fast.tw6685607041568576668:=Nat
def PySem.W.Fast.tw4294681756345382069:=Nat
def PySem.W.Fast.tw3020893562014756433:=Nat
def PySem.W.Fast.tw2517766230023388049:=Nat
def PySem.W.Fast.tw15752456111506616093:=Nat
def PySem.W.Fast.tw15323767527819758314:=Nat
def PySem.W.Fast.tw11201412649442266749:=Nat
def PySem.W.Fast.tw10800393301583369248:=Nat
def PySem.W.Fast.tw9813552767040692845:=Nat
def PySem.W.Fast.tw9308359296007824306:=Nat
def PySem.W.Fast.tw8825594295123605096:=Nat
def PySem.W.Fast.tw8435811922457487082:=Nat
def PySem.W.Fast.tw8325306822706023389:=Nat
def PySem.W.Fast.tw7826783002584853671:=Nat
def PySem.W.Fast.tw7318607063376229173:=Nat
def PySem.W.Fast.tw6236731381178200687:=Nat
def PySem.W.Fast.tw5996834390812195218:=Nat
def PySem.W.Fast.tw5738977274465435765:=Nat
def PySem.W.Fast.tw5135513350081316447:=Nat
def PySem.W.Fast.tw4782328107554381611:=Nat
def PySem.W.Fast.tw3966218062926786452:=Nat
def PySem.W.Fast.tw3754802107237821081:=Nat
def PySem.W.Fast.tw3693920896113689293:=Nat
def PySem.W.Fast.tw3138343374101766806:=Nat
def PySem.W.Fast.tw3059012179757863844:=Nat
def PySem.W.Fast.tw2509004205837871363:=Nat
def PySem.W.Fast.tw2324758126062086627:=Nat
def PySem.W.Fast.tw1818302754362215625:=Nat
def PySem.W.Fast.tw17743297563909986520:=Nat
def PySem.W.Fast.tw17719674836496312720:=Nat
def PySem.W.Fast.tw17490372767597074254:=Nat
def PySem.W.Fast.tw17426742763795887523:=Nat
def PySem.W.Fast.tw16856663436805725204:=Nat
def PySem.W.Fast.tw16515648669218356240:=Nat
set_option maxRecDepth 100000 in
set_option maxHeartbeats 0 in
theorem PySem.Challenge.cw_latewell_k45_works_refused_holds : PySem.Challenge.rw_latewell_k45_works_refused.Holds := by
 w_on;o_law;k_head;(case hw=>w_witness2)
 k_fill
 refine Fx.walk (l:=PySem.Challenge.rw_latewell_k45_works_refused) rfl rfl (λ w h Y=>PySem.W.kIn_of Y) ?F
 case F =>
  intro w mg fa h KX G hmg;refine' Fx.all_mk KX G hmg ?e1 ?e2 ?e3 ?e4 ?e5 ?e6 ?e7 ?e8 ?e9 ?e10 ?e11 ?e12 ?e13 ?e14 ?e15 ?e16 ?e17 ?e18 ?e19 ?e20 ?e21 ?e22 ?e23 ?e24 ?e25 ?e26 ?e27 ?e28 ?e29 ?e30 ?e31 ?e32 ?e33 ?e34 ?e35 ?e36 ?e37 ?e38 ?e39 ?e40 ?lec11 ?lec1 ?y1 ?lec2 ?y2 ?lec3 ?y3 ?q0 ?q2 ?q3 ?q4 ?q5 ?q6 ?q7 ?q8 ?q9 ?q10 ?q11 ?q12 ?q13 ?q14 ?q15 ?q16 ?q17 ?q18 ?q19 ?r1 ?r2 ?r3 ?r4 ?w1 ?w2 ?w3 ?w4 ?r8 ?r9 ?z1 ?z2 ?z3 ?z4 ?z5 ?z6 ?z7 ?z8 ?z9 ?z10 ?z11 ?z12 ?z13 ?z14 ?z15 ?z16 ?z17 ?z18 ?z19 ?z20
  all_goals try (refine' Fx.EntF.mk ?a ?l ?c ?k;(case a=>k_is);(case l=>k_is);(case c=>k_is);(case k=>k_is))
  (case y1 | y2 | y3 | lec1 | lec2 | lec3 | lec11 | q0 | q2 | q3=>k_is)
  (case q4=>refine' Fx.EntI.mk ?l ?c ?k;(case l=>k_is);(case c=>k_is);(case k=>k_is))
  (case q5=>kernel_rfl)
  (case q6=>kernel_rfl)
  (case q7 | q8 | q9 | q10 | q11 | q12 | q13 | q14 | q15=>k_is)
  (case q16=>kts_exm)
  (case q17=>kit_is)
  (case q18=>kit_is)
  (case q19=>kts_exm)
  (case r1 | r2 | r3 | r4=>k_is)
  (case w1=>kit_is)
  (case w2=>kit_is)
  (case w3=>kit_is)
  (case w4=>kit_is)
  (case r8=>kit_is)
  (case r9 | z1 | z2 | z3 | z4 | z5 | z6 | z7 | z8 | z9 | z10 | z11 | z12 | z13 | z14 | z15 | z16 | z17 | z18 | z19 | z20=>k_is)

