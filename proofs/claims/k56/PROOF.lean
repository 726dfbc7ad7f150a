import PyProof.Rows.All
import Wide.All
import OpenK.AllK
import Wide.FinOn
import Lean
import PyProof.EqAt
import PyProof.EqKinds
import PyProof.TupleCall
import PySem.Sem
import PySem.Builtin.Int.W1All
import PyProof.StrBlockI
import PyProof.StrBlock2
import KE.KEqDict
import KE.KDictOf
import PyProof.Rows.SortStr
import PyProof.TupleOfSeq
import PyProof.AttrMissHeap
import PyProof.TupleIter
import PyProof.DictUpdate
import PyProof.ListNew
import KE.KSortTup
import KE.KIntText
import PyProof.SetKind
import PyProof.DictKinds
import PyProof.SeqWrite
import PyProof.CollectWalk
import PyProof.FactsAll.set_1
import PyProof.FactsAll.set_2
import PyProof.FactsAll.set_3
import PyProof.Rows.SetFrom
import PyProof.Walks
import PyProof.WalksS
import PyProof.FactsAll.tuple_iterator
import KE.KDictList
import PyProof.Rows.StrNews
import PyProof.Rows.StrItems
import PyProof.EnumMake
import PyProof.EnumFor
import PyProof.EnumStmt
import PyProof.EnumIter
import KE.KRevIter
import PyProof.SetRoads
import PyProof.ZipIter
import PyProof.Rows.TupIter
import PyProof.TupleOfGen
import PyProof.Rows.SumAny
import KE.KDictLaws
import PyProof.Rows.SortWalk
import PyProof.AutoSeq1
import PyProof.Rows.TupTab
import PyProof.DictItems
import KE.KPairComp
import PyProof.ListRange
import PyProof.InstStoreFacts
import PyProof.LayNew
import PyProof.ExcInit
import PyProof.ExcClass3
import PyProof.DictRoadsH
import PySem.Challenge.RW_latewell_k56_no_such_cell
set_option compiler.extract_closed false
set_option genSizeOfSpec false
set_option genSizeOf false
set_option genInjectivity false
set_option Elab.async false
set_option linter.all false
set_option maxRecDepth 100000
set_option maxHeartbeats 4000000
noncomputable section
open PySem.W (Frag nsIn mg_of mg_none_of fnOf codeIn keepIn OpenLaw)
section
open PySem PyProof.Rows
abbrev qj:=@wpAny_bind
abbrev qk:=@wpAny_pure
abbrev ql:=@Heap.get?_push_of_some
abbrev qm:=@List.mem_cons_self
abbrev qo:=@List.mem_cons_of_mem
abbrev qp:=@Option.some.inj
abbrev qr:=@Nat.le_refl
abbrev qt:=@Heap.get?_push_size
abbrev qv:=@Heap.lt_size
abbrev qw:=@List.mem_append_right
abbrev qx:=@Nat.lt_of_lt_of_le
abbrev qy:=@Nat.ne_of_lt
theorem qz{α:Type _}{a b:α}{l:List α}(h:a∈b::l):a=b\/a∈l:=List.mem_cons.mp h
theorem zb{α:Type _}{a:α}{l k:List α}(h:a∈l++k):a∈l\/a∈k:=List.mem_append.mp h
abbrev zc:=@Bool.false_ne_true
abbrev zd:=@List.length_map
abbrev ze:=@List.map_cons
abbrev zf:=@List.size_toArray
abbrev zg:=@List.not_mem_nil
abbrev zh:=@List.length_append
abbrev zi:=@List.length_cons
abbrev zj:=@Bool.and_eq_true
abbrev zl:=@List.mem_cons
abbrev zn:=@decide_eq_false
abbrev zo:=@List.getElem?_eq_getElem
abbrev zq:=@List.length_singleton
abbrev zr:=@List.getElem?_set_self
abbrev zu:=@decide_eq_true
abbrev zv:=@PySem.wpAny_mono
abbrev zw:=@List.append_nil
abbrev zx:=@Nat.zero_le
abbrev zy:=@List.getElem?_map
abbrev z0:=@Nat.le_trans
abbrev yc:=@List.getElem?_set_ne
abbrev yd:=@Array.length_toList
abbrev yf:=@or_false
abbrev yg:=@PySem.wpAny_holding
abbrev yh:=@List.getElem?_append_left
abbrev yi:=@Ne.symm
abbrev yj:=@List.getElem?_append_right
abbrev yk:=@Nat.lt_irrefl
abbrev ym:=@List.append_assoc
abbrev yn:=@List.length_set
abbrev yo:=@PySem.wpAny_truthy_bool
abbrev yp:=@PySem.wpAny_newObj_type
abbrev yq:=@of_decide_eq_true
abbrev yr:=@List.cons_lt_cons_iff
abbrev yt:=@List.map_append
abbrev yu:=@PySem.Heap.get?_none_of_le
abbrev yv:=@Array.getD_eq_getD_getElem?
abbrev yw:=@eq_false
abbrev yy:=@Nat.le_of_lt
abbrev yz:=@PySem.Around.under_plainId
abbrev y7:=@PySem.codeAny_builtin
abbrev y8:=@PySem.mem_of_lookup
abbrev y9:=@List.replicate_succ
abbrev ja:=@PySem.codeAny_mono
abbrev jb:=@Nat.ne_of_gt
abbrev jc:=@List.drop_eq_nil_of_le
abbrev jd:=@List.lookup_cons
abbrev je:=@List.getD_eq_getElem?_getD
abbrev jf:=@PySem.W.kia_one
abbrev jg:=@PySem.wpAny_field
abbrev jh:=@decide_eq_true_eq
abbrev ji:=@List.mem_of_getElem?
abbrev jk:=@List.isEmpty_iff_length_eq_zero
abbrev jl:=@PySem.wpAny_call_entry
abbrev jm:=@congrArg
abbrev jo:=@beq_self_eq_true
abbrev jp:=@Nat.le_of_not_lt
abbrev jq:=@List.getElem?_replicate
abbrev jr:=@List.cons_append
abbrev jt:=@PySem.wpAny_Call_Name_kw
abbrev ju:=@PySem.tupleKind_room_in1
abbrev jv:=@List.map_nil
abbrev jw:=@Int.fmod_nonneg_of_pos
abbrev jx:=@PySem.Heap.get?_update_other
abbrev jy:=@PySem.wpAny_passesOwn
abbrev jz:=@PySem.wpAny_ite_split
abbrev j4:=@PySem.wpAny_execs_nil
abbrev j5:=@PySem.PassesOwn.never
abbrev j6:=@PySem.plainId_quiet
abbrev j7:=@List.all_cons
abbrev j8:=@PySem.F.slot_dict_get
abbrev j9:=@PyProof.Rows.callWith_type1
abbrev Qa:=@List.flatten_cons
abbrev Qb:=@True.intro
abbrev Qc:=@List.lt_irrefl
abbrev Qd:=@PySem.Calls.evalArgs_plain
abbrev Qg:=@PySem.wpAny_askSetting
abbrev Qh:=@List.map_map
abbrev Qi:=@List.getElem_mem
abbrev Qj:=@List.map_congr_left
abbrev Qk:=@PyProof.Rows.boot_sorted
abbrev Ql:=@Prod.mk.injEq
abbrev Qm:=@List.any_cons
abbrev Qn:=@List.length_nil
abbrev Qo:=@List.zip_cons_cons
abbrev Qp:=@Int.fmod_lt_of_pos
abbrev Qq:=@decide_eq_false_iff_not
abbrev Qr:=@PyProof.Rows.boot_tuple
abbrev Qs:=@List.pairwise_singleton
abbrev Qt:=@PySem.wpAny_setState_of
abbrev Qu:=@PySem.wpAny_pyIter_list
abbrev Qv:=@PySem.wpAny_loadPart_at
abbrev Qw:=@List.reverse_cons
abbrev Qx:=@PySem.Calls.callWith_builtin
abbrev Qy:=@PySem.Heap.get?_update_self
abbrev Qz:=@Bool.beq_eq_decide_eq
abbrev Q0:=@Array.getElem?_toList
abbrev Q1:=@PySem.wpAny_execs_cons
abbrev Q2:=@PySem.wpAny_call
abbrev Q3:=@PySem.wpAny_standAt
abbrev Q4:=@List.mem_cons_of_mem
abbrev Q5:=@List.mem_append_left
abbrev Q6:=@List.nil_append
abbrev Q7:=@Option.some_ne_none
abbrev Q8:=@List.length_reverse
abbrev Q9:=@List.filterMap_cons
abbrev Za:=@PySem.wpAny_typeOf
abbrev Zb:=@PySem.wpAny_tryCatch
abbrev Zc:=@Sum.inr.inj
abbrev Zd:=@Nat.le_succ
abbrev Ze:=@PySem.wpAny_isInstance
abbrev Zf:=@PySem.F.plainAttrs_list
abbrev Zg:=@PySem.F.args_dict_get_2
abbrev Zh:=@Option.getD_some
abbrev Zi:=@Nat.le_add_right
abbrev Zj:=@List.map_snd_zip
abbrev Zk:=@List.countP_cons_of_pos
abbrev Zl:=@PySem.wpAny_pyNext_list_item
abbrev Zm:=@PySem.call_meets
abbrev Zn:=@PySem.W.cellsFrom_some
abbrev Zo:=@PySem.F.plain_min_loop
abbrev Zp:=@PySem.F.entry_dict_get
abbrev Zq:=@Option.some.inj
abbrev Zr:=@Option.map_some
abbrev Zs:=@List.of_mem_zip
abbrev Zt:=@PySem.wpAny_pyNext_list_end
abbrev Zu:=@PySem.builtinLookup_eq_fast
abbrev Zv:=@PyProof.Rows.boot_int
abbrev Zw:=@PyProof.Rows.boot_all
abbrev Zx:=@List.length_replicate
abbrev Zy:=@List.getElem?_toArray
abbrev Zz:=@List.getElem?_eq_none
abbrev Z0:=@PySem.sizeLine_eq
abbrev Z1:=@PySem.isSubtype_type
abbrev Z2:=@PySem.codeAny_call_builtin
abbrev Z3:=@List.map_id
abbrev Z4:=@List.Perm.refl
abbrev Z5:=@Int.le_refl
abbrev Z6:=@PySem.F.excBase_ValueError
abbrev Z7:=@PySem.Heap.get?_update_ne
abbrev Z8:=@PySem.wpAny_newList
abbrev Z9:=@PySem.intBits_le_64
abbrev Ya:=@PySem.Paired.length
abbrev Yb:=@Bool.and_true
abbrev Yc:=@Nat.lt_of_le_of_lt
abbrev Yd:=@Option.isSome_map
abbrev Ye:=@Nat.ne_of_lt
abbrev Yf:=@Nat.lt_succ_of_lt
abbrev Yg:=@List.pairwise_map
abbrev Yh:=@List.Pairwise.nil
abbrev Yi:=@PyProof.Rows.slot_tuple_getitem
abbrev Yj:=@List.map_fst_zip
abbrev Yk:=@List.length_take
abbrev Yl:=@List.getElem_inj
abbrev Ym:=@List.ext_getElem
abbrev Yn:=@List.all_eq_true
abbrev Yo:=@Array.eq_empty_of_size_eq_zero
end
namespace L2
open PySem PySem.Spec PyProof.Rows
noncomputable abbrev Key:=Sum Int Str
def ad0:Key->Value->Bool
 |.inl k,v=>Value.isInt k v
 |.inr x,v=>Value.isStrOf x v
def keyH (w:World):Key->Int
 |.inl k=>hashInt k
 |.inr x=>hashStr w x
theorem g_5:∀ {k:Key}{v:Value},ad0 k v=true->(∃ i t,k=Sum.inl i/\v=Value.int i t)\/(∃ x t,k=Sum.inr x/\v=Value.str x t)
 |.inl i,v,h=>by
  obtain⟨t,e⟩:=Value.isInt_shape h;exact .inl ⟨i,t,rfl,e⟩
 |.inr x,v,h=>by
  obtain⟨t,e⟩:=Value.isStrOf_shape h;exact .inr ⟨x,t,rfl,e⟩
theorem az7 (i:Int) (t:Tok):ad0 (.inl i) (.int i t)=true:=by simp[ad0,Value.isInt]
theorem az6 (x:Str) (t:Tok):ad0 (.inr x) (.str x t)=true:=by simp[ad0,Value.isStrOf]
theorem br0 (a b:Int):decide ((Sum.inl a:Key)=Sum.inl b)=(a==b):=by
 by_cases e:a=b
 ·subst e;simp
 ·have h:¬ (Sum.inl a:Key)=Sum.inl b:=λ q=>e (Sum.inl.inj q);rw[zn h];exact (beq_eq_false_iff_ne.mpr e).symm
theorem bq7 (a b:Str):decide ((Sum.inr a:Key)=Sum.inr b)=decide (a=b):=by
 by_cases e:a=b
 ·subst e;simp
 ·have h:¬ (Sum.inr a:Key)=Sum.inr b:=λ q=>e (Zc q);rw[zn h,zn e]
theorem bq9 (a:Int) (b:Str):decide ((Sum.inl a:Key)=Sum.inr b)=false:=zn (λ q=>nomatch q)
theorem bq8 (a:Str) (b:Int):decide ((Sum.inr a:Key)=Sum.inl b)=false:=zn (λ q=>nomatch q)
def g_3 (prog:Program) (w:World):PySem.KeyKind prog w Key where
 is:=ad0
 hash:=keyH w
 inj:=λ v a b O hb=>by
  rcases g_5 O with ⟨i,t,rfl,rfl⟩ | ⟨x,t,rfl,rfl⟩
  ·rcases g_5 hb with ⟨j,u,rfl,e⟩ | ⟨y,u,rfl,e⟩
   ·injection e with e1 _;rw[e1]
   ·exact nomatch e
  ·rcases g_5 hb with ⟨j,u,rfl,e⟩ | ⟨y,u,rfl,e⟩
   ·exact nomatch e
   ·injection e with e1 _;rw[e1]
 byValue:=λ k v h=>by
  rcases g_5 h with ⟨i,t,rfl,rfl⟩ | ⟨x,t,rfl,rfl⟩ <;> rfl
 pyHash:=λ hv h=>by
  rcases g_5 hv with ⟨i,t,rfl,rfl⟩ | ⟨x,t,rfl,rfl⟩
  ·exact wpAny_pyHash_int h
  ·exact wpAny_pyHash_str h
 eqBool:=λ Y hv h=>by
  rcases g_5 Y with ⟨i,t,rfl,rfl⟩ | ⟨x,t,rfl,rfl⟩
  ·rcases g_5 hv with ⟨j,u,rfl,rfl⟩ | ⟨y,u,rfl,rfl⟩
   ·rw[br0] at h;exact wpAny_eqBool_int h
   ·rw[bq9] at h;exact SeqAt.EqAt.int_str i t y u _ _ _ _ h
  ·rcases g_5 hv with ⟨j,u,rfl,rfl⟩ | ⟨y,u,rfl,rfl⟩
   ·rw[bq8] at h;exact SeqAt.EqAt.str_int x t j u _ _ _ _ h
   ·rw[bq7] at h;exact wpAny_eqBool_str h
 «strs»:=λ k x t v h=>by
  rcases g_5 h with ⟨i,u,rfl,e⟩ | ⟨y,u,rfl,e⟩
  ·exact nomatch e
  ·injection e with e1 _
   subst e1;cases v <;> rfl
theorem ac4 (prog:Program) (w:World) (i:Int) (t:Tok):(g_3 prog w).is (.inl i) (.int i t)=true:=az7 i t
theorem ac3 (prog:Program) (w:World) (x:Str) (t:Tok):(g_3 prog w).is (.inr x) (.str x t)=true:=az6 x t
inductive V where
 |non | bl (b:Bool) | int (i:Int) | str (x:Str) | byt (b:Array UInt8) | flt (b:UInt64) | ref (a:Addr) | ty (n:String)
 deriving DecidableEq
noncomputable def RelV:V->Value->Prop
 |.non,u=>u=Value.none
 |.bl b,u=>u=Value.bool b
 |.int i,u=>∃ t,u=Value.int i t
 |.str x,u=>∃ t,u=Value.str x t
 |.byt b,u=>∃ t,u=Value.bytes b t
 |.flt b,u=>∃ t,u=Value.float b t
 |.ref a,u=>u=Value.ref a
 |.ty n,u=>u=Value.type n
abbrev Vals:List V->List Value->Prop:=Paired RelV
theorem Vals.length  (r:Vals xs us):xs.length=us.length:=Ya r
theorem Vals.get:∀ {xs:List V}{us:List Value}{i:Nat}{x:V},Vals xs us->xs[i]?=some x->∃ u,us[i]?=some u/\RelV x u
 |_,_,_,_,.nil,e=>by simp at e
 |_,_,0,_,.cons r _,e=>by simp at e;subst e;exact⟨_,rfl,r⟩
 |_,_,i+1,x,.cons _ t,e=>by
  obtain⟨u,h1,h2⟩:=Vals.get t (by simpa using e);exact⟨u,by simpa using h1,h2⟩
theorem Vals.set  (r:RelV x u):∀ {xs:List V}{us:List Value} (i:Nat),Vals xs us->Vals (xs.set i x) (us.set i u)
 |_,_,_,.nil=>.nil
 |_,_,0,.cons _ t=>.cons r t
 |_,_,i+1,.cons q t=>.cons q (Vals.set r i t)
theorem Vals.append:∀ {xs ys:List V}{us O:List Value},Vals xs us->Vals ys O->Vals (xs++ys) (us++O)
 |_,_,_,_,.nil,s=>s
 |_,_,_,_,.cons r t,s=>.cons r (Vals.append t s)
theorem Vals.take:∀ {xs:List V}{us:List Value} (n:Nat),Vals xs us->Vals (xs.take n) (us.take n)
 |_,_,0,_=>.nil
 |_,_,_+1,.nil=>.nil
 |_,_,n+1,.cons r t=>.cons r (Vals.take n t)
theorem Vals.drop:∀ {xs:List V}{us:List Value} (n:Nat),Vals xs us->Vals (xs.drop n) (us.drop n)
 |_,_,0,r=>r
 |_,_,_+1,.nil=>.nil
 |_,_,n+1,.cons _ t=>Vals.drop n t
def RelO:Option V->Option Value->Prop
 |some v,some u=>RelV v u
 |none,none=>True
 |_,_=>False
def KV {κ:Type}:List (κ×V)->List (κ×Value)->Prop:=Paired λ (p:κ×V) (q:κ×Value)=>p.1=q.1/\RelV p.2 q.2
def kV:Key->V
 |.inl i=>.int i
 |.inr x=>.str x
inductive HO where
 |lst (xs:List V)
 |tup (xs:List V)
 |dK (kvs:List (Key×V)) | dT (kvs:List (List Key×V))
 |set (S:Int->Bool) (n:Nat)
 |ins (C dx:Addr) (fs:List (Str×V))
 |own (x:Addr)
 |xd (fs:List (Str×V))
 |met (f x:Addr)
 |rng (lo hi:Int)
 |frz (o:Obj) (u:HO)
 |tbl (q:Str)
 |cod (q:Str)
 |ext (φ:Program->World->Heap->Prop)
noncomputable abbrev Hp:=Addr->Option HO
noncomputable def Tabs:List (Addr×Str):=[(59,"keys_some.<locals>.<lambda>"),(154,"nearest.<locals>.<lambda>")]
def upd (H:Hp) (a:Addr) (o:HO):Hp:=λ b=>if b=a then some o else H b
theorem a_3 :upd H a o a=some o:=by unfold upd;rw[if_pos rfl]
theorem b_2  (h:b≠a):upd H a o b=H b:=by unfold upd;rw[if_neg h]
theorem upd_upd {H:Hp}{a:Addr}{o u:HO}:upd (upd H a o) a u=upd H a u:=by funext b;unfold upd;split <;> rfl
theorem ne_of {H:Hp} (h:H a=some o) (h':H b=some u) (d:o≠u):a≠b:=by intro e;subst e;rw[h] at h';exact d (qp h')
theorem c_6 {H:Hp} (h:H a=some o) (h':H b=none):a≠b:=by intro e;subst e;rw[h] at h';cases h'
def IsTuN (h:Heap) (a:Addr) (items:Array Value):Prop:=∃ o,h.get? a=some o ∧ o.cls=.type "tuple" ∧ (∃ n,o.data=.seq items n) ∧ o.dict=none
theorem IsTuN.tup  (x:IsTuN h a items):IsTup h a items:=let ⟨o,p,q,⟨n,r⟩,_⟩:=x;⟨o,p,q,n,r⟩
theorem IsTuN.new (h:Heap) (items:Array Value):IsTuN (h.push {cls:=.type "tuple",data:=.seq items}) h.objs.size items:=⟨_,qt _ rfl,rfl,⟨0,rfl⟩,rfl⟩
section
variable (P:Program) (w:World)
def ObjOk (H:Hp) (h:Heap) (a:Addr):HO->Prop
 |.lst xs=>xs.length ≤ sizeLine ∧ ∃ (O:List Value) (n:Nat),Vals xs O ∧ h.get? a=some {cls:=.type "list",data:=.seq O.toArray n}
 |.tup xs=>xs.length<=sizeLine/\∃ O:List Value,Vals xs O/\IsTuN h a O.toArray
 |.dK kvs=>kvs.length<=sizeLine/\(a==sysModules)=false/\∃ vs,KV kvs vs/\h.DictOf (g_3 P w) a vs
 |.dT kvs=>kvs.length<=sizeLine/\(a==sysModules)=false/\∃ xs:List (List Key×Addr×Value),
   Paired (λ (p:List Key×V) (q:List Key×Addr×Value)=>p.1=q.1/\H q.2.1=some (.tup (p.1.map kV))/\RelV p.2 q.2.2) kvs xs /\
   ∃ o es ep,h.get? a=some o/\o.ExactDict/\o.data=.dict es ep/\es.toList=xs.map (entryOfKey (tupleKind (g_3 P w)))/\(xs.map (·.1)).Nodup
 |.set S n=>h.SetOf (intKind P w) a S n
 |.ins C Z fs=>H Z=some (.own a)/\fs.length<=1000/\Z≠a/\h.get? a=some (PySem.W.instObj C Z) /\
   ∃ Y,h.Ns1 Z Y/\(∀ f,RelO (fs.lookup f) (Y f))/\PySem.Within Y (fs.map (·.1))
 |.own _=>∃ o,h.get? a=some o
 |.xd fs=>∃ Y,h.Ns1 a Y/\∀ f,RelO (fs.lookup f) (Y f)
 |.rng lo hi=>∃ t u v,h.get? a=some {cls:=.type "range",data:=.fields #[.int lo t,.int hi u,.int 1 v]}
 |.frz o u=>h.get? a=some o/\ObjOk H h a u
 |.tbl q=>∃ ps,h.get? a=some (PySem.W.tabObj ps)/\TriplesOk ps.toList/\∀ pos,codeAmong pos ps.toList=none\/∃ c',codeAmong pos ps.toList=some (.ref c')/\H c'=some (.cod q)
 |.cod q=>h.CodeRec (.ref a) q
 |.met f x=>h.get? a=some (PySem.W.methodObj (.ref f) (.ref x))
 |.ext φ=>φ P w h/\(∃ o,h.get? a=some o)/\∀ h1 h2:Heap,φ P w h1->(∀ o,h1.get? a=some o->h2.get? a=some o)->φ P w h2
def HOk (H:Hp) (h:Heap):Prop:=∀ a o,H a=some o->ObjOk P w H h a o
end
section
theorem ObjOk.lt (x:ObjOk P w H h a o):a<h.objs.size:=by
 cases o with
 |lst xs=>obtain⟨_,_,_,_,e⟩:=x;exact qv e
 |tup xs=>obtain⟨_,_,_,p⟩:=x;exact p.tup.lt
 |dK kvs=>obtain⟨_,_,_,_,o,_,_,e,_⟩:=x;exact qv e
 |dT kvs=>obtain⟨_,_,_,_,o,_,_,e,_⟩:=x;exact qv e
 |set S n=>obtain⟨o,_,_,_,e,_⟩:=x;exact qv e
 |ins C O fs=>obtain⟨_,_,_,e,_⟩:=x;exact qv e
 |own y=>obtain⟨_,e⟩:=x;exact qv e
 |xd fs=>obtain⟨_,⟨_,_,_,e,_⟩,_⟩:=x;exact qv e
 |rng lo hi=>obtain⟨_,_,_,e⟩:=x;exact qv e
 |frz ob u=>obtain⟨e,_⟩:=x;exact qv e
 |tbl q=>obtain⟨_,e,_⟩:=x;exact qv e
 |cod q=>obtain⟨_,_,_,_,e,e2,_⟩:=x;cases e;exact qv e2
 |met f y=>exact qv (show h.get? a=some _ from x)
 |ext Y=>obtain⟨_,⟨_,e⟩,_⟩:=x;exact qv e
theorem Paired.mapP :∀ {l₁:List α}{l₂:List β},Paired F l₁ l₂->(∀ a b,F a b->G a b)->Paired G l₁ l₂
 |[],_,h,_=>by cases h;exact .nil
 |x::l,_,h,f=>by
  cases h with
  |cons r t=>exact .cons (f _ _ r) (Paired.mapP t f)
theorem ObjOk.stay (x:ObjOk P w H h a o) (k:∀ b u,(b=a\/H b=some (.own a))->h.get? b=some u->h'.get? b=some u)
  (ho:∀ b,H b=some (.own a)->H' b=some (.own a)) (ht:∀ b xs,H b=some (.tup xs)->H' b=some (.tup xs)) (hc:∀ b q,H b=some (.cod q)->H' b=some (.cod q)):ObjOk P w H' h' a o:=by
 induction o with
 |lst xs=>obtain⟨z,Y,n,r,e⟩:=x;exact⟨z,Y,n,r,k _ _ (.inl rfl) e⟩
 |tup xs=>obtain⟨z,Y,r,ob,e,c⟩:=x;exact⟨z,Y,r,ob,k _ _ (.inl rfl) e,c⟩
 |dK kvs=>obtain⟨z,y,vs,r,ob,es,O,e,c⟩:=x;exact⟨z,y,vs,r,ob,es,O,k _ _ (.inl rfl) e,c⟩
 |dT kvs =>
  obtain⟨z,y,xs,r,ob,es,O,e,c⟩:=x;exact⟨z,y,xs,Paired.mapP r λ p q z=>⟨z.1,ht _ _ z.2.1,z.2.2⟩,ob,es,O,k _ _ (.inl rfl) e,c⟩
 |set S n=>obtain⟨ob,es,O,t,e,c⟩:=x;exact⟨ob,es,O,t,k _ _ (.inl rfl) e,c⟩
 |ins C dx fs =>
  obtain⟨d,z,ne,e,Z,⟨od,es,O,e2,c⟩,r⟩:=x;exact⟨ho _ d,z,ne,k _ _ (.inl rfl) e,Z,⟨od,es,O,k _ _ (.inr d) e2,c⟩,r⟩
 |own y=>obtain⟨ob,e⟩:=x;exact⟨ob,k _ _ (.inl rfl) e⟩
 |xd fs=>obtain⟨Z,⟨od,es,O,e,c⟩,r⟩:=x;exact⟨Z,⟨od,es,O,k _ _ (.inl rfl) e,c⟩,r⟩
 |rng lo hi=>obtain⟨t,u,v,e⟩:=x;exact⟨t,u,v,k _ _ (.inl rfl) e⟩
 |frz ob u ih=>obtain⟨e,q⟩:=x;exact⟨k _ _ (.inl rfl) e,ih q⟩
 |tbl q =>
  obtain⟨ps,e,tr,al⟩:=x;refine⟨ps,k _ _ (.inl rfl) e,tr,λ pos=>?_⟩;rcases al pos with z | ⟨c',z,y⟩
  ·exact .inl z
  ·exact .inr ⟨c',z,hc _ _ y⟩
 |cod q=>obtain⟨c,oc,vs,t,e,e2,r⟩:=x;cases e;exact⟨_,oc,vs,t,rfl,k _ _ (.inl rfl) e2,r⟩
 |met f y =>
  have e:h.get? a=some (PySem.W.methodObj (.ref f) (.ref y)):=x;show h'.get? a=some (PySem.W.methodObj (.ref f) (.ref y));exact k a _ (.inl rfl) e
 |ext φ=>obtain⟨p,⟨o,e⟩,st⟩:=x;exact⟨st _ _ p λ o q=>k _ _ (.inl rfl) q,⟨o,k _ _ (.inl rfl) e⟩,st⟩
theorem HOk.lt (x:HOk P w H h) (e:H a=some o):a<h.objs.size:=(x a o e).lt
theorem HOk.fresh (x:HOk P w H h) (e:h.objs.size<=a):H a=none:=by
 cases q:H a with
 |none=>rfl
 |some u=>exact absurd (qx (x.lt q) e) (yk _)
theorem HOk.kept (x:HOk P w H h) (k:∀ b u,h.get? b=some u->h'.get? b=some u):HOk P w H h':=λ a o e =>
 (x a o e).stay (λ b u _ q=>k b u q) (λ _ q=>q) (λ _ _ q=>q) λ _ _ q=>q
theorem HOk.laid (x:HOk P w H h) (k:∀ b u,h.get? b=some u->h'.get? b=some u) (hp:h.objs.size<=a) (new:ObjOk P w (upd H a o) h' a o):HOk P w (upd H a o) h':=λ b u e=>by
 have O:=x.fresh hp;by_cases hb:b=a
 ·subst hb;rw[a_3] at e;cases e;exact new
 ·rw[b_2 hb] at e;exact (x b u e).stay (λ c v _ q=>k c v q) (λ c q=>by rw[b_2 (c_6 q O)];exact q) (λ c xs q=>by rw[b_2 (c_6 q O)];exact q) λ c xs q=>by rw[b_2 (c_6 q O)];exact q
end
def Rd (H:Hp) (a:Addr) (u:HO):Prop:=H a=some u\/∃ o,H a=some (.frz o u)
theorem Rd.of  (h:H a=some u):Rd H a u:=.inl h
theorem Rd.ok  (r:Rd H a u) (x:HOk P w H h):ObjOk P w H h a u:=by
 rcases r with r | ⟨o,r⟩
 ·exact x a u r
 ·obtain⟨_,q⟩:=x a _ r;exact q
noncomputable def Mut:Option HO->Prop
 |some (.lst _)=>True
 |some (.dK _)=>True
 |some (.dT _)=>True
 |some (.set _ _)=>True
 |some (.ins _ _ _)=>True
 |some (.ext _)=>True
 |_=>False
section
theorem HOk.write (ok:HOk P w H h) (Z:Mut (H x)) (he:e=x\/H e=some (.own x)) (k:∀ b u,b≠e->h.get? b=some u->h'.get? b=some u) (ad:∃ u,h'.get? e=some u)
  (new:ObjOk P w (upd H x o') h' x o'):HOk P w (upd H x o') h':=λ b u q=>by
 have Y:∀ c y,H c=some (.own y)->c≠x:=λ c y r z=>by subst z;rw[r] at Z;exact Z
 have ac:∀ c xs,H c=some (.tup xs)->c≠x:=λ c xs r z=>by subst z;rw[r] at Z;exact Z
 have aa:∀ c xs,H c=some (.cod xs)->c≠x:=λ c xs r z=>by subst z;rw[r] at Z;exact Z
 by_cases hb:b=x
 ·subst hb;rw[a_3] at q;cases q;exact new
 ·rw[b_2 hb] at q;by_cases O:b=e
  ·have q':H b=some (.own x):=by
    rcases he with z | z
    ·exact absurd (O.trans z) hb
    ·rw[O];exact z
   rw[q] at q';cases q';obtain⟨v,hv⟩:=ad;exact⟨v,by rw[O];exact hv⟩
  ·refine (ok b u q).stay (λ c v hc r=>k c v ?_ r) (λ c r=>by rw[b_2 (Y c b r)];exact r) (λ c xs r=>by rw[b_2 (ac c xs r)];exact r) λ c xs r=>by rw[b_2 (aa c xs r)];exact r
   rcases hc with rfl | hc
   ·exact O
   ·rintro rfl;rcases he with z | z
    ·exact Y c b hc z
    ·rw[hc] at z;cases z;exact hb rfl
end
structure Un (fs ex:List Addr) (H H':Hp) (h h':Heap):Prop where
 keep:∀ b o,h.get? b=some o->H b=none->b∉fs->b∉ex->h'.get? b=some o
 slot:∀ b o,h.get? b=some o->H b=none->b∈fs->b∉ex->∃ sl,h'.get? b=some {o with slots:=sl}
 free:∀ b o,h.get? b=some o->H b=none->b∉ex->H' b=none
 there:∀ b o,h.get? b=some o->b∉ex->∃ o',h'.get? b=some o'
 tups:∀ b xs,H b=some (.tup xs)->H' b=some (.tup xs)
 frzs:∀ b o u,H b=some (.frz o u)->H' b=some (.frz o u)
 tbls:∀ b q,H b=some (.tbl q)->H' b=some (.tbl q)
section
variable {fs fs' ex ex':List Addr}{H H1 H2:Hp}{h h1 h2 h':Heap}{a x e:Addr}{o:HO}
theorem Un.any (u:Un fs ex H H1 h h1)  (q:h.get? b=some ob) (n:H b=none) (O:b∉ex):∃ Y,h1.get? b=some {ob with slots:=Y}:=by
 by_cases hb:b∈fs
 ·exact u.slot b ob q n hb O
 ·exact⟨ob.slots,u.keep b ob q n hb O⟩
theorem Un.kept (k:∀ b u,h.get? b=some u->h'.get? b=some u):Un fs ex H H h h' :=
 ⟨λ b ob q _ _ _=>k b ob q,λ b ob q _ _ _=>⟨ob.slots,k b ob q⟩,λ _ _ _ n _=>n,λ b ob q _=>⟨ob,k b ob q⟩,λ _ _ q=>q,λ _ _ _ q=>q,λ _ _ q=>q⟩
theorem Un.refl:Un fs ex H H h h:=Un.kept λ _ _ q=>q
theorem Un.laid (k:∀ b u,h.get? b=some u->h'.get? b=some u) (hp:h.objs.size<=a) (O:H a=none):Un fs ex H (upd H a o) h h' where
 keep:=λ b u q _ _ _=>k b u q
 slot:=λ b u q _ _ _=>⟨u.slots,k b u q⟩
 free:=λ b u q n _=>by rw[b_2 (Ye (Nat.lt_of_lt_of_le (Heap.lt_size q) hp))];exact n
 there:=λ b u q _=>⟨u,k b u q⟩
 tups:=λ b xs q=>by rw[b_2 (c_6 q O)];exact q
 frzs:=λ b u xs q=>by rw[b_2 (c_6 q O)];exact q
 tbls:=λ b xs q=>by rw[b_2 (c_6 q O)];exact q
theorem Un.write (Y:Mut (H x)) (he:e=x\/H e=some (.own x)) (k:∀ b u,b≠e->h.get? b=some u->h'.get? b=some u) (aa:∃ u,h'.get? e=some u):Un fs ex H (upd H x o) h h':=by
 have hx:∀ b,H b=none->b≠x:=λ b n z=>by subst z;rw[n] at Y;exact Y
 have hb:∀ b,H b=none->b≠e:=λ b n z=>by
  subst z;rcases he with r | r
  ·exact hx b n r
  ·rw[n] at r;cases r
 have Z:∀ b u,H b=some u->¬ Mut (some u)->b≠x:=λ b u q nm z=>by subst z;rw[q] at Y;exact nm Y
 refine⟨λ b u q n _ _=>k b u (hb b n) q,λ b u q n _ _=>⟨u.slots,k b u (hb b n) q⟩,λ b u q n _=>by rw[b_2 (hx b n)];exact n,λ b u q _=>?_,
  λ b xs q=>by rw[b_2 (Z b _ q λ z=>z)];exact q,λ b u xs q=>by rw[b_2 (Z b _ q λ z=>z)];exact q,λ b xs q=>by rw[b_2 (Z b _ q λ z=>z)];exact q⟩
 by_cases O:b=e
 ·subst O;exact aa
 ·exact⟨u,k b u O q⟩
theorem Un.mono (u:Un fs ex H H1 h h1) (hs:∀ b∈fs,b∈fs') (Y:∀ b∈ex,b∈ex'):Un fs' ex' H H1 h h1 :=
 ⟨λ b ob q n hb O=>u.keep b ob q n (λ z=>hb (hs b z)) λ z=>O (Y b z),λ _ _ q n _ O=>u.any q n λ z=>O (Y _ z),λ b ob q n O=>u.free b ob q n λ z=>O (Y b z),λ b ob q O=>u.there b ob q λ z=>O (Y b z),u.tups,u.frzs,u.tbls⟩
end
def trk (h:Heap) (H:Hp):List Addr:=(List.range h.objs.size).filter λ a=>(H a).isSome
def aK6 (h:Heap) (H:Hp):Heap:=PySem.W.hideAll h (trk h H)
theorem aA2 (h:Heap) (H:Hp):(aK6 h H).objs.size=h.objs.size:=PySem.W.hideAll_size _ _
theorem aK5  (e:h.get? b=some o) (n:H b=none):(aK6 h H).get? b=some o :=
 PySem.W.hideAll_get _ e λ O=>by
  have q:=(List.mem_filter.mp O).2;rw[n] at q;simp at q
theorem ba2  (e:(aK6 h H).get? b=some o):h.get? b=some o/\H b=none:=by
 have O:=PySem.W.of_hideAll (trk h H) e;refine⟨O,?_⟩;cases q:H b with
 |none=>rfl
 |some x =>
  have Y:b∈trk h H:=List.mem_filter.mpr ⟨List.mem_range.mpr (qv O),by simp[q]⟩;have z:(aK6 h H).get? b=none:=PySem.W.hideAll_none (trk h H) Y;rw[z] at e;cases e
noncomputable def bh0 (g h:Heap) (L:Addr):List (Addr×Obj):=(List.range h.objs.size).filterMap λ a=>if a=L\/(g.get? a).isSome=true then none else (h.get? a).map λ o=>(a,o)
def rest (g h:Heap) (L d:Addr):List (Addr×Obj):=(bh0 g h L).filter λ p=>decide (p.1≠d)
structure Mod (K:Frag) (mg:Str->Option Value) (base:Heap):Prop where
 kin:K.In base
 glob:base.Ns mainGlobals mg
 blt:∃ mb,base.Ns builtinsNs mb ∧ ∀ x:Str,x≠"__name__" → mb x=bootBuiltins x
 nolimit:base.NoLimit
 bm:∃ bm ob,mg "__builtins__"=some (.ref bm) ∧ bm≠builtinsNs ∧ base.get? bm=some ob ∧ ob.cls=.type "module" ∧ ob.dict=some builtinsNs ∧ ob.data=.plain
structure Cx where
 prog:Program
 w:World
 K:Frag
 mg:Str->Option Value
 base:Heap
 A:Around
 N:List Str
 s₀:Shared
 H₀:Hp
 env:Env
 outer:List Env
 stack:List Env
 ex:List Addr
 fn:Str->Bool
 calm:Bool
 pn:List (Addr×Obj)
 xe:Value->Shared->Prop
noncomputable def frs (l:List Env):List Addr:=l.filterMap (·.frame)
abbrev Cx.fs (X:Cx):List Addr:=frs X.outer
def Vis (sc:Scope) (x:Str):Prop:=sc.names.lookup x=some .local\/sc.names.lookup x=some .cell\/sc.names.lookup x=some .free
def Loc (sc:Scope) (x:Str):Prop:=sc.names.lookup x=some .local\/sc.names.lookup x=some .cell
def cg3 (env:Env) (h:Heap) (m:Str->Option Value) (x:Str) (u:Value):Prop :=
 (env.kindOf x=some .local/\m x=some u)\/((env.kindOf x=some .cell\/env.kindOf x=some .free)/\∃ c,env.cells.lookup x=some c/\h.IsCell c (some u))
structure Cx.Ok (X:Cx):Prop where
 mod:Mod X.K X.mg X.base
 kind:X.env.scope.kind=.function
 glob:X.env.globals=mainGlobals
 blt:X.env.builtins=builtinsNs
 above:X.s₀.heap.objs.size<=X.env.locals
 inj:∀ x y c,X.env.cells.lookup x=some c->X.env.cells.lookup y=some c->x=y
 has:∀ x,(X.env.kindOf x=some .cell\/X.env.kindOf x=some .free)->∃ c,X.env.cells.lookup x=some c
 cab:∀ x c,X.fn x=true->X.env.cells.lookup x=some c->X.s₀.heap.objs.size<=c
 hd:X.calm=true->X.A.handled=none
 frames:X.A.frames=some X.stack
 stk:X.stack=X.outer\/(X.stack=X.env::X.outer/\X.env.frame=some X.env.locals)
 exf:∀ b∈X.ex,b≠X.env.locals/\∀ x c,X.env.cells.lookup x=some c->c≠b
 bs:∀ b o,X.base.get? b=some o->X.s₀.heap.get? b=some o/\X.H₀ b=none
 bsz:X.base.objs.size<=X.s₀.heap.objs.size
 noex:∀ b o,X.base.get? b=some o->b∉X.ex
 exfs:∀ b∈X.ex,b∉X.fs
 funs:X.s₀.heap.FunFrames X.base X.outer
 frf:∀ b∈X.fs,X.H₀ b=none
 tab:∀ p q,(p,q)∈Tabs->X.H₀ p=some (.tbl q)
structure Inv (X:Cx) (pins:List (Addr×Obj)) (σ:List (Option V)) (H:Hp) (s:Shared):Prop where
 ok:X.Ok
 os:s.os=X.s₀.os
 bare:AllBare s.gens
 base:Un X.fs X.ex X.H₀ H X.s₀.heap s.heap
 loc:∃ m,s.heap.Ns X.env.locals m/\∀ (i:Nat) (x:Str) (v:V),X.N[i]?=some x->σ[i]?=some (some v)->Vis X.env.scope x->∃ u,RelV v u/\cg3 X.env s.heap m x u
 cell:∀ x c,X.env.cells.lookup x=some c->∃ v,s.heap.IsCell c v
 free:H X.env.locals=none
 freeC:∀ x c,X.env.cells.lookup x=some c->H c=none
 pin:∀ p∈X.pn++pins,s.heap.get? p.1=some p.2/\H p.1=none/\p.1≠X.env.locals/\p.1∉X.fs/\∀ v,p.2.data≠.cell v
 hok:HOk X.prog X.w H s.heap
 len:σ.length=X.N.length
section
variable {X:Cx}{pins:List (Addr×Obj)}{σ:List (Option V)}{H H':Hp}{s:Shared}{h':Heap}
theorem Cx.Ok.nofr (ok:X.Ok)  (e:X.base.get? b=some o):b∉X.fs:=λ hb=>by
 have:=(ok.funs.mem hb).1;rw[e] at this;cases this
theorem Inv.bs (I:Inv X pins σ H s):∀ b o,X.base.get? b=some o->s.heap.get? b=some o/\H b=none:=λ b o e =>
 ⟨I.base.keep b o (I.ok.bs b o e).1 (I.ok.bs b o e).2 (I.ok.nofr e) (I.ok.noex b o e),I.base.free b o (I.ok.bs b o e).1 (I.ok.bs b o e).2 (I.ok.noex b o e)⟩
theorem Inv.bk (I:Inv X pins σ H s):∀ b o,X.base.get? b=some o->s.heap.get? b=some o:=λ b o e=>(I.bs b o e).1
theorem Inv.mod (I:Inv X pins σ H s):Mod X.K X.mg X.base:=I.ok.mod
theorem Inv.kIn (I:Inv X pins σ H s):X.K.In s.heap:=I.ok.mod.kin.keeps I.bk
theorem Inv.nolimit (I:Inv X pins σ H s):s.heap.NoLimit:=I.ok.mod.nolimit.keeps I.bk
theorem Inv.fr (I:Inv X pins σ H s):∃ m,Fr X.base X.env.locals s.heap m :=
 let ⟨m,hn,_⟩:=I.loc
 ⟨m,hn,I.bk,z0 I.ok.bsz I.ok.above⟩
theorem Inv.lt (I:Inv X pins σ H s):X.env.locals<s.heap.objs.size:=let ⟨_,hn,_⟩:=I.loc;hn.lt
theorem Inv.sz (I:Inv X pins σ H s):X.s₀.heap.objs.size<=s.heap.objs.size:=z0 I.ok.above (yy I.lt)
theorem Inv.nofs (I:Inv X pins σ H s)  (h:s.heap.objs.size<=a):a∉X.fs:=λ hb=>by
 obtain⟨_,o,O,_⟩:=I.ok.funs.mem hb;exact absurd (qx (qv O) (z0 I.sz h)) (yk _)
theorem Inv.cne (I:Inv X pins σ H s):∀ x c,X.env.cells.lookup x=some c->c≠X.env.locals:=λ x c e z=>by
 obtain⟨v,o,Z,hd⟩:=I.cell x c e;obtain⟨m,⟨o',es,ep,Y,O,_⟩,_⟩:=I.loc;rw[z,Y] at Z;cases Z;rw[O] at hd;cases hd
theorem Inv.funs (I:Inv X pins σ H s):s.heap.FunFrames X.base X.outer:=by
 have all:∀ (l:List Env),(∀ b∈frs l,b∈X.fs)->X.s₀.heap.FunFrames X.base l->s.heap.FunFrames X.base l:=by
  intro l;induction l with
  |nil=>intro _ _;trivial
  |cons env r Y =>
   intro hs hl;obtain⟨hk,⟨L,o,O,hn,ho,hd⟩,Z⟩:=hl;have hL:=hs L (by unfold frs;rw[Q9,O];exact qm);obtain⟨sl,e⟩:=I.base.slot L o ho (I.ok.frf L hL) hL λ z=>I.ok.exfs L z hL;exact⟨hk,⟨L,_,O,hn,e,hd⟩,Y (λ b hb=>hs b (by unfold frs;rw[Q9,O];exact qo _ hb)) Z⟩
 exact all X.outer (λ _ hb=>hb) I.ok.funs
theorem Inv.stack (I:Inv X pins σ H s):s.heap.FunFrames X.base X.stack:=by
 rcases I.ok.stk with e | ⟨e,hf⟩
 ·rw[e];exact I.funs
 ·rw[e];obtain⟨m,O,_⟩:=I.loc;refine .cons (by rw[I.ok.kind];decide) hf O ?_ I.funs;exact yu (z0 I.ok.bsz I.ok.above)
theorem Inv.stkSub (I:Inv X pins σ H s):∀ b∈frs X.stack,b∈X.env.locals::X.fs:=λ b hb=>by
 rcases I.ok.stk with e | ⟨e,hf⟩
 ·rw[e] at hb;exact qo _ hb
 ·rw[e] at hb;unfold frs at hb;rw[Q9,hf] at hb;exact hb
theorem Inv.stkFree (I:Inv X pins σ H s):∀ b∈frs X.stack,H b=none:=λ b hb=>by
 rcases qz (I.stkSub b hb) with e | hb
 ·rw[e];exact I.free
 ·obtain⟨_,o,O,_⟩:=I.ok.funs.mem hb;exact I.base.free b o O (I.ok.frf b hb) λ z=>I.ok.exfs b z hb
theorem Inv.step {g':Array GenState}{t':Nat}{d':Drawn}{ch:List Addr} (I:Inv X pins σ H s)
  (Z:∀ b∈ch,(b∈X.ex\/X.s₀.heap.objs.size<=b)/\b≠X.env.locals/\(∀ x c,X.env.cells.lookup x=some c->c≠b)/\∀ p∈X.pn++pins,p.1≠b)
  (keep:∀ b o,b≠X.env.locals->b∉X.fs->b∉ch->s.heap.get? b=some o->H b=none->h'.get? b=some o)
  (slot:∀ b o,b≠X.env.locals->b∈X.fs->b∉ch->s.heap.get? b=some o->H b=none->∃ sl,h'.get? b=some {o with slots:=sl}) (free:∀ b o,b∉ch->s.heap.get? b=some o->H b=none->H' b=none)
  (there:∀ b o,b∉ch->s.heap.get? b=some o->∃ o',h'.get? b=some o')
  (tups:∀ b xs,H b=some (.tup xs)->H' b=some (.tup xs)) (frzs:∀ b o u,H b=some (.frz o u)->H' b=some (.frz o u)) (tbls:∀ b q,H b=some (.tbl q)->H' b=some (.tbl q))
  (ns:∀ m,s.heap.Ns X.env.locals m->h'.Ns X.env.locals m) (af:HOk X.prog X.w H' h') (hg:AllBare g') :
  Inv X pins σ H' {s with heap:=h',gens:=g',drawn:=d',toks:=t'}:=by
 have ae:∀ b o,X.s₀.heap.get? b=some o->b≠X.env.locals:=λ b o e=>qy (qx (qv e) I.ok.above);have ac:∀ b o,X.s₀.heap.get? b=some o->b∉X.ex->b∉ch:=λ b o e O hb=>by
  rcases (Z b hb).1 with z | z
  ·exact O z
  ·exact absurd (qx (qv e) z) (yk _)
 have Y:∀ x c,X.env.cells.lookup x=some c->∀ v,s.heap.IsCell c v->h'.IsCell c v:=λ x c e v ad=>by
  obtain⟨o,ho,hd⟩:=ad;have aa:c∉ch:=λ z=>(Z c z).2.2.1 x c e rfl;by_cases hc:c∈X.fs
  ·obtain⟨sl,q⟩:=slot c o (I.cne x c e) hc aa ho (I.freeC x c e);exact⟨_,q,hd⟩
  ·exact⟨o,keep c o (I.cne x c e) hc aa ho (I.freeC x c e),hd⟩
 refine⟨I.ok,I.os,hg,⟨λ b o e n hb O=>?_,λ b o e n hb O=>?_,λ b o e n O=>?_,λ b o e O=>?_,λ b xs e=>tups b xs (I.base.tups b xs e),λ b o xs e=>frzs b o xs (I.base.frzs b o xs e),λ b xs e=>tbls b xs (I.base.tbls b xs e)⟩,?_,λ x c e=>?_,?_,λ x c e=>?_,λ p hp=>?_,af,I.len⟩
 ·exact keep b o (ae b o e) hb (ac b o e O) (I.base.keep b o e n hb O) (I.base.free b o e n O)
 ·obtain⟨sl,e1⟩:=I.base.slot b o e n hb O;obtain⟨ag,e2⟩:=slot b _ (ae b o e) hb (ac b o e O) e1 (I.base.free b o e n O);exact⟨ag,e2⟩
 ·obtain⟨o',e1⟩:=I.base.there b o e O;exact free b o' (ac b o e O) e1 (I.base.free b o e n O)
 ·obtain⟨o',e1⟩:=I.base.there b o e O;exact there b o' (ac b o e O) e1
 ·obtain⟨m,hn,hl⟩:=I.loc;refine⟨m,ns m hn,λ i x v e1 e2 e3=>?_⟩;obtain⟨u,r,l⟩:=hl i x v e1 e2 e3;refine⟨u,r,?_⟩;rcases l with l | ⟨k,c,e,z⟩
  ·exact .inl l
  ·exact .inr ⟨k,c,e,Y x c e _ z⟩
 ·obtain⟨v,z⟩:=I.cell x c e;exact⟨v,Y x c e v z⟩
 ·obtain⟨m,⟨o,_,_,ho,_⟩,_⟩:=I.loc;exact free _ o (λ z=>(Z _ z).2.1 rfl) ho I.free
 ·obtain⟨v,o,ho,hd⟩:=I.cell x c e;exact free c o (λ z=>(Z c z).2.2.1 x c e rfl) ho (I.freeC x c e)
 ·obtain⟨e,n,ne,nf,d⟩:=I.pin p hp;have aa:p.1∉ch:=λ z=>(Z p.1 z).2.2.2 p hp rfl;exact⟨keep p.1 p.2 ne nf aa e n,free p.1 p.2 aa e n,ne,nf,d⟩
theorem Inv.un  (I:Inv X pins σ H s) (u:Un X.fs [] H H' s.heap h') (Z:HOk X.prog X.w H' h'):Inv X pins σ H' {s with heap:=h',toks:=t'}:=by
 obtain⟨m,⟨o,es,ep,ho,r⟩,_⟩:=id I.loc;obtain⟨sl,hL⟩:=u.any ho I.free (by simp);exact I.step (ch:=[]) (λ _ z=>nomatch z) (λ b o _ hb _ e n=>u.keep b o e n hb (by simp)) (λ b o _ hb _ e n=>u.slot b o e n hb (by simp)) (λ b o _ e n=>u.free b o e n (by simp)) (λ b o _ e=>u.there b o e (by simp)) u.tups u.frzs u.tbls (λ m' hm=>by
  obtain⟨o',aa,Y,O,r'⟩:=hm;rw[ho] at O;cases O;exact⟨_,aa,Y,hL,r'⟩) Z I.bare
theorem Inv.call  (I:Inv X pins σ H s) (u:Un (frs X.stack) ch H H' s.heap h') (ac:HOk X.prog X.w H' h') (hg:AllBare g')
  (Y:∀ b∈ch,(b∈X.ex\/X.s₀.heap.objs.size<=b)/\b≠X.env.locals/\(∀ x c,X.env.cells.lookup x=some c->c≠b)/\∀ p∈X.pn++pins,p.1≠b) :
  Inv X pins σ H' {s with heap:=h',gens:=g',drawn:=d',toks:=t'}:=by
 obtain⟨m,⟨o,es,ep,ho,r⟩,_⟩:=id I.loc;obtain⟨sl,hL⟩:=u.any ho I.free λ z=>(Y _ z).2.1 rfl;exact I.step Y (λ b o hL hb O e n=>u.keep b o e n (λ z=>(qz (I.stkSub b z)).elim hL hb) O) (λ b o _ _ O e n=>u.any e n O) (λ b o O e n=>u.free b o e n O) (λ b o O e=>u.there b o e O) u.tups u.frzs u.tbls (λ m' hm=>by
  obtain⟨o',ad,aa,Z,r'⟩:=hm;rw[ho] at Z;cases Z;exact⟨_,ad,aa,hL,r'⟩) ac hg
theorem Inv.turned {t':Nat}{it:Addr} (I:Inv X pins σ H s) (k:∀ b o,b≠it->s.heap.get? b=some o->h'.get? b=some o) (hn:H it=none) (hL:it≠X.env.locals)
  (h1:it∈X.ex\/X.s₀.heap.objs.size<=it) (h2:∀ x c,X.env.cells.lookup x=some c->c≠it) (Z:∀ p∈X.pn++pins,p.1≠it):Inv X pins σ H {s with heap:=h',toks:=t'}:=by
 have Y:∀ b u,H b=some u->b≠it:=λ b u e z=>by rw[z,hn] at e;cases e
 refine I.step (g':=s.gens) (d':=s.drawn) (ch:=[it]) (λ b hb=>?_) (λ b o _ _ O e _=>k b o (λ z=>O (by simp[z])) e) (λ b o _ _ O e _=>⟨o.slots,k b o (λ z=>O (by simp[z])) e⟩) (λ _ _ _ _ n=>n)
  (λ b o O e=>⟨o,k b o (λ z=>O (by simp[z])) e⟩) (λ _ _ e=>e) (λ _ _ _ e=>e) (λ _ _ e=>e) (λ m hm=>?_) (λ b u e=>?_) I.bare
 ·have e:b=it:=by simpa using hb
  subst e;exact⟨h1,hL,h2,Z⟩
 ·obtain⟨o,es,ep,ho,r⟩:=hm;exact⟨o,es,ep,k _ o (yi hL) ho,r⟩
 ·refine (I.hok b u e).stay (λ c v O q=>k c v ?_ q) (λ _ q=>q) (λ _ _ q=>q) λ _ _ q=>q;rcases O with z | z
  ·rw[z];exact Y b u e
  ·exact Y c _ z
theorem Inv.tok (I:Inv X pins σ H s) (t:Nat):Inv X pins σ H {s with toks:=t}:=I.un Un.refl I.hok
theorem Inv.kept  (I:Inv X pins σ H s) (k:∀ b u,s.heap.get? b=some u->h'.get? b=some u):Inv X pins σ H {s with heap:=h',toks:=t'}:=I.un (Un.kept k) (I.hok.kept k)
theorem Inv.laid  (I:Inv X pins σ H s) (k:∀ b u,s.heap.get? b=some u->h'.get? b=some u) (hp:s.heap.objs.size<=a) (new:ObjOk X.prog X.w (upd H a o) h' a o) :
  Inv X pins σ (upd H a o) {s with heap:=h',toks:=t'}:=I.un (Un.laid k hp (I.hok.fresh hp)) (I.hok.laid k hp new)
theorem Inv.write  (I:Inv X pins σ H s) (Z:Mut (H x)) (Y:e=x\/H e=some (.own x)) (k:∀ b u,b≠e->s.heap.get? b=some u->h'.get? b=some u) (O:∃ u,h'.get? e=some u)
  (new:ObjOk X.prog X.w (upd H x o) h' x o):Inv X pins σ (upd H x o) {s with heap:=h',toks:=t'}:=I.un (Un.write Z Y k O) (I.hok.write Z Y k O new)
theorem Inv.weak  (I:Inv X pins σ H s) (hl:O.length=σ.length) (w:∀ (i:Nat) v,O[i]?=some (some v)->σ[i]?=some (some v)):Inv X pins O H s :=
 ⟨I.ok,I.os,I.bare,I.base,let ⟨m,hn,hl'⟩:=I.loc;⟨m,hn,λ i x v e1 e2 e3=>hl' i x v e1 (w i v e2) e3⟩,I.cell,I.free,I.freeC,I.pin,I.hok,hl.trans I.len⟩
theorem Inv.pins_of {pins':List (Addr×Obj)} (I:Inv X pins σ H s) (h:∀ p∈pins',s.heap.get? p.1=some p.2/\H p.1=none/\p.1≠X.env.locals/\p.1∉X.fs/\∀ v,p.2.data≠.cell v):Inv X pins' σ H s :=
 ⟨I.ok,I.os,I.bare,I.base,I.loc,I.cell,I.free,I.freeC,λ p hp=>(zb hp).elim (λ z=>I.pin p (Q5 _ z)) (h p),I.hok,I.len⟩
theorem P_3 {N:List Str} (hN:N.Nodup) {i j:Nat} (a:N[i]?=some x) (b:N[j]?=some x):i=j:=by obtain⟨h1,e1⟩:=List.getElem?_eq_some_iff.mp a;obtain⟨h2,e2⟩:=List.getElem?_eq_some_iff.mp b;exact (Yl hN).mp (e1.trans e2.symm)
theorem U_1 {M:Model}{A:Around}{E:Value->Shared->Prop}{i:Nat}{x:Str}{v:V}{u:Value}{Q:Unit->Shared->Prop} (I:Inv X pins σ H s) (hN:X.N.Nodup) (hi:X.N[i]?=some x) (Z:Loc X.env.scope x) (r:RelV v u)
  (h:∀ s',Inv X pins (σ.set i (some v)) H s'->(∃ a,Heap.SameBut a s.heap s'.heap/\(a=X.env.locals\/X.env.cells.lookup x=some a))->Q () s') (hf:X.fn x=true\/X.env.scope.names.lookup x=some .local):wpAny M A (storeName X.env x u) Q E s:=by
 obtain⟨m,hn,hl⟩:=id I.loc;have ag:(X.env.scope.kind==.class||(X.env.scope.kind==.module&&X.env.locals != X.env.globals))=false:=by rw[I.ok.kind];rfl
 have ac:i<σ.length:=by rw[I.len];exact (List.getElem?_eq_some_iff.mp hi).1
 have cne:=I.cne;have O:∀ {a:Addr}{h':Heap},(∃ o,s.heap.get? a=some o/\H a=none)->Heap.SameBut a s.heap h'->HOk X.prog X.w H h':=λ {a h'} ha hs b ob e=>by
  obtain⟨_,_,aa⟩:=ha;refine (I.hok b ob e).stay (λ c w' Y q=>(hs.2 c ?_).trans q) (λ _ q=>q) (λ _ _ q=>q) λ _ _ q=>q;rintro rfl;rcases Y with rfl | Y
  ·rw[aa] at e;cases e
  ·rw[aa] at Y;cases Y
 rcases Z with hk | hk
 ·refine wpAny_storeName_local hk hn (λ h' ak hs=>?_) ag;obtain⟨oL,_,_,aj,_⟩:=id hn;refine h _ ⟨I.ok,I.os,I.bare,⟨λ b o e n hb Z=>?_,λ b o e n hb Z=>?_,I.base.free,λ b o e Z=>?_,I.base.tups,I.base.frzs,I.base.tbls⟩,⟨_,ak,λ j y v' e1 e2 e3=>?_⟩,λ y c e=>?_,I.free,I.freeC,λ p hp=>?_,O ⟨oL,aj,I.free⟩ hs,by simpa using I.len⟩ ⟨_,hs,.inl rfl⟩
  ·exact (hs.2 b (qy (qx (qv e) I.ok.above))).trans (I.base.keep b o e n hb Z)
  ·obtain⟨sl,e1⟩:=I.base.slot b o e n hb Z;exact⟨sl,(hs.2 b (qy (qx (qv e) I.ok.above))).trans e1⟩
  ·obtain⟨o',e1⟩:=I.base.there b o e Z;exact⟨o',(hs.2 b (qy (qx (qv e) I.ok.above))).trans e1⟩
  ·by_cases hj:j=i
   ·subst hj;rw[hi] at e1;cases e1;rw[zr ac] at e2;cases e2;exact⟨u,r,.inl ⟨hk,by simp⟩⟩
   ·rw[yc (yi hj)] at e2;obtain⟨u',r',q⟩:=hl j y v' e1 e2 e3;refine⟨u',r',?_⟩;rcases q with ⟨k,e⟩ | ⟨k,c,e,z⟩
    ·refine .inl ⟨k,?_⟩;have:y≠x:=λ e=>hj (P_3 hN e1 (e▸hi));simp[this,e]
    ·exact .inr ⟨k,c,e,z.sameBut hs (cne y c e)⟩
  ·obtain⟨w',z⟩:=I.cell y c e;exact⟨w',z.sameBut hs (cne y c e)⟩
  ·obtain⟨e,n,ne,nf,d⟩:=I.pin p hp;exact⟨(hs.2 p.1 ne).trans e,n,ne,nf,d⟩
 ·have ad:X.fn x=true:=by
   rcases hf with z | z
   ·exact z
   ·rw[z] at hk;cases hk
  obtain⟨c,Y⟩:=I.ok.has x (.inl hk);obtain⟨w',z⟩:=I.cell x c Y;refine wpAny_storeName_cell I.ok.kind hk Y z (λ h' ai hs=>?_);obtain⟨oc,ae,ah⟩:=id z;refine h {s with heap:=h'} ⟨I.ok,I.os,I.bare,⟨λ b o e n hb Z=>?_,λ b o e n hb Z=>?_,I.base.free,λ b o e Z=>?_,I.base.tups,I.base.frzs,I.base.tbls⟩,⟨m,hn.sameBut hs (yi (cne x c Y)),λ j y v' e1 e2 e3=>?_⟩,λ y c' e=>?_,I.free,I.freeC,λ p hp=>?_,O ⟨oc,ae,I.freeC x c Y⟩ hs,by simpa using I.len⟩ ⟨c,hs,.inr Y⟩
  ·exact (hs.2 b (qy (qx (qv e) (I.ok.cab x c ad Y)))).trans (I.base.keep b o e n hb Z)
  ·obtain⟨sl,e1⟩:=I.base.slot b o e n hb Z;exact⟨sl,(hs.2 b (qy (qx (qv e) (I.ok.cab x c ad Y)))).trans e1⟩
  ·obtain⟨o',e1⟩:=I.base.there b o e Z;exact⟨o',(hs.2 b (qy (qx (qv e) (I.ok.cab x c ad Y)))).trans e1⟩
  ·by_cases hj:j=i
   ·subst hj;rw[hi] at e1;cases e1;rw[zr ac] at e2;cases e2;exact⟨u,r,.inr ⟨.inl hk,c,Y,ai⟩⟩
   ·rw[yc (yi hj)] at e2;obtain⟨u',r',q⟩:=hl j y v' e1 e2 e3;refine⟨u',r',?_⟩;rcases q with q | ⟨k,c',e,z'⟩
    ·exact .inl q
    ·refine .inr ⟨k,c',e,z'.sameBut hs ?_⟩;rintro rfl;exact hj (P_3 hN e1 (I.ok.inj _ _ _ e Y▸hi))
  ·by_cases af:c'=c
   ·subst af;exact⟨_,ai⟩
   ·obtain⟨w2,z2⟩:=I.cell y c' e;exact⟨w2,z2.sameBut hs af⟩
  ·obtain⟨e,n,ne,nf,d⟩:=I.pin p hp;refine⟨(hs.2 p.1 ?_).trans e,n,ne,nf,d⟩;intro q;rw[q,ae] at e;have q':oc=p.2:=qp e;exact d w' (by rw[<- q'];exact ah)
theorem D_8 {M:Model}{A:Around}{E:Value->Shared->Prop}{i:Nat}{x:Str}{v:V}{u:Value}{Q:Unit->Shared->Prop} (I:Inv X pins σ H s) (hN:X.N.Nodup) (hi:X.N[i]?=some x) (Z:Loc X.env.scope x) (r:RelV v u)
  (h:∀ s',Inv X pins (σ.set i (some v)) H s'->Q () s') (Y:X.fn x=true\/X.env.scope.names.lookup x=some .local):wpAny M A (storeName X.env x u) Q E s :=
 U_1 I hN hi Z r (λ s' O _=>h s' O) Y
theorem Inv.call'  (I:Inv X pins σ H s) (Z:s'.os=s.os) (u:Un (frs X.stack) ch H H' s.heap s'.heap) (Y:HOk X.prog X.w H' s'.heap) (hg:AllBare s'.gens)
  (O:∀ b∈ch,(b∈X.ex\/X.s₀.heap.objs.size<=b)/\b≠X.env.locals/\(∀ x c,X.env.cells.lookup x=some c->c≠b)/\∀ p∈X.pn++pins,p.1≠b):Inv X pins σ H' s':=by
 obtain⟨h',g',d',t',o'⟩:=s';have e:=Z;subst e;exact I.call u Y hg O
end
abbrev XK:=Value->Option Addr->Hp->Prop
noncomputable abbrev St:=List (Option V)
abbrev VK:=V->Hp->Prop
abbrev TE:=St->Hp->VK->Prop
abbrev TT:=St->Hp->(Bool->Hp->Prop)->Prop
abbrev TA:=St->Hp->(List V->Hp->Prop)->Prop
structure Ends where
 nx:St->Hp->Prop
 rt:VK
 bk:St->Hp->Prop:=λ _ _=>False
 ct:St->Hp->Prop:=λ _ _=>False
abbrev TS:=Ends->St->Hp->Prop
def EP (X:Cx) (pins:List (Addr×Obj)) (σ:St) (Q:VK) (u:Value) (s':Shared):Prop:=∃ v H',Inv X pins σ H' s'/\RelV v u/\Q v H'
def TP (X:Cx) (pins:List (Addr×Obj)) (σ:St) (Q:Bool->Hp->Prop) (b:Bool) (s':Shared):Prop:=∃ H',Inv X pins σ H' s'/\Q b H'
def AP (X:Cx) (pins:List (Addr×Obj)) (σ:St) (Q:List V->Hp->Prop) (us:List Value) (s':Shared):Prop:=∃ vs H',Inv X pins σ H' s'/\Vals vs us/\Q vs H'
def SP (X:Cx) (pins:List (Addr×Obj)) (D:Ends) (f:Flow) (s':Shared):Prop :=
 match f with
 |.next=>∃ O H',Inv X pins O H' s'/\D.nx O H'
 |.brk=>∃ O H',Inv X pins O H' s'/\D.bk O H'
 |.cont=>∃ O H',Inv X pins O H' s'/\D.ct O H'
 |.ret u=>∃ v O H',Inv X pins O H' s'/\RelV v u/\D.rt v H'
def PE (X:Cx) (e:Expr) (t:TE):Prop :=
 ∀ (pins:List (Addr×Obj)) (s:Shared) (σ:St) (H:Hp) (Q:VK),Inv X pins σ H s->t σ H Q->wpAny (model X.prog X.w) X.A (eval e X.env) (EP X pins σ Q) X.xe s
def PT (X:Cx) (e:Expr) (t:TT):Prop :=
 ∀ (pins:List (Addr×Obj)) (s:Shared) (σ:St) (H:Hp) (Q:Bool->Hp->Prop),Inv X pins σ H s->t σ H Q->wpAny (model X.prog X.w) X.A (isTrue e X.env (eval e X.env)) (TP X pins σ Q) X.xe s
def PW (X:Cx) (e:Expr) (t:TT):Prop :=
 ∀ (O:Sem Value) (pins:List (Addr×Obj)) (s:Shared) (σ:St) (H:Hp) (Q:Bool->Hp->Prop),Inv X pins σ H s->t σ H Q->wpAny (model X.prog X.w) X.A (isTrue e X.env O) (TP X pins σ Q) X.xe s
theorem PW.pt  (h:PW X e t):PT X e t:=h _
def PA (X:Cx) (es:List Expr) (t:TA):Prop :=
 ∀ (pos:Pos) (pins:List (Addr×Obj)) (s:Shared) (σ:St) (H:Hp) (Q:List V->Hp->Prop),Inv X pins σ H s->t σ H Q->wpAny (model X.prog X.w) X.A (spliced (backTo pos (starEach es X.env))) (AP X pins σ Q) X.xe s
def PS (X:Cx) (st:Stmt) (t:TS):Prop :=
 ∀ (pins:List (Addr×Obj)) (s:Shared) (σ:St) (H:Hp) (D:Ends),Inv X pins σ H s->t D σ H->wpAny (model X.prog X.w) X.A (exec st X.env) (SP X pins D) X.xe s
def PSs (X:Cx) (st:List Stmt) (t:TS):Prop :=
 ∀ (pins:List (Addr×Obj)) (s:Shared) (σ:St) (H:Hp) (D:Ends),Inv X pins σ H s->t D σ H->wpAny (model X.prog X.w) X.A (execs st X.env) (SP X pins D) X.xe s
theorem ex5 {A B C:α->β->Prop}{P:Prop} (h:∀ x y,A x y->B x y->C x y->P) (e:∃ x y,A x y/\B x y/\C x y):P:=by obtain⟨x,y,a,b,c⟩:=e;exact h x y a b c
theorem thn  (h:wpAny M A t Q E s) (Y:∀ a s,Q a s->O a s):wpAny M A t O E s:=zv h Y λ _ _ x=>x
section
variable {X:Cx}
def bN2 (i:Nat):TE:=λ σ H Q=>∃ v,σ[i]?=some (some v)/\Q v H
def tC (v:V):TE:=λ _ H Q=>Q v H
theorem i_4 {i:Nat}{x:Str}{pos:Pos} (hN:X.N[i]?=some x) (hv:Vis X.env.scope x) (hd:(x==("__debug__":Str))=false) (O:(x==("__classdict__":Str))=false):PE X (.Name x pos) (bN2 i):=by
 intro pins s σ H Q I h;obtain⟨v,e,h⟩:=h;obtain⟨m,Y,hl⟩:=I.loc;obtain⟨u,r,l⟩:=hl i x v hN e hv;have fin:EP X pins σ Q u s:=⟨v,H,I,r,h⟩;rcases l with ⟨hk,hm⟩ | ⟨hk,c,hc,hcell⟩
 ·exact wpAny_Name (wpAny_loadName_local I.ok.kind hk Y hm fin) hd
 ·rcases hk with hk | hk
  ·exact wpAny_Name (wpAny_loadName_cell I.ok.kind hk hc hcell fin) hd
  ·exact wpAny_Name (wpAny_loadName_free I.ok.kind hk hc hcell fin O) hd
theorem K_4 :PE X (.Constant (.int i) j pos) (tC (.int i)):=λ _ _ _ H _ I h=>wpAny_Constant_int ⟨.int i,H,I.tok _,⟨_,rfl⟩,h⟩
theorem bG2 :PE X (.Constant (.bool b) j pos) (tC (.bl b)):=λ _ _ _ H _ I h=>Constant_bool ⟨.bl b,H,I,rfl,h⟩
theorem bn8 :PE X (.Constant .none j pos) (tC .non):=λ _ _ _ H _ I h=>Constant_none ⟨.non,H,I,rfl,h⟩
theorem V_2 :PE X (.Constant (.str x) j pos) (tC (.str x)):=λ _ _ _ H _ I h=>Calls.Constant_str ⟨.str x,H,I.tok _,⟨_,rfl⟩,h⟩
def Gl (X:Cx) (x:Str):Prop:=X.env.kindOf x=some .globalImplicit
theorem A_2 {E:Value->Shared->Prop}{pins:List (Addr×Obj)}{s:Shared}{σ:St}{H:Hp}{x:Str}{u:Value}{pos:Pos}{Q:Value->Shared->Prop} (I:Inv X pins σ H s) (Y:Gl X x) (O:X.mg x=some u) (h:Q u s)
  (hd:(x==("__debug__":Str))=false):wpAny (model X.prog X.w) X.A (eval (.Name x pos) X.env) Q E s :=
 Calls.Name_function_global I.ok.kind Y (Calls.loadGlobal_global (by rw[I.ok.glob];exact I.mod.glob.keeps I.bk) O h) hd
theorem X_0  (I:Inv X pins σ H s) (Y:Gl X x) (O:X.mg x=none) (hv:bootBuiltins x=some u) (h:Q u s)
  (Z:x≠"__name__":=by decide) (hd:(x==("__debug__":Str))=false:=by decide):wpAny (model X.prog X.w) X.A (eval (.Name x pos) X.env) Q E s:=by
 obtain⟨mb,h1,h2⟩:=I.mod.blt;exact Calls.Name_function_global I.ok.kind Y (Calls.loadGlobal_builtin (by rw[I.ok.glob];exact I.mod.glob.keeps I.bk) O (by rw[I.ok.blt];exact h1.keeps I.bk) ((h2 x Z).trans hv) h) hd
theorem aY9 {x:Str}{v:V}{u:Value}{pos:Pos} (Y:Gl X x) (O:X.mg x=some u) (r:RelV v u) (hd:(x==("__debug__":Str))=false):PE X (.Name x pos) (tC v) :=
 λ _ _ _ H _ I h=>A_2 I Y O ⟨v,H,I,r,h⟩ hd
theorem aZ2 {x:Str}{v:V}{u:Value}{pos:Pos} (Y:Gl X x) (O:X.mg x=none) (hv:bootBuiltins x=some u) (r:RelV v u) (Z:x≠"__name__") (hd:(x==("__debug__":Str))=false):PE X (.Name x pos) (tC v) :=
 λ _ _ _ H _ I h=>X_0 I Y O hv ⟨v,H,I,r,h⟩ Z hd
variable {a b:Expr}{ta tb:TE}{pos:Pos}
def tB (t:TE):TT:=λ σ H Q=>t σ H λ x H1=>∃ c,x=.bl c/\Q c H1
variable {tA tB':TT}{rest:List Expr}
def tAnd (t u:TT):TT:=λ σ H Q=>t σ H λ c H1=>if c=true then u σ H1 Q else Q false H1
def tOr (t u:TT):TT:=λ σ H Q=>t σ H λ c H1=>if c=true then Q true H1 else u σ H1 Q
def tNot (t:TT):TT:=λ σ H Q=>t σ H λ c H1=>Q (!c) H1
theorem aX6 (O:PT X a tA):PW X (.BoolOp .And [a] pos) tA:=by
 intro Z pins s σ H Q I h;refine isTrue_and (thn (O pins s σ H Q I h) λ c Y e=>?_);cases c with
 |true=>exact isTrue_and_nil e
 |false=>exact e
theorem bm4 (O:PT X a tA):PW X (.BoolOp .Or [a] pos) tA:=by
 intro Z pins s σ H Q I h;refine isTrue_or (thn (O pins s σ H Q I h) λ c Y e=>?_);cases c with
 |false=>exact isTrue_or_nil e
 |true=>exact e
theorem bm5 (ha:PT X a tA) (hb:PW X (.BoolOp .And (b::rest) pos) tB'):PW X (.BoolOp .And (a::b::rest) pos) (tAnd tA tB'):=by
 intro wh pins s σ H Q I h;refine isTrue_and (thn (ha pins s σ H _ I h) λ c s1 O=>?_);obtain⟨H1,Y,Z⟩:=O;cases c with
 |true=>exact hb wh pins s1 σ H1 Q Y Z
 |false=>exact⟨H1,Y,Z⟩
theorem bF9 (ha:PT X a tA) (hb:PW X (.BoolOp .Or (b::rest) pos) tB'):PW X (.BoolOp .Or (a::b::rest) pos) (tOr tA tB'):=by
 intro wh pins s σ H Q I h;refine isTrue_or (thn (ha pins s σ H _ I h) λ c s1 O=>?_);obtain⟨H1,Y,Z⟩:=O;cases c with
 |true=>exact⟨H1,Y,Z⟩
 |false=>exact hb wh pins s1 σ H1 Q Y Z
theorem bn0 (O:PT X a tA):PT X (.UnaryOp .Not a pos) (tNot tA):=by intro pins s σ H Q I h;exact isTrue_not (O pins s σ H (λ c H1=>Q (!c) H1) I h)
def bC0 (ta tb:TE):TE:=λ σ H Q=>ta σ H λ x H1=>∃ c,x=.bl c/\if c=true then tb σ H1 Q else Q (.bl false) H1
def bX0 (ta tb:TE):TE:=λ σ H Q=>ta σ H λ x H1=>∃ c,x=.bl c/\if c=true then Q (.bl true) H1 else tb σ H1 Q
def bB1 (ta:TE):TE:=λ σ H Q=>ta σ H λ x H1=>∃ c,x=.bl c/\Q (.bl (!c)) H1
theorem bn6  (h:PE X a t):PE X (.BoolOp op [a] pos) t:=λ pins s σ H Q I hw=>BoolOp_one (h pins s σ H Q I hw)
theorem bo1 (ha:PE X a ta) (hb:PE X (.BoolOp .And (b::rest) pos) tb):PE X (.BoolOp .And (a::b::rest) pos) (bC0 ta tb):=by
 intro pins s σ H Q I h;refine BoolOp_and (thn (ha pins s σ H _ I h) λ v s1=>ex5 λ x H1 Y Z O=>?_);obtain⟨c,rfl,O⟩:=O;cases Z;refine yo ?_;cases c with
 |true=>exact hb pins s1 σ H1 Q Y O
 |false=>exact⟨.bl false,H1,Y,rfl,O⟩
theorem bG1 (ha:PE X a ta) (hb:PE X (.BoolOp .Or (b::rest) pos) tb):PE X (.BoolOp .Or (a::b::rest) pos) (bX0 ta tb):=by
 intro pins s σ H Q I h;refine BoolOp_or (thn (ha pins s σ H _ I h) λ v s1=>ex5 λ x H1 Y Z O=>?_);obtain⟨c,rfl,O⟩:=O;cases Z;refine yo ?_;cases c with
 |false=>exact hb pins s1 σ H1 Q Y O
 |true=>exact⟨.bl true,H1,Y,rfl,O⟩
theorem bn7 (ha:PE X a ta):PE X (.UnaryOp .Not a pos) (bB1 ta):=by intro pins s σ H Q I h;refine UnaryOp_ (thn (ha pins s σ H _ I h) λ v s1=>ex5 λ x H1 Z Y O=>?_);obtain⟨c,rfl,O⟩:=O;cases Y;exact not_of (yo ⟨.bl (!c),H1,Z,rfl,O⟩)
def tIf (t:TT) (ta tb:TE):TE:=λ σ H Q=>t σ H λ c H1=>if c=true then ta σ H1 Q else tb σ H1 Q
theorem aI5  (hc:PT X c tA) (ha:PE X a ta) (hb:PE X b tb):PE X (.IfExp c a b pos) (tIf tA ta tb):=by
 intro pins s σ H Q I h;refine wpAny_IfExp (thn (hc pins s σ H _ I h) λ d Y O=>?_);obtain⟨H1,Z,q1⟩:=O;cases d with
 |true=>exact ha pins Y σ H1 Q Z q1
 |false=>exact hb pins Y σ H1 Q Z q1
end
def SqL (K:Frag) (H:Hp) (a:Addr) (xs:List V):Prop :=
 Rd H a (.lst xs) \/
  ∃ (o:Obj) (O:Array Value) (n:Nat),K.lookup a=some o ∧ o.cls=.type "list" ∧ o.dict=none ∧ o.data=.seq O n ∧ O.size ≤ sizeLine ∧ Vals xs O.toList
def SqT (K:Frag) (H:Hp) (a:Addr) (xs:List V):Prop :=
 Rd H a (.tup xs) \/
  ∃ (o:Obj) (O:Array Value) (n:Nat),K.lookup a=some o ∧ o.cls=.type "tuple" ∧ o.dict=none ∧ o.data=.seq O n ∧ O.size ≤ sizeLine ∧ Vals xs O.toList
noncomputable def cf9:Value->Option V
 |.none=>some .non
 |.bool b=>some (.bl b)
 |.int i _=>some (.int i)
 |.str x _=>some (.str x)
 |.bytes b _=>some (.byt b)
 |.float b _=>some (.flt b)
 |.ref a=>some (.ref a)
 |.type n=>some (.ty n)
 |_=>none
theorem RelV.abs  (r:RelV x u):cf9 u=some x:=by
 cases x with
 |non=>cases r;rfl
 |bl _=>cases r;rfl
 |int _=>obtain⟨t,rfl⟩:=r;rfl
 |str _=>obtain⟨t,rfl⟩:=r;rfl
 |byt _=>obtain⟨t,rfl⟩:=r;rfl
 |flt _=>obtain⟨t,rfl⟩:=r;rfl
 |ref _=>cases r;rfl
 |ty _=>cases r;rfl
theorem RelV.inj  (r:RelV x u) (q:RelV y u):x=y:=qp (r.abs.symm.trans q.abs)
theorem Vals.inj:∀ {xs ys:List V}{us:List Value},Vals xs us->Vals ys us->xs=ys
 |[],ys,us,h,k=>by cases h;cases k;rfl
 |x::xs,ys,us,h,k=>by
  cases h with
  |cons r t =>
   cases k with
   |cons O t'=>rw[r.inj O,Vals.inj t t']
section
variable {X:Cx}{pins:List (Addr×Obj)}{σ:St}{H:Hp}{s:Shared}{a:Addr}{xs ys:List V}
theorem SqL.of {K:Frag} (h:H a=some (.lst xs)):SqL K H a xs:=.inl (.inl h)
theorem SqT.of {K:Frag} (h:H a=some (.tup xs)):SqT K H a xs:=.inl (.inl h)
theorem Inv.list (I:Inv X pins σ H s) (h:SqL X.K H a xs):∃ O:List Value,Vals xs O/\PlainL s.heap a O.toArray/\xs.length<=sizeLine:=by
 rcases h with h | ⟨o,O,n,hk,hc,hd,hs,hz,r⟩
 ·obtain⟨z,O,n,r,e⟩:=h.ok I.hok;exact⟨O,r,⟨_,n,e,rfl,rfl,rfl⟩,z⟩
 ·refine⟨O.toList,r,⟨o,n,I.kIn a o hk,hc,hd,by simpa using hs⟩,?_⟩;have e:=r.length;simp only[yd] at e;omega
theorem Inv.tuple (I:Inv X pins σ H s) (h:SqT X.K H a xs):∃ O:List Value,Vals xs O/\IsTup s.heap a O.toArray/\xs.length<=sizeLine:=by
 rcases h with h | ⟨o,O,n,hk,hc,_,hs,hz,r⟩
 ·obtain⟨z,O,r,p⟩:=h.ok I.hok;exact⟨O,r,p.tup,z⟩
 ·refine⟨O.toList,r,⟨o,I.kIn a o hk,hc,n,by simpa using hs⟩,?_⟩;have e:=r.length;simp only[yd] at e;omega
theorem Inv.tupleN (I:Inv X pins σ H s) (h:SqT X.K H a xs):∃ O:List Value,Vals xs O/\IsTuN s.heap a O.toArray/\xs.length<=sizeLine:=by
 rcases h with h | ⟨o,O,n,hk,hc,hd,hs,hz,r⟩
 ·obtain⟨z,O,r,p⟩:=h.ok I.hok;exact⟨O,r,p,z⟩
 ·refine⟨O.toList,r,⟨o,I.kIn a o hk,hc,⟨n,by simpa using hs⟩,hd⟩,?_⟩;have e:=r.length;simp only[yd] at e;omega
theorem Inv.list_inj (I:Inv X pins σ H s) (h:SqL X.K H a xs) (h':SqL X.K H a ys):xs=ys:=by
 obtain⟨O,r,⟨o,n,e,_,_,d⟩,_⟩:=I.list h;obtain⟨its',Z,⟨o',n',Y,_,_,d'⟩,_⟩:=I.list h';rw[e] at Y;cases Y;rw[d] at d';injection d' with d1 _
 have:O=its':=by simpa using jm Array.toList d1
 subst this;exact r.inj Z
theorem Inv.tuple_inj (I:Inv X pins σ H s) (h:SqT X.K H a xs) (h':SqT X.K H a ys):xs=ys:=by
 obtain⟨O,r,⟨o,e,_,n,d⟩,_⟩:=I.tuple h;obtain⟨its',Z,⟨o',Y,_,n',d'⟩,_⟩:=I.tuple h';rw[e] at Y;cases Y;rw[d] at d';injection d' with d1 _
 have:O=its':=by simpa using jm Array.toList d1
 subst this;exact r.inj Z
end
noncomputable abbrev Cx.wish (X:Cx) (E:Value->Shared->Prop):Cx:={X with xe:=E}
abbrev Cx.nox (X:Cx):Cx:=X.wish λ _ _=>False
theorem Cx.Ok.wish {X:Cx} (ok:X.Ok) (E:Value->Shared->Prop):(X.wish E).Ok :=
 ⟨ok.mod,ok.kind,ok.glob,ok.blt,ok.above,ok.inj,ok.has,ok.cab,ok.hd,ok.frames,ok.stk,ok.exf,ok.bs,ok.bsz,ok.noex,ok.exfs,ok.funs,ok.frf,ok.tab⟩
theorem Cx.Ok.unwish {X:Cx}{E:Value->Shared->Prop} (ok:(X.wish E).Ok):X.Ok :=
 ⟨ok.mod,ok.kind,ok.glob,ok.blt,ok.above,ok.inj,ok.has,ok.cab,ok.hd,ok.frames,ok.stk,ok.exf,ok.bs,ok.bsz,ok.noex,ok.exfs,ok.funs,ok.frf,ok.tab⟩
section
variable {X:Cx}{pins:List (Addr×Obj)}{σ:St}{H:Hp}{s:Shared}{E:Value->Shared->Prop}
theorem Inv.wish (I:Inv X pins σ H s) (E:Value->Shared->Prop):Inv (X.wish E) pins σ H s:=⟨I.ok.wish E,I.os,I.bare,I.base,I.loc,I.cell,I.free,I.freeC,I.pin,I.hok,I.len⟩
theorem Inv.unwish (I:Inv (X.wish E) pins σ H s):Inv X pins σ H s:=⟨I.ok.unwish,I.os,I.bare,I.base,I.loc,I.cell,I.free,I.freeC,I.pin,I.hok,I.len⟩
theorem SP.unwish  (h:SP (X.wish E) pins D f s'):SP X pins D f s':=by
 cases f with
 |next=>obtain⟨O,H',I,q⟩:=h;exact⟨O,H',I.unwish,q⟩
 |brk=>obtain⟨O,H',I,q⟩:=h;exact⟨O,H',I.unwish,q⟩
 |cont=>obtain⟨O,H',I,q⟩:=h;exact⟨O,H',I.unwish,q⟩
 |ret u=>obtain⟨v,O,H',I,r,q⟩:=h;exact⟨v,O,H',I.unwish,r,q⟩
theorem PE.nox  (h:PE X.nox e t):PE X e t:=λ pins s σ H Q I hw =>
 zv (h pins s σ H Q (I.wish _) hw) (λ _ _ ⟨v,H',O,r,q⟩=>⟨v,H',O.unwish,r,q⟩) λ _ _ z=>False.elim z
theorem PT.nox  (h:PT X.nox e t):PT X e t:=λ pins s σ H Q I hw =>
 zv (h pins s σ H Q (I.wish _) hw) (λ _ _ ⟨H',O,q⟩=>⟨H',O.unwish,q⟩) λ _ _ z=>False.elim z
theorem PSs.nox {st:List Stmt} (h:PSs X.nox st t):PSs X st t:=λ pins s σ H D I hw =>
 zv (h pins s σ H D (I.wish _) hw) (λ _ _ q=>q.unwish) λ _ _ z=>False.elim z
end
section
variable {st:Stmt}{rest:List Stmt}
def bB2:TS:=λ D σ H=>D.nx σ H
def bW8 (t u:TS):TS:=λ D σ H=>t {D with nx:=u D} σ H
theorem au8:PSs X [] bB2:=λ _ _ σ H _ I h=>j4 ⟨σ,H,I,h⟩
theorem k_9 (h1:PS X st t) (h2:PSs X rest u):PSs X (st::rest) (bW8 t u):=by
 intro pins s σ H D I h;refine Q1 (thn (h1 pins s σ H {D with nx:=u D} I h) λ f Y q=>?_);cases f with
 |next =>
  obtain⟨O,H',Z,q⟩:=q;exact h2 pins Y O H' D Z q
 |ret v=>exact q
 |brk=>exact q
 |cont=>exact q
theorem s_8 (h1:PS X st t):PSs X [st] t:=by
 intro pins s σ H D I h;refine Q1 (thn (h1 pins s σ H D I h) λ f O q=>?_);cases f with
 |next=>exact j4 q
 |ret v=>exact q
 |brk=>exact q
 |cont=>exact q
theorem Inv.quiet  (I:Inv X pins σ H s):interactive X.env=false:=by simp[interactive,I.ok.kind]
def bB3 (te:TE):TS:=λ D σ H=>te σ H λ _ H1=>D.nx σ H1
theorem av1 (Y:PE X e te) (hs:swapsWith e none pos.line X.env=pure false):PS X (.Expr e pos) (bB3 te):=by intro pins s σ H D I h;exact wpAny_Expr_any (thn (Y pins s σ H _ I h) λ v s1=>ex5 λ x H1 O r1 Z=>⟨σ,H1,O,Z⟩) I.quiet hs
def bW9 (te:TE):TS:=λ D σ H=>te σ H D.rt
theorem au9 (Z:PE X e te):PS X (.Return (some e) pos) (bW9 te):=by intro pins s σ H D I h;exact wpAny_Return_some (thn (Z pins s σ H _ I h) λ v s1=>ex5 λ x H1 Y O q1=>⟨x,σ,H1,Y,O,q1⟩)
def bX4 (c:TT) (t u:TS):TS:=λ D σ H=>c σ H λ b H1=>if b=true then t D σ H1 else u D σ H1
theorem aY1  (hc:PT X c tc) (ha:PSs X a t) (hb:PSs X b u):PS X (.If c a b pos) (bX4 tc t u):=by
 intro pins s σ H D I h;refine wpAny_If (thn (hc pins s σ H _ I h) λ d Y O=>?_);obtain⟨H1,Z,q1⟩:=O;cases d with
 |true=>exact ha pins Y σ H1 D Z q1
 |false=>exact hb pins Y σ H1 D Z q1
end
abbrev TG:=V->St->Hp->(St->Hp->Prop)->Prop
abbrev TGs:=List V->St->Hp->(St->Hp->Prop)->Prop
def PG (X:Cx) (O:Expr) (t:TG):Prop :=
 ∀ (pins:List (Addr×Obj)) (s:Shared) (σ:St) (H:Hp) (v:V) (u:Value) (Q:St->Hp->Prop),Inv X pins σ H s->RelV v u->t v σ H Q ->
  wpAny (model X.prog X.w) X.A (assign O X.env u) (λ _ s'=>∃ Y H',Inv X pins Y H' s'/\Q Y H') X.xe s
def PGs (X:Cx) (Y:List Expr) (t:TGs):Prop :=
 ∀ (pins:List (Addr×Obj)) (s:Shared) (σ:St) (H:Hp) (vs:List V) (us:List Value) (Q:St->Hp->Prop),Inv X pins σ H s->Vals vs us->t vs σ H Q ->
  wpAny (model X.prog X.w) X.A (assignInOrder ((assignEach Y X.env).map (·.2)) us) (λ _ s'=>∃ O H',Inv X pins O H' s'/\Q O H') X.xe s
section
variable {X:Cx}{pos:Pos}
def bc8 (i:Nat):TG:=λ v σ H Q=>Q (σ.set i (some v)) H
theorem av9  (hN:X.N.Nodup) (hi:X.N[i]?=some x) (Z:Loc X.env.scope x) (Y:X.fn x=true\/X.env.scope.names.lookup x=some .local:=by first | exact .inl rfl | exact .inr rfl | assumption):PG X (.Name x pos) (bc8 i):=by intro pins s σ H v u Q I r h;exact wpAny_assign_Name (D_8 I hN hi Z r (λ s' O=>⟨_,H,O,h⟩) Y)
def cc6:TGs:=λ vs σ H Q=>vs=[]/\Q σ H
def bI3 (t:TG) (u:TGs):TGs:=λ vs σ H Q=>∃ v r,vs=v::r/\t v σ H λ O H'=>u r O H' Q
theorem aY8:PGs X [] cc6:=by intro pins s σ H vs us Q I r h;obtain⟨e,h⟩:=h;subst e;cases r;exact assignInOrder_nil ⟨σ,H,I,h⟩
theorem aI3 {e:Expr}{es:List Expr}{t:TG}{u:TGs} (h1:PG X e t) (h2:PGs X es u)
  (hs:(assignEach (e::es) X.env).map (·.2)=assign e X.env::(assignEach es X.env).map (·.2)):PGs X (e::es) (bI3 t u):=by
 intro pins s σ H vs us Q I r h;obtain⟨v,vr,e1,h⟩:=h;subst e1;cases r with
 |cons r rr =>
  rw[hs];refine assignInOrder_cons (thn (h1 pins s σ H _ _ _ I r h) λ _ Z O=>?_);obtain⟨Y,H1,I1,q1⟩:=O;exact h2 pins Z Y H1 _ _ Q I1 rr q1
def cc3 (K:Frag) (n:Nat) (t:TGs):TG:=λ v σ H Q=>∃ a xs,v=.ref a/\SqT K H a xs/\xs.length=n/\t xs σ H Q
theorem bn4 {es:List Expr}{k:Nat}{t:TGs}{n:Nat} (hc:X.calm=true) (h:PGs X es t)
  (hn:(assignEach es X.env).length=n) (O:(assignEach es X.env).findIdx? (·.1)=none):PG X (.Tuple es k pos) (cc3 X.K n t):=by
 intro pins s σ H v u Q I r hw;obtain⟨a,xs,e1,Z,hl,hw⟩:=hw;subst e1;cases r;obtain⟨aa,Y,ht,hz⟩:=I.tuple Z;refine assign_Tuple_tuple (I.ok.hd hc) ht (by simp[hn,<- hl,Y.length]) O λ h' hx=>?_;have I1:Inv X pins σ H {s with heap:=h'}:=I.kept (t':=s.toks) λ b o e=>hx b o (qy (qv e)) e;exact h pins _ σ H xs _ Q I1 (by simpa using Y) hw
def bN5 (te:TE) (g:TG):TS:=λ D σ H=>te σ H λ x H1=>g x σ H1 D.nx
theorem x_7  (hN:X.N.Nodup) (hi:X.N[i]?=some x) (hx:Loc X.env.scope x) (Z:PE X e te) (hs:swapsWith e (some (.Name x pos')) pos.line X.env=pure false:=by rfl) (hf:X.fn x=true\/X.env.scope.names.lookup x=some .local:=by first | exact .inl rfl | exact .inr rfl | assumption) :
  PS X (.Assign [.Name x pos'] e pos) (bN5 te (bc8 i)):=by
 intro pins s σ H D I h;refine wpAny_Assign_Name (thn (Z pins s σ H _ I h) λ v s1=>ex5 λ y H1 Y O q1=>?_) hs;exact D_8 Y hN hi hx O (λ s2 I2=>⟨_,H1,I2,q1⟩) hf
end
section
def bk4 (c:TT) (tb:TS):TS:=λ D σ H=>∃ W:Nat->St->Hp->Prop,(∃ m,W m σ H)/\∀ m σ H,W m σ H ->
 c σ H λ b H1=>if b=true then ∃ N:St->Hp->Prop,(∀ O H',N O H'->∃ Y,Y<m/\W Y O H')/\tb {D with nx:=N,ct:=N,bk:=D.nx} σ H1 else D.nx σ H1
theorem aI0  (hp:PassesOwn (model X.prog X.w) X.A X.env X.xe) (hc:PT X c tc) (hb:PSs X body tb):PS X (.While c body [] pos) (bk4 tc tb):=by
 intro pins s σ H D I h;obtain⟨W,⟨m0,w0⟩,ac⟩:=h;refine wpAny_While (codeAny_whileLoop (λ n s'=>∃ Z H',Inv X pins Z H' s'/\W n Z H') ?_ m0 ⟨σ,H,I,w0⟩);rintro n s1 ⟨Y,H1,I1,w1⟩;refine jy hp (thn (hc pins s1 Y H1 _ I1 (ac n Y H1 w1)) λ b s2 aa=>?_);obtain⟨H2,I2,q2⟩:=aa;cases b with
 |true =>
  obtain⟨N,hN,q2⟩:=q2;rw[if_pos rfl];refine jy hp (thn (hb pins s2 Y H2 _ I2 q2) λ f s3 q3=>?_);cases f with
  |next =>
   obtain⟨O,H3,I3,n3⟩:=q3;obtain⟨m',hm,w3⟩:=hN O H3 n3;exact⟨m',hm,O,H3,I3,w3⟩
  |cont =>
   obtain⟨O,H3,I3,n3⟩:=q3;obtain⟨m',hm,w3⟩:=hN O H3 n3;exact⟨m',hm,O,H3,I3,w3⟩
  |brk=>exact q3
  |ret v=>exact q3
 |false =>
  rw[if_neg zc];exact j4 ⟨Y,H2,I2,q2⟩
end
structure It where
 go:Nat->Hp->Prop
 yld:Nat->Hp->V->Hp->Prop
 stop:Nat->Hp->Prop
def FpOk (X:Cx) (pins:List (Addr×Obj)) (H:Hp) (b:Addr):Prop :=
 H b=none/\b≠X.env.locals/\b∉X.fs/\(b∈X.ex\/X.s₀.heap.objs.size<=b)/\(∀ x c,X.env.cells.lookup x=some c->c≠b)/\∀ p∈X.pn++pins,p.1≠b
theorem Inv.fpOk  (I:Inv X pins σ H s) (hb:s.heap.objs.size<=b) (O:H' b=none):FpOk X pins H' b:=by
 refine⟨O,jb (qx I.lt hb),I.nofs hb,.inr (z0 I.sz hb),λ x c e z=>?_,λ p hp z=>?_⟩
 ·obtain⟨v,q⟩:=I.cell x c e;exact absurd (qx q.lt (by rw[z];exact hb)) (yk _)
 ·exact absurd (qx (qv (I.pin p hp).1) (by rw[z];exact hb)) (yk _)
structure Turn (P:Program) (w:World) (K:Frag) (tg:Expr) (J:It) (fp:List Addr) (it:Addr) (tn:Nat->Heap->Prop):Prop where
 mem:it∈fp
 obj:∀ i h,tn i h->∀ b∈fp,∃ o,h.get? b=some o/\∀ v,o.data≠.cell v
 keep:∀ i h h',tn i h->(∀ b∈fp,∀ o,h.get? b=some o->h'.get? b=some o)->tn i h'
 item:∀ (X:Cx),X.prog=P->X.w=w->X.K=K->X.calm=true->∀ (i:Nat) (pins:List (Addr×Obj)) (s:Shared) (σ:St) (H:Hp) (E:Value->Shared->Prop),Inv X pins σ H s->(∀ b∈fp,FpOk X pins H b)->tn i s.heap->J.go i H ->
  wpAny (model P w) X.A (pyNext (.ref it)) (λ r s1=>∃ u,r=some u /\
   wpAny (model P w) X.A (letOwnedTupleGo tg (.ref it) u) (λ _ s2=>∃ x H',Inv X pins σ H' s2/\RelV x u/\J.yld i H x H'/\tn (i+1) s2.heap/\∀ b∈fp,H' b=none) E s1) E s
 done:∀ (X:Cx),X.prog=P->X.w=w->X.K=K->X.calm=true->∀ (i:Nat) (pins:List (Addr×Obj)) (s:Shared) (σ:St) (H:Hp) (E:Value->Shared->Prop),Inv X pins σ H s->(∀ b∈fp,FpOk X pins H b)->tn i s.heap->J.stop i H ->
  wpAny (model P w) X.A (pyNext (.ref it)) (λ r s1=>r=none/\Inv X pins σ H s1) E s
 self:∀ (A:Around) (i:Nat) (s:Shared) (Q:Value->Shared->Prop) (E:Value->Shared->Prop),tn i s.heap->Q (.ref it) s->wpAny (model P w) A (pyIter (.ref it)) Q E s
abbrev TI:=St->Hp->(It->Hp->Prop)->Prop
def PIE (X:Cx) (pins:List (Addr×Obj)) (σ:St) (tg:Expr) (R:It->Hp->Prop) (O:Value) (Y:Shared):Prop :=
 ∃ (it:Addr) (Z:List Addr) (tn:Nat->Heap->Prop) (J:It) (H':Hp),O=.ref it/\Inv X pins σ H' Y/\Turn X.prog X.w X.K tg J Z it tn/\tn 0 Y.heap/\(∀ b∈Z,FpOk X pins H' b)/\R J H'
def PI (X:Cx) (tg iter:Expr) (Y:TI):Prop :=
 ∀ (pins:List (Addr×Obj)) (s:Shared) (σ:St) (H:Hp) (R:It->Hp->Prop),Inv X pins σ H s->Y σ H R ->
  wpAny (model X.prog X.w) X.A (eval iter X.env) (λ v O=>wpAny (model X.prog X.w) X.A (pyIter v) (PIE X pins σ tg R) X.xe O) X.xe s
theorem aA3  (Y:s.heap.get? it=some o) (hc:o.cls=.type n) (hd:o.data=.fields vs)
  (Z:["enumerate","zip","dict_itemiterator","dict_reverseitemiterator","odict_iterator","itertools.zip_longest","itertools.pairwise"].contains n=false) (O:Q () s):wpAny M A (letOwnedTupleGo tg (.ref it) u) Q E s:=by
 cases tg <;> first
  |exact qk O
  |(cases u <;> first
    |exact qk O
    |(refine qj (wpAny_load Y ?_);rw[hc,hd];show wpAny M A (if (["enumerate","zip","dict_itemiterator","dict_reverseitemiterator","odict_iterator","itertools.zip_longest","itertools.pairwise"].contains n&&vs[0]?==some (rawInt _))=true then _ else _) Q E s;rw[if_neg (by intro h;rw[Z,Bool.false_and] at h;cases h)];exact qk O))
noncomputable def Itl (K:Frag) (a:Addr):It :=
 ⟨λ i H=>∃ xs x,SqL K H a xs/\xs[i]?=some x,λ i H x H'=>H'=H/\∀ xs,SqL K H a xs->xs[i]?=some x,λ i H=>∃ xs,SqL K H a xs/\xs.length<=i⟩
noncomputable def Itt (K:Frag) (a:Addr):It :=
 ⟨λ i H=>∃ xs x,SqT K H a xs/\xs[i]?=some x,λ i H x H'=>H'=H/\∀ xs,SqT K H a xs->xs[i]?=some x,λ i H=>∃ xs,SqT K H a xs/\xs.length<=i⟩
noncomputable def Itr (lo:Int) (n:Nat):It:=⟨λ i _=>i<n,λ i H x H'=>H'=H/\x=.int (lo+i),λ i _=>n<=i⟩
theorem ar8 {K:Frag} (a it:Addr):Turn P w K tg (Itl K a) [it] it (λ i h=>h.IsListIter it a i) where
 mem:=by simp
 obj:=λ i h st b hb=>by
  have e:b=it:=by simpa using hb
  subst e;obtain⟨o,e,c,d⟩:=st;exact⟨o,e,λ v z=>by rw[d] at z;cases z⟩
 keep:=λ i h h' st k=>st.at λ o e=>k it (by simp) o e
 item:=by
  intro X hP hw hK hc i pins s σ H E I Z st hg;subst hP hw hK;obtain⟨xs,x,Y,hx⟩:=hg;obtain⟨aa,rv,p,hz⟩:=I.list Y;obtain⟨u,hu,ru⟩:=rv.get hx;obtain⟨f0,f1,f2,f3,f4,f5⟩:=Z it (by simp);refine Zl st p.isList (by simpa using hu) λ h' O sb=>?_;have I1:=I.turned (t':=s.toks) (λ b o hb e=>(sb.2 b hb).trans e) f0 f1 f3 f4 f5;obtain⟨o,e,c,d⟩:=id O;exact⟨u,rfl,aA3 e c d (by decide) ⟨x,H,I1,ru,⟨rfl,λ ys hy=>by rw[I.list_inj hy Y];exact hx⟩,O,λ b hb=>(Z b hb).1⟩⟩
 done:=by
  intro X hP hw hK hc i pins s σ H E I Z st hg;subst hP hw hK;obtain⟨xs,Y,hx⟩:=hg;obtain⟨aa,rv,p,hz⟩:=I.list Y;obtain⟨f0,f1,f2,f3,f4,f5⟩:=Z it (by simp);have hl:=rv.length;exact Zt (I.ok.hd hc) st p.isList (by simp;omega) λ h' eb=>⟨rfl,I.turned (λ b o hb e=>eb b o hb e) f0 f1 f3 f4 f5⟩
 self:=λ _ _ _ _ _ st h=>wpAny_pyIter_listiter st h
theorem an1 {K:Frag} (a it:Addr):Turn P w K tg (Itt K a) [it] it (λ i h=>h.IsTupleIter it a i) where
 mem:=by simp
 obj:=λ i h st b hb=>by
  have e:b=it:=by simpa using hb
  subst e;obtain⟨o,e,c,d⟩:=st;exact⟨o,e,λ v z=>by rw[d] at z;cases z⟩
 keep:=λ i h h' st k=>st.at λ o e=>k it (by simp) o e
 item:=by
  intro X hP hw hK hc i pins s σ H E I hf st hg;subst hP hw hK;obtain⟨xs,x,Z,hx⟩:=hg;obtain⟨O,rv,p,hz⟩:=I.tuple Z;obtain⟨u,hu,ru⟩:=rv.get hx;obtain⟨f0,f1,f2,f3,f4,f5⟩:=hf it (by simp);refine wpAny_pyNext_tuple_item st (show s.heap.IsTuple a O.toArray from p) (by simpa using hu) λ h' Y sb=>?_;have I1:=I.turned (t':=s.toks) (λ b o hb e=>(sb.2 b hb).trans e) f0 f1 f3 f4 f5;obtain⟨o,e,c,d⟩:=id Y;exact⟨u,rfl,aA3 e c d (by decide) ⟨x,H,I1,ru,⟨rfl,λ ys hy=>by rw[I.tuple_inj hy Z];exact hx⟩,Y,λ b hb=>(hf b hb).1⟩⟩
 done:=by
  intro X hP hw hK hc i pins s σ H E I hf st hg;subst hP hw hK;obtain⟨xs,Z,hx⟩:=hg;obtain⟨O,rv,p,hz⟩:=I.tuple Z;obtain⟨f0,f1,f2,f3,f4,f5⟩:=hf it (by simp);have hl:=rv.length;exact wpAny_pyNext_tuple_end (I.ok.hd hc) st (show s.heap.IsTuple a O.toArray from p) (by simp;omega) λ h' eb=>⟨rfl,I.turned (λ b o hb e=>eb b o hb e) f0 f1 f3 f4 f5⟩
 self:=λ _ _ _ _ _ st h=>wpAny_pyIter_tupleiter st h
theorem an2 {K:Frag} (it:Addr) (lo:Int) (n:Nat):Turn P w K tg (Itr lo n) [it] it (λ i h=>IsRangeIter h it (lo+(i:Nat)*1) ((n:Int)-(i:Nat)) 1) where
 mem:=by simp
 obj:=λ i h st b hb=>by
  have e:b=it:=by simpa using hb
  subst e;exact⟨_,st,λ v z=>by
   have z':=z;cases z'⟩
 keep:=λ i h h' st k=>k it (by simp) _ st
 item:=by
  intro X hP hw hK hc i pins s σ H E I Y st hg;subst hP hw hK;obtain⟨f0,f1,f2,f3,f4,Z⟩:=Y it (by simp);have W:=Walks.range (prog:=X.prog) (w:=X.w) (I.ok.hd hc) it lo 1 n;refine W.item i s _ _ hg st λ v h' tk hv O kk=>?_;obtain⟨t,rfl⟩:=hv;have I1:Inv X pins σ H {s with heap:=h',toks:=tk}:=I.turned (λ b o hb e=>kk b o (by simpa using hb) e) f0 f1 f3 f4 Z;refine⟨_,rfl,aA3 O rfl rfl (by decide) ⟨.int (lo+i),H,I1,⟨t,?_⟩,⟨rfl,rfl⟩,O,λ b hb=>(Y b hb).1⟩⟩;rw[Int.mul_one]
 done:=by
  intro X hP hw hK hc i pins s σ H E I Y st hg;subst hP hw hK;obtain⟨f0,f1,f2,f3,f4,Z⟩:=Y it (by simp);exact wpAny_pyNext_range_end (I.ok.hd hc) st (by have:n<=i:=hg;omega) λ h' eb=>⟨rfl,I.turned (λ b o hb e=>eb b o hb e) f0 f1 f3 f4 Z⟩
 self:=λ _ _ _ _ _ st h=>wpAny_pyIter_rangeiter st h
section
def br8 (K:Frag) (tl:TE):TI:=λ σ H R=>tl σ H λ x H1=>∃ a,x=.ref a/\(∃ xs,SqL K H1 a xs)/\R (Itl K a) H1
def bQ7 (K:Frag) (tl:TE):TI:=λ σ H R=>tl σ H λ x H1=>∃ a,x=.ref a/\(∃ xs,SqT K H1 a xs)/\R (Itt K a) H1
theorem ab1  (hl:PE X l tl):PI X tg l (br8 X.K tl):=by
 intro pins s σ H R I h;refine thn (hl pins s σ H _ I h) λ v O=>ex5 λ x H1 Y r1 q1=>?_;obtain⟨a,e,⟨xs,Z⟩,q⟩:=q1;subst e;cases r1;obtain⟨aa,rv,p,hz⟩:=Y.list Z;refine Qu p.isList ?_;refine⟨O.heap.objs.size,[O.heap.objs.size],_,_,H1,rfl,Y.kept λ b o e=>ql _ e,ar8 a _,⟨_,qt _ rfl,rfl,rfl⟩,λ b hb=>?_,q⟩;have e:b=O.heap.objs.size:=by simpa using hb
 subst e;exact Y.fpOk (qr _) (Y.hok.fresh (qr _))
theorem bn1  (hl:PE X l tl):PI X tg l (bQ7 X.K tl):=by
 intro pins s σ H R I h;refine thn (hl pins s σ H _ I h) λ v O=>ex5 λ x H1 Y r1 q1=>?_;obtain⟨a,e,⟨xs,hq⟩,q⟩:=q1;subst e;cases r1;obtain⟨Z,rv,p,hz⟩:=Y.tuple hq;refine wpAny_pyIter_tuple (show O.heap.IsTuple a Z.toArray from p) ?_;refine⟨O.heap.objs.size,[O.heap.objs.size],_,_,H1,rfl,Y.kept λ b o e=>ql _ e,an1 a _,⟨_,qt _ rfl,rfl,rfl⟩,λ b hb=>?_,q⟩;have e:b=O.heap.objs.size:=by simpa using hb
 subst e;exact Y.fpOk (qr _) (Y.hok.fresh (qr _))
theorem aH4 {lo hi:Int} (I:Inv X pins σ H s) (h1:-(2 ^ 62)<=lo) (h2:lo<2 ^ 62) (Z:-(2 ^ 62)<=hi) (Y:hi<2 ^ 62)
  (q:R (Itr lo (hi-lo).toNat) H):wpAny (model X.prog X.w) X.A (pyIter (.ref s.heap.objs.size)) (PIE X pins σ tg R) E {s with heap:=s.heap.push {cls:=.type "range",data:=.fields #[.int lo t,.int hi u,.int 1 v]},toks:=tk}:=by
 refine wpAny_pyIter_range (IsRange.new ..) (small_one h1 h2 Z Y) ?_;have O:Inv X pins σ H {s with heap:=s.heap.push {cls:=.type "range",data:=.fields #[.int lo t,.int hi u,.int 1 v]},toks:=tk}:=I.kept λ b o e=>ql _ e;refine⟨(s.heap.push {cls:=.type "range",data:=.fields #[.int lo t,.int hi u,.int 1 v]}).objs.size,[(s.heap.push {cls:=.type "range",data:=.fields #[.int lo t,.int hi u,.int 1 v]}).objs.size],_,_,H,rfl,
  O.kept λ b o e=>ql _ e,an2 _ lo (hi-lo).toNat,?_,λ b hb=>?_,q⟩
 ·have e1:lo+((0:Nat):Int)*1=lo:=by simp
  have e2:(((hi-lo).toNat:Nat):Int)-((0:Nat):Int)=Builtin.Range.rangeSize lo hi 1:=by rw[rangeSize_one];split <;> omega
  rw[e1,e2];exact qt _ rfl
 ·have e:b=(s.heap.push {cls:=.type "range",data:=.fields #[.int lo t,.int hi u,.int 1 v]}).objs.size:=by simpa using hb
  subst e;exact O.fpOk (qr _) (O.hok.fresh (qr _))
def bI2 (ta:TA):TI:=λ σ H R=>ta σ H λ vs H1=>∃ j:Int,vs=[.int j]/\-(2 ^ 62)<=j/\j<2 ^ 62/\R (Itr 0 j.toNat) H1
theorem av7 {a:Expr}{ta:TA}{p pos:Pos} (hg:Gl X "range") (hm:X.mg "range"=none) (ha:PA X [a] ta) (hs:starEach [a] X.env=[(false,eval a X.env)]):PI X tg (.Call (.Name "range" p) [a] [] pos) (bI2 ta):=by
 intro pins s σ H R I h;refine Call_ (X_0 I hg hm boot_range (j9 (thn (ha pos pins s σ H _ I h) λ us s1=>ex5 λ vs H1 I1 Z O=>?_) hs rfl));obtain⟨j,e,O,Y,q⟩:=O;subst e;cases Z with
 |cons r rr =>
  cases rr;obtain⟨t,rfl⟩:=r;exact call_range_1 (aH4 I1 (by omega) (by omega) O Y (by simpa using q))
def bX5 (wi:TI) (g:TG) (tb:TS):TS:=λ D σ H=>wi σ H λ J H1=>∃ W:Nat->Nat->St->Hp->Prop,(∃ m,W 0 m σ H1)/\∀ i m σ H,W i m σ H ->
 (J.stop i H/\D.nx σ H)\/(J.go i H/\∃ N:St->Hp->Prop,(∀ O H',N O H'->∃ Z,Z<m/\W (i+1) Z O H')/\∀ x H',J.yld i H x H'->g x σ H' λ Y H2=>tb {D with nx:=N,ct:=N,bk:=D.nx} Y H2)
noncomputable def V_0 (O:List Addr) (h:Heap):List (Addr×Obj):=O.filterMap λ b=>(h.get? b).map λ o=>(b,o)
theorem u_2  (hb:b∈O) (e:h.get? b=some o):(b,o)∈V_0 O h:=List.mem_filterMap.mpr ⟨b,hb,by rw[e];rfl⟩
theorem ax2  (hp:p∈V_0 O h):p.1∈O/\h.get? p.1=some p.2:=by
 obtain⟨b,hb,e⟩:=List.mem_filterMap.mp hp;cases q:h.get? b with
 |none=>rw[q] at e;cases e
 |some o =>
  rw[q] at e;have Y:=qp e;subst Y;exact⟨hb,q⟩
theorem Inv.pinned  (I:Inv X pins σ H s) (hf:∀ b∈O,FpOk X pins H b) (ho:∀ b∈O,∃ o,s.heap.get? b=some o/\∀ v,o.data≠.cell v):Inv X (pins++V_0 O s.heap) σ H s :=
 I.pins_of λ p hp=>(zb hp).elim (λ z=>I.pin p (qw _ z)) λ z=>by
  obtain⟨hb,e⟩:=ax2 z;obtain⟨f0,Z,f2,_⟩:=hf p.1 hb;obtain⟨o,Y,d⟩:=ho p.1 hb;rw[e] at Y;cases Y;exact⟨e,f0,Z,f2,d⟩
theorem Inv.unpinned {pins O:List (Addr×Obj)}{σ:St}{H:Hp}{s:Shared} (I:Inv X (pins++O) σ H s):Inv X pins σ H s:=I.pins_of λ p hp=>I.pin p (qw _ (Q5 _ hp))
theorem ah6  (hp:PassesOwn (model X.prog X.w) X.A X.env X.xe) (hc:X.calm=true) (hi:PI X tg iter wi) (hg:PG X tg g) (hb:PSs X body tb)
  (hs:∀ x,foldedSetIterable iter X.env x=pure x:=by intro _;rfl):PS X (.For tg iter body [] pos) (bX5 wi g tb):=by
 intro pins s σ H D I h;refine wpAny_For (thn (hi pins s σ H _ I h) λ v s1 h1=>thn h1 λ al s2 h2=>?_) hs;obtain⟨it,fp,tn,J,H2,e,I2,T,aj,f2,W,⟨m0,w0⟩,ag⟩:=h2;subst e;have ad:∀ {H':Hp},(∀ b∈fp,H' b=none)->∀ b∈fp,FpOk X pins H' b:=λ hn b hb=>⟨hn b hb,(f2 b hb).2⟩
 refine codeAny_forLoop_any (λ n s'=>∃ i Z H',Inv X pins Z H' s'/\tn i s'.heap/\(∀ b∈fp,H' b=none)/\W i n Z H') ?_ m0 ⟨0,σ,H2,I2,aj,λ b hb=>(f2 b hb).1,w0⟩;rintro n s3 ⟨i,aa,H3,I3,ah,af,w3⟩;rcases ag i n aa H3 w3 with ⟨stop,qn⟩ | ⟨go,N,hN,step⟩
 ·refine jy hp (thn (T.done X rfl rfl rfl hc i pins s3 aa H3 X.xe I3 (ad af) ah stop) λ r s4 O=>?_);obtain⟨hr,I4⟩:=O;subst hr;exact j4 ⟨aa,H3,I4,qn⟩
 ·refine jy hp (thn (T.item X rfl rfl rfl hc i pins s3 aa H3 X.xe I3 (ad af) ah go) λ r s4 O=>?_);obtain⟨u,hr,h4⟩:=O;subst hr;refine jy hp (thn h4 λ _ s5 O=>?_);obtain⟨x,H5,I5,r5,y5,ae,ai⟩:=O;have I5':=I5.pinned (ad ai) (T.obj _ _ ae);refine jy hp (thn (hg _ s5 aa H5 x u _ I5' r5 (step x H5 y5)) λ _ s6 O=>?_);obtain⟨ak,H6,I6,q6⟩:=O;refine jy hp (thn (hb _ s6 ak H6 _ I6 q6) λ f s7 q7=>?_);have ac:∀ {Y:St}{H7:Hp},Inv X (pins++V_0 fp s5.heap) Y H7 s7->N Y H7->∃ m,m<n/\∃ i Z H',Inv X pins Z H' s7/\tn i s7.heap/\(∀ b∈fp,H' b=none)/\W i m Z H':=λ {Y H7} I7 n7=>by
   obtain⟨m',hm,w7⟩:=hN Y H7 n7;refine⟨m',hm,i+1,Y,H7,I7.unpinned,T.keep _ _ _ ae λ b hb o e=>(I7.pin (b,o) (qw _ (qw _ (u_2 hb e)))).1,λ b hb=>?_,w7⟩;obtain⟨o,e,d⟩:=T.obj _ _ ae b hb;exact (I7.pin (b,o) (qw _ (qw _ (u_2 hb e)))).2.1
  cases f with
  |next=>obtain⟨Y,H7,I7,n7⟩:=q7;exact ac I7 n7
  |cont=>obtain⟨Y,H7,I7,n7⟩:=q7;exact ac I7 n7
  |brk=>obtain⟨Y,H7,I7,q7⟩:=q7;exact⟨Y,H7,I7.unpinned,q7⟩
  |ret v=>obtain⟨x7,Y,H7,I7,r7,q7⟩:=q7;exact⟨x7,Y,H7,I7.unpinned,r7,q7⟩
end
abbrev R2:=V->V->Hp->VK->Prop
def OpR (X:Cx) (f:Value->Value->Sem Value) (r:R2):Prop :=
 ∀ (pins:List (Addr×Obj)) (s:Shared) (σ:St) (H:Hp) (x y:V) (v u:Value) (Q:VK),Inv X pins σ H s->RelV x v->RelV y u->r x y H Q ->
  wpAny (model X.prog X.w) X.A (f v u) (EP X pins σ Q) X.xe s
def UnR (X:Cx) (f:Value->Sem Value) (r:V->Hp->VK->Prop):Prop :=
 ∀ (pins:List (Addr×Obj)) (s:Shared) (σ:St) (H:Hp) (x:V) (v:Value) (Q:VK),Inv X pins σ H s->RelV x v->r x H Q ->
  wpAny (model X.prog X.w) X.A (f v) (EP X pins σ Q) X.xe s
def CallR (X:Cx) (f:Value) (r:List V->Hp->VK->Prop):Prop :=
 ∀ (pins:List (Addr×Obj)) (s:Shared) (σ:St) (H:Hp) (xs:List V) (us:List Value) (Q:VK),Inv X pins σ H s->Vals xs us->r xs H Q ->
  wpAny (model X.prog X.w) X.A (call f us) (EP X pins σ Q) X.xe s
def cg2 (X:Cx) (r:V->Hp->(Bool->Hp->Prop)->Prop):Prop :=
 ∀ (pins:List (Addr×Obj)) (s:Shared) (σ:St) (H:Hp) (x:V) (v:Value) (Q:Bool->Hp->Prop),Inv X pins σ H s->RelV x v->r x H Q ->
  wpAny (model X.prog X.w) X.A (truthy v) (TP X pins σ Q) X.xe s
def tOp (r:R2) (ta tb:TE):TE:=λ σ H Q=>ta σ H λ x H1=>tb σ H1 λ y H2=>r x y H2 Q
def tUn (r:V->Hp->VK->Prop) (ta:TE):TE:=λ σ H Q=>ta σ H λ x H1=>r x H1 Q
def rI (C:Int->Int->Prop) (g:Int->Int->V):R2:=λ x y H Q=>∃ i j,x=.int i/\y=.int j/\C i j/\Q (g i j) H
def rI0 (g:Int->Int->V):R2:=λ x y H Q=>∃ i j,x=.int i/\y=.int j/\Q (g i j) H
def rU (g:Int->V):V->Hp->VK->Prop:=λ x H Q=>∃ i,x=.int i/\Q (g i) H
section
theorem bL8 (ha:PE X a ta) (hb:PE X b tb) {R:V->V->Hp->Prop} (I:Inv X pins σ H s)
  (h:ta σ H λ x H1=>tb σ H1 λ y H2=>R x y H2) {f:Value->Value->Sem Value}
  (hf:∀ v u Z x y H2,Inv X pins σ H2 Z->RelV x v->RelV y u->R x y H2->wpAny (model X.prog X.w) X.A (f v u) Q X.xe Z) :
  wpAny (model X.prog X.w) X.A (eval a X.env) (λ v Y=>wpAny (model X.prog X.w) X.A (eval b X.env) (λ u O=>wpAny (model X.prog X.w) X.A (f v u) Q X.xe O) X.xe Y) X.xe s:=by
 refine thn (ha pins s σ H _ I h) λ v s1=>ex5 λ x H1 I1 r1 q1=>?_;refine thn (hb pins s1 σ H1 _ I1 q1) λ u Z=>ex5 λ y H2 I2 r2 q2=>?_;exact hf v u Z x y H2 I2 r1 r2 q2
theorem aI4  (ho:OpR X (binaryOp op) r) (ha:PE X a ta) (hb:PE X b tb):PE X (.BinOp a op b pos) (tOp r ta tb):=by intro pins s σ H Q I h;exact wpAny_BinOp (bL8 ha hb I h λ v u O x y H2 Z Y ry q=>ho pins O σ H2 x y v u Q Z Y ry q)
theorem bG0  (ho:UnR X (unaryOp op) r) (ha:PE X a ta):PE X (.UnaryOp op a pos) (tUn r ta):=by intro pins s σ H Q I h;exact UnaryOp_ (thn (ha pins s σ H _ I h) λ v Y=>ex5 λ x H1 Z O q1=>ho pins Y σ H1 x v Q Z O q1)
theorem opI {g:Int->Int->Int}
  (O:∀ (i j:Int) (t u:Tok) (s:Shared) (Q:Value->Shared->Prop) (E:Value->Shared->Prop),C i j->Q (.int (g i j) s.toks) {s with toks:=s.toks+1}->wpAny (model X.prog X.w) X.A (f (.int i t) (.int j u)) Q E s) :
  OpR X f (rI C λ i j=>.int (g i j)):=by
 intro pins s σ H x y v u Q I Z Y h;obtain⟨i,j,rfl,rfl,hc,q⟩:=h;obtain⟨t,rfl⟩:=Z;obtain⟨t',rfl⟩:=Y;exact O i j t t' s _ _ hc ⟨.int (g i j),H,I.tok _,⟨_,rfl⟩,q⟩
theorem bP8 {g:Int->Int->Int}
  (O:∀ (i j:Int) (t u:Tok) (s:Shared) (Q:Value->Shared->Prop) (E:Value->Shared->Prop),Q (.int (g i j) s.toks) {s with toks:=s.toks+1}->wpAny (model X.prog X.w) X.A (f (.int i t) (.int j u)) Q E s) :
  OpR X f (rI0 λ i j=>.int (g i j)):=by
 intro pins s σ H x y v u Q I Z Y h;obtain⟨i,j,rfl,rfl,q⟩:=h;obtain⟨t,rfl⟩:=Z;obtain⟨t',rfl⟩:=Y;exact O i j t t' s _ _ ⟨.int (g i j),H,I.tok _,⟨_,rfl⟩,q⟩
theorem bG8 {g:Int->Int->Bool}
  (O:∀ (i j:Int) (t u:Tok) (s:Shared) (Q:Value->Shared->Prop) (E:Value->Shared->Prop),Q (.bool (g i j)) s->wpAny (model X.prog X.w) X.A (f (.int i t) (.int j u)) Q E s) :
  OpR X f (rI0 λ i j=>.bl (g i j)):=by
 intro pins s σ H x y v u Q I Z Y h;obtain⟨i,j,rfl,rfl,q⟩:=h;obtain⟨t,rfl⟩:=Z;obtain⟨t',rfl⟩:=Y;exact O i j t t' s _ _ ⟨.bl (g i j),H,I,rfl,q⟩
def cg4 (i j:Int):Prop:=0<=j/\j<=1000000/\i.natAbs<2 ^ 64
def CMul (i j:Int):Prop:=(-(2 ^ 64)<i/\i<2 ^ 64)\/(-(2 ^ 64)<j/\j<2 ^ 64)
theorem CMul.ok  (h:CMul i j):IntMulOk i j:=by
 rcases h with ⟨h1,h2⟩ | ⟨h1,h2⟩
 ·exact .of_left (Z9 h1 h2)
 ·exact .of_right (Z9 h1 h2)
theorem op_add:OpR X (binaryOp .Add) (rI0 λ i j=>.int (i+j)):=bP8 λ _ _ _ _ _ _ _ q=>add_int q
theorem bo5:OpR X (binaryOp .Sub) (rI0 λ i j=>.int (i-j)):=bP8 λ _ _ _ _ _ _ _ q=>sub_int q
theorem aZ9:OpR X (binaryOp .Mod) (rI (λ _ j=>j≠0) λ i j=>.int (i.fmod j)):=opI λ _ _ _ _ _ _ _ O q=>mod_int' O q
theorem bo6:OpR X (binaryOp .Pow) (rI cg4 λ i j=>.int (i ^ j.toNat)):=opI λ _ _ _ _ _ _ _ O q=>pow_int_small O.1 O.2.1 O.2.2 q
theorem unI {g:Int->Int}
  (O:∀ (i:Int) (t:Tok) (s:Shared) (Q:Value->Shared->Prop) (E:Value->Shared->Prop),Q (.int (g i) s.toks) {s with toks:=s.toks+1}->wpAny (model X.prog X.w) X.A (f (.int i t)) Q E s) :
  UnR X f (rU λ i=>.int (g i)):=by
 intro pins s σ H x v Q I Y h;obtain⟨i,rfl,q⟩:=h;obtain⟨t,rfl⟩:=Y;exact O i t s _ _ ⟨.int (g i),H,I.tok _,⟨_,rfl⟩,q⟩
theorem bj9:UnR X (unaryOp .USub) (rU λ i=>.int (-i)):=unI λ _ _ _ _ _ q=>neg_int q
end
section
variable {X:Cx}{a b c:Expr}{ta tb tc:TE}{pos:Pos}
theorem aB0  (I:Inv X pins σ H s) (q:Q (.bl k) H) (e:k=O):EP X pins σ Q (.bool O) s:=by subst e;exact⟨.bl k,H,I,rfl,q⟩
theorem bG5:OpR X (compareOp .Lt) (rI0 λ i j=>.bl (decide (i<j))):=bG8 λ _ _ _ _ _ _ _ q=>lt_int q
theorem bG6:OpR X (compareOp .LtE) (rI0 λ i j=>.bl (decide (i<=j))):=bG8 λ _ _ _ _ _ _ _ q=>le_int q
theorem bG7:OpR X (compareOp .Gt) (rI0 λ i j=>.bl (decide (j<i))):=bG8 λ _ _ _ _ _ _ _ q=>gt_int q
theorem bN9:OpR X (compareOp .GtE) (rI0 λ i j=>.bl (decide (j<=i))):=bG8 λ _ _ _ _ _ _ _ q=>ge_int q
theorem aw7:OpR X (compareOp .In) (λ x y H Q=>∃ i j,x=.str i/\y=.str j/\Q (.bl (!(Builtin.Str.occurrences j i 0 j.length 1).isEmpty)) H):=by intro pins s σ H x y v u Q I Y O h;obtain⟨i,j,rfl,rfl,q⟩:=h;obtain⟨t,rfl⟩:=Y;obtain⟨t',rfl⟩:=O;exact in_str (aB0 I q rfl)
theorem bo8:OpR X (compareOp .Is) (λ x y H Q=>y=.non/\Q (.bl (decide (x=.non))) H):=by
 intro pins s σ H x y v u Q I O Y h;obtain⟨rfl,q⟩:=h;cases Y;refine is_none_gen (aB0 I q ?_);cases x <;> first
  |(cases O;rfl)
  |(obtain⟨t,rfl⟩:=O;rfl)
theorem aZ8:OpR X (compareOp .IsNot) (λ x y H Q=>y=.non/\Q (.bl (!decide (x=.non))) H):=by
 intro pins s σ H x y v u Q I O Y h;obtain⟨rfl,q⟩:=h;cases Y;refine isnot_none_gen (aB0 I q ?_);cases x <;> first
  |(cases O;rfl)
  |(obtain⟨t,rfl⟩:=O;rfl)
theorem OpR.or  (h:OpR X f r) (h':OpR X f Z):OpR X f (λ x y H Q=>r x y H Q\/Z x y H Q):=by
 intro pins s σ H x y v u Q I Y O q;rcases q with q | q
 ·exact h pins s σ H x y v u Q I Y O q
 ·exact h' pins s σ H x y v u Q I Y O q
theorem ax3 (b:Expr)  (h:op≠.In:=by decide) (h2:op≠.NotIn:=by decide):behindInMarks op b=false:=by
 have e1:(op==CmpOp.In)=false:=by cases op <;> first | rfl | exact absurd rfl h
 have e2:(op==CmpOp.NotIn)=false:=by cases op <;> first | rfl | exact absurd rfl h2
 cases b <;> simp[behindInMarks,e1,e2]
theorem aZ1  (ho:OpR X (compareOp op) r) (ha:PE X a ta) (hb:PE X b tb) (Y:behindInMarks op b=false):PE X (.Compare a [op] [b] pos) (tOp r ta tb):=by intro pins s σ H Q I h;exact wpAny_Compare1 (bL8 ha hb I h λ v u O x y H2 I2 Z ry q=>ho pins O σ H2 x y v u Q I2 Z ry q) Y
def aV4 (t:TE):TT:=λ σ H Q=>t σ H λ x H'=>∃ k,x=.bl k/\Q k H'
theorem au7  (ho:OpR X (compareOp op) r) (ha:PE X a ta) (hb:PE X b tb) (hm:behindInMarks op b=false):PT X (.Compare a [op] [b] pos) (aV4 (tOp r ta tb)):=by
 intro pins s σ H Q I h;refine wpAny_isTrue_Compare1 (thn (ha pins s σ H _ I h) λ v s1=>ex5 λ x H1 I1 r1 q1=>thn (hb pins s1 σ H1 _ I1 q1) λ u O=>ex5 λ y H2 I2 r2 Y =>
  thn (ho pins O σ H2 x y v u _ I2 r1 r2 Y) λ c s3 ⟨z,Z,I3,r3,k,e,q3⟩=>?_) hm
 subst e;cases r3;exact yo ⟨Z,I3,q3⟩
def aO9 (r Z:R2) (ta tb tc:TE):TE:=λ σ H Q=>ta σ H λ x H1=>tb σ H1 λ y H2=>r x y H2 λ z O=>∃ k,z=.bl k /\
 (if k=true then tc σ O λ w' Y=>Z y w' Y Q else Q (.bl false) O)
theorem aH9 {op O:CmpOp}{r r':R2} (ho:OpR X (compareOp op) r) (Z:OpR X (compareOp O) r') (ha:PE X a ta) (hb:PE X b tb) (hc:PE X c tc)
  (hm:lastMarks [op,O] [b,c]=false):PT X (.Compare a [op,O] [b,c] pos) (aV4 (aO9 r r' ta tb tc)):=by
 intro pins s σ H Q I h;refine isTrue_chain (thn (ha pins s σ H _ I h) λ v s1=>ex5 λ x H1 I1 r1 q1=>test_link (thn (hb pins s1 σ H1 _ I1 q1) λ u s2=>ex5 λ y H2 I2 r2 q2 =>
  thn (ho pins s2 σ H2 x y v u _ I2 r1 r2 q2) λ d s3 ⟨z,H3,I3,r3,k,e,q3⟩=>?_)) hm
 subst e;cases r3;refine yo ?_;cases k with
 |false =>
  obtain⟨k',e',q'⟩:=q3;cases e';exact ite_ff ⟨H3,I3,q'⟩
 |true =>
  refine ite_tt (test_last (thn (hc pins s3 σ H3 _ I3 q3) λ w' s4=>ex5 λ z' H4 I4 r4 q4=>thn (Z pins s4 σ H4 y z' u w' _ I4 r2 r4 q4) λ d' s5 Y=>?_));obtain⟨z2,H5,I5,r5,k2,e2,q5⟩:=Y;subst e2;cases r5;exact yo ⟨H5,I5,q5⟩
def bM2 (K:Frag) (x:V) (H:Hp) (k:Bool):Prop :=
 match x with
 |.non=>k=false
 |.bl b=>k=b
 |.int i=>k=(i != 0)
 |.str y=>y.length<=sizeLine/\k=((y.length:Int) != 0)
 |.byt y=>y.size<=sizeLine/\k=((y.size:Int) != 0)
 |.ref p=>(∃ xs,SqL K H p xs/\k=!xs.isEmpty)\/(∃ xs,SqT K H p xs/\k=!xs.isEmpty)\/∃ kvs,H p=some (.dK kvs)/\k=!kvs.isEmpty
 |_=>False
theorem ap4  (r:KV kvs vs):(!vs.isEmpty)=!kvs.isEmpty:=by cases r <;> rfl
theorem L_0  (r:Vals xs O):(!O.toArray.isEmpty)=!xs.isEmpty:=by cases r <;> simp
theorem G_9:(sizeLine:Nat)<2 ^ 63:=by rw[Z0];decide
theorem bk1:cg2 X (λ x H Q=>∃ k,bM2 X.K x H k/\Q k H):=by
 intro pins s σ H x v Q I Z h;obtain⟨k,e,q⟩:=h;have hs:=Z0;cases x with
 |non =>
  cases Z;have O:=e;subst O;exact truthy_none ⟨H,I,q⟩
 |bl b =>
  cases Z;have O:=e;subst O;exact yo ⟨H,I,q⟩
 |int i =>
  obtain⟨t,rfl⟩:=Z;have O:=e;subst O;exact PySem.P.truthy_int ⟨H,I,q⟩
 |str y =>
  obtain⟨t,rfl⟩:=Z;obtain⟨hy,O⟩:=e;subst O;exact PySem.P.truthy_str (by omega) ⟨H,I.tok _,q⟩
 |byt y =>
  obtain⟨t,rfl⟩:=Z;obtain⟨hy,O⟩:=e;subst O;exact PySem.W.truthy_bytes (by omega) ⟨H,I.tok _,q⟩
 |ref p =>
  cases Z;have O:=e;rcases O with ⟨xs,hx,O⟩ | ⟨xs,hx,O⟩ | ⟨kvs,hx,O⟩
  ·subst O;obtain⟨aa,r,pl,hz⟩:=I.list hx;have Y:=r.length;exact wpAny_truthy_list pl.isList (by simp only[zf];omega) ⟨H,I.tok _,by rw[L_0 r];exact q⟩
  ·subst O;obtain⟨aa,r,pl,hz⟩:=I.tuple hx;have Y:=r.length;exact truthy_tuple pl (by simp only[zf];omega) ⟨H,I.tok _,by rw[L_0 r];exact q⟩
  ·subst O;obtain⟨hz,hS,vs,r,m⟩:=I.hok p _ hx;have Y:=Ya r;exact wpAny_truthy_dict hS m (by omega) ⟨H,I.tok _,by rw[ap4 r];exact q⟩
 |_=>exact (show False from e).elim
theorem aH8 (ha:PE X a ta) (he:∀ O,isTrue a X.env O=(do let v <- O;standAt a.pos;holding [v] (truthy v))) :
  PT X a (λ σ H Q=>ta σ H λ x H'=>∃ k,bM2 X.K x H' k/\Q k H'):=by
 intro pins s σ H Q I h;exact isTrue_plain (thn (ha pins s σ H _ I h) λ v Z=>ex5 λ x H1 I1 Y q1=>bk1 pins Z σ H1 x v Q I1 Y q1) (he _)
theorem op_add_str:OpR X (binaryOp .Add) (λ x y H Q=>∃ i j,x=.str i/\y=.str j/\i.length+j.length<=sizeLine/\Q (.str (i++j)) H):=by intro pins s σ H x y v u Q I Y O h;obtain⟨i,j,rfl,rfl,hz,q⟩:=h;obtain⟨t,rfl⟩:=Y;obtain⟨t',rfl⟩:=O;exact add_str (λ t' tk=>⟨.str (i++j),H,I.tok _,⟨_,rfl⟩,q⟩) hz
theorem v_5  (r:Vals [x] us):∃ u,us=[u]/\RelV x u:=by
 cases r with
 |cons Y O=>cases O;exact⟨_,rfl,Y⟩
theorem aF5  (r:Vals [x,y] us):∃ u O,us=[u,O]/\RelV x u/\RelV y O:=by
 cases r with
 |cons r1 Z =>
  cases Z with
  |cons r3 Y=>cases Y;exact⟨_,_,rfl,r1,r3⟩
theorem aN3:CallR X (.builtin "abs") (λ xs H Q=>∃ i,xs=[.int i] ∧ Q (.int (if i<0 then -i else i)) H):=by
 intro pins s σ H xs us Q I r h;obtain⟨i,rfl,q⟩:=h;obtain⟨u,rfl,t,rfl⟩:=v_5 r;exact call_abs_int λ u tk=>⟨.int (if i<0 then -i else i),H,I.tok _,⟨_,rfl⟩,q⟩
theorem aD5 (Y:X.calm=true):CallR X (.builtin "max") (λ xs H Q=>∃ i j,xs=[.int i,.int j] ∧ Q (.int (if j > i then j else i)) H):=by
 intro pins s σ H xs us Q I r h;obtain⟨i,j,rfl,q⟩:=h;obtain⟨u,Z,rfl,⟨t,rfl⟩,⟨t',rfl⟩⟩:=aF5 r;refine max_two_ints (I.ok.hd Y) λ h' tk k=>⟨_,H,I.kept k,?_,q⟩
 by_cases O:j > i
 ·rw[if_pos O,if_pos O];exact⟨_,rfl⟩
 ·rw[if_neg O,if_neg O];exact⟨_,rfl⟩
theorem aD3 (Y:X.calm=true):CallR X (.builtin "min") (λ xs H Q=>∃ i j,xs=[.int i,.int j] ∧ Q (.int (if j<i then j else i)) H):=by
 intro pins s σ H xs us Q I r h;obtain⟨i,j,rfl,q⟩:=h;obtain⟨u,Z,rfl,⟨t,rfl⟩,⟨t',rfl⟩⟩:=aF5 r;refine min_two_ints (I.ok.hd Y) λ h' tk k=>⟨_,H,I.kept k,?_,q⟩
 by_cases O:j<i
 ·rw[if_pos O,if_pos O];exact⟨_,rfl⟩
 ·rw[if_neg O,if_neg O];exact⟨_,rfl⟩
theorem aD6:CallR X (.type "int") (λ xs H Q=>(∃ i,xs=[.int i] ∧ Q (.int i) H) ∨ ∃ k,xs=[.bl k] ∧ Q (.int (if k then 1 else 0)) H):=by
 intro pins s σ H xs us Q I r h;rcases h with ⟨i,rfl,q⟩ | ⟨k,rfl,q⟩
 ·obtain⟨u,rfl,t,rfl⟩:=v_5 r;exact call_int_int ⟨.int i,H,I,⟨_,rfl⟩,q⟩
 ·obtain⟨u,rfl,O⟩:=v_5 r;cases O;exact call_int_bool ⟨.int (if k then 1 else 0),H,I.tok _,⟨_,rfl⟩,q⟩
end
theorem RelO.some_of  (r:RelO (some v) o):∃ u,o=some u/\RelV v u:=by
 cases o with
 |none=>exact (show False from r).elim
 |some u=>exact⟨u,rfl,r⟩
structure Cls (K:Frag) (C:Addr):Prop where
 pg:PySem.W.plainGet K C Str.empty=true
 hd:PySem.W.hasDictIn K C=true
 po:PySem.W.plainOver K C=true
 sa:PySem.W.findIn K (.ref C) "__setattr__"=some (some (.builtin "object.__setattr__"))
theorem Cls.get {K:Frag} (c:Cls K C) (f:Str):PySem.W.plainGet K C f=true:=c.pg
structure Room (k:Nat) (A:Around):Prop where
 hd:A.handled=none
 dp:A.depth+3*k+5<recursionLimit
 un:A.units+16*k+200<cLine
theorem Room.mono  (r:Room k A) (h:j<=k):Room j A:=⟨r.hd,by have:=r.dp;omega,by have:=r.un;omega⟩
theorem Room.deeper  (r:Room (k+1) A) (env:Env):Room k (A.deeper env) :=
 ⟨r.hd,by have:=r.dp;show A.depth+1+3*k+5<_;omega,by have:=r.un;show A.units+3+16*k+200<_;omega⟩
theorem Room.in1  (r:Room (k+1) A):Room k A.in1 :=
 ⟨r.hd,by have:=r.dp;show A.depth+3*k+5<_;omega,by have:=r.un;show A.units+1+16*k+200<_;omega⟩
theorem ap1 {A:Around}:(A.under (.builtin "type.__call__" ⟨.ref C::us,O⟩)).depth=A.depth+1:=by
 first | rfl | simp[Around.under,Code.weight,Code.isCreation,Code.isGuard,Code.isCaller,Code.frames,Code.isFrame,guardIds]
theorem ap0 {A:Around}:(A.under (.builtin "type.__call__" ⟨.ref C::us,O⟩)).units=A.units+1:=by
 first | rfl | simp[Around.under,Code.cUnits,Code.frames,Code.isFrame]
theorem Room.make  (r:Room (k+1) A) (C:Addr) (us:List Value) (O:List (Str×Value)):Room k (A.under (.builtin "type.__call__" ⟨.ref C::us,O⟩)) :=
 ⟨r.hd,by have:=r.dp;rw[ap1];omega,by have:=r.un;rw[ap0];omega⟩
theorem Room.depth  (r:Room k A):A.depth<recursionLimit:=by have:=r.dp;omega
theorem Room.units  (r:Room k A):A.units+64<cLine:=by have:=r.un;omega
def bX2:TA:=λ _ H Q=>Q [] H
def bB6 (ta:TE) (O:TA):TA:=λ σ H Q=>ta σ H λ x H1=>O σ H1 λ xs H2=>Q (x::xs) H2
section
theorem l_0:PA X [] bX2:=λ _ _ _ _ H Q I h=>Calls.spliced_nil ⟨[],H,I,.nil,h⟩
theorem c_5 (ha:PE X e te) (hr:PA X es t) (hs:starEach (e::es) X.env=(false,eval e X.env)::starEach es X.env:=by rfl):PA X (e::es) (bB6 te t):=by
 intro pos pins s σ H Q I h;rw[hs];refine Calls.spliced_cons (thn (ha pins s σ H _ I h) λ u Z=>ex5 λ x H1 I1 Y q1=>?_);exact thn (hr pos pins Z σ H1 _ I1 q1) λ us s2=>ex5 λ xs H2 I2 r2 O=>⟨x::xs,H2,I2,.cons Y r2,O⟩
def bW7 (t:TA):TE:=λ σ H Q=>t σ H λ xs H1=>xs.length<=sizeLine/\∀ p,H1 p=none->Q (.ref p) (upd H1 p (.tup xs))
def bX3 (t:TA):TE:=λ σ H Q=>t σ H λ xs H1=>xs.length<=sizeLine/\∀ p,H1 p=none->Q (.ref p) (upd H1 p (.lst xs))
theorem ah7  (h:PA X es t):PE X (.Tuple es x1 pos) (bW7 t):=by intro pins s σ H Q I Z;refine wpAny_Tuple_spliced (thn (h pos pins s σ H _ I Z) λ us O ⟨xs,H1,Y,r,z,q⟩=>⟨by rw[<- r.length];exact z,?_⟩);have hf:=Y.hok.fresh (qr _);refine⟨.ref O.heap.objs.size,upd H1 O.heap.objs.size (.tup xs),Y.laid (λ b u e=>ql _ e) (qr _) ?_,rfl,q _ hf⟩;exact⟨z,us,r,⟨_,qt _ rfl,rfl,⟨_,rfl⟩,rfl⟩⟩
theorem ah9 (h:PA X es t):PE X (.List es pos) (bX3 t):=by intro pins s σ H Q I Z;refine wpAny_List_spliced (thn (h pos pins s σ H _ I Z) λ us O ⟨xs,H1,Y,r,z,q⟩=>⟨by rw[<- r.length];exact z,?_⟩);have hf:=Y.hok.fresh (qr _);refine⟨.ref O.heap.objs.size,upd H1 O.heap.objs.size (.lst xs),Y.laid (λ b u e=>ql _ e) (qr _) ?_,rfl,q _ hf⟩;exact⟨z,us,0,r,qt _ rfl⟩
end
abbrev Sp:=List V->Hp->VK->XK->Prop
abbrev CXT:=List Env->Hp->Shared->XK->Value->Shared->Prop
structure Env0 (P:Program) (w:World) (K:Frag) (mg:Str->Option Value) (base:Heap) (A:Around) (outer:List Env) (s:Shared) (H:Hp):Prop where
 frames:A.frames=some outer
 mod:Mod K mg base
 bs:∀ b o,base.get? b=some o->s.heap.get? b=some o/\H b=none
 bsz:base.objs.size<=s.heap.objs.size
 funs:s.heap.FunFrames base outer
 frf:∀ b∈frs outer,H b=none
 hok:HOk P w H s.heap
 bare:AllBare s.gens
 tab:∀ p q,(p,q)∈Tabs->H p=some (.tbl q)
def CE (outer:List Env) (P:Program) (w:World) (H:Hp) (s:Shared) (Q:VK) (u:Value) (s':Shared):Prop :=
 ∃ v H',s'.os=s.os/\AllBare s'.gens/\Un (frs outer) [] H H' s.heap s'.heap/\HOk P w H' s'.heap/\RelV v u/\Q v H'
def CR (CX:CXT) (outer:List Env) (P:Program) (w:World) (H:Hp) (s:Shared) (Q:VK) (E:XK) (r:Result) (s':Shared):Prop :=
 match r with
 |.ok (.ret u)=>CE outer P w H s Q u s'
 |.ok _=>False
 |.error e=>CX outer H s E e s'
structure FnOk (P:Program) (w:World) (K:Frag) (mg:Str->Option Value) (base:Heap) (CX:CXT) (k:Nat) (f:Addr) (fd:FuncData) (ps:List Str) (sp:Sp):Prop where
 len:∀ vs H Q E,sp vs H Q E->vs.length=ps.length
 run:∀ (A:Around) (outer:List Env) (s:Shared) (H:Hp) (args:Args) (us:List Value) (vs:List V) (Q:VK) (E:XK),Room k A->Env0 P w K mg base A outer s H->BindsTo s fd args (ps.zip us)->Vals vs us->sp vs H Q E ->
  codeAny (model P w) A (.call (.ref f) args) (CR CX outer P w H s Q E) s
theorem FnOk.mono {K:Frag} (F:FnOk P w K mg base CX j f fd ps sp) (h:j<=k) :
  FnOk P w K mg base CX k f fd ps sp:=⟨F.len,λ A outer s H args us vs Q E O=>F.run A outer s H args us vs Q E (O.mono h)⟩
theorem FnOk.imp {K:Frag} (F:FnOk P w K mg base CX k f fd ps sp)
  (h:∀ vs H Q E,O vs H Q E->sp vs H Q E):FnOk P w K mg base CX k f fd ps O :=
 ⟨λ vs H Q E q=>F.len vs H Q E (h _ _ _ _ q),λ A outer s H args us vs Q E Z Y hb hv hs=>F.run A outer s H args us vs Q E Z Y hb hv (h _ _ _ _ hs)⟩
theorem Env0.make {P:Program}{w:World}{K:Frag}{mg:Str->Option Value}{base:Heap}{A:Around}{outer:List Env}{s:Shared}{H:Hp} (e:Env0 P w K mg base A outer s H) (C:Addr) (us:List Value) (O:List (Str×Value)) :
  Env0 P w K mg base (A.under (.builtin "type.__call__" ⟨.ref C::us,O⟩)) outer s H:=⟨by first | exact e.frames | (simpa [Around.under,Code.envs,Code.isFrame,pushEnvs] using e.frames),e.mod,e.bs,e.bsz,e.funs,e.frf,e.hok,e.bare,e.tab⟩
theorem Env0.in1 {P:Program}{w:World}{K:Frag}{mg:Str->Option Value}{base:Heap}{A:Around}{outer:List Env}{s:Shared}{H:Hp} (e:Env0 P w K mg base A outer s H) :
  Env0 P w K mg base A.in1 outer s H:=⟨e.frames,e.mod,e.bs,e.bsz,e.funs,e.frf,e.hok,e.bare,e.tab⟩
section
variable {X:Cx}{pins:List (Addr×Obj)}{σ:St}{H:Hp}{s s':Shared}
theorem Inv.env0 (I:Inv X pins σ H s):Env0 X.prog X.w X.K X.mg X.base X.A X.stack s H :=
 ⟨I.ok.frames,I.ok.mod,I.bs,z0 I.ok.bsz I.sz,I.stack,I.stkFree,I.hok,I.bare,λ p q h=>I.base.tbls _ _ (I.ok.tab p q h)⟩
theorem Inv.after  (I:Inv X pins σ H s) (h:CE X.stack X.prog X.w H s Q u s'):EP X pins σ Q u s':=by obtain⟨v,H',os,O,un,Y,r,q⟩:=h;obtain⟨hh,g,d,t,Z⟩:=s';obtain rfl:Z=s.os:=os;exact⟨v,H',I.call un Y O (λ b z=>absurd z (by simp)),r,q⟩
end
def bB7 (sp:Sp) (dvs:List V) (E:XK) (t:TA):TE:=λ σ H Q=>t σ H λ vs H1=>sp (vs++dvs) H1 Q E
def Binds (K:Frag) (fd:FuncData) (ps:List Str) (ds:List Value):Prop :=
 ∀ (s:Shared) (us:List Value),K.In s.heap->(us++ds).length=ps.length->BindsTo s fd ⟨us,[]⟩ (ps.zip (us++ds))
theorem Binds.all {K:Frag} (h:∀ us:List Value,us.length=ps.length->bindArgs fd ⟨us,[]⟩=pure (ps.zip us)):Binds K fd ps []:=λ s us _ hl=>by
 rw[zw] at hl ⊢;exact .of_eq (h us hl)
def W_4 (CX:CXT) (X:Cx) (E:XK):Prop:=∀ (pins:List (Addr×Obj)) (σ:St) (H:Hp) (s:Shared) (e:Value) (s':Shared),Inv X pins σ H s->CX X.stack H s E e s'->X.xe e s'
section
variable {X:Cx}{CX:CXT}{k:Nat}{f C:Addr}{fd:FuncData}{ps:List Str}{sp:Sp}{dvs:List V}{ds:List Value}{E:XK}{x m:Str}{p pos apos:Pos}{e o:Expr}{es:List Expr}{ta:TE}{t:TA}
theorem bl7  (F:FnOk X.prog X.w X.K X.mg X.base CX k f fd ps sp) (Z:Room k X.A) (hb:Binds X.K fd ps ds) (hd:Vals dvs ds) (hx:W_4 CX X E)
  (I:Inv X pins σ H s) (r:Vals vs us) (h:sp (vs++dvs) H Q E):wpAny (model X.prog X.w) X.A (call (.ref f) us) (EP X pins σ Q) X.xe s:=by
 have Y:=r.append hd;have hl:(us++ds).length=ps.length:=by rw[<- Y.length];exact F.len _ _ _ _ h
 refine Q2 (ja (F.run X.A X.stack s H ⟨us,[]⟩ (us++ds) (vs++dvs) Q E Z I.env0 (hb s us I.kIn hl) Y h) λ r s' O=>?_);cases r with
 |error e=>exact hx pins σ H s e s' I O
 |ok fl =>
  cases fl with
  |ret u=>exact I.after O
  |next=>exact False.elim O
  |brk=>exact False.elim O
  |cont=>exact False.elim O
theorem N_7 (F:FnOk X.prog X.w X.K X.mg X.base CX k f fd ps sp) (hr:Room k X.A) (hg:Gl X x) (hm:X.mg x=some (.ref f)) (hk:keepIn X.K (.ref f)=true) (hb:Binds X.K fd ps ds) (hd:Vals dvs ds) (hx:W_4 CX X E)
  (ha:PA X (e::es) t) (Y:(x==("__debug__":Str))=false) (he:starEach (e::es) X.env=(false,eval e X.env)::starEach es X.env) (O:(backTo pos (starEach es X.env)).any (·.1)=false) :
  PE X (.Call (.Name x p) (e::es) [] pos) (bB7 sp dvs E t):=by
 intro pins s σ H Q I h;refine jt (A_2 I hg hm ?_ Y);refine PySem.W.callWith_K (h₀:=X.base) I.ok.mod.kin hk (thn (ha pos pins s σ H _ I h) λ us s1=>ex5 λ vs H1 Z r q=>⟨Z.kIn,?_⟩) he O;exact bl7 F hr hb hd hx Z r q
end
structure FnScope (N P:List Str) (sc:Scope):Prop where
 kind:sc.kind=.function
 co:sc.isCoroutine=false
 gen:sc.isGenerator=false
 nd:N.Nodup
 pre:N.take P.length=P
 par:∀ x∈P,sc.names.lookup x=some .local\/sc.names.lookup x=some .cell
 nofree:∀ y∈sc.names,y.2≠.free
theorem Y_8 :∀ {binds:List (Str×Value)}{m:Str->Option Value},(∀ v,(x,v)∉binds)->bindL O binds m x=m x
 |[],_,_=>rfl
 |(n,v)::r,m,h=>by
  unfold bindL;rw[Y_8 λ w hw=>h w (Q4 _ hw)];split
  ·have:x≠n:=by rintro rfl;exact h v qm
   simp[this]
  ·rfl
theorem Z_0 :∀ {binds:List (Str×Value)}{m:Str->Option Value},(∀ v,(x,v)∉binds)->bindC O binds m x=m x
 |[],_,_=>rfl
 |(n,v)::r,m,h=>by
  unfold bindC;rw[Z_0 λ w hw=>h w (Q4 _ hw)];split
  ·rfl
  ·have:x≠n:=by rintro rfl;exact h v qm
   simp[this]
theorem Y_9 :∀ {P:List Str}{vs:List Value}{i:Nat}{m:Str->Option Value},P.Nodup->P[i]?=some x->vs[i]?=some v->O x=some .local ->
  bindL O (P.zip vs) m x=some v
 |[],_,_,_,_,h,_,_=>by simp at h
 |_::_,[],_,_,_,_,h,_=>by simp at h
 |p::P,w::vs,0,m,nd,h1,h2,hk=>by
  simp at h1 h2;subst h1;subst h2;show bindL O ((p,w)::P.zip vs) m p=_;unfold bindL;rw[Y_8 λ v hv=>(List.nodup_cons.mp nd).1 (Zs hv).1,if_pos hk];simp
 |p::P,w::vs,i+1,m,nd,h1,h2,hk=>by
  show bindL O ((p,w)::P.zip vs) m x=_;exact Y_9 (List.nodup_cons.mp nd).2 (by simpa using h1) (by simpa using h2) hk
theorem Z_1 :∀ {P:List Str}{vs:List Value}{i:Nat}{m:Str->Option Value},P.Nodup->P[i]?=some x->vs[i]?=some v->O x≠some .local ->
  bindC O (P.zip vs) m x=some v
 |[],_,_,_,_,h,_,_=>by simp at h
 |_::_,[],_,_,_,_,h,_=>by simp at h
 |p::P,w::vs,0,m,nd,h1,h2,hk=>by
  simp at h1 h2;subst h1;subst h2;show bindC O ((p,w)::P.zip vs) m p=_;unfold bindC;rw[Z_0 λ v hv=>(List.nodup_cons.mp nd).1 (Zs hv).1,if_neg hk];simp
 |p::P,w::vs,i+1,m,nd,h1,h2,hk=>by
  show bindC O ((p,w)::P.zip vs) m x=_;exact Z_1 (List.nodup_cons.mp nd).2 (by simpa using h1) (by simpa using h2) hk
def start (N:List Str) (vs:List V):St:=vs.map some++List.replicate (N.length-vs.length) none
def R_5 (CX:CXT) (P:Program) (w:World) (K:Frag) (mg:Str->Option Value) (base:Heap) (N:List Str) (qual:Str) (scope:Scope) (f:Addr) (cd:Value) (A:Around) (outer:List Env) (s:Shared) (H:Hp) (E:XK):Cx where
 prog:=P
 w:=w
 K:=K
 mg:=mg
 base:=base
 A:=A.deeper (envOfC qual scope s.heap.objs.size f cd)
 N:=N
 s₀:=s
 H₀:=H
 env:=envOfC qual scope s.heap.objs.size f cd
 outer:=outer
 stack:=envOfC qual scope s.heap.objs.size f cd::outer
 ex:=[]
 calm:=true
 fn:=λ _=>true
 pn:=[]
 xe:=λ e s'=>wpAny (model P w) (A.deeper (envOfC qual scope s.heap.objs.size f cd)) (leaving (envOfC qual scope s.heap.objs.size f cd) e) (λ _ O=>CX outer H s E e O) (λ Y O=>CX outer H s E Y O) s'
theorem am0 {sc:Scope} (h:sc.names.lookup x=some .cell):∃ c,(cellsFrom n sc.names []).lookup x=some c:=by have q:=Zn sc.names n [] (.inl h);exact Option.isSome_iff_exists.mp q
theorem aA0 {CX:CXT}{P:Program}{w:World}{K:Frag}{mg:Str->Option Value}{base:Heap}{N ps:List Str}{qual:Str}{scope:Scope}{f:Addr}{cd:Value}{A:Around}{outer:List Env}{s s1:Shared}{H:Hp}{E:XK}{us:List Value}{vs:List V}
  (S:FnScope N ps scope) (hd:A.handled=none) (e0:Env0 P w K mg base A outer s H) (hl:vs.length=ps.length) (r:Vals vs us)
  (x:InCallC s s.heap.objs.size (bindL (envOfC qual scope s.heap.objs.size f cd).kindOf (ps.zip us) λ _=>none) (cellsFrom (s.heap.objs.size+1) scope.names []) (bindC (envOfC qual scope s.heap.objs.size f cd).kindOf (ps.zip us) λ _=>none) s1) :
  Inv (R_5 CX P w K mg base N qual scope f cd A outer s H E) [] (start N vs) H s1:=by
 have aa:ps.length<=N.length:=by have:=jm List.length S.pre;rw[Yk] at this;omega
 obtain⟨h1,tk,rfl,hk⟩:=x.done;have Y:∀ b:Addr,b∉(R_5 CX P w K mg base N qual scope f cd A outer s H E).ex:=λ b z=>absurd (show b∈([]:List Addr) from z) (by simp);refine⟨⟨e0.mod,S.kind,rfl,rfl,qr _,λ y z c h1 h2=>?_,λ y O=>?_,λ y c _ h=>?_,λ _=>hd,Around.frames_deeper e0.frames,.inr ⟨rfl,rfl⟩,λ b z=>absurd z (Y b),e0.bs,e0.bsz,λ b _ _=>Y b,λ b z=>absurd z (Y b),e0.funs,e0.frf,e0.tab⟩,
  rfl,e0.bare,Un.kept hk,⟨_,x.toInCall.ns,λ i y v h1 h2 h3=>?_⟩,λ y c h=>⟨_,x.cell y c h⟩,e0.hok.fresh (qr _),λ y c h=>?_,λ p hp=>absurd (show p∈([]:List (Addr×Obj)) from hp) (by simp),e0.hok.kept hk,?_⟩
 ·exact name_of_addr x.apart (y8 h1) (y8 h2)
 ·have O:scope.names.lookup y=some .cell\/scope.names.lookup y=some .free:=O;rcases O with O | O
  ·exact am0 O
  ·exact absurd rfl (S.nofree _ (y8 O))
 ·exact yy (x.above y c (y8 h))
 ·have hi:i<vs.length:=by
   unfold start at h2;by_cases hi:i<vs.length
   ·exact hi
   ·rw[yj (by simpa using hi)] at h2;rw[jq] at h2;split at h2 <;> cases h2
  have ha:vs[i]?=some v:=by
   unfold start at h2;rw[yh (by simpa using hi),zy] at h2;cases e:vs[i]? with
   |none=>rw[e] at h2;cases h2
   |some a=>rw[e] at h2;cases h2;rfl
  obtain⟨u,hu,rv⟩:=r.get ha;have hp:ps[i]?=some y:=by rw[<- S.pre,List.getElem?_take_of_lt (by omega)];exact h1
  have Z:ps.Nodup:=by rw[<- S.pre];exact S.nd.sublist (List.take_sublist _ _)
  refine⟨u,rv,?_⟩;rcases S.par y (ji hp) with k | k
  ·exact .inl ⟨k,Y_9 Z hp hu k⟩
  ·obtain⟨c,e⟩:=am0 (n:=s.heap.objs.size+1) k;refine .inr ⟨.inl k,c,e,?_⟩;have q:=x.cell y c e;rw[Z_1 Z hp hu (by show scope.names.lookup y≠_;rw[k];decide)] at q;exact q
 ·exact e0.hok.fresh (yy (x.above y c (y8 h)))
 ·unfold start;show _=N.length;rw[zh,zd,Zx];omega
theorem bd1 {K:Frag}{dV kV af pm O ct oc:Value}
   (lk:K.lookup f=some ⟨oc,od,.func (fnOf name qual Y body scope dV kV af pm an O ct),ah⟩) (ai:codeIn K O qual=true) (S:FnScope N ps scope)
  (len:∀ vs H Q E,sp vs H Q E->vs.length=ps.length)
  (ac:∀ (A:Around) (outer:List Env) (s:Shared) (H:Hp) (vs:List V) (Q:VK) (E:XK),Room k (A.deeper (envOfC qual scope s.heap.objs.size f O))->sp vs H Q E ->
   ∃ t,PSs (R_5 CX P w K mg base N qual scope f O A outer s H E) body t/\t {nx:=λ _ H'=>Q .non H',rt:=Q} (start N vs) H) :
  FnOk P w K mg base CX (k+1) f (fnOf name qual Y body scope dV kV af pm an O ct) ps sp:=by
 refine⟨len,λ A outer s H args us vs Q E hr e0 hb r ae=>?_⟩;have hl:=len _ _ _ _ ae;have KX:=e0.mod.kin.keeps λ b o e=>(e0.bs b o e).1;have ag:=e0.mod.nolimit.keeps λ b o e=>(e0.bs b o e).1;have aa:∀ y∈ps.zip us,scope.names.lookup y.1=some .local\/(scope.names.lookup y.1=some .cell/\((cellsFrom (s.heap.objs.size+1) scope.names []).lookup y.1).isSome=true):=λ ad hy=>by
  obtain⟨n,v⟩:=ad;rcases S.par n (Zs hy).1 with q | q
  ·exact .inl q
  ·exact .inr ⟨q,Zn _ _ _ (.inl q)⟩
 refine codeAny_call_function hr.depth (KX _ _ lk) rfl S.co S.gen rfl (PySem.W.codeRec_of KX ai) (hb _ _ _ _ ?_);refine wpAny_newFunctionEnv_cells S.kind aa λ env he s1 x=>?_;subst he;refine⟨ag.keeps x.toInCall.keep,codeAny_func ?_⟩;obtain⟨t,ht,hq⟩:=ac A outer s H vs Q E (hr.deeper _) ae;have I:Inv (R_5 CX P w K mg base N qual scope f O A outer s H E) [] (start N vs) H s1:=aA0 S hr.hd e0 hl r x;refine zv (ht [] s1 (start N vs) H _ I hq) (λ fl s' hs=>?_) λ e s' hs=>hs;have fin:∀ {Z:St}{H':Hp}{v:V}{u:Value},Inv (R_5 CX P w K mg base N qual scope f O A outer s H E) [] Z H' s'->RelV v u->Q v H'->CE outer P w H s Q u s' :=
  λ {Z H' v u} J rv q=>⟨v,H',J.os,J.bare,J.base,J.hok,rv,q⟩
 cases fl with
 |ret u =>
  obtain⟨v,Z,H',J,rv,q⟩:=hs;exact fin J rv q
 |next =>
  obtain⟨Z,H',J,q⟩:=hs;exact fin (v:=V.non) J rfl q
 |brk =>
  obtain⟨_,_,_,q⟩:=hs;exact False.elim q
 |cont =>
  obtain⟨_,_,_,q⟩:=hs;exact False.elim q
section
variable {id T:String}
def tCB (r:List V->Hp->VK->Prop) (t:TA):TE:=λ σ H Q=>t σ H λ vs H1=>r vs H1 Q
theorem n_6 (hc:CallR X (.builtin id) r) (hg:Gl X x) (hm:X.mg x=none) (hv:bootBuiltins x=some (.builtin id)) (ha:PA X (e::es) t) (hn:x≠"__name__":=by decide) (Y:(x==("__debug__":Str))=false:=by decide)
  (he:starEach (e::es) X.env=(false,eval e X.env)::starEach es X.env:=by rfl) (O:(backTo pos (starEach es X.env)).any (·.1)=false:=by rfl):PE X (.Call (.Name x p) (e::es) [] pos) (tCB r t):=by
 intro pins s σ H Q I h;refine jt (X_0 I hg hm hv ?_ hn Y);exact PyProof.Rows.callWith_builtin1 (thn (ha pos pins s σ H _ I h) λ us s1=>ex5 λ vs H1 I1 Z q1=>hc pins s1 σ H1 vs us Q I1 Z q1) he O
theorem x_8 (hc:CallR X (.type T) r) (hg:Gl X x) (hm:X.mg x=none) (hv:bootBuiltins x=some (.type T)) (ha:PA X (e::es) t) (hn:x≠"__name__":=by decide) (Y:(x==("__debug__":Str))=false:=by decide)
  (he:starEach (e::es) X.env=(false,eval e X.env)::starEach es X.env:=by rfl) (O:(backTo pos (starEach es X.env)).any (·.1)=false:=by rfl):PE X (.Call (.Name x p) (e::es) [] pos) (tCB r t):=by
 intro pins s σ H Q I h;refine jt (X_0 I hg hm hv ?_ hn Y);exact j9 (thn (ha pos pins s σ H _ I h) λ us s1=>ex5 λ vs H1 I1 Z q1=>hc pins s1 σ H1 vs us Q I1 Z q1) he O
end
end L2
namespace HT
open PySem PyProof.Rows
section
theorem cat_tup {t b:Addr}{vs O:List Value}{Q:Value->Shared->Prop} (ht:IsTup s.heap t vs.toArray) (hb:IsTup s.heap b O.toArray) (hv:vs≠[])
  (h1:O=[] → Q (.ref t) s) (h2:O≠[] → Q (.ref s.heap.objs.size) {s with heap:=s.heap.push {cls:=.type "tuple",data:=.seq (vs++O).toArray}})
  (hsz:vs.length+O.length<=sizeLine):wpAny (model prog w) A (binaryOp .Add (.ref t) (.ref b)) Q E s:=by
 obtain⟨⟨cls,dd,data,sl⟩,ho,hc,n,hd⟩:=id ht;obtain⟨⟨af,aa,ae,Z⟩,Y,ad,n2,ac⟩:=id hb;simp only at hc hd ad ac;subst hc hd ad ac;have e:vs.toArray++O.toArray=(vs++O).toArray:=by simp
 by_cases hw:O=[]
 ·exact concat_meets ⟨_,ho,rfl⟩ ⟨_,Y,rfl⟩ noFill_tuple_add seq_tuple_add PySem.F.slot_tuple_add PySem.F.entry_tuple_add (PySem.F.args_tuple_add_2 _ _)
   (tuple_addW1 t b vs.toArray O.toArray n n2 dd aa sl Z (by simpa using hv) (by simp[hw])) ⟨ho,Y,h1 hw⟩
 ·refine concat_meets ⟨_,ho,rfl⟩ ⟨_,Y,rfl⟩ noFill_tuple_add seq_tuple_add PySem.F.slot_tuple_add PySem.F.entry_tuple_add (PySem.F.args_tuple_add_2 _ _)
   (tuple_addW2 t b vs.toArray O.toArray n n2 dd aa sl Z (by simpa using hv) (by simpa using hw) (by rw[zf,zf];exact hsz)) ⟨ho,Y,?_⟩
  rw[e];exact h2 hw
noncomputable def sIx (n d:Nat):Option Int->Nat
 |none=>d
 |some v=>if v<0 then (v+(n:Int)).toNat else min v.toNat n
theorem bl4 (n d:Nat) (hd:d<=n) (o:Option Int):sIx n d o<=n:=by
 cases o with
 |none=>exact hd
 |some v =>
  show (if v<0 then (v+(n:Int)).toNat else min v.toNat n)<=n;by_cases hv:v<0
  ·rw[if_pos hv];omega
  ·rw[if_neg hv];exact Nat.min_le_right _ _
theorem aC9 (v:Int) (n d:Nat):(if v<0 then max (v+(n:Int)) 0 else min v (n:Int))=((sIx n d (some v):Nat):Int):=by
 show (if v<0 then max (v+(n:Int)) 0 else min v (n:Int))=(((if v<0 then (v+(n:Int)).toNat else min v.toNat n):Nat):Int);by_cases hv:v<0
 ·simp only[if_pos hv];omega
 ·simp only[if_neg hv];omega
theorem aq6 (lo hi:Option Int) (n:Nat):Builtin.Slice.sliceAdjust lo hi 1 (n:Int)=(((sIx n 0 lo:Nat):Int),((sIx n n hi:Nat):Int)):=by
 have h1:¬ ((1:Int)<0):=by omega
 unfold Builtin.Slice.sliceAdjust;refine Prod.ext ?_ ?_
 ·cases lo with
  |none=>rfl
  |some v=>exact aC9 v n 0
 ·cases hi with
  |none=>rfl
  |some v=>exact aC9 v n n
theorem ao1 (i j:Nat):Builtin.Slice.slicePlaces (i:Int) (j:Int) 1=j-i:=by
 unfold Builtin.Slice.slicePlaces;have h1:(1:Int) > 0:=by omega
 split <;> omega
theorem K_2  (p:IsPart v o) (h:Q o s):wpAny (model prog w) A (Builtin.Slice.slicePartIndex v) Q E s:=by
 cases p with
 |none=>exact slicePart_none h
 |int i t=>exact slicePart_int h
theorem C_8 {lo hi:Option Int}{n:Nat} (hs:s.heap.IsSliceOf sl vl Z .none) (pl:IsPart vl lo) (pu:IsPart Z hi)
  (h:Q (((sIx n 0 lo:Nat):Int),1,sIx n n hi-sIx n 0 lo) s):wpAny (model prog w) A (Builtin.Slice.sliceApplied (.ref sl) (pure (n:Int))) Q E s:=by
 obtain⟨os,Y,aa,O⟩:=id hs;refine qj (qj (jg Y O rfl (qj (jg Y O rfl (qj (jg Y O rfl (qk ?_)))))));refine qj (slicePart_none ?_);rw[if_neg (by decide)];refine qj (K_2 pl (qj (K_2 pu (qj (qk ?_)))));show wpAny _ _ (match Builtin.Slice.sliceAdjust lo hi 1 (n:Int) with | (lo,hi)=>pure (lo,(1:Int),Builtin.Slice.slicePlaces lo hi 1)) _ _ s;rw[aq6 lo hi n];show wpAny _ _ (pure (((sIx n 0 lo:Nat):Int),(1:Int),Builtin.Slice.slicePlaces ((sIx n 0 lo:Nat):Int) ((sIx n n hi:Nat):Int) 1)) _ _ s;rw[ao1];exact qk h
theorem aI2 (xs:Array Value) (i k:Nat):((List.range k).filterMap λ (m:Nat)=>xs[((i:Int)+(m:Int)*1).toNat]?).toArray=((xs.toList.drop i).take k).toArray:=by
 have e:(λ (m:Nat)=>xs[((i:Int)+(m:Int)*1).toNat]?)=λ m=>xs[i+m]?:=by
  funext m;have:((i:Int)+(m:Int)*1).toNat=i+m:=by omega
  rw[this]
 rw[e];have:=pick_run xs i k;rw[List.filterMap_map] at this;have e2:((λ x=>xs[x]?) ∘ λ x=>i+x)=λ m=>xs[i+m]?:=rfl;rw[e2] at this;rw[this]
theorem getItem_tuple_cut {lo hi:Option Int} (Y:IsTup s.heap t items) (hs:s.heap.IsSliceOf sl vl vu .none) (pl:IsPart vl lo) (pu:IsPart vu hi)
  (hw:¬ (sIx items.size 0 lo=0/\sIx items.size items.size hi=items.size))
  (h:Q (.ref s.heap.objs.size) {s with heap:=s.heap.push {cls:=.type "tuple",data:=.seq ((items.toList.drop (sIx items.size 0 lo)).take (sIx items.size items.size hi-sIx items.size 0 lo)).toArray}})
  (hsz:items.size<=sizeLine):wpAny (model prog w) A (getItem (.ref t) (.ref sl)) Q E s:=by
 have O:sizeOk (.seq ((items.toList.drop (sIx items.size 0 lo)).take (sIx items.size items.size hi-sIx items.size 0 lo)).toArray):=by show ((items.toList.drop (sIx items.size 0 lo)).take (sIx items.size items.size hi-sIx items.size 0 lo)).toArray.size<=sizeLine;rw[zf,Yk,List.length_drop,yd];omega
 have hj:sIx items.size items.size hi<=items.size:=bl4 _ _ (qr _) hi;obtain⟨os,ad,ac,ae⟩:=id hs;have Z:s.TypeIs (.ref sl) "slice":=⟨os,ad,ac⟩;unfold getItem
 try with_reducible refine yg ?_
 first | refine qj (qk ?_) | skip
 refine qj (wpAny_sequenceKey Y.typeIs (by decide) ?_);refine qj (wpAny_callSpecial?_slot Y.typeIs Yi
  (jl Yi Y.typeIs entry_tuple_getitem ?_ (args_tuple_getitem _ _)))
 show wpAny _ _ (Builtin.Tuple.tupleItemsOf (.ref t) >>= _) _ _ s;refine qj (tupleItemsOf_ Y ?_);refine qj (Za Z ?_);rw[if_pos (by decide)];refine qj (C_8 hs pl pu ?_);have aa:¬ ((((sIx items.size 0 lo:Nat):Int)==0&&(1:Int)==1&&(sIx items.size items.size hi-sIx items.size 0 lo)==items.size)=true):=by intro q;rw[zj,zj] at q;have q1:=eq_of_beq q.1.1;have q2:=eq_of_beq q.2;exact hw ⟨by omega,by omega⟩
 show wpAny _ _ (if (((sIx items.size 0 lo:Nat):Int)==0&&(1:Int)==1&&(sIx items.size items.size hi-sIx items.size 0 lo)==items.size)=true then _ else _) _ _ s;rw[if_neg aa,aI2]
 first
  |exact qj (yp (qk ⟨_,rfl,qk h⟩) O)
  |exact qj (yp (qj (qk (qk ⟨_,rfl,qk h⟩))) O)
  |exact qj (qj (yp (qk (qk ⟨_,rfl,qk h⟩)) O))
  |exact qj (qj (yp (qk ⟨_,rfl,qk h⟩) O))
end
end HT
namespace L2
open PySem PySem.Spec PyProof.Rows
abbrev TO:=St->Hp->(Option Int->Hp->Prop)->Prop
def PO (X:Cx) (e:Option Expr) (t:TO):Prop :=
 ∀ (pins:List (Addr×Obj)) (s:Shared) (σ:St) (H:Hp) (Q:Option Int->Hp->Prop),Inv X pins σ H s->t σ H Q ->
  wpAny (model X.prog X.w) X.A (evalPart e X.env) (λ u s'=>∃ o H',Inv X pins σ H' s'/\IsPart u o/\Q o H') X.xe s
def aV5:TO:=λ _ H Q=>Q none H
def bA8 (t:TE):TO:=λ σ H Q=>t σ H λ x H1=>∃ i,x=.int i/\Q (some i) H1
theorem intsAre_of :∀ {us:List Value},Vals (ns.map V.int) us->IntsAre us ns:=by
 induction ns with
 |nil=>intro us r;rw[jv] at r;cases r;exact .nil
 |cons n ns O =>
  intro us r;rw[ze] at r;cases r with
  |cons Z Y =>
   obtain⟨t,e⟩:=Z;subst e;exact .cons n t (O Y)
section
variable {lo hi:Option Expr}
theorem aY7:PO X none aV5:=by intro pins s σ H Q I h;rw[evalPart_none];exact qk ⟨none,H,I,.none,h⟩
theorem aY6 (h:PE X e te):PO X (some e) (bA8 te):=by
 intro pins s σ H Q I hw;rw[evalPart_some];refine thn (h pins s σ H _ I hw) λ u s1=>ex5 λ x H1 Y Z O=>?_;obtain⟨i,rfl,q⟩:=O;obtain⟨t,rfl⟩:=Z;exact⟨some i,H1,Y,.int i t,q⟩
def SlR (X:Cx) (r:V->Option Int->Option Int->Hp->VK->Prop):Prop :=
 ∀ (pins:List (Addr×Obj)) (s:Shared) (σ:St) (H:Hp) (x:V) (v Z O:Value) (lo hi:Option Int) (Y:Addr) (Q:VK),Inv X pins σ H s->RelV x v->s.heap.IsSliceOf Y Z O .none->IsPart Z lo->IsPart O hi->r x lo hi H Q ->
  ∃ T id,typeLookup (.type T) "__getitem__"=pure (some (.builtin id)) ∧ s.TypeIs v T ∧ wpAny (model X.prog X.w) X.A (getItem v (.ref Y)) (EP X pins σ Q) X.xe s
theorem SlR.or  (h:SlR X r) (h':SlR X r'):SlR X (λ x lo hi H Q=>r x lo hi H Q\/r' x lo hi H Q):=by
 intro pins s σ H x v Y O lo hi sl Q I Z hs pl pu q;rcases q with q | q
 ·exact h pins s σ H x v Y O lo hi sl Q I Z hs pl pu q
 ·exact h' pins s σ H x v Y O lo hi sl Q I Z hs pl pu q
def tSl (r:V->Option Int->Option Int->Hp->VK->Prop) (te:TE) (tl th:TO):TE:=λ σ H Q=>te σ H λ x H1=>tl σ H1 λ l H2=>th σ H2 λ u O=>r x l u O Q
theorem ah8  (hr:SlR X r) (he:PE X e te) (hl:PO X lo tl) (hu:PO X hi th):PE X (.Subscript e (.Slice lo hi none p2) pos) (tSl r te tl th):=by
 intro pins s σ H Q I h;refine Subscript_ (thn (he pins s σ H _ I h) λ v s1=>ex5 λ x H1 I1 r1 q1=>?_);refine wpAny_Slice (thn (hl pins s1 σ H1 _ I1 q1) λ Z s2=>ex5 λ l H2 I2 pl q2=>thn (hu pins s2 σ H2 _ I2 q2) λ Y O=>ex5 λ u H3 I3 pu q3=>?_);rw[evalPart_none];refine qk ?_;have I4:Inv X pins σ H3 {O with heap:=O.heap.push {cls:=.type "slice",data:=.fields #[Z,Y,.none]}}:=I3.kept λ b ob q=>ql _ q;obtain⟨T,id,hT,ht,hg⟩:=hr pins {O with heap:=O.heap.push {cls:=.type "slice",data:=.fields #[Z,Y,.none]}} σ H3 x v Z Y l u O.heap.objs.size Q I4 r1 (Heap.IsSliceOf.new ..) pl pu q3;exact tail_any ht hT hg (by with_unfolding_all rfl)
def aF0 (xs:List V) (lo hi:Option Int):List V:=(xs.drop (HT.sIx xs.length 0 lo)).take (HT.sIx xs.length xs.length hi-HT.sIx xs.length 0 lo)
theorem H_4 (xs:List V) (lo hi:Option Int):(aF0 xs lo hi).length<=xs.length:=by unfold aF0;rw[Yk,List.length_drop];omega
def bZ3 (K:Frag):V->Option Int->Option Int->Hp->VK->Prop:=λ x lo hi H Q=>∃ a xs,x=.ref a/\SqT K H a xs /\
 ¬ (HT.sIx xs.length 0 lo=0/\HT.sIx xs.length xs.length hi=xs.length)/\∀ p,H p=none->Q (.ref p) (upd H p (.tup (aF0 xs lo hi)))
theorem aP2:SlR X (bZ3 X.K):=by
 intro pins s σ H x v vl vu lo hi sl Q I rx hs pl pu h;obtain⟨a,xs,rfl,hx,hw,q⟩:=h;cases rx;obtain⟨Y,r,Z,hz⟩:=I.tuple hx;have O:Y.toArray.size=xs.length:=by rw[zf];exact r.length.symm
 refine⟨"tuple",_,PyProof.Rows.slot_tuple_getitem.lookup,Z.typeIs,?_⟩;refine HT.getItem_tuple_cut Z hs pl pu (by rw[O];exact hw) ?_ (by rw[O];exact hz);rw[O];refine⟨.ref s.heap.objs.size,_,I.laid (λ b ob q=>ql _ q) (qr _) ?_,rfl,q _ (I.hok.fresh (qr _))⟩;exact⟨z0 (H_4 xs lo hi) hz,_,(r.drop (HT.sIx xs.length 0 lo)).take (HT.sIx xs.length xs.length hi-HT.sIx xs.length 0 lo),IsTuN.new _ _⟩
def cl1 (K:Frag):R2:=λ x y H Q=>∃ a b xs ys,x=.ref a/\y=.ref b/\SqT K H a xs/\SqT K H b ys/\xs≠[]/\xs.length+ys.length<=sizeLine /\
 (ys=[]->Q (.ref a) H)/\(ys≠[]->∀ p,H p=none->Q (.ref p) (upd H p (.tup (xs++ys))))
theorem Vals.nil_iff {xs:List V}{us:List Value} (r:Vals xs us):us=[]↔xs=[]:=by
 cases r with
 |nil=>simp
 |cons _ _=>simp
theorem bw1:OpR X (binaryOp .Add) (cl1 X.K):=by intro pins s σ H x y v u Q I rx ry h;obtain⟨a,b,xs,ys,rfl,rfl,ha,hb,hx,hz,q1,q2⟩:=h;cases rx;cases ry;obtain⟨aa,Y,p1,_⟩:=I.tuple ha;obtain⟨Z,O,p2,_⟩:=I.tuple hb;refine HT.cat_tup p1 p2 (λ z=>hx (Y.nil_iff.mp z)) (λ z=>⟨.ref a,H,I,rfl,q1 (O.nil_iff.mp z)⟩) (λ z=>?_) (by rw[<- Y.length,<- O.length];exact hz);refine⟨.ref s.heap.objs.size,_,I.laid (t':=s.toks) (o:=.tup (xs++ys)) (λ b ob q=>ql _ q) (qr _) ?_,rfl,q2 (λ w=>z (O.nil_iff.mpr w)) _ (I.hok.fresh (qr _))⟩;exact⟨by rw[zh];exact hz,_,Y.append O,IsTuN.new _ _⟩
end
noncomputable def ixN (n:Nat) (i:Int):Option Nat:=if 0<=i then (if i<n then some i.toNat else none) else if -(n:Int)<=i then some (i+n).toNat else none
def atI {α:Type} (xs:List α) (i:Int):Option α:=(ixN xs.length i).bind λ j=>xs[j]?
theorem az8  (h:ixN n i=some j):seqIndex? i n=some j/\j<n/\-(n:Int)<=i/\i<n:=by
 unfold ixN at h;by_cases O:0<=i
 ·rw[if_pos O] at h;by_cases h1:i<n
  ·rw[if_pos h1] at h;have e:=qp h;exact⟨by rw[seqIndex_of O h1,e],by omega,by omega,h1⟩
  ·rw[if_neg h1] at h;cases h
 ·rw[if_neg O] at h;by_cases h1:-(n:Int)<=i
  ·rw[if_pos h1] at h;have e:=qp h;exact⟨by rw[seqIndex_neg (by omega) h1,e],by omega,h1,by omega⟩
  ·rw[if_neg h1] at h;cases h
theorem af2  (h:atI xs i=some v):∃ j,seqIndex? i xs.length=some j/\xs[j]?=some v/\j<xs.length/\-(xs.length:Int)<=i/\i<xs.length:=by
 unfold atI at h;cases e:ixN xs.length i with
 |none=>rw[e] at h;cases h
 |some j =>
  rw[e] at h;obtain⟨h1,h2,Y,O⟩:=az8 e;exact⟨j,h1,h,h2,Y,O⟩
theorem bf1 {α:Type} (xs:List α) (v:α):atI (xs++[v]) (-1)=some v:=by
 have hl:(xs++[v]).length=xs.length+1:=by simp
 have e:ixN (xs++[v]).length (-1)=some xs.length:=by unfold ixN;rw[hl,if_neg (by decide),if_pos (by omega)];congr 1;omega
 unfold atI;rw[e];show (xs++[v])[xs.length]?=some v;simp
def T_1 (b:Expr):Prop:=∀ o i,subscripted b false o i=operate [o,i] (getItem o i)
def IxR (X:Cx) (r:R2):Prop :=
 ∀ (value O:Expr) (pins:List (Addr×Obj)) (s:Shared) (σ:St) (H:Hp) (x y:V) (v u:Value) (Q:VK),Inv X pins σ H s->RelV x v->RelV y u->r x y H Q ->
  subscripted O false v u=operate [v,u] (getItem v u)->wpAny (model X.prog X.w) X.A (subscriptTail value O v u) (EP X pins σ Q) X.xe s
def MtR (X:Cx) (id:String) (r:V->List V->Hp->VK->Prop):Prop :=
 ∀ (pins:List (Addr×Obj)) (s:Shared) (σ:St) (H:Hp) (x:V) (xs:List V) (v:Value) (us:List Value) (Q:VK),Inv X pins σ H s->RelV x v->Vals xs us->r x xs H Q ->
  wpAny (model X.prog X.w) X.A (call (.builtin id) (v::us)) (EP X pins σ Q) X.xe s
section
variable {X:Cx}{a b:Expr}{ta tb:TE}{pos:Pos}
theorem IxR.or  (h:IxR X r) (h':IxR X r'):IxR X (λ x y H Q=>r x y H Q\/r' x y H Q):=by
 intro value O pins s σ H x y v u Q I Z Y q hs;rcases q with q | q
 ·exact h value O pins s σ H x y v u Q I Z Y q hs
 ·exact h' value O pins s σ H x y v u Q I Z Y q hs
theorem MtR.or {id:String} (h:MtR X id r) (h':MtR X id Z):MtR X id (λ x xs H Q=>r x xs H Q\/Z x xs H Q):=by
 intro pins s σ H x xs v us Q I Y O q;rcases q with q | q
 ·exact h pins s σ H x xs v us Q I Y O q
 ·exact h' pins s σ H x xs v us Q I Y O q
theorem ab2  (Z:IxR X r) (ha:PE X a ta) (hb:PE X b tb) (hs:T_1 b):PE X (.Subscript a b pos) (tOp r ta tb):=by intro pins s σ H Q I h;exact Subscript_ (bL8 ha hb I h λ v u O x y H2 I2 Y ry q=>Z a b pins O σ H2 x y v u Q I2 Y ry q (hs _ _))
def bP3 (K:Frag):R2:=λ x y H Q=>∃ p xs i v,x=.ref p/\y=.int i/\SqL K H p xs/\atI xs i=some v/\Q v H
def bP1 (K:Frag):R2:=λ x y H Q=>∃ p xs i v,x=.ref p/\y=.int i/\SqT K H p xs/\atI xs i=some v/\Q v H
def bP2:R2:=λ x y H Q=>∃ z i c,x=.str z/\y=.int i/\z.length<=sizeLine/\atI z.cps.toList i=some c/\Q (.str ⟨#[c]⟩) H
theorem ix_list:IxR X (bP3 X.K):=by
 intro value Y pins s σ H x y v u Q I rx ry h hs;obtain⟨p,xs,i,z,rfl,rfl,hq,he,q⟩:=h;cases rx;obtain⟨t,rfl⟩:=ry;obtain⟨aa,r,pl,hz⟩:=I.list hq;obtain⟨j,h1,h2,h3,h4,h5⟩:=af2 he;obtain⟨w,ew,O⟩:=r.get h2;have hl:=r.length;have hn:=G_9;have fin:EP X pins σ Q w s:=⟨z,H,I,O,q⟩;by_cases h0:0<=i
 ·have Z:i.toNat=j:=by rw[seqIndex_of h0 h5] at h1;exact qp h1
  exact item_listR pl.isList h0 (by omega) (by rw[Z];simpa using ew) fin hs
 ·have Z:(i+(aa.toArray.size:Int)).toNat=j:=by rw[seqIndex_neg (by omega) h4] at h1;rw[zf,<- hl];exact qp h1
  exact subscriptTail_builtinR pl.isList.typeIs slot_list_getitem.lookup
   (wpAny_getItem_list_neg pl.isList (by omega) (by rw[zf] <;> omega) (by omega) (by rw[Z];simpa using ew) ⟨rfl,fin⟩) hs
theorem ix_tup:IxR X (bP1 X.K):=by
 intro value Y pins s σ H x y v u Q I rx ry h hs;obtain⟨p,xs,i,z,rfl,rfl,hq,he,q⟩:=h;cases rx;obtain⟨t,rfl⟩:=ry;obtain⟨aa,r,Z,hz⟩:=I.tuple hq;obtain⟨j,h1,h2,h3,h4,h5⟩:=af2 he;obtain⟨w,ew,O⟩:=r.get h2;have hl:=r.length;have hn:=G_9;have fin:EP X pins σ Q w s:=⟨z,H,I,O,q⟩;exact subscriptTail_builtinR Z.typeIs slot_tuple_getitem.lookup
  (getItem_tuple Z (by omega) (by omega) (by rw[zf,<- hl];exact h1) (by simpa using ew) ⟨rfl,fin⟩) hs
theorem br1:IxR X bP2:=by
 intro value O pins s σ H x y v u Q I Z ry h hs;obtain⟨z,i,c,rfl,rfl,hz,he,q⟩:=h;obtain⟨t,rfl⟩:=Z;obtain⟨t',rfl⟩:=ry;obtain⟨j,h1,h2,h3,Y,h5⟩:=af2 he;have hl:z.cps.toList.length=z.length:=by simp[Str.length]
 rw[hl] at h1 Y h5;have hn:=G_9;exact tail_any (typeIs_str s z t) slot_str_getitem.lookup (getItem_str (by
  have e1:decide (i < -(2 ^ 63:Int))=false:=zn (by omega);have e2:decide (i>=2 ^ 63)=false:=zn (by omega);rw[e1,e2,Bool.or_false]) (by rw[h1];simpa using h2) ⟨.str ⟨#[c]⟩,H,I.tok _,⟨_,rfl⟩,q⟩) hs
def rIx (K:Frag):R2:=λ x y H Q=>bP3 K x y H Q\/bP1 K x y H Q\/bP2 x y H Q
theorem br2:IxR X (rIx X.K):=ix_list.or (ix_tup.or br1)
theorem Inv.lst  (I:Inv X pins σ H s) (h:H p=some (.lst xs)) :
  ∃ (O:List Value) (n:Nat),Vals xs O ∧ s.heap.get? p=some {cls:=.type "list",data:=.seq O.toArray n} ∧ xs.length ≤ sizeLine:=by
 obtain⟨z,O,n,r,e⟩:=I.hok p _ h;exact⟨O,n,r,e,z⟩
noncomputable def J_5:V->Bool
 |.non=>true
 |.bl _=>true
 |.int _=>true
 |.str _=>true
 |_=>false
noncomputable def eqV:V->V->Bool
 |.non,.non=>true
 |.bl a,.bl b=>a==b
 |.bl a,.int b=>(if a then 1 else 0)==b
 |.int a,.bl b=>a==(if b then 1 else 0)
 |.int a,.int b=>a==b
 |.str a,.str b=>a==b
 |_,_=>false
theorem bt6  (Y:RelV y u) (O:RelV x v) (fy:J_5 y=true) (Z:J_5 x=true):SeqAt.EqAt A s u v (eqV y x):=by
 cases y with
 |non =>
  cases Y;cases x with
  |non=>cases O;exact SeqAt.EqAt.same _
  |bl b=>cases O;exact SeqAt.EqAt.none_bool b
  |int b=>obtain⟨t,rfl⟩:=O;exact SeqAt.EqAt.none_int b t
  |str b=>obtain⟨t,rfl⟩:=O;exact SeqAt.EqAt.none_str b t
  |_=>exact absurd (show false=true from Z) zc
 |bl a =>
  cases Y;cases x with
  |non=>cases O;exact SeqAt.EqAt.bool_none a
  |bl b=>cases O;exact SeqAt.EqAt.bool_bool a b
  |int b=>obtain⟨t,rfl⟩:=O;exact SeqAt.EqAt.bool_int a b t
  |str b=>obtain⟨t,rfl⟩:=O;exact SeqAt.EqAt.bool_str a b t
  |_=>exact absurd (show false=true from Z) zc
 |int a =>
  obtain⟨t',rfl⟩:=Y;cases x with
  |non=>cases O;exact SeqAt.EqAt.int_none a t'
  |bl b=>cases O;exact SeqAt.EqAt.int_bool a t' b
  |int b=>obtain⟨t,rfl⟩:=O;exact SeqAt.EqAt.int_int a t' b t
  |str b=>obtain⟨t,rfl⟩:=O;exact SeqAt.EqAt.int_str a t' b t
  |_=>exact absurd (show false=true from Z) zc
 |str a =>
  obtain⟨t',rfl⟩:=Y;cases x with
  |non=>cases O;exact SeqAt.EqAt.str_none a t'
  |bl b=>cases O;exact SeqAt.EqAt.str_bool a t' b
  |int b=>obtain⟨t,rfl⟩:=O;exact SeqAt.EqAt.str_int a t' b t
  |str b=>obtain⟨t,rfl⟩:=O;exact SeqAt.EqAt.str_str a t' b t
  |_=>exact absurd (show false=true from Z) zc
 |_=>exact absurd (show false=true from fy) zc
def eqU (x:V) (u:Value):Bool:=match u with
 |.none=>eqV .non x
 |.bool b=>eqV (.bl b) x
 |.int i _=>eqV (.int i) x
 |.str z _=>eqV (.str z) x
 |_=>false
theorem aS5  (r:RelV y u) (f:J_5 y=true):eqU x u=eqV y x:=by
 cases y with
 |non=>cases r;rfl
 |bl b=>cases r;rfl
 |int i=>obtain⟨t,rfl⟩:=r;rfl
 |str z=>obtain⟨t,rfl⟩:=r;rfl
 |_=>exact absurd (show false=true from f) zc
theorem I_2 :∀ {xs:List V}{us:List Value},Vals xs us->xs.all J_5=true->us.any (eqU x)=xs.any λ y=>eqV y x
 |_,_,.nil,_=>rfl
 |y::xs,u::us,.cons r t,f=>by
  rw[j7,zj] at f;rw[Qm,Qm,aS5 r f.1,I_2 t f.2]
theorem y_3  (Y:RelV x v) (Z:J_5 x=true):∀ {xs:List V}{us:List Value},Vals xs us->xs.all J_5=true->∀ u∈us,SeqAt.EqAt A s u v (eqU x u)
 |_,_,.nil,_=>λ u O=>by cases O
 |y::xs,u::us,.cons r t,f=>λ u' O=>by
  rw[j7,zj] at f;rcases qz O with rfl | O
  ·rw[aS5 r f.1];exact bt6 r Y f.1 Z
  ·exact y_3 Y Z t f.2 u' O
def inV (x:V) (xs:List V):Bool:=xs.any λ y=>eqV y x
def rIn (K:Frag) (O:Bool):R2:=λ x y H Q=>∃ p xs,y=.ref p/\(SqL K H p xs\/SqT K H p xs)/\J_5 x=true/\xs.all J_5=true/\Q (.bl (if O then !inV x xs else inV x xs)) H
theorem aw8:OpR X (compareOp .In) (rIn X.K false):=by
 intro pins s σ H x y v u Q I rx ry h;obtain⟨p,xs,rfl,Y,fx,fs,q⟩:=h;cases ry;rcases Y with Y | Y
 ·obtain⟨O,r,Z,hz⟩:=I.list Y;refine SeqAt.in_listAt (eqU x) Z.isList (λ w hw=>y_3 rx fx r fs w (by simpa using hw)) ⟨.bl _,H,I,rfl,?_⟩;rw[show O.toArray.any (eqU x)=O.any (eqU x) by simp,I_2 r fs];exact q
 ·obtain⟨O,r,Z,hz⟩:=I.tuple Y;refine SeqAt.in_tupleAt (eqU x) Z (λ w hw=>y_3 rx fx r fs w (by simpa using hw)) ⟨.bl _,H,I,rfl,?_⟩;rw[show O.toArray.any (eqU x)=O.any (eqU x) by simp,I_2 r fs];exact q
theorem V_4:OpR X (compareOp .NotIn) (rIn X.K true):=by
 intro pins s σ H x y v u Q I rx ry h;obtain⟨p,xs,rfl,Y,fx,fs,q⟩:=h;cases ry;rcases Y with Y | Y
 ·obtain⟨O,r,Z,hz⟩:=I.list Y;refine SeqAt.notIn_listAt (eqU x) Z.isList (λ w hw=>y_3 rx fx r fs w (by simpa using hw)) ⟨.bl _,H,I,rfl,?_⟩;rw[show O.toArray.any (eqU x)=O.any (eqU x) by simp,I_2 r fs];exact q
 ·obtain⟨O,r,Z,hz⟩:=I.tuple Y;refine SeqAt.notIn_tupleAt (eqU x) Z (λ w hw=>y_3 rx fx r fs w (by simpa using hw)) ⟨.bl _,H,I,rfl,?_⟩;rw[show O.toArray.any (eqU x)=O.any (eqU x) by simp,I_2 r fs];exact q
theorem al6:OpR X (compareOp .NotIn) (λ x y H Q=>∃ i j,x=.str i/\y=.str j/\Q (.bl (!(!(Builtin.Str.occurrences j i 0 j.length 1).isEmpty))) H):=by intro pins s σ H x y v u Q I Y O h;obtain⟨i,j,rfl,rfl,q⟩:=h;obtain⟨t,rfl⟩:=Y;obtain⟨t',rfl⟩:=O;exact notIn_str ⟨.bl _,H,I,rfl,q⟩
theorem call_len_seq:CallR X (.builtin "len") (λ xs H Q=>∃ p ys,xs=[.ref p] ∧ (SqL X.K H p ys ∨ SqT X.K H p ys) ∧ Q (.int ys.length) H):=by
 intro pins s σ H xs us Q I r h;obtain⟨p,ys,rfl,Y,q⟩:=h;obtain⟨u,rfl,rx⟩:=v_5 r;cases rx;have hn:=G_9;rcases Y with Y | Y
 ·obtain⟨aa,r',Z,hz⟩:=I.list Y;have O:=r'.length;exact Calls.call_len_list Z.isList (by simp only[zf] <;> omega) ⟨.int ys.length,H,I.tok _,⟨s.toks+1,by rw[zf,O]⟩,q⟩
 ·obtain⟨aa,r',Z,hz⟩:=I.tuple Y;have O:=r'.length;exact len_tuple Z (by simp only[zf] <;> omega) ⟨.int ys.length,H,I.tok _,⟨s.toks+1,by rw[zf,O]⟩,q⟩
theorem Y_5:CallR X (.builtin "len") (λ xs H Q=>∃ z,xs=[.str z] ∧ z.length ≤ sizeLine ∧ Q (.int z.length) H):=by intro pins s σ H xs us Q I r h;obtain⟨z,rfl,hz,q⟩:=h;obtain⟨u,rfl,t,rfl⟩:=v_5 r;have O:=G_9;exact len_str (by omega) ⟨.int z.length,H,I.tok _,⟨_,rfl⟩,q⟩
theorem CallR.or  (h:CallR X f r) (h':CallR X f Y):CallR X f (λ xs H Q=>r xs H Q\/Y xs H Q):=by
 intro pins s σ H xs us Q I O q;rcases q with q | q
 ·exact h pins s σ H xs us Q I O q
 ·exact h' pins s σ H xs us Q I O q
theorem R_8:CallR X (.type "tuple") (λ xs H Q=>∃ p ys,xs=[.ref p] ∧ ((SqL X.K H p ys ∧ ∀ l,H l=none → Q (.ref l) (upd H l (.tup ys))) ∨ (SqT X.K H p ys ∧ Q (.ref p) H))):=by
 intro pins s σ H xs us Q I r h;obtain⟨p,ys,rfl,h⟩:=h;obtain⟨u,rfl,rx⟩:=v_5 r;cases rx;rcases h with ⟨hq,q⟩ | ⟨hq,q⟩
 ·obtain⟨O,Z,Y,hz⟩:=I.list hq;have aa:=Z.length;refine call_tuple_list Y.isList (λ h' kp=>?_) (by simp only[zf] <;> omega);have I1:=I.kept (t':=s.toks) kp;have I2:=
   I1.laid (t':=s.toks) (λ b o e=>ql _ e) (qr _) (show ObjOk X.prog X.w _ _ _ (.tup ys) from ⟨hz,O,Z,IsTuN.new _ _⟩)
  exact⟨.ref h'.objs.size,_,I2,rfl,q _ (I1.hok.fresh (qr _))⟩
 ·obtain⟨O,Z,Y,hz⟩:=I.tuple hq;exact call_tuple_same Y ⟨.ref p,H,I,rfl,q⟩
def tyV (K:Frag) (T:String) (x:V) (H:Hp):Prop:=match x with
 |.str _=>T="str"
 |.int _=>T="int"
 |.ref p=>(T="list" ∧ ∃ xs,SqL K H p xs) ∨ (T="tuple" ∧ ∃ o,K.lookup p=some o ∧ o.cls=.type "tuple" ∧ o.dict=none) ∨
   (T="dict" ∧ ((∃ kvs,H p=some (.dK kvs)) ∨ ∃ kvs,H p=some (.dT kvs))) ∨ (T="set" ∧ ∃ S n,H p=some (.set S n))
 |_=>False
theorem bk0  (I:Inv X pins σ H s) (r:RelV x v) (ty:tyV X.K T x H) :
  s.TypeIs v T/\∀ a,v=.ref a->∃ ob,s.heap.get? a=some ob/\ob.dict=none:=by
 cases x with
 |str z =>
  obtain⟨t,rfl⟩:=r;cases (show T="str" from ty);exact⟨typeIs_str s z t,λ _ e=>nomatch e⟩
 |int i =>
  obtain⟨t,rfl⟩:=r;cases (show T="int" from ty);exact⟨typeIs_int s i t,λ _ e=>nomatch e⟩
 |ref p =>
  cases r;rcases ty with ⟨rfl,xs,hq⟩ | ⟨rfl,o,hk,hc,hd⟩ | ⟨rfl,hk⟩ | ⟨rfl,S,n,hk⟩
  ·obtain⟨Y,_,O,_⟩:=I.list hq;refine⟨O.isList.typeIs,λ a e=>?_⟩;cases e;obtain⟨o,n,e,c,hd,_⟩:=O;exact⟨o,e,hd⟩
  ·refine⟨⟨o,I.kIn p o hk,hc⟩,λ a e=>?_⟩;cases e;exact⟨o,I.kIn _ o hk,hd⟩
  ·have z:∃ o,s.heap.get? p=some o/\o.ExactDict:=by
    rcases hk with ⟨kvs,hk⟩ | ⟨kvs,hk⟩
    ·obtain⟨_,_,_,_,o,_,_,e,ex,_⟩:=I.hok p _ hk;exact⟨o,e,ex⟩
    ·obtain⟨_,_,_,_,o,_,_,e,ex,_⟩:=I.hok p _ hk;exact⟨o,e,ex⟩
   obtain⟨o,e,ex⟩:=z;refine⟨⟨o,e,ex.1⟩,λ a e2=>?_⟩;cases e2;exact⟨o,e,ex.2.1⟩
  ·obtain⟨o,_,_,_,e,ex,_⟩:=I.hok p _ hk;refine⟨⟨o,e,ex.1⟩,λ a e2=>?_⟩;cases e2;exact⟨o,e,ex.2.1⟩
 |_=>exact False.elim ty
def cw5 (K:Frag) (T:String) (r:V->List V->Hp->VK->Prop) (to:TE):TE:=λ σ H Q=>to σ H λ x H1=>tyV K T x H1/\r x [] H1 Q
def tBM (K:Frag) (T:String) (r:V->List V->Hp->VK->Prop) (to:TE) (t:TA):TE:=λ σ H Q=>to σ H λ x H1=>tyV K T x H1/\t σ H1 λ xs H2=>r x xs H2 Q
variable {T id:String}
theorem bM9 (pa:PlainAttrs T) (slot:Slot T name id) (aa:typeOf (.builtin id)=pure (.type "method_descriptor")) (hm:MtR X id r) (ho:PE X o to)
  (Y:attributeBase o name X.env (eval o X.env)=eval o X.env) (O:(apos.endLine==cpos.line)=true):PE X (.Call (.Attribute o name apos) [] [] cpos) (cw5 X.K T r to):=by
 intro pins s σ H Q I h;refine wpAny_Call_method0_late Y O (thn (ho pins s σ H _ I h) λ v s1 Z=>?_);obtain⟨x,H1,I1,r1,ty,q1⟩:=Z;obtain⟨h1,h2⟩:=bk0 I1 r1 ty;exact⟨T,id,pa,slot,aa,h1,h2,Qx rfl (PySem.evalArgs_none (hm pins s1 σ H1 x [] v [] Q I1 r1 .nil q1))⟩
theorem bo0 (pa:PlainAttrs T) (slot:Slot T name id) (ad:typeOf (.builtin id)=pure (.type "method_descriptor")) (hm:MtR X id r) (ho:PE X o to) (ha:PA X (e::es) t)
  (Z:attributeBase o name X.env (eval o X.env)=eval o X.env)
  (ac:((backTo cpos (starEach (e::es) X.env)).all (λ x=>!x.1)&&(backToKw cpos (keywordEach [] X.env)).all (λ x=>x.1.isSome)
   && decide ((e::es).length+([]:List Keyword).length+(if ([]:List Keyword).isEmpty then 0 else 1)<30))=true)
  (Y:(apos.endLine==cpos.line)=true) (hs:starEach (e::es) X.env=(false,eval e X.env)::starEach es X.env) (O:(backTo cpos (starEach es X.env)).any (·.1)=false) :
  PE X (.Call (.Attribute o name apos) (e::es) [] cpos) (tBM X.K T r to t):=by
 intro pins s σ H Q I h;refine wpAny_Call_method_late Z ac Y rfl (thn (ho pins s σ H _ I h) λ v s1 aa=>?_);obtain⟨x,H1,I1,r1,ty,q1⟩:=aa;obtain⟨h1,h2⟩:=bk0 I1 r1 ty;refine⟨T,id,pa,slot,ad,h1,h2,?_⟩;have hA:=ha cpos pins s1 σ H1 _ I1 q1;rw[hs] at hA ⊢;refine Qx (by show (false||(backTo cpos (starEach es X.env)).any (·.1))=false;rw[O] <;> rfl) (Qd ?_);exact thn hA λ us s2=>ex5 λ vs H2 I2 r2 q2=>hm pins s2 σ H2 x vs v us Q I2 r1 r2 q2
end
def MtM (X:Cx) (id:String) (r:V->List V->Hp->VK->Prop):Prop :=
 ∀ (pins:List (Addr×Obj)) (s:Shared) (σ:St) (H:Hp) (x:V) (xs:List V) (v:Value) (us:List Value) (Q:VK),Inv X pins σ H s->RelV x v->Vals xs us->r x xs H Q ->
  wpAny (model X.prog X.w) X.A (call (.builtin id) (v::us)) (EP X pins σ Q) X.xe s
theorem Vals.one:∀ {x:V}{us:List Value},Vals [x] us->∃ u,us=[u]/\RelV x u
 |_,_,h=>by
  cases h with
  |cons r t=>cases t;exact⟨_,rfl,r⟩
theorem Vals.two:∀ {x y:V}{us:List Value},Vals [x,y] us->∃ u v,us=[u,v]/\RelV x u/\RelV y v
 |_,_,_,h=>by
  cases h with
  |cons r t =>
   cases t with
   |cons q z=>cases z;exact⟨_,_,rfl,r,q⟩
theorem Vals.zero:∀ {us:List Value},Vals [] us->us=[]
 |_,.nil=>rfl
theorem Vals.dropLast {xs:List V}{us:List Value} (h:Vals xs us):Vals xs.dropLast us.dropLast:=by
 induction h with
 |nil=>exact .nil
 |cons r t O =>
  cases t with
  |nil=>exact .nil
  |cons q t'=>exact .cons r O
theorem Vals.eraseIdx:∀ {xs:List V}{us:List Value} (i:Nat),Vals xs us->Vals (xs.eraseIdx i) (us.eraseIdx i)
 |_,_,_,.nil=>.nil
 |_,_,0,.cons _ t=>t
 |_,_,i+1,.cons r t=>.cons r (Vals.eraseIdx i t)
theorem Vals.reverse {xs:List V}{us:List Value} (h:Vals xs us):Vals xs.reverse us.reverse:=by
 induction h with
 |nil=>exact .nil
 |cons r t O=>rw[Qw,Qw];exact Vals.append O (.cons r .nil)
theorem Vals.rep {xs:List V}{us:List Value} (h:Vals xs us):∀ k:Nat,Vals (List.replicate k xs).flatten (List.replicate k us).flatten
 |0=>.nil
 |k+1=>by
  rw[y9,y9,Qa,Qa];exact Vals.append h (Vals.rep h k)
theorem aD1 {α:Type} (l:List α):l.eraseIdx (l.length-1)=l.dropLast:=by
 induction l with
 |nil=>rfl
 |cons a r O =>
  cases r with
  |nil=>rfl
  |cons b r =>
   have e:(a::b::r).length-1=((b::r).length-1)+1:=by have h1:(a::b::r).length=r.length+2:=rfl;have h2:(b::r).length=r.length+1:=rfl;omega
   rw[e,List.eraseIdx_cons_succ,O]
   all_goals rfl
theorem ao5 (Y:List Value):∀ (k:Nat) (O:List Value),
  List.foldl (λ x1 Z=>x1++Z) O.toArray (List.replicate k Y.toArray)=(O++(List.replicate k Y).flatten).toArray
 |0,O=>by simp
 |k+1,O=>by
  have e:O.toArray++Y.toArray=(O++Y).toArray:=by simp
  have e2:(O++Y)++(List.replicate k Y).flatten=O++(List.replicate (k+1) Y).flatten:=by rw[y9,Qa,ym]
  rw[<- e2,<- ao5 Y k (O++Y),<- e,y9,List.foldl_cons]
section
variable {X:Cx}{pins:List (Addr×Obj)}{σ:St}{H:Hp}{s:Shared}{l b:Addr}{xs ys zs:List V}
theorem Inv.lset {O its':List Value} (I:Inv X pins σ H s) (Y:H l=some (.lst xs))
  (e:s.heap.get? l=some {cls:=.type "list",data:=.seq O.toArray n}) (hf:f O.toArray=its'.toArray) (hv:Vals ys its') (hz:ys.length ≤ sizeLine) :
  Inv X pins σ (upd H l (.lst ys)) {s with heap:=s.heap.update l (Obj.mapSeq f),toks:=t'}:=by
 have q:=PySem.IsL.update e f;rw[hf] at q;refine I.write (by rw[Y];exact trivial) (.inl rfl) (λ b' u hb Z=>(jx s.heap (Obj.mapSeq f) (yi hb)).trans Z) ⟨_,q⟩ ?_;exact⟨hz,its',_,hv,q⟩
theorem Inv.lnew  (I:Inv X pins σ H s) (hv:Vals ys O) (hz:ys.length<=sizeLine) :
  Inv X pins σ (upd H s.heap.objs.size (.lst ys)) {s with heap:=s.heap.push {cls:=.type "list",data:=.seq O.toArray},toks:=t'} :=
 I.laid (λ _ _ q=>ql _ q) (qr _) ⟨hz,O,0,hv,qt _ rfl⟩
theorem Inv.fresh (I:Inv X pins σ H s):H s.heap.objs.size=none:=I.hok.fresh (qr _)
theorem Inv.lstM (I:Inv X pins σ H s) (Y:H l=some (.lst xs)):xs.length ≤ sizeLine ∧ ∃ (O:List Value) (n:Nat),Vals xs O ∧ xs.length=O.length ∧ s.heap.get? l=some {cls:=.type "list",data:=.seq O.toArray n}:=by obtain⟨z,O,n,r,e⟩:=I.hok l _ Y;exact⟨z,O,n,r,r.length,e⟩
theorem aI8  (h:n<=sizeLine):Builtin.List.listTooLong n=false:=by exact zn (by omega)
end
section
def aX5:V->List V->Hp->VK->Prop:=λ x vs H Q=>∃ l xs y,x=.ref l/\vs=[y]/\H l=some (.lst xs)/\xs.length<sizeLine/\Q .non (upd H l (.lst (xs++[y])))
theorem ax6:MtM X "list.append" aX5:=by intro pins s σ H x vs v us Q I Z rv h;obtain⟨l,xs,y,rfl,rfl,Y,hz,q⟩:=h;cases Z;obtain⟨u,rfl,ru⟩:=rv.one;obtain⟨z,O,n,r,hl,e⟩:=I.lstM Y;refine Zm F.slot_list_append ⟨_,e,rfl⟩ F.entry_list_append (F.args_list_append_2 _ _) (PySem.list_append l O.toArray n u (by rw[zf];omega)) ⟨e,?_⟩;refine⟨.non,_,I.lset Y e (by simp) (r.append (.cons ru .nil)) ?_,rfl,q⟩;rw[zh,zq];omega
def cx0:V->List V->Hp->VK->Prop:=λ x vs H Q=>∃ l xs y,x=.ref l/\vs=[]/\H l=some (.lst xs)/\xs[xs.length-1]?=some y/\Q y (upd H l (.lst xs.dropLast))
theorem bR5:MtM X "list.pop" cx0:=by
 intro pins s σ H x vs v us Q I rx rv h;obtain⟨l,xs,y,rfl,rfl,hH,hy,q⟩:=h;cases rx;have Z:=rv.zero;subst Z;obtain⟨z,O,n,r,hl,e⟩:=I.lstM hH;obtain⟨u,hu,ru⟩:=r.get hy;have Y:O.toArray[O.toArray.size-1]?=some u:=by show O.toArray[O.length-1]?=some u;rw[<- Q0,<- hl];exact hu
 refine Zm F.slot_list_pop ⟨_,e,rfl⟩ F.entry_list_pop (F.args_list_pop_1 _) (MeetsSeq.list_pop_last l O.toArray n u Y (by rw[zf];omega)) ⟨e,?_⟩;refine⟨y,_,I.lset (its':=O.dropLast) hH e ?_ r.dropLast ?_,ru,q⟩
 ·show O.toArray.eraseIdxIfInBounds (O.toArray.size-1)=O.dropLast.toArray;rw[zf,List.eraseIdxIfInBounds_toArray,aD1]
 ·rw[List.length_dropLast];omega
def cw9:R2:=λ x y H Q=>∃ l k xs,x=.ref l/\y=.int k/\H l=some (.lst xs)/\-(2 ^ 63)<=k/\k<2 ^ 63/\xs.length*k.toNat<=sizeLine /\
 ∀ p,H p=none->Q (.ref p) (upd H p (.lst (List.replicate k.toNat xs).flatten))
theorem bx2 {α:Type} (xs:List α) (k:Nat):(List.replicate k xs).flatten.length=k*xs.length:=by
 induction k with
 |zero=>simp
 |succ k O=>rw[y9,Qa,zh,O,Nat.succ_mul,Nat.add_comm]
theorem bN7:OpR X (binaryOp .Mult) cw9:=by
 intro pins s σ H x y v u Q I rx ry h;obtain⟨l,k,xs,rfl,rfl,hH,h1,h2,hz,q⟩:=h;cases rx;obtain⟨t,rfl⟩:=ry;obtain⟨z,O,n,r,hl,e⟩:=I.lstM hH;have ad:O.toArray.size*k.toNat<=sizeLine:=by rw[zf,<- hl];exact hz
 have ac:¬ O.toArray.size*k.toNat > (2 ^ 63-1) / 8:=by
  have:(sizeLine:Nat)<=(2 ^ 63-1) / 8:=by decide
  omega
 have aa:¬ (!Builtin.List.listFitsIndex k)=true:=by rw[fitsIndex_both h1 h2];exact zc
 have Y:¬ Builtin.List.listTooLong (O.toArray.size*k.toNat)=true:=by rw[aI8 ad];exact zc
 have Z:List.foldl (λ x1 x2=>x1++x2) #[] (List.replicate (if O.toArray.isEmpty=true then 0 else k.toNat) O.toArray)=(List.replicate k.toNat O).flatten.toArray:=by
  have f0:∀ m:Nat,List.foldl (λ x1 x2=>x1++x2) #[] (List.replicate m O.toArray)=(List.replicate m O).flatten.toArray:=λ m=>by
   have:=ao5 O m [];rw[Q6] at this;exact this
  rw[f0];cases O with
  |nil=>simp
  |cons a r'=>rw[if_neg (by simp)]
 refine wpAny_binaryOp_repeat_ref (T:="list") (U:="int") (by decide) ⟨_,e,rfl⟩ (λ s'=>typeIs_int s' k t) noFill_list_mul F.fills_int_mul F.slot_int_rmul repeat_list F.slot_int_index.lookup
  (Zm F.slot_int_rmul (typeIs_int s k t) F.entry_int_rmul (F.args_int_rmul_2 _ _) (int___rmul___int_list k t l O.toArray n)
   ⟨e,rfl,⟨_,e,rfl⟩,Zm F.slot_list_mul ⟨_,e,rfl⟩ F.entry_list_mul (F.args_list_mul_2 _ _) (AutoListH.list___mul___list_int_3 l O.toArray n k t aa ac Y) ⟨e,?_⟩⟩)
 rw[Z];exact⟨.ref _,_,I.lnew (t':=s.toks) (r.rep k.toNat) (by rw[bx2,Nat.mul_comm];exact hz),rfl,q _ I.fresh⟩
end
end L2
namespace Att
open PySem PySem.W PySem.Calls PyProof.Rows
theorem H_0 :∀ (ns:List Int) (vs:List Value),WellAll P h vs (ns.map WData.int)->IntsAre vs ns:=by
 intro ns;induction ns with
 |nil =>
  intro vs w;rw[jv] at w;cases w;exact .nil
 |cons n ns O =>
  intro vs w;rw[ze] at w;cases w with
  |cons a b =>
   cases a;exact .cons _ _ (O _ b)
theorem at4 {l:OpenLaw} (hn:l.most=some n) 
  (O:l.row.toRowW.claim.pre args=true) (ad:WellAll P h Y args) :
  ∃ a vs ns,Y=[Value.ref a] ∧ args=[WData.list (ns.map WData.int)] ∧ h.get? a=some {cls:=.type "list",data:=.seq vs.toArray} ∧ IntsAre vs ns ∧ ns.length ≤ n:=by
 have ac:=(pre_splitW O).1;have hc:l.pre.holds [] {args:=args}=true:=(pre_splitW O).2;obtain⟨d,r,rfl,h1,h2⟩:=hasAllW_cons ac;obtain rfl:=hasAllW_nil h2;obtain⟨xs,rfl,h3⟩:=hasW_list h1;obtain⟨ns,rfl⟩:=items_int h3;have Z:ns.length<=n:=by
  have h4:(WTm.not (.lt (.lit (.int (n:Int))) (.len (.arg 0)))).holds [] {args:=[.list (ns.map .int)]}=true:=by have h4:=(holds_andW hc).1;rw[hn] at h4;exact h4
  have h5:=condW_of h4 (w_not (w_lt w_lit (w_len_list (w_arg rfl))));rw[zd] at h5;refine jp λ q=>?_;have q':(n:Int)<((ns.length:Nat):Int):=by omega
  first
   |(rw[zu q'] at h5;exact absurd h5 (by decide))
   |(simp at h5;omega)
 cases ad with
 |cons w1 w2 =>
  cases w2;cases w1 with
  |list ho aa=>exact⟨_,_,ns,rfl,rfl,ho,H_0 ns _ aa,Z⟩
theorem av4 (l:OpenLaw) (args:List WData):l.row.toRowW.claim.post args (.bool true) args=true :=
 postW_of
  (show WShape.has [] (.bool true) .bool=true by first | rfl | decide | simp[WShape.has,WShape.arms,WShape.armsAll])
  (show (WTm.eq .res (.lit (.bool true))).value [] {args:=args,res:=some (.bool true),after:=args}=some (.bool (true==true)) from w_eq_bool (w_res rfl) w_lit) rfl
theorem attach_call {l:OpenLaw}
  (hn:l.most=some n) (ah:d.params.defaults=[])
  (call:∀ (w:World) (s₀ O:Shared) (mg mb:Str->Option Value) (fa:Addr) (o:Obj) (pm cd ac:Value) (a:Addr) (vs:List Value) (ns:List Int),
   Ground q Z [] XP w s₀ mg mb O.heap->YP w O.heap ->
   O.heap.get? fa=some o->o.data=.func (docDef d.name d.params d.body d.scope pm cd ac)->O.heap.CodeRec cd d.name->mg d.name=some (.ref fa) ->
   O.heap.get? a=some {cls:=.type "list",data:=.seq vs.toArray} → IntsAre vs ns → ns.length ≤ n → O.gens=#[] →
   codeAny (model l.prog w) callerA (.call (.ref fa) ⟨[.ref a],[]⟩) (λ r s'=>r=.ok (.ret (.bool true))/\OldK O.heap s'.heap/\s'.os=O.os/\AllBare s'.gens) O) :
  WalkO q Z XP YP l.row.toRowW d [] (λ f vs=>PySem.call f vs):=by
 intro w s₀ O mg mb G Y fa o pm cd ac dV kV ho hd ai hD ag hg args al as af ak am aj an;obtain rfl:dV=.none:=Dflts.none hD ah;obtain rfl:kV=.none:=Dflts.noKw hD;obtain⟨a,vs,ns,rfl,rfl,ad,aa,ae⟩:=at4 hn af aj;refine enter_call (ja (call w s₀ O mg mb fa o pm cd ac a vs ns G Y ho (fd_plain hd) ai ag ad aa ae hg) λ r s' hq=>?_);obtain⟨rfl,h2,h3,h4⟩:=hq;exact⟨.inl ⟨.bool true,.bool true,[],rfl,λ _=>rfl,.bool true,av4 l _,λ _=>⟨Yh,λ _ hm=>(nomatch hm)⟩⟩,h2,h3,h4⟩
end Att
namespace L2
open PySem PySem.Spec PyProof.Rows
theorem vals_ints:∀ {vs:List Value}{ns:List Int},IntsAre vs ns->Vals (ns.map V.int) vs
 |_,_,.nil=>.nil
 |_,_,.cons n t h=>.cons ⟨t,rfl⟩ (vals_ints h)
noncomputable def w_4 (s:Stmt):Arguments:=match s with
 |.FunctionDef _ a _ _ _ _ _ _ _ _=>a
 |_=>{posonlyargs:=[],args:=[],vararg:=none,kwonlyargs:=[],kw_defaults:=[],kwarg:=none,defaults:=[]}
noncomputable def k_2 (s:Stmt):List Stmt:=match s with
 |.FunctionDef _ _ b _ _ _ _ _ _ _=>b
 |_=>[]
noncomputable def a_2 (s:Stmt):Scope:=match s with
 |.FunctionDef _ _ _ _ _ _ sc _ _ _=>sc
 |_=>{kind:=.function,names:=[],isGenerator:=false,isCoroutine:=false}
abbrev CX0:CXT:=λ _ _ _ _ _ _=>False
abbrev E0:XK:=λ _ _ _=>False
theorem aI6 :W_4 CX0 X E0:=λ _ _ _ _ _ _ _ h=>h.elim
structure Fun (K:Frag) (x qual:Str) (st:Stmt) (f:Addr) (fd:FuncData):Prop where
 ex:∃ (oc:Value) (od:Option Addr) (kV doc pm:Value) (an:Option Addr) (cdv ct:Value) (osl:Array (Option Value)),
  fd=fnOf x qual (w_4 st) (k_2 st) (a_2 st) .none kV doc pm an cdv ct/\K.lookup f=some ⟨oc,od,.func fd,osl⟩/\codeIn K cdv qual=true
 kp:keepIn K (.ref f)=true
section
variable {K:Frag}
theorem Fun.ok {st:Stmt} (F:Fun K x qual st f fd) (S:FnScope N ps (a_2 st)) (len:∀ vs H Q E,sp vs H Q E->vs.length=ps.length)
  (Y:∀ (O:Value) (A:Around) (outer:List Env) (s:Shared) (H:Hp) (vs:List V) (Q:VK) (E:XK),Room k (A.deeper (envOfC qual (a_2 st) s.heap.objs.size f O))->sp vs H Q E ->
   ∃ t,PSs (R_5 CX0 P w K mg base N qual (a_2 st) f O A outer s H E).nox (k_2 st) t/\t {nx:=λ _ H'=>Q .non H',rt:=Q} (start N vs) H):FnOk P w K mg base CX0 (k+1) f fd ps sp:=by
 obtain⟨oc,od,kV,ad,pm,an,O,ct,ac,rfl,lk,Z⟩:=F.ex;refine bd1 lk Z S len λ A outer s H vs Q E hr aa=>?_;obtain⟨t,h,q⟩:=Y O A outer s H vs Q E hr aa;exact⟨t,h.nox,q⟩
theorem Fun.binds {st:Stmt} (F:Fun K x qual st f fd)
  (h:∀ (kV Y pm:Value) (Z:Option Addr) (O ct:Value) (us:List Value),us.length=ps.length->bindArgs (fnOf x qual (w_4 st) (k_2 st) (a_2 st) .none kV Y pm Z O ct) ⟨us,[]⟩=pure (ps.zip us)):Binds K fd ps []:=by
 obtain⟨oc,od,kV,Y,pm,Z,O,ct,ac,rfl,lk,aa⟩:=F.ex;exact .all (h kV Y pm Z O ct)
theorem d_4 {st:Stmt}{kV Y pm O ct:Value} (l:K.lookup f=some ⟨oc,od,.func (fnOf x qual (w_4 st) (k_2 st) (a_2 st) .none kV Y pm an O ct),Z⟩)
  (c:codeIn K O qual=true) (k:keepIn K (.ref f)=true):Fun K x qual st f (fnOf x qual (w_4 st) (k_2 st) (a_2 st) .none kV Y pm an O ct):=⟨⟨oc,od,kV,Y,pm,an,O,ct,Z,rfl,l,c⟩,k⟩
end
theorem o_7  (O:Room k A):A.units+1<cLine:=Yc (Nat.add_le_add_left (by decide:1<=64) _) O.units
theorem F_1  (h:n<=1000):n<sizeLine:=Yc h (by decide)
section
theorem pv (i:Nat)  (hN:X.N[i]?=some x:=by rfl) (hv:Vis X.env.scope x:=by first | exact Or.inl rfl | exact Or.inr (Or.inl rfl) | exact Or.inr (Or.inr rfl)) (hd:(x==("__debug__":Str))=false:=by decide)
  (O:(x==("__classdict__":Str))=false:=by decide):PE X (.Name x pos) (bN2 i):=i_4 hN hv hd O
end
theorem cs9 {A B:Prop} (h:B):if false=true then A else B:=by rw[if_neg zc];exact h
theorem cb7 {A B:Prop} (h:A):if true=true then A else B:=by rw[if_pos rfl];exact h
def Same (H H':Hp):Prop:=∀ b o,H b=some o->H' b=some o
theorem Same.refl (H:Hp):Same H H:=λ _ _ h=>h
theorem Same.trans  (a:Same H H1) (b:Same H1 H2):Same H H2:=λ c o h=>b c o (a c o h)
theorem Same.free  (e:Same H H')  (h:H' l=Option.none):H l=Option.none:=by
 cases q:H l with
 |none=>rfl
 |some o =>
  rw[e l o q] at h;cases h
theorem Same.seq {K:Frag} (e:Same H H') (h:SqL K H a xs):SqL K H' a xs:=by
 rcases h with (h | ⟨o,h⟩) | h
 ·exact .inl (.inl (e _ _ h))
 ·exact .inl (.inr ⟨o,e _ _ h⟩)
 ·exact .inr h
section
variable [DecidableEq κ]
noncomputable def valV (kvs:List (κ×V)) (k:κ):Option V:=(kvs.find? λ O=>decide (O.1=k)).map (·.2)
noncomputable def I_7 (kvs:List (κ×V)) (k:κ) (v:V):List (κ×V) :=
 if (kvs.any λ O=>decide (O.1=k))=true then kvs.map (λ O=>if O.1=k then (O.1,v) else O) else kvs++[(k,v)]
theorem D_5 {k:κ} (e:p.1=k):valV (p::r) k=some p.2:=by simp[valV,e]
theorem w_8 {k:κ} (e:¬ p.1=k):valV (p::r) k=valV r k:=by simp[valV,e]
theorem w_9 (k:κ):∀ kvs:List (κ×V),(kvs.any λ O=>decide (O.1=k))=(valV kvs k).isSome
 |[]=>rfl
 |p::r=>by
  rw[Qm];by_cases e:p.1=k
  ·simp only[D_5 e,zu e,Bool.true_or,Option.isSome_some]
  ·rw[w_8 e,zn e,Bool.false_or];exact w_9 k r
theorem at9 (k j:κ) (y:V):∀ kvs:List (κ×V),valV (kvs.map λ O=>if O.1=k then (O.1,y) else O) j=(valV kvs j).map λ x=>if j=k then y else x
 |[]=>rfl
 |p::r=>by
  have Y:=at9 k j y r;rw[ze];by_cases h:p.1=k
  ·rw[if_pos h];by_cases e:p.1=j
   ·rw[D_5 (p:=(p.1,y)) e,D_5 e,Zr,if_pos (e.symm.trans h)]
   ·rw[w_8 (p:=(p.1,y)) e,w_8 e,Y]
  ·rw[if_neg h];by_cases e:p.1=j
   ·rw[D_5 (p:=p) e,D_5 e,Zr,if_neg (λ z=>h (e.trans z))]
   ·rw[w_8 (p:=p) e,w_8 e,Y]
theorem aj1 (k j:κ) (y:V):∀ kvs:List (κ×V),valV kvs k=none->valV (kvs++[(k,y)]) j=if j=k then some y else valV kvs j
 |[],_=>by
  by_cases e:k=j
  ·rw[if_pos e.symm];exact D_5 (p:=(k,y)) e
  ·rw[if_neg (λ z=>e z.symm)];exact w_8 (p:=(k,y)) e
 |p::r,hn=>by
  rw[jr];have hk:¬ p.1=k:=λ z=>by rw[D_5 z] at hn;cases hn
  rw[w_8 hk] at hn;have O:=aj1 k j y r hn;by_cases e:p.1=j
  ·rw[D_5 e,D_5 e,if_neg (λ z=>hk (e.trans z))]
  ·rw[w_8 e,w_8 e,O]
theorem aU1 (kvs:List (κ×V)) (k j:κ) (y:V):valV (I_7 kvs k y) j=if j=k then some y else valV kvs j:=by
 unfold I_7;by_cases a:(kvs.any λ O=>decide (O.1=k))=true
 ·rw[if_pos a,at9];rw[w_9] at a;by_cases e:j=k
  ·obtain⟨x,Y⟩:=Option.isSome_iff_exists.mp a;rw[if_pos e,e,Y,Zr,if_pos rfl]
  ·rw[if_neg e];cases valV kvs j with
   |none=>rfl
   |some x=>rw[Zr,if_neg e]
 ·rw[if_neg a];refine aj1 k j y kvs ?_;rw[w_9] at a;cases q:valV kvs k with
  |none=>rfl
  |some x=>rw[q] at a;exact (a rfl).elim
theorem w_0 (kvs:List (κ×V)) (k:κ) (v:V):(I_7 kvs k v).length<=kvs.length+1:=by
 unfold I_7;split
 ·rw[zd];omega
 ·rw[zh,zi,Qn];omega
theorem aH7 {k:κ} (v:V) (h:valV kvs k=none):I_7 kvs k v=kvs++[(k,v)]:=by unfold I_7;rw[w_9,h];exact if_neg (by decide)
theorem RelO.isSome_eq  (r:RelO o u):o.isSome=u.isSome:=by
 cases o with
 |none=>cases u with
  |none=>rfl
  |some _=>exact (show False from r).elim
 |some _=>cases u with
  |none=>exact (show False from r).elim
  |some _=>rfl
theorem RelO.getD  (r:RelO o u) (rd:RelV d d'):RelV (o.getD d) (u.getD d'):=by
 cases o with
 |none=>cases u with
  |none=>exact rd
  |some _=>exact (show False from r).elim
 |some _=>cases u with
  |none=>exact (show False from r).elim
  |some _=>exact r
theorem KV.val  (r:KV kvs vs) (k:κ):RelO (valV kvs k) (valueAt vs k):=by
 induction r with
 |nil=>exact Qb
 |@cons p q ps qs h t Y =>
  obtain⟨h1,h2⟩:=h;by_cases e:p.1=k
  ·have O:=h1.symm.trans e;have b:valueAt (q::qs) k=some q.2:=by simp[valueAt,O]
   rw[D_5 e,b];exact h2
  ·have O:¬ q.1=k:=λ z=>e (h1.trans z);have b:valueAt (q::qs) k=valueAt qs k:=by simp[valueAt,O]
   rw[w_8 e,b];exact Y
theorem KV.any  (r:KV kvs vs) (k:κ):(kvs.any λ O=>decide (O.1=k))=vs.any λ O=>decide (O.1=k):=by
 induction r with
 |nil=>rfl
 |cons h t Y=>rw[Qm,Qm,Y,h.1]
theorem KV.repl  (r:KV kvs vs) (k:κ)  (Y:RelV y u) :
  KV (kvs.map λ O=>if O.1=k then (O.1,y) else O) (vs.map λ O=>if O.1=k then (O.1,u) else O):=by
 induction r with
 |nil=>exact .nil
 |@cons p q ps qs h t Z =>
  rw[ze,ze];refine .cons ?_ Z;obtain⟨h1,h2⟩:=h;by_cases e:p.1=k
  ·rw[if_pos e,if_pos (h1.symm.trans e)];exact⟨h1,Y⟩
  ·rw[if_neg e,if_neg (λ z=>e (h1.trans z))];exact⟨h1,h2⟩
theorem KV.put  (r:KV kvs vs) (k:κ)  (O:RelV y u):KV (I_7 kvs k y) (stored vs k u):=by
 unfold I_7 stored;rw[r.any k];by_cases e:(vs.any λ Y=>decide (Y.1=k))=true
 ·rw[if_pos e,if_pos e];exact r.repl k O
 ·rw[if_neg e,if_neg e];exact Paired.snoc r ⟨rfl,O⟩
theorem KV.keys {kvs:List (κ×V)} (r:KV kvs vs):kvs.map (·.1)=vs.map (·.1):=by
 induction r with
 |nil=>rfl
 |cons h t O=>rw[ze,ze,O,h.1]
theorem KV.length  (r:KV kvs vs):kvs.length=vs.length:=Ya r
end
theorem ap2  (r:RelV (kV k) u):(g_3 P w).is k u=true:=by
 cases k with
 |inl i=>obtain⟨t,e⟩:=(show ∃ t,u=Value.int i t from r);subst e;exact ac4 P w i t
 |inr x=>obtain⟨t,e⟩:=(show ∃ t,u=Value.str x t from r);subst e;exact ac3 P w x t
theorem X_2 :∀ {ks:List Key}{us:List Value},Vals (ks.map kV) us->ItemsAre (g_3 P w) ks us
 |[],_,r=>by rw[jv] at r;cases r;exact .nil
 |k::ks,_,r=>by
  rw[ze] at r;cases r with
  |cons h t=>exact .cons (ap2 h) (X_2 t)
abbrev KT (H:Hp):List (List Key×V)->List (List Key×Addr×Value)->Prop:=Paired λ p q=>p.1=q.1/\H q.2.1=some (.tup (p.1.map kV))/\RelV p.2 q.2.2
theorem KT.val  (r:KT H kvs xs) (k:List Key):RelO (valV kvs k) ((atKey xs k).map (·.2)):=by
 induction r with
 |nil=>exact Qb
 |@cons p q ps qs h t Y =>
  obtain⟨h1,_,h2⟩:=h;by_cases e:p.1=k
  ·have O:=h1.symm.trans e;have b:atKey (q::qs) k=some q.2:=by simp[atKey,O]
   rw[D_5 e,b];exact h2
  ·have O:¬ q.1=k:=λ z=>e (h1.trans z);have b:atKey (q::qs) k=atKey qs k:=by simp[atKey,O]
   rw[w_8 e,b];exact Y
theorem KT.repl  (r:KT H kvs xs) (k:List Key)  (Y:RelV y u) :
  KT H (kvs.map λ O=>if O.1=k then (O.1,y) else O) (xs.map (putAt k u)):=by
 induction r with
 |nil=>exact .nil
 |@cons p q ps qs h t ih =>
  rw[ze,ze];refine .cons ?_ ih;obtain⟨h1,h2,Z⟩:=h;unfold putAt;by_cases e:p.1=k
  ·rw[if_pos e,if_pos (h1.symm.trans e)];exact⟨h1,h2,Y⟩
  ·rw[if_neg e,if_neg (λ z=>e (h1.trans z))];exact⟨h1,h2,Z⟩
theorem KT.put  (r:KT H kvs xs) (k:List Key)  (hb:H b=some (.tup (k.map kV))) (O:RelV y u) :
  KT H (I_7 kvs k y) (storedH xs k b u):=by
 have e:(kvs.any λ Y=>decide (Y.1=k))=(atKey xs k).isSome:=by rw[w_9,(r.val k).isSome_eq,Yd]
 unfold I_7 storedH;rw[e];by_cases q:(atKey xs k).isSome=true
 ·rw[if_pos q,if_pos q];exact r.repl k O
 ·rw[if_neg q,if_neg q];exact Paired.snoc r ⟨rfl,hb,O⟩
theorem KT.keeps  (r:KT H kvs xs) (O:∀ b ys,H b=some (.tup ys)->H' b=some (.tup ys)):KT H' kvs xs :=
 Paired.mapP r λ _ _ z=>⟨z.1,O _ _ z.2.1,z.2.2⟩
section
theorem bm0  (ok:HOk P w H h) (e:Rd H a u):ObjOk P w H h a u:=e.ok ok
theorem aM2  (ok:HOk P w H h) (e:Rd H a (.dK kvs)):kvs.length<=sizeLine/\(a==sysModules)=false/\∃ vs,KV kvs vs/\h.DictOf (g_3 P w) a vs :=
 show ObjOk P w H h a (.dK kvs) from bm0 ok e
theorem bu7  (ok:HOk P w H h) (e:H a=some (.dK kvs)):kvs.length<=sizeLine/\(a==sysModules)=false/\∃ vs,KV kvs vs/\h.DictOf (g_3 P w) a vs:=aM2 ok (.inl e)
theorem aj5  (ok:HOk P w H h) (e:H a=some (.tup (ks.map kV))):(tupleKind (g_3 P w)).is h ks a:=by obtain⟨_,O,r,o,h1,h2,⟨n,Y⟩,_⟩:=(show ObjOk P w H h a (.tup (ks.map kV)) from ok a _ e);exact⟨o,O.toArray,n,h1,h2,Y,by simpa using X_2 r⟩
theorem aM0  (ok:HOk P w H h) (e:Rd H a (.dT kvs)):kvs.length<=sizeLine/\(a==sysModules)=false /\
  ∃ xs,KT H kvs xs/\h.DictOfH (tupleKind (g_3 P w)) a xs:=by
 obtain⟨z,y,xs,r,o,es,ep,h1,h2,Z,h4,h5⟩:=(show ObjOk P w H h a (.dT kvs) from bm0 ok e);refine⟨z,y,xs,r,o,es,ep,h1,h2,Z,h4,λ x O=>?_,h5⟩;have all:∀ {l:List (List Key×V)}{m:List (List Key×Addr×Value)},KT H l m->∀ x∈m,(tupleKind (g_3 P w)).is h x.1 x.2.1:=by
  intro l m q;induction q with
  |nil=>intro x O;exact nomatch O
  |@cons p q ps qs Y t ih =>
   intro x O;rcases qz O with e | O
   ·subst e;exact aj5 ok (by rw[<- Y.1];exact Y.2.1)
   ·exact ih x O
 exact all r x O
theorem bK9  (ok:HOk P w H h) (e:H a=some (.dT kvs)):kvs.length<=sizeLine/\(a==sysModules)=false /\
  ∃ xs,KT H kvs xs/\h.DictOfH (tupleKind (g_3 P w)) a xs:=aM0 ok (.inl e)
end
def DGet (H:Hp) (a:Addr) (y:V) (r:Option V):Prop :=
 (∃ kvs k,Rd H a (.dK kvs)/\y=kV k/\r=valV kvs k)\/∃ kvs k b,Rd H a (.dT kvs)/\y=.ref b/\H b=some (.tup (k.map kV))/\r=valV kvs k
def DPut (H:Hp) (a:Addr) (y v:V) (H':Hp):Prop :=
 (∃ kvs k,H a=some (.dK kvs)/\y=kV k/\kvs.length<sizeLine/\H'=upd H a (.dK (I_7 kvs k v))) \/
 ∃ kvs k b,H a=some (.dT kvs)/\y=.ref b/\H b=some (.tup (k.map kV))/\kvs.length<sizeLine/\H'=upd H a (.dT (I_7 kvs k v))
theorem DGet.k {H:Hp}{a:Addr}{kvs:List (Key×V)}{k:Key} (e:H a=some (.dK kvs)):DGet H a (kV k) (valV kvs k):=.inl ⟨kvs,k,.inl e,rfl,rfl⟩
theorem DGet.t {k:List Key} (e:H a=some (.dT kvs)) (O:H b=some (.tup (k.map kV))):DGet H a (.ref b) (valV kvs k):=.inr ⟨kvs,k,b,.inl e,rfl,O,rfl⟩
theorem DPut.k {H:Hp}{a:Addr}{kvs:List (Key×V)}{k:Key}{v:V} (e:H a=some (.dK kvs)) (hl:kvs.length<sizeLine):DPut H a (kV k) v (upd H a (.dK (I_7 kvs k v))):=.inl ⟨kvs,k,e,rfl,hl,rfl⟩
theorem DPut.t {k:List Key} (e:H a=some (.dT kvs)) (O:H b=some (.tup (k.map kV))) (hl:kvs.length<sizeLine) :
  DPut H a (.ref b) v (upd H a (.dT (I_7 kvs k v))):=.inr ⟨kvs,k,b,e,rfl,O,hl,rfl⟩
section
variable {X:Cx}{pins:List (Addr×Obj)}{σ:St}{H:Hp}{s:Shared}{a:Addr}{y v:V}{u r:Value}{o:Option V}{A:Around}{E:Value->Shared->Prop}
theorem Inv.big (I:Inv X pins σ H s):sysModules<s.heap.objs.size:=by have h:=(I.mod.glob.keeps I.bk).lt;exact Nat.lt_trans (by decide) h
theorem aC6  (hu:A.units+1<cLine) (I:Inv X pins σ H s) (g:DGet H a y (some v)) (ry:RelV y u) (h:∀ Z s',Inv X pins σ H s'->RelV v Z->Q Z s') :
  wpAny (model X.prog X.w) A (getItem (.ref a) u) Q E s:=by
 rcases g with ⟨kvs,k,e,ey,l⟩ | ⟨kvs,k,b,e,ey,eb,l⟩
 ·subst ey;obtain⟨z,hd,vs,Y,dd⟩:=aM2 I.hok e;obtain⟨Z,hw,O⟩:=RelO.some_of (by rw[l];exact Y.val k);exact wpAny_getItem_of (ap2 ry) dd.mapOf hw (h Z _ (I.tok _) O)
 ·subst ey;cases (show u=Value.ref b from ry);obtain⟨z,hd,xs,Y,dd⟩:=aM0 I.hok e;obtain⟨Z,hw,O⟩:=RelO.some_of (by rw[l];exact Y.val k);obtain⟨p,hp,aa⟩:=Option.map_eq_some_iff.mp hw;refine wpAny_getItem_heap (ju hu) (aj5 I.hok eb) dd hp ?_;rw[aa];exact h Z _ (I.tok _) O
theorem cy6 {Q:Value->Shared->Prop} (Z:A.units+1<cLine) (I:Inv X pins σ H s) (g:DGet H a y o) (Y:RelV y u) (h:∀ s',Inv X pins σ H s'->Q (.bool o.isSome) s') :
  wpAny (model X.prog X.w) A (compareOp .In u (.ref a)) Q E s:=by
 rcases g with ⟨kvs,k,e,ey,l⟩ | ⟨kvs,k,b,e,ey,eb,l⟩
 ·subst ey;obtain⟨z,hd,vs,O,dd⟩:=aM2 I.hok e;refine wpAny_in_of (ap2 Y) hd dd.mapOf ?_;rw[<- (O.val k).isSome_eq,<- l];exact h _ (I.tok _)
 ·subst ey;cases (show u=Value.ref b from Y);obtain⟨z,hd,xs,O,dd⟩:=aM0 I.hok e;refine wpAny_in_heap (ju Z) (aj5 I.hok eb) hd dd ?_;have q:=(O.val k).isSome_eq;rw[Yd] at q;rw[<- q,<- l];exact h _ (I.tok _)
theorem bf7  (Z:A.units+1<cLine) (I:Inv X pins σ H s) (g:DGet H a y o) (Y:RelV y u) (h:∀ s',Inv X pins σ H s'->Q (.bool (!o.isSome)) s') :
  wpAny (model X.prog X.w) A (compareOp .NotIn u (.ref a)) Q E s:=by
 rcases g with ⟨kvs,k,e,ey,l⟩ | ⟨kvs,k,b,e,ey,eb,l⟩
 ·subst ey;obtain⟨z,hd,vs,O,dd⟩:=aM2 I.hok e;refine wpAny_notIn_of (ap2 Y) hd dd.mapOf ?_;rw[<- (O.val k).isSome_eq,<- l];exact h _ (I.tok _)
 ·subst ey;cases (show u=Value.ref b from Y);obtain⟨z,hd,xs,O,dd⟩:=aM0 I.hok e;refine wpAny_notIn_heap (ju Z) (aj5 I.hok eb) hd dd ?_;have q:=(O.val k).isSome_eq;rw[Yd] at q;rw[<- q,<- l];exact h _ (I.tok _)
theorem ae5  (I:Inv X pins σ H s) (Y:Mut (H a)) (hs:Heap.SameBut a s.heap h') (O:∃ q,h'.get? a=some q) (new:ObjOk X.prog X.w (upd H a ob) h' a ob) :
  Inv X pins σ (upd H a ob) {s with heap:=h',toks:=t'} :=
 I.write Y (.inl rfl) (λ b q hb z=>(hs.2 b hb).trans z) O new
theorem aC3  (z:kvs.length<=sizeLine) (hd:(a==sysModules)=false) (O:KV kvs vs) (dd:h'.DictOf (g_3 P w) a vs) :
  ObjOk P w H' h' a (.dK kvs):=⟨z,hd,vs,O,dd⟩
theorem aC5  (hu:A.units+1<cLine) (I:Inv X pins σ H s) (g:DPut H a y v H') (ry:RelV y u) (rv:RelV v r) (h:∀ s',Inv X pins σ H' s'->Q () s') :
  wpAny (model X.prog X.w) A (setItem (.ref a) u r) Q E s:=by
 rcases g with ⟨kvs,k,e,ey,l,eH⟩ | ⟨kvs,k,b,e,ey,eb,l,eH⟩
 ·subst ey eH;obtain⟨z,hd,vs,O,dd⟩:=bu7 I.hok e;have hz:vs.length<=sizeLine:=by rw[<- O.length];exact z
  have hl:(I_7 kvs k v).length<=sizeLine:=by have:=w_0 kvs k v;omega
  refine wpAny_setItem_pairs (ap2 ry) dd λ h' Y hs=>h _ ?_;have he:∃ q,h'.get? a=some q:=let ⟨q,_,_,Z,_⟩:=Y;⟨q,Z⟩;exact ae5 I (by rw[e];exact Qb) hs he (aC3 hl hd (O.put k rv) Y)
 ·subst ey eH;cases (show u=Value.ref b from ry);obtain⟨z,hd,xs,O,dd⟩:=bK9 I.hok e;have hz:xs.length<=sizeLine:=by rw[<- Ya O];exact z
  have hl:(I_7 kvs k v).length<=sizeLine:=by have:=w_0 kvs k v;omega
  refine wpAny_setItem_heap (ju hu) (aj5 I.hok eb) dd λ h' Y hs=>h _ ?_;obtain⟨q,es,ep,Z,h2,h3,h4,_,h5⟩:=Y;refine ae5 I (by rw[e];exact Qb) hs ⟨q,Z⟩ ⟨hl,hd,_,(O.put k eb rv).keeps λ c ys ec=>?_,q,es,ep,Z,h2,h3,h4,h5⟩;rw[b_2 (ne_of ec e (λ z=>nomatch z))];exact ec
end
def bM5 (i:Expr):Prop:=∀ Y O,subscripted i false Y O=operate [Y,O] (getItem Y O)
theorem aV9 {T id:String}
  (hl:typeLookup (.type T) "__getitem__"=pure (some (.builtin id))) (hs:bM5 O)
  (h:wpAny (model prog w) A (eval value env) (λ o ac=>wpAny (model prog w) A (eval O env) (λ i Y=>Y.TypeIs o T/\wpAny (model prog w) A (getItem o i) Q E Y) E ac) E s) :
  wpAny (model prog w) A (eval (.Subscript value O pos) env) Q E s:=by
 refine Subscript_ (zv h (λ o ac ae=>zv ae (λ i Y Z=>?_) λ _ _ x=>x) λ _ _ x=>x);obtain⟨hT,Z⟩:=Z;refine qj ?_;rw[getitemInPython_of_ne hT.not_modules];refine qj (wpAny_specialOf hT hl ?_);have fin:wpAny (model prog w) A (subscripted O false o i) (λ r aa=>wpAny (model prog w) A (letTemporaryGo value o r >>= λ _=>pure r) Q E aa) E Y:=by rw[hs o i];exact wpAny_operating (zv Z (λ r aa ad=>qj (wpAny_letTemporaryGo (qk ad))) λ _ _ x=>x)
 first
  |exact qk (qj fin)
  |exact qj (qk (qj fin))
  |exact qj fin
theorem ae4  (I:Inv X pins σ H s) (g:DGet H a y o):s.TypeIs (.ref a) "dict":=by
 rcases g with ⟨kvs,k,e,_,_⟩ | ⟨kvs,k,b,e,_,_,_⟩
 ·obtain⟨_,_,vs,_,dd⟩:=aM2 I.hok e;exact dd.typeIs
 ·obtain⟨_,_,xs,_,dd⟩:=aM0 I.hok e;exact dd.typeIs
def bB5 (td ty:TE):TE:=λ σ H Q=>td σ H λ x H1=>ty σ H1 λ y H2=>∃ a v,x=.ref a/\DGet H2 a y (some v)/\Q v H2
def bE1 (td ty tv:TE):TS:=λ D σ H=>tv σ H λ v H1=>td σ H1 λ x H2=>ty σ H2 λ y Y=>∃ a O,x=.ref a/\DPut Y a y v O/\D.nx σ O
section
theorem aw1 (hu:X.A.units+1<cLine) (ho:PE X o td) (hi:PE X i ty) (hs:bM5 i):PE X (.Subscript o i pos) (bB5 td ty):=by intro pins s σ H Q I h;refine aV9 PySem.F.slot_dict_getitem.lookup hs (thn (ho pins s σ H _ I h) λ u s1 ⟨x,H1,I1,rx,q1⟩=>thn (hi pins s1 σ H1 _ I1 q1) λ iv s2 O=>?_);obtain⟨y,H2,Z,ry,a,v,ex,g,q2⟩:=O;subst ex;obtain rfl:u=Value.ref a:=rx;exact⟨ae4 Z g,aC6 hu Z g ry λ w' s3 I3 Y=>⟨v,H2,I3,Y,q2⟩⟩
theorem aY3 (Z:X.A.units+1<cLine) (ho:PE X o td) (hi:PE X i ty) (hv:PE X value tv) (hs:swapsWith value (some (.Subscript o i pos')) pos.line X.env=pure false) :
  PS X (.Assign [.Subscript o i pos'] value pos) (bE1 td ty tv):=by
 intro pins s σ H D I h;refine wpAny_Assign_Subscript (thn (hv pins s σ H _ I h) λ r s1 ⟨v,H1,I1,rv,q1⟩=>thn (ho pins s1 σ H1 _ I1 q1) λ u Y ⟨x,H2,I2,rx,q2⟩=>thn (hi pins Y σ H2 _ I2 q2) λ iv s3 O=>?_) hs;obtain⟨y,H3,I3,ry,a,H4,ex,g,q3⟩:=O;subst ex;obtain rfl:u=Value.ref a:=rx;exact aC5 Z I3 g ry rv λ s4 I4=>⟨σ,H4,I4,q3⟩
end
theorem aM3  (h:Heap) (hb:sysModules<h.objs.size):ObjOk P w H (h.push {cls:=.type "dict",data:=.dict #[]}) h.objs.size (.dK []) :=
 ⟨zx _,beq_eq_false_iff_ne.mpr (yi (qy hb)),[],.nil,Heap.DictOf.new h⟩
def bJ3:TE:=λ _ H Q=>∀ p,H p=none->Q (.ref p) (upd H p (.dK []))
section
variable {X:Cx}{pos:Pos}
theorem aw5:PE X (.Dict [] [] pos) bJ3:=λ pins s σ H Q I h =>
 wpAny_Dict_empty ⟨.ref s.heap.objs.size,_,I.laid (a:=s.heap.objs.size) (o:=.dK []) (t':=s.toks) (λ _ _ q=>ql _ q) (qr _) (aM3 s.heap I.big),rfl,h _ (I.hok.fresh (qr _))⟩
end
def ag1:List (TE×TE)->St->Hp->(List (V×V)->Hp->Prop)->Prop
 |[],_,H,Q=>Q [] H
 |(tk,tv)::r,σ,H,Q=>tk σ H λ x H1=>tv σ H1 λ y H2=>ag1 r σ H2 λ ps O=>Q ((x,y)::ps) O
abbrev VV:List (V×V)->List (Value×Value)->Prop:=Paired λ p q=>RelV p.1 q.1/\RelV p.2 q.2
def PPs (X:Cx) (pos:Pos) (keys:List (Option Expr)) (O:List Expr) (Y:List (TE×TE)):Prop :=
 ∀ (pins:List (Addr×Obj)) (s:Shared) (σ:St) (H:Hp) (Q:List (V×V)->Hp->Prop),Inv X pins σ H s->ag1 Y σ H Q ->
  wpAny (model X.prog X.w) X.A (evalPairs (pairTrees keys O X.env pos)) (λ vs s'=>∃ ps H',Inv X pins σ H' s'/\VV ps vs/\Q ps H') X.xe s
theorem aY4 :PPs X pos [] [] []:=λ pins s σ H Q I h=>pairTrees_nil_walk ⟨[],H,I,.nil,h⟩
theorem aI1  (hk:PE X k tk) (hv:PE X v tv) (hr:PPs X pos ks vs O) :
  PPs X pos (some k::ks) (v::vs) ((tk,tv)::O):=λ pins s σ H Q I h =>
 pairTrees_cons_walk (thn (hk pins s σ H _ I h) λ u s1 ⟨x,H1,I1,rx,q1⟩=>thn (hv pins s1 σ H1 _ I1 q1) λ w2 Z ⟨y,H2,I2,ry,q2⟩ =>
  thn (hr pins Z σ H2 _ I2 q2) λ ws s3 ⟨ps,H3,I3,Y,q3⟩=>⟨(x,y)::ps,H3,I3,.cons ⟨rx,ry⟩ Y,q3⟩)
def B_7 (kvs more:List (Key×V)):List (Key×V):=more.foldl (λ O Y=>I_7 O Y.1 Y.2) kvs
theorem KV.merge:∀ {more:List (Key×V)}{O:List (Key×Value)}{kvs:List (Key×V)}{vs:List (Key×Value)},KV more O->KV kvs vs->KV (B_7 kvs more) (merged vs O):=by
 intro more O kvs vs r;induction r generalizing kvs vs with
 |nil=>intro q;exact q
 |@cons p q ps qs h t Z =>
  intro Y;have e:KV (I_7 kvs p.1 p.2) (stored vs q.1 q.2):=by have:=Y.put p.1 h.2;rw[<- h.1];exact this
  exact Z e
theorem y_6:∀ (more kvs:List (Key×V)),(B_7 kvs more).length<=kvs.length+more.length
 |[],kvs=>by show kvs.length<=kvs.length+0;omega
 |p::r,kvs=>by
  have h1:=y_6 r (I_7 kvs p.1 p.2);have h2:=w_0 kvs p.1 p.2;show (B_7 (I_7 kvs p.1 p.2) r).length<=_;rw[zi];omega
theorem L_8 :∀ {kvs:List (Key×V)}{Z:List (Value×Value)},VV (kvs.map λ Y=>(kV Y.1,Y.2)) Z->∃ O,Carries (g_3 P w) Z O/\KV kvs O
 |[],_,r=>by rw[jv] at r;cases r;exact⟨[],Qb,.nil⟩
 |p::kvs,_,r=>by
  rw[ze] at r;cases r with
  |@cons a b as bs h t =>
   obtain⟨O,c,q⟩:=L_8 t;obtain⟨b1,b2⟩:=b;exact⟨(p.1,b2)::O,⟨ap2 h.1,rfl,c⟩,.cons ⟨rfl,h.2⟩ q⟩
def bB4 (O:List (TE×TE)):TE:=λ σ H Q=>∀ p,H p=none->ag1 O σ (upd H p (.dK [])) λ ps H2=>H2 p=some (.dK [])/\∃ kvs:List (Key×V),ps=kvs.map (λ Y=>(kV Y.1,Y.2))/\kvs.length<=15/\Q (.ref p) (upd H2 p (.dK (B_7 [] kvs)))
theorem aZ0  (h:PPs X pos keys O ac) (Y:keys.all (·.isSome)=true) (hl:keys.length=O.length) (h0:keys≠[])
  (ae:keys.length<=15):PE X (.Dict keys O pos) (bB4 ac):=by
 intro pins s σ H Q I q;have hn:=I.hok.fresh (qr s.heap.objs.size);have I1:=I.laid (t':=s.toks) (λ _ _ q=>ql _ q) (qr _) (aM3 s.heap I.big);refine wpAny_Dict_walk (knd:=g_3 X.prog X.w) Y hl h0 ae (thn (h pins _ σ _ _ I1 (q _ hn)) λ ws s2 aa=>?_);obtain⟨ps,H2,I2,ad,e,kvs,ep,lk,q2⟩:=aa;subst ep;obtain⟨rs,c,rk⟩:=L_8 ad;obtain⟨z,hd,af,r0,dd⟩:=bu7 I2.hok e;cases r0;refine⟨rs,c,dd,λ h' Z hs=>⟨.ref s.heap.objs.size,_,?_,rfl,q2⟩⟩;have hz:(B_7 [] kvs).length<=sizeLine:=by have h1:=y_6 kvs [];rw[Qn] at h1;rw[Z0];omega
 have he:∃ q,h'.get? s.heap.objs.size=some q:=let ⟨q,_,_,hq,_⟩:=Z;⟨q,hq⟩;exact ae5 I2 (by rw[e];exact Qb) hs he (aC3 hz hd (rk.merge .nil) Z)
structure M1 (X:Cx) (o:Expr) (m:Str) (apos:Pos) (e:Expr) (cpos:Pos):Prop where
 base:attributeBase o m X.env (eval o X.env)=eval o X.env
 few:((backTo cpos (starEach [e] X.env)).all (λ x=>!x.1)&&(backToKw cpos (keywordEach [] X.env)).all (λ x=>x.1.isSome)
  && decide (([e]:List Expr).length+([]:List Keyword).length+(if ([]:List Keyword).isEmpty then 0 else 1)<30))=true
 line:(apos.endLine==cpos.line)=true
 trees:backTo cpos (starEach [e] X.env)=[(false,eval e X.env)]
def IsD (H:Hp) (a:Addr):Prop:=(∃ kvs,Rd H a (.dK kvs))\/∃ kvs,Rd H a (.dT kvs)
theorem bV3 {X:Cx}{pins:List (Addr×Obj)}{σ:St}{H:Hp}{s:Shared}{a:Addr} (I:Inv X pins σ H s) (d:IsD H a) :
  s.TypeIs (.ref a) "dict" ∧ (∀ b,Value.ref a=.ref b → ∃ ob,s.heap.get? b=some ob ∧ ob.dict=none) ∧ (a==sysModules)=false:=by
 rcases d with ⟨kvs,e⟩ | ⟨kvs,e⟩
 ·obtain⟨_,hd,vs,_,dd⟩:=aM2 I.hok e;refine⟨dd.typeIs,λ b q=>?_,hd⟩;cases q;obtain⟨ob,_,_,h1,h2,_⟩:=dd;exact⟨ob,h1,h2.2.1⟩
 ·obtain⟨_,hd,xs,_,dd⟩:=aM0 I.hok e;refine⟨dd.typeIs,λ b q=>?_,hd⟩;cases q;obtain⟨ob,_,_,h1,h2,_⟩:=dd;exact⟨ob,h1,h2.2.1⟩
section
variable {X:Cx}{pins:List (Addr×Obj)}{σ:St}{H:Hp}{s:Shared}{a:Addr}{y d:V}{u r:Value}{o:Option V}{A:Around}{E:Value->Shared->Prop}
theorem bY6 {Q:Value->Shared->Prop} (hu:A.units+1<cLine) (I:Inv X pins σ H s) (g:DGet H a y o) (Y:RelV y u) (h:∀ Z s',Inv X pins σ H s'->RelV (o.getD .non) Z->Q Z s') :
  wpAny (model X.prog X.w) A (call (.builtin "dict.get") [.ref a,u]) Q E s:=by
 rcases g with ⟨kvs,k,e,ey,l⟩ | ⟨kvs,k,b,e,ey,eb,l⟩
 ·subst ey;obtain⟨z,hd,vs,O,dd⟩:=aM2 I.hok e;refine call_meetsIn j8 dd.typeIs Zp (Zg _ _) (meets_dict_get (g_3 X.prog X.w) a (ap2 Y) hd) ⟨_,dd.mapOf,h _ _ (I.tok _) ?_⟩;rw[l];exact (O.val k).getD rfl
 ·subst ey;cases (show u=Value.ref b from Y);obtain⟨z,hd,xs,O,dd⟩:=aM0 I.hok e;refine call_meetsIn j8 dd.typeIs Zp (Zg _ _) (meetsH_dict_get (tupleKind (g_3 X.prog X.w)) a b hd) ⟨ju hu,k,xs,aj5 I.hok eb,dd,h _ _ (I.tok _) ?_⟩;rw[l];exact (O.val k).getD rfl
end
def bg3 (td ty:TE):TE:=λ σ H Q=>td σ H λ x H1=>∃ a,x=.ref a/\IsD H1 a/\ty σ H1 λ y H2=>∃ o,DGet H2 a y o/\Q (o.getD .non) H2
section
variable {X:Cx}{o e f:Expr}{apos cpos:Pos}{td ty tx:TE}
theorem aW7 (hu:X.A.units+1<cLine) (ho:PE X o td) (he:PE X e ty) (m:M1 X o "get" apos e cpos):PE X (.Call (.Attribute o "get" apos) [e] [] cpos) (bg3 td ty):=by
 intro pins s σ H Q I h;refine wpAny_Call_method m.base m.few m.line PySem.F.plainAttrs_dict j8 PySem.F.type_dict_get (thn (ho pins s σ H _ I h) λ u s1 O=>?_);obtain⟨x,H1,Z,rx,a,ex,d,q1⟩:=O;subst ex;obtain rfl:u=Value.ref a:=rx;obtain⟨t1,t2,_⟩:=bV3 Z d;refine⟨t1,t2,?_⟩;rw[m.trees];refine Qx rfl (Qd (Calls.spliced_cons (thn (he pins s1 σ H1 _ Z q1) λ iv s2 ⟨y,H2,I2,ry,ov,g,q2⟩=>Calls.spliced_nil ?_)));exact bY6 hu I2 g ry λ w' s3 I3 Y=>⟨_,H2,I3,Y,q2⟩
end
end L2
namespace Att
open PySem PySem.W PySem.Calls PyProof.Rows
end Att
namespace L2
open PySem PySem.Spec PyProof.Rows
theorem D_2 {n:Nat} (h:a<n) (h':n<=b):a≠b:=qy (qx h h')
theorem aQ4 {n:Nat} (h:a<n) (h':n<=b):b≠a:=(D_2 h h').symm
noncomputable def aa0 (cells:List (Str×Addr)):List (Str×NameKind)->List (Str×Addr)->List (Str×Addr)
 |[],acc=>acc
 |(n,k)::r,acc=>aa0 cells r (if (k==NameKind.free)=true then (n,(cells.lookup n).getD 0)::acc else acc)
theorem A_6 :∀ (l:List (Str×NameKind)) (O:List (Str×Addr)),(∀ y∈l,y.2=.free->∃ c,env.cells.lookup y.1=some c) ->
  (forIn l O λ y (cs:List (Str×Addr))=>(match y with
   |(name,kind)=>if (kind==NameKind.free)=true then do let c <- cellOf env name;pure (ForInStep.yield ((name,c)::cs)) else pure (ForInStep.yield cs):Sem _))=pure (aa0 env.cells l O)
 |[],O,_=>rfl
 |(n,k)::r,O,h=>by
  rw[List.forIn_cons];unfold aa0;by_cases e:(k==NameKind.free)=true
  ·have Z:k=NameKind.free:=by simpa using e
   obtain⟨c,hc⟩:=h (n,k) qm Z;simp only[e,if_true,cellOf,hc,pure_bind,Zh];exact A_6 r _ λ y Y=>h y (qo _ Y)
  ·simp only[e,if_false];exact A_6 r _ λ y Y=>h y (qo _ Y)
theorem L_6  (h:∀ y∈sc.names,y.2=.free->∃ c,env.cells.lookup y.1=some c):closureFor sc env=pure (aa0 env.cells sc.names []):=by have e:=A_6 sc.names [] h;exact (bind_pure _).trans e
theorem R_6 :∀ (l:List (Str×NameKind)) (O:List (Str×Addr)),(∀ y∈l,y.2=.free->∃ c,cells.lookup y.1=some c) ->
  (aa0 cells l O).lookup y=some c->cells.lookup y=some c\/O.lookup y=some c
 |[],O,_,e=>.inr e
 |(n,k)::r,O,h,e=>by
  have hr:=λ y hy=>h y (qo _ hy);rcases R_6 r _ hr e with q | q
  ·exact .inl q
  ·by_cases z:(k==NameKind.free)=true
   ·rw[if_pos z] at q;rw[jd] at q;cases hb:y==n with
    |true =>
     rw[hb] at q;obtain⟨c',Z⟩:=h (n,k) qm (by simpa using z);have Y:=Z;rw[Y] at q;have e1:y=n:=by simpa using hb
     have q':c'=c:=qp q;exact .inl (by rw[e1,Y,q'])
    |false =>
     rw[hb] at q;exact .inr q
   ·rw[if_neg z] at q;exact .inr q
theorem z_2 :∀ (l:List (Str×NameKind)) (O:List (Str×Addr)),((y,NameKind.free)∈l\/∃ c,O.lookup y=some c)->∃ c,(aa0 cells l O).lookup y=some c
 |[],O,h=>by
  rcases h with h | h
  ·cases h
  ·exact h
 |(n,k)::r,O,h=>by
  have Y:∀ v:Addr,(∃ c,O.lookup y=some c)->∃ c,((n,v)::O).lookup y=some c:=λ v Z=>by
   obtain⟨c,hc⟩:=Z;rw[jd];cases y==n with
   |true=>exact⟨v,rfl⟩
   |false=>exact⟨c,hc⟩
  rcases h with h | h
  ·rcases qz h with e | h
   ·have e1:=jm Prod.fst e;have e2:=jm Prod.snd e;subst e1 e2;refine z_2 r _ (.inr ?_);rw[if_pos (by rfl)];refine⟨(cells.lookup y).getD 0,?_⟩;rw[jd];simp
   ·exact z_2 r _ (.inl h)
  ·refine z_2 r _ (.inr ?_);split
   ·exact Y _ h
   ·exact h
theorem U_9  (hc:∀ z∈scope.names,z.2≠.cell) (h:(relabel scope env).names.lookup y=some k) (hk:k=.cell\/k=.free):(y,NameKind.free)∈scope.names:=by
 have m:=y8 h;obtain⟨⟨n,Y⟩,O,e⟩:=List.mem_map.mp m;dsimp only at e;split at e
 ·rename_i z;have e1:=jm Prod.fst e;have Z:Y=NameKind.free:=by simp only[zj] at z;simpa using z.1.1
  subst e1 Z;exact O
 ·have e1:=jm Prod.fst e;have e2:Y=k:=jm Prod.snd e;subst e1 e2;rcases hk with z | z
  ·exact absurd z (hc _ O)
  ·rw[z] at O;exact O
theorem K_3 {env:Env} (Y:env.scope.kind=.function):∀ {names:List (Str×NameKind)}{y:Str},names.lookup y=some .free->env.kindOf y=some .cell ->
  (names.map λ (n,k)=>if (k==NameKind.free&&env.scope.kind==.function&&env.kindOf n==some .cell) then (n,NameKind.cell) else (n,k)).lookup y=some .cell
 |[],_,h,_=>by simp at h
 |(n,k)::r,y,h,hk=>by
  have Z:=@K_3 env Y r y;rw[ze];cases O:y==n with
  |true =>
   have e:y=n:=by simpa using O
   subst e;rw[jd,O] at h;have h':=qp h;subst h';simp[Y,hk]
  |false =>
   rw[jd,O] at h;show List.lookup y ((if (k==NameKind.free&&env.scope.kind==.function&&env.kindOf n==some .cell)=true then (n,NameKind.cell) else (n,k))::_)=_;by_cases z:(k==NameKind.free&&env.scope.kind==.function&&env.kindOf n==some .cell)=true
   ·rw[if_pos z,jd,O];exact Z h hk
   ·rw[if_neg z,jd,O];exact Z h hk
structure ScB (N:List Str) (sc scope:Scope) (x:Str) (frees:List Str) (js:List Nat):Prop where
 kind:scope.kind=.function
 fk:sc.kind=.function
 cells:∀ y∈scope.names,y.2≠.cell
 locs:∀ y∈scope.names,y.2=.local->scope.names.lookup y.1=some .local
 own:scope.names.lookup x=some .local
 fr:∀ y∈scope.names,y.2=.free->sc.names.lookup y.1=some .cell
 nd:(x::frees).Nodup
 ln:frees.length=js.length
 zp:∀ p∈frees.zip js,N[p.2]?=some p.1/\sc.names.lookup p.1=some .cell/\scope.names.lookup p.1=some .free
def cxB (X:Cx) (N:List Str) (scope:Scope) (s:Shared) (H:Hp) (C:Addr) (O:List Addr):Cx where
 prog:=X.prog
 w:=X.w
 K:=X.K
 mg:=X.mg
 base:=X.base
 A:=X.A
 N:=N
 s₀:=s
 H₀:=H
 env:=compEnvC scope (aa0 X.env.cells scope.names []) C X.env
 outer:=X.stack
 stack:=X.stack
 ex:=O
 fn:=λ _=>false
 calm:=X.calm
 pn:=[]
 xe:=λ _ _=>False
def frv (σ:St) (js:List Nat):St:=js.map λ j=>(σ[j]?).join
def PTs (X:Cx) (ifs:List Expr) (t:TT):Prop :=
 ∀ (pins:List (Addr×Obj)) (s:Shared) (σ:St) (H:Hp) (Q:Bool->Hp->Prop),Inv X pins σ H s->t σ H Q ->
  wpAny (model X.prog X.w) X.A (forIn ifs true λ c r=>if r=true then do let ok <- isTrue c X.env (eval c X.env);pure (ForInStep.yield ok) else pure (ForInStep.yield r)) (TP X pins σ Q) X.xe s
def tYes:TT:=λ _ H Q=>Q true H
theorem aX8 :PTs X [] tYes:=λ _ _ _ H _ I h=>wpAny_tests_nil ⟨H,I,h⟩
theorem aX7  (h:PT X c t):PTs X [c] t:=λ pins s σ H Q I q=>wpAny_tests_one (h pins s σ H Q I q)
def LcW (js:List Nat) (tt:TT) (te:TE) (σ:St) (Q:List V->Hp->Prop) (J:It) (H1:Hp):Prop :=
 ∃ W:Nat->Nat->List V->Hp->Prop,(∃ m,W 0 m [] H1)/\∀ i m ys H,W i m ys H ->
  (J.stop i H/\ys.length<=sizeLine/\Q ys H) \/
  (J.go i H/\ys.length<sizeLine/\∀ x H',J.yld i H x H'->tt (some x::frv σ js) H' λ b H2 =>
   if b=true then te (some x::frv σ js) H2 λ v Y=>∃ O,O<m/\W (i+1) O (ys++[v]) Y else ∃ O,O<m/\W (i+1) O ys H2)
section
variable {X:Cx}{pins:List (Addr×Obj)}{σ:St}{H:Hp}{s:Shared}{x:Str}{scope sc:Scope}{frees:List Str}{js:List Nat}
theorem aj2 (I:Inv X pins σ H s) (O:X.env.scope=sc) (B:ScB X.N sc scope x frees js):∀ y∈scope.names,y.2=.free->∃ c,X.env.cells.lookup y.1=some c:=λ y Y Z =>
 I.ok.has y.1 (.inl (show X.env.scope.names.lookup y.1=some .cell by rw[O];exact B.fr y Y Z))
theorem ar1 :∀ {l:List α}{r:List β}{k:Nat}{a:α},l.length=r.length->l[k]?=some a->∃ b,r[k]?=some b/\(a,b)∈l.zip r
 |[],_,_,_,_,h=>by simp at h
 |_::_,[],_,_,hl,_=>by simp at hl
 |a'::l,b'::r,0,a,_,h=>by
  simp at h;subst h;exact⟨b',rfl,by simp⟩
 |a'::l,b'::r,k+1,a,hl,h=>by
  obtain⟨b,h1,h2⟩:=ar1 (by simpa using hl) (by simpa using h);exact⟨b,by simpa using h1,by rw[Qo];exact qo _ h2⟩
theorem aE3 {fp:List Addr}{O:Heap}{C D:Addr}{tk:Nat}{mC:Str->Option Value}{oD:Obj} (I:Inv X pins σ H s) (Z:X.env.scope=sc) (B:ScB X.N sc scope x frees js) (hf:∀ b∈fp,FpOk X pins H b) (af:∀ b∈fp,b<s.heap.objs.size)
  (hC:s.heap.objs.size<=C) (hD:s.heap.objs.size<=D) (ae:D≠C) (Y:∀ b o,s.heap.get? b=some o->O.get? b=some o) (ns:O.Ns C mC) (gD:O.get? D=some oD) (nD:∀ v,oD.data≠.cell v) :
  Inv (cxB X (x::frees) scope s H C fp) (pins++[(D,oD)]) (none::frv σ js) H {s with heap:=O,toks:=tk}:=by
 have lc:=aj2 I Z B;have sub:∀ y c,(aa0 X.env.cells scope.names []).lookup y=some c->X.env.cells.lookup y=some c:=λ y c e=>by
  rcases R_6 scope.names [] lc e with q | q
  ·exact q
  ·cases q
 have ai:∀ y c,X.env.cells.lookup y=some c->c<s.heap.objs.size:=λ y c e=>by
  obtain⟨v,q⟩:=I.cell y c e;exact q.lt
 have ah:∀ b∈fp,(b∈X.ex\/X.s₀.heap.objs.size<=b):=λ b hb=>(hf b hb).2.2.2.1;obtain⟨m,hn,hl⟩:=I.loc;refine⟨⟨I.ok.mod,B.kind,I.ok.glob,I.ok.blt,hC,?_,?_,?_,I.ok.hd,I.ok.frames,.inl rfl,?_,?_,z0 I.ok.bsz I.sz,?_,?_,I.stack,I.stkFree,λ p q h=>I.base.tbls _ _ (I.ok.tab p q h)⟩,rfl,I.bare,Un.kept Y,⟨mC,ns,?_⟩,?_,I.hok.fresh hC,?_,?_,I.hok.kept Y,?_⟩
 ·exact λ y z c e1 e2=>I.ok.inj y z c (sub y c e1) (sub z c e2)
 ·intro y hy;have hm:(y,NameKind.free)∈scope.names:=by
   rcases hy with q | q
   ·exact U_9 (env:=X.env) B.cells q (.inl rfl)
   ·exact U_9 (env:=X.env) B.cells q (.inr rfl)
  exact z_2 scope.names [] (.inl hm)
 ·exact λ y c z _=>absurd z zc
 ·intro b hb;refine⟨λ z=>?_,λ y c e z=>(hf b hb).2.2.2.2.1 y c (sub y c e) z⟩;have z':b=C:=z;exact absurd (qx (af b hb) hC) (by rw[z'];exact yk _)
 ·exact λ b o e=>I.bs b o e
 ·intro b o e hb;rcases ah b hb with z | z
  ·exact I.ok.noex b o e z
  ·exact absurd (qx (qv (I.ok.bs b o e).1) z) (yk _)
 ·intro b hb z;rcases qz (I.stkSub b z) with e | e
  ·exact (hf b hb).2.1 e
  ·exact (hf b hb).2.2.1 e
 ·intro i y v e1 e2 e3;cases i with
  |zero=>simp at e2
  |succ k =>
   have ad:frees[k]?=some y:=by have e0:(x::frees)[k+1]?=some y:=e1;simpa using e0
   obtain⟨j,hj,hz⟩:=ar1 B.ln ad;obtain⟨z1,z2,z3⟩:=B.zp _ hz;have aa:(frv σ js)[k]?=some (some v):=by simpa using e2
   have e4:σ[j]?=some (some v):=by
    unfold frv at aa;rw[zy,hj] at aa;have e5:(σ[j]?).join=some v:=qp aa;cases q:σ[j]? with
    |none=>rw[q] at e5;cases e5
    |some w'=>rw[q] at e5;cases w' with
     |none=>cases e5
     |some w2=>cases e5;rfl
   have kX:X.env.kindOf y=some .cell:=by show X.env.scope.names.lookup y=_;rw[Z];exact z2
   obtain⟨u,r,q⟩:=hl j y v z1 e4 (.inr (.inl kX));refine⟨u,r,?_⟩;rcases q with ⟨q,_⟩ | ⟨_,c,ec,ic⟩
   ·rw[kX] at q;cases q
   ·have kY:(compEnvC scope (aa0 X.env.cells scope.names []) C X.env).kindOf y=some .cell:=K_3 (env:=X.env) (by rw[Z];exact B.fk) z3 kX;refine .inr ⟨.inl kY,c,?_,?_⟩
    ·obtain⟨c',ac⟩:=z_2 (cells:=X.env.cells) scope.names [] (.inl (y8 z3));have:=sub y c' ac;rw[ec] at this;cases this;exact ac
    ·obtain⟨o,ho,hd⟩:=ic;exact⟨o,Y c o ho,hd⟩
 ·intro y c e;obtain⟨v,o,ho,hd⟩:=I.cell y c (sub y c e);exact⟨v,o,Y c o ho,hd⟩
 ·exact λ y c e=>I.freeC y c (sub y c e)
 ·intro p hp;have ag:p∈pins++[(D,oD)]:=by simpa [cxB] using hp
  rcases zb ag with z | z
  ·obtain⟨a1,a2,a3,a4,a5⟩:=I.pin p (qw _ z);refine⟨Y _ _ a1,a2,λ e=>?_,λ e=>?_,a5⟩
   ·exact absurd (qx (qv a1) hC) (by rw[show p.1=C from e];exact yk _)
   ·rcases qz (I.stkSub p.1 e) with e | e
    ·exact a3 e
    ·exact a4 e
  ·have z':p=(D,oD):=by simpa using z
   subst z';refine⟨gD,I.hok.fresh hD,ae,λ e=>?_,nD⟩;rcases qz (I.stkSub D e) with e | e
   ·exact absurd (qx I.lt hD) (by rw[show D=X.env.locals from e];exact yk _)
   ·exact I.nofs hD e
 ·show (none::frv σ js).length=(x::frees).length;rw[zi,zi,B.ln,frv,zd]
end
theorem ap9  (I:Nat->Shared->Prop)
  (Z:∀ n s,I n s->wpAny (model prog w) A (pyNext it) (λ r s1=>match r with
   |none=>R (.ok .next) s1
   |some v=>wpAny (model prog w) A (letOwnedTupleGo O it v) (λ _ s2=>wpAny (model prog w) A (assign O env v) (λ _ s3 =>
     wpAny (model prog w) A (forIn ifs true λ c r=>if r=true then do let ok <- isTrue c env (eval c env);pure (ForInStep.yield ok) else pure (ForInStep.yield r)) (λ ok s4 =>
      if ok=true then wpAny (model prog w) A (eval elt env) (λ y s5=>wpAny (model prog w) A (call (.builtin "list.append") [Y,y]) (λ _ s6=>∃ m,m<n ∧ I m s6) (λ _ _=>False) s5) (λ _ _=>False) s4
      else ∃ m,m<n/\I m s4) (λ _ _=>False) s3) (λ _ _=>False) s2) (λ _ _=>False) s1) (λ _ _=>False) s)
  (n:Nat) (h:I n s):codeAny (model prog w) A (.compLoop (.ListComp elt [⟨O,iter,ifs,0⟩] scope pos) 0 it Y env) R s:=by
 refine codeAny_loop rfl I (λ n s hI=>?_) n h;refine wpAny_noted ?_;rw[compTurn_list];refine qj (Q3 (qj (zv (Z n s hI) (λ r s1 h1=>?_) λ _ _ z=>z.elim)));cases r with
 |none=>exact qk h1
 |some v =>
  refine qj (zv h1 (λ _ s2 h2=>?_) λ _ _ z=>z.elim);refine qj (zv h2 (λ _ s3 h3=>?_) λ _ _ z=>z.elim);refine qj (zv h3 (λ ok s4 h4=>?_) λ _ _ z=>z.elim);cases ok with
  |false=>exact qk ⟨rfl,h4⟩
  |true =>
   refine qj (qj (zv h4 (λ y s5 h5=>?_) λ _ _ z=>z.elim));exact qj (zv h5 (λ _ s6 h6=>qk (qk ⟨rfl,h6⟩)) λ _ _ z=>z.elim)
section
variable {X:Cx}{pins:List (Addr×Obj)}{σ:St}{H:Hp}{s:Shared}{x:Str}{scope sc:Scope}{frees:List Str}{js:List Nat}{elt iter:Expr}{ifs:List Expr}{px pos:Pos}{tt:TT}{te:TE}{E:Value->Shared->Prop}
noncomputable abbrev aq9 (O:List Value) (n:Nat):Obj:={cls:=.type "list",data:=.seq O.toArray n}
def LcG (tg:TG) (Z:St) (tt:TT) (te:TE) (Q:List V->Hp->Prop) (J:It) (H1:Hp):Prop :=
 ∃ W:Nat->Nat->List V->Hp->Prop,(∃ m,W 0 m [] H1)/\∀ i m ys H,W i m ys H ->
  (J.stop i H/\ys.length<=sizeLine/\Q ys H) \/
  (J.go i H/\ys.length<sizeLine/\∀ x H',J.yld i H x H'->tg x Z H' λ O H'=>(Z.length=O.length/\∀ (j:Nat) v,Z[j]?=some (some v)->O[j]?=some (some v))/\tt O H' λ b H2 =>
   if b=true then te O H2 λ v H3=>∃ Y,Y<m/\W (i+1) Y (ys++[v]) H3 else ∃ Y,Y<m/\W (i+1) Y ys H2)
theorem bb7 {ak:Expr}{N':List Str}{τ:St}{tg:TG}{it:Addr}{Z:List Addr}{tn:Nat->Heap->Prop}{J:It}{Qe:List V->Hp->Prop}{RR:Value->Addr->Result->Shared->Prop} (I:Inv X pins σ H s) (hc:X.calm=true) (a9:X.env.scope=sc) (B:ScB X.N sc scope x frees js)
  (T:Turn X.prog X.w X.K ak J Z it tn) (st:tn 0 s.heap) (f:∀ b∈Z,FpOk X pins H b) (S0:∀ {C pl H' s'},Inv (cxB X (x::frees) scope s H C Z) pl (none::frv σ js) H' s'->Inv (cxB X N' scope s H C Z) pl τ H' s') (hg:∀ C,PG (cxB X N' scope s H C Z) ak tg) (hW:LcG tg τ tt te Qe J H)
  (ht:∀ s H C Z,PTs (cxB X N' scope s H C Z) ifs tt) (he:∀ s H C Z,PE (cxB X N' scope s H C Z) elt te)
  (hR:∀ (D C:Addr) (s':Shared) (H':Hp) (ys:List V) (O:List Value) (n:Nat),s.heap.objs.size<=D->s.heap.objs.size<=C->D≠C->Inv (cxB X N' scope s H C Z) pins τ H' s'->H' D=none ->
   Vals ys O->s'.heap.get? D=some (aq9 O n)->ys.length<=sizeLine->Qe ys H'->RR (.ref D) C (.ok .next) s') :
  wpAny (model X.prog X.w) X.A (newList []) (λ aw s3=>wpAny (model X.prog X.w) X.A (newFunctionEnv scope X.env.globals (aa0 X.env.cells scope.names []) [] X.env.qual none .none (some X.env)) (λ ap s4 =>
   codeAny (model X.prog X.w) X.A (.compStart (.ListComp elt [⟨ak,iter,ifs,0⟩] scope pos) 0 (.ref it) aw {ap with scope:=relabel scope X.env}) (RR aw ap.locals) s4) E s3) E s:=by
 obtain⟨W,⟨m0,w0⟩,az⟩:=hW;refine yp (wpAny_newFunctionEnv B.cells (by intro y hy;simp at hy) (λ ah ac aa=>?_) B.kind);dsimp only at ac aa ⊢;generalize hG:s.heap.push {cls:=.type "list",dict:=none,data:=.seq ([]:List Value).toArray}=G at ac aa ⊢;have a1:G.objs.size=s.heap.objs.size+1:=by rw[<- hG,Heap.size_push]
 have ao:s.heap.objs.size<=G.objs.size:=by rw[a1];exact Zd _
 have aq:s.heap.objs.size≠G.objs.size:=by rw[a1];exact qy (Nat.lt_succ_self _)
 obtain⟨C,bg⟩:∃ C:Addr,C=G.objs.size:=⟨_,rfl⟩;obtain⟨D,am⟩:∃ D:Addr,D=s.heap.objs.size:=⟨_,rfl⟩;rw[<- bg] at ac aa aq ao ⊢;have ae:s.heap.objs.size<=D:=by rw[am];exact qr _
 have al:s.heap.objs.size<=C:=ao;have ai:D≠C:=by rw[am];exact aq
 have bd:∀ b o,s.heap.get? b=some o->ah.get? b=some o:=λ b o e=>by
  refine aa.extBut b o (D_2 (qv e) al) (ql _ ?_);rw[<- hG];exact ql _ e
 have gD:ah.get? D=some (aq9 [] 0):=by refine aa.extBut D _ ai (ql _ ?_);rw[<- hG,am];exact qt _ rfl
 have as:∀ b∈Z,b<s.heap.objs.size:=λ b hb=>by
  obtain⟨o,e,_⟩:=T.obj 0 _ st b hb;exact qv e
 show codeAny (model X.prog X.w) X.A (.compStart (.ListComp elt [⟨ak,iter,ifs,0⟩] scope pos) 0 (.ref it) (.ref s.heap.objs.size) (compEnvC scope (aa0 X.env.cells scope.names []) C X.env)) (RR (.ref s.heap.objs.size) C) _;rw[<- am];have bh:D∉Z:=λ z=>D_2 (as D z) ae rfl;have Y0:=S0 (aE3 (tk:=s.toks+([]:List (Str×Value)).length) (x:=x) I a9 B f as al ae ai bd ac gD (λ v z=>nomatch z));have ay:tn 0 ah:=T.keep 0 _ _ st λ b _ o e=>bd b o e;have sub:∀ y c,(aa0 X.env.cells scope.names []).lookup y=some c->X.env.cells.lookup y=some c:=λ y c e=>by
  rcases R_6 scope.names [] (aj2 I a9 B) e with q | q
  ·exact q
  ·cases q
 have a8:∀ p∈pins,p.1<s.heap.objs.size:=λ p hp=>qv (I.pin p (qw _ hp)).1;have aj:∀ {H':Hp}{o:Obj},(∀ b∈Z,H' b=none)->∀ b∈Z,FpOk (cxB X N' scope s H C Z) (pins++[(D,o)]) H' b:=λ {H' o} hn b hb=>by
  obtain⟨_,a2,a3,a4,a5,a6⟩:=f b hb;have lt:=as b hb;refine⟨hn b hb,?_,λ z=>?_,.inl hb,λ y c e=>a5 y c (sub y c e),λ p hp=>?_⟩
  ·exact D_2 lt al
  ·rcases qz (I.stkSub b z) with e | e
   ·exact a2 e
   ·exact a3 e
  ·have au:p∈pins++[(D,o)]:=by simpa [cxB] using hp
   rcases zb au with z | z
   ·exact a6 p (qw _ z)
   ·have z':p=(D,o):=by simpa using z
    subst z';exact aQ4 lt ae
 have ar:∀ s3:Shared,s3={s with heap:=ah,toks:=s.toks+([]:List (Str×Value)).length} ->
   codeAny (model X.prog X.w) X.A (.compLoop (.ListComp elt [⟨ak,iter,ifs,0⟩] scope pos) 0 (.ref it) (.ref D) (compEnvC scope (aa0 X.env.cells scope.names []) C X.env)) (RR (.ref D) C) s3:=by
  rintro s3 rfl;refine ap9 (λ n s'=>∃ i ys O k H',Inv (cxB X N' scope s H C Z) (pins++[(D,aq9 O k)]) τ H' s'/\tn i s'.heap/\(∀ b∈Z,H' b=none)/\Vals ys O/\W i n ys H') ?_ m0
   ⟨0,[],[],0,H,Y0,ay,λ b hb=>(f b hb).1,.nil,w0⟩
  rintro n s4 ⟨i,ys,O,k,H4,I4,bc,a7,rv,w4⟩;have pD:∀ {pl:List (Addr×Obj)}{af:St}{H':Hp}{s':Shared},Inv (cxB X N' scope s H C Z) (pins++[(D,aq9 O k)]++pl) af H' s'->s'.heap.get? D=some (aq9 O k)/\H' D=none:=λ I'=>by
   have q:=I'.pin (D,aq9 O k) (qw _ (Q5 _ (qw _ qm)));exact⟨q.1,q.2.1⟩
  have ad:∀ {pl:List (Addr×Obj)}{af:St}{H':Hp}{s':Shared},Inv (cxB X N' scope s H C Z) (pins++pl) af H' s'->Inv (cxB X N' scope s H C Z) pins af H' s':=λ I'=>I'.unpinned;rcases az i n ys H4 w4 with ⟨stop,lz,qe⟩ | ⟨go,lz,step⟩
  ·refine thn (T.done (cxB X N' scope s H C Z) rfl rfl rfl hc i _ s4 _ H4 (λ _ _=>False) I4 (aj a7) bc stop) λ r s5 Y=>?_;obtain⟨hr,I5⟩:=Y;subst hr;have I5':Inv (cxB X N' scope s H C Z) (pins++[(D,aq9 O k)]++[]) τ H4 s5:=by simpa using I5
   exact hR D C s5 H4 ys O k ae al ai (ad I5) (pD I5').2 rv (pD I5').1 lz qe
  ·refine thn (T.item (cxB X N' scope s H C Z) rfl rfl rfl hc i _ s4 _ H4 (λ _ _=>False) I4 (aj a7) bc go) λ r s5 Y=>?_;obtain⟨u,hr,h5⟩:=Y;subst hr;refine thn h5 λ _ s6 Y=>?_;obtain⟨y,H6,I6,r6,y6,an,bf⟩:=Y;have I6':=I6.pinned (aj bf) (T.obj _ _ an);have be:D∉(cxB X N' scope s H C Z).fs:=λ z=>by
    rcases qz (I.stkSub D z) with e | e
    ·exact D_2 I.lt ae e.symm
    ·exact I.nofs ae e
   refine thn (hg C _ s6 _ H6 y u _ I6' r6 (step y H6 y6)) λ _ s7 Y=>?_;obtain⟨a0,H7,I7,e7,q7⟩:=Y;have back:∀ {af:St}{H':Hp}{s':Shared},Inv (cxB X N' scope s H C Z) (pins++[(D,aq9 O k)]++V_0 Z s6.heap) af H' s'->(∀ b∈Z,∀ o,s6.heap.get? b=some o->s'.heap.get? b=some o)/\∀ b∈Z,H' b=none:=λ {af H' s'} I' =>
    ⟨λ b hb o e=>(I'.pin (b,o) (qw _ (qw _ (u_2 hb e)))).1,λ b hb=>by
     obtain⟨o,e,_⟩:=T.obj _ _ an b hb;exact (I'.pin (b,o) (qw _ (qw _ (u_2 hb e)))).2.1⟩
   have ag:∀ {pl:List (Addr×Obj)}{H':Hp}{s':Shared},Inv (cxB X N' scope s H C Z) pl a0 H' s'->Inv (cxB X N' scope s H C Z) pl τ H' s':=λ I'=>I'.weak e7.1 e7.2;refine thn (ht s H C Z _ s7 _ H7 _ I7 q7) λ ok s8 Y=>?_;obtain⟨H8,I8,q8⟩:=Y;cases ok with
   |false =>
    rw[if_neg zc] at q8 ⊢;obtain⟨m',hm,w8⟩:=q8;obtain⟨b1,b2⟩:=back I8;exact⟨m',hm,i+1,ys,O,k,H8,ag I8.unpinned,T.keep _ _ _ an b1,b2,rv,w8⟩
   |true =>
    rw[if_pos rfl] at q8 ⊢;refine thn (he s H C Z _ s8 _ H8 _ I8 q8) λ v s9 Y=>?_;obtain⟨vv,H9,I9,r9,m',hm,w9⟩:=Y;obtain⟨av,ba⟩:=pD I9;obtain⟨b1,b2⟩:=back I9;have bi:=rv.length;refine Zm F.slot_list_append ⟨_,av,rfl⟩ F.entry_list_append (F.args_list_append_2 _ _) (PySem.list_append D O.toArray k v (by rw[zf];omega)) ⟨av,?_⟩;have ea:O.toArray.push v=(O++[v]).toArray:=by simp
    obtain⟨k',q⟩:∃ k',(s9.heap.update D (Obj.mapSeq (·.push v))).get? D=some (aq9 (O++[v]) k'):=by have q0:=PySem.IsL.update av (·.push v);rw[ea] at q0;exact⟨_,q0⟩
    have ax:∀ b o,b≠D->s9.heap.get? b=some o->(s9.heap.update D (Obj.mapSeq (·.push v))).get? b=some o:=λ b o hb e=>(jx s9.heap (Obj.mapSeq (·.push v)) (yi hb)).trans e;have I10:Inv (cxB X N' scope s H C Z) pins a0 H9 {s9 with heap:=s9.heap.update D (Obj.mapSeq (·.push v))} :=
     (ad I9.unpinned).turned (t':=s9.toks) (it:=D) ax ba ai (.inr ae) (λ y' c e z=>by
      obtain⟨w',q'⟩:=I.cell y' c (sub y' c e);exact D_2 q'.lt ae z) (λ p hp z=>by
      have au:p∈pins:=by simpa [cxB] using hp
      exact D_2 (a8 p au) ae z)
    refine⟨m',hm,i+1,ys++[vv],O++[v],k',H9,ag (I10.pins_of λ p hp=>?_),T.keep _ _ _ an λ b hb o e=>ax b o (λ z=>bh (z▸hb)) (b1 b hb o e),b2,rv.append (.cons r9 .nil),w9⟩;rcases zb hp with z | z
    ·exact I10.pin p (qw _ z)
    ·have z':p=(D,aq9 (O++[v]) k'):=List.mem_singleton.mp z;subst z';exact⟨q,ba,ai,be,λ w' z2=>nomatch z2⟩
 exact codeAny_compStart_list (ar _ rfl) (T.self _ 0 _ _ _ ay (ar _ rfl))
theorem aR1 {RR:Value->Addr->Result->Shared->Prop} (I:Inv X pins σ H s) (hc:X.calm=true) (ad:X.env.scope=sc) (B:ScB X.N sc scope x frees js)
  (T:Turn X.prog X.w X.K (.Name x px) J Y it tn) (st:tn 0 s.heap) (f:∀ b∈Y,FpOk X pins H b) (hW:LcW js tt te σ Qe J H)
  (ht:∀ s H C Y,PTs (cxB X (x::frees) scope s H C Y) ifs tt) (he:∀ s H C Y,PE (cxB X (x::frees) scope s H C Y) elt te)
  (hR:∀ (D C:Addr) (s':Shared) (H':Hp) (ys:List V) (ac:List Value) (n:Nat),s.heap.objs.size<=D->s.heap.objs.size<=C->D≠C->Inv (cxB X (x::frees) scope s H C Y) pins (none::frv σ js) H' s'->H' D=none ->
   Vals ys ac->s'.heap.get? D=some (aq9 ac n)->ys.length<=sizeLine->Qe ys H'->RR (.ref D) C (.ok .next) s') :
  wpAny (model X.prog X.w) X.A (newList []) (λ Z s3=>wpAny (model X.prog X.w) X.A (newFunctionEnv scope X.env.globals (aa0 X.env.cells scope.names []) [] X.env.qual none .none (some X.env)) (λ O s4 =>
   codeAny (model X.prog X.w) X.A (.compStart (.ListComp elt [⟨.Name x px,iter,ifs,0⟩] scope pos) 0 (.ref it) Z {O with scope:=relabel scope X.env}) (RR Z O.locals) s4) E s3) E s:=by
 refine bb7 (tg:=bc8 0) I hc ad B T st f (λ h=>h) (λ C=>av9 B.nd rfl (.inl (lookup_relabel_local B.own)) (.inr (lookup_relabel_local B.own))) ?_ ht he hR;obtain⟨W,w0,aa⟩:=hW;refine⟨W,w0,λ i m ys H w=>?_⟩;rcases aa i m ys H w with h | ⟨go,lz,step⟩
 ·exact .inl h
 ·exact .inr ⟨go,lz,λ y H' yl=>⟨⟨rfl,λ j v e=>by
   cases j with
   |zero=>simp at e
   |succ j=>simpa using e⟩,step y H' yl⟩⟩
theorem aj3 {Z:List Addr}{D C:Addr}{s':Shared}{H':Hp}{ys:List V}{O:List Value}{n:Nat} (I:Inv X pins σ H s) (f:∀ b∈Z,FpOk X pins H b) (hD:s.heap.objs.size<=D) (J:Inv (cxB X (x::frees) scope s H C Z) pins (none::frv σ js) H' s') (Y:H' D=none) (rv:Vals ys O)
  (gD:s'.heap.get? D=some (aq9 O n)) (hz:ys.length<=sizeLine):Inv X pins σ (upd H' D (.lst ys)) s':=by
 have u:Un (frs X.stack) Z H H' s.heap s'.heap:=J.base;have hk:HOk X.prog X.w H' s'.heap:=J.hok;refine I.call' (ch:=Z) J.os ⟨u.keep,u.slot,λ b o e n' hx=>?_,u.there,λ b xs e=>?_,λ b o v e=>?_,λ b ps e=>?_⟩ (λ b o e=>?_) J.bare λ b hb=>?_
 ·rw[b_2 (D_2 (Heap.lt_size e) hD)];exact u.free b o e n' hx
 ·have q:=u.tups b xs e;rw[b_2 (c_6 q Y)];exact q
 ·have q:=u.frzs b o v e;rw[b_2 (c_6 q Y)];exact q
 ·have q:=u.tbls b ps e;rw[b_2 (c_6 q Y)];exact q
 ·by_cases hb:b=D
  ·subst hb;rw[a_3] at e;cases e;exact⟨hz,O,n,rv,gD⟩
  ·rw[b_2 hb] at e;exact (hk b o e).stay (λ c v _ q=>q) (λ c q=>by rw[b_2 (c_6 q Y)];exact q) (λ c xs q=>by rw[b_2 (c_6 q Y)];exact q) λ c xs q=>by rw[b_2 (c_6 q Y)];exact q
 ·obtain⟨_,a2,a3,a4,a5,a6⟩:=f b hb;exact⟨a4,a2,a5,a6⟩
theorem bq1  (I:Inv X pins σ H s) (J:Inv X pins O H' s') (Y:s.heap.objs.size<=C) (Z:H' C=none) (hs:Heap.SameBut C s'.heap h'):Inv X pins O H' {s' with heap:=h'}:=by
 refine J.turned (λ b o hb e=>(hs.2 b hb).trans e) Z (λ z=>?_) (.inr (z0 I.sz Y)) (λ y c e z=>?_) λ p hp z=>?_
 ·exact D_2 I.lt Y z.symm
 ·obtain⟨v,q⟩:=I.cell y c e;exact D_2 q.lt Y z
 ·exact D_2 (qv (I.pin p hp).1) Y z
def tLC (O:TI) (js:List Nat) (tt:TT) (te:TE):TE:=λ σ H Q=>O σ H (LcW js tt te σ λ ys H'=>∀ D,H' D=none->Q (.ref D) (upd H' D (.lst ys)))
theorem bn9 {wi:TI} (hc:X.calm=true) (O:X.env.scope=sc) (B:ScB X.N sc scope x frees js) (hi:PI X (.Name x px) iter wi) (ht:∀ s H C Y,PTs (cxB X (x::frees) scope s H C Y) ifs tt) (he:∀ s H C Y,PE (cxB X (x::frees) scope s H C Y) elt te)
  (hs:∀ v,foldedSetIterable iter X.env v=pure v):PE X (.ListComp elt [⟨.Name x px,iter,ifs,0⟩] scope pos) (tLC wi js tt te):=by
 intro pins s σ H Q I h;rw[eval_ListComp];refine wpAny_comprehension_free (use:=none) rfl hs (L_6 (aj2 I O B)) B.kind B.locs (thn (hi pins s σ H _ I h) λ v s1 h1=>thn h1 λ ag s2 h2=>?_);obtain⟨it,Y,tn,J,H2,e,I2,T,ac,f2,hW⟩:=h2;subst e;refine aR1 (RR:=λ ae C=>compPost (model X.prog X.w) X.A X.xe none (EP X pins σ Q) ae C) I2 hc O B T ac f2 hW ht he ?_;intro D C s' H' ys af n hD hC aa Z nD rv gD hz q;obtain⟨m,hn,_⟩:=Z.loc;refine⟨m,hn,λ h' ad=>?_⟩;have A1:=aj3 I2 f2 hD Z nD rv gD hz;have nC:(upd H' D (.lst ys)) C=none:=by rw[b_2 (yi aa)];exact Z.free
 exact⟨.ref D,_,bq1 I2 A1 hC nC ad,rfl,q D nD⟩
def bk5 (i:Nat) (O:TI) (js:List Nat) (tt:TT) (te:TE):TS:=λ D σ H=>O σ H (LcW js tt te σ λ ys H'=>∀ a,H' a=none->D.nx (σ.set i (some (.ref a))) (upd H' a (.lst ys)))
theorem x_6 {wi:TI}{i:Nat}{y:Str}{py spos:Pos} (hN:X.N.Nodup) (af:X.N[i]?=some y) (hy:X.env.scope.names.lookup y=some .local) (hc:X.calm=true) (O:X.env.scope=sc) (B:ScB X.N sc scope x frees js) (hi:PI X (.Name x px) iter wi)
  (ht:∀ s H C fp,PTs (cxB X (x::frees) scope s H C fp) ifs tt) (he:∀ s H C fp,PE (cxB X (x::frees) scope s H C fp) elt te)
  (aa:swapsWith (.ListComp elt [⟨.Name x px,iter,ifs,0⟩] scope pos) (some (.Name y py)) spos.line X.env=pure true)
  (hs:∀ v,foldedSetIterable iter X.env v=pure v):PS X (.Assign [.Name y py] (.ListComp elt [⟨.Name x px,iter,ifs,0⟩] scope pos) spos) (bk5 i wi js tt te):=by
 intro pins s σ H D I h;rw[exec_Assign_Name_used _ _ _ _ aa];refine qj (Q3 (qj ?_));show wpAny _ X.A (do let _ <- comprehension (.ListComp elt [⟨.Name x px,iter,ifs,0⟩] scope pos) scope X.env _ (newList []) false (eval iter X.env) (some (assign (.Name y py) X.env))) _ _ s;refine qj (zv (wpAny_comprehension_free (use:=some (assign (.Name y py) X.env)) (Q:=λ _ s'=>SP X pins D .next s') rfl hs (L_6 (aj2 I O B)) B.kind B.locs
  (thn (hi pins s σ H _ I h) λ v s1 h1=>thn h1 λ ai s2 h2=>?_)) (λ _ s' q=>qk (qk q)) λ _ _ z=>z)
 obtain⟨it,fp,tn,J,H2,e,Z,T,ad,f2,hW⟩:=h2;subst e;refine aR1 (RR:=λ ag C=>compPost (model X.prog X.w) X.A X.xe (some (assign (.Name y py) X.env)) (λ _ s'=>SP X pins D .next s') ag C) Z hc O B T ad f2 hW ht he ?_;intro a C s' H' ys ah n hD hC ac J' nD rv gD hz q;have A1:=aj3 Z f2 hD J' nD rv gD hz;have nC:(upd H' a (.lst ys)) C=none:=by rw[b_2 (yi ac)];exact J'.free
 obtain⟨m,hn,_⟩:=J'.loc;have hL:C≠X.env.locals:=aQ4 Z.lt hC;show wpAny _ X.A (assign (.Name y py) X.env (.ref a)) _ _ s';refine wpAny_assign_Name (U_1 A1 hN af (.inl hy) (v:=.ref a) rfl (λ s3 I3 Y=>?_) (.inr hy));obtain⟨b,sb,hb⟩:=Y;have nb:C≠b:=by
  rcases hb with z | z
  ·rw[z];exact hL
  ·intro e;obtain⟨v,q'⟩:=Z.cell y b z;exact D_2 q'.lt hC e.symm
 obtain⟨o,es,ep,ho,r⟩:=hn;refine⟨m,⟨o,es,ep,(sb.2 C nb).trans ho,r⟩,λ h' ae=>?_⟩;exact⟨_,_,bq1 Z I3 hC nC ae,q a nD⟩
end
end L2
namespace Fx
open PySem
set_option genInjectivity true
inductive D where
 |non | bl (b:Bool) | int (i:Int) | str (x:Str) | tup (xs:List D) | lst (xs:List D)
 |fnv
 |opq (ks:List (Str×Int)) (vs:List D)
 |dct (ks:List Str) (vs:List D)
inductive MO where
 |lst (xs:List D) | dic (kvs:List (Str×D)) | dtu (kvs:List ((Str×Int)×D))
inductive Sl where
 |no | im (d:D) | ow (b:Bool) (o:MO)
noncomputable abbrev En:=List Sl
inductive Res where
 |nx (ρ:En) | rt (d:D) (ρ:En) | bk (ρ:En) | ct (ρ:En)
abbrev FE:=En->Option (D×En)
abbrev FT:=En->Option (Bool×En)
abbrev FA:=En->Option (List D×En)
abbrev FS:=En->Option Res
noncomputable def bnd {α β:Type} (x:Option α) (f:α->Option β):Option β:=x.bind f
theorem b_3  (a:α) (f:α->Option β):bnd (some a) f=f a:=rfl
mutual
noncomputable def eqD:D->D->Bool
 |.non,.non=>true
 |.bl a,.bl b=>a==b
 |.bl a,.int b=>(if a then 1 else 0)==b
 |.int a,.bl b=>a==(if b then 1 else 0)
 |.int a,.int b=>a==b
 |.str a,.str b=>a==b
 |.tup a,.tup b=>R_0 a b
 |.lst a,.lst b=>R_0 a b
 |_,_=>false
noncomputable def R_0:List D->List D->Bool
 |[],[]=>true
 |a::r,b::t=>eqD a b&&R_0 r t
 |_,_=>false
end
theorem yR{α:Sort _}{a b:α}(h:a=b):a=b:=h
@[simp] theorem bd8 :eqD .non .non=true:=yR rfl
@[simp] theorem bi1:eqD .non (.bl y)=false:=yR rfl
@[simp] theorem bd9:eqD .non (.int y)=false:=yR rfl
@[simp] theorem bd7:eqD .non (.str y)=false:=yR rfl
@[simp] theorem bi4:eqD (.bl x) .non=false:=yR rfl
@[simp] theorem bt5:eqD (.bl x) (.bl y)=decide (x=y):=yR (Qz _ _)
@[simp] theorem bi5:eqD (.bl x) (.int y)=((if x then 1 else 0)==y):=yR rfl
@[simp] theorem bi3:eqD (.bl x) (.str y)=false:=yR rfl
@[simp] theorem be1:eqD (.int x) .non=false:=yR rfl
@[simp] theorem bi2:eqD (.int x) (.bl y)=(x==(if y then 1 else 0)):=yR rfl
@[simp] theorem be2:eqD (.int x) (.int y)=decide (x=y):=yR (Qz _ _)
@[simp] theorem be0:eqD (.int x) (.str y)=false:=yR rfl
@[simp] theorem bd5:eqD (.str x) .non=false:=yR rfl
@[simp] theorem bi0:eqD (.str x) (.bl y)=false:=yR rfl
@[simp] theorem bd6:eqD (.str x) (.int y)=false:=yR rfl
@[simp] theorem ae2:eqD (.str x) (.str y)=decide (x=y):=yR (Qz _ _)
@[simp] theorem ae1 (x:List D) (y:List D):eqD (.tup x) (.tup y)=R_0 x y:=yR rfl
@[simp] theorem bI5:R_0 [] []=true:=yR rfl
@[simp] theorem bI6:R_0 (a::r) (b::t)=(eqD a b&&R_0 r t):=yR rfl
@[simp] theorem co6 (b:D) (t:List D):R_0 [] (b::t)=false:=yR rfl
@[simp] theorem co7 (b:D) (t:List D):R_0 (b::t) []=false:=yR rfl
mutual
noncomputable def dpD:D->Nat
 |.tup xs=>B_9 xs+1
 |.lst xs=>B_9 xs+1
 |.fnv=>1000
 |.opq _ _=>1000
 |.dct _ _=>1000
 |_=>0
noncomputable def B_9:List D->Nat
 |[]=>0
 |d::r=>max (dpD d) (B_9 r)
end
@[simp] theorem bz8:dpD .fnv=1000:=rfl
@[simp] theorem bf4 (ks:List (Str×Int)) (vs:List D):dpD (.opq ks vs)=1000:=rfl
@[simp] theorem bf5:dpD (.dct ks vs)=1000:=rfl
@[simp] theorem cp5:dpD .non=0:=rfl
@[simp] theorem cu3 (b:Bool):dpD (.bl b)=0:=rfl
@[simp] theorem cp6 (i:Int):dpD (.int i)=0:=rfl
@[simp] theorem cp4 (x:Str):dpD (.str x)=0:=rfl
@[simp] theorem R_1:dpD (.tup xs)=B_9 xs+1:=rfl
@[simp] theorem R_2:dpD (.lst xs)=B_9 xs+1:=rfl
@[simp] theorem ci7:B_9 []=0:=rfl
@[simp] theorem Y_0:B_9 (d::r)=max (dpD d) (B_9 r):=rfl
noncomputable def ar0 (i:Int):Bool:=decide (i.natAbs<2 ^ 1000)
def j_7 (i j:Int):Bool:=decide (i.natAbs<2 ^ 64)||decide (j.natAbs<2 ^ 64)||(ar0 i&&ar0 j)
noncomputable def z_8 (j:Int):Bool:=decide (j≠0)&&decide (j.natAbs<2 ^ 1000)
noncomputable def bh9:D->Option Int
 |.int i=>some i
 |_=>none
def onI (g:Int->Int->Option D) (x y:D):Option D:=bnd (bh9 x) λ i=>bnd (bh9 y) (g i)
theorem K_6  (e:onI g x y=some d):∃ i j,x=.int i/\y=.int j/\g i j=some d:=by
 cases x with
 |int i =>
  cases y with
  |int j=>exact⟨i,j,rfl,rfl,e⟩
  |_=>cases e
 |_=>cases e
noncomputable def i_1:D->D->Option D
 |.int i,.int j=>some (.int (i+j))
 |.str a,.str b=>if a.length+b.length<=sizeLine then some (.str (a++b)) else none
 |.lst a,.lst b=>if a.length+b.length<=sizeLine then some (.lst (a++b)) else none
 |_,_=>none
def L_5:D->D->Option D:=onI λ i j=>some (.int (i-j))
def Y_1:D->D->Option D:=onI λ i j=>if j_7 i j=true then some (.int (i*j)) else none
def aM8:D->D->Option D:=onI λ i j=>if z_8 j=true then some (.int (i.fdiv j)) else none
def i_7:D->D->Option D:=onI λ i j=>if j≠0 then some (.int (i.fmod j)) else none
def bL0:D->D->Option D:=onI λ i j=>if 0<=j/\j<=64/\i.natAbs<2 ^ 64 then some (.int (i ^ j.toNat)) else none
noncomputable def aT1:D->Option D
 |.int i=>some (.int (-i))
 |_=>none
def bz0 (p:Int->Int->Bool):D->D->Option D:=onI λ i j=>some (.bl (p i j))
def dLt:D->D->Option D:=bz0 λ i j=>decide (i<j)
def dLe:D->D->Option D:=bz0 λ i j=>decide (i<=j)
def dGt:D->D->Option D:=bz0 λ i j=>decide (j<i)
def dGe:D->D->Option D:=bz0 λ i j=>decide (j<=i)
def dEq (x y:D):Option D:=if dpD x<=30/\dpD y<=30 then some (.bl (eqD x y)) else none
noncomputable def isN:D->Bool
 |.non=>true
 |_=>false
@[simp] theorem co2:isN .fnv=false:=rfl
@[simp] theorem cn8 (ks:List (Str×Int)) (vs:List D):isN (.opq ks vs)=false:=rfl
@[simp] theorem co3 (ks:List Str) (vs:List D):isN (.dct ks vs)=false:=rfl
@[simp] theorem cn9:isN .non=true:=rfl
@[simp] theorem ct0 (b:Bool):isN (.bl b)=false:=rfl
@[simp] theorem co1 (b:Int):isN (.int b)=false:=rfl
@[simp] theorem cn7 (b:Str):isN (.str b)=false:=rfl
@[simp] theorem cn6 (b:List D):isN (.tup b)=false:=rfl
@[simp] theorem co0 (b:List D):isN (.lst b)=false:=rfl
def dIs (x y:D):Option D:=match y with
 |.non=>some (.bl (isN x))
 |_=>none
def Y_2 (x y:D):Option D:=match y with
 |.non=>some (.bl (!isN x))
 |_=>none
noncomputable def bf8:D->Option Bool
 |.non=>some false
 |.bl b=>some b
 |.int i=>some (i != 0)
 |.lst xs=>some (!xs.isEmpty)
 |.tup xs=>some (!xs.isEmpty)
 |_=>none
noncomputable def dPl (n:Nat) (i:Int):Option Nat:=if 0<=i then (if i<n then some i.toNat else none) else if -(n:Int)<=i then some (i+n).toNat else none
def atD (xs:List D) (i:Int):Option D:=(dPl xs.length i).bind λ j=>xs[j]?
noncomputable def T_3 (n d:Nat):Option Int->Nat
 |none=>d
 |some v=>if v<0 then (v+(n:Int)).toNat else min v.toNat n
def R_4 (xs:List D) (lo hi:Option Int):List D:=(xs.drop (T_3 xs.length 0 lo)).take (T_3 xs.length xs.length hi-T_3 xs.length 0 lo)
noncomputable def aO0:List D->Option D
 |[.int i]=>some (.int (if i<0 then -i else i))
 |_=>none
def L_2:List D->Option (List Int)
 |[]=>some []
 |.int i::r=>bnd (L_2 r) λ is=>some (i::is)
 |_=>none
theorem ad1 (i:Int) (r:List D):L_2 (.int i::r)=bnd (L_2 r) λ is=>some (i::is):=rfl
noncomputable def ao6:Int->List Int->Int
 |m,[]=>m
 |m,x::r=>ao6 (if x<m then x else m) r
noncomputable def ao8:Int->List Int->Int
 |m,[]=>m
 |m,x::r=>ao8 (if m<x then x else m) r
noncomputable def bg5 (f:Int->List Int->Int):List Int->Option D
 |[]=>none
 |i::r=>some (.int (f i r))
def bi7:List D->Option D
 |[.int i,.int j]=>some (.int (if j > i then j else i))
 |[.lst xs]=>bnd (L_2 xs) λ is=>bg5 ao8 is
 |_=>none
def bw2:List D->Option D
 |[.int i,.int j]=>some (.int (if j<i then j else i))
 |[.lst xs]=>bnd (L_2 xs) λ is=>bg5 ao6 is
 |_=>none
def aG0:List D->Option (List Bool)
 |[]=>some []
 |.bl b::r=>bnd (aG0 r) λ bs=>some (b::bs)
 |_=>none
theorem aF8 (b:Bool) (r:List D):aG0 (.bl b::r)=bnd (aG0 r) λ bs=>some (b::bs):=rfl
def cq1:List D->Option D
 |[.lst xs]=>bnd (aG0 xs) λ bs=>some (.bl (bs.any id))
 |_=>none
def cb3:List D->Option D
 |[.lst xs]=>bnd (aG0 xs) λ bs=>some (.bl (bs.all id))
 |_=>none
inductive Ty where
 |int | bool | str | tuple | list | dict
noncomputable def cg8:Ty->D->Bool
 |.int,.int _=>true
 |.int,.bl _=>true
 |.bool,.bl _=>true
 |.str,.str _=>true
 |.tuple,.tup _=>true
 |.list,.lst _=>true
 |.dict,.dct _ _=>true
 |.dict,.opq _ _=>true
 |_,_=>false
def slV (ρ:En):Option Sl->Option (D×En)
 |some (.im d)=>some (d,ρ)
 |_=>none
def eV (i:Nat) (ρ:En):Option (D×En):=slV ρ ρ[i]?
def aS6:FE:=λ _=>none
def eC (d:D) (ρ:En):Option (D×En):=some (d,ρ)
abbrev zI (n:Int):=eC (.int n)
abbrev zR (x:Str):=eC (.str x)
def e1 (op:D->Option D) (F:FE) (ρ:En):Option (D×En):=bnd (F ρ) λ p=>bnd (op p.1) λ d=>some (d,p.2)
def e2 (op:D->D->Option D) (F G:FE) (ρ:En):Option (D×En):=bnd (F ρ) λ p=>bnd (G p.2) λ q=>bnd (op p.1 q.1) λ d=>some (d,q.2)
noncomputable def blB:D->Option Bool
 |.bl b=>some b
 |_=>none
def e3 (op O:D->D->Option D) (F G L:FE) (ρ:En):Option (D×En):=bnd (F ρ) λ p=>bnd (G p.2) λ q=>bnd (op p.1 q.1) λ z=>bnd (blB z) λ b =>
 if b=true then bnd (L q.2) λ r=>bnd (O q.1 r.1) λ d=>some (d,r.2) else some (.bl false,q.2)
def aN (ρ:En):Option (List D×En):=some ([],ρ)
def aC (F:FE) (A:FA) (ρ:En):Option (List D×En):=bnd (F ρ) λ p=>bnd (A p.2) λ q=>some (p.1::q.1,q.2)
def c_0 (A:FA) (ρ:En):Option (D×En):=bnd (A ρ) λ p=>if p.1.length<=1000 then some (.tup p.1,p.2) else none
def s_3 (A:FA) (ρ:En):Option (D×En):=bnd (A ρ) λ p=>if p.1.length<=1000 then some (.lst p.1,p.2) else none
def eF (g:List D->Option D) (A:FA) (ρ:En):Option (D×En):=bnd (A ρ) λ p=>bnd (g p.1) λ d=>some (d,p.2)
noncomputable def isQ:D->Bool
 |.fnv=>true
 |_=>false
def eTy (t:Ty) (F:FE) (ρ:En):Option (D×En):=bnd (F ρ) λ p=>if isQ p.1=true then none else some (.bl (cg8 t p.1),p.2)
abbrev FO:=En->Option (Option Int×En)
def oN (ρ:En):Option (Option Int×En):=some (none,ρ)
def oS (F:FE) (ρ:En):Option (Option Int×En):=bnd (F ρ) λ p=>bnd (bh9 p.1) λ i=>some (some i,p.2)
def tB (F:FE) (ρ:En):Option (Bool×En):=bnd (F ρ) λ p=>bnd (blB p.1) λ b=>some (b,p.2)
def tV (F:FE) (ρ:En):Option (Bool×En):=bnd (F ρ) λ p=>bnd (bf8 p.1) λ b=>some (b,p.2)
def tAnd (T U:FT) (ρ:En):Option (Bool×En):=bnd (T ρ) λ p=>if p.1=true then U p.2 else some (false,p.2)
def tOr (T U:FT) (ρ:En):Option (Bool×En):=bnd (T ρ) λ p=>if p.1=true then some (true,p.2) else U p.2
def tNot (T:FT) (ρ:En):Option (Bool×En):=bnd (T ρ) λ p=>some (!p.1,p.2)
def tYes (ρ:En):Option (Bool×En):=some (true,ρ)
def eIf (T:FT) (F G:FE) (ρ:En):Option (D×En):=bnd (T ρ) λ p=>if p.1=true then F p.2 else G p.2
def aL9 (F G:FE) (ρ:En):Option (D×En):=bnd (F ρ) λ p=>bnd (blB p.1) λ b=>if b=true then G p.2 else some (.bl false,p.2)
def eOr (F G:FE) (ρ:En):Option (D×En):=bnd (F ρ) λ p=>bnd (blB p.1) λ b=>if b=true then some (.bl true,p.2) else G p.2
def cp0 (F:FE) (ρ:En):Option (D×En):=bnd (F ρ) λ p=>bnd (blB p.1) λ b=>some (.bl (!b),p.2)
noncomputable def slI:Option Sl->Option Sl
 |some (.im d)=>some (.im d)
 |_=>none
def L_3 (ρ:En):List Nat->Option En
 |[]=>some []
 |j::js=>bnd (slI ρ[j]?) λ s=>bnd (L_3 ρ js) λ r=>some (s::r)
theorem aA1 (ρ:En) (j:Nat) (js:List Nat):L_3 ρ (j::js)=bnd (slI ρ[j]?) λ s=>bnd (L_3 ρ js) λ r=>some (s::r):=rfl
def cGo (T:FT) (F:FE) (fr:En):List D->Option (List D)
 |[]=>some []
 |d::r=>bnd (T (.im d::fr)) λ p=>if p.1=true then bnd (F p.2) λ q=>bnd (cGo T F fr r) λ t=>some (q.1::t) else cGo T F fr r
theorem aD9 (T:FT) (F:FE) (fr:En):cGo T F fr []=some []:=rfl
theorem am1 (T:FT) (F:FE) (fr:En) (d:D) (r:List D):cGo T F fr (d::r)=bnd (T (.im d::fr)) λ p=>if p.1=true then bnd (F p.2) λ q=>bnd (cGo T F fr r) λ t=>some (q.1::t) else cGo T F fr r:=rfl
noncomputable def chS (c:Nat):Str:=⟨#[c]⟩
def chs (z:Str):List D:=z.cps.toList.map λ c=>.str (chS c)
def items:D->Option (List D)
 |.lst xs=>some xs
 |.tup xs=>some xs
 |.str z=>some (chs z)
 |_=>none
def eLC (js:List Nat) (I:FE) (T:FT) (F:FE) (ρ:En):Option (D×En):=bnd (I ρ) λ p=>bnd (items p.1) λ xs=>bnd (L_3 p.2 js) λ fr=>bnd (cGo T F fr xs) λ ys=>if xs.length<=sizeLine then some (.lst ys,p.2) else none
def sN (ρ:En):Option Res:=some (.nx ρ)
def nxR (G:FS):Res->Option Res
 |.nx O=>G O
 |.rt d ρ=>some (.rt d ρ)
 |.bk ρ=>some (.bk ρ)
 |.ct ρ=>some (.ct ρ)
def b_7 (F G:FS) (ρ:En):Option Res:=bnd (F ρ) λ r=>nxR G r
def d_5 (i:Nat) (F:FE) (ρ:En):Option Res:=bnd (F ρ) λ p=>some (.nx (p.2.set i (.im p.1)))
def x_4:List Nat->List D->En->En
 |i::is,d::ds,ρ=>x_4 is ds (ρ.set i (.im d))
 |_,_,ρ=>ρ
theorem aa7 (i:Nat) (is:List Nat) (d:D) (ds:List D) (ρ:En):x_4 (i::is) (d::ds) ρ=x_4 is ds (ρ.set i (.im d)):=rfl
theorem an5 (ds:List D) (ρ:En):x_4 [] ds ρ=ρ:=by cases ds <;> rfl
noncomputable def bA6:D->Option (List D)
 |.tup xs=>some xs
 |.lst xs=>some xs
 |_=>none
def gN (i:Nat) (d:D) (ρ:En):Option En:=some (ρ.set i (.im d))
def gT (is:List Nat) (d:D) (ρ:En):Option En:=bnd (bA6 d) λ xs=>if xs.length=is.length then some (x_4 is xs ρ) else none
def sIf (T:FT) (F G:FS) (ρ:En):Option Res:=bnd (T ρ) λ p=>if p.1=true then F p.2 else G p.2
def g_0 (F:FE) (ρ:En):Option Res:=bnd (F ρ) λ p=>some (.rt p.1 p.2)
def goR (G:FS):Res->Option Res
 |.nx ρ=>G ρ
 |.ct ρ=>G ρ
 |.bk ρ=>some (.nx ρ)
 |.rt d ρ=>some (.rt d ρ)
def fGo (g:D->En->Option En) (B:FS):List D->FS
 |[],ρ=>some (.nx ρ)
 |d::r,ρ=>bnd (g d ρ) λ O=>bnd (B O) λ z=>goR (fGo g B r) z
theorem aB1 (g:D->En->Option En) (B:FS) (ρ:En):fGo g B [] ρ=some (.nx ρ):=rfl
theorem ak9 (g:D->En->Option En) (B:FS) (d:D) (r:List D) (ρ:En):fGo g B (d::r) ρ=bnd (g d ρ) λ O=>bnd (B O) λ z=>goR (fGo g B r) z:=rfl
def bh4 (g:D->En->Option En) (F:FE) (B:FS) (ρ:En):Option Res:=bnd (F ρ) λ p=>bnd (items p.1) λ xs=>fGo g B xs p.2
noncomputable def C_9 (lo:Int):Nat->List D
 |0=>[]
 |n+1=>.int lo::C_9 (lo+1) n
def aH3 (F:FE) (ρ:En):Option (List D×En):=bnd (F ρ) λ p=>bnd (bh9 p.1) λ j=>if -(2 ^ 62)<=j/\j<2 ^ 62 then some (C_9 0 j.toNat,p.2) else none
def N_3 (g:D->En->Option En) (R:FA) (B:FS) (ρ:En):Option Res:=bnd (R ρ) λ p=>fGo g B p.1 p.2
def wGo (T:FT) (B:FS):Nat->FS
 |0,_=>none
 |n+1,ρ=>bnd (T ρ) λ p=>if p.1=true then bnd (B p.2) λ z=>goR (wGo T B n) z else some (.nx p.2)
theorem aF4 (T:FT) (B:FS) (n:Nat) (ρ:En):wGo T B (n+1) ρ=bnd (T ρ) λ p=>if p.1=true then bnd (B p.2) λ z=>goR (wGo T B n) z else some (.nx p.2):=rfl
def ag8 (O:En->Nat) (T:FT) (B:FS) (ρ:En):Option Res:=wGo T B (O ρ) ρ
def bh7 (A:FA) (ρ:En):Option (List D×En):=bnd (A ρ) λ p=>if p.1.length<=1000 then some p else none
def oIf (T:FT) (A B:FA) (ρ:En):Option (List D×En):=bnd (T ρ) λ p=>if p.1=true then A p.2 else B p.2
def at5 (i:Nat) (A:FA) (ρ:En):Option Res:=bnd (A ρ) λ p=>some (.nx (p.2.set i (.ow false (.lst p.1))))
noncomputable def owL:Option Sl->Option (List D)
 |some (.ow false (.lst ds))=>some ds
 |_=>none
def an7 (i:Nat) (F:FE) (ρ:En):Option Res:=bnd (owL ρ[i]?) λ _=>bnd (F ρ) λ p=>bnd (owL p.2[i]?) λ ds=>if ds.length<1000000 then some (.nx (p.2.set i (.ow false (.lst (ds++[p.1]))))) else none
def frz (i:Nat) (ρ:En):En:=match ρ[i]? with
 |some (.ow false (.lst ds))=>ρ.set i (.im (.lst ds))
 |_=>ρ
def an6 (i:Nat) (F:FS) (ρ:En):Option Res:=F (frz i ρ)
noncomputable def bx9:Res->Option D
 |.rt d _=>some d
 |.nx _=>some .non
 |_=>none
def fnD (n k:Nat) (B:FS) (ds:List D):Option D:=if ds.length=n then bnd (B (ds.map .im++List.replicate k .no)) λ r=>bx9 r else none
end Fx
namespace Fx
open PySem PySem.Spec PyProof.Rows L2
noncomputable abbrev Tab (α:Type):=List ((Str×Int)×Addr×α)
def kTI (k:Str×Int):List Key:=[.inr k.1,.inl k.2]
def az5 (x:(Str×Int)×Addr×Value):List Key×Addr×Value:=(kTI x.1,x.2.1,x.2.2)
structure TD (P:Program) (w:World) (o:Obj) (tab:Tab V):Prop where
 ex:o.ExactDict
 es:∃ es ep xs,o.data=.dict es ep/\es.toList=(xs.map az5).map (entryOfKey (tupleKind (g_3 P w)))/\Paired (λ (p:(Str×Int)×Addr×V) (q:(Str×Int)×Addr×Value)=>p.1=q.1/\p.2.1=q.2.1/\RelV p.2.2 q.2.2) tab xs
 nd:(tab.map (·.1)).Nodup
 few:tab.length<=sizeLine
def tdO (a:Addr) (tab:Tab V):HO:=.ext λ P w h=>(a==sysModules)=false/\∃ o,h.get? a=some o/\TD P w o tab
def tdF (a:Addr) (o:Obj) (tab:Tab V):HO:=.ext λ P w h=>(a==sysModules)=false/\h.get? a=some o/\TD P w o tab
def cv1 (H:Hp) (tab:Tab V):Prop:=∀ x∈tab,H x.2.1=some (.tup [.str x.1.1,.int x.1.2])
mutual
noncomputable def Rep (K:Frag) (H:Hp):D->V->Prop
 |.non,v=>v=.non
 |.bl b,v=>v=.bl b
 |.int i,v=>v=.int i
 |.str x,v=>v=.str x
 |.tup ds,v=>∃ a vs,v=.ref a/\SqT K H a vs/\Reps K H ds vs
 |.lst ds,v=>∃ a vs,v=.ref a/\SqL K H a vs/\Reps K H ds vs
 |.fnv,v=>∃ a,v=.ref a ∧ nsIn K mainGlobals "through_row"=some (some (.ref a))
 |.opq ks ds,v=>∃ a o tab,v=.ref a/\H a=some (tdF a o tab)/\ks=tab.map (·.1)/\cv1 H tab/\Reps K H ds (tab.map (·.2.2))
 |.dct ks ds,v=>∃ a o vs,v=.ref a/\H a=some (.frz o (.dK ((ks.map Sum.inr).zip vs)))/\Reps K H ds vs/\ks.length=ds.length
noncomputable def Reps (K:Frag) (H:Hp):List D->List V->Prop
 |[],vs=>vs=[]
 |d::ds,vs=>∃ v r,vs=v::r/\Rep K H d v/\Reps K H ds r
end
theorem Same.rd  (e:Same H H') (h:Rd H a u):Rd H' a u:=by
 rcases h with h | ⟨o,h⟩
 ·exact .inl (e _ _ h)
 ·exact .inr ⟨o,e _ _ h⟩
theorem Same.seqT {K:Frag} (e:Same H H') (h:SqT K H a xs):SqT K H' a xs:=by
 rcases h with h | h
 ·exact .inl (Same.rd e h)
 ·exact .inr h
section
variable {K:Frag}
mutual
theorem Rep.mono (e:Same H H'):∀ (d:D) {v:V},Rep K H d v->Rep K H' d v
 |.non,_,h=>h
 |.bl _,_,h=>h
 |.int _,_,h=>h
 |.str _,_,h=>h
 |.tup ds,_,h=>by
  unfold Rep at h ⊢;obtain⟨a,vs,q,s,r⟩:=h;exact⟨a,vs,q,Same.seqT e s,Reps.mono e ds r⟩
 |.lst ds,_,h=>by
  unfold Rep at h ⊢;obtain⟨a,vs,q,s,r⟩:=h;exact⟨a,vs,q,Same.seq e s,Reps.mono e ds r⟩
 |.opq ks ds,_,h=>by
  unfold Rep at h ⊢;obtain⟨a,o,tab,q,s,z,k,r⟩:=h;exact⟨a,o,tab,q,e _ _ s,z,λ x O=>e _ _ (k x O),Reps.mono e ds r⟩
 |.fnv,_,h=>by
  unfold Rep at h ⊢;exact h
 |.dct ks ds,_,h=>by
  unfold Rep at h ⊢;obtain⟨a,o,vs,q,s,r,l⟩:=h;exact⟨a,o,vs,q,e _ _ s,Reps.mono e ds r,l⟩
theorem Reps.mono (e:Same H H'):∀ (ds:List D) {vs:List V},Reps K H ds vs->Reps K H' ds vs
 |[],_,h=>h
 |d::ds,_,h=>by
  unfold Reps at h ⊢;obtain⟨v,r,q,s,t⟩:=h;exact⟨v,r,q,Rep.mono e d s,Reps.mono e ds t⟩
end
theorem Reps.length:∀ {ds:List D}{vs:List V},Reps K H ds vs->ds.length=vs.length
 |[],_,h=>by rw[h];rfl
 |d::ds,_,h=>by
  obtain⟨v,r,q,_,t⟩:=h;rw[q,zi,zi,Reps.length t]
theorem Reps.get:∀ {ds:List D}{vs:List V}{i:Nat}{d:D},Reps K H ds vs->ds[i]?=some d->∃ v,vs[i]?=some v/\Rep K H d v
 |[],_,_,_,_,e=>by simp at e
 |d::ds,_,0,_,h,e=>by
  obtain⟨v,r,rfl,s,_⟩:=h;simp at e;subst e;exact⟨v,rfl,s⟩
 |d::ds,_,i+1,d',h,e=>by
  obtain⟨v,r,rfl,_,t⟩:=h;obtain⟨w,a,b⟩:=Reps.get t (by simpa using e);exact⟨w,by simpa using a,b⟩
theorem Reps.app:∀ {ds es:List D}{vs O:List V},Reps K H ds vs->Reps K H es O->Reps K H (ds++es) (vs++O)
 |[],_,_,_,h,h'=>by rw[h];exact h'
 |d::ds,es,_,O,h,h'=>by
  obtain⟨v,r,rfl,s,t⟩:=h;exact⟨v,r++O,rfl,s,Reps.app t h'⟩
theorem Reps.take:∀ {ds:List D}{vs:List V} (n:Nat),Reps K H ds vs->Reps K H (ds.take n) (vs.take n)
 |[],_,n,h=>by rw[h];simp[Reps]
 |d::ds,vs,0,h=>by simp[Reps]
 |d::ds,_,n+1,h=>by
  obtain⟨v,r,rfl,s,t⟩:=h;exact⟨v,r.take n,rfl,s,Reps.take n t⟩
theorem Reps.drop:∀ {ds:List D}{vs:List V} (n:Nat),Reps K H ds vs->Reps K H (ds.drop n) (vs.drop n)
 |[],_,n,h=>by rw[h];simp[Reps]
 |d::ds,vs,0,h=>by simpa using h
 |d::ds,_,n+1,h=>by
  obtain⟨v,r,rfl,s,t⟩:=h;simpa using Reps.drop n t
theorem Reps.one  (h:Rep K H d v):Reps K H [d] [v]:=by exact⟨v,[],rfl,h,rfl⟩
theorem Reps.cons  (h:Rep K H d v) (t:Reps K H ds vs):Reps K H (d::ds) (v::vs):=by exact⟨v,vs,rfl,h,t⟩
theorem Reps.nil_:Reps K H [] []:=by rfl
end
structure FC where
 Hi:Hp
 He:Hp
 Ap:List Addr
def OwOk (K:Frag) (H0 H:Hp) (a:Addr):MO->Prop
 |.lst ds=>∃ vs,H a=some (.lst vs)/\Reps K H0 ds vs
 |.dic kds=>∃ ks vs,H a=some (.dK ((ks.map Sum.inr).zip vs))/\ks=kds.map (·.1)/\Reps K H0 (kds.map (·.2)) vs
 |.dtu kds=>∃ tab,H a=some (tdO a tab)/\tab.map (·.1)=kds.map (·.1)/\cv1 H0 tab/\Reps K H0 (kds.map (·.2)) (tab.map (·.2.2))
structure RS (K:Frag) (c:FC) (H0 H:Hp) (ρ:En) (σ:L2.St):Prop where
 same:Same H0 H
 init:Same c.Hi H0
 fresh:∀ b o,H0 b=some o->c.Hi b=some o\/c.He b=none
 keep:∀ b o,c.He b=some o->b∉c.Ap->H b=some o
 apt:∀ a∈c.Ap,H a≠none
 len:ρ.length=σ.length
 im:∀ (i:Nat) (d:D),ρ[i]?=some (.im d)->∃ v,σ[i]?=some (some v)/\Rep K H0 d v
 ow:∀ (i:Nat) (b:Bool) (o:MO),ρ[i]?=some (.ow b o)->∃ a,σ[i]?=some (some (.ref a))/\H0 a=none/\(if b=true then a∈c.Ap else c.He a=none)/\OwOk K H0 H a o
 ne:∀ (i j:Nat) (b b':Bool) (o o':MO) (a:Addr),ρ[i]?=some (.ow b o)->ρ[j]?=some (.ow b' o')->σ[i]?=some (some (.ref a))->σ[j]?=some (some (.ref a))->i=j
section
variable {K:Frag}
theorem OwOk.some {a:Addr}{o:MO} (h:OwOk K H0 H a o):∃ u,H a=Option.some u:=by
 cases o with
 |lst ds=>obtain⟨vs,e,_⟩:=h;exact⟨_,e⟩
 |dic ds=>obtain⟨ks,vs,e,_⟩:=h;exact⟨_,e⟩
 |dtu ds=>obtain⟨tab,e,_⟩:=h;exact⟨_,e⟩
theorem OwOk.step {a:Addr}{o:MO} (h:OwOk K H0 H a o) (O:Same H0 H0') (s:∀ u,H a=Option.some u->H' a=Option.some u):OwOk K H0' H' a o:=by
 cases o with
 |lst ds=>obtain⟨vs,e,r⟩:=h;exact⟨vs,s _ e,Reps.mono O ds r⟩
 |dic ds=>obtain⟨ks,vs,e,q,r⟩:=h;exact⟨ks,vs,s _ e,q,Reps.mono O _ r⟩
 |dtu ds=>obtain⟨tab,e,z,q,r⟩:=h;exact⟨tab,s _ e,z,λ x Y=>O _ _ (q x Y),Reps.mono O _ r⟩
structure Step (H0 H H0' H':Hp):Prop where
 s0:Same H0 H0'
 s:Same H H'
 s':Same H0' H'
 fr:∀ b o,H0' b=some o->H0 b=some o\/H b=none
theorem RS.after (R:RS K c H0 H ρ σ) (S:Step H0 H H0' H'):RS K c H0' H' ρ σ:=by
 refine⟨S.s',R.init.trans S.s0,λ b o e=>?_,λ b o e n=>S.s _ _ (R.keep b o e n),λ a O e=>?_,R.len,λ i d e=>?_,λ i b o e=>?_,R.ne⟩
 ·rcases S.fr b o e with h | h
  ·exact R.fresh b o h
  ·refine .inr ?_;cases q:c.He b with
   |none=>rfl
   |some u =>
    by_cases hb:b∈c.Ap
    ·exact absurd h (R.apt b hb)
    ·rw[R.keep b u q hb] at h;cases h
 ·cases q:H a with
  |none=>exact R.apt a O q
  |some u=>rw[S.s _ _ q] at e;cases e
 ·obtain⟨v,a,b⟩:=R.im i d e;exact⟨v,a,Rep.mono S.s0 d b⟩
 ·obtain⟨a,x,y,z,w⟩:=R.ow i b o e;refine⟨a,x,?_,z,w.step S.s0 λ u q=>S.s _ _ q⟩;obtain⟨u,q⟩:=w.some;cases t:H0' a with
  |none=>rfl
  |some o' =>
   rcases S.fr a o' t with h | h
   ·rw[y] at h;cases h
   ·rw[q] at h;cases h
theorem Step.trans  (x:Step H0 H H0' H') (y:Step H0' H' A B):Step H0 H A B:=by
 refine⟨x.s0.trans y.s0,x.s.trans y.s,y.s',λ b o e=>?_⟩;rcases y.fr b o e with h | h
 ·exact x.fr b o h
 ·exact .inr (x.s.free h)
theorem Step.alloc  (s:Same H0 H) (hp:H p=none):Step H0 H (upd H0 p o) (upd H p o):=by
 have O:=s.free hp;refine⟨λ b u e=>by rw[b_2 (c_6 e O)];exact e,λ b u e=>by rw[b_2 (c_6 e hp)];exact e,λ b u e=>?_,λ b u e=>?_⟩
 ·by_cases hb:b=p
  ·subst hb;rw[a_3] at e ⊢;exact e
  ·rw[b_2 hb] at e ⊢;exact s _ _ e
 ·by_cases hb:b=p
  ·subst hb;exact .inr hp
  ·rw[b_2 hb] at e;exact .inl e
end
def tE (K:Frag) (F:FE):TE:=λ σ H Q=>∃ c H0 ρ d O,RS K c H0 H ρ σ/\F ρ=some (d,O)/\∀ v H0' H',Same H0 H0'->RS K c H0' H' O σ->Rep K H0' d v->Q v H'
def tTt (K:Frag) (F:FT):TT:=λ σ H Q=>∃ c H0 ρ b O,RS K c H0 H ρ σ/\F ρ=some (b,O)/\∀ H0' H',Same H0 H0'->RS K c H0' H' O σ->Q b H'
def tAa (K:Frag) (F:FA):TA:=λ σ H Q=>∃ c H0 ρ ds O,RS K c H0 H ρ σ/\F ρ=some (ds,O)/\∀ vs H0' H',Same H0 H0'->RS K c H0' H' O σ->Reps K H0' ds vs->Q vs H'
def tOo (K:Frag) (F:FO):TO:=λ σ H Q=>∃ c H0 ρ o O,RS K c H0 H ρ σ/\F ρ=some (o,O)/\∀ H0' H',Same H0 H0'->RS K c H0' H' O σ->Q o H'
def XE (X:Cx) (e:Expr) (F:FE):Prop:=PE X e (tE X.K F)
def XT (X:Cx) (e:Expr) (F:FT):Prop:=PT X e (tTt X.K F)
def XW (X:Cx) (e:Expr) (F:FT):Prop:=PW X e (tTt X.K F)
def XA (X:Cx) (es:List Expr) (F:FA):Prop:=PA X es (tAa X.K F)
def XO (X:Cx) (e:Option Expr) (F:FO):Prop:=PO X e (tOo X.K F)
theorem a_0  (h:bnd x f=some b):∃ a,x=some a/\f a=some b:=by
 cases x with
 |none=>cases h
 |some a=>exact⟨a,rfl,h⟩
theorem PE.wk  (h:PE X e t) (w:∀ σ H Q,t' σ H Q->t σ H Q):PE X e t':=λ pins s σ H Q I q=>h pins s σ H Q I (w σ H Q q)
theorem PT.wk  (h:PT X e t) (w:∀ σ H Q,t' σ H Q->t σ H Q):PT X e t':=λ pins s σ H Q I q=>h pins s σ H Q I (w σ H Q q)
theorem PW.wk  (h:PW X e t) (w:∀ σ H Q,t' σ H Q->t σ H Q):PW X e t':=λ O pins s σ H Q I q=>h O pins s σ H Q I (w σ H Q q)
theorem PA.wk  (h:PA X e t) (w:∀ σ H Q,t' σ H Q->t σ H Q):PA X e t':=λ pos pins s σ H Q I q=>h pos pins s σ H Q I (w σ H Q q)
theorem PS.wk  (h:PS X e t) (w:∀ D σ H,t' D σ H->t D σ H):PS X e t':=λ pins s σ H D I q=>h pins s σ H D I (w D σ H q)
theorem PSs.wk  (h:PSs X e t) (w:∀ D σ H,t' D σ H->t D σ H):PSs X e t':=λ pins s σ H D I q=>h pins s σ H D I (w D σ H q)
section
theorem xv (i:Nat)  (hN:X.N[i]?=some x:=by rfl) (hv:Vis X.env.scope x:=by first | exact Or.inl rfl | exact Or.inr (Or.inl rfl) | exact Or.inr (Or.inr rfl)) (hd:(x==("__debug__":Str))=false:=by decide)
  (Z:(x==("__classdict__":Str))=false:=by decide):XE X (.Name x pos) (eV i) :=
 PE.wk (i_4 hN hv hd Z) λ σ H Q O=>by
  obtain⟨c,H0,ρ,d,Y,R,f,q⟩:=O;unfold eV at f;cases z:ρ[i]? with
  |none=>rw[z] at f;cases f
  |some sl =>
   rw[z] at f;cases sl with
   |no=>cases f
   |ow b o=>cases f
   |im d' =>
    have f':=f;cases f';obtain⟨v,e1,e2⟩:=R.im i _ z;exact⟨v,e1,q v H0 H (Same.refl _) R e2⟩
theorem bj5:XE X e aS6:=λ pins s σ H Q I O=>by obtain⟨c,H0,ρ,d,Y,R,f,q⟩:=O;cases f
theorem X_9  (h:eC d ρ=some (d',O)):d'=d/\O=ρ:=by have h':=h;cases h';exact⟨rfl,rfl⟩
theorem a_4 :XE X (.Constant (.int i) j pos) (zI i):=PE.wk K_4 λ σ H Q O=>by
 obtain⟨c,H0,ρ,d,Y,R,f,q⟩:=O;obtain⟨rfl,rfl⟩:=X_9 f;exact q _ H0 H (Same.refl _) R (by rfl)
theorem xbl :XE X (.Constant (.bool i) j pos) (eC (.bl i)):=PE.wk bG2 λ σ H Q O=>by
 obtain⟨c,H0,ρ,d,Y,R,f,q⟩:=O;obtain⟨rfl,rfl⟩:=X_9 f;exact q _ H0 H (Same.refl _) R (by rfl)
theorem l_4 :XE X (.Constant .none j pos) (eC .non):=PE.wk bn8 λ σ H Q O=>by
 obtain⟨c,H0,ρ,d,Y,R,f,q⟩:=O;obtain⟨rfl,rfl⟩:=X_9 f;exact q _ H0 H (Same.refl _) R (by rfl)
theorem d_0 :XE X (.Constant (.str x) j pos) (eC (.str x)):=PE.wk V_2 λ σ H Q O=>by
 obtain⟨c,H0,ρ,d,Y,R,f,q⟩:=O;obtain⟨rfl,rfl⟩:=X_9 f;exact q _ H0 H (Same.refl _) R (by rfl)
abbrev Aft (K:Frag) (c:FC) (H0:Hp) (ρ:En) (σ:L2.St) (d:D) (Q:VK):Prop:=∀ v H0' H',Same H0 H0'->RS K c H0' H' ρ σ->Rep K H0' d v->Q v H'
def OpD (K:Frag) (r:R2) (op:D->D->Option D):Prop:=∀ (c:FC) (H0 H:Hp) (ρ:En) (σ:L2.St) (x y d:D) (Y O:V) (Q:VK),RS K c H0 H ρ σ->Rep K H0 x Y->Rep K H0 y O->op x y=some d->Aft K c H0 ρ σ d Q->r Y O H Q
def Z_7 (X:Cx) (op:Operator) (f:D->D->Option D):Prop:=∃ r,OpR X (binaryOp op) r/\OpD X.K r f
def B_1 (X:Cx) (op:CmpOp) (f:D->D->Option D):Prop:=∃ r,OpR X (compareOp op) r/\OpD X.K r f
theorem aS7  (h:e2 op F G ρ=some (d,Y)):∃ x O y,F ρ=some (x,O)/\G O=some (y,Y)/\op x y=some d:=by obtain⟨⟨x,O⟩,h1,h⟩:=a_0 h;obtain⟨⟨y,Z⟩,h2,h⟩:=a_0 h;obtain⟨z,h3,h⟩:=a_0 h;have h':=h;cases h';exact⟨x,O,y,h1,h2,h3⟩
theorem af9 {K:Frag} (o:OpD K r op)  (h:tE K (e2 op F G) σ H Q):tOp r (tE K F) (tE K G) σ H Q:=by
 obtain⟨c,H0,ρ,d,Y,R,f,q⟩:=h;obtain⟨x,O,y,h1,h2,h3⟩:=aS7 f;refine⟨c,H0,ρ,x,O,R,h1,λ vx H1 Hh s1 R1 r1=>?_⟩;refine⟨c,H1,O,y,Y,R1,h2,λ vy H2 Hh2 Z R2 r2=>?_⟩;exact o c H2 Hh2 Y σ x y d vx vy Q R2 (Rep.mono Z x r1) r2 h3 λ v H3 Hh3 s3 R3 r3=>q v H3 Hh3 (s1.trans (Z.trans s3)) R3 r3
theorem xb  (o:Z_7 X op f) (O:XE X a F) (hb:XE X b G):XE X (.BinOp a op b pos) (e2 f F G):=by
 obtain⟨r,h1,h2⟩:=o;exact PE.wk (aI4 h1 O hb) λ σ H Q h=>af9 h2 h
theorem Z_8  (o:B_1 X op f) (Y:XE X a F) (hb:XE X b G) (O:behindInMarks op b=false:=by first | exact ax3 _ | with_unfolding_all rfl):XE X (.Compare a [op] [b] pos) (e2 f F G):=by
 obtain⟨r,h1,h2⟩:=o;exact PE.wk (aZ1 h1 Y hb O) λ σ H Q h=>af9 h2 h
theorem aV6 {K:Frag} (w:∀ Q,tE K F σ H Q->t σ H Q) (h:tTt K (tB F) σ H Q):aV4 t σ H Q:=by
 obtain⟨c,H0,ρ,b,Y,R,f,q⟩:=h;obtain⟨⟨d,O⟩,h1,f⟩:=a_0 f;obtain⟨b',h2,f⟩:=a_0 f;have f':=f;cases f';refine w _ ⟨c,H0,ρ,d,_,R,h1,λ v H1 Hh s1 R1 Z=>?_⟩;cases d with
 |bl k =>
  have e:=qp h2;exact⟨k,Z,by rw[e];exact q H1 Hh s1 R1⟩
 |_=>cases h2
theorem xt  (o:B_1 X op f) (Y:XE X a F) (hb:XE X b G) (O:behindInMarks op b=false:=by first | exact ax3 _ | with_unfolding_all rfl):XT X (.Compare a [op] [b] pos) (tB (e2 f F G)):=by
 obtain⟨r,h1,h2⟩:=o;exact PT.wk (au7 h1 Y hb O) λ σ H Q h=>aV6 (λ Q h=>af9 h2 h) h
theorem aG2 {K:Frag} (o:OpD K r op) (o':OpD K r' Z)  (h:tE K (e3 op Z F G L) σ H Q):aO9 r r' (tE K F) (tE K G) (tE K L) σ H Q:=by
 obtain⟨c,H0,ρ,d,aa,R,f,q⟩:=h;obtain⟨⟨x,Y⟩,h1,f⟩:=a_0 f;obtain⟨⟨y,O⟩,h2,f⟩:=a_0 f;obtain⟨z,h3,f⟩:=a_0 f;obtain⟨k,h4,f⟩:=a_0 f;refine⟨c,H0,ρ,x,Y,R,h1,λ vx H1 Hh s1 R1 r1=>?_⟩;refine⟨c,H1,Y,y,O,R1,h2,λ vy H2 Hh2 s2 R2 r2=>?_⟩;refine o c H2 Hh2 O σ x y z vx vy _ R2 (Rep.mono s2 x r1) r2 h3 λ v H3 Hh3 s3 R3 r3=>?_;cases z with
 |bl k' =>
  have e:=qp h4;subst e;refine⟨k',r3,?_⟩;cases k' with
  |false =>
   rw[if_neg zc] at f ⊢;have f':=f;cases f';exact q _ H3 Hh3 (s1.trans (s2.trans s3)) R3 (by rfl)
  |true =>
   rw[if_pos rfl] at f ⊢;obtain⟨⟨w,ac⟩,h5,f⟩:=a_0 f;obtain⟨d',h6,f⟩:=a_0 f;have f':=f;cases f';refine⟨c,H3,O,w,_,R3,h5,λ vw H4 Hh4 s4 R4 r4=>?_⟩;exact o' c H4 Hh4 _ σ y w d vy vw Q R4 (Rep.mono s4 y (Rep.mono s3 y r2)) r4 h6 λ v H5 Hh5 s5 R5 r5=>q v H5 Hh5 (s1.trans (s2.trans (s3.trans (s4.trans s5)))) R5 r5
 |_=>cases h4
theorem xt3  (o:B_1 X op f) (o':B_1 X O f') (ha:XE X a F) (hb:XE X b G) (hc:XE X m L) (hm:lastMarks [op,O] [b,m]=false:=by with_unfolding_all rfl):XT X (.Compare a [op,O] [b,m] pos) (tB (e3 f f' F G L)):=by
 obtain⟨r,h1,h2⟩:=o;obtain⟨r',Y,Z⟩:=o';exact PT.wk (aH9 h1 Y ha hb hc hm) λ σ H Q h=>aV6 (λ Q h=>aG2 h2 Z h) h
theorem xif  (hc:XT X c T) (ha:XE X a F) (hb:XE X b G):XE X (.IfExp c a b pos) (eIf T F G):=PE.wk (aI5 hc ha hb) λ σ H Q Z=>by
 obtain⟨c,H0,ρ,d,Y,R,f,q⟩:=Z;obtain⟨⟨k,O⟩,h1,f⟩:=a_0 f;refine⟨c,H0,ρ,k,O,R,h1,λ H1 Hh s1 R1=>?_⟩;cases k with
 |true =>
  rw[if_pos rfl] at f ⊢;exact⟨c,H1,O,d,Y,R1,f,λ v H2 Hh2 s2 R2 r2=>q v H2 Hh2 (s1.trans s2) R2 r2⟩
 |false =>
  rw[if_neg zc] at f ⊢;exact⟨c,H1,O,d,Y,R1,f,λ v H2 Hh2 s2 R2 r2=>q v H2 Hh2 (s1.trans s2) R2 r2⟩
theorem bj3  (h:XE X a F):XE X (.BoolOp op [a] pos) F:=bn6 h
variable {rest:List Expr}
theorem bw8 (ha:XE X a F) (hb:XE X (.BoolOp .And (b::rest) pos) G):XE X (.BoolOp .And (a::b::rest) pos) (aL9 F G):=PE.wk (bo1 ha hb) λ σ H Q Z=>by
 obtain⟨c,H0,ρ,d,Y,R,f,q⟩:=Z;obtain⟨⟨z,O⟩,h1,f⟩:=a_0 f;obtain⟨k,h2,f⟩:=a_0 f;refine⟨c,H0,ρ,z,O,R,h1,λ v H1 Hh s1 R1 r1=>?_⟩;cases z with
 |bl k' =>
  have e:=qp h2;subst e;refine⟨k',r1,?_⟩;cases k' with
  |true =>
   rw[if_pos rfl] at f ⊢;exact⟨c,H1,O,d,Y,R1,f,λ v H2 Hh2 s2 R2 r2=>q v H2 Hh2 (s1.trans s2) R2 r2⟩
  |false =>
   rw[if_neg zc] at f ⊢;have f':=f;cases f';exact q _ H1 Hh s1 R1 (by rfl)
 |_=>cases h2
theorem xor (ha:XE X a F) (hb:XE X (.BoolOp .Or (b::rest) pos) G):XE X (.BoolOp .Or (a::b::rest) pos) (eOr F G):=PE.wk (bG1 ha hb) λ σ H Q Z=>by
 obtain⟨c,H0,ρ,d,Y,R,f,q⟩:=Z;obtain⟨⟨z,O⟩,h1,f⟩:=a_0 f;obtain⟨k,h2,f⟩:=a_0 f;refine⟨c,H0,ρ,z,O,R,h1,λ v H1 Hh s1 R1 r1=>?_⟩;cases z with
 |bl k' =>
  have e:=qp h2;subst e;refine⟨k',r1,?_⟩;cases k' with
  |true =>
   rw[if_pos rfl] at f ⊢;have f':=f;cases f';exact q _ H1 Hh s1 R1 (by rfl)
  |false =>
   rw[if_neg zc] at f ⊢;exact⟨c,H1,O,d,Y,R1,f,λ v H2 Hh2 s2 R2 r2=>q v H2 Hh2 (s1.trans s2) R2 r2⟩
 |_=>cases h2
theorem cv5 (ha:XE X a F):XE X (.UnaryOp .Not a pos) (cp0 F):=PE.wk (bn7 ha) λ σ H Q O=>by
 obtain⟨c,H0,ρ,d,Z,R,f,q⟩:=O;unfold cp0 at f;obtain⟨⟨z,Y⟩,h1,f⟩:=a_0 f;obtain⟨k,h2,f⟩:=a_0 f;dsimp only at h2 f;have f':some (D.bl (!k),Y)=some (d,Z):=f;cases f';refine⟨c,H0,ρ,z,_,R,h1,λ v H1 Hh s1 R1 r1=>?_⟩;cases z with
 |bl k' =>
  have e:k'=k:=qp h2;subst e;unfold Rep at r1;exact⟨k',r1,q _ H1 Hh s1 R1 (by unfold Rep;rfl)⟩
 |_=>cases h2
theorem xw (h:XW X a T):XT X a T:=PW.pt h
theorem v_0 (O:XT X a T):XW X (.BoolOp .And [a] pos) T:=aX6 O
theorem aa3 (O:XT X a T):XW X (.BoolOp .Or [a] pos) T:=bm4 O
theorem E_8 (ha:XT X a T) (hb:XW X (.BoolOp .And (b::rest) pos) U):XW X (.BoolOp .And (a::b::rest) pos) (tAnd T U):=PW.wk (bm5 ha hb) λ σ H Q Z=>by
 obtain⟨c,H0,ρ,k,Y,R,f,q⟩:=Z;obtain⟨⟨k',O⟩,h1,f⟩:=a_0 f;refine⟨c,H0,ρ,k',O,R,h1,λ H1 Hh s1 R1=>?_⟩;cases k' with
 |true =>
  rw[if_pos rfl] at f ⊢;exact⟨c,H1,O,k,Y,R1,f,λ H2 Hh2 s2 R2=>q H2 Hh2 (s1.trans s2) R2⟩
 |false =>
  rw[if_neg zc] at f ⊢;have f':=f;cases f';exact q H1 Hh s1 R1
theorem aT7 (ha:XT X a T) (hb:XW X (.BoolOp .Or (b::rest) pos) U):XW X (.BoolOp .Or (a::b::rest) pos) (tOr T U):=PW.wk (bF9 ha hb) λ σ H Q Z=>by
 obtain⟨c,H0,ρ,k,Y,R,f,q⟩:=Z;obtain⟨⟨k',O⟩,h1,f⟩:=a_0 f;refine⟨c,H0,ρ,k',O,R,h1,λ H1 Hh s1 R1=>?_⟩;cases k' with
 |true =>
  rw[if_pos rfl] at f ⊢;have f':=f;cases f';exact q H1 Hh s1 R1
 |false =>
  rw[if_neg zc] at f ⊢;exact⟨c,H1,O,k,Y,R1,f,λ H2 Hh2 s2 R2=>q H2 Hh2 (s1.trans s2) R2⟩
theorem aT9 (ha:XT X a T):XT X (.UnaryOp .Not a pos) (tNot T):=PT.wk (bn0 ha) λ σ H Q O=>by
 obtain⟨c,H0,ρ,k,Z,R,f,q⟩:=O;obtain⟨⟨k',Y⟩,h1,f⟩:=a_0 f;have f':=f;cases f';exact⟨c,H0,ρ,k',_,R,h1,λ H1 Hh s1 R1=>q H1 Hh s1 R1⟩
theorem bk2 {K:Frag}{H0 H:Hp}{d:D}{v:V}{k:Bool} (s:Same H0 H) (r:Rep K H0 d v) (h:bf8 d=some k):bM2 K v H k:=by
 cases d with
 |non=>unfold Rep at r;subst r;cases h;rfl
 |bl b=>unfold Rep at r;subst r;cases h;rfl
 |int i=>unfold Rep at r;subst r;cases h;rfl
 |str x=>cases h
 |fnv=>cases h
 |opq ks ds=>cases h
 |dct ks vs=>cases h
 |tup ds =>
  unfold Rep at r;obtain⟨p,vs,rfl,q,t⟩:=r;have e:(!ds.isEmpty)=k:=qp h;have e2:ds.isEmpty=vs.isEmpty:=by rw[Bool.eq_iff_iff,jk,jk,t.length]
  exact .inr (.inl ⟨vs,Same.seqT s q,by rw[<- e2];exact e.symm⟩)
 |lst ds =>
  unfold Rep at r;obtain⟨p,vs,rfl,q,t⟩:=r;have e:(!ds.isEmpty)=k:=qp h;have e2:ds.isEmpty=vs.isEmpty:=by rw[Bool.eq_iff_iff,jk,jk,t.length]
  exact .inl ⟨vs,Same.seq s q,by rw[<- e2];exact e.symm⟩
theorem xtv (ha:XE X a F) (he:∀ O,isTrue a X.env O=(do let v <- O;standAt a.pos;holding [v] (truthy v))):XT X a (tV F):=PT.wk (aH8 ha he) λ σ H Q Y=>by
 obtain⟨c,H0,ρ,k,aa,R,f,q⟩:=Y;obtain⟨⟨d,Z⟩,h1,f⟩:=a_0 f;obtain⟨k',h2,f⟩:=a_0 f;have f':=f;cases f';exact⟨c,H0,ρ,d,_,R,h1,λ v H1 Hh s1 R1 r1=>⟨k,bk2 R1.same r1 h2,q H1 Hh s1 R1⟩⟩
theorem xaN:XA X [] aN:=PA.wk l_0 λ σ H Q O=>by
 obtain⟨c,H0,ρ,ds,Y,R,f,q⟩:=O;have Z:=f;cases Z;exact q [] H0 H (Same.refl _) R Reps.nil_
theorem xaC  (ha:XE X e F) (hr:XA X es A) (hs:starEach (e::es) X.env=(false,eval e X.env)::starEach es X.env:=by rfl):XA X (e::es) (aC F A):=PA.wk (c_5 ha hr hs) λ σ H Q Y=>by
 obtain⟨c,H0,ρ,ds,aa,R,f,q⟩:=Y;obtain⟨⟨d,O⟩,h1,f⟩:=a_0 f;obtain⟨⟨r,Z⟩,h2,f⟩:=a_0 f;have f':=f;cases f';refine⟨c,H0,ρ,d,O,R,h1,λ v H1 Hh s1 R1 r1=>?_⟩;refine⟨c,H1,O,r,_,R1,h2,λ vs H2 Hh2 s2 R2 r2=>?_⟩;exact q _ H2 Hh2 (s1.trans s2) R2 (Reps.cons (Rep.mono s2 d r1) r2)
theorem aV8  (h:n<=1000):n<=sizeLine:=yy (F_1 h)
theorem l_8  (h:XA X es A):XE X (.Tuple es x1 pos) (c_0 A):=PE.wk (ah7 h) λ σ H Q O=>by
 obtain⟨c,H0,ρ,d,ac,R,f,q⟩:=O;obtain⟨⟨ds,aa⟩,h1,f⟩:=a_0 f;split at f
 ·rename_i hl;cases f;refine⟨c,H0,ρ,ds,_,R,h1,λ vs H1 Hh s1 Y Z=>⟨by rw[<- Z.length];exact aV8 hl,λ p hp=>?_⟩⟩;have S:=Step.alloc (o:=.tup vs) Y.same hp;refine q _ _ _ (s1.trans S.s0) (Y.after S) ?_;exact⟨p,vs,rfl,.inl (.inl a_3),Reps.mono S.s0 ds Z⟩
 ·cases f
theorem J_8  (h:XA X es A):XE X (.List es pos) (s_3 A):=PE.wk (ah9 h) λ σ H Q O=>by
 obtain⟨c,H0,ρ,d,ac,R,f,q⟩:=O;obtain⟨⟨ds,aa⟩,h1,f⟩:=a_0 f;split at f
 ·rename_i hl;cases f;refine⟨c,H0,ρ,ds,_,R,h1,λ vs H1 Hh s1 Y Z=>⟨by rw[<- Z.length];exact aV8 hl,λ p hp=>?_⟩⟩;have S:=Step.alloc (o:=.lst vs) Y.same hp;refine q _ _ _ (s1.trans S.s0) (Y.after S) ?_;exact⟨p,vs,rfl,.inl (.inl a_3),Reps.mono S.s0 ds Z⟩
 ·cases f
theorem bv0:@dPl=@ixN:=rfl
theorem bw3 {K:Frag} (r:Reps K H ds vs) (h:atD ds i=some d):∃ v,atI vs i=some v/\Rep K H d v:=by obtain⟨j,h1,h2⟩:=a_0 h;obtain⟨v,e1,e2⟩:=r.get h2;refine⟨v,?_,e2⟩;unfold atI;rw[<- r.length,<- bv0,h1];exact e1
theorem PO.wk  (h:PO X e t) (w:∀ σ H Q,t' σ H Q->t σ H Q):PO X e t':=λ pins s σ H Q I q=>h pins s σ H Q I (w σ H Q q)
theorem xoN:XO X none oN:=PO.wk aY7 λ σ H Q O=>by
 obtain⟨c,H0,ρ,o,Y,R,f,q⟩:=O;have Z:=f;cases Z;exact q H0 H (Same.refl _) R
theorem xoS (h:XE X e F):XO X (some e) (oS F):=PO.wk (aY6 h) λ σ H Q O=>by
 obtain⟨c,H0,ρ,o,Z,R,f,q⟩:=O;obtain⟨⟨d,Y⟩,h1,f⟩:=a_0 f;obtain⟨i,h2,f⟩:=a_0 f;have f':=f;cases f';refine⟨c,H0,ρ,d,_,R,h1,λ v H1 Hh s1 R1 r1=>?_⟩;cases d with
 |int j =>
  have e:=qp h2;subst e;exact⟨j,r1,q H1 Hh s1 R1⟩
 |_=>cases h2
theorem R_3 (n d:Nat) (o:Option Int):T_3 n d o=HT.sIx n d o:=by cases o <;> rfl
theorem aC8 {K:Frag} (r:Reps K H ds vs) (lo hi:Option Int):Reps K H (R_4 ds lo hi) (aF0 vs lo hi):=by unfold R_4 aF0;rw[R_3,R_3,r.length];exact (r.drop _).take _
end
section
variable {K:Frag}
theorem N_8  (h:∀ x y d,f x y=some d->∃ i j,x=.int i/\y=.int j/\C i j/\∀ H,Rep K H d (g i j)):OpD K (rI C g) f:=λ c H0 H ρ σ x y d vx vy Q R O Y e q=>by
 obtain⟨i,j,rfl,rfl,hc,Z⟩:=h x y d e;exact⟨i,j,O,Y,hc,q _ H0 H (Same.refl _) R (Z H0)⟩
theorem ai3  (h:∀ x y d,f x y=some d->∃ i j,x=.int i/\y=.int j/\∀ H,Rep K H d (g i j)):OpD K (rI0 g) f:=λ c H0 H ρ σ x y d vx vy Q R O Y e q=>by
 obtain⟨i,j,rfl,rfl,Z⟩:=h x y d e;exact⟨i,j,O,Y,q _ H0 H (Same.refl _) R (Z H0)⟩
theorem f_7 (H:Hp) (i:Int):Rep K H (.int i) (.int i):=by rfl
theorem o_5 (H:Hp) (i:Bool):Rep K H (.bl i) (.bl i):=by rfl
theorem ifs  [Decidable c]  (h:(if c then some a else none)=some d):c/\a=d:=by
 by_cases O:c
 ·rw[if_pos O] at h;exact⟨O,qp h⟩
 ·rw[if_neg O] at h;cases h
theorem T_2:Z_7 X .Sub L_5:=⟨_,bo5,ai3 λ x y d e=>by
 obtain⟨i,j,rfl,rfl,e⟩:=K_6 e;cases e;exact⟨_,_,rfl,rfl,λ H=>f_7 H _⟩⟩
def CMulD (i j:Int):Prop:=j_7 i j=true
theorem B_8  (h:ar0 i=true):Builtin.Int.intBits i<=1000:=by
 have h:=yq h;unfold Builtin.Int.intBits;split
 ·exact zx _
 ·rename_i hz;have hz:i≠0:=by simpa using hz
  have O:i.natAbs≠0:=by omega
  have:=(Nat.log2_lt O).mpr h;omega
theorem CMulD.ok  (h:CMulD i j):IntMulOk i j:=by
 unfold CMulD j_7 at h;simp only[Bool.or_eq_true,zj,jh] at h;rcases h with (h | h) | ⟨h1,h2⟩
 ·exact IntMulOk.of_left (Z9 (by omega) (by omega))
 ·exact IntMulOk.of_right (Z9 (by omega) (by omega))
 ·unfold IntMulOk;have Y:=B_8 h1;have O:=B_8 h2;have:Builtin.Int.intTooBig ((Builtin.Int.intBits i:Int)+(Builtin.Int.intBits j:Int))=false:=by
   refine zn ?_;have:(2000:Int)<=bitsLine:=by decide
   omega
  simp[this]
theorem ac2:Z_7 X .Mult Y_1:=⟨rI CMulD λ i j=>.int (i*j),opI λ _ _ _ _ _ _ _ O q=>mul_int q O.ok,N_8 λ x y d e=>by
 obtain⟨i,j,rfl,rfl,e⟩:=K_6 e;obtain⟨h,rfl⟩:=ifs e;exact⟨_,_,rfl,rfl,h,λ H=>f_7 H _⟩⟩
def bw6 (i j:Int):Prop:=z_8 j=true
theorem ba3:Z_7 X .FloorDiv aM8:=⟨rI bw6 λ i j=>.int (i.fdiv j),opI λ i j _ _ _ _ _ O q=>by
  unfold bw6 z_8 at O;simp only[zj,jh] at O;refine floordiv_int O.1 q (.inl (PyProof.noPylong_of_log2 ?_));have Y:j.natAbs≠0:=by have:=O.1;omega
  have:=(Nat.log2_lt Y).mpr O.2;omega,N_8 λ x y d e=>by
 obtain⟨i,j,rfl,rfl,e⟩:=K_6 e;obtain⟨h,rfl⟩:=ifs e;exact⟨_,_,rfl,rfl,h,λ H=>f_7 H _⟩⟩
theorem j_9:Z_7 X .Mod i_7:=⟨_,aZ9,N_8 λ x y d e=>by
 obtain⟨i,j,rfl,rfl,e⟩:=K_6 e;obtain⟨h,rfl⟩:=ifs e;exact⟨_,_,rfl,rfl,h,λ H=>f_7 H _⟩⟩
theorem ca4:Z_7 X .Pow bL0:=⟨_,bo6,N_8 λ x y d e=>by
 obtain⟨i,j,rfl,rfl,e⟩:=K_6 e;obtain⟨h,rfl⟩:=ifs e;exact⟨_,_,rfl,rfl,⟨h.1,by omega,h.2.2⟩,λ H=>f_7 H _⟩⟩
def bm3 (K:Frag):R2:=λ x y H Q=>∃ l b xs zs,x=.ref l/\y=.ref b/\SqL K H l xs/\SqL K H b zs/\xs.length+zs.length<=sizeLine/\∀ p,H p=none->Q (.ref p) (upd H p (.lst (xs++zs)))
theorem aw9:OpR X (binaryOp .Add) (bm3 X.K):=by
 intro pins s σ H x y v u Q I rx ry h;obtain⟨l,b,xs,zs,rfl,rfl,hH,hB,hz,q⟩:=h;cases rx;cases ry;obtain⟨Y,r,pl,_⟩:=I.list hH;obtain⟨O,r2,ad,_⟩:=I.list hB;have hl:=r.length;have ai:=r2.length;obtain⟨⟨cls,dd,data,sl⟩,ho,hc,n,hd⟩:=pl.isList;obtain⟨⟨ah,af,ag,ae⟩,Z,ac,n2,aa⟩:=ad.isList;subst hc hd ac aa;have e:Y.toArray++O.toArray=(Y++O).toArray:=by simp
 refine concat_meets ⟨_,ho,rfl⟩ ⟨_,Z,rfl⟩ noFill_list_add seq_list_add PySem.F.slot_list_add PySem.F.entry_list_add (PySem.F.args_list_add_2 _ _) (list_addW l b Y.toArray O.toArray n n2 dd af sl ae (by rw[zf,zf];omega)) ⟨ho,Z,?_⟩;rw[e];exact⟨.ref _,_,I.lnew (r.append r2) (by rw[zh];omega),rfl,q _ I.fresh⟩
def bF8 (K:Frag):R2:=λ x y H Q=>rI0 (λ i j=>.int (i+j)) x y H Q\/((∃ i j,x=.str i/\y=.str j/\i.length+j.length<=sizeLine/\Q (.str (i++j)) H)\/bm3 K x y H Q)
theorem l_5:Z_7 X .Add i_1:=⟨bF8 X.K,op_add.or (op_add_str.or aw9),λ c H0 H ρ σ x y d vx vy Q R O Y e q=>by
 cases x with
 |int i =>
  cases y with
  |int j =>
   cases e;exact .inl ⟨_,_,O,Y,q _ H0 H (Same.refl _) R (f_7 H0 _)⟩
  |_=>cases e
 |str i =>
  cases y with
  |str j =>
   obtain⟨h,rfl⟩:=ifs e;exact .inr (.inl ⟨_,_,O,Y,h,q _ H0 H (Same.refl _) R (by rfl)⟩)
  |_=>cases e
 |lst ds =>
  cases y with
  |lst es =>
   obtain⟨h,rfl⟩:=ifs e;obtain⟨p,vs,rfl,s,t⟩:=O;obtain⟨p2,Z,rfl,s2,t2⟩:=Y;refine .inr (.inr ⟨p,p2,vs,Z,rfl,rfl,Same.seq R.same s,Same.seq R.same s2,by rw[<- t.length,<- t2.length];exact h,λ p' hp=>?_⟩);have S:=Step.alloc (o:=.lst (vs++Z)) R.same hp;refine q _ _ _ S.s0 (R.after S) ?_;exact⟨p',_,rfl,.inl (.inl a_3),Reps.mono S.s0 _ (t.app t2)⟩
  |_=>cases e
 |_=>cases y <;> cases e⟩
theorem bw7  (ha:XE X a F):XE X (.UnaryOp .USub a pos) (e1 aT1 F):=PE.wk (bG0 bj9 ha) λ σ H Q O=>by
 obtain⟨c,H0,ρ,d,Z,R,f,q⟩:=O;obtain⟨⟨x,Y⟩,h1,f⟩:=a_0 f;obtain⟨d',h2,f⟩:=a_0 f;have f':=f;cases f';refine⟨c,H0,ρ,x,_,R,h1,λ v H1 Hh s1 R1 r1=>?_⟩;cases x with
 |int i =>
  have e:=qp h2;subst e;exact⟨i,r1,q _ H1 Hh s1 R1 (f_7 _ _)⟩
 |_=>cases h2
theorem bL3 :OpD K (rI0 λ i j=>.bl (p i j)) (bz0 p):=ai3 λ x y d e=>by
 obtain⟨i,j,rfl,rfl,e⟩:=K_6 e;cases e;exact⟨_,_,rfl,rfl,λ H=>o_5 H _⟩
theorem cLt:B_1 X .Lt dLt:=⟨_,bG5,bL3⟩
theorem cLe:B_1 X .LtE dLe:=⟨_,bG6,bL3⟩
theorem cGt:B_1 X .Gt dGt:=⟨_,bG7,bL3⟩
theorem cGe:B_1 X .GtE dGe:=⟨_,bN9,bL3⟩
theorem aR7 {H:Hp}{x:D}{v:V} (r:Rep K H x v):isN x=decide (v=.non):=by
 cases x with
 |non=>unfold Rep at r;subst r;rfl
 |bl b=>unfold Rep at r;subst r;rfl
 |int b=>unfold Rep at r;subst r;rfl
 |str b=>unfold Rep at r;subst r;rfl
 |tup ds=>unfold Rep at r;obtain⟨p,vs,rfl,_⟩:=r;rfl
 |fnv=>unfold Rep at r;obtain⟨p,rfl,_⟩:=r;rfl
 |opq ks vs=>unfold Rep at r;obtain⟨p,o,tab,rfl,_⟩:=r;rfl
 |dct ks vs=>unfold Rep at r;obtain⟨p,o,us,rfl,_⟩:=r;rfl
 |lst ds=>unfold Rep at r;obtain⟨p,vs,rfl,_⟩:=r;rfl
theorem cIs:B_1 X .Is dIs:=⟨_,bo8,λ c H0 H ρ σ x y d vx vy Q R Y O e q=>by
 cases y with
 |non =>
  have Z:D.bl (isN x)=d:=by cases x <;> exact qp e
  subst Z;exact⟨O,by rw[<- aR7 Y];exact q _ H0 H (Same.refl _) R (o_5 _ _)⟩
 |_=>cases x <;> cases e⟩
theorem aD8:B_1 X .IsNot Y_2:=⟨_,aZ8,λ c H0 H ρ σ x y d vx vy Q R Y O e q=>by
 cases y with
 |non =>
  have Z:D.bl (!isN x)=d:=by cases x <;> exact qp e
  subst Z;exact⟨O,by rw[<- aR7 Y];exact q _ H0 H (Same.refl _) R (o_5 _ _)⟩
 |_=>cases x <;> cases e⟩
end
theorem u_6:∀ (ds es:List D),R_0 ds es=((List.range (min ds.length es.length)).all (λ j=>eqD (ds.getD j .non) (es.getD j .non))&&ds.length==es.length)
 |[],[]=>by simp[R_0]
 |[],e::es=>by simp[R_0]
 |d::ds,[]=>by simp[R_0]
 |d::ds,e::es=>by
  rw[R_0,u_6 ds es];have h:min (d::ds).length (e::es).length=min ds.length es.length+1:=by simp only[zi];omega
  rw[h,List.range_succ_eq_map,j7,List.all_map];have h2:((d::ds).length==(e::es).length)=(ds.length==es.length):=by simp
  rw[h2,Bool.and_assoc];rfl
theorem A_5:∀ {ds:List D}{n:Nat}{j:Nat}{d:D},B_9 ds<=n->ds[j]?=some d->dpD d<=n
 |[],_,_,_,_,e=>by simp at e
 |d::ds,n,0,_,h,e=>by
  rw[Y_0] at h;simp at e;subst e;omega
 |d::ds,n,j+1,d',h,e=>by
  rw[Y_0] at h;exact A_5 (ds:=ds) (by omega) (by simpa using e)
section
variable {X:Cx}{pins:List (Addr×Obj)}{σ:L2.St}{H:Hp}{s:Shared}
theorem bd4  (hd:Reps X.K H ds vs) (he:Reps X.K H es vs) (h:∀ (j:Nat) (d e:D) (v:V),vs[j]?=some v->ds[j]?=some d->es[j]?=some e->Rep X.K H d v->Rep X.K H e v->eqD d e=true):R_0 ds es=true:=by
 rw[u_6];have l1:=hd.length;have l2:=he.length;rw[zj,Yn];refine⟨λ j hj=>?_,by simp;omega⟩;have Y:j<ds.length:=by have:=List.mem_range.mp hj;omega
 have O:j<es.length:=by omega
 obtain⟨v,Z,a2⟩:=hd.get (i:=j) (d:=ds[j]) (by simp[Y]);obtain⟨v',b1,b2⟩:=he.get (i:=j) (d:=es[j]) (by simp[O]);rw[Z] at b1;cases b1;have:=h j ds[j] es[j] v Z (by simp[Y]) (by simp[O]) a2 b2;simpa [List.getD,Y,O] using this
theorem bp4 (I:Inv X pins σ H s)  (h:SqT X.K H a xs) (h':SqL X.K H a ys):False:=by
 obtain⟨_,_,⟨o,e,c,_⟩,_⟩:=I.tuple h;obtain⟨_,_,⟨o',n,O,c',_⟩,_⟩:=I.list h';rw[e] at O;cases O;have z:=c.symm.trans c';injection z with z
 exact absurd z (by decide)
theorem ce9  (h:dpD (.tup ds)<1000):B_9 ds<999:=by rw[R_1] at h;omega
theorem cf0  (h:dpD (.lst ds)<1000):B_9 ds<999:=by rw[R_2] at h;omega
theorem bT0  (h:B_9 ds<999) {j:Nat} (e:ds[j]?=some d):dpD d<1000:=by have:=A_5 (n:=998) (by omega) e;omega
inductive Sh (X:Cx) (H:Hp) (s:Shared):D->V->Value->Prop
 |non:Sh X H s .non .non .none
 |bl (b:Bool):Sh X H s (.bl b) (.bl b) (.bool b)
 |int (i:Int) (t:Tok):Sh X H s (.int i) (.int i) (.int i t)
 |str (x:Str) (t:Tok):Sh X H s (.str x) (.str x) (.str x t)
 |tup {ds:List D}{p:Addr}{vs:List V}{its:List Value} (s1:SqT X.K H p vs) (q:Reps X.K H ds vs) (rv:Vals vs its) (tp:IsTup s.heap p its.toArray) (z:B_9 ds<999):Sh X H s (.tup ds) (.ref p) (.ref p)
 |lst {ds:List D}{p:Addr}{vs:List V}{its:List Value} (s1:SqL X.K H p vs) (q:Reps X.K H ds vs) (rv:Vals vs its) (tp:s.heap.IsList p its.toArray) (z:B_9 ds<999):Sh X H s (.lst ds) (.ref p) (.ref p)
theorem U_4 (I:Inv X pins σ H s) {d:D}{x:V}{u:Value} (hz:dpD d<1000) (r:Rep X.K H d x) (w:RelV x u):Sh X H s d x u:=by
 cases d with
 |fnv=>exact absurd hz (by rw[bz8];omega)
 |opq ks vs=>exact absurd hz (by rw[bf4];omega)
 |dct ks vs=>exact absurd hz (by rw[bf5];omega)
 |non=>unfold Rep at r;subst r;cases (show u=Value.none from w);exact .non
 |bl b=>unfold Rep at r;subst r;cases (show u=Value.bool _ from w);exact .bl b
 |int i=>unfold Rep at r;subst r;obtain⟨t,rfl⟩:=w;exact .int i t
 |str i=>unfold Rep at r;subst r;obtain⟨t,rfl⟩:=w;exact .str i t
 |tup ds =>
  unfold Rep at r;obtain⟨p,vs,rfl,O,q⟩:=r;cases (show u=Value.ref _ from w);obtain⟨aa,Z,Y,_⟩:=I.tuple O;exact .tup O q Z Y (ce9 hz)
 |lst ds =>
  unfold Rep at r;obtain⟨p,vs,rfl,O,q⟩:=r;cases (show u=Value.ref _ from w);obtain⟨aa,Z,Y,_⟩:=I.list O;exact .lst O q Z Y.isList (cf0 hz)
theorem au1 (I:Inv X pins σ H s):∀ (n:Nat) (d e:D) (v:V) (u:Value),dpD d<=n->dpD d<1000->dpD e<1000->Rep X.K H d v->Rep X.K H e v->RelV v u->eqD d e=true
 |n,d,e,v,u,hn,hz1,hz2,r1,r2,w=>by
  have go:∀ {ds es:List D}{vs:List V}{Z:List Value},B_9 ds+1<=n->B_9 ds<999->B_9 es<999->Reps X.K H ds vs->Reps X.K H es vs->Vals vs Z->R_0 ds es=true:=by
   intro ds es vs Z hn z1 z2 q1 q2 rv;cases n with
   |zero=>omega
   |succ n =>
    refine bd4 q1 q2 λ j d e v h0 h1 h2 a b=>?_;obtain⟨u,_,w⟩:=rv.get h0;exact au1 I n d e v u (A_5 (by omega) h1) (bT0 z1 h1) (bT0 z2 h2) a b w
  have k1:=U_4 I hz1 r1 w;have k2:=U_4 I hz2 r2 w;clear r1 r2 w hz1 hz2;cases k1 with
  |tup Y q rv tp z=>cases k2 with
   |tup O q' ac aa z' =>
    cases I.tuple_inj Y O;rw[R_1] at hn;exact go hn z z' q q' rv
   |lst O=>exact (bp4 I Y O).elim
  |lst Y q rv tp z=>cases k2 with
   |lst O q' ac aa z' =>
    cases I.list_inj Y O;rw[R_2] at hn;exact go hn z z' q q' rv
   |tup O=>exact (bp4 I O Y).elim
  |_=>cases k2;simp
def RcN (X:Cx) (H:Hp) (s:Shared) (n:Nat):Prop:=∀ (A:Around) (d e:D) (x y:V) (u v:Value),dpD d<=n->dpD d<1000->dpD e<1000->A.units+n<cLine->Rep X.K H d x->RelV x u->Rep X.K H e y->RelV y v->SeqAt.RcAt A s u v (eqD d e)
def EqN (X:Cx) (H:Hp) (s:Shared) (n:Nat):Prop:=∀ (A:Around) (d e:D) (x y:V) (u v:Value),dpD d<=n->dpD d<1000->dpD e<1000->A.units+n<cLine->Rep X.K H d x->RelV x u->Rep X.K H e y->RelV y v->SeqAt.EqAt A s u v (eqD d e)
theorem bt3 (I:Inv X pins σ H s)  (rc:RcN X H s n):EqN X H s n:=by
 intro A d e x y u v hn Z aa hA r1 w1 r2 w2;have Y:A.units<cLine:=by omega
 have key:=rc A d e x y u v hn Z aa hA r1 w1 r2 w2;have one:x=y->eqD d e=true:=λ z=>au1 I _ d e x u (qr _) Z aa r1 (z▸r2) w1;have rf:∀ p1 p2,x=.ref p1->y=.ref p2->u=.ref p1->v=.ref p2->SeqAt.EqAt A s u v (eqD d e):=λ p1 p2 h1 h2 h3 h4=>by
  subst h1 h2 h3 h4;by_cases h:p1=p2
  ·rw[one (by rw[h]),h];exact SeqAt.EqAt.same _
  ·exact SeqAt.EqAt.of_refs h key
 clear key one;have k1:=U_4 I Z r1 w1;have k2:=U_4 I aa r2 w2;cases k1 with
 |non=>cases k2;exact SeqAt.EqAt.same _;exact SeqAt.EqAt.none_bool _;exact SeqAt.EqAt.none_int _ _;exact SeqAt.EqAt.none_str _ _;exact SeqAt.EqAt.none_tuple ‹_› Y;exact SeqAt.EqAt.none_list ‹_› Y
 |bl=>cases k2;exact SeqAt.EqAt.bool_none _;exact SeqAt.EqAt.bool_bool _ _;exact SeqAt.EqAt.bool_int _ _ _;exact SeqAt.EqAt.bool_str _ _ _;exact SeqAt.EqAt.bool_tuple _ ‹_› Y;exact SeqAt.EqAt.bool_list _ ‹_› Y
 |int=>cases k2;exact SeqAt.EqAt.int_none _ _;exact SeqAt.EqAt.int_bool _ _ _;exact SeqAt.EqAt.int_int _ _ _ _;exact SeqAt.EqAt.int_str _ _ _ _;exact SeqAt.EqAt.int_tuple _ _ ‹_› Y;exact SeqAt.EqAt.int_list _ _ ‹_› Y
 |str=>cases k2;exact SeqAt.EqAt.str_none _ _;exact SeqAt.EqAt.str_bool _ _ _;exact SeqAt.EqAt.str_int _ _ _ _;exact SeqAt.EqAt.str_str _ _ _ _;exact SeqAt.EqAt.str_tuple _ _ ‹_› Y;exact SeqAt.EqAt.str_list _ _ ‹_› Y
 |tup s1 q1 ac O=>cases k2;exact SeqAt.EqAt.tuple_none O Y;exact SeqAt.EqAt.tuple_bool _ O Y;exact SeqAt.EqAt.tuple_int _ _ O Y;exact SeqAt.EqAt.tuple_str _ _ O Y;exact rf _ _ rfl rfl rfl rfl;exact rf _ _ rfl rfl rfl rfl
 |lst s1 q1 ac O=>cases k2;exact SeqAt.EqAt.list_none O Y;exact SeqAt.EqAt.list_bool _ O Y;exact SeqAt.EqAt.list_int _ _ O Y;exact SeqAt.EqAt.list_str _ _ O Y;exact rf _ _ rfl rfl rfl rfl;exact rf _ _ rfl rfl rfl rfl
theorem aE6 {O:List Value} (h:j<O.toArray.size):O[j]?=some O.toArray[j]:=by
 have h':j<O.length:=by simpa using h
 simp[h']
theorem Q_0 {A:Around} (aa:EqN X H s n)  (hn:B_9 ds<=n) (ac:B_9 ds<1000) (ad:B_9 es<1000) (hA:A.in1.units+n<cLine) (q1:Reps X.K H ds vs) (q2:Reps X.K H es Y) (rv:Vals vs O) (Z:Vals Y its')
  (j:Nat) (h1:j<O.toArray.size) (h2:j<its'.toArray.size):SeqAt.EqAt A.in1 s O.toArray[j] its'.toArray[j] (eqD (ds.getD j .non) (es.getD j .non)):=by
 have l1:=q1.length;have l2:=q2.length;have m1:=rv.length;have m2:=Z.length;have k1:j<ds.length:=by rw[zf] at h1;omega
 have k2:j<es.length:=by rw[zf] at h2;omega
 have e1:ds[j]?=some ds[j]:=by simp[k1]
 have e2:es[j]?=some es[j]:=by simp[k2]
 obtain⟨v,a1,a2⟩:=q1.get e1;obtain⟨v',b1,b2⟩:=q2.get e2;obtain⟨u,c1,c2⟩:=rv.get a1;obtain⟨u',d1,d2⟩:=Z.get b1;rw[aE6 h1] at c1;rw[aE6 h2] at d1;have g1:ds.getD j .non=ds[j]:=by simp[List.getD,k1]
 have g2:es.getD j .non=es[j]:=by simp[List.getD,k2]
 rw[g1,g2,Zq c1,Zq d1];exact aa A.in1 ds[j] es[j] v v' u u' (A_5 hn e1) (by have z:=A_5 (n:=999) (by omega) e1;omega) (by have z:=A_5 (n:=999) (by omega) e2;omega) hA a2 c2 b2 d2
theorem rcS (I:Inv X pins σ H s) (n:Nat) (ih:∀ m,m<n->EqN X H s m):RcN X H s n:=by
 intro A d e x y u v hn ad ac hA r1 w1 r2 w2;have Y:A.units<cLine:=by omega
 have hi:=λ _=>by show A.units+1+(n-1)<cLine;omega
 have k1:=U_4 I ad r1 w1;have k2:=U_4 I ac r2 w2;clear r1 r2 w1 w2;cases k1 with
 |non=>cases k2;exact SeqAt.RcAt.none_none;exact SeqAt.RcAt.none_bool _;exact SeqAt.RcAt.none_int _ _;exact SeqAt.RcAt.none_str _ _;exact SeqAt.RcAt.none_tuple ‹_› Y;exact SeqAt.RcAt.none_list ‹_› Y
 |bl=>cases k2;exact SeqAt.RcAt.bool_none _;exact SeqAt.RcAt.bool_bool _ _;exact SeqAt.RcAt.bool_int _ _ _;exact SeqAt.RcAt.bool_str _ _ _;exact SeqAt.RcAt.bool_tuple _ ‹_› Y;exact SeqAt.RcAt.bool_list _ ‹_› Y
 |int=>cases k2;exact SeqAt.RcAt.int_none _ _;exact SeqAt.RcAt.int_bool _ _ _;exact SeqAt.RcAt.int_int _ _ _ _;exact SeqAt.RcAt.int_str _ _ _ _;exact SeqAt.RcAt.int_tuple _ _ ‹_› Y;exact SeqAt.RcAt.int_list _ _ ‹_› Y
 |str=>cases k2;exact SeqAt.RcAt.str_none _ _;exact SeqAt.RcAt.str_bool _ _ _;exact SeqAt.RcAt.str_int _ _ _ _;exact SeqAt.RcAt.str_str _ _ _ _;exact SeqAt.RcAt.str_tuple _ _ ‹_› Y;exact SeqAt.RcAt.str_list _ _ ‹_› Y
 |@tup ds p1 _ aa s1 q1 Z O z1 =>
  cases k2
  case tup es p2 _ its2 s2 q2 rv2 tp2 z2 =>
   rw[R_1] at hn;have z:=SeqAt.RcAt.tuples O tp2 Y (Q_0 (ih (n-1) (by omega)) (by omega) (by omega) (by omega) (hi (by omega)) q1 q2 Z rv2);rw[zf,zf,<- Z.length,<- rv2.length,<- q1.length,<- q2.length] at z;rw[eqD,u_6];exact z
  exact SeqAt.RcAt.tuple_none O Y;exact SeqAt.RcAt.tuple_bool _ O Y;exact SeqAt.RcAt.tuple_int _ _ O Y;exact SeqAt.RcAt.tuple_str _ _ O Y;exact SeqAt.RcAt.tuple_list O ‹_› Y
 |@lst ds p1 _ aa s1 q1 Z O z1 =>
  cases k2
  case lst es p2 _ its2 s2 q2 rv2 tp2 z2 =>
   rw[R_2] at hn;have l1:aa.toArray.size=ds.length:=by rw[zf,<- Z.length,<- q1.length]
   have l2:its2.toArray.size=es.length:=by rw[zf,<- rv2.length,<- q2.length]
   rw[eqD,u_6];by_cases hl:ds.length=es.length
   ·have z:=SeqAt.RcAt.lists O tp2 (by rw[l1,l2];exact hl) Y (Q_0 (ih (n-1) (by omega)) (by omega) (by omega) (by omega) (hi (by omega)) q1 q2 Z rv2);rw[l1] at z;rw[show min ds.length es.length=ds.length by omega,show (ds.length==es.length)=true by simp[hl],Yb];exact z
   ·rw[show (ds.length==es.length)=false by simp[hl],Bool.and_false];exact SeqAt.RcAt.lists_lengths O tp2 (by rw[l1,l2];simp[hl]) Y
  exact SeqAt.RcAt.list_none O Y;exact SeqAt.RcAt.list_bool _ O Y;exact SeqAt.RcAt.list_int _ _ O Y;exact SeqAt.RcAt.list_str _ _ O Y;exact SeqAt.RcAt.list_tuple O ‹_› Y
theorem aB6 (I:Inv X pins σ H s) (n:Nat):EqN X H s n:=by
 induction n using Nat.strongRecOn with
 |ind n O=>exact bt3 I (rcS I n O)
theorem rcN (I:Inv X pins σ H s) (n:Nat):RcN X H s n:=rcS I n λ m _=>aB6 I m
def bP5 (K:Frag):R2:=λ x y H Q=>∃ d e,Rep K H d x/\Rep K H e y/\dpD d<=30/\dpD e<=30/\Q (.bl (eqD d e)) H
theorem bo9 (hu:X.A.units+64<cLine):OpR X (compareOp .Eq) (bP5 X.K):=by intro pins s σ H x y v u Q I Y ry h;obtain⟨d,e,O,Z,hd,aa,q⟩:=h;exact rcN I 30 X.A d e x y v u hd (by omega) (by omega) (by omega) O Y Z ry X.prog X.w X.xe _ ⟨.bl _,H,I,rfl,q⟩
theorem bI4 {K:Frag}:OpD K (bP5 K) dEq:=λ c H0 H ρ σ x y d vx Z Q R Y O e q=>by
 unfold dEq at e;split at e
 ·rename_i hd;cases e;exact⟨x,y,Rep.mono R.same x Y,Rep.mono R.same y O,hd.1,hd.2,q _ H0 H (Same.refl _) R (o_5 _ _)⟩
 ·cases e
theorem cEq (O:X.A.units+64<cLine):B_1 X .Eq dEq:=⟨_,bo9 O,bI4⟩
end
section
variable {X:Cx}
def BOk (X:Cx) (f:Value) (g:List D->Option D):Prop:=∃ r,CallR X f r/\∀ (c:FC) (H0 H:Hp) (ρ:En) (σ:L2.St) (ds:List D) (d:D) (vs:List V) (Q:VK),RS X.K c H0 H ρ σ->Reps X.K H0 ds vs->g ds=some d->Aft X.K c H0 ρ σ d Q->r vs H Q
theorem bu4  (o:∀ (c:FC) (H0 H:Hp) (ρ:En) (σ:L2.St) (ds:List D) (d:D) (vs:List V) (Q:VK),RS X.K c H0 H ρ σ->Reps X.K H0 ds vs->g ds=some d->Aft X.K c H0 ρ σ d Q->r vs H Q)
   (h:tE X.K (eF g A) σ H Q):tCB r (tAa X.K A) σ H Q:=by
 obtain⟨c,H0,ρ,d,Y,R,f,q⟩:=h;obtain⟨⟨ds,O⟩,h1,f⟩:=a_0 f;obtain⟨d',h2,f⟩:=a_0 f;have f':=f;cases f';exact⟨c,H0,ρ,ds,_,R,h1,λ vs H1 Hh s1 Z r1=>o c H1 Hh _ σ ds d vs Q Z r1 h2 λ v H2 Hh2 s2 R2 r2=>q v H2 Hh2 (s1.trans s2) R2 r2⟩
theorem xB {id:String} (o:BOk X (.builtin id) g) (hg:Gl X x) (Z:X.mg x=none) (hv:bootBuiltins x=some (.builtin id)) (ha:XA X (e::es) A) (hn:x≠"__name__":=by decide) (Y:(x==("__debug__":Str))=false:=by decide)
  (he:starEach (e::es) X.env=(false,eval e X.env)::starEach es X.env:=by rfl) (O:(backTo pos (starEach es X.env)).any (·.1)=false:=by rfl):XE X (.Call (.Name x p) (e::es) [] pos) (eF g A):=by
 obtain⟨r,h1,h2⟩:=o;exact PE.wk (n_6 h1 hg Z hv ha hn Y he O) λ σ H Q h=>bu4 h2 h
theorem Reps.v1 {K:Frag} (h:Reps K H [d] vs):∃ v,vs=[v]/\Rep K H d v:=by obtain⟨v,r,e,a,b⟩:=h;exact⟨v,by rw[e,b],a⟩
theorem Reps.v2 {K:Frag} (h:Reps K H [d,d'] vs):∃ v O,vs=[v,O]/\Rep K H d v/\Rep K H d' O:=by obtain⟨v,r,e,a,b⟩:=h;obtain⟨O,Y,Z⟩:=Reps.v1 b;exact⟨v,O,by rw[e,Y],a,Z⟩
theorem aN9  (h:aO0 ds=some d):∃ i,ds=[.int i]/\d=.int (if i<0 then -i else i):=by
 unfold aO0 at h;split at h
 ·cases h;exact⟨_,rfl,rfl⟩
 ·cases h
theorem H_5:BOk X (.builtin "abs") aO0:=⟨_,aN3,λ c H0 H ρ σ ds d vs Q R r e q=>by
 obtain⟨i,rfl,rfl⟩:=aN9 e;obtain⟨v,rfl,O⟩:=Reps.v1 r;subst O;exact⟨i,rfl,q _ H0 H (Same.refl _) R (f_7 _ _)⟩⟩
theorem Q_1 {K:Frag}:∀ {ds:List D}{is:List Int}{vs:List V},L_2 ds=some is->Reps K H ds vs->vs=is.map V.int
 |[],_,_,e,r=>by
  have O:=qp e;rw[r,<- O];rfl
 |d::ds,_,_,e,r=>by
  cases d with
  |int i =>
   rw[ad1] at e;obtain⟨is,e1,e2⟩:=a_0 e;cases e2;obtain⟨v,Y,rfl,a,t⟩:=r;rw[a,Q_1 e1 t];rfl
  |_=>cases e
theorem intsAre_of:∀ {is:List Int}{us:List Value},Vals (is.map V.int) us->IntsAre us is:=by
 intro is;induction is with
 |nil=>intro us h;cases h;exact .nil
 |cons b r O =>
  intro us h;cases h with
  |cons a t=>obtain⟨tk,rfl⟩:=(show ∃ t,_=Value.int b t from a);exact .cons b tk (O t)
theorem W_7:∀ (r:List Int) (m:Int),(ao6 m r=m\/ao6 m r∈r)/\ao6 m r<=m/\∀ a∈r,ao6 m r<=a
 |[],m=>⟨.inl rfl,Z5 _,λ a h=>by cases h⟩
 |x::r,m=>by
  obtain⟨h1,h2,Y⟩:=W_7 r (if x<m then x else m);rw[show ao6 m (x::r)=ao6 (if x<m then x else m) r from rfl];by_cases h:x<m
  ·rw[if_pos h] at h1 h2 Y ⊢;refine⟨.inr ?_,by omega,λ a O=>?_⟩
   ·rcases h1 with e | e
    ·rw[e];exact qm
    ·exact qo _ e
   ·rcases qz O with rfl | O
    ·exact h2
    ·exact Y a O
  ·rw[if_neg h] at h1 h2 Y ⊢;refine⟨?_,h2,λ a O=>?_⟩
   ·rcases h1 with e | e
    ·exact .inl e
    ·exact .inr (qo _ e)
   ·rcases qz O with rfl | O
    ·omega
    ·exact Y a O
theorem W_9:∀ (r:List Int) (m:Int),(ao8 m r=m\/ao8 m r∈r)/\m<=ao8 m r/\∀ a∈r,a<=ao8 m r
 |[],m=>⟨.inl rfl,Z5 _,λ a h=>by cases h⟩
 |x::r,m=>by
  obtain⟨h1,h2,Y⟩:=W_9 r (if m<x then x else m);rw[show ao8 m (x::r)=ao8 (if m<x then x else m) r from rfl];by_cases h:m<x
  ·rw[if_pos h] at h1 h2 Y ⊢;refine⟨.inr ?_,by omega,λ a O=>?_⟩
   ·rcases h1 with e | e
    ·rw[e];exact qm
    ·exact qo _ e
   ·rcases qz O with rfl | O
    ·exact h2
    ·exact Y a O
  ·rw[if_neg h] at h1 h2 Y ⊢;refine⟨?_,h2,λ a O=>?_⟩
   ·rcases h1 with e | e
    ·exact .inl e
    ·exact .inr (qo _ e)
   ·rcases qz O with rfl | O
    ·omega
    ·exact Y a O
theorem ax9  (h:M∈i::r) (h':∀ a∈i::r,M<=a):M=ao6 i r:=by
 obtain⟨h1,h2,O⟩:=W_7 r i;have Z:ao6 i r<=M:=by
  rcases qz h with rfl | h
  ·exact h2
  ·exact O _ h
 have Y:M<=ao6 i r:=by
  rcases h1 with e | e
  ·rw[e];exact h' _ qm
  ·exact h' _ (qo _ e)
 omega
theorem ay4  (h:M∈i::r) (h':∀ a∈i::r,a<=M):M=ao8 i r:=by
 obtain⟨h1,h2,O⟩:=W_9 r i;have Z:M<=ao8 i r:=by
  rcases qz h with rfl | h
  ·exact h2
  ·exact O _ h
 have Y:ao8 i r<=M:=by
  rcases h1 with e | e
  ·rw[e];exact h' _ qm
  ·exact h' _ (qo _ e)
 omega
theorem aD2 (hc:X.calm=true):CallR X (.builtin "min") (λ xs H Q=>∃ (p:Addr) (i:Int) (r:List Int),xs=[.ref p] ∧ SqL X.K H p ((i::r).map V.int) ∧ Q (.int (ao6 i r)) H):=by
 intro pins s σ H xs us Q I r h;obtain⟨l,i,is,rfl,hl,q⟩:=h;obtain⟨u,rfl,ru⟩:=v_5 r;cases ru;obtain⟨aa,rv,pl,hz⟩:=I.list hl;have hi:=intsAre_of rv;have hL:=pl.isList;obtain⟨ys,e⟩:=hi.allInts.items;have O:i::is=ys.toList.map (·.1):=by rw[<- hi.numsOf,<- nums_intItems,<- e]
 have hsz:0<ys.size:=by have Y:0<(i::is).length:=Nat.succ_pos _;rw[O,zd,yd] at Y;exact Y
 rw[e] at hL;refine min_intList (I.ok.hd hc) hL hsz λ v h' tk hv hk=>?_;obtain⟨t,rfl⟩:=intItems_at hv;obtain⟨h1,h2⟩:=argBest_lt (numAt ys) (ys.size-1);refine⟨_,H,I.kept hk,?_,q⟩;have:numAt ys (argBest (λ i j=>decide (numAt ys i<numAt ys j)) (ys.size-1))=ao6 i is:=ax9 (by rw[O,numAt_eq];exact getD_mem (by rw[zd,yd];omega)) λ a Z=>by
  rw[O] at Z;obtain⟨j,hj,rfl⟩:=mem_getD Z;rw[zd,yd] at hj;rw[<- numAt_eq];exact h2 j (by omega)
 rw[this];exact⟨_,rfl⟩
theorem aD4 (hc:X.calm=true):CallR X (.builtin "max") (λ xs H Q=>∃ (p:Addr) (i:Int) (r:List Int),xs=[.ref p] ∧ SqL X.K H p ((i::r).map V.int) ∧ Q (.int (ao8 i r)) H):=by
 intro pins s σ H xs us Q I r h;obtain⟨l,i,is,rfl,hl,q⟩:=h;obtain⟨u,rfl,ru⟩:=v_5 r;cases ru;obtain⟨aa,rv,pl,hz⟩:=I.list hl;have hi:=intsAre_of rv;have hL:=pl.isList;obtain⟨ys,e⟩:=hi.allInts.items;have O:i::is=ys.toList.map (·.1):=by rw[<- hi.numsOf,<- nums_intItems,<- e]
 have hsz:0<ys.size:=by have Y:0<(i::is).length:=Nat.succ_pos _;rw[O,zd,yd] at Y;exact Y
 rw[e] at hL;refine max_intList (I.ok.hd hc) hL hsz λ v h' tk hv hk=>?_;obtain⟨t,rfl⟩:=intItems_at hv;obtain⟨h1,h2⟩:=argBest_gt (numAt ys) (ys.size-1);refine⟨_,H,I.kept hk,?_,q⟩;have:numAt ys (argBest (λ i j=>decide (numAt ys i > numAt ys j)) (ys.size-1))=ao8 i is:=ay4 (by rw[O,numAt_eq];exact getD_mem (by rw[zd,yd];omega)) λ a Z=>by
  rw[O] at Z;obtain⟨j,hj,rfl⟩:=mem_getD Z;rw[zd,yd] at hj;rw[<- numAt_eq];exact h2 j (by omega)
 rw[this];exact⟨_,rfl⟩
theorem CallR.or  (h:CallR X f r) (h':CallR X f O):CallR X f (λ xs H Q=>r xs H Q\/O xs H Q) :=
 λ pins s σ H xs us Q I v z=>z.elim (λ a=>h pins s σ H xs us Q I v a) (λ a=>h' pins s σ H xs us Q I v a)
theorem Z_2  (h:bg5 f is=some d):∃ i r,is=i::r/\d=.int (f i r):=by
 cases is with
 |nil=>cases h
 |cons i r=>cases h;exact⟨i,r,rfl,rfl⟩
theorem ae7 (hc:X.calm=true):BOk X (.builtin "max") bi7:=⟨_,(aD5 hc).or (aD4 hc),λ c H0 H ρ σ ds d vs Q R r e q=>by
 unfold bi7 at e;split at e
 ·cases e;obtain⟨v,v',rfl,O,Y⟩:=Reps.v2 r;subst O Y;exact .inl ⟨_,_,rfl,q _ H0 H (Same.refl _) R (f_7 _ _)⟩
 ·obtain⟨is,e1,e2⟩:=a_0 e;obtain⟨i,is,rfl,rfl⟩:=Z_2 e2;obtain⟨v,rfl,Z⟩:=Reps.v1 r;obtain⟨p,ws,rfl,s,t⟩:=Z;have:=Q_1 e1 t;subst this;exact .inr ⟨p,i,is,rfl,Same.seq R.same s,q _ H0 H (Same.refl _) R (f_7 _ _)⟩
 ·cases e⟩
theorem aD7 (hc:X.calm=true):BOk X (.builtin "min") bw2:=⟨_,(aD3 hc).or (aD2 hc),λ c H0 H ρ σ ds d vs Q R r e q=>by
 unfold bw2 at e;split at e
 ·cases e;obtain⟨v,v',rfl,O,Y⟩:=Reps.v2 r;subst O Y;exact .inl ⟨_,_,rfl,q _ H0 H (Same.refl _) R (f_7 _ _)⟩
 ·obtain⟨is,e1,e2⟩:=a_0 e;obtain⟨i,is,rfl,rfl⟩:=Z_2 e2;obtain⟨v,rfl,Z⟩:=Reps.v1 r;obtain⟨p,ws,rfl,s,t⟩:=Z;have:=Q_1 e1 t;subst this;exact .inr ⟨p,i,is,rfl,Same.seq R.same s,q _ H0 H (Same.refl _) R (f_7 _ _)⟩
 ·cases e⟩
theorem U_2 {K:Frag}{H:Hp}:∀ {ds:List D}{bs:List Bool}{vs:List V},aG0 ds=some bs->Reps K H ds vs->vs=bs.map V.bl
 |[],_,_,e,r=>by
  have O:([]:List Bool)=_:=qp e;unfold Reps at r;rw[r,<- O];rfl
 |d::ds,_,_,e,r=>by
  cases d with
  |bl b =>
   rw[aF8] at e;obtain⟨bs,e1,e2⟩:=a_0 e;cases e2;unfold Reps at r;obtain⟨v,Y,rfl,a,t⟩:=r;unfold Rep at a;rw[a,U_2 e1 t];rfl
  |_=>cases e
theorem U_3:∀ {bs:List Bool}{us:List Value},Vals (bs.map V.bl) us->LSm.BoolsAre us bs:=by
 intro bs;induction bs with
 |nil=>intro us h;cases h;exact .nil
 |cons b r O =>
  intro us h;cases h with
  |cons a t=>cases (show _=Value.bool b from a);exact .cons b (O t)
theorem aQ0 (hc:X.calm=true):CallR X (.builtin "all") (λ xs H Q=>∃ (p:Addr) (bs:List Bool),xs=[.ref p] ∧ SqL X.K H p (bs.map V.bl) ∧ Q (.bl (bs.all id)) H):=by
 intro pins s σ H xs us Q I r h;obtain⟨l,bs,rfl,hl,q⟩:=h;obtain⟨u,rfl,ru⟩:=v_5 r;cases ru;obtain⟨O,rv,pl,hz⟩:=I.list hl;have hb:=U_3 rv;have hl:=pl.isList;have Y:l<s.heap.objs.size:=by obtain⟨_,e,_⟩:=hl;exact qv e
 refine call_all_walk (Qu hl ?_);refine⟨s.heap.objs.size,[s.heap.objs.size,l],[s.heap.objs.size],O.toArray.size,_,_,λ i=>(bs[i]?).getD true,rfl,Walks.list (A:=X.A.in1) (I.ok.hd hc) _ l (qy Y) O.toArray,
  ⟨⟨_,qt _ rfl,rfl,rfl⟩,hl.push _⟩,λ i v s' Q' E' hP Z=>?_,λ h' tk hk=>?_⟩
 ·obtain⟨b,e,rfl⟩:=hb.get i v (by simpa using hP);simp only[e,Zh] at Z;exact yo Z
 ·have e:((List.range O.toArray.size).all λ i=>(bs[i]?).getD true)=bs.all id:=by rw[zf,hb.length];exact LSm.range_all bs
  rw[e];exact⟨.bl _,H,I.kept (t':=tk) (LSm.kept_iter hk),rfl,q⟩
theorem aP9 (hc:X.calm=true):CallR X (.builtin "any") (λ xs H Q=>∃ (p:Addr) (bs:List Bool),xs=[.ref p] ∧ SqL X.K H p (bs.map V.bl) ∧ Q (.bl (bs.any id)) H):=by
 intro pins s σ H xs us Q I r h;obtain⟨l,bs,rfl,hl,q⟩:=h;obtain⟨u,rfl,ru⟩:=v_5 r;cases ru;obtain⟨O,rv,pl,hz⟩:=I.list hl;have hb:=U_3 rv;have hl:=pl.isList;have Y:l<s.heap.objs.size:=by obtain⟨_,e,_⟩:=hl;exact qv e
 refine call_any_walk (Qu hl ?_);refine⟨s.heap.objs.size,[s.heap.objs.size,l],[s.heap.objs.size],O.toArray.size,_,_,λ i=>(bs[i]?).getD false,rfl,Walks.list (A:=X.A.in1) (I.ok.hd hc) _ l (qy Y) O.toArray,
  ⟨⟨_,qt _ rfl,rfl,rfl⟩,hl.push _⟩,λ i v s' Q' E' hP Z=>?_,λ h' tk hk=>?_⟩
 ·obtain⟨b,e,rfl⟩:=hb.get i v (by simpa using hP);simp only[e,Zh] at Z;exact yo Z
 ·have e:((List.range O.toArray.size).any λ i=>(bs[i]?).getD false)=bs.any id:=by rw[zf,hb.length];exact LSm.range_any bs
  rw[e];exact⟨.bl _,H,I.kept (t':=tk) (LSm.kept_iter hk),rfl,q⟩
theorem as9 (Y:X.calm=true):BOk X (.builtin "all") cb3:=⟨_,aQ0 Y,λ c H0 H ρ σ ds d vs Q R r e q=>by
 unfold cb3 at e;split at e
 ·obtain⟨bs,e1,e2⟩:=a_0 e;cases e2;obtain⟨v,rfl,O⟩:=Reps.v1 r;unfold Rep at O;obtain⟨p,Z,rfl,s,t⟩:=O;have:=U_2 e1 t;subst this;exact⟨p,bs,rfl,Same.seq R.same s,q _ H0 H (Same.refl _) R (o_5 _ _)⟩
 ·cases e⟩
theorem be6 (Y:X.calm=true):BOk X (.builtin "any") cq1:=⟨_,aP9 Y,λ c H0 H ρ σ ds d vs Q R r e q=>by
 unfold cq1 at e;split at e
 ·obtain⟨bs,e1,e2⟩:=a_0 e;cases e2;obtain⟨v,rfl,O⟩:=Reps.v1 r;unfold Rep at O;obtain⟨p,Z,rfl,s,t⟩:=O;have:=U_2 e1 t;subst this;exact⟨p,bs,rfl,Same.seq R.same s,q _ H0 H (Same.refl _) R (o_5 _ _)⟩
 ·cases e⟩
noncomputable def tyN:Ty->String
 |.int=>"int" | .bool=>"bool" | .str=>"str" | .tuple=>"tuple" | .list=>"list" | .dict=>"dict"
noncomputable def tyV (d:D):Value:=match d with
 |.non=>.type "NoneType" | .bl _=>.type "bool" | .int _=>.type "int" | .str _=>.type "str" | .tup _=>.type "tuple" | .lst _=>.type "list" | .fnv=>.type "NoneType" | .opq _ _=>.type "dict" | .dct _ _=>.type "dict"
theorem bU0 (K:Frag) (t:Ty) (d:D):PySem.W.kitOne K (tyV d) (.type (tyN t))=some (cg8 t d):=by cases t <;> cases d <;> rfl
theorem be5 (t:Ty):CallR X (.builtin "isinstance") (λ xs H Q=>∃ d x,xs=[x,.ty (tyN t)] ∧ Rep X.K H d x ∧ isQ d=false ∧ Q (.bl (cg8 t d)) H):=by
 intro pins s σ H xs us Q I r h;obtain⟨d,x,rfl,O,nq,q⟩:=h;obtain⟨u,w,rfl,Y,Z⟩:=aF5 r;cases (show w=Value.type _ from Z);have k:=bU0 X.K t d;have fin:∀ tk,EP X pins σ Q (.bool (cg8 t d)) {s with toks:=tk}:=λ tk=>⟨.bl _,H,I.tok tk,rfl,q⟩
 cases d with
 |non=>unfold Rep at O;subst O;cases (show u=Value.none from Y);exact jf PySem.W.kitx_none I.kIn Qb k (λ z=>nomatch z) fin
 |bl y=>unfold Rep at O;subst O;cases (show u=Value.bool y from Y);exact jf PySem.W.kitx_bool I.kIn Qb k (λ z=>nomatch z) fin
 |int i=>unfold Rep at O;subst O;obtain⟨t,z⟩:=(show ∃ t,u=Value.int i t from Y);cases z;exact jf PySem.W.kitx_int I.kIn Qb k (λ z=>nomatch z) fin
 |str y=>unfold Rep at O;subst O;obtain⟨t,z⟩:=(show ∃ t,u=Value.str y t from Y);cases z;exact jf PySem.W.kitx_str I.kIn Qb k (λ z=>nomatch z) fin
 |tup ds =>
  unfold Rep at O;obtain⟨a,vs,rfl,s1,_⟩:=O;cases (show u=Value.ref a from Y);obtain⟨_,_,⟨o,h1,h2,_⟩,_⟩:=I.tuple s1;exact jf PySem.W.kitx_tuple I.kIn ⟨o,h1,h2⟩ k (λ z=>nomatch z) fin
 |dct ks ds =>
  unfold Rep at O;obtain⟨a,ob,us,rfl,ea,_⟩:=O;cases (show u=Value.ref a from Y);obtain⟨_,_,_,vs,_,pp⟩:=(show ObjOk X.prog X.w H s.heap a (.frz ob (.dK _)) from I.hok a _ ea);obtain⟨o,es,ep,h1,h2,_⟩:=pp;exact jf PySem.W.kitx_dict I.kIn ⟨o,h1,h2.1⟩ k (λ z=>nomatch z) fin
 |fnv=>cases nq
 |opq ks ds =>
  unfold Rep at O;obtain⟨a,o,tab,rfl,ea,_⟩:=O;cases (show u=Value.ref a from Y);obtain⟨⟨_,h1,h2⟩,_⟩:=(show ObjOk X.prog X.w H s.heap a (tdF a o tab) from I.hok a _ ea);exact jf PySem.W.kitx_dict I.kIn ⟨o,h1,h2.ex.1⟩ k (λ z=>nomatch z) fin
 |lst ds =>
  unfold Rep at O;obtain⟨a,vs,rfl,s1,_⟩:=O;cases (show u=Value.ref a from Y);obtain⟨_,_,⟨o,n,h1,h2,_⟩,_⟩:=I.list s1;exact jf PySem.W.kitx_list I.kIn ⟨o,h1,h2⟩ k (λ z=>nomatch z) fin
theorem xty {t:Ty}{T:Str}{p O pos:Pos}{e:Expr}{F:FE} (hi:X.mg "isinstance"=none) (hm:X.mg T=none) (hT:bootBuiltins T=some (.type (tyN t))) (ha:XE X e F) (hg:Gl X "isinstance":=by rfl) (aa:Gl X T:=by rfl)
  (hn:T≠"__name__":=by decide) (hd:(T==("__debug__":Str))=false:=by decide) (hs:starEach [e,.Name T O] X.env=(false,eval e X.env)::starEach [.Name T O] X.env:=by rfl) (ad:starEach [.Name T O] X.env=[(false,eval (.Name T O) X.env)]:=by rfl)
  (ac:(backTo pos (starEach [.Name T O] X.env)).any (·.1)=false:=by rfl):XE X (.Call (.Name "isinstance" p) [e,.Name T O] [] pos) (eTy t F) :=
 PE.wk (n_6 (be5 t) hg hi PyProof.Rows.boot_isinstance (c_5 ha (c_5 (aZ2 (v:=.ty (tyN t)) aa hm hT rfl hn hd) l_0 ad) hs) (by decide) (by decide) hs ac) λ σ H Q Y=>by
  obtain⟨c,H0,ρ,d,af,R,f,q⟩:=Y;unfold eTy at f;obtain⟨⟨x,ae⟩,h1,f⟩:=a_0 f;dsimp only at f;by_cases Z:isQ x=true
  ·rw[if_pos Z] at f;cases f
  ·rw[if_neg Z] at f;cases f;exact⟨c,H0,ρ,x,_,R,h1,λ v H1 Hh s1 R1 r1=>⟨x,v,rfl,Rep.mono R1.same x r1,Bool.eq_false_iff.mpr Z,q _ H1 Hh s1 R1 (o_5 _ _)⟩⟩
def spP (K:Frag) (g:List D->Option D):Sp:=λ vs H Q _=>∃ Hi ds d,Same Hi H/\Reps K Hi ds vs/\g ds=some d/\∀ v Hi' H',Step Hi H Hi' H'->Rep K Hi' d v->Q v H'
structure DefOk (P:Program) (w:World) (K:Frag) (mg:Str->Option Value) (base:Heap) (k:Nat) (x:Str) (g:List D->Option D):Prop where
 ex:∃ f fd ps,FnOk P w K mg base CX0 k f fd ps (spP K g)/\Binds K fd ps []/\keepIn K (.ref f)=true/\mg x=some (.ref f)
theorem xF {k:Nat}{x:Str}{g:List D → Option D}{A:FA}{p pos:Pos}{e:Expr}{es:List Expr} (G:DefOk X.prog X.w X.K X.mg X.base k x g) (hr:Room k X.A) (ha:XA X (e::es) A) (hg:Gl X x) (ac:(x==("__debug__":Str))=false)
  (he:starEach (e::es) X.env=(false,eval e X.env)::starEach es X.env) (Z:(backTo pos (starEach es X.env)).any (·.1)=false):XE X (.Call (.Name x p) (e::es) [] pos) (eF g A):=by
 obtain⟨f,fd,ps,F,hb,hk,hm⟩:=G.ex;refine PE.wk (N_7 F hr hg hm hk hb .nil aI6 ha ac he Z) λ σ H Q O=>?_;obtain⟨c,H0,ρ,d,aa,R,z,q⟩:=O;unfold eF at z;obtain⟨⟨ds,Y⟩,h1,z⟩:=a_0 z;obtain⟨d',h2,z⟩:=a_0 z;have z':some (d',Y)=some (d,aa):=z;cases z';exact⟨c,H0,ρ,ds,_,R,h1,λ vs H1 Hh s1 R1 r1=>⟨H1,ds,d,R1.same,by rw[zw];exact r1,h2,λ v Hi' H' S rv=>q v Hi' H' (s1.trans S.s0) (R1.after S) rv⟩⟩
end
def z_3 (K:Frag) (J:It) (H1:Hp) (xs:List D):Prop:=∀ (H0 H:Hp) (i:Nat),Same H1 H0->Same H0 H ->
 (∀ d,xs[i]?=some d->J.go i H/\∀ x H',J.yld i H x H'->H'=H/\Rep K H0 d x)/\(xs.length<=i->J.stop i H)
theorem aa2 {K:Frag} (rd:SqL K H1 a vs) (r:Reps K H1 xs vs):z_3 K (Itl K a) H1 xs:=λ H0 H i s s'=>by
 have O:=Same.seq (s.trans s') rd;refine⟨λ d e=>?_,λ h=>⟨vs,O,by rw[<- r.length];exact h⟩⟩;obtain⟨v,e1,e2⟩:=r.get e;refine⟨⟨vs,v,O,e1⟩,λ x H' ⟨h1,h2⟩=>⟨h1,?_⟩⟩;have:=h2 vs O;rw[e1] at this;cases this;exact Rep.mono s d e2
theorem am5 {K:Frag} (rd:SqT K H1 a vs) (r:Reps K H1 xs vs):z_3 K (Itt K a) H1 xs:=λ H0 H i s s'=>by
 have O:=Same.seqT (s.trans s') rd;refine⟨λ d e=>?_,λ h=>⟨vs,O,by rw[<- r.length];exact h⟩⟩;obtain⟨v,e1,e2⟩:=r.get e;refine⟨⟨vs,v,O,e1⟩,λ x H' ⟨h1,h2⟩=>⟨h1,?_⟩⟩;have:=h2 vs O;rw[e1] at this;cases this;exact Rep.mono s d e2
theorem F_4:∀ (n:Nat) (lo:Int),(C_9 lo n).length=n
 |0,_=>rfl
 |n+1,lo=>by show (C_9 (lo+1) n).length+1=n+1;rw[F_4 n]
theorem ah2:∀ (n:Nat) (lo:Int) (i:Nat) (d:D),(C_9 lo n)[i]?=some d->d=.int (lo+i)/\i<n
 |0,lo,i,d,h=>by simp[C_9] at h
 |n+1,lo,0,d,h=>by
  simp[C_9] at h;exact⟨by rw[<- h];simp,by omega⟩
 |n+1,lo,i+1,d,h=>by
  have h':(C_9 (lo+1) n)[i]?=some d:=by simpa [C_9] using h
  obtain⟨a,b⟩:=ah2 n (lo+1) i d h';refine⟨by rw[a];congr 1;push_cast;omega,by omega⟩
theorem am7 {K:Frag} (lo:Int) (n:Nat):z_3 K (Itr lo n) H1 (C_9 lo n):=λ H0 H i s s'=>by
 refine⟨λ d e=>?_,λ h=>by rw[F_4] at h;exact h⟩;obtain⟨rfl,hi⟩:=ah2 n lo i d e;refine⟨hi,λ x H' ⟨h1,h2⟩=>⟨h1,?_⟩⟩;exact h2
def Its (z:Str):It:=⟨λ i _=>i<z.cps.size,λ i H x H'=>H'=H/\∃ c,z.cps[i]?=some c/\x=.str (chS c),λ i _=>z.cps.size<=i⟩
theorem ag0 {K:Frag} (z:Str) (t:Tok) (it:Addr) (hn:["enumerate","zip","dict_itemiterator","dict_reverseitemiterator","odict_iterator","itertools.zip_longest","itertools.pairwise"].contains n=false)
  (W:∀ A:Around,A.handled=none->Walks P w A it [it] [it] z.cps.size (SignAt z) (λ i h=>h.IsStrIter it n z t i)) (fin:∀ (A:Around) (s:Shared) (i:Nat) (Q:Option Value->Shared->Prop) (E:Value->Shared->Prop),A.handled=none->s.heap.IsStrIter it n z t i->z.cps[i]?=none->(∀ h',Heap.ExtBut it s.heap h'->Q none {s with heap:=h'})->wpAny (model P w) A (pyNext (.ref it)) Q E s)
  (aa:∀ (A:Around) (i:Nat) (s:Shared) (Q:Value->Shared->Prop) (E:Value->Shared->Prop),s.heap.IsStrIter it n z t i->Q (.ref it) s->wpAny (model P w) A (pyIter (.ref it)) Q E s) :
  Turn P w K tg (Its z) [it] it (λ i h=>h.IsStrIter it n z t i) where
 mem:=by simp
 obj:=λ i h st b hb=>by
  have e:b=it:=by simpa using hb
  subst e;obtain⟨o,e,c,d⟩:=st;exact⟨o,e,λ v z=>by rw[d] at z;cases z⟩
 keep:=λ i h h' st k=>let ⟨o,e,r⟩:=st;⟨o,k it (by simp) o e,r⟩
 item:=by
  intro X hP hw hK hc i pins s σ H E I Z st Y;subst hP hw hK;obtain⟨f0,f1,f2,f3,f4,f5⟩:=Z it (by simp);refine (W X.A (I.ok.hd hc)).item i s _ _ Y st λ v h' tk hv O kk=>?_;obtain⟨ch,u,e1,rfl⟩:=hv;have I1:Inv X pins σ H {s with heap:=h',toks:=tk}:=I.turned (λ b o hb e=>kk b o (by simpa using hb) e) f0 f1 f3 f4 f5;obtain⟨o,e,c,d⟩:=id O;exact⟨_,rfl,aA3 e c d hn ⟨.str (chS ch),H,I1,⟨u,rfl⟩,⟨rfl,ch,e1,rfl⟩,O,λ b hb=>(Z b hb).1⟩⟩
 done:=by
  intro X hP hw hK hc i pins s σ H E I Z st Y;subst hP hw hK;obtain⟨f0,f1,f2,f3,f4,f5⟩:=Z it (by simp);have Y:z.cps.size<=i:=Y;exact fin X.A s i _ _ (I.ok.hd hc) st (by simp[Y]) λ h' eb=>⟨rfl,I.turned (λ b o hb e=>eb b o hb e) f0 f1 f3 f4 f5⟩
 self:=λ A i s Q E st h=>aa A i s Q E st h
def bQ8 (t:TE):TI:=λ σ H R=>t σ H λ x H1=>∃ z,x=.str z/\R (Its z) H1
def iSq (K:Frag) (t:TE):TI:=λ σ H R=>br8 K t σ H R\/bQ7 K t σ H R\/bQ8 t σ H R
theorem bn2  (hl:PE X l tl):PI X tg l (bQ8 tl):=by
 intro pins s σ H R I h;refine thn (hl pins s σ H _ I h) λ v O=>ex5 λ x H1 Z r1 q1=>?_;obtain⟨z,e,q⟩:=q1;subst e;obtain⟨t,rfl⟩:=r1;have fp:∀ (o:Obj),∀ b∈[O.heap.objs.size],FpOk X pins H1 b:=λ o b hb=>by
  have e:b=O.heap.objs.size:=by simpa using hb
  subst e;exact Z.fpOk (qr _) (Z.hok.fresh (qr _))
 cases ha:z.cps.all (·<128)
 ·refine wpAny_pyIter_wide ha ?_;exact⟨O.heap.objs.size,[O.heap.objs.size],_,_,H1,rfl,Z.kept λ b o e=>ql _ e,ag0 z t _ (by decide) (λ A Y=>Walks.strWide Y _ z t) (λ A s i Q E Y st hx hQ=>wpAny_pyNext_wide_end Y st hx hQ) (λ _ _ _ _ _ st h=>wpAny_pyIter_striter_wide st h),⟨_,qt _ rfl,rfl,rfl⟩,fp {cls:=.none,data:=.fields #[]},q⟩
 ·refine wpAny_pyIter_ascii ha ?_;exact⟨O.heap.objs.size,[O.heap.objs.size],_,_,H1,rfl,Z.kept λ b o e=>ql _ e,ag0 z t _ (by decide) (λ A Y=>Walks.strAscii Y _ z t) (λ A s i Q E Y st hx hQ=>wpAny_pyNext_ascii_end Y st hx hQ) (λ _ _ _ _ _ st h=>wpAny_pyIter_striter_ascii st h),⟨_,qt _ rfl,rfl,rfl⟩,fp {cls:=.none,data:=.fields #[]},q⟩
theorem am6 {K:Frag} (z:Str):z_3 K (Its z) H1 (chs z):=λ H0 H i s s'=>by
 have hl:(chs z).length=z.cps.size:=by unfold chs;rw[zd,yd]
 refine⟨λ d e=>?_,λ h=>by rw[hl] at h;exact h⟩;have hi:i<z.cps.size:=by rw[<- hl];exact (List.getElem?_eq_some_iff.mp e).1
 refine⟨hi,λ x H' ⟨h1,ch,h2,Y⟩=>⟨h1,?_⟩⟩;unfold chs at e;rw[zy,Q0,h2] at e;have O:=qp e;subst O;exact Y
theorem av6  (hl:PE X l tl):PI X tg l (iSq X.K tl):=λ pins s σ H R I h=>by
 rcases h with h | h | h
 ·exact ab1 hl pins s σ H R I h
 ·exact bn1 hl pins s σ H R I h
 ·exact bn2 hl pins s σ H R I h
theorem m_8 {K:Frag} (rs:RS K c H0 H ρ σ) (f:F ρ=some (d,O)) (hx:items d=some xs)
  (h:∀ J H1 Hh,Same H0 H1->RS K c H1 Hh O σ->z_3 K J H1 xs->R J Hh):iSq K (tE K F) σ H R:=by
 cases d with
 |lst ds =>
  have e:=qp hx;subst e;refine .inl ⟨c,H0,ρ,_,O,rs,f,λ v H1 Hh s1 Z Y=>?_⟩;obtain⟨a,vs,rfl,rd,r⟩:=Y;exact⟨a,rfl,⟨vs,Same.seq Z.same rd⟩,h _ H1 Hh s1 Z (aa2 rd r)⟩
 |tup ds =>
  have e:=qp hx;subst e;refine .inr (.inl ⟨c,H0,ρ,_,O,rs,f,λ v H1 Hh s1 Z Y=>?_⟩);obtain⟨a,vs,rfl,rd,r⟩:=Y;exact⟨a,rfl,⟨vs,Same.seqT Z.same rd⟩,h _ H1 Hh s1 Z (am5 rd r)⟩
 |str z =>
  have e:=qp hx;subst e;refine .inr (.inr ⟨c,H0,ρ,_,O,rs,f,λ v H1 Hh s1 Z Y=>?_⟩);exact⟨z,Y,h _ H1 Hh s1 Z (am6 z)⟩
 |_=>cases hx
theorem ak2 :∀ {js:List Nat}{fr:En},L_3 ρ js=some fr->fr.length=js.length/\∀ (k:Nat) (s:Sl),fr[k]?=some s->∃ j d,js[k]?=some j/\ρ[j]?=some (.im d)/\s=.im d
 |[],_,h=>by
  have h':=qp h;subst h';exact⟨rfl,λ k s e=>by simp at e⟩
 |j::js,_,h=>by
  rw[aA1] at h;obtain⟨s,h1,h⟩:=a_0 h;obtain⟨r,h2,h⟩:=a_0 h;cases h;obtain⟨a,b⟩:=ak2 h2;refine⟨by rw[zi,zi,a],λ k s' e=>?_⟩;cases k with
  |zero =>
   simp at e;subst e;cases z:ρ[j]? with
   |none=>rw[z] at h1;cases h1
   |some sl =>
    rw[z] at h1;cases sl with
    |im d=>exact⟨j,d,rfl,z,(qp h1).symm⟩
    |_=>cases h1
  |succ k =>
   obtain⟨Z,d,Y,O,x3⟩:=b k s' (by simpa using e);exact⟨Z,d,by simpa using Y,O,x3⟩
theorem RS.block {K:Frag} (R:RS K c H0 H ρ σ) (hf:L_3 ρ js=some fr) (Z:Rep K H0 d x):RS K ⟨H0,H,[]⟩ H0 H (.im d::fr) (some x::frv σ js):=by
 obtain⟨l,g⟩:=ak2 hf;refine⟨R.same,Same.refl _,λ b o e=>.inl e,λ b o e _=>e,λ a h=>(by cases h),?_,λ i d' e=>?_,λ i b o e=>?_,λ i j b b' o o' a e=>?_⟩
 ·rw[zi,zi,l,frv,zd]
 ·cases i with
  |zero=>simp at e;subst e;exact⟨x,rfl,Z⟩
  |succ k =>
   obtain⟨j,Y,x1,x2,O⟩:=g k _ (by simpa using e);cases O;obtain⟨v,y1,y2⟩:=R.im j d' x2;refine⟨v,?_,y2⟩;show (frv σ js)[k]?=some (some v);unfold frv;rw[zy,x1];show some (σ[j]?).join=some (some v);rw[y1];rfl
 ·cases i with
  |zero=>simp at e
  |succ k =>
   obtain⟨j,Y,_,_,O⟩:=g k _ (by simpa using e);cases O
 ·cases i with
  |zero=>simp at e
  |succ k =>
   obtain⟨j,Y,_,_,O⟩:=g k _ (by simpa using e);cases O
theorem RS.step {K:Frag} (R:RS K ⟨Hi,He,[]⟩ H0 H ρ σ):Step Hi He H0 H :=
 ⟨R.init,λ b o e=>R.keep b o e (by simp),R.same,R.fresh⟩
theorem A_4 {xs:List α}{d:α} (h:xs[i]?=some d):xs.drop i=d::xs.drop (i+1):=by obtain⟨hi,e⟩:=List.getElem?_eq_some_iff.mp h;rw[<- e];exact List.drop_eq_getElem_cons hi
theorem bb8 {K:Frag} (R:RS K c H1 Hh ρ σ) (hf:L_3 ρ js=some fr) (hc:cGo T F fr xs=some out) (hz:xs.length<=sizeLine) (hy:z_3 K J H1 xs)
  (q:∀ ys H0 H,Same H1 H0->RS K c H0 H ρ σ->Reps K H0 out ys->Qf ys H):LcW js (tTt K T) (tE K F) σ Qf J Hh:=by
 refine⟨λ i m ys H=>m=xs.length-i/\i<=xs.length/\∃ H0,Same H1 H0/\RS K c H0 H ρ σ/\∃ Y rest,Reps K H0 Y ys/\Y.length<=i/\cGo T F fr (xs.drop i)=some rest/\Y++rest=out,⟨xs.length,by simp,zx _,H1,Same.refl _,R,[],out,Reps.nil_,zx _,by simpa using hc,rfl⟩,?_⟩;rintro i m ys H ⟨rfl,hi,H0,s0,R0,Y,rest,rp,lp,O,e⟩;obtain⟨y1,y2⟩:=hy H0 H i s0 R0.same;by_cases aa:i<xs.length
 ·have hd:xs[i]?=some xs[i]:=by simp[aa]
  obtain⟨go,yl⟩:=y1 _ hd;refine .inr ⟨go,by rw[<- rp.length];omega,λ x H' hx=>?_⟩;obtain⟨rfl,rx⟩:=yl x H' hx;rw[A_4 hd,am1] at O;obtain⟨⟨b,ac⟩,g1,O⟩:=a_0 O;refine⟨⟨H0,H',[]⟩,H0,_,b,ac,R0.block hf rx,g1,λ H2 Hh2 s2 R2=>?_⟩;cases b with
  |false =>
   rw[if_neg zc] at O ⊢;have S:=R2.step;exact⟨xs.length-(i+1),by omega,rfl,aa,H2,s0.trans S.s0,R0.after S,Y,rest,Reps.mono S.s0 _ rp,by omega,O,e⟩
  |true =>
   rw[if_pos rfl] at O ⊢;obtain⟨⟨z,ad⟩,g2,O⟩:=a_0 O;obtain⟨t,g3,O⟩:=a_0 O;have Z:=O;cases Z;refine⟨⟨H0,H',[]⟩,H2,ac,z,ad,R2,g2,λ v H3 Hh3 s3 R3 r3=>?_⟩;have S:=R3.step;refine⟨xs.length-(i+1),by omega,rfl,aa,H3,s0.trans S.s0,R0.after S,Y++[z],t,(Reps.mono S.s0 _ rp).app (Reps.one r3),?_,g3,?_⟩
   ·rw[zh,zq];omega
   ·rw[ym];exact e
 ·have ei:i=xs.length:=by omega
  have hn:xs.drop i=[]:=jc (by omega);rw[hn,aD9] at O;have Z:=qp O;subst Z;rw[zw] at e;subst e;exact .inl ⟨y2 (by omega),by rw[<- rp.length];omega,q ys H0 H s0 R0 rp⟩
def XTs (X:Cx) (ifs:List Expr) (T:FT):Prop:=PTs X ifs (tTt X.K T)
theorem PTs.wk  (h:PTs X e t) (w:∀ σ H Q,t' σ H Q->t σ H Q):PTs X e t':=λ pins s σ H Q I q=>h pins s σ H Q I (w σ H Q q)
theorem z_4 :XTs X [] Fx.tYes:=PTs.wk aX8 λ σ H Q O=>by
 obtain⟨c,H0,ρ,b,Y,R,f,q⟩:=O;have Z:=f;cases Z;exact q H0 H (Same.refl _) R
theorem E_9  (h:XT X c T):XTs X [c] T:=aX7 h
section
variable {ifs:List Expr}
theorem aB8  (h:eLC js I T F ρ=some (d,O)):∃ z xs fr ys,I ρ=some (z,O)/\items z=some xs/\L_3 O js=some fr/\cGo T F fr xs=some ys/\xs.length<=sizeLine/\d=.lst ys:=by
 obtain⟨⟨z,aa⟩,h1,h⟩:=a_0 h;obtain⟨xs,h2,h⟩:=a_0 h;obtain⟨fr,Z,h⟩:=a_0 h;obtain⟨ys,Y,h⟩:=a_0 h;split at h
 ·rename_i hz;cases h;exact⟨z,xs,fr,ys,h1,h2,Z,Y,hz,rfl⟩
 ·cases h
theorem xlc (hc:X.calm=true) (Z:X.env.scope=sc) (B:ScB X.N sc scope x frees js) (hi:XE X iter I) (ht:∀ s H C Y,XTs (cxB X (x::frees) scope s H C Y) ifs T) (he:∀ s H C Y,XE (cxB X (x::frees) scope s H C Y) elt F)
  (hs:∀ v,foldedSetIterable iter X.env v=pure v:=by intro _;rfl):XE X (.ListComp elt [⟨.Name x px,iter,ifs,0⟩] scope pos) (eLC js I T F) :=
 PE.wk (bn9 (tt:=tTt X.K T) (te:=tE X.K F) hc Z B (av6 hi) ht he hs) λ σ H Q O=>by
  obtain⟨c,H0,ρ,d,aa,R,f,q⟩:=O;obtain⟨z,xs,fr,ys,h1,h2,h3,h4,hz,rfl⟩:=aB8 f;refine m_8 R h1 h2 λ J H1 Hh s1 R1 hy=>?_;refine bb8 R1 h3 h4 hz hy λ vs H2 Hh2 s2 R2 r2=>λ p hp=>?_;have S:=Step.alloc (o:=.lst vs) R2.same hp;refine q _ _ _ (s1.trans (s2.trans S.s0)) (R2.after S) ?_;exact⟨p,vs,rfl,.inl (.inl a_3),Reps.mono S.s0 _ r2⟩
end
def Post (K:Frag) (c:FC) (Dn:Ends) (H0:Hp):Res->Prop
 |.nx Y=>∀ O H0' H',Same H0 H0'->RS K c H0' H' Y O->Dn.nx O H'
 |.rt d Y=>∀ v O H0' H',Same H0 H0'->RS K c H0' H' Y O->Rep K H0' d v->Dn.rt v H'
 |.bk Y=>∀ O H0' H',Same H0 H0'->RS K c H0' H' Y O->Dn.bk O H'
 |.ct Y=>∀ O H0' H',Same H0 H0'->RS K c H0' H' Y O->Dn.ct O H'
def tS (K:Frag) (F:FS):TS:=λ Dn σ H=>∃ c H0 ρ r,RS K c H0 H ρ σ/\F ρ=some r/\Post K c Dn H0 r
def XS (X:Cx) (st:Stmt) (F:FS):Prop:=PS X st (tS X.K F)
def XSs (X:Cx) (sts:List Stmt) (F:FS):Prop:=PSs X sts (tS X.K F)
theorem Post.mono {K:Frag} (s:Same H0 H1):∀ {r:Res},Post K c Dn H0 r->Post K c Dn H1 r
 |.nx _,h=>λ O H0' H' z=>h O H0' H' (s.trans z)
 |.rt _ _,h=>λ v O H0' H' z=>h v O H0' H' (s.trans z)
 |.bk _,h=>λ O H0' H' z=>h O H0' H' (s.trans z)
 |.ct _,h=>λ O H0' H' z=>h O H0' H' (s.trans z)
theorem RS.set {K:Frag}{c:FC}{H0 H:Hp}{ρ:En}{σ:L2.St}{d:D}{v:V} (R:RS K c H0 H ρ σ) (i:Nat) (r:Rep K H0 d v):RS K c H0 H (ρ.set i (.im d)) (σ.set i (some v)):=by
 have hl:=R.len;have Y:∀ (j:Nat) (sl:Sl),j≠i->(ρ.set i (.im d))[j]?=some sl->ρ[j]?=some sl:=λ j sl Z e=>by rwa [yc (yi Z)] at e
 have O:∀ (j:Nat),j≠i->(σ.set i (some v))[j]?=σ[j]?:=λ j Z=>yc (yi Z);have aa:∀ (sl:Sl),(ρ.set i (.im d))[i]?=some sl->sl=.im d/\i<ρ.length:=λ sl e=>by
  by_cases hi:i<ρ.length
  ·rw[zr hi] at e;exact⟨(qp e).symm,hi⟩
  ·rw[Zz (by rw[yn];omega)] at e;cases e
 refine⟨R.same,R.init,R.fresh,R.keep,R.apt,by rw[yn,yn,hl],λ j d' e=>?_,λ j bb o e=>?_,λ j k b1 b2 o o' a e1 e2 e3 e4=>?_⟩
 ·by_cases Z:j=i
  ·subst Z;obtain⟨e',hi⟩:=aa _ e;cases e';exact⟨v,by rw[zr (by omega)],r⟩
  ·rw[O j Z];exact R.im j d' (Y j _ Z e)
 ·by_cases Z:j=i
  ·subst Z;obtain⟨e',_⟩:=aa _ e;cases e'
  ·rw[O j Z];exact R.ow j bb o (Y j _ Z e)
 ·by_cases Z:j=i
  ·subst Z;obtain⟨e',_⟩:=aa _ e1;cases e'
  ·by_cases hk:k=i
   ·subst hk;obtain⟨e',_⟩:=aa _ e2;cases e'
   ·rw[O j Z] at e3;rw[O k hk] at e4;exact R.ne j k b1 b2 o o' a (Y j _ Z e1) (Y k _ hk e2) e3 e4
section
variable {X:Cx}{pos:Pos}{e:Expr}{F:FE}{T:FT}{A B:FS}
theorem xsN:XSs X [] sN:=PSs.wk au8 λ Dn σ H O=>by
 obtain⟨c,H0,ρ,r,R,f,q⟩:=O;have Y:=f;cases Y;exact q σ H0 H (Same.refl _) R
theorem xs1 {st:Stmt} (h:XS X st A):XSs X [st] A:=s_8 h
theorem xsC {st:Stmt}{rest:List Stmt} (h1:XS X st A) (h2:XSs X rest B):XSs X (st::rest) (b_7 A B):=PSs.wk (k_9 h1 h2) λ Dn σ H Z=>by
 obtain⟨c,H0,ρ,r,R,f,q⟩:=Z;obtain⟨z,h,f⟩:=a_0 f;refine⟨c,H0,ρ,z,R,h,?_⟩;cases z with
 |nx O=>exact λ aa H0' H' s R'=>⟨c,H0',O,r,R',f,q.mono s⟩
 |rt d O=>have Y:=f;cases Y;exact q
 |bk O=>have Y:=f;cases Y;exact q
 |ct O=>have Y:=f;cases Y;exact q
theorem i_5 (i:Nat)  (hN:X.N.Nodup) (he:XE X e F) (hi:X.N[i]?=some x:=by rfl) (hx:Loc X.env.scope x:=by first | exact Or.inl rfl | exact Or.inr rfl) (hs:swapsWith e (some (.Name x pos')) pos.line X.env=pure false:=by rfl)
  (hf:X.fn x=true\/X.env.scope.names.lookup x=some .local:=by first | exact .inl rfl | exact .inr rfl):XS X (.Assign [.Name x pos'] e pos) (d_5 i F):=PS.wk (x_7 hN hi hx he hs hf) λ Dn σ H Y=>by
 obtain⟨c,H0,ρ,r,R,f,q⟩:=Y;obtain⟨⟨d,O⟩,h1,f⟩:=a_0 f;have f':=f;cases f';exact⟨c,H0,ρ,d,O,R,h1,λ v H1 Hh s1 Z r1=>q _ H1 Hh s1 (Z.set i r1)⟩
theorem ar4 (i:Nat) {ifs:List Expr} (hN:X.N.Nodup) (hc:X.calm=true) (aa:X.env.scope=sc) (Bk:ScB X.N sc scope x frees js) (hi:XE X iter I)
  (ht:∀ s H C fp,XTs (cxB X (x::frees) scope s H C fp) ifs T) (he:∀ s H C fp,XE (cxB X (x::frees) scope s H C fp) elt F) (ac:X.N[i]?=some y:=by rfl) (hy:X.env.scope.names.lookup y=some .local:=by rfl)
  (Z:swapsWith (.ListComp elt [⟨.Name x px,iter,ifs,0⟩] scope pos) (some (.Name y py)) spos.line X.env=pure true:=by rfl)
  (hs:∀ v,foldedSetIterable iter X.env v=pure v:=by intro _;rfl):XS X (.Assign [.Name y py] (.ListComp elt [⟨.Name x px,iter,ifs,0⟩] scope pos) spos) (d_5 i (eLC js I T F)) :=
 PS.wk (x_6 (tt:=tTt X.K T) (te:=tE X.K F) hN ac hy hc aa Bk (av6 hi) ht he Z hs) λ Dn σ H O=>by
  obtain⟨c,H0,ρ,r,R,f,q⟩:=O;obtain⟨⟨d,Y⟩,h1,f⟩:=a_0 f;have f':=f;cases f';obtain⟨z,xs,fr,ys,h0,h2,h3,h4,hz,rfl⟩:=aB8 h1;refine m_8 R h0 h2 λ J H1 Hh s1 R1 hy=>?_;refine bb8 R1 h3 h4 hz hy λ vs H2 Hh2 s2 R2 r2=>λ p hp=>?_;have S:=Step.alloc (o:=.lst vs) R2.same hp;refine q _ _ _ (s1.trans (s2.trans S.s0)) ((R2.after S).set i ?_);exact⟨p,vs,rfl,.inl (.inl a_3),Reps.mono S.s0 _ r2⟩
theorem o_0  (hc:XT X c T) (ha:XSs X a A) (hb:XSs X b B):XS X (.If c a b pos) (sIf T A B):=PS.wk (aY1 hc ha hb) λ Dn σ H Y=>by
 obtain⟨c,H0,ρ,r,R,f,q⟩:=Y;obtain⟨⟨k,O⟩,h1,f⟩:=a_0 f;refine⟨c,H0,ρ,k,O,R,h1,λ H1 Hh s1 Z=>?_⟩;cases k with
 |true =>
  rw[if_pos rfl] at f ⊢;exact⟨c,H1,O,r,Z,f,q.mono s1⟩
 |false =>
  rw[if_neg zc] at f ⊢;exact⟨c,H1,O,r,Z,f,q.mono s1⟩
theorem i_6 (he:XE X e F):XS X (.Return (some e) pos) (g_0 F):=PS.wk (au9 he) λ Dn σ H Y=>by
 obtain⟨c,H0,ρ,r,R,f,q⟩:=Y;obtain⟨⟨d,O⟩,h1,f⟩:=a_0 f;have f':=f;cases f';exact⟨c,H0,ρ,d,O,R,h1,λ v H1 Hh s1 Z r1=>q v σ H1 Hh s1 Z r1⟩
abbrev GD:=D->En->Option En
def tG (K:Frag) (g:GD):TG:=λ v σ H Q=>∃ c H0 ρ d O,RS K c H0 H ρ σ/\Rep K H0 d v/\g d ρ=some O/\∀ Y H0' H',Same H0 H0'->RS K c H0' H' O Y->Q Y H'
def tGs (K:Frag) (is:List Nat):TGs:=λ vs σ H Q=>∃ c H0 ρ ds,RS K c H0 H ρ σ/\Reps K H0 ds vs/\ds.length=is.length/\∀ O H0' H',Same H0 H0'->RS K c H0' H' (x_4 is ds ρ) O->Q O H'
def XG (X:Cx) (tg:Expr) (g:GD):Prop:=PG X tg (tG X.K g)
def XGs (X:Cx) (O:List Expr) (is:List Nat):Prop:=PGs X O (tGs X.K is)
theorem xgN (i:Nat)  (hN:X.N.Nodup) (hi:X.N[i]?=some x:=by rfl) (hx:Loc X.env.scope x:=by first | exact Or.inl rfl | exact Or.inr rfl) (hf:X.fn x=true\/X.env.scope.names.lookup x=some .local:=by first | exact .inl rfl | exact .inr rfl):XG X (.Name x pos) (gN i) :=
 λ pins s σ H v u Q I rv O=>by obtain⟨c,H0,ρ,d,Y,R,r,f,q⟩:=O;exact av9 hN hi hx hf pins s σ H v u Q I rv (by
  have Z:=f;cases Z;exact q _ H0 H (Same.refl _) (R.set i r))
theorem bz5:XGs X [] []:=λ pins s σ H vs us Q I Y O=>by obtain⟨c,H0,ρ,ds,R,r,l,q⟩:=O;exact aY8 pins s σ H vs us Q I Y (by
 have e:=List.length_eq_zero_iff.mp l;subst e;exact⟨r,q σ H0 H (Same.refl _) (by simpa [an5] using R)⟩)
theorem bh3  (h1:XG X e (gN i)) (h2:XGs X es is) (hs:(assignEach (e::es) X.env).map (·.2)=assign e X.env::(assignEach es X.env).map (·.2):=by rfl):XGs X (e::es) (i::is) :=
 λ pins s σ H vs us Q I rv O=>by obtain⟨c,H0,ρ,ds,R,r,l,q⟩:=O;exact aI3 h1 h2 hs pins s σ H vs us Q I rv (by
  cases ds with
  |nil=>simp at l
  |cons d ds =>
   obtain⟨v,vr,rfl,r1,r2⟩:=r;refine⟨v,vr,rfl,c,H0,ρ,d,_,R,r1,rfl,λ aa H1 Hh Z R1=>?_⟩;exact⟨c,H1,_,ds,R1,Reps.mono Z _ r2,by simpa using l,λ Y H2 Hh2 s2 R2=>q Y H2 Hh2 (Z.trans s2) (by simpa [aa7] using R2)⟩)
theorem B_0 {items:Array Value} (Z:X.A.handled=none) (hl:s.heap.IsList l items)
  (hn:(assignEach O X.env).length=items.size) (Y:(assignEach O X.env).findIdx? (·.1)=none)
  (h:∀ h',Heap.ExtBut s.heap.objs.size s.heap h'->wpAny (model X.prog X.w) X.A (assignInOrder ((assignEach O X.env).map (·.2)) items.toList) Q E {s with heap:=h'}) :
  wpAny (model X.prog X.w) X.A (assign (.Tuple O k pos) X.env (.ref l)) Q E s:=by
 rw[assign_Tuple];refine qj (Q3 ?_);unfold unpack;rw[hn,Y];exact qj (yg (PySem.W.kun_itemsOf Z hl h))
def cc7 (K:Frag) (n:Nat) (t:TGs):TG:=λ v σ H Q=>∃ a xs,v=.ref a/\SqL K H a xs/\xs.length=n/\t xs σ H Q
theorem bn5 {es:List Expr}{k:Nat}{t:TGs}{n:Nat} (hc:X.calm=true) (h:PGs X es t)
  (hn:(assignEach es X.env).length=n) (O:(assignEach es X.env).findIdx? (·.1)=none):PG X (.Tuple es k pos) (cc7 X.K n t):=by
 intro pins s σ H v u Q I r hw;obtain⟨a,xs,e1,Z,hl,hw⟩:=hw;subst e1;cases r;obtain⟨aa,Y,pl,hz⟩:=I.list Z;refine B_0 (I.ok.hd hc) pl.isList (by simp[hn,<- hl,Y.length]) O λ h' hx=>?_;have I1:Inv X pins σ H {s with heap:=h'}:=I.kept (t':=s.toks) λ b o e=>hx b o (qy (qv e)) e;exact h pins _ σ H xs _ Q I1 (by simpa using Y) hw
theorem xgT  (h:XGs X es is) (hc:X.calm=true:=by rfl) (hn:(assignEach es X.env).length=is.length:=by rfl) (Y:(assignEach es X.env).findIdx? (·.1)=none:=by rfl):XG X (.Tuple es k pos) (gT is) :=
 λ pins s σ H v u Q I rv O=>by
  obtain⟨c,H0,ρ,d,aa,R,r,f,q⟩:=O;obtain⟨xs,h1,f⟩:=a_0 f;split at f
  ·rename_i hl;cases f;cases d with
   |tup ds =>
    refine bn4 hc h hn Y pins s σ H v u Q I rv ?_;have e:=qp h1;subst e;obtain⟨a,vs,rfl,Z,r⟩:=r;exact⟨a,vs,rfl,Same.seqT R.same Z,by rw[<- r.length];exact hl,c,H0,ρ,ds,R,r,hl,q⟩
   |lst ds =>
    refine bn5 hc h hn Y pins s σ H v u Q I rv ?_;have e:=qp h1;subst e;obtain⟨a,vs,rfl,Z,r⟩:=r;exact⟨a,vs,rfl,Same.seq R.same Z,by rw[<- r.length];exact hl,c,H0,ρ,ds,R,r,hl,q⟩
   |_=>cases h1
  ·cases f
theorem aS2 {K:Frag} (R:RS K c H1 Hh ρ σ) (hf:fGo g B xs ρ=some r) (hy:z_3 K J H1 xs) (q:Post K c Dn H1 r) :
  ∃ W:Nat->Nat->L2.St->Hp->Prop,(∃ m,W 0 m σ Hh)/\∀ i m σ H,W i m σ H ->
   (J.stop i H/\Dn.nx σ H)\/(J.go i H/\∃ N:L2.St->Hp->Prop,(∀ O H',N O H'->∃ m',m'<m/\W (i+1) m' O H')/\∀ x H',J.yld i H x H'->tG K g x σ H' λ ad H2=>tS K B {Dn with nx:=N,ct:=N,bk:=Dn.nx} ad H2):=by
 refine⟨λ i m σ H=>m=xs.length-i/\i<=xs.length/\∃ H0 ρ,Same H1 H0/\RS K c H0 H ρ σ/\fGo g B (xs.drop i) ρ=some r,⟨xs.length,by simp,zx _,H1,ρ,Same.refl _,R,by simpa using hf⟩,?_⟩;rintro i m σ H ⟨rfl,hi,H0,ρ,s0,R0,hg⟩;obtain⟨y1,y2⟩:=hy H0 H i s0 R0.same;by_cases aa:i<xs.length
 ·have hd:xs[i]?=some xs[i]:=by simp[aa]
  obtain⟨go,yl⟩:=y1 _ hd;refine .inr ⟨go,λ O H'=>∃ m',m'<xs.length-i/\m'=xs.length-(i+1)/\i+1<=xs.length/\∃ H0 ρ,Same H1 H0/\RS K c H0 H' ρ O/\fGo g B (xs.drop (i+1)) ρ=some r,λ O H' ⟨m',a,b⟩=>⟨m',a,b⟩,λ x H' hx=>?_⟩;obtain⟨rfl,rx⟩:=yl x H' hx;rw[A_4 hd,ak9] at hg;obtain⟨ac,g1,hg⟩:=a_0 hg;obtain⟨z,g2,hg⟩:=a_0 hg;refine⟨c,H0,ρ,_,ac,R0,rx,g1,λ ae H2 Hh2 s2 R2=>⟨c,H2,ac,z,R2,g2,?_⟩⟩;cases z with
  |nx Y=>exact λ O H3 Hh3 s3 R3=>⟨_,by omega,rfl,aa,H3,Y,s0.trans (s2.trans s3),R3,hg⟩
  |ct Y=>exact λ O H3 Hh3 s3 R3=>⟨_,by omega,rfl,aa,H3,Y,s0.trans (s2.trans s3),R3,hg⟩
  |bk Y =>
   have Z:=hg;cases Z;exact λ O H3 Hh3 s3 R3=>q O H3 Hh3 (s0.trans (s2.trans s3)) R3
  |rt d Y =>
   have Z:=hg;cases Z;exact λ v O H3 Hh3 s3 R3 r3=>q v O H3 Hh3 (s0.trans (s2.trans s3)) R3 r3
 ·have hn:xs.drop i=[]:=jc (by omega);rw[hn,aB1] at hg;have Z:=hg;cases Z;exact .inl ⟨y2 (by omega),q σ H0 H s0 R0⟩
theorem bz7  (hg:XG X tg g) (hi:XE X iter F) (hb:XSs X body B) (hp:PassesOwn (model X.prog X.w) X.A X.env X.xe:=by exact j5) (hc:X.calm=true:=by rfl) (hs:∀ x,foldedSetIterable iter X.env x=pure x:=by intro _;rfl) :
  XS X (.For tg iter body [] pos) (bh4 g F B):=PS.wk (ah6 hp hc (av6 hi) hg hb hs) λ Dn σ H O=>by
 obtain⟨c,H0,ρ,r,R,f,q⟩:=O;obtain⟨⟨d,aa⟩,h1,f⟩:=a_0 f;obtain⟨xs,h2,f⟩:=a_0 f;exact m_8 R h1 h2 λ J H1 Hh s1 Y Z=>aS2 Y f Z (q.mono s1)
theorem T_5  (hm:X.mg "range"=none) (hg:XG X tg g) (ha:XE X a F) (hb:XSs X body B) (Z:Gl X "range":=by rfl) (hp:PassesOwn (model X.prog X.w) X.A X.env X.xe:=by exact j5) (hc:X.calm=true:=by rfl)
  (Y:starEach [a] X.env=[(false,eval a X.env)]:=by rfl) (hs:∀ x,foldedSetIterable (.Call (.Name "range" p) [a] [] pos') X.env x=pure x:=by intro _;rfl) :
  XS X (.For tg (.Call (.Name "range" p) [a] [] pos') body [] pos) (N_3 g (aH3 F) B):=PS.wk (ah6 hp hc (av7 Z hm (c_5 ha l_0 Y) Y) hg hb hs) λ Dn σ H O=>by
 obtain⟨c,H0,ρ,r,R,f,q⟩:=O;obtain⟨⟨xs,ac⟩,h1,f⟩:=a_0 f;obtain⟨⟨d,aa⟩,h2,h1⟩:=a_0 h1;obtain⟨j,h3,h1⟩:=a_0 h1;split at h1
 ·rename_i hj;cases h1;refine⟨c,H0,ρ,d,_,R,h2,λ v H1 Hh s1 R1 r1=>?_⟩;cases d with
  |int k =>
   have e:=qp h3;subst e;subst r1;exact⟨k,rfl,hj.1,hj.2,aS2 R1 f (am7 0 k.toNat) (q.mono s1)⟩
  |_=>cases h3
 ·cases h1
theorem aO5  (hc:XT X c T) (hb:XSs X body B) (hp:PassesOwn (model X.prog X.w) X.A X.env X.xe:=by exact j5):XS X (.While c body [] pos) (ag8 aa T B):=PS.wk (aI0 hp hc hb) λ Dn σ H ad=>by
 obtain⟨c,H0,ρ,r,R,f,q⟩:=ad;refine⟨λ m σ H=>∃ H1 ρ,Same H0 H1/\RS X.K c H1 H ρ σ/\wGo T B m ρ=some r,⟨aa ρ,H0,ρ,Same.refl _,R,f⟩,?_⟩;rintro m af Hh ⟨H1,ae,s1,R1,hw⟩;cases m with
 |zero=>cases hw
 |succ m =>
  rw[aF4] at hw;obtain⟨⟨b,ac⟩,h1,hw⟩:=a_0 hw;refine⟨c,H1,ae,b,ac,R1,h1,λ H2 Hh2 s2 R2=>?_⟩;cases b with
  |false =>
   rw[if_neg zc] at hw ⊢;have Z:=hw;cases Z;exact q af H2 Hh2 (s1.trans s2) R2
  |true =>
   rw[if_pos rfl] at hw ⊢;obtain⟨z,h2,hw⟩:=a_0 hw;refine⟨λ O H'=>∃ m',m'<m+1/\∃ H1 ρ,Same H0 H1/\RS X.K c H1 H' ρ O/\wGo T B m' ρ=some r,λ O H' h=>h,⟨c,H2,ac,z,R2,h2,?_⟩⟩;cases z with
   |nx Y=>exact λ O H3 Hh3 s3 R3=>⟨m,by omega,H3,Y,s1.trans (s2.trans s3),R3,hw⟩
   |ct Y=>exact λ O H3 Hh3 s3 R3=>⟨m,by omega,H3,Y,s1.trans (s2.trans s3),R3,hw⟩
   |bk Y =>
    have Z:=hw;cases Z;exact λ O H3 Hh3 s3 R3=>q O H3 Hh3 (s1.trans (s2.trans s3)) R3
   |rt d Y =>
    have Z:=hw;cases Z;exact λ v O H3 Hh3 s3 R3 r3=>q v O H3 Hh3 (s1.trans (s2.trans s3)) R3 r3
end
theorem RS.start {K:Frag} (s:Same Hi H) (r:Reps K Hi ds vs) (Y:n-vs.length=m):RS K ⟨Hi,H,[]⟩ Hi H (ds.map .im++List.replicate m .no) (vs.map some++List.replicate (n-vs.length) none):=by
 have hl:=r.length;refine⟨s,Same.refl _,λ b o e=>.inl e,λ b o e _=>e,λ a h=>(by cases h),?_,λ i d e=>?_,λ i b o e=>?_,λ i j b Z o o' a e=>?_⟩
 ·rw[zh,zh,zd,zd,Zx,Zx,hl,Y]
 ·by_cases hi:i<ds.length
  ·rw[yh (by simpa using hi),zy] at e;cases z:ds[i]? with
   |none=>rw[z] at e;cases e
   |some d' =>
    rw[z] at e;have O:d'=d:=by have:=qp e;injection this
    subst O;obtain⟨v,a,b⟩:=r.get z;exact⟨v,by rw[yh (by simp;omega),zy,a];rfl,b⟩
  ·rw[yj (by simpa using jp hi),jq] at e;split at e <;> cases e
 ·by_cases hi:i<ds.length
  ·rw[yh (by simpa using hi),zy] at e;cases z:ds[i]? with
   |none=>rw[z] at e;cases e
   |some d'=>rw[z] at e;cases e
  ·rw[yj (by simpa using jp hi),jq] at e;split at e <;> cases e
 ·by_cases hi:i<ds.length
  ·rw[yh (by simpa using hi),zy] at e;cases z:ds[i]? with
   |none=>rw[z] at e;cases e
   |some d'=>rw[z] at e;cases e
  ·rw[yj (by simpa using jp hi),jq] at e;split at e <;> cases e
theorem k_7 {K:Frag}{st:Stmt} (F:Fun K x qual st f fd) (S:FnScope N ps (a_2 st)) (hn:ps.length=n) (hN:N.length=n+m)
  (hb:∀ (O:Value) (A:Around) (outer:List Env) (s:Shared) (H:Hp) (E:XK),Room k (A.deeper (envOfC qual (a_2 st) s.heap.objs.size f O))->XSs (R_5 CX0 P w K mg base N qual (a_2 st) f O A outer s H E).nox (k_2 st) B) :
  FnOk P w K mg base CX0 (k+1) f fd ps (spP K (fnD n m B)):=by
 have Z:∀ {ds:List D}{d:D},fnD n m B ds=some d->ds.length=n/\∃ r,B (ds.map .im++List.replicate m .no)=some r/\bx9 r=some d:=λ {ds d} h=>by
  unfold fnD at h;split at h
  ·rename_i hl;obtain⟨r,h1,h2⟩:=a_0 h;exact⟨hl,r,h1,h2⟩
  ·cases h
 refine F.ok S (λ vs H Q E h=>?_) (λ O A outer s H vs Q E hr h=>?_)
 ·obtain⟨Hi,ds,d,_,r,e,_⟩:=h;rw[hn,<- r.length];exact (Z e).1
 ·obtain⟨Hi,ds,d,hs,r,e,q⟩:=h;obtain⟨hl,res,h1,h2⟩:=Z e;refine⟨_,hb O A outer s H E hr,⟨Hi,H,[]⟩,Hi,_,res,RS.start hs r (by rw[<- r.length];omega),h1,?_⟩;cases res with
  |nx Y =>
   have e':=qp h2;subst e';exact λ aa H0' H' s0 R=>q .non H0' H' R.step (by rfl)
  |rt d' Y =>
   have e':=qp h2;subst e';exact λ v aa H0' H' s0 R rv=>q v H0' H' R.step rv
  |bk Y=>cases h2
  |ct Y=>cases h2
end Fx
namespace Fx
open PySem
@[simp] theorem bV1:i_1 (.int i) (.int j)=some (.int (i+j)):=yR rfl
@[simp] theorem bV0:i_1 (.lst a) (.lst b)=if a.length+b.length<=sizeLine then some (.lst (a++b)) else none:=yR rfl
@[simp] theorem bT6:L_5 (.int i) (.int j)=some (.int (i-j)):=yR rfl
@[simp] theorem bU2:Y_1 (.int i) (.int j)=if j_7 i j=true then some (.int (i*j)) else none:=yR rfl
@[simp] theorem bU8:aM8 (.int i) (.int j)=if z_8 j=true then some (.int (i.fdiv j)) else none:=yR rfl
@[simp] theorem bU3:i_7 (.int i) (.int j)=if j≠0 then some (.int (i.fmod j)) else none:=yR rfl
@[simp] theorem bU1:aT1 (.int i)=some (.int (-i)):=yR rfl
@[simp] theorem cf1:dLt (.int i) (.int j)=some (.bl (decide (i<j))):=yR rfl
@[simp] theorem cf2:dLe (.int i) (.int j)=some (.bl (decide (i<=j))):=yR rfl
@[simp] theorem cf3:dGt (.int i) (.int j)=some (.bl (decide (j<i))):=yR rfl
@[simp] theorem cy7 (i j:Int):dGe (.int i) (.int j)=some (.bl (decide (j<=i))):=yR rfl
@[simp] theorem ci1:dEq x y=if dpD x<=30/\dpD y<=30 then some (.bl (eqD x y)) else none:=yR rfl
@[simp] theorem ci0:dIs x .non=some (.bl (isN x)):=yR rfl
@[simp] theorem bL1:Y_2 x .non=some (.bl (!isN x)):=yR rfl
@[simp] theorem bT5:bf8 (.bl b)=some b:=yR rfl
@[simp] theorem bT4:bf8 (.lst xs)=some (!xs.isEmpty):=yR rfl
@[simp] theorem cf8:aO0 [.int i]=some (.int (i.natAbs:Int)):=jm (λ z=>some (D.int z)) (show (if i<0 then -i else i)=(i.natAbs:Int) by split <;> omega)
theorem cb2 (xs:List D):bi7 [.lst xs]=bnd (L_2 xs) λ is=>bg5 ao8 is:=rfl
theorem cb1 (xs:List D):bw2 [.lst xs]=bnd (L_2 xs) λ is=>bg5 ao6 is:=rfl
@[simp] theorem cf7:bi7 [.int i,.int j]=some (.int (if j > i then j else i)):=yR rfl
def bV2 {α:Type} (x:α) (o:Option (List α)):Option (List α):=bnd o λ t=>some (x::t)
@[simp] theorem Y_4  (x:α) (t:List α):bV2 x (some t)=some (x::t):=yR rfl
def mkP (o:Option D) (ρ:En):Option (D×En):=bnd o λ d=>some (d,ρ)
@[simp] theorem ca7:mkP (some d) ρ=some (d,ρ):=yR rfl
@[simp] theorem bX8:slV ρ (some (.im d))=some (d,ρ):=yR rfl
@[simp] theorem eV_:eV i ρ=slV ρ ρ[i]?:=yR rfl
@[simp] theorem eC_:eC d ρ=some (d,ρ):=yR rfl
def e1a (op:D->Option D) (o:Option (D×En)):Option (D×En):=bnd o λ p=>bnd (op p.1) λ d=>some (d,p.2)
@[simp] theorem e1_:e1 op F ρ=e1a op (F ρ):=yR rfl
@[simp] theorem ce7:e1a op (some (x,ρ))=mkP (op x) ρ:=yR rfl
def e2b (op:D->D->Option D) (x:D) (o:Option (D×En)):Option (D×En):=bnd o λ q=>bnd (op x q.1) λ d=>some (d,q.2)
def e2a (op:D->D->Option D) (G:FE) (o:Option (D×En)):Option (D×En):=bnd o λ p=>bnd (G p.2) λ q=>bnd (op p.1 q.1) λ d=>some (d,q.2)
@[simp] theorem e2_:e2 op F G ρ=e2a op G (F ρ):=yR rfl
@[simp] theorem ce6:e2a op G (some (x,ρ))=e2b op x (G ρ):=yR rfl
@[simp] theorem ce5:e2b op x (some (y,ρ))=mkP (op x y) ρ:=yR rfl
@[simp] theorem aN_:aN ρ=some ([],ρ):=yR rfl
def aCb (x:D) (o:Option (List D×En)):Option (List D×En):=bnd o λ q=>some (x::q.1,q.2)
def aCa (A:FA) (o:Option (D×En)):Option (List D×En):=bnd o λ p=>bnd (A p.2) λ q=>some (p.1::q.1,q.2)
@[simp] theorem aC_:aC F A ρ=aCa A (F ρ):=yR rfl
@[simp] theorem cg1:aCa A (some (x,ρ))=aCb x (A ρ):=yR rfl
@[simp] theorem cg0:aCb x (some (xs,ρ))=some (x::xs,ρ):=yR rfl
def bN1 (o:Option (List D×En)):Option (D×En):=bnd o λ p=>if p.1.length<=1000 then some (.tup p.1,p.2) else none
@[simp] theorem cd0:c_0 A ρ=bN1 (A ρ):=yR rfl
@[simp] theorem bN0:bN1 (some (xs,ρ))=if xs.length<=1000 then some (.tup xs,ρ) else none:=yR rfl
def bQ1 (o:Option (List D×En)):Option (D×En):=bnd o λ p=>if p.1.length<=1000 then some (.lst p.1,p.2) else none
@[simp] theorem cd2:s_3 A ρ=bQ1 (A ρ):=yR rfl
@[simp] theorem bQ0:bQ1 (some (xs,ρ))=if xs.length<=1000 then some (.lst xs,ρ) else none:=yR rfl
def eFa (g:List D->Option D) (o:Option (List D×En)):Option (D×En):=bnd o λ p=>bnd (g p.1) λ d=>some (d,p.2)
@[simp] theorem eF_:eF g A ρ=eFa g (A ρ):=yR rfl
@[simp] theorem cd9:eFa g (some (xs,ρ))=mkP (g xs) ρ:=yR rfl
def mkB (o:Option Bool) (ρ:En):Option (Bool×En):=bnd o λ b=>some (b,ρ)
@[simp] theorem ca8:mkB (some b) ρ=some (b,ρ):=yR rfl
def tBa (o:Option (D×En)):Option (Bool×En):=bnd o λ p=>bnd (blB p.1) λ b=>some (b,p.2)
@[simp] theorem tB_:tB F ρ=tBa (F ρ):=yR rfl
@[simp] theorem bX6:tBa (some (.bl b,ρ))=some (b,ρ):=yR rfl
def tVa (o:Option (D×En)):Option (Bool×En):=bnd o λ p=>bnd (bf8 p.1) λ b=>some (b,p.2)
@[simp] theorem tV_:tV F ρ=tVa (F ρ):=yR rfl
@[simp] theorem bW6:tVa (some (x,ρ))=mkB (bf8 x) ρ:=yR rfl
def aV7 (U:FT) (o:Option (Bool×En)):Option (Bool×En):=bnd o λ p=>if p.1=true then U p.2 else some (false,p.2)
def bA9 (U:FT) (o:Option (Bool×En)):Option (Bool×En):=bnd o λ p=>if p.1=true then some (true,p.2) else U p.2
def bk6 (o:Option (Bool×En)):Option (Bool×En):=bnd o λ p=>some (!p.1,p.2)
@[simp] theorem bX7:tAnd T U ρ=aV7 U (T ρ):=yR rfl
@[simp] theorem bB8:aV7 U (some (true,ρ))=U ρ:=yR rfl
@[simp] theorem bB9:aV7 U (some (false,ρ))=some (false,ρ):=yR rfl
@[simp] theorem cg5:tOr T U ρ=bA9 U (T ρ):=yR rfl
@[simp] theorem bN3:bA9 U (some (true,ρ))=some (true,ρ):=yR rfl
@[simp] theorem bN4:bA9 U (some (false,ρ))=U ρ:=yR rfl
@[simp] theorem bX1:tNot T ρ=bk6 (T ρ):=yR rfl
@[simp] theorem bB0:bk6 (some (b,ρ))=some (!b,ρ):=yR rfl
@[simp] theorem bW5:tYes ρ=some (true,ρ):=yR rfl
def bK4 (F G:FE) (o:Option (Bool×En)):Option (D×En):=bnd o λ p=>if p.1=true then F p.2 else G p.2
@[simp] theorem cd8:eIf T F G ρ=bK4 F G (T ρ):=yR rfl
@[simp] theorem bS1:bK4 F G (some (true,ρ))=F ρ:=yR rfl
@[simp] theorem bS2:bK4 F G (some (false,ρ))=G ρ:=yR rfl
def bu5 (G:FE) (o:Option (D×En)):Option (D×En):=bnd o λ p=>bnd (blB p.1) λ b=>if b=true then G p.2 else some (.bl false,p.2)
def ct3 (G:FE) (o:Option (D×En)):Option (D×En):=bnd o λ p=>bnd (blB p.1) λ b=>if b=true then some (.bl true,p.2) else G p.2
@[simp] theorem ce0:aL9 F G ρ=bu5 G (F ρ):=yR rfl
@[simp] theorem bK8:bu5 G (some (.bl true,ρ))=G ρ:=yR rfl
@[simp] theorem cp3 (G:FE) (ρ:En):bu5 G (some (.bl false,ρ))=some (.bl false,ρ):=yR rfl
@[simp] theorem cz9 (F G:FE) (ρ:En):eOr F G ρ=ct3 G (F ρ):=yR rfl
@[simp] theorem ct2 (G:FE) (ρ:En):ct3 G (some (.bl false,ρ))=G ρ:=yR rfl
def imA (o:Option Sl) (q:Option En):Option En:=bnd o λ s=>bnd q λ r=>some (s::r)
@[simp] theorem cb8:imA (some s) (some r)=some (s::r):=yR rfl
@[simp] theorem bX9:slI (some (.im d))=some (.im d):=yR rfl
@[simp] theorem bQ5:L_3 ρ []=some []:=yR rfl
@[simp] theorem bQ6:L_3 ρ (j::js)=imA (slI ρ[j]?) (L_3 ρ js):=yR rfl
def cGb (T:FT) (F:FE) (fr:En) (r:List D) (o:Option (D×En)):Option (List D):=bnd o λ q=>bnd (cGo T F fr r) λ t=>some (q.1::t)
def cGa (T:FT) (F:FE) (fr:En) (r:List D) (o:Option (Bool×En)):Option (List D):=bnd o λ p=>if p.1=true then bnd (F p.2) λ q=>bnd (cGo T F fr r) λ t=>some (q.1::t) else cGo T F fr r
@[simp] theorem cf5:cGo T F fr []=some []:=yR rfl
@[simp] theorem aE0:cGo T F fr (d::r)=cGa T F fr r (T (.im d::fr)):=yR rfl
@[simp] theorem aE2:cGa T F fr r (some (true,ρ))=cGb T F fr r (F ρ):=yR rfl
@[simp] theorem aE1:cGb T F fr r (some (x,ρ))=bV2 x (cGo T F fr r):=yR rfl
@[simp] theorem bI0:items (.lst xs)=some xs:=yR rfl
@[simp] theorem bH8:items (.tup xs)=some xs:=yR rfl
def bJ0 (ρ:En) (xs:List D) (o:Option (List D)):Option (D×En):=bnd o λ ys=>if xs.length<=sizeLine then some (.lst ys,ρ) else none
def bJ1 (T:FT) (F:FE) (ρ:En) (xs:List D) (o:Option En):Option (D×En):=bnd o λ fr=>bJ0 ρ xs (cGo T F fr xs)
def bJ2 (js:List Nat) (T:FT) (F:FE) (ρ:En) (o:Option (List D)):Option (D×En):=bnd o λ xs=>bJ1 T F ρ xs (L_3 ρ js)
def bS0 (js:List Nat) (T:FT) (F:FE) (o:Option (D×En)):Option (D×En):=bnd o λ p=>bJ2 js T F p.2 (items p.1)
@[simp] theorem ch6:eLC js I T F ρ=bS0 js T F (I ρ):=yR rfl
@[simp] theorem bR9:bS0 js T F (some (x,ρ))=bJ2 js T F ρ (items x):=yR rfl
@[simp] theorem bR8:bJ2 js T F ρ (some xs)=bJ1 T F ρ xs (L_3 ρ js):=yR rfl
@[simp] theorem bR7:bJ1 T F ρ xs (some fr)=bJ0 ρ xs (cGo T F fr xs):=yR rfl
@[simp] theorem bR6:bJ0 ρ xs (some ys)=if xs.length<=sizeLine then some (.lst ys,ρ) else none:=yR rfl
@[simp] theorem sN_:sN ρ=some (.nx ρ):=yR rfl
def aW8 (G:FS) (o:Option Res):Option Res:=bnd o λ r=>nxR G r
@[simp] theorem bY2:b_7 F G ρ=aW8 G (F ρ):=yR rfl
@[simp] theorem bC9:aW8 G (some (.nx ρ))=G ρ:=yR rfl
@[simp] theorem bC8:aW8 G (some (.rt d ρ))=some (.rt d ρ):=yR rfl
def bk9 (i:Nat) (o:Option (D×En)):Option Res:=bnd o λ p=>some (.nx (p.2.set i (.im p.1)))
@[simp] theorem bY1:d_5 i F ρ=bk9 i (F ρ):=yR rfl
@[simp] theorem bC7:bk9 i (some (x,ρ))=some (.nx (ρ.set i (.im x))):=yR rfl
@[simp] theorem gN_ (i:Nat) (d:D) (ρ:En):gN i d ρ=some (ρ.set i (.im d)):=yR rfl
def bD7 (F G:FS) (o:Option (Bool×En)):Option Res:=bnd o λ p=>if p.1=true then F p.2 else G p.2
@[simp] theorem cg7:sIf T F G ρ=bD7 F G (T ρ):=yR rfl
@[simp] theorem bO0:bD7 F G (some (true,ρ))=F ρ:=yR rfl
@[simp] theorem bO1:bD7 F G (some (false,ρ))=G ρ:=yR rfl
def bl0 (o:Option (D×En)):Option Res:=bnd o λ p=>some (.rt p.1 p.2)
@[simp] theorem bY3:g_0 F ρ=bl0 (F ρ):=yR rfl
@[simp] theorem bD0:bl0 (some (x,ρ))=some (.rt x ρ):=yR rfl
def fGb (g:D->En->Option En) (B:FS) (r:List D) (o:Option Res):Option Res:=bnd o λ z=>goR (fGo g B r) z
def fGa (g:D->En->Option En) (B:FS) (r:List D) (o:Option En):Option Res:=bnd o λ O=>fGb g B r (B O)
theorem bt0 (g:D->En->Option En) (B:FS) (ρ:En):fGo g B [] ρ=some (.nx ρ):=yR rfl
theorem Q_6 (g:D->En->Option En) (B:FS) (d:D) (r:List D) (ρ:En):fGo g B (d::r) ρ=fGa g B r (g d ρ):=yR rfl
@[simp] theorem Q_7:fGa g B r (some ρ)=fGb g B r (B ρ):=yR rfl
@[simp] theorem X_7:fGb g B r (some (.nx ρ))=fGo g B r ρ:=yR rfl
def aX0 (g:D->En->Option En) (B:FS) (ρ:En) (o:Option (List D)):Option Res:=bnd o λ xs=>fGo g B xs ρ
def bl5 (g:D->En->Option En) (B:FS) (o:Option (D×En)):Option Res:=bnd o λ p=>aX0 g B p.2 (items p.1)
@[simp] theorem bY8:bh4 g F B ρ=bl5 g B (F ρ):=yR rfl
@[simp] theorem bD9:bl5 g B (some (x,ρ))=aX0 g B ρ (items x):=yR rfl
@[simp] theorem bD8:aX0 g B ρ (some xs)=fGo g B xs ρ:=yR rfl
def bl8 (o:Option (D×En)):Option (List D×En):=bnd o λ p=>bnd (bh9 p.1) λ j=>if -(2 ^ 62)<=j/\j<2 ^ 62 then some (C_9 0 j.toNat,p.2) else none
@[simp] theorem bZ2:aH3 F ρ=bl8 (F ρ):=yR rfl
@[simp] theorem bF1:bl8 (some (.int j,ρ))=if -(2 ^ 62)<=j/\j<2 ^ 62 then some (C_9 0 j.toNat,ρ) else none:=yR rfl
def aP5 (g:D->En->Option En) (B:FS) (o:Option (List D×En)):Option Res:=bnd o λ p=>fGo g B p.1 p.2
@[simp] theorem bO2:N_3 g X B ρ=aP5 g B (X ρ):=yR rfl
@[simp] theorem bx5:aP5 g B (some (xs,ρ))=fGo g B xs ρ:=yR rfl
def fnA (o:Option Res):Option D:=bnd o λ r=>bx9 r
@[simp] theorem cc8:fnA (some (.rt d ρ))=some d:=yR rfl
@[simp] theorem ch4:fnD n k B ds=if ds.length=n then fnA (B (ds.map .im++List.replicate k .no)) else none:=yR rfl
def bp3 (o:Option (List D×En)):Option (List D×En):=bnd o λ p=>if p.1.length<=1000 then some p else none
@[simp] theorem ca5:bh7 A ρ=bp3 (A ρ):=yR rfl
@[simp] theorem bH0:bp3 (some (xs,ρ))=if xs.length<=1000 then some (xs,ρ) else none:=yR rfl
def bl1 (i:Nat) (o:Option (List D×En)):Option Res:=bnd o λ p=>some (.nx (p.2.set i (.ow false (.lst p.1))))
@[simp] theorem bY4:at5 i A ρ=bl1 i (A ρ):=yR rfl
@[simp] theorem bD1:bl1 i (some (xs,ρ))=some (.nx (ρ.set i (.ow false (.lst xs)))):=yR rfl
@[simp] theorem ca0:owL (some (.ow false (.lst ds)))=some ds:=yR rfl
def aX2 (i:Nat) (x:D) (ρ:En) (o:Option (List D)):Option Res:=bnd o λ ds=>if ds.length<1000000 then some (.nx (ρ.set i (.ow false (.lst (ds++[x]))))) else none
def aX3 (i:Nat) (o:Option (D×En)):Option Res:=bnd o λ p=>aX2 i p.1 p.2 (owL p.2[i]?)
def bl6 (i:Nat) (F:FE) (ρ:En) (o:Option (List D)):Option Res:=bnd o λ _=>aX3 i (F ρ)
@[simp] theorem bZ0:an7 i F ρ=bl6 i F ρ (owL ρ[i]?):=yR rfl
@[simp] theorem bF0:bl6 i F ρ (some ds)=aX3 i (F ρ):=yR rfl
@[simp] theorem bE9:aX3 i (some (x,ρ))=aX2 i x ρ (owL ρ[i]?):=yR rfl
@[simp] theorem bE8:aX2 i x ρ (some ds)=if ds.length<1000000 then some (.nx (ρ.set i (.ow false (.lst (ds++[x]))))) else none:=yR rfl
def by6 (i:Nat) (ρ:En):Option Sl->En
 |some (.ow false (.lst ds))=>ρ.set i (.im (.lst ds))
 |_=>ρ
@[simp] theorem ch3:frz i ρ=by6 i ρ ρ[i]?:=by unfold frz by6;split <;> simp_all
@[simp] theorem bR0:by6 i ρ (some (.ow false (.lst ds)))=ρ.set i (.im (.lst ds)):=yR rfl
@[simp] theorem bY7:an6 i F ρ=F (frz i ρ):=yR rfl
end Fx
namespace Fx
open PySem PySem.Spec PyProof.Rows L2
theorem RS.heNone {K:Frag} (R:RS K c H0 H ρ σ)  (hp:H p=none):c.He p=none:=by
 cases q:c.He p with
 |none=>rfl
 |some u =>
  by_cases hb:p∈c.Ap
  ·exact absurd hp (R.apt p hb)
  ·rw[R.keep p u q hb] at hp;cases hp
theorem RS.setOwn {K:Frag}{c:FC}{H0 H:Hp}{ρ:En}{σ:L2.St}{p:Addr}{u:HO}{o:MO} (R:RS K c H0 H ρ σ) (i:Nat) (hp:H p=none) (r:OwOk K H0 (upd H p u) p o) :
  RS K c H0 (upd H p u) (ρ.set i (.ow false o)) (σ.set i (some (.ref p))):=by
 have hl:=R.len;have h0:H0 p=none:=R.same.free hp;have he:=R.heNone hp;have up:∀ b v,H b=some v->(upd H p u) b=some v:=λ b v e=>by rw[b_2 (c_6 e hp)];exact e
 have Y:∀ (j:Nat) (sl:Sl),j≠i->(ρ.set i (.ow false o))[j]?=some sl->ρ[j]?=some sl:=λ j sl Z e=>by rwa [yc (yi Z)] at e
 have O:∀ (j:Nat),j≠i->(σ.set i (some (V.ref p)))[j]?=σ[j]?:=λ j Z=>yc (yi Z);have aa:∀ (sl:Sl),(ρ.set i (.ow false o))[i]?=some sl->sl=.ow false o/\i<ρ.length:=λ sl e=>by
  by_cases hi:i<ρ.length
  ·rw[zr hi] at e;exact⟨(qp e).symm,hi⟩
  ·rw[Zz (by rw[yn];omega)] at e;cases e
 have ac:∀ (j:Nat) (b:Bool) (o:MO) (a:Addr),ρ[j]?=some (.ow b o)->σ[j]?=some (some (.ref a))->a≠p:=λ j b o a e1 e2=>by
  obtain⟨a',x,_,_,w⟩:=R.ow j b o e1;rw[x] at e2;cases e2;obtain⟨u,q⟩:=w.some;exact c_6 q hp
 refine⟨λ b u e=>up b u (R.same b u e),R.init,R.fresh,λ b o e n=>up b o (R.keep b o e n),λ a ha e=>?_,by rw[yn,yn,hl],λ j d' e=>?_,λ j bb o' e=>?_,λ j k b1 b2 o1 o2 a e1 e2 e3 e4=>?_⟩
 ·cases q:H a with
  |none=>exact R.apt a ha q
  |some v=>rw[up a v q] at e;cases e
 ·by_cases Z:j=i
  ·subst Z;obtain⟨e',_⟩:=aa _ e;cases e'
  ·rw[O j Z];exact R.im j d' (Y j _ Z e)
 ·by_cases Z:j=i
  ·subst Z;obtain⟨e',hi⟩:=aa _ e;cases e';exact⟨p,by rw[zr (by omega)],h0,he,r⟩
  ·rw[O j Z];obtain⟨a,x,y,z,w⟩:=R.ow j bb o' (Y j _ Z e);exact⟨a,x,y,z,w.step (Same.refl _) λ v q=>up a v q⟩
 ·by_cases Z:j=i
  ·by_cases hk:k=i
   ·omega
   ·subst Z;obtain⟨_,hi⟩:=aa _ e1;rw[zr (by omega)] at e3;cases e3;rw[O k hk] at e4;exact absurd rfl (ac k b2 o2 _ (Y k _ hk e2) e4)
  ·by_cases hk:k=i
   ·subst hk;obtain⟨_,hi⟩:=aa _ e2;rw[zr (by omega)] at e4;cases e4;rw[O j Z] at e3;exact absurd rfl (ac j b1 o1 _ (Y j _ Z e1) e3)
   ·rw[O j Z] at e3;rw[O k hk] at e4;exact R.ne j k b1 b2 o1 o2 a (Y j _ Z e1) (Y k _ hk e2) e3 e4
theorem RS.lent {K:Frag} (R:RS K c H0 H ρ σ)  (hi:ρ[i]?=some (.ow b o)) (ha:σ[i]?=some (some (.ref a)))
  (s0:Same H0 H0') (s':Same H0' H') (kp:∀ x u,H x=some u->x≠a->H' x=some u) (fr:∀ x u,H0' x=some u->H0 x=some u\/H x=none) (r:OwOk K H0' H' a o') :
  RS K c H0' H' (ρ.set i (.ow b o')) σ:=by
 obtain⟨a',x,y,z,w⟩:=R.ow i b o hi;rw[ha] at x;cases x;obtain⟨ua,qa⟩:=w.some;have il:=(List.getElem?_eq_some_iff.mp hi).1;have n0:∀ x,H0 x=none->H x≠none->H0' x=none:=λ x h1 h2=>by
  cases q:H0' x with
  |none=>rfl
  |some u =>
   rcases fr x u q with h | h
   ·rw[h1] at h;cases h
   ·exact absurd h h2
 have O:∀ (j:Nat) (sl:Sl),j≠i->(ρ.set i (.ow b o'))[j]?=some sl->ρ[j]?=some sl:=λ j sl Y e=>by rwa [yc (yi Y)] at e
 have Z:∀ (sl:Sl),(ρ.set i (.ow b o'))[i]?=some sl->sl=.ow b o':=λ sl e=>by
  rw[zr il] at e;exact (qp e).symm
 have aa:∀ (j:Nat) (bb:Bool) (oo:MO),(ρ.set i (.ow b o'))[j]?=some (.ow bb oo)->∃ bb ac,ρ[j]?=some (.ow bb ac):=λ j bb oo e=>by
  by_cases Y:j=i
  ·exact⟨b,o,by rw[Y];exact hi⟩
  ·exact⟨bb,oo,O j _ Y e⟩
 refine⟨s',R.init.trans s0,λ x u e=>?_,λ x u e n=>?_,λ x hx e=>?_,by rw[yn];exact R.len,λ j d' e=>?_,λ j bb oo e=>?_,λ j k b1 b2 o1 o2 x e1 e2 e3 e4=>?_⟩
 ·rcases fr x u e with h | h
  ·exact R.fresh x u h
  ·exact .inr (R.heNone h)
 ·have:x≠a:=λ h=>by
   cases b with
   |true=>exact n (h▸z)
   |false =>
    have z':=z;rw[h,z'] at e;cases e
  exact kp x u (R.keep x u e n) this
 ·by_cases h:x=a
  ·obtain⟨u,q⟩:=r.some;rw[h,q] at e;cases e
  ·cases q:H x with
   |none=>exact R.apt x hx q
   |some u=>rw[kp x u q h] at e;cases e
 ·by_cases Y:j=i
  ·subst Y;cases Z _ e
  ·obtain⟨v,a1,a2⟩:=R.im j d' (O j _ Y e);exact⟨v,a1,Rep.mono s0 _ a2⟩
 ·by_cases Y:j=i
  ·subst Y;cases Z _ e;exact⟨a,ha,n0 a y (by rw[qa];intro h;cases h),z,r⟩
  ·have q':=O j _ Y e;obtain⟨x,x1,y1,z1,w1⟩:=R.ow j bb oo q';have nx:x≠a:=λ h=>Y (R.ne j i bb b oo o x q' hi x1 (by rw[h];exact ha));obtain⟨u,qu⟩:=w1.some;exact⟨x,x1,n0 x y1 (by rw[qu];intro h;cases h),z1,w1.step s0 λ v q=>kp x v q nx⟩
 ·obtain⟨_,p,e1⟩:=aa j b1 o1 e1;obtain⟨_,q,e2⟩:=aa k b2 o2 e2;exact R.ne j k _ _ p q x e1 e2 e3 e4
theorem RS.mutOwn {K:Frag} (R:RS K c H0 H ρ σ)  (hi:ρ[i]?=some (.ow b o)) (O:σ[i]?=some (some (.ref a))) (r:OwOk K H0 (upd H a u) a o') :
  RS K c H0 (upd H a u) (ρ.set i (.ow b o')) σ:=by
 obtain⟨Y,x,y,z,w⟩:=R.ow i b o hi;rw[O] at x;cases x;refine R.lent hi O (Same.refl _) (λ x v e=>?_) (λ x v e n=>by rw[b_2 n];exact e) (λ x v e=>.inl e) r;have:x≠a:=λ h=>by rw[h,y] at e;cases e
 rw[b_2 this];exact R.same x v e
theorem RS.freeze {K:Frag}{c:FC}{H0 H:Hp}{ρ:En}{σ:L2.St}{ds:List D} (R:RS K c H0 H ρ σ) {i:Nat} (hi:ρ[i]?=some (.ow false (.lst ds))) :
  ∃ H0',Same H0 H0'/\RS K c H0' H (ρ.set i (.im (.lst ds))) σ:=by
 obtain⟨a,x,y,z,vs,e,r⟩:=R.ow i _ _ hi;have he:c.He a=none:=z;have il:i<ρ.length:=(List.getElem?_eq_some_iff.mp hi).1;have s0:Same H0 (upd H0 a (.lst vs)):=λ b u q=>by rw[b_2 (c_6 q y)];exact q
 have O:∀ (j:Nat) (sl:Sl),j≠i->(ρ.set i (.im (.lst ds)))[j]?=some sl->ρ[j]?=some sl:=λ j sl Z e=>by rwa [yc (yi Z)] at e
 have Y:∀ (sl:Sl),(ρ.set i (.im (.lst ds)))[i]?=some sl->sl=.im (.lst ds):=λ sl e=>by
  rw[zr il] at e;exact (qp e).symm
 refine⟨upd H0 a (.lst vs),s0,λ b u q=>?_,R.init.trans s0,λ b u q=>?_,R.keep,R.apt,by rw[yn];exact R.len,λ j d' q=>?_,λ j bb o' q=>?_,λ j k b1 b2 o' aa b e1 e2 e3 e4=>?_⟩
 ·by_cases h:b=a
  ·subst h;rw[a_3] at q;cases q;exact e
  ·rw[b_2 h] at q;exact R.same b u q
 ·by_cases h:b=a
  ·subst h;exact .inr he
  ·rw[b_2 h] at q;exact R.fresh b u q
 ·by_cases Z:j=i
  ·subst Z;cases Y _ q;refine⟨.ref a,x,?_⟩;unfold Rep;exact⟨a,vs,rfl,.inl (.inl a_3),Reps.mono s0 _ r⟩
  ·obtain⟨v,a1,a2⟩:=R.im j d' (O j _ Z q);exact⟨v,a1,Rep.mono s0 _ a2⟩
 ·by_cases Z:j=i
  ·subst Z;cases Y _ q
  ·have q':=O j _ Z q;obtain⟨b,x1,y1,z1,w1⟩:=R.ow j bb o' q';have nb:b≠a:=λ h=>Z (R.ne j i bb false o' _ b q' hi x1 (by rw[h];exact x));exact⟨b,x1,by rw[b_2 nb];exact y1,z1,w1.step s0 λ u q=>q⟩
 ·by_cases Z:j=i
  ·subst Z;cases Y _ e1
  ·by_cases hk:k=i
   ·subst hk;cases Y _ e2
   ·exact R.ne j k b1 b2 o' aa b (O j _ Z e1) (O k _ hk e2) e3 e4
def tEo (K:Frag) (A:FA):TE:=λ σ H Q=>∃ c H0 ρ ds O,RS K c H0 H ρ σ/\A ρ=some (ds,O)/\∀ p vs H0' H',Same H0 H0'->RS K c H0' H' O σ->H' p=none->Reps K H0' ds vs->Q (.ref p) (upd H' p (.lst vs))
def XO' (X:Cx) (e:Expr) (A:FA):Prop:=PE X e (tEo X.K A)
theorem x_9  (h:owL o=some ds):o=some (.ow false (.lst ds)):=by
 unfold owL at h;split at h
 ·cases h;rfl
 ·cases h
section
theorem aU5  (h:XA X es A):XO' X (.List es pos) (bh7 A):=PE.wk (ah9 h) λ σ H Q O=>by
 obtain⟨c,H0,ρ,ds,ac,R,f,q⟩:=O;obtain⟨⟨ad,aa⟩,h1,f⟩:=a_0 f;obtain⟨hl,f'⟩:=ifs f;cases f';exact⟨c,H0,ρ,ds,_,R,h1,λ vs H1 Hh s1 Z Y=>⟨by rw[<- Y.length];exact aV8 hl,λ p hp=>q p vs H1 Hh s1 Z hp Y⟩⟩
theorem cv4 {c a b:Expr} (hc:XT X c T) (ha:XO' X a A) (hb:XO' X b B):XO' X (.IfExp c a b pos) (oIf T A B):=PE.wk (aI5 hc ha hb) λ σ H Q Z=>by
 obtain⟨c,H0,ρ,d,Y,R,f,q⟩:=Z;unfold oIf at f;obtain⟨⟨k,O⟩,h1,f⟩:=a_0 f;dsimp only at f;refine⟨c,H0,ρ,k,O,R,h1,λ H1 Hh s1 R1=>?_⟩;cases k with
 |true =>
  rw[if_pos rfl] at f ⊢;exact⟨c,H1,O,d,Y,R1,f,λ p vs H2 Hh2 s2 R2=>q p vs H2 Hh2 (s1.trans s2) R2⟩
 |false =>
  rw[if_neg zc] at f ⊢;exact⟨c,H1,O,d,Y,R1,f,λ p vs H2 Hh2 s2 R2=>q p vs H2 Hh2 (s1.trans s2) R2⟩
theorem bj2 (i:Nat)  (hN:X.N.Nodup) (he:XO' X e A) (hi:X.N[i]?=some x:=by rfl) (hx:Loc X.env.scope x:=by first | exact Or.inl rfl | exact Or.inr rfl) (hs:swapsWith e (some (.Name x pos')) pos.line X.env=pure false:=by rfl)
  (hf:X.fn x=true\/X.env.scope.names.lookup x=some .local:=by first | exact .inl rfl | exact .inr rfl):XS X (.Assign [.Name x pos'] e pos) (at5 i A):=PS.wk (x_7 hN hi hx he hs hf) λ Dn σ H Y=>by
 obtain⟨c,H0,ρ,r,R,f,q⟩:=Y;obtain⟨⟨ds,O⟩,h1,f⟩:=a_0 f;have f':=f;cases f';exact⟨c,H0,ρ,ds,O,R,h1,λ p vs H1 Hh s1 Z hp r1=>q _ H1 _ s1 (Z.setOwn i hp ⟨vs,a_3,r1⟩)⟩
theorem aE8 (i:Nat)  (ha:XA X [e] (aC F aN)) (hN:X.N[i]?=some x:=by rfl) (hv:Vis X.env.scope x:=by first | exact Or.inl rfl | exact Or.inr (Or.inl rfl) | exact Or.inr (Or.inr rfl)) (hd:(x==("__debug__":Str))=false:=by decide)
  (ah:(x==("__classdict__":Str))=false:=by decide) (Y:attributeBase (.Name x p1) "append" X.env (eval (.Name x p1) X.env)=eval (.Name x p1) X.env:=by rfl)
  (ac:((backTo Z (starEach [e] X.env)).all (λ x=>!x.1)&&(backToKw Z (keywordEach [] X.env)).all (λ x=>x.1.isSome)&&decide ([e].length+([]:List Keyword).length+(if ([]:List Keyword).isEmpty then 0 else 1)<30))=true:=by rfl)
  (O:(p2.endLine==Z.line)=true:=by rfl) (af:starEach [e] X.env=(false,eval e X.env)::starEach [] X.env:=by rfl) (ag:(backTo Z (starEach [] X.env)).any (·.1)=false:=by rfl)
  (hs:swapsWith (.Call (.Attribute (.Name x p1) "append" p2) [e] [] Z) none pos.line X.env=pure false:=by rfl) :
  XS X (.Expr (.Call (.Attribute (.Name x p1) "append" p2) [e] [] Z) pos) (an7 i F) :=
 PS.wk (av1 (bo0 Zf PySem.F.slot_list_append PySem.F.type_list_append ax6 (i_4 hN hv hd ah) ha Y ac O af ag) hs) λ Dn σ H aa=>by
  obtain⟨c,H0,ρ,r,R,f,q⟩:=aa;obtain⟨ai,h0,f⟩:=a_0 f;obtain⟨⟨d,ad⟩,h1,f⟩:=a_0 f;obtain⟨ds,h2,f⟩:=a_0 f;obtain⟨hl,f'⟩:=ifs f;cases f';obtain⟨a,x1,_,_,ae,y1,_⟩:=R.ow i _ _ (x_9 h0);refine⟨.ref a,x1,.inl ⟨rfl,ae,SqL.of y1⟩,c,H0,ρ,[d],ad,R,by unfold aC aN;rw[h1];rfl,λ vs H1 Hh s1 R1 r1=>?_⟩;obtain⟨v,rfl,rv⟩:=Reps.v1 r1;obtain⟨a',x2,_,_,ws,y2,z2⟩:=R1.ow i _ _ (x_9 h2);rw[x1] at x2;cases x2;refine⟨a,ws,v,rfl,rfl,y2,?_,?_⟩
  ·rw[<- z2.length];exact qx hl (by rw[Z0];decide)
  ·exact q σ H1 _ s1 (R1.mutOwn (x_9 h2) x1 ⟨_,a_3,z2.app (Reps.one rv)⟩)
theorem aO6 (i:Nat) {st:Stmt}{G:FS} (h:XS X st G):XS X st (an6 i G):=PS.wk h λ Dn σ H O=>by
 obtain⟨c,H0,ρ,r,R,f,q⟩:=O;unfold an6 frz at f;cases z:ρ[i]? with
 |none=>rw[z] at f;exact⟨c,H0,ρ,r,R,f,q⟩
 |some Y =>
  rw[z] at f;cases Y with
  |no=>exact⟨c,H0,ρ,r,R,f,q⟩
  |im d=>exact⟨c,H0,ρ,r,R,f,q⟩
  |ow b o =>
   cases b with
   |true=>exact⟨c,H0,ρ,r,R,f,q⟩
   |false =>
   cases o with
   |dic kds=>exact⟨c,H0,ρ,r,R,f,q⟩
   |dtu kds=>exact⟨c,H0,ρ,r,R,f,q⟩
   |lst ds =>
    obtain⟨H0',s0,Z⟩:=R.freeze z;exact⟨c,H0',_,r,Z,f,q.mono s0⟩
end
end Fx
namespace Fx
open PySem
def atS (z:Str) (i:Int):Option D:=if z.length<=sizeLine then bnd (bnd (dPl z.cps.toList.length i) λ j=>z.cps.toList[j]?) λ c=>some (.str (chS c)) else none
def b_5:D->D->Option D
 |.tup xs,.int i=>atD xs i
 |.lst xs,.int i=>atD xs i
 |.str z,.int i=>atS z i
 |_,_=>none
noncomputable def s_4:List D->Option D
 |[.lst xs]=>some (.int xs.length)
 |[.tup xs]=>some (.int xs.length)
 |[.str z]=>if z.length<=sizeLine then some (.int z.length) else none
 |_=>none
noncomputable def ad9:D->Bool
 |.fnv=>false
 |.opq _ _=>false
 |.dct _ _=>false
 |.tup _=>false
 |.lst _=>false
 |_=>true
def inD (x:D) (xs:List D):Bool:=xs.any λ y=>eqD y x
def Z_9 (x:D) (xs:List D):Bool:=ad9 x&&xs.all ad9
def dIn:D->D->Option D
 |x,.tup xs=>if Z_9 x xs=true then some (.bl (inD x xs)) else none
 |x,.lst xs=>if Z_9 x xs=true then some (.bl (inD x xs)) else none
 |_,_=>none
def bY9:D->D->Option D
 |x,.tup xs=>if Z_9 x xs=true then some (.bl (!inD x xs)) else none
 |x,.lst xs=>if Z_9 x xs=true then some (.bl (!inD x xs)) else none
 |_,_=>none
noncomputable def bg7:List D->Option D
 |[.int i]=>some (.int i)
 |[.bl b]=>some (.int (if b then 1 else 0))
 |_=>none
noncomputable def q_1:List D->Option D
 |[.lst xs]=>some (.tup xs)
 |[.tup xs]=>some (.tup xs)
 |_=>none
@[simp] theorem bU4:b_5 (.tup xs) (.int i)=atD xs i:=yR rfl
@[simp] theorem bU6:b_5 (.lst xs) (.int i)=atD xs i:=yR rfl
@[simp] theorem bM1:s_4 [.lst xs]=some (.int xs.length):=yR rfl
end Fx
namespace Fx
open PySem PySem.Spec PyProof.Rows L2
section
variable {X:Cx}{K:Frag}
theorem F_5 (H:Hp) (x:Str):Rep K H (.str x) (.str x):=by rfl
theorem cb6:OpD K (rIx K) b_5:=λ c H0 H ρ σ x y d vx Z Q R O Y e q=>by
 cases y with
 |int i =>
  subst Y;cases x with
  |tup ds =>
   obtain⟨p,vs,rfl,s,t⟩:=O;obtain⟨v,e1,e2⟩:=bw3 t e;exact .inr (.inl ⟨p,vs,i,v,rfl,rfl,Same.seqT R.same s,e1,q v H0 H (Same.refl _) R e2⟩)
  |lst ds =>
   obtain⟨p,vs,rfl,s,t⟩:=O;obtain⟨v,e1,e2⟩:=bw3 t e;exact .inl ⟨p,vs,i,v,rfl,rfl,Same.seq R.same s,e1,q v H0 H (Same.refl _) R e2⟩
  |str z =>
   subst O;have e:atS z i=some d:=e;unfold atS at e;by_cases hz:z.length<=sizeLine
   ·rw[if_pos hz] at e;obtain⟨ch,e1,e2⟩:=a_0 e;have e2:=e2;cases e2;exact .inr (.inr ⟨z,i,ch,rfl,rfl,hz,e1,q _ H0 H (Same.refl _) R (F_5 H0 (chS ch))⟩)
   ·rw[if_neg hz] at e;cases e
  |_=>cases e
 |_=>cases x <;> cases e
theorem d_3 (O:XE X a F) (hb:XE X b G) (hs:T_1 b:=by intro _ _;rfl):XE X (.Subscript a b pos) (e2 b_5 F G):=PE.wk (ab2 br2 O hb hs) λ σ H Q h=>af9 cb6 h
theorem l_2:BOk X (.builtin "len") s_4:=⟨_,call_len_seq.or Y_5,λ c H0 H ρ σ ds d vs Q R r e q=>by
 unfold s_4 at e;split at e
 ·cases e;obtain⟨v,rfl,O⟩:=Reps.v1 r;obtain⟨p,Y,rfl,s,t⟩:=O;exact .inl ⟨p,Y,rfl,.inl (Same.seq R.same s),by rw[<- t.length];exact q _ H0 H (Same.refl _) R (f_7 _ _)⟩
 ·cases e;obtain⟨v,rfl,O⟩:=Reps.v1 r;obtain⟨p,Y,rfl,s,t⟩:=O;exact .inl ⟨p,Y,rfl,.inr (Same.seqT R.same s),by rw[<- t.length];exact q _ H0 H (Same.refl _) R (f_7 _ _)⟩
 ·rename_i z;obtain⟨hz,rfl⟩:=ifs e;obtain⟨v,rfl,O⟩:=Reps.v1 r;subst O;exact .inr ⟨z,rfl,hz,q _ H0 H (Same.refl _) R (f_7 _ _)⟩
 ·cases e⟩
theorem xTy  (o:BOk X (.type T) g) (hg:Gl X x) (Z:X.mg x=none) (hv:bootBuiltins x=some (.type T)) (ha:XA X (e::es) A) (hn:x≠"__name__":=by decide) (Y:(x==("__debug__":Str))=false:=by decide)
  (he:starEach (e::es) X.env=(false,eval e X.env)::starEach es X.env:=by rfl) (O:(backTo pos (starEach es X.env)).any (·.1)=false:=by rfl):XE X (.Call (.Name x p) (e::es) [] pos) (eF g A):=by
 obtain⟨r,h1,h2⟩:=o;exact PE.wk (x_8 h1 hg Z hv ha hn Y he O) λ σ H Q h=>bu4 h2 h
theorem S_1:BOk X (.type "int") bg7:=⟨_,aD6,λ c H0 H ρ σ ds d vs Q R r e q=>by
 unfold bg7 at e;split at e
 ·cases e;obtain⟨v,rfl,O⟩:=Reps.v1 r;subst O;exact .inl ⟨_,rfl,q _ H0 H (Same.refl _) R (f_7 _ _)⟩
 ·cases e;obtain⟨v,rfl,O⟩:=Reps.v1 r;subst O;exact .inr ⟨_,rfl,q _ H0 H (Same.refl _) R (f_7 _ _)⟩
 ·cases e⟩
theorem i_8:BOk X (.type "tuple") q_1:=⟨_,R_8,λ c H0 H ρ σ ds d vs Q R r e q=>by
 unfold q_1 at e;split at e
 ·cases e;obtain⟨v,rfl,O⟩:=Reps.v1 r;obtain⟨p,Y,rfl,s,t⟩:=O;refine⟨p,Y,rfl,.inl ⟨Same.seq R.same s,λ l hl=>?_⟩⟩;have S:=Step.alloc (o:=.tup Y) R.same hl;refine q _ _ _ S.s0 (R.after S) ?_;exact⟨l,_,rfl,.inl (.inl a_3),Reps.mono S.s0 _ t⟩
 ·cases e;obtain⟨v,rfl,O⟩:=Reps.v1 r;have Z:=O;obtain⟨p,Y,rfl,s,t⟩:=O;exact⟨p,Y,rfl,.inr ⟨Same.seqT R.same s,q _ H0 H (Same.refl _) R Z⟩⟩
 ·cases e⟩
theorem E_3 {H:Hp}{d:D}{v:V} (h:ad9 d=true) (r:Rep K H d v):J_5 v=true/\∀ d' O,ad9 d'=true->Rep K H d' O->eqV v O=eqD d d':=by
 cases d with
 |tup xs=>cases h
 |lst xs=>cases h
 |fnv=>cases h
 |opq ks vs=>cases h
 |dct ks vs=>cases h
 |_ =>
  unfold Rep at r;subst r;refine⟨rfl,λ d' O h' Y=>?_⟩;cases d' with
  |tup xs=>cases h'
  |lst xs=>cases h'
  |fnv=>cases h'
  |opq ks vs=>cases h'
  |dct ks vs=>cases h'
  |_ =>
   unfold Rep at Y;subst Y
   first
    |(simp[eqV];done)
    |(simp[eqV,eqD];done)
    |(simp[eqV,eqD,Qz];done)
    |(unfold eqV;simp)
theorem ak1  (O:ad9 x=true) (r:Rep K H x v):∀ {ds:List D}{vs:List V},ds.all ad9=true->Reps K H ds vs->vs.all J_5=true/\inV v vs=inD x ds
 |[],vs,_,t=>by
  subst t;exact⟨rfl,rfl⟩
 |d::ds,vs,h,t=>by
  obtain⟨u,us,rfl,t1,Y⟩:=t;rw[j7,zj] at h;obtain⟨i1,i2⟩:=ak1 O r h.2 Y;obtain⟨Z,f2⟩:=E_3 h.1 t1;refine⟨by rw[j7,Z,i1];rfl,?_⟩;unfold inV inD at *;rw[Qm,Qm,f2 x v O r,i2]
theorem br7  (hf:∀ x y d,f x y=some d->∃ xs,(y=.tup xs\/y=.lst xs)/\Z_9 x xs=true/\d=.bl (if O then !inD x xs else inD x xs)):OpD K (rIn K O) f:=λ c H0 H ρ σ x y d vx vy Q R Y Z e q=>by
 obtain⟨xs,hy,ok,rfl⟩:=hf x y d e;unfold Z_9 at ok;rw[zj] at ok;rcases hy with rfl | rfl
 ·obtain⟨p,ws,rfl,s,t⟩:=Z;obtain⟨i1,i2⟩:=ak1 ok.1 Y ok.2 t;exact⟨p,ws,rfl,.inr (Same.seqT R.same s),(E_3 ok.1 Y).1,i1,by rw[i2];exact q _ H0 H (Same.refl _) R (o_5 _ _)⟩
 ·obtain⟨p,ws,rfl,s,t⟩:=Z;obtain⟨i1,i2⟩:=ak1 ok.1 Y ok.2 t;exact⟨p,ws,rfl,.inl (Same.seq R.same s),(E_3 ok.1 Y).1,i1,by rw[i2];exact q _ H0 H (Same.refl _) R (o_5 _ _)⟩
end
end Fx
namespace Fx
open PySem
noncomputable def w_3 (k:Str):List (Str×D)->Option D
 |[]=>none
 |q::r=>if q.1=k then some q.2 else w_3 k r
noncomputable def an4 (k:Str) (d:D):List (Str×D)->List (Str×D)
 |[]=>[]
 |q::r=>(if q.1=k then (q.1,d) else q)::an4 k d r
noncomputable def owO:Option Sl->Option (Bool×MO)
 |some (.ow b o)=>some (b,o)
 |_=>none
noncomputable def owD:Option Sl->Option (Bool×List (Str×D))
 |some (.ow b (.dic kds))=>some (b,kds)
 |_=>none
def eFb (i:Nat) (g:MO->List D->Option (D×MO)) (A:FA) (ρ:En):Option (D×En):=bnd (owO ρ[i]?) λ _=>bnd (A ρ) λ p=>bnd (owO p.2[i]?) λ q=>bnd (g q.2 p.1) λ z=>some (z.1,p.2.set i (.ow q.1 z.2))
def bF3:Res->Option (D×MO)
 |.rt d ρ=>bnd (owO ρ[0]?) λ q=>if q.1=true then some (d,q.2) else none
 |.nx ρ=>bnd (owO ρ[0]?) λ q=>if q.1=true then some (.non,q.2) else none
 |_=>none
def fnB (n k:Nat) (B:FS) (o:MO) (ds:List D):Option (D×MO):=if ds.length=n then bnd (B (.ow true o::(ds.map .im++List.replicate k .no))) λ r=>bF3 r else none
def by3 (A:FS) (F:En->Option MO) (ρ:En):Option MO:=bnd (A ρ) λ r=>match r with
 |.nx O=>F O
 |_=>none
def fnN (n k:Nat) (F:En->Option MO) (ds:List D):Option MO:=if ds.length=n then F (ds.map .im++List.replicate k .no) else none
def bl3 (i:Nat) (g:List D->Option MO) (A:FA) (ρ:En):Option Res:=bnd (A ρ) λ p=>bnd (g p.1) λ o=>some (.nx (p.2.set i (.ow false o)))
@[simp] theorem bZ9:owO (some (.ow b o))=some (b,o):=yR rfl
@[simp] theorem ca1:owD (some (.ow b (.dic o)))=some (b,o):=yR rfl
def bK5 (i:Nat) (ρ:En) (b:Bool) (o:Option (D×MO)):Option (D×En):=bnd o λ z=>some (z.1,ρ.set i (.ow b z.2))
def bK6 (i:Nat) (g:MO->List D->Option (D×MO)) (ds:List D) (ρ:En) (o:Option (Bool×MO)):Option (D×En):=bnd o λ q=>bK5 i ρ q.1 (g q.2 ds)
def bK7 (i:Nat) (g:MO->List D->Option (D×MO)) (o:Option (List D×En)):Option (D×En):=bnd o λ p=>bK6 i g p.1 p.2 (owO p.2[i]?)
def bS7 (i:Nat) (g:MO->List D->Option (D×MO)) (A:FA) (ρ:En) (o:Option (Bool×MO)):Option (D×En):=bnd o λ _=>bK7 i g (A ρ)
@[simp] theorem ch7:eFb i g A ρ=bS7 i g A ρ (owO ρ[i]?):=yR rfl
@[simp] theorem bS6:bS7 i g A ρ (some q)=bK7 i g (A ρ):=yR rfl
@[simp] theorem bS5:bK7 i g (some (ds,ρ))=bK6 i g ds ρ (owO ρ[i]?):=yR rfl
@[simp] theorem bS4:bK6 i g ds ρ (some (b,o))=bK5 i ρ b (g o ds):=yR rfl
@[simp] theorem bS3:bK5 i ρ b (some (d,o))=some (d,ρ.set i (.ow b o)):=yR rfl
def aW9 (i:Nat) (ρ:En) (o:Option MO):Option Res:=bnd o λ o=>some (.nx (ρ.set i (.ow false o)))
def bl2 (i:Nat) (g:List D->Option MO) (o:Option (List D×En)):Option Res:=bnd o λ p=>aW9 i p.2 (g p.1)
@[simp] theorem bY5:bl3 i g A ρ=bl2 i g (A ρ):=yR rfl
@[simp] theorem bD3:bl2 i g (some (ds,ρ))=aW9 i ρ (g ds):=yR rfl
@[simp] theorem bD2:aW9 i ρ (some o)=some (.nx (ρ.set i (.ow false o))):=yR rfl
end Fx
namespace Fx
open PySem PySem.Spec PyProof.Rows L2
def E_6 (ks:List Str) (vs:List V):List (Key×V):=(ks.map Sum.inr).zip vs
theorem w_7 (k:Str) (ks:List Str) (v:V) (vs:List V):E_6 (k::ks) (v::vs)=(Sum.inr k,v)::E_6 ks vs:=rfl
section
variable {K:Frag}
theorem af7 :∀ {kds:List (Str×D)}{vs:List V},Reps K H (kds.map (·.2)) vs->w_3 k kds=some d->∃ v,valV (E_6 (kds.map (·.1)) vs) (.inr k)=some v/\Rep K H d v
 |[],_,_,e=>by cases e
 |q::r,vs,t,e=>by
  rw[ze] at t;obtain⟨v,Z,rfl,Y,O⟩:=t;rw[ze,w_7];unfold w_3 at e;by_cases hk:q.1=k
  ·rw[if_pos hk] at e;cases e;exact⟨v,D_5 (by rw[hk]),Y⟩
  ·rw[if_neg hk] at e;obtain⟨u,e1,e2⟩:=af7 O e;exact⟨u,by rw[w_8 λ z=>hk (Zc z)];exact e1,e2⟩
theorem aQ6  (Z:Rep K H d v):∀ {kds:List (Str×D)}{vs:List V},Reps K H (kds.map (·.2)) vs->∃ O,(E_6 (kds.map (·.1)) vs).map (λ Y=>if Y.1=Sum.inr k then (Y.1,v) else Y)=E_6 ((an4 k d kds).map (·.1)) O/\Reps K H ((an4 k d kds).map (·.2)) O
 |[],vs,t=>⟨[],rfl,Reps.nil_⟩
 |q::r,vs,t=>by
  rw[ze] at t;obtain⟨u,ur,rfl,t1,t2⟩:=t;obtain⟨O,e1,e2⟩:=aQ6 Z t2;unfold an4;rw[ze,w_7,ze,e1];by_cases hk:q.1=k
  ·refine⟨v::O,?_,?_⟩
   ·rw[if_pos (show (Sum.inr q.1:Key)=Sum.inr k by rw[hk]),if_pos hk];rfl
   ·rw[if_pos hk];exact Reps.cons Z e2
  ·refine⟨u::O,?_,?_⟩
   ·rw[if_neg (show ¬ (Sum.inr q.1:Key)=Sum.inr k from λ z=>hk (Zc z)),if_neg hk];rfl
   ·rw[if_neg hk];exact Reps.cons t1 e2
theorem bm7  (Z:Rep K H d v) (t:Reps K H (kds.map (·.2)) vs) (h:w_3 k kds=some Y) :
  ∃ O,I_7 (E_6 (kds.map (·.1)) vs) (.inr k) v=E_6 ((an4 k d kds).map (·.1)) O/\Reps K H ((an4 k d kds).map (·.2)) O:=by
 obtain⟨u,e,_⟩:=af7 t h;obtain⟨O,e1,e2⟩:=aQ6 Z t;refine⟨O,?_,e2⟩;unfold I_7;rw[w_9,e,if_pos (show (some u).isSome=true from rfl)];exact e1
end
theorem aQ3  (h:owD o=some q):o=some (.ow q.1 (.dic q.2)):=by
 unfold owD at h;split at h
 ·cases h;rfl
 ·cases h
theorem B_4  (h:owO o=some q):o=some (.ow q.1 q.2):=by
 unfold owO at h;split at h
 ·cases h;rfl
 ·cases h
section
theorem bH5  (h:n<100):n<sizeLine:=F_1 (by omega)
theorem aF1 {K:Frag}{kds:List (Str×D)} (t:Reps K H (kds.map (·.2)) vs):(E_6 (kds.map (·.1)) vs).length=kds.length:=by have hl:=t.length;rw[zd] at hl;unfold E_6;rw[List.length_zip,zd,zd,<- hl,Nat.min_self]
def spB (K:Frag) (g:MO->List D->Option (D×MO)):Sp:=λ vs H Q _=>∃ Hi a o O ds d o',vs=.ref a::O/\Same Hi H/\Hi a=none/\OwOk K Hi H a o/\Reps K Hi ds O/\g o ds=some (d,o') /\
 ∀ v Hi' H',Same Hi Hi'->Same Hi' H'->(∀ b u,H b=some u->b≠a->H' b=some u)->(∀ b u,Hi' b=some u->Hi b=some u\/H b=none)->OwOk K Hi' H' a o'->Rep K Hi' d v->Q v H'
structure DefB (P:Program) (w:World) (K:Frag) (mg:Str->Option Value) (base:Heap) (k:Nat) (x:Str) (g:MO->List D->Option (D×MO)):Prop where
 ex:∃ f fd ps,FnOk P w K mg base CX0 k f fd ps (spB K g)/\Binds K fd ps []/\keepIn K (.ref f)=true/\mg x=some (.ref f)
theorem xFb (i:Nat) {k:Nat}{x y:Str}{g:MO->List D->Option (D×MO)}{p py pos:Pos}{es:List Expr} (G:DefB X.prog X.w X.K X.mg X.base k x g) (hr:Room k X.A) (ha:XA X es A) (hN:X.N[i]?=some y) (hg:Gl X x)
  (hv:Vis X.env.scope y) (ad:(x==("__debug__":Str))=false) (hd:(y==("__debug__":Str))=false) (af:(y==("__classdict__":Str))=false)
  (ac:(backTo pos (starEach es X.env)).any (·.1)=false):XE X (.Call (.Name x p) (.Name y py::es) [] pos) (eFb i g A):=by
 obtain⟨f,fd,ps,F,hb,hk,hm⟩:=G.ex;refine PE.wk (N_7 F hr hg hm hk hb .nil aI6 (c_5 (i_4 hN hv hd af) ha rfl) ad rfl ac) λ σ H Q Z=>?_;obtain⟨c,H0,ρ,d,ae,R,z,q⟩:=Z;unfold eFb at z;obtain⟨⟨b0,o0⟩,h0,z⟩:=a_0 z;obtain⟨⟨ds,O⟩,h1,z⟩:=a_0 z;obtain⟨⟨b,o⟩,h2,z⟩:=a_0 z;obtain⟨⟨d',o'⟩,h3,z⟩:=a_0 z;have z':some (d',O.set i (.ow b o'))=some (d,ae):=z;cases z';obtain⟨a,e1,_⟩:=R.ow i b0 o0 (B_4 h0);refine⟨_,e1,c,H0,ρ,ds,O,R,h1,λ vs H1 Hh s1 R1 r1=>?_⟩;have y2:=B_4 h2;obtain⟨a',Y,aa,ag,w'⟩:=R1.ow i b o y2;rw[e1] at Y;cases Y;refine⟨H1,a,o,vs,ds,d,o',by rw[zw],R1.same,aa,w',r1,h3,λ v Hi' H' s2 s3 kp fr ok rv=>?_⟩;exact q v Hi' H' (s1.trans s2) (R1.lent y2 e1 s2 s3 kp fr ok) rv
end
theorem RS.startB {K:Frag} (s:Same Hi H) (Z:Hi a=none) (ok:OwOk K Hi H a o) (r:Reps K Hi ds vs) (hn:n-(vs.length+1)=m) :
  RS K ⟨Hi,H,[a]⟩ Hi H (.ow true o::(ds.map .im++List.replicate m .no)) (some (.ref a)::(vs.map some++List.replicate (n-(vs.length+1)) none)):=by
 have R:=RS.start (n:=n-1) (m:=m) s r (by omega);have Y:n-1-vs.length=n-(vs.length+1):=by omega
 rw[Y] at R;have O:∀ (i:Nat) (b:Bool) (o:MO),¬ (ds.map Sl.im++List.replicate m Sl.no)[i]?=some (.ow b o):=λ i b o e=>by
  by_cases hi:i<ds.length
  ·rw[yh (by simpa using hi),zy] at e;cases z:ds[i]? with
   |none=>rw[z] at e;cases e
   |some d'=>rw[z] at e;cases e
  ·rw[yj (by simpa using jp hi),jq] at e;split at e <;> cases e
 refine⟨s,Same.refl _,λ b o e=>.inl e,λ b o e _=>e,λ b hb e=>?_,?_,λ i d e=>?_,λ i b o' e=>?_,λ i j b b' o1 o2 x e1 e2 e3 e4=>?_⟩
 ·obtain⟨u,hu⟩:=ok.some;have:b=a:=by simpa using hb
  have e:=e;rw[this,hu] at e;cases e
 ·rw[zi,zi,R.len]
 ·cases i with
  |zero=>cases e
  |succ i=>exact R.im i d e
 ·cases i with
  |zero =>
   have e':=qp e;cases e';exact⟨a,rfl,Z,by rw[if_pos rfl];exact List.mem_singleton.mpr rfl,ok⟩
  |succ i=>exact absurd e (O i b o')
 ·cases i with
  |zero =>
   cases j with
   |zero=>rfl
   |succ j=>exact absurd e2 (O j _ _)
  |succ i=>exact absurd e1 (O i _ _)
theorem y_9 {K:Frag}{st:Stmt} (F:Fun K x qual st f fd) (S:FnScope N ps (a_2 st)) (hn:ps.length=n+1) (hN:N.length=n+1+m)
  (hb:∀ (Z:Value) (A:Around) (outer:List Env) (s:Shared) (H:Hp) (E:XK),Room k (A.deeper (envOfC qual (a_2 st) s.heap.objs.size f Z))->XSs (R_5 CX0 P w K mg base N qual (a_2 st) f Z A outer s H E).nox (k_2 st) B) :
  FnOk P w K mg base CX0 (k+1) f fd ps (spB K (fnB n m B)):=by
 have ac:∀ {o:MO}{ds:List D}{z:D×MO},fnB n m B o ds=some z->ds.length=n/\∃ r,B (.ow true o::(ds.map .im++List.replicate m .no))=some r/\bF3 r=some z:=λ {o ds z} h=>by
  unfold fnB at h;split at h
  ·rename_i hl;obtain⟨r,h1,h2⟩:=a_0 h;exact⟨hl,r,h1,h2⟩
  ·cases h
 have fin:∀ {Hi H H0' H':Hp}{a:Addr}{o':MO}{O:En}{aa:L2.St},RS K ⟨Hi,H,[a]⟩ H0' H' O aa->O[0]?=some (.ow true o')->Same Hi H0'/\Same H0' H'/\(∀ b u,H b=some u->b≠a->H' b=some u)/\(∀ b u,H0' b=some u->Hi b=some u\/H b=none)/\OwOk K H0' H' a o' :=
  λ {Hi H H0' H' a o' O aa} R e=>by
   obtain⟨a',_,_,z,ok⟩:=R.ow 0 true o' e;rw[if_pos rfl] at z;have za:a'=a:=by simpa using z
   subst za;exact⟨R.init,R.same,λ b u h n=>R.keep b u h (by simpa using n),R.fresh,ok⟩
 refine F.ok S (λ vs H Q E h=>?_) (λ Z A outer s H vs Q E hr h=>?_)
 ·obtain⟨Hi,a,o,vr,ds,d,o',rfl,_,_,_,r,e,_⟩:=h;rw[hn,zi,<- r.length,(ac e).1]
 ·obtain⟨Hi,a,o,vr,ds,d,o',rfl,hs,h0,ok,r,e,q⟩:=h;obtain⟨hl,res,h1,h2⟩:=ac e;have ad:=r.length;have R:=RS.startB (n:=N.length) (m:=m) hs h0 ok r (by omega);refine⟨_,hb Z A outer s H E hr,⟨Hi,H,[a]⟩,Hi,_,res,R,h1,?_⟩;cases res with
  |nx O =>
   obtain⟨⟨b,oo⟩,z1,z2⟩:=a_0 (show bnd (owO O[0]?) (λ q=>if q.1=true then some (D.non,q.2) else none)=some (d,o') from h2);obtain⟨Y,z3⟩:=ifs z2;cases z3;have Y:=Y;subst Y;exact λ aa H0' H' s0 R=>let ⟨x1,x2,x3,x4,x5⟩:=fin R (B_4 z1);q .non H0' H' x1 x2 x3 x4 x5 (by rfl)
  |rt d' O =>
   obtain⟨⟨b,oo⟩,z1,z2⟩:=a_0 (show bnd (owO O[0]?) (λ q=>if q.1=true then some (d',q.2) else none)=some (d,o') from h2);obtain⟨Y,z3⟩:=ifs z2;cases z3;have Y:=Y;subst Y;exact λ v aa H0' H' s0 R rv=>let ⟨x1,x2,x3,x4,x5⟩:=fin R (B_4 z1);q v H0' H' x1 x2 x3 x4 x5 rv
  |bk O=>cases h2
  |ct O=>cases h2
def bh2 (K:Frag) (Hi H:Hp) (o:MO) (a:Addr) (Hi' H':Hp):Prop :=
 Same Hi Hi'/\Same Hi' H'/\Same H H'/\(∀ b u,Hi' b=some u->Hi b=some u\/H b=none)/\Hi' a=none/\H a=none/\OwOk K Hi' H' a o
def spN (K:Frag) (g:List D->Option MO):Sp:=λ vs H Q _=>∃ Hi ds o,Same Hi H/\Reps K Hi ds vs/\g ds=some o/\∀ a Hi' H',bh2 K Hi H o a Hi' H'->Q (.ref a) H'
structure DefN (P:Program) (w:World) (K:Frag) (mg:Str->Option Value) (base:Heap) (k:Nat) (x:Str) (g:List D->Option MO):Prop where
 ex:∃ f fd ps,FnOk P w K mg base CX0 k f fd ps (spN K g)/\Binds K fd ps []/\keepIn K (.ref f)=true/\mg x=some (.ref f)
theorem RS.got {K:Frag} (R:RS K c H0 H ρ σ) (i:Nat) (h:bh2 K H0 H o a H0' H'):RS K c H0' H' (ρ.set i (.ow false o)) (σ.set i (some (.ref a))):=by
 obtain⟨s0,s',s,fr,a0,Y,ok⟩:=h;obtain⟨u,Z⟩:=ok.some;have R2:=R.after ⟨s0,λ b v e=>by
  have:b≠a:=λ z=>by rw[z,Y] at e;cases e
  show (if b=a then none else H' b)=some v;rw[if_neg this];exact s b v e,λ b v e=>by
  have:b≠a:=λ z=>by rw[z,a0] at e;cases e
  rw[if_neg this];exact s' b v e,fr⟩
 have O:upd (λ b=>if b=a then none else H' b) a u=H':=by
  funext b;by_cases hb:b=a
  ·rw[hb,a_3,Z]
  ·rw[b_2 hb];exact if_neg hb
 have:=R2.setOwn i (if_pos rfl) (by rw[O];exact ok);rw[O] at this;exact this
section
theorem bW0 (i:Nat)  (hN:X.N.Nodup) (G:DefN X.prog X.w X.K X.mg X.base k x g) (hr:Room k X.A) (ha:XA X (e::es) A) (hi:X.N[i]?=some y:=by rfl) (hx:Loc X.env.scope y:=by first | exact Or.inl rfl | exact Or.inr rfl)
  (hs:swapsWith (.Call (.Name x p) (e::es) [] cpos) (some (.Name y pos')) pos.line X.env=pure false:=by rfl) (hf:X.fn y=true\/X.env.scope.names.lookup y=some .local:=by first | exact .inl rfl | exact .inr rfl)
  (hg:Gl X x:=by rfl) (aa:(x==("__debug__":Str))=false:=by decide) (he:starEach (e::es) X.env=(false,eval e X.env)::starEach es X.env:=by rfl) (Z:(backTo cpos (starEach es X.env)).any (·.1)=false:=by rfl) :
  XS X (.Assign [.Name y pos'] (.Call (.Name x p) (e::es) [] cpos) pos) (bl3 i g A):=by
 obtain⟨f,fd,ps,F,hb,hk,hm⟩:=G.ex;refine PS.wk (x_7 hN hi hx (N_7 F hr hg hm hk hb .nil aI6 ha aa he Z) hs hf) λ Dn σ H Y=>?_;obtain⟨c,H0,ρ,r,R,f,q⟩:=Y;obtain⟨⟨ds,O⟩,h1,f⟩:=a_0 f;obtain⟨o,h2,f⟩:=a_0 f;have f':=f;cases f';exact⟨c,H0,ρ,ds,O,R,h1,λ vs H1 Hh s1 R1 r1=>⟨H1,ds,o,R1.same,by rw[zw];exact r1,h2,λ a Hi' H' nw=>q _ Hi' H' (s1.trans nw.1) (R1.got i nw)⟩⟩
def tN (K:Frag) (F:En->Option MO):TS:=λ Dn σ H=>∃ Hi He H0 ρ o,RS K ⟨Hi,He,[]⟩ H0 H ρ σ/\F ρ=some o/\∀ a H0' H',bh2 K Hi He o a H0' H'->Dn.rt (.ref a) H'
def XN (X:Cx) (sts:List Stmt) (F:En->Option MO):Prop:=PSs X sts (tN X.K F)
theorem xnC {st:Stmt}{rest:List Stmt} (h1:PS X st (λ Dn σ H=>∃ Hi He H0 ρ r,RS X.K ⟨Hi,He,[]⟩ H0 H ρ σ/\B ρ=some r/\Post X.K ⟨Hi,He,[]⟩ Dn H0 r)) (h2:XN X rest N):XN X (st::rest) (by3 B N) :=
 PSs.wk (k_9 h1 h2) λ Dn σ H Y=>by
  obtain⟨Hi,He,H0,ρ,o,R,f,q⟩:=Y;obtain⟨z,h,f⟩:=a_0 f;refine⟨Hi,He,H0,ρ,z,R,h,?_⟩;cases z with
  |nx O=>exact λ Z H0' H' s R'=>⟨Hi,He,H0',O,o,R',f,q⟩
  |rt d O=>cases f
  |bk O=>cases f
  |ct O=>cases f
theorem xnS {st:Stmt} (h:XS X st B):PS X st (λ Dn σ H=>∃ Hi He H0 ρ r,RS X.K ⟨Hi,He,[]⟩ H0 H ρ σ/\B ρ=some r/\Post X.K ⟨Hi,He,[]⟩ Dn H0 r) :=
 PS.wk h λ Dn σ H ⟨Hi,He,H0,ρ,r,R,f,q⟩=>⟨⟨Hi,He,[]⟩,H0,ρ,r,R,f,q⟩
end
theorem bs7 {K:Frag}{st:Stmt} (F:Fun K x qual st f fd) (S:FnScope N ps (a_2 st)) (Y:ps.length=n) (hN:N.length=n+m)
  (hb:∀ (O:Value) (A:Around) (outer:List Env) (s:Shared) (H:Hp) (E:XK),Room k (A.deeper (envOfC qual (a_2 st) s.heap.objs.size f O))->XN (R_5 CX0 P w K mg base N qual (a_2 st) f O A outer s H E).nox (k_2 st) B) :
  FnOk P w K mg base CX0 (k+1) f fd ps (spN K (fnN n m B)):=by
 refine F.ok S (λ vs H Q E h=>?_) (λ O A outer s H vs Q E Z h=>?_)
 ·obtain⟨Hi,ds,o,_,r,e,_⟩:=h;unfold fnN at e;split at e
  ·rename_i hl;rw[Y,<- r.length];exact hl
  ·cases e
 ·obtain⟨Hi,ds,o,hs,r,e,q⟩:=h;unfold fnN at e;split at e
  ·rename_i hl;exact⟨_,hb O A outer s H E Z,Hi,H,Hi,_,o,RS.start hs r (by rw[<- r.length];omega),e,q⟩
  ·cases e
end Fx
namespace Fx
open PySem
def aT0:D->Option Int->Option Int->Option D
 |.tup xs,lo,hi=>if T_3 xs.length 0 lo=0/\T_3 xs.length xs.length hi=xs.length then none else some (.tup (R_4 xs lo hi))
 |_,_,_=>none
def L_4 (F:FE) (lo hi:FO) (ρ:En):Option (D×En):=bnd (F ρ) λ p=>bnd (lo p.2) λ l=>bnd (hi l.2) λ h=>bnd (aT0 p.1 l.1 h.1) λ d=>some (d,h.2)
noncomputable def inS (x z:Str):Bool:=!(Builtin.Str.occurrences z x 0 z.length 1).isEmpty
def aE9:D->D->Option D
 |x,.tup xs=>if Z_9 x xs=true then some (.bl (inD x xs)) else none
 |x,.lst xs=>if Z_9 x xs=true then some (.bl (inD x xs)) else none
 |.str x,.str z=>some (.bl (inS x z))
 |_,_=>none
def T_9:D->D->Option D
 |x,.tup xs=>if Z_9 x xs=true then some (.bl (!inD x xs)) else none
 |x,.lst xs=>if Z_9 x xs=true then some (.bl (!inD x xs)) else none
 |.str x,.str z=>some (.bl (!inS x z))
 |_,_=>none
@[simp] theorem bv1:aE9 x (.tup xs)=if Z_9 x xs=true then some (.bl (inD x xs)) else none:=by cases x <;> rfl
@[simp] theorem bv2:aE9 x (.lst xs)=if Z_9 x xs=true then some (.bl (inD x xs)) else none:=by cases x <;> rfl
@[simp] theorem aO3 (x:D) (xs:List D):T_9 x (.tup xs)=if Z_9 x xs=true then some (.bl (!inD x xs)) else none:=by cases x <;> rfl
@[simp] theorem aO4 (x:D) (xs:List D):T_9 x (.lst xs)=if Z_9 x xs=true then some (.bl (!inD x xs)) else none:=by cases x <;> rfl
end Fx
namespace Fx
open PySem PySem.Spec PyProof.Rows L2
section
variable {K:Frag}
theorem aU0 {lo hi:Option Expr}{A B:FO}{p2:Pos} (he:XE X e F) (hl:XO X lo A) (hh:XO X hi B):XE X (.Subscript e (.Slice lo hi none p2) pos) (L_4 F A B):=PE.wk (ah8 aP2 he hl hh) λ σ H Q Z=>by
 obtain⟨c,H0,ρ,d,ac,R,f,q⟩:=Z;unfold L_4 at f;obtain⟨⟨x,O⟩,h1,f⟩:=a_0 f;obtain⟨⟨l,Y⟩,h2,f⟩:=a_0 f;obtain⟨⟨u,aa⟩,h3,f⟩:=a_0 f;obtain⟨d',h4,f⟩:=a_0 f;dsimp only at h2 h3 h4 f;have f':some (d',aa)=some (d,ac):=f;cases f';refine⟨c,H0,ρ,x,O,R,h1,λ v H1 Hh s1 R1 r1=>?_⟩;refine⟨c,H1,O,l,Y,R1,h2,λ H2 Hh2 s2 R2=>?_⟩;refine⟨c,H2,Y,u,_,R2,h3,λ H3 Hh3 s3 R3=>?_⟩;have r3:=Rep.mono s3 x (Rep.mono s2 x r1);cases x with
 |tup ds =>
  have h5:(if T_3 ds.length 0 l=0/\T_3 ds.length ds.length u=ds.length then none else some (D.tup (R_4 ds l u)))=some d:=h4;by_cases hn:T_3 ds.length 0 l=0/\T_3 ds.length ds.length u=ds.length
  ·rw[if_pos hn] at h5;cases h5
  ·rw[if_neg hn] at h5;cases h5;unfold Rep at r3;obtain⟨p,vs,rfl,s,t⟩:=r3;refine⟨p,vs,rfl,Same.seqT R3.same s,?_,λ p' hp=>?_⟩
   ·rw[<- R_3,<- R_3,<- t.length];exact hn
   have S:=Step.alloc (o:=.tup (aF0 vs l u)) R3.same hp;refine q _ _ _ (s1.trans (s2.trans (s3.trans S.s0))) (R3.after S) ?_;unfold Rep;exact⟨p',_,rfl,.inl (.inl a_3),Reps.mono S.s0 _ (aC8 t l u)⟩
 |_=>cases h4
theorem OpR.or  (h:OpR X f r) (h':OpR X f Z):OpR X f (λ x y H Q=>r x y H Q\/Z x y H Q):=by
 intro pins s σ H x y v u Q I Y O q;rcases q with q | q
 ·exact h pins s σ H x y v u Q I Y O q
 ·exact h' pins s σ H x y v u Q I Y O q
theorem br5:OpD K (rIn K false) dIn:=br7 λ x y d e=>by
 cases y with
 |tup xs=>obtain⟨h,rfl⟩:=ifs e;exact⟨xs,.inl rfl,h,rfl⟩
 |lst xs=>obtain⟨h,rfl⟩:=ifs e;exact⟨xs,.inr rfl,h,rfl⟩
 |_=>cases e
theorem aw6:OpD K (rIn K true) bY9:=br7 λ x y d e=>by
 cases y with
 |tup xs=>obtain⟨h,rfl⟩:=ifs (c:=Z_9 x xs=true) e;exact⟨xs,.inl rfl,h,rfl⟩
 |lst xs=>obtain⟨h,rfl⟩:=ifs (c:=Z_9 x xs=true) e;exact⟨xs,.inr rfl,h,rfl⟩
 |_=>cases e
theorem bL5:B_1 X .In aE9:=⟨_,OpR.or aw8 aw7,λ c H0 H ρ σ x y d vx Z Q R O Y e q=>by
 cases y with
 |tup xs=>rw[bv1] at e;exact .inl (br5 c H0 H ρ σ x (.tup xs) d vx Z Q R O Y e q)
 |lst xs=>rw[bv2] at e;exact .inl (br5 c H0 H ρ σ x (.lst xs) d vx Z Q R O Y e q)
 |str b =>
  cases x with
  |str a =>
   have e':=e;cases e';subst O Y;exact .inr ⟨a,b,rfl,rfl,q _ H0 H (Same.refl _) R (o_5 _ _)⟩
  |_=>cases e
 |_=>cases x <;> cases e⟩
theorem bC3:B_1 X .NotIn T_9:=⟨_,OpR.or V_4 al6,λ c H0 H ρ σ x y d vx Z Q R O Y e q=>by
 cases y with
 |tup xs=>rw[aO3] at e;exact .inl (aw6 c H0 H ρ σ x (.tup xs) d vx Z Q R O Y e q)
 |lst xs=>rw[aO4] at e;exact .inl (aw6 c H0 H ρ σ x (.lst xs) d vx Z Q R O Y e q)
 |str b =>
  cases x with
  |str a =>
   have e':some (D.bl (!inS a b))=some d:=e;cases e';unfold Rep at O Y;subst O Y;exact .inr ⟨a,b,rfl,rfl,q _ H0 H (Same.refl _) R (o_5 _ _)⟩
  |_=>cases e
 |_=>cases x <;> cases e⟩
end
end Fx
namespace Fx
open PySem
noncomputable def owT:Option Sl->Option MO
 |some (.ow true o)=>some o
 |_=>none
def aA7 (ρ:En) (i:Nat) (o:MO):List Nat->Option En
 |[]=>some []
 |j::js=>bnd (if j=i then some (.ow true o) else slI ρ[j]?) λ s=>bnd (aA7 ρ i o js) λ r=>some (s::r)
def am2 (T:FT) (F:FE) (ρ:En) (i:Nat) (js:List Nat) (q:Nat):MO->List D->Option (List D×MO)
 |o,[]=>some ([],o)
 |o,d::r=>bnd (aA7 ρ i o js) λ fr=>bnd (T (.im d::fr)) λ p=>if p.1=true then bnd (F p.2) λ z=>bnd (owT z.2[q+1]?) λ o'=>bnd (am2 T F ρ i js q o' r) λ t=>some (z.1::t.1,t.2)
   else bnd (owT p.2[q+1]?) λ o'=>am2 T F ρ i js q o' r
theorem aN6 (T:FT) (F:FE) (ρ:En) (i:Nat) (js:List Nat) (q:Nat) (o:MO):am2 T F ρ i js q o []=some ([],o):=rfl
theorem H_6 (T:FT) (F:FE) (ρ:En) (i:Nat) (js:List Nat) (q:Nat) (o:MO) (d:D) (r:List D):am2 T F ρ i js q o (d::r)=bnd (aA7 ρ i o js) λ fr=>bnd (T (.im d::fr)) λ p=>if p.1=true then bnd (F p.2) λ z=>bnd (owT z.2[q+1]?) λ o'=>bnd (am2 T F ρ i js q o' r) λ t=>some (z.1::t.1,t.2)
   else bnd (owT p.2[q+1]?) λ o'=>am2 T F ρ i js q o' r:=rfl
def lcB (js:List Nat) (i q:Nat) (T:FT) (F:FE) (xs:List D) (ρ:En):Option (D×En):=bnd (owO ρ[i]?) λ w=>bnd (am2 T F ρ i js q w.2 xs) λ t=>if xs.length<=sizeLine/\js[q]?=some i/\js.Nodup then some (.lst t.1,ρ.set i (.ow w.1 t.2)) else none
def ch9 (js:List Nat) (i q:Nat) (R:FA) (T:FT) (F:FE) (ρ:En):Option (D×En):=bnd (R ρ) λ p=>lcB js i q T F p.1 p.2
end Fx
namespace Fx
open PySem PySem.Spec PyProof.Rows L2
theorem bo3  (h:owT s=some o):s=some (.ow true o):=by
 unfold owT at h;split at h
 ·cases h;rfl
 ·cases h
theorem ak6 :∀ {js:List Nat}{fr:En},aA7 ρ i o js=some fr->fr.length=js.length/\∀ (k:Nat) (s:Sl),fr[k]?=some s->∃ j,js[k]?=some j/\((j=i/\s=.ow true o)\/∃ d,ρ[j]?=some (.im d)/\s=.im d)
 |[],_,h=>by
  have h':=qp h;subst h';exact⟨rfl,λ k s e=>by simp at e⟩
 |j::js,_,h=>by
  obtain⟨s,h1,h⟩:=a_0 h;obtain⟨r,h2,h⟩:=a_0 h;cases h;obtain⟨a,b⟩:=ak6 h2;refine⟨by rw[zi,zi,a],λ k s' e=>?_⟩;cases k with
  |zero =>
   simp at e;subst e;refine⟨j,rfl,?_⟩;by_cases O:j=i
   ·rw[if_pos O] at h1;cases h1;exact .inl ⟨O,rfl⟩
   ·rw[if_neg O] at h1;cases z:ρ[j]? with
    |none=>rw[z] at h1;cases h1
    |some sl =>
     rw[z] at h1;cases sl with
     |im d=>exact .inr ⟨d,rfl,(qp h1).symm⟩
     |_=>cases h1
  |succ k =>
   obtain⟨j',Z,Y⟩:=b k s' (by simpa using e);exact⟨j',by simpa using Z,Y⟩
theorem ak5 :∀ js:List Nat,aA7 (ρ.set i s) i o js=aA7 ρ i o js
 |[]=>rfl
 |j::js=>by
  unfold aA7;rw[ak5 js];by_cases O:j=i
  ·rw[if_pos O,if_pos O]
  ·rw[if_neg O,if_neg O,yc (yi O)]
theorem aI9 {js:List Nat} (h:js.Nodup) {k l i:Nat} (a:js[k]?=some i) (b:js[l]?=some i):k=l:=by obtain⟨hk,Y⟩:=List.getElem?_eq_some_iff.mp a;obtain⟨hl,O⟩:=List.getElem?_eq_some_iff.mp b;exact (Yl h).mp (Y.trans O.symm)
theorem RS.blockB {K:Frag} (R:RS K c H0 H ρ σ) (hi:ρ[i]?=some (.ow b o)) (ha:σ[i]?=some (some (.ref a))) (nd:js.Nodup) (hf:aA7 ρ i o js=some fr) (rx:Rep K H0 d x) :
  RS K ⟨H0,H,[a]⟩ H0 H (.im d::fr) (some x::frv σ js):=by
 obtain⟨l,g⟩:=ak6 hf;obtain⟨a',y1,y2,y3,y4⟩:=R.ow i b o hi;rw[ha] at y1;cases y1;refine⟨R.same,Same.refl _,λ b o e=>.inl e,λ b o e _=>e,λ z hz e=>?_,?_,λ k d' e=>?_,λ k b' o' e=>?_,λ k k' b1 b2 o1 o2 z e1 e2 e3 e4=>?_⟩
 ·obtain⟨u,hu⟩:=y4.some;have ac:z=a:=by simpa using hz
  have e:=e;rw[ac,hu] at e;cases e
 ·rw[zi,zi,l,frv,zd]
 ·cases k with
  |zero=>simp at e;subst e;exact⟨x,rfl,rx⟩
  |succ k =>
   obtain⟨j,Y,O⟩:=g k _ (by simpa using e);rcases O with ⟨_,x3⟩ | ⟨d2,O,x3⟩
   ·cases x3
   ·cases x3;obtain⟨v,w1,w2⟩:=R.im j d' O;refine⟨v,?_,w2⟩;show (frv σ js)[k]?=some (some v);unfold frv;rw[zy,Y];show some (σ[j]?).join=some (some v);rw[w1];rfl
 ·cases k with
  |zero=>simp at e
  |succ k =>
   obtain⟨j,Y,O⟩:=g k _ (by simpa using e);rcases O with ⟨hj,x3⟩ | ⟨d2,_,x3⟩
   ·cases x3;subst hj;refine⟨a,?_,y2,by rw[if_pos rfl];exact List.mem_singleton.mpr rfl,y4⟩;show (frv σ js)[k]?=some (some (.ref a));unfold frv;rw[zy,Y];show some (σ[j]?).join=some (some (.ref a));rw[ha];rfl
   ·cases x3
 ·cases k with
  |zero=>simp at e1
  |succ k =>
   cases k' with
   |zero=>simp at e2
   |succ k' =>
    obtain⟨j,Y,O⟩:=g k _ (by simpa using e1);obtain⟨j',Z,aa⟩:=g k' _ (by simpa using e2);rcases O with ⟨hj,_⟩ | ⟨_,_,x3⟩
    ·rcases aa with ⟨hj',_⟩ | ⟨_,_,x3'⟩
     ·rw[hj] at Y;rw[hj'] at Z;rw[aI9 nd Y Z]
     ·cases x3'
    ·cases x3
theorem RS.unblock {K:Frag} (R:RS K c H0 H ρ σ) (hi:ρ[i]?=some (.ow b o)) (ha:σ[i]?=some (some (.ref a)))
  (R2:RS K ⟨H0,H,[a]⟩ H2 Hh2 O (some x::frv σ js)) (Z:owT O[q+1]?=some o'):RS K c H2 Hh2 (ρ.set i (.ow b o')) σ:=by
 obtain⟨a',_,_,Y,z4⟩:=R2.ow (q+1) true o' (bo3 Z);rw[if_pos rfl] at Y;have e:a'=a:=by simpa using Y
 subst e;exact R.lent hi ha R2.init R2.same (λ y u e n=>R2.keep y u e (by simpa using n)) R2.fresh z4
theorem aR3 {K:Frag} (R:RS K c H1 Hh ρ σ) (hi:ρ[i]?=some (.ow b o)) (nd:js.Nodup) (hc:am2 T F ρ i js q o xs=some (out,o')) (hz:xs.length<=sizeLine) (hy:z_3 K J H1 xs)
  (qf:∀ ys H0 H,Same H1 H0->RS K c H0 H (ρ.set i (.ow b o')) σ->Reps K H0 out ys->Qf ys H):LcW js (tTt K T) (tE K F) σ Qf J Hh:=by
 have il:=(List.getElem?_eq_some_iff.mp hi).1;obtain⟨a,ha,_⟩:=R.ow i b o hi;have aa:∀ o,(ρ.set i (.ow b o))[i]?=some (.ow b o):=λ o=>zr il;have e0:ρ.set i (.ow b o)=ρ:=by obtain⟨_,e⟩:=List.getElem?_eq_some_iff.mp hi;rw[<- e];exact List.set_getElem_self il
 refine⟨λ n m ys H=>m=xs.length-n/\n<=xs.length/\∃ H0 Z,Same H1 H0/\RS K c H0 H (ρ.set i (.ow b Z)) σ/\∃ Y rest,Reps K H0 Y ys/\Y.length<=n/\am2 T F ρ i js q Z (xs.drop n)=some (rest,o')/\Y++rest=out,
  ⟨xs.length,by simp,zx _,H1,o,Same.refl _,by rw[e0];exact R,[],out,Reps.nil_,zx _,by simpa using hc,rfl⟩,?_⟩
 rintro n m ys H ⟨rfl,hn,H0,Z,s0,R0,Y,rest,rp,lp,O,e⟩;obtain⟨y1,y2⟩:=hy H0 H n s0 R0.same;by_cases ad:n<xs.length
 ·have hd:xs[n]?=some xs[n]:=by simp[ad]
  obtain⟨go,yl⟩:=y1 _ hd;refine .inr ⟨go,by rw[<- rp.length];omega,λ x H' hx=>?_⟩;obtain⟨rfl,rx⟩:=yl x H' hx;rw[A_4 hd,H_6] at O;obtain⟨fr,g0,O⟩:=a_0 O;obtain⟨⟨bb,ae⟩,g1,O⟩:=a_0 O;have Rb:=R0.blockB (aa Z) ha nd (by rw[ak5];exact g0) rx;refine⟨⟨H0,H',[a]⟩,H0,_,bb,ae,Rb,g1,λ H2 Hh2 s2 R2=>?_⟩;cases bb with
  |false =>
   rw[if_neg zc] at O ⊢;obtain⟨o2,g4,O⟩:=a_0 O;have R3:=R0.unblock (aa Z) ha R2 g4;rw[List.set_set] at R3;exact⟨xs.length-(n+1),by omega,rfl,ad,H2,o2,s0.trans s2,R3,Y,rest,Reps.mono s2 _ rp,by omega,O,e⟩
  |true =>
   rw[if_pos rfl] at O ⊢;obtain⟨⟨z,af⟩,g2,O⟩:=a_0 O;obtain⟨o2,g4,O⟩:=a_0 O;obtain⟨⟨t,ot⟩,g3,O⟩:=a_0 O;have ac:=O;cases ac;refine⟨⟨H0,H',[a]⟩,H2,ae,z,af,R2,g2,λ v H3 Hh3 s3 R3 r3=>?_⟩;have R4:=R0.unblock (aa Z) ha R3 g4;rw[List.set_set] at R4;refine⟨xs.length-(n+1),by omega,rfl,ad,H3,o2,s0.trans (s2.trans s3),R4,Y++[z],t,(Reps.mono (s2.trans s3) _ rp).app (Reps.one r3),?_,g3,?_⟩
   ·rw[zh,zq];omega
   ·rw[ym];exact e
 ·have ei:n=xs.length:=by omega
  have hn:xs.drop n=[]:=jc (by omega);rw[hn,aN6] at O;have ac:=O;cases ac;rw[zw] at e;subst e;exact .inl ⟨y2 (by omega),by rw[<- rp.length];omega,qf ys H0 H s0 R0 rp⟩
theorem az3  (h:lcB js i q T F xs ρ=some (d,O)):∃ b o ys o',ρ[i]?=some (.ow b o)/\am2 T F ρ i js q o xs=some (ys,o')/\xs.length<=sizeLine/\js.Nodup/\d=.lst ys/\O=ρ.set i (.ow b o'):=by obtain⟨⟨b,o⟩,h1,h⟩:=a_0 h;obtain⟨⟨ys,o'⟩,h2,h⟩:=a_0 h;obtain⟨⟨Z,l2,Y⟩,h⟩:=ifs h;cases h;exact⟨b,o,ys,o',B_4 h1,h2,Z,Y,rfl,rfl⟩
section
variable {X:Cx}{pos:Pos}
theorem cv8 {x:Str}{i:Int} (h:∃ t,X.mg x=some (.int i t)) (Y:Gl X x:=by rfl) (hd:(x==("__debug__":Str))=false:=by decide):XE X (.Name x pos) (zI i):=by
 obtain⟨t,h⟩:=h;exact PE.wk (aY9 Y h (v:=.int i) ⟨t,rfl⟩ hd) λ σ H Q O=>by
  obtain⟨c,H0,ρ,d,Z,R,f,q⟩:=O;obtain⟨rfl,rfl⟩:=X_9 f;exact q _ H0 H (Same.refl _) R (f_7 _ _)
theorem cv7 {x z:Str} (h:∃ t,X.mg x=some (.str z t)) (Y:Gl X x:=by rfl) (hd:(x==("__debug__":Str))=false:=by decide):XE X (.Name x pos) (eC (.str z)):=by
 obtain⟨t,h⟩:=h;exact PE.wk (aY9 Y h (v:=.str z) ⟨t,rfl⟩ hd) λ σ H Q O=>by
  obtain⟨c,H0,ρ,d,Z,R,f,q⟩:=O;obtain⟨rfl,rfl⟩:=X_9 f;exact q _ H0 H (Same.refl _) R (F_5 _ _)
end
end Fx
namespace Fx
open PySem
mutual
noncomputable def beD:D->D->Bool
 |.non,.non=>true
 |.bl a,.bl b=>a==b
 |.int a,.int b=>a==b
 |.str a,.str b=>decide (a=b)
 |.tup a,.tup b=>aT4 a b
 |.lst a,.lst b=>aT4 a b
 |.fnv,.fnv=>true
 |.opq k a,.opq l b=>decide (k=l)&&aT4 a b
 |.dct k a,.dct l b=>decide (k=l)&&aT4 a b
 |_,_=>false
noncomputable def aT4:List D->List D->Bool
 |[],[]=>true
 |a::r,b::t=>beD a b&&aT4 r t
 |_,_=>false
end
mutual
theorem bv8:∀ a b:D,beD a b=true->a=b
 |.non,b,h=>by cases b <;> first | rfl | cases h
 |.bl a,b,h=>by cases b <;> first | cases h;done | exact congrArg _ (beq_iff_eq.mp h)
 |.int a,b,h=>by cases b <;> first | cases h;done | exact congrArg _ (beq_iff_eq.mp h)
 |.str a,b,h=>by cases b <;> first | cases h;done | exact congrArg _ (yq h)
 |.tup a,b,h=>by cases b <;> first | cases h;done | exact congrArg _ (S_3 _ _ h)
 |.lst a,b,h=>by cases b <;> first | cases h;done | exact congrArg _ (S_3 _ _ h)
 |.fnv,b,h=>by cases b <;> first | rfl | cases h
 |.opq k a,b,h=>by
  cases b <;> first | cases h;done | skip
  have h:=Bool.and_eq_true_iff.mp h;rw[yq h.1,S_3 _ _ h.2]
 |.dct k a,b,h=>by
  cases b <;> first | cases h;done | skip
  have h:=Bool.and_eq_true_iff.mp h;rw[yq h.1,S_3 _ _ h.2]
theorem S_3:∀ a b:List D,aT4 a b=true->a=b
 |[],b,h=>by cases b <;> first | rfl | cases h
 |x::r,b,h=>by
  cases b with
  |nil=>cases h
  |cons y t =>
   have h:=Bool.and_eq_true_iff.mp h;rw[bv8 _ _ h.1,S_3 _ _ h.2]
end
mutual
theorem bv7:∀ a:D,beD a a=true
 |.non=>rfl
 |.bl a=>jo a
 |.int a=>jo a
 |.str a=>zu rfl
 |.tup a=>S_2 a
 |.lst a=>S_2 a
 |.fnv=>rfl
 |.opq k a=>Bool.and_eq_true_iff.mpr ⟨zu rfl,S_2 a⟩
 |.dct k a=>Bool.and_eq_true_iff.mpr ⟨zu rfl,S_2 a⟩
theorem S_2:∀ a:List D,aT4 a a=true
 |[]=>rfl
 |x::r=>Bool.and_eq_true_iff.mpr ⟨bv7 x,S_2 r⟩
end
def beK:List (Str×D)->List (Str×D)->Bool
 |[],[]=>true
 |(k,a)::r,(l,b)::t=>decide (k=l)&&(beD a b&&beK r t)
 |_,_=>false
theorem bo7:∀ a b:List (Str×D),beK a b=true->a=b
 |[],[],_=>rfl
 |[],_::_,h=>nomatch h
 |_::_,[],h=>nomatch h
 |(k,a)::r,(l,b)::t,h=>by
  have h:=Bool.and_eq_true_iff.mp h;rw[zj] at h;rw[yq h.1,bv8 _ _ h.2.1,bo7 _ _ h.2.2]
theorem bo4:∀ a:List (Str×D),beK a a=true
 |[]=>rfl
 |(k,a)::r=>by show (_&&(_&&_))=true;rw[bv7,bo4 r,zu rfl];rfl
def beT:List ((Str×Int)×D)->List ((Str×Int)×D)->Bool
 |[],[]=>true
 |(k,a)::r,(l,b)::t=>decide (k=l)&&(beD a b&&beT r t)
 |_,_=>false
theorem bo2:∀ a b:List ((Str×Int)×D),beT a b=true->a=b
 |[],[],_=>rfl
 |[],_::_,h=>nomatch h
 |_::_,[],h=>nomatch h
 |(k,a)::r,(l,b)::t,h=>by
  have h:=Bool.and_eq_true_iff.mp h;rw[zj] at h;rw[yq h.1,bv8 _ _ h.2.1,bo2 _ _ h.2.2]
theorem bn3:∀ a:List ((Str×Int)×D),beT a a=true
 |[]=>rfl
 |(k,a)::r=>by show (_&&(_&&_))=true;rw[bv7,bn3 r,zu rfl];rfl
def beS:Sl->Sl->Bool
 |.no,.no=>true
 |.im a,.im b=>beD a b
 |.ow c (.lst a),.ow d (.lst b)=>c==d&&aT4 a b
 |.ow c (.dic a),.ow d (.dic b)=>c==d&&beK a b
 |.ow c (.dtu a),.ow d (.dtu b)=>c==d&&beT a b
 |_,_=>false
theorem ca2:∀ a b:Sl,beS a b=true->a=b
 |.no,.no,_=>rfl
 |.im a,.im b,h=>congrArg _ (bv8 _ _ h)
 |.ow c (.lst a),.ow d (.lst b),h=>by have h:=Bool.and_eq_true_iff.mp h;rw[beq_iff_eq.mp h.1,S_3 _ _ h.2]
 |.ow c (.dic a),.ow d (.dic b),h=>by have h:=Bool.and_eq_true_iff.mp h;rw[beq_iff_eq.mp h.1,bo7 _ _ h.2]
 |.ow c (.dtu a),.ow d (.dtu b),h=>by have h:=Bool.and_eq_true_iff.mp h;rw[beq_iff_eq.mp h.1,bo2 _ _ h.2]
 |.ow _ (.dtu _),.no,h=>by cases h
 |.ow _ (.dtu _),.im _,h=>by cases h
 |.ow _ (.dtu _),.ow _ (.lst _),h=>by cases h
 |.ow _ (.dtu _),.ow _ (.dic _),h=>by cases h
 |.ow _ (.lst _),.ow _ (.dtu _),h=>by cases h
 |.ow _ (.dic _),.ow _ (.dtu _),h=>by cases h
 |.no,.im _,h=>nomatch h
 |.no,.ow _ _,h=>nomatch h
 |.im _,.no,h=>nomatch h
 |.im _,.ow _ _,h=>nomatch h
 |.ow _ (.lst _),.no,h=>by cases h
 |.ow _ (.dic _),.no,h=>by cases h
 |.ow _ (.lst _),.im _,h=>by cases h
 |.ow _ (.dic _),.im _,h=>by cases h
 |.ow _ (.lst _),.ow _ (.dic _),h=>by cases h
 |.ow _ (.dic _),.ow _ (.lst _),h=>by cases h
theorem bZ8:∀ a:Sl,beS a a=true
 |.no=>rfl
 |.im a=>bv7 a
 |.ow c (.lst a)=>Bool.and_eq_true_iff.mpr ⟨jo c,S_2 a⟩
 |.ow c (.dic a)=>Bool.and_eq_true_iff.mpr ⟨jo c,bo4 a⟩
 |.ow c (.dtu a)=>Bool.and_eq_true_iff.mpr ⟨jo c,bn3 a⟩
def beE:En->En->Bool
 |[],[]=>true
 |a::r,b::t=>beS a b&&beE r t
 |_,_=>false
theorem bp5:∀ a b:En,beE a b=true->a=b
 |[],[],_=>rfl
 |[],_::_,h=>nomatch h
 |_::_,[],h=>nomatch h
 |a::r,b::t,h=>by rw[beE,zj] at h;rw[ca2 _ _ h.1,bp5 _ _ h.2]
theorem bp0:∀ a:En,beE a a=true
 |[]=>rfl
 |a::r=>by rw[beE,bZ8,bp0 r];rfl
def cu4 (a b:En):Decidable (a=b):=if h:beE a b=true then .isTrue (bp5 a b h) else .isFalse λ e=>h (e▸bp0 a)
noncomputable def bC1:D->Option Str
 |.str x=>some x
 |_=>none
noncomputable def kS:D->Option Str
 |.str k=>some k
 |_=>none
@[simp] theorem cz7 (k:Str):kS (.str k)=some k:=yR rfl
def bv3 (k:Str) (d:D) (kds:List (Str×D)):List (Str×D):=if (w_3 k kds).isSome=true then an4 k d kds else kds++[(k,d)]
def sDN (i:Nat) (ρ:En):Option Res:=some (.nx (ρ.set i (.ow false (.dic []))))
@[simp] theorem cz3 (i:Nat) (ρ:En):sDN i ρ=some (.nx (ρ.set i (.ow false (.dic [])))):=yR rfl
def cc4 (i:Nat) (d:D) (ρ:En) (k:Str) (o:Option (Bool×List (Str×D))):Option Res:=bnd o λ q=>if q.2.length<100 then some (.nx (ρ.set i (.ow q.1 (.dic (bv3 k d q.2))))) else none
def cc5 (i:Nat) (d:D) (ρ:En) (o:Option Str):Option Res:=bnd o λ k=>cc4 i d ρ k (owD ρ[i]?)
def cd1 (i:Nat) (d:D) (o:Option (D×En)):Option Res:=bnd o λ p=>cc5 i d p.2 (kS p.1)
def cd3 (i:Nat) (G:FE) (d:D) (ρ:En) (o:Option (Bool×List (Str×D))):Option Res:=bnd o λ _=>cd1 i d (G ρ)
def cd4 (i:Nat) (G:FE) (o:Option (D×En)):Option Res:=bnd o λ p=>cd3 i G p.1 p.2 (owD p.2[i]?)
def sDK (i:Nat) (G F:FE) (ρ:En):Option Res:=cd4 i G (F ρ)
@[simp] theorem cz4 (i:Nat) (G F:FE) (ρ:En):sDK i G F ρ=cd4 i G (F ρ):=yR rfl
@[simp] theorem cq9 (i:Nat) (G:FE) (d:D) (ρ:En):cd4 i G (some (d,ρ))=cd3 i G d ρ (owD ρ[i]?):=yR rfl
@[simp] theorem cq8 (i:Nat) (G:FE) (d:D) (ρ:En) (q:Bool×List (Str×D)):cd3 i G d ρ (some q)=cd1 i d (G ρ):=yR rfl
@[simp] theorem cq7 (i:Nat) (d x:D) (ρ:En):cd1 i d (some (x,ρ))=cc5 i d ρ (kS x):=yR rfl
@[simp] theorem cq6 (i:Nat) (d:D) (ρ:En) (k:Str):cc5 i d ρ (some k)=cc4 i d ρ k (owD ρ[i]?):=yR rfl
@[simp] theorem cq5 (i:Nat) (d:D) (ρ:En) (k:Str) (b:Bool) (kds:List (Str×D)):cc4 i d ρ k (some (b,kds))=if kds.length<100 then some (.nx (ρ.set i (.ow b (.dic (bv3 k d kds))))) else none:=yR rfl
noncomputable def nOw:Option Sl->Option MO
 |some (.ow false o)=>some o
 |_=>none
@[simp] theorem cy1 (o:MO):nOw (some (.ow false o))=some o:=yR rfl
def ao0 (i:Nat) (ρ:En):Option MO:=nOw ρ[i]?
@[simp] theorem cs6 (i:Nat) (ρ:En):ao0 i ρ=nOw ρ[i]?:=yR rfl
mutual
noncomputable def nd:D->Bool
 |.fnv=>false
 |.opq _ _=>false
 |.dct _ _=>false
 |.tup xs=>nds xs
 |.lst xs=>nds xs
 |_=>true
noncomputable def nds:List D->Bool
 |[]=>true
 |d::r=>nd d&&nds r
end
def ndS:Sl->Bool
 |.ow _ (.lst ds)=>nds ds
 |.ow _ (.dic kds)=>nds (kds.map (·.2))
 |.ow _ (.dtu _)=>false
 |_=>true
noncomputable def hld (kds:List (Str×D)):Sl:=.im (.dct (kds.map (·.1)) (kds.map (·.2)))
def M_9 (ρ O:En) (o:Option (D×En)):Option (D×En):=bnd o λ p=>@ite _ (nd p.1=true/\p.2=O) (@instDecidableAnd _ _ _ (cu4 _ _)) (some (p.1,ρ)) none
def ay8 (i:Nat) (F:FE) (ρ:En) (o:Option (Bool×List (Str×D))):Option (D×En):=bnd o λ q=>if q.1=false/\ρ.all ndS=true then M_9 ρ (ρ.set i (hld q.2)) (F (ρ.set i (hld q.2))) else none
def bc4 (i:Nat) (F:FE) (ρ:En):Option (D×En):=ay8 i F ρ (owD ρ[i]?)
@[simp] theorem ct7 (i:Nat) (F:FE) (ρ:En):bc4 i F ρ=ay8 i F ρ (owD ρ[i]?):=yR rfl
@[simp] theorem ci2 (i:Nat) (F:FE) (ρ:En) (b:Bool) (kds:List (Str×D)):ay8 i F ρ (some (b,kds))=if b=false/\ρ.all ndS=true then M_9 ρ (ρ.set i (hld kds)) (F (ρ.set i (hld kds))) else none:=yR rfl
theorem bc0 (ρ O:En) (d:D) (h:nd d=true):M_9 ρ O (some (d,O))=some (d,ρ):=by unfold M_9 bnd;exact if_pos ⟨h,rfl⟩
def aW0 (i:Nat) (G:FS) (ρ:En) (o:Option (Bool×List (Str×D))):Option Res:=bnd o λ q=>if q.1=false then G (ρ.set i (hld q.2)) else none
def bE5 (i:Nat) (G:FS) (ρ:En):Option Res:=aW0 i G ρ (owD ρ[i]?)
@[simp] theorem cw6 (i:Nat) (G:FS) (ρ:En):bE5 i G ρ=aW0 i G ρ (owD ρ[i]?):=yR rfl
@[simp] theorem ck5 (i:Nat) (G:FS) (ρ:En) (b:Bool) (kds:List (Str×D)):aW0 i G ρ (some (b,kds))=if b=false then G (ρ.set i (hld kds)) else none:=yR rfl
noncomputable def asD:MO->Option D
 |.dic kds=>some (.dct (kds.map (·.1)) (kds.map (·.2)))
 |_=>none
@[simp] theorem cz2 (kds:List (Str×D)):asD (.dic kds)=some (.dct (kds.map (·.1)) (kds.map (·.2))):=yR rfl
def ch2 (ρ:En) (o:Option D):Option (D×En):=bnd o λ d=>some (d,ρ)
def ch5 (ρ:En) (o:Option MO):Option (D×En):=bnd o λ m=>ch2 ρ (asD m)
def ch8 (g:List D->Option MO) (o:Option (List D×En)):Option (D×En):=bnd o λ p=>ch5 p.2 (g p.1)
def eNF (g:List D->Option MO) (A:FA) (ρ:En):Option (D×En):=ch8 g (A ρ)
@[simp] theorem cA0 (g:List D->Option MO) (A:FA) (ρ:En):eNF g A ρ=ch8 g (A ρ):=yR rfl
@[simp] theorem ct6 (g:List D->Option MO) (ds:List D) (ρ:En):ch8 g (some (ds,ρ))=ch5 ρ (g ds):=yR rfl
@[simp] theorem ct5 (ρ:En) (m:MO):ch5 ρ (some m)=ch2 ρ (asD m):=yR rfl
@[simp] theorem ct4 (ρ:En) (d:D):ch2 ρ (some d)=some (d,ρ):=yR rfl
noncomputable def dcX:D->Option (List (Str×D))
 |.dct ks ds=>some (ks.zip ds)
 |_=>none
def cr0 (i:Nat) (ρ:En) (o:Option (List (Str×D))):Option Res:=bnd o λ kds=>some (.nx (ρ.set i (.ow false (.dic kds))))
def cr1 (i:Nat) (o:Option (D×En)):Option Res:=bnd o λ p=>cr0 i p.2 (dcX p.1)
def sDC (i:Nat) (F:FE) (ρ:En):Option Res:=cr1 i (F ρ)
def dDx:D->D->Option D
 |.dct ks ds,.str k=>w_3 k (ks.zip ds)
 |_,_=>none
def aa5 (ρ O:En) (o:Option (Bool×En)):Option (Bool×En):=bnd o λ p=>@ite _ (p.2=O) (cu4 _ _) (some (p.1,ρ)) none
def au4 (i:Nat) (T:FT) (ρ:En) (o:Option (Bool×List (Str×D))):Option (Bool×En):=bnd o λ q=>if q.1=false/\ρ.all ndS=true then aa5 ρ (ρ.set i (hld q.2)) (T (ρ.set i (hld q.2))) else none
def aJ3 (i:Nat) (T:FT) (ρ:En):Option (Bool×En):=au4 i T ρ (owD ρ[i]?)
@[simp] theorem cq4 (i:Nat) (T:FT) (ρ:En):aJ3 i T ρ=au4 i T ρ (owD ρ[i]?):=yR rfl
@[simp] theorem cc2 (i:Nat) (T:FT) (ρ:En) (b:Bool) (kds:List (Str×D)):au4 i T ρ (some (b,kds))=if b=false/\ρ.all ndS=true then aa5 ρ (ρ.set i (hld kds)) (T (ρ.set i (hld kds))) else none:=yR rfl
theorem aU8 (ρ O:En) (b:Bool):aa5 ρ O (some (b,O))=some (b,ρ):=by unfold aa5 bnd;exact if_pos rfl
def sNo:FS:=λ _=>none
end Fx
namespace Fx
open PySem PySem.Spec PyProof.Rows L2
section
variable {K:Frag}{H:Hp}
theorem bf6 {k:Str}:∀ {kds:List (Str×D)}{vs:List V},Reps K H (kds.map (·.2)) vs->w_3 k kds=none->valV (E_6 (kds.map (·.1)) vs) (.inr k)=none
 |[],_,_,_=>rfl
 |q::r,vs,t,e=>by
  rw[ze] at t;unfold Reps at t;obtain⟨v,Y,rfl,_,O⟩:=t;rw[ze,w_7];unfold w_3 at e;by_cases hk:q.1=k
  ·rw[if_pos hk] at e;cases e
  ·rw[if_neg hk] at e;rw[w_8 λ z=>hk (Zc z)];exact bf6 O e
theorem aS9 {ks:List Str}{vs:List V}{k:Str}{v:V} (h:ks.length=vs.length):E_6 ks vs++[(Sum.inr k,v)]=E_6 (ks++[k]) (vs++[v]):=by unfold E_6;rw[yt,List.zip_append (by rw[zd];exact h)];rfl
theorem bu6 {k:Str}{d:D}{v:V}{kds:List (Str×D)}{vs:List V} (Y:Rep K H d v) (t:Reps K H (kds.map (·.2)) vs) :
  ∃ O,I_7 (E_6 (kds.map (·.1)) vs) (.inr k) v=E_6 ((bv3 k d kds).map (·.1)) O/\Reps K H ((bv3 k d kds).map (·.2)) O:=by
 unfold bv3;cases q:w_3 k kds with
 |some Z=>rw[if_pos (show (some Z).isSome=true from rfl)];exact bm7 Y t q
 |none =>
  rw[if_neg (by simp)];have hl:=t.length;rw[zd] at hl;refine⟨vs++[v],?_,?_⟩
  ·rw[aH7 v (bf6 t q),aS9 (by rw[zd];exact hl),yt];rfl
  ·rw[yt];exact t.app (Reps.one Y)
end
section
variable {X:Cx}{pos:Pos}{e:Expr}{F G:FE}{A:FA}
theorem xdn (i:Nat) {x:Str}{p p2:Pos} (hN:X.N.Nodup) (hi:X.N[i]?=some x:=by rfl) (Z:Loc X.env.scope x:=by first | exact Or.inl rfl | exact Or.inr rfl) (hs:swapsWith (.Dict [] [] p2) (some (.Name x p)) pos.line X.env=pure false:=by rfl)
  (hf:X.fn x=true\/X.env.scope.names.lookup x=some .local:=by first | exact .inl rfl | exact .inr rfl):XS X (.Assign [.Name x p] (.Dict [] [] p2) pos) (sDN i) :=
 PS.wk (x_7 hN hi Z aw5 hs hf) λ Dn σ H O=>by
  obtain⟨c,H0,ρ,r,R,f,q⟩:=O;have Y:some (Res.nx (ρ.set i (.ow false (.dic []))))=some r:=f;cases Y;exact λ a ha=>q _ H0 _ (Same.refl _) (R.setOwn (o:=.dic []) (u:=.dK []) i ha ⟨[],[],by rw[a_3];rfl,rfl,Reps.nil_⟩)
theorem xdk (i:Nat) {x:Str}{k:Expr}{p p3:Pos} (hu:X.A.units+1<cLine) (hk:XE X k G) (he:XE X e F) (hN:X.N[i]?=some x:=by rfl) (hv:Vis X.env.scope x:=by first | exact Or.inl rfl | exact Or.inr (Or.inl rfl) | exact Or.inr (Or.inr rfl)) (hd:(x==("__debug__":Str))=false:=by decide)
  (ad:(x==("__classdict__":Str))=false:=by decide) (hs:swapsWith e (some (.Subscript (.Name x p) k p3)) pos.line X.env=pure false:=by rfl):XS X (.Assign [.Subscript (.Name x p) k p3] e pos) (sDK i G F) :=
 PS.wk (aY3 hu (i_4 hN hv hd ad) hk he hs) λ Dn σ H Y=>by
  obtain⟨c,H0,ρ,r,R,f,q⟩:=Y;unfold sDK cd4 at f;obtain⟨⟨d,O⟩,h1,f⟩:=a_0 f;unfold cd3 at f;obtain⟨⟨b0,ae⟩,h2,f⟩:=a_0 f;unfold cd1 at f;obtain⟨⟨x2,Z⟩,h3,f⟩:=a_0 f;unfold cc5 at f;obtain⟨k2,h4,f⟩:=a_0 f;unfold cc4 at f;obtain⟨⟨b,kds⟩,h5,f⟩:=a_0 f;obtain⟨h6,rfl⟩:=ifs f;have ac:x2=.str k2:=by
   cases x2 with
   |str z=>cases h4;rfl
   |_=>cases h4
  subst ac;refine⟨c,H0,ρ,d,O,R,h1,λ v H1 Hh s1 R1 r1=>?_⟩;obtain⟨a,e1,_⟩:=R1.ow i b0 _ (aQ3 h2);refine⟨_,e1,c,H1,O,_,Z,R1,h3,λ y H2 Hh2 s2 R2 r2=>?_⟩;unfold Rep at r2;subst r2;have z:=aQ3 h5;obtain⟨a2,e2,_,_,ks,vs,e4,rfl,t⟩:=R2.ow i b _ z;rw[e1] at e2;cases e2;obtain⟨aa,w1,w2⟩:=bu6 (k:=k2) (Rep.mono s2 d r1) t;refine⟨a,_,rfl,DPut.k (k:=.inr k2) e4 (by have:=aF1 t;unfold E_6 at this;rw[this];exact bH5 h6),?_⟩;exact q σ H2 _ (s1.trans s2) (R2.mutOwn z e1 ⟨_,aa,by rw[a_3];exact jm (λ y=>some (HO.dK y)) w1,rfl,w2⟩)
theorem xnO (i:Nat) {x:Str}{p O:Pos} (hN:X.N[i]?=some x:=by rfl) (hv:Vis X.env.scope x:=by first | exact Or.inl rfl | exact Or.inr (Or.inl rfl) | exact Or.inr (Or.inr rfl)) (hd:(x==("__debug__":Str))=false:=by decide) (Z:(x==("__classdict__":Str))=false:=by decide) :
  XN X [.Return (some (.Name x p)) O] (ao0 i) :=
 PSs.wk (s_8 (au9 (i_4 hN hv hd Z))) λ Dn σ H Y=>by
  obtain⟨Hi,He,H0,ρ,o,R,f,q⟩:=Y;unfold ao0 nOw at f;split at f
  ·rename_i o' hz;cases f;obtain⟨a,e1,e2,e3,ok⟩:=R.ow i false _ hz;exact⟨_,e1,q a H0 H ⟨R.init,R.same,λ b u h=>R.keep b u h (by simp),R.fresh,e2,e3,ok⟩⟩
  ·cases f
end
section
variable {X:Cx}{pins:List (Addr×Obj)}{σ:L2.St}{H:Hp}{s:Shared}{a:Addr}{kvs:List (Key×V)}
theorem ay6 (I:Inv X pins σ H s) (e:H a=some (.dK kvs)):∃ ob,Inv X pins σ (upd H a (.frz ob (.dK kvs))) s:=by obtain⟨z,n,vs,Y,o,es,Z,O,r⟩:=(show ObjOk X.prog X.w H s.heap a (.dK kvs) from I.hok a _ e);exact⟨o,I.write (t':=s.toks) (h':=s.heap) (x:=a) (e:=a) (by rw[e];trivial) (.inl rfl) (λ _ _ _ q=>q) ⟨o,O⟩ ⟨O,z,n,vs,Y,o,es,Z,O,r⟩⟩
def cv0 (X:Cx) (a:Addr):Prop:=(∀ xs,X.H₀ a≠some (.tup xs))/\(∀ o u,X.H₀ a≠some (.frz o u))/\∀ ps,X.H₀ a≠some (.tbl ps)
theorem ay5 (I:Inv X pins σ H s) (e:H a=some (.dK kvs)):cv0 X a:=by
 refine⟨λ xs z=>?_,λ o u z=>?_,λ ps z=>?_⟩
 ·have q:=I.base.tups a xs z;rw[e] at q;cases q
 ·have q:=I.base.frzs a o u z;rw[e] at q;cases q
 ·have q:=I.base.tbls a ps z;rw[e] at q;cases q
theorem ay3 {ob:Obj} (I:Inv X pins σ H s) (e:H a=some (.frz ob (.dK kvs))) (O:cv0 X a):Inv X pins σ (upd H a (.dK kvs)) s:=by
 have ne:∀ {b:Addr},H b=none->b≠a:=λ z h=>by rw[h,e] at z;cases z
 have un:=I.base;refine⟨I.ok,I.os,I.bare,⟨un.keep,un.slot,λ b o q n Y=>?_,un.there,λ b xs q=>?_,λ b o u q=>?_,λ b ps q=>?_⟩,I.loc,I.cell,?_,λ x c q=>?_,λ p hp=>?_,λ b u q=>?_,I.len⟩
 ·have z:=un.free b o q n Y;rw[b_2 (ne z)];exact z
 ·rw[b_2 λ h=>O.1 xs (by rw[<- h];exact q)];exact un.tups b xs q
 ·rw[b_2 λ h=>O.2.1 o u (by rw[<- h];exact q)];exact un.frzs b o u q
 ·rw[b_2 λ h=>O.2.2 ps (by rw[<- h];exact q)];exact un.tbls b ps q
 ·rw[b_2 (ne I.free)];exact I.free
 ·have z:=I.freeC x c q;rw[b_2 (ne z)];exact z
 ·obtain⟨h1,h2,Z⟩:=I.pin p hp;exact⟨h1,by rw[b_2 (ne h2)];exact h2,Z⟩
 ·by_cases hb:b=a
  ·subst hb;rw[a_3] at q;cases q;obtain⟨_,w⟩:=(show ObjOk X.prog X.w H s.heap b (.frz ob (.dK kvs)) from I.hok b _ e);exact w
  ·rw[b_2 hb] at q;refine (I.hok b u q).stay (λ _ _ _ r=>r) (λ c r=>?_) (λ c xs r=>?_) λ c xs r=>?_
   ·rw[b_2 λ h=>by rw[h,e] at r;cases r];exact r
   ·rw[b_2 λ h=>by rw[h,e] at r;cases r];exact r
   ·rw[b_2 λ h=>by rw[h,e] at r;cases r];exact r
end
section
variable {X:Cx}{e:Expr}{st:Stmt}{t:TE}
def tFz (i:Nat) (t:TE):TE:=λ σ H Q=>∃ a kvs,σ[i]?=some (some (.ref a))/\H a=some (.dK kvs)/\∀ ob,t σ (upd H a (.frz ob (.dK kvs))) λ v H2=>H2 a=some (.frz ob (.dK kvs))/\Q v (upd H2 a (.dK kvs))
theorem cl7 (i:Nat) (h:PE X e t):PE X e (tFz i t):=λ pins s σ H Q I O=>by
 obtain⟨a,kvs,_,Y,q⟩:=O;obtain⟨ob,I1⟩:=ay6 I Y;exact thn (h pins s σ _ _ I1 (q ob)) λ u s2 ⟨v,H2,I2,rv,e2,Z⟩=>⟨v,_,ay3 I2 e2 (ay5 I Y),rv,Z⟩
def cw2 (i:Nat) (t:TT):TT:=λ σ H Q=>∃ a kvs,σ[i]?=some (some (.ref a))/\H a=some (.dK kvs)/\∀ ob,t σ (upd H a (.frz ob (.dK kvs))) λ v H2=>H2 a=some (.frz ob (.dK kvs))/\Q v (upd H2 a (.dK kvs))
theorem cl4 (i:Nat) {t:TT} (h:PT X e t):PT X e (cw2 i t):=λ pins s σ H Q I O=>by
 obtain⟨a,kvs,_,Y,q⟩:=O;obtain⟨ob,I1⟩:=ay6 I Y;exact thn (h pins s σ _ _ I1 (q ob)) λ u s2 ⟨H2,I2,e2,Z⟩=>⟨_,ay3 I2 e2 (ay5 I Y),Z⟩
def cw3 (i:Nat) (t:TS):TS:=λ D σ H=>∃ a kvs,σ[i]?=some (some (.ref a))/\H a=some (.dK kvs)/\∀ ob,t D σ (upd H a (.frz ob (.dK kvs)))
theorem cl5 (i:Nat) {t:TS} (h:PS X st t):PS X st (cw3 i t):=λ pins s σ H D I O=>by
 obtain⟨a,kvs,_,Z,q⟩:=O;obtain⟨ob,Y⟩:=ay6 I Z;exact h pins s σ _ D Y (q ob)
def tZf (t:TE):TE:=λ σ H Q=>t σ H λ v H1=>∃ a kvs,v=.ref a/\H1 a=some (.dK kvs)/\∀ ob,Q v (upd H1 a (.frz ob (.dK kvs)))
theorem bM4 (h:PE X e t):PE X e (tZf t):=λ pins s σ H Q I q=>thn (h pins s σ H _ I q) λ u s2 O=>by
 obtain⟨v,H2,I2,rv,a,kvs,ev,ea,Y⟩:=O;obtain⟨ob,Z⟩:=ay6 I2 ea;exact⟨v,_,Z,rv,Y ob⟩
end
def less (H:Hp) (a:Addr):Hp:=λ b=>if b=a then none else H b
theorem aM5 {H:Hp}{a:Addr}:less H a a=none:=if_pos rfl
theorem az0  (h:b≠a):less H a b=H b:=if_neg h
theorem as1 {H:Hp}{a b:Addr}{u:HO} (h:less H a b=some u):b≠a/\H b=some u:=by
 by_cases e:b=a
 ·rw[e,aM5] at h;cases h
 ·exact⟨e,by rw[az0 e] at h;exact h⟩
section
variable {K:Frag}{H:Hp}{a:Addr}{ob:Obj}{kvs:List (Key×V)}
theorem Rd.less  (O:H a=some (.frz ob (.dK kvs))) (h:Rd H b u) (n:∀ kvs,u≠.dK kvs) (n2:∀ o v,u≠.frz o v):Rd (less H a) b u:=by
 have ne:b≠a:=λ e=>by
  rw[e] at h;rcases h with h | ⟨o,h⟩
  ·rw[O] at h;exact n2 _ _ (qp h).symm
  ·rw[O] at h;cases h;exact n kvs rfl
 rcases h with h | ⟨o,h⟩
 ·exact .inl (by rw[az0 ne];exact h)
 ·exact .inr ⟨o,by rw[az0 ne];exact h⟩
mutual
theorem Rep.less (O:H a=some (.frz ob (.dK kvs))):∀ (d:D) {v:V},nd d=true->Rep K H d v->Rep K (less H a) d v
 |.non,_,_,h=>by unfold Rep at h ⊢;exact h
 |.bl _,_,_,h=>by unfold Rep at h ⊢;exact h
 |.int _,_,_,h=>by unfold Rep at h ⊢;exact h
 |.str _,_,_,h=>by unfold Rep at h ⊢;exact h
 |.tup ds,_,n,h=>by
  unfold Rep at h ⊢;obtain⟨b,vs,e,s,r⟩:=h;refine⟨b,vs,e,?_,Reps.less O ds n r⟩;rcases s with s | s
  ·exact .inl (Rd.less O s (λ _ z=>nomatch z) λ _ _ z=>nomatch z)
  ·exact .inr s
 |.lst ds,_,n,h=>by
  unfold Rep at h ⊢;obtain⟨b,vs,e,s,r⟩:=h;refine⟨b,vs,e,?_,Reps.less O ds n r⟩;rcases s with s | s
  ·exact .inl (Rd.less O s (λ _ z=>nomatch z) λ _ _ z=>nomatch z)
  ·exact .inr s
 |.fnv,_,n,_=>by cases n
 |.opq _ _,_,n,_=>by cases n
 |.dct _ _,_,n,_=>by cases n
theorem Reps.less (O:H a=some (.frz ob (.dK kvs))):∀ (ds:List D) {vs:List V},nds ds=true->Reps K H ds vs->Reps K (less H a) ds vs
 |[],_,_,h=>by unfold Reps at h ⊢;exact h
 |d::r,_,n,h=>by
  unfold nds at n;rw[zj] at n;unfold Reps at h ⊢;obtain⟨v,Y,e,h1,h2⟩:=h;exact⟨v,Y,e,Rep.less O d n.1 h1,Reps.less O r n.2 h2⟩
end
end
section
variable {K:Frag}{c:FC}{H0 H:Hp}{ρ:En}{σ:L2.St}{i:Nat}{kds:List (Str×D)}
theorem RS.asData (R:RS K c H0 H ρ σ) (hi:ρ[i]?=some (.ow false (.dic kds))) :
  ∃ a vs,σ[i]?=some (some (.ref a))/\H0 a=none/\c.He a=none/\H a=some (.dK (E_6 (kds.map (·.1)) vs))/\Reps K H0 (kds.map (·.2)) vs/\∀ ob,Same H0 (upd H0 a (.frz ob (.dK (E_6 (kds.map (·.1)) vs))))/\RS K c (upd H0 a (.frz ob (.dK (E_6 (kds.map (·.1)) vs)))) (upd H a (.frz ob (.dK (E_6 (kds.map (·.1)) vs)))) (ρ.set i (hld kds)) σ:=by
 obtain⟨a,x,y,z,ks,vs,e,rfl,r⟩:=R.ow i _ _ hi;have he:c.He a=none:=z;have il:i<ρ.length:=(List.getElem?_eq_some_iff.mp hi).1;refine⟨a,vs,x,y,he,e,r,λ ob=>?_⟩;have s0:Same H0 (upd H0 a (.frz ob (.dK (E_6 (kds.map (·.1)) vs)))):=λ b u q=>by rw[b_2 (c_6 q y)];exact q
 have O:∀ {j:Nat}{sl:Sl},j≠i->(ρ.set i (hld kds))[j]?=some sl->ρ[j]?=some sl:=λ Z q=>by rwa [yc (yi Z)] at q
 have on:∀ {sl:Sl},(ρ.set i (hld kds))[i]?=some sl->sl=hld kds:=λ q=>by rw[zr il] at q;exact (qp q).symm
 refine⟨s0,λ b u q=>?_,R.init.trans s0,λ b u q=>?_,λ b u q m=>?_,λ b m=>?_,by rw[yn];exact R.len,λ j d q=>?_,λ j b o q=>?_,λ j k b1 b2 o1 o2 b q1 Y q3 q4=>?_⟩
 ·by_cases h:b=a
  ·subst h;rw[a_3] at q ⊢;exact q
  ·rw[b_2 h] at q ⊢;exact R.same b u q
 ·by_cases h:b=a
  ·subst h;exact .inr he
  ·rw[b_2 h] at q;exact R.fresh b u q
 ·rw[b_2 (c_6 q he)];exact R.keep b u q m
 ·by_cases h:b=a
  ·subst h;rw[a_3];exact Q7 _
  ·rw[b_2 h];exact R.apt b m
 ·by_cases Z:j=i
  ·subst Z;have Y:=on q;unfold hld at Y;cases Y;refine⟨.ref a,x,?_⟩;unfold Rep;exact⟨a,ob,vs,rfl,a_3,Reps.mono s0 _ r,by rw[zd,zd]⟩
  ·obtain⟨v,a1,a2⟩:=R.im j d (O Z q);exact⟨v,a1,Rep.mono s0 _ a2⟩
 ·by_cases Z:j=i
  ·subst Z;have Y:=on q;unfold hld at Y;cases Y
  ·have q':=O Z q;obtain⟨b',x1,y1,z1,w1⟩:=R.ow j b o q';have nb:b'≠a:=λ h=>Z (R.ne j i b false o _ b' q' hi x1 (by rw[h];exact x));exact⟨b',x1,by rw[b_2 nb];exact y1,z1,w1.step s0 λ u q=>by rw[b_2 nb];exact q⟩
 ·have n1:j≠i:=λ h=>by subst h;have q5:=on q1;unfold hld at q5;cases q5
  have n2:k≠i:=λ h=>by subst h;have q5:=on Y;unfold hld at q5;cases q5
  exact R.ne j k b1 b2 o1 o2 b (O n1 q1) (O n2 Y) q3 q4
theorem RS.back {H0' H':Hp}{a:Addr}{vs:List V}{ob:Obj} (R:RS K c H0 H ρ σ) (hi:ρ[i]?=some (.ow false (.dic kds))) (x:σ[i]?=some (some (.ref a))) (y:H0 a=none) (he:c.He a=none) (r:Reps K H0 (kds.map (·.2)) vs)
  (sm:Same (upd H0 a (.frz ob (.dK (E_6 (kds.map (·.1)) vs)))) H0') (Z:RS K c H0' H' (ρ.set i (hld kds)) σ) (hn:ρ.all ndS=true):Same H0 (less H0' a)/\H' a=some (.frz ob (.dK (E_6 (kds.map (·.1)) vs)))/\RS K c (less H0' a) (upd H' a (.dK (E_6 (kds.map (·.1)) vs))) ρ σ:=by
 have ha:H0' a=some (.frz ob (.dK (E_6 (kds.map (·.1)) vs))):=sm a _ a_3;have s0:Same H0 (less H0' a):=λ b u q=>by
  have Y:b≠a:=λ h=>by rw[h,y] at q;cases q
  rw[az0 Y];exact sm b u (by rw[b_2 Y];exact q)
 have ad:∀ {j:Nat}{sl:Sl},j≠i->ρ[j]?=some sl->(ρ.set i (hld kds))[j]?=some sl:=λ hj q=>by rw[yc (yi hj)];exact q
 have O:OwOk K (less H0' a) (upd H' a (.dK (E_6 (kds.map (·.1)) vs))) a (.dic kds):=⟨_,vs,a_3,rfl,Reps.mono s0 _ r⟩;have ac:∀ {b:Bool}{o:MO},ρ[i]?=some (.ow b o)->b=false/\o=.dic kds:=λ q=>by rw[hi] at q;cases q;exact⟨rfl,rfl⟩
 refine⟨s0,Z.same a _ ha,λ b u q=>by rw[b_2 (as1 q).1];exact Z.same b u (as1 q).2,λ b u q=>?_,λ b u q=>Z.fresh b u (as1 q).2,λ b u q m=>?_,λ b m=>?_,R.len,λ j d q=>?_,λ j b o q=>?_,R.ne⟩
 ·exact s0 b u (R.init b u q)
 ·rw[b_2 (c_6 q he)];exact Z.keep b u q m
 ·by_cases h:b=a
  ·subst h;rw[a_3];exact Q7 _
  ·rw[b_2 h];exact Z.apt b m
 ·obtain⟨v,a1,a2⟩:=R.im j d q;exact⟨v,a1,Rep.mono s0 _ a2⟩
 ·by_cases hj:j=i
  ·subst hj;obtain⟨rfl,rfl⟩:=ac q;exact⟨a,x,aM5,he,O⟩
  ·obtain⟨b',x1,y1,z1,w1⟩:=Z.ow j b o (ad hj q);have Y:b'≠a:=λ h=>by rw[h,ha] at y1;cases y1
   refine⟨b',x1,by rw[az0 Y];exact y1,z1,?_⟩;have hq:ndS (.ow b o)=true:=List.all_eq_true.mp hn _ (ji q);cases o with
   |lst ds=>obtain⟨ws,w2,w3⟩:=w1;exact⟨ws,by rw[b_2 Y];exact w2,Reps.less ha ds hq w3⟩
   |dic aa=>obtain⟨ae,ws,w2,w3,w4⟩:=w1;exact⟨ae,ws,by rw[b_2 Y];exact w2,w3,Reps.less ha _ hq w4⟩
   |dtu aa=>cases hq
end
section
variable {X:Cx}{pos:Pos}{e:Expr}{F G:FE}{A:FA}
theorem cj6 (i:Nat) (he:XE X e F):XE X e (bc4 i F):=PE.wk (cl7 i he) λ σ H Q Z=>by
 obtain⟨c,H0,ρ,d,O,R,f,q⟩:=Z;unfold bc4 ay8 at f;obtain⟨⟨b,kds⟩,h1,f⟩:=a_0 f;by_cases hc:b=false/\ρ.all ndS=true
 ·have f2:M_9 ρ (ρ.set i (hld kds)) (F (ρ.set i (hld kds)))=some (d,O):=by
   have Y:(if b=false/\ρ.all ndS=true then M_9 ρ (ρ.set i (hld kds)) (F (ρ.set i (hld kds))) else none)=some (d,O):=f
   rwa [if_pos hc] at Y
  obtain⟨rfl,hn⟩:=hc;unfold M_9 at f2;obtain⟨⟨d1,ac⟩,h2,f2⟩:=a_0 f2;by_cases hd:nd d1=true/\ac=ρ.set i (hld kds)
  ·have Y:=(if_pos hd).symm.trans f2;have f4:some (d1,ρ)=some (d,O):=Y;cases f4;obtain⟨aa,rfl⟩:=hd;have z:=aQ3 h1;obtain⟨a,vs,x,y,hE,e4,r,RR⟩:=R.asData z;refine⟨a,_,x,e4,λ ob=>⟨c,_,_,d,_,(RR ob).2,h2,λ v H0' H' sm R' rv=>?_⟩⟩;obtain⟨s1,e5,R2⟩:=R.back z x y hE r sm R' hn;exact⟨e5,q v _ _ s1 R2 (Rep.less (sm a _ a_3) d aa rv)⟩
  ·have Y:=(if_neg hd).symm.trans f2;cases Y
 ·have Y:(if b=false/\ρ.all ndS=true then M_9 ρ (ρ.set i (hld kds)) (F (ρ.set i (hld kds))) else none)=some (d,O):=f;rw[if_neg hc] at Y;cases Y
theorem cj8 (i:Nat) {st:Stmt}{S:FS} (h:XS X st S):XS X st (bE5 i S):=PS.wk (cl5 i h) λ Dn σ H O=>by
 obtain⟨c,H0,ρ,r,R,f,q⟩:=O;unfold bE5 aW0 at f;obtain⟨⟨b,kds⟩,h1,f⟩:=a_0 f;by_cases hb:b=false
 ·have Z:S (ρ.set i (hld kds))=some r:=by
   have Y:(if b=false then S (ρ.set i (hld kds)) else none)=some r:=f
   rwa [if_pos hb] at Y
  subst hb;obtain⟨a,vs,x,_,_,e4,_,RR⟩:=R.asData (aQ3 h1);exact⟨a,_,x,e4,λ ob=>⟨c,_,_,r,(RR ob).2,Z,Post.mono (RR ob).1 q⟩⟩
 ·have Y:(if b=false then S (ρ.set i (hld kds)) else none)=some r:=f;rw[if_neg hb] at Y;cases Y
end
section
variable {K:Frag}
theorem aY0 {c:FC}{H1 Hh Hi' H':Hp}{ρ:En}{σ:L2.St}{kds:List (Str×D)}{a:Addr} (R:RS K c H1 Hh ρ σ) (Z:bh2 K H1 Hh (.dic kds) a Hi' H') :
  ∃ vs,H' a=some (.dK (E_6 (kds.map (·.1)) vs))/\∀ ob,∃ H2,Same H1 H2/\RS K c H2 (upd H' a (.frz ob (.dK (E_6 (kds.map (·.1)) vs)))) ρ σ/\Rep K H2 (.dct (kds.map (·.1)) (kds.map (·.2))) (.ref a):=by
 obtain⟨Y,s',s,fr,a0,O,ks,vs,e,rfl,r⟩:=Z;refine⟨vs,e,λ ob=>?_⟩;have m:Same Hi' (upd Hi' a (.frz ob (.dK (E_6 (kds.map (·.1)) vs)))):=λ b u q=>by rw[b_2 (c_6 q a0)];exact q
 refine⟨_,Y.trans m,R.after ⟨Y.trans m,λ b u q=>by rw[b_2 (c_6 q O)];exact s b u q,λ b u q=>?_,λ b u q=>?_⟩,?_⟩
 ·by_cases h:b=a
  ·subst h;rw[a_3] at q ⊢;exact q
  ·rw[b_2 h] at q ⊢;exact s' b u q
 ·by_cases h:b=a
  ·subst h;exact .inr O
  ·rw[b_2 h] at q;exact fr b u q
 ·unfold Rep;exact⟨a,ob,vs,rfl,a_3,Reps.mono m _ r,by rw[zd,zd]⟩
end
section
variable {X:Cx}{pos:Pos}{e:Expr}{F G:FE}{A:FA}
theorem bD4 {m:MO}{d:D} (h:asD m=some d):∃ kds,m=.dic kds/\d=.dct (kds.map (·.1)) (kds.map (·.2)):=by
 cases m with
 |dic kds=>cases h;exact⟨kds,rfl,rfl⟩
 |lst ds=>cases h
 |dtu kds=>cases h
theorem xNF {k:Nat}{x:Str}{g:List D → Option MO}{p:Pos}{es:List Expr} (N:DefN X.prog X.w X.K X.mg X.base k x g) (hr:Room k X.A) (ha:XA X (e::es) A) (hg:Gl X x:=by rfl) (aa:(x==("__debug__":Str))=false:=by decide)
  (he:starEach (e::es) X.env=(false,eval e X.env)::starEach es X.env:=by rfl) (Z:(backTo pos (starEach es X.env)).any (·.1)=false:=by rfl):XE X (.Call (.Name x p) (e::es) [] pos) (eNF g A):=by
 obtain⟨f,fd,ps,Fn,hb,hk,hm⟩:=N.ex;refine PE.wk (bM4 (N_7 Fn hr hg hm hk hb .nil aI6 ha aa he Z)) λ σ H Q O=>?_;obtain⟨c,H0,ρ,d,ac,R,z,q⟩:=O;unfold eNF ch8 at z;obtain⟨⟨ds,Y⟩,h1,z⟩:=a_0 z;unfold ch5 at z;obtain⟨m,h2,z⟩:=a_0 z;unfold ch2 at z;obtain⟨d1,h3,z⟩:=a_0 z;have z':some (d1,Y)=some (d,ac):=z;cases z';obtain⟨kds,rfl,rfl⟩:=bD4 h3;refine⟨c,H0,ρ,ds,_,R,h1,λ vs H1 Hh s1 R1 r1=>⟨H1,ds,_,R1.same,by rw[zw];exact r1,h2,λ a Hi' H' nw=>?_⟩⟩;obtain⟨ws,e0,nn⟩:=aY0 R1 nw;refine⟨a,_,rfl,e0,λ ob=>?_⟩;obtain⟨H2,m1,m2,m3⟩:=nn ob;exact q _ H2 _ (s1.trans m1) m2 m3
theorem aF7:CallR X (.type "dict") (λ xs H Q=>∃ p kvs,xs=[.ref p] ∧ Rd H p (.dK kvs) ∧ ∀ l,H l=none → Q (.ref l) (upd H l (.dK kvs))):=by
 intro pins s σ H xs us Q I r h;obtain⟨p,kvs,rfl,rd,q⟩:=h;obtain⟨u,rfl,ru⟩:=v_5 r;cases ru;obtain⟨hz,hd,vs,O,dd⟩:=aM2 I.hok rd;refine kt_call_dict hd dd (by rw[<- O.length];exact hz) λ g d2 Y=>?_;have Z:∀ b v,s.heap.get? b=some v->g.get? b=some v:=λ b v e=>(Y.2 b (qy (qv e))).trans (ql _ e);exact⟨.ref s.heap.objs.size,_,I.laid (o:=.dK kvs) (t':=s.toks) Z (qr _) (aC3 hz (beq_eq_false_iff_ne.mpr (yi (qy I.big))) O d2),rfl,q _ (I.hok.fresh (qr _))⟩
theorem xdc (i:Nat) {x:Str}{p pd cp:Pos} (hN:X.N.Nodup) (hm:X.mg "dict"=none) (he:XE X e F) (hi:X.N[i]?=some x:=by rfl) (hx:Loc X.env.scope x:=by first | exact Or.inl rfl | exact Or.inr rfl)
  (hs:swapsWith (.Call (.Name "dict" pd) [e] [] cp) (some (.Name x p)) pos.line X.env=pure false:=by rfl) (hf:X.fn x=true ∨ X.env.scope.names.lookup x=some .local:=by first | exact .inl rfl | exact .inr rfl) (hg:Gl X "dict":=by rfl)
  (Y:starEach [e] X.env=(false,eval e X.env)::starEach [] X.env:=by rfl) (aa:(backTo cp (starEach [] X.env)).any (·.1)=false:=by rfl):XS X (.Assign [.Name x p] (.Call (.Name "dict" pd) [e] [] cp) pos) (sDC i F) :=
 PS.wk (x_7 hN hi hx (x_8 aF7 hg hm PyProof.Rows.boot_dict (c_5 he l_0 Y) (by decide) (by decide) Y aa) hs hf) λ Dn σ H Z=>by
  obtain⟨c,H0,ρ,r,R,f,q⟩:=Z;unfold sDC cr1 at f;obtain⟨⟨d,O⟩,h1,f⟩:=a_0 f;unfold cr0 at f;obtain⟨kds,h2,f⟩:=a_0 f;have f':some (Res.nx (O.set i (.ow false (.dic kds))))=some r:=f;cases f';cases d with
  |dct ks ds =>
   cases h2;refine⟨c,H0,ρ,_,O,R,h1,λ v H1 Hh s1 R1 rv=>?_⟩;unfold Rep at rv;obtain⟨a,o,ws,rfl,ac,t,l⟩:=rv;have rd:Rd H1 a (.dK ((ks.map Sum.inr).zip ws)):=.inr ⟨o,ac⟩;have f1:(ks.zip ds).map (·.1)=ks:=Yj (by omega);have f2:(ks.zip ds).map (·.2)=ds:=Zj (by omega);refine⟨a,_,rfl,Same.rd R1.same rd,λ b hb=>?_⟩;exact q _ H1 _ s1 (R1.setOwn (o:=.dic (ks.zip ds)) (u:=.dK ((ks.map Sum.inr).zip ws)) i hb ⟨ks,ws,by rw[a_3],f1.symm,by rw[f2];exact t⟩)
  |_=>cases h2
theorem xdx {o k:Expr} (hu:X.A.units+1<cLine) (ho:XE X o F) (hk:XE X k G) (hs:bM5 k:=by exact λ _ _=>rfl):XE X (.Subscript o k pos) (e2 dDx F G) :=
 PE.wk (aw1 hu ho hk hs) λ σ H Q Z=>by
  obtain⟨c,H0,ρ,d,ac,R,f,q⟩:=Z;obtain⟨x,Y,y,h1,h2,h3⟩:=aS7 f;unfold dDx at h3;split at h3
  ·rename_i ks ds k;refine⟨c,H0,ρ,_,Y,R,h1,λ v1 H1 Hh s1 R1 r1=>⟨c,H1,Y,_,ac,R1,h2,λ v2 H2 Hh2 s2 R2 r2=>?_⟩⟩;have O:=Rep.mono s2 _ r1;unfold Rep at O r2;obtain⟨a,o,ws,rfl,aa,t,l⟩:=O;have rd:Rd H2 a (.dK ((ks.map Sum.inr).zip ws)):=.inr ⟨o,aa⟩;subst r2;have f1:(ks.zip ds).map (·.1)=ks:=Yj (by omega);have f2:(ks.zip ds).map (·.2)=ds:=Zj (by omega);obtain⟨v,w1,w2⟩:=af7 (kds:=ks.zip ds) (vs:=ws) (by rw[f2];exact t) h3;rw[f1] at w1;exact⟨a,v,rfl,.inl ⟨_,.inr k,Same.rd R2.same rd,rfl,w1.symm⟩,q v H2 Hh2 (s1.trans s2) R2 w2⟩
  ·cases h3
end
section
variable {X:Cx}{pos:Pos}{e:Expr}{T:FT}
theorem bF2 (i:Nat) (he:XT X e T):XT X e (aJ3 i T):=PT.wk (cl4 i he) λ σ H Q Y=>by
 obtain⟨c,H0,ρ,d,O,R,f,q⟩:=Y;unfold aJ3 au4 at f;obtain⟨⟨b,kds⟩,h1,f⟩:=a_0 f;have Z:(if b=false/\ρ.all ndS=true then aa5 ρ (ρ.set i (hld kds)) (T (ρ.set i (hld kds))) else none)=some (d,O):=f;by_cases hc:b=false/\ρ.all ndS=true
 ·rw[if_pos hc] at Z;obtain⟨rfl,hn⟩:=hc;unfold aa5 at Z;obtain⟨⟨d1,aa⟩,h2,f2⟩:=a_0 Z;by_cases hd:aa=ρ.set i (hld kds)
  ·have f4:some (d1,ρ)=some (d,O):=(if_pos hd).symm.trans f2;cases f4;subst hd;have z:=aQ3 h1;obtain⟨a,vs,x,y,hE,e4,r,RR⟩:=R.asData z;refine⟨a,_,x,e4,λ ob=>⟨c,_,_,d,_,(RR ob).2,h2,λ H0' H' sm R'=>?_⟩⟩;obtain⟨s1,e5,R2⟩:=R.back z x y hE r sm R' hn;exact⟨e5,q _ _ s1 R2⟩
  ·have f4:=(if_neg hd).symm.trans f2;cases f4
 ·rw[if_neg hc] at Z;cases Z
end
end Fx
namespace Fx
open PySem
theorem v_3:entryFor table "dict.update.loop"=some Builtin.«dict.update.loop»:=entryFor_of_tree (by kernel_rfl)
theorem m_5:plainId "dict.update.loop"=true:=by decide +kernel
end Fx
namespace Fx
open PySem PySem.Spec PyProof.Rows L2
def KV1 (K:Frag) (d:D) (u:Value):Prop:=∃ v,RelV v u/\∀ H,Rep K H d v
def KVs (K:Frag) (ds:List D) (us:List Value):Prop:=∃ vs,Vals vs us/\∀ H,Reps K H ds vs
section
variable {K:Frag}
theorem aR5:KV1 K .non .none:=⟨.non,rfl,λ H=>by rfl⟩
theorem aR6 :KV1 K (.int i) (.int i t):=⟨.int i,⟨t,rfl⟩,λ H=>f_7 H i⟩
theorem t_3 :KV1 K (.str x) (.str x t):=⟨.str x,⟨t,rfl⟩,λ H=>F_5 H x⟩
theorem P_9:KVs K [] []:=⟨[],.nil,λ H=>Reps.nil_⟩
theorem g_8  (a:KV1 K d u) (b:KVs K ds us):KVs K (d::ds) (u::us):=by obtain⟨v,r,p⟩:=a;obtain⟨vs,O,ps⟩:=b;exact⟨v::vs,.cons r O,λ H=>Reps.cons (p H) (ps H)⟩
theorem aj6  (l:K.lookup a=some ⟨.type "tuple",none,.seq us.toArray n,Y⟩) (hz:us.length ≤ 1000) (h:KVs K ds us):KV1 K (.tup ds) (.ref a):=by
 obtain⟨vs,O,ps⟩:=h;refine⟨.ref a,rfl,λ H=>?_⟩;refine⟨a,vs,rfl,.inr ⟨_,us.toArray,n,l,rfl,rfl,rfl,?_,?_⟩,ps H⟩
 ·rw[zf];exact yy (F_1 hz)
 ·exact O
end
theorem af8 {k:Str}:∀ {kds:List (Str×D)}{vs:List V},kds.length=vs.length->w_3 k kds=none->valV (E_6 (kds.map (·.1)) vs) (.inr k)=none
 |[],vs,_,_=>rfl
 |q::r,[],l,_=>by cases l
 |q::r,v::vs,l,h=>by
  unfold w_3 at h;by_cases hk:q.1=k
  ·rw[if_pos hk] at h;cases h
  ·rw[if_neg hk] at h;rw[ze,w_7,w_8 λ z=>hk (Zc z)];exact af8 (Nat.succ.inj l) h
section
variable {X:Cx}
theorem aF3  (h:∃ a,X.mg x=some (.ref a) ∧ KV1 X.K d (.ref a)) (hg:Gl X x:=by rfl) (hd:(x==("__debug__":Str))=false:=by decide):XE X (.Name x pos) (eC d):=by
 obtain⟨a,h,v,rv,Z⟩:=h;exact PE.wk (aY9 hg h rv hd) λ σ H Q O=>by
  obtain⟨c,H0,ρ,d,Y,R,f,q⟩:=O;obtain⟨rfl,rfl⟩:=X_9 f;exact q _ H0 H (Same.refl _) R (Z H0)
end
end Fx
namespace Fx
open PySem
noncomputable def bu9:D->Option (List Str×List D)
 |.dct ks vs=>some (ks,vs)
 |_=>none
def bE6 (k d:D):Option D:=bnd (bu9 d) λ q=>bnd (bC1 k) λ s=>some (.bl (w_3 s (q.1.zip q.2)).isSome)
def aC7 (k d:D):Option D:=bnd (bu9 d) λ q=>bnd (bC1 k) λ s=>some (.bl (!(w_3 s (q.1.zip q.2)).isSome))
@[simp] theorem cy8 (ks:List Str) (vs:List D) (k:Str):bE6 (.str k) (.dct ks vs)=some (.bl (w_3 k (ks.zip vs)).isSome):=yR rfl
def co9 (F G:FE) (ρ:En):Option (D×En):=bnd (F ρ) λ p=>bnd (bf8 p.1) λ b=>if b=true then some p else G p.2
end Fx
namespace Fx
open PySem PySem.Spec PyProof.Rows L2
theorem dctX_inv  (h:bu9 d=some q):d=.dct q.1 q.2:=by
 cases d with
 |dct ks vs=>cases h;rfl
 |_=>cases h
end Fx
namespace Fx
open PySem
noncomputable abbrev Ky:=List (List Int)
mutual
noncomputable def fK:D->Ky
 |.int i=>[[i]]
 |.str s=>[s.cps.toList.map Int.ofNat]
 |.tup xs=>fKs xs
 |_=>[]
noncomputable def fKs:List D->Ky
 |[]=>[]
 |d::r=>fK d++fKs r
end
def ltK (a b:D):Bool:=decide (fK a<fK b)
def ba6 (x:D):List D->List D
 |[]=>[x]
 |y::r=>if ltK y x=true then y::ba6 x r else x::y::r
def k_0:List D->List D
 |[]=>[]
 |x::r=>ba6 x (k_0 r)
theorem mem_insT {x y:D}:∀ {l:List D},y∈ba6 x l↔y=x\/y∈l
 |[]=>by simp[ba6]
 |z::r=>by
  unfold ba6;split
  ·rw[zl,mem_insT,zl];exact⟨λ h=>by rcases h with h | h | h;exact .inr (.inl h);exact .inl h;exact .inr (.inr h),λ h=>by rcases h with h | h | h;exact .inr (.inl h);exact .inl h;exact .inr (.inr h)⟩
  ·rw[zl]
theorem insT_perm {x:D}:∀ {l:List D},(ba6 x l).Perm (x::l)
 |[]=>Z4 _
 |y::r=>by
  unfold ba6;split
  ·exact ((insT_perm (l:=r)).cons y).trans (List.Perm.swap x y r)
  ·exact Z4 _
theorem p_1:∀ l:List D,(k_0 l).Perm l
 |[]=>Z4 _
 |x::r=>by unfold k_0;exact insT_perm.trans ((p_1 r).cons x)
theorem aL7 {a b c:Ky} (h1:¬ b<a) (h2:¬ c<b):¬ c<a:=List.not_lt.mpr (List.le_trans (List.not_lt.mp h1) (List.not_lt.mp h2))
theorem aN1 {x:D}:∀ {l:List D},(l.Pairwise λ a b=>ltK b a=false)->(ba6 x l).Pairwise λ a b=>ltK b a=false
 |[],_=>Qs _ _
 |y::r,h=>by
  unfold ba6;obtain⟨h1,h2⟩:=List.pairwise_cons.mp h;by_cases q:ltK y x=true
  ·rw[if_pos q];refine List.pairwise_cons.mpr ⟨λ z hz=>?_,aN1 h2⟩;rcases mem_insT.mp hz with rfl | hz
   ·unfold ltK at q ⊢;rw[jh] at q;rw[Qq];exact List.not_lt.mpr (List.le_of_lt q)
   ·exact h1 z hz
  ·rw[if_neg q];have q:ltK y x=false:=by simpa using q
   refine List.pairwise_cons.mpr ⟨λ z hz=>?_,h⟩;rcases qz hz with rfl | hz
   ·exact q
   ·have O:=h1 z hz;unfold ltK at q O ⊢;rw[Qq] at q O ⊢;exact aL7 q O
theorem O_3:∀ l:List D,(k_0 l).Pairwise λ a b=>ltK b a=false
 |[]=>Yh
 |x::r=>by unfold k_0;exact aN1 (O_3 r)
theorem aa9 {l t:List D} (inj:∀ a b,a∈l->b∈l->fK a=fK b->a=b) (hp:t.Perm l) (hs:t.Pairwise λ a b=>ltK b a=false):t=k_0 l:=by refine List.Perm.eq_of_pairwise (le:=λ a b=>ltK b a=false) (λ a b O hb p q=>?_) hs (O_3 l) (hp.trans (p_1 l).symm);unfold ltK at p q;rw[Qq] at p q;exact inj a b (hp.mem_iff.mp O) ((p_1 l).mem_iff.mp hb) (List.le_antisymm (List.not_lt.mp p) (List.not_lt.mp q))
theorem ay9 {p q:Nat->Bool}:∀ {l:List Nat},(∀ x,p x=true->q x=true)->(∃ x∈l,q x=true/\p x=false)->l.countP p<l.countP q
 |[],_,h=>by obtain⟨x,h,_⟩:=h;cases h
 |y::r,hi,h=>by
  have le:r.countP p<=r.countP q:=List.countP_mono_left λ x _=>hi x;obtain⟨x,O,h1,h2⟩:=h;rcases qz O with rfl | O
  ·rw[List.countP_cons_of_neg (by rw[h2];exact zc),Zk h1];omega
  ·have Y:=ay9 hi ⟨x,O,h1,h2⟩;cases hp:p y with
   |true=>rw[Zk hp,Zk (hi y hp)];omega
   |false =>
    rw[List.countP_cons_of_neg (by rw[hp];exact zc)];exact qx Y (by rw[List.countP_cons];omega)
def aK3 (n:Nat) (key:Nat->Ky) (i:Nat):Nat:=(List.range n).countP λ k=>decide (key k<key i)
theorem av8 {n:Nat}{key:Nat->Ky}{i j:Nat} (hi:i<n):aK3 n key i<aK3 n key j↔key i<key j:=by
 constructor
 ·intro h;by_cases c:key i<key j
  ·exact c
  ·have le:aK3 n key j<=aK3 n key i:=List.countP_mono_left λ x _ O=>by
    rw[jh] at O ⊢;refine Decidable.byContradiction λ z=>c (List.lt_of_le_of_lt (List.not_lt.mp z) O)
   omega
 ·intro c;refine ay9 (λ x O=>?_) ⟨i,List.mem_range.mpr hi,zu c,zn (Qc _)⟩;rw[jh] at O ⊢;exact List.lt_trans O c
noncomputable def r3:D->Bool
 |.tup [.int _,.str _,.int _]=>true
 |_=>false
noncomputable def r22:D->Bool
 |.tup [.tup [.str _,.int _],.tup [.int _,.int _]]=>true
 |_=>false
def W_2:List D->Option D
 |[.lst xs]=>if xs.length<64/\(xs.all r3=true\/xs.all r22=true) then some (.lst (k_0 xs)) else none
 |_=>none
@[simp] theorem az2 (xs:List D):W_2 [.lst xs]=if xs.length<64/\(xs.all r3=true\/xs.all r22=true) then some (.lst (k_0 xs)) else none:=yR rfl
def cb0:List D->Option D
 |[.lst xs]=>bnd (L_2 xs) λ is=>some (.int is.sum)
 |_=>none
theorem ca9 (xs:List D):cb0 [.lst xs]=bnd (L_2 xs) λ is=>some (.int is.sum):=rfl
noncomputable def ci8:D->Option D
 |.lst xs=>some (.lst xs.reverse)
 |_=>none
@[simp] theorem cu5 (xs:List D):ci8 (.lst xs)=some (.lst xs.reverse):=yR rfl
noncomputable def two:D->Option (D×D)
 |.tup [a,b]=>some (a,b)
 |_=>none
noncomputable def aC2:D->Option Str
 |.tup [.int _,.str k,.int _]=>some k
 |_=>none
noncomputable def cw4:D->Option Int
 |.tup [.int t,.str _,.int _]=>some t
 |_=>none
def h_7 (k:Str):List (List D)->Option Nat
 |[]=>none
 |x::r=>match h_7 k r with
  |some i=>some (i+1)
  |none=>if (x.head?.bind aC2)=some k then some 0 else none
def ao4 (gap t:Int) (x:List D):Bool:=match x.getLast?.bind cw4 with
 |some u=>decide (t-u<gap)
 |none=>false
def p_2 (gap:Int) (st:List (List D)) (k:Str) (t:Int) (d:D):List (List D):=match h_7 k st with
 |some i=>if ao4 gap t (st.getD i [])=true then st.set i (st.getD i []++[d]) else st++[[d]]
 |none=>st++[[d]]
def G_3 (gap:Int):List D->List (List D)->Option (List (List D))
 |[],st=>some st
 |.tup [.int t,.str k,.int v]::r,st=>G_3 gap r (p_2 gap st k t (.tup [.int t,.str k,.int v]))
 |_,_=>none
def bt9:List D->Option D
 |[.int gap,.lst xs]=>if xs.length<64/\xs.all r3=true then bnd (G_3 gap (k_0 xs) []) λ st=>some (.lst (st.map .lst)) else none
 |_=>none
noncomputable def bG4:Option Sl->Option (List D)
 |some (.ow false (.lst ds))=>some ds
 |_=>none
@[simp] theorem cs1 (ds:List D):bG4 (some (.ow false (.lst ds)))=some ds:=yR rfl
end Fx
namespace Fx
open PySem PySem.Spec PyProof.Rows L2
noncomputable def O_8:D->D->Bool
 |.int _,.int _=>true
 |.str _,.str _=>true
 |_,_=>false
def sameFs:List D->List D->Bool
 |[],[]=>true
 |d::r,e::t=>O_8 d e&&sameFs r t
 |_,_=>false
noncomputable def ltF:D->D->Bool
 |.int i,.int j=>decide (i<j)
 |.str a,.str b=>decide (a.cps.toList<b.cps.toList)
 |_,_=>false
def lexF:List D->List D->Bool
 |d::r,e::t=>if eqD d e=true then lexF r t else ltF d e
 |_,_=>false
theorem bi8:∀ (l m:List Nat),(l.map Int.ofNat<m.map Int.ofNat)↔l<m
 |[],[]=>by simp
 |[],_::_=>by simp
 |_::_,[]=>by simp
 |a::l,b::m=>by
  rw[ze,ze,yr,yr,bi8 l m];have h1:(Int.ofNat a<Int.ofNat b)↔a<b:=Int.ofNat_lt;have h2:(Int.ofNat a=Int.ofNat b)↔a=b:=Int.ofNat_inj;rw[h1,h2]
theorem aK9 (a b:List Int):([a]:Ky)<[b]↔a<b:=by rw[yr];exact⟨λ h=>h.elim id λ z=>absurd z.2 (Qc _),.inl⟩
theorem O_4 {d e:D} (h:O_8 d e=true):(eqD d e=true↔d=e)/\(fK d=fK e↔d=e)/\(ltF d e=true↔fK d<fK e)/\(∃ k,fK d=[k])/\∃ k,fK e=[k]:=by
 cases d with
 |int i =>
  cases e with
  |int j =>
   have e1:fK (.int i)=[[i]]:=by unfold fK;rfl
   have e2:fK (.int j)=[[j]]:=by unfold fK;rfl
   rw[e1,e2];refine⟨by simp,by simp,?_,⟨_,rfl⟩,_,rfl⟩;rw[aK9,yr];show decide (i<j)=true↔_;rw[jh];exact⟨.inl,λ z=>z.elim id λ y=>absurd y.2 (Qc _)⟩
  |_=>cases h
 |str a =>
  cases e with
  |str b =>
   have e1:fK (.str a)=[a.cps.toList.map Int.ofNat]:=by unfold fK;rfl
   have e2:fK (.str b)=[b.cps.toList.map Int.ofNat]:=by unfold fK;rfl
   rw[e1,e2];refine⟨by simp,?_,?_,⟨_,rfl⟩,_,rfl⟩
   ·constructor
    ·intro z;have O:a.cps.toList.map Int.ofNat=b.cps.toList.map Int.ofNat:=(List.cons.inj z).1;have Y:a.cps.toList=b.cps.toList:=List.map_inj_right (λ x y q=>Int.ofNat.inj q) |>.mp O
     obtain⟨⟨la⟩⟩:=a;obtain⟨⟨Z⟩⟩:=b;cases Y;rfl
    ·intro z;cases z;rfl
   ·rw[aK9,bi8];show decide (a.cps.toList<b.cps.toList)=true↔_;rw[jh]
  |_=>cases h
 |_=>cases h
theorem q_5 (d:D) (r:List D):fKs (d::r)=fK d++fKs r:=by rw[fKs]
theorem E_1:∀ {ds es:List D},sameFs ds es=true->ds.length=es.length/\(fKs ds).length=(fKs es).length
 |[],[],_=>⟨rfl,rfl⟩
 |[],_::_,h=>by cases h
 |_::_,[],h=>by cases h
 |d::r,e::t,h=>by
  unfold sameFs at h;rw[zj] at h;obtain⟨_,_,_,⟨k,e1⟩,O,e2⟩:=O_4 h.1;obtain⟨h1,h2⟩:=E_1 h.2;exact⟨by simp[h1],by rw[q_5,q_5,e1,e2];simp[h2]⟩
theorem x_3:∀ {ds es:List D},sameFs ds es=true->(fKs ds=fKs es↔ds=es)
 |[],[],_=>by simp
 |[],_::_,h=>by cases h
 |_::_,[],h=>by cases h
 |d::r,e::t,h=>by
  unfold sameFs at h;rw[zj] at h;obtain⟨_,q,_,⟨k,e1⟩,O,e2⟩:=O_4 h.1;have Z:=x_3 h.2;rw[q_5,q_5];constructor
  ·intro z;rw[e1,e2] at z;have Y:k::fKs r=O::fKs t:=z;injection Y with z1 z2
   rw[q.mp (by rw[e1,e2,z1]),Z.mp z2]
  ·intro z;cases z;rfl
theorem ag2:∀ {ds es:List D},sameFs ds es=true->lexF ds es=decide (fKs ds<fKs es)
 |[],[],_=>by
  have:fKs []=[]:=by rw[fKs]
  rw[this];exact (zn (Qc _)).symm
 |[],_::_,h=>by cases h
 |_::_,[],h=>by cases h
 |d::r,e::t,h=>by
  unfold sameFs at h;rw[zj] at h;obtain⟨Z,q2,q3,⟨k,e1⟩,O,e2⟩:=O_4 h.1;have ih:=ag2 h.2;unfold lexF;rw[q_5,q_5,e1,e2];show _=decide (k::fKs r<O::fKs t);by_cases z:eqD d e=true
  ·have:k=O:=by have:=Z.mp z;subst this;rw[e1] at e2;exact (List.cons.inj e2).1
   subst this;rw[if_pos z,ih];refine decide_eq_decide.mpr ?_;rw[yr];exact⟨λ y=>.inr ⟨rfl,y⟩,λ y=>y.elim (λ y=>absurd y (Qc _)) (·.2)⟩
  ·rw[if_neg z];have ne:k≠O:=λ y=>z (Z.mpr (q2.mp (by rw[e1,e2,y])));have e3:ltF d e=decide (k<O):=by
    have q4:ltF d e=true↔k<O:=by rw[q3,e1,e2,aK9]
    cases Y:ltF d e with
    |true=>exact (zu (q4.mp Y)).symm
    |false=>exact (zn λ y=>by rw[q4.mpr y] at Y;cases Y).symm
   rw[e3];refine decide_eq_decide.mpr ?_;rw[yr];exact⟨.inl,λ y=>y.elim id λ y=>absurd y.1 ne⟩
end Fx
namespace Fx
open PySem
noncomputable def ch1:D->Option Int
 |.int k=>some k
 |_=>none
@[simp] theorem ct1 (k:Int):ch1 (.int k)=some k:=yR rfl
def aX1 (xs:List D) (ρ:En) (o:Option Int):Option (List D×En):=bnd o λ k=>if k<=1000/\-1000<=k/\xs.length<=1000 then some ((List.replicate k.toNat xs).flatten,ρ) else none
def aX4 (xs:List D) (o:Option (D×En)):Option (List D×En):=bnd o λ p=>aX1 xs p.2 (ch1 p.1)
def aX9 (G:FE) (o:Option (List D×En)):Option (List D×En):=bnd o λ p=>aX4 p.1 (G p.2)
def cg6 (A:FA) (G:FE) (ρ:En):Option (List D×En):=aX9 G (A ρ)
@[simp] theorem cx7 (A:FA) (G:FE) (ρ:En):cg6 A G ρ=aX9 G (A ρ):=yR rfl
@[simp] theorem cm1 (G:FE) (xs:List D) (ρ:En):aX9 G (some (xs,ρ))=aX4 xs (G ρ):=yR rfl
@[simp] theorem cm0 (xs:List D) (d:D) (ρ:En):aX4 xs (some (d,ρ))=aX1 xs ρ (ch1 d):=yR rfl
@[simp] theorem cl9 (xs:List D) (ρ:En) (k:Int):aX1 xs ρ (some k)=if k<=1000/\-1000<=k/\xs.length<=1000 then some ((List.replicate k.toNat xs).flatten,ρ) else none:=yR rfl
def ci3 (o:Option (List D×En)):Option (D×En):=bnd o λ p=>some (.lst p.1,p.2)
def eFr (A:FA) (ρ:En):Option (D×En):=ci3 (A ρ)
@[simp] theorem cA1 (A:FA) (ρ:En):eFr A ρ=ci3 (A ρ):=yR rfl
@[simp] theorem ct8 (ds:List D) (ρ:En):ci3 (some (ds,ρ))=some (.lst ds,ρ):=yR rfl
noncomputable def zpT (xs ys:List D):List D:=(xs.zip ys).map λ p=>.tup [p.1,p.2]
def bA2:D->D->Option D
 |.lst xs,.lst ys=>if xs.length<=1000 then some (.lst (zpT xs ys)) else none
 |_,_=>none
def cd5 (i:Nat) (ρ:En) (d:D) (o:Option Str):Option Res:=bnd o λ k=>some (.nx (ρ.set i (.ow false (.dic [(k,d)]))))
def cd6 (i:Nat) (x:D) (o:Option (D×En)):Option Res:=bnd o λ p=>cd5 i p.2 p.1 (kS x)
def cd7 (i:Nat) (F:FE) (o:Option (D×En)):Option Res:=bnd o λ p=>cd6 i p.1 (F p.2)
def sD1 (i:Nat) (G F:FE) (ρ:En):Option Res:=cd7 i F (G ρ)
@[simp] theorem cz5 (i:Nat) (G F:FE) (ρ:En):sD1 i G F ρ=cd7 i F (G ρ):=yR rfl
@[simp] theorem cr4 (i:Nat) (F:FE) (x:D) (ρ:En):cd7 i F (some (x,ρ))=cd6 i x (F ρ):=yR rfl
@[simp] theorem cr3 (i:Nat) (x d:D) (ρ:En):cd6 i x (some (d,ρ))=cd5 i ρ d (kS x):=yR rfl
@[simp] theorem cr2 (i:Nat) (ρ:En) (d:D) (k:Str):cd5 i ρ d (some k)=some (.nx (ρ.set i (.ow false (.dic [(k,d)])))):=yR rfl
noncomputable def bA4:D->D->Option D
 |.tup a,.tup b=>if a.length+b.length<=1000/\0<a.length/\0<b.length then some (.tup (a++b)) else none
 |_,_=>none
@[simp] theorem cp7 (a b:List D):bA4 (.tup a) (.tup b)=if a.length+b.length<=1000/\0<a.length/\0<b.length then some (.tup (a++b)) else none:=yR rfl
end Fx
namespace Fx
open PySem PySem.Spec PyProof.Rows L2
theorem Step.side  (s:Same H0 H) (hp:H p=none):Step H0 H H0 (upd H p o):=by refine⟨Same.refl _,λ b u e=>by rw[b_2 (c_6 e hp)];exact e,λ b u e=>?_,λ b u e=>.inl e⟩;have O:=s _ _ e;rw[b_2 (c_6 O hp)];exact O
end Fx
namespace Fx
open PySem
theorem ao2:typeLookup (.type "list") "keys"=pure none:=by rw[typeLookup_type,Zu];kernel_rfl
set_option maxHeartbeats 4000000 in
theorem aC1 {prog:Program}{w:World}{A:Around}{E:Value->Shared->Prop}{s:Shared}{a:Addr}{ob:Obj}{us:Array Value}{n:Nat}{Q:Option Value->Shared->Prop}
  (ho:s.heap.get? a=some ob) (hc:ob.cls=.type "list") (Y:ob.data=.seq us n) (O:ob.dict=none) (hh:A.handled=none)
  (k:∀ h' tk e,Heap.NewExcOf s.heap h' e "AttributeError" → Q none {s with heap:=h',toks:=tk}) :
  wpAny (model prog w) A (getAttr? (.ref a) "keys") Q E s:=by
 obtain⟨oc,od,ad,aa⟩:=ob;simp only at hc Y O;subst hc Y O;obtain⟨hp,gg,dd,tk,os⟩:=s;have ty:∀ Z,(⟨hp,gg,dd,Z,os⟩:Shared).TypeIs (.ref a) "list":=λ _=>⟨_,ho,rfl⟩
 have e1:=sub_AttributeError;have e3:=F.slot_list_getattribute.lookup;have e4:=F.slot_list_getattribute.bind (.ref a);have e5:=am_list_getattr_none;unfold getAttr? getAttrBy? getAttrBy
 repeat (any_goals (first | assumption | exact ty _ | ((with_reducible show wpAny _ _ (call (Value.builtin "list.__getattribute__") _ _) _ _ _);refine Zm F.slot_list_getattribute (ty _) am_entry_list_getattribute (F.args_list_getattribute_2 _ _) (meets_getattribute_miss_list a us n aa "keys" _ ao2 (by decide) (by decide)) ⟨ho,hh,λ h' Z e hx=>?_⟩) | wp_step))
 obtain⟨t1,u1,he⟩:=hx.there;have tx:∀ ac,(⟨h',gg,dd,ac,os⟩:Shared).TypeIs (.ref e) "AttributeError":=λ _=>⟨_,he,rfl⟩
 show wpAny _ _ (getattributeRaised _ _ _ _ _ _ _) _ _ _;unfold getattributeRaised
 repeat (any_goals (first | assumption | exact tx _ | wp_step))
 all_goals exact k _ _ _ hx.of
end Fx
namespace Fx
open PySem PySem.Spec PyProof.Rows L2
theorem aZ5  (h:bG4 o=some ds):o=some (.ow false (.lst ds)):=by
 unfold bG4 at h;split at h
 ·cases h;rfl
 ·cases h
theorem Reps.dropLast {K:Frag}{H:Hp}:∀ {ds:List D}{vs:List V},Reps K H ds vs->Reps K H ds.dropLast vs.dropLast
 |[],vs,h=>by unfold Reps at h;subst h;exact Reps.nil_
 |[d],vs,h=>by
  unfold Reps at h;obtain⟨v,r,rfl,_,h2⟩:=h;unfold Reps at h2;subst h2;exact Reps.nil_
 |d::e::ds,vs,h=>by
  unfold Reps at h;obtain⟨v,r,rfl,h1,h2⟩:=h;have O:=Reps.dropLast h2;unfold Reps at h2;obtain⟨Y,Z,rfl,_,_⟩:=h2;exact Reps.cons h1 O
theorem av5 {K:Frag}{H:Hp}{ds:List D}{vs:List V} (h:Reps K H ds vs):∀ k:Nat,Reps K H (List.replicate k ds).flatten (List.replicate k vs).flatten
 |0=>Reps.nil_
 |k+1=>by
  rw[y9,y9,Qa,Qa];exact h.app (av5 h k)
section
variable {X:Cx}{pos:Pos}{o e:Expr}{F G:FE}{A:FA}{T:FT}
theorem cj4 {es:List Expr}{lp:Pos} (h:XA X es A) (hn:XE X e G):XO' X (.BinOp (.List es lp) .Mult e pos) (cg6 A G) :=
 PE.wk (aI4 bN7 (ah9 h) hn) λ σ H Q Z=>by
  obtain⟨c,H0,ρ,ds,ac,R,f,q⟩:=Z;unfold cg6 aX9 at f;obtain⟨⟨xs,Y⟩,h1,f⟩:=a_0 f;unfold aX4 at f;obtain⟨⟨d,ad⟩,h2,f⟩:=a_0 f;unfold aX1 at f;obtain⟨k,O,f⟩:=a_0 f;dsimp only at h2 O f;obtain⟨⟨k1,k2,hl⟩,f'⟩:=ifs f;cases f';refine⟨c,H0,ρ,xs,Y,R,h1,λ vs H1 Hh s1 R1 r1=>⟨by rw[<- r1.length];exact aV8 hl,λ p hp=>?_⟩⟩;have S:=Step.alloc (o:=.lst vs) R1.same hp;have R2:=R1.after S;refine⟨c,_,Y,d,ac,R2,h2,λ v H3 Hh3 s3 R3 rv=>?_⟩;unfold ch1 at O;split at O
  rotate_left
  ·cases O
  cases O;unfold Rep at rv;subst rv;have lv:=r1.length;refine⟨p,k,vs,rfl,rfl,R3.same _ _ (s3 _ _ a_3),by omega,by omega,?_,λ l aa=>?_⟩
  ·have:vs.length*k.toNat<=1000*1000:=Nat.mul_le_mul (by omega) (by omega);have:(1000*1000:Nat)<=sizeLine:=by decide
   omega
  ·exact q l _ H3 Hh3 (s1.trans (S.s0.trans s3)) R3 aa (av5 (Reps.mono (S.s0.trans s3) _ r1) _)
theorem xfr (h:XO' X e A):XE X e (eFr A):=PE.wk h λ σ H Q O=>by
 obtain⟨c,H0,ρ,d,aa,R,f,q⟩:=O;unfold eFr ci3 at f;obtain⟨⟨ds,Y⟩,h1,f⟩:=a_0 f;cases f;refine⟨c,H0,ρ,ds,Y,R,h1,λ p vs H1 Hh s1 Z hp r1=>?_⟩;have S:=Step.alloc (o:=.lst vs) Z.same hp;refine q _ _ _ (s1.trans S.s0) (Z.after S) ?_;unfold Rep;exact⟨p,vs,rfl,.inl (.inl a_3),Reps.mono S.s0 _ r1⟩
end
end Fx
namespace L2
open PySem PySem.Spec PyProof.Rows
theorem Inv.turnedL {X:Cx}{pins:List (Addr×Obj)}{σ:St}{H:Hp}{s:Shared}{h':Heap}{t':Nat}{fs:List Addr} (I:Inv X pins σ H s) (k:∀ b o,b∉fs->s.heap.get? b=some o->h'.get? b=some o) (Y:∀ b∈fs,FpOk X pins H b) :
  Inv X pins σ H {s with heap:=h',toks:=t'}:=by
 have out:∀ b u,H b=some u->b∉fs:=λ b u e z=>by rw[(Y b z).1] at e;cases e
 refine I.step (g':=s.gens) (d':=s.drawn) (ch:=fs) (λ b hb=>?_) (λ b o _ _ O e _=>k b o O e) (λ b o _ _ O e _=>⟨o.slots,k b o O e⟩) (λ _ _ _ _ n=>n)
  (λ b o O e=>⟨o,k b o O e⟩) (λ _ _ e=>e) (λ _ _ _ e=>e) (λ _ _ e=>e) (λ m hm=>?_) (λ b u e=>?_) I.bare
 ·obtain⟨_,z1,_,z3,z4,Z⟩:=Y b hb;exact⟨z3,z1,z4,Z⟩
 ·obtain⟨o,es,ep,ho,r⟩:=hm;exact⟨o,es,ep,k _ o (λ z=>(Y _ z).2.1 rfl) ho,r⟩
 ·refine (I.hok b u e).stay (λ c v O q=>k c v ?_ q) (λ _ q=>q) (λ _ _ q=>q) λ _ _ q=>q;rcases O with z | z
  ·rw[z];exact out b u e
  ·exact out _ _ z
theorem FpOk.upd  (h:FpOk X pins H b) (n:b≠p):FpOk X pins (upd H p u) b:=⟨by rw[b_2 n];exact h.1,h.2⟩
end L2
namespace Fx
open PySem PySem.Spec PyProof.Rows L2
def af4 (K:Frag) (J:It) (H1:Hp) (xs:List D):Prop:=∀ (H0 H:Hp) (i:Nat),Same H1 H0->Same H0 H ->
 (∀ d,xs[i]?=some d->J.go i H/\∀ x H',J.yld i H x H'->∃ H0',Step H0 H H0' H'/\Rep K H0' d x)/\(xs.length<=i->J.stop i H)
theorem bd0 {K:Frag} (R:RS K c H1 Hh ρ σ) (hf:fGo g B xs ρ=some r) (hy:af4 K J H1 xs) (q:Post K c Dn H1 r) :
  ∃ W:Nat->Nat->L2.St->Hp->Prop,(∃ m,W 0 m σ Hh)/\∀ i m σ H,W i m σ H ->
   (J.stop i H/\Dn.nx σ H)\/(J.go i H/\∃ N:L2.St->Hp->Prop,(∀ O H',N O H'->∃ m',m'<m/\W (i+1) m' O H')/\∀ x H',J.yld i H x H'->tG K g x σ H' λ ae H2=>tS K B {Dn with nx:=N,ct:=N,bk:=Dn.nx} ae H2):=by
 refine⟨λ i m σ H=>m=xs.length-i/\i<=xs.length/\∃ H0 ρ,Same H1 H0/\RS K c H0 H ρ σ/\fGo g B (xs.drop i) ρ=some r,⟨xs.length,by simp,zx _,H1,ρ,Same.refl _,R,by simpa using hf⟩,?_⟩;rintro i m σ H ⟨rfl,hi,H0,ρ,s0,R0,hg⟩;obtain⟨y1,y2⟩:=hy H0 H i s0 R0.same;by_cases ac:i<xs.length
 ·have hd:xs[i]?=some xs[i]:=by simp[ac]
  obtain⟨go,yl⟩:=y1 _ hd;refine .inr ⟨go,λ O H'=>∃ m',m'<xs.length-i/\m'=xs.length-(i+1)/\i+1<=xs.length/\∃ H0 ρ,Same H1 H0/\RS K c H0 H' ρ O/\fGo g B (xs.drop (i+1)) ρ=some r,λ O H' ⟨m',a,b⟩=>⟨m',a,b⟩,λ x H' hx=>?_⟩;obtain⟨H0',S,rx⟩:=yl x H' hx;rw[A_4 hd,ak9] at hg;obtain⟨ad,g1,hg⟩:=a_0 hg;obtain⟨z,g2,hg⟩:=a_0 hg;refine⟨c,H0',ρ,_,ad,R0.after S,rx,g1,λ af H2 Hh2 s2 R2=>⟨c,H2,ad,z,R2,g2,?_⟩⟩;have aa:=s0.trans S.s0;cases z with
  |nx Y=>exact λ O H3 Hh3 s3 R3=>⟨_,by omega,rfl,ac,H3,Y,aa.trans (s2.trans s3),R3,hg⟩
  |ct Y=>exact λ O H3 Hh3 s3 R3=>⟨_,by omega,rfl,ac,H3,Y,aa.trans (s2.trans s3),R3,hg⟩
  |bk Y =>
   have Z:=hg;cases Z;exact λ O H3 Hh3 s3 R3=>q O H3 Hh3 (aa.trans (s2.trans s3)) R3
  |rt d Y =>
   have Z:=hg;cases Z;exact λ v O H3 Hh3 s3 R3 r3=>q v O H3 Hh3 (aa.trans (s2.trans s3)) R3 r3
 ·have hn:xs.drop i=[]:=jc (by omega);rw[hn,aB1] at hg;have Z:=hg;cases Z;exact .inl ⟨y2 (by omega),q σ H0 H s0 R0⟩
end Fx
namespace Fx
open PySem PySem.W PyProof.Rows
noncomputable def WpT {α:Type} (lt:Nat->Nat->Bool) (n:Nat) (P:α->Prop):KasT α->Prop
 |.ret a=>P a
 |.ask i j k=>i<n/\j<n/\WpT lt n P (k (lt i j))
theorem WpT.bind {α β:Type}{lt:Nat->Nat->Bool}{n:Nat}{P:α->Prop}{O:β->Prop}{f:α->KasT β} (h:∀ a,P a->WpT lt n O (f a)):∀ t:KasT α,WpT lt n P t->WpT lt n O (t.bind f)
 |.ret a,q=>h a q
 |.ask i j k,q=>⟨q.1,q.2.1,WpT.bind h (k (lt i j)) q.2.2⟩
theorem WpT.run {α:Type}{lt:Nat->Nat->Bool}{n:Nat}{P:α->Prop}{J:Shared->Prop}{O:Nat->Nat->(Bool->Shared->Prop)->Shared->Prop}{Q:α->Shared->Prop}
  (hc:∀ i j C s,i<n->j<n->J s->(∀ s',J s'->C (lt i j) s')->O i j C s) (Z:∀ a s,P a->J s->Q a s):∀ (t:KasT α) (s:Shared),WpT lt n P t->J s->t.kasWp O Q s
 |.ret a,s,h,j=>Z a s h j
 |.ask i j k,s,h,js=>hc i j _ s h.1 h.2.1 js λ s' Y=>WpT.run hc Z (k (lt i j)) s' h.2.2 Y
section
variable {n:Nat}{r:Nat->Nat}
noncomputable abbrev ltR (r:Nat->Nat) (i j:Nat):Bool:=decide (r i<r j)
structure OkP (n:Nat) (p:Array Nat):Prop where
 size:p.size=n
 perm:p.toList.Perm (List.range n)
noncomputable def KP (r:Nat->Nat) (p:Array Nat) (k:Nat):Nat:=r (p.getD k 0)
theorem OkP.lt {p:Array Nat} (h:OkP n p) (O:0<n) (k:Nat):p.getD k 0<n:=by
 by_cases hk:k<p.size
 ·rw[yv,getElem?_pos p k hk];have:p[k]∈p.toList:=by simp
  exact List.mem_range.mp (h.perm.mem_iff.mp this)
 ·rw[yv,getElem?_neg p k hk];exact O
theorem K_1 {p q:Array Nat}{i j:Nat} (h:p[i]?=q[j]?):KP r p i=KP r q j:=by unfold KP;rw[yv,yv,h]
theorem OkP.rev {p:Array Nat} (h:OkP n p) (i j:Nat):OkP n (kas_rev p i j):=⟨(mirror_size _ _ _ _).trans h.size,(Array.perm_iff_toList_perm.mp (mirror_perm _ _ _ _)).trans h.perm⟩
theorem OkP.bub {p:Array Nat} (h:OkP n p) (k d:Nat):OkP n (bubble p k d):=⟨(bubble_size _ _ _).trans h.size,(Array.perm_iff_toList_perm.mp (bubble_perm _ _ _)).trans h.perm⟩
theorem aS3 {p:Array Nat}{i j:Nat} (O:j<=p.size) (k:Nat):KP r (kas_rev p i j) k=if i<=k/\k<j then KP r p (i+j-1-k) else KP r p k:=by
 have e:=getElem?_mirror_all (xs:=p) (i:=i) O k;by_cases h1:i<=k/\k<j
 ·rw[if_pos h1] at e ⊢;exact K_1 e
 ·rw[if_neg h1] at e ⊢;exact K_1 e
theorem bp9 {p:Array Nat}{k d:Nat} (hs:k<p.size) (hd:d<=k) (i:Nat):KP r (bubble p k d) i=if i=k-d then KP r p k else if k-d<i/\i<=k then KP r p (i-1) else KP r p i:=by
 have e:=getElem?_bubble hs d hd i;by_cases h1:i=k-d
 ·rw[if_pos h1] at e ⊢;exact K_1 e
 ·rw[if_neg h1] at e ⊢;by_cases h2:k-d<i/\i<=k
  ·rw[if_pos h2] at e ⊢;exact K_1 e
  ·rw[if_neg h2] at e ⊢;exact K_1 e
def aq3 (r:Nat->Nat) (p:Array Nat) (m:Nat):Prop:=∀ i j,i<=j->j<m->KP r p i<=KP r p j
def cb5 (r:Nat->Nat) (p:Array Nat) (m:Nat):Prop:=∀ i j,i<=j->j<m->KP r p j<=KP r p i
def Eqs (r:Nat->Nat) (p:Array Nat) (a b:Nat):Prop:=∀ i,a<=i->i<b->KP r p i=KP r p (b-1)
theorem W_5 {p:Array Nat}{i j:Nat} (O:j<=p.size) (e:Eqs r p i j) (k:Nat):KP r (kas_rev p i j) k=KP r p k:=by
 rw[aS3 O];split
 ·rw[e _ (by omega) (by omega),e k (by omega) (by omega)]
 ·rfl
theorem aS0 {p:Array Nat} (hp:OkP n p):∀ f m,1<=m->m+f<=n->aq3 r p m->WpT (ltR r) n (λ O=>m<=O/\O<=m+f/\aq3 r p O/\(O<m+f->KP r p O<KP r p (O-1))) (kas_asc p f m)
 |0,m,h1,h2,h3=>⟨qr _,qr _,h3,λ z=>absurd z (yk _)⟩
 |f+1,m,h1,h2,h3=>by
  refine⟨hp.lt (by omega) _,hp.lt (by omega) _,?_⟩;by_cases c:KP r p m<KP r p (m-1)
  ·rw[show ltR r (p.getD m 0) (p.getD (m-1) 0)=true from zu c];dsimp only;rw[if_pos rfl];exact⟨qr _,by omega,h3,λ _=>c⟩
  ·rw[show ltR r (p.getD m 0) (p.getD (m-1) 0)=false from zn c];dsimp only;rw[if_neg zc];have h4:aq3 r p (m+1):=λ i j Z hj=>by
    by_cases z:j<m
    ·exact h3 i j Z z
    ·have:j=m:=by omega
     subst this;by_cases w:i=j
     ·subst w;exact qr _
     ·exact z0 (h3 i (j-1) (by omega) (by omega)) (jp c)
   have Y:=aS0 hp f (m+1) (by omega) (by omega) h4;rw[show m+1+f=m+(f+1) by omega] at Y;have mono:∀ (t:KasT Nat),WpT (ltR r) n (λ O=>m+1<=O/\O<=m+(f+1)/\aq3 r p O/\(O<m+(f+1)->KP r p O<KP r p (O-1))) t->WpT (ltR r) n (λ O=>m<=O/\O<=m+(f+1)/\aq3 r p O/\(O<m+(f+1)->KP r p O<KP r p (O-1))) t:=by
    intro t;induction t with
    |ret a=>exact λ h=>⟨by have:=h.1;omega,h.2⟩
    |ask i j k Y=>exact λ h=>⟨h.1,h.2.1,Y _ h.2.2⟩
   exact mono _ Y
def cb4 (n:Nat) (r:Nat->Nat) (z:Array Nat×Nat×Nat):Prop:=OkP n z.1/\1<=z.2.1/\z.2.1<=n/\z.2.2+1<=z.2.1/\cb5 r z.1 z.2.1/\Eqs r z.1 (z.2.1-(z.2.2+1)) z.2.1
theorem ag6:∀ f (p:Array Nat) m q,OkP n p->q+1<=m->m+f<=n->cb5 r p m->Eqs r p (m-(q+1)) m->WpT (ltR r) n (cb4 n r) (kas_desc f p m q)
 |0,p,m,q,hp,h1,h2,h3,h4=>⟨hp,(show 1<=m by omega),(show m<=n by omega),h1,h3,h4⟩
 |f+1,p,m,q,hp,h1,h2,h3,h4=>by
  have sz:=hp.size;have one:∀ O:Array Nat,Eqs r O (m+1-(0+1)) (m+1):=λ O i a b=>by rw[show i=m+1-1 by omega]
  have more:∀ O:Array Nat,(∀ k,KP r O k=KP r p k)->KP r p m<=KP r p (m-1)->cb5 r O (m+1):=λ O e c i j Y hj=>by
   rw[e,e];by_cases z:j<m
   ·exact h3 i j Y z
   ·have:j=m:=by omega
    subst this;by_cases w:i=j
    ·subst w;exact qr _
    ·exact z0 c (h3 i (j-1) (by omega) (by omega))
  refine⟨hp.lt (by omega) _,hp.lt (by omega) _,?_⟩;by_cases c:KP r p m<KP r p (m-1)
  ·rw[show ltR r (p.getD m 0) (p.getD (m-1) 0)=true from zu c];dsimp only;rw[if_pos rfl];split
   ·have e:=W_5 (r:=r) (p:=p) (i:=m-(q+1)) (j:=m) (by omega) h4;exact ag6 f _ (m+1) 0 (hp.rev _ _) (by omega) (by omega) (more _ e (yy c)) (one _)
   ·exact ag6 f p (m+1) 0 hp (by omega) (by omega) (more p (λ _=>rfl) (yy c)) (one _)
  ·rw[show ltR r (p.getD m 0) (p.getD (m-1) 0)=false from zn c];dsimp only;rw[if_neg zc];refine⟨hp.lt (by omega) _,hp.lt (by omega) _,?_⟩;by_cases d:KP r p (m-1)<KP r p m
   ·rw[show ltR r (p.getD (m-1) 0) (p.getD m 0)=true from zu d];dsimp only;rw[if_pos rfl];exact⟨hp,(show 1<=m by omega),(show m<=n by omega),h1,h3,h4⟩
   ·rw[show ltR r (p.getD (m-1) 0) (p.getD m 0)=false from zn d];dsimp only;rw[if_neg zc];have Z:KP r p m=KP r p (m-1):=by omega
    refine ag6 f p (m+1) (q+1) hp (by omega) (by omega) (more p (λ _=>rfl) (by omega)) λ i a b=>?_;rw[show m+1-1=m by omega];by_cases z:i<m
    ·rw[h4 i (by omega) z,Z]
    ·rw[show i=m by omega]
def bE3 (n:Nat) (r:Nat->Nat) (z:Nat×Array Nat):Prop:=OkP n z.2/\1<=z.1/\z.1<=n/\aq3 r z.2 z.1
theorem au3 {p:Array Nat}{m:Nat} (hp:OkP n p) (h1:1<=m) (h2:m<=n) (Z:cb5 r p m):WpT (ltR r) n (bE3 n r) (kas_tail3 m n p):=by
 have sz:=hp.size;have O:aq3 r (kas_rev p 0 m) m:=λ i j Y hj=>by
  rw[aS3 (by omega),aS3 (by omega),if_pos ⟨by omega,by omega⟩,if_pos ⟨by omega,by omega⟩];exact Z _ _ (by omega) (by omega)
 refine WpT.bind (λ a h=>?_) _ (aS0 (hp.rev 0 m) (n-m) m h1 (by omega) O);obtain⟨g1,g2,g3,_⟩:=h;exact⟨hp.rev _ _,(show 1<=a by omega),(show a<=n by omega),g3⟩
theorem T_8 {p:Array Nat}{m:Nat} (hp:OkP n p) (h2:m+1<=n) (h3:cb5 r p (m+1)):WpT (ltR r) n (bE3 n r) (kas_descPart m n p):=by
 refine WpT.bind (λ z h=>?_) _ (ag6 (n-(m+1)) p (m+1) 0 hp (by omega) (by omega) h3 λ i a b=>by rw[show i=m+1-1 by omega]);obtain⟨g1,g2,g3,g4,Y,Z⟩:=h;have sz:=g1.size;split
 ·have e:=W_5 (r:=r) (p:=z.1) (i:=z.2.1-(z.2.2+1)) (j:=z.2.1) (by omega) Z;exact au3 (g1.rev _ _) g2 g3 λ i j O hj=>by rw[e,e];exact Y i j O hj
 ·exact au3 g1 g2 g3 Y
theorem bc6 {p:Array Nat} (hn:1<=n) (hp:OkP n p):WpT (ltR r) n (bE3 n r) (kas_count n p):=by
 have sz:=hp.size;refine WpT.bind (λ m h=>?_) _ (aS0 (r:=r) hp (n-1) 1 (qr _) (by omega) λ i j O Z=>by rw[show i=j by omega];exact qr _);obtain⟨g1,g2,g3,g4⟩:=h;by_cases e:m=n
 ·rw[if_pos (by rw[e];exact jo _)];exact⟨hp,g1,by omega,g3⟩
 ·rw[if_neg (by simpa using e)];have c:=g4 (by omega);split
  ·refine⟨hp.lt (by omega) _,hp.lt (by omega) _,?_⟩;by_cases d:KP r p 0<KP r p (m-1)
   ·rw[show ltR r (p.getD 0 0) (p.getD (m-1) 0)=true from zu d];dsimp only;rw[if_pos rfl];exact⟨hp,g1,by omega,g3⟩
   ·rw[show ltR r (p.getD 0 0) (p.getD (m-1) 0)=false from zn d];dsimp only;rw[if_neg zc];have all:Eqs r p 0 m:=λ i _ b=>by
     have a1:=g3 0 i (zx _) b;have a2:=g3 i (m-1) (by omega) (by omega);omega
    have Y:=W_5 (r:=r) (p:=p) (i:=0) (j:=m) (by omega) all;refine T_8 (hp.rev _ _) (by omega) λ i j O Z=>?_;rw[Y,Y];by_cases z:j<m
    ·rw[all i (zx _) (by omega),all j (zx _) z];exact qr _
    ·have:j=m:=by omega
     subst this;by_cases w:i<j
     ·rw[all i (zx _) w];exact yy c
     ·rw[show i=j by omega];exact qr _
  ·have:m=1:=by omega
   subst this;refine T_8 hp (by omega) λ i j O Z=>?_;by_cases z:i=j
   ·rw[z];exact qr _
   ·rw[show i=0 by omega,show j=1 by omega];exact yy c
theorem ad6 {p:Array Nat}{k:Nat} (hp:OkP n p) (hk:k<n) (h:aq3 r p k):∀ f l q,l<=q->q<=k->q<=l+f->(∀ i,i<l->KP r p i<=KP r p k)->(∀ i,q<=i->i<k->KP r p k<KP r p i) ->
  WpT (ltR r) n (λ l=>l<=k/\(∀ i,i<l->KP r p i<=KP r p k)/\∀ i,l<=i->i<k->KP r p k<KP r p i) (kas_place p k f l q)
 |0,l,q,h1,h2,h3,h4,h5=>⟨by omega,h4,λ i a b=>h5 i (by omega) b⟩
 |f+1,l,q,h1,h2,h3,h4,h5=>by
  unfold kas_place;split
  ·exact⟨by omega,h4,λ i a b=>h5 i (by omega) b⟩
  ·refine⟨hp.lt (by omega) _,hp.lt (by omega) _,?_⟩;by_cases c:KP r p k<KP r p ((l+q) / 2)
   ·rw[show ltR r (p.getD k 0) (p.getD ((l+q) / 2) 0)=true from zu c];dsimp only;rw[if_pos rfl];exact ad6 hp hk h f l ((l+q) / 2) (by omega) (by omega) (by omega) h4 λ i a b=>qx c (h _ i a b)
   ·rw[show ltR r (p.getD k 0) (p.getD ((l+q) / 2) 0)=false from zn c];dsimp only;rw[if_neg zc];exact ad6 hp hk h f ((l+q) / 2+1) q (by omega) h2 (by omega) (λ i a=>z0 (h i ((l+q) / 2) (by omega) (by omega)) (jp c)) h5
theorem bm9:∀ f (p:Array Nat) k,OkP n p->k+f=n->aq3 r p k->WpT (ltR r) n (λ p=>OkP n p/\aq3 r p n) (kas_bin f p k)
 |0,p,k,hp,h1,h2=>⟨hp,by rw[show n=k by omega];exact h2⟩
 |f+1,p,k,hp,h1,h2=>by
  have sz:=hp.size;refine WpT.bind (λ l h=>?_) _ (ad6 hp (by omega) h2 k 0 k (zx _) (qr _) (by omega) (λ i z=>absurd z (Nat.not_lt_zero _)) λ i a b=>absurd b (by omega));obtain⟨g1,g2,g3⟩:=h;refine bm9 f _ (k+1) (hp.bub _ _) (by omega) λ i j Y hj=>?_;have bi:=bp9 (r:=r) (p:=p) (k:=k) (d:=k-l) (by omega) (by omega) i;have Z:=bp9 (r:=r) (p:=p) (k:=k) (d:=k-l) (by omega) (by omega) j;rw[show k-(k-l)=l by omega] at bi Z;rw[bi,Z];by_cases i1:i=l
  ·rw[if_pos i1];by_cases O:j=l
   ·rw[if_pos O];exact qr _
   ·rw[if_neg O,if_pos ⟨by omega,by omega⟩];exact yy (g3 (j-1) (by omega) (by omega))
  ·rw[if_neg i1];by_cases i2:l<i/\i<=k
   ·rw[if_pos i2,if_neg (by omega),if_pos ⟨by omega,by omega⟩];exact h2 _ _ (by omega) (by omega)
   ·rw[if_neg i2];by_cases O:j=l
    ·rw[if_pos O];exact g2 i (by omega)
    ·rw[if_neg O];by_cases j2:l<j/\j<=k
     ·rw[if_pos j2];exact h2 _ _ (by omega) (by omega)
     ·rw[if_neg j2];exact h2 _ _ Y (by omega)
theorem an9:OkP n (List.toArray (List.range n)):=⟨by simp,by simp⟩
theorem bt1 (h2:1<=n):WpT (ltR r) n (λ p=>OkP n p/\aq3 r p n) (kas_sort n):=by
 refine WpT.bind (λ z h=>?_) _ (bc6 h2 an9);obtain⟨g1,g2,g3,O⟩:=h;split
 ·rw[show max z.1 1=z.1 by omega];exact bm9 _ _ _ g1 (by omega) O
 ·exact⟨g1,by rw[show n=z.1 by omega];exact O⟩
end
end Fx
namespace Fx
open PySem PySem.Spec PyProof.Rows L2
noncomputable def bp8:D->Value->Prop
 |.int i,v=>∃ t,v=.int i t
 |.str a,v=>∃ t,v=.str a t
 |_,_=>False
inductive Flats:List D->List Value->Prop
 |nil:Flats [] []
 |cons {d:D}{u:Value}{ds:List D}{us:List Value} (h:bp8 d u) (r:Flats ds us):Flats (d::ds) (u::us)
theorem Flats.length {ds:List D}{us:List Value} (h:Flats ds us):ds.length=us.length:=by
 induction h with
 |nil=>rfl
 |cons _ _ O=>simp[O]
theorem ao7 (A:Around) (s:Shared) {d e:D}{u v:Value} (h:O_8 d e=true) (Y:bp8 d u) (O:bp8 e v):SeqAt.EqAt A s u v (eqD d e):=by
 cases d with
 |int i =>
  cases e with
  |int j =>
   obtain⟨t,rfl⟩:=Y;obtain⟨w,rfl⟩:=O;rw[show eqD (.int i) (.int j)=(i==j) by rw[eqD]];exact SeqAt.EqAt.int_int i t j w
  |_=>cases h
 |str a =>
  cases e with
  |str b =>
   obtain⟨t,rfl⟩:=Y;obtain⟨w,rfl⟩:=O;rw[show eqD (.str a) (.str b)=(a==b) by rw[eqD]];exact SeqAt.EqAt.str_str a t b w
  |_=>cases h
 |_=>cases h
theorem ak8 (A:Around) (s:Shared) {d e:D}{u v:Value} (h:O_8 d e=true) (Z:bp8 d u) (Y:bp8 e v) (prog:Program) (w:World) (E:Value->Shared->Prop) (Q:Value->Shared->Prop) (q:Q (.bool (ltF d e)) s) :
  wpAny (model prog w) A (richCompare .Lt u v) Q E s:=by
 cases d with
 |int i =>
  cases e with
  |int j =>
   obtain⟨t,rfl⟩:=Z;obtain⟨O,rfl⟩:=Y;exact (PyProof.Rows.lt_int q:wpAny (model prog w) A (compareOp .Lt (.int i t) (.int j O)) Q E s)
  |_=>cases h
 |str a =>
  cases e with
  |str b =>
   obtain⟨t,rfl⟩:=Z;obtain⟨O,rfl⟩:=Y;exact (PyProof.Rows.lt_str (by simpa [ltF] using q):wpAny (model prog w) A (compareOp .Lt (.str a t) (.str b O)) Q E s)
  |_=>cases h
 |_=>cases h
section
open PySem.SeqAt
open PySem.AutoSeq1 (wpAny_loadPart')
open PySem.MeetsSeq PySem.MeetsSeq2 PySem.MeetsSeq3
theorem ac9 (l b:Addr) (items O:Array Value) (n n2:Nat) (dd ak:Option Addr) (sl aj:Array (Option Value)) (ds es:List D) (hi:Flats ds items.toList) (hj:Flats es O.toList) (hs:sameFs ds es=true) :
  Meets (Builtin.«tuple.__lt__» ⟨[.ref l,.ref b],[]⟩)
   (λ _ R s=>s.heap.get? l=some {cls:=.type "tuple",dict:=dd,data:=.seq items n,slots:=sl} ∧ s.heap.get? b=some {cls:=.type "tuple",dict:=ak,data:=.seq O n2,slots:=aj} ∧
    R (.ok (.ret (.bool (lexF ds es)))) s) :=
 .of_wp λ prog w A R s h=>by
  obtain⟨hp,g,d,tk,os⟩:=s;obtain⟨hl,hb,h⟩:=h;have f2:=AutoSeq1.sub_tuple_tuple;have z1:items.size=ds.length:=by rw[hi.length];simp
  have z2:O.size=es.length:=by rw[hj.length];simp
  have z3:=(E_1 hs).1;wp_walk using wpAny_loadPart' hl,wpAny_loadPart' hb,wpAny_forIn_list _ (λ rest b s'=>b.1=none/\s'=⟨hp,g,d,tk,os⟩/\∃ (vs ws:List Value) (Z aa:List D),rest=vs.zip ws /\
   Flats Z vs/\Flats aa ws/\sameFs Z aa=true/\R (.ok (.ret (.bool (lexF Z aa)))) ⟨hp,g,d,tk,os⟩) _
  case turn =>
   rintro ⟨y,x⟩ rest b s' ⟨ac,rfl,vs,ws,Z,aa,hz,ad,ae,Y,hR⟩;cases ad with
   |nil=>rw[List.zip_nil_left] at hz;cases hz
   |@cons dx ux am an hd ag =>
    cases ae with
    |nil=>rw[List.zip_nil_right] at hz;cases hz
    |@cons ex vx ao al af ah =>
     rw[Qo] at hz;injection hz with hyx hrest
     injection hyx with hy hx
     subst hy hx;unfold sameFs at Y;rw[zj] at Y;unfold lexF at hR;refine qj (ao7 A.in1 ⟨hp,g,d,tk,os⟩ Y.1 hd af prog w _ _ ?_);cases hq:eqD dx ex with
     |true =>
      rw[hq,if_pos rfl] at hR;wp_walk;exact⟨rfl,rfl,_,_,_,_,hrest,ag,ah,Y.2,hR⟩
     |false =>
      rw[hq,if_neg zc] at hR;have ai:=ak8 A.in1 ⟨hp,g,d,tk,os⟩ Y.1 hd af prog w;wp_walk using ai;exact⟨_,rfl,by simpa using hR⟩
  case fin =>
   rintro ⟨b1,b2⟩ s' ⟨ac,rfl,vs,ws,Z,aa,hz,ad,ae,Y,hR⟩;simp only at ac;subst ac;have hv:lexF Z aa=decide (items.size<O.size):=by
    rw[zn (by omega)];cases ad with
    |nil=>unfold lexF;rfl
    |cons a hv =>
     cases ae with
     |nil=>unfold lexF;rfl
     |cons c hw=>rw[Qo] at hz;cases hz
   rw[hv] at hR;wp_walk;exact⟨_,rfl,by simpa [Builtin.Tuple.tupleCompareSizes] using hR⟩
  case h =>
   exact⟨rfl,rfl,items.toList,O.toList,ds,es,rfl,hi,hj,hs,h⟩
end
theorem lt_tupFlat {prog:Program}{w:World}{A:Around}{E:Value->Shared->Prop}{s:Shared}{l b:Addr}{items O:Array Value}{ds es:List D}{Q:Value->Shared->Prop} (hl:IsTup s.heap l items) (hb:IsTup s.heap b O) (hi:Flats ds items.toList) (hj:Flats es O.toList) (hs:sameFs ds es=true)
  (hu:A.units<cLine) (h:Q (.bool (lexF ds es)) s):wpAny (model prog w) A (compareOp .Lt (.ref l) (.ref b)) Q E s:=by
 obtain⟨⟨cls,dd,data,sl⟩,ho,hc,n,hd⟩:=id hl;obtain⟨⟨af,ae,ad,ac⟩,Y,aa,n2,Z⟩:=id hb;simp only at hc hd aa Z;subst hc hd aa Z;exact richCompare_meets_room (op:=.Lt) ⟨_,ho,rfl⟩ ⟨_,Y,rfl⟩ PySem.F.slot_tuple_lt PySem.F.entry_tuple_lt (PySem.F.args_tuple_lt_2 _ _) (ac9 l b items O n n2 dd ae sl ac ds es hi hj hs)
  ⟨ho,Y,show Value.bool (lexF ds es)≠Value.notImplemented/\Q (.bool (lexF ds es)) s from ⟨(λ x=>nomatch x),h⟩⟩ hu
end Fx
namespace Fx
open PySem PySem.W PySem.Spec PyProof.Rows
section
variable {prog:Program}{w:World}{A:Around}{E:Value->Shared->Prop}{s:Shared}
structure Asks (prog:Program) (w:World) (A:Around) (s:Shared) (a:Addr) (vs:List Value) (κ:SortKind) (r:Nat->Nat):Prop where
 kind:2<=vs.length->∀ h',(∀ b o,b≠a->s.heap.get? b=some o->h'.get? b=some o)->∀ Q:SortKind->Shared->Prop,Q κ {s with heap:=h'}->wpAny (model prog w) A (keyKind' vs.toArray) Q (λ _ _=>False) {s with heap:=h'}
 ask:∀ h',(∀ b o,b≠a->s.heap.get? b=some o->h'.get? b=some o)->∀ i j,i<vs.length->j<vs.length->∀ C:Bool->Shared->Prop,C (ltR r i j) {s with heap:=h'}->kas_ask prog w A κ vs i j C {s with heap:=h'}
theorem aD0 (vs:List Value):(List.range vs.length).map (λ i=>vs.getD i Value.none)=vs:=by
 refine Ym (by simp) λ i h1 h2=>?_;simp[h2]
theorem X_8 {a:Addr}{vs:List Value}{n:Nat}{κ:SortKind}{r:Nat → Nat}{P:PySem.Fin → Shared → Prop} (ho:s.heap.get? a=some (seqObj "list" vs.toArray n)) (af:vs.length<64) (k:Asks prog w A s a vs κ r)
  (fin:∀ p:Array Nat,OkP vs.length p->aq3 r p vs.length->P (.done (.ret .none)) {s with heap:=sortedHeap s.heap a vs (p.toList.map λ i=>vs.getD i Value.none).toArray}) :
  wpAny (model prog w) A (Builtin.«list.sort» ⟨[.ref a],[]⟩) P E s:=by
 rw[list_sort_plain];have ha:a<s.heap.objs.size:=qv ho;have big:(64:Nat)<=sizeLine:=by decide
 have hsz:vs.toArray.size=vs.length:=by simp
 refine qj (listItems_at ho rfl ?_);refine qj (listUpdate_at ho rfl ?_ (by omega) (zx _));obtain⟨e1,ac⟩:∃ e1,(s.heap.update a (Obj.mapSeq λ _=>#[])).get? a=some (seqObj "list" #[] e1):=⟨_,get?_update_seq ho (λ _=>#[])⟩;refine qj (seqEpoch_at ac rfl ?_);refine qj (wpAny_newTuple ?_ (show vs.length<=_ by omega));refine qj (Z8 ?_ (zx _));refine yg ?_;have up:∀ b o,b<s.heap.objs.size → (s.heap.update a (Obj.mapSeq λ _=>#[])).get? b=some o → (((s.heap.update a (Obj.mapSeq λ _=>#[])).push (seqObj "tuple" vs.toArray 0)).push (seqObj "list" #[] 0)).get? b=some o:=λ b o hb q=>ql _ (ql _ q);have ad:=up a _ ha ac;have keep:∀ b o,b≠a → s.heap.get? b=some o → (((s.heap.update a (Obj.mapSeq λ _=>#[])).push (seqObj "tuple" vs.toArray 0)).push (seqObj "list" #[] 0)).get? b=some o:=λ b o hb q =>
  up b o (qv q) (by rw[Z7 _ _ _ _ hb];exact q)
 show wpAny (model prog w) A _ P E {s with heap:=((s.heap.update a (Obj.mapSeq λ _=>#[])).push (seqObj "tuple" vs.toArray 0)).push (seqObj "list" #[] 0)};dsimp only;have aa:∀ (p:Array Nat) (st:SortSt),OkP vs.length p->aq3 r p vs.length->(arrOf st).map (·.2)=(p.toList.map λ i=>vs.getD i Value.none).toArray->failedOf st=none->wpAny (model prog w) A (do
   let Y:=(<- seqEpoch a) != e1
   Builtin.List.listUpdate (.ref a) λ _=>(arrOf st).map (·.2)
   if let some e:=failedOf st then rule "list.sort.comparison-raised";throw e
   if Y then rule "list.sort.modified";raiseError "ValueError" "list modified during sort"
   ret .none) P E {s with heap:=((s.heap.update a (Obj.mapSeq λ _=>#[])).push (seqObj "tuple" vs.toArray 0)).push (seqObj "list" #[] 0)}:=λ p st op mo ar fa=>by
  refine qj (seqEpoch_at ad rfl ?_);rw[ar];have z:(p.toList.map λ i=>vs.getD i Value.none).toArray.size=vs.length:=by rw[zf,zd,yd,op.size]
  refine qj (listUpdate_at ad rfl ?_ (zx _) (by rw[z];omega));rw[fa];simp only[bne_self_eq_false,Bool.false_eq_true,if_false];exact qk (fin p op mo)
 by_cases h2:vs.toArray.size<2
 ·rw[if_pos h2,if_pos h2];refine qj (qk ?_);rw[StateT.run_pure];refine qj (qk ?_);refine aa (List.toArray (List.range vs.length)) _ an9 (λ i j ag hj=>by rw[show i=j by omega];exact qr _) ?_ rfl;show ((vs.toArray.zip vs.toArray).map (·.2))=_;rw[show (List.toArray (List.range vs.length)).toList=List.range vs.length from rfl,aD0];apply Array.toList_inj.mp;rw[Array.toList_map];simp[Zj]
 ·rw[if_neg h2,if_neg h2];refine qj (zv (k.kind (by omega) _ keep (λ ae s'=>ae=κ ∧ s'={s with heap:=((s.heap.update a (Obj.mapSeq λ _=>#[])).push (seqObj "tuple" vs.toArray 0)).push (seqObj "list" #[] 0)}) ⟨rfl,rfl⟩) (λ ae s' hk=>?_) λ _ _ x=>x.elim);obtain⟨rfl,rfl⟩:=hk;refine qj (zv (kat_run (Q:=λ Z s'=>s'={s with heap:=((s.heap.update a (Obj.mapSeq λ _=>#[])).push (seqObj "tuple" vs.toArray 0)).push (seqObj "list" #[] 0)} ∧ ∃ p:Array Nat,OkP vs.length p ∧ aq3 r p vs.length ∧ arrOf Z=p.map (kas_item (vs.toArray.zip vs.toArray)) ∧ failedOf Z=none)
   (G:=λ p s'=>s'={s with heap:=((s.heap.update a (Obj.mapSeq λ _=>#[])).push (seqObj "tuple" vs.toArray 0)).push (seqObj "list" #[] 0)} ∧ OkP vs.length p ∧ aq3 r p vs.length) rfl (by omega) af (λ p Z s' _ a2 a3 a4=>⟨a4.1,p,a4.2.1,a4.2.2,a2,a3⟩)
   (WpT.run (lt:=ltR r) (n:=vs.length) (J:=λ s'=>s'={s with heap:=((s.heap.update a (Obj.mapSeq λ _=>#[])).push (seqObj "tuple" vs.toArray 0)).push (seqObj "list" #[] 0)}) (λ i j C s' hi hj O hC=>?_) (λ p s' hp O=>⟨O,hp.1,hp.2⟩) _ _ (bt1 (by omega)) rfl)) ?_ λ _ _ e=>e)
  ·subst O;exact k.ask _ keep i j hi hj C (hC _ rfl)
  ·rintro ⟨⟨⟩,Z⟩ s' ⟨O,p,h1,h3,h4,h5⟩;dsimp only at O h4 h5;subst O;exact aa p Z h1 h3 (kat_snds rfl h4) h5
theorem aq5 {it:Addr}{ob:Obj}{n:Nat}{us:List Value}{κ:SortKind}{Q:Value → Shared → Prop}{r:Nat → Nat} (ho:s.heap.get? it=some ob) (hc:ob.cls=.type "list") (hd:ob.data=.seq us.toArray n) (Y:us.length<64)
  (k:∀ (h1:Heap) (a:Addr),(∀ b o,s.heap.get? b=some o->h1.get? b=some o)->s.heap.get? a=none->Asks prog w A.in1.in1 {s with heap:=h1} a us κ r)
  (fin:∀ (h1 h2:Heap) (p:Array Nat) (e:Nat),OkP us.length p → aq3 r p us.length → (∀ b o',s.heap.get? b=some o' → h1.get? b=some o') → (∀ b o',h1.get? b=some o' → h2.get? b=some o') → h2.get? h1.objs.size=some (seqObj "list" (p.toList.map λ i=>us.getD i Value.none).toArray e) → Q (.ref h1.objs.size) {s with heap:=h2}) :
  wpAny (model prog w) A (call (.builtin "sorted") [.ref it]) Q E s:=by
 refine Calls.call_function_entry kind_sorted plain_sorted entry_sorted (args_sorted1 _) ?_;unfold Builtin.«sorted»;refine qj (m:=checkCount "sorted" 1 1 _) (qk ?_);have hz:us.toArray.size<=sizeLine:=by rw[zf,Z0];omega
 refine qj (wpAny_collect_seq it (.inl rfl) ho hc hd (λ h1 kp=>?_) hz);refine qj (Z8 ?_);have O:(h1.push (seqObj "list" us.toArray 0)).get? h1.objs.size=some (seqObj "list" us.toArray 0):=qt _ rfl;have Z:∀ b o,s.heap.get? b=some o → (h1.push (seqObj "list" us.toArray 0)).get? b=some o:=λ b o q=>ql _ (kp b o q);have new:s.heap.get? h1.objs.size=none:=by
  cases q:s.heap.get? h1.objs.size with
  |none=>rfl
  |some o=>exact absurd (qv (kp _ o q)) (yk _)
 refine qj (yg (jl slot_list_sort ⟨_,O,rfl⟩ entry_list_sort (X_8 (s:={s with heap:=h1.push (seqObj "list" us.toArray 0)}) O Y (k _ _ Z new) λ p op mo=>⟨_,rfl,?_⟩) (args_list_sort _)));obtain⟨e,he⟩:=sortedHeap_at (out:=(p.toList.map λ i=>us.getD i Value.none).toArray) O;refine qk ⟨_,rfl,fin h1 _ p e op mo kp (λ b o' hb=>?_) he⟩;have lt:b<h1.objs.size:=qv hb;show (sortedHeap (h1.push (seqObj "list" us.toArray 0)) h1.objs.size us (p.toList.map λ i=>us.getD i Value.none).toArray).get? b=some o';rw[sortedHeap_old (Ye lt) (by rw[size_push'];exact Yf lt)];exact ql _ hb
end
end Fx
namespace Fx
open PySem PySem.W PySem.Spec PyProof.Rows L2
section
variable {prog:Program}{w:World}{A:Around}{E:Value->Shared->Prop}{s:Shared}{b:Bool}{Q:Bool->Shared->Prop}
theorem af3 {p q:Value}{r:List (Value×Value)}{i:Nat}{e l:Bool}{fin:Bool} (Y:SeqAt.EqAt A s p q e) (hL:∀ O:Bool->Shared->Prop,O l s->wpAny (model prog w) A (oneLt' (b&&i==0) p q) O (λ _ _=>False) s)
  (h1:e=true->KatLex prog w A b fin Q r (i+1) s) (h2:e=false->Q l s):KatLex prog w A b fin Q ((p,q)::r) i s :=
 kat_cons (Y prog w _ _ (kat_go (λ z=>kat_yes (h1 z)) λ z=>kat_no (hL Q (h2 z))))
theorem aA6 (c:Bool) {d e:D}{u v:Value} (h:O_8 d e=true) (O:bp8 d u) (Y:bp8 e v) (Z:Bool->Shared->Prop) (q:Z (ltF d e) s):wpAny (model prog w) A (oneLt' c u v) Z E s:=by
 cases c with
 |false=>exact kat_one u v (ak8 A s h O Y prog w E _ q)
 |true =>
  cases d with
  |int i =>
   cases e with
   |int j=>obtain⟨t,rfl⟩:=O;obtain⟨w',rfl⟩:=Y;exact oneLt_int q
   |_=>cases h
  |str a =>
   cases e with
   |str b=>obtain⟨t,rfl⟩:=O;obtain⟨w',rfl⟩:=Y;exact oneLt_str q
   |_=>cases h
  |_=>cases h
theorem T_7:∀ (ds es:List D) {us vs:List Value}{i:Nat},sameFs ds es=true->Flats ds us->Flats es vs->Q (lexF ds es) s->KatLex prog w A b false Q (us.zip vs) i s
 |[],[],_,_,i,h,f1,f2,q=>by
  cases f1;cases f2;unfold lexF at q;exact kat_nil q
 |[],_::_,_,_,i,h,_,_,q=>by cases h
 |_::_,[],_,_,i,h,_,_,q=>by cases h
 |d::ds,e::es,_,_,i,h,f1,f2,q=>by
  cases f1 with
  |cons a r =>
   cases f2 with
   |cons O Y =>
    unfold sameFs at h;rw[zj] at h;unfold lexF at q;rw[Qo];refine af3 (ao7 A s h.1 a O) (λ Z=>aA6 _ h.1 a O Z) (λ z=>?_) λ z=>?_
    ·rw[if_pos z] at q;exact T_7 ds es h.2 r Y q
    ·rw[if_neg (by rw[z];exact zc)] at q;exact q
end
theorem bp6:∀ {a c:Ky}{x y:Ky},a.length=c.length->(a++x<c++y↔a<c\/(a=c/\x<y))
 |[],[],x,y,_=>by simp
 |[],_::_,_,_,h=>by cases h
 |_::_,[],_,_,h=>by cases h
 |k::a,l::c,x,y,h=>by
  rw[jr,jr,yr,yr,bp6 (by simpa using h)];constructor
  ·rintro (z | ⟨rfl,z | ⟨rfl,z⟩⟩)
   ·exact .inl (.inl z)
   ·exact .inl (.inr ⟨rfl,z⟩)
   ·exact .inr ⟨rfl,z⟩
  ·rintro ((z | ⟨rfl,z⟩) | ⟨z,O⟩)
   ·exact .inl z
   ·exact .inr ⟨rfl,.inl z⟩
   ·injection z with z3 z4;subst z3 z4;exact .inr ⟨rfl,.inr ⟨rfl,O⟩⟩
theorem F_6 (xs:List D):fK (.tup xs)=fKs xs:=by rw[fK]
theorem aO1:fKs []=[]:=by rw[fKs]
theorem O_7:∀ {ds es:List D},sameFs ds es=true->(R_0 ds es=true↔ds=es)
 |[],[],_=>by simp
 |[],_::_,h=>by cases h
 |_::_,[],h=>by cases h
 |d::r,e::t,h=>by
  unfold sameFs at h;rw[zj] at h;have q:=(O_4 h.1).1;have O:=O_7 h.2;rw[show R_0 (d::r) (e::t)=(eqD d e&&R_0 r t) by simp[R_0],zj,q,O];simp
theorem bH9 {O Y b1 Z:List D} (h1:sameFs O b1=true) (h2:sameFs Y Z=true):(if eqD (.tup O) (.tup b1)=true then (if eqD (.tup Y) (.tup Z)=true then false else lexF Y Z) else lexF O b1)=decide (fK (.tup [.tup O,.tup Y])<fK (.tup [.tup b1,.tup Z])):=by
 have e:∀ x y:List D,fK (.tup [.tup x,.tup y])=fKs x++fKs y:=λ x y=>by rw[F_6,q_5,q_5,F_6,F_6,aO1,zw]
 rw[e,e,ag2 h1,ag2 h2,ae1,ae1];have l:=bp6 (a:=fKs O) (c:=fKs b1) (x:=fKs Y) (y:=fKs Z) (E_1 h1).2;by_cases z:R_0 O b1=true
 ·rw[if_pos z];have z':=(O_7 h1).mp z;subst z';have l2:(fKs O++fKs Y<fKs O++fKs Z)↔fKs Y<fKs Z:=by rw[l];exact⟨λ y=>y.elim (λ y=>absurd y (Qc _)) (·.2),λ y=>.inr ⟨rfl,y⟩⟩
  by_cases z2:R_0 Y Z=true
  ·rw[if_pos z2];have aa:=(O_7 h2).mp z2;subst aa;exact (zn (Qc _)).symm
  ·rw[if_neg z2];exact decide_eq_decide.mpr l2.symm
 ·rw[if_neg z];refine decide_eq_decide.mpr ?_;rw[l];exact⟨.inl,λ y=>y.elim id λ y=>absurd ((O_7 h1).mpr ((x_3 h1).mp y.1)) z⟩
theorem aA5 {d:D} (h:r3 d=true):∃ i a j,d=.tup [.int i,.str a,.int j]:=match d,h with |.tup [.int _,.str _,.int _],_=>⟨_,_,_,rfl⟩
theorem al3 {d:D} (h:r22 d=true):∃ a i j k,d=.tup [.tup [.str a,.int i],.tup [.int j,.int k]]:=match d,h with |.tup [.tup [.str _,.int _],.tup [.int _,.int _]],_=>⟨_,_,_,_,rfl⟩
section
variable {X:Cx}{pins:List (Addr×Obj)}{σ:L2.St}{H:Hp}{s:Shared}
theorem J_7 {K:Frag}:∀ {ds:List D}{vs:List V}{us:List Value},(∀ d∈ds,∃ e,O_8 d e=true)->Reps K H ds vs->Vals vs us->Flats ds us
 |[],vs,us,_,r,v=>by unfold Reps at r;subst r;cases v;exact .nil
 |d::ds,vs,us,h,r,v=>by
  unfold Reps at r;obtain⟨x,vr,rfl,O,r2⟩:=r;cases v with
  |cons Z vx =>
   refine .cons ?_ (J_7 (λ e Y=>h e (qo _ Y)) r2 vx);obtain⟨e,Y⟩:=h d qm;cases d with
   |int i=>unfold Rep at O;subst O;exact Z
   |str a=>unfold Rep at O;subst O;exact Z
   |_=>cases e <;> cases Y
theorem M_3 (I:Inv X pins σ H s) {ds:List D}{v:V}{u:Value} (r:Rep X.K H (.tup ds) v) (ru:RelV v u):∃ a Y O,u=.ref a/\IsTup s.heap a (List.toArray O)/\Reps X.K H ds Y/\Vals Y O:=by unfold Rep at r;obtain⟨a,Y,rfl,sq,rr⟩:=r;obtain⟨O,rv,Z,_⟩:=I.tuple sq;exact⟨a,Y,O,ru,Z,rr,rv⟩
theorem E_2 {K:Frag}:∀ {ds:List D}{vs:List V}{us:List Value}{i:Nat},Reps K H ds vs->Vals vs us->i<ds.length->∃ v,Rep K H (ds.getD i .non) v/\RelV v (us.getD i Value.none)
 |[],_,_,_,_,_,h=>by cases h
 |d::ds,vs,us,i,r,v,h=>by
  unfold Reps at r;obtain⟨x,vr,rfl,O,Z⟩:=r;cases v with
  |cons Y vx =>
   cases i with
   |zero=>exact⟨x,O,Y⟩
   |succ i=>exact E_2 (i:=i) Z vx (by simpa using h)
theorem ak7 {K:Frag}{ds:List D}{vs:List V}{us:List Value} (r:Reps K H ds vs) (v:Vals vs us):∀ {is:List Nat},(∀ i∈is,i<ds.length)->∃ O,Reps K H (is.map λ i=>ds.getD i .non) O/\Vals O (is.map λ i=>us.getD i Value.none)
 |[],_=>⟨[],by unfold Reps;rfl,.nil⟩
 |i::is,h=>by
  obtain⟨x,Y,r2⟩:=E_2 r v (h i qm);obtain⟨O,r3,Z⟩:=ak7 r v (is:=is) λ j hj=>h j (qo _ hj);exact⟨x::O,Reps.cons Y r3,.cons r2 Z⟩
end
section
variable {X:Cx}{pins:List (Addr×Obj)}{σ:L2.St}{H:Hp}{s:Shared}
theorem cz1 {A:Around}{b:Bool}{Q:Bool->Shared->Prop}{E:Value->Shared->Prop} (I:Inv X pins σ H s) {d e:D} (hd:r3 d=true) (he:r3 e=true) {x y:V}{u v:Value} (r1:Rep X.K H d x) (v1:RelV x u) (r2:Rep X.K H e y) (v2:RelV y v)
  (q:Q (decide (fK d<fK e)) s):wpAny (model X.prog X.w) A (keyLt' (tuples' b) u v) Q E s:=by
 obtain⟨i,a,j,rfl⟩:=aA5 hd;obtain⟨i',a',j',rfl⟩:=aA5 he;obtain⟨p1,ws,Z,rfl,⟨o,ho,hc,n,ac⟩,rr,rv⟩:=M_3 I r1 v1;obtain⟨p2,ae,its',rfl,⟨o',Y,af,n',O⟩,aa,ad⟩:=M_3 I r2 v2;have sm:sameFs [.int i,.str a,.int j] [.int i',.str a',.int j']=true:=rfl;have fl:∀ (i:Int) (a:Str) (j:Int),∀ d∈[D.int i,.str a,.int j],∃ e,O_8 d e=true:=λ i a j d hd=>by
  simp only[zl,zg,yf] at hd;rcases hd with rfl | rfl | rfl
  ·exact⟨.int 0,rfl⟩
  ·exact⟨.str a,rfl⟩
  ·exact⟨.int 0,rfl⟩
 have f1:=J_7 (fl i a j) rr rv;have f2:=J_7 (fl i' a' j') aa ad;have l1:=f1.length;have l2:=f2.length;rw[F_6,F_6,<- ag2 sm] at q;refine kat_lt ho ac Y O ?_;rw[show decide ((List.toArray Z).size<(List.toArray its').size)=false from zn (by rw[zf,zf,<- l1,<- l2];exact yk _)];exact T_7 _ _ sm f1 f2 q
theorem cq2 {A:Around}{Q:Bool->Shared->Prop}{E:Value->Shared->Prop} (hA:A.units+8<cLine) (I:Inv X pins σ H s) {d e:D} (hd:r22 d=true) (he:r22 e=true) {x y:V}{u v:Value} (r1:Rep X.K H d x) (v1:RelV x u) (r2:Rep X.K H e y) (v2:RelV y v)
  (q:Q (decide (fK d<fK e)) s):wpAny (model X.prog X.w) A (keyLt' (tuples' false) u v) Q E s:=by
 obtain⟨a,i,j,k,rfl⟩:=al3 hd;obtain⟨a',i',j',k',rfl⟩:=al3 he;obtain⟨p1,ws,ah,rfl,⟨o,ho,hc,n,ag⟩,Z,rv⟩:=M_3 I r1 v1;obtain⟨p2,ai,its',rfl,⟨o',ad,aj,n',ac⟩,O,Y⟩:=M_3 I r2 v2;have s1:sameFs [.str a,.int i] [.str a',.int i']=true:=rfl;have s2:sameFs [.int j,.int k] [.int j',.int k']=true:=rfl;have fl:∀ (a:Str) (i:Int),∀ d∈[D.str a,.int i],∃ e,O_8 d e=true:=λ a i d hd=>by
  simp only[zl,zg,yf] at hd;rcases hd with rfl | rfl
  ·exact⟨.str a,rfl⟩
  ·exact⟨.int 0,rfl⟩
 have fm:∀ (j k:Int),∀ d∈[D.int j,.int k],∃ e,O_8 d e=true:=λ j k d hd=>by
  simp only[zl,zg,yf] at hd;rcases hd with rfl | rfl
  ·exact⟨.int 0,rfl⟩
  ·exact⟨.int 0,rfl⟩
 rw[<- bH9 s1 s2] at q;unfold Reps at Z O;obtain⟨x1,t1,rfl,q1,Z⟩:=Z;obtain⟨y1,t2,rfl,q2,O⟩:=O;unfold Reps at Z O;obtain⟨x2,t3,rfl,q3,Z⟩:=Z;obtain⟨y2,t4,rfl,q4,O⟩:=O;unfold Reps at Z O;subst Z O;cases rv with
 |cons c1 rv =>
  cases rv with
  |cons c2 rv =>
   cases rv;cases Y with
   |cons c3 Y =>
    cases Y with
    |cons c4 Y =>
     cases Y;rename_i u1 u2 w1 w2;have aa:=aB6 I 3;have E1:SeqAt.EqAt A s u1 w1 (eqD (.tup [.str a,.int i]) (.tup [.str a',.int i'])):=aa A _ _ x1 y1 u1 w1 (by simp) (by simp) (by simp) (by omega) q1 c1 q2 c3;have E2:SeqAt.EqAt A s u2 w2 (eqD (.tup [.int j,.int k]) (.tup [.int j',.int k'])):=aa A _ _ x2 y2 u2 w2 (by simp) (by simp) (by simp) (by omega) q3 c2 q4 c4;have T:∀ {ds es:List D}{x y:V}{u v:Value},sameFs ds es=true->(∀ d∈ds,∃ e,O_8 d e=true)->(∀ d∈es,∃ e,O_8 d e=true)->Rep X.K H (.tup ds) x->RelV x u->Rep X.K H (.tup es) y->RelV y v->∀ Q':Bool->Shared->Prop,Q' (lexF ds es) s->wpAny (model X.prog X.w) A (oneLt' false u v) Q' (λ _ _=>False) s:=λ {ds es x y u v} sm g1 g2 ra rb rc rd Q' q'=>by
      obtain⟨a1,_,i1,rfl,af,m1,m2⟩:=M_3 I ra rb;obtain⟨a2,_,i2,rfl,ae,m3,m4⟩:=M_3 I rc rd;exact kat_one _ _ (lt_tupFlat af ae (J_7 g1 m1 m2) (J_7 g2 m3 m4) sm (by omega) q')
     refine kat_lt ho ag ad ac (af3 E1 (λ Q'=>T s1 (fl a i) (fl a' i') q1 c1 q2 c3 Q') (λ z=>af3 E2 (λ Q'=>T s2 (fm j k) (fm j' k') q3 c2 q4 c4 Q') (λ z2=>kat_nil ?_) λ z2=>?_) λ z=>?_)
     ·rw[if_pos z,if_pos z2] at q;exact q
     ·rw[if_pos z,if_neg (by rw[z2];exact zc)] at q;exact q
     ·rw[if_neg (by rw[z];exact zc)] at q;exact q
theorem aN8 {T:Value} (I:Inv X pins σ H s):∀ {ds:List D}{vs:List V}{us:List Value},(∀ d∈ds,∃ e r,d=.tup (e::r)/\∀ (x:V) (u:Value),Rep X.K H e x->RelV x u->Looks (model X.prog X.w) s.heap (typeOf u) T)->Reps X.K H ds vs->Vals vs us ->
  ∃ fs:List Value,KatTups s.heap us fs/\fs.length=ds.length/\∀ v∈fs,Looks (model X.prog X.w) s.heap (typeOf v) T
 |[],vs,us,_,r,v=>by unfold Reps at r;subst r;cases v;exact⟨[],.nil,rfl,λ _ h=>by cases h⟩
 |d::ds,vs,us,h,r,v=>by
  unfold Reps at r;obtain⟨x,vr,rfl,r1,r2⟩:=r;cases v with
  |cons rx vx =>
   obtain⟨fs,k1,k2,k3⟩:=aN8 I (λ e Z=>h e (qo _ Z)) r2 vx;obtain⟨e,rr,rfl,hT⟩:=h d qm;obtain⟨a,ws,ac,rfl,⟨o,ho,hc,n,hd⟩,r3,v3⟩:=M_3 I r1 rx;unfold Reps at r3;obtain⟨x1,wr,rfl,Y,_⟩:=r3;cases v3 with
   |@cons _ u1 _ l1 O aa =>
    refine⟨u1::fs,.cons ho hc hd (by simp) k1,by simp[k2],λ z hz=>?_⟩;rcases qz hz with rfl | hz
    ·exact hT _ _ Y O
    ·exact k3 z hz
theorem aM1 {M:Model}{h:Heap}{i:Int}{t:Tok}:Looks M h (typeOf (.int i t)) (.type "int"):=.now
theorem aL8 {M:Model}{h:Heap}{a:Addr}{O:Array Value} (x:IsTup h a O):Looks M h (typeOf (.ref a)) (.type "tuple"):=by obtain⟨o,Y,Z,_⟩:=x;rw[<- Z];exact (Looks.ld Y).andThen .now
def bL9 (K:Frag):List V->Hp->VK->Prop:=λ xs H Q=>∃ p ds vs H0,xs=[.ref p]/\SqL K H p vs/\Same H0 H/\Reps K H0 ds vs/\ds.length<64/\(ds.all r3=true\/ds.all r22=true)/\∀ l O,H l=none->Reps K H0 (k_0 ds) O->Q (.ref l) (upd H l (.lst O))
theorem bM0 {a b:D} (Y:r3 a=true) (hb:r3 b=true) (h:fK a=fK b):a=b:=by obtain⟨i,x,j,rfl⟩:=aA5 Y;obtain⟨i',O,Z,rfl⟩:=aA5 hb;rw[F_6,F_6] at h;rw[(x_3 (ds:=[.int i,.str x,.int j]) (es:=[.int i',.str O,.int Z]) rfl).mp h]
theorem bu3 {a b:D} (ha:r22 a=true) (hb:r22 b=true) (h:fK a=fK b):a=b:=by
 obtain⟨x,i,j,k,rfl⟩:=al3 ha;obtain⟨Y,O,j',Z,rfl⟩:=al3 hb;have e:∀ x y:List D,fK (.tup [.tup x,.tup y])=fKs x++fKs y:=λ x y=>by rw[F_6,q_5,q_5,F_6,F_6,aO1,zw]
 rw[e,e] at h;obtain⟨h1,h2⟩:=List.append_inj h (E_1 (ds:=[.str x,.int i]) (es:=[.str Y,.int O]) rfl).2;rw[(x_3 (ds:=[.str x,.int i]) (es:=[.str Y,.int O]) rfl).mp h1,(x_3 (ds:=[.int j,.int k]) (es:=[.int j',.int Z]) rfl).mp h2]
theorem ab9 (hu:X.A.units+64<cLine):CallR X (.builtin "sorted") (bL9 X.K):=by
 intro pins s σ H xs us Q I r h;obtain⟨p,ds,vs,H0,rfl,sq,sm,aa,af,O,q⟩:=h;have rp:Reps X.K H ds vs:=Reps.mono sm _ aa;obtain⟨u,rfl,ru⟩:=v_5 r;cases ru;obtain⟨Z,rv,⟨ob,n,h1,h2,h3,h4⟩,_⟩:=I.list sq;have len:Z.length=ds.length:=by rw[<- rv.length,<- rp.length]
 have ae:X.A.in1.in1.units+8<cLine:=by
  have e:X.A.in1.in1.units<=X.A.units+2:=by simp[Around.in1,Around.units]
  omega
 have inj:∀ a b,a∈ds->b∈ds->fK a=fK b->a=b:=λ a b ha hb e=>by
  rcases O with O | O
  ·exact bM0 (List.all_eq_true.mp O a ha) (List.all_eq_true.mp O b hb) e
  ·exact bu3 (List.all_eq_true.mp O a ha) (List.all_eq_true.mp O b hb) e
 have mem:∀ i,i<ds.length->ds.getD i .non∈ds:=λ i hi=>by
  rw[je,zo hi];exact Qi hi
 obtain⟨κ,kd,ak⟩:∃ κ:SortKind,(∀ (pins:List (Addr×Obj)) (s:Shared),Inv X pins σ H s->2<=Z.length->∀ Q:SortKind->Shared->Prop,Q κ s->wpAny (model X.prog X.w) X.A.in1.in1 (keyKind' Z.toArray) Q (λ _ _=>False) s) /\
   ∀ (pins:List (Addr×Obj)) (s:Shared),Inv X pins σ H s->∀ i j,i<ds.length->j<ds.length->∀ Q:Bool->Shared->Prop,Q (decide (fK (ds.getD i .non)<fK (ds.getD j .non))) s->kas_ask X.prog X.w X.A.in1.in1 κ Z i j Q s:=by
  rcases O with O | O
  ·refine⟨tuples' (Value.type "int" != Value.type "tuple"),λ pins s I' l2 Q q=>?_,λ pins s I' i j hi hj Q q=>?_⟩
   ·obtain⟨fs,k1,k2,k3⟩:=aN8 (T:=.type "int") I' (λ d hd=>by
     obtain⟨i,a,j,rfl⟩:=aA5 (List.all_eq_true.mp O d hd);refine⟨_,_,rfl,λ x u rx ru=>?_⟩;unfold Rep at rx;subst rx;obtain⟨t,rfl⟩:=ru;exact aM1) rp rv
    exact kat_kind k1 (by omega) k3 rfl q
   ·obtain⟨x,rx,ux⟩:=E_2 rp rv hi;obtain⟨y,ry,uy⟩:=E_2 rp rv hj;exact cz1 I' (List.all_eq_true.mp O _ (mem i hi)) (List.all_eq_true.mp O _ (mem j hj)) rx ux ry uy q
  ·refine⟨tuples' (Value.type "tuple" != Value.type "tuple"),λ pins s I' l2 Q q=>?_,λ pins s I' i j hi hj Q q=>?_⟩
   ·obtain⟨fs,k1,k2,k3⟩:=aN8 (T:=.type "tuple") I' (λ d hd=>by
     obtain⟨a,i,j,k,rfl⟩:=al3 (List.all_eq_true.mp O d hd);refine⟨_,_,rfl,λ x u rx ru=>?_⟩;obtain⟨_,_,_,rfl,tp,_⟩:=M_3 I' rx ru;exact aL8 tp) rp rv
    exact kat_kind k1 (by omega) k3 rfl q
   ·obtain⟨x,rx,ux⟩:=E_2 rp rv hi;obtain⟨y,ry,uy⟩:=E_2 rp rv hj;exact cq2 ae I' (List.all_eq_true.mp O _ (mem i hi)) (List.all_eq_true.mp O _ (mem j hj)) rx ux ry uy q
 refine aq5 (κ:=κ) (r:=aK3 ds.length λ i=>fK (ds.getD i .non)) h1 h2 h4 (by omega) (λ g a kp na=>?_) λ g1 g2 pm e op mo k1 k2 ad=>?_
 ·have up:∀ g':Heap,(∀ b o,b≠a->g.get? b=some o->g'.get? b=some o)->∀ b o,s.heap.get? b=some o->g'.get? b=some o:=λ g' k b o z=>k b o (λ y=>by rw[y,na] at z;cases z) (kp b o z);refine⟨λ l2 g' k Q q=>kd pins _ (I.kept (t':=s.toks) (up g' k)) l2 Q q,λ g' k i j hi hj C q=>ak pins _ (I.kept (t':=s.toks) (up g' k)) i j (by omega) (by omega) C ?_⟩;have ri:=av8 (n:=ds.length) (key:=λ i=>fK (ds.getD i .non)) (i:=i) (j:=j) (by omega);rw[<- decide_eq_decide.mpr ri];exact q
 ·have I1:Inv X pins σ H {s with heap:=g1}:=I.kept (t':=s.toks) k1;rw[len] at op mo;have Y:∀ i∈pm.toList,i<ds.length:=λ i hi=>List.mem_range.mp (op.perm.mem_iff.mp hi);obtain⟨ws,w1,w2⟩:=ak7 aa rv Y;have srt:(pm.toList.map λ i=>ds.getD i .non)=k_0 ds:=by
   refine aa9 inj ?_ ?_
   ·have e1:=op.perm.map λ i=>ds.getD i .non;have e2:(List.range ds.length).map (λ i=>ds.getD i .non)=ds:=by
     refine Ym (by simp) λ i h1 h2=>?_;simp[h2]
    rw[e2] at e1;exact e1
   ·rw[Yg,List.pairwise_iff_getElem];intro i j hi hj ac;have ag:pm.toList.length=ds.length:=by rw[yd,op.size]
    have m1:=mo i j (yy ac) (by omega);have gi:pm.getD i 0=pm.toList[i]:=by rw[yv,<- Q0,zo hi];rfl
    have gj:pm.getD j 0=pm.toList[j]:=by rw[yv,<- Q0,zo hj];rfl
    unfold KP at m1;rw[gi,gj] at m1;refine zn λ z=>?_;have:=(av8 (n:=ds.length) (key:=λ i=>fK (ds.getD i .non)) (i:=pm.toList[j]) (j:=pm.toList[i]) (Y _ (Qi hj))).mpr z;omega
  rw[srt] at w1;have hz:ws.length<=sizeLine:=by
   have:=w1.length;rw[(p_1 ds).length_eq] at this;have big:(64:Nat)<=sizeLine:=by decide
   omega
  exact⟨.ref g1.objs.size,_,I1.laid (t':=s.toks) (o:=.lst ws) k2 (qr _) ⟨hz,_,e,w2,ad⟩,rfl,q _ _ (I1.hok.fresh (qr _)) w1⟩
theorem ap7 (hu:X.A.units+64<cLine):BOk X (.builtin "sorted") W_2:=⟨_,ab9 hu,λ c H0 H ρ σ ds d vs Q R r e q=>by
 unfold W_2 at e;split at e
 ·rename_i xs;obtain⟨⟨Y,sh⟩,rfl⟩:=ifs e;obtain⟨v,rfl,Z⟩:=Reps.v1 r;unfold Rep at Z;obtain⟨p,ws,rfl,sq,t⟩:=Z;refine⟨p,xs,ws,H0,rfl,Same.seq R.same sq,R.same,t,Y,sh,λ l O hl r'=>?_⟩;have S:=Step.alloc (o:=.lst O) R.same hl;refine q _ _ _ S.s0 (R.after S) ?_;unfold Rep;exact⟨l,O,rfl,.inl (.inl a_3),Reps.mono S.s0 _ r'⟩
 ·cases e⟩
end
section
variable {X:Cx}{pos:Pos}{o e:Expr}{F G:FE}
theorem bx0 {x:Str}{n:Int} (h1:0<=n) (h2:n<=1000) (O:x.length<=1000):MulOk x n:=by
 refine⟨?_,λ _ _=>?_,λ _ _=>?_⟩
 ·rw[zn (by omega),zn (by omega)];rfl
 ·have:(x.length:Int)*n<=1000*1000:=Int.mul_le_mul (by omega) h2 (by omega) (by decide);have:=Int.le_ediv_of_mul_le (show 0<n by omega) (show (x.length:Int)*n<=2 ^ 63-1 by omega);omega
 ·have:x.length*n.toNat<=1000*1000:=Nat.mul_le_mul O (by omega);unfold Builtin.Str.tooLong;have big:1000*1000<=sizeLine:=by decide
  simp;omega
end
noncomputable def Itv (K:Frag) (a:Addr) (n:Nat):It :=
 ⟨λ i H=>∃ xs x,SqL K H a xs/\xs.length=n/\i<n/\xs[n-1-i]?=some x,λ i H x H'=>H'=H/\∀ xs,SqL K H a xs->xs[n-1-i]?=some x,λ i H=>n<=i⟩
theorem aU7 {P:Program}{w:World}{K:Frag}{tg:Expr} (a it:Addr) (n:Nat):Turn P w K tg (Itv K a n) [it] it (λ i h=>i<=n/\h.IsRevIter it a ((n:Int)-1-i)) where
 mem:=by simp
 obj:=λ i h st b hb=>by
  have e:b=it:=by simpa using hb
  subst e;obtain⟨_,o,e,c,d⟩:=st;exact⟨o,e,λ v z=>by rw[d] at z;cases z⟩
 keep:=λ i h h' st k=>⟨st.1,st.2.at λ o e=>k it (by simp) o e⟩
 item:=by
  intro X hP hw hK hc i pins s σ H E I Z st hg;subst hP hw hK;obtain⟨xs,x,hq,hn,hi,hx⟩:=hg;obtain⟨aa,rv,p,hz⟩:=I.list hq;obtain⟨u,hu,ru⟩:=rv.get hx;obtain⟨f0,f1,f2,f3,f4,f5⟩:=Z it (by simp);have O:s.heap.IsRevIter it a ((n-1-i:Nat):Int):=by rw[show ((n-1-i:Nat):Int)=(n:Int)-1-i by omega];exact st.2
  refine wpAny_pyNext_rev_item O p.isList (x:=u) (by simpa using hu) λ h' Y sb=>?_;have I1:Inv X pins σ H {s with heap:=h'}:=I.turned (t':=s.toks) (λ b o hb e=>(sb.2 b hb).trans e) f0 f1 f3 f4 f5;rw[show ((n-1-i:Nat):Int)-1=(n:Int)-1-((i+1:Nat):Int) by omega] at Y;obtain⟨o,e,c,d⟩:=id Y;exact⟨u,rfl,aA3 (s:={s with heap:=h'}) e c d (by decide) ⟨x,H,I1,ru,⟨rfl,λ ys hy=>by rw[I.list_inj hy hq];exact hx⟩,⟨hi,Y⟩,λ b hb=>(Z b hb).1⟩⟩
 done:=by
  intro X hP hw hK hc i pins s σ H E I Z st hg;subst hP hw hK;have hg:n<=i:=hg;obtain⟨f0,f1,f2,f3,f4,f5⟩:=Z it (by simp);have O:s.heap.IsRevIter it a (-1):=by rw[show (-1:Int)=(n:Int)-1-i by have:=st.1;omega];exact st.2
  exact wpAny_pyNext_rev_end (I.ok.hd hc) O λ h' eb=>⟨rfl,I.turned (t':=s.toks) (λ b o hb e=>eb b o hb e) f0 f1 f3 f4 f5⟩
 self:=λ _ _ _ _ _ st h=>wpAny_pyIter_revIter st.2 h
def cy3 (K:Frag) (t:TE):TI:=λ σ H R=>t σ H λ x H1=>∃ a xs,x=.ref a/\SqL K H1 a xs/\R (Itv K a xs.length) H1
theorem bM3 {X:Cx}{tg l:Expr}{tl:TE}{p pos:Pos} (hg:Gl X "reversed") (hm:X.mg "reversed"=none) (hl:PE X l tl) (hs:starEach [l] X.env=[(false,eval l X.env)]):PI X tg (.Call (.Name "reversed" p) [l] [] pos) (cy3 X.K tl):=by
 intro pins s σ H R I h;refine Call_ (X_0 I hg hm (u:=.type "reversed") (by decide +kernel) (j9 (thn (c_5 hl l_0 hs pos pins s σ H (λ vs H1=>match vs with | [x]=>(∃ a xs,x=.ref a ∧ SqL X.K H1 a xs ∧ R (Itv X.K a xs.length) H1) | _=>False) I h) λ us O=>ex5 λ vs H1 Z r1 q1=>?_) hs rfl))
 ·match vs,q1,r1 with
  |[x],q1,r1 =>
  obtain⟨a,xs,rfl,sq,q⟩:=q1;obtain⟨u,rfl,ru⟩:=v_5 r1;cases ru;obtain⟨Y,rv,pl,hz⟩:=Z.list sq;refine call_reversed_list pl.isList ?_;have e:((Y.toArray.size:Nat):Int)-1=(xs.length:Int)-1:=by rw[zf,rv.length]
  have st:({O with heap:=O.heap.push (revObj a ((Y.toArray.size:Int)-1))}:Shared).heap.IsRevIter O.heap.objs.size a ((xs.length:Int)-1):=⟨_,qt _ rfl,rfl,by rw[<- e];rfl⟩;refine wpAny_pyIter_revIter st ⟨O.heap.objs.size,[O.heap.objs.size],_,_,H1,rfl,Z.kept (t':=O.toks) λ b o e=>ql _ e,aU7 a _ xs.length,⟨zx _,by simpa using st⟩,λ b hb=>?_,q⟩;have e:b=O.heap.objs.size:=by simpa using hb
  subst e;exact Z.fpOk (qr _) (Z.hok.fresh (qr _))
theorem az4 {K:Frag}{H1:Hp}{a:Addr}{vs:List V}{xs:List D} (rd:SqL K H1 a vs) (r:Reps K H1 xs vs):z_3 K (Itv K a vs.length) H1 xs.reverse:=λ H0 H i s s'=>by
 have O:SqL K H a vs:=Same.seq (s.trans s') rd;have len:=r.length;refine⟨λ d e=>?_,λ h=>by show vs.length<=i;rw[Q8] at h;omega⟩;have hi:i<xs.reverse.length:=(List.getElem?_eq_some_iff.mp e).1;rw[Q8] at hi;rw[List.getElem?_reverse hi] at e;obtain⟨v,e1,e2⟩:=r.get e;rw[len] at e1;refine⟨⟨vs,v,O,rfl,by omega,e1⟩,λ x H' ⟨h1,h2⟩=>⟨h1,?_⟩⟩;have:=h2 vs O;rw[e1] at this;cases this;exact Rep.mono s _ e2
theorem bu1 {I:FE}{ρ O:En}{z:D} (h:e1 ci8 I ρ=some (z,O)):∃ xs,I ρ=some (.lst xs,O)/\z=.lst xs.reverse:=by
 unfold e1 at h;obtain⟨⟨x,Y⟩,h1,h⟩:=a_0 h;obtain⟨d,h2,h⟩:=a_0 h;have h':some (d,Y)=some (z,O):=h;cases h';cases x with
 |lst xs=>cases h2;exact⟨xs,h1,rfl⟩
 |_=>cases h2
end Fx
namespace Fx
open PySem PySem.Spec PyProof.Rows L2
section
variable {X:Cx}{pos:Pos}{F:FE}{B:FS}{e:Expr}
theorem ck0 {tg l:Expr}{body:List Stmt}{g:GD}{p pos':Pos} (hm:X.mg "reversed"=none) (hg:XG X tg g) (hl:XE X l F) (hb:XSs X body B) (Y:Gl X "reversed":=by rfl)
  (hp:PassesOwn (model X.prog X.w) X.A X.env X.xe:=by exact j5) (hc:X.calm=true:=by rfl) (aa:starEach [l] X.env=[(false,eval l X.env)]:=by rfl)
  (hs:∀ x,foldedSetIterable (.Call (.Name "reversed" p) [l] [] pos') X.env x=pure x:=by intro _;rfl) :
  XS X (.For tg (.Call (.Name "reversed" p) [l] [] pos') body [] pos) (bh4 g (e1 ci8 F) B):=PS.wk (ah6 hp hc (bM3 Y hm hl aa) hg hb hs) λ Dn σ H O=>by
 obtain⟨c,H0,ρ,r,R,f,q⟩:=O;unfold bh4 at f;obtain⟨⟨d,Z⟩,h1,f⟩:=a_0 f;obtain⟨xs,h2,f⟩:=a_0 f;dsimp only at h2 f;obtain⟨ys,h3,rfl⟩:=bu1 h1;cases h2;refine⟨c,H0,ρ,_,Z,R,h3,λ v H1 Hh s1 R1 r1=>?_⟩;unfold Rep at r1;obtain⟨a,vs,rfl,sq,rs⟩:=r1;exact⟨a,vs,rfl,Same.seq R1.same sq,aS2 R1 f (az4 sq rs) (q.mono s1)⟩
end
open Sem (wp)
abbrev zO (Y:Value) (O:Bool) (TI TO:Addr):Obj:={cls:=.type "zip",dict:=none,data:=.fields #[Y,.bool O,.bool false,.ref TI,.ref TO],slots:=#[]}
end Fx
namespace L2
open PySem PySem.Spec PyProof.Rows
end L2
namespace Fx
open PySem PySem.Spec PyProof.Rows L2
def bw4 (T:Bool) (h:Heap) (i a:Addr) (k:Nat):Prop:=if T=true then IsTupIter h i a k else h.IsListIter i a k
def tZ (T:Bool) (z TI TO Y O a b:Addr) (i:Nat) (f0:Value) (Z:Bool) (h:Heap):Prop :=
 h.get? z=some (zO f0 Z TI TO)/\IsPair h TI (.ref Y) (.ref O)/\(∃ u v,IsPair h TO u v)/\bw4 T h Y a i/\bw4 T h O b i
theorem aG6 (xs ys:List D):(zpT xs ys).length=min xs.length ys.length:=by unfold zpT;rw[zd,List.length_zip]
theorem bq2 {xs ys:List D}{i:Nat}{d e:D} (h1:xs[i]?=some d) (h2:ys[i]?=some e):(zpT xs ys)[i]?=some (.tup [d,e]):=by unfold zpT;have:=List.getElem?_zip_eq_some (l₁:=xs) (l₂:=ys) (z:=(d,e)) (i:=i);rw[zy,this.mpr ⟨h1,h2⟩];rfl
section
variable {X:Cx}{pos:Pos}{e:Expr}{F:FE}
theorem aP4 (hc:X.calm=true):CallR X (.builtin "sum") (λ xs H Q=>∃ (p:Addr) (is:List Int),xs=[.ref p] ∧ SqL X.K H p (is.map V.int) ∧ Q (.int is.sum) H):=by
 intro pins s σ H xs us Q I r h;obtain⟨l,is,rfl,hl,q⟩:=h;obtain⟨u,rfl,ru⟩:=v_5 r;cases ru;obtain⟨Y,Z,pl,hz⟩:=I.list hl;have hi:=intsAre_of Z;have hL:=pl.isList;obtain⟨ys,e⟩:=hi.allInts.items;have O:is=ys.toList.map (·.1):=by rw[<- hi.numsOf,<- nums_intItems,<- e]
 rw[e] at hL;refine PySem.sum_intListG (I.ok.hd hc) hL λ h' tk t' hk=>⟨.int is.sum,H,I.kept (t':=tk) hk,?_,q⟩
 rw[preSum_eq,List.take_of_length_le (by simp),<- O];exact⟨t',rfl⟩
theorem bC2 (Y:X.calm=true):BOk X (.builtin "sum") cb0:=⟨_,aP4 Y,λ c H0 H ρ σ ds d vs Q R r e q=>by
 unfold cb0 at e;split at e
 ·obtain⟨is,e1,e2⟩:=a_0 e;cases e2;obtain⟨v,rfl,O⟩:=Reps.v1 r;unfold Rep at O;obtain⟨p,Z,rfl,s,t⟩:=O;have:=Q_1 e1 t;subst this;exact⟨p,is,rfl,Same.seq R.same s,q _ H0 H (Same.refl _) R (f_7 _ _)⟩
 ·cases e⟩
theorem bj7 {α β:Type}{f:α->Option β}{g:α->β}:∀ l:List α,(∀ k∈l,f k=some (g k))->l.filterMap f=l.map g
 |[],_=>rfl
 |k::r,h=>by rw[Q9,h k List.mem_cons_self,ze,bj7 r λ x O=>h x (Q4 _ O)]
theorem aW5 (O:List Value):slicePick O.toArray none none (some (-1))=O.reverse.toArray:=by
 unfold slicePick;have b:sliceBounds none none (some (-1)) O.toArray.size=((O.length:Int)-1,-1,-1):=by unfold sliceBounds;simp
 rw[b];have r:sliceRange ((O.length:Int)-1) (-1) (-1)=(List.range O.length).map λ k=>O.length-1-k:=by
  unfold sliceRange;have c:(if (-1:Int) > 0 then (if (O.length:Int)-1 < -1 then (-1-((O.length:Int)-1)+-1-1) / -1 else 0) else (if (O.length:Int)-1 > -1 then ((O.length:Int)-1 - -1 - -1-1) / (- -1) else 0)).toNat=O.length:=by
   rw[if_neg (by decide)];by_cases h:(O.length:Int)-1 > -1
   ·rw[if_pos h,show (- -1:Int)=1 by decide,Int.ediv_one];omega
   ·rw[if_neg h];omega
  simp only[c];refine Qj λ k hk=>?_;have:=List.mem_range.mp hk;omega
 show ((sliceRange ((O.length:Int)-1) (-1) (-1)).filterMap (O.toArray[·]?)).toArray=_;rw[r,List.filterMap_map];congr 1;have e:((List.range O.length).filterMap λ k=>O.toArray[O.length-1-k]?)=(List.range O.length).map λ k=>O.getD (O.length-1-k) Value.none:=by
  refine bj7 _ λ k hk=>?_;have:=List.mem_range.mp hk;rw[Zy,zo (by omega)];simp[show O.length-1-k<O.length by omega]
 refine Eq.trans ?_ (e.trans ?_)
 ·rfl
 ·refine Ym (by simp) λ i h1 h2=>?_;have hi:i<O.length:=by simpa using h1
  rw[List.getElem_map,List.getElem_range,List.getElem_reverse];simp[show O.length-1-i<O.length by omega]
theorem bM6 {te:TE}{p2 Z p4:Pos}{k:Nat} (he:PE X e te):PE X (.Subscript e (.Slice none none (some (.UnaryOp .USub (.Constant (.int 1) k Z) p4)) p2) pos) (λ σ H Q=>te σ H λ x H1=>∃ a xs,x=.ref a/\SqL X.K H1 a xs/\∀ p,H1 p=none->Q (.ref p) (upd H1 p (.lst xs.reverse))):=by
 intro pins s σ H Q I h;refine Subscript_ (thn (he pins s σ H _ I h) λ v s1 O=>?_);obtain⟨x,H1,I1,r1,a,xs,ex,sq,q⟩:=O;subst ex;cases r1;refine wpAny_Slice ?_;rw[evalPart_none];refine qk (qk ?_);rw[evalPart_some];refine thn (bG0 (X:=X) bj9 (K_4 (i:=1) (j:=k) (pos:=Z)) (pos:=p4) pins s1 σ H1 (λ y H'=>y=.int (-1)/\H'=H1) I1 ⟨1,rfl,rfl,rfl⟩) λ st Y O=>?_;obtain⟨y,H2,I2,ry,ey,eH⟩:=O;subst ey eH;obtain⟨t,rfl⟩:=ry;have I4:Inv X pins σ H2 {Y with heap:=Y.heap.push {cls:=.type "slice",data:=.fields #[.none,.none,.int (-1) t]}}:=I2.kept (t':=Y.toks) λ b ob q=>ql _ q;obtain⟨ac,rv,ht,hz⟩:=I4.list sq;have aa:=rv.length;show wpAny (model X.prog X.w) X.A (subscriptTail e (.Slice none none (some (.UnaryOp .USub (.Constant (.int 1) k Z) p4)) p2) (.ref a) (.ref Y.heap.objs.size)) (EP X pins σ Q) X.xe {Y with heap:=Y.heap.push {cls:=.type "slice",data:=.fields #[.none,.none,.int (-1) t]}};refine tail_any (ops:=[.ref a,.ref Y.heap.objs.size]) ht.isList.typeIs slot_list_getitem.lookup ?_ (by with_unfolding_all rfl);refine wpAny_getItem_list_slice ht.isList (Heap.IsSliceOf.new ..) .none .none (.int (-1) t) (by simp) ?_ (by rw[zf] <;> omega);rw[aW5];refine⟨.ref _,_,I4.laid (t':=Y.toks) (o:=.lst xs.reverse) (λ b ob q=>ql _ q) (qr _) ?_,rfl,q _ (I4.hok.fresh (qr _))⟩;exact⟨by rw[Q8];exact hz,_,0,Vals.reverse rv,qt _ rfl⟩
theorem av3 {K:Frag}{H:Hp}:∀ {ds:List D}{vs:List V},Reps K H ds vs->Reps K H ds.reverse vs.reverse
 |[],vs,r=>by unfold Reps at r;subst r;exact Reps.nil_
 |d::ds,vs,r=>by
  unfold Reps at r;obtain⟨v,Z,rfl,O,Y⟩:=r;rw[Qw,Qw];exact (av3 Y).app (Reps.one O)
end
end Fx
namespace L2
open PySem PySem.Spec PyProof.Rows
end L2
namespace Fx
open PySem PySem.Spec PyProof.Rows L2
section
variable {K:Frag}{c:FC}{H0 H H':Hp}{ρ:En}{σ:L2.St}{l:Addr}{o:HO}
theorem RS.hide (R:RS K c H0 H ρ σ) (hl:H l=none):l∉c.Ap/\c.He l=none/\H0 l=none/\c.Hi l=none:=by have O:H0 l=none:=R.same.free hl;exact⟨λ m=>R.apt l m hl,R.heNone hl,O,R.init.free O⟩
theorem RS.hid (R:RS K c H0 H ρ σ) (hl:H l=none):RS K ⟨c.Hi,upd c.He l o,c.Ap⟩ H0 (upd H l o) ρ σ:=by
 obtain⟨n1,n2,n3,_⟩:=R.hide hl;have ne:∀ {b:Addr}{u:HO},H b=some u->b≠l:=λ e z=>by rw[z,hl] at e;cases e
 refine⟨λ b u e=>?_,R.init,λ b u e=>?_,λ b u e n=>?_,λ a Y=>?_,R.len,R.im,λ i b o e=>?_,R.ne⟩
 ·have h:=R.same b u e;rw[b_2 (ne h)];exact h
 ·have h:=R.same b u e;rcases R.fresh b u e with q | q
  ·exact .inl q
  ·exact .inr (by show upd c.He l _ b=none;rw[b_2 (ne h)];exact q)
 ·by_cases z:b=l
  ·subst z;have e:upd c.He b _ b=some u:=e;rw[a_3] at e ⊢;exact e
  ·have e:upd c.He l _ b=some u:=e;rw[b_2 z] at e ⊢;exact R.keep b u e n
 ·by_cases z:a=l
  ·subst z;exact absurd Y n1
  ·rw[b_2 z];exact R.apt a Y
 ·obtain⟨a,e1,e2,e3,O⟩:=R.ow i b o e;obtain⟨u,Z⟩:=O.some;refine⟨a,e1,e2,?_,O.step (Same.refl _) λ u h=>by rw[b_2 (ne h)];exact h⟩;cases b with
  |true=>exact e3
  |false =>
   have e3:c.He a=none:=e3;show upd c.He l _ a=none;rw[b_2 (ne Z)];exact e3
theorem RS.adopt {u:HO}{m:MO} (R:RS K ⟨c.Hi,upd c.He l o,c.Ap⟩ H0 H ρ σ) (n1:l∉c.Ap) (n2:c.He l=none) (n3:c.Hi l=none) (i:Nat) (r:OwOk K H0 (upd H l u) l m):RS K c H0 (upd H l u) (ρ.set i (.ow false m)) (σ.set i (some (.ref l))):=by
 have h0:H0 l=none:=by
  cases z:H0 l with
  |none=>rfl
  |some v =>
   rcases R.fresh l v z with q | q
   ·rw[n3] at q;cases q
   ·have q:upd c.He l o l=none:=q;rw[a_3] at q;cases q
 have R2:RS K c H0 (λ b=>if b=l then none else H b) ρ σ:=by
  have ne:∀ {b:Addr}{v:HO},H0 b=some v->b≠l:=λ e z=>by rw[z,h0] at e;cases e
  refine⟨λ b v e=>?_,R.init,λ b v e=>?_,λ b v e n=>?_,λ a Y=>?_,R.len,R.im,λ j b m e=>?_,R.ne⟩
  ·show (if b=l then none else H b)=some v;rw[if_neg (ne e)];exact R.same b v e
  ·rcases R.fresh b v e with q | q
   ·exact .inl q
   ·have q:upd c.He l o b=none:=q;rw[b_2 (ne e)] at q;exact .inr q
  ·have z:b≠l:=λ z=>by rw[z,n2] at e;cases e
   show (if b=l then none else H b)=some v;rw[if_neg z];exact R.keep b v (by show upd c.He l _ b=some v;rw[b_2 z];exact e) n
  ·have z:a≠l:=λ z=>n1 (z▸Y);show (if a=l then none else H a)≠none;rw[if_neg z];exact R.apt a Y
  ·obtain⟨a,e1,e2,e3,Z⟩:=R.ow j b m e;have z:a≠l:=λ z=>by
    cases b with
    |true=>exact n1 (z▸e3)
    |false =>
     have e3:upd c.He l _ a=none:=e3;rw[z,a_3] at e3;cases e3
   refine⟨a,e1,e2,?_,Z.step (Same.refl _) λ v h=>by show (if a=l then none else H a)=some v;rw[if_neg z];exact h⟩;cases b with
   |true=>exact e3
   |false =>
    have e3:upd c.He l _ a=none:=e3;rw[b_2 z] at e3;exact e3
 have O:upd (λ b=>if b=l then none else H b) l u=upd H l u:=by
  funext b;by_cases hb:b=l
  ·rw[hb,a_3,a_3]
  ·rw[b_2 hb,b_2 hb];exact if_neg hb
 have:=R2.setOwn (u:=u) (o:=m) (p:=l) i (if_pos rfl) (by rw[O];exact r);rw[O] at this;exact this
end
section
variable {X:Cx}{pos:Pos}{e k:Expr}{F G:FE}{A:FA}
theorem xd1 (i:Nat) {x:Str}{p spos:Pos} (hN:X.N.Nodup) (hk:XE X k G) (he:XE X e F) (hi:X.N[i]?=some x:=by rfl) (hx:Loc X.env.scope x:=by first | exact Or.inl rfl | exact Or.inr rfl)
  (hs:swapsWith (.Dict [some k] [e] pos) (some (.Name x p)) spos.line X.env=pure false:=by rfl) (hf:X.fn x=true\/X.env.scope.names.lookup x=some .local:=by first | exact .inl rfl | exact .inr rfl):XS X (.Assign [.Name x p] (.Dict [some k] [e] pos) spos) (sD1 i G F):=by
 refine PS.wk (x_7 hN hi hx (aZ0 (aI1 hk he aY4) rfl rfl (by simp) (by simp)) hs hf) λ Dn σ H Y=>?_;obtain⟨c,H0,ρ,r,R,f,q⟩:=Y;unfold sD1 cd7 at f;obtain⟨⟨y,O⟩,h1,f⟩:=a_0 f;unfold cd6 at f;obtain⟨⟨d,Z⟩,h2,f⟩:=a_0 f;unfold cd5 at f;obtain⟨kk,h3,f⟩:=a_0 f;cases f;have ey:y=.str kk:=by
  cases y with
  |str z=>cases h3;rfl
  |_=>cases h3
 subst ey;intro a ha;obtain⟨n1,n2,_,n3⟩:=R.hide ha;refine⟨⟨c.Hi,upd c.He a (.dK []),c.Ap⟩,H0,ρ,_,O,R.hid ha,h1,λ v H1 Hh s1 R1 r1=>⟨_,H1,O,d,Z,R1,h2,λ u H2 Hh2 s2 R2 r2=>?_⟩⟩;unfold Rep at r1;subst r1;have kp:Hh2 a=some (.dK []):=R2.keep a _ a_3 n1;refine⟨kp,[(.inr kk,u)],rfl,by simp,?_⟩;exact q _ H2 _ (s1.trans s2) (R2.adopt (c:=c) n1 n2 n3 i (m:=.dic [(kk,d)]) ⟨[kk],[u],by rw[a_3];rfl,rfl,Reps.one r2⟩)
end
theorem vals_ints:∀ {us:List Value}{ns:List Int},IntsAre us ns->Vals (ns.map V.int) us
 |_,_,.nil=>.nil
 |_,_,.cons n t h=>.cons ⟨t,rfl⟩ (vals_ints h)
section
variable {X:Cx}
theorem aC4 {K:Frag}{ks:List Str} (s:Same H0 H) (ea:H0 a=some (.frz o (.dK ((ks.map Sum.inr).zip vs)))) (t:Reps K H0 ds vs) (l:ks.length=ds.length) :
  ∃ u,DGet H a (.str k) u/\(w_3 k (ks.zip ds)=none->u=none)/\∀ d,w_3 k (ks.zip ds)=some d->∃ v,u=some v/\Rep K H0 d v:=by
 have Y:(ks.zip ds).map (·.1)=ks:=Yj (by omega);have f2:(ks.zip ds).map (·.2)=ds:=Zj (by omega);have ln:=t.length;refine⟨valV (E_6 ks vs) (.inr k),.inl ⟨_,.inr k,.inr ⟨o,s _ _ ea⟩,rfl,rfl⟩,λ h=>?_,λ d h=>?_⟩
 ·have:=af8 (vs:=vs) (by rw[List.length_zip];omega) h;rw[Y] at this;exact this
 ·obtain⟨v,O,Z⟩:=af7 (by rw[f2];exact t) h;rw[Y] at O;exact⟨v,O,Z⟩
theorem strX_inv  (h:bC1 d=some k):d=.str k:=by
 cases d with
 |str z=>cases h;rfl
 |_=>cases h
theorem bO3 (hu:X.A.units+1<cLine):OpR X (compareOp .In) (λ y x H Q=>∃ a o,x=.ref a/\DGet H a y o/\Q (.bl o.isSome) H):=by
 intro pins s σ H x y v u Q I Z O h;obtain⟨a,o,rfl,g,q⟩:=h;cases O;exact cy6 hu I g Z λ s' Y=>⟨.bl o.isSome,H,Y,rfl,q⟩
theorem ba0 (hu:X.A.units+1<cLine):OpR X (compareOp .NotIn) (λ y x H Q=>∃ a o,x=.ref a/\DGet H a y o/\Q (.bl (!o.isSome)) H):=by
 intro pins s σ H x y v u Q I Z O h;obtain⟨a,o,rfl,g,q⟩:=h;cases O;exact bf7 hu I g Z λ s' Y=>⟨.bl (!o.isSome),H,Y,rfl,q⟩
theorem bu8 {K:Frag} (s:Same H0 H) (Y:Rep K H0 (.str k) Z) (r2:Rep K H0 (.dct ks ds) O):∃ a o,O=.ref a/\DGet H a Z o/\o.isSome=(w_3 k (ks.zip ds)).isSome:=by
 subst Y;obtain⟨a,ob,vs,rfl,ea,t,l⟩:=r2;obtain⟨u,dg,hn,hs⟩:=aC4 s ea t l;refine⟨a,u,rfl,dg,?_⟩;cases z:w_3 k (ks.zip ds) with
 |none=>rw[hn z];rfl
 |some d=>obtain⟨v,e,_⟩:=hs d z;rw[e];rfl
theorem cu7 (Z:X.A.units+1<cLine):B_1 X .In bE6:=⟨_,bO3 Z,λ c H0 H ρ σ x y d vx vy Q R Y r2 e q=>by
 unfold bE6 at e;obtain⟨⟨ks,ds⟩,g1,e⟩:=a_0 e;obtain⟨k,g2,e⟩:=a_0 e;cases dctX_inv g1;cases strX_inv g2;cases e;obtain⟨a,o,rfl,O,z⟩:=bu8 R.same Y r2;exact⟨a,o,rfl,O,by rw[z];exact q _ H0 H (Same.refl _) R (by unfold Rep;rfl)⟩⟩
theorem bL6 (Z:X.A.units+1<cLine):B_1 X .NotIn aC7:=⟨_,ba0 Z,λ c H0 H ρ σ x y d vx vy Q R Y r2 e q=>by
 obtain⟨⟨ks,ds⟩,g1,e⟩:=a_0 e;obtain⟨k,g2,e⟩:=a_0 e;cases dctX_inv g1;cases strX_inv g2;cases e;obtain⟨a,o,rfl,O,z⟩:=bu8 R.same Y r2;exact⟨a,o,rfl,O,by rw[z];exact q _ H0 H (Same.refl _) R (by rfl)⟩⟩
end
structure YE (X:Cx) (e:Expr) (F:FE):Prop where
 go:XE X e F
structure YA (X:Cx) (es:List Expr) (F:FA):Prop where
 go:XA X es F
structure YS (X:Cx) (st:Stmt) (F:FS):Prop where
 go:XS X st F
structure YSs (X:Cx) (st:List Stmt) (F:FS):Prop where
 go:XSs X st F
section
variable {st:Stmt}
theorem ye (h:XE X e F):YE X e F:=⟨h⟩
theorem yb  (o:Z_7 X op f) (O:YE X a F) (hb:YE X b G):YE X (.BinOp a op b pos) (e2 f F G):=⟨xb o O.go hb.go⟩
theorem aa1 (h:YA X es A):YE X (.List es pos) (s_3 A):=⟨J_8 h.go⟩
theorem g_6  (h:YA X es A):YE X (.Tuple es x1 pos) (c_0 A):=⟨l_8 h.go⟩
theorem yaN:YA X [] aN:=⟨xaN⟩
theorem yaC (O:YE X e F) (Y:YA X es A) (hs:starEach (e::es) X.env=(false,eval e X.env)::starEach es X.env:=by rfl):YA X (e::es) (aC F A):=⟨xaC O.go Y.go hs⟩
theorem yx (h:XS X st B):YS X st B:=⟨h⟩
theorem ys1 (h:YS X st B):YSs X [st] B:=⟨xs1 h.go⟩
theorem ysC (h:YS X st B) (k:YSs X ss C):YSs X (st::ss) (b_7 B C):=⟨xsC h.go k.go⟩
theorem am4 (O:YE X e F):YS X (.Return (some e) pos) (g_0 F):=⟨i_6 O.go⟩
theorem bi9  (Z:X.mg "range"=none) (hg:XG X b g) (ha:XE X a F) (hb:YSs X body B) (O:Gl X "range":=by rfl) (hp:PassesOwn (model X.prog X.w) X.A X.env X.xe:=by exact j5) (hc:X.calm=true:=by rfl)
  (Y:starEach [a] X.env=[(false,eval a X.env)]:=by rfl) (hs:∀ x,foldedSetIterable (.Call (.Name "range" p) [a] [] pos') X.env x=pure x:=by intro _;rfl):YS X (.For b (.Call (.Name "range" p) [a] [] pos') body [] pos) (N_3 g (aH3 F) B):=⟨T_5 Z hg ha hb.go O hp hc Y hs⟩
end
end Fx
namespace L2
open PySem PySem.Spec PyProof.Rows
end L2
namespace L2
open PySem PySem.Spec PyProof.Rows
end L2
namespace Fx
open PySem PySem.Spec PyProof.Rows L2
section
variable {X:Cx}{pos:Pos}{e:Expr}{F:FE}
theorem cm2:Z_7 X .Add bA4:=⟨_,bw1,λ c H0 H ρ σ x y d vx vy Q R Z r2 e q=>by
 cases x with
 |tup O =>
  cases y with
  |tup bs =>
   obtain⟨⟨hl,ha,hb⟩,rfl⟩:=ifs (show (if O.length+bs.length<=1000/\0<O.length/\0<bs.length then some (D.tup (O++bs)) else none)=some d from e);unfold Rep at Z r2;obtain⟨a,xs,rfl,s1,t1⟩:=Z;obtain⟨b,ys,rfl,s2,Y⟩:=r2;have big:(1000:Nat)<=sizeLine:=by decide
   have l1:=t1.length;have l2:=Y.length;refine⟨a,b,xs,ys,rfl,rfl,Same.seqT R.same s1,Same.seqT R.same s2,λ z=>?_,by omega,λ z=>?_,λ _ p hp=>?_⟩
   ·rw[z,Qn] at l1;omega
   ·rw[z,Qn] at l2;omega
   ·have S:=Step.alloc (o:=.tup (xs++ys)) R.same hp;refine q _ _ _ S.s0 (R.after S) ?_;unfold Rep;exact⟨p,_,rfl,.inl (.inl a_3),Reps.mono S.s0 _ (t1.app Y)⟩
  |_=>cases e
 |_=>cases e⟩
end
section
variable {X:Cx}{k:Nat}{f:Addr}{fd:FuncData}{ps:List Str}{sp:Sp}{x:Str}{p pos:Pos}{e:Expr}{es:List Expr}{t:TA}
theorem upd_upd {H:Hp}{a:Addr}{u v:HO}:upd (upd H a u) a v=upd H a v:=by
 funext b;by_cases z:b=a
 ·rw[z,a_3,a_3]
 ·rw[b_2 z,b_2 z,b_2 z]
end
theorem J_6 {k:Str}:∀ {st:List (List D)}{i:Nat},h_7 k st=some i->i<st.length
 |[],i,h=>by cases h
 |x::r,i,h=>by
  unfold h_7 at h;split at h
  ·rename_i j O;have:=J_6 O;cases h;rw[zi];omega
  ·split at h
   ·cases h;rw[zi];omega
   ·cases h
theorem S_9 (k:Str) (d:D):∀ st:List (List D),h_7 k (st++[[d]])=if aC2 d=some k then some st.length else h_7 k st
 |[]=>by
  show (if ([d].head?.bind aC2)=some k then some 0 else none)=_;rfl
 |x::r=>by
  have O:=S_9 k d r;rw[jr];unfold h_7;rw[O];by_cases h:aC2 d=some k
  ·rw[if_pos h,if_pos h];rfl
  ·rw[if_neg h,if_neg h]
theorem ab7 (k:Str) (d:D):∀ (st:List (List D)) (i:Nat) (x:List D),st[i]?=some x->x≠[]->h_7 k (st.set i (x++[d]))=h_7 k st
 |[],i,x,h,_=>by cases h
 |y::r,0,x,h,hx=>by
  obtain rfl:y=x:=qp h;rw[List.set_cons_zero];unfold h_7;have:(y++[d]).head?=y.head?:=by
   cases y with
   |nil=>exact absurd rfl hx
   |cons a b=>rfl
  rw[this]
 |y::r,i+1,x,h,hx=>by
  rw[List.set_cons_succ];unfold h_7;rw[ab7 k d r i x h hx]
structure SS (K:Frag) (Hi Hin H:Hp) (l S T:Addr) (vs:List V) (st:List (List D)) (refs:List Addr) (kvs:List (Key×V)):Prop where
 old:Same Hin H
 hl:H l=some (.lst vs)
 hS:H S=some (.lst (refs.map .ref))
 hT:H T=some (.dK kvs)
 nS:Hin S=none
 nT:Hin T=none
 lS:l≠S
 len:refs.length=st.length
 ats:∀ (i:Nat) (a:Addr) (x:List D),refs[i]?=some a->st[i]?=some x->Hin a=none/\a≠l/\a≠S/\∃ ws,H a=some (.lst ws)/\Reps K Hi x ws
 nd:refs.Nodup
 ne:∀ x∈st,x≠[]/\∀ d∈x,r3 d=true
 key:∀ k,valV kvs (.inr k)=(h_7 k st).bind λ i=>(refs[i]?).map V.ref
 kl:kvs.length<=st.length
section
variable {K:Frag}{Hi Hin H H':Hp}{l S T p:Addr}{vs:List V}{st:List (List D)}{refs:List Addr}{kvs:List (Key×V)}{d:D}{v:V}{k:Str}
theorem SS.refAt (h:SS K Hi Hin H l S T vs st refs kvs) {a:Addr} (O:a∈refs):∃ (i:Nat) (x:List D),refs[i]?=some a/\st[i]?=some x:=by obtain⟨i,hi⟩:=List.mem_iff_getElem?.mp O;have:=(List.getElem?_eq_some_iff.mp hi).1;have hl:=h.len;exact⟨i,st[i],hi,zo (by omega)⟩
theorem SS.new (h:SS K Hi Hin H l S T vs st refs kvs) (hp:H p=none) (e1:H' p=some (.lst [v])) (e2:H' S=some (.lst (refs.map .ref++[.ref p]))) (e3:H' T=some (.dK (I_7 kvs (.inr k) (.ref p))))
  (e4:∀ x,x≠p->x≠S->x≠T->H' x=H x) (rv:Rep K Hi d v) (hk:aC2 d=some k) (h3:r3 d=true):SS K Hi Hin H' l S T vs (st++[[d]]) (refs++[p]) (I_7 kvs (.inr k) (.ref p)):=by
 have Z:Hin p=none:=h.old.free hp;have lp:l≠p:=c_6 h.hl hp;have lT:l≠T:=ne_of h.hl h.hT (λ z=>nomatch z);have ST:S≠T:=ne_of h.hS h.hT (λ z=>nomatch z);have Sp:S≠p:=c_6 h.hS hp;have hl:=h.len;refine⟨λ b o e=>?_,by rw[e4 l lp h.lS lT];exact h.hl,by rw[yt];exact e2,e3,h.nS,h.nT,h.lS,by simp[hl],λ i a x Y O=>?_,?_,λ x O=>?_,λ j=>?_,?_⟩
 ·rw[e4 b (c_6 e Z) (c_6 e h.nS) (c_6 e h.nT)];exact h.old b o e
 ·by_cases hi:i<refs.length
  ·rw[yh hi] at Y;rw[yh (by omega)] at O;obtain⟨a1,a2,a3,ws,a4,a5⟩:=h.ats i a x Y O;refine⟨a1,a2,a3,ws,?_,a5⟩;rw[e4 a (c_6 a4 hp) a3 (ne_of a4 h.hT (λ z=>nomatch z))];exact a4
  ·rw[yj (by omega)] at Y O;have i0:i-refs.length=0:=by have:=(List.getElem?_eq_some_iff.mp Y).1;simp at this;omega
   rw[i0] at Y;rw[show i-st.length=0 by omega] at O;cases Y;cases O;exact⟨Z,lp.symm,Sp.symm,[v],e1,Reps.one rv⟩
 ·rw[List.nodup_append];refine⟨h.nd,by simp,λ a Y b hb=>?_⟩;rw[List.mem_singleton.mp hb];obtain⟨i,x,hi,O⟩:=h.refAt Y;obtain⟨_,_,_,ws,a4,_⟩:=h.ats i a x hi O;exact c_6 a4 hp
 ·rcases zb O with O | O
  ·exact h.ne x O
  ·rw[List.mem_singleton.mp O];refine⟨by simp,λ e he=>?_⟩;rw[List.mem_singleton.mp he];exact h3
 ·rw[aU1,S_9,hk];by_cases e:(Sum.inr j:Key)=Sum.inr k
  ·have e':j=k:=Zc e;subst e';rw[if_pos rfl,if_pos rfl];show _=((refs++[p])[st.length]?).map V.ref;rw[<- hl,yj (Nat.le_refl _),Nat.sub_self];rfl
  ·have e':¬ some k=some j:=λ z=>e (by rw[Zq z]);rw[if_neg e,if_neg e',h.key j];cases q:h_7 j st with
   |none=>rfl
   |some i =>
    have:=J_6 q;show (refs[i]?).map V.ref=((refs++[p])[i]?).map V.ref;rw[yh (by omega)]
 ·have:=w_0 kvs (Sum.inr k) (V.ref p);have:=h.kl;rw[zh,zq];omega
theorem SS.app (h:SS K Hi Hin H l S T vs st refs kvs) {i:Nat}{a:Addr}{x:List D}{ws:List V} (Z:st[i]?=some x) (ha:refs[i]?=some a) (hw:H a=some (.lst ws)) (rv:Rep K Hi d v) (h3:r3 d=true) :
  SS K Hi Hin (upd H a (.lst (ws++[v]))) l S T vs (st.set i (x++[d])) refs kvs:=by
 obtain⟨a1,a2,a3,aa,a4,a5⟩:=h.ats i a x ha Z;rw[hw] at a4;cases a4;have aT:T≠a:=ne_of h.hT hw (λ z=>nomatch z);have xm:x∈st:=ji Z;refine⟨λ b o e=>by rw[b_2 (c_6 e a1)];exact h.old b o e,by rw[b_2 (yi a2)];exact h.hl,by rw[b_2 (yi a3)];exact h.hS,by rw[b_2 aT];exact h.hT,h.nS,h.nT,h.lS,by rw[yn];exact h.len,λ j b y hb O=>?_,h.nd,λ y O=>?_,λ j=>?_,by rw[yn];exact h.kl⟩
 ·by_cases e:j=i
  ·subst e;rw[ha] at hb;cases hb;rw[zr (List.getElem?_eq_some_iff.mp Z).1] at O;cases O;exact⟨a1,a2,a3,_,a_3,a5.app (Reps.one rv)⟩
  ·rw[yc (yi e)] at O;obtain⟨b1,b2,b3,us,b4,b5⟩:=h.ats j b y hb O;have nb:b≠a:=λ z=>by
    subst z;obtain⟨p1,q1⟩:=List.getElem?_eq_some_iff.mp hb;obtain⟨p2,q2⟩:=List.getElem?_eq_some_iff.mp ha;exact e ((Yl h.nd).mp (q1.trans q2.symm))
   exact⟨b1,b2,b3,us,by rw[b_2 nb];exact b4,b5⟩
 ·rcases List.mem_or_eq_of_mem_set O with O | rfl
  ·exact h.ne y O
  ·refine⟨λ z=>by simp at z,λ e Y=>?_⟩;rcases zb Y with Y | Y
   ·exact (h.ne x xm).2 e Y
   ·rw[List.mem_singleton.mp Y];exact h3
 ·rw[ab7 j d st i x Z (h.ne x xm).1];exact h.key j
theorem aK1 {H:Hp}:∀ (st:List (List D)) (refs:List Addr),refs.length=st.length->(∀ (i:Nat) (a:Addr) (x:List D),refs[i]?=some a->st[i]?=some x->Rep K H (.lst x) (.ref a))->Reps K H (st.map D.lst) (refs.map V.ref)
 |[],[],_,_=>Reps.nil_
 |[],_::_,e,_=>by cases e
 |_::_,[],e,_=>by cases e
 |x::st,a::refs,e,h=>by
  rw[ze,ze];refine Reps.cons (h 0 a x rfl rfl) (aK1 st refs (by simpa using e) λ i b y hb O=>h (i+1) b y ?_ ?_)
  ·simpa using hb
  ·simpa using O
theorem SS.fin (h:SS K Hi Hin H l S T vs st refs kvs) (hs:Same Hi Hin):∃ Hi',Step Hi Hin Hi' H/\Rep K Hi' (.lst (st.map D.lst)) (.ref S):=by
 have fr:∀ b,(b=S\/b∈refs)->Hin b=none:=λ b hb=>by
  rcases hb with rfl | hb
  ·exact h.nS
  ·obtain⟨i,x,hi,Y⟩:=h.refAt hb;exact (h.ats i b x hi Y).1
 have Z:Same Hi (λ b=>if b=S\/b∈refs then H b else Hi b):=λ b o e=>by
  have:¬ (b=S\/b∈refs):=λ z=>by
   have:=fr b z;rw[hs b o e] at this;cases this
  show (if b=S\/b∈refs then H b else Hi b)=some o;rw[if_neg this];exact e
 refine⟨λ b=>if b=S\/b∈refs then H b else Hi b,⟨Z,h.old,λ b o e=>?_,λ b o e=>?_⟩,?_⟩
 ·have O:(if b=S\/b∈refs then H b else Hi b)=some o:=e;by_cases z:b=S\/b∈refs
  ·rw[if_pos z] at O;exact O
  ·rw[if_neg z] at O;exact h.old b o (hs b o O)
 ·have O:(if b=S\/b∈refs then H b else Hi b)=some o:=e;by_cases z:b=S\/b∈refs
  ·exact .inr (fr b z)
  ·rw[if_neg z] at O;exact .inl O
 ·unfold Rep;refine⟨S,refs.map V.ref,rfl,.inl (.inl ?_),aK1 st refs h.len λ i a x ha Y=>?_⟩
  ·show (if S=S\/S∈refs then H S else Hi S)=_;rw[if_pos (.inl rfl)];exact h.hS
  ·obtain⟨_,_,_,ws,a4,a5⟩:=h.ats i a x ha Y;unfold Rep;refine⟨a,ws,rfl,.inl (.inl ?_),Reps.mono Z _ a5⟩;show (if a=S\/a∈refs then H a else Hi a)=_;rw[if_pos (.inr (ji ha))];exact a4
end
theorem aj7 {ds:List D}{d:D} (h:bt9 ds=some d):∃ gap xs st,ds=[.int gap,.lst xs]/\xs.length<64/\xs.all r3=true/\G_3 gap (k_0 xs) []=some st/\d=.lst (st.map .lst):=by
 unfold bt9 at h;split at h
 ·rename_i gap xs;split at h
  ·rename_i O;obtain⟨st,Z,Y⟩:=a_0 h;exact⟨gap,xs,st,rfl,O.1,O.2,Z,(qp Y).symm⟩
  ·cases h
 ·cases h
def Few (n:Nat) (st:List (List D)):Prop:=st.length<=n/\∀ x∈st,x.length<=n
theorem bb6 {n:Nat}{st:List (List D)} (h:Few n st) (gap:Int) (k:Str) (t:Int) (d:D):Few (n+1) (p_2 gap st k t d):=by
 have new:Few (n+1) (st++[[d]]):=⟨by rw[zh,zq];have:=h.1;omega,λ x O=>by
  rcases zb O with O | O
  ·have:=h.2 x O;omega
  ·rw[List.mem_singleton.mp O];simp⟩
 unfold p_2;split
 ·rename_i i hi;split
  ·refine⟨by rw[yn];have:=h.1;omega,λ x O=>?_⟩;rcases List.mem_or_eq_of_mem_set O with O | rfl
   ·have:=h.2 x O;omega
   ·have hl:=J_6 hi;rw[je,zo hl];have:=h.2 _ (Qi hl);simp;omega
  ·exact new
 ·exact new
abbrev aU9 (K:Frag) (i j:Nat):TS:=bB3 (tBM K "list" aX5 (bN2 i) (bB6 (bN2 j) bX2))
abbrev cc1 (K:Frag) (i:Int):TE:=tOp (bP1 K) (bN2 4) (L2.tC (.int i))
abbrev tbS (K:Frag):TS :=
 bW8 (bN5 (bg3 (bN2 3) (cc1 K 1)) (bc8 5))
 (bW8 (bX4 (L2.tOr (aV4 (tOp (λ x y H Q=>y=.non/\Q (.bl (decide (x=.non))) H) (bN2 5) (L2.tC .non)))
   (aV4 (tOp (rI0 λ i j=>.bl (decide (j<=i))) (tOp (rI0 λ i j=>.int (i-j)) (cc1 K 0) (tOp (bP1 K) (tOp (bP3 K) (bN2 5) (tUn (rU λ i=>.int (-i)) (L2.tC (.int 1)))) (L2.tC (.int 0)))) (bN2 0))))
  (bW8 (bN5 (bX3 bX2) (bc8 5)) (bW8 (bE1 (bN2 3) (cc1 K 1) (bN2 5)) (aU9 K 2 5))) bB2)
 (aU9 K 5 4))
theorem bj0 {K:Frag}{Hi H:Hp}{t u:Int}{k:Str}{v:V} (O:Rep K Hi (.tup [.int t,.str k,.int u]) v) (s:Same Hi H):∃ a,v=.ref a/\SqT K H a [.int t,.str k,.int u]:=by unfold Rep at O;obtain⟨a,ws,rfl,Y,r⟩:=O;unfold Reps at r;obtain⟨x,Z,rfl,e1,r⟩:=r;unfold Reps at r;obtain⟨y,r2,rfl,e2,r⟩:=r;unfold Reps at r;obtain⟨z,r3,rfl,e3,r⟩:=r;unfold Reps at r;subst r;unfold Rep at e1 e2 e3;subst e1 e2 e3;exact⟨a,rfl,Same.seqT s Y⟩
theorem aV3 {K:Frag}{Hi Hin H:Hp}{l S T:Addr}{vs:List V}{st:List (List D)}{refs:List Addr}{kvs:List (Key×V)}{n:Nat} (h:SS K Hi Hin H l S T vs st refs kvs) (hs:Same Hi Hin) (Y:Few n st) (hn:n<64) {gap t u:Int}{k:Str}{v:V} (rv:Rep K Hi (.tup [.int t,.str k,.int u]) v)
  (x1 w:Option V) (Dn:Ends) (q:∀ H' w' Z ac,SS K Hi Hin H' l S T vs (p_2 gap st k t (.tup [.int t,.str k,.int u])) Z ac->Dn.nx [some (.int gap),x1,some (.ref S),some (.ref T),some v,w'] H') :
  tbS K Dn [some (.int gap),x1,some (.ref S),some (.ref T),some v,w] H:=by
 have big:(64:Nat)<=sizeLine:=by decide
 obtain⟨a,rfl,sq⟩:=bj0 rv (hs.trans h.old);have af:=h.len;refine⟨.ref T,rfl,T,rfl,.inl ⟨kvs,.inl h.hT⟩,.ref a,rfl,a,_,1,.str k,rfl,rfl,sq,rfl,valV kvs (.inr k),DGet.k (k:=.inr k) h.hT,?_⟩;have new:p_2 gap st k t (.tup [.int t,.str k,.int u])=st++[[.tup [.int t,.str k,.int u]]]->∀ w',bW8 (bW8 (bN5 (bX3 bX2) (bc8 5)) (bW8 (bE1 (bN2 3) (cc1 K 1) (bN2 5)) (aU9 K 2 5))) (aU9 K 5 4) Dn [some (.int gap),x1,some (.ref S),some (.ref T),some (.ref a),w'] H:=λ es w'=>by
  refine⟨by decide,λ p hp=>?_⟩;have Tp:T≠p:=c_6 h.hT hp;have Sp:S≠p:=c_6 h.hS hp;have ST:S≠T:=ne_of h.hS h.hT (λ z=>nomatch z);have kl:kvs.length<sizeLine:=by have:=h.kl;have:=Y.1;omega
  have s1:Same H (upd H p (.lst [])):=λ b o e=>by rw[b_2 (c_6 e hp)];exact e
  refine⟨.ref p,rfl,.ref T,rfl,.ref a,rfl,a,_,1,.str k,rfl,rfl,Same.seqT s1 sq,rfl,T,_,rfl,DPut.k (k:=.inr k) (by rw[b_2 Tp];exact h.hT) kl,?_⟩;have eS:(upd (upd H p (.lst [])) T (.dK (I_7 kvs (Sum.inr k) (.ref p)))) S=some (.lst (refs.map .ref)):=by rw[b_2 ST,b_2 Sp];exact h.hS
  refine⟨.ref S,rfl,.inl ⟨rfl,_,SqL.of eS⟩,.ref p,rfl,S,_,.ref p,rfl,rfl,eS,?_,?_⟩
  ·rw[zd];have:=Y.1;omega
  ·have ep:(upd (upd (upd H p (.lst [])) T (.dK (I_7 kvs (Sum.inr k) (.ref p)))) S (.lst (refs.map .ref++[.ref p]))) p=some (.lst []):=by rw[b_2 (yi Sp),b_2 (yi Tp),a_3]
   refine⟨.ref p,rfl,.inl ⟨rfl,_,SqL.of ep⟩,.ref a,rfl,p,[],.ref a,rfl,rfl,ep,by show 0<sizeLine;omega,?_⟩;refine q _ _ (refs++[p]) (I_7 kvs (.inr k) (.ref p)) ?_;rw[es];refine h.new hp a_3 ?_ ?_ (λ x n1 n2 n3=>?_) rv rfl rfl
   ·rw[b_2 Sp,a_3]
   ·rw[b_2 Tp,b_2 (yi ST),a_3]
   ·rw[b_2 n1,b_2 n2,b_2 n3,b_2 n1]
 cases e:h_7 k st with
 |none =>
  have hv:valV kvs (.inr k)=none:=by rw[h.key k,e];rfl
  rw[hv];exact⟨.non,rfl,rfl,true,rfl,cb7 (cb7 (new (by unfold p_2;rw[e]) _))⟩
 |some i =>
  have il:=J_6 e;have gi:st[i]?=some st[i]:=zo il;have ga:refs[i]?=some refs[i]:=zo (by omega);have hv:valV kvs (.inr k)=some (.ref refs[i]):=by rw[h.key k,e];show (refs[i]?).map V.ref=_;rw[ga];rfl
  rw[hv];obtain⟨b1,b2,b3,ws,b4,b5⟩:=h.ats i _ _ ga gi;obtain⟨ne,aa⟩:=h.ne _ (Qi il);obtain⟨O,dl,hx⟩:∃ O dl,st[i]=O++[dl]:=by
   rcases List.eq_nil_or_concat st[i] with z | ⟨O,dl,z⟩
   ·exact absurd z ne
   ·exact⟨O,dl,by rw[z,List.concat_eq_append]⟩
  have ad:r3 dl=true:=aa dl (by rw[hx];simp);obtain⟨t',k',u',rfl⟩:=aA5 ad;rw[hx] at b5;obtain⟨wp,wl,rfl,r1,r2⟩:∃ wp wl,ws=wp++[wl]/\Reps K Hi O wp/\Rep K Hi (.tup [.int t',.str k',.int u']) wl:=by
   have hl:=b5.length;rw[zh,zq] at hl;have h1:=b5.take O.length;have h2:=b5.drop O.length;rw[List.take_left'] at h1;rw[List.drop_left'] at h2
   ·obtain⟨wl,hw,rl⟩:=Reps.v1 h2;exact⟨ws.take O.length,wl,by rw[<- hw,List.take_append_drop],h1,rl⟩
   ·rfl
   ·rfl
  obtain⟨al,rfl,ae⟩:=bj0 r2 (hs.trans h.old);have jn:ao4 gap t (st.getD i [])=decide (t-t'<gap):=by unfold ao4;rw[je,gi,Zh,hx,List.getLast?_append];rfl
  have gd:st.getD i []=st[i]:=by rw[je,gi];rfl
  refine⟨.ref refs[i],rfl,rfl,false,rfl,cs9 ⟨.ref a,rfl,a,_,0,.int t,rfl,rfl,sq,rfl,.ref refs[i],rfl,1,rfl,refs[i],_,-1,.ref al,rfl,rfl,SqL.of b4,bf1 _ _,al,_,0,.int t',rfl,rfl,ae,rfl,t,t',rfl,rfl,.int gap,rfl,t-t',gap,rfl,rfl,decide (gap<=t-t'),rfl,?_⟩⟩;by_cases c:gap<=t-t'
  ·rw[zu c];exact cb7 <| new (by unfold p_2;rw[e];show (if ao4 gap t (st.getD i [])=true then _ else _)=_;rw[jn,if_neg (by simp;omega)]) _
  ·rw[zn c];refine cs9 ⟨.ref refs[i],rfl,.inl ⟨rfl,_,SqL.of b4⟩,.ref a,rfl,refs[i],_,.ref a,rfl,rfl,b4,?_,?_⟩
   ·have:=Y.2 _ (Qi il);have hl:=b5.length;rw[<- hx] at hl;omega
   ·refine q _ _ refs kvs ?_;have es:p_2 gap st k t (.tup [.int t,.str k,.int u])=st.set i (st[i]++[.tup [.int t,.str k,.int u]]):=by unfold p_2;rw[e];show (if ao4 gap t (st.getD i [])=true then _ else _)=_;rw[jn,if_pos (by simp;omega),gd]
    rw[es];exact h.app gi ga b4 rv rfl
def aB7 (tab:Tab V) (k:Str×Int):Option V:=(tab.find? λ x=>decide (x.1=k)).map (·.2.2)
abbrev bD6:(Str×Int)×Addr×V->(Str×Int)×Addr×Value->Prop:=λ p q=>p.1=q.1/\p.2.1=q.2.1/\RelV p.2.2 q.2.2
theorem aN0 {a b:Str×Int} (h:kTI a=kTI b):a=b:=by
 unfold kTI at h;injection h with h1 h2
 injection h2 with h3 _
 injection h1 with h1
 injection h3 with h3
 exact Prod.ext h1 h3
theorem bz9 (a b:Str×Int):decide (kTI a=kTI b)=decide (a=b):=by
 by_cases e:a=b
 ·rw[e];simp
 ·rw[zn e,zn λ z=>e (aN0 z)]
theorem ax8:∀ {tab:Tab V}{xs:Tab Value},Paired bD6 tab xs->(xs.map az5).map (·.1)=(tab.map (·.1)).map kTI
 |_,_,.nil=>rfl
 |_,_,.cons r t=>by rw[ze,ze,ze,ze,ax8 t,r.1];rfl
theorem ax7 {k:Str×Int}:∀ {tab:Tab V}{xs:Tab Value},Paired bD6 tab xs->RelO (aB7 tab k) ((atKey (xs.map az5) (kTI k)).map (·.2))
 |_,_,.nil=>trivial
 |_,_,.cons (a:=x) (b:=y) r t=>by
  have O:=ax7 (k:=k) t;unfold aB7 atKey at O ⊢;rw[ze,List.find?_cons,List.find?_cons];have e:decide ((az5 y).1=kTI k)=decide (x.1=k):=by rw[r.1];exact bz9 _ _
  rw[e];cases decide (x.1=k) with
  |true=>exact r.2.2
  |false=>exact O
end Fx
namespace Fx
open PySem
noncomputable def ti:List D->Option (Str×Int)
 |[.str s,.int i]=>some (s,i)
 |_=>none
end Fx
namespace Fx
open PySem PySem.Spec PyProof.Rows L2
theorem vals_at:∀ {xs:List V}{us:List Value},xs.length=us.length->(∀ (n:Nat) x u,xs[n]?=some x->us[n]?=some u->RelV x u)->Vals xs us
 |[],[],_,_=>.nil
 |[],_::_,e,_=>by cases e
 |_::_,[],e,_=>by cases e
 |x::xs,u::us,e,h=>.cons (h 0 x u rfl rfl) (vals_at (by simpa using e) λ n y v a b=>h (n+1) y v (by simpa using a) (by simpa using b))
theorem aA4 {gap:Int}{d:D}{r:List D}{st fin:List (List D)} (h:G_3 gap (d::r) st=some fin):∃ t k u,d=.tup [.int t,.str k,.int u]/\G_3 gap r (p_2 gap st k t d)=some fin:=match d,h with |.tup [.int _,.str _,.int _],h=>⟨_,_,_,rfl,h⟩
theorem aV2 {K:Frag}{Hi Hin H:Hp}{l S T:Addr}{vs:List V}{ds:List D}{gap:Int}{fin:List (List D)} (h0:SS K Hi Hin H l S T vs [] [] []) (hs:Same Hi Hin) (rs:Reps K Hi ds vs) (aj:ds.length<64) (go:G_3 gap ds []=some fin) (x1 t0 w0:Option V) (Dn:Ends)
  (q:∀ H' t' Y refs kvs,SS K Hi Hin H' l S T vs fin refs kvs->Dn.nx [some (.int gap),x1,some (.ref S),some (.ref T),t',Y] H') :
  ∃ W:Nat->Nat->L2.St->Hp->Prop,(∃ m,W 0 m [some (.int gap),x1,some (.ref S),some (.ref T),t0,w0] H)/\∀ i m σ H,W i m σ H ->
   ((Itl K l).stop i H/\Dn.nx σ H)\/((Itl K l).go i H/\∃ N:L2.St->Hp->Prop,(∀ O H',N O H'->∃ Z,Z<m/\W (i+1) Z O H')/\∀ x H',(Itl K l).yld i H x H'->bc8 4 x σ H' λ ah H2=>tbS K {Dn with nx:=N,ct:=N,bk:=Dn.nx} ah H2):=by
 refine⟨λ i m σ H=>m=ds.length-i/\i<=ds.length/\∃ st refs kvs t' Y,σ=[some (.int gap),x1,some (.ref S),some (.ref T),t',Y]/\SS K Hi Hin H l S T vs st refs kvs/\Few i st/\G_3 gap (ds.drop i) st=some fin,
  ⟨ds.length,by simp,zx _,[],[],[],t0,w0,rfl,h0,⟨qr _,λ x hx=>by cases hx⟩,by simpa using go⟩,?_⟩
 rintro i m σ H1 ⟨rfl,hi,st,refs,kvs,t',Y,rfl,h1,af,hg⟩;by_cases ae:i<ds.length
 ·have hd:ds[i]?=some ds[i]:=by simp[ae]
  obtain⟨v,hv,rv⟩:=rs.get hd;rw[A_4 hd] at hg;obtain⟨t,k,u,ed,hg⟩:=aA4 hg;rw[ed] at rv hg;refine .inr ⟨⟨vs,v,SqL.of h1.hl,hv⟩,λ O H'=>∃ Z,Z<ds.length-i/\Z=ds.length-(i+1)/\i+1<=ds.length/\∃ st refs kvs t' Y,O=[some (.int gap),x1,some (.ref S),some (.ref T),t',Y]/\SS K Hi Hin H' l S T vs st refs kvs/\Few (i+1) st/\G_3 gap (ds.drop (i+1)) st=some fin,λ O H' ⟨Z,a,b⟩=>⟨Z,a,b⟩,λ x H' ac=>?_⟩;obtain⟨e1,e2⟩:=ac;have:=e2 vs (SqL.of h1.hl);rw[hv] at this;cases this;subst e1;exact aV3 h1 hs af (by omega) rv x1 Y _ λ H' ai aa ad hh=>⟨_,by omega,rfl,ae,_,aa,ad,_,ai,rfl,hh,bb6 af gap k t _,hg⟩
 ·have hn:ds.drop i=[]:=jc (by omega);rw[hn] at hg;have ag:some st=some fin:=hg;cases ag;exact .inl ⟨⟨vs,SqL.of h1.hl,by rw[<- rs.length];omega⟩,q H1 t' Y refs kvs h1⟩
section
variable {X:Cx}{pos:Pos}{e:Expr}{te:TE}
theorem pvr (i:Nat) {x:Str} (hN:X.N[i]?=some x:=by rfl) (hv:Vis X.env.scope x:=by first | exact Or.inl rfl | exact Or.inr (Or.inl rfl) | exact Or.inr (Or.inr rfl)) (hd:(x==("__debug__":Str))=false:=by decide)
  (O:(x==("__classdict__":Str))=false:=by decide):PE X (.Name x pos) (bN2 i):=i_4 hN hv hd O
theorem bh5 (i:Nat) {x:Str}{p1 p2 Z:Pos} (he:PE X e te) (hN:X.N[i]?=some x:=by rfl) (hv:Vis X.env.scope x:=by first | exact Or.inl rfl | exact Or.inr (Or.inl rfl) | exact Or.inr (Or.inr rfl)) (hd:(x==("__debug__":Str))=false:=by decide)
  (ae:(x==("__classdict__":Str))=false:=by decide) (Y:attributeBase (.Name x p1) "append" X.env (eval (.Name x p1) X.env)=eval (.Name x p1) X.env:=by rfl)
  (aa:((backTo Z (starEach [e] X.env)).all (λ x=>!x.1)&&(backToKw Z (keywordEach [] X.env)).all (λ x=>x.1.isSome)&&decide ([e].length+([]:List Keyword).length+(if ([]:List Keyword).isEmpty then 0 else 1)<30))=true:=by rfl)
  (O:(p2.endLine==Z.line)=true:=by rfl) (ac:starEach [e] X.env=(false,eval e X.env)::starEach [] X.env:=by rfl) (ad:(backTo Z (starEach [] X.env)).any (·.1)=false:=by rfl)
  (hs:swapsWith (.Call (.Attribute (.Name x p1) "append" p2) [e] [] Z) none pos.line X.env=pure false:=by rfl) :
  PS X (.Expr (.Call (.Attribute (.Name x p1) "append" p2) [e] [] Z) pos) (bB3 (tBM X.K "list" aX5 (bN2 i) (bB6 te bX2))) :=
 av1 (bo0 Zf PySem.F.slot_list_append PySem.F.type_list_append ax6 (i_4 hN hv hd ae) (c_5 he l_0 ac) Y aa O ac ad) hs
end
end Fx
namespace L2
open PySem PySem.Spec PyProof.Rows
end L2
namespace Fx
open PySem PySem.W L2
structure XC (K:Frag) (C:Addr):Prop where
 is:(clsIn K C).isSome=true
 ga:findIn K (.ref C) "__getattribute__"=some (some (.builtin "BaseException.__getattribute__"))
 gh:findIn K (.ref C) "__getattr__"=some none
 cl:findIn K (.ref C) "__class__"=some (some (.builtin "object.__class__"))
 ge:specialIn K (.builtin "object.__class__") "__get__"=some (some (.builtin "getset_descriptor.__get__"))
 tk:takesIn K (.builtin "object.__class__")=some true
 mo:mroIn K C (.type "object")=some true
 mb:mroIn K C (.type "BaseException")=some true
section
theorem XC.ty  (f:XC K C) (X:K.In h):Looks M h (isType (.ref C)) true:=by
 obtain⟨cd,O⟩:=Option.isSome_iff_exists.mp f.is;revert O;unfold clsIn;intro O;split at O
 ·rename_i Z o2 o3 Y hl;exact λ A Q E s k q=>qj (wpAny_loadPart (k C _ (X C _ hl)) (qk q))
 ·exact nomatch O
theorem XC.ck {tk:Tok} (f:XC K C) (X:K.In s.heap) (I:InstAt s.heap x ox C od) (h:Q () s) :
  wpAny (model prog w) A (checkBuiltinCall "BaseException.__getattribute__" ⟨[.ref x,.str n tk],[]⟩) Q E s:=by
 have e1:builtinKind "BaseException.__getattribute__"=some .slot:=by decide +kernel
 have e2:splitId "BaseException.__getattribute__"=some ("BaseException","__getattribute__"):=by decide +kernel
 have e3:=F.args_bexc_ga (.ref x) (.str n tk);obtain⟨Y,g,d,t,os⟩:=s;have O:Looks (model prog w) Y (isInstance (.ref x) (.type "BaseException")) true:=(I.type).andThen (looks_mroIn X f.mb);refine qj (O.at ?_);rw[if_neg (by decide)];exact wpAny_of_eq e3 h
theorem XC.ca  (f:XC K C) (X:K.In s.heap) (I:InstAt s.heap x ox C od) (h:Q (some (.ref C)) {s with toks:=s.toks+1}) :
  wpAny (model prog w) A (getAttr? (.ref x) "__class__") Q E s:=by
 have fo:findObj K C od "__class__"=some (.bind (.builtin "getset_descriptor.__get__") (.builtin "object.__class__")):=by obtain⟨cd,hc⟩:=Option.isSome_iff_exists.mp f.is;simp[findObj,hc,f.cl,f.ge,f.tk]
 obtain⟨hh,g,d,t,os⟩:=s;have O:=I.type (M:=model prog w);have Y:=looks_findIn (M:=model prog w) X f.ga;have L2:=looks_findIn (M:=model prog w) X f.gh;have L3:=looks_find (M:=model prog w) X I fo;have Z:(onTheHeap (.ref C)&&Value.builtin "BaseException.__getattribute__"==Value.builtin "object.__getattribute__")=false:=by rw[show (Value.builtin "BaseException.__getattribute__"==Value.builtin "object.__getattribute__")=false by decide +kernel];rfl
 refine qj (wpAny_mkText (qj (wpAny_attempt ?_)));refine yg (qj (O.at (qj (Y.at ?_))));dsimp only;rw[Z,if_neg (by decide)];unfold getAttrByItsOwn hookBefore;refine qj ?_;rw[show onTheHeap (.ref C)=true from rfl,if_pos rfl];refine L2.at (qj (wpAny_attempt (yg ?_)));unfold callGetattribute;rw[show (false&&onTheHeap (Value.builtin "BaseException.__getattribute__"))=false from rfl,if_neg (by decide)];refine qj (wpAny_of_eq (F.attr_ValueError.ga.bind (.ref x)) ?_);refine Q2 (Z2 F.attr_ValueError.ga.plain F.entry_bexc_ga (f.ck X I ?_));refine qj (qk (qj (qk (qj (O.at (qj (L3.at ?_)))))));refine qj (yg (Q2 (class_get X I f.mo (qk ?_))));exact handed_on rfl (qk h)
theorem XC.kitx (f:XC K C):KitX K (.ref x) (.ref C) (λ h=>InstAt h x ox C od) where
 ty:=λ _ _ _ I=>I.type
 it:=λ _ _ X _=>f.ty X
 ne:=λ h Y dd aa n sl X e=>by
  obtain⟨cd,O⟩:=Option.isSome_iff_exists.mp f.is;cases Z:(Value.ref C==Value.ref Y) with
  |false=>rfl
  |true =>
   obtain rfl:C=Y:=Value.ref.inj (beq_iff_eq.mp Z);revert O;unfold clsIn;intro O;split at O
   ·rename_i o1 o2 o3 o4 hl;exact nomatch (X C _ hl).symm.trans e
   ·exact nomatch O
 ca:=λ X I k=>f.ca X I k
end
noncomputable def rcd (c:Value) (vs:Array Value) (dd:Option Addr:=none):Obj:={cls:=c,dict:=dd,data:=.fields vs,slots:=#[]}
theorem bw9  (O:s.heap.get? a=some (rcd c vs dd)) (hk:k<vs.size)
  (h:∀ h',h'.get? a=some (rcd c (vs.setIfInBounds k x) dd)->Heap.SameBut a s.heap h'->Q () {s with heap:=h'}):wpAny (model prog w) A (setField (.ref a) k x) Q E s :=
 wpAny_setField O rfl hk (h _ (Qy _ O rfl) (Heap.SameBut.update s.heap a _))
def Aw (fs es:List Addr) (h h':Heap):Prop:=∀ b o,h.get? b=some o->b∉es->(b∉fs->h'.get? b=some o)/\∃ O,h'.get? b=some {o with slots:=O}
theorem Aw.of  (k:∀ b o,b∉es->h.get? b=some o->h'.get? b=some o):Aw fs es h h':=λ b o e n=>⟨λ _=>k b o n e,o.slots,k b o n e⟩
def Fly (h:Heap) (e T C:Addr) (dd:Option Addr) (Y:Value):Prop:=T≠e ∧ (∃ vs,h.get? e=some (rcd (.ref C) vs dd) ∧ vs[1]?=some (.ref T)) ∧ ∃ O,h.get? T=some (rcd (.type "traceback") O) ∧ O[3]?=some Y
section
variable {s:Shared}{L e C T:Addr}
theorem ai5  (hl:s.heap.FunFrames base l) (Z:s.heap.get? e=some (rcd c vs dd)):e∉frs l:=λ z=>by
 obtain⟨_,o,O,Y⟩:=hl.mem z;rw[Z] at O;cases O;exact Y vs rfl
theorem al2  (aa:A.frames=some (env::outer)) (hl:s.heap.FunFrames base (env::outer)) (hf:env.frame=some L)
  (he:s.heap.get? e=some (rcd (.ref C) vs dd)) (h1:1<vs.size) (k:∀ h' T,Aw (frs (env::outer)) [e] s.heap h'->s.heap.objs.size<=T->Fly h' e T C dd (rawInt L)->Q () {s with heap:=h'}) :
  wpAny (model prog w) A (do setField (.ref e) 1 (<- EntryCells.newEntry O (<- frameOf env) .none (rawInt L) .none (<- entryPlaceOf L nx))) Q E s:=by
 refine qj (wpAny_frameOf_fun aa hl hf λ g Z=>qj (wpAny_entryPlaceOf λ Y hp=>qj ?_));refine yp ?_ (hp.sizeOk5 O (.ref L) .none (rawInt L) .none);have hz:([O,.ref L,.none,rawInt L,.none]++(if Y.isEmpty then List.replicate 6 Value.none else Y)).toArray[3]?=some (rawInt L):=rfl;generalize ([O,.ref L,.none,rawInt L,.none]++(if Y.isEmpty then List.replicate 6 Value.none else Y)).toArray=ts at hz ⊢;have eg:=(Z.2.1 e (ai5 hl he)).trans he;refine bw9 (ql _ eg) h1 λ h' e1 sb=>?_;have te:=jb (qv eg);refine k h' g.objs.size (λ b o q n=>?_) (Nat.le_of_eq Z.1.symm) ⟨te,⟨_,e1,by simp[h1]⟩,ts,?_,hz⟩
 ·have be:b≠e:=λ z=>n (by simp[z]);have up:∀ o',g.get? b=some o'->h'.get? b=some o':=λ o' z=>(sb.2 b be).trans (ql _ z);obtain⟨sl,z⟩:=Z.2.2 b o q;exact⟨λ m=>up o ((Z.2.1 b m).trans q),sl,up _ z⟩
 ·exact (sb.2 _ te).trans (qt _ rfl)
theorem K_7  (O:A.frames=some (env::outer)) (hl:s.heap.FunFrames base (env::outer)) (Y:env.frame=some L)
  (Z:s.heap.get? e=some (rcd (.ref C) vs dd)) (h1:vs[1]?=some .none) (k:∀ h' T,Aw (frs (env::outer)) [e] s.heap h'->s.heap.objs.size<=T->Fly h' e T C dd (rawInt L)->Q () {s with heap:=h'}) :
  wpAny (model prog w) A (noteFrame (.ref e) env) Q E s:=by
 simp only[noteFrame,Y];refine qj (jg Z rfl h1 ?_);rw[show (Value.none != Value.none)=false from rfl,if_neg (by decide)];exact al2 O hl Y Z (Array.getElem?_eq_some_iff.mp h1).1 k
theorem G_4 (ac:A.frames=some (env::outer)) (hl:s.heap.FunFrames base (env::outer)) (hf:env.frame=some L) (x:Fly s.heap e T C dd .none)
  (k:∀ h' Z,Aw (frs (env::outer)) [e,T] s.heap h'->s.heap.objs.size<=Z->Fly h' e Z C dd (rawInt L)->Q () {s with heap:=h'}):wpAny (model prog w) A (noteFrame (.ref e) env) Q E s:=by
 obtain⟨te,⟨vs,he,h1⟩,ts,ht,h3⟩:=x;simp only[noteFrame,hf];refine qj (jg he rfl h1 ?_);rw[show (Value.ref T != Value.none)=true from rfl,if_pos rfl];refine qj (jg ht rfl h3 ?_);rw[show (Value.none==rawInt L)=false from rfl,if_neg (by decide)];refine qj (bw9 ht (Array.getElem?_eq_some_iff.mp h3).1 λ O e1 Y=>?_);have aa:=hl.of_keeps λ b o q n=>by
  have bt:b≠T:=λ z=>by subst z;rw[ht] at q;cases q;exact n ts rfl
  exact⟨o,(Y.2 b bt).trans q,rfl⟩
 refine al2 ac aa hf ((Y.2 e te.symm).trans he) (Array.getElem?_eq_some_iff.mp h1).1 λ h' Z a z f=>k h' Z (λ b o q n=>?_) (z0 (Nat.le_of_eq Y.1.symm) z) f;simp only[zl,zg,yf,not_or] at n;exact a b o ((Y.2 b n.2).trans q) (by simp[n.1])
theorem P_8  (x:Fly s.heap e T C dd fl) (k:∀ h',Heap.SameBut T s.heap h'->Fly h' e T C dd .none->Q () {s with heap:=h'}):wpAny (model prog w) A (setFlight (.ref e) none) Q E s:=by
 obtain⟨te,⟨vs,Y,h1⟩,ts,ht,h3⟩:=x;have Z:=(Array.getElem?_eq_some_iff.mp h3).1;refine qj (jg Y rfl h1 ?_);rw[show (Value.ref T != Value.none)=true from rfl,if_pos rfl];exact bw9 ht Z λ h' e1 O=>k h' O ⟨te,⟨vs,(O.2 e te.symm).trans Y,h1⟩,_,e1,by simp[Z]⟩
theorem W_3 (hf:env.frame=some L) (x:Fly s.heap e T C dd (rawInt L)) (k:Q () s):wpAny (model prog w) A (noteFrame (.ref e) env) Q E s:=by obtain⟨te,⟨vs,Y,h1⟩,ts,Z,O⟩:=x;simp only[noteFrame,hf];refine qj (jg Y rfl h1 ?_);rw[show (Value.ref T != Value.none)=true from rfl,if_pos rfl];refine qj (jg Z rfl O ?_);rw[if_pos (jo _)];exact qk k
theorem bs9  (x:Fly s.heap e T C dd fl) (k:∀ h',Heap.SameBut T s.heap h'->Fly h' e T C dd (rawInt L)->Q () {s with heap:=h'}) :
    wpAny (model prog w) A (do if (← field (.ref e) 1)==.none then unsupported "frame.own-activation:exception-without-traceback"
                               setFlight (.ref e) (some L)) Q E s:=by
  obtain⟨te,⟨vs,O,h1⟩,ts,ht,h3⟩:=x;have Z:=(Array.getElem?_eq_some_iff.mp h3).1;refine qj (jg O rfl h1 ?_);rw[show (Value.ref T==Value.none)=false from rfl,if_neg (by decide)];refine qj (jg O rfl h1 ?_);rw[show (Value.ref T != Value.none)=true from rfl,if_pos rfl];exact bw9 ht Z λ h' e1 Y=>k h' Y ⟨te,⟨vs,(Y.2 e te.symm).trans O,h1⟩,_,e1,by simp[Z]⟩
end
end Fx
namespace Fx
open PySem PySem.W PySem.Spec PyProof.Rows L2
def CXE (P:Program) (w:World):CXT:=λ outer H s E e s'=>∃ a T C dd H',e=.ref a/\s'.os=s.os/\AllBare s'.gens/\Un (frs outer) [] H H' s.heap s'.heap/\HOk P w H' s'.heap /\
 s.heap.get? a=none/\s.heap.get? T=none/\H' a=none/\H' T=none/\Fly s'.heap a T C dd .none/\E (.ref C) dd H'
theorem bb3 {P:Program}{w:World}{H:Hp}{h:Heap}{a:Addr}:∀ {o:HO},ObjOk P w H h a o->∃ u,h.get? a=some u
 |.lst _,⟨_,_,_,_,e⟩=>⟨_,e⟩
 |.tup _,⟨_,_,_,o,e,_⟩=>⟨_,e⟩
 |.dK _,⟨_,_,_,_,o,_,_,e,_⟩=>⟨_,e⟩
 |.dT _,⟨_,_,_,_,o,_,_,e,_⟩=>⟨_,e⟩
 |.set _ _,⟨_,_,_,_,e,_⟩=>⟨_,e⟩
 |.ins _ _ _,⟨_,_,_,e,_⟩=>⟨_,e⟩
 |.own _,e=>e
 |.xd _,⟨_,x,_⟩=>by obtain⟨o,_,_,e,_⟩:=x;exact⟨_,e⟩
 |.rng _ _,⟨_,_,_,e⟩=>⟨_,e⟩
 |.frz _ _,⟨e,_⟩=>⟨_,e⟩
 |.tbl _,⟨_,e,_⟩=>⟨_,e⟩
 |.cod _,⟨_,_,_,_,e,e2,_⟩=>by cases e;exact⟨_,e2⟩
 |.met _ _,e=>⟨_,e⟩
 |.ext _,⟨_,e,_⟩=>e
theorem z_1  (ok:HOk P w H h) (n:h.get? a=none):H a=none:=by
 cases e:H a with
 |none=>rfl
 |some o =>
  obtain⟨u,q⟩:=bb3 (ok a o e);rw[n] at q;cases q
section
variable {X:Cx}{pins:List (Addr×Obj)}{σ:L2.St}{H:Hp}{s:Shared}{h':Heap}{es:List Addr}
theorem aR9 {P:Program}{w:World}{H:Hp}{h h':Heap}{fs es:List Addr} (ok:HOk P w H h) (a:Aw fs es h h') (Y:∀ b∈fs,H b=none) (Z:∀ b∈es,H b=none):HOk P w H h':=λ b o e=>by
 have out:∀ c,H c≠none->c∉fs/\c∉es:=λ c n=>⟨λ z=>n (Y c z),λ z=>n (Z c z)⟩
 refine (ok b o e).stay (λ c u O q=>?_) (λ _ z=>z) (λ _ _ z=>z) (λ _ _ z=>z);have n:H c≠none:=by
  rcases O with rfl | O
  ·rw[e];exact Q7 _
  ·rw[O];exact Q7 _
 exact (a c u q (out c n).2).1 (out c n).1
def aq7 (X:Cx) (pins:List (Addr×Obj)) (H:Hp) (b:Addr):Prop :=
 H b=none/\b≠X.env.locals/\(b∈X.ex\/X.s₀.heap.get? b=none)/\(∀ x c,X.env.cells.lookup x=some c->c≠b)/\∀ p∈X.pn++pins,p.1≠b
theorem ax4  (I:Inv X pins σ H s) (n:s.heap.get? b=none) (Y:H' b=none):aq7 X pins H' b:=by
 refine⟨Y,λ z=>?_,?_,λ x c e z=>?_,λ p hp z=>?_⟩
 ·obtain⟨m,⟨o,_,_,q,_⟩,_⟩:=I.loc;rw[<- z,n] at q;cases q
 ·by_cases O:b∈X.ex
  ·exact .inl O
  ·refine .inr ?_;cases e:X.s₀.heap.get? b with
   |none=>rfl
   |some o =>
    obtain⟨o',q⟩:=I.base.there b o e O;rw[n] at q;cases q
 ·obtain⟨v,o,q,_⟩:=I.cell x c e;rw[z,n] at q;cases q
 ·have q:=(I.pin p hp).1;rw[z,n] at q;cases q
theorem L_1  (I:Inv X pins σ H s) (a:Aw (frs X.stack) es s.heap h') (he:∀ b∈es,aq7 X pins H b):Inv X pins σ H {s with heap:=h',toks:=t'}:=by
 have Y:∀ b o,X.s₀.heap.get? b=some o->b∉X.ex->b≠X.env.locals/\b∉es:=λ b o q O=>by
  refine⟨qy (qx (qv q) I.ok.above),λ z=>?_⟩;rcases (he b z).2.2.1 with y | y
  ·exact O y
  ·rw[q] at y;cases y
 have fr:∀ b,b≠X.env.locals->b∉X.fs->b∉frs X.stack:=λ b n m z=>(qz (I.stkSub b z)).elim n m;have un:=I.base;have Z:∀ x c v,X.env.cells.lookup x=some c->s.heap.IsCell c v->h'.IsCell c v:=λ x c v e aa=>by
  obtain⟨o,q,d⟩:=aa;obtain⟨_,sl,q'⟩:=a c o q λ z=>(he c z).2.2.2.1 x c e rfl;exact⟨_,q',d⟩
 refine⟨I.ok,I.os,I.bare,⟨λ b o q n hb O=>?_,λ b o q n hb O=>?_,un.free,λ b o q O=>?_,un.tups,un.frzs,un.tbls⟩,?_,λ x c e=>?_,I.free,I.freeC,λ p hp=>?_,aR9 I.hok a I.stkFree λ b z=>(he b z).1,I.len⟩
 ·exact (a b o (un.keep b o q n hb O) (Y b o q O).2).1 (fr b (Y b o q O).1 hb)
 ·obtain⟨sl,q1⟩:=un.slot b o q n hb O;obtain⟨_,ac,q2⟩:=a b _ q1 (Y b o q O).2;exact⟨ac,q2⟩
 ·obtain⟨o',q1⟩:=un.there b o q O;obtain⟨_,ac,q2⟩:=a b _ q1 (Y b o q O).2;exact⟨_,q2⟩
 ·obtain⟨m,⟨o,ad,ep,q,r⟩,hl⟩:=I.loc;obtain⟨_,sl,q'⟩:=a _ o q λ z=>(he _ z).2.1 rfl;refine⟨m,⟨_,ad,ep,q',r⟩,λ i x v e1 e2 e3=>?_⟩;obtain⟨u,rv,l⟩:=hl i x v e1 e2 e3;refine⟨u,rv,l.imp id ?_⟩;rintro ⟨k,c,e,z⟩;exact⟨k,c,e,Z x c _ e z⟩
 ·obtain⟨v,z⟩:=I.cell x c e;exact⟨v,Z x c v e z⟩
 ·obtain⟨q,n,ne,nf,d⟩:=I.pin p hp;exact⟨(a p.1 p.2 q λ z=>(he _ z).2.2.2.2 p hp rfl).1 (fr p.1 ne nf),n,ne,nf,d⟩
end
section
variable {K:Frag}
theorem aJ6  (I:Inv (R_5 (CXE P w) P w K mg base N qual scope f cd A outer s H E) pins σ H1 O)
  (fa:H1 a=none) (na:s.heap.get? a=none) (there:(∃ vs,O.heap.get? a=some (rcd (.ref C) vs dd)/\vs[1]?=some .none)\/∃ T Z,(Z=.none\/Z=rawInt s.heap.objs.size)/\H1 T=none/\s.heap.get? T=none/\Fly O.heap a T C dd Z) (e:E (.ref C) dd H1) :
  (R_5 (CXE P w) P w K mg base N qual scope f cd A outer s H E).xe (.ref a) O:=by
 have af:=I.stack;have ai:=I.ok.frames;have un:=I.base;have ag:∀ b,O.heap.get? b=none->s.heap.get? b=none:=λ b z=>by
  cases q:s.heap.get? b with
  |none=>rfl
  |some o =>
   obtain⟨o',q'⟩:=un.there b o q (by intro y;cases y);rw[z] at q';cases q'
 have hL:∀ b o,s.heap.get? b=some o->b≠s.heap.objs.size:=λ b o q=>qy (qv q);have fin:∀ (h':Heap) (T:Addr) (es:List Addr),Aw (frs (envOfC qual scope s.heap.objs.size f cd::outer)) es O.heap h'->(∀ b∈es,H1 b=none/\s.heap.get? b=none)->T∈es->Fly h' a T C dd .none->CXE P w outer H s E (.ref a) {O with heap:=h'}:=by
  intro h' T es aw Y hT Z;have ad:∀ b o,s.heap.get? b=some o->b∉es:=λ b o q z=>by rw[(Y b z).2] at q;cases q
  refine⟨a,T,C,dd,H1,rfl,I.os,I.bare,⟨λ b o q n hb _=>?_,λ b o q n hb _=>?_,λ b o q n hx=>un.free b o q n hx,λ b o q hx=>?_,un.tups,un.frzs,un.tbls⟩,aR9 I.hok aw (λ b z=>I.stkFree b z) (λ b z=>(Y b z).1),
   na,(Y T hT).2,fa,(Y T hT).1,Z,e⟩
  ·have q1:=un.keep b o q n hb (by intro z;cases z);refine (aw b o q1 (ad b o q)).1 λ z=>?_;rcases qz (show b∈s.heap.objs.size::frs outer from z) with z | z
   ·exact hL b o q z
   ·exact hb z
  ·obtain⟨sl,q1⟩:=un.slot b o q n hb (by intro z;cases z);obtain⟨_,ah,q2⟩:=aw b _ q1 (ad b o q);exact⟨ah,q2⟩
  ·obtain⟨o',q1⟩:=un.there b o q hx;obtain⟨_,ah,q2⟩:=aw b _ q1 (ad b o q);exact⟨_,q2⟩
 have aa:∀ (h':Heap) (T:Addr) (es:List Addr),Aw (frs (envOfC qual scope s.heap.objs.size f cd::outer)) es O.heap h'->O.heap.objs.size<=T->(∀ b∈es,H1 b=none/\s.heap.get? b=none)->Fly h' a T C dd (rawInt s.heap.objs.size) ->
   wpAny (model P w) (A.deeper (envOfC qual scope s.heap.objs.size f cd)) (setFlight (.ref a) none) (λ _ ae=>CXE P w outer H s E (.ref a) ae) (λ e' ae=>CXE P w outer H s E e' ae) {O with heap:=h'}:=by
  intro h' T es aw zT Y Z;have dT:=yu zT;refine P_8 Z λ h2 sb ac=>fin h2 T (T::es) (λ b o q n=>?_) (λ b z=>?_) (by simp) ac
  ·simp only[zl,not_or] at n;obtain⟨p1,sl,q1⟩:=aw b o q n.2;exact⟨λ m=>(sb.2 b n.1).trans (p1 m),sl,(sb.2 b n.1).trans q1⟩
  ·rcases qz z with rfl | z
   ·exact⟨z_1 I.hok dT,ag _ dT⟩
   ·exact Y b z
 show wpAny _ _ (leaving _ _) _ _ _;rcases there with ⟨vs,ea,h1⟩ | ⟨T,_,rfl | rfl,fT,nT,Z⟩
 ·exact qj (K_7 ai af rfl ea h1 λ h' T a1 z Z=>aa h' T [a] a1 z (by simpa using ⟨fa,na⟩) Z)
 ·exact qj (G_4 ai af rfl Z λ h' T' a1 z aj=>aa h' T' [a,T] a1 z (by simpa using ⟨⟨fa,na⟩,fT,nT⟩) aj)
 ·exact qj (W_3 rfl Z (P_8 Z λ h2 sb ac=>fin h2 T [T] (Aw.of λ b o n z=>(sb.2 b (by simpa using n)).trans z) (by simpa using ⟨fT,nT⟩) (by simp) ac))
def aS1 (X:Cx) (E:XK):Prop:=∀ (pins:List (Addr×Obj)) (σ:L2.St) (H:Hp) (s:Shared) (h':Heap) (e C:Addr) (args:List Value),Inv X pins σ H s->Heap.MadeExcOf s.heap h' e (.ref C) args->E (.ref C) none H->X.xe (.ref e) {s with heap:=h'}
theorem E_4:aS1 (R_5 (CXE P w) P w K mg base N qual scope f cd A outer s H E) E:=λ pins σ H1 Y h' e C args I x q=>by
 obtain⟨t,he,_,_⟩:=x.there;have Z:=I.un (t':=Y.toks) (h':=h') (Un.kept x.keeps) (I.hok.kept x.keeps);refine aJ6 Z (z_1 I.hok x.new) ?_ (.inl ⟨_,he,rfl⟩) q;cases z:s.heap.get? e with
 |none=>rfl
 |some o =>
  obtain⟨o',O⟩:=I.base.there e o z (by intro y;cases y);rw[x.new] at O;cases O
def af5 (X:Cx) (E:XK):Prop:=∀ (pins:List (Addr×Obj)) (σ:L2.St) (H:Hp) (s:Shared) (e C:Addr) (dd:Option Addr) (vs:Array Value),Inv X pins σ H s->H e=none->X.s₀.heap.get? e=none->s.heap.get? e=some (rcd (.ref C) vs dd)->vs[1]?=some .none->E (.ref C) dd H->X.xe (.ref e) s
end
abbrev bmV:List Value:=[.type "ValueError",.type "Exception",.type "BaseException",.type "object"]
theorem bz4 {K:Frag}{h:Heap}{C:Addr}{i:String} (X:K.In h) (x:excIn K C bmV i=true):∃ bm N nm q bs hd sn sub ab col dd k0 k1 k2 k3 k5 m,h.get? C=some (excClassObj nm q C N bs bm hd sn sub ab col dd k0 k1 k2 k3 k5 i) ∧ h.Ns N m ∧ m "__init__"=none ∧ OwnTail h bmV bm:=by
 revert x;unfold excIn;intro x;split at x
 case h_2=>cases x
 case h_1 dd c Z l =>
  split at x
  case h_2=>cases x
  case h_1 C' bm k0 k1 k2 k3 n k5 e1 e2 =>
   simp only[zj,beq_iff_eq,Bool.not_eq_true'] at x;obtain⟨⟨⟨⟨⟨x1,x2⟩,x3⟩,x4⟩,x5⟩,x6⟩:=x;have Y:=X C _ l;obtain⟨c1,c2,c3,c4,c5,c6,c7,c8,c9,O,aa⟩:=c;obtain⟨Z⟩:=Z;cases e1;cases x1;cases x2;cases x3;cases (show Z=_ from e2);exact⟨bm,c4,c1,c5,c2,c6,c7,c8,c9,O,dd,k0,k1,k2,k3,k5,h.nsMap c4,Y,.of_isNs (isNs_of_in X x5),nsMap_none_of_in X x5 x6,tail_of_in X x4⟩
section
variable {X:Cx}{E:XK}{x t:Str}{C:Addr}{j:Nat}{np p2 cpos pos:Pos}
theorem aW4 (hR:aS1 X E) (hc:X.calm=true) (hm:X.mg x=some (.ref C)) (hx:excIn X.K C bmV "ValueError.__new__"=true) (hg:Gl X x) (hd:(x==("__debug__":Str))=false)
  (hs:starEach [.Constant (.str t) j p2] X.env=[(false,eval (.Constant (.str t) j p2) X.env)]) :
  PS X (.Raise (some (.Call (.Name x np) [.Constant (.str t) j p2] [] cpos)) none pos) (λ _ _ H=>E (.ref C) none H):=by
 intro pins s σ H D I q;obtain⟨bm,N,nm,qn,bs,h6,sn,sub,ab,col,dd,k0,k1,k2,k3,k5,m,c1,c2,c3,Y⟩:=bz4 I.mod.kin hx;have ad:=hs▸c_5 (X:=X) (V_2 (x:=t) (j:=j) (pos:=p2)) l_0 hs cpos pins s σ H (λ vs H'=>H'=H/\vs.length=1) I ⟨rfl,rfl⟩;refine wpAny_Raise_call_subU (nm:=nm) (q:=qn) (N:=N) (bs:=bs) (bm:=bm) (hdct:=h6) (sn:=sn) (sub:=sub) (ab:=ab) (col:=col) (dd:=dd) (k0:=k0) (k1:=k1) (k2:=k2) (k3:=k3) (k5:=k5) Z6 (by decide)
  Z6 (Y.hasType (by decide)) (I.ok.hd hc) (by rw[hs];rfl) c3 (A_2 I hg hm ⟨rfl,hs▸Qd (thn ad λ us Z ⟨vs,H2,O,r,z,e⟩=>?_)⟩ hd)
 subst z;refine⟨rfl,?_,O.bk C _ c1,c2.keeps O.bk,Y.keeps O.bk,λ h' a x=>hR pins σ H2 Z h' a C us O x q⟩;rw[<- r.length,e];decide
end
end Fx
namespace Fx
open PySem
noncomputable abbrev XV:=Str×Option (Str×D)
inductive RX where
 |ok (r:Res) | ex (x:XV)
abbrev FX:=En->Option RX
noncomputable def okX (r:Res):Option RX:=some (.ok r)
def rS (A:FS) (ρ:En):Option RX:=bnd (A ρ) okX
def nxX (B:FX):RX->Option RX
 |.ok (.nx ρ)=>B ρ
 |r=>some r
def bF5 (A B:FX) (ρ:En):Option RX:=bnd (A ρ) (nxX B)
def ifX (A B:FX) (p:Bool×En):Option RX:=if p.1=true then A p.2 else B p.2
def rIf (T:FT) (A B:FX) (ρ:En):Option RX:=bnd (T ρ) (ifX A B)
def ab3 (x:Str) (_:En):Option RX:=some (.ex (x,none))
def N_5 (x f:Str) (o:Option (D×En)):Option RX:=bnd o λ p=>some (.ex (x,some (f,p.1)))
def N_6 (x f:Str) (F:FE) (ρ:En):Option RX:=N_5 x f (F ρ)
@[simp] theorem by0:N_6 x f F ρ=N_5 x f (F ρ):=yR rfl
@[simp] theorem bm2:N_5 x f (some (d,ρ))=some (.ex (x,some (f,d))):=yR rfl
def bx8:RX->Option (D ⊕ XV)
 |.ok r=>bnd (bx9 r) λ d=>some (.inl d)
 |.ex x=>some (.inr x)
def fnX (n k:Nat) (B:FX) (ds:List D):Option (D ⊕ XV):=if ds.length=n then bnd (B (ds.map .im++List.replicate k .no)) bx8 else none
@[simp] theorem rS_:rS A ρ=bnd (A ρ) okX:=yR rfl
@[simp] theorem ch0:okX r=some (.ok r):=yR rfl
@[simp] theorem ca6:nxX B (.ok (.nx ρ))=B ρ:=yR rfl
@[simp] theorem cx9 (B:FX) (d:D) (ρ:En):nxX B (.ok (.rt d ρ))=some (.ok (.rt d ρ)):=yR rfl
@[simp] theorem cx8 (B:FX) (x:XV):nxX B (.ex x)=some (.ex x):=yR rfl
@[simp] theorem bZ6:bF5 A B ρ=bnd (A ρ) (nxX B):=yR rfl
@[simp] theorem cb9:ifX A B (true,ρ)=A ρ:=yR rfl
@[simp] theorem cc0:ifX A B (false,ρ)=B ρ:=yR rfl
@[simp] theorem cg9:rIf T A B ρ=bnd (T ρ) (ifX A B):=yR rfl
@[simp] theorem ck8 (x:Str) (ρ:En):ab3 x ρ=some (.ex (x,none)):=yR rfl
@[simp] theorem bO9:bx8 (.ok (.nx ρ))=some (.inl .non):=yR rfl
@[simp] theorem cr5 (d:D) (ρ:En):bx8 (.ok (.rt d ρ))=some (.inl d):=yR rfl
@[simp] theorem bO8:bx8 (.ex x)=some (.inr x):=yR rfl
end Fx
namespace Fx
open PySem PySem.W PySem.Spec PyProof.Rows L2
def XD (K:Frag) (H0 H:Hp):Option (Str×D)->Option Addr->Prop
 |none,none=>True
 |some p,some dx=>∃ v,Rep K H0 p.2 v/\H dx=some (.xd [(p.1,v)])
 |_,_=>False
def PostX (K:Frag) (mg:Str->Option Value) (E:XK) (c:FC) (Dn:Ends) (H0:Hp):RX->Prop
 |.ok r=>Post K c Dn H0 r
 |.ex x=>∀ C dd O Y H0' H',mg x.1=some (.ref C)->Same H0 H0'->RS K c H0' H' O Y->XD K H0' H' x.2 dd->E (.ref C) dd H'
theorem PostX.mono {K:Frag} (s:Same H0 H1):∀ {r:RX},PostX K mg E c Dn H0 r->PostX K mg E c Dn H1 r
 |.ok _,h=>Post.mono s h
 |.ex _,h=>λ C dd O Y H0' H' m z=>h C dd O Y H0' H' m (s.trans z)
def tX (K:Frag) (mg:Str->Option Value) (E:XK) (F:FX):TS:=λ Dn σ H=>∃ c H0 ρ r,RS K c H0 H ρ σ/\F ρ=some r/\PostX K mg E c Dn H0 r
def XX1 (X:Cx) (E:XK) (st:Stmt) (F:FX):Prop:=PS X st (tX X.K X.mg E F)
def XX (X:Cx) (E:XK) (sts:List Stmt) (F:FX):Prop:=PSs X sts (tX X.K X.mg E F)
section
variable {st:Stmt}
theorem aP7  (h:rS S ρ=some r):∃ z,S ρ=some z/\r=.ok z:=by obtain⟨z,h1,h2⟩:=a_0 h;exact⟨z,h1,(qp h2).symm⟩
theorem xxs (h:XS X st S):XX1 X E st (rS S):=PS.wk h λ Dn σ H O=>by
 obtain⟨c,H0,ρ,r,R,f,q⟩:=O;obtain⟨z,h1,rfl⟩:=aP7 f;exact⟨c,H0,ρ,z,R,h1,q⟩
theorem bM7 (h:XSs X sts S):XX X E sts (rS S):=PSs.wk h λ Dn σ H O=>by
 obtain⟨c,H0,ρ,r,R,f,q⟩:=O;obtain⟨z,h1,rfl⟩:=aP7 f;exact⟨c,H0,ρ,z,R,h1,q⟩
theorem xx1 (h:XX1 X E st A):XX X E [st] A:=s_8 h
theorem xxC (h1:XX1 X E st A) (h2:XX X E sts B):XX X E (st::sts) (bF5 A B):=PSs.wk (k_9 h1 h2) λ Dn σ H O=>by
 obtain⟨c,H0,ρ,r,R,f,q⟩:=O;obtain⟨z,h,f⟩:=a_0 f;refine⟨c,H0,ρ,z,R,h,?_⟩
 match z,f with
 |.ok (.nx ρ1),f=>exact λ Y H0' H' s Z=>⟨c,H0',ρ1,r,Z,f,q.mono s⟩
 |.ok (.rt _ _),f=>cases f;exact q
 |.ok (.bk _),f=>cases f;exact q
 |.ok (.ct _),f=>cases f;exact q
 |.ex _,f=>cases f;exact q
theorem bM8  (hc:XT X c T) (ha:XX X E a A) (hb:XX X E b B):XX1 X E (.If c a b pos) (rIf T A B):=PS.wk (aY1 hc ha hb) λ Dn σ H Y=>by
 obtain⟨c,H0,ρ,r,R,f,q⟩:=Y;obtain⟨⟨k,O⟩,h1,f⟩:=a_0 f;refine⟨c,H0,ρ,k,O,R,h1,λ H1 Hh s1 Z=>?_⟩;cases k with
 |true=>rw[if_pos rfl];exact⟨c,H1,O,r,Z,f,q.mono s1⟩
 |false=>rw[if_neg zc];exact⟨c,H1,O,r,Z,f,q.mono s1⟩
theorem ac1 {x t:Str}{C:Addr}{j:Nat}{np p2 cpos pos:Pos} (Z:aS1 X E) (Y:X.mg x=some (.ref C)) (hx:excIn X.K C bmV "ValueError.__new__"=true) (hc:X.calm=true:=by rfl) (hg:Gl X x:=by rfl) (hd:(x==("__debug__":Str))=false:=by decide)
  (hs:starEach [.Constant (.str t) j p2] X.env=[(false,eval (.Constant (.str t) j p2) X.env)]:=by rfl):XX1 X E (.Raise (some (.Call (.Name x np) [.Constant (.str t) j p2] [] cpos)) none pos) (ab3 x) :=
 PS.wk (aW4 Z hc Y hx hg hd hs) λ Dn σ H O=>by
  obtain⟨c,H0,ρ,r,R,f,q⟩:=O;cases f;exact q C none ρ σ H0 H Y (Same.refl _) R trivial
end
def cc9 (K:Frag) (mg:Str->Option Value) (Hi H:Hp) (Q:VK) (E:XK):D ⊕ XV->Prop
 |.inl d=>∀ v Hi' H',Step Hi H Hi' H'->Rep K Hi' d v->Q v H'
 |.inr x=>∀ C dd Hi' H',mg x.1=some (.ref C)->Step Hi H Hi' H'->XD K Hi' H' x.2 dd->E (.ref C) dd H'
def spX (K:Frag) (mg:Str->Option Value) (g:List D->Option (D ⊕ XV)):Sp:=λ vs H Q E=>∃ Hi ds r,Same Hi H/\Reps K Hi ds vs/\g ds=some r/\cc9 K mg Hi H Q E r
structure DefX (P:Program) (w:World) (K:Frag) (mg:Str->Option Value) (base:Heap) (k:Nat) (x:Str) (g:List D->Option (D ⊕ XV)):Prop where
 ex:∃ f fd ps,FnOk P w K mg base (CXE P w) k f fd ps (spX K mg g)/\Binds K fd ps []/\keepIn K (.ref f)=true/\mg x=some (.ref f)
theorem bs6 {K:Frag}{st:Stmt} (F:Fun K x qual st f fd) (S:FnScope N ps (a_2 st)) (hn:ps.length=n) (hN:N.length=n+m)
  (hb:∀ (O:Value) (A:Around) (outer:List Env) (s:Shared) (H:Hp) (E:XK),Room k (A.deeper (envOfC qual (a_2 st) s.heap.objs.size f O))->XX (R_5 (CXE P w) P w K mg base N qual (a_2 st) f O A outer s H E) E (k_2 st) B) :
  FnOk P w K mg base (CXE P w) (k+1) f fd ps (spX K mg (fnX n m B)):=by
 have Z:∀ {ds:List D}{r:D ⊕ XV},fnX n m B ds=some r->ds.length=n/\∃ z,B (ds.map .im++List.replicate m .no)=some z/\bx8 z=some r:=λ {ds r} h=>by
  unfold fnX at h;split at h
  ·rename_i hl;obtain⟨z,h1,h2⟩:=a_0 h;exact⟨hl,z,h1,h2⟩
  ·cases h
 obtain⟨oc,od,kV,ae,pm,an,O,ct,ad,rfl,lk,aa⟩:=F.ex;refine bd1 lk aa S (λ vs H Q E h=>?_) λ A outer s H vs Q E hr h=>?_
 ·obtain⟨Hi,ds,d,_,r,e,_⟩:=h;rw[hn,<- r.length];exact (Z e).1
 ·obtain⟨Hi,ds,d,hs,r,e,q⟩:=h;obtain⟨hl,z,h1,h2⟩:=Z e;refine⟨_,hb O A outer s H E hr,⟨Hi,H,[]⟩,Hi,_,z,RS.start hs r (by rw[<- r.length];omega),h1,?_⟩
  match z,h2 with
  |.ok (.nx _),h2=>cases h2;exact λ Y H0' H' s0 R=>q .non H0' H' R.step (by rfl)
  |.ok (.rt _ _),h2=>cases h2;exact λ v Y H0' H' s0 R rv=>q v H0' H' R.step rv
  |.ok (.bk _),h2=>cases h2
  |.ok (.ct _),h2=>cases h2
  |.ex _,h2=>cases h2;exact λ C dd ac Y H0' H' m s0 R xd=>q C dd H0' H' m R.step xd
section
variable {X:Cx}{pins:List (Addr×Obj)}{σ:L2.St}{H:Hp}{s:Shared}{a:Addr}{o:Obj}
noncomputable abbrev q_9 (X:Cx) (a:Addr) (o:Obj):Cx:={X with pn:=(a,o)::X.pn}
theorem bG9 (k:X.Ok):(q_9 X a o).Ok:=⟨k.mod,k.kind,k.glob,k.blt,k.above,k.inj,k.has,k.cab,k.hd,k.frames,k.stk,k.exf,k.bs,k.bsz,k.noex,k.exfs,k.funs,k.frf,k.tab⟩
theorem bA5 (k:(q_9 X a o).Ok):X.Ok:=⟨k.mod,k.kind,k.glob,k.blt,k.above,k.inj,k.has,k.cab,k.hd,k.frames,k.stk,k.exf,k.bs,k.bsz,k.noex,k.exfs,k.funs,k.frf,k.tab⟩
theorem bh1 (I:Inv X pins σ H s) (q:s.heap.get? a=some o) (n:H a=none) (O:a≠X.env.locals) (Y:a∉X.fs) (d:∀ v,o.data≠.cell v):Inv X ((a,o)::pins) σ H s :=
 ⟨I.ok,I.os,I.bare,I.base,I.loc,I.cell,I.free,I.freeC,λ p hp=>by
  rcases zb hp with z | z
  ·exact I.pin p (List.mem_append.mpr (.inl z))
  ·rcases qz z with rfl | z
   ·exact⟨q,n,O,Y,d⟩
   ·exact I.pin p (List.mem_append.mpr (.inr z)),I.hok,I.len⟩
theorem bA7 (I:Inv X ((a,o)::pins) σ H s):Inv (q_9 X a o) pins σ H s :=
 ⟨bG9 I.ok,I.os,I.bare,I.base,I.loc,I.cell,I.free,I.freeC,λ p hp=>I.pin p (by simp at hp ⊢;rcases hp with rfl | z | z <;> simp[*]),I.hok,I.len⟩
theorem bp2 (I:Inv (q_9 X a o) pins σ H s):Inv X pins σ H s :=
 ⟨bA5 I.ok,I.os,I.bare,I.base,I.loc,I.cell,I.free,I.freeC,λ p hp=>I.pin p (qo _ hp),I.hok,I.len⟩
noncomputable abbrev ad4 (X:Cx) (a:Addr) (E:Value->Shared->Prop):Cx:={X with A:=X.A.mark (some (.ref a)),calm:=false,xe:=E}
theorem ak0 {E:Value->Shared->Prop} (I:Inv X pins σ H s) (b:Addr):Inv (ad4 X b E) pins σ H s :=
 let k:=I.ok
 ⟨⟨k.mod,k.kind,k.glob,k.blt,k.above,k.inj,k.has,k.cab,(λ z=>nomatch z),k.frames,k.stk,k.exf,k.bs,k.bsz,k.noex,k.exfs,k.funs,k.frf,k.tab⟩,I.os,I.bare,I.base,I.loc,I.cell,I.free,I.freeC,I.pin,I.hok,I.len⟩
theorem aF9  (ok:X.Ok) (I:Inv (ad4 X b E) pins σ H s):Inv X pins σ H s :=
 ⟨ok,I.os,I.bare,I.base,I.loc,I.cell,I.free,I.freeC,I.pin,I.hok,I.len⟩
theorem aK2 {i:Nat}{x:Str}{h':Heap}{v:Option Value}{t':Nat}{m:Str->Option Value} (I:Inv X pins σ H s) (hN:X.N.Nodup) (hi:X.N[i]?=some x) (hm:s.heap.Ns X.env.locals m) (hn:h'.Ns X.env.locals (λ y=>if y=x then v else m y)) (Z:Heap.SameBut X.env.locals s.heap h') :
  Inv X pins (σ.set i none) H {s with heap:=h',toks:=t'}:=by
 have Y:∀ b o,X.s₀.heap.get? b=some o->b≠X.env.locals:=λ b o q=>qy (qx (qv q) I.ok.above);refine⟨I.ok,I.os,I.bare,⟨λ b o e n hb hx=>(Z.2 b (Y b o e)).trans (I.base.keep b o e n hb hx),λ b o e n hb hx=>?_,I.base.free,λ b o e hx=>?_,I.base.tups,I.base.frzs,I.base.tbls⟩,?_,λ y c e=>?_,I.free,I.freeC,λ p hp=>?_,λ b u e=>?_,by simpa using I.len⟩
 ·obtain⟨sl,q⟩:=I.base.slot b o e n hb hx;exact⟨sl,(Z.2 b (Y b o e)).trans q⟩
 ·obtain⟨o',q⟩:=I.base.there b o e hx;exact⟨o',(Z.2 b (Y b o e)).trans q⟩
 ·obtain⟨m1,aa,hl⟩:=I.loc;obtain⟨oL,ae,ac,q1,d1,k1,f1⟩:=aa;obtain⟨ad,af,ag,q2,d2,k2,f2⟩:=hm;rw[q1] at q2;cases q2;rw[d1] at d2;cases d2;have mm:m=m1:=funext λ y=>(f2 y).symm.trans (f1 y);subst mm;refine⟨_,hn,λ j y u e1 e2 e3=>?_⟩;by_cases hj:j=i
  ·subst hj;rw[zr (by rw[I.len];exact (List.getElem?_eq_some_iff.mp hi).1)] at e2;cases e2
  ·rw[yc (yi hj)] at e2;obtain⟨w,r,l⟩:=hl j y u e1 e2 e3;have ne:y≠x:=λ z=>hj (P_3 hN e1 (z▸hi));refine⟨w,r,?_⟩;rcases l with ⟨k,e⟩ | ⟨k,c,e,z⟩
   ·exact .inl ⟨k,by simp[ne,e]⟩
   ·exact .inr ⟨k,c,e,z.sameBut Z (I.cne y c e)⟩
 ·obtain⟨w,z⟩:=I.cell y c e;exact⟨w,z.sameBut Z (I.cne y c e)⟩
 ·obtain⟨q,n,ne,nf,d⟩:=I.pin p hp;exact⟨(Z.2 p.1 ne).trans q,n,ne,nf,d⟩
 ·refine (I.hok b u e).stay (λ c w hc q=>(Z.2 c λ z=>?_).trans q) (λ _ q=>q) (λ _ _ q=>q) λ _ _ q=>q;subst z;have O:=I.free;rcases hc with rfl | hc
  ·rw[O] at e;cases e
  ·rw[O] at hc;cases hc
end
section
variable {X:Cx}{k:Nat}{x:Str}{g:List D->Option (D ⊕ XV)}{e0:Expr}{es:List Expr}{A:FA}{p pos:Pos}
def bV7 (X:Cx) (pins:List (Addr×Obj)) (σ:L2.St) (c:FC) (H0:Hp) (O:En) (y:XV) (e:Value) (s':Shared):Prop :=
 ∃ C a T dd H0' H',X.mg y.1=some (.ref C)/\e=.ref a/\Inv X pins σ H' s'/\Same H0 H0'/\RS X.K c H0' H' O σ/\aq7 X pins H' a/\aq7 X pins H' T/\Fly s'.heap a T C dd .none/\XD X.K H0' H' y.2 dd
theorem bW3 (hf:∀ e s,X.xe e s → False) (G:DefX X.prog X.w X.K X.mg X.base k x g) (hr:Room k X.A) (ha:XA X (e0::es) A) (hg:Gl X x) (ae:(x==("__debug__":Str))=false)
  (he:starEach (e0::es) X.env=(false,eval e0 X.env)::starEach es X.env) (ac:(backTo pos (starEach es X.env)).any (·.1)=false)
  {pins:List (Addr×Obj)}{s:Shared}{σ:L2.St}{H H0:Hp}{c:FC}{ρ O:En}{ds:List D}{r:D ⊕ XV} (I:Inv X pins σ H s) (R:RS X.K c H0 H ρ σ) (h1:A ρ=some (ds,O)) (h2:g ds=some r) :
  wpAny (model X.prog X.w) X.A (eval (.Call (.Name x p) (e0::es) [] pos) X.env) (λ _ s'=>(∃ d,r=.inl d)/\∃ H0' H',Inv X pins σ H' s'/\Same H0 H0'/\RS X.K c H0' H' O σ) (λ e s'=>∃ y,r=.inr y/\bV7 X pins σ c H0 O y e s') s:=by
 obtain⟨f,fd,ps,Fk,hb,hk,hm⟩:=G.ex;refine jt (A_2 I hg hm ?_ ae);refine callWith_K (h₀:=X.base) I.ok.mod.kin hk (zv (ha pos pins s σ H (λ vs H'=>∃ H0',Same H0 H0'/\RS X.K c H0' H' O σ/\Reps X.K H0' ds vs) I ⟨c,H0,ρ,ds,O,R,h1,λ vs H0' H' a b d=>⟨H0',a,b,d⟩⟩) (λ us s1 h=>?_) λ e s1 z=>(hf e s1 z).elim) he ac;obtain⟨vs,H1,Z,rv,H0',sm,R1,rp⟩:=h;refine⟨Z.kIn,?_⟩;have sp:spX X.K X.mg g vs H1 (λ _ H'=>(∃ d,r=.inl d)/\∃ H0'',Same H0 H0''/\RS X.K c H0'' H' O σ) (λ cl dd H'=>∃ y C H0'',r=.inr y/\X.mg y.1=some (.ref C)/\cl=.ref C/\Same H0 H0''/\RS X.K c H0'' H' O σ/\XD X.K H0'' H' y.2 dd):=by
  refine⟨H0',ds,r,R1.same,rp,h2,?_⟩;cases r with
  |inl d=>exact λ v Hi' H' S _=>⟨⟨d,rfl⟩,Hi',sm.trans S.s0,R1.after S⟩
  |inr y=>exact λ C dd Hi' H' m S xd=>⟨y,C,Hi',rfl,m,rfl,sm.trans S.s0,R1.after S,xd⟩
 have hl:us.length=ps.length:=by rw[<- rv.length];exact Fk.len _ _ _ _ sp
 have aa:=hb s1 us Z.kIn (by rw[zw];exact hl);rw[zw] at aa;refine Q2 (ja (Fk.run X.A X.stack s1 H1 ⟨us,[]⟩ us vs _ _ hr Z.env0 aa rv sp) λ z s' hq=>?_);cases z with
 |error e =>
  obtain⟨a,T,C,dd,H',rfl,os,gs,un,ok,na,nT,fa,fT,fl,y,C',H0'',hy,m,z,Y,R',xd⟩:=hq;cases z;obtain⟨hh,gg,d,t,ad⟩:=s';obtain rfl:ad=s1.os:=os;have I2:=Z.call (h':=hh) (g':=gg) (d':=d) (t':=t) (ch:=[]) un ok gs (λ b z=>absurd z (by simp));exact⟨y,hy,C,a,T,dd,H0'',H',m,rfl,I2,Y,R',ax4 Z na fa,ax4 Z nT fT,fl,xd⟩
 |ok fl =>
  cases fl with
  |ret u =>
   obtain⟨v,H',I2,_,hd,H0'',Y,R'⟩:=Z.after hq;exact⟨hd,H0'',H',I2,Y,R'⟩
  |next=>exact False.elim hq
  |brk=>exact False.elim hq
  |cont=>exact False.elim hq
end
theorem bv5 {K:Frag} (h:mroIn K c v=some b):(clsIn K c).isSome=true:=by
 unfold mroIn at h;cases e:clsIn K c with
 |none=>rw[e] at h;cases h
 |some d=>rfl
def XTr (H:Hp):Option Addr->Prop
 |none=>True
 |some O=>∃ fs,H O=some (.xd fs)
theorem XD.xt {K:Frag}{H0 H:Hp}:∀ {o:Option (Str×D)}{dd:Option Addr},XD K H0 H o dd->XTr H dd
 |_,none,_=>trivial
 |some _,some _,⟨_,_,e⟩=>⟨_,e⟩
 |none,some _,h=>h.elim
section
theorem bc2  (I:Inv (q_9 X a (rcd (.ref C) vs dd)) pins σ H s) (t:XTr H dd):∃ od,InstAt s.heap a (rcd (.ref C) vs dd) C od:=by
 have q:=(I.pin (a,rcd (.ref C) vs dd) (qm)).1;cases dd with
 |none=>exact⟨none,q,rfl,rfl,trivial⟩
 |some O =>
  obtain⟨fs,e⟩:=t;obtain⟨Z,⟨o,_,_,Y,_⟩,_⟩:=(show ObjOk _ _ H s.heap O (.xd fs) from I.hok O _ e);exact⟨some o,q,rfl,rfl,Y⟩
theorem u_7  (f:XC X.K C) (ru:∀ w,RelV v w → w=u) (hk:kitOne X.K (.ref C) u=some b):CallR (q_9 X a (rcd (.ref C) vs dd)) (.builtin "isinstance") (λ xs H Q=>xs=[.ref a,v] ∧ XTr H dd ∧ Q (.bl b) H):=by
 intro pins s σ H xs us Q I r h;obtain⟨rfl,xt,q⟩:=h;obtain⟨Z,u2,rfl,O,r2⟩:=aF5 r;obtain rfl:Z=.ref a:=O;obtain rfl:=ru u2 r2;obtain⟨od,Y⟩:=bc2 I xt;exact kia_one f.kitx I.kIn Y hk (λ z=>nomatch z) λ tk=>⟨.bl b,H,I.tok tk,rfl,q⟩
theorem V_3 {D:Addr} (O:Y.mg x=some (.ref D)) (Z:Gl Y x:=by rfl) (hd:(x==("__debug__":Str))=false:=by decide):PE Y (.Name x p) (tC (.ref D)):=λ pins s σ H Q I h=>A_2 I Z O ⟨.ref D,H,I,rfl,h⟩ hd
end
end Fx
namespace Fx
open PySem
def goX (G:FX):RX->Option RX
 |.ok (.nx ρ)=>G ρ
 |.ok (.ct ρ)=>G ρ
 |.ok (.bk ρ)=>some (.ok (.nx ρ))
 |z=>some z
def xGo (g:D->En->Option En) (B:FX):List D->FX
 |[],ρ=>some (.ok (.nx ρ))
 |d::r,ρ=>bnd (g d ρ) λ O=>bnd (B O) λ z=>goX (xGo g B r) z
theorem aU6 (g:D->En->Option En) (B:FX) (ρ:En):xGo g B [] ρ=some (.ok (.nx ρ)):=rfl
theorem af6 (g:D->En->Option En) (B:FX) (d:D) (r:List D) (ρ:En):xGo g B (d::r) ρ=bnd (g d ρ) λ O=>bnd (B O) λ z=>goX (xGo g B r) z:=rfl
def aW2 (g:D->En->Option En) (B:FX) (ρ:En) (o:Option (List D)):Option RX:=bnd o λ xs=>xGo g B xs ρ
def aW3 (g:D->En->Option En) (B:FX) (o:Option (D×En)):Option RX:=bnd o λ p=>aW2 g B p.2 (items p.1)
def ce4 (g:D->En->Option En) (F:FE) (B:FX) (ρ:En):Option RX:=aW3 g B (F ρ)
@[simp] theorem cx2 (g:D->En->Option En) (F:FE) (B:FX) (ρ:En):ce4 g F B ρ=aW3 g B (F ρ):=yR rfl
@[simp] theorem cl0 (g:D->En->Option En) (B:FX) (x:D) (ρ:En):aW3 g B (some (x,ρ))=aW2 g B ρ (items x):=yR rfl
@[simp] theorem ck9 (g:D->En->Option En) (B:FX) (ρ:En) (xs:List D):aW2 g B ρ (some xs)=xGo g B xs ρ:=yR rfl
def al0 (ρ:En):D ⊕ XV->Option RX
 |.inl _=>some (.ok (.nx ρ))
 |.inr x=>some (.ex x)
def al1 (g:List D->Option (D ⊕ XV)) (o:Option (List D×En)):Option RX:=bnd o λ p=>bnd (g p.1) (al0 p.2)
def E_7 (g:List D->Option (D ⊕ XV)) (A:FA) (ρ:En):Option RX:=al1 g (A ρ)
@[simp] theorem cr7 (g:List D->Option (D ⊕ XV)) (A:FA) (ρ:En):E_7 g A ρ=al1 g (A ρ):=yR rfl
@[simp] theorem cf6 (g:List D->Option (D ⊕ XV)) (ds:List D) (ρ:En):al1 g (some (ds,ρ))=bnd (g ds) (al0 ρ):=yR rfl
@[simp] theorem cf4 (ρ:En) (d:D):al0 ρ (.inl d)=some (.ok (.nx ρ)):=yR rfl
@[simp] theorem ce8 (ρ:En) (x:XV):al0 ρ (.inr x)=some (.ex x):=yR rfl
def cp2 (ρ:En):D ⊕ XV->Option (D×En)
 |.inl d=>some (d,ρ)
 |.inr _=>none
def ci4 (g:List D->Option (D ⊕ XV)) (o:Option (List D×En)):Option (D×En):=bnd o λ p=>bnd (g p.1) (cp2 p.2)
def eFX (g:List D->Option (D ⊕ XV)) (A:FA) (ρ:En):Option (D×En):=ci4 g (A ρ)
@[simp] theorem cA2 (g:List D->Option (D ⊕ XV)) (A:FA) (ρ:En):eFX g A ρ=ci4 g (A ρ):=yR rfl
@[simp] theorem cu0 (g:List D->Option (D ⊕ XV)) (ds:List D) (ρ:En):ci4 g (some (ds,ρ))=bnd (g ds) (cp2 ρ):=yR rfl
@[simp] theorem ct9 (ρ:En) (d:D):cp2 ρ (.inl d)=some (d,ρ):=yR rfl
end Fx
namespace Fx
open PySem PySem.W PySem.Spec PyProof.Rows L2
def Flt (X:Cx) (E:XK) (e:Value) (s':Shared):Prop:=∃ σ H1 a C dd,e=.ref a/\Inv X [] σ H1 s'/\H1 a=none/\X.s₀.heap.get? a=none /\
 ((∃ vs,s'.heap.get? a=some (rcd (.ref C) vs dd)/\vs[1]?=some .none)\/∃ T O,(O=.none\/O=rawInt X.env.locals)/\H1 T=none/\X.s₀.heap.get? T=none/\Fly s'.heap a T C dd O)/\E (.ref C) dd H1
section
theorem ai4  (hp:X.pn=[]) (I:Inv X [] σ H s) (q:s.heap.get? a=some (rcd c vs dd)) (h:H a=none) (n:X.s₀.heap.get? a=none):aq7 X [] H a:=by
 refine⟨h,λ z=>?_,.inr n,λ x c' e z=>?_,λ p m=>?_⟩
 ·obtain⟨m,⟨o,es,Y,O,d,_⟩,_⟩:=I.loc;rw[<- z,q] at O;cases O;cases d
 ·obtain⟨v,o,O,d⟩:=I.cell x c' e;rw[z,q] at O;cases O;cases d
 ·rw[hp] at m;cases m
theorem bd3 (O:X.stack=X.env::X.outer) (Y:X.env.frame=some X.env.locals) (hx:X.ex=[]) (hp:X.pn=[]):PassesOwn (model X.prog X.w) X.A X.env (Flt X E):=by
 rintro e s' ⟨σ,H1,a,C,dd,rfl,I,fa,na,th,q⟩;have fr:=I.ok.frames;rw[O] at fr;have st:=I.stack;rw[O] at st;have aa:∀ b,s'.heap.get? b=none->X.s₀.heap.get? b=none:=λ b z=>by
  cases w:X.s₀.heap.get? b with
  |none=>rfl
  |some o =>
   obtain⟨o',w'⟩:=I.base.there b o w (by rw[hx];intro y;cases y);rw[z] at w';cases w'
 have on:∀ (h':Heap) (T:Addr),Inv X [] σ H1 {s' with heap:=h'}->H1 T=none->X.s₀.heap.get? T=none->Fly h' a T C dd (rawInt X.env.locals)->cameBackBy (model X.prog X.w) X.A X.env (Flt X E) (.ref a) {s' with heap:=h'}:=λ h' T I' fT nT Z=>by
  unfold cameBackBy;rw[Y];refine bs9 Z λ h2 sb ac=>⟨σ,H1,a,C,dd,rfl,?_,fa,na,.inr ⟨T,_,.inr rfl,fT,nT,ac⟩,q⟩
  obtain⟨_,_,ts,ht,_⟩:=id Z;exact L_1 (es:=[T]) I' (Aw.of λ b o n z=>(sb.2 b (by simpa using n)).trans z) (by simpa using ai4 hp I' ht fT nT)
 rcases th with ⟨vs,ea,h1⟩ | ⟨T,_,rfl | rfl,fT,nT,Z⟩
 ·refine K_7 fr st Y ea h1 λ h' T aw z Z=>?_;have dT:=yu z;rw[<- O] at aw;exact on h' T (L_1 I aw (by simpa using ai4 hp I ea fa na)) (z_1 I.hok dT) (aa T dT) Z
 ·obtain⟨_,⟨vs,ea,_⟩,ts,ht,_⟩:=id Z;refine G_4 fr st Y Z λ h' T' aw z ad=>?_;have dT:=yu z;rw[<- O] at aw;exact on h' T' (L_1 I aw (by simpa using ⟨ai4 hp I ea fa na,ai4 hp I ht fT nT⟩)) (z_1 I.hok dT) (aa T' dT) ad
 ·exact W_3 Y Z (on s'.heap T I fT nT Z)
end
section
variable {K:Frag}
abbrev cxY (P:Program) (w:World) (K:Frag) (mg:Str->Option Value) (base:Heap) (N:List Str) (qual:Str) (scope:Scope) (f:Addr) (cd:Value) (A:Around) (outer:List Env) (s:Shared) (H:Hp) (E:XK):Cx :=
 (R_5 (CXE P w) P w K mg base N qual scope f cd A outer s H E).wish (Flt (R_5 (CXE P w) P w K mg base N qual scope f cd A outer s H E) E)
theorem bG3:PassesOwn (model P w) (cxY P w K mg base N qual scope f cd A outer s H E).A (cxY P w K mg base N qual scope f cd A outer s H E).env (cxY P w K mg base N qual scope f cd A outer s H E).xe :=
 bd3 rfl rfl rfl rfl
theorem au2:af5 (cxY P w K mg base N qual scope f cd A outer s H E) E:=λ pins σ H1 Z e C dd vs I Y ne O h1 q=>⟨σ,H1,e,C,dd,rfl,(I.pins_of (pins':=[]) λ p z=>nomatch z).unwish,Y,ne,.inl ⟨vs,O,h1⟩,q⟩
theorem q_0:W_4 (CXE P w) (cxY P w K mg base N qual scope f cd A outer s H E) E:=λ pins σ H1 Z e s2 I h=>by
 obtain⟨a,T,C,dd,H',rfl,os,gs,un,ok,na,nT,fa,fT,fl,q⟩:=h;obtain⟨hh,g,d,t,Y⟩:=s2;obtain rfl:Y=Z.os:=os;have I2:=I.call (h':=hh) (g':=g) (d':=d) (t':=t) (ch:=[]) un ok gs (λ b z=>absurd z (by simp));have O:∀ b,Z.heap.get? b=none->s.heap.get? b=none:=λ b z=>by
  cases q:s.heap.get? b with
  |none=>rfl
  |some o =>
   obtain⟨o',q'⟩:=I.base.there b o q (by intro y;cases y);rw[z] at q';cases q'
 exact⟨σ,H',a,C,dd,rfl,(I2.pins_of (pins':=[]) λ p z=>nomatch z).unwish,fa,O a na,.inr ⟨T,_,.inl rfl,fT,O T nT,fl⟩,q⟩
theorem bb5  (h:PSs (cxY P w K mg base N qual scope f cd A outer s H E) sts t):PSs (R_5 (CXE P w) P w K mg base N qual scope f cd A outer s H E) sts t:=λ pins Y σ H1 D I hw =>
 zv (h pins Y σ H1 D (I.wish _) hw) (λ _ _ q=>q.unwish) λ e s' O=>by
  obtain⟨σ,H1,a,C,dd,Z,I,fa,na,th,q⟩:=O;subst Z;exact aJ6 I fa na th q
end
theorem bs5 {K:Frag}{st:Stmt} (F:Fun K x qual st f fd) (S:FnScope N ps (a_2 st)) (Y:ps.length=n) (hN:N.length=n+m)
  (hb:∀ (O:Value) (A:Around) (outer:List Env) (s:Shared) (H:Hp) (E:XK),Room k (A.deeper (envOfC qual (a_2 st) s.heap.objs.size f O))->XX (cxY P w K mg base N qual (a_2 st) f O A outer s H E) E (k_2 st) B) :
  FnOk P w K mg base (CXE P w) (k+1) f fd ps (spX K mg (fnX n m B)):=bs6 F S Y hN λ O A outer s H E Z=>bb5 (hb O A outer s H E Z)
section
variable {X:Cx}{E:XK}{A:FA}{B:FX}{F:FE}{k:Nat}{x:Str}{g:List D->Option (D ⊕ XV)}{e0:Expr}{es:List Expr}{p pos p6:Pos}
theorem aa4 (hx:W_4 (CXE X.prog X.w) X E) (G:DefX X.prog X.w X.K X.mg X.base k x g) (hr:Room k X.A) (ha:XA X (e0::es) A) (hg:Gl X x:=by rfl) (ac:(x==("__debug__":Str))=false:=by decide)
  (he:starEach (e0::es) X.env=(false,eval e0 X.env)::starEach es X.env:=by rfl) (aa:(backTo pos (starEach es X.env)).any (·.1)=false:=by rfl) (Z:swapsWith (.Call (.Name x p) (e0::es) [] pos) none p6.line X.env=pure false:=by rfl) :
  XX1 X E (.Expr (.Call (.Name x p) (e0::es) [] pos) p6) (E_7 g A):=by
 obtain⟨f,fd,ps,Fk,hb,hk,hm⟩:=G.ex;refine PS.wk (av1 (N_7 Fk hr hg hm hk hb .nil hx ha ac he aa) Z) λ Dn σ H Y=>?_;obtain⟨c,H0,ρ,r,R,f,q⟩:=Y;unfold E_7 al1 at f;obtain⟨⟨ds,O⟩,h1,f⟩:=a_0 f;obtain⟨z,h2,f⟩:=a_0 f;refine⟨c,H0,ρ,ds,O,R,h1,λ vs H1 Hh s1 R1 r1=>⟨H1,ds,z,R1.same,by rw[zw];exact r1,h2,?_⟩⟩;cases z with
 |inl d=>cases f;exact λ v Hi' H' S _=>q σ Hi' H' (s1.trans S.s0) (R1.after S)
 |inr y=>cases f;exact λ C dd Hi' H' m S xd=>q C dd O σ Hi' H' m (s1.trans S.s0) (R1.after S) xd
theorem aZ4:W_4 (CXE X.prog X.w) X E0:=λ _ _ _ _ _ _ _ ⟨_,_,_,_,_,_,_,_,_,_,_,_,_,_,_,q⟩=>q.elim
theorem xFX (G:DefX X.prog X.w X.K X.mg X.base k x g) (hr:Room k X.A) (ha:XA X (e0::es) A) (hg:Gl X x:=by rfl) (Z:(x==("__debug__":Str))=false:=by decide)
  (he:starEach (e0::es) X.env=(false,eval e0 X.env)::starEach es X.env:=by rfl) (Y:(backTo pos (starEach es X.env)).any (·.1)=false:=by rfl):XE X (.Call (.Name x p) (e0::es) [] pos) (eFX g A):=by
 obtain⟨f,fd,ps,Fk,hb,hk,hm⟩:=G.ex;refine PE.wk (N_7 Fk hr hg hm hk hb .nil aZ4 ha Z he Y) λ σ H Q O=>?_;obtain⟨c,H0,ρ,d,ac,R,z,q⟩:=O;unfold eFX ci4 at z;obtain⟨⟨ds,aa⟩,h1,z⟩:=a_0 z;obtain⟨y,h2,z⟩:=a_0 z;cases y with
 |inr _=>cases z
 |inl d1 =>
  cases z;exact⟨c,H0,ρ,ds,_,R,h1,λ vs H1 Hh s1 R1 r1=>⟨H1,ds,_,R1.same,by rw[zw];exact r1,h2,λ v Hi' H' S rv=>q v Hi' H' (s1.trans S.s0) (R1.after S) rv⟩⟩
theorem by8 {K:Frag}{mg:Str->Option Value}{c:FC}{H1 Hh:Hp}{ρ:En}{σ:L2.St}{g:GD}{B:FX}{xs:List D}{J:It}{Dn:Ends}{r:RX} (R:RS K c H1 Hh ρ σ) (hf:xGo g B xs ρ=some r) (hy:z_3 K J H1 xs) (q:PostX K mg E c Dn H1 r) :
  ∃ W:Nat->Nat->L2.St->Hp->Prop,(∃ m,W 0 m σ Hh)/\∀ i m σ H,W i m σ H ->
   (J.stop i H/\Dn.nx σ H)\/(J.go i H/\∃ N:L2.St->Hp->Prop,(∀ O H',N O H'->∃ m',m'<m/\W (i+1) m' O H')/\∀ x H',J.yld i H x H'->tG K g x σ H' λ ad H2=>tX K mg E B {Dn with nx:=N,ct:=N,bk:=Dn.nx} ad H2):=by
 refine⟨λ i m σ H=>m=xs.length-i/\i<=xs.length/\∃ H0 ρ,Same H1 H0/\RS K c H0 H ρ σ/\xGo g B (xs.drop i) ρ=some r,⟨xs.length,by simp,zx _,H1,ρ,Same.refl _,R,by simpa using hf⟩,?_⟩;rintro i m σ H ⟨rfl,hi,H0,ρ,s0,R0,Y⟩;obtain⟨y1,y2⟩:=hy H0 H i s0 R0.same;by_cases aa:i<xs.length
 ·have hd:xs[i]?=some xs[i]:=by simp[aa]
  obtain⟨go,yl⟩:=y1 _ hd;refine .inr ⟨go,λ O H'=>∃ m',m'<xs.length-i/\m'=xs.length-(i+1)/\i+1<=xs.length/\∃ H0 ρ,Same H1 H0/\RS K c H0 H' ρ O/\xGo g B (xs.drop (i+1)) ρ=some r,λ O H' ⟨m',a,b⟩=>⟨m',a,b⟩,λ x H' hx=>?_⟩;obtain⟨rfl,rx⟩:=yl x H' hx;rw[A_4 hd,af6] at Y;obtain⟨ac,g1,Y⟩:=a_0 Y;obtain⟨z,g2,Y⟩:=a_0 Y;refine⟨c,H0,ρ,_,ac,R0,rx,g1,λ af H2 Hh2 s2 R2=>⟨c,H2,ac,z,R2,g2,?_⟩⟩
  match z,Y with
  |.ok (.nx ρ2),Y=>exact λ O H3 Hh3 s3 Z=>⟨_,by omega,rfl,aa,H3,ρ2,s0.trans (s2.trans s3),Z,Y⟩
  |.ok (.ct ρ2),Y=>exact λ O H3 Hh3 s3 Z=>⟨_,by omega,rfl,aa,H3,ρ2,s0.trans (s2.trans s3),Z,Y⟩
  |.ok (.bk ρ2),Y=>cases Y;exact λ O H3 Hh3 s3 Z=>q O H3 Hh3 (s0.trans (s2.trans s3)) Z
  |.ok (.rt d ρ2),Y=>cases Y;exact λ v O H3 Hh3 s3 Z r3=>q v O H3 Hh3 (s0.trans (s2.trans s3)) Z r3
  |.ex y,Y=>cases Y;exact λ C dd ae O H3 Hh3 m s3 Z xd=>q C dd ae O H3 Hh3 m (s0.trans (s2.trans s3)) Z xd
 ·have hn:xs.drop i=[]:=jc (by omega);rw[hn,aU6] at Y;cases Y;exact .inl ⟨y2 (by omega),q σ H0 H s0 R0⟩
theorem cj3 {tg iter:Expr}{body:List Stmt}{g:GD} (hp:PassesOwn (model X.prog X.w) X.A X.env X.xe) (hg:XG X tg g) (hi:XE X iter F) (hb:XX X E body B) (hc:X.calm=true:=by rfl) (hs:∀ x,foldedSetIterable iter X.env x=pure x:=by intro _;rfl) :
  XX1 X E (.For tg iter body [] pos) (ce4 g F B):=PS.wk (ah6 hp hc (av6 hi) hg hb hs) λ Dn σ H O=>by
 obtain⟨c,H0,ρ,r,R,f,q⟩:=O;unfold ce4 aW3 at f;obtain⟨⟨d,aa⟩,h1,f⟩:=a_0 f;unfold aW2 at f;obtain⟨xs,h2,f⟩:=a_0 f;exact m_8 R h1 h2 λ J H1 Hh s1 Y Z=>by8 Y f Z (q.mono s1)
end
end Fx
namespace Fx
open PySem PySem.W PySem.Spec PyProof.Rows L2 Builtin.ObjectAttr
def ab4:List Value->Bool
 |[]=>false
 |v::r=>v::r==bmV||match v with
  |.ref _=>ab4 r
  |_=>false
theorem bp1  (h:ab4 (v::r)=true):v::r=bmV\/∃ c,v=.ref c/\ab4 r=true:=by
 rcases Bool.or_eq_true_iff.mp h with h | h
 ·exact .inl (beq_iff_eq.mp h)
 ·cases v with
  |ref c=>exact .inr ⟨c,rfl,h⟩
  |_=>cases h
theorem aQ1 (self:Value):∀ {l:List Value},ab4 l=true → refuseLoop self "__setattr__" l=pure () ∧ l.contains (.type "object")=true
 |[],e=>nomatch e
 |v::r,e=>by
  rcases bp1 e with h | ⟨c,rfl,h⟩
  ·rw[h];exact⟨PySem.F.store_ValueError.passes self,by decide⟩
  ·obtain⟨a,b⟩:=aQ1 self h;exact⟨(refuseLoop_ref ..).trans a,by rw[List.contains_cons,b,Bool.or_true]⟩
section
variable {K:Frag}
structure XS1 (K:Frag) (C:Addr) (name:Str):Prop where
 sa:findIn K (.ref C) "__setattr__"=some (some (.builtin "object.__setattr__"))
 na:findIn K (.ref C) name=some none
 cl:∃ cd,clsIn K C=some cd/\ab4 cd.mro=true/\cd.hasDict=true
theorem aB3  (X:K.In s.heap) (f:XS1 K C name) (he:s.heap.get? e=some (rcd (.ref C) vs))
  (h:∀ h' dx tk,dx=s.heap.objs.size->h'.get? e=some (rcd (.ref C) vs (some dx))->h'.Ns1 dx (λ y=>if y=name then some v else none)->(∀ b o,b≠e->s.heap.get? b=some o->h'.get? b=some o)->dx≠e->Q () {s with heap:=h',toks:=tk}) :
  wpAny (model prog w) A (setAttr (.ref e) name v) Q E s:=by
 obtain⟨O,g,d,t,os⟩:=s;have I:InstAt O e (rcd (.ref C) vs) C none:=⟨he,rfl,rfl,trivial⟩;obtain⟨cd,hc,ho,hd⟩:=f.cl;obtain⟨p1,p2⟩:=aQ1 (.ref e) ho;have ne:cd.mro.isEmpty=false:=by
  cases z:cd.mro with
  |nil=>rw[z] at ho;cases ho
  |cons _ _=>rfl
 have Y:=PySem.F.store_object;have L0:=I.type (M:=model prog w);have Lc:=looks_clsIn (M:=model prog w) X hc;have sub:Looks (model prog w) O (isInstance (.ref e) (.type "object")) true:=L0.andThen (looks_mroIn X (by unfold mroIn;rw[hc,Option.bind_some,ne,p2];rfl));have hm:Looks (model prog w) O (mroOf (.ref C)) cd.mro:=Lc.andThen .now;have La:=looks_findIn (M:=model prog w) X f.na;refine set_plain X I f.sa ?_;refine Z2 Y.slot.plain Y.entry (@check_slot (model prog w) _ _ ⟨O,g,d,t+1,os⟩ "object.__setattr__" "object" "__setattr__" (.ref e) [.str name t,v] [] _ Y.kind Y.split sub (Y.args (.ref e) (.str name t) v) ?_);rw[osa_eq,refuse_eq];refine qj (qj (L0.at (qj (hm.at ?_))));rw[p1];refine qk (qj (L0.at (qj (La.at (qj (qk ?_))))));refine qj (qk (qj (qj (wpAny_loadPart he (qj (Lc.at ?_))))));rw[hd];have big:=qy (qv he);have Z:=ql {cls:=.type "dict",data:=.dict #[]} he;refine qj (wpAny_alloc' (qj (wpAny_update' Z (qk ?_))));generalize hU:(O.push {cls:=.type "dict",data:=.dict #[]}).update e (λ o=>{o with dict:=some O.objs.size})=U;have gd:U.get? O.objs.size=some {cls:=.type "dict",data:=.dict #[]}:=by rw[<- hU];exact (Z7 _ _ _ _ big.symm).trans (Heap.get?_push_at rfl rfl)
 have ge:U.get? e=some (rcd (.ref C) vs (some O.objs.size)):=by rw[<- hU];exact Qy _ Z rfl
 have go:∀ b o,b≠e->O.get? b=some o->U.get? b=some o:=λ b o n q=>by
  rw[<- hU];exact (Z7 _ _ _ _ n).trans (ql _ q)
 have nd:U.Ns O.objs.size (λ _=>none):=⟨_,#[],_,gd,rfl,λ _ z=>absurd z (by simp),λ _=>rfl⟩;show wpAny _ _ (storeInDict O.objs.size (.str name t) name v) _ _ _;refine qj (qk (qj (wpAny_nsSet1 (Heap.Ns1.of_empty nd) λ h' n1 sb=>?_)));obtain⟨oD,es,ep,q1,q2,q3⟩:=n1.count (Within.cons name v Within.nil);refine qj (wpAny_lookBehind q1 ?_ (qk ?_))
 ·rw[q2];exact pastItsLine_dict (z0 q3 (show 1<=sizeLine+1 by decide))
 ·exact h h' O.objs.size _ rfl ((sb.2 e big).trans ge) n1 (λ b o n q=>(sb.2 b (qy (qv q))).trans (go b o n q)) big.symm
end
noncomputable abbrev ah3 (e:Addr) (o:Obj):HO:=.ext λ _ _ h=>h.get? e=some o
theorem aP6  (q:h.get? e=some o):ObjOk P w H h e (ah3 e o):=⟨q,⟨o,q⟩,λ _ _ a k=>k o a⟩
section
def bE0 (K:Frag) (ta tv:TE) (f:Str):TS:=λ Dn σ H=>tv σ H λ y H1=>ta σ H1 λ x H2=>∃ e C vs,x=.ref e/\XS1 K C f/\H2 e=some (ah3 e (rcd (.ref C) vs))/\∀ O,H2 O=none->O≠e->Dn.nx σ (upd (upd H2 O (.xd [(f,y)])) e (ah3 e (rcd (.ref C) vs (some O))))
theorem aY2 (ha:PE X o ta) (hv:PE X value tv) (hs:swapsWith value (some (.Attribute o f pos')) pos.line X.env=pure false):PS X (.Assign [.Attribute o f pos'] value pos) (bE0 X.K ta tv f):=by
 intro pins s σ H D I h;refine plainObj_wpAny_Assign_Attribute (thn (hv pins s σ H _ I h) λ u s1=>ex5 λ y H1 I1 ry q=>thn (ha pins s1 σ H1 _ I1 q) λ ov O=>ex5 λ x H2 Y rx q2=>?_) hs;obtain⟨e,C,vs,rfl,c,he,q3⟩:=q2;obtain rfl:ov=.ref e:=rx;obtain⟨q,_,_⟩:=(show ObjOk _ _ H2 O.heap e (ah3 e (rcd (.ref C) vs)) from Y.hok e _ he);refine aB3 Y.kIn c q λ h' dx tk ed g1 g2 g3 ne=>?_;subst ed;have fr:=Y.fresh;obtain⟨Z,es,ep,k1,k2⟩:=id g2;have J1:Inv X pins σ (upd H2 O.heap.objs.size (.xd [(f,y)])) {O with heap:=O.heap.push Z}:=by
  refine Y.laid (t':=O.toks) (λ b u z=>ql _ z) (qr _) ⟨_,⟨Z,es,ep,qt _ ?_,k2⟩,λ n=>?_⟩
  ·exact (Heap.get?_some_iff.mp k1).2
  ·by_cases z:n=f
   ·subst z;simpa [List.lookup,RelO] using ry
   ·simp[List.lookup,beq_false_of_ne z,z,RelO]
 have J2:=J1.write (t':=tk) (x:=e) (e:=e) (o:=ah3 e (rcd (.ref C) vs (some O.heap.objs.size))) (h':=h') (by rw[b_2 ne.symm,he];trivial) (.inl rfl) (λ b u n z=>?_) ⟨_,g1⟩ (aP6 g1)
 ·exact⟨σ,_,J2,q3 _ fr ne⟩
 ·rcases Heap.get?_push_cases z with ⟨rfl,rfl⟩ | z
  ·exact k1
  ·exact g3 b u n z
end
end Fx
namespace Fx
open PySem PySem.W PySem.Spec PyProof.Rows L2
section
variable {prog:Program}{w:World}{A:Around}{E:Value->Shared->Prop}{h:Heap}{g:Array GenState}{d:Drawn}{t:Nat}{os:OsState}
variable {nm qn:Str}{C N fI:Addr}{bs bm:List Value}{hd:Bool}{sn:List Str}{sub:List Value}{ab:Bool}{col:Option Bool}{dd:Option Addr}{k0 k1 k2 k3 k5:Option Value}{mN:Str->Option Value}{oI:Obj}{us:List Value}
noncomputable abbrev clX (nm qn:Str) (C N:Addr) (bs bm:List Value) (hd:Bool) (sn:List Str) (sub:List Value) (ab:Bool) (col:Option Bool) (dd:Option Addr) (k0 k1 k2 k3 k5:Option Value):Obj:=excClassObj nm qn C N bs bm hd sn sub ab col dd k0 k1 k2 k3 k5 "ValueError.__new__"
theorem bk3  (T:OwnTail h bmV bm) (O:h.get? C=some (clX nm qn C N bs bm hd sn sub ab col dd k0 k1 k2 k3 k5)) (nN:h.Ns N mN) (hi:mN "__init__"=some (.ref fI)) (gI:h.get? fI=some oI) (cI:oI.cls=.type "function") (hz:us.length ≤ sizeLine)
  (go:∀ h' e,h.objs.size<=e->Heap.MadeExcOf h h' e (.ref C) us->wpAny (model prog w) A (call (.ref fI) (.ref e::us)) (λ r s'=>r=.none/\Q (.done (.ret (.ref e))) s') E ⟨h',g,d,t,os⟩) :
  wpAny (model prog w) A (Builtin.«type.__call__» ⟨.ref C::us,[]⟩) Q E ⟨h,g,d,t,os⟩:=by
 have B:=Z6;have Z:bmV.contains (.type "ValueError")=true:=by decide
 repeat (first
  |with_reducible refine Qv O ?_
  |with_reducible refine wpAny_madeBy_exc O ?_
  |wp_step)
 refine codeAny_call_builtin_code (Code.quiet_builtin _ B.quiet) (wpAny_check_new_subU B Z T O ?_);refine codeAny_exc_new_subU B Z B T O ?_ hz;have Y:∀ b o,h.get? b=some o → ((h.push {cls:=.type "tuple",data:=.seq us.toArray}).push {cls:=.ref C,data:=.fields #[.ref h.objs.size,.none,.none,.none,.bool false,.none]}).get? b=some o:=λ b o q=>ql _ (ql _ q);have ge:((h.push {cls:=.type "tuple",data:=.seq us.toArray}).push {cls:=.ref C,data:=.fields #[.ref h.objs.size,.none,.none,.none,.bool false,.none]}).get? (h.objs.size+1)=some {cls:=.ref C,data:=.fields #[.ref h.objs.size,.none,.none,.none,.bool false,.none]}:=Heap.get?_push_at (by rw[Heap.size_push]) rfl;have gt:((h.push {cls:=.type "tuple",data:=.seq us.toArray}).push {cls:=.ref C,data:=.fields #[.ref h.objs.size,.none,.none,.none,.bool false,.none]}).get? h.objs.size=some {cls:=.type "tuple",data:=.seq us.toArray}:=ql _ (qt _ rfl);generalize (h.push {cls:=.type "tuple",data:=.seq us.toArray}).push {cls:=.ref C,data:=.fields #[.ref h.objs.size,.none,.none,.none,.bool false,.none]}=U at *;have cU:=Y _ _ O;have nU:U.Ns N mN:=let ⟨o,es,ep,q,r⟩:=nN;⟨o,es,ep,Y _ _ q,r⟩;have TU:=T.keeps Y;have self:(Value.ref C::bm).contains (.ref C)=true:=by simp
 repeat (first
  |with_reducible refine Qv ge ?_
  |(with_reducible refine wpAny_isSubtype_exc cU ?_;rw[self])
  |wp_step)
 refine wpAny_typeLookup_tail cU nU TU B.mroIs B.init.lookup ?_;rw[hi];refine yg (qj ?_);refine qj (Za ⟨_,Y _ _ gI,cI⟩ ?_);rw[if_pos (by decide)];refine qk (qj (zv (go U (h.objs.size+1) (Zd _) ⟨Y,yu (Zd _),h.objs.size,ge,yu (qr _),gt⟩) (λ r s' z=>?_) λ _ _ z=>z));obtain⟨rfl,z⟩:=z;wp_walk;exact z
theorem bL4  (T:OwnTail h bmV bm) (O:h.get? C=some (clX nm qn C N bs bm hd sn sub ab col dd k0 k1 k2 k3 k5)) (nN:h.Ns N mN) (hi:mN "__init__"=some (.ref fI)) (Z:h.get? fI=some oI) (Y:oI.cls=.type "function") (hz:us.length ≤ sizeLine)
  (go:∀ h' e,h.objs.size ≤ e → Heap.MadeExcOf h h' e (.ref C) us → wpAny (model prog w) (A.under (.builtin "type.__call__" ⟨.ref C::us,[]⟩)) (call (.ref fI) (.ref e::us)) (λ r s'=>r=.none ∧ Q (.ref e) s') E ⟨h',g,d,t,os⟩) :
  wpAny (model prog w) A (call (.ref C) us) Q E ⟨h,g,d,t,os⟩:=by
 have l1:=tc_lookup;have l2:=tc_bind (.ref C);have ty:(⟨h,g,d,t,os⟩:Shared).TypeIs (.ref C) "type":=⟨_,O,rfl⟩;refine Q2 (codeAny_of_tree ?_)
 repeat (any_goals (first
  |assumption
  |with_reducible refine Qv O ?_
  |wp_step))
 refine⟨rfl,codeAny_call_builtin_at (Code.quiet_builtin _ (by decide +kernel)) entry_typeCall (wpAny_check_type_call_sub O (bk3 T O nN hi Z Y hz λ h' e z m=>?_))⟩;exact go h' e z m
end
section
variable {sub:List Value}
theorem bZ1  (hb:bm.contains (.type "BaseException")=true) (hh:A.handled=none)
  (h:wpAny (model prog w) A x (λ v O=>∃ e t od,v=.ref e/\O.heap.get? C=some (clX nm qn C N bs bm hd sn sub ab col dd k0 k1 k2 k3 k5)/\O.heap.get? e=some (rcd (.ref C) #[.ref t,.none,.none,.none,.bool false,.none] od)/\E (.ref e) O) E s) :
  wpAny (model prog w) A (raiseStmt env (some x) none) Q E s:=by
 have hB:(Value.ref C::bm).contains (.type "BaseException")=true:=by rw[List.contains_cons,hb,Bool.or_true]
 refine qj (zv h (λ v O z=>?_) λ _ _ z=>z);obtain⟨e,t,od,rfl,Z,Y,q⟩:=z;obtain⟨hp,g,d,tk,os⟩:=O;have Y:hp.get? e=some {cls:=.ref C,dict:=od,data:=.fields #[.ref t,.none,.none,.none,.bool false,.none],slots:=#[]}:=Y
 repeat (first
  |with_reducible refine Qv Y ?_
  |with_reducible refine Qv Z ?_
  |(with_reducible refine wpAny_isSubtype_exc Z ?_;rw[hB])
  |wp_step)
 exact wpAny_raiseNew_none hh q
theorem bm1  (hb:bm.contains (.type "BaseException")=true) (hh:A.handled=none) (Z:(backTo cpos (starEach args env)).any (·.1)=false)
  (h:wpAny (model prog w) A (eval (.Name x np) env) (λ f s1=>f=.ref C/\wpAny (model prog w) A (evalArgs (.ref C) true (backTo cpos (starEach args env)) [])
   (λ a O=>a.kw=[] ∧ a.pos.length ≤ sizeLine ∧ O.heap.get? C=some (clX nm qn C N bs bm hd sn sub ab col dd k0 k1 k2 k3 k5) ∧ O.heap.Ns N mN ∧ mN "__init__"=some (.ref fI) ∧ O.heap.get? fI=some oI ∧ oI.cls=.type "function" ∧ OwnTail O.heap bmV bm ∧
    ∀ h' e,O.heap.objs.size ≤ e → Heap.MadeExcOf O.heap h' e (.ref C) a.pos → wpAny (model prog w) (A.under (.builtin "type.__call__" ⟨.ref C::a.pos,[]⟩)) (call (.ref fI) (.ref e::a.pos)) (λ r Y=>r=.none ∧ Y.heap.get? C=some (clX nm qn C N bs bm hd sn sub ab col dd k0 k1 k2 k3 k5) ∧
     (∃ t od,Y.heap.get? e=some (rcd (.ref C) #[.ref t,.none,.none,.none,.bool false,.none] od))/\E (.ref e) Y) E {O with heap:=h'}) E s1) E s) :
  wpAny (model prog w) A (exec (.Raise (some (.Call (.Name x np) args [] cpos)) none pos) env) Q E s:=by
 rw[arm_exec_Raise];refine qj (Q3 (bZ1 hb hh (C:=C) (nm:=nm) (qn:=qn) (N:=N) (bs:=bs) (hd:=hd) (sn:=sn) (sub:=sub) (ab:=ab) (col:=col) (dd:=dd) (k0:=k0) (k1:=k1) (k2:=k2) (k3:=k3) (k5:=k5) ?_));refine qj (zv (wpAny_Call_ofName (zv h (λ f s1 z=>?_) λ _ _ z=>z)) (λ v Y z=>qj (Q3 (qk z))) λ _ _ z=>z);obtain⟨rfl,z⟩:=z;refine qj (yg (zv z (λ a O y=>qj (Q3 ?_)) λ _ _ z=>z));obtain⟨us,kw⟩:=a;obtain⟨rfl,hz,cC,nN,hi,gI,cI,T,go⟩:=y;obtain⟨hp,g,d,tk,os⟩:=O;simp only[Z];refine qj (wpAny_keeperOf_exc cC (qj (bL4 T cC nN hi gI cI hz λ h' e y m=>zv (go h' e y m) (λ r Y y=>⟨y.1,?_⟩) λ _ _ z=>z)));obtain⟨_,c3,⟨t,od,ge⟩,q⟩:=y;exact qj (yg (wpAny_point (qk ⟨e,t,od,rfl,c3,ge,q⟩)))
end
def ap6 (K:Frag) (C fI:Addr):Bool :=
 match K.lookup C with
 |some ⟨.type "type",_,.cls c,sl⟩ =>
  (match c.mro,sl.toList with
  |.ref C'::bm,[_,_,_,_,some (.builtin n),_]=>C'==C&&n=="ValueError.__new__"&&!c.hasDel&&tailIn K bmV bm&&nsOkIn K c.ns&&nsIn K c.ns "__init__"==some (some (.ref fI))&&(K.lookup fI).any λ o=>o.cls==.type "function"
  |_,_=>false)
 |_=>false
theorem bH1 {K:Frag} (X:K.In h) (G:h.Ns N m) (e:nsIn K N x=some (some v)):m x=some v:=by
 obtain⟨o,es,ep,O,hd,_,Y⟩:=G;unfold nsIn at e;split at e
 case h_2=>cases e
 case h_1 q =>
  have z:=X _ _ q;rw[O] at z;cases z;cases hd;split at e
  ·rename_i Z;cases e;rw[<- Y];unfold nsFind findBy;rw[<- Array.find?_toList,Z];rfl
  ·split at e <;> cases e
theorem aL3 {K:Frag} (X:K.In h) (x:ap6 K C fI=true):∃ bm N nm q bs hd sn sub ab col dd k0 k1 k2 k3 k5 m oI,h.get? C=some (clX nm q C N bs bm hd sn sub ab col dd k0 k1 k2 k3 k5) ∧ h.Ns N m ∧ m "__init__"=some (.ref fI) ∧ OwnTail h bmV bm ∧ h.get? fI=some oI ∧ oI.cls=.type "function":=by
 revert x;unfold ap6;intro x;split at x
 case h_2=>cases x
 case h_1 dd c sl l =>
  split at x
  case h_2=>cases x
  case h_1 C' bm k0 k1 k2 k3 n k5 e1 e2 =>
   simp only[zj,beq_iff_eq,Bool.not_eq_true'] at x;obtain⟨⟨⟨⟨⟨⟨x1,x2⟩,x3⟩,x4⟩,x5⟩,x6⟩,x7⟩:=x;have Z:=X C _ l;obtain⟨c1,c2,c3,c4,c5,c6,c7,c8,c9,Y,aa⟩:=c;obtain⟨sl⟩:=sl;cases e1;cases x1;cases x2;cases x3;cases (show sl=_ from e2);have O:∃ oI,h.get? fI=some oI ∧ oI.cls=.type "function":=by obtain⟨o,o1,o2⟩:=any_some x7;exact⟨o,X fI o o1,beq_iff_eq.mp o2⟩
   obtain⟨oI,O,f2⟩:=O;exact⟨bm,c4,c1,c5,c2,c6,c7,c8,c9,Y,dd,k0,k1,k2,k3,k5,h.nsMap c4,oI,Z,.of_isNs (isNs_of_in X x5),bH1 X (.of_isNs (isNs_of_in X x5)) x6,tail_of_in X x4,O,f2⟩
def drp (H:Hp) (e:Addr):Hp:=λ b=>if b=e then none else H b
theorem aC0  (h:b≠e):drp H e b=H b:=if_neg h
theorem al5 :drp H e e=none:=if_pos rfl
section
variable {X:Cx}{pins:List (Addr×Obj)}{σ:L2.St}{H:Hp}{s:Shared}
theorem bc1 {e:Addr}{Y:Program->World->Heap->Prop} (I:Inv X pins σ H s) (he:H e=some (.ext Y)):Inv X pins σ (drp H e) s:=by
 have un:=I.base;have O:∀ b,H b=none->drp H e b=none:=λ b z=>by unfold drp;split <;> first | rfl | exact z
 have is:∀ b u,H b=some u->(∀ Z,u≠.ext Z)->drp H e b=some u:=λ b u z n=>by
  rw[aC0 λ y=>by subst y;rw[he] at z;exact n Y (qp z).symm];exact z
 refine⟨I.ok,I.os,I.bare,⟨un.keep,un.slot,λ b o q n x=>O b (un.free b o q n x),un.there,λ b xs q=>is b _ (un.tups b xs q) (λ _ z=>nomatch z),λ b o u q=>is b _ (un.frzs b o u q) (λ _ z=>nomatch z),λ b ps q=>?_⟩,I.loc,I.cell,O _ I.free,λ x c q=>O c (I.freeC x c q),λ p hp=>?_,λ b u q=>?_,I.len⟩
 ·exact is b _ (un.tbls b ps q) λ _ z=>nomatch z
 ·obtain⟨q,n,z⟩:=I.pin p hp;exact⟨q,O _ n,z⟩
 ·have ne:b≠e:=λ y=>by subst y;rw[al5] at q;cases q
  rw[aC0 ne] at q;exact (I.hok b u q).stay (λ _ _ _ z=>z) (λ c z=>is c _ z λ _ y=>nomatch y) (λ c xs z=>is c _ z λ _ y=>nomatch y) λ c xs z=>is c _ z λ _ y=>nomatch y
end
def spI (K:Frag) (f:Str):Sp:=λ vs H Q _=>∃ e v C us,vs=[.ref e,v]/\XS1 K C f/\H e=some (ah3 e (rcd (.ref C) us))/\∀ O,H O=none->O≠e->Q .non (upd (upd H O (.xd [(f,v)])) e (ah3 e (rcd (.ref C) us (some O))))
theorem bc3 {K:Frag}{st:Stmt} (Fu:Fun K x qual st fI fd) (S:FnScope ["self",f] ["self",f] (a_2 st)) (hn:("self":Str)≠f)
  (hb:k_2 st=[.Assign [.Attribute (.Name "self" p1) f p2] (.Name f p3) pos])
  (hs:∀ (O:Value) (A:Around) (outer:List Env) (s:Shared) (H:Hp) (E:XK),swapsWith (.Name f p3) (some (.Attribute (.Name "self" p1) f p2)) pos.line (R_5 CX P w K mg base ["self",f] qual (a_2 st) fI O A outer s H E).env=pure false)
  (h1:(f==("__debug__":Str))=false) (h2:(f==("__classdict__":Str))=false):FnOk P w K mg base CX 1 fI fd ["self",f] (spI K f):=by
 obtain⟨oc,od,kV,ac,pm,an,O,ct,aa,rfl,lk,Z⟩:=Fu.ex;refine bd1 lk Z S (λ vs H Q E h=>?_) λ A outer s H vs Q E hr h=>?_
 ·obtain⟨e,v,C,us,rfl,_⟩:=h;rfl
 ·obtain⟨e,v,C,us,rfl,c,he,q⟩:=h;rw[hb];have Y:∀ y∈(["self",f]:List Str),Vis (R_5 CX P w K mg base ["self",f] qual (a_2 st) fI O A outer s H E).env.scope y:=λ y hy=>(S.par y hy).imp id .inl;refine⟨_,s_8 (aY2 (i_4 (i:=0) rfl (Y _ (by simp)) (by decide) (by decide)) (i_4 (i:=1) rfl (Y _ (by simp)) h1 h2) (hs ..)),?_⟩;exact⟨v,rfl,.ref e,rfl,e,C,us,rfl,c,he,λ dx n m=>q dx n m⟩
def bP9 (P:V->Hp->Prop):List V->Hp->Prop
 |[v],H=>P v H
 |_,_=>False
theorem ba1 :∀ {vs:List V},bP9 P vs H->∃ v,vs=[v]/\P v H
 |[v],h=>⟨v,rfl,h⟩
 |[],h=>h.elim
 |_::_::_,h=>h.elim
section
theorem av0 (hR:af5 X E) (hc:X.calm=true) (ae:X.ex=[]) (hm:X.mg x=some (.ref C)) (hx:ap6 X.K C fI=true) (h1:XS1 X.K C f) (Fk:FnOk X.prog X.w X.K X.mg X.base (CXE X.prog X.w) k fI fd ["self",f] (spI X.K f)) (hr:Room (k+1) X.A) (hb:Binds X.K fd ["self",f] [])
  (ha:PE X a ta) (hg:Gl X x) (hd:(x==("__debug__":Str))=false) (hs:starEach [a] X.env=[(false,eval a X.env)]) :
  PS X (.Raise (some (.Call (.Name x np) [a] [] cpos)) none pos) (λ _ σ H=>ta σ H λ v H1=>∀ O,H1 O=none->E (.ref C) (some O) (upd H1 O (.xd [(f,v)]))):=by
 intro pins s σ H D I q;obtain⟨bm,N,nm,qn,bs,h6,sn,sub,ab,col,dd,k0,k1,k2,k3,k5,m,oI,c1,c2,c3,c4,c5,c6⟩:=aL3 I.mod.kin hx;have ad:=hs▸c_5 ha l_0 hs cpos pins s σ H (bP9 λ v H'=>∀ O,H' O=none->E (.ref C) (some O) (upd H' O (.xd [(f,v)]))) I q;refine bm1 (nm:=nm) (qn:=qn) (N:=N) (bs:=bs) (hd:=h6) (sn:=sn) (sub:=sub) (ab:=ab) (col:=col) (dd:=dd) (k0:=k0) (k1:=k1) (k2:=k2) (k3:=k3) (k5:=k5) (fI:=fI) (oI:=oI) (mN:=m) (c4.hasType (by decide)) (I.ok.hd hc) (by rw[hs];rfl) (A_2 I hg hm ⟨rfl,hs▸Qd (thn ad λ us s2 z=>?_)⟩ hd);obtain⟨vs,H2,Z,r,z⟩:=z;obtain⟨v,rfl,q2⟩:=ba1 z;obtain⟨u,rfl,ru⟩:=v_5 r;refine⟨rfl,(show 1<=sizeLine by decide),Z.bk C _ c1,c2.keeps Z.bk,c3,Z.bk fI _ c5,c6,c4.keeps Z.bk,λ h' e z mk=>?_⟩;obtain⟨Y,ge,_,_⟩:=mk.there;have J:=Z.laid (t':=s2.toks) mk.keeps z (aP6 ge);have e0:=Z.hok.fresh z;have r2:Vals [V.ref e,v] [Value.ref e,u]:=.cons rfl (.cons ru .nil);have sp:spI X.K f [.ref e,v] (upd H2 e (ah3 e (rcd (.ref C) #[.ref Y,.none,.none,.none,.bool false,.none]))) (λ y H'=>y=.non/\∃ O,H2 O=none/\O≠e/\H'=upd (upd (upd H2 e (ah3 e (rcd (.ref C) #[.ref Y,.none,.none,.none,.bool false,.none]))) O (.xd [(f,v)])) e (ah3 e (rcd (.ref C) #[.ref Y,.none,.none,.none,.bool false,.none] (some O)))) E0 :=
  ⟨e,v,C,_,rfl,h1,a_3,λ O n ne=>⟨rfl,O,by rwa [b_2 ne] at n,ne,rfl⟩⟩
 refine Q2 (ja (Fk.run _ X.stack _ _ ⟨[.ref e,u],[]⟩ [.ref e,u] _ _ E0 (hr.make C [u] []) (J.env0.make C [u] []) (hb _ [.ref e,u] J.kIn rfl) r2 sp) λ rr s' hq=>?_);cases rr with
 |error er=>exact aZ4 pins σ _ _ er s' J hq
 |ok fl =>
  cases fl with
  |ret y =>
   obtain⟨y',H',I3,rv,ey,O,ac,ne,eH⟩:=J.after hq;subst ey eH;obtain rfl:y=.none:=rv;have aa:=(show ObjOk _ _ _ s'.heap e (ah3 e _) from I3.hok e _ a_3).1;have I4:=bc1 I3 a_3;have eH:drp (upd (upd (upd H2 e (ah3 e (rcd (.ref C) #[.ref Y,.none,.none,.none,.bool false,.none]))) O (.xd [(f,v)])) e (ah3 e (rcd (.ref C) #[.ref Y,.none,.none,.none,.bool false,.none] (some O)))) e=upd H2 O (.xd [(f,v)]):=by
    funext b;by_cases hb:b=e
    ·subst hb;rw[al5,b_2 ne.symm,e0]
    ·rw[aC0 hb,b_2 hb];by_cases hd:b=O
     ·subst hd;rw[a_3,a_3]
     ·rw[b_2 hd,b_2 hd,b_2 hb]
   rw[eH] at I4;refine⟨rfl,I4.bk C _ c1,⟨Y,some O,aa⟩,hR pins σ _ s' e C (some O) _ I4 (by rw[b_2 ne.symm];exact e0) ?_ aa rfl (q2 O ac)⟩;cases w0:X.s₀.heap.get? e with
   |none=>rfl
   |some o =>
    obtain⟨o',w1⟩:=Z.base.there e o w0 (by rw[ae];intro z;cases z);rw[yu z] at w1;cases w1
  |next=>exact False.elim hq
  |brk=>exact False.elim hq
  |cont=>exact False.elim hq
end
section
variable {X:Cx}{E:XK}{x f:Str}{C fI:Addr}{k:Nat}{fd:FuncData}{a:Expr}{F:FE}{np cpos pos:Pos}
theorem aF2 (hR:af5 X E) (hm:X.mg x=some (.ref C)) (hx:ap6 X.K C fI=true) (h1:XS1 X.K C f) (Fk:FnOk X.prog X.w X.K X.mg X.base (CXE X.prog X.w) k fI fd ["self",f] (spI X.K f)) (hr:Room (k+1) X.A) (hb:Binds X.K fd ["self",f] [])
  (ha:XE X a F) (hc:X.calm=true:=by rfl) (Z:X.ex=[]:=by rfl) (hg:Gl X x:=by rfl) (hd:(x==("__debug__":Str))=false:=by decide) (hs:starEach [a] X.env=[(false,eval a X.env)]:=by rfl) :
  XX1 X E (.Raise (some (.Call (.Name x np) [a] [] cpos)) none pos) (N_6 x f F) :=
 PS.wk (av0 hR hc Z hm hx h1 Fk hr hb ha hg hd hs) λ Dn σ H Y=>by
  obtain⟨c,H0,ρ,r,R,e,q⟩:=Y;obtain⟨⟨d,O⟩,h2,e⟩:=a_0 e;cases e;refine⟨c,H0,ρ,d,O,R,h2,λ v H1 Hh s1 R1 rv dx hx=>?_⟩;have S:=Step.alloc (o:=.xd [(f,v)]) R1.same hx;exact q C (some dx) O σ _ _ hm (s1.trans S.s0) (R1.after S) ⟨v,Rep.mono S.s0 _ rv,a_3⟩
end
def clV (K:Frag) (C:Addr):Bool:=(clsIn K C).any λ c=>ab4 c.mro&&c.hasDict
theorem bv6 {K:Frag} (h:clV K C=true):∃ cd,clsIn K C=some cd/\ab4 cd.mro=true/\cd.hasDict=true:=by obtain⟨cd,a,b⟩:=any_some h;obtain⟨b,c⟩:=(zj ..).mp b;exact⟨cd,a,b,c⟩
structure XIn (K:Frag) (mg:Str->Option Value) (x y f qual:Str) (st:Stmt) (c0 c2 fI:Addr) (fd:FuncData):Prop where
 m0:mg x=some (.ref c0)
 m2:mg y=some (.ref c2)
 x0:ap6 K c0 fI=true
 s1:XS1 K c0 f
 k0:XC K c0
 e0:exmOne K (.ref c0) (.ref c2)=some true
 t0:kitOne K (.ref c0) (.ref c0)=some true
 n0:kitOne K (.type "NoneType") (.ref c0)=some false
 fn:Fun K "__init__" qual st fI fd
 b0:Binds K fd ["self",f] []
end Fx
namespace Fx
open PySem
noncomputable def bN6:Option Sl->Option (Bool×List D)
 |some (.ow b (.lst ds))=>some (b,ds)
 |_=>none
@[simp] theorem cs0 (b:Bool) (ds:List D):bN6 (some (.ow b (.lst ds)))=some (b,ds):=yR rfl
def eQb (i:Nat) (ρ:En) (b:Bool) (ds:List D) (o:Option D):Option (D×En):=bnd o λ d=>some (d,ρ.set i (.ow b (.lst ds.dropLast)))
def eQa (i:Nat) (ρ:En) (o:Option (Bool×List D)):Option (D×En):=bnd o λ p=>eQb i ρ p.1 p.2 p.2[p.2.length-1]?
def eQ (i:Nat) (ρ:En):Option (D×En):=eQa i ρ (bN6 ρ[i]?)
@[simp] theorem eQ_ (i:Nat) (ρ:En):eQ i ρ=eQa i ρ (bN6 ρ[i]?):=yR rfl
theorem co8 (i:Nat) (ρ:En) (b:Bool) (ds:List D) (d:D):eQa i ρ (some (b,ds++[d]))=some (d,ρ.set i (.ow b (.lst ds))):=by show eQb i ρ b (ds++[d]) (ds++[d])[(ds++[d]).length-1]?=_;rw[zh,zq,Nat.add_sub_cancel,List.getElem?_concat_length];show some (d,ρ.set i (.ow b (.lst (ds++[d]).dropLast)))=_;rw[List.dropLast_concat]
def bR4 (A B:En->Option MO) (o:Option (Bool×En)):Option MO:=bnd o λ p=>if p.1=true then A p.2 else B p.2
def nIf (T:FT) (A B:En->Option MO) (ρ:En):Option MO:=bR4 A B (T ρ)
@[simp] theorem cz6 (T:FT) (A B:En->Option MO) (ρ:En):nIf T A B ρ=bR4 A B (T ρ):=yR rfl
@[simp] theorem cs7 (A B:En->Option MO) (ρ:En):bR4 A B (some (true,ρ))=A ρ:=yR rfl
@[simp] theorem cs8 (A B:En->Option MO) (ρ:En):bR4 A B (some (false,ρ))=B ρ:=yR rfl
def aZ3 (ρ:En) (o:Option (List D)):Option MO:=bnd o λ ds=>some (.lst ds.reverse)
def aY5 (i:Nat) (ρ:En):Option MO:=aZ3 ρ (bG4 ρ[i]?)
@[simp] theorem cs5 (i:Nat) (ρ:En):aY5 i ρ=aZ3 ρ (bG4 ρ[i]?):=yR rfl
@[simp] theorem cm6 (ρ:En) (ds:List D):aZ3 ρ (some ds)=some (.lst ds.reverse):=yR rfl
def M_6:List D->Option (List ((Str×Int)×D))
 |[]=>some []
 |.tup [.tup [.str a,.int b],v]::r=>bnd (M_6 r) λ l=>some (((a,b),v)::l)
 |_=>none
noncomputable def bj4 (k:Str×Int):List ((Str×Int)×D)->D
 |[]=>.non
 |q::r=>if q.1=k then q.2 else bj4 k r
def ao9 (k:Str×Int) (o:Option (List ((Str×Int)×D))):Option D:=bnd o λ l=>if l.length<=1000/\(l.map (·.1)).Nodup then some (bj4 k l) else none
def ap3:D->D->Option D
 |.lst ps,.tup [.str k,.int w]=>ao9 (k,w) (M_6 ps)
 |_,_=>none
@[simp] theorem bA3 (ps:List D) (k:Str) (w:Int):ap3 (.lst ps) (.tup [.str k,.int w])=ao9 (k,w) (M_6 ps):=yR rfl
@[simp] theorem bc5 (k:Str×Int) (l:List ((Str×Int)×D)):ao9 k (some l)=if l.length<=1000/\(l.map (·.1)).Nodup then some (bj4 k l) else none:=yR rfl
end Fx
namespace Fx
open PySem PySem.Spec PyProof.Rows L2
theorem aK8 {o:Option Sl}{q:Bool×List D} (h:bN6 o=some q):o=some (.ow q.1 (.lst q.2)):=by
 unfold bN6 at h;split at h
 ·cases h;rfl
 ·cases h
section
variable {X:Cx}{pos:Pos}
theorem xq (i:Nat) {x:Str}{p1 p2:Pos} (hN:X.N[i]?=some x) (hv:Vis X.env.scope x) (hd:(x==("__debug__":Str))=false)
  (ac:(x==("__classdict__":Str))=false) (Y:attributeBase (.Name x p1) "pop" X.env (eval (.Name x p1) X.env)=eval (.Name x p1) X.env)
  (O:(p2.endLine==pos.line)=true) :
  XE X (.Call (.Attribute (.Name x p1) "pop" p2) [] [] pos) (eQ i) :=
 PE.wk (bM9 Zf PySem.F.slot_list_pop PySem.F.type_list_pop bR5 (i_4 hN hv hd ac) Y O) λ σ H Q Z=>by
  obtain⟨c,H0,ρ,d,aa,R,f,q⟩:=Z;unfold eQ eQa at f;obtain⟨⟨b,ds⟩,h0,f⟩:=a_0 f;unfold eQb at f;obtain⟨d',h1,f⟩:=a_0 f;have f':some (d',ρ.set i (.ow b (.lst ds.dropLast)))=some (d,aa):=f;cases f';obtain⟨a,x1,_,_,vs,y1,z1⟩:=R.ow i _ _ (aK8 h0);have hl:=z1.length;obtain⟨y,e1,e2⟩:=z1.get h1;rw[hl] at e1;refine⟨.ref a,x1,.inl ⟨rfl,vs,SqL.of y1⟩,a,vs,y,rfl,rfl,y1,e1,?_⟩;exact q y H0 _ (Same.refl _) (R.mutOwn (o':=.lst ds.dropLast) (u:=.lst vs.dropLast) (aK8 h0) x1 ⟨_,a_3,Reps.dropLast z1⟩) e2
theorem cv6 {c:Expr}{a rest:List Stmt}{T:FT}{A B:En->Option MO} (hc:XT X c T) (ha:XN X a A) (hb:XN X rest B):XN X (.If c a [] pos::rest) (nIf T A B) :=
 PSs.wk (k_9 (aY1 hc ha au8) hb) λ Dn σ H Y=>by
  obtain⟨Hi,He,H0,ρ,o,R,f,q⟩:=Y;unfold nIf bR4 at f;obtain⟨⟨k,O⟩,h1,f⟩:=a_0 f;dsimp only at f;refine⟨⟨Hi,He,[]⟩,H0,ρ,k,O,R,h1,λ H1 Hh s1 Z=>?_⟩;cases k with
  |true =>
   rw[if_pos rfl] at f ⊢;exact⟨Hi,He,H1,O,o,Z,f,q⟩
  |false =>
   rw[if_neg zc] at f ⊢;exact⟨Hi,He,H1,O,o,Z,f,q⟩
theorem cj5 (i:Nat) {x:Str}{p p2 p3 p4 spos Y:Pos}{k:Nat} (hN:X.N[i]?=some x:=by rfl) (hv:Vis X.env.scope x:=by first | exact Or.inl rfl | exact Or.inr (Or.inl rfl) | exact Or.inr (Or.inr rfl)) (hd:(x==("__debug__":Str))=false:=by decide) (Z:(x==("__classdict__":Str))=false:=by decide) :
  XN X [.Return (some (.Subscript (.Name x p) (.Slice none none (some (.UnaryOp .USub (.Constant (.int 1) k p3) p4)) p2) spos)) Y] (aY5 i) :=
 PSs.wk (s_8 (au9 (bM6 (i_4 hN hv hd Z)))) λ Dn σ H O=>by
  obtain⟨Hi,He,H0,ρ,o,R,f,q⟩:=O;unfold aY5 aZ3 at f;obtain⟨ds,h0,f⟩:=a_0 f;have f':some (MO.lst ds.reverse)=some o:=f;cases f';obtain⟨a,x1,_,_,vs,y1,z1⟩:=R.ow i _ _ (aZ5 h0);refine⟨.ref a,x1,a,vs,rfl,SqL.of y1,λ l hl=>?_⟩;refine q l H0 _ ⟨R.init,λ b u e=>?_,λ b u e=>?_,R.fresh,R.same.free hl,R.heNone hl,vs.reverse,a_3,av3 z1⟩
  ·have:=R.same b u e;rw[b_2 (c_6 this hl)];exact this
  ·have:=R.keep b u e (by simp);rw[b_2 (c_6 this hl)];exact this
end
end Fx
namespace Fx
open PySem
section
variable {prog:Program}{w:World}{K:Type} [DecidableEq K] {knd:HeapKind prog w K}{A:Around}{E:Value->Shared->Prop}{s:Shared}
inductive PairsH (knd:HeapKind prog w K) (h:Heap):List Value->List (K×Addr×Value)->Prop
 |nil:PairsH knd h [] []
 |cons {p b:Addr}{v:Value}{k:K}{us:List Value}{xs:List (K×Addr×Value)} (a:h.IsTuple p #[.ref b,v]) (kb:∀ h':Heap,(∀ c o,h.get? c=some o->h'.get? c=some o)->knd.is h' k b) (r:PairsH knd h us xs):PairsH knd h (.ref p::us) ((k,b,v)::xs)
theorem E_5 {h h':Heap}{d:Addr}{xs:List (K×Addr×Value)} (Z:h.DictOfH knd d xs) (e:∀ o,h.get? d=some o->h'.get? d=some o) (ka:∀ x∈xs,knd.is h' x.1 x.2.1):h'.DictOfH knd d xs:=by obtain⟨o,es,ep,h1,h2,Y,h4,_,O⟩:=Z;exact⟨o,es,ep,e _ h1,h2,Y,h4,ka,O⟩
theorem aH5 {hI:Heap}{d it t:Addr}{all:List Value}{R:Result->Shared->Prop} (aq:hI.get? d=none) (ak:hI.get? it=none) (ad:d≠it) (tu:hI.IsList t all.toArray) (hh:A.handled=none) (hu:knd.room A.in1) :
  ∀ (us:List Value) (O more:List (K×Addr×Value)) (s:Shared) (i:Nat) (tk:Tok),all.drop i=us->PairsH knd hI us more->(∀ x∈O,∀ h':Heap,(∀ c o,hI.get? c=some o->h'.get? c=some o)->knd.is h' x.1 x.2.1)->((O++more).map (·.1)).Nodup->(∀ b o,hI.get? b=some o->s.heap.get? b=some o)->s.heap.IsListIter it t i->s.heap.DictOfH knd d O->O.length+more.length<=sizeLine ->
   (∀ h' ae,(∀ b o,hI.get? b=some o->h'.get? b=some o)->h'.DictOfH knd d (O++more)->R (.ok (.ret .none)) {s with heap:=h',toks:=ae}) ->
   codeAny (model prog w) A (.builtin "dict.update.loop" ⟨[.ref d,.ref it,.int i tk,.none],[]⟩) R s:=by
 intro us;induction us with
 |nil =>
  intro O more s i tk e ps ka nd kp ag af hz q;cases ps;refine y7 v_3 ?_;rw[yz m_5 _];show wpAny _ A.in1 (pyNext (.ref it) >>= _) _ _ s;have ac:s.heap.IsList t all.toArray:=by obtain⟨o,ho,r⟩:=tu;exact⟨o,kp _ _ ho,r⟩
  have Y:all.toArray[i]?=none:=by
   have:all[i]?=none:=by
    have l:all.length<=i:=by simpa using e
    exact Zz l
   simpa using this
  refine qj (Zt hh ag ac Y λ h' eb=>?_);show wpAny _ _ (Builtin.Dict.addKeywords d [] >>= _) _ _ _;refine qj (qk (qk ?_));have an:∀ b o,hI.get? b=some o->h'.get? b=some o:=λ b o hb=>eb b o (λ z=>by rw[z,ak] at hb;cases hb) (kp _ _ hb);rw[zw] at q;exact q h' s.toks an (E_5 af (λ o ho=>eb d o ad ho) λ x Y=>ka x Y h' an)
 |cons u us ih =>
  intro O more s i tk e ps ka nd kp ag af hz q;cases ps with
  |@cons p b uv k _ kvs a kb r =>
   refine y7 v_3 ?_;rw[yz m_5 _];show wpAny _ A.in1 (pyNext (.ref it) >>= _) _ _ s;have ac:s.heap.IsList t all.toArray:=by obtain⟨o,ho,r⟩:=tu;exact⟨o,kp _ _ ho,r⟩
   have as:all[i]?=some (.ref p):=by have:=jm (λ l=>l[0]?) e;simpa using this
   have Y:all.toArray[i]?=some (.ref p):=by simpa using as
   refine qj (Zl ag ac Y λ h1 am ah=>?_);have Z:∀ b o,hI.get? b=some o->h1.get? b=some o:=λ b o hb=>(ah.2 b (λ z=>by rw[z,ak] at hb;cases hb)).trans (kp _ _ hb);have av:h1.DictOfH knd d O:=E_5 af (λ o ho=>(ah.2 d ad).trans ho) λ x Y=>ka x Y h1 Z;obtain⟨op,ar,ao,on,au⟩:=a;have aa:=Z _ _ ar;refine qj (yg (qj (Zb ?_)));unfold Builtin.Dict.pairItems;refine qj (Za (T:="tuple") ⟨op,aa,ao⟩ ?_);rw[if_pos (by decide)];refine qj (wpAny_seqItems aa au ?_);refine qk ?_;show wpAny _ _ (holding [.ref b,uv] (dictSet d (.ref b) uv)) _ _ _;refine yg (wpAny_dictSet_heap hu (kb h1 Z) av (λ h2 ai aj=>?_) (by simp only[zi] at hz;omega));refine qk ⟨j6 m_5 _,?_⟩;have ap:∀ b o,hI.get? b=some o->h2.get? b=some o:=λ b o hb=>(aj.2 b (λ z=>by rw[z,aq] at hb;cases hb)).trans (Z _ _ hb);have al:h2.IsListIter it t (i+1):=by obtain⟨o,ho,rr⟩:=am;exact⟨o,(aj.2 it (yi ad)).trans ho,rr⟩
   have no:atKey O k=none:=atKey_none_of_get λ j q z=>by
    rw[yt,ze] at nd;exact (List.nodup_append.mp nd).2.2 k (List.mem_map.mpr ⟨_,ji z,rfl⟩) k (qm ..) rfl
   rw[storedH_new no] at ai;have:=ih (O++[(k,b,uv)]) kvs {s with heap:=h2,toks:=s.toks+knd.draws k} (i+1) 0 (by rw[<- List.drop_drop,e];rfl) r (λ x Y=>by
    rcases zb Y with Y | Y
    ·exact ka x Y
    ·cases List.mem_singleton.mp Y;exact kb) (by rw[ym];exact nd) ap al ai (by simp only[zi,zh,Qn] at hz ⊢;omega) (λ h' ae c1 c2=>q h' ae c1 (by rw[ym] at c2;exact c2))
   exact this
theorem as7 {t:Addr}{ob:Obj}{n:Nat}{all:List Value}{kvs:List (K×Addr×Value)}{Q:Value → Shared → Prop} (ho:s.heap.get? t=some ob) (hc:ob.cls=.type "list") (Z:ob.data=.seq all.toArray n) (af:ob.dict=none) (hh:A.handled=none) (hu:knd.room A.in1.in1)
  (ps:PairsH knd s.heap all kvs) (nd:(kvs.map (·.1)).Nodup) (hz:kvs.length<=sizeLine)
  (q:∀ h' tk,(∀ b o,s.heap.get? b=some o->h'.get? b=some o)->h'.DictOfH knd s.heap.objs.size kvs->Q (.ref s.heap.objs.size) {s with heap:=h',toks:=tk}) :
  wpAny (model prog w) A (call (.type "dict") [.ref t]) Q E s:=by
 refine callType_codes (Q₁:=λ z s1=>z=.ref s.heap.objs.size ∧ s1={s with heap:=s.heap.push {cls:=.type "dict",data:=.dict #[]}}) F.kt_called_dict (F.kt_typeCall_dict_1 _) F.entry_dict_init (kt_code_dict_new _ ⟨rfl,rfl⟩) ?_;rintro z s1 ⟨rfl,rfl⟩;have dn:(s.heap.push {cls:=.type "dict",data:=.dict #[]}).DictOfH knd s.heap.objs.size []:=Heap.DictOfH.new s.heap;have Y:(s.heap.push {cls:=.type "dict",data:=.dict #[]}).get? t=some ob:=ql _ ho;refine⟨dn.typeIs,F.args_dict_init_2 _ _,?_⟩;unfold Builtin.«dict.__init__»;refine qj ?_;unfold Builtin.Dict.selfAndRest;refine qj (wpAny_notOrdered_dict dn.typeIs (qk ?_));show wpAny _ _ (Builtin.Dict.updateFrom "dict.__init__" s.heap.objs.size (.ref t) [] .none) _ _ _;unfold Builtin.Dict.updateFrom;refine qj (Za (T:="list") ⟨ob,Y,hc⟩ ?_);rw[if_pos (by decide)];refine qj (aC1 (A:=A.in1.in1) Y hc Z af hh λ h2 tk e O=>?_);rw[if_pos (show (none:Option Value).isNone=true from rfl)];have ad:h2.get? t=some ob:=O.keeps _ _ Y;have ac:h2.DictOfH knd s.heap.objs.size []:=E_5 dn (λ o ho=>O.keeps _ _ ho) λ x O=>(nomatch O)
 have aa:∀ b o,s.heap.get? b=some o->h2.get? b=some o:=λ b o hb=>O.keeps _ _ (ql _ hb);refine qj (wpAny_rule (qj (Qu (items:=all.toArray) ⟨ob,ad,hc,n,Z⟩ ?_)));refine qk ⟨j6 m_5 _,?_⟩;have d0:s.heap.get? s.heap.objs.size=none:=by
  cases z:s.heap.get? s.heap.objs.size with
  |none=>rfl
  |some o=>exact absurd (qv z) (yk _)
 have ag:s.heap.objs.size<h2.objs.size:=by obtain⟨o,es,ep,h3,rr⟩:=ac;exact qv h3
 have i0:s.heap.get? h2.objs.size=none:=by
  cases z:s.heap.get? h2.objs.size with
  |none=>rfl
  |some o=>exact absurd (qv (aa _ _ z)) (yk _)
 refine aH5 (A:=A.in1) (knd:=knd) (all:=all) (hI:=s.heap) (t:=t) d0 i0 (qy ag) ⟨ob,ho,hc,n,Z⟩ hh hu all [] kvs {s with heap:=h2.push {cls:=.type "list_iterator",data:=.fields #[.ref t,.int 0 0]},toks:=tk} 0 0 rfl ps (λ x O=>(nomatch O)) nd
  (λ b o hb=>ql _ (aa _ _ hb)) ⟨_,qt _ rfl,rfl,rfl⟩ (E_5 ac (λ o ho=>ql _ ho) λ x O=>(nomatch O)) (by rw[Qn,Nat.zero_add];exact hz) λ h' ae c1 c2=>?_
 exact⟨rfl,q h' ae c1 c2⟩
end
end Fx
namespace Fx
open PySem PySem.Spec PyProof.Rows L2
def tdX (_:Program) (_:World) (a:Addr) (tab:Tab V):HO:=.ext λ P w h=>(a==sysModules)=false/\∃ o es O xs,h.get? a=some o/\o.ExactDict/\o.data=.dict es O/\es.toList=(xs.map az5).map (entryOfKey (tupleKind (g_3 P w)))/\Paired bD6 tab xs/\((xs.map az5).map (·.1)).Nodup
def KsM (K:Frag) (H:Hp) (tab:Tab V):Prop:=∀ x∈tab,SqT K H x.2.1 [.str x.1.1,.int x.1.2]
section
variable {X:Cx}{pins:List (Addr×Obj)}{σ:L2.St}{H:Hp}{s:Shared}{a b:Addr}{tab:Tab V}{k:Str×Int}{A:Around}{E:Value->Shared->Prop}
theorem as3 (I:Inv X pins σ H s) (h:SqT X.K H b [.str k.1,.int k.2]):(tupleKind (g_3 X.prog X.w)).is s.heap (kTI k) b:=by obtain⟨O,r,⟨o,h1,h2,⟨n,Y⟩,_⟩,_⟩:=I.tupleN h;exact⟨o,O.toArray,n,h1,h2,Y,by simpa using X_2 (ks:=kTI k) r⟩
theorem ay0 (I:Inv X pins σ H s):∀ {tab:Tab V}{xs:Tab Value},Paired bD6 tab xs->KsM X.K H tab->∀ x∈xs.map az5,(tupleKind (g_3 X.prog X.w)).is s.heap x.1 x.2.1
 |_,_,.nil,_,x,O=>nomatch O
 |_,_,.cons (a:=p) (b:=q) r t,ks,x,O=>by
  rw[ze] at O;rcases qz O with e | O
  ·rw[e];have:=as3 I (ks p qm);show (tupleKind (g_3 X.prog X.w)).is s.heap (kTI q.1) q.2.1;rw[<- r.1,<- r.2.1];exact this
  ·exact ay0 I t (λ y Y=>ks y (qo _ Y)) x O
theorem bg1 (I:Inv X pins σ H s) (e:H a=some (tdX X.prog X.w a tab)):(a==sysModules)=false/\∃ o es O xs,s.heap.get? a=some o/\o.ExactDict/\o.data=.dict es O/\es.toList=(xs.map az5).map (entryOfKey (tupleKind (g_3 X.prog X.w)))/\Paired bD6 tab xs/\((xs.map az5).map (·.1)).Nodup :=
 (show ObjOk X.prog X.w H s.heap a (tdX X.prog X.w a tab) from I.hok a _ e).1
theorem bg0 (I:Inv X pins σ H s) (e:H a=some (tdX X.prog X.w a tab)):s.TypeIs (.ref a) "dict" ∧ (∀ b,Value.ref a=.ref b → ∃ ob,s.heap.get? b=some ob ∧ ob.dict=none):=by obtain⟨_,o,es,O,xs,h1,h2,_⟩:=bg1 I e;exact⟨⟨o,h1,h2.1⟩,λ b q=>by cases q;exact⟨o,h1,h2.2.1⟩⟩
theorem bI8 {Q:Value->Shared->Prop} (hu:A.units+1<cLine) (I:Inv X pins σ H s) (e:H a=some (tdX X.prog X.w a tab)) (ks:KsM X.K H tab) (kb:SqT X.K H b [.str k.1,.int k.2]) (h:∀ Y s',Inv X pins σ H s'->RelV ((aB7 tab k).getD .non) Y->Q Y s') :
  wpAny (model X.prog X.w) A (call (.builtin "dict.get") [.ref a,.ref b]) Q E s:=by
 obtain⟨hd,o,es,ep,xs,h1,h2,Z,h4,O,nd⟩:=bg1 I e;have dd:s.heap.DictOfH (tupleKind (g_3 X.prog X.w)) a (xs.map az5):=⟨o,es,ep,h1,h2,Z,h4,ay0 I O ks,nd⟩;exact call_meetsIn j8 dd.typeIs Zp (Zg _ _) (meetsH_dict_get (tupleKind (g_3 X.prog X.w)) a b hd) ⟨ju hu,kTI k,xs.map az5,as3 I kb,dd,h _ _ (I.tok _) ((ax7 O).getD rfl)⟩
end
section
variable {X:Cx}{o e:Expr}{apos cpos:Pos}{td ty:TE}
def bI9 (X:Cx) (td ty:TE):TE:=λ σ H Q=>td σ H λ x H1=>∃ a,x=.ref a/\(∃ tab,H1 a=some (tdX X.prog X.w a tab))/\ty σ H1 λ y H2=>∃ tab k b,H2 a=some (tdX X.prog X.w a tab)/\KsM X.K H2 tab/\y=.ref b/\SqT X.K H2 b [.str k.1,.int k.2]/\Q ((aB7 tab k).getD .non) H2
theorem aW6 (hu:X.A.units+1<cLine) (ho:PE X o td) (he:PE X e ty) (m:M1 X o "get" apos e cpos):PE X (.Call (.Attribute o "get" apos) [e] [] cpos) (bI9 X td ty):=by
 intro pins s σ H Q I h;refine wpAny_Call_method m.base m.few m.line PySem.F.plainAttrs_dict j8 PySem.F.type_dict_get (thn (ho pins s σ H _ I h) λ u s1 O=>?_);obtain⟨x,H1,Z,rx,a,ex,⟨tab,d⟩,q1⟩:=O;subst ex;obtain rfl:u=Value.ref a:=rx;refine⟨(bg0 Z d).1,(bg0 Z d).2,?_⟩;rw[m.trees];refine Qx rfl (Qd (Calls.spliced_cons (thn (he pins s1 σ H1 _ Z q1) λ iv s2 ⟨y,H2,I2,ry,aa,k,b,g,ks,ey,kb,q2⟩=>Calls.spliced_nil ?_)));subst ey;obtain rfl:iv=Value.ref b:=ry;exact bI8 hu I2 g ks kb λ w' s3 I3 Y=>⟨_,H2,I3,Y,q2⟩
end
inductive PTv (K:Frag) (H:Hp):List V->Tab V->Prop
 |nil:PTv K H [] []
 |cons {a b:Addr}{k:Str×Int}{v:V}{vs:List V}{tab:Tab V} (p:SqT K H a [.ref b,v]) (q:SqT K H b [.str k.1,.int k.2]) (r:PTv K H vs tab):PTv K H (.ref a::vs) ((k,b,v)::tab)
theorem aw4 {K:Frag}{H:Hp}:∀ {vs:List V}{tab:Tab V},PTv K H vs tab->KsM K H tab
 |_,_,.nil,x,O=>nomatch O
 |_,_,.cons p q r,x,O=>by
  rcases qz O with e | O
  ·subst e;exact q
  ·exact aw4 r x O
theorem KsM.mono {K:Frag}{H H':Hp}{tab:Tab V} (h:KsM K H tab) (s:Same H H'):KsM K H' tab:=λ x O=>Same.seqT s (h x O)
section
variable {X:Cx}
theorem al4 {pins:List (Addr×Obj)}{σ:L2.St}{H:Hp}{s:Shared} (I:Inv X pins σ H s):∀ {vs:List V}{tab:Tab V}{us:List Value},PTv X.K H vs tab->Vals vs us->∃ xs:Tab Value,PairsH (tupleKind (g_3 X.prog X.w)) s.heap us (xs.map az5)/\Paired bD6 tab xs
 |_,_,us,.nil,h=>by cases h;exact⟨[],.nil,.nil⟩
 |_,_,us,.cons (a:=a) (b:=b) (k:=k) (v:=v) p q r,h=>by
  cases h with
  |@cons x u xs aa h1 h2 =>
   cases h1;obtain⟨rs,q1,Y⟩:=al4 I r h2;obtain⟨ac,rv,tp,_⟩:=I.tuple p;obtain⟨u1,O,rfl,Z,r2⟩:=aF5 rv;cases Z;obtain⟨o,items,n,e1,e2,e3,e4⟩:=as3 I q;exact⟨(k,b,O)::rs,.cons (show s.heap.IsTuple a #[.ref b,O] from tp) (λ h' kp=>⟨o,items,n,kp _ _ e1,e2,e3,e4⟩) q1,.cons ⟨rfl,rfl,r2⟩ Y⟩
theorem av2:∀ {tab:Tab V}{xs:Tab Value},Paired bD6 tab xs->xs.length=tab.length
 |_,_,.nil=>rfl
 |_,_,.cons _ t=>by rw[zi,zi,av2 t]
theorem aF6 (hc:X.calm=true) (hu:X.A.units+64<cLine):CallR X (.type "dict") (λ xs H Q=>∃ p Y tab,xs=[.ref p] ∧ SqL X.K H p Y ∧ PTv X.K H Y tab ∧ (tab.map (·.1)).Nodup ∧ tab.length ≤ 1000 ∧ ∀ l,H l=none → Q (.ref l) (upd H l (tdX X.prog X.w l tab))):=by
 intro pins s σ H xs us Q I r h;obtain⟨p,Y,tab,rfl,hq,pv,nd,hz,q⟩:=h;obtain⟨u,rfl,ru⟩:=v_5 r;cases ru;obtain⟨af,rv,⟨ob,n,h1,h2,h3,h4⟩,_⟩:=I.list hq;obtain⟨rs,q1,Z⟩:=al4 I pv rv;have big:(1000:Nat)<=sizeLine:=by decide
 have ae:((rs.map az5).map (·.1)).Nodup:=by rw[ax8 Z];exact List.pairwise_map.mpr (nd.imp λ aa z=>aa (aN0 z))
 refine as7 h1 h2 h4 h3 (I.ok.hd hc) (show X.A.in1.in1.units<cLine from by have:X.A.in1.in1.units=X.A.units+2:=rfl;omega) q1 ae (by rw[zd,av2 Z];omega) λ h' tk kp dd=>?_;obtain⟨o,es,ep,e1,e2,e3,e4,_,e6⟩:=dd;refine⟨.ref s.heap.objs.size,_,I.laid (o:=tdX X.prog X.w s.heap.objs.size tab) kp (qr _) ⟨⟨beq_eq_false_iff_ne.mpr (yi (qy I.big)),o,es,ep,rs,e1,e2,e3,e4,Z,e6⟩,⟨o,e1⟩,λ g1 g2 ⟨a1,o',ad,O,ac,b1,b2⟩ k=>⟨a1,o',ad,O,ac,k _ b1,b2⟩⟩,rfl,q _ (I.hok.fresh (qr _))⟩
theorem pairsT_inv:∀ {ps:List D}{l:List ((Str×Int)×D)},M_6 ps=some l->ps=l.map λ q=>.tup [.tup [.str q.1.1,.int q.1.2],q.2]
 |[],l,h=>by cases h;rfl
 |.tup [.tup [.str a,.int b],v]::r,l,h=>by obtain⟨t,e,f⟩:=a_0 h;cases f;rw[pairsT_inv e];rfl
theorem bg9 {K:Frag}{H0:Hp} (k:Str×Int):∀ {l:List ((Str×Int)×D)}{O:List V},Reps K H0 (l.map λ q=>.tup [.tup [.str q.1.1,.int q.1.2],q.2]) O->∃ tab,PTv K H0 O tab/\tab.map (·.1)=l.map (·.1)/\∀ v,v=(aB7 tab k).getD .non->Rep K H0 (bj4 k l) v
 |[],O,h=>by
  rw[jv] at h;unfold Reps at h;subst h;exact⟨[],.nil,rfl,λ v e=>by subst e;unfold bj4 Rep;rfl⟩
 |q::r,O,h=>by
  rw[ze] at h;unfold Reps at h;obtain⟨v,t,rfl,a,b⟩:=h;obtain⟨tab,p1,p2,p3⟩:=bg9 k b;unfold Rep at a;obtain⟨ad,us,rfl,sq,ru⟩:=a;obtain⟨v1,v2,rfl,r1,r2⟩:=Reps.v2 ru;unfold Rep at r1;obtain⟨Y,us1,rfl,Z,aa⟩:=r1;obtain⟨w1,w2,rfl,s1,s2⟩:=Reps.v2 aa;unfold Rep at s1 s2;subst s1 s2;refine⟨(q.1,Y,v2)::tab,.cons sq Z p1,by rw[ze,ze,p2],λ v e=>?_⟩;subst e;unfold bj4 aB7;rw[List.find?_cons];by_cases z:q.1=k
  ·rw[zu (show (q.1,Y,v2).1=k from z),if_pos z];exact r2
  ·rw[zn (show ¬ (q.1,Y,v2).1=k from z),if_neg z];exact p3 _ rfl
theorem PTv.mono {K:Frag}{H H':Hp} (s:Same H H'):∀ {vs:List V}{tab:Tab V},PTv K H vs tab->PTv K H' vs tab
 |_,_,.nil=>.nil
 |_,_,.cons p q r=>.cons (Same.seqT s p) (Same.seqT s q) (PTv.mono s r)
theorem aO7 {x y d:D} (h:ap3 x y=some d):∃ ps k w,x=.lst ps/\y=.tup [.str k,.int w]/\ao9 (k,w) (M_6 ps)=some d:=by
 unfold ap3 at h;split at h
 ·exact⟨_,_,_,rfl,rfl,h⟩
 ·cases h
theorem cj7 {a b:Expr}{F G:FE}{p O apos cpos:Pos} (hm:X.mg "dict"=none) (hu:X.A.units+64<cLine) (he:XE X a F) (hk:XE X b G) (hc:X.calm=true:=by rfl) (hg:Gl X "dict":=by rfl)
  (h1:starEach [a] X.env=[(false,eval a X.env)]:=by rfl) (m:M1 X (.Call (.Name "dict" p) [a] [] O) "get" apos b cpos:=by exact⟨rfl,rfl,rfl,rfl⟩) :
  XE X (.Call (.Attribute (.Call (.Name "dict" p) [a] [] O) "get" apos) [b] [] cpos) (e2 ap3 F G) :=
 PE.wk (aW6 (by omega) (x_8 (aF6 hc hu) hg hm PyProof.Rows.boot_dict (xaC he xaN h1) (by decide) (by decide) h1 rfl) hk m) λ σ H Q aa=>by
  obtain⟨c,H0,ρ,d,ag,R,f,q⟩:=aa;unfold e2 at f;obtain⟨⟨x,Y⟩,g1,f⟩:=a_0 f;obtain⟨⟨y,ae⟩,g2,f⟩:=a_0 f;obtain⟨d',g3,f⟩:=a_0 f;have f':some (d',ae)=some (d,ag):=f;cases f';obtain⟨ps,kk,ww,ex,ey,Z⟩:=aO7 g3;dsimp only at ex ey g2;subst ex ey;clear g3;unfold ao9 at Z;obtain⟨l,g4,g3⟩:=a_0 Z;obtain⟨⟨hz,nd⟩,rfl⟩:=ifs g3;cases pairsT_inv g4;refine⟨c,H0,ρ,_,Y,R,by unfold aC;rw[g1];rfl,λ vs H1 Hh s1 R1 r1=>?_⟩;obtain⟨v,rfl,rv⟩:=Reps.v1 r1;unfold Rep at rv;obtain⟨ad,ws,rfl,sq,t⟩:=rv;obtain⟨tab,p1,p2,p3⟩:=bg9 (kk,ww) t;have ac:=p3 _ rfl;refine⟨ad,ws,tab,rfl,Same.seq R1.same sq,PTv.mono R1.same p1,by rw[p2];exact nd,by have:=jm List.length p2;rw[zd,zd] at this;omega,λ a hl=>?_⟩;have S:=Step.alloc (o:=tdX X.prog X.w a tab) R1.same hl;refine⟨a,rfl,⟨tab,a_3⟩,c,_,Y,_,_,R1.after S,g2,λ y H2 Hh2 s2 R2 r2=>?_⟩;unfold Rep at r2;obtain⟨bd,us,rfl,af,ru⟩:=r2;obtain⟨w1,w2,rfl,z1,z2⟩:=Reps.v2 ru;unfold Rep at z1 z2;subst z1 z2;have sm:Same H1 H2:=S.s0.trans s2;exact⟨tab,(kk,ww),bd,R2.same _ _ (s2 _ _ a_3),(aw4 p1).mono (sm.trans R2.same),rfl,Same.seqT R2.same af,q _ H2 Hh2 (s1.trans sm) R2 (Rep.mono sm _ ac)⟩
end
section
variable {X:Cx}{a b:Expr}{F G:FE}{y:Str}{py pos:Pos}{rest:List Expr}
theorem aK7 {ta tb:TE} (ha:PE X a ta) (hb:PE X (.BoolOp .Or (b::rest) pos) tb):PE X (.BoolOp .Or (a::b::rest) pos) (λ σ H Q=>ta σ H λ x H1=>∃ k,bM2 X.K x H1 k/\if k=true then Q x H1 else tb σ H1 Q):=by
 intro pins s σ H Q I h;refine BoolOp_or (thn (ha pins s σ H _ I h) λ v s1 O=>?_);obtain⟨x,H1,I1,Z,k,tr,q1⟩:=O;refine thn (bk1 pins s1 σ H1 x v (λ k H=>if k=true then Q x H else tb σ H Q) I1 Z ⟨k,tr,q1⟩) λ k' s2 O=>?_;obtain⟨H2,I2,Y⟩:=O;cases k' with
 |false=>rw[if_neg zc] at Y;exact hb pins s2 σ H2 Q I2 Y
 |true=>rw[if_pos rfl] at Y;exact⟨x,H2,I2,Z,Y⟩
theorem cv3 (ha:XE X a F) (hb:XE X (.BoolOp .Or (b::rest) pos) G):XE X (.BoolOp .Or (a::b::rest) pos) (co9 F G):=PE.wk (aK7 ha hb) λ σ H Q Y=>by
 obtain⟨c,H0,ρ,d,aa,R,f,q⟩:=Y;unfold co9 at f;obtain⟨⟨z,O⟩,h1,f⟩:=a_0 f;obtain⟨k,h2,f⟩:=a_0 f;dsimp only at h2 f;refine⟨c,H0,ρ,z,O,R,h1,λ v H1 Hh s1 Z r1=>⟨k,bk2 Z.same r1 h2,?_⟩⟩;cases k with
 |true =>
  rw[if_pos rfl] at f ⊢;cases f;exact q _ H1 Hh s1 Z r1
 |false =>
  rw[if_neg zc] at f ⊢;exact⟨c,H1,O,d,aa,Z,f,λ v H2 Hh2 s2 R2 r2=>q v H2 Hh2 (s1.trans s2) R2 r2⟩
end
section
variable {X:Cx}{scope sc:Scope}{x y:Str}{frees:List Str}{js:List Nat}{px py spos pos p pos':Pos}{elt a:Expr}{ifs:List Expr}{F I:FE}{T:FT}
theorem aT3 (n:Nat) (hN:X.N.Nodup) (i q:Nat) (hm:X.mg "range"=none) (hc:X.calm=true) (ad:X.env.scope=sc) (B:ScB X.N sc scope x frees js) (ha:XE X a F) (ht:∀ s H C fp,XTs (cxB X (x::frees) scope s H C fp) ifs T) (he:∀ s H C fp,XE (cxB X (x::frees) scope s H C fp) elt I)
  (ae:X.N[n]?=some y:=by rfl) (hy:X.env.scope.names.lookup y=some .local:=by rfl) (Z:Gl X "range":=by rfl) (O:starEach [a] X.env=[(false,eval a X.env)]:=by rfl)
  (aa:swapsWith (.ListComp elt [⟨.Name x px,.Call (.Name "range" p) [a] [] pos',ifs,0⟩] scope pos) (some (.Name y py)) spos.line X.env=pure true:=by rfl)
  (hs:∀ v,foldedSetIterable (.Call (.Name "range" p) [a] [] pos') X.env v=pure v:=by intro _;rfl):XS X (.Assign [.Name y py] (.ListComp elt [⟨.Name x px,.Call (.Name "range" p) [a] [] pos',ifs,0⟩] scope pos) spos) (d_5 n (ch9 js i q (aH3 F) T I)) :=
 PS.wk (x_6 (tt:=tTt X.K T) (te:=tE X.K I) hN ae hy hc ad B (av7 Z hm (c_5 ha l_0 O) O) ht he aa hs) λ Dn σ H Y=>by
  obtain⟨c,H0,ρ,r,R,f,qq⟩:=Y;unfold d_5 at f;obtain⟨⟨d,ac⟩,h9,f⟩:=a_0 f;have f':some (Res.nx (ac.set n (.im d)))=some r:=f;cases f';unfold ch9 at h9;obtain⟨⟨xs,ag⟩,h1,f⟩:=a_0 h9;obtain⟨b,o,ys,o',k1,k2,k3,k4,rfl,rfl⟩:=az3 f;unfold aH3 at h1;obtain⟨⟨d1,af⟩,g1,h1⟩:=a_0 h1;obtain⟨j,g3,h1⟩:=a_0 h1;dsimp only at g3 h1;obtain⟨hj,h1⟩:=Fx.ifs h1;cases h1;refine⟨c,H0,ρ,d1,_,R,g1,λ v H1 Hh s1 R1 r1=>?_⟩;cases d1 with
  |int k =>
   have e:k=j:=qp g3;subst e;unfold Rep at r1;subst r1;refine⟨k,rfl,hj.1,hj.2,aR3 R1 k1 k4 k2 k3 (am7 0 k.toNat) λ vs H3 Hh3 s3 R3 r3=>λ p hp=>?_⟩;have S:=Step.alloc (o:=.lst vs) R3.same hp;refine qq _ _ _ (s1.trans (s3.trans S.s0)) ((R3.after S).set n ?_);unfold Rep;exact⟨p,vs,rfl,.inl (.inl a_3),Reps.mono S.s0 _ r3⟩
  |_=>cases g3
end
end Fx
namespace L2
open PySem PySem.Spec PyProof.Rows
theorem F_7 {pos:Pos}{a b:Int}{c:Value}:∀ l:List Value,TriplesOk l ->
  codeAmong pos (l++[rawInt a,rawInt b,c])=codeAmong pos l\/(codeAmong pos l=none/\codeAmong pos (l++[rawInt a,rawInt b,c])=some c)
 |[],_=>by
  simp only[Q6,codeAmong,rawInt];split
  ·exact .inr ⟨trivial,rfl⟩
  ·exact .inl rfl
 |[x],h=>by cases x <;> exact False.elim h
 |[x,y],h=>by cases x <;> first | exact False.elim h | (cases y <;> exact False.elim h)
 |x::y::z::r,h=>by
  cases x with
  |int i t =>
   cases y with
   |int k u =>
    simp only[jr,codeAmong];split
    ·exact .inl rfl
    ·exact F_7 r h
   |_=>exact False.elim h
  |_=>exact False.elim h
noncomputable abbrev ao3 (TabQ:Str) (O:Arguments) (body:Expr) (scope:Scope) (Z:Value) (c':Addr) (Y:Value):Obj:=PySem.W.kla_obj "<lambda>" TabQ O body scope [] Z c' Y
theorem bS8 {X:Cx}{pins:List (Addr×Obj)}{σ:St}{H:Hp}{s:Shared}{M:Model}{A:Around}{E:Value->Shared->Prop}{c:Addr}{O:Arguments}{body:Expr}{scope:Scope}{pos:Pos}{fl:Nat}{Q:Value->Shared->Prop}{TabP:Addr}{TabQ:Str} (ao:(TabP,TabQ)∈Tabs)
  (I:Inv X pins σ H s) (hc:X.env.code=.ref c) (C:PySem.W.CodeHd X.base c TabP) (af:closureFor scope X.env=pure [])
  (h:∀ (f c':Addr) (H':Hp) (s':Shared) (pm Z:Value),Inv X ((f,ao3 TabQ O body scope pm c' Z)::pins) σ H' s'->Same H H'->H' c'=some (.cod TabQ)->X.s₀.heap.objs.size<=f->Q (.ref f) s') :
  wpAny M A (makeFunction "<lambda>" TabQ O (.expr body) scope X.env [] [] [] pos fl) Q E s:=by
 have ac:=I.base.tbls _ _ (I.ok.tab _ _ ao);obtain⟨ps,hP,tr,al⟩:=(show ObjOk X.prog X.w H s.heap TabP (.tbl TabQ) from I.hok _ _ ac);have hg:s.heap.Ns mainGlobals X.mg:=I.ok.mod.glob.keeps I.bk;obtain⟨bm,ob,b1,b2,b3,b4,b5,b6⟩:=I.ok.mod.bm;have aa:=I.bk _ _ b3;have an:bm≠TabP:=λ q=>by rw[q,hP] at aa;cases aa;cases b4
 have am:mainGlobals≠TabP:=λ q=>by
  obtain⟨o,es,ep,e,hd,_⟩:=hg;rw[q,hP] at e;cases e;cases hd
 have ah:bm≠mainGlobals:=λ q=>by
  obtain⟨o,es,ep,e,hd,_⟩:=hg;rw[<- q,aa] at e;cases e;rw[hd] at b6;cases b6
 have hB:s.heap.BuiltinsAt X.mg TabP:=⟨bm,ob,b1,b2,ah,an,aa,b4,b5,b6⟩;rcases al pos with z | ⟨c',z,y⟩
 ·refine PySem.W.kla_makeFunction af I.ok.glob hg hc (C.keeps I.bk) hP tr z am hB λ c' Z h' tk hx ad aj ae ak=>?_;have Y:H c'=none:=I.hok.fresh ad;have hsz:s.heap.objs.size<=h'.objs.size:=yy (Yc ad aj);have nP:∀ b,H b=none->b≠TabP:=λ b n q=>by rw[q,ac] at n;cases n
  let oF:Obj:=ao3 TabQ O body scope ((X.mg "__name__").getD .none) c' Z
  have up:∀ b o,h'.get? b=some o->(h'.push oF).get? b=some o:=λ b o e=>ql _ e;have ai:HOk X.prog X.w (upd H c' (.cod TabQ)) (h'.push oF):=λ b o e=>by
   by_cases hb:b=c'
   ·subst hb;rw[a_3] at e;cases e;obtain⟨d,oc,vs,t,e1,e2,r⟩:=ae;cases e1;exact⟨_,oc,vs,t,rfl,up _ _ e2,r⟩
   ·rw[b_2 hb] at e;by_cases ag:b=TabP
    ·subst ag;rw[ac] at e;cases e;refine⟨_,up _ _ ak,?_,λ pos'=>?_⟩
     ·have:=TriplesOk_snoc pos.line pos.col (.ref c') ps.toList tr;simpa using this
     ·have q:(ps++#[rawInt pos.line,rawInt pos.col,.ref c']).toList=ps.toList++[rawInt pos.line,rawInt pos.col,.ref c']:=by simp
      rw[q];rcases F_7 (pos:=pos') (a:=pos.line) (b:=pos.col) (c:=.ref c') ps.toList tr with w | ⟨_,w⟩
      ·rw[w];rcases al pos' with v | ⟨c2,v,v2⟩
       ·exact .inl v
       ·exact .inr ⟨c2,v,by rw[b_2 (c_6 v2 Y)];exact v2⟩
      ·exact .inr ⟨c',w,a_3⟩
    ·refine (I.hok b o e).stay (λ d v hd q=>up _ _ (hx d v ?_ q)) (λ d q=>by rw[b_2 (c_6 q Y)];exact q) (λ d xs q=>by rw[b_2 (c_6 q Y)];exact q) λ d xs q=>by rw[b_2 (c_6 q Y)];exact q
     rcases hd with rfl | hd
     ·exact ag
     ·intro w;rw[w,ac] at hd;cases hd
  have u:Un X.fs [] H (upd H c' (.cod TabQ)) s.heap (h'.push oF):=by
   refine⟨λ b o e n _ _=>up _ _ (hx b o (nP b n) e),λ b o e n _ _=>⟨o.slots,up _ _ (hx b o (nP b n) e)⟩,λ b o e n _=>?_,λ b o e _=>?_,λ b xs q=>by rw[b_2 (c_6 q Y)];exact q,λ b o xs q=>by rw[b_2 (c_6 q Y)];exact q,λ b xs q=>by rw[b_2 (c_6 q Y)];exact q⟩
   ·rw[b_2 (Ye (Nat.lt_of_lt_of_le (Heap.lt_size e) ad))];exact n
   ·by_cases hb:b=TabP
    ·exact⟨_,up _ _ (by rw[hb];exact ak)⟩
    ·exact⟨o,up _ _ (hx b o hb e)⟩
  have I1:Inv X pins σ (upd H c' (.cod TabQ)) {s with heap:=h'.push oF,toks:=tk}:=I.un u ai;refine h h'.objs.size c' _ _ ((X.mg "__name__").getD .none) Z (I1.pins_of λ p hp=>?_) (λ b o e=>by rw[b_2 (c_6 e Y)];exact e) a_3 (z0 I.sz hsz);rcases qz hp with rfl | hp
  ·refine⟨qt _ rfl,?_,jb (qx I.lt hsz),I.nofs hsz,λ v=>by nofun⟩;show upd H c' (.cod TabQ) h'.objs.size=none;rw[b_2 (jb aj)];exact I.hok.fresh hsz
  ·exact I1.pin p (qw _ hp)
 ·refine PySem.W.kla_makeFunctionHit af I.ok.glob hg hc (C.keeps I.bk) hP tr z hB λ Z h' tk hk hsz=>?_;have I1:Inv X pins σ H {s with heap:=h'.push (ao3 TabQ O body scope ((X.mg "__name__").getD .none) c' Z),toks:=tk}:=I.kept (λ b u e=>ql _ (hk b u e));refine h h'.objs.size c' H _ ((X.mg "__name__").getD .none) Z (I1.pins_of λ p hp=>?_) (Same.refl _) y (z0 I.sz hsz);rcases qz hp with rfl | hp
  ·exact⟨qt _ rfl,I.hok.fresh hsz,jb (qx I.lt hsz),I.nofs hsz,λ v=>by nofun⟩
  ·exact I1.pin p (qw _ hp)
theorem bu0 {TabQ:Str}{CX:CXT}{P:Program}{w:World}{K:Frag}{mg:Str->Option Value}{base:Heap}{A:Around}{outer:List Env}{s:Shared}{H:Hp}{k:Nat}{f c':Addr}{O:Arguments}{body:Expr}{scope:Scope}{pm aa:Value}{N ps:List Str}{us:List Value}{vs:List V}{Q:VK}{E:XK}{args:Args}
  (hr:Room (k+1) A) (e0:Env0 P w K mg base A outer s H) (hf:s.heap.get? f=some (ao3 TabQ O body scope pm c' aa)) (hc:H c'=some (.cod TabQ)) (S:FnScope N ps scope)
  (hb:BindsTo s (PySem.W.kla_fn "<lambda>" TabQ O body scope [] pm (.ref c') aa) args (ps.zip us)) (hl:vs.length=ps.length) (r:Vals vs us)
  (Y:Room k (A.deeper (envOfC TabQ scope s.heap.objs.size f (.ref c')))->∃ t,PE (R_5 CX P w K mg base N TabQ scope f (.ref c') A outer s H E) body t/\t (start N vs) H Q) :
  codeAny (model P w) A (.call (.ref f) args) (CR CX outer P w H s Q E) s:=by
 have ad:s.heap.NoLimit:=e0.mod.nolimit.keeps λ b o e=>(e0.bs b o e).1;have ae:s.heap.CodeRec (.ref c') TabQ:=e0.hok c' _ hc;have Z:∀ y∈ps.zip us,scope.names.lookup y.1=some .local\/(scope.names.lookup y.1=some .cell/\((cellsFrom (s.heap.objs.size+1) scope.names []).lookup y.1).isSome=true):=λ ac hy=>by
  obtain⟨n,v⟩:=ac;rcases S.par n (Zs hy).1 with q | q
  ·exact .inl q
  ·exact .inr ⟨q,Zn _ _ _ (.inl q)⟩
 refine PySem.W.kla_callFunE hr.depth hf rfl S.co S.gen rfl ae (hb _ _ _ _ ?_);refine wpAny_newFunctionEnv_cells S.kind Z λ env he s1 x=>?_;subst he;refine⟨ad.keeps x.toInCall.keep,PySem.W.kla_codeExpr ?_⟩;obtain⟨t,ht,hq⟩:=Y (hr.deeper _);have I:Inv (R_5 CX P w K mg base N TabQ scope f (.ref c') A outer s H E) [] (start N vs) H s1:=aA0 S hr.hd e0 hl r x;refine zv (ht [] s1 (start N vs) H _ I hq) (λ u s' hs=>?_) λ e s' hs=>hs;obtain⟨v,H',J,rv,q⟩:=hs;exact⟨v,H',J.os,J.bare,J.base,J.hok,rv,q⟩
end L2
namespace Fx
open PySem
noncomputable def isF:D->Bool
 |.int _=>true
 |.str _=>true
 |_=>false
def keyF (F:FE) (x:D):Option (List D):=match F [.im x] with
 |some (.tup ks,_)=>if ks.all isF=true then some ks else none
 |_=>none
theorem ay2 {F:FE}{x:D}{ks:List D} (h:keyF F x=some ks):∃ ρ,F [.im x]=some (.tup ks,ρ)/\ks.all isF=true:=by
 unfold keyF at h;split at h
 ·rename_i a b e;by_cases z:a.all isF=true
  ·rw[if_pos z] at h;cases h;exact⟨_,e,z⟩
  ·rw[if_neg z] at h;cases h
 ·cases h
theorem keyF_flat {F:FE}{x:D}{ks:List D} (h:keyF F x=some ks):ks.all isF=true:=by obtain⟨_,_,z⟩:=ay2 h;exact z
def bestF (F:FE):Option (D×List D)->List D->Option D
 |none,[]=>some .non
 |some p,[]=>some p.1
 |none,x::r=>bnd (keyF F x) λ k=>bestF F (some (x,k)) r
 |some b,x::r=>bnd (keyF F x) λ k=>if sameFs k b.2=true then bestF F (some (if lexF k b.2=true then (x,k) else b)) r else none
def cm3 (F:FE) (x:D) (k:List D) (r:List D):Option (D×List D)->Option D
 |none=>bestF F (some (x,k)) r
 |some b=>if sameFs k b.2=true then bestF F (some (if lexF k b.2=true then (x,k) else b)) r else none
theorem bestF_c {F:FE}{x d:D}{r:List D}{o:Option (D×List D)} (h:bestF F o (x::r)=some d):∃ k,keyF F x=some k/\cm3 F x k r o=some d:=by
 cases o with
 |none=>exact a_0 h
 |some b=>exact a_0 h
def aR2 (F:FE):List D->Option D
 |[.lst xs]=>if xs.all isF=true then bestF F none xs else none
 |_=>none
theorem aR0 {F:FE}{ds:List D}{d:D} (h:aR2 F ds=some d):∃ xs,ds=[.lst xs]/\xs.all isF=true/\bestF F none xs=some d:=by
 unfold aR2 at h;split at h
 ·rename_i xs;by_cases O:xs.all isF=true
  ·rw[if_pos O] at h;exact⟨xs,rfl,O,h⟩
  ·rw[if_neg O] at h;cases h
 ·cases h
end Fx
namespace Fx
open PySem PySem.Spec PyProof.Rows L2
noncomputable def vF:D->V
 |.int i=>.int i
 |.str s=>.str s
 |_=>.non
section
variable {K:Frag}{H:Hp}
theorem bL7 {d:D}{v:V} (h:isF d=true) (r:Rep K H d v):v=vF d:=by cases d <;> first | (unfold Rep at r;exact r) | cases h
theorem bf9 {d:D} (h:isF d=true):Rep K H d (vF d):=by cases d <;> first | (unfold Rep vF;rfl) | cases h
theorem aq8:∀ {ds:List D}{vs:List V},ds.all isF=true->Reps K H ds vs->vs=ds.map vF
 |[],_,_,r=>by unfold Reps at r;exact r
 |d::ds,_,h,r=>by
  rw[j7,zj] at h;unfold Reps at r;obtain⟨v,vs,rfl,Y,O⟩:=r;rw[bL7 h.1 Y,aq8 h.2 O];rfl
theorem bu2 {d:D}{u:Value} (h:isF d=true) (r:RelV (vF d) u):bp8 d u:=by cases d <;> first | exact r | cases h
theorem flats_vF:∀ {ds:List D}{us:List Value},ds.all isF=true->Vals (ds.map vF) us->Flats ds us
 |[],_,_,r=>by cases r;exact .nil
 |d::ds,_,h,r=>by
  rw[j7,zj] at h;cases r with
  |cons Y O=>exact .cons (bu2 h.1 Y) (flats_vF h.2 O)
end
end Fx
namespace L2
open PySem PySem.Spec PyProof.Rows
section
variable {X:Cx}{ps qs:List (Addr×Obj)}{σ:St}{H:Hp}{s:Shared}
theorem Inv.sub (I:Inv X ps σ H s) (h:∀ q∈qs,q∈ps):Inv X qs σ H s :=
 I.pins_of λ q O=>I.pin q (List.mem_append.mpr (.inr (h q O)))
theorem Inv.obj (I:Inv X ps σ H s) {a:Addr}{o:Obj} (h:(a,o)∈ps):s.heap.get? a=some o:=(I.pin (a,o) (List.mem_append.mpr (.inr h))).1
structure Young (X:Cx) (ps:List (Addr×Obj)) (a:Addr):Prop where
 age:X.s₀.heap.objs.size<=a
 one:∀ p,p∈X.pn\/p∈ps->p.1≠a
theorem Young.fresh (I:Inv X ps σ H s) {a:Addr} (h:s.heap.objs.size<=a):Young X ps a :=
 ⟨z0 I.sz h,λ p hp e=>by
  have:=qv (I.pin p (List.mem_append.mpr hp)).1;rw[e] at this;exact absurd this (Nat.not_lt.mpr h)⟩
theorem Young.more {a b:Addr}{o:Obj} (y:Young X ps a) (h:b≠a):Young X ((b,o)::ps) a :=
 ⟨y.age,λ p hp=>by
  rcases hp with h1 | h1
  ·exact y.one p (.inl h1)
  ·cases h1 with
   |head=>exact h
   |tail _ h2=>exact y.one p (.inr h2)⟩
theorem Inv.became {a:Addr}{o u:Obj}{g:Heap}{n:Nat} (I:Inv X ((a,o)::ps) σ H s) (y:Young X ps a) (k:∀ b v,b≠a->s.heap.get? b=some v->g.get? b=some v) (e:g.get? a=some u) (d:∀ v,u.data≠.cell v) :
  Inv X ((a,u)::ps) σ H {s with heap:=g,toks:=n}:=by
 have P:=I.pin (a,o) (List.mem_append.mpr (.inr (.head _)));have C:∀ x c,X.env.cells.lookup x=some c->c≠a:=λ x c q z=>by
  obtain⟨v,w,h1,h2⟩:=I.cell x c q;have Y:w=o:=by rw[z,P.1] at h1;exact (qp h1).symm
  exact P.2.2.2.2 v (by rw[<- Y];exact h2)
 have J:Inv X ps σ H {s with heap:=g,toks:=n}:=(I.sub λ q h=>.tail _ h).turned k P.2.1 P.2.2.1 (.inr y.age) C λ p hp=>y.one p (zb hp);refine J.pins_of λ q O=>?_;cases O with
 |head=>exact⟨e,P.2.1,P.2.2.1,P.2.2.2.1,d⟩
 |tail _ h=>exact J.pin q (List.mem_append.mpr (.inr h))
theorem Inv.pinNew {a:Addr}{o:Obj} (I:Inv X ps σ H s) (Y:H a=none) (e:s.heap.get? a=some o) (d:∀ v,o.data≠.cell v) (l:a≠X.env.locals) (f:a∉X.fs):Inv X ((a,o)::ps) σ H s :=
 I.pins_of λ q O=>by
  cases O with
  |head=>exact⟨e,Y,l,f,d⟩
  |tail _ h=>exact I.pin q (List.mem_append.mpr (.inr h))
end
abbrev by2 (l:Addr) (j:Nat) (o:Obj):Prop:=o.cls=.type "list_iterator" ∧ o.data=.fields #[.ref l,.int j 0]
theorem vals_at:∀ {xs:List V}{us:List Value}{j:Nat}{v:V},Vals xs us->xs[j]?=some v->∃ u,us[j]?=some u/\RelV v u
 |[],_,_,_,_,e=>by simp at e
 |x::xs,_,j,v,.cons h r,e=>by
  cases j with
  |zero =>
   have e:x=v:=by simpa using e
   subst e;exact⟨_,rfl,h⟩
  |succ j =>
   obtain⟨t,q⟩:=vals_at (j:=j) (v:=v) r (by simpa using e);exact⟨t,by simpa using q⟩
theorem aa6 {X:Cx}{A:Around}{ps:List (Addr×Obj)}{σ:St}{H:Hp}{s:Shared}{It l:Addr}{o:Obj}{j:Nat}{ns:List V}{Q:Option Value->Shared->Prop}{E:Value->Shared->Prop}
  (hd:A.handled=none) (y:Young X ps It) (I:Inv X ((It,o)::ps) σ H s) (Z:by2 l j o) (sq:SqL X.K H l ns)
  (Y:ns[j]?=none->∀ s',Inv X ps σ H s'->Q none s')
  (go:∀ n u o' s',ns[j]?=some n->RelV n u->by2 l (j+1) o'->Inv X ((It,o')::ps) σ H s'->Q (some u) s'):wpAny (model X.prog X.w) A (pyNext (.ref It)) Q E s:=by
 obtain⟨vs,rv,pl,_⟩:=I.list sq;have O:s.heap.IsListIter It l j:=⟨o,I.obj (.head _),Z.1,Z.2⟩;have len:vs.length=ns.length:=rv.length.symm;cases q:ns[j]? with
 |none =>
  have q':vs.toArray[j]?=none:=by rw[Zy,List.getElem?_eq_none_iff,len];exact List.getElem?_eq_none_iff.mp q
  refine Zt hd O pl.isList q' λ g x=>Y q _ ?_;have P:=I.pin (It,o) (List.mem_append.mpr (.inr (.head _)));exact (I.sub λ r h=>.tail _ h).turned (t':=s.toks) x P.2.1 P.2.2.1 (.inr y.age) (λ a c e z=>by
   obtain⟨v,w,h1,h2⟩:=I.cell a c e;rw[z,P.1] at h1;exact P.2.2.2.2 v (by rw[Zq h1];exact h2)) λ p hp=>y.one p (zb hp)
 |some n =>
  obtain⟨u,hu,ru⟩:=vals_at rv q;refine Zl O pl.isList (x:=u) (by rw[Zy];exact hu) λ g st x=>?_;obtain⟨o',e',c',d'⟩:=st;exact go n u o' _ q ru ⟨c',d'⟩ (I.became (n:=s.toks) y (λ b v hb e=>(x.2 b hb).trans e) e' λ v=>by rw[d'];nofun)
theorem ar5 {X:Cx}{M:Model}{A:Around}{ps:List (Addr×Obj)}{σ:St}{H:Hp}{s:Shared}{S:Addr}{xs ys:Array Value}{c:Nat}{Q:Unit->Shared->Prop}{E:Value->Shared->Prop} (Z:xs.size<=2) (O:ys.size<=2)
  (y:Young X ps S) (I:Inv X ((S,seqObj "list" xs c)::ps) σ H s) (h:∀ c' s',Inv X ((S,seqObj "list" ys c')::ps) σ H s' → Q () s'):wpAny M A (updateSeq S λ _=>ys) Q E s:=by
 have e:=I.obj (.head _);have Y:=Heap.SameBut.update s.heap S (Obj.mapSeq λ _=>ys);have big:2<=sizeLine:=by decide
 exact wpAny_updateSeq e rfl (h _ _ (I.became (n:=s.toks) y (λ b v hb q=>(Y.2 b hb).trans q) (get?_update_seq e λ _=>ys) λ v=>by nofun)) (z0 Z big) (z0 O (Nat.le_succ_of_le big))
theorem aM4 {X:Cx}{A:Around}{ps:List (Addr×Obj)}{σ:St}{H:Hp}{s:Shared}{a b:Addr}{k m:List Fx.D}{Q:Value->Shared->Prop}{E:Value->Shared->Prop} (Z:A.units<cLine) (I:Inv X ps σ H s) (fk:k.all Fx.isF=true) (fm:m.all Fx.isF=true) (hs:Fx.sameFs k m=true)
  (ha:SqT X.K H a (k.map Fx.vF)) (hb:SqT X.K H b (m.map Fx.vF)) (h:Q (.bool (Fx.lexF k m)) s):wpAny (model X.prog X.w) A (richCompare .Lt (.ref a) (.ref b)) Q E s:=by
 obtain⟨us,Y,t1,_⟩:=I.tuple ha;obtain⟨ws,r2,O,_⟩:=I.tuple hb;exact Fx.lt_tupFlat t1 O (by simpa using Fx.flats_vF fk Y) (by simpa using Fx.flats_vF fm r2) hs Z h
def bE2 (X:Cx) (A:Around) (σ:St) (f c':Addr) (TQ:Str) (fo:Obj) (F:Fx.FE):Prop :=
 ∀ (ps:List (Addr×Obj)) (H:Hp) (s:Shared) (d:Fx.D) (u:Value) (ks:List Fx.D),Fx.isF d=true->Fx.keyF F d=some ks->RelV (Fx.vF d) u->Inv X ps σ H s->(f,fo)∈ps->H c'=some (.cod TQ) ->
  wpAny (model X.prog X.w) A (call (.ref f) [u]) (λ w s'=>∃ O H',w=.ref O/\Inv X ps σ H' s'/\Same H H'/\SqT X.K H' O (ks.map Fx.vF)) (λ _ _=>False) s
inductive Holds4 (K:Frag) (H:Hp):Option (Fx.D×List Fx.D)->Array Value->Prop
 |no:Holds4 K H none #[]
 |yes (b:Fx.D) (ks:List Fx.D) (u:Value) (k:Addr) (fb:Fx.isF b=true) (fk:ks.all Fx.isF=true) (r:RelV (Fx.vF b) u) (h:SqT K H k (ks.map Fx.vF)):Holds4 K H (some (b,ks)) #[u,.ref k]
noncomputable abbrev ba4 (It f S:Addr):Code:=.builtin "min.loop" ⟨[.ref It,.ref f,.ref S],[(Str.ofString "default",.none)]⟩
section
variable {X:Cx}{A:Around}{σ:St}{ps:List (Addr×Obj)}{f c' l S It:Addr}{fo:Obj}{TQ:Str}{F:Fx.FE}{ns:List Fx.D}
theorem aB9 (hd:A.handled=none) (hu:A.in1.units<cLine) (fm:(f,fo)∈ps) (yS:Young X ps S) (yI:Young X ps It) (ne:S≠It) (key:bE2 X A.in1 σ f c' TQ fo F) (hF:ns.all Fx.isF=true) (R:Result->Shared->Prop) :
  ∀ (r:List Fx.D) (j:Nat) (o:Option (Fx.D×List Fx.D)) (xs:Array Value) (c:Nat) (oi:Obj) (H:Hp) (s:Shared) (d:Fx.D),Fx.bestF F o r=some d → ns.drop j=r → Inv X ((It,oi)::(S,seqObj "list" xs c)::ps) σ H s → by2 l j oi → SqL X.K H l (ns.map Fx.vF) → H c'=some (.cod TQ) → Holds4 X.K H o xs →
   (∀ H' s' v,Inv X ps σ H' s'->Same H H'->RelV (Fx.vF d) v->(d=.non\/Fx.isF d=true)->R (.ok (.ret v)) s') ->
   codeAny (model X.prog X.w) A (ba4 It f S) R s:=by
 have nm:(toString "min"++toString ".loop":String)="min.loop":=by decide
 have un:A.under (ba4 It f S)=A.in1:=yz Zo _;intro r;induction r with
 |nil =>
  intro j o xs c oi H s d Y dr I io sq hc hh out;have Z:(ns.map Fx.vF)[j]?=none:=by rw[zy,List.getElem?_eq_none_iff.mpr (List.drop_eq_nil_iff.mp dr)];rfl
  apply y7 PySem.F.entry_min_loop;rw[un];change wpAny (model X.prog X.w) A.in1 (seqItems? (.ref S) >>= _) _ _ s;apply qj;apply wpAny_seqItems (I.obj (.tail _ (.head _))) rfl;change wpAny (model X.prog X.w) A.in1 (tryCatch (pyNext (.ref It)) _ >>= _) _ _ s;apply qj;apply Zb;refine aa6 (A:=A.in1) hd (yI.more ne) I io sq (λ _ s1 I1=>?_) λ n _ _ _ e=>by rw[Z] at e;cases e
  cases hh with
  |no =>
   cases Y;exact qj (wpAny_rule (qk (out H s1 .none (I1.sub λ q h=>.tail _ h) (Same.refl _) rfl (.inl rfl))))
  |yes b ks u k fb fk r q =>
   cases Y;apply qj;refine ar5 (xs:=#[u,.ref k]) (ys:=#[]) (qr _) (zx _) yS I1 λ _ s2 I2=>?_;exact qj (wpAny_letGo (qk (out H s2 u (I2.sub λ q h=>.tail _ h) (Same.refl _) r (.inr fb))))
 |cons n r ih =>
  intro j o xs c oi H s d Y dr I io sq hc hh out;have lt:j<ns.length:=by
   cases Nat.lt_or_ge j ns.length with
   |inl h=>exact h
   |inr h=>rw[List.drop_eq_nil_iff.mpr h] at dr;cases dr
  have two:ns[j]?=some n/\ns.drop (j+1)=r:=by
   rw[List.drop_eq_getElem_cons lt] at dr;injection dr with h1 h2
   exact⟨by rw[zo lt,h1],h2⟩
  have fn:Fx.isF n=true:=List.all_eq_true.mp hF n (ji two.1);obtain⟨ks,hk,Y⟩:=Fx.bestF_c Y;have fk:=Fx.keyF_flat hk;apply y7 PySem.F.entry_min_loop;rw[un];change wpAny (model X.prog X.w) A.in1 (seqItems? (.ref S) >>= _) _ _ s;apply qj;apply wpAny_seqItems (I.obj (.tail _ (.head _))) rfl;change wpAny (model X.prog X.w) A.in1 (tryCatch (pyNext (.ref It)) _ >>= _) _ _ s;apply qj;apply Zb;refine aa6 (A:=A.in1) hd (yI.more ne) I io sq (λ e=>by rw[zy,two.1] at e;cases e) λ m u oj s1 e ru ae I1=>?_;have mn:Fx.vF n=m:=by rw[zy,two.1] at e;exact qp e
  subst mn;change wpAny (model X.prog X.w) A.in1 (tryCatch (holding [u] (call (.ref f) [u])) _ >>= _) _ _ s1;apply qj;apply Zb;apply yg;refine zv (key _ H s1 n u ks fn hk ru I1 (.tail _ (.tail _ fm)) hc) (λ u2 s2 w=>?_) λ _ _ z=>z.elim;obtain⟨ka,H2,rfl,I2,sm,kq⟩:=w;have I3:Inv X ((S,seqObj "list" xs c)::(It,oj)::ps) σ H2 s2:=I2.sub λ q h=>by
   cases h with
   |head=>exact .tail _ (.head _)
   |tail _ h=>cases h with
    |head=>exact .head _
    |tail _ h=>exact .tail _ (.tail _ h)
  have O:∀ (o':Option (Fx.D×List Fx.D)) (ys:Array Value) (c2:Nat) (s3:Shared),Inv X ((S,seqObj "list" ys c2)::(It,oj)::ps) σ H2 s3 → Holds4 X.K H2 o' ys → Fx.bestF F o' r=some d → codeAny (model X.prog X.w) A (ba4 It f S) R s3:=λ o' ys c2 s3 I4 h4 ac =>
   ih (j+1) o' ys c2 oj H2 s3 d ac two.2 (I4.sub λ q h=>by
    cases h with
    |head=>exact .tail _ (.head _)
    |tail _ h=>cases h with
     |head=>exact .head _
     |tail _ h=>exact .tail _ (.tail _ h)) ae (sm.seq sq) (sm _ _ hc) h4 λ H' s' v J ad ov=>out H' s' v J (sm.trans ad) ov
  have quiet:(ba4 It f S).quiet=true:=j6 Zo _;cases hh with
  |no =>
   apply qj;refine ar5 (xs:=#[]) (ys:=#[u,.ref ka]) (zx _) (qr _) (yS.more (yi ne)) I3 λ c2 s3 I4=>?_;rw[nm];exact qk ⟨quiet,O (some (n,ks)) _ c2 s3 I4 (.yes n ks u ka fn fk ru kq) Y⟩
  |yes b kb ub ab fb aa rb hb =>
   have Y:(if Fx.sameFs ks kb=true then Fx.bestF F (some (if Fx.lexF ks kb=true then (n,ks) else (b,kb))) r else none)=some d:=Y;by_cases hs:Fx.sameFs ks kb=true
   case neg=>rw[if_neg hs] at Y;cases Y
   rw[if_pos hs] at Y;change wpAny (model X.prog X.w) A.in1 (tryCatch (holding [u,.ref ka] (richCompare .Lt (.ref ka) (.ref ab) >>= _)) _ >>= _) _ _ s2;apply qj;apply Zb;apply yg;apply qj;refine aM4 hu I2 fk aa hs kq (Fx.Same.seqT sm hb) ?_;apply qj;apply yg;apply yo;apply qj;apply wpAny_letGo;apply qk;cases less:Fx.lexF ks kb with
   |true =>
    rw[less,if_pos rfl] at Y;rw[if_pos rfl];apply qj;refine ar5 (xs:=#[ub,.ref ab]) (ys:=#[u,.ref ka]) (qr _) (qr _) (yS.more (yi ne)) I3 λ c2 s3 I4=>?_;rw[nm];exact qj (wpAny_letGo (qk ⟨quiet,O (some (n,ks)) _ c2 s3 I4 (.yes n ks u ka fn fk ru kq) Y⟩))
   |false =>
    rw[less,if_neg zc] at Y;rw[if_neg zc,nm];exact qj (wpAny_letGo (qk ⟨quiet,O (some (b,kb)) _ c s2 I3 (.yes b kb ub ab fb aa rb (Fx.Same.seqT sm hb)) Y⟩))
theorem aZ7 (a v u:Value):argsOk "min" ⟨[a],[(Str.ofString "key",v),(Str.ofString "default",u)]⟩:=by unfold argsOk;kernel_rfl
theorem aZ6 {H:Hp}{s:Shared}{Q:Value->Shared->Prop}{E:Value->Shared->Prop}{d:Fx.D} (hd:A.handled=none) (hu:A.in1.units<cLine) (fm:(f,fo)∈ps) (I:Inv X ps σ H s) (Y:SqL X.K H l (ns.map Fx.vF)) (hc:H c'=some (.cod TQ)) (key:bE2 X A.in1 σ f c' TQ fo F) (hF:ns.all Fx.isF=true) (bf:Fx.bestF F none ns=some d)
  (out:∀ H' s' v,Inv X ps σ H' s'->Same H H'->RelV (Fx.vF d) v->(d=.non\/Fx.isF d=true)->Q v s') :
  wpAny (model X.prog X.w) A (call (.builtin "min") [.ref l] [(Str.ofString "key",.ref f),(Str.ofString "default",.none)]) Q E s:=by
 have nm:(toString "min"++toString ".loop":String)="min.loop":=by decide
 obtain⟨vs,_,pl,_⟩:=I.list Y
 let O:Obj:={cls:=.type "list_iterator",data:=.fields #[.ref l,.int 0 0]}
 let h1:=s.heap.push O
 let h2:=h1.push (seqObj "list" #[] 0)
 have up:∀ b u,s.heap.get? b=some u->h2.get? b=some u:=λ b u e=>ql _ (ql _ e);have n1:h1.objs.size=s.heap.objs.size+1:=size_push' ..;have le:s.heap.objs.size<=h1.objs.size:=by rw[n1];exact Zd _
 have Z:Inv X ps σ H {s with heap:=h2}:=I.kept (t':=s.toks) up;have put:∀ {qs:List (Addr×Obj)}{a:Addr}{o:Obj},Inv X qs σ H {s with heap:=h2}->s.heap.objs.size<=a->h2.get? a=some o->(∀ v,o.data≠.cell v)->Inv X ((a,o)::qs) σ H {s with heap:=h2}:=λ J h e d =>
  J.pinNew (I.hok.fresh h) e d (jb (qx I.lt h)) (I.nofs h)
 have I1:=put (put Z (a:=h1.objs.size) (o:=seqObj "list" #[] 0) le (qt _ rfl) (λ v=>by nofun)) (a:=s.heap.objs.size) (o:=O) (qr _) (ql _ (qt _ rfl)) λ v=>by nofun
 apply kmk_tree PySem.F.kind_min PySem.F.plain_min PySem.F.entry_min (aZ7 _ _ _);change wpAny (model X.prog X.w) A.in1 (Builtin.Builtins.bindParams "min" ["key","default"] 0 ⟨[],[(Str.ofString "key",.ref f),(Str.ofString "default",.none)]⟩ >>= _) _ _ s;apply qj;rw[show Builtin.Builtins.bindParams "min" ["key","default"] 0 ⟨[],[(Str.ofString "key",.ref f),(Str.ofString "default",.none)]⟩=pure [some (.ref f),some .none] from rfl];apply qk;apply qj;apply qk;apply qj;apply Qu pl.isList;apply qj;refine Z8 (items:=[]) ?_ (zx sizeLine);rw[nm];apply qk;exact⟨j6 Zo _,aB9 (ns:=ns) hd hu fm (Young.fresh I le) (Young.fresh I (qr _)) (by rw[n1];exact Nat.succ_ne_self _) key hF _ ns 0 none #[] 0 O H _ d bf rfl I1 ⟨rfl,rfl⟩ Y hc .no out⟩
end
end L2
namespace Fx
open PySem PySem.Spec PyProof.Rows L2
theorem bU5 {X:Cx}{σ:L2.St}{TabQ x:Str}{F:FE}{O:Arguments}{body:Expr}{scope:Scope}{f c':Addr}{pm Z:Value} (hr:Room 2 X.A) (S:FnScope [x] [x] scope)
  (hb:∀ (u pm c Z:Value),bindArgs (PySem.W.kla_fn "<lambda>" TabQ O body scope [] pm c Z) ⟨[u],[]⟩=pure [(x,u)])
  (Y:∀ (f:Addr) (c:Value) (A:Around) (outer:List Env) (s:Shared) (H:Hp) (E:XK),XE (R_5 CX0 X.prog X.w X.K X.mg X.base [x] TabQ scope f c A outer s H E) body F) :
  bE2 X X.A.in1 σ f c' TabQ (ao3 TabQ O body scope pm c' Z) F:=by
 intro pins H s d u ks hn hk ru I hm hc;have hf:=(I.pin _ (qw _ hm)).1;obtain⟨ρ,hF,fk⟩:=ay2 hk;refine Q2 (ja (bu0 (CX:=CX0) (k:=0) (N:=[x]) (ps:=[x]) (us:=[u]) (vs:=[vF d]) (Q:=λ v H'=>∃ ka,v=.ref ka/\Same H H'/\SqT X.K H' ka (ks.map vF)) (E:=E0) hr.in1 I.env0.in1 hf hc S (.of_eq (hb _ _ _ _)) rfl (.cons ru .nil)
  λ _=>⟨_,Y f (.ref c') X.A.in1 X.stack s H E0,⟨λ _=>none,H,[]⟩,λ _=>none,[.im d],_,_,RS.start (ds:=[d]) (vs:=[vF d]) (m:=0) (n:=1) (λ b o e=>nomatch e) (Reps.one (bf9 hn)) rfl,hF,λ v H0' H' sm R rv=>?_⟩) λ r s' h=>?_)
 ·unfold Rep at rv;obtain⟨ka,vs,rfl,sq,rr⟩:=rv;rw[aq8 fk rr] at sq;exact⟨ka,rfl,λ b o e=>R.keep b o e (by simp),Same.seqT R.same sq⟩
 ·cases r with
  |error e=>exact False.elim h
  |ok fl =>
   cases fl with
   |ret u =>
    obtain⟨v,H',I',rv,ka,rfl,sm,sq⟩:=I.after h;exact⟨ka,H',rv,I',sm,sq⟩
   |next=>exact False.elim h
   |brk=>exact False.elim h
   |cont=>exact False.elim h
theorem bF4 {X:Cx}{e:Expr}{A:FA}{TabP:Addr}{TabQ x:Str}{F:FE}{O:Arguments}{lb:Expr}{scope:Scope}{ae aj am p pos cp:Pos}{j} (hr:Room 2 X.A) (aq:(TabP,TabQ)∈Tabs) (au:∃ c,X.env.code=.ref c/\PySem.W.codeHdIn X.K c TabP=true) (S:FnScope [x] [x] scope)
  (hb:∀ (u pm c ag:Value),bindArgs (PySem.W.kla_fn "<lambda>" TabQ O lb scope [] pm c ag) ⟨[u],[]⟩=pure [(x,u)])
  (aa:∀ (f:Addr) (c:Value) (A:Around) (outer:List Env) (s:Shared) (H:Hp) (E:XK),XE (R_5 CX0 X.prog X.w X.K X.mg X.base [x] TabQ scope f c A outer s H E) lb F)
  (hm:X.mg "min"=none) (ha:XA X [e] A) (hq:X.env.qual++"<lambda>"=TabQ:=by rfl) (an:closureFor scope X.env=pure []:=by rfl) (ad:defaultsOf O X.env=([],[]):=by rfl) (hg:Gl X "min":=by rfl)
  (he:backTo pos (starEach [e] X.env)=(false,eval e X.env)::backTo pos (starEach [] X.env):=by rfl) (ak:(backTo pos (starEach [e] X.env)).any (·.1)=false:=by rfl) :
  XE X (.Call (.Name "min" p) [e] [⟨some "key",.Lambda O lb scope ae,aj⟩,⟨some "default",.Constant .none j cp,am⟩] pos) (eF (aR2 F) A):=by
 intro pins s σ H Q I hQ;obtain⟨c,H0,ρ,d,af,R,z,q⟩:=hQ;unfold eF at z;obtain⟨⟨ds,ah⟩,h1,z⟩:=a_0 z;obtain⟨d',h2,z⟩:=a_0 z;have z':some (d',ah)=some (d,af):=z;cases z';obtain⟨cc,ap,ai⟩:=au;refine jt (X_0 I hg hm (u:=.builtin "min") PyProof.Rows.boot_min ?_);refine callWith_kw (thn (ha pos pins s σ H (λ vs H'=>∃ H0',Same H0 H0'/\RS X.K c H0' H' af σ/\Reps X.K H0' ds vs) I ⟨c,H0,ρ,ds,_,R,h1,λ vs H0' H' sm R1 r1=>⟨H0',sm,R1,r1⟩⟩) λ us s1 Y=>?_) he ak;obtain⟨vs,Hh,I1,rv,H1,ar,R1,r1⟩:=Y;refine kws_cons (PySem.W.kla_eval ad ?_);rw[hq];refine bS8 aq I1 ap (PySem.W.codeHd_of_K I1.ok.mod.kin ai) an λ f c' H2 s2 pm ag I2 Z av ax=>?_;refine kws_cons (thn (bn8 _ s2 σ H2 (λ v H3=>v=.non/\H3=H2) I2 ⟨rfl,rfl⟩) λ u s3 Y=>?_);obtain⟨v3,H3,I3,ao,e3,e4⟩:=Y;subst e3 e4;obtain rfl:u=Value.none:=ao;refine kws_nil ?_;have hl:∃ (l:Addr) (is:List D),us=[.ref l]/\SqL X.K Hh l (is.map vF)/\is.all isF=true/\bestF F none is=some d:=by obtain⟨xs,rfl,al,as⟩:=aR0 h2;obtain⟨v,rfl,r2⟩:=Reps.v1 r1;unfold Rep at r2;obtain⟨l,aw,rfl,sq,r4⟩:=r2;rw[aq8 al r4] at sq;obtain⟨u,rfl,ru⟩:=v_5 rv;exact⟨l,xs,by cases ru;rfl,R1.same.seq sq,al,as⟩
 obtain⟨l,is,rfl,sq,al,bf⟩:=hl;refine aZ6 (X:=X) (A:=X.A) (ns:=is) (F:=F) (TQ:=TabQ) hr.hd ?_ (.head _) I3 (Z.seq sq) av (bU5 hr S hb aa) al bf λ H4 s4 v I4 ac ov fl=>?_
 ·have:=hr.units;show X.A.units+1<cLine;omega
 ·have rp:Rep X.K H1 d (vF d):=by
   rcases fl with rfl | fl
   ·unfold Rep vF;rfl
   ·exact bf9 fl
  exact⟨vF d,H4,I4.sub λ q h=>.tail _ h,ov,q _ H1 H4 ar (R1.after ⟨Same.refl _,Z.trans ac,R1.same.trans (Z.trans ac),λ b o e=>.inl e⟩) rp⟩
theorem bj6 {P:Program}{w:World}{K:Frag}{mg:Str->Option Value}{base:Heap}{x qual:Str}{st:Stmt}{f:Addr}{fd:FuncData}{N ps:List Str}{k n m:Nat}{B:FS} (F:Fun K x qual st f fd) (S:FnScope N ps (a_2 st)) (hn:ps.length=n) (hN:N.length=n+m)
  (hb:∀ (O:Value) (A:Around) (outer:List Env) (s:Shared) (H:Hp) (E:XK),fd.code=O->Room k (A.deeper (envOfC qual (a_2 st) s.heap.objs.size f O))->XSs (R_5 CX0 P w K mg base N qual (a_2 st) f O A outer s H E).nox (k_2 st) B) :
  FnOk P w K mg base CX0 (k+1) f fd ps (spP K (fnD n m B)):=by
 obtain⟨oc,od,kV,ad,pm,an,O,ct,ae,rfl,lk,ac⟩:=F.ex;have F':Fun K x qual st f (fnOf x qual (w_4 st) (k_2 st) (a_2 st) .none kV ad pm an O ct):=F;have Z:∀ {ds:List D}{d:D},fnD n m B ds=some d->ds.length=n/\∃ r,B (ds.map .im++List.replicate m .no)=some r/\bx9 r=some d:=λ {ds d} h=>by
  unfold fnD at h;split at h
  ·rename_i hl;obtain⟨r,h1,h2⟩:=a_0 h;exact⟨hl,r,h1,h2⟩
  ·cases h
 refine bd1 lk ac S (λ vs H Q E h=>?_) λ A outer s H vs Q E hr h=>?_
 ·obtain⟨Hi,ds,d,_,r,e,_⟩:=h;rw[hn,<- r.length];exact (Z e).1
 ·obtain⟨Hi,ds,d,hs,r,e,q⟩:=h;obtain⟨hl,res,h1,h2⟩:=Z e;refine⟨_,PSs.nox (hb O A outer s H E rfl hr),⟨Hi,H,[]⟩,Hi,_,res,RS.start (n:=N.length) (m:=m) hs r (by rw[<- r.length];omega),h1,?_⟩;cases res with
  |nx Y =>
   have e':D.non=d:=qp h2;subst e';exact λ aa H0' H' s0 R=>q .non H0' H' R.step (by unfold Rep;rfl)
  |rt d' Y =>
   have e':d'=d:=qp h2;subst e';exact λ v aa H0' H' s0 R rv=>q v H0' H' R.step rv
  |bk Y=>cases h2
  |ct Y=>cases h2
end Fx
namespace L2
open PySem PySem.Spec PyProof.Rows
theorem z_9 {b:Addr}{q:Str}:∀ {l:List (Addr×Str)},l.lookup b=some q->(b,q)∈l
 |[],h=>by cases h
 |(a,x)::r,h=>by
  rw[jd] at h;by_cases z:(b==a)=true
  ·rw[z] at h;cases h;rw[beq_iff_eq.mp z];exact .head _
  ·rw[Bool.eq_false_iff.mpr z] at h;exact .tail _ (z_9 h)
theorem aM7 {P:Program}{w:World}{K:Frag}{mg mb:Str->Option Value}{CX:CXT}{k:Nat}{fa a:Addr}{fd:FuncData}{x:Str}{sp:Sp}{O:Shared}{vs:List Value}{ns:List Int}
  (KX:K.In O.heap) (ax:∀ p q,(p,q)∈Tabs → Tabs.lookup p=some q) (hT:∀ p q,(p,q)∈Tabs → O.heap.get? p=some (PySem.W.tabObj #[])) (aw:∀ p q,(p,q)∈Tabs → K.lookup p=none) (ap:∀ p q,(p,q)∈Tabs → ∃ cT,PySem.W.CodeHd O.heap cT p) (ai:O.heap.Ns mainGlobals mg) (hb:O.heap.Ns builtinsNs mb) (ao:∀ x:Str,x≠"__name__" → mb x=bootBuiltins x) (am:O.heap.NoLimit) (hg:O.gens=#[])
  (ar:∃ bm ob,mg "__builtins__"=some (.ref bm) ∧ bm≠builtinsNs ∧ O.heap.get? bm=some ob ∧ ob.cls=.type "module" ∧ ob.dict=some builtinsNs ∧ ob.data=.plain)
  (ha:O.heap.get? a=some {cls:=.type "list",data:=.seq vs.toArray}) (hi:IntsAre vs ns) (hl:ns.length ≤ sizeLine) (hr:Room k callerA)
  (F:∀ base:Heap,K.In base->base.Ns mainGlobals mg->FnOk P w K mg base CX k fa fd [x] sp) (ae:∀ (s:Shared) (u:Value),BindsTo s fd ⟨[u],[]⟩ [(x,u)])
  (as:∀ H:Hp,SqL K H a (ns.map V.int)->sp [.ref a] H (λ v _=>v=.bl true) λ _ _ _=>False)
  (av:∀ H e s',CX [] H O (λ _ _ _=>False) e s'->False) :
  codeAny (model P w) callerA (.call (.ref fa) ⟨[.ref a],[]⟩) (λ r s'=>r=.ok (.ret (.bool true))/\OldK O.heap s'.heap/\s'.os=O.os/\AllBare s'.gens) O:=by
 have rv:=vals_ints hi;have aj:=hi.length;have au:Tabs.lookup a=none:=by
  cases q:Tabs.lookup a with
  |none=>rfl
  |some z=>have:=hT a z (z_9 q);rw[ha] at this;cases this
 let lo:HO:=.frz {cls:=.type "list",data:=.seq vs.toArray} (.lst (ns.map V.int))
 let HH:Option HO->Hp:=λ o b=>match Tabs.lookup b with
  |some q=>some (.tbl q)
  |none=>if b=a then o else none
 have ad:∀ {o:Option HO}{b:Addr}{q:Str},Tabs.lookup b=some q->HH o b=some (.tbl q):=λ {o b q} h=>by show (match Tabs.lookup b with | some q=>some (HO.tbl q) | none=>if b=a then o else none)=_;rw[h]
 have ag:∀ {o:Option HO}{b:Addr},Tabs.lookup b=none->HH o b=if b=a then o else none:=λ {o b} h=>by show (match Tabs.lookup b with | some q=>some (HO.tbl q) | none=>if b=a then o else none)=_;rw[h]
 have aa:∀ o:Option HO,(o=none\/o=some lo)->SqL K (HH o) a (ns.map V.int)->(o≠none->K.lookup a=none) ->
   codeAny (model P w) callerA (.call (.ref fa) ⟨[.ref a],[]⟩) (λ r s'=>r=.ok (.ret (.bool true))/\OldK O.heap s'.heap/\s'.os=O.os/\AllBare s'.gens) O:=by
  intro o ho hS hK
  let H:=HH o
  have hA:∀ {b:Addr}{u:HO},H b=some u->(∃ q,Tabs.lookup b=some q/\u=.tbl q)\/(b=a/\u=lo/\o≠none):=λ {b u} h=>by
   cases q:Tabs.lookup b with
   |some z=>have:=(ad (o:=o) q).symm.trans h;cases this;exact .inl ⟨z,rfl,rfl⟩
   |none =>
    have h':=(ag (o:=o) q).symm.trans h;by_cases hb:b=a
    ·rw[if_pos hb] at h';rcases ho with e | e
     ·rw[e] at h';cases h'
     ·rw[e] at h';cases h';exact .inr ⟨hb,rfl,by rw[e];simp⟩
    ·rw[if_neg hb] at h';cases h'
  have an:HOk P w H O.heap:=λ b u h=>by
   rcases hA h with ⟨q,e1,e2⟩ | ⟨e1,e2,_⟩
   ·subst e2;exact⟨#[],hT b q (z_9 e1),trivial,λ pos=>.inl rfl⟩
   ·subst e1 e2;exact⟨ha,by rw[zd];exact hl,vs,_,rv,ha⟩
  have Y:∀ {b:Addr}{o:Obj},O.heap.get? b=some o->H b=none->(aK6 O.heap H).get? b=some o:=λ e n=>aK5 e n;have af:∀ {b:Addr}{o:Obj},O.heap.get? b=some o->(∀ it n,o.data≠.seq it n)->(∀ it,o.data≠.fields it)->H b=none:=λ {b o} e d1 d2=>by
   cases q:H b with
   |none=>rfl
   |some u =>
    rcases hA q with ⟨z,e1,_⟩ | ⟨e1,_⟩
    ·rw[hT b z (z_9 e1)] at e;cases e;exact absurd rfl (d2 _)
    ·subst e1;rw[ha] at e;cases e;exact absurd rfl (d1 _ _)
  have aq:∀ {b:Addr}{o:Obj}{es:Array DictEntry}{ep:Nat},O.heap.get? b=some o->o.data=.dict es ep->H b=none:=λ {b o es ep} e d=>af e (by rw[d];nofun) (by rw[d];nofun);have Z:∀ {b:Addr}{m:Str->Option Value},O.heap.Ns b m->(aK6 O.heap H).Ns b m:=λ {b m} ⟨o,es,ep,e,d,r⟩=>⟨o,es,ep,Y e (aq e d),d,r⟩
  have ak:K.In (aK6 O.heap H):=λ b ob e=>Y (KX b ob e) (by
   cases q:H b with
   |none=>rfl
   |some u =>
    rcases hA q with ⟨z,e1,_⟩ | ⟨e1,_,e3⟩
    ·rw[aw b z (z_9 e1)] at e;cases e
    ·subst e1;rw[hK e3] at e;cases e)
  obtain⟨bm,ob,b1,b2,b3,b4,b5,b6⟩:=ar;have hM:Mod K mg (aK6 O.heap H):=⟨ak,Z ai,⟨mb,Z hb,ao⟩,(let ⟨mc,h1,h2⟩:=am;⟨mc,Z h1,h2⟩),⟨bm,ob,b1,b2,Y b3 (af b3 (by rw[b6];nofun) (by rw[b6];nofun)),b4,b5,b6⟩⟩;have ay:∀ p q,(p,q)∈Tabs->H p=some (.tbl q):=λ p q h=>ad (ax p q h);have e0:Env0 P w K mg (aK6 O.heap H) callerA [] O H:=⟨rfl,hM,λ b o e=>ba2 e,Nat.le_of_eq (aA2 _ _),trivial,λ b hb=>absurd (show b∈([]:List Addr) from hb) (by simp),an,.of_eq hg,ay⟩;refine ja ((F _ ak (Z ai)).run callerA [] O H ⟨[.ref a],[]⟩ [.ref a] [.ref a] _ _ hr e0 (ae O (.ref a)) (.cons rfl .nil) (as H hS)) λ r s' h=>?_;cases r with
  |error e=>exact (av H e s' h).elim
  |ok fl =>
   cases fl with
   |next=>exact False.elim h
   |brk=>exact False.elim h
   |cont=>exact False.elim h
   |ret u =>
    obtain⟨v,H',os,al,un,ac,r',q⟩:=h;have q':v=.bl true:=q;subst q';obtain rfl:u=Value.bool true:=r';have keep:∀ b o,Tabs.lookup b=none->O.heap.get? b=some o->s'.heap.get? b=some o:=λ b o hb e=>by
     cases q:H b with
     |none=>exact un.keep b o e q (by intro z;exact absurd (show b∈([]:List Addr) from z) (by simp)) (by simp)
     |some u =>
      rcases hA q with ⟨z,e1,_⟩ | ⟨e1,e2,_⟩
      ·rw[hb] at e1;cases e1
      ·subst e2;have z2:=un.frzs b _ _ q;obtain⟨x1,_⟩:=an b _ q;obtain⟨x2,_⟩:=ac b _ z2;rw[e] at x1;cases x1;exact x2
    refine⟨rfl,⟨λ b o e=>?_,λ b o e=>?_⟩,os,al⟩
    all_goals
     cases hb:Tabs.lookup b with
     |none=>first | exact .inl (keep b o hb e) | exact⟨o,keep b o hb e⟩
     |some z =>
      obtain⟨ps,hP,_⟩:=(show ObjOk P w H' s'.heap b (.tbl z) from ac _ _ (un.tbls _ _ (ad hb)));have ah:=hT b z (z_9 hb);obtain⟨cT,hC⟩:=ap b z (z_9 hb)
      first
      |exact⟨_,hP⟩
      |(rw[ah] at e;cases e;exact .inr (.inl ⟨(hC.tab ah).isCodeTable,rfl,#[],ps,rfl,by rw[Array.empty_append];exact hP⟩))
 cases hk:K.lookup a with
 |some o =>
  have e:=KX a o hk;rw[ha] at e;cases e;exact aa none (.inl rfl) (.inr ⟨_,vs.toArray,_,hk,rfl,rfl,rfl,by rw[zf,aj];exact hl,by simpa using rv⟩) λ z=>absurd rfl z
 |none=>exact aa (some lo) (.inr rfl) (.inl (.inr ⟨{cls:=.type "list",data:=.seq vs.toArray},(ag au).trans (if_pos rfl)⟩)) λ _=>hk
theorem walk_of2 {l:OpenLaw}{n k:Nat}{q:Program}{aa:List Str}{XP:(Str->Option Value)->Heap->Prop}{YP:World->Heap->Prop}{d:DefRec}{K:Params->Frag}{CX:World->CXT}{sp:World->Sp}{x:Str}
  (hn:l.most=some n) (ae:n<=sizeLine) (ai:d.params.defaults=[]) (hr:Room k callerA) (ak:∀ p q,(p,q)∈Tabs->Tabs.lookup p=some q)
  (hY:∀ (w:World) (h:Heap),YP w h->(K w.params).In h) (al:∀ p q,(p,q)∈Tabs->∀ (w:World) (h:Heap),YP w h->h.get? p=some (PySem.W.tabObj #[])) (aj:∀ p q,(p,q)∈Tabs->∀ w:World,(K w.params).lookup p=none) (hC:∀ p q,(p,q)∈Tabs->∀ w:World,∃ c,PySem.W.codeHdIn (K w.params) c p=true)
  (F:∀ (w:World) (mg:Str->Option Value) (fa:Addr) (h:Heap),(K w.params).In h->h.Ns mainGlobals mg->mg d.name=some (.ref fa) ->
   ∃ fd:FuncData,(∀ (s:Shared) (u:Value),BindsTo s fd ⟨[u],[]⟩ [(x,u)]) /\
    ∀ base:Heap,(K w.params).In base->base.Ns mainGlobals mg->FnOk l.prog w (K w.params) mg base (CX w) k fa fd [x] (sp w))
  (ag:∀ (w:World) (H:Hp) (a:Addr) (ns:List Int),ns.length<=n->SqL (K w.params) H a (ns.map V.int)->sp w [.ref a] H (λ v _=>v=.bl true) λ _ _ _=>False)
  (ah:∀ (w:World) (H:Hp) (s:Shared) (e:Value) (s':Shared),CX w [] H s (λ _ _ _=>False) e s'->False) :
  PySem.W.WalkO q aa XP YP l.row.toRowW d [] (λ f vs=>PySem.call f vs):=by
 refine Att.attach_call hn ai λ w s₀ ad mg mb fa o pm cd am a vs ns G Y ho hd an af ac Z O hg=>?_;have KX:=hY w _ Y;obtain⟨fd,hb,hF⟩:=F w mg fa _ KX G.T.g af;exact aM7 KX ak (λ p q h=>al p q h w _ Y) (λ p q h=>aj p q h w) (λ p q h=>let ⟨c,hc⟩:=hC p q h w;⟨c,PySem.W.codeHd_of_K KX hc⟩) G.T.g G.T.b G.T.builtins G.T.nolimit hg G.T.bmain ac Z (z0 O ae) hr hF hb (λ H hS=>ag w H a ns O hS) λ H e s'=>ah w H ad e s'
end L2
namespace Fx
open PySem
def aw0 (i:Nat) (ρ:En):D ⊕ XV->Option RX
 |.inl d=>some (.ok (.nx (ρ.set i (.im d))))
 |.inr x=>some (.ex x)
def aw3 (i:Nat) (g:List D->Option (D ⊕ XV)) (o:Option (List D×En)):Option RX:=bnd o λ p=>bnd (g p.1) (aw0 i p.2)
def ar2 (i:Nat) (g:List D->Option (D ⊕ XV)) (A:FA) (ρ:En):Option RX:=aw3 i g (A ρ)
@[simp] theorem cr6 (i:Nat) (g:List D->Option (D ⊕ XV)) (A:FA) (ρ:En):ar2 i g A ρ=aw3 i g (A ρ):=yR rfl
@[simp] theorem ce3 (i:Nat) (g:List D->Option (D ⊕ XV)) (ds:List D) (ρ:En):aw3 i g (some (ds,ρ))=bnd (g ds) (aw0 i ρ):=yR rfl
@[simp] theorem ce2 (i:Nat) (ρ:En) (d:D):aw0 i ρ (.inl d)=some (.ok (.nx (ρ.set i (.im d)))):=yR rfl
@[simp] theorem ce1 (i:Nat) (ρ:En) (x:XV):aw0 i ρ (.inr x)=some (.ex x):=yR rfl
def ci5 (y:D) (o:Option (D×En)):Option (D×En):=match y with
 |.str k=>bnd o λ p=>some (.dct [k] [p.1],p.2)
 |_=>none
def ci6 (F:FE) (o:Option (D×En)):Option (D×En):=bnd o λ p=>ci5 p.1 (F p.2)
def eD1 (G F:FE) (ρ:En):Option (D×En):=ci6 F (G ρ)
@[simp] theorem cA3 (G F:FE) (ρ:En):eD1 G F ρ=ci6 F (G ρ):=yR rfl
@[simp] theorem cu2 (F:FE) (y:D) (ρ:En):ci6 F (some (y,ρ))=ci5 y (F ρ):=yR rfl
@[simp] theorem cu1 (k:Str) (d:D) (ρ:En):ci5 (.str k) (some (d,ρ))=some (.dct [k] [d],ρ):=yR rfl
abbrev bW4:FE:=eD1 (zR "x") (s_3 (aC (c_0 (aC (c_0 (aC (zR "but") (aC (c_0 aN) aN))) (aC (zI 0) (aC (eC .non) (aC (c_0 (aC (eC .non) (aC (eC .non) (aC (zI 1) (aC (zI 0) aN))))) aN))))) aN))
abbrev AW5:FA:=aC (eV 0) (aC (eV 1) (aC (eV 2) (aC (eV 3) (aC (eV 4) aN))))
noncomputable def bq6 (x:Str):Option D :=
 if x=Str.ofString "NoCell" then some (.str "nocell") else if x=Str.ofString "Late" then some (.str "late") else if x=Str.ofString "NoComing" then some (.str "nocoming") else if x=Str.ofString "NoPaper" then some (.str "good") else none
def aT6:RX->Option D
 |.ok (.nx _)=>some (.str "good")
 |.ex x=>bq6 x.1
 |_=>none
def aj0 (B:FX) (ds:List D):Option D:=if ds.length=6 then bnd (B (ds.map .im++[.no])) aT6 else none
end Fx
namespace Fx
open PySem PySem.Spec PyProof.Rows L2
noncomputable abbrev H_3 (w:World):Obj:={cls:=.type "set",dict:=none,data:=.set #[] 0 (.fresh 0 0 (!w.params.followText "set-order"))}
noncomputable abbrev aS4 (a:Addr):Obj:={cls:=.type "set_iterator",data:=.fields #[.int 0 0,.int 0 0,.ref a,.int 0 0,.int 0 0]}
theorem W_6:isSubtype (.type "tuple") (.type "set")=pure false:=by rw[Z1];kernel_rfl
theorem K_5:isSubtype (.type "tuple") (.type "frozenset")=pure false:=by rw[Z1];kernel_rfl
theorem sitE_next:Slot "set_iterator" "__next__" "set_iterator.__next__" :=
 .of (owner:="set_iterator") (n:="__next__") (by rw[typeLookup_type,Zu];kernel_rfl) (by decide +kernel) (by decide +kernel) (by decide +kernel) (.inl (by decide +kernel)) (by rw[Z1];kernel_rfl)
theorem aE4:entryFor table "set_iterator.__next__"=some Builtin.«set_iterator.__next__»:=entryFor_of_tree (by kernel_rfl)
theorem as6:entryFor table "set.__iter__"=some Builtin.«frozenset.__iter__» :=
 entryFor_alias (id':="frozenset.__iter__") (by kernel_rfl) (by first | rfl | decide +kernel) (by decide +kernel) (by kernel_rfl)
theorem aj4:Slot "set_iterator" "__iter__" "set_iterator.__iter__" :=
 .of (owner:="set_iterator") (n:="__iter__") (by rw[typeLookup_type,Zu];kernel_rfl) (by decide +kernel) (by decide +kernel) (by decide +kernel) (.inl (by decide +kernel)) (by rw[Z1];kernel_rfl)
section
variable {P:Program}{w:World}{A:Around}{E:Value->Shared->Prop}{s:Shared}{a b:Addr}
theorem bw5 {Q:Value → Shared → Prop} (h:Q (.ref s.heap.objs.size) {s with heap:=s.heap.push (H_3 w)}):wpAny (model P w) A (newSet (.type "set")) Q E s:=by unfold newSet setsByText;refine qj (qj (Qg (qk ?_)));dsimp only;simp only[newObj];exact qj (wpAny_alloc (qk h))
theorem aP0 (v:Value) {Q₁:Value->Shared->Prop} (h:Q₁ (.ref s.heap.objs.size) {s with heap:=s.heap.push (H_3 w)}) :
  codeAny (model P w) A (.call (.builtin "set.__new__") ⟨[.type "set",v],[]⟩) (wants Q₁ E) s:=by
 refine codeAny_of_tree ?_;show wpAny _ A.in1 (checkBuiltinCall "set.__new__" ⟨[.type "set",v],[]⟩ >>= λ _=>again (.builtin "set.__new__" ⟨[.type "set",v],[]⟩)) _ _ s;refine qj (wpAny_of_eq (F.newCall_set_1 v) (qk ⟨j6 F.plain_set_new _,y7 F.entry_set_new ?_⟩));rw[yz F.plain_set_new _];unfold Builtin.«set.__new__» Builtin.Frozenset.newClass;have Y:=sub_set_self;obtain⟨h0,g0,Z,k0,O⟩:=s;dsimp only;wp_walk;refine Qg (qk ?_);dsimp only;simp only[newObj];exact qj (wpAny_alloc (qk (qk h)))
theorem cn1 {it c:Addr}{R:Result->Shared->Prop} (O:A.handled=none) (hi:s.heap.IsTupleIter it c 0) (Z:s.heap.IsTuple c #[]) (q:∀ h',Heap.ExtBut it s.heap h'->R (.ok (.ret .none)) {s with heap:=h'}) :
  codeAny (model P w) A (.builtin "set.update.loop" ⟨[.ref a,.ref it],[]⟩) R s:=by
 refine y7 PyProof.Rows.F.entry_set_update_loop ?_;rw[yz PyProof.Rows.F.plain_set_update_loop _];show wpAny _ A.in1 (pyNext (.ref it) >>= _) _ _ s;exact qj (wpAny_pyNext_tuple_end O hi Z rfl λ h' Y=>qk (q h' Y))
set_option maxHeartbeats 3200000 in
theorem aP8 {c:Addr}{Q:Value->Shared->Prop} (hh:A.handled=none) (sq:s.heap.IsTuple c #[])
  (k:∀ (h':Heap),(∀ b o,s.heap.get? b=some o->h'.get? b=some o)->h'.get? s.heap.objs.size=some (H_3 w)->Q (.ref s.heap.objs.size) {s with heap:=h'}) :
  wpAny (model P w) A (call (.type "set") [.ref c]) Q E s:=by
 obtain⟨mc,mt,mr⟩:=F.called_set.mro;have md:=F.called_set.made;have su:=F.called_set.sub;refine Q2 (codeAny_of_tree ?_);show wpAny _ _ (PySem.callAny (.type "set") _) _ _ _;refine qk ⟨Code.quiet_builtin _ (by decide +kernel),y7 F.entry_type_call ?_⟩;rw[Around.under_plain (weight_type_call_type "set" [.ref c] []) rfl];have f1:=F.called_set.notType;have f2:=F.called_set.canCreate;have f3:=F.typeCall_set_1 (.ref c)
 repeat (any_goals (first | assumption | wp_step))
 refine ja (aP0 (.ref c) (E:=E) (Q₁:=λ z s1=>z=.ref s.heap.objs.size/\s1={s with heap:=s.heap.push (H_3 w)}) ⟨rfl,rfl⟩) λ r s1 hr=>?_;cases r with
 |error e=>exact hr
 |ok fl =>
  cases fl with
  |ret z =>
   obtain⟨rfl,rfl⟩:=hr;have Z:(s.heap.push (H_3 w)).get? s.heap.objs.size=some (H_3 w):=qt _ rfl;have ad:Shared.TypeIs {s with heap:=s.heap.push (H_3 w)} (.ref s.heap.objs.size) "set":=⟨_,Z,rfl⟩;have li:=F.called_set.init.lookup;have bi:=F.called_set.init.bind (.ref s.heap.objs.size)
   repeat (any_goals (first | assumption | wp_step))
   refine ja (Z2 (R:=wants (λ r s2=>r=.none/\∃ h',s2={s with heap:=h'}/\(∀ b o,s.heap.get? b=some o->h'.get? b=some o)/\h'.get? s.heap.objs.size=some (H_3 w)) E) F.called_set.init.plain F.entry_set_init (check_set_init_1 ad ?_)) λ r2 s2 Y=>?_
   ·have kp:∀ b o,s.heap.get? b=some o->(s.heap.push (H_3 w)).get? b=some o:=λ b o e=>ql _ e;have O:(s.heap.push (H_3 w)).IsTuple c #[]:=by obtain⟨o,ho,r⟩:=sq;exact⟨o,kp _ _ ho,r⟩
    have ae:Shared.TypeIs {s with heap:=s.heap.push (H_3 w)} (.ref c) "tuple":=by obtain⟨o,ho,hc,_⟩:=O;exact⟨o,ho,hc⟩
    have n1:=W_6;have n2:=K_5;have n3:(Value.type "tuple"==Value.type "dict")=false:=by decide
    unfold Builtin.«set.__init__» noKeywords Builtin.Frozenset.updateFrom;generalize ac:pyIter=PI;wp_walk;subst ac;refine wpAny_pyIter_tuple (s:={s with heap:=s.heap.push (H_3 w)}) O ?_;refine qj (wpAny_runValue ?_);have sz:(s.heap.push (H_3 w)).objs.size=s.heap.objs.size+1:=by rw[Heap.size_push]
    refine cn1 (A:=A.in1.in1) hh ⟨_,qt _ rfl,rfl,rfl⟩ (by obtain⟨o,ho,r⟩:=O;exact⟨o,ql _ ho,r⟩) λ h' eb=>?_;have eb:∀ b o,b≠s.heap.objs.size+1->(s.heap.push (H_3 w)).get? b=some o->h'.get? b=some o:=λ b o hb e=>eb b o (by show b≠(s.heap.push (H_3 w)).objs.size;rw[sz];exact hb) (ql _ e);refine qk (qk ⟨rfl,h',rfl,λ b o e=>eb b o ?_ (kp b o e),eb _ _ (qy (Nat.lt_succ_self _)) Z⟩);exact qy (Yf (qv e))
   ·cases r2 with
    |error e=>exact Y
    |ok aa =>
     cases aa with
     |ret r =>
      obtain⟨rfl,h',rfl,c1,c2⟩:=Y
      repeat (any_goals (first | assumption | wp_step))
      exact k _ c1 c2
     |_=>exact Y.elim
  |_=>exact hr.elim
theorem bh6 {O:Sem Unit}{Q:Unit->Shared->Prop} (Y:a≠b) (hb:s.heap.get? b=some (H_3 w)) (k:Q () s):wpAny (model P w) A (setMerge a b O) Q E s:=by
 unfold setMerge;rw[show (a==b)=false by simpa using Y];refine jz (λ c=>absurd c (by decide)) λ _=>?_;refine qj (Qt (es:=#[]) hb rfl rfl ?_);dsimp only;exact jz (λ c=>qk k) λ c=>absurd rfl c
theorem aO2:entryFor table "set.__or__"=some Builtin.«frozenset.__or__» :=
 entryFor_alias (id':="frozenset.__or__") (by kernel_rfl) rfl (by decide +kernel) (by kernel_rfl)
theorem at8 {Q:Bool → Shared → Prop} (ty:s.TypeIs (.ref a) "set") (q:Q true s):wpAny (model P w) A (Builtin.Frozenset.isAnySet (.ref a)) Q E s:=by unfold Builtin.Frozenset.isAnySet;have O:=sub_set_self;exact qj (Ze ty O (qk q))
theorem bJ8 {Q:Value×Value → Shared → Prop}{u v:Value} (q:Q (u,v) s):wpAny (model P w) A (Builtin.Frozenset.slot1 "__or__" ⟨[u,v],[]⟩) Q E s :=
 qj (qk (qk q))
theorem orE {Q:Value->Shared->Prop} (aa:a≠b) (Z:s.heap.get? a=some (H_3 w)) (O:s.heap.get? b=some (H_3 w))
  (k:Q (.ref s.heap.objs.size) {s with heap:=s.heap.push (H_3 w)}):wpAny (model P w) A (binaryOp .BitOr (.ref a) (.ref b)) Q E s:=by
 have tA:s.TypeIs (.ref a) "set":=⟨_,Z,rfl⟩;have tB:s.TypeIs (.ref b) "set":=⟨_,O,rfl⟩;refine wpAny_binaryOp_same (op:=.BitOr) tA tB F.fills_set_or F.slot_set_or (jl F.slot_set_or tA aO2 ?_ (F.args_set_or_2 _ _));unfold Builtin.«frozenset.__or__»;refine qj (m:=Builtin.Frozenset.slot1 "__or__" ⟨[.ref a,.ref b],[]⟩) (bJ8 ?_);have al:=qv Z;have bl:=qv O;dsimp only;refine qj (qj (at8 tA (at8 tB ?_)));refine jz (λ c=>absurd c (by decide)) λ _=>?_;refine qj (qk (qj ?_));have su:=sub_set_self;have Y:∀ b o,s.heap.get? b=some o->(s.heap.push (H_3 w)).get? b=some o:=λ b o e=>ql _ e;refine qj (m:=Builtin.Frozenset.copyOf a) ?_;unfold Builtin.Frozenset.copyOf Builtin.Frozenset.baseOf;refine qj (qj (Ze tA su (qk (qj (bw5 ?_)))));refine qj (qk (qj (bh6 (s:={s with heap:=s.heap.push (H_3 w)}) (jb al) (Y _ _ Z) (qk ?_))));have n1:(Value.ref b != Value.ref a)=true:=by simpa using (yi aa)
 refine jz (λ _=>?_) λ c=>absurd n1 c;refine qj (qk (qj (yg ?_)));unfold Builtin.Frozenset.updateFrom;refine qj (at8 ⟨_,Y _ _ O,rfl⟩ ?_);rw[if_pos rfl];refine qj (qk ?_);unfold Builtin.Frozenset.merge;unfold setEpoch;refine qj (qj (Qt (es:=#[]) (Y _ _ O) rfl rfl (qk ?_)));dsimp only;exact bh6 (s:={s with heap:=s.heap.push (H_3 w)}) (jb bl) (Y _ _ O) (qk (qk ⟨_,rfl,by simp,k⟩))
theorem cm4 {it:Addr}{Q:Option Value->Shared->Prop} (hh:A.handled=none) (hI:s.heap.get? it=some (aS4 a)) (Y:s.heap.get? a=some (H_3 w)) (k:∀ h',Heap.ExtBut it s.heap h'->Q none {s with heap:=h'}):wpAny (model P w) A (pyNext (.ref it)) Q E s:=by
 have ty:s.TypeIs (.ref it) "set_iterator":=⟨_,hI,rfl⟩;have hN:∀ (A':Around) (Z:Option (Value×Nat)->Shared->Prop) (O:Value->Shared->Prop),Z none s->wpAny (model P w) A' (setNext a 0 0 0) Z O s:=λ A' Z O q=>by
  unfold setNext;refine qj (Qt (es:=#[]) Y rfl rfl ?_);dsimp only;unfold setsByText;refine qj (qj (Qg (qk ?_)));split
  ·rename_i bt;rw[if_neg (by simp)];unfold setWalk setsByText;refine qj (qj (Qt (es:=#[]) Y rfl rfl ?_));dsimp only;refine qj (qj (Qg (qk ?_)));rw[if_pos bt];exact qj (Qg (qk (qk q)))
  ·have m:∀ (R:Unit → Shared → Prop),R () s → wpAny (model P w) A' (if (!(SetTable.fresh 0 0 (!w.params.followText "set-order")).led&&!(#[]:Array (Int×Value)).isEmpty)=true then unsupported "set:maker-not-led" else pure ()) R O s:=λ R q'=>by
    rw[if_neg (by simp)];exact qk q'
   exact qj (m _ (qk q))
 unfold pyNext;refine qj (wpAny_attempt (wpAny_callSpecial?_slot (name:=Str.ofString "__next__") ty sitE_next (jl sitE_next ty aE4 ?_ (by unfold argsOk;kernel_rfl))));show wpAny _ _ (fieldsOf (.ref it) >>= _) _ _ s;refine qj (wpAny_fieldsOf hI rfl ?_);show wpAny _ _ (setEntries a >>= _) _ _ s;refine qj (wpAny_setEntries_of (es:=#[]) Y rfl rfl ?_);rw[if_neg (by simp)];show wpAny _ _ (setNext a 0 0 0 >>= _) _ _ s;refine qj (hN _ _ _ ?_);dsimp only;refine qj (wpAny_setField hI rfl (by simp) (qj ?_));simp only[newExc,newTuple];refine qj (yp ?_ (by size_fits));refine qj (m:=firstArgMember _ _) (wpAny_of_eq (a:=Value.none) (by first | rfl | (simp only[firstArgMember];rfl)) (yp ?_ (by size_fits)));simp only[raiseNew];refine qj (wpAny_handled ?_);rw[show A.in1.handled=none from hh];refine qj (qk (wpAny_throw ?_));refine qj (Ze (T:="StopIteration") (b:=true) ?_ isSubtype_stop (qk (k _ λ b o hb e=>ql _ (ql _ ?_))))
 ·exact⟨_,qt _ rfl,rfl⟩
 ·rw[jx _ _ (yi hb)];exact e
theorem cn5 {Q:Value->Shared->Prop} (O:s.heap.get? a=some (H_3 w)) (k:Q (.ref s.heap.objs.size) {s with heap:=s.heap.push (aS4 a)}):wpAny (model P w) A (pyIter (.ref a)) Q E s:=by
 have ty:s.TypeIs (.ref a) "set":=⟨_,O,rfl⟩;refine wpAny_pyIter_slot ty PySem.F.slot_set_iter (jl PySem.F.slot_set_iter ty as6 ?_ (PySem.F.args_set_iter_1 _));unfold Builtin.«frozenset.__iter__» Builtin.Frozenset.slot0 slotArgs Builtin.Frozenset.addrOf Builtin.Frozenset.sizeOf;refine qj (qk ?_);refine qj (qj (wpAny_setEntries_of (es:=#[]) O rfl rfl (qk ?_)));refine qj ?_;unfold setDrawn setsByText;refine qj (Qt (es:=#[]) O rfl rfl ?_);dsimp only;refine qj (qj (Qg (qk (qk ?_))));rw[if_neg λ c=>by
  have c:(!w.params.followText "set-order"&&(!(SetTable.fresh 0 0 (!w.params.followText "set-order")).plain&&decide ((#[]:Array (Int×Value)).size > 1)))=true:=c;simp at c]
 refine qj (qk ?_);show wpAny _ _ (setEpoch a >>= _) _ _ _;refine qj (wpAny_setEpoch_of (es:=#[]) O rfl rfl ?_);exact qj (yp (qk ⟨_,rfl,"set_iterator",_,⟨_,qt _ rfl,rfl⟩,sitE_next.lookup,k⟩))
theorem co4 {Q:Bool → Shared → Prop} (ty:s.TypeIs (.ref a) "set") (q:Q false s):wpAny (model P w) A (Builtin.List.listLengthHint (.ref a)) Q E s:=by
 have sp:splitId "set.__len__"=some ("set","__len__"):=by decide +kernel
 have O:=sub_set_self;unfold Builtin.List.listLengthHint;refine qj (wpAny_specialOf ty PySem.F.slot_set_len.lookup ?_);dsimp only;rw[sp];dsimp only;refine qj (Ze ty O ?_);refine jz (λ z=>absurd z (by decide)) λ _=>jz (λ _=>?_) λ z=>absurd (by decide +kernel) z;exact qj (Za ty (qk q))
theorem bz3 {R:Result → Shared → Prop} (hh:A.handled=none) (O:s.heap.get? a=some (H_3 w)) (S:Addr) (nS:S≠a) (res:Value) (c0:Nat) (hL:s.heap.get? S=some {cls:=.type "list",data:=.seq #[] c0})
  (hR:∀ h' tk c',(∀ b o,b≠S → s.heap.get? b=some o → h'.get? b=some o) → h'.get? S=some {cls:=.type "list",dict:=none,data:=.seq #[] c',slots:=#[]} → R (.ok (.ret res)) {s with heap:=h',toks:=tk}) :
  wpAny (model P w) A.in1 (Builtin.List.listExtendWith (.ref S) (.ref a) res)
   (λ fin s'=>match fin with | .done f=>R (.ok f) s' | .again c'=>c'.quiet=true/\codeAny (model P w) A c' R s') (λ e s'=>R (.error e) s') s:=by
 have ty:s.TypeIs (.ref a) "set":=⟨_,O,rfl⟩;unfold Builtin.List.listExtendWith;refine qj (Za (T:="set") ty ?_);have h1:Builtin.List.listSameRef (.ref S) (.ref a)=false:=by simp[Builtin.List.listSameRef,nS]
 have h2:(Value.type "set"==Value.type "list")=false:=by decide
 have h3:(Value.type "set"==Value.type "tuple")=false:=by decide
 simp only[h1,h2,h3,Bool.or_false,Bool.false_eq_true,if_false];refine qj (cn5 O ?_);have Sl:=qv hL;have al:=qv O;have Y:∀ b o,s.heap.get? b=some o->(s.heap.push (aS4 a)).get? b=some o:=λ b o e=>ql _ e;have key:∀ (h:Heap) (Z:Nat),h.get? s.heap.objs.size=some (aS4 a) → (∀ b o,b≠S → s.heap.get? b=some o → h.get? b=some o) → h.get? S=some {cls:=.type "list",data:=.seq #[] Z} →
   codeAny (model P w) A (.builtin "list.extend.loop" ⟨[.ref S,.ref s.heap.objs.size,res],[]⟩) R {s with heap:=h}:=λ h Z i0 k0 l0=>by
  have W:Walks P w A.in1 s.heap.objs.size [s.heap.objs.size,a] [s.heap.objs.size] 0 (λ _ _=>False) (λ _ h=>h.get? s.heap.objs.size=some (aS4 a)/\h.get? a=some (H_3 w)) :=
   ⟨λ b hb=>(by simp at hb;simp[hb]),λ i h h' st k=>⟨k _ (by simp) _ st.1,k _ (by simp) _ st.2⟩,λ i s Q E hi=>absurd hi (Nat.not_lt_zero _),λ s' Q E st q=>cm4 hh st.1 st.2 λ h' c=>q h' s'.toks λ b o hb e=>c b o (λ z=>hb (by simp[z])) e,
    λ i s' Q E st q=>by
     have ty:s'.TypeIs (.ref s.heap.objs.size) "set_iterator":=⟨_,st.1,rfl⟩;refine wpAny_pyIter_slot ty aj4 (jl aj4 ty (entryFor_alias (id':="dict_keyiterator.__iter__") (b:=Builtin.«dict_keyiterator.__iter__») (by kernel_rfl) (by first | rfl | decide +kernel) (by decide +kernel) (by kernel_rfl)) ?_ (by unfold argsOk;kernel_rfl));exact qk ⟨_,rfl,"set_iterator",_,ty,sitE_next.lookup,q⟩⟩
  refine codeAny_extend_loopS W.toS (zx _) S (λ m=>?_) res 0 0 _ #[] Z rfl (zx _) ⟨i0,k0 _ _ (yi nS) O⟩ l0 (ItemsOf.nil _) λ s' aa c' hm l' ia=>?_
  ·rcases qz m with z | m
   ·exact qy Sl z
   ·exact nS (List.mem_singleton.mp m)
  ·have ev:aa=#[]:=Yo (by have:=ia.1;omega);subst ev;rw[Moved.eq_with hm];refine hR s'.heap s'.toks c' (λ b o hb e=>hm.heap b o (λ m=>?_) (k0 b o hb e)) l';rcases qz m with z | m
   ·exact hb z
   ·have:=qv e;rw[List.mem_singleton.mp m] at this;exact absurd this (yk _)
 have l1:=Y _ _ hL;have i1:(s.heap.push (aS4 a)).get? s.heap.objs.size=some (aS4 a):=qt _ rfl;refine qj (yg (co4 (s:={s with heap:=s.heap.push (aS4 a)}) ⟨_,Y _ _ O,rfl⟩ ?_));refine jz (λ _=>?_) (λ _=>qk ⟨j6 PySem.F.plain_extend_loop _,key _ c0 i1 (λ b o _ e=>Y _ _ e) l1⟩);refine qj (wpAny_rule (qj ?_));show wpAny _ _ (updateSeq S (λ z=>z.push Value.none) >>= λ _=>updateSeq S λ z=>z.pop) _ _ _;refine qj (wpAny_updateSeq l1 rfl ?_);have l2:=Qy (Obj.mapSeq λ z=>z.push Value.none) l1 rfl;refine wpAny_updateSeq (hz:=by seq_fits) l2 rfl ?_;have l3:=Qy (Obj.mapSeq λ z=>z.pop) l2 rfl;have ot:∀ {b:Addr}{o:Obj},b≠S->(s.heap.push (aS4 a)).get? b=some o->(((s.heap.push (aS4 a)).update S (Obj.mapSeq λ z=>z.push Value.none)).update S (Obj.mapSeq λ z=>z.pop)).get? b=some o:=λ hb e=>(jx _ _ (yi hb)).trans ((jx _ _ (yi hb)).trans e);exact qk ⟨j6 PySem.F.plain_extend_loop _,key _ _ (ot (jb Sl) i1) (λ b o hb e=>ot hb (Y _ _ e)) l3⟩
theorem bd2 {Q:List Value->Shared->Prop} (hh:A.handled=none) (ho:s.heap.get? a=some (H_3 w))
  (k:∀ (h':Heap) (tk:Nat),(∀ b o,s.heap.get? b=some o->h'.get? b=some o)->Q [] {s with heap:=h',toks:=tk}):wpAny (model P w) A (collect (.ref a)) Q E s:=by
 unfold collect;refine qj (wpAny_runValue (y7 PySem.F.entry_proto_collect ?_));rw[yz PySem.F.plain_proto_collect _];show wpAny _ A.in1 (newList [] >>= λ z=>again (.builtin "list.__iadd__" ⟨[z,.ref a],[]⟩)) _ _ s;refine qj (yp (qk ⟨j6 PySem.F.plain_list_iadd _,y7 PySem.F.entry_list_iadd ?_⟩));rw[yz PySem.F.plain_list_iadd _];have l0:(s.heap.push {cls:=.type "list",data:=.seq ([]:List Value).toArray}).get? s.heap.objs.size=some {cls:=.type "list",data:=.seq #[]}:=qt _ rfl;show wpAny _ A.in1 (Builtin.List.listExtendWith (.ref s.heap.objs.size) (.ref a) (.ref s.heap.objs.size)) _ _ _;have key:=bz3 (P:=P) (A:=A) (s:={s with heap:=s.heap.push {cls:=.type "list",data:=.seq ([]:List Value).toArray}})
  (R:=λ (q:Result) (s':Shared)=>∃ (h':Heap) (tk c':Nat),q=.ok (.ret (.ref s.heap.objs.size)) ∧ s'={s with heap:=h',toks:=tk} ∧ (∀ b o,s.heap.get? b=some o → h'.get? b=some o) ∧ h'.get? s.heap.objs.size=some {cls:=.type "list",dict:=none,data:=.seq #[] c',slots:=#[]})
  hh (ql _ ho) s.heap.objs.size (jb (qv ho)) (.ref s.heap.objs.size) 0 l0
  (λ h' tk c' O Y=>⟨h',tk,c',rfl,rfl,λ b o e=>O b o (qy (qv e)) (ql _ e),Y⟩)
 refine zv key (λ fin s' x=>?_) λ e s' x=>?_
 ·cases fin with
  |done f =>
   obtain⟨h',tk,c',e,rfl,O,Y⟩:=x;cases e;show wpAny _ A (load s.heap.objs.size >>= _) _ _ _;exact qj (wpAny_load Y (qk (k h' tk O)))
  |again Z =>
   refine⟨x.1,ja x.2 λ q aa y=>?_⟩;obtain⟨h',tk,c',rfl,rfl,O,Y⟩:=y;show wpAny _ A (load s.heap.objs.size >>= _) _ _ _;exact qj (wpAny_load Y (qk (k h' tk O)))
 ·obtain⟨_,_,_,e',_⟩:=x;cases e'
theorem bs8 {Q:Value->Shared->Prop} (hh:A.handled=none) (ho:s.heap.get? a=some (H_3 w))
  (k:∀ (h1 h2:Heap) (tk:Nat) (e:Nat),(∀ b o',s.heap.get? b=some o' → h1.get? b=some o') → (∀ b o',h1.get? b=some o' → h2.get? b=some o') → h2.get? h1.objs.size=some (seqObj "list" #[] e) → Q (.ref h1.objs.size) {s with heap:=h2,toks:=tk}) :
  wpAny (model P w) A (call (.builtin "sorted") [.ref a]) Q E s:=by
 refine Calls.call_function_entry kind_sorted plain_sorted entry_sorted (args_sorted1 _) ?_;unfold Builtin.«sorted»;refine qj (m:=checkCount "sorted" 1 1 _) (qk (qj (bd2 (A:=A.in1) hh ho λ h1 tk kp=>?_)));refine qj (Z8 ?_ (by decide));have O:(h1.push (seqObj "list" ([]:List Value).toArray 0)).get? h1.objs.size=some (seqObj "list" ([]:List Value).toArray 0):=qt _ rfl;have Y:StrsAre [] []:=.nil;refine qj (yg (jl slot_list_sort ⟨_,O,rfl⟩ entry_list_sort (list_sort_treeK strKind_oneLt O Y.keysOf (λ v1 v2 r e=>keyKind_strs (by rw[<- e];exact Y)) (by decide) λ st hp hs=>⟨_,rfl,?_⟩) (args_list_sort _)));obtain⟨t',q1,Z,q3⟩:=sorted_out_str Y hp hs;obtain⟨e,he⟩:=sortedHeap_at (out:=(arrOf st).map (·.2)) O;have z:(arrOf st).map (·.2)=#[]:=by have:=Z.length_eq;have y:t'=[]:=List.length_eq_zero_iff.mp this;subst y;have x:=q1.strs;apply Yo;have u:=jm List.length x;simpa using u
 refine qk ⟨_,rfl,k h1 _ tk e kp (λ b o' hb=>?_) (he.trans (jm (λ x=>some (seqObj "list" x e)) z))⟩;have lt:b<h1.objs.size:=qv hb;rw[sortedHeap_old (Ye lt) (by rw[size_push'];exact Yf lt)];exact ql _ hb
end
end Fx
namespace Fx
open PySem
noncomputable def cj1:List D->Option D
 |[.tup [],.tup []]=>some (.lst [])
 |_=>none
def ag9:D->D->Option D
 |.str a,.str b=>some (.bl (!eqD (.str a) (.str b)))
 |.int a,.int b=>some (.bl (!eqD (.int a) (.int b)))
 |.non,.non=>some (.bl false)
 |_,_=>none
@[simp] theorem cu6 (a b:Str):ag9 (.str a) (.str b)=some (.bl (!eqD (.str a) (.str b))):=yR rfl
end Fx
namespace Fx
open PySem PySem.Spec PyProof.Rows L2
section
variable {K:Frag}{c:FC}{H0 H H':Hp}{ρ:En}{σ:L2.St}{l:Addr}{o:HO}
theorem RS.holdF (R:RS K c H0 H ρ σ) (hl:H l=none):l∉c.Ap/\c.He l=none/\H0 l=none:=by
 have n1:=λ m=>R.apt l m hl;refine⟨n1,?_,?_⟩
 ·cases z:c.He l with
  |none=>rfl
  |some u=>have:=R.keep l u z n1;rw[hl] at this;cases this
 ·cases z:H0 l with
  |none=>rfl
  |some u=>have:=R.same l u z;rw[hl] at this;cases this
theorem RS.hold (R:RS K c H0 H ρ σ) (hl:H l=none):RS K ⟨c.Hi,upd c.He l o,c.Ap⟩ H0 (upd H l o) ρ σ:=by
 obtain⟨n1,n2,n3⟩:=R.holdF hl;have ne_of:∀ {b:Addr}{u:HO},H b=some u->b≠l:=λ e z=>by rw[z,hl] at e;cases e
 refine⟨λ b u e=>?_,R.init,λ b u e=>?_,λ b u e n=>?_,λ a Y=>?_,R.len,R.im,λ i b o e=>?_,R.ne⟩
 ·have h:=R.same b u e;rw[b_2 (ne_of h)];exact h
 ·have h:=R.same b u e;rcases R.fresh b u e with q | q
  ·exact .inl q
  ·exact .inr (by show upd c.He l _ b=none;rw[b_2 (ne_of h)];exact q)
 ·by_cases z:b=l
  ·subst z;have e:upd c.He b _ b=some u:=e;rw[a_3] at e ⊢;exact e
  ·have e:upd c.He l _ b=some u:=e;rw[b_2 z] at e ⊢;exact R.keep b u e n
 ·by_cases z:a=l
  ·subst z;exact absurd Y n1
  ·rw[b_2 z];exact R.apt a Y
 ·obtain⟨a,e1,e2,e3,O⟩:=R.ow i b o e;obtain⟨u,Z⟩:=O.some;refine⟨a,e1,e2,?_,O.step (Same.refl _) λ u h=>by rw[b_2 (ne_of h)];exact h⟩;cases b with
  |true=>exact e3
  |false =>
   have e3:=e3;show upd c.He l _ a=none;rw[b_2 (ne_of Z)];exact e3
theorem RS.unhold (R:RS K ⟨c.Hi,upd c.He l o,c.Ap⟩ H0 H ρ σ) (n1:l∉c.Ap) (n2:c.He l=none):RS K c H0 H ρ σ/\H l=some o:=by
 have hl:=R.keep l o a_3 n1;refine⟨⟨R.same,R.init,λ b u e=>?_,λ b u e n=>?_,R.apt,R.len,R.im,λ i b o e=>?_,R.ne⟩,hl⟩
 ·rcases R.fresh b u e with q | q
  ·exact .inl q
  ·have q:upd c.He l _ b=none:=q;by_cases z:b=l
   ·subst z;rw[a_3] at q;cases q
   ·rw[b_2 z] at q;exact .inr q
 ·have z:b≠l:=λ z=>by rw[z,n2] at e;cases e
  exact R.keep b u (by show upd c.He l _ b=some u;rw[b_2 z];exact e) n
 ·obtain⟨a,e1,e2,e3,O⟩:=R.ow i b o e;refine⟨a,e1,e2,?_,O⟩;cases b with
  |true=>exact e3
  |false =>
   have e3:upd c.He l _ a=none:=e3;by_cases z:a=l
   ·subst z;rw[a_3] at e3;cases e3
   ·rw[b_2 z] at e3;exact e3
end
def aJ9 (w:World) (a:Addr):HO:=.ext λ _ _ h=>h.get? a=some (H_3 w)
theorem aJ8 {P:Program}{w:World}{H:Hp}{h:Heap}{a:Addr} (q:h.get? a=some (H_3 w)):ObjOk P w H h a (aJ9 w a) :=
 ⟨q,⟨_,q⟩,λ _ _ O k=>k _ O⟩
section
theorem ac0 (hc:X.calm=true):CallR X (.type "set") (λ xs H Q=>∃ p,xs=[.ref p] ∧ SqT X.K H p [] ∧ ∀ l,H l=none → Q (.ref l) (upd H l (aJ9 X.w l))):=by
 intro pins s σ H xs us Q I r h;obtain⟨p,rfl,O,q⟩:=h;obtain⟨u,rfl,ru⟩:=v_5 r;cases ru;obtain⟨Z,rv,Y,_⟩:=I.tuple O;cases rv;refine aP8 (I.ok.hd hc) Y λ h' kp hS=>?_;exact⟨.ref s.heap.objs.size,_,I.laid (t':=s.toks) (o:=aJ9 X.w s.heap.objs.size) kp (qr _) (aJ8 hS),rfl,q _ (I.hok.fresh (qr _))⟩
theorem bv4:OpR X (binaryOp .BitOr) (λ x y H Q=>∃ p q,x=.ref p/\y=.ref q/\p≠q/\H p=some (aJ9 X.w p)/\H q=some (aJ9 X.w q)/\∀ l,H l=none->Q (.ref l) (upd H l (aJ9 X.w l))):=by intro pins s σ H x y v u Q I Z ry h;obtain⟨p,q,rfl,rfl,O,hp,Y,k⟩:=h;cases Z;cases ry;refine orE O (I.hok p _ hp).1 (I.hok q _ Y).1 ?_;exact⟨.ref s.heap.objs.size,_,I.laid (t':=s.toks) (o:=aJ9 X.w s.heap.objs.size) (λ b o e=>ql _ e) (qr _) (aJ8 (qt _ rfl)),rfl,k _ (I.hok.fresh (qr _))⟩
theorem ah4 (hc:X.calm=true):CallR X (.builtin "sorted") (λ xs H Q=>∃ p,xs=[.ref p] ∧ H p=some (aJ9 X.w p) ∧ ∀ l,H l=none → Q (.ref l) (upd H l (.lst []))):=by
 intro pins s σ H xs us Q I r h;obtain⟨p,rfl,Z,q⟩:=h;obtain⟨u,rfl,ru⟩:=v_5 r;cases ru;refine bs8 (I.ok.hd hc) (I.hok p _ Z).1 λ h1 h2 tk e k1 k2 O=>?_;have Y:Inv X pins σ H {s with heap:=h1,toks:=tk}:=I.kept (t':=tk) k1;exact⟨.ref h1.objs.size,_,Y.laid (t':=tk) (o:=.lst []) k2 (qr _) ⟨zx _,[],e,.nil,O⟩,rfl,q _ (Y.hok.fresh (qr _))⟩
theorem ar3 {a b:Expr}{F G:FE}{p p' p2 Y O aa pos:Pos} (hm:X.mg "set"=none) (an:X.mg "sorted"=none) (ha:XE X a F) (hb:XE X b G) (hc:X.calm=true:=by rfl) (hg:Gl X "set":=by rfl) (ap:Gl X "sorted":=by rfl)
  (h1:starEach [a] X.env=[(false,eval a X.env)]:=by rfl) (ai:starEach [b] X.env=[(false,eval b X.env)]:=by rfl)
  (h2:starEach [.BinOp (.Call (.Name "set" p) [a] [] Y) .BitOr (.Call (.Name "set" p') [b] [] O) aa] X.env=[(false,eval (.BinOp (.Call (.Name "set" p) [a] [] Y) .BitOr (.Call (.Name "set" p') [b] [] O) aa) X.env)]:=by rfl) :
  XE X (.Call (.Name "sorted" p2) [.BinOp (.Call (.Name "set" p) [a] [] Y) .BitOr (.Call (.Name "set" p') [b] [] O) aa] [] pos) (eF cj1 (aC F (aC G aN))) :=
 PE.wk (n_6 (ah4 hc) ap an Qk (c_5 (aI4 bv4 (x_8 (ac0 hc) hg hm PyProof.Rows.boot_set (xaC ha xaN h1) (by decide) (by decide) h1 rfl) (x_8 (ac0 hc) hg hm PyProof.Rows.boot_set (xaC hb xaN ai) (by decide) (by decide) ai rfl)) l_0 h2) (by decide) (by decide) h2 rfl) λ σ H Q z=>by
  obtain⟨c,H0,ρ,d,Z,R,f,q⟩:=z;unfold eF at f;obtain⟨⟨ds,aj⟩,g1,f⟩:=a_0 f;obtain⟨d',g2,f⟩:=a_0 f;have f':some (d',aj)=some (d,Z):=f;cases f';unfold aC at g1;obtain⟨⟨d1,ag⟩,e1,g1⟩:=a_0 g1;obtain⟨⟨dr,aq⟩,ac,g1⟩:=a_0 g1;obtain⟨⟨d2,ak⟩,e2,ac⟩:=a_0 ac;obtain⟨⟨dn,as⟩,ae,ac⟩:=a_0 ac;unfold aN at ae;cases ae;cases ac;cases g1;have e2:G ag=some (d2,ak):=e2;have g2:cj1 [d1,d2]=some d:=g2;have z1:d1=.tup []/\d2=.tup []/\d=.lst []:=by
   unfold cj1 at g2;split at g2
   ·rename_i z;cases z;cases g2;exact⟨rfl,rfl,rfl⟩
   ·cases g2
  obtain⟨rfl,rfl,rfl⟩:=z1;have one:∀ {F:FE}{ρ Z:En}{d:D},F ρ=some (d,Z)->aC F aN ρ=some ([d],Z):=λ {F ρ Z d} e=>by unfold aC;rw[e];rfl
  have af:∀ {H1 Hh:Hp}{v:V},Same H1 Hh->Rep X.K H1 (.tup []) v->∃ ad,v=.ref ad/\SqT X.K Hh ad []:=λ s r=>by
   unfold Rep at r;obtain⟨ad,ws,rfl,sq,t⟩:=r;have w0:ws=[]:=List.length_eq_zero_iff.mp t.length.symm;subst w0;exact⟨ad,rfl,Same.seqT s sq⟩
  refine⟨c,H0,ρ,[.tup []],ag,R,one e1,λ vs H1 Hh s1 R1 r1=>?_⟩;obtain⟨v,rfl,rv⟩:=Reps.v1 r1;obtain⟨ad,rfl,sq⟩:=af R1.same rv;refine⟨ad,rfl,sq,λ l hl=>?_⟩;obtain⟨n1,n2,n3⟩:=R1.holdF hl;refine⟨⟨c.Hi,upd c.He l (aJ9 X.w l),c.Ap⟩,H1,ag,[.tup []],_,R1.hold hl,one e2,λ ar H2 Hh2 s2 R2 r2=>?_⟩;obtain⟨v2,rfl,ao⟩:=Reps.v1 r2;obtain⟨am,rfl,al⟩:=af R2.same ao;obtain⟨R2',ah⟩:=R2.unhold n1 n2;refine⟨am,rfl,al,λ m hm=>?_⟩;have lm:l≠m:=λ z=>by rw[<- z,ah] at hm;cases hm
  refine⟨l,m,rfl,rfl,lm,by rw[b_2 lm];exact ah,a_3,λ r hr=>?_⟩;refine⟨r,rfl,a_3,λ t ht=>?_⟩;have S1:=Step.side (o:=aJ9 X.w m) R2'.same hm;have S2:=Step.side (o:=aJ9 X.w r) S1.s' hr;have S3:=Step.alloc (o:=.lst []) S2.s' ht;refine q _ _ _ (s1.trans (s2.trans ((S1.trans S2).trans S3).s0)) (R2'.after ((S1.trans S2).trans S3)) ?_;unfold Rep;exact⟨t,_,rfl,.inl (.inl a_3),rfl⟩
end
theorem bq3 {n l r:Nat} (h1:l<n) (h2:r<n):ZipApart (n+4) (n+2) (n+3) n (n+1) l r:=by constructor <;> (show @Ne Nat _ _;omega)
def ItL (K:Frag) (a b:Addr):It :=
  ⟨λ i H=>∃ xs ys,SqL K H a xs/\SqL K H b ys/\i<xs.length/\i<ys.length,
   λ i H x H'=>∃ v w p,(∀ xs,SqL K H a xs->xs[i]?=some v)/\(∀ ys,SqL K H b ys->ys[i]?=some w)/\x=.ref p/\H p=none/\H'=upd H p (.tup [v,w]),
   λ i H=>∃ xs ys,SqL K H a xs/\SqL K H b ys/\(xs.length<=i\/ys.length<=i)⟩
def zL (z TI TO Y O a b:Addr) (i:Nat) (h:Heap):Prop:=IsZip h z TI TO .none/\IsPair h TI (.ref Y) (.ref O)/\(∃ u v,IsPair h TO u v)/\h.IsListIter Y a i/\h.IsListIter O b i
theorem bs0 {P:Program}{w:World}{K:Frag}{aa:List Expr}{x1:Nat}{pt:Pos}{z TI TO i1 i2 a b:Addr} (D:ZipApart z TI TO i1 i2 a b):Turn P w K (.Tuple aa x1 pt) (ItL K a b) [z,TI,TO,i1,i2] z (zL z TI TO i1 i2 a b) where
 mem:=qm
 obj:=λ i h Y c O=>by
  obtain⟨x1,x2,⟨u,v,x3⟩,⟨o4,x4,_,d4⟩,⟨o5,x5,_,d5⟩⟩:=Y;simp only[zl,zg,yf] at O;rcases O with rfl | rfl | rfl | rfl | rfl
  ·exact⟨_,x1,nofun⟩
  ·exact⟨_,x2,nofun⟩
  ·exact⟨_,x3,nofun⟩
  ·exact⟨_,x4,λ v z=>by rw[d4] at z;cases z⟩
  ·exact⟨_,x5,λ v z=>by rw[d5] at z;cases z⟩
 keep:=λ i h h' ⟨x1,x2,⟨u,v,x3⟩,x4,x5⟩ k=>⟨k z (by simp) _ x1,k TI (by simp) _ x2,⟨u,v,k TO (by simp) _ x3⟩,x4.at λ o e=>k i1 (by simp) o e,x5.at λ o e=>k i2 (by simp) o e⟩
 item:=λ X hP hw hK O i pins s σ H E I hf Y Z=>by
  obtain⟨x1,x2,⟨u,v,x3⟩,x4,x5⟩:=Y;obtain⟨xs,ys,q1,q2,l1,l2⟩:=Z;subst hP hw hK;obtain⟨us,r1,p1,_⟩:=I.list q1;obtain⟨vs,r2,p2,_⟩:=I.list q2;have e1:xs[i]?=some xs[i]:=zo l1;have e2:ys[i]?=some ys[i]:=zo l2;obtain⟨x,hx,rx⟩:=r1.get e1;obtain⟨y,hy,ry⟩:=r2.get e2;have hp:H s.heap.objs.size=none:=I.hok.fresh (qr _);have lt:∀ {c o},s.heap.get? c=some o->s.heap.objs.size≠c:=λ e=>jb (qv e);refine wpAny_pyNext_zip_item D x1 x2 x3 x4 x5 p1.isList p2.isList (by simpa using hx) (by simpa using hy) λ h1 a1 a2 a3 a4 a5 a6 k=>⟨_,rfl,?_⟩
  refine wpAny_letOwnedTupleGo_zip (s:={s with heap:=h1}) a1 λ h2 z2 sb=>?_;have fp:∀ c∈[z,TI,TO,i1,i2],FpOk X pins (upd H s.heap.objs.size (.tup [xs[i],ys[i]])) c:=λ c O=>(hf c O).upd λ e=>by
   subst e;simp only[zl,zg,yf] at O;obtain⟨_,x4,_⟩:=x4;obtain⟨_,x5,_⟩:=x5;rcases O with e | e | e | e | e
   ·exact lt x1 e
   ·exact lt x2 e
   ·exact lt x3 e
   ·exact lt x4 e
   ·exact lt x5 e
  have I0:Inv X pins σ (upd H s.heap.objs.size (.tup [xs[i],ys[i]])) {s with heap:=s.heap.push {cls:=.type "tuple",data:=.seq #[x,y]}} :=
   I.laid (t':=s.toks) (λ c o q=>ql _ q) (qr _) (show ObjOk X.prog X.w _ _ _ (.tup [xs[i],ys[i]]) from ⟨by show (2:Nat)<=sizeLine;decide,[x,y],.cons rx (.cons ry .nil),IsTuN.new _ _⟩)
  have I2:Inv X pins σ (upd H s.heap.objs.size (.tup [xs[i],ys[i]])) {s with heap:=h2}:=Inv.turnedL (s:={s with heap:=s.heap.push {cls:=.type "tuple",data:=.seq #[x,y]}}) (t':=s.toks) (fs:=[z,TI,TO,i1,i2]) I0 (λ c q O e=>by
   simp only[zl,zg,yf,not_or] at O;refine (sb.2 c O.1).trans ?_;rcases Heap.get?_push_cases e with ⟨y1,y2⟩ | e
   ·rw[y1,y2];exact a5
   ·exact k c q O.1 O.2.2.1 O.2.2.2.1 O.2.2.2.2 e) fp
  exact⟨.ref s.heap.objs.size,_,I2,rfl,⟨xs[i],ys[i],_,λ zs hz=>by rw[I.list_inj hz q1];exact e1,λ zs hz=>by rw[I.list_inj hz q2];exact e2,rfl,hp,rfl⟩,
   ⟨z2,(sb.2 TI D.TIz).trans (k _ _ D.TIz D.TITO D.TIi1 D.TIi2 x2),⟨_,_,(sb.2 TO D.TOz).trans a2⟩,a3.at λ o e=>(sb.2 i1 D.i1z).trans e,a4.at λ o e=>(sb.2 i2 D.i2z).trans e⟩,λ c O=>(fp c O).1⟩
 done:=λ X hP hw hK O i pins s σ H E I hf Y Z=>by
  obtain⟨x1,x2,⟨u,v,x3⟩,x4,x5⟩:=Y;obtain⟨xs,ys,q1,q2,l⟩:=Z;subst hP hw hK;obtain⟨us,r1,p1,_⟩:=I.list q1;obtain⟨vs,r2,p2,_⟩:=I.list q2;have n1:=r1.length;have n2:=r2.length;refine wpAny_pyNext_zip_end (I.ok.hd O) D x1 x2 x3 x4 x5 p1.isList p2.isList ?_ λ h1 k=>⟨rfl,Inv.turnedL (t':=s.toks) (fs:=[z,TI,TO,i1,i2]) I (λ c q O e=>by
   simp only[zl,zg,yf,not_or] at O;exact k c q O.1 O.2.2.1 O.2.2.2.1 O.2.2.2.2 e) hf⟩
  rcases l with l | l
  ·exact .inl (by simp;omega)
  ·exact .inr (by simp;omega)
 self:=λ A i s Q E st h=>wpAny_pyIter_zip st.1 h
def iZL (K:Frag) (t:TA):TI:=λ σ H R=>t σ H λ vs H1=>∃ l r xs ys,vs=[.ref l,.ref r]/\SqL K H1 l xs/\SqL K H1 r ys/\R (ItL K l r) H1
theorem cl6 {X:Cx}{O:List Expr}{x1:Nat}{pt:Pos}{a b:Expr}{ta:TA}{p pos:Pos} (hg:Gl X "zip") (hm:X.mg "zip"=none) (ha:PA X [a,b] ta) (hs:starEach [a,b] X.env=[(false,eval a X.env),(false,eval b X.env)]:=by rfl) (Z:starEach [b] X.env=[(false,eval b X.env)]:=by rfl) :
  PI X (.Tuple O x1 pt) (.Call (.Name "zip" p) [a,b] [] pos) (iZL X.K ta):=λ pins s σ H R I h=>by
 refine jt (X_0 I hg hm (u:=.type "zip") (by decide +kernel) (j9 (thn (ha pos pins s σ H _ I h) λ us s1=>ex5 λ vs H1 Y r1 q1=>?_) (by rw[hs,Z]) (by rw[Z];rfl)));obtain⟨l,r,xs,ys,rfl,q1,q2,qq⟩:=q1;cases r1 with
 |cons r1 rr =>
  cases rr with
  |cons r2 rr =>
   cases rr;cases r1;cases r2;obtain⟨us,v1,p1,_⟩:=Y.list q1;obtain⟨vs,v2,p2,_⟩:=Y.list q2;have lt:∀ {c:Addr}{u:Array Value},s1.heap.IsList c u->c<s1.heap.objs.size:=fun⟨o,e,_⟩=>qv e;refine call_zip_2 p1.isList p2.isList λ h' z1 z2 z3 z4 z5 _ k=>wpAny_pyIter_zip z1 ⟨_,_,_,_,H1,rfl,Y.kept (t':=s1.toks) k,bs0 (bq3 (lt p1.isList) (lt p2.isList)),⟨z1,z2,⟨_,_,z3⟩,z4,z5⟩,λ c hc=>?_,qq⟩;have le:s1.heap.objs.size<=c:=by
    simp only[zl,zg,yf] at hc;rcases hc with rfl | rfl | rfl | rfl | rfl
    ·exact Zi _ _
    ·exact Zi _ _
    ·exact Zi _ _
    ·exact qr _
    ·exact Zi _ _
   exact Y.fpOk le (Y.hok.fresh le)
theorem aG7 {K:Frag}{H1:Hp}{l r:Addr}{us vs:List V}{xs ys:List D} (q1:SqL K H1 l us) (q2:SqL K H1 r vs) (Z:Reps K H1 xs us) (r2:Reps K H1 ys vs):af4 K (ItL K l r) H1 (zpT xs ys):=λ H0 H i s s'=>by
 have g1:=Same.seq (s.trans s') q1;have g2:=Same.seq (s.trans s') q2;have n1:=Z.length;have n2:=r2.length;refine⟨λ d e=>?_,λ h=>⟨us,vs,g1,g2,by rw[aG6] at h;omega⟩⟩;have hi:i<(zpT xs ys).length:=(List.getElem?_eq_some_iff.mp e).1;rw[aG6] at hi;have d1:xs[i]?=some xs[i]:=zo (by omega);have d2:ys[i]?=some ys[i]:=zo (by omega);rw[bq2 d1 d2] at e;cases e;obtain⟨v',e3,rv⟩:=Z.get d1;obtain⟨w',e4,Y⟩:=r2.get d2;refine⟨⟨us,vs,g1,g2,by omega,by omega⟩,λ x H' O=>?_⟩;obtain⟨v,w,p,e1,e2,ex,hp,eH⟩:=O;subst ex eH;have e1:=e1 us g1;have e2:=e2 vs g2;rw[e3] at e1;cases e1;rw[e4] at e2;cases e2;have S:=Step.alloc (o:=.tup [v',w']) s' hp;refine⟨_,S,?_⟩;unfold Rep;exact⟨p,_,rfl,.inl (.inl a_3),Reps.cons (Rep.mono (s.trans S.s0) _ rv) (Reps.one (Rep.mono (s.trans S.s0) _ Y))⟩
end Fx
namespace Fx
open PySem PySem.W PySem.Spec PyProof.Rows L2
section
variable {K:Frag}{c:FC}{H0 H:Hp}{ρ:En}{σ:L2.St}{l:Addr}{o:HO}
theorem RS.unhid (R:RS K ⟨c.Hi,upd c.He l o,c.Ap⟩ H0 H ρ σ) (n1:l∉c.Ap) (n2:c.He l=none) (n3:c.Hi l=none):RS K c H0 (λ b=>if b=l then none else H b) ρ σ:=by
 have Z:H0 l=none:=by
  cases z:H0 l with
  |none=>rfl
  |some v =>
   rcases R.fresh l v z with q | q
   ·rw[n3] at q;cases q
   ·have q:upd c.He l o l=none:=q;rw[a_3] at q;cases q
 have ne:∀ {b:Addr}{v:HO},H0 b=some v->b≠l:=λ e z=>by rw[z,Z] at e;cases e
 refine⟨λ b v e=>?_,R.init,λ b v e=>?_,λ b v e n=>?_,λ a O=>?_,R.len,R.im,λ j b m e=>?_,R.ne⟩
 ·show (if b=l then none else H b)=some v;rw[if_neg (ne e)];exact R.same b v e
 ·rcases R.fresh b v e with q | q
  ·exact .inl q
  ·have q:upd c.He l o b=none:=q;rw[b_2 (ne e)] at q;exact .inr q
 ·have z:b≠l:=λ z=>by rw[z,n2] at e;cases e
  show (if b=l then none else H b)=some v;rw[if_neg z];exact R.keep b v (by show upd c.He l _ b=some v;rw[b_2 z];exact e) n
 ·have z:a≠l:=λ z=>n1 (z▸O);show (if a=l then none else H a)≠none;rw[if_neg z];exact R.apt a O
 ·obtain⟨a,e1,e2,e3,Y⟩:=R.ow j b m e;have z:a≠l:=λ z=>by
   cases b with
   |true=>exact n1 (z▸e3)
   |false =>
    have e3:upd c.He l _ a=none:=e3;rw[z,a_3] at e3;cases e3
  refine⟨a,e1,e2,?_,Y.step (Same.refl _) λ v h=>by show (if a=l then none else H a)=some v;rw[if_neg z];exact h⟩;cases b with
  |true=>exact e3
  |false =>
   have e3:upd c.He l _ a=none:=e3;rw[b_2 z] at e3;exact e3
theorem br6 {u:HO}:upd (λ b=>if b=l then none else H b) l u=upd H l u:=by
 funext b;by_cases hb:b=l
 ·rw[hb,a_3,a_3]
 ·rw[b_2 hb,b_2 hb];exact if_neg hb
end
section
variable {X:Cx}{E:XK}{A:FA}{F G:FE}{k:Nat}{x:Str}{g:List D->Option (D ⊕ XV)}{e0:Expr}{es:List Expr}{p pos p6:Pos}
theorem ai8 {sts:List Stmt}:XSs X sts sNo:=λ _ _ _ _ _ _ ⟨_,_,_,_,_,f,_⟩=>nomatch f
theorem aT2 (i:Nat) {y:Str}{p2:Pos} (hx:W_4 (CXE X.prog X.w) X E) (hN:X.N.Nodup) (G:DefX X.prog X.w X.K X.mg X.base k x g) (hr:Room k X.A) (ha:XA X (e0::es) A) (hi:X.N[i]?=some y:=by rfl) (hy:Loc X.env.scope y:=by first | exact Or.inl rfl | exact Or.inr rfl)
  (hg:Gl X x:=by rfl) (aa:(x==("__debug__":Str))=false:=by decide) (he:starEach (e0::es) X.env=(false,eval e0 X.env)::starEach es X.env:=by rfl) (Z:(backTo pos (starEach es X.env)).any (·.1)=false:=by rfl)
  (ac:swapsWith (.Call (.Name x p) (e0::es) [] pos) (some (.Name y p2)) p6.line X.env=pure false:=by rfl) (hf:X.fn y=true\/X.env.scope.names.lookup y=some .local:=by first | exact .inl rfl | exact .inr rfl) :
  XX1 X E (.Assign [.Name y p2] (.Call (.Name x p) (e0::es) [] pos) p6) (ar2 i g A):=by
 obtain⟨f,fd,ps,Fk,hb,hk,hm⟩:=G.ex;refine PS.wk (x_7 hN hi hy (N_7 Fk hr hg hm hk hb .nil hx ha aa he Z) ac hf) λ Dn σ H Y=>?_;obtain⟨c,H0,ρ,r,R,f,q⟩:=Y;unfold ar2 aw3 at f;obtain⟨⟨ds,O⟩,h1,f⟩:=a_0 f;obtain⟨z,h2,f⟩:=a_0 f;refine⟨c,H0,ρ,ds,O,R,h1,λ vs H1 Hh s1 R1 r1=>⟨H1,ds,z,R1.same,by rw[zw];exact r1,h2,?_⟩⟩;cases z with
 |inl d=>cases f;exact λ v Hi' H' S rv=>q _ Hi' H' (s1.trans S.s0) ((R1.after S).set i rv)
 |inr y=>cases f;exact λ C dd Hi' H' m S xd=>q C dd O σ Hi' H' m (s1.trans S.s0) (R1.after S) xd
theorem cj9 {a b:Expr}{Y:List Expr}{x1:Nat}{pt pos':Pos}{body:List Stmt}{g:GD}{A B:FE}{S:FS} (hm:X.mg "zip"=none) (hg:XG X (.Tuple Y x1 pt) g) (ha:XE X a A) (hb:XE X b B) (af:XSs X body S) (ac:Gl X "zip":=by rfl)
  (hp:PassesOwn (model X.prog X.w) X.A X.env X.xe:=by exact j5) (hc:X.calm=true:=by rfl) (Z:starEach [a,b] X.env=[(false,eval a X.env),(false,eval b X.env)]:=by rfl) (O:starEach [b] X.env=[(false,eval b X.env)]:=by rfl)
  (hs:∀ v,foldedSetIterable (.Call (.Name "zip" p) [a,b] [] pos') X.env v=pure v:=by intro _;rfl) :
  XS X (.For (.Tuple Y x1 pt) (.Call (.Name "zip" p) [a,b] [] pos') body [] pos) (bh4 g (e2 bA2 A B) S) :=
 PS.wk (ah6 hp hc (cl6 ac hm (xaC ha (xaC hb xaN O) (by rw[Z,O])) Z O) hg af hs) λ Dn σ H aa=>by
  obtain⟨c,H0,ρ,r,R,f,q⟩:=aa;unfold bh4 at f;obtain⟨⟨d,ae⟩,h0,f⟩:=a_0 f;obtain⟨zs,g0,f⟩:=a_0 f;dsimp only at g0 f;obtain⟨d1,ad,d2,h1,h2,h3⟩:=aS7 h0;obtain⟨xs,ys,e1,e2,e3⟩:∃ xs ys,d1=.lst xs/\d2=.lst ys/\d=.lst (zpT xs ys):=by
   unfold bA2 at h3;split at h3
   ·obtain⟨_,e⟩:=ifs h3;exact⟨_,_,rfl,rfl,e.symm⟩
   ·cases h3
  subst e1 e2 e3;cases g0;refine⟨c,H0,ρ,[.lst xs,.lst ys],ae,R,by unfold aC;rw[h1];show bnd (bnd (B ad) _) _=_;rw[h2];rfl,λ vs H1 Hh s1 R1 r1=>?_⟩;unfold Reps at r1;obtain⟨v,r,rfl,rv,r1⟩:=r1;obtain⟨u,rfl,ru⟩:=Reps.v1 r1;unfold Rep at rv ru;obtain⟨l,us,rfl,q1,t1⟩:=rv;obtain⟨m,ws,rfl,q2,t2⟩:=ru;exact⟨l,m,us,ws,rfl,Same.seq R1.same q1,Same.seq R1.same q2,bd0 R1 f (aG7 q1 q2 t1 t2) (q.mono s1)⟩
theorem xD1 {kx e:Expr} (hk:XE X kx G) (he:XE X e F):XE X (.Dict [some kx] [e] pos) (eD1 G F):=by
 refine PE.wk (bM4 (aZ0 (aI1 hk he aY4) rfl rfl (by simp) (by simp))) λ σ H Q Y=>?_;obtain⟨c,H0,ρ,d,aa,R,f,q⟩:=Y;unfold eD1 ci6 at f;obtain⟨⟨y,O⟩,h1,f⟩:=a_0 f;unfold ci5 at f;dsimp only at f;split at f
 case h_2=>cases f
 case h_1 kk =>
  obtain⟨⟨d',Z⟩,h2,f⟩:=a_0 f;cases f;intro a ha;obtain⟨n1,n2,n0,n3⟩:=R.hide ha;refine⟨⟨c.Hi,upd c.He a (.dK []),c.Ap⟩,H0,ρ,_,O,R.hid ha,h1,λ v H1 Hh s1 R1 r1=>⟨_,H1,O,d',Z,R1,h2,λ u H2 Hh2 s2 R2 r2=>?_⟩⟩;unfold Rep at r1;subst r1;have kp:Hh2 a=some (.dK []):=R2.keep a _ a_3 n1;refine⟨kp,[(.inr kk,u)],rfl,by simp,a,_,rfl,a_3,λ ob=>?_⟩;have R3:=R2.unhid (c:=c) n1 n2 n3;have S:=Step.alloc (o:=.frz ob (.dK [(.inr kk,u)])) R3.same (if_pos rfl);have R4:=R3.after S;rw[br6] at R4;rw[upd_upd];refine q _ _ _ (s1.trans (s2.trans S.s0)) R4 ?_;unfold Rep;exact⟨a,ob,[u],rfl,a_3,Reps.one (Rep.mono S.s0 _ r2),rfl⟩
theorem yD1 {O e:Expr} (hk:YE X O G) (Y:YE X e F):YE X (.Dict [some O] [e] pos) (eD1 G F):=⟨xD1 hk.go Y.go⟩
end
structure XW56 (K:Frag) (mg:Str → Option Value) (st:Stmt) (c3 cW fI:Addr) (fd:FuncData) (c0 c1 c2:Addr):Prop extends XIn K mg "NoPaper" "WellError" "name" "NoPaper.__init__" st c3 cW fI fd where
 m_NoCell:mg "NoCell"=some (.ref c0)
 m_Late:mg "Late"=some (.ref c1)
 m_NoComing:mg "NoComing"=some (.ref c2)
 x_NoCell:excIn K c0 bmV "ValueError.__new__"=true
 x_Late:excIn K c1 bmV "ValueError.__new__"=true
 x_NoComing:excIn K c2 bmV "ValueError.__new__"=true
 kc:XC K c0
 e00:exmOne K (.ref c0) (.ref c0)=some true
 e10:exmOne K (.ref c1) (.ref c0)=some false
 e11:exmOne K (.ref c1) (.ref c1)=some true
 e20:exmOne K (.ref c2) (.ref c0)=some false
 e21:exmOne K (.ref c2) (.ref c1)=some false
 e22:exmOne K (.ref c2) (.ref c2)=some true
 e30:exmOne K (.ref c3) (.ref c0)=some false
 e31:exmOne K (.ref c3) (.ref c1)=some false
 e32:exmOne K (.ref c3) (.ref c2)=some false
 e33:exmOne K (.ref c3) (.ref c3)=some true
 tW:kitOne K (.ref c0) (.ref cW)=some true
 t1:kitOne K (.ref c0) (.ref c1)=some false
 t2:kitOne K (.ref c0) (.ref c2)=some false
section
variable {X:Cx}{k:Nat}{x:Str}{g:List D->Option (D ⊕ XV)}{e0:Expr}{es:List Expr}{A:FA}{p pos:Pos}
structure Bdy (X:Cx) (sts:List Stmt) (B:FX):Prop where
 go:∀ (pins:List (Addr×Obj)) (s:Shared) (σ:L2.St) (H H0:Hp) (c:FC) (ρ:En) (r:RX),Inv X pins σ H s->RS X.K c H0 H ρ σ->B ρ=some r ->
 wpAny (model X.prog X.w) X.A (execs sts X.env) (λ f s'=>f=.next/\∃ ρ' H0' H',r=.ok (.nx ρ')/\Inv X pins σ H' s'/\Same H0 H0'/\RS X.K c H0' H' ρ' σ) (λ e s'=>∃ y ρ' H1,r=.ex y/\Same H0 H1/\bV7 X pins σ c H1 ρ' y e s') s
theorem aq0 {p6:Pos} (hf:∀ e s,X.xe e s → False) (G:DefX X.prog X.w X.K X.mg X.base k x g) (hr:Room k X.A) (ha:XA X (e0::es) A) (hg:Gl X x:=by rfl) (Z:(x==("__debug__":Str))=false:=by decide)
  (he:starEach (e0::es) X.env=(false,eval e0 X.env)::starEach es X.env:=by rfl) (Y:(backTo pos (starEach es X.env)).any (·.1)=false:=by rfl) (O:swapsWith (.Call (.Name x p) (e0::es) [] pos) none p6.line X.env=pure false:=by rfl) :
  Bdy X [.Expr (.Call (.Name x p) (e0::es) [] pos) p6] (E_7 g A):=by
 constructor;intro pins s σ H H0 c ρ r I R f;unfold E_7 al1 at f;obtain⟨⟨ds,aa⟩,h1,f⟩:=a_0 f;obtain⟨z,h2,f⟩:=a_0 f;refine Q1 (wpAny_Expr_any (zv (bW3 hf G hr ha hg Z he Y I R h1 h2) (λ v s1 h=>?_) λ e s1 h=>?_) I.quiet O)
 ·obtain⟨⟨d,rfl⟩,H0',H',I1,sm,R1⟩:=h;cases f;exact j4 ⟨rfl,_,H0',H',rfl,I1,sm,R1⟩
 ·obtain⟨y,rfl,h⟩:=h;cases f;exact⟨y,_,H0,rfl,Same.refl _,h⟩
theorem cj0 {cx:Expr}{a b:List Stmt}{T:FT}{B C:FX} (hf:∀ e s,X.xe e s->False) (hc:XT X cx T) (ha:Bdy X a B) (hb:Bdy X b C):Bdy X [.If cx a b pos] (rIf T B C):=by
 constructor;intro pins s σ H H0 c ρ r I R f;unfold rIf at f;obtain⟨⟨k,Y⟩,h1,f⟩:=a_0 f;refine Q1 (wpAny_If (zv (hc pins s σ H (λ b H'=>∃ H0',b=k/\Same H0 H0'/\RS X.K c H0' H' Y σ) I ⟨c,H0,ρ,k,Y,R,h1,λ H0' H' sm R'=>⟨H0',rfl,sm,R'⟩⟩) (λ d s1 h=>?_) λ e s1 z=>(hf e s1 z).elim));obtain⟨H',I1,H0',rfl,sm,R1⟩:=h;have fin:∀ {sts:List Stmt}{B:FX},Bdy X sts B->B Y=some r->wpAny (model X.prog X.w) X.A (execs sts X.env) (λ f s'=>match f with | .next=>wpAny (model X.prog X.w) X.A (execs [] X.env) (λ f s'=>f=.next/\∃ O H0' H',r=.ok (.nx O)/\Inv X pins σ H' s'/\Same H0 H0'/\RS X.K c H0' H' O σ) (λ e s'=>∃ y O H1,r=.ex y/\Same H0 H1/\bV7 X pins σ c H1 O y e s') s' | f=>f=.next/\∃ O H0' H',r=.ok (.nx O)/\Inv X pins σ H' s'/\Same H0 H0'/\RS X.K c H0' H' O σ) (λ e s'=>∃ y O H1,r=.ex y/\Same H0 H1/\bV7 X pins σ c H1 O y e s') s1:=λ h z =>
  zv (h.go pins s1 σ H' H0' c Y r I1 R1 z) (λ f s' Z=>by obtain⟨ef,O,H2,H3,e1,e2,e3,e4⟩:=Z;subst ef;exact j4 ⟨rfl,O,H2,H3,e1,e2,sm.trans e3,e4⟩) λ e s' ⟨y,O,H1,e1,e2,e3⟩=>⟨y,O,H1,e1,sm.trans e2,e3⟩
 unfold ifX at f;cases d with
 |true=>rw[if_pos rfl] at f;exact fin ha f
 |false=>rw[if_neg zc] at f;exact fin hb f
def cj2 (X:Cx) (pins:List (Addr×Obj)) (σ:L2.St) (H:Hp) (a C:Addr) (dd:Option Addr) (s:Shared):Prop:=∃ T,Inv X pins σ H s/\aq7 X pins H a/\aq7 X pins H T/\Fly s.heap a T C dd .none
theorem by5 {pins:List (Addr×Obj)}{s:Shared}{σ:L2.St}{c:FC}{H0:Hp}{aa:En}{y:XV}{hs:List ExceptHandler}{e:Value}{Q:Flow->Shared->Prop} (O:X.stack=X.env::X.outer) (ag:X.env.frame=some X.env.locals)
  (q:∀ C a dd H0' H' s',X.mg y.1=some (.ref C)->Same H0 H0'->RS X.K c H0' H' aa σ->XD X.K H0' H' y.2 dd->cj2 X pins σ H' a C dd s'->wpAny (model X.prog X.w) X.A (handleBy (.ref a) X.env hs) Q X.xe s') (h:bV7 X pins σ c H0 aa y e s) :
  wpAny (model X.prog X.w) X.A (noteFrame e X.env) (λ _ ac=>wpAny (model X.prog X.w) X.A (setFlight e none) (λ _ Y=>wpAny (model X.prog X.w) X.A (handleBy e X.env hs) Q X.xe Y) X.xe ac) X.xe s:=by
 obtain⟨C,a,T,dd,H0',H',m,rfl,I1,sm,R,ya,yT,fl,xd⟩:=h;have fr:=I1.ok.frames;rw[O] at fr;have st:=I1.stack;rw[O] at st;refine G_4 fr st ag fl λ h2 T2 Z z2 ae=>?_;rw[<- O] at Z;have I2:=L_1 (t':=s.toks) I1 Z (by simpa using ⟨ya,yT⟩);have d2:s.heap.get? T2=none:=yu z2;have y2:aq7 X pins H' T2:=ax4 I1 d2 (z_1 I1.hok d2);refine P_8 ae λ h3 ad af=>?_;have I3:=L_1 (t':=s.toks) (es:=[T2]) (h':=h3) I2 (Aw.of λ b o n z=>(ad.2 b (by simpa using n)).trans z) (by simpa using y2);exact q C a dd H0' H' _ m sm R xd ⟨T2,I3,ya,y2,af⟩
section
variable {pins:List (Addr×Obj)}{s:Shared}{σ:L2.St}{H:Hp}{a C W:Addr}{dd:Option Addr}{wn:Str}{p1 p5:Pos}{hs:List ExceptHandler}{Q:Flow->Shared->Prop}
theorem m_1 {b:Bool}{name:Option Str}{Y:List Stmt} (hg:Gl X wn) (hW:X.mg wn=some (.ref W)) (ac:(wn==("__debug__":Str))=false) (aa:exmOne X.K (.ref C) (.ref W)=some b) (h:cj2 X pins σ H a C dd s)
  (q:if b=true then codeAny (model X.prog X.w) (X.A.mark (some (.ref a))) (Code.handlers (.ref a) [.ExceptHandler none name Y p5] X.env) (λ r O=>match r with
    |.ok f=>match name with
     |none=>Q f O
     |some n=>wpAny (model X.prog X.w) X.A (do bindName X.env n Value.none;unbindBehindTheSuite X.env n p5) (λ _ Z=>Q f Z) X.xe O
    |.error x=>cameBackBy (model X.prog X.w) X.A X.env X.xe x O) s else wpAny (model X.prog X.w) X.A (handleBy (.ref a) X.env hs) Q X.xe s) :
  wpAny (model X.prog X.w) X.A (handleBy (.ref a) X.env (.ExceptHandler (some (.Name wn p1)) name Y p5::hs)) Q X.xe s:=by
 obtain⟨T,I,ya,yT,fl⟩:=h;refine wpAny_handleBy_cons (codeAny_handlers_test (A_2 (ak0 (E:=X.xe) I a) hg hW ?_ ac)) (by intro z;cases z);have L0:Looks (model X.prog X.w) s.heap (typeOf (.ref a)) (.ref C):=by obtain⟨_,⟨vs,q1,_⟩,_⟩:=fl;exact (Looks.ld q1).andThen .now
 refine (exm_one I.kIn L0 aa).at ?_;cases b with
 |true=>exact q
 |false=>exact q
theorem ba7 {v:Expr}{t:TE}{p6:Pos}{Rt:V->Hp->Prop} (ok:X.Ok) (hv:PE (ad4 X a λ _ _=>False) v t) (ht:t σ H Rt) (h:cj2 X pins σ H a C dd s) :
  codeAny (model X.prog X.w) (X.A.mark (some (.ref a))) (Code.handlers (.ref a) [.ExceptHandler none none [.Return (some v) p6] p5] X.env) (λ r O=>match r with
    |.ok f=>SP X pins {nx:=λ _ _=>False,rt:=Rt} f O
    |.error x=>cameBackBy (model X.prog X.w) X.A X.env X.xe x O) s:=by
 obtain⟨T,I,ya,yT,fl⟩:=h;refine codeAny_handlers_suite (P_8 fl λ h4 aa ac=>?_);have I4:=L_1 (t':=s.toks) (es:=[T]) (h':=h4) I (Aw.of λ b o n z=>(aa.2 b (by simpa using n)).trans z) (by simpa using yT);refine zv (s_8 (au9 hv) pins _ σ H {nx:=λ _ _=>False,rt:=Rt} (ak0 I4 a) ht) (λ f s6 Y=>?_) λ _ _ z=>z.elim;cases f with
 |brk=>obtain⟨_,_,_,z⟩:=Y;exact z.elim
 |cont=>obtain⟨_,_,_,z⟩:=Y;exact z.elim
 |next=>obtain⟨_,_,_,z⟩:=Y;exact z.elim
 |ret u =>
  obtain⟨v',Z,H',I7,rv,z⟩:=Y;exact⟨v',Z,H',aF9 ok I7,rv,z⟩
theorem by7 {v:Expr}{t:Addr->Array Value->TE}{p6:Pos}{Rt:V->Hp->Prop}{xk:Str}{ik:Nat} (ok:X.Ok) (hN:X.N.Nodup) (aa:X.N[ik]?=some xk) (lk:X.env.scope.names.lookup xk=some .local)
  (hv:∀ vs,PE (q_9 (ad4 X a λ _ _=>False) a (rcd (.ref C) vs dd)) v (t a vs)) (ht:∀ vs,t a vs (σ.set ik (some (.ref a))) H Rt) (h:cj2 X pins σ H a C dd s) :
  codeAny (model X.prog X.w) (X.A.mark (some (.ref a))) (Code.handlers (.ref a) [.ExceptHandler none (some xk) [.Return (some v) p6] p5] X.env) (λ r O=>match r with
    |.ok f=>wpAny (model X.prog X.w) X.A (do bindName X.env xk Value.none;unbindBehindTheSuite X.env xk p5) (λ _ Y=>SP X pins {nx:=λ _ _=>False,rt:=Rt} f Y) X.xe O
    |.error x=>cameBackBy (model X.prog X.w) X.A X.env X.xe x O) s:=by
 obtain⟨T,I,ya,yT,fl⟩:=h;refine codeAny_handlers_suite_as (P_8 fl λ h4 ac af=>?_);have I4:=L_1 (t':=s.toks) (es:=[T]) (h':=h4) I (Aw.of λ b o n z=>(ac.2 b (by simpa using n)).trans z) (by simpa using yT);obtain⟨_,⟨vs,q4,_⟩,_⟩:=id af;have nf:a∉X.fs:=λ z=>ai5 (s:={s with heap:=h4}) I4.funs q4 z;have I5:=bh1 (a:=a) (o:=rcd (.ref C) vs dd) I4 q4 ya.1 ya.2.1 nf (λ v z=>nomatch z);refine D_8 (v:=.ref a) I5 hN aa (.inl lk) rfl (λ s5 I6=>?_) (.inr lk);refine zv (s_8 (au9 (hv vs)) pins s5 _ H {nx:=λ _ _=>False,rt:=Rt} (bA7 (ak0 I6 a)) (ht vs)) (λ f s6 h6=>?_) λ _ _ z=>z.elim;cases f with
 |brk=>obtain⟨_,_,_,z⟩:=h6;exact z.elim
 |cont=>obtain⟨_,_,_,z⟩:=h6;exact z.elim
 |next=>obtain⟨_,_,_,z⟩:=h6;exact z.elim
 |ret u =>
  obtain⟨v',ag,H6,I7,rv,z⟩:=h6;have I8:=aF9 ok (bp2 I7);obtain⟨m8,Z,_⟩:=id I8.loc;refine wpAny_nameGoes_keeps lk Z (by rw[I8.ok.kind];rfl) λ h9 v9 ad ae=>?_;exact⟨v',_,H6,aK2 (t':=s6.toks+1) I8 hN aa Z ad ae,rv,z⟩
end
end
theorem ai9 {B:FX}{ds:List D}{d:D} (h:aj0 B ds=some d):ds.length=6/\∃ r,B (ds.map .im++[.no])=some r/\aT6 r=some d:=by
 unfold aj0 at h;by_cases z:ds.length=6
 ·rw[if_pos z] at h;exact⟨z,a_0 h⟩
 ·rw[if_neg z] at h;cases h
section
variable {X:Cx}{pins:List (Addr×Obj)}
theorem bg6 {Rt:V->Hp->Prop}{Dn:Ends}{f:Flow}{s:Shared} (h:SP X pins {nx:=λ _ _=>False,rt:=Rt} f s) (q:∀ v H,Rt v H->Dn.rt v H):∃ u,f=.ret u/\SP X pins Dn (.ret u) s:=by
 cases f with
 |brk=>obtain⟨_,_,_,z⟩:=h;exact z.elim
 |cont=>obtain⟨_,_,_,z⟩:=h;exact z.elim
 |next=>obtain⟨_,_,_,z⟩:=h;exact z.elim
 |ret u =>
  obtain⟨v,σ,H,I,r,z⟩:=h;exact⟨u,rfl,v,σ,H,I,r,q v H z⟩
theorem bw0:OpR X (binaryOp .Mult) (λ x y H Q=>∃ a n,x=.str a/\y=.int n/\MulOk a n/\Q (.str (Txt.mul a n)) H):=λ pins s σ H x y u v Q I Z Y O=>by
 obtain⟨a,n,ex,ey,ok,q⟩:=O;subst ex ey;obtain⟨t,rfl⟩:=Z;obtain⟨w,rfl⟩:=Y;exact SB.mul ok λ t' k=>⟨.str _,H,I.tok k,⟨t',rfl⟩,q⟩
theorem ac5 {a b:Str} (h:(if a=b then P else Q)=some d):(a=b/\P=some d)\/(a≠b/\Q=some d):=by
 by_cases z:a=b
 ·rw[if_pos z] at h;exact .inl ⟨z,h⟩
 ·rw[if_neg z] at h;exact .inr ⟨z,h⟩
theorem bq4 {st:Stmt}{c3 cW fI c0 c1 c2:Addr}{ad:FuncData}{body:List Stmt}{B:FX}{v:Expr}{j0 j1 j2 j3:Nat}{q0 q1 q2 q3 q4 q5 q6 q7 q8 q9 qa qb qc qd qe qf qg qh:Pos} (Z:XW56 X.K X.mg st c3 cW fI ad c0 c1 c2)
  (hb:Bdy X body B) (ae:X.stack=X.env::X.outer) (ag:X.env.frame=some X.env.locals) (hN:X.N.Nodup) (ac:X.N[6]?=some ("e":Str)) (lk:X.env.scope.names.lookup ("e":Str)=some .local)
  (g0:Gl X "NoCell") (g1:Gl X "Late") (g2:Gl X "NoComing") (g3:Gl X "NoPaper")
  (hv:∀ a dd vs,PE (q_9 (ad4 X a λ _ _=>False) a (rcd (.ref c0) vs dd)) v (λ σ H Q=>σ[6]?=some (some (.ref a)) ∧ XTr H dd ∧ Q (.str "nocell") H)) :
  PSs X [.Try body [.ExceptHandler (some (.Name "NoCell" q0)) (some "e") [.Return (some v) q1] q2,.ExceptHandler (some (.Name "Late" q3)) none [.Return (some (.Constant (.str "late") j0 q4)) q5] q6,
   .ExceptHandler (some (.Name "NoComing" q7)) none [.Return (some (.Constant (.str "nocoming") j1 q8)) q9] qa,.ExceptHandler (some (.Name "NoPaper" qb)) none [.Return (some (.Constant (.str "good") j2 qc)) qd] qe] [] [] qf,
   .Return (some (.Constant (.str "good") j3 qg)) qh]
   (λ Dn σ H=>∃ Hi He H0 ρ r d,RS X.K ⟨Hi,He,[]⟩ H0 H ρ σ/\B ρ=some r/\aT6 r=some d/\∀ v H0' H',Step Hi He H0' H'->Rep X.K H0' d v->Dn.rt v H'):=by
 intro pins s σ H Dn I h;obtain⟨Hi,He,H0,ρ,r,d,R,f,wd,q⟩:=h;refine Q1 (wpAny_Try_except (zv (hb.go pins s σ H H0 _ ρ r I R f) (λ fl s1 h=>?_) λ e s1 h=>?_))
 ·obtain⟨rfl,af,H0',H',rfl,I1,sm,R1⟩:=h;obtain rfl:D.str "good"=d:=qp wd;exact j4 (s_8 (au9 V_2) pins s1 σ H' Dn I1 (q _ H0' H' R1.step (F_5 _ _)))
 ·obtain⟨y,af,H1,rfl,sm,cm⟩:=h;refine by5 ae ag (λ C a dd H0' H' s' m ah R' xd hd=>?_) cm;obtain⟨T0,I',_⟩:=id hd;have fin:∀ w,d=.str w->∀ v O,(v=.str w/\O=H')->Dn.rt v O:=λ w ew v O aa=>by
   obtain⟨e1,e2⟩:=aa;rw[e1,e2];exact q _ H0' H' R'.step (by rw[ew];exact F_5 _ _)
  have cls:∀ {x:Str}{cx:Addr},y.1=x->X.mg x=some (.ref cx)->C=cx:=λ e1 e2=>by
   rw[e1,e2] at m;exact (Value.ref.inj (qp m)).symm
  have go:∀ {w:Str}{jj:Nat}{pa pb pc:Pos},d=.str w->codeAny (model X.prog X.w) (X.A.mark (some (.ref a))) (Code.handlers (.ref a) [.ExceptHandler none none [.Return (some (.Constant (.str w) jj pa)) pb] pc] X.env) (λ r Y=>match r with
    |.ok f=>match f with
     |.next=>wpAny (model X.prog X.w) X.A (execs [.Return (some (.Constant (.str "good") j3 qg)) qh] X.env) (SP X pins Dn) X.xe Y
     |f=>SP X pins Dn f Y
    |.error x=>cameBackBy (model X.prog X.w) X.A X.env X.xe x Y) s':=λ {w jj pa pb pc} ew =>
   ja (ba7 (Rt:=λ v O=>v=.str w/\O=H') I'.ok V_2 ⟨rfl,rfl⟩ hd) λ r s2 hr=>by
    cases r with
    |error x=>exact hr
    |ok f =>
     obtain⟨u,rfl,z⟩:=bg6 hr (λ v O z=>fin w ew v O z);exact z
  rcases ac5 wd with ⟨y0,wd⟩ | ⟨n0,wd⟩
  ·obtain rfl:=cls y0 Z.m_NoCell;cases wd;refine m_1 g0 Z.m_NoCell (by decide) Z.e00 hd ?_;rw[if_pos rfl];refine ja (by7 (Rt:=λ v O=>v=.str "nocell" ∧ O=H') (t:=λ a vs=>λ σ H Q=>σ[6]?=some (some (.ref a)) ∧ XTr H dd ∧ Q (.str "nocell") H) I'.ok hN ac lk (λ vs=>hv a dd vs) (λ vs=>⟨zr (by rw[I'.len];exact (List.getElem?_eq_some_iff.mp ac).1),xd.xt,rfl,rfl⟩) hd) λ r s2 hr=>?_;cases r with
   |error x=>exact hr
   |ok f=>exact zv hr (λ _ s3 z=>by
    obtain⟨u,rfl,z2⟩:=bg6 z (λ v O z=>fin _ rfl v O z);exact z2) λ _ _ z=>z
  ·rcases ac5 wd with ⟨y1,wd⟩ | ⟨n1,wd⟩
   ·obtain rfl:=cls y1 Z.m_Late;cases wd;refine m_1 g0 Z.m_NoCell (by decide) Z.e10 hd ?_;rw[if_neg zc];refine m_1 g1 Z.m_Late (by decide) Z.e11 hd ?_;rw[if_pos rfl];exact go rfl
   ·rcases ac5 wd with ⟨y2,wd⟩ | ⟨n2,wd⟩
    ·obtain rfl:=cls y2 Z.m_NoComing;cases wd;refine m_1 g0 Z.m_NoCell (by decide) Z.e20 hd ?_;rw[if_neg zc];refine m_1 g1 Z.m_Late (by decide) Z.e21 hd ?_;rw[if_neg zc];refine m_1 g2 Z.m_NoComing (by decide) Z.e22 hd ?_;rw[if_pos rfl];exact go rfl
    ·rcases ac5 wd with ⟨y3,wd⟩ | ⟨n3,wd⟩
     ·obtain rfl:=cls y3 Z.m0;cases wd;refine m_1 g0 Z.m_NoCell (by decide) Z.e30 hd ?_;rw[if_neg zc];refine m_1 g1 Z.m_Late (by decide) Z.e31 hd ?_;rw[if_neg zc];refine m_1 g2 Z.m_NoComing (by decide) Z.e32 hd ?_;rw[if_neg zc];refine m_1 g3 Z.m0 (by decide) Z.e33 hd ?_;rw[if_pos rfl];exact go rfl
     ·cases wd
end
end Fx
namespace Fx
open PySem
noncomputable section
abbrev kI6 (i:Nat) (k:Int):FE:=e2 b_5 (eV i) (zI k)
abbrev kS6 (s:Str):FE:=eC (.str s)
abbrev kC6 (k:Int):FE:=eC (.int k)
abbrev kN6 (x:FE):FT:=tB (e2 dIs x (eC .non))
abbrev kQ6 (x y:FE):FT:=tB (e2 dEq x y)
def be8:FS :=
 (b_7 (sIf (tOr (tNot (tV (eTy .str (eV 0)))) (tNot (tB (e3 dLe dLe (kC6 1) (eF s_4 (aC (eV 0) aN)) (kC6 8)))))
 (g_0 (eC (.bl false)))
 sN)
 (g_0 (eF cb3 (aC (eLC [] (eV 0) tYes (e2 aE9 (eV 0) (kS6 "abcdefghijklmnopqrstuvwxyz"))) aN))))
def v_6:List D->Option D:=fnD 1 0 be8
def I_0:FS :=
 (g_0 (e2 dEq (e2 aE9 (eV 1) (kI6 0 1)) (e2 dEq (kI6 0 0) (kS6 "only"))))
def e_8:List D->Option D:=fnD 2 0 I_0
def s_1:FS :=
 (b_7 (sIf (tAnd (kQ6 (kI6 0 0) (kS6 "but")) (kQ6 (kI6 1 0) (kS6 "but")))
 (g_0 aS6)
 sN)
 (b_7 (sIf (kQ6 (kI6 0 0) (kS6 "but"))
 (g_0 aS6)
 sN)
 (b_7 (d_5 2 (eF q_1 (aC (eLC [1] (kI6 0 1) (tV (eF e_8 (aC (eV 1) (aC (eV 0) aN)))) (eV 0)) aN)))
 (g_0 (eIf (tV (eV 2)) (c_0 (aC (kS6 "only") (aC (eV 2) aN))) (eC .non))))))
def j_3:List D->Option D:=fnD 2 1 s_1
def o_9:FS :=
 (b_7 (sIf (tAnd (kQ6 (kI6 0 0) (kS6 "but")) (kQ6 (kI6 1 0) (kS6 "but")))
 (g_0 (c_0 (aC (kS6 "but") (aC (eF q_1 (aC (eF cj1 (aC (kI6 0 1) (aC (kI6 1 1) aN))) aN)) aN))))
 sN)
 (b_7 (sIf (kQ6 (kI6 0 0) (kS6 "but"))
 (g_0 (eF j_3 (aC (eV 1) (aC (eV 0) aN))))
 sN)
 (b_7 (d_5 2 (eF q_1 (aC (eLC [1] (kI6 0 1) (tV (eF e_8 (aC (eV 1) (aC (eV 0) aN)))) (eV 0)) aN)))
 (g_0 (eIf (tV (eV 2)) (c_0 (aC (kS6 "only") (aC (eV 2) aN))) (eC .non))))))
def d_8:List D->Option D:=fnD 2 1 o_9
def ai1:FS :=
 (g_0 (e2 dEq (eF d_8 (aC (eV 0) (aC (eV 1) aN))) (eV 0)))
def J_2:List D->Option D:=fnD 2 0 ai1
abbrev ag4:FS :=
 (sDK 2 (eV 3) (eC (.bl true)))
def at3:FS :=
 (b_7 (sDN 2)
 (b_7 (bh4 (gN 3) (eV 1)
 ag4)
 (b_7 (sIf (kQ6 (kI6 0 0) (kS6 "only"))
 (b_7 (bE5 2 (d_5 4 (eLC [2] (kI6 0 1) (tB (e2 aC7 (eV 0) (eV 1))) (eV 0))))
 (g_0 (eF (aR2 (c_0 (aC (eF s_4 (aC (eV 0) aN)) (aC (eV 0) aN)))) (aC (eV 4) aN))))
 sN)
 sNo)))
def S_7:List D->Option D:=fnD 2 3 at3
def e_3:FS :=
 (b_7 (sIf (tNot (tB (e3 dLe dLt (kC6 0) (eV 3) (eV 2))))
 (g_0 (eC .non))
 sN)
 (b_7 (d_5 4 (eIf (kN6 (eV 0)) (eC .non) (e2 i_1 (eV 0) (e2 i_7 (e2 L_5 (eV 3) (eV 0)) (eV 2)))))
 (b_7 (d_5 5 (eIf (kN6 (eV 1)) (eC .non) (e2 L_5 (eV 1) (e2 i_7 (e2 L_5 (eV 1) (eV 3)) (eV 2)))))
 (b_7 (sIf (tOr (kN6 (eV 4)) (kN6 (eV 5)))
 (g_0 (c_0 (aC (eV 4) (aC (eV 5) (aC (eV 2) (aC (eV 3) aN))))))
 sN)
 (b_7 (sIf (tB (e2 dGt (eV 4) (eV 5)))
 (g_0 (eC .non))
 sN)
 (b_7 (sIf (kQ6 (eV 4) (eV 5))
 (g_0 (c_0 (aC (eV 4) (aC (eV 5) (aC (kC6 1) (aC (kC6 0) aN))))))
 sN)
 (g_0 (c_0 (aC (eV 4) (aC (eV 5) (aC (eV 2) (aC (eV 3) aN))))))))))))
def a_5:List D->Option D:=fnD 4 2 e_3
def Z_6:FS :=
 (g_0 (aL9 (eOr (e2 dIs (eV 1) (eC .non)) (e2 dLe (eV 1) (eV 0))) (eOr (e2 dIs (eV 2) (eC .non)) (e2 dLe (eV 0) (eV 2)))))
def p_6:List D->Option D:=fnD 3 0 Z_6
def S_5:FS :=
 (g_0 (aL9 (eF p_6 (aC (eV 1) (aC (kI6 0 0) (aC (kI6 0 1) aN)))) (e2 dEq (e2 i_7 (eV 1) (kI6 0 2)) (kI6 0 3))))
def y_5:List D->Option D:=fnD 2 0 S_5
def r_9:FS :=
 (b_7 (sIf (tOr (kN6 (eV 0)) (kN6 (eV 1)))
 (g_0 (eIf (kN6 (eV 0)) (eV 1) (eV 0)))
 sN)
 (g_0 (eF bi7 (aC (eV 0) (aC (eV 1) aN)))))
def h_9:List D->Option D:=fnD 2 0 r_9
def r_8:FS :=
 (b_7 (sIf (tOr (kN6 (eV 0)) (kN6 (eV 1)))
 (g_0 (eIf (kN6 (eV 0)) (eV 1) (eV 0)))
 sN)
 (g_0 (eF bw2 (aC (eV 0) (aC (eV 1) aN)))))
def e_9:List D->Option D:=fnD 2 0 r_8
def q_6:FS :=
 (g_0 (eF a_5 (aC (eF h_9 (aC (kI6 0 0) (aC (eV 1) aN))) (aC (eF e_9 (aC (kI6 0 1) (aC (eV 2) aN))) (aC (kI6 0 2) (aC (kI6 0 3) aN))))))
def f_3:List D->Option D:=fnD 3 0 q_6
def V_7:FS :=
 (g_0 (eF f_3 (aC (eV 0) (aC (e2 i_1 (eV 1) (kC6 1)) (aC (eC .non) aN)))))
def j_1:List D->Option D:=fnD 2 0 V_7
def V_1:FS :=
 (g_0 (eF f_3 (aC (eV 0) (aC (eC .non) (aC (e2 L_5 (eV 1) (kC6 1)) aN)))))
def i_3:List D->Option D:=fnD 2 0 V_1
def i_9:FS :=
 (b_7 (d_5 3 (eLC [2,1] (L_4 (eV 0) oN (oS (kC6 2))) tYes (eIf (kN6 (eV 0)) (eC .non) (e2 i_1 (e2 Y_1 (eV 2) (eV 0)) (eV 1)))))
 (b_7 (sIf (tB (e2 dLt (eV 1) (kC6 0)))
 (d_5 3 (s_3 (aC (kI6 3 1) (aC (kI6 3 0) aN))))
 sN)
 (b_7 (d_5 4 (e2 Y_1 (eF aO0 (aC (eV 1) aN)) (kI6 0 2)))
 (g_0 (eF a_5 (aC (kI6 3 0) (aC (kI6 3 1) (aC (eV 4) (aC (e2 i_7 (e2 i_1 (e2 Y_1 (eV 1) (kI6 0 3)) (eV 2)) (eV 4)) aN)))))))))
def d_7:List D->Option D:=fnD 3 2 i_9
abbrev l_7:FS :=
 (b_7 (d_5 6 (e2 aM8 (eV 2) (eV 4)))
 (b_7 (d_5 7 (e2 L_5 (eV 2) (e2 Y_1 (eV 6) (eV 4))))
 (b_7 (d_5 2 (eV 4))
 (b_7 (d_5 4 (eV 7))
 (b_7 (d_5 7 (e2 L_5 (eV 3) (e2 Y_1 (eV 6) (eV 5))))
 (b_7 (d_5 3 (eV 5))
 (d_5 5 (eV 7))))))))
abbrev l_6:FT :=
 (tB (e2 ag9 (eV 4) (kC6 0)))
def m_9:FS :=
 (b_7 (d_5 2 (e2 i_7 (eV 0) (eV 1)))
 (b_7 (d_5 3 (kC6 1))
 (b_7 (d_5 4 (eV 1))
 (b_7 (d_5 5 (kC6 0))
 (b_7 (ag8 (λ ρ=>match ρ[1]? with | some (Sl.im (D.int m))=>m.toNat+2 | _=>0) l_6
 l_7)
 (g_0 (c_0 (aC (eV 2) (aC (eV 3) aN)))))))))
def e_0:List D->Option D:=fnD 2 6 m_9
def d_6:FS :=
 (b_7 (sIf (kQ6 (eV 1) (kC6 0))
 (g_0 aS6)
 sN)
 (b_7 (d_5 3 (eF e_0 (aC (eV 1) (aC (kI6 0 2) aN))))
 (b_7 (d_5 4 (kI6 3 0))
 (b_7 (d_5 5 (e2 L_5 (kI6 0 3) (eV 2)))
 (b_7 (sIf (tB (e2 ag9 (e2 i_7 (eV 5) (eV 4)) (kC6 0)))
 (g_0 (eC .non))
 sN)
 (b_7 (d_5 6 (e2 aM8 (kI6 0 2) (eV 4)))
 (b_7 (d_5 7 (eIf (tB (e2 dGt (eV 1) (kC6 0))) (s_3 (aC (kI6 0 0) (aC (kI6 0 1) aN))) (s_3 (aC (kI6 0 1) (aC (kI6 0 0) aN)))))
 (b_7 (d_5 8 (eIf (kN6 (kI6 7 0)) (eC .non) (e1 aT1 (e2 aM8 (e2 L_5 (eV 2) (kI6 7 0)) (eV 1)))))
 (b_7 (d_5 9 (eIf (kN6 (kI6 7 1)) (eC .non) (e2 aM8 (e2 L_5 (kI6 7 1) (eV 2)) (eV 1))))
 (g_0 (eF a_5 (aC (eV 8) (aC (eV 9) (aC (eV 6) (aC (e2 i_7 (e2 Y_1 (e2 aM8 (eV 5) (eV 4)) (kI6 3 1)) (eV 6)) aN)))))))))))))))
def b_4:List D->Option D:=fnD 3 7 d_6
def q_4:FS :=
 (b_7 (d_5 2 (eF b_4 (aC (eV 1) (aC (kI6 0 2) (aC (kI6 0 3) aN)))))
 (b_7 (sIf (kN6 (eV 2))
 (g_0 (eC .non))
 sN)
 (g_0 (eF f_3 (aC (eF d_7 (aC (eV 2) (aC (kI6 0 2) (aC (kI6 0 3) aN)))) (aC (kI6 0 0) (aC (kI6 0 1) aN)))))))
def g_4:List D->Option D:=fnD 2 1 q_4
def O_2:FS :=
 (g_0 (e2 dEq (eF g_4 (aC (eV 0) (aC (eV 1) aN))) (eV 0)))
def A_7:List D->Option D:=fnD 2 0 O_2
def aQ8:FS :=
 (g_0 (eF (aR2 (c_0 (aC (eF aO0 (aC (eV 0) aN)) (aC (e1 aT1 (eV 0)) aN)))) (aC (eV 0) aN)))
def S_6:List D->Option D:=fnD 1 0 aQ8
def Y_7:FS :=
 (b_7 (d_5 1 (eF j_1 (aC (eV 0) (aC (e1 aT1 (kC6 1)) aN))))
 (b_7 (d_5 2 (eF i_3 (aC (eV 0) (aC (kC6 0) aN))))
 (b_7 (at5 3 (oIf (kN6 (eV 1)) (bh7 aN) (bh7 (aC (kI6 1 0) aN))))
 (b_7 (sIf (tB (e2 Y_2 (eV 2) (eC .non)))
 (an7 3 (kI6 2 1))
 sN)
 (an6 3 (g_0 (eF S_6 (aC (eV 3) aN))))))))
def F_3:List D->Option D:=fnD 1 3 Y_7
def o_2:FS :=
 (b_7 (sIf (tOr (kN6 (eV 0)) (kN6 (eV 3)))
 (g_0 (eC .non))
 sN)
 (b_7 (d_5 1 (eF bi7 (aC (eV 1) (aC (kC6 0) aN))))
 (b_7 (sIf (tAnd (tB (e2 Y_2 (eV 2) (eC .non))) (tB (e2 dLe (eV 2) (eV 1))))
 (g_0 (eC .non))
 sN)
 (g_0 (c_0 (aC (eV 0) (aC (eV 1) (aC (eV 2) (aC (eV 3) aN)))))))))
def a_9:List D->Option D:=fnD 4 0 o_2
def E_0:FS :=
 (b_7 (d_5 2 (kI6 1 0))
 (b_7 (sIf (tOr (tB (e2 dLt (eV 2) (kI6 0 1))) (tAnd (tB (e2 Y_2 (kI6 0 2) (eC .non))) (tB (e2 dGe (eV 2) (kI6 0 2)))))
 (g_0 (eC (.bl false)))
 sN)
 (g_0 (aL9 (eF e_8 (aC (kI6 0 0) (aC (kI6 1 1) aN))) (eF y_5 (aC (kI6 0 3) (aC (kI6 1 2) aN)))))))
def l_1:List D->Option D:=fnD 2 1 E_0
def M_2:FS :=
 (b_7 (d_5 2 (eF d_8 (aC (kI6 0 0) (aC (kI6 1 0) aN))))
 (b_7 (d_5 3 (eF g_4 (aC (kI6 0 3) (aC (kI6 1 3) aN))))
 (g_0 (eF a_9 (aC (eV 2) (aC (eF bi7 (aC (kI6 0 1) (aC (kI6 1 1) aN))) (aC (eF e_9 (aC (kI6 0 2) (aC (kI6 1 2) aN))) (aC (eV 3) aN))))))))
def f_5:List D->Option D:=fnD 2 2 M_2
def aq1:FS :=
 (b_7 (sIf (tOr (tB (e2 dLt (kI6 0 1) (kI6 1 1))) (tB (e2 ag9 (eF e_9 (aC (kI6 0 2) (aC (kI6 1 2) aN))) (kI6 0 2))))
 (g_0 (eC (.bl false)))
 sN)
 (g_0 (aL9 (eF J_2 (aC (kI6 0 0) (aC (kI6 1 0) aN))) (eF A_7 (aC (kI6 0 3) (aC (kI6 1 3) aN))))))
def D_1:List D->Option D:=fnD 2 0 aq1
def U_7:FS :=
 (g_0 (eF a_9 (aC (c_0 (aC (kS6 "only") (aC (c_0 (aC (kI6 0 1) aN)) aN))) (aC (kI6 0 0) (aC (e2 i_1 (kI6 0 0) (kC6 1)) (aC (eF a_5 (aC (kI6 0 2) (aC (kI6 0 2) (aC (kC6 1) (aC (kC6 0) aN))))) aN))))))
def u_1:List D->Option D:=fnD 1 0 U_7
def aG5:FS :=
 (g_0 (c_0 (aC (kI6 0 1) (aC (eF S_7 (aC (kI6 0 0) (aC (s_3 aN) aN))) (aC (eF F_3 (aC (kI6 0 3) aN)) aN)))))
def s_2:List D->Option D:=fnD 1 0 aG5
def v_2:FS :=
 (b_7 (sIf (kN6 (eV 1))
 (g_0 (s_3 aN))
 sN)
 (b_7 (d_5 2 (eLC [1] (eV 0) tYes (eF f_5 (aC (eV 0) (aC (eV 1) aN)))))
 (g_0 (eLC [] (eV 2) (tB (e2 Y_2 (eV 0) (eC .non))) (eV 0)))))
def b_9:List D->Option D:=fnD 2 1 v_2
abbrev j_4:FS :=
 (sIf (kQ6 (kI6 2 1) (eV 1))
 (g_0 (eV 2))
 sN)
def H_8:FS :=
 (b_7 (bh4 (gN 2) (eV 0)
 j_4)
 (g_0 (eC .non)))
def h_8:List D->Option D:=fnD 2 1 H_8
abbrev Y_3:FS :=
 (sDK 2 (eV 4) (eC (.bl true)))
abbrev l_3:FS :=
 (sIf (aJ3 2 (tB (e2 bE6 (kI6 3 1) (eV 2))))
 (bh4 (gN 4) (kI6 3 2)
 Y_3)
 sN)
def N_0:FS :=
 (b_7 (sD1 2 (eV 1) (eC (.bl true)))
 (b_7 (bh4 (gN 3) (e1 ci8 (eV 0))
 l_3)
 (bE5 2 (g_0 (eLC [2] (eV 0) (tB (e2 bE6 (kI6 0 1) (eV 1))) (kI6 0 1))))))
def r_1:List D->Option D:=fnD 2 3 N_0
def F_9:FS :=
 (b_7 (d_5 2 (eF r_1 (aC (eV 0) (aC (eV 1) aN))))
 (g_0 (eLC [2] (eV 0) (tAnd (tB (e2 aE9 (kI6 0 0) (eC (.tup [(.str "in"),(.str "time"),(.str "only"),(.str "but"),(.str "span"),(.str "rest"),(.str "turn"),(.str "later"),(.str "put"),(.str "pour")])))) (tB (e2 aE9 (kI6 0 1) (eV 1)))) (eV 0))))
def f_1:List D->Option D:=fnD 2 1 F_9
def aG3:FS :=
 (g_0 (aL9 (eTy .int (eV 0)) (cp0 (eTy .bool (eV 0)))))
def p_8:List D->Option D:=fnD 1 0 aG3
def aQ9:FS :=
 (g_0 (aL9 (eF p_8 (aC (eV 0) aN)) (e2 dGe (eV 0) (kC6 0))))
def J_4:List D->Option D:=fnD 1 0 aQ9
def ai2:FS :=
 (b_7 (sIf (tOr (tNot (tV (eF J_4 (aC (kI6 1 0) aN)))) (tOr (tNot (tV (eF v_6 (aC (kI6 1 1) aN)))) (tNot (tV (eF p_8 (aC (kI6 1 2) aN))))))
 (g_0 (eC (.bl false)))
 sN)
 (g_0 (eF p_6 (aC (kI6 1 2) (aC (e2 b_5 (kI6 0 3) (kC6 0)) (aC (e2 b_5 (kI6 0 3) (kC6 1)) aN))))))
def z_7:List D->Option D:=fnD 2 0 ai2
def at6:FS :=
 (b_7 (sIf (tOr (tNot (tV (eTy .tuple (eV 1)))) (tB (e2 dLt (eF s_4 (aC (eV 1) aN)) (kC6 2))))
 (g_0 (eC (.bl false)))
 sN)
 (b_7 (d_5 2 (eF h_8 (aC (eV 0) (aC (kI6 1 1) aN))))
 (b_7 (sIf (tOr (kN6 (eV 2)) (tB (e2 ag9 (kI6 2 0) (kS6 "in"))))
 (g_0 (eC (.bl false)))
 sN)
 (b_7 (sIf (kQ6 (kI6 1 0) (kS6 "thing"))
 (g_0 (aL9 (e2 dEq (eF s_4 (aC (eV 1) aN)) (kC6 5)) (eF z_7 (aC (eV 2) (aC (L_4 (eV 1) (oS (kC6 2)) oN) aN)))))
 sN)
 (b_7 (sIf (kQ6 (kI6 1 0) (kS6 "mark"))
 (g_0 (aL9 (e2 dEq (eF s_4 (aC (eV 1) aN)) (kC6 3)) (eF J_4 (aC (kI6 1 2) aN))))
 sN)
 (g_0 (aL9 (e2 dEq (kI6 1 0) (kS6 "close")) (e2 dEq (eF s_4 (aC (eV 1) aN)) (kC6 2)))))))))
def G_8:List D->Option D:=fnD 2 1 at6
abbrev T_6:FS :=
 (sIf (kQ6 (kI6 2 0) (kS6 "in"))
 (sDK 1 (kI6 2 1) (kC6 0))
 sN)
def ai7:En->Option MO :=
 (by3 (sDN 1)
 (by3 (bh4 (gN 2) (eV 0)
 T_6)
 (ao0 1)))
def n_9:List D->Option MO:=fnN 1 2 ai7
def Z_5:FX :=
 (bF5 (rIf (tNot (tV (eF G_8 (aC (eV 0) (aC (eV 2) aN)))))
 (ab3 (Str.ofString "NoComing"))
 (rS sN))
 (bF5 (rS (d_5 3 (e2 dDx (eV 1) (kI6 2 1))))
 (bF5 (rIf (kN6 (eV 3))
 (ab3 (Str.ofString "Late"))
 (rS sN))
 (rIf (tAnd (tB (e2 ag9 (kI6 2 0) (kS6 "close"))) (tB (e2 dLt (kI6 2 2) (eV 3))))
 (ab3 (Str.ofString "Late"))
 (rS sN)))))
def h_5:List D->Option (D ⊕ XV):=fnX 3 1 Z_5
def be7:En->Option MO :=
 (by3 (sDC 2 (eV 0))
 (by3 (sIf (kQ6 (kI6 1 0) (kS6 "mark"))
 (sDK 2 (kI6 1 1) (kI6 1 2))
 sN)
 (by3 (sIf (kQ6 (kI6 1 0) (kS6 "close"))
 (sDK 2 (kI6 1 1) (eC .non))
 sN)
 (ao0 2))))
def J_1:List D->Option MO:=fnN 2 1 be7
abbrev a_7:FX :=
 (bF5 (E_7 h_5 (aC (eV 0) (aC (eV 2) (aC (eV 3) aN))))
 (rS (d_5 2 (eNF J_1 (aC (eV 2) (aC (eV 3) aN))))))
def F_8:FX :=
 (bF5 (rS (d_5 2 (eNF n_9 (aC (eV 0) aN))))
 (bF5 (ce4 (gN 3) (eV 1)
 a_7)
 (rS (g_0 (eV 2)))))
def b_8:List D->Option (D ⊕ XV):=fnX 2 2 F_8
def U_6:FS :=
 (b_7 (sIf (kQ6 (kI6 0 0) (kS6 "in"))
 (g_0 (eLC [0] (eV 2) (tAnd (kQ6 (kI6 0 0) (kS6 "thing")) (kQ6 (kI6 0 1) (kI6 1 1))) (L_4 (eV 0) (oS (kC6 2)) oN)))
 sN)
 (g_0 aS6))
def t_8:List D->Option D:=fnD 3 0 U_6
abbrev h_3:FS :=
 (sIf (tB (e2 aE9 (kI6 3 0) (eC (.tup [(.str "in"),(.str "time"),(.str "only"),(.str "but"),(.str "span"),(.str "rest"),(.str "turn"),(.str "later"),(.str "put"),(.str "pour")]))))
 (sDK 2 (kI6 3 1) (bc4 2 (eF W_2 (aC (eF t_8 (aC (eV 3) (aC (eV 2) (aC (eV 1) aN)))) aN))))
 sN)
def G_1:En->Option MO :=
 (by3 (sDN 2)
 (by3 (bh4 (gN 3) (eV 0)
 h_3)
 (ao0 2)))
def f_2:List D->Option MO:=fnN 2 2 G_1
def v_4:FS :=
 (b_7 (sIf (kQ6 (eV 0) (kS6 "count"))
 (g_0 (eF s_4 (aC (eV 1) aN)))
 sN)
 (b_7 (sIf (kQ6 (eV 0) (kS6 "sum"))
 (g_0 (eF cb0 (aC (eV 1) aN)))
 sN)
 (g_0 (eIf (kQ6 (eV 0) (kS6 "most")) (eF bi7 (aC (eV 1) aN)) (eF bw2 (aC (eV 1) aN))))))
def e_6:List D->Option D:=fnD 2 0 v_4
def r_5:List D->Option D:=bt9
abbrev k_4:FS :=
 (b_7 (d_5 4 (eF e_6 (aC (e2 b_5 (kI6 0 3) (e1 aT1 (kC6 1))) (aC (eLC [] (eV 3) tYes (kI6 0 2)) aN))))
 (an7 2 (c_0 (aC (c_0 (aC (e2 b_5 (kI6 3 0) (kC6 1)) (aC (e2 b_5 (kI6 3 0) (kC6 0)) aN))) (aC (c_0 (aC (e2 b_5 (e2 b_5 (eV 3) (e1 aT1 (kC6 1))) (kC6 0)) (aC (eV 4) aN))) aN)))))
def D_3:FS :=
 (b_7 (at5 2 (bh7 aN))
 (b_7 (bh4 (gN 3) (eF r_5 (aC (e2 b_5 (kI6 0 3) (kC6 0)) (aC (eV 1) aN)))
 k_4)
 (an6 2 (g_0 (eV 2)))))
def j_2:List D->Option D:=fnD 2 3 D_3
def N_1:FS :=
 (g_0 (eF W_2 (aC (eIf (kQ6 (kI6 0 0) (kS6 "gaps")) (eF j_2 (aC (eV 0) (aC (eV 1) aN))) aS6) aN)))
def j_5:List D->Option D:=fnD 2 0 N_1
def ai0:FS :=
 (b_7 (sIf (tOr (kN6 (eV 1)) (tOr (tNot (tV (kI6 0 3))) (tV (eF p_6 (aC (eV 1) (aC (e2 b_5 (kI6 0 3) (kC6 0)) (aC (e2 b_5 (kI6 0 3) (kC6 1)) aN)))))))
 (g_0 (eV 1))
 sN)
 (g_0 (eC .non)))
def z_6:List D->Option D:=fnD 2 0 ai0
def W_1:FS :=
 (g_0 (eF a_9 (aC (c_0 (aC (kS6 "only") (aC (c_0 (aC (eV 0) aN)) aN))) (aC (eV 1) (aC (eV 2) (aC (eC (.tup [.non,.non,(.int 1),(.int 0)])) aN))))))
def e_7:List D->Option D:=fnD 3 0 W_1
def v_7:FS :=
 (b_7 (d_5 3 (kI6 0 3))
 (b_7 (sIf (kQ6 (kI6 0 0) (kS6 "fixed"))
 (g_0 (eF e_7 (aC (eV 1) (aC (e2 Y_1 (eV 2) (kI6 3 0)) (aC (e2 Y_1 (e2 i_1 (eV 2) (kC6 1)) (kI6 3 0)) aN)))))
 sN)
 (b_7 (sIf (kQ6 (kI6 0 0) (kS6 "slide"))
 (g_0 (eF e_7 (aC (eV 1) (aC (e2 Y_1 (eV 2) (kI6 3 1)) (aC (e2 i_1 (e2 Y_1 (eV 2) (kI6 3 1)) (kI6 3 0)) aN)))))
 sN)
 (g_0 (eF e_7 (aC (eV 1) (aC (kC6 0) (aC (eC .non) aN))))))))
def e_2:List D->Option D:=fnD 3 1 v_7
def o_4:FS :=
 (b_7 (sIf (tOr (tNot (tV (eF v_6 (aC (eV 1) aN)))) (tNot (tV (eF p_8 (aC (eV 2) aN)))))
 (g_0 (eC (.bl false)))
 sN)
 (b_7 (sIf (kQ6 (kI6 0 0) (kS6 "ever"))
 (g_0 (e2 dEq (eV 2) (kC6 0)))
 sN)
 (b_7 (sIf (kQ6 (kI6 0 0) (kS6 "gaps"))
 (g_0 (e2 dGe (eV 2) (kC6 0)))
 sN)
 (g_0 (e2 Y_2 (eF e_2 (aC (eV 0) (aC (eV 1) (aC (eV 2) aN)))) (eC .non))))))
def c_9:List D->Option D:=fnD 3 0 o_4
def D_6:FX :=
 (bF5 (rS (d_5 4 (eF h_8 (aC (eV 0) (aC (eV 1) aN)))))
 (rIf (tOr (kN6 (eV 4)) (tOr (tB (e2 ag9 (kI6 4 0) (kS6 "ask"))) (tNot (tV (eF c_9 (aC (eF h_8 (aC (eV 0) (aC (e2 b_5 (kI6 4 2) (kC6 0)) aN))) (aC (eV 2) (aC (eV 3) aN))))))))
 (ab3 (Str.ofString "NoCell"))
 (rS sN)))
def a_1:List D->Option (D ⊕ XV):=fnX 4 1 D_6
def H_1:FS :=
 (b_7 (sIf (kN6 (eV 0))
 (g_0 (s_3 aN))
 sN)
 (g_0 (eLC [0] (eV 1) (tV (eF l_1 (aC (eV 1) (aC (eV 0) aN)))) (eV 0))))
def i_2:List D->Option D:=fnD 2 0 H_1
def H_2:FS :=
 (b_7 (d_5 3 (eLC [] (eF i_2 (aC (eV 1) (aC (eV 2) aN))) tYes (kI6 0 2)))
 (g_0 (eIf (tV (eV 3)) (eF e_6 (aC (e2 b_5 (kI6 0 3) (e1 aT1 (kC6 1))) (aC (eV 3) aN))) (eC .non))))
def u_4:List D->Option D:=fnD 3 1 H_2
def U_5:FS :=
 (b_7 (sIf (kN6 (eV 1))
 (g_0 (eV 2))
 sN)
 (g_0 (eIf (kQ6 (eV 0) (kS6 "most")) (eF j_1 (aC (eV 2) (aC (eV 1) aN))) (eF i_3 (aC (eV 2) (aC (eV 1) aN))))))
def t_7:List D->Option D:=fnD 3 0 U_5
def O_1:FS :=
 (b_7 (d_5 4 (co9 (kI6 0 3) (c_0 (aC (eC .non) (aC (eC .non) aN)))))
 (b_7 (sIf (kQ6 (eV 1) (kS6 "count"))
 (b_7 (d_5 6 (aL9 (e2 Y_2 (eV 2) (eC .non)) (aL9 (e2 Y_2 (kI6 4 1) (eC .non)) (e2 dGt (eV 2) (kI6 4 1)))))
 (g_0 (eIf (tV (eV 6)) (s_3 aN) (s_3 (aC (eV 3) aN)))))
 sN)
 (b_7 (sIf (tAnd (kQ6 (eV 1) (kS6 "sum")) (kN6 (eV 2)))
 (g_0 (s_3 (aC (eV 3) aN)))
 sN)
 (b_7 (sIf (kQ6 (eV 1) (kS6 "sum"))
 (b_7 (d_5 7 (s_3 (aC (eF j_1 (aC (eV 3) (aC (kC6 0) aN))) (aC (eF i_3 (aC (eV 3) (aC (kC6 0) aN))) aN))))
 (g_0 (eLC [] (eV 7) (tB (e2 Y_2 (eV 0) (eC .non))) (eV 0))))
 sN)
 (b_7 (d_5 5 (eF t_7 (aC (eV 1) (aC (eV 2) (aC (eV 3) aN)))))
 (b_7 (sIf (tAnd (tB (e2 Y_2 (eV 5) (eC .non))) (kN6 (eF z_6 (aC (eV 0) (aC (eV 2) aN)))))
 (d_5 5 (eF f_3 (aC (eV 5) (aC (kI6 4 0) (aC (kI6 4 1) aN)))))
 sN)
 (g_0 (eIf (kN6 (eV 5)) (s_3 aN) (s_3 (aC (eV 5) aN))))))))))
def b_1:List D->Option D:=fnD 4 4 O_1
abbrev f_9:FS :=
 (an7 4 (eF a_9 (aC (kI6 5 0) (aC (kI6 5 1) (aC (kI6 5 2) (aC (eV 6) aN))))))
abbrev k_3:FS :=
 (bh4 (gN 6) (eF b_1 (aC (eV 0) (aC (eV 1) (aC (eV 2) (aC (kI6 5 3) aN)))))
 f_9)
def u_8:FS :=
 (b_7 (at5 4 (bh7 aN))
 (b_7 (bh4 (gN 5) (eV 3)
 k_3)
 (an6 4 (g_0 (eV 4)))))
def d_1:List D->Option D:=fnD 4 3 u_8
def A_8:FS :=
 (g_0 (eF d_1 (aC (eV 0) (aC (e2 b_5 (kI6 1 3) (e1 aT1 (kC6 1))) (aC (eF u_4 (aC (eV 1) (aC (eV 2) (aC (eV 3) aN)))) (aC (eF b_9 (aC (eV 4) (aC (eV 2) aN))) aN))))))
def h_0:List D->Option D:=fnD 5 0 A_8
def k_5:FS :=
 (b_7 (d_5 6 (e2 b_5 (kI6 1 3) (kC6 0)))
 (b_7 (d_5 7 (eF e_7 (aC (eV 2) (aC (e2 i_1 (e2 L_5 (eV 3) (eV 6)) (kC6 1)) (aC (eV 3) aN)))))
 (b_7 (d_5 8 (e2 ap3 (eF j_5 (aC (eV 1) (aC (eV 4) aN))) (c_0 (aC (eV 2) (aC (eV 3) aN)))))
 (b_7 (sIf (kN6 (eV 8))
 (g_0 (eIf (tV (eF i_2 (aC (eV 7) (aC (eV 4) aN)))) (s_3 aN) (eF b_9 (aC (eV 5) (aC (eF e_7 (aC (eV 2) (aC (eV 3) (aC (e2 i_1 (eV 3) (kC6 1)) aN)))) aN)))))
 sN)
 (b_7 (d_5 9 (kI6 8 0))
 (b_7 (d_5 10 (eF b_9 (aC (eV 5) (aC (eF e_7 (aC (eV 2) (aC (eV 3) (aC (e2 i_1 (eV 9) (kC6 1)) aN)))) aN))))
 (b_7 (d_5 11 (eF d_1 (aC (eV 0) (aC (e2 b_5 (kI6 1 3) (e1 aT1 (kC6 1))) (aC (kI6 8 1) (aC (eV 10) aN))))))
 (g_0 (e2 i_1 (e2 i_1 (eV 11) (eF b_9 (aC (eV 5) (aC (eV 7) aN)))) (eF b_9 (aC (eV 5) (aC (eF e_7 (aC (eV 2) (aC (e2 i_1 (eV 9) (kC6 1)) (aC (e2 i_1 (eV 9) (eV 6)) aN)))) aN))))))))))))
def e_4:List D->Option D:=fnD 6 6 k_5
def u_9:FS :=
 (b_7 (sIf (kQ6 (kI6 1 0) (kS6 "gaps"))
 (g_0 (eF e_4 (aC (eV 0) (aC (eV 1) (aC (eV 2) (aC (eV 3) (aC (eV 4) (aC (eV 5) aN))))))))
 sN)
 (g_0 (eF h_0 (aC (eV 0) (aC (eV 1) (aC (eF e_2 (aC (eV 1) (aC (eV 2) (aC (eV 3) aN)))) (aC (eV 4) (aC (eV 5) aN))))))))
def b_6:List D->Option D:=fnD 6 0 u_9
def at7:FS :=
 (b_7 (d_5 2 (eF h_8 (aC (eV 0) (aC (eV 1) aN))))
 (b_7 (d_5 3 (eF h_8 (aC (eV 0) (aC (e2 b_5 (kI6 2 2) (kC6 0)) aN))))
 (g_0 (c_0 (aC (eV 2) (aC (eV 3) (aC (eF h_8 (aC (eV 0) (aC (e2 b_5 (kI6 3 2) (kC6 0)) aN))) aN)))))))
def e_5:List D->Option D:=fnD 2 2 at7
def aQ7:FS :=
 (b_7 (sIf (kQ6 (kI6 0 0) (kS6 "pair"))
 (g_0 aS6)
 sN)
 (g_0 (e2 dDx (eV 1) (kI6 0 1))))
def r_2:List D->Option D:=fnD 2 0 aQ7
def D_7:FX :=
 (bF5 (E_7 a_1 (aC (eV 0) (aC (eV 1) (aC (eV 2) (aC (eV 3) aN)))))
 (bF5 (rS (d_5 6 (eF e_5 (aC (eV 0) (aC (eV 1) aN)))))
 (bF5 (rS (sIf (kQ6 (e2 b_5 (kI6 6 2) (kC6 0)) (kS6 "pair"))
 sNo
 (d_5 8 (eF b_6 (aC (kI6 6 0) (aC (kI6 6 1) (aC (eV 2) (aC (eV 3) (aC (eV 4) (aC (eV 5) aN))))))))))
 (rS (g_0 (e2 dGt (eF s_4 (aC (eV 8) aN)) (kC6 0)))))))
def d_9:List D->Option (D ⊕ XV):=fnX 6 3 D_7
def J_9:FS :=
 (b_7 (d_5 6 (e2 b_5 (eF e_5 (aC (eV 0) (aC (eV 2) aN))) (kC6 2)))
 (b_7 (d_5 7 (eF r_2 (aC (eV 6) (aC (eNF f_2 (aC (eV 0) (aC (eV 1) aN))) aN))))
 (g_0 (eFX d_9 (aC (eV 0) (aC (eV 2) (aC (eV 3) (aC (eV 4) (aC (eV 7) (aC (eF r_2 (aC (eV 6) (aC (eV 5) aN))) aN))))))))))
def g_1:List D->Option D:=fnD 6 2 J_9
def am3:FS :=
 (g_0 (eF a_9 (aC (eC (.tup [(.str "but"),(.tup [])])) (aC (eV 1) (aC (eC .non) (aC (eF a_5 (aC (e2 b_5 (kI6 0 3) (kC6 0)) (aC (e2 b_5 (kI6 0 3) (kC6 1)) (aC (kC6 1) (aC (kC6 0) aN))))) aN))))))
def p_7:List D->Option D:=fnD 2 0 am3
def aG4:FS :=
 (b_7 (d_5 2 (e2 dDx (eV 1) (kI6 0 1)))
 (g_0 (eIf (kN6 (eV 2)) (s_3 aN) (s_3 (aC (eF p_7 (aC (eV 0) (aC (eV 2) aN))) aN)))))
def r_7:List D->Option D:=fnD 2 1 aG4
abbrev T_4:FS :=
 (sIf (kQ6 (kI6 3 0) (kS6 "in"))
 (sDK 2 (kI6 3 1) (eF r_7 (aC (eV 3) (aC (eV 1) aN))))
 (sIf (tB (e2 aE9 (kI6 3 0) (eC (.tup [(.str "in"),(.str "time"),(.str "only"),(.str "but"),(.str "span"),(.str "rest"),(.str "turn"),(.str "later"),(.str "put"),(.str "pour")]))))
 sNo
 sN))
def ai6:En->Option MO :=
 (by3 (sDN 2)
 (by3 (bh4 (gN 3) (eV 0)
 T_4)
 (ao0 2)))
def k_1:List D->Option MO:=fnN 2 2 ai6
def ap8:FS :=
 (g_0 (eF cq1 (aC (eLC [0] (eV 1) tYes (eF D_1 (aC (eV 1) (aC (eV 0) aN)))) aN)))
def C_7:List D->Option D:=fnD 2 0 ap8
def Z_3:FS :=
 (b_7 (sIf (tB (e2 aC7 (kI6 0 1) (eV 2)))
 (g_0 (eC (.bl false)))
 sN)
 (b_7 (d_5 3 (eIf (kQ6 (kI6 0 0) (kS6 "in")) (eF r_7 (aC (eV 0) (aC (eV 1) aN))) aS6))
 (g_0 (eF cb3 (aC (eLC [2,0] (eV 3) tYes (eF C_7 (aC (eV 0) (aC (e2 dDx (eV 1) (kI6 2 1)) aN)))) aN)))))
def q_2:List D->Option D:=fnD 3 1 Z_3
abbrev o_3:FS :=
 (sIf (tNot (tV (eF q_2 (aC (eV 7) (aC (eV 6) (aC (eV 5) aN))))))
 sNo
 sN)
def o_6:FX :=
 (bF5 (ar2 6 b_8 (aC (eV 0) (aC (eV 1) aN)))
 (bF5 (E_7 a_1 (aC (eV 0) (aC (eV 2) (aC (eV 3) (aC (eV 4) aN)))))
 (bF5 (rS (bh4 (gN 7) (eF f_1 (aC (eV 0) (aC (eV 2) aN)))
 o_3))
 (rIf (tV (eF g_1 (aC (eV 0) (aC (eV 1) (aC (eV 2) (aC (eV 3) (aC (eV 4) (aC (eV 5) aN))))))))
 (N_6 (Str.ofString "NoPaper") (Str.ofString "name") (eV 2))
 (rS sN)))))
def c_4:List D->Option (D ⊕ XV):=fnX 6 2 o_6
abbrev p_9:FS :=
 (sDK 7 (kI6 8 1) (e2 dDx (eV 6) (kI6 8 1)))
def j_6:FX :=
 (bF5 (ar2 5 b_8 (aC (eV 0) (aC (eV 1) aN)))
 (bF5 (E_7 a_1 (aC (eV 0) (aC (eV 2) (aC (eV 3) (aC (eV 4) aN)))))
 (bF5 (rS (d_5 6 (eNF k_1 (aC (eV 0) (aC (eV 5) aN)))))
 (bF5 (rS (sIf (tV (eF g_1 (aC (eV 0) (aC (eV 1) (aC (eV 2) (aC (eV 3) (aC (eV 4) (aC (eV 6) aN))))))))
 (g_0 (eC .non))
 sN))
 (bF5 (rS (sDN 7))
 (bF5 (rS (bh4 (gN 8) (eF f_1 (aC (eV 0) (aC (eV 2) aN)))
 p_9))
 (rS (bE5 7 (g_0 (eV 7))))))))))
def c_3:List D->Option (D ⊕ XV):=fnX 5 4 j_6
def f_8:FS :=
 (b_7 (sIf (kN6 (eV 2))
 (g_0 (s_3 aN))
 sN)
 (b_7 (d_5 3 (eF h_8 (aC (eV 0) (aC (eV 1) aN))))
 (b_7 (sIf (kQ6 (kI6 3 0) (kS6 "in"))
 (b_7 (d_5 7 (eF f_5 (aC (eF p_7 (aC (eV 3) (aC (kC6 0) aN))) (aC (eV 2) aN))))
 (g_0 (eIf (kN6 (eV 7)) (s_3 aN) (s_3 (aC (c_0 (aC (eV 1) (aC (eV 7) aN))) aN)))))
 sN)
 sNo)))
def a_8:List D->Option D:=fnD 3 5 f_8
abbrev u_5:FS :=
 (b_7 (d_5 6 (eF b_9 (aC (eF r_7 (aC (eF h_8 (aC (eV 0) (aC (eV 4) aN))) (aC (eV 1) aN))) (aC (eV 5) aN))))
 (sIf (tV (eV 6))
 (g_0 (e2 bA4 (c_0 (aC (kS6 "thing") (aC (eV 4) aN))) (eF s_2 (aC (kI6 6 0) aN))))
 sN))
def K_0:FS :=
 (b_7 (bh4 (gT [4,5]) (eF a_8 (aC (eV 0) (aC (eV 2) (aC (eF u_1 (aC (eV 3) aN)) aN))))
 u_5)
 (g_0 (eC .non)))
def o_1:List D->Option D:=fnD 4 3 K_0
def C_2:FS :=
 (g_0 (eF a_8 (aC (eV 0) (aC (eV 1) (aC (eF a_9 (aC (eC (.tup [(.str "but"),(.tup [])])) (aC (kC6 0) (aC (eC .non) (aC (eC (.tup [.non,.non,(.int 1),(.int 0)])) aN))))) aN)))))
def h_4:List D->Option D:=fnD 2 0 C_2
def Z_4:FS :=
 (b_7 (sIf (tOr (tB (e2 ag9 (e2 b_5 (kI6 1 3) (e1 aT1 (kC6 1))) (kS6 "count"))) (tNot (tV (kI6 0 3))))
 (g_0 (kC6 1))
 sN)
 (g_0 aS6))
def q_3:List D->Option D:=fnD 5 0 Z_4
def v_1:FS :=
 (b_7 (d_5 7 (eF b_6 (aC (kI6 2 0) (aC (kI6 2 1) (aC (eV 3) (aC (eV 4) (aC (eV 5) (aC (eV 6) aN))))))))
 (b_7 (sIf (tNot (tV (eV 7)))
 (g_0 (s_3 aN))
 sN)
 (b_7 (d_5 8 (eF o_1 (aC (eV 0) (aC (eV 1) (aC (e2 b_5 (kI6 2 2) (kC6 1)) (aC (eF s_2 (aC (kI6 7 0) aN)) aN))))))
 (g_0 (eFr (cg6 (aC (eV 8) aN) (eF q_3 (aC (kI6 2 0) (aC (kI6 2 1) (aC (eV 3) (aC (eV 4) (aC (eV 5) aN))))))))))))
def f_4:List D->Option D:=fnD 7 2 v_1
def m_6:FX :=
 (bF5 (ar2 5 b_8 (aC (eV 0) (aC (eV 1) aN)))
 (bF5 (E_7 a_1 (aC (eV 0) (aC (eV 2) (aC (eV 3) (aC (eV 4) aN)))))
 (bF5 (rS (d_5 6 (eF e_5 (aC (eV 0) (aC (eV 2) aN)))))
 (bF5 (rS (d_5 7 (eF r_2 (aC (kI6 6 2) (aC (eNF f_2 (aC (eV 0) (aC (eV 1) aN))) aN)))))
 (bF5 (rS (d_5 8 (eF r_2 (aC (kI6 6 2) (aC (eNF k_1 (aC (eV 0) (aC (eV 5) aN))) aN)))))
 (bF5 (rS (sIf (kQ6 (e2 b_5 (kI6 6 2) (kC6 0)) (kS6 "pair"))
 sNo
 (d_5 9 (eF f_4 (aC (eV 0) (aC (eV 5) (aC (eV 6) (aC (eV 3) (aC (eV 4) (aC (eV 7) (aC (eV 8) aN)))))))))))
 (rS (g_0 (eIf (tV (eV 9)) (eV 9) (eC .non))))))))))
def c_8:List D->Option (D ⊕ XV):=fnX 5 5 m_6
abbrev as2:FS :=
 (b_7 (d_5 6 (e2 L_5 (kI6 5 1) (e2 b_5 (kI6 4 1) (kC6 1))))
 (b_7 (d_5 7 (e2 dDx (eV 1) (kI6 4 0)))
 (b_7 (d_5 8 (eIf (kN6 (eV 7)) (eC .non) (eF a_9 (aC (kI6 5 0) (aC (eF bi7 (aC (kI6 5 1) (aC (e2 i_1 (eV 7) (eV 6)) aN))) (aC (kI6 5 2) (aC (kI6 5 3) aN)))))))
 (sIf (tB (e2 Y_2 (eV 8) (eC .non)))
 (an7 3 (c_0 (aC (eV 8) (aC (c_0 (aC (kI6 4 0) (aC (eV 6) aN))) aN))))
 sN))))
def aQ5:FS :=
 (b_7 (at5 3 (bh7 aN))
 (b_7 (bh4 (gT [4,5]) (e2 bA2 (eF h_4 (aC (eV 0) (aC (eV 2) aN))) (e2 dDx (eNF k_1 (aC (eV 0) (aC (eNF n_9 (aC (eV 0) aN)) aN))) (eV 2)))
 as2)
 (an6 3 (g_0 (eV 3)))))
def J_0:List D->Option D:=fnD 3 6 aQ5
def V_8:FS :=
 (b_7 (sIf (tOr (kN6 (eV 1)) (tOr (tB (e2 ag9 (kI6 1 0) (eV 0))) (kN6 (eV 2))))
 (g_0 (eC .non))
 sN)
 (g_0 (e2 L_5 (eV 2) (kI6 1 1))))
def n_8:List D->Option D:=fnD 3 0 V_8
abbrev c_7:FS :=
 (an7 7 (eF n_8 (aC (eV 6) (aC (eV 9) (aC (kI6 10 2) aN)))))
abbrev e_1:FS :=
 (bh4 (gN 10) (eF b_6 (aC (kI6 2 0) (aC (kI6 2 1) (aC (eV 3) (aC (eV 4) (aC (eV 5) (aC (s_3 (aC (eV 8) aN)) aN)))))))
 c_7)
def o_8:FS :=
 (b_7 (at5 7 (bh7 aN))
 (b_7 (bh4 (gT [8,9]) (eF J_0 (aC (eV 0) (aC (eV 1) (aC (e2 b_5 (kI6 2 2) (kC6 1)) aN))))
 e_1)
 (an6 7 (g_0 (eV 7)))))
def c_2:List D->Option D:=fnD 7 4 o_8
def n_5:FX :=
 (bF5 (ar2 6 b_8 (aC (eV 0) (aC (eV 1) aN)))
 (bF5 (E_7 a_1 (aC (eV 0) (aC (eV 2) (aC (eV 3) (aC (eV 4) aN)))))
 (bF5 (rS (d_5 7 (eF h_8 (aC (eV 0) (aC (eV 5) aN)))))
 (bF5 (rS (sIf (tOr (kN6 (eV 7)) (tB (e2 ag9 (kI6 7 0) (kS6 "in"))))
 sNo
 sN))
 (bF5 (rS (d_5 8 (eF e_5 (aC (eV 0) (aC (eV 2) aN)))))
 (bF5 (rS (d_5 9 (eF r_2 (aC (kI6 8 2) (aC (eNF f_2 (aC (eV 0) (aC (eV 1) aN))) aN)))))
 (bF5 (rS (sIf (kQ6 (e2 b_5 (kI6 8 2) (kC6 0)) (kS6 "pair"))
 sNo
 (d_5 10 (eF c_2 (aC (eV 0) (aC (eV 6) (aC (eV 8) (aC (eV 3) (aC (eV 4) (aC (eV 9) (aC (eV 5) aN)))))))))))
 (bF5 (rS (sIf (tNot (tV (eV 10)))
 (g_0 (e2 dDx (eV 6) (eV 5)))
 sN))
 (rS (g_0 (eIf (tB (e2 aE9 (eC .non) (eV 10))) (eC .non) (eF bi7 (aC (eV 10) aN)))))))))))))
def d_2:List D->Option (D ⊕ XV):=fnX 6 5 n_5
def s_0:FS :=
 (b_7 (sIf (tB (e2 dLt (eV 1) (eF s_4 (aC (eV 0) aN))))
 (g_0 (e2 b_5 (eV 0) (eV 1)))
 sN)
 (g_0 (kC6 0)))
def f_0:List D->Option D:=fnD 2 0 s_0
abbrev m_0:FS :=
 (b_7 (an7 2 (e2 i_7 (eV 6) (kC6 10000019)))
 (d_5 6 (e2 aM8 (eV 6) (kC6 10000019))))
abbrev l_9:FS :=
 (b_7 (d_5 3 (e2 i_1 (e2 i_1 (e2 i_7 (e2 Y_1 (eV 3) (e2 i_1 (e2 aM8 (eV 3) (kC6 1009)) (kC6 69621))) (kC6 2147483647)) (eV 5)) (kC6 1)))
 (b_7 (d_5 4 (e2 i_7 (e2 Y_1 (eV 4) (kC6 48271)) (kC6 2147483629)))
 (an7 2 (e2 i_1 (eV 3) (eV 4)))))
def D_4:En->Option MO :=
 (by3 (at5 2 (bh7 aN))
 (nIf (tB (e2 dGe (eV 0) (e2 bL0 (kC6 10) (kC6 40))))
 (by3 (d_5 6 (e2 aM8 (eV 0) (kC6 7)))
 (by3 (N_3 (gN 5) (aH3 (eV 1)) m_0)
 (aY5 2)))
 (by3 (d_5 3 (e2 i_7 (e2 Y_1 (e2 i_1 (e2 i_7 (eV 0) (kC6 2147483647)) (kC6 1)) (kC6 48271)) (kC6 2147483647)))
 (by3 (d_5 4 (e2 i_7 (e2 Y_1 (e2 i_1 (e2 i_7 (eV 0) (kC6 1000003)) (kC6 1)) (kC6 69621)) (kC6 2147483629)))
 (by3 (N_3 (gN 5) (aH3 (eV 1)) l_9)
 (ao0 2))))))
def n_3:List D->Option MO:=fnN 2 5 D_4
def V_9:FS :=
 (b_7 (d_5 1 (e2 i_1 (kC6 1) (e2 i_7 (e2 aM8 (eQ 0) (kC6 3)) (kC6 9))))
 (b_7 (d_5 2 (e2 i_1 (kC6 1) (e2 i_7 (e2 aM8 (eQ 0) (kC6 3)) (kC6 3))))
 (b_7 (d_5 3 (s_3 (aC (c_0 (aC (kS6 "in") (aC (kS6 "x") (aC (c_0 aN) (aC (c_0 (aC (eC .non) (aC (eC .non) aN))) aN))))) (aC (c_0 (aC (kS6 "fixed") (aC (kS6 "fa") (aC (c_0 (aC (kS6 "x") aN)) (aC (c_0 (aC (eV 1) (aC (kS6 "sum") aN))) aN))))) aN))))
 (b_7 (d_5 3 (e2 i_1 (eV 3) (s_3 (aC (c_0 (aC (kS6 "slide") (aC (kS6 "fb") (aC (c_0 (aC (kS6 "x") aN)) (aC (c_0 (aC (e2 i_1 (e2 i_1 (eV 2) (kC6 1)) (e2 i_7 (e2 aM8 (eQ 0) (kC6 3)) (kC6 5))) (aC (eV 2) (aC (kS6 "most") aN)))) aN))))) aN))))
 (b_7 (d_5 3 (e2 i_1 (eV 3) (s_3 (aC (c_0 (aC (kS6 "gaps") (aC (kS6 "fc") (aC (c_0 (aC (kS6 "x") aN)) (aC (c_0 (aC (eV 1) (aC (kS6 "count") aN))) aN))))) (aC (c_0 (aC (kS6 "ever") (aC (kS6 "fd") (aC (c_0 (aC (kS6 "x") aN)) (aC (c_0 (aC (kS6 "least") aN)) aN))))) aN)))))
 (g_0 (e2 i_1 (eV 3) (eLC [] (kS6 "abcd") tYes (c_0 (aC (kS6 "ask") (aC (e2 i_1 (kS6 "q") (eV 0)) (aC (c_0 (aC (e2 i_1 (kS6 "f") (eV 0)) aN)) (aC (c_0 aN) aN)))))))))))))
def u_3:MO->List D->Option (D×MO):=fnB 0 3 V_9
def aG1:FS :=
 (b_7 (sIf (tOr (tB (e2 T_9 (eV 1) (s_3 (aC (kS6 "qa") (aC (kS6 "qb") (aC (kS6 "qc") (aC (kS6 "qd") aN))))))) (tOr (tNot (tV (eTy .str (eV 2)))) (tV (eTy .bool (eV 3)))))
 (g_0 (eC (.bl false)))
 sN)
 (b_7 (sIf (tOr (kQ6 (eV 2) (kS6 "")) (tOr (tB (e2 dGt (eF s_4 (aC (eV 2) aN)) (kC6 8))) (tNot (tV (eF cb3 (aC (eLC [] (eV 2) tYes (e2 aE9 (eV 0) (kS6 "abcdefghijklmnopqrstuvwxyz"))) aN))))))
 (g_0 (eC (.bl false)))
 sN)
 (b_7 (sIf (tOr (tNot (tV (eTy .int (eV 3)))) (tOr (tAnd (kQ6 (eV 1) (kS6 "qd")) (tB (e2 ag9 (eV 3) (kC6 0)))) (tAnd (tB (e2 aE9 (eV 1) (c_0 (aC (kS6 "qa") (aC (kS6 "qc") aN))))) (tB (e2 dLt (eV 3) (kC6 0))))))
 (g_0 (eC (.bl false)))
 sN)
 (g_0 (eOr (e2 ag9 (eV 1) (kS6 "qb")) (e2 dGt (e2 i_1 (e2 Y_1 (eV 3) (e2 b_5 (e2 b_5 (kI6 0 2) (kC6 3)) (kC6 1))) (e2 b_5 (e2 b_5 (kI6 0 2) (kC6 3)) (kC6 0))) (kC6 0)))))))
def c_1:List D->Option D:=fnD 4 0 aG1
def s_5:FX :=
 (rIf (kQ6 (eV 5) (kC6 0)) (E_7 c_8 AW5)
 (rIf (kQ6 (eV 5) (kC6 1)) (E_7 d_2 (aC (eV 0) (aC (eV 1) (aC (eV 2) (aC (eV 3) (aC (eV 4) (aC (kS6 "x") aN)))))))
 (rIf (kQ6 (eV 5) (kC6 2)) (E_7 c_3 AW5)
 (rIf (kQ6 (eV 5) (kC6 3)) (E_7 c_4 (aC (eV 0) (aC (eV 1) (aC (eV 2) (aC (eV 3) (aC (eV 4) (aC bW4 aN)))))))
 (E_7 d_9 (aC (eV 0) (aC (eV 2) (aC (eV 3) (aC (eV 4) (aC (s_3 aN) (aC (s_3 aN) aN)))))))))))
def b_0:List D->Option D:=aj0 s_5
abbrev M_0:FS :=
 (b_7 (sIf (tB (e2 ag9 (eF b_0 (aC (eV 2) (aC (eV 3) (aC (eV 8) (aC (eV 9) (aC (eV 11) (aC (eV 13) aN))))))) (eV 12)))
 (g_0 (eC (.bl false)))
 sN)
 (sIf (tB (e2 dLt (eV 13) (kC6 4)))
 (b_7 (d_5 14 (eF b_0 (aC (eV 2) (aC (eV 4) (aC (eV 8) (aC (eV 9) (aC (eV 11) (aC (eV 13) aN))))))))
 (b_7 (d_5 5 (eF b_0 (aC (eV 2) (aC (eV 6) (aC (eV 8) (aC (eV 9) (aC (eV 11) (aC (eV 13) aN))))))))
 (sIf (tOr (tB (e2 ag9 (eV 14) (kS6 "late"))) (tB (e2 ag9 (eV 5) (kS6 "nocoming"))))
 (g_0 (eC (.bl false)))
 sN)))
 sN))
abbrev ag3:FS :=
 (b_7 (d_5 8 (e2 b_5 (s_3 (aC (kS6 "qa") (aC (kS6 "qb") (aC (kS6 "qc") (aC (kS6 "qd") (aC (kS6 "qb") (aC (kS6 "fa") (aC (kS6 "x") (aC (kS6 "nobody") (aC (kS6 "") aN)))))))))) (e2 i_7 (e2 aM8 (eQ 1) (kC6 3)) (kC6 9))))
 (b_7 (d_5 9 (e2 b_5 (s_3 (aC (kS6 "a") (aC (kS6 "zz") (aC (kS6 "abcdefgh") (aC (kS6 "") (aC (kS6 "abcdefghi") (aC (kS6 "A") (aC (kC6 5) (aC (eC .non) (aC (kS6 "a b") aN)))))))))) (eF bi7 (aC (kC6 0) (aC (e2 L_5 (e2 i_7 (e2 aM8 (eQ 1) (kC6 3)) (kC6 14)) (kC6 5)) aN)))))
 (b_7 (d_5 10 (e2 b_5 (s_3 (aC (e2 L_5 (e2 i_7 (e2 aM8 (eQ 1) (kC6 3)) (kC6 12)) (kC6 6)) (aC (e2 Y_1 (eQ 1) (e2 bL0 (kC6 10) (kC6 20))) aN))) (e2 aM8 (e2 i_7 (e2 aM8 (eQ 1) (kC6 3)) (kC6 6)) (kC6 5))))
 (b_7 (d_5 11 (e2 b_5 (s_3 (aC (eV 10) (aC (eV 10) (aC (eV 10) (aC (eV 10) (aC (kC6 0) (aC (eC (.bl true)) (aC (kS6 "0") (aC (eC .non) aN))))))))) (e2 i_7 (e2 aM8 (eQ 1) (kC6 3)) (kC6 8))))
 (b_7 (d_5 12 (e2 b_5 (s_3 (aC (kS6 "nocell") (aC (kS6 "good") aN))) (eF bg7 (aC (eF c_1 (aC (eV 2) (aC (eV 8) (aC (eV 9) (aC (eV 11) aN))))) aN))))
 (N_3 (gN 13) (aH3 (kC6 5)) M_0))))))
def bv9:FS :=
 (b_7 (bl3 1 n_3 (aC (eF f_0 (aC (eV 0) (aC (kC6 0) aN))) (aC (kC6 120) aN)))
 (b_7 (d_5 2 (eFb 1 u_3 aN))
 (b_7 (d_5 3 (ch9 [1] 1 0 (aH3 (e2 i_7 (e2 aM8 (eQ 1) (kC6 3)) (kC6 6))) tYes (c_0 (aC (kS6 "thing") (aC (kS6 "x") (aC (e2 i_7 (e2 aM8 (eQ 1) (kC6 3)) (kC6 9)) (aC (kS6 "a") (aC (e2 i_7 (e2 aM8 (eQ 1) (kC6 3)) (kC6 5)) aN))))))))
 (b_7 (d_5 4 (e2 i_1 (eV 3) (s_3 (aC (c_0 (aC (kS6 "mark") (aC (kS6 "x") (aC (kC6 5) aN)))) (aC (c_0 (aC (kS6 "thing") (aC (kS6 "x") (aC (kC6 4) (aC (kS6 "a") (aC (kC6 1) aN)))))) aN)))))
 (b_7 (d_5 5 (s_3 (aC (c_0 (aC (kS6 "mark") (aC (kS6 "nobody") (aC (kC6 3) aN)))) (aC (c_0 (aC (kS6 "thing") (aC (kS6 "x") (aC (e1 aT1 (kC6 1)) (aC (kS6 "a") (aC (kC6 1) aN)))))) (aC (c_0 (aC (kS6 "open") (aC (kS6 "x") aN))) (aC (c_0 (aC (kS6 "close") aN)) aN))))))
 (b_7 (d_5 6 (e2 i_1 (eV 3) (s_3 (aC (e2 b_5 (eV 5) (e2 i_7 (e2 aM8 (eQ 1) (kC6 3)) (kC6 4))) aN))))
 (b_7 (N_3 (gN 7) (aH3 (kC6 10)) ag3)
 (g_0 (eC (.bl true))))))))))
def ac7:List D->Option D:=fnD 1 14 bv9
end
end Fx
namespace Fx
open PySem PySem.Spec PyProof.Rows L2
section
variable {X:Cx}
def cx1:R2:=λ x y H Q=>(∃ a b,x=.str a/\y=.str b/\Q (.bl (!eqD (.str a) (.str b))) H)\/(∃ a b,x=.int a/\y=.int b/\Q (.bl (!eqD (.int a) (.int b))) H)\/x=.non/\y=.non/\Q (.bl false) H
theorem bN8 (Z:X.A.units+64<cLine):OpR X (compareOp .NotEq) cx1:=by
 intro pins s σ H x y v u Q I Y O h;rcases h with ⟨a,b,rfl,rfl,q⟩ | ⟨a,b,rfl,rfl,q⟩ | ⟨rfl,rfl,q⟩
 ·obtain⟨t,rfl⟩:=Y;obtain⟨t',rfl⟩:=O;exact SeqAt.RcNeAt.str_str _ _ _ _ X.prog X.w X.xe _ ⟨.bl _,H,I,rfl,q⟩
 ·obtain⟨t,rfl⟩:=Y;obtain⟨t',rfl⟩:=O;exact SeqAt.RcNeAt.int_int _ _ _ _ X.prog X.w X.xe _ ⟨.bl _,H,I,rfl,q⟩
 ·cases Y;cases O;exact SeqAt.RcNeAt.none_none X.prog X.w X.xe _ ⟨.bl _,H,I,rfl,q⟩
theorem ci9 (Z:X.A.units+64<cLine):B_1 X .NotEq ag9:=⟨_,bN8 Z,λ c H0 H ρ σ x y d vx vy Q R O Y e q=>by
 unfold ag9 at e;split at e <;> cases e <;> unfold Rep at O Y <;> subst O Y
 ·exact .inl ⟨_,_,rfl,rfl,q _ H0 H (Same.refl _) R (o_5 _ _)⟩
 ·exact .inr (.inl ⟨_,_,rfl,rfl,q _ H0 H (Same.refl _) R (o_5 _ _)⟩)
 ·exact .inr (.inr ⟨rfl,rfl,q _ H0 H (Same.refl _) R (o_5 _ _)⟩)⟩
end
noncomputable def top (i:Nat):Stmt:=PySem.Challenge.pw_latewell_k56_no_such_cell.main.body.getD i (.Pass ⟨0,0,0,0⟩)
abbrev ag7:Stmt:=match top 46 with
 |.ClassDef _ _ _ b ..=>b.getD 0 (.Pass ⟨0,0,0,0⟩)
 |s=>s
theorem xG {X:Cx}{k j:Nat}{x:Str}{g:List D → Option D}{A:FA}{p pos:Pos}{e:Expr}{es:List Expr} (G:DefOk X.prog X.w X.K X.mg X.base k x g) (hr:Room j X.A) (ha:XA X (e::es) A) (hk:k ≤ j:=by decide) (hg:Gl X x:=by rfl) (Y:(x==("__debug__":Str))=false:=by decide)
  (Z:starEach (e::es) X.env=(false,eval e X.env)::starEach es X.env:=by rfl) (O:(backTo pos (starEach es X.env)).any (·.1)=false:=by rfl):XE X (.Call (.Name x p) (e::es) [] pos) (eF g A):=xF G (hr.mono hk) ha hg Y Z O
theorem scO {N P:List Str}{sc:Scope} (a:sc.kind=.function:=by rfl) (b:sc.isCoroutine=false:=by rfl) (c:sc.isGenerator=false:=by rfl) (d:N.Nodup:=by decide +kernel) (e:N.take P.length=P:=by rfl) (f:∀ x∈P,sc.names.lookup x=some .local\/sc.names.lookup x=some .cell:=by decide +kernel) (g:∀ y∈sc.names,y.2≠.free:=by decide +kernel):FnScope N P sc:=⟨a,b,c,d,e,f,g⟩
theorem scB {N:List Str}{sc scope:Scope}{x:Str}{frees:List Str}{js:List Nat} (a:scope.kind=.function:=by rfl) (b:sc.kind=.function:=by rfl) (c:∀ y∈scope.names,y.2≠.cell:=by decide +kernel) (d:∀ y∈scope.names,y.2=.local->scope.names.lookup y.1=some .local:=by decide +kernel) (e:scope.names.lookup x=some .local:=by rfl) (f:∀ y∈scope.names,y.2=.free->sc.names.lookup y.1=some .cell:=by decide +kernel) (g:(x::frees).Nodup:=by decide +kernel) (h:frees.length=js.length:=by rfl) (i:∀ p∈frees.zip js,N[p.2]?=some p.1/\sc.names.lookup p.1=some .cell/\scope.names.lookup p.1=some .free:=by decide +kernel):ScB N sc scope x frees js:=⟨a,b,c,d,e,f,g,h,i⟩
structure Blt (w:World) (K:Frag) (mg:Str->Option Value):Prop where
 z_abs:mg "abs"=none
 z_len:mg "len"=none
 z_max:mg "max"=none
 z_min:mg "min"=none
 z_any:mg "any"=none
 z_all:mg "all"=none
 z_range:mg "range"=none
 z_isinstance:mg "isinstance"=none
 z_int:mg "int"=none
 z_bool:mg "bool"=none
 z_str:mg "str"=none
 z_tuple:mg "tuple"=none
 z_list:mg "list"=none
 z_sorted:mg "sorted"=none
 z_dict:mg "dict"=none
 z_set:mg "set"=none
 z_sum:mg "sum"=none
 z_zip:mg "zip"=none
 z_enumerate:mg "enumerate"=none
 z_reversed:mg "reversed"=none
 c_LETTERS:∃ t,mg "LETTERS"=some (.str "abcdefghijklmnopqrstuvwxyz" t)
 c_LONGEST:∃ t,mg "LONGEST"=some (.int 8 t)
 c_EVERY_KEY:∃ a,mg "EVERY_KEY"=some (.ref a) ∧ KV1 K (.tup [(.str "but"),(.tup [])]) (.ref a)
 c_EVERY_VALUE:∃ a,mg "EVERY_VALUE"=some (.ref a) ∧ KV1 K (.tup [.non,.non,(.int 1),(.int 0)]) (.ref a)
 c_CHAINS:∃ a,mg "CHAINS"=some (.ref a) ∧ KV1 K (.tup [(.str "in"),(.str "time"),(.str "only"),(.str "but"),(.str "span"),(.str "rest"),(.str "turn"),(.str "later"),(.str "put"),(.str "pour")]) (.ref a)
 xn:∃ c3 cW fI fd c0 c1 c2,XW56 K mg ag7 c3 cW fI fd c0 c1 c2
structure Pl (e:Expr):Prop where
 st:∀ es env,starEach (e::es) env=(false,eval e env)::starEach es env
 sw:∀ t l env,swapsWith e t l env=pure false
 im:∀ op,behindInMarks op e=false
 ix:T_1 e
noncomputable def plB:Expr->Bool
 |.Starred .. | .ListComp .. | .SetComp .. | .DictComp .. | .Set .. | .Slice ..=>false
 |_=>true
theorem ad7 (h:plB e=true):Pl e:=by cases e <;> first | exact⟨λ _ _=>rfl,λ _ _ _=>rfl,λ _=>rfl,λ _ _=>rfl⟩ | cases h
noncomputable abbrev Cal:=Str×((List D->Option D) ⊕ (MO->List D->Option (D×MO)))
def cq3 (X:Cx):Cal->Prop
 |(x,.inl g)=>∃ k,DefOk X.prog X.w X.K X.mg X.base k x g/\Room k X.A
 |(x,.inr g)=>∃ k,DefB X.prog X.w X.K X.mg X.base k x g/\Room k X.A
structure Ox (N:List Str) (sc:Scope) (C:List Cal) (X:Cx):Prop where
 n:X.N=N
 s:X.env.scope=sc
 ca:X.calm=true
 u:X.A.units+64<cLine
 t:Blt X.w X.K X.mg
 c:∀ c∈C,cq3 X c
noncomputable def ixO:(N:List Str)->(x:Str)->Option {i:Nat // N[i]?=some x}
 |[],_=>none
 |y::r,x=>if h:y=x then some ⟨0,by rw[h];rfl⟩ else (ixO r x).map λ i=>⟨i.1+1,i.2⟩
def fdC:(C:List Cal)->(x:Str)->Option {s:(List D->Option D) ⊕ (MO->List D->Option (D×MO)) // (x,s)∈C}
 |[],_=>none
 |(y,s)::r,x=>if h:y=x then some ⟨s,h▸.head _⟩ else (fdC r x).map λ d=>⟨d.1,.tail _ d.2⟩
def opO:(op:Operator)->Option {f:D->D->Option D // ∀ X,Z_7 X op f}
 |.Add=>some ⟨i_1,λ _=>l_5⟩
 |.Sub=>some ⟨L_5,λ _=>T_2⟩
 |.Mult=>some ⟨Y_1,λ _=>ac2⟩
 |.FloorDiv=>some ⟨aM8,λ _=>ba3⟩
 |.Mod=>some ⟨i_7,λ _=>j_9⟩
 |.Pow=>some ⟨bL0,λ _=>ca4⟩
 |_=>none
def cpO:(op:CmpOp)->Option {f:D->D->Option D // ∀ X:Cx,X.A.units+64<cLine->B_1 X op f}
 |.Is=>some ⟨dIs,λ _ _=>cIs⟩
 |.IsNot=>some ⟨Y_2,λ _ _=>aD8⟩
 |.Lt=>some ⟨dLt,λ _ _=>cLt⟩
 |.LtE=>some ⟨dLe,λ _ _=>cLe⟩
 |.Gt=>some ⟨dGt,λ _ _=>cGt⟩
 |.GtE=>some ⟨dGe,λ _ _=>cGe⟩
 |.NotIn=>some ⟨T_9,λ _ _=>bC3⟩
 |.Eq=>some ⟨dEq,λ _=>cEq⟩
 |.NotEq=>some ⟨ag9,λ _=>ci9⟩
 |.In=>some ⟨aE9,λ _ _=>bL5⟩
section
variable (N:List Str) (sc:Scope) (C:List Cal)
abbrev RE (e:Expr):={F:FE // ∀ X,Ox N sc C X->XE X e F}
abbrev RT (e:Expr):={F:FT // ∀ X,Ox N sc C X->XT X e F}
abbrev RW (e:Expr):={F:FT // ∀ X,Ox N sc C X->XW X e F}
abbrev RO (e:Option Expr):={F:FO // ∀ X,Ox N sc C X->XO X e F}
abbrev RA (es:List Expr):={F:FA // ∀ X,Ox N sc C X->XA X es F/\∀ pos env,(backTo pos (starEach es env)).any (·.1)=false}
abbrev Gk (x:Str):Prop:=sc.names.lookup x=some .globalImplicit ∧ (x==("__debug__":Str))=false
abbrev Vk (x:Str):Prop:=(sc.names.lookup x=some .local ∨ sc.names.lookup x=some .cell ∨ sc.names.lookup x=some .free) ∧ (x==("__debug__":Str))=false ∧ (x==("__classdict__":Str))=false
variable {N sc C}
theorem Ox.vv (k:Ox N sc C X) (i:{i:Nat // N[i]?=some x}) (h:Vk sc x):XE X (.Name x pos) (eV i.1):=xv i.1 (k.n▸i.2) (k.s▸h.1) h.2.1 h.2.2
theorem Ox.gl (k:Ox N sc C X) (h:Gk sc x):Gl X x:=by unfold Gl Env.kindOf;rw[k.s];exact h.1
theorem Ox.ff (k:Ox N sc C X) (m:(x,.inl g)∈C) (O:Gk sc x) (Y:XA X (e::es) A) (hp:Pl e) (hs:∀ pos env,(backTo pos (starEach (e::es) env)).any (·.1)=false):XE X (.Call (.Name x p) (e::es) [] pos) (eF g A):=by obtain⟨j,G,r⟩:=k.c _ m;have q:=hs pos X.env;rw[hp.st] at q;exact xF G r Y (k.gl O) O.2 (hp.st ..) q
theorem Ox.bb (k:Ox N sc C X) (m:(x,.inr g)∈C) (O:Gk sc x) (i:{i:Nat // N[i]?=some y}) (h:Vk sc y) (Y:XA X es A) (hs:∀ pos env,(backTo pos (starEach es env)).any (·.1)=false):XE X (.Call (.Name x p) (.Name y py::es) [] pos) (eFb i.1 g A):=by obtain⟨j,G,r⟩:=k.c _ m;exact xFb i.1 G r Y (k.n▸i.2) (k.gl O) (k.s▸h.1) O.2 h.2.1 h.2.2 (hs ..)
def cv2 (X:Cx) (x:Str) (g:List D → Option D):Prop:=X.mg x=none ∧ x≠"__name__" ∧ ((∃ i,BOk X (.builtin i) g ∧ bootBuiltins x=some (.builtin i)) ∨ ∃ i,BOk X (.type i) g ∧ bootBuiltins x=some (.type i))
theorem Ox.kk (k:Ox N sc C X) (b:cv2 X x g) (O:Gk sc x) (Y:XA X (e::es) A) (hp:Pl e) (hs:∀ pos env,(backTo pos (starEach (e::es) env)).any (·.1)=false):XE X (.Call (.Name x p) (e::es) [] pos) (eF g A):=by
 obtain⟨m,n,b⟩:=b;have q:=hs pos X.env;rw[hp.st] at q;rcases b with ⟨i,o,v⟩ | ⟨i,o,v⟩
 ·exact xB o (k.gl O) m v Y n O.2 (hp.st ..) q
 ·exact xTy o (k.gl O) m v Y n O.2 (hp.st ..) q
def blO (x:Str):Option {g:List D->Option D // ∀ X:Cx,Blt X.w X.K X.mg->X.calm=true->cv2 X x g} :=
 if h:x="len" then some ⟨s_4,λ X t c=>h▸⟨t.z_len,by decide,.inl ⟨_,l_2,PySem.boot_len⟩⟩⟩ else
 if h:x="tuple" then some ⟨q_1,λ X t c=>h▸⟨t.z_tuple,by decide,.inr ⟨_,i_8,boot_tuple⟩⟩⟩ else
 if h:x="max" then some ⟨bi7,λ X t c=>h▸⟨t.z_max,by decide,.inl ⟨_,(ae7 c),boot_max⟩⟩⟩ else
 if h:x="min" then some ⟨bw2,λ X t c=>h▸⟨t.z_min,by decide,.inl ⟨_,(aD7 c),boot_min⟩⟩⟩ else
 if h:x="abs" then some ⟨aO0,λ X t c=>h▸⟨t.z_abs,by decide,.inl ⟨_,H_5,boot_abs⟩⟩⟩ else
 if h:x="int" then some ⟨bg7,λ X t c=>h▸⟨t.z_int,by decide,.inr ⟨_,S_1,boot_int⟩⟩⟩ else
 none
def csO (x:Str) (p:Pos):Option (RE N sc C (.Name x p)) :=
 if h:x="EVERY_KEY" ∧ Gk sc x then some ⟨eC (.tup [(.str "but"),(.tup [])]),λ X k=>aF3 (h.1▸k.t.c_EVERY_KEY) (k.gl h.2) h.2.2⟩ else
 if h:x="EVERY_VALUE" ∧ Gk sc x then some ⟨eC (.tup [.non,.non,(.int 1),(.int 0)]),λ X k=>aF3 (h.1▸k.t.c_EVERY_VALUE) (k.gl h.2) h.2.2⟩ else
 if h:x="CHAINS" ∧ Gk sc x then some ⟨eC (.tup [(.str "in"),(.str "time"),(.str "only"),(.str "but"),(.str "span"),(.str "rest"),(.str "turn"),(.str "later"),(.str "put"),(.str "pour")]),λ X k=>aF3 (h.1▸k.t.c_CHAINS) (k.gl h.2) h.2.2⟩ else
 none
abbrev Sx (X:Cx):Prop:=Ox N sc C X/\X.N.Nodup/\∀ x,X.fn x=true
noncomputable abbrev Rkx {α:Type} (P:Cx->Prop) (Q:Cx->α->Prop):=Option {F:α // ∀ X,P X->Q X F}
variable {α β γ δ:Type}
def rk1 (x:Rkx P Q) (f:α->β) (h:∀ {X}{F:α},P X->Q X F->S X (f F)):Rkx P S:=x.map λ F=>⟨f F.1,λ X k=>h k (F.2 X k)⟩
def rk2 (x:Rkx P Q) (y:Rkx P R) (f:α->β->γ) (h:∀ {X}{F:α}{G:β},P X->Q X F->R X G->S X (f F G)):Rkx P S:=x.bind λ F=>rk1 y (f F.1) λ k=>h k (F.2 _ k)
def rk3 (x:Rkx P Q) (y:Rkx P R) (z:Rkx P S) (f:α->β->γ->δ) (h:∀ {X}{F:α}{G:β}{L:γ},P X->Q X F->R X G->S X L->U X (f F G L)):Rkx P U:=x.bind λ F=>rk2 y z (f F.1) λ k=>h k (F.2 _ k)
mutual
noncomputable def cE:Nat->(e:Expr)->Option (RE N sc C e)
 |n+1,.Name x p=>match ixO N x with
  |some i=>if h:Vk sc x then some ⟨eV i.1,λ _ k=>k.vv i h⟩ else none
  |none=>csO x p
 |n+1,.Constant (.int i) _ _=>some ⟨eC (.int i),λ _ _=>a_4⟩
 |n+1,.Constant (.str i) _ _=>some ⟨eC (.str i),λ _ _=>d_0⟩
 |n+1,.Constant (.bool i) _ _=>some ⟨eC (.bl i),λ _ _=>xbl⟩
 |n+1,.Constant .none _ _=>some ⟨eC .non,λ _ _=>l_4⟩
 |n+1,.BinOp a op b _=>(opO op).bind λ o=>rk2 (cE n a) (cE n b) (e2 o.1) λ _=>xb (o.2 _)
 |n+1,.Compare a [op] [b] _=>(cpO op).bind λ o=>if h:plB b=true then rk2 (cE n a) (cE n b) (e2 o.1) λ k x y=>Z_8 (o.2 _ k.u) x y ((ad7 h).im _) else none
 |n+1,.IfExp c a b _=>rk3 (cT n c) (cE n a) (cE n b) eIf λ _=>xif
 |n+1,.UnaryOp .USub a _=>rk1 (cE n a) (e1 aT1) λ _=>bw7
 |n+1,.BoolOp _ [a] _=>rk1 (cE n a) id λ _=>bj3
 |n+1,.BoolOp .And (a::b::r) p=>rk2 (cE n a) (cE n (.BoolOp .And (b::r) p)) aL9 λ _=>bw8
 |n+1,.BoolOp .Or (a::b::r) p=>rk2 (cE n a) (cE n (.BoolOp .Or (b::r) p)) eOr λ _=>xor
 |n+1,.Tuple es _ _=>rk1 (cA n es) c_0 λ _ x=>l_8 x.1
 |n+1,.List es _=>rk1 (cA n es) s_3 λ _ x=>J_8 x.1
 |n+1,.Subscript a (.Slice lo hi none _) _=>rk3 (cE n a) (cO n lo) (cO n hi) L_4 λ _=>aU0
 |n+1,.Subscript a b _=>if h:plB b=true then rk2 (cE n a) (cE n b) (e2 b_5) λ _ x y=>d_3 x y (ad7 h).ix else none
 |n+1,.Call (.Attribute (.Name x p) a q) [] [] pos=>(ixO N x).bind λ i=>if h:a="pop" ∧ Vk sc x ∧ (q.endLine==pos.line)=true then some ⟨eQ i.1,λ X k=>h.1▸xq i.1 (k.n▸i.2) (k.s▸h.2.1.1) h.2.1.2.1 h.2.1.2.2 rfl h.2.2⟩ else none
 |n+1,.Call (.Name x _) es [] _=>match fdC C x,es with
  |some ⟨.inl g,m⟩,e::r=>if h:plB e=true/\Gk sc x then rk1 (cA n (e::r)) (eF g) λ k a=>k.ff m h.2 a.1 (ad7 h.1) a.2 else none
  |some ⟨.inr g,m⟩,.Name y _::r=>(ixO N y).bind λ i=>if h:Gk sc x/\Vk sc y then rk1 (cA n r) (eFb i.1 g) λ k a=>k.bb m h.1 i h.2 a.1 a.2 else none
  |none,e::r=>(blO x).bind λ b=>if h:plB e=true/\Gk sc x then rk1 (cA n (e::r)) (eF b.1) λ k a=>k.kk (b.2 _ k.t k.ca) h.2 a.1 (ad7 h.1) a.2 else none
  |_,_=>none
 |_,_=>none
noncomputable def cT:Nat->(e:Expr)->Option (RT N sc C e)
 |n+1,.Compare a [op] [b] _=>(cpO op).bind λ o=>if h:plB b=true then rk2 (cE n a) (cE n b) (λ x y=>tB (e2 o.1 x y)) λ k x y=>xt (o.2 _ k.u) x y ((ad7 h).im _) else none
 |n+1,.Compare a [op,op'] [b,m] _=>(cpO op).bind λ o=>(cpO op').bind λ p=>if h:plB m=true then rk3 (cE n a) (cE n b) (cE n m) (λ x y z=>tB (e3 o.1 p.1 x y z)) λ k x y z=>xt3 (o.2 _ k.u) (p.2 _ k.u) x y z ((ad7 h).im _) else none
 |n+1,.BoolOp op l p=>rk1 (cW n (.BoolOp op l p)) id λ _=>xw
 |n+1,.UnaryOp .Not a _=>rk1 (cT n a) tNot λ _=>aT9
 |n+1,.Name x p=>rk1 (cE n (.Name x p)) tV λ _ x=>xtv x λ _=>rfl
 |n+1,.Call f l m p=>rk1 (cE n (.Call f l m p)) tV λ _ x=>xtv x λ _=>rfl
 |n+1,.Subscript a b p=>rk1 (cE n (.Subscript a b p)) tV λ _ x=>xtv x λ _=>rfl
 |_,_=>none
noncomputable def cW:Nat->(e:Expr)->Option (RW N sc C e)
 |n+1,.BoolOp .And [a] _=>rk1 (cT n a) id λ _=>v_0
 |n+1,.BoolOp .Or [a] _=>rk1 (cT n a) id λ _=>aa3
 |n+1,.BoolOp .And (a::b::r) p=>rk2 (cT n a) (cW n (.BoolOp .And (b::r) p)) tAnd λ _=>E_8
 |n+1,.BoolOp .Or (a::b::r) p=>rk2 (cT n a) (cW n (.BoolOp .Or (b::r) p)) tOr λ _=>aT7
 |_,_=>none
noncomputable def cO:Nat->(e:Option Expr)->Option (RO N sc C e)
 |n+1,some e=>rk1 (cE n e) oS λ _=>xoS
 |n+1,none=>some ⟨oN,λ _ _=>xoN⟩
 |_,_=>none
noncomputable def cA:Nat->(es:List Expr)->Option (RA N sc C es)
 |n+1,[]=>some ⟨aN,λ _ _=>⟨xaN,λ _ _=>rfl⟩⟩
 |n+1,e::es=>if h:plB e=true then rk2 (cE n e) (cA n es) aC λ _ x a=>⟨xaC x a.1 ((ad7 h).st ..),λ pos env=>by rw[(ad7 h).st];exact a.2 pos env⟩ else none
 |_,_=>none
noncomputable def cS:Nat->(s:Stmt)->Option {F:FS // ∀ X,Sx (N:=N) (sc:=sc) (C:=C) X->XS X s F}
 |n+1,.Assign [.Name x _] e _=>(ixO N x).bind λ i=>if h:plB e=true/\(sc.names.lookup x=some .local\/sc.names.lookup x=some .cell) then (cE n e).map λ F=>⟨d_5 i.1 F.1,λ X k=>i_5 i.1 k.2.1 (F.2 X k.1) (k.1.n▸i.2) (k.1.s▸h.2) ((ad7 h.1).sw ..) (.inl (k.2.2 x))⟩ else none
 |n+1,.Return (some e) _=>(cE n e).map λ F=>⟨g_0 F.1,λ X k=>i_6 (F.2 X k.1)⟩
 |n+1,.If c a b _=>(cT n c).bind λ T=>rk2 (cSs n a) (cSs n b) (sIf T.1) λ k=>o_0 (T.2 _ k.1)
 |_,_=>none
noncomputable def cSs:Nat->(s:List Stmt)->Option {F:FS // ∀ X,Sx (N:=N) (sc:=sc) (C:=C) X->XSs X s F}
 |n+1,[]=>some ⟨sN,λ _ _=>xsN⟩
 |n+1,[s]=>rk1 (cS n s) id λ _=>xs1
 |n+1,s::t::r=>rk2 (cS n s) (cSs n (t::r)) b_7 λ _=>xsC
 |_,_=>none
end
theorem go {o:Rkx P R}{F:α}{X:Cx} (k:P X) (h:o.map (·.1)=some F:=by kernel_rfl):R X F:=by
 cases o with
 |none=>cases h
 |some q=>cases h;exact q.2 X k
end
section
variable {P:Program}{w:World}{K:Frag}{mg:Str->Option Value}{base:Heap}
def bq0 (P:Program) (w:World) (K:Frag) (mg:Str->Option Value) (base:Heap) (j:Nat) (L:List Cal):Prop:=∀ c∈L,match c with
 |(x,.inl g)=>∃ k,k<=j/\DefOk P w K mg base k x g
 |(x,.inr g)=>∃ k,k<=j/\DefB P w K mg base k x g
theorem rf0:bq0 P w K mg base j []:=λ _ h=>nomatch h
theorem rf1 (G:DefOk P w K mg base k x g) (r:bq0 P w K mg base j L) (h:k<=j:=by first | decide | omega):bq0 P w K mg base j ((x,.inl g)::L):=List.forall_mem_cons.mpr ⟨⟨k,h,G⟩,r⟩
theorem rf2 (G:DefB P w K mg base k x g) (r:bq0 P w K mg base j L) (h:k<=j:=by first | decide | omega):bq0 P w K mg base j ((x,.inr g)::L):=List.forall_mem_cons.mpr ⟨⟨k,h,G⟩,r⟩
variable {X:Cx}{N:List Str}{sc:Scope}{C L:List Cal}{j:Nat}
theorem bJ4 {ps:List Str} (S:FnScope N ps sc) (T:Blt X.w X.K X.mg) (O:Room j X.A) (hL:bq0 X.prog X.w X.K X.mg X.base j L) (n:X.N=N:=by rfl) (s:X.env.scope=sc:=by rfl) (ca:X.calm=true:=by rfl) (f:∀ x,X.fn x=true:=by intro;rfl):Sx (N:=N) (sc:=sc) (C:=L) X :=
 ⟨⟨n,s,ca,O.units,T,λ c m=>by
  have q:=hL c m;obtain⟨x,g | g⟩:=c
  ·obtain⟨k,a,b⟩:=q;exact⟨k,b,O.mono a⟩
  ·obtain⟨k,a,b⟩:=q;exact⟨k,b,O.mono a⟩⟩,n▸S.nd,f⟩
theorem rfC {D:Addr} (k:Sx (N:=N) (sc:=sc) (C:=C) X):Ox N' (relabel scope X.env) C (cxB X N' scope s H D fp) :=
 ⟨rfl,rfl,k.1.ca,k.1.u,k.1.t,λ c m=>by
  have q:=k.1.c c m;obtain⟨x,g | g⟩:=c <;> exact q⟩
theorem rfE (k:Ox N sc C X) (h:(cE (N:=N) (sc:=sc) (C:=C) 99 e).map (·.1)=some F:=by kernel_rfl):XE X e F:=go k h
theorem rfT (k:Ox N sc C X) (h:(cT (N:=N) (sc:=sc) (C:=C) 99 e).map (·.1)=some F:=by kernel_rfl):XT X e F:=go k h
theorem rfA (k:Ox N sc C X) (h:(cA (N:=N) (sc:=sc) (C:=C) 99 e).map (·.1)=some F:=by kernel_rfl):XA X e F:=(go (R:=λ X F=>XA X e F/\∀ pos env,(backTo pos (starEach e env)).any (·.1)=false) k h).1
theorem rfS (k:Sx (N:=N) (sc:=sc) (C:=C) X) (h:(cS (N:=N) (sc:=sc) (C:=C) 99 e).map (·.1)=some F:=by kernel_rfl):XS X e F:=go k h
theorem rfB (k:Sx (N:=N) (sc:=sc) (C:=C) X) (h:(cSs (N:=N) (sc:=sc) (C:=C) 99 e).map (·.1)=some F:=by kernel_rfl):XSs X e F:=go k h
def Dn (K:Frag) (mg:Str->Option Value) (x:Str) (st:Stmt) (ps:List Str):Prop:=∃ f fd,Fun K x x st f fd/\Binds K fd ps []/\mg x=some (.ref f)
variable {x:Str}{st:Stmt}{ps:List Str}{n m:Nat}{B:FS}
theorem dnF (D:Dn K mg x st ps) (S:FnScope N ps (a_2 st)) (hb:∀ (f:Addr) (O:Value) (A:Around) (outer:List Env) (s:Shared) (H:Hp) (E:XK),Room j (A.deeper (envOfC x (a_2 st) s.heap.objs.size f O))->XSs (R_5 CX0 P w K mg base N x (a_2 st) f O A outer s H E).nox (k_2 st) B) (Y:ps.length=n:=by rfl) (hN:N.length=n+m:=by rfl):DefOk P w K mg base (j+1) x (fnD n m B):=by obtain⟨f,fd,F,b,h⟩:=D;exact⟨f,fd,ps,k_7 F S Y hN (hb f),b,F.kp,h⟩
theorem dnB (D:Dn K mg x st ps) (S:FnScope N ps (a_2 st)) (hb:∀ (f:Addr) (O:Value) (A:Around) (outer:List Env) (s:Shared) (H:Hp) (E:XK),Room j (A.deeper (envOfC x (a_2 st) s.heap.objs.size f O))->XSs (R_5 CX0 P w K mg base N x (a_2 st) f O A outer s H E).nox (k_2 st) B) (Y:ps.length=n+1:=by rfl) (hN:N.length=n+1+m:=by rfl):DefB P w K mg base (j+1) x (fnB n m B):=by obtain⟨f,fd,F,b,h⟩:=D;exact⟨f,fd,ps,y_9 F S Y hN (hb f),b,F.kp,h⟩
theorem rfD (D:Dn K mg x st ps) (S:FnScope N ps (a_2 st)) (T:Blt w K mg) (hL:bq0 P w K mg base j L) (O:ps.length=n:=by rfl) (hN:N.length=n+m:=by rfl) (hb:(cSs (N:=N) (sc:=a_2 st) (C:=L) 99 (k_2 st)).map (·.1)=some B:=by kernel_rfl):DefOk P w K mg base (j+1) x (fnD n m B) :=
 dnF D S (λ _ _ _ _ _ _ _ Y=>rfB (bJ4 S T Y hL) hb) O hN
theorem rfK (S:FnScope N ps sc) (T:Blt X.w X.K X.mg) (O:Room j X.A) (hL:bq0 X.prog X.w X.K X.mg X.base j L) (f:Sx (N:=N) (sc:=sc) (C:=L) X->XSs X sts B) (n:X.N=N:=by rfl) (s:X.env.scope=sc:=by rfl) (ca:X.calm=true:=by rfl) (h:∀ x,X.fn x=true:=by intro;rfl):XSs X sts B:=f (bJ4 S T O hL n s ca h)
end
section
variable (P:Program) {w:World}{K:Frag}{mg:Str->Option Value} (base:Heap)
variable (T:Blt w K mg)
variable (Ga:DefOk P w K mg base 1 "keys_hold" e_8)
variable (Gb:DefOk P w K mg base 3 "keys_meet" j_3)
variable (Gc:DefOk P w K mg base 1 "stretch_made" a_5)
variable (Gd:DefOk P w K mg base 1 "divisor_and_factor" e_0)
variable (Ge:DefOk P w K mg base 3 "nearest" S_6)
variable (Gf:DefOk P w K mg base 3 "stretch_above" j_1)
variable (Gg:DefOk P w K mg base 3 "stretch_below" i_3)
variable (Gh:DefOk P w K mg base 5 "box_meet" f_5)
variable (Gi:DefOk P w K mg base 1 "rows_below" r_1)
variable (Gj:DefOk P w K mg base 3 "is_thing_of" z_7)
variable (Gk:DefOk P w K mg base 2 "is_time" J_4)
variable (Gl:DefOk P w K mg base 1 "row_named" h_8)
variable (Gm:DefOk P w K mg base 4 "is_coming" G_8)
variable (Gn:DefX P w K mg base 5 "check_coming" h_5)
variable (Go:DefN P w K mg base 1 "first_marks" n_9)
variable (Gp:DefN P w K mg base 1 "marked" J_1)
variable (Gq:DefOk P w K mg base 1 "things_of" t_8)
variable (Gr:DefOk P w K mg base 1 "amount_of" e_6)
variable (Gs:DefOk P w K mg base 1 "sessions_of" r_5)
variable (Gt:DefOk P w K mg base 2 "session_cells" j_2)
variable (Gu:DefOk P w K mg base 4 "is_cell" c_9)
variable (Gv:DefOk P w K mg base 3 "box_has" l_1)
variable (Gw:DefOk P w K mg base 4 "things_in" i_2)
variable (Gx:DefOk P w K mg base 2 "stretch_between" f_3)
variable (Gy:DefOk P w K mg base 2 "told_answer" z_6)
variable (Gz:DefOk P w K mg base 4 "values_beyond" t_7)
variable (GA:DefOk P w K mg base 1 "box_made" a_9)
variable (GB:DefOk P w K mg base 5 "turning_values" b_1)
variable (GC:DefOk P w K mg base 6 "boxes_met" b_9)
variable (GD:DefOk P w K mg base 3 "fold_cells" j_5)
variable (GE:DefOk P w K mg base 2 "key_box" e_7)
variable (GF:DefOk P w K mg base 6 "turning_boxes" d_1)
variable (GG:DefOk P w K mg base 2 "cell_rows" e_5)
variable (GH:DefOk P w K mg base 8 "chain_turning" b_6)
variable (GI:DefX P w K mg base 5 "check_cell" a_1)
variable (GJ:DefX P w K mg base 9 "boxes_turn" d_9)
variable (GK:DefN P w K mg base 2 "chain_things" f_2)
variable (GL:DefOk P w K mg base 1 "of_from" r_2)
variable (GM:DefOk P w K mg base 2 "in_box" p_7)
variable (GN:DefOk P w K mg base 3 "in_boxes" r_7)
variable (GO:DefOk P w K mg base 6 "box_inside" D_1)
variable (GP:DefOk P w K mg base 7 "is_claimed" C_7)
variable (GQ:DefOk P w K mg base 2 "chains_below" f_1)
variable (GR:DefOk P w K mg base 10 "claims_turn" g_1)
variable (GS:DefX P w K mg base 6 "marks_behind" b_8)
variable (GT:DefOk P w K mg base 8 "row_is_right" q_2)
variable (GU:DefN P w K mg base 4 "forth_boxes" k_1)
variable (GV:DefOk P w K mg base 5 "box_some" s_2)
variable (GW:DefOk P w K mg base 2 "thing_box" u_1)
variable (GX:DefOk P w K mg base 6 "ways_back" a_8)
variable (GY:DefOk P w K mg base 7 "back_coming" o_1)
variable (GZ:DefOk P w K mg base 1 "often_enough" q_3)
variable (Ha:DefOk P w K mg base 9 "chain_comings" f_4)
variable (Hb:DefOk P w K mg base 7 "origins_of" h_4)
variable (Hc:DefOk P w K mg base 1 "mark_shutting" n_8)
variable (Hd:DefOk P w K mg base 8 "ways_to" J_0)
variable (He:DefOk P w K mg base 9 "marks_shutting_chain" c_2)
variable (Hf:DefX P w K mg base 10 "cell_turning" c_8)
variable (Hg:DefX P w K mg base 11 "check_paper" c_4)
variable (Hh:DefX P w K mg base 11 "settled_paper" c_3)
variable (Hj:DefX P w K mg base 10 "settles_at" d_2)
variable (Hk:DefOk P w K mg base 1 "_law_cell_at" f_0)
variable (Hl:DefOk P w K mg base 1 "_law_good" c_1)
variable (Hm:DefN P w K mg base 1 "_law_stream" n_3)
variable (Hn:DefOk P w K mg base 12 "_law_word" b_0)
variable (Ho:DefB P w K mg base 1 "_law_works" u_3)
theorem S00:FnScope ["self","name"] ["self","name"] (a_2 ag7):=scO
abbrev I_5:Stmt:=top 4
noncomputable abbrev ax0:List Str:=["x"]
theorem S01:FnScope ax0 ["x"] (a_2 I_5):=scO
def aL1 (F:Dn K mg "is_key" I_5 ["x"]):DefOk P w K mg base 1 "is_key" v_6 :=
 dnF F S01 (λ _ O A outer s H E Y=>rfK S01 T Y rf0 λ k=>xsC (o_0 (xw (aT7 (aT9 (xtv (xty (t:=.str) T.z_isinstance T.z_str PyProof.Rows.boot_str (xv 0)) (λ _=>rfl))) (aa3 (aT9 (xt3 cLe cLe a_4 (rfE k.1) (cv8 T.c_LONGEST)))))) (rfB k) xsN) (xs1 (i_6 (xB (as9 rfl) rfl T.z_all Zw (xaC (xlc (sc:=a_2 I_5) rfl rfl (by show ScB ax0 (a_2 I_5) _ "sign" [] [] ;exact scB) (xv 0) (λ _ _ _ _=>z_4) (λ _ _ _ _=>(Z_8 bL5 (xv 0) (cv7 T.c_LETTERS)))) xaN)))))
abbrev r_3:Stmt:=top 5
theorem S02:FnScope ["keys","key"] ["keys","key"] (a_2 r_3):=scO
abbrev f_6:Stmt:=top 6
noncomputable abbrev v_8:List Str:=["one","other","names"]
theorem S03:FnScope v_8 ["one","other"] (a_2 f_6):=scO
def J_3 (F:Dn K mg "keys_meet" f_6 ["one","other"]):DefOk P w K mg base 3 "keys_meet" j_3 :=
 dnF F S03 (λ _ O A outer s H E Y=>rfK S03 T Y (rf1 Ga rf0) λ k=>xsC (o_0 (rfT k.1) (xs1 (i_6 bj5)) xsN) (xsC (o_0 (rfT k.1) (xs1 (i_6 bj5)) xsN) (xsC (i_5 2 S03.nd (xTy i_8 rfl T.z_tuple Qr (xaC (xlc (sc:=a_2 f_6) rfl rfl (by show ScB v_8 (a_2 f_6) _ "name" ["other"] [1] ;exact scB) (rfE k.1) (λ _ _ _ _=>(E_9 (rfT (rfC k)))) (λ _ _ _ _=>(xv 0))) xaN))) (rfB k))))
def W_0 (F:Dn K mg "keys_meet" f_6 ["one","other"]):DefOk P w K mg base 4 "keys_meet" d_8 :=
 dnF F S03 (λ _ O A outer s H E Y=>rfK S03 T Y (rf1 Gb (rf1 Ga rf0)) λ k=>xsC (o_0 (rfT k.1) (xs1 (i_6 (l_8 (xaC d_0 (xaC (xTy i_8 rfl T.z_tuple Qr (xaC (ar3 T.z_set T.z_sorted (rfE k.1) (rfE k.1)) xaN)) xaN))))) xsN) (xsC (rfS k) (xsC (i_5 2 S03.nd (xTy i_8 rfl T.z_tuple Qr (xaC (xlc (sc:=a_2 f_6) rfl rfl (by show ScB v_8 (a_2 f_6) _ "name" ["other"] [1] ;exact scB) (rfE k.1) (λ _ _ _ _=>(E_9 (rfT (rfC k)))) (λ _ _ _ _=>(xv 0))) xaN))) (rfB k))))
abbrev I_3:Stmt:=top 7
theorem S04:FnScope ["one","other"] ["one","other"] (a_2 I_3):=scO
abbrev p_5:Stmt:=top 11
noncomputable abbrev S_0:List Str:=["keys","others","shut","key","names"]
theorem S05:FnScope S_0 ["keys","others"] (a_2 p_5):=scO
def am8 {f:Addr}{fd:FuncData} (F:Fun K "keys_some" "keys_some" p_5 f fd) (bF:Binds K fd ["keys","others"] []) (mF:mg "keys_some"=some (.ref f)) (hC:∃ c,fd.code=.ref c ∧ PySem.W.codeHdIn K c 59=true):DefOk P w K mg base 3 "keys_some" S_7 :=
 ⟨f,fd,["keys","others"],bj6 F S05 rfl rfl (λ Z A outer s H E Y O =>
 (xsC (xdn 2 S05.nd)
 (xsC (bz7 (xgN 3 S05.nd) (xv 1)
 (xs1 (xdk 2 (o_7 O) (xv 3) xbl)))
 (xsC (o_0 (xt (cEq O.units) (d_3 (xv 0) a_4) d_0)
 (xsC (cj8 2 (ar4 4 S05.nd (sc:=a_2 p_5) rfl rfl (by show ScB S_0 (a_2 p_5) _ "name" ["shut"] [2];exact scB) (d_3 (xv 0) a_4) (λ _ _ _ _=>(E_9 (xt (bL6 (o_7 O)) (xv 0) (xv 1)))) (λ _ _ _ _=>(xv 0))))
 (xs1 (i_6 (bF4 (TabP:=59) (TabQ:="keys_some.<locals>.<lambda>") (x:="name") (F:=(c_0 (aC (eF s_4 (aC (eV 0) aN)) (aC (eV 0) aN)))) (O.mono (by decide)) (by decide) (by obtain⟨c,h1,h2⟩:=hC;exact⟨c,Y.symm.trans h1,h2⟩) (by exact⟨rfl,rfl,rfl,by decide +kernel,rfl,by decide +kernel,by decide +kernel⟩) (by intros;rfl) (by intro f c A outer s H E;exact (l_8 (xaC (xB l_2 rfl T.z_len PySem.boot_len (xaC (xv 0) xaN)) (xaC (xv 0) xaN)))) T.z_min (xaC (xv 4) xaN)))))
 xsN)
 ai8)))),bF,F.kp,mF⟩
abbrev m_3:Stmt:=top 14
theorem S06:FnScope ["low","high","step","rest","first","last"] ["low","high","step","rest"] (a_2 m_3):=scO
abbrev p_4:Stmt:=top 15
theorem S07:FnScope ["v","low","high"] ["v","low","high"] (a_2 p_4):=scO
abbrev n_1:Stmt:=top 16
theorem S08:FnScope ["one","v"] ["one","v"] (a_2 n_1):=scO
abbrev n_2:Stmt:=top 17
theorem S09:FnScope ["one","other"] ["one","other"] (a_2 n_2):=scO
abbrev n_0:Stmt:=top 18
theorem S0a:FnScope ["one","other"] ["one","other"] (a_2 n_0):=scO
abbrev j_0:Stmt:=top 19
theorem S0b:FnScope ["one","low","high"] ["one","low","high"] (a_2 j_0):=scO
abbrev B_3:Stmt:=top 20
theorem S0c:FnScope ["one","c"] ["one","c"] (a_2 B_3):=scO
abbrev B_2:Stmt:=top 21
theorem S0d:FnScope ["one","c"] ["one","c"] (a_2 B_2):=scO
abbrev g_9:Stmt:=top 22
noncomputable abbrev t_1:List Str:=["one","a","b","ends","step"]
theorem S0e:FnScope t_1 ["one","a","b"] (a_2 g_9):=scO
def D_0 (F:Dn K mg "stretch_moved" g_9 ["one","a","b"]):DefOk P w K mg base 2 "stretch_moved" d_7 :=
 dnF F S0e (λ _ O A outer s H E Y=>rfK S0e T Y (rf1 Gc rf0) λ k=>xsC (ar4 3 S0e.nd (sc:=a_2 g_9) rfl rfl (by show ScB t_1 (a_2 g_9) _ "end" ["b","a"] [2,1] ;exact scB) (rfE k.1) (λ _ _ _ _=>z_4) (λ _ _ _ _=>(rfE (rfC k)))) (rfB k))
abbrev g_7:Stmt:=top 23
theorem S0f:FnScope ["a","m","g","s","other","t","times","less"] ["a","m"] (a_2 g_7):=scO
def s_9 (F:Dn K mg "divisor_and_factor" g_7 ["a","m"]):DefOk P w K mg base 1 "divisor_and_factor" e_0 :=
 dnF F S0f (λ _ O A outer s H E Y=>rfK S0f T Y rf0 λ k=>xsC (rfS k) (xsC (rfS k) (xsC (rfS k) (xsC (rfS k) (xsC (aO5 (rfT k.1) (rfB k)) (rfB k))))))
abbrev m_4:Stmt:=top 24
theorem S0g:FnScope ["one","a","b","found","divisor","away","step","ends","low","high"] ["one","a","b"] (a_2 m_4):=scO
def G_0 (F:Dn K mg "stretch_back" m_4 ["one","a","b"]):DefOk P w K mg base 2 "stretch_back" b_4 :=
 dnF F S0g (λ _ O A outer s H E Y=>rfK S0g T Y (rf1 Gd (rf1 Gc rf0)) λ k=>xsC (o_0 (rfT k.1) (xs1 (i_6 bj5)) xsN) (rfB k))
abbrev m_2:Stmt:=top 25
theorem S0h:FnScope ["one","other","turns"] ["one","other"] (a_2 m_2):=scO
abbrev A_1:Stmt:=top 26
theorem S0i:FnScope ["one","other"] ["one","other"] (a_2 A_1):=scO
abbrev H_9:Stmt:=top 27
theorem S0j:FnScope ["values"] ["values"] (a_2 H_9):=scO
def aB2 {f:Addr}{fd:FuncData} (F:Fun K "nearest" "nearest" H_9 f fd) (bF:Binds K fd ["values"] []) (Z:mg "nearest"=some (.ref f)) (hC:∃ c,fd.code=.ref c ∧ PySem.W.codeHdIn K c 154=true):DefOk P w K mg base 3 "nearest" S_6 :=
 ⟨f,fd,["values"],bj6 F S0j rfl rfl (λ Y A outer s H E O hr =>
 (xs1 (i_6 (bF4 (TabP:=154) (TabQ:="nearest.<locals>.<lambda>") (x:="v") (F:=(c_0 (aC (eF aO0 (aC (eV 0) aN)) (aC (e1 aT1 (eV 0)) aN)))) (hr.mono (by decide)) (by decide) (by obtain⟨c,h1,h2⟩:=hC;exact⟨c,O.symm.trans h1,h2⟩) (by exact⟨rfl,rfl,rfl,by decide +kernel,rfl,by decide +kernel,by decide +kernel⟩) (by intros;rfl) (by intro f c A outer s H E;exact (l_8 (xaC (xB H_5 rfl T.z_abs PyProof.Rows.boot_abs (xaC (xv 0) xaN)) (xaC (bw7 (xv 0)) xaN)))) T.z_min (xaC (xv 0) xaN))))),bF,F.kp,Z⟩
abbrev v_9:Stmt:=top 28
theorem S0k:FnScope ["one","above","below","ends"] ["one"] (a_2 v_9):=scO
def P_5 (F:Dn K mg "stretch_some" v_9 ["one"]):DefOk P w K mg base 4 "stretch_some" F_3 :=
 dnF F S0k (λ _ O A outer s H E Y=>rfK S0k T Y (rf1 Ge (rf1 Gf (rf1 Gg rf0))) λ k=>xsC (rfS k) (xsC (rfS k) (xsC (bj2 3 S0k.nd (cv4 (rfT k.1) (aU5 xaN) (aU5 (rfA k.1)))) (xsC (o_0 (rfT k.1) (xs1 (aE8 3 (rfA k.1))) xsN) (xs1 (aO6 3 (rfS k)))))))
abbrev u_0:Stmt:=top 30
theorem S0l:FnScope ["keys","begin","end","stretch"] ["keys","begin","end","stretch"] (a_2 u_0):=scO
abbrev ak4:Stmt:=top 31
theorem S0m:FnScope ["box","thing","time"] ["box","thing"] (a_2 ak4):=scO
abbrev t_9:Stmt:=top 32
theorem S0n:FnScope ["one","other","keys","stretch"] ["one","other"] (a_2 t_9):=scO
abbrev M_5:Stmt:=top 33
theorem S0o:FnScope ["one","other"] ["one","other"] (a_2 M_5):=scO
abbrev P_0:Stmt:=top 34
theorem S0p:FnScope ["thing"] ["thing"] (a_2 P_0):=scO
abbrev ab0:Stmt:=top 35
theorem S0q:FnScope ["box"] ["box"] (a_2 ab0):=scO
abbrev m_7:Stmt:=top 36
noncomputable abbrev G_7:List Str:=["boxes","other","met"]
theorem S0r:FnScope G_7 ["boxes","other"] (a_2 m_7):=scO
def an0 (F:Dn K mg "boxes_met" m_7 ["boxes","other"]):DefOk P w K mg base 6 "boxes_met" b_9 :=
 dnF F S0r (λ _ O A outer s H E Y=>rfK S0r T Y (rf1 Gh rf0) λ k=>xsC (rfS k) (xsC (ar4 2 S0r.nd (sc:=a_2 m_7) rfl rfl (by show ScB G_7 (a_2 m_7) _ "box" ["other"] [1] ;exact scB) (xv 0) (λ _ _ _ _=>z_4) (λ _ _ _ _=>(rfE (rfC k)))) (xs1 (i_6 (xlc (sc:=a_2 m_7) rfl rfl (by show ScB G_7 (a_2 m_7) _ "box" [] [] ;exact scB) (xv 2) (λ _ _ _ _=>(E_9 (rfT (rfC k)))) (λ _ _ _ _=>(xv 0)))))))
abbrev r_0:Stmt:=top 49
theorem S0s:FnScope ["works","name","row"] ["works","name"] (a_2 r_0):=scO
def V_6 (F:Dn K mg "row_named" r_0 ["works","name"]):DefOk P w K mg base 1 "row_named" h_8 :=
 dnF F S0s (λ _ O A outer s H E Y=>rfK S0s T Y rf0 λ k=>xsC (bz7 (xgN 2 S0s.nd) (xv 0) (rfB k)) (rfB k))
abbrev q_7:Stmt:=top 50
noncomputable abbrev M_7:List Str:=["works","name","below","row","from_name"]
theorem S0t:FnScope M_7 ["works","name"] (a_2 q_7):=scO
def ae0 (F:Dn K mg "rows_below" q_7 ["works","name"]):DefOk P w K mg base 1 "rows_below" r_1 :=
 dnF F S0t (λ _ Y A outer s H E O=>rfK S0t T O rf0 λ k=>xsC (xd1 2 S0t.nd (xv 1) xbl) (xsC (ck0 T.z_reversed (xgN 3 S0t.nd) (xv 0) (xs1 (o_0 (bF2 2 (xt (cu7 (o_7 O)) (rfE k.1) (xv 2))) (xs1 (bz7 (xgN 4 S0t.nd) (rfE k.1) (xs1 (xdk 2 (o_7 O) (xv 4) xbl)))) xsN))) (xs1 (cj8 2 (i_6 (xlc (sc:=a_2 q_7) rfl rfl (by show ScB M_7 (a_2 q_7) _ "row" ["below"] [2] ;exact scB) (xv 0) (λ _ _ _ _=>(E_9 (xt (cu7 (o_7 O)) (rfE (rfC k)) (xv 1)))) (λ _ _ _ _=>(rfE (rfC k)))))))))
abbrev k_8:Stmt:=top 51
noncomputable abbrev F_2:List Str:=["works","name","below"]
theorem S0u:FnScope F_2 ["works","name"] (a_2 k_8):=scO
def Q_4 (F:Dn K mg "chains_below" k_8 ["works","name"]):DefOk P w K mg base 2 "chains_below" f_1 :=
 dnF F S0u (λ _ O A outer s H E Y=>rfK S0u T Y (rf1 Gi rf0) λ k=>xsC (rfS k) (xs1 (i_6 (xlc (sc:=a_2 k_8) rfl rfl (by show ScB F_2 (a_2 k_8) _ "row" ["below"] [2] ;exact scB) (xv 0) (λ _ _ _ _=>(E_9 (rfT (rfC k)))) (λ _ _ _ _=>(xv 0))))))
abbrev K_9:Stmt:=top 53
theorem S0v:FnScope ["x"] ["x"] (a_2 K_9):=scO
def ar9 (F:Dn K mg "is_whole" K_9 ["x"]):DefOk P w K mg base 1 "is_whole" p_8 :=
 dnF F S0v (λ _ O A outer s H E Y =>
 (xs1 (i_6 (bw8 (xty (t:=.int) T.z_isinstance T.z_int Zv (xv 0)) (bj3 (cv5 (xty (t:=.bool) T.z_isinstance T.z_bool PyProof.Rows.boot_bool (xv 0))))))))
abbrev aj9:Stmt:=top 54
theorem S0w:FnScope ["x"] ["x"] (a_2 aj9):=scO
abbrev I_4:Stmt:=top 55
theorem S0x:FnScope ["row","thing"] ["row","thing"] (a_2 I_4):=scO
abbrev G_5:Stmt:=top 56
theorem S0y:FnScope ["works","coming","row"] ["works","coming"] (a_2 G_5):=scO
def am9 (F:Dn K mg "is_coming" G_5 ["works","coming"]):DefOk P w K mg base 4 "is_coming" G_8 :=
 dnF F S0y (λ _ O A outer s H E Y=>rfK S0y T Y (rf1 Gj (rf1 Gk (rf1 Gl rf0))) λ k=>xsC (o_0 (xw (aT7 (aT9 (xtv (xty (t:=.tuple) T.z_isinstance T.z_tuple Qr (xv 1)) (λ _=>rfl))) (aa3 (rfT k.1)))) (rfB k) xsN) (rfB k))
abbrev y_2:Stmt:=top 57
theorem S0z:FnScope ["works","marks","row"] ["works"] (a_2 y_2):=scO
def X_3 (F:Dn K mg "first_marks" y_2 ["works"]):DefN P w K mg base 1 "first_marks" n_9:=by
 obtain⟨f,fd,F,Y,mF⟩:=F;exact   ⟨f,fd,["works"],bs7 F S0z rfl rfl (λ Z A outer s H E O =>
 (xnC (xnS (xdn 1 S0z.nd))
 (xnC (xnS (bz7 (xgN 2 S0z.nd) (xv 0)
 (xs1 (o_0 (xt (cEq O.units) (d_3 (xv 2) a_4) d_0)
 (xs1 (xdk 1 (o_7 O) (d_3 (xv 2) a_4) a_4))
 xsN))))
 (xnO 1)))),Y,F.kp,mF⟩
abbrev x_0:Stmt:=top 58
theorem S10:FnScope ["works","marks","coming","mark"] ["works","marks","coming"] (a_2 x_0):=scO
def Q_3 (F:Dn K mg "check_coming" x_0 ["works","marks","coming"]):DefX P w K mg base 5 "check_coming" h_5:=by
 obtain⟨f,fd,F,bF,mF⟩:=F;obtain⟨c3,cW,fI,aa,c0,c1,c2,Z⟩:=T.xn;exact⟨f,fd,["works","marks","coming"],bs6 F S10 rfl rfl (λ Y A outer s H E O =>
 (xxC (bM8 (aT9 (xtv (xG Gm O (xaC (xv 0) (xaC (xv 2) xaN))) (λ _=>rfl)))
 (xx1 (ac1 E_4 Z.m_NoComing Z.x_NoComing))
 (bM7 xsN))
 (xxC (xxs (i_5 3 S10.nd (xdx (o_7 O) (xv 1) (d_3 (xv 2) a_4))))
 (xxC (bM8 (xt cIs (xv 3) l_4)
 (xx1 (ac1 E_4 Z.m_Late Z.x_Late))
 (bM7 xsN))
 (xx1 (bM8 (xw (E_8 (xt (ci9 O.units) (d_3 (xv 2) a_4) d_0) (v_0 (xt cLt (d_3 (xv 2) a_4) (xv 3)))))
 (xx1 (ac1 E_4 Z.m_Late Z.x_Late))
 (bM7 xsN))))))),bF,F.kp,mF⟩
abbrev ad3:Stmt:=top 59
theorem S11:FnScope ["marks","coming","behind"] ["marks","coming"] (a_2 ad3):=scO
def aL0 (F:Dn K mg "marked" ad3 ["marks","coming"]):DefN P w K mg base 1 "marked" J_1:=by
 obtain⟨f,fd,F,Y,mF⟩:=F;exact   ⟨f,fd,["marks","coming"],bs7 F S11 rfl rfl (λ Z A outer s H E O =>
 (xnC (xnS (xdc 2 S11.nd T.z_dict (xv 0)))
 (xnC (xnS (o_0 (xt (cEq O.units) (d_3 (xv 1) a_4) d_0)
 (xs1 (xdk 2 (o_7 O) (d_3 (xv 1) a_4) (d_3 (xv 1) a_4)))
 xsN))
 (xnC (xnS (o_0 (xt (cEq O.units) (d_3 (xv 1) a_4) d_0)
 (xs1 (xdk 2 (o_7 O) (d_3 (xv 1) a_4) l_4))
 xsN))
 (xnO 2))))),Y,F.kp,mF⟩
abbrev w_6:Stmt:=top 60
theorem S12:FnScope ["works","comings","marks","coming"] ["works","comings"] (a_2 w_6):=scO
def Q_2 (F:Dn K mg "marks_behind" w_6 ["works","comings"]):DefX P w K mg base 6 "marks_behind" b_8:=by
 obtain⟨f,fd,F,Y,mF⟩:=F;exact   ⟨f,fd,["works","comings"],bs5 F S12 rfl rfl (λ Z A outer s H E O =>
 (xxC (xxs (i_5 2 S12.nd (xNF Go (O.mono (by decide)) (xaC (xv 0) xaN))))
 (xxC (cj3 bG3 (xgN 3 S12.nd) (xv 1)
 (xxC (aa4 q_0 Gn (O.mono (by decide)) (xaC (xv 0) (xaC (xv 2) (xaC (xv 3) xaN))))
 (xx1 (xxs (i_5 2 S12.nd (xNF Gp (O.mono (by decide)) (xaC (xv 2) (xaC (xv 3) xaN))))))))
 (xx1 (xxs (i_6 (xv 2))))))),Y,F.kp,mF⟩
abbrev s_7:Stmt:=top 66
noncomputable abbrev Q_9:List Str:=["row","things","comings"]
theorem S13:FnScope Q_9 ["row","things","comings"] (a_2 s_7):=scO
def al7 (F:Dn K mg "things_of" s_7 ["row","things","comings"]):DefOk P w K mg base 1 "things_of" t_8 :=
 dnF F S13 (λ _ O A outer s H E Y=>rfK S13 T Y rf0 λ k=>xsC (o_0 (rfT k.1) (xs1 (i_6 (xlc (sc:=a_2 s_7) rfl rfl (by show ScB Q_9 (a_2 s_7) _ "coming" ["row"] [0] ;exact scB) (xv 2) (λ _ _ _ _=>(E_9 (rfT (rfC k)))) (λ _ _ _ _=>(rfE (rfC k)))))) xsN) (xs1 (i_6 bj5)))
abbrev x_1:Stmt:=top 67
theorem S14:FnScope ["works","comings","things","row"] ["works","comings"] (a_2 x_1):=scO
def Q_5 (F:Dn K mg "chain_things" x_1 ["works","comings"]):DefN P w K mg base 2 "chain_things" f_2:=by
 obtain⟨f,fd,F,Y,mF⟩:=F;exact   ⟨f,fd,["works","comings"],bs7 F S14 rfl rfl (λ Z A outer s H E O =>
 (xnC (xnS (xdn 2 S14.nd))
 (xnC (xnS (bz7 (xgN 3 S14.nd) (xv 0)
 (xs1 (o_0 (xt bL5 (d_3 (xv 3) a_4) (aF3 T.c_CHAINS))
 (xs1 (xdk 2 (o_7 O) (d_3 (xv 3) a_4) (cj6 2 (xB (ap7 O.units) rfl T.z_sorted Qk (xaC (xG Gq O (xaC (xv 3) (xaC (xv 2) (xaC (xv 1) xaN)))) xaN)))))
 xsN))))
 (xnO 2)))),Y,F.kp,mF⟩
abbrev G_6:Stmt:=top 71
theorem S15:FnScope ["fold_word","values"] ["fold_word","values"] (a_2 G_6):=scO
def an3 (F:Dn K mg "amount_of" G_6 ["fold_word","values"]):DefOk P w K mg base 1 "amount_of" e_6 :=
 dnF F S15 (λ _ O A outer s H E Y=>rfK S15 T Y rf0 λ k=>xsC (rfS k) (xsC (o_0 (rfT k.1) (xs1 (i_6 (xB (bC2 rfl) rfl T.z_sum PyProof.Rows.boot_sum (rfA k.1)))) xsN) (rfB k)))
abbrev r_4:Stmt:=top 73
theorem S16:FnScope ["gap","things","sessions","last","thing","session"] ["gap","things"] (a_2 r_4):=scO
def W_8 (F:Dn K mg "sessions_of" r_4 ["gap","things"]):DefOk P w K mg base 1 "sessions_of" r_5:=by
 obtain⟨f,fd,F,bF,mF⟩:=F;refine⟨f,fd,["gap","things"],F.ok S16 (λ vs H Q E h=>?_) (λ ac A outer s H vs Q E hr h=>?_),bF,F.kp,mF⟩
 ·obtain⟨Hi,ds,d,_,r,e,_⟩:=h;obtain⟨gap,xs,st,rfl,_⟩:=aj7 e;rw[<- r.length];rfl
 ·obtain⟨Hi,ds,d,hs,r,e,q⟩:=h;obtain⟨gap,xs,st,rfl,O,h3,aa,rfl⟩:=aj7 e;obtain⟨v1,v2,rfl,q1,q2⟩:=Reps.v2 r;unfold Rep at q1 q2;subst q1;obtain⟨pt,ws,rfl,sq,rw⟩:=q2;have hu:(R_5 CX0 P w K mg base ["gap","things","sessions","last","thing","session"] "sessions_of" (a_2 r_4) f ac A outer s H E).nox.A.units+1<cLine:=(by omega:∀ a b:Nat,a+64<b → a+1<b) _ _ hr.units;refine⟨_,k_9 (x_7 S16.nd (i:=2) rfl (.inl rfl) (ah9 l_0)) (k_9 (x_7 S16.nd (i:=3) rfl (.inl rfl) aw5)
   (k_9 (ah6 j5 rfl (ab1 (n_6 (ab9 hr.units) rfl T.z_sorted Qk (c_5 (pvr 1) l_0))) (av9 S16.nd (i:=4) rfl (.inl rfl))
    (k_9 (x_7 S16.nd (i:=5) rfl (.inl rfl) (aW7 hu (pvr 3) (ab2 ix_tup (pvr 4) K_4 (λ _ _=>rfl)) ⟨rfl,rfl,rfl,rfl⟩))
    (k_9 (aY1 (PW.pt (bF9 (au7 bo8 (pvr 5) bn8 rfl) (bm4 (au7 bN9 (aI4 bo5 (ab2 ix_tup (pvr 4) K_4 (λ _ _=>rfl)) (ab2 ix_tup (ab2 ix_list (pvr 5) (bG0 bj9 K_4) (λ _ _=>rfl)) K_4 (λ _ _=>rfl))) (pvr 0) rfl))))
     (k_9 (x_7 S16.nd (i:=5) rfl (.inl rfl) (ah9 l_0)) (k_9 (aY3 hu (pvr 3) (ab2 ix_tup (pvr 4) K_4 (λ _ _=>rfl)) (pvr 5) rfl) (s_8 (bh5 2 (pvr 5))))) au8)
    (s_8 (bh5 5 (pvr 4))))))
   (s_8 (au9 (pvr 2))))),?_⟩
  refine⟨by decide,λ S hS T Z=>?_⟩;have ST:S≠T:=c_6 a_3 Z;have T0:H T=none:=by rw[b_2 (yi ST)] at Z;exact Z
  have Y:Same H (upd (upd H S (.lst [])) T (.dK [])):=λ b o z=>by rw[b_2 (c_6 z T0),b_2 (c_6 z hS)];exact z
  refine⟨.ref pt,rfl,pt,xs,ws,Hi,rfl,Same.seq (hs.trans Y) sq,hs.trans Y,rw,O,.inl h3,λ l ae hl rs=>⟨l,rfl,⟨ae,SqL.of a_3⟩,?_⟩⟩;have l0:H l=none:=Y.free hl;have Sl:S≠l:=λ z=>by subst z;rw[b_2 ST,a_3] at hl;cases hl
  have Tl:T≠l:=λ z=>by subst z;rw[a_3] at hl;cases hl
  refine aV2 (gap:=gap) (fin:=st) (Hin:=H) (S:=S) (T:=T) (ds:=k_0 xs) ⟨λ b o z=>by rw[b_2 (c_6 z l0)];exact Y b o z,a_3,by rw[b_2 Sl,b_2 ST,a_3];rfl,by rw[b_2 Tl,a_3],hS,T0,yi Sl,rfl,λ i a x z=>(by cases z),List.nodup_nil,λ x z=>(by cases z),λ k=>rfl,qr _⟩
   hs rs (by rw[(p_1 xs).length_eq];exact O) aa _ _ _ _ λ H' t' w' refs kvs hh=>?_
  obtain⟨Hi',ad,rp⟩:=hh.fin hs;exact⟨.ref S,rfl,q _ Hi' H' ad rp⟩
abbrev i_0:Stmt:=top 74
noncomputable abbrev C_6:List Str:=["row","things","cells","session","amount"]
theorem S17:FnScope C_6 ["row","things"] (a_2 i_0):=scO
def N_9 (F:Dn K mg "session_cells" i_0 ["row","things"]):DefOk P w K mg base 2 "session_cells" j_2 :=
 dnF F S17 (λ _ Y A outer s H E O=>rfK S17 T O (rf1 Gr (rf1 Gs rf0)) λ k=>xsC (bj2 2 S17.nd (aU5 xaN)) (xsC (bz7 (xgN 3 S17.nd) (rfE k.1) (xsC (i_5 4 S17.nd (xG Gr O (xaC (rfE k.1) (xaC (xlc (sc:=a_2 i_0) rfl rfl (by show ScB C_6 (a_2 i_0) _ "thing" [] [] ;exact scB) (xv 3) (λ _ _ _ _=>z_4) (λ _ _ _ _=>(rfE (rfC k)))) xaN)))) (xs1 (aE8 2 (rfA k.1))))) (xs1 (aO6 2 (rfS k)))))
abbrev C_1:Stmt:=top 75
theorem S18:FnScope ["row","things"] ["row","things"] (a_2 C_1):=scO
def ae8 (F:Dn K mg "fold_cells" C_1 ["row","things"]):DefOk P w K mg base 3 "fold_cells" j_5 :=
 dnF F S18 (λ _ Y A outer s H E O=>rfK S18 T O (rf1 Gt rf0) λ k=>xs1 (i_6 (xB (ap7 O.units) rfl T.z_sorted Qk (xaC (xif (rfT k.1) (rfE k.1) bj5) xaN))))
abbrev H_7:Stmt:=top 76
theorem S19:FnScope ["row","amount"] ["row","amount"] (a_2 H_7):=scO
abbrev aj8:Stmt:=top 78
theorem S1a:FnScope ["key","begin","end"] ["key","begin","end"] (a_2 aj8):=scO
abbrev M_4:Stmt:=top 79
theorem S1b:FnScope ["fold","key","window","rest"] ["fold","key","window"] (a_2 M_4):=scO
abbrev ak3:Stmt:=top 80
theorem S1c:FnScope ["fold","key","window"] ["fold","key","window"] (a_2 ak3):=scO
abbrev C_3:Stmt:=top 81
theorem S1d:FnScope ["works","ask","key","window","row"] ["works","ask","key","window"] (a_2 C_3):=scO
def ae9 (F:Dn K mg "check_cell" C_3 ["works","ask","key","window"]):DefX P w K mg base 5 "check_cell" a_1:=by
 obtain⟨f,fd,F,bF,mF⟩:=F;obtain⟨c3,cW,fI,aa,c0,c1,c2,Z⟩:=T.xn;exact⟨f,fd,["works","ask","key","window"],bs6 F S1d rfl rfl (λ Y A outer s H E O =>
 (xxC (xxs (i_5 4 S1d.nd (xG Gl O (xaC (xv 0) (xaC (xv 1) xaN)))))
 (xx1 (bM8 (xw (aT7 (xt cIs (xv 4) l_4) (aT7 (xt (ci9 O.units) (d_3 (xv 4) a_4) d_0) (aa3 (aT9 (xtv (xG Gu O (xaC (xG Gl O (xaC (xv 0) (xaC (d_3 (d_3 (xv 4) a_4) a_4) xaN))) (xaC (xv 2) (xaC (xv 3) xaN)))) (λ _=>rfl)))))))
 (xx1 (ac1 E_4 Z.m_NoCell Z.x_NoCell))
 (bM7 xsN))))),bF,F.kp,mF⟩
abbrev t_0:Stmt:=top 82
noncomputable abbrev R_7:List Str:=["box","things"]
theorem S1e:FnScope R_7 ["box","things"] (a_2 t_0):=scO
def al8 (F:Dn K mg "things_in" t_0 ["box","things"]):DefOk P w K mg base 4 "things_in" i_2 :=
 dnF F S1e (λ _ O A outer s H E Y=>rfK S1e T Y (rf1 Gv rf0) λ k=>xsC (rfS k) (xs1 (i_6 (xlc (sc:=a_2 t_0) rfl rfl (by show ScB R_7 (a_2 t_0) _ "thing" ["box"] [0] ;exact scB) (xv 1) (λ _ _ _ _=>(E_9 (rfT (rfC k)))) (λ _ _ _ _=>(xv 0))))))
abbrev t_6:Stmt:=top 83
noncomputable abbrev S_4:List Str:=["fold","box","things","values"]
theorem S1f:FnScope S_4 ["fold","box","things"] (a_2 t_6):=scO
def an8 (F:Dn K mg "amount_in" t_6 ["fold","box","things"]):DefOk P w K mg base 5 "amount_in" u_4 :=
 dnF F S1f (λ _ O A outer s H E Y=>rfK S1f T Y (rf1 Gr (rf1 Gw rf0)) λ k=>xsC (ar4 3 S1f.nd (sc:=a_2 t_6) rfl rfl (by show ScB S_4 (a_2 t_6) _ "thing" [] [] ;exact scB) (rfE k.1) (λ _ _ _ _=>z_4) (λ _ _ _ _=>(rfE (rfC k)))) (rfB k))
abbrev A_9:Stmt:=top 84
theorem S1g:FnScope ["fold_word","amount","stretch"] ["fold_word","amount","stretch"] (a_2 A_9):=scO
abbrev g_2:Stmt:=top 85
noncomputable abbrev A_3:List Str:=["ask_row","fold_word","amount","stretch","bounds","part","passed","parts"]
theorem S1h:FnScope A_3 ["ask_row","fold_word","amount","stretch"] (a_2 g_2):=scO
def L_9 (F:Dn K mg "turning_values" g_2 ["ask_row","fold_word","amount","stretch"]):DefOk P w K mg base 5 "turning_values" b_1 :=
 dnF F S1h (λ _ O A outer s H E Y=>rfK S1h T Y (rf1 Gf (rf1 Gg (rf1 Gx (rf1 Gy (rf1 Gz rf0))))) λ k=>xsC (i_5 4 S1h.nd (cv3 (rfE k.1) (rfE k.1))) (xsC (rfS k) (xsC (rfS k) (xsC (o_0 (rfT k.1) (xsC (rfS k) (xs1 (i_6 (xlc (sc:=a_2 g_2) rfl rfl (by show ScB A_3 (a_2 g_2) _ "part" [] [] ;exact scB) (xv 7) (λ _ _ _ _=>(E_9 (rfT (rfC k)))) (λ _ _ _ _=>(xv 0)))))) xsN) (rfB k)))))
abbrev s_6:Stmt:=top 86
theorem S1i:FnScope ["ask_row","fold_word","amount","boxes","found","box","stretch"] ["ask_row","fold_word","amount","boxes"] (a_2 s_6):=scO
def N_2 (F:Dn K mg "turning_boxes" s_6 ["ask_row","fold_word","amount","boxes"]):DefOk P w K mg base 6 "turning_boxes" d_1 :=
 dnF F S1i (λ _ O A outer s H E Y=>rfK S1i T Y (rf1 GA (rf1 GB rf0)) λ k=>xsC (bj2 4 S1i.nd (aU5 xaN)) (xsC (bz7 (xgN 5 S1i.nd) (xv 3) (xs1 (bz7 (xgN 6 S1i.nd) (rfE k.1) (xs1 (aE8 4 (rfA k.1)))))) (xs1 (aO6 4 (rfS k)))))
abbrev A_0:Stmt:=top 87
theorem S1j:FnScope ["ask_row","fold","box","there","boxes"] ["ask_row","fold","box","there","boxes"] (a_2 A_0):=scO
abbrev p_3:Stmt:=top 88
theorem S1k:FnScope ["ask_row","fold","key","window","there","boxes","gap","ahead","session","last","within","found"] ["ask_row","fold","key","window","there","boxes"] (a_2 p_3):=scO
def I_6 (F:Dn K mg "session_turning" p_3 ["ask_row","fold","key","window","there","boxes"]):DefOk P w K mg base 7 "session_turning" e_4 :=
 dnF F S1k (λ _ Y A outer s H E O=>rfK S1k T O (rf1 GC (rf1 GD (rf1 GE (rf1 Gw (rf1 GF rf0))))) λ k=>xsC (rfS k) (xsC (rfS k) (xsC (i_5 8 S1k.nd (cj7 T.z_dict O.units (rfE k.1) (rfE k.1))) (rfB k))))
abbrev C_4:Stmt:=top 89
theorem S1l:FnScope ["ask_row","fold","key","window","there","boxes"] ["ask_row","fold","key","window","there","boxes"] (a_2 C_4):=scO
abbrev P_4:Stmt:=top 101
theorem S1m:FnScope ["works","ask","ask_row","fold"] ["works","ask"] (a_2 P_4):=scO
abbrev P_2:Stmt:=top 102
theorem S1n:FnScope ["below","by_names"] ["below","by_names"] (a_2 P_2):=scO
def aA9 (F:Dn K mg "of_from" P_2 ["below","by_names"]):DefOk P w K mg base 1 "of_from" r_2 :=
 dnF F S1n (λ _ Y A outer s H E O=>rfK S1n T O rf0 λ k=>xsC (o_0 (rfT k.1) (xs1 (i_6 bj5)) xsN) (xs1 (i_6 (xdx (o_7 O) (xv 1) (rfE k.1)))))
abbrev C_5:Stmt:=top 103
theorem S1o:FnScope ["works","ask","key","window","there","boxes","rows","ways","found"] ["works","ask","key","window","there","boxes"] (a_2 C_5):=scO
def af0 (F:Dn K mg "boxes_turn" C_5 ["works","ask","key","window","there","boxes"]):DefX P w K mg base 9 "boxes_turn" d_9:=by
 obtain⟨f,fd,F,Y,mF⟩:=F;exact   ⟨f,fd,["works","ask","key","window","there","boxes"],bs5 F S1o rfl rfl (λ Z A outer s H E O =>
 (xxC (aa4 q_0 GI (O.mono (by decide)) (xaC (xv 0) (xaC (xv 1) (xaC (xv 2) (xaC (xv 3) xaN)))))
 (xxC (xxs (i_5 6 S1o.nd (xG GG O (xaC (xv 0) (xaC (xv 1) xaN)))))
 (xxC (xxs (o_0 (xt (cEq O.units) (d_3 (d_3 (xv 6) a_4) a_4) d_0)
 ai8
 (xs1 (i_5 8 S1o.nd (xG GH O (xaC (d_3 (xv 6) a_4) (xaC (d_3 (xv 6) a_4) (xaC (xv 2) (xaC (xv 3) (xaC (xv 4) (xaC (xv 5) xaN)))))))))))
 (xx1 (xxs (i_6 (Z_8 cGt (xB l_2 rfl T.z_len PySem.boot_len (xaC (xv 8) xaN)) a_4)))))))),Y,F.kp,mF⟩
abbrev y_4:Stmt:=top 104
theorem S1p:FnScope ["works","comings","ask","key","window","claims","below","there"] ["works","comings","ask","key","window","claims"] (a_2 y_4):=scO
def X_4 (F:Dn K mg "claims_turn" y_4 ["works","comings","ask","key","window","claims"]):DefOk P w K mg base 10 "claims_turn" g_1 :=
 dnF F S1p (λ _ Y A outer s H E O=>rfK S1p T O (rf1 GG (rf1 GL rf0)) λ k=>xsC (rfS k) (xsC (i_5 7 S1p.nd (xG GL O (xaC (xv 6) (xaC (xNF GK (O.mono (by decide)) (rfA k.1)) xaN)))) (xs1 (i_6 (xFX GJ (O.mono (by decide)) (rfA k.1))))))
abbrev D_9:Stmt:=top 106
theorem S1q:FnScope ["row","mark"] ["row","mark"] (a_2 D_9):=scO
abbrev L_7:Stmt:=top 107
theorem S1r:FnScope ["row","marks","mark"] ["row","marks"] (a_2 L_7):=scO
def as0 (F:Dn K mg "in_boxes" L_7 ["row","marks"]):DefOk P w K mg base 3 "in_boxes" r_7 :=
 dnF F S1r (λ _ Y A outer s H E O=>rfK S1r T O (rf1 GM rf0) λ k=>xsC (i_5 2 S1r.nd (xdx (o_7 O) (xv 1) (rfE k.1))) (rfB k))
abbrev y_1:Stmt:=top 108
theorem S1s:FnScope ["works","marks","boxes","row"] ["works","marks"] (a_2 y_1):=scO
def X_1 (F:Dn K mg "forth_boxes" y_1 ["works","marks"]):DefN P w K mg base 4 "forth_boxes" k_1:=by
 obtain⟨f,fd,F,Y,mF⟩:=F;exact   ⟨f,fd,["works","marks"],bs7 F S1s rfl rfl (λ Z A outer s H E O =>
 (xnC (xnS (xdn 2 S1s.nd))
 (xnC (xnS (bz7 (xgN 3 S1s.nd) (xv 0)
 (xs1 (o_0 (xt (cEq O.units) (d_3 (xv 3) a_4) d_0)
 (xs1 (xdk 2 (o_7 O) (d_3 (xv 3) a_4) (xG GN O (xaC (xv 3) (xaC (xv 1) xaN)))))
 (xs1 (o_0 (xt bL5 (d_3 (xv 3) a_4) (aF3 T.c_CHAINS))
 ai8
 xsN))))))
 (xnO 2)))),Y,F.kp,mF⟩
abbrev q_8:Stmt:=top 110
noncomputable abbrev M_8:List Str:=["box","claims"]
theorem S1t:FnScope M_8 ["box","claims"] (a_2 q_8):=scO
def ae6 (F:Dn K mg "is_claimed" q_8 ["box","claims"]):DefOk P w K mg base 7 "is_claimed" C_7 :=
 dnF F S1t (λ _ O A outer s H E Y =>
 (xs1 (i_6 (xB (be6 rfl) rfl T.z_any PyProof.Rows.boot_any (xaC (xlc (sc:=a_2 q_8) rfl rfl (by show ScB M_8 (a_2 q_8) _ "claim" ["box"] [0];exact scB) (xv 1) (λ _ _ _ _=>z_4) (λ _ _ _ _=>(xG GO Y (xaC (xv 1) (xaC (xv 0) xaN))))) xaN)))))
abbrev k_6:Stmt:=top 111
noncomputable abbrev F_0:List Str:=["row","marks","paper","boxes"]
theorem S1u:FnScope F_0 ["row","marks","paper"] (a_2 k_6):=scO
def P_6 (F:Dn K mg "row_is_right" k_6 ["row","marks","paper"]):DefOk P w K mg base 8 "row_is_right" q_2 :=
 dnF F S1u (λ _ Y A outer s H E O=>rfK S1u T O (rf1 GN (rf1 GP rf0)) λ k=>xsC (o_0 (xt (bL6 (o_7 O)) (rfE k.1) (xv 2)) (rfB k) xsN) (xsC (i_5 3 S1u.nd (xif (rfT k.1) (rfE k.1) bj5)) (xs1 (i_6 (xB (as9 rfl) rfl T.z_all Zw (xaC (xlc (sc:=a_2 k_6) rfl rfl (by show ScB F_0 (a_2 k_6) _ "box" ["paper","row"] [2,0] ;exact scB) (xv 3) (λ _ _ _ _=>z_4) (λ _ _ _ _=>(xG GP O (xaC (xv 0) (xaC (xdx (o_7 O) (xv 1) (rfE (rfC k))) xaN))))) xaN))))))
abbrev y_8:Stmt:=top 112
theorem S1v:FnScope ["works","comings","ask","key","window","paper","marks","row"] ["works","comings","ask","key","window","paper"] (a_2 y_8):=scO
def X_5 (F:Dn K mg "check_paper" y_8 ["works","comings","ask","key","window","paper"]):DefX P w K mg base 11 "check_paper" c_4:=by
 obtain⟨f,fd,F,bF,mF⟩:=F;obtain⟨c3,cW,fI,aa,c0,c1,c2,Z⟩:=T.xn;have I:=bc3 (CX:=CXE P w) (P:=P) (w:=w) (mg:=mg) (base:=base) (f:="name") Z.fn S00 (by decide) rfl (λ _ _ _ _ _ _=>rfl) (by decide) (by decide);exact⟨f,fd,["works","comings","ask","key","window","paper"],bs5 F S1v rfl rfl (λ Y A outer s H E O =>
 (xxC (aT2 6 q_0 S1v.nd GS (O.mono (by decide)) (xaC (xv 0) (xaC (xv 1) xaN)))
 (xxC (aa4 q_0 GI (O.mono (by decide)) (xaC (xv 0) (xaC (xv 2) (xaC (xv 3) (xaC (xv 4) xaN)))))
 (xxC (xxs (bz7 (hp:=bG3) (xgN 7 S1v.nd) (xG GQ O (xaC (xv 0) (xaC (xv 2) xaN)))
 (xs1 (o_0 (aT9 (xtv (xG GT O (xaC (xv 7) (xaC (xv 6) (xaC (xv 5) xaN)))) (λ _=>rfl)))
 ai8
 xsN))))
 (xx1 (bM8 (xtv (xG GR O (xaC (xv 0) (xaC (xv 1) (xaC (xv 2) (xaC (xv 3) (xaC (xv 4) (xaC (xv 5) xaN))))))) (λ _=>rfl))
 (xx1 (aF2 au2 Z.m0 Z.x0 Z.s1 I (O.mono (by decide)) Z.b0 (xv 2)))
 (bM7 xsN))))))),bF,F.kp,mF⟩
abbrev t_2:Stmt:=top 114
theorem S1w:FnScope ["works","comings","ask","key","window","marks","boxes","paper","row"] ["works","comings","ask","key","window"] (a_2 t_2):=scO
def N_4 (F:Dn K mg "settled_paper" t_2 ["works","comings","ask","key","window"]):DefX P w K mg base 11 "settled_paper" c_3:=by
 obtain⟨f,fd,F,Y,mF⟩:=F;exact   ⟨f,fd,["works","comings","ask","key","window"],bs5 F S1w rfl rfl (λ Z A outer s H E O =>
 (xxC (aT2 5 q_0 S1w.nd GS (O.mono (by decide)) (xaC (xv 0) (xaC (xv 1) xaN)))
 (xxC (aa4 q_0 GI (O.mono (by decide)) (xaC (xv 0) (xaC (xv 2) (xaC (xv 3) (xaC (xv 4) xaN)))))
 (xxC (xxs (i_5 6 S1w.nd (xNF GU (O.mono (by decide)) (xaC (xv 0) (xaC (xv 5) xaN)))))
 (xxC (xxs (o_0 (xtv (xG GR O (xaC (xv 0) (xaC (xv 1) (xaC (xv 2) (xaC (xv 3) (xaC (xv 4) (xaC (xv 6) xaN))))))) (λ _=>rfl))
 (xs1 (i_6 l_4))
 xsN))
 (xxC (xxs (xdn 7 S1w.nd))
 (xxC (xxs (bz7 (hp:=bG3) (xgN 8 S1w.nd) (xG GQ O (xaC (xv 0) (xaC (xv 2) xaN)))
 (xs1 (xdk 7 (o_7 O) (d_3 (xv 8) a_4) (xdx (o_7 O) (xv 6) (d_3 (xv 8) a_4))))))
 (xx1 (xxs (cj8 7 (i_6 (xv 7)))))))))))),Y,F.kp,mF⟩
abbrev j_8:Stmt:=top 116
theorem S1x:FnScope ["works","name","box","row","below","ways","from_name","met"] ["works","name","box"] (a_2 j_8):=scO
def V_5 (F:Dn K mg "ways_back" j_8 ["works","name","box"]):DefOk P w K mg base 6 "ways_back" a_8 :=
 dnF F S1x (λ _ O A outer s H E Y=>rfK S1x T Y (rf1 Gh (rf1 GM (rf1 Gl rf0))) λ k=>xsC (rfS k) (xsC (rfS k) (xsC (rfS k) ai8)))
abbrev z_0:Stmt:=top 117
theorem S1y:FnScope ["works","marks","name","thing","in_name","box","still"] ["works","marks","name","thing"] (a_2 z_0):=scO
def X_6 (F:Dn K mg "back_coming" z_0 ["works","marks","name","thing"]):DefOk P w K mg base 7 "back_coming" o_1 :=
 dnF F S1y (λ _ O A outer s H E Y=>rfK S1y T Y (rf1 GV (rf1 GC (rf1 GN (rf1 Gl (rf1 GW (rf1 GX rf0)))))) λ k=>xsC (bz7 (xgT (bh3 (xgN 4 S1y.nd) (bh3 (xgN 5 S1y.nd) bz5))) (rfE k.1) (xsC (rfS k) (xs1 (o_0 (rfT k.1) (xs1 (i_6 (xb cm2 (rfE k.1) (rfE k.1)))) xsN)))) (rfB k))
abbrev p_0:Stmt:=top 119
theorem S1z:FnScope ["works","name"] ["works","name"] (a_2 p_0):=scO
abbrev w_5:Stmt:=top 121
theorem S20:FnScope ["ask_row","fold","key","window","there"] ["ask_row","fold","key","window","there"] (a_2 w_5):=scO
def P_7 (F:Dn K mg "often_enough" w_5 ["ask_row","fold","key","window","there"]):DefOk P w K mg base 1 "often_enough" q_3 :=
 dnF F S20 (λ _ O A outer s H E Y=>rfK S20 T Y rf0 λ k=>xsC (rfS k) (xs1 (i_6 bj5)))
abbrev t_5:Stmt:=top 122
theorem S21:FnScope ["works","marks","rows","key","window","there","boxes","turning","coming"] ["works","marks","rows","key","window","there","boxes"] (a_2 t_5):=scO
def O_0 (F:Dn K mg "chain_comings" t_5 ["works","marks","rows","key","window","there","boxes"]):DefOk P w K mg base 9 "chain_comings" f_4 :=
 dnF F S21 (λ _ O A outer s H E Y=>rfK S21 T Y (rf1 GY (rf1 GV (rf1 GH (rf1 GZ rf0)))) λ k=>xsC (rfS k) (xsC (rfS k) (xsC (rfS k) (xs1 (i_6 (xfr (cj4 (rfA k.1) (rfE k.1))))))))
abbrev x_2:Stmt:=top 124
theorem S22:FnScope ["works","comings","ask","key","window","marks","rows","there","boxes","turning"] ["works","comings","ask","key","window"] (a_2 x_2):=scO
def Q_8 (F:Dn K mg "cell_turning" x_2 ["works","comings","ask","key","window"]):DefX P w K mg base 10 "cell_turning" c_8:=by
 obtain⟨f,fd,F,Y,mF⟩:=F;exact   ⟨f,fd,["works","comings","ask","key","window"],bs5 F S22 rfl rfl (λ Z A outer s H E O =>
 (xxC (aT2 5 q_0 S22.nd GS (O.mono (by decide)) (xaC (xv 0) (xaC (xv 1) xaN)))
 (xxC (aa4 q_0 GI (O.mono (by decide)) (xaC (xv 0) (xaC (xv 2) (xaC (xv 3) (xaC (xv 4) xaN)))))
 (xxC (xxs (i_5 6 S22.nd (xG GG O (xaC (xv 0) (xaC (xv 2) xaN)))))
 (xxC (xxs (i_5 7 S22.nd (xG GL O (xaC (d_3 (xv 6) a_4) (xaC (xNF GK (O.mono (by decide)) (xaC (xv 0) (xaC (xv 1) xaN))) xaN)))))
 (xxC (xxs (i_5 8 S22.nd (xG GL O (xaC (d_3 (xv 6) a_4) (xaC (xNF GU (O.mono (by decide)) (xaC (xv 0) (xaC (xv 5) xaN))) xaN)))))
 (xxC (xxs (o_0 (xt (cEq O.units) (d_3 (d_3 (xv 6) a_4) a_4) d_0)
 ai8
 (xs1 (i_5 9 S22.nd (xG Ha O (xaC (xv 0) (xaC (xv 5) (xaC (xv 6) (xaC (xv 3) (xaC (xv 4) (xaC (xv 7) (xaC (xv 8) xaN))))))))))))
 (xx1 (xxs (i_6 (xif (xtv (xv 9) (λ _=>rfl)) (xv 9) l_4))))))))))),Y,F.kp,mF⟩
abbrev O_9:Stmt:=top 125
theorem S23:FnScope ["works","marks","name","ways","origin","box","later","mark","still"] ["works","marks","name"] (a_2 O_9):=scO
def aA8 (F:Dn K mg "ways_to" O_9 ["works","marks","name"]):DefOk P w K mg base 8 "ways_to" J_0 :=
 dnF F S23 (λ _ Y A outer s H E O=>rfK S23 T O (rf1 GA (rf1 Hb rf0)) λ k=>xsC (bj2 3 S23.nd (aU5 xaN)) (xsC (cj9 T.z_zip (xgT (bh3 (xgN 4 S23.nd) (bh3 (xgN 5 S23.nd) bz5))) (rfE k.1) (xdx (o_7 O) (xNF GU (O.mono (by decide)) (xaC (xv 0) (xaC (xNF Go (O.mono (by decide)) (rfA k.1)) xaN))) (xv 2)) (xsC (rfS k) (xsC (i_5 7 S23.nd (xdx (o_7 O) (xv 1) (rfE k.1))) (xsC (rfS k) (xs1 (o_0 (rfT k.1) (xs1 (aE8 3 (rfA k.1))) xsN)))))) (xs1 (aO6 3 (rfS k)))))
abbrev B_6:Stmt:=top 126
theorem S24:FnScope ["name","way","end"] ["name","way","end"] (a_2 B_6):=scO
abbrev h_6:Stmt:=top 127
theorem S25:FnScope ["works","marks","rows","key","window","there","name","shutting","box","way","turning"] ["works","marks","rows","key","window","there","name"] (a_2 h_6):=scO
def z_5 (F:Dn K mg "marks_shutting_chain" h_6 ["works","marks","rows","key","window","there","name"]):DefOk P w K mg base 9 "marks_shutting_chain" c_2 :=
 dnF F S25 (λ _ O A outer s H E Y=>rfK S25 T Y (rf1 GH (rf1 Hc (rf1 Hd rf0))) λ k=>xsC (bj2 7 S25.nd (aU5 xaN)) (xsC (bz7 (xgT (bh3 (xgN 8 S25.nd) (bh3 (xgN 9 S25.nd) bz5))) (rfE k.1) (xs1 (bz7 (xgN 10 S25.nd) (rfE k.1) (xs1 (aE8 7 (rfA k.1)))))) (xs1 (aO6 7 (rfS k)))))
abbrev B_5:Stmt:=top 129
theorem S26:FnScope ["works","comings","ask","key","window","name","marks","in_row","rows","there","shutting"] ["works","comings","ask","key","window","name"] (a_2 B_5):=scO
def ad8 (F:Dn K mg "settles_at" B_5 ["works","comings","ask","key","window","name"]):DefX P w K mg base 10 "settles_at" d_2:=by
 obtain⟨f,fd,F,Y,mF⟩:=F;exact   ⟨f,fd,["works","comings","ask","key","window","name"],bs5 F S26 rfl rfl (λ Z A outer s H E O =>
 (xxC (aT2 6 q_0 S26.nd GS (O.mono (by decide)) (xaC (xv 0) (xaC (xv 1) xaN)))
 (xxC (aa4 q_0 GI (O.mono (by decide)) (xaC (xv 0) (xaC (xv 2) (xaC (xv 3) (xaC (xv 4) xaN)))))
 (xxC (xxs (i_5 7 S26.nd (xG Gl O (xaC (xv 0) (xaC (xv 5) xaN)))))
 (xxC (xxs (o_0 (xw (aT7 (xt cIs (xv 7) l_4) (aa3 (xt (ci9 O.units) (d_3 (xv 7) a_4) d_0))))
 ai8
 xsN))
 (xxC (xxs (i_5 8 S26.nd (xG GG O (xaC (xv 0) (xaC (xv 2) xaN)))))
 (xxC (xxs (i_5 9 S26.nd (xG GL O (xaC (d_3 (xv 8) a_4) (xaC (xNF GK (O.mono (by decide)) (xaC (xv 0) (xaC (xv 1) xaN))) xaN)))))
 (xxC (xxs (o_0 (xt (cEq O.units) (d_3 (d_3 (xv 8) a_4) a_4) d_0)
 ai8
 (xs1 (i_5 10 S26.nd (xG He O (xaC (xv 0) (xaC (xv 6) (xaC (xv 8) (xaC (xv 3) (xaC (xv 4) (xaC (xv 9) (xaC (xv 5) xaN))))))))))))
 (xxC (xxs (o_0 (aT9 (xtv (xv 10) (λ _=>rfl)))
 (xs1 (i_6 (xdx (o_7 O) (xv 6) (xv 5))))
 xsN))
 (xx1 (xxs (i_6 (xif (xt bL5 l_4 (xv 10)) l_4 (xB (ae7 rfl) rfl T.z_max PyProof.Rows.boot_max (xaC (xv 10) xaN))))))))))))))),Y,F.kp,mF⟩
abbrev n_4:Stmt:=top 131
theorem S27:FnScope ["_law_script","_law_k"] ["_law_script","_law_k"] (a_2 n_4):=scO
abbrev C_0:Stmt:=top 132
theorem S28:FnScope ["_law_cell","_law_size","_law_found","_law_number","_law_other","_law_k","_law_rest"] ["_law_cell","_law_size"] (a_2 C_0):=scO
def ae3 (F:Dn K mg "_law_stream" C_0 ["_law_cell","_law_size"]):DefN P w K mg base 1 "_law_stream" n_3:=by
 obtain⟨f,fd,F,O,Z⟩:=F;exact   ⟨f,fd,["_law_cell","_law_size"],bs7 F S28 rfl rfl (λ Y A outer s H E hr =>
 (xnC (xnS (bj2 2 S28.nd (aU5 xaN)))
 (cv6 (xt cGe (xv 0) (xb ca4 a_4 a_4))
 (xnC (xnS (i_5 6 S28.nd (xb ba3 (xv 0) a_4)))
 (xnC (xnS (T_5 T.z_range (xgN 5 S28.nd) (xv 1) (xsC (aE8 2 (xaC (xb j_9 (xv 6) a_4) xaN))
 (xs1 (i_5 6 S28.nd (xb ba3 (xv 6) a_4))))))
 (cj5 2)))
 (xnC (xnS (i_5 3 S28.nd (xb j_9 (xb ac2 (xb l_5 (xb j_9 (xv 0) a_4) a_4) a_4) a_4)))
 (xnC (xnS (i_5 4 S28.nd (xb j_9 (xb ac2 (xb l_5 (xb j_9 (xv 0) a_4) a_4) a_4) a_4)))
 (xnC (xnS (T_5 T.z_range (xgN 5 S28.nd) (xv 1) (xsC (i_5 3 S28.nd (xb l_5 (xb l_5 (xb j_9 (xb ac2 (xv 3) (xb l_5 (xb ba3 (xv 3) a_4) a_4)) a_4) (xv 5)) a_4))
 (xsC (i_5 4 S28.nd (xb j_9 (xb ac2 (xv 4) a_4) a_4))
 (xs1 (aE8 2 (xaC (xb l_5 (xv 3) (xv 4)) xaN)))))))
 (xnO 2))))))),O,F.kp,Z⟩
abbrev t_4:Stmt:=top 133
noncomputable abbrev R_9:List Str:=["_law_xs","_law_width","_law_step","_law_works_here"]
theorem S29:FnScope R_9 ["_law_xs"] (a_2 t_4):=scO
def al9 (F:Dn K mg "_law_works" t_4 ["_law_xs"]):DefB P w K mg base 1 "_law_works" u_3 :=
 dnB F S29 (λ _ O A outer s H E Y=>rfK S29 T Y rf0 λ k=>@YSs.go _ _ _ (ysC (yx (rfS k)) (ysC (yx (rfS k)) (ysC (yx (rfS k)) (ysC (yx (rfS k)) (ysC (yx (rfS k)) (ys1 (am4 (yb l_5 (ye (xv 3)) (ye (xlc (sc:=a_2 t_4) rfl rfl (by show ScB R_9 (a_2 t_4) _ "_law_end" [] [] ;exact scB) d_0 (λ _ _ _ _=>z_4) (λ _ _ _ _=>(rfE (rfC k))))))))))))))
abbrev x_5:Stmt:=top 134
noncomputable abbrev ab6:List Str:=["_law_works_here","_law_ask","_law_key","_law_window"]
theorem S2a:FnScope ab6 ["_law_works_here","_law_ask","_law_key","_law_window"] (a_2 x_5):=scO
def ar7 (F:Dn K mg "_law_good" x_5 ["_law_works_here","_law_ask","_law_key","_law_window"]):DefOk P w K mg base 1 "_law_good" c_1 :=
 dnF F S2a (λ _ O A outer s H E Y=>rfK S2a T Y rf0 λ k=>xsC (o_0 (xw (aT7 (rfT k.1) (aT7 (aT9 (xtv (xty (t:=.str) T.z_isinstance T.z_str PyProof.Rows.boot_str (xv 2)) (λ _=>rfl))) (aa3 (xtv (xty (t:=.bool) T.z_isinstance T.z_bool PyProof.Rows.boot_bool (xv 3)) (λ _=>rfl)))))) (rfB k) xsN) (xsC (o_0 (xw (aT7 (rfT k.1) (aT7 (rfT k.1) (aa3 (aT9 (xtv (xB (as9 rfl) rfl T.z_all Zw (xaC (xlc (sc:=a_2 x_5) rfl rfl (by show ScB ab6 (a_2 x_5) _ "_law_sign" [] [] ;exact scB) (xv 2) (λ _ _ _ _=>z_4) (λ _ _ _ _=>(rfE (rfC k)))) xaN)) (λ _=>rfl))))))) (rfB k) xsN) (xsC (o_0 (xw (aT7 (aT9 (xtv (xty (t:=.int) T.z_isinstance T.z_int Zv (xv 3)) (λ _=>rfl))) (aT7 (rfT k.1) (aa3 (rfT k.1))))) (rfB k) xsN) (rfB k))))
abbrev K_8:Stmt:=top 135
theorem S2b:FnScope ["_law_works_here","_law_comings","_law_ask","_law_key","_law_window","_law_way","e"] ["_law_works_here","_law_comings","_law_ask","_law_key","_law_window","_law_way"] (a_2 K_8):=scO
def ar6 (F:Dn K mg "_law_word" K_8 ["_law_works_here","_law_comings","_law_ask","_law_key","_law_window","_law_way"]):DefOk P w K mg base 12 "_law_word" b_0:=by
 obtain⟨f,fd,F,bF,mF⟩:=F;obtain⟨c3,cW,fI,ac,c0,c1,c2,Z⟩:=T.xn;refine⟨f,fd,_,F.ok S2b (λ vs H Q E h=>?_) (λ aa A outer s H vs Q E O h=>?_),bF,F.kp,mF⟩
 ·obtain⟨Hi,ds,d,_,r,e,_⟩:=h;rw[<- r.length];exact (ai9 e).1
 ·obtain⟨Hi,ds,d,hs,r,e,q⟩:=h;obtain⟨hl,z,h1,h2⟩:=ai9 e;have R0:=RS.start (n:=7) (m:=1) hs r (by rw[<- r.length,hl]);refine⟨_,(bq4 Z (cj0 (λ _ _ z=>z) (xt (cEq O.units) (xv 5) a_4) (aq0 (λ _ _ z=>z) Hf (O.mono (by decide)) (xaC (xv 0) (xaC (xv 1) (xaC (xv 2) (xaC (xv 3) (xaC (xv 4) xaN))))))
   (cj0 (λ _ _ z=>z) (xt (cEq O.units) (xv 5) a_4) (aq0 (λ _ _ z=>z) Hj (O.mono (by decide)) (xaC (xv 0) (xaC (xv 1) (xaC (xv 2) (xaC (xv 3) (xaC (xv 4) (xaC d_0 xaN)))))))
   (cj0 (λ _ _ z=>z) (xt (cEq O.units) (xv 5) a_4) (aq0 (λ _ _ z=>z) Hh (O.mono (by decide)) (xaC (xv 0) (xaC (xv 1) (xaC (xv 2) (xaC (xv 3) (xaC (xv 4) xaN))))))
   (cj0 (λ _ _ z=>z) (xt (cEq O.units) (xv 5) a_4) (aq0 (λ _ _ z=>z) Hg (O.mono (by decide)) (@YA.go _ _ _ (yaC (ye (xv 0)) (yaC (ye (xv 1)) (yaC (ye (xv 2)) (yaC (ye (xv 3)) (yaC (ye (xv 4)) (yaC (yD1 (ye d_0) (aa1 (yaC (g_6 (yaC (g_6 (yaC (ye d_0) (yaC (g_6 yaN) yaN))) (yaC (ye a_4) (yaC (ye l_4) (yaC (g_6 (yaC (ye l_4) (yaC (ye l_4) (yaC (ye a_4) (yaC (ye a_4) yaN))))) yaN))))) yaN))) yaN))))))))
   (aq0 (λ _ _ z=>z) GJ (O.mono (by decide)) (xaC (xv 0) (xaC (xv 2) (xaC (xv 3) (xaC (xv 4) (xaC (J_8 xaN) (xaC (J_8 xaN) xaN)))))))))))
   rfl rfl S2b.nd rfl rfl rfl rfl rfl rfl (λ a dd vs=>PE.wk (aI4 op_add_str V_2 (aI4 bw0 V_2 (x_8 aD6 rfl T.z_int Zv
    (c_5 (aK7 (bn7 (n_6 (u_7 (v:=.ref cW) Z.kc (λ w r=>r) Z.tW) rfl T.z_isinstance rfl (c_5 (pv 6) (c_5 (V_3 Z.m2) l_0))))
     (aK7 (n_6 (u_7 (v:=.ref c1) Z.kc (λ w r=>r) Z.t1) rfl T.z_isinstance rfl (c_5 (pv 6) (c_5 (V_3 Z.m_Late) l_0)))
     (bn6 (n_6 (u_7 (v:=.ref c2) Z.kc (λ w r=>r) Z.t2) rfl T.z_isinstance rfl (c_5 (pv 6) (c_5 (V_3 Z.m_NoComing) l_0)))))) l_0)))) λ σ H Q ⟨Y,xt,q⟩=>?_)),Hi,H,Hi,_,z,d,R0,h1,h2,λ v H0' H' S rv=>q v H0' H' S rv⟩
  exact⟨.ref a,Y,rfl,xt,true,rfl,false,rfl,.ref a,Y,rfl,xt,false,rfl,.ref a,Y,rfl,xt,.inr ⟨_,rfl,_,_,rfl,rfl,bx0 (by decide) (by decide) (by decide),_,_,rfl,rfl,by decide +kernel,by
   have e:Str.ofString "nocell"++Txt.mul (Str.ofString "!") (if false=true then 1 else 0)=Str.ofString "nocell":=by decide +kernel
   rw[e];exact q⟩⟩
abbrev aa8:Stmt:=top 136
noncomputable abbrev bR2:List Str:=["_law_script","_law_xs","_law_works_here","_law_comings","_law_wrong","_law_none","_law_other","_law_turn","_law_ask","_law_key","_law_far","_law_window","_law_due","_law_way","_law_late"]
theorem S2c:FnScope bR2 ["_law_script"] (a_2 aa8):=scO
def bs4 {f:Addr}{fd:FuncData} (F:Fun K "law" "law" aa8 f fd):FnOk P w K mg base CX0 13 f fd ["_law_script"] (spP K ac7) :=
 k_7 F S2c rfl rfl (λ Y A outer s H E O=>rfK S2c T O (rf1 Hk (rf1 Hl (rf1 Hn (rf2 Ho rf0)))) λ k=>@YSs.go _ _ _ (ysC (yx (bW0 1 S2c.nd Hm (O.mono (by decide)) (rfA k.1))) (ysC (yx (rfS k)) (ysC (yx (aT3 3 S2c.nd 1 0 T.z_range (sc:=a_2 aa8) rfl rfl (by show ScB bR2 (a_2 aa8) _ "_law_k" ["_law_xs"] [1] ;exact scB) (rfE k.1) (λ _ _ _ _=>z_4) (λ _ _ _ _=>(rfE (rfC k))))) (ysC (yx (rfS k)) (ysC (yx (rfS k)) (ysC (yx (rfS k)) (ysC (bi9 T.z_range (xgN 7 S2c.nd) a_4 (ysC (yx (rfS k)) (ysC (yx (rfS k)) (ysC (yx (rfS k)) (ysC (yx (rfS k)) (ysC (yx (rfS k)) (ys1 (bi9 T.z_range (xgN 13 S2c.nd) a_4 ⟨rfB k⟩)))))))) ⟨rfB k⟩))))))))
end
end Fx
namespace Fx
open PySem
structure Th where
 t:Int
 k:Str
 v:Int
 deriving DecidableEq
noncomputable def tD (x:Th):D:=.tup [.int x.t,.str x.k,.int x.v]
noncomputable def keyH (x:List Th):Option Str:=x.head?.map (·.k)
def Stp (gap:Int) (st:List (List Th)) (th:Th) (O:List (List Th)):Prop :=
 ((∀ y∈st,keyH y≠some th.k)/\O=st++[[th]]) \/
 ∃ a x b z,st=a++x::b/\keyH x=some th.k/\(∀ y∈b,keyH y≠some th.k)/\x.getLast?=some z/\((gap<=th.t-z.t/\O=st++[[th]])\/(th.t-z.t<gap/\O=a++(x++[th])::b))
def mm (st:List (List Th)):List (List D):=st.map (List.map tD)
theorem ay1 (x:List Th):(x.map tD).head?.bind aC2=keyH x:=by
 cases x with
 |nil=>rfl
 |cons a r=>rfl
theorem S_8 {k:Str}:∀ {st:List (List Th)}{i:Nat},h_7 k (mm st)=some i->∃ a x b,st=a++x::b/\a.length=i/\keyH x=some k/\∀ y∈b,keyH y≠some k
 |[],i,h=>by cases h
 |x::r,i,h=>by
  have h':(match h_7 k (mm r) with | some i=>some (i+1) | none=>if ((x.map tD).head?.bind aC2)=some k then some 0 else none)=some i:=h;cases q:h_7 k (mm r) with
  |some j =>
   rw[q] at h';obtain⟨a,y,b,e1,e2,e3,e4⟩:=S_8 q;have:j+1=i:=qp h';exact⟨x::a,y,b,by rw[e1];rfl,by rw[zi,e2];exact this,e3,e4⟩
  |none =>
   rw[q] at h';by_cases c:keyH x=some k
   ·have O:(if ((x.map tD).head?.bind aC2)=some k then some 0 else none)=some i:=h';rw[ay1,if_pos c] at O;cases O;refine⟨[],x,r,rfl,rfl,c,λ y Z=>?_⟩;intro z;have:∀ (st:List (List Th)),h_7 k (mm st)=none->∀ y∈st,keyH y≠some k:=by
     intro st;induction st with
     |nil=>intro _ y Z;cases Z
     |cons w st ih =>
      intro hn y Z;have Y:(match h_7 k (mm st) with | some i=>some (i+1) | none=>if ((w.map tD).head?.bind aC2)=some k then some 0 else none)=none:=hn;cases q':h_7 k (mm st) with
      |some j=>rw[q'] at Y;cases Y
      |none =>
       rw[q'] at Y;have O:(if ((w.map tD).head?.bind aC2)=some k then some 0 else none)=(none:Option Nat):=Y;rw[ay1] at O;rcases qz Z with rfl | Z
       ·intro z;rw[if_pos z] at O;cases O
       ·exact ih q' y Z
    exact this r q y Z z
   ·have O:(if ((x.map tD).head?.bind aC2)=some k then some 0 else none)=some i:=h';rw[ay1,if_neg c] at O;cases O
theorem T_0 {k:Str}:∀ {st:List (List Th)},h_7 k (mm st)=none->∀ y∈st,keyH y≠some k
 |[],_,y,Y=>by cases Y
 |w::st,hn,y,Y=>by
  have O:(match h_7 k (mm st) with | some i=>some (i+1) | none=>if ((w.map tD).head?.bind aC2)=some k then some 0 else none)=none:=hn;cases q':h_7 k (mm st) with
  |some j=>rw[q'] at O;cases O
  |none =>
   rw[q'] at O;have Z:(if ((w.map tD).head?.bind aC2)=some k then some 0 else none)=(none:Option Nat):=O;rw[ay1] at Z;rcases qz Y with rfl | Y
   ·intro z;rw[if_pos z] at Z;cases Z
   ·exact T_0 q' y Y
theorem bs3 (gap:Int) (st:List (List Th)) (th:Th):∃ O,p_2 gap (mm st) th.k th.t (tD th)=mm O/\Stp gap st th O:=by
 have new:mm st++[[tD th]]=mm (st++[[th]]):=by unfold mm;rw[yt];rfl
 unfold p_2;cases q:h_7 th.k (mm st) with
 |none=>exact⟨st++[[th]],new,.inl ⟨T_0 q,rfl⟩⟩
 |some i =>
  obtain⟨a,x,b,rfl,rfl,e3,Z⟩:=S_8 q;have gd:(mm (a++x::b)).getD a.length []=x.map tD:=by unfold mm;rw[je,yt,yj (by simp)];simp
  obtain⟨z,hz⟩:∃ z,x.getLast?=some z:=by
   cases Y:x.getLast? with
   |some z=>exact⟨z,rfl⟩
   |none=>rw[List.getLast?_eq_none_iff] at Y;rw[Y] at e3;cases e3
  have jn:ao4 gap th.t (x.map tD)=decide (th.t-z.t<gap):=by unfold ao4;rw[List.getLast?_map,hz];rfl
  show ∃ O,(if ao4 gap th.t ((mm (a++x::b)).getD a.length [])=true then (mm (a++x::b)).set a.length ((mm (a++x::b)).getD a.length []++[tD th]) else mm (a++x::b)++[[tD th]])=mm O/\_;rw[gd,jn];by_cases c:th.t-z.t<gap
  ·refine⟨a++(x++[th])::b,?_,.inr ⟨a,x,b,z,rfl,e3,Z,hz,.inr ⟨c,rfl⟩⟩⟩;rw[if_pos (zu c)];unfold mm;rw[yt,yt,List.set_append_right _ _ (by simp)];simp
  ·refine⟨_,by rw[if_neg (by simpa using c)];exact new,.inr ⟨a,x,b,z,rfl,e3,Z,hz,.inl ⟨by omega,rfl⟩⟩⟩
structure Iv (gap:Int) (pre:List Th) (st:List (List Th)):Prop where
 ne:∀ x∈st,x≠[]
 mem:∀ x∈st,x.length<=pre.length/\∀ u∈x,u∈pre
 srt:∀ x∈st,x.Pairwise λ u w=>u.t<=w.t
 apart:st.Pairwise λ x y=>∀ u∈x,∀ w∈y,u.k=w.k->u.t+gap<=w.t
 key:∀ x∈st,∀ u∈x,∀ w∈x,u.k=w.k
abbrev leT (l:List Th):Prop:=l.Pairwise λ u w=>u.t<=w.t
theorem Iv.keyAt {gap:Int}{O:List Th}{st:List (List Th)} (h:Iv gap O st) {x:List Th} (Z:x∈st) {u:Th} (Y:u∈x):keyH x=some u.k:=by
 cases x with
 |nil=>cases Y
 |cons f r=>exact jm some (h.key _ Z f qm u Y)
theorem bx3 {x:List Th} (s:leT x) {z u:Th} (hz:x.getLast?=some z) (O:u∈x):u.t<=z.t:=by
 obtain⟨Y,e⟩:=List.getLast?_eq_some_iff.mp hz;rw[e] at s O;rcases zb O with O | O
 ·exact (List.pairwise_append.mp s).2.2 u O z qm
 ·rw[List.mem_singleton.mp O];omega
theorem ba5 {x:List Th}{z:Th} (hz:x.getLast?=some z):z∈x:=List.mem_of_getLast? hz
theorem Iv.step {gap:Int}{aa:List Th}{st ae:List (List Th)}{th:Th} (h:Iv gap aa st) (g1:1<=gap) (s:leT (aa++[th])) (hs:Stp gap st th ae):Iv gap (aa++[th]) ae:=by
 have le:∀ u∈aa,u.t<=th.t:=λ u O=>(List.pairwise_append.mp s).2.2 u O th qm;have up:∀ x∈st,x.length<=(aa++[th]).length/\∀ u∈x,u∈aa++[th]:=λ x hx=>⟨by rw[zh];exact Nat.le_add_right_of_le (h.mem x hx).1,λ u O=>Q5 _ ((h.mem x hx).2 u O)⟩
 have new:(∀ y∈st,∀ u∈y,u.k=th.k->u.t+gap<=th.t)->Iv gap (aa++[th]) (st++[[th]]):=λ ad=>by
  have all:∀ {P:List Th->Prop},(∀ x∈st,P x)->P [th]->∀ x∈st++[[th]],P x:=λ a b x hx=>by
   rcases zb hx with hx | hx
   ·exact a x hx
   ·rw[List.mem_singleton.mp hx];exact b
  refine⟨all h.ne nofun,all up (by simp),all h.srt (Qs _ _),List.pairwise_append.mpr ⟨h.apart,Qs _ _,λ x hx y Y u O w hw e=>?_⟩,all h.key (by simp)⟩;rw[List.mem_singleton.mp Y] at hw;obtain rfl:=List.mem_singleton.mp hw;exact ad x hx u O e
 rcases hs with ⟨hn,rfl⟩ | ⟨a,x,b,z,rfl,hk,hb,hz,hs⟩
 ·exact new λ y Y u O e=>absurd (by rw[h.keyAt Y O,e]) (hn y Y)
 ·have xm:x∈a++x::b:=qw _ qm;have zm:=ba5 hz;have zk:z.k=th.k:=(qp (hk.symm.trans (h.keyAt xm zm))).symm;obtain⟨pa,af,ac⟩:=List.pairwise_append.mp h.apart;have lx:∀ u∈x,u.t<=z.t:=λ u O=>bx3 (h.srt x xm) hz O;rcases hs with ⟨ad,rfl⟩ | ⟨near,rfl⟩
  ·refine new λ y Y u O e=>?_;rcases zb Y with Z | Z
   ·have:=ac y Z x qm u O z zm (e.trans zk.symm);omega
   ·rcases qz Z with rfl | Z
    ·have:=lx u O;omega
    ·exact absurd (by rw[h.keyAt Y O,e]) (hb y Z)
  ·have zt:=le z ((h.mem x xm).2 z zm);have all:∀ {P:List Th->Prop},(∀ y∈a++x::b,P y)->P (x++[th])->∀ y∈a++(x++[th])::b,P y:=λ p q y Y=>by
    simp only[List.mem_append,zl] at p Y;rcases Y with Y | rfl | Y
    ·exact p y (.inl Y)
    ·exact q
    ·exact p y (.inr (.inr Y))
   have or:∀ {u},u∈x++[th]->u∈x\/u=th:=λ O=>by simpa using O
   refine⟨all h.ne (by simp),all up ⟨?_,λ u O=>?_⟩,all h.srt (List.pairwise_append.mpr ⟨h.srt x xm,Qs _ _,λ u O w hw=>?_⟩),?_,all h.key ?_⟩
   ·rw[zh,zh];exact Nat.add_le_add_right (h.mem x xm).1 1
   ·rcases or O with O | rfl
    ·exact (up x xm).2 u O
    ·simp
   ·rw[List.mem_singleton.mp hw];have:=lx u O;omega
   ·obtain⟨px,pb⟩:=List.pairwise_cons.mp af;refine List.pairwise_append.mpr ⟨pa,List.pairwise_cons.mpr ⟨λ y Y u O w hw e=>?_,pb⟩,λ y Y y' Z u O w hw e=>?_⟩
    ·rcases or O with O | rfl
     ·exact px y Y u O w hw e
     ·exact absurd (by rw[h.keyAt (List.mem_append_right _ (Q4 _ Y)) hw,e]) (hb y Y)
    ·rcases qz Z with rfl | Z
     ·rcases or hw with hw | rfl
      ·exact ac y Y x qm u O w hw e
      ·have:=ac y Y x qm u O z zm (e.trans zk.symm);omega
     ·exact ac y Y y' (qo _ Z) u O w hw e
   ·have kx:∀ u∈x++[th],u.k=th.k:=λ u O=>by
     rcases or O with O | rfl
     ·exact (h.key x xm u O z zm).trans zk
     ·rfl
    exact λ u O w hw=>(kx u O).trans (kx w hw).symm
theorem Stp.len {gap:Int}{st O:List (List Th)}{th:Th} (h:Stp gap st th O):O.length<=st.length+1:=by
 rcases h with ⟨_,rfl⟩ | ⟨a,x,b,z,rfl,_,_,_,⟨_,rfl⟩ | ⟨_,rfl⟩⟩
 ·rw[zh,zq];omega
 ·rw[zh,zq];omega
 ·rw[zh,zh,zi,zi];omega
theorem aK0 (gap:Int) (g1:1<=gap):∀ (rest O:List Th) (st:List (List Th)),Iv gap O st->leT (O++rest)->∃ fin,G_3 gap (rest.map tD) (mm st)=some (mm fin)/\Iv gap (O++rest) fin/\fin.length<=st.length+rest.length
 |[],O,st,h,_=>⟨st,rfl,by rw[zw];exact h,qr _⟩
 |th::rest,O,st,h,s=>by
  obtain⟨Y,e,hs⟩:=bs3 gap st th;have Z:leT (O++[th]++rest):=by rw[ym];exact s
  have h':=h.step g1 (List.pairwise_append.mp Z).1 hs;obtain⟨fin,e2,h2,h3⟩:=aK0 gap g1 rest (O++[th]) Y h' Z;have:=hs.len;refine⟨fin,?_,by rw[ym] at h2;exact h2,by rw[zi];omega⟩;show G_3 gap (rest.map tD) (p_2 gap (mm st) th.k th.t (tD th))=_;rw[e];exact e2
theorem bU9 (gap:Int):Iv gap [] []:=⟨nofun,nofun,nofun,Yh,nofun⟩
noncomputable def unT:D->Th
 |.tup [.int t,.str k,.int v]=>⟨t,k,v⟩
 |_=>⟨0,Str.empty,0⟩
theorem bH6 (x:Th):unT (tD x)=x:=rfl
theorem bT3 (L:List Th):(L.map tD).map unT=L:=by rw[Qh];exact (Qj λ x _=>bH6 x).trans (Z3 L)
theorem bW1 (x:Th):fK (tD x)=[[x.t],x.k.cps.toList.map Int.ofNat,[x.v]]:=rfl
theorem aM6 {u w:Th} (h:ltK (tD w) (tD u)=false):u.t<=w.t:=by
 refine Int.not_lt.mp λ c=>?_;unfold ltK at h;rw[Qq,bW1,bW1] at h;refine h (List.cons_lt_cons_iff.mpr (.inl (List.cons_lt_cons_iff.mpr (.inl c))))
theorem ofNat_inj:∀ {a b:List Nat},a.map Int.ofNat=b.map Int.ofNat->a=b
 |[],[],_=>rfl
 |[],_::_,h=>by cases h
 |_::_,[],h=>by cases h
 |x::a,y::b,h=>by
  rw[ze,ze] at h;injection h with h1 h2
  rw[Int.ofNat.inj h1,ofNat_inj h2]
theorem bJ5 {x y:Str} (h:x.cps.toList.map Int.ofNat=y.cps.toList.map Int.ofNat):x=y:=by have:=ofNat_inj h;obtain⟨⟨x⟩⟩:=x;obtain⟨⟨y⟩⟩:=y;simp at this;rw[this]
theorem aJ5 (L:List Th):∃ S:List Th,k_0 (L.map tD)=S.map tD/\S.Perm L/\leT S:=by
 have O:=p_1 (L.map tD);have e:k_0 (L.map tD)=((k_0 (L.map tD)).map unT).map tD:=by rw[Qh];refine ((Qj (g:=id) λ d hd=>?_).trans (Z3 _)).symm;obtain⟨x,_,rfl⟩:=List.mem_map.mp (O.mem_iff.mp hd);rfl
 refine⟨(k_0 (L.map tD)).map unT,e,?_,?_⟩
 ·have:=O.map unT;rw[bT3] at this;exact this
 ·have Y:=O_3 (L.map tD);rw[e,Yg] at Y;exact Y.imp λ h=>aM6 h
noncomputable abbrev wC:Str:=Str.ofString "count"
noncomputable abbrev wS:Str:=Str.ofString "sum"
noncomputable abbrev wM:Str:=Str.ofString "most"
noncomputable abbrev wL:Str:=Str.ofString "least"
theorem n1:(wC=wS)=False:=yw (by decide +kernel)
theorem n2:(wC=wM)=False:=yw (by decide +kernel)
theorem n3:(wS=wC)=False:=yw (by decide +kernel)
theorem n4:(wM=wC)=False:=yw (by decide +kernel)
theorem n5:(wM=wS)=False:=yw (by decide +kernel)
theorem n7:(wL=wC)=False:=yw (by decide +kernel)
theorem n8:(wL=wS)=False:=yw (by decide +kernel)
theorem n9:(wL=wM)=False:=yw (by decide +kernel)
abbrev IsW (w:Str):Prop:=w=wC\/w=wS\/w=wM\/w=wL
theorem ax5:∀ (r:List Int) (m:Int),ao8 m r∈m::r
 |[],m=>qm
 |x::r,m=>by
  show ao8 (if m<x then x else m) r∈_;have:=ax5 r (if m<x then x else m);rcases qz this with h | h
  ·rw[h];split <;> simp
  ·exact qo _ (qo _ h)
theorem aL4:∀ (r:List Int) (m:Int),∀ x∈m::r,x<=ao8 m r
 |[],m,x,h=>by rw[List.mem_singleton.mp h];exact Z5 _
 |y::r,m,x,h=>by
  show x<=ao8 (if m<y then y else m) r;have g:=aL4 r (if m<y then y else m);have g0:=g _ qm;have Y:m<=(if m<y then y else m):=by split <;> omega
  have O:y<=(if m<y then y else m):=by split <;> omega
  generalize (if m<y then y else m)=q at *;rcases qz h with rfl | h
  ·omega
  ·rcases qz h with rfl | h
   ·omega
   ·exact g x (qo _ h)
theorem ax1:∀ (r:List Int) (m:Int),ao6 m r∈m::r
 |[],m=>qm
 |x::r,m=>by
  show ao6 (if x<m then x else m) r∈_;have:=ax1 r (if x<m then x else m);rcases qz this with h | h
  ·rw[h];split <;> simp
  ·exact qo _ (qo _ h)
theorem aL2:∀ (r:List Int) (m:Int),∀ x∈m::r,ao6 m r<=x
 |[],m,x,h=>by rw[List.mem_singleton.mp h];exact Z5 _
 |y::r,m,x,h=>by
  show ao6 (if y<m then y else m) r<=x;have g:=aL2 r (if y<m then y else m);have g0:=g _ qm;have Y:(if y<m then y else m)<=m:=by split <;> omega
  have O:(if y<m then y else m)<=y:=by split <;> omega
  generalize (if y<m then y else m)=q at *;rcases qz h with rfl | h
  ·omega
  ·rcases qz h with rfl | h
   ·omega
   ·exact g x (qo _ h)
def mxL:List Int->Int
 |[]=>0 | a::r=>ao8 a r
def mnL:List Int->Int
 |[]=>0 | a::r=>ao6 a r
theorem cm7 {vs:List Int} (h:vs≠[]):mxL vs∈vs/\∀ x∈vs,x<=mxL vs:=by
 cases vs with
 |nil=>exact absurd rfl h
 |cons a r=>exact⟨ax5 r a,aL4 r a⟩
theorem cm8 {vs:List Int} (h:vs≠[]):mnL vs∈vs/\∀ x∈vs,mnL vs<=x:=by
 cases vs with
 |nil=>exact absurd rfl h
 |cons a r=>exact⟨ax1 r a,aL2 r a⟩
def amt (w:Str) (vs:List Int):Int:=if w=wC then (vs.length:Int) else if w=wS then vs.sum else if w=wM then mxL vs else mnL vs
@[simp] theorem cz8 (n k:Nat) (F:En->Option MO) (ds:List D):fnN n k F ds=if ds.length=n then F (ds.map .im++List.replicate k .no) else none:=yR rfl
def bR3 (F:En->Option MO) (o:Option Res):Option MO:=bnd o λ r=>match r with
 |.nx O=>F O
 |_=>none
@[simp] theorem cy0 (A:FS) (F:En->Option MO) (ρ:En):by3 A F ρ=bR3 F (A ρ):=yR rfl
@[simp] theorem cm5 (F:En->Option MO) (ρ:En):bR3 F (some (.nx ρ))=F ρ:=yR rfl
theorem r_6 {i j:Int} (h:j.natAbs<2 ^ 64):j_7 i j=true:=by unfold j_7;rw[zu h];simp
theorem G_2 {i j:Int} (h:i.natAbs<2 ^ 64):j_7 i j=true:=by unfold j_7;rw[zu h];simp
theorem P_1 {j:Int} (O:j≠0) (h:j.natAbs<2 ^ 64):z_8 j=true:=by unfold z_8;rw[zu O,zu (Nat.lt_trans h (Nat.pow_lt_pow_right (by decide) (by decide)))];rfl
theorem a_6  (h:n<=1000):n<=sizeLine:=z0 h (by decide)
theorem O_6:∀ vs:List Int,L_2 (vs.map D.int)=some vs
 |[]=>rfl
 |v::r=>by rw[ze,ad1,O_6 r];rfl
theorem aq2 {w:Str} (hw:IsW w) {vs:List Int} (hv:vs≠[]):e_6 [.str w,.lst (vs.map .int)]=some (.int (amt w vs)):=by
 obtain⟨a,r,rfl⟩:=List.exists_cons_of_ne_nil hv;have es:cb0 [.lst ((a::r).map .int)]=some (.int (a::r).sum):=by rw[ca9,O_6];rfl
 have ex:bi7 [.lst ((a::r).map .int)]=some (.int (ao8 a r)):=by rw[cb2,O_6];rfl
 have Y:bw2 [.lst ((a::r).map .int)]=some (.int (ao6 a r)):=by rw[cb1,O_6];rfl
 have O:s_4 [.lst ((a::r).map .int)]=some (.int (a::r).length):=by rw[bM1,zd]
 unfold amt;generalize D.lst ((a::r).map .int)=x at *;rcases hw with rfl | rfl | rfl | rfl
 ·simp[e_6,v_4,O]
 ·simp[e_6,v_4,es,n3]
 ·simp[e_6,v_4,ex,n4,n5,mxL]
 ·simp[e_6,v_4,Y,n7,n8,n9,mnL]
structure Cl where
 k:Str
 a:Int
 b:Int
 m:Int
noncomputable def cD (c:Cl):D:=.tup [.tup [.str c.k,.int c.a],.tup [.int c.b,.int c.m]]
noncomputable def th0:Th:=⟨0,Str.empty,0⟩
def aN4 (x:List Th):Th:=x.head?.getD th0
def laT (x:List Th):Th:=x.getLast?.getD th0
noncomputable def vls (x:List Th):List D:=(x.map (·.v)).map .int
def vsD (x:List Th):D:=.lst (vls x)
def Y_6 (w:Str) (x:List Th):Cl:=⟨(aN4 x).k,(aN4 x).t,(laT x).t,amt w (x.map (·.v))⟩
theorem bf3 {w:Str} (hw:IsW w) {x:List Th} (O:x≠[]):e_6 [.str w,vsD x]=some (.int (Y_6 w x).m):=aq2 hw (by simpa using O)
theorem aN2 {x:List Th} (O:x≠[]):x.head?=some (aN4 x):=by
 cases x with
 |nil=>exact absurd rfl O
 |cons a r=>rfl
theorem bx6 {x:List Th} (O:x≠[]):x.getLast?=some (laT x):=by
 unfold laT;cases h:x.getLast? with
 |none=>exact absurd (List.getLast?_eq_none_iff.mp h) O
 |some z=>rfl
theorem cz0 {x:List Th} (O:x≠[]):atD (x.map tD) 0=some (tD (aN4 x)):=by
 cases x with
 |nil=>exact absurd rfl O
 |cons a r =>
  unfold atD dPl;rw[if_pos (by decide),if_pos (by simp)];rfl
theorem cy9 {x:List Th} (O:x≠[]):atD (x.map tD) (-1)=some (tD (laT x)):=by have h:=bx6 O;rw[List.getLast?_eq_getElem?] at h;have hl:0<x.length:=List.length_pos_iff.mpr O;unfold atD dPl;rw[zd,if_neg (by decide),if_pos (by omega)];show (x.map tD)[(-1+(x.length:Int)).toNat]?=_;rw[show (-1+(x.length:Int)).toNat=x.length-1 by omega,zy,h];rfl
theorem bC4:∀ x:List Th,cGo tYes (e2 b_5 (eV 0) (zI 2)) [] (x.map tD)=some (vls x)
 |[]=>rfl
 |a::r=>by
  rw[ze,aE0];have t:tYes [.im (tD a)]=some (true,[.im (tD a)]):=rfl;have e:e2 b_5 (eV 0) (zI 2) [.im (tD a)]=some (.int a.v,[.im (tD a)]):=rfl;rw[t,aE2,e,aE1,bC4 r,Y_4];rfl
theorem cn4 (a b c:D):atD [a,b,c] 0=some a:=rfl
theorem cn3 (a b c:D):atD [a,b,c] 1=some b:=rfl
theorem y_7 (a b c d:D):atD [a,b,c,d] 0=some a:=rfl
theorem w_1 (a b c d:D):atD [a,b,c,d] 3=some d:=rfl
theorem w_2 (a b:D):atD [a,b] 0=some a:=rfl
theorem by1 (a b:D):atD [a,b] (-1)=some b:=rfl
noncomputable abbrev aS8 (gap:Int) (w:Str):D:=.tup [.str "gaps",.str "fc",.tup [.str "x"],.tup [.int gap,.str w]]
theorem aP3 {gap:Int}{w:Str} (hw:IsW w) (th:D) {x:List Th} (Z:x≠[]) (hl:x.length<64) (O:List D) (ha:O.length<1000) (s4:Sl):∃ Y,k_4 [.im (aS8 gap w),.im th,.ow false (.lst O),.im (.lst (x.map tD)),s4]
  = some (.nx [.im (aS8 gap w),.im th,.ow false (.lst (O++[cD (Y_6 w x)])),.im (.lst (x.map tD)),Y]):=by
 have sl:x.length<=sizeLine:=a_6 (by omega);have e1:=bf3 hw Z;have e0:atD (x.map tD) 0=some (D.tup [.int (aN4 x).t,.str (aN4 x).k,.int (aN4 x).v]):=cz0 Z;have el:atD (x.map tD) (-1)=some (D.tup [.int (laT x).t,.str (laT x).k,.int (laT x).v]):=cy9 Z;have ev:=bC4 x;have a1:O.length<1000000:=by omega
 refine⟨.im (.int (Y_6 w x).m),?_⟩;have ec:cD (Y_6 w x)=.tup [.tup [.str (aN4 x).k,.int (aN4 x).t],.tup [.int (laT x).t,.int (Y_6 w x).m]]:=rfl;rw[ec];generalize (Y_6 w x).m=m at *;unfold vsD at e1;simp[k_4,w_1,by1,cn4,cn3,e0,el,ev,e1,sl,a1]
theorem ab8 {gap:Int}{w:Str} (hw:IsW w) (th:D):∀ (st:List (List Th)),(∀ x∈st,x≠[]/\x.length<64)->∀ (O:List D),O.length+st.length<1000->∀ Z Y:Sl,∃ ac aa,fGo (gN 3) k_4 ((mm st).map .lst) [.im (aS8 gap w),.im th,.ow false (.lst O),Z,Y]
  = some (.nx [.im (aS8 gap w),.im th,.ow false (.lst (O++st.map λ x=>cD (Y_6 w x))),ac,aa])
 |[],_,O,_,Z,Y=>⟨Z,Y,by show some _=_;rw[jv,zw]⟩
 |x::st,h,O,ha,Z,Y=>by
  rw[zi] at ha;obtain⟨h1,h2⟩:=h x qm;obtain⟨a4,e⟩:=aP3 (gap:=gap) hw th h1 h2 O (by omega) Y;obtain⟨b3,b4,e2⟩:=ab8 (gap:=gap) hw th st (λ y hy=>h y (qo _ hy)) (O++[cD (Y_6 w x)]) (by rw[zh,zq];omega) (.im (.lst (x.map tD))) a4;refine⟨b3,b4,?_⟩;have g:gN 3 (.lst (x.map tD)) [.im (aS8 gap w),.im th,.ow false (.lst O),Z,Y]=some [.im (aS8 gap w),.im th,.ow false (.lst O),.im (.lst (x.map tD)),Y]:=rfl;show fGo _ _ (.lst (x.map tD)::(mm st).map .lst) _=_;rw[Q_6,g,Q_7,e,X_7,e2,ym];rfl
theorem Iv.len {gap:Int}{L:List Th}{st:List (List Th)} (h:Iv gap L st) {x:List Th} (O:x∈st):x.length<=L.length:=(h.mem x O).1
theorem bp7 (L:List Th):(L.map tD).all r3=true:=by rw[Yn];intro d hd;obtain⟨x,_,rfl⟩:=List.mem_map.mp hd;rfl
theorem bt8 {gap:Int}{L S:List Th}{st:List (List Th)} (hl:L.length<64) (Y:k_0 (L.map tD)=S.map tD) (O:G_3 gap (S.map tD) []=some (mm st)):r_5 [.int gap,.lst (L.map tD)]=some (.lst ((mm st).map .lst)):=by show (if (L.map tD).length<64/\(L.map tD).all r3=true then bnd (G_3 gap (k_0 (L.map tD)) []) λ st=>some (D.lst (st.map .lst)) else none)=_;rw[if_pos ⟨by rw[zd];exact hl,bp7 L⟩,Y,O];rfl
noncomputable def unC:D->Cl
 |.tup [.tup [.str k,.int a],.tup [.int b,.int m]]=>⟨k,a,b,m⟩
 |_=>⟨Str.empty,0,0,0⟩
theorem bH7 (x:Cl):unC (cD x)=x:=rfl
theorem bx1 (L:List Cl):(L.map cD).map unC=L:=by rw[Qh];exact (Qj λ x _=>bH7 x).trans (Z3 L)
theorem bW2 (c:Cl):fK (cD c)=[c.k.cps.toList.map Int.ofNat,[c.a],[c.b],[c.m]]:=rfl
theorem bz2 {u w:Cl} (h:fK (cD u)=fK (cD w)):cD u=cD w:=by
 rw[bW2,bW2] at h;injection h with h1 h
 injection h with h2 h
 injection h with h3 h
 injection h with h4 _
 injection h2 with h2 _
 injection h3 with h3 _
 injection h4 with h4 _
 show D.tup [.tup [.str u.k,.int u.a],.tup [.int u.b,.int u.m]]=D.tup [.tup [.str w.k,.int w.a],.tup [.int w.b,.int w.m]];rw[bJ5 h1,h2,h3,h4]
theorem bt2 (L:List Cl):∃ S:List Cl,k_0 (L.map cD)=S.map cD/\S.Perm L/\S.Pairwise (λ u w=>ltK (cD w) (cD u)=false)/\k_0 (S.map cD)=S.map cD:=by
 have O:=p_1 (L.map cD);have e:k_0 (L.map cD)=((k_0 (L.map cD)).map unC).map cD:=by rw[Qh];refine ((Qj (g:=id) λ d hd=>?_).trans (Z3 _)).symm;obtain⟨x,_,rfl⟩:=List.mem_map.mp (O.mem_iff.mp hd);rfl
 have Y:=O_3 (L.map cD);have Z:k_0 (k_0 (L.map cD))=k_0 (L.map cD):=(aa9 (λ a b ha hb q=>by
  obtain⟨x,_,rfl⟩:=List.mem_map.mp (O.mem_iff.mp ha);obtain⟨y,_,rfl⟩:=List.mem_map.mp (O.mem_iff.mp hb);exact bz2 q) (Z4 _) Y).symm
 refine⟨(k_0 (L.map cD)).map unC,e,?_,?_,by rw[<- e];exact Z⟩
 ·have:=O.map unC;rw[bx1] at this;exact this
 ·rw[e,Yg] at Y;exact Y
theorem bD5 (L:List Cl):(L.map cD).all r22=true:=by rw[Yn];intro d hd;obtain⟨x,_,rfl⟩:=List.mem_map.mp hd;rfl
theorem bf0 (L:List Cl) (hl:L.length<64):W_2 [.lst (L.map cD)]=some (.lst (k_0 (L.map cD))):=by rw[az2,if_pos ⟨by rw[zd];exact hl,.inr (bD5 L)⟩]
theorem be9 (L:List Th) (hl:L.length<64):W_2 [.lst (L.map tD)]=some (.lst (k_0 (L.map tD))):=by rw[az2,if_pos ⟨by rw[zd];exact hl,.inl (bp7 L)⟩]
def cells (w:Str) (st:List (List Th)):List Cl:=st.map (Y_6 w)
theorem by9 {gap:Int}{w:Str} (hw:IsW w) {L S:List Th}{st:List (List Th)} (hl:L.length<64) (Y:k_0 (L.map tD)=S.map tD) (O:G_3 gap (S.map tD) []=some (mm st)) (ne:∀ x∈st,x≠[]/\x.length<64) (hc:st.length<64) :
  j_5 [aS8 gap w,.lst (L.map tD)]=some (.lst (k_0 ((cells w st).map cD))):=by
 have e1:=bt8 (gap:=gap) hl Y O;obtain⟨s3,s4,e2⟩:=ab8 (gap:=gap) hw (.lst (L.map tD)) st ne [] (by simp;omega) .no .no;have e3:j_2 [aS8 gap w,.lst (L.map tD)]=some (.lst ((cells w st).map cD)):=by
  have q:st.map (λ x=>cD (Y_6 w x))=(cells w st).map cD:=by unfold cells;rw[Qh];rfl
  rw[Q6,q] at e2;generalize (mm st).map D.lst=xs at e1 e2;simp[j_2,D_3,List.replicate,w_1,w_2,e1,e2]
 have Z:=bf0 (cells w st) (by unfold cells;rw[zd];exact hc);simp[j_5,N_1,y_7,e3,Z]
theorem bz1 {g:Int} (g1:1<=g) {w:Str} (hw:IsW w) {L:List Th} (hl:L.length<64):∃ cs:List Cl,j_5 [aS8 g w,.lst (L.map tD)]=some (.lst (cs.map cD))/\cs.length<64/\(cs.map λ c=>(c.k,c.a)).Nodup:=by
 obtain⟨S,hS,pm,sr⟩:=aJ5 L;obtain⟨st,O,Y,hc⟩:=aK0 g g1 S [] [] (bU9 g) sr;rw[Q6] at Y;have O:G_3 g (S.map tD) []=some (mm st):=O;have pl:=pm.length_eq;have hc:st.length<64:=by have:st.length<=0+S.length:=hc;omega
 have ne:∀ x∈st,x≠[]/\x.length<64:=λ x Z=>⟨Y.ne x Z,by have:=Y.len Z;omega⟩
 have f1:=by9 (gap:=g) hw hl hS O ne hc;obtain⟨cs,aa,pc,_,_⟩:=bt2 (cells w st);rw[aa] at f1;refine⟨cs,f1,?_,?_⟩
 ·rw[pc.length_eq];unfold cells;rw[zd];exact hc
 ·refine (pc.map _).nodup_iff.mpr ?_;unfold cells;rw[Qh];refine List.pairwise_map.mpr (Y.apart.imp_of_mem λ {x y} Z hy h z=>?_);injection z with z1 z2
  have hf:=aN2 (Y.ne x Z);have ac:=aN2 (Y.ne y hy);have:=h _ (List.mem_of_mem_head? hf) _ (List.mem_of_mem_head? ac) z1;have z2:(aN4 x).t=(aN4 y).t:=z2;omega
noncomputable def cu9:Option (Int×Int)->D
 |none=>.non
 |some (b,m)=>.tup [.int b,.int m]
noncomputable def fnd (k:Str) (a:Int):List Cl->Option (Int×Int)
 |[]=>none
 |c::r=>if (c.k,c.a)=(k,a) then some (c.b,c.m) else fnd k a r
theorem aN5 (k:Str) (a:Int):∀ cs:List Cl,M_6 (cs.map cD)=some (cs.map λ c=>((c.k,c.a),.tup [.int c.b,.int c.m]))/\bj4 (k,a) (cs.map λ c=>((c.k,c.a),.tup [.int c.b,.int c.m]))=cu9 (fnd k a cs)
 |[]=>⟨rfl,rfl⟩
 |c::r=>by
  obtain⟨h1,h2⟩:=aN5 k a r;refine⟨?_,?_⟩
  ·show bnd (M_6 (r.map cD)) _=_;rw[h1];rfl
  ·rw[ze];unfold bj4 fnd;dsimp only;split
   ·rfl
   ·exact h2
theorem I_1  (f:α->D) (xs:List α) {i:Int} (O:0<=i) (h1:i<xs.length):∃ x,x∈xs/\atD (xs.map f) i=some (f x):=by
 have hi:i.toNat<xs.length:=by omega
 refine⟨xs[i.toNat],Qi hi,?_⟩;unfold atD dPl;rw[zd,if_pos O,if_pos h1];show (xs.map f)[i.toNat]?=_;rw[zy,zo hi];rfl
noncomputable def qL:List Int->List D
 |[]=>[]
 |q::qs=>qL qs++[.int q]
theorem aK4:∀ xs:List Int,xs.map D.int=qL xs.reverse
 |[]=>rfl
 |x::xs=>by
  have h:∀ (a b:List Int),qL (a++b)=qL b++qL a:=λ a=>by
   induction a with
   |nil=>intro b;rw[Q6];show _=qL b++[];rw[zw]
   |cons y a O=>intro b;rw[jr];show qL (a++b)++[_]=qL b++(qL a++[_]);rw[O,ym]
  rw[ze,Qw,h,aK4 xs];rfl
@[simp] theorem cy5 (i:Nat) (ρ:En) (b:Bool) (q:Int) (qs:List Int):eQa i ρ (some (b,qL (q::qs)))=some (.int q,ρ.set i (.ow b (.lst (qL qs)))):=co8 i ρ b (qL qs) (.int q)
theorem q3:z_8 3=true:=P_1 (by decide) (by decide)
def Sm (xs:List Int):Prop:=∀ x∈xs,x.natAbs<2 ^ 64
theorem Sm.app {xs:List Int} (h:Sm xs) {x:Int} (Y:x.natAbs<2 ^ 64):Sm (xs++[x]):=λ y O=>by
 rcases zb O with O | O
 ·exact h y O
 ·rw[List.mem_singleton.mp O];exact Y
theorem au6 (c:Int):∀ (n:Nat) (lo:Int) (xs:List Int) (r:Int) (Y:Sl),xs.length+n<=1000->Sm xs->∃ (ys:List Int) (Z:Int) (O:Sl),ys.length=xs.length+n/\Sm ys/\fGo (gN 5) m_0 (C_9 lo n) [.im (.int c),.im (.int 120),.ow false (.lst (xs.map .int)),.no,.no,Y,.im (.int r)]=some (.nx [.im (.int c),.im (.int 120),.ow false (.lst (ys.map .int)),.no,.no,O,.im (.int Z)])
 |0,lo,xs,r,Y,_,hs=>⟨xs,r,Y,rfl,hs,rfl⟩
 |n+1,lo,xs,r,Y,hl,hs=>by
  have f0:=jw r (b:=10000019) (by decide);have f1:=Qp r (b:=10000019) (by decide);have gg:gN 5 (.int lo) [.im (.int c),.im (.int 120),.ow false (.lst (xs.map .int)),.no,.no,Y,.im (.int r)]=some [.im (.int c),.im (.int 120),.ow false (.lst (xs.map .int)),.no,.no,.im (.int lo),.im (.int r)]:=rfl;have q:xs.length<1000000:=by omega
  have d:z_8 10000019=true:=P_1 (by decide) (by decide);have b:m_0 [.im (.int c),.im (.int 120),.ow false (.lst (xs.map .int)),.no,.no,.im (.int lo),.im (.int r)]=some (.nx [.im (.int c),.im (.int 120),.ow false (.lst ((xs++[r.fmod 10000019]).map .int)),.no,.no,.im (.int lo),.im (.int (r.fdiv 10000019))]):=by simp[m_0,q,d]
  obtain⟨ys,Z,O,l,ls,ih⟩:=au6 c n (lo+1) (xs++[r.fmod 10000019]) (r.fdiv 10000019) (.im (.int lo)) (by rw[zh,zq];omega) (hs.app (by omega));refine⟨ys,Z,O,by rw[l,zh,zq];omega,ls,?_⟩;rw[show C_9 lo (n+1)=.int lo::C_9 (lo+1) n from rfl,Q_6,gg,Q_7,b,X_7,ih]
theorem au5 (c:Int):∀ (n:Nat) (lo:Int) (xs:List Int) (a b:Int) (Y:Sl),0<=lo->lo+n<=1000->0<=a->a<2147490000->xs.length+n<=1000->Sm xs->∃ (ys:List Int) (Z b':Int) (O:Sl),ys.length=xs.length+n/\Sm ys/\fGo (gN 5) l_9 (C_9 lo n) [.im (.int c),.im (.int 120),.ow false (.lst (xs.map .int)),.im (.int a),.im (.int b),Y,.no]=some (.nx [.im (.int c),.im (.int 120),.ow false (.lst (ys.map .int)),.im (.int Z),.im (.int b'),O,.no])
 |0,lo,xs,a,b,Y,_,_,_,_,_,hs=>⟨xs,a,b,Y,rfl,hs,rfl⟩
 |n+1,lo,xs,a,b,Y,l0,l1,a0,a1,hl,hs=>by
  have f2:=jw (b*48271) (b:=2147483629) (by decide);have f3:=Qp (b*48271) (b:=2147483629) (by decide);have gg:gN 5 (.int lo) [.im (.int c),.im (.int 120),.ow false (.lst (xs.map .int)),.im (.int a),.im (.int b),Y,.no]=some [.im (.int c),.im (.int 120),.ow false (.lst (xs.map .int)),.im (.int a),.im (.int b),.im (.int lo),.no]:=rfl;have q:xs.length<1000000:=by omega
  have d:z_8 1009=true:=P_1 (by decide) (by decide);have m1:∀ x:Int,j_7 a x=true:=λ x=>G_2 (by omega);have m2:j_7 b 48271=true:=r_6 (by decide);have f0:=jw (a*(a.fdiv 1009+69621)) (b:=2147483647) (by decide);have f1:=Qp (a*(a.fdiv 1009+69621)) (b:=2147483647) (by decide);have bb:l_9 [.im (.int c),.im (.int 120),.ow false (.lst (xs.map .int)),.im (.int a),.im (.int b),.im (.int lo),.no]=some (.nx [.im (.int c),.im (.int 120),.ow false (.lst ((xs++[(a*(a.fdiv 1009+69621)).fmod 2147483647+lo+1+(b*48271).fmod 2147483629]).map .int)),.im (.int ((a*(a.fdiv 1009+69621)).fmod 2147483647+lo+1)),.im (.int ((b*48271).fmod 2147483629)),.im (.int lo),.no]):=by simp[l_9,q,d,m1,m2]
  obtain⟨ys,Z,b',O,l,ls,ih⟩:=au5 c n (lo+1) (xs++[(a*(a.fdiv 1009+69621)).fmod 2147483647+lo+1+(b*48271).fmod 2147483629]) ((a*(a.fdiv 1009+69621)).fmod 2147483647+lo+1) ((b*48271).fmod 2147483629) (.im (.int lo)) (by omega) (by omega) (by omega) (by omega) (by rw[zh,zq];omega) (hs.app (by omega));refine⟨ys,Z,b',O,by rw[l,zh,zq];omega,ls,?_⟩;rw[show C_9 lo (n+1)=.int lo::C_9 (lo+1) n from rfl,Q_6,gg,Q_7,bb,X_7,ih]
theorem aJ4 (c:Int):∃ qs:List Int,n_3 [.int c,.int 120]=some (.lst (qL qs))/\qs.length=120/\Sm qs:=by
 have O:Sm []:=λ _ h=>absurd h zg;have d7:z_8 7=true:=P_1 (by decide) (by decide);have m1:∀ x:Int,j_7 x 48271=true:=λ x=>r_6 (by decide);have m2:∀ x:Int,j_7 x 69621=true:=λ x=>r_6 (by decide);have f0:=jw ((c.fmod 2147483647+1)*48271) (b:=2147483647) (by decide);have f1:=Qp ((c.fmod 2147483647+1)*48271) (b:=2147483647) (by decide);obtain⟨ys,r',s5,l1,y1,e1⟩:=au6 c 120 0 [] (c.fdiv 7) .no (by decide) O;obtain⟨zs,a',b',aa,l2,y2,e2⟩:=au5 c 120 0 [] (((c.fmod 2147483647+1)*48271).fmod 2147483647) (((c.fmod 1000003+1)*69621).fmod 2147483629) .no (by decide) (by decide) f0 (by omega) (by decide) O;have Y:fGo (gN 5) m_0 (C_9 0 120) [.im (.int c),.im (.int 120),.ow false (.lst []),.no,.no,.no,.im (.int (c.fdiv 7))]=_:=e1;have Z:fGo (gN 5) l_9 (C_9 0 120) [.im (.int c),.im (.int 120),.ow false (.lst []),.im (.int (((c.fmod 2147483647+1)*48271).fmod 2147483647)),.im (.int (((c.fmod 1000003+1)*69621).fmod 2147483629)),.no,.no]=_:=e2;have pw:bL0 (.int 10) (.int 40)=some (.int 10000000000000000000000000000000000000000):=by kernel_rfl
 by_cases h:(10000000000000000000000000000000000000000:Int)<=c
 ·refine⟨ys,?_,by simpa using l1,y1⟩;have rv:(ys.map D.int).reverse=qL ys:=by rw[<- List.map_reverse,aK4,List.reverse_reverse]
  simp[n_3,D_4,List.replicate,pw,h,d7,Y,rv]
 ·refine⟨zs.reverse,?_,by rw[Q8];simpa using l2,λ x hx=>y2 x (List.mem_reverse.mp hx)⟩;simp[n_3,D_4,List.replicate,pw,h,m1,m2,Z,aK4]
noncomputable abbrev S6 (s:String):D:=.str (Str.ofString s)
noncomputable abbrev xS:Str:=Str.ofString "x"
noncomputable abbrev aS:Str:=Str.ofString "a"
noncomputable abbrev evD:D:=.tup [.non,.non,.int 1,.int 0]
abbrev cu8:D:=.tup [S6 "but",.tup []]
abbrev xbD:D:=.tup [cu8,.int 0,.non,evD]
abbrev inR:D:=.tup [S6 "in",S6 "x",.tup [],.tup [.non,.non]]
abbrev bb2 (w:Int):D:=.tup [S6 "fixed",S6 "fa",.tup [S6 "x"],.tup [.int w,S6 "sum"]]
abbrev aV0 (z s:Int):D:=.tup [S6 "slide",S6 "fb",.tup [S6 "x"],.tup [.int z,.int s,S6 "most"]]
abbrev bb0 (w:Int):D:=aS8 w wC
abbrev bb9:D:=.tup [S6 "ever",S6 "fd",.tup [S6 "x"],.tup [S6 "least"]]
abbrev askR (q f:String):D:=.tup [S6 "ask",S6 q,.tup [S6 f],.tup []]
abbrev wkD (w s z:Int):D:=.lst [inR,bb2 w,aV0 z s,bb0 w,bb9,askR "qa" "fa",askR "qb" "fb",askR "qc" "fc",askR "qd" "fd"]
abbrev mk0:D:=.dct [xS] [.int 0]
abbrev papD:D:=.dct [xS] [.lst [xbD]]
section
variable (w s z:Int)
theorem bb4:n_9 [wkD w s z]=some (.dic [(xS,.int 0)]):=by kernel_rfl
theorem ay7:k_1 [wkD w s z,mk0]=some (.dic [(xS,.lst [xbD])]):=by kernel_rfl
theorem br3:J_0 [wkD w s z,mk0,S6 "x"]=some (.lst [.tup [xbD,.tup [S6 "x",.int 0]]]):=by kernel_rfl
theorem aW1:q_2 [inR,mk0,papD]=some (.bl true):=by kernel_rfl
theorem bL2:e_5 [wkD w s z,S6 "qa"]=some (.tup [askR "qa" "fa",bb2 w,inR]):=by kernel_rfl
theorem bK3:e_5 [wkD w s z,S6 "qb"]=some (.tup [askR "qb" "fb",aV0 z s,inR]):=by kernel_rfl
theorem bK2:e_5 [wkD w s z,S6 "qc"]=some (.tup [askR "qc" "fc",bb0 w,inR]):=by kernel_rfl
theorem bK1:e_5 [wkD w s z,S6 "qd"]=some (.tup [askR "qd" "fd",bb9,inR]):=by kernel_rfl
theorem by4:h_8 [wkD w s z,S6 "x"]=some inR:=by kernel_rfl
end
theorem ixp {xs:List D}{x:D}{n:Nat} (h:xs[n]?=some x):atD xs (n:Int)=some x:=by have O:n<xs.length:=(List.getElem?_eq_some_iff.mp h).1;unfold atD dPl;rw[if_pos (Int.natCast_nonneg n),if_pos (by omega)];exact h
theorem g0 (a:D) (r:List D):atD (a::r) 0=some a:=ixp (n:=0) rfl
theorem g1 (a b:D) (r:List D):atD (a::b::r) 1=some b:=ixp (n:=1) rfl
theorem g2 (a b c:D) (r:List D):atD (a::b::c::r) 2=some c:=ixp (n:=2) rfl
theorem g3 (a b c d:D) (r:List D):atD (a::b::c::d::r) 3=some d:=ixp (n:=3) rfl
abbrev cmD (u:Th):D:=.tup [S6 "thing",S6 "x",.int u.t,.str u.k,.int u.v]
theorem bb1 {g:D->En->Option En}{B:FS}{d:D}{r:List D}{ρ Y O:En} (h1:g d ρ=some Y) (h2:B Y=some (.nx O)):fGo g B (d::r) ρ=fGo g B r O:=by rw[Q_6,h1,Q_7,h2,X_7]
theorem bE7 (kd:List (Str×D)):(kd.map (·.1)).zip (kd.map (·.2))=kd:=by
 induction kd with
 |nil=>rfl
 |cons a r O=>rw[ze,ze,Qo,O]
theorem ndi (d:D):ndS (.im d)=true:=rfl
theorem ndd {kd:List (Str×D)} (h:nds (kd.map (·.2))=true):ndS (.ow false (.dic kd))=true:=h
section
variable (w s z:Int) (q:String) {kd:List (Str×D)} (hk:nds (kd.map (·.2))=true) {c:D}{n:Str}{r:List D}{b:Sl} (hb:ndS b=true)
abbrev eB (q:D) (kd:List (Str×D)) (a b:Sl):En:=[.im (wkD w s z),.im q,.ow false (.dic kd),a,b]
include hk hb
theorem ck6:aJ3 2 (tB (e2 bE6 (e2 b_5 (eV 3) (zI 1)) (eV 2))) (eB w s z (S6 q) kd (.im (.tup (c::.str n::r))) b)=some ((w_3 n kd).isSome,eB w s z (S6 q) kd (.im (.tup (c::.str n::r))) b):=by simp[g1,ndi,ndd hk,hb,hld,bE7,aU8]
theorem ck7 (h:w_3 n kd=none):l_3 (eB w s z (S6 q) kd (.im (.tup (c::.str n::r))) b)=some (.nx (eB w s z (S6 q) kd (.im (.tup (c::.str n::r))) b)):=by show sIf _ _ _ _=_;rw[cg7,ck6 w s z q hk hb,h];rfl
theorem cw8 {x:D} (h:(w_3 n kd).isSome=true):l_3 (eB w s z (S6 q) kd (.im (.tup [c,.str n,.tup [],x])) b)=some (.nx (eB w s z (S6 q) kd (.im (.tup [c,.str n,.tup [],x])) b)):=by show sIf _ _ _ _=_;rw[cg7,ck6 w s z q hk hb,h];simp[g2,bt0]
theorem cw7 {x:D}{f:Str} (h:(w_3 n kd).isSome=true) (hl:kd.length<100):l_3 (eB w s z (S6 q) kd (.im (.tup [c,.str n,.tup [.str f],x])) b)=some (.nx (eB w s z (S6 q) (bv3 f (.bl true) kd) (.im (.tup [c,.str n,.tup [.str f],x])) (.im (.str f)))):=by show sIf _ _ _ _=_;rw[cg7,ck6 w s z q hk hb,h];simp[g2,bt0,Q_6,hl]
end
section
variable (w s z:Int)
theorem ah5 {q f:String} (h:(q,f)∈[("qa","fa"),("qb","fb"),("qc","fc"),("qd","fd")]):f_1 [wkD w s z,S6 q]=some (.lst [inR]):=by
 have e:fGo (gN 3) l_3 [askR "qd" "fd",askR "qc" "fc",askR "qb" "fb",askR "qa" "fa",bb9,bb0 w,aV0 z s,bb2 w,inR] [.im (wkD w s z),.im (S6 q),.ow false (.dic [(Str.ofString q,.bl true)]),.no,.no]=some (.nx (eB w s z (S6 q) [(Str.ofString q,.bl true),(Str.ofString f,.bl true),(xS,.bl true)] (.im inR) (.im (.str xS)))):=by
  simp only[zl,Ql,zg,yf] at h;rcases h with ⟨rfl,rfl⟩ | ⟨rfl,rfl⟩ | ⟨rfl,rfl⟩ | ⟨rfl,rfl⟩ <;>
  (iterate 9 first | refine (bb1 rfl (ck7 w s z _ rfl rfl rfl)).trans ?_ | refine (bb1 rfl (cw7 w s z _ rfl rfl rfl (by decide))).trans ?_ | refine (bb1 rfl (cw8 w s z _ rfl rfl rfl)).trans ?_) <;> rfl
 have h1:r_1 [wkD w s z,S6 q]=some (.lst [S6 "x",S6 f,S6 q]):=by simp[r_1,N_0,e];simp only[zl,Ql,zg,yf] at h;rcases h with ⟨rfl,rfl⟩ | ⟨rfl,rfl⟩ | ⟨rfl,rfl⟩ | ⟨rfl,rfl⟩ <;> kernel_rfl
 simp[f_1,F_9,h1];simp only[zl,Ql,zg,yf] at h;rcases h with ⟨rfl,rfl⟩ | ⟨rfl,rfl⟩ | ⟨rfl,rfl⟩ | ⟨rfl,rfl⟩ <;> kernel_rfl
end
theorem bs {α β:Type} (a:α) (f:α->Option β):bnd (some a) f=f a:=yR rfl
theorem cy4 (G:FX) (ρ:En):goX G (.ok (.nx ρ))=G ρ:=yR rfl
structure Gd6 (u:Th):Prop where
 k:u.k=aS
 t:0<=u.t
 v0:0<=u.v
 v4:u.v<=4
section
variable (w s z:Int)
theorem bc9 (n:Nat) (v:Int):h_5 [wkD w s z,mk0,cmD ⟨(n:Int),aS,v⟩]=some (.inl .non):=by kernel_rfl
theorem aO8 {u:Th} (h:Gd6 u):h_5 [wkD w s z,mk0,cmD u]=some (.inl .non):=by obtain⟨t,k,v⟩:=u;obtain⟨hk,O,_,_⟩:=h;dsimp only at hk O;subst hk;obtain⟨n,rfl⟩:=Int.eq_ofNat_of_zero_le O;exact bc9 w s z n v
theorem aL5 (u:Th):J_1 [mk0,cmD u]=some (.dic [(xS,.int 0)]):=by kernel_rfl
theorem bT2 {W U:D} (e:h_5 [W,mk0,U]=some (.inl .non)) (e2:J_1 [mk0,U]=some (.dic [(xS,.int 0)])) (c:Sl):a_7 [.im W,c,.im mk0,.im U]=some (.ok (.nx [.im W,c,.im mk0,.im U])):=by simp[a_7,e,e2,bs]
theorem O_5 (c:Sl) (ys:List D):∀ (T:List Th) (Y:Sl),(∀ u∈T,Gd6 u)->∃ O,xGo (gN 3) a_7 (T.map cmD++ys) [.im (wkD w s z),c,.im mk0,Y]=xGo (gN 3) a_7 ys [.im (wkD w s z),c,.im mk0,O]
 |[],Y,_=>⟨Y,rfl⟩
 |u::r,Y,h=>by
  obtain⟨O,ih⟩:=O_5 c ys r (.im (cmD u)) λ x Z=>h x (qo _ Z);refine⟨O,?_⟩;have g:gN 3 (cmD u) [.im (wkD w s z),c,.im mk0,Y]=some [.im (wkD w s z),c,.im mk0,.im (cmD u)]:=rfl;have b:=bT2 (aO8 w s z (h u (qm ..))) (aL5 u) c;rw[ze,jr,af6,g,bs,b,bs,cy4,ih]
theorem af1 {cs:D}{xs:List D} (O:cs=.lst xs) (r:RX) (h:xGo (gN 3) a_7 xs [.im (wkD w s z),.im cs,.im mk0,.no]=some r):b_8 [wkD w s z,cs]=bnd (nxX (rS (g_0 (eV 2))) r) bx8:=by subst O;have f:=bb4 w s z;generalize wkD w s z=W at f h ⊢;simp[b_8,F_8,fnX,f,h,bs]
abbrev mk5:D:=.tup [S6 "mark",S6 "x",.int 5]
abbrev th4:D:=.tup [S6 "thing",S6 "x",.int 4,S6 "a",.int 1]
abbrev bC5:List D:=[.tup [S6 "mark",S6 "nobody",.int 3],.tup [S6 "thing",S6 "x",.int (-1),S6 "a",.int 1],.tup [S6 "open",S6 "x"],.tup [S6 "close"]]
abbrev bF6:XV:=(Str.ofString "Late",none)
abbrev bE4:XV:=(Str.ofString "NoComing",none)
theorem bx4 (c O:Sl):xGo (gN 3) a_7 [mk5,th4] [.im (wkD w s z),c,.im mk0,O]=some (.ex bF6):=by kernel_rfl
theorem bO7 (c O:Sl):xGo (gN 3) a_7 [.tup [S6 "mark",S6 "nobody",.int 3]] [.im (wkD w s z),c,.im mk0,O]=some (.ex bE4):=by kernel_rfl
theorem bO6 (c O:Sl):xGo (gN 3) a_7 [.tup [S6 "thing",S6 "x",.int (-1),S6 "a",.int 1]] [.im (wkD w s z),c,.im mk0,O]=some (.ex bE4):=by kernel_rfl
theorem bO5 (c O:Sl):xGo (gN 3) a_7 [.tup [S6 "open",S6 "x"]] [.im (wkD w s z),c,.im mk0,O]=some (.ex bE4):=by kernel_rfl
theorem bO4 (c O:Sl):xGo (gN 3) a_7 [.tup [S6 "close"]] [.im (wkD w s z),c,.im mk0,O]=some (.ex bE4):=by kernel_rfl
variable {T:List Th} (h:∀ u∈T,Gd6 u)
include h
theorem I_9:b_8 [wkD w s z,.lst (T.map cmD)]=some (.inl mk0):=by obtain⟨O,e⟩:=O_5 w s z (.im (.lst (T.map cmD))) [] T .no h;rw[zw,aU6] at e;rw[af1 w s z rfl _ e];rfl
theorem aB5:b_8 [wkD w s z,.lst (T.map cmD++[mk5,th4])]=some (.inr bF6):=by obtain⟨O,e⟩:=O_5 w s z (.im (.lst (T.map cmD++[mk5,th4]))) [mk5,th4] T .no h;rw[bx4] at e;rw[af1 w s z rfl _ e];rfl
theorem aB4 {b:D} (hb:b∈bC5):b_8 [wkD w s z,.lst (T.map cmD++[b])]=some (.inr bE4):=by
 obtain⟨O,e⟩:=O_5 w s z (.im (.lst (T.map cmD++[b]))) [b] T .no h;have n:∀ c O:Sl,xGo (gN 3) a_7 [b] [.im (wkD w s z),c,.im mk0,O]=some (.ex bE4):=λ c O=>by
  simp only[bC5,zl,zg,yf] at hb;rcases hb with rfl | rfl | rfl | rfl
  ·exact bO7 w s z c O
  ·exact bO6 w s z c O
  ·exact bO5 w s z c O
  ·exact bO4 w s z c O
 rw[n] at e;rw[af1 w s z rfl _ e];rfl
end
abbrev tT6:FT:=tAnd (tB (e2 dEq (e2 b_5 (eV 0) (zI 0)) (zR "thing"))) (tB (e2 dEq (e2 b_5 (eV 0) (zI 1)) (e2 b_5 (eV 1) (zI 1))))
abbrev tF6:FE:=L_4 (eV 0) (oS (zI 2)) oN
theorem ck2 (u:Th):tT6 [.im (cmD u),.im inR]=some (true,[.im (cmD u),.im inR]):=by kernel_rfl
theorem co5 (u:Th):tF6 [.im (cmD u),.im inR]=some (tD u,[.im (cmD u),.im inR]):=by kernel_rfl
theorem bm8:∀ T:List Th,cGo tT6 tF6 [.im inR] (T.map cmD)=some (T.map tD)
 |[]=>rfl
 |u::r=>by
  rw[ze,am1,ck2,bs,if_pos rfl,co5,bs,bm8 r];rfl
theorem aJ1 {T:List Th} (hl:T.length<60) (c:D):t_8 [inR,c,.lst (T.map cmD)]=some (.lst (T.map tD)):=by have e:=bm8 T;have hz:T.length<=sizeLine:=a_6 (by omega);simp[t_8,U_6,g0,e,hz]
theorem bg4:∀ T:List Th,nds (T.map tD)=true
 |[]=>rfl
 |u::r=>by rw[ze];show (nd (tD u)&&nds _)=true;rw[bg4 r];rfl
abbrev chD:List D:=[(.str "in"),(.str "time"),(.str "only"),(.str "but"),(.str "span"),(.str "rest"),(.str "turn"),(.str "later"),(.str "put"),(.str "pour")]
theorem cp8:Z_9 (S6 "in") chD=true:=by kernel_rfl
theorem cp9:inD (S6 "in") chD=true:=by kernel_rfl
section
variable (w s z:Int) {T:List Th}
theorem as8 {cs:D} (hc:cs=.lst (T.map cmD)) (hl:T.length<60) {S:List Th} (hS:k_0 (T.map tD)=S.map tD) (c:Sl):h_3 [.im (wkD w s z),.im cs,.ow false (.dic []),.im inR]=some (.nx [.im (wkD w s z),.im cs,.ow false (.dic [(xS,.lst (S.map tD))]),.im inR]):=by have e1:=aJ1 hl (.dct [] []);rw[<- hc] at e1;have e2:=be9 T (by omega);rw[hS] at e2;have n:nd (.lst (S.map tD))=true:=bg4 S;generalize wkD w s z=W;have Y:=cp8;have o2:=cp9;have Z:ndS (.ow false (.dic []))=true:=rfl;have O:bv3 xS (.lst (S.map tD)) []=[(xS,.lst (S.map tD))]:=rfl;simp[h_3,g0,g1,ndi,ndd,hld,e1,e2,bc0 _ _ _ n,Y,o2,Z,O]
theorem aE7 (c:Sl) (kd:List (Str×D)):fGo (gN 3) h_3 [bb2 w,aV0 z s,bb0 w,bb9,askR "qa" "fa",askR "qb" "fb",askR "qc" "fc",askR "qd" "fd"] [.im (wkD w s z),c,.ow false (.dic kd),.im inR]=some (.nx [.im (wkD w s z),c,.ow false (.dic kd),.im (askR "qd" "fd")]):=by kernel_rfl
theorem ah1 (hl:T.length<60) {S:List Th} (O:k_0 (T.map tD)=S.map tD):f_2 [wkD w s z,.lst (T.map cmD)]=some (.dic [(xS,.lst (S.map tD))]):=by have e:fGo (gN 3) h_3 [inR,bb2 w,aV0 z s,bb0 w,bb9,askR "qa" "fa",askR "qb" "fb",askR "qc" "fc",askR "qd" "fd"] [.im (wkD w s z),.im (.lst (T.map cmD)),.ow false (.dic []),.no]=_:=(bb1 rfl (as8 w s z rfl hl O .no)).trans (aE7 w s z _ _);simp[f_2,G_1,e]
end
abbrev onD (k:D):D:=.tup [S6 "only",.tup [k]]
noncomputable def mb (b:Int):Int:=if b<0 then 0 else b
abbrev bxD (o:List D) (b:Int) (e:D):D:=.tup [.tup o,.int (mb b),e,evD]
theorem bT9 (o:List D) (b e:Int):a_9 [.tup o,.int b,.int e,evD]=some (if e<=mb b then .non else bxD o b (.int e)):=by
 unfold bxD mb;by_cases h:e<=if b<0 then 0 else b
 ·simp[a_9,o_2,h]
 ·simp[a_9,o_2,h]
theorem bT8 (o:List D) (b:Int):a_9 [.tup o,.int b,.non,evD]=some (bxD o b .non):=by unfold bxD mb;simp[a_9,o_2]
theorem as4 (k:D) (b e:Int):e_7 [k,.int b,.int e]=some (if e ≤ mb b then .non else bxD [S6 "only",.tup [k]] b (.int e)):=by simp[e_7,W_1,bT9]
theorem aM9 (k:D) (b:Int):e_7 [k,.int b,.non]=some (bxD [S6 "only",.tup [k]] b .non):=by simp[e_7,W_1,bT8]
abbrev n_7:List D:=[S6 "a",S6 "zz",S6 "abcdefgh"]
abbrev ab5:List D:=[S6 "",S6 "abcdefghi",S6 "A",.int 5,.non,S6 "a b"]
abbrev I_8:List D:=[.bl true,S6 "0",.non]
section
variable (w s z n:Int) (k:D)
theorem cx3:(Str.ofString "slide"=Str.ofString "fixed")=False:=yw (by decide +kernel)
theorem cx6:(Str.ofString "ever"=Str.ofString "fixed")=False:=yw (by decide +kernel)
theorem cx5:(Str.ofString "ever"=Str.ofString "slide")=False:=yw (by decide +kernel)
theorem cr9:(Str.ofString "fixed"=Str.ofString "ever")=False:=yw (by decide +kernel)
theorem cl3:(Str.ofString "fixed"=Str.ofString "gaps")=False:=yw (by decide +kernel)
theorem cr8:(Str.ofString "slide"=Str.ofString "ever")=False:=yw (by decide +kernel)
theorem cl2:(Str.ofString "slide"=Str.ofString "gaps")=False:=yw (by decide +kernel)
theorem cx4:(Str.ofString "gaps"=Str.ofString "ever")=False:=yw (by decide +kernel)
theorem bZ7 (hw:w.natAbs<2 ^ 64):e_2 [bb2 w,k,.int n]=some (if (n+1)*w ≤ mb (n*w) then .non else bxD [S6 "only",.tup [k]] (n*w) (.int ((n+1)*w))):=by have h1:=r_6 (i:=n) hw;have h2:=r_6 (i:=n+1) hw;simp[e_2,v_7,g0,g3,h1,h2,as4]
theorem bZ5 (hs:s.natAbs<2 ^ 64):e_2 [aV0 z s,k,.int n]=some (if n*s+z ≤ mb (n*s) then .non else bxD [S6 "only",.tup [k]] (n*s) (.int (n*s+z))):=by have h1:=r_6 (i:=n) hs;simp[e_2,v_7,g0,g1,g3,h1,as4,cx3]
theorem cq0:e_2 [bb9,k,.int n]=some (bxD [S6 "only",.tup [k]] 0 .non):=by simp[e_2,v_7,g0,g1,g3,aM9,cx6,cx5]
end
section
variable {k win fold:D}
theorem be4 (h:v_6 [k]=some (.bl false)):c_9 [fold,k,win]=some (.bl false):=by simp[c_9,o_4,h]
theorem be3 (h:v_6 [k]=some (.bl true)) (hw:p_8 [win]=some (.bl false)):c_9 [fold,k,win]=some (.bl false):=by simp[c_9,o_4,h,hw]
theorem ac8 (n:Int):p_8 [.int n]=some (.bl true):=by kernel_rfl
variable (h:v_6 [k]=some (.bl true)) (n w s z:Int)
include h
theorem bk7:c_9 [bb9,k,.int n]=some (.bl (decide (n=0))):=by have e:=ac8 n;simp[c_9,o_4,h,e,g0]
theorem bl9:c_9 [bb0 w,k,.int n]=some (.bl (decide (0<=n))):=by have e:=ac8 n;simp[c_9,o_4,h,e,g0,cx4]
theorem bm6 (Y:1<=w) (O:w<=9):c_9 [bb2 w,k,.int n]=some (.bl (decide (0<=n))):=by
 have e:=ac8 n;have b:=bZ7 w n k (by omega);have q:(n+1)*w<=mb (n*w)↔¬ 0<=n:=by
  unfold mb;rw[Int.add_mul,Int.one_mul];constructor
  ·intro h1 h2;have:=Int.mul_nonneg h2 (show 0<=w by omega);split at h1 <;> omega
  ·intro h1;have:(n+1)*w<=0:=Int.mul_nonpos_of_nonpos_of_nonneg (by omega) (by omega);rw[Int.add_mul,Int.one_mul] at this;split <;> omega
 by_cases c:0<=n
 ·rw[if_neg (λ x=>(q.mp x) c)] at b;simp[c_9,o_4,h,e,g0,cr9,cl3,b,c]
 ·rw[if_pos (q.mpr c)] at b;simp[c_9,o_4,h,e,g0,cr9,cl3,b,c]
theorem bk8 (Y:1<=s) (Z:s<=3) (O:1<=z):c_9 [aV0 z s,k,.int n]=some (.bl (decide (n*s+z > 0))):=by
 have e:=ac8 n;have b:=bZ5 s z n k (by omega);have q:n*s+z<=mb (n*s)↔¬ n*s+z > 0:=by unfold mb;generalize n*s=m;split <;> omega
 by_cases c:n*s+z > 0
 ·rw[if_neg (λ x=>(q.mp x) c)] at b;simp[c_9,o_4,h,e,g0,cr8,cl2,b,c]
 ·rw[if_pos (q.mpr c)] at b;simp[c_9,o_4,h,e,g0,cr8,cl2,b,c]
end
abbrev aq4:XV:=(Str.ofString "NoCell",none)
section
variable (w s z:Int)
theorem bQ2:h_8 [wkD w s z,S6 "qa"]=some (askR "qa" "fa"):=by kernel_rfl
theorem bP7:h_8 [wkD w s z,S6 "qb"]=some (askR "qb" "fb"):=by kernel_rfl
theorem bP6:h_8 [wkD w s z,S6 "qc"]=some (askR "qc" "fc"):=by kernel_rfl
theorem bP4:h_8 [wkD w s z,S6 "qd"]=some (askR "qd" "fd"):=by kernel_rfl
theorem bR1:h_8 [wkD w s z,S6 "fa"]=some (bb2 w):=by kernel_rfl
theorem bQ9:h_8 [wkD w s z,S6 "fb"]=some (aV0 z s):=by kernel_rfl
theorem bQ4:h_8 [wkD w s z,S6 "fc"]=some (bb0 w):=by kernel_rfl
theorem bQ3:h_8 [wkD w s z,S6 "fd"]=some bb9:=by kernel_rfl
end
theorem chk {W fold k win:D}{q f:String}{b:Bool} (h1:h_8 [W,S6 q]=some (askR q f)) (h2:h_8 [W,S6 f]=some fold) (O:c_9 [fold,k,win]=some (.bl b)):a_1 [W,S6 q,k,win]=some (if b=true then .inl .non else .inr aq4):=by
 cases b with
 |true=>simp[a_1,D_6,fnX,bs,h1,h2,O,g0,g2]
 |false=>simp[a_1,D_6,fnX,bs,h1,h2,O,g0,g2]
section
variable (w s z:Int) (k win:D)
theorem bP0:a_1 [wkD w s z,S6 "fa",k,win]=some (.inr aq4) ∧ c_1 [wkD w s z,S6 "fa",k,win]=some (.bl false):=⟨by kernel_rfl,by kernel_rfl⟩
theorem cs2:a_1 [wkD w s z,S6 "x",k,win]=some (.inr aq4) ∧ c_1 [wkD w s z,S6 "x",k,win]=some (.bl false):=⟨by kernel_rfl,by kernel_rfl⟩
theorem cs3:a_1 [wkD w s z,S6 "nobody",k,win]=some (.inr aq4) ∧ c_1 [wkD w s z,S6 "nobody",k,win]=some (.bl false):=⟨by kernel_rfl,by kernel_rfl⟩
theorem cs4:a_1 [wkD w s z,S6 "",k,win]=some (.inr aq4) ∧ c_1 [wkD w s z,S6 "",k,win]=some (.bl false):=⟨by kernel_rfl,by kernel_rfl⟩
end
noncomputable abbrev aR8:List (String×String):=[("qa","fa"),("qb","fb"),("qc","fc"),("qd","fd")]
def Win (d:D):Prop:=(∃ n,d=.int n)\/d∈I_8
theorem bU7 {k:D} (h:k∈ab5):v_6 [k]=some (.bl false):=by simp only[ab5,zl,zg,yf] at h;rcases h with rfl | rfl | rfl | rfl | rfl | rfl <;> kernel_rfl
theorem M_1 {k:D} (h:k∈n_7):v_6 [k]=some (.bl true):=by simp only[n_7,zl,zg,yf] at h;rcases h with rfl | rfl | rfl <;> kernel_rfl
theorem bF7 {d:D} (h:d∈I_8):p_8 [d]=some (.bl false):=by simp only[I_8,zl,zg,yf] at h;rcases h with rfl | rfl | rfl <;> kernel_rfl
section
variable (w s z:Int) {k win:D}
theorem ba9 {q f:String} (O:(q,f)∈aR8) (h:k∈ab5) (hw:Win win):c_1 [wkD w s z,S6 q,k,win]=some (.bl false):=by
 simp only[ab5,aR8,zl,zg,yf,Ql] at h O;rcases hw with ⟨n,rfl⟩ | hw
 ·rcases O with ⟨rfl,rfl⟩ | ⟨rfl,rfl⟩ | ⟨rfl,rfl⟩ | ⟨rfl,rfl⟩ <;> rcases h with rfl | rfl | rfl | rfl | rfl | rfl <;> kernel_rfl
 ·simp only[I_8,zl,zg,yf] at hw;rcases hw with rfl | rfl | rfl <;> rcases O with ⟨rfl,rfl⟩ | ⟨rfl,rfl⟩ | ⟨rfl,rfl⟩ | ⟨rfl,rfl⟩ <;> rcases h with rfl | rfl | rfl | rfl | rfl | rfl <;> kernel_rfl
theorem ba8 {q f:String} (O:(q,f)∈aR8) (h:k∈n_7) (hw:win∈I_8):c_1 [wkD w s z,S6 q,k,win]=some (.bl false):=by simp only[n_7,aR8,I_8,zl,zg,yf,Ql] at h O hw;rcases hw with rfl | rfl | rfl <;> rcases O with ⟨rfl,rfl⟩ | ⟨rfl,rfl⟩ | ⟨rfl,rfl⟩ | ⟨rfl,rfl⟩ <;> rcases h with rfl | rfl | rfl <;> kernel_rfl
theorem as5 (n:Int) (h:k∈n_7):c_1 [wkD w s z,S6 "qa",k,.int n]=some (.bl (decide (0 ≤ n))) ∧ c_1 [wkD w s z,S6 "qc",k,.int n]=some (.bl (decide (0 ≤ n))) ∧ c_1 [wkD w s z,S6 "qd",k,.int n]=some (.bl (decide (n=0))):=by
 simp only[n_7,zl,zg,yf] at h;rcases n with m | m
 ·rcases m with _ | m
  ·rcases h with rfl | rfl | rfl <;> exact⟨by kernel_rfl,by kernel_rfl,by kernel_rfl⟩
  ·rcases h with rfl | rfl | rfl <;> exact⟨by kernel_rfl,by kernel_rfl,by kernel_rfl⟩
 ·rcases m with _ | m
  ·rcases h with rfl | rfl | rfl <;> exact⟨by kernel_rfl,by kernel_rfl,by kernel_rfl⟩
  ·rcases h with rfl | rfl | rfl <;> exact⟨by kernel_rfl,by kernel_rfl,by kernel_rfl⟩
theorem bV8 (n:Int) (h:k∈n_7) (hs:s.natAbs<2 ^ 64):c_1 [wkD w s z,S6 "qb",k,.int n]=some (.bl (decide (n*s+z > 0))):=by
 have o:=r_6 (i:=n) hs;have e:c_1 [wkD w s z,S6 "qb",k,.int n]=fnA (g_0 (eOr (e2 ag9 (eV 1) (zR "qb")) (e2 dGt (e2 i_1 (e2 Y_1 (eV 3) (e2 b_5 (e2 b_5 (e2 b_5 (eV 0) (zI 2)) (zI 3)) (zI 1))) (e2 b_5 (e2 b_5 (e2 b_5 (eV 0) (zI 2)) (zI 3)) (zI 0))) (zI 0))) [.im (wkD w s z),.im (S6 "qb"),.im k,.im (.int n)]):=by simp only[n_7,zl,zg,yf] at h;rcases h with rfl | rfl | rfl <;> kernel_rfl
 rw[e];simp[o,g0,g1,g2,g3]
end
noncomputable def oI:Option Int->D
 |none=>.non
 |some i=>.int i
def mdB (o:List D) (b:Int) (e:Option Int) (t:List D):D:=if (∃ i,e=some i/\i<=mb b) then .non else .tup [.tup o,.int (mb b),oI e,.tup t]
theorem aL6 (o t:List D) (b:Int) (e:Option Int):a_9 [.tup o,.int b,oI e,.tup t]=some (mdB o b e t):=by
 unfold mdB;cases e with
 |none=>simp[a_9,o_2,oI,mb]
 |some i =>
  by_cases h:i<=mb b
  ·rw[if_pos ⟨i,rfl,h⟩];unfold mb at h;simp[a_9,o_2,oI,h]
  ·rw[if_neg (by rintro ⟨j,e,q⟩;cases e;exact h q)];unfold mb at h ⊢;simp[a_9,o_2,oI,h]
theorem br4 (e:Option Int):e_9 [.non,oI e]=some (oI e):=by cases e <;> simp[e_9,r_8,oI]
theorem bx7 {k:D} (h:k∈n_7):d_8 [cu8,onD k]=some (onD k):=by simp only[n_7,zl,zg,yf] at h;rcases h with rfl | rfl | rfl <;> kernel_rfl
theorem ck3:g_4 [evD,evD]=some evD:=by kernel_rfl
theorem bh8 {k:D}{b:Int}{e:Option Int}{t u:List D} (hk:k∈n_7) (hb:0 ≤ b) (Y:g_4 [evD,.tup t]=some (.tup u)):f_5 [xbD,.tup [onD k,.int b,oI e,.tup t]]=some (mdB [S6 "only",.tup [k]] b e u):=by
 have e1:=bx7 hk;have e2:=br4 e;have e3:=aL6 [S6 "only",.tup [k]] u b e;have O:(if b > 0 then b else 0)=b:=by split <;> omega
 simp[f_5,M_2,g0,g1,g2,g3,e1,e2,Y,e3,O]
theorem bV9 {v:Int} (Y:0<=v) (O:v<=4):v=0\/v=1\/v=2\/v=3\/v=4:=by omega
theorem bV6 {v:Int} (Y:0<=v) (O:v<=4):y_5 [evD,.int v]=some (.bl true):=by rcases bV9 Y O with rfl | rfl | rfl | rfl | rfl <;> kernel_rfl
theorem bV4 {k:D} (hk:k∈n_7):∃ r:Bool,e_8 [onD k,.str aS]=some (.bl r):=by
 simp only[n_7,zl,zg,yf] at hk;rcases hk with rfl | rfl | rfl
 ·exact⟨true,by kernel_rfl⟩
 ·exact⟨false,by kernel_rfl⟩
 ·exact⟨false,by kernel_rfl⟩
abbrev wbD (k:D) (b:Int) (e:Option Int):D:=.tup [onD k,.int b,oI e,evD]
theorem bV5 {k:D} (hk:k∈n_7) (b:Int) (e:Option Int) {u:Th} (h:Gd6 u):∃ r:Bool,l_1 [wbD k b e,tD u]=some (.bl r):=by
 obtain⟨t,uk,v⟩:=u;obtain⟨h1,h2,O,Y⟩:=h;dsimp only at h1 h2 O Y;subst h1;obtain⟨r,Z⟩:=bV4 hk;have hs:=bV6 O Y;by_cases c:t<b
 ·exact⟨false,by simp[l_1,E_0,tD,g0,g1,c]⟩
 ·cases e with
  |none=>cases r <;> simp[l_1,E_0,tD,g0,g1,g2,g3,c,oI,Z,hs]
  |some i =>
   by_cases c2:i<=t
   ·exact⟨false,by simp[l_1,E_0,tD,g0,g1,g2,c,c2,oI]⟩
   ·cases r <;> simp[l_1,E_0,tD,g0,g1,g2,g3,c,c2,oI,Z,hs]
section
variable {k:D} (hk:k∈n_7) (b:Int) (e:Option Int)
include hk
theorem aQ2:∀ S:List Th,(∀ u∈S,Gd6 u)->∃ F:List Th,cGo (tV (eF l_1 (aC (eV 1) (aC (eV 0) aN)))) (eV 0) [.im (wbD k b e)] (S.map tD)=some (F.map tD)/\(∀ u∈F,u∈S)/\F.length<=S.length
 |[],_=>⟨[],rfl,λ _ h=>h,qr _⟩
 |u::r,h=>by
  obtain⟨F,e1,e2,e3⟩:=aQ2 r λ x O=>h x (qo _ O);obtain⟨q,Y⟩:=bV5 hk b e (h u (qm ..));have Z:tV (eF l_1 (aC (eV 1) (aC (eV 0) aN))) [.im (tD u),.im (wbD k b e)]=some (q,[.im (tD u),.im (wbD k b e)]):=by generalize wbD k b e=W at Y ⊢;generalize tD u=U at Y ⊢;cases q <;> simp[Y]
  rw[ze,am1,Z,bs];cases q with
  |true =>
   refine⟨u::F,?_,λ x O=>?_,by simpa using e3⟩
   ·rw[if_pos rfl,e1];rfl
   ·rcases qz O with rfl | O
    ·exact qm ..
    ·exact qo _ (e2 x O)
  |false=>exact⟨F,by rw[if_neg zc];exact e1,λ x O=>qo _ (e2 x O),Nat.le_succ_of_le e3⟩
theorem bj1 {S:List Th} (h:∀ u∈S,Gd6 u) (hl:S.length<60):∃ F:List Th,i_2 [wbD k b e,.lst (S.map tD)]=some (.lst (F.map tD))/\(∀ u∈F,u∈S)/\F.length<=S.length:=by
 obtain⟨F,e1,e2,e3⟩:=aQ2 hk b e S h;have hz:(S.map tD).length<=sizeLine:=by rw[zd];exact a_6 (by omega)
 refine⟨F,?_,e2,e3⟩;generalize S.map tD=xs at *;simp[i_2,H_1,e1,hz]
theorem bf2 {fold:D}{x0 x1 x2:D}{Z:List D}{wd:Str} (hf:fold=.tup [x0,x1,x2,.tup Z]) (hr:atD Z (-1)=some (.str wd)) (hw:IsW wd) {S:List Th} (h:∀ u∈S,Gd6 u) (hl:S.length<60) :
  ∃ a:Option Int,u_4 [fold,wbD k b e,.lst (S.map tD)]=some (oI a)/\(wd=wM\/wd=wL->∀ i,a=some i->0<=i/\i<=4):=by
 obtain⟨F,e1,e2,e3⟩:=bj1 hk b e h hl;have c:=bC4 F;have hz:(F.map tD).length<=sizeLine:=by rw[zd];exact a_6 (by omega)
 subst hf;by_cases O:F=[]
 ·subst O;refine⟨none,?_,λ _ i z=>by cases z⟩;generalize wbD k b e=W at e1 ⊢;generalize S.map tD=xs at e1 ⊢;simp[u_4,H_2,e1,oI,aD9]
 ·have ne:F.map (·.v)≠[]:=by simpa using O
  have Y:=aq2 hw ne;have tr:(vls F).isEmpty=false:=by unfold vls;cases F with
   |nil=>exact absurd rfl O
   |cons=>rfl
  refine⟨some (amt wd (F.map (·.v))),?_,λ q i z=>?_⟩
  ·have Y:e_6 [.str wd,.lst (vls F)]=some (.int (amt wd (F.map (·.v)))):=Y;generalize wbD k b e=W at e1 ⊢;generalize S.map tD=xs at e1 ⊢;generalize F.map tD=ys at e1 c hz;simp[u_4,H_2,e1,oI,c,hz,g3,hr,Y,tr]
  ·cases z;have m:amt wd (F.map (·.v))∈F.map (·.v):=by
    rcases q with rfl | rfl
    ·unfold amt;rw[if_neg (by rw[n4];exact id),if_neg (by rw[n5];exact id),if_pos rfl];exact (cm7 ne).1
    ·unfold amt;rw[if_neg (by rw[n7];exact id),if_neg (by rw[n8];exact id),if_neg (by rw[n9];exact id)];exact (cm8 ne).1
   obtain⟨u,hu,eu⟩:=List.mem_map.mp m;have g:=h u (e2 u hu);rw[<- eu];exact⟨g.v0,g.v4⟩
end
abbrev sT (lo hi:Option Int):List D:=[oI lo,oI hi,.int 1,.int 0]
noncomputable def Sts:List (Option Int×Option Int):=[(none,none),(some 1,none),(none,some (-1)),(some 2,none),(some 3,none),(some 4,none),(some 5,none),(none,some 0),(none,some 1),(none,some 2),(none,some 3)]
section
variable (q f:String)
theorem aU2:b_1 [askR q f,.str wS,.non,evD]=some (.lst [evD]):=by kernel_rfl
theorem bI1 (i:Int):b_1 [askR q f,.str wS,.int i,evD]=some (.lst [.tup (sT (some 1) none),.tup (sT none (some (-1)))]):=by kernel_rfl
theorem aH6:b_1 [askR q f,.str wM,.non,evD]=some (.lst [evD]):=by kernel_rfl
theorem az9:b_1 [askR q f,.str wL,.non,evD]=some (.lst [evD]):=by kernel_rfl
theorem br9 {i:Int} (Y:0<=i) (O:i<=4):b_1 [askR q f,.str wM,.int i,evD]=some (.lst [.tup (sT (some (i+1)) none)]):=by rcases bV9 Y O with rfl | rfl | rfl | rfl | rfl <;> kernel_rfl
theorem aU3 {i:Int} (Y:0<=i) (O:i<=4):b_1 [askR q f,.str wL,.int i,evD]=some (.lst [.tup (sT none (some (i-1)))]):=by rcases bV9 Y O with rfl | rfl | rfl | rfl | rfl <;> kernel_rfl
theorem aU4 (i:Int):b_1 [askR q f,.str wC,.int i,evD]=some (.lst [evD]):=by kernel_rfl
end
theorem bI7 {q f:String}{wd:Str}{a:Option Int} (hw:IsW wd) (hc:wd=wC->a≠none) (hb:wd=wM\/wd=wL->∀ i,a=some i->0<=i/\i<=4) :
  ∃ Z:List (Option Int×Option Int),b_1 [askR q f,.str wd,oI a,evD]=some (.lst (Z.map λ p=>.tup (sT p.1 p.2)))/\(∀ p∈Z,p∈Sts)/\Z.length<=2:=by
 have one:∀ p∈Sts,∀ x∈[p],x∈Sts:=λ p hp x hx=>by rw[List.mem_singleton.mp hx];exact hp
 rcases hw with rfl | rfl | rfl | rfl
 ·cases a with
  |none=>exact absurd rfl (hc rfl)
  |some i=>exact⟨[(none,none)],aU4 q f i,one _ (by decide),by decide⟩
 ·cases a with
  |none=>exact⟨[(none,none)],aU2 q f,one _ (by decide),by decide⟩
  |some i=>exact⟨[(some 1,none),(none,some (-1))],bI1 q f i,by decide,by decide⟩
 ·cases a with
  |none=>exact⟨[(none,none)],aH6 q f,one _ (by decide),by decide⟩
  |some i =>
   obtain⟨O,Y⟩:=hb (.inl rfl) i rfl;refine⟨[(some (i+1),none)],br9 q f O Y,one _ ?_,Zd 1⟩;rcases bV9 O Y with rfl | rfl | rfl | rfl | rfl <;> decide
 ·cases a with
  |none=>exact⟨[(none,none)],az9 q f,one _ (by decide),by decide⟩
  |some i =>
   obtain⟨O,Y⟩:=hb (.inr rfl) i rfl;refine⟨[(none,some (i-1))],aU3 q f O Y,one _ ?_,Zd 1⟩;rcases bV9 O Y with rfl | rfl | rfl | rfl | rfl <;> decide
structure Bq where
 b:Int
 e:Option Int
 lo:Option Int
 hi:Option Int
def Bq.D (k:D) (x:Bq):D:=.tup [onD k,.int x.b,oI x.e,.tup (sT x.lo x.hi)]
structure Bq.Ok (x:Bq):Prop where
 b0:0<=x.b
 be:∀ i,x.e=some i->x.b<i
 st:(x.lo,x.hi)∈Sts
theorem bT7 {k:D}{x:Bq} (h:x.Ok) (t:Option Int×Option Int):a_9 [onD k,.int x.b,oI x.e,.tup (sT t.1 t.2)]=some (Bq.D k ⟨x.b,x.e,t.1,t.2⟩):=by
 rw[aL6];have m:mb x.b=x.b:=by unfold mb;rw[if_neg (by have:=h.b0;omega)]
 unfold mdB;rw[if_neg (by rintro ⟨i,e,q⟩;have:=h.be i e;rw[m] at q;omega),m];rfl
def BL (c:Bool):List D:=if c=true then [xbD] else []
theorem cn0 (c:Bool):b_9 [.lst (BL c),.non]=some (.lst []):=by generalize BL c=B;simp[b_9,v_2]
structure Ev (bs:List Bq):Prop where
 ok:∀ x∈bs,x.Ok/\x.lo=none/\x.hi=none
 len:bs.length<=1
theorem Ev.nil:Ev []:=⟨λ _ h=>absurd h zg,zx _⟩
theorem bS9 (c:Bool) {k:D} (hk:k∈n_7) {b:Int}{e:Option Int} (hb:0<=b) (O:∀ i,e=some i->b<i):∃ bs,b_9 [.lst (BL c),wbD k b e]=some (.lst (bs.map (Bq.D k)))/\Ev bs:=by
 cases c with
 |false =>
  refine⟨[],?_,Ev.nil⟩;show b_9 [.lst [],wbD k b e]=_;generalize onD k=K;simp[b_9,v_2,aD9]
 |true =>
  refine⟨[⟨b,e,none,none⟩],?_,⟨λ x hx=>?_,qr _⟩⟩
  ·show b_9 [.lst [xbD],wbD k b e]=some (.lst [wbD k b e]);have m:=bh8 (e:=e) hk hb ck3;have Z:mdB [S6 "only",.tup [k]] b e [.non,.non,.int 1,.int 0]=wbD k b e:=by
    have q:mb b=b:=by unfold mb;rw[if_neg (by omega)]
    unfold mdB;rw[if_neg (by rintro ⟨i,z,y⟩;have:=O i z;rw[q] at y;omega),q]
   rw[Z] at m;have m:f_5 [xbD,wbD k b e]=some (wbD k b e):=m;unfold wbD at m ⊢;generalize xbD=X at m ⊢;generalize onD k=K at m ⊢;generalize evD=V at m ⊢;have Y:1<=sizeLine:=a_6 (by decide);simp[b_9,v_2,am1,aD9,m,bs,Y]
  ·rw[List.mem_singleton.mp hx];exact⟨⟨hb,O,qm ..⟩,rfl,rfl⟩
theorem ag5 (c:Bool) {k:D} (hk:k∈n_7) (b e:Int):∃ d,e_7 [k,.int b,.int e]=some d/\(d=.non\/∃ O Y,0<=O/\O<Y/\d=wbD k O (some Y))/\∃ bs,b_9 [.lst (BL c),d]=some (.lst (bs.map (Bq.D k)))/\Ev bs:=by
 rw[as4];by_cases h:e<=mb b
 ·rw[if_pos h];exact⟨.non,rfl,.inl rfl,[],cn0 c,Ev.nil⟩
 ·rw[if_neg h];have Z:0<=mb b:=by unfold mb;split <;> omega
  have h1:mb b<e:=Int.not_le.mp h;have m:=bS9 c (e:=some e) hk Z λ i z=>by cases z;exact h1
  refine⟨bxD [S6 "only",.tup [k]] b (.int e),rfl,.inr ⟨mb b,e,Z,h1,?_⟩,m⟩;unfold bxD wbD oI onD;rfl
theorem bs2 (a0 Y a2 Z:Sl) {k:D}{x:Bq} (h:x.Ok) (hv:x.lo=none/\x.hi=none) (t:Option Int×Option Int) (O:List D) (ha:O.length<1000) :
  f_9 [a0,Y,a2,Z,.ow false (.lst O),.im (Bq.D k x),.im (.tup (sT t.1 t.2))]=some (.nx [a0,Y,a2,Z,.ow false (.lst (O++[Bq.D k ⟨x.b,x.e,t.1,t.2⟩])),.im (Bq.D k x),.im (.tup (sT t.1 t.2))]):=by
 have e:=bT7 (k:=k) h t;have Y:O.length<1000000:=by omega
 have ex:Bq.D k x=.tup [onD k,.int x.b,oI x.e,.tup (sT x.lo x.hi)]:=rfl;generalize Bq.D k ⟨x.b,x.e,t.1,t.2⟩=r at e ⊢;generalize D.tup (sT t.1 t.2)=T at e ⊢;rw[ex];generalize D.tup (sT x.lo x.hi)=U;generalize onD k=K at e ⊢;simp[f_9,g0,g1,g2,e,Y]
theorem aJ2 (a0 a1 Z Y:Sl) {k:D}{x:Bq} (h:x.Ok) (hv:x.lo=none/\x.hi=none):∀ (ts:List (Option Int×Option Int)) (O:List D),O.length+ts.length<1000->∀ s6:Sl,∃ aa,fGo (gN 6) f_9 (ts.map λ p=>.tup (sT p.1 p.2)) [a0,a1,Z,Y,.ow false (.lst O),.im (Bq.D k x),s6]
  = some (.nx [a0,a1,Z,Y,.ow false (.lst (O++ts.map λ p=>Bq.D k ⟨x.b,x.e,p.1,p.2⟩)),.im (Bq.D k x),aa])
 |[],O,_,s6=>⟨s6,by show some _=_;rw[jv,zw]⟩
 |t::ts,O,ha,s6=>by
  rw[zi] at ha;have e:=bs2 a0 a1 Z Y (k:=k) h hv t O (by omega);obtain⟨b,e2⟩:=aJ2 a0 a1 Z Y (k:=k) h hv ts (O++[Bq.D k ⟨x.b,x.e,t.1,t.2⟩]) (by rw[zh,zq];omega) (.im (.tup (sT t.1 t.2)));refine⟨b,?_⟩;have g:gN 6 (.tup (sT t.1 t.2)) [a0,a1,Z,Y,.ow false (.lst O),.im (Bq.D k x),s6]=some [a0,a1,Z,Y,.ow false (.lst O),.im (Bq.D k x),.im (.tup (sT t.1 t.2))]:=rfl;show fGo _ _ (.tup (sT t.1 t.2)::ts.map _) _=_;rw[Q_6,g,Q_7,e,X_7,e2,ym];rfl
theorem bg2 {q f:String}{wd:Str}{a:Option Int} (hw:IsW wd) (hc:wd=wC->a≠none) (hb:wd=wM\/wd=wL->∀ i,a=some i->0<=i/\i<=4) {k:D}{bs:List Bq} (hE:Ev bs) :
  ∃ cs:List Bq,d_1 [askR q f,.str wd,oI a,.lst (bs.map (Bq.D k))]=some (.lst (cs.map (Bq.D k)))/\(∀ x∈cs,x.Ok)/\cs.length<=2:=by
 obtain⟨Z,e1,e2,e3⟩:=bI7 (q:=q) (f:=f) hw hc hb
 match bs,hE with
 |[],_ =>
  refine⟨[],?_,λ _ h=>absurd h zg,zx _⟩;generalize askR q f=A;generalize oI a=O;generalize D.str wd=WD;simp[d_1,u_8,bt0]
 |x::y::r,hE=>exact absurd hE.len (by simp)
 |[x],hE =>
  obtain⟨h,hl,hh⟩:=hE.ok x (qm ..);obtain⟨s6,Y⟩:=aJ2 (.im (askR q f)) (.im (.str wd)) (.im (oI a)) (.im (.lst [Bq.D k x])) (k:=k) h ⟨hl,hh⟩ Z [] (by show 0+Z.length<1000;omega) .no;have ex:Bq.D k x=.tup [onD k,.int x.b,oI x.e,evD]:=by unfold Bq.D;rw[hl,hh];rfl
  refine⟨Z.map λ p=>⟨x.b,x.e,p.1,p.2⟩,?_,λ y hy=>?_,by rw[zd];exact e3⟩
  ·rw[Qh];have Y:fGo (gN 6) f_9 (Z.map λ p=>.tup (sT p.1 p.2)) [.im (askR q f),.im (.str wd),.im (oI a),.im (.lst [Bq.D k x]),.ow false (.lst []),.im (Bq.D k x),.no]=some (.nx [.im (askR q f),.im (.str wd),.im (oI a),.im (.lst [Bq.D k x]),.ow false (.lst (Z.map (Bq.D k ∘ λ p=>⟨x.b,x.e,p.1,p.2⟩))),.im (Bq.D k x),s6]):=Y;generalize Z.map (Bq.D k ∘ λ p=>(⟨x.b,x.e,p.1,p.2⟩:Bq))=R at Y ⊢;generalize (Z.map λ p=>(.tup (sT p.1 p.2):D))=L at Y e1;rw[ze,jv];rw[ex] at Y ⊢;generalize evD=V at e1 Y ⊢;generalize askR q f=A at e1 Y ⊢;generalize oI a=O at e1 Y ⊢;generalize onD k=K at e1 Y ⊢;generalize oI x.e=E at e1 Y ⊢;generalize D.str wd=WD at e1 Y ⊢;have st:fGo (gN 5) k_3 [.tup [K,.int x.b,E,V]] [.im A,.im WD,.im O,.im (.lst [.tup [K,.int x.b,E,V]]),.ow false (.lst []),.no,.no]=some (.nx [.im A,.im WD,.im O,.im (.lst [.tup [K,.int x.b,E,V]]),.ow false (.lst R),.im (.tup [K,.int x.b,E,V]),s6]):=by
    have g:gN 5 (.tup [K,.int x.b,E,V]) [.im A,.im WD,.im O,.im (.lst [.tup [K,.int x.b,E,V]]),.ow false (.lst []),.no,.no]=some [.im A,.im WD,.im O,.im (.lst [.tup [K,.int x.b,E,V]]),.ow false (.lst []),.im (.tup [K,.int x.b,E,V]),.no]:=rfl;rw[Q_6,g,Q_7];have b:k_3 [.im A,.im WD,.im O,.im (.lst [.tup [K,.int x.b,E,V]]),.ow false (.lst []),.im (.tup [K,.int x.b,E,V]),.no]=some (.nx [.im A,.im WD,.im O,.im (.lst [.tup [K,.int x.b,E,V]]),.ow false (.lst R),.im (.tup [K,.int x.b,E,V]),s6]):=by simp[k_3,g3,e1,Y]
    rw[b,X_7,bt0]
   simp[d_1,u_8,st]
  ·obtain⟨p,hp,rfl⟩:=List.mem_map.mp hy;exact⟨h.b0,h.be,e2 p hp⟩
structure Trn (k:D) (r:Option D):Prop where
 ex:∃ cs:List Bq,r=some (.lst (cs.map (Bq.D k)))/\(∀ x∈cs,x.Ok)/\cs.length<=4
section
variable (c:Bool) {k:D} (hk:k∈n_7) {S:List Th} (h:∀ u∈S,Gd6 u) (hl:S.length<60) {q f:String}
include hk h hl
theorem ac6 {fold x0 x1 x2:D}{rs:List D}{wd:Str} (Z:fold=.tup [x0,x1,x2,.tup rs]) (hr:atD rs (-1)=some (.str wd)) (hw:IsW wd) (hC:wd≠wC) {b:Int}{e:Option Int} (hb:0<=b) (he:∀ i,e=some i->b<i) :
  Trn k (h_0 [askR q f,fold,wbD k b e,.lst (S.map tD),.lst (BL c)]):=by
 obtain⟨a,e1,e2⟩:=bf2 hk b e Z hr hw h hl;obtain⟨bs,e3,e4⟩:=bS9 c hk hb he;obtain⟨cs,Y,e6,e7⟩:=bg2 (q:=q) (f:=f) hw (λ z=>absurd z hC) e2 (k:=k) e4;refine⟨cs,?_,e6,z0 e7 (by decide)⟩;subst Z;generalize cs.map (Bq.D k)=CS at Y ⊢;generalize bs.map (Bq.D k)=BS at Y e3;generalize wbD k b e=W at e1 e3 ⊢;generalize S.map tD=T at e1 ⊢;generalize BL c=B at e3 ⊢;generalize askR q f=A at Y ⊢;generalize oI a=O at e1 Y;simp[h_0,A_8,g3,hr,e1,e3,Y]
theorem aV1 {w:Int} (w1:1<=w) (n:Int):Trn k (e_4 [askR q f,bb0 w,k,.int n,.lst (S.map tD),.lst (BL c)]):=by
 obtain⟨cs,f1,f2,f3⟩:=bz1 w1 (w:=wC) (.inl rfl) (L:=S) (by omega);obtain⟨ks,rfl⟩:∃ ks,k=.str ks:=by simp only[n_7,zl,zg,yf] at hk;rcases hk with rfl | rfl | rfl <;> exact⟨_,rfl⟩
 obtain⟨p1,p2⟩:=aN5 ks n cs;have cl:cs.length<=1000:=by omega
 have nd:((cs.map λ c=>((c.k,c.a),(.tup [.int c.b,.int c.m]:D))).map (·.1)).Nodup:=by rw[Qh];exact f3
 have Y:ap3 (.lst (cs.map cD)) (.tup [.str ks,.int n])=some (cu9 (fnd ks n cs)):=by rw[bA3,p1,bc5,if_pos ⟨by rw[zd];exact cl,nd⟩,p2]
 obtain⟨d1,k1,o1,b1,m1,v1⟩:=ag5 c hk (n-w+1) n;have ti:∃ F:List Th,i_2 [d1,.lst (S.map tD)]=some (.lst (F.map tD)):=by
  rcases o1 with rfl | ⟨b',e',_,_,rfl⟩
  ·exact⟨[],by generalize S.map tD=T;simp[i_2,H_1]⟩
  ·obtain⟨F,e,_⟩:=bj1 hk b' (some e') h hl;exact⟨F,e⟩
 obtain⟨F,t1⟩:=ti;have fc:j_5 [.tup [S6 "gaps",S6 "fc",.tup [S6 "x"],.tup [.int w,.str wC]],.lst (S.map tD)]=some (.lst (cs.map cD)):=f1;generalize cs.map cD=CS at fc Y;cases hq:fnd ks n cs with
 |none =>
  rw[hq] at Y;have Y:ap3 (.lst CS) (.tup [.str ks,.int n])=some .non:=Y;obtain⟨d2,k2,o2,b2,Z,v2⟩:=ag5 c hk n (n+1);by_cases hF:F=[]
  ·subst hF;refine⟨b2,?_,λ x O=>(v2.ok x O).1,z0 v2.len (by decide)⟩;generalize b2.map (Bq.D (.str ks))=B2 at Z ⊢;generalize BL c=B at Z ⊢;generalize S.map tD=T at t1 fc ⊢;generalize askR q f=A;simp[e_4,k_5,g0,g3,k1,Y,fc,t1,k2,Z]
  ·have tr:(F.map tD).isEmpty=false:=by cases F with
    |nil=>exact absurd rfl hF
    |cons=>rfl
   refine⟨[],?_,λ x O=>absurd O zg,zx _⟩;generalize F.map tD=FT at t1 tr;generalize BL c=B;generalize S.map tD=T at t1 fc ⊢;generalize askR q f=A;simp[e_4,k_5,g0,g3,k1,Y,fc,t1,tr]
 |some p =>
  obtain⟨la,am⟩:=p;rw[hq] at Y;have Y:ap3 (.lst CS) (.tup [.str ks,.int n])=some (.tup [.int la,.int am]):=Y;obtain⟨d2,k2,o2,b2,Z,v2⟩:=ag5 c hk n (la+1);obtain⟨d3,k3,o3,b3,m3,v3⟩:=ag5 c hk (la+1) (la+w);obtain⟨cs,e5,e6,e7⟩:=bg2 (q:=q) (f:=f) (wd:=wC) (a:=some am) (.inl rfl) (λ _ z=>by cases z) (λ z=>by rcases z with z | z <;> exact absurd z (by decide +kernel)) (k:=.str ks) v2;have e5:d_1 [askR q f,.str wC,.int am,.lst (b2.map (Bq.D (.str ks)))]=some (.lst (cs.map (Bq.D (.str ks)))):=e5;refine⟨cs++b1++b3,?_,λ x O=>?_,?_⟩
  ·rw[yt,yt];have z1:(cs.map (Bq.D (.str ks))).length<=2:=by rw[zd];exact e7
   have z2:(b1.map (Bq.D (.str ks))).length<=1:=by rw[zd];exact v1.len
   have z3:(b3.map (Bq.D (.str ks))).length<=1:=by rw[zd];exact v3.len
   generalize b1.map (Bq.D (.str ks))=B1 at m1 z2 ⊢;generalize b2.map (Bq.D (.str ks))=B2 at Z e5;generalize b3.map (Bq.D (.str ks))=B3 at m3 z3 ⊢;generalize cs.map (Bq.D (.str ks))=CC at e5 z1 ⊢;generalize BL c=B at m1 Z m3 ⊢;generalize S.map tD=T at t1 fc ⊢;generalize askR q f=A at e5 ⊢;have y1:CC.length+B1.length<=sizeLine:=a_6 (by omega);have y2:CC.length+B1.length+B3.length<=sizeLine:=a_6 (by omega);simp[e_4,k_5,g0,g1,g3,by1,k1,Y,fc,t1,k2,Z,k3,m3,m1,e5,y1,y2]
  ·rcases zb O with O | O
   ·rcases zb O with O | O
    ·exact e6 x O
    ·exact (v1.ok x O).1
   ·exact (v3.ok x O).1
  ·have:=v1.len;have:=v3.len;rw[zh,zh];omega
end
inductive Cell (w s z:Int):String->String->D->Int->Prop where
 |a (n:Int) (h:0 ≤ n):Cell w s z "qa" "fa" (bb2 w) n
 |b (n:Int) (h:n*s+z > 0):Cell w s z "qb" "fb" (aV0 z s) n
 |c (n:Int) (h:0 ≤ n):Cell w s z "qc" "fc" (bb0 w) n
 |d:Cell w s z "qd" "fd" bb9 0
structure Wk (w s z:Int):Prop where
 w1:1<=w
 w9:w<=9
 s1:1<=s
 s3:s<=3
 z1:1<=z
section
variable (c:Bool) {k:D} (hk:k∈n_7) {S:List Th} (h:∀ u∈S,Gd6 u) (hl:S.length<60) {w s z:Int} (W:Wk w s z)
include hk h hl W
theorem ah0 {q f:String}{fold:D}{n:Int} (C:Cell w s z q f fold n):Trn k (b_6 [askR q f,fold,k,.int n,.lst (S.map tD),.lst (BL c)]):=by
 obtain⟨w1,w9,s1,s3,z1⟩:=W;have go:∀ {q f:String}{o x1 Z:D}{O:Str}{Y:List D}{B:D},(O=Str.ofString "gaps")=False → e_2 [.tup [.str O,x1,Z,.tup Y],k,.int n]=some B → Trn k (h_0 [askR q f,.tup [.str O,x1,Z,.tup Y],B,.lst (S.map tD),.lst (BL c)]) → Trn k (b_6 [askR q f,.tup [.str O,x1,Z,.tup Y],k,.int n,.lst (S.map tD),.lst (BL c)]):=by intro q f o x1 Z O Y B hn hB ⟨cs,e,r⟩;refine⟨cs,?_,r⟩;generalize cs.map (Bq.D k)=CS at e ⊢;generalize BL c=B at e ⊢;generalize S.map tD=T at e ⊢;generalize askR q f=A at e ⊢;generalize D.tup Y=RS at e hB ⊢;simp[b_6,u_9,g0,hn,hB,e]
 cases C with
 |a _ n0 =>
  have e:=bZ7 w n k (by omega);have y:0<=n*w:=Int.mul_nonneg n0 (by omega);have y2:n*w<(n+1)*w:=by rw[Int.add_mul,Int.one_mul];omega
  have m:mb (n*w)=n*w:=by unfold mb;rw[if_neg (by omega)]
  unfold bxD at e;rw[m,if_neg (by omega)] at e;exact go (o:=.non) cl3 e (ac6 c hk h hl rfl (by1 _ _) (.inr (.inl rfl)) (by decide +kernel) y (e:=some ((n+1)*w)) λ i z=>by cases z;exact y2)
 |b _ n0 =>
  have e:=bZ5 s z n k (by omega);have y:0<=mb (n*s):=by unfold mb;split <;> omega
  have y2:mb (n*s)<n*s+z:=by unfold mb;split <;> omega
  unfold bxD at e;rw[if_neg (by omega)] at e;exact go (o:=.non) cl2 e (ac6 c hk h hl rfl (show atD [.int z,.int s,.str wM] (-1)=some (.str wM) from rfl) (.inr (.inr (.inl rfl))) (by decide +kernel) y (e:=some (n*s+z)) λ i z=>by cases z;exact y2)
 |c _ n0 =>
  obtain⟨cs,e,r⟩:=aV1 c hk h hl (q:="qc") (f:="fc") w1 n;refine⟨cs,?_,r⟩;generalize cs.map (Bq.D k)=CS at e ⊢;generalize BL c=B at e ⊢;generalize S.map tD=T at e ⊢;simp[b_6,u_9,g0,e]
 |d =>
  have e:=cq0 0 k;have m:mb 0=0:=rfl;unfold bxD at e;rw[m] at e;exact go (o:=.non) (yw (by decide +kernel)) e (ac6 c hk h hl rfl (show atD [.str wL] (-1)=some (.str wL) from rfl) (.inr (.inr (.inr rfl))) (by decide +kernel) (Z5 0) (e:=none) λ i z=>by cases z)
theorem U_0 {q f:String}{fold:D}{n:Int} (C:Cell w s z q f fold n):a_1 [wkD w s z,S6 q,k,.int n]=some (.inl .non):=by
 obtain⟨Y,w9,Z,s3,z1⟩:=W;have y:=M_1 hk;cases C with
 |a _ O =>
  have e:=chk (bQ2 w s z) (bR1 w s z) (bm6 y n w Y w9);rw[zu O] at e;exact e
 |b _ O =>
  have e:=chk (bP7 w s z) (bQ9 w s z) (bk8 y n s z Z s3 z1);rw[zu O] at e;exact e
 |c _ O =>
  have e:=chk (bP6 w s z) (bQ4 w s z) (bl9 y n w);rw[zu O] at e;exact e
 |d=>exact chk (bP4 w s z) (bQ3 w s z) (bk7 y 0)
end
theorem ad5 {w s z:Int}{q f:String}{fold:D}{n:Int} (C:Cell w s z q f fold n):e_5 [wkD w s z,S6 q]=some (.tup [askR q f,fold,inR]):=by
 cases C with
 |a=>exact bL2 w s z
 |b=>exact bK3 w s z
 |c=>exact bK2 w s z
 |d=>exact bK1 w s z
theorem az1 {w s z:Int}{q f:String}{fold:D}{n:Int} (C:Cell w s z q f fold n):f_1 [wkD w s z,S6 q]=some (.lst [inR]):=by
 cases C with
 |a=>exact ah5 w s z (.head _)
 |b=>exact ah5 w s z (.tail _ (.head _))
 |c=>exact ah5 w s z (.tail _ (.tail _ (.head _)))
 |d=>exact ah5 w s z (.tail _ (.tail _ (.tail _ (.head _))))
noncomputable abbrev Vs:List Int:=[0,1,-1,2,3,4,5]
abbrev pt (v:Int):List D:=[.int v,.int v,.int 1,.int 0]
theorem bJ7 {k:D} (hk:k∈n_7) {x:Bq} (h:x.Ok):∃ v∈Vs,s_2 [Bq.D k x]=some (.tup [.int x.b,k,.int v]):=by
 obtain⟨b,e,lo,hi⟩:=x;have st:=h.st;have st:(lo,hi)∈Sts:=st;simp only[Sts,zl,zg,yf,Ql] at st;simp only[n_7,zl,zg,yf] at hk;rcases hk with rfl | rfl | rfl
 all_goals
  rcases st with ⟨rfl,rfl⟩ | ⟨rfl,rfl⟩ | ⟨rfl,rfl⟩ | ⟨rfl,rfl⟩ | ⟨rfl,rfl⟩ | ⟨rfl,rfl⟩ | ⟨rfl,rfl⟩ | ⟨rfl,rfl⟩ | ⟨rfl,rfl⟩ | ⟨rfl,rfl⟩ | ⟨rfl,rfl⟩
  ·exact⟨0,by decide,by kernel_rfl⟩
  ·exact⟨1,by decide,by kernel_rfl⟩
  ·exact⟨-1,by decide,by kernel_rfl⟩
  ·exact⟨2,by decide,by kernel_rfl⟩
  ·exact⟨3,by decide,by kernel_rfl⟩
  ·exact⟨4,by decide,by kernel_rfl⟩
  ·exact⟨5,by decide,by kernel_rfl⟩
  all_goals exact⟨0,by decide,by kernel_rfl⟩
theorem bH4 {v:Int} (hv:v∈Vs):a_5 [.int v,.int v,.int 1,.int 0]=some (.tup (pt v))/\g_4 [evD,.tup (pt v)]=some (.tup (pt v)):=by simp only[Vs,zl,zg,yf] at hv;rcases hv with rfl | rfl | rfl | rfl | rfl | rfl | rfl <;> exact⟨by kernel_rfl,by kernel_rfl⟩
section
variable {k:D} (hk:k∈n_7) {v:Int} (hv:v∈Vs) {b:Int} (hb:0<=b)
abbrev tbD (k:D) (b v:Int):D:=.tup [onD k,.int b,.int (b+1),.tup (pt v)]
include hk hv in
theorem bJ6:s_2 [tbD k b v]=some (.tup [.int b,k,.int v]):=by simp only[n_7,zl,zg,yf] at hk;simp only[Vs,zl,zg,yf] at hv;rcases hk with rfl | rfl | rfl <;> rcases hv with rfl | rfl | rfl | rfl | rfl | rfl | rfl <;> kernel_rfl
include hv hb in
theorem bT1:mdB [S6 "only",.tup [k]] b (some (b+1)) (pt v)=tbD k b v:=by
 have q:mb b=b:=by unfold mb;rw[if_neg (by omega)]
 unfold mdB;rw[if_neg (by rintro ⟨i,z,y⟩;cases z;rw[q] at y;omega),q];rfl
include hv hb in
theorem bs1:u_1 [.tup [.int b,k,.int v]]=some (tbD k b v):=by have e1:=(bH4 hv).1;have e2:=aL6 [S6 "only",.tup [k]] (pt v) b (some (b+1));rw[bT1 hv hb] at e2;have e2:a_9 [.tup [S6 "only",.tup [k]],.int b,.int (b+1),.tup (pt v)]=some (tbD k b v):=e2;generalize tbD k b v=R at e2 ⊢;simp[u_1,U_7,g0,g1,g2,e1,e2]
include hk hv hb in
theorem bi6:f_5 [xbD,tbD k b v]=some (tbD k b v):=by have m:=bh8 (e:=some (b+1)) hk hb (bH4 hv).2;rw[bT1 hv hb] at m;exact m
include hk hv hb in
theorem cm9:b_9 [.lst [xbD],tbD k b v]=some (.lst [tbD k b v]):=by have m:=bi6 hk hv hb;have O:1<=sizeLine:=a_6 (by decide);unfold tbD at m ⊢;generalize xbD=X at m ⊢;generalize onD k=K at m ⊢;generalize D.tup (pt v)=V at m ⊢;simp[b_9,v_2,am1,aD9,m,bs,O]
theorem inb:p_7 [inR,.int 0]=some xbD:=by kernel_rfl
theorem cy2:r_7 [inR,mk0]=some (.lst [xbD]):=by kernel_rfl
variable (w s z:Int)
include hk hv hb in
theorem ca3:a_8 [wkD w s z,S6 "x",tbD k b v]=some (.lst [.tup [S6 "x",tbD k b v]]):=by have m:=bi6 hk hv hb;have e:=by4 w s z;have i:=inb;unfold tbD at m ⊢;generalize wkD w s z=W at e ⊢;generalize xbD=X at m i;generalize onD k=K at m ⊢;generalize D.tup (pt v)=V at m ⊢;simp[a_8,f_8,e,g0,i,m]
include hk hv hb in
theorem bc7:o_1 [wkD w s z,mk0,S6 "x",.tup [.int b,k,.int v]]=some (.tup [S6 "thing",S6 "x",.int b,k,.int v]):=by
 have e1:=bs1 (k:=k) hv hb;have e2:=ca3 hk hv hb w s z;have e3:=cm9 hk hv hb;have O:=bJ6 hk hv (b:=b);have e:=by4 w s z;have i:=cy2;generalize tbD k b v=T at e1 e2 e3 O;generalize wkD w s z=W at e e2 ⊢;generalize mk0=M at i ⊢;generalize xbD=X at i e3;have st:fGo (gT [4,5]) u_5 [.tup [S6 "x",T]] [.im W,.im M,.im (S6 "x"),.im (.tup [.int b,k,.int v]),.no,.no,.no]=some (.rt (.tup [S6 "thing",S6 "x",.int b,k,.int v]) [.im W,.im M,.im (S6 "x"),.im (.tup [.int b,k,.int v]),.im (S6 "x"),.im T,.im (.lst [T])]):=by have g:gT [4,5] (.tup [S6 "x",T]) [.im W,.im M,.im (S6 "x"),.im (.tup [.int b,k,.int v]),.no,.no,.no]=some [.im W,.im M,.im (S6 "x"),.im (.tup [.int b,k,.int v]),.im (S6 "x"),.im T,.no]:=rfl;rw[ak9,g,bs];simp[u_5,e,i,e3,O,g0];rfl
 simp[o_1,K_0,e1,e2,st]
end
section
variable {k:D} (hk:k∈n_7) {S:List Th} (h:∀ u∈S,Gd6 u) (hl:S.length<60) {w s z:Int} (W:Wk w s z) {q f:String}{fold:D}{n:Int} (C:Cell w s z q f fold n)
include C in
theorem cl8 (T:D):q_3 [askR q f,fold,k,.int n,T]=some (.int 1):=by
 cases C with
 |a=>kernel_rfl
 |b=>kernel_rfl
 |c=>kernel_rfl
 |d=>kernel_rfl
include hk h hl W C
theorem aE5:∃ L:List D,f_4 [wkD w s z,mk0,.tup [askR q f,fold,inR],k,.int n,.lst (S.map tD),.lst [xbD]]=some (.lst L):=by
 obtain⟨cs,e,ok,_⟩:=ah0 true hk h hl W C;have e:b_6 [askR q f,fold,k,.int n,.lst (S.map tD),.lst [xbD]]=some (.lst (cs.map (Bq.D k))):=e;have o:=cl8 (k:=k) C (.lst (S.map tD))
 match cs,ok with
 |[],_ =>
  refine⟨[],?_⟩;have e:b_6 [askR q f,fold,k,.int n,.lst (S.map tD),.lst [xbD]]=some (.lst []):=e;generalize S.map tD=T at e ⊢;generalize wkD w s z=Z;generalize askR q f=A at e ⊢;generalize xbD=X at e ⊢;simp[f_4,v_1,g0,g1,e]
 |x::r,ok =>
  have Y:=ok x (qm ..);obtain⟨v,hv,es⟩:=bJ7 hk Y;have O:=bc7 hk hv Y.b0 w s z;refine⟨[.tup [S6 "thing",S6 "x",.int x.b,k,.int v]],?_⟩;rw[ze] at e;generalize Bq.D k x=BX at e es;generalize r.map (Bq.D k)=BR at e;generalize S.map tD=T at e o ⊢;generalize wkD w s z=Z at O ⊢;generalize askR q f=A at e o ⊢;generalize xbD=X at e ⊢;generalize mk0=M at O ⊢;have i1:atD [S6 "in",S6 "x",.tup [],.tup [.non,.non]] 1=some (S6 "x"):=rfl;simp[f_4,v_1,g0,g1,g2,e,es,i1,O,o]
def shD (x:Bq):D:=match x.e with
 |none=>.non
 |some i=>.int (i-0)
omit hk h hl W C in
theorem ck4 (x:Bq):n_8 [S6 "x",.tup [S6 "x",.int 0],oI x.e]=some (shD x):=by
 unfold shD;cases x.e with
 |none=>kernel_rfl
 |some i=>kernel_rfl
omit hk h hl W C in
theorem bt7 (a0 a1 Z Y a4 a5 b8:Sl) (x:Bq) (O:List D) (ha:O.length<1000) :
  c_7 [a0,a1,Z,Y,a4,a5,.im (S6 "x"),.ow false (.lst O),b8,.im (.tup [S6 "x",.int 0]),.im (Bq.D k x)]=some (.nx [a0,a1,Z,Y,a4,a5,.im (S6 "x"),.ow false (.lst (O++[shD x])),b8,.im (.tup [S6 "x",.int 0]),.im (Bq.D k x)]):=by
 have e:=ck4 x;have al:O.length<1000000:=by omega
 have ex:Bq.D k x=.tup [onD k,.int x.b,oI x.e,.tup (sT x.lo x.hi)]:=rfl;rw[ex];generalize D.tup (sT x.lo x.hi)=U;generalize onD k=K;generalize oI x.e=E at e ⊢;generalize shD x=R at e ⊢;simp[c_7,g2,e,al]
omit hk h hl W C in
theorem aJ7 (a0 a1 a2 Z a4 a5 b8:Sl):∀ (cs:List Bq) (O:List D),O.length+cs.length<1000 → ∀ Y:Sl,∃ aa,fGo (gN 10) c_7 (cs.map (Bq.D k)) [a0,a1,a2,Z,a4,a5,.im (S6 "x"),.ow false (.lst O),b8,.im (.tup [S6 "x",.int 0]),Y]
  = some (.nx [a0,a1,a2,Z,a4,a5,.im (S6 "x"),.ow false (.lst (O++cs.map shD)),b8,.im (.tup [S6 "x",.int 0]),aa])
 |[],O,_,Y=>⟨Y,by show some _=_;rw[jv,zw]⟩
 |x::cs,O,ha,Y=>by
  rw[zi] at ha;have e:=bt7 (k:=k) a0 a1 a2 Z a4 a5 b8 x O (by omega);obtain⟨b,e2⟩:=aJ7 a0 a1 a2 Z a4 a5 b8 cs (O++[shD x]) (by rw[zh,zq];omega) (.im (Bq.D k x));refine⟨b,?_⟩;have g:gN 10 (Bq.D k x) [a0,a1,a2,Z,a4,a5,.im (S6 "x"),.ow false (.lst O),b8,.im (.tup [S6 "x",.int 0]),Y]=some [a0,a1,a2,Z,a4,a5,.im (S6 "x"),.ow false (.lst O),b8,.im (.tup [S6 "x",.int 0]),.im (Bq.D k x)]:=rfl;show fGo _ _ (Bq.D k x::cs.map (Bq.D k)) _=_;rw[Q_6,g,Q_7,e,X_7,e2,ym];rfl
theorem bt4:∃ cs:List Bq,c_2 [wkD w s z,mk0,.tup [askR q f,fold,inR],k,.int n,.lst (S.map tD),S6 "x"]=some (.lst (cs.map shD)):=by
 obtain⟨cs,e,ok,cl⟩:=ah0 true hk h hl W C;have e:b_6 [askR q f,fold,k,.int n,.lst (S.map tD),.lst [xbD]]=some (.lst (cs.map (Bq.D k))):=e;refine⟨cs,?_⟩;have Z:=br3 w s z;generalize S.map tD=T at e ⊢;generalize wkD w s z=O at Z ⊢;generalize askR q f=A at e ⊢;generalize xbD=X at e Z ⊢;generalize mk0=M at Z ⊢;have i1:atD [S6 "in",S6 "x",.tup [],.tup [.non,.non]] 1=some (S6 "x"):=rfl;obtain⟨Y,sl⟩:=aJ7 (k:=k) (.im O) (.im M) (.im (.tup [A,fold,inR])) (.im k) (.im (.int n)) (.im (.lst T)) (.im X) cs [] (by show 0+cs.length<1000;omega) .no;have sl:fGo (gN 10) c_7 (cs.map (Bq.D k)) [.im O,.im M,.im (.tup [A,fold,inR]),.im k,.im (.int n),.im (.lst T),.im (S6 "x"),.ow false (.lst []),.im X,.im (.tup [S6 "x",.int 0]),.no]=some (.nx [.im O,.im M,.im (.tup [A,fold,inR]),.im k,.im (.int n),.im (.lst T),.im (S6 "x"),.ow false (.lst (cs.map shD)),.im X,.im (.tup [S6 "x",.int 0]),Y]):=sl;have b:e_1 [.im O,.im M,.im (.tup [A,fold,inR]),.im k,.im (.int n),.im (.lst T),.im (S6 "x"),.ow false (.lst []),.im X,.im (.tup [S6 "x",.int 0]),.no]=some (.nx [.im O,.im M,.im (.tup [A,fold,inR]),.im k,.im (.int n),.im (.lst T),.im (S6 "x"),.ow false (.lst (cs.map shD)),.im X,.im (.tup [S6 "x",.int 0]),Y]):=by simp[e_1,g0,g1,e,sl]
 have st:fGo (gT [8,9]) e_1 [.tup [X,.tup [S6 "x",.int 0]]] [.im O,.im M,.im (.tup [A,fold,inR]),.im k,.im (.int n),.im (.lst T),.im (S6 "x"),.ow false (.lst []),.no,.no,.no]=some (.nx [.im O,.im M,.im (.tup [A,fold,inR]),.im k,.im (.int n),.im (.lst T),.im (S6 "x"),.ow false (.lst (cs.map shD)),.im X,.im (.tup [S6 "x",.int 0]),Y]):=by have g:gT [8,9] (.tup [X,.tup [S6 "x",.int 0]]) [.im O,.im M,.im (.tup [A,fold,inR]),.im k,.im (.int n),.im (.lst T),.im (S6 "x"),.ow false (.lst []),.no,.no,.no]=some [.im O,.im M,.im (.tup [A,fold,inR]),.im k,.im (.int n),.im (.lst T),.im (S6 "x"),.ow false (.lst []),.im X,.im (.tup [S6 "x",.int 0]),.no]:=rfl;rw[Q_6,g,Q_7,b,X_7,bt0]
 simp[c_2,o_8,g2,i1,Z,st]
end
theorem bJ9:∀ cs:List Bq,(cs.map shD).all ad9=true
 |[]=>rfl
 |x::r=>by
  rw[ze,j7,bJ9 r,Yb];unfold shD;cases x.e <;> rfl
theorem bg8:∀ cs:List Bq,inD .non (cs.map shD)=false->∃ is:List Int,L_2 (cs.map shD)=some is/\is.length=cs.length
 |[],_=>⟨[],rfl,rfl⟩
 |x::r,h=>by
  have h:(eqD (shD x) .non||inD .non (r.map shD))=false:=h;rw[Bool.or_eq_false_iff] at h;obtain⟨is,e,l⟩:=bg8 r h.2;have h1:=h.1;rw[ze];unfold shD at h1 ⊢;cases O:x.e with
  |none=>rw[O] at h1;exact absurd h1 (by decide)
  |some i =>
   refine⟨(i-0)::is,?_,by rw[zi,zi,l]⟩;show bnd (L_2 (r.map shD)) _=_;rw[e];rfl
theorem bK0 (cs:List Bq):∃ d:D,(cs=[]\/(inD .non (cs.map shD)=true/\d=.non)\/(inD .non (cs.map shD)=false/\bi7 [.lst (cs.map shD)]=some d)):=by
 cases cs with
 |nil=>exact⟨.non,.inl rfl⟩
 |cons x r =>
  cases hi:inD .non ((x::r).map shD) with
  |true=>exact⟨.non,.inr (.inl ⟨rfl,rfl⟩)⟩
  |false =>
   obtain⟨is,e,l⟩:=bg8 (x::r) hi;cases is with
   |nil=>cases l
   |cons i q =>
    refine⟨.int (ao8 i q),.inr (.inr ⟨rfl,?_⟩)⟩;show bnd (L_2 ((x::r).map shD)) _=_;rw[e];rfl
section
variable {k:D} (hk:k∈n_7) {T:List Th} (h:∀ u∈T,Gd6 u) (hl:T.length<60) {w s z:Int} (W:Wk w s z) {q f:String}{fold:D}{n:Int} (C:Cell w s z q f fold n)
include h in
theorem srt:∃ S:List Th,k_0 (T.map tD)=S.map tD/\(∀ u∈S,Gd6 u)/\S.length=T.length:=by obtain⟨S,e,p,_⟩:=aJ5 T;exact⟨S,e,λ u O=>h u (p.mem_iff.mp O),p.length_eq⟩
theorem dx1 (d:D):dDx (.dct [xS] [d]) (S6 "x")=some d:=by kernel_rfl
theorem aN7 (d:D):r_2 [inR,.dct [xS] [d]]=some d:=by kernel_rfl
include hk h hl W C
theorem bA1:∃ d,c_8 [wkD w s z,.lst (T.map cmD),S6 q,k,.int n]=some (.inl d):=by
 obtain⟨S,e1,e2,e3⟩:=srt h;have Z:=I_9 w s z h;have c2:=U_0 hk h hl W C;have c3:=ad5 C;have Y:=ah1 w s z hl e1;have c5:=ay7 w s z;obtain⟨L,O⟩:=aE5 hk e2 (by omega) W C;have c7:=aN7 (.lst (S.map tD));have c8:=aN7 (.lst [xbD]);have ip:(Str.ofString "in"=Str.ofString "pair")=False:=yw (by decide +kernel);generalize S.map tD=ST at Y O c7;generalize T.map cmD=TT at Z Y ⊢;generalize wkD w s z=WK at Z c2 c3 Y c5 O ⊢;generalize askR q f=A at c3 O;generalize mk0=M at Z c5 O;generalize xbD=X at c5 O c8;cases L with
 |nil=>exact⟨.non,by simp[c_8,m_6,fnX,bs,Z,c2,c3,Y,c5,O,c7,c8,g0,g2,ip]⟩
 |cons x r=>exact⟨.lst (x::r),by simp[c_8,m_6,fnX,bs,Z,c2,c3,Y,c5,O,c7,c8,g0,g2,ip]⟩
theorem bA0:∃ d,d_2 [wkD w s z,.lst (T.map cmD),S6 q,k,.int n,S6 "x"]=some (.inl d):=by
 obtain⟨S,e1,e2,e3⟩:=srt h;have Z:=I_9 w s z h;have c2:=U_0 hk h hl W C;have c3:=ad5 C;have Y:=ah1 w s z hl e1;obtain⟨cs,O⟩:=bt4 hk e2 (by omega) W C;have c7:=aN7 (.lst (S.map tD));have c9:=by4 w s z;have ip:(Str.ofString "in"=Str.ofString "pair")=False:=yw (by decide +kernel);obtain⟨d,hd⟩:=bK0 cs;have ok:=bJ9 cs;have d0:dDx mk0 (S6 "x")=some (.int 0):=dx1 (.int 0);generalize S.map tD=ST at Y O c7;generalize T.map cmD=TT at Z Y ⊢;generalize wkD w s z=WK at Z c2 c3 Y O c9 ⊢;generalize askR q f=A at c3 O;generalize mk0=M at Z O d0;rcases hd with rfl | ⟨hi,rfl⟩ | ⟨hi,hm⟩
 ·refine⟨.int 0,?_⟩;have O:c_2 [WK,M,.tup [A,fold,inR],k,.int n,.lst ST,S6 "x"]=some (.lst []):=O;simp[d_2,n_5,fnX,bs,Z,c2,c3,Y,O,c7,c9,g0,g2,ip,d0]
 ·refine⟨.non,?_⟩;have ne:(cs.map shD).isEmpty=false:=by cases cs with
   |nil=>cases hi
   |cons=>rfl
  generalize cs.map shD=SH at *;simp[d_2,n_5,fnX,bs,Z,c2,c3,Y,O,c7,c9,g0,g2,ip,ne,hi,aE9,Z_9,ok,ad9]
 ·refine⟨d,?_⟩;have ne:(cs.map shD).isEmpty=false:=by cases cs with
   |nil=>cases hm
   |cons=>rfl
  generalize cs.map shD=SH at *;simp[d_2,n_5,fnX,bs,Z,c2,c3,Y,O,c7,c9,g0,g2,ip,ne,hi,aE9,Z_9,ok,ad9,hm]
theorem aJ0 (c:Bool) {S:List Th} (h':∀ u∈S,Gd6 u) (O:S.length<60):∃ b:Bool,d_9 [wkD w s z,S6 q,k,.int n,.lst (S.map tD),.lst (BL c)]=some (.inl (.bl b)):=by have Z:=U_0 hk h hl W C;have Y:=ad5 C;obtain⟨cs,e,ok,cl⟩:=ah0 c hk h' O W C;have ip:(Str.ofString "in"=Str.ofString "pair")=False:=yw (by decide +kernel);generalize S.map tD=ST at e ⊢;generalize wkD w s z=WK at Z Y ⊢;generalize askR q f=A at Y e;generalize BL c=X at e ⊢;generalize cs.map (Bq.D k)=CS at e;exact⟨_,by simp[d_9,D_7,fnX,bs,Z,Y,e,g0,g1,g2,ip];rfl⟩
theorem ap5:∃ b:Bool,g_1 [wkD w s z,.lst (T.map cmD),S6 q,k,.int n,papD]=some (.bl b):=by obtain⟨S,e1,e2,e3⟩:=srt h;have Y:=ad5 C;have O:=ah1 w s z hl e1;obtain⟨b,e⟩:=aJ0 hk h hl W C true e2 (by omega);have e:d_9 [wkD w s z,S6 q,k,.int n,.lst (S.map tD),.lst [xbD]]=some (.inl (.bl b)):=e;have c7:=aN7 (.lst (S.map tD));have Z:=aN7 (.lst [xbD]);refine⟨b,?_⟩;generalize S.map tD=ST at O c7 e;generalize T.map cmD=TT at O ⊢;generalize wkD w s z=WK at Y O e ⊢;generalize askR q f=A at Y;unfold papD;generalize xbD=X at e Z ⊢;simp[g_1,J_9,bs,Y,O,c7,Z,e,g2]
theorem cw1:∃ d,c_3 [wkD w s z,.lst (T.map cmD),S6 q,k,.int n]=some (.inl d):=by
 have Y:=I_9 w s z h;have c2:=U_0 hk h hl W C;have Z:=ay7 w s z;have c6:=az1 C;obtain⟨b,e⟩:=ap5 hk h hl W C;have e:g_1 [wkD w s z,.lst (T.map cmD),S6 q,k,.int n,.dct [xS] [.lst [xbD]]]=some (.bl b):=e;have i1:atD [S6 "in",S6 "x",.tup [],.tup [.non,.non]] 1=some (S6 "x"):=rfl;have d0:=dx1 (.lst [xbD]);generalize T.map cmD=TT at Y e ⊢;generalize wkD w s z=O at Y c2 Z c6 e ⊢;generalize mk0=M at Y Z;generalize xbD=X at Z e d0;cases b with
 |true=>exact⟨.non,by simp[c_3,j_6,fnX,bs,Y,c2,Z,e]⟩
 |false =>
  refine⟨.dct [xS] [.lst [X]],?_⟩;have st:fGo (gN 8) p_9 [inR] [.im O,.im (.lst TT),.im (S6 q),.im k,.im (.int n),.im M,.im (.dct [xS] [.lst [X]]),.ow false (.dic []),.no]=some (.nx [.im O,.im (.lst TT),.im (S6 q),.im k,.im (.int n),.im M,.im (.dct [xS] [.lst [X]]),.ow false (.dic [(xS,.lst [X])]),.im inR]):=by
   have g:gN 8 inR [.im O,.im (.lst TT),.im (S6 q),.im k,.im (.int n),.im M,.im (.dct [xS] [.lst [X]]),.ow false (.dic []),.no]=some [.im O,.im (.lst TT),.im (S6 q),.im k,.im (.int n),.im M,.im (.dct [xS] [.lst [X]]),.ow false (.dic []),.im inR]:=rfl;have b:p_9 [.im O,.im (.lst TT),.im (S6 q),.im k,.im (.int n),.im M,.im (.dct [xS] [.lst [X]]),.ow false (.dic []),.im inR]=some (.nx [.im O,.im (.lst TT),.im (S6 q),.im k,.im (.int n),.im M,.im (.dct [xS] [.lst [X]]),.ow false (.dic [(xS,.lst [X])]),.im inR]):=by kernel_rfl
   rw[Q_6,g,Q_7,b,X_7,bt0]
  simp[c_3,j_6,fnX,bs,Y,c2,Z,c6,e,st,hld]
theorem cw0:(∃ d,c_4 [wkD w s z,.lst (T.map cmD),S6 q,k,.int n,papD]=some (.inl d)) ∨ ∃ v,c_4 [wkD w s z,.lst (T.map cmD),S6 q,k,.int n,papD]=some (.inr (Str.ofString "NoPaper",v)):=by
 have Y:=I_9 w s z h;have Z:=U_0 hk h hl W C;have c6:=az1 C;obtain⟨b,e⟩:=ap5 hk h hl W C;have r:=aW1;generalize T.map cmD=TT at Y e ⊢;generalize wkD w s z=O at Y Z c6 e ⊢;generalize mk0=M at Y r;generalize papD=P at e r ⊢;have st:fGo (gN 7) o_3 [inR] [.im O,.im (.lst TT),.im (S6 q),.im k,.im (.int n),.im P,.im M,.no]=some (.nx [.im O,.im (.lst TT),.im (S6 q),.im k,.im (.int n),.im P,.im M,.im inR]):=by
  have g:gN 7 inR [.im O,.im (.lst TT),.im (S6 q),.im k,.im (.int n),.im P,.im M,.no]=some [.im O,.im (.lst TT),.im (S6 q),.im k,.im (.int n),.im P,.im M,.im inR]:=rfl;have b:o_3 [.im O,.im (.lst TT),.im (S6 q),.im k,.im (.int n),.im P,.im M,.im inR]=some (.nx [.im O,.im (.lst TT),.im (S6 q),.im k,.im (.int n),.im P,.im M,.im inR]):=by simp[o_3,r]
  rw[Q_6,g,Q_7,b,X_7,bt0]
 cases b with
 |true=>exact .inr ⟨_,by simp[c_4,o_6,fnX,bs,Y,Z,c6,e,st,rIf,ifX];rfl⟩
 |false=>exact .inl ⟨_,by simp[c_4,o_6,fnX,bs,Y,Z,c6,e,st,rIf,ifX];rfl⟩
theorem cv9:∃ d,d_9 [wkD w s z,S6 q,k,.int n,.lst [],.lst []]=some (.inl d):=by obtain⟨b,e⟩:=aJ0 hk h hl W C false (S:=[]) (λ _ h=>absurd h zg) (by decide);exact⟨_,e⟩
end
def aH2 (j:Nat) (W cs q k n:D):Option (D ⊕ XV):=match j with
 |0=>c_8 [W,cs,q,k,n]
 |1=>d_2 [W,cs,q,k,n,S6 "x"]
 |2=>c_3 [W,cs,q,k,n]
 |3=>c_4 [W,cs,q,k,n,papD]
 |_=>d_9 [W,q,k,n,.lst [],.lst []]
def wrd:D ⊕ XV->Option D
 |.inl _=>some (S6 "good")
 |.inr x=>bq6 x.1
theorem ck1 (ρ:En) (r:D ⊕ XV):bnd (al0 ρ r) aT6=wrd r:=by cases r <;> rfl
theorem y_0 (j:Nat) (O:j<5) (W cs q k n:D) {r:D ⊕ XV} (h:aH2 j W cs q k n=some r):b_0 [W,cs,q,k,n,.int j]=wrd r:=by
 rw[<- ck1 [.im W,.im cs,.im q,.im k,.im n,.im (.int j),.no] r]
 match j,O with
 |0,_ =>
  have h:c_8 [W,cs,q,k,n]=some r:=h;simp[b_0,aj0,s_5,rIf,ifX,bs,h]
 |1,_ =>
  have h:d_2 [W,cs,q,k,n,S6 "x"]=some r:=h;simp[b_0,aj0,s_5,rIf,ifX,bs,h]
 |2,_ =>
  have h:c_3 [W,cs,q,k,n]=some r:=h;simp[b_0,aj0,s_5,rIf,ifX,bs,h]
 |3,_ =>
  have h:c_4 [W,cs,q,k,n,.dct [xS] [.lst [.tup [.tup [S6 "but",.tup []],.int 0,.non,.tup [.non,.non,.int 1,.int 0]]]]]=some r:=h;simp[b_0,aj0,s_5,rIf,ifX,bs,h]
 |4,_ =>
  have h:d_9 [W,q,k,n,.lst [],.lst []]=some r:=h;simp[b_0,aj0,s_5,rIf,ifX,bs,h]
theorem bH2 (j:Nat) (O:j<4) {W cs q k n:D}{x:XV} (h:b_8 [W,cs]=some (.inr x)):aH2 j W cs q k n=some (.inr x):=by
 match j,O with
 |0,_=>simp[aH2,c_8,m_6,fnX,bs,h]
 |1,_=>simp[aH2,d_2,n_5,fnX,bs,h]
 |2,_=>simp[aH2,c_3,j_6,fnX,bs,h]
 |3,_ =>
  generalize Y:papD=P;simp[aH2,c_4,o_6,fnX,bs,h,Y]
theorem bH3 (j:Nat) (Y:j<5) {W cs q k n m:D}{x:XV} (h:b_8 [W,cs]=some (.inl m)) (O:a_1 [W,q,k,n]=some (.inr x)):aH2 j W cs q k n=some (.inr x):=by
 match j,Y with
 |0,_=>simp[aH2,c_8,m_6,fnX,bs,h,O]
 |1,_=>simp[aH2,d_2,n_5,fnX,bs,h,O]
 |2,_=>simp[aH2,c_3,j_6,fnX,bs,h,O]
 |3,_ =>
  show c_4 [W,cs,q,k,n,papD]=_;generalize papD=P;simp[c_4,o_6,fnX,bs,h,O]
 |4,_=>simp[aH2,d_9,D_7,fnX,bs,O]
section
variable {T:List Th} (h:∀ u∈T,Gd6 u) (hl:T.length<60) {w s z:Int} (W:Wk w s z)
include h hl
theorem aG9 (q k n:D) (j:Nat) (O:j<4):b_0 [wkD w s z,.lst (T.map cmD++[mk5,th4]),q,k,n,.int j]=some (S6 "late") :=
 (y_0 j (by omega) _ _ q k n (bH2 j O (aB5 w s z h))).trans (by kernel_rfl)
theorem aG8 {b:D} (hb:b∈bC5) (q k n:D) (j:Nat) (O:j<4):b_0 [wkD w s z,.lst (T.map cmD++[b]),q,k,n,.int j]=some (S6 "nocoming") :=
 (y_0 j (by omega) _ _ q k n (bH2 j O (aB4 w s z h hb))).trans (by kernel_rfl)
theorem bq5 {q k n:D} (Y:a_1 [wkD w s z,q,k,n]=some (.inr aq4)) (j:Nat) (O:j<5):b_0 [wkD w s z,.lst (T.map cmD),q,k,n,.int j]=some (S6 "nocell") :=
 (y_0 j O _ _ q k n (bH3 j O (I_9 w s z h) Y)).trans (by kernel_rfl)
include W
theorem aH0 {k:D} (hk:k∈n_7) {q f:String}{fold:D}{n:Int} (C:Cell w s z q f fold n) (j:Nat) (O:j<5):b_0 [wkD w s z,.lst (T.map cmD),S6 q,k,.int n,.int j]=some (S6 "good"):=by
 match j,O with
 |0,_=>obtain⟨d,e⟩:=bA1 hk h hl W C;exact y_0 0 (by decide) _ _ _ _ _ e
 |1,_=>obtain⟨d,e⟩:=bA0 hk h hl W C;exact y_0 1 (by decide) _ _ _ _ _ e
 |2,_=>obtain⟨d,e⟩:=cw1 hk h hl W C;exact y_0 2 (by decide) _ _ _ _ _ e
 |3,_ =>
  rcases cw0 hk h hl W C with ⟨d,e⟩ | ⟨v,e⟩
  ·exact y_0 3 (by decide) _ _ _ _ _ e
  ·exact (y_0 3 (by decide) _ _ _ _ _ e).trans (by show bq6 (Str.ofString "NoPaper")=_;kernel_rfl)
 |4,_=>obtain⟨d,e⟩:=cv9 hk h hl W C;exact y_0 4 (by decide) _ (.lst (T.map cmD)) _ _ _ e
end
def bY0 (js:List Nat) (i q:Nat) (T:FT) (F:FE) (o:Option (List D×En)):Option (D×En):=bnd o λ p=>lcB js i q T F p.1 p.2
theorem cp1 (js:List Nat) (i q:Nat) (R:FA) (T:FT) (F:FE) (ρ:En):ch9 js i q R T F ρ=bY0 js i q T F (R ρ):=yR rfl
theorem bz6 (js:List Nat) (i q:Nat) (T:FT) (F:FE) (xs:List D) (ρ:En):bY0 js i q T F (some (xs,ρ))=lcB js i q T F xs ρ:=yR rfl
noncomputable abbrev pk (q m:Int):Int:=(q.fdiv 3).fmod m
theorem pk0 (q:Int) {m:Int} (h:0<m):0<=pk q m:=jw _ h
theorem pk1 (q:Int) {m:Int} (h:0<m):pk q m<m:=Qp _ h
theorem aT5 (a b c:Int) (qs:List Int):u_3 (.lst (qL (a::b::c::qs))) []=some (wkD (1+pk a 9) (1+pk b 3) (1+pk b 3+1+pk c 5),.lst (qL qs)):=by
 have o:=q3;have Y:cGo tYes (c_0 (aC (zR "ask") (aC (e2 i_1 (zR "q") (eV 0)) (aC (c_0 (aC (e2 i_1 (zR "f") (eV 0)) aN)) (aC (c_0 aN) aN))))) [] [S6 "a",S6 "b",S6 "c",S6 "d"]=some [askR "qa" "fa",askR "qb" "fb",askR "qc" "fc",askR "qd" "fd"]:=by kernel_rfl
 have it:items (S6 "abcd")=some [S6 "a",S6 "b",S6 "c",S6 "d"]:=by kernel_rfl
 have O:∀ n:Nat,n<=20->n<=sizeLine:=λ n h=>a_6 (by omega);simp[u_3,V_9,fnB,bF3,bs,o,it,Y,O]
structure Lf (qs:List Int) (n:Nat):Prop where
 sm:Sm qs
 len:n<=qs.length
theorem Lf.cons {qs:List Int}{n:Nat} (h:Lf qs (n+1)):∃ q r,qs=q::r/\q.natAbs<2 ^ 64/\Lf r n:=by
 cases qs with
 |nil=>exact absurd h.len (by simp)
 |cons q r=>exact⟨q,r,rfl,h.sm q (qm ..),λ x O=>h.sm x (qo _ O),by have:=h.len;rw[zi] at this;omega⟩
theorem Lf.mono {qs:List Int}{n m:Nat} (h:Lf qs n) (l:m<=n):Lf qs m:=⟨h.sm,z0 l h.len⟩
abbrev fCm:FE:=c_0 (aC (zR "thing") (aC (zR "x") (aC (e2 i_7 (e2 aM8 (eQ 1) (zI 3)) (zI 9)) (aC (zR "a") (aC (e2 i_7 (e2 aM8 (eQ 1) (zI 3)) (zI 5)) aN)))))
theorem bj8 (ρ:En) (m:Nat):∀ (n:Nat) (lo:Int) (qs:List Int),Lf qs (n+n+m)->∃ (T:List Th) (O:List Int),am2 tYes fCm ρ 1 [1] 0 (.lst (qL qs)) (C_9 lo n)=some (T.map cmD,.lst (qL O))/\T.length=n/\(∀ u∈T,Gd6 u)/\Lf O m
 |0,lo,qs,h=>⟨[],qs,rfl,rfl,λ _ h=>absurd h zg,h.mono (by omega)⟩
 |n+1,lo,qs,h=>by
  obtain⟨a,r,rfl,_,h⟩:=Lf.cons (n:=n+n+m+1) (h.mono (by omega));obtain⟨b,r,rfl,_,h⟩:=Lf.cons h;obtain⟨T,O,e,l,g,h'⟩:=bj8 ρ m n (lo+1) r h;have o:=q3;refine⟨⟨pk a 9,aS,pk b 5⟩::T,O,?_,by rw[zi,l],λ u Y=>?_,h'⟩
  ·have Z:fCm [.im (.int lo),.ow true (.lst (qL (a::b::r)))]=some (cmD ⟨pk a 9,aS,pk b 5⟩,[.im (.int lo),.ow true (.lst (qL r))]):=by simp[fCm,o]
   rw[show C_9 lo (n+1)=.int lo::C_9 (lo+1) n from rfl,H_6,show aA7 ρ 1 (.lst (qL (a::b::r))) [1]=some [.ow true (.lst (qL (a::b::r)))] from rfl,b_3,show tYes [.im (.int lo),.ow true (.lst (qL (a::b::r)))]=some (true,[.im (.int lo),.ow true (.lst (qL (a::b::r)))]) from rfl,b_3,if_pos rfl,Z,b_3];show bnd (am2 _ _ ρ 1 [1] 0 (.lst (qL r)) (C_9 (lo+1) n)) _=_;rw[e];rfl
  ·rcases qz Y with rfl | Y
   ·exact⟨rfl,pk0 a (by decide),pk0 b (by decide),by have:=pk1 b (m:=5) (by decide);show pk b 5<=4;omega⟩
   ·exact g u Y
section
variable {W cs la ot q k n:D}{wd:Str} (hw:∀ j:Nat,j<5 → b_0 [W,cs,q,k,n,.int j]=some (.str wd)) (hL:∀ j:Nat,j<4 → b_0 [W,la,q,k,n,.int j]=some (S6 "late")) (hN:∀ j:Nat,j<4 → b_0 [W,ot,q,k,n,.int j]=some (S6 "nocoming"))
include hw hL hN
theorem aT8 (a0 a1 s5 a7 Z Y:Sl) (j:Nat) (hj:j<5):∃ aa O,M_0 [a0,a1,.im W,.im cs,.im la,s5,.im ot,a7,.im q,.im k,Z,.im n,.im (.str wd),.im (.int j),Y]=some (.nx [a0,a1,.im W,.im cs,.im la,aa,.im ot,a7,.im q,.im k,Z,.im n,.im (.str wd),.im (.int j),O]):=by
 have h1:=hw j hj;by_cases c:j<4
 ·have h2:=hL j c;have h3:=hN j c;have c':(j:Int)<4:=by omega
  exact⟨.im (S6 "nocoming"),.im (S6 "late"),by simp[M_0,h1,h2,h3,c']⟩
 ·have c':¬ (j:Int)<4:=by omega
  exact⟨s5,Y,by simp[M_0,h1,c']⟩
theorem aH1 (a0 a1 a7 Y:Sl):∀ (m j:Nat),j+m<=5->∀ (s5 Z O:Sl),∃ ae ac aa,fGo (gN 13) M_0 (C_9 j m) [a0,a1,.im W,.im cs,.im la,s5,.im ot,a7,.im q,.im k,Y,.im n,.im (.str wd),Z,O]=some (.nx [a0,a1,.im W,.im cs,.im la,ae,.im ot,a7,.im q,.im k,Y,.im n,.im (.str wd),ac,aa])
 |0,j,_,s5,Z,O=>⟨s5,Z,O,rfl⟩
 |m+1,j,hj,s5,Z,O=>by
  obtain⟨b5,ad,e⟩:=aT8 hw hL hN a0 a1 s5 a7 Y O j (by omega);obtain⟨c5,ag,af,e2⟩:=aH1 a0 a1 a7 Y m (j+1) (by omega) b5 (.im (.int j)) ad;refine⟨c5,ag,af,?_⟩;have g:gN 13 (.int j) [a0,a1,.im W,.im cs,.im la,s5,.im ot,a7,.im q,.im k,Y,.im n,.im (.str wd),Z,O]=some [a0,a1,.im W,.im cs,.im la,s5,.im ot,a7,.im q,.im k,Y,.im n,.im (.str wd),.im (.int j),O]:=rfl;rw[show C_9 (j:Int) (m+1)=.int j::C_9 ((j:Int)+1) m from rfl,Q_6,g,Q_7,e,X_7];exact e2
end
abbrev bC6:List D:=[S6 "qa",S6 "qb",S6 "qc",S6 "qd",S6 "qb",S6 "fa",S6 "x",S6 "nobody",S6 ""]
section
variable {w s z:Int} (W:Wk w s z) {T:List Th} (h:∀ u∈T,Gd6 u) (hl:T.length<60)
include W h hl
theorem aP1 {q k win:D} (hq:q∈bC6) (hk:k∈n_7++ab5) (hw:Win win):∃ b:Bool,c_1 [wkD w s z,q,k,win]=some (.bl b) ∧ ∀ j:Nat,j<5 → b_0 [wkD w s z,.lst (T.map cmD),q,k,win,.int j]=some (if b=true then S6 "good" else S6 "nocell"):=by
 have Y:a_1 [wkD w s z,q,k,win]=some (.inr aq4) → c_1 [wkD w s z,q,k,win]=some (.bl false) → ∃ b:Bool,c_1 [wkD w s z,q,k,win]=some (.bl b) ∧ ∀ j:Nat,j<5 → b_0 [wkD w s z,.lst (T.map cmD),q,k,win,.int j]=some (if b=true then S6 "good" else S6 "nocell"):=λ h1 h2=>⟨false,h2,λ j hj=>bq5 h hl h1 j hj⟩
 obtain⟨w1,w9,s1,s3,z1⟩:=id W;have O:∀ {Z f:String}{fold:D},q=S6 Z → (Z,f)∈aR8 → h_8 [wkD w s z,S6 Z]=some (askR Z f) → h_8 [wkD w s z,S6 f]=some fold → (k∈n_7 → ∀ n:Int,win=.int n → ∃ b:Bool,c_1 [wkD w s z,S6 Z,k,.int n]=some (.bl b) ∧ c_9 [fold,k,.int n]=some (.bl b) ∧ (b=true → Cell w s z Z f fold n)) → ∃ b:Bool,c_1 [wkD w s z,q,k,win]=some (.bl b) ∧ ∀ j:Nat,j<5 → b_0 [wkD w s z,.lst (T.map cmD),q,k,win,.int j]=some (if b=true then S6 "good" else S6 "nocell"):=by
  intro Z f fold e ha r1 r2 hg;subst e;rcases zb hk with hk | hk
  ·rcases hw with ⟨n,rfl⟩ | hw
   ·obtain⟨b,g1,g2,g3⟩:=hg hk n rfl;cases b with
    |true=>exact⟨true,g1,λ j hj=>aH0 h hl W hk (g3 rfl) j hj⟩
    |false=>exact Y (chk r1 r2 g2) g1
   ·exact Y (chk r1 r2 (be3 (M_1 hk) (bF7 hw))) (ba8 w s z ha hk hw)
  ·exact Y (chk r1 r2 (be4 (bU7 hk))) (ba9 w s z ha hk hw)
 simp only[bC6,zl,zg,yf] at hq;have qb:q=S6 "qb" → ∃ b:Bool,c_1 [wkD w s z,q,k,win]=some (.bl b) ∧ ∀ j:Nat,j<5 → b_0 [wkD w s z,.lst (T.map cmD),q,k,win,.int j]=some (if b=true then S6 "good" else S6 "nocell"):=λ e =>
  O e (f:="fb") (by decide) (bP7 w s z) (bQ9 w s z) λ hk n _=>⟨decide (n*s+z > 0),bV8 w s z n hk (by omega),bk8 (M_1 hk) n s z s1 s3 z1,λ e=>.b n (yq e)⟩
 rcases hq with e | e | e | e | e | e | e | e | e
 ·exact O e (f:="fa") (by decide) (bQ2 w s z) (bR1 w s z) λ hk n _=>⟨decide (0 ≤ n),(as5 w s z n hk).1,bm6 (M_1 hk) n w w1 w9,λ e=>.a n (yq e)⟩
 ·exact qb e
 ·exact O e (f:="fc") (by decide) (bP6 w s z) (bQ4 w s z) λ hk n _=>⟨decide (0 ≤ n),(as5 w s z n hk).2.1,bl9 (M_1 hk) n w,λ e=>.c n (yq e)⟩
 ·exact O e (f:="fd") (by decide) (bP4 w s z) (bQ3 w s z) λ hk n _=>⟨decide (n=0),(as5 w s z n hk).2.2,bk7 (M_1 hk) n,λ e=>by
   have e:=yq e;subst e;exact .d⟩
 ·exact qb e
 ·subst e;exact Y (bP0 w s z k win).1 (bP0 w s z k win).2
 ·subst e;exact Y (cs2 w s z k win).1 (cs2 w s z k win).2
 ·subst e;exact Y (cs3 w s z k win).1 (cs3 w s z k win).2
 ·subst e;exact Y (cs4 w s z k win).1 (cs4 w s z k win).2
end
theorem aR4 (xs:List D) {i:Int} (O:0<=i) (h1:i<xs.length):∃ x,x∈xs/\atD xs i=some x:=by obtain⟨x,h,e⟩:=I_1 id xs O h1;rw[Z3] at e;exact⟨x,h,e⟩
abbrev cn2:List D:=[S6 "a",S6 "zz",S6 "abcdefgh",S6 "",S6 "abcdefghi",S6 "A",.int 5,.non,S6 "a b"]
section
variable {w s z:Int} (W:Wk w s z) {T:List Th} (h:∀ u∈T,Gd6 u) (hl:T.length<60) {bad:D} (hb:bad∈bC5)
abbrev ELw (w s z:Int) (T:List Th) (bad:D) (ns:Sl) (qs:List Int) (s5 s7 s8 s9 Y Z ac O aa:Sl):En:=[ns,.ow false (.lst (qL qs)),.im (wkD w s z),.im (.lst (T.map cmD)),.im (.lst (T.map cmD++[mk5,th4])),s5,.im (.lst (T.map cmD++[bad])),s7,s8,s9,Y,Z,ac,O,aa]
include W h hl hb
theorem aI7 (ns:Sl) {qs:List Int}{m:Nat} (O:Lf qs (m+6)) (s5 s7 s8 s9 ar am ao Z ah:Sl):∃ ac al aq ak af ae aa ad ag,ag3 (ELw w s z T bad ns qs s5 s7 s8 s9 ar am ao Z ah)=some (.nx (ELw w s z T bad ns ac al s7 aq ak af ae aa ad ag))/\Lf ac m:=by
 obtain⟨a,r,rfl,_,O⟩:=Lf.cons O;obtain⟨b,r,rfl,_,O⟩:=Lf.cons O;obtain⟨c,r,rfl,_,O⟩:=Lf.cons O;obtain⟨d,r,rfl,hd,O⟩:=Lf.cons O;obtain⟨e,r,rfl,_,O⟩:=Lf.cons O;obtain⟨f,r,rfl,_,O⟩:=Lf.cons O;obtain⟨q,q1,q2⟩:=aR4 bC6 (pk0 a (m:=9) (by decide)) (pk1 a (by decide));have kb:0<=(if 5<pk b 14 then pk b 14-5 else 0)/\(if 5<pk b 14 then pk b 14-5 else 0)<9:=by have:=pk1 b (m:=14) (by decide);split <;> omega
 obtain⟨k,k1,k2⟩:=aR4 cn2 kb.1 kb.2;have pw:bL0 (.int 10) (.int 20)=some (.int 100000000000000000000):=by kernel_rfl
 have om:j_7 d 100000000000000000000=true:=G_2 hd;have o3:=q3;have o5:z_8 5=true:=P_1 (by decide) (by decide);have eb:0<=(pk e 6).fdiv 5/\(pk e 6).fdiv 5<2:=by have h0:=pk0 e (m:=6) (by decide);have h1:=pk1 e (m:=6) (by decide);rw[Int.fdiv_eq_ediv_of_nonneg _ (by decide)];omega
 obtain⟨n,n1,n2⟩:=aR4 [.int (pk c 12-6),.int (d*100000000000000000000)] eb.1 eb.2;obtain⟨Y,rfl⟩:∃ i:Int,n=.int i:=by simp only[zl,zg,yf] at n1;rcases n1 with rfl | rfl <;> exact⟨_,rfl⟩
 obtain⟨win,w1,w2⟩:=aR4 [.int Y,.int Y,.int Y,.int Y,.int 0,.bl true,S6 "0",.non] (pk0 f (m:=8) (by decide)) (pk1 f (by decide));have hw:Win win:=by
  simp only[zl,zg,yf] at w1;rcases w1 with rfl | rfl | rfl | rfl | rfl | rfl | rfl | rfl
  ·exact .inl ⟨_,rfl⟩
  ·exact .inl ⟨_,rfl⟩
  ·exact .inl ⟨_,rfl⟩
  ·exact .inl ⟨_,rfl⟩
  ·exact .inl ⟨_,rfl⟩
  ·exact .inr (by simp[I_8])
  ·exact .inr (by simp[I_8])
  ·exact .inr (by simp[I_8])
 have hk:k∈n_7++ab5:=k1;obtain⟨bl,g1,g2⟩:=aP1 W h hl q1 hk hw;obtain⟨wd,ap,an⟩:∃ wd:Str,(if bl=true then S6 "good" else S6 "nocell")=.str wd ∧ ∃ i:Int,bg7 [.bl bl]=some (.int i) ∧ atD [S6 "nocell",S6 "good"] i=some (.str wd):=by
  cases bl with
  |true=>exact⟨_,rfl,1,by kernel_rfl,by kernel_rfl⟩
  |false=>exact⟨_,rfl,0,by kernel_rfl,by kernel_rfl⟩
 obtain⟨i,i1,i2⟩:=an;rw[ap] at g2;have L:=λ j (hj:j<4)=>aG9 (w:=w) (s:=s) (z:=z) h hl q k win j hj;have N:=λ j (hj:j<4)=>aG8 (w:=w) (s:=s) (z:=z) h hl hb q k win j hj;obtain⟨b5,aj,ai,go⟩:=aH1 g2 L N ns (.ow false (.lst (qL r))) s7 (.im (.int Y)) 5 0 (by decide) s5 Z ah;have go:fGo (gN 13) M_0 (C_9 0 5) _=_:=go;refine⟨r,b5,.im q,.im k,.im (.int Y),.im win,.im (.str wd),aj,ai,?_,O⟩;unfold ELw;generalize wkD w s z=WK at g1 go ⊢;generalize (.lst (T.map cmD):D)=A3 at go ⊢;generalize (.lst (T.map cmD++[mk5,th4]):D)=A4 at go ⊢;generalize (.lst (T.map cmD++[bad]):D)=A6 at go ⊢;have q2:atD [.str "qa",.str "qb",.str "qc",.str "qd",.str "qb",.str "fa",.str "x",.str "nobody",.str ""] ((a.fdiv 3).fmod 9)=some q:=q2;have k2:atD [.str "a",.str "zz",.str "abcdefgh",.str "",.str "abcdefghi",.str "A",.int 5,.non,.str "a b"] (if 5<(b.fdiv 3).fmod 14 then (b.fdiv 3).fmod 14-5 else 0)=some k:=k2;simp[ag3,o3,o5,q2,k2,pw,om,n2,w2,g1,i1,i2,go]
end
theorem bZ4 (ns:List Int):∃ c,f_0 [.lst (ns.map .int),.int 0]=some (.int c):=by
 cases ns with
 |nil=>exact⟨0,by kernel_rfl⟩
 |cons n r =>
  refine⟨n,?_⟩;have l:(0:Int)<(r.length:Int)+1:=by omega
  simp[f_0,s_0,g0,l]
section
variable {w s z:Int} (W:Wk w s z) {T:List Th} (h:∀ u∈T,Gd6 u) (hl:T.length<60) {bad:D} (hb:bad∈bC5)
include W h hl hb
theorem au0 (ns:Sl):∀ (m:Nat) (lo:Int) (qs:List Int) (s5 s7 s8 s9 aa Y Z O ac:Sl),Lf qs (6*m)->∃ ρ,fGo (gN 7) ag3 (C_9 lo m) (ELw w s z T bad ns qs s5 s7 s8 s9 aa Y Z O ac)=some (.nx ρ)
 |0,lo,qs,s5,s7,s8,s9,aa,Y,Z,O,ac,_=>⟨_,rfl⟩
 |m+1,lo,qs,s5,s7,s8,s9,aa,Y,Z,O,ac,hq=>by
  obtain⟨af,b5,b8,b9,ag,ah,ai,ae,ad,e,aj⟩:=aI7 W h hl hb ns (m:=6*m) (hq.mono (by omega)) s5 (.im (.int lo)) s8 s9 aa Y Z O ac;obtain⟨ρ,e2⟩:=au0 ns m (lo+1) af b5 (.im (.int lo)) b8 b9 ag ah ai ae ad aj;refine⟨ρ,?_⟩;have g:gN 7 (.int lo) (ELw w s z T bad ns qs s5 s7 s8 s9 aa Y Z O ac)=some (ELw w s z T bad ns qs s5 (.im (.int lo)) s8 s9 aa Y Z O ac):=rfl;rw[show C_9 lo (m+1)=.int lo::C_9 (lo+1) m from rfl,Q_6,g,Q_7,e,X_7,e2]
end
theorem law_true (ns:List Int) (hn:ns.length<=63):ac7 [.lst (ns.map .int)]=some (.bl true):=by
 obtain⟨c,ec⟩:=bZ4 ns;obtain⟨qs,es,sl,sm⟩:=aJ4 c;have O:Lf qs (11+1+60+1+3):=⟨sm,by omega⟩;obtain⟨a,r,rfl,_,O⟩:=Lf.cons O;obtain⟨b,r,rfl,_,O⟩:=Lf.cons O;obtain⟨d,r,rfl,_,O⟩:=Lf.cons O;have Z:=aT5 a b d r;have a0:=pk0 a (m:=9) (by decide);have a1:=pk1 a (m:=9) (by decide);have b0:=pk0 b (m:=3) (by decide);have b1:=pk1 b (m:=3) (by decide);have d0:=pk0 d (m:=5) (by decide);have d1:=pk1 d (m:=5) (by decide);have W:Wk (1+pk a 9) (1+pk b 3) (1+pk b 3+1+pk d 5):=⟨by omega,by omega,by omega,by omega,by omega⟩;generalize 1+pk a 9=w at Z W;generalize 1+pk b 3=s at Z W;generalize s+1+pk d 5=z at Z W;obtain⟨e,r,rfl,_,O⟩:=Lf.cons (n:=11+1+60) O;have e0:=pk0 e (m:=6) (by decide);have e1:=pk1 e (m:=6) (by decide);obtain⟨T,r2,eT,lT,gT,O⟩:=bj8 [.im (.lst (ns.map .int)),.ow false (.lst (qL r)),.im (wkD w s z),.no,.no,.no,.no,.no,.no,.no,.no,.no,.no,.no,.no] 61 (pk e 6).toNat 0 r (O.mono (by omega));have hl:T.length<60:=by omega
 obtain⟨f,r3,rfl,_,O⟩:=Lf.cons (n:=60) O;obtain⟨bad,hb,eb⟩:=aR4 bC5 (pk0 f (m:=4) (by decide)) (pk1 f (by decide));obtain⟨ρ,go⟩:=au0 W gT hl hb (.im (.lst (ns.map .int))) 10 0 r3 (.im (.lst bC5)) .no .no .no .no .no .no .no .no O;have rg:aH3 (e2 i_7 (e2 aM8 (eQ 1) (zI 3)) (zI 6)) [.im (.lst (ns.map .int)),.ow false (.lst (qL (e::r))),.im (wkD w s z),.no,.no,.no,.no,.no,.no,.no,.no,.no,.no,.no,.no]=some (C_9 0 (pk e 6).toNat,[.im (.lst (ns.map .int)),.ow false (.lst (qL r)),.im (wkD w s z),.no,.no,.no,.no,.no,.no,.no,.no,.no,.no,.no,.no]):=by
  have o:=q3;have x1:-(2 ^ 62)<=(e.fdiv 3).fmod 6/\(e.fdiv 3).fmod 6<2 ^ 62:=⟨by unfold pk at e0;omega,by unfold pk at e1;omega⟩;generalize wkD w s z=WK;have x2:e2 i_7 (e2 aM8 (eQ 1) (zI 3)) (zI 6) [.im (.lst (ns.map .int)),.ow false (.lst (qL (e::r))),.im WK,.no,.no,.no,.no,.no,.no,.no,.no,.no,.no,.no,.no]=some (.int ((e.fdiv 3).fmod 6),[.im (.lst (ns.map .int)),.ow false (.lst (qL r)),.im WK,.no,.no,.no,.no,.no,.no,.no,.no,.no,.no,.no,.no]):=by simp[o]
  unfold aH3;rw[x2,b_3];show (if _ then _ else _)=_;rw[if_pos x1]
 have lc:lcB [1] 1 0 tYes fCm (C_9 0 (pk e 6).toNat) [.im (.lst (ns.map .int)),.ow false (.lst (qL r)),.im (wkD w s z),.no,.no,.no,.no,.no,.no,.no,.no,.no,.no,.no,.no]=some (.lst (T.map cmD),[.im (.lst (ns.map .int)),.ow false (.lst (qL (f::r3))),.im (wkD w s z),.no,.no,.no,.no,.no,.no,.no,.no,.no,.no,.no,.no]):=by unfold lcB;show bnd (am2 tYes fCm _ 1 [1] 0 (.lst (qL r)) _) _=_;rw[eT,b_3,if_pos ⟨by rw[show (C_9 0 (pk e 6).toNat).length=(pk e 6).toNat from F_4 _ _];exact a_6 (by omega),rfl,by decide⟩];rfl
 have Y:=cp1 [1] 1 0 (aH3 (e2 i_7 (e2 aM8 (eQ 1) (zI 3)) (zI 6))) tYes fCm [.im (.lst (ns.map .int)),.ow false (.lst (qL (e::r))),.im (wkD w s z),.no,.no,.no,.no,.no,.no,.no,.no,.no,.no,.no,.no];rw[rg,bz6,lc] at Y;have o:=q3;have eb:atD [.tup [.str "mark",.str "nobody",.int 3],.tup [.str "thing",.str "x",.int (-1),.str "a",.int 1],.tup [.str "open",.str "x"],.tup [.str "close"]] ((f.fdiv 3).fmod 4)=some bad:=eb;have z1:T.length+1<=sizeLine:=a_6 (by omega);have z2:T.length+2<=sizeLine:=a_6 (by omega);unfold ELw at go;have tl:(T.map cmD).length=T.length:=zd ..;generalize T.map cmD=TT at Y go tl;generalize wkD w s z=WK at Z Y go;generalize ns.map D.int=NS at ec Y go;unfold ac7 bv9;simp[ec,es,Z,Y,o,eb,tl,z1,z2,go]
end Fx
namespace Fx
open PySem PySem.Spec PyProof.Rows L2
theorem U_8 {K:Frag}{H:Hp}:∀ ns:List Int,Reps K H (ns.map D.int) (ns.map V.int)
 |[]=>Reps.nil_
 |n::r=>Reps.cons (f_7 H n) (U_8 r)
inductive EntF (K:Frag) (x:Str) (st:Stmt) (f:Addr):Prop
 |mk {od an:Option Addr}{sl:Array (Option Value)}{oc kV dc pm cd ct:Value} (a:nsIn K mainGlobals x=some (some (.ref f))) (l:K.lookup f=some ⟨oc,od,.func (fnOf x x (w_4 st) (k_2 st) (a_2 st) .none kV dc pm an cd ct),sl⟩) (c:codeIn K cd x=true) (k:keepIn K (.ref f)=true):EntF K x st f
inductive EntI (K:Frag) (st:Stmt) (f:Addr):Prop
 |mk {od an:Option Addr}{sl:Array (Option Value)}{oc kV dc pm cd ct:Value} (l:K.lookup f=some ⟨oc,od,.func (fnOf "__init__" "NoPaper.__init__" (w_4 st) (k_2 st) (a_2 st) .none kV dc pm an cd ct),sl⟩) (c:codeIn K cd "NoPaper.__init__"=true) (k:keepIn K (.ref f)=true):EntI K st f
inductive EntC (K:Frag) (x:Str) (st:Stmt) (f:Addr) (P:Addr):Prop
 |mk {od an:Option Addr}{sl:Array (Option Value)}{oc kV dc pm ct:Value}{cL:Addr} (a:nsIn K mainGlobals x=some (some (.ref f))) (l:K.lookup f=some ⟨oc,od,.func (fnOf x x (w_4 st) (k_2 st) (a_2 st) .none kV dc pm an (.ref cL) ct),sl⟩) (c:codeIn K (.ref cL) x=true) (k:keepIn K (.ref f)=true) (h:PySem.W.codeHdIn K cL P=true):EntC K x st f P
theorem us0 {P:List Value->Prop} (h:P []) (us:List Value) (l:us.length=0):P us:=by
 cases us with
 |nil=>exact h
 |cons=>cases l
theorem usS {n:Nat}{P:List Value->Prop} (h:∀ a us,us.length=n->P (a::us)) (us:List Value) (l:us.length=n+1):P us:=by
 cases us with
 |nil=>cases l
 |cons a r=>exact h a r (Nat.succ.inj l)
theorem dn {K:Frag}{mg:Str->Option Value}{x:Str}{st:Stmt}{f:Addr}{ps:List Str} (N:∀ {x v},nsIn K mainGlobals x=some (some v)->mg x=some v) (e:EntF K x st f) (h:∀ (kV O Z:Value) (an:Option Addr) (Y ct:Value) (us:List Value),us.length=ps.length->bindArgs (fnOf x x (w_4 st) (k_2 st) (a_2 st) .none kV O Z an Y ct) ⟨us,[]⟩=pure (ps.zip us):=by intro _ _ _ _ _ _;(repeat' refine usS λ _=>?_);exact us0 rfl):Dn K mg x st ps:=by obtain⟨a,l,c,k⟩:=e;have F:=d_4 (st:=st) l c k;exact⟨_,_,F,F.binds h,N a⟩
theorem all_mk {l:OpenLaw}{w:World}{K:Frag}{h:Heap}{mg:Str → Option Value} (X:K.In h) (G:h.Ns mainGlobals mg) (ej:mg "law"=some (.ref fa))
  (e1:EntF K "is_key" I_5 f1)
  (e2:EntF K "keys_hold" r_3 f2)
  (e3:EntF K "keys_meet" f_6 f3)
  (e4:EntF K "keys_inside" I_3 f4)
  (e5:EntC K "keys_some" p_5 f5 59)
  (e6:EntF K "stretch_made" m_3 f6)
  (e7:EntF K "is_between" p_4 f7)
  (e8:EntF K "stretch_has" n_1 f8)
  (e9:EntF K "lower_bound" n_2 f9)
  (c8:EntF K "upper_bound" n_0 f10)
  (dh:EntF K "stretch_between" j_0 f11)
  (dz:EntF K "stretch_above" B_3 f12)
  (bx:EntF K "stretch_below" B_2 f13)
  (ce:EntF K "stretch_moved" g_9 f14)
  (df:EntF K "divisor_and_factor" g_7 f15)
  (bi:EntF K "stretch_back" m_4 f16)
  (cr:EntF K "stretch_meet" m_2 f17)
  (ed:EntF K "stretch_inside" A_1 f18)
  (cu:EntC K "nearest" H_9 f19 154)
  (bt:EntF K "stretch_some" v_9 f20)
  (dw:EntF K "box_made" u_0 f21)
  (a8:EntF K "box_has" ak4 f22)
  (d6:EntF K "box_meet" t_9 f23)
  (br:EntF K "box_inside" M_5 f24)
  (dy:EntF K "thing_box" P_0 f25)
  (d9:EntF K "box_some" ab0 f26)
  (da:EntF K "boxes_met" m_7 f27)
  (a3:EntF K "row_named" r_0 f28)
  (b8:EntF K "rows_below" q_7 f29)
  (dk:EntF K "chains_below" k_8 f30)
  (b0:EntF K "is_whole" K_9 f31)
  (ba:EntF K "is_time" aj9 f32)
  (cg:EntF K "is_thing_of" I_4 f33)
  (d3:EntF K "is_coming" G_5 f34)
  (cq:EntF K "first_marks" y_2 f35)
  (d8:EntF K "check_coming" x_0 f36)
  (co:EntF K "marked" ad3 f37)
  (c7:EntF K "marks_behind" w_6 f38)
  (eh:EntF K "things_of" s_7 f39)
  (d0:EntF K "chain_things" x_1 f40)
  (dc:EntF K "amount_of" G_6 f41)
  (bw:EntF K "sessions_of" r_4 f42)
  (c6:EntF K "session_cells" i_0 f43)
  (c2:EntF K "fold_cells" C_1 f44)
  (dp:EntF K "told_answer" H_7 f45)
  (ec:EntF K "key_box" aj8 f46)
  (di:EntF K "window_box" M_4 f47)
  (ei:EntF K "is_cell" ak3 f48)
  (bp:EntF K "check_cell" C_3 f49)
  (cv:EntF K "things_in" t_0 f50)
  (bc:EntF K "amount_in" t_6 f51)
  (cm:EntF K "values_beyond" A_9 f52)
  (a9:EntF K "turning_values" g_2 f53)
  (b7:EntF K "turning_boxes" s_6 f54)
  (du:EntF K "window_turning" A_0 f55)
  (bu:EntF K "session_turning" p_3 f56)
  (b2:EntF K "chain_turning" C_4 f57)
  (dq:EntF K "cell_rows" P_4 f58)
  (a7:EntF K "of_from" P_2 f59)
  (c9:EntF K "boxes_turn" C_5 f60)
  (db:EntF K "claims_turn" y_4 f61)
  (a4:EntF K "in_box" D_9 f62)
  (d4:EntF K "in_boxes" L_7 f63)
  (eg:EntF K "forth_boxes" y_1 f64)
  (bh:EntF K "is_claimed" q_8 f65)
  (dj:EntF K "row_is_right" k_6 f66)
  (b3:EntF K "check_paper" y_8 f67)
  (c3:EntF K "settled_paper" t_2 f68)
  (ef:EntF K "ways_back" j_8 f69)
  (d2:EntF K "back_coming" z_0 f70)
  (dm:EntF K "origins_of" p_0 f71)
  (d1:EntF K "often_enough" w_5 f72)
  (dv:EntF K "chain_comings" t_5 f73)
  (bj:EntF K "cell_turning" x_2 f74)
  (cl:EntF K "ways_to" O_9 f75)
  (dl:EntF K "mark_shutting" B_6 f76)
  (bq:EntF K "marks_shutting_chain" h_6 f77)
  (dg:EntF K "settles_at" B_5 f78)
  (cw:EntF K "_law_cell_at" n_4 f79)
  (cx:EntF K "_law_stream" C_0 f80)
  (bz:EntF K "_law_works" t_4 f81)
  (b1:EntF K "_law_good" x_5 f82)
  (cy:EntF K "_law_word" K_8 f83)
  (a2:EntF K "law" aa8 f84)
  (y1:nsIn K mainGlobals "LETTERS"=some (some (.str "abcdefghijklmnopqrstuvwxyz" tc1))) (y2:nsIn K mainGlobals "LONGEST"=some (some (.int 8 tc2))) (O:K.lookup ec31=some ⟨.type "tuple",none,.seq #[] nec31,slec31⟩) (Z:K.lookup ec3=some ⟨.type "tuple",none,.seq #[.str "but" tec30,.ref ec31] nec3,slec3⟩) (y3:nsIn K mainGlobals "EVERY_KEY"=some (some (.ref ec3))) (aj:K.lookup ec4=some ⟨.type "tuple",none,.seq #[.none,.none,.int 1 tec42,.int 0 tec43] nec4,slec4⟩) (y4:nsIn K mainGlobals "EVERY_VALUE"=some (some (.ref ec4))) (ar:K.lookup ec5=some ⟨.type "tuple",none,.seq #[.str "in" tec50,.str "time" tec51,.str "only" tec52,.str "but" tec53,.str "span" tec54,.str "rest" tec55,.str "turn" tec56,.str "later" tec57,.str "put" tec58,.str "pour" tec59] nec5,slec5⟩) (y5:nsIn K mainGlobals "CHAINS"=some (some (.ref ec5)))
  (as:nsIn K mainGlobals "NoPaper"=some (some (.ref u3)))
  (az:nsIn K mainGlobals "WellError"=some (some (.ref uW)))
  (ag:nsIn K mainGlobals "NoCell"=some (some (.ref u0)))
  (au:nsIn K mainGlobals "Late"=some (some (.ref u1)))
  (af:nsIn K mainGlobals "NoComing"=some (some (.ref u2)))
  (qi:PySem.W.findIn K (.ref u3) "__init__"=some (some (.ref uI)))
  (qI:EntI K ag7 uI)
  (q5:ap6 K u3 uI=true)
  (q6:clV K u3=true)
  (q7:PySem.W.findIn K (.ref u3) "__setattr__"=some (some (.builtin "object.__setattr__")))
  (q8:PySem.W.findIn K (.ref u3) "name"=some none)
  (q9:PySem.W.findIn K (.ref u3) "__getattribute__"=some (some (.builtin "BaseException.__getattribute__")))
  (be:PySem.W.findIn K (.ref u3) "__getattr__"=some none)
  (de:PySem.W.findIn K (.ref u3) "__class__"=some (some (.builtin "object.__class__")))
  (ad:PySem.W.mroIn K u3 (.type "object")=some true)
  (a6:PySem.W.mroIn K u3 (.type "BaseException")=some true)
  (am:PySem.W.specialIn K (.builtin "object.__class__") "__get__"=some (some (.builtin "getset_descriptor.__get__")))
  (ap:PySem.W.takesIn K (.builtin "object.__class__")=some true)
  (b4:PySem.W.exmOne K (.ref u3) (.ref uW)=some true)
  (bg:PySem.W.kitOne K (.ref u3) (.ref u3)=some true)
  (bf:PySem.W.kitOne K (.type "NoneType") (.ref u3)=some false)
  (x0:PySem.W.excIn K u0 bmV "ValueError.__new__"=true)
  (x1:PySem.W.excIn K u1 bmV "ValueError.__new__"=true)
  (x2:PySem.W.excIn K u2 bmV "ValueError.__new__"=true)
  (p9:PySem.W.findIn K (.ref u0) "__getattribute__"=some (some (.builtin "BaseException.__getattribute__")))
  (cc:PySem.W.findIn K (.ref u0) "__getattr__"=some none)
  (dx:PySem.W.findIn K (.ref u0) "__class__"=some (some (.builtin "object.__class__")))
  (ac:PySem.W.mroIn K u0 (.type "object")=some true)
  (ee:PySem.W.mroIn K u0 (.type "BaseException")=some true)
  (ae:PySem.W.exmOne K (.ref u0) (.ref u0)=some true)
  (ao:PySem.W.exmOne K (.ref u1) (.ref u0)=some false)
  (ax:PySem.W.exmOne K (.ref u1) (.ref u1)=some true)
  (ay:PySem.W.exmOne K (.ref u2) (.ref u0)=some false)
  (a0:PySem.W.exmOne K (.ref u2) (.ref u1)=some false)
  (aa:PySem.W.exmOne K (.ref u2) (.ref u2)=some true)
  (al:PySem.W.exmOne K (.ref u3) (.ref u0)=some false)
  (ah:PySem.W.exmOne K (.ref u3) (.ref u1)=some false)
  (Y:PySem.W.exmOne K (.ref u3) (.ref u2)=some false)
  (ak:PySem.W.exmOne K (.ref u3) (.ref u3)=some true)
  (tW:PySem.W.kitOne K (.ref u0) (.ref uW)=some true)
  (t1:PySem.W.kitOne K (.ref u0) (.ref u1)=some false)
  (t2:PySem.W.kitOne K (.ref u0) (.ref u2)=some false)
  (z1:nsIn K mainGlobals "abs"=some none) (z2:nsIn K mainGlobals "len"=some none) (z3:nsIn K mainGlobals "max"=some none) (z4:nsIn K mainGlobals "min"=some none) (z5:nsIn K mainGlobals "any"=some none) (z6:nsIn K mainGlobals "all"=some none) (z7:nsIn K mainGlobals "range"=some none) (z8:nsIn K mainGlobals "isinstance"=some none) (z9:nsIn K mainGlobals "int"=some none) (b9:nsIn K mainGlobals "bool"=some none) (c0:nsIn K mainGlobals "str"=some none) (dr:nsIn K mainGlobals "tuple"=some none) (ea:nsIn K mainGlobals "list"=some none) (bo:nsIn K mainGlobals "sorted"=some none) (dt:nsIn K mainGlobals "dict"=some none) (c4:nsIn K mainGlobals "set"=some none) (cf:nsIn K mainGlobals "sum"=some none) (eb:nsIn K mainGlobals "zip"=some none) (bv:nsIn K mainGlobals "enumerate"=some none) (cj:nsIn K mainGlobals "reversed"=some none) :
  ∃ fd:FuncData,(∀ (s:Shared) (v:Value),BindsTo s fd ⟨[v],[]⟩ [("_law_script",v)]) ∧ ∀ base:Heap,K.In base → base.Ns mainGlobals mg → FnOk l.prog w K mg base CX0 13 fa fd ["_law_script"] (spP K ac7):=by
 obtain⟨a5,l5,c5,k5,h5⟩:=e5;obtain⟨cb,cp,bn,cz,c1⟩:=cu;obtain @⟨em,av,ek,el,ai,aq,aw,an,a1,d5,d7,bd,cn⟩:=a2;have e:=ej.symm.trans (mg_of X G d5);cases e;obtain⟨li,ci,ki⟩:=qI;have FI:=d_4 (st:=ag7) li ci ki;have bI:=FI.binds (ps:=["self","name"]) λ _ _ _ _ _ _=>usS λ _=>usS λ _=>us0 rfl;have M:∀ {x},nsIn K mainGlobals x=some none->mg x=none:=mg_none_of X G;have N:∀ {x v},nsIn K mainGlobals x=some (some v)->mg x=some v:=mg_of X G;have T:Blt w K mg:=⟨M z1,M z2,M z3,M z4,M z5,M z6,M z7,M z8,M z9,M b9,M c0,M dr,M ea,M bo,M dt,M c4,M cf,M eb,M bv,M cj,⟨_,N y1⟩,⟨_,N y2⟩,⟨_,N y3,(aj6 Z (by simp) (g_8 t_3 (g_8 (aj6 O (by simp) P_9) P_9)))⟩,⟨_,N y4,(aj6 aj (by simp) (g_8 aR5 (g_8 aR5 (g_8 aR6 (g_8 aR6 P_9)))))⟩,⟨_,N y5,(aj6 ar (by simp) (g_8 t_3 (g_8 t_3 (g_8 t_3 (g_8 t_3 (g_8 t_3 (g_8 t_3 (g_8 t_3 (g_8 t_3 (g_8 t_3 (g_8 t_3 P_9)))))))))))⟩,⟨u3,uW,uI,_,u0,u1,u2,⟨N as,N az,q5,⟨q7,q8,bv6 q6⟩,⟨bv5 ad,q9,be,de,am,ap,ad,a6⟩,b4,bg,bf,FI,bI⟩,N ag,N au,N af,x0,x1,x2,⟨bv5 ac,p9,cc,dx,am,ap,ac,ee⟩,ae,ao,ax,ay,a0,aa,al,ah,Y,ak,tW,t1,t2⟩⟩;have F5:=d_4 (st:=p_5) l5 c5 k5;have b5:=F5.binds (ps:=["keys","others"]) λ _ _ _ _ _ _=>usS λ _=>usS λ _=>us0 rfl;have F19:=d_4 (st:=H_9) cp bn cz;have b6:=F19.binds (ps:=["values"]) λ _ _ _ _ _ _=>usS λ _=>us0 rfl;have F84:=d_4 (st:=aa8) d7 bd cn;refine⟨fnOf "law" "law" (w_4 aa8) (k_2 aa8) (a_2 aa8) .none ai aq aw av an a1,λ s v=>.of_eq rfl,λ base _ _=>?_⟩;have G1:=aL1 l.prog base T (dn N e1);have G2:DefOk l.prog w K mg base 1 _ e_8:=rfD (dn N e2) S02 T rf0;have G6:DefOk l.prog w K mg base 1 _ a_5:=rfD (dn N e6) S06 T rf0;have G7:DefOk l.prog w K mg base 1 _ p_6:=rfD (dn N e7) S07 T rf0;have G9:DefOk l.prog w K mg base 1 _ h_9:=rfD (dn N e9) S09 T rf0;have G10:DefOk l.prog w K mg base 1 _ e_9:=rfD (dn N c8) S0a T rf0;have G15:=s_9 l.prog base T (dn N df);have G21:DefOk l.prog w K mg base 1 _ a_9:=rfD (dn N dw) S0l T rf0;have G28:=V_6 l.prog base T (dn N a3);have G29:=ae0 l.prog base T (dn N b8);have G31:=ar9 l.prog base T (dn N b0);have G35:=X_3 l.prog base (w:=w) (dn N cq);have G37:=aL0 l.prog base T (dn N co);have G39:=al7 l.prog base T (dn N eh);have G41:=an3 l.prog base T (dn N dc);have G42:=W_8 l.prog base T (dn N bw);have G59:=aA9 l.prog base T (dn N a7);have G72:=P_7 l.prog base T (dn N d1);have G76:DefOk l.prog w K mg base 1 _ n_8:=rfD (dn N dl) S24 T rf0;have G79:DefOk l.prog w K mg base 1 _ f_0:=rfD (dn N cw) S27 T rf0;have G80:=ae3 l.prog base T (dn N cx);have G81:=al9 l.prog base T (dn N bz);have G82:=ar7 l.prog base T (dn N b1);have G8:DefOk l.prog w K mg base 2 _ y_5:=rfD (dn N e8) S08 T (rf1 G7 rf0);have G11:DefOk l.prog w K mg base 2 _ f_3:=rfD (dn N dh) S0b T (rf1 G9 (rf1 G6 (rf1 G10 rf0)));have G14:=D_0 l.prog base T G6 (dn N ce);have G16:=G_0 l.prog base T G6 G15 (dn N bi);have G25:DefOk l.prog w K mg base 2 _ u_1:=rfD (dn N dy) S0p T (rf1 G21 (rf1 G6 rf0));have G30:=Q_4 l.prog base T G29 (dn N dk);have G32:DefOk l.prog w K mg base 2 _ J_4:=rfD (dn N ba) S0w T (rf1 G31 rf0);have G40:=Q_5 l.prog base T G39 (dn N d0);have G43:=N_9 l.prog base T G41 G42 (dn N c6);have G45:DefOk l.prog w K mg base 2 _ z_6:=rfD (dn N dp) S19 T (rf1 G7 rf0);have G46:DefOk l.prog w K mg base 2 _ e_7:=rfD (dn N ec) S1a T (rf1 G21 rf0);have G58:DefOk l.prog w K mg base 2 _ e_5:=rfD (dn N dq) S1m T (rf1 G28 rf0);have G62:DefOk l.prog w K mg base 2 _ p_7:=rfD (dn N a4) S1q T (rf1 G21 (rf1 G6 rf0));have G5:=am8 l.prog base T F5 b5 (N a5) ⟨_,rfl,h5⟩;have G12:DefOk l.prog w K mg base 3 _ j_1:=rfD (dn N dz) S0c T (rf1 G11 rf0);have G13:DefOk l.prog w K mg base 3 _ i_3:=rfD (dn N bx) S0d T (rf1 G11 rf0);have G17:DefOk l.prog w K mg base 3 _ g_4:=rfD (dn N cr) S0h T (rf1 G16 (rf1 G11 (rf1 G14 rf0)));have G19:=aB2 l.prog base T F19 b6 (N cb) ⟨_,rfl,c1⟩;have G22:DefOk l.prog w K mg base 3 _ l_1:=rfD (dn N a8) S0m T (rf1 G2 (rf1 G8 rf0));have G33:DefOk l.prog w K mg base 3 _ z_7:=rfD (dn N cg) S0x T (rf1 G7 (rf1 G1 (rf1 G32 (rf1 G31 rf0))));have G44:=ae8 l.prog base T G43 (dn N c2);have G47:DefOk l.prog w K mg base 3 _ e_2:=rfD (dn N di) S1b T (rf1 G46 rf0);have G63:=as0 l.prog base T G62 (dn N d4);have G3b:=J_3 l.prog base T G2 (dn N e3);have G3:=W_0 l.prog base T G2 G3b (dn N e3);have G18:DefOk l.prog w K mg base 4 _ A_7:=rfD (dn N ed) S0i T (rf1 G17 rf0);have G20:=P_5 l.prog base T G19 G12 G13 (dn N bt);have G34:=am9 l.prog base T G33 G32 G28 (dn N d3);have G48:DefOk l.prog w K mg base 4 _ c_9:=rfD (dn N ei) S1c T (rf1 G1 (rf1 G31 (rf1 G47 rf0)))
 have G50:=al8 l.prog base T G22 (dn N cv);have G52:DefOk l.prog w K mg base 4 _ t_7:=rfD (dn N cm) S1g T (rf1 G12 (rf1 G13 rf0));have G64:=X_1 l.prog base T G63 (dn N eg);have G4:DefOk l.prog w K mg base 5 _ J_2:=rfD (dn N e4) S04 T (rf1 G3 rf0);have G23:DefOk l.prog w K mg base 5 _ f_5:=rfD (dn N d6) S0n T (rf1 G21 (rf1 G3 (rf1 G17 (rf1 G10 rf0))));have G26:DefOk l.prog w K mg base 5 _ s_2:=rfD (dn N d9) S0q T (rf1 G5 (rf1 G20 rf0));have G36:=Q_3 l.prog base T G34 (dn N d8);have G49:=ae9 l.prog base T G28 G48 (dn N bp);have G51:=an8 l.prog base T G41 G50 (dn N bc);have G53:=L_9 l.prog base T G12 G13 G11 G45 G52 (dn N a9);have G24:DefOk l.prog w K mg base 6 _ D_1:=rfD (dn N br) S0o T (rf1 G4 (rf1 G18 (rf1 G10 rf0)));have G27:=an0 l.prog base T G23 (dn N da);have G38:=Q_2 l.prog base (w:=w) G36 G35 G37 (dn N c7);have G54:=N_2 l.prog base T G21 G53 (dn N b7);have G69:=V_5 l.prog base T G23 G28 G62 (dn N ef);have G55:DefOk l.prog w K mg base 7 _ h_0:=rfD (dn N du) S1j T (rf1 G51 (rf1 G27 (rf1 G54 rf0)));have G56:=I_6 l.prog base T G50 G27 G44 G46 G54 (dn N bu);have G65:=ae6 l.prog base T G24 (dn N bh);have G70:=X_6 l.prog base T G28 G27 G63 G26 G25 G69 (dn N d2);have G71:DefOk l.prog w K mg base 7 _ h_4:=rfD (dn N dm) S1z T (rf1 G21 (rf1 G69 rf0));have G57:DefOk l.prog w K mg base 8 _ b_6:=rfD (dn N b2) S1l T (rf1 G56 (rf1 G47 (rf1 G55 rf0)));have G66:=P_6 l.prog base T G63 G65 (dn N dj);have G75:=aA8 l.prog base T G35 G21 G64 G71 (dn N cl);have G60:=af0 l.prog base T G58 G57 G49 (dn N c9);have G73:=O_0 l.prog base T G57 G26 G70 G72 (dn N dv);have G77:=z_5 l.prog base T G57 G76 G75 (dn N bq);have G61:=X_4 l.prog base T G58 G60 G40 G59 (dn N db);have G74:=Q_8 l.prog base (w:=w) G58 G49 G40 G59 G38 G64 G73 (dn N bj);have G78:=ad8 l.prog base T G28 G58 G49 G40 G59 G38 G77 (dn N dg);have G67:=X_5 l.prog base T G49 G30 G61 G38 G66 (dn N b3);have G68:=N_4 l.prog base (w:=w) G49 G30 G61 G38 G64 (dn N c3);have G83:=ar6 l.prog base T G60 G74 G67 G68 G78 (dn N cy);exact bs4 l.prog base T G79 G82 G80 G83 G81 F84
theorem tab_or {p:Addr}{q:Str} (h:(p,q)∈L2.Tabs):(p=59 ∧ q="keys_some.<locals>.<lambda>") ∨ (p=154 ∧ q="nearest.<locals>.<lambda>"):=by unfold L2.Tabs at h;simpa only [zl,zg,yf,Ql] using h
theorem walk {l:OpenLaw}{q:Program}{O:List Str}{XP:(Str->Option Value)->Heap->Prop}{Z:World->Heap->Prop}{d:DefRec}{K:Params->Frag} (hn:l.most=some 63) (aa:d.params.defaults=[])
  (hY:∀ (w:World) (h:Heap),Z w h->(K w.params).In h) (ac:∀ p q,(p,q)∈L2.Tabs->∀ (w:World) (h:Heap),Z w h->h.get? p=some (PySem.W.tabObj #[])) (Y:∀ p q,(p,q)∈L2.Tabs->∀ w:World,(K w.params).lookup p=none) (hC:∀ p q,(p,q)∈L2.Tabs->∀ w:World,∃ c,PySem.W.codeHdIn (K w.params) c p=true)
  (F:∀ (w:World) (mg:Str->Option Value) (fa:Addr) (h:Heap),(K w.params).In h->h.Ns mainGlobals mg->mg d.name=some (.ref fa) ->
   ∃ fd:FuncData,(∀ (s:Shared) (u:Value),BindsTo s fd ⟨[u],[]⟩ [("_law_script",u)]) ∧ ∀ base:Heap,(K w.params).In base → base.Ns mainGlobals mg → FnOk l.prog w (K w.params) mg base CX0 13 fa fd ["_law_script"] (spP (K w.params) ac7)) :
  PySem.W.WalkO q O XP Z l.row.toRowW d [] (λ f vs=>PySem.call f vs) :=
 L2.walk_of2 (n:=63) (k:=13) (x:="_law_script") (CX:=λ _=>CX0) (sp:=λ w=>spP (K w.params) ac7) hn (by decide) aa ⟨rfl,by decide,by decide⟩ (λ p q h=>by rcases tab_or h with ⟨rfl,rfl⟩ | ⟨rfl,rfl⟩ <;> rfl) hY ac Y hC F
  (λ w H a ns hl hS=>⟨H,[.lst (ns.map .int)],.bl true,Same.refl _,Reps.one (by unfold Rep;exact⟨a,_,rfl,hS,U_8 ns⟩),law_true ns hl,λ v Hi' H' S r=>by unfold Rep at r;exact r⟩) λ _ _ _ _ _ z=>z
end Fx
open PySem PySem.W PyProof.Rows
namespace PySem.W.Fast
def tw3567872736578725692:=Nat
def tw14151537012593013445:=Nat
def tw12083026931807075730:=Nat
def tw12496617247554405849:=Nat
def tw6673521728109791114:=Nat
def tw17653052718089688189:=Nat
def tw14940007007404555527:=Nat
def tw4304641269562158932:=Nat
def tw7110774668487603799:=Nat
def tw16238272560816994408:=Nat
def tw16987565242758563396:=Nat
def tw10274525754957157718:=Nat
def tw16598326367449291704:=Nat
def tw10896259107018025521:=Nat
def tw4130748601978858319:=Nat
def tw1898044641609062907:=Nat
def tw10920019424154061172:=Nat
def tw386442824549949253:=Nat
def tw13560697597800306888:=Nat
def tw9101344730136716794:=Nat
def tw9602201081040545404:=Nat
def tw10704550697405081525:=Nat
def tw8974565845402577943:=Nat
def tw58719553717740988:=Nat
def tw9177797620968711684:=Nat
def tw13373005019444670777:=Nat
def tw5894211589404354126:=Nat
def tw15181657383575072398:=Nat
def tw7829505080393900467:=Nat
def tw1240990715052443376:=Nat
def tw4702529788965436864:=Nat
def tw12070833344286850131:=Nat
def tw9769556952185321738:=Nat
def tw16958663508237703417:=Nat
def tw16893767650237745248:=Nat
def tw936031828559666064:=Nat
def tw3825256614502261849:=Nat
def tw1893823258339782730:=Nat
def tw2599777754846567236:=Nat
def tw2579823648824741040:=Nat
def tw2773487977850106121:=Nat
def tw16263763308005332047:=Nat
def tw10677721895278606133:=Nat
def tw16217564069132022621:=Nat
def tw18277083024274653092:=Nat
def tw2838956050788525566:=Nat
def tw882788961950521430:=Nat
def tw7697897429416877106:=Nat
def tw11041149935277087650:=Nat
def tw6514792117693930852:=Nat
def tw1270954102555648560:=Nat
def tw12697753440684339419:=Nat
def tw14162646808516633316:=Nat
def tw10046781258197945230:=Nat
def tw9378467019943505138:=Nat
def tw17754300463877405458:=Nat
def tw16730620345785910259:=Nat
def tw13988187899628078067:=Nat
def tw10887184800143044357:=Nat
def tw243290201664571180:=Nat
def tw5811539922419759496:=Nat
def tw2557735597242537159:=Nat
def tw15902788622375239386:=Nat
def tw11704241345027363455:=Nat
def tw5966038939704054538:=Nat
def tw6676395613978888169:=Nat
def tw15683375940844474626:=Nat
def tw13205701825703876521:=Nat
def tw10094197367393782197:=Nat
def tw1651117835083396841:=Nat
def tw14178301563690281606:=Nat
def tw6904448025348158114:=Nat
def tw299181819118026037:=Nat
def tw10687721008110548192:=Nat
def tw6104259600571818158:=Nat
def tw12007994314031339230:=Nat
def tw8185489474785005482:=Nat
def tw12184989710717259862:=Nat
def tw172494565397898715:=Nat
def tw11800589309191686491:=Nat
def tw16385297077074918415:=Nat
def tw2699991069459144175:=Nat
def tw17194433509952453190:=Nat
def tw11311959974160064805:=Nat
def tw17531784857769353541:=Nat
def tw13090748781998515406:=Nat
def tw16965355434607467076:=Nat
def tw15072933635716442545:=Nat
def tw1909913975284196060:=Nat
def tw9466061340348742330:=Nat
def tw14652342874594175256:=Nat
def tw16734250395992925255:=Nat
def tw3891851081459834689:=Nat
def tw5200839869152660816:=Nat
def tw12161671576334724240:=Nat
def tw18212060070083658202:=Nat
def tw1895206372016388811:=Nat
def tw17305223559698915749:=Nat
def tw8186540434736353531:=Nat
def tw13018433609590587341:=Nat
def tw8010230371481757031:=Nat
def tw3592187015584492933:=Nat
def tw4099042237169319919:=Nat
def tw15760704147712600454:=Nat
def tw13221573780242025201:=Nat
def tw400515534824479244:=Nat
def tw7991993642059304742:=Nat
def tw13762928219375728066:=Nat
def tw2100669200298380039:=Nat
def tw3531013424096848649:=Nat
def tw6273653520469739882:=Nat
def tw7379175610373925699:=Nat
def tw9949515661769535000:=Nat
def tw10760093469991239034:=Nat
def tw976438883299165734:=Nat
def tw6818752257287647909:=Nat
def tw12798986375177682517:=Nat
def tw9682000105158397989:=Nat
def tw7451136784152059327:=Nat
def tw6719153401393726777:=Nat
def tw6007150289083505396:=Nat
def tw6782150436490418367:=Nat
def tw15718749054996815179:=Nat
def tw7003523839969666145:=Nat
def tw16669510864257199516:=Nat
def tw15434625415500740075:=Nat
def tw3108438617073468394:=Nat
def tw4327963091617362971:=Nat
def tw10384137132031545288:=Nat
def tw11026979534875974125:=Nat
def tw12547663166731943077:=Nat
def tw11592909360907730208:=Nat
def tw17378006863466031608:=Nat
def tw6636057421497647709:=Nat
def tw13387820729623099733:=Nat
def tw1514719763328802225:=Nat
def tw8370238452836022337:=Nat
def tw9988912754582732740:=Nat
def tw14070015236202809884:=Nat
def tw7127906974452332380:=Nat
def tw12029946422080456926:=Nat
def tw1801159433482210665:=Nat
def tw17420836801273722694:=Nat
def tw17442688342640571401:=Nat
def tw13401385983848929951:=Nat
def tw3503917053393719523:=Nat
def tw9438820362795040777:=Nat
def tw11770715466465664260:=Nat
def tw438299524179700344:=Nat
def tw5911381299807687873:=Nat
def tw15012965054690127075:=Nat
def tw1171989922194531842:=Nat
def tw17593536239393254540:=Nat
def tw6663984799310658684:=Nat
def tw3008921368711157947:=Nat
def tw10941112119848080455:=Nat
def tw215133321389847397:=Nat
def tw1176834272007003164:=Nat
def tw10760538023763367339:=Nat
def tw17391139297715114749:=Nat
def tw8693642790254800534:=Nat
def tw11654395053558943054:=Nat
def tw9797559137727310189:=Nat
def tw10611235788130845132:=Nat
def tw17165798531810412179:=Nat
def tw3446449330127306693:=Nat
def tw6486579449349789025:=Nat
def tw10809496169013646358:=Nat
def tw5326747969320915064:=Nat
def tw12624566293146573833:=Nat
def tw1971315699840937117:=Nat
def tw7373529335138245552:=Nat
def tw3881452898581161019:=Nat
def tw8717969873478485572:=Nat
def tw10283761073302141520:=Nat
def tw16758124530240261026:=Nat
def tw12292368194348694639:=Nat
def tw11581099083528506640:=Nat
def tw822069401655043590:=Nat
def tw9927012253922046969:=Nat
def tw16609249977204146411:=Nat
def tw12805224043775766811:=Nat
def tw13135625096262416061:=Nat
def tw3157873480400792290:=Nat
def tw8645971315893148478:=Nat
def tw9512146018963497375:=Nat
def tw4908279459337231360:=Nat
def tw9661280869613048055:=Nat
def tw11066037541661392726:=Nat
def tw2953814921767514849:=Nat
def tw822913816332058742:=Nat
def tw13951607105109520646:=Nat
def tw9736752416156186050:=Nat
def tw2535542995868723312:=Nat
def tw1908700406646911938:=Nat
def tw17341102740527592841:=Nat
def tw14815327590283723093:=Nat
def tw482247485038796494:=Nat
def tw15890509242274155115:=Nat
def tw7017131014947415326:=Nat
def tw16974457886374967946:=Nat
def tw7665353363538309527:=Nat
def tw15981683538342642657:=Nat
def tw18177264301688738052:=Nat
def tw3289200616853276849:=Nat
def tw8109461649846944693:=Nat
def tw4681148224018102073:=Nat
def tw2821452522565009684:=Nat
def tw12529504288345534259:=Nat
def tw12836360028523664264:=Nat
def tw12733464909345481858:=Nat
def tw8330696833298243724:=Nat
def tw5866849638334019904:=Nat
def tw12853113469423887836:=Nat
def tw13918963907054872402:=Nat
def tw4157844754949931118:=Nat
def tw5831406871163447137:=Nat
def tw7883113841423491838:=Nat
def tw1137393023768384288:=Nat
def tw11384295841635201111:=Nat
def tw541792279358977382:=Nat
def tw7099231295920099320:=Nat
def tw11989889960068227668:=Nat
def tw14469517219448578190:=Nat
def tw77493857394967478:=Nat
def tw14955439539466193792:=Nat
def tw14393988539212403284:=Nat
def tw8071349776783798973:=Nat
def tw5998204244154765586:=Nat
def tw8361669441047153215:=Nat
def tw2195126676583464644:=Nat
def tw17590773233766883943:=Nat
def tw11612650292390543231:=Nat
def tw14406327086323994749:=Nat
def tw14263265175521447156:=Nat
def tw10052595027529142339:=Nat
def tw13516277230511141253:=Nat
def tw7833671367936408515:=Nat
def tw15817422354016160690:=Nat
def tw14498806607249214163:=Nat
def tw486544575340133417:=Nat
def tw15099380193994453058:=Nat
def tw13097864986281003841:=Nat
def tw6000002050686151679:=Nat
def tw202845721866544868:=Nat
def tw1933823379495997421:=Nat
def tw4595058936332327535:=Nat
def tw17649719164976280036:=Nat
def tw9584893773570617931:=Nat
def tw15170391220494233363:=Nat
def tw11387579972823194948:=Nat
def tw9144585223984142503:=Nat
def tw17959002142363200173:=Nat
def tw4598220483058738177:=Nat
def tw4939369533007597497:=Nat
def tw7679247208559480015:=Nat
def tw4781316355926318569:=Nat
def tw13484426310222504627:=Nat
def tw6265755353994311823:=Nat
def tw312833790452804746:=Nat
def tw12167314601738732185:=Nat
def tw10111553912146998444:=Nat
def tw4624968231628489459:=Nat
def tw1763196568665656224:=Nat
def tw14622920781091506030:=Nat
def tw7251332550716204904:=Nat
def tw11376595273868382913:=Nat
def tw14566294254917507180:=Nat
def tw12073915763627642668:=Nat
def tw6319662590578724760:=Nat
def tw9764033357098150116:=Nat
def tw3115579701799763898:=Nat
def tw2443771874275395052:=Nat
def tw13171213049343582560:=Nat
def tw8003019582133832269:=Nat
def tw17884220048156024311:=Nat
def tw873038626151509194:=Nat
def tw5444299735663882979:=Nat
def tw10433532394420235546:=Nat
def tw6817347525040609355:=Nat
def tw8894875654912202276:=Nat
def tw5209701903911498673:=Nat
def tw2718623698404762117:=Nat
def tw10741430142288013110:=Nat
def tw6343819346213887804:=Nat
def tw17444549280454781837:=Nat
def tw10932975168024521556:=Nat
def tw6099717825998629423:=Nat
def tw6686750774624143581:=Nat
def tw3261386749499776165:=Nat
def tw11014484826137753086:=Nat
def tw33378918525112941:=Nat
def tw9365145560352392205:=Nat
def tw2967220370914985401:=Nat
def tw12261054715550392493:=Nat
def tw10541938752761925196:=Nat
def tw9845353728181652708:=Nat
def tw4836857156924181895:=Nat
def tw11869506704919925781:=Nat
def tw12409834832106075890:=Nat
def tw18208300243947207958:=Nat
def tw7290029552898186797:=Nat
def tw3396915521582718781:=Nat
def tw15050692515531747285:=Nat
def tw116572887069454942:=Nat
def tw18143892094836624504:=Nat
def tw5589778819098723871:=Nat
def tw4560620553759039536:=Nat
def tw15690921065944503909:=Nat
def tw8370684974630184409:=Nat
def tw2852018731297850977:=Nat
def tw2592360724629222084:=Nat
def tw329034079462557390:=Nat
def tw5763123100621208282:=Nat
def tw4960732447687614480:=Nat
def tw8679481410811227659:=Nat
def tw8178284295284681390:=Nat
def tw4583081283091150517:=Nat
def tw3076634073292922426:=Nat
def tw2946597268212541169:=Nat
def tw15332323719516676217:=Nat
def tw1528123318773316772:=Nat
def tw15109055543718594507:=Nat
def tw14882196711025613235:=Nat
def tw14699134178774105796:=Nat
def tw14648639898737622186:=Nat
def tw13297972618782424523:=Nat
def tw12048084575664215397:=Nat
def tw16354708316284596337:=Nat
def tw5622327912670967294:=Nat
def tw3482789668345787018:=Nat
def tw10472813008919538966:=Nat
def tw2457107340080750154:=Nat
def tw16809796824967765734:=Nat
def tw17374259537931370218:=Nat
def tw8498806767506937160:=Nat
def tw16968592747374058968:=Nat
def tw958799270673569952:=Nat
def tw8827277614062668316:=Nat
def tw8460095879296421090:=Nat
end PySem.W.Fast
set_option maxRecDepth 100000 in
set_option maxHeartbeats 0 in
theorem PySem.Challenge.cw_latewell_k56_no_such_cell_holds : PySem.Challenge.rw_latewell_k56_no_such_cell.Holds := by
 w_on;o_law;k_head;(case hw=>w_witness2)
 k_fill
 refine Fx.walk (l:=PySem.Challenge.rw_latewell_k56_no_such_cell) rfl rfl (λ w h Y=>PySem.W.km_in_of Y) (λ p q h=>by rcases Fx.tab_or h with ⟨rfl,_⟩ | ⟨rfl,_⟩;exact (λ w h Y=>PySem.W.km_tabs_of Y _ (by simp));exact (λ w h Y=>PySem.W.km_tabs_of Y _ (by simp))) (λ p q h=>by rcases Fx.tab_or h with ⟨rfl,_⟩ | ⟨rfl,_⟩;exact (λ w=>by kernel_rfl);exact (λ w=>by kernel_rfl)) (λ p q h=>by rcases Fx.tab_or h with ⟨rfl,_⟩ | ⟨rfl,_⟩;exact (λ w=>⟨61,by kernel_rfl⟩);exact (λ w=>⟨158,by kernel_rfl⟩)) ?F
 case F =>
  intro w mg fa h KX G hmg;refine' Fx.all_mk KX G hmg ?e1 ?e2 ?e3 ?e4 ?e5 ?e6 ?e7 ?e8 ?e9 ?e10 ?e11 ?e12 ?e13 ?e14 ?e15 ?e16 ?e17 ?e18 ?e19 ?e20 ?e21 ?e22 ?e23 ?e24 ?e25 ?e26 ?e27 ?e28 ?e29 ?e30 ?e31 ?e32 ?e33 ?e34 ?e35 ?e36 ?e37 ?e38 ?e39 ?e40 ?e41 ?e42 ?e43 ?e44 ?e45 ?e46 ?e47 ?e48 ?e49 ?e50 ?e51 ?e52 ?e53 ?e54 ?e55 ?e56 ?e57 ?e58 ?e59 ?e60 ?e61 ?e62 ?e63 ?e64 ?e65 ?e66 ?e67 ?e68 ?e69 ?e70 ?e71 ?e72 ?e73 ?e74 ?e75 ?e76 ?e77 ?e78 ?e79 ?e80 ?e81 ?e82 ?e83 ?e84 ?y1 ?y2 ?lec31 ?lec3 ?y3 ?lec4 ?y4 ?lec5 ?y5 ?q_u3 ?q_uW ?q_u0 ?q_u1 ?q_u2 ?qi ?qI ?q5 ?q6 ?q7 ?q8 ?q9 ?q10 ?q11 ?q14 ?q15 ?q12 ?q13 ?q16 ?q17 ?q18 ?x0 ?x1 ?x2 ?p9 ?p10 ?p11 ?p14 ?p15 ?e_00 ?e_10 ?e_11 ?e_20 ?e_21 ?e_22 ?e_30 ?e_31 ?e_32 ?e_33 ?tW ?t1 ?t2 ?z1 ?z2 ?z3 ?z4 ?z5 ?z6 ?z7 ?z8 ?z9 ?z10 ?z11 ?z12 ?z13 ?z14 ?z15 ?z16 ?z17 ?z18 ?z19 ?z20
  (case e5=>refine' Fx.EntC.mk ?a ?l ?c ?k ?h;(case a=>k_is);(case l=>k_is);(case c=>k_is);(case k=>k_is);(case h=>kernel_rfl))
  (case e19=>refine' Fx.EntC.mk ?a ?l ?c ?k ?h;(case a=>k_is);(case l=>k_is);(case c=>k_is);(case k=>k_is);(case h=>kernel_rfl))
  all_goals try (refine' Fx.EntF.mk ?a ?l ?c ?k;(case a=>k_is);(case l=>k_is);(case c=>k_is);(case k=>k_is))
  (case y1 | y2 | y3 | y4 | y5 | lec3 | lec4 | lec5 | lec31 | q_u3 | q_uW | q_u0 | q_u1 | q_u2 | qi=>k_is)
  (case qI=>refine' Fx.EntI.mk ?l ?c ?k;(case l=>k_is);(case c=>k_is);(case k=>k_is))
  (case q5=>kernel_rfl)
  (case q6=>kernel_rfl)
  (case q7 | q8 | q9 | q10 | q11 | q14 | q15 | q12 | q13=>k_is)
  (case q16=>kts_exm)
  (case q17=>kit_is)
  (case q18=>kit_is)
  (case x0=>k_exc)
  (case x1=>k_exc)
  (case x2=>k_exc)
  (case p9 | p10 | p11 | p14 | p15=>k_is)
  (case e_00=>kts_exm)
  (case e_10=>kts_exm)
  (case e_11=>kts_exm)
  (case e_20=>kts_exm)
  (case e_21=>kts_exm)
  (case e_22=>kts_exm)
  (case e_30=>kts_exm)
  (case e_31=>kts_exm)
  (case e_32=>kts_exm)
  (case e_33=>kts_exm)
  (case tW=>kit_is)
  (case t1=>kit_is)
  (case t2=>kit_is)
  (case z1 | z2 | z3 | z4 | z5 | z6 | z7 | z8 | z9 | z10 | z11 | z12 | z13 | z14 | z15 | z16 | z17 | z18 | z19 | z20=>k_is)

